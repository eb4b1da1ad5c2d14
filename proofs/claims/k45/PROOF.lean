import PyProof.Rows.All
import Wide.All
import OpenK.AllK
import Wide.FinOn
import Lean
import PyProof.EqAt
import PyProof.EqKinds
import PyProof.NeKinds
import PyProof.TupleCall
import KE.KDictSum
import KE.KSortTup
import KE.KLam
import KE.KNestM
import PyProof.DictItems
import PyProof.DictValues
import PyProof.Rows.TupDisplay
import KE.KItemsList
import KE.KDictOf
import PyProof.AttrMissHeap
import PySem.Challenge.RW_stintwise_k45_whole_papers_never_tell_to
set_option Elab.async false
set_option linter.all false
set_option maxRecDepth 100000
namespace PySem.W.Fast
def tw5785606096370720892:=()
def tw2691900501519858336:=()
def tw1077623456221653080:=()
def tw5038639491367943653:=()
def tw6297781578137410726:=()
def tw328574391743539896:=()
def tw1290290248537648151:=()
def tw10176022082076024172:=()
def tw15117902508513251321:=()
def tw14380777056605269529:=()
def tw10695754595394552006:=()
def tw13625666236996692727:=()
def tw14076704037638561322:=()
def tw2387938773328825225:=()
def tw4670828552669754329:=()
def tw2360564578844717764:=()
def tw16760452238873830837:=()
def tw6301328035634159436:=()
def tw15276421370959215477:=()
def tw13552991435503945449:=()
def tw3553444092246137892:=()
def tw10964751427526183552:=()
def tw6767975145010490356:=()
def tw9621464617006835148:=()
def tw536662300246110483:=()
def tw9348069083447510549:=()
def tw1101729983380278087:=()
def tw1369050850174281584:=()
def tw3293911856501378117:=()
def tw5559534121838172405:=()
def tw8810687413042079000:=()
def tw17487973352047909077:=()
def tw6399466113279790796:=()
def tw9407019087211581970:=()
def tw3088447490492474091:=()
def tw13007824298437168642:=()
def tw13323979046105739064:=()
def tw75111700216058456:=()
def tw9471063627079384299:=()
def tw11782643323686411638:=()
def tw13967348872588206248:=()
def tw6750031182316289809:=()
def tw13039850136847272432:=()
def tw12096729870379784773:=()
def tw4914165323209381065:=()
def tw11858722273825454346:=()
def tw2968722813456063461:=()
def tw1489434541518161197:=()
def tw11624170149218586874:=()
def tw16517207904220145369:=()
def tw8723172194423885963:=()
def tw1208366173922873431:=()
def tw1110872984995816711:=()
def tw2362761942016183303:=()
def tw12816463056793323981:=()
def tw11017005319344324036:=()
def tw4133736002866557716:=()
def tw3946223773365665195:=()
def tw15421929995012461226:=()
def tw9010999735784256937:=()
def tw12129636489887357045:=()
def tw8737605842130465850:=()
def tw5676744984231574468:=()
def tw3682280003057292451:=()
def tw8009308401116793379:=()
def tw4858984733641334790:=()
def tw2213336873262871573:=()
def tw12291055481712421888:=()
def tw3010112439524226708:=()
def tw1093708056195784079:=()
def tw7726647636970756322:=()
def tw11507102582491637428:=()
def tw8894454906496485977:=()
def tw6582884338161873872:=()
def tw2875927227803138989:=()
def tw6667897862728763541:=()
def tw3065558971782885588:=()
def tw14128258920141336232:=()
def tw7058716414260993749:=()
def tw15547116860148772273:=()
def tw2190648181948153540:=()
def tw12303790090741149083:=()
def tw10157598029768158117:=()
def tw670473635061395735:=()
def tw17244697769726333401:=()
def tw18269244640092855371:=()
def tw12778596916444493001:=()
def tw2952261980599979282:=()
def tw11303669026137953473:=()
def tw15438571199437330518:=()
def tw7035998817720300531:=()
def tw13142052186221745034:=()
def tw4236062747792887823:=()
def tw5558888265859309105:=()
def tw7747529753500230197:=()
def tw11667455172070200819:=()
def tw5475727389135806019:=()
def tw1012702210951688468:=()
def tw16591468166344748939:=()
def tw5858068459391165340:=()
def tw3422336464095453972:=()
def tw1666244233987133866:=()
def tw8381303698867799735:=()
def tw6317847810749162138:=()
def tw17601003779471542706:=()
def tw5287432709875573763:=()
def tw18263503816682292289:=()
def tw5832760944156163646:=()
def tw10413198816604439928:=()
def tw17689057894441260436:=()
def tw6612108231216241364:=()
def tw18087009699898241339:=()
def tw8661868472189834522:=()
def tw10304304229995171785:=()
def tw6567537016018710853:=()
def tw8167315810969638775:=()
def tw17650563354324082524:=()
def tw13602842204982067567:=()
def tw8116283791703006106:=()
def tw16000944512538417717:=()
def tw15448428799258289211:=()
def tw3973920726737133470:=()
def tw16552201024053474567:=()
def tw2953172702021759228:=()
def tw15291714275883703649:=()
def tw7981736310085250093:=()
def tw8515482346625155959:=()
def tw7643244593671087501:=()
def tw14405594897861337882:=()
def tw7499575759955993030:=()
def tw2390961720662188806:=()
def tw10671225787248291837:=()
def tw12000917178461326302:=()
def tw653195768003869157:=()
def tw13105551320556934675:=()
def tw4424874467835747767:=()
def tw14410176809545625732:=()
def tw6833930632962863754:=()
def tw9052465106637218515:=()
def tw8726902116896232308:=()
def tw17543823238138502973:=()
def tw3328932215563869898:=()
def tw6333899654349387508:=()
def tw7232038441986473201:=()
def tw4242079251352094280:=()
def tw9984346540072968325:=()
def tw133725805302671332:=()
def tw10656379383413475561:=()
def tw804063914389841065:=()
def tw10966222473175178135:=()
def tw17210004057572805038:=()
def tw17701154349910856354:=()
def tw15994479217805094184:=()
def tw2674281417822064876:=()
def tw5384748444456228931:=()
def tw18030417154471730241:=()
def tw16743754171973185319:=()
def tw16447880746674169164:=()
def tw12045326332683145564:=()
def tw133708816851666383:=()
def tw13825650637357390458:=()
def tw6198678791174676734:=()
def tw16867725936500540424:=()
def tw6494681947124469334:=()
def tw4165179575319978477:=()
def tw17307273783674819273:=()
def tw14855278106714181244:=()
def tw11827356100151554194:=()
def tw7432071047123347490:=()
def tw5305348895527610188:=()
def tw10038247937515073579:=()
def tw10820634305290292498:=()
def tw2187535381656742868:=()
def tw1787130354116918876:=()
def tw10201227929932695582:=()
def tw6648632058486283859:=()
def tw6525412293780946066:=()
def tw14697872147602324373:=()
def tw12778247526731089734:=()
def tw10016723910979294531:=()
def tw14073269193246191485:=()
def tw6383270095645804838:=()
def tw15713516343848427263:=()
def tw14455489335483546367:=()
def tw6671768137890579964:=()
def tw4745332979922770627:=()
def tw3577947795034702259:=()
def tw5315435711010491126:=()
def tw17784439438545490665:=()
def tw12399264467377146796:=()
def tw8093562532015468459:=()
def tw2928317403748975495:=()
def tw2549436648180418486:=()
def tw17797259855209331261:=()
def tw2704079496572115902:=()
def tw16876530530826496771:=()
def tw7494543056868290580:=()
def tw2904582810684856323:=()
def tw2364885866485794172:=()
def tw10288646133995527936:=()
def tw9992072737961531596:=()
def tw3326992197449914082:=()
def tw14296023340230930667:=()
def tw2830738799858502302:=()
def tw13980086058279180557:=()
def tw8717510310456532060:=()
def tw1802345513244820045:=()
def tw1019080642279635152:=()
def tw1744383056680256830:=()
def tw13541417811317605549:=()
def tw8460558402987769387:=()
def tw13916884701391129269:=()
def tw6690628594121104475:=()
def tw15176272446277976072:=()
def tw7545417630536720918:=()
def tw7316860122283982301:=()
def tw5777732151935017891:=()
def tw5533997973085377250:=()
def tw14561457770357346366:=()
def tw10760322748437603168:=()
def tw8768042885962093877:=()
def tw7788456729743797455:=()
def tw7437733809942030888:=()
def tw10087439138786113781:=()
def tw6276412576396644858:=()
def tw14819338076083472073:=()
def tw4779156220995422573:=()
def tw7421554209804580151:=()
def tw5430679667795912055:=()
def tw6829822941926609779:=()
def tw4459341506855772471:=()
def tw4264774524235151455:=()
def tw2823612793067445016:=()
def tw13953032387760061168:=()
def tw6184375321294045874:=()
def tw7186332715388871021:=()
def tw1761102650130910364:=()
def tw4016091425316935810:=()
def tw12740464399219128712:=()
def tw5581923365884990214:=()
def tw2812305658966271753:=()
def tw16771308981099170398:=()
def tw13091731682829338477:=()
def tw18385551795768843224:=()
def tw1669588874150698516:=()
end PySem.W.Fast
set_option maxHeartbeats 0
namespace L2
open PySem PySem.Spec PyProof.Rows
abbrev Key:=Sum Int Str
def aCi:Key->Value->Bool
 |.inl k,v=>Value.isInt k v
 |.inr x,v=>Value.isStrOf x v
def aNa(w:World):Key->Int
 |.inl k=>hashInt k
 |.inr x=>hashStr w x
theorem dE:∀{k:Key}{v:Value},aCi k v=true->(∃i t,k=Sum.inl i/\v=Value.int i t)\/(∃x t,k=Sum.inr x/\v=Value.str x t)
 |.inl i,v,h=>by
  obtain⟨t,e⟩:=Value.isInt_shape (k:=i) (v:=v) h
  exact .inl ⟨i,t,rfl,e⟩
 |.inr x,v,h=>by
  obtain⟨t,e⟩:=Value.isStrOf_shape (x:=x) (v:=v) h
  exact .inr ⟨x,t,rfl,e⟩
theorem aGQ(i:Int)(t:Tok):aCi (.inl i) (.int i t)=true:=by simp[aCi,Value.isInt]
theorem aGR(x:Str)(t:Tok):aCi (.inr x) (.str x t)=true:=by simp[aCi,Value.isStrOf]
theorem aKI(a b:Int):decide ((Sum.inl a:Key)=Sum.inl b)=(a == b):=by
 by_cases e:a=b
 ·subst e;simp
 ·have h:¬(Sum.inl a:Key)=Sum.inl b:=fun q=>e (Sum.inl.inj q)
  rw[decide_eq_false h]
  exact(beq_eq_false_iff_ne.mpr e).symm
theorem aKJ(a b:Str):decide ((Sum.inr a:Key)=Sum.inr b)=decide (a=b):=by
 by_cases e:a=b
 ·subst e;simp
 ·have h:¬(Sum.inr a:Key)=Sum.inr b:=fun q=>e (Sum.inr.inj q)
  rw[decide_eq_false h,decide_eq_false e]
theorem aKK(a:Int)(b:Str):decide ((Sum.inl a:Key)=Sum.inr b)=false:=decide_eq_false (fun q=>nomatch q)
theorem aKL(a:Str)(b:Int):decide ((Sum.inr a:Key)=Sum.inl b)=false:=decide_eq_false (fun q=>nomatch q)
def bN(prog:Program)(w:World):PySem.KeyKind prog w Key where
 is:=aCi
 hash:=aNa w
 inj:=fun v a b ha hb=>by
  rcases dE ha with ⟨i,t,rfl,rfl⟩|⟨x,t,rfl,rfl⟩
  ·rcases dE hb with ⟨j,u,rfl,e⟩|⟨y,u,rfl,e⟩
   ·injection e with e1 _;rw[e1]
   ·exact nomatch e
  ·rcases dE hb with ⟨j,u,rfl,e⟩|⟨y,u,rfl,e⟩
   ·exact nomatch e
   ·injection e with e1 _;rw[e1]
 byValue:=fun k v h=>by
  rcases dE h with ⟨i,t,rfl,rfl⟩|⟨x,t,rfl,rfl⟩ <;> rfl
 pyHash:=fun hv h=>by
  rcases dE hv with ⟨i,t,rfl,rfl⟩|⟨x,t,rfl,rfl⟩
  ·exact wpAny_pyHash_int h
  ·exact wpAny_pyHash_str h
 eqBool:=fun hu hv h=>by
  rcases dE hu with ⟨i,t,rfl,rfl⟩|⟨x,t,rfl,rfl⟩
  ·rcases dE hv with ⟨j,u,rfl,rfl⟩|⟨y,u,rfl,rfl⟩
   ·rw[aKI] at h;exact wpAny_eqBool_int h
   ·rw[aKK] at h;exact SeqAt.EqAt.int_str i t y u _ _ _ _ h
  ·rcases dE hv with ⟨j,u,rfl,rfl⟩|⟨y,u,rfl,rfl⟩
   ·rw[aKL] at h;exact SeqAt.EqAt.str_int x t j u _ _ _ _ h
   ·rw[aKJ] at h;exact wpAny_eqBool_str h
 «strs»:=fun k x t v h=>by
  rcases dE h with ⟨i,u,rfl,e⟩|⟨y,u,rfl,e⟩
  ·exact nomatch e
  ·injection e with e1 _
   subst e1
   cases v <;> rfl
theorem aD6(prog:Program)(w:World)(i:Int)(t:Tok):(bN prog w).is (.inl i) (.int i t)=true:=aGQ i t
theorem aD7(prog:Program)(w:World)(x:Str)(t:Tok):(bN prog w).is (.inr x) (.str x t)=true:=aGR x t
end L2
namespace L2
open PySem PySem.Spec PyProof.Rows
inductive V where
 |non|bl (b:Bool)|int (i:Int)|str (x:Str)|byt (b:Array UInt8)|flt (b:UInt64)|ref (a:Addr)|ty (n:String)
 deriving DecidableEq
def RelV:V->Value->Prop
 |.non,u=>u=Value.none
 |.bl b,u=>u=Value.bool b
 |.int i,u=>∃t,u=Value.int i t
 |.str x,u=>∃t,u=Value.str x t
 |.byt b,u=>∃t,u=Value.bytes b t
 |.flt b,u=>∃t,u=Value.float b t
 |.ref a,u=>u=Value.ref a
 |.ty n,u=>u=Value.type n
abbrev Vals:List V->List Value->Prop:=Paired RelV
theorem Vals.length{xs:List V}{us:List Value}(r:Vals xs us):xs.length=us.length:=Paired.length r
theorem Vals.get:∀{xs:List V}{us:List Value}{i:Nat}{x:V},Vals xs us->xs[i]?=some x->∃u,us[i]?=some u/\RelV x u
 |_,_,_,_,.nil,e=>by simp at e
 |_,_,0,_,.cons r _,e=>by simp at e;subst e;exact⟨_,rfl,r⟩
 |_,_,i+1,x,.cons _ t,e=>by
  obtain⟨u,h1,h2⟩:=Vals.get (i:=i) (x:=x) t (by simpa using e)
  exact⟨u,by simpa using h1,h2⟩
theorem Vals.set{x:V}{u:Value}(r:RelV x u):∀{xs:List V}{us:List Value}(i:Nat),Vals xs us->Vals (xs.set i x) (us.set i u)
 |_,_,_,.nil=>.nil
 |_,_,0,.cons _ t=>.cons r t
 |_,_,i+1,.cons q t=>.cons q (Vals.set r i t)
theorem Vals.append:∀{xs ys:List V}{us ws:List Value},Vals xs us->Vals ys ws->Vals (xs++ys) (us++ws)
 |_,_,_,_,.nil,s=>s
 |_,_,_,_,.cons r t,s=>.cons r (Vals.append t s)
theorem Vals.take:∀{xs:List V}{us:List Value}(n:Nat),Vals xs us->Vals (xs.take n) (us.take n)
 |_,_,0,_=>.nil
 |_,_,_+1,.nil=>.nil
 |_,_,n+1,.cons r t=>.cons r (Vals.take n t)
theorem Vals.drop:∀{xs:List V}{us:List Value}(n:Nat),Vals xs us->Vals (xs.drop n) (us.drop n)
 |_,_,0,r=>r
 |_,_,_+1,.nil=>.nil
 |_,_,n+1,.cons _ t=>Vals.drop n t
def rA:Option V->Option Value->Prop
 |some v,some u=>RelV v u
 |none,none=>True
 |_,_=>False
def KV{κ:Type}:List (κ×V)->List (κ×Value)->Prop:=Paired fun(p:κ×V) (q:κ×Value)=>p.1=q.1/\RelV p.2 q.2
def kV:Key->V
 |.inl i=>.int i
 |.inr x=>.str x
inductive HO where
 |lst (xs:List V)
 |tup (xs:List V)
 |dK (kvs:List (Key×V))|dT (kvs:List (List Key×V))
 |set (S:Int->Bool) (n:Nat)
 |ins (C dx:Addr) (fs:List (Str×V))
 |own (x:Addr)
 |xd (fs:List (Str×V))
 |met (f x:Addr)
 |rng (lo hi:Int)
 |frz (o:Obj) (u:HO)
 |tbl (ps:Array Value)
 |ext (φ:Heap->Prop)
 |cod (q:Str)|ctb (pos:Pos) (q:Str)
def Sty:HO->Prop
 |.tup _=>True
 |.cod _=>True
 |_=>False
abbrev Hp:=Addr->Option HO
def upd(H:Hp)(a:Addr)(o:HO):Hp:=fun b=>if b=a then some o else H b
theorem aH{H:Hp}{a:Addr}{o:HO}:upd H a o a=some o:=by unfold upd;rw[if_pos rfl]
theorem aJ{H:Hp}{a b:Addr}{o:HO}(h:b≠a):upd H a o b=H b:=by unfold upd;rw[if_neg h]
theorem vP{H:Hp}{a:Addr}{o u:HO}:upd (upd H a o) a u=upd H a u:=by
 funext b;unfold upd;split <;> rfl
theorem aKw{H:Hp}{a b:Addr}{o u:HO}(h:H a=some o)(h':H b=some u)(d:o≠u):a≠b:=by
 intro e;subst e;rw[h] at h';exact d (Option.some.inj h')
theorem bC{H:Hp}{a b:Addr}{o:HO}(h:H a=some o)(h':H b=none):a≠b:=by
 intro e;subst e;rw[h] at h';cases h'
section
variable(P:Program)(w:World)
def bI(H:Hp)(h:Heap)(a:Addr):HO->Prop
 |.lst xs=>xs.length<=sizeLine/\∃(its:List Value) (n:Nat),Vals xs its/\h.get? a=some { cls:=.type "list",data:=.seq its.toArray n }
 |.tup xs=>xs.length<=sizeLine/\∃its:List Value,Vals xs its/\IsTup h a its.toArray
 |.dK kvs=>kvs.length<=sizeLine/\(a == sysModules)=false/\∃vs,KV kvs vs/\h.DictOf (bN P w) a vs
 |.dT kvs=>kvs.length<=sizeLine/\(a == sysModules)=false/\∃xs:List (List Key×Addr×Value),
   Paired (fun(p:List Key×V) (q:List Key×Addr×Value)=>p.1=q.1/\H q.2.1=some (.tup (p.1.map kV))/\RelV p.2 q.2.2) kvs xs/\
   ∃o es ep,h.get? a=some o/\o.ExactDict/\o.data=.dict es ep/\es.toList=xs.map (entryOfKey (tupleKind (bN P w)))/\(xs.map (·.1)).Nodup
 |.set S n=>h.SetOf (intKind P w) a S n
 |.ins C dx fs=>H dx=some (.own a)/\fs.length<=1000/\dx≠a/\h.get? a=some (PySem.W.instObj C dx)/\
   ∃mA,h.Ns1 dx mA/\(∀f,rA (fs.lookup f) (mA f))/\PySem.Within mA (fs.map (·.1))
 |.own _=>∃o,h.get? a=some o
 |.xd fs=>∃mA,h.Ns1 a mA/\∀f,rA (fs.lookup f) (mA f)
 |.rng lo hi=>∃t u v,h.get? a=some { cls:=.type "range",data:=.fields #[.int lo t,.int hi u,.int 1 v] }
 |.frz o u=>h.get? a=some o/\bI H h a u
 |.tbl ps=>h.get? a=some { cls:=.none,data:=.fields ps }
 |.met f x=>h.get? a=some (PySem.W.methodObj (.ref f) (.ref x))
 |.ext φ=>φ h/\(∃o,h.get? a=some o)/\∀h1 h2:Heap,φ h1->(∀o,h1.get? a=some o->h2.get? a=some o)->φ h2
 |.cod q=>∃o vs t,h.get? a=some o/\o.data=.fields vs/\vs[1]?=some (.str q t)
 |.ctb pos q=>∃ps:Array Value,h.get? a=some { cls:=.none,data:=.fields ps }/\TriplesOk ps.toList/\(codeAmong pos ps.toList=none\/∃c,codeAmong pos ps.toList=some (.ref c)/\H c=some (.cod q))
def qY(H:Hp)(h:Heap):Prop:=∀a o,H a=some o->bI P w H h a o
end
section
variable{P:Program}{w:World}{H H':Hp}{h h':Heap}{a:Addr}{o:HO}
theorem bI.lt(x:bI P w H h a o):a < h.objs.size:=by
 cases o with
 |lst xs=>obtain⟨_,_,_,_,e⟩:=x;exact Heap.lt_size e
 |tup xs=>obtain⟨_,_,_,p⟩:=x;exact p.lt
 |dK kvs=>obtain⟨_,_,_,_,o,_,_,e,_⟩:=x;exact Heap.lt_size e
 |dT kvs=>obtain⟨_,_,_,_,o,_,_,e,_⟩:=x;exact Heap.lt_size e
 |set S n=>obtain⟨o,_,_,_,e,_⟩:=x;exact Heap.lt_size e
 |ins C dx fs=>obtain⟨_,_,_,e,_⟩:=x;exact Heap.lt_size e
 |own y=>obtain⟨_,e⟩:=x;exact Heap.lt_size e
 |xd fs=>obtain⟨_,⟨_,_,_,e,_⟩,_⟩:=x;exact Heap.lt_size e
 |rng lo hi=>obtain⟨_,_,_,e⟩:=x;exact Heap.lt_size e
 |frz ob u=>obtain⟨e,_⟩:=x;exact Heap.lt_size e
 |tbl ps=>exact Heap.lt_size (show h.get? a=some _ from x)
 |met f y=>exact Heap.lt_size (show h.get? a=some _ from x)
 |ext φ=>obtain⟨_,⟨_,e⟩,_⟩:=x;exact Heap.lt_size e
 |cod q=>obtain⟨_,_,_,e,_⟩:=x;exact Heap.lt_size e
 |ctb pos q=>obtain⟨_,e,_⟩:=x;exact Heap.lt_size e
theorem Paired.aKM{α β:Type}{F G:α->β->Prop}:∀{l₁:List α}{l₂:List β},Paired F l₁ l₂->(∀a b,F a b->G a b)->Paired G l₁ l₂
 |_,_,.nil,_=>.nil
 |_,_,.cons r t,f=>.cons (f _ _ r) (Paired.aKM t f)
theorem bI.zE(x:bI P w H h a o)(k:∀b u,(b=a\/H b=some (.own a))->h.get? b=some u->h'.get? b=some u)
  (ho:∀b,H b=some (.own a)->H' b=some (.own a)) (ht:∀b u,Sty u->H b=some u->H' b=some u):bI P w H' h' a o:=by
 induction o with
 |lst xs=>obtain⟨z,its,n,r,e⟩:=x;exact⟨z,its,n,r,k _ _ (.inl rfl) e⟩
 |tup xs=>obtain⟨z,its,r,ob,e,c⟩:=x;exact⟨z,its,r,ob,k _ _ (.inl rfl) e,c⟩
 |dK kvs=>obtain⟨z,y,vs,r,ob,es,ep,e,c⟩:=x;exact⟨z,y,vs,r,ob,es,ep,k _ _ (.inl rfl) e,c⟩
 |dT kvs=>
  obtain⟨z,y,xs,r,ob,es,ep,e,c⟩:=x
  exact⟨z,y,xs,Paired.aKM r fun p q z=>⟨z.1,ht _ _ trivial z.2.1,z.2.2⟩,ob,es,ep,k _ _ (.inl rfl) e,c⟩
 |set S n=>obtain⟨ob,es,ep,t,e,c⟩:=x;exact⟨ob,es,ep,t,k _ _ (.inl rfl) e,c⟩
 |ins C dx fs=>
  obtain⟨d,z,ne,e,mA,⟨od,es,ep,e2,c⟩,r⟩:=x
  exact⟨ho _ d,z,ne,k _ _ (.inl rfl) e,mA,⟨od,es,ep,k _ _ (.inr d) e2,c⟩,r⟩
 |own y=>obtain⟨ob,e⟩:=x;exact⟨ob,k _ _ (.inl rfl) e⟩
 |xd fs=>obtain⟨mA,⟨od,es,ep,e,c⟩,r⟩:=x;exact⟨mA,⟨od,es,ep,k _ _ (.inl rfl) e,c⟩,r⟩
 |rng lo hi=>obtain⟨t,u,v,e⟩:=x;exact⟨t,u,v,k _ _ (.inl rfl) e⟩
 |frz ob u ih=>obtain⟨e,q⟩:=x;exact⟨k _ _ (.inl rfl) e,ih q⟩
 |tbl ps=>
  have e:h.get? a=some { cls:=.none,data:=.fields ps }:=x
  show h'.get? a=some { cls:=.none,data:=.fields ps }
  exact k a _ (.inl rfl) e
 |met f y=>
  have e:h.get? a=some (PySem.W.methodObj (.ref f) (.ref y)):=x
  show h'.get? a=some (PySem.W.methodObj (.ref f) (.ref y))
  exact k a _ (.inl rfl) e
 |ext φ=>obtain⟨p,⟨o,e⟩,st⟩:=x;exact⟨st _ _ p fun o q=>k _ _ (.inl rfl) q,⟨o,k _ _ (.inl rfl) e⟩,st⟩
 |cod q=>obtain⟨o,vs,t,e,r⟩:=x;exact⟨o,vs,t,k _ _ (.inl rfl) e,r⟩
 |ctb pos q=>
  obtain⟨ps,e,t,c⟩:=x
  refine⟨ps,k _ _ (.inl rfl) e,t,?_⟩
  rcases c with c|⟨c,e1,e2⟩
  ·exact .inl c
  ·exact .inr ⟨c,e1,ht _ _ trivial e2⟩
theorem qY.lt(x:qY P w H h)(e:H a=some o):a < h.objs.size:=(x a o e).lt
theorem qY.fresh(x:qY P w H h)(e:h.objs.size<=a):H a=none:=by
 cases q:H a with
 |none=>rfl
 |some u=>exact absurd (Nat.lt_of_lt_of_le (x.lt q) e) (Nat.lt_irrefl _)
theorem qY.kept(x:qY P w H h)(k:∀b u,h.get? b=some u->h'.get? b=some u):qY P w H h':=fun a o e=>
 (x a o e).zE (fun b u _ q=>k b u q) (fun _ q=>q) fun _ _ _ q=>q
theorem qY.laid(x:qY P w H h)(k:∀b u,h.get? b=some u->h'.get? b=some u)(hp:h.objs.size<=a)(new:bI P w (upd H a o) h' a o):qY P w (upd H a o) h':=fun b u e=>by
 have hn:=x.fresh hp
 by_cases hb:b=a
 ·subst hb;rw[aH] at e;cases e;exact new
 ·rw[aJ hb] at e
  exact(x b u e).zE (fun c v _ q=>k c v q) (fun c q=>by rw[aJ (bC q hn)];exact q) fun c xs _ q=>by rw[aJ (bC q hn)];exact q
end
def Rd(H:Hp)(a:Addr)(u:HO):Prop:=H a=some u\/∃o,H a=some (.frz o u)
theorem Rd.of{H:Hp}{a:Addr}{u:HO}(h:H a=some u):Rd H a u:=.inl h
theorem Rd.ok{P:Program}{w:World}{H:Hp}{h:Heap}{a:Addr}{u:HO}(r:Rd H a u)(x:qY P w H h):bI P w H h a u:=by
 rcases r with r|⟨o,r⟩
 ·exact x a u r
 ·obtain⟨_,q⟩:=x a _ r
  exact q
def Mut:Option HO->Prop
 |some (.lst _)=>True
 |some (.dK _)=>True
 |some (.dT _)=>True
 |some (.set _ _)=>True
 |some (.ins _ _ _)=>True
 |some (.ext _)=>True
 |_=>False
section
variable{P:Program}{w:World}{H:Hp}{h h':Heap}{x e:Addr}{o':HO}
theorem qY.write(ok:qY P w H h)(mu:Mut (H x))(he:e=x\/H e=some (.own x))(k:∀b u,b≠e->h.get? b=some u->h'.get? b=some u)(heo:∃u,h'.get? e=some u)
  (new:bI P w (upd H x o') h' x o'):qY P w (upd H x o') h':=fun b u q=>by
 have nown:∀c y,H c=some (.own y)->c≠x:=fun c y r z=>by subst z;rw[r] at mu;exact mu
 have mI:∀c u,Sty u->H c=some u->c≠x:=fun c u y r z=>by
  subst z
  rw[r] at mu
  cases u <;> first|exact mu|exact y
 by_cases hb:b=x
 ·subst hb;rw[aH] at q;cases q;exact new
 ·rw[aJ hb] at q
  by_cases hbe:b=e
  ·have q':H b=some (.own x):=by
    rcases he with z|z
    ·exact absurd (hbe.trans z) hb
    ·rw[hbe];exact z
   rw[q] at q';cases q'
   obtain⟨v,hv⟩:=heo
   exact⟨v,by rw[hbe];exact hv⟩
  ·refine(ok b u q).zE (fun c v hc r=>k c v ?_ r) (fun c r=>by rw[aJ (nown c b r)];exact r) fun c xs y r=>by rw[aJ (mI c xs y r)];exact r
   rcases hc with rfl|hc
   ·exact hbe
   ·rintro rfl
    rcases he with z|z
    ·exact nown c b hc z
    ·rw[hc] at z;cases z;exact hb rfl
end
structure Un(fs ex:List Addr)(H H':Hp)(h h':Heap):Prop where
 keep:∀b o,h.get? b=some o->H b=none->b∉fs->b∉ex->h'.get? b=some o
 slot:∀b o,h.get? b=some o->H b=none->b∈fs->b∉ex->∃sl,h'.get? b=some { o with slots:=sl }
 free:∀b o,h.get? b=some o->H b=none->b∉ex->H' b=none
 there:∀b o,h.get? b=some o->b∉ex->∃o',h'.get? b=some o'
 rB:∀b xs,H b=some (.tup xs)->H' b=some (.tup xs)
 frzs:∀b o u,H b=some (.frz o u)->H' b=some (.frz o u)
 tbls:∀b ps,H b=some (.tbl ps)->∃more,H' b=some (.tbl (ps++more))
section
variable{fs fs' ex ex':List Addr}{H H1 H2:Hp}{h h1 h2 h':Heap}{a x e:Addr}{o:HO}
theorem Un.any(u:Un fs ex H H1 h h1){b:Addr}{ob:Obj}(q:h.get? b=some ob)(n:H b=none)(hx:b∉ex):∃sl,h1.get? b=some { ob with slots:=sl }:=by
 by_cases hb:b∈fs
 ·exact u.slot b ob q n hb hx
 ·exact⟨ob.slots,u.keep b ob q n hb hx⟩
theorem Un.trans(a:Un fs ex H H1 h h1)(b:Un fs ex H1 H2 h1 h2):Un fs ex H H2 h h2 where
 keep:=fun c ob q n hc hx=>b.keep c ob (a.keep c ob q n hc hx) (a.free c ob q n hx) hc hx
 slot:=fun c ob q n hc hx=>by
  obtain⟨sl,e1⟩:=a.slot c ob q n hc hx
  obtain⟨sl',e2⟩:=b.slot c _ e1 (a.free c ob q n hx) hc hx
  exact⟨sl',e2⟩
 free:=fun c ob q n hx=>by
  obtain⟨o',e1⟩:=a.there c ob q hx
  exact b.free c o' e1 (a.free c ob q n hx) hx
 there:=fun c ob q hx=>by
  obtain⟨o',e1⟩:=a.there c ob q hx
  exact b.there c o' e1 hx
 rB:=fun c xs q=>b.rB c xs (a.rB c xs q)
 frzs:=fun c ob xs q=>b.frzs c ob xs (a.frzs c ob xs q)
 tbls:=fun c ps q=>by
  obtain⟨m1,e1⟩:=a.tbls c ps q
  obtain⟨m2,e2⟩:=b.tbls c _ e1
  exact⟨m1++m2,by rw[e2,Array.append_assoc]⟩
theorem Un.kept(k:∀b u,h.get? b=some u->h'.get? b=some u):Un fs ex H H h h':=
 ⟨fun b ob q _ _ _=>k b ob q,fun b ob q _ _ _=>⟨ob.slots,k b ob q⟩,fun _ _ _ n _=>n,fun b ob q _=>⟨ob,k b ob q⟩,fun _ _ q=>q,fun _ _ _ q=>q,fun _ ps q=>⟨#[],by rw[q];simp⟩⟩
theorem Un.refl:Un fs ex H H h h:=Un.kept fun _ _ q=>q
theorem Un.laid(k:∀b u,h.get? b=some u->h'.get? b=some u)(hp:h.objs.size<=a)(hn:H a=none):Un fs ex H (upd H a o) h h' where
 keep:=fun b u q _ _ _=>k b u q
 slot:=fun b u q _ _ _=>⟨u.slots,k b u q⟩
 free:=fun b u q n _=>by rw[aJ (Nat.ne_of_lt (Nat.lt_of_lt_of_le (Heap.lt_size q) hp))];exact n
 there:=fun b u q _=>⟨u,k b u q⟩
 rB:=fun b xs q=>by rw[aJ (bC q hn)];exact q
 frzs:=fun b u xs q=>by rw[aJ (bC q hn)];exact q
 tbls:=fun b ps q=>⟨#[],by rw[aJ (bC q hn),q];simp⟩
theorem Un.write(mu:Mut (H x))(he:e=x\/H e=some (.own x))(k:∀b u,b≠e->h.get? b=some u->h'.get? b=some u)(heo:∃u,h'.get? e=some u):Un fs ex H (upd H x o) h h':=by
 have hx:∀b,H b=none->b≠x:=fun b n z=>by subst z;rw[n] at mu;exact mu
 have hb:∀b,H b=none->b≠e:=fun b n z=>by
  subst z
  rcases he with r|r
  ·exact hx b n r
  ·rw[n] at r;cases r
 have hm:∀b u,H b=some u->¬Mut (some u)->b≠x:=fun b u q nm z=>by subst z;rw[q] at mu;exact nm mu
 refine⟨fun b u q n _ _=>k b u (hb b n) q,fun b u q n _ _=>⟨u.slots,k b u (hb b n) q⟩,fun b u q n _=>by rw[aJ (hx b n)];exact n,fun b u q _=>?_,
  fun b xs q=>by rw[aJ (hm b _ q fun z=>z)];exact q,fun b u xs q=>by rw[aJ (hm b _ q fun z=>z)];exact q,fun b ps q=>⟨#[],by rw[aJ (hm b _ q fun z=>z),q];simp⟩⟩
 by_cases hbe:b=e
 ·subst hbe;exact heo
 ·exact⟨u,k b u hbe q⟩
end
def trk(h:Heap)(H:Hp):List Addr:=(List.range h.objs.size).filter fun a=>(H a).isSome
def uB(h:Heap)(H:Hp):Heap:=PySem.W.hideAll h (trk h H)
theorem aCj(h:Heap)(H:Hp):(uB h H).objs.size=h.objs.size:=PySem.W.hideAll_size _ _
theorem aD8{h:Heap}{H:Hp}{b:Addr}{o:Obj}(e:h.get? b=some o)(n:H b=none):(uB h H).get? b=some o:=
 PySem.W.hideAll_get _ e fun hm=>by
  have q:(H b).isSome=true:=(List.mem_filter.mp hm).2
  rw[n] at q;simp at q
theorem aGc{h:Heap}{H:Hp}{b:Addr}{o:Obj}(e:(uB h H).get? b=some o):h.get? b=some o/\H b=none:=by
 have e':h.get? b=some o:=PySem.W.of_hideAll (trk h H) e
 refine⟨e',?_⟩
 cases q:H b with
 |none=>rfl
 |some x=>
  have hm:b∈trk h H:=List.mem_filter.mpr ⟨List.mem_range.mpr (Heap.lt_size e'),by simp[q]⟩
  have z:(uB h H).get? b=none:=PySem.W.hideAll_none (trk h H) hm
  rw[z] at e;cases e
def aJt(g h:Heap)(L:Addr):List (Addr×Obj):=(List.range h.objs.size).filterMap fun a=>if a=L\/(g.get? a).isSome=true then none else (h.get? a).map fun o=>(a,o)
def rest(g h:Heap)(L d:Addr):List (Addr×Obj):=(aJt g h L).filter fun p=>decide (p.1≠d)
end L2
namespace L2
open PySem PySem.Spec PyProof.Rows
structure Mod(K:W.Frag)(mg:Str->Option Value)(base:Heap):Prop where
 kin:K.In base
 glob:base.Ns mainGlobals mg
 blt:∃mb,base.Ns builtinsNs mb/\∀x:Str,x≠"__name__"->mb x=bootBuiltins x
 nolimit:base.NoLimit
 bm:∃bm o,mg "__builtins__" = some (.ref bm)/\bm≠builtinsNs/\base.get? bm=some o/\o.cls=.type "module"/\o.dict=some builtinsNs/\o.data=.plain
structure Cx where
 prog:Program
 w:World
 K:W.Frag
 mg:Str->Option Value
 base:Heap
 A:Around
 N:List Str
 s₀:Shared
 H₀:Hp
 env:Env
 outer:List Env
 stack:List Env
 ex:List Addr
 fn:Str->Bool
 calm:Bool
 pn:List (Addr×Obj)
 xe:Value->Shared->Prop
def frs(l:List Env):List Addr:=l.filterMap (·.frame)
abbrev Cx.fs(X:Cx):List Addr:=frs X.outer
def Vis(sc:Scope)(x:Str):Prop:=sc.names.lookup x=some .local\/sc.names.lookup x=some .cell\/sc.names.lookup x=some .free
def Loc(sc:Scope)(x:Str):Prop:=sc.names.lookup x=some .local\/sc.names.lookup x=some .cell
def Look(env:Env)(h:Heap)(m:Str->Option Value)(x:Str)(u:Value):Prop:=
 (env.kindOf x=some .local/\m x=some u)\/((env.kindOf x=some .cell\/env.kindOf x=some .free)/\∃c,env.cells.lookup x=some c/\h.IsCell c (some u))
structure Cx.Ok(X:Cx):Prop where
 mod:Mod X.K X.mg X.base
 kind:X.env.scope.kind=.function
 glob:X.env.globals=mainGlobals
 blt:X.env.builtins=builtinsNs
 above:X.s₀.heap.objs.size<=X.env.locals
 inj:∀x y c,X.env.cells.lookup x=some c->X.env.cells.lookup y=some c->x=y
 has:∀x,(X.env.kindOf x=some .cell\/X.env.kindOf x=some .free)->∃c,X.env.cells.lookup x=some c
 cab:∀x c,X.fn x=true->X.env.cells.lookup x=some c->X.s₀.heap.objs.size<=c
 hd:X.calm=true->X.A.handled=none
 frames:X.A.frames=some X.stack
 stk:X.stack=X.outer\/(X.stack=X.env::X.outer/\X.env.frame=some X.env.locals)
 exf:∀b∈X.ex,b≠X.env.locals/\∀x c,X.env.cells.lookup x=some c->c≠b
 bs:∀b o,X.base.get? b=some o->X.s₀.heap.get? b=some o/\X.H₀ b=none
 bsz:X.base.objs.size<=X.s₀.heap.objs.size
 noex:∀b o,X.base.get? b=some o->b∉X.ex
 exfs:∀b∈X.ex,b∉X.fs
 uC:X.s₀.heap.FunFrames X.base X.outer
 frf:∀b∈X.fs,X.H₀ b=none
structure Inv(X:Cx)(pins:List (Addr×Obj))(σ:List (Option V))(H:Hp)(s:Shared):Prop where
 ok:X.Ok
 os:s.os=X.s₀.os
 bare:AllBare s.gens
 base:Un X.fs X.ex X.H₀ H X.s₀.heap s.heap
 loc:∃m,s.heap.Ns X.env.locals m/\∀(i:Nat) (x:Str) (v:V),X.N[i]?=some x->σ[i]?=some (some v)->Vis X.env.scope x->∃u,RelV v u/\Look X.env s.heap m x u
 cell:∀x c,X.env.cells.lookup x=some c->∃v,s.heap.IsCell c v
 free:H X.env.locals=none
 freeC:∀x c,X.env.cells.lookup x=some c->H c=none
 pin:∀p∈X.pn++pins,s.heap.get? p.1=some p.2/\H p.1=none/\p.1≠X.env.locals/\p.1∉X.fs/\∀v,p.2.data≠.cell v
 hok:qY X.prog X.w H s.heap
 len:σ.length=X.N.length
section
variable{X:Cx}{pins:List (Addr×Obj)}{σ:List (Option V)}{H H':Hp}{s:Shared}{h':Heap}
theorem Cx.Ok.aNb(ok:X.Ok){b:Addr}{o:Obj}(e:X.base.get? b=some o):b∉X.fs:=fun hb=>by
 have:=(ok.uC.mem hb).1
 rw[e] at this;cases this
theorem Inv.bs(I:Inv X pins σ H s):∀b o,X.base.get? b=some o->s.heap.get? b=some o/\H b=none:=fun b o e=>
 ⟨I.base.keep b o (I.ok.bs b o e).1 (I.ok.bs b o e).2 (I.ok.aNb e) (I.ok.noex b o e),I.base.free b o (I.ok.bs b o e).1 (I.ok.bs b o e).2 (I.ok.noex b o e)⟩
theorem Inv.bk(I:Inv X pins σ H s):∀b o,X.base.get? b=some o->s.heap.get? b=some o:=fun b o e=>(I.bs b o e).1
theorem Inv.mod(I:Inv X pins σ H s):Mod X.K X.mg X.base:=I.ok.mod
theorem Inv.xJ(I:Inv X pins σ H s):X.K.In s.heap:=I.ok.mod.kin.keeps I.bk
theorem Inv.fr(I:Inv X pins σ H s):∃m,Fr X.base X.env.locals s.heap m:=
 let ⟨m,hn,_⟩:=I.loc
 ⟨m,hn,I.bk,Nat.le_trans I.ok.bsz I.ok.above⟩
theorem Inv.lt(I:Inv X pins σ H s):X.env.locals < s.heap.objs.size:=let ⟨_,hn,_⟩:=I.loc;hn.lt
theorem Inv.sz(I:Inv X pins σ H s):X.s₀.heap.objs.size<=s.heap.objs.size:=Nat.le_trans I.ok.above (Nat.le_of_lt I.lt)
theorem Inv.aNc(I:Inv X pins σ H s){a:Addr}(h:s.heap.objs.size<=a):a∉X.fs:=fun hb=>by
 obtain⟨_,o,ho,_⟩:=I.ok.uC.mem hb
 exact absurd (Nat.lt_of_lt_of_le (Heap.lt_size ho) (Nat.le_trans I.sz h)) (Nat.lt_irrefl _)
theorem Inv.cne(I:Inv X pins σ H s):∀x c,X.env.cells.lookup x=some c->c≠X.env.locals:=fun x c e z=>by
 obtain⟨v,o,ho,hd⟩:=I.cell x c e
 obtain⟨m,⟨o',es,ep,ho',hd',_⟩,_⟩:=I.loc
 rw[z,ho'] at ho;cases ho;rw[hd'] at hd;cases hd
theorem Inv.uC(I:Inv X pins σ H s):s.heap.FunFrames X.base X.outer:=by
 have all:∀(l:List Env),(∀b∈frs l,b∈X.fs)->X.s₀.heap.FunFrames X.base l->s.heap.FunFrames X.base l:=by
  intro l
  induction l with
  |nil=>intro _ _;trivial
  |cons env r ih=>
   intro hs hl
   obtain⟨hk,⟨L,o,hf,hn,ho,hd⟩,hr⟩:=hl
   have hL:L∈X.fs:=hs L (by unfold frs;rw[List.filterMap_cons,hf];exact List.mem_cons_self)
   obtain⟨sl,e⟩:=I.base.slot L o ho (I.ok.frf L hL) hL fun z=>I.ok.exfs L z hL
   exact⟨hk,⟨L,_,hf,hn,e,hd⟩,ih (fun b hb=>hs b (by unfold frs;rw[List.filterMap_cons,hf];exact List.mem_cons_of_mem _ hb)) hr⟩
 exact all X.outer (fun _ hb=>hb) I.ok.uC
theorem Inv.stack(I:Inv X pins σ H s):s.heap.FunFrames X.base X.stack:=by
 rcases I.ok.stk with e|⟨e,hf⟩
 ·rw[e];exact I.uC
 ·rw[e]
  obtain⟨m,hn,_⟩:=I.loc
  refine .cons (by rw[I.ok.kind];decide) hf hn ?_ I.uC
  exact Heap.get?_none_of_le (Nat.le_trans I.ok.bsz I.ok.above)
theorem Inv.aAo(I:Inv X pins σ H s):∀b∈frs X.stack,b∈X.env.locals::X.fs:=fun b hb=>by
 rcases I.ok.stk with e|⟨e,hf⟩
 ·rw[e] at hb;exact List.mem_cons_of_mem _ hb
 ·rw[e] at hb
  unfold frs at hb
  rw[List.filterMap_cons,hf] at hb
  exact hb
theorem Inv.aCS(I:Inv X pins σ H s):∀b∈frs X.stack,H b=none:=fun b hb=>by
 rcases List.mem_cons.mp (I.aAo b hb) with e|hb
 ·rw[e];exact I.free
 ·obtain⟨_,o,ho,_⟩:=I.ok.uC.mem hb
  exact I.base.free b o ho (I.ok.frf b hb) fun z=>I.ok.exfs b z hb
theorem Inv.step{g':Array GenState}{t':Nat}{d':Drawn}{ch:List Addr}(I:Inv X pins σ H s)
  (hch:∀b∈ch,(b∈X.ex\/X.s₀.heap.objs.size<=b)/\b≠X.env.locals/\(∀x c,X.env.cells.lookup x=some c->c≠b)/\∀p∈X.pn++pins,p.1≠b)
  (keep:∀b o,b≠X.env.locals->b∉X.fs->b∉ch->s.heap.get? b=some o->H b=none->h'.get? b=some o)
  (slot:∀b o,b≠X.env.locals->b∈X.fs->b∉ch->s.heap.get? b=some o->H b=none->∃sl,h'.get? b=some { o with slots:=sl }) (free:∀b o,b∉ch->s.heap.get? b=some o->H b=none->H' b=none)
  (there:∀b o,b∉ch->s.heap.get? b=some o->∃o',h'.get? b=some o')
  (rB:∀b xs,H b=some (.tup xs)->H' b=some (.tup xs)) (frzs:∀b o u,H b=some (.frz o u)->H' b=some (.frz o u)) (tbls:∀b ps,H b=some (.tbl ps)->∃more,H' b=some (.tbl (ps++more)))
  (ns:∀m,s.heap.Ns X.env.locals m->h'.Ns X.env.locals m) (hok:qY X.prog X.w H' h') (hg:AllBare g') :
  Inv X pins σ H' { s with heap:=h',gens:=g',drawn:=d',toks:=t' }:=by
 have neL:∀b o,X.s₀.heap.get? b=some o->b≠X.env.locals:=fun b o e=>Nat.ne_of_lt (Nat.lt_of_lt_of_le (Heap.lt_size e) I.ok.above)
 have neC:∀b o,X.s₀.heap.get? b=some o->b∉X.ex->b∉ch:=fun b o e hx hb=>by
  rcases(hch b hb).1 with z|z
  ·exact hx z
  ·exact absurd (Nat.lt_of_lt_of_le (Heap.lt_size e) z) (Nat.lt_irrefl _)
 have cellK:∀x c,X.env.cells.lookup x=some c->∀v,s.heap.IsCell c v->h'.IsCell c v:=fun x c e v ⟨o,ho,hd⟩=>by
  have nch:c∉ch:=fun z=>(hch c z).2.2.1 x c e rfl
  by_cases hc:c∈X.fs
  ·obtain⟨sl,q⟩:=slot c o (I.cne x c e) hc nch ho (I.freeC x c e)
   exact⟨_,q,hd⟩
  ·exact⟨o,keep c o (I.cne x c e) hc nch ho (I.freeC x c e),hd⟩
 refine⟨I.ok,I.os,hg,⟨fun b o e n hb hx=>?_,fun b o e n hb hx=>?_,fun b o e n hx=>?_,fun b o e hx=>?_,fun b xs e=>rB b xs (I.base.rB b xs e),fun b o xs e=>frzs b o xs (I.base.frzs b o xs e),fun b ps e=>?_⟩,?_,fun x c e=>?_,?_,fun x c e=>?_,fun p hp=>?_,hok,I.len⟩
 ·exact keep b o (neL b o e) hb (neC b o e hx) (I.base.keep b o e n hb hx) (I.base.free b o e n hx)
 ·obtain⟨sl,e1⟩:=I.base.slot b o e n hb hx
  obtain⟨sl',e2⟩:=slot b _ (neL b o e) hb (neC b o e hx) e1 (I.base.free b o e n hx)
  exact⟨sl',e2⟩
 ·obtain⟨o',e1⟩:=I.base.there b o e hx
  exact free b o' (neC b o e hx) e1 (I.base.free b o e n hx)
 ·obtain⟨o',e1⟩:=I.base.there b o e hx
  exact there b o' (neC b o e hx) e1
 ·obtain⟨m1,e1⟩:=I.base.tbls b ps e
  obtain⟨m2,e2⟩:=tbls b _ e1
  exact⟨m1++m2,by rw[e2,Array.append_assoc]⟩
 ·obtain⟨m,hn,hl⟩:=I.loc
  refine⟨m,ns m hn,fun i x v e1 e2 e3=>?_⟩
  obtain⟨u,r,l⟩:=hl i x v e1 e2 e3
  refine⟨u,r,?_⟩
  rcases l with l|⟨k,c,e,z⟩
  ·exact .inl l
  ·exact .inr ⟨k,c,e,cellK x c e _ z⟩
 ·obtain⟨v,z⟩:=I.cell x c e
  exact⟨v,cellK x c e v z⟩
 ·obtain⟨m,⟨o,_,_,ho,_⟩,_⟩:=I.loc
  exact free _ o (fun z=>(hch _ z).2.1 rfl) ho I.free
 ·obtain⟨v,o,ho,hd⟩:=I.cell x c e
  exact free c o (fun z=>(hch c z).2.2.1 x c e rfl) ho (I.freeC x c e)
 ·obtain⟨e,n,ne,nf,d⟩:=I.pin p hp
  have nch:p.1∉ch:=fun z=>(hch p.1 z).2.2.2 p hp rfl
  exact⟨keep p.1 p.2 ne nf nch e n,free p.1 p.2 nch e n,ne,nf,d⟩
theorem Inv.un{t':Nat}(I:Inv X pins σ H s)(u:Un X.fs [] H H' s.heap h')(hok:qY X.prog X.w H' h'):Inv X pins σ H' { s with heap:=h',toks:=t' }:=by
 obtain⟨m,⟨o,es,ep,ho,r⟩,_⟩:=id I.loc
 obtain⟨sl,hL⟩:=u.any ho I.free (by simp)
 exact I.step (g':=s.gens) (d':=s.drawn) (ch:=[]) (fun _ z=>nomatch z) (fun b o _ hb _ e n=>u.keep b o e n hb (by simp)) (fun b o _ hb _ e n=>u.slot b o e n hb (by simp)) (fun b o _ e n=>u.free b o e n (by simp)) (fun b o _ e=>u.there b o e (by simp)) u.rB u.frzs u.tbls (fun m' hm=>by
  obtain⟨o',es',ep',ho',r'⟩:=hm
  rw[ho] at ho';cases ho'
  exact⟨_,es',ep',hL,r'⟩) hok I.bare
theorem Inv.call{g':Array GenState}{t':Nat}{d':Drawn}{ch:List Addr}(I:Inv X pins σ H s)(u:Un (frs X.stack) ch H H' s.heap h')(hok:qY X.prog X.w H' h')(hg:AllBare g')
  (hch:∀b∈ch,(b∈X.ex\/X.s₀.heap.objs.size<=b)/\b≠X.env.locals/\(∀x c,X.env.cells.lookup x=some c->c≠b)/\∀p∈X.pn++pins,p.1≠b) :
  Inv X pins σ H' { s with heap:=h',gens:=g',drawn:=d',toks:=t' }:=by
 obtain⟨m,⟨o,es,ep,ho,r⟩,_⟩:=id I.loc
 obtain⟨sl,hL⟩:=u.any ho I.free fun z=>(hch _ z).2.1 rfl
 exact I.step (ch:=ch) hch (fun b o hL hb hc e n=>u.keep b o e n (fun z=>(List.mem_cons.mp (I.aAo b z)).elim hL hb) hc) (fun b o _ _ hc e n=>u.any e n hc) (fun b o hc e n=>u.free b o e n hc) (fun b o hc e=>u.there b o e hc) u.rB u.frzs u.tbls (fun m' hm=>by
  obtain⟨o',es',ep',ho',r'⟩:=hm
  rw[ho] at ho';cases ho'
  exact⟨_,es',ep',hL,r'⟩) hok hg
theorem Inv.turned{t':Nat}{it:Addr}(I:Inv X pins σ H s)(k:∀b o,b≠it->s.heap.get? b=some o->h'.get? b=some o)(hn:H it=none)(hL:it≠X.env.locals)
  (h1:it∈X.ex\/X.s₀.heap.objs.size<=it) (h2:∀x c,X.env.cells.lookup x=some c->c≠it) (h3:∀p∈X.pn++pins,p.1≠it):Inv X pins σ H { s with heap:=h',toks:=t' }:=by
 have nit:∀b u,H b=some u->b≠it:=fun b u e z=>by rw[z,hn] at e;cases e
 refine I.step (g':=s.gens) (d':=s.drawn) (ch:=[it]) (fun b hb=>?_) (fun b o _ _ hc e _=>k b o (fun z=>hc (by simp[z])) e) (fun b o _ _ hc e _=>⟨o.slots,k b o (fun z=>hc (by simp[z])) e⟩) (fun _ _ _ _ n=>n)
  (fun b o hc e=>⟨o,k b o (fun z=>hc (by simp[z])) e⟩) (fun _ _ e=>e) (fun _ _ _ e=>e) (fun b ps e=>⟨#[],by rw[e];simp⟩) (fun m hm=>?_) (fun b u e=>?_) I.bare
 ·have e:b=it:=by simpa using hb
  subst e
  exact⟨h1,hL,h2,h3⟩
 ·obtain⟨o,es,ep,ho,r⟩:=hm
  exact⟨o,es,ep,k _ o (Ne.symm hL) ho,r⟩
 ·refine(I.hok b u e).zE (fun c v hc q=>k c v ?_ q) (fun _ q=>q) fun _ _ _ q=>q
  rcases hc with z|z
  ·rw[z];exact nit b u e
  ·exact nit c _ z
theorem Inv.tok(I:Inv X pins σ H s)(t:Nat):Inv X pins σ H { s with toks:=t }:=I.un (h':=s.heap) (t':=t) Un.refl I.hok
theorem Inv.kept{t':Nat}(I:Inv X pins σ H s)(k:∀b u,s.heap.get? b=some u->h'.get? b=some u):Inv X pins σ H { s with heap:=h',toks:=t' }:=I.un (Un.kept k) (I.hok.kept k)
theorem Inv.laid{a:Addr}{o:HO}{t':Nat}(I:Inv X pins σ H s)(k:∀b u,s.heap.get? b=some u->h'.get? b=some u)(hp:s.heap.objs.size<=a)(new:bI X.prog X.w (upd H a o) h' a o) :
  Inv X pins σ (upd H a o) { s with heap:=h',toks:=t' }:=I.un (Un.laid k hp (I.hok.fresh hp)) (I.hok.laid k hp new)
theorem Inv.write{x e:Addr}{o:HO}{t':Nat}(I:Inv X pins σ H s)(mu:Mut (H x))(he:e=x\/H e=some (.own x))(k:∀b u,b≠e->s.heap.get? b=some u->h'.get? b=some u)(heo:∃u,h'.get? e=some u)
  (new:bI X.prog X.w (upd H x o) h' x o):Inv X pins σ (upd H x o) { s with heap:=h',toks:=t' }:=I.un (Un.write mu he k heo) (I.hok.write mu he k heo new)
theorem Inv.weak{σ':List (Option V)}(I:Inv X pins σ H s)(hl:σ'.length=σ.length)(w:∀(i:Nat) v,σ'[i]?=some (some v)->σ[i]?=some (some v)):Inv X pins σ' H s:=
 ⟨I.ok,I.os,I.bare,I.base,let ⟨m,hn,hl'⟩:=I.loc;⟨m,hn,fun i x v e1 e2 e3=>hl' i x v e1 (w i v e2) e3⟩,I.cell,I.free,I.freeC,I.pin,I.hok,hl.trans I.len⟩
theorem Inv.zZ{pins':List (Addr×Obj)}(I:Inv X pins σ H s)(h:∀p∈pins',s.heap.get? p.1=some p.2/\H p.1=none/\p.1≠X.env.locals/\p.1∉X.fs/\∀v,p.2.data≠.cell v):Inv X pins' σ H s:=
 ⟨I.ok,I.os,I.bare,I.base,I.loc,I.cell,I.free,I.freeC,fun p hp=>(List.mem_append.mp hp).elim (fun z=>I.pin p (List.mem_append_left _ z)) (h p),I.hok,I.len⟩
theorem aD9{N:List Str}(hN:N.Nodup){i j:Nat}{x:Str}(a:N[i]?=some x)(b:N[j]?=some x):i=j:=by
 obtain⟨h1,e1⟩:=List.getElem?_eq_some_iff.mp a
 obtain⟨h2,e2⟩:=List.getElem?_eq_some_iff.mp b
 exact(List.getElem_inj hN).mp (e1.trans e2.symm)
theorem aCk{M:Model}{A:Around}{E:Value->Shared->Prop}{i:Nat}{x:Str}{v:V}{u:Value}{Q:Unit->Shared->Prop}(I:Inv X pins σ H s)(hN:X.N.Nodup)(hi:X.N[i]?=some x)(hx:Loc X.env.scope x)(r:RelV v u)
  (h:∀s',Inv X pins (σ.set i (some v)) H s'->(∃a,Heap.SameBut a s.heap s'.heap/\(a=X.env.locals\/X.env.cells.lookup x=some a))->Q () s') (hf:X.fn x=true\/X.env.scope.names.lookup x=some .local:=by first|exact .inl rfl|exact .inr rfl|assumption):wpAny M A (storeName X.env x u) Q E s:=by
 obtain⟨m,hn,hl⟩:=id I.loc
 have hcls:(X.env.scope.kind == .class || (X.env.scope.kind == .module && X.env.locals != X.env.globals))=false:=by rw[I.ok.kind];rfl
 have hiσ:i < σ.length:=by rw[I.len];exact(List.getElem?_eq_some_iff.mp hi).1
 have cne:=I.cne
 have tracked:∀{a:Addr} {h':Heap},(∃o,s.heap.get? a=some o/\H a=none)->Heap.SameBut a s.heap h'->qY X.prog X.w H h':=fun {a h'} ha hs b ob e=>by
  obtain⟨_,_,hfree⟩:=ha
  refine(I.hok b ob e).zE (fun c w' hc q=>(hs.2 c ?_).trans q) (fun _ q=>q) fun _ _ _ q=>q
  rintro rfl
  rcases hc with rfl|hc
  ·rw[hfree] at e;cases e
  ·rw[hfree] at hc;cases hc
 rcases hx with hk|hk
 ·refine wpAny_storeName_local hk hn (fun h' hn' hs=>?_) hcls
  obtain⟨oL,_,_,hoL,_⟩:=id hn
  refine h _ ⟨I.ok,I.os,I.bare,⟨fun b o e n hb hx=>?_,fun b o e n hb hx=>?_,I.base.free,fun b o e hx=>?_,I.base.rB,I.base.frzs,I.base.tbls⟩,⟨_,hn',fun j y v' e1 e2 e3=>?_⟩,fun y c e=>?_,I.free,I.freeC,fun p hp=>?_,tracked ⟨oL,hoL,I.free⟩ hs,by simpa using I.len⟩ ⟨_,hs,.inl rfl⟩
  ·exact(hs.2 b (Nat.ne_of_lt (Nat.lt_of_lt_of_le (Heap.lt_size e) I.ok.above))).trans (I.base.keep b o e n hb hx)
  ·obtain⟨sl,e1⟩:=I.base.slot b o e n hb hx
   exact⟨sl,(hs.2 b (Nat.ne_of_lt (Nat.lt_of_lt_of_le (Heap.lt_size e) I.ok.above))).trans e1⟩
  ·obtain⟨o',e1⟩:=I.base.there b o e hx
   exact⟨o',(hs.2 b (Nat.ne_of_lt (Nat.lt_of_lt_of_le (Heap.lt_size e) I.ok.above))).trans e1⟩
  ·by_cases hj:j=i
   ·subst hj
    rw[hi] at e1;cases e1
    rw[List.getElem?_set_self hiσ] at e2
    cases e2
    exact⟨u,r,.inl ⟨hk,by simp⟩⟩
   ·rw[List.getElem?_set_ne (Ne.symm hj)] at e2
    obtain⟨u',r',q⟩:=hl j y v' e1 e2 e3
    refine⟨u',r',?_⟩
    rcases q with ⟨k,e⟩|⟨k,c,e,z⟩
    ·refine .inl ⟨k,?_⟩
     have:y≠x:=fun e=>hj (aD9 hN e1 (e▸hi))
     simp[this,e]
    ·exact .inr ⟨k,c,e,z.sameBut hs (cne y c e)⟩
  ·obtain⟨w',z⟩:=I.cell y c e
   exact⟨w',z.sameBut hs (cne y c e)⟩
  ·obtain⟨e,n,ne,nf,d⟩:=I.pin p hp
   exact⟨(hs.2 p.1 ne).trans e,n,ne,nf,d⟩
 ·have hfn:X.fn x=true:=by
   rcases hf with z|z
   ·exact z
   ·rw[z] at hk;cases hk
  obtain⟨c,hc⟩:=I.ok.has x (.inl hk)
  obtain⟨w',z⟩:=I.cell x c hc
  refine wpAny_storeName_cell I.ok.kind hk hc z (fun h' hc' hs=>?_)
  obtain⟨oc,hoc,hocd⟩:=id z
  refine h { s with heap:=h' } ⟨I.ok,I.os,I.bare,⟨fun b o e n hb hx=>?_,fun b o e n hb hx=>?_,I.base.free,fun b o e hx=>?_,I.base.rB,I.base.frzs,I.base.tbls⟩,⟨m,hn.sameBut hs (Ne.symm (cne x c hc)),fun j y v' e1 e2 e3=>?_⟩,fun y c' e=>?_,I.free,I.freeC,fun p hp=>?_,tracked ⟨oc,hoc,I.freeC x c hc⟩ hs,by simpa using I.len⟩ ⟨c,hs,.inr hc⟩
  ·exact(hs.2 b (Nat.ne_of_lt (Nat.lt_of_lt_of_le (Heap.lt_size e) (I.ok.cab x c hfn hc)))).trans (I.base.keep b o e n hb hx)
  ·obtain⟨sl,e1⟩:=I.base.slot b o e n hb hx
   exact⟨sl,(hs.2 b (Nat.ne_of_lt (Nat.lt_of_lt_of_le (Heap.lt_size e) (I.ok.cab x c hfn hc)))).trans e1⟩
  ·obtain⟨o',e1⟩:=I.base.there b o e hx
   exact⟨o',(hs.2 b (Nat.ne_of_lt (Nat.lt_of_lt_of_le (Heap.lt_size e) (I.ok.cab x c hfn hc)))).trans e1⟩
  ·by_cases hj:j=i
   ·subst hj
    rw[hi] at e1;cases e1
    rw[List.getElem?_set_self hiσ] at e2
    cases e2
    exact⟨u,r,.inr ⟨.inl hk,c,hc,hc'⟩⟩
   ·rw[List.getElem?_set_ne (Ne.symm hj)] at e2
    obtain⟨u',r',q⟩:=hl j y v' e1 e2 e3
    refine⟨u',r',?_⟩
    rcases q with q|⟨k,c',e,z'⟩
    ·exact .inl q
    ·refine .inr ⟨k,c',e,z'.sameBut hs ?_⟩
     rintro rfl
     exact hj (aD9 hN e1 (I.ok.inj _ _ _ e hc▸hi))
  ·by_cases hcc:c'=c
   ·subst hcc;exact⟨_,hc'⟩
   ·obtain⟨w2,z2⟩:=I.cell y c' e
    exact⟨w2,z2.sameBut hs hcc⟩
  ·obtain⟨e,n,ne,nf,d⟩:=I.pin p hp
   refine⟨(hs.2 p.1 ?_).trans e,n,ne,nf,d⟩
   intro q
   rw[q,hoc] at e
   have q':oc=p.2:=Option.some.inj e
   exact d w' (by rw[<-q'];exact hocd)
theorem aAp{M:Model}{A:Around}{E:Value->Shared->Prop}{i:Nat}{x:Str}{v:V}{u:Value}{Q:Unit->Shared->Prop}(I:Inv X pins σ H s)(hN:X.N.Nodup)(hi:X.N[i]?=some x)(hx:Loc X.env.scope x)(r:RelV v u)
  (h:∀s',Inv X pins (σ.set i (some v)) H s'->Q () s') (hf:X.fn x=true\/X.env.scope.names.lookup x=some .local:=by first|exact .inl rfl|exact .inr rfl|assumption):wpAny M A (storeName X.env x u) Q E s:=
 aCk I hN hi hx r (fun s' I' _=>h s' I') hf
theorem Inv.aMl{s':Shared}{ch:List Addr}(I:Inv X pins σ H s)(ho:s'.os=s.os)(u:Un (frs X.stack) ch H H' s.heap s'.heap)(hok:qY X.prog X.w H' s'.heap)(hg:AllBare s'.gens)
  (hch:∀b∈ch,(b∈X.ex\/X.s₀.heap.objs.size<=b)/\b≠X.env.locals/\(∀x c,X.env.cells.lookup x=some c->c≠b)/\∀p∈X.pn++pins,p.1≠b):Inv X pins σ H' s':=by
 obtain⟨h',g',d',t',o'⟩:=s'
 have e:o'=s.os:=ho
 subst e
 exact I.call (g':=g') (t':=t') (d':=d') u hok hg hch
end
abbrev XK:=Value->Option Addr->Hp->Prop
abbrev St:=List (Option V)
abbrev VK:=V->Hp->Prop
abbrev TE:=St->Hp->VK->Prop
abbrev TT:=St->Hp->(Bool->Hp->Prop)->Prop
abbrev TA:=St->Hp->(List V->Hp->Prop)->Prop
structure Ends where
 nx:St->Hp->Prop
 rt:VK
 bk:St->Hp->Prop:=fun _ _=>False
 ct:St->Hp->Prop:=fun _ _=>False
abbrev TS:=Ends->St->Hp->Prop
def EP(X:Cx)(pins:List (Addr×Obj))(σ:St)(Q:VK)(u:Value)(s':Shared):Prop:=∃v H',Inv X pins σ H' s'/\RelV v u/\Q v H'
def TP(X:Cx)(pins:List (Addr×Obj))(σ:St)(Q:Bool->Hp->Prop)(b:Bool)(s':Shared):Prop:=∃H',Inv X pins σ H' s'/\Q b H'
def AP(X:Cx)(pins:List (Addr×Obj))(σ:St)(Q:List V->Hp->Prop)(us:List Value)(s':Shared):Prop:=∃vs H',Inv X pins σ H' s'/\Vals vs us/\Q vs H'
def SP(X:Cx)(pins:List (Addr×Obj))(D:Ends)(f:Flow)(s':Shared):Prop:=
 match f with
 |.next=>∃σ' H',Inv X pins σ' H' s'/\D.nx σ' H'
 |.brk=>∃σ' H',Inv X pins σ' H' s'/\D.bk σ' H'
 |.cont=>∃σ' H',Inv X pins σ' H' s'/\D.ct σ' H'
 |.ret u=>∃v σ' H',Inv X pins σ' H' s'/\RelV v u/\D.rt v H'
def PE(X:Cx)(e:Expr)(t:TE):Prop:=
 ∀(pins:List (Addr×Obj)) (s:Shared) (σ:St) (H:Hp) (Q:VK),Inv X pins σ H s->t σ H Q->wpAny (model X.prog X.w) X.A (eval e X.env) (EP X pins σ Q) X.xe s
def PT(X:Cx)(e:Expr)(t:TT):Prop:=
 ∀(pins:List (Addr×Obj)) (s:Shared) (σ:St) (H:Hp) (Q:Bool->Hp->Prop),Inv X pins σ H s->t σ H Q->wpAny (model X.prog X.w) X.A (isTrue e X.env (eval e X.env)) (TP X pins σ Q) X.xe s
def PW(X:Cx)(e:Expr)(t:TT):Prop:=
 ∀(whole:Sem Value) (pins:List (Addr×Obj)) (s:Shared) (σ:St) (H:Hp) (Q:Bool->Hp->Prop),Inv X pins σ H s->t σ H Q->wpAny (model X.prog X.w) X.A (isTrue e X.env whole) (TP X pins σ Q) X.xe s
theorem PW.pt{X:Cx}{e:Expr}{t:TT}(h:PW X e t):PT X e t:=h _
def PA(X:Cx)(es:List Expr)(t:TA):Prop:=
 ∀(pos:Pos) (pins:List (Addr×Obj)) (s:Shared) (σ:St) (H:Hp) (Q:List V->Hp->Prop),Inv X pins σ H s->t σ H Q->wpAny (model X.prog X.w) X.A (spliced (backTo pos (starEach es X.env))) (AP X pins σ Q) X.xe s
def PS(X:Cx)(st:Stmt)(t:TS):Prop:=
 ∀(pins:List (Addr×Obj)) (s:Shared) (σ:St) (H:Hp) (D:Ends),Inv X pins σ H s->t D σ H->wpAny (model X.prog X.w) X.A (exec st X.env) (SP X pins D) X.xe s
def PSs(X:Cx)(st:List Stmt)(t:TS):Prop:=
 ∀(pins:List (Addr×Obj)) (s:Shared) (σ:St) (H:Hp) (D:Ends),Inv X pins σ H s->t D σ H->wpAny (model X.prog X.w) X.A (execs st X.env) (SP X pins D) X.xe s
theorem cN{α:Type}{t:Sem α}{Q Q':α->Shared->Prop}{M:Model}{A:Around}{E:Value->Shared->Prop}{s:Shared}(h:wpAny M A t Q E s)(hQ:∀a s,Q a s->Q' a s):wpAny M A t Q' E s:=wpAny_mono h hQ fun _ _ x=>x
end L2
namespace L2
open PySem PySem.Spec PyProof.Rows
section
variable{X:Cx}
def aKN(i:Nat):TE:=fun σ H Q=>∃v,σ[i]?=some (some v)/\Q v H
def tC(v:V):TE:=fun _ H Q=>Q v H
theorem aHL{i:Nat}{x:Str}{pos:Pos}(hN:X.N[i]?=some x)(hv:Vis X.env.scope x)(hd:(x == ("__debug__" : Str))=false:=by decide)(hcd:(x == ("__classdict__" : Str))=false:=by decide):PE X (.Name x pos) (aKN i):=by
 intro pins s σ H Q I h
 obtain⟨v,e,h⟩:=h
 obtain⟨m,hn,hl⟩:=I.loc
 obtain⟨u,r,l⟩:=hl i x v hN e hv
 have fin:EP X pins σ Q u s:=⟨v,H,I,r,h⟩
 rcases l with ⟨hk,hm⟩|⟨hk,c,hc,hcell⟩
 ·exact wpAny_Name (wpAny_loadName_local I.ok.kind hk hn hm fin) hd
 ·rcases hk with hk|hk
  ·exact wpAny_Name (wpAny_loadName_cell I.ok.kind hk hc hcell fin) hd
  ·exact wpAny_Name (wpAny_loadName_free I.ok.kind hk hc hcell fin hcd) hd
theorem aA{i j pos}:PE X (.Constant (.int i) j pos) (tC (.int i)):=fun _ _ _ H _ I h=>wpAny_Constant_int ⟨.int i,H,I.tok _,⟨_,rfl⟩,h⟩
theorem mJ{b j pos}:PE X (.Constant (.bool b) j pos) (tC (.bl b)):=fun _ _ _ H _ I h=>Constant_bool ⟨.bl b,H,I,rfl,h⟩
theorem xK{j pos}:PE X (.Constant .none j pos) (tC .non):=fun _ _ _ H _ I h=>Constant_none ⟨.non,H,I,rfl,h⟩
def Gl(X:Cx)(x:Str):Prop:=X.env.kindOf x=some .globalImplicit
theorem z0{E:Value->Shared->Prop}{pins:List (Addr×Obj)}{s:Shared}{σ:St}{H:Hp}{x:Str}{u:Value}{pos:Pos}{Q:Value->Shared->Prop}(I:Inv X pins σ H s)(hg:Gl X x)(hm:X.mg x=some u)(h:Q u s)
  (hd:(x == ("__debug__" : Str))=false:=by decide):wpAny (model X.prog X.w) X.A (eval (.Name x pos) X.env) Q E s:=
 Calls.Name_function_global I.ok.kind hg (Calls.loadGlobal_global (by rw[I.ok.glob];exact I.mod.glob.keeps I.bk) hm h) hd
theorem pF{E:Value->Shared->Prop}{pins:List (Addr×Obj)}{s:Shared}{σ:St}{H:Hp}{x:Str}{u:Value}{pos:Pos}{Q:Value->Shared->Prop}(I:Inv X pins σ H s)(hg:Gl X x)(hm:X.mg x=none)(hv:bootBuiltins x=some u)(h:Q u s)
  (hn:x≠"__name__":=by decide) (hd:(x == ("__debug__" : Str))=false:=by decide):wpAny (model X.prog X.w) X.A (eval (.Name x pos) X.env) Q E s:=by
 obtain⟨mb,h1,h2⟩:=I.mod.blt
 exact Calls.Name_function_global I.ok.kind hg (Calls.loadGlobal_builtin (by rw[I.ok.glob];exact I.mod.glob.keeps I.bk) hm (by rw[I.ok.blt];exact h1.keeps I.bk) ((h2 x hn).trans hv) h) hd
theorem aJu{x:Str}{v:V}{u:Value}{pos:Pos}(hg:Gl X x)(hm:X.mg x=some u)(r:RelV v u)(hd:(x == ("__debug__" : Str))=false:=by decide):PE X (.Name x pos) (tC v):=
 fun _ _ _ H _ I h=>z0 I hg hm ⟨v,H,I,r,h⟩ hd
theorem pG{x:Str}{v:V}{u:Value}{pos:Pos}(hg:Gl X x)(hm:X.mg x=none)(hv:bootBuiltins x=some u)(r:RelV v u)(hn:x≠"__name__":=by decide)(hd:(x == ("__debug__" : Str))=false:=by decide):PE X (.Name x pos) (tC v):=
 fun _ _ _ H _ I h=>pF I hg hm hv ⟨v,H,I,r,h⟩ hn hd
variable{a b:Expr}{ta tb:TE}{pos:Pos}
def tB(t:TE):TT:=fun σ H Q=>t σ H fun x H1=>∃c,x=.bl c/\Q c H1
theorem i0{e:Expr}{t:TE}(h:PE X e t)(he:∀whole,isTrue e X.env whole=(do let v <-whole;standAt e.pos;holding [v] (truthy v)):=by intro _;rfl):PT X e (tB t):=by
 intro pins s σ H Q I hw
 refine isTrue_plain (cN (h pins s σ H _ I hw) fun v s1 ⟨x,H1,I1,r1,q1⟩=>?_) (he _)
 obtain⟨d,rfl,q⟩:=q1
 cases r1
 exact wpAny_truthy_bool ⟨H1,I1,q⟩
variable{tA tB':TT}{rest:List Expr}
def aKO(t u:TT):TT:=fun σ H Q=>t σ H fun c H1=>if c=true then u σ H1 Q else Q false H1
def tOr(t u:TT):TT:=fun σ H Q=>t σ H fun c H1=>if c=true then Q true H1 else u σ H1 Q
def aKP(t:TT):TT:=fun σ H Q=>t σ H fun c H1=>Q (!c) H1
theorem vQ(ha:PT X a tA):PW X (.BoolOp .And [a] pos) tA:=by
 intro wh pins s σ H Q I h
 refine isTrue_and (cN (ha pins s σ H Q I h) fun c s1 e=>?_)
 cases c with
 |true=>exact isTrue_and_nil e
 |false=>exact e
theorem xM(ha:PT X a tA):PW X (.BoolOp .Or [a] pos) tA:=by
 intro wh pins s σ H Q I h
 refine isTrue_or (cN (ha pins s σ H Q I h) fun c s1 e=>?_)
 cases c with
 |false=>exact isTrue_or_nil e
 |true=>exact e
theorem aAq(ha:PT X a tA)(hb:PW X (.BoolOp .And (b::rest) pos) tB'):PW X (.BoolOp .And (a::b::rest) pos) (aKO tA tB'):=by
 intro wh pins s σ H Q I h
 refine isTrue_and (cN (ha pins s σ H _ I h) fun c s1 ⟨H1,I1,q1⟩=>?_)
 cases c with
 |true=>exact hb wh pins s1 σ H1 Q I1 q1
 |false=>exact⟨H1,I1,q1⟩
theorem aCl(ha:PT X a tA)(hb:PW X (.BoolOp .Or (b::rest) pos) tB'):PW X (.BoolOp .Or (a::b::rest) pos) (tOr tA tB'):=by
 intro wh pins s σ H Q I h
 refine isTrue_or (cN (ha pins s σ H _ I h) fun c s1 ⟨H1,I1,q1⟩=>?_)
 cases c with
 |true=>exact⟨H1,I1,q1⟩
 |false=>exact hb wh pins s1 σ H1 Q I1 q1
theorem oJ(ha:PT X a tA):PT X (.UnaryOp .Not a pos) (aKP tA):=by
 intro pins s σ H Q I h
 exact isTrue_not (ha pins s σ H (fun c H1=>Q (!c) H1) I h)
def aHM(ta tb:TE):TE:=fun σ H Q=>ta σ H fun x H1=>∃c,x=.bl c/\if c=true then tb σ H1 Q else Q (.bl false) H1
def aKQ(ta tb:TE):TE:=fun σ H Q=>ta σ H fun x H1=>∃c,x=.bl c/\if c=true then Q (.bl true) H1 else tb σ H1 Q
def aHN(ta:TE):TE:=fun σ H Q=>ta σ H fun x H1=>∃c,x=.bl c/\Q (.bl (!c)) H1
theorem pH{op}{t:TE}(h:PE X a t):PE X (.BoolOp op [a] pos) t:=fun pins s σ H Q I hw=>BoolOp_one (h pins s σ H Q I hw)
theorem rF(ha:PE X a ta)(hb:PE X (.BoolOp .And (b::rest) pos) tb):PE X (.BoolOp .And (a::b::rest) pos) (aHM ta tb):=by
 intro pins s σ H Q I h
 refine BoolOp_and (cN (ha pins s σ H _ I h) fun v s1 ⟨x,H1,I1,r1,q1⟩=>?_)
 obtain⟨c,rfl,q1⟩:=q1
 cases r1
 refine wpAny_truthy_bool ?_
 cases c with
 |true=>exact hb pins s1 σ H1 Q I1 q1
 |false=>exact⟨.bl false,H1,I1,rfl,q1⟩
theorem aGd(ha:PE X a ta)(hb:PE X (.BoolOp .Or (b::rest) pos) tb):PE X (.BoolOp .Or (a::b::rest) pos) (aKQ ta tb):=by
 intro pins s σ H Q I h
 refine BoolOp_or (cN (ha pins s σ H _ I h) fun v s1 ⟨x,H1,I1,r1,q1⟩=>?_)
 obtain⟨c,rfl,q1⟩:=q1
 cases r1
 refine wpAny_truthy_bool ?_
 cases c with
 |false=>exact hb pins s1 σ H1 Q I1 q1
 |true=>exact⟨.bl true,H1,I1,rfl,q1⟩
theorem aCT(ha:PE X a ta):PE X (.UnaryOp .Not a pos) (aHN ta):=by
 intro pins s σ H Q I h
 refine UnaryOp_ (cN (ha pins s σ H _ I h) fun v s1 ⟨x,H1,I1,r1,q1⟩=>?_)
 obtain⟨c,rfl,q1⟩:=q1
 cases r1
 exact not_of (wpAny_truthy_bool ⟨.bl (!c),H1,I1,rfl,q1⟩)
end
end L2
namespace L2
open PySem PySem.Spec PyProof.Rows
def bG(K:W.Frag)(H:Hp)(a:Addr)(xs:List V):Prop:=
 Rd H a (.lst xs)\/
  ∃(o:Obj) (its:Array Value) (n:Nat),K.lookup a=some o/\o.cls=.type "list"/\o.dict=none/\o.data=.seq its n/\its.size<=sizeLine/\Vals xs its.toList
def kL(K:W.Frag)(H:Hp)(a:Addr)(xs:List V):Prop:=
 Rd H a (.tup xs)\/
  ∃(o:Obj) (its:Array Value) (n:Nat),K.lookup a=some o/\o.cls=.type "tuple"/\o.data=.seq its n/\its.size<=sizeLine/\Vals xs its.toList
def aNd:Value->Option V
 |.none=>some .non
 |.bool b=>some (.bl b)
 |.int i _=>some (.int i)
 |.str x _=>some (.str x)
 |.bytes b _=>some (.byt b)
 |.float b _=>some (.flt b)
 |.ref a=>some (.ref a)
 |.type n=>some (.ty n)
 |_=>none
theorem RelV.abs{x:V}{u:Value}(r:RelV x u):aNd u=some x:=by
 cases x with
 |non=>cases r;rfl
 |bl _=>cases r;rfl
 |int _=>obtain⟨t,rfl⟩:=r;rfl
 |str _=>obtain⟨t,rfl⟩:=r;rfl
 |byt _=>obtain⟨t,rfl⟩:=r;rfl
 |flt _=>obtain⟨t,rfl⟩:=r;rfl
 |ref _=>cases r;rfl
 |ty _=>cases r;rfl
theorem RelV.inj{x y:V}{u:Value}(r:RelV x u)(q:RelV y u):x=y:=Option.some.inj (r.abs.symm.trans q.abs)
theorem Vals.inj:∀{xs ys:List V}{us:List Value},Vals xs us->Vals ys us->xs=ys
 |_,_,_,.nil,.nil=>rfl
 |_,_,_,.cons r t,.cons r' t'=>by rw[r.inj r',Vals.inj t t']
section
variable{X:Cx}{pins:List (Addr×Obj)}{σ:St}{H:Hp}{s:Shared}{a:Addr}{xs ys:List V}
theorem bG.of{K:W.Frag}(h:H a=some (.lst xs)):bG K H a xs:=.inl (.inl h)
theorem kL.of{K:W.Frag}(h:H a=some (.tup xs)):kL K H a xs:=.inl (.inl h)
theorem Inv.list(I:Inv X pins σ H s)(h:bG X.K H a xs):∃its:List Value,Vals xs its/\PlainL s.heap a its.toArray/\xs.length<=sizeLine:=by
 rcases h with h|⟨o,its,n,hk,hc,hd,hs,hz,r⟩
 ·obtain⟨z,its,n,r,e⟩:=h.ok I.hok
  exact⟨its,r,⟨_,n,e,rfl,rfl,rfl⟩,z⟩
 ·refine⟨its.toList,r,⟨o,n,I.xJ a o hk,hc,hd,by simpa using hs⟩,?_⟩
  have e:=r.length
  simp only[Array.length_toList] at e
  omega
theorem Inv.tuple(I:Inv X pins σ H s)(h:kL X.K H a xs):∃its:List Value,Vals xs its/\IsTup s.heap a its.toArray/\xs.length<=sizeLine:=by
 rcases h with h|⟨o,its,n,hk,hc,hs,hz,r⟩
 ·obtain⟨z,its,r,p⟩:=h.ok I.hok
  exact⟨its,r,p,z⟩
 ·refine⟨its.toList,r,⟨o,I.xJ a o hk,hc,n,by simpa using hs⟩,?_⟩
  have e:=r.length
  simp only[Array.length_toList] at e
  omega
theorem Inv.aAr(I:Inv X pins σ H s)(h:bG X.K H a xs)(h':bG X.K H a ys):xs=ys:=by
 obtain⟨its,r,⟨o,n,e,_,_,d⟩,_⟩:=I.list h
 obtain⟨its',r',⟨o',n',e',_,_,d'⟩,_⟩:=I.list h'
 rw[e] at e';cases e'
 rw[d] at d'
 injection d' with d1 _
 have:its=its':=by simpa using congrArg Array.toList d1
 subst this
 exact r.inj r'
theorem Inv.aCm(I:Inv X pins σ H s)(h:kL X.K H a xs)(h':kL X.K H a ys):xs=ys:=by
 obtain⟨its,r,⟨o,e,_,n,d⟩,_⟩:=I.tuple h
 obtain⟨its',r',⟨o',e',_,n',d'⟩,_⟩:=I.tuple h'
 rw[e] at e';cases e'
 rw[d] at d'
 injection d' with d1 _
 have:its=its':=by simpa using congrArg Array.toList d1
 subst this
 exact r.inj r'
end
abbrev Cx.aBA(X:Cx)(E:Value->Shared->Prop):Cx:={ X with xe:=E }
abbrev Cx.nox(X:Cx):Cx:=X.aBA fun _ _=>False
theorem Cx.Ok.aBA{X:Cx}(ok:X.Ok)(E:Value->Shared->Prop):(X.aBA E).Ok:=
 ⟨ok.mod,ok.kind,ok.glob,ok.blt,ok.above,ok.inj,ok.has,ok.cab,ok.hd,ok.frames,ok.stk,ok.exf,ok.bs,ok.bsz,ok.noex,ok.exfs,ok.uC,ok.frf⟩
theorem Cx.Ok.rG{X:Cx}{E:Value->Shared->Prop}(ok:(X.aBA E).Ok):X.Ok:=
 ⟨ok.mod,ok.kind,ok.glob,ok.blt,ok.above,ok.inj,ok.has,ok.cab,ok.hd,ok.frames,ok.stk,ok.exf,ok.bs,ok.bsz,ok.noex,ok.exfs,ok.uC,ok.frf⟩
section
variable{X:Cx}{pins:List (Addr×Obj)}{σ:St}{H:Hp}{s:Shared}{E:Value->Shared->Prop}
theorem Inv.aBA(I:Inv X pins σ H s)(E:Value->Shared->Prop):Inv (X.aBA E) pins σ H s:=⟨I.ok.aBA E,I.os,I.bare,I.base,I.loc,I.cell,I.free,I.freeC,I.pin,I.hok,I.len⟩
theorem Inv.rG(I:Inv (X.aBA E) pins σ H s):Inv X pins σ H s:=⟨I.ok.rG,I.os,I.bare,I.base,I.loc,I.cell,I.free,I.freeC,I.pin,I.hok,I.len⟩
theorem SP.rG{D:Ends}{f:Flow}{s':Shared}(h:SP (X.aBA E) pins D f s'):SP X pins D f s':=by
 cases f with
 |next=>obtain⟨σ',H',I,q⟩:=h;exact⟨σ',H',I.rG,q⟩
 |brk=>obtain⟨σ',H',I,q⟩:=h;exact⟨σ',H',I.rG,q⟩
 |cont=>obtain⟨σ',H',I,q⟩:=h;exact⟨σ',H',I.rG,q⟩
 |ret u=>obtain⟨v,σ',H',I,r,q⟩:=h;exact⟨v,σ',H',I.rG,r,q⟩
theorem PSs.nox{st:List Stmt}{t:TS}(h:PSs X.nox st t):PSs X st t:=fun pins s σ H D I hw=>
 wpAny_mono (h pins s σ H D (I.aBA _) hw) (fun _ _ q=>q.rG) fun _ _ z=>False.elim z
end
section
variable{X:Cx}{st:Stmt}{rest:List Stmt}{t u:TS}{e:Expr}{te:TE}{pos:Pos}
def aHO:TS:=fun D σ H=>D.nx σ H
def aHP(t u:TS):TS:=fun D σ H=>t { D with nx:=u D } σ H
theorem bF:PSs X [] aHO:=fun _ _ σ H _ I h=>wpAny_execs_nil ⟨σ,H,I,h⟩
theorem aD(h1:PS X st t)(h2:PSs X rest u):PSs X (st::rest) (aHP t u):=by
 intro pins s σ H D I h
 refine wpAny_execs_cons (cN (h1 pins s σ H { D with nx:=u D } I h) fun f s1 q=>?_)
 cases f with
 |next=>
  obtain⟨σ',H',I',q⟩:=q
  exact h2 pins s1 σ' H' D I' q
 |ret v=>exact q
 |brk=>exact q
 |cont=>exact q
theorem aG(h1:PS X st t):PSs X [st] t:=by
 intro pins s σ H D I h
 refine wpAny_execs_cons (cN (h1 pins s σ H D I h) fun f s1 q=>?_)
 cases f with
 |next=>exact wpAny_execs_nil q
 |ret v=>exact q
 |brk=>exact q
 |cont=>exact q
theorem Inv.quiet{pins:List (Addr×Obj)}{σ:St}{H:Hp}{s:Shared}(I:Inv X pins σ H s):interactive X.env=false:=by simp[interactive,I.ok.kind]
def aHQ(te:TE):TS:=fun D σ H=>te σ H fun _ H1=>D.nx σ H1
theorem iC(he:PE X e te)(hs:swapsWith e none pos.line X.env=pure false:=by rfl):PS X (.Expr e pos) (aHQ te):=by
 intro pins s σ H D I h
 exact wpAny_Expr_any (cN (he pins s σ H _ I h) fun v s1 ⟨x,H1,I1,r1,q1⟩=>⟨σ,H1,I1,q1⟩) I.quiet hs
def aKR(te:TE):TS:=fun D σ H=>te σ H D.rt
theorem aV(he:PE X e te):PS X (.Return (some e) pos) (aKR te):=by
 intro pins s σ H D I h
 exact wpAny_Return_some (cN (he pins s σ H _ I h) fun v s1 ⟨x,H1,I1,r1,q1⟩=>⟨x,σ,H1,I1,r1,q1⟩)
def aKS(c:TT)(t u:TS):TS:=fun D σ H=>c σ H fun b H1=>if b=true then t D σ H1 else u D σ H1
theorem cK{c:Expr}{a b:List Stmt}{tc:TT}(hc:PT X c tc)(ha:PSs X a t)(hb:PSs X b u):PS X (.If c a b pos) (aKS tc t u):=by
 intro pins s σ H D I h
 refine wpAny_If (cN (hc pins s σ H _ I h) fun d s1 ⟨H1,I1,q1⟩=>?_)
 cases d with
 |true=>exact ha pins s1 σ H1 D I1 q1
 |false=>exact hb pins s1 σ H1 D I1 q1
def aHR:TS:=fun _ _ _=>False
theorem rH:PS X st aHR:=fun _ _ _ _ _ _ h=>h.elim
end
abbrev TG:=V->St->Hp->(St->Hp->Prop)->Prop
abbrev TGs:=List V->St->Hp->(St->Hp->Prop)->Prop
def PG(X:Cx)(target:Expr)(t:TG):Prop:=
 ∀(pins:List (Addr×Obj)) (s:Shared) (σ:St) (H:Hp) (v:V) (u:Value) (Q:St->Hp->Prop),Inv X pins σ H s->RelV v u->t v σ H Q->
  wpAny (model X.prog X.w) X.A (assign target X.env u) (fun _ s'=>∃σ' H',Inv X pins σ' H' s'/\Q σ' H') X.xe s
def PGs(X:Cx)(ts:List Expr)(t:TGs):Prop:=
 ∀(pins:List (Addr×Obj)) (s:Shared) (σ:St) (H:Hp) (vs:List V) (us:List Value) (Q:St->Hp->Prop),Inv X pins σ H s->Vals vs us->t vs σ H Q->
  wpAny (model X.prog X.w) X.A (assignInOrder ((assignEach ts X.env).map (·.2)) us) (fun _ s'=>∃σ' H',Inv X pins σ' H' s'/\Q σ' H') X.xe s
abbrev aCU:=V->V->V->Hp->(Hp->Prop)->Prop
def aHS(X:Cx)(t:aCU):Prop:=
 ∀(pins:List (Addr×Obj)) (s:Shared) (σ:St) (H:Hp) (o i v:V) (ov iv u:Value) (Q:Hp->Prop),Inv X pins σ H s->RelV o ov->RelV i iv->RelV v u->t o i v H Q->
  wpAny (model X.prog X.w) X.A (setItem ov iv u) (fun _ s'=>∃H',Inv X pins σ H' s'/\Q H') X.xe s
abbrev TIp:=V->V->Hp->VK->Prop
def PIp(X:Cx)(op:Operator)(t:TIp):Prop:=
 ∀(pins:List (Addr×Obj)) (s:Shared) (σ:St) (H:Hp) (x y:V) (v u:Value) (Q:VK),Inv X pins σ H s->RelV x v->RelV y u->t x y H Q->
  wpAny (model X.prog X.w) X.A (inplaceOp op v u) (EP X pins σ Q) X.xe s
section
variable{X:Cx}{pos:Pos}
def uG(i:Nat):TG:=fun v σ H Q=>Q (σ.set i (some v)) H
theorem aM{i:Nat}{x:Str}(hN:X.N.Nodup)(hi:X.N[i]?=some x)(hx:Loc X.env.scope x)(hf:X.fn x=true\/X.env.scope.names.lookup x=some .local:=by first|exact .inl rfl|exact .inr rfl|assumption):PG X (.Name x pos) (uG i):=by
 intro pins s σ H v u Q I r h
 exact wpAny_assign_Name (aAp I hN hi hx r (fun s' I'=>⟨_,H,I',h⟩) hf)
def aJv:TGs:=fun vs σ H Q=>vs=[]/\Q σ H
def aGe(t:TG)(u:TGs):TGs:=fun vs σ H Q=>∃v r,vs=v::r/\t v σ H fun σ' H'=>u r σ' H' Q
theorem dJ:PGs X [] aJv:=by
 intro pins s σ H vs us Q I r h
 obtain⟨e,h⟩:=h
 subst e
 cases r
 exact assignInOrder_nil ⟨σ,H,I,h⟩
theorem bA{e:Expr}{es:List Expr}{t:TG}{u:TGs}(h1:PG X e t)(h2:PGs X es u)
  (hs:(assignEach (e::es) X.env).map (·.2)=assign e X.env::(assignEach es X.env).map (·.2):=by rfl):PGs X (e::es) (aGe t u):=by
 intro pins s σ H vs us Q I r h
 obtain⟨v,vr,e1,h⟩:=h
 subst e1
 cases r with
 |cons r rr=>
  rw[hs]
  refine assignInOrder_cons (cN (h1 pins s σ H _ _ _ I r h) fun _ s1 ⟨σ1,H1,I1,q1⟩=>?_)
  exact h2 pins s1 σ1 H1 _ _ Q I1 rr q1
def aJw(K:W.Frag)(n:Nat)(t:TGs):TG:=fun v σ H Q=>∃a xs,v=.ref a/\kL K H a xs/\xs.length=n/\t xs σ H Q
theorem aKT{es:List Expr}{k:Nat}{t:TGs}{n:Nat}(hc:X.calm=true)(h:PGs X es t)
  (hn:(assignEach es X.env).length=n:=by rfl) (hst:(assignEach es X.env).findIdx? (·.1)=none:=by rfl):PG X (.Tuple es k pos) (aJw X.K n t):=by
 intro pins s σ H v u Q I r hw
 obtain⟨a,xs,e1,hq,hl,hw⟩:=hw
 subst e1
 cases r
 obtain⟨its,rv,ht,hz⟩:=I.tuple hq
 refine assign_Tuple_tuple (I.ok.hd hc) ht (by simp[hn,<-hl,rv.length]) hst fun h' hx=>?_
 have I1:Inv X pins σ H { s with heap:=h' }:=I.kept (t':=s.toks) fun b o e=>hx b o (Nat.ne_of_lt (Heap.lt_size e)) e
 exact h pins _ σ H xs _ Q I1 (by simpa using rv) hw
def aKU(to ti:TE)(t:aCU):TG:=fun v σ H Q=>to σ H fun o H1=>ti σ H1 fun i H2=>t o i v H2 fun H3=>Q σ H3
theorem aCV{o i:Expr}{to ti:TE}{t:aCU}(ho:PE X o to)(hi:PE X i ti)(hs:aHS X t)
  (ha:∀v,assign (.Subscript o i pos) X.env v=(do
   let ov <-holding [v] (eval o X.env)
   let iv <-holding [v,ov] (eval i X.env)
   standAt pos
   holding [v,ov,iv] (setItem ov iv v)
   release [v,ov,iv] []):=by intro _;rfl):PG X (.Subscript o i pos) (aKU to ti t):=by
 intro pins s σ H v u Q I r h
 rw[ha]
 refine wpAny_bind (wpAny_holding (cN (ho pins s σ H _ I h) fun ov s1 ⟨x,H1,I1,r1,q1⟩=>?_))
 refine wpAny_bind (wpAny_holding (cN (hi pins s1 σ H1 _ I1 q1) fun iv s2 ⟨y,H2,I2,r2,q2⟩=>?_))
 refine wpAny_bind (wpAny_standAt (wpAny_bind (wpAny_holding (cN (hs pins s2 σ H2 x y v ov iv u _ I2 r1 r2 r q2) fun _ s3 ⟨H3,I3,q3⟩=>?_))))
 exact wpAny_release ⟨σ,H3,I3,q3⟩
def aFe(te:TE)(g:TG):TS:=fun D σ H=>te σ H fun x H1=>g x σ H1 D.nx
theorem aCW{tg e:Expr}{te:TE}{g:TG}(he:PE X e te)(hg:PG X tg g)(hs:swapsWithSole [tg] e pos.line X.env=pure false:=by rfl)(hw:swappedStores [tg] e X.env=pure none:=by rfl)
  (h1:(assignEach [tg] X.env).map (·.2)=[assign tg X.env]:=by rfl):PS X (.Assign [tg] e pos) (aFe te g):=by
 intro pins s σ H D I h
 refine wpAny_Assign_stores (cN (he pins s σ H _ I h) fun v s1 ⟨x,H1,I1,r1,q1⟩=>?_) hs hw
 rw[h1]
 exact cN (hg pins s1 σ H1 x v _ I1 r1 q1) fun _ s2 q=>q
theorem aS{i:Nat}{x:Str}{e:Expr}{te:TE}{pos':Pos}(hN:X.N.Nodup)(hi:X.N[i]?=some x)(hx:Loc X.env.scope x)(he:PE X e te)(hs:swapsWith e (some (.Name x pos')) pos.line X.env=pure false:=by rfl)(hf:X.fn x=true\/X.env.scope.names.lookup x=some .local:=by first|exact .inl rfl|exact .inr rfl|assumption) :
  PS X (.Assign [.Name x pos'] e pos) (aFe te (uG i)):=by
 intro pins s σ H D I h
 refine wpAny_Assign_Name (cN (he pins s σ H _ I h) fun v s1 ⟨y,H1,I1,r1,q1⟩=>?_) hs
 exact aAp I1 hN hi hx r1 (fun s2 I2=>⟨_,H1,I2,q1⟩) hf
def aKV(i:Nat)(te:TE)(ti:TIp):TS:=fun D σ H=>∃x,σ[i]?=some (some x)/\te σ H fun y H1=>ti x y H1 fun z H2=>D.nx (σ.set i (some z)) H2
theorem aAs{i:Nat}{x:Str}{e:Expr}{te:TE}{op:Operator}{ti:TIp}{pos':Pos}(hN:X.N.Nodup)(hi:X.N[i]?=some x)(hx:Loc X.env.scope x)(he:PE X e te)(ho:PIp X op ti)(hf:X.fn x=true\/X.env.scope.names.lookup x=some .local:=by first|exact .inl rfl|exact .inr rfl|assumption) :
  PS X (.AugAssign (.Name x pos') op e pos) (aKV i te ti):=by
 intro pins s σ H D I h
 obtain⟨v,e1,h⟩:=h
 obtain⟨m,hn,hl⟩:=I.loc
 have vis:Vis X.env.scope x:=by rcases hx with k|k;exact .inl k;exact .inr (.inl k)
 obtain⟨u,r,l⟩:=hl i x v hi e1 vis
 refine wpAny_AugAssign_Name ?_
 have go:wpAny (model X.prog X.w) X.A (eval e X.env) (fun w s₂=>wpAny (model X.prog X.w) X.A (inplaceOp op u w) (fun r s₃=>wpAny (model X.prog X.w) X.A (storeName X.env x r) (fun _=>SP X pins D .next) X.xe s₃) X.xe s₂) X.xe s:=by
  refine cN (he pins s σ H _ I h) fun w s1 ⟨y,H1,I1,r1,q1⟩=>?_
  refine cN (ho pins s1 σ H1 v y u w _ I1 r r1 q1) fun z s2 ⟨zv,H2,I2,r2,q2⟩=>?_
  exact aAp I2 hN hi hx r2 (fun s3 I3=>⟨_,H2,I3,q2⟩) hf
 rcases l with ⟨hk,hm⟩|⟨hk,c,hc,hcell⟩
 ·exact wpAny_loadName_local I.ok.kind hk hn hm go
 ·rcases hk with hk|hk
  ·exact wpAny_loadName_cell I.ok.kind hk hc hcell go
  ·rcases hx with k|k
   ·have:X.env.scope.names.lookup x=some .free:=hk
    rw[k] at this;cases this
   ·have:X.env.scope.names.lookup x=some .free:=hk
    rw[k] at this;cases this
def aHT(to ti te:TE)(tget:V->V->Hp->VK->Prop)(tip:TIp)(tset:aCU):TS:=fun D σ H=>to σ H fun o H1=>ti σ H1 fun i H2=>tget o i H2 fun x H3=>te σ H3 fun y H4=>tip x y H4 fun z H5=>tset o i z H5 fun H6=>D.nx σ H6
def aKW(X:Cx)(t:V->V->Hp->VK->Prop):Prop:=
 ∀(pins:List (Addr×Obj)) (s:Shared) (σ:St) (H:Hp) (o i:V) (ov iv:Value) (Q:VK),Inv X pins σ H s->RelV o ov->RelV i iv->t o i H Q->
  wpAny (model X.prog X.w) X.A (getItem ov iv) (EP X pins σ Q) X.xe s
theorem aCX{o i e:Expr}{to ti te:TE}{tget:V->V->Hp->VK->Prop}{tip:TIp}{tset:aCU}{op:Operator}{tpos:Pos}(ho:PE X o to)(hi:PE X i ti)(hg:aKW X tget)(he:PE X e te)(hp:PIp X op tip)(hs:aHS X tset)
  (ha:∀ov iv new,augStore i ov iv new=(do holding [new,ov,iv] (setItem ov iv new);release [new,ov,iv] [];pure .next):=by intros;rfl):PS X (.AugAssign (.Subscript o i tpos) op e pos) (aHT to ti te tget tip tset):=by
 intro pins s σ H D I h
 refine wpAny_AugAssign_SubscriptAny (cN (ho pins s σ H _ I h) fun ov s1 ⟨x1,H1,I1,r1,q1⟩=>?_) ha
 refine cN (hi pins s1 σ H1 _ I1 q1) fun iv s2 ⟨x2,H2,I2,r2,q2⟩=>?_
 refine cN (hg pins s2 σ H2 x1 x2 ov iv _ I2 r1 r2 q2) fun old s3 ⟨x3,H3,I3,r3,q3⟩=>?_
 refine cN (he pins s3 σ H3 _ I3 q3) fun v s4 ⟨x4,H4,I4,r4,q4⟩=>?_
 refine cN (hp pins s4 σ H4 x3 x4 old v _ I4 r3 r4 q4) fun new s5 ⟨x5,H5,I5,r5,q5⟩=>?_
 exact cN (hs pins s5 σ H5 x1 x2 x5 ov iv new _ I5 r1 r2 r5 q5) fun _ s6 ⟨H6,I6,q6⟩=>⟨σ,H6,I6,q6⟩
def ipI(f:Int->Int->Int):TIp:=fun x y H Q=>∃i j,x=.int i/\y=.int j/\Q (.int (f i j)) H
theorem aCY:PIp X .Add (ipI fun i j=>i+j):=by
 intro pins s σ H x y v u Q I r1 r2 h
 obtain⟨i,j,e1,e2,q⟩:=h
 subst e1;subst e2
 obtain⟨t,rfl⟩:=r1
 obtain⟨t',rfl⟩:=r2
 exact iadd_int ⟨.int _,H,I.tok _,⟨_,rfl⟩,q⟩
end
section
variable{X:Cx}{pos:Pos}
end
structure It where
 go:Nat->Hp->Prop
 yld:Nat->Hp->V->Hp->Prop
 stop:Nat->Hp->Prop
def xN(X:Cx)(pins:List (Addr×Obj))(H:Hp)(b:Addr):Prop:=
 H b=none/\b≠X.env.locals/\b∉X.fs/\(b∈X.ex\/X.s₀.heap.objs.size<=b)/\(∀x c,X.env.cells.lookup x=some c->c≠b)/\∀p∈X.pn++pins,p.1≠b
theorem Inv.aEa{X:Cx}{pins:List (Addr×Obj)}{σ:St}{H H':Hp}{s:Shared}{b:Addr}(I:Inv X pins σ H s)(hb:s.heap.objs.size<=b)(hn:H' b=none):xN X pins H' b:=by
 refine⟨hn,Nat.ne_of_gt (Nat.lt_of_lt_of_le I.lt hb),I.aNc hb,.inr (Nat.le_trans I.sz hb),fun x c e z=>?_,fun p hp z=>?_⟩
 ·obtain⟨v,q⟩:=I.cell x c e
  exact absurd (Nat.lt_of_lt_of_le q.lt (by rw[z];exact hb)) (Nat.lt_irrefl _)
 ·exact absurd (Nat.lt_of_lt_of_le (Heap.lt_size (I.pin p hp).1) (by rw[z];exact hb)) (Nat.lt_irrefl _)
structure Turn(P:Program)(w:World)(K:W.Frag)(tg:Expr)(J:It)(fp:List Addr)(it:Addr)(tn:Nat->Heap->Prop):Prop where
 mem:it∈fp
 obj:∀i h,tn i h->∀b∈fp,∃o,h.get? b=some o/\∀v,o.data≠.cell v
 keep:∀i h h',tn i h->(∀b∈fp,∀o,h.get? b=some o->h'.get? b=some o)->tn i h'
 item:∀(X:Cx),X.prog=P->X.w=w->X.K=K->X.calm=true->∀(i:Nat) (pins:List (Addr×Obj)) (s:Shared) (σ:St) (H:Hp) (E:Value->Shared->Prop),Inv X pins σ H s->(∀b∈fp,xN X pins H b)->tn i s.heap->J.go i H->
  wpAny (model P w) X.A (pyNext (.ref it)) (fun r s1=>∃u,r=some u/\
   wpAny (model P w) X.A (letOwnedTupleGo tg (.ref it) u) (fun _ s2=>∃x H',Inv X pins σ H' s2/\RelV x u/\J.yld i H x H'/\tn (i+1) s2.heap/\∀b∈fp,H' b=none) E s1) E s
 done:∀(X:Cx),X.prog=P->X.w=w->X.K=K->X.calm=true->∀(i:Nat) (pins:List (Addr×Obj)) (s:Shared) (σ:St) (H:Hp) (E:Value->Shared->Prop),Inv X pins σ H s->(∀b∈fp,xN X pins H b)->tn i s.heap->J.stop i H->
  wpAny (model P w) X.A (pyNext (.ref it)) (fun r s1=>r=none/\Inv X pins σ H s1) E s
 self:∀(A:Around) (i:Nat) (s:Shared) (Q:Value->Shared->Prop) (E:Value->Shared->Prop),tn i s.heap->Q (.ref it) s->wpAny (model P w) A (pyIter (.ref it)) Q E s
abbrev TI:=St->Hp->(It->Hp->Prop)->Prop
def PIE(X:Cx)(pins:List (Addr×Obj))(σ:St)(tg:Expr)(R:It->Hp->Prop)(itv:Value)(s2:Shared):Prop:=
 ∃(it:Addr) (fp:List Addr) (tn:Nat->Heap->Prop) (J:It) (H':Hp),itv=.ref it/\Inv X pins σ H' s2/\Turn X.prog X.w X.K tg J fp it tn/\tn 0 s2.heap/\(∀b∈fp,xN X pins H' b)/\R J H'
def PI(X:Cx)(tg iter:Expr)(wi:TI):Prop:=
 ∀(pins:List (Addr×Obj)) (s:Shared) (σ:St) (H:Hp) (R:It->Hp->Prop),Inv X pins σ H s->wi σ H R->
  wpAny (model X.prog X.w) X.A (eval iter X.env) (fun v s1=>wpAny (model X.prog X.w) X.A (pyIter v) (PIE X pins σ tg R) X.xe s1) X.xe s
theorem aEb{M:Model}{A:Around}{E:Value->Shared->Prop}{s:Shared}{tg:Expr}{it:Addr}{u:Value}{o:Obj}{n:String}{vs:Array Value}{Q:Unit->Shared->Prop}(ho:s.heap.get? it=some o)(hc:o.cls=.type n)(hd:o.data=.fields vs)
  (hn:["enumerate","zip","dict_itemiterator","dict_reverseitemiterator","odict_iterator","itertools.zip_longest","itertools.pairwise"].contains n=false) (hQ:Q () s):wpAny M A (letOwnedTupleGo tg (.ref it) u) Q E s:=by
 unfold letOwnedTupleGo
 cases tg <;> first
  |exact wpAny_pure hQ
  |(cases u <;> first
    |exact wpAny_pure hQ
    |(
      refine wpAny_bind (wpAny_load ho ?_)
      rw[hc,hd]
      show wpAny M A (if (["enumerate","zip","dict_itemiterator","dict_reverseitemiterator","odict_iterator","itertools.zip_longest","itertools.pairwise"].contains n && vs[0]? == some (rawInt _))=true then _ else _) Q E s
      rw[if_neg (by intro h;rw[hn,Bool.false_and] at h;cases h)]
      exact wpAny_pure hQ))
def Itl(K:W.Frag)(a:Addr):It:=
 ⟨fun i H=>∃xs x,bG K H a xs/\xs[i]?=some x,fun i H x H'=>H'=H/\∀xs,bG K H a xs->xs[i]?=some x,fun i H=>∃xs,bG K H a xs/\xs.length<=i⟩
def Itt(K:W.Frag)(a:Addr):It:=
 ⟨fun i H=>∃xs x,kL K H a xs/\xs[i]?=some x,fun i H x H'=>H'=H/\∀xs,kL K H a xs->xs[i]?=some x,fun i H=>∃xs,kL K H a xs/\xs.length<=i⟩
def Itr(lo:Int)(n:Nat):It:=⟨fun i _=>i < n,fun i H x H'=>H'=H/\x=.int (lo+i),fun i _=>n<=i⟩
theorem aGS{P:Program}{w:World}{K:W.Frag}{tg:Expr}(a it:Addr):Turn P w K tg (Itl K a) [it] it (fun i h=>h.IsListIter it a i) where
 mem:=by simp
 obj:=fun i h st b hb=>by
  have e:b=it:=by simpa using hb
  subst e
  obtain⟨o,e,c,d⟩:=st
  exact⟨o,e,fun v z=>by rw[d] at z;cases z⟩
 keep:=fun i h h' st k=>st.at fun o e=>k it (by simp) o e
 item:=by
  intro X hP hw hK hc i pins s σ H E I hf st hg
  subst hP hw hK
  obtain⟨xs,x,hq,hx⟩:=hg
  obtain⟨its,rv,p,hz⟩:=I.list hq
  obtain⟨u,hu,ru⟩:=rv.get hx
  obtain⟨f0,f1,f2,f3,f4,f5⟩:=hf it (by simp)
  refine wpAny_pyNext_list_item st p.isList (x:=u) (by simpa using hu) fun h' st' sb=>?_
  have I1:Inv X pins σ H { s with heap:=h' }:=I.turned (t':=s.toks) (fun b o hb e=>(sb.2 b hb).trans e) f0 f1 f3 f4 f5
  obtain⟨o,e,c,d⟩:=id st'
  exact⟨u,rfl,aEb (s:={ s with heap:=h' }) e c d (by decide) ⟨x,H,I1,ru,⟨rfl,fun ys hy=>by rw[I.aAr hy hq];exact hx⟩,st',fun b hb=>(hf b hb).1⟩⟩
 done:=by
  intro X hP hw hK hc i pins s σ H E I hf st hg
  subst hP hw hK
  obtain⟨xs,hq,hx⟩:=hg
  obtain⟨its,rv,p,hz⟩:=I.list hq
  obtain⟨f0,f1,f2,f3,f4,f5⟩:=hf it (by simp)
  have hl:=rv.length
  exact wpAny_pyNext_list_end (I.ok.hd hc) st p.isList (by simp;omega) fun h' eb=>⟨rfl,I.turned (t':=s.toks) (fun b o hb e=>eb b o hb e) f0 f1 f3 f4 f5⟩
 self:=fun _ _ _ _ _ st h=>wpAny_pyIter_listiter st h
theorem aFf{P:Program}{w:World}{K:W.Frag}{tg:Expr}(a it:Addr):Turn P w K tg (Itt K a) [it] it (fun i h=>h.IsTupleIter it a i) where
 mem:=by simp
 obj:=fun i h st b hb=>by
  have e:b=it:=by simpa using hb
  subst e
  obtain⟨o,e,c,d⟩:=st
  exact⟨o,e,fun v z=>by rw[d] at z;cases z⟩
 keep:=fun i h h' st k=>st.at fun o e=>k it (by simp) o e
 item:=by
  intro X hP hw hK hc i pins s σ H E I hf st hg
  subst hP hw hK
  obtain⟨xs,x,hq,hx⟩:=hg
  obtain⟨its,rv,p,hz⟩:=I.tuple hq
  obtain⟨u,hu,ru⟩:=rv.get hx
  obtain⟨f0,f1,f2,f3,f4,f5⟩:=hf it (by simp)
  refine wpAny_pyNext_tuple_item st (show s.heap.IsTuple a its.toArray from p) (x:=u) (by simpa using hu) fun h' st' sb=>?_
  have I1:Inv X pins σ H { s with heap:=h' }:=I.turned (t':=s.toks) (fun b o hb e=>(sb.2 b hb).trans e) f0 f1 f3 f4 f5
  obtain⟨o,e,c,d⟩:=id st'
  exact⟨u,rfl,aEb (s:={ s with heap:=h' }) e c d (by decide) ⟨x,H,I1,ru,⟨rfl,fun ys hy=>by rw[I.aCm hy hq];exact hx⟩,st',fun b hb=>(hf b hb).1⟩⟩
 done:=by
  intro X hP hw hK hc i pins s σ H E I hf st hg
  subst hP hw hK
  obtain⟨xs,hq,hx⟩:=hg
  obtain⟨its,rv,p,hz⟩:=I.tuple hq
  obtain⟨f0,f1,f2,f3,f4,f5⟩:=hf it (by simp)
  have hl:=rv.length
  exact wpAny_pyNext_tuple_end (I.ok.hd hc) st (show s.heap.IsTuple a its.toArray from p) (by simp;omega) fun h' eb=>⟨rfl,I.turned (t':=s.toks) (fun b o hb e=>eb b o hb e) f0 f1 f3 f4 f5⟩
 self:=fun _ _ _ _ _ st h=>wpAny_pyIter_tupleiter st h
theorem aFg{P:Program}{w:World}{K:W.Frag}{tg:Expr}(it:Addr)(lo:Int)(n:Nat):Turn P w K tg (Itr lo n) [it] it (fun i h=>IsRangeIter h it (lo+(i:Nat)*1) ((n:Int) - (i:Nat)) 1) where
 mem:=by simp
 obj:=fun i h st b hb=>by
  have e:b=it:=by simpa using hb
  subst e
  exact⟨_,st,fun v z=>by
   have z':Data.fields _=Data.cell v:=z
   cases z'⟩
 keep:=fun i h h' st k=>k it (by simp) _ st
 item:=by
  intro X hP hw hK hc i pins s σ H E I hf st hg
  subst hP hw hK
  obtain⟨f0,f1,f2,f3,f4,f5⟩:=hf it (by simp)
  have W:=Walks.range (prog:=X.prog) (w:=X.w) (I.ok.hd hc) it lo 1 n
  refine W.item i s _ _ hg st fun v h' tk hv st' kk=>?_
  obtain⟨t,rfl⟩:=hv
  have I1:Inv X pins σ H { s with heap:=h',toks:=tk }:=I.turned (fun b o hb e=>kk b o (by simpa using hb) e) f0 f1 f3 f4 f5
  refine⟨_,rfl,aEb (s:={ s with heap:=h',toks:=tk }) (n:="range_iterator") st' rfl rfl (by decide) ⟨.int (lo+i),H,I1,⟨t,?_⟩,⟨rfl,rfl⟩,st',fun b hb=>(hf b hb).1⟩⟩
  rw[Int.mul_one]
 done:=by
  intro X hP hw hK hc i pins s σ H E I hf st hg
  subst hP hw hK
  obtain⟨f0,f1,f2,f3,f4,f5⟩:=hf it (by simp)
  exact wpAny_pyNext_range_end (I.ok.hd hc) st (by have:n<=i:=hg;omega) fun h' eb=>⟨rfl,I.turned (t':=s.toks) (fun b o hb e=>eb b o hb e) f0 f1 f3 f4 f5⟩
 self:=fun _ _ _ _ _ st h=>wpAny_pyIter_rangeiter st h
end L2
namespace L2
open PySem PySem.Spec PyProof.Rows
section
variable{X:Cx}{tg:Expr}
def aHU(K:W.Frag)(tl:TE):TI:=fun σ H R=>tl σ H fun x H1=>∃a,x=.ref a/\(∃xs,bG K H1 a xs)/\R (Itl K a) H1
def aKX(K:W.Frag)(tl:TE):TI:=fun σ H R=>tl σ H fun x H1=>∃a,x=.ref a/\(∃xs,kL K H1 a xs)/\R (Itt K a) H1
theorem aJx{l:Expr}{tl:TE}(hl:PE X l tl):PI X tg l (aHU X.K tl):=by
 intro pins s σ H R I h
 refine cN (hl pins s σ H _ I h) fun v s1 ⟨x,H1,I1,r1,q1⟩=>?_
 obtain⟨a,e,⟨xs,hq⟩,q⟩:=q1
 subst e
 cases r1
 obtain⟨its,rv,p,hz⟩:=I1.list hq
 refine wpAny_pyIter_list p.isList ?_
 refine⟨s1.heap.objs.size,[s1.heap.objs.size],_,_,H1,rfl,I1.kept (t':=s1.toks) fun b o e=>Heap.get?_push_of_some _ e,aGS a _,⟨_,Heap.get?_push_size _ rfl,rfl,rfl⟩,fun b hb=>?_,q⟩
 have e:b=s1.heap.objs.size:=by simpa using hb
 subst e
 exact I1.aEa (Nat.le_refl _) (I1.hok.fresh (Nat.le_refl _))
theorem aKY{l:Expr}{tl:TE}(hl:PE X l tl):PI X tg l (aKX X.K tl):=by
 intro pins s σ H R I h
 refine cN (hl pins s σ H _ I h) fun v s1 ⟨x,H1,I1,r1,q1⟩=>?_
 obtain⟨a,e,⟨xs,hq⟩,q⟩:=q1
 subst e
 cases r1
 obtain⟨its,rv,p,hz⟩:=I1.tuple hq
 refine wpAny_pyIter_tuple (show s1.heap.IsTuple a its.toArray from p) ?_
 refine⟨s1.heap.objs.size,[s1.heap.objs.size],_,_,H1,rfl,I1.kept (t':=s1.toks) fun b o e=>Heap.get?_push_of_some _ e,aFf a _,⟨_,Heap.get?_push_size _ rfl,rfl,rfl⟩,fun b hb=>?_,q⟩
 have e:b=s1.heap.objs.size:=by simpa using hb
 subst e
 exact I1.aEa (Nat.le_refl _) (I1.hok.fresh (Nat.le_refl _))
theorem aEc{pins:List (Addr×Obj)}{σ:St}{H:Hp}{s:Shared}{R:It->Hp->Prop}{E:Value->Shared->Prop}{lo hi:Int}{t u v:Tok}{tk:Nat}(I:Inv X pins σ H s)(h1:-(2 ^ 62)<=lo)(h2:lo < 2 ^ 62)(h3:-(2 ^ 62)<=hi)(h4:hi < 2 ^ 62)
  (q:R (Itr lo (hi - lo).toNat) H):wpAny (model X.prog X.w) X.A (pyIter (.ref s.heap.objs.size)) (PIE X pins σ tg R) E { s with heap:=s.heap.push { cls:=.type "range",data:=.fields #[.int lo t,.int hi u,.int 1 v] },toks:=tk }:=by
 refine wpAny_pyIter_range (IsRange.new ..) (small_one h1 h2 h3 h4) ?_
 have I1:Inv X pins σ H { s with heap:=s.heap.push { cls:=.type "range",data:=.fields #[.int lo t,.int hi u,.int 1 v] },toks:=tk }:=I.kept fun b o e=>Heap.get?_push_of_some _ e
 refine⟨(s.heap.push { cls:=.type "range",data:=.fields #[.int lo t,.int hi u,.int 1 v] }).objs.size,[(s.heap.push { cls:=.type "range",data:=.fields #[.int lo t,.int hi u,.int 1 v] }).objs.size],_,_,H,rfl,
  I1.kept (t':=tk) fun b o e=>Heap.get?_push_of_some _ e,aFg _ lo (hi - lo).toNat,?_,fun b hb=>?_,q⟩
 ·have e1:lo+((0:Nat):Int)*1=lo:=by simp
  have e2:(((hi - lo).toNat:Nat):Int) - ((0:Nat):Int)=Builtin.Range.rangeSize lo hi 1:=by rw[rangeSize_one];split <;> omega
  show IsRangeIter _ _ (lo+((0:Nat):Int)*1) ((((hi - lo).toNat:Nat):Int) - ((0:Nat):Int)) 1
  rw[e1,e2]
  exact Heap.get?_push_size _ rfl
 ·have e:b=(s.heap.push { cls:=.type "range",data:=.fields #[.int lo t,.int hi u,.int 1 v] }).objs.size:=by simpa using hb
  subst e
  exact I1.aEa (Nat.le_refl _) (I1.hok.fresh (Nat.le_refl _))
def aGf(ta:TA):TI:=fun σ H R=>ta σ H fun vs H1=>∃j:Int,vs=[.int j]/\-(2 ^ 62)<=j/\j < 2 ^ 62/\R (Itr 0 j.toNat) H1
def aGg(ta:TA):TI:=fun σ H R=>ta σ H fun vs H1=>∃i j:Int,vs=[.int i,.int j]/\(-(2 ^ 62)<=i/\i < 2 ^ 62/\-(2 ^ 62)<=j/\j < 2 ^ 62)/\R (Itr i (j - i).toNat) H1
theorem aGT{a:Expr}{ta:TA}{p pos:Pos}(hg:Gl X "range")(hm:X.mg "range" = none)(ha:PA X [a] ta)(hs:starEach [a] X.env=[(false,eval a X.env)]:=by rfl):PI X tg (.Call (.Name "range" p) [a] [] pos) (aGf ta):=by
 intro pins s σ H R I h
 refine Call_ (pF I hg hm boot_range (PyProof.Rows.callWith_type1 (cN (ha pos pins s σ H _ I h) fun us s1 ⟨vs,H1,I1,r1,q1⟩=>?_) hs rfl))
 obtain⟨j,e,q1,q2,q⟩:=q1
 subst e
 cases r1 with
 |cons r rr=>
  cases rr
  obtain⟨t,rfl⟩:=r
  exact call_range_1 (aEc I1 (by omega) (by omega) q1 q2 (by simpa using q))
theorem aGU{a b:Expr}{ta:TA}{p pos:Pos}(hg:Gl X "range")(hm:X.mg "range" = none)(ha:PA X [a,b] ta)(hs:starEach [a,b] X.env=[(false,eval a X.env),(false,eval b X.env)]:=by rfl)(hs2:starEach [b] X.env=[(false,eval b X.env)]:=by rfl) :
  PI X tg (.Call (.Name "range" p) [a,b] [] pos) (aGg ta):=by
 intro pins s σ H R I h
 refine Call_ (pF I hg hm boot_range (PyProof.Rows.callWith_type1 (cN (ha pos pins s σ H _ I h) fun us s1 ⟨vs,H1,I1,r1,q1⟩=>?_) (by rw[hs,hs2]) (by rw[hs2];rfl)))
 obtain⟨i,j,e,⟨q1,q2,q3,q4⟩,q⟩:=q1
 subst e
 cases r1 with
 |cons r rr=>
  cases rr with
  |cons r' rr=>
   cases rr
   obtain⟨t,rfl⟩:=r
   obtain⟨t',rfl⟩:=r'
   exact call_range_2 (aEc I1 q1 q2 q3 q4 q)
def aKZ(wi:TI)(g:TG)(tb:TS):TS:=fun D σ H=>wi σ H fun J H1=>∃W:Nat->Nat->St->Hp->Prop,(∃m,W 0 m σ H1)/\∀i m σ H,W i m σ H->
 (J.stop i H/\D.nx σ H)\/(J.go i H/\∃N:St->Hp->Prop,(∀σ' H',N σ' H'->∃m',m' < m/\W (i+1) m' σ' H')/\∀x H',J.yld i H x H'->g x σ H' fun σ2 H2=>tb { D with nx:=N,ct:=N,bk:=D.nx } σ2 H2)
def aAt(fp:List Addr)(h:Heap):List (Addr×Obj):=fp.filterMap fun b=>(h.get? b).map fun o=>(b,o)
theorem pI{fp:List Addr}{h:Heap}{b:Addr}{o:Obj}(hb:b∈fp)(e:h.get? b=some o):(b,o)∈aAt fp h:=List.mem_filterMap.mpr ⟨b,hb,by rw[e];rfl⟩
theorem aGV{fp:List Addr}{h:Heap}{p:Addr×Obj}(hp:p∈aAt fp h):p.1∈fp/\h.get? p.1=some p.2:=by
 obtain⟨b,hb,e⟩:=List.mem_filterMap.mp hp
 cases q:h.get? b with
 |none=>rw[q] at e;cases e
 |some o=>
  rw[q] at e
  have e':(b,o)=p:=Option.some.inj e
  subst e'
  exact⟨hb,q⟩
theorem Inv.pinned{pins:List (Addr×Obj)}{σ:St}{H:Hp}{s:Shared}{fp:List Addr}(I:Inv X pins σ H s)(hf:∀b∈fp,xN X pins H b)(ho:∀b∈fp,∃o,s.heap.get? b=some o/\∀v,o.data≠.cell v):Inv X (pins++aAt fp s.heap) σ H s:=
 I.zZ fun p hp=>(List.mem_append.mp hp).elim (fun z=>I.pin p (List.mem_append_right _ z)) fun z=>by
  obtain⟨hb,e⟩:=aGV z
  obtain⟨f0,f1,f2,_⟩:=hf p.1 hb
  obtain⟨o,e',d⟩:=ho p.1 hb
  rw[e] at e';cases e'
  exact⟨e,f0,f1,f2,d⟩
theorem Inv.vR{pins pl:List (Addr×Obj)}{σ:St}{H:Hp}{s:Shared}(I:Inv X (pins++pl) σ H s):Inv X pins σ H s:=I.zZ fun p hp=>I.pin p (List.mem_append_right _ (List.mem_append_left _ hp))
theorem cS{iter:Expr}{body:List Stmt}{wi:TI}{g:TG}{tb:TS}{pos:Pos}(hp:PassesOwn (model X.prog X.w) X.A X.env X.xe)(hc:X.calm=true)(hi:PI X tg iter wi)(hg:PG X tg g)(hb:PSs X body tb)
  (hs:∀x,foldedSetIterable iter X.env x=pure x:=by intro _;rfl):PS X (.For tg iter body [] pos) (aKZ wi g tb):=by
 intro pins s σ H D I h
 refine wpAny_For (cN (hi pins s σ H _ I h) fun v s1 h1=>cN h1 fun itv s2 h2=>?_) hs
 obtain⟨it,fp,tn,J,H2,e,I2,T,st2,f2,W,⟨m0,w0⟩,turn⟩:=h2
 subst e
 have stat:∀{H':Hp},(∀b∈fp,H' b=none)->∀b∈fp,xN X pins H' b:=fun hn b hb=>⟨hn b hb,(f2 b hb).2⟩
 refine codeAny_forLoop_any (fun n s'=>∃i σ' H',Inv X pins σ' H' s'/\tn i s'.heap/\(∀b∈fp,H' b=none)/\W i n σ' H') ?_ m0 ⟨0,σ,H2,I2,st2,fun b hb=>(f2 b hb).1,w0⟩
 rintro n s3 ⟨i,σ3,H3,I3,st3,fr3,w3⟩
 rcases turn i n σ3 H3 w3 with ⟨stop,qn⟩|⟨go,N,hN,step⟩
 ·refine wpAny_passesOwn hp (cN (T.done X rfl rfl rfl hc i pins s3 σ3 H3 X.xe I3 (stat fr3) st3 stop) fun r s4 ⟨hr,I4⟩=>?_)
  subst hr
  exact wpAny_execs_nil ⟨σ3,H3,I4,qn⟩
 ·refine wpAny_passesOwn hp (cN (T.item X rfl rfl rfl hc i pins s3 σ3 H3 X.xe I3 (stat fr3) st3 go) fun r s4 ⟨u,hr,h4⟩=>?_)
  subst hr
  refine wpAny_passesOwn hp (cN h4 fun _ s5 ⟨x,H5,I5,r5,y5,st5,fr5⟩=>?_)
  have I5':=I5.pinned (stat fr5) (T.obj _ _ st5)
  refine wpAny_passesOwn hp (cN (hg _ s5 σ3 H5 x u _ I5' r5 (step x H5 y5)) fun _ s6 ⟨σ6,H6,I6,q6⟩=>?_)
  refine wpAny_passesOwn hp (cN (hb _ s6 σ6 H6 _ I6 q6) fun f s7 q7=>?_)
  have again:∀{σ7:St} {H7:Hp},Inv X (pins++aAt fp s5.heap) σ7 H7 s7->N σ7 H7->∃m,m < n/\∃i σ' H',Inv X pins σ' H' s7/\tn i s7.heap/\(∀b∈fp,H' b=none)/\W i m σ' H':=fun {σ7 H7} I7 n7=>by
   obtain⟨m',hm,w7⟩:=hN σ7 H7 n7
   refine⟨m',hm,i+1,σ7,H7,I7.vR,T.keep _ _ _ st5 fun b hb o e=>(I7.pin (b,o) (List.mem_append_right _ (List.mem_append_right _ (pI hb e)))).1,fun b hb=>?_,w7⟩
   obtain⟨o,e,d⟩:=T.obj _ _ st5 b hb
   exact(I7.pin (b,o) (List.mem_append_right _ (List.mem_append_right _ (pI hb e)))).2.1
  cases f with
  |next=>obtain⟨σ7,H7,I7,n7⟩:=q7;exact again I7 n7
  |cont=>obtain⟨σ7,H7,I7,n7⟩:=q7;exact again I7 n7
  |brk=>obtain⟨σ7,H7,I7,q7⟩:=q7;exact⟨σ7,H7,I7.vR,q7⟩
  |ret v=>obtain⟨x7,σ7,H7,I7,r7,q7⟩:=q7;exact⟨x7,σ7,H7,I7.vR,r7,q7⟩
end
theorem aHV{K:W.Frag}{a:Addr}{xs:List V}{g:TG}{tb:TS}{D:Ends}{σ:St}{H:Hp}(Pv:Nat->St->Hp->Prop)(h0:Pv 0 σ H)(hl:∀i σ H,i<=xs.length->Pv i σ H->bG K H a xs)
  (hs:∀i x σ H,xs[i]?=some x->Pv i σ H->g x σ H fun σ2 H2=>tb { D with nx:=Pv (i+1),ct:=Pv (i+1),bk:=D.nx } σ2 H2) (hd:∀σ H,Pv xs.length σ H->D.nx σ H) :
  ∃W:Nat->Nat->St->Hp->Prop,(∃m,W 0 m σ H)/\∀i m σ H,W i m σ H->
   ((Itl K a).stop i H/\D.nx σ H)\/((Itl K a).go i H/\∃N:St->Hp->Prop,(∀σ' H',N σ' H'->∃m',m' < m/\W (i+1) m' σ' H')/\∀x H',(Itl K a).yld i H x H'->g x σ H' fun σ2 H2=>tb { D with nx:=N,ct:=N,bk:=D.nx } σ2 H2):=by
 refine⟨fun i m σ H=>m=xs.length - i/\i<=xs.length/\Pv i σ H,⟨xs.length,by simp,Nat.zero_le _,h0⟩,?_⟩
 rintro i m σ H ⟨rfl,hi,p⟩
 have q:=hl i σ H hi p
 by_cases hlt:i < xs.length
 ·refine .inr ⟨⟨xs,xs[i],q,by simp[hlt]⟩,Pv (i+1),fun σ' H' p'=>⟨xs.length - (i+1),by omega,rfl,hlt,p'⟩,fun x H' y=>?_⟩
  obtain⟨e,y⟩:=y
  subst e
  exact hs i x σ _ (y xs q) p
 ·have e:i=xs.length:=by omega
  subst e
  exact .inl ⟨⟨xs,q,Nat.le_refl _⟩,hd σ H p⟩
theorem aJy{K:W.Frag}{a:Addr}{xs:List V}{g:TG}{tb:TS}{D:Ends}{σ:St}{H:Hp}(Pv:Nat->St->Hp->Prop)(h0:Pv 0 σ H)(hl:∀i σ H,i<=xs.length->Pv i σ H->kL K H a xs)
  (hs:∀i x σ H,xs[i]?=some x->Pv i σ H->g x σ H fun σ2 H2=>tb { D with nx:=Pv (i+1),ct:=Pv (i+1),bk:=D.nx } σ2 H2) (hd:∀σ H,Pv xs.length σ H->D.nx σ H) :
  ∃W:Nat->Nat->St->Hp->Prop,(∃m,W 0 m σ H)/\∀i m σ H,W i m σ H->
   ((Itt K a).stop i H/\D.nx σ H)\/((Itt K a).go i H/\∃N:St->Hp->Prop,(∀σ' H',N σ' H'->∃m',m' < m/\W (i+1) m' σ' H')/\∀x H',(Itt K a).yld i H x H'->g x σ H' fun σ2 H2=>tb { D with nx:=N,ct:=N,bk:=D.nx } σ2 H2):=by
 refine⟨fun i m σ H=>m=xs.length - i/\i<=xs.length/\Pv i σ H,⟨xs.length,by simp,Nat.zero_le _,h0⟩,?_⟩
 rintro i m σ H ⟨rfl,hi,p⟩
 have q:=hl i σ H hi p
 by_cases hlt:i < xs.length
 ·refine .inr ⟨⟨xs,xs[i],q,by simp[hlt]⟩,Pv (i+1),fun σ' H' p'=>⟨xs.length - (i+1),by omega,rfl,hlt,p'⟩,fun x H' y=>?_⟩
  obtain⟨e,y⟩:=y
  subst e
  exact hs i x σ _ (y xs q) p
 ·have e:i=xs.length:=by omega
  subst e
  exact .inl ⟨⟨xs,q,Nat.le_refl _⟩,hd σ H p⟩
theorem aGW{lo:Int}{n:Nat}{g:TG}{tb:TS}{D:Ends}{σ:St}{H:Hp}(Pv:Nat->St->Hp->Prop)(h0:Pv 0 σ H)
  (hs:∀i σ H,i < n->Pv i σ H->g (.int (lo+i)) σ H fun σ2 H2=>tb { D with nx:=Pv (i+1),ct:=Pv (i+1),bk:=D.nx } σ2 H2) (hd:∀σ H,Pv n σ H->D.nx σ H) :
  ∃W:Nat->Nat->St->Hp->Prop,(∃m,W 0 m σ H)/\∀i m σ H,W i m σ H->
   ((Itr lo n).stop i H/\D.nx σ H)\/((Itr lo n).go i H/\∃N:St->Hp->Prop,(∀σ' H',N σ' H'->∃m',m' < m/\W (i+1) m' σ' H')/\∀x H',(Itr lo n).yld i H x H'->g x σ H' fun σ2 H2=>tb { D with nx:=N,ct:=N,bk:=D.nx } σ2 H2):=by
 refine⟨fun i m σ H=>m=n - i/\i<=n/\Pv i σ H,⟨n,by simp,Nat.zero_le _,h0⟩,?_⟩
 rintro i m σ H ⟨rfl,hi,p⟩
 by_cases hlt:i < n
 ·refine .inr ⟨hlt,Pv (i+1),fun σ' H' p'=>⟨n - (i+1),by omega,rfl,hlt,p'⟩,fun x H' y=>?_⟩
  obtain⟨e,y⟩:=y
  subst e y
  exact hs i σ _ hlt p
 ·have e:i=n:=by omega
  subst e
  exact .inl ⟨Nat.le_refl _,hd σ H p⟩
end L2
namespace L2
open PySem PySem.Spec PyProof.Rows
abbrev R2:=V->V->Hp->VK->Prop
def rC(X:Cx)(f:Value->Value->Sem Value)(r:R2):Prop:=
 ∀(pins:List (Addr×Obj)) (s:Shared) (σ:St) (H:Hp) (x y:V) (v u:Value) (Q:VK),Inv X pins σ H s->RelV x v->RelV y u->r x y H Q->
  wpAny (model X.prog X.w) X.A (f v u) (EP X pins σ Q) X.xe s
def UnR(X:Cx)(f:Value->Sem Value)(r:V->Hp->VK->Prop):Prop:=
 ∀(pins:List (Addr×Obj)) (s:Shared) (σ:St) (H:Hp) (x:V) (v:Value) (Q:VK),Inv X pins σ H s->RelV x v->r x H Q->
  wpAny (model X.prog X.w) X.A (f v) (EP X pins σ Q) X.xe s
def dZ(X:Cx)(f:Value)(r:List V->Hp->VK->Prop):Prop:=
 ∀(pins:List (Addr×Obj)) (s:Shared) (σ:St) (H:Hp) (xs:List V) (us:List Value) (Q:VK),Inv X pins σ H s->Vals xs us->r xs H Q->
  wpAny (model X.prog X.w) X.A (call f us) (EP X pins σ Q) X.xe s
def tOp(r:R2)(ta tb:TE):TE:=fun σ H Q=>ta σ H fun x H1=>tb σ H1 fun y H2=>r x y H2 Q
def tUn(r:V->Hp->VK->Prop)(ta:TE):TE:=fun σ H Q=>ta σ H fun x H1=>r x H1 Q
def rI(C:Int->Int->Prop)(g:Int->Int->V):R2:=fun x y H Q=>∃i j,x=.int i/\y=.int j/\C i j/\Q (g i j) H
def rI0(g:Int->Int->V):R2:=fun x y H Q=>∃i j,x=.int i/\y=.int j/\Q (g i j) H
def rU(g:Int->V):V->Hp->VK->Prop:=fun x H Q=>∃i,x=.int i/\Q (g i) H
section
variable{X:Cx}{a b c:Expr}{ta tb tc:TE}{pos:Pos}
theorem aK0(ha:PE X a ta)(hb:PE X b tb){pins:List (Addr×Obj)}{s:Shared}{σ:St}{H:Hp}{R:V->V->Hp->Prop}(I:Inv X pins σ H s)
  (h:ta σ H fun x H1=>tb σ H1 fun y H2=>R x y H2) {Q:Value->Shared->Prop} {f:Value->Value->Sem Value}
  (hf:∀v u s2 x y H2,Inv X pins σ H2 s2->RelV x v->RelV y u->R x y H2->wpAny (model X.prog X.w) X.A (f v u) Q X.xe s2) :
  wpAny (model X.prog X.w) X.A (eval a X.env) (fun v s₁=>wpAny (model X.prog X.w) X.A (eval b X.env) (fun u s₂=>wpAny (model X.prog X.w) X.A (f v u) Q X.xe s₂) X.xe s₁) X.xe s:=by
 refine cN (ha pins s σ H _ I h) fun v s1 ⟨x,H1,I1,r1,q1⟩=>?_
 refine cN (hb pins s1 σ H1 _ I1 q1) fun u s2 ⟨y,H2,I2,r2,q2⟩=>?_
 exact hf v u s2 x y H2 I2 r1 r2 q2
theorem aT{op:Operator}{r:R2}(ho:rC X (binaryOp op) r)(ha:PE X a ta)(hb:PE X b tb):PE X (.BinOp a op b pos) (tOp r ta tb):=by
 intro pins s σ H Q I h
 exact wpAny_BinOp (aK0 ha hb I h fun v u s2 x y H2 I2 rx ry q=>ho pins s2 σ H2 x y v u Q I2 rx ry q)
theorem yO{op:UnaryOp}{r:V->Hp->VK->Prop}(ho:UnR X (unaryOp op) r)(ha:PE X a ta):PE X (.UnaryOp op a pos) (tUn r ta):=by
 intro pins s σ H Q I h
 exact UnaryOp_ (cN (ha pins s σ H _ I h) fun v s1 ⟨x,H1,I1,r1,q1⟩=>ho pins s1 σ H1 x v Q I1 r1 q1)
theorem opI{f:Value->Value->Sem Value}{C:Int->Int->Prop}{g:Int->Int->Int}
  (rule:∀(i j:Int) (t u:Tok) (s:Shared) (Q:Value->Shared->Prop) (E:Value->Shared->Prop),C i j->Q (.int (g i j) s.toks) { s with toks:=s.toks+1 }->wpAny (model X.prog X.w) X.A (f (.int i t) (.int j u)) Q E s) :
  rC X f (rI C fun i j=>.int (g i j)):=by
 intro pins s σ H x y v u Q I rx ry h
 obtain⟨i,j,rfl,rfl,hc,q⟩:=h
 obtain⟨t,rfl⟩:=rx
 obtain⟨t',rfl⟩:=ry
 exact rule i j t t' s _ _ hc ⟨.int (g i j),H,I.tok _,⟨_,rfl⟩,q⟩
theorem aMm{f:Value->Value->Sem Value}{g:Int->Int->Int}
  (rule:∀(i j:Int) (t u:Tok) (s:Shared) (Q:Value->Shared->Prop) (E:Value->Shared->Prop),Q (.int (g i j) s.toks) { s with toks:=s.toks+1 }->wpAny (model X.prog X.w) X.A (f (.int i t) (.int j u)) Q E s) :
  rC X f (rI0 fun i j=>.int (g i j)):=by
 intro pins s σ H x y v u Q I rx ry h
 obtain⟨i,j,rfl,rfl,q⟩:=h
 obtain⟨t,rfl⟩:=rx
 obtain⟨t',rfl⟩:=ry
 exact rule i j t t' s _ _ ⟨.int (g i j),H,I.tok _,⟨_,rfl⟩,q⟩
theorem aJz{f:Value->Value->Sem Value}{g:Int->Int->Bool}
  (rule:∀(i j:Int) (t u:Tok) (s:Shared) (Q:Value->Shared->Prop) (E:Value->Shared->Prop),Q (.bool (g i j)) s->wpAny (model X.prog X.w) X.A (f (.int i t) (.int j u)) Q E s) :
  rC X f (rI0 fun i j=>.bl (g i j)):=by
 intro pins s σ H x y v u Q I rx ry h
 obtain⟨i,j,rfl,rfl,q⟩:=h
 obtain⟨t,rfl⟩:=rx
 obtain⟨t',rfl⟩:=ry
 exact rule i j t t' s _ _ ⟨.bl (g i j),H,I,rfl,q⟩
def aNe(i j:Int):Prop:=0 < j/\j < 1073741824
def aNf(i j:Int):Prop:=0<=j/\j<=1000000/\i.natAbs < 2 ^ 64
def aHW(i j:Int):Prop:=(-(2 ^ 64) < i/\i < 2 ^ 64)\/(-(2 ^ 64) < j/\j < 2 ^ 64)
theorem aHW.ok{i j:Int}(h:aHW i j):IntMulOk i j:=by
 rcases h with ⟨h1,h2⟩|⟨h1,h2⟩
 ·exact .of_left (intBits_le_64 h1 h2)
 ·exact .of_right (intBits_le_64 h1 h2)
theorem aK1:rC X (binaryOp .Add) (rI0 fun i j=>.int (i+j)):=aMm fun _ _ _ _ _ _ _ q=>add_int q
theorem gF:rC X (binaryOp .Sub) (rI0 fun i j=>.int (i - j)):=aMm fun _ _ _ _ _ _ _ q=>sub_int q
theorem aK2:rC X (binaryOp .Mult) (rI aHW fun i j=>.int (i*j)):=opI fun _ _ _ _ _ _ _ hc q=>mul_int q hc.ok
theorem aGh:rC X (binaryOp .FloorDiv) (rI aNe fun i j=>.int (i / j)):=opI fun i j _ _ _ _ _ hc q=>by
 have h1:(0:Int) < j:=hc.1
 have h2:j < 1073741824:=hc.2
 exact floordiv_int (by omega) (by rw[Int.fdiv_eq_ediv_of_nonneg i (by omega)];exact q) (.inl (PyProof.noPylong_small (by omega)))
theorem iD:rC X (binaryOp .Mod) (rI (fun _ j=>0 < j) fun i j=>.int (i % j)):=opI fun i j _ _ _ _ _ hc q=>by
 have h1:(0:Int) < j:=hc
 exact mod_int' (by omega) (by rw[Int.fmod_eq_emod_of_nonneg i (by omega)];exact q)
theorem uU:rC X (binaryOp .Pow) (rI aNf fun i j=>.int (i ^ j.toNat)):=opI fun _ _ _ _ _ _ _ hc q=>pow_int_small hc.1 hc.2.1 hc.2.2 q
theorem unI{f:Value->Sem Value}{g:Int->Int}
  (rule:∀(i:Int) (t:Tok) (s:Shared) (Q:Value->Shared->Prop) (E:Value->Shared->Prop),Q (.int (g i) s.toks) { s with toks:=s.toks+1 }->wpAny (model X.prog X.w) X.A (f (.int i t)) Q E s) :
  UnR X f (rU fun i=>.int (g i)):=by
 intro pins s σ H x v Q I rx h
 obtain⟨i,rfl,q⟩:=h
 obtain⟨t,rfl⟩:=rx
 exact rule i t s _ _ ⟨.int (g i),H,I.tok _,⟨_,rfl⟩,q⟩
theorem xO:UnR X (unaryOp .USub) (rU fun i=>.int (-i)):=unI fun _ _ _ _ _ q=>neg_int q
end
section
variable{X:Cx}{a b c:Expr}{ta tb tc:TE}{pos:Pos}
theorem aMn:rC X (compareOp .Lt) (rI0 fun i j=>.bl (decide (i < j))):=aJz fun _ _ _ _ _ _ _ q=>lt_int q
theorem aAu:rC X (compareOp .LtE) (rI0 fun i j=>.bl (decide (i<=j))):=aJz fun _ _ _ _ _ _ _ q=>le_int q
theorem aEd:rC X (compareOp .Gt) (rI0 fun i j=>.bl (decide (j < i))):=aJz fun _ _ _ _ _ _ _ q=>gt_int q
theorem aKx:rC X (compareOp .GtE) (rI0 fun i j=>.bl (decide (j<=i))):=aJz fun _ _ _ _ _ _ _ q=>ge_int q
theorem rC.or{f:Value->Value->Sem Value}{r r':R2}(h:rC X f r)(h':rC X f r'):rC X f (fun x y H Q=>r x y H Q\/r' x y H Q):=by
 intro pins s σ H x y v u Q I rx ry q
 rcases q with q|q
 ·exact h pins s σ H x y v u Q I rx ry q
 ·exact h' pins s σ H x y v u Q I rx ry q
theorem bJ(b:Expr){op:CmpOp}(h:op≠.In:=by decide)(h2:op≠.NotIn:=by decide):behindInMarks op b=false:=by
 have e1:(op == CmpOp.In)=false:=by cases op <;> first|rfl|exact absurd rfl h
 have e2:(op == CmpOp.NotIn)=false:=by cases op <;> first|rfl|exact absurd rfl h2
 cases b <;> simp[behindInMarks,e1,e2]
theorem jL{op:CmpOp}{r:R2}(ho:rC X (compareOp op) r)(ha:PE X a ta)(hb:PE X b tb)(hm:behindInMarks op b=false):PE X (.Compare a [op] [b] pos) (tOp r ta tb):=by
 intro pins s σ H Q I h
 exact wpAny_Compare1 (aK0 ha hb I h fun v u s2 x y H2 I2 rx ry q=>ho pins s2 σ H2 x y v u Q I2 rx ry q) hm
def aHX(t:TE):TT:=fun σ H Q=>t σ H fun x H'=>∃k,x=.bl k/\Q k H'
theorem bH{op:CmpOp}{r:R2}(ho:rC X (compareOp op) r)(ha:PE X a ta)(hb:PE X b tb)(hm:behindInMarks op b=false):PT X (.Compare a [op] [b] pos) (aHX (tOp r ta tb)):=by
 intro pins s σ H Q I h
 refine wpAny_isTrue_Compare1 (cN (ha pins s σ H _ I h) fun v s1 ⟨x,H1,I1,r1,q1⟩=>cN (hb pins s1 σ H1 _ I1 q1) fun u s2 ⟨y,H2,I2,r2,q2⟩=>
  cN (ho pins s2 σ H2 x y v u _ I2 r1 r2 q2) fun c s3 ⟨z,H3,I3,r3,k,e,q3⟩=>?_) hm
 subst e
 cases r3
 exact wpAny_truthy_bool ⟨H3,I3,q3⟩
def aFh(r r':R2)(ta tb tc:TE):TE:=fun σ H Q=>ta σ H fun x H1=>tb σ H1 fun y H2=>r x y H2 fun z H3=>∃k,z=.bl k/\
 (if k=true then tc σ H3 fun w' H4=>r' y w' H4 Q else Q (.bl false) H3)
theorem vS{op op':CmpOp}{r r':R2}(ho:rC X (compareOp op) r)(ho':rC X (compareOp op') r')(ha:PE X a ta)(hb:PE X b tb)(hc:PE X c tc)
  (hm:lastMarks [op,op'] [b,c]=false:=by with_unfolding_all rfl):PE X (.Compare a [op,op'] [b,c] pos) (aFh r r' ta tb tc):=by
 intro pins s σ H Q I h
 refine Compare_chain (cN (ha pins s σ H _ I h) fun v s1 ⟨x,H1,I1,r1,q1⟩=>chain_link (cN (hb pins s1 σ H1 _ I1 q1) fun u s2 ⟨y,H2,I2,r2,q2⟩=>
  cN (ho pins s2 σ H2 x y v u _ I2 r1 r2 q2) fun d s3 ⟨z,H3,I3,r3,k,e,q3⟩=>?_)) hm
 subst e
 cases r3
 refine wpAny_truthy_bool ?_
 cases k with
 |false=>exact ite_ff ⟨.bl false,H3,I3,rfl,q3⟩
 |true=>exact ite_tt (chain_last (cN (hc pins s3 σ H3 _ I3 q3) fun w' s4 ⟨z',H4,I4,r4,q4⟩=>ho' pins s4 σ H4 y z' u w' Q I4 r2 r4 q4))
theorem xP:(sizeLine:Nat) < 2 ^ 63:=by rw[sizeLine_eq];decide
theorem vals1{x:V}{us:List Value}(r:Vals [x] us):∃u,us=[u]/\RelV x u:=by
 cases r with
 |cons r1 r2=>cases r2;exact⟨_,rfl,r1⟩
theorem vals2{x y:V}{us:List Value}(r:Vals [x,y] us):∃u w',us=[u,w']/\RelV x u/\RelV y w':=by
 cases r with
 |cons r1 r2=>
  cases r2 with
  |cons r3 r4=>cases r4;exact⟨_,_,rfl,r1,r3⟩
theorem aHY:dZ X (.builtin "abs") (fun xs H Q=>∃i,xs=[.int i]/\Q (.int (if i < 0 then -i else i)) H):=by
 intro pins s σ H xs us Q I r h
 obtain⟨i,rfl,q⟩:=h
 obtain⟨u,rfl,t,rfl⟩:=vals1 r
 exact call_abs_int fun u tk=>⟨.int (if i < 0 then -i else i),H,I.tok _,⟨_,rfl⟩,q⟩
theorem aGX(hc:X.calm=true):dZ X (.builtin "max") (fun xs H Q=>∃i j,xs=[.int i,.int j]/\Q (.int (if j > i then j else i)) H):=by
 intro pins s σ H xs us Q I r h
 obtain⟨i,j,rfl,q⟩:=h
 obtain⟨u,w',rfl,⟨t,rfl⟩,⟨t',rfl⟩⟩:=vals2 r
 refine max_two_ints (I.ok.hd hc) fun h' tk k=>⟨_,H,I.kept k,?_,q⟩
 by_cases hj:j > i
 ·rw[if_pos hj,if_pos hj];exact⟨_,rfl⟩
 ·rw[if_neg hj,if_neg hj];exact⟨_,rfl⟩
theorem aGY(hc:X.calm=true):dZ X (.builtin "min") (fun xs H Q=>∃i j,xs=[.int i,.int j]/\Q (.int (if j < i then j else i)) H):=by
 intro pins s σ H xs us Q I r h
 obtain⟨i,j,rfl,q⟩:=h
 obtain⟨u,w',rfl,⟨t,rfl⟩,⟨t',rfl⟩⟩:=vals2 r
 refine min_two_ints (I.ok.hd hc) fun h' tk k=>⟨_,H,I.kept k,?_,q⟩
 by_cases hj:j < i
 ·rw[if_pos hj,if_pos hj];exact⟨_,rfl⟩
 ·rw[if_neg hj,if_neg hj];exact⟨_,rfl⟩
def aMo(K:W.Frag)(x:V)(H:Hp)(n:Nat):Prop:=
 match x with
 |.str y=>y.length<=sizeLine/\n=y.length
 |.byt y=>y.size<=sizeLine/\n=y.size
 |.ref p=>(∃xs,bG K H p xs/\n=xs.length)\/∃xs,kL K H p xs/\n=xs.length
 |_=>False
theorem aHZ:dZ X (.builtin "len") (fun xs H Q=>∃x n,xs=[x]/\aMo X.K x H n/\Q (.int n) H):=by
 intro pins s σ H xs us Q I r h
 obtain⟨x,n,rfl,e,q⟩:=h
 obtain⟨u,rfl,rx⟩:=vals1 r
 have hl:=xP
 have hs:sizeLine=16777216:=sizeLine_eq
 cases x with
 |str y=>
  obtain⟨t,rfl⟩:=rx
  obtain⟨hy,e'⟩ : y.length<=sizeLine/\n=y.length:=e
  subst e'
  exact len_str (by omega) ⟨.int _,H,I.tok _,⟨_,rfl⟩,q⟩
 |byt y=>
  obtain⟨t,rfl⟩:=rx
  obtain⟨hy,e'⟩ : y.size<=sizeLine/\n=y.size:=e
  subst e'
  exact PySem.W.len_bytes (by omega) ⟨.int _,H,I.tok _,⟨_,rfl⟩,q⟩
 |ref p=>
  cases rx
  have e':(∃xs,bG X.K H p xs/\n=xs.length)\/∃xs,kL X.K H p xs/\n=xs.length:=e
  rcases e' with ⟨xs,hx,e'⟩|⟨xs,hx,e'⟩
  ·subst e'
   obtain⟨its,r',pl,hz⟩:=I.list hx
   have hlen:=r'.length
   exact Calls.call_len_list pl.isList (by simp only[List.size_toArray];omega) ⟨.int xs.length,H,I.tok _,⟨_,by simp only[List.size_toArray];rw[hlen]⟩,q⟩
  ·subst e'
   obtain⟨its,r',pl,hz⟩:=I.tuple hx
   have hlen:=r'.length
   exact len_tuple pl (by simp only[List.size_toArray];omega) ⟨.int xs.length,H,I.tok _,⟨_,by simp only[List.size_toArray];rw[hlen]⟩,q⟩
 |_=>exact(show False from e).elim
end
end L2
namespace L2
open PySem PySem.Spec PyProof.Rows
structure aFi(h:Heap)(x dx C:Addr)(mA:Str->Option Value):Prop where
 obj:h.get? x=some (PySem.W.instObj C dx)
 ns:h.Ns1 dx mA
 ne:dx≠x
theorem aGZ{h:Heap}{dx:Addr}{mA:Str->Option Value}(n:h.Ns1 dx mA):∃od,h.get? dx=some od/\∀name,PySem.W.lookIn name od=some (mA name):=by
 obtain⟨o,es,ep,ho,hd,hk,_,hm⟩:=n
 refine⟨o,ho,fun name=>?_⟩
 have e:=hm name
 unfold nsFind findBy at e
 rw[<-Array.find?_toList] at e
 unfold PySem.W.lookIn
 rw[hd]
 dsimp only
 split
 ·rename_i y q
  rw[q] at e
  exact congrArg some e
 ·rename_i q
  rw[q] at e
  have a:es.toList.any (·.refKey)=false:=by
   rw[List.any_eq_false]
   intro y hy
   obtain⟨z,t,hkey⟩:=hk y (Array.mem_toList_iff.mp hy)
   simp[DictEntry.refKey,hkey]
  have a':¬es.toList.any (·.refKey)=true:=by rw[a];exact Bool.false_ne_true
  rw[if_neg a']
  exact congrArg some e
theorem aFi.look{h:Heap}{x dx C:Addr}{mA:Str->Option Value}(I:aFi h x dx C mA):∃od,PySem.W.InstAt h x (PySem.W.instObj C dx) C (some od)/\∀name,PySem.W.lookIn name od=some (mA name):=
 let ⟨od,ho,hl⟩:=aGZ I.ns
 ⟨od,⟨I.obj,rfl,rfl,ho⟩,hl⟩
section
variable{prog:Program}{w:World}{A:Around}{E:Value->Shared->Prop}{s:Shared}{K:W.Frag}{x dx C f:Addr}{mA:Str->Option Value}{name:Str}{v:Value}
theorem get_map{expr:Bool}{Q:Value->Shared->Prop}(X:K.In s.heap)(I:aFi s.heap x dx C mA)(hg:PySem.W.plainGet K C name=true)(hh:PySem.W.hasDictIn K C=true)
  (ha:W.findIn K (.ref C) name=some none) (hv:mA name=some v) (hv':PySem.W.handedIn v=true) (h:Q v { s with toks:=s.toks+1 }) :
  wpAny (model prog w) A (getAttr (.ref x) name expr) Q E s:=by
 obtain⟨od,J,hl⟩:=I.look
 exact PySem.W.get_value X J (PySem.W.plainGet_of hg).1 (PySem.W.findObj_own hh ha rfl (by rw[hl,hv])) hv' h
theorem aH0{pl:Sem Bool}{Q:Value×List Value->Shared->Prop}(X:K.In s.heap)(I:aFi s.heap x dx C mA)(hg:PySem.W.plainGet K C name=true)
  (hf:W.findIn K (.ref C) name=some (some (.ref f))) (ht:PySem.W.isFn K (.ref f)=true) (hv:mA name=none) (h:Q (.ref f,[.ref x]) s) :
  wpAny (model prog w) A (getMethod (.ref x) name pl) Q E s:=by
 obtain⟨od,J,hl⟩:=I.look
 exact PySem.W.method_fn X J (PySem.W.plainGet_of hg).1 (PySem.W.plainGet_of hg).2 hf (beq_iff_eq.mp ht) (by show(PySem.W.lookIn name od).map (·.isSome)=some false;rw[hl,hv];rfl) h
theorem aJA{ns:List Str}{Q:Unit->Shared->Prop}(X:K.In s.heap)(I:aFi s.heap x dx C mA)
  (hs:PySem.W.findIn K (.ref C) "__setattr__" = some (some (.builtin "object.__setattr__"))) (hp:PySem.W.plainOver K C=true) (ht:PySem.W.takerIn K C name=some none) (hh:PySem.W.hasDictIn K C=true)
  (hw:PySem.Within mA ns) (hsz:ns.length<=sizeLine)
  (h:∀h',aFi h' x dx C (fun y=>if y=name then some v else mA y)->Heap.SameBut dx s.heap h'->Q () { s with heap:=h',toks:=s.toks+2 }) :
  wpAny (model prog w) A (setAttr (.ref x) name v) Q E s:=by
 obtain⟨od,J,hl⟩:=I.look
 refine PySem.W.set_plain X J hs (PySem.W.osa_open (s:={ s with toks:=s.toks+1 }) (r:=none) X J hp ht fun b=>?_)
 obtain⟨cd,hc,hd'⟩:=PySem.W.any_some hh
 have hx:s.heap.get? x=some ⟨.ref C,some dx,.plain,#[]⟩:=I.obj
 refine wpAny_bind (wpAny_pure (wpAny_bind (wpAny_bind (wpAny_loadPart hx (wpAny_bind (PySem.W.Looks.here (s:={ s with toks:=s.toks+1 }) (PySem.W.looks_clsIn X hc) ?_))))))
 rw[hd']
 refine wpAny_pure (a:=some dx) (wpAny_bind (wpAny_pure (wpAny_bind ?_)))
 refine wpAny_nsSet1 (s:={ s with toks:=s.toks+1 }) I.ns fun h' hn2 hs2=>?_
 obtain⟨oD,esD,epD,hoD,hdD,hcD⟩:=hn2.count (PySem.Within.cons name v hw)
 refine wpAny_bind (wpAny_lookBehind hoD (by rw[hdD];exact pastItsLine_dict (Nat.le_trans hcD (by rw[List.length_cons];omega))) ?_)
 exact wpAny_pure (h _ ⟨(hs2.2 _ (Ne.symm I.ne)).trans I.obj,hn2,I.ne⟩ hs2)
theorem aH1{R:Result->Shared->Prop}{vs:List Value}{kw:List (Str×Value)}(X:K.In s.heap)(hm:PySem.W.makesIn K C=true)
  (hi:PySem.W.findIn K (.ref C) "__init__" = some (some (.ref f))) (hf:PySem.W.typeIn K (.ref f)=some (.type "function"))
  (h:codeAny (model prog w) (A.under (.builtin "type.__call__" ⟨.ref C::vs,kw⟩)) (.call (.ref f) ⟨.ref (s.heap.objs.size+1)::vs,kw⟩) (PySem.W.InitBack (s.heap.objs.size+1) R)
   { s with heap:=(s.heap.push PySem.W.emptyDict).push (PySem.W.instObj C s.heap.objs.size) }) :
  codeAny (model prog w) A (.call (.ref C) ⟨vs,kw⟩) R s:=by
 obtain⟨hh,g,d,t,os⟩:=s
 exact PySem.W.make_core (PySem.W.makes_of X hm) (PySem.W.looks_findIn X hi) (fun self=>PySem.W.bind_fn X self hf) (.inl rfl) h
end
def pJ(f:Str)(v:V):List (Str×V)->List (Str×V)
 |[]=>[(f,v)]
 |(g,x)::r=>if g=f then (g,v)::r else (g,x)::pJ f v r
theorem yP(f g:Str)(v:V):∀fs:List (Str×V),(pJ f v fs).lookup g=if g=f then some v else fs.lookup g
 |[]=>by
  show List.lookup g [(f,v)]=_
  by_cases h:g=f
  ·have hb:(g == f)=true:=beq_iff_eq.mpr h
   simp only[List.lookup,hb,if_pos h]
  ·have hb:(g == f)=false:=beq_eq_false_iff_ne.mpr h
   simp only[List.lookup,hb,if_neg h]
 |(k,x)::r=>by
  have ih:=yP f g v r
  rw[show pJ f v ((k,x)::r)=(if k=f then (k,v)::r else (k,x)::pJ f v r) from rfl]
  by_cases hk:k=f
  ·rw[if_pos hk]
   by_cases h:g=k
   ·have hb:(g == k)=true:=beq_iff_eq.mpr h
    simp only[List.lookup,hb,if_pos (h.trans hk)]
   ·have hb:(g == k)=false:=beq_eq_false_iff_ne.mpr h
    simp only[List.lookup,hb,if_neg (fun e:g=f=>h (e.trans hk.symm))]
  ·rw[if_neg hk]
   by_cases h:g=k
   ·have hb:(g == k)=true:=beq_iff_eq.mpr h
    simp only[List.lookup,hb,if_neg (fun e:g=f=>hk (h.symm.trans e))]
   ·have hb:(g == k)=false:=beq_eq_false_iff_ne.mpr h
    simp only[List.lookup,hb]
    exact ih
theorem xQ(f:Str)(v:V):∀fs:List (Str×V),f∈(pJ f v fs).map (·.1)/\∀g,g∈fs.map (·.1)->g∈(pJ f v fs).map (·.1)
 |[]=>⟨by simp[pJ],fun g h=>by simp at h⟩
 |(k,x)::r=>by
  obtain⟨i1,i2⟩:=xQ f v r
  rw[show pJ f v ((k,x)::r)=(if k=f then (k,v)::r else (k,x)::pJ f v r) from rfl]
  by_cases hk:k=f
  ·rw[if_pos hk]
   subst hk
   exact⟨by simp,fun g h=>by simpa using h⟩
  ·rw[if_neg hk]
   refine⟨?_,fun g h=>?_⟩
   ·rw[List.map_cons]
    exact List.mem_cons_of_mem _ i1
   ·rw[List.map_cons] at h ⊢
    rcases List.mem_cons.mp h with e|e
    ·exact List.mem_cons.mpr (.inl e)
    ·exact List.mem_cons_of_mem _ (i2 g e)
theorem yQ(f:Str)(v:V):∀fs:List (Str×V),(pJ f v fs).length<=fs.length+1
 |[]=>by simp[pJ]
 |(k,x)::r=>by
  have ih:=yQ f v r
  rw[show pJ f v ((k,x)::r)=(if k=f then (k,v)::r else (k,x)::pJ f v r) from rfl]
  by_cases hk:k=f
  ·rw[if_pos hk,List.length_cons,List.length_cons];omega
  ·rw[if_neg hk,List.length_cons,List.length_cons];omega
theorem rA.some_of{v:V}{o:Option Value}(r:rA (some v) o):∃u,o=some u/\RelV v u:=by
 cases o with
 |none=>exact(show False from r).elim
 |some u=>exact⟨u,rfl,r⟩
theorem rA.none_of{o:Option Value}(r:rA none o):o=none:=by
 cases o with
 |none=>rfl
 |some u=>exact(show False from r).elim
theorem aG0{v:V}{u:Value}(r:RelV v u):PySem.W.handedIn u=true:=by
 cases v with
 |non=>cases (show u=Value.none from r);rfl
 |bl b=>cases (show u=Value.bool b from r);rfl
 |int i=>obtain⟨t,e⟩:=(show ∃t,u=Value.int i t from r);cases e;rfl
 |str x=>obtain⟨t,e⟩:=(show ∃t,u=Value.str x t from r);cases e;rfl
 |byt b=>obtain⟨t,e⟩:=(show ∃t,u=Value.bytes b t from r);cases e;rfl
 |flt b=>obtain⟨t,e⟩:=(show ∃t,u=Value.float b t from r);cases e;rfl
 |ref a=>cases (show u=Value.ref a from r);rfl
 |ty n=>cases (show u=Value.type n from r);rfl
section
variable{P:Program}{w:World}{H H':Hp}{h h':Heap}{a C dx:Addr}{fs fs':List (Str×V)}
theorem aAa(hok:qY P w H h)(e:H a=some (.ins C dx fs)):∃mA,aFi h a dx C mA/\(∀f,rA (fs.lookup f) (mA f))/\PySem.Within mA (fs.map (·.1))/\fs.length<=1000/\H dx=some (.own a):=by
 obtain⟨d,z,ne,ob,mA,n,r,q⟩:=(show bI P w H h a (.ins C dx fs) from hok a _ e)
 exact⟨mA,⟨ob,n,ne⟩,r,q,z,d⟩
end
structure Cls(K:W.Frag)(C:Addr):Prop where
 pg:PySem.W.plainGet K C Str.empty=true
 hd:PySem.W.hasDictIn K C=true
 po:PySem.W.plainOver K C=true
 sa:PySem.W.findIn K (.ref C) "__setattr__" = some (some (.builtin "object.__setattr__"))
theorem Cls.get{K:W.Frag}{C:Addr}(c:Cls K C)(f:Str):PySem.W.plainGet K C f=true:=c.pg
def eB(K:W.Frag)(C:Addr)(f:Str):Prop:=W.findIn K (.ref C) f=some none
theorem eB.aMp{K:W.Frag}{C:Addr}{f:Str}(n:eB K C f):PySem.W.takerIn K C f=some none:=by
 unfold PySem.W.takerIn
 rw[show W.findIn K (.ref C) f=some none from n]
 rfl
structure Meth(K:W.Frag)(C:Addr)(m:Str)(f:Addr):Prop where
 at_:W.findIn K (.ref C) m=some (some (.ref f))
 fn:PySem.W.isFn K (.ref f)=true
 kp:W.keepIn K (.ref f)=true
section
variable{X:Cx}{pins:List (Addr×Obj)}{σ:St}{H:Hp}{s:Shared}{a C dx:Addr}{fs:List (Str×V)}{f:Str}{v:V}{A:Around}{E:Value->Shared->Prop}
theorem aFj{b:Bool}{Q:Value->Shared->Prop}(I:Inv X pins σ H s)(e:H a=some (.ins C dx fs))(c:Cls X.K C)(n:eB X.K C f)(l:fs.lookup f=some v)
  (h:∀u s',Inv X pins σ H s'->RelV v u->Q u s'):wpAny (model X.prog X.w) A (getAttr (.ref a) f b) Q E s:=by
 obtain⟨mA,O,r,_,_,_⟩:=aAa I.hok e
 obtain⟨u,hu,ru⟩:=rA.some_of (v:=v) (o:=mA f) (by rw[<-l];exact r f)
 exact get_map I.xJ O (c.get f) c.hd n hu (aG0 ru) (h u _ (I.tok _) ru)
theorem aFk{m:Str}{g:Addr}{pl:Sem Bool}{Q:Value×List Value->Shared->Prop}(I:Inv X pins σ H s)(e:H a=some (.ins C dx fs))(c:Cls X.K C)(k:Meth X.K C m g)(l:fs.lookup m=none)
  (h:Q (.ref g,[.ref a]) s):wpAny (model X.prog X.w) A (getMethod (.ref a) m pl) Q E s:=by
 obtain⟨mA,O,r,_,_,_⟩:=aAa I.hok e
 have hn:mA m=none:=rA.none_of (by rw[<-l];exact r m)
 exact aH0 I.xJ O (c.get m) k.at_ k.fn hn h
theorem aFl{y:V}{u:Value}{Q:Unit->Shared->Prop}(I:Inv X pins σ H s)(e:H a=some (.ins C dx fs))(c:Cls X.K C)(n:eB X.K C f)(hl:fs.length < 1000)(ry:RelV y u)
  (h:∀s',Inv X pins σ (upd H a (.ins C dx (pJ f y fs))) s'->Q () s'):wpAny (model X.prog X.w) A (setAttr (.ref a) f u) Q E s:=by
 obtain⟨mA,O,r,wi,_,ho⟩:=aAa I.hok e
 have hz:(fs.map (·.1)).length<=sizeLine:=by rw[List.length_map,sizeLine_eq];omega
 refine aJA I.xJ O c.sa c.po n.aMp c.hd wi hz fun h' O' sb=>h _ ?_
 have hd:∃o,h'.get? dx=some o:=let ⟨o,_,_,e',_⟩:=O'.ns;⟨o,e'⟩
 refine I.write (x:=a) (e:=dx) (by rw[e];exact True.intro) (.inr ho) (fun b q hb z=>(sb.2 b hb).trans z) hd ?_
 refine⟨by rw[aJ O.ne];exact ho,?_,O.ne,O'.obj,_,O'.ns,fun g=>?_,fun g hg=>?_⟩
 ·have:=yQ f y fs;omega
 ·show rA ((pJ f y fs).lookup g) (if g=f then some u else mA g)
  rw[yP]
  by_cases q:g=f
  ·rw[if_pos q,if_pos q];exact ry
  ·rw[if_neg q,if_neg q];exact r g
 ·by_cases q:g=f
  ·rw[q];exact(xQ f y fs).1
  ·refine(xQ f y fs).2 g (wi g fun z=>hg ?_)
   show(if g=f then some u else mA g)=none
   rw[if_neg q];exact z
theorem Inv.made(I:Inv X pins σ H s):Inv X pins σ (upd (upd H s.heap.objs.size (.own (s.heap.objs.size+1))) (s.heap.objs.size+1) (.ins C s.heap.objs.size []))
  { s with heap:=(s.heap.push PySem.W.emptyDict).push (PySem.W.instObj C s.heap.objs.size) }:=by
 have e1:(s.heap.push PySem.W.emptyDict).get? s.heap.objs.size=some PySem.W.emptyDict:=Heap.get?_push_size s.heap rfl
 have e2:((s.heap.push PySem.W.emptyDict).push (PySem.W.instObj C s.heap.objs.size)).get? (s.heap.objs.size+1)=some (PySem.W.instObj C s.heap.objs.size):=by
  have:=Heap.get?_push_size (s.heap.push PySem.W.emptyDict) (o:=PySem.W.instObj C s.heap.objs.size) rfl
  rwa[Heap.size_push] at this
 have e3:(s.heap.push PySem.W.emptyDict).Ns s.heap.objs.size (fun _=>none):=⟨PySem.W.emptyDict,#[],_,e1,rfl,(fun e he=>absurd he (by simp)),fun _=>rfl⟩
 have I1:=I.laid (a:=s.heap.objs.size) (o:=.own (s.heap.objs.size+1)) (h':=s.heap.push PySem.W.emptyDict) (t':=s.toks) (fun b u q=>Heap.get?_push_of_some _ q) (Nat.le_refl _) ⟨_,e1⟩
 refine I1.laid (a:=s.heap.objs.size+1) (o:=.ins C s.heap.objs.size []) (t':=s.toks) (fun b u q=>Heap.get?_push_of_some _ q) (Nat.le_of_eq (Heap.size_push _ _)) ?_
 have ne:s.heap.objs.size≠s.heap.objs.size+1:=Nat.ne_of_lt (Nat.lt_succ_self _)
 refine⟨by rw[aJ ne,aH],Nat.zero_le _,ne,e2,fun _=>none,(Heap.Ns1.of_empty e3).at fun o q=>Heap.get?_push_of_some _ q,fun _=>True.intro,fun y hy=>absurd rfl hy⟩
theorem aJB{prog:Program}{w:World}{env:Env}{e:Expr}{f:Str}{pos:Pos}{s:Shared}{Q:Value->Shared->Prop}(hb:attributeBase e f env (eval e env)=eval e env)
  (h:wpAny (model prog w) A (eval e env) (fun o s₁=>wpAny (model prog w) A (getAttr o f true) Q E s₁) E s):wpAny (model prog w) A (eval (.Attribute e f pos) env) Q E s:=
 Attribute_any_ h (by rw[arm_eval_Attribute,hb])
end
def aK3(K:W.Frag)(ta:TE)(f:Str):TE:=fun σ H Q=>ta σ H fun x H1=>∃a C dx fs v,x=.ref a/\H1 a=some (.ins C dx fs)/\Cls K C/\eB K C f/\fs.lookup f=some v/\Q v H1
def aK4(K:W.Frag)(ta tv:TE)(f:Str):TS:=fun D σ H=>tv σ H fun y H1=>ta σ H1 fun x H2=>∃a C dx fs,x=.ref a/\H2 a=some (.ins C dx fs)/\Cls K C/\eB K C f/\fs.length < 1000/\
 D.nx σ (upd H2 a (.ins C dx (pJ f y fs)))
section
variable{X:Cx}{o e value:Expr}{f:Str}{pos pos' tpos:Pos}{ta tv:TE}
theorem aK5(he:PE X e ta)(hb:attributeBase e f X.env (eval e X.env)=eval e X.env):PE X (.Attribute e f pos) (aK3 X.K ta f):=by
 intro pins s σ H Q I h
 refine aJB hb (cN (he pins s σ H _ I h) fun u s1 ⟨x,H1,I1,rx,a,C,dx,fs,v,ex,ea,c,n,l,q⟩=>?_)
 subst ex
 obtain rfl:u=Value.ref a:=rx
 exact aFj I1 ea c n l fun u' s2 I2 ru=>⟨v,H1,I2,ru,q⟩
theorem aK6(ha:PE X o ta)(hv:PE X value tv)(hs:swapsWith value (some (.Attribute o f pos')) pos.line X.env=pure false):PS X (.Assign [.Attribute o f pos'] value pos) (aK4 X.K ta tv f):=by
 intro pins s σ H D I h
 refine plainObj_wpAny_Assign_Attribute (cN (hv pins s σ H _ I h) fun u s1 ⟨y,H1,I1,ry,q⟩=>cN (ha pins s1 σ H1 _ I1 q) fun ov s2 ⟨x,H2,I2,rx,a,C,dx,fs,ex,ea,c,n,l,q2⟩=>?_) hs
 subst ex
 obtain rfl:ov=Value.ref a:=rx
 exact aFl I2 ea c n l ry fun s3 I3=>⟨σ,_,I3,q2⟩
end
section
variable{X:Cx}{pins:List (Addr×Obj)}{σ:St}{H:Hp}{s:Shared}{A:Around}{E:Value->Shared->Prop}{Q:Value->Shared->Prop}{c:Value}{b:Bool}
inductive vT (K:W.Frag) (H:Hp):V->Value->Prop where
 |non:vT K H .non (.type "NoneType")
 |bl (x:Bool):vT K H (.bl x) (.type "bool")
 |int (i:Int):vT K H (.int i) (.type "int")
 |str (x:Str):vT K H (.str x) (.type "str")
 |flt (x:UInt64):vT K H (.flt x) (.type "float")
 |lst {a:Addr} {xs:List V} (e:H a=some (.lst xs)):vT K H (.ref a) (.type "list")
 |frz {a:Addr} {o:Obj} {xs:List V} (e:H a=some (.frz o (.lst xs))):vT K H (.ref a) (.type "list")
 |tup {a:Addr} {xs:List V} (e:H a=some (.tup xs)):vT K H (.ref a) (.type "tuple")
 |dK {a:Addr} {kvs:List (Key×V)} (e:H a=some (.dK kvs)):vT K H (.ref a) (.type "dict")
 |dT {a:Addr} {kvs:List (List Key×V)} (e:H a=some (.dT kvs)):vT K H (.ref a) (.type "dict")
 |ins {a C dx:Addr} {fs:List (Str×V)} (e:H a=some (.ins C dx fs)) (cl:Cls K C) (ha:PySem.W.findIn K (.ref C) "__class__" = some (some (.builtin "object.__class__")))
   (hn:PySem.W.specialIn K (.builtin "object.__class__") "__get__" = some (some (.builtin "getset_descriptor.__get__"))) (htk:PySem.W.takesIn K (.builtin "object.__class__")=some true)
   (hm:PySem.W.mroIn K C (.type "object")=some true):vT K H (.ref a) (.ref C)
theorem aCn{x:V}{u t:Value}(I:Inv X pins σ H s)(rx:RelV x u)(ty:vT X.K H x t)(e:PySem.W.kitOne X.K t c=some b)(h:∀tk,Q (.bool b) { s with toks:=tk }) :
  wpAny (model X.prog X.w) A (call (.builtin "isinstance") [u,c]) Q E s:=by
 cases ty with
 |non=>cases (show u=Value.none from rx);exact PySem.W.kia_one PySem.W.kitx_none I.xJ True.intro e (fun z=>nomatch z) h
 |bl y=>cases (show u=Value.bool y from rx);exact PySem.W.kia_one PySem.W.kitx_bool I.xJ True.intro e (fun z=>nomatch z) h
 |int i=>obtain⟨t,q⟩:=(show ∃t,u=Value.int i t from rx);cases q;exact PySem.W.kia_one PySem.W.kitx_int I.xJ True.intro e (fun z=>nomatch z) h
 |str y=>obtain⟨t,q⟩:=(show ∃t,u=Value.str y t from rx);cases q;exact PySem.W.kia_one PySem.W.kitx_str I.xJ True.intro e (fun z=>nomatch z) h
 |flt y=>obtain⟨t,q⟩:=(show ∃t,u=Value.float y t from rx);cases q;exact PySem.W.kia_one PySem.W.kitx_float I.xJ True.intro e (fun z=>nomatch z) h
 |@lst a xs ea=>
  cases (show u=Value.ref a from rx)
  obtain⟨_,_,n,_,h1⟩:=(show bI X.prog X.w H s.heap a (.lst xs) from I.hok a _ ea)
  exact PySem.W.kia_one PySem.W.kitx_list I.xJ ⟨_,h1,rfl⟩ e (fun z=>nomatch z) h
 |@frz a ob xs ea=>
  cases (show u=Value.ref a from rx)
  obtain⟨_,_,_,n,_,h1⟩:=(show bI X.prog X.w H s.heap a (.frz ob (.lst xs)) from I.hok a _ ea)
  exact PySem.W.kia_one PySem.W.kitx_list I.xJ ⟨_,h1,rfl⟩ e (fun z=>nomatch z) h
 |@tup a xs ea=>
  cases (show u=Value.ref a from rx)
  obtain⟨_,_,_,p⟩:=(show bI X.prog X.w H s.heap a (.tup xs) from I.hok a _ ea)
  obtain⟨o,h1,h2,_⟩:=p
  exact PySem.W.kia_one PySem.W.kitx_tuple I.xJ ⟨o,h1,h2⟩ e (fun z=>nomatch z) h
 |@dK a kvs ea=>
  cases (show u=Value.ref a from rx)
  obtain⟨_,_,vs,_,p⟩:=(show bI X.prog X.w H s.heap a (.dK kvs) from I.hok a _ ea)
  obtain⟨o,es,ep,h1,h2,_⟩:=p
  exact PySem.W.kia_one PySem.W.kitx_dict I.xJ ⟨o,h1,h2.1⟩ e (fun z=>nomatch z) h
 |@dT a kvs ea=>
  cases (show u=Value.ref a from rx)
  obtain⟨_,_,xs,_,o,es,ep,h1,h2,_⟩:=(show bI X.prog X.w H s.heap a (.dT kvs) from I.hok a _ ea)
  exact PySem.W.kia_one PySem.W.kitx_dict I.xJ ⟨o,h1,h2.1⟩ e (fun z=>nomatch z) h
 |@ins a C dx fs ea cl ha hn htk hm=>
  cases (show u=Value.ref a from rx)
  obtain⟨mA,O,_⟩:=aAa I.hok ea
  obtain⟨od,J,_⟩:=O.look
  exact PySem.W.kia_one (PySem.W.kitx_own (cl.get _) cl.hd ha hn htk hm) I.xJ J e (fun z=>nomatch z) h
end
end L2
namespace L2
open PySem PySem.Spec PyProof.Rows
structure dI(k:Nat)(A:Around):Prop where
 hd:A.handled=none
 dp:A.depth+3*k+5 < recursionLimit
 un:A.units+16*k+200 < cLine
theorem dI.mono{j k:Nat}{A:Around}(r:dI k A)(h:j<=k):dI j A:=⟨r.hd,by have:=r.dp;omega,by have:=r.un;omega⟩
theorem dI.deeper{k:Nat}{A:Around}(r:dI (k+1) A)(env:Env):dI k (A.deeper env):=
 ⟨r.hd,by have:=r.dp;show A.depth+1+3*k+5 < _;omega,by have:=r.un;show A.units+3+16*k+200 < _;omega⟩
theorem aFm{A:Around}{C:Addr}{us:List Value}{kw:List (Str×Value)}:(A.under (.builtin "type.__call__" ⟨.ref C::us,kw⟩)).depth=A.depth+1:=by
 first|rfl|simp[Around.under,Code.weight,Code.isCreation,Code.isGuard,Code.isCaller,Code.frames,Code.isFrame,guardIds]
theorem aFn{A:Around}{C:Addr}{us:List Value}{kw:List (Str×Value)}:(A.under (.builtin "type.__call__" ⟨.ref C::us,kw⟩)).units=A.units+1:=by
 first|rfl|simp[Around.under,Code.cUnits,Code.frames,Code.isFrame]
theorem dI.make{k:Nat}{A:Around}(r:dI (k+1) A)(C:Addr)(us:List Value)(kw:List (Str×Value)):dI k (A.under (.builtin "type.__call__" ⟨.ref C::us,kw⟩)):=
 ⟨r.hd,by have:=r.dp;rw[aFm];omega,by have:=r.un;rw[aFn];omega⟩
theorem dI.depth{k:Nat}{A:Around}(r:dI k A):A.depth < recursionLimit:=by have:=r.dp;omega
theorem dI.units{k:Nat}{A:Around}(r:dI k A):A.units+64 < cLine:=by have:=r.un;omega
def pK:TA:=fun _ H Q=>Q [] H
def bM(ta:TE)(tr:TA):TA:=fun σ H Q=>ta σ H fun x H1=>tr σ H1 fun xs H2=>Q (x::xs) H2
section
variable{X:Cx}{e:Expr}{es:List Expr}{te:TE}{t:TA}{pos:Pos}
theorem aC:PA X [] pK:=fun _ _ _ _ H Q I h=>Calls.spliced_nil ⟨[],H,I,.nil,h⟩
theorem aJC(ha:PE X e te)(hr:PA X es t)(hs:starEach (e::es) X.env=(false,eval e X.env)::starEach es X.env:=by rfl):PA X (e::es) (bM te t):=by
 intro pos pins s σ H Q I h
 rw[hs]
 show wpAny _ _ (spliced ((false,eval e X.env)::backTo pos (starEach es X.env))) _ _ s
 refine Calls.spliced_cons (cN (ha pins s σ H _ I h) fun u s1 ⟨x,H1,I1,r1,q1⟩=>?_)
 exact cN (hr pos pins s1 σ H1 _ I1 q1) fun us s2 ⟨xs,H2,I2,r2,q2⟩=>⟨x::xs,H2,I2,.cons r1 r2,q2⟩
def aG1(t:TA):TE:=fun σ H Q=>t σ H fun xs H1=>xs.length<=sizeLine/\∀p,H1 p=none->Q (.ref p) (upd H1 p (.tup xs))
def xR(t:TA):TE:=fun σ H Q=>t σ H fun xs H1=>xs.length<=sizeLine/\∀p,H1 p=none->Q (.ref p) (upd H1 p (.lst xs))
theorem aH2{x1}(h:PA X es t):PE X (.Tuple es x1 pos) (aG1 t):=by
 intro pins s σ H Q I hq
 refine wpAny_Tuple_spliced (cN (h pos pins s σ H _ I hq) fun us s1 ⟨xs,H1,I1,r,z,q⟩=>⟨by rw[<-r.length];exact z,?_⟩)
 have hf:H1 s1.heap.objs.size=none:=I1.hok.fresh (Nat.le_refl _)
 refine⟨.ref s1.heap.objs.size,upd H1 s1.heap.objs.size (.tup xs),I1.laid (t':=s1.toks) (fun b u e=>Heap.get?_push_of_some _ e) (Nat.le_refl _) ?_,rfl,q _ hf⟩
 exact⟨z,us,r,⟨_,Heap.get?_push_size _ rfl,rfl,_,rfl⟩⟩
theorem gG(h:PA X es t):PE X (.List es pos) (xR t):=by
 intro pins s σ H Q I hq
 refine wpAny_List_spliced (cN (h pos pins s σ H _ I hq) fun us s1 ⟨xs,H1,I1,r,z,q⟩=>⟨by rw[<-r.length];exact z,?_⟩)
 have hf:H1 s1.heap.objs.size=none:=I1.hok.fresh (Nat.le_refl _)
 refine⟨.ref s1.heap.objs.size,upd H1 s1.heap.objs.size (.lst xs),I1.laid (t':=s1.toks) (fun b u e=>Heap.get?_push_of_some _ e) (Nat.le_refl _) ?_,rfl,q _ hf⟩
 exact⟨z,us,0,r,Heap.get?_push_size _ rfl⟩
end
abbrev Sp:=List V->Hp->VK->XK->Prop
abbrev CXT:=List Env->Hp->Shared->XK->Value->Shared->Prop
structure aBB(P:Program)(w:World)(K:W.Frag)(mg:Str->Option Value)(base:Heap)(A:Around)(outer:List Env)(s:Shared)(H:Hp):Prop where
 frames:A.frames=some outer
 mod:Mod K mg base
 bs:∀b o,base.get? b=some o->s.heap.get? b=some o/\H b=none
 bsz:base.objs.size<=s.heap.objs.size
 uC:s.heap.FunFrames base outer
 frf:∀b∈frs outer,H b=none
 hok:qY P w H s.heap
 bare:AllBare s.gens
def CE(outer:List Env)(P:Program)(w:World)(H:Hp)(s:Shared)(Q:VK)(u:Value)(s':Shared):Prop:=
 ∃v H',s'.os=s.os/\AllBare s'.gens/\Un (frs outer) [] H H' s.heap s'.heap/\qY P w H' s'.heap/\RelV v u/\Q v H'
def CR(CX:CXT)(outer:List Env)(P:Program)(w:World)(H:Hp)(s:Shared)(Q:VK)(E:XK)(r:Result)(s':Shared):Prop:=
 match r with
 |.ok (.ret u)=>CE outer P w H s Q u s'
 |.ok _=>False
 |.error e=>CX outer H s E e s'
structure bO(P:Program)(w:World)(K:W.Frag)(mg:Str->Option Value)(base:Heap)(CX:CXT)(k:Nat)(f:Addr)(fd:FuncData)(ps:List Str)(sp:Sp):Prop where
 len:∀vs H Q E,sp vs H Q E->vs.length=ps.length
 run:∀(A:Around) (outer:List Env) (s:Shared) (H:Hp) (args:Args) (us:List Value) (vs:List V) (Q:VK) (E:XK),dI k A->aBB P w K mg base A outer s H->BindsTo s fd args (ps.zip us)->Vals vs us->sp vs H Q E->
  codeAny (model P w) A (.call (.ref f) args) (CR CX outer P w H s Q E) s
theorem bO.imp{P:Program}{w:World}{K:W.Frag}{mg:Str->Option Value}{base:Heap}{CX:CXT}{k:Nat}{f:Addr}{fd:FuncData}{ps:List Str}{sp sp':Sp}(F:bO P w K mg base CX k f fd ps sp)
  (h:∀vs H Q E,sp' vs H Q E->sp vs H Q E):bO P w K mg base CX k f fd ps sp':=
 ⟨fun vs H Q E q=>F.len vs H Q E (h _ _ _ _ q),fun A outer s H args us vs Q E hr he hb hv hs=>F.run A outer s H args us vs Q E hr he hb hv (h _ _ _ _ hs)⟩
theorem aBB.make{P:Program}{w:World}{K:W.Frag}{mg:Str->Option Value}{base:Heap}{A:Around}{outer:List Env}{s:Shared}{H:Hp}(e:aBB P w K mg base A outer s H)(C:Addr)(us:List Value)(kw:List (Str×Value)) :
  aBB P w K mg base (A.under (.builtin "type.__call__" ⟨.ref C::us,kw⟩)) outer s H:=⟨by first|exact e.frames|(simpa [Around.under,Code.envs,Code.isFrame,pushEnvs] using e.frames),e.mod,e.bs,e.bsz,e.uC,e.frf,e.hok,e.bare⟩
section
variable{X:Cx}{pins:List (Addr×Obj)}{σ:St}{H:Hp}{s s':Shared}
theorem Inv.aH3(I:Inv X pins σ H s):aBB X.prog X.w X.K X.mg X.base X.A X.stack s H:=
 ⟨I.ok.frames,I.ok.mod,I.bs,Nat.le_trans I.ok.bsz I.sz,I.stack,I.aCS,I.hok,I.bare⟩
theorem Inv.after{Q:VK}{u:Value}(I:Inv X pins σ H s)(h:CE X.stack X.prog X.w H s Q u s'):EP X pins σ Q u s':=by
 obtain⟨v,H',os,bare,un,hok,r,q⟩:=h
 obtain⟨hh,g,d,t,os'⟩:=s'
 obtain rfl:os'=s.os:=os
 exact⟨v,H',I.call (h':=hh) (g':=g) (d':=d) (t':=t) (ch:=[]) un hok bare (fun b z=>absurd z (by simp)),r,q⟩
end
def aEe(sp:Sp)(dvs:List V)(E:XK)(t:TA):TE:=fun σ H Q=>t σ H fun vs H1=>sp (vs++dvs) H1 Q E
def aGi(C:Addr)(m:Str)(sp:Sp)(dvs:List V)(E:XK)(ta:TE)(t:TA):TE:=fun σ H Q=>ta σ H fun x H1=>∃a dx fs,x=.ref a/\H1 a=some (.ins C dx fs)/\fs.lookup m=none/\
 t σ H1 fun vs H2=>sp (x::(vs++dvs)) H2 Q E
def aEf(C:Addr)(sp:Sp)(dvs:List V)(E:XK)(t:TA):TE:=fun σ H Q=>t σ H fun vs H1=>∀x dx,H1 x=none->H1 dx=none->dx≠x->
 sp (.ref x::(vs++dvs)) (upd (upd H1 dx (.own x)) x (.ins C dx [])) (fun v H2=>v=.non/\Q (.ref x) H2) E
def Binds(K:W.Frag)(fd:FuncData)(ps:List Str)(ds:List Value):Prop:=
 ∀(s:Shared) (us:List Value),K.In s.heap->(us++ds).length=ps.length->BindsTo s fd ⟨us,[]⟩ (ps.zip (us++ds))
theorem Binds.all{K:W.Frag}{fd:FuncData}{ps:List Str}(h:∀us:List Value,us.length=ps.length->bindArgs fd ⟨us,[]⟩=pure (ps.zip us)):Binds K fd ps []:=fun s us _ hl=>by
 rw[List.append_nil] at hl ⊢
 exact .of_eq (h us hl)
def Passes(CX:CXT)(X:Cx)(E:XK):Prop:=∀(pins:List (Addr×Obj)) (σ:St) (H:Hp) (s:Shared) (e:Value) (s':Shared),Inv X pins σ H s->CX X.stack H s E e s'->X.xe e s'
section
variable{X:Cx}{CX:CXT}{k:Nat}{f C:Addr}{fd:FuncData}{ps:List Str}{sp:Sp}{dvs:List V}{ds:List Value}{E:XK}{x m:Str}{p pos apos:Pos}{e o:Expr}{es:List Expr}{ta:TE}{t:TA}
theorem aH4{pins:List (Addr×Obj)}{σ:St}{H:Hp}{s:Shared}{Q:VK}{us:List Value}{vs:List V}(F:bO X.prog X.w X.K X.mg X.base CX k f fd ps sp)(hr:dI k X.A)(hb:Binds X.K fd ps ds)(hd:Vals dvs ds)(hx:Passes CX X E)
  (I:Inv X pins σ H s) (r:Vals vs us) (h:sp (vs++dvs) H Q E):wpAny (model X.prog X.w) X.A (call (.ref f) us) (EP X pins σ Q) X.xe s:=by
 have r2:Vals (vs++dvs) (us++ds):=r.append hd
 have hl:(us++ds).length=ps.length:=by rw[<-r2.length];exact F.len _ _ _ _ h
 refine wpAny_call (codeAny_mono (F.run X.A X.stack s H ⟨us,[]⟩ (us++ds) (vs++dvs) Q E hr I.aH3 (hb s us I.xJ hl) r2 h) fun r s' hq=>?_)
 cases r with
 |error e=>exact hx pins σ H s e s' I hq
 |ok fl=>
  cases fl with
  |ret u=>exact I.after hq
  |next=>exact False.elim hq
  |brk=>exact False.elim hq
  |cont=>exact False.elim hq
theorem aJD(F:bO X.prog X.w X.K X.mg X.base CX k f fd ps sp)(hr:dI k X.A)(hg:Gl X x)(hm:X.mg x=some (.ref f))(hk:W.keepIn X.K (.ref f)=true)(hb:Binds X.K fd ps ds)(hd:Vals dvs ds)(hx:Passes CX X E)
  (ha:PA X (e::es) t) (hdb:(x == ("__debug__" : Str))=false:=by decide) (he:starEach (e::es) X.env=(false,eval e X.env)::starEach es X.env:=by rfl) (hpl:(backTo pos (starEach es X.env)).any (·.1)=false:=by rfl) :
  PE X (.Call (.Name x p) (e::es) [] pos) (aEe sp dvs E t):=by
 intro pins s σ H Q I h
 refine wpAny_Call_Name_kw (z0 I hg hm ?_ hdb)
 refine PySem.W.callWith_K (h₀:=X.base) I.ok.mod.kin hk (cN (ha pos pins s σ H _ I h) fun us s1 ⟨vs,H1,I1,r,q⟩=>⟨I1.xJ,?_⟩) he hpl
 exact aH4 F hr hb hd hx I1 r q
theorem aCZ{pl:Sem Bool}(he:PE X o ta)(c:Cls X.K C)(hm:Meth X.K C m f)(F:bO X.prog X.w X.K X.mg X.base CX k f fd ps sp)(hr:dI k X.A)(hb:Binds X.K fd ps ds)(hd:Vals dvs ds)(hx:Passes CX X E)(ha:PA X (e::es) t)
  (hst:starEach (e::es) X.env=(false,eval e X.env)::starEach es X.env:=by rfl) (hpl:(backTo pos (starEach es X.env)).any (·.1)=false:=by rfl)
  (ht:eval (.Call (.Attribute o m apos) (e::es) [] pos) X.env=(do
   let ov <-eval o X.env
   standAt apos.atName
   let (f,first) <-holding [ov] (getMethod ov m pl)
   callWith pos f first (backTo pos (starEach (e::es) X.env)) (backToKw pos (keywordEach [] X.env))):=by rfl) :
  PE X (.Call (.Attribute o m apos) (e::es) [] pos) (aGi C m sp dvs E ta t):=by
 intro pins s σ H Q I h
 refine PySem.W.methodCall_KW (pl:=pl) (cN (he pins s σ H _ I h) fun u s1 ⟨x,H1,I1,rx,a,dx,fs,ex,ea,l,q⟩=>?_) ht
 subst ex
 obtain rfl:u=Value.ref a:=rx
 refine aFk I1 ea c hm l ?_
 refine PySem.W.callWith_K (first:=[.ref a]) (h₀:=X.base) I.ok.mod.kin hm.kp (cN (ha pos pins s1 σ H1 _ I1 q) fun us s2 ⟨vs,H2,I2,r,q2⟩=>⟨I2.xJ,?_⟩) hst hpl
 exact aH4 (us:=.ref a::us) (vs:=.ref a::vs) F hr hb hd hx I2 (.cons rfl r) q2
structure Mk(K:W.Frag)(C f:Addr):Prop where
 makes:PySem.W.makesIn K C=true
 init:PySem.W.findIn K (.ref C) "__init__" = some (some (.ref f))
 fn:PySem.W.isFn K (.ref f)=true
 kp:W.keepIn K (.ref C)=true
theorem aH5{pins:List (Addr×Obj)}{σ:St}{H:Hp}{s:Shared}{Q:VK}{us:List Value}{vs:List V}(M:Mk X.K C f)(F:bO X.prog X.w X.K X.mg X.base CX k f fd ps sp)(hr:dI (k+1) X.A)(hb:Binds X.K fd ps ds)(hd:Vals dvs ds)
  (hx:Passes CX X E) (I:Inv X pins σ H s) (r:Vals vs us)
  (h:∀x dx,H x=none->H dx=none->dx≠x->sp (.ref x::(vs++dvs)) (upd (upd H dx (.own x)) x (.ins C dx [])) (fun v H2=>v=.non/\Q (.ref x) H2) E) :
  wpAny (model X.prog X.w) X.A (call (.ref C) us) (EP X pins σ Q) X.xe s:=by
 have hq:=h (s.heap.objs.size+1) s.heap.objs.size (I.hok.fresh (Nat.le_succ _)) (I.hok.fresh (Nat.le_refl _)) (Nat.ne_of_lt (Nat.lt_succ_self _))
 have I2:=Inv.made (C:=C) I
 have r2:Vals (V.ref (s.heap.objs.size+1)::(vs++dvs)) (Value.ref (s.heap.objs.size+1)::(us++ds)):=.cons rfl (r.append hd)
 have hl:(Value.ref (s.heap.objs.size+1)::us++ds).length=ps.length:=by
  have e:=r2.length
  rw[F.len _ _ _ _ hq] at e
  exact e.symm
 refine wpAny_call (aH1 (f:=f) I.xJ M.makes M.init (beq_iff_eq.mp M.fn) (codeAny_mono (F.run _ X.stack _ _ ⟨Value.ref (s.heap.objs.size+1)::us,[]⟩ (Value.ref (s.heap.objs.size+1)::(us++ds)) _ _ E (hr.make C us [])
  (I2.aH3.make C us []) (hb _ (Value.ref (s.heap.objs.size+1)::us) I2.xJ hl) r2 hq) fun r s' hq'=>?_))
 cases r with
 |error e=>exact hx pins σ _ _ e s' I2 hq'
 |ok fl=>
  cases fl with
  |ret u=>
   obtain⟨v,H',I3,rv,ev,q3⟩:=I2.after hq'
   subst ev
   exact⟨rv,⟨V.ref (s.heap.objs.size+1),H',I3,rfl,q3⟩⟩
  |next=>exact False.elim hq'
  |brk=>exact False.elim hq'
  |cont=>exact False.elim hq'
theorem aJE(M:Mk X.K C f)(F:bO X.prog X.w X.K X.mg X.base CX k f fd ps sp)(hr:dI (k+1) X.A)(hg:Gl X x)(hm:X.mg x=some (.ref C))(hb:Binds X.K fd ps ds)(hd:Vals dvs ds)(hx:Passes CX X E)
  (ha:PA X (e::es) t) (hdb:(x == ("__debug__" : Str))=false:=by decide) (he:starEach (e::es) X.env=(false,eval e X.env)::starEach es X.env:=by rfl) (hpl:(backTo pos (starEach es X.env)).any (·.1)=false:=by rfl) :
  PE X (.Call (.Name x p) (e::es) [] pos) (aEf C sp dvs E t):=by
 intro pins s σ H Q I h
 refine wpAny_Call_Name_kw (z0 I hg hm ?_ hdb)
 refine PySem.W.callWith_K (h₀:=X.base) I.ok.mod.kin M.kp (cN (ha pos pins s σ H _ I h) fun us s1 ⟨vs,H1,I1,r,q⟩=>⟨I1.xJ,?_⟩) he hpl
 exact aH5 M F hr hb hd hx I1 r q
end
def PK(X:Cx)(kws:List Keyword)(t:TA):Prop:=
 ∀(pos:Pos) (pins:List (Addr×Obj)) (s:Shared) (σ:St) (H:Hp) (Q:List V->Hp->Prop),Inv X pins σ H s->t σ H Q->wpAny (model X.prog X.w) X.A (evalAll ((backToKw pos (keywordEach kws X.env)).map (·.2))) (AP X pins σ Q) X.xe s
section
variable{X:Cx}{CX:CXT}{k:Nat}{f C:Addr}{fd:FuncData}{ps ks:List Str}{sp:Sp}{E:XK}{x m:Str}{p pos apos kpos:Pos}{e o:Expr}{es:List Expr}{kws:List Keyword}{te ta:TE}{t tk:TA}{nm:Option Str}
variable{g:List Value->List Value->List Value}{gV:List V->List V->List V}
end
structure aX(N P:List Str)(sc:Scope):Prop where
 kind:sc.kind=.function
 co:sc.isCoroutine=false
 gen:sc.isGenerator=false
 nd:N.Nodup
 pre:N.take P.length=P
 par:∀x∈P,sc.names.lookup x=some .local\/sc.names.lookup x=some .cell
 nofree:∀y∈sc.names,y.2≠.free
theorem aCo{kindOf:Str->Option NameKind}{x:Str}:∀{binds:List (Str×Value)}{m:Str->Option Value},(∀v,(x,v)∉binds)->bindL kindOf binds m x=m x
 |[],_,_=>rfl
 |(n,v)::r,m,h=>by
  unfold bindL
  rw[aCo fun w hw=>h w (List.mem_cons_of_mem _ hw)]
  split
  ·have:x≠n:=by rintro rfl;exact h v List.mem_cons_self
   simp[this]
  ·rfl
theorem aCp{kindOf:Str->Option NameKind}{x:Str}:∀{binds:List (Str×Value)}{m:Str->Option Value},(∀v,(x,v)∉binds)->bindC kindOf binds m x=m x
 |[],_,_=>rfl
 |(n,v)::r,m,h=>by
  unfold bindC
  rw[aCp fun w hw=>h w (List.mem_cons_of_mem _ hw)]
  split
  ·rfl
  ·have:x≠n:=by rintro rfl;exact h v List.mem_cons_self
   simp[this]
theorem aCq{kindOf:Str->Option NameKind}{x:Str}{v:Value}:∀{P:List Str}{vs:List Value}{i:Nat}{m:Str->Option Value},P.Nodup->P[i]?=some x->vs[i]?=some v->kindOf x=some .local->
  bindL kindOf (P.zip vs) m x=some v
 |[],_,_,_,_,h,_,_=>by simp at h
 |_::_,[],_,_,_,_,h,_=>by simp at h
 |p::P,w::vs,0,m,nd,h1,h2,hk=>by
  simp at h1 h2;subst h1;subst h2
  show bindL kindOf ((p,w)::P.zip vs) m p=_
  unfold bindL
  rw[aCo fun v hv=>(List.nodup_cons.mp nd).1 (List.of_mem_zip hv).1,if_pos hk]
  simp
 |p::P,w::vs,i+1,m,nd,h1,h2,hk=>by
  show bindL kindOf ((p,w)::P.zip vs) m x=_
  unfold bindL
  exact aCq (i:=i) (List.nodup_cons.mp nd).2 (by simpa using h1) (by simpa using h2) hk
theorem aCr{kindOf:Str->Option NameKind}{x:Str}{v:Value}:∀{P:List Str}{vs:List Value}{i:Nat}{m:Str->Option Value},P.Nodup->P[i]?=some x->vs[i]?=some v->kindOf x≠some .local->
  bindC kindOf (P.zip vs) m x=some v
 |[],_,_,_,_,h,_,_=>by simp at h
 |_::_,[],_,_,_,_,h,_=>by simp at h
 |p::P,w::vs,0,m,nd,h1,h2,hk=>by
  simp at h1 h2;subst h1;subst h2
  show bindC kindOf ((p,w)::P.zip vs) m p=_
  unfold bindC
  rw[aCp fun v hv=>(List.nodup_cons.mp nd).1 (List.of_mem_zip hv).1,if_neg hk]
  simp
 |p::P,w::vs,i+1,m,nd,h1,h2,hk=>by
  show bindC kindOf ((p,w)::P.zip vs) m x=_
  unfold bindC
  exact aCr (i:=i) (List.nodup_cons.mp nd).2 (by simpa using h1) (by simpa using h2) hk
def start(N:List Str)(vs:List V):St:=vs.map some++List.replicate (N.length - vs.length) none
def aFo(CX:CXT)(P:Program)(w:World)(K:W.Frag)(mg:Str->Option Value)(base:Heap)(N:List Str)(qual:Str)(scope:Scope)(f:Addr)(cd:Value)(A:Around)(outer:List Env)(s:Shared)(H:Hp)(E:XK):Cx where
 prog:=P
 w:=w
 K:=K
 mg:=mg
 base:=base
 A:=A.deeper (envOfC qual scope s.heap.objs.size f cd)
 N:=N
 s₀:=s
 H₀:=H
 env:=envOfC qual scope s.heap.objs.size f cd
 outer:=outer
 stack:=envOfC qual scope s.heap.objs.size f cd::outer
 ex:=[]
 calm:=true
 fn:=fun _=>true
 pn:=[]
 xe:=fun e s'=>wpAny (model P w) (A.deeper (envOfC qual scope s.heap.objs.size f cd)) (leaving (envOfC qual scope s.heap.objs.size f cd) e) (fun _ s''=>CX outer H s E e s'') (fun e' s''=>CX outer H s E e' s'') s'
theorem aEg{sc:Scope}{n:Nat}{x:Str}(h:sc.names.lookup x=some .cell):∃c,(cellsFrom n sc.names []).lookup x=some c:=by
 have q:=PySem.W.cellsFrom_some sc.names n [] (.inl h)
 exact Option.isSome_iff_exists.mp q
theorem aG2{CX:CXT}{P:Program}{w:World}{K:W.Frag}{mg:Str->Option Value}{base:Heap}{N ps:List Str}{qual:Str}{scope:Scope}{f:Addr}{cd:Value}{A:Around}{outer:List Env}{s s1:Shared}{H:Hp}{E:XK}{us:List Value}{vs:List V}
  (S:aX N ps scope) (hd:A.handled=none) (e0:aBB P w K mg base A outer s H) (hl:vs.length=ps.length) (r:Vals vs us)
  (x:InCallC s s.heap.objs.size (bindL (envOfC qual scope s.heap.objs.size f cd).kindOf (ps.zip us) fun _=>none) (cellsFrom (s.heap.objs.size+1) scope.names []) (bindC (envOfC qual scope s.heap.objs.size f cd).kindOf (ps.zip us) fun _=>none) s1) :
  Inv (aFo CX P w K mg base N qual scope f cd A outer s H E) [] (start N vs) H s1:=by
 have hpl:ps.length<=N.length:=by have:=congrArg List.length S.pre;rw[List.length_take] at this;omega
 obtain⟨h1,tk,rfl,hk⟩:=x.done
 have noA:∀b:Addr,b∉(aFo CX P w K mg base N qual scope f cd A outer s H E).ex:=fun b z=>absurd (show b∈([]:List Addr) from z) (by simp)
 refine⟨⟨e0.mod,S.kind,rfl,rfl,Nat.le_refl _,fun y z c h1 h2=>?_,fun y hy=>?_,fun y c _ h=>?_,fun _=>hd,Around.frames_deeper e0.frames,.inr ⟨rfl,rfl⟩,fun b z=>absurd z (noA b),e0.bs,e0.bsz,fun b _ _=>noA b,fun b z=>absurd z (noA b),e0.uC,e0.frf⟩,
  rfl,e0.bare,Un.kept hk,⟨_,x.toInCall.ns,fun i y v h1 h2 h3=>?_⟩,fun y c h=>⟨_,x.cell y c h⟩,e0.hok.fresh (Nat.le_refl _),fun y c h=>?_,fun p hp=>absurd (show p∈([]:List (Addr×Obj)) from hp) (by simp),e0.hok.kept hk,?_⟩
 ·exact name_of_addr x.apart (PySem.mem_of_lookup h1) (PySem.mem_of_lookup h2)
 ·have hy:scope.names.lookup y=some .cell\/scope.names.lookup y=some .free:=hy
  rcases hy with hy|hy
  ·exact aEg hy
  ·exact absurd rfl (S.nofree _ (PySem.mem_of_lookup hy))
 ·exact Nat.le_of_lt (x.above y c (PySem.mem_of_lookup h))
 ·have hi:i < vs.length:=by
   unfold start at h2
   by_cases hi:i < vs.length
   ·exact hi
   ·rw[List.getElem?_append_right (by simpa using hi)] at h2
    rw[List.getElem?_replicate] at h2
    split at h2 <;> cases h2
  have ha:vs[i]?=some v:=by
   unfold start at h2
   rw[List.getElem?_append_left (by simpa using hi),List.getElem?_map] at h2
   cases e:vs[i]? with
   |none=>rw[e] at h2;cases h2
   |some a=>rw[e] at h2;cases h2;rfl
  obtain⟨u,hu,rv⟩:=r.get ha
  have hp:ps[i]?=some y:=by
   rw[<-S.pre,List.getElem?_take_of_lt (by omega)];exact h1
  have ndP:ps.Nodup:=by rw[<-S.pre];exact S.nd.sublist (List.take_sublist _ _)
  refine⟨u,rv,?_⟩
  rcases S.par y (List.mem_of_getElem? hp) with k|k
  ·exact .inl ⟨k,aCq ndP hp hu k⟩
  ·obtain⟨c,e⟩:=aEg (n:=s.heap.objs.size+1) k
   refine .inr ⟨.inl k,c,e,?_⟩
   have q:=x.cell y c e
   rw[aCr ndP hp hu (by show scope.names.lookup y≠_;rw[k];decide)] at q
   exact q
 ·exact e0.hok.fresh (Nat.le_of_lt (x.above y c (PySem.mem_of_lookup h)))
 ·unfold start
  show _=N.length
  rw[List.length_append,List.length_map,List.length_replicate]
  omega
theorem aKy{CX:CXT}{P:Program}{w:World}{K:W.Frag}{mg:Str->Option Value}{base:Heap}{k:Nat}{f:Addr}{name qual:Str}{params:Arguments}{body:List Stmt}{scope:Scope}{dV kV doc pm cdv ct oc:Value}{an od:Option Addr}
  {osl:Array (Option Value)} {N ps:List Str} {sp:Sp} (lk:K.lookup f=some ⟨oc,od,.func (W.fnOf name qual params body scope dV kV doc pm an cdv ct),osl⟩) (hcd:W.codeIn K cdv qual=true) (S:aX N ps scope)
  (len:∀vs H Q E,sp vs H Q E->vs.length=ps.length)
  (hbody:∀(A:Around) (outer:List Env) (s:Shared) (H:Hp) (vs:List V) (Q:VK) (E:XK),dI k (A.deeper (envOfC qual scope s.heap.objs.size f cdv))->sp vs H Q E->
   ∃t,PSs (aFo CX P w K mg base N qual scope f cdv A outer s H E) body t/\t { nx:=fun _ H'=>Q .non H',rt:=Q } (start N vs) H) :
  bO P w K mg base CX (k+1) f (W.fnOf name qual params body scope dV kV doc pm an cdv ct) ps sp:=by
 refine⟨len,fun A outer s H args us vs Q E hr e0 hb r hsp=>?_⟩
 have hl:=len _ _ _ _ hsp
 have KX:K.In s.heap:=e0.mod.kin.keeps fun b o e=>(e0.bs b o e).1
 have lim:s.heap.NoLimit:=e0.mod.nolimit.keeps fun b o e=>(e0.bs b o e).1
 have hkind:∀y∈ps.zip us,scope.names.lookup y.1=some .local\/(scope.names.lookup y.1=some .cell/\((cellsFrom (s.heap.objs.size+1) scope.names []).lookup y.1).isSome=true):=fun⟨n,v⟩ hy=>by
  rcases S.par n (List.of_mem_zip hy).1 with q|q
  ·exact .inl q
  ·exact .inr ⟨q,PySem.W.cellsFrom_some _ _ _ (.inl q)⟩
 refine codeAny_call_function hr.depth (KX _ _ lk) rfl S.co S.gen rfl (PySem.W.codeRec_of KX hcd) (hb _ _ _ _ ?_)
 refine wpAny_newFunctionEnv_cells S.kind hkind fun env he s1 x=>?_
 subst he
 refine⟨lim.keeps x.toInCall.keep,codeAny_func ?_⟩
 obtain⟨t,ht,hq⟩:=hbody A outer s H vs Q E (hr.deeper _) hsp
 have I:Inv (aFo CX P w K mg base N qual scope f cdv A outer s H E) [] (start N vs) H s1:=aG2 S hr.hd e0 hl r x
 refine wpAny_mono (ht [] s1 (start N vs) H _ I hq) (fun fl s' hs=>?_) fun e s' hs=>hs
 have fin:∀{σ':St} {H':Hp} {v:V} {u:Value},Inv (aFo CX P w K mg base N qual scope f cdv A outer s H E) [] σ' H' s'->RelV v u->Q v H'->CE outer P w H s Q u s':=
  fun {σ' H' v u} J rv q=>⟨v,H',J.os,J.bare,J.base,J.hok,rv,q⟩
 cases fl with
 |ret u=>
  obtain⟨v,σ',H',J,rv,q⟩:=hs
  exact fin J rv q
 |next=>
  obtain⟨σ',H',J,q⟩:=hs
  exact fin (v:=V.non) (u:=Value.none) J rfl q
 |brk=>
  obtain⟨_,_,_,q⟩:=hs
  exact False.elim q
 |cont=>
  obtain⟨_,_,_,q⟩:=hs
  exact False.elim q
end L2
namespace L2
open PySem PySem.Spec PyProof.Rows
section
variable{X:Cx}{x:Str}{p pos:Pos}{e:Expr}{es:List Expr}{t:TA}{id T:String}{r:List V->Hp->VK->Prop}
def tCB(r:List V->Hp->VK->Prop)(t:TA):TE:=fun σ H Q=>t σ H fun vs H1=>r vs H1 Q
theorem aH6(hc:dZ X (.builtin id) r)(hg:Gl X x)(hm:X.mg x=none)(hv:bootBuiltins x=some (.builtin id))(ha:PA X (e::es) t)(hn:x≠"__name__":=by decide)(hdb:(x == ("__debug__" : Str))=false:=by decide)
  (he:starEach (e::es) X.env=(false,eval e X.env)::starEach es X.env:=by rfl) (hpl:(backTo pos (starEach es X.env)).any (·.1)=false:=by rfl):PE X (.Call (.Name x p) (e::es) [] pos) (tCB r t):=by
 intro pins s σ H Q I h
 refine wpAny_Call_Name_kw (pF I hg hm hv ?_ hn hdb)
 exact PyProof.Rows.callWith_builtin1 (cN (ha pos pins s σ H _ I h) fun us s1 ⟨vs,H1,I1,r1,q1⟩=>hc pins s1 σ H1 vs us Q I1 r1 q1) he hpl
theorem aG3(hc:dZ X (.type T) r)(hg:Gl X x)(hm:X.mg x=none)(hv:bootBuiltins x=some (.type T))(ha:PA X (e::es) t)(hn:x≠"__name__":=by decide)(hdb:(x == ("__debug__" : Str))=false:=by decide)
  (he:starEach (e::es) X.env=(false,eval e X.env)::starEach es X.env:=by rfl) (hpl:(backTo pos (starEach es X.env)).any (·.1)=false:=by rfl):PE X (.Call (.Name x p) (e::es) [] pos) (tCB r t):=by
 intro pins s σ H Q I h
 refine wpAny_Call_Name_kw (pF I hg hm hv ?_ hn hdb)
 exact PyProof.Rows.callWith_type1 (cN (ha pos pins s σ H _ I h) fun us s1 ⟨vs,H1,I1,r1,q1⟩=>hc pins s1 σ H1 vs us Q I1 r1 q1) he hpl
end
end L2
namespace HT
open PySem PyProof.Rows
def lexLt:List Int->List Int->Bool
 |[],[]=>false
 |[],_::_=>true
 |_::_,[]=>false
 |x::xs,y::ys=>if x=y then lexLt xs ys else decide (x < y)
theorem aAv(x y:Int)(xs ys:List Int):lexLt (x::xs) (y::ys)=if x=y then lexLt xs ys else decide (x < y):=rfl
theorem aBC:lexLt [] []=false:=rfl
theorem aAw(y:Int)(ys:List Int):lexLt [] (y::ys)=true:=rfl
theorem aAx(x:Int)(xs:List Int):lexLt (x::xs) []=false:=rfl
theorem aH7(A:Around)(s:Shared)(a:Int)(t:Tok)(c:Int)(u:Tok):∃e,SeqAt.EqAt A s (.int a t) (.int c u) e/\(e=true↔a=c):=
 ⟨(a == c),SeqAt.EqAt.int_int a t c u,by simp⟩
theorem aH8(A:Around)(s:Shared)(a:Int)(t:Tok)(c:Int)(u:Tok)(prog:Program)(w:World)(E:Value->Shared->Prop)(Q:Value->Shared->Prop)(h:Q (.bool (decide (a < c))) s) :
  wpAny (model prog w) A (richCompare .Lt (.int a t) (.int c u)) Q E s:=
 (PyProof.Rows.lt_int h:wpAny (model prog w) A (compareOp .Lt (.int a t) (.int c u)) Q E s)
section
open PySem.SeqAt
open PySem.AutoSeq1 (wpAny_loadPart')
open PySem.MeetsSeq PySem.MeetsSeq2 PySem.MeetsSeq3
theorem aBD(l b:Addr)(items items2:Array Value)(n n2:Nat)(dd dd2:Option Addr)(sl sl2:Array (Option Value))(ns ms:List Int)(hi:IntsAre items.toList ns)(hj:IntsAre items2.toList ms) :
  Meets (Builtin.«tuple.__lt__» ⟨[.ref l,.ref b],[]⟩)
   (fun _ R s=>s.heap.get? l=some { cls:=.type "tuple",dict:=dd,data:=.seq items n,slots:=sl }/\s.heap.get? b=some { cls:=.type "tuple",dict:=dd2,data:=.seq items2 n2,slots:=sl2 }/\
    R (.ok (.ret (.bool (lexLt ns ms)))) s):=
 .of_wp fun prog w A R s h=>by
  obtain⟨hp,g,d,tk,os⟩:=s;obtain⟨hl,hb,h⟩:=h
  have f2:=AutoSeq1.sub_tuple_tuple
  have z1:items.size=ns.length:=by rw[<-hi.length];simp
  have z2:items2.size=ms.length:=by rw[<-hj.length];simp
  wp_walk using wpAny_loadPart' hl,wpAny_loadPart' hb,wpAny_forIn_list _ (fun rest b s'=>b.1=none/\s'=⟨hp,g,d,tk,os⟩/\∃(vs ws:List Value) (ns' ms':List Int),rest=vs.zip ws/\
   IntsAre vs ns'/\IntsAre ws ms'/\ns'.length+items2.size=ms'.length+items.size/\R (.ok (.ret (.bool (lexLt ns' ms')))) ⟨hp,g,d,tk,os⟩) _
  case turn=>
   rintro ⟨y,x⟩ rest b s' ⟨hb',rfl,vs,ws,ns',ms',hz,hvi,hwi,hlen,hR⟩
   cases hvi with
   |nil=>rw[List.zip_nil_left] at hz;cases hz
   |cons a t hvi'=>
    cases hwi with
    |nil=>rw[List.zip_nil_right] at hz;cases hz
    |cons c u hwi'=>
     rw[List.zip_cons_cons] at hz
     injection hz with hyx hrest
     injection hyx with hy hx
     subst hy hx
     rw[aAv] at hR
     simp only[List.length_cons] at hlen
     obtain⟨e,he,hiff⟩:=aH7 A.in1 ⟨hp,g,d,tk,os⟩ a t c u
     refine wpAny_bind (he prog w _ _ ?_)
     cases e with
     |true=>
      rw[if_pos (hiff.mp rfl)] at hR
      wp_walk
      exact⟨rfl,rfl,_,_,_,_,hrest,hvi',hwi',by omega,hR⟩
     |false=>
      rw[if_neg (fun q=>absurd (hiff.mpr q) Bool.false_ne_true)] at hR
      have hri:=aH8 A.in1 ⟨hp,g,d,tk,os⟩ a t c u prog w
      wp_walk using hri
      exact⟨_,rfl,by simpa using hR⟩
  case fin=>
   rintro ⟨b1,b2⟩ s' ⟨hb',rfl,vs,ws,ns',ms',hz,hvi,hwi,hlen,hR⟩
   simp only at hb'
   subst hb'
   have hv:lexLt ns' ms'=decide (items.size < items2.size):=by
    cases hvi with
    |nil=>
     cases hwi with
     |nil=>
      simp only[List.length_nil] at hlen
      rw[aBC]
      exact(decide_eq_false (by omega)).symm
     |cons c u hw=>
      simp only[List.length_nil,List.length_cons] at hlen
      rw[aAw]
      exact(decide_eq_true (by omega)).symm
    |cons a t hv=>
     cases hwi with
     |nil=>
      simp only[List.length_nil,List.length_cons] at hlen
      rw[aAx]
      exact(decide_eq_false (by omega)).symm
     |cons c u hw=>
      rw[List.zip_cons_cons] at hz
      cases hz
   rw[hv] at hR
   wp_walk
   exact⟨_,rfl,by simpa [Builtin.Tuple.tupleCompareSizes] using hR⟩
  case h=>
   exact⟨rfl,rfl,items.toList,items2.toList,ns,ms,rfl,hi,hj,by omega,h⟩
end
section
variable{prog:Program}{w:World}{A:Around}{E:Value->Shared->Prop}{s:Shared}
theorem aFp{l b:Addr}{items items2:Array Value}{ns ms:List Int}{Q:Value->Shared->Prop}(hl:IsTup s.heap l items)(hb:IsTup s.heap b items2)(hi:IntsAre items.toList ns)(hj:IntsAre items2.toList ms)
  (hu:A.units < cLine) (h:Q (.bool (lexLt ns ms)) s):wpAny (model prog w) A (compareOp .Lt (.ref l) (.ref b)) Q E s:=by
 obtain⟨⟨cls,dd,data,sl⟩,ho,hc,n,hd⟩:=id hl
 obtain⟨⟨cls2,dd2,data2,sl2⟩,ho2,hc2,n2,hd2⟩:=id hb
 simp only at hc hd hc2 hd2
 subst hc hd hc2 hd2
 exact richCompare_meets_room (op:=.Lt) ⟨_,ho,rfl⟩ ⟨_,ho2,rfl⟩ PySem.F.slot_tuple_lt PySem.F.entry_tuple_lt (PySem.F.args_tuple_lt_2 _ _) (aBD l b items items2 n n2 dd dd2 sl sl2 ns ms hi hj)
  ⟨ho,ho2,show Value.bool (lexLt ns ms)≠Value.notImplemented/\Q (.bool (lexLt ns ms)) s from⟨(fun x=>nomatch x),h⟩⟩ hu
def kB(n d:Nat):Option Int->Nat
 |none=>d
 |some v=>if v < 0 then (v+(n:Int)).toNat else min v.toNat n
theorem aAy(n d:Nat):kB n d none=d:=rfl
theorem aGj(n d k:Nat):kB n d (some (k:Int))=min k n:=by
 show(if (k:Int) < 0 then ((k:Int)+(n:Int)).toNat else min (k:Int).toNat n)=min k n
 rw[if_neg (by omega),Int.toNat_natCast]
theorem aK7(n d:Nat)(hd:d<=n)(o:Option Int):kB n d o<=n:=by
 cases o with
 |none=>exact hd
 |some v=>
  show(if v < 0 then (v+(n:Int)).toNat else min v.toNat n)<=n
  by_cases hv:v < 0
  ·rw[if_pos hv];omega
  ·rw[if_neg hv];exact Nat.min_le_right _ _
theorem aGk(v:Int)(n d:Nat):(if v < 0 then max (v+(n:Int)) 0 else min v (n:Int))=((kB n d (some v):Nat):Int):=by
 show(if v < 0 then max (v+(n:Int)) 0 else min v (n:Int))=(((if v < 0 then (v+(n:Int)).toNat else min v.toNat n):Nat):Int)
 by_cases hv:v < 0
 ·simp only[if_pos hv];omega
 ·simp only[if_neg hv];omega
theorem aFq(lo hi:Option Int)(n:Nat):Builtin.Slice.sliceAdjust lo hi 1 (n:Int)=(((kB n 0 lo:Nat):Int),((kB n n hi:Nat):Int)):=by
 have h1:¬((1:Int) < 0):=by omega
 unfold Builtin.Slice.sliceAdjust
 simp only[h1,if_false]
 refine Prod.ext ?_ ?_
 ·cases lo with
  |none=>rfl
  |some v=>exact aGk v n 0
 ·cases hi with
  |none=>rfl
  |some v=>exact aGk v n n
theorem aFr(i j:Nat):Builtin.Slice.slicePlaces (i:Int) (j:Int) 1=j - i:=by
 unfold Builtin.Slice.slicePlaces
 have h1:(1:Int) > 0:=by omega
 simp only[h1,if_true,Int.ediv_one]
 split <;> omega
theorem aAz{v:Value}{o:Option Int}{Q:Option Int->Shared->Prop}(p:IsPart v o)(h:Q o s):wpAny (model prog w) A (Builtin.Slice.slicePartIndex v) Q E s:=by
 cases p with
 |none=>exact slicePart_none h
 |int i t=>exact slicePart_int h
theorem xS{sl:Addr}{vl vu:Value}{lo hi:Option Int}{n:Nat}{Q:Int×Int×Nat->Shared->Prop}(hs:s.heap.IsSliceOf sl vl vu .none)(pl:IsPart vl lo)(pu:IsPart vu hi)
  (h:Q (((kB n 0 lo:Nat):Int),1,kB n n hi - kB n 0 lo) s):wpAny (model prog w) A (Builtin.Slice.sliceApplied (.ref sl) (pure (n:Int))) Q E s:=by
 obtain⟨os,hos,hcs,hds⟩:=id hs
 unfold Builtin.Slice.sliceApplied Builtin.Slice.sliceFields
 refine wpAny_bind (wpAny_bind (wpAny_field hos hds (x:=vl) rfl (wpAny_bind (wpAny_field hos hds (x:=vu) rfl (wpAny_bind (wpAny_field hos hds (x:=.none) rfl (wpAny_pure ?_)))))))
 refine wpAny_bind (slicePart_none ?_)
 show wpAny _ _ (if ((1:Int) == 0)=true then _ else _) _ _ s
 rw[if_neg (by decide)]
 refine wpAny_bind (aAz pl (wpAny_bind (aAz pu (wpAny_bind (wpAny_pure ?_)))))
 show wpAny _ _ (match Builtin.Slice.sliceAdjust lo hi 1 (n:Int) with|(lo,hi)=>pure (lo,(1:Int),Builtin.Slice.slicePlaces lo hi 1)) _ _ s
 rw[aFq lo hi n]
 show wpAny _ _ (pure (((kB n 0 lo:Nat):Int),(1:Int),Builtin.Slice.slicePlaces ((kB n 0 lo:Nat):Int) ((kB n n hi:Nat):Int) 1)) _ _ s
 rw[aFr]
 exact wpAny_pure h
theorem aH9(xs:Array Value)(i k:Nat):((List.range k).filterMap fun(m:Nat)=>xs[((i:Int)+(m:Int)*1).toNat]?).toArray=((xs.toList.drop i).take k).toArray:=by
 have e:(fun(m:Nat)=>xs[((i:Int)+(m:Int)*1).toNat]?)=fun m=>xs[i+m]?:=by
  funext m
  have:((i:Int)+(m:Int)*1).toNat=i+m:=by omega
  rw[this]
 rw[e]
 have:=pick_run xs i k
 rw[List.filterMap_map] at this
 have e2:((fun x=>xs[x]?) ∘ fun x=>i+x)=fun m=>xs[i+m]?:=rfl
 rw[e2] at this
 rw[this]
theorem vU{t sl:Addr}{items:Array Value}{vl vu:Value}{lo hi:Option Int}{Q:Value->Shared->Prop}(ht:IsTup s.heap t items)(hs:s.heap.IsSliceOf sl vl vu .none)(pl:IsPart vl lo)(pu:IsPart vu hi)
  (hw:¬(kB items.size 0 lo=0/\kB items.size items.size hi=items.size))
  (h:Q (.ref s.heap.objs.size) { s with heap:=s.heap.push { cls:=.type "tuple",data:=.seq ((items.toList.drop (kB items.size 0 lo)).take (kB items.size items.size hi - kB items.size 0 lo)).toArray } })
  (hsz:items.size<=sizeLine):wpAny (model prog w) A (getItem (.ref t) (.ref sl)) Q E s:=by
 have htake:sizeOk (.seq ((items.toList.drop (kB items.size 0 lo)).take (kB items.size items.size hi - kB items.size 0 lo)).toArray):=by
  show((items.toList.drop (kB items.size 0 lo)).take (kB items.size items.size hi - kB items.size 0 lo)).toArray.size<=sizeLine
  rw[List.size_toArray,List.length_take,List.length_drop,Array.length_toList]
  omega
 have hj:kB items.size items.size hi<=items.size:=aK7 _ _ (Nat.le_refl _) hi
 obtain⟨os,hos,hcs,hds⟩:=id hs
 have hTs:s.TypeIs (.ref sl) "slice":=⟨os,hos,hcs⟩
 unfold getItem
 try with_reducible refine wpAny_holding ?_
 first|refine wpAny_bind (wpAny_pure ?_)|skip
 refine wpAny_bind (wpAny_sequenceKey ht.typeIs (by decide) ?_)
 refine wpAny_bind (wpAny_callSpecial?_slot (name:=Str.ofString "__getitem__") ht.typeIs PyProof.Rows.slot_tuple_getitem
  (wpAny_call_entry PyProof.Rows.slot_tuple_getitem ht.typeIs entry_tuple_getitem ?_ (args_tuple_getitem _ _)))
 show wpAny _ _ (Builtin.Tuple.tupleItemsOf (.ref t) >>= _) _ _ s
 refine wpAny_bind (tupleItemsOf_ ht ?_)
 refine wpAny_bind (wpAny_typeOf hTs ?_)
 rw[if_pos (by decide)]
 refine wpAny_bind (xS hs pl pu ?_)
 have hno:¬((((kB items.size 0 lo:Nat):Int) == 0 && (1:Int) == 1 && (kB items.size items.size hi - kB items.size 0 lo) == items.size)=true):=by
  intro q
  rw[Bool.and_eq_true,Bool.and_eq_true] at q
  have q1:((kB items.size 0 lo:Nat):Int)=0:=eq_of_beq q.1.1
  have q2:kB items.size items.size hi - kB items.size 0 lo=items.size:=eq_of_beq q.2
  exact hw ⟨by omega,by omega⟩
 show wpAny _ _ (if (((kB items.size 0 lo:Nat):Int) == 0 && (1:Int) == 1 && (kB items.size items.size hi - kB items.size 0 lo) == items.size)=true then _ else _) _ _ s
 rw[if_neg hno,aH9]
 first
  |exact wpAny_bind (m:=Builtin.Tuple.tupleExact _) (wpAny_newObj_type (wpAny_pure ⟨_,rfl,wpAny_pure h⟩) htake)
  |exact wpAny_bind (m:=Builtin.Tuple.tupleExact _) (wpAny_newObj_type (wpAny_bind (wpAny_pure (wpAny_pure ⟨_,rfl,wpAny_pure h⟩))) htake)
  |exact wpAny_bind (wpAny_bind (m:=Builtin.Tuple.tupleExact _) (wpAny_newObj_type (wpAny_pure (wpAny_pure ⟨_,rfl,wpAny_pure h⟩)) htake))
  |exact wpAny_bind (wpAny_bind (m:=Builtin.Tuple.tupleExact _) (wpAny_newObj_type (wpAny_pure ⟨_,rfl,wpAny_pure h⟩) htake))
end
end HT
namespace L2
open PySem PySem.Spec PyProof.Rows
abbrev TO:=St->Hp->(Option Int->Hp->Prop)->Prop
def PO(X:Cx)(e:Option Expr)(t:TO):Prop:=
 ∀(pins:List (Addr×Obj)) (s:Shared) (σ:St) (H:Hp) (Q:Option Int->Hp->Prop),Inv X pins σ H s->t σ H Q->
  wpAny (model X.prog X.w) X.A (evalPart e X.env) (fun u s'=>∃o H',Inv X pins σ H' s'/\IsPart u o/\Q o H') X.xe s
def aC1:TO:=fun _ H Q=>Q none H
def aIa(t:TE):TO:=fun σ H Q=>t σ H fun x H1=>∃i,x=.int i/\Q (some i) H1
theorem intsAre_of{ns:List Int}:∀{us:List Value},Vals (ns.map V.int) us->IntsAre us ns:=by
 induction ns with
 |nil=>intro us r;rw[List.map_nil] at r;cases r;exact .nil
 |cons n ns ih=>
  intro us r
  rw[List.map_cons] at r
  cases r with
  |cons r1 r2=>
   obtain⟨t,e⟩:=r1
   subst e
   exact .cons n t (ih r2)
section
variable{X:Cx}{e:Expr}{te:TE}{lo hi:Option Expr}{tl th:TO}{pos p2:Pos}
theorem pL:PO X none aC1:=by
 intro pins s σ H Q I h
 rw[evalPart_none]
 exact wpAny_pure ⟨none,H,I,.none,h⟩
theorem m8(h:PE X e te):PO X (some e) (aIa te):=by
 intro pins s σ H Q I hw
 rw[evalPart_some]
 refine cN (h pins s σ H _ I hw) fun u s1 ⟨x,H1,I1,r1,q1⟩=>?_
 obtain⟨i,rfl,q⟩:=q1
 obtain⟨t,rfl⟩:=r1
 exact⟨some i,H1,I1,.int i t,q⟩
def SlR(X:Cx)(r:V->Option Int->Option Int->Hp->VK->Prop):Prop:=
 ∀(pins:List (Addr×Obj)) (s:Shared) (σ:St) (H:Hp) (x:V) (v vl vu:Value) (lo hi:Option Int) (sl:Addr) (Q:VK),Inv X pins σ H s->RelV x v->s.heap.IsSliceOf sl vl vu .none->IsPart vl lo->IsPart vu hi->r x lo hi H Q->
  ∃T id,typeLookup (.type T) "__getitem__" = pure (some (.builtin id))/\s.TypeIs v T/\wpAny (model X.prog X.w) X.A (getItem v (.ref sl)) (EP X pins σ Q) X.xe s
theorem SlR.or{r r':V->Option Int->Option Int->Hp->VK->Prop}(h:SlR X r)(h':SlR X r'):SlR X (fun x lo hi H Q=>r x lo hi H Q\/r' x lo hi H Q):=by
 intro pins s σ H x v vl vu lo hi sl Q I rx hs pl pu q
 rcases q with q|q
 ·exact h pins s σ H x v vl vu lo hi sl Q I rx hs pl pu q
 ·exact h' pins s σ H x v vl vu lo hi sl Q I rx hs pl pu q
def tSl(r:V->Option Int->Option Int->Hp->VK->Prop)(te:TE)(tl th:TO):TE:=fun σ H Q=>te σ H fun x H1=>tl σ H1 fun l H2=>th σ H2 fun u H3=>r x l u H3 Q
theorem oS{r:V->Option Int->Option Int->Hp->VK->Prop}(hr:SlR X r)(he:PE X e te)(hl:PO X lo tl)(hu:PO X hi th):PE X (.Subscript e (.Slice lo hi none p2) pos) (tSl r te tl th):=by
 intro pins s σ H Q I h
 refine Subscript_ (cN (he pins s σ H _ I h) fun v s1 ⟨x,H1,I1,r1,q1⟩=>?_)
 refine wpAny_Slice (cN (hl pins s1 σ H1 _ I1 q1) fun vl s2 ⟨l,H2,I2,pl,q2⟩=>cN (hu pins s2 σ H2 _ I2 q2) fun vu s3 ⟨u,H3,I3,pu,q3⟩=>?_)
 rw[evalPart_none]
 refine wpAny_pure ?_
 have I4:Inv X pins σ H3 { s3 with heap:=s3.heap.push { cls:=.type "slice",data:=.fields #[vl,vu,.none] } }:=I3.kept (t':=s3.toks) fun b ob q=>Heap.get?_push_of_some _ q
 obtain⟨T,id,hT,ht,hg⟩:=hr pins { s3 with heap:=s3.heap.push { cls:=.type "slice",data:=.fields #[vl,vu,.none] } } σ H3 x v vl vu l u s3.heap.objs.size Q I4 r1 (Heap.IsSliceOf.new ..) pl pu q3
 show wpAny (model X.prog X.w) X.A (subscriptTail e (.Slice lo hi none p2) v (.ref s3.heap.objs.size)) (EP X pins σ Q) X.xe { s3 with heap:=s3.heap.push { cls:=.type "slice",data:=.fields #[vl,vu,.none] } }
 exact tail_any (ops:=[.ref s3.heap.objs.size,v]) ht hT hg (by with_unfolding_all rfl)
def mK(xs:List V)(lo hi:Option Int):List V:=(xs.drop (HT.kB xs.length 0 lo)).take (HT.kB xs.length xs.length hi - HT.kB xs.length 0 lo)
theorem d7(xs:List V)(lo hi:Option Int):(mK xs lo hi).length<=xs.length:=by
 unfold mK
 rw[List.length_take,List.length_drop]
 omega
def aMq(K:W.Frag):V->Option Int->Option Int->Hp->VK->Prop:=fun x lo hi H Q=>∃a xs,x=.ref a/\kL K H a xs/\
 ¬(HT.kB xs.length 0 lo=0/\HT.kB xs.length xs.length hi=xs.length)/\∀p,H p=none->Q (.ref p) (upd H p (.tup (mK xs lo hi)))
theorem aK8:SlR X (aMq X.K):=by
 intro pins s σ H x v vl vu lo hi sl Q I rx hs pl pu h
 obtain⟨a,xs,rfl,hx,hw,q⟩:=h
 cases rx
 obtain⟨its,r,ht,hz⟩:=I.tuple hx
 have hlen:its.toArray.size=xs.length:=by rw[List.size_toArray];exact r.length.symm
 refine⟨"tuple",_,PyProof.Rows.slot_tuple_getitem.lookup,ht.typeIs,?_⟩
 refine HT.vU ht hs pl pu (by rw[hlen];exact hw) ?_ (by rw[hlen];exact hz)
 rw[hlen]
 refine⟨.ref s.heap.objs.size,_,I.laid (t':=s.toks) (o:=.tup (mK xs lo hi)) (fun b ob q=>Heap.get?_push_of_some _ q) (Nat.le_refl _) ?_,rfl,q _ (I.hok.fresh (Nat.le_refl _))⟩
 exact⟨Nat.le_trans (d7 xs lo hi) hz,_,(r.drop (HT.kB xs.length 0 lo)).take (HT.kB xs.length xs.length hi - HT.kB xs.length 0 lo),IsTup.new _ _⟩
end
end L2
namespace L2
open PySem PySem.Spec PyProof.Rows
def ixN(n:Nat)(i:Int):Option Nat:=if 0<=i then (if i < n then some i.toNat else none) else if -(n:Int)<=i then some (i+n).toNat else none
def uH{α:Type}(xs:List α)(i:Int):Option α:=(ixN xs.length i).bind fun j=>xs[j]?
theorem aGl{n:Nat}{i:Int}{j:Nat}(h:ixN n i=some j):seqIndex? i n=some j/\j < n/\-(n:Int)<=i/\i < n:=by
 unfold ixN at h
 by_cases h0:0<=i
 ·rw[if_pos h0] at h
  by_cases h1:i < n
  ·rw[if_pos h1] at h
   have e:i.toNat=j:=Option.some.inj h
   exact⟨by rw[seqIndex_of h0 h1,e],by omega,by omega,h1⟩
  ·rw[if_neg h1] at h;cases h
 ·rw[if_neg h0] at h
  by_cases h1:-(n:Int)<=i
  ·rw[if_pos h1] at h
   have e:(i+n).toNat=j:=Option.some.inj h
   exact⟨by rw[seqIndex_neg (by omega) h1,e],by omega,h1,by omega⟩
  ·rw[if_neg h1] at h;cases h
theorem aC2{α:Type}{xs:List α}{i:Int}{v:α}(h:uH xs i=some v):∃j,seqIndex? i xs.length=some j/\xs[j]?=some v/\j < xs.length/\-(xs.length:Int)<=i/\i < xs.length:=by
 unfold uH at h
 cases e:ixN xs.length i with
 |none=>rw[e] at h;cases h
 |some j=>
  rw[e] at h
  obtain⟨h1,h2,h3,h4⟩:=aGl e
  exact⟨j,h1,h,h2,h3,h4⟩
theorem dM{α:Type}{xs:List α}{j:Nat}{v:α}(h:xs[j]?=some v):uH xs (j:Int)=some v:=by
 have hj:j < xs.length:=(List.getElem?_eq_some_iff.mp h).1
 have e:ixN xs.length (j:Int)=some j:=by
  unfold ixN
  rw[if_pos (by omega),if_pos (by omega)];simp
 unfold uH;rw[e];exact h
theorem aEh{α:Type}(xs:List α)(v:α):uH (xs ++ [v]) (-1)=some v:=by
 have hl:(xs ++ [v]).length=xs.length+1:=by simp
 have e:ixN (xs ++ [v]).length (-1)=some xs.length:=by
  unfold ixN
  rw[hl,if_neg (by decide),if_pos (by omega)]
  congr 1
  omega
 unfold uH
 rw[e]
 show(xs ++ [v])[xs.length]?=some v
 simp
def aGm(b:Expr):Prop:=∀o i,subscripted b false o i=operate [o,i] (getItem o i)
def IxR(X:Cx)(r:R2):Prop:=
 ∀(value slice:Expr) (pins:List (Addr×Obj)) (s:Shared) (σ:St) (H:Hp) (x y:V) (v u:Value) (Q:VK),Inv X pins σ H s->RelV x v->RelV y u->r x y H Q->
  subscripted slice false v u=operate [v,u] (getItem v u)->wpAny (model X.prog X.w) X.A (subscriptTail value slice v u) (EP X pins σ Q) X.xe s
def MtR(X:Cx)(id:String)(r:V->List V->Hp->VK->Prop):Prop:=
 ∀(pins:List (Addr×Obj)) (s:Shared) (σ:St) (H:Hp) (x:V) (xs:List V) (v:Value) (us:List Value) (Q:VK),Inv X pins σ H s->RelV x v->Vals xs us->r x xs H Q->
  wpAny (model X.prog X.w) X.A (call (.builtin id) (v::us)) (EP X pins σ Q) X.xe s
section
variable{X:Cx}{a b:Expr}{ta tb:TE}{pos:Pos}
theorem IxR.or{r r':R2}(h:IxR X r)(h':IxR X r'):IxR X (fun x y H Q=>r x y H Q\/r' x y H Q):=by
 intro value slice pins s σ H x y v u Q I rx ry q hs
 rcases q with q|q
 ·exact h value slice pins s σ H x y v u Q I rx ry q hs
 ·exact h' value slice pins s σ H x y v u Q I rx ry q hs
theorem aMr{r:R2}(hr:IxR X r)(ha:PE X a ta)(hb:PE X b tb)(hs:aGm b):PE X (.Subscript a b pos) (tOp r ta tb):=by
 intro pins s σ H Q I h
 exact Subscript_ (aK0 ha hb I h fun v u s2 x y H2 I2 rx ry q=>hr a b pins s2 σ H2 x y v u Q I2 rx ry q (hs _ _))
def aMs(K:W.Frag):R2:=fun x y H Q=>∃p xs i v,x=.ref p/\y=.int i/\bG K H p xs/\uH xs i=some v/\Q v H
def aMt(K:W.Frag):R2:=fun x y H Q=>∃p xs i v,x=.ref p/\y=.int i/\kL K H p xs/\uH xs i=some v/\Q v H
def aMu:R2:=fun x y H Q=>∃z i c,x=.str z/\y=.int i/\z.length<=sizeLine/\uH z.cps.toList i=some c/\Q (.str ⟨#[c]⟩) H
theorem aJF:IxR X (aMs X.K):=by
 intro value slice pins s σ H x y v u Q I rx ry h hs
 obtain⟨p,xs,i,z,rfl,rfl,hq,he,q⟩:=h
 cases rx
 obtain⟨t,rfl⟩:=ry
 obtain⟨its,r,pl,hz⟩:=I.list hq
 obtain⟨j,h1,h2,h3,h4,h5⟩:=aC2 he
 obtain⟨w,ew,rw'⟩:=r.get h2
 have hl:=r.length
 have hn:=xP
 have fin:EP X pins σ Q w s:=⟨z,H,I,rw',q⟩
 by_cases h0:0<=i
 ·have hj:i.toNat=j:=by
   rw[seqIndex_of h0 h5] at h1
   exact Option.some.inj h1
  exact item_listR pl.isList h0 (by omega) (by rw[hj];simpa using ew) fin hs
 ·have hj:(i+(its.toArray.size:Int)).toNat=j:=by
   rw[seqIndex_neg (by omega) h4] at h1
   rw[List.size_toArray,<-hl]
   exact Option.some.inj h1
  exact subscriptTail_builtinR (x:=w) pl.isList.typeIs slot_list_getitem.lookup
   (wpAny_getItem_list_neg (Q:=fun r s'=>r=w/\EP X pins σ Q r s') pl.isList (by omega) (by rw[List.size_toArray] <;> omega) (by omega) (by rw[hj];simpa using ew) ⟨rfl,fin⟩) hs
theorem aK9:IxR X (aMt X.K):=by
 intro value slice pins s σ H x y v u Q I rx ry h hs
 obtain⟨p,xs,i,z,rfl,rfl,hq,he,q⟩:=h
 cases rx
 obtain⟨t,rfl⟩:=ry
 obtain⟨its,r,pl,hz⟩:=I.tuple hq
 obtain⟨j,h1,h2,h3,h4,h5⟩:=aC2 he
 obtain⟨w,ew,rw'⟩:=r.get h2
 have hl:=r.length
 have hn:=xP
 have fin:EP X pins σ Q w s:=⟨z,H,I,rw',q⟩
 exact subscriptTail_builtinR (x:=w) pl.typeIs slot_tuple_getitem.lookup
  (getItem_tuple (j:=j) (Q:=fun r s'=>r=w/\EP X pins σ Q r s') pl (by omega) (by omega) (by rw[List.size_toArray,<-hl];exact h1) (by simpa using ew) ⟨rfl,fin⟩) hs
theorem aLa:IxR X aMu:=by
 intro value slice pins s σ H x y v u Q I rx ry h hs
 obtain⟨z,i,c,rfl,rfl,hz,he,q⟩:=h
 obtain⟨t,rfl⟩:=rx
 obtain⟨t',rfl⟩:=ry
 obtain⟨j,h1,h2,h3,h4,h5⟩:=aC2 he
 have hl:z.cps.toList.length=z.length:=by simp[Str.length]
 rw[hl] at h1 h4 h5
 have hn:=xP
 exact tail_any (typeIs_str s z t) slot_str_getitem.lookup (getItem_str (c:=c) (by
  have e1:decide (i < -(2 ^ 63:Int))=false:=decide_eq_false (by omega)
  have e2:decide (i ≥ 2 ^ 63)=false:=decide_eq_false (by omega)
  rw[e1,e2,Bool.or_false]) (by rw[h1];simpa using h2) ⟨.str ⟨#[c]⟩,H,I.tok _,⟨_,rfl⟩,q⟩) hs
def rIx(K:W.Frag):R2:=fun x y H Q=>aMs K x y H Q\/aMt K x y H Q\/aMu x y H Q
theorem aLb:IxR X (rIx X.K):=aJF.or (aK9.or aLa)
theorem aFs(its:List Value)(n j:Nat)(u:Value):Obj.mapSeq (·.setIfInBounds j u) { cls:=.type "list",data:=.seq its.toArray n } = { cls:=.type "list",data:=.seq (its.set j u).toArray n }:=by
 simp[Obj.mapSeq]
theorem Inv.lst{pins:List (Addr×Obj)}{σ:St}{H:Hp}{s:Shared}{p:Addr}{xs:List V}(I:Inv X pins σ H s)(h:H p=some (.lst xs)) :
  ∃(its:List Value) (n:Nat),Vals xs its/\s.heap.get? p=some { cls:=.type "list",data:=.seq its.toArray n }/\xs.length<=sizeLine:=by
 obtain⟨z,its,n,r,e⟩:=I.hok p _ h
 exact⟨its,n,r,e,z⟩
theorem Inv.aLc{pins:List (Addr×Obj)}{σ:St}{H:Hp}{s:Shared}{p:Addr}{xs ys:List V}{its its':List Value}{n n':Nat}{f:Obj->Obj}(I:Inv X pins σ H s)(h:H p=some (.lst xs))
  (ho:s.heap.get? p=some { cls:=.type "list",data:=.seq its.toArray n }) (hf:f { cls:=.type "list",data:=.seq its.toArray n } = { cls:=.type "list",data:=.seq its'.toArray n' }) (r:Vals ys its') (hz:ys.length<=sizeLine) (t:Nat) :
  Inv X pins σ (upd H p (.lst ys)) { s with heap:=s.heap.update p f,toks:=t }:=by
 have e:(s.heap.update p f).get? p=some { cls:=.type "list",data:=.seq its'.toArray n' }:=by
  rw[Heap.get?_update_self f ho (by rw[hf] <;> rfl),hf]
 refine I.write (x:=p) (e:=p) (by rw[h];trivial) (.inl rfl) (fun b u hb q=>(Heap.get?_update_other _ _ (Ne.symm hb)).trans q) ⟨_,e⟩ ?_
 exact⟨hz,its',n',r,e⟩
def aKz:V->V->V->Hp->(Hp->Prop)->Prop:=fun o i v H Q=>∃p xs k j,o=.ref p/\i=.int k/\H p=some (.lst xs)/\ixN xs.length k=some j/\Q (upd H p (.lst (xs.set j v)))
theorem set_list:aHS X aKz:=by
 intro pins s σ H o i v ov iv u Q I ro ri rv h
 obtain⟨p,xs,k,j,rfl,rfl,hp,hj,q⟩:=h
 cases ro
 obtain⟨t,rfl⟩:=ri
 obtain⟨its,n,r,ho,hz⟩:=I.lst hp
 obtain⟨h1,h2,h3,h4⟩:=aGl hj
 have hl:=r.length
 have hn:=xP
 have I':Inv X pins σ (upd H p (.lst (xs.set j v))) { s with heap:=s.heap.update p (Obj.mapSeq (·.setIfInBounds j u)) }:=
  I.aLc hp ho (aFs its n j u) (r.set rv j) (by rw[List.length_set];exact hz) s.toks
 by_cases h0:0<=k
 ·have hk:k.toNat=j:=by
   rw[seqIndex_of h0 h4] at h1
   exact Option.some.inj h1
  exact PySem.W.ki_setAt ho h0 (by omega) (by rw[List.size_toArray,<-hl];exact h4) (by rw[hk];exact⟨_,I',q⟩)
 ·have hk:(k+(its.toArray.size:Int)).toNat=j:=by
   rw[seqIndex_neg (by omega) h3] at h1
   rw[List.size_toArray,<-hl]
   exact Option.some.inj h1
  exact PySem.W.ki_setBack ho (by omega) (by rw[List.size_toArray,<-hl];exact h3) (by omega) (by rw[hk];exact⟨_,I',q⟩)
theorem aC3(lo hi:Option Int)(n:Nat):(sliceBounds lo hi none n).1=((HT.kB n 0 lo:Nat):Int)/\(sliceBounds lo hi none n).2.1=((HT.kB n n hi:Nat):Int)/\(sliceBounds lo hi none n).2.2=1:=by
 refine⟨?_,?_,rfl⟩
 ·cases lo with
  |none=>simp[sliceBounds,HT.kB]
  |some i=>
   simp only[sliceBounds,HT.kB,Option.getD_none,show(1:Int) > 0 by decide,if_true]
   by_cases h:i < 0
   ·simp only[h,if_true] <;> omega
   ·simp only[h,if_false] <;> omega
 ·cases hi with
  |none=>simp[sliceBounds,HT.kB]
  |some i=>
   simp only[sliceBounds,HT.kB,Option.getD_none,show(1:Int) > 0 by decide,if_true]
   by_cases h:i < 0
   ·simp only[h,if_true] <;> omega
   ·simp only[h,if_false] <;> omega
theorem aBE(its:List Value)(lo hi:Option Int):slicePick its.toArray lo hi none=((its.drop (HT.kB its.length 0 lo)).take (HT.kB its.length its.length hi - HT.kB its.length 0 lo)).toArray:=by
 obtain⟨h1,h2,h3⟩:=aC3 lo hi its.toArray.size
 unfold slicePick
 rw[h1,h2,h3]
 simp only[sliceRange_one,pick_run,List.size_toArray] <;> rfl
def aMv(K:W.Frag):V->Option Int->Option Int->Hp->VK->Prop:=fun x lo hi H Q=>∃a xs,x=.ref a/\bG K H a xs/\∀p,H p=none->Q (.ref p) (upd H p (.lst (mK xs lo hi)))
theorem aJG:SlR X (aMv X.K):=by
 intro pins s σ H x v vl vu lo hi sl Q I rx hs pl pu h
 obtain⟨a,xs,rfl,hx,q⟩:=h
 cases rx
 obtain⟨its,r,ht,hz⟩:=I.list hx
 have hlen:=r.length
 refine⟨"list",_,slot_list_getitem.lookup,ht.isList.typeIs,?_⟩
 refine wpAny_getItem_list_slice ht.isList hs pl pu .none (by simp) ?_ (by rw[List.size_toArray] <;> omega)
 rw[aBE,<-hlen]
 refine⟨.ref s.heap.objs.size,_,I.laid (t':=s.toks) (o:=.lst (mK xs lo hi)) (fun b ob q=>Heap.get?_push_of_some _ q) (Nat.le_refl _) ?_,rfl,q _ (I.hok.fresh (Nat.le_refl _))⟩
 exact⟨Nat.le_trans (d7 xs lo hi) hz,_,0,(r.drop (HT.kB xs.length 0 lo)).take (HT.kB xs.length xs.length hi - HT.kB xs.length 0 lo),Heap.get?_push_size _ rfl⟩
def mL:V->Bool
 |.non=>true
 |.bl _=>true
 |.int _=>true
 |.str _=>true
 |_=>false
def eqV:V->V->Bool
 |.non,.non=>true
 |.bl a,.bl b=>a == b
 |.bl a,.int b=>(if a then 1 else 0) == b
 |.int a,.bl b=>a == (if b then 1 else 0)
 |.int a,.int b=>a == b
 |.str a,.str b=>a == b
 |_,_=>false
theorem aIb{A:Around}{s:Shared}{y x:V}{u v:Value}(ry:RelV y u)(rx:RelV x v)(fy:mL y=true)(fx:mL x=true):SeqAt.EqAt A s u v (eqV y x):=by
 cases y with
 |non=>
  cases ry
  cases x with
  |non=>cases rx;exact SeqAt.EqAt.same _
  |bl b=>cases rx;exact SeqAt.EqAt.none_bool b
  |int b=>obtain⟨t,rfl⟩:=rx;exact SeqAt.EqAt.none_int b t
  |str b=>obtain⟨t,rfl⟩:=rx;exact SeqAt.EqAt.none_str b t
  |_=>exact absurd (show false=true from fx) Bool.false_ne_true
 |bl a=>
  cases ry
  cases x with
  |non=>cases rx;exact SeqAt.EqAt.bool_none a
  |bl b=>cases rx;exact SeqAt.EqAt.bool_bool a b
  |int b=>obtain⟨t,rfl⟩:=rx;exact SeqAt.EqAt.bool_int a b t
  |str b=>obtain⟨t,rfl⟩:=rx;exact SeqAt.EqAt.bool_str a b t
  |_=>exact absurd (show false=true from fx) Bool.false_ne_true
 |int a=>
  obtain⟨t',rfl⟩:=ry
  cases x with
  |non=>cases rx;exact SeqAt.EqAt.int_none a t'
  |bl b=>cases rx;exact SeqAt.EqAt.int_bool a t' b
  |int b=>obtain⟨t,rfl⟩:=rx;exact SeqAt.EqAt.int_int a t' b t
  |str b=>obtain⟨t,rfl⟩:=rx;exact SeqAt.EqAt.int_str a t' b t
  |_=>exact absurd (show false=true from fx) Bool.false_ne_true
 |str a=>
  obtain⟨t',rfl⟩:=ry
  cases x with
  |non=>cases rx;exact SeqAt.EqAt.str_none a t'
  |bl b=>cases rx;exact SeqAt.EqAt.str_bool a t' b
  |int b=>obtain⟨t,rfl⟩:=rx;exact SeqAt.EqAt.str_int a t' b t
  |str b=>obtain⟨t,rfl⟩:=rx;exact SeqAt.EqAt.str_str a t' b t
  |_=>exact absurd (show false=true from fx) Bool.false_ne_true
 |_=>exact absurd (show false=true from fy) Bool.false_ne_true
theorem aC4:dZ X (.type "list") (fun xs H Q=>∃p ys,xs=[.ref p]/\(bG X.K H p ys\/kL X.K H p ys)/\∀l,H l=none->Q (.ref l) (upd H l (.lst ys))):=by
 intro pins s σ H xs us Q I r h
 obtain⟨p,ys,rfl,hq,q⟩:=h
 obtain⟨u,rfl,rx⟩:=vals1 r
 cases rx
 have fin:∀(its:List Value),Vals ys its->ys.length<=sizeLine->∀(h':Heap) (c':Nat),(∀b o',s.heap.get? b=some o'->h'.get? b=some o')->
   h'.get? s.heap.objs.size=some { cls:=.type "list",dict:=none,data:=.seq its.toArray c',slots:=#[] }->EP X pins σ Q (.ref s.heap.objs.size) { s with heap:=h' }:=fun its r' hz h' c' kp e=>
  ⟨.ref s.heap.objs.size,_,I.laid (t':=s.toks) kp (Nat.le_refl _) (show bI X.prog X.w _ h' _ (.lst ys) from⟨hz,its,c',r',e⟩),rfl,q _ (I.hok.fresh (Nat.le_refl _))⟩
 rcases hq with hq|hq
 ·obtain⟨its,r',pl,hz⟩:=I.list hq
  have hlen:=r'.length
  obtain⟨o,ho,hc,n,hd⟩:=pl.isList
  exact call_list_seq p (.inl rfl) ho hc hd (fun h' c' kp e=>fin its r' hz h' c' kp e) (by simp only[List.size_toArray] <;> omega)
 ·obtain⟨its,r',pl,hz⟩:=I.tuple hq
  have hlen:=r'.length
  obtain⟨o,ho,hc,n,hd⟩:=pl
  exact call_list_seq p (.inr rfl) ho hc hd (fun h' c' kp e=>fin its r' hz h' c' kp e) (by simp only[List.size_toArray] <;> omega)
def tyV(K:W.Frag)(T:String)(x:V)(H:Hp):Prop:=match x with
 |.str _=>T = "str"
 |.int _=>T = "int"
 |.ref p=>(T = "list"/\∃xs,bG K H p xs)\/(T = "tuple"/\∃o,K.lookup p=some o/\o.cls=.type "tuple"/\o.dict=none)\/
   (T = "dict"/\((∃kvs,H p=some (.dK kvs))\/∃kvs,H p=some (.dT kvs)))\/(T = "set"/\∃S n,H p=some (.set S n))
 |_=>False
theorem aLd{pins:List (Addr×Obj)}{σ:St}{H:Hp}{s:Shared}{T:String}{x:V}{v:Value}(I:Inv X pins σ H s)(r:RelV x v)(ty:tyV X.K T x H) :
  s.TypeIs v T/\∀a,v=.ref a->∃ob,s.heap.get? a=some ob/\ob.dict=none:=by
 cases x with
 |str z=>
  obtain⟨t,rfl⟩:=r
  cases (show T = "str" from ty)
  exact⟨typeIs_str s z t,fun _ e=>nomatch e⟩
 |int i=>
  obtain⟨t,rfl⟩:=r
  cases (show T = "int" from ty)
  exact⟨typeIs_int s i t,fun _ e=>nomatch e⟩
 |ref p=>
  cases r
  rcases ty with ⟨rfl,xs,hq⟩|⟨rfl,o,hk,hc,hd⟩|⟨rfl,hk⟩|⟨rfl,S,n,hk⟩
  ·obtain⟨its,_,pl,_⟩:=I.list hq
   refine⟨pl.isList.typeIs,fun a e=>?_⟩
   cases e
   obtain⟨o,n,e,c,hd,_⟩:=pl
   exact⟨o,e,hd⟩
  ·refine⟨⟨o,I.xJ p o hk,hc⟩,fun a e=>?_⟩
   cases e
   exact⟨o,I.xJ _ o hk,hd⟩
  ·have z:∃o,s.heap.get? p=some o/\o.ExactDict:=by
    rcases hk with ⟨kvs,hk⟩|⟨kvs,hk⟩
    ·obtain⟨_,_,_,_,o,_,_,e,ex,_⟩:=I.hok p _ hk
     exact⟨o,e,ex⟩
    ·obtain⟨_,_,_,_,o,_,_,e,ex,_⟩:=I.hok p _ hk
     exact⟨o,e,ex⟩
   obtain⟨o,e,ex⟩:=z
   refine⟨⟨o,e,ex.1⟩,fun a e2=>?_⟩
   cases e2
   exact⟨o,e,ex.2.1⟩
  ·obtain⟨o,_,_,_,e,ex,_⟩:=I.hok p _ hk
   refine⟨⟨o,e,ex.1⟩,fun a e2=>?_⟩
   cases e2
   exact⟨o,e,ex.2.1⟩
 |_=>exact False.elim ty
def tBM(K:W.Frag)(T:String)(r:V->List V->Hp->VK->Prop)(to:TE)(t:TA):TE:=fun σ H Q=>to σ H fun x H1=>tyV K T x H1/\t σ H1 fun xs H2=>r x xs H2 Q
variable{o e:Expr}{es:List Expr}{to:TE}{t:TA}{name:Str}{apos cpos:Pos}{T id:String}{r:V->List V->Hp->VK->Prop}
theorem aKA(pa:PlainAttrs T)(slot:Slot T name id)(hty:typeOf (.builtin id)=pure (.type "method_descriptor"))(hm:MtR X id r)(ho:PE X o to)(ha:PA X (e::es) t)
  (hbase:attributeBase o name X.env (eval o X.env)=eval o X.env:=by rfl)
  (hfew:((backTo cpos (starEach (e::es) X.env)).all (fun x=>!x.1) && (backToKw cpos (keywordEach [] X.env)).all (fun x=>x.1.isSome)
   && decide ((e::es).length+([]:List Keyword).length+(if ([]:List Keyword).isEmpty then 0 else 1) < 30))=true:=by rfl)
  (hline:(apos.endLine == cpos.line)=true:=by rfl) (hs:starEach (e::es) X.env=(false,eval e X.env)::starEach es X.env:=by rfl) (hplain:(backTo cpos (starEach es X.env)).any (·.1)=false:=by rfl) :
  PE X (.Call (.Attribute o name apos) (e::es) [] cpos) (tBM X.K T r to t):=by
 intro pins s σ H Q I h
 refine wpAny_Call_method_late hbase hfew hline rfl (cN (ho pins s σ H _ I h) fun v s1 ⟨x,H1,I1,r1,ty,q1⟩=>?_)
 obtain⟨h1,h2⟩:=aLd I1 r1 ty
 refine⟨T,id,pa,slot,hty,h1,h2,?_⟩
 have hA:=ha cpos pins s1 σ H1 _ I1 q1
 rw[hs] at hA ⊢
 refine Calls.callWith_builtin (by show(false || (backTo cpos (starEach es X.env)).any (·.1))=false;rw[hplain] <;> rfl) (Calls.evalArgs_plain ?_)
 exact cN hA fun us s2 ⟨vs,H2,I2,r2,q2⟩=>hm pins s2 σ H2 x vs v us Q I2 r1 r2 q2
end
end L2
namespace L2
open PySem PySem.Spec PyProof.Rows
def MtM(X:Cx)(id:String)(r:V->List V->Hp->VK->Prop):Prop:=
 ∀(pins:List (Addr×Obj)) (s:Shared) (σ:St) (H:Hp) (x:V) (xs:List V) (v:Value) (us:List Value) (Q:VK),Inv X pins σ H s->RelV x v->Vals xs us->r x xs H Q->
  wpAny (model X.prog X.w) X.A (call (.builtin id) (v::us)) (EP X pins σ Q) X.xe s
theorem Vals.one:∀{x:V}{us:List Value},Vals [x] us->∃u,us=[u]/\RelV x u
 |_,_,.cons r .nil=>⟨_,rfl,r⟩
theorem Vals.reverse{xs:List V}{us:List Value}(h:Vals xs us):Vals xs.reverse us.reverse:=by
 induction h with
 |nil=>exact .nil
 |cons r t ih=>rw[List.reverse_cons,List.reverse_cons];exact Vals.append ih (.cons r .nil)
theorem Vals.rep{xs:List V}{us:List Value}(h:Vals xs us):∀k:Nat,Vals (List.replicate k xs).flatten (List.replicate k us).flatten
 |0=>.nil
 |k+1=>by
  rw[List.replicate_succ,List.replicate_succ,List.flatten_cons,List.flatten_cons]
  exact Vals.append h (Vals.rep h k)
theorem foldl_rep(its:List Value):∀(k:Nat) (acc:List Value),
  List.foldl (fun x1 x2=>x1++x2) acc.toArray (List.replicate k its.toArray)=(acc++(List.replicate k its).flatten).toArray
 |0,acc=>by simp
 |k+1,acc=>by
  have e:acc.toArray++its.toArray=(acc++its).toArray:=by simp
  have e2:(acc++its)++(List.replicate k its).flatten=acc++(List.replicate (k+1) its).flatten:=by
   rw[List.replicate_succ,List.flatten_cons,List.append_assoc]
  rw[<-e2,<-foldl_rep its k (acc++its),<-e,List.replicate_succ,List.foldl_cons]
section
variable{X:Cx}{pins:List (Addr×Obj)}{σ:St}{H:Hp}{s:Shared}{l b:Addr}{xs ys zs:List V}
theorem Inv.aNg{its its':List Value}{n:Nat}{f:Array Value->Array Value}{t':Nat}(I:Inv X pins σ H s)(hH:H l=some (.lst xs))
  (e:s.heap.get? l=some { cls:=.type "list",data:=.seq its.toArray n }) (hf:f its.toArray=its'.toArray) (hv:Vals ys its') (hz:ys.length<=sizeLine) :
  Inv X pins σ (upd H l (.lst ys)) { s with heap:=s.heap.update l (Obj.mapSeq f),toks:=t' }:=by
 have q:=PySem.IsL.update e f
 rw[hf] at q
 refine I.write (x:=l) (e:=l) (by rw[hH];exact trivial) (.inl rfl) (fun b' u hb hu=>(Heap.get?_update_other s.heap (Obj.mapSeq f) (Ne.symm hb)).trans hu) ⟨_,q⟩ ?_
 exact⟨hz,its',_,hv,q⟩
theorem Inv.aMw{its:List Value}{t':Nat}(I:Inv X pins σ H s)(hv:Vals ys its)(hz:ys.length<=sizeLine) :
  Inv X pins σ (upd H s.heap.objs.size (.lst ys)) { s with heap:=s.heap.push { cls:=.type "list",data:=.seq its.toArray },toks:=t' }:=
 I.laid (fun _ _ q=>Heap.get?_push_of_some _ q) (Nat.le_refl _) ⟨hz,its,0,hv,Heap.get?_push_size _ rfl⟩
theorem Inv.fresh(I:Inv X pins σ H s):H s.heap.objs.size=none:=I.hok.fresh (Nat.le_refl _)
theorem Inv.aIc(I:Inv X pins σ H s)(hH:H l=some (.lst xs)):xs.length<=sizeLine/\∃(its:List Value) (n:Nat),Vals xs its/\xs.length=its.length/\s.heap.get? l=some { cls:=.type "list",data:=.seq its.toArray n }:=by
 obtain⟨z,its,n,r,e⟩:=I.hok l _ hH
 exact⟨z,its,n,r,r.length,e⟩
theorem aIe{n:Nat}(h:n<=sizeLine):Builtin.List.listTooLong n=false:=by
 unfold Builtin.List.listTooLong
 exact decide_eq_false (by omega)
end
section
variable{X:Cx}
def aAb:V->List V->Hp->VK->Prop:=fun x vs H Q=>∃l xs y,x=.ref l/\vs=[y]/\H l=some (.lst xs)/\xs.length < sizeLine/\Q .non (upd H l (.lst (xs ++ [y])))
theorem aG4:MtM X "list.append" aAb:=by
 intro pins s σ H x vs v us Q I rx rv h
 obtain⟨l,xs,y,rfl,rfl,hH,hz,q⟩:=h
 cases rx
 obtain⟨u,rfl,ru⟩:=rv.one
 obtain⟨z,its,n,r,hl,e⟩:=I.aIc hH
 refine call_meets F.slot_list_append ⟨_,e,rfl⟩ F.entry_list_append (F.args_list_append_2 _ _) (PySem.list_append l its.toArray n u (by rw[List.size_toArray];omega)) ⟨e,?_⟩
 refine⟨.non,_,I.aNg (its':=its ++ [u]) hH e (by simp) (r.append (.cons ru .nil)) ?_,rfl,q⟩
 rw[List.length_append,List.length_singleton]
 omega
def aMx:R2:=fun x y H Q=>∃l b xs zs,x=.ref l/\y=.ref b/\H l=some (.lst xs)/\H b=some (.lst zs)/\xs.length+zs.length<=sizeLine/\∀p,H p=none->Q (.ref p) (upd H p (.lst (xs++zs)))
theorem aLe:rC X (binaryOp .Add) aMx:=by
 intro pins s σ H x y v u Q I rx ry h
 obtain⟨l,b,xs,zs,rfl,rfl,hH,hB,hz,q⟩:=h
 cases rx
 cases ry
 obtain⟨z,its,n,r,hl,e⟩:=I.aIc hH
 obtain⟨z2,its2,n2,r2,hl2,e2⟩:=I.aIc hB
 refine PySem.P.add_list e e2 ?_ (by rw[List.size_toArray,List.size_toArray];omega)
 have ea:its.toArray++its2.toArray=(its++its2).toArray:=by simp
 rw[ea]
 exact⟨.ref _,_,I.aMw (t':=s.toks) (r.append r2) (by rw[List.length_append];omega),rfl,q _ I.fresh⟩
def aMy:R2:=fun x y H Q=>∃l k xs,x=.ref l/\y=.int k/\H l=some (.lst xs)/\-(2 ^ 63)<=k/\k < 2 ^ 63/\xs.length*k.toNat<=sizeLine/\
 ∀p,H p=none->Q (.ref p) (upd H p (.lst (List.replicate k.toNat xs).flatten))
theorem len_rep{α:Type}(xs:List α)(k:Nat):(List.replicate k xs).flatten.length=k*xs.length:=by
 induction k with
 |zero=>simp
 |succ k ih=>rw[List.replicate_succ,List.flatten_cons,List.length_append,ih,Nat.succ_mul,Nat.add_comm]
theorem aLf:rC X (binaryOp .Mult) aMy:=by
 intro pins s σ H x y v u Q I rx ry h
 obtain⟨l,k,xs,rfl,rfl,hH,h1,h2,hz,q⟩:=h
 cases rx
 obtain⟨t,rfl⟩:=ry
 obtain⟨z,its,n,r,hl,e⟩:=I.aIc hH
 have hlen:its.toArray.size*k.toNat<=sizeLine:=by rw[List.size_toArray,<-hl];exact hz
 have hcap:¬its.toArray.size*k.toNat > (2 ^ 63 - 1) / 8:=by
  have:(sizeLine:Nat)<=(2 ^ 63 - 1) / 8:=by decide
  omega
 have hfit:¬(!Builtin.List.listFitsIndex k)=true:=by
  rw[fitsIndex_both h1 h2]
  exact Bool.false_ne_true
 have hlong:¬Builtin.List.listTooLong (its.toArray.size*k.toNat)=true:=by
  rw[aIe hlen]
  exact Bool.false_ne_true
 have hnew:List.foldl (fun x1 x2=>x1++x2) #[] (List.replicate (if its.toArray.isEmpty=true then 0 else k.toNat) its.toArray)=(List.replicate k.toNat its).flatten.toArray:=by
  have f0:∀m:Nat,List.foldl (fun x1 x2=>x1++x2) #[] (List.replicate m its.toArray)=(List.replicate m its).flatten.toArray:=fun m=>by
   have:=foldl_rep its m []
   rw[List.nil_append] at this
   exact this
  rw[f0]
  cases its with
  |nil=>simp
  |cons a r'=>rw[if_neg (by simp)]
 refine wpAny_binaryOp_repeat_ref (T:="list") (U:="int") (by decide) ⟨_,e,rfl⟩ (fun s'=>typeIs_int s' k t) noFill_list_mul F.fills_int_mul F.slot_int_rmul repeat_list F.slot_int_index.lookup
  (call_meets F.slot_int_rmul (typeIs_int s k t) F.entry_int_rmul (F.args_int_rmul_2 _ _) (int___rmul___int_list k t l its.toArray n)
   ⟨e,rfl,⟨_,e,rfl⟩,call_meets F.slot_list_mul ⟨_,e,rfl⟩ F.entry_list_mul (F.args_list_mul_2 _ _) (AutoListH.list___mul___list_int_3 l its.toArray n k t hfit hcap hlong) ⟨e,?_⟩⟩)
 rw[hnew]
 exact⟨.ref _,_,I.aMw (t':=s.toks) (r.rep k.toNat) (by rw[len_rep,Nat.mul_comm];exact hz),rfl,q _ I.fresh⟩
end
section
variable{prog:Program}{w:World}{A:Around}{E:Value->Shared->Prop}{s:Shared}
end
section
variable{X:Cx}
end
end L2
namespace L2
open PySem PySem.Spec PyProof.Rows
section
variable{κ:Type}[DecidableEq κ]
def oU(kvs:List (κ×V))(k:κ):Option V:=(kvs.find? fun kv=>decide (kv.1=k)).map (·.2)
def putK(kvs:List (κ×V))(k:κ)(v:V):List (κ×V):=
 if (kvs.any fun kv=>decide (kv.1=k))=true then kvs.map (fun kv=>if kv.1=k then (kv.1,v) else kv) else kvs ++ [(k,v)]
theorem kC{p:κ×V}{r:List (κ×V)}{k:κ}(e:p.1=k):oU (p::r) k=some p.2:=by simp[oU,List.find?_cons,e]
theorem iE{p:κ×V}{r:List (κ×V)}{k:κ}(e:¬p.1=k):oU (p::r) k=oU r k:=by simp[oU,List.find?_cons,e]
theorem vV(k:κ):∀kvs:List (κ×V),(kvs.any fun kv=>decide (kv.1=k))=(oU kvs k).isSome
 |[]=>rfl
 |p::r=>by
  rw[List.any_cons]
  by_cases e:p.1=k
  ·simp only[kC e,decide_eq_true e,Bool.true_or,Option.isSome_some]
  ·rw[iE e,decide_eq_false e,Bool.false_or];exact vV k r
theorem rJ(k j:κ)(y:V):∀kvs:List (κ×V),oU (kvs.map fun kv=>if kv.1=k then (kv.1,y) else kv) j=(oU kvs j).map fun x=>if j=k then y else x
 |[]=>rfl
 |p::r=>by
  have ih:=rJ k j y r
  rw[List.map_cons]
  by_cases h:p.1=k
  ·rw[if_pos h]
   by_cases e:p.1=j
   ·rw[kC (p:=(p.1,y)) e,kC e,Option.map_some,if_pos (e.symm.trans h)]
   ·rw[iE (p:=(p.1,y)) e,iE e,ih]
  ·rw[if_neg h]
   by_cases e:p.1=j
   ·rw[kC (p:=p) e,kC e,Option.map_some,if_neg (fun z=>h (e.trans z))]
   ·rw[iE (p:=p) e,iE e,ih]
theorem kD(kvs:List (κ×V))(k:κ)(v:V):(putK kvs k v).length<=kvs.length+1:=by
 unfold putK
 split
 ·rw[List.length_map];omega
 ·rw[List.length_append,List.length_cons,List.length_nil];omega
theorem aAA{kvs:List (κ×V)}{k:κ}(v:V)(h:oU kvs k=none):putK kvs k v=kvs ++ [(k,v)]:=by
 unfold putK
 rw[vV,h]
 exact if_neg (by decide)
theorem rA.xT{o:Option V}{u:Option Value}(r:rA o u):o.isSome=u.isSome:=by
 cases o with
 |none=>cases u with
  |none=>rfl
  |some _=>exact(show False from r).elim
 |some _=>cases u with
  |none=>exact(show False from r).elim
  |some _=>rfl
theorem rA.getD{o:Option V}{u:Option Value}{d:V}{d':Value}(r:rA o u)(rd:RelV d d'):RelV (o.getD d) (u.getD d'):=by
 cases o with
 |none=>cases u with
  |none=>exact rd
  |some _=>exact(show False from r).elim
 |some _=>cases u with
  |none=>exact(show False from r).elim
  |some _=>exact r
theorem KV.val{kvs:List (κ×V)}{vs:List (κ×Value)}(r:KV kvs vs)(k:κ):rA (oU kvs k) (valueAt vs k):=by
 unfold KV at r
 induction r with
 |nil=>exact True.intro
 |@cons p q ps qs h t ih=>
  obtain⟨h1,h2⟩:=h
  by_cases e:p.1=k
  ·have e':q.1=k:=h1.symm.trans e
   have b:valueAt (q::qs) k=some q.2:=by simp[valueAt,List.find?_cons,e']
   rw[kC e,b];exact h2
  ·have e':¬q.1=k:=fun z=>e (h1.trans z)
   have b:valueAt (q::qs) k=valueAt qs k:=by simp[valueAt,List.find?_cons,e']
   rw[iE e,b];exact ih
theorem KV.any{kvs:List (κ×V)}{vs:List (κ×Value)}(r:KV kvs vs)(k:κ):(kvs.any fun kv=>decide (kv.1=k))=vs.any fun kv=>decide (kv.1=k):=by
 unfold KV at r
 induction r with
 |nil=>rfl
 |cons h t ih=>rw[List.any_cons,List.any_cons,ih,h.1]
theorem KV.aLg{kvs:List (κ×V)}{vs:List (κ×Value)}(r:KV kvs vs)(k:κ){y:V}{u:Value}(ry:RelV y u) :
  KV (kvs.map fun kv=>if kv.1=k then (kv.1,y) else kv) (vs.map fun kv=>if kv.1=k then (kv.1,u) else kv):=by
 unfold KV at r ⊢
 induction r with
 |nil=>exact .nil
 |@cons p q ps qs h t ih=>
  rw[List.map_cons,List.map_cons]
  refine .cons ?_ ih
  obtain⟨h1,h2⟩:=h
  by_cases e:p.1=k
  ·rw[if_pos e,if_pos (h1.symm.trans e)];exact⟨h1,ry⟩
  ·rw[if_neg e,if_neg (fun z=>e (h1.trans z))];exact⟨h1,h2⟩
theorem KV.put{kvs:List (κ×V)}{vs:List (κ×Value)}(r:KV kvs vs)(k:κ){y:V}{u:Value}(ry:RelV y u):KV (putK kvs k y) (stored vs k u):=by
 unfold putK stored
 rw[r.any k]
 by_cases e:(vs.any fun kv=>decide (kv.1=k))=true
 ·rw[if_pos e,if_pos e];exact r.aLg k ry
 ·rw[if_neg e,if_neg e];exact Paired.snoc r ⟨rfl,ry⟩
theorem KV.length{kvs:List (κ×V)}{vs:List (κ×Value)}(r:KV kvs vs):kvs.length=vs.length:=Paired.length r
end
theorem aCs{P:Program}{w:World}{k:Key}{u:Value}(r:RelV (kV k) u):(bN P w).is k u=true:=by
 cases k with
 |inl i=>obtain⟨t,e⟩:=(show ∃t,u=Value.int i t from r);subst e;exact aD6 P w i t
 |inr x=>obtain⟨t,e⟩:=(show ∃t,u=Value.str x t from r);subst e;exact aD7 P w x t
theorem aCt{P:Program}{w:World}:∀{ks:List Key}{us:List Value},Vals (ks.map kV) us->ItemsAre (bN P w) ks us
 |[],_,r=>by rw[List.map_nil] at r;cases r;exact .nil
 |k::ks,_,r=>by
  rw[List.map_cons] at r
  cases r with
  |cons h t=>exact .cons (aCs h) (aCt t)
abbrev KT(H:Hp):List (List Key×V)->List (List Key×Addr×Value)->Prop:=Paired fun p q=>p.1=q.1/\H q.2.1=some (.tup (p.1.map kV))/\RelV p.2 q.2.2
theorem KT.val{H:Hp}{kvs:List (List Key×V)}{xs:List (List Key×Addr×Value)}(r:KT H kvs xs)(k:List Key):rA (oU kvs k) ((atKey xs k).map (·.2)):=by
 induction r with
 |nil=>exact True.intro
 |@cons p q ps qs h t ih=>
  obtain⟨h1,_,h2⟩:=h
  by_cases e:p.1=k
  ·have e':q.1=k:=h1.symm.trans e
   have b:atKey (q::qs) k=some q.2:=by simp[atKey,List.find?_cons,e']
   rw[kC e,b];exact h2
  ·have e':¬q.1=k:=fun z=>e (h1.trans z)
   have b:atKey (q::qs) k=atKey qs k:=by simp[atKey,List.find?_cons,e']
   rw[iE e,b];exact ih
theorem KT.aLg{H:Hp}{kvs:List (List Key×V)}{xs:List (List Key×Addr×Value)}(r:KT H kvs xs)(k:List Key){y:V}{u:Value}(ry:RelV y u) :
  KT H (kvs.map fun kv=>if kv.1=k then (kv.1,y) else kv) (xs.map (putAt k u)):=by
 induction r with
 |nil=>exact .nil
 |@cons p q ps qs h t ih=>
  rw[List.map_cons,List.map_cons]
  refine .cons ?_ ih
  obtain⟨h1,h2,h3⟩:=h
  unfold putAt
  by_cases e:p.1=k
  ·rw[if_pos e,if_pos (h1.symm.trans e)];exact⟨h1,h2,ry⟩
  ·rw[if_neg e,if_neg (fun z=>e (h1.trans z))];exact⟨h1,h2,h3⟩
theorem KT.put{H:Hp}{kvs:List (List Key×V)}{xs:List (List Key×Addr×Value)}(r:KT H kvs xs)(k:List Key){b:Addr}{y:V}{u:Value}(hb:H b=some (.tup (k.map kV)))(ry:RelV y u) :
  KT H (putK kvs k y) (storedH xs k b u):=by
 have e:(kvs.any fun kv=>decide (kv.1=k))=(atKey xs k).isSome:=by
  rw[vV,(r.val k).xT,Option.isSome_map]
 unfold putK storedH
 rw[e]
 by_cases q:(atKey xs k).isSome=true
 ·rw[if_pos q,if_pos q];exact r.aLg k ry
 ·rw[if_neg q,if_neg q];exact Paired.snoc r ⟨rfl,hb,ry⟩
theorem KT.keeps{H H':Hp}{kvs:List (List Key×V)}{xs:List (List Key×Addr×Value)}(r:KT H kvs xs)(ht:∀b ys,H b=some (.tup ys)->H' b=some (.tup ys)):KT H' kvs xs:=
 Paired.aKM r fun _ _ z=>⟨z.1,ht _ _ z.2.1,z.2.2⟩
section
variable{P:Program}{w:World}{H:Hp}{h:Heap}{a:Addr}
theorem aIf{u:HO}(ok:qY P w H h)(e:Rd H a u):bI P w H h a u:=e.ok ok
theorem yR{kvs:List (Key×V)}(ok:qY P w H h)(e:Rd H a (.dK kvs)):kvs.length<=sizeLine/\(a == sysModules)=false/\∃vs,KV kvs vs/\h.DictOf (bN P w) a vs:=
 show bI P w H h a (.dK kvs) from aIf ok e
theorem aMz{kvs:List (Key×V)}(ok:qY P w H h)(e:H a=some (.dK kvs)):kvs.length<=sizeLine/\(a == sysModules)=false/\∃vs,KV kvs vs/\h.DictOf (bN P w) a vs:=yR ok (.inl e)
theorem rK{ks:List Key}(ok:qY P w H h)(e:H a=some (.tup (ks.map kV))):(tupleKind (bN P w)).is h ks a:=by
 obtain⟨_,its,r,o,h1,h2,n,h3⟩:=(show bI P w H h a (.tup (ks.map kV)) from ok a _ e)
 exact⟨o,its.toArray,n,h1,h2,h3,by simpa using aCt r⟩
theorem aAB{kvs:List (List Key×V)}(ok:qY P w H h)(e:Rd H a (.dT kvs)):kvs.length<=sizeLine/\(a == sysModules)=false/\
  ∃xs,KT H kvs xs/\h.DictOfH (tupleKind (bN P w)) a xs:=by
 obtain⟨z,y,xs,r,o,es,ep,h1,h2,h3,h4,h5⟩:=(show bI P w H h a (.dT kvs) from aIf ok e)
 refine⟨z,y,xs,r,o,es,ep,h1,h2,h3,h4,fun x hx=>?_,h5⟩
 have all:∀{l:List (List Key×V)} {m:List (List Key×Addr×Value)},KT H l m->∀x∈m,(tupleKind (bN P w)).is h x.1 x.2.1:=by
  intro l m q
  induction q with
  |nil=>intro x hx;exact nomatch hx
  |@cons p q ps qs hq t ih=>
   intro x hx
   rcases List.mem_cons.mp hx with e|hx
   ·subst e
    exact rK ok (by rw[<-hq.1];exact hq.2.1)
   ·exact ih x hx
 exact all r x hx
theorem aKB{kvs:List (List Key×V)}(ok:qY P w H h)(e:H a=some (.dT kvs)):kvs.length<=sizeLine/\(a == sysModules)=false/\
  ∃xs,KT H kvs xs/\h.DictOfH (tupleKind (bN P w)) a xs:=aAB ok (.inl e)
end
def kE(H:Hp)(a:Addr)(y:V)(r:Option V):Prop:=
 (∃kvs k,Rd H a (.dK kvs)/\y=kV k/\r=oU kvs k)\/∃kvs k b,Rd H a (.dT kvs)/\y=.ref b/\H b=some (.tup (k.map kV))/\r=oU kvs k
def aAC(H:Hp)(a:Addr)(y v:V)(H':Hp):Prop:=
 (∃kvs k,H a=some (.dK kvs)/\y=kV k/\kvs.length < sizeLine/\H'=upd H a (.dK (putK kvs k v)))\/
 ∃kvs k b,H a=some (.dT kvs)/\y=.ref b/\H b=some (.tup (k.map kV))/\kvs.length < sizeLine/\H'=upd H a (.dT (putK kvs k v))
theorem kE.k{H:Hp}{a:Addr}{kvs:List (Key×V)}{k:Key}(e:H a=some (.dK kvs)):kE H a (kV k) (oU kvs k):=.inl ⟨kvs,k,.inl e,rfl,rfl⟩
theorem kE.t{H:Hp}{a b:Addr}{kvs:List (List Key×V)}{k:List Key}(e:H a=some (.dT kvs))(eb:H b=some (.tup (k.map kV))):kE H a (.ref b) (oU kvs k):=.inr ⟨kvs,k,b,.inl e,rfl,eb,rfl⟩
theorem aAC.k{H:Hp}{a:Addr}{kvs:List (Key×V)}{k:Key}{v:V}(e:H a=some (.dK kvs))(hl:kvs.length < sizeLine):aAC H a (kV k) v (upd H a (.dK (putK kvs k v))):=.inl ⟨kvs,k,e,rfl,hl,rfl⟩
theorem aAC.t{H:Hp}{a b:Addr}{kvs:List (List Key×V)}{k:List Key}{v:V}(e:H a=some (.dT kvs))(eb:H b=some (.tup (k.map kV)))(hl:kvs.length < sizeLine) :
  aAC H a (.ref b) v (upd H a (.dT (putK kvs k v))):=.inr ⟨kvs,k,b,e,rfl,eb,hl,rfl⟩
section
variable{X:Cx}{pins:List (Addr×Obj)}{σ:St}{H:Hp}{s:Shared}{a:Addr}{y v:V}{u r:Value}{o:Option V}{A:Around}{E:Value->Shared->Prop}
theorem Inv.big(I:Inv X pins σ H s):sysModules < s.heap.objs.size:=by
 have h:mainGlobals < s.heap.objs.size:=(I.mod.glob.keeps I.bk).lt
 exact Nat.lt_trans (by decide) h
theorem aG5{Q:Value->Shared->Prop}(hu:A.units+1 < cLine)(I:Inv X pins σ H s)(g:kE H a y (some v))(ry:RelV y u)(h:∀w' s',Inv X pins σ H s'->RelV v w'->Q w' s') :
  wpAny (model X.prog X.w) A (getItem (.ref a) u) Q E s:=by
 rcases g with ⟨kvs,k,e,ey,l⟩|⟨kvs,k,b,e,ey,eb,l⟩
 ·subst ey
  obtain⟨z,hd,vs,rel,dd⟩:=yR I.hok e
  obtain⟨w',hw,rw'⟩:=rA.some_of (v:=v) (o:=valueAt vs k) (by rw[l];exact rel.val k)
  exact wpAny_getItem_of (aCs ry) dd.mapOf hw (h w' _ (I.tok _) rw')
 ·subst ey
  cases (show u=Value.ref b from ry)
  obtain⟨z,hd,xs,rel,dd⟩:=aAB I.hok e
  obtain⟨w',hw,rw'⟩:=rA.some_of (v:=v) (o:=(atKey xs k).map (·.2)) (by rw[l];exact rel.val k)
  obtain⟨p,hp,hp2⟩:=Option.map_eq_some_iff.mp hw
  refine wpAny_getItem_heap (tupleKind_room_in1 hu) (rK I.hok eb) dd hp ?_
  rw[hp2]
  exact h w' _ (I.tok _) rw'
theorem aNh{Q:Value->Shared->Prop}(hu:A.units+1 < cLine)(I:Inv X pins σ H s)(g:kE H a y o)(ry:RelV y u)(h:∀s',Inv X pins σ H s'->Q (.bool o.isSome) s') :
  wpAny (model X.prog X.w) A (compareOp .In u (.ref a)) Q E s:=by
 rcases g with ⟨kvs,k,e,ey,l⟩|⟨kvs,k,b,e,ey,eb,l⟩
 ·subst ey
  obtain⟨z,hd,vs,rel,dd⟩:=yR I.hok e
  refine wpAny_in_of (aCs ry) hd dd.mapOf ?_
  rw[<-(rel.val k).xT,<-l]
  exact h _ (I.tok _)
 ·subst ey
  cases (show u=Value.ref b from ry)
  obtain⟨z,hd,xs,rel,dd⟩:=aAB I.hok e
  refine wpAny_in_heap (tupleKind_room_in1 hu) (rK I.hok eb) hd dd ?_
  have q:=(rel.val k).xT
  rw[Option.isSome_map] at q
  rw[<-q,<-l]
  exact h _ (I.tok _)
theorem aC5{h':Heap}{t':Nat}{ob:HO}(I:Inv X pins σ H s)(mu:Mut (H a))(hs:Heap.SameBut a s.heap h')(he:∃q,h'.get? a=some q)(new:bI X.prog X.w (upd H a ob) h' a ob) :
  Inv X pins σ (upd H a ob) { s with heap:=h',toks:=t' }:=
 I.write (x:=a) (e:=a) mu (.inl rfl) (fun b q hb z=>(hs.2 b hb).trans z) he new
theorem aLh{P:Program}{w:World}{H':Hp}{h':Heap}{kvs:List (Key×V)}{vs:List (Key×Value)}(z:kvs.length<=sizeLine)(hd:(a == sysModules)=false)(rel:KV kvs vs)(dd:h'.DictOf (bN P w) a vs) :
  bI P w H' h' a (.dK kvs):=⟨z,hd,vs,rel,dd⟩
theorem aG6{H':Hp}{Q:Unit->Shared->Prop}(hu:A.units+1 < cLine)(I:Inv X pins σ H s)(g:aAC H a y v H')(ry:RelV y u)(rv:RelV v r)(h:∀s',Inv X pins σ H' s'->Q () s') :
  wpAny (model X.prog X.w) A (setItem (.ref a) u r) Q E s:=by
 rcases g with ⟨kvs,k,e,ey,l,eH⟩|⟨kvs,k,b,e,ey,eb,l,eH⟩
 ·subst ey eH
  obtain⟨z,hd,vs,rel,dd⟩:=aMz I.hok e
  have hz:vs.length<=sizeLine:=by rw[<-rel.length];exact z
  have hl:(putK kvs k v).length<=sizeLine:=by have:=kD kvs k v;omega
  refine wpAny_setItem_pairs (hsz:=hz) (aCs ry) dd fun h' dd' hs=>h _ ?_
  have he:∃q,h'.get? a=some q:=let ⟨q,_,_,hq,_⟩:=dd';⟨q,hq⟩
  exact aC5 I (by rw[e];exact True.intro) hs he (aLh hl hd (rel.put k rv) dd')
 ·subst ey eH
  cases (show u=Value.ref b from ry)
  obtain⟨z,hd,xs,rel,dd⟩:=aKB I.hok e
  have hz:xs.length<=sizeLine:=by rw[<-Paired.length rel];exact z
  have hl:(putK kvs k v).length<=sizeLine:=by have:=kD kvs k v;omega
  refine wpAny_setItem_heap (hsz:=hz) (tupleKind_room_in1 hu) (rK I.hok eb) dd fun h' dd' hs=>h _ ?_
  obtain⟨q,es,ep,hq,h2,h3,h4,_,h5⟩:=dd'
  refine aC5 I (by rw[e];exact True.intro) hs ⟨q,hq⟩ ⟨hl,hd,_,(rel.put k eb rv).keeps fun c ys ec=>?_,q,es,ep,hq,h2,h3,h4,h5⟩
  rw[aJ (aKw ec e (fun z=>nomatch z))]
  exact ec
end
section
variable{X:Cx}{pins:List (Addr×Obj)}{σ:St}{H:Hp}{s:Shared}{a:Addr}{kvs:List (Key×V)}{k:Key}{u:Value}{A:Around}{E:Value->Shared->Prop}
end
def aLi(i:Expr):Prop:=∀ov iv,subscripted i false ov iv=operate [ov,iv] (getItem ov iv)
theorem aJH{prog:Program}{w:World}{A:Around}{E:Value->Shared->Prop}{s:Shared}{env:Env}{value slice:Expr}{pos:Pos}{T id:String}{Q:Value->Shared->Prop}
  (hl:typeLookup (.type T) "__getitem__" = pure (some (.builtin id))) (hs:aLi slice)
  (h:wpAny (model prog w) A (eval value env) (fun o s₁=>wpAny (model prog w) A (eval slice env) (fun i s₂=>s₂.TypeIs o T/\wpAny (model prog w) A (getItem o i) Q E s₂) E s₁) E s) :
  wpAny (model prog w) A (eval (.Subscript value slice pos) env) Q E s:=by
 refine Subscript_ (wpAny_mono h (fun o s₁ h₁=>wpAny_mono h₁ (fun i s₂ h₂=>?_) fun _ _ x=>x) fun _ _ x=>x)
 obtain⟨hT,h₂⟩:=h₂
 unfold subscriptTail
 refine wpAny_bind ?_
 rw[getitemInPython_of_ne hT.not_modules]
 refine wpAny_bind (wpAny_specialOf hT hl ?_)
 have fin:wpAny (model prog w) A (subscripted slice false o i) (fun r s₃=>wpAny (model prog w) A (letTemporaryGo value o r >>= fun _=>pure r) Q E s₃) E s₂:=by
  rw[hs o i]
  exact wpAny_operating (wpAny_mono h₂ (fun r s₃ h₃=>wpAny_bind (wpAny_letTemporaryGo (wpAny_pure h₃))) fun _ _ x=>x)
 first
  |exact wpAny_pure (wpAny_bind fin)
  |exact wpAny_bind (wpAny_pure (wpAny_bind fin))
  |exact wpAny_bind fin
theorem aEi{X:Cx}{pins:List (Addr×Obj)}{σ:St}{H:Hp}{s:Shared}{a:Addr}{y:V}{o:Option V}(I:Inv X pins σ H s)(g:kE H a y o):s.TypeIs (.ref a) "dict":=by
 rcases g with ⟨kvs,k,e,_,_⟩|⟨kvs,k,b,e,_,_,_⟩
 ·obtain⟨_,_,vs,_,dd⟩:=yR I.hok e
  exact dd.typeIs
 ·obtain⟨_,_,xs,_,dd⟩:=aAB I.hok e
  exact dd.typeIs
def aIg(td ty:TE):TE:=fun σ H Q=>td σ H fun x H1=>ty σ H1 fun y H2=>∃a v,x=.ref a/\kE H2 a y (some v)/\Q v H2
def aIh(td ty tv:TE):TS:=fun D σ H=>tv σ H fun v H1=>td σ H1 fun x H2=>ty σ H2 fun y H3=>∃a H4,x=.ref a/\aAC H3 a y v H4/\D.nx σ H4
section
variable{X:Cx}{o i e value:Expr}{pos pos' tpos:Pos}{td ty tv:TE}
theorem aJI(hu:X.A.units+1 < cLine)(ho:PE X o td)(hi:PE X i ty)(hs:aLi i):PE X (.Subscript o i pos) (aIg td ty):=by
 intro pins s σ H Q I h
 refine aJH PySem.F.slot_dict_getitem.lookup hs (cN (ho pins s σ H _ I h) fun u s1 ⟨x,H1,I1,rx,q1⟩=>cN (hi pins s1 σ H1 _ I1 q1) fun iv s2 ⟨y,H2,I2,ry,a,v,ex,g,q2⟩=>?_)
 subst ex
 obtain rfl:u=Value.ref a:=rx
 exact⟨aEi I2 g,aG5 hu I2 g ry fun w' s3 I3 rw'=>⟨v,H2,I3,rw',q2⟩⟩
theorem vW(hu:X.A.units+1 < cLine)(ho:PE X o td)(hi:PE X i ty)(hv:PE X value tv)(hs:swapsWith value (some (.Subscript o i pos')) pos.line X.env=pure false) :
  PS X (.Assign [.Subscript o i pos'] value pos) (aIh td ty tv):=by
 intro pins s σ H D I h
 refine wpAny_Assign_Subscript (cN (hv pins s σ H _ I h) fun r s1 ⟨v,H1,I1,rv,q1⟩=>cN (ho pins s1 σ H1 _ I1 q1) fun u s2 ⟨x,H2,I2,rx,q2⟩=>cN (hi pins s2 σ H2 _ I2 q2) fun iv s3 ⟨y,H3,I3,ry,a,H4,ex,g,q3⟩=>?_) hs
 subst ex
 obtain rfl:u=Value.ref a:=rx
 exact aG6 hu I3 g ry rv fun s4 I4=>⟨σ,H4,I4,q3⟩
end
theorem aIi{P:Program}{w:World}{H:Hp}(h:Heap)(hb:sysModules < h.objs.size):bI P w H (h.push { cls:=.type "dict",data:=.dict #[] }) h.objs.size (.dK []):=
 ⟨Nat.zero_le _,beq_eq_false_iff_ne.mpr (Ne.symm (Nat.ne_of_lt hb)),[],.nil,Heap.DictOf.new h⟩
theorem aEj{P:Program}{w:World}{H:Hp}(h:Heap)(hb:sysModules < h.objs.size):bI P w H (h.push { cls:=.type "dict",data:=.dict #[] }) h.objs.size (.dT []):=
 ⟨Nat.zero_le _,beq_eq_false_iff_ne.mpr (Ne.symm (Nat.ne_of_lt hb)),[],.nil,_,#[],0,Heap.get?_push_size _ rfl,⟨rfl,rfl,rfl⟩,rfl,rfl,List.nodup_nil⟩
def aLj:TE:=fun _ H Q=>∀p,H p=none->Q (.ref p) (upd H p (.dK []))
def aLk:TE:=fun _ H Q=>∀p,H p=none->Q (.ref p) (upd H p (.dT []))
section
variable{X:Cx}{pos:Pos}
theorem aIj:PE X (.Dict [] [] pos) aLj:=fun pins s σ H Q I h=>
 wpAny_Dict_empty ⟨.ref s.heap.objs.size,_,I.laid (a:=s.heap.objs.size) (o:=.dK []) (t':=s.toks) (fun _ _ q=>Heap.get?_push_of_some _ q) (Nat.le_refl _) (aIi s.heap I.big),rfl,h _ (I.hok.fresh (Nat.le_refl _))⟩
theorem aIk:PE X (.Dict [] [] pos) aLk:=fun pins s σ H Q I h=>
 wpAny_Dict_empty ⟨.ref s.heap.objs.size,_,I.laid (a:=s.heap.objs.size) (o:=.dT []) (t':=s.toks) (fun _ _ q=>Heap.get?_push_of_some _ q) (Nat.le_refl _) (aEj s.heap I.big),rfl,h _ (I.hok.fresh (Nat.le_refl _))⟩
end
structure M1(X:Cx)(o:Expr)(m:Str)(apos:Pos)(e:Expr)(cpos:Pos):Prop where
 base:attributeBase o m X.env (eval o X.env)=eval o X.env
 vO:((backTo cpos (starEach [e] X.env)).all (fun x=>!x.1) && (backToKw cpos (keywordEach [] X.env)).all (fun x=>x.1.isSome)
  && decide (([e]:List Expr).length+([]:List Keyword).length+(if ([]:List Keyword).isEmpty then 0 else 1) < 30))=true
 line:(apos.endLine == cpos.line)=true
 trees:backTo cpos (starEach [e] X.env)=[(false,eval e X.env)]
structure M2(X:Cx)(o:Expr)(m:Str)(apos:Pos)(e f:Expr)(cpos:Pos):Prop where
 base:attributeBase o m X.env (eval o X.env)=eval o X.env
 vO:((backTo cpos (starEach [e,f] X.env)).all (fun x=>!x.1) && (backToKw cpos (keywordEach [] X.env)).all (fun x=>x.1.isSome)
  && decide (([e,f]:List Expr).length+([]:List Keyword).length+(if ([]:List Keyword).isEmpty then 0 else 1) < 30))=true
 line:(apos.endLine == cpos.line)=true
 trees:backTo cpos (starEach [e,f] X.env)=[(false,eval e X.env),(false,eval f X.env)]
def IsD(H:Hp)(a:Addr):Prop:=(∃kvs,Rd H a (.dK kvs))\/∃kvs,Rd H a (.dT kvs)
theorem aIl{X:Cx}{pins:List (Addr×Obj)}{σ:St}{H:Hp}{s:Shared}{a:Addr}(I:Inv X pins σ H s)(d:IsD H a) :
  s.TypeIs (.ref a) "dict"/\(∀b,Value.ref a=.ref b->∃ob,s.heap.get? b=some ob/\ob.dict=none)/\(a == sysModules)=false:=by
 rcases d with ⟨kvs,e⟩|⟨kvs,e⟩
 ·obtain⟨_,hd,vs,_,dd⟩:=yR I.hok e
  refine⟨dd.typeIs,fun b q=>?_,hd⟩
  cases q
  obtain⟨ob,_,_,h1,h2,_⟩:=dd
  exact⟨ob,h1,h2.2.1⟩
 ·obtain⟨_,hd,xs,_,dd⟩:=aAB I.hok e
  refine⟨dd.typeIs,fun b q=>?_,hd⟩
  cases q
  obtain⟨ob,_,_,h1,h2,_⟩:=dd
  exact⟨ob,h1,h2.2.1⟩
section
variable{X:Cx}{pins:List (Addr×Obj)}{σ:St}{H:Hp}{s:Shared}{a:Addr}{y d:V}{u r:Value}{o:Option V}{A:Around}{E:Value->Shared->Prop}
theorem aLl{Q:Value->Shared->Prop}(hu:A.units+1 < cLine)(I:Inv X pins σ H s)(g:kE H a y o)(ry:RelV y u)(h:∀w' s',Inv X pins σ H s'->RelV (o.getD .non) w'->Q w' s') :
  wpAny (model X.prog X.w) A (call (.builtin "dict.get") [.ref a,u]) Q E s:=by
 rcases g with ⟨kvs,k,e,ey,l⟩|⟨kvs,k,b,e,ey,eb,l⟩
 ·subst ey
  obtain⟨z,hd,vs,rel,dd⟩:=yR I.hok e
  refine call_meetsIn PySem.F.slot_dict_get dd.typeIs PySem.F.entry_dict_get (PySem.F.args_dict_get_2 _ _) (meets_dict_get (bN X.prog X.w) a (aCs ry) hd) ⟨_,dd.mapOf,h _ _ (I.tok _) ?_⟩
  rw[l]
  exact(rel.val k).getD rfl
 ·subst ey
  cases (show u=Value.ref b from ry)
  obtain⟨z,hd,xs,rel,dd⟩:=aAB I.hok e
  refine call_meetsIn PySem.F.slot_dict_get dd.typeIs PySem.F.entry_dict_get (PySem.F.args_dict_get_2 _ _) (meetsH_dict_get (tupleKind (bN X.prog X.w)) a b hd) ⟨tupleKind_room_in1 hu,k,xs,rK I.hok eb,dd,h _ _ (I.tok _) ?_⟩
  rw[l]
  exact(rel.val k).getD rfl
theorem aLm{Q:Value->Shared->Prop}(hu:A.units+1 < cLine)(I:Inv X pins σ H s)(g:kE H a y o)(ry:RelV y u)(rd:RelV d r)(h:∀w' s',Inv X pins σ H s'->RelV (o.getD d) w'->Q w' s') :
  wpAny (model X.prog X.w) A (call (.builtin "dict.get") [.ref a,u,r]) Q E s:=by
 rcases g with ⟨kvs,k,e,ey,l⟩|⟨kvs,k,b,e,ey,eb,l⟩
 ·subst ey
  obtain⟨z,hd,vs,rel,dd⟩:=yR I.hok e
  refine call_meetsIn PySem.F.slot_dict_get dd.typeIs PySem.F.entry_dict_get (PySem.F.args_dict_get_3 _ _ _) (meets_dict_get_default (bN X.prog X.w) a (aCs ry) hd r) ⟨_,dd.mapOf,h _ _ (I.tok _) ?_⟩
  rw[l]
  exact(rel.val k).getD rd
 ·subst ey
  cases (show u=Value.ref b from ry)
  obtain⟨z,hd,xs,rel,dd⟩:=aAB I.hok e
  refine call_meetsIn PySem.F.slot_dict_get dd.typeIs PySem.F.entry_dict_get (PySem.F.args_dict_get_3 _ _ _) (meetsH_dict_get_default (tupleKind (bN X.prog X.w)) a b hd r) ⟨tupleKind_room_in1 hu,k,xs,rK I.hok eb,dd,h _ _ (I.tok _) ?_⟩
  rw[l]
  exact(rel.val k).getD rd
end
def aFt(td ty:TE):TE:=fun σ H Q=>td σ H fun x H1=>∃a,x=.ref a/\IsD H1 a/\ty σ H1 fun y H2=>∃o,kE H2 a y o/\Q (o.getD .non) H2
def aFu(td ty tx:TE):TE:=fun σ H Q=>td σ H fun x H1=>∃a,x=.ref a/\IsD H1 a/\ty σ H1 fun y H2=>tx σ H2 fun z H3=>∃o,kE H3 a y o/\Q (o.getD z) H3
section
variable{X:Cx}{o e f:Expr}{apos cpos:Pos}{td ty tx:TE}
theorem aAD(hu:X.A.units+1 < cLine)(ho:PE X o td)(he:PE X e ty)(m:M1 X o "get" apos e cpos):PE X (.Call (.Attribute o "get" apos) [e] [] cpos) (aFt td ty):=by
 intro pins s σ H Q I h
 refine wpAny_Call_method m.base m.vO m.line PySem.F.plainAttrs_dict PySem.F.slot_dict_get PySem.F.type_dict_get (cN (ho pins s σ H _ I h) fun u s1 ⟨x,H1,I1,rx,a,ex,d,q1⟩=>?_)
 subst ex
 obtain rfl:u=Value.ref a:=rx
 obtain⟨t1,t2,_⟩:=aIl I1 d
 refine⟨t1,t2,?_⟩
 rw[m.trees]
 refine Calls.callWith_builtin rfl (Calls.evalArgs_plain (Calls.spliced_cons (cN (he pins s1 σ H1 _ I1 q1) fun iv s2 ⟨y,H2,I2,ry,ov,g,q2⟩=>Calls.spliced_nil ?_)))
 exact aLl hu I2 g ry fun w' s3 I3 rw'=>⟨_,H2,I3,rw',q2⟩
theorem aAE(hu:X.A.units+1 < cLine)(ho:PE X o td)(he:PE X e ty)(hf:PE X f tx)(m:M2 X o "get" apos e f cpos):PE X (.Call (.Attribute o "get" apos) [e,f] [] cpos) (aFu td ty tx):=by
 intro pins s σ H Q I h
 refine wpAny_Call_method m.base m.vO m.line PySem.F.plainAttrs_dict PySem.F.slot_dict_get PySem.F.type_dict_get (cN (ho pins s σ H _ I h) fun u s1 ⟨x,H1,I1,rx,a,ex,d,q1⟩=>?_)
 subst ex
 obtain rfl:u=Value.ref a:=rx
 obtain⟨t1,t2,_⟩:=aIl I1 d
 refine⟨t1,t2,?_⟩
 rw[m.trees]
 refine Calls.callWith_builtin rfl (Calls.evalArgs_plain (Calls.spliced_cons (cN (he pins s1 σ H1 _ I1 q1) fun iv s2 ⟨y,H2,I2,ry,q2⟩=>
  Calls.spliced_cons (cN (hf pins s2 σ H2 _ I2 q2) fun fv s3 ⟨z,H3,I3,rz,ov,g,q3⟩=>Calls.spliced_nil ?_))))
 exact aLm hu I3 g ry rz fun w' s4 I4 rw'=>⟨_,H3,I4,rw',q3⟩
end
section
variable{X:Cx}{pins:List (Addr×Obj)}{σ:St}{H:Hp}{s:Shared}{a:Addr}{kvs:List (Key×V)}{A:Around}{E:Value->Shared->Prop}
end
section
variable{X:Cx}{pins:List (Addr×Obj)}{σ:St}{H:Hp}{s:Shared}{a:Addr}{y:V}{u:Value}{A:Around}{E:Value->Shared->Prop}
end
end L2
namespace Att
open PySem PySem.W PySem.Calls PyProof.Rows
theorem zF{P:Params}{h:Heap}:∀(ns:List Int) (vs:List Value),WellAll P h vs (ns.map WData.int)->IntsAre vs ns:=by
 intro ns
 induction ns with
 |nil=>
  intro vs w
  rw[List.map_nil] at w
  cases w
  exact .nil
 |cons n ns ih=>
  intro vs w
  rw[List.map_cons] at w
  cases w with
  |cons a b=>
   cases a
   exact .cons _ _ (ih _ b)
theorem aG7{l:OpenLaw}{n:Nat}(hn:l.most=some n){P:Params}{h:Heap}{args:List WData}{vals:List Value}
  (hpre:l.row.toRowW.claim.pre args=true) (hwl:WellAll P h vals args) :
  ∃a vs ns,vals=[Value.ref a]/\args=[WData.list (ns.map WData.int)]/\h.get? a=some { cls:=.type "list",data:=.seq vs.toArray }/\IntsAre vs ns/\ns.length<=n:=by
 have hsh:WShape.hasAll [] args [.list .int]=true:=(pre_splitW hpre).1
 have hc:l.pre.holds [] { args:=args } = true:=(pre_splitW hpre).2
 obtain⟨d,r,rfl,h1,h2⟩:=hasAllW_cons hsh
 obtain rfl:=hasAllW_nil h2
 obtain⟨xs,rfl,h3⟩:=hasW_list h1
 obtain⟨ns,rfl⟩:=items_int h3
 have hlen:ns.length<=n:=by
  unfold OpenLaw.pre at hc
  have h4:(WTm.not (.lt (.lit (.int (n:Int))) (.len (.arg 0)))).holds [] { args:=[.list (ns.map .int)] } = true:=by
   have h4:=(holds_andW hc).1
   rw[hn] at h4
   exact h4
  have h5:=condW_of h4 (w_not (w_lt w_lit (w_len_list (w_arg rfl))))
  rw[List.length_map] at h5
  refine Nat.le_of_not_lt fun q=>?_
  have q':(n:Int) < ((ns.length:Nat):Int):=by omega
  first
   |(rw[decide_eq_true q'] at h5;exact absurd h5 (by decide))
   |(simp at h5;omega)
 cases hwl with
 |cons w1 w2=>
  cases w2
  cases w1 with
  |list ho hall=>exact⟨_,_,ns,rfl,rfl,ho,zF ns _ hall,hlen⟩
theorem aG8(l:OpenLaw)(args:List WData):l.row.toRowW.claim.post args (.bool true) args=true:=
 postW_of (r:=l.row.toRowW) (X:=(true == true))
  (show WShape.has [] (.bool true) .bool=true by first|rfl|decide|simp[WShape.has,WShape.arms,WShape.armsAll])
  (show(WTm.eq .res (.lit (.bool true))).value [] { args:=args,res:=some (.bool true),after:=args } = some (.bool (true == true)) from w_eq_bool (w_res rfl) w_lit) rfl
theorem aEk{l:OpenLaw}{n:Nat}{q:Program}{loose:List Str}{XP:(Str->Option Value)->Heap->Prop}{YP:World->Heap->Prop}{d:DefRec}
  (hn:l.most=some n) (hdf:d.params.defaults=[])
  (call:∀(w:World) (s₀ s₁:Shared) (mg mb:Str->Option Value) (fa:Addr) (o:Obj) (pm cd doc:Value) (a:Addr) (vs:List Value) (ns:List Int),
   Ground q loose [] XP w s₀ mg mb s₁.heap->YP w s₁.heap->
   s₁.heap.get? fa=some o->o.data=.func (docDef d.name d.params d.body d.scope pm cd doc)->s₁.heap.CodeRec cd d.name->mg d.name=some (.ref fa)->
   s₁.heap.get? a=some { cls:=.type "list",data:=.seq vs.toArray }->IntsAre vs ns->ns.length<=n->s₁.gens = #[]->
   codeAny (model l.prog w) callerA (.call (.ref fa) ⟨[.ref a],[]⟩) (fun r s'=>r=.ok (.ret (.bool true))/\OldK s₁.heap s'.heap/\s'.os=s₁.os/\AllBare s'.gens) s₁) :
  WalkO q loose XP YP l.row.toRowW d [] (fun f vs=>PySem.call f vs):=by
 intro w s₀ s₁ mg mb G Y fa o pm cd doc dV kV ho hd hcd hD hmg hg args vals as hpre hlay hrd hwl hlo
 obtain rfl:dV=.none:=Dflts.none hD hdf
 obtain rfl:kV=.none:=Dflts.noKw hD
 obtain⟨a,vs,ns,rfl,rfl,hobj,hints,hlen⟩:=aG7 hn hpre hwl
 refine enter_call (codeAny_mono (call w s₀ s₁ mg mb fa o pm cd doc a vs ns G Y ho (fd_plain hd) hcd hmg hobj hints hlen hg) fun r s' hq=>?_)
 obtain⟨rfl,h2,h3,h4⟩:=hq
 exact⟨.inl ⟨.bool true,.bool true,[],rfl,fun _=>rfl,.bool true,aG8 l _,fun _=>⟨List.Pairwise.nil,fun _ hm=>(nomatch hm)⟩⟩,h2,h3,h4⟩
section
variable{prog:Program}{w:World}{A:Around}{E:Value->Shared->Prop}{s:Shared}{K:Frag}
end
end Att
namespace L2
open PySem PySem.Spec PyProof.Rows
theorem xU:∀{vs:List Value}{ns:List Int},IntsAre vs ns->Vals (ns.map V.int) vs
 |_,_,.nil=>.nil
 |_,_,.cons n t h=>.cons ⟨t,rfl⟩ (xU h)
def aMA(H:Hp):Prop:=∀b,H b=none\/∃o xs,H b=some (.frz o (.lst xs))
theorem aMB{P:Program}{w:World}{K:W.Frag}{mg mb:Str->Option Value}{CX:CXT}{k:Nat}{fa a:Addr}{fd:FuncData}{x:Str}{sp:Sp}{s₁:Shared}{vs:List Value}{ns:List Int}
  (KX:K.In s₁.heap) (hns:s₁.heap.Ns mainGlobals mg) (hb:s₁.heap.Ns builtinsNs mb) (hbb:∀x:Str,x≠"__name__"->mb x=bootBuiltins x) (hlim:s₁.heap.NoLimit) (hbm:∃bm o,mg "__builtins__" = some (.ref bm)/\bm≠builtinsNs/\s₁.heap.get? bm=some o/\o.cls=.type "module"/\o.dict=some builtinsNs/\o.data=.plain) (hg:s₁.gens = #[])
  (ha:s₁.heap.get? a=some { cls:=.type "list",data:=.seq vs.toArray }) (hi:IntsAre vs ns) (hl:ns.length<=sizeLine) (hr:dI k callerA)
  (F:∀base:Heap,K.In base->base.Ns mainGlobals mg->bO P w K mg base CX k fa fd [x] sp) (hbind:∀(s:Shared) (u:Value),BindsTo s fd ⟨[u],[]⟩ [(x,u)])
  (hsp:∀H:Hp,aMA H->bG K H a (ns.map V.int)->sp [.ref a] H (fun v _=>v=.bl true) fun _ _ _=>False)
  (hCX:∀H e s',CX [] H s₁ (fun _ _ _=>False) e s'->False) :
  codeAny (model P w) callerA (.call (.ref fa) ⟨[.ref a],[]⟩) (fun r s'=>r=.ok (.ret (.bool true))/\OldK s₁.heap s'.heap/\s'.os=s₁.os/\AllBare s'.gens) s₁:=by
 have rv:=xU hi
 have lenV:=hi.length
 have core:∀H:Hp,aMA H->bG K H a (ns.map V.int)->qY P w H s₁.heap->(∀b,H b≠none->b=a)->(H a≠none->K.lookup a=none)->
   codeAny (model P w) callerA (.call (.ref fa) ⟨[.ref a],[]⟩) (fun r s'=>r=.ok (.ret (.bool true))/\OldK s₁.heap s'.heap/\s'.os=s₁.os/\AllBare s'.gens) s₁:=by
  intro H hO hS hok hA hK
  have base_of:∀{b:Addr} {o:Obj},s₁.heap.get? b=some o->H b=none->(uB s₁.heap H).get? b=some o:=fun e n=>aD8 e n
  have noA:∀{b:Addr} {o:Obj} {es:Array DictEntry} {ep:Nat},s₁.heap.get? b=some o->o.data=.dict es ep->H b=none:=fun {b o es ep} e d=>by
   cases q:H b with
   |none=>rfl
   |some u=>
    have e':b=a:=hA b (by rw[q];simp)
    subst e'
    rw[ha] at e;cases e
    have d':Data.seq vs.toArray _=Data.dict es ep:=d
    cases d'
  have nsK:∀{b:Addr} {m:Str->Option Value},s₁.heap.Ns b m->(uB s₁.heap H).Ns b m:=fun {b m} ⟨o,es,ep,e,d,r⟩=>⟨o,es,ep,base_of e (noA e d),d,r⟩
  have hKb:K.In (uB s₁.heap H):=fun b o e=>base_of (KX b o e) (by
   cases q:H b with
   |none=>rfl
   |some u=>
    have e':b=a:=hA b (by rw[q];simp)
    subst e'
    rw[hK (by rw[q];simp)] at e;cases e)
  have hbm':∃bm o,mg "__builtins__" = some (.ref bm)/\bm≠builtinsNs/\(uB s₁.heap H).get? bm=some o/\o.cls=.type "module"/\o.dict=some builtinsNs/\o.data=.plain:=by
   obtain⟨bm,ob,b1,b2,b3,b4,b5,b6⟩:=hbm
   refine⟨bm,ob,b1,b2,base_of b3 ?_,b4,b5,b6⟩
   cases q:H bm with
   |none=>rfl
   |some u=>
    have e':bm=a:=hA bm (by rw[q];simp)
    rw[e',ha] at b3
    cases b3
    exact absurd (show Value.type "list" = Value.type "module" from b4) (by decide)
  have hM:Mod K mg (uB s₁.heap H):=⟨hKb,nsK hns,⟨mb,nsK hb,hbb⟩,(let ⟨mc,h1,h2⟩:=hlim;⟨mc,nsK h1,h2⟩),hbm'⟩
  have e0:aBB P w K mg (uB s₁.heap H) callerA [] s₁ H:=⟨rfl,hM,fun b o e=>aGc e,Nat.le_of_eq (aCj _ _),trivial,fun b hb=>absurd (show b∈([]:List Addr) from hb) (by simp),hok,.of_eq hg⟩
  refine codeAny_mono ((F _ hKb (nsK hns)).run callerA [] s₁ H ⟨[.ref a],[]⟩ [.ref a] [.ref a] _ _ hr e0 (hbind s₁ (.ref a)) (.cons rfl .nil) (hsp H hO hS)) fun r s' h=>?_
  cases r with
  |error e=>exact(hCX H e s' h).elim
  |ok fl=>
   cases fl with
   |next=>exact False.elim h
   |brk=>exact False.elim h
   |cont=>exact False.elim h
   |ret u=>
    obtain⟨v,H',os,bare,un,hok',r',q⟩:=h
    have q':v=.bl true:=q
    subst q'
    obtain rfl:u=Value.bool true:=r'
    refine⟨rfl,OldK.of_keep fun b o e=>?_,os,bare⟩
    cases q:H b with
    |none=>exact un.keep b o e q (by intro z;exact absurd (show b∈([]:List Addr) from z) (by simp)) (by simp)
    |some u=>
     rcases hO b with z|⟨ob,xs,z⟩
     ·rw[q] at z;cases z
     ·have z2:=un.frzs b ob _ z
      obtain⟨e1,_⟩:=hok b _ z
      obtain⟨e2,_⟩:=hok' b _ z2
      rw[e] at e1;cases e1
      exact e2
 cases hk:K.lookup a with
 |some o=>
  have e:=KX a o hk
  rw[ha] at e
  cases e
  refine core (fun _=>none) (fun _=>.inl rfl) (.inr ⟨_,vs.toArray,_,hk,rfl,rfl,rfl,by rw[List.size_toArray,lenV];exact hl,by simpa using rv⟩) (fun b u z=>by have z':(none:Option HO)=some u:=z;cases z') (fun b z=>absurd rfl z) fun z=>absurd rfl z
 |none=>
  refine core (fun b=>if b=a then some (.frz { cls:=.type "list",data:=.seq vs.toArray } (.lst (ns.map V.int))) else none) (fun b=>?_) (.inl (.inr ⟨{ cls:=.type "list",data:=.seq vs.toArray },if_pos rfl⟩)) (fun b u z=>?_) (fun b z=>?_) fun _=>hk
  ·by_cases hb:b=a
   ·exact .inr ⟨_,_,if_pos hb⟩
   ·exact .inl (if_neg hb)
  ·by_cases hb:b=a
   ·have z':=(if_pos hb).symm.trans z
    cases z'
    subst hb
    exact⟨ha,by rw[List.length_map];exact hl,vs,_,rv,ha⟩
   ·have z':=(if_neg hb).symm.trans z
    cases z'
  ·by_cases hb:b=a
   ·exact hb
   ·exact absurd (if_neg hb) z
end L2
namespace L2
open PySem PySem.Spec PyProof.Rows
end L2
namespace L2
open PySem PySem.Spec PyProof.Rows
def inClass(s:Stmt)(j:Nat):Stmt:=match s with
 |.ClassDef _ _ _ body _ _ _ _ _ _ _=>body.getD j (.Pass ⟨0,0,0,0⟩)
 |_=>.Pass ⟨0,0,0,0⟩
def aY(s:Stmt):Arguments:=match s with
 |.FunctionDef _ a _ _ _ _ _ _ _ _=>a
 |_=>{ posonlyargs:=[],args:=[],vararg:=none,kwonlyargs:=[],kw_defaults:=[],kwarg:=none,defaults:=[] }
def aW(s:Stmt):List Stmt:=match s with
 |.FunctionDef _ _ b _ _ _ _ _ _ _=>b
 |_=>[]
def aB(s:Stmt):Scope:=match s with
 |.FunctionDef _ _ _ _ _ _ sc _ _ _=>sc
 |_=>{ kind:=.function,names:=[],isGenerator:=false,isCoroutine:=false }
abbrev iB:CXT:=fun _ _ _ _ _ _=>False
abbrev E0:XK:=fun _ _ _=>False
theorem aU{X:Cx}:Passes iB X E0:=fun _ _ _ _ _ _ _ h=>h.elim
structure jA(K:W.Frag)(x qual:Str)(st:Stmt)(f:Addr)(fd:FuncData):Prop where
 ex:∃(oc:Value) (od:Option Addr) (kV doc pm:Value) (an:Option Addr) (cdv ct:Value) (osl:Array (Option Value)),
  fd=W.fnOf x qual (aY st) (aW st) (aB st) .none kV doc pm an cdv ct/\K.lookup f=some ⟨oc,od,.func fd,osl⟩/\W.codeIn K cdv qual=true
 kp:W.keepIn K (.ref f)=true
section
variable{P:Program}{w:World}{K:W.Frag}{mg:Str->Option Value}{base:Heap}
theorem jA.ok{x qual:Str}{st:Stmt}{f:Addr}{fd:FuncData}{N ps:List Str}{k:Nat}{sp:Sp}(F:jA K x qual st f fd)(S:aX N ps (aB st))(len:∀vs H Q E,sp vs H Q E->vs.length=ps.length)
  (hbody:∀(cdv:Value) (A:Around) (outer:List Env) (s:Shared) (H:Hp) (vs:List V) (Q:VK) (E:XK),dI k (A.deeper (envOfC qual (aB st) s.heap.objs.size f cdv))->sp vs H Q E->
   ∃t,PSs (aFo iB P w K mg base N qual (aB st) f cdv A outer s H E).nox (aW st) t/\t { nx:=fun _ H'=>Q .non H',rt:=Q } (start N vs) H):bO P w K mg base iB (k+1) f fd ps sp:=by
 obtain⟨oc,od,kV,doc,pm,an,cdv,ct,osl,rfl,lk,hcd⟩:=F.ex
 refine aKy lk hcd S len fun A outer s H vs Q E hr hsp=>?_
 obtain⟨t,h,q⟩:=hbody cdv A outer s H vs Q E hr hsp
 exact⟨t,h.nox,q⟩
theorem jA.binds{x qual:Str}{st:Stmt}{f:Addr}{fd:FuncData}{ps:List Str}(F:jA K x qual st f fd)
  (h:∀(kV doc pm:Value) (an:Option Addr) (cdv ct:Value) (us:List Value),us.length=ps.length->bindArgs (W.fnOf x qual (aY st) (aW st) (aB st) .none kV doc pm an cdv ct) ⟨us,[]⟩=pure (ps.zip us)):Binds K fd ps []:=by
 obtain⟨oc,od,kV,doc,pm,an,cdv,ct,osl,rfl,lk,hcd⟩:=F.ex
 exact .all (h kV doc pm an cdv ct)
theorem bD{x qual:Str}{st:Stmt}{f:Addr}{oc:Value}{od an:Option Addr}{osl:Array (Option Value)}{kV doc pm cdv ct:Value}(l:K.lookup f=some ⟨oc,od,.func (W.fnOf x qual (aY st) (aW st) (aB st) .none kV doc pm an cdv ct),osl⟩)
  (c:W.codeIn K cdv qual=true) (k:W.keepIn K (.ref f)=true):jA K x qual st f (W.fnOf x qual (aY st) (aW st) (aB st) .none kV doc pm an cdv ct):=⟨⟨oc,od,kV,doc,pm,an,cdv,ct,osl,rfl,l,c⟩,k⟩
end
section
variable{X:Cx}
end
theorem aJJ{A B:Prop}(h:B):if false=true then A else B:=by
 rw[if_neg Bool.false_ne_true]
 exact h
theorem aJK{A B:Prop}(h:A):if true=true then A else B:=by
 rw[if_pos rfl]
 exact h
def aI(H H':Hp):Prop:=∀b o,H b=some o->H' b=some o
theorem aI.refl(H:Hp):aI H H:=fun _ _ h=>h
theorem aI.trans{H H1 H2:Hp}(a:aI H H1)(b:aI H1 H2):aI H H2:=fun c o h=>b c o (a c o h)
theorem aI.free{H H':Hp}(e:aI H H'){l:Addr}(h:H' l=Option.none):H l=Option.none:=by
 cases q:H l with
 |none=>rfl
 |some o=>
  rw[e l o q] at h
  cases h
theorem aI.seq{K:W.Frag}{H H':Hp}{a:Addr}{xs:List V}(e:aI H H')(h:bG K H a xs):bG K H' a xs:=by
 rcases h with (h|⟨o,h⟩)|h
 ·exact .inl (.inl (e _ _ h))
 ·exact .inl (.inr ⟨o,e _ _ h⟩)
 ·exact .inr h
section
variable{κ:Type}[DecidableEq κ]
end
end L2
namespace L2
open PySem PySem.Spec PyProof.Rows
section
variable{prog:Program}{w:World}{A:Around}{R:Result->Shared->Prop}{s:Shared}
theorem aEm{elt target iter:Expr}{ifs:List Expr}{scope:Scope}{pos:Pos}{it acc:Value}{env:Env}(I:Nat->Shared->Prop)
  (turn:∀n s,I n s->wpAny (model prog w) A (pyNext it) (fun r s₁=>match r with
   |none=>R (.ok .next) s₁
   |some v=>wpAny (model prog w) A (letOwnedTupleGo target it v) (fun _ s₁'=>wpAny (model prog w) A (assign target env v) (fun _ s₂=>
     wpAny (model prog w) A (forIn ifs true fun c r=>if r=true then do let ok <-isTrue c env (eval c env);pure (ForInStep.yield ok) else pure (ForInStep.yield r)) (fun ok s₃=>
      if ok=true then wpAny (model prog w) A (eval elt env) (fun x s₄=>
       wpAny (model prog w) A (call (.builtin "list.append") [acc,x]) (fun _ s₅=>∃m,m < n/\I m s₅) (notedBy (model prog w) A env fun e s'=>R (.error e) s') s₄) (notedBy (model prog w) A env fun e s'=>R (.error e) s') s₃
      else ∃m,m < n/\I m s₃) (notedBy (model prog w) A env fun e s'=>R (.error e) s') s₂) (notedBy (model prog w) A env fun e s'=>R (.error e) s') s₁') (notedBy (model prog w) A env fun e s'=>R (.error e) s') s₁)
   (notedBy (model prog w) A env fun e s'=>R (.error e) s') s)
  (n:Nat) (h:I n s) :
  codeAny (model prog w) A (.compLoop (.ListComp elt [⟨target,iter,ifs,0⟩] scope pos) 0 it acc env) R s:=by
 refine codeAny_loop rfl I (fun n s hI=>?_) n h
 show wpAny _ A ((compTurn (.ListComp elt [⟨target,iter,ifs,0⟩] scope pos) 0 it acc env).onRaise (fun x=>do noteFrame x env;theTreesLotGoes x)) _ _ s
 refine wpAny_noted ?_
 rw[compTurn_list]
 refine wpAny_bind (wpAny_standAt (wpAny_bind (wpAny_mono (turn n s hI) (fun r s₁ h₁=>?_) fun _ _ h'=>h')))
 cases r with
 |none=>exact wpAny_pure h₁
 |some v=>
  refine wpAny_bind (wpAny_mono h₁ (fun _ s₁' h₁'=>?_) fun _ _ h'=>h')
  refine wpAny_bind (wpAny_mono h₁' (fun _ s₂ h₂=>wpAny_bind (wpAny_mono h₂ (fun ok s₃ h₃=>?_) fun _ _ h'=>h')) fun _ _ h'=>h')
  cases ok with
  |false=>exact wpAny_pure ⟨rfl,h₃⟩
  |true=>
   exact wpAny_bind (wpAny_bind (wpAny_mono h₃ (fun x s₄ h₄=>wpAny_bind (wpAny_mono h₄ (fun _ s₅ h₅=>wpAny_pure (wpAny_pure ⟨rfl,h₅⟩)) fun _ _ h'=>h')) fun _ _ h'=>h'))
end
def kY(env:Env):List (Str×NameKind)->List (Str×Addr)->List (Str×Addr)
 |[],cs=>cs
 |(n,k)::r,cs=>kY env r (if (k == NameKind.free)=true then (n,(env.cells.lookup n).getD 0)::cs else cs)
theorem uV{scope:Scope}{env:Env}(h:∀x∈scope.names,x.2=.free->∃c,env.cells.lookup x.1=some c):closureFor scope env=pure (kY env scope.names []):=by
 simp only[closureFor]
 generalize ([]:List (Str×Addr))=cs
 revert h cs
 generalize scope.names=names
 intro h
 induction names with
 |nil=>intro cs;rfl
 |cons x r ih=>
  intro cs
  obtain⟨n,k⟩:=x
  have ih:=ih fun y hy=>h y (List.mem_cons_of_mem _ hy)
  rw[List.forIn_cons]
  by_cases hk:k=.free
  ·subst hk
   obtain⟨c,hc⟩:=h (n,.free) List.mem_cons_self rfl
   have hc':env.cells.lookup n=some c:=hc
   have e:kY env ((n,NameKind.free)::r) cs=kY env r ((n,c)::cs):=by
    show kY env r (if (NameKind.free == NameKind.free)=true then (n,(env.cells.lookup n).getD 0)::cs else cs)=_
    rw[hc']
    rfl
   rw[e,<-ih]
   simp only[cellOf,hc',beq_self_eq_true,if_true]
   rfl
  ·have hb:(k == NameKind.free)=false:=by simpa using hk
   have e:kY env ((n,k)::r) cs=kY env r cs:=by
    show kY env r (if (k == NameKind.free)=true then (n,(env.cells.lookup n).getD 0)::cs else cs)=_
    rw[hb]
    rfl
   rw[e,<-ih]
   simp only[hb,Bool.false_eq_true,if_false]
   rfl
theorem vX{env:Env}{x:Str}{c:Addr}:∀(names:List (Str×NameKind)) (cs:List (Str×Addr)),(∀y∈names,y.2=.free->∃c,env.cells.lookup y.1=some c)->(x,c)∈kY env names cs->(x,c)∈cs\/env.cells.lookup x=some c
 |[],cs,_,h=>.inl h
 |(n,k)::r,cs,hf,h=>by
  have h':(x,c)∈kY env r (if (k == NameKind.free)=true then (n,(env.cells.lookup n).getD 0)::cs else cs):=h
  rcases vX r _ (fun y hy=>hf y (List.mem_cons_of_mem _ hy)) h' with q|q
  ·by_cases hk:(k == NameKind.free)=true
   ·rw[if_pos hk] at q
    rcases List.mem_cons.mp q with e|q
    ·cases e
     obtain⟨c,hc⟩:=hf (x,k) List.mem_cons_self (by simpa using hk)
     have hc':env.cells.lookup x=some c:=hc
     rw[hc']
     exact .inr rfl
    ·exact .inl q
   ·rw[if_neg hk] at q
    exact .inl q
  ·exact .inr q
theorem aEn{env:Env}{p:Str×Addr}:∀(names:List (Str×NameKind)) (cs:List (Str×Addr)),p∈cs->p∈kY env names cs
 |[],_,h=>h
 |(n,k)::r,cs,h=>by
  show p∈kY env r (if (k == NameKind.free)=true then (n,(env.cells.lookup n).getD 0)::cs else cs)
  refine aEn r _ ?_
  split
  ·exact List.mem_cons_of_mem _ h
  ·exact h
theorem aEo{env:Env}{x:Str}{c:Addr}:∀(names:List (Str×NameKind)) (cs:List (Str×Addr)),(x,NameKind.free)∈names->env.cells.lookup x=some c->(x,c)∈kY env names cs
 |[],_,h,_=>by cases h
 |(n,k)::r,cs,h,hc=>by
  show(x,c)∈kY env r (if (k == NameKind.free)=true then (n,(env.cells.lookup n).getD 0)::cs else cs)
  rcases List.mem_cons.mp h with e|h
  ·cases e
   refine aEn r _ ?_
   rw[if_pos (by simp),hc]
   exact List.mem_cons_self
  ·exact aEo r _ h hc
theorem uI{x:Str}{c:Addr}:∀{l:List (Str×Addr)},(x,c)∈l->(∀d,(x,d)∈l->d=c)->l.lookup x=some c
 |[],h,_=>by cases h
 |(n,d)::r,h,u=>by
  rw[List.lookup_cons]
  by_cases e:x=n
  ·subst e
   rw[beq_self_eq_true]
   rw[u d List.mem_cons_self]
  ·rw[show(x == n)=false by simpa using e]
   rcases List.mem_cons.mp h with q|q
   ·cases q
    exact absurd rfl e
   ·exact uI q fun d hd=>u d (List.mem_cons_of_mem _ hd)
theorem rL{env:Env}{names:List (Str×NameKind)}{x:Str}{c:Addr}(hf:∀y∈names,y.2=.free->∃c,env.cells.lookup y.1=some c)(hx:(x,NameKind.free)∈names)(hc:env.cells.lookup x=some c):(kY env names []).lookup x=some c:=
 uI (aEo names [] hx hc) fun d hd=>by
  rcases vX names [] hf hd with q|q
  ·cases q
  ·rw[hc] at q
   exact(Option.some.inj q).symm
theorem m9{env:Env}{names:List (Str×NameKind)}{x:Str}{c:Addr}(hf:∀y∈names,y.2=.free->∃c,env.cells.lookup y.1=some c)(h:(kY env names []).lookup x=some c):env.cells.lookup x=some c:=by
 rcases vX names [] hf (PySem.mem_of_lookup h) with q|q
 ·cases q
 ·exact q
end L2
namespace L2
open PySem PySem.Spec PyProof.Rows
def zG(X:Cx)(scope:Scope)(N:List Str)(fp:List Addr)(C:Addr)(s:Shared)(H:Hp):Cx where
 prog:=X.prog
 w:=X.w
 K:=X.K
 mg:=X.mg
 base:=X.base
 A:=X.A
 N:=N
 s₀:=s
 H₀:=H
 env:=compEnvC scope (kY X.env scope.names []) C X.env
 outer:=X.stack
 stack:=X.stack
 ex:=fp
 fn:=fun _=>false
 calm:=X.calm
 pn:=[]
 xe:=fun _ _=>False
theorem qY.aIm{P:Program}{w:World}{H:Hp}{h:Heap}{a:Addr}{o:HO}(x:qY P w H h)(hn:H a=none)(new:bI P w (upd H a o) h a o):qY P w (upd H a o) h:=fun b u e=>by
 by_cases hb:b=a
 ·subst hb;rw[aH] at e;cases e;exact new
 ·rw[aJ hb] at e
  exact(x b u e).zE (fun c v _ q=>q) (fun c q=>by rw[aJ (bC q hn)];exact q) fun c xs _ q=>by rw[aJ (bC q hn)];exact q
theorem Un.aIm{fs ex:List Addr}{H H1:Hp}{h h1:Heap}{a:Addr}{o:HO}(u:Un fs ex H H1 h h1)(hs:h.objs.size<=a)(hn:H1 a=none):Un fs ex H (upd H1 a o) h h1 where
 keep:=u.keep
 slot:=u.slot
 free:=fun b ob q n hx=>by rw[aJ (Nat.ne_of_lt (Nat.lt_of_lt_of_le (Heap.lt_size q) hs))];exact u.free b ob q n hx
 there:=u.there
 rB:=fun b xs q=>by rw[aJ (bC (u.rB b xs q) hn)];exact u.rB b xs q
 frzs:=fun b ob xs q=>by rw[aJ (bC (u.frzs b ob xs q) hn)];exact u.frzs b ob xs q
 tbls:=fun b ps q=>by
  obtain⟨m,e⟩:=u.tbls b ps q
  exact⟨m,by rw[aJ (bC e hn)];exact e⟩
theorem kT{env:Env}:∀{names:List (Str×NameKind)}{x:Str},names.lookup x=some .free->
  (names.map fun(n,k)=>if (k == NameKind.free && env.scope.kind == .function && env.kindOf n == some .cell) then (n,NameKind.cell) else (n,k)).lookup x=some .cell\/
  (names.map fun(n,k)=>if (k == NameKind.free && env.scope.kind == .function && env.kindOf n == some .cell) then (n,NameKind.cell) else (n,k)).lookup x=some .free
 |[],_,h=>by simp at h
 |(n,k)::r,x,h=>by
  have ih:=@kT env r x
  show List.lookup x ((if (k == NameKind.free && env.scope.kind == .function && env.kindOf n == some .cell)=true then (n,NameKind.cell) else (n,k))::_)=_\/List.lookup x ((if (k == NameKind.free && env.scope.kind == .function && env.kindOf n == some .cell)=true then (n,NameKind.cell) else (n,k))::_)=_
  cases hx:x == n with
  |true=>
   simp only[List.lookup_cons,hx] at h
   cases h
   by_cases hc:(NameKind.free == NameKind.free && env.scope.kind == .function && env.kindOf n == some .cell)=true
   ·rw[if_pos hc];simp only[List.lookup_cons,hx];exact .inl trivial
   ·rw[if_neg hc];simp only[List.lookup_cons,hx];exact .inr trivial
  |false=>
   simp only[List.lookup_cons,hx] at h
   by_cases hc:(k == NameKind.free && env.scope.kind == .function && env.kindOf n == some .cell)=true
   ·rw[if_pos hc];simp only[List.lookup_cons,hx];exact ih h
   ·rw[if_neg hc];simp only[List.lookup_cons,hx];exact ih h
theorem rM{env:Env}:∀{names:List (Str×NameKind)}{x:Str},(∀y∈names,y.2≠.cell)->
  ((names.map fun(n,k)=>if (k == NameKind.free && env.scope.kind == .function && env.kindOf n == some .cell) then (n,NameKind.cell) else (n,k)).lookup x=some .cell\/
  (names.map fun(n,k)=>if (k == NameKind.free && env.scope.kind == .function && env.kindOf n == some .cell) then (n,NameKind.cell) else (n,k)).lookup x=some .free)->(x,NameKind.free)∈names
 |[],_,_,h=>by simp at h
 |(n,k)::r,x,hc,h=>by
  have ih:=@rM env r x fun y hy=>hc y (List.mem_cons_of_mem _ hy)
  have h':List.lookup x ((if (k == NameKind.free && env.scope.kind == .function && env.kindOf n == some .cell)=true then (n,NameKind.cell) else (n,k))::_)=_\/List.lookup x ((if (k == NameKind.free && env.scope.kind == .function && env.kindOf n == some .cell)=true then (n,NameKind.cell) else (n,k))::_)=_:=h
  cases hx:x == n with
  |true=>
   have e:x=n:=by simpa using hx
   subst e
   by_cases hq:(k == NameKind.free && env.scope.kind == .function && env.kindOf x == some .cell)=true
   ·have hk:(k == NameKind.free)=true:=by
     rw[Bool.and_assoc] at hq
     exact(Bool.and_eq_true _ _▸hq).1
    rw[show k=NameKind.free by simpa using hk]
    exact List.mem_cons_self
   ·rw[if_neg hq] at h'
    simp only[List.lookup_cons,hx] at h'
    rcases h' with z|z
    ·cases z
     exact absurd rfl (hc _ List.mem_cons_self)
    ·cases z
     exact List.mem_cons_self
  |false=>
   by_cases hq:(k == NameKind.free && env.scope.kind == .function && env.kindOf n == some .cell)=true
   ·rw[if_pos hq] at h';simp only[List.lookup_cons,hx] at h';exact List.mem_cons_of_mem _ (ih h')
   ·rw[if_neg hq] at h';simp only[List.lookup_cons,hx] at h';exact List.mem_cons_of_mem _ (ih h')
structure dP(X:Cx)(scope:Scope)(N:List Str)(k:Nat)(idx:List Nat):Prop where
 kind:scope.kind=.function
 nocell:∀y∈scope.names,y.2≠.cell
 names:∀y∈scope.names,y.2=.local->scope.names.lookup y.1=some .local
 free:∀y∈scope.names,y.2=.free->X.env.kindOf y.1=some .cell\/X.env.kindOf y.1=some .free
 nd:N.Nodup
 len:N.length=k+idx.length
 cap:∀(i:Nat) (x:Str),(N.drop k)[i]?=some x->∃j:Nat,idx[i]?=some j/\X.N[j]?=some x/\scope.names.lookup x=some .free
def cσ(k:Nat)(idx:List Nat)(σ:St):St:=List.replicate k none++idx.map fun j=>(σ[j]?).join
section
variable{X:Cx}{pins:List (Addr×Obj)}{σ:St}{H:Hp}{s:Shared}{scope:Scope}{N:List Str}{k:Nat}{idx:List Nat}{fp:List Addr}
theorem dP.cells(S:dP X scope N k idx)(I:Inv X pins σ H s):∀y∈scope.names,y.2=.free->∃c,X.env.cells.lookup y.1=some c:=fun y hy h=>I.ok.has y.1 (S.free y hy h)
theorem aG9{C D:Addr}{h₁:Heap}{tk:Nat}{oD:Obj}{m:Str->Option Value}(S:dP X scope N k idx)(I:Inv X pins σ H s)(hf:∀b∈fp,xN X pins H b)(ho:∀b∈fp,∃o,s.heap.get? b=some o)
  (hC:s.heap.objs.size<=C) (hD:s.heap.objs.size<=D) (hDC:D≠C) (hn:h₁.Ns C m) (old:∀b o,s.heap.get? b=some o->h₁.get? b=some o) (eD:h₁.get? D=some oD) (dD:∀v,oD.data≠.cell v) :
  Inv (zG X scope N fp C s H) [(D,oD)] (cσ k idx σ) H { s with heap:=h₁,toks:=tk }:=by
 have hcl:=S.cells I
 have nst:∀b,s.heap.objs.size<=b->b∉frs X.stack:=fun b hb z=>by
  obtain⟨_,o,e,_⟩:=I.stack.mem z
  exact absurd (Nat.lt_of_lt_of_le (Heap.lt_size e) hb) (Nat.lt_irrefl _)
 refine⟨⟨I.ok.mod,S.kind,I.ok.glob,I.ok.blt,hC,fun x y c h1 h2=>I.ok.inj x y c (m9 hcl h1) (m9 hcl h2),fun x hx=>?_,fun x c z _=>(by cases z),I.ok.hd,I.ok.frames,.inl rfl,fun b hb=>⟨?_,fun x c e=>(hf b hb).2.2.2.2.1 x c (m9 hcl e)⟩,I.bs,
  Nat.le_trans I.ok.bsz I.sz,fun b o e hb=>?_,fun b hb z=>?_,I.stack,I.aCS⟩,rfl,I.bare,Un.kept old,⟨m,hn,fun i x v h1 h2 h3=>?_⟩,fun x c e=>?_,I.hok.fresh hC,fun x c e=>I.freeC x c (m9 hcl e),fun p hp=>?_,I.hok.kept old,?_⟩
 ·obtain⟨c,e⟩:=hcl _ (rM S.nocell hx) rfl
  exact⟨c,rL hcl (rM S.nocell hx) e⟩
 ·obtain⟨o,e⟩:=ho b hb
  exact Nat.ne_of_lt (Nat.lt_of_lt_of_le (Heap.lt_size e) hC)
 ·rcases(hf b hb).2.2.2.1 with z|z
  ·exact I.ok.noex b o e z
  ·exact absurd (Nat.lt_of_lt_of_le (Heap.lt_size (I.ok.bs b o e).1) z) (Nat.lt_irrefl _)
 ·rcases List.mem_cons.mp (I.aAo b z) with q|q
  ·exact(hf b hb).2.1 q
  ·exact(hf b hb).2.2.1 q
 ·have hi:k<=i:=by
   by_cases hi:i < k
   ·unfold cσ at h2
    rw[List.getElem?_append_left (by simpa using hi),List.getElem?_replicate,if_pos hi] at h2
    cases h2
   ·omega
  obtain⟨j,rfl⟩ : ∃j,i=k+j:=⟨i - k,by omega⟩
  have h1':N[k+j]?=some x:=h1
  obtain⟨l,e1,e2,e3⟩:=S.cap j x (by rw[List.getElem?_drop];exact h1')
  have h2':σ[l]?=some (some v):=by
   unfold cσ at h2
   rw[List.getElem?_append_right (by simp),List.getElem?_map] at h2
   simp only[List.length_replicate,Nat.add_sub_cancel_left,e1,Option.map_some,Option.some.injEq] at h2
   cases q:σ[l]? with
   |none=>rw[q] at h2;cases h2
   |some z=>rw[q] at h2;exact congrArg some h2
  obtain⟨m0,hn0,hl⟩:=I.loc
  have hfree:(x,NameKind.free)∈scope.names:=PySem.mem_of_lookup e3
  have hk:=S.free _ hfree rfl
  obtain⟨u,r,l⟩:=hl l x v e2 h2' (by rcases hk with z|z;exact .inr (.inl z);exact .inr (.inr z))
  refine⟨u,r,.inr ⟨kT e3,?_⟩⟩
  rcases l with ⟨z,_⟩|⟨_,c,e,o,q,d⟩
  ·rcases hk with y|y
   ·rw[y] at z;cases z
   ·rw[y] at z;cases z
  ·exact⟨c,rL hcl hfree e,o,old c o q,d⟩
 ·obtain⟨v,o,q,d⟩:=I.cell x c (m9 hcl e)
  exact⟨v,o,old c o q,d⟩
 ·have hp':p∈([]:List (Addr×Obj)) ++ [(D,oD)]:=hp
  have e:p=(D,oD):=by simpa using hp'
  subst e
  exact⟨eD,I.hok.fresh hD,hDC,nst D hD,dD⟩
 ·unfold cσ
  show _=N.length
  rw[S.len]
  simp
theorem aJL{C D:Addr}{s':Shared}{σ':St}{H':Hp}{ys:List V}{its:List Value}{n:Nat}{pins':List (Addr×Obj)}(I:Inv X pins σ H s)(hf:∀b∈fp,xN X pins H b)(J:Inv (zG X scope N fp C s H) pins' σ' H' s')
  (hC:s.heap.objs.size<=C) (hD:s.heap.objs.size<=D) (hDC:D≠C) (hDn:H' D=none) (eD:s'.heap.get? D=some { cls:=.type "list",data:=.seq its.toArray n }) (r:Vals ys its) (hz:ys.length<=sizeLine) :
  Inv X pins σ (upd H' D (.lst ys)) s'/\xN X pins (upd H' D (.lst ys)) C:=by
 have hk:qY X.prog X.w (upd H' D (.lst ys)) s'.heap:=qY.aIm J.hok hDn ⟨hz,its,n,r,eD⟩
 have u:Un (frs X.stack) fp H (upd H' D (.lst ys)) s.heap s'.heap:=Un.aIm J.base hD hDn
 refine⟨I.aMl J.os u hk J.bare fun b hb=>⟨(hf b hb).2.2.2.1,(hf b hb).2.1,(hf b hb).2.2.2.2.1,(hf b hb).2.2.2.2.2⟩,I.aEa hC ?_⟩
 rw[aJ hDC.symm]
 exact J.free
end
def mM(J:It)(σ₀:St)(g:TG)(tt:TT)(te:TE)(R:List V->Hp->Prop)(H1:Hp):Prop:=
 ∃W:Nat->Nat->List V->Hp->Prop,(∃m,W 0 m [] H1)/\∀i m ys H,W i m ys H->ys.length<=sizeLine/\
  ((J.stop i H/\R ys H)\/(J.go i H/\∃N:List V->Hp->Prop,(∀ys' H',N ys' H'->∃m',m' < m/\W (i+1) m' ys' H')/\
   ∀x H',J.yld i H x H'->g x σ₀ H' fun σ2 H2=>tt σ2 H2 fun b H3=>if b=true then te σ2 H3 fun y H4=>N (ys ++ [y]) H4 else N ys H3))
def aEp(wi:TI)(k:Nat)(idx:List Nat)(g:TG)(tt:TT)(te:TE):TE:=fun σ H Q=>wi σ H fun J H1=>mM J (cσ k idx σ) g tt te (fun ys H'=>∀p,H' p=none->Q (.ref p) (upd H' p (.lst ys))) H1
def PTs(X:Cx)(ifs:List Expr)(t:TT):Prop:=
 ∀(pins:List (Addr×Obj)) (s:Shared) (σ:St) (H:Hp) (Q:Bool->Hp->Prop),Inv X pins σ H s->t σ H Q->
  wpAny (model X.prog X.w) X.A (forIn ifs true fun c r=>if r=true then do let ok <-isTrue c X.env (eval c X.env);pure (ForInStep.yield ok) else pure (ForInStep.yield r)) (TP X pins σ Q) X.xe s
def aLn:TT:=fun _ H Q=>Q true H
theorem cG{X:Cx}:PTs X [] aLn:=fun _ _ _ H _ I h=>wpAny_tests_nil ⟨H,I,h⟩
theorem aAc{X:Cx}{c:Expr}{t:TT}(h:PT X c t):PTs X [c] t:=fun pins s σ H Q I q=>wpAny_tests_one (h pins s σ H Q I q)
def Agr(k:Nat)(σ' σ:St):Prop:=σ'.length=σ.length/\∀i,k<=i->σ'[i]?=σ[i]?
theorem Agr.set{k i:Nat}{σ σb:St}{v:Option V}(h:Agr k σ σb)(hi:i < k):Agr k (σ.set i v) σb:=⟨by rw[List.length_set];exact h.1,fun j hj=>by rw[List.getElem?_set_ne (by omega)];exact h.2 j hj⟩
def Own(k:Nat)(g:TG):Prop:=∀x σ H (Q:St->Hp->Prop) (σb:St),Agr k σ σb->g x σ H Q->g x σ H fun σ' H'=>Agr k σ' σb/\Q σ' H'
def aJM(k:Nat)(g:TGs):Prop:=∀xs σ H (Q:St->Hp->Prop) (σb:St),Agr k σ σb->g xs σ H Q->g xs σ H fun σ' H'=>Agr k σ' σb/\Q σ' H'
theorem dF{k i:Nat}(h:i < k):Own k (uG i):=fun _ _ _ _ _ a q=>⟨a.set h,q⟩
theorem kG{k:Nat}:aJM k aJv:=fun _ _ _ _ _ a ⟨e,q⟩=>⟨e,a,q⟩
theorem bP{k i:Nat}{u:TGs}(h:i < k)(hu:aJM k u):aJM k (aGe (uG i) u):=fun _ _ _ Q σb a ⟨v,r,e,q⟩=>⟨v,r,e,hu r _ _ Q σb (a.set h) q⟩
theorem nA{K:W.Frag}{n k:Nat}{u:TGs}(hu:aJM k u):Own k (aJw K n u):=fun _ _ _ Q σb a ⟨l,xs,e,h1,h2,q⟩=>⟨l,xs,e,h1,h2,hu xs _ _ Q σb a q⟩
theorem aIn(its:List Value)(u:Value)(n:Nat):({ cls:=.type "list",data:=.seq (its.toArray.push u) n }:Obj)={ cls:=.type "list",data:=.seq (its ++ [u]).toArray n }:=by
 rw[List.push_toArray]
section
variable{X:Cx}{pins:List (Addr×Obj)}{σ:St}{H:Hp}{s:Shared}{scope:Scope}{N:List Str}{k:Nat}{idx:List Nat}{fp:List Addr}
theorem aAF{elt target iter:Expr}{ifs:List Expr}{pos:Pos}{it:Addr}{tn:Nat->Heap->Prop}{J:It}{g:TG}{tt:TT}{te:TE}{R:List V->Hp->Prop}{E:Value->Shared->Prop}{RR:Value->Addr->Result->Shared->Prop}
  (S:dP X scope N k idx) (hc:X.calm=true) (I:Inv X pins σ H s) (T:Turn X.prog X.w X.K target J fp it tn) (st:tn 0 s.heap) (hf:∀b∈fp,xN X pins H b)
  (hg:∀C,PG (zG X scope N fp C s H) target g) (ho:Own k g) (ht:∀C,PTs (zG X scope N fp C s H) ifs tt) (he:∀C,PE (zG X scope N fp C s H) elt te)
  (hw:mM J (cσ k idx σ) g tt te R H)
  (hRR:∀D C s' m ys H',s'.heap.Ns C m->Inv X pins σ (upd H' D (.lst ys)) s'->xN X pins (upd H' D (.lst ys)) C->H' D=none->R ys H'->RR (.ref D) C (.ok .next) s') :
  wpAny (model X.prog X.w) X.A (newList []) (fun acc s₃=>wpAny (model X.prog X.w) X.A (newFunctionEnv scope X.env.globals (kY X.env scope.names []) [] X.env.qual none .none (some X.env)) (fun cenv s₄=>
   codeAny (model X.prog X.w) X.A (.compStart (.ListComp elt [⟨target,iter,ifs,0⟩] scope pos) 0 (.ref it) acc { cenv with scope:=relabel scope X.env }) (RR acc cenv.locals) s₄) E s₃) E s:=by
 refine wpAny_newObj_type (wpAny_newFunctionEnv S.nocell (by intro y hy;simp at hy) (fun h₁ hns₁ hsb₁=>?_) S.kind)
 dsimp only at hns₁ hsb₁ ⊢
 generalize hH2:s.heap.push { cls:=.type "list",dict:=none,data:=.seq ([]:List Value).toArray } = H2 at hns₁ hsb₁ ⊢
 have hCs:H2.objs.size=s.heap.objs.size+1:=by rw[<-hH2,Heap.size_push]
 have hDC:s.heap.objs.size≠H2.objs.size:=by rw[hCs];exact Nat.ne_of_lt (Nat.lt_succ_self _)
 have hCle:s.heap.objs.size<=H2.objs.size:=by rw[hCs];exact Nat.le_succ _
 have below:∀b,b < s.heap.objs.size->b≠H2.objs.size:=fun b hb=>by rw[hCs];exact Nat.ne_of_lt (Nat.lt_succ_of_lt hb)
 have old:∀b o,s.heap.get? b=some o->h₁.get? b=some o:=fun b o e=>hsb₁.extBut b o (below b (Heap.lt_size e)) (Heap.get?_push_of_some _ (hH2▸Heap.get?_push_of_some _ e))
 have hacc:h₁.get? s.heap.objs.size=some { cls:=.type "list",data:=.seq ([]:List Value).toArray 0 }:=hsb₁.extBut _ _ hDC (Heap.get?_push_of_some _ (hH2▸Heap.get?_push_size _ rfl))
 have st₁:tn 0 h₁:=T.keep _ _ _ st fun b _ o e=>old b o e
 obtain⟨W,⟨m0,w0⟩,turn⟩:=hw
 have fp0:∀b∈fp,b < s.heap.objs.size:=fun b hb=>by
  obtain⟨o,e,_⟩:=T.obj _ _ st b hb
  exact Heap.lt_size e
 have stat:∀{H':Hp} {pl:List (Addr×Obj)},(∀b∈fp,H' b=none)->(∀p∈pl,s.heap.objs.size<=p.1)->∀b∈fp,xN (zG X scope N fp H2.objs.size s H) pl H' b:=fun {H' pl} hn hp b hb=>by
  refine⟨hn b hb,below b (fp0 b hb),fun z=>?_,.inl hb,fun x c e=>(hf b hb).2.2.2.2.1 x c (m9 (S.cells I) e),fun p q z=>?_⟩
  ·have z':b∈frs X.stack:=z
   rcases List.mem_cons.mp (I.aAo b z') with q|q
   ·exact(hf b hb).2.1 q
   ·exact(hf b hb).2.2.1 q
  ·have q':p∈([]:List (Addr×Obj))++pl:=q
   have h1:=hp p (by simpa using q')
   rw[z] at h1
   exact absurd (Nat.lt_of_lt_of_le (fp0 b hb) h1) (Nat.lt_irrefl _)
 have loop:∀s₃:Shared,s₃={ s with heap:=h₁,toks:=s.toks+([]:List (Str×Value)).length }->
   codeAny (model X.prog X.w) X.A (.compLoop (.ListComp elt [⟨target,iter,ifs,0⟩] scope pos) 0 (.ref it) (.ref s.heap.objs.size) (compEnvC scope (kY X.env scope.names []) H2.objs.size X.env))
    (RR (.ref s.heap.objs.size) H2.objs.size) s₃:=by
  rintro s₃ rfl
  refine aEm (fun n s'=>∃i ys its H' nn,Inv (zG X scope N fp H2.objs.size s H) [(s.heap.objs.size,{ cls:=.type "list",data:=.seq its.toArray nn })] (cσ k idx σ) H' s'/\tn i s'.heap/\(∀b∈fp,H' b=none)/\Vals ys its/\W i n ys H') ?_ m0
   ⟨0,[],[],H,0,aG9 S I hf (fun b hb=>let ⟨o,e,_⟩:=T.obj _ _ st b hb;⟨o,e⟩) hCle (Nat.le_refl _) hDC hns₁ old hacc (fun v z=>by cases z),st₁,fun b hb=>(hf b hb).1,.nil,w0⟩
  rintro n s' ⟨i,ys,its,H',nn,I',st',fr',rv,w'⟩
  obtain⟨hz,alt⟩:=turn i n ys H' w'
  have pl:∀p∈[((s.heap.objs.size:Addr),({ cls:=.type "list",data:=.seq its.toArray nn }:Obj))],s.heap.objs.size<=p.1:=fun p hp=>by
   have e:p=((s.heap.objs.size:Addr),({ cls:=.type "list",data:=.seq its.toArray nn }:Obj)):=by simpa using hp
   rw[e]
   exact Nat.le_refl _
  rcases alt with ⟨stop,q⟩|⟨go,Nx,hN,step⟩
  ·refine cN (T.done (zG X scope N fp H2.objs.size s H) rfl rfl rfl hc i _ s' _ H' _ I' (stat fr' pl) st' stop) fun r s4 ⟨hr,I4⟩=>?_
   subst hr
   obtain⟨eD,nD,_⟩:=I4.pin _ (List.mem_append_right _ List.mem_cons_self)
   obtain⟨a1,a2⟩:=aJL I hf I4 hCle (Nat.le_refl _) hDC nD eD rv hz
   obtain⟨m4,hn4,_⟩:=I4.loc
   exact hRR _ _ s4 m4 ys H' hn4 a1 a2 nD q
  ·refine cN (T.item (zG X scope N fp H2.objs.size s H) rfl rfl rfl hc i _ s' _ H' _ I' (stat fr' pl) st' go) fun r s4 ⟨u,hr,h4⟩=>?_
   subst hr
   refine cN h4 fun _ s5 ⟨x,H5,I5,r5,y5,st5,fr5⟩=>?_
   have I5':=I5.pinned (stat fr5 pl) (T.obj _ _ st5)
   have noE:∀{α:Type} {t:Sem α} {Q:α->Shared->Prop} {E':Value->Shared->Prop} {sx:Shared},wpAny (model X.prog X.w) X.A t Q (fun _ _=>False) sx->wpAny (model X.prog X.w) X.A t Q E' sx:=fun h=>wpAny_mono h (fun _ _ q=>q) fun _ _ z=>z.elim
   refine noE (cN (hg _ _ s5 _ H5 x u _ I5' r5 (ho x _ H5 _ _ ⟨rfl,fun _ _=>rfl⟩ (step x H5 y5))) fun _ s6 ⟨σ6,H6,I6,ag,q6⟩=>?_)
   have back:∀{H7:Hp} {s7:Shared},Inv (zG X scope N fp H2.objs.size s H) ([((s.heap.objs.size:Addr),({ cls:=.type "list",data:=.seq its.toArray nn }:Obj))] ++ aAt fp s5.heap) σ6 H7 s7->
     Inv (zG X scope N fp H2.objs.size s H) [((s.heap.objs.size:Addr),({ cls:=.type "list",data:=.seq its.toArray nn }:Obj))] (cσ k idx σ) H7 s7/\tn (i+1) s7.heap/\∀b∈fp,H7 b=none:=fun {H7 s7} I7=>by
    refine⟨I7.vR.weak (by rw[ag.1]) fun j v e=>?_,T.keep _ _ _ st5 fun b hb o e=>(I7.pin (b,o) (List.mem_append_right _ (List.mem_append_right _ (pI hb e)))).1,fun b hb=>?_⟩
    ·have hj:k<=j:=by
      by_cases hj:j < k
      ·unfold cσ at e
       rw[List.getElem?_append_left (by simpa using hj),List.getElem?_replicate,if_pos hj] at e
       cases e
      ·omega
     rw[ag.2 j hj]
     exact e
    ·obtain⟨o,e,d⟩:=T.obj _ _ st5 b hb
     exact(I7.pin (b,o) (List.mem_append_right _ (List.mem_append_right _ (pI hb e)))).2.1
   refine noE (cN (ht _ _ s6 σ6 H6 _ I6 q6) fun b s7 ⟨H7,I7,q7⟩=>?_)
   cases b with
   |false=>
    rw[if_neg Bool.false_ne_true] at q7 ⊢
    obtain⟨m',hm,w7⟩:=hN _ _ q7
    obtain⟨b1,b2,b3⟩:=back I7
    exact⟨m',hm,i+1,ys,its,H7,nn,b1,b2,b3,rv,w7⟩
   |true=>
    rw[if_pos rfl] at q7 ⊢
    refine noE (cN (he _ _ s7 σ6 H7 _ I7 q7) fun y s8 ⟨z,H8,I8,r8,q8⟩=>?_)
    obtain⟨m',hm,w8⟩:=hN _ _ q8
    obtain⟨b1,b2,b3⟩:=back I8
    obtain⟨eD,nD,neD,nfD,_⟩:=b1.pin _ (List.mem_append_right _ List.mem_cons_self)
    have lenV:=rv.length
    refine append_at (hsz:=by rw[List.size_toArray,<-lenV];exact hz) eD fun h9 hs9 hD9=>?_
    have b1':Inv (zG X scope N fp H2.objs.size s H) [] (cσ k idx σ) H8 s8:=b1.zZ fun p hp=>by cases hp
    have I9:Inv (zG X scope N fp H2.objs.size s H) [] (cσ k idx σ) H8 { s8 with heap:=h9 }:=b1'.turned (t':=s8.toks) (fun b o hb e=>(hs9.2 b hb).trans e) nD neD (.inr (Nat.le_refl _)) (fun x c e z=>by
     obtain⟨v,q⟩:=I.cell x c (m9 (S.cells I) e)
     exact absurd (Nat.lt_of_lt_of_le q.lt (by rw[z];exact Nat.le_refl _)) (Nat.lt_irrefl _)) (fun p hp=>by
     have hp':p∈([]:List (Addr×Obj)) ++ []:=hp
     simp at hp')
    refine⟨m',hm,i+1,ys ++ [z],its ++ [y],H8,nn+1,I9.zZ fun p hp=>?_,T.keep _ _ _ b2 fun b hb o e=>(hs9.2 b (Nat.ne_of_lt (fp0 b hb))).trans e,b3,rv.append (.cons r8 .nil),w8⟩
    have e:p=((s.heap.objs.size:Addr),({ cls:=.type "list",data:=.seq (its ++ [y]).toArray (nn+1) }:Obj)):=by simpa using hp
    subst e
    exact⟨by rw[<-aIn];exact hD9,nD,neD,nfD,fun v z=>by cases z⟩
 exact codeAny_compStart_list (loop _ rfl) (T.self _ 0 _ _ _ st₁ (loop _ rfl))
theorem cO(k:Nat)(idx:List Nat){N:List Str}{elt target iter:Expr}{ifs:List Expr}{pos:Pos}{wi:TI}{g:TG}{tt:TT}{te:TE}(S:dP X scope N k idx)(hc:X.calm=true)(hi:PI X target iter wi)
  (hg:∀fp C s H,PG (zG X scope N fp C s H) target g) (ho:Own k g) (ht:∀fp C s H,PTs (zG X scope N fp C s H) ifs tt) (he:∀fp C s H,PE (zG X scope N fp C s H) elt te)
  (hs:∀x,foldedSetIterable iter X.env x=pure x:=by intro _;rfl):PE X (.ListComp elt [⟨target,iter,ifs,0⟩] scope pos) (aEp wi k idx g tt te):=by
 intro pins s σ H Q I h
 rw[eval_ListComp]
 refine wpAny_comprehension_free (use:=none) rfl hs (uV (S.cells I)) S.kind S.names (cN (hi pins s σ H _ I h) fun v s1 h1=>cN h1 fun itv s2 h2=>?_)
 obtain⟨it,fp,tn,J,H2,e,I2,T,st2,f2,w2⟩:=h2
 subst e
 refine aAF (RR:=fun acc C=>compPost (model X.prog X.w) X.A X.xe none (EP X pins σ Q) acc C) S hc I2 T st2 f2 (fun C=>hg fp C s2 H2) ho (fun C=>ht fp C s2 H2) (fun C=>he fp C s2 H2) w2 fun D C s' m ys H' hn I' fC hD q=>?_
 refine⟨m,hn,fun h'' hs''=>⟨.ref D,_,I'.turned (t':=s'.toks) (fun b o hb e=>(hs''.2 b hb).trans e) fC.1 fC.2.1 fC.2.2.2.1 fC.2.2.2.2.1 fC.2.2.2.2.2,rfl,q D hD⟩⟩
theorem tQ(k:Nat)(idx:List Nat){i:Nat}{x:Str}{N:List Str}{elt target iter:Expr}{ifs:List Expr}{pos pos' spos:Pos}{wi:TI}{g:TG}{tt:TT}{te:TE}(hN:X.N.Nodup)(hix:X.N[i]?=some x)(hx:Loc X.env.scope x)
  (S:dP X scope N k idx) (hc:X.calm=true) (hi:PI X target iter wi)
  (hg:∀fp C s H,PG (zG X scope N fp C s H) target g) (ho:Own k g) (ht:∀fp C s H,PTs (zG X scope N fp C s H) ifs tt) (he:∀fp C s H,PE (zG X scope N fp C s H) elt te)
  (hsw:swapsWith (.ListComp elt [⟨target,iter,ifs,0⟩] scope pos) (some (.Name x pos')) spos.line X.env=pure true:=by rfl)
  (hs:∀x,foldedSetIterable iter X.env x=pure x:=by intro _;rfl) (hfn:X.fn x=true\/X.env.scope.names.lookup x=some .local:=by first|exact .inl rfl|exact .inr rfl|assumption) :
  PS X (.Assign [.Name x pos'] (.ListComp elt [⟨target,iter,ifs,0⟩] scope pos) spos) (aFe (aEp wi k idx g tt te) (uG i)):=by
 intro pins s σ H D I h
 rw[exec_Assign_Name_used _ _ _ _ hsw]
 refine wpAny_bind (wpAny_standAt (wpAny_bind ?_))
 show wpAny _ X.A (do let _ <-comprehension (.ListComp elt [⟨target,iter,ifs,0⟩] scope pos) scope X.env _ (newList []) false (eval iter X.env) (some (assign (.Name x pos') X.env))) _ _ s
 refine wpAny_bind (wpAny_mono (wpAny_comprehension_free (use:=some (assign (.Name x pos') X.env)) (Q:=fun _ s'=>SP X pins D .next s') rfl hs (uV (S.cells I)) S.kind S.names
  (cN (hi pins s σ H _ I h) fun v s1 h1=>cN h1 fun itv s2 h2=>?_)) (fun _ s' hq=>wpAny_pure (wpAny_pure hq)) fun _ _ e=>e)
 obtain⟨it,fp,tn,J,H2,e,I2,T,st2,f2,w2⟩:=h2
 subst e
 refine aAF (RR:=fun acc C=>compPost (model X.prog X.w) X.A X.xe (some (assign (.Name x pos') X.env)) (fun _ s'=>SP X pins D .next s') acc C) S hc I2 T st2 f2 (fun C=>hg fp C s2 H2) ho (fun C=>ht fp C s2 H2) (fun C=>he fp C s2 H2) w2 fun D' C s' m ys H' hn I' fC hD q=>?_
 show wpAny _ X.A (assign (.Name x pos') X.env (.ref D')) _ _ s'
 refine wpAny_assign_Name (aCk I' hN hix hx (show RelV (.ref D') (.ref D') from rfl) (fun s3 I3 ⟨a,sb,ha⟩=>?_) hfn)
 have hCa:C≠a:=by
  rcases ha with z|z
  ·rw[z];exact fC.2.1
  ·exact(fC.2.2.2.2.1 x a z).symm
 refine⟨m,hn.sameBut sb hCa,fun h'' hs''=>⟨_,_,I3.turned (t':=s3.toks) (fun b o hb e=>(hs''.2 b hb).trans e) fC.1 fC.2.1 fC.2.2.2.1 fC.2.2.2.2.1 fC.2.2.2.2.2,q D' hD⟩⟩
end
theorem cB{K:W.Frag}{a:Addr}{xs:List V}{σ₀:St}{g:TG}{tt:TT}{te:TE}{R:List V->Hp->Prop}{H:Hp}(Pv:Nat->List V->Hp->Prop)(h0:Pv 0 [] H)(hz:xs.length<=sizeLine)
  (hl:∀i ys H,i<=xs.length->Pv i ys H->bG K H a xs/\ys.length<=i)
  (hs:∀i x ys H,xs[i]?=some x->Pv i ys H->g x σ₀ H fun σ2 H2=>tt σ2 H2 fun b H3=>if b=true then te σ2 H3 fun y H4=>Pv (i+1) (ys ++ [y]) H4 else Pv (i+1) ys H3)
  (hd:∀ys H,Pv xs.length ys H->R ys H):mM (Itl K a) σ₀ g tt te R H:=by
 refine⟨fun i m ys H=>m=xs.length - i/\i<=xs.length/\Pv i ys H,⟨xs.length,by simp,Nat.zero_le _,h0⟩,?_⟩
 rintro i m ys H ⟨rfl,hi,p⟩
 obtain⟨q,ql⟩:=hl i ys H hi p
 refine⟨by omega,?_⟩
 by_cases hlt:i < xs.length
 ·refine .inr ⟨⟨xs,xs[i],q,by simp[hlt]⟩,Pv (i+1),fun ys' H' p'=>⟨xs.length - (i+1),by omega,rfl,hlt,p'⟩,fun x H' y=>?_⟩
  obtain⟨e,y⟩:=y
  subst e
  exact hs i x ys _ (y xs q) p
 ·have e:i=xs.length:=by omega
  subst e
  exact .inl ⟨⟨xs,q,Nat.le_refl _⟩,hd ys H p⟩
theorem aIo{K:W.Frag}{a:Addr}{xs:List V}{σ₀:St}{g:TG}{tt:TT}{te:TE}{R:List V->Hp->Prop}{H:Hp}(Pv:Nat->List V->Hp->Prop)(h0:Pv 0 [] H)(hz:xs.length<=sizeLine)
  (hl:∀i ys H,i<=xs.length->Pv i ys H->kL K H a xs/\ys.length<=i)
  (hs:∀i x ys H,xs[i]?=some x->Pv i ys H->g x σ₀ H fun σ2 H2=>tt σ2 H2 fun b H3=>if b=true then te σ2 H3 fun y H4=>Pv (i+1) (ys ++ [y]) H4 else Pv (i+1) ys H3)
  (hd:∀ys H,Pv xs.length ys H->R ys H):mM (Itt K a) σ₀ g tt te R H:=by
 refine⟨fun i m ys H=>m=xs.length - i/\i<=xs.length/\Pv i ys H,⟨xs.length,by simp,Nat.zero_le _,h0⟩,?_⟩
 rintro i m ys H ⟨rfl,hi,p⟩
 obtain⟨q,ql⟩:=hl i ys H hi p
 refine⟨by omega,?_⟩
 by_cases hlt:i < xs.length
 ·refine .inr ⟨⟨xs,xs[i],q,by simp[hlt]⟩,Pv (i+1),fun ys' H' p'=>⟨xs.length - (i+1),by omega,rfl,hlt,p'⟩,fun x H' y=>?_⟩
  obtain⟨e,y⟩:=y
  subst e
  exact hs i x ys _ (y xs q) p
 ·have e:i=xs.length:=by omega
  subst e
  exact .inl ⟨⟨xs,q,Nat.le_refl _⟩,hd ys H p⟩
theorem aAG{lo:Int}{n:Nat}{σ₀:St}{g:TG}{tt:TT}{te:TE}{R:List V->Hp->Prop}{H:Hp}(Pv:Nat->List V->Hp->Prop)(h0:Pv 0 [] H)(hz:n<=sizeLine)
  (hl:∀i ys H,i<=n->Pv i ys H->ys.length<=i)
  (hs:∀i ys H,i < n->Pv i ys H->g (.int (lo+i)) σ₀ H fun σ2 H2=>tt σ2 H2 fun b H3=>if b=true then te σ2 H3 fun y H4=>Pv (i+1) (ys ++ [y]) H4 else Pv (i+1) ys H3)
  (hd:∀ys H,Pv n ys H->R ys H):mM (Itr lo n) σ₀ g tt te R H:=by
 refine⟨fun i m ys H=>m=n - i/\i<=n/\Pv i ys H,⟨n,by simp,Nat.zero_le _,h0⟩,?_⟩
 rintro i m ys H ⟨rfl,hi,p⟩
 have ql:=hl i ys H hi p
 refine⟨by omega,?_⟩
 by_cases hlt:i < n
 ·refine .inr ⟨hlt,Pv (i+1),fun ys' H' p'=>⟨n - (i+1),by omega,rfl,hlt,p'⟩,fun x H' y=>?_⟩
  obtain⟨e,y⟩:=y
  subst e y
  exact hs i ys _ hlt p
 ·have e:i=n:=by omega
  subst e
  exact .inl ⟨Nat.le_refl _,hd ys H p⟩
end L2
namespace L2
open PySem PySem.Spec PyProof.Rows
theorem aLo:bootBuiltins "int" = some (.type "int"):=by decide +kernel
theorem aGn:bootBuiltins "bool" = some (.type "bool"):=by decide +kernel
theorem pM:bootBuiltins "list" = some (.type "list"):=by decide +kernel
theorem aIp:bootBuiltins "tuple" = some (.type "tuple"):=by decide +kernel
theorem aGo:bootBuiltins "dict" = some (.type "dict"):=by decide +kernel
theorem eZ:bootBuiltins "len" = some (.builtin "len"):=by decide +kernel
theorem aLp:bootBuiltins "abs" = some (.builtin "abs"):=by decide +kernel
theorem xV:bootBuiltins "max" = some (.builtin "max"):=by decide +kernel
theorem aAH:bootBuiltins "min" = some (.builtin "min"):=by decide +kernel
theorem aLq:bootBuiltins "sum" = some (.builtin "sum"):=by decide +kernel
theorem aAI:bootBuiltins "all" = some (.builtin "all"):=by decide +kernel
theorem aLr:bootBuiltins "any" = some (.builtin "any"):=by decide +kernel
theorem aCu:bootBuiltins "sorted" = some (.builtin "sorted"):=by decide +kernel
theorem gK:bootBuiltins "isinstance" = some (.builtin "isinstance"):=by decide +kernel
section
variable{X:Cx}
def aIq:R2:=fun x y H Q=>rI0 (fun i j=>.int (i+j)) x y H Q\/aMx x y H Q
theorem bK:rC X (binaryOp .Add) aIq:=aK1.or aLe
def aKC:R2:=fun x y H Q=>rI aHW (fun i j=>.int (i*j)) x y H Q\/aMy x y H Q
theorem bV:rC X (binaryOp .Mult) aKC:=aK2.or aLf
def aHa(K:W.Frag):V->Option Int->Option Int->Hp->VK->Prop:=fun x lo hi H Q=>aMv K x lo hi H Q\/aMq K x lo hi H Q
theorem aJN:SlR X (aHa X.K):=aJG.or aK8
def EqN(K:W.Frag)(H:Hp):Nat->V->V->Bool->Prop
 |0,x,y,b=>mL x=true/\mL y=true/\b=eqV x y
 |n+1,x,y,b=>(mL x=true/\mL y=true/\b=eqV x y)\/
  ∃(p q:Addr) (xs ys:List V) (e:Nat->Bool),x=.ref p/\y=.ref q/\((bG K H p xs/\bG K H q ys)\/(kL K H p xs/\kL K H q ys))/\
   (∀(j:Nat) u v,xs[j]?=some u->ys[j]?=some v->EqN K H n u v (e j))/\b=(xs.length == ys.length && (List.range xs.length).all e)
theorem aEq{x:V}(h:mL x=true):eqV x x=true:=by
 cases x with
 |non=>rfl
 |bl b=>cases b <;> rfl
 |int i=>exact beq_self_eq_true i
 |str z=>exact beq_self_eq_true z
 |_=>exact absurd (show false=true from h) Bool.false_ne_true
theorem aEr{pins:List (Addr×Obj)}{σ:St}{H:Hp}{s:Shared}(I:Inv X pins σ H s):∀{n:Nat}{x:V}{b:Bool},EqN X.K H n x x b->b=true
 |0,x,b,⟨h,_,e⟩=>by rw[e];exact aEq h
 |n+1,x,b,h=>by
  rcases h with ⟨h,_,e⟩|⟨p,q,xs,ys,e,e1,e2,hs,he,eb⟩
  ·rw[e];exact aEq h
  ·subst e1
   cases e2
   have exy:xs=ys:=by
    rcases hs with ⟨h1,h2⟩|⟨h1,h2⟩
    ·exact I.aAr h1 h2
    ·exact I.aCm h1 h2
   subst exy
   rw[eb,beq_self_eq_true,Bool.true_and,List.all_eq_true]
   intro j hj
   have hj':j < xs.length:=List.mem_range.mp hj
   exact aEr I (he j xs[j] xs[j] (List.getElem?_eq_getElem hj') (List.getElem?_eq_getElem hj'))
theorem aIr{pins:List (Addr×Obj)}{σ:St}{H:Hp}{s:Shared}(I:Inv X pins σ H s):∀{n:Nat}{A:Around}{x y:V}{u v:Value}{b:Bool},A.units+n < cLine->RelV x u->RelV y v->EqN X.K H n x y b->SeqAt.EqAt A s u v b
 |0,A,x,y,u,v,b,_,rx,ry,⟨h1,h2,e⟩=>by rw[e];exact aIb rx ry h1 h2
 |n+1,A,x,y,u,v,b,hu,rx,ry,h=>by
  rcases id h with ⟨h1,h2,e⟩|⟨p,q,xs,ys,e,e1,e2,hs,he,eb⟩
  ·rw[e];exact aIb rx ry h1 h2
  ·subst e1 e2
   cases rx
   cases ry
   by_cases hpq:p=q
   ·subst hpq
    rw[aEr I h]
    exact SeqAt.EqAt.same _
   ·refine SeqAt.EqAt.of_refs hpq ?_
    have items:∀{us vs:List Value},Vals xs us->Vals ys vs->∀j (h1:j < us.toArray.size) (h2:j < vs.toArray.size),SeqAt.EqAt A.in1 s us.toArray[j] vs.toArray[j] (e j):=fun {us vs} r1 r2 j h1 h2=>by
     have l1:=r1.length
     have l2:=r2.length
     rw[List.size_toArray] at h1 h2
     have g1:xs[j]?=some xs[j]:=List.getElem?_eq_getElem (by omega)
     have g2:ys[j]?=some ys[j]:=List.getElem?_eq_getElem (by omega)
     obtain⟨u',eu,ru⟩:=r1.get g1
     obtain⟨v',ev,rv⟩:=r2.get g2
     have eu':us.toArray[j]=u':=by
      rw[List.getElem_toArray]
      exact Option.some.inj ((List.getElem?_eq_getElem h1).symm.trans eu)
     have ev':vs.toArray[j]=v':=by
      rw[List.getElem_toArray]
      exact Option.some.inj ((List.getElem?_eq_getElem h2).symm.trans ev)
     rw[eu',ev']
     exact aIr I (n:=n) (by show A.units+1+n < cLine;omega) ru rv (he j _ _ g1 g2)
    rcases hs with ⟨h1,h2⟩|⟨h1,h2⟩
    ·obtain⟨us,r1,p1,_⟩:=I.list h1
     obtain⟨vs,r2,p2,_⟩:=I.list h2
     have l1:=r1.length
     have l2:=r2.length
     by_cases hl:xs.length=ys.length
     ·rw[eb,hl,beq_self_eq_true,Bool.true_and,<-hl,show xs.length=us.toArray.size by rw[List.size_toArray];exact l1]
      exact SeqAt.RcAt.lists p1.isList p2.isList (by rw[List.size_toArray,List.size_toArray];omega) (by omega) (items r1 r2)
     ·rw[eb,show(xs.length == ys.length)=false by simpa using hl,Bool.false_and]
      exact SeqAt.RcAt.lists_lengths p1.isList p2.isList (by rw[List.size_toArray,List.size_toArray];simp;omega) (by omega)
    ·obtain⟨us,r1,p1,_⟩:=I.tuple h1
     obtain⟨vs,r2,p2,_⟩:=I.tuple h2
     have l1:=r1.length
     have l2:=r2.length
     have q:=SeqAt.RcAt.tuples (s:=s) (A:=A) (l:=p) (b:=q) (e:=e) p1 p2 (by omega) (items r1 r2)
     rw[List.size_toArray,List.size_toArray,<-l1,<-l2] at q
     by_cases hl:xs.length=ys.length
     ·rw[eb,hl,beq_self_eq_true,Bool.true_and]
      rw[hl,Nat.min_self,beq_self_eq_true,Bool.and_true] at q
      exact q
     ·have hb:(xs.length == ys.length)=false:=by simpa using hl
      rw[eb,hb,Bool.false_and]
      rw[hb,Bool.and_false] at q
      exact q
def rD(K:W.Frag):R2:=fun x y H Q=>∃b,EqN K H 8 x y b/\Q (.bl b) H
def aAJ(K:W.Frag):R2:=fun x y H Q=>∃b,EqN K H 8 x y b/\Q (.bl (!b)) H
theorem tR{pins:List (Addr×Obj)}{σ:St}{H:Hp}{s:Shared}{n:Nat}{A:Around}{xs ys:List V}{us vs:List Value}{e:Nat->Bool}(I:Inv X pins σ H s)(hu:A.units+1+n < cLine)
  (he:∀(j:Nat) u v,xs[j]?=some u->ys[j]?=some v->EqN X.K H n u v (e j)) (r1:Vals xs us) (r2:Vals ys vs):∀j (h1:j < us.toArray.size) (h2:j < vs.toArray.size),SeqAt.EqAt A.in1 s us.toArray[j] vs.toArray[j] (e j):=fun j h1 h2=>by
 have l1:=r1.length
 have l2:=r2.length
 rw[List.size_toArray] at h1 h2
 have g1:xs[j]?=some xs[j]:=List.getElem?_eq_getElem (by omega)
 have g2:ys[j]?=some ys[j]:=List.getElem?_eq_getElem (by omega)
 obtain⟨u',eu,ru⟩:=r1.get g1
 obtain⟨v',ev,rv⟩:=r2.get g2
 have eu':us.toArray[j]=u':=by
  rw[List.getElem_toArray]
  exact Option.some.inj ((List.getElem?_eq_getElem h1).symm.trans eu)
 have ev':vs.toArray[j]=v':=by
  rw[List.getElem_toArray]
  exact Option.some.inj ((List.getElem?_eq_getElem h2).symm.trans ev)
 rw[eu',ev']
 exact aIr I (n:=n) (by show A.units+1+n < cLine;omega) ru rv (he j _ _ g1 g2)
theorem aLs{A:Around}{s:Shared}{y x:V}{u v:Value}(ry:RelV y u)(rx:RelV x v)(fy:mL y=true)(fx:mL x=true):SeqAt.RcAt A s u v (eqV y x):=by
 cases y with
 |non=>
  cases ry
  cases x with
  |non=>cases rx;exact SeqAt.RcAt.none_none
  |bl b=>cases rx;exact SeqAt.RcAt.none_bool b
  |int b=>obtain⟨t,rfl⟩:=rx;exact SeqAt.RcAt.none_int b t
  |str b=>obtain⟨t,rfl⟩:=rx;exact SeqAt.RcAt.none_str b t
  |_=>exact absurd (show false=true from fx) Bool.false_ne_true
 |bl a=>
  cases ry
  cases x with
  |non=>cases rx;exact SeqAt.RcAt.bool_none a
  |bl b=>cases rx;exact SeqAt.RcAt.bool_bool a b
  |int b=>obtain⟨t,rfl⟩:=rx;exact SeqAt.RcAt.bool_int a b t
  |str b=>obtain⟨t,rfl⟩:=rx;exact SeqAt.RcAt.bool_str a b t
  |_=>exact absurd (show false=true from fx) Bool.false_ne_true
 |int a=>
  obtain⟨t',rfl⟩:=ry
  cases x with
  |non=>cases rx;exact SeqAt.RcAt.int_none a t'
  |bl b=>cases rx;exact SeqAt.RcAt.int_bool a t' b
  |int b=>obtain⟨t,rfl⟩:=rx;exact SeqAt.RcAt.int_int a t' b t
  |str b=>obtain⟨t,rfl⟩:=rx;exact SeqAt.RcAt.int_str a t' b t
  |_=>exact absurd (show false=true from fx) Bool.false_ne_true
 |str a=>
  obtain⟨t',rfl⟩:=ry
  cases x with
  |non=>cases rx;exact SeqAt.RcAt.str_none a t'
  |bl b=>cases rx;exact SeqAt.RcAt.str_bool a t' b
  |int b=>obtain⟨t,rfl⟩:=rx;exact SeqAt.RcAt.str_int a t' b t
  |str b=>obtain⟨t,rfl⟩:=rx;exact SeqAt.RcAt.str_str a t' b t
  |_=>exact absurd (show false=true from fx) Bool.false_ne_true
 |_=>exact absurd (show false=true from fy) Bool.false_ne_true
theorem aIs{A:Around}{s:Shared}{y x:V}{u v:Value}(ry:RelV y u)(rx:RelV x v)(fy:mL y=true)(fx:mL x=true):SeqAt.RcNeAt A s u v (!eqV y x):=by
 cases y with
 |non=>
  cases ry
  cases x with
  |non=>cases rx;exact SeqAt.RcNeAt.none_none
  |bl b=>cases rx;exact SeqAt.RcNeAt.none_bool b
  |int b=>obtain⟨t,rfl⟩:=rx;exact SeqAt.RcNeAt.none_int b t
  |str b=>obtain⟨t,rfl⟩:=rx;exact SeqAt.RcNeAt.none_str b t
  |_=>exact absurd (show false=true from fx) Bool.false_ne_true
 |bl a=>
  cases ry
  cases x with
  |non=>cases rx;exact SeqAt.RcNeAt.bool_none a
  |bl b=>cases rx;exact SeqAt.RcNeAt.bool_bool a b
  |int b=>obtain⟨t,rfl⟩:=rx;exact SeqAt.RcNeAt.bool_int a b t
  |str b=>obtain⟨t,rfl⟩:=rx;exact SeqAt.RcNeAt.bool_str a b t
  |_=>exact absurd (show false=true from fx) Bool.false_ne_true
 |int a=>
  obtain⟨t',rfl⟩:=ry
  cases x with
  |non=>cases rx;exact SeqAt.RcNeAt.int_none a t'
  |bl b=>cases rx;exact SeqAt.RcNeAt.int_bool a t' b
  |int b=>obtain⟨t,rfl⟩:=rx;exact SeqAt.RcNeAt.int_int a t' b t
  |str b=>obtain⟨t,rfl⟩:=rx;exact SeqAt.RcNeAt.int_str a t' b t
  |_=>exact absurd (show false=true from fx) Bool.false_ne_true
 |str a=>
  obtain⟨t',rfl⟩:=ry
  cases x with
  |non=>cases rx;exact SeqAt.RcNeAt.str_none a t'
  |bl b=>cases rx;exact SeqAt.RcNeAt.str_bool a t' b
  |int b=>obtain⟨t,rfl⟩:=rx;exact SeqAt.RcNeAt.str_int a t' b t
  |str b=>obtain⟨t,rfl⟩:=rx;exact SeqAt.RcNeAt.str_str a t' b t
  |_=>exact absurd (show false=true from fx) Bool.false_ne_true
 |_=>exact absurd (show false=true from fy) Bool.false_ne_true
theorem gH(hu:X.A.units+9 < cLine):rC X (compareOp .Eq) (rD X.K):=by
 intro pins s σ H x y v u Q I rx ry h
 obtain⟨b,h,q⟩:=h
 have fin:EP X pins σ Q (.bool b) s:=⟨.bl b,H,I,rfl,q⟩
 rcases h with ⟨h1,h2,e⟩|⟨p,l,xs,ys,e,e1,e2,hs,he,eb⟩
 ·exact aLs rx ry h1 h2 X.prog X.w X.xe _ (by rw[<-e];exact fin)
 ·subst e1 e2
  cases rx
  cases ry
  rcases hs with ⟨h1,h2⟩|⟨h1,h2⟩
  ·obtain⟨us,r1,p1,_⟩:=I.list h1
   obtain⟨vs,r2,p2,_⟩:=I.list h2
   have l1:=r1.length
   have l2:=r2.length
   by_cases hl:xs.length=ys.length
   ·refine SeqAt.RcAt.lists p1.isList p2.isList (by rw[List.size_toArray,List.size_toArray];omega) (by omega) (tR I (n:=7) (A:=X.A) (by omega) he r1 r2) X.prog X.w X.xe _ ?_
    rw[List.size_toArray,<-l1]
    rw[eb,hl,beq_self_eq_true,Bool.true_and,<-hl] at fin
    exact fin
   ·refine SeqAt.RcAt.lists_lengths p1.isList p2.isList (by rw[List.size_toArray,List.size_toArray];simp;omega) (by omega) X.prog X.w X.xe _ ?_
    rw[eb,show(xs.length == ys.length)=false by simpa using hl,Bool.false_and] at fin
    exact fin
  ·obtain⟨us,r1,p1,_⟩:=I.tuple h1
   obtain⟨vs,r2,p2,_⟩:=I.tuple h2
   have l1:=r1.length
   have l2:=r2.length
   refine SeqAt.RcAt.tuples p1 p2 (by omega) (tR I (n:=7) (A:=X.A) (by omega) he r1 r2) X.prog X.w X.xe _ ?_
   rw[List.size_toArray,List.size_toArray,<-l1,<-l2]
   rw[eb] at fin
   by_cases hl:xs.length=ys.length
   ·rw[hl,beq_self_eq_true,Bool.true_and] at fin
    rw[hl,Nat.min_self,beq_self_eq_true,Bool.and_true]
    exact fin
   ·have hb:(xs.length == ys.length)=false:=by simpa using hl
    rw[hb,Bool.false_and] at fin
    rw[hb,Bool.and_false]
    exact fin
theorem xW(hu:X.A.units+9 < cLine):rC X (compareOp .NotEq) (aAJ X.K):=by
 intro pins s σ H x y v u Q I rx ry h
 obtain⟨b,h,q⟩:=h
 have fin:EP X pins σ Q (.bool (!b)) s:=⟨.bl (!b),H,I,rfl,q⟩
 rcases h with ⟨h1,h2,e⟩|⟨p,l,xs,ys,e,e1,e2,hs,he,eb⟩
 ·exact aIs rx ry h1 h2 X.prog X.w X.xe _ (by rw[<-e];exact fin)
 ·subst e1 e2
  cases rx
  cases ry
  rcases hs with ⟨h1,h2⟩|⟨h1,h2⟩
  ·obtain⟨us,r1,p1,_⟩:=I.list h1
   obtain⟨vs,r2,p2,_⟩:=I.list h2
   have l1:=r1.length
   have l2:=r2.length
   by_cases hl:xs.length=ys.length
   ·refine SeqAt.RcNeAt.lists p1.isList p2.isList (by rw[List.size_toArray,List.size_toArray];omega) (by omega) (tR I (n:=7) (A:=X.A) (by omega) he r1 r2) X.prog X.w X.xe _ ?_
    rw[List.size_toArray,<-l1]
    rw[eb,hl,beq_self_eq_true,Bool.true_and,<-hl] at fin
    exact fin
   ·refine SeqAt.RcNeAt.lists_lengths p1.isList p2.isList (by rw[List.size_toArray,List.size_toArray];simp;omega) (by omega) X.prog X.w X.xe _ ?_
    rw[eb,show(xs.length == ys.length)=false by simpa using hl,Bool.false_and] at fin
    exact fin
  ·obtain⟨us,r1,p1,_⟩:=I.tuple h1
   obtain⟨vs,r2,p2,_⟩:=I.tuple h2
   have l1:=r1.length
   have l2:=r2.length
   refine SeqAt.RcNeAt.tuples p1 p2 (by omega) (tR I (n:=7) (A:=X.A) (by omega) he r1 r2) X.prog X.w X.xe _ ?_
   rw[List.size_toArray,List.size_toArray,<-l1,<-l2]
   rw[eb] at fin
   by_cases hl:xs.length=ys.length
   ·rw[hl,beq_self_eq_true,Bool.true_and] at fin
    rw[hl,Nat.min_self,beq_self_eq_true,Bool.and_true]
    exact fin
   ·have hb:(xs.length == ys.length)=false:=by simpa using hl
    rw[hb,Bool.false_and] at fin
    rw[hb,Bool.and_false]
    exact fin
def IsI(K:W.Frag)(H:Hp)(x:V)(c:V)(b:Bool):Prop:=∃t,vT K H x t/\((∃T,c=.ty T/\PySem.W.kitOne K t (.type T)=some b)\/(∃C,c=.ref C/\PySem.W.kitOne K t (.ref C)=some b))
theorem aIt:dZ X (.builtin "isinstance") (fun xs H Q=>∃x c b,xs=[x,c]/\IsI X.K H x c b/\Q (.bl b) H):=by
 intro pins s σ H xs us Q I r h
 obtain⟨x,c,b,rfl,⟨t,ty,hc⟩,q⟩:=h
 obtain⟨u,w',rfl,rx,ry⟩:=vals2 r
 rcases hc with ⟨T,rfl,e⟩|⟨C,rfl,e⟩
 ·cases ry
  exact aCn I rx ty e fun tk=>⟨.bl b,H,I.tok _,rfl,q⟩
 ·cases ry
  exact aCn I rx ty e fun tk=>⟨.bl b,H,I.tok _,rfl,q⟩
end
end L2
namespace L2
open PySem PySem.Spec PyProof.Rows
section
variable{X:Cx}
def gIx(K:W.Frag):V->V->Hp->VK->Prop:=fun x y H Q=>∃p xs i v,x=.ref p/\y=.int i/\bG K H p xs/\0<=i/\xs[i.toNat]?=some v/\Q v H
theorem aLt:aKW X (gIx X.K):=by
 intro pins s σ H x y v u Q I rx ry h
 obtain⟨p,xs,i,z,rfl,rfl,hq,h0,he,q⟩:=h
 cases rx
 obtain⟨t,rfl⟩:=ry
 obtain⟨its,r,pl,hz⟩:=I.list hq
 obtain⟨w,ew,rw'⟩:=r.get he
 have hl:=r.length
 have hn:=xP
 have hi:i.toNat < xs.length:=(List.getElem?_eq_some_iff.mp he).1
 exact wpAny_getItem_list pl.isList h0 (by omega) (by simpa using ew) ⟨z,H,I,rw',q⟩
theorem kZ{k:Nat}{A:Around}(hr:dI k A):A.units+9 < cLine:=by have:=hr.un;omega
end
section
variable{σ:St}{H:Hp}{nx bk ct:St->Hp->Prop}{rt:VK}{Q:VK}{QT:Bool->Hp->Prop}{QA:List V->Hp->Prop}{QG:St->Hp->Prop}
theorem aR{t:TS}{D:Ends}{σ σ':St}(e:σ'=σ)(h:t D σ H):t D σ' H:=e▸h
theorem aLu{t u:TS}(h:t ⟨u ⟨nx,rt,bk,ct⟩,rt,bk,ct⟩ σ H):aHP t u ⟨nx,rt,bk,ct⟩ σ H:=h
theorem aJO(h:nx σ H):aHO ⟨nx,rt,bk,ct⟩ σ H:=h
theorem aLv{te:TE}{g:TG}(h:te σ H fun x H1=>g x σ H1 nx):aFe te g ⟨nx,rt,bk,ct⟩ σ H:=h
theorem aJP{te:TE}(h:te σ H fun _ H1=>nx σ H1):aHQ te ⟨nx,rt,bk,ct⟩ σ H:=h
theorem aLw{te:TE}(h:te σ H rt):aKR te ⟨nx,rt,bk,ct⟩ σ H:=h
theorem aLx{c:TT}{t u:TS}(h:c σ H fun b H1=>if b=true then t ⟨nx,rt,bk,ct⟩ σ H1 else u ⟨nx,rt,bk,ct⟩ σ H1):aKS c t u ⟨nx,rt,bk,ct⟩ σ H:=h
theorem aFv{i:Nat}{te:TE}{ti:TIp}{x:V}(e:σ[i]?=some (some x))(h:te σ H fun y H1=>ti x y H1 fun z H2=>nx (σ.set i (some z)) H2):aKV i te ti ⟨nx,rt,bk,ct⟩ σ H:=⟨x,e,h⟩
theorem aJQ{to ti te:TE}{tget:V->V->Hp->VK->Prop}{tip:TIp}{tset:aCU}(h:to σ H fun o H1=>ti σ H1 fun i H2=>tget o i H2 fun x H3=>te σ H3 fun y H4=>tip x y H4 fun z H5=>tset o i z H5 fun H6=>nx σ H6):aHT to ti te tget tip tset ⟨nx,rt,bk,ct⟩ σ H:=h
theorem aLy{wi:TI}{g:TG}{tb:TS}(h:wi σ H fun J H1=>∃W:Nat->Nat->St->Hp->Prop,(∃m,W 0 m σ H1)/\∀i m σ H,W i m σ H->
 (J.stop i H/\nx σ H)\/(J.go i H/\∃N:St->Hp->Prop,(∀σ' H',N σ' H'->∃m',m' < m/\W (i+1) m' σ' H')/\∀x H',J.yld i H x H'->g x σ H' fun σ2 H2=>tb ⟨N,rt,nx,N⟩ σ2 H2)):aKZ wi g tb ⟨nx,rt,bk,ct⟩ σ H:=h
theorem aIu{i:Nat}{v:V}{σ':St}(e:σ.set i (some v)=σ')(h:QG σ' H):uG i v σ H QG:=by unfold uG;rw[e];exact h
theorem fD{K:W.Frag}{n:Nat}{t:TGs}{a:Addr}{xs:List V}(h1:kL K H a xs)(h2:xs.length=n)(h:t xs σ H QG):aJw K n t (.ref a) σ H QG:=⟨a,xs,rfl,h1,h2,h⟩
theorem aJR(h:QG σ H):aJv [] σ H QG:=⟨rfl,h⟩
theorem aIv{t:TG}{u:TGs}{v:V}{r:List V}(h:t v σ H fun σ' H'=>u r σ' H' QG):aGe t u (v::r) σ H QG:=⟨v,r,rfl,h⟩
theorem aJS{to ti:TE}{t:aCU}{v:V}(h:to σ H fun o H1=>ti σ H1 fun i H2=>t o i v H2 fun H3=>QG σ H3):aKU to ti t v σ H QG:=h
theorem aC6{p:Addr}{xs:List V}{k:Int}{v:V}{j:Nat}{QH:Hp->Prop}(h1:H p=some (.lst xs))(h2:ixN xs.length k=some j)(h:QH (upd H p (.lst (xs.set j v)))):aKz (.ref p) (.int k) v H QH:=⟨p,xs,k,j,rfl,rfl,h1,h2,h⟩
theorem aLz{K:W.Frag}{p:Addr}{xs:List V}{i:Int}{v:V}(h1:bG K H p xs)(h0:0<=i)(h2:xs[i.toNat]?=some v)(h:Q v H):gIx K (.ref p) (.int i) H Q:=⟨p,xs,i,v,rfl,rfl,h1,h0,h2,h⟩
theorem aLA{f:Int->Int->Int}{i j:Int}(h:Q (.int (f i j)) H):ipI f (.int i) (.int j) H Q:=⟨i,j,rfl,rfl,h⟩
theorem aLB{i:Nat}{v:V}(e:σ[i]?=some (some v))(h:Q v H):aKN i σ H Q:=⟨v,e,h⟩
theorem aNi{v:V}(h:Q v H):tC v σ H Q:=h
theorem aMC{r:R2}{ta tb:TE}(h:ta σ H fun x H1=>tb σ H1 fun y H2=>r x y H2 Q):tOp r ta tb σ H Q:=h
theorem aMD{r:V->Hp->VK->Prop}{ta:TE}(h:ta σ H fun x H1=>r x H1 Q):tUn r ta σ H Q:=h
theorem aLC{g:Int->Int->V}{i j:Int}(h:Q (g i j) H):rI0 g (.int i) (.int j) H Q:=⟨i,j,rfl,rfl,h⟩
theorem aME{C:Int->Int->Prop}{g:Int->Int->V}{i j:Int}(c:C i j)(h:Q (g i j) H):rI C g (.int i) (.int j) H Q:=⟨i,j,rfl,rfl,c,h⟩
theorem aMF{g:Int->V}{i:Int}(h:Q (g i) H):rU g (.int i) H Q:=⟨i,rfl,h⟩
theorem aJT{i j:Int}(h:Q (.int (i+j)) H):aIq (.int i) (.int j) H Q:=.inl ⟨i,j,rfl,rfl,h⟩
theorem vY{l b:Addr}{xs zs:List V}(h1:H l=some (.lst xs))(h2:H b=some (.lst zs))(hz:xs.length+zs.length<=sizeLine)(h:∀p,H p=none->Q (.ref p) (upd H p (.lst (xs++zs)))):aIq (.ref l) (.ref b) H Q:=.inr ⟨l,b,xs,zs,rfl,rfl,h1,h2,hz,h⟩
theorem aJU{i j:Int}(c:aHW i j)(h:Q (.int (i*j)) H):aKC (.int i) (.int j) H Q:=.inl ⟨i,j,rfl,rfl,c,h⟩
theorem aIw{K:W.Frag}{x y:V}(h1:mL x=true)(h2:mL y=true)(h:Q (.bl (!eqV x y)) H):aAJ K x y H Q:=⟨_,.inl ⟨h1,h2,rfl⟩,h⟩
theorem aC7{K:W.Frag}{p:Addr}{xs:List V}{i:Int}{v:V}(h1:bG K H p xs)(h2:uH xs i=some v)(h:Q v H):rIx K (.ref p) (.int i) H Q:=.inl ⟨p,xs,i,v,rfl,rfl,h1,h2,h⟩
theorem aLD{K:W.Frag}{p:Addr}{xs:List V}{i:Int}{v:V}(h1:kL K H p xs)(h2:uH xs i=some v)(h:Q v H):rIx K (.ref p) (.int i) H Q:=.inr (.inl ⟨p,xs,i,v,rfl,rfl,h1,h2,h⟩)
theorem aMG{r:V->Option Int->Option Int->Hp->VK->Prop}{te:TE}{tl th:TO}(h:te σ H fun x H1=>tl σ H1 fun l H2=>th σ H2 fun u H3=>r x l u H3 Q):tSl r te tl th σ H Q:=h
theorem aHb{QO:Option Int->Hp->Prop}(h:QO none H):aC1 σ H QO:=h
theorem aJV{t:TE}{QO:Option Int->Hp->Prop}(h:t σ H fun x H1=>∃i,x=.int i/\QO (some i) H1):aIa t σ H QO:=h
theorem xX{K:W.Frag}{a:Addr}{xs:List V}{lo hi:Option Int}(h1:bG K H a xs)(h:∀p,H p=none->Q (.ref p) (upd H p (.lst (mK xs lo hi)))):aHa K (.ref a) lo hi H Q:=.inl ⟨a,xs,rfl,h1,h⟩
theorem aJW{ta tb:TE}(h:ta σ H fun x H1=>∃c,x=.bl c/\if c=true then tb σ H1 Q else Q (.bl false) H1):aHM ta tb σ H Q:=h
theorem aLE{ta tb:TE}(h:ta σ H fun x H1=>∃c,x=.bl c/\if c=true then Q (.bl true) H1 else tb σ H1 Q):aKQ ta tb σ H Q:=h
theorem aJX{ta:TE}(h:ta σ H fun x H1=>∃c,x=.bl c/\Q (.bl (!c)) H1):aHN ta σ H Q:=h
theorem aIx{r r':R2}{ta tb tc:TE}(h:ta σ H fun x H1=>tb σ H1 fun y H2=>r x y H2 fun z H3=>∃k,z=.bl k/\(if k=true then tc σ H3 fun w' H4=>r' y w' H4 Q else Q (.bl false) H3)):aFh r r' ta tb tc σ H Q:=h
theorem aJY{t:TE}(h:t σ H fun x H'=>∃k,x=.bl k/\QT k H'):aHX t σ H QT:=h
theorem aMH{t:TE}(h:t σ H fun x H'=>∃k,x=.bl k/\QT k H'):tB t σ H QT:=h
theorem aLF{t u:TT}(h:t σ H fun c H1=>if c=true then u σ H1 QT else QT false H1):aKO t u σ H QT:=h
theorem aMI{t u:TT}(h:t σ H fun c H1=>if c=true then QT true H1 else u σ H1 QT):tOr t u σ H QT:=h
theorem aLG{t:TT}(h:t σ H fun c H1=>QT (!c) H1):aKP t σ H QT:=h
theorem aLH(h:QT true H):aLn σ H QT:=h
theorem aMJ{b:Bool}{P:Bool->Prop}(h:P b):∃k,V.bl b=V.bl k/\P k:=⟨b,rfl,h⟩
theorem aJZ{i:Int}{P:Int->Prop}(h:P i):∃k,V.int i=V.int k/\P k:=⟨i,rfl,h⟩
theorem aMK{i:Int}{P:Int->Prop}(h:P i):∃k,[V.int i]=[V.int k]/\P k:=⟨i,rfl,h⟩
theorem aML{i j:Int}{P:Int->Int->Prop}(h:P i j):∃k l,[V.int i,V.int j]=[V.int k,V.int l]/\P k l:=⟨i,j,rfl,h⟩
theorem aLI(h:QA [] H):pK σ H QA:=h
theorem aJ0{ta:TE}{tr:TA}(h:ta σ H fun x H1=>tr σ H1 fun xs H2=>QA (x::xs) H2):bM ta tr σ H QA:=h
theorem aLJ{t:TA}(h:t σ H fun xs H1=>xs.length<=sizeLine/\∀p,H1 p=none->Q (.ref p) (upd H1 p (.tup xs))):aG1 t σ H Q:=h
theorem aLK{t:TA}(h:t σ H fun xs H1=>xs.length<=sizeLine/\∀p,H1 p=none->Q (.ref p) (upd H1 p (.lst xs))):xR t σ H Q:=h
theorem aJ1{sp:Sp}{E:XK}{t:TA}(h:t σ H fun vs H1=>sp vs H1 Q E):aEe sp [] E t σ H Q:=by
 unfold aEe
 simpa only [List.append_nil] using h
theorem aMM{r:List V->Hp->VK->Prop}{t:TA}(h:t σ H fun vs H1=>r vs H1 Q):tCB r t σ H Q:=h
theorem aJ2{wi:TI}{k:Nat}{idx:List Nat}{g:TG}{tt:TT}{te:TE}(h:wi σ H fun J H1=>mM J (cσ k idx σ) g tt te (fun ys H'=>∀p,H' p=none->Q (.ref p) (upd H' p (.lst ys))) H1):aEp wi k idx g tt te σ H Q:=h
theorem aIy{ta:TA}{R:It->Hp->Prop}(h:ta σ H fun vs H1=>∃j:Int,vs=[.int j]/\-(2 ^ 62)<=j/\j < 2 ^ 62/\R (Itr 0 j.toNat) H1):aGf ta σ H R:=h
theorem aIz{ta:TA}{R:It->Hp->Prop}(h:ta σ H fun vs H1=>∃i j:Int,vs=[.int i,.int j]/\(-(2 ^ 62)<=i/\i < 2 ^ 62/\-(2 ^ 62)<=j/\j < 2 ^ 62)/\R (Itr i (j - i).toNat) H1):aGg ta σ H R:=h
theorem aLL{K:W.Frag}{ta:TE}{f:Str}(h:ta σ H fun x H1=>∃a C dx fs v,x=.ref a/\H1 a=some (.ins C dx fs)/\Cls K C/\eB K C f/\fs.lookup f=some v/\Q v H1):aK3 K ta f σ H Q:=h
theorem aJ3{n:Nat}{P:Prop}(h1:n<=sizeLine)(h:P):n<=sizeLine/\P:=⟨h1,h⟩
theorem bX{n:Nat}(h:n<=16777216):n<=sizeLine:=by rw[sizeLine_eq];exact h
end
section
variable{A B:Prop}{c:Prop}[Decidable c]
theorem cY(h1:c->A)(h2:¬c->B):if decide c=true then A else B:=by
 by_cases h:c
 ·rw[if_pos (decide_eq_true h)];exact h1 h
 ·rw[if_neg (by simpa using h)];exact h2 h
theorem tS(h1:¬c->A)(h2:c->B):if (!decide c)=true then A else B:=by
 by_cases h:c
 ·rw[if_neg (by simpa using h)];exact h2 h
 ·rw[if_pos (by simpa using h)];exact h1 h
theorem tT{b:Bool}(h1:b=true->A)(h2:b=false->B):if b=true then A else B:=by
 cases b
 ·exact aJJ (h2 rfl)
 ·exact aJK (h1 rfl)
end
def aKD(sc:Scope)(NX:List Str)(scope:Scope)(N:List Str)(k:Nat)(idx:List Nat):Bool:=
 scope.names.all (fun y=>!(y.2 == .cell)) && scope.names.all (fun y=>!(y.2 == .local) || scope.names.lookup y.1 == some .local) &&
 scope.names.all (fun y=>!(y.2 == .free) || (sc.names.lookup y.1 == some .cell || sc.names.lookup y.1 == some .free)) &&
 decide N.Nodup && decide (N.length=k+idx.length) && (List.range idx.length).all fun i=>
  match (N.drop k)[i]?,idx[i]? with
  |some x,some j=>decide (NX[j]?=some x) && scope.names.lookup x == some .free
  |_,_=>false
theorem cF{X:Cx}{scope:Scope}{N:List Str}{k:Nat}{idx:List Nat}{sc:Scope}{NX:List Str}(hsc:X.env.scope=sc)(hN:X.N=NX)(hk:scope.kind=.function)(h:aKD sc NX scope N k idx=true):dP X scope N k idx:=by
 unfold aKD at h
 simp only[Bool.and_eq_true,decide_eq_true_eq] at h
 obtain⟨⟨⟨⟨⟨h1,h2⟩,h3⟩,h4⟩,h5⟩,h6⟩:=h
 rw[List.all_eq_true] at h1 h2 h3 h6
 refine⟨hk,fun y hy e=>?_,fun y hy e=>?_,fun y hy e=>?_,h4,h5,fun i x e=>?_⟩
 ·have:=h1 y hy
  rw[e] at this
  simp at this
 ·have:=h2 y hy
  rw[e] at this
  simpa using this
 ·have:=h3 y hy
  rw[e] at this
  show X.env.scope.names.lookup y.1=_\/X.env.scope.names.lookup y.1=_
  rw[hsc]
  simpa using this
 ·have hi:i < (N.drop k).length:=(List.getElem?_eq_some_iff.mp e).1
  have hi2:i < idx.length:=by rw[List.length_drop] at hi;omega
  have q:=h6 i (List.mem_range.mpr hi2)
  rw[e,List.getElem?_eq_getElem hi2] at q
  simp only[Bool.and_eq_true,decide_eq_true_eq] at q
  exact⟨idx[i],List.getElem?_eq_getElem hi2,by rw[hN];exact q.1,by simpa using q.2⟩
theorem bE{H:Hp}{a b:Addr}{o:HO}(h':H b=none)(h:H a=some o):a≠b:=bC h h'
theorem aI.at{H H':Hp}{b:Addr}{o:HO}(e:aI H H')(h:H b=some o):H' b=some o:=e b o h
def bS(p:Addr)(H H':Hp):Prop:=∀b o,H b=some o->b≠p->H' b=some o
theorem bS.at{p:Addr}{H H':Hp}{b:Addr}{o:HO}(e:bS p H H')(h:H b=some o)(n:b≠p):H' b=some o:=e b o h n
theorem aI.new{H:Hp}{p:Addr}{o:HO}(h:H p=none):aI H (upd H p o):=fun b u e=>by rw[aJ (bC e h)];exact e
theorem bS.upd{H:Hp}{p:Addr}{o:HO}:bS p H (upd H p o):=fun b u e n=>by rw[aJ n];exact e
theorem bS.trans{p:Addr}{H H1 H2:Hp}(a:bS p H H1)(b:bS p H1 H2):bS p H H2:=fun c o h n=>b c o (a c o h n) n
theorem aI.keep{p:Addr}{H H':Hp}(a:aI H H'):bS p H H':=fun c o h _=>a c o h
end L2
namespace L2
open PySem PySem.Spec PyProof.Rows
section
variable{σ:St}{H:Hp}{nx bk ct:St->Hp->Prop}{rt:VK}
theorem aAd{t u:TS}(J:St->Hp->Prop)(h1:∀N:St->Hp->Prop,(∀σ' H',J σ' H'->N σ' H')->t ⟨N,rt,bk,ct⟩ σ H)(h2:∀σ' H',J σ' H'->u ⟨nx,rt,bk,ct⟩ σ' H'):aHP t u ⟨nx,rt,bk,ct⟩ σ H:=h1 _ h2
end
theorem aCv{K:W.Frag}{a:Addr}{xs:List V}{σ₀:St}{g:TG}{tt:TT}{te:TE}{R:List V->Hp->Prop}{H:Hp}(f:V->V)(hS:bG K H a xs)(hz:xs.length<=sizeLine)
  (hs:∀x (N:V->Hp->Prop) (N':Hp->Prop),x∈xs->N (f x) H->g x σ₀ H fun σ2 H2=>tt σ2 H2 fun b H3=>if b=true then te σ2 H3 fun y H4=>N y H4 else N' H3)
  (hd:R (xs.map f) H):mM (Itl K a) σ₀ g tt te R H:=by
 refine cB (fun i ys H'=>H'=H/\ys=(xs.take i).map f) ⟨rfl,by simp⟩ hz (fun i ys H' hi ⟨e1,e2⟩=>?_) (fun i x ys H' hx ⟨e1,e2⟩=>?_) (fun ys H' ⟨e1,e2⟩=>?_)
 ·subst e1 e2
  exact⟨hS,by simp;omega⟩
 ·subst e1 e2
  refine hs x (fun y H4=>H4=H'/\(xs.take i).map f ++ [y]=(xs.take (i+1)).map f) (fun H3=>H3=H'/\(xs.take i).map f=(xs.take (i+1)).map f) (List.mem_of_getElem? hx) ⟨rfl,?_⟩
  rw[List.take_add_one,hx,List.map_append]
  rfl
 ·subst e1 e2
  rw[List.take_length]
  exact hd
theorem aFw{lo:Int}{n:Nat}{σ₀:St}{g:TG}{tt:TT}{te:TE}{R:List V->Hp->Prop}{H:Hp}(f:Nat->V)(hz:n<=sizeLine)
  (hs:∀i (N:V->Hp->Prop) (N':Hp->Prop),i < n->N (f i) H->g (.int (lo+i)) σ₀ H fun σ2 H2=>tt σ2 H2 fun b H3=>if b=true then te σ2 H3 fun y H4=>N y H4 else N' H3)
  (hd:R ((List.range n).map f) H):mM (Itr lo n) σ₀ g tt te R H:=by
 refine aAG (fun i ys H'=>H'=H/\ys=(List.range i).map f) ⟨rfl,by simp⟩ hz (fun i ys H' hi ⟨e1,e2⟩=>?_) (fun i ys H' hi ⟨e1,e2⟩=>?_) (fun ys H' ⟨e1,e2⟩=>?_)
 ·subst e1 e2
  simp
 ·subst e1 e2
  refine hs i (fun y H4=>H4=H'/\(List.range i).map f ++ [y]=(List.range (i+1)).map f) (fun H3=>H3=H'/\(List.range i).map f=(List.range (i+1)).map f) hi ⟨rfl,?_⟩
  rw[List.range_succ,List.map_append]
  rfl
 ·subst e1 e2
  exact hd
theorem aAe{X:Cx}{x:Str}{n:Int}{pos:Pos}(hg:Gl X x)(hm:∃t,X.mg x=some (.int n t))(hd:(x == ("__debug__" : Str))=false:=by decide):PE X (.Name x pos) (tC (.int n)):=by
 obtain⟨t,hm⟩:=hm
 exact aJu (v:=.int n) hg hm ⟨t,rfl⟩ hd
section
variable{X:Cx}{K:W.Frag}{H:Hp}{Q:VK}
def oV(K:W.Frag):List V->Hp->VK->Prop:=fun xs H Q=>∃x n,xs=[x]/\aMo K x H n/\Q (.int n) H
theorem bY:dZ X (.builtin "len") (oV X.K):=aHZ
theorem aJ4{p:Addr}{xs:List V}(h:bG K H p xs)(q:Q (.int xs.length) H):oV K [.ref p] H Q:=⟨_,_,rfl,.inl ⟨_,h,rfl⟩,q⟩
theorem aJ5{p:Addr}{xs:List V}(h:kL K H p xs)(q:Q (.int xs.length) H):oV K [.ref p] H Q:=⟨_,_,rfl,.inr ⟨_,h,rfl⟩,q⟩
def aMN:List V->Hp->VK->Prop:=fun xs H Q=>∃i,xs=[.int i]/\Q (.int (if i < 0 then -i else i)) H
theorem aHc:dZ X (.builtin "abs") aMN:=aHY
theorem aLM{i:Int}(h:Q (.int (if i < 0 then -i else i)) H):aMN [.int i] H Q:=⟨i,rfl,h⟩
def aMO:List V->Hp->VK->Prop:=fun xs H Q=>∃i j,xs=[.int i,.int j]/\Q (.int (if j > i then j else i)) H
theorem mF(hc:X.calm=true):dZ X (.builtin "max") aMO:=aGX hc
theorem aLN{i j:Int}(h:Q (.int (max i j)) H):aMO [.int i,.int j] H Q:=⟨i,j,rfl,by
 rw[show(if j > i then j else i)=max i j by split <;> omega];exact h⟩
def aMP:List V->Hp->VK->Prop:=fun xs H Q=>∃i j,xs=[.int i,.int j]/\Q (.int (if j < i then j else i)) H
theorem xY(hc:X.calm=true):dZ X (.builtin "min") aMP:=aGY hc
theorem aLO{i j:Int}(h:Q (.int (min i j)) H):aMP [.int i,.int j] H Q:=⟨i,j,rfl,by
 rw[show(if j < i then j else i)=min i j by split <;> omega];exact h⟩
def aFx(K:W.Frag):List V->Hp->VK->Prop:=fun xs H Q=>∃x c b,xs=[x,c]/\IsI K H x c b/\Q (.bl b) H
theorem oW:dZ X (.builtin "isinstance") (aFx X.K):=aIt
theorem aAK{x c:V}{b:Bool}(h1:IsI K H x c b)(h:Q (.bl b) H):aFx K [x,c] H Q:=⟨x,c,b,rfl,h1,h⟩
def pN(K:W.Frag):List V->Hp->VK->Prop:=fun xs H Q=>∃p ys,xs=[.ref p]/\(bG K H p ys\/kL K H p ys)/\∀l,H l=none->Q (.ref l) (upd H l (.lst ys))
theorem mN:dZ X (.type "list") (pN X.K):=aC4
theorem rN{p:Addr}{ys:List V}(h1:bG K H p ys)(h:∀l,H l=none->Q (.ref l) (upd H l (.lst ys))):pN K [.ref p] H Q:=⟨p,ys,rfl,.inl h1,h⟩
end
theorem aJ6{K:W.Frag}{H:Hp}{p q:Addr}{xs:List V}(h1:bG K H p xs)(h2:bG K H q []):EqN K H 8 (.ref p) (.ref q) xs.isEmpty:=
 .inr ⟨p,q,xs,[],fun _=>true,rfl,rfl,.inl ⟨h1,h2⟩,fun j u v _ e=>by simp at e,by cases xs <;> simp⟩
theorem aIA{xs:List V}{n:Nat}(h:xs.length<=n):mK xs none (some (n:Int))=xs:=by
 unfold mK
 rw[HT.aAy,HT.aGj,Nat.min_eq_right h,List.drop_zero,Nat.sub_zero,List.take_length]
end L2
namespace L2
open PySem PySem.Spec PyProof.Rows
section
variable{σ:St}{H:Hp}{nx:St->Hp->Prop}{rt:VK}{g:TG}{tb:TS}{Q:VK}
theorem kH{lo:Int}{n:Nat}(Pv:Nat->St->Hp->Prop)(h0:Pv 0 σ H)
  (hs:∀i σ H,i < n->Pv i σ H->g (.int (lo+i)) σ H fun σ2 H2=>tb ⟨Pv (i+1),rt,nx,Pv (i+1)⟩ σ2 H2) (hd:∀σ H,Pv n σ H->nx σ H) :
  ∃W:Nat->Nat->St->Hp->Prop,(∃m,W 0 m σ H)/\∀i m σ H,W i m σ H->
   ((Itr lo n).stop i H/\nx σ H)\/((Itr lo n).go i H/\∃N:St->Hp->Prop,(∀σ' H',N σ' H'->∃m',m' < m/\W (i+1) m' σ' H')/\∀x H',(Itr lo n).yld i H x H'->g x σ H' fun σ2 H2=>tb ⟨N,rt,nx,N⟩ σ2 H2):=
 aGW (D:=⟨nx,rt,fun _ _=>False,fun _ _=>False⟩) Pv h0 hs hd
theorem tU{K:W.Frag}{a:Addr}{xs:List V}(Pv:Nat->St->Hp->Prop)(h0:Pv 0 σ H)(hl:∀i σ H,i<=xs.length->Pv i σ H->bG K H a xs)
  (hs:∀i x σ H,xs[i]?=some x->Pv i σ H->g x σ H fun σ2 H2=>tb ⟨Pv (i+1),rt,nx,Pv (i+1)⟩ σ2 H2) (hd:∀σ H,Pv xs.length σ H->nx σ H) :
  ∃W:Nat->Nat->St->Hp->Prop,(∃m,W 0 m σ H)/\∀i m σ H,W i m σ H->
   ((Itl K a).stop i H/\nx σ H)\/((Itl K a).go i H/\∃N:St->Hp->Prop,(∀σ' H',N σ' H'->∃m',m' < m/\W (i+1) m' σ' H')/\∀x H',(Itl K a).yld i H x H'->g x σ H' fun σ2 H2=>tb ⟨N,rt,nx,N⟩ σ2 H2):=
 aHV (D:=⟨nx,rt,fun _ _=>False,fun _ _=>False⟩) Pv h0 hl hs hd
theorem aFy{K:W.Frag}{a:Addr}{xs:List V}(Pv:Nat->St->Hp->Prop)(h0:Pv 0 σ H)(hl:∀i σ H,i<=xs.length->Pv i σ H->kL K H a xs)
  (hs:∀i x σ H,xs[i]?=some x->Pv i σ H->g x σ H fun σ2 H2=>tb ⟨Pv (i+1),rt,nx,Pv (i+1)⟩ σ2 H2) (hd:∀σ H,Pv xs.length σ H->nx σ H) :
  ∃W:Nat->Nat->St->Hp->Prop,(∃m,W 0 m σ H)/\∀i m σ H,W i m σ H->
   ((Itt K a).stop i H/\nx σ H)\/((Itt K a).go i H/\∃N:St->Hp->Prop,(∀σ' H',N σ' H'->∃m',m' < m/\W (i+1) m' σ' H')/\∀x H',(Itt K a).yld i H x H'->g x σ H' fun σ2 H2=>tb ⟨N,rt,nx,N⟩ σ2 H2):=
 aJy (D:=⟨nx,rt,fun _ _=>False,fun _ _=>False⟩) Pv h0 hl hs hd
theorem aLP{K:W.Frag}{i j:Int}(h:Q (.bl (decide (i=j))) H):rD K (.int i) (.int j) H Q:=⟨_,.inl ⟨rfl,rfl,rfl⟩,h⟩
theorem aIB{K:W.Frag}{i j:Int}(h:Q (.bl (!decide (i=j))) H):aAJ K (.int i) (.int j) H Q:=⟨_,.inl ⟨rfl,rfl,rfl⟩,h⟩
end
end L2
namespace L2
open PySem PySem.Spec PyProof.Rows
def noStar:Expr->Bool
 |.Starred _ _=>false
 |_=>true
theorem bL{e:Expr}{es:List Expr}{env:Env}(h:noStar e=true):starEach (e::es) env=(false,eval e env)::starEach es env:=by
 cases e <;> first|rfl|exact absurd h Bool.false_ne_true
theorem iF{env:Env}{pos:Pos}:∀{es:List Expr},es.all noStar=true->(backTo pos (starEach es env)).any (·.1)=false
 |[],_=>rfl
 |e::es,h=>by
  rw[List.all_cons,Bool.and_eq_true] at h
  rw[bL h.1]
  have ih:=iF (env:=env) (pos:=pos) h.2
  unfold backTo at ih ⊢
  rw[List.map_cons,List.any_cons]
  rw[ih]
  rfl
section
variable{X:Cx}{CX:CXT}{k:Nat}{f C:Addr}{fd:FuncData}{ps:List Str}{sp:Sp}{dvs:List V}{ds:List Value}{E:XK}{x m:Str}{p pos apos:Pos}{e o:Expr}{es:List Expr}{ta te:TE}{t:TA}
theorem aE(ha:PE X e te)(hr:PA X es t)(hs:noStar e=true:=by rfl):PA X (e::es) (bM te t):=aJC ha hr (bL hs)
theorem gJ{e:Expr}{es:List Expr}(h:(e::es).all noStar=true):noStar e=true/\es.all noStar=true:=by
 rw[List.all_cons,Bool.and_eq_true] at h
 exact h
theorem aF(F:bO X.prog X.w X.K X.mg X.base CX k f fd ps sp)(hr:dI k X.A)(hg:Gl X x)(hm:X.mg x=some (.ref f))(hk:W.keepIn X.K (.ref f)=true)(hb:Binds X.K fd ps ds)(hd:Vals dvs ds)(hx:Passes CX X E)
  (ha:PA X (e::es) t) (hn:(e::es).all noStar=true:=by rfl) (hdb:(x == ("__debug__" : Str))=false:=by decide):PE X (.Call (.Name x p) (e::es) [] pos) (aEe sp dvs E t):=
 aJD F hr hg hm hk hb hd hx ha hdb (bL (gJ hn).1) (iF (gJ hn).2)
theorem aAL(M:Mk X.K C f)(F:bO X.prog X.w X.K X.mg X.base CX k f fd ps sp)(hr:dI (k+1) X.A)(hg:Gl X x)(hm:X.mg x=some (.ref C))(hb:Binds X.K fd ps ds)(hd:Vals dvs ds)(hx:Passes CX X E)
  (ha:PA X (e::es) t) (hn:(e::es).all noStar=true:=by rfl) (hdb:(x == ("__debug__" : Str))=false:=by decide):PE X (.Call (.Name x p) (e::es) [] pos) (aEf C sp dvs E t):=
 aJE M F hr hg hm hb hd hx ha hdb (bL (gJ hn).1) (iF (gJ hn).2)
variable{id T:String}{r:List V->Hp->VK->Prop}
theorem aN(hc:dZ X (.builtin id) r)(hg:Gl X x)(hm:X.mg x=none)(hv:bootBuiltins x=some (.builtin id))(ha:PA X (e::es) t)(hn:(e::es).all noStar=true:=by rfl)(hne:x≠"__name__":=by decide)(hdb:(x == ("__debug__" : Str))=false:=by decide) :
  PE X (.Call (.Name x p) (e::es) [] pos) (tCB r t):=aH6 hc hg hm hv ha hne hdb (bL (gJ hn).1) (iF (gJ hn).2)
theorem eC(hc:dZ X (.type T) r)(hg:Gl X x)(hm:X.mg x=none)(hv:bootBuiltins x=some (.type T))(ha:PA X (e::es) t)(hn:(e::es).all noStar=true:=by rfl)(hne:x≠"__name__":=by decide)(hdb:(x == ("__debug__" : Str))=false:=by decide) :
  PE X (.Call (.Name x p) (e::es) [] pos) (tCB r t):=aG3 hc hg hm hv ha hne hdb (bL (gJ hn).1) (iF (gJ hn).2)
variable{tg a b:Expr}
theorem cZ(hg:Gl X "range")(hm:X.mg "range" = none)(ha:PA X [a] t)(hn:noStar a=true:=by rfl):PI X tg (.Call (.Name "range" p) [a] [] pos) (aGf t):=aGT hg hm ha (bL hn)
theorem uW(hg:Gl X "range")(hm:X.mg "range" = none)(ha:PA X [a,b] t)(hn:noStar a=true:=by rfl)(hn2:noStar b=true:=by rfl):PI X tg (.Call (.Name "range" p) [a,b] [] pos) (aGg t):=
 aGU hg hm ha (by rw[bL hn,bL hn2];rfl) (bL hn2)
end
end L2
namespace L2
open PySem PySem.Spec PyProof.Rows
section
variable{X:Cx}{pos:Pos}{x1:Nat}{e1 e2 e3 e4 e5 e6 e7 e8:Expr}{t1 t2 t3 t4 t5 t6 t7 t8:TE}
theorem aBF(h1:PE X e1 t1)(n1:noStar e1=true:=by rfl):PE X (.List [e1] pos) (xR (bM t1 pK)):=gG (aE h1 aC n1)
theorem aHd(h1:PE X e1 t1)(h2:PE X e2 t2)(n1:noStar e1=true:=by rfl)(n2:noStar e2=true:=by rfl):PE X (.List [e1,e2] pos) (xR (bM t1 (bM t2 pK))):=gG (aE h1 (aE h2 aC n2) n1)
theorem rE{k1}(h1:PE X e1 t1)(h2:PE X e2 t2)(n1:noStar e1=true:=by rfl)(n2:noStar e2=true:=by rfl):PE X (.Tuple [e1,e2] k1 pos) (aG1 (bM t1 (bM t2 pK))):=aH2 (aE h1 (aE h2 aC n2) n1)
theorem aJ7(h1:PE X e1 t1)(h2:PE X e2 t2)(h3:PE X e3 t3)(n1:noStar e1=true:=by rfl)(n2:noStar e2=true:=by rfl)(n3:noStar e3=true:=by rfl):PE X (.List [e1,e2,e3] pos) (xR (bM t1 (bM t2 (bM t3 pK)))):=gG (aE h1 (aE h2 (aE h3 aC n3) n2) n1)
theorem aFz{k1}(h1:PE X e1 t1)(h2:PE X e2 t2)(h3:PE X e3 t3)(n1:noStar e1=true:=by rfl)(n2:noStar e2=true:=by rfl)(n3:noStar e3=true:=by rfl):PE X (.Tuple [e1,e2,e3] k1 pos) (aG1 (bM t1 (bM t2 (bM t3 pK)))):=aH2 (aE h1 (aE h2 (aE h3 aC n3) n2) n1)
theorem aLQ(h1:PE X e1 t1)(h2:PE X e2 t2)(h3:PE X e3 t3)(h4:PE X e4 t4)(n1:noStar e1=true:=by rfl)(n2:noStar e2=true:=by rfl)(n3:noStar e3=true:=by rfl)(n4:noStar e4=true:=by rfl):PE X (.List [e1,e2,e3,e4] pos) (xR (bM t1 (bM t2 (bM t3 (bM t4 pK))))):=gG (aE h1 (aE h2 (aE h3 (aE h4 aC n4) n3) n2) n1)
theorem aLR(h1:PE X e1 t1)(h2:PE X e2 t2)(h3:PE X e3 t3)(h4:PE X e4 t4)(h5:PE X e5 t5)(h6:PE X e6 t6)(h7:PE X e7 t7)(n1:noStar e1=true:=by rfl)(n2:noStar e2=true:=by rfl)(n3:noStar e3=true:=by rfl)(n4:noStar e4=true:=by rfl)(n5:noStar e5=true:=by rfl)(n6:noStar e6=true:=by rfl)(n7:noStar e7=true:=by rfl):PE X (.List [e1,e2,e3,e4,e5,e6,e7] pos) (xR (bM t1 (bM t2 (bM t3 (bM t4 (bM t5 (bM t6 (bM t7 pK)))))))):=gG (aE h1 (aE h2 (aE h3 (aE h4 (aE h5 (aE h6 (aE h7 aC n7) n6) n5) n4) n3) n2) n1)
end
end L2
namespace L2
open PySem PySem.Spec PyProof.Rows
section
variable{X:Cx}{pins:List (Addr×Obj)}{σ:St}{H:Hp}{s:Shared}{h':Heap}
theorem Inv.aCw{t':Nat}{ch:List Addr}{T:Addr}{o:HO}(I:Inv X pins σ H s)(k:∀b u,b∉ch->s.heap.get? b=some u->h'.get? b=some u)
  (hch:∀b∈ch,xN X pins H b) (hT:s.heap.objs.size<=T) (new:bI X.prog X.w (upd H T o) h' T o):Inv X pins σ (upd H T o) { s with heap:=h',toks:=t' }:=by
 have hn:H T=none:=I.hok.fresh hT
 have nit:∀b u,H b=some u->b∉ch:=fun b u e z=>by rw[(hch b z).1] at e;cases e
 have neT:∀b u,H b=some u->b≠T:=fun b u e=>bC e hn
 refine I.step (g':=s.gens) (d':=s.drawn) (ch:=ch) (fun b hb=>?_) (fun b u _ _ hc e _=>k b u hc e) (fun b u _ _ hc e _=>⟨u.slots,k b u hc e⟩) (fun b u hc e n=>?_)
  (fun b u hc e=>⟨u,k b u hc e⟩) (fun b xs e=>?_) (fun b u v e=>?_) (fun b ps e=>⟨#[],?_⟩) (fun m hm=>?_) (fun b u e=>?_) I.bare
 ·obtain⟨f0,f1,f2,f3,f4,f5⟩:=hch b hb
  exact⟨f3,f1,f4,f5⟩
 ·rw[aJ (Nat.ne_of_lt (Nat.lt_of_lt_of_le (Heap.lt_size e) hT))];exact n
 ·rw[aJ (neT _ _ e)];exact e
 ·rw[aJ (neT _ _ e)];exact e
 ·rw[aJ (neT _ _ e),e];simp
 ·obtain⟨u,es,ep,ho,r⟩:=hm
  exact⟨u,es,ep,k _ u (fun z=>(hch _ z).2.1 rfl) ho,r⟩
 ·by_cases hb:b=T
  ·subst hb;rw[aH] at e;cases e;exact new
  ·rw[aJ hb] at e
   refine(I.hok b u e).zE (fun c v hc q=>k c v ?_ q) (fun c q=>by rw[aJ (bC q hn)];exact q) fun c xs _ q=>by rw[aJ (bC q hn)];exact q
   rcases hc with z|z
   ·rw[z];exact nit b u e
   ·exact nit c _ z
end
def Ite(K:W.Frag)(a:Addr):It:=
 ⟨fun i H=>∃xs x,bG K H a xs/\xs[i]?=some x,fun i H x H'=>∃T v,H T=none/\x=.ref T/\H'=upd H T (.tup [.int i,v])/\∀xs,bG K H a xs->xs[i]?=some v,fun i H=>∃xs,bG K H a xs/\xs.length<=i⟩
theorem aHe{P:Program}{w:World}{K:W.Frag}{elts:List Expr}{x1:Nat}{tp:Pos}(a e it:Addr)(hei:e≠it) :
  Turn P w K (.Tuple elts x1 tp) (Ite K a) [e,it] e (fun i h=>(∃old,IsEnum h e it ((i:Nat):Int) old)/\h.IsListIter it a i) where
 mem:=by simp
 obj:=fun i h st b hb=>by
  obtain⟨⟨old,he⟩,st⟩:=st
  rcases List.mem_cons.mp hb with z|hb
  ·subst z
   exact⟨_,he,fun v z=>by cases z⟩
  ·have z:b=it:=by simpa using hb
   subst z
   obtain⟨o,e,c,d⟩:=st
   exact⟨o,e,fun v z=>by rw[d] at z;cases z⟩
 keep:=fun i h h' st k=>by
  obtain⟨⟨old,he⟩,st⟩:=st
  exact⟨⟨old,k e (by simp) _ he⟩,st.at fun o q=>k it (by simp) o q⟩
 item:=by
  intro X hP hw hK hc i pins s σ H E I hf st hg
  subst hP hw hK
  obtain⟨⟨old,he⟩,st⟩:=st
  obtain⟨xs,x,hq,hx⟩:=hg
  obtain⟨its,rv,p,hz⟩:=I.list hq
  obtain⟨u,hu,ru⟩:=rv.get hx
  have helt:e < s.heap.objs.size:=Heap.lt_size he
  have hilt:it < s.heap.objs.size:=by obtain⟨_,z,_⟩:=id st;exact Heap.lt_size z
  refine wpAny_pyNext_enum_item he st p.isList (x:=u) (by simpa using hu) hei fun h1 ho hit1 hT hsz hk=>?_
  refine⟨_,rfl,wpAny_letOwnedTupleGo_enum ho fun h2 he2 hs2=>?_⟩
  replace hs2:Heap.SameBut e h1 h2:=hs2
  have hT2:h2.IsTuple s.heap.objs.size #[.int i s.toks,u]:=⟨_,(hs2.2 _ (Nat.ne_of_gt helt)).trans hT,rfl,_,rfl⟩
  have kk:∀b o,b∉[e,it]->s.heap.get? b=some o->h2.get? b=some o:=fun b o hb q=>by
   have n1:b≠e:=fun z=>hb (by simp[z])
   have n2:b≠it:=fun z=>hb (by simp[z])
   exact(hs2.2 b n1).trans (hk b o n1 n2 q)
  have I2:Inv X pins σ (upd H s.heap.objs.size (.tup [.int i,x])) { s with heap:=h2,toks:=s.toks+1 }:=
   I.aCw kk hf (Nat.le_refl _) (show bI X.prog X.w _ h2 _ (.tup [.int i,x]) from⟨bX (by simp),[.int i s.toks,u],.cons ⟨_,rfl⟩ (.cons ru .nil),hT2⟩)
  have hfr:H s.heap.objs.size=none:=I.hok.fresh (Nat.le_refl _)
  refine⟨.ref s.heap.objs.size,_,I2,rfl,⟨_,x,hfr,rfl,rfl,fun ys hy=>by rw[I.aAr hy hq];exact hx⟩,⟨⟨u,?_⟩,?_⟩,fun b hb=>?_⟩
  ·have e1:((i+1:Nat):Int)=(i:Int)+1:=by push_cast;rfl
   rw[e1]
   exact he2
  ·exact hit1.at fun o q=>(hs2.2 it hei.symm).trans q
  ·have hlt:b < s.heap.objs.size:=by
    rcases List.mem_cons.mp hb with z|hb
    ·rw[z];exact helt
    ·rw[show b=it by simpa using hb];exact hilt
   rw[aJ (Nat.ne_of_lt hlt)]
   exact(hf b hb).1
 done:=by
  intro X hP hw hK hc i pins s σ H E I hf st hg
  subst hP hw hK
  obtain⟨⟨old,he⟩,st⟩:=st
  obtain⟨xs,hq,hx⟩:=hg
  obtain⟨its,rv,p,hz⟩:=I.list hq
  obtain⟨f0,f1,f2,f3,f4,f5⟩:=hf it (by simp)
  have hl:=rv.length
  exact wpAny_pyNext_enum_end (I.ok.hd hc) he st p.isList (by simp;omega) fun h' eb=>⟨rfl,I.turned (t':=s.toks) (fun b o hb e=>eb b o hb e) f0 f1 f3 f4 f5⟩
 self:=fun _ _ _ _ _ st h=>by
  obtain⟨⟨old,he⟩,st⟩:=st
  exact wpAny_pyIter_enum he h
section
variable{X:Cx}{elts:List Expr}{x1:Nat}{tp:Pos}
def aIC(K:W.Frag)(ta:TA):TI:=fun σ H R=>ta σ H fun vs H1=>∃a,vs=[.ref a]/\(∃xs,bG K H1 a xs)/\R (Ite K a) H1
theorem aJ8{a:Expr}{ta:TA}{p pos:Pos}(hg:Gl X "enumerate")(hm:X.mg "enumerate" = none)(ha:PA X [a] ta)(hn:noStar a=true:=by rfl):PI X (.Tuple elts x1 tp) (.Call (.Name "enumerate" p) [a] [] pos) (aIC X.K ta):=by
 intro pins s σ H R I h
 refine Call_ (pF I hg hm boot_enumerate (PyProof.Rows.callWith_type1 (cN (ha pos pins s σ H _ I h) fun us s1 ⟨vs,H1,I1,r1,q1⟩=>?_) (bL hn) rfl))
 obtain⟨l,e,⟨xs,hq⟩,q⟩:=q1
 subst e
 obtain⟨u,rfl,ru⟩:=vals1 r1
 cases ru
 obtain⟨its,rv,pl,hz⟩:=I1.list hq
 refine call_enumerate_list pl.isList fun h' he hit hsz hk=>?_
 refine wpAny_pyIter_enum he ?_
 refine⟨s1.heap.objs.size+1,[s1.heap.objs.size+1,s1.heap.objs.size],_,_,H1,rfl,I1.kept (t':=s1.toks) hk,aHe l _ _ (Nat.succ_ne_self _),⟨⟨_,he⟩,hit⟩,fun b hb=>?_,q⟩
 have hle:s1.heap.objs.size<=b:=by
  rcases List.mem_cons.mp hb with z|hb
  ·rw[z];exact Nat.le_succ _
  ·rw[show b=s1.heap.objs.size by simpa using hb];exact Nat.le_refl _
 exact I1.aEa hle (I1.hok.fresh hle)
end
section
variable{σ:St}{H:Hp}{nx:St->Hp->Prop}{rt:VK}{g:TG}{tb:TS}{Q:VK}{K:W.Frag}
def EnQ(K:W.Frag)(R:It->Hp->Prop):List V->Hp->Prop:=fun vs H1=>∃a,vs=[.ref a]/\(∃xs,bG K H1 a xs)/\R (Ite K a) H1
def LiQ(K:W.Frag)(R:It->Hp->Prop):V->Hp->Prop:=fun x H1=>∃a,x=.ref a/\(∃xs,bG K H1 a xs)/\R (Itl K a) H1
def TiQ(K:W.Frag)(R:It->Hp->Prop):V->Hp->Prop:=fun x H1=>∃a,x=.ref a/\(∃xs,kL K H1 a xs)/\R (Itt K a) H1
theorem aID{ta:TA}{R:It->Hp->Prop}(h:ta σ H (EnQ K R)):aIC K ta σ H R:=h
theorem aHf{tl:TE}{R:It->Hp->Prop}(h:tl σ H (LiQ K R)):aHU K tl σ H R:=h
theorem aIE{tl:TE}{R:It->Hp->Prop}(h:tl σ H (TiQ K R)):aKX K tl σ H R:=h
theorem aIF{a:Addr}{xs:List V}{R:It->Hp->Prop}(h1:bG K H a xs)(h:R (Ite K a) H):EnQ K R [.ref a] H:=⟨a,rfl,⟨xs,h1⟩,h⟩
theorem fH{a:Addr}{xs:List V}{R:It->Hp->Prop}(h1:bG K H a xs)(h:R (Itl K a) H):LiQ K R (.ref a) H:=⟨a,rfl,⟨xs,h1⟩,h⟩
theorem aGp{a:Addr}{xs:List V}{R:It->Hp->Prop}(h1:kL K H a xs)(h:R (Itt K a) H):TiQ K R (.ref a) H:=⟨a,rfl,⟨xs,h1⟩,h⟩
theorem aC8{a:Addr}{xs:List V}(Pv:Nat->St->Hp->Prop)(h0:Pv 0 σ H)(hl:∀i σ H,i<=xs.length->Pv i σ H->bG K H a xs)
  (hs:∀i x σ H T,xs[i]?=some x->Pv i σ H->H T=none->g (.ref T) σ (upd H T (.tup [.int i,x])) fun σ2 H2=>tb ⟨Pv (i+1),rt,nx,Pv (i+1)⟩ σ2 H2) (hd:∀σ H,Pv xs.length σ H->nx σ H) :
  ∃W:Nat->Nat->St->Hp->Prop,(∃m,W 0 m σ H)/\∀i m σ H,W i m σ H->
   ((Ite K a).stop i H/\nx σ H)\/((Ite K a).go i H/\∃N:St->Hp->Prop,(∀σ' H',N σ' H'->∃m',m' < m/\W (i+1) m' σ' H')/\∀x H',(Ite K a).yld i H x H'->g x σ H' fun σ2 H2=>tb ⟨N,rt,nx,N⟩ σ2 H2):=by
 refine⟨fun i m σ H=>m=xs.length - i/\i<=xs.length/\Pv i σ H,⟨xs.length,by simp,Nat.zero_le _,h0⟩,?_⟩
 rintro i m σ H ⟨rfl,hi,p⟩
 have q:=hl i σ H hi p
 by_cases hlt:i < xs.length
 ·refine .inr ⟨⟨xs,xs[i],q,by simp[hlt]⟩,Pv (i+1),fun σ' H' p'=>⟨xs.length - (i+1),by omega,rfl,hlt,p'⟩,fun x H' y=>?_⟩
  obtain⟨T,v,hT,e1,e2,y⟩:=y
  subst e1 e2
  exact hs i v σ H T (y xs q) p hT
 ·have e:i=xs.length:=by omega
  subst e
  exact .inl ⟨⟨xs,q,Nat.le_refl _⟩,hd σ H p⟩
end
section
variable{X:Cx}
theorem uX:∀{bs:List Bool}{us:List Value},Vals (bs.map V.bl) us->us=bs.map Value.bool
 |[],_,.nil=>rfl
 |b::bs,_,.cons r t=>by cases r;rw[uX t];rfl
def aFA(K:W.Frag):List V->Hp->VK->Prop:=fun xs H Q=>∃(p:Addr) (bs:List Bool),xs=[.ref p]/\bG K H p (bs.map V.bl)/\Q (.bl (bs.all id)) H
theorem oX(hc:X.calm=true):dZ X (.builtin "all") (aFA X.K):=by
 intro pins s σ H xs us Q I r h
 obtain⟨p,bs,rfl,hq,q⟩:=h
 obtain⟨u,rfl,rx⟩:=vals1 r
 cases rx
 obtain⟨its,r',pl,hz⟩:=I.list hq
 have e:=uX r'
 subst e
 have hl:=pl.isList
 have hlt:p < s.heap.objs.size:=by obtain⟨_,e,_⟩:=id hl;exact Heap.lt_size e
 refine call_all_walk (wpAny_pyIter_list hl ?_)
 refine⟨s.heap.objs.size,[s.heap.objs.size,p],[s.heap.objs.size],(bs.map Value.bool).toArray.size,_,_,fun i=>(bs[i]?).getD true,rfl,Walks.list (A:=X.A.in1) (I.ok.hd hc) _ p (Nat.ne_of_lt hlt) (bs.map Value.bool).toArray,
  ⟨⟨_,Heap.get?_push_size _ rfl,rfl,rfl⟩,hl.push _⟩,fun i v s' Q' E' hP hQ=>?_,fun h' tk hk=>?_⟩
 ·have hP':(bs.map Value.bool)[i]?=some v:=by simpa using hP
  rw[List.getElem?_map] at hP'
  cases hb:bs[i]? with
  |none=>rw[hb] at hP';cases hP'
  |some b=>
   rw[hb] at hP'
   cases hP'
   simp only[hb,Option.getD_some] at hQ
   exact wpAny_truthy_bool hQ
 ·have e:((List.range (bs.map Value.bool).toArray.size).all fun i=>(bs[i]?).getD true)=bs.all id:=by
   rw[List.size_toArray,List.length_map];exact LSm.range_all bs
  rw[e]
  exact⟨.bl _,H,I.kept (t':=tk) (LSm.kept_iter hk),rfl,q⟩
end
section
variable{X:Cx}{e st:Expr}{te:TE}{ts:TO}{pos p2:Pos}
def aIG(K:W.Frag)(te:TE)(ts:TO):TE:=fun σ H Q=>te σ H fun x H1=>ts σ H1 fun k H2=>k=some (-1)/\∃a xs,x=.ref a/\bG K H2 a xs/\∀p,H2 p=none->Q (.ref p) (upd H2 p (.lst xs.reverse))
theorem aLS(he:PE X e te)(hs:PO X (some st) ts):PE X (.Subscript e (.Slice none none (some st) p2) pos) (aIG X.K te ts):=by
 intro pins s σ H Q I h
 refine Subscript_ (cN (he pins s σ H _ I h) fun v s1 ⟨x,H1,I1,r1,q1⟩=>?_)
 refine wpAny_Slice ?_
 rw[evalPart_none]
 refine wpAny_pure (wpAny_pure (cN (hs pins s1 σ H1 _ I1 q1) fun vk s2 ⟨k,H2,I2,pk,q2⟩=>?_))
 obtain⟨ek,a,xs,ex,hx,q⟩:=q2
 subst ek ex
 cases r1
 have I3:Inv X pins σ H2 { s2 with heap:=s2.heap.push { cls:=.type "slice",data:=.fields #[.none,.none,vk] } }:=I2.kept (t':=s2.toks) fun b ob q=>Heap.get?_push_of_some _ q
 obtain⟨its,r,ht,hz⟩:=I3.list hx
 have hlen:=r.length
 show wpAny (model X.prog X.w) X.A (subscriptTail e (.Slice none none (some st) p2) (.ref a) (.ref s2.heap.objs.size)) (EP X pins σ Q) X.xe { s2 with heap:=s2.heap.push { cls:=.type "slice",data:=.fields #[.none,.none,vk] } }
 refine tail_any (ops:=[.ref a,.ref s2.heap.objs.size]) (ht.isList.typeIs) slot_list_getitem.lookup ?_ (by with_unfolding_all rfl)
 refine wpAny_getItem_list_slice ht.isList (Heap.IsSliceOf.new ..) .none .none pk (by decide) ?_ (by rw[List.size_toArray] <;> omega)
 rw[PySem.W.krv_pick]
 have hf:H2 (s2.heap.push { cls:=.type "slice",data:=.fields #[.none,.none,vk] }).objs.size=none:=I3.hok.fresh (Nat.le_refl _)
 refine⟨.ref (s2.heap.push { cls:=.type "slice",data:=.fields #[.none,.none,vk] }).objs.size,_,I3.laid (t':=s2.toks) (o:=.lst xs.reverse) (fun b ob q=>Heap.get?_push_of_some _ q) (Nat.le_refl _) ?_,rfl,q _ hf⟩
 exact⟨by rw[List.length_reverse];exact hz,its.reverse,0,r.reverse,Heap.get?_push_size _ rfl⟩
theorem aLT{K:W.Frag}{σ:St}{H:Hp}{Q:VK}(h:te σ H fun x H1=>ts σ H1 fun k H2=>k=some (-1)/\∃a xs,x=.ref a/\bG K H2 a xs/\∀p,H2 p=none->Q (.ref p) (upd H2 p (.lst xs.reverse))):aIG K te ts σ H Q:=h
end
section
variable{X:Cx}{o e:Expr}{to:TE}{t:TA}{apos cpos:Pos}
theorem aLU(ho:PE X o to)(ha:PA X [e] t)(hn:noStar e=true:=by rfl)(hbase:attributeBase o "append" X.env (eval o X.env)=eval o X.env:=by rfl)(hline:(apos.endLine == cpos.line)=true:=by rfl) :
  PE X (.Call (.Attribute o "append" apos) [e] [] cpos) (tBM X.K "list" aAb to t):=
 aKA PySem.F.plainAttrs_list PySem.F.slot_list_append PySem.F.type_list_append aG4 ho ha hbase (by rw[bL hn];rfl) hline (bL hn) (by rfl)
end
section
variable{K:W.Frag}{σ:St}{H:Hp}{Q:VK}
theorem aMQ{T:String}{r:V->List V->Hp->VK->Prop}{to:TE}{t:TA}(h:to σ H fun x H1=>tyV K T x H1/\t σ H1 fun xs H2=>r x xs H2 Q):tBM K T r to t σ H Q:=h
theorem oK{p:Addr}{xs:List V}{P:Prop}(h:bG K H p xs)(q:P):tyV K "list" (.ref p) H/\P:=⟨.inl ⟨rfl,xs,h⟩,q⟩
theorem rO{l:Addr}{xs:List V}{y:V}(h:H l=some (.lst xs))(hz:xs.length < sizeLine)(q:Q .non (upd H l (.lst (xs ++ [y])))):aAb (.ref l) [y] H Q:=⟨l,xs,y,rfl,rfl,h,hz,q⟩
theorem aLV:∀(xs ys:List Int),(xs.length == ys.length && (List.range xs.length).all fun j=>decide (xs[j]?=ys[j]?))=decide (xs=ys):=by
 intro xs ys
 rw[Bool.eq_iff_iff]
 simp only[Bool.and_eq_true,beq_iff_eq,List.all_eq_true,List.mem_range,decide_eq_true_eq]
 constructor
 ·rintro ⟨hl,h⟩
  apply List.ext_getElem?
  intro i
  by_cases hi:i < xs.length
  ·exact h i hi
  ·rw[List.getElem?_eq_none (by omega),List.getElem?_eq_none (by omega)]
 ·rintro rfl
  exact⟨rfl,fun _ _=>rfl⟩
theorem aIH{n:Nat}{p q:Addr}{xs ys:List Int}(h:(bG K H p (xs.map V.int)/\bG K H q (ys.map V.int))\/(kL K H p (xs.map V.int)/\kL K H q (ys.map V.int))):EqN K H (n+1) (.ref p) (.ref q) (decide (xs=ys)):=by
 refine .inr ⟨p,q,xs.map V.int,ys.map V.int,fun j=>decide (xs[j]?=ys[j]?),rfl,rfl,h,fun j u v hu hv=>?_,?_⟩
 ·rw[List.getElem?_map] at hu hv
  cases hx:xs[j]? with
  |none=>rw[hx] at hu;cases hu
  |some a=>
   cases hy:ys[j]? with
   |none=>rw[hy] at hv;cases hv
   |some b=>
    rw[hx] at hu
    rw[hy] at hv
    cases hu
    cases hv
    have z:mL (.int a)=true/\mL (.int b)=true/\(fun j=>decide (xs[j]?=ys[j]?)) j=eqV (.int a) (.int b):=by
     refine⟨rfl,rfl,?_⟩
     show decide (xs[j]?=ys[j]?)=decide (a=b)
     rw[hx,hy]
     simp
    cases n with
    |zero=>exact z
    |succ n=>exact .inl z
 ·rw[List.length_map,List.length_map]
  exact(aLV xs ys).symm
theorem aJ9{p q:Addr}{xs ys:List Int}(h1:bG K H p (xs.map V.int))(h2:bG K H q (ys.map V.int))(h:Q (.bl (!decide (xs=ys))) H):aAJ K (.ref p) (.ref q) H Q:=⟨_,aIH (.inl ⟨h1,h2⟩),h⟩
end
end L2
namespace L2
open PySem PySem.Spec PyProof.Rows
section
variable{K:W.Frag}{σ:St}{H:Hp}{Q:VK}{nx bk ct:St->Hp->Prop}{rt:VK}
theorem aMR{A B:Prop}(h:B):if (!true)=true then A else B:=aJJ h
theorem aMS{A B:Prop}(h:A):if (!false)=true then A else B:=aJK h
theorem aMT{A B:Prop}{b:Bool}(e:b=false)(h:B):if b=true then A else B:=by rw[e];exact aJJ h
theorem aMU{A B:Prop}{b:Bool}(e:b=true)(h:A):if b=true then A else B:=by rw[e];exact aJK h
theorem aKa{C:Addr}{sp:Sp}{E:XK}{t:TA}(h:t σ H fun vs H1=>∀x dx,H1 x=none->H1 dx=none->dx≠x->sp (.ref x::vs) (upd (upd H1 dx (.own x)) x (.ins C dx [])) (fun v H2=>v=.non/\Q (.ref x) H2) E):aEf C sp [] E t σ H Q:=by
 unfold aEf
 simpa only [List.append_nil] using h
theorem aKb{C:Addr}{m:Str}{sp:Sp}{E:XK}{ta:TE}{t:TA}(h:ta σ H fun x H1=>∃a dx fs,x=.ref a/\H1 a=some (.ins C dx fs)/\fs.lookup m=none/\t σ H1 fun vs H2=>sp (x::vs) H2 Q E):aGi C m sp [] E ta t σ H Q:=by
 unfold aGi
 simpa only [List.append_nil] using h
theorem aKc{ta tv:TE}{f:Str}(h:tv σ H fun y H1=>ta σ H1 fun x H2=>∃a C dx fs,x=.ref a/\H2 a=some (.ins C dx fs)/\Cls K C/\eB K C f/\fs.length < 1000/\nx σ (upd H2 a (.ins C dx (pJ f y fs)))):aK4 K ta tv f ⟨nx,rt,bk,ct⟩ σ H:=h
theorem uY{a C dx:Addr}{fs fs':List (Str×V)}{f:Str}{y:V}{P:Hp->Prop}(h1:H a=some (.ins C dx fs))(c:Cls K C)(n:eB K C f)(hl:fs.length < 1000)(e:pJ f y fs=fs')(h:P (upd H a (.ins C dx fs'))) :
  ∃a' C dx fs,V.ref a=V.ref a'/\H a'=some (.ins C dx fs)/\Cls K C/\eB K C f/\fs.length < 1000/\P (upd H a' (.ins C dx (pJ f y fs))):=⟨a,C,dx,fs,rfl,h1,c,n,hl,by rw[e];exact h⟩
theorem uZ{a C dx:Addr}{fs:List (Str×V)}{f:Str}{v:V}{P:V->Prop}(h1:H a=some (.ins C dx fs))(c:Cls K C)(n:eB K C f)(l:fs.lookup f=some v)(h:P v) :
  ∃a' C dx fs v,V.ref a=V.ref a'/\H a'=some (.ins C dx fs)/\Cls K C/\eB K C f/\fs.lookup f=some v/\P v:=⟨a,C,dx,fs,v,rfl,h1,c,n,l,h⟩
theorem aEs:∀{xs:List V},(∀x∈xs,x=.bl true)->xs=(List.replicate xs.length true).map V.bl
 |[],_=>rfl
 |x::xs,h=>by
  rw[List.length_cons,List.replicate_succ,List.map_cons,<-aEs (fun y hy=>h y (List.mem_cons_of_mem _ hy)),h x (List.mem_cons_self ..)]
theorem aGq{p:Addr}{xs:List V}(h1:bG K H p xs)(h2:∀x∈xs,x=.bl true)(h:Q (.bl true) H):aFA K [.ref p] H Q:=by
 refine⟨p,List.replicate xs.length true,rfl,?_,?_⟩
 ·rw[<-aEs h2];exact h1
 ·rw[show(List.replicate xs.length true).all id=true by simp];exact h
end
end L2
namespace L2
open PySem PySem.Spec PyProof.Rows
section
variable{X:Cx}{pins:List (Addr×Obj)}{σ:St}{H:Hp}{s:Shared}{A:Around}{E:Value->Shared->Prop}{Q:Value->Shared->Prop}{b:Bool}
end
section
variable{X:Cx}{K:W.Frag}{H:Hp}{Q:VK}
def isB:V->V->Option Bool
 |.non,.non=>some true
 |.bl a,.bl b=>some (a == b)
 |.bl _,.non=>some false
 |.int _,.non=>some false
 |.str _,.non=>some false
 |.ref _,.non=>some false
 |_,_=>none
def aII:R2:=fun x y H Q=>∃b,isB x y=some b/\Q (.bl (!b)) H
theorem xZ:rC X (compareOp .IsNot) aII:=by
 intro pins s σ H x y v u Q I rx ry h
 obtain⟨b,e,q⟩:=h
 have fin:EP X pins σ Q (.bool (!b)) s:=⟨.bl (!b),H,I,rfl,q⟩
 cases x with
 |non=>cases y with
  |non=>cases e;cases rx;cases ry;exact isnot_none_gen fin
  |_=>cases e
 |bl a=>cases y with
  |bl c=>cases e;cases rx;cases ry;exact isnot_bool fin
  |non=>cases e;cases rx;cases ry;exact isnot_none_gen fin
  |_=>cases e
 |int i=>cases y with
  |non=>cases e;obtain⟨t,rfl⟩:=rx;cases ry;exact isnot_none_gen fin
  |_=>cases e
 |str i=>cases y with
  |non=>cases e;obtain⟨t,rfl⟩:=rx;cases ry;exact isnot_none_gen fin
  |_=>cases e
 |ref i=>cases y with
  |non=>cases e;cases rx;cases ry;exact isnot_none_gen fin
  |_=>cases e
 |_=>cases y <;> cases e
theorem aIJ{x y:V}{b:Bool}(e:isB x y=some b)(h:Q (.bl (!b)) H):aII x y H Q:=⟨b,e,h⟩
end
end L2
namespace L2
open PySem PySem.Spec PyProof.Rows
section
variable{X:Cx}
def aLW(K:W.Frag):List V->Hp->VK->Prop:=fun xs H Q=>∃(p:Addr) (ns:List Int),xs=[.ref p]/\bG K H p (ns.map V.int)/\Q (.int (List.sum ns)) H
theorem aHg(hc:X.calm=true):dZ X (.builtin "sum") (aLW X.K):=by
 intro pins s σ H xs us Q I r h
 obtain⟨p,ns,rfl,hq,q⟩:=h
 obtain⟨u,rfl,rx⟩:=vals1 r
 cases rx
 obtain⟨its,r',pl,hz⟩:=I.list hq
 have hi:=intsAre_of r'
 obtain⟨xs,hx⟩:=hi.allInts.items
 have hl':s.heap.IsList p (intItems xs):=hx▸pl.isList
 refine sum_intListG (I.ok.hd hc) hl' fun h' tk t' hk=>?_
 have e1:ns=xs.toList.map (·.1):=by
  rw[<-nums_intItems,<-hx]
  exact(show numsOf its.toArray.toList=ns from hi.numsOf).symm
 have e2:preSum (numAt xs) xs.size=ns.sum:=by
  rw[preSum_eq,List.take_of_length_le (by simp),e1]
 rw[e2]
 exact⟨.int _,H,I.kept (t':=tk) hk,⟨t',rfl⟩,q⟩
theorem aLX{K:W.Frag}{H:Hp}{Q:VK}{p:Addr}{ns:List Int}(h1:bG K H p (ns.map V.int))(h:Q (.int (List.sum ns)) H):aLW K [.ref p] H Q:=⟨p,ns,rfl,h1,h⟩
end
end L2
namespace L2
open PySem PySem.Spec PyProof.Rows
section
variable{prog:Program}{w:World}{A:Around}{E:Value->Shared->Prop}
end
section
variable{X:Cx}{pos:Pos}
end
end L2
namespace L2
open PySem PySem.Spec PyProof.Rows
section
variable{X:Cx}
end
section
variable{X:Cx}{pins:List (Addr×Obj)}{σ:St}{H:Hp}{s:Shared}{h':Heap}
end
section
variable{X:Cx}{elts:List Expr}{x1:Nat}{tp:Pos}
end
section
variable{σ:St}{H:Hp}{nx:St->Hp->Prop}{rt:VK}{g:TG}{tb:TS}{Q:VK}{K:W.Frag}
end
end L2
namespace L2
open PySem PySem.Spec PyProof.Rows
section
variable{X:Cx}{e:Expr}{te:TE}
end
end L2
namespace L2.Z
open PySem PySem.Spec PyProof.Rows L2
structure QE(X:Cx)(e:Expr)(t:TE):Prop where
 h:PE X e t
structure QT(X:Cx)(e:Expr)(t:TT):Prop where
 h:PT X e t
structure QW(X:Cx)(e:Expr)(t:TT):Prop where
 h:PW X e t
structure QA(X:Cx)(es:List Expr)(t:TA):Prop where
 h:PA X es t
structure QS(X:Cx)(st:Stmt)(t:TS):Prop where
 h:PS X st t
structure QSs(X:Cx)(st:List Stmt)(t:TS):Prop where
 h:PSs X st t
structure QG(X:Cx)(tg:Expr)(g:TG):Prop where
 h:PG X tg g
structure QGs(X:Cx)(tg:List Expr)(g:TGs):Prop where
 h:PGs X tg g
structure QI(X:Cx)(tg it:Expr)(w:TI):Prop where
 h:PI X tg it w
structure QTs(X:Cx)(ifs:List Expr)(t:TT):Prop where
 h:PTs X ifs t
structure QO(X:Cx)(o:Option Expr)(t:TO):Prop where
 h:PO X o t
section
variable{X:Cx}{CX:CXT}{k:Nat}{f C:Addr}{fd:FuncData}{ps:List Str}{sp:Sp}{dvs:List V}{ds:List Value}{E:XK}{x m:Str}{p pos apos p2 spos:Pos}{a b c e o:Expr}{es rest:List Expr}{ta tb tc te to ti:TE}{t:TA}{tA tB tt:TT}{id T:String}{r r':R2}{rc:List V->Hp->VK->Prop}{st:Stmt}{sts sts2:List Stmt}{ts us:TS}{g:TG}{gs:TGs}{wi:TI}{tg iter:Expr}
theorem aAM{e:Expr}{t:TT}(q:QW X e t):QT X e t:=⟨q.h.pt⟩
theorem pv(i:Nat)(hN:X.N[i]?=some x:=by rfl)(hv:Vis X.env.scope x:=by first|exact Or.inl rfl|exact Or.inr (Or.inl rfl)|exact Or.inr (Or.inr rfl))(hd:(x == ("__debug__" : Str))=false:=by decide)
  (hcd:(x == ("__classdict__" : Str))=false:=by decide):QE X (.Name x pos) (aKN i):=⟨aHL hN hv hd hcd⟩
theorem aA{i j}:QE X (.Constant (.int i) j pos) (tC (.int i)):=⟨L2.aA⟩
theorem mJ{b j}:QE X (.Constant (.bool b) j pos) (tC (.bl b)):=⟨L2.mJ⟩
theorem xK{j}:QE X (.Constant .none j pos) (tC .non):=⟨L2.xK⟩
theorem aAe{n:Int}(hg:Gl X x)(hm:∃t,X.mg x=some (.int n t))(hd:(x == ("__debug__" : Str))=false:=by decide):QE X (.Name x pos) (tC (.int n)):=⟨L2.aAe hg hm hd⟩
theorem pG{v:V}{u:Value}(hg:Gl X x)(hm:X.mg x=none)(hv:bootBuiltins x=some u)(r:RelV v u)(hn:x≠"__name__":=by decide)(hd:(x == ("__debug__" : Str))=false:=by decide):QE X (.Name x pos) (tC v):=⟨L2.pG hg hm hv r hn hd⟩
theorem aT{op:Operator}(ho:rC X (binaryOp op) r)(ha:QE X a ta)(hb:QE X b tb):QE X (.BinOp a op b pos) (tOp r ta tb):=⟨L2.aT ho ha.h hb.h⟩
theorem yO{op:UnaryOp}{ru:V->Hp->VK->Prop}(ho:UnR X (unaryOp op) ru)(ha:QE X a ta):QE X (.UnaryOp op a pos) (tUn ru ta):=⟨L2.yO ho ha.h⟩
theorem aCT(ha:QE X a ta):QE X (.UnaryOp .Not a pos) (aHN ta):=⟨L2.aCT ha.h⟩
theorem pH{op}(h:QE X a ta):QE X (.BoolOp op [a] pos) ta:=⟨L2.pH h.h⟩
theorem rF(ha:QE X a ta)(hb:QE X (.BoolOp .And (b::rest) pos) tb):QE X (.BoolOp .And (a::b::rest) pos) (aHM ta tb):=⟨L2.rF ha.h hb.h⟩
theorem aGd(ha:QE X a ta)(hb:QE X (.BoolOp .Or (b::rest) pos) tb):QE X (.BoolOp .Or (a::b::rest) pos) (aKQ ta tb):=⟨L2.aGd ha.h hb.h⟩
theorem jL{op:CmpOp}(ho:rC X (compareOp op) r)(ha:QE X a ta)(hb:QE X b tb)(hm:behindInMarks op b=false):QE X (.Compare a [op] [b] pos) (tOp r ta tb):=⟨L2.jL ho ha.h hb.h hm⟩
theorem bH{op:CmpOp}(ho:rC X (compareOp op) r)(ha:QE X a ta)(hb:QE X b tb)(hm:behindInMarks op b=false):QT X (.Compare a [op] [b] pos) (aHX (tOp r ta tb)):=⟨L2.bH ho ha.h hb.h hm⟩
theorem vS{op op':CmpOp}(ho:rC X (compareOp op) r)(ho':rC X (compareOp op') r')(ha:QE X a ta)(hb:QE X b tb)(hc:QE X c tc)(hm:lastMarks [op,op'] [b,c]=false:=by with_unfolding_all rfl):QE X (.Compare a [op,op'] [b,c] pos) (aFh r r' ta tb tc):=⟨L2.vS ho ho' ha.h hb.h hc.h hm⟩
theorem i0(h:QE X e te)(he:∀whole,isTrue e X.env whole=(do let v <-whole;standAt e.pos;holding [v] (truthy v)):=by intro _;rfl):QT X e (L2.tB te):=⟨L2.i0 h.h he⟩
theorem oJ(ha:QT X a tA):QT X (.UnaryOp .Not a pos) (aKP tA):=⟨L2.oJ ha.h⟩
theorem vQ(ha:QT X a tA):QW X (.BoolOp .And [a] pos) tA:=⟨L2.vQ ha.h⟩
theorem xM(ha:QT X a tA):QW X (.BoolOp .Or [a] pos) tA:=⟨L2.xM ha.h⟩
theorem aAq(ha:QT X a tA)(hb:QW X (.BoolOp .And (b::rest) pos) tB):QW X (.BoolOp .And (a::b::rest) pos) (aKO tA tB):=⟨L2.aAq ha.h hb.h⟩
theorem aCl(ha:QT X a tA)(hb:QW X (.BoolOp .Or (b::rest) pos) tB):QW X (.BoolOp .Or (a::b::rest) pos) (tOr tA tB):=⟨L2.aCl ha.h hb.h⟩
theorem aC:QA X [] pK:=⟨L2.aC⟩
theorem aE(ha:QE X e te)(hr:QA X es t)(hs:noStar e=true:=by rfl):QA X (e::es) (bM te t):=⟨L2.aE ha.h hr.h hs⟩
theorem aF(F:bO X.prog X.w X.K X.mg X.base CX k f fd ps sp)(hr:dI k X.A)(hg:Gl X x)(hm:X.mg x=some (.ref f))(hk:W.keepIn X.K (.ref f)=true)(hb:Binds X.K fd ps ds)(hd:Vals dvs ds)(hx:Passes CX X E)
  (ha:QA X (e::es) t) (hn:(e::es).all noStar=true:=by rfl) (hdb:(x == ("__debug__" : Str))=false:=by decide):QE X (.Call (.Name x p) (e::es) [] pos) (aEe sp dvs E t):=⟨L2.aF F hr hg hm hk hb hd hx ha.h hn hdb⟩
theorem aAL(M:Mk X.K C f)(F:bO X.prog X.w X.K X.mg X.base CX k f fd ps sp)(hr:dI (k+1) X.A)(hg:Gl X x)(hm:X.mg x=some (.ref C))(hb:Binds X.K fd ps ds)(hd:Vals dvs ds)(hx:Passes CX X E)
  (ha:QA X (e::es) t) (hn:(e::es).all noStar=true:=by rfl) (hdb:(x == ("__debug__" : Str))=false:=by decide):QE X (.Call (.Name x p) (e::es) [] pos) (aEf C sp dvs E t):=⟨L2.aAL M F hr hg hm hb hd hx ha.h hn hdb⟩
theorem aN(hc:dZ X (.builtin id) rc)(hg:Gl X x)(hm:X.mg x=none)(hv:bootBuiltins x=some (.builtin id))(ha:QA X (e::es) t)(hn:(e::es).all noStar=true:=by rfl)(hne:x≠"__name__":=by decide)(hdb:(x == ("__debug__" : Str))=false:=by decide) :
  QE X (.Call (.Name x p) (e::es) [] pos) (tCB rc t):=⟨L2.aN hc hg hm hv ha.h hn hne hdb⟩
theorem eC(hc:dZ X (.type T) rc)(hg:Gl X x)(hm:X.mg x=none)(hv:bootBuiltins x=some (.type T))(ha:QA X (e::es) t)(hn:(e::es).all noStar=true:=by rfl)(hne:x≠"__name__":=by decide)(hdb:(x == ("__debug__" : Str))=false:=by decide) :
  QE X (.Call (.Name x p) (e::es) [] pos) (tCB rc t):=⟨L2.eC hc hg hm hv ha.h hn hne hdb⟩
theorem pL:QO X none aC1:=⟨L2.pL⟩
theorem m8(h:QE X e te):QO X (some e) (aIa te):=⟨L2.m8 h.h⟩
theorem oS{rs:V->Option Int->Option Int->Hp->VK->Prop}{lo hi:Option Expr}{tl th:TO}(hr:SlR X rs)(he:QE X e te)(hl:QO X lo tl)(hu:QO X hi th):QE X (.Subscript e (.Slice lo hi none p2) pos) (tSl rs te tl th):=⟨L2.oS hr he.h hl.h hu.h⟩
theorem gG(h:QA X es t):QE X (.List es pos) (xR t):=⟨L2.gG h.h⟩
theorem cZ(hg:Gl X "range")(hm:X.mg "range" = none)(ha:QA X [a] t)(hn:noStar a=true:=by rfl):QI X tg (.Call (.Name "range" p) [a] [] pos) (aGf t):=⟨L2.cZ hg hm ha.h hn⟩
theorem uW(hg:Gl X "range")(hm:X.mg "range" = none)(ha:QA X [a,b] t)(hn:noStar a=true:=by rfl)(hn2:noStar b=true:=by rfl):QI X tg (.Call (.Name "range" p) [a,b] [] pos) (aGg t):=⟨L2.uW hg hm ha.h hn hn2⟩
theorem aM{i:Nat}(hN:X.N.Nodup)(hi:X.N[i]?=some x)(hx:Loc X.env.scope x)(hf:X.fn x=true\/X.env.scope.names.lookup x=some .local:=by first|exact .inl rfl|exact .inr rfl|assumption):QG X (.Name x pos) (uG i):=⟨L2.aM hN hi hx hf⟩
theorem dJ:QGs X [] aJv:=⟨L2.dJ⟩
theorem bA{e:Expr}{es:List Expr}{t:TG}{u:TGs}(h1:QG X e t)(h2:QGs X es u)(hs:(assignEach (e::es) X.env).map (·.2)=assign e X.env::(assignEach es X.env).map (·.2):=by rfl):QGs X (e::es) (aGe t u):=⟨L2.bA h1.h h2.h hs⟩
theorem aCV{i:Expr}{tset:aCU}(ho:QE X o to)(hi:QE X i ti)(hs:aHS X tset)
  (ha:∀v,assign (.Subscript o i pos) X.env v=(do
   let ov <-holding [v] (eval o X.env)
   let iv <-holding [v,ov] (eval i X.env)
   standAt pos
   holding [v,ov,iv] (setItem ov iv v)
   release [v,ov,iv] []):=by intro _;rfl):QG X (.Subscript o i pos) (aKU to ti tset):=⟨L2.aCV ho.h hi.h hs ha⟩
theorem cG:QTs X [] aLn:=⟨L2.cG⟩
theorem aAc(h:QT X c tt):QTs X [c] tt:=⟨L2.aAc h.h⟩
theorem root{D:Ends}{σ:St}{H:Hp}(q:QSs X sts ts)(h:ts D σ H):∃t,PSs X sts t/\t D σ H:=⟨ts,q.h,h⟩
theorem imp{ts':TS}(q:QSs X sts ts)(h:∀D σ H,ts' D σ H->ts D σ H):QSs X sts ts':=⟨fun pins s σ H D I z=>q.h pins s σ H D I (h D σ H z)⟩
theorem bF:QSs X [] aHO:=⟨L2.bF⟩
theorem aD(h1:QS X st ts)(h2:QSs X sts us):QSs X (st::sts) (aHP ts us):=⟨L2.aD h1.h h2.h⟩
theorem aG(h1:QS X st ts):QSs X [st] ts:=⟨L2.aG h1.h⟩
theorem rH:QS X st aHR:=⟨L2.rH⟩
theorem iC(he:QE X e te)(hs:swapsWith e none pos.line X.env=pure false:=by rfl):QS X (.Expr e pos) (aHQ te):=⟨L2.iC he.h hs⟩
theorem aV(he:QE X e te):QS X (.Return (some e) pos) (aKR te):=⟨L2.aV he.h⟩
theorem cK(hc:QT X c tt)(ha:QSs X sts ts)(hb:QSs X sts2 us):QS X (.If c sts sts2 pos) (aKS tt ts us):=⟨L2.cK hc.h ha.h hb.h⟩
theorem aS{i:Nat}{pos':Pos}(hN:X.N.Nodup)(hi:X.N[i]?=some x)(hx:Loc X.env.scope x)(he:QE X e te)(hs:swapsWith e (some (.Name x pos')) pos.line X.env=pure false:=by rfl)(hf:X.fn x=true\/X.env.scope.names.lookup x=some .local:=by first|exact .inl rfl|exact .inr rfl|assumption) :
  QS X (.Assign [.Name x pos'] e pos) (aFe te (uG i)):=⟨L2.aS hN hi hx he.h hs hf⟩
theorem aCW(he:QE X e te)(hg:QG X tg g)(hs:swapsWithSole [tg] e pos.line X.env=pure false:=by rfl)(hw:swappedStores [tg] e X.env=pure none:=by rfl)
  (h1:(assignEach [tg] X.env).map (·.2)=[assign tg X.env]:=by rfl):QS X (.Assign [tg] e pos) (aFe te g):=⟨L2.aCW he.h hg.h hs hw h1⟩
theorem aAs{i:Nat}{op:Operator}{tip:TIp}{pos':Pos}(hN:X.N.Nodup)(hi:X.N[i]?=some x)(hx:Loc X.env.scope x)(he:QE X e te)(ho:PIp X op tip)(hf:X.fn x=true\/X.env.scope.names.lookup x=some .local:=by first|exact .inl rfl|exact .inr rfl|assumption) :
  QS X (.AugAssign (.Name x pos') op e pos) (aKV i te tip):=⟨L2.aAs hN hi hx he.h ho hf⟩
theorem aCX{i:Expr}{tget:V->V->Hp->VK->Prop}{tip:TIp}{tset:aCU}{op:Operator}{tpos:Pos}(ho:QE X o to)(hi:QE X i ti)(hg:aKW X tget)(he:QE X e te)(hp:PIp X op tip)(hs:aHS X tset)
  (ha:∀ov iv new,augStore i ov iv new=(do holding [new,ov,iv] (setItem ov iv new);release [new,ov,iv] [];pure .next):=by intros;rfl):QS X (.AugAssign (.Subscript o i tpos) op e pos) (aHT to ti te tget tip tset):=⟨L2.aCX ho.h hi.h hg he.h hp hs ha⟩
theorem cS(hp:PassesOwn (model X.prog X.w) X.A X.env X.xe)(hc:X.calm=true)(hi:QI X tg iter wi)(hg:QG X tg g)(hb:QSs X sts ts)
  (hs:∀x,foldedSetIterable iter X.env x=pure x:=by intro _;rfl):QS X (.For tg iter sts [] pos) (aKZ wi g ts):=⟨L2.cS hp hc hi.h hg.h hb.h hs⟩
variable{scope:Scope}{elt target:Expr}{ifs:List Expr}{N:List Str}
theorem cO{k:Nat}{idx:List Nat}{N:List Str}(S:dP X scope N k idx)(hc:X.calm=true)(hi:QI X target iter wi)
  (hg:∀fp C s H,QG (zG X scope N fp C s H) target g) (ho:Own k g) (ht:∀fp C s H,QTs (zG X scope N fp C s H) ifs tt) (he:∀fp C s H,QE (zG X scope N fp C s H) elt te)
  (hs:∀x,foldedSetIterable iter X.env x=pure x:=by intro _;rfl):QE X (.ListComp elt [⟨target,iter,ifs,0⟩] scope pos) (aEp wi k idx g tt te):=
 ⟨L2.cO k idx S hc hi.h (fun fp C s H=>(hg fp C s H).h) ho (fun fp C s H=>(ht fp C s H).h) (fun fp C s H=>(he fp C s H).h) hs⟩
theorem tQ{k:Nat}{idx:List Nat}{i:Nat}{N:List Str}{pos':Pos}(hN:X.N.Nodup)(hix:X.N[i]?=some x)(hx:Loc X.env.scope x)
  (S:dP X scope N k idx) (hc:X.calm=true) (hi:QI X target iter wi)
  (hg:∀fp C s H,QG (zG X scope N fp C s H) target g) (ho:Own k g) (ht:∀fp C s H,QTs (zG X scope N fp C s H) ifs tt) (he:∀fp C s H,QE (zG X scope N fp C s H) elt te)
  (hsw:swapsWith (.ListComp elt [⟨target,iter,ifs,0⟩] scope pos) (some (.Name x pos')) spos.line X.env=pure true:=by rfl)
  (hs:∀x,foldedSetIterable iter X.env x=pure x:=by intro _;rfl) (hfn:X.fn x=true\/X.env.scope.names.lookup x=some .local:=by first|exact .inl rfl|exact .inr rfl|assumption) :
  QS X (.Assign [.Name x pos'] (.ListComp elt [⟨target,iter,ifs,0⟩] scope pos) spos) (aFe (aEp wi k idx g tt te) (uG i)):=
 ⟨L2.tQ k idx hN hix hx S hc hi.h (fun fp C s H=>(hg fp C s H).h) ho (fun fp C s H=>(ht fp C s H).h) (fun fp C s H=>(he fp C s H).h) hsw hs hfn⟩
variable{x1:Nat}{e1 e2 e3 e4 e5 e6 e7 e8:Expr}{t1 t2 t3 t4 t5 t6 t7 t8:TE}
theorem aBF(h1:QE X e1 t1)(n1:noStar e1=true:=by rfl):QE X (.List [e1] pos) (xR (bM t1 pK)):=⟨L2.aBF h1.h n1⟩
theorem aHd(h1:QE X e1 t1)(h2:QE X e2 t2)(n1:noStar e1=true:=by rfl)(n2:noStar e2=true:=by rfl):QE X (.List [e1,e2] pos) (xR (bM t1 (bM t2 pK))):=⟨L2.aHd h1.h h2.h n1 n2⟩
theorem rE{k1}(h1:QE X e1 t1)(h2:QE X e2 t2)(n1:noStar e1=true:=by rfl)(n2:noStar e2=true:=by rfl):QE X (.Tuple [e1,e2] k1 pos) (aG1 (bM t1 (bM t2 pK))):=⟨L2.rE h1.h h2.h n1 n2⟩
theorem aJ7(h1:QE X e1 t1)(h2:QE X e2 t2)(h3:QE X e3 t3)(n1:noStar e1=true:=by rfl)(n2:noStar e2=true:=by rfl)(n3:noStar e3=true:=by rfl):QE X (.List [e1,e2,e3] pos) (xR (bM t1 (bM t2 (bM t3 pK)))):=⟨L2.aJ7 h1.h h2.h h3.h n1 n2 n3⟩
theorem aFz{k1}(h1:QE X e1 t1)(h2:QE X e2 t2)(h3:QE X e3 t3)(n1:noStar e1=true:=by rfl)(n2:noStar e2=true:=by rfl)(n3:noStar e3=true:=by rfl):QE X (.Tuple [e1,e2,e3] k1 pos) (aG1 (bM t1 (bM t2 (bM t3 pK)))):=⟨L2.aFz h1.h h2.h h3.h n1 n2 n3⟩
theorem aLQ(h1:QE X e1 t1)(h2:QE X e2 t2)(h3:QE X e3 t3)(h4:QE X e4 t4)(n1:noStar e1=true:=by rfl)(n2:noStar e2=true:=by rfl)(n3:noStar e3=true:=by rfl)(n4:noStar e4=true:=by rfl):QE X (.List [e1,e2,e3,e4] pos) (xR (bM t1 (bM t2 (bM t3 (bM t4 pK))))):=⟨L2.aLQ h1.h h2.h h3.h h4.h n1 n2 n3 n4⟩
theorem aLR(h1:QE X e1 t1)(h2:QE X e2 t2)(h3:QE X e3 t3)(h4:QE X e4 t4)(h5:QE X e5 t5)(h6:QE X e6 t6)(h7:QE X e7 t7)(n1:noStar e1=true:=by rfl)(n2:noStar e2=true:=by rfl)(n3:noStar e3=true:=by rfl)(n4:noStar e4=true:=by rfl)(n5:noStar e5=true:=by rfl)(n6:noStar e6=true:=by rfl)(n7:noStar e7=true:=by rfl):QE X (.List [e1,e2,e3,e4,e5,e6,e7] pos) (xR (bM t1 (bM t2 (bM t3 (bM t4 (bM t5 (bM t6 (bM t7 pK)))))))):=⟨L2.aLR h1.h h2.h h3.h h4.h h5.h h6.h h7.h n1 n2 n3 n4 n5 n6 n7⟩
end
end L2.Z
namespace L2.Z
open PySem PySem.Spec PyProof.Rows L2
section
variable{X:Cx}{CX:CXT}{k:Nat}{f C:Addr}{fd:FuncData}{ps:List Str}{sp:Sp}{dvs:List V}{ds:List Value}{E:XK}{x m:Str}{p pos apos p2 spos cpos tp:Pos}{a b c e o st:Expr}{es rest elts:List Expr}{ta tb tc te to ti:TE}{t:TA}{x1:Nat}{ts:TO}
theorem aCZ{pl:Sem Bool}(he:QE X o ta)(c:Cls X.K C)(hm:Meth X.K C m f)(F:bO X.prog X.w X.K X.mg X.base CX k f fd ps sp)(hr:dI k X.A)(hb:Binds X.K fd ps ds)(hd:Vals dvs ds)(hx:Passes CX X E)(ha:QA X (e::es) t)
  (hn:(e::es).all noStar=true:=by rfl)
  (ht:eval (.Call (.Attribute o m apos) (e::es) [] pos) X.env=(do
   let ov <-eval o X.env
   standAt apos.atName
   let (f,first) <-holding [ov] (getMethod ov m pl)
   callWith pos f first (backTo pos (starEach (e::es) X.env)) (backToKw pos (keywordEach [] X.env))):=by rfl) :
  QE X (.Call (.Attribute o m apos) (e::es) [] pos) (aGi C m sp dvs E ta t):=⟨L2.aCZ he.h c hm F hr hb hd hx ha.h (bL (gJ hn).1) (iF (gJ hn).2) ht⟩
end
end L2.Z
namespace L2.Z
open PySem PySem.Spec PyProof.Rows L2
section
variable{X:Cx}{K':W.Frag}{x m n:Str}{p pos apos p2 spos cpos tp pos':Pos}{a b c e o st iter tg:Expr}{es rest elts:List Expr}{ta tb tc te to ti:TE}{t:TA}{x1:Nat}{ts:TO}
theorem aL(ha:QE X a ta)(hb:QE X b tb)(hs:aGm b)(hK:X.K=K':=by rfl):QE X (.Subscript a b pos) (tOp (rIx K') ta tb):=by subst hK;exact⟨L2.aMr aLb ha.h hb.h hs⟩
theorem bQ(hl:QE X e te)(hK:X.K=K':=by rfl):QI X tg e (aHU K' te):=by subst hK;exact⟨L2.aJx hl.h⟩
theorem aAf(hl:QE X e te)(hK:X.K=K':=by rfl):QI X tg e (aKX K' te):=by subst hK;exact⟨L2.aKY hl.h⟩
theorem aAN(hg:Gl X "enumerate")(hm:X.mg "enumerate" = none)(ha:QA X [a] t)(hn:noStar a=true:=by rfl)(hK:X.K=K':=by rfl):QI X (.Tuple elts x1 tp) (.Call (.Name "enumerate" p) [a] [] pos) (aIC K' t):=by subst hK;exact⟨L2.aJ8 hg hm ha.h hn⟩
theorem fE{k1 n:Nat}{gs:TGs}(hc:X.calm=true)(h:QGs X es gs)(hn:(assignEach es X.env).length=n:=by rfl)(hst:(assignEach es X.env).findIdx? (·.1)=none:=by rfl)(hK:X.K=K':=by rfl):QG X (.Tuple es k1 pos) (aJw K' n gs):=by subst hK;exact⟨L2.aKT hc h.h hn hst⟩
theorem pO(he:QE X e ta)(hb:attributeBase e n X.env (eval e X.env)=eval e X.env)(hK:X.K=K':=by rfl):QE X (.Attribute e n pos) (aK3 K' ta n):=by subst hK;exact⟨L2.aK5 he.h hb⟩
theorem pP(ha:QE X o ta)(hv:QE X e te)(hs:swapsWith e (some (.Attribute o n pos')) pos.line X.env=pure false)(hK:X.K=K':=by rfl):QS X (.Assign [.Attribute o n pos'] e pos) (aK4 K' ta te n):=by subst hK;exact⟨L2.aK6 ha.h hv.h hs⟩
theorem nB(ho:QE X o to)(ha:QA X [e] t)(hn:noStar e=true:=by rfl)(hbase:attributeBase o "append" X.env (eval o X.env)=eval o X.env:=by rfl)(hline:(apos.endLine == cpos.line)=true:=by rfl)(hK:X.K=K':=by rfl) :
  QE X (.Call (.Attribute o "append" apos) [e] [] cpos) (tBM K' "list" aAb to t):=by subst hK;exact⟨L2.aLU ho.h ha.h hn hbase hline⟩
theorem aC9(he:QE X e te)(hs:QO X (some st) ts)(hK:X.K=K':=by rfl):QE X (.Subscript e (.Slice none none (some st) p2) pos) (aIG K' te ts):=by subst hK;exact⟨L2.aLS he.h hs.h⟩
end
end L2.Z
namespace L2.Z
open PySem PySem.Spec PyProof.Rows L2
section
variable{X:Cx}{K':W.Frag}{p pos tp:Pos}{a b:Expr}{elts:List Expr}{t:TA}{x1:Nat}
end
end L2.Z
namespace L2
open PySem
section
variable{prog:Program}{w:World}{A:Around}{E:Value->Shared->Prop}{s:Shared}
end
def SIt(h:Heap)(k:Bool)(it src:Addr)(i:Nat):Prop:=if k=true then h.IsListIter it src i else h.IsTupleIter it src i
def aKd(h:Heap)(k:Bool)(src:Addr)(items:Array Value):Prop:=if k=true then h.IsList src items else h.IsTuple src items
theorem SIt.at{h h':Heap}{k:Bool}{it src:Addr}{i:Nat}(x:SIt h k it src i)(e:∀o,h.get? it=some o->h'.get? it=some o):SIt h' k it src i:=by
 cases k with
 |true=>obtain⟨o,ho,r⟩:=(show h.IsListIter it src i from x);exact(show h'.IsListIter it src i from⟨o,e o ho,r⟩)
 |false=>obtain⟨o,ho,r⟩:=(show h.IsTupleIter it src i from x);exact(show h'.IsTupleIter it src i from⟨o,e o ho,r⟩)
theorem aKd.at{h h':Heap}{k:Bool}{src:Addr}{items:Array Value}(x:aKd h k src items)(e:∀o,h.get? src=some o->h'.get? src=some o):aKd h' k src items:=by
 cases k with
 |true=>obtain⟨o,ho,r⟩:=(show h.IsList src items from x);exact(show h'.IsList src items from⟨o,e o ho,r⟩)
 |false=>obtain⟨o,ho,r⟩:=(show h.IsTuple src items from x);exact(show h'.IsTuple src items from⟨o,e o ho,r⟩)
theorem SIt.obj{h:Heap}{k:Bool}{it src:Addr}{i:Nat}(x:SIt h k it src i):∃o vs,h.get? it=some o/\o.data=.fields vs:=by
 cases k with
 |true=>obtain⟨o,ho,_,r⟩:=(show h.IsListIter it src i from x);exact⟨o,_,ho,r⟩
 |false=>obtain⟨o,ho,_,r⟩:=(show h.IsTupleIter it src i from x);exact⟨o,_,ho,r⟩
section
variable{prog:Program}{w:World}{A:Around}{E:Value->Shared->Prop}{s:Shared}
end
abbrev ZS:=Bool×Addr×Addr
abbrev aIK(h:Heap)(T:Addr)(vs:Array Value):Prop:=h.get? T=some { cls:=.type "tuple",data:=.seq vs }
section
variable{prog:Program}{w:World}{A:Around}{E:Value->Shared->Prop}{s:Shared}
end
def ZSt(z TI TO:Addr)(L:List ZS)(i:Nat)(h:Heap):Prop:=
 IsZip h z TI TO .none/\aIK h TI (L.map fun t=>Value.ref t.2.1).toArray/\(∃arr,aIK h TO arr/\arr.size=L.length)/\∀t∈L,SIt h t.1 t.2.1 t.2.2 i
section
variable{prog:Program}{w:World}{A:Around}{E:Value->Shared->Prop}{s:Shared}
end
section
variable{prog:Program}{w:World}{A:Around}{E:Value->Shared->Prop}{s:Shared}
end
end L2
namespace L2
open PySem PySem.Spec PyProof.Rows
def Src(H:Hp)(k:Bool)(a:Addr)(xs:List V):Prop:=H a=some (if k=true then .lst xs else .tup xs)
theorem Src.inj{H:Hp}{k:Bool}{a:Addr}{xs ys:List V}(h:Src H k a xs)(h':Src H k a ys):xs=ys:=by
 unfold Src at h h'
 rw[h] at h'
 cases k with
 |true=>injection h' with e;injection e
 |false=>injection h' with e;injection e
theorem Src.lst{H:Hp}{a:Addr}{xs:List V}(h:H a=some (.lst xs)):Src H true a xs:=h
theorem Src.tup{H:Hp}{a:Addr}{xs:List V}(h:H a=some (.tup xs)):Src H false a xs:=h
theorem Inv.src{X:Cx}{pins:List (Addr×Obj)}{σ:St}{H:Hp}{s:Shared}{k:Bool}{a:Addr}{xs:List V}(I:Inv X pins σ H s)(h:Src H k a xs):∃its:List Value,Vals xs its/\aKd s.heap k a its.toArray/\xs.length<=sizeLine:=by
 cases k with
 |true=>
  obtain⟨its,r,p,z⟩:=I.list (bG.of h)
  exact⟨its,r,p.isList,z⟩
 |false=>
  obtain⟨its,r,p,z⟩:=I.tuple (kL.of h)
  exact⟨its,r,p,z⟩
abbrev zFp(z TI TO:Addr)(L:List ZS):List Addr:=z::TI::TO::L.map (·.2.1)
theorem ZSt.obj{z TI TO:Addr}{L:List ZS}{i:Nat}{h:Heap}(st:ZSt z TI TO L i h):∀b∈zFp z TI TO L,∃o,h.get? b=some o/\∀v,o.data≠.cell v:=fun b hb=>by
 obtain⟨hz,hTI,⟨arr,hTO,_⟩,hit⟩:=st
 simp only[zFp,List.mem_cons] at hb
 rcases hb with rfl|rfl|rfl|hb
 ·exact⟨_,hz,fun v z=>by cases z⟩
 ·exact⟨_,hTI,fun v z=>by cases z⟩
 ·exact⟨_,hTO,fun v z=>by cases z⟩
 ·obtain⟨t,ht,rfl⟩:=List.mem_map.mp hb
  obtain⟨o,vs,e,d⟩:=(hit t ht).obj
  exact⟨o,e,fun v z=>by rw[d] at z;cases z⟩
section
variable{X:Cx}{elts:List Expr}{x1:Nat}{tp:Pos}{k1 k2 k3:Bool}
end
section
variable{σ:St}{H:Hp}{nx:St->Hp->Prop}{rt:VK}{g:TG}{tb:TS}{Q:VK}{k1 k2 k3:Bool}{a b c:Addr}{xs ys zs:List V}{n:Nat}
end
section
variable{σ₀:St}{g:TG}{tt:TT}{te:TE}{R:List V->Hp->Prop}{H:Hp}{k1 k2 k3:Bool}{a b c:Addr}{xs ys zs:List V}{n:Nat}
end
section
variable{X:Cx}
end
end L2
namespace L2.Z
open PySem PySem.Spec PyProof.Rows L2
section
variable{X:Cx}{p pos tp:Pos}{a b c:Expr}{elts:List Expr}{t:TA}{x1:Nat}{k1 k2 k3:Bool}
end
end L2.Z
namespace L2
open PySem PySem.Spec PyProof.Rows
theorem nw{H:Hp}{p:Addr}(o:HO)(n:H p=none):∃H2,upd H p o=H2/\aI H H2/\H2 p=some o:=⟨_,rfl,aI.new n,aH⟩
theorem wr(H:Hp)(p:Addr)(o:HO):∃H2,upd H p o=H2/\bS p H H2/\H2 p=some o:=⟨_,rfl,bS.upd,aH⟩
end L2
namespace L2
open PySem PySem.Spec PyProof.Rows
end L2
namespace L2
open PySem PySem.Spec PyProof.Rows
def Nx(N:St->Hp->Prop)(σ:St)(H:Hp):Prop:=N σ H
structure Tail(N b:St->Hp->Prop):Prop where
 h:∀σ H,b σ H->N σ H
theorem aKe{nx bk ct:St->Hp->Prop}{rt:VK}{σ:St}{H:Hp}{t u:TS}(h:∀N,Tail N (u ⟨nx,rt,bk,ct⟩)->t ⟨Nx N,rt,bk,ct⟩ σ H):aHP t u ⟨nx,rt,bk,ct⟩ σ H:=h _ ⟨fun _ _ h=>h⟩
theorem aMV{N b:St->Hp->Prop}{σ:St}{H:Hp}(t:Tail N b)(h:b σ H):Nx N σ H:=t.h _ _ h
end L2
namespace L2
open PySem PySem.Spec PyProof.Rows
section
variable{prog:Program}{w:World}{A:Around}{E:Value->Shared->Prop}{s:Shared}{K:W.Frag}{x C:Addr}{ox:Obj}{od:Option Obj}
end
section
variable{X:Cx}
end
end L2
namespace L2
open PySem PySem.Spec PyProof.Rows
section
variable{X:Cx}{pins:List (Addr×Obj)}{σ:St}{H:Hp}{s:Shared}
end
theorem bI.obj{P:Program}{w:World}{H:Hp}{h:Heap}{a:Addr}{o:HO}(x:bI P w H h a o):∃u,h.get? a=some u:=by
 cases o with
 |lst xs=>obtain⟨_,_,_,_,e⟩:=x;exact⟨_,e⟩
 |tup xs=>obtain⟨_,_,_,u,e,_⟩:=x;exact⟨u,e⟩
 |dK kvs=>obtain⟨_,_,_,_,u,_,_,e,_⟩:=x;exact⟨u,e⟩
 |dT kvs=>obtain⟨_,_,_,_,u,_,_,e,_⟩:=x;exact⟨u,e⟩
 |set S n=>obtain⟨u,_,_,_,e,_⟩:=x;exact⟨u,e⟩
 |ins C dx fs=>obtain⟨_,_,_,e,_⟩:=x;exact⟨_,e⟩
 |own y=>exact x
 |xd fs=>obtain⟨_,⟨u,_,_,e,_⟩,_⟩:=x;exact⟨u,e⟩
 |rng lo hi=>obtain⟨_,_,_,e⟩:=x;exact⟨_,e⟩
 |frz ob u=>exact⟨_,x.1⟩
 |tbl ps=>exact⟨_,x⟩
 |met f y=>exact⟨_,x⟩
 |ext φ=>exact x.2.1
 |cod q=>obtain⟨o,_,_,e,_⟩:=x;exact⟨o,e⟩
 |ctb pos q=>obtain⟨_,e,_⟩:=x;exact⟨_,e⟩
theorem Inv.aMW{X:Cx}{pins:List (Addr×Obj)}{σ:St}{H:Hp}{s:Shared}{h':Heap}{a:Addr}{o:HO}{t':Nat}(I:Inv X pins σ H s)(k:∀b u,s.heap.get? b=some u->h'.get? b=some u)(hne:∀b u,s.heap.get? b=some u->b≠a)
  (new:bI X.prog X.w (upd H a o) h' a o):H a=none/\Inv X pins σ (upd H a o) { s with heap:=h',toks:=t' }:=by
 have hn:H a=none:=by
  cases e:H a with
  |none=>rfl
  |some u=>
   obtain⟨ob,z⟩:=(I.hok a u e).obj
   exact absurd rfl (hne a ob z)
 refine⟨hn,I.un ⟨fun b u q _ _ _=>k b u q,fun b u q _ _ _=>⟨u.slots,k b u q⟩,fun b u q n _=>?_,fun b u q _=>⟨u,k b u q⟩,fun b xs q=>?_,fun b u xs q=>?_,fun b ps q=>⟨#[],?_⟩⟩ fun b u e=>?_⟩
 ·rw[aJ (hne b u q)];exact n
 ·rw[aJ (bC q hn)];exact q
 ·rw[aJ (bC q hn)];exact q
 ·rw[aJ (bC q hn),q];simp
 ·by_cases hb:b=a
  ·subst hb;rw[aH] at e;cases e;exact new
  ·rw[aJ hb] at e
   exact(I.hok b u e).zE (fun c v _ q=>k c v q) (fun c q=>by rw[aJ (bC q hn)];exact q) fun c xs _ q=>by rw[aJ (bC q hn)];exact q
section
variable{X:Cx}{tg:Expr}
end
section
variable{σ:St}{H:Hp}{nx:St->Hp->Prop}{rt:VK}{g:TG}{tb:TS}
end
section
variable{X:Cx}
end
section
variable{X:Cx}{o e:Expr}{to:TE}{apos cpos:Pos}
end
section
variable{K:W.Frag}{σ:St}{H:Hp}{Q:VK}
end
end L2
namespace L2.Z
open PySem PySem.Spec PyProof.Rows
section
variable{X:Cx}{K':W.Frag}{tg o i value l:Expr}{to td ty tv tl:TE}{pos pos' apos cpos:Pos}
theorem vW(hu:X.A.units+9 < cLine)(ho:QE X o td)(hi:QE X i ty)(hv:QE X value tv)(hs:swapsWith value (some (.Subscript o i pos')) pos.line X.env=pure false:=by rfl) :
  QS X (.Assign [.Subscript o i pos'] value pos) (aIh td ty tv):=⟨L2.vW (by omega) ho.h hi.h hv.h hs⟩
end
end L2.Z
namespace L2
open PySem PySem.Spec PyProof.Rows
section
variable{σ:St}{H:Hp}{Q:VK}{nx bk ct:St->Hp->Prop}{rt:VK}
theorem aKf{td ty tv:TE}(h:tv σ H fun v H1=>td σ H1 fun x H2=>ty σ H2 fun y H3=>∃a H4,x=.ref a/\aAC H3 a y v H4/\nx σ H4):aIh td ty tv ⟨nx,rt,bk,ct⟩ σ H:=h
end
end L2
namespace L2
open PySem PySem.Spec PyProof.Rows
section
variable{prog:Program}{w:World}{A:Around}{E:Value->Shared->Prop}{s:Shared}{K:W.Frag}{x C:Addr}{ox:Obj}{od:Option Obj}{name:Str}{v:Value}{expr:Bool}
end
section
variable{prog:Program}{w:World}{A:Around}{E:Value->Shared->Prop}{s:Shared}{K:W.Frag}{x C:Addr}{o:Obj}{name:Str}{v:Value}
open PySem.Builtin PySem.Builtin.ObjectAttr in
end
section
variable{prog:Program}{w:World}{A:Around}{E:Value->Shared->Prop}{s:Shared}{K:W.Frag}
variable{nm q:Str}{C N fI:Addr}{bs bm bmB:List Value}{hdct:Bool}{sn:List Str}{sub:List Value}{ab:Bool}{col:Option Bool}{dd:Option Addr}{k0 k1 k2 k3 k5:Option Value}{B newId initId:String}
end
section
variable{M:Model}{A:Around}{E:Value->Shared->Prop}{s:Shared}{base:Heap}{env:Env}{outer:List Env}{L e:Addr}{oe:Obj}{vs:Array Value}{Q:Unit->Shared->Prop}
end
def aNj(C:Addr)(od:Option Addr)(e:Addr):HO:=.ext fun h=>∃o vs,h.get? e=some o/\o.cls=.ref C/\o.dict=od/\o.data=.fields vs
section
variable{X:Cx}{pins:List (Addr×Obj)}{σ:St}{H:Hp}{s:Shared}{h':Heap}{C e:Addr}{od:Option Addr}{oe:Obj}
end
end L2
namespace L2
open PySem PySem.Spec PyProof.Rows
section
variable{X:Cx}{pins:List (Addr×Obj)}{σ:St}{H:Hp}{s:Shared}
end
end L2
namespace L2
open PySem PySem.Spec PyProof.Rows
section
variable{X:Cx}{k:Nat}{f C:Addr}{fd:FuncData}{ps:List Str}{sp:Sp}{x:Str}{p pos:Pos}{e:Expr}{es:List Expr}{t:TA}{te:TE}
end
end L2
namespace L2
open PySem PySem.Spec PyProof.Rows
section
variable{X:Cx}{o e value:Expr}{f:Str}{pos pos':Pos}{ta tv:TE}
end
end L2
namespace L2
open PySem PySem.Spec PyProof.Rows
section
variable{prog:Program}{w:World}{A:Around}{E:Value->Shared->Prop}{s:Shared}{K:W.Frag}{x D:Addr}{ox:Obj}{odo:Option Obj}
end
def x8(H:Hp)(od:Option Addr):Prop:=∀dx,od=some dx->∃fs,H dx=some (.xd fs)
theorem x8.none{H:Hp}:x8 H none:=fun _ z=>nomatch z
theorem x8.some{H:Hp}{dx:Addr}{fs:List (Str×V)}(h:H dx=some (.xd fs)):x8 H (some dx):=fun _ z=>by cases z;exact⟨fs,h⟩
theorem x8.there{P:Program}{w:World}{H:Hp}{h:Heap}{od:Option Addr}(hok:qY P w H h)(d:x8 H od):∀dx,od=Option.some dx->∃o,h.get? dx=Option.some o:=fun dx z=>by
 obtain⟨fs,e⟩:=d dx z
 exact(hok dx _ e).obj
section
variable{X:Cx}{K:W.Frag}{H:Hp}{Q:VK}
theorem oY:∀{cs:List Addr}{us:List Value},Vals (cs.map V.ref) us->us=cs.map Value.ref
 |[],_,.nil=>rfl
 |c::cs,_,.cons r t=>by cases r;rw[oY t];rfl
end
end L2
namespace L2
open PySem PySem.Spec PyProof.Rows
abbrev TW:=St->Hp->Addr->Prop
structure aLY(X:Cx)(pins:List (Addr×Obj))(T:Addr):Prop where
 up:X.s₀.heap.objs.size<=T
 loc:T≠X.env.locals
 cell:∀x c,X.env.cells.lookup x=some c->c≠T
 pin:∀p∈X.pn++pins,p.1≠T
section
variable{M:Model}{A:Around}{E:Value->Shared->Prop}{s:Shared}{base:Heap}{env:Env}{outer:List Env}{L e:Addr}{oe:Obj}{vs:Array Value}{Q:Unit->Shared->Prop}
variable{T:Addr}{oT:Obj}{ts:Array Value}
end
section
variable{X:Cx}{pins:List (Addr×Obj)}{σ:St}{H:Hp}{s:Shared}{h':Heap}{C e T:Addr}{od:Option Addr}{oe:Obj}
end
structure aNk(X:Cx)(pins:List (Addr×Obj))(H:Hp)(h:Heap)(e:Addr):Prop where
 ex:∃(C:Addr) (od:Option Addr) (oe:Obj) (vs:Array Value) (T:Addr) (oT:Obj) (ts:Array Value),H e=some (aNj C od e)/\h.get? e=some oe/\oe.data=.fields vs/\vs[1]?=some (.ref T)/\T≠e/\aLY X pins T/\H T=none/\h.get? T=some oT/\oT.data=.fields ts/\3 < ts.size
def aLZ(X:Cx)(pins:List (Addr×Obj))(W:TW)(ev:Value)(s':Shared):Prop:=∃(e:Addr) (σ:St) (H':Hp),ev=.ref e/\Inv X pins σ H' s'/\aNk X pins H' s'.heap e/\W σ H' e
def Cx.tr(X:Cx)(pins:List (Addr×Obj))(W:TW):Cx:={ X with pn:=X.pn++pins,xe:=aLZ X pins W }
def Cx.hnd(X:Cx)(e:Addr):Cx:={ X with A:=X.A.mark (some (.ref e)),calm:=false,xe:=fun _ _=>False }
section
variable{X:Cx}{pins pins':List (Addr×Obj)}{σ:St}{H:Hp}{s:Shared}{W:TW}{e:Addr}
theorem Cx.Ok.tr(ok:X.Ok):(X.tr pins W).Ok:=⟨ok.mod,ok.kind,ok.glob,ok.blt,ok.above,ok.inj,ok.has,ok.cab,ok.hd,ok.frames,ok.stk,ok.exf,ok.bs,ok.bsz,ok.noex,ok.exfs,ok.uC,ok.frf⟩
theorem Cx.Ok.hnd(ok:X.Ok):(X.hnd e).Ok:=⟨ok.mod,ok.kind,ok.glob,ok.blt,ok.above,ok.inj,ok.has,ok.cab,(fun z=>Bool.noConfusion z),ok.frames,ok.stk,ok.exf,ok.bs,ok.bsz,ok.noex,ok.exfs,ok.uC,ok.frf⟩
theorem Inv.tr(I:Inv X pins σ H s):Inv (X.tr pins W) [] σ H s:=⟨I.ok.tr,I.os,I.bare,I.base,I.loc,I.cell,I.free,I.freeC,fun p hp=>I.pin p (by rw[List.append_nil] at hp;exact hp),I.hok,I.len⟩
theorem Inv.hnd(I:Inv X pins σ H s):Inv (X.hnd e) pins σ H s:=⟨I.ok.hnd,I.os,I.bare,I.base,I.loc,I.cell,I.free,I.freeC,I.pin,I.hok,I.len⟩
end
abbrev TH:=Ends->St->Hp->Addr->Prop
section
variable{X:Cx}{x n:Str}{C0:Addr}{i:Nat}{b₀:Stmt}{suite body:List Stmt}{np pos:Pos}{rest:List ExceptHandler}{h₀:ExceptHandler}{hs:List ExceptHandler}{ts:TS}{th:TH}{tb:TW->TS}
end
end L2
namespace L2
open PySem PySem.Spec PyProof.Rows
section
variable{X:Cx}{pn:List (Addr×Obj)}{W:TW}{k:Nat}{f C:Addr}{fd:FuncData}{ps:List Str}{sp:Sp}{x:Str}{p pos:Pos}{e:Expr}{es:List Expr}{t:TA}
end
structure aCx(k:Nat)(A:Around):Prop where
 dp:A.depth+3*k+5 < recursionLimit
 un:A.units+16*k+200 < cLine
theorem dI.h{k:Nat}{A:Around}(r:dI k A):aCx k A:=⟨r.dp,r.un⟩
theorem aCx.mark{k:Nat}{A:Around}(r:aCx k A)(o:Option Value):aCx k (A.mark o):=⟨r.dp,r.un⟩
theorem aCx.calm{k:Nat}{A:Around}(r:aCx k A):dI k { A with handled:=none }:=⟨rfl,r.dp,r.un⟩
section
variable{X:Cx}{k:Nat}{f:Addr}{fd:FuncData}{ps:List Str}{sp:Sp}{x:Str}{p pos:Pos}{e:Expr}{es:List Expr}{t:TA}
end
end L2
namespace L2
open PySem PySem.Spec PyProof.Rows
section
variable{K:W.Frag}{σ:St}{H:Hp}{Q:VK}{nx bk ct:St->Hp->Prop}{rt:VK}
end
end L2
namespace L2.Z
open PySem PySem.Spec PyProof.Rows L2
section
variable{X:Cx}{K':PySem.W.Frag}{pn:List (Addr×Obj)}{W:TW}{k:Nat}{f C C0:Addr}{fd:FuncData}{ps:List Str}{sp:Sp}{x n:Str}{p pos pos' np:Pos}{e o:Expr}{es:List Expr}{t:TA}{te ta:TE}{E:XK}{i:Nat}{b₀:Stmt}{suite body:List Stmt}{rest hs:List ExceptHandler}{h₀:ExceptHandler}{ts:TS}{th:TH}{tb:TW->TS}
end
end L2.Z
namespace L2
open PySem PySem.Spec PyProof.Rows
section
variable{X:Cx}
def aMX(K:W.Frag):List V->Hp->VK->Prop:=fun xs H Q=>∃(p:Addr) (bs:List Bool),xs=[.ref p]/\bG K H p (bs.map V.bl)/\Q (.bl (bs.any id)) H
theorem aHh(hc:X.calm=true):dZ X (.builtin "any") (aMX X.K):=by
 intro pins s σ H xs us Q I r h
 obtain⟨p,bs,rfl,hq,q⟩:=h
 obtain⟨u,rfl,rx⟩:=vals1 r
 cases rx
 obtain⟨its,r',pl,hz⟩:=I.list hq
 have e:=uX r'
 subst e
 have hl:=pl.isList
 have hlt:p < s.heap.objs.size:=by obtain⟨_,e,_⟩:=id hl;exact Heap.lt_size e
 refine call_any_walk (wpAny_pyIter_list hl ?_)
 refine⟨s.heap.objs.size,[s.heap.objs.size,p],[s.heap.objs.size],(bs.map Value.bool).toArray.size,_,_,fun i=>(bs[i]?).getD false,rfl,Walks.list (A:=X.A.in1) (I.ok.hd hc) _ p (Nat.ne_of_lt hlt) (bs.map Value.bool).toArray,
  ⟨⟨_,Heap.get?_push_size _ rfl,rfl,rfl⟩,hl.push _⟩,fun i v s' Q' E' hP hQ=>?_,fun h' tk hk=>?_⟩
 ·have hP':(bs.map Value.bool)[i]?=some v:=by simpa using hP
  rw[List.getElem?_map] at hP'
  cases hb:bs[i]? with
  |none=>rw[hb] at hP';cases hP'
  |some b=>
   rw[hb] at hP'
   cases hP'
   simp only[hb,Option.getD_some] at hQ
   exact wpAny_truthy_bool hQ
 ·have e:((List.range (bs.map Value.bool).toArray.size).any fun i=>(bs[i]?).getD false)=bs.any id:=by
   rw[List.size_toArray,List.length_map];exact LSm.range_any bs
  rw[e]
  exact⟨.bl _,H,I.kept (t':=tk) (LSm.kept_iter hk),rfl,q⟩
end
end L2
namespace L2
open PySem PySem.Spec PyProof.Rows
end L2
namespace L2
open PySem PySem.Spec PyProof.Rows
section
variable{X:Cx}{o e:Expr}{to:TE}{t:TA}{apos cpos:Pos}
theorem aGr:∀{ns:List Int}{us:List Value},Vals (ns.map V.int) us->IntsAre us ns
 |[],_,.nil=>.nil
 |n::ns,_,.cons r t=>by
  obtain⟨k,rfl⟩:=(show ∃k,_=Value.int n k from r)
  exact .cons n k (aGr t)
def aDa(K:W.Frag):V->List V->Hp->VK->Prop:=fun x vs H Q=>∃(l:Addr) (ns:List Int) (k:Int),x=.ref l/\vs=[.int k]/\bG K H l (ns.map V.int)/\Q (.int (ns.count k:Nat)) H
theorem aIL:MtR X "list.count" (aDa X.K):=by
 intro pins s σ H x vs v us Q I rx rv h
 obtain⟨l,ns,k,rfl,rfl,hS,q⟩:=h
 cases rx
 obtain⟨u,rfl,ru⟩:=rv.one
 obtain⟨tk,rfl⟩:=(show ∃tk,u=Value.int k tk from ru)
 obtain⟨its,r,pl,hz⟩:=I.list hS
 exact count_list_ints pl.isList (aGr r) ⟨.int (ns.count k:Nat),H,I.tok _,⟨_,rfl⟩,q⟩
theorem aIM(ho:PE X o to)(ha:PA X [e] t)(hn:noStar e=true:=by rfl)(hbase:attributeBase o "count" X.env (eval o X.env)=eval o X.env:=by rfl)(hline:(apos.endLine == cpos.line)=true:=by rfl) :
  PE X (.Call (.Attribute o "count" apos) [e] [] cpos) (tBM X.K "list" (aDa X.K) to t):=
 aKA PySem.F.plainAttrs_list PySem.F.slot_list_count PySem.F.type_list_count aIL ho ha hbase (by rw[bL hn];rfl) hline (bL hn) (by rfl)
theorem aEt{K:W.Frag}{H:Hp}{Q:VK}{l:Addr}{ns:List Int}{k:Int}(h:bG K H l (ns.map V.int))(q:Q (.int (ns.count k:Nat)) H):aDa K (.ref l) [.int k] H Q:=⟨l,ns,k,rfl,rfl,h,q⟩
end
end L2
namespace L2.Z
open PySem PySem.Spec PyProof.Rows L2
theorem aCy{X:Cx}{K':PySem.W.Frag}{o e:Expr}{to:TE}{t:TA}{apos cpos:Pos}(ho:QE X o to)(ha:QA X [e] t)(hn:noStar e=true:=by rfl)(hbase:attributeBase o "count" X.env (eval o X.env)=eval o X.env:=by rfl)(hline:(apos.endLine == cpos.line)=true:=by rfl)(hK:X.K=K':=by rfl) :
  QE X (.Call (.Attribute o "count" apos) [e] [] cpos) (tBM K' "list" (aDa K') to t):=by subst hK;exact⟨L2.aIM ho.h ha.h hn hbase hline⟩
end L2.Z
namespace L2
open PySem PySem.W PyProof.Rows
section
variable{O:KeyOrd}{key:Nat->O.α}{N:Nat}{cmp:Nat->Nat->(Bool->Shared->Prop)->Shared->Prop}{s:Shared}
def kq(key:Nat->O.α)(p:Array Nat)(i:Nat):O.α:=key (p.getD i 0)
def Up(key:Nat->O.α)(p:Array Nat)(k:Nat):Prop:=∀i j,i<=j->j < k->O.kle (kq key p i) (kq key p j)
def Dn(key:Nat->O.α)(p:Array Nat)(k:Nat):Prop:=∀i j,i<=j->j < k->O.kle (kq key p j) (kq key p i)
def Row(N:Nat)(p:Array Nat):Prop:=p.Perm (List.toArray (List.range N))
theorem aEu{p q:Array Nat}{i j:Nat}(h:p[i]?=q[j]?):kq key p i=kq key q j:=by
 unfold kq
 rw[Array.getD_eq_getD_getElem?,Array.getD_eq_getD_getElem?,h]
theorem aIN{p:Array Nat}{a d:Nat}(ha:a < p.size)(hd:d<=a)(k:Nat):kq key (bubble p a d) k=if k=a - d then kq key p a else if a - d < k/\k<=a then kq key p (k - 1) else kq key p k:=by
 have e:=getElem?_bubble ha d hd k
 split
 ·rename_i h;rw[if_pos h] at e;exact aEu e
 ·rename_i h
  rw[if_neg h] at e
  split
  ·rename_i g;rw[if_pos g] at e;exact aEu e
  ·rename_i g;rw[if_neg g] at e;exact aEu e
theorem aDb{p:Array Nat}{i j:Nat}(hj:j<=p.size)(k:Nat):kq key (kas_rev p i j) k=if i<=k/\k < j then kq key p (i+j - 1 - k) else kq key p k:=by
 have e:=getElem?_mirror_all (i:=i) hj k
 split
 ·rename_i h;rw[if_pos h] at e;exact aEu e
 ·rename_i h;rw[if_neg h] at e;exact aEu e
theorem Row.size{p:Array Nat}(h:Row N p):p.size=N:=by
 have:=h.size_eq
 rw[this]
 simp
theorem Row.lt{p:Array Nat}(h:Row N p)(hN:0 < N)(i:Nat):p.getD i 0 < N:=by
 by_cases hi:i < p.size
 ·have e:p.getD i 0=p[i]:=by simp[Array.getD,hi]
  have m:p[i]∈p.toList:=by simp
  have m2:=(Array.perm_iff_toList_perm.mp h).mem_iff.mp m
  rw[e]
  simpa using m2
 ·have e:p.getD i 0=0:=by simp[Array.getD,hi]
  rw[e];exact hN
theorem Row.rev{p:Array Nat}(h:Row N p)(i j:Nat):Row N (kas_rev p i j):=(mirror_perm p i j _).trans h
theorem Row.bub{p:Array Nat}(h:Row N p)(i j:Nat):Row N (bubble p i j):=(bubble_perm p i j).trans h
theorem Up.more{p:Array Nat}{m:Nat}(h:Up key p m)(e:O.kle (kq key p (m - 1)) (kq key p m)):Up key p (m+1):=fun i j hij hj=>by
 by_cases hm:j < m
 ·exact h i j hij hm
 ·have ej:j=m:=by omega
  subst ej
  by_cases hi:i=j
  ·subst hi;exact KeyOrd.kle_refl _
  ·exact KeyOrd.kle_trans (h i (j - 1) (by omega) (by omega)) e
theorem Dn.more{p:Array Nat}{m:Nat}(h:Dn key p m)(e:O.kle (kq key p m) (kq key p (m - 1))):Dn key p (m+1):=fun i j hij hj=>by
 by_cases hm:j < m
 ·exact h i j hij hm
 ·have ej:j=m:=by omega
  subst ej
  by_cases hi:i=j
  ·subst hi;exact KeyOrd.kle_refl _
  ·exact KeyOrd.kle_trans e (h i (j - 1) (by omega) (by omega))
def Ans(key:Nat->O.α)(N:Nat)(cmp:Nat->Nat->(Bool->Shared->Prop)->Shared->Prop)(s:Shared):Prop:=∀i j (C:Bool->Shared->Prop),i < N->j < N->C (O.blt (key i) (key j)) s->cmp i j C s
theorem Ans.ask{α:Type}(hc:Ans key N cmp s)(hN:0 < N){p:Array Nat}(hp:Row N p){i j:Nat}{k:Bool->KasT α}{Q:α->Shared->Prop}(h1:O.klt (kq key p i) (kq key p j)->(k true).kasWp cmp Q s)(h2:O.kle (kq key p j) (kq key p i)->(k false).kasWp cmp Q s) :
  (KasT.ask (p.getD i 0) (p.getD j 0) k).kasWp cmp Q s:=by
 refine hc _ _ _ (hp.lt hN i) (hp.lt hN j) ?_
 cases e:O.blt (key (p.getD i 0)) (key (p.getD j 0)) with
 |true=>exact h1 e
 |false=>exact h2 e
theorem aFB(hc:Ans key N cmp s)(hN:0 < N){p:Array Nat}(hp:Row N p){Q:Nat->Shared->Prop}:∀{f m:Nat},f=N - m->1<=m->m<=N->Up key p m->
  (∀r,m<=r->r<=N->Up key p r->(r < N->O.klt (kq key p r) (kq key p (r - 1)))->Q r s)->(kas_asc p f m).kasWp cmp Q s
 |0,m,hf,h1,hm,hu,h=>h m (Nat.le_refl _) hm hu (fun z=>by omega)
 |f+1,m,hf,h1,hm,hu,h=>by
  refine hc.ask hN hp (fun z=>?_) (fun z=>?_)
  ·rw[if_pos rfl]
   exact h m (Nat.le_refl _) hm hu fun _=>z
  ·rw[if_neg (by decide)]
   exact aFB hc hN hp (by omega) (by omega) (by omega) (hu.more z) fun r a b c d=>h r (by omega) b c d
def Blk(key:Nat->O.α)(p:Array Nat)(n q:Nat):Prop:=∀i,n - (q+1)<=i->i < n->kq key p i=kq key p (n - 1)
theorem Blk.same{p:Array Nat}{n q:Nat}(h:Blk key p n q)(hz:n<=p.size)(k:Nat):kq key (kas_rev p (n - (q+1)) n) k=kq key p k:=by
 rw[aDb hz]
 split
 ·rename_i g
  rw[h k g.1 g.2]
  exact h _ (by omega) (by omega)
 ·rfl
theorem aAg(hc:Ans key N cmp s)(hN:0 < N){Q:Array Nat×Nat×Nat->Shared->Prop}:∀{f n q:Nat}{p:Array Nat},Row N p->f=N - n->1<=n->n<=N->q+1<=n->Dn key p n->Blk key p n q->
  (∀p' n' q',Row N p'->1<=n'->n'<=N->q'+1<=n'->Dn key p' n'->Blk key p' n' q'->Q (p',n',q') s)->(kas_desc f p n q).kasWp cmp Q s
 |0,n,q,p,hp,hf,h1,hn,hq,hd,hb,h=>h p n q hp h1 hn hq hd hb
 |f+1,n,q,p,hp,hf,h1,hn,hq,hd,hb,h=>by
  have hz:n<=p.size:=by rw[hp.size];exact hn
  refine hc.ask hN hp (fun z=>?_) (fun z=>?_)
  ·rw[if_pos rfl]
   have hd':Dn key p (n+1):=hd.more (KeyOrd.kle_of_klt z)
   split
   ·have e:=hb.same hz
    refine aAg hc hN (hp.rev _ _) (by omega) (by omega) (by omega) (by omega) (fun i j a b=>?_) (fun i a b=>?_) h
    ·rw[e,e];exact hd' i j a b
    ·have:i=n:=by omega
     subst this;rfl
   ·refine aAg hc hN hp (by omega) (by omega) (by omega) (by omega) hd' (fun i a b=>?_) h
    have:i=n:=by omega
    subst this;rfl
  ·rw[if_neg (by decide)]
   refine hc.ask hN hp (fun y=>?_) (fun y=>?_)
   ·rw[if_pos rfl]
    exact h p n q hp h1 hn hq hd hb
   ·rw[if_neg (by decide)]
    have e:kq key p (n - 1)=kq key p n:=KeyOrd.kle_antisymm z y
    refine aAg hc hN hp (by omega) (by omega) (by omega) (by omega) (hd.more y) (fun i a b=>?_) h
    show kq key p i=kq key p n
    by_cases hi:i < n
    ·rw[hb i (by omega) hi,e]
    ·have:i=n:=by omega
     subst this;rfl
theorem aGs(hc:Ans key N cmp s)(hN:0 < N){n:Nat}{p:Array Nat}{Q:Nat×Array Nat->Shared->Prop}(hp:Row N p)(h1:1<=n)(hn:n<=N)(hd:Dn key p n)(h:∀m p',Row N p'->1<=m->m<=N->Up key p' m->Q (m,p') s):(kas_tail3 n N p).kasWp cmp Q s:=by
 have hz:n<=p.size:=by rw[hp.size];exact hn
 unfold kas_tail3
 rw[KasT.kasWp_bind]
 refine aFB hc hN (hp.rev 0 n) rfl h1 hn (fun i j a b=>?_) fun r a b c _=>h r _ (hp.rev 0 n) (by omega) b c
 rw[aDb hz,aDb hz,if_pos ⟨Nat.zero_le _,by omega⟩,if_pos ⟨Nat.zero_le _,b⟩]
 exact hd _ _ (by omega) (by omega)
theorem yS(hc:Ans key N cmp s)(hN:0 < N){n:Nat}{p:Array Nat}{Q:Nat×Array Nat->Shared->Prop}(hp:Row N p)(h1:1<=n)(hn:n < N)(hd:Dn key p n)(hl:O.klt (kq key p n) (kq key p (n - 1)))(h:∀m p',Row N p'->1<=m->m<=N->Up key p' m->Q (m,p') s) :
  (kas_descPart n N p).kasWp cmp Q s:=by
 unfold kas_descPart
 rw[KasT.kasWp_bind]
 refine aAg hc hN hp rfl (by omega) (by omega) (by omega) (hd.more (KeyOrd.kle_of_klt hl)) (fun i a b=>by have:i=n:=(by omega);subst this;rfl) fun p' n' q' r1 r2 r3 r4 r5 r6=>?_
 have hz:n'<=p'.size:=by rw[r1.size];exact r3
 split
 ·refine aGs hc hN (r1.rev _ _) r2 r3 (fun i j a b=>?_) h
  have e:=r6.same hz
  show O.kle (kq key (kas_rev p' (n' - (q'+1)) n') j) (kq key (kas_rev p' (n' - (q'+1)) n') i)
  rw[e,e]
  exact r5 i j a b
 ·exact aGs hc hN r1 r2 r3 r5 h
theorem aIO(hc:Ans key N cmp s)(hN:0 < N){p:Array Nat}{Q:Nat×Array Nat->Shared->Prop}(hp:Row N p)(h:∀m p',Row N p'->1<=m->m<=N->Up key p' m->Q (m,p') s):(kas_count N p).kasWp cmp Q s:=by
 unfold kas_count
 rw[KasT.kasWp_bind]
 refine aFB hc hN hp rfl (Nat.le_refl _) hN (fun i j a b=>by have:i=j:=(by omega);subst this;exact KeyOrd.kle_refl _) fun n a b c d=>?_
 have hz:n<=p.size:=by rw[hp.size];exact b
 split
 ·exact h n p hp a b c
 ·rename_i ne
  have nN:n < N:=by
   have:n≠N:=fun z=>ne (by simp[z])
   omega
  split
  ·refine hc.ask hN hp (fun z=>?_) (fun z=>?_)
   ·rw[if_pos rfl]
    exact h n p hp a b c
   ·rw[if_neg (by decide)]
    have all:∀i,i < n->kq key p i=kq key p 0:=fun i hi=>KeyOrd.kle_antisymm (KeyOrd.kle_trans (c i (n - 1) (by omega) (by omega)) z) (c 0 i (by omega) hi)
    have e:∀k,kq key (kas_rev p 0 n) k=kq key p k:=fun k=>by
     rw[aDb hz]
     split
     ·rw[all _ (by omega),all k (by omega)]
     ·rfl
    refine yS hc hN (hp.rev 0 n) a nN (fun i j x y=>?_) ?_ h
    ·rw[e,e,all i (by omega),all j y]
     exact KeyOrd.kle_refl _
    ·rw[e,e]
     exact d nN
  ·have n1:n=1:=by omega
   subst n1
   exact yS hc hN hp (Nat.le_refl _) nN (fun i j x y=>by have:i=j:=(by omega);subst this;exact KeyOrd.kle_refl _) (d nN) h
theorem aAO(hc:Ans key N cmp s)(hN:0 < N){p:Array Nat}(hp:Row N p){k:Nat}(hu:Up key p k){Q:Nat->Shared->Prop}:∀{f l r:Nat},l<=r->r<=k->r - l<=f->
  (∀i,i < l->O.kle (kq key p i) (kq key p k))->(∀i,r<=i->i < k->O.klt (kq key p k) (kq key p i))->
  (∀m,m<=k->(∀i,i < m->O.kle (kq key p i) (kq key p k))->(∀i,m<=i->i < k->O.klt (kq key p k) (kq key p i))->Q m s)->(kas_place p k f l r).kasWp cmp Q s
 |0,l,r,hlr,hrk,hf,ha,hb,h=>h l (by omega) ha fun i x y=>hb i (by omega) y
 |f+1,l,r,hlr,hrk,hf,ha,hb,h=>by
  unfold kas_place
  by_cases g:l ≥ r
  ·rw[if_pos g]
   exact h l (by omega) ha fun i x y=>hb i (by omega) y
  ·rw[if_neg g]
   refine hc.ask hN hp (fun z=>?_) (fun z=>?_)
   ·rw[if_pos rfl]
    refine aAO hc hN hp hu (by omega) (by omega) (by omega) ha (fun i x y=>?_) h
    exact KeyOrd.klt_of_klt_of_kle z (hu _ i x y)
   ·rw[if_neg (by decide)]
    refine aAO hc hN hp hu (by omega) (by omega) (by omega) (fun i x=>?_) hb h
    exact KeyOrd.kle_trans (hu i _ (by omega) (by omega)) z
theorem aIP(hc:Ans key N cmp s)(hN:0 < N){Q:Array Nat->Shared->Prop}:∀{f k:Nat}{p:Array Nat},Row N p->f=N - k->k<=N->Up key p k->(∀p',Row N p'->Up key p' N->Q p' s)->(kas_bin f p k).kasWp cmp Q s
 |0,k,p,hp,hf,hk,hu,h=>h p hp (by have:k=N:=(by omega);subst this;exact hu)
 |f+1,k,p,hp,hf,hk,hu,h=>by
  unfold kas_bin
  rw[KasT.kasWp_bind]
  refine aAO hc hN hp hu (Nat.zero_le _) (Nat.le_refl _) (by omega) (fun i x=>by omega) (fun i x y=>by omega) fun m hm ha hb=>?_
  have kz:k < p.size:=by rw[hp.size];omega
  refine aIP hc hN (hp.bub k (k - m)) (by omega) (by omega) (fun i j hij hj=>?_) h
  have em:k - (k - m)=m:=by omega
  rw[aIN kz (by omega),aIN kz (by omega),em]
  by_cases i1:i=m
  ·rw[if_pos i1]
   by_cases j1:j=m
   ·rw[if_pos j1];exact KeyOrd.kle_refl _
   ·rw[if_neg j1,if_pos (by omega)]
    exact KeyOrd.kle_of_klt (hb _ (by omega) (by omega))
  ·rw[if_neg i1]
   by_cases i2:m < i/\i<=k
   ·rw[if_pos i2,if_neg (by omega),if_pos (by omega)]
    exact hu _ _ (by omega) (by omega)
   ·rw[if_neg i2]
    by_cases j1:j=m
    ·rw[if_pos j1]
     exact ha i (by omega)
    ·rw[if_neg j1]
     by_cases j2:m < j/\j<=k
     ·rw[if_pos j2]
      exact hu _ _ (by omega) (by omega)
     ·rw[if_neg j2]
      exact hu _ _ (by omega) (by omega)
theorem aGt(hc:Ans key N cmp s)(hN:0 < N){Q:Array Nat->Shared->Prop}(h:∀p,Row N p->Up key p N->Q p s):(kas_sort N).kasWp cmp Q s:=by
 unfold kas_sort
 rw[KasT.kasWp_bind]
 refine aIO hc hN (Array.Perm.refl _) fun m p hp h1 hm hu=>?_
 split
 ·rename_i z
  have e:max m 1=m:=by omega
  show(kas_bin (N - max m 1) p (max m 1)).kasWp cmp Q s
  rw[e]
  exact aIP hc hN hp rfl hm hu h
 ·rename_i z
  have z':¬m < N:=z
  have e:m=N:=by omega
  subst e
  exact h p hp hu
end
end L2
namespace L2
open PySem PySem.W PyProof.Rows
def iZ:List Int->List Int->Bool
 |[],[]=>false
 |[],_::_=>true
 |_::_,[]=>false
 |a::as,b::bs=>if a=b then iZ as bs else decide (a < b)
theorem bZ(a b:Int)(as bs:List Int):iZ (a::as) (b::bs)=if a=b then iZ as bs else decide (a < b):=rfl
theorem yT:∀as:List Int,iZ as as=false
 |[]=>rfl
 |a::as=>by rw[bZ,if_pos rfl];exact yT as
theorem aAP:∀as bs cs:List Int,iZ as bs=true->iZ bs cs=true->iZ as cs=true
 |[],[],_,h,_=>by cases h
 |[],_::_,[],_,h=>by cases h
 |[],_::_,_::_,_,_=>rfl
 |_::_,[],_,h,_=>by cases h
 |_::_,_::_,[],_,h=>by cases h
 |a::as,b::bs,c::cs,h1,h2=>by
  rw[bZ] at h1 h2 ⊢
  by_cases e1:a=b
  ·subst e1
   rw[if_pos rfl] at h1
   by_cases e2:a=c
   ·rw[if_pos e2] at h2 ⊢;exact aAP as bs cs h1 h2
   ·rw[if_neg e2] at h2 ⊢;exact h2
  ·rw[if_neg e1] at h1
   have l1:=of_decide_eq_true h1
   by_cases e2:b=c
   ·subst e2
    rw[if_neg e1];exact h1
   ·rw[if_neg e2] at h2
    have l2:=of_decide_eq_true h2
    rw[if_neg (by omega)]
    exact decide_eq_true (by omega)
theorem aEv:∀as bs cs:List Int,iZ as cs=true->iZ as bs=true\/iZ bs cs=true
 |[],[],_,h=>.inr h
 |[],_::_,_,_=>.inl rfl
 |_::_,_,[],h=>by cases h
 |_::_,[],_::_,_=>.inr rfl
 |a::as,b::bs,c::cs,h=>by
  rw[bZ] at h
  rw[bZ,bZ]
  by_cases e1:a=b
  ·subst e1
   rw[if_pos rfl]
   by_cases e2:a=c
   ·rw[if_pos e2] at h ⊢;exact aEv as bs cs h
   ·rw[if_neg e2] at h ⊢;exact .inr h
  ·rw[if_neg e1]
   by_cases e2:b=c
   ·subst e2
    rw[if_neg e1] at h
    exact .inl h
   ·rw[if_neg e2]
    by_cases l:a < b
    ·exact .inl (decide_eq_true l)
    ·refine .inr (decide_eq_true ?_)
     by_cases e3:a=c
     ·omega
     ·rw[if_neg e3] at h
      have:=of_decide_eq_true h
      omega
theorem u4:∀as bs:List Int,iZ as bs=false->iZ bs as=false->as=bs
 |[],[],_,_=>rfl
 |[],_::_,h,_=>by cases h
 |_::_,[],_,h=>by cases h
 |a::as,b::bs,h1,h2=>by
  rw[bZ] at h1 h2
  by_cases e:a=b
  ·subst e
   rw[if_pos rfl] at h1 h2
   rw[u4 as bs h1 h2]
  ·rw[if_neg e] at h1
   rw[if_neg (Ne.symm e)] at h2
   have:=of_decide_eq_false h1
   have:=of_decide_eq_false h2
   omega
def u5:KeyOrd:=⟨List Int,iZ,yT,aAP,aEv,u4⟩
theorem pQ:∀{ns:List Int}{its:List Value},Vals (ns.map V.int) its->IntsAre its ns
 |[],_,r=>by cases r;exact .nil
 |n::ns,_,r=>by
  cases r with
  |cons h t=>
   obtain⟨u,rfl⟩:=h
   exact .cons n u (pQ t)
inductive uD (h:Heap):List Value->List (List Int)->Prop
 |nil:uD h [] []
 |cons {x:Addr} {o:Obj} {xs:Array Value} {k:Nat} {t:List Int} {vs:List Value} {ts:List (List Int)} (e:h.get? x=some o) (c:o.cls=.type "tuple") (d:o.data=.seq xs k) (i:IntsAre xs.toList t) (ne:t≠[]) (r:uD h vs ts):uD h (.ref x::vs) (t::ts)
theorem uD.length{h:Heap}{vs:List Value}{ts:List (List Int)}(r:uD h vs ts):vs.length=ts.length:=by
 induction r with
 |nil=>rfl
 |cons _ _ _ _ _ _ ih=>rw[List.length_cons,List.length_cons,ih]
theorem uD.at_{h:Heap}{vs:List Value}{ts:List (List Int)}(r:uD h vs ts):∀{j:Nat},j < vs.length->∃x o xs k,vs.getD j Value.none=.ref x/\h.get? x=some o/\o.data=.seq xs k/\IntsAre xs.toList (ts.getD j []):=by
 induction r with
 |nil=>intro j hj;simp at hj
 |cons e c d i ne r ih=>
  intro j hj
  cases j with
  |zero=>exact⟨_,_,_,_,rfl,e,d,i⟩
  |succ j=>exact ih (by simpa using hj)
theorem uD.keeps{h h':Heap}{vs:List Value}{ts:List (List Int)}(r:uD h vs ts)(k:∀(b:Addr) (o:Obj),o.cls=.type "tuple"->h.get? b=some o->h'.get? b=some o):uD h' vs ts:=by
 induction r with
 |nil=>exact .nil
 |cons e c d i ne _ ih=>exact .cons (k _ _ c e) c d i ne ih
theorem uD.aL0{h:Heap}{vs:List Value}{ts:List (List Int)}(r:uD h vs ts):∃fs:List Value,KatTups h vs fs/\fs.length=vs.length/\∀v∈fs,∃n u,v=Value.int n u:=by
 induction r with
 |nil=>exact⟨[],.nil,rfl,fun v z=>by cases z⟩
 |@cons x o xs k t vs ts e c d i ne _ ih=>
  obtain⟨fs,a1,a2,a3⟩:=ih
  obtain⟨n,u,hx⟩ : ∃n u,xs[0]?=some (Value.int n u):=by
   rw[<-Array.getElem?_toList]
   generalize xs.toList=l at i
   cases i with
   |nil=>exact absurd rfl ne
   |cons n u _=>exact⟨n,u,rfl⟩
  refine⟨.int n u::fs,.cons e c d hx a1,by rw[List.length_cons,List.length_cons,a2],fun v z=>?_⟩
  rcases List.mem_cons.mp z with z|z
  ·exact⟨n,u,z⟩
  ·exact a3 v z
section
variable{prog:Program}{w:World}{A:Around}{E:Value->Shared->Prop}{s:Shared}
theorem aEw{Q:Bool->Shared->Prop}:∀{xs ys:List Value}{as bs:List Int}{i:Nat}{fin:Bool},IntsAre xs as->IntsAre ys bs->fin=decide (as.length < bs.length)->Q (iZ as bs) s->KatLex prog w A true fin Q (xs.zip ys) i s
 |_,_,_,_,i,fin,.nil,.nil,hf,h=>kat_nil (by rw[hf];exact h)
 |_,_,_,_,i,fin,.nil,.cons _ _ _,hf,h=>kat_nil (by rw[hf];exact h)
 |_,_,_,_,i,fin,.cons _ _ _,.nil,hf,h=>kat_nil (by rw[hf];exact h)
 |_,_,_,_,i,fin,.cons a t r,.cons b u q,hf,h=>by
  refine kat_cons (wpAny_eqBool_int ?_)
  rw[bZ] at h
  by_cases e:a=b
  ·rw[if_pos e] at h
   rw[show(a == b)=true by simp[e]]
   refine kat_yes (aEw r q ?_ h)
   rw[hf,List.length_cons,List.length_cons]
   congr 1
   apply propext
   constructor <;> intro z <;> omega
  ·rw[if_neg e] at h
   rw[show(a == b)=false by simp[e]]
   refine kat_no ?_
   cases i with
   |zero=>exact oneLt_int h
   |succ i=>
    rw[show(true && (i+1 == 0))=false by simp]
    exact kat_one _ _ (PyProof.Rows.lt_int h)
theorem aIQ{vs:List Value}{ts:List (List Int)}(r:uD s.heap vs ts):Ans (O:=u5) (fun i=>ts.getD i []) vs.length (kas_ask prog w A (tuples' true) vs) s:=fun i j C hi hj h=>by
 obtain⟨x,ox,xs,n,e1,g1,d1,i1⟩:=r.at_ hi
 obtain⟨y,oy,ys,k,e2,g2,d2,i2⟩:=r.at_ hj
 unfold kas_ask
 rw[e1,e2]
 refine kat_lt g1 d1 g2 d2 (aEw i1 i2 ?_ h)
 rw[<-i1.length,<-i2.length,Array.length_toList,Array.length_toList]
def iG(vs:List Value)(p:Array Nat):Array Value:=List.toArray (p.toList.map fun i=>vs.getD i Value.none)
theorem aHi{a:Addr}{vs:List Value}{ts:List (List Int)}{n:Nat}{P:PySem.Fin->Shared->Prop}(ho:s.heap.get? a=some (seqObj "list" vs.toArray n))(hT:uD s.heap vs ts)(h64:vs.length < 64)
  (h:∀p,Row vs.length p->Up (O:=u5) (fun i=>ts.getD i []) p vs.length->P (.done (.ret .none)) { s with heap:=sortedHeap s.heap a vs (iG vs p) }) :
  wpAny (model prog w) A (Builtin.«list.sort» ⟨[.ref a],[]⟩) P E s:=by
 rw[list_sort_plain]
 have la:=Heap.lt_size ho
 refine wpAny_bind (listItems_at ho rfl (wpAny_bind (listUpdate_at ho rfl ?_)))
 obtain⟨e1,g1⟩ : ∃e,(s.heap.update a (Obj.mapSeq fun _=>#[])).get? a=some (seqObj "list" #[] e):=⟨_,get?_update_seq ho fun _=>#[]⟩
 refine wpAny_bind (seqEpoch_at g1 rfl (wpAny_bind (wpAny_newTuple (wpAny_bind (wpAny_newList (wpAny_holding ?_))))))
 generalize hh6:((s.heap.update a (Obj.mapSeq fun _=>#[])).push (seqObj "tuple" vs.toArray 0)).push (seqObj "list" #[] 0)=h6
 have keep6:∀b o,b≠a->s.heap.get? b=some o->h6.get? b=some o:=fun b o nb e=>by
  have lb:=Heap.lt_size e
  rw[<-hh6,Heap.get?_push_ne _ _ _ (Nat.ne_of_lt (by rw[size_push',Heap.size_update];exact Nat.lt_succ_of_lt lb)),Heap.get?_push_ne _ _ _ (Nat.ne_of_lt (by rw[Heap.size_update];exact lb)),Heap.get?_update_ne _ _ _ _ nb]
  exact e
 have g6:h6.get? a=some (seqObj "list" #[] e1):=by
  rw[<-hh6,Heap.get?_push_ne _ _ _ (Nat.ne_of_lt (by rw[size_push',Heap.size_update];exact Nat.lt_succ_of_lt la)),Heap.get?_push_ne _ _ _ (Nat.ne_of_lt (by rw[Heap.size_update];exact la))]
  exact g1
 have fin:∀p,Row vs.length p->Up (O:=u5) (fun i=>ts.getD i []) p vs.length->P (.done (.ret .none)) { s with heap:=h6.update a (Obj.mapSeq fun _=>iG vs p) }:=fun p r u=>by
  rw[<-hh6]
  exact h p r u
 have T6:uD h6 vs ts:=hT.keeps fun b o c e=>keep6 b o (fun z=>by rw[z,ho] at e;cases e;exact absurd c (show ¬Value.type "list" = Value.type "tuple" by decide)) e
 show wpAny (model prog w) A _ P E { s with heap:=h6 }
 have hvz:vs.toArray.size=vs.length:=List.size_toArray
 dsimp only
 by_cases small:vs.toArray.size < 2
 ·rw[if_pos small,if_pos small]
  refine wpAny_bind (wpAny_pure ?_)
  rw[StateT.run_pure]
  refine wpAny_bind (wpAny_pure ?_)
  have ev:((vs.toArray.zip vs.toArray).map fun x=>x.2)=iG vs (List.toArray (List.range vs.length)):=by
   unfold iG
   match vs,hvz,small with
   |[],_,_=>simp
   |[v],_,_=>simp
   |_::_::_,_,z=>simp at z;omega
  refine wpAny_bind (seqEpoch_at g6 rfl (wpAny_bind (listUpdate_at g6 rfl ?_ (hsz2:=?_))))
  ·simp only[bne_self_eq_false,Bool.false_eq_true,if_false]
   refine wpAny_pure ?_
   show P (.done (.ret .none)) { s with heap:=h6.update a (Obj.mapSeq fun _=>(vs.toArray.zip vs.toArray).map fun x=>x.2) }
   rw[ev]
   exact fin _ (Array.Perm.refl _) fun i j x y=>by
    have z:i=j:=by omega
    subst z
    exact KeyOrd.kle_refl _
  ·show((vs.toArray.zip vs.toArray).map fun x=>x.2).size<=_
   rw[ev,iG,List.size_toArray,List.length_map,sizeLine_eq]
   simp
   omega
 ·rw[if_neg small,if_neg small]
  obtain⟨fs,f1,f2,f3⟩:=T6.aL0
  refine wpAny_bind (kat_kind (s:={ s with heap:=h6 }) (T:=.type "int") f1 (by omega) (fun v hv=>?_) rfl ?_)
  ·obtain⟨m,u,rfl⟩:=f3 v hv
   exact Looks.now
  rw[show(Value.type "int" != Value.type "tuple")=true by decide]
  refine wpAny_bind (wpAny_mono (kat_run (ks:=vs) (vs:=vs) (prog:=prog) (w:=w) (A:=A) (E:=E) (s:={ s with heap:=h6 }) (Q:=fun st' s'=>s'={ s with heap:=h6 }/\∃p,p.size=vs.length/\arrOf st'=p.map (kas_item (vs.toArray.zip vs.toArray))/\failedOf st'=none/\Row vs.length p/\Up (O:=u5) (fun i=>ts.getD i []) p vs.length)
   (G:=fun p s'=>s'={ s with heap:=h6 }/\Row vs.length p/\Up (O:=u5) (fun i=>ts.getD i []) p vs.length) rfl (by omega) h64 (fun p st' s' hz har hf hG=>⟨hG.1,p,hz,har,hf,hG.2.1,hG.2.2⟩) (aGt (aIQ (s:={ s with heap:=h6 }) T6) (by omega) fun p r u=>⟨rfl,r,u⟩)) ?_ fun _ _ e=>e)
  rintro ⟨_,st'⟩ s' ⟨rfl,p,hz,har,hf,hr,hu⟩
  dsimp only at har hf ⊢
  have eo:=kat_snds (ks:=vs) (vs:=vs) rfl har
  refine wpAny_bind (seqEpoch_at g6 rfl (wpAny_bind (listUpdate_at g6 rfl ?_ (hsz2:=?_))))
  ·rw[hf]
   simp only[bne_self_eq_false,Bool.false_eq_true,if_false]
   refine wpAny_pure ?_
   show P (.done (.ret .none)) { s with heap:=h6.update a (Obj.mapSeq fun _=>(arrOf st').map (·.2)) }
   rw[eo]
   exact fin p hr hu
  ·show((arrOf st').map (·.2)).size<=_
   rw[eo,List.size_toArray,List.length_map,Array.length_toList,hz,sizeLine_eq]
   omega
end
end L2
namespace L2
open PySem PySem.Spec PySem.W PyProof.Rows
theorem range_getD{α:Type}(d:α)(l:List α):(List.range l.length).map (fun i=>l.getD i d)=l:=by
 apply List.ext_getElem
 ·simp
 ·intro i h1 h2
  simp[List.getD_eq_getElem?_getD,List.getElem?_eq_getElem h2]
theorem aGu:∀{qs:List Addr}{its:List Value},Vals (qs.map V.ref) its->its=qs.map Value.ref
 |[],_,r=>by cases r;rfl
 |q::qs,_,r=>by
  cases r with
  |cons h t=>
   cases h
   rw[aGu t]
   rfl
theorem u6:∀(qs:List Addr),Vals (qs.map V.ref) (qs.map Value.ref)
 |[]=>.nil
 |q::qs=>.cons rfl (u6 qs)
structure mO(H:Hp)(qs:List Addr)(ts:List (List Int)):Prop where
 len:qs.length=ts.length
 at_:∀(j:Nat) q t,qs[j]?=some q->ts[j]?=some t->H q=some (.tup (t.map V.int))/\t≠[]
theorem mO.tail{H:Hp}{q:Addr}{t:List Int}{qs:List Addr}{ts:List (List Int)}(h:mO H (q::qs) (t::ts)):mO H qs ts:=⟨by have:=h.len;simpa using this,fun j a b x y=>h.at_ (j+1) a b x y⟩
theorem mO.rB{X:Cx}{pins:List (Addr×Obj)}{σ:St}{H:Hp}{s:Shared}(I:Inv X pins σ H s):∀{qs:List Addr}{ts:List (List Int)},mO H qs ts->uD s.heap (qs.map Value.ref) ts
 |[],[],_=>.nil
 |[],_::_,h=>by have:=h.len;simp at this
 |_::_,[],h=>by have:=h.len;simp at this
 |q::qs,t::ts,h=>by
  obtain⟨e,ne⟩:=h.at_ 0 q t rfl rfl
  obtain⟨_,its,r,o,g1,g2,n,g3⟩:=(show bI X.prog X.w H s.heap q (.tup (t.map V.int)) from I.hok q _ e)
  exact .cons g1 g2 g3 (by simpa using pQ r) ne (mO.rB I h.tail)
section
variable{X:Cx}
end
end L2
namespace L2
open PySem PySem.Spec PyProof.Rows
section
variable{prog:Program}{w:World}{A:Around}{E:Value->Shared->Prop}{s:Shared}{es:Array DictEntry}{d it vw:Addr}{i ep:Nat}
def Raw(h:Heap)(d:Addr)(es:Array DictEntry)(ep:Nat):Prop:=∃o,h.get? d=some o/\o.cls=.type "dict"/\o.data=.dict es ep
theorem Raw.ty(m:Raw s.heap d es ep):s.TypeIs (.ref d) "dict":=let ⟨o,a,b,_⟩:=m;⟨o,a,b⟩
theorem Raw.keep{h h':Heap}(m:Raw h d es ep)(k:∀o,h.get? d=some o->h'.get? d=some o):Raw h' d es ep:=let ⟨o,a,r⟩:=m;⟨o,k o a,r⟩
theorem aCz(d:Addr)(lo:(d == sysModules)=false):MeetsIn prog w (Builtin.«dict.items» ⟨[.ref d],[]⟩) (fun _ R s=>s.TypeIs (.ref d) "dict"/\
  R (.ok (.ret (.ref s.heap.objs.size))) { s with heap:=s.heap.push { cls:=.type "dict_items",data:=.fields #[.ref d] } }):=
 .of_wp fun A R s ⟨ty,h⟩=>by
  unfold Builtin.«dict.items»;with_reducible refine wpAny_bind ?_;unfold Builtin.Dict.noArgs
  refine wpAny_bind (wpAny_notOrdered_dict ty (show wpAny _ _ (pure d) _ _ s from wpAny_pure ?_))
  show wpAny _ _ (Builtin.Dict.showsAll d >>= _) _ _ s;unfold Builtin.Dict.showsAll
  rw[if_neg (fun z=>Bool.false_ne_true (lo.symm.trans z))];refine wpAny_bind (wpAny_pure ?_)
  exact wpAny_bind (wpAny_newObj_type (wpAny_pure (show _ from⟨_,rfl,h⟩)))
theorem aFC(d:Addr)(lo:(d == sysModules)=false):MeetsIn prog w (Builtin.«dict.values» ⟨[.ref d],[]⟩) (fun _ R s=>s.TypeIs (.ref d) "dict"/\
  R (.ok (.ret (.ref s.heap.objs.size))) { s with heap:=s.heap.push { cls:=.type "dict_values",data:=.fields #[.ref d] } }):=
 .of_wp fun A R s ⟨ty,h⟩=>by
  refine wpAny_bind (show _ from ?_);unfold Builtin.Dict.noArgs
  refine wpAny_bind (wpAny_notOrdered_dict ty (show wpAny _ _ (pure d) _ _ s from wpAny_pure ?_))
  show wpAny _ _ (Builtin.Dict.showsAll d >>= _) _ _ s;unfold Builtin.Dict.showsAll
  rw[if_neg (fun z=>Bool.false_ne_true (lo.symm.trans z))];refine wpAny_bind (wpAny_pure ?_)
  exact wpAny_bind (wpAny_newObj_type (wpAny_pure (show _ from⟨_,rfl,h⟩)))
theorem uJ{Q:Value->Shared->Prop}(hv:s.heap.IsItemsView vw d)(hm:Raw s.heap d es ep)
  (hQ:Q (.ref s.heap.objs.size) { s with heap:=s.heap.push { cls:=.type "dict_itemiterator",data:=.fields #[.none,.bool false,.ref d,.int 0 0,.int es.size 0,.int ep 0,.none,.none] } }) :
  wpAny (model prog w) A (pyIter (.ref vw)) Q E s:=by
 obtain⟨ov,a1,a2,a3⟩:=id hv;obtain⟨o,b1,b2,b3⟩:=id hm
 refine wpAny_pyIter_slot hv.typeIs F.slot_dict_items_iter (wpAny_call_entry F.slot_dict_items_iter hv.typeIs F.entry_dict_items_iter (show _ from ?_) (F.args_dict_items_iter_1 _))
 unfold Builtin.«dict_items.__iter__»;refine wpAny_bind (wpAny_pure ?_);with_reducible refine wpAny_bind ?_
 unfold Builtin.Dict_items.dictOf;refine wpAny_bind (wpAny_field a1 a3 (x:=.ref d) rfl (wpAny_pure ?_));with_reducible refine wpAny_bind ?_
 unfold Builtin.Dict_items.newIterator;refine wpAny_bind (wpAny_dictEntries b1 b3 (wpAny_bind (wpAny_dictEpoch b1 b3 ?_)))
 have own:Builtin.Dict_items.ownsTuple "dict_itemiterator" = true:=rfl
 simp only[own,if_true]
 refine wpAny_newObj_type (wpAny_pure ⟨_,rfl,"dict_itemiterator",_,⟨_,Heap.get?_push_size _ rfl,rfl⟩,F.slot_dict_itemiterator_next.lookup,(show _ from ?_)⟩)
  (by simp only[sizeOk,Builtin.Dict_items.ownedTupleFields,List.size_toArray,List.length_append,List.length_cons,List.length_nil,sizeLine_eq];decide)
 simpa [Builtin.Dict_items.ownedTupleFields,rawInt] using hQ
theorem aAQ{Q:Value->Shared->Prop}(hv:s.heap.IsValuesView vw d)(hm:Raw s.heap d es ep)
  (hQ:Q (.ref s.heap.objs.size) { s with heap:=s.heap.push { cls:=.type "dict_valueiterator",data:=.fields #[.ref d,.int 0 0,.int es.size 0,.int ep 0] } }) :
  wpAny (model prog w) A (pyIter (.ref vw)) Q E s:=by
 obtain⟨ov,a1,a2,a3⟩:=id hv;obtain⟨o,b1,b2,b3⟩:=id hm
 refine wpAny_pyIter_slot hv.typeIs F.slot_dict_values_iter (wpAny_call_entry F.slot_dict_values_iter hv.typeIs F.entry_dict_values_iter (show _ from ?_) (F.args_dict_values_iter_1 _))
 unfold Builtin.«dict_values.__iter__»;refine wpAny_bind (wpAny_pure ?_);with_reducible refine wpAny_bind ?_
 unfold Builtin.Dict_items.dictOf;refine wpAny_bind (wpAny_field a1 a3 (x:=.ref d) rfl (wpAny_pure ?_));with_reducible refine wpAny_bind ?_
 unfold Builtin.Dict_items.newIterator;refine wpAny_bind (wpAny_dictEntries b1 b3 (wpAny_bind (wpAny_dictEpoch b1 b3 ?_)))
 have own:Builtin.Dict_items.ownsTuple "dict_valueiterator" = false:=rfl
 simp only[own,Bool.false_eq_true,if_false]
 refine wpAny_newObj_type (wpAny_pure ⟨_,rfl,"dict_valueiterator",_,⟨_,Heap.get?_push_size _ rfl,rfl⟩,F.slot_dict_valueiterator_next.lookup,(show _ from ?_)⟩)
 simpa [rawInt] using hQ
theorem aDc{Q:Value->Shared->Prop}(lo:(d == sysModules)=false)(hm:Raw s.heap d es ep)
  (hQ:Q (.ref s.heap.objs.size) { s with heap:=s.heap.push { cls:=.type "dict_keyiterator",data:=.fields #[.ref d,.int 0 0,.int es.size 0,.int ep 0] } }) :
  wpAny (model prog w) A (pyIter (.ref d)) Q E s:=by
 obtain⟨o,b1,b2,b3⟩:=id hm
 refine wpAny_pyIter_slot hm.ty F.slot_dict_iter (wpAny_call_entry F.slot_dict_iter hm.ty F.entry_dict_iter (show _ from ?_) (F.args_dict_iter_1 _))
 unfold Builtin.«dict.__iter__»;with_reducible refine wpAny_bind ?_;unfold Builtin.Dict.dictSlotNone
 refine wpAny_bind (wpAny_notOrdered_dict hm.ty (show wpAny _ _ (pure (Value.ref d)) _ _ s from wpAny_pure ?_))
 show wpAny _ _ (Builtin.Dict.showsAll d >>= _) _ _ s;unfold Builtin.Dict.showsAll
 rw[if_neg (fun z=>Bool.false_ne_true (lo.symm.trans z))];refine wpAny_bind (wpAny_pure ?_)
 refine wpAny_bind (wpAny_dictEntries b1 b3 (wpAny_bind (wpAny_dictEpoch b1 b3 ?_)))
 refine wpAny_bind (wpAny_newObj_type (wpAny_pure ⟨_,rfl,"dict_keyiterator",_,⟨_,Heap.get?_push_size _ rfl,rfl⟩,F.slot_dict_keyiterator_next.lookup,(show _ from ?_)⟩))
 simpa [rawInt] using hQ
def It4(T:String)(h:Heap)(it d:Addr)(i n ep:Nat):Prop:=∃o,h.get? it=some o/\o.cls=.type T/\o.data=.fields #[.ref d,.int i 0,.int n 0,.int ep 0]
theorem It4.ty{T:String}{n:Nat}(x:It4 T s.heap it d i n ep):s.TypeIs (.ref it) T:=let ⟨o,a,b,_⟩:=x;⟨o,a,b⟩
theorem It4.keep{T:String}{n:Nat}{h h':Heap}(m:It4 T h it d i n ep)(k:∀o,h.get? it=some o->h'.get? it=some o):It4 T h' it d i n ep:=let ⟨o,a,r⟩:=m;⟨o,k o a,r⟩
theorem It4.turn{T:String}{n:Nat}{h:Heap}{o:Obj}(a:h.get? it=some o)(b:o.cls=.type T)(c:o.data=.fields #[.ref d,.int i 0,.int n 0,.int ep 0]) :
  It4 T (h.update it (Obj.mapFields (·.setIfInBounds 1 (rawInt ((i:Int)+1))))) it d (i+1) n ep:=
 ⟨_,Heap.get?_update_self _ a (Obj.isFreed_of_fields (Obj.data_mapFields c _)),(Obj.cls_mapFields ..).trans b,by rw[Obj.data_mapFields c];simp[rawInt]⟩
theorem aBG{Q:Option Value->Shared->Prop}{e:DictEntry}(hit:It4 "dict_valueiterator" s.heap it d i es.size ep)(hm:Raw s.heap d es ep)(hx:es[i]?=some e)
  (hQ:∀h',It4 "dict_valueiterator" h' it d (i+1) es.size ep->Heap.SameBut it s.heap h'->Q (some e.val) { s with heap:=h' }):wpAny (model prog w) A (pyNext (.ref it)) Q E s:=by
 obtain⟨o,a1,a2,a3⟩:=id hit;obtain⟨od,b1,b2,b3⟩:=id hm;have ty:=hit.ty
 unfold pyNext;refine wpAny_bind (wpAny_attempt (wpAny_callSpecial?_slot (name:=Str.ofString "__next__") ty F.slot_dict_valueiterator_next
  (wpAny_call_entry F.slot_dict_valueiterator_next ty F.entry_dict_valueiterator_next (show _ from ?_) (F.args_dict_valueiterator_next_1 _))))
 refine wpAny_bind (wpAny_pure ?_);refine wpAny_bind (show _ from ?_);refine wpAny_bind (show _ from ?_)
 first|refine wpAny_bind (wpAny_typeNameOfWhole_valiter ty (show _ from wpAny_pure ?_))|refine wpAny_bind (wpAny_typeNameOf_valiter ty (show _ from wpAny_pure ?_))
 refine wpAny_bind (wpAny_fieldsOf a1 a3 (show _ from ?_));have own:Builtin.Dict_items.ownsTuple "dict_valueiterator" = false:=rfl
 simp only[own,if_false,Bool.false_eq_true];show wpAny _ _ (if (Value.ref d == Value.none)=true then _ else _) _ _ s
 rw[if_neg (show ¬((Value.ref d == Value.none)=true) from fun z=>nomatch z)];refine wpAny_bind (wpAny_pure ?_)
 refine wpAny_bind (wpAny_dictEntries b1 b3 (show _ from ?_));rw[if_neg (show _ from by simp)];refine wpAny_bind (wpAny_pure ?_)
 refine wpAny_bind (wpAny_dictEpoch b1 b3 (show _ from ?_));rw[if_neg (show _ from by simp)];refine wpAny_pure (show _ from ?_)
 have il:i < es.size:=(Array.getElem?_eq_some_iff.mp hx).1
 have ee:es[i]=e:=(Array.getElem?_eq_some_iff.mp hx).2
 simp only[show ¬((i:Int) < 0) by omega,if_false,Int.toNat_natCast,hx]
 refine wpAny_bind (show _ from ?_)
 first|refine wpAny_bind (wpAny_typeNameOfWhole_valiter ty (show _ from wpAny_pure ?_))|refine wpAny_bind (wpAny_typeNameOf_valiter ty (show _ from wpAny_pure ?_))
 refine wpAny_bind (wpAny_isOneOf_valiter ty (show _ from ?_));show wpAny _ _ (setField (.ref it) 1 (rawInt ((i:Int)+1)) >>= _) _ _ s
 refine wpAny_bind (wpAny_setField a1 a3 (show _ by simp) (show _ from ?_));have t2:=It4.turn a1 a2 a3
 refine wpAny_bind (wpAny_holding (show _ from ?_))
 refine wpAny_bind (wpAny_isOneOf_valiter (s:={ s with heap:=s.heap.update it (Obj.mapFields (·.setIfInBounds 1 (rawInt ((i:Int)+1)))) }) t2.ty (show _ from ?_))
 refine wpAny_bind (wpAny_isOneOf_valiter (s:={ s with heap:=s.heap.update it (Obj.mapFields (·.setIfInBounds 1 (rawInt ((i:Int)+1)))) }) t2.ty (show _ from ?_))
 exact wpAny_pure (wpAny_pure ⟨_,rfl,wpAny_pure (hQ _ t2 (Heap.SameBut.update ..))⟩)
theorem aEx{Q:Option Value->Shared->Prop}{e:DictEntry}(hit:It4 "dict_keyiterator" s.heap it d i es.size ep)(hm:Raw s.heap d es ep)(hx:es[i]?=some e)
  (hQ:∀h',It4 "dict_keyiterator" h' it d (i+1) es.size ep->Heap.SameBut it s.heap h'->Q (some e.key) { s with heap:=h' }):wpAny (model prog w) A (pyNext (.ref it)) Q E s:=by
 obtain⟨o,a1,a2,a3⟩:=id hit;obtain⟨od,b1,b2,b3⟩:=id hm;have ty:=hit.ty
 unfold pyNext;refine wpAny_bind (wpAny_attempt (wpAny_callSpecial?_slot (name:=Str.ofString "__next__") ty F.slot_dict_keyiterator_next
  (wpAny_call_entry F.slot_dict_keyiterator_next ty F.entry_dict_keyiterator_next (show _ from ?_) (F.args_dict_keyiterator_next_1 _))))
 refine wpAny_bind (wpAny_pure ?_);refine wpAny_bind (show _ from ?_);refine wpAny_bind (show _ from ?_)
 first|refine wpAny_bind (wpAny_typeNameOfWhole_keyiter ty (show _ from wpAny_pure ?_))|refine wpAny_bind (wpAny_typeNameOf_keyiter ty (show _ from wpAny_pure ?_))
 refine wpAny_bind (wpAny_fieldsOf a1 a3 (show _ from ?_));have own:Builtin.Dict_items.ownsTuple "dict_keyiterator" = false:=rfl
 simp only[own,if_false,Bool.false_eq_true];show wpAny _ _ (if (Value.ref d == Value.none)=true then _ else _) _ _ s
 rw[if_neg (show ¬((Value.ref d == Value.none)=true) from fun z=>nomatch z)];refine wpAny_bind (wpAny_pure ?_)
 refine wpAny_bind (wpAny_dictEntries b1 b3 (show _ from ?_));rw[if_neg (show _ from by simp)];refine wpAny_bind (wpAny_pure ?_)
 refine wpAny_bind (wpAny_dictEpoch b1 b3 (show _ from ?_));rw[if_neg (show _ from by simp)];refine wpAny_pure (show _ from ?_)
 have il:i < es.size:=(Array.getElem?_eq_some_iff.mp hx).1
 have ee:es[i]=e:=(Array.getElem?_eq_some_iff.mp hx).2
 simp only[show ¬((i:Int) < 0) by omega,if_false,Int.toNat_natCast,hx]
 refine wpAny_bind (show _ from ?_)
 first|refine wpAny_bind (wpAny_typeNameOfWhole_keyiter ty (show _ from wpAny_pure ?_))|refine wpAny_bind (wpAny_typeNameOf_keyiter ty (show _ from wpAny_pure ?_))
 refine wpAny_bind (wpAny_isOneOf_keyiter ty (show _ from ?_));show wpAny _ _ (setField (.ref it) 1 (rawInt ((i:Int)+1)) >>= _) _ _ s
 refine wpAny_bind (wpAny_setField a1 a3 (show _ by simp) (show _ from ?_));have t2:=It4.turn a1 a2 a3
 refine wpAny_bind (wpAny_holding (show _ from ?_))
 refine wpAny_bind (wpAny_isOneOf_keyiter (s:={ s with heap:=s.heap.update it (Obj.mapFields (·.setIfInBounds 1 (rawInt ((i:Int)+1)))) }) t2.ty (show _ from ?_))
 exact wpAny_pure (wpAny_pure ⟨_,rfl,wpAny_pure (hQ _ t2 (Heap.SameBut.update ..))⟩)
theorem aDd{Q:Option Value->Shared->Prop}(hh:A.handled=none)(hit:It4 "dict_valueiterator" s.heap it d i es.size ep)(hm:Raw s.heap d es ep)(hx:es.size<=i)
  (hQ:∀h',Heap.ExtBut it s.heap h'->Q none { s with heap:=h' }):wpAny (model prog w) A (pyNext (.ref it)) Q E s:=by
 obtain⟨o,a1,a2,a3⟩:=id hit;obtain⟨od,b1,b2,b3⟩:=id hm;have ty:=hit.ty
 unfold pyNext;refine wpAny_bind (wpAny_attempt (wpAny_callSpecial?_slot (name:=Str.ofString "__next__") ty F.slot_dict_valueiterator_next
  (wpAny_call_entry F.slot_dict_valueiterator_next ty F.entry_dict_valueiterator_next (show _ from ?_) (F.args_dict_valueiterator_next_1 _))))
 refine wpAny_bind (wpAny_pure ?_);refine wpAny_bind (show _ from ?_);refine wpAny_bind (show _ from ?_)
 first|refine wpAny_bind (wpAny_typeNameOfWhole_valiter ty (show _ from wpAny_pure ?_))|refine wpAny_bind (wpAny_typeNameOf_valiter ty (show _ from wpAny_pure ?_))
 refine wpAny_bind (wpAny_fieldsOf a1 a3 (show _ from ?_));have own:Builtin.Dict_items.ownsTuple "dict_valueiterator" = false:=rfl
 simp only[own,if_false,Bool.false_eq_true];show wpAny _ _ (if (Value.ref d == Value.none)=true then _ else _) _ _ s
 rw[if_neg (show ¬((Value.ref d == Value.none)=true) from fun z=>nomatch z)];refine wpAny_bind (wpAny_pure ?_)
 refine wpAny_bind (wpAny_dictEntries b1 b3 (show _ from ?_));rw[if_neg (show _ from by simp)];refine wpAny_bind (wpAny_pure ?_)
 refine wpAny_bind (wpAny_dictEpoch b1 b3 (show _ from ?_));rw[if_neg (show _ from by simp)];refine wpAny_pure (show _ from ?_)
 simp only[show ¬((i:Int) < 0) by omega,if_false,Int.toNat_natCast,Array.getElem?_eq_none hx]
 refine wpAny_bind (show _ from ?_)
 first|refine wpAny_bind (wpAny_typeNameOfWhole_valiter ty (show _ from wpAny_pure ?_))|refine wpAny_bind (wpAny_typeNameOf_valiter ty (show _ from wpAny_pure ?_))
 show wpAny _ _ (setField (.ref it) 0 Value.none >>= _) _ _ s
 refine wpAny_bind (wpAny_setField a1 a3 (show _ by simp) (show _ from ?_));show wpAny _ _ (newExc (.type "StopIteration") [] >>= _) _ _ _
 refine wpAny_bind (show _ from ?_);simp only[newExc,newTuple];refine wpAny_bind (wpAny_newObj_type (show _ from ?_) (by size_fits))
 refine wpAny_bind (m:=firstArgMember _ _) (wpAny_of_eq (a:=Value.none) (show _ by first|rfl|(simp only[firstArgMember];rfl)) (show _ from ?_))
 refine wpAny_newObj_type (show _ from ?_) (by size_fits);simp only[raiseNew]
 refine wpAny_bind (wpAny_handled (show _ from ?_));rw[show A.in1.handled=none from hh];refine wpAny_bind (wpAny_pure (wpAny_throw ?_))
 refine wpAny_bind (wpAny_isInstance (T:="StopIteration") (b:=true) ⟨_,Heap.get?_push_size _ rfl,rfl⟩ isSubtype_stop (show _ from ?_))
 exact wpAny_pure (hQ _ (show _ from((Heap.SameBut.update ..).extBut.push _).push _))
theorem aFD{Q:Option Value->Shared->Prop}(hh:A.handled=none)(hit:It4 "dict_keyiterator" s.heap it d i es.size ep)(hm:Raw s.heap d es ep)(hx:es.size<=i)
  (hQ:∀h',Heap.ExtBut it s.heap h'->Q none { s with heap:=h' }):wpAny (model prog w) A (pyNext (.ref it)) Q E s:=by
 obtain⟨o,a1,a2,a3⟩:=id hit;obtain⟨od,b1,b2,b3⟩:=id hm;have ty:=hit.ty
 unfold pyNext;refine wpAny_bind (wpAny_attempt (wpAny_callSpecial?_slot (name:=Str.ofString "__next__") ty F.slot_dict_keyiterator_next
  (wpAny_call_entry F.slot_dict_keyiterator_next ty F.entry_dict_keyiterator_next (show _ from ?_) (F.args_dict_keyiterator_next_1 _))))
 refine wpAny_bind (wpAny_pure ?_);refine wpAny_bind (show _ from ?_);refine wpAny_bind (show _ from ?_)
 first|refine wpAny_bind (wpAny_typeNameOfWhole_keyiter ty (show _ from wpAny_pure ?_))|refine wpAny_bind (wpAny_typeNameOf_keyiter ty (show _ from wpAny_pure ?_))
 refine wpAny_bind (wpAny_fieldsOf a1 a3 (show _ from ?_));have own:Builtin.Dict_items.ownsTuple "dict_keyiterator" = false:=rfl
 simp only[own,if_false,Bool.false_eq_true];show wpAny _ _ (if (Value.ref d == Value.none)=true then _ else _) _ _ s
 rw[if_neg (show ¬((Value.ref d == Value.none)=true) from fun z=>nomatch z)];refine wpAny_bind (wpAny_pure ?_)
 refine wpAny_bind (wpAny_dictEntries b1 b3 (show _ from ?_));rw[if_neg (show _ from by simp)];refine wpAny_bind (wpAny_pure ?_)
 refine wpAny_bind (wpAny_dictEpoch b1 b3 (show _ from ?_));rw[if_neg (show _ from by simp)];refine wpAny_pure (show _ from ?_)
 simp only[show ¬((i:Int) < 0) by omega,if_false,Int.toNat_natCast,Array.getElem?_eq_none hx]
 refine wpAny_bind (show _ from ?_)
 first|refine wpAny_bind (wpAny_typeNameOfWhole_keyiter ty (show _ from wpAny_pure ?_))|refine wpAny_bind (wpAny_typeNameOf_keyiter ty (show _ from wpAny_pure ?_))
 show wpAny _ _ (setField (.ref it) 0 Value.none >>= _) _ _ s
 refine wpAny_bind (wpAny_setField a1 a3 (show _ by simp) (show _ from ?_));show wpAny _ _ (newExc (.type "StopIteration") [] >>= _) _ _ _
 refine wpAny_bind (show _ from ?_);simp only[newExc,newTuple];refine wpAny_bind (wpAny_newObj_type (show _ from ?_) (by size_fits))
 refine wpAny_bind (m:=firstArgMember _ _) (wpAny_of_eq (a:=Value.none) (show _ by first|rfl|(simp only[firstArgMember];rfl)) (show _ from ?_))
 refine wpAny_newObj_type (show _ from ?_) (by size_fits);simp only[raiseNew]
 refine wpAny_bind (wpAny_handled (show _ from ?_));rw[show A.in1.handled=none from hh];refine wpAny_bind (wpAny_pure (wpAny_throw ?_))
 refine wpAny_bind (wpAny_isInstance (T:="StopIteration") (b:=true) ⟨_,Heap.get?_push_size _ rfl,rfl⟩ isSubtype_stop (show _ from ?_))
 exact wpAny_pure (hQ _ (show _ from((Heap.SameBut.update ..).extBut.push _).push _))
theorem vZ{ok ov:Value}{Q:Option Value->Shared->Prop}{e:DictEntry}(hit:IsItemIter s.heap it d i es.size ep ok ov)(hm:Raw s.heap d es ep)(hx:es[i]?=some e)
  (hQ:∀h',IsItemIterOut h' it d (i+1) es.size ep e.key e.val s.heap.objs.size->h'.get? s.heap.objs.size=some { cls:=.type "tuple",data:=.seq #[e.key,e.val] }->
   h'.objs.size=s.heap.objs.size+1->(∀b o,b≠it->s.heap.get? b=some o->h'.get? b=some o)->Q (some (.ref s.heap.objs.size)) { s with heap:=h' }) :
  wpAny (model prog w) A (pyNext (.ref it)) Q E s:=by
 obtain⟨hp,g,dr,tk,os⟩:=s;obtain⟨od,b1,b2,b3⟩:=id hm
 have ty:Shared.TypeIs ⟨hp,g,dr,tk,os⟩ (.ref it) "dict_itemiterator":=⟨_,hit,rfl⟩
 unfold pyNext;refine wpAny_bind (wpAny_attempt (wpAny_callSpecial?_slot (name:=Str.ofString "__next__") ty F.slot_dict_itemiterator_next
  (wpAny_call_entry F.slot_dict_itemiterator_next ty F.entry_dict_itemiterator_next (show _ from ?_) (F.args_dict_itemiterator_next_1 _))))
 refine wpAny_bind (wpAny_pure ?_);refine wpAny_bind (show _ from ?_);refine wpAny_bind (show _ from ?_)
 first|refine wpAny_bind (wpAny_typeNameOfWhole_itemiter ty (show _ from wpAny_pure ?_))|refine wpAny_bind (wpAny_typeNameOf_itemiter ty (show _ from wpAny_pure ?_))
 refine wpAny_bind (wpAny_fieldsOf hit rfl (show _ from ?_));have own:Builtin.Dict_items.ownsTuple "dict_itemiterator" = true:=rfl
 simp only[own,if_true];show wpAny _ _ (if (Value.ref d == Value.none)=true then _ else _) _ _ _
 rw[if_neg (show ¬((Value.ref d == Value.none)=true) from fun z=>nomatch z)];refine wpAny_bind (wpAny_pure ?_)
 refine wpAny_bind (wpAny_dictEntries b1 b3 (show _ from ?_));rw[if_neg (show _ from by simp)];refine wpAny_bind (wpAny_pure ?_)
 refine wpAny_bind (wpAny_dictEpoch b1 b3 (show _ from ?_));rw[if_neg (show _ from by simp)];refine wpAny_pure (show _ from ?_)
 simp only[show ¬((i:Int) < 0) by omega,if_false,Int.toNat_natCast,hx]
 refine wpAny_bind (show _ from ?_)
 first|refine wpAny_bind (wpAny_typeNameOfWhole_itemiter ty (show _ from wpAny_pure ?_))|refine wpAny_bind (wpAny_typeNameOf_itemiter ty (show _ from wpAny_pure ?_))
 refine wpAny_bind (wpAny_isOneOf_itemiter ty (show _ from ?_));show wpAny _ _ (setField (.ref it) 3 (rawInt ((i:Int)+1)) >>= _) _ _ _
 refine wpAny_bind (wpAny_setField_rec hit (show _ by simp) fun j1 c1 d1=>(show _ from ?_))
 replace d1:Heap.SameBut it hp j1:=d1
 replace c1:IsItemIter j1 it d (i+1) es.size ep ok ov:=by
  unfold IsItemIter;rw[show((i+1:Nat):Int)=(i:Int)+1 by omega];simpa [rawInt] using c1
 have ty1:Shared.TypeIs ⟨j1,g,dr,tk,os⟩ (.ref it) "dict_itemiterator":=⟨_,c1,rfl⟩
 refine wpAny_bind (wpAny_holding (show _ from ?_));refine wpAny_bind (wpAny_isOneOf_itemiter ty1 (wpAny_bind (wpAny_isOneOf_itemiter ty1 (show _ from ?_))))
 show wpAny _ _ (Builtin.Dict_items.pairFromOwner (.ref it) 6 e.key e.val) _ _ ⟨j1,g,dr,tk,os⟩;unfold Builtin.Dict_items.pairFromOwner
 refine wpAny_bind (wpAny_newTuple (show _ from ?_))
 have c2:IsItemIter (j1.push { cls:=.type "tuple",data:=.seq #[e.key,e.val] }) it d (i+1) es.size ep ok ov:=Heap.get?_push_of_some _ c1
 generalize hj2:j1.push { cls:=.type "tuple",data:=.seq #[e.key,e.val] } = j2 at c2
 have z1:j1.objs.size=hp.objs.size:=d1.1
 have il:it < hp.objs.size:=Heap.lt_size hit
 have t2:j2.get? hp.objs.size=some { cls:=.type "tuple",data:=.seq #[e.key,e.val] }:=by rw[<-hj2,<-z1];exact Heap.get?_push_size _ rfl
 have z2:j2.objs.size=hp.objs.size+1:=by rw[<-hj2,Heap.size_push,z1]
 have k2:∀b o,b≠it->hp.get? b=some o->j2.get? b=some o:=fun b o hb q=>by rw[<-hj2];exact Heap.get?_push_of_some _ (d1.extBut b o hb q)
 show wpAny _ _ (Builtin.Dict_items.ownedTupleIsFree (.ref it) >>= _) _ _ ⟨j2,g,dr,tk,os⟩;rw[z1];clear hj2 c1 d1 ty1 z1 j1
 refine wpAny_bind (show _ from ?_);unfold Builtin.Dict_items.ownedTupleIsFree;refine wpAny_bind (wpAny_field c2 rfl (x:=.none) rfl (show _ from wpAny_pure ?_))
 simp only[if_true];refine wpAny_bind (wpAny_field c2 rfl (x:=ok) rfl (wpAny_bind (wpAny_field c2 rfl (x:=ov) rfl (show _ from ?_))))
 refine wpAny_bind (wpAny_setField_rec c2 (show _ by simp) fun j3 c3 d3=>(show _ from ?_))
 replace d3:Heap.SameBut it j2 j3:=d3;replace c3:IsItemIter j3 it d (i+1) es.size ep e.key ov:=c3
 refine wpAny_bind (wpAny_setField_rec c3 (show _ by simp) fun j4 c4 d4=>(show _ from ?_))
 replace d4:Heap.SameBut it j3 j4:=d4;replace c4:IsItemIter j4 it d (i+1) es.size ep e.key e.val:=c4
 refine wpAny_bind (wpAny_setField_rec c4 (show _ by simp) fun j5 c5 d5=>(show _ from ?_))
 replace d5:Heap.SameBut it j4 j5:=d5;replace c5:IsItemIterOut j5 it d (i+1) es.size ep e.key e.val hp.objs.size:=c5
 refine wpAny_bind (wpAny_setField_rec c5 (show _ by simp) fun j6 c6 d6=>(show _ from ?_))
 replace d6:Heap.SameBut it j5 j6:=d6;replace c6:IsItemIterOut j6 it d (i+1) es.size ep e.key e.val hp.objs.size:=c6
 have up:∀b o,b≠it->j2.get? b=some o->j6.get? b=some o:=fun b o hb q=>d6.extBut b o hb (d5.extBut b o hb (d4.extBut b o hb (d3.extBut b o hb q)))
 refine wpAny_bind (wpAny_letGo (wpAny_pure (wpAny_pure ⟨_,rfl,wpAny_pure (hQ j6 c6 (up _ _ (Nat.ne_of_gt il) t2) ?_ fun b o hb q=>up b o hb (k2 b o hb q))⟩)))
 show j6.objs.size=_;rw[d6.1,d5.1,d4.1,d3.1,z2]
theorem yU{ok ov:Value}{Q:Option Value->Shared->Prop}(hh:A.handled=none)(hit:IsItemIter s.heap it d i es.size ep ok ov)(hm:Raw s.heap d es ep)(hx:es.size<=i)
  (hQ:∀h',Heap.ExtBut it s.heap h'->Q none { s with heap:=h' }):wpAny (model prog w) A (pyNext (.ref it)) Q E s:=by
 obtain⟨od,b1,b2,b3⟩:=id hm;have ty:s.TypeIs (.ref it) "dict_itemiterator":=⟨_,hit,rfl⟩
 unfold pyNext;refine wpAny_bind (wpAny_attempt (wpAny_callSpecial?_slot (name:=Str.ofString "__next__") ty F.slot_dict_itemiterator_next
  (wpAny_call_entry F.slot_dict_itemiterator_next ty F.entry_dict_itemiterator_next (show _ from ?_) (F.args_dict_itemiterator_next_1 _))))
 refine wpAny_bind (wpAny_pure ?_);refine wpAny_bind (show _ from ?_);refine wpAny_bind (show _ from ?_)
 first|refine wpAny_bind (wpAny_typeNameOfWhole_itemiter ty (show _ from wpAny_pure ?_))|refine wpAny_bind (wpAny_typeNameOf_itemiter ty (show _ from wpAny_pure ?_))
 refine wpAny_bind (wpAny_fieldsOf hit rfl (show _ from ?_));have own:Builtin.Dict_items.ownsTuple "dict_itemiterator" = true:=rfl
 simp only[own,if_true];show wpAny _ _ (if (Value.ref d == Value.none)=true then _ else _) _ _ _
 rw[if_neg (show ¬((Value.ref d == Value.none)=true) from fun z=>nomatch z)];refine wpAny_bind (wpAny_pure ?_)
 refine wpAny_bind (wpAny_dictEntries b1 b3 (show _ from ?_));rw[if_neg (show _ from by simp)];refine wpAny_bind (wpAny_pure ?_)
 refine wpAny_bind (wpAny_dictEpoch b1 b3 (show _ from ?_));rw[if_neg (show _ from by simp)];refine wpAny_pure (show _ from ?_)
 simp only[show ¬((i:Int) < 0) by omega,if_false,Int.toNat_natCast,Array.getElem?_eq_none hx]
 refine wpAny_bind (show _ from ?_)
 first|refine wpAny_bind (wpAny_typeNameOfWhole_itemiter ty (show _ from wpAny_pure ?_))|refine wpAny_bind (wpAny_typeNameOf_itemiter ty (show _ from wpAny_pure ?_))
 show wpAny _ _ (setField (.ref it) 2 Value.none >>= _) _ _ s
 refine wpAny_bind (wpAny_setField hit rfl (show _ by simp) (show _ from ?_));show wpAny _ _ (newExc (.type "StopIteration") [] >>= _) _ _ _
 refine wpAny_bind (show _ from ?_);simp only[newExc,newTuple];refine wpAny_bind (wpAny_newObj_type (show _ from ?_) (by size_fits))
 refine wpAny_bind (m:=firstArgMember _ _) (wpAny_of_eq (a:=Value.none) (show _ by first|rfl|(simp only[firstArgMember];rfl)) (show _ from ?_))
 refine wpAny_newObj_type (show _ from ?_) (by size_fits);simp only[raiseNew]
 refine wpAny_bind (wpAny_handled (show _ from ?_));rw[show A.in1.handled=none from hh];refine wpAny_bind (wpAny_pure (wpAny_throw ?_))
 refine wpAny_bind (wpAny_isInstance (T:="StopIteration") (b:=true) ⟨_,Heap.get?_push_size _ rfl,rfl⟩ isSubtype_stop (show _ from ?_))
 exact wpAny_pure (hQ _ (show _ from((Heap.SameBut.update ..).extBut.push _).push _))
end
end L2
namespace L2
open PySem PySem.Spec PyProof.Rows
section
variable{X:Cx}{pins:List (Addr×Obj)}{σ:St}{H:Hp}{s:Shared}
theorem Inv.aGv{d:Addr}{kvs:List (List Key×V)}{o:Obj}(I:Inv X pins σ H s)(e:H d=some (.dT kvs))(ho:s.heap.get? d=some o):Inv X pins σ (upd H d (.frz o (.dT kvs))) s:=by
 have nd:∀b u,H b=some u->u≠.dT kvs->b≠d:=fun b u q n z=>by rw[z,e] at q;exact n (Option.some.inj q).symm
 refine I.step (h':=s.heap) (g':=s.gens) (d':=s.drawn) (t':=s.toks) (ch:=[]) (fun _ z=>nomatch z) (fun b u _ _ _ q _=>q) (fun b u _ _ _ q _=>⟨u.slots,q⟩) (fun b u _ _ n=>?_)
  (fun b u _ q=>⟨u,q⟩) (fun b xs q=>?_) (fun b u v q=>?_) (fun b ps q=>⟨#[],?_⟩) (fun m hm=>hm) (fun b u q=>?_) I.bare
 ·rw[aJ (fun z=>by rw[z,e] at n;cases n)];exact n
 ·rw[aJ (nd _ _ q (fun z=>by cases z))];exact q
 ·rw[aJ (nd _ _ q (fun z=>by cases z))];exact q
 ·rw[aJ (nd _ _ q (fun z=>by cases z)),q];simp
 ·have st:∀c v,H c=some v->bI X.prog X.w H s.heap c v->bI X.prog X.w (upd H d (.frz o (.dT kvs))) s.heap c v:=fun c v _ z=>
   z.zE (fun _ _ _ z=>z) (fun c z=>by rw[aJ (nd _ _ z (fun y=>by cases y))];exact z) fun c xs t z=>by rw[aJ (nd _ _ z (fun y=>by subst y;exact t))];exact z
  by_cases hb:b=d
  ·subst hb;rw[aH] at q;cases q;exact⟨ho,st b _ e (I.hok b _ e)⟩
  ·rw[aJ hb] at q
   exact st b u q (I.hok b u q)
end
theorem yA{H:Hp}:∀{kvs:List (List Key×V)}{xs:List (List Key×Addr×Value)},KT H kvs xs->∀{i:Nat}{p:List Key×V},kvs[i]?=some p->∃q,xs[i]?=some q/\H q.2.1=some (.tup (p.1.map kV))/\RelV p.2 q.2.2
 |[],_,r,i,p,h=>by simp at h
 |a::as,_,r,i,p,h=>by
  cases r with
  |cons x t=>
   cases i with
   |zero=>cases h;exact⟨_,rfl,x.2⟩
   |succ i=>exact yA t (i:=i) h
theorem rP{P:Program}{w:World}{H:Hp}{h:Heap}{d:Addr}{kvs:List (List Key×V)}(x:bI P w H h d (.dT kvs)):(d == sysModules)=false/\∃(o:Obj) (es:Array DictEntry) (ep:Nat) (xs:List (List Key×Addr×Value)),
  h.get? d=some o/\o.ExactDict/\o.data=.dict es ep/\KT H kvs xs/\es.toList=xs.map (entryOfKey (tupleKind (bN P w)))/\es.size=kvs.length:=by
 obtain⟨z,y,xs,r,o,es,ep,h1,h2,h3,h4,h5⟩:=x
 refine⟨y,o,es,ep,xs,h1,h2,h3,r,h4,?_⟩
 rw[size_of_entries h4]
 exact(Paired.length r).symm
def Iti(d:Addr)(o:Obj)(kvs:List (List Key×V)):It:=
 ⟨fun i H=>H d=some (.frz o (.dT kvs))/\i < kvs.length,fun i H x H'=>∃T b kv,H T=none/\x=.ref T/\kvs[i]?=some kv/\H b=some (.tup (kv.1.map kV))/\H'=upd H T (.tup [.ref b,kv.2]),fun i H=>H d=some (.frz o (.dT kvs))/\kvs.length<=i⟩
theorem zH:entryFor table "dict_itemiterator.__iter__" = some Builtin.«dict_keyiterator.__iter__»:=PySem.entryFor_alias (id':="dict_keyiterator.__iter__") (by kernel_rfl) rfl (by decide +kernel) (show _ by kernel_rfl)
theorem aFE{P:Program}{w:World}{K:PySem.W.Frag}{elts:List Expr}{x1:Nat}{tp:Pos}(d it:Addr)(o:Obj)(kvs:List (List Key×V))(es:Array DictEntry)(ep:Nat)(hc0:o.cls=.type "dict")(hd0:o.data=.dict es ep)(hn:es.size=kvs.length) :
  Turn P w K (.Tuple elts x1 tp) (Iti d o kvs) [it] it (fun i h=>∃ok ov,IsItemIter h it d i es.size ep ok ov) where
 mem:=by simp
 obj:=fun i h st b hb=>by
  obtain⟨ok,ov,he⟩:=st
  have z:b=it:=by simpa using hb
  subst z
  exact⟨_,he,fun v z=>by cases z⟩
 keep:=fun i h h' st k=>by
  obtain⟨ok,ov,he⟩:=st
  exact⟨ok,ov,k it (by simp) _ he⟩
 item:=by
  intro X hP hw hK hc i pins s σ H E I hf st hg
  subst hP hw hK
  obtain⟨ok,ov,he⟩:=st
  obtain⟨hd,hi⟩:=hg
  have hO:bI X.prog X.w H s.heap d (.frz o (.dT kvs)):=I.hok d _ hd
  obtain⟨ho,hO⟩:=hO
  obtain⟨lo,o',es',ep',xs,g1,g2,g3,rel,g4,g5⟩:=rP hO
  have eo:o'=o:=Option.some.inj (g1.symm.trans ho)
  subst eo
  have ee:es'=es/\ep'=ep:=by rw[hd0] at g3;injection g3 with a b;exact⟨a.symm,b.symm⟩
  obtain⟨e1,e2⟩:=ee
  subst e1 e2
  have raw:Raw s.heap d es' ep':=⟨o',ho,hc0,hd0⟩
  have hx:kvs[i]?=some kvs[i]:=List.getElem?_eq_getElem hi
  obtain⟨q,hq,hb,rv⟩:=yA rel hx
  have hex:es'[i]?=some (entryOfKey (tupleKind (bN X.prog X.w)) q):=by rw[entry_at g4,hq];rfl
  have hilt:it < s.heap.objs.size:=Heap.lt_size he
  refine vZ he raw hex fun h1 h2' hT hsz hk=>?_
  refine⟨_,rfl,wpAny_letOwnedTupleGo_items h2' fun h2 he2 hs2=>?_⟩
  replace hs2:Heap.SameBut it h1 h2:=hs2
  have hT2:h2.IsTuple s.heap.objs.size #[.ref q.2.1,q.2.2]:=⟨_,(hs2.2 _ (Nat.ne_of_gt hilt)).trans hT,rfl,_,rfl⟩
  have kk:∀b o,b∉[it]->s.heap.get? b=some o->h2.get? b=some o:=fun b o hb q=>by
   have n1:b≠it:=fun z=>hb (by simp[z])
   exact(hs2.2 b n1).trans (hk b o n1 q)
  have I2:Inv X pins σ (upd H s.heap.objs.size (.tup [.ref q.2.1,kvs[i].2])) { s with heap:=h2,toks:=s.toks }:=
   I.aCw kk hf (Nat.le_refl _) (show bI X.prog X.w _ h2 _ (.tup [.ref q.2.1,kvs[i].2]) from⟨bX (by simp),[.ref q.2.1,q.2.2],.cons rfl (.cons rv .nil),hT2⟩)
  have hfr:H s.heap.objs.size=none:=I.hok.fresh (Nat.le_refl _)
  refine⟨.ref s.heap.objs.size,_,I2,rfl,⟨_,q.2.1,kvs[i],hfr,rfl,hx,hb,rfl⟩,⟨_,_,he2⟩,fun b hb=>?_⟩
  have z:b=it:=by simpa using hb
  subst z
  rw[aJ (Nat.ne_of_lt hilt)]
  exact(hf b (by simp)).1
 done:=by
  intro X hP hw hK hc i pins s σ H E I hf st hg
  subst hP hw hK
  obtain⟨ok,ov,he⟩:=st
  obtain⟨hd,hi⟩:=hg
  have hO:bI X.prog X.w H s.heap d (.frz o (.dT kvs)):=I.hok d _ hd
  obtain⟨f0,f1,f2,f3,f4,f5⟩:=hf it (by simp)
  exact yU (I.ok.hd hc) he ⟨o,hO.1,hc0,hd0⟩ (by omega) fun h' eb=>⟨rfl,I.turned (t':=s.toks) (fun b o hb e=>eb b o hb e) f0 f1 f3 f4 f5⟩
 self:=fun _ _ _ _ _ st h=>by
  obtain⟨ok,ov,he⟩:=st
  refine wpAny_pyIter_slot ⟨_,he,rfl⟩ F.slot_dict_itemiterator_iter (wpAny_call_entry F.slot_dict_itemiterator_iter ⟨_,he,rfl⟩ zH ?_ (F.args_dict_itemiterator_iter_1 _))
  exact wpAny_pure ⟨_,rfl,"dict_itemiterator",_,⟨_,he,rfl⟩,F.slot_dict_itemiterator_next.lookup,h⟩
section
variable{X:Cx}{elts:List Expr}{x1:Nat}{tp:Pos}
def ImQ(R:It->Hp->Prop):V->Hp->Prop:=fun x H1=>∃d kvs,x=.ref d/\H1 d=some (.dT kvs)/\∀o,R (Iti d o kvs) (upd H1 d (.frz o (.dT kvs)))
def aFF(td:TE):TI:=fun σ H R=>td σ H (ImQ R)
theorem v3{o:Expr}{td:TE}{apos cpos:Pos}(ho:PE X o td)(hbase:attributeBase o "items" X.env (eval o X.env)=eval o X.env:=by rfl)(hline:(apos.endLine == cpos.line)=true:=by rfl) :
  PI X (.Tuple elts x1 tp) (.Call (.Attribute o "items" apos) [] [] cpos) (aFF td):=by
 intro pins s σ H R I h
 refine wpAny_Call_method (T:="dict") (id:="dict.items") hbase rfl hline PySem.F.plainAttrs_dict PySem.F.slot_dict_items PySem.F.type_dict_items (cN (ho pins s σ H _ I h) fun v s1 ⟨x,H1,I1,r1,q1⟩=>?_)
 obtain⟨d,kvs,e,hd,q⟩:=q1
 subst e
 cases r1
 obtain⟨lo,ob,es,ep,xs,g1,g2,g3,rel,g4,g5⟩:=rP (show bI X.prog X.w H1 s1.heap d (.dT kvs) from I1.hok d _ hd)
 have raw:Raw s1.heap d es ep:=⟨ob,g1,g2.1,g3⟩
 refine⟨raw.ty,fun b z=>by cases z;exact⟨ob,g1,g2.2.1⟩,?_⟩
 refine method_meetsIn PySem.F.slot_dict_items PySem.F.entry_dict_items rfl (PySem.evalArgs_none ⟨rfl,raw.ty,PySem.F.args_dict_items_1 _,_,aCz d lo,raw.ty,?_⟩)
 have I2:=I1.aGv hd g1
 show wpAny _ _ (pyIter (.ref s1.heap.objs.size)) _ _ _
 refine uJ (s:={ s1 with heap:=s1.heap.push { cls:=.type "dict_items",data:=.fields #[.ref d] } }) ⟨_,Heap.get?_push_size _ rfl,rfl,rfl⟩ (raw.keep fun o e=>Heap.get?_push_of_some _ e) ?_
 have hk:∀b u,s1.heap.get? b=some u->((s1.heap.push { cls:=.type "dict_items",data:=.fields #[.ref d] }).push { cls:=.type "dict_itemiterator",data:=.fields #[.none,.bool false,.ref d,.int 0 0,.int es.size 0,.int ep 0,.none,.none] }).get? b=some u:=
  fun b u e=>Heap.get?_push_of_some _ (Heap.get?_push_of_some _ e)
 refine⟨_,[(s1.heap.push { cls:=.type "dict_items",data:=.fields #[.ref d] }).objs.size],_,_,_,rfl,I2.kept (t':=s1.toks) hk,aFE d _ ob kvs es ep g2.1 g3 g5,⟨_,_,Heap.get?_push_size _ rfl⟩,fun b hb=>?_,q ob⟩
 have e:b=(s1.heap.push { cls:=.type "dict_items",data:=.fields #[.ref d] }).objs.size:=by simpa using hb
 have hle:s1.heap.objs.size<=b:=by rw[e,Heap.size_push];exact Nat.le_succ _
 exact I2.aEa hle (I2.hok.fresh hle)
end
section
variable{σ:St}{H:Hp}{nx:St->Hp->Prop}{rt:VK}{g:TG}{tb:TS}
theorem aHj{td:TE}{R:It->Hp->Prop}(h:td σ H (ImQ R)):aFF td σ H R:=h
theorem aKE{d:Addr}{kvs:List (List Key×V)}{R:It->Hp->Prop}(h1:H d=some (.dT kvs))(h:∀o,R (Iti d o kvs) (upd H d (.frz o (.dT kvs)))):ImQ R (.ref d) H:=⟨d,kvs,rfl,h1,h⟩
theorem aIR{d:Addr}{o:Obj}{kvs:List (List Key×V)}(Pv:Nat->St->Hp->Prop)(h0:Pv 0 σ H)(hl:∀i σ H,i<=kvs.length->Pv i σ H->H d=some (.frz o (.dT kvs)))
  (hs:∀i kv σ H T b,kvs[i]?=some kv->Pv i σ H->H T=none->H b=some (.tup (kv.1.map kV))->g (.ref T) σ (upd H T (.tup [.ref b,kv.2])) fun σ2 H2=>tb ⟨Pv (i+1),rt,nx,Pv (i+1)⟩ σ2 H2) (hd:∀σ H,Pv kvs.length σ H->nx σ H) :
  ∃W:Nat->Nat->St->Hp->Prop,(∃m,W 0 m σ H)/\∀i m σ H,W i m σ H->
   ((Iti d o kvs).stop i H/\nx σ H)\/((Iti d o kvs).go i H/\∃N:St->Hp->Prop,(∀σ' H',N σ' H'->∃m',m' < m/\W (i+1) m' σ' H')/\∀x H',(Iti d o kvs).yld i H x H'->g x σ H' fun σ2 H2=>tb ⟨N,rt,nx,N⟩ σ2 H2):=by
 refine⟨fun i m σ H=>m=kvs.length - i/\i<=kvs.length/\Pv i σ H,⟨kvs.length,by simp,Nat.zero_le _,h0⟩,?_⟩
 rintro i m σ H ⟨rfl,hi,p⟩
 have q:=hl i σ H hi p
 by_cases hlt:i < kvs.length
 ·refine .inr ⟨⟨q,hlt⟩,Pv (i+1),fun σ' H' p'=>⟨kvs.length - (i+1),by omega,rfl,hlt,p'⟩,fun x H' y=>?_⟩
  obtain⟨T,b,kv,hT,e1,hk,hb,e2⟩:=y
  subst e1 e2
  exact hs i kv σ H T b hk p hT hb
 ·have e:i=kvs.length:=by omega
  subst e
  exact .inl ⟨⟨q,Nat.le_refl _⟩,hd σ H p⟩
end
section
variable{X:Cx}{o:Expr}{td:TE}{apos cpos:Pos}
end
section
variable{X:Cx}{ek ev:Expr}{tk tv:TE}{pos:Pos}
theorem aHk{pins:List (Addr×Obj)}{σ:St}{H:Hp}{s:Shared}{a b:Addr}{v:V}{r:Value}{A:Around}{E:Value->Shared->Prop}{kvs:List (List Key×V)}{k:List Key}{Q:Unit->Shared->Prop}(hu:A.units < cLine)(I:Inv X pins σ H s)(e:H a=some (.dT kvs))(eb:H b=some (.tup (k.map kV)))(l:kvs.length < sizeLine)(rv:RelV v r)(h:∀s',Inv X pins σ (upd H a (.dT (putK kvs k v))) s'->Q () s') :
  wpAny (model X.prog X.w) A (dictSet a (.ref b) r) Q E s:=by
 obtain⟨z,hd,xs,rel,dd⟩:=aKB I.hok e
 have hz:xs.length<=sizeLine:=by rw[<-Paired.length rel];exact z
 have hl:(putK kvs k v).length<=sizeLine:=by have:=kD kvs k v;omega
 refine wpAny_dictSet_heap (hsz:=hz) hu (rK I.hok eb) dd fun h' dd' hs=>h _ ?_
 obtain⟨q,es,ep,hq,h2,h3,h4,_,h5⟩:=dd'
 refine aC5 I (by rw[e];exact True.intro) hs ⟨q,hq⟩ ⟨hl,hd,_,(rel.put k eb rv).keeps fun c ys ec=>?_,q,es,ep,hq,h2,h3,h4,h5⟩
 rw[aJ (aKw ec e (fun z=>nomatch z))]
 exact ec
def aFG(tk tv:TE):TE:=fun σ H Q=>∀d,H d=none->tk σ (upd H d (.dT [])) fun y H1=>tv σ H1 fun v H2=>∃b k,y=.ref b/\H2 b=some (.tup (k.map kV))/\H2 d=some (.dT [])/\Q (.ref d) (upd H2 d (.dT [(k,v)]))
theorem aAR(hu:X.A.units < cLine)(hk:PE X ek tk)(hv:PE X ev tv):PE X (.Dict [some ek] [ev] pos) (aFG tk tv):=by
 intro pins s σ H Q I h
 have hn:H s.heap.objs.size=none:=I.hok.fresh (Nat.le_refl _)
 have I0:Inv X pins σ (upd H s.heap.objs.size (.dT [])) { s with heap:=s.heap.push { cls:=.type "dict",data:=.dict #[] } }:=I.laid (a:=s.heap.objs.size) (o:=.dT []) (t':=s.toks) (fun _ _ q=>Heap.get?_push_of_some _ q) (Nat.le_refl _) (aEj s.heap I.big)
 refine wpAny_Dict_any rfl rfl (by simp) (by simp) ?_
 refine pairTrees_cons_walk (cN (hk pins _ σ _ _ I0 (h _ hn)) fun u s1 ⟨y,H1,I1,r1,q1⟩=>cN (hv pins s1 σ H1 _ I1 q1) fun v s2 ⟨x,H2,I2,r2,q2⟩=>pairTrees_nil_walk ?_)
 obtain⟨b,k,e,eb,ed,q⟩:=q2
 subst e
 cases r1
 unfold storeAll
 simp only[List.forIn_cons,List.forIn_nil]
 refine wpAny_bind (wpAny_bind (aHk hu I2 ed eb (by rw[sizeLine_eq];decide) r2 fun s3 I3=>?_))
 exact wpAny_pure (wpAny_pure ⟨.ref _,_,I3,rfl,q⟩)
end
end L2
namespace L2
section
variable{σ:St}{H:Hp}{Q:VK}
theorem aIS{tk tv:TE}(h:∀d,H d=none->tk σ (upd H d (.dT [])) fun y H1=>tv σ H1 fun v H2=>∃b k,y=.ref b/\H2 b=some (.tup (k.map kV))/\H2 d=some (.dT [])/\Q (.ref d) (upd H2 d (.dT [(k,v)]))):aFG tk tv σ H Q:=h
theorem aIT{td ty tx:TE}(h:td σ H fun x H1=>∃a,x=.ref a/\IsD H1 a/\ty σ H1 fun y H2=>tx σ H2 fun z H3=>∃o,kE H3 a y o/\Q (o.getD z) H3):aFu td ty tx σ H Q:=h
end
end L2
namespace L2.Z
open PySem PySem.Spec PyProof.Rows L2
section
variable{X:Cx}{o e f ek ev:Expr}{td ty tx tk tv:TE}{pos apos cpos tp:Pos}{elts:List Expr}{x1:Nat}
theorem v3(ho:QE X o td)(hbase:attributeBase o "items" X.env (eval o X.env)=eval o X.env:=by rfl)(hline:(apos.endLine == cpos.line)=true:=by rfl) :
  QI X (.Tuple elts x1 tp) (.Call (.Attribute o "items" apos) [] [] cpos) (aFF td):=⟨L2.v3 ho.h hbase hline⟩
theorem aAR(hu:X.A.units+9 < cLine)(hk:QE X ek tk)(hv:QE X ev tv):QE X (.Dict [some ek] [ev] pos) (aFG tk tv):=⟨L2.aAR (by omega) hk.h hv.h⟩
theorem aAE(hu:X.A.units+9 < cLine)(ho:QE X o td)(he:QE X e ty)(hf:QE X f tx)(base:attributeBase o "get" X.env (eval o X.env)=eval o X.env:=by rfl)
  (vO:((backTo cpos (starEach [e,f] X.env)).all (fun x=>!x.1) && (backToKw cpos (keywordEach [] X.env)).all (fun x=>x.1.isSome)
   && decide (([e,f]:List Expr).length+([]:List Keyword).length+(if ([]:List Keyword).isEmpty then 0 else 1) < 30))=true:=by rfl)
  (line:(apos.endLine == cpos.line)=true:=by rfl) (trees:backTo cpos (starEach [e,f] X.env)=[(false,eval e X.env),(false,eval f X.env)]:=by rfl) :
  QE X (.Call (.Attribute o "get" apos) [e,f] [] cpos) (aFu td ty tx):=⟨L2.aAE (by omega) ho.h he.h hf.h ⟨base,vO,line,trees⟩⟩
end
end L2.Z
namespace L2
open PySem PySem.Spec PyProof.Rows
section
variable{X:Cx}{tg:Expr}
end
section
variable{σ:St}{H:Hp}{Q:VK}{nx:St->Hp->Prop}{rt:VK}{g:TG}{tb:TS}
theorem aIU{td ty:TE}(h:td σ H fun x H1=>ty σ H1 fun y H2=>∃a v,x=.ref a/\kE H2 a y (some v)/\Q v H2):aIg td ty σ H Q:=h
theorem kE.f{H:Hp}{a b:Addr}{o:Obj}{kvs:List (List Key×V)}{k:List Key}(e:H a=some (.frz o (.dT kvs)))(eb:H b=some (.tup (k.map kV))):kE H a (.ref b) (oU kvs k):=.inr ⟨kvs,k,b,.inr ⟨o,e⟩,rfl,eb,rfl⟩
end
end L2
namespace L2.Z
open PySem PySem.Spec PyProof.Rows L2
section
variable{X:Cx}{o i l tg:Expr}{td ty tl:TE}{pos:Pos}
theorem rQ(hu:X.A.units+9 < cLine)(ho:QE X o td)(hi:QE X i ty)(hs:aLi i:=by intro _ _;rfl):QE X (.Subscript o i pos) (aIg td ty):=⟨L2.aJI (by omega) ho.h hi.h hs⟩
end
end L2.Z
namespace L2
open PySem PySem.Spec PyProof.Rows
section
open PySem.SeqAt
open PySem.AutoSeq1 (wpAny_loadPart')
open PySem.MeetsSeq PySem.MeetsSeq2 PySem.MeetsSeq3
end
section
variable{X:Cx}
end
end L2
namespace L2
open PySem PySem.Spec PyProof.Rows
structure Clo(P:Program)(w:World)(K:W.Frag)(mg:Str->Option Value)(base:Heap)(k:Nat)(f:Addr)(sp:Sp):Prop where
 ex:∃(o:Obj) (fd:FuncData) (ps:List Str),base.get? f=some o/\o.data=.func fd/\bO P w K mg base iB k f fd ps sp/\∀(s:Shared) (us:List Value),us.length=ps.length->BindsTo s fd ⟨us,[]⟩ (ps.zip us)
abbrev aCA(q:Str)(params:Arguments)(body:Expr)(scope:Scope)(cl:List (Str×Addr))(pm cd ct:Value):FuncData:=
  { name := "<lambda>", qualname := q, params, body := .expr body, scope, globals := mainGlobals, closure := cl, defaults := .none, kwdefaults := .none, doc := .none, pyModule := pm, annotations := none, code := cd, closureTuple := ct, builtins := builtinsNs }
abbrev rR(q:Str)(scope:Scope)(L f:Addr)(cd:Value)(cl:List (Str×Addr)):Env:=
 { scope:=scope,locals:=L,globals:=mainGlobals,cells:=cl,qual:=q ++ ".<locals>.",func:=some f,code:=cd,frame:=some L,builtins:=builtinsNs }
def cxL(P:Program)(w:World)(K:W.Frag)(mg:Str->Option Value)(base:Heap)(N:List Str)(q:Str)(scope:Scope)(f:Addr)(cd:Value)(cl:List (Str×Addr))(A:Around)(outer:List Env)(s:Shared)(H:Hp):Cx where
 prog:=P
 w:=w
 K:=K
 mg:=mg
 base:=base
 A:=A.deeper (rR q scope s.heap.objs.size f cd cl)
 N:=N
 s₀:=s
 H₀:=H
 env:=rR q scope s.heap.objs.size f cd cl
 outer:=outer
 stack:=rR q scope s.heap.objs.size f cd cl::outer
 ex:=[]
 calm:=true
 fn:=fun _=>false
 pn:=[]
 xe:=fun _ _=>False
structure aL1(base:Heap)(scope:Scope)(N ps:List Str)(cl:List (Str×Addr))(cap:St):Prop where
 kind:scope.kind=.function
 co:scope.isCoroutine=false
 gen:scope.isGenerator=false
 nocell:∀y∈scope.names,y.2≠.cell
 pre:N.take ps.length=ps
 nd:N.Nodup
 len:N.length=ps.length+cap.length
 par:∀x∈ps,scope.names.lookup x=some .local
 inj:∀x y c,cl.lookup x=some c->cl.lookup y=some c->x=y
 has:∀x,scope.names.lookup x=some .free->∃c,cl.lookup x=some c
 all:∀x c,cl.lookup x=some c->∃o v,base.get? c=some o/\o.data=.cell v
 cap:∀(i:Nat) x v,(N.drop ps.length)[i]?=some x->cap[i]?=some (some v)->scope.names.lookup x=some .free/\∃u c o,RelV v u/\cl.lookup x=some c/\base.get? c=some o/\o.data=.cell (some u)
theorem aGw{x:Str}{v:Value}:∀{l:List (Str×Value)},(l.map (·.1)).Nodup->(x,v)∈l->l.lookup x=some v
 |[],_,h=>by cases h
 |(y,u)::r,nd,h=>by
  rw[List.lookup_cons]
  rcases List.mem_cons.mp h with e|h'
  ·cases e
   rw[beq_self_eq_true]
  ·have ne:x≠y:=fun z=>by
    subst z
    exact(List.nodup_cons.mp nd).1 (List.mem_map.mpr ⟨(x,v),h',rfl⟩)
   rw[beq_eq_false_iff_ne.mpr ne]
   exact aGw (List.nodup_cons.mp nd).2 h'
theorem aKg{v:Value}{x:Str}:∀{P:List Str}{us:List Value}{i:Nat},P.Nodup->P[i]?=some x->us[i]?=some v->P.length=us.length->(P.zip us).reverse.lookup x=some v:=by
 intro P us i nd h1 h2 hl
 have hm:(x,v)∈(P.zip us).reverse:=by
  rw[List.mem_reverse]
  refine List.mem_of_getElem? (i:=i) ?_
  rw[List.getElem?_zip_eq_some]
  exact⟨h1,h2⟩
 refine aGw ?_ hm
 rw[List.map_reverse,List.map_fst_zip (Nat.le_of_eq hl)]
 exact List.pairwise_reverse.mpr (nd.imp fun h=>Ne.symm h)
def aGx(c:Addr)(q:Str)(n:Nat)(tl:TE)(cap:St):Sp:=fun ws H Q _=>H c=some (.cod q)/\ws.length=n/\tl (ws.map some++cap) H Q
theorem aFH{P:Program}{w:World}{K:W.Frag}{mg:Str->Option Value}{base:Heap}{N ps:List Str}{q:Str}{scope:Scope}{f:Addr}{cd:Value}{cl:List (Str×Addr)}{cap:St}{A:Around}{outer:List Env}{s:Shared}{H:Hp}{us:List Value}{vs:List V}{h':Heap}{tk:Nat}
  (S:aL1 base scope N ps cl cap) (hd:A.handled=none) (e0:aBB P w K mg base A outer s H) (hl:vs.length=ps.length) (r:Vals vs us)
  (hns:h'.Ns s.heap.objs.size fun x=>(ps.zip us).reverse.lookup x) (hk:∀b o,s.heap.get? b=some o->h'.get? b=some o) :
  Inv (cxL P w K mg base N q scope f cd cl A outer s H) [] (vs.map some++cap) H { s with heap:=h',toks:=tk }:=by
 have noA:∀b:Addr,b∉(cxL P w K mg base N q scope f cd cl A outer s H).ex:=fun b z=>absurd (show b∈([]:List Addr) from z) (by simp)
 refine⟨⟨e0.mod,S.kind,rfl,rfl,Nat.le_refl _,S.inj,fun y hy=>?_,fun y c z _=>(by cases z),fun _=>hd,Around.frames_deeper e0.frames,.inr ⟨rfl,rfl⟩,fun b z=>absurd z (noA b),e0.bs,e0.bsz,fun b _ _=>noA b,fun b z=>absurd z (noA b),e0.uC,e0.frf⟩,
  rfl,e0.bare,Un.kept hk,⟨_,hns,fun i y v h1 h2 h3=>?_⟩,fun y c h=>?_,e0.hok.fresh (Nat.le_refl _),fun y c h=>?_,fun p hp=>absurd (show p∈([]:List (Addr×Obj)) from hp) (by simp),e0.hok.kept hk,?_⟩
 ·have hy:scope.names.lookup y=some .cell\/scope.names.lookup y=some .free:=hy
  rcases hy with hy|hy
  ·exact absurd rfl (S.nocell _ (PySem.mem_of_lookup hy))
  ·exact S.has y hy
 ·have h1':N[i]?=some y:=h1
  by_cases hi:i < ps.length
  ·rw[List.getElem?_append_left (by rw[List.length_map];omega),List.getElem?_map] at h2
   obtain⟨v',hv',e⟩:=Option.map_eq_some_iff.mp h2
   cases e
   obtain⟨u,hu,rv⟩:=r.get hv'
   have hp:ps[i]?=some y:=by rw[<-S.pre,List.getElem?_take_of_lt hi];exact h1'
   have ndP:ps.Nodup:=by rw[<-S.pre];exact S.nd.sublist (List.take_sublist _ _)
   refine⟨u,rv,.inl ⟨S.par y (List.mem_of_getElem? hp),?_⟩⟩
   exact aKg ndP hp hu (by rw[<-hl];exact r.length)
  ·obtain⟨j,rfl⟩ : ∃j,i=ps.length+j:=⟨i - ps.length,by omega⟩
   rw[List.getElem?_append_right (by rw[List.length_map];omega),List.length_map,hl,Nat.add_sub_cancel_left] at h2
   obtain⟨hf,u,c,o,rv,ec,eo,ed⟩:=S.cap j y v (by rw[List.getElem?_drop];exact h1') h2
   exact⟨u,rv,.inr ⟨.inr hf,c,ec,o,hk _ _ (e0.bs c o eo).1,ed⟩⟩
 ·obtain⟨o,v,eo,ed⟩:=S.all y c h
  exact⟨v,o,hk _ _ (e0.bs c o eo).1,ed⟩
 ·obtain⟨o,v,eo,ed⟩:=S.all y c h
  exact(e0.bs c o eo).2
 ·show _=N.length
  rw[List.length_append,List.length_map,hl,S.len]
theorem aL2{P:Program}{w:World}{K:W.Frag}{mg:Str->Option Value}{base:Heap}{k:Nat}{f c:Addr}{q:Str}{params:Arguments}{body:Expr}{scope:Scope}{cl:List (Str×Addr)}{pm ct:Value}{N ps:List Str}{cap:St}{tl:TE}{o:Obj}
  (hf:base.get? f=some o) (ho:o.data=.func (aCA q params body scope cl pm (.ref c) ct)) (S:aL1 base scope N ps cl cap)
  (hbody:∀(A:Around) (outer:List Env) (s:Shared) (H:Hp),dI k (A.deeper (rR q scope s.heap.objs.size f (.ref c) cl))->PE (cxL P w K mg base N q scope f (.ref c) cl A outer s H) body tl) :
  bO P w K mg base iB (k+1) f (aCA q params body scope cl pm (.ref c) ct) ps (aGx c q ps.length tl cap):=by
 refine⟨fun vs H Q E h=>h.2.1,fun A outer s H args us vs Q E hr e0 hb r hsp=>?_⟩
 obtain⟨hcod,hl,hq⟩:=hsp
 have lim:s.heap.NoLimit:=e0.mod.nolimit.keeps fun b o e=>(e0.bs b o e).1
 have hcd:s.heap.CodeRec (.ref c) q:=by
  obtain⟨oc,vc,t,z1,z2,z3⟩:=e0.hok c _ hcod
  exact⟨c,oc,vc,t,rfl,z1,z2,z3⟩
 refine PySem.W.kla_callFunE hr.depth (e0.bs f _ hf).1 ho S.co S.gen rfl hcd (hb _ _ _ _ ?_)
 refine wpAny_newFunctionEnv S.nocell (fun y hy=>?_) (fun h₁ hns hsb=>⟨lim.fresh _ hsb,?_⟩) S.kind
 ·obtain⟨n,v⟩:=y
  exact S.par n (List.of_mem_zip hy).1
 show codeAny _ _ (.expr body (rR q scope s.heap.objs.size f (.ref c) cl)) _ _
 have hk₁:∀b o,s.heap.get? b=some o->h₁.get? b=some o:=fun b o e=>hsb.extBut b o (Nat.ne_of_lt (Heap.lt_size e)) (Heap.get?_push_of_some _ e)
 refine PySem.W.kla_codeExpr ?_
 have I:=aFH (tk:=s.toks+(ps.zip us).length) (q:=q) (f:=f) (cd:=.ref c) S hr.hd e0 hl r hns hk₁
 refine wpAny_mono (hbody A outer s H (hr.deeper _) [] _ _ H _ I hq) (fun u s' hs=>?_) fun e s' hs=>hs.elim
 obtain⟨v,H',J,rv,z⟩:=hs
 exact⟨v,H',J.os,J.bare,J.base,J.hok,rv,z⟩
def aDe(base h:Heap)(Z:List Addr):Heap:=PySem.W.hideAll h ((List.range h.objs.size).filter fun a=>!((base.get? a).isSome || Z.contains a))
theorem rS{base h:Heap}{Z:List Addr}{b:Addr}{o:Obj}(e:h.get? b=some o)(z:(∃u,base.get? b=some u)\/b∈Z):(aDe base h Z).get? b=some o:=by
 refine PySem.W.hideAll_get _ e fun hm=>?_
 have q:=(List.mem_filter.mp hm).2
 rcases z with ⟨u,z⟩|z
 ·rw[z] at q;simp at q
 ·rw[show Z.contains b=true from List.elem_iff.mpr z] at q
  simp at q
theorem aGy{base h:Heap}{Z:List Addr}{b:Addr}{o:Obj}(e:(aDe base h Z).get? b=some o):h.get? b=some o/\((∃u,base.get? b=some u)\/b∈Z):=by
 have e':h.get? b=some o:=PySem.W.of_hideAll _ e
 refine⟨e',?_⟩
 cases q1:base.get? b with
 |some u=>exact .inl ⟨u,rfl⟩
 |none=>
  cases q2:Z.contains b with
  |true=>exact .inr (List.elem_iff.mp q2)
  |false=>
   have hm:b∈(List.range h.objs.size).filter fun a=>!((base.get? a).isSome || Z.contains a):=List.mem_filter.mpr ⟨List.mem_range.mpr (Heap.lt_size e'),by rw[q1,q2];rfl⟩
   have z:(aDe base h Z).get? b=none:=PySem.W.hideAll_none _ hm
   rw[z] at e
   cases e
theorem Mod.keeps{K:W.Frag}{mg:Str->Option Value}{base base':Heap}(M:Mod K mg base)(k:∀b o,base.get? b=some o->base'.get? b=some o):Mod K mg base':=
 ⟨M.kin.keeps k,M.glob.keeps k,(let ⟨mb,h1,h2⟩:=M.blt;⟨mb,h1.keeps k,h2⟩),M.nolimit.keeps k,let ⟨bm,o,e1,e2,e3,r⟩:=M.bm;⟨bm,o,e1,e2,k _ _ e3,r⟩⟩
theorem aFI{h base:Heap}{Z:List Addr}{l:List Env}(hl:h.FunFrames base l)(hz:∀b∈frs l,b∉Z):h.FunFrames (aDe base h Z) l:=by
 induction l with
 |nil=>trivial
 |cons env rest ih=>
  obtain⟨hk,⟨L,o,hf,hn,ho,hd⟩,hr⟩:=hl
  have hL:L∈frs (env::rest):=by unfold frs;rw[List.filterMap_cons,hf];exact List.mem_cons_self
  refine⟨hk,⟨L,o,hf,?_,ho,hd⟩,ih hr fun b hb=>hz b (by unfold frs;rw[List.filterMap_cons,hf];exact List.mem_cons_of_mem _ hb)⟩
  cases q:(aDe base h Z).get? L with
  |none=>rfl
  |some u=>
   rcases(aGy q).2 with ⟨v,z⟩|z
   ·rw[hn] at z;cases z
   ·exact absurd z (hz L hL)
end L2
namespace L2
open PySem PySem.Spec PyProof.Rows
section
variable{X:Cx}{pins:List (Addr×Obj)}{σ:St}{H:Hp}{s:Shared}{c Pt:Addr}{q:Str}{params:Arguments}{body:Expr}{scope:Scope}{pos lpos:Pos}{cl:List (Str×Addr)}
theorem aIV{Q:Value->Shared->Prop}(I:Inv X pins σ H s)(hcode:X.env.code=.ref c)(hC:PySem.W.codeHdIn X.K c Pt=true)(hT:H Pt=some (.ctb pos q))(hq:X.env.qual ++ "<lambda>" = q)(hdef:defaultsOf params X.env=([],[]))(hcl:closureFor scope X.env=pure cl)
  (h:∀(f c':Addr) (pm ct:Value) (o:Obj) (H':Hp) (s':Shared),Inv X pins σ H' s'->aI H H'->s'.heap.get? f=some o->o.data=.func (aCA q params body scope cl pm (.ref c') ct)->H' f=none->H' c'=some (.cod q)->s.heap.objs.size<=f->Q (.ref f) s') :
  wpAny (model X.prog X.w) X.A (eval (.Lambda params body scope pos) X.env) Q X.xe s:=by
 obtain⟨ps,eP,ht,hc⟩:=I.hok Pt _ hT
 have hg:s.heap.Ns mainGlobals X.mg:=I.mod.glob.keeps I.bk
 have hgP:mainGlobals≠Pt:=fun z=>by
  obtain⟨o,es,ep,e,hd,_⟩:=hg
  rw[z,eP] at e
  cases e
  cases hd
 have hb:s.heap.BuiltinsAt X.mg Pt:=by
  obtain⟨bm,o,e1,e2,e3,e4,e5,e6⟩:=I.mod.bm
  have e3':=I.bk _ _ e3
  refine⟨bm,o,e1,e2,fun z=>?_,fun z=>?_,e3',e4,e5,e6⟩
  ·obtain⟨o',es,ep,e,hd,_⟩:=hg
   rw[z,e] at e3'
   cases e3'
   rw[hd] at e6
   cases e6
  ·rw[z,eP] at e3'
   cases e3'
   cases e4
 have hCd:PySem.W.CodeHd s.heap c Pt:=PySem.W.codeHd_of_K I.xJ hC
 refine PySem.W.kla_eval hdef ?_
 rw[hq]
 rcases hc with hn|⟨c',hs,hcd⟩
 ·refine PySem.W.kla_makeFunction (mg:=X.mg) (P:=Pt) (c:=c) (ps:=ps) hcl I.ok.glob hg hcode hCd eP ht hn hgP hb fun c' ctv h' tk hx hge hlt hrec htb=>?_
  have hnc:H c'=none:=I.hok.fresh hge
  have hx2:∀b o,b≠Pt->s.heap.get? b=some o->(h'.push (PySem.W.kla_obj "<lambda>" q params body scope cl ((X.mg "__name__").getD .none) c' ctv)).get? b=some o:=fun b o n e=>Heap.get?_push_of_some _ (hx b o n e)
  have np:∀b,H b=none->b≠Pt:=fun b n z=>by rw[z,hT] at n;cases n
  have ncP:c'≠Pt:=np c' hnc
  refine h h'.objs.size c' _ ctv _ (upd H c' (.cod q)) _ (I.step (h':=h'.push _) (g':=s.gens) (d':=s.drawn) (t':=tk) (ch:=[]) (fun _ z=>nomatch z) (fun b o _ _ _ e n=>hx2 b o (np b n) e) (fun b o _ _ _ e n=>⟨o.slots,hx2 b o (np b n) e⟩)
   (fun b o _ e n=>by rw[aJ (Nat.ne_of_lt (Nat.lt_of_lt_of_le (Heap.lt_size e) hge))];exact n) (fun b o _ e=>?_) (fun b xs e=>by rw[aJ (bC e hnc)];exact e) (fun b o u e=>by rw[aJ (bC e hnc)];exact e)
   (fun b ps e=>⟨#[],by rw[aJ (bC e hnc),e];simp⟩) (fun m hm=>hm.extBut (b:=Pt) hx2 (np _ I.free)) (fun b u e=>?_) I.bare) (aI.new hnc) (Heap.get?_push_size _ rfl) rfl ?_ aH (Nat.le_trans hge (Nat.le_of_lt hlt))
  ·by_cases hbP:b=Pt
   ·subst hbP
    exact⟨_,Heap.get?_push_of_some _ htb⟩
   ·exact⟨o,hx2 b o hbP e⟩
  ·by_cases hbc:b=c'
   ·subst hbc
    rw[aH] at e
    cases e
    obtain⟨c2,oc,vs,t,z1,z2,z3,z4⟩:=hrec
    cases z1
    exact⟨oc,vs,t,Heap.get?_push_of_some _ z2,z3,z4⟩
   ·rw[aJ hbc] at e
    by_cases hbP:b=Pt
    ·subst hbP
     rw[hT] at e
     cases e
     refine⟨_,Heap.get?_push_of_some _ htb,?_,.inr ⟨c',?_,aH⟩⟩
     ·rw[Array.toList_append]
      exact TriplesOk_snoc _ _ _ _ ht
     ·rw[Array.toList_append]
      exact codeAmong_snoc _ ht hn
    ·refine(I.hok b u e).zE (fun d v hd z=>hx2 d v ?_ z) (fun d z=>by rw[aJ (bC z hnc)];exact z) fun d xs _ z=>by rw[aJ (bC z hnc)];exact z
     rcases hd with z|z
     ·rw[z];exact hbP
     ·intro y
      rw[y,hT] at z
      cases z
  ·rw[aJ (Nat.ne_of_gt hlt)]
   exact I.hok.fresh (Nat.le_trans hge (Nat.le_of_lt hlt))
 ·refine PySem.W.kla_makeFunctionHit (mg:=X.mg) (P:=Pt) (c:=c) (ps:=ps) hcl I.ok.glob hg hcode hCd eP ht hs hb fun ctv h' tk hk hsz=>?_
  exact h h'.objs.size c' _ ctv _ H _ (I.kept fun b u e=>Heap.get?_push_of_some _ (hk b u e)) (aI.refl _) (Heap.get?_push_size _ rfl) rfl (I.hok.fresh hsz) hcd hsz
def PAL(X:Cx)(es:List Expr)(params:Arguments)(body:Expr)(scope:Scope)(lpos:Pos)(Pt:Addr)(q:Str)(cl:List (Str×Addr))(t:TA):Prop:=
 ∀(pos:Pos) (pins:List (Addr×Obj)) (s:Shared) (σ:St) (H:Hp) (Q:List V->Hp->Prop),Inv X pins σ H s->t σ H (fun vs H1=>H1 Pt=some (.ctb lpos q)/\Q vs H1)->
  wpAny (model X.prog X.w) X.A (spliced (backTo pos (starEach es X.env))) (fun us s'=>∃(vs:List V) (us0:List Value) (f c':Addr) (pm ct:Value) (o:Obj) (H1 H2:Hp),us=us0 ++ [.ref f]/\Vals vs us0/\Inv X pins σ H2 s'/\aI H1 H2/\
   s'.heap.get? f=some o/\o.data=.func (aCA q params body scope cl pm (.ref c') ct)/\H2 f=none/\H2 c'=some (.cod q)/\f∉frs X.stack/\Q vs H1) X.xe s
theorem aIW(hcode:X.env.code=.ref c)(hC:PySem.W.codeHdIn X.K c Pt=true)(hq:X.env.qual ++ "<lambda>" = q)(hdef:defaultsOf params X.env=([],[])){N:List Str}{n:Nat}{idx:List Nat}(S:dP X scope N n idx) :
  PAL X [.Lambda params body scope lpos] params body scope lpos Pt q (kY X.env scope.names []) pK:=by
 intro pos pins s σ H Q I h
 obtain⟨hT,hQ⟩:=h
 show wpAny _ _ (spliced ((false,eval (.Lambda params body scope lpos) X.env)::backTo pos (starEach [] X.env))) _ _ s
 refine Calls.spliced_cons (aIV I hcode hC hT hq hdef (uV (S.cells I)) fun f c' pm ct o H' s' I' sm e1 e2 e3 e4 e5=>?_)
 refine Calls.spliced_nil ⟨[],[],f,c',pm,ct,o,H,H',rfl,.nil,I',sm,e1,e2,e3,e4,fun z=>?_,hQ⟩
 obtain⟨_,o',e,_⟩:=I.stack.mem z
 exact absurd (Nat.lt_of_lt_of_le (Heap.lt_size e) e5) (Nat.lt_irrefl _)
theorem aIX{e:Expr}{es:List Expr}{te:TE}{t:TA}(ha:PE X e te)(hr:PAL X es params body scope lpos Pt q cl t)(hs:starEach (e::es) X.env=(false,eval e X.env)::starEach es X.env:=by rfl) :
  PAL X (e::es) params body scope lpos Pt q cl (bM te t):=by
 intro pos pins s σ H Q I h
 rw[hs]
 show wpAny _ _ (spliced ((false,eval e X.env)::backTo pos (starEach es X.env))) _ _ s
 refine Calls.spliced_cons (cN (ha pins s σ H _ I h) fun u s1 ⟨x,H1,I1,r1,q1⟩=>?_)
 refine cN (hr pos pins s1 σ H1 (fun vs H2=>Q (x::vs) H2) I1 q1) fun us s2 ⟨vs,us0,f,c',pm,ct,o,H2,H3,e0,r,I3,sm,e1,e2,e3,e4,e5,hQ⟩=>?_
 exact⟨x::vs,u::us0,f,c',pm,ct,o,H2,H3,by rw[e0];rfl,.cons r1 r,I3,sm,e1,e2,e3,e4,e5,hQ⟩
def aFJ(Pt:Addr)(lpos:Pos)(q:Str)(sp:(Addr->Sp->Prop)->Sp)(n:Nat)(tl:TE)(idx:List Nat)(t:TA):TE:=fun σ H Q=>t σ H fun vs H1=>H1 Pt=some (.ctb lpos q)/\
 ∀(f c':Addr) (H2:Hp) (C:Addr->Sp->Prop),aI H1 H2->H2 c'=some (.cod q)->C f (aGx c' q n tl (idx.map fun j=>(σ[j]?).join))->sp C (vs ++ [.ref f]) H2 Q E0
theorem rT{f:Addr}{fd:FuncData}{ps psL N:List Str}{idx:List Nat}{sp:(Addr->Sp->Prop)->Sp}{k kc:Nat}{x:Str}{p:Pos}{e:Expr}{es:List Expr}{t:TA}{tl:TE}
  (F:∀base':Heap,bO X.prog X.w X.K X.mg base' iB k f fd ps (sp (Clo X.prog X.w X.K X.mg base' (kc+1)))) (hr:dI k X.A) (hg:Gl X x) (hm:X.mg x=some (.ref f)) (hk:W.keepIn X.K (.ref f)=true) (hb:Binds X.K fd ps [])
  (hfn:∀y,X.fn y=true) (S:dP X scope N psL.length idx) (hpre:N.take psL.length=psL) (hpar:psL.all (fun x=>scope.names.lookup x == some .local)=true) (hco:scope.isCoroutine=false) (hgen:scope.isGenerator=false)
  (hbind:∀(cl:List (Str×Addr)) (pm cd ct:Value) (us:List Value),us.length=psL.length->bindArgs (aCA q params body scope cl pm cd ct) ⟨us,[]⟩=pure (psL.zip us))
  (ha:PAL X (e::es) params body scope lpos Pt q (kY X.env scope.names []) t)
  (hbody:∀(base':Heap) (f' c':Addr) (cl:List (Str×Addr)) (A:Around) (outer:List Env) (s:Shared) (H:Hp),dI kc (A.deeper (rR q scope s.heap.objs.size f' (.ref c') cl))->PE (cxL X.prog X.w X.K X.mg base' N q scope f' (.ref c') cl A outer s H) body tl)
  (hdb:(x == ("__debug__" : Str))=false:=by decide) (he:starEach (e::es) X.env=(false,eval e X.env)::starEach es X.env:=by rfl) (hpl:(backTo pos (starEach es X.env)).any (·.1)=false:=by rfl) :
  PE X (.Call (.Name x p) (e::es) [] pos) (aFJ Pt lpos q sp psL.length tl idx t):=by
 intro pins s σ H Q I h
 refine wpAny_Call_Name_kw (z0 I hg hm ?_ hdb)
 refine PySem.W.callWith_K (h₀:=X.base) I.ok.mod.kin hk (cN (ha pos pins s σ H _ I h) fun us s1 ⟨vs,us0,fl,c',pm,ct,o,H1,H2,e0,r,I2,sm,e1,e2,e3,e4,e5,hQ⟩=>⟨I2.xJ,?_⟩) he hpl
 subst e0
 generalize hcl:kY X.env scope.names []=cl at *
 have cels:=S.cells I2
 have clo:∀{y:Str} {d:Addr},cl.lookup y=some d->X.env.cells.lookup y=some d:=fun {y d} z=>m9 cels (by rw[hcl];exact z)
 have lkp:∀{y:Str} {d:Addr},(y,NameKind.free)∈scope.names->X.env.cells.lookup y=some d->cl.lookup y=some d:=fun {y d} h1 h2=>by rw[<-hcl];exact rL cels h1 h2
 have inZ:∀{y:Str} {d:Addr},cl.lookup y=some d->d∈fl::cl.map (·.2):=fun {y d} z=>List.mem_cons_of_mem _ (List.mem_map.mpr ⟨(y,d),PySem.mem_of_lookup z,rfl⟩)
 have memZ:∀d,d∈cl.map (·.2)->∃y,X.env.cells.lookup y=some d:=fun d z=>by
  obtain⟨⟨y,d'⟩,hm,e⟩:=List.mem_map.mp z
  have e':d'=d:=e
  subst e'
  rw[<-hcl] at hm
  rcases vX _ _ cels hm with q|q
  ·cases q
  ·exact⟨y,q⟩
 have keepB:∀b u,X.base.get? b=some u->(aDe X.base s1.heap (fl::cl.map (·.2))).get? b=some u:=fun b u z=>rS (I2.bk b u z) (.inl ⟨u,z⟩)
 have notfs:∀b∈frs X.stack,b∉fl::cl.map (·.2):=fun b hb z=>by
  rcases List.mem_cons.mp z with rfl|z
  ·exact e5 hb
  ·obtain⟨y,hy⟩:=memZ b z
   rcases List.mem_cons.mp (I2.aAo b hb) with q|q
   ·exact I2.cne y b hy q
   ·obtain⟨_,ob,eo,_⟩:=I2.ok.uC.mem q
    exact absurd (Nat.lt_of_lt_of_le (Heap.lt_size eo) (I2.ok.cab y b (hfn y) hy)) (Nat.lt_irrefl _)
 have aH3:aBB X.prog X.w X.K X.mg (aDe X.base s1.heap (fl::cl.map (·.2))) X.A X.stack s1 H2:=by
  refine⟨I2.ok.frames,I2.ok.mod.keeps keepB,fun b u z=>?_,Nat.le_of_eq (PySem.W.hideAll_size _ _),aFI I2.stack notfs,I2.aCS,I2.hok,I2.bare⟩
  obtain⟨z1,z2⟩:=aGy z
  refine⟨z1,?_⟩
  rcases z2 with ⟨u',z2⟩|z2
  ·exact(I2.bs b u' z2).2
  ·rcases List.mem_cons.mp z2 with rfl|z2
   ·exact e3
   ·obtain⟨y,hy⟩:=memZ b z2
    exact I2.freeC y b hy
 have caps:aL1 (aDe X.base s1.heap (fl::cl.map (·.2))) scope N psL cl (idx.map fun j=>(σ[j]?).join):=by
  refine⟨S.kind,hco,hgen,S.nocell,hpre,S.nd,by rw[List.length_map];exact S.len,fun y hy=>?_,fun y z d h1 h2=>I2.ok.inj y z d (clo h1) (clo h2),fun y hy=>?_,fun y d hy=>?_,fun i y v h1 h2=>?_⟩
  ·have:=List.all_eq_true.mp hpar y hy
   simpa using this
  ·have hmem:=PySem.mem_of_lookup hy
   obtain⟨d,hd⟩:=cels _ hmem rfl
   exact⟨d,lkp hmem hd⟩
  ·obtain⟨v,oc,eo,ed⟩:=I2.cell y d (clo hy)
   exact⟨oc,v,rS eo (.inr (inZ hy)),ed⟩
  ·obtain⟨j,z1,z2,z3⟩:=S.cap i y h1
   refine⟨z3,?_⟩
   rw[List.getElem?_map,z1] at h2
   have h2j:(σ[j]?).join=some v:=Option.some.inj h2
   have h2':σ[j]?=some (some v):=by
    cases qj:σ[j]? with
    |none=>rw[qj] at h2j;cases h2j
    |some w=>rw[qj] at h2j;rw[show w=some v from h2j]
   have hfree:=PySem.mem_of_lookup z3
   have hkind:=S.free _ hfree rfl
   obtain⟨m0,hn0,hl0⟩:=I2.loc
   obtain⟨u,ru,l⟩:=hl0 j y v z2 h2' (by rcases hkind with z|z;exact .inr (.inl z);exact .inr (.inr z))
   rcases l with ⟨z,_⟩|⟨_,d,ed,oc,eo,dd⟩
   ·rcases hkind with w|w
    ·rw[w] at z;cases z
    ·rw[w] at z;cases z
   ·exact⟨u,d,oc,ru,lkp hfree ed,rS eo (.inr (inZ (lkp hfree ed))),dd⟩
 have lamK:=aL2 (P:=X.prog) (w:=X.w) (K:=X.K) (mg:=X.mg) (N:=N) (ps:=psL) (rS e1 (.inr List.mem_cons_self)) e2 caps (hbody _ fl c' cl)
 have hC:Clo X.prog X.w X.K X.mg (aDe X.base s1.heap (fl::cl.map (·.2))) (kc+1) fl (aGx c' q psL.length tl (idx.map fun j=>(σ[j]?).join)):=
  ⟨o,_,psL,rS e1 (.inr List.mem_cons_self),e2,lamK,fun s us hl=>.of_eq (hbind cl pm (.ref c') ct us hl)⟩
 have hsp:=hQ fl c' H2 _ sm e4 hC
 have r2:Vals (vs ++ [.ref fl]) (us0 ++ [.ref fl]):=r.append (.cons rfl .nil)
 have hl:(us0 ++ [Value.ref fl]).length=ps.length:=by rw[<-r2.length];exact(F _).len _ _ _ _ hsp
 have hb':=hb s1 (us0 ++ [.ref fl]) I2.xJ (by rw[List.append_nil];exact hl)
 rw[List.append_nil] at hb'
 refine wpAny_call (codeAny_mono ((F _).run X.A X.stack s1 H2 ⟨us0 ++ [.ref fl],[]⟩ (us0 ++ [.ref fl]) (vs ++ [.ref fl]) Q E0 hr aH3 hb' r2 hsp) fun r s' hq=>?_)
 cases r with
 |error e=>exact False.elim hq
 |ok fl=>
  cases fl with
  |ret u=>exact I2.after hq
  |next=>exact False.elim hq
  |brk=>exact False.elim hq
  |cont=>exact False.elim hq
def aDf(C:Addr->Sp->Prop)(i:Nat)(t:TA):TE:=fun σ H Q=>∃f sp,σ[i]?=some (some (.ref f))/\C f sp/\t σ H fun vs H1=>sp vs H1 Q E0
theorem aAS{i k:Nat}{x:Str}{p:Pos}{e:Expr}{es:List Expr}{t:TA}(hN:X.N[i]?=some x)(hv:Vis X.env.scope x)(hr:dI k X.A)(ha:PA X (e::es) t)(hd:(x == ("__debug__" : Str))=false:=by decide)(hcd:(x == ("__classdict__" : Str))=false:=by decide)
  (he:starEach (e::es) X.env=(false,eval e X.env)::starEach es X.env:=by rfl) (hpl:(backTo pos (starEach es X.env)).any (·.1)=false:=by rfl) :
  PE X (.Call (.Name x p) (e::es) [] pos) (aDf (Clo X.prog X.w X.K X.mg X.base k) i t):=by
 intro pins s σ H Q I h
 obtain⟨f,sp,ei,hC,ht⟩:=h
 obtain⟨o,fd,ps,ef,ed,F,hb⟩:=hC.ex
 refine wpAny_Call_Name_kw (cN (aHL hN hv hd hcd pins s σ H (fun v H'=>v=.ref f/\H'=H) I ⟨_,ei,rfl,rfl⟩) fun u s0 ⟨v,H0,I0,rv,hvf,hH0⟩=>?_)
 subst hvf hH0
 obtain rfl:u=Value.ref f:=rv
 have hin:∀{pins' σ' H' s'},Inv X pins' σ' H' s'->W.Frag.In [(f,o)] s'.heap:=fun {pins' σ' H' s'} J a u z=>by
  rw[List.lookup_cons] at z
  split at z
  ·rename_i hb
   cases z
   rw[eq_of_beq hb]
   exact J.bk _ _ ef
  ·cases z
 have hkp:W.keepIn [(f,o)] (.ref f)=true:=by
  obtain⟨oc,od,odt,osl⟩:=o
  have:odt=.func fd:=ed
  subst this
  have z:List.lookup f [(f,({ cls:=oc,dict:=od,data:=.func fd,slots:=osl }:Obj))]=some { cls:=oc,dict:=od,data:=.func fd,slots:=osl }:=by rw[List.lookup_cons,beq_self_eq_true]
  unfold W.keepIn
  dsimp only
  rw[z]
 refine PySem.W.callWith_K (h₀:=s0.heap) (hin I0) hkp (cN (ha pos pins s0 σ H0 _ I0 ht) fun us s1 ⟨vs,H1,I1,r,q⟩=>⟨hin I1,?_⟩) he hpl
 have hl:us.length=ps.length:=by rw[<-r.length];exact F.len _ _ _ _ q
 refine wpAny_call (codeAny_mono (F.run X.A X.stack s1 H1 ⟨us,[]⟩ us vs Q E0 hr I1.aH3 (hb s1 us hl) r q) fun r s' hq=>?_)
 cases r with
 |error e=>exact False.elim hq
 |ok fl=>
  cases fl with
  |ret u=>exact I1.after hq
  |next=>exact False.elim hq
  |brk=>exact False.elim hq
  |cont=>exact False.elim hq
end
end L2
namespace L2
open PySem PySem.Spec PyProof.Rows
structure aKh(K:W.Frag)(fd:FuncData)(c Pt:Addr):Prop where
 code:fd.code=.ref c
 hd:PySem.W.codeHdIn K c Pt=true
theorem jA.okC{P:Program}{w:World}{K:W.Frag}{mg:Str->Option Value}{base:Heap}{x qual:Str}{st:Stmt}{f c Pt:Addr}{fd:FuncData}{N ps:List Str}{k:Nat}{sp:Sp}(F:jA K x qual st f fd)(hc:aKh K fd c Pt)(S:aX N ps (aB st))(len:∀vs H Q E,sp vs H Q E->vs.length=ps.length)
  (hbody:∀(A:Around) (outer:List Env) (s:Shared) (H:Hp) (vs:List V) (Q:VK) (E:XK),dI k (A.deeper (envOfC qual (aB st) s.heap.objs.size f (.ref c)))->sp vs H Q E->
   ∃t,PSs (aFo iB P w K mg base N qual (aB st) f (.ref c) A outer s H E).nox (aW st) t/\t { nx:=fun _ H'=>Q .non H',rt:=Q } (start N vs) H):bO P w K mg base iB (k+1) f fd ps sp:=by
 obtain⟨oc,od,kV,doc,pm,an,cdv,ct,osl,rfl,lk,hcd⟩:=F.ex
 obtain rfl:cdv=.ref c:=hc.code
 refine aKy lk hcd S len fun A outer s H vs Q E hr hsp=>?_
 obtain⟨t,h,q⟩:=hbody A outer s H vs Q E hr hsp
 exact⟨t,h.nox,q⟩
theorem aCB{β:Type}{b:Addr}{p:β}:∀{l:List (Addr×β)},l.lookup b=some p->(b,p)∈l
 |[],h=>by cases h
 |(d,x)::r,h=>by
  rw[List.lookup_cons] at h
  cases hb:b == d with
  |true=>rw[hb] at h;cases h;rw[eq_of_beq hb];exact .head _
  |false=>rw[hb] at h;exact .tail _ (aCB h)
theorem aHl{P:Program}{w:World}{K:W.Frag}{mg mb:Str->Option Value}{k:Nat}{fa a:Addr}{fd:FuncData}{x:Str}{sp:Sp}{s₁:Shared}{vs:List Value}{ns:List Int}{tabs:List (Addr×Pos×Str)}
  (KX:K.In s₁.heap) (hns:s₁.heap.Ns mainGlobals mg) (hb:s₁.heap.Ns builtinsNs mb) (hbb:∀x:Str,x≠"__name__"->mb x=bootBuiltins x) (hlim:s₁.heap.NoLimit) (hbm:∃bm o,mg "__builtins__" = some (.ref bm)/\bm≠builtinsNs/\s₁.heap.get? bm=some o/\o.cls=.type "module"/\o.dict=some builtinsNs/\o.data=.plain) (hg:s₁.gens = #[])
  (ha:s₁.heap.get? a=some { cls:=.type "list",data:=.seq vs.toArray }) (hi:IntsAre vs ns) (hl:ns.length<=sizeLine) (hr:dI k callerA)
  (hT:∀t∈tabs,s₁.heap.get? t.1=some { cls:=.none,data:=.fields #[] }/\K.lookup t.1=none/\∃c,PySem.W.codeHdIn K c t.1=true) (hnd:(tabs.map (·.1)).Nodup)
  (F:∀base:Heap,K.In base->base.Ns mainGlobals mg->bO P w K mg base iB k fa fd [x] sp) (hbind:∀(s:Shared) (u:Value),BindsTo s fd ⟨[u],[]⟩ [(x,u)])
  (hsp:∀H:Hp,(∀t∈tabs,H t.1=some (.ctb t.2.1 t.2.2))->bG K H a (ns.map V.int)->sp [.ref a] H (fun v H'=>v=.bl true/\aI H H') fun _ _ _=>False) :
  codeAny (model P w) callerA (.call (.ref fa) ⟨[.ref a],[]⟩) (fun r s'=>r=.ok (.ret (.bool true))/\OldK s₁.heap s'.heap/\s'.os=s₁.os/\AllBare s'.gens) s₁:=by
 have rv:=xU hi
 have lenV:=hi.length
 have core:∀H:Hp,bG K H a (ns.map V.int)->qY P w H s₁.heap->(∀t∈tabs,H t.1=some (.ctb t.2.1 t.2.2))->(∀b u,H b=some u->(b=a/\K.lookup a=none/\∃o xs,u=.frz o (.lst xs))\/∃t∈tabs,b=t.1/\u=.ctb t.2.1 t.2.2)->
   codeAny (model P w) callerA (.call (.ref fa) ⟨[.ref a],[]⟩) (fun r s'=>r=.ok (.ret (.bool true))/\OldK s₁.heap s'.heap/\s'.os=s₁.os/\AllBare s'.gens) s₁:=by
  intro H hS hok hTH hA
  have base_of:∀{b:Addr} {o:Obj},s₁.heap.get? b=some o->H b=none->(uB s₁.heap H).get? b=some o:=fun e n=>aD8 e n
  have noA:∀{b:Addr} {o:Obj} {es:Array DictEntry} {ep:Nat},s₁.heap.get? b=some o->o.data=.dict es ep->H b=none:=fun {b o es ep} e d=>by
   cases q:H b with
   |none=>rfl
   |some u=>
    rcases hA b u q with ⟨e',_⟩|⟨t,ht,e',_⟩
    ·subst e'
     rw[ha] at e;cases e
     have d':Data.seq vs.toArray _=Data.dict es ep:=d
     cases d'
    ·rw[e',(hT t ht).1] at e;cases e
     have d':Data.fields _=Data.dict es ep:=d
     cases d'
  have nsK:∀{b:Addr} {m:Str->Option Value},s₁.heap.Ns b m->(uB s₁.heap H).Ns b m:=fun {b m} ⟨o,es,ep,e,d,r⟩=>⟨o,es,ep,base_of e (noA e d),d,r⟩
  have hKb:K.In (uB s₁.heap H):=fun b o e=>base_of (KX b o e) (by
   cases q:H b with
   |none=>rfl
   |some u=>
    rcases hA b u q with ⟨e',hn,_⟩|⟨t,ht,e',_⟩
    ·rw[e',hn] at e;cases e
    ·rw[e',(hT t ht).2.1] at e;cases e)
  have hbm':∃bm o,mg "__builtins__" = some (.ref bm)/\bm≠builtinsNs/\(uB s₁.heap H).get? bm=some o/\o.cls=.type "module"/\o.dict=some builtinsNs/\o.data=.plain:=by
   obtain⟨bm,ob,b1,b2,b3,b4,b5,b6⟩:=hbm
   refine⟨bm,ob,b1,b2,base_of b3 ?_,b4,b5,b6⟩
   cases q:H bm with
   |none=>rfl
   |some u=>
    rcases hA bm u q with ⟨e',_⟩|⟨t,ht,e',_⟩
    ·rw[e',ha] at b3
     cases b3
     exact absurd (show Value.type "list" = Value.type "module" from b4) (by decide)
    ·rw[e',(hT t ht).1] at b3
     cases b3
     exact absurd (show Value.none=Value.type "module" from b4) (by decide)
  have hM:Mod K mg (uB s₁.heap H):=⟨hKb,nsK hns,⟨mb,nsK hb,hbb⟩,(let ⟨mc,h1,h2⟩:=hlim;⟨mc,nsK h1,h2⟩),hbm'⟩
  have e0:aBB P w K mg (uB s₁.heap H) callerA [] s₁ H:=⟨rfl,hM,fun b o e=>aGc e,Nat.le_of_eq (aCj _ _),trivial,fun b hb=>absurd (show b∈([]:List Addr) from hb) (by simp),hok,.of_eq hg⟩
  refine codeAny_mono ((F _ hKb (nsK hns)).run callerA [] s₁ H ⟨[.ref a],[]⟩ [.ref a] [.ref a] _ _ hr e0 (hbind s₁ (.ref a)) (.cons rfl .nil) (hsp H hTH hS)) fun r s' h=>?_
  cases r with
  |error e=>exact False.elim h
  |ok fl=>
   cases fl with
   |next=>exact False.elim h
   |brk=>exact False.elim h
   |cont=>exact False.elim h
   |ret u=>
    obtain⟨v,H',os,bare,un,hok',r',q,sm⟩:=h
    have q':v=.bl true:=q
    subst q'
    obtain rfl:u=Value.bool true:=r'
    have key:∀b o,s₁.heap.get? b=some o->s'.heap.get? b=some o\/∃c ps,PySem.W.codeHdIn K c b=true/\o={ cls:=.none,data:=.fields #[] }/\s'.heap.get? b=some { cls:=.none,data:=.fields ps }:=fun b o e=>by
     cases q:H b with
     |none=>exact .inl (un.keep b o e q (by intro z;exact absurd (show b∈([]:List Addr) from z) (by simp)) (by simp))
     |some u=>
      rcases hA b u q with ⟨_,_,ob,xs,rfl⟩|⟨t,ht,e',rfl⟩
      ·have z2:=un.frzs b ob _ q
       obtain⟨e1,_⟩:=hok b _ q
       obtain⟨e2,_⟩:=hok' b _ z2
       rw[e] at e1;cases e1
       exact .inl e2
      ·obtain⟨ps,z,_⟩:=hok' b _ (sm b _ q)
       obtain⟨h1,_,c,hc⟩:=hT t ht
       rw[<-e'] at h1 hc
       rw[e] at h1
       exact .inr ⟨c,ps,hc,Option.some.inj h1,z⟩
    refine⟨rfl,⟨fun b o e=>?_,fun b o e=>?_⟩,os,bare⟩
    ·rcases key b o e with z|⟨c,ps,hc,rfl,z⟩
     ·exact .inl z
     ·refine .inr (.inl ⟨?_,rfl,#[],ps,rfl,?_⟩)
      ·obtain⟨oc,vs,_,_,_,_,_,_,_,f1,f2,f3,f4,_⟩:=PySem.W.codeHd_of_K KX hc
       exact⟨c,oc,vs,f1,f2,f3,f4⟩
      ·rw[z];simp
    ·rcases key b o e with z|⟨c,ps,hc,rfl,z⟩
     ·exact⟨_,z⟩
     ·exact⟨_,z⟩
 have lkT:∀t∈tabs,tabs.lookup t.1=some t.2:=by
  clear hT hsp core
  induction tabs with
  |nil=>intro t h;cases h
  |cons q r ih=>
   intro t ht
   rw[List.lookup_cons]
   rcases List.mem_cons.mp ht with rfl|ht
   ·rw[beq_self_eq_true]
   ·have ne:t.1≠q.1:=fun z=>(List.nodup_cons.mp hnd).1 (List.mem_map.mpr ⟨t,ht,z⟩)
    rw[beq_eq_false_iff_ne.mpr ne]
    exact ih (List.nodup_cons.mp hnd).2 t ht
 have memT:∀{b:Addr} {p:Pos×Str},tabs.lookup b=some p->(b,p)∈tabs:=fun {b p} h=>aCB h
 have naT:∀t∈tabs,t.1≠a:=fun t ht z=>by
  have:=(hT t ht).1
  rw[z,ha] at this
  cases this
 have okT:∀(H:Hp) (t:Addr×Pos×Str),t∈tabs->bI P w H s₁.heap t.1 (.ctb t.2.1 t.2.2):=fun H t ht=>⟨#[],(hT t ht).1,trivial,.inl rfl⟩
 cases hk:K.lookup a with
 |some o=>
  have e:=KX a o hk
  rw[ha] at e
  cases e
  refine core (fun b=>(tabs.lookup b).map fun p=>.ctb p.1 p.2) (.inr ⟨_,vs.toArray,_,hk,rfl,rfl,rfl,by rw[List.size_toArray,lenV];exact hl,by simpa using rv⟩) (fun b u z=>?_) (fun t ht=>?_) fun b u z=>?_
  ·obtain⟨p,hp,rfl⟩:=Option.map_eq_some_iff.mp z
   exact okT _ _ (memT hp)
  ·show(tabs.lookup t.1).map _=_
   rw[lkT t ht];rfl
  ·obtain⟨p,hp,rfl⟩:=Option.map_eq_some_iff.mp z
   exact .inr ⟨_,memT hp,rfl,rfl⟩
 |none=>
  refine core (fun b=>if b=a then some (.frz { cls:=.type "list",data:=.seq vs.toArray } (.lst (ns.map V.int))) else (tabs.lookup b).map fun p=>.ctb p.1 p.2) (.inl (.inr ⟨{ cls:=.type "list",data:=.seq vs.toArray },if_pos rfl⟩)) (fun b u z=>?_) (fun t ht=>?_) fun b u z=>?_
  ·by_cases hb:b=a
   ·have z':=(if_pos hb).symm.trans z
    cases z'
    subst hb
    exact⟨ha,by rw[List.length_map];exact hl,vs,_,rv,ha⟩
   ·have z':=(if_neg hb).symm.trans z
    obtain⟨p,hp,rfl⟩:=Option.map_eq_some_iff.mp z'
    exact okT _ _ (memT hp)
  ·show(if t.1=a then _ else (tabs.lookup t.1).map _)=_
   rw[if_neg (naT t ht),lkT t ht];rfl
  ·by_cases hb:b=a
   ·have z':=(if_pos hb).symm.trans z
    cases z'
    exact .inl ⟨hb,hk,_,_,rfl⟩
   ·have z':=(if_neg hb).symm.trans z
    obtain⟨p,hp,rfl⟩:=Option.map_eq_some_iff.mp z'
    exact .inr ⟨_,memT hp,rfl,rfl⟩
theorem aIY{l:PySem.W.OpenLaw}{n k:Nat}{q:Program}{loose:List Str}{XP:(Str->Option Value)->Heap->Prop}{YP:World->Heap->Prop}{d:DefRec}{K:Params->W.Frag}{sp:World->Sp}{x:Str}{tabs:List (Addr×Pos×Str)}
  (hn:l.most=some n) (hn2:n<=sizeLine) (hdf:d.params.defaults=[]) (hr:dI k callerA) (hnd:(tabs.map (·.1)).Nodup)
  (hY:∀(w:World) (h:Heap),YP w h->(K w.params).In h/\∀t∈tabs,h.get? t.1=some { cls:=.none,data:=.fields #[] })
  (hK:∀(w:World),∀t∈tabs,(K w.params).lookup t.1=none)
  (F:∀(w:World) (mg:Str->Option Value) (fa:Addr) (h:Heap),(K w.params).In h->h.Ns mainGlobals mg->mg d.name=some (.ref fa)->(∀t∈tabs,∃c,PySem.W.codeHdIn (K w.params) c t.1=true)/\
   ∃fd:FuncData,(∀(s:Shared) (u:Value),BindsTo s fd ⟨[u],[]⟩ [(x,u)])/\
    ∀base:Heap,(K w.params).In base->base.Ns mainGlobals mg->bO l.prog w (K w.params) mg base iB k fa fd [x] (sp w))
  (hsp:∀(w:World) (H:Hp) (a:Addr) (ns:List Int),ns.length<=n->(∀t∈tabs,H t.1=some (.ctb t.2.1 t.2.2))->bG (K w.params) H a (ns.map V.int)->sp w [.ref a] H (fun v H'=>v=.bl true/\aI H H') fun _ _ _=>False) :
  PySem.W.WalkO q loose XP YP l.row.toRowW d [] (fun f vs=>PySem.call f vs):=by
 refine Att.aEk hn hdf fun w s₀ s₁ mg mb fa o pm cd doc a vs ns G Y ho hd hcd hmg hobj hints hlen hg=>?_
 obtain⟨KX,hT⟩:=hY w _ Y
 obtain⟨hcd',fd,hb,hF⟩:=F w mg fa _ KX G.T.g hmg
 exact aHl KX G.T.g G.T.b G.T.builtins G.T.nolimit G.T.bmain hg hobj hints (Nat.le_trans hlen hn2) hr (fun t ht=>⟨hT t ht,hK w t ht,hcd' t ht⟩) hnd hF hb (fun H hO hS=>hsp w H a ns hlen hO hS)
section
variable{X:Cx}{σ:St}{H:Hp}{Q:VK}
theorem aIZ{Pt:Addr}{lpos:Pos}{q:Str}{sp:(Addr->Sp->Prop)->Sp}{n:Nat}{tl:TE}{idx:List Nat}{t:TA}(h:t σ H fun vs H1=>H1 Pt=some (.ctb lpos q)/\
  ∀(f c':Addr) (H2:Hp) (C:Addr->Sp->Prop),aI H1 H2->H2 c'=some (.cod q)->C f (aGx c' q n tl (idx.map fun j=>(σ[j]?).join))->sp C (vs ++ [.ref f]) H2 Q E0):aFJ Pt lpos q sp n tl idx t σ H Q:=h
theorem aAT{C:Addr->Sp->Prop}{i:Nat}{t:TA}{f:Addr}{sp:Sp}(e:σ[i]?=some (some (.ref f)))(hC:C f sp)(h:t σ H fun vs H1=>sp vs H1 Q E0):aDf C i t σ H Q:=⟨f,sp,e,hC,h⟩
end
end L2
namespace L2.Z
open PySem PySem.Spec PyProof.Rows L2
section
variable{X:Cx}{c Pt:Addr}{q:Str}{params:Arguments}{body:Expr}{scope:Scope}{pos lpos:Pos}{cl:List (Str×Addr)}
structure QAL(X:Cx)(es:List Expr)(params:Arguments)(body:Expr)(scope:Scope)(lpos:Pos)(Pt:Addr)(q:Str)(cl:List (Str×Addr))(t:TA):Prop where
 h:PAL X es params body scope lpos Pt q cl t
theorem aDg(hcode:X.env.code=.ref c)(hC:PySem.W.codeHdIn X.K c Pt=true)(hq:X.env.qual ++ "<lambda>" = q)(hdef:defaultsOf params X.env=([],[])){N:List Str}{n:Nat}{idx:List Nat}(S:dP X scope N n idx) :
  QAL X [.Lambda params body scope lpos] params body scope lpos Pt q (kY X.env scope.names []) pK:=⟨aIW hcode hC hq hdef S⟩
theorem pR{e:Expr}{es:List Expr}{te:TE}{t:TA}(ha:QE X e te)(hr:QAL X es params body scope lpos Pt q cl t)(hn:noStar e=true:=by rfl):QAL X (e::es) params body scope lpos Pt q cl (bM te t):=
 ⟨aIX ha.h hr.h (bL hn)⟩
theorem rT{f:Addr}{fd:FuncData}{ps psL N:List Str}{idx:List Nat}{sp:(Addr->Sp->Prop)->Sp}{k kc:Nat}{x:Str}{p:Pos}{e:Expr}{es:List Expr}{t:TA}{tl:TE}
  (F:∀base':Heap,bO X.prog X.w X.K X.mg base' iB k f fd ps (sp (Clo X.prog X.w X.K X.mg base' (kc+1)))) (hr:dI k X.A) (hg:Gl X x) (hm:X.mg x=some (.ref f)) (hk:W.keepIn X.K (.ref f)=true) (hb:Binds X.K fd ps [])
  (hfn:∀y,X.fn y=true) (S:dP X scope N psL.length idx) (hpre:N.take psL.length=psL) (hpar:psL.all (fun x=>scope.names.lookup x == some .local)=true) (hco:scope.isCoroutine=false) (hgen:scope.isGenerator=false)
  (hbind:∀(cl:List (Str×Addr)) (pm cd ct:Value) (us:List Value),us.length=psL.length->bindArgs (aCA q params body scope cl pm cd ct) ⟨us,[]⟩=pure (psL.zip us))
  (ha:QAL X (e::es) params body scope lpos Pt q (kY X.env scope.names []) t)
  (hbody:∀(base':Heap) (f' c':Addr) (cl:List (Str×Addr)) (A:Around) (outer:List Env) (s:Shared) (H:Hp),dI kc (A.deeper (rR q scope s.heap.objs.size f' (.ref c') cl))->(A.deeper (rR q scope s.heap.objs.size f' (.ref c') cl)).units+9 < cLine->QE (cxL X.prog X.w X.K X.mg base' N q scope f' (.ref c') cl A outer s H) body tl)
  (hn:(e::es).all noStar=true:=by rfl) (hdb:(x == ("__debug__" : Str))=false:=by decide) :
  QE X (.Call (.Name x p) (e::es) [] pos) (aFJ Pt lpos q sp psL.length tl idx t):=
 ⟨L2.rT F hr hg hm hk hb hfn S hpre hpar hco hgen hbind ha.h (fun base' f' c' cl A outer s H hr'=>(hbody base' f' c' cl A outer s H hr' (kZ hr')).h) hdb (bL (gJ hn).1) (iF (gJ hn).2)⟩
theorem aAS{i k:Nat}{x:Str}{p:Pos}{e:Expr}{es:List Expr}{t:TA}(hr:dI k X.A)(ha:QA X (e::es) t)(hN:X.N[i]?=some x:=by rfl)(hv:Vis X.env.scope x:=by first|exact Or.inl rfl|exact Or.inr (Or.inl rfl)|exact Or.inr (Or.inr rfl))
  (hn:(e::es).all noStar=true:=by rfl) (hd:(x == ("__debug__" : Str))=false:=by decide) (hcd:(x == ("__classdict__" : Str))=false:=by decide) :
  QE X (.Call (.Name x p) (e::es) [] pos) (aDf (Clo X.prog X.w X.K X.mg X.base k) i t):=⟨L2.aAS hN hv hr ha.h hd hcd (bL (gJ hn).1) (iF (gJ hn).2)⟩
end
end L2.Z
namespace PySem
set_option maxRecDepth 100000
namespace F
theorem aFK:typeLookup (.type "list_reverseiterator") "__len__" = pure none:=by rw[typeLookup_type,builtinLookup_eq_fast];kernel_rfl
theorem aI0:typeLookup (.type "list_reverseiterator") "__length_hint__" = pure (some (.builtin "list_reverseiterator.__length_hint__")):=by rw[typeLookup_type,builtinLookup_eq_fast];kernel_rfl
end F
section
variable{prog:Program}{w:World}{A:Around}{E:Value->Shared->Prop}{s:Shared}
theorem aAU{it l:Addr}{i:Int}{Q:Bool->Shared->Prop}(hit:s.heap.IsRevIter it l i)(h:Q false s):wpAny (model prog w) A (Builtin.List.listLengthHint (.ref it)) Q E s:=by
 unfold Builtin.List.listLengthHint;refine wpAny_bind (wpAny_specialOf hit.typeIs F.aFK ?_)
 show wpAny _ A (specialOf (Value.ref it) (Str.ofString "__length_hint__") >>= _) _ _ _
 refine wpAny_bind (wpAny_specialOf hit.typeIs F.aI0 ?_)
 generalize hid:("list_reverseiterator.__length_hint__" : String)=id0
 wp_delta
 rw[show splitId id0=some ("list_reverseiterator","__length_hint__") from by subst hid;decide +kernel]
 subst hid
 refine wpAny_bind (wpAny_isInstance (T:="list_reverseiterator") (b:=true) hit.typeIs (by rw[isSubtype_type];kernel_rfl) ?_)
 exact wpAny_ite_split (fun z=>absurd z (by decide)) fun _=>wpAny_ite_split (fun _=>wpAny_ite_split (fun z=>absurd z (by decide +kernel)) fun _=>wpAny_pure h) fun z=>absurd (by decide +kernel) z
end
end PySem
namespace PySem
section
variable{prog:Program}{w:World}{A:Around}{E:Value->Shared->Prop}{s:Shared}
theorem yB{R:Result->Shared->Prop}{it l:Addr}{items:Array Value}(hh:A.handled=none)(hit:s.heap.IsRevIter it l ((items.size:Int) - 1))(hl:s.heap.IsList l items)(hne:l≠it)
  (hlen:items.size<=sizeLine) (S:Addr) (res:Value) (c₀:Nat) (hS:s.heap.get? S=some { cls:=.type "list",data:=.seq #[] c₀ }) (hSl:S≠l) (hSI:S≠it)
  (hR:∀h' tk acc' c',(∀b o,b≠S->b≠it->s.heap.get? b=some o->h'.get? b=some o)->h'.get? S=some { cls:=.type "list",dict:=none,data:=.seq acc' c',slots:=#[] }->
   ItemsOf (fun i v=>items[items.size - 1 - i]?=some v) acc' items.size->R (.ok (.ret res)) { s with heap:=h',toks:=tk }) :
  wpAny (model prog w) A.in1 (Builtin.List.listExtendWith (.ref S) (.ref it) res) (fun fin s'=>match fin with|.done f=>R (.ok f) s'|.again k=>k.quiet=true/\codeAny (model prog w) A k R s') (fun e s'=>R (.error e) s') s:=by
 have hSf:S∉[it,l]:=by simp[hSI,hSl]
 have W:=(Walks.listRev (prog:=prog) (w:=w) (A:=A.in1) hh it l hne items).toS
 unfold Builtin.List.listExtendWith;refine wpAny_bind (wpAny_typeOf (T:="list_reverseiterator") hit.typeIs ?_)
 have h1:Builtin.List.listSameRef (.ref S) (.ref it)=false:=by simp[Builtin.List.listSameRef,hSI]
 have h2:(Value.type "list_reverseiterator" == Value.type "list")=false:=by decide
 have h3:(Value.type "list_reverseiterator" == Value.type "tuple")=false:=by decide
 simp only[h1,h2,h3,Bool.false_eq_true,Bool.or_false,if_false]
 refine wpAny_bind (wpAny_pyIter_revIter hit (wpAny_bind (wpAny_holding (aAU hit ?_))))
 refine wpAny_ite_split (fun z=>by cases z) (fun _=>wpAny_pure ⟨plainId_quiet F.plain_extend_loop _,?_⟩)
 refine codeAny_extend_loopS W hlen S hSf res items.size 0 _ #[] c₀ rfl (Nat.zero_le _) ⟨Nat.zero_le _,?_,hl⟩ hS (ItemsOf.nil _) fun s' acc' c' hm hS' hacc=>?_
 ·rw[show(items.size:Int) - 1 - ((0:Nat):Int)=(items.size:Int) - 1 by omega]
  exact hit
 ·rw[Moved.eq_with hm]
  exact hR s'.heap s'.toks acc' c' (fun b o hb hi e=>hm.heap b o (by simp[hb,hi]) e) hS' hacc
theorem aBH{Q:Value->Shared->Prop}{it l:Addr}{items:Array Value}(hh:A.handled=none)(hit:s.heap.IsRevIter it l ((items.size:Int) - 1))(hl:s.heap.IsList l items)(hne:l≠it)(hlen:items.size<=sizeLine)
  (hQ:∀h' tk acc' c',(∀b o,b≠it->s.heap.get? b=some o->h'.get? b=some o)->
   h'.get? s.heap.objs.size=some { cls:=.type "list",dict:=none,data:=.seq acc' c',slots:=#[] }->ItemsOf (fun i v=>items[items.size - 1 - i]?=some v) acc' items.size->Q (.ref s.heap.objs.size) { s with heap:=h',toks:=tk }) :
  wpAny (model prog w) A (call (.type "list") [.ref it]) Q E s:=by
 have lit:it < s.heap.objs.size:=let ⟨_,e,_⟩:=hit;Heap.lt_size e
 have ll:l < s.heap.objs.size:=let ⟨_,e,_⟩:=hl;Heap.lt_size e
 have hS:(s.heap.push { cls:=.type "list",data:=.seq #[] }).get? s.heap.objs.size=some { cls:=.type "list",data:=.seq #[] }:=by exact Heap.get?_push_size _ rfl
 have hS₂:=Heap.get?_update_self (Obj.mapSeq fun _=>(#[]:Array Value)) hS rfl
 have old:∀b o,s.heap.get? b=some o->((s.heap.push { cls:=.type "list",data:=.seq #[] }).update s.heap.objs.size (Obj.mapSeq fun _=>(#[]:Array Value))).get? b=some o:=
  fun b o e=>(Heap.get?_update_other _ _ (Nat.ne_of_gt (Heap.lt_size e))).trans (Heap.get?_push_of_some _ e)
 refine callType_codes (Q₁:=fun x t=>x=.ref s.heap.objs.size/\t={ s with heap:=s.heap.push { cls:=.type "list",data:=.seq #[] } }) F.called_list (F.typeCall_list_1 _) F.entry_list_init (code_list_new _ ⟨rfl,rfl⟩) ?_
 rintro x t ⟨rfl,rfl⟩
 refine⟨⟨_,hS,rfl⟩,F.args_list_init_2 _ _,?_⟩
 show wpAny _ _ (Builtin.List.listItems (.ref s.heap.objs.size) >>= fun old=>Builtin.List.listUpdate (.ref s.heap.objs.size) (fun _=>#[]) >>= fun _=>letGo old.toList.reverse >>= fun _=>Builtin.List.listExtendWith (.ref s.heap.objs.size) (.ref it) .none) _ _ _
 refine wpAny_bind (wpAny_listItems hS rfl ?_)
 show wpAny _ _ (updateSeq s.heap.objs.size (fun _=>#[]) >>= fun _=>letGo (#[]:Array Value).toList.reverse >>= fun _=>Builtin.List.listExtendWith (.ref s.heap.objs.size) (.ref it) .none) _ _ _
 refine wpAny_bind (wpAny_updateSeq hS rfl (wpAny_bind (wpAny_letGo (yB (A:=A.in1) hh (hit.at fun o e=>old _ _ e) (hl.at fun o e=>old _ _ e) hne hlen s.heap.objs.size .none _ hS₂ (Nat.ne_of_gt ll) (Nat.ne_of_gt lit) fun h' tk acc' c' hk hS' hacc=>?_))))
 exact⟨rfl,hQ h' tk acc' c' (fun b o hb e=>hk b o (Nat.ne_of_lt (Heap.lt_size e)) hb (old b o e)) hS' hacc⟩
end
end PySem
namespace L2
open PySem PySem.Spec PyProof.Rows
section
variable{X:Cx}
def aAV(t:TA):TE:=fun σ H Q=>t σ H fun vs H1=>∃l xs,vs=[.ref l]/\H1 l=some (.lst xs)/\∀q,H1 q=none->Q (.ref q) (upd H1 q (.lst xs.reverse))
theorem aI1{xs:List V}{us:List Value}(r:Vals xs us):Vals xs.reverse us.reverse:=by
 induction r with
 |nil=>exact .nil
 |cons h t ih=>
  simp only[List.reverse_cons]
  exact ih.append (.cons h .nil)
theorem u7{e:Expr}{t:TA}{p1 p2 pos1 pos2:Pos}(hc:X.calm=true)(hg1:Gl X "list")(hm1:X.mg "list" = none)(hg2:Gl X "reversed")(hm2:X.mg "reversed" = none)(he:PA X [e] t)(hn:noStar e=true:=by rfl) :
  PE X (.Call (.Name "list" p1) [.Call (.Name "reversed" p2) [e] [] pos2] [] pos1) (aAV t):=by
 intro pins s σ H Q I h
 refine Call_ (pF I hg1 hm1 pM (PyProof.Rows.callWith_type1 (Calls.spliced_cons ?_) rfl rfl))
 refine Call_ (pF I hg2 hm2 boot_reversed (PyProof.Rows.callWith_type1 (cN (he pos2 pins s σ H _ I h) fun us s1 ⟨vs,H1,I1,r1,l,xs,ex,hl,q⟩=>?_) (bL hn) rfl))
 subst ex
 obtain⟨u,rfl,ru⟩:=vals1 r1
 obtain rfl:u=Value.ref l:=ru
 obtain⟨hz,its,n,rv,eo⟩:=I1.hok l _ hl
 have hlist:s1.heap.IsList l its.toArray:=⟨_,eo,rfl,n,rfl⟩
 refine call_reversed_list hlist (Calls.spliced_nil ?_)
 have hll:l < s1.heap.objs.size:=Heap.lt_size eo
 refine aBH (it:=s1.heap.objs.size) (l:=l) (items:=its.toArray) (I.ok.hd hc) ⟨_,Heap.get?_push_size _ rfl,rfl,rfl⟩ ⟨_,Heap.get?_push_of_some _ eo,rfl,n,rfl⟩ (Nat.ne_of_lt hll) (by rw[List.size_toArray,<-rv.length];exact hz) fun h' tk acc' c' hk hS ha=>?_
 have eacc:acc'.toList=its.reverse:=by
  obtain⟨h1,h2⟩:=ha
  refine List.ext_getElem? fun i=>?_
  by_cases hi:i < acc'.size
  ·have e1:acc'[i]?=some acc'[i]:=Array.getElem?_eq_getElem hi
   have e2:=h2 i _ e1
   rw[Array.getElem?_toList,e1,List.getElem?_reverse (by rw[h1,List.size_toArray] at hi;exact hi)]
   rw[<-e2,List.size_toArray,List.getElem?_toArray]
  ·rw[List.getElem?_eq_none (by rw[Array.length_toList];omega),List.getElem?_eq_none (by rw[List.length_reverse];rw[h1,List.size_toArray] at hi;omega)]
 have hv:Vals xs.reverse acc'.toList:=by rw[eacc];exact aI1 rv
 have sz:s1.heap.objs.size<=(s1.heap.push (revObj l ((its.toArray.size:Int) - 1))).objs.size:=by rw[Heap.size_push];omega
 exact⟨.ref _,_,I1.laid (t':=tk) (o:=.lst xs.reverse) (fun b u e=>hk b u (Nat.ne_of_lt (Heap.lt_size e)) (Heap.get?_push_of_some _ e)) sz ⟨by rw[List.length_reverse];exact hz,acc'.toList,c',hv,hS⟩,rfl,q _ (I1.hok.fresh sz)⟩
end
end L2
namespace L2
open PySem PySem.Spec PyProof.Rows
section
variable{X:Cx}
def aGz(K:W.Frag):List V->Hp->VK->Prop:=fun vs H Q=>∃(p:Addr) (ns:List Int),vs=[.ref p]/\bG K H p (ns.map V.int)/\ns≠[]/\∀m,m∈ns->(∀x∈ns,m<=x)->Q (.int m) H
theorem aCC(hc:X.calm=true):dZ X (.builtin "min") (aGz X.K):=by
 intro pins s σ H vs us Q I r h
 obtain⟨p,ns,rfl,hq,hne,q⟩:=h
 obtain⟨u,rfl,rx⟩:=vals1 r
 cases rx
 obtain⟨its,r',pl,hz⟩:=I.list hq
 have hi:=intsAre_of r'
 obtain⟨xs,hx⟩:=hi.allInts.items
 have e1:ns=xs.toList.map (·.1):=by rw[<-nums_intItems,<-hx];exact(show numsOf its.toArray.toList=ns from hi.numsOf).symm
 have hsz:0 < xs.size:=by
  have z:=List.length_pos_iff.mpr hne
  rw[e1,List.length_map,Array.length_toList] at z
  exact z
 refine min_intList (I.ok.hd hc) (hx▸pl.isList:s.heap.IsList p (intItems xs)) hsz fun v h' tk hv hk=>?_
 obtain⟨t,rfl⟩:=intItems_at hv
 obtain⟨h1,h2⟩:=argBest_lt (numAt xs) (xs.size - 1)
 refine⟨.int _,H,I.kept (t':=tk) hk,⟨t,rfl⟩,q _ ?_ fun x hx'=>?_⟩
 ·rw[e1,numAt_eq];exact getD_mem (by rw[List.length_map,Array.length_toList];omega)
 ·rw[e1] at hx'
  obtain⟨j,hj,rfl⟩:=mem_getD hx'
  rw[List.length_map,Array.length_toList] at hj
  rw[<-numAt_eq];exact h2 j (by omega)
theorem aGA{K:W.Frag}{H:Hp}{Q:VK}{p:Addr}{ns:List Int}(h1:bG K H p (ns.map V.int))(hne:ns≠[])(h:∀m,m∈ns->(∀x∈ns,m<=x)->Q (.int m) H):aGz K [.ref p] H Q:=⟨p,ns,rfl,h1,hne,h⟩
def aAW:TE:=fun _ H Q=>(∀p,H p=none->Q (.ref p) (upd H p (.dK [])))\/∀p,H p=none->Q (.ref p) (upd H p (.dT []))
theorem rV{pos:Pos}:PE X (.Dict [] [] pos) aAW:=by
 intro pins s σ H Q I h
 rcases h with h|h
 ·exact aIj pins s σ H Q I h
 ·exact aIk pins s σ H Q I h
theorem aHm{σ:St}{H:Hp}{Q:VK}(h:∀p,H p=none->Q (.ref p) (upd H p (.dK []))):aAW σ H Q:=.inl h
theorem aCD{σ:St}{H:Hp}{Q:VK}(h:∀p,H p=none->Q (.ref p) (upd H p (.dT []))):aAW σ H Q:=.inr h
def Itw(hi:Int)(n:Nat):It:=⟨fun i _=>i < n,fun i H x H'=>H'=H/\x=.int (hi - i),fun i _=>n<=i⟩
theorem aHn{P:Program}{w:World}{K:W.Frag}{tg:Expr}(it:Addr)(hi:Int)(n:Nat):Turn P w K tg (Itw hi n) [it] it (fun i h=>IsRangeIter h it (hi+(i:Nat) * -1) ((n:Int) - (i:Nat)) (-1)) where
 mem:=by simp
 obj:=fun i h st b hb=>by
  have e:b=it:=by simpa using hb
  rw[e]
  exact⟨_,st,fun v z=>by
   have z':Data.fields _=Data.cell v:=z
   cases z'⟩
 keep:=fun i h h' st k=>k it (by simp) _ st
 item:=by
  intro X hP hw hK hc i pins s σ H E I hf st hg
  subst hP hw hK
  obtain⟨f0,f1,f2,f3,f4,f5⟩:=hf it (by simp)
  refine(Walks.range (prog:=X.prog) (w:=X.w) (I.ok.hd hc) it hi (-1) n).item i s _ _ hg st fun v h' tk hv st' kk=>?_
  obtain⟨t,rfl⟩:=hv
  refine⟨_,rfl,aEb (s:={ s with heap:=h',toks:=tk }) (n:="range_iterator") st' rfl rfl (by decide) ⟨.int (hi - i),H,I.turned (fun b o hb e=>kk b o (by simpa using hb) e) f0 f1 f3 f4 f5,⟨t,?_⟩,⟨rfl,rfl⟩,st',fun b hb=>(hf b hb).1⟩⟩
  congr 1
  omega
 done:=by
  intro X hP hw hK hc i pins s σ H E I hf st hg
  subst hP hw hK
  obtain⟨f0,f1,f2,f3,f4,f5⟩:=hf it (by simp)
  exact wpAny_pyNext_range_end (I.ok.hd hc) st (by have:n<=i:=hg;omega) fun h' eb=>⟨rfl,I.turned (t':=s.toks) (fun b o hb e=>eb b o hb e) f0 f1 f3 f4 f5⟩
 self:=fun _ _ _ _ _ st h=>wpAny_pyIter_rangeiter st h
theorem aCE(a b:Int):Builtin.Range.rangeSize a b (-1)=(((a - b).toNat:Nat):Int):=by
 unfold Builtin.Range.rangeSize
 rw[if_neg (by decide)]
 split
 ·rw[show -(-1:Int)=1 from rfl,Int.ediv_one];omega
 ·omega
theorem small_down{a b:Int}(h1:-(2 ^ 62)<=a)(h2:a < 2 ^ 62)(h3:-(2 ^ 62)<=b)(h4:b < 2 ^ 62):Builtin.Range.small a b (-1)=true:=by
 unfold Builtin.Range.small
 simp only[aCE,Builtin.Range.rangeFitsLong,Bool.and_eq_true,Bool.or_eq_true,decide_eq_true_eq,beq_iff_eq]
 rw[if_neg (by decide)]
 simp only[Bool.and_eq_true,decide_eq_true_eq]
 omega
def aI2(ta:TA):TI:=fun σ H R=>ta σ H fun vs H1=>∃i j:Int,vs=[.int i,.int j,.int (-1)]/\(-(2 ^ 62)<=i/\i < 2 ^ 62/\-(2 ^ 62)<=j/\j < 2 ^ 62)/\R (Itw i (i - j).toNat) H1
theorem yC{a b c:Expr}{ta:TA}{p pos:Pos}{tg:Expr}(hg:Gl X "range")(hm:X.mg "range" = none)(ha:PA X [a,b,c] ta)(hn:[a,b,c].all noStar=true:=by rfl):PI X tg (.Call (.Name "range" p) [a,b,c] [] pos) (aI2 ta):=by
 intro pins s σ H R I h
 refine Call_ (pF I hg hm boot_range (PyProof.Rows.callWith_type1 (cN (ha pos pins s σ H _ I h) fun us s1 ⟨vs,H1,I1,r1,i,j,e,⟨q1,q2,q3,q4⟩,q⟩=>?_) (bL (gJ hn).1) (iF (gJ hn).2)))
 subst e
 obtain⟨u1,us1,rfl,⟨t1,rfl⟩,r2⟩ : ∃u us',us=u::us'/\RelV (.int i) u/\Vals [.int j,.int (-1)] us':=by cases r1 with|cons h t=>exact⟨_,_,rfl,h,t⟩
 obtain⟨u2,u3,rfl,⟨t2,rfl⟩,⟨t3,rfl⟩⟩:=vals2 r2
 refine call_range_3 (by decide) ?_ (.inl (PyProof.noPylong_small (by decide)))
 refine wpAny_pyIter_range (IsRange.new ..) (small_down q1 q2 q3 q4) ?_
 have I2:Inv X pins σ H1 { s1 with heap:=s1.heap.push { cls:=.type "range",data:=.fields #[.int i t1,.int j t2,.int (-1) t3] } }:=I1.kept (t':=s1.toks) fun b o e=>Heap.get?_push_of_some _ e
 refine⟨_,[_],_,_,H1,rfl,I2.kept (t':=s1.toks) fun b o e=>Heap.get?_push_of_some _ e,aHn _ i (i - j).toNat,?_,fun b hb=>?_,q⟩
 ·show IsRangeIter _ _ (i+((0:Nat):Int) * -1) ((((i - j).toNat:Nat):Int) - ((0:Nat):Int)) (-1)
  rw[show i+((0:Nat):Int) * -1=i by omega,show(((i - j).toNat:Nat):Int) - ((0:Nat):Int)=Builtin.Range.rangeSize i j (-1) by rw[aCE];omega]
  exact Heap.get?_push_size _ rfl
 ·have e:b=(s1.heap.push { cls:=.type "range",data:=.fields #[.int i t1,.int j t2,.int (-1) t3] }).objs.size:=by simpa using hb
  subst e
  exact I2.aEa (Nat.le_refl _) (I2.hok.fresh (Nat.le_refl _))
theorem aI3{ta:TA}{σ:St}{H:Hp}{R:It->Hp->Prop}(h:ta σ H fun vs H1=>∃i j:Int,vs=[.int i,.int j,.int (-1)]/\(-(2 ^ 62)<=i/\i < 2 ^ 62/\-(2 ^ 62)<=j/\j < 2 ^ 62)/\R (Itw i (i - j).toNat) H1):aI2 ta σ H R:=h
theorem aKi{hi:Int}{n:Nat}{σ:St}{H:Hp}{nx:St->Hp->Prop}{rt:VK}{g:TG}{tb:TS}(Pv:Nat->St->Hp->Prop)(h0:Pv 0 σ H)
  (hs:∀i σ H,i < n->Pv i σ H->g (.int (hi - i)) σ H fun σ2 H2=>tb ⟨Pv (i+1),rt,nx,Pv (i+1)⟩ σ2 H2) (hd:∀σ H,Pv n σ H->nx σ H) :
  ∃W:Nat->Nat->St->Hp->Prop,(∃m,W 0 m σ H)/\∀i m σ H,W i m σ H->
   ((Itw hi n).stop i H/\nx σ H)\/((Itw hi n).go i H/\∃N:St->Hp->Prop,(∀σ' H',N σ' H'->∃m',m' < m/\W (i+1) m' σ' H')/\∀x H',(Itw hi n).yld i H x H'->g x σ H' fun σ2 H2=>tb ⟨N,rt,nx,N⟩ σ2 H2):=by
 refine⟨fun i m σ H=>m=n - i/\i<=n/\Pv i σ H,⟨n,by omega,Nat.zero_le _,h0⟩,?_⟩
 rintro i m σ H ⟨rfl,hi',p⟩
 by_cases h:i < n
 ·refine .inr ⟨h,Pv (i+1),fun σ' H' p'=>⟨n - (i+1),by omega,rfl,h,p'⟩,?_⟩
  rintro x H' ⟨rfl,rfl⟩
  exact hs i σ H' h p
 ·have e:i=n:=by omega
  subst e
  exact .inl ⟨Nat.le_refl _,hd σ H p⟩
end
end L2
namespace L2.Z
open PySem PySem.Spec PyProof.Rows L2
section
variable{X:Cx}{tg:Expr}
theorem u7{e:Expr}{t:TA}{p1 p2 pos1 pos2:Pos}(hc:X.calm=true)(hg1:Gl X "list")(hm1:X.mg "list" = none)(hg2:Gl X "reversed")(hm2:X.mg "reversed" = none)(he:QA X [e] t)(hn:noStar e=true:=by rfl) :
  QE X (.Call (.Name "list" p1) [.Call (.Name "reversed" p2) [e] [] pos2] [] pos1) (aAV t):=⟨L2.u7 hc hg1 hm1 hg2 hm2 he.h hn⟩
theorem rV{pos:Pos}:QE X (.Dict [] [] pos) aAW:=⟨L2.rV⟩
theorem yC{a b c:Expr}{ta:TA}{p pos:Pos}(hg:Gl X "range")(hm:X.mg "range" = none)(ha:QA X [a,b,c] ta)(hn:[a,b,c].all noStar=true:=by rfl):QI X tg (.Call (.Name "range" p) [a,b,c] [] pos) (aI2 ta):=⟨L2.yC hg hm ha.h hn⟩
theorem aAX{P:Program}{w:World}{K:W.Frag}{mg:Str->Option Value}{base:Heap}{i k:Nat}{x:Str}{p pos:Pos}{e:Expr}{es:List Expr}{t:TA}(hr:dI k X.A)(ha:QA X (e::es) t)(hP:X.prog=P:=by rfl)(hw:X.w=w:=by rfl)(hK:X.K=K:=by rfl)(hg:X.mg=mg:=by rfl)(hB:X.base=base:=by rfl)
  (hN:X.N[i]?=some x:=by rfl) (hv:Vis X.env.scope x:=by first|exact Or.inl rfl|exact Or.inr (Or.inl rfl)|exact Or.inr (Or.inr rfl))
  (hn:(e::es).all noStar=true:=by rfl) (hd:(x == ("__debug__" : Str))=false:=by decide) (hcd:(x == ("__classdict__" : Str))=false:=by decide) :
  QE X (.Call (.Name x p) (e::es) [] pos) (aDf (Clo P w K mg base k) i t):=by
 subst hP hw hK hg hB
 exact aAS hr ha hN hv hn hd hcd
end
end L2.Z
namespace L2
open PySem
section
variable{σ:St}{H:Hp}{Q:VK}
theorem aFL{t:TA}(h:t σ H fun vs H1=>∃l xs,vs=[.ref l]/\H1 l=some (.lst xs)/\∀q,H1 q=none->Q (.ref q) (upd H1 q (.lst xs.reverse))):aAV t σ H Q:=h
end
end L2
namespace L2
open PySem PySem.Spec PySem.W PyProof.Rows
theorem Inv.more{X:Cx}{pins:List (Addr×Obj)}{σ:St}{H H':Hp}{s:Shared}{h':Heap}{t':Nat}(I:Inv X pins σ H s)(k:∀b u,s.heap.get? b=some u->h'.get? b=some u)(hs:aI H H')
  (hn:∀b u,H' b=some u->H b=some u\/(s.heap.get? b=none/\bI X.prog X.w H' h' b u)):Inv X pins σ H' { s with heap:=h',toks:=t' }:=by
 refine I.un ⟨fun b u q _ _ _=>k b u q,fun b u q _ _ _=>⟨u.slots,k b u q⟩,fun b u q n _=>?_,fun b u q _=>⟨u,k b u q⟩,fun b xs q=>hs _ _ q,fun b u xs q=>hs _ _ q,fun b ps q=>⟨#[],by rw[hs _ _ q];simp⟩⟩ fun b u e=>?_
 ·cases e:H' b with
  |none=>rfl
  |some v=>
   rcases hn b v e with z|⟨z,_⟩
   ·rw[n] at z;cases z
   ·rw[z] at q;cases q
 ·rcases hn b u e with z|z
  ·exact(I.hok b u z).zE (fun c v _ q=>k c v q) (fun c q=>hs _ _ q) fun c xs _ q=>hs _ _ q
  ·exact z.2
section
variable{X:Cx}{o:Expr}{td:TE}{apos cpos:Pos}
def aHo(b d:Addr):Heap->Prop:=fun h=>h.IsItemsView b d
theorem aMY{P:Program}{w:World}{H:Hp}{h:Heap}{d:Addr}(ok:qY P w H h)(x:IsD H d):(d == sysModules)=false/\∃(o:Obj) (es:Array DictEntry) (ep:Nat),h.get? d=some o/\o.ExactDict/\o.data=.dict es ep:=by
 rcases x with ⟨kvs,x⟩|⟨kvs,x⟩
 ·obtain⟨_,y,vs,_,o,es,ep,h1,h2,h3,_⟩:=yR ok x
  exact⟨y,o,es,ep,h1,h2,h3⟩
 ·obtain⟨y,o,es,ep,_,h1,h2,h3,_⟩:=rP (aIf ok x)
  exact⟨y,o,es,ep,h1,h2,h3⟩
def aI4(td:TE):TE:=fun σ H Q=>td σ H fun x H1=>∃d,x=.ref d/\IsD H1 d/\∀b,H1 b=none->Q (.ref b) (upd H1 b (.ext (aHo b d)))
theorem aDh(ho:PE X o td)(hbase:attributeBase o "items" X.env (eval o X.env)=eval o X.env:=by rfl)(hline:(apos.endLine == cpos.line)=true:=by rfl):PE X (.Call (.Attribute o "items" apos) [] [] cpos) (aI4 td):=by
 intro pins s σ H Q I h
 refine wpAny_Call_method (T:="dict") (id:="dict.items") hbase rfl hline PySem.F.plainAttrs_dict PySem.F.slot_dict_items PySem.F.type_dict_items (cN (ho pins s σ H _ I h) fun v s1 ⟨x,H1,I1,r1,q1⟩=>?_)
 obtain⟨d,e,hd,q⟩:=q1
 subst e
 cases r1
 obtain⟨lo,ob,es,ep,g1,g2,g3⟩:=aMY I1.hok hd
 have raw:Raw s1.heap d es ep:=⟨ob,g1,g2.1,g3⟩
 refine⟨raw.ty,fun b z=>by cases z;exact⟨ob,g1,g2.2.1⟩,?_⟩
 refine method_meetsIn PySem.F.slot_dict_items PySem.F.entry_dict_items rfl (PySem.evalArgs_none ⟨rfl,raw.ty,PySem.F.args_dict_items_1 _,_,aCz d lo,raw.ty,?_⟩)
 have hn:H1 s1.heap.objs.size=none:=I1.hok.fresh (Nat.le_refl _)
 refine⟨.ref s1.heap.objs.size,_,I1.laid (a:=s1.heap.objs.size) (o:=.ext (aHo s1.heap.objs.size d)) (t':=s1.toks) (fun _ _ q=>Heap.get?_push_of_some _ q) (Nat.le_refl _) ⟨⟨_,Heap.get?_push_size _ rfl,rfl,rfl⟩,⟨_,Heap.get?_push_size _ rfl⟩,fun h1 h2 z k=>?_⟩,rfl,q _ hn⟩
 obtain⟨o',a,r⟩:=z
 exact⟨o',k o' a,r⟩
end
end L2
namespace L2
open PySem PySem.Spec PySem.W PyProof.Rows
section
variable{X:Cx}{pins:List (Addr×Obj)}{σ:St}{H:Hp}{s:Shared}
end
section
variable{X:Cx}{elts:List Expr}{x1:Nat}{tp:Pos}{tg:Expr}
end
section
variable{σ:St}{H:Hp}{Q:VK}{nx:St->Hp->Prop}{rt:VK}{g:TG}{tb:TS}
theorem aKj{td:TE}(h:td σ H fun x H1=>∃d,x=.ref d/\IsD H1 d/\∀b,H1 b=none->Q (.ref b) (upd H1 b (.ext (aHo b d)))):aI4 td σ H Q:=h
end
end L2
namespace L2
open PySem PySem.Spec PySem.W PyProof.Rows
theorem aDi:typeLookup (.type "list") "keys" = pure none:=by rw[typeLookup_type,builtinLookup_eq_fast];kernel_rfl
theorem aKk{prog:Program}{w:World}{A:Around}{E:Value->Shared->Prop}{s:Shared}{a:Addr}{xs:Array Value}{k:Nat}{Q:Option Value->Shared->Prop}(hA:A.handled=none)
  (hx:s.heap.get? a=some { cls:=.type "list",data:=.seq xs k }) (h:∀(h':Heap) (tk:Nat),(∀b u,s.heap.get? b=some u->h'.get? b=some u)->Q none { s with heap:=h',toks:=tk }) :
  wpAny (model prog w) A (getAttr? (.ref a) "keys") Q E s:=by
 obtain⟨hp,g,d,tk,os⟩:=s
 have ty:∀tk',(⟨hp,g,d,tk',os⟩ : Shared).TypeIs (.ref a) "list":=fun _=>⟨_,hx,rfl⟩
 have f1:=sub_AttributeError
 have f3:=F.slot_list_getattribute.lookup
 have f4:=F.slot_list_getattribute.bind (.ref a)
 have f5:=am_list_getattr_none
 unfold getAttr? getAttrBy? getAttrBy
 repeat (any_goals (first|assumption|exact ty _|((with_reducible show wpAny _ _ (call (Value.builtin "list.__getattribute__") _ _) _ _ _);refine call_meets F.slot_list_getattribute (ty _) am_entry_list_getattribute (F.args_list_getattribute_2 _ _) (meets_getattribute_miss_list a xs k #[] "keys" _ aDi (by decide +kernel)) ⟨hx,hA,fun h' tk' e gone=>?_⟩)|wp_step))
 obtain⟨t',u',he⟩:=gone.there
 show wpAny _ _ (getattributeRaised _ _ _ _ _ _ _) _ _ _
 unfold getattributeRaised
 repeat (any_goals (first|assumption|wp_step))
 exact h _ _ gone.keeps
theorem rW:entryFor table "dict.update.loop" = some Builtin.«dict.update.loop»:=entryFor_of_tree (by kernel_rfl)
theorem iH:plainId "dict.update.loop" = true:=by decide +kernel
section
variable{prog:Program}{w:World}{A:Around}{s:Shared}{R:Result->Shared->Prop}{D I l:Addr}{items:Array Value}{ps:List (Key×Value)}
theorem aEy{E:Value->Shared->Prop}{a:Addr}{o:Obj}{xs:Array Value}{n:Nat}{Q:Option (Array Value)->Shared->Prop}(h1:s.heap.get? a=some o)(h2:o.data=.seq xs n)(h:Q (some xs) s):wpAny (model prog w) A (seqItems? (.ref a)) Q E s:=by
 unfold seqItems?
 refine wpAny_bind (wpAny_load h1 ?_)
 rw[h2]
 exact wpAny_pure h
end
end L2
namespace L2
open PySem PySem.Spec PySem.W PyProof.Rows
section
variable{X:Cx}
end
end L2
namespace L2
open PySem PySem.Spec PySem.W PyProof.Rows
section
variable{X:Cx}
def aL3:R2:=fun y x H Q=>∃a o,x=.ref a/\kE H a y o/\Q (.bl o.isSome) H
theorem aL4(hu:X.A.units+9 < cLine):rC X (compareOp .In) aL3:=by
 intro pins s σ H x y u v Q I rx ry h
 obtain⟨a,o,e,g,q⟩:=h
 subst e
 cases ry
 exact aNh (by omega) I g rx fun s' I'=>⟨.bl o.isSome,H,I',rfl,q⟩
end
section
variable{σ:St}{H:Hp}{Q:VK}
theorem aI5{td ty:TE}(h:td σ H fun x H1=>∃a,x=.ref a/\IsD H1 a/\ty σ H1 fun y H2=>∃o,kE H2 a y o/\Q (o.getD .non) H2):aFt td ty σ H Q:=h
theorem aL5{a:Addr}{y:V}{o:Option V}(g:kE H a y o)(q:Q (.bl o.isSome) H):aL3 y (.ref a) H Q:=⟨a,o,rfl,g,q⟩
end
end L2
namespace L2.Z
open PySem PySem.Spec PyProof.Rows L2
section
variable{X:Cx}{o e tg:Expr}{td ty t:TE}{pos apos cpos tp:Pos}{elts:List Expr}{x1:Nat}
theorem aDh(ho:QE X o td)(hbase:attributeBase o "items" X.env (eval o X.env)=eval o X.env:=by rfl)(hline:(apos.endLine == cpos.line)=true:=by rfl) :
  QE X (.Call (.Attribute o "items" apos) [] [] cpos) (aI4 td):=⟨L2.aDh ho.h hbase hline⟩
theorem aAD(hu:X.A.units+9 < cLine)(ho:QE X o td)(he:QE X e ty)(base:attributeBase o "get" X.env (eval o X.env)=eval o X.env:=by rfl)
  (vO:((backTo cpos (starEach [e] X.env)).all (fun x=>!x.1) && (backToKw cpos (keywordEach [] X.env)).all (fun x=>x.1.isSome)
   && decide (([e]:List Expr).length+([]:List Keyword).length+(if ([]:List Keyword).isEmpty then 0 else 1) < 30))=true:=by rfl)
  (line:(apos.endLine == cpos.line)=true:=by rfl) (trees:backTo cpos (starEach [e] X.env)=[(false,eval e X.env)]:=by rfl) :
  QE X (.Call (.Attribute o "get" apos) [e] [] cpos) (aFt td ty):=⟨L2.aAD (by omega) ho.h he.h ⟨base,vO,line,trees⟩⟩
end
end L2.Z
namespace L2
open PySem PySem.Spec PyProof.Rows
end L2
namespace L2
open PySem PySem.Spec PyProof.Rows
section
variable{X:Cx}
def aL6(K:W.Frag):R2:=fun x y H Q=>∃(p l:Addr) (es fs:List Addr),x=.ref p/\y=.ref l/\bG K H p (es.map V.ref)/\bG K H l (fs.map V.ref)/\es.length=fs.length/\
 (∀(j:Nat) a b,es[j]?=some a->fs[j]?=some b->∃qs:List Addr,bG K H a (qs.map V.ref)/\bG K H b (qs.map V.ref))/\Q (.bl false) H
theorem aL7(hu:X.A.units+9 < cLine):rC X (compareOp .NotEq) (aL6 X.K):=by
 intro pins s σ H x y v u Q I rx ry h
 obtain⟨p,l,es,fs,rfl,rfl,h1,h2,hl,hr,q⟩:=h
 cases rx
 cases ry
 have fin:EP X pins σ Q (.bool (!true)) s:=⟨.bl false,H,I,rfl,q⟩
 obtain⟨us,r1,p1,_⟩:=I.list h1
 obtain⟨vs,r2,p2,_⟩:=I.list h2
 have e1:us=es.map Value.ref:=oY r1
 have e2:vs=fs.map Value.ref:=oY r2
 subst e1 e2
 refine SeqAt.RcNeAt.lists (e:=fun _=>true) p1.isList p2.isList (by simp[hl]) (by omega) (fun j h1 h2=>?_) X.prog X.w X.xe _ ?_
 ·have j1:j < es.length:=by simpa using h1
  have j2:j < fs.length:=by simpa using h2
  obtain⟨qs,a1,a2⟩:=hr j es[j] fs[j] (List.getElem?_eq_getElem j1) (List.getElem?_eq_getElem j2)
  obtain⟨us',r3,p3,_⟩:=I.list a1
  obtain⟨vs',r4,p4,_⟩:=I.list a2
  have e3:us'=qs.map Value.ref:=oY r3
  have e4:vs'=qs.map Value.ref:=oY r4
  subst e3 e4
  have z:=SeqAt.RcAt.lists (A:=X.A.in1) (s:=s) (e:=fun _=>true) p3.isList p4.isList rfl (show X.A.in1.units < cLine from Nat.lt_of_le_of_lt (show X.A.in1.units<=X.A.units+9 from Nat.le_add_right _ 8) hu) (fun j h1 h2=>SeqAt.EqAt.same _)
  rw[show(List.range (qs.map Value.ref).toArray.size).all (fun _=>true)=true by simp] at z
  have goal:SeqAt.EqAt X.A.in1 s (.ref es[j]) (.ref fs[j]) true:=fun prog w E Q h=>by
   unfold eqBool
   refine wpAny_holding ?_
   refine wpAny_ite_split (fun _=>wpAny_bind (wpAny_rule (wpAny_pure h))) (fun _=>?_)
   exact wpAny_bind (z prog w E _ (wpAny_truthy_bool h))
  simpa using goal
 ·rw[show(List.range (es.map Value.ref).toArray.size).all (fun _=>true)=true by simp]
  exact fin
end
section
variable{K:W.Frag}{H:Hp}{Q:VK}
theorem aL8{p l:Addr}{es fs:List Addr}(h1:H p=some (.lst (es.map V.ref)))(h2:H l=some (.lst (fs.map V.ref)))(hl:es.length=fs.length)(hr:∀(j:Nat) a b,es[j]?=some a->fs[j]?=some b->∃qs:List Addr,H a=some (.lst (qs.map V.ref))/\H b=some (.lst (qs.map V.ref)))(h:Q (.bl false) H):aL6 K (.ref p) (.ref l) H Q:=
 ⟨p,l,es,fs,rfl,rfl,bG.of h1,bG.of h2,hl,fun j a b x y=>let ⟨qs,u,v⟩:=hr j a b x y;⟨qs,bG.of u,bG.of v⟩,h⟩
end
end L2
namespace L2
open PySem PySem.Spec PySem.W PyProof.Rows
theorem aHp{prog:Program}{w:World}{A:Around}(hh:A.handled=none)(I d:Addr)(hne:d≠I)(es:Array DictEntry)(ep:Nat) :
  Walks prog w A I [I,d] [I] es.size (fun i v=>∃e,es[i]?=some e/\v=e.key) (fun i h=>It4 "dict_keyiterator" h I d i es.size ep/\Raw h d es ep) where
 sub:=fun b hb=>List.mem_cons.mpr (.inl (by simpa using hb))
 frame:=fun _ _ _ st hk=>⟨st.1.keep fun o e=>hk I (by simp) o e,st.2.keep fun o e=>hk d (by simp) o e⟩
 item:=fun i s Q E hi st hQ=>by
  have hx:es[i]?=some es[i]:=Array.getElem?_eq_getElem hi
  refine aEx st.1 st.2 hx fun h' a b=>hQ es[i].key h' s.toks ⟨_,hx,rfl⟩ ⟨a,st.2.keep fun o e=>b.extBut d o hne e⟩ fun b' o hb e=>b.extBut b' o (fun z=>hb (List.mem_singleton.mpr z)) e
 done:=fun s Q E st hQ=>aFD hh st.1 st.2 (Nat.le_refl _) fun h' z=>hQ h' s.toks fun b o hb e=>z b o (fun y=>hb (List.mem_singleton.mpr y)) e
 self:=fun _ _ _ _ st hQ=>wpAny_pyIter_keyiter st.1 hQ
theorem aHq{prog:Program}{w:World}{d:Addr}{es:Array DictEntry}{ep:Nat}(lo:(d == sysModules)=false):KdlSrc prog w "dict" d d es.size (fun i v=>∃e,es[i]?=some e/\v=e.key) (fun h=>Raw h d es ep) where
 type:=fun _ hm=>hm.ty
 there:=fun _ hm=>let ⟨_,e,_⟩:=hm;⟨Heap.lt_size e,Heap.lt_size e⟩
 keep:=fun _ _ hm hk=>hm.keep fun o e=>hk d (.inl rfl) o e
 notList:=by decide
 notTuple:=by decide
 hint:=fun _ _ _ _ hm hq=>kdl_hint_dict hm.ty hq
 iter:=fun _ _ hh hm=>⟨_,_,(fun _ _ hq=>aDc lo hm hq),aHp hh _ d (Nat.ne_of_lt (let ⟨_,e,_⟩:=hm;Heap.lt_size e)) es ep,⟨⟨_,Heap.get?_push_size _ rfl,rfl,rfl⟩,hm.keep fun o e=>Heap.get?_push_of_some _ e⟩⟩
section
variable{X:Cx}
def aFM:List V->Hp->VK->Prop:=fun xs H Q=>∃(d:Addr) (kvs:List (List Key×V)) (ts:List (List Int)),xs=[.ref d]/\H d=some (.dT kvs)/\kvs.map (·.1)=ts.map (fun t=>t.map Sum.inl)/\(∀t∈ts,t≠[])/\ts.length < 64/\
 ∀(p:Addr) (qs:List Addr) (us:List (List Int)),H p=none->mO H qs us->us.Perm ts->us.Pairwise (fun a b=>iZ b a=false)->Q (.ref p) (upd H p (.lst (qs.map V.ref)))
theorem aDj(hc:X.calm=true):dZ X (.builtin "sorted") aFM:=by
 intro pins s σ H xs us Q I r h
 obtain⟨d,kvs,ts,rfl,hd,ek,hne,h64',q⟩:=h
 obtain⟨u,rfl,ru⟩:=vals1 r
 cases ru
 obtain⟨lo,ob,es,ep,ys,g1,g2,g3,rel,g4,g5⟩:=rP (show bI X.prog X.w H s.heap d (.dT kvs) from I.hok d _ hd)
 have raw:Raw s.heap d es ep:=⟨ob,g1,g2.1,g3⟩
 have hkl:kvs.length=ts.length:=by have:=congrArg List.length ek;simpa using this
 have hyl:ys.length=kvs.length:=(Paired.length rel).symm
 have ht:mO H (ys.map (·.2.1)) ts:=by
  refine⟨by rw[List.length_map,hyl,hkl],fun j a t x y=>?_⟩
  have hj:j < kvs.length:=by rw[hkl];exact(List.getElem?_eq_some_iff.mp y).1
  obtain⟨p,hp,hb,_⟩:=yA rel (List.getElem?_eq_getElem hj)
  rw[List.getElem?_map,hp] at x
  cases x
  refine⟨?_,hne t (List.mem_of_getElem? y)⟩
  have e3:(kvs.map (·.1))[j]?=some kvs[j].1:=by rw[List.getElem?_map,List.getElem?_eq_getElem hj];rfl
  rw[ek,List.getElem?_map,y] at e3
  have e4:t.map Sum.inl=kvs[j].1:=Option.some.inj e3
  rw[hb,<-e4,List.map_map]
  rfl
 have hv:((ys.map (·.2.1)).map Value.ref).length=ts.length:=by rw[List.length_map];exact ht.len
 refine Calls.call_function_entry kind_sorted plain_sorted entry_sorted (args_sorted1 (.ref d)) ?_
 unfold Builtin.«sorted»
 refine wpAny_bind (m:=checkCount "sorted" 1 1 _) (wpAny_pure (wpAny_bind (PySem.W.kdu_collect (A:=X.A.in1) (aHq (es:=es) (ep:=ep) lo) (I.ok.hd hc) raw (by rw[sizeLine_eq];omega) fun h1 tk acc k0 hacc=>?_)))
 have ea:acc.toList=(ys.map (·.2.1)).map Value.ref:=by
  refine List.ext_getElem? fun j=>?_
  by_cases hj:j < kvs.length
  ·have hja:j < acc.size:=by rw[hacc.1,g5];exact hj
   have e1:acc[j]?=some acc[j]:=Array.getElem?_eq_getElem hja
   obtain⟨e,he,ev⟩:=hacc.2 j _ e1
   obtain⟨p,hp,hb,_⟩:=yA rel (List.getElem?_eq_getElem hj)
   rw[entry_at g4,hp] at he
   cases he
   rw[Array.getElem?_toList,e1,ev,List.getElem?_map,List.getElem?_map,hp]
   rfl
  ·rw[List.getElem?_eq_none (by rw[Array.length_toList,hacc.1,g5];omega),List.getElem?_eq_none (by rw[List.length_map,List.length_map,hyl];omega)]
 rw[ea]
 generalize hqs:ys.map (·.2.1)=qs at ht hv ea
 have hq:=ht.len
 have h64:qs.length < 64:=by omega
 refine wpAny_bind (wpAny_newList ?_ (by rw[hv,sizeLine_eq];omega))
 have k1:∀b o,s.heap.get? b=some o->(h1.push (seqObj "list" (qs.map Value.ref).toArray 0)).get? b=some o:=fun b o g=>Heap.get?_push_of_some _ (k0 b o g)
 have gD:(h1.push (seqObj "list" (qs.map Value.ref).toArray 0)).get? h1.objs.size=some (seqObj "list" (qs.map Value.ref).toArray 0):=Heap.get?_push_size _ rfl
 refine wpAny_bind (wpAny_holding (wpAny_call_entry (s:={ s with heap:=h1.push (seqObj "list" (qs.map Value.ref).toArray 0),toks:=tk }) slot_list_sort ⟨_,gD,rfl⟩ entry_list_sort (aHi gD ((ht.rB I).keeps fun b o _ g=>k1 b o g) (by rw[hv,<-hq];exact h64) fun p hr hu=>⟨_,rfl,?_⟩) (args_list_sort (.ref h1.objs.size))))
 rw[hv,<-hq] at hr hu
 have pl:p.toList.Perm (List.range qs.length):=by simpa using Array.perm_iff_toList_perm.mp hr
 have plen:p.toList.length=qs.length:=by have:=pl.length_eq;simpa using this
 have eo:(iG (qs.map Value.ref) p).toList=(p.toList.map fun i=>qs.getD i 0).map Value.ref:=by
  unfold iG
  show p.toList.map (fun i=>(qs.map Value.ref).getD i Value.none)=_
  rw[List.map_map]
  refine List.map_congr_left fun i hi=>?_
  have li:i < qs.length:=List.mem_range.mp (pl.mem_iff.mp hi)
  show(qs.map Value.ref).getD i Value.none=Value.ref (qs.getD i 0)
  simp[List.getD_eq_getElem?_getD,List.getElem?_eq_getElem li]
 refine wpAny_pure ⟨_,rfl,?_⟩
 obtain⟨c,hc2⟩:=sortedHeap_at (out:=iG (qs.map Value.ref) p) gD
 have T':mO H (p.toList.map fun i=>qs.getD i 0) (p.toList.map fun i=>ts.getD i []):=by
  refine⟨by rw[List.length_map,List.length_map],fun j a b x y=>?_⟩
  rw[List.getElem?_map] at x y
  obtain⟨i,e1,e2⟩:=Option.map_eq_some_iff.mp x
  rw[e1] at y
  have li:i < qs.length:=List.mem_range.mp (pl.mem_iff.mp (List.mem_of_getElem? e1))
  refine ht.at_ i a b ?_ ?_
  ·rw[<-e2];simp[List.getD_eq_getElem?_getD,List.getElem?_eq_getElem li]
  ·cases y
   simp[List.getD_eq_getElem?_getD,List.getElem?_eq_getElem (show i < ts.length by omega)]
 obtain⟨hn,I2⟩:=I.aMW (t':=tk) (h':=sortedHeap (h1.push (seqObj "list" (qs.map Value.ref).toArray 0)) h1.objs.size (qs.map Value.ref) (iG (qs.map Value.ref) p)) (a:=h1.objs.size) (o:=.lst ((p.toList.map fun i=>qs.getD i 0).map V.ref)) (fun b ob g=>by
   have lb:b < h1.objs.size:=Heap.lt_size (k0 b ob g)
   rw[sortedHeap_old (Nat.ne_of_lt lb) (by rw[size_push'];exact Nat.lt_succ_of_lt lb)]
   exact k1 b ob g) (fun b ob g=>Nat.ne_of_lt (Heap.lt_size (k0 b ob g)))
  ⟨by rw[List.length_map,List.length_map,plen,sizeLine_eq];omega,(p.toList.map fun i=>qs.getD i 0).map Value.ref,c,u6 _,by rw[<-eo,Array.toArray_toList];exact hc2⟩
 refine⟨.ref h1.objs.size,_,I2,rfl,q _ _ _ hn T' ?_ ?_⟩
 ·have:=pl.map (fun i=>ts.getD i [])
  rw[hq,range_getD] at this
  exact this
 ·rw[List.pairwise_iff_getElem]
  intro i j hi hj hij
  rw[List.length_map,plen] at hi hj
  have key:∀k (hk:k < p.toList.length),(p.toList.map fun i=>ts.getD i [])[k]'(by rw[List.length_map];exact hk)=kq (O:=u5) (fun i=>ts.getD i []) p k:=fun k hk=>by
   rw[List.getElem_map]
   unfold kq
   have:p.getD k 0=p.toList[k]:=by
    have hk':k < p.size:=by simpa using hk
    simp[Array.getD,hk']
   rw[this]
  rw[key i (by omega),key j (by omega)]
  exact hu i j (by omega) hj
end
section
variable{H:Hp}{Q:VK}
theorem aI6{d:Addr}{kvs:List (List Key×V)}{ts:List (List Int)}(h:H d=some (.dT kvs))(e:kvs.map (·.1)=ts.map (fun t=>t.map Sum.inl))(hne:∀t∈ts,t≠[])(hl:ts.length < 64)(q:∀(p:Addr) (qs:List Addr) (us:List (List Int)),H p=none->mO H qs us->us.Perm ts->us.Pairwise (fun a b=>iZ b a=false)->Q (.ref p) (upd H p (.lst (qs.map V.ref)))):aFM [.ref d] H Q:=⟨d,kvs,ts,rfl,h,e,hne,hl,q⟩
end
end L2
namespace L2
open PySem PySem.Spec PyProof.Rows
section
variable{X:Cx}
def aL9(K:W.Frag):R2:=fun x y H Q=>∃(a b:Addr) (xs:List V),x=.ref a/\y=.ref b/\bG K H a xs/\bG K H b []/\Q (.bl (!xs.isEmpty)) H
theorem aMa(hu:X.A.units+9 < cLine):rC X (compareOp .NotEq) (aL9 X.K):=by
 intro pins s σ H x y v u Q I rx ry h
 obtain⟨a,b,xs,rfl,rfl,h1,h2,q⟩:=h
 cases rx
 cases ry
 have fin:EP X pins σ Q (.bool (!xs.isEmpty)) s:=⟨.bl (!xs.isEmpty),H,I,rfl,q⟩
 obtain⟨us,r1,p1,_⟩:=I.list h1
 obtain⟨vs,r2,p2,_⟩:=I.list h2
 cases r2
 cases xs with
 |nil=>
  cases r1
  refine SeqAt.RcNeAt.lists (e:=fun _=>true) p1.isList p2.isList rfl (by omega) (fun j h1 h2=>by simp at h1) X.prog X.w X.xe _ ?_
  exact fin
 |cons z zs=>
  cases r1 with
  |cons hz ht=>exact SeqAt.RcNeAt.lists_lengths p1.isList p2.isList (by simp) (by omega) X.prog X.w X.xe _ fin
end
section
variable{K:W.Frag}{H:Hp}{Q:VK}
theorem aMb{a b:Addr}{xs:List V}(h1:H a=some (.lst xs))(h2:H b=some (.lst []))(h:Q (.bl (!xs.isEmpty)) H):aL9 K (.ref a) (.ref b) H Q:=⟨a,b,xs,rfl,rfl,bG.of h1,bG.of h2,h⟩
end
end L2
namespace L2
open PySem PySem.Spec PySem.W PyProof.Rows
section
variable{prog:Program}{w:World}{A:Around}{E:Value->Shared->Prop}{s:Shared}{it d:Addr}{es:Array DictEntry}{ep i:Nat}
def prO(e:DictEntry):Obj:={ cls:=.type "tuple",data:=.seq #[e.key,e.val] }
theorem aEz{a:Addr}{f:Bool}{oa:Obj}{ok ov:Value}{Q:Option Value->Shared->Prop}{e:DictEntry}(hit:KdxIt s.heap it d i es.size ep ok ov a f)(ha:s.heap.get? a=some oa)(hai:a≠it)(hm:Raw s.heap d es ep)(hx:es[i]?=some e)
  (hQ:∀h',KdxIt h' it d (i+1) es.size ep ok ov a true->h'.get? s.heap.objs.size=some (prO e)->h'.objs.size=s.heap.objs.size+1->(∀b o,b≠it->s.heap.get? b=some o->h'.get? b=some o)->Q (some (.ref s.heap.objs.size)) { s with heap:=h' }) :
  wpAny (model prog w) A (pyNext (.ref it)) Q E s:=by
 obtain⟨hp,g,dr,tk,os⟩:=s;obtain⟨od,b1,b2,b3⟩:=id hm
 have ty:Shared.TypeIs ⟨hp,g,dr,tk,os⟩ (.ref it) "dict_itemiterator":=⟨_,hit,rfl⟩
 unfold pyNext;refine wpAny_bind (wpAny_attempt (wpAny_callSpecial?_slot (name:=Str.ofString "__next__") ty F.slot_dict_itemiterator_next
  (wpAny_call_entry F.slot_dict_itemiterator_next ty F.entry_dict_itemiterator_next (show _ from ?_) (F.args_dict_itemiterator_next_1 _))))
 refine wpAny_bind (wpAny_pure ?_);refine wpAny_bind (show _ from ?_);refine wpAny_bind (show _ from ?_)
 first|refine wpAny_bind (wpAny_typeNameOfWhole_itemiter ty (show _ from wpAny_pure ?_))|refine wpAny_bind (wpAny_typeNameOf_itemiter ty (show _ from wpAny_pure ?_))
 refine wpAny_bind (wpAny_fieldsOf hit rfl (show _ from ?_));have own:Builtin.Dict_items.ownsTuple "dict_itemiterator" = true:=rfl
 simp only[own,if_true];show wpAny _ _ (if (Value.ref d == Value.none)=true then _ else _) _ _ _
 rw[if_neg (show ¬((Value.ref d == Value.none)=true) from fun z=>nomatch z)];refine wpAny_bind (wpAny_pure ?_)
 refine wpAny_bind (wpAny_dictEntries b1 b3 (show _ from ?_));rw[if_neg (show _ from by simp)];refine wpAny_bind (wpAny_pure ?_)
 refine wpAny_bind (wpAny_dictEpoch b1 b3 (show _ from ?_));rw[if_neg (show _ from by simp)];refine wpAny_pure (show _ from ?_)
 simp only[show ¬((i:Int) < 0) by omega,if_false,Int.toNat_natCast,hx]
 refine wpAny_bind (show _ from ?_)
 first|refine wpAny_bind (wpAny_typeNameOfWhole_itemiter ty (show _ from wpAny_pure ?_))|refine wpAny_bind (wpAny_typeNameOf_itemiter ty (show _ from wpAny_pure ?_))
 refine wpAny_bind (wpAny_isOneOf_itemiter ty (show _ from ?_));show wpAny _ _ (setField (.ref it) 3 (rawInt ((i:Int)+1)) >>= _) _ _ _
 refine wpAny_bind (wpAny_setField_rec hit (show _ by simp) fun j1 c1 d1=>(show _ from ?_))
 replace d1:Heap.SameBut it hp j1:=d1
 replace c1:KdxIt j1 it d (i+1) es.size ep ok ov a f:=by
  unfold KdxIt;rw[show((i+1:Nat):Int)=(i:Int)+1 by omega];simpa [rawInt] using c1
 have ty1:Shared.TypeIs ⟨j1,g,dr,tk,os⟩ (.ref it) "dict_itemiterator":=⟨_,c1,rfl⟩
 refine wpAny_bind (wpAny_holding (show _ from ?_));refine wpAny_bind (wpAny_isOneOf_itemiter ty1 (wpAny_bind (wpAny_isOneOf_itemiter ty1 (show _ from ?_))))
 show wpAny _ _ (Builtin.Dict_items.pairFromOwner (.ref it) 6 e.key e.val) _ _ ⟨j1,g,dr,tk,os⟩;unfold Builtin.Dict_items.pairFromOwner
 refine wpAny_bind (wpAny_newTuple (show _ from ?_))
 have c2:KdxIt (j1.push (prO e)) it d (i+1) es.size ep ok ov a f:=Heap.get?_push_of_some _ c1
 generalize hj2:j1.push (prO e)=j2 at c2
 have z1:j1.objs.size=hp.objs.size:=d1.1
 have il:it < hp.objs.size:=Heap.lt_size hit
 have t2:j2.get? hp.objs.size=some (prO e):=by rw[<-hj2,<-z1];exact Heap.get?_push_size _ rfl
 have z2:j2.objs.size=hp.objs.size+1:=by rw[<-hj2,Heap.size_push,z1]
 have k2:∀b o,b≠it->hp.get? b=some o->j2.get? b=some o:=fun b o hb q=>by rw[<-hj2];exact Heap.get?_push_of_some _ (d1.extBut b o hb q)
 show wpAny _ _ (Builtin.Dict_items.ownedTupleIsFree (.ref it) >>= _) _ _ ⟨j1.push (prO e),g,dr,tk,os⟩;rw[hj2,z1];clear hj2 c1 d1 ty1 z1 j1
 have a2:j2.get? a=some oa:=k2 a oa hai ha
 refine wpAny_bind (show _ from ?_);unfold Builtin.Dict_items.ownedTupleIsFree;refine wpAny_bind (wpAny_field c2 rfl (x:=rawInt a) rfl (show _ from ?_))
 show wpAny _ _ (loadIfAlive ((a:Int).toNat) >>= _) _ _ _;rw[Int.toNat_natCast]
 refine wpAny_bind (kdx_alive a2 (show _ from ?_));simp only[Option.isNone_some,Bool.false_eq_true,if_false]
 refine wpAny_bind (wpAny_field c2 rfl (x:=.bool f) rfl (show _ from ?_))
 have fin:∀j3:Heap,KdxIt j3 it d (i+1) es.size ep ok ov a true->Heap.SameBut it j2 j3->Q (some (.ref hp.objs.size)) ⟨j3,g,dr,tk,os⟩:=fun j3 c3 d3=>
  hQ j3 c3 (d3.extBut _ _ (Nat.ne_of_gt il) t2) (show j3.objs.size=hp.objs.size+1 by rw[d3.1,z2]) fun b o hb q=>d3.extBut b o hb (k2 b o hb q)
 cases f with
 |true=>
  rw[if_neg (show ¬((Value.bool true != Value.bool true)=true) from fun z=>nomatch z)];refine wpAny_pure (show _ from ?_)
  simp only[Bool.false_eq_true,if_false];exact wpAny_pure (wpAny_pure ⟨_,rfl,wpAny_pure (fin j2 c2 (Heap.SameBut.refl _ _))⟩)
 |false=>
  rw[if_pos (show(Value.bool false != Value.bool true)=true by rfl)];refine wpAny_bind (wpAny_setField_rec c2 (show _ by simp) fun j3 c3 d3=>(show _ from ?_))
  replace d3:Heap.SameBut it j2 j3:=d3;replace c3:KdxIt j3 it d (i+1) es.size ep ok ov a true:=c3
  refine wpAny_pure (show _ from ?_);simp only[Bool.false_eq_true,if_false];exact wpAny_pure (wpAny_pure ⟨_,rfl,wpAny_pure (fin j3 c3 d3)⟩)
theorem aFN{a:Addr}{f:Bool}{ok ov:Value}{Q:Option Value->Shared->Prop}(hh:A.handled=none)(hit:KdxIt s.heap it d i es.size ep ok ov a f)(hm:Raw s.heap d es ep)(hx:es.size<=i)
  (hQ:∀h',Heap.ExtBut it s.heap h'->Q none { s with heap:=h' }):wpAny (model prog w) A (pyNext (.ref it)) Q E s:=by
 obtain⟨od,b1,b2,b3⟩:=id hm;have ty:s.TypeIs (.ref it) "dict_itemiterator":=⟨_,hit,rfl⟩
 unfold pyNext;refine wpAny_bind (wpAny_attempt (wpAny_callSpecial?_slot (name:=Str.ofString "__next__") ty F.slot_dict_itemiterator_next
  (wpAny_call_entry F.slot_dict_itemiterator_next ty F.entry_dict_itemiterator_next (show _ from ?_) (F.args_dict_itemiterator_next_1 _))))
 refine wpAny_bind (wpAny_pure ?_);refine wpAny_bind (show _ from ?_);refine wpAny_bind (show _ from ?_)
 first|refine wpAny_bind (wpAny_typeNameOfWhole_itemiter ty (show _ from wpAny_pure ?_))|refine wpAny_bind (wpAny_typeNameOf_itemiter ty (show _ from wpAny_pure ?_))
 refine wpAny_bind (wpAny_fieldsOf hit rfl (show _ from ?_));have own:Builtin.Dict_items.ownsTuple "dict_itemiterator" = true:=rfl
 simp only[own,if_true];show wpAny _ _ (if (Value.ref d == Value.none)=true then _ else _) _ _ _
 rw[if_neg (show ¬((Value.ref d == Value.none)=true) from fun z=>nomatch z)];refine wpAny_bind (wpAny_pure ?_)
 refine wpAny_bind (wpAny_dictEntries b1 b3 (show _ from ?_));rw[if_neg (show _ from by simp)];refine wpAny_bind (wpAny_pure ?_)
 refine wpAny_bind (wpAny_dictEpoch b1 b3 (show _ from ?_));rw[if_neg (show _ from by simp)];refine wpAny_pure (show _ from ?_)
 simp only[show ¬((i:Int) < 0) by omega,if_false,Int.toNat_natCast,Array.getElem?_eq_none hx]
 refine wpAny_bind (show _ from ?_)
 first|refine wpAny_bind (wpAny_typeNameOfWhole_itemiter ty (show _ from wpAny_pure ?_))|refine wpAny_bind (wpAny_typeNameOf_itemiter ty (show _ from wpAny_pure ?_))
 show wpAny _ _ (setField (.ref it) 2 Value.none >>= _) _ _ s
 refine wpAny_bind (wpAny_setField hit rfl (show _ by simp) (show _ from ?_));show wpAny _ _ (newExc (.type "StopIteration") [] >>= _) _ _ _
 refine wpAny_bind (show _ from ?_);simp only[newExc,newTuple];refine wpAny_bind (wpAny_newObj_type (show _ from ?_) (by size_fits))
 refine wpAny_bind (m:=firstArgMember _ _) (wpAny_of_eq (a:=Value.none) (show _ by first|rfl|(simp only[firstArgMember];rfl)) (show _ from ?_))
 refine wpAny_newObj_type (show _ from ?_) (by size_fits);simp only[raiseNew]
 refine wpAny_bind (wpAny_handled (show _ from ?_));rw[show A.in1.handled=none from hh];refine wpAny_bind (wpAny_pure (wpAny_throw ?_))
 refine wpAny_bind (wpAny_isInstance (T:="StopIteration") (b:=true) ⟨_,Heap.get?_push_size _ rfl,rfl⟩ isSubtype_stop (show _ from ?_))
 exact wpAny_pure (hQ _ (show _ from((Heap.SameBut.update ..).extBut.push _).push _))
theorem aHr{S:Addr}{e:DictEntry}{Q:Option Value->Shared->Prop}(hst:KdxSt s.heap it d S i es.size ep)(hS:S < s.heap.objs.size)(hm:Raw s.heap d es ep)(hx:es[i]?=some e)
  (hQ:∀h',KdxSt h' it d S (i+1) es.size ep->h'.get? s.heap.objs.size=some (prO e)->h'.objs.size=s.heap.objs.size+1->(∀b o,b≠it->s.heap.get? b=some o->h'.get? b=some o)->Q (some (.ref s.heap.objs.size)) { s with heap:=h' }) :
  wpAny (model prog w) A (pyNext (.ref it)) Q E s:=by
 rcases hst with ⟨rfl,ok,ov,hit⟩|⟨ok,ov,a,f,oa,hit,ha,hai,haS⟩
 ·exact vZ hit hm hx fun h' c t z k=>hQ h' (.inr ⟨e.key,e.val,_,false,_,c,t,Nat.ne_of_gt (Heap.lt_size hit),Nat.ne_of_gt hS⟩) t z k
 ·exact aEz hit ha hai hm hx fun h' c t z k=>hQ h' (.inr ⟨ok,ov,a,true,oa,c,k a oa hai ha,hai,haS⟩) t z k
theorem aHs{S:Addr}{Q:Option Value->Shared->Prop}(hh:A.handled=none)(hst:KdxSt s.heap it d S i es.size ep)(hm:Raw s.heap d es ep)(hx:es.size<=i)(hQ:∀h',Heap.ExtBut it s.heap h'->Q none { s with heap:=h' }):wpAny (model prog w) A (pyNext (.ref it)) Q E s:=by
 rcases hst with ⟨rfl,ok,ov,hit⟩|⟨ok,ov,a,f,oa,hit,_,_,_⟩
 ·exact yU hh hit hm hx hQ
 ·exact aFN hh hit hm hx hQ
structure aFO(es:Array DictEntry)(lo:Addr)(h:Heap)(as:List Addr):Prop where
 rise:as.Pairwise (·< ·)
 above:∀a∈as,lo < a
 at_:∀(j:Nat) (a:Addr),as[j]?=some a->∃e,es[j]?=some e/\h.get? a=some (prO e)
theorem aFO.there{lo:Addr}{h:Heap}{as:List Addr}(g:aFO es lo h as){a:Addr}(ha:a∈as):a < h.objs.size:=by
 obtain⟨j,hj⟩:=List.mem_iff_getElem?.mp ha
 obtain⟨_,_,e⟩:=g.at_ j a hj
 exact Heap.lt_size e
theorem aHt{S I:Addr}(hh:A.handled=none)(hSI:S < I)(hSd:d≠S)(hId:d≠I)(hn:es.size<=sizeLine)(res:Value){h₁:Heap}{R:Result->Shared->Prop}
  (hR:∀h' tk acc c as,(∀b o,b≠S->b≠I->h₁.get? b=some o->h'.get? b=some o)->h'.get? S=some { cls:=.type "list",dict:=none,data:=.seq acc c,slots:=#[] }->as.length=es.size->aFO es I h' as->acc.toList=as.map Value.ref->R (.ok (.ret res)) { s with heap:=h',toks:=tk }) :
  ∀(k i:Nat) (h:Heap) (tk c:Nat) (acc:Array Value) (as:List Addr),es.size - i=k->i<=es.size->KdxSt h I d S i es.size ep->Raw h d es ep->(∀b o,b≠S->b≠I->h₁.get? b=some o->h.get? b=some o)->h.get? S=some { cls:=.type "list",dict:=none,data:=.seq acc c,slots:=#[] }->acc.toList=as.map Value.ref->as.length=i->aFO es I h as->I < h.objs.size->
   codeAny (model prog w) A (.builtin "list.extend.loop" ⟨[.ref S,.ref I,res],[]⟩) R { s with heap:=h,toks:=tk }:=by
 have ne:S≠I:=Nat.ne_of_lt hSI
 intro k
 induction k with
 |zero=>
  intro i h tk c acc as hk hi st hD kp gS ea el hG lI
  refine codeAny_builtin PySem.F.entry_extend_loop (show _ from ?_);rw[Around.under_plainId PySem.F.plain_extend_loop _]
  refine(show wpAny _ A.in1 (pyNext (.ref I) >>= _) _ _ _ from wpAny_bind (aHs (s:={ s with heap:=h,toks:=tk }) (A:=A.in1) hh st hD (by omega) fun h' he=>?_))
  refine wpAny_pure (hR h' tk acc c as (fun b o h1 h2 e=>he b o h2 (kp b o h1 h2 e)) (he S _ ne gS) (by omega) ⟨hG.rise,hG.above,fun j a hj=>?_⟩ ea)
  obtain⟨e,e1,e2⟩:=hG.at_ j a hj
  exact⟨e,e1,he a _ (Nat.ne_of_gt (hG.above a (List.mem_of_getElem? hj))) e2⟩
 |succ k ih=>
  intro i h tk c acc as hk hi st hD kp gS ea el hG lI
  have hlt:i < es.size:=by omega
  have hx:es[i]?=some es[i]:=Array.getElem?_eq_getElem hlt
  have hsz:acc.size=i:=by rw[<-Array.length_toList,ea,List.length_map,el]
  refine codeAny_builtin PySem.F.entry_extend_loop (show _ from ?_);rw[Around.under_plainId PySem.F.plain_extend_loop _]
  refine(show wpAny _ A.in1 (pyNext (.ref I) >>= _) _ _ _ from wpAny_bind (aHr (s:={ s with heap:=h,toks:=tk }) (S:=S) st (Heap.lt_size gS) hD hx fun h' st' ht hz hkp=>?_))
  dsimp only at ht hz hkp ⊢
  have gS':=hkp S _ ne gS
  have up:∀b o,b≠S->h'.get? b=some o->(h'.update S (Obj.mapSeq (·.push (Value.ref h.objs.size)))).get? b=some o:=fun b o hb e=>(Heap.get?_update_other _ _ (Ne.symm hb)).trans e
  have lS:S < h.objs.size:=Heap.lt_size gS
  refine(show wpAny _ A.in1 (updateSeq S (·.push (Value.ref h.objs.size)) >>= _) _ _ _ from wpAny_bind ?_)
  refine wpAny_updateSeq gS' rfl (wpAny_pure ⟨plainId_quiet PySem.F.plain_extend_loop _,ih (i+1) _ tk _ (acc.push (Value.ref h.objs.size)) (as ++ [h.objs.size]) (by omega) hlt (st'.keep up (Ne.symm ne)) (hD.keep fun o e=>up d o hSd (hkp d o hId e)) (fun b o h1 h2 e=>up b o h1 (hkp b o h2 (kp b o h1 h2 e)))
   (Heap.get?_update_self _ gS' rfl) (by rw[Array.toList_push,ea,List.map_append];rfl) (by rw[List.length_append,el];rfl) ⟨List.pairwise_append.mpr ⟨hG.rise,List.pairwise_singleton _ _,fun a ha b hb=>?_⟩,fun a ha=>?_,fun j b hj=>?_⟩ ?_⟩) (by rw[hsz];omega) (by show(acc.push (Value.ref h.objs.size)).size<=sizeLine+1;rw[Array.size_push,hsz];omega)
  ·rw[List.mem_singleton.mp hb];exact hG.there ha
  ·rcases List.mem_append.mp ha with z|z
   ·exact hG.above a z
   ·rw[List.mem_singleton.mp z];exact lI
  ·by_cases hj2:j < as.length
   ·rw[List.getElem?_append_left hj2] at hj
    obtain⟨e,e1,e2⟩:=hG.at_ j b hj
    have hb:=hG.above b (List.mem_of_getElem? hj)
    exact⟨e,e1,up b _ (Nat.ne_of_gt (Nat.lt_trans hSI hb)) (hkp b _ (Nat.ne_of_gt hb) e2)⟩
   ·have hj3:j < (as ++ [h.objs.size]).length:=(List.getElem?_eq_some_iff.mp hj).1
    rw[List.length_append,List.length_singleton] at hj3
    obtain rfl:j=as.length:=by omega
    rw[List.getElem?_append_right (Nat.le_refl _),Nat.sub_self] at hj
    cases hj
    exact⟨_,by rw[el];exact hx,up _ _ (Nat.ne_of_gt lS) ht⟩
  ·exact Nat.lt_trans lI (Heap.lt_size (up _ _ (Nat.ne_of_gt lS) ht))
theorem aEA{r:Addr}{R:Result->Shared->Prop}(hh:A.handled=none)(hv:s.heap.IsItemsView r d)(hm:Raw s.heap d es ep)(hn:es.size<=sizeLine)(S:Addr)(hSr:S≠r)(hSd:d≠S)(res:Value)(c₀:Nat)(hS:s.heap.get? S=some { cls:=.type "list",data:=.seq #[] c₀ })
  (hR:∀h' tk acc c as,(∀b o,b≠S->s.heap.get? b=some o->h'.get? b=some o)->h'.get? S=some { cls:=.type "list",dict:=none,data:=.seq acc c,slots:=#[] }->as.length=es.size->aFO es s.heap.objs.size h' as->acc.toList=as.map Value.ref->R (.ok (.ret res)) { s with heap:=h',toks:=tk }) :
  wpAny (model prog w) A.in1 (Builtin.List.listExtendWith (.ref S) (.ref r) res) (fun fin s'=>match fin with|.done f=>R (.ok f) s'|.again c'=>c'.quiet=true/\codeAny (model prog w) A c' R s') (fun e s'=>R (.error e) s') s:=by
 have lS:S < s.heap.objs.size:=Heap.lt_size hS
 have ld:d < s.heap.objs.size:=let ⟨_,ho,_⟩:=hm;Heap.lt_size ho
 generalize hoI:({ cls:=.type "dict_itemiterator",data:=.fields #[.none,.bool false,.ref d,.int 0 0,.int es.size 0,.int ep 0,.none,.none] }:Obj)=oI
 have key:∀(h:Heap) (c₁ tk:Nat),(∀b o,b≠S->(s.heap.push oI).get? b=some o->h.get? b=some o)->h.get? S=some { cls:=.type "list",data:=.seq #[] c₁ }->codeAny (model prog w) A (.builtin "list.extend.loop" ⟨[.ref S,.ref s.heap.objs.size,res],[]⟩) R { s with heap:=h,toks:=tk }:=by
  intro h c₁ tk hk gS
  have gI:h.get? s.heap.objs.size=some oI:=hk s.heap.objs.size _ (Nat.ne_of_gt lS) (Heap.get?_push_size _ (by rw[<-hoI];rfl))
  refine aHt (es:=es) (ep:=ep) (s:=s) (h₁:=s.heap) hh lS hSd (Nat.ne_of_lt ld) hn res (fun h' tk' acc c as k' gS' el hG ea=>hR h' tk' acc c as (fun b o hb e=>k' b o hb (Nat.ne_of_lt (Heap.lt_size e)) e) gS' el hG ea) es.size 0 h tk c₁ #[] [] (Nat.sub_zero _) (Nat.zero_le _) (.inl ⟨rfl,.none,.none,?_⟩) (hm.keep fun o e=>hk d o hSd (Heap.get?_push_of_some _ e)) (fun b o hb _ e=>hk b o hb (Heap.get?_push_of_some _ e)) gS rfl rfl ⟨List.Pairwise.nil,(fun _ z=>nomatch z),(fun j a z=>by simp at z)⟩ (Heap.lt_size gI)
  rw[<-hoI] at gI
  exact gI
 unfold Builtin.List.listExtendWith
 refine wpAny_bind (wpAny_typeOf (T:="dict_items") hv.typeIs (show _ from ?_))
 have q1:Builtin.List.listSameRef (.ref S) (.ref r)=false:=by simp[Builtin.List.listSameRef,hSr]
 have q2:(Value.type "dict_items" == Value.type "list")=false:=by decide
 have q3:(Value.type "dict_items" == Value.type "tuple")=false:=by decide
 simp only[q1,q2,q3,Bool.or_false,Bool.false_eq_true,if_false]
 refine wpAny_bind (uJ hv hm ?_)
 rw[hoI]
 have gS:=Heap.get?_push_of_some oI hS
 refine wpAny_bind (wpAny_holding (kdx_hint (let ⟨o,ho,hc,_⟩:=hv;⟨o,Heap.get?_push_of_some _ ho,hc⟩) (show _ from ?_)))
 refine wpAny_ite_split (fun _=>(show _ from ?_)) (fun _=>wpAny_pure ⟨plainId_quiet PySem.F.plain_extend_loop _,key _ c₀ _ (fun b o _ e=>e) gS⟩)
 refine wpAny_bind (wpAny_rule (wpAny_bind (show wpAny _ _ (updateSeq S (·.push .none) >>= fun _=>updateSeq S (·.pop)) _ _ _ from wpAny_bind (wpAny_updateSeq gS rfl ?_))))
 have gS2:=Heap.get?_update_self (Obj.mapSeq (·.push Value.none)) gS rfl
 refine wpAny_updateSeq (hz:=by seq_fits) gS2 rfl (show _ from ?_)
 have gS3:=Heap.get?_update_self (Obj.mapSeq (·.pop)) gS2 rfl
 exact wpAny_pure ⟨plainId_quiet PySem.F.plain_extend_loop _,key _ _ _ (fun b o hb e=>(Heap.get?_update_other _ _ (Ne.symm hb)).trans ((Heap.get?_update_other _ _ (Ne.symm hb)).trans e)) gS3⟩
theorem aDk{r:Addr}{R:List Value->Shared->Prop}(hh:A.handled=none)(hv:s.heap.IsItemsView r d)(hm:Raw s.heap d es ep)(hn:es.size<=sizeLine)
  (h:∀(h':Heap) (tk:Nat) (as:List Addr),(∀b o,s.heap.get? b=some o->h'.get? b=some o)->as.length=es.size->aFO es s.heap.objs.size h' as->R (as.map Value.ref) { s with heap:=h',toks:=tk }) :
  wpAny (model prog w) A (collect (.ref r)) R E s:=by
 have hr:r < s.heap.objs.size:=let ⟨_,ho,_⟩:=hv;Heap.lt_size ho
 have hd:d < s.heap.objs.size:=let ⟨_,ho,_⟩:=hm;Heap.lt_size ho
 unfold collect
 refine wpAny_bind (wpAny_runValue (codeAny_builtin entry_proto_collect' (show _ from ?_)))
 rw[Around.under_plainId PySem.F.plain_proto_collect _]
 refine(show wpAny _ A.in1 (newList [] >>= fun l=>again (.builtin "list.__iadd__" ⟨[l,.ref r],[]⟩)) _ _ s from wpAny_bind (wpAny_newObj_type (show _ from ?_)))
 refine wpAny_pure ⟨plainId_quiet PySem.F.plain_list_iadd _,codeAny_builtin entry_list_iadd' (show _ from ?_)⟩
 rw[Around.under_plainId PySem.F.plain_list_iadd _]
 have gS:(s.heap.push { cls:=.type "list",data:=.seq ([]:List Value).toArray }).get? s.heap.objs.size=some { cls:=.type "list",data:=.seq #[] }:=Heap.get?_push_size _ rfl
 refine(show wpAny _ A.in1 (Builtin.List.listExtendWith (.ref s.heap.objs.size) (.ref r) (.ref s.heap.objs.size)) _ _ _ from ?_)
 have key:=aEA (prog:=prog) (w:=w) (A:=A) (s:={ s with heap:=s.heap.push { cls:=.type "list",data:=.seq ([]:List Value).toArray } }) (es:=es) (ep:=ep)
  (R:=fun(q:Result) (s':Shared)=>∃(h':Heap) (tk:Nat) (acc':Array Value) (c':Nat) (as:List Addr),q=.ok (.ret (.ref s.heap.objs.size))/\s'={ s with heap:=h',toks:=tk }/\(∀b o,s.heap.get? b=some o->h'.get? b=some o)/\h'.get? s.heap.objs.size=some { cls:=.type "list",dict:=none,data:=.seq acc' c',slots:=#[] }/\as.length=es.size/\aFO es s.heap.objs.size h' as/\acc'.toList=as.map Value.ref)
  hh (let ⟨o,ho,x⟩:=hv;⟨o,Heap.get?_push_of_some _ ho,x⟩) (hm.keep fun o e=>Heap.get?_push_of_some _ e) hn s.heap.objs.size (Nat.ne_of_gt hr) (Nat.ne_of_lt hd) (.ref s.heap.objs.size) 0 gS
  (fun h' tk acc' c' as k' gS' el hG ea=>⟨h',tk,acc',c',as,rfl,rfl,fun b o e=>k' b o (Nat.ne_of_lt (Heap.lt_size e)) (Heap.get?_push_of_some _ e),gS',el,⟨hG.rise,fun a ha=>Nat.lt_trans (show s.heap.objs.size < (s.heap.push _).objs.size by rw[Heap.size_push];exact Nat.lt_succ_self _) (hG.above a ha),hG.at_⟩,ea⟩)
 refine wpAny_mono key (fun fin s' x=>?_) fun e s' x=>?_
 ·cases fin with
  |done f=>
   obtain⟨h',tk,acc',c',as,e,rfl,k',gS',el,hG,ea⟩:=x
   cases e
   refine(show wpAny _ A (load s.heap.objs.size >>= _) _ _ _ from wpAny_bind (wpAny_load gS' (wpAny_pure (show R acc'.toList _ from ?_))))
   rw[ea];exact h h' tk as k' el hG
  |again c₁=>
   refine⟨x.1,codeAny_mono x.2 fun q s₂ y=>?_⟩
   obtain⟨h',tk,acc',c',as,rfl,rfl,k',gS',el,hG,ea⟩:=y
   refine(show wpAny _ A (load s.heap.objs.size >>= _) _ _ _ from wpAny_bind (wpAny_load gS' (wpAny_pure (show R acc'.toList _ from ?_))))
   rw[ea];exact h h' tk as k' el hG
 ·obtain⟨_,_,_,_,_,z,_⟩:=x
  cases z
end
end L2
namespace L2
open PySem PySem.Spec PySem.W PyProof.Rows
theorem aAY{prog:Program}{w:World}:∀{vs:List Value}{ns:List Int},IntsAre vs ns->ItemsAre (intKind prog w) ns vs
 |_,_,.nil=>.nil
 |_,_,.cons n t r=>.cons (intKind_is _ _ _ _) (aAY r)
theorem aGB:∀as bs:List Int,HT.lexLt as bs=iZ as bs
 |[],[]=>rfl
 |[],_::_=>rfl
 |_::_,[]=>rfl
 |a::as,b::bs=>by rw[HT.aAv,bZ,aGB as bs]
theorem aCF{x y:Int}:∀{as bs:List Int},as.length=bs.length->iZ (as ++ [x]) (bs ++ [y])=if as=bs then decide (x < y) else iZ as bs
 |[],[],_=>by
  show iZ [x] [y]=_
  rw[bZ,if_pos rfl]
  by_cases e:x=y
  ·rw[if_pos e,e];simp[iZ]
  ·rw[if_neg e]
 |[],_::_,h=>by simp at h
 |_::_,[],h=>by simp at h
 |a::as,b::bs,h=>by
  rw[List.cons_append,List.cons_append,bZ,bZ]
  by_cases e:a=b
  ·rw[if_pos e,if_pos e,aCF (by simpa using h)]
   by_cases e2:as=bs
   ·rw[if_pos e2,if_pos (by rw[e,e2])]
   ·rw[if_neg e2,if_neg fun z=>e2 (List.cons.inj z).2]
  ·rw[if_neg e,if_neg e,if_neg fun z=>e (List.cons.inj z).1]
def NP(h:Heap)(v:Value)(r:List Int×Int):Prop:=∃x o c u n oc its m,v=.ref x/\h.get? x=some o/\o.cls=.type "tuple"/\o.data=.seq #[.ref c,.int r.2 u] n/\h.get? c=some oc/\oc.cls=.type "tuple"/\oc.data=.seq its m/\IntsAre its.toList r.1
theorem NP.keeps{h h':Heap}{v:Value}{r:List Int×Int}(x:NP h v r)(k:∀(b:Addr) (o:Obj),o.cls=.type "tuple"->h.get? b=some o->h'.get? b=some o):NP h' v r:=
 let ⟨x,o,c,u,n,oc,its,m,e,a1,a2,a3,b1,b2,b3,i⟩:=x;⟨x,o,c,u,n,oc,its,m,e,k _ _ a2 a1,a2,a3,k _ _ b2 b1,b2,b3,i⟩
structure NPs(h:Heap)(L:Nat)(vs:List Value)(rs:List (List Int×Int)):Prop where
 len:vs.length=rs.length
 at_:∀(j:Nat) v r,vs[j]?=some v->rs[j]?=some r->NP h v r/\r.1.length=L
def rX(r:List Int×Int):List Int:=r.1 ++ [r.2]
section
variable{prog:Program}{w:World}{A:Around}{E:Value->Shared->Prop}{s:Shared}
theorem aKl{L:Nat}{vs:List Value}{rs:List (List Int×Int)}(hu:A.units < cLine)(r:NPs s.heap L vs rs):Ans (O:=u5) (fun i=>(rs.map rX).getD i []) vs.length (kas_ask prog w A (tuples' false) vs) s:=fun i j C hi hj h=>by
 have hl:=r.len
 have e1:vs[i]?=some vs[i]:=List.getElem?_eq_getElem hi
 have e2:vs[j]?=some vs[j]:=List.getElem?_eq_getElem hj
 have e3:rs[i]?=some rs[i]:=List.getElem?_eq_getElem (by omega)
 have e4:rs[j]?=some rs[j]:=List.getElem?_eq_getElem (by omega)
 obtain⟨⟨x,o,c,u,n,oc,its,m,ev,a1,a2,a3,b1,b2,b3,i1⟩,l1⟩:=r.at_ i _ _ e1 e3
 obtain⟨⟨y,o',c',u',n',oc',its',m',ev',a1',a2',a3',b1',b2',b3',i2⟩,l2⟩:=r.at_ j _ _ e2 e4
 unfold kas_ask
 rw[show vs.getD i Value.none=.ref x by rw[List.getD_eq_getElem?_getD,e1,ev];rfl,show vs.getD j Value.none=.ref y by rw[List.getD_eq_getElem?_getD,e2,ev'];rfl]
 have hb:u5.blt ((rs.map rX).getD i []) ((rs.map rX).getD j [])=if rs[i].1=rs[j].1 then decide (rs[i].2 < rs[j].2) else iZ rs[i].1 rs[j].1:=by
  rw[List.getD_eq_getElem?_getD,List.getD_eq_getElem?_getD,List.getElem?_map,List.getElem?_map,e3,e4]
  exact aCF (by rw[l1,l2])
 rw[hb] at h
 refine kat_lt a1 a3 a1' a3' ?_
 show KatLex prog w A false _ C ((Value.ref c,Value.ref c')::(Value.int rs[i].2 u,Value.int rs[j].2 u') :: []) 0 s
 refine kat_cons (wpAny_eqBool_tuple (knd:=intKind prog w) hu ⟨oc,its,m,b1,b2,b3,aAY i1⟩ ⟨oc',its',m',b1',b2',b3',aAY i2⟩ ?_)
 by_cases e:rs[i].1=rs[j].1
 ·rw[decide_eq_true e]
  rw[if_pos e] at h
  refine kat_yes (kat_cons (wpAny_eqBool_int ?_))
  by_cases e5:rs[i].2=rs[j].2
  ·rw[show(rs[i].2 == rs[j].2)=true by simp[e5]]
   refine kat_yes (kat_nil ?_)
   rw[e5,decide_eq_false (by omega)] at h
   exact h
  ·rw[show(rs[i].2 == rs[j].2)=false by simp[e5]]
   exact kat_no (kat_one _ _ (PyProof.Rows.lt_int h))
 ·rw[decide_eq_false e]
  rw[if_neg e] at h
  refine kat_no (kat_one _ _ (HT.aFp (ns:=rs[i].1) (ms:=rs[j].1) ⟨oc,b1,b2,m,b3⟩ ⟨oc',b1',b2',m',b3'⟩ i1 i2 hu ?_))
  rw[aGB]
  exact h
theorem aI7{a:Addr}{vs fs:List Value}{T:Value}{ts:List (List Int)}{n:Nat}{P:PySem.Fin->Shared->Prop}(ho:s.heap.get? a=some (seqObj "list" vs.toArray n))(h64:vs.length < 64)
  (hF:∀h6:Heap,(∀b o,b≠a->s.heap.get? b=some o->h6.get? b=some o)->KatTups h6 vs fs/\fs.length=vs.length/\(∀v∈fs,Looks (model prog w) h6 (typeOf v) T)/\Ans (O:=u5) (fun i=>ts.getD i []) vs.length (kas_ask prog w A (tuples' (T != Value.type "tuple")) vs) { s with heap:=h6 }) (hT2:(T == T)=true)
  (h:∀p,Row vs.length p->Up (O:=u5) (fun i=>ts.getD i []) p vs.length->P (.done (.ret .none)) { s with heap:=sortedHeap s.heap a vs (iG vs p) }) :
  wpAny (model prog w) A (Builtin.«list.sort» ⟨[.ref a],[]⟩) P E s:=by
 rw[list_sort_plain]
 have la:=Heap.lt_size ho
 refine wpAny_bind (listItems_at ho rfl (wpAny_bind (listUpdate_at ho rfl ?_)))
 obtain⟨e1,g1⟩ : ∃e,(s.heap.update a (Obj.mapSeq fun _=>#[])).get? a=some (seqObj "list" #[] e):=⟨_,get?_update_seq ho fun _=>#[]⟩
 refine wpAny_bind (seqEpoch_at g1 rfl (wpAny_bind (wpAny_newTuple (wpAny_bind (wpAny_newList (wpAny_holding ?_))))))
 generalize hh6:((s.heap.update a (Obj.mapSeq fun _=>#[])).push (seqObj "tuple" vs.toArray 0)).push (seqObj "list" #[] 0)=h6
 have keep6:∀b o,b≠a->s.heap.get? b=some o->h6.get? b=some o:=fun b o nb e=>by
  have lb:=Heap.lt_size e
  rw[<-hh6,Heap.get?_push_ne _ _ _ (Nat.ne_of_lt (by rw[size_push',Heap.size_update];exact Nat.lt_succ_of_lt lb)),Heap.get?_push_ne _ _ _ (Nat.ne_of_lt (by rw[Heap.size_update];exact lb)),Heap.get?_update_ne _ _ _ _ nb]
  exact e
 have g6:h6.get? a=some (seqObj "list" #[] e1):=by
  rw[<-hh6,Heap.get?_push_ne _ _ _ (Nat.ne_of_lt (by rw[size_push',Heap.size_update];exact Nat.lt_succ_of_lt la)),Heap.get?_push_ne _ _ _ (Nat.ne_of_lt (by rw[Heap.size_update];exact la))]
  exact g1
 have fin:∀p,Row vs.length p->Up (O:=u5) (fun i=>ts.getD i []) p vs.length->P (.done (.ret .none)) { s with heap:=h6.update a (Obj.mapSeq fun _=>iG vs p) }:=fun p r u=>by
  rw[<-hh6]
  exact h p r u
 obtain⟨f1,f2,f3,T6⟩:=hF h6 keep6
 show wpAny (model prog w) A _ P E { s with heap:=h6 }
 have hvz:vs.toArray.size=vs.length:=List.size_toArray
 dsimp only
 by_cases small:vs.toArray.size < 2
 ·rw[if_pos small,if_pos small]
  refine wpAny_bind (wpAny_pure ?_)
  rw[StateT.run_pure]
  refine wpAny_bind (wpAny_pure ?_)
  have ev:((vs.toArray.zip vs.toArray).map fun x=>x.2)=iG vs (List.toArray (List.range vs.length)):=by
   unfold iG
   match vs,hvz,small with
   |[],_,_=>simp
   |[v],_,_=>simp
   |_::_::_,_,z=>simp at z;omega
  refine wpAny_bind (seqEpoch_at g6 rfl (wpAny_bind (listUpdate_at g6 rfl ?_ (hsz2:=?_))))
  ·simp only[bne_self_eq_false,Bool.false_eq_true,if_false]
   refine wpAny_pure ?_
   show P (.done (.ret .none)) { s with heap:=h6.update a (Obj.mapSeq fun _=>(vs.toArray.zip vs.toArray).map fun x=>x.2) }
   rw[ev]
   exact fin _ (Array.Perm.refl _) fun i j x y=>by
    have z:i=j:=by omega
    subst z
    exact KeyOrd.kle_refl _
  ·show((vs.toArray.zip vs.toArray).map fun x=>x.2).size<=_
   rw[ev,iG,List.size_toArray,List.length_map,sizeLine_eq]
   simp
   omega
 ·rw[if_neg small,if_neg small]
  refine wpAny_bind (kat_kind (s:={ s with heap:=h6 }) (T:=T) f1 (by omega) f3 hT2 ?_)
  refine wpAny_bind (wpAny_mono (kat_run (ks:=vs) (vs:=vs) (prog:=prog) (w:=w) (A:=A) (E:=E) (s:={ s with heap:=h6 }) (Q:=fun st' s'=>s'={ s with heap:=h6 }/\∃p,p.size=vs.length/\arrOf st'=p.map (kas_item (vs.toArray.zip vs.toArray))/\failedOf st'=none/\Row vs.length p/\Up (O:=u5) (fun i=>ts.getD i []) p vs.length)
   (G:=fun p s'=>s'={ s with heap:=h6 }/\Row vs.length p/\Up (O:=u5) (fun i=>ts.getD i []) p vs.length) rfl (by omega) h64 (fun p st' s' hz har hf hG=>⟨hG.1,p,hz,har,hf,hG.2.1,hG.2.2⟩) (aGt T6 (by omega) fun p r u=>⟨rfl,r,u⟩)) ?_ fun _ _ e=>e)
  rintro ⟨_,st'⟩ s' ⟨rfl,p,hz,har,hf,hr,hu⟩
  dsimp only at har hf ⊢
  have eo:=kat_snds (ks:=vs) (vs:=vs) rfl har
  refine wpAny_bind (seqEpoch_at g6 rfl (wpAny_bind (listUpdate_at g6 rfl ?_ (hsz2:=?_))))
  ·rw[hf]
   simp only[bne_self_eq_false,Bool.false_eq_true,if_false]
   refine wpAny_pure ?_
   show P (.done (.ret .none)) { s with heap:=h6.update a (Obj.mapSeq fun _=>(arrOf st').map (·.2)) }
   rw[eo]
   exact fin p hr hu
  ·show((arrOf st').map (·.2)).size<=_
   rw[eo,List.size_toArray,List.length_map,Array.length_toList,hz,sizeLine_eq]
   omega
theorem aI8{a:Addr}{L:Nat}{vs:List Value}{rs:List (List Int×Int)}{n:Nat}{P:PySem.Fin->Shared->Prop}(hu:A.units < cLine)(ho:s.heap.get? a=some (seqObj "list" vs.toArray n))(hN:NPs s.heap L vs rs)(h64:vs.length < 64)
  (h:∀p,Row vs.length p->Up (O:=u5) (fun i=>(rs.map rX).getD i []) p vs.length->P (.done (.ret .none)) { s with heap:=sortedHeap s.heap a vs (iG vs p) }) :
  wpAny (model prog w) A (Builtin.«list.sort» ⟨[.ref a],[]⟩) P E s:=by
 have fst:∀{vs:List Value} {rs:List (List Int×Int)} {h:Heap},NPs h L vs rs->∃fs:List Value,fs.length=vs.length/\∀h',(∀(b:Addr) (o:Obj),o.cls=.type "tuple"->h.get? b=some o->h'.get? b=some o)->KatTups h' vs fs/\∀v∈fs,Looks (model prog w) h' (typeOf v) (.type "tuple"):=by
  intro vs
  induction vs with
  |nil=>intro rs h hN;exact⟨[],rfl,fun h' _=>⟨.nil,fun v z=>by cases z⟩⟩
  |cons v vs ih=>
   intro rs h hN
   cases rs with
   |nil=>have:=hN.len;simp at this
   |cons r rs=>
    obtain⟨fs,f1,f2⟩:=ih (rs:=rs) (h:=h) ⟨by have:=hN.len;simpa using this,fun j v r x y=>hN.at_ (j+1) v r x y⟩
    obtain⟨⟨x,o,c,u,n,oc,its,m,rfl,a1,a2,a3,b1,b2,b3,i1⟩,_⟩:=hN.at_ 0 v r rfl rfl
    refine⟨.ref c::fs,by rw[List.length_cons,List.length_cons,f1],fun h' k=>?_⟩
    obtain⟨g1,g2⟩:=f2 h' k
    refine⟨.cons (k _ _ a2 a1) a2 a3 rfl g1,fun v z=>?_⟩
    rcases List.mem_cons.mp z with z|z
    ·rw[z,<-b2]
     exact(Looks.ld (k _ _ b2 b1)).andThen .now
    ·exact g2 v z
 obtain⟨fs,f1,f2⟩:=fst hN
 have kp:∀h6:Heap,(∀b o,b≠a->s.heap.get? b=some o->h6.get? b=some o)->∀(b:Addr) (o:Obj),o.cls=.type "tuple"->s.heap.get? b=some o->h6.get? b=some o:=fun h6 k b o c e=>k b o (fun z=>by rw[z,ho] at e;cases e;exact absurd c (show ¬Value.type "list" = Value.type "tuple" by decide)) e
 refine aI7 (fs:=fs) (T:=.type "tuple") (ts:=rs.map rX) ho h64 (fun h6 k=>?_) rfl h
 obtain⟨g1,g2⟩:=f2 h6 (kp h6 k)
 exact⟨g1,f1,g2,aKl (s:={ s with heap:=h6 }) hu ⟨hN.len,fun j v r x y=>⟨(hN.at_ j v r x y).1.keeps (kp h6 k),(hN.at_ j v r x y).2⟩⟩⟩
end
end L2
namespace L2
open PySem PySem.Spec PySem.W PyProof.Rows
def aBI(H:Hp):List Addr->List (List V)->Hp
 |a::as,p::ps=>upd (aBI H as ps) a (.tup p)
 |_,_=>H
theorem aEB{H:Hp}:∀{as:List Addr}{ps:List (List V)}{b:Addr},b∉as->aBI H as ps b=H b
 |[],_,_,_=>rfl
 |_::_,[],_,_=>rfl
 |a::as,p::ps,b,h=>by
  show upd (aBI H as ps) a _ b=_
  rw[aJ (fun z=>h (by simp[z]))]
  exact aEB (fun z=>h (by simp[z]))
theorem aGC{H:Hp}:∀{as:List Addr}{ps:List (List V)}{j:Nat}{a:Addr}{p:List V},as.Nodup->as[j]?=some a->ps[j]?=some p->aBI H as ps a=some (.tup p)
 |[],_,j,_,_,_,h,_=>by simp at h
 |_::_,[],j,_,_,_,_,h=>by simp at h
 |a::as,p::ps,0,_,_,_,h1,h2=>by cases h1;cases h2;exact aH
 |a::as,p::ps,j+1,b,q,hn,h1,h2=>by
  have h1':as[j]?=some b:=h1
  have hb:b∈as:=List.mem_of_getElem? h1'
  show upd (aBI H as ps) a _ b=_
  rw[aJ (fun z=>(List.nodup_cons.mp hn).1 (by rw[<-z];exact hb))]
  exact aGC (List.nodup_cons.mp hn).2 h1' h2
theorem aGD{H:Hp}:∀{as:List Addr}{ps:List (List V)}{b:Addr}{u:HO},as.Nodup->aBI H as ps b=some u->H b=some u\/∃(j:Nat) (p:List V),as[j]?=some b/\ps[j]?=some p/\u=.tup p
 |[],_,_,_,_,h=>.inl h
 |_::_,[],_,_,_,h=>.inl h
 |a::as,p::ps,b,u,hn,h=>by
  by_cases e:b=a
  ·subst e
   have h':upd (aBI H as ps) b (.tup p) b=some u:=h
   rw[aH] at h'
   cases h'
   exact .inr ⟨0,p,rfl,rfl,rfl⟩
  ·have h':upd (aBI H as ps) a (.tup p) b=some u:=h
   rw[aJ e] at h'
   rcases aGD (List.nodup_cons.mp hn).2 h' with z|⟨j,q,z⟩
   ·exact .inl z
   ·exact .inr ⟨j+1,q,z⟩
def aMc(H:Hp)(q:Addr)(r:List Int×Int):Prop:=∃b,H q=some (.tup [.ref b,.int r.2])/\H b=some (.tup (r.1.map V.int))
def dN(rs:List (List Int×Int)):HO:=.dT (rs.map fun r=>(r.1.map Sum.inl,V.int r.2))
section
variable{X:Cx}
def aFP:List V->Hp->VK->Prop:=fun xs H Q=>∃(b d:Addr) (L:Nat) (rs:List (List Int×Int)),xs=[.ref b]/\H b=some (.ext (aHo b d))/\H d=some (dN rs)/\rs.length < 64/\(∀r∈rs,r.1.length=L)/\
 ∀(p:Addr) (qs:List Addr) (zs:List (List Int×Int)) (H':Hp),aI H H'->H p=none->(∀q∈qs,H q=none)->H' p=some (.lst (qs.map V.ref))->qs.length=zs.length->(∀(j:Nat) q r,qs[j]?=some q->zs[j]?=some r->aMc H' q r)->zs.Perm rs->zs.Pairwise (fun a b=>iZ (rX b) (rX a)=false)->Q (.ref p) H'
theorem aDl(hc:X.calm=true)(hu:X.A.units+9 < cLine):dZ X (.builtin "sorted") aFP:=by
 intro pins s σ H xs us Q I r h
 obtain⟨b,d,L,rs,rfl,hb,hd,h64,hL,q⟩:=h
 obtain⟨u,rfl,ru⟩:=vals1 r
 cases ru
 obtain⟨lo,ob,es,ep,ys,g1,g2,g3,rel,g4,g5⟩:=rP (show bI X.prog X.w H s.heap d (dN rs) from I.hok d _ hd)
 have raw:Raw s.heap d es ep:=⟨ob,g1,g2.1,g3⟩
 have hv:s.heap.IsItemsView b d:=(show bI X.prog X.w H s.heap b (.ext (aHo b d)) from I.hok b _ hb).1
 have hyl:ys.length=rs.length:=by have:=(Paired.length rel).symm;simpa using this
 rw[List.length_map] at g5
 refine Calls.call_function_entry kind_sorted plain_sorted entry_sorted (args_sorted1 (.ref b)) ?_
 unfold Builtin.«sorted»
 refine wpAny_bind (m:=checkCount "sorted" 1 1 _) (wpAny_pure (wpAny_bind (aDk (A:=X.A.in1) (I.ok.hd hc) hv raw (by rw[g5,sizeLine_eq];omega) fun h' tk as hk hal hG=>?_)))
 have hal':as.length=rs.length:=by rw[hal,g5]
 have hrv:(as.map Value.ref).length=rs.length:=by rw[List.length_map,hal']
 have hnd:as.Nodup:=hG.rise.imp (fun {a b} h=>Nat.ne_of_lt h)
 have hab:∀a∈as,s.heap.objs.size<=a:=fun a ha=>Nat.le_of_lt (hG.above a ha)
 have hpr:∀(j:Nat) (a:Addr),as[j]?=some a->∃c t r,rs[j]?=some r/\H c=some (.tup (r.1.map V.int))/\h'.get? a=some { cls:=.type "tuple",data:=.seq #[Value.ref c,Value.int r.2 t] }:=fun j a ha=>by
  obtain⟨e,e1,e2⟩:=hG.at_ j a ha
  have hj:j < rs.length:=by rw[<-hal'];exact(List.getElem?_eq_some_iff.mp ha).1
  obtain⟨y,hy,hb',hv'⟩:=yA rel (i:=j) (p:=((rs[j].1.map Sum.inl,V.int rs[j].2):List Key×V)) (by rw[List.getElem?_map,List.getElem?_eq_getElem hj];rfl)
  rw[<-Array.getElem?_toList,g4,List.getElem?_map,hy] at e1
  cases e1
  obtain⟨t,et⟩:=hv'
  refine⟨y.2.1,t,rs[j],List.getElem?_eq_getElem hj,?_,?_⟩
  ·rw[hb',List.map_map];rfl
  ·rw[e2]
   show some ({ cls:=.type "tuple",data:=.seq #[Value.ref y.2.1,y.2.2] }:Obj)=_
   rw[et]
 have hNP:∀h2:Heap,(∀b o,h'.get? b=some o->h2.get? b=some o)->NPs h2 L (as.map Value.ref) rs:=fun h2 k2=>by
  refine⟨hrv,fun j v r x y=>?_⟩
  rw[List.getElem?_map] at x
  obtain⟨a,ea,rfl⟩:=Option.map_eq_some_iff.mp x
  obtain⟨c,t,r',er,hc',ho⟩:=hpr j a ea
  rw[y] at er
  cases er
  obtain⟨_,its,rr,o,f1,f2,n,f3⟩:=(show bI X.prog X.w H s.heap c (.tup (r.1.map V.int)) from I.hok c _ hc')
  exact⟨⟨a,_,c,t,_,o,_,n,rfl,k2 _ _ ho,rfl,rfl,k2 _ _ (hk _ _ f1),f2,f3,by simpa using pQ rr⟩,hL r (List.mem_of_getElem? y)⟩
 refine wpAny_bind (wpAny_newList ?_ (by rw[hrv,sizeLine_eq];omega))
 have gD:(h'.push (seqObj "list" (as.map Value.ref).toArray 0)).get? h'.objs.size=some (seqObj "list" (as.map Value.ref).toArray 0):=Heap.get?_push_size _ rfl
 refine wpAny_bind (wpAny_holding (wpAny_call_entry (s:={ s with heap:=h'.push (seqObj "list" (as.map Value.ref).toArray 0),toks:=tk }) slot_list_sort ⟨_,gD,rfl⟩ entry_list_sort (aI8 (by show X.A.units+1+1 < cLine;omega) gD (hNP _ fun b o e=>Heap.get?_push_of_some _ e) (by rw[hrv];exact h64) fun p hr hu'=>⟨_,rfl,?_⟩) (args_list_sort (.ref h'.objs.size))))
 rw[hrv] at hr hu'
 have pl:p.toList.Perm (List.range rs.length):=by simpa using Array.perm_iff_toList_perm.mp hr
 have plen:p.toList.length=rs.length:=by have:=pl.length_eq;simpa using this
 have eo:(iG (as.map Value.ref) p).toList=(p.toList.map fun i=>as.getD i 0).map Value.ref:=by
  unfold iG
  show p.toList.map (fun i=>(as.map Value.ref).getD i Value.none)=_
  rw[List.map_map]
  refine List.map_congr_left fun i hi=>?_
  have li:i < as.length:=by rw[hal'];exact List.mem_range.mp (pl.mem_iff.mp hi)
  show(as.map Value.ref).getD i Value.none=Value.ref (as.getD i 0)
  simp[List.getD_eq_getElem?_getD,List.getElem?_eq_getElem li]
 refine wpAny_pure ⟨_,rfl,?_⟩
 obtain⟨c,hc2⟩:=sortedHeap_at (out:=iG (as.map Value.ref) p) gD
 generalize hhF:sortedHeap (h'.push (seqObj "list" (as.map Value.ref).toArray 0)) h'.objs.size (as.map Value.ref) (iG (as.map Value.ref) p)=hF at hc2
 have kF:∀b o,h'.get? b=some o->hF.get? b=some o:=fun b o e=>by
  have hlt:=Heap.lt_size e
  rw[<-hhF,sortedHeap_old (Nat.ne_of_lt hlt) (by rw[size_push'];exact Nat.lt_succ_of_lt hlt)]
  exact Heap.get?_push_of_some _ e
 have hlt':∀a∈as,a < h'.objs.size:=fun a ha=>hG.there ha
 have hnP:s.heap.get? h'.objs.size=none:=by
  cases e:s.heap.get? h'.objs.size with
  |none=>rfl
  |some o2=>exact absurd (Heap.lt_size (hk _ o2 e)) (Nat.lt_irrefl _)
 have hnA:∀a∈as,s.heap.get? a=none:=fun a ha=>by
  cases e:s.heap.get? a with
  |none=>rfl
  |some o2=>exact absurd (Nat.lt_of_lt_of_le (Heap.lt_size e) (hab a ha)) (Nat.lt_irrefl _)
 have hfr:∀a,s.heap.get? a=none->H a=none:=fun a z=>by
  cases e:H a with
  |none=>rfl
  |some u=>
   obtain⟨ob,y⟩:=(I.hok a u e).obj
   rw[z] at y;cases y
 have hna:h'.objs.size∉as:=fun z=>absurd (hlt' _ z) (Nat.lt_irrefl _)
 obtain⟨tl,tl1,tl2⟩ : ∃tl:List (List V),tl.length=as.length/\∀(j:Nat) a t,as[j]?=some a->tl[j]?=some t->∃c r,rs[j]?=some r/\H c=some (.tup (r.1.map V.int))/\t=[.ref c,.int r.2]/\∃u,h'.get? a=some { cls:=.type "tuple",data:=.seq #[Value.ref c,Value.int r.2 u] }:=by
  have key:∀(l:List Addr),(∀(j:Nat) a,l[j]?=some a->∃t:List V,∃c r,(∃i:Nat,as[i]?=some a/\rs[i]?=some r)/\H c=some (.tup (r.1.map V.int))/\t=[.ref c,.int r.2]/\∃u,h'.get? a=some { cls:=.type "tuple",data:=.seq #[Value.ref c,Value.int r.2 u] })->∃tl:List (List V),tl.length=l.length/\∀(j:Nat) a t,l[j]?=some a->tl[j]?=some t->∃c r,(∃i:Nat,as[i]?=some a/\rs[i]?=some r)/\H c=some (.tup (r.1.map V.int))/\t=[.ref c,.int r.2]/\∃u,h'.get? a=some { cls:=.type "tuple",data:=.seq #[Value.ref c,Value.int r.2 u] }:=by
   intro l
   induction l with
   |nil=>intro _;exact⟨[],rfl,fun j a t h=>by simp at h⟩
   |cons a l ih=>
    intro hl
    obtain⟨t,ht⟩:=hl 0 a rfl
    obtain⟨tl,e1,e2⟩:=ih fun j b hb=>hl (j+1) b hb
    refine⟨t::tl,by rw[List.length_cons,List.length_cons,e1],fun j b t' x y=>?_⟩
    cases j with
    |zero=>cases x;cases y;exact ht
    |succ j=>exact e2 j b t' x y
  obtain⟨tl,e1,e2⟩:=key as fun j a ha=>by
   obtain⟨c,t,r,er,hc',ho⟩:=hpr j a ha
   exact⟨_,c,r,⟨j,ha,er⟩,hc',rfl,t,ho⟩
  refine⟨tl,e1,fun j a t x y=>?_⟩
  obtain⟨c,r,⟨i,i1,i2⟩,r1,r2,r3⟩:=e2 j a t x y
  have ij:i=j:=(List.getElem?_inj (List.getElem?_eq_some_iff.mp i1).1 hnd).mp (i1.trans x.symm)
  subst ij
  exact⟨c,r,i2,r1,r2,r3⟩
 let H1:=aBI H as tl
 let H2:=upd H1 h'.objs.size (.lst ((p.toList.map fun i=>as.getD i 0).map V.ref))
 have s1:aI H H1:=fun a u e=>by
  show aBI H as tl a=_
  rw[aEB fun z=>by rw[hfr a (hnA a z)] at e;cases e];exact e
 have s2:aI H H2:=fun a u e=>by
  show upd H1 _ _ a=_
  rw[aJ (fun z=>by rw[z,hfr _ hnP] at e;cases e)];exact s1 a u e
 have I2:Inv X pins σ H2 { s with heap:=hF,toks:=tk }:=I.more (fun b u e=>kF b u (hk b u e)) s2 fun a u e=>by
  by_cases ea:a=h'.objs.size
  ·subst ea
   have e':upd H1 h'.objs.size _ h'.objs.size=some u:=e
   rw[aH] at e'
   cases e'
   exact .inr ⟨hnP,by rw[List.length_map,List.length_map,plen,sizeLine_eq];omega,(p.toList.map fun i=>as.getD i 0).map Value.ref,c,u6 _,by rw[<-eo,Array.toArray_toList];exact hc2⟩
  ·have e':upd H1 h'.objs.size _ a=some u:=e
   rw[aJ ea] at e'
   rcases aGD hnd e' with z|⟨j,pp,z1,z2,rfl⟩
   ·exact .inl z
   ·obtain⟨c',r',f1,f2,rfl,t,f3⟩:=tl2 j a pp z1 z2
    exact .inr ⟨hnA a (List.mem_of_getElem? z1),bX (by simp),[.ref c',.int r'.2 t],.cons rfl (.cons ⟨t,rfl⟩ .nil),_,kF _ _ f3,rfl,_,rfl⟩
 refine⟨.ref h'.objs.size,H2,I2,rfl,q _ _ (p.toList.map fun i=>rs.getD i ([],0)) H2 s2 (hfr _ hnP) (fun a ha=>?_) aH (by rw[List.length_map,List.length_map]) (fun j a r x y=>?_) ?_ ?_⟩
 ·obtain⟨i,hi,e⟩:=List.mem_map.mp ha
  have li:i < as.length:=by rw[hal'];exact List.mem_range.mp (pl.mem_iff.mp hi)
  rw[<-e]
  simp only[List.getD_eq_getElem?_getD,List.getElem?_eq_getElem li,Option.getD_some]
  exact hfr _ (hnA _ (List.getElem_mem li))
 ·rw[List.getElem?_map] at x y
  obtain⟨i,e1,e2⟩:=Option.map_eq_some_iff.mp x
  rw[e1] at y
  have li:i < rs.length:=List.mem_range.mp (pl.mem_iff.mp (List.mem_of_getElem? e1))
  have ea:as[i]?=some a:=by rw[<-e2];simp[List.getD_eq_getElem?_getD,List.getElem?_eq_getElem (show i < as.length by omega)]
  have er:rs[i]?=some r:=by
   cases y
   simp[List.getD_eq_getElem?_getD,List.getElem?_eq_getElem li]
  have et:tl[i]?=some tl[i]:=List.getElem?_eq_getElem (by omega)
  obtain⟨c',r',f1,f2,f4,t,f3⟩:=tl2 i a _ ea et
  rw[er] at f1
  cases f1
  refine⟨c',?_,s2 _ _ f2⟩
  show upd H1 _ _ a=_
  rw[aJ (fun z=>hna (by rw[<-z];exact List.mem_of_getElem? ea)),<-f4]
  exact aGC hnd ea et
 ·have:=pl.map (fun i=>rs.getD i ([],0))
  rw[range_getD] at this
  exact this
 ·rw[List.pairwise_iff_getElem]
  intro i j hi hj hij
  rw[List.length_map,plen] at hi hj
  have key:∀k (hk:k < p.toList.length),rX ((p.toList.map fun i=>rs.getD i ([],0))[k]'(by rw[List.length_map];exact hk))=kq (O:=u5) (fun i=>(rs.map rX).getD i []) p k:=fun k hk=>by
   rw[List.getElem_map]
   unfold kq
   have e1:p.getD k 0=p.toList[k]:=by
    have hk':k < p.size:=by simpa using hk
    simp[Array.getD,hk']
   have li:p.toList[k] < rs.length:=List.mem_range.mp (pl.mem_iff.mp (List.getElem_mem hk))
   rw[e1]
   show rX (rs.getD p.toList[k] ([],0))=(rs.map rX).getD p.toList[k] []
   rw[List.getD_eq_getElem?_getD,List.getD_eq_getElem?_getD,List.getElem?_map,List.getElem?_eq_getElem li]
   rfl
  rw[key i (by omega),key j (by omega)]
  exact hu' i j (by omega) hj
theorem aI9{H:Hp}{Q:VK}{b d:Addr}{L:Nat}{rs:List (List Int×Int)}(h1:H b=some (.ext (aHo b d)))(h2:H d=some (dN rs))(h3:rs.length < 64)(h4:∀r∈rs,r.1.length=L)
  (h:∀(p:Addr) (qs:List Addr) (zs:List (List Int×Int)) (H':Hp),aI H H'->H p=none->(∀q∈qs,H q=none)->H' p=some (.lst (qs.map V.ref))->qs.length=zs.length->(∀(j:Nat) q r,qs[j]?=some q->zs[j]?=some r->aMc H' q r)->zs.Perm rs->zs.Pairwise (fun a b=>iZ (rX b) (rX a)=false)->Q (.ref p) H'):aFP [.ref b] H Q:=⟨b,d,L,rs,rfl,h1,h2,h3,h4,h⟩
end
end L2
namespace L2
open PySem PySem.Spec PySem.W PyProof.Rows
def fA(kvs:List (List Key×V)):List (List Key×V):=kvs.foldl (fun acc kv=>putK acc kv.1 kv.2) []
theorem aEC(kvs:List (List Key×V))(kv:List Key×V):fA (kvs ++ [kv])=putK (fA kvs) kv.1 kv.2:=by unfold fA;rw[List.foldl_append];rfl
theorem aAZ:∀kvs:List (List Key×V),(fA kvs).length<=kvs.length:=fun kvs=>by
 have key:∀(l acc:List (List Key×V)),(l.foldl (fun acc kv=>putK acc kv.1 kv.2) acc).length<=acc.length+l.length:=fun l=>by
  induction l with
  |nil=>intro acc;exact Nat.le_refl _
  |cons kv l ih=>
   intro acc
   have:=ih (putK acc kv.1 kv.2)
   have:=kD acc kv.1 kv.2
   simp only[List.foldl_cons,List.length_cons]
   omega
 have:=key kvs []
 simpa [fA] using this
structure aGE(H:Hp)(qs:List Addr)(kvs:List (List Key×V)):Prop where
 len:qs.length=kvs.length
 at_:∀(j:Nat) q kv,qs[j]?=some q->kvs[j]?=some kv->∃b,H q=some (.tup [.ref b,kv.2])/\H b=some (.tup (kv.1.map kV))
section
variable{X:Cx}
theorem tV{P:Program}{w:World}{h h':Heap}{D:Addr}{xs:List (List Key×Addr×Value)}(m:h.DictOfH (tupleKind (bN P w)) D xs)(k1:∀o,h.get? D=some o->h'.get? D=some o)(k2:∀(b:Addr) (o:Obj),o.cls=.type "tuple"->h.get? b=some o->h'.get? b=some o):h'.DictOfH (tupleKind (bN P w)) D xs:=by
 obtain⟨o,es,ep,h1,h2,h3,h4,h5,h6⟩:=m
 refine⟨o,es,ep,k1 o h1,h2,h3,h4,fun x hx=>?_,h6⟩
 obtain⟨o',its,n,a,b,c⟩:=h5 x hx
 exact⟨o',its,n,k2 _ _ b a,b,c⟩
theorem aHu{pins:List (Addr×Obj)}{σ:St}{H:Hp}{s:Shared}{A:Around}{R:Result->Shared->Prop}{D I l:Addr}{qs:List Addr}{kvs:List (List Key×V)}(J:Inv X pins σ H s)(hh:A.handled=none)(hu:A.in1.units < cLine)(nD:s.heap.get? D=none)(nI:s.heap.get? I=none)(nDI:D≠I)(nDl:D≠l)(nlI:l≠I)(hK:aGE H qs kvs)(hsz:kvs.length<=sizeLine)
  (hR:∀h' tk xs,KT H (fA kvs) xs->h'.DictOfH (tupleKind (bN X.prog X.w)) D xs->(∀b o,b≠D->b≠I->s.heap.get? b=some o->h'.get? b=some o)->R (.ok (.ret .none)) { s with heap:=h',toks:=tk }) :
  ∀(k i:Nat) (h:Heap) (tk:Nat) (xs:List (List Key×Addr×Value)),qs.length - i=k->i<=qs.length->h.IsListIter I l i->h.IsList l (qs.map Value.ref).toArray->KT H (fA (kvs.take i)) xs->h.DictOfH (tupleKind (bN X.prog X.w)) D xs->(∀b o,b≠D->b≠I->s.heap.get? b=some o->h.get? b=some o)->
   codeAny (model X.prog X.w) A (.builtin "dict.update.loop" ⟨[.ref D,.ref I,rawInt i,.none],[]⟩) R { s with heap:=h,toks:=tk }:=by
 have hl0:=hK.len
 have tupI:∀{h:Heap} {i:Nat},h.IsListIter I l i->∀(b:Addr) (o:Obj),o.cls=.type "tuple"->h.get? b=some o->b≠I:=fun⟨o',g,c,_⟩ b o hc e z=>by
  rw[z,g] at e
  cases e
  rw[c] at hc
  exact absurd hc (by decide)
 have tupD:∀{h:Heap} {xs:List (List Key×Addr×Value)},h.DictOfH (tupleKind (bN X.prog X.w)) D xs->∀(b:Addr) (o:Obj),o.cls=.type "tuple"->h.get? b=some o->b≠D:=fun⟨o',es,ep,g,c,_⟩ b o hc e z=>by
  rw[z,g] at e
  cases e
  rw[c.1] at hc
  exact absurd hc (by decide)
 intro k
 induction k with
 |zero=>
  intro i h tk xs hk hi it hl rel hd fr
  have e:i=qs.length:=by omega
  subst e
  refine codeAny_builtin rW ?_
  rw[Around.under_plainId iH _]
  refine(show wpAny _ A.in1 (pyNext (.ref I) >>= _) _ _ _ from wpAny_bind (wpAny_pyNext_list_end (s:={ s with heap:=h,toks:=tk }) (A:=A.in1) hh it hl (by simp) fun h' he=>?_))
  refine wpAny_bind (wpAny_pure (wpAny_pure ?_))
  rw[List.take_of_length_le (by omega)] at rel
  exact hR h' tk xs rel (tV hd (fun o e=>he D o nDI e) fun b o c e=>he b o (tupI it b o c e) e) fun b o a1 a2 q=>he b o a2 (fr b o a1 a2 q)
 |succ k ih=>
  intro i h tk xs hk hi it hl rel hd fr
  have il:i < qs.length:=by omega
  have eq1:qs[i]?=some qs[i]:=List.getElem?_eq_getElem il
  have ekv:kvs[i]?=some kvs[i]:=List.getElem?_eq_getElem (by omega)
  obtain⟨b,gq,gb⟩:=hK.at_ i _ _ eq1 ekv
  generalize qs[i]=T at eq1 gq
  generalize kvs[i]=kv at ekv gq gb
  obtain⟨_,its,rr,oT,hoT,hcT,nT,hdT⟩:=(show bI X.prog X.w H s.heap T (.tup [.ref b,kv.2]) from J.hok T _ gq)
  obtain⟨u1,v,rfl,ru1,rv⟩:=vals2 rr
  cases ru1
  refine codeAny_builtin rW ?_
  rw[Around.under_plainId iH _]
  refine(show wpAny _ A.in1 (pyNext (.ref I) >>= _) _ _ _ from wpAny_bind (wpAny_pyNext_list_item (s:={ s with heap:=h,toks:=tk }) it hl (x:=.ref T) (by simp[eq1]) fun h' it' sb=>?_))
  have up:∀(b:Addr) (o:Obj),s.heap.get? b=some o->h'.get? b=some o:=fun b o e=>sb.extBut b o (fun z=>by rw[z,nI] at e;cases e) (fr b o (fun z=>by rw[z,nD] at e;cases e) (fun z=>by rw[z,nI] at e;cases e) e)
  have hd':=tV hd (fun o e=>sb.extBut D o nDI e) fun b o c e=>sb.extBut b o (tupI it b o c e) e
  have key:(tupleKind (bN X.prog X.w)).is h' kv.1 b:=by
   obtain⟨o',its',n',a1,a2,a3⟩:=rK J.hok gb
   exact⟨o',its',n',up _ _ a1,a2,a3⟩
  have xl:xs.length<=sizeLine:=by
   have h1:=Paired.length rel
   have h2:=aAZ (kvs.take i)
   rw[List.length_take] at h2
   omega
  refine wpAny_bind (wpAny_holding (wpAny_bind (wpAny_tryCatch ?_)))
  unfold Builtin.Dict.pairItems
  refine wpAny_bind (wpAny_typeOf (T:="tuple") ⟨oT,up _ _ hoT,hcT⟩ ?_)
  rw[if_pos (by decide)]
  refine wpAny_bind (aEy (up _ _ hoT) hdT (wpAny_pure ?_))
  refine(show wpAny _ A.in1 (holding [Value.ref b,v] (dictSet D (.ref b) v)) _ _ _ from wpAny_holding (wpAny_dictSet_heap (s:={ s with heap:=h',toks:=tk }) (knd:=tupleKind (bN X.prog X.w)) hu key hd' (fun h2 hd2 sb2=>?_) xl))
  refine wpAny_pure ⟨plainId_quiet iH _,?_⟩
  rw[show rawInt ((i:Int)+1)=rawInt ((i+1:Nat):Int) by rw[Int.natCast_succ]]
  replace sb2:Heap.SameBut D h' h2:=sb2
  have tk1:kvs.take (i+1)=kvs.take i ++ [kv]:=by rw[List.take_add_one,ekv];rfl
  exact ih (i+1) h2 _ _ (by omega) il (it'.extBut sb2.extBut (Ne.symm nDI)) ((hl.extBut sb.extBut nlI).extBut sb2.extBut (Ne.symm nDl)) (by rw[tk1,aEC];exact rel.put kv.1 gb rv) hd2 fun b o a1 a2 q=>sb2.extBut b o a1 (sb.extBut b o a2 (fr b o a1 a2 q))
def aDm:List V->Hp->VK->Prop:=fun xs H Q=>∃(l:Addr) (qs:List Addr) (kvs:List (List Key×V)),xs=[.ref l]/\H l=some (.lst (qs.map V.ref))/\aGE H qs kvs/\qs.length<=1000/\∀p,H p=none->Q (.ref p) (upd H p (.dT (fA kvs)))
theorem aA0(hc:X.calm=true)(hu:X.A.units+9 < cLine):dZ X (.type "dict") aDm:=by
 intro pins s σ H xs us Q I r h
 obtain⟨l,qs,kvs,rfl,hl,hp,hz,q⟩:=h
 obtain⟨u,rfl,ru⟩:=vals1 r
 cases ru
 obtain⟨z,its,n,rv,hlen,e⟩:=I.aIc hl
 obtain rfl:=aGu rv
 have hkl:=hp.len
 have big:sizeLine ≥ 1000:=by rw[sizeLine_eq];decide
 refine callType_codes (Q₁:=fun obj s₁=>obj=.ref s.heap.objs.size/\s₁={ s with heap:=s.heap.push { cls:=.type "dict",data:=.dict #[] } }) F.kt_called_dict (F.kt_typeCall_dict_1 _) F.entry_dict_init (kt_code_dict_new _ ⟨rfl,rfl⟩) ?_
 rintro obj s₁ ⟨rfl,rfl⟩
 have hnew:(s.heap.push { cls:=.type "dict",data:=.dict #[] }).DictOfH (tupleKind (bN X.prog X.w)) s.heap.objs.size []:=Heap.DictOfH.new s.heap
 have ty:Shared.TypeIs { s with heap:=s.heap.push { cls:=.type "dict",data:=.dict #[] } } (.ref s.heap.objs.size) "dict":=hnew.typeIs
 refine⟨ty,F.args_dict_init_2 _ _,?_⟩
 unfold Builtin.«dict.__init__»
 refine wpAny_bind ?_
 unfold Builtin.Dict.selfAndRest
 refine wpAny_bind (wpAny_notOrdered_dict ty ?_)
 refine(show wpAny _ _ (pure (s.heap.objs.size,[Value.ref l])) _ _ _ from wpAny_pure ?_)
 refine(show wpAny _ _ (Builtin.Dict.updateFrom "dict.__init__" s.heap.objs.size (.ref l) [] .none) _ _ _ from ?_)
 unfold Builtin.Dict.updateFrom
 have e':(s.heap.push { cls:=.type "dict",data:=.dict #[] }).get? l=some { cls:=.type "list",data:=.seq (qs.map Value.ref).toArray n }:=Heap.get?_push_of_some _ e
 refine wpAny_bind (wpAny_typeOf (T:="list") ⟨_,e',rfl⟩ ?_)
 rw[if_pos (by decide)]
 refine wpAny_bind (aKk (show X.A.in1.in1.handled=none from I.ok.hd hc) e' fun h1 tk k1=>?_)
 simp only[Option.isNone_none,if_true]
 refine wpAny_bind (wpAny_rule ?_)
 have g1:h1.IsList l (qs.map Value.ref).toArray:=⟨_,k1 _ _ e',rfl,_,rfl⟩
 have d1:h1.DictOfH (tupleKind (bN X.prog X.w)) s.heap.objs.size []:=tV hnew (fun o e=>k1 _ _ e) fun b o _ e=>k1 _ _ e
 refine wpAny_bind (wpAny_pyIter_list (s:={ s with heap:=h1,toks:=tk }) g1 ?_)
 refine wpAny_pure ⟨plainId_quiet iH _,?_⟩
 have lD:s.heap.objs.size < h1.objs.size:=by obtain⟨o,es,ep,a,r⟩:=d1;exact Heap.lt_size a
 have ll:l < s.heap.objs.size:=Heap.lt_size e
 have k2:∀b o,s.heap.get? b=some o->(h1.push { cls:=.type "list_iterator",data:=.fields #[.ref l,.int 0 0] }).get? b=some o:=fun b o q=>Heap.get?_push_of_some _ (k1 b o (Heap.get?_push_of_some _ q))
 have nn:∀a,s.heap.objs.size<=a->s.heap.get? a=none:=fun a h=>by
  cases z:s.heap.get? a with
  |none=>rfl
  |some o=>exact absurd (Heap.lt_size z) (Nat.not_lt.mpr h)
 refine aHu (s:=s) (A:=X.A.in1) I (show X.A.in1.handled=none from I.ok.hd hc) (by show X.A.units+1+1 < cLine;omega) (D:=s.heap.objs.size) (I:=h1.objs.size) (l:=l) (qs:=qs) (kvs:=kvs) (nn _ (Nat.le_refl _)) (nn _ (Nat.le_of_lt lD)) (Nat.ne_of_lt lD) (Nat.ne_of_gt ll) (Nat.ne_of_lt (Nat.lt_trans ll lD)) hp (by omega)
  (fun h' tk' xs rel dd fr=>?_) _ 0 _ tk [] rfl (Nat.zero_le _) ⟨_,Heap.get?_push_size _ rfl,rfl,rfl⟩ (g1.push _) .nil (tV d1 (fun o e=>Heap.get?_push_of_some _ e) fun b o _ e=>Heap.get?_push_of_some _ e) (fun b o _ _ q=>k2 b o q)
 have hm:(fA kvs).length<=sizeLine:=by have:=aAZ kvs;omega
 obtain⟨o,es,ep,h1',h2',h3',h4',_,h6'⟩:=dd
 have hn:H s.heap.objs.size=none:=I.hok.fresh (Nat.le_refl _)
 refine⟨rfl,.ref s.heap.objs.size,_,I.laid (a:=s.heap.objs.size) (o:=.dT (fA kvs)) (t':=tk') (fun b u q=>?_) (Nat.le_refl _) ⟨hm,beq_eq_false_iff_ne.mpr (Ne.symm (Nat.ne_of_lt I.big)),xs,rel.keeps fun c ys ec=>?_,o,es,ep,h1',h2',h3',h4',h6'⟩,rfl,q _ hn⟩
 ·have lb:=Heap.lt_size q
  exact fr b u (Nat.ne_of_lt lb) (Nat.ne_of_lt (Nat.lt_trans lb lD)) q
 ·rw[aJ (fun z=>by rw[z,hn] at ec;cases ec)]
  exact ec
theorem aED{H:Hp}{Q:VK}{l:Addr}{qs:List Addr}{kvs:List (List Key×V)}(h1:H l=some (.lst (qs.map V.ref)))(h2:aGE H qs kvs)(h3:qs.length<=1000)(h:∀p,H p=none->Q (.ref p) (upd H p (.dT (fA kvs)))):aDm [.ref l] H Q:=⟨l,qs,kvs,rfl,h1,h2,h3,h⟩
end
end L2
namespace L2
open PySem PySem.Spec PySem.W PyProof.Rows
def Itq(d:Addr)(o:Obj)(kvs:List (List Key×V)):It:=
 ⟨fun i H=>H d=some (.frz o (.dT kvs))/\i < kvs.length,fun i H x H'=>H'=H/\∃kv,kvs[i]?=some kv/\x=kv.2,fun i H=>H d=some (.frz o (.dT kvs))/\kvs.length<=i⟩
theorem aDn{P:Program}{w:World}{K:PySem.W.Frag}{tg:Expr}(d it:Addr)(o:Obj)(kvs:List (List Key×V))(es:Array DictEntry)(ep:Nat)(hc0:o.cls=.type "dict")(hd0:o.data=.dict es ep)(hn:es.size=kvs.length) :
  Turn P w K tg (Itq d o kvs) [it] it (fun i h=>It4 "dict_valueiterator" h it d i es.size ep) where
 mem:=by simp
 obj:=fun i h st b hb=>by
  have z:b=it:=by simpa using hb
  subst z
  obtain⟨u,e,c,q⟩:=st
  exact⟨u,e,fun v z=>by rw[q] at z;cases z⟩
 keep:=fun i h h' st k=>st.keep fun u e=>k it (by simp) u e
 item:=by
  intro X hP hw hK hc i pins s σ H E I hf st hg
  subst hP hw hK
  obtain⟨hd,hi⟩:=hg
  have hO:bI X.prog X.w H s.heap d (.frz o (.dT kvs)):=I.hok d _ hd
  obtain⟨ho,hO⟩:=hO
  obtain⟨lo,o',es',ep',xs,g1,g2,g3,rel,g4,g5⟩:=rP hO
  have eo:o'=o:=Option.some.inj (g1.symm.trans ho)
  subst eo
  have ee:es'=es/\ep'=ep:=by rw[hd0] at g3;injection g3 with a b;exact⟨a.symm,b.symm⟩
  obtain⟨e1,e2⟩:=ee
  subst e1 e2
  have raw:Raw s.heap d es' ep':=⟨o',ho,hc0,hd0⟩
  have hx:kvs[i]?=some kvs[i]:=List.getElem?_eq_getElem hi
  obtain⟨q,hq,hb,rv⟩:=yA rel hx
  have hex:es'[i]?=some (entryOfKey (tupleKind (bN X.prog X.w)) q):=by rw[entry_at g4,hq];rfl
  obtain⟨f0,f1,f2,f3,f4,f5⟩:=hf it (by simp)
  refine aBG st raw hex fun h' st' sb=>?_
  have I1:Inv X pins σ H { s with heap:=h' }:=I.turned (t':=s.toks) (fun b u hb e=>(sb.2 b hb).trans e) f0 f1 f3 f4 f5
  obtain⟨u,e',c',d'⟩:=id st'
  exact⟨_,rfl,aEb (s:={ s with heap:=h' }) e' c' d' (by decide) ⟨kvs[i].2,H,I1,rv,⟨rfl,kvs[i],hx,rfl⟩,st',fun b hb=>(hf b hb).1⟩⟩
 done:=by
  intro X hP hw hK hc i pins s σ H E I hf st hg
  subst hP hw hK
  obtain⟨hd,hi⟩:=hg
  have hO:bI X.prog X.w H s.heap d (.frz o (.dT kvs)):=I.hok d _ hd
  obtain⟨f0,f1,f2,f3,f4,f5⟩:=hf it (by simp)
  exact aDd (I.ok.hd hc) st ⟨o,hO.1,hc0,hd0⟩ (by omega) fun h' eb=>⟨rfl,I.turned (t':=s.toks) (fun b o hb e=>eb b o hb e) f0 f1 f3 f4 f5⟩
 self:=fun _ _ _ _ _ st h=>wpAny_pyIter_valiter st h
section
variable{X:Cx}{tg:Expr}
def IqQ(R:It->Hp->Prop):V->Hp->Prop:=fun x H1=>∃d kvs,x=.ref d/\H1 d=some (.dT kvs)/\∀o,R (Itq d o kvs) (upd H1 d (.frz o (.dT kvs)))
def aFQ(td:TE):TI:=fun σ H R=>td σ H (IqQ R)
theorem aA1{o:Expr}{td:TE}{apos cpos:Pos}(ho:PE X o td)(hbase:attributeBase o "values" X.env (eval o X.env)=eval o X.env:=by rfl)(hline:(apos.endLine == cpos.line)=true:=by rfl) :
  PI X tg (.Call (.Attribute o "values" apos) [] [] cpos) (aFQ td):=by
 intro pins s σ H R I h
 refine wpAny_Call_method (T:="dict") (id:="dict.values") hbase rfl hline PySem.F.plainAttrs_dict PySem.F.slot_dict_values PySem.F.type_dict_values (cN (ho pins s σ H _ I h) fun v s1 ⟨x,H1,I1,r1,q1⟩=>?_)
 obtain⟨d,kvs,e,hd,q⟩:=q1
 subst e
 cases r1
 obtain⟨lo,ob,es,ep,xs,g1,g2,g3,rel,g4,g5⟩:=rP (show bI X.prog X.w H1 s1.heap d (.dT kvs) from I1.hok d _ hd)
 have raw:Raw s1.heap d es ep:=⟨ob,g1,g2.1,g3⟩
 refine⟨raw.ty,fun b z=>by cases z;exact⟨ob,g1,g2.2.1⟩,?_⟩
 refine method_meetsIn PySem.F.slot_dict_values PySem.F.entry_dict_values rfl (PySem.evalArgs_none ⟨rfl,raw.ty,PySem.F.args_dict_values_1 _,_,aFC d lo,raw.ty,?_⟩)
 have I2:=I1.aGv hd g1
 show wpAny _ _ (pyIter (.ref s1.heap.objs.size)) _ _ _
 refine aAQ (s:={ s1 with heap:=s1.heap.push { cls:=.type "dict_values",data:=.fields #[.ref d] } }) ⟨_,Heap.get?_push_size _ rfl,rfl,rfl⟩ (raw.keep fun o e=>Heap.get?_push_of_some _ e) ?_
 have hk:∀b u,s1.heap.get? b=some u->((s1.heap.push { cls:=.type "dict_values",data:=.fields #[.ref d] }).push { cls:=.type "dict_valueiterator",data:=.fields #[.ref d,.int 0 0,.int es.size 0,.int ep 0] }).get? b=some u:=
  fun b u e=>Heap.get?_push_of_some _ (Heap.get?_push_of_some _ e)
 refine⟨_,[(s1.heap.push { cls:=.type "dict_values",data:=.fields #[.ref d] }).objs.size],_,_,_,rfl,I2.kept (t':=s1.toks) hk,aDn d _ ob kvs es ep g2.1 g3 g5,⟨_,Heap.get?_push_size _ rfl,rfl,rfl⟩,fun b hb=>?_,q ob⟩
 have e:b=(s1.heap.push { cls:=.type "dict_values",data:=.fields #[.ref d] }).objs.size:=by simpa using hb
 have hle:s1.heap.objs.size<=b:=by rw[e,Heap.size_push];exact Nat.le_succ _
 exact I2.aEa hle (I2.hok.fresh hle)
theorem Inv.aMZ{pins:List (Addr×Obj)}{σ:St}{H:Hp}{s:Shared}{d:Addr}{o:Obj}{kvs:List (List Key×V)}(I:Inv X pins σ H s)(e:H d=some (.frz o (.dT kvs)))(h0:∀o u,X.H₀ d≠some (.frz o u)):Inv X pins σ (upd H d (.dT kvs)) s:=by
 have nd:∀b u,H b=some u->u≠.frz o (.dT kvs)->b≠d:=fun b u q n z=>by rw[z,e] at q;exact n (Option.some.inj q).symm
 have nn:∀b,H b=none->b≠d:=fun b q z=>by rw[z,e] at q;cases q
 obtain⟨a1,a2,a3,a4,a5,a6,a7,a8,a9,a10,a11⟩:=I
 refine⟨a1,a2,a3,⟨a4.keep,a4.slot,fun b u q n hx=>?_,a4.there,fun b xs q=>?_,fun b u v q=>?_,fun b ps q=>?_⟩,a5,a6,?_,fun x c q=>?_,fun p hp=>?_,fun b u q=>?_,a11⟩
 ·have:=a4.free b u q n hx
  rw[aJ (nn b this)];exact this
 ·have:=a4.rB b xs q
  rw[aJ (nd b _ this (fun z=>by cases z))];exact this
 ·have:=a4.frzs b u v q
  rw[aJ (fun z=>h0 u v (by rw[<-z];exact q))];exact this
 ·obtain⟨more,this⟩:=a4.tbls b ps q
  exact⟨more,by rw[aJ (nd b _ this (fun z=>by cases z))];exact this⟩
 ·rw[aJ (nn _ a7)];exact a7
 ·rw[aJ (nn _ (a8 x c q))];exact a8 x c q
 ·obtain⟨b1,b2,b3⟩:=a9 p hp
  exact⟨b1,by rw[aJ (nn _ b2)];exact b2,b3⟩
 ·have st:∀c v,bI X.prog X.w H s.heap c v->bI X.prog X.w (upd H d (.dT kvs)) s.heap c v:=fun c v z=>
   z.zE (fun _ _ _ z=>z) (fun c z=>by rw[aJ (nd _ _ z (fun y=>by cases y))];exact z) fun c xs t z=>by rw[aJ (nd _ _ z (fun y=>by subst y;exact t))];exact z
  by_cases hb:b=d
  ·subst hb;rw[aH] at q;cases q;exact st b _ (a10 b _ e).2
  ·rw[aJ hb] at q;exact st b u (a10 b u q)
def aFR(t:TE):TE:=fun σ H Q=>t σ H fun v H'=>∃d kvs,H d=some (.dT kvs)/\∃o,H' d=some (.frz o (.dT kvs))/\Q v (upd H' d (.dT kvs))
theorem v5{e:Expr}{t:TE}(he:PE X e t):PE X e (aFR t):=by
 intro pins s σ H Q I h
 refine cN (he pins s σ H _ I h) fun v s1 ⟨x,H1,I1,r1,d,kvs,hd,o,q1,q2⟩=>?_
 exact⟨x,_,I1.aMZ q1 (fun o u z=>by have y:=I.base.frzs d o u z;rw[hd] at y;cases y),r1,q2⟩
def aJa:List V->Hp->VK->Prop:=fun xs H Q=>∃a kvs,xs=[V.ref a]/\H a=some (.dT kvs)/\Q (.int kvs.length) H
theorem aHv:dZ X (.builtin "len") aJa:=by
 intro pins s σ H xs us Q I r h
 obtain⟨a,kvs,rfl,ha,q⟩:=h
 obtain⟨u,rfl,ru⟩:=vals1 r
 cases ru
 have hO:=show bI X.prog X.w H s.heap a (.dT kvs) from I.hok a _ ha
 have hz:=hO.1
 obtain⟨lo,ob,es,ep,xs,g1,g2,g3,rel,g4,g5⟩:=rP hO
 have ty:s.TypeIs (.ref a) "dict":=⟨ob,g1,g2.1⟩
 have fit:¬((kvs.length:Nat):Int) ≥ 2 ^ 63:=by rw[sizeLine_eq] at hz;omega
 refine Calls.call_function_entry kind_len plain_len entry_len (args_len1 _) ?_
 unfold Builtin.«len»
 refine wpAny_bind (m:=oneArg "len" _) (wpAny_pure ?_)
 refine wpAny_bind (m:=callSpecial? (.ref a) (Str.ofString "__len__")) (wpAny_callSpecial?_slot (name:=Str.ofString "__len__") ty PySem.F.slot_dict_len (wpAny_call_entry PySem.F.slot_dict_len ty PySem.F.entry_dict_len (show _ from ?_) (PySem.F.args_dict_len_1 _)))
 refine(show wpAny _ _ (dictSize a >>= _) _ _ s from ?_)
 unfold dictSize
 refine wpAny_bind (wpAny_bind (wpAny_dictEntries g1 g3 (wpAny_pure (show wpAny _ _ (Builtin.Dict.pendingCount a >>= _) _ _ s from wpAny_bind (wpAny_pendingCount_other lo (wpAny_ret_mkInt ?_))))))
 rw[Nat.add_zero,g5]
 refine(show wpAny _ _ _ _ _ { s with toks:=s.toks+1 } from wpAny_bind (wpAny_holding (wpAny_pure (wpAny_bind (wpAny_letGo ?_)))))
 refine(show wpAny _ _ (if ((kvs.length:Nat):Int) < 0 then _ else _) _ _ _ from ?_)
 rw[if_neg (by omega)]
 refine(show wpAny _ _ (if ((kvs.length:Nat):Int) ≥ 2 ^ 63 then _ else _) _ _ _ from ?_)
 rw[if_neg fit]
 exact wpAny_bind (wpAny_mkInt (wpAny_pure ⟨_,rfl,.int kvs.length,H,I.tok _,⟨_,rfl⟩,q⟩))
end
section
variable{σ:St}{H:Hp}{Q:VK}
theorem aHw{td:TE}{R:It->Hp->Prop}(h:td σ H (IqQ R)):aFQ td σ H R:=h
theorem aM0{d:Addr}{kvs:List (List Key×V)}{R:It->Hp->Prop}(h1:H d=some (.dT kvs))(h:∀o,R (Itq d o kvs) (upd H d (.frz o (.dT kvs)))):IqQ R (.ref d) H:=⟨d,kvs,rfl,h1,h⟩
theorem aJb{t:TE}(h:t σ H fun v H'=>∃d kvs,H d=some (.dT kvs)/\∃o,H' d=some (.frz o (.dT kvs))/\Q v (upd H' d (.dT kvs))):aFR t σ H Q:=h
theorem aKm{a:Addr}{kvs:List (List Key×V)}(e:H a=some (.dT kvs))(q:Q (.int kvs.length) H):aJa [.ref a] H Q:=⟨a,kvs,rfl,e,q⟩
end
theorem aFS{d:Addr}{o:Obj}{kvs:List (List Key×V)}{σ₀:St}{g:TG}{tt:TT}{te:TE}{R:List V->Hp->Prop}{H:Hp}(Pv:Nat->List V->Hp->Prop)(h0:Pv 0 [] H)(hz:kvs.length<=sizeLine)
  (hl:∀i ys H,i<=kvs.length->Pv i ys H->H d=some (.frz o (.dT kvs))/\ys.length<=i)
  (hs:∀i kv ys H,kvs[i]?=some kv->Pv i ys H->g kv.2 σ₀ H fun σ2 H2=>tt σ2 H2 fun c H3=>if c=true then te σ2 H3 fun y H4=>Pv (i+1) (ys ++ [y]) H4 else Pv (i+1) ys H3)
  (hd:∀ys H,Pv kvs.length ys H->R ys H):mM (Itq d o kvs) σ₀ g tt te R H:=by
 refine⟨fun i m ys H=>m=kvs.length - i/\i<=kvs.length/\Pv i ys H,⟨kvs.length,by simp,Nat.zero_le _,h0⟩,?_⟩
 rintro i m ys H ⟨rfl,hi,p⟩
 obtain⟨q,ql⟩:=hl i ys H hi p
 refine⟨by omega,?_⟩
 by_cases hlt:i < kvs.length
 ·refine .inr ⟨⟨q,hlt⟩,Pv (i+1),fun ys' H' p'=>⟨kvs.length - (i+1),by omega,rfl,hlt,p'⟩,fun x H' y=>?_⟩
  obtain⟨e,kv,hk,e2⟩:=y
  subst e e2
  exact hs i kv ys _ hk p
 ·have:i=kvs.length:=by omega
  subst this
  exact .inl ⟨⟨q,Nat.le_refl _⟩,hd ys H p⟩
theorem aEE{d:Addr}{o:Obj}{kvs:List (List Key×V)}{σ₀:St}{g:TG}{tt:TT}{te:TE}{R:List V->Hp->Prop}{H:Hp}(Pv:Nat->List V->Hp->Prop)(h0:Pv 0 [] H)(hz:kvs.length<=sizeLine)
  (hl:∀i ys H,i<=kvs.length->Pv i ys H->H d=some (.frz o (.dT kvs))/\ys.length<=i)
  (hs:∀i kv ys H T b,kvs[i]?=some kv->Pv i ys H->H T=none->H b=some (.tup (kv.1.map kV))->g (.ref T) σ₀ (upd H T (.tup [.ref b,kv.2])) fun σ2 H2=>tt σ2 H2 fun c H3=>if c=true then te σ2 H3 fun y H4=>Pv (i+1) (ys ++ [y]) H4 else Pv (i+1) ys H3)
  (hd:∀ys H,Pv kvs.length ys H->R ys H):mM (Iti d o kvs) σ₀ g tt te R H:=by
 refine⟨fun i m ys H=>m=kvs.length - i/\i<=kvs.length/\Pv i ys H,⟨kvs.length,by simp,Nat.zero_le _,h0⟩,?_⟩
 rintro i m ys H ⟨rfl,hi,p⟩
 obtain⟨q,ql⟩:=hl i ys H hi p
 refine⟨by omega,?_⟩
 by_cases hlt:i < kvs.length
 ·refine .inr ⟨⟨q,hlt⟩,Pv (i+1),fun ys' H' p'=>⟨kvs.length - (i+1),by omega,rfl,hlt,p'⟩,fun x H' y=>?_⟩
  obtain⟨T,b,kv,hT,e,hk,hb,e2⟩:=y
  subst e e2
  exact hs i kv ys _ T b hk p hT hb
 ·have:i=kvs.length:=by omega
  subst this
  exact .inl ⟨⟨q,Nat.le_refl _⟩,hd ys H p⟩
end L2
namespace L2.Z
open PySem PySem.Spec PyProof.Rows L2
section
variable{X:Cx}{o e tg:Expr}{td t:TE}{apos cpos:Pos}
theorem aA1(ho:QE X o td)(hbase:attributeBase o "values" X.env (eval o X.env)=eval o X.env:=by rfl)(hline:(apos.endLine == cpos.line)=true:=by rfl) :
  QI X tg (.Call (.Attribute o "values" apos) [] [] cpos) (aFQ td):=⟨L2.aA1 ho.h hbase hline⟩
theorem v5(he:QE X e t):QE X e (aFR t):=⟨L2.v5 he.h⟩
end
end L2.Z
local macro_rules | `(tactic| walk_at "ne") => `(tactic| first
  | assumption
  | (refine Ne.symm ?_; assumption)
  | exact L2.bE (by assumption) (by walk_at "hp")
  | exact Ne.symm (L2.bE (by assumption) (by walk_at "hp")))
local macro_rules | `(tactic| walk_at "hp") => `(tactic| first
  | assumption
  | exact L2.aH
  | (refine Eq.trans (L2.aJ (by walk_at "ne")) ?_; walk_at "hp")
  | (refine L2.aI.at (by assumption) ?_; walk_at "hp")
  | (refine L2.bS.at (by assumption) ?_ (by walk_at "ne"); walk_at "hp"))
local macro_rules | `(tactic| walk_at "sq") => `(tactic| first
  | assumption
  | exact L2.bG.of (by walk_at "hp")
  | exact L2.kL.of (by walk_at "hp")
  | exact L2.aI.seq (by assumption) (by walk_at "sq"))
local macro_rules | `(tactic| walk_at "cnd") => `(tactic| first
  | omega
  | decide
  | (simp only [List.length_map]; omega)
  | (refine ⟨?_, ?_⟩ <;> first | omega | decide)
  | (refine Or.inl ⟨?_, ?_⟩ <;> first | omega | decide)
  | (refine Or.inr ⟨?_, ?_⟩ <;> first | omega | decide)
  | (refine ⟨?_, ?_, ?_⟩ <;> first | omega | decide))
local macro_rules | `(tactic| walk_at "sz") => `(tactic| (refine L2.bX ?_; first | decide | (simp only [List.length_cons, List.length_nil, List.length_append]; omega) | omega))
local macro_rules | `(tactic| walk_at "rd") => `(tactic| (with_reducible first
  | refine L2.aJO ?_
  | refine L2.rd_par ?_
  | refine L2.aLv ?_
  | refine L2.aJP ?_
  | refine L2.aLw ?_
  | refine L2.rd_retN ?_
  | refine L2.rd_break ?_
  | refine L2.rd_cont ?_
  | refine L2.aLx ?_
  | refine L2.aJQ ?_
  | refine L2.aLy ?_
  | refine L2.aJR ?_
  | refine L2.aIv ?_
  | refine L2.aJS ?_
  | refine L2.aHj ?_
  | refine L2.aKj ?_
  | refine L2.aJb ?_
  | refine L2.aHw ?_
  | refine L2.aI5 ?_
  | refine L2.aIU ?_
  | refine L2.aIS ?_
  | refine L2.aIT ?_
  | refine L2.aLA ?_
  | refine L2.aNi ?_
  | refine L2.aMC ?_
  | refine L2.aMD ?_
  | refine L2.aLC ?_
  | refine L2.aMF ?_
  | refine L2.aJT ?_
  | refine L2.aMG ?_
  | refine L2.aHb ?_
  | refine L2.aJV ?_
  | refine L2.rd_partN ?_
  | refine L2.rd_pnN ?_
  | refine L2.rd_pnI ?_
  | refine L2.aJW ?_
  | refine L2.aLE ?_
  | refine L2.aJX ?_
  | refine L2.rd_ifE ?_
  | refine L2.aIx ?_
  | refine L2.aJY ?_
  | refine L2.aMH ?_
  | refine L2.aLF ?_
  | refine L2.aMI ?_
  | refine L2.aLG ?_
  | refine L2.aLH ?_
  | refine L2.aMJ ?_
  | refine L2.aJZ ?_
  | refine L2.aMK ?_
  | refine L2.aML ?_
  | refine L2.rd_bl2 ?_
  | refine L2.aLI ?_
  | refine L2.aJ0 ?_
  | refine L2.aLJ ?_
  | refine L2.aLK ?_
  | refine L2.aJ1 ?_
  | refine L2.aMM ?_
  | refine L2.aJ2 ?_
  | refine L2.aHf ?_
  | refine L2.aIE ?_
  | refine L2.aIy ?_
  | refine L2.aIz ?_
  | refine L2.aLL ?_
  | refine L2.aJK ?_
  | refine L2.aJJ ?_
  | refine L2.aMR ?_
  | refine L2.aMS ?_
  | refine L2.aMQ ?_
  | refine L2.aLT ?_
  | refine L2.aID ?_
  | refine L2.rd_rng ?_
  | refine L2.aKa ?_
  | refine L2.aKb ?_
  | refine L2.aKc ?_
  | refine L2.aKf ?_
  | refine L2.aIZ ?_
  | refine L2.aFL ?_
  | refine L2.aI3 ?_))
local macro_rules | `(tactic| walk_at "st") => `(tactic| first
  | walk_at "rd"
  | ((with_reducible refine L2.aMV (b := ?b) ?t ?_); (case t => assumption))
  | ((with_reducible refine L2.aLB (v := ?v) ?e ?_); (case e => rfl))
  | ((with_reducible refine L2.aIu (σ' := ?s) ?e ?_); (case e => first | (simp only [List.set_cons_zero, List.set_cons_succ]; rfl) | rfl))
  | ((with_reducible refine L2.aME ?c ?_); (case c => walk_at "cnd"))
  | ((with_reducible refine L2.aJU ?c ?_); (case c => walk_at "cnd"))
  | ((with_reducible refine L2.aC7 (xs := ?xs) (v := ?v) ?a ?b ?_); (case a => walk_at "sq"); (case b => first | rfl | assumption))
  | ((with_reducible refine L2.aLD (xs := ?xs) (v := ?v) ?a ?b ?_); (case a => walk_at "sq"); (case b => first | rfl | assumption))
  | (with_reducible refine L2.aLM ?_)
  | (with_reducible refine L2.aLN ?_)
  | (with_reducible refine L2.aLO ?_)
  | (with_reducible refine L2.rd_intI ?_)
  | (with_reducible refine L2.rd_intB ?_)
  | ((with_reducible refine L2.aJ4 (xs := ?xs) ?a ?_); (case a => walk_at "sq"))
  | ((with_reducible refine L2.aJ5 (xs := ?xs) ?a ?_); (case a => walk_at "sq"))
  | (with_reducible refine L2.aLP ?_)
  | (with_reducible refine L2.aIB ?_)
  | ((with_reducible refine L2.rd_eqF ?a ?b ?_); (case a => rfl); (case b => rfl))
  | ((with_reducible refine L2.aIw ?a ?b ?_); (case a => rfl); (case b => rfl))
  | ((with_reducible refine L2.rd_is (b := ?b) ?e ?_); (case e => rfl))
  | ((with_reducible refine L2.aIJ (b := ?b) ?e ?_); (case e => rfl))
  | ((with_reducible refine L2.aJ3 ?c ?_); (case c => walk_at "sz")))
local macro_rules | `(tactic| walk_at "go") => `(tactic| first
  | (with_reducible refine L2.aKe (fun _ _ => ?_))
  | walk_at "st")
local macro_rules | `(tactic| walk_at "w") => `(tactic| repeat walk_at "go")
local macro_rules | `(tactic| walk_at "gs") => `(tactic| first
  | walk_at "go"
  | ((with_reducible refine L2.aMT ?e ?_); (case e => rfl))
  | ((with_reducible refine L2.aMU ?e ?_); (case e => rfl)))
namespace My
open PySem L2
def top(i:Nat):Stmt:=PySem.Challenge.pw_stintwise_k45_whole_papers_never_tell_to.main.body.getD i (.Pass ⟨0,0,0,0⟩)
abbrev fJ:Stmt:=top 44
abbrev hE:Stmt:=top 45
abbrev jB:Stmt:=top 46
abbrev eS:Stmt:=top 47
abbrev jC:Stmt:=top 16
abbrev hJ:Stmt:=top 17
abbrev mG:Stmt:=top 39
abbrev jD:Stmt:=top 40
abbrev dG:Stmt:=top 41
abbrev dQ:Stmt:=inClass (top 42) 0
abbrev hU:Stmt:=top 48
abbrev dR:Stmt:=top 49
abbrev dS:Stmt:=inClass (top 42) 3
abbrev fK:Stmt:=top 53
abbrev oZ:Stmt:=top 19
abbrev eT:Stmt:=top 20
abbrev fR:Stmt:=top 50
abbrev fS:Stmt:=top 52
abbrev hV:Stmt:=top 24
abbrev dU:Stmt:=top 25
abbrev fT:Stmt:=top 26
abbrev jE:Stmt:=top 27
abbrev gQ:Stmt:=top 2
abbrev dW:Stmt:=top 3
abbrev cW:Stmt:=top 4
abbrev eE:Stmt:=top 5
abbrev hX:Stmt:=top 6
abbrev eU:Stmt:=top 21
abbrev cX:Stmt:=top 22
abbrev eF:Stmt:=top 28
abbrev fL:Stmt:=top 30
abbrev bR:Stmt:=top 31
abbrev cL:Stmt:=top 32
abbrev eG:Stmt:=top 8
abbrev eI:Stmt:=top 9
abbrev bU:Stmt:=top 10
abbrev gR:Stmt:=top 7
abbrev fU:Stmt:=top 33
abbrev d8:Stmt:=top 35
abbrev fV:Stmt:=top 51
abbrev hZ:Stmt:=top 56
abbrev eV:Stmt:=top 57
abbrev gU:Stmt:=top 58
abbrev eW:Stmt:=top 61
abbrev dA:Stmt:=top 59
abbrev cA:Stmt:=top 60
abbrev eJ:Stmt:=top 62
abbrev aA2:Stmt:=top 63
theorem fW:aX ["_law_script","_law_place","_law_cells","_law_at","_law_digits"] ["_law_script","_law_place"] (aB fJ):=⟨rfl,rfl,rfl,by decide +kernel,rfl,by decide +kernel,by decide +kernel⟩
theorem fX:aX ["_law_hand","_law_many","_law_got","_law_cell","_law_number_here"] ["_law_hand","_law_many"] (aB hE):=⟨rfl,rfl,rfl,by decide +kernel,rfl,by decide +kernel,by decide +kernel⟩
theorem nC:aX ["_law_hand","_law_bound","_law_total","_law_k"] ["_law_hand","_law_bound"] (aB jB):=⟨rfl,rfl,rfl,by decide +kernel,rfl,by decide +kernel,by decide +kernel⟩
theorem aA3:aX ["_law_hand"] ["_law_hand"] (aB eS):=⟨rfl,rfl,rfl,by decide +kernel,rfl,by decide +kernel,by decide +kernel⟩
theorem aEF:aX ["thing"] ["thing"] (aB jC):=⟨rfl,rfl,rfl,by decide +kernel,rfl,by decide +kernel,by decide +kernel⟩
theorem aDo:aX ["thing"] ["thing"] (aB hJ):=⟨rfl,rfl,rfl,by decide +kernel,rfl,by decide +kernel,by decide +kernel⟩
theorem aFT:aX ["thing"] ["thing"] (aB mG):=⟨rfl,rfl,rfl,by decide +kernel,rfl,by decide +kernel,by decide +kernel⟩
theorem aEG:aX ["thing"] ["thing"] (aB jD):=⟨rfl,rfl,rfl,by decide +kernel,rfl,by decide +kernel,by decide +kernel⟩
theorem aBJ:aX ["thing"] ["thing"] (aB dG):=⟨rfl,rfl,rfl,by decide +kernel,rfl,by decide +kernel,by decide +kernel⟩
theorem eN:aX ["self","up","down","begin","run","rest","least","pieces","spans","costs","at","fits"] ["self","up","down","begin","run","rest","least","pieces"] (aB dQ):=⟨rfl,rfl,rfl,by decide +kernel,rfl,by decide +kernel,by decide +kernel⟩
theorem cT:aX ["_law_hand","_law_by","_law_longest","_law_up","_law_down","_law_costs","_law_least","_law_rate","_law_pieces","_law_k"] ["_law_hand","_law_by","_law_longest"] (aB hU):=⟨rfl,rfl,rfl,by decide +kernel,rfl,by decide +kernel,by decide +kernel⟩
theorem zI:aX ["_law_spec_here"] ["_law_spec_here"] (aB dR):=⟨rfl,rfl,rfl,by decide +kernel,rfl,by decide +kernel,by decide +kernel⟩
theorem eO:aX ["self","price","worth","amount","rate"] ["self","price"] (aB dS):=⟨rfl,rfl,rfl,by decide +kernel,rfl,by decide +kernel,by decide +kernel⟩
theorem aDp:aX ["_law_spec_here","_law_price_here"] ["_law_spec_here","_law_price_here"] (aB fK):=⟨rfl,rfl,rfl,by decide +kernel,rfl,by decide +kernel,by decide +kernel⟩
theorem aHx:aX ["machine","state","on"] ["machine","state","on"] (aB oZ):=⟨rfl,rfl,rfl,by decide +kernel,rfl,by decide +kernel,by decide +kernel⟩
theorem aA4:aX ["machine","state","on"] ["machine","state","on"] (aB eT):=⟨rfl,rfl,rfl,by decide +kernel,rfl,by decide +kernel,by decide +kernel⟩
theorem aBK:aX ["_law_hand","_law_spec_here"] ["_law_hand","_law_spec_here"] (aB fR):=⟨rfl,rfl,rfl,by decide +kernel,rfl,by decide +kernel,by decide +kernel⟩
theorem aBL:aX ["_law_spec_here","_law_state_here","_law_on"] ["_law_spec_here","_law_state_here","_law_on"] (aB fS):=⟨rfl,rfl,rfl,by decide +kernel,rfl,by decide +kernel,by decide +kernel⟩
theorem lA:aX ["machine","state","run","hour","on"] ["machine","state","run"] (aB hV):=⟨rfl,rfl,rfl,by decide +kernel,rfl,by decide +kernel,by decide +kernel⟩
theorem qZ:aX ["machine","state","run","fault"] ["machine","state","run"] (aB dU):=⟨rfl,rfl,rfl,by decide +kernel,rfl,by decide +kernel,by decide +kernel⟩
theorem eX:aX ["machine","state","run","begins","ahead","hour","on"] ["machine","state","run"] (aB fT):=⟨rfl,rfl,rfl,by decide +kernel,rfl,by decide +kernel,by decide +kernel⟩
theorem yV:aX ["machine","state","run","begins"] ["machine","state","run"] (aB jE):=⟨rfl,rfl,rfl,by decide +kernel,rfl,by decide +kernel,by decide +kernel⟩
theorem aEH:aX ["ways","behind"] ["ways","behind"] (aB gQ):=⟨rfl,rfl,rfl,by decide +kernel,rfl,by decide +kernel,by decide +kernel⟩
theorem kM:aX ["places","hour","behind","ways_at","worths","place"] ["places","hour","behind","ways_at"] (aB dW):=⟨rfl,rfl,rfl,by decide +kernel,rfl,by decide +kernel,by decide +kernel⟩
theorem cP:aX ["layers","ways_at","behind","place","worths","hour"] ["layers","ways_at"] (aB cW):=⟨rfl,rfl,rfl,by decide +kernel,rfl,by decide +kernel,by decide +kernel⟩
theorem uK:aX ["ways","behind","least"] ["ways","behind"] (aB eE):=⟨rfl,rfl,rfl,by decide +kernel,rfl,by decide +kernel,by decide +kernel⟩
theorem iI:aX ["place","worths","ways_at","row","hour","way"] ["place","worths","ways_at"] (aB hX):=⟨rfl,rfl,rfl,by decide +kernel,rfl,by decide +kernel,by decide +kernel⟩
theorem dX:aX ["machine","ways","later","state","many","on","behind"] ["machine","ways"] (aB eU):=⟨rfl,rfl,rfl,by decide +kernel,rfl,by decide +kernel,by decide +kernel⟩
theorem dH:aX ["machine","state","hours","ways","layers","hour"] ["machine","state","hours"] (aB cX):=⟨rfl,rfl,rfl,by decide +kernel,rfl,by decide +kernel,by decide +kernel⟩
theorem aBM:aX ["machine","state"] ["machine","state"] (aB eF):=⟨rfl,rfl,rfl,by decide +kernel,rfl,by decide +kernel,by decide +kernel⟩
theorem aDq:aX ["machine","state","price"] ["machine","state","price"] (aB fL):=⟨rfl,rfl,rfl,by decide +kernel,rfl,by decide +kernel,by decide +kernel⟩
theorem kU:aX ["machine","state","prices","layers"] ["machine","state","prices"] (aB bR):=⟨rfl,rfl,rfl,by decide +kernel,rfl,by decide +kernel,by decide +kernel⟩
theorem kN:aX ["machine","state","prices","worths","run"] ["machine","state","prices"] (aB cL):=⟨rfl,rfl,rfl,by decide +kernel,rfl,by decide +kernel,by decide +kernel⟩
theorem aBN:aX ["number","ways","behind"] ["number","ways","behind"] (aB eG):=⟨rfl,rfl,rfl,by decide +kernel,rfl,by decide +kernel,by decide +kernel⟩
theorem aBO:aX ["hour","ahead","behind","ways_at"] ["hour","ahead","behind","ways_at"] (aB eI):=⟨rfl,rfl,rfl,by decide +kernel,rfl,by decide +kernel,by decide +kernel⟩
theorem rY:aX ["place","hours","table","number","ways_at","numbers"] ["place","hours","table","number","ways_at"] (aB bU):=⟨rfl,rfl,rfl,by decide +kernel,rfl,by decide +kernel,by decide +kernel⟩
theorem aEI:aX ["worths"] ["worths"] (aB gR):=⟨rfl,rfl,rfl,by decide +kernel,rfl,by decide +kernel,by decide +kernel⟩
theorem aBP:aX ["machine","state","prices"] ["machine","state","prices"] (aB fU):=⟨rfl,rfl,rfl,by decide +kernel,rfl,by decide +kernel,by decide +kernel⟩
theorem aDr:aX ["machine","state","prices","table","number"] ["machine","state","prices","table","number"] (aB d8):=⟨rfl,rfl,rfl,by decide +kernel,rfl,by decide +kernel,by decide +kernel⟩
theorem aBQ:aX ["_law_hand","_law_by","_law_most"] ["_law_hand","_law_by","_law_most"] (aB fV):=⟨rfl,rfl,rfl,by decide +kernel,rfl,by decide +kernel,by decide +kernel⟩
theorem aDs:aX ["_law_spec_here","_law_state_here","_law_price_here","_law_on"] ["_law_spec_here","_law_state_here","_law_price_here","_law_on"] (aB hZ):=⟨rfl,rfl,rfl,by decide +kernel,rfl,by decide +kernel,by decide +kernel⟩
theorem cM:aX ["_law_hand","_law_spec_here","_law_by","_law_hours","_law_prices_here","_law_base","_law_hour_here","_law_price_here"] ["_law_hand","_law_spec_here","_law_by","_law_hours"] (aB eV):=⟨rfl,rfl,rfl,by decide +kernel,rfl,by decide +kernel,by decide +kernel⟩
theorem cV:aX ["_law_spec_here","_law_state_here","_law_prices_here","_law_found","_law_price_here","_law_later","_law_run","_law_one","_law_worth","_law_on","_law_behind"] ["_law_spec_here","_law_state_here","_law_prices_here"] (aB gU):=⟨rfl,rfl,rfl,by decide +kernel,rfl,by decide +kernel,by decide +kernel⟩
theorem aA5:aX ["_law_table","_law_state_here"] ["_law_table","_law_state_here"] (aB eW):=⟨rfl,rfl,rfl,by decide +kernel,rfl,by decide +kernel,by decide +kernel⟩
theorem eQ:aX ["_law_hand","_law_table","_law_by","_law_less","_law_lowered_here","_law_entries"] ["_law_hand","_law_table","_law_by"] (aB dA):=⟨rfl,rfl,rfl,by decide +kernel,rfl,by decide +kernel,by decide +kernel⟩
theorem cQ:aX ["_law_hand","_law_table","_law_entries","_law_rows","_law_k","_law_at"] ["_law_hand","_law_table"] (aB cA):=⟨rfl,rfl,rfl,by decide +kernel,rfl,by decide +kernel,by decide +kernel⟩
theorem jM:aX ["_law_machine_here","_law_state_here","_law_prices_here","_law_table","_law_least","_law_number_here","_law_handed","_law_found"] ["_law_machine_here","_law_state_here","_law_prices_here","_law_table","_law_least"] (aB eJ):=⟨rfl,rfl,rfl,by decide +kernel,rfl,by decide +kernel,by decide +kernel⟩
theorem gW:aX ["_law_script","_law_hand","_law_by","_law_place","_law_spec_here","_law_machine_here","_law_state_here","_law_prices_here","_law_least","_law_table","_law_low","_law_one","_law_k"] ["_law_script"] (aB aA2):=⟨rfl,rfl,rfl,by decide +kernel,rfl,by decide +kernel,by decide +kernel⟩
theorem ar1:∀us:List Value,us.length=1->∃a0,us=[a0]
 |[a0],_=>⟨a0,rfl⟩
theorem ar2:∀us:List Value,us.length=2->∃a0 a1,us=[a0,a1]
 |[a0,a1],_=>⟨a0,a1,rfl⟩
theorem ar3:∀us:List Value,us.length=3->∃a0 a1 a2,us=[a0,a1,a2]
 |[a0,a1,a2],_=>⟨a0,a1,a2,rfl⟩
theorem ar4:∀us:List Value,us.length=4->∃a0 a1 a2 a3,us=[a0,a1,a2,a3]
 |[a0,a1,a2,a3],_=>⟨a0,a1,a2,a3,rfl⟩
theorem ar5:∀us:List Value,us.length=5->∃a0 a1 a2 a3 a4,us=[a0,a1,a2,a3,a4]
 |[a0,a1,a2,a3,a4],_=>⟨a0,a1,a2,a3,a4,rfl⟩
theorem ar8:∀us:List Value,us.length=8->∃a0 a1 a2 a3 a4 a5 a6 a7,us=[a0,a1,a2,a3,a4,a5,a6,a7]
 |[a0,a1,a2,a3,a4,a5,a6,a7],_=>⟨a0,a1,a2,a3,a4,a5,a6,a7,rfl⟩
set_option genInjectivity false in
set_option genSizeOf false in
structure kW where
 nE:Addr
 nF:FuncData
 nG:Addr
 nH:FuncData
 pS:Addr
 pT:FuncData
 jN:Addr
 jO:FuncData
 pU:Addr
 pV:FuncData
 nJ:Addr
 nK:FuncData
 tW:Addr
 tX:FuncData
 pW:Addr
 pX:FuncData
 lB:Addr
 lC:FuncData
 iJ:Addr
 iK:FuncData
 nL:Addr
 nM:FuncData
 iL:Addr
 iM:FuncData
 iN:Addr
 iO:FuncData
 nO:Addr
 nP:FuncData
 v7:Addr
 v8:FuncData
 jP:Addr
 jQ:FuncData
 lE:Addr
 lF:FuncData
 lG:Addr
 lH:FuncData
 nQ:Addr
 nR:FuncData
 iP:Addr
 iQ:FuncData
 lJ:Addr
 lK:FuncData
 pY:Addr
 pZ:FuncData
 p9:Addr
 qA:FuncData
 iR:Addr
 iS:FuncData
 fY:Addr
 fZ:FuncData
 lM:Addr
 lN:FuncData
 nS:Addr
 nU:FuncData
 jR:Addr
 jS:FuncData
 gA:Addr
 gB:FuncData
 lO:Addr
 lP:FuncData
 nV:Addr
 nW:FuncData
 eK:Addr
 dB:FuncData
 iT:Addr
 fM:FuncData
 lQ:Addr
 lR:FuncData
 lT:Addr
 lU:FuncData
 jT:Addr
 jU:FuncData
 qB:Addr
 qC:FuncData
 lV:Addr
 lW:FuncData
 nX:Addr
 kI:FuncData
 lX:Addr
 lY:FuncData
 nY:Addr
 nZ:FuncData
 jV:Addr
 jW:FuncData
 qD:Addr
 qE:FuncData
 jX:Addr
 jY:FuncData
 iU:Addr
 iV:FuncData
 gC:Addr
 gE:FuncData
 lZ:Addr
 mB:FuncData
 aGF:Addr
 aGG:FuncData
 k_worths_of_states:Addr
 cH:Addr
 k_cheapest_run:Addr
 iW:Addr
 k_shows_run:Addr
 kJ:Addr
 aZ:Addr
structure Txt(K:W.Frag)(mg:Str->Option Value)(a:kW):Prop where
 oA:jA K "_law_open" "_law_open" fJ a.nE a.nF
 rZ:Binds K a.nF ["_law_script","_law_place"] []
 sA:mg "_law_open" = some (.ref a.nE)
 aO:jA K "_law_draw" "_law_draw" hE a.nG a.nH
 aP:Binds K a.nH ["_law_hand","_law_many"] []
 aQ:mg "_law_draw" = some (.ref a.nG)
 u9:jA K "_law_far" "_law_far" jB a.pS a.pT
 aA6:Binds K a.pT ["_law_hand","_law_bound"] []
 aA7:mg "_law_far" = some (.ref a.pS)
 jZ:jA K "_law_factor" "_law_factor" eS a.jN a.jO
 oM:Binds K a.jO ["_law_hand"] []
 oN:mg "_law_factor" = some (.ref a.jN)
 qF:jA K "is_whole" "is_whole" jC a.pU a.pV
 vA:Binds K a.pV ["thing"] []
 vB:mg "is_whole" = some (.ref a.pU)
 d9:jA K "is_amount" "is_amount" hJ a.nJ a.nK
 fN:Binds K a.nK ["thing"] []
 fO:mg "is_amount" = some (.ref a.nJ)
 tY:jA K "is_span" "is_span" mG a.tW a.tX
 yD:Binds K a.tX ["thing"] []
 yE:mg "is_span" = some (.ref a.tW)
 vC:jA K "is_piece" "is_piece" jD a.pW a.pX
 aA8:Binds K a.pX ["thing"] []
 aA9:mg "is_piece" = some (.ref a.pW)
 qG:jA K "are_pieces" "are_pieces" dG a.lB a.lC
 v9:Binds K a.lC ["thing"] []
 wA:mg "are_pieces" = some (.ref a.lB)
 sC:jA K "__init__" "Machine.__init__" dQ a.iJ a.iK
 sD:Binds K a.iK ["self","up","down","begin","run","rest","least","pieces"] []
 sE:jA K "_law_spec" "_law_spec" hU a.nL a.nM
 yW:Binds K a.nM ["_law_hand","_law_by","_law_longest"] []
 yX:mg "_law_spec" = some (.ref a.nL)
 mP:jA K "_law_machine" "_law_machine" dR a.iL a.iM
 sF:Binds K a.iM ["_law_spec_here"] []
 sG:mg "_law_machine" = some (.ref a.iL)
 sI:jA K "gain" "Machine.gain" dS a.iN a.iO
 sJ:Binds K a.iO ["self","price"] []
 sL:jA K "_law_gain" "_law_gain" fK a.nO a.nP
 yY:Binds K a.nP ["_law_spec_here","_law_price_here"] []
 yZ:mg "_law_gain" = some (.ref a.nO)
 o5:jA K "may_be" "may_be" oZ a.v7 a.v8
 sM:Binds K a.v8 ["machine","state","on"] []
 sN:mg "may_be" = some (.ref a.v7)
 gL:jA K "state_after" "state_after" eT a.jP a.jQ
 j0:Binds K a.jQ ["machine","state","on"] []
 j7:mg "state_after" = some (.ref a.jP)
 qH:jA K "_law_state" "_law_state" fR a.lE a.lF
 wB:Binds K a.lF ["_law_hand","_law_spec_here"] []
 wC:mg "_law_state" = some (.ref a.lE)
 qI:jA K "_law_after" "_law_after" fS a.lG a.lH
 wD:Binds K a.lH ["_law_spec_here","_law_state_here","_law_on"] []
 wG:mg "_law_after" = some (.ref a.lG)
 sO:jA K "run_fault" "run_fault" hV a.nQ a.nR
 y3:Binds K a.nR ["machine","state","run"] []
 y4:mg "run_fault" = some (.ref a.nQ)
 mQ:jA K "refuse_fault" "refuse_fault" dU a.iP a.iQ
 sP:Binds K a.iQ ["machine","state","run"] []
 sQ:mg "refuse_fault" = some (.ref a.iP)
 qJ:jA K "run_begins" "run_begins" fT a.lJ a.lK
 wH:Binds K a.lK ["machine","state","run"] []
 wI:mg "run_begins" = some (.ref a.lJ)
 vD:jA K "run_cost" "run_cost" jE a.pY a.pZ
 aBa:Binds K a.pZ ["machine","state","run"] []
 aBb:mg "run_cost" = some (.ref a.pY)
 qK:jA K "least_of" "least_of" gQ a.p9 a.qA
 vE:Binds K a.qA ["ways","behind"] []
 vF:mg "least_of" = some (.ref a.p9)
 mR:jA K "worths_ahead" "worths_ahead" dW a.iR a.iS
 sR:Binds K a.iS ["places","hour","behind","ways_at"] []
 sS:mg "worths_ahead" = some (.ref a.iR)
 jF:jA K "worths_by_hour" "worths_by_hour" cW a.fY a.fZ
 o6:Binds K a.fZ ["layers","ways_at"] []
 o7:mg "worths_by_hour" = some (.ref a.fY)
 qL:jA K "first_best" "first_best" eE a.lM a.lN
 wJ:Binds K a.lN ["ways","behind"] []
 wK:mg "first_best" = some (.ref a.lM)
 sU:jA K "first_row" "first_row" hX a.nS a.nU
 y6:Binds K a.nU ["place","worths","ways_at"] []
 y7:mg "first_row" = some (.ref a.nS)
 oO:jA K "ways_one_on" "ways_one_on" eU a.jR a.jS
 uL:Binds K a.jS ["machine","ways"] []
 uM:mg "ways_one_on" = some (.ref a.jR)
 jG:jA K "states_by_hour" "states_by_hour" cX a.gA a.gB
 o8:Binds K a.gB ["machine","state","hours"] []
 o9:mg "states_by_hour" = some (.ref a.gA)
 qM:jA K "next_hours" "next_hours" eF a.lO a.lP
 wL:Binds K a.lP ["machine","state"] []
 wM:mg "next_hours" = some (.ref a.lO)
 kK:jA K "hour_ways" "hour_ways" fL a.nV a.nW
 oB:Binds K a.nW ["machine","state","price"] []
 oC:mg "hour_ways" = some (.ref a.nV)
 eM:jA K "worths_of_states" "worths_of_states" bR a.eK a.dB
 gX:Binds K a.dB ["machine","state","prices"] []
 gY:mg "worths_of_states" = some (.ref a.eK)
 mS:jA K "cheapest_run" "cheapest_run" cL a.iT a.fM
 sV:Binds K a.fM ["machine","state","prices"] []
 sW:mg "cheapest_run" = some (.ref a.iT)
 qN:jA K "is_at_most" "is_at_most" eG a.lQ a.lR
 wN:Binds K a.lR ["number","ways","behind"] []
 wO:mg "is_at_most" = some (.ref a.lQ)
 qO:jA K "keeps_hour" "keeps_hour" eI a.lT a.lU
 wQ:Binds K a.lU ["hour","ahead","behind","ways_at"] []
 wR:mg "keeps_hour" = some (.ref a.lT)
 oP:jA K "shows_least" "shows_least" bU a.jT a.jU
 uN:Binds K a.jU ["place","hours","table","number","ways_at"] []
 uO:mg "shows_least" = some (.ref a.jT)
 vG:jA K "table_of" "table_of" gR a.qB a.qC
 aBc:Binds K a.qC ["worths"] []
 aBd:mg "table_of" = some (.ref a.qB)
 qP:jA K "run_worths" "run_worths" fU a.lV a.lW
 wU:Binds K a.lW ["machine","state","prices"] []
 wV:mg "run_worths" = some (.ref a.lV)
 oE:jA K "shows_run" "shows_run" d8 a.nX a.kI
 sX:Binds K a.kI ["machine","state","prices","table","number"] []
 sY:mg "shows_run" = some (.ref a.nX)
 mC:jA K "_law_price" "_law_price" fV a.lX a.lY
 qQ:Binds K a.lY ["_law_hand","_law_by","_law_most"] []
 qR:mg "_law_price" = some (.ref a.lX)
 sZ:jA K "_law_hour" "_law_hour" hZ a.nY a.nZ
 y8:Binds K a.nZ ["_law_spec_here","_law_state_here","_law_price_here","_law_on"] []
 y9:mg "_law_hour" = some (.ref a.nY)
 oQ:jA K "_law_prices" "_law_prices" eV a.jV a.jW
 uP:Binds K a.jW ["_law_hand","_law_spec_here","_law_by","_law_hours"] []
 uQ:mg "_law_prices" = some (.ref a.jV)
 vH:jA K "_law_all" "_law_all" gU a.qD a.qE
 aBe:Binds K a.qE ["_law_spec_here","_law_state_here","_law_prices_here"] []
 aBf:mg "_law_all" = some (.ref a.qD)
 gM:jA K "_law_number" "_law_number" eW a.jX a.jY
 j8:Binds K a.jY ["_law_table","_law_state_here"] []
 j9:mg "_law_number" = some (.ref a.jX)
 mT:jA K "_law_lowered" "_law_lowered" dA a.iU a.iV
 tD:Binds K a.iV ["_law_hand","_law_table","_law_by"] []
 tE:mg "_law_lowered" = some (.ref a.iU)
 jH:jA K "_law_otherwise" "_law_otherwise" cA a.gC a.gE
 pA:Binds K a.gE ["_law_hand","_law_table"] []
 pB:mg "_law_otherwise" = some (.ref a.gC)
 qS:jA K "_law_sound" "_law_sound" eJ a.lZ a.mB
 wW:Binds K a.mB ["_law_machine_here","_law_state_here","_law_prices_here","_law_table","_law_least"] []
 wX:mg "_law_sound" = some (.ref a.lZ)
 aKF:jA K "law" "law" aA2 a.aGF a.aGG
 aM1:Binds K a.aGG ["_law_script"] []
 aM2:mg "law" = some (.ref a.aGF)
 cC:Cls K a.aZ
 aCG:mg "Machine" = some (.ref a.aZ)
 aCH:Mk K a.aZ a.iJ
 m_Machine_gain:Meth K a.aZ "gain" a.iN
 qT:eB K a.aZ "up"
 mU:eB K a.aZ "down"
 kO:eB K a.aZ "begin"
 oR:eB K a.aZ "run"
 mV:eB K a.aZ "rest"
 kP:eB K a.aZ "least"
 jI:eB K a.aZ "pieces"
 gZ:aKh K a.dB a.k_worths_of_states a.cH
 mW:aKh K a.fM a.k_cheapest_run a.iW
 tF:aKh K a.kI a.k_shows_run a.kJ
 aCI:mg "abs" = none
 uR:mg "all" = none
 aCJ:mg "any" = none
 vI:mg "bool" = none
 vJ:mg "dict" = none
 eA:mg "enumerate" = none
 aCK:mg "int" = none
 cI:mg "isinstance" = none
 fP:mg "len" = none
 kQ:mg "list" = none
 tG:mg "max" = none
 uS:mg "min" = none
 dO:mg "range" = none
 jJ:mg "reversed" = none
 mX:mg "sorted" = none
 aCL:mg "sum" = none
 tZ:mg "tuple" = none
 dC:∃t,mg "LONGEST_STINT" = some (.int 12 t)
 eY:∃t,mg "MOST_PIECES" = some (.int 4 t)
abbrev cD:Pos:=⟨120,34,120,93⟩
abbrev cE:Str:=(("worths_of_states" : Str) ++ ".<locals>.") ++ "<lambda>"
abbrev gO:Pos:=⟨123,35,123,94⟩
abbrev gP:Str:=(("cheapest_run" : Str) ++ ".<locals>.") ++ "<lambda>"
abbrev iX:Pos:=⟨129,58,129,117⟩
abbrev iY:Str:=(("shows_run" : Str) ++ ".<locals>.") ++ "<lambda>"
end My
namespace My
open PySem L2
inductive Th (H:Hp):V->String->Prop where
 |non:Th H .non "NoneType"
 |bl (b:Bool):Th H (.bl b) "bool"
 |int (i:Int):Th H (.int i) "int"
 |str (x:Str):Th H (.str x) "str"
 |lst {p:Addr} {xs:List V} (e:H p=some (.lst xs)):Th H (.ref p) "list"
 |tup {p:Addr} {xs:List V} (e:H p=some (.tup xs)):Th H (.ref p) "tuple"
 |dK {p:Addr} {kvs:List (Key×V)} (e:H p=some (.dK kvs)):Th H (.ref p) "dict"
theorem Th.ty{K:W.Frag}{H:Hp}{v:V}{T:String}(h:Th H v T):vT K H v (.type T):=by
 cases h with
 |non=>exact .non
 |bl b=>exact .bl b
 |int i=>exact .int i
 |str x=>exact .str x
 |lst e=>exact .lst e
 |tup e=>exact .tup e
 |dK e=>exact .dK e
theorem Th.keep{H H':Hp}{p:Addr}{v:V}{T:String}(h:Th H v T)(n:∀b,v=.ref b->b≠p)(k:bS p H H'):Th H' v T:=by
 cases h with
 |non=>exact .non
 |bl b=>exact .bl b
 |int i=>exact .int i
 |str x=>exact .str x
 |lst e=>exact .lst (k _ _ e (n _ rfl))
 |tup e=>exact .tup (k _ _ e (n _ rfl))
 |dK e=>exact .dK (k _ _ e (n _ rfl))
theorem aKn{K:PySem.W.Frag}{H:Hp}{v:V}{T:String}(h:Th H v T):IsI K H v (.ty "int") (T == "int" || T == "bool"):=by
 refine⟨_,h.ty,.inl ⟨_,rfl,?_⟩⟩
 cases h <;> rfl
theorem aEJ{K:PySem.W.Frag}{H:Hp}{v:V}{T:String}(h:Th H v T):IsI K H v (.ty "bool") (T == "bool"):=by
 refine⟨_,h.ty,.inl ⟨_,rfl,?_⟩⟩
 cases h <;> rfl
def amt:V->Bool
 |.int i=>decide (0<=i) && decide (i<=10 ^ 12)
 |_=>false
structure bB(H:Hp)(p:Addr):Prop where
 ex:∃(d c:Int) (q:Addr) (ms:List Int),H p=some (.lst [.int d,.int c,.ref q])/\H q=some (.lst (ms.map V.int))/\ms≠[]/\q≠p
def fF(p:Addr)(H H':Hp):Prop:=∀(d c:Int) (q:Addr),H p=some (.lst [.int d,.int c,.ref q])->∃d' c':Int,H' p=some (.lst [.int d',.int c',.ref q])
theorem fF.trans{p:Addr}{H H1 H2:Hp}(a:fF p H H1)(b:fF p H1 H2):fF p H H2:=fun d c q e=>by
 obtain⟨d',c',e'⟩:=a d c q e
 exact b d' c' q e'
theorem fF.of{p:Addr}{H H':Hp}(s:∀o,H p=some o->H' p=some o):fF p H H':=fun d c q e=>⟨d,c,s _ e⟩
theorem bB.of{p:Addr}{H H':Hp}(h:bB H p)(k:bS p H H')(s:fF p H H'):bB H' p:=by
 obtain⟨d,c,q,ms,hp,hq,hne,hqp⟩:=h.ex
 obtain⟨d',c',e⟩:=s d c q hp
 exact⟨⟨d',c',q,ms,e,k _ _ hq hqp,hne,hqp⟩⟩
theorem bB.same{H H':Hp}{p:Addr}(h:bB H p)(s:aI H H'):bB H' p:=by
 obtain⟨d,c,q,ms,hp,hq,hne,hqp⟩:=h.ex
 exact⟨⟨d,c,q,ms,s _ _ hp,s _ _ hq,hne,hqp⟩⟩
theorem aJc{K:PySem.W.Frag}{H:Hp}{v:V}{T:String}(h:Th H v T):IsI K H v (.ty "list") (T == "list"):=by
 refine⟨_,h.ty,.inl ⟨_,rfl,?_⟩⟩
 cases h <;> rfl
theorem aHy{K:PySem.W.Frag}{H:Hp}{v:V}{T:String}(h:Th H v T):IsI K H v (.ty "tuple") (T == "tuple"):=by
 refine⟨_,h.ty,.inl ⟨_,rfl,?_⟩⟩
 cases h <;> rfl
theorem aJd{ms:List Int}{c:Int}(h:ms≠[]):∃m,m∈ms/\uH (ms.map V.int) (c % ((ms.map V.int).length:Int))=some (.int m):=by
 have hl:0 < ms.length:=List.length_pos_iff.mpr h
 have e1:=Int.emod_nonneg c (b:=((ms.map V.int).length:Int)) (by rw[List.length_map];omega)
 have e2:=Int.emod_lt_of_pos c (b:=((ms.map V.int).length:Int)) (by rw[List.length_map];omega)
 obtain⟨j,hj⟩ : ∃j:Nat,c % ((ms.map V.int).length:Int)=(j:Int):=⟨_,(Int.toNat_of_nonneg e1).symm⟩
 rw[hj] at e2 ⊢
 rw[List.length_map] at e2
 have hjl:j < ms.length:=by omega
 exact⟨ms[j],List.getElem_mem hjl,dM (by rw[List.getElem?_map,List.getElem?_eq_getElem hjl];rfl)⟩
theorem aGH(ms:List Int)(lo hi:Option Int):∃r:List Int,mK (ms.map V.int) lo hi=r.map V.int/\r.length=(mK (ms.map V.int) lo hi).length:=by
 unfold mK
 rw[<-List.map_drop,<-List.map_take]
 exact⟨_,rfl,by simp⟩
theorem rot{ms:List Int}{i:Int}(h0:0<=i)(h1:i < ms.length):∃ms':List Int,mK (ms.map V.int) (some i) none++mK (ms.map V.int) none (some i)=ms'.map V.int/\ms'≠[]/\ms'.length<=ms.length+ms.length:=by
 obtain⟨r1,e1,l1⟩:=aGH ms (some i) none
 obtain⟨r2,e2,l2⟩:=aGH ms none (some i)
 have b1:=d7 (ms.map V.int) (some i) none
 have b2:=d7 (ms.map V.int) none (some i)
 rw[List.length_map] at b1 b2
 refine⟨r1++r2,by rw[e1,e2,List.map_append],fun z=>?_,by rw[List.length_append];omega⟩
 have z1:r1=[]:=(List.append_eq_nil_iff.mp z).1
 obtain⟨j,rfl⟩:=Int.eq_ofNat_of_zero_le h0
 have hj:j < ms.length:=by omega
 rw[z1,List.length_nil] at l1
 have l3:(mK (ms.map V.int) (some (j:Int)) none).length=ms.length - j:=by
  unfold mK
  rw[HT.aGj,HT.aAy,List.length_take,List.length_drop,List.length_map,Nat.min_eq_left (Nat.le_of_lt hj)]
  omega
 rw[l3] at l1
 omega
def aDt(K:W.Frag):Sp:=fun vs H Q _=>∃(a:Addr) (ns:List Int) (i:Int),vs=[.ref a,.int i]/\bG K H a (ns.map V.int)/\ns.length<=63/\0<=i/\
 ∀p H',aI H H'->H p=none->bB H' p->Q (.ref p) H'
theorem aDu{P:Program}{w:World}{K:PySem.W.Frag}{mg:Str->Option Value}{base:Heap}{a:kW}(tx:Txt K mg a):bO P w K mg base iB 1 a.nE a.nF ["_law_script","_law_place"] (aDt K):=by
 refine tx.oA.ok fW (fun vs H Q E h=>?_) (fun cdv A outer s H vs Q E hr h=>?_)
 ·obtain⟨a,ns,i,rfl,_⟩:=h
  rfl
 ·obtain⟨a,ns,i,rfl ,hS,hl,h0,k⟩:=h
  have hu:=kZ hr
  refine Z.root (Z.aD (Z.tQ (k:=1) (idx:=[]) (N:=["_law_cell"]) (i:=2) fW.nd rfl (Or.inl rfl) (cF (sc:=aB fJ) (NX:=["_law_script","_law_place","_law_cells","_law_at","_law_digits"]) rfl rfl rfl (by decide +kernel)) rfl (Z.bQ (K':=K) (Z.oS (rs:=aHa K) aJN (Z.pv 0) Z.pL (Z.m8 Z.aA))) (fun _ _ _ _=>(Z.aM (i:=0) (show(["_law_cell"]:List Str).Nodup by decide +kernel) rfl (Or.inl rfl))) (dF (by decide)) (fun _ _ _ _=>Z.cG) (fun _ _ _ _=>(Z.aN aHc (by rfl) tx.aCI aLp (Z.aE (Z.pv 0) Z.aC))))
   (Z.aD (Z.cK (Z.bH (r:=rD K) (gH hu) (Z.pv 2) (Z.gG Z.aC) (bJ _)) (Z.aG (Z.aS (i:=2) fW.nd rfl (Or.inl rfl) (Z.aBF Z.aA))) Z.bF)
   (Z.aD (Z.aS (i:=3) fW.nd rfl (Or.inl rfl) (Z.aT iD (Z.pv 1) (Z.aN (rc:=oV K) bY (by rfl) tx.fP eZ (Z.aE (Z.pv 2) Z.aC))))
   (Z.aD (Z.aS (i:=4) fW.nd rfl (Or.inl rfl) Z.aA)
   (Z.aD (Z.cK (Z.aAM (Z.aAq (Z.bH aKx (Z.aL (K':=K) (Z.pv 2) (Z.pv 3) (fun _ _=>rfl)) (Z.aT uU Z.aA Z.aA) (bJ _)) (Z.vQ (Z.bH aMn (Z.pv 1) (Z.aN (rc:=oV K) bY (by rfl) tx.fP eZ (Z.aE (Z.pv 2) Z.aC)) (bJ _))))) (Z.aG (Z.aS (i:=4) fW.nd rfl (Or.inl rfl) (Z.aL (K':=K) (Z.pv 2) (Z.pv 3) (fun _ _=>rfl)))) Z.bF)
   (Z.aG (Z.aV (Z.aJ7 (Z.pv 4) (Z.aT bK Z.aA (Z.aT bV Z.aA (Z.pv 1))) (Z.aT bK (Z.oS (rs:=aHa K) aJN (Z.pv 2) (Z.m8 (Z.pv 3)) Z.pL) (Z.oS (rs:=aHa K) aJN (Z.pv 2) Z.pL (Z.m8 (Z.pv 3)))))))))))) ?_
  refine aR (σ:=[some (.ref a),some (.int i),none,none,none]) rfl ?_
  refine aLu ?_
  walk_at "w"
  refine xX hS ?_
  intro p1 n1
  walk_at "w"
  rw[show mK (ns.map V.int) none (some 63)=ns.map V.int from aIA (n:=63) (by rw[List.length_map];exact hl)]
  refine fH (bG.of aH) ?_
  refine aCv (fun v=>match v with|.int i=>.int (if i < 0 then -i else i)|v=>v) (bG.of aH) (bX (by rw[List.length_map];omega)) (fun x N N' hx hN=>?_) ?_
  ·obtain⟨y,hy,rfl⟩:=List.mem_map.mp hx
   walk_at "w"
   exact hN
  ·intro p2 n2
   repeat walk_at "st"
   have s2:aI H (upd (upd H p1 (.lst (ns.map V.int))) p2 (.lst ((ns.map V.int).map fun v=>match v with|.int i=>.int (if i < 0 then -i else i)|v=>v))):=(aI.new n1).trans (aI.new n2)
   rw[List.map_map] at s2 ⊢
   generalize hm:ns.map ((fun v=>match v with|V.int i=>V.int (if i < 0 then -i else i)|v=>v) ∘ V.int)=xs at s2 ⊢
   obtain⟨ms,rfl⟩ : ∃ms:List Int,xs=ms.map V.int:=⟨ns.map fun i=>if i < 0 then -i else i,by rw[<-hm,List.map_map];rfl⟩
   have lm:ms.length<=63:=by
    have:=congrArg List.length hm
    simp only[List.length_map] at this
    omega
   refine aAd (fun σ' H'=>∃(c:Addr) (ms:List Int),σ'=[some (.ref a),some (.int i),some (.ref c),none,none]/\aI H H'/\H' c=some (.lst (ms.map V.int))/\ms≠[]/\ms.length<=63) (fun N hN=>?_) ?_
   ·walk_at "w"
    intro p3 n3
    walk_at "w"
    refine⟨_,aJ6 (bG.of (by walk_at "hp")) (bG.of aH),?_⟩
    walk_at "w"
    refine tT (fun h=>?_) (fun h=>?_)
    ·walk_at "w"
     intro p4 n4
     walk_at "w"
     exact hN _ _ ⟨p4,[0],rfl,(s2.trans (aI.new n3)).trans (aI.new n4),aH,by simp,by simp⟩
    ·walk_at "w"
     refine hN _ _ ⟨p2,ms,rfl,s2.trans (aI.new n3),by walk_at "hp",?_,lm⟩
     rintro rfl
     simp at h
   ·rintro σ' H' ⟨c,ms,rfl,sH,hc,hne,lm⟩
    have hl:0 < ms.length:=List.length_pos_iff.mpr hne
    obtain⟨m,_,hm⟩:=aJd (c:=i) hne
    have e1:=Int.emod_nonneg i (b:=((ms.map V.int).length:Int)) (by rw[List.length_map];omega)
    have e2:=Int.emod_lt_of_pos i (b:=((ms.map V.int).length:Int)) (by rw[List.length_map];omega)
    obtain⟨ms',em,en,el⟩:=rot (ms:=ms) e1 (by rw[List.length_map] at e2 ⊢;exact e2)
    walk_at "w"
    refine cY (fun h=>?_) (fun h=>?_)
    ·walk_at "w"
     refine cY (fun h=>?_) (fun h=>?_)
     all_goals
      walk_at "w"
      refine xX (bG.of hc) ?_
      intro p5 n5
      walk_at "w"
      refine xX (bG.of (by walk_at "hp")) ?_
      intro p6 n6
      walk_at "w"
      refine vY (by walk_at "hp") (by walk_at "hp") (bX (by have:=d7 (ms.map V.int) (some (i % ((ms.map V.int).length:Int))) none;have:=d7 (ms.map V.int) none (some (i % ((ms.map V.int).length:Int)));simp only[List.length_map] at *;omega)) ?_
      intro p7 n7
      walk_at "w"
      rw[em]
      walk_at "w"
      intro p8 n8
      walk_at "w"
      have s8:=((aI.new (o:=.lst (mK (ms.map V.int) (some (i % ((ms.map V.int).length:Int))) none)) n5).trans (aI.new (o:=.lst (mK (ms.map V.int) none (some (i % ((ms.map V.int).length:Int))))) n6)).trans (aI.new (o:=.lst (ms'.map V.int)) n7)
      refine k _ _ (sH.trans (s8.trans (aI.new n8))) ((sH.trans s8).free n8) ⟨⟨_,_,_,ms',aH,by walk_at "hp",en,?_⟩⟩
      exact bE n8 aH
    ·walk_at "w"
     refine xX (bG.of hc) ?_
     intro p5 n5
     walk_at "w"
     refine xX (bG.of (by walk_at "hp")) ?_
     intro p6 n6
     walk_at "w"
     refine vY (by walk_at "hp") (by walk_at "hp") (bX (by have:=d7 (ms.map V.int) (some (i % ((ms.map V.int).length:Int))) none;have:=d7 (ms.map V.int) none (some (i % ((ms.map V.int).length:Int)));simp only[List.length_map] at *;omega)) ?_
     intro p7 n7
     walk_at "w"
     rw[em]
     walk_at "w"
     intro p8 n8
     walk_at "w"
     have s8:=((aI.new (o:=.lst (mK (ms.map V.int) (some (i % ((ms.map V.int).length:Int))) none)) n5).trans (aI.new (o:=.lst (mK (ms.map V.int) none (some (i % ((ms.map V.int).length:Int))))) n6)).trans (aI.new (o:=.lst (ms'.map V.int)) n7)
     refine k _ _ (sH.trans (s8.trans (aI.new n8))) ((sH.trans s8).free n8) ⟨⟨_,_,_,ms',aH,by walk_at "hp",en,?_⟩⟩
     exact bE n8 aH
def aDv(K:W.Frag):Sp:=fun vs H Q _=>∃(p:Addr) (n:Int),vs=[.ref p,.int n]/\bB H p/\0 < n/\n < 1073741824/\
 ∀(r:Int) H',0<=r->r < n->bB H' p->bS p H H'->fF p H H'->Q (.int r) H'
theorem cU{P:Program}{w:World}{K:PySem.W.Frag}{mg:Str->Option Value}{base:Heap}{a:kW}(tx:Txt K mg a):bO P w K mg base iB 1 a.nG a.nH ["_law_hand","_law_many"] (aDv K):=by
 refine tx.aO.ok fX (fun vs H Q E h=>?_) (fun cdv A outer s H vs Q E hr h=>?_)
 ·obtain⟨p,n,rfl,_⟩:=h
  rfl
 ·obtain⟨p,n,rfl ,hh,h0,h1,k⟩:=h
  have hu:=kZ hr
  refine Z.root (Z.aD (Z.cK (Z.bH aEd (Z.aL (K':=K) (Z.pv 0) Z.aA (fun _ _=>rfl)) Z.aA (bJ _)) (Z.aD (Z.aS (i:=2) fX.nd rfl (Or.inl rfl) (Z.aT iD (Z.aL (K':=K) (Z.pv 0) Z.aA (fun _ _=>rfl)) (Z.pv 1)))
   (Z.aD (Z.aCW (Z.aT aGh (Z.aL (K':=K) (Z.pv 0) Z.aA (fun _ _=>rfl)) (Z.pv 1)) (Z.aCV (Z.pv 0) Z.aA set_list))
   (Z.aG (Z.aV (Z.pv 2))))) Z.bF)
   (Z.aD (Z.aCX (Z.pv 0) Z.aA aLt Z.aA aCY set_list)
   (Z.aD (Z.aS (i:=3) fX.nd rfl (Or.inl rfl) (Z.aT iD (Z.aL (K':=K) (Z.aL (K':=K) (Z.pv 0) Z.aA (fun _ _=>rfl)) (Z.aT iD (Z.aL (K':=K) (Z.pv 0) Z.aA (fun _ _=>rfl)) (Z.aN (rc:=oV K) bY (by rfl) tx.fP eZ (Z.aE (Z.aL (K':=K) (Z.pv 0) Z.aA (fun _ _=>rfl)) Z.aC))) (fun _ _=>rfl)) Z.aA))
   (Z.aD (Z.aS (i:=4) fX.nd rfl (Or.inl rfl) (Z.aT iD (Z.aT bK (Z.aT bK (Z.aT bV (Z.pv 3) Z.aA) (Z.aT bV (Z.aL (K':=K) (Z.pv 0) Z.aA (fun _ _=>rfl)) Z.aA)) Z.aA) Z.aA))
   (Z.aD (Z.aS (i:=4) fX.nd rfl (Or.inl rfl) (Z.aT iD (Z.aT bK (Z.aT bV (Z.pv 4) (Z.pv 4)) (Z.aL (K':=K) (Z.pv 0) Z.aA (fun _ _=>rfl))) Z.aA))
   (Z.aD (Z.aS (i:=4) fX.nd rfl (Or.inl rfl) (Z.aT iD (Z.aT bK (Z.aT bV (Z.pv 4) Z.aA) Z.aA) Z.aA))
   (Z.aG (Z.aV (Z.aT iD (Z.aT aGh (Z.aT iD (Z.aT bV (Z.pv 4) (Z.pv 4)) Z.aA) Z.aA) (Z.pv 1)))))))))) ?_
  obtain⟨d,c,q,ms,hp,hq,hne,hqp⟩:=hh.ex
  refine aR (σ:=[some (.ref p),some (.int n),none,none,none]) rfl ?_
  walk_at "w"
  refine cY (fun hd=>?_) (fun hd=>?_)
  ·walk_at "w"
   refine aC6 hp rfl ?_
   walk_at "w"
   refine k _ _ (Int.emod_nonneg _ (by omega)) (Int.emod_lt_of_pos _ h0) ⟨⟨_,c,q,ms,aH,by walk_at "hp",hne,hqp⟩⟩ bS.upd (fun d0 c0 q0 e0=>by rw[hp] at e0;cases e0;exact⟨_,_,aH⟩)
  ·walk_at "w"
   refine aLz (bG.of hp) (by decide) rfl ?_
   walk_at "w"
   refine aC6 hp rfl ?_
   obtain⟨m,_,hm⟩:=aJd (c:=c+1) hne
   have hlen:0 < ((ms.map V.int).length:Int):=by rw[List.length_map];have:=List.length_pos_iff.mpr hne;omega
   walk_at "w"
   have hq':(upd H p (.lst [.int d,.int (c+1),.ref q])) q=some (.lst (ms.map V.int)):=by walk_at "hp"
   walk_at "w"
   exact k _ _ (Int.emod_nonneg _ (by omega)) (Int.emod_lt_of_pos _ h0) ⟨⟨d,c+1,q,ms,aH,hq',hne,hqp⟩⟩ bS.upd (fun d0 c0 q0 e0=>by rw[hp] at e0;cases e0;exact⟨_,_,aH⟩)
def aEK(K:W.Frag):Sp:=fun vs H Q _=>∃(p:Addr) (b:Int),vs=[.ref p,.int b]/\bB H p/\0 < b/\
 ∀(r:Int) H',0<=r->r < b->bB H' p->bS p H H'->fF p H H'->Q (.int r) H'
theorem aEL{P:Program}{w:World}{K:PySem.W.Frag}{mg:Str->Option Value}{base:Heap}{a:kW}(tx:Txt K mg a):bO P w K mg base iB 2 a.pS a.pT ["_law_hand","_law_bound"] (aEK K):=by
 have aK:=cU (P:=P) (w:=w) (base:=base) tx
 refine tx.u9.ok nC (fun vs H Q E h=>?_) (fun cdv A outer s H vs Q E hr h=>?_)
 ·obtain⟨p,b,rfl,_⟩:=h
  rfl
 ·obtain⟨p,b,rfl ,hh,h0,k⟩:=h
  have hu:=kZ hr
  refine Z.root (Z.aD (Z.aS (i:=2) nC.nd rfl (Or.inl rfl) Z.aA)
   (Z.aD (Z.cS PassesOwn.never rfl (Z.cZ (by rfl) tx.dO (Z.aE Z.aA Z.aC)) (Z.aM (i:=3) nC.nd rfl (Or.inl rfl)) (Z.aG (Z.aS (i:=2) nC.nd rfl (Or.inl rfl) (Z.aT bK (Z.aT bV (Z.pv 2) Z.aA) (Z.aF (aK) (hr.mono (by decide)) (by rfl) tx.aQ tx.aO.kp tx.aP .nil aU (Z.aE (Z.pv 0) (Z.aE Z.aA Z.aC)))))))
   (Z.aG (Z.aV (Z.aT iD (Z.pv 2) (Z.pv 1)))))) ?_
  refine aR (σ:=[some (.ref p),some (.int b),none,none]) rfl ?_
  walk_at "w"
  refine⟨by decide,by decide,?_⟩
  refine kH (n:=11) (fun i σ' H'=>∃(t:Int) (x:Option V),σ'=[some (.ref p),some (.int b),some (.int t),x]/\bB H' p/\bS p H H'/\fF p H H') ⟨0,none,rfl,hh,fun _ _ e _=>e,fF.of fun _ e=>e⟩ (fun i σ' H' hi ⟨t,x,e,h',kp,sq⟩=>?_) (fun σ' H' ⟨t,x,e,h',kp,sq⟩=>?_)
  ·subst e
   walk_at "w"
   refine⟨p,_,rfl,h',by decide,by decide,fun r H2 r0 r1 h2 k2 q2=>?_⟩
   walk_at "w"
   exact⟨_,_,rfl,h2,kp.trans k2,sq.trans q2⟩
  ·subst e
   walk_at "w"
   exact k _ _ (Int.emod_nonneg _ (by omega)) (Int.emod_lt_of_pos _ h0) h' kp sq
def aBg(K:W.Frag):Sp:=fun vs H Q _=>∃(p:Addr),vs=[.ref p]/\bB H p/\∀(r:Int) H',1<=r->r<=50000000000->bB H' p->bS p H H'->fF p H H'->Q (.int r) H'
theorem aBh{P:Program}{w:World}{K:PySem.W.Frag}{mg:Str->Option Value}{base:Heap}{a:kW}(tx:Txt K mg a):bO P w K mg base iB 3 a.jN a.jO ["_law_hand"] (aBg K):=by
 have aK:=cU (P:=P) (w:=w) (base:=base) tx
 have aFU:=aEL (P:=P) (w:=w) (base:=base) tx
 refine tx.jZ.ok aA3 (fun vs H Q E h=>?_) (fun cdv A outer s H vs Q E hr h=>?_)
 ·obtain⟨p,rfl,_⟩:=h
  rfl
 ·obtain⟨p,rfl ,hh,k⟩:=h
  have hu:=kZ hr
  refine Z.root (Z.aD (Z.cK (Z.bH aEd (Z.aF (aK) (hr.mono (by decide)) (by rfl) tx.aQ tx.aO.kp tx.aP .nil aU (Z.aE (Z.pv 0) (Z.aE Z.aA Z.aC))) Z.aA (bJ _)) (Z.aG (Z.aV Z.aA)) Z.bF)
   (Z.aG (Z.aV (Z.aT bK Z.aA (Z.aF (aFU) (hr.mono (by decide)) (by rfl) tx.aA7 tx.u9.kp tx.aA6 .nil aU (Z.aE (Z.pv 0) (Z.aE (Z.aT bV Z.aA (Z.aT uU Z.aA Z.aA)) Z.aC))))))) ?_
  refine aR (σ:=[some (.ref p)]) rfl ?_
  walk_at "w"
  refine⟨p,_,rfl,hh,by decide,by decide,fun r1 H1 a1 b1 h1 k1 q1=>?_⟩
  walk_at "w"
  refine cY (fun h=>?_) (fun h=>?_)
  ·walk_at "w"
   exact k _ _ (by decide) (by decide) h1 k1 q1
  ·walk_at "w"
   refine⟨p,_,rfl,h1,by decide,fun r2 H2 a2 b2 h2 k2 q2=>?_⟩
   have b3:r2 < 50000000000:=b2
   walk_at "w"
   exact k _ _ (by omega) (by omega) h2 (k1.trans k2) (q1.trans q2)
structure MS where
 up:Int
 down:Int
 begin_:Int
 run:Int
 rest:Int
 least:Int
 pieces:List (Int×Int)
def Am(i:Int):Prop:=0<=i/\i<=1000000000000
structure aJe(ps:List (Int×Int)):Prop where
 len:ps.length<=4
 pc:∀t∈ps,1<=t.1/\Am t.1/\Am t.2
 up:∀(j:Nat) t u,ps[j]?=some t->ps[j+1]?=some u->t.2<=u.2
structure MS.Good(m:MS):Prop where
 up:1<=m.up/\m.up<=12
 down:1<=m.down/\m.down<=12
 begin_:Am m.begin_
 run:Am m.run
 rest:Am m.rest
 least:Am m.least
 pieces:aJe m.pieces
structure tH(H:Hp)(qs:List Addr)(ps:List (Int×Int)):Prop where
 len:qs.length=ps.length
 at_:∀(j:Nat) q t,qs[j]?=some q->ps[j]?=some t->H q=some (.tup [.int t.1,.int t.2])
structure yF(H:Hp)(p:Addr)(ps:List (Int×Int)):Prop where
 ex:∃qs,H p=some (.lst (qs.map V.ref))/\tH H qs ps
structure fB(H:Hp)(s:Addr)(m:MS):Prop where
 ex:∃pl,H s=some (.lst [.int m.up,.int m.down,.int m.begin_,.int m.run,.int m.rest,.int m.least,.ref pl])/\yF H pl m.pieces
def mFs(m:MS)(pl:Addr):List (Str×V):=[("up",.int m.up),("down",.int m.down),("begin",.int m.begin_),("run",.int m.run),("rest",.int m.rest),("least",.int m.least),("pieces",.ref pl)]
structure bW(C:Addr)(H:Hp)(a:Addr)(m:MS):Prop where
 ex:∃dx pl,H a=some (.ins C dx (mFs m pl))/\yF H pl m.pieces
theorem tH.at2{H:Hp}{qs:List Addr}{ps:List (Int×Int)}(h:tH H qs ps){q:Addr}(hq:q∈qs):∃t∈ps,H q=some (.tup [.int t.1,.int t.2]):=by
 obtain⟨j,hj,rfl⟩:=List.getElem_of_mem hq
 have hj2:j < ps.length:=by rw[<-h.len];exact hj
 exact⟨ps[j],List.getElem_mem hj2,h.at_ j _ _ (List.getElem?_eq_getElem hj) (List.getElem?_eq_getElem hj2)⟩
theorem tH.same{H H':Hp}{qs:List Addr}{ps:List (Int×Int)}(h:tH H qs ps)(s:aI H H'):tH H' qs ps:=⟨h.len,fun j q t h1 h2=>s _ _ (h.at_ j q t h1 h2)⟩
theorem yF.same{H H':Hp}{p:Addr}{ps:List (Int×Int)}(h:yF H p ps)(s:aI H H'):yF H' p ps:=by
 obtain⟨qs,h1,h2⟩:=h.ex
 exact⟨qs,s _ _ h1,h2.same s⟩
theorem fB.same{H H':Hp}{p:Addr}{m:MS}(h:fB H p m)(s:aI H H'):fB H' p m:=by
 obtain⟨pl,h1,h2⟩:=h.ex
 exact⟨pl,s _ _ h1,h2.same s⟩
theorem bW.same{C:Addr}{H H':Hp}{p:Addr}{m:MS}(h:bW C H p m)(s:aI H H'):bW C H' p m:=by
 obtain⟨dx,pl,h1,h2⟩:=h.ex
 exact⟨dx,pl,s _ _ h1,h2.same s⟩
theorem tH.keep{H H':Hp}{qs:List Addr}{ps:List (Int×Int)}{p:Addr}(h:tH H qs ps)(hp:∀xs,H p≠some (.tup xs))(s:bS p H H'):tH H' qs ps:=
 ⟨h.len,fun j q t h1 h2=>by
  have e:=h.at_ j q t h1 h2
  exact s _ _ e (fun z=>hp _ (z▸e))⟩
theorem bB.mI{H:Hp}{p:Addr}(h:bB H p)(xs:List V):H p≠some (.tup xs):=fun z=>by
 obtain⟨d,c,q,ms,hp,_⟩:=h.ex
 rw[hp] at z
 cases z
theorem yF.keep{H H':Hp}{a p:Addr}{ps:List (Int×Int)}(h:yF H a ps)(hh:bB H p)(s:bS p H H'):yF H' a ps:=by
 obtain⟨qs,h1,h2⟩:=h.ex
 obtain⟨d,c,q,ms,hp,_⟩:=id hh.ex
 refine⟨qs,s _ _ h1 (fun z=>?_),h2.keep hh.mI s⟩
 rw[z,hp] at h1
 cases qs with
 |nil=>cases h1
 |cons x xs=>cases h1
theorem fB.keep{H H':Hp}{a p:Addr}{m:MS}(h:fB H a m)(hh:bB H p)(s:bS p H H'):fB H' a m:=by
 obtain⟨pl,h1,h2⟩:=h.ex
 obtain⟨d,c,q,ms,hp,_⟩:=id hh.ex
 refine⟨pl,s _ _ h1 (fun z=>?_),h2.keep hh s⟩
 rw[z,hp] at h1
 cases h1
theorem bW.keep{C:Addr}{H H':Hp}{a p:Addr}{m:MS}(h:bW C H a m)(hh:bB H p)(s:bS p H H'):bW C H' a m:=by
 obtain⟨dx,pl,h1,h2⟩:=h.ex
 obtain⟨d,c,q,ms,hp,_⟩:=id hh.ex
 refine⟨dx,pl,s _ _ h1 (fun z=>?_),h2.keep hh s⟩
 rw[z,hp] at h1
 cases h1
theorem yG{i:Int}(h:Am i):amt (.int i)=true:=by
 obtain⟨h1,h2⟩:=h
 have h3:i<=10 ^ 12:=h2
 show(decide (0<=i) && decide (i<=10 ^ 12))=true
 rw[decide_eq_true h1,decide_eq_true h3]
 rfl
def aEM(K:PySem.W.Frag):Sp:=fun vs H Q _=>∃v T,vs=[v]/\Th H v T/\Q (.bl (T == "int")) H
theorem zA{P:Program}{w:World}{K:PySem.W.Frag}{mg:Str->Option Value}{base:Heap}{a:kW}(tx:Txt K mg a):bO P w K mg base iB 1 a.pU a.pV ["thing"] (aEM K):=by
 refine tx.qF.ok aEF (fun vs H Q E h=>?_) (fun cdv A outer s H vs Q E hr h=>?_)
 ·obtain⟨v,T,rfl,_⟩:=h
  rfl
 ·obtain⟨v,T,rfl ,ht,k⟩:=h
  have hu:=kZ hr
  refine Z.root (Z.aG (Z.aV (Z.rF (Z.aN (rc:=aFx K) oW (by rfl) tx.cI gK (Z.aE (Z.pv 0) (Z.aE (Z.pG (v:=.ty "int") (by rfl) tx.aCK aLo rfl) Z.aC))) (Z.pH (Z.aCT (Z.aN (rc:=aFx K) oW (by rfl) tx.cI gK (Z.aE (Z.pv 0) (Z.aE (Z.pG (v:=.ty "bool") (by rfl) tx.vI aGn rfl) Z.aC)))))))) ?_
  refine aR (σ:=[some v]) rfl ?_
  walk_at "w"
  refine aAK (aKn ht) ?_
  walk_at "w"
  refine tT (fun h=>?_) (fun h=>?_)
  ·walk_at "w"
   refine aAK (aEJ ht) ?_
   walk_at "w"
   have e:(!(T == "bool"))=(T == "int"):=by cases ht <;> first|rfl|cases h
   rw[e]
   exact k
  ·have e:(T == "int")=false:=by cases ht <;> first|rfl|cases h
   rw[e] at k
   exact k
def aDw(K:W.Frag):Sp:=fun vs H Q _=>∃v T,vs=[v]/\Th H v T/\Q (.bl (amt v)) H
theorem wY{P:Program}{w:World}{K:PySem.W.Frag}{mg:Str->Option Value}{base:Heap}{a:kW}(tx:Txt K mg a):bO P w K mg base iB 2 a.nJ a.nK ["thing"] (aDw K):=by
 have vK:=zA (P:=P) (w:=w) (base:=base) tx
 refine tx.d9.ok aDo (fun vs H Q E h=>?_) (fun cdv A outer s H vs Q E hr h=>?_)
 ·obtain⟨v,T,rfl,_⟩:=h
  rfl
 ·obtain⟨v,T,rfl ,ht,k⟩:=h
  have hu:=kZ hr
  refine Z.root (Z.aG (Z.aV (Z.rF (Z.aF (vK) (hr.mono (by decide)) (by rfl) tx.vB tx.qF.kp tx.vA .nil aU (Z.aE (Z.pv 0) Z.aC)) (Z.pH (Z.vS aAu aAu Z.aA (Z.pv 0) (Z.aT uU Z.aA Z.aA)))))) ?_
  refine aR (σ:=[some v]) rfl ?_
  walk_at "w"
  refine⟨v,T,rfl,ht,?_⟩
  walk_at "w"
  refine tT (fun h=>?_) (fun h=>?_)
  ·cases ht with
   |int i=>
    walk_at "w"
    refine cY (fun h1=>?_) (fun h1=>?_)
    ·walk_at "w"
     have e:amt (.int i)=decide (i<=10 ^ (12:Int).toNat):=by simp[amt,h1]
     rw[<-e]
     exact k
    ·have e:amt (.int i)=false:=by simp[amt,h1]
     rw[e] at k
     exact k
   |_=>cases h
  ·have e:amt v=false:=by cases ht <;> first|rfl|cases h
   rw[e] at k
   exact k
def aFV(K:W.Frag):Sp:=fun vs H Q _=>∃(i:Int),vs=[.int i]/\1<=i/\i<=12/\Q (.bl true) H
theorem aFW{P:Program}{w:World}{K:PySem.W.Frag}{mg:Str->Option Value}{base:Heap}{a:kW}(tx:Txt K mg a):bO P w K mg base iB 2 a.tW a.tX ["thing"] (aFV K):=by
 have vK:=zA (P:=P) (w:=w) (base:=base) tx
 refine tx.tY.ok aFT (fun vs H Q E h=>?_) (fun cdv A outer s H vs Q E hr h=>?_)
 ·obtain⟨i,rfl,_⟩:=h
  rfl
 ·obtain⟨i,rfl ,h1,h2,k⟩:=h
  have hu:=kZ hr
  refine Z.root (Z.aG (Z.aV (Z.rF (Z.aF (vK) (hr.mono (by decide)) (by rfl) tx.vB tx.qF.kp tx.vA .nil aU (Z.aE (Z.pv 0) Z.aC)) (Z.pH (Z.vS aAu aAu Z.aA (Z.pv 0) (Z.aAe (n:=12) (by rfl) tx.dC)))))) ?_
  refine aR (σ:=[some (.int i)]) rfl ?_
  walk_at "w"
  refine⟨_,_,rfl,.int i,?_⟩
  walk_at "w"
  refine tT (fun _=>?_) (fun h=>by simp at h)
  walk_at "w"
  refine cY (fun _=>?_) (fun h=>absurd h1 h)
  walk_at "w"
  rw[decide_eq_true h2]
  exact k
def aEN(K:W.Frag):Sp:=fun vs H Q _=>∃(q:Addr) (x y:Int),vs=[.ref q]/\H q=some (.tup [.int x,.int y])/\1<=x/\Am x/\Am y/\Q (.bl true) H
theorem aEO{P:Program}{w:World}{K:PySem.W.Frag}{mg:Str->Option Value}{base:Heap}{a:kW}(tx:Txt K mg a):bO P w K mg base iB 3 a.pW a.pX ["thing"] (aEN K):=by
 have fQ:=wY (P:=P) (w:=w) (base:=base) tx
 refine tx.vC.ok aEG (fun vs H Q E h=>?_) (fun cdv A outer s H vs Q E hr h=>?_)
 ·obtain⟨q,x,y,rfl,_⟩:=h
  rfl
 ·obtain⟨q,x,y,rfl ,hq,h1,h2,h3,k⟩:=h
  have hu:=kZ hr
  refine Z.root (Z.aD (Z.cK (Z.aAM (Z.aCl (Z.oJ (Z.i0 (Z.aN (rc:=aFx K) oW (by rfl) tx.cI gK (Z.aE (Z.pv 0) (Z.aE (Z.pG (v:=.ty "tuple") (by rfl) tx.tZ aIp rfl) Z.aC))))) (Z.xM (Z.bH (r:=aAJ K) (xW hu) (Z.aN (rc:=oV K) bY (by rfl) tx.fP eZ (Z.aE (Z.pv 0) Z.aC)) Z.aA (bJ _))))) (Z.aG (Z.aV Z.mJ)) Z.bF)
   (Z.aG (Z.aV (Z.rF (Z.aF (fQ) (hr.mono (by decide)) (by rfl) tx.fO tx.d9.kp tx.fN .nil aU (Z.aE (Z.aL (K':=K) (Z.pv 0) Z.aA (fun _ _=>rfl)) Z.aC)) (Z.rF (Z.jL aKx (Z.aL (K':=K) (Z.pv 0) Z.aA (fun _ _=>rfl)) Z.aA (bJ _)) (Z.pH (Z.aF (fQ) (hr.mono (by decide)) (by rfl) tx.fO tx.d9.kp tx.fN .nil aU (Z.aE (Z.aL (K':=K) (Z.pv 0) Z.aA (fun _ _=>rfl)) Z.aC)))))))) ?_
  refine aR (σ:=[some (.ref q)]) rfl ?_
  walk_at "w"
  refine aAK (aHy (.tup hq)) ?_
  walk_at "w"
  refine tT (fun h=>by simp at h) (fun _=>?_)
  walk_at "w"
  refine tS (fun h=>absurd rfl h) (fun _=>?_)
  walk_at "w"
  refine⟨_,_,rfl,.int x,?_⟩
  rw[yG h2]
  walk_at "w"
  refine cY (fun _=>?_) (fun h=>absurd h1 h)
  walk_at "w"
  refine⟨_,_,rfl,.int y,?_⟩
  rw[yG h3]
  exact k
def aBR(K:W.Frag):Sp:=fun vs H Q _=>∃(p:Addr) (ps:List (Int×Int)),vs=[.ref p]/\yF H p ps/\aJe ps/\∀H',aI H H'->Q (.bl true) H'
theorem aBS{P:Program}{w:World}{K:PySem.W.Frag}{mg:Str->Option Value}{base:Heap}{a:kW}(tx:Txt K mg a):bO P w K mg base iB 4 a.lB a.lC ["thing"] (aBR K):=by
 have aFX:=aEO (P:=P) (w:=w) (base:=base) tx
 refine tx.qG.ok aBJ (fun vs H Q E h=>?_) (fun cdv A outer s H vs Q E hr h=>?_)
 ·obtain⟨p,ps,rfl,_⟩:=h
  rfl
 ·obtain⟨p,ps,rfl ,hp,hg,k⟩:=h
  have hu:=kZ hr
  refine Z.root (Z.aD (Z.cK (Z.aAM (Z.aCl (Z.oJ (Z.i0 (Z.aN (rc:=aFx K) oW (by rfl) tx.cI gK (Z.aE (Z.pv 0) (Z.aE (Z.pG (v:=.ty "list") (by rfl) tx.kQ pM rfl) Z.aC))))) (Z.xM (Z.bH aEd (Z.aN (rc:=oV K) bY (by rfl) tx.fP eZ (Z.aE (Z.pv 0) Z.aC)) (Z.aAe (n:=4) (by rfl) tx.eY) (bJ _))))) (Z.aG (Z.aV Z.mJ)) Z.bF)
   (Z.aD (Z.cK (Z.oJ (Z.i0 (Z.aN (rc:=aFA K) (oX rfl) (by rfl) tx.uR aAI (Z.aE (Z.cO (k:=1) (idx:=[]) (N:=["piece"]) (cF (sc:=aB dG) (NX:=["thing"]) rfl rfl rfl (by decide +kernel)) rfl (Z.bQ (K':=K) (Z.pv 0)) (fun _ _ _ _=>(Z.aM (i:=0) (show(["piece"]:List Str).Nodup by decide +kernel) rfl (Or.inl rfl))) (dF (by decide)) (fun _ _ _ _=>Z.cG) (fun _ _ _ _=>(Z.aF (aFX) (hr.mono (by decide)) (by rfl) tx.aA9 tx.vC.kp tx.aA8 .nil aU (Z.aE (Z.pv 0) Z.aC)))) Z.aC)))) (Z.aG (Z.aV Z.mJ)) Z.bF)
   (Z.aG (Z.aV (Z.aN (rc:=aFA K) (oX rfl) (by rfl) tx.uR aAI (Z.aE (Z.cO (k:=1) (idx:=[0]) (N:=["at","thing"]) (cF (sc:=aB dG) (NX:=["thing"]) rfl rfl rfl (by decide +kernel)) rfl (Z.uW (by rfl) tx.dO (Z.aE Z.aA (Z.aE (Z.aN (rc:=oV K) bY (by rfl) tx.fP eZ (Z.aE (Z.pv 0) Z.aC)) Z.aC))) (fun _ _ _ _=>(Z.aM (i:=0) (show(["at","thing"]:List Str).Nodup by decide +kernel) rfl (Or.inl rfl))) (dF (by decide)) (fun _ _ _ _=>Z.cG) (fun _ _ _ _=>(Z.jL aAu (Z.aL (K':=K) (Z.aL (K':=K) (Z.pv 1) (Z.aT gF (Z.pv 0) Z.aA) (fun _ _=>rfl)) Z.aA (fun _ _=>rfl)) (Z.aL (K':=K) (Z.aL (K':=K) (Z.pv 1) (Z.pv 0) (fun _ _=>rfl)) Z.aA (fun _ _=>rfl)) (bJ _)))) Z.aC)))))) ?_
  obtain⟨qs,h1,h2⟩:=hp.ex
  have hl:=hg.len
  have hql:qs.length<=4:=by rw[h2.len];exact hl
  refine aR (σ:=[some (.ref p)]) rfl ?_
  walk_at "w"
  refine aAK (aJc (.lst h1)) ?_
  walk_at "w"
  refine tT (fun h=>by simp at h) (fun _=>?_)
  walk_at "w"
  refine cY (fun h=>by rw[List.length_map] at h;omega) (fun _=>?_)
  walk_at "w"
  refine fH (bG.of h1) ?_
  refine aCv (fun _=>.bl true) (bG.of h1) (bX (by rw[List.length_map];omega)) (fun x N N' hxm hN=>?_) ?_
  ·obtain⟨q,hq,rfl⟩:=List.mem_map.mp hxm
   obtain⟨t,ht,e⟩:=h2.at2 hq
   obtain⟨g1,g2,g3⟩:=hg.pc t ht
   walk_at "w"
   exact⟨q,t.1,t.2,rfl,e,g1,g2,g3,hN⟩
  ·intro l1 n1
   walk_at "w"
   refine aGq (bG.of aH) (fun x hx=>by obtain⟨_,_,rfl⟩:=List.mem_map.mp hx;rfl) ?_
   walk_at "w"
   have h1':=aI.new (o:=.lst ((qs.map V.ref).map fun _=>V.bl true)) n1 _ _ h1
   have h2':=h2.same (aI.new (o:=.lst ((qs.map V.ref).map fun _=>V.bl true)) n1)
   walk_at "w"
   refine⟨⟨by omega,by omega,by omega,by rw[List.length_map];omega⟩,?_⟩
   rw[List.length_map]
   refine aFw (fun _=>.bl true) (bX (by omega)) (fun i N N' hi hN=>?_) ?_
   ·have i1:i < qs.length:=by omega
    have i2:i+1 < qs.length:=by omega
    have j1:i < ps.length:=by rw[<-h2.len];exact i1
    have j2:i+1 < ps.length:=by rw[<-h2.len];exact i2
    have e1:uH (qs.map V.ref) (1+(i:Int) - 1)=some (.ref qs[i]):=by
     rw[show 1+(i:Int) - 1=(i:Int) by omega]
     exact dM (by rw[List.getElem?_map,List.getElem?_eq_getElem i1];rfl)
    have e2:uH (qs.map V.ref) (1+(i:Int))=some (.ref qs[i+1]):=by
     rw[show 1+(i:Int)=((i+1:Nat):Int) by omega]
     exact dM (by rw[List.getElem?_map,List.getElem?_eq_getElem i2];rfl)
    have t1:=h2'.at_ i _ _ (List.getElem?_eq_getElem i1) (List.getElem?_eq_getElem j1)
    have t2:=h2'.at_ (i+1) _ _ (List.getElem?_eq_getElem i2) (List.getElem?_eq_getElem j2)
    have t3:=hg.up i _ _ (List.getElem?_eq_getElem j1) (List.getElem?_eq_getElem j2)
    walk_at "w"
    rw[decide_eq_true t3]
    exact hN
   ·intro l2 n2
    walk_at "w"
    refine aGq (bG.of aH) (fun x hx=>by obtain⟨_,_,rfl⟩:=List.mem_map.mp hx;rfl) ?_
    exact k _ ((aI.new n1).trans (aI.new n2))
def zJ(K:W.Frag)(C:Addr):Sp:=fun vs H Q _=>∃(x dx pl:Addr) (m:MS),vs=[.ref x,.int m.up,.int m.down,.int m.begin_,.int m.run,.int m.rest,.int m.least,.ref pl]/\H x=some (.ins C dx [])/\yF H pl m.pieces/\m.Good/\
 ∀H',bW C H' x m->bS x H H'->Q .non H'
theorem zK{P:Program}{w:World}{K:PySem.W.Frag}{mg:Str->Option Value}{base:Heap}{a:kW}(tx:Txt K mg a):bO P w K mg base iB 5 a.iJ a.iK ["self","up","down","begin","run","rest","least","pieces"] (zJ K a.aZ):=by
 have aDx:=aBS (P:=P) (w:=w) (base:=base) tx
 have fQ:=wY (P:=P) (w:=w) (base:=base) tx
 have aCM:=aFW (P:=P) (w:=w) (base:=base) tx
 refine tx.sC.ok eN (fun vs H Q E h=>?_) (fun cdv A outer s H vs Q E hr h=>?_)
 ·obtain⟨x,dx,pl,m,rfl,_⟩:=h
  rfl
 ·obtain⟨x,dx,pl,m,rfl ,hx,hp,hg,k⟩:=h
  have hu:=kZ hr
  refine Z.root (Z.aD (Z.aS (i:=8) eN.nd rfl (Or.inl rfl) (Z.aHd (Z.aF (aCM) (hr.mono (by decide)) (by rfl) tx.yE tx.tY.kp tx.yD .nil aU (Z.aE (Z.pv 1) Z.aC)) (Z.aF (aCM) (hr.mono (by decide)) (by rfl) tx.yE tx.tY.kp tx.yD .nil aU (Z.aE (Z.pv 2) Z.aC))))
   (Z.aD (Z.aS (i:=9) eN.nd rfl (Or.inl rfl) (Z.aLQ (Z.aF (fQ) (hr.mono (by decide)) (by rfl) tx.fO tx.d9.kp tx.fN .nil aU (Z.aE (Z.pv 3) Z.aC)) (Z.aF (fQ) (hr.mono (by decide)) (by rfl) tx.fO tx.d9.kp tx.fN .nil aU (Z.aE (Z.pv 4) Z.aC)) (Z.aF (fQ) (hr.mono (by decide)) (by rfl) tx.fO tx.d9.kp tx.fN .nil aU (Z.aE (Z.pv 5) Z.aC)) (Z.aF (fQ) (hr.mono (by decide)) (by rfl) tx.fO tx.d9.kp tx.fN .nil aU (Z.aE (Z.pv 6) Z.aC))))
   (Z.aD (Z.cS PassesOwn.never rfl (Z.aAN (K':=K) (by rfl) tx.eA (Z.aE (Z.aT bK (Z.aT bK (Z.pv 8) (Z.pv 9)) (Z.aBF (Z.aF (aDx) (hr.mono (by decide)) (by rfl) tx.wA tx.qG.kp tx.v9 .nil aU (Z.aE (Z.pv 7) Z.aC)))) Z.aC)) (Z.fE (K':=K) (n:=2) rfl (Z.bA (Z.aM (i:=10) eN.nd rfl (Or.inl rfl)) (Z.bA (Z.aM (i:=11) eN.nd rfl (Or.inl rfl)) Z.dJ))) (Z.aG (Z.cK (Z.oJ (Z.i0 (Z.pv 11))) (Z.aG Z.rH) Z.bF)))
   (Z.aD (Z.pP (K':=K) (Z.pv 0) (Z.pv 1) rfl)
   (Z.aD (Z.pP (K':=K) (Z.pv 0) (Z.pv 2) rfl)
   (Z.aD (Z.pP (K':=K) (Z.pv 0) (Z.pv 3) rfl)
   (Z.aD (Z.pP (K':=K) (Z.pv 0) (Z.pv 4) rfl)
   (Z.aD (Z.pP (K':=K) (Z.pv 0) (Z.pv 5) rfl)
   (Z.aD (Z.pP (K':=K) (Z.pv 0) (Z.pv 6) rfl)
   (Z.aG (Z.pP (K':=K) (Z.pv 0) (Z.eC (rc:=pN K) mN (by rfl) tx.kQ pM (Z.aE (Z.pv 7) Z.aC)) rfl))))))))))) ?_
  refine aR (σ:=[some (.ref x),some (.int m.up),some (.int m.down),some (.int m.begin_),some (.int m.run),some (.int m.rest),some (.int m.least),some (.ref pl),none,none,none,none]) rfl ?_
  walk_at "w"
  refine⟨_,rfl,hg.up.1,hg.up.2,?_⟩
  walk_at "w"
  refine⟨_,rfl,hg.down.1,hg.down.2,?_⟩
  walk_at "w"
  intro l1 n1
  walk_at "w"
  refine⟨_,_,rfl,.int _,?_⟩
  rw[yG hg.begin_]
  walk_at "w"
  refine⟨_,_,rfl,.int _,?_⟩
  rw[yG hg.run]
  walk_at "w"
  refine⟨_,_,rfl,.int _,?_⟩
  rw[yG hg.rest]
  walk_at "w"
  refine⟨_,_,rfl,.int _,?_⟩
  rw[yG hg.least]
  walk_at "w"
  intro l2 n2
  walk_at "w"
  refine vY (xs:=[.bl true,.bl true]) (zs:=[.bl true,.bl true,.bl true,.bl true]) (by walk_at "hp") aH (bX (by simp)) ?_
  intro l3 n3
  walk_at "w"
  have s3:aI H (upd (upd (upd H l1 (.lst [.bl true,.bl true])) l2 (.lst [.bl true,.bl true,.bl true,.bl true])) l3 (.lst ([.bl true,.bl true] ++ [.bl true,.bl true,.bl true,.bl true]))):=((aI.new n1).trans (aI.new n2)).trans (aI.new n3)
  refine⟨pl,m.pieces,rfl,hp.same s3,hg.pieces,fun H4 s4=>?_⟩
  walk_at "w"
  intro l5 n5
  walk_at "w"
  refine vY (xs:=[.bl true,.bl true] ++ [.bl true,.bl true,.bl true,.bl true]) (zs:=[.bl true]) (aI.new n5 _ _ (s4 _ _ aH)) aH (bX (by simp)) ?_
  intro l6 n6
  walk_at "w"
  have s6:aI H (upd (upd H4 l5 (.lst [.bl true])) l6 (.lst (([.bl true,.bl true] ++ [.bl true,.bl true,.bl true,.bl true]) ++ [.bl true]))):=(s3.trans s4).trans ((aI.new n5).trans (aI.new n6))
  generalize hH6:upd (upd H4 l5 (.lst [.bl true])) l6 (.lst (([.bl true,.bl true] ++ [.bl true,.bl true,.bl true,.bl true]) ++ [.bl true]))=H6 at s6 ⊢
  have e6:H6 l6=some (.lst [.bl true,.bl true,.bl true,.bl true,.bl true,.bl true,.bl true]):=by rw[<-hH6,aH];rfl
  refine aIF (bG.of e6) ?_
  refine aC8 (xs:=[.bl true,.bl true,.bl true,.bl true,.bl true,.bl true,.bl true]) (fun i σ' H'=>∃y z,σ'=[some (.ref x),some (.int m.up),some (.int m.down),some (.int m.begin_),some (.int m.run),some (.int m.rest),some (.int m.least),some (.ref pl),some (.ref l1),some (.ref l2),y,z]/\aI H6 H')
   ⟨_,_,rfl,aI.refl _⟩ (fun i σ' H' hi ⟨y,z,e,s⟩=>bG.of (s _ _ e6)) (fun i v σ' H' T hv ⟨y,z,e,s⟩ nT=>?_) (fun σ' H' ⟨y,z,e,s⟩=>?_)
  ·subst e
   have ev:v=.bl true:=by
    have:=List.mem_of_getElem? hv
    simpa using this
   subst ev
   refine fD (kL.of aH) rfl ?_
   walk_at "w"
   exact⟨_,_,rfl,s.trans (aI.new nT)⟩
  ·subst e
   have sH:aI H H':=s6.trans s
   have hx':=sH _ _ hx
   have hp':=hp.same sH
   obtain⟨qs,p1,p2⟩:=hp'.ex
   walk_at "w"
   refine uY (fs':=[("up",.int m.up)]) hx' tx.cC tx.qT (by simp[mFs]) rfl ?_
   walk_at "w"
   refine uY (fs':=[("up",.int m.up),("down",.int m.down)]) aH tx.cC tx.mU (by simp[mFs]) rfl ?_
   rw[vP]
   walk_at "w"
   refine uY (fs':=[("up",.int m.up),("down",.int m.down),("begin",.int m.begin_)]) aH tx.cC tx.kO (by simp[mFs]) rfl ?_
   rw[vP]
   walk_at "w"
   refine uY (fs':=[("up",.int m.up),("down",.int m.down),("begin",.int m.begin_),("run",.int m.run)]) aH tx.cC tx.oR (by simp[mFs]) rfl ?_
   rw[vP]
   walk_at "w"
   refine uY (fs':=[("up",.int m.up),("down",.int m.down),("begin",.int m.begin_),("run",.int m.run),("rest",.int m.rest)]) aH tx.cC tx.mV (by simp[mFs]) rfl ?_
   rw[vP]
   walk_at "w"
   refine uY (fs':=[("up",.int m.up),("down",.int m.down),("begin",.int m.begin_),("run",.int m.run),("rest",.int m.rest),("least",.int m.least)]) aH tx.cC tx.kP (by simp[mFs]) rfl ?_
   rw[vP]
   walk_at "w"
   have px:pl≠x:=fun z=>by rw[z,hx'] at p1;cases p1
   refine rN (ys:=qs.map V.ref) (bG.of (by rw[aJ px];exact p1)) ?_
   intro l9 n9
   walk_at "w"
   have x9:x≠l9:=bE n9 aH
   walk_at "w"
   refine uY (fs':=mFs m l9) (by rw[aJ x9];exact aH) tx.cC tx.jI (by simp[mFs]) rfl ?_
   walk_at "w"
   refine k _ ⟨dx,l9,aH,qs,?_,p2.len,fun j q t h1 h2=>?_⟩ (fun b o e nb=>?_)
   ·rw[aJ (Ne.symm x9),aH]
   ·have e:=p2.at_ j q t h1 h2
    have qx:q≠x:=fun z=>by rw[z,hx'] at e;cases e
    have q9:q≠l9:=bE n9 (by rw[aJ qx];exact e)
    rw[aJ qx,aJ q9,aJ qx]
    exact e
   ·have e1:=sH _ _ e
    have b9:b≠l9:=bE n9 (by rw[aJ nb];exact e1)
    rw[aJ nb,aJ b9,aJ nb]
    exact e1
structure PcW(ps:List (Int×Int))(r:Int):Prop where
 pc:∀t∈ps,1<=t.1/\Am t.1/\Am t.2
 up:∀(j:Nat) t u,ps[j]?=some t->ps[j+1]?=some u->t.2<=u.2
 top:∀t∈ps,t.2<=r
theorem PcW.nil{r:Int}:PcW [] r:=⟨fun _ h=>by simp at h,fun j t u h=>by simp at h,fun _ h=>by simp at h⟩
theorem PcW.snoc{ps:List (Int×Int)}{r r' a:Int}(w:PcW ps r)(hr:r<=r')(h1:1<=a)(h2:Am a)(h3:Am r'):PcW (ps ++ [(a,r')]) r':=by
 refine⟨fun t h=>?_,fun j t u ht hu=>?_,fun t h=>?_⟩
 ·rcases List.mem_append.mp h with h|h
  ·exact w.pc t h
  ·rw[List.mem_singleton.mp h];exact⟨h1,h2,h3⟩
 ·have hj2:j+1 < (ps ++ [(a,r')]).length:=(List.getElem?_eq_some_iff.mp hu).1
  rw[List.length_append,List.length_singleton] at hj2
  have hj:j < ps.length:=by omega
  rw[List.getElem?_append_left hj] at ht
  by_cases hj3:j+1 < ps.length
  ·rw[List.getElem?_append_left hj3] at hu
   exact w.up j t u ht hu
  ·rw[List.getElem?_append_right (by omega),show j+1 - ps.length=0 by omega] at hu
   cases hu
   exact Int.le_trans (w.top t (List.mem_of_getElem? ht)) hr
 ·rcases List.mem_append.mp h with h|h
  ·exact Int.le_trans (w.top t h) hr
  ·rw[List.mem_singleton.mp h];exact Int.le_refl _
theorem tH.snoc{H H3:Hp}{qs:List Addr}{ss:List (Int×Int)}{l T:Addr}{xs:List V}{t:Int×Int}(h:tH H qs ss)(hl:H l=some (.lst xs))(k:bS l H H3)(hT:H3 T=some (.tup [.int t.1,.int t.2])):tH H3 (qs ++ [T]) (ss ++ [t]):=by
 refine⟨by rw[List.length_append,List.length_append,h.len];rfl,fun j q u hq hu=>?_⟩
 by_cases hj:j < qs.length
 ·rw[List.getElem?_append_left hj] at hq
  rw[List.getElem?_append_left (by rw[<-h.len];exact hj)] at hu
  have e:=h.at_ j q u hq hu
  refine k q _ e fun z=>?_
  rw[z,hl] at e
  cases e
 ·have hj2:j < (qs ++ [T]).length:=(List.getElem?_eq_some_iff.mp hq).1
  rw[List.length_append,List.length_singleton] at hj2
  have e:j=qs.length:=by omega
  subst e
  rw[List.getElem?_append_right (Nat.le_refl _),Nat.sub_self] at hq
  rw[h.len,List.getElem?_append_right (Nat.le_refl _),Nat.sub_self] at hu
  cases hq
  cases hu
  exact hT
theorem bB.aM3{H:Hp}{p c:Addr}{qs:List Addr}(h:bB H p)(e:H c=some (.lst (qs.map V.ref))):c≠p:=fun z=>by
 obtain⟨d,cc,q,ms,hp,_⟩:=h.ex
 rw[z,hp] at e
 cases qs with
 |nil=>cases e
 |cons x xs=>cases e
theorem bB.aHz{H:Hp}{p c:Addr}{xs:List V}(h:bB H p)(e:H c=some (.lst xs))(hl:xs.length≠3):c≠p:=fun z=>by
 obtain⟨d,cc,q,ms,hp,_⟩:=h.ex
 rw[z,hp] at e
 cases e
 exact hl rfl
theorem bB.isL{H:Hp}{p:Addr}(h:bB H p):∃xs,H p=some (.lst xs):=by
 obtain⟨d,cc,q,ms,hp,_⟩:=h.ex
 exact⟨_,hp⟩
theorem aBi{H H':Hp}{p c:Addr}(k:bS p H H')(hh:bB H' p)(n:H' c=none):H c=none:=by
 cases hc:H c with
 |none=>rfl
 |some v=>
  obtain⟨xs,e⟩:=hh.isL
  exact absurd rfl (bE n (k c v hc (fun z=>bE n e z.symm)))
theorem aJf{x r n B:Int}(x0:1<=x)(x1:x<=50000000000)(a:0<=r)(c:r < n)(h:50000000000*(n - 1)<=B):0<=x*r/\x*r<=B:=
 ⟨Int.mul_nonneg (by omega) a,Int.le_trans (Int.mul_le_mul x1 (show r<=n - 1 by omega) a (by omega)) h⟩
theorem aM4{x u n B:Int}(x0:1<=x)(x1:x<=50000000000)(a:0<=u)(c:u < n)(h:50000000000*n<=B):x<=x*(1+u)/\x*(1+u)<=B:=
 ⟨by have:=Int.mul_le_mul_of_nonneg_left (show 1<=1+u by omega) (show 0<=x by omega);rw[Int.mul_one] at this;exact this,Int.le_trans (Int.mul_le_mul x1 (show 1+u<=n by omega) (by omega) (by omega)) h⟩
theorem up1{r n:Int}(a:0<=r)(c:r < n)(n1:n<=12):(1<=1+r/\1+r<=12)/\1+r<=n:=by omega
theorem amB{z:Int}(h:0<=z/\z<=250000000000):Am z:=⟨h.1,by have:=h.2;omega⟩
theorem rtB{rate z:Int}{i:Nat}(f5:0<=rate)(f6:rate<=(i:Int)*100000000000)(g:0<=z/\z<=100000000000)(i4:i<=3):rate<=rate+z/\Am (rate+z)/\0<=rate+z/\rate+z<=((i+1:Nat):Int)*100000000000:=⟨by omega,⟨by omega,by omega⟩,by omega,by omega⟩
theorem xB{x z:Int}(x0:1<=x)(g:x<=z/\z<=150000000000):1<=z/\Am z:=⟨by omega,⟨by omega,by omega⟩⟩
def aDy(K:W.Frag):Sp:=fun vs H Q _=>∃(p b:Addr) (x y n:Int),vs=[.ref p,.ref b,.int n]/\bB H p/\H b=some (.lst [.int x,.int y])/\1<=x/\x<=50000000000/\1<=y/\y<=50000000000/\1<=n/\n<=12/\
 ∀(s:Addr) (m:MS) H',fB H' s m->m.Good->m.up<=n->m.down<=n->bB H' p->bS p H H'->H s=none->Q (.ref s) H'
theorem aDz{P:Program}{w:World}{K:PySem.W.Frag}{mg:Str->Option Value}{base:Heap}{a:kW}(tx:Txt K mg a):bO P w K mg base iB 2 a.nL a.nM ["_law_hand","_law_by","_law_longest"] (aDy K):=by
 have aK:=cU (P:=P) (w:=w) (base:=base) tx
 refine tx.sE.ok cT (fun vs H Q E h=>?_) (fun cdv A outer s H vs Q E hr h=>?_)
 ·obtain⟨p,b,x,y,n,rfl,_⟩:=h
  rfl
 ·obtain⟨p,b,x,y,n,rfl ,hh,hb,x0,x1,y0,y1,n0,n1,k⟩:=h
  have hu:=kZ hr
  refine Z.root (Z.aD (Z.aS (i:=3) cT.nd rfl (Or.inl rfl) (Z.aT bK Z.aA (Z.aF (aK) (hr.mono (by decide)) (by rfl) tx.aQ tx.aO.kp tx.aP .nil aU (Z.aE (Z.pv 0) (Z.aE (Z.pv 2) Z.aC)))))
   (Z.aD (Z.aS (i:=4) cT.nd rfl (Or.inl rfl) (Z.aT bK Z.aA (Z.aF (aK) (hr.mono (by decide)) (by rfl) tx.aQ tx.aO.kp tx.aP .nil aU (Z.aE (Z.pv 0) (Z.aE (Z.pv 2) Z.aC)))))
   (Z.aD (Z.aS (i:=5) cT.nd rfl (Or.inl rfl) (Z.aJ7 (Z.aT bV (Z.aL (K':=K) (Z.pv 1) Z.aA (fun _ _=>rfl)) (Z.aF (aK) (hr.mono (by decide)) (by rfl) tx.aQ tx.aO.kp tx.aP .nil aU (Z.aE (Z.pv 0) (Z.aE Z.aA Z.aC)))) (Z.aT bV (Z.aL (K':=K) (Z.pv 1) Z.aA (fun _ _=>rfl)) (Z.aF (aK) (hr.mono (by decide)) (by rfl) tx.aQ tx.aO.kp tx.aP .nil aU (Z.aE (Z.pv 0) (Z.aE Z.aA Z.aC)))) (Z.aT bV (Z.aL (K':=K) (Z.pv 1) Z.aA (fun _ _=>rfl)) (Z.aF (aK) (hr.mono (by decide)) (by rfl) tx.aQ tx.aO.kp tx.aP .nil aU (Z.aE (Z.pv 0) (Z.aE Z.aA Z.aC))))))
   (Z.aD (Z.aS (i:=6) cT.nd rfl (Or.inl rfl) (Z.aT bV (Z.aL (K':=K) (Z.pv 1) Z.aA (fun _ _=>rfl)) (Z.aF (aK) (hr.mono (by decide)) (by rfl) tx.aQ tx.aO.kp tx.aP .nil aU (Z.aE (Z.pv 0) (Z.aE Z.aA Z.aC)))))
   (Z.aD (Z.aS (i:=7) cT.nd rfl (Or.inl rfl) Z.aA)
   (Z.aD (Z.aS (i:=8) cT.nd rfl (Or.inl rfl) (Z.gG Z.aC))
   (Z.aD (Z.cS PassesOwn.never rfl (Z.cZ (by rfl) tx.dO (Z.aE (Z.aF (aK) (hr.mono (by decide)) (by rfl) tx.aQ tx.aO.kp tx.aP .nil aU (Z.aE (Z.pv 0) (Z.aE Z.aA Z.aC))) Z.aC)) (Z.aM (i:=9) cT.nd rfl (Or.inl rfl)) (Z.aD (Z.aAs (i:=7) cT.nd rfl (Or.inl rfl) (Z.aT bV (Z.aL (K':=K) (Z.pv 1) Z.aA (fun _ _=>rfl)) (Z.aF (aK) (hr.mono (by decide)) (by rfl) tx.aQ tx.aO.kp tx.aP .nil aU (Z.aE (Z.pv 0) (Z.aE Z.aA Z.aC)))) aCY)
   (Z.aG (Z.iC (Z.nB (K':=K) (Z.pv 8) (Z.aE (Z.rE (Z.aT bV (Z.aL (K':=K) (Z.pv 1) Z.aA (fun _ _=>rfl)) (Z.aT bK Z.aA (Z.aF (aK) (hr.mono (by decide)) (by rfl) tx.aQ tx.aO.kp tx.aP .nil aU (Z.aE (Z.pv 0) (Z.aE Z.aA Z.aC))))) (Z.pv 7)) Z.aC))))))
   (Z.aG (Z.aV (Z.aLR (Z.pv 3) (Z.pv 4) (Z.aL (K':=K) (Z.pv 5) Z.aA (fun _ _=>rfl)) (Z.aL (K':=K) (Z.pv 5) Z.aA (fun _ _=>rfl)) (Z.aL (K':=K) (Z.pv 5) Z.aA (fun _ _=>rfl)) (Z.pv 6) (Z.pv 8))))))))))) ?_
  have bp:b≠p:=hh.aHz hb (by simp)
  refine aR (σ:=[some (.ref p),some (.ref b),some (.int n),none,none,none,none,none,none,none]) rfl ?_
  walk_at "w"
  refine⟨p,_,rfl,hh,by omega,by omega,fun r1 H1 a1 c1 h1 k1 _=>?_⟩
  have hb1:=k1 _ _ hb bp
  walk_at "w"
  refine⟨p,_,rfl,h1,by omega,by omega,fun r2 H2 a2 c2 h2 k2 _=>?_⟩
  have hb2:=k2 _ _ hb1 bp
  walk_at "w"
  refine⟨p,_,rfl,h2,by decide,by decide,fun r3 H3 a3 c3 h3 k3 _=>?_⟩
  have hb3:=k3 _ _ hb2 bp
  walk_at "w"
  refine⟨p,_,rfl,h3,by decide,by decide,fun r4 H4 a4 c4 h4 k4 _=>?_⟩
  have hb4:=k4 _ _ hb3 bp
  walk_at "w"
  refine⟨p,_,rfl,h4,by decide,by decide,fun r5 H5 a5 c5 h5 k5 _=>?_⟩
  have hb5:=k5 _ _ hb4 bp
  walk_at "w"
  intro l6 n6
  walk_at "w"
  have hb6:=aI.new (o:=.lst [.int (y*r3),.int (y*r4),.int (y*r5)]) n6 _ _ hb5
  have h6:=h5.same (aI.new (o:=.lst [.int (y*r3),.int (y*r4),.int (y*r5)]) n6)
  walk_at "w"
  refine⟨p,_,rfl,h6,by decide,by decide,fun r7 H7 a7 c7 h7 k7 _=>?_⟩
  have hb7:=k7 _ _ hb6 bp
  have l6p:l6≠p:=fun z=>by obtain⟨_,e⟩:=h5.isL;exact bE n6 e z.symm
  have e7:H7 l6=some (.lst [.int (y*r3),.int (y*r4),.int (y*r5)]):=k7 _ _ aH l6p
  have kk7:bS p H H7:=k1.trans (k2.trans (k3.trans (k4.trans (k5.trans ((aI.new n6).keep.trans k7)))))
  have g3:0<=y*r3/\y*r3<=250000000000:=aJf y0 y1 a3 c3 (by decide)
  have g4:0<=y*r4/\y*r4<=250000000000:=aJf y0 y1 a4 c4 (by decide)
  have g5:0<=y*r5/\y*r5<=250000000000:=aJf y0 y1 a5 c5 (by decide)
  have g7:0<=x*r7/\x*r7<=250000000000:=aJf x0 x1 a7 c7 (by decide)
  walk_at "w"
  intro l8 n8
  walk_at "w"
  have h8:=h7.same (aI.new (o:=.lst []) n8)
  walk_at "w"
  refine⟨p,_,rfl,h8,by decide,by decide,fun r9 H9 a9 c9 h9 k9 _=>?_⟩
  have l8p:l8≠p:=fun z=>by obtain⟨_,e⟩:=h7.isL;exact bE n8 e z.symm
  have e9:H9 l8=some (.lst []):=k9 _ _ aH l8p
  have hb9:=k9 _ _ (aI.new n8 _ _ hb7) bp
  have e69:H9 l6=some (.lst [.int (y*r3),.int (y*r4),.int (y*r5)]):=k9 _ _ (aI.new n8 _ _ e7) l6p
  have kk9:bS p H H9:=kk7.trans ((aI.new n8).keep.trans k9)
  have n8H:H l8=none:=aBi kk7 h7 n8
  have n6H:H l6=none:=aBi (k1.trans (k2.trans (k3.trans (k4.trans k5)))) h5 n6
  walk_at "w"
  refine⟨by omega,by omega,?_⟩
  refine kH (fun i σ' H'=>∃qs ps rate x9,σ'=[some (.ref p),some (.ref b),some (.int n),some (.int (1+r1)),some (.int (1+r2)),some (.ref l6),some (.int (x*r7)),some (.int rate),some (.ref l8),x9]/\H' l8=some (.lst (qs.map V.ref))/\tH H' qs ps/\ps.length=i/\PcW ps rate/\
    0<=rate/\rate<=(i:Int)*100000000000/\bB H' p/\bS p H H'/\H' b=some (.lst [.int x,.int y])/\H' l6=some (.lst [.int (y*r3),.int (y*r4),.int (y*r5)]))
   ⟨[],[],0,_,rfl,e9,⟨rfl,fun j q t h=>by simp at h⟩,rfl,PcW.nil,by omega,by omega,h9,kk9,hb9,e69⟩
   (fun i σ' H' hi ⟨qs,ps,rate,x9,e,f1,f2,f3,f4,f5,f6,f7,f8,f9,f0⟩=>?_) (fun σ' H' ⟨qs,ps,rate,x9,e,f1,f2,f3,f4,f5,f6,f7,f8,f9,f0⟩=>?_)
  ·subst e
   have i4:i<=3:=by omega
   walk_at "w"
   refine aFv rfl ?_
   walk_at "w"
   refine⟨p,_,rfl,f7,by decide,by decide,fun u1 J1 v1 w1 q1 t1 _=>?_⟩
   have g1:0<=y*u1/\y*u1<=100000000000:=aJf y0 y1 v1 w1 (by decide)
   have l8q:l8≠p:=f7.aM3 f1
   have d1:=t1 _ _ f1 l8q
   have d2:=f2.keep f7.mI t1
   have d3:=t1 _ _ f9 bp
   have d4:=t1 _ _ f0 l6p
   walk_at "w"
   refine oK (bG.of d1) ?_
   walk_at "w"
   refine⟨p,_,rfl,q1,by decide,by decide,fun u2 J2 v2 w2 q2 t2 _=>?_⟩
   have g2:x<=x*(1+u2)/\x*(1+u2)<=150000000000:=aM4 x0 x1 v2 w2 (by decide)
   have dd1:=t2 _ _ d1 l8q
   have dd2:=d2.keep q1.mI t2
   have dd3:=t2 _ _ d3 bp
   have dd4:=t2 _ _ d4 l6p
   walk_at "w"
   intro T nT
   walk_at "w"
   refine rO (xs:=qs.map V.ref) (aI.new nT _ _ dd1) (Nat.lt_of_lt_of_le (by rw[List.length_map,f2.len];omega:(qs.map V.ref).length < 1000) (bX (by simp))) ?_
   walk_at "w"
   have hT8:T≠l8:=Ne.symm (bE nT dd1)
   have kz:bS l8 J2 (upd (upd J2 T (.tup [.int (x*(1+u2)),.int (rate+y*u1)])) l8 (.lst (qs.map V.ref ++ [.ref T]))):=(aI.new nT).keep.trans bS.upd
   refine⟨qs ++ [T],ps ++ [(x*(1+u2),rate+y*u1)],_,_,rfl,?_,dd2.snoc dd1 kz (by rw[aJ hT8,aH]),by rw[List.length_append,f3];rfl,f4.snoc (rtB f5 f6 g1 i4).1 (xB x0 g2).1 (xB x0 g2).2 (rtB f5 f6 g1 i4).2.1,(rtB f5 f6 g1 i4).2.2.1,(rtB f5 f6 g1 i4).2.2.2,?_,fun c o hc hcp=>?_,?_,?_⟩
   ·rw[aH,List.map_append];rfl
   ·obtain⟨dd,cc,q,ms,hp,hq,hne,hqp⟩:=q2.ex
    refine⟨⟨dd,cc,q,ms,kz _ _ hp (Ne.symm l8q),kz _ _ hq (fun z=>?_),hne,hqp⟩⟩
    rw[z,dd1] at hq
    cases qs with
    |nil=>cases ms with
     |nil=>exact hne rfl
     |cons _ _=>cases hq
    |cons _ _=>cases ms with
     |nil=>exact hne rfl
     |cons _ _=>cases hq
   ·exact kz _ _ (t2 _ _ (t1 _ _ (f8 _ _ hc hcp) hcp) hcp) (bE n8H hc)
   ·exact kz _ _ dd3 (fun z=>by rw[z,dd1] at dd3;cases qs with
     |nil=>cases dd3
     |cons _ _=>cases dd3)
   ·exact kz _ _ dd4 (fun z=>by rw[z,dd1] at dd4;cases qs with
     |nil=>cases dd4
     |cons _ _=>cases dd4)
  ·subst e
   walk_at "w"
   intro s ns
   walk_at "w"
   have hr9:r9.toNat<=4:=by omega
   refine k s ⟨1+r1,1+r2,y*r3,y*r4,y*r5,x*r7,ps⟩ _ ⟨l8,aH,qs,aI.new ns _ _ f1,f2.same (aI.new ns)⟩ ⟨(up1 a1 c1 n1).1,(up1 a2 c2 n1).1,amB g3,amB g4,amB g5,amB g7,⟨by show ps.length<=4;omega,f4.pc,f4.up⟩⟩ (up1 a1 c1 n1).2 (up1 a2 c2 n1).2 (f7.same (aI.new ns)) (f8.trans (aI.new ns).keep) (aBi f8 f7 ns)
def zL(K:W.Frag)(C:Addr):Sp:=fun vs H Q _=>∃(s:Addr) (m:MS),vs=[.ref s]/\fB H s m/\m.Good/\∀x H',bW C H' x m->aI H H'->H x=none->Q (.ref x) H'
theorem zM{P:Program}{w:World}{K:PySem.W.Frag}{mg:Str->Option Value}{base:Heap}{a:kW}(tx:Txt K mg a):bO P w K mg base iB 7 a.iL a.iM ["_law_spec_here"] (zL K a.aZ):=by
 have aBj:=zK (P:=P) (w:=w) (base:=base) tx
 refine tx.mP.ok zI (fun vs H Q E h=>?_) (fun cdv A outer s H vs Q E hr h=>?_)
 ·obtain⟨s,m,rfl,_⟩:=h
  rfl
 ·obtain⟨s,m,rfl ,hs,hg,k⟩:=h
  have hu:=kZ hr
  refine Z.root (Z.aG (Z.aV (Z.aAL tx.aCH (aBj) (hr.mono (by decide)) (by rfl) tx.aCG tx.sD .nil aU (Z.aE (Z.aL (K':=K) (Z.pv 0) Z.aA (fun _ _=>rfl)) (Z.aE (Z.aL (K':=K) (Z.pv 0) Z.aA (fun _ _=>rfl)) (Z.aE (Z.aL (K':=K) (Z.pv 0) Z.aA (fun _ _=>rfl)) (Z.aE (Z.aL (K':=K) (Z.pv 0) Z.aA (fun _ _=>rfl)) (Z.aE (Z.aL (K':=K) (Z.pv 0) Z.aA (fun _ _=>rfl)) (Z.aE (Z.aL (K':=K) (Z.pv 0) Z.aA (fun _ _=>rfl)) (Z.aE (Z.eC (rc:=pN K) mN (by rfl) tx.kQ pM (Z.aE (Z.aL (K':=K) (Z.pv 0) Z.aA (fun _ _=>rfl)) Z.aC)) Z.aC)))))))))) ?_
  obtain⟨pl,h1,h2⟩:=hs.ex
  obtain⟨qs,h3,h4⟩:=h2.ex
  refine aR (σ:=[some (.ref s)]) rfl ?_
  walk_at "w"
  refine rN (bG.of h3) ?_
  intro l n
  walk_at "w"
  intro x dx nx nd hd
  have sx:aI H (upd (upd (upd H l (.lst (qs.map V.ref))) dx (.own x)) x (.ins a.aZ dx [])):=fun b o e=>by
   have e1:=aI.new (o:=.lst (qs.map V.ref)) n _ _ e
   rw[aJ (bE nx e1),aJ (bE nd e1)]
   exact e1
  have lx:l≠x:=bE nx aH
  have ld:l≠dx:=bE nd aH
  refine⟨x,dx,l,m,rfl,aH,⟨qs,by rw[aJ lx,aJ ld,aH],h4.same sx⟩,hg,fun H' hM kx=>⟨rfl,?_⟩⟩
  have nxH:H x=none:=(aI.new n).free nx
  exact k x H' hM (fun b o e=>kx _ _ (sx _ _ e) (bE nxH e)) nxH
theorem bB.aM5{H:Hp}{p c:Addr}(hh:bB H p)(n:H c=none):c≠p:=fun z=>by
 obtain⟨xs,e⟩:=hh.isL
 exact bE n e z.symm
def SmV(H:Hp):Nat->V->V->Prop
 |0,_,_=>False
 |j+1,x,y=>(∃i,x=.int i/\y=.int i)\/(∃b,x=.bl b/\y=.bl b)\/(x=.non/\y=.non)\/(∃s,x=.str s/\y=.str s)\/
  ∃(p q:Addr) (xs ys:List V),x=.ref p/\y=.ref q/\((H p=some (.tup xs)/\H q=some (.tup ys))\/(H p=some (.lst xs)/\H q=some (.lst ys)))/\xs.length=ys.length/\ys.length<=1000000/\∀(i:Nat) u v,xs[i]?=some u->ys[i]?=some v->SmV H j u v
theorem SmV.int{H:Hp}{j:Nat}(i:Int):SmV H (j+1) (.int i) (.int i):=.inl ⟨i,rfl,rfl⟩
def aM6:List (Int×Int)->Int
 |[]=>0
 |t::ps=>t.1+aM6 ps
def gn(p:Int):List (Int×Int)->Int
 |[]=>0
 |t::ps=>t.1*max (p - t.2) 0+gn p ps
def Up:List (Int×Int)->Prop
 |[]=>True
 |t::ps=>1<=t.1/\(∀u∈ps,t.2<=u.2)/\Up ps
theorem aJg{p:Int}:∀(a:List (Int×Int)) (t:Int×Int),gn p (a ++ [t])=gn p a+t.1*max (p - t.2) 0
 |[],t=>by show t.1*max (p - t.2) 0+0=0+t.1*max (p - t.2) 0;omega
 |u::a,t=>by
  show u.1*max (p - u.2) 0+gn p (a ++ [t])=u.1*max (p - u.2) 0+gn p a+t.1*max (p - t.2) 0
  rw[aJg a t];omega
theorem aJh{p:Int}:∀(ps:List (Int×Int)),List.sum (ps.filterMap fun t=>some (max 0 (p - t.2)*t.1))=gn p ps
 |[]=>rfl
 |t::ps=>by
  rw[List.filterMap_cons]
  show List.sum (max 0 (p - t.2)*t.1::_)=t.1*max (p - t.2) 0+gn p ps
  rw[List.sum_cons,aJh ps,Int.mul_comm,show max 0 (p - t.2)=max (p - t.2) 0 by omega]
theorem aJi{K:W.Frag}{H:Hp}{pl:Addr}{qs:List Addr}{ps:List (Int×Int)}{σ₀:St}{g:TG}{tt:TT}{te:TE}{R:List V->Hp->Prop}(f:Int×Int->Option Int)(h1:H pl=some (.lst (qs.map V.ref)))(h2:tH H qs ps)(hz:ps.length<=4)
  (hs:∀q t (N:V->Hp->Prop) (N':Hp->Prop),t∈ps->H q=some (.tup [.int t.1,.int t.2])->(∀y,f t=some y->N (.int y) H)->(f t=none->N' H)->g (.ref q) σ₀ H fun σ2 H2=>tt σ2 H2 fun b H3=>if b=true then te σ2 H3 fun y H4=>N y H4 else N' H3)
  (hd:R ((ps.filterMap f).map V.int) H):mM (Itl K pl) σ₀ g tt te R H:=by
 have hql:qs.length<=4:=by rw[h2.len];exact hz
 refine cB (xs:=qs.map V.ref) (fun i ys H'=>H'=H/\ys=((ps.take i).filterMap f).map V.int) ⟨rfl,by simp⟩ (bX (by rw[List.length_map];omega)) (fun i ys H' hi ⟨e1,e2⟩=>?_) (fun i x ys H' hx ⟨e1,e2⟩=>?_) (fun ys H' ⟨e1,e2⟩=>?_)
 ·subst e1 e2
  refine⟨bG.of h1,?_⟩
  rw[List.length_map]
  exact Nat.le_trans (List.length_filterMap_le ..) (by rw[List.length_take];omega)
 ·subst e1 e2
  rw[List.getElem?_map] at hx
  cases hq:qs[i]? with
  |none=>rw[hq] at hx;cases hx
  |some q=>
   rw[hq] at hx
   cases hx
   have li:i < ps.length:=by rw[<-h2.len];exact(List.getElem?_eq_some_iff.mp hq).1
   have ht:ps[i]?=some ps[i]:=List.getElem?_eq_getElem li
   have e:=h2.at_ i q _ hq ht
   have hm:=List.getElem_mem li
   generalize ps[i]=t at ht e hm
   refine hs q t (fun y H4=>H4=H'/\((ps.take i).filterMap f).map V.int ++ [y]=((ps.take (i+1)).filterMap f).map V.int) (fun H3=>H3=H'/\((ps.take i).filterMap f).map V.int=((ps.take (i+1)).filterMap f).map V.int) hm e (fun y hy=>⟨rfl,?_⟩) (fun hy=>⟨rfl,?_⟩)
   ·rw[List.take_add_one,ht,List.filterMap_append,List.map_append]
    simp[hy]
   ·rw[List.take_add_one,ht,List.filterMap_append,List.map_append]
    simp[hy]
 ·subst e1 e2
  rw[List.length_map,h2.len,List.take_length]
  exact hd
def zN(K:W.Frag)(C:Addr):Sp:=fun vs H Q _=>∃(x:Addr) (m:MS) (pr:Int),vs=[.ref x,.int pr]/\bW C H x m/\m.Good/\0<=pr/\pr<=1000000000001/\Q (.int (pr*m.least+gn pr m.pieces)) H
theorem zO{P:Program}{w:World}{K:PySem.W.Frag}{mg:Str->Option Value}{base:Heap}{a:kW}(tx:Txt K mg a):bO P w K mg base iB 1 a.iN a.iO ["self","price"] (zN K a.aZ):=by
 refine tx.sI.ok eO (fun vs H Q E h=>?_) (fun cdv A outer s H vs Q E hr h=>?_)
 ·obtain⟨x,m,pr,rfl,_⟩:=h
  rfl
 ·obtain⟨x,m,pr,rfl ,hm,hg,p0,p1,k⟩:=h
  have hu:=kZ hr
  refine Z.root (Z.aD (Z.aS (i:=2) eO.nd rfl (Or.inl rfl) (Z.aT bV (Z.pv 1) (Z.pO (K':=K) (Z.pv 0) rfl)))
   (Z.aD (Z.cS PassesOwn.never rfl (Z.bQ (K':=K) (Z.pO (K':=K) (Z.pv 0) rfl)) (Z.fE (K':=K) (n:=2) rfl (Z.bA (Z.aM (i:=3) eO.nd rfl (Or.inl rfl)) (Z.bA (Z.aM (i:=4) eO.nd rfl (Or.inl rfl)) Z.dJ))) (Z.aG (Z.aAs (i:=2) eO.nd rfl (Or.inl rfl) (Z.aT bV (Z.pv 3) (Z.aN (mF rfl) (by rfl) tx.tG xV (Z.aE (Z.aT gF (Z.pv 1) (Z.pv 4)) (Z.aE Z.aA Z.aC)))) aCY)))
   (Z.aG (Z.aV (Z.pv 2))))) ?_
  obtain⟨dx,pl,hx,hp⟩:=hm.ex
  obtain⟨qs,h1,h2⟩:=hp.ex
  refine aR (σ:=[some (.ref x),some (.int pr),none,none,none]) rfl ?_
  walk_at "w"
  refine uZ hx tx.cC tx.kP rfl ?_
  walk_at "w"
  refine uZ hx tx.cC tx.jI rfl ?_
  refine fH (bG.of h1) ?_
  refine tU (xs:=qs.map V.ref) (fun i σ' H'=>H'=H/\∃y z,σ'=[some (.ref x),some (.int pr),some (.int (pr*m.least+gn pr (m.pieces.take i))),y,z]) ⟨rfl,_,_,by rw[show gn pr (m.pieces.take 0)=0 by simp[gn],Int.add_zero]⟩ (fun i σ' H' hi ⟨e1,y,z,e⟩=>by subst e1;exact bG.of h1) (fun i v σ' H' hv ⟨e1,y,z,e⟩=>?_) (fun σ' H' ⟨e1,y,z,e⟩=>?_)
  ·subst e1 e
   rw[List.getElem?_map] at hv
   cases hq:qs[i]? with
   |none=>rw[hq] at hv;cases hv
   |some q=>
    rw[hq] at hv
    cases hv
    have li:i < m.pieces.length:=by rw[<-h2.len];exact(List.getElem?_eq_some_iff.mp hq).1
    have ht:m.pieces[i]?=some m.pieces[i]:=List.getElem?_eq_getElem li
    have e:=h2.at_ i q _ hq ht
    obtain⟨z1,⟨z2,z3⟩,z4,z5⟩:=hg.pieces.pc _ (List.getElem_mem li)
    generalize m.pieces[i]=t at ht e z1 z2 z3 z4 z5
    refine fD (kL.of e) rfl ?_
    walk_at "w"
    refine aFv rfl ?_
    walk_at "w"
    refine⟨rfl,some (.int t.1),some (.int t.2),?_⟩
    rw[List.take_add_one,ht]
    show _=[some (V.ref x),some (V.int pr),some (V.int (pr*m.least+gn pr (m.pieces.take i ++ [t]))),_,_]
    rw[aJg,Int.add_assoc]
    rfl
  ·subst e1 e
   walk_at "w"
   rw[List.length_map,h2.len,List.take_length]
   exact k
def aDA(K:W.Frag):Sp:=fun vs H Q _=>∃(s:Addr) (m:MS) (pr:Int),vs=[.ref s,.int pr]/\fB H s m/\m.Good/\0<=pr/\pr<=1000000000001/\∀H',aI H H'->Q (.int (pr*m.least+gn pr m.pieces)) H'
theorem aDB{P:Program}{w:World}{K:PySem.W.Frag}{mg:Str->Option Value}{base:Heap}{a:kW}(tx:Txt K mg a):bO P w K mg base iB 1 a.nO a.nP ["_law_spec_here","_law_price_here"] (aDA K):=by
 refine tx.sL.ok aDp (fun vs H Q E h=>?_) (fun cdv A outer s H vs Q E hr h=>?_)
 ·obtain⟨s,m,pr,rfl,_⟩:=h
  rfl
 ·obtain⟨s,m,pr,rfl ,hs,hg,p0,p1,k⟩:=h
  have hu:=kZ hr
  refine Z.root (Z.aG (Z.aV (Z.aT bK (Z.aT bV (Z.pv 1) (Z.aL (K':=K) (Z.pv 0) Z.aA (fun _ _=>rfl))) (Z.aN (rc:=aLW K) (aHg rfl) (by rfl) tx.aCL aLq (Z.aE (Z.cO (k:=2) (idx:=[1]) (N:=["_law_amount","_law_rate","_law_price_here"]) (cF (sc:=aB fK) (NX:=["_law_spec_here","_law_price_here"]) rfl rfl rfl (by decide +kernel)) rfl (Z.bQ (K':=K) (Z.aL (K':=K) (Z.pv 0) Z.aA (fun _ _=>rfl))) (fun _ _ _ _=>(Z.fE (K':=K) (n:=2) rfl (Z.bA (Z.aM (i:=0) (show(["_law_amount","_law_rate","_law_price_here"]:List Str).Nodup by decide +kernel) rfl (Or.inl rfl)) (Z.bA (Z.aM (i:=1) (show(["_law_amount","_law_rate","_law_price_here"]:List Str).Nodup by decide +kernel) rfl (Or.inl rfl)) Z.dJ)))) (nA (bP (by decide) (bP (by decide) kG))) (fun _ _ _ _=>Z.cG) (fun _ _ _ _=>(Z.aT bV (Z.aN (mF rfl) (by rfl) tx.tG xV (Z.aE Z.aA (Z.aE (Z.aT gF (Z.pv 2) (Z.pv 1)) Z.aC))) (Z.pv 0)))) Z.aC))))) ?_
  obtain⟨pl,hx,hp⟩:=hs.ex
  obtain⟨qs,h1,h2⟩:=hp.ex
  refine aR (σ:=[some (.ref s),some (.int pr)]) rfl ?_
  walk_at "w"
  refine fH (bG.of h1) ?_
  refine aJi (fun t=>some (max 0 (pr - t.2)*t.1)) h1 h2 hg.pieces.len (fun q t N N' hm hq hN hN'=>?_) ?_
  ·obtain⟨z1,⟨z2,z3⟩,z4,z5⟩:=hg.pieces.pc _ hm
   refine fD (kL.of hq) rfl ?_
   walk_at "w"
   exact hN _ rfl
  intro l1 n1
  walk_at "w"
  refine aLX (bG.of aH) ?_
  rw[aJh]
  walk_at "w"
  exact k _ (aI.new n1)
def aHA(K:W.Frag):Sp:=fun vs H Q _=>∃(v:V) (t:Addr) (o d on:Int),vs=[v,.ref t,.int on]/\H t=some (.tup [.int o,.int d])/\Q (.bl (decide (o=on) || decide (d=0))) H
theorem t9{P:Program}{w:World}{K:PySem.W.Frag}{mg:Str->Option Value}{base:Heap}{a:kW}(tx:Txt K mg a):bO P w K mg base iB 1 a.v7 a.v8 ["machine","state","on"] (aHA K):=by
 refine tx.o5.ok aHx (fun vs H Q E h=>?_) (fun cdv A outer s H vs Q E hr h=>?_)
 ·obtain⟨v,t,o,d,on,rfl,_⟩:=h
  rfl
 ·obtain⟨v,t,o,d,on,rfl ,ht,k⟩:=h
  have hu:=kZ hr
  refine Z.root (Z.aG (Z.aV (Z.aGd (Z.jL (r:=rD K) (gH hu) (Z.aL (K':=K) (Z.pv 1) Z.aA (fun _ _=>rfl)) (Z.pv 2) (bJ _)) (Z.pH (Z.jL (r:=rD K) (gH hu) (Z.aL (K':=K) (Z.pv 1) Z.aA (fun _ _=>rfl)) Z.aA (bJ _)))))) ?_
  refine aR (σ:=[some v,some (.ref t),some (.int on)]) rfl ?_
  walk_at "w"
  refine cY (fun h=>?_) (fun h=>?_)
  ·rw[decide_eq_true h,Bool.true_or] at k
   exact k
  ·rw[decide_eq_false h,Bool.false_or] at k
   walk_at "w"
   exact k
def pE(m:MS)(o d on:Int):Int×Int:=if o=on then (on,max (d - 1) 0) else if on=1 then (1,m.up - 1) else (0,m.down - 1)
def aBk(K:W.Frag)(C:Addr):Sp:=fun vs H Q _=>∃(q:Addr) (m:MS) (t:Addr) (o d on:Int),vs=[.ref q,.ref t,.int on]/\bW C H q m/\H t=some (.tup [.int o,.int d])/\(o=on\/d=0)/\
 ∀T H',aI H H'->H T=none->H' T=some (.tup [.int (pE m o d on).1,.int (pE m o d on).2])->Q (.ref T) H'
theorem mY{P:Program}{w:World}{K:PySem.W.Frag}{mg:Str->Option Value}{base:Heap}{a:kW}(tx:Txt K mg a):bO P w K mg base iB 2 a.jP a.jQ ["machine","state","on"] (aBk K a.aZ):=by
 have mZ:=t9 (P:=P) (w:=w) (base:=base) tx
 refine tx.gL.ok aA4 (fun vs H Q E h=>?_) (fun cdv A outer s H vs Q E hr h=>?_)
 ·obtain⟨q,m,t,o,d,on,rfl,_⟩:=h
  rfl
 ·obtain⟨q,m,t,o,d,on,rfl ,hm,ht,hmay,k⟩:=h
  have hu:=kZ hr
  refine Z.root (Z.aD (Z.cK (Z.oJ (Z.i0 (Z.aF (mZ) (hr.mono (by decide)) (by rfl) tx.sN tx.o5.kp tx.sM .nil aU (Z.aE (Z.pv 0) (Z.aE (Z.pv 1) (Z.aE (Z.pv 2) Z.aC)))))) (Z.aG Z.rH) Z.bF)
   (Z.aD (Z.cK (Z.bH (r:=rD K) (gH hu) (Z.aL (K':=K) (Z.pv 1) Z.aA (fun _ _=>rfl)) (Z.pv 2) (bJ _)) (Z.aG (Z.aV (Z.rE (Z.pv 2) (Z.aN (mF rfl) (by rfl) tx.tG xV (Z.aE (Z.aT gF (Z.aL (K':=K) (Z.pv 1) Z.aA (fun _ _=>rfl)) Z.aA) (Z.aE Z.aA Z.aC)))))) Z.bF)
   (Z.aD (Z.cK (Z.bH (r:=rD K) (gH hu) (Z.pv 2) Z.aA (bJ _)) (Z.aG (Z.aV (Z.rE Z.aA (Z.aT gF (Z.pO (K':=K) (Z.pv 0) rfl) Z.aA)))) Z.bF)
   (Z.aG (Z.aV (Z.rE Z.aA (Z.aT gF (Z.pO (K':=K) (Z.pv 0) rfl) Z.aA))))))) ?_
  obtain⟨dx,pl,hq,_⟩:=hm.ex
  refine aR (σ:=[some (.ref q),some (.ref t),some (.int on)]) rfl ?_
  walk_at "w"
  refine⟨_,_,_,_,_,rfl,ht,?_⟩
  walk_at "w"
  rw[show(decide (o=on) || decide (d=0))=true by rcases hmay with h|h <;> simp[h]]
  walk_at "w"
  unfold pE at k
  refine cY (fun h=>?_) (fun h=>?_)
  ·rw[if_pos h] at k
   walk_at "w"
   intro T nT
   walk_at "w"
   exact k _ _ (aI.new nT) nT aH
  ·rw[if_neg h] at k
   walk_at "w"
   refine cY (fun h1=>?_) (fun h1=>?_)
   ·rw[if_pos h1] at k
    walk_at "w"
    refine uZ hq tx.cC tx.qT rfl ?_
    walk_at "w"
    intro T nT
    walk_at "w"
    exact k _ _ (aI.new nT) nT aH
   ·rw[if_neg h1] at k
    walk_at "w"
    refine uZ hq tx.cC tx.mU rfl ?_
    walk_at "w"
    intro T nT
    walk_at "w"
    exact k _ _ (aI.new nT) nT aH
def Bit(o:Int):Prop:=o=0\/o=1
theorem aFY{m:MS}(hg:m.Good){o d on:Int}(ho:Bit on):Bit (pE m o d on).1/\0<=(pE m o d on).2:=by
 obtain⟨u0,u1⟩:=hg.up
 obtain⟨d0,d1⟩:=hg.down
 unfold pE
 split
 ·exact⟨ho,by show 0<=max (d - 1) 0;omega⟩
 ·split
  ·exact⟨.inr rfl,by show 0<=m.up - 1;omega⟩
  ·exact⟨.inl rfl,by show 0<=m.down - 1;omega⟩
theorem aKo{n j:Nat}(h:j < n):ixN n (j:Int)=some j:=by
 unfold ixN
 simp
 omega
structure RL{α:Type}(P:Addr->α->Prop)(as:List Addr)(xs:List α):Prop where
 len:as.length=xs.length
 at_:∀(j:Nat) a x,as[j]?=some a->xs[j]?=some x->P a x
theorem RL.nil{α:Type}{P:Addr->α->Prop}:RL P [] []:=⟨rfl,fun j a x h=>by simp at h⟩
theorem RL.imp{α:Type}{P P':Addr->α->Prop}{as:List Addr}{xs:List α}(h:RL P as xs)(f:∀a x,P a x->P' a x):RL P' as xs:=⟨h.len,fun j a x h1 h2=>f a x (h.at_ j a x h1 h2)⟩
theorem RL.snoc{α:Type}{P:Addr->α->Prop}{as:List Addr}{xs:List α}(h:RL P as xs){a:Addr}{x:α}(hp:P a x):RL P (as ++ [a]) (xs ++ [x]):=by
 refine⟨by rw[List.length_append,List.length_append,h.len];rfl,fun j q u hq hu=>?_⟩
 by_cases hj:j < as.length
 ·rw[List.getElem?_append_left hj] at hq
  rw[List.getElem?_append_left (by rw[<-h.len];exact hj)] at hu
  exact h.at_ j q u hq hu
 ·have hj2:j < (as ++ [a]).length:=(List.getElem?_eq_some_iff.mp hq).1
  rw[List.length_append,List.length_singleton] at hj2
  have e:j=as.length:=by omega
  subst e
  rw[List.getElem?_append_right (Nat.le_refl _),Nat.sub_self] at hq
  rw[h.len,List.getElem?_append_right (Nat.le_refl _),Nat.sub_self] at hu
  cases hq
  cases hu
  exact hp
def aBl(o:HO):Prop:=(∃(d c:Int) (q:Addr),o=.lst [.int d,.int c,.ref q])\/∃(C dx:Addr),o=.ins C dx []
def Tr(H H':Hp):Prop:=∀b o,H b=some o->¬aBl o->H' b=some o
theorem Tr.trans{H H1 H2:Hp}(a:Tr H H1)(b:Tr H1 H2):Tr H H2:=fun c o e n=>b c o (a c o e n) n
theorem _root_.L2.aI.tr{H H':Hp}(s:aI H H'):Tr H H':=fun b o e _=>s b o e
theorem bB.tr{H H':Hp}{p:Addr}(hh:bB H p)(k:bS p H H'):Tr H H':=fun b o e n=>k b o e fun z=>by
 obtain⟨d,c,q,ms,hp,_⟩:=hh.ex
 rw[z,hp] at e
 cases e
 exact n (.inl ⟨d,c,q,rfl⟩)
def Tk(H H':Hp):Prop:=∀b xs,H b=some (.tup xs)->H' b=some (.tup xs)
theorem Tk.trans{H H1 H2:Hp}(a:Tk H H1)(b:Tk H1 H2):Tk H H2:=fun c o e=>b c o (a c o e)
theorem aMd{xs:List V}:¬aBl (.tup xs):=fun z=>by rcases z with ⟨_,_,_,e⟩|⟨_,_,e⟩ <;> cases e
theorem aFZ{C dx:Addr}{fs:List (Str×V)}(h:fs≠[]):¬aBl (.ins C dx fs):=fun z=>by
 rcases z with ⟨_,_,_,e⟩|⟨_,_,e⟩
 ·cases e
 ·cases e;exact h rfl
theorem aDC{xs:List V}(h:xs.length≠3):¬aBl (.lst xs):=fun z=>by
 rcases z with ⟨_,_,_,e⟩|⟨_,_,e⟩
 ·cases e;exact h rfl
 ·cases e
theorem wZ{qs:List Addr}:¬aBl (.lst (qs.map V.ref)):=fun z=>by
 rcases z with ⟨_,_,_,e⟩|⟨_,_,e⟩
 ·cases qs with
  |nil=>cases e
  |cons x xs=>cases e
 ·cases e
theorem Tr.tk{H H':Hp}(s:Tr H H'):Tk H H':=fun b xs e=>s b _ e aMd
theorem _root_.L2.aI.tk{H H':Hp}(s:aI H H'):Tk H H':=fun b xs e=>s b _ e
def del(l:Addr)(H:Hp):Hp:=fun b=>if b=l then none else H b
theorem aF0{l b:Addr}{H:Hp}(n:b≠l):del l H b=H b:=by unfold del;rw[if_neg n]
theorem aMe{l:Addr}{H:Hp}:aI (del l H) H:=fun b o e=>by
 unfold del at e
 split at e
 ·cases e
 ·exact e
theorem aKG{l:Addr}{H:Hp}:del l H l=none:=by unfold del;rw[if_pos rfl]
theorem m3{l b:Addr}{H:Hp}{o:HO}(e:H b=some o)(n:b≠l):del l H b=some o:=by rw[aF0 n];exact e
theorem Tr.del{l:Addr}{H H':Hp}(s:Tr H H'):Tr (del l H) (del l H'):=fun b o e n=>by
 by_cases hb:b=l
 ·subst hb;rw[aKG] at e;cases e
 ·rw[aF0 hb] at e ⊢;exact s b o e n
theorem tH.tr{H H':Hp}{qs:List Addr}{ps:List (Int×Int)}(h:tH H qs ps)(s:Tk H H'):tH H' qs ps:=⟨h.len,fun j q t h1 h2=>s _ _ (h.at_ j q t h1 h2)⟩
theorem yF.tr{H H':Hp}{p:Addr}{ps:List (Int×Int)}(h:yF H p ps)(s:Tr H H'):yF H' p ps:=by
 obtain⟨qs,h1,h2⟩:=h.ex
 exact⟨qs,s _ _ h1 wZ,h2.tr s.tk⟩
theorem fB.tr{H H':Hp}{p:Addr}{m:MS}(h:fB H p m)(s:Tr H H'):fB H' p m:=by
 obtain⟨pl,h1,h2⟩:=h.ex
 exact⟨pl,s _ _ h1 (aDC (by simp)),h2.tr s⟩
theorem bW.tr{C:Addr}{H H':Hp}{p:Addr}{m:MS}(h:bW C H p m)(s:Tr H H'):bW C H' p m:=by
 obtain⟨dx,pl,h1,h2⟩:=h.ex
 exact⟨dx,pl,s _ _ h1 (aFZ (by simp[mFs])),h2.tr s⟩
structure SS where
 cap:Int
 into:Int
 out:Int
 takes:Int
 gives:Int
structure SS.Good(s:SS):Prop where
 cap:0<=s.cap/\s.cap<=8
 into:0<=s.into/\s.into<=8
 out:0<=s.out/\s.out<=8
 takes:Am s.takes
 gives:Am s.gives
def Lv(s:SS)(l n:Int):Prop:=0<=n/\n<=s.cap/\l - s.out<=n/\n<=l+s.into
instance (s:SS) (l n:Int):Decidable (Lv s l n):=by unfold Lv;infer_instance
def dr(s:SS)(l n:Int):Int:=(if l < n then s.takes else s.gives)*(n - l)
def sFs(s:SS):List (Str×V):=[("cap",.int s.cap),("into",.int s.into),("out",.int s.out),("takes",.int s.takes),("gives",.int s.gives)]
structure aDD(H:Hp)(a:Addr)(s:SS):Prop where
 at_:H a=some (.lst [.int s.cap,.int s.into,.int s.out,.int s.takes,.int s.gives])
structure aAh(C:Addr)(H:Hp)(x:Addr)(s:SS):Prop where
 ex:∃dx,H x=some (.ins C dx (sFs s))
theorem aDD.tr{H H':Hp}{a:Addr}{s:SS}(h:aDD H a s)(e:Tr H H'):aDD H' a s:=⟨e _ _ h.at_ (aDC (by simp))⟩
theorem aAh.tr{C:Addr}{H H':Hp}{a:Addr}{s:SS}(h:aAh C H a s)(e:Tr H H'):aAh C H' a s:=by
 obtain⟨dx,q⟩:=h.ex
 exact⟨dx,e _ _ q (aFZ (by simp[sFs]))⟩
def StA(H:Hp)(q:Addr)(t:Int×Int):Prop:=H q=some (.tup [.int t.1,.int t.2])
structure aGI(H:Hp)(t:Addr)(ss:List (Int×Int)):Prop where
 ex:∃qs,H t=some (.tup (qs.map V.ref))/\RL (StA H) qs ss
abbrev Ps:=List (Int×Int)×Int
structure aGJ(H:Hp)(a:Addr)(P:Ps):Prop where
 ex:∃t,H a=some (.tup [.ref t,.int P.2])/\aGI H t P.1
structure Hr where
 ons:List Int
 outs:List Int
 lev:Int
structure aKp(H:Hp)(a:Addr)(h:Hr):Prop where
 ex:∃t u,H a=some (.tup [.ref t,.ref u,.int h.lev])/\H t=some (.tup (h.ons.map V.int))/\H u=some (.tup (h.outs.map V.int))
structure aF1(H:Hp)(a:Addr)(hs:List Hr):Prop where
 ex:∃qs,H a=some (.lst (qs.map V.ref))/\RL (aKp H) qs hs
structure aF2(H:Hp)(a:Addr)(hs:List Ps):Prop where
 ex:∃qs,H a=some (.lst (qs.map V.ref))/\RL (aGJ H) qs hs
theorem aGI.tk{H H':Hp}{t:Addr}{ss:List (Int×Int)}(h:aGI H t ss)(s:Tk H H'):aGI H' t ss:=by
 obtain⟨qs,h1,h2⟩:=h.ex
 exact⟨qs,s _ _ h1,h2.imp fun a x z=>s _ _ z⟩
theorem aGJ.tk{H H':Hp}{a:Addr}{P:Ps}(h:aGJ H a P)(s:Tk H H'):aGJ H' a P:=by
 obtain⟨t,h1,h2⟩:=h.ex
 exact⟨t,s _ _ h1,h2.tk s⟩
theorem aKp.tk{H H':Hp}{a:Addr}{h:Hr}(x:aKp H a h)(s:Tk H H'):aKp H' a h:=by
 obtain⟨t,u,h1,h2,h3⟩:=x.ex
 exact⟨t,u,s _ _ h1,s _ _ h2,s _ _ h3⟩
theorem aF1.tr{H H':Hp}{a:Addr}{hs:List Hr}(x:aF1 H a hs)(s:Tr H H'):aF1 H' a hs:=by
 obtain⟨qs,h1,h2⟩:=x.ex
 exact⟨qs,s _ _ h1 wZ,h2.imp fun a x z=>z.tk s.tk⟩
theorem aF2.tr{H H':Hp}{a:Addr}{hs:List Ps}(x:aF2 H a hs)(s:Tr H H'):aF2 H' a hs:=by
 obtain⟨qs,h1,h2⟩:=x.ex
 exact⟨qs,s _ _ h1 wZ,h2.imp fun a x z=>z.tk s.tk⟩
structure WS where
 specs:List MS
 store:Option SS
 lack:Int
 x:Int
 y:Int
 wide:Int
structure WS.Good(W:WS):Prop where
 specs:∀m∈W.specs,m.Good
 len:W.specs.length<=6
 store:∀s,W.store=some s->s.Good
 lack:Am W.lack
 x:1<=W.x/\W.x<=50000000000
 y:1<=W.y/\W.y<=50000000000
 wide:W.wide=0\/W.wide=1
structure aAi(H:Hp)(l:Addr)(ms:List MS):Prop where
 ex:∃qs,H l=some (.lst (qs.map V.ref))/\RL (fB H) qs ms
structure aAj(C:Addr)(H:Hp)(l:Addr)(ms:List MS):Prop where
 ex:∃qs,H l=some (.lst (qs.map V.ref))/\RL (bW C H) qs ms
def aKq(H:Hp)(v:V):Option SS->Prop
 |none=>v=.non
 |some s=>∃a,v=.ref a/\aDD H a s
def aKr(C:Addr)(H:Hp)(v:V):Option SS->Prop
 |none=>v=.non
 |some s=>∃a,v=.ref a/\aAh C H a s
theorem aAi.tr{H H':Hp}{l:Addr}{ms:List MS}(h:aAi H l ms)(s:Tr H H'):aAi H' l ms:=by
 obtain⟨qs,h1,h2⟩:=h.ex
 exact⟨qs,s _ _ h1 wZ,h2.imp fun a x z=>z.tr s⟩
theorem aAj.tr{C:Addr}{H H':Hp}{l:Addr}{ms:List MS}(h:aAj C H l ms)(s:Tr H H'):aAj C H' l ms:=by
 obtain⟨qs,h1,h2⟩:=h.ex
 exact⟨qs,s _ _ h1 wZ,h2.imp fun a x z=>z.tr s⟩
theorem aKq.tr{H H':Hp}{v:V}:∀{o:Option SS},aKq H v o->Tr H H'->aKq H' v o
 |none,h,_=>h
 |some s,⟨a,e,h⟩,t=>⟨a,e,h.tr t⟩
theorem aKr.tr{C:Addr}{H H':Hp}{v:V}:∀{o:Option SS},aKr C H v o->Tr H H'->aKr C H' v o
 |none,h,_=>h
 |some s,⟨a,e,h⟩,t=>⟨a,e,h.tr t⟩
structure aDE(H:Hp)(a:Addr)(W:WS):Prop where
 ex:∃ls st b,H a=some (.lst [.ref ls,st,.int W.lack,.ref b,.int W.wide])/\aAi H ls W.specs/\aKq H st W.store/\H b=some (.lst [.int W.x,.int W.y])
theorem aDE.tr{H H':Hp}{a:Addr}{W:WS}(h:aDE H a W)(s:Tr H H'):aDE H' a W:=by
 obtain⟨ls,st,b,h1,h2,h3,h4⟩:=h.ex
 exact⟨ls,st,b,s _ _ h1 (aDC (by simp)),h2.tr s,h3.tr s,s _ _ h4 (aDC (by simp))⟩
def wFs(lm:Addr)(st:V)(k:Int):List (Str×V):=[("machines",.ref lm),("store",st),("lack",.int k)]
structure aDF(CW CM CS:Addr)(H:Hp)(w:Addr)(W:WS):Prop where
 ex:∃dx lm st,H w=some (.ins CW dx (wFs lm st W.lack))/\aAj CM H lm W.specs/\aKr CS H st W.store
theorem aDF.tr{CW CM CS:Addr}{H H':Hp}{w:Addr}{W:WS}(h:aDF CW CM CS H w W)(s:Tr H H'):aDF CW CM CS H' w W:=by
 obtain⟨dx,lm,st,h1,h2,h3⟩:=h.ex
 exact⟨dx,lm,st,s _ _ h1 (aFZ (by simp[wFs])),h2.tr s,h3.tr s⟩
def VS(s:Int×Int):Prop:=Bit s.1/\0<=s.2
def aEP:List MS->List (Int×Int)->List Int->List (Int×Int)
 |m::ms,s::ss,o::os=>pE m s.1 s.2 o::aEP ms ss os
 |_,_,_=>[]
theorem aBm:∀{ms:List MS}{ss:List (Int×Int)}{os:List Int},ss.length=ms.length->os.length=ms.length->(aEP ms ss os).length=ms.length
 |[],_,_,_,_=>by simp[aEP]
 |m::ms,s::ss,o::os,h1,h2=>by
  show(pE m s.1 s.2 o::aEP ms ss os).length=_
  rw[List.length_cons,aBm (by simpa using h1) (by simpa using h2),List.length_cons]
 |_::_,[],_,h,_=>by cases h
 |_::_,_::_,[],_,h=>by cases h
theorem aEQ:∀{ms:List MS}{ss:List (Int×Int)}{os:List Int}{j:Nat}{m:MS}{s:Int×Int}{o:Int},ms[j]?=some m->ss[j]?=some s->os[j]?=some o->(aEP ms ss os)[j]?=some (pE m s.1 s.2 o)
 |m::ms,s::ss,o::os,0,_,_,_,h1,h2,h3=>by cases h1;cases h2;cases h3;rfl
 |m::ms,s::ss,o::os,j+1,_,_,_,h1,h2,h3=>by
  show(aEP ms ss os)[j]?=_
  exact aEQ h1 h2 h3
 |[],_,_,_,_,_,_,h,_,_=>by simp at h
 |_::_,[],_,_,_,_,_,_,h,_=>by simp at h
 |_::_,_::_,[],_,_,_,_,_,_,h=>by simp at h
def May(ss:List (Int×Int))(os:List Int):Prop:=∀(j:Nat) (s:Int×Int) (o:Int),ss[j]?=some s->os[j]?=some o->s.1=o\/s.2=0
def aJj(W:WS)(l:Int):Prop:=match W.store with|none=>l=0|some s=>0<=l/\l<=s.cap
def LvW(W:WS)(l n:Int):Prop:=match W.store with|none=>n=0|some s=>Lv s l n
structure aGK(W:WS)(P:Ps):Prop where
 len:P.1.length=W.specs.length
 vs:∀s∈P.1,VS s
 lev:aJj W P.2
def aM7(m:MS)(on out:Int):Prop:=(on=0->out=0)/\(on≠0->m.least<=out/\out<=m.least+aM6 m.pieces)
structure aDG(W:WS)(P:Ps)(h:Hr):Prop where
 ons:h.ons.length=W.specs.length
 outs:h.outs.length=W.specs.length
 bits:∀o∈h.ons,Bit o
 may:May P.1 h.ons
 out:∀(j:Nat) m on out,W.specs[j]?=some m->h.ons[j]?=some on->h.outs[j]?=some out->aM7 m on out
 lev:LvW W P.2 h.lev
def nxt(W:WS)(P:Ps)(h:Hr):Ps:=(aEP W.specs P.1 h.ons,h.lev)
theorem LvW.ok{W:WS}{l n:Int}(h:LvW W l n):aJj W n:=by
 unfold LvW at h
 unfold aJj
 cases e:W.store with
 |none=>rw[e] at h;exact h
 |some s=>rw[e] at h;exact⟨h.1,h.2.1⟩
theorem aDG.nxt{W:WS}{P:Ps}{h:Hr}(g:W.Good)(p:aGK W P)(x:aDG W P h):aGK W (nxt W P h):=by
 refine⟨aBm p.len x.ons,fun s hs=>?_,x.lev.ok⟩
 obtain⟨j,hj⟩:=List.getElem?_of_mem hs
 have hl:=aBm p.len x.ons
 have hj':j < W.specs.length:=by rw[<-hl];exact(List.getElem?_eq_some_iff.mp hj).1
 have g1:W.specs[j]?=some W.specs[j]:=List.getElem?_eq_getElem hj'
 have g2:P.1[j]?=some (P.1[j]'(by rw[p.len];exact hj')):=List.getElem?_eq_getElem _
 have g3:h.ons[j]?=some (h.ons[j]'(by rw[x.ons];exact hj')):=List.getElem?_eq_getElem _
 replace hj:(aEP W.specs P.1 h.ons)[j]?=some s:=hj
 rw[aEQ g1 g2 g3] at hj
 cases hj
 exact aFY (g.specs _ (List.getElem_mem hj')) (x.bits _ (List.mem_of_getElem? g3))
def tI(W:WS):Ps->List Hr->Prop
 |_,[]=>True
 |P,h::hs=>aDG W P h/\tI W (nxt W P h) hs
def aMf(W:WS):Ps->List Hr->Ps
 |P,[]=>P
 |P,h::hs=>aMf W (nxt W P h) hs
theorem tI.pos{W:WS}(g:W.Good):∀{P:Ps}{hs:List Hr},aGK W P->tI W P hs->aGK W (aMf W P hs)
 |_,[],p,_=>p
 |P,h::hs,p,x=>tI.pos (P:=nxt W P h) (hs:=hs) g (x.1.nxt g p) x.2
theorem tI.take{W:WS}:∀{P:Ps}{hs:List Hr}{i:Nat}{h:Hr},tI W P hs->hs[i]?=some h->tI W P (hs.take i)/\aDG W (aMf W P (hs.take i)) h
 |P,g::hs,0,h,x,e=>by cases e;exact⟨trivial,x.1⟩
 |P,g::hs,i+1,h,x,e=>by
  have:=tI.take (i:=i) (h:=h) x.2 e
  exact⟨⟨x.1,this.1⟩,this.2⟩
 |_,[],_,_,_,e=>by simp at e
theorem take_snoc{α:Type}{l:List α}{i:Nat}{x:α}(h:l[i]?=some x):l.take (i+1)=l.take i ++ [x]:=by
 rw[List.take_add_one,h];rfl
theorem RL.ix{α:Type}{P:Addr->α->Prop}{as:List Addr}{xs:List α}(h:RL P as xs){i:Nat}(hi:i < xs.length):∃a,as[i]?=some a/\P a xs[i]:=by
 have li:i < as.length:=by rw[h.len];exact hi
 have ha:as[i]?=some as[i]:=List.getElem?_eq_getElem li
 exact⟨as[i],ha,h.at_ i _ _ ha (List.getElem?_eq_getElem hi)⟩
theorem aAk{ns:List Int}{i:Nat}{x:V}(h:(ns.map V.int)[i]?=some x):∃n,ns[i]?=some n/\x=.int n:=by
 rw[List.getElem?_map] at h
 cases hq:ns[i]? with
 |none=>rw[hq] at h;cases h
 |some n=>rw[hq] at h;cases h;exact⟨n,rfl,rfl⟩
theorem m5{H H1 H2:Hp}{p:Addr}(np:H p=none)(s:aI H H1)(k:bS p H1 H2):aI H H2:=fun b o e=>k _ _ (s _ _ e) (bE np e)
theorem RL.take{α:Type}{P:Addr->α->Prop}{as:List Addr}{xs:List α}(h:RL P as xs)(i:Nat):RL P (as.take i) (xs.take i):=by
 refine⟨by rw[List.length_take,List.length_take,h.len],fun j a x h1 h2=>?_⟩
 rw[List.getElem?_take] at h1 h2
 split at h1
 ·rename_i hj
  rw[if_pos hj] at h2
  exact h.at_ j a x h1 h2
 ·cases h1
def aBT(K:W.Frag):Sp:=fun vs H Q _=>∃(p s:Addr) (m:MS),vs=[.ref p,.ref s]/\bB H p/\fB H s m/\m.Good/\
 ∀(t:Addr) (o d:Int) H',H' t=some (.tup [.int o,.int d])->((o=1/\0<=d/\d < m.up)\/(o=0/\0<=d/\d < 60))->bB H' p->bS p H H'->Q (.ref t) H'
theorem aBU{P:Program}{w:World}{K:PySem.W.Frag}{mg:Str->Option Value}{base:Heap}{a:kW}(tx:Txt K mg a):bO P w K mg base iB 2 a.lE a.lF ["_law_hand","_law_spec_here"] (aBT K):=by
 have aK:=cU (P:=P) (w:=w) (base:=base) tx
 refine tx.qH.ok aBK (fun vs H Q E h=>?_) (fun cdv A outer s H vs Q E hr h=>?_)
 ·obtain⟨p,s,m,rfl,_⟩:=h
  rfl
 ·obtain⟨p,s,m,rfl ,hh,hs,hg,k⟩:=h
  have hu:=kZ hr
  refine Z.root (Z.aD (Z.cK (Z.bH (r:=rD K) (gH hu) (Z.aF (aK) (hr.mono (by decide)) (by rfl) tx.aQ tx.aO.kp tx.aP .nil aU (Z.aE (Z.pv 0) (Z.aE Z.aA Z.aC))) Z.aA (bJ _)) (Z.aG (Z.aV (Z.rE Z.aA (Z.aF (aK) (hr.mono (by decide)) (by rfl) tx.aQ tx.aO.kp tx.aP .nil aU (Z.aE (Z.pv 0) (Z.aE (Z.aL (K':=K) (Z.pv 1) Z.aA (fun _ _=>rfl)) Z.aC)))))) Z.bF)
   (Z.aD (Z.cK (Z.bH (r:=rD K) (gH hu) (Z.aF (aK) (hr.mono (by decide)) (by rfl) tx.aQ tx.aO.kp tx.aP .nil aU (Z.aE (Z.pv 0) (Z.aE Z.aA Z.aC))) Z.aA (bJ _)) (Z.aG (Z.aV (Z.rE Z.aA (Z.aF (aK) (hr.mono (by decide)) (by rfl) tx.aQ tx.aO.kp tx.aP .nil aU (Z.aE (Z.pv 0) (Z.aE Z.aA Z.aC)))))) Z.bF)
   (Z.aG (Z.aV (Z.rE Z.aA (Z.aF (aK) (hr.mono (by decide)) (by rfl) tx.aQ tx.aO.kp tx.aP .nil aU (Z.aE (Z.pv 0) (Z.aE (Z.aL (K':=K) (Z.pv 1) Z.aA (fun _ _=>rfl)) Z.aC)))))))) ?_
  obtain⟨u0,u1⟩:=hg.up
  obtain⟨d0,d1⟩:=hg.down
  refine aR (σ:=[some (.ref p),some (.ref s)]) rfl ?_
  walk_at "w"
  refine⟨p,_,rfl,hh,by decide,by decide,fun r1 H1 a1 b1 h1 k1 _=>?_⟩
  have hs1:=hs.keep hh k1
  obtain⟨pl,e1,_⟩:=hs1.ex
  walk_at "w"
  refine cY (fun h=>?_) (fun h=>?_)
  ·walk_at "w"
   refine⟨p,_,rfl,h1,by omega,by omega,fun r2 H2 a2 b2 h2 k2 _=>?_⟩
   walk_at "w"
   intro T nT
   walk_at "w"
   exact k _ _ _ _ aH (.inl ⟨rfl,a2,b2⟩) (h2.same (aI.new nT)) (k1.trans (k2.trans (aI.new nT).keep))
  ·walk_at "w"
   refine⟨p,_,rfl,h1,by decide,by decide,fun r2 H2 a2 b2 h2 k2 _=>?_⟩
   have hs2:=hs1.keep h1 k2
   obtain⟨pl2,e2,_⟩:=hs2.ex
   walk_at "w"
   refine cY (fun h=>?_) (fun h=>?_)
   ·walk_at "w"
    refine⟨p,_,rfl,h2,by decide,by decide,fun r3 H3 a3 b3 h3 k3 _=>?_⟩
    walk_at "w"
    intro T nT
    walk_at "w"
    exact k _ _ _ _ aH (.inr ⟨rfl,a3,b3⟩) (h3.same (aI.new nT)) (k1.trans (k2.trans (k3.trans (aI.new nT).keep)))
   ·walk_at "w"
    refine⟨p,_,rfl,h2,by omega,by omega,fun r3 H3 a3 b3 h3 k3 _=>?_⟩
    walk_at "w"
    intro T nT
    walk_at "w"
    exact k _ _ _ _ aH (.inr ⟨rfl,a3,by omega⟩) (h3.same (aI.new nT)) (k1.trans (k2.trans (k3.trans (aI.new nT).keep)))
def aBV(K:W.Frag):Sp:=fun vs H Q _=>∃(s:Addr) (m:MS) (t:Addr) (o d on:Int),vs=[.ref s,.ref t,.int on]/\fB H s m/\H t=some (.tup [.int o,.int d])/\Bit on/\Bit o/\0<=d/\
 ((o=on\/d=0)->∀T H',aI H H'->H T=none->H' T=some (.tup [.int (pE m o d on).1,.int (pE m o d on).2])->Q (.ref T) H')/\(¬(o=on\/d=0)->Q .non H)
theorem aBW{P:Program}{w:World}{K:PySem.W.Frag}{mg:Str->Option Value}{base:Heap}{a:kW}(tx:Txt K mg a):bO P w K mg base iB 1 a.lG a.lH ["_law_spec_here","_law_state_here","_law_on"] (aBV K):=by
 refine tx.qI.ok aBL (fun vs H Q E h=>?_) (fun cdv A outer s H vs Q E hr h=>?_)
 ·obtain⟨s,m,t,o,d,on,rfl,_⟩:=h
  rfl
 ·obtain⟨s,m,t,o,d,on,rfl ,hs,ht,hon,ho,hd,k1,k2⟩:=h
  have hu:=kZ hr
  refine Z.root (Z.aD (Z.cK (Z.bH (r:=rD K) (gH hu) (Z.pv 2) (Z.aL (K':=K) (Z.pv 1) Z.aA (fun _ _=>rfl)) (bJ _)) (Z.aG (Z.aV (Z.rE (Z.pv 2) (Z.aN (mF rfl) (by rfl) tx.tG xV (Z.aE Z.aA (Z.aE (Z.aT gF (Z.aL (K':=K) (Z.pv 1) Z.aA (fun _ _=>rfl)) Z.aA) Z.aC)))))) Z.bF)
   (Z.aD (Z.cK (Z.bH aEd (Z.aL (K':=K) (Z.pv 1) Z.aA (fun _ _=>rfl)) Z.aA (bJ _)) (Z.aG (Z.aV Z.xK)) Z.bF)
   (Z.aG (Z.aV (Z.rE (Z.pv 2) (Z.aT gF (Z.aL (K':=K) (Z.aHd (Z.aL (K':=K) (Z.pv 0) Z.aA (fun _ _=>rfl)) (Z.aL (K':=K) (Z.pv 0) Z.aA (fun _ _=>rfl))) (Z.pv 2) (fun _ _=>rfl)) Z.aA)))))) ?_
  obtain⟨pl,e1,_⟩:=hs.ex
  refine aR (σ:=[some (.ref s),some (.ref t),some (.int on)]) rfl ?_
  walk_at "w"
  refine cY (fun h=>?_) (fun h=>?_)
  ·have k3:=k1 (.inl h.symm)
   unfold pE at k3
   rw[if_pos h.symm] at k3
   walk_at "w"
   rw[show max 0 (d - 1)=max (d - 1) 0 by omega]
   intro T nT
   walk_at "w"
   exact k3 _ _ (aI.new nT) nT aH
  ·walk_at "w"
   refine cY (fun h1=>?_) (fun h1=>?_)
   ·walk_at "w"
    exact k2 (fun z=>by rcases z with z|z;exact h z.symm;omega)
   ·have k3:=k1 (.inr (by omega))
    unfold pE at k3
    rw[if_neg (fun z=>h z.symm)] at k3
    walk_at "w"
    intro l nl
    walk_at "w"
    have sl:=aI.new (o:=.lst [.int m.down,.int m.up]) nl
    rcases hon with rfl|rfl
    ·refine aC7 (bG.of aH) rfl ?_
     rw[if_neg (by decide)] at k3
     walk_at "w"
     intro T nT
     walk_at "w"
     exact k3 _ _ (sl.trans (aI.new nT)) (sl.free nT) aH
    ·refine aC7 (bG.of aH) rfl ?_
     rw[if_pos rfl] at k3
     walk_at "w"
     intro T nT
     walk_at "w"
     exact k3 _ _ (sl.trans (aI.new nT)) (sl.free nT) aH
def flt(m:MS):Int->Int->List Int->Nat->V
 |_,_,[],_=>.non
 |o,d,on::r,i=>if o=on\/d=0 then flt m (pE m o d on).1 (pE m o d on).2 r (i+1) else .int i
theorem aGL{ns:List Int}{i:Nat}{n:Int}(h:ns[i]?=some n):ns.drop i=n::ns.drop (i+1):=by
 obtain⟨hi,e⟩:=List.getElem?_eq_some_iff.mp h
 rw[List.drop_eq_getElem_cons hi,e]
def aDH(K:W.Frag)(C:Addr):Sp:=fun vs H Q _=>∃(q:Addr) (m:MS) (t:Addr) (o d:Int) (p:Addr) (ns:List Int),vs=[.ref q,.ref t,.ref p]/\bW C H q m/\H t=some (.tup [.int o,.int d])/\H p=some (.lst (ns.map V.int))/\
 ∀H',aI H H'->Q (flt m o d ns 0) H'
theorem aDI{P:Program}{w:World}{K:PySem.W.Frag}{mg:Str->Option Value}{base:Heap}{a:kW}(tx:Txt K mg a):bO P w K mg base iB 3 a.nQ a.nR ["machine","state","run"] (aDH K a.aZ):=by
 have mZ:=t9 (P:=P) (w:=w) (base:=base) tx
 have gN:=mY (P:=P) (w:=w) (base:=base) tx
 refine tx.sO.ok lA (fun vs H Q E h=>?_) (fun cdv A outer s H vs Q E hr h=>?_)
 ·obtain⟨q,m,t,o,d,p,ns,rfl,_⟩:=h
  rfl
 ·obtain⟨q,m,t,o,d,p,ns,rfl ,hm,ht,hp,k⟩:=h
  have hu:=kZ hr
  refine Z.root (Z.aD (Z.cS PassesOwn.never rfl (Z.aAN (K':=K) (by rfl) tx.eA (Z.aE (Z.pv 2) Z.aC)) (Z.fE (K':=K) (n:=2) rfl (Z.bA (Z.aM (i:=3) lA.nd rfl (Or.inl rfl)) (Z.bA (Z.aM (i:=4) lA.nd rfl (Or.inl rfl)) Z.dJ))) (Z.aD (Z.cK (Z.oJ (Z.i0 (Z.aF (mZ) (hr.mono (by decide)) (by rfl) tx.sN tx.o5.kp tx.sM .nil aU (Z.aE (Z.pv 0) (Z.aE (Z.pv 1) (Z.aE (Z.pv 4) Z.aC)))))) (Z.aG (Z.aV (Z.pv 3))) Z.bF)
   (Z.aG (Z.aS (i:=1) lA.nd rfl (Or.inl rfl) (Z.aF (gN) (hr.mono (by decide)) (by rfl) tx.j7 tx.gL.kp tx.j0 .nil aU (Z.aE (Z.pv 0) (Z.aE (Z.pv 1) (Z.aE (Z.pv 4) Z.aC))))))))
   (Z.aG (Z.aV Z.xK))) ?_
  refine aR (σ:=[some (.ref q),some (.ref t),some (.ref p),none,none]) rfl ?_
  walk_at "w"
  refine aIF (bG.of hp) ?_
  refine aC8 (xs:=ns.map V.int) (fun i σ' H'=>∃t' o' d' x3 x4,σ'=[some (.ref q),some (.ref t'),some (.ref p),x3,x4]/\H' t'=some (.tup [.int o',.int d'])/\aI H H'/\flt m o' d' (ns.drop i) i=flt m o d ns 0)
   ⟨t,o,d,_,_,rfl,ht,aI.refl _,rfl⟩ (fun i σ' H' hi ⟨t',o',d',x3,x4,e,h1,h2,h3⟩=>bG.of (h2 _ _ hp)) (fun i x σ' H' T hx ⟨t',o',d',x3,x4,e,h1,h2,h3⟩ nT=>?_) (fun σ' H' ⟨t',o',d',x3,x4,e,h1,h2,h3⟩=>?_)
  ·subst e
   rw[List.getElem?_map] at hx
   obtain⟨n,hn,rfl⟩ : ∃n,ns[i]?=some n/\x=.int n:=by
    cases hq:ns[i]? with
    |none=>rw[hq] at hx;cases hx
    |some n=>rw[hq] at hx;cases hx;exact⟨n,rfl,rfl⟩
   rw[aGL hn] at h3
   have sT:=aI.new (o:=.tup [.int (i:Int),.int n]) nT
   refine fD (kL.of aH) rfl ?_
   walk_at "w"
   refine⟨_,_,_,_,_,rfl,sT _ _ h1,?_⟩
   walk_at "w"
   have h3':(if o'=n\/d'=0 then flt m (pE m o' d' n).1 (pE m o' d' n).2 (ns.drop (i+1)) (i+1) else .int i)=flt m o d ns 0:=h3
   by_cases hmay:o'=n\/d'=0
   ·rw[if_pos hmay] at h3'
    rw[show(decide (o'=n) || decide (d'=0))=true by rcases hmay with h|h <;> simp[h]]
    walk_at "w"
    refine⟨q,m,t',o',d',n,rfl,hm.same (h2.trans sT),sT _ _ h1,hmay,fun T2 H2 s2 nT2 hT2=>?_⟩
    walk_at "w"
    exact⟨T2,_,_,_,_,rfl,hT2,(h2.trans sT).trans s2,h3'⟩
   ·rw[if_neg hmay] at h3'
    rw[show(decide (o'=n) || decide (d'=0))=false by simp only[not_or] at hmay;simp[hmay.1,hmay.2]]
    walk_at "w"
    rw[<-h3'] at k
    exact k _ (h2.trans sT)
  ·subst e
   rw[List.length_map,List.drop_length] at h3
   walk_at "w"
   have h3':V.non=flt m o d ns 0:=h3
   rw[h3']
   exact k _ h2
def bgs:Int->List Int->Nat->List Int
 |_,[],_=>[]
 |o,on::r,i=>(if on=1/\o=0 then [(i:Int)] else [])++bgs on r (i+1)
def aHB(m:MS)(o:Int)(ns:List Int):Int:=m.begin_*((bgs o ns 0).length:Int)+m.run*(ns.count 1:Nat)+m.rest*(ns.count 0:Nat)
def zP(K:W.Frag)(C:Addr):Sp:=fun vs H Q _=>∃(q:Addr) (m:MS) (t:Addr) (o d:Int) (p:Addr) (ns:List Int),vs=[.ref q,.ref t,.ref p]/\bW C H q m/\H t=some (.tup [.int o,.int d])/\H p=some (.lst (ns.map V.int))/\
 flt m o d ns 0=.non/\∀H',aI H H'->Q .non H'
theorem zQ{P:Program}{w:World}{K:PySem.W.Frag}{mg:Str->Option Value}{base:Heap}{a:kW}(tx:Txt K mg a):bO P w K mg base iB 4 a.iP a.iQ ["machine","state","run"] (zP K a.aZ):=by
 have aER:=aDI (P:=P) (w:=w) (base:=base) tx
 refine tx.mQ.ok qZ (fun vs H Q E h=>?_) (fun cdv A outer s H vs Q E hr h=>?_)
 ·obtain⟨q,m,t,o,d,p,ns,rfl,_⟩:=h
  rfl
 ·obtain⟨q,m,t,o,d,p,ns,rfl ,hm,ht,hp,hf,k⟩:=h
  have hu:=kZ hr
  refine Z.root (Z.aD (Z.aS (i:=3) qZ.nd rfl (Or.inl rfl) (Z.aF (aER) (hr.mono (by decide)) (by rfl) tx.y4 tx.sO.kp tx.y3 .nil aU (Z.aE (Z.pv 0) (Z.aE (Z.pv 1) (Z.aE (Z.pv 2) Z.aC)))))
   (Z.aG (Z.cK (Z.bH xZ (Z.pv 3) Z.xK (bJ _)) (Z.aG Z.rH) Z.bF))) ?_
  refine aR (σ:=[some (.ref q),some (.ref t),some (.ref p),none]) rfl ?_
  walk_at "w"
  refine⟨q,m,t,o,d,p,ns,rfl,hm,ht,hp,fun H1 s1=>?_⟩
  rw[hf]
  walk_at "w"
  exact k _ s1
def aBX(K:W.Frag)(C:Addr):Sp:=fun vs H Q _=>∃(q:Addr) (m:MS) (t:Addr) (o d:Int) (p:Addr) (ns:List Int),vs=[.ref q,.ref t,.ref p]/\bW C H q m/\H t=some (.tup [.int o,.int d])/\H p=some (.lst (ns.map V.int))/\ns.length<=48/\
 flt m o d ns 0=.non/\∀c H',aI H H'->H c=none->H' c=some (.lst ((bgs o ns 0).map V.int))->Q (.ref c) H'
theorem aBY{P:Program}{w:World}{K:PySem.W.Frag}{mg:Str->Option Value}{base:Heap}{a:kW}(tx:Txt K mg a):bO P w K mg base iB 5 a.lJ a.lK ["machine","state","run"] (aBX K a.aZ):=by
 have aBn:=zQ (P:=P) (w:=w) (base:=base) tx
 refine tx.qJ.ok eX (fun vs H Q E h=>?_) (fun cdv A outer s H vs Q E hr h=>?_)
 ·obtain⟨q,m,t,o,d,p,ns,rfl,_⟩:=h
  rfl
 ·obtain⟨q,m,t,o,d,p,ns,rfl ,hm,ht,hp,hl,hn,k1⟩:=h
  have hu:=kZ hr
  refine Z.root (Z.aD (Z.iC (Z.aF (aBn) (hr.mono (by decide)) (by rfl) tx.sQ tx.mQ.kp tx.sP .nil aU (Z.aE (Z.pv 0) (Z.aE (Z.pv 1) (Z.aE (Z.pv 2) Z.aC)))))
   (Z.aD (Z.aS (i:=3) eX.nd rfl (Or.inl rfl) (Z.gG Z.aC))
   (Z.aD (Z.aS (i:=4) eX.nd rfl (Or.inl rfl) (Z.aL (K':=K) (Z.pv 1) Z.aA (fun _ _=>rfl)))
   (Z.aD (Z.cS PassesOwn.never rfl (Z.aAN (K':=K) (by rfl) tx.eA (Z.aE (Z.pv 2) Z.aC)) (Z.fE (K':=K) (n:=2) rfl (Z.bA (Z.aM (i:=5) eX.nd rfl (Or.inl rfl)) (Z.bA (Z.aM (i:=6) eX.nd rfl (Or.inl rfl)) Z.dJ))) (Z.aD (Z.cK (Z.aAM (Z.aAq (Z.bH (r:=rD K) (gH hu) (Z.pv 6) Z.aA (bJ _)) (Z.vQ (Z.bH (r:=rD K) (gH hu) (Z.pv 4) Z.aA (bJ _))))) (Z.aG (Z.iC (Z.nB (K':=K) (Z.pv 3) (Z.aE (Z.pv 5) Z.aC)))) Z.bF)
   (Z.aG (Z.aS (i:=4) eX.nd rfl (Or.inl rfl) (Z.pv 6)))))
   (Z.aG (Z.aV (Z.pv 3))))))) ?_
  refine aR (σ:=[some (.ref q),some (.ref t),some (.ref p),none,none,none,none]) rfl ?_
  walk_at "w"
  refine⟨q,m,t,o,d,p,ns,rfl,hm,ht,hp,hn,fun H1 s1=>?_⟩
  walk_at "w"
  intro c nc
  obtain⟨H2,i2,s2,g2⟩:=nw _ nc;rw[i2]
  have ht2:=(s1.trans s2) _ _ ht
  have hp2:=(s1.trans s2) _ _ hp
  have cp:c≠p:=fun z=>by rw[z] at nc;exact bE nc (s1 _ _ hp) rfl
  walk_at "w"
  refine aIF (bG.of hp2) ?_
  refine aC8 (xs:=ns.map V.int) (fun i σ' H'=>∃(a':Int) (bs:List Int) (x5 x6:Option V),σ'=[some (.ref q),some (.ref t),some (.ref p),some (.ref c),some (.int a'),x5,x6]/\H' c=some (.lst (bs.map V.int))/\bs.length<=i/\bs++bgs a' (ns.drop i) i=bgs o ns 0/\aI H1 H')
   ⟨o,[],_,_,rfl,g2,Nat.le_refl _,rfl,s2⟩ (fun i σ' H' hi ⟨a',bs,x5,x6,e,g,lb,eb,s'⟩=>bG.of (s' _ _ (s1 _ _ hp))) (fun i x σ' H' T hx ⟨a',bs,x5,x6,e,g,lb,eb,s'⟩ nT=>?_) (fun σ' H' ⟨a',bs,x5,x6,e,g,lb,eb,s'⟩=>?_)
  ·subst e
   rw[List.getElem?_map] at hx
   obtain⟨n,hn',rfl⟩:=Option.map_eq_some_iff.mp hx
   have hi:i < ns.length:=(List.getElem?_eq_some_iff.mp hn').1
   rw[aGL hn'] at eb
   obtain⟨H3,i3,s3,g3⟩:=nw (.tup [.int (i:Int),.int n]) nT;rw[i3]
   refine fD (kL.of g3) rfl ?_
   have g':=s3 _ _ g
   have eb':bs++((if n=1/\a'=0 then [(i:Int)] else [])++bgs n (ns.drop (i+1)) (i+1))=bgs o ns 0:=eb
   walk_at "w"
   refine cY (fun h1=>?_) (fun h1=>?_)
   ·walk_at "w"
    refine cY (fun h2=>?_) (fun h2=>?_)
    ·rw[if_pos ⟨h1,h2⟩,<-List.append_assoc] at eb'
     walk_at "w"
     refine oK (bG.of g') ?_
     walk_at "w"
     refine rO (xs:=bs.map V.int) g' (Nat.lt_of_lt_of_le (by rw[List.length_map];omega:(bs.map V.int).length < 1000) (bX (by simp))) ?_
     obtain⟨H4,i4,k4,g4⟩:=wr H3 c (.lst (bs.map V.int ++ [.int (i:Int)]));rw[i4]
     walk_at "w"
     exact⟨n,bs ++ [(i:Int)],_,_,rfl,by rw[g4,List.map_append];rfl,by rw[List.length_append];simp;exact lb,eb',fun b o e=>k4 _ _ (s3 _ _ (s' _ _ e)) (bE nc e)⟩
    ·rw[if_neg (fun z=>h2 z.2),List.nil_append] at eb'
     walk_at "w"
     exact⟨n,bs,_,_,rfl,g',by omega,eb',s'.trans s3⟩
   ·rw[if_neg (fun z=>h1 z.1),List.nil_append] at eb'
    walk_at "w"
    exact⟨n,bs,_,_,rfl,g',by omega,eb',s'.trans s3⟩
  ·subst e
   rw[List.length_map,List.drop_length] at eb
   rw[show bs++bgs a' [] ns.length=bs from List.append_nil bs] at eb
   walk_at "w"
   exact k1 c _ (s1.trans s') (s1.free nc) (by rw[<-eb];exact g)
def aES(K:W.Frag)(C:Addr):Sp:=fun vs H Q _=>∃(q:Addr) (m:MS) (t:Addr) (o d:Int) (p:Addr) (ns:List Int),vs=[.ref q,.ref t,.ref p]/\bW C H q m/\m.Good/\H t=some (.tup [.int o,.int d])/\H p=some (.lst (ns.map V.int))/\ns.length<=48/\
 flt m o d ns 0=.non/\∀H',aI H H'->Q (.int (aHB m o ns)) H'
theorem aET{P:Program}{w:World}{K:PySem.W.Frag}{mg:Str->Option Value}{base:Heap}{a:kW}(tx:Txt K mg a):bO P w K mg base iB 6 a.pY a.pZ ["machine","state","run"] (aES K a.aZ):=by
 have aDJ:=aBY (P:=P) (w:=w) (base:=base) tx
 refine tx.vD.ok yV (fun vs H Q E h=>?_) (fun cdv A outer s H vs Q E hr h=>?_)
 ·obtain⟨q,m,t,o,d,p,ns,rfl,_⟩:=h
  rfl
 ·obtain⟨q,m,t,o,d,p,ns,rfl ,hm,hg,ht,hp,hl,hn,k1⟩:=h
  have hu:=kZ hr
  refine Z.root (Z.aD (Z.aS (i:=3) yV.nd rfl (Or.inl rfl) (Z.aN (rc:=oV K) bY (by rfl) tx.fP eZ (Z.aE (Z.aF (aDJ) (hr.mono (by decide)) (by rfl) tx.wI tx.qJ.kp tx.wH .nil aU (Z.aE (Z.pv 0) (Z.aE (Z.pv 1) (Z.aE (Z.pv 2) Z.aC)))) Z.aC)))
   (Z.aG (Z.aV (Z.aT bK (Z.aT bK (Z.aT bV (Z.pO (K':=K) (Z.pv 0) rfl) (Z.pv 3)) (Z.aT bV (Z.pO (K':=K) (Z.pv 0) rfl) (Z.aCy (K':=K) (Z.pv 2) (Z.aE Z.aA Z.aC)))) (Z.aT bV (Z.pO (K':=K) (Z.pv 0) rfl) (Z.aCy (K':=K) (Z.pv 2) (Z.aE Z.aA Z.aC))))))) ?_
  obtain⟨b0,b1⟩:=hg.begin_
  obtain⟨u0,u1⟩:=hg.run
  obtain⟨r0,r1⟩:=hg.rest
  refine aR (σ:=[some (.ref q),some (.ref t),some (.ref p),none]) rfl ?_
  walk_at "w"
  refine⟨q,m,t,o,d,p,ns,rfl,hm,ht,hp,hl,hn,fun c H1 s1 nc gc=>?_⟩
  obtain⟨dx,pl,hq,_⟩:=(hm.same s1).ex
  have hp1:=s1 _ _ hp
  walk_at "w"
  refine uZ hq tx.cC tx.kO rfl ?_
  walk_at "w"
  refine uZ hq tx.cC tx.oR rfl ?_
  walk_at "w"
  refine oK (bG.of hp1) ?_
  walk_at "w"
  refine aEt (bG.of hp1) ?_
  walk_at "w"
  refine uZ hq tx.cC tx.mV rfl ?_
  walk_at "w"
  refine oK (bG.of hp1) ?_
  walk_at "w"
  refine aEt (bG.of hp1) ?_
  walk_at "w"
  rw[List.length_map]
  exact k1 _ s1
def Ok(m:MS):Int->Int->List Int->Prop
 |_,_,[]=>True
 |o,d,on::r=>(o=on\/d=0)/\Ok m (pE m o d on).1 (pE m o d on).2 r
def ed(m:MS):Int->Int->List Int->Int×Int
 |o,d,[]=>(o,d)
 |o,d,on::r=>ed m (pE m o d on).1 (pE m o d on).2 r
def St0(o d:Int):Prop:=Bit o/\0<=d/\d < 60
theorem St0.pE{m:MS}(g:m.Good){o d on:Int}(h:St0 o d)(b:Bit on):St0 (pE m o d on).1 (pE m o d on).2:=by
 obtain⟨h0,h1,h2⟩:=h
 refine⟨(aFY g b).1,(aFY g b).2,?_⟩
 have u:=g.up
 have v:=g.down
 unfold My.pE
 split
 ·show max (d - 1) 0 < 60;omega
 ·split
  ·show m.up - 1 < 60;omega
  ·show m.down - 1 < 60;omega
def tP(m:MS)(on:Int)(f:Int->Int->Int)(o d:Int):Int:=if o=on\/d=0 then f (pE m o d on).1 (pE m o d on).2 else 0
def tB(m:MS)(f:Int->Int->Int)(o d:Int):Int:=tP m 0 f o d+tP m 1 f o d
def one(_ _:Int):Int:=1
abbrev WP:=(Int×Int)×Int
def jK(k:Int×Int):List Key:=[.inl k.1,.inl k.2]
def enc(ps:List WP):List (List Key×V):=ps.map fun p=>(jK p.1,V.int p.2)
theorem tJ{a b:Int×Int}(h:jK a=jK b):a=b:=by
 unfold jK at h
 simp only[List.cons.injEq,Sum.inl.injEq,and_true] at h
 exact Prod.ext h.1 h.2
def eR(ps:List WP)(k:Int×Int):Option Int:=(ps.find? fun p=>decide (p.1=k)).map (·.2)
def addW(ps:List WP)(k:Int×Int)(v:Int):List WP:=if ps.any (fun p=>decide (p.1=k)) then ps.map (fun p=>if p.1=k then (p.1,v) else p) else ps ++ [(k,v)]
theorem aAl(ps:List WP)(k:Int×Int):oU (enc ps) (jK k)=(eR ps k).map V.int:=by
 unfold oU eR enc
 induction ps with
 |nil=>rfl
 |cons p r ih=>
  by_cases h:p.1=k
  ·simp[h]
  ·have:jK p.1≠jK k:=fun z=>h (tJ z)
   simp only[List.map_cons,List.find?_cons,this,h,decide_false]
   exact ih
theorem aKs(ps:List WP)(k:Int×Int)(v:Int):putK (enc ps) (jK k) (.int v)=enc (addW ps k v):=by
 unfold putK addW enc
 have e:((ps.map fun p:WP=>(jK p.1,V.int p.2)).any fun kv=>decide (kv.1=jK k))=ps.any fun p=>decide (p.1=k):=by
  rw[List.any_map]
  congr 1
  funext p
  show decide (jK p.1=jK k)=decide (p.1=k)
  exact decide_eq_decide.mpr ⟨tJ,fun z=>by rw[z]⟩
 rw[e]
 split
 ·rw[List.map_map,List.map_map]
  congr 1
  funext p
  show(if jK p.1=jK k then (jK p.1,V.int v) else (jK p.1,V.int p.2))=(jK (if p.1=k then (p.1,v) else p).1,V.int (if p.1=k then (p.1,v) else p).2)
  by_cases h:p.1=k
  ·rw[if_pos h,if_pos (by rw[h])]
  ·rw[if_neg h,if_neg fun z=>h (tJ z)]
 ·rw[List.map_append]
  rfl
def wsum(f:Int->Int->Int)(ps:List WP):Int:=List.sum (ps.map fun p=>p.2*f p.1.1 p.1.2)
theorem aCN(f:Int->Int->Int)(p:WP)(ps:List WP):wsum f (p::ps)=p.2*f p.1.1 p.1.2+wsum f ps:=rfl
theorem aJk(f:Int->Int->Int)(ps qs:List WP):wsum f (ps++qs)=wsum f ps+wsum f qs:=by
 unfold wsum
 rw[List.map_append,List.sum_append]
theorem aKt{ps:List WP}{k:Int×Int}{c:Int}(nd:(ps.map (·.1)).Nodup):((addW ps k ((eR ps k).getD 0+c)).map (·.1)).Nodup/\(∀p∈addW ps k ((eR ps k).getD 0+c),p.1=k\/∃q∈ps,q.1=p.1)/\∀f,wsum f (addW ps k ((eR ps k).getD 0+c))=wsum f ps+c*f k.1 k.2:=by
 unfold addW
 by_cases h:ps.any (fun p=>decide (p.1=k))=true
 ·rw[if_pos h]
  refine⟨?_,fun p hp=>?_,fun f=>?_⟩
  ·rw[List.map_map]
   have e:((fun p:WP=>p.1) ∘ fun p:WP=>if p.1=k then (p.1,(eR ps k).getD 0+c) else p)=fun p=>p.1:=by
    funext p
    show(if p.1=k then (p.1,(eR ps k).getD 0+c) else p).1=p.1
    split <;> rfl
   rw[e]
   exact nd
  ·obtain⟨q,hq,rfl⟩:=List.mem_map.mp hp
   refine .inr ⟨q,hq,?_⟩
   split <;> rfl
  ·have key:∀(qs:List WP),(qs.map (·.1)).Nodup->qs.any (fun p=>decide (p.1=k))=true->∀v,(eR qs k).getD 0+c=v->wsum f (qs.map fun p=>if p.1=k then (p.1,v) else p)=wsum f qs+c*f k.1 k.2:=by
    intro qs
    induction qs with
    |nil=>intro _ z;cases z
    |cons p r ih=>
     intro nd h v hv
     rw[List.map_cons,List.nodup_cons] at nd
     rw[List.map_cons,aCN,aCN]
     by_cases hp:p.1=k
     ·have hn:∀q∈r,¬q.1=k:=fun q hq z=>nd.1 (List.mem_map.mpr ⟨q,hq,by rw[z,hp]⟩)
      have e1:(r.map fun p=>if p.1=k then (p.1,v) else p)=r:=by
       conv=>rhs;rw[<-List.map_id r]
       exact List.map_congr_left fun q hq=>if_neg (hn q hq)
      have e2:eR (p::r) k=some p.2:=by unfold eR;simp[hp]
      rw[e2] at hv
      rw[e1,if_pos hp,<-hv,hp]
      show(p.2+c)*f k.1 k.2+wsum f r=_
      rw[Int.add_mul]
      omega
     ·have h':r.any (fun p=>decide (p.1=k))=true:=by simpa [hp] using h
      have e2:eR (p::r) k=eR r k:=by unfold eR;simp[hp]
      rw[e2] at hv
      rw[if_neg hp,ih nd.2 h' v hv]
      omega
   exact key ps nd h _ rfl
 ·have hn:eR ps k=none:=by
   unfold eR
   rw[Option.map_eq_none_iff,List.find?_eq_none]
   intro p hp z
   exact h (List.any_eq_true.mpr ⟨p,hp,z⟩)
  rw[if_neg h,hn]
  refine⟨?_,fun p hp=>?_,fun f=>?_⟩
  ·rw[List.map_append,List.nodup_append]
   refine⟨nd,by simp,fun a ha b hb=>?_⟩
   rw[List.map_cons,List.map_nil,List.mem_singleton] at hb
   rintro rfl
   obtain⟨q,hq,e⟩:=List.mem_map.mp ha
   exact h (List.any_eq_true.mpr ⟨q,hq,by simpa using e.trans hb⟩)
  ·rcases List.mem_append.mp hp with z|z
   ·exact .inr ⟨p,z,rfl⟩
   ·rw[List.mem_singleton.mp z];exact .inl rfl
  ·rw[aJk]
   show _+((0+c)*f k.1 k.2+0)=_
   rw[Int.zero_add,Int.add_zero]
theorem aJl:∀(n:Nat) (l:List Nat),l.Nodup->(∀x∈l,x < n)->l.length<=n
 |0,l,_,h=>by
  cases l with
  |nil=>exact Nat.le_refl _
  |cons x r=>exact absurd (h x (.head _)) (by omega)
 |n+1,l,nd,h=>by
  have:=aJl n (l.erase n) (nd.erase n) (fun x hx=>by
   have h1:=(nd.mem_erase_iff.mp hx)
   have:=h x h1.2
   have:=h1.1
   omega)
  rw[List.length_erase] at this
  split at this <;> omega
structure aBZ(ps:List WP):Prop where
 nd:(ps.map (·.1)).Nodup
 st:∀p∈ps,St0 p.1.1 p.1.2
theorem aBZ.len{ps:List WP}(h:aBZ ps):ps.length<=120:=by
 have:=aJl 120 ((ps.map (·.1)).map fun k=>(k.1*60+k.2).toNat) (by
  rw[List.Nodup,List.pairwise_map]
  refine h.nd.imp_of_mem ?_
  intro a b ha hb hab z
  obtain⟨p,hp,rfl⟩:=List.mem_map.mp ha
  obtain⟨q,hq,rfl⟩:=List.mem_map.mp hb
  obtain⟨a1,a2,a3⟩:=h.st p hp
  obtain⟨b1,b2,b3⟩:=h.st q hq
  refine hab (Prod.ext ?_ ?_)
  ·rcases a1 with a1|a1 <;> rcases b1 with b1|b1 <;> rw[a1,b1] <;> rw[a1,b1] at z <;> omega
  ·rcases a1 with a1|a1 <;> rcases b1 with b1|b1 <;> rw[a1,b1] at z <;> omega) (fun x hx=>by
  obtain⟨k,hk,rfl⟩:=List.mem_map.mp hx
  obtain⟨p,hp,rfl⟩:=List.mem_map.mp hk
  obtain⟨a1,a2,a3⟩:=h.st p hp
  rcases a1 with a1|a1 <;> rw[a1] <;> omega)
 simpa using this
theorem aBZ.add{ps:List WP}(h:aBZ ps){k:Int×Int}(hk:St0 k.1 k.2)(c:Int):aBZ (addW ps k ((eR ps k).getD 0+c)):=by
 obtain⟨h1,h2,_⟩:=aKt (k:=k) (c:=c) h.nd
 refine⟨h1,fun p hp=>?_⟩
 rcases h2 p hp with z|⟨q,hq,z⟩
 ·rw[z];exact hk
 ·rw[<-z];exact h.st q hq
section
variable{α:Type}
abbrev Wy(α:Type):=Int×α×Int
def dY(f:α->Int):List (Wy α)->Int
 |[]=>0
 |[w]=>w.2.2+f w.2.1
 |w::v::r=>min (w.2.2+f w.2.1) (dY f (v::r))
theorem uA(f:α->Int):∀{ws:List (Wy α)}{w:Wy α},w∈ws->dY f ws<=w.2.2+f w.2.1
 |[],_,h=>by cases h
 |[w],v,h=>by rw[List.mem_singleton.mp h];exact Int.le_refl _
 |w::v::r,u,h=>by
  show min _ _<=_
  rcases List.mem_cons.mp h with rfl|h
  ·omega
  ·have:=uA f h;omega
theorem m6(f:α->Int):∀{ws:List (Wy α)},ws≠[]->∃w∈ws,w.2.2+f w.2.1=dY f ws
 |[],h=>absurd rfl h
 |[w],_=>⟨w,.head _,rfl⟩
 |w::v::r,_=>by
  obtain⟨u,hu,e⟩:=m6 f (ws:=v::r) (by simp)
  by_cases h:w.2.2+f w.2.1<=dY f (v::r)
  ·exact⟨w,.head _,by show _=min _ _;omega⟩
  ·exact⟨u,List.mem_cons_of_mem _ hu,by show _=min _ _;omega⟩
theorem aHC{f:α->Int}{ws:List (Wy α)}{m:Int}(h1:∃w∈ws,w.2.2+f w.2.1=m)(h2:∀w∈ws,m<=w.2.2+f w.2.1):m=dY f ws:=by
 obtain⟨w,hw,e⟩:=h1
 have a:=uA f hw
 obtain⟨u,hu,e2⟩:=m6 f (ws:=ws) (fun z=>by rw[z] at hw;cases hw)
 have b:=h2 u hu
 omega
def wF(W:Nat->α->List (Wy α)):Nat->Nat->α->Int
 |0,_,_=>0
 |k+1,i,x=>dY (wF W k (i+1)) (W i x)
def kR(f:α->Int)(ws:List (Wy α)):Option (Wy α):=ws.find? fun w=>decide (w.2.2+f w.2.1=dY f ws)
theorem aEU(f:α->Int){ws:List (Wy α)}(h:ws≠[]):∃w,kR f ws=some w/\w∈ws/\w.2.2+f w.2.1=dY f ws:=by
 obtain⟨u,hu,e⟩:=m6 f h
 cases q:kR f ws with
 |none=>
  unfold kR at q
  rw[List.find?_eq_none] at q
  exact absurd (decide_eq_true e) (q u hu)
 |some w=>
  unfold kR at q
  exact⟨w,rfl,List.mem_of_find?_eq_some q,of_decide_eq_true (List.find?_some (p:=fun w:Wy α=>decide (w.2.2+f w.2.1=dY f ws)) q)⟩
def vL(W:Nat->α->List (Wy α)):Nat->Nat->α->List Int
 |0,_,_=>[]
 |k+1,i,x=>match kR (wF W k (i+1)) (W i x) with
  |none=>[]
  |some w=>w.1::vL W k (i+1) w.2.1
def aEV(W:Nat->α->List (Wy α)):Nat->α->List Int->Option Int
 |_,_,[]=>some 0
 |i,x,c::r=>match (W i x).find? fun w=>decide (w.1=c) with
  |none=>none
  |some w=>(aEV W (i+1) w.2.1 r).map (w.2.2 + ·)
structure Lay(W:Nat->α->List (Wy α))(n:Nat)(L:Nat->α->Prop):Prop where
 ne:∀i x,i < n->L i x->W i x≠[]
 on:∀i x w,i < n->L i x->w∈W i x->L (i+1) w.2.1
theorem aKH{W:Nat->α->List (Wy α)}:∀{row:List Int}{i:Nat}{x:α}{v:Int},aEV W i x row=some v->wF W row.length i x<=v
 |[],_,_,v,h=>by cases h;exact Int.le_refl _
 |c::r,i,x,v,h=>by
  unfold aEV at h
  cases q:(W i x).find? fun w=>decide (w.1=c) with
  |none=>rw[q] at h;cases h
  |some w=>
   rw[q] at h
   obtain⟨u,hu,rfl⟩:=Option.map_eq_some_iff.mp h
   have a:=aKH hu
   have b:=uA (wF W r.length (i+1)) (List.mem_of_find?_eq_some q)
   show dY (wF W r.length (i+1)) (W i x)<=w.2.2+u
   omega
def aF3(ws:List (Wy α)):Prop:=ws.Pairwise fun a b=>a.1 < b.1
theorem aCO{ws:List (Wy α)}(h:aF3 ws){w:Wy α}(hw:w∈ws):(ws.find? fun v=>decide (v.1=w.1))=some w:=by
 induction ws with
 |nil=>cases hw
 |cons a r ih=>
  obtain⟨h1,h2⟩:=List.pairwise_cons.mp h
  rw[List.find?_cons]
  rcases List.mem_cons.mp hw with rfl|hw
  ·simp
  ·have:=h1 w hw
   rw[decide_eq_false (by omega)]
   exact ih h2 hw
theorem aDK{W:Nat->α->List (Wy α)}{n:Nat}{L:Nat->α->Prop}(hl:Lay W n L)(hr:∀i x,aF3 (W i x)):∀(k i:Nat) (x:α),i+k<=n->L i x->aEV W i x (vL W k i x)=some (wF W k i x)/\(vL W k i x).length=k
 |0,_,_,_,_=>⟨rfl,rfl⟩
 |k+1,i,x,hk,hx=>by
  obtain⟨w,e1,e2,e3⟩:=aEU (wF W k (i+1)) (hl.ne i x (by omega) hx)
  obtain⟨h1,h2⟩:=aDK hl hr k (i+1) w.2.1 (by omega) (hl.on i x w (by omega) hx e2)
  have e:vL W (k+1) i x=w.1::vL W k (i+1) w.2.1:=by
   show(match kR (wF W k (i+1)) (W i x) with|none=>[]|some w=>w.1::vL W k (i+1) w.2.1)=_
   rw[e1]
  rw[e]
  refine⟨?_,by rw[List.length_cons,h2]⟩
  unfold aEV
  rw[aCO (hr i x) e2]
  show Option.map (w.2.2 + ·) (aEV W (i+1) w.2.1 (vL W k (i+1) w.2.1))=_
  rw[h1]
  show some (w.2.2+wF W k (i+1) w.2.1)=some (dY (wF W k (i+1)) (W i x))
  rw[e3]
theorem aGM{β:Type}{p:β->Bool}:∀{l:List β}{j:Nat}{w:β},l[j]?=some w->(∀x∈l.take j,p x=false)->p w=true->l.find? p=some w
 |[],_,_,h,_,_=>by simp at h
 |a::r,0,w,h,_,hp=>by
  cases h
  rw[List.find?_cons,hp]
 |a::r,j+1,w,h,hn,hp=>by
  rw[List.find?_cons,hn a (by rw[List.take_succ_cons];exact .head _)]
  exact aGM (l:=r) (j:=j) h (fun x hx=>hn x (by rw[List.take_succ_cons];exact List.mem_cons_of_mem _ hx)) hp
end
inductive PK (α:Type) where
 |ik (f:α->Key) (inj:∀x y,f x=f y->x=y)
 |tk (f:α->List Key) (inj:∀x y,f x=f y->x=y)
def PK.pv{α:Type}:PK α->Hp->V->α->Prop
 |.ik f _,_,v,x=>v=kV (f x)
 |.tk f _,H,v,x=>∃b,v=.ref b/\H b=some (.tup ((f x).map kV))
def PK.da{α:Type}:PK α->Hp->Addr->List α->(α->Int)->Prop
 |.ik f _,H,d,ps,g=>H d=some (.dK (ps.map fun x=>(f x,.int (g x))))
 |.tk f _,H,d,ps,g=>H d=some (.dT (ps.map fun x=>(f x,.int (g x))))
section
variable{α:Type}{κ:PK α}{H H':Hp}{v:V}{x:α}{d:Addr}{ps:List α}{g g':α->Int}
theorem PK.oF(h:κ.pv H v x)(s:aI H H'):κ.pv H' v x:=by
 cases κ with
 |ik f i=>exact h
 |tk f i=>obtain⟨b,e,hb⟩:=h;exact⟨b,e,s _ _ hb⟩
theorem PK.oG(h:κ.da H d ps g)(s:aI H H'):κ.da H' d ps g:=by
 cases κ with
 |ik f i=>exact s _ _ h
 |tk f i=>exact s _ _ h
theorem rJ{κ':Type}[DecidableEq κ']{f:α->κ'}(inj:∀x y,f x=f y->x=y){g:α->Int}{x:α}:∀{ps:List α},x∈ps->oU (ps.map fun x=>(f x,V.int (g x))) (f x)=some (.int (g x))
 |[],h=>by cases h
 |y::r,h=>by
  rw[List.map_cons]
  by_cases e:f y=f x
  ·rw[kC (show(f y,V.int (g y)).1=f x from e),inj _ _ e]
  ·rw[iE (show ¬(f y,V.int (g y)).1=f x from e)]
   rcases List.mem_cons.mp h with rfl|h
   ·exact absurd rfl e
   ·exact rJ inj h
theorem aCP{κ':Type}[DecidableEq κ']{f:α->κ'}(inj:∀x y,f x=f y->x=y){g:α->Int}{x:α}:∀{ps:List α},x∉ps->oU (ps.map fun x=>(f x,V.int (g x))) (f x)=none
 |[],_=>rfl
 |y::r,h=>by
  rw[List.map_cons,iE (show ¬(f y,V.int (g y)).1=f x from fun z=>h (by rw[inj _ _ z];exact .head _))]
  exact aCP inj fun z=>h (List.mem_cons_of_mem _ z)
theorem PK.get(h:κ.da H d ps g)(hv:κ.pv H v x)(hx:x∈ps):kE H d v (some (.int (g x))):=by
 cases κ with
 |ik f i=>
  have hv':v=kV (f x):=hv
  subst hv'
  have z:=kE.k (k:=f x) (show H d=some (.dK _) from h)
  rw[rJ i hx] at z
  exact z
 |tk f i=>
  obtain⟨b,rfl,hb⟩:=hv
  have z:=kE.t (show H d=some (.dT _) from h) hb
  rw[rJ i hx] at z
  exact z
theorem aAA{κ':Type}[DecidableEq κ']{f:α->κ'}(inj:∀x y,f x=f y->x=y){g:α->Int}{x:α}{ps:List α}(hx:x∉ps):putK (ps.map fun x=>(f x,V.int (g x))) (f x) (.int (g x))=(ps ++ [x]).map fun x=>(f x,V.int (g x)):=by
 unfold putK
 rw[vV,aCP inj hx,List.map_append]
 rfl
theorem PK.put(h:κ.da H d ps g)(hv:κ.pv H v x)(hx:x∉ps)(hl:ps.length < 1000000):∃H',aAC H d v (.int (g x)) H'/\κ.da H' d (ps ++ [x]) g/\bS d H H':=by
 have lt:ps.length < sizeLine:=Nat.lt_of_lt_of_le hl (bX (by decide))
 cases κ with
 |ik f i=>
  have hv':v=kV (f x):=hv
  subst hv'
  refine⟨_,aAC.k (k:=f x) (show H d=some (.dK _) from h) (by rw[List.length_map];exact lt),?_,bS.upd⟩
  show upd H d _ d=_
  rw[aH,aAA i hx]
 |tk f i=>
  obtain⟨b,rfl,hb⟩:=hv
  refine⟨_,aAC.t (show H d=some (.dT _) from h) hb (by rw[List.length_map];exact lt),?_,bS.upd⟩
  show upd H d _ d=_
  rw[aH,aAA i hx]
theorem PK.new{σ:St}{Q:VK}(κ:PK α)(g:α->Int)(h:∀p H',H p=none->aI H H'->κ.da H' p [] g->Q (.ref p) H'):aAW σ H Q:=by
 cases κ with
 |ik f i=>exact aHm fun p np=>h p _ np (aI.new np) aH
 |tk f i=>exact aCD fun p np=>h p _ np (aI.new np) aH
theorem PK.aJm{xs:List V}(h:κ.da H d ps g)(e:H d=some (.lst xs)):False:=by
 cases κ with
 |ik f i=>have h':H d=some (.dK _):=h;rw[e] at h';cases h'
 |tk f i=>have h':H d=some (.dT _):=h;rw[e] at h';cases h'
def zB(κ:PK α)(H:Hp)(a:Addr)(w:Wy α):Prop:=∃v,H a=some (.tup [.int w.1,v,.int w.2.2])/\κ.pv H v w.2.1
theorem zB.same{a:Addr}{w:Wy α}(h:zB κ H a w)(s:aI H H'):zB κ H' a w:=let ⟨v,e,p⟩:=h;⟨v,s _ _ e,κ.oF p s⟩
structure qU(κ:PK α)(H:Hp)(l:Addr)(ws:List (Wy α)):Prop where
 ex:∃as,H l=some (.lst (as.map V.ref))/\RL (zB κ H) as ws
theorem qU.same{l:Addr}{ws:List (Wy α)}(h:qU κ H l ws)(s:aI H H'):qU κ H' l ws:=let ⟨as,e,r⟩:=h.ex;⟨as,s _ _ e,r.imp fun _ _ z=>z.same s⟩
structure qV(κ:PK α)(C:Addr->Sp->Prop)(H:Hp)(f:Addr)(W:Nat->α->List (Wy α))(L:Nat->α->Prop):Prop where
 ex:∃spc,C f spc/\∀(H':Hp) (h:Nat) (v:V) (x:α) (Q:VK),aI H H'->L h x->κ.pv H' v x->(∀l H'',aI H' H''->qU κ H'' l (W h x)->Q (.ref l) H'')->spc [.int (h:Int),v] H' Q E0
theorem qV.same{C:Addr->Sp->Prop}{f:Addr}{W:Nat->α->List (Wy α)}{L:Nat->α->Prop}(h:qV κ C H f W L)(s:aI H H'):qV κ C H' f W L:=
 let ⟨spc,c,p⟩:=h.ex;⟨spc,c,fun H2 a v x Q s2=>p H2 a v x Q (s.trans s2)⟩
def PVs(κ:PK α)(H:Hp)(vs:List V)(ps:List α):Prop:=vs.length=ps.length/\∀(i:Nat) v x,vs[i]?=some v->ps[i]?=some x->κ.pv H v x
theorem PVs.same{vs:List V}(h:PVs κ H vs ps)(s:aI H H'):PVs κ H' vs ps:=⟨h.1,fun i v x h1 h2=>κ.oF (h.2 i v x h1 h2) s⟩
theorem PVs.get{vs:List V}(h:PVs κ H vs ps){i:Nat}{v:V}(e:vs[i]?=some v):∃x,ps[i]?=some x/\κ.pv H v x:=by
 have li:i < ps.length:=by rw[<-h.1];exact(List.getElem?_eq_some_iff.mp e).1
 exact⟨_,List.getElem?_eq_getElem li,h.2 i v _ e (List.getElem?_eq_getElem li)⟩
end
theorem cJ{α:Type}{l:List α}{i:Nat}{x:α}(h:l[i]?=some x):l.take (i+1)=l.take i ++ [x]:=by rw[List.take_add_one,h];rfl
theorem RL.gt{α:Type}{P:Addr->α->Prop}{as:List Addr}{xs:List α}(h:RL P as xs){i:Nat}{v:V}(hv:(as.map V.ref)[i]?=some v):∃a x,as[i]?=some a/\v=.ref a/\xs[i]?=some x/\P a x:=by
 rw[List.getElem?_map] at hv
 obtain⟨a,e,rfl⟩:=Option.map_eq_some_iff.mp hv
 have li:i < xs.length:=by rw[<-h.len];exact(List.getElem?_eq_some_iff.mp e).1
 exact⟨a,xs[i],e,rfl,List.getElem?_eq_getElem li,h.at_ i a _ e (List.getElem?_eq_getElem li)⟩
def aEW(K:W.Frag):Sp:=fun vs H Q _=>∃(α:Type) (κ:PK α) (l d:Addr) (ws:List (Wy α)) (ps:List α) (g:α->Int),vs=[.ref l,.ref d]/\qU κ H l ws/\κ.da H d ps g/\ws≠[]/\ws.length<=10000/\(∀w∈ws,w.2.1∈ps)/\
 ∀H',aI H H'->Q (.int (dY g ws)) H'
theorem zC{P:Program}{w:World}{K:PySem.W.Frag}{mg:Str->Option Value}{base:Heap}{a:kW}(tx:Txt K mg a):bO P w K mg base iB 1 a.p9 a.qA ["ways","behind"] (aEW K):=by
 refine tx.qK.ok aEH (fun vs H Q E h=>?_) (fun cdv A outer s H vs Q E hr h=>?_)
 ·obtain⟨α,κ,l,d,ws,ps,g,rfl,_⟩:=h
  rfl
 ·obtain⟨α,κ,l,d,ws,ps,g,rfl ,hw,hd,hne,hlen,hin,k⟩:=h
  have hu:=kZ hr
  refine Z.root (Z.aG (Z.aV (Z.aN (rc:=aGz K) (aCC rfl) (by rfl) tx.uS aAH (Z.aE (Z.cO (k:=3) (idx:=[1]) (N:=["choice","later","worth","behind"]) (cF (sc:=aB gQ) (NX:=["ways","behind"]) rfl rfl rfl (by decide +kernel)) rfl (Z.bQ (K':=K) (Z.pv 0)) (fun _ _ _ _=>(Z.fE (K':=K) (n:=3) rfl (Z.bA (Z.aM (i:=0) (show(["choice","later","worth","behind"]:List Str).Nodup by decide +kernel) rfl (Or.inl rfl)) (Z.bA (Z.aM (i:=1) (show(["choice","later","worth","behind"]:List Str).Nodup by decide +kernel) rfl (Or.inl rfl)) (Z.bA (Z.aM (i:=2) (show(["choice","later","worth","behind"]:List Str).Nodup by decide +kernel) rfl (Or.inl rfl)) Z.dJ))))) (nA (bP (by decide) (bP (by decide) (bP (by decide) kG)))) (fun _ _ _ _=>Z.cG) (fun _ _ _ _=>(Z.aT bK (Z.pv 2) (Z.rQ hu (Z.pv 3) (Z.pv 1))))) Z.aC)))) ?_
  obtain⟨as,gl,rl⟩:=hw.ex
  have las:=rl.len
  refine aR (σ:=[some (.ref l),some (.ref d)]) rfl ?_
  walk_at "w"
  refine fH (bG.of gl) ?_
  refine cB (xs:=as.map V.ref) (fun j us H'=>H'=H/\us=(((ws.take j).map fun w=>w.2.2+g w.2.1).map V.int)) ⟨rfl,rfl⟩ (bX (by rw[List.length_map];omega))
   (fun j us H' hj ⟨e0,e1⟩=>⟨by rw[e0];exact bG.of gl,by rw[e1,List.length_map,List.length_map,List.length_take];omega⟩) (fun j v us H' hv ⟨e0,e1⟩=>?_) (fun us H' ⟨e0,e1⟩=>?_)
  ·subst e0
   obtain⟨a1,w,ea,rfl,ew,vv,g1,hp⟩:=rl.gt hv
   refine fD (kL.of g1) rfl ?_
   walk_at "w"
   refine⟨d,_,rfl,κ.get hd hp (hin w (List.mem_of_getElem? ew)),?_⟩
   walk_at "w"
   refine⟨rfl,?_⟩
   rw[e1,cJ ew,List.map_append,List.map_append]
   rfl
  subst e0 e1
  rw[List.length_map,las,List.take_length]
  intro l2 n2
  obtain⟨H2,i2,s2,g2⟩:=nw _ n2;rw[i2]
  walk_at "w"
  refine aGA (bG.of g2) (by simpa using hne) fun m hm hle=>?_
  have e:m=dY g ws:=aHC (by
   obtain⟨w,hw,e⟩:=List.mem_map.mp hm
   exact⟨w,hw,e⟩) fun w hw=>hle _ (List.mem_map.mpr ⟨w,hw,rfl⟩)
  rw[e]
  exact k H2 s2
def zR(K:PySem.W.Frag)(C:Addr->Sp->Prop):Sp:=fun vs H Q _=>∃(α:Type) (κ:PK α) (lp d f:Addr) (h:Nat) (us:List V) (ps bs:List α) (g:α->Int) (W:Nat->α->List (Wy α)) (L:Nat->α->Prop),vs=[.ref lp,.int (h:Int),.ref d,.ref f]/\
 H lp=some (.lst us)/\PVs κ H us ps/\ps.Nodup/\ps.length<=10000/\κ.da H d bs g/\qV κ C H f W L/\(∀x∈ps,L h x/\W h x≠[]/\(W h x).length<=10000/\∀w∈W h x,w.2.1∈bs)/\
 ∀q H',aI H H'->H q=none->κ.da H' q ps (fun x=>dY g (W h x))->Q (.ref q) H'
theorem zS{P:Program}{w:World}{K:PySem.W.Frag}{mg:Str->Option Value}{base:Heap}{a:kW}(tx:Txt K mg a):bO P w K mg base iB 10 a.iR a.iS ["places","hour","behind","ways_at"] (zR K (Clo P w K mg base (8+1))):=by
 have vM:=zC (P:=P) (w:=w) (base:=base) tx
 refine tx.mR.ok kM (fun vs H Q E h=>?_) (fun cdv A outer s H vs Q E hr h=>?_)
 ·obtain⟨α,κ,lp,d,f,h,us,ps,bs,g,W,L,rfl,_⟩:=h
  rfl
 ·obtain⟨α,κ,lp,d,f,h,us,ps,bs,g,W,L,rfl ,gl,hpv,hnd,hlen,hd,hW,hon,k⟩:=h
  have hu:=kZ hr
  refine Z.root (Z.aD (Z.aS (i:=4) kM.nd rfl (Or.inl rfl) Z.rV)
   (Z.aD (Z.cS PassesOwn.never rfl (Z.bQ (K':=K) (Z.pv 0)) (Z.aM (i:=5) kM.nd rfl (Or.inl rfl)) (Z.aG (Z.vW hu (Z.pv 4) (Z.pv 5) (Z.aF (vM) (hr.mono (by decide)) (by rfl) tx.vF tx.qK.kp tx.vE .nil aU (Z.aE (Z.aAX (P:=P) (w:=w) (K:=K) (mg:=mg) (base:=base) (i:=3) (k:=8+1) (hr.mono (by decide)) (Z.aE (Z.pv 1) (Z.aE (Z.pv 5) Z.aC))) (Z.aE (Z.pv 2) Z.aC))))))
   (Z.aG (Z.aV (Z.pv 4))))) ?_
  obtain⟨spc,hC,hp⟩:=hW.ex
  have lus:=hpv.1
  refine aR (σ:=[some (.ref lp),some (.int (h:Int)),some (.ref d),some (.ref f),none,none]) rfl ?_
  walk_at "w"
  refine κ.new (fun x=>dY g (W h x)) fun wd H1 nwd s1 dw=>?_
  walk_at "w"
  refine fH (bG.of (s1 _ _ gl)) ?_
  refine tU (xs:=us) (fun i σ' H'=>aI H H'/\κ.da H' wd (ps.take i) (fun x=>dY g (W h x))/\∃z,σ'=[some (.ref lp),some (.int (h:Int)),some (.ref d),some (.ref f),some (.ref wd),z]) ⟨s1,dw,_,rfl⟩
   (fun i σ' H' hi ⟨s',_⟩=>bG.of (s' _ _ gl)) (fun i v σ' H' hv ⟨s',dw',z,e⟩=>?_) (fun σ' H' ⟨s',dw',z,e⟩=>?_)
  ·subst e
   obtain⟨x,ex,px⟩:=hpv.get hv
   obtain⟨o1,o2,o3,o4⟩:=hon x (List.mem_of_getElem? ex)
   walk_at "w"
   refine aAT rfl hC ?_
   walk_at "w"
   refine hp H' h v x _ s' o1 (κ.oF px s') fun l H2 s2 hws=>?_
   have s02:=s'.trans s2
   walk_at "w"
   refine⟨α,κ,l,d,W h x,bs,g,rfl,hws,κ.oG hd s02,o2,o3,o4,fun H3 s3=>?_⟩
   have s03:=s02.trans s3
   walk_at "w"
   have nx:x∉ps.take i:=fun z=>by
    have hi:i < ps.length:=(List.getElem?_eq_some_iff.mp ex).1
    obtain⟨j,hj,ej⟩:=List.getElem_of_mem z
    rw[List.length_take] at hj
    rw[List.getElem_take] at ej
    have e2:ps[i]=x:=(List.getElem?_eq_some_iff.mp ex).2
    have:=(List.getElem_inj hnd).mp (ej.trans e2.symm)
    omega
   obtain⟨H4,p4,d4,k4⟩:=κ.put (κ.oG dw' (s2.trans s3)) (κ.oF px s03) nx (by rw[List.length_take];omega)
   refine⟨wd,H4,rfl,p4,?_⟩
   walk_at "w"
   refine⟨fun b o e=>k4 _ _ (s03 _ _ e) (bE nwd e),?_,_,rfl⟩
   rw[cJ ex]
   exact d4
  ·subst e
   walk_at "w"
   rw[lus,List.take_length] at dw'
   exact k wd H' s' nwd dw'
structure aEX{α:Type}(κ:PK α)(H:Hp)(a:Addr)(Ls:List (List α)):Prop where
 ex:∃as,H a=some (.lst (as.map V.ref))/\RL (fun b ps=>∃us,H b=some (.lst us)/\PVs κ H us ps) as Ls
theorem aEX.same{α:Type}{κ:PK α}{H H':Hp}{a:Addr}{Ls:List (List α)}(h:aEX κ H a Ls)(s:aI H H'):aEX κ H' a Ls:=
 let ⟨as,e,r⟩:=h.ex;⟨as,s _ _ e,r.imp fun _ _ ⟨us,e,p⟩=>⟨us,s _ _ e,p.same s⟩⟩
structure aF4{α:Type}(κ:PK α)(H:Hp)(a:Addr)(Ls:List (List α))(F:Nat->α->Int):Prop where
 ex:∃ds:List Addr,H a=some (.lst (ds.map V.ref))/\ds.length=Ls.length/\∀(i:Nat) d ps,ds[i]?=some d->Ls[i]?=some ps->κ.da H d ps (F i)
theorem aF4.same{α:Type}{κ:PK α}{H H':Hp}{a:Addr}{Ls:List (List α)}{F:Nat->α->Int}(h:aF4 κ H a Ls F)(s:aI H H'):aF4 κ H' a Ls F:=
 let ⟨ds,e,l,r⟩:=h.ex;⟨ds,s _ _ e,l,fun i d ps h1 h2=>κ.oG (r i d ps h1 h2) s⟩
structure aJn{α:Type}(W:Nat->α->List (Wy α))(Ls:List (List α)):Prop where
 pos:0 < Ls.length
 nd:∀ps∈Ls,ps.Nodup
 vO:∀ps∈Ls,ps.length<=10000
 ne:∀(i:Nat) ps x,Ls[i]?=some ps->i+1 < Ls.length->x∈ps->W i x≠[]/\(W i x).length<=10000
 on:∀(i:Nat) ps qs x w,Ls[i]?=some ps->Ls[i+1]?=some qs->x∈ps->w∈W i x->w.2.1∈qs
theorem aEh{xs:List V}(h:0 < xs.length):uH xs (-1)=xs[xs.length - 1]?:=by
 have e:ixN xs.length (-1)=some (xs.length - 1):=by
  unfold ixN
  rw[if_neg (by omega),if_pos (by omega)]
  congr 1
  omega
 unfold uH
 rw[e]
 rfl
theorem PK.aGN{α:Type}{κ:PK α}{H H':Hp}{d p:Addr}{ps:List α}{g:α->Int}(h:κ.da H d ps g)(n:d≠p)(k:bS p H H'):κ.da H' d ps g:=by
 cases κ with
 |ik f i=>exact k _ _ h n
 |tk f i=>exact k _ _ h n
theorem PK.aDL{α:Type}{κ:PK α}{H H':Hp}{v:V}{x:α}{p:Addr}{xs:List V}(h:κ.pv H v x)(gp:H p=some (.lst xs))(k:bS p H H'):κ.pv H' v x:=by
 cases κ with
 |ik f i=>exact h
 |tk f i=>
  obtain⟨b,e,hb⟩:=h
  exact⟨b,e,k _ _ hb fun z=>by rw[z,gp] at hb;cases hb⟩
theorem kS{as:List Addr}{i:Nat}{a:Addr}(h:as[i]?=some a):(as.map V.ref)[i]?=some (.ref a):=by rw[List.getElem?_map,h];rfl
def oH(K:PySem.W.Frag)(C:Addr->Sp->Prop):Sp:=fun vs H Q _=>∃(α:Type) (κ:PK α) (la f:Addr) (Ls:List (List α)) (W:Nat->α->List (Wy α)) (L:Nat->α->Prop),vs=[.ref la,.ref f]/\aEX κ H la Ls/\aJn W Ls/\Ls.length<=10000/\qV κ C H f W L/\
 (∀(i:Nat) ps x,Ls[i]?=some ps->i+1 < Ls.length->x∈ps->L i x)/\∀q H',aI H H'->H q=none->aF4 κ H' q Ls (fun i=>wF W (Ls.length - 1 - i) i)->Q (.ref q) H'
theorem w4{P:Program}{w:World}{K:PySem.W.Frag}{mg:Str->Option Value}{base:Heap}{a:kW}(tx:Txt K mg a):bO P w K mg base iB 11 a.fY a.fZ ["layers","ways_at"] (oH K (Clo P w K mg base (8+1))):=by
 have aBo:=zS (P:=P) (w:=w) (base:=base) tx
 refine tx.jF.ok cP (fun vs H Q E h=>?_) (fun cdv A outer s H vs Q E hr h=>?_)
 ·obtain⟨α,κ,la,f,Ls,W,L,rfl,_⟩:=h
  rfl
 ·obtain⟨α,κ,la,f,Ls,W,L,rfl ,hla,hok,hlen,hW,hL,k⟩:=h
  have hu:=kZ hr
  refine Z.root (Z.aD (Z.aS (i:=2) cP.nd rfl (Or.inl rfl) Z.rV)
   (Z.aD (Z.cS PassesOwn.never rfl (Z.bQ (K':=K) (Z.aL (K':=K) (Z.pv 0) (Z.yO xO Z.aA) (fun _ _=>rfl))) (Z.aM (i:=3) cP.nd rfl (Or.inl rfl)) (Z.aG (Z.vW hu (Z.pv 2) (Z.pv 3) Z.aA)))
   (Z.aD (Z.aS (i:=4) cP.nd rfl (Or.inl rfl) (Z.aBF (Z.pv 2)))
   (Z.aD (Z.cS PassesOwn.never rfl (Z.yC (by rfl) tx.dO (Z.aE (Z.aT gF (Z.aN (rc:=oV K) bY (by rfl) tx.fP eZ (Z.aE (Z.pv 0) Z.aC)) Z.aA) (Z.aE (Z.yO xO Z.aA) (Z.aE (Z.yO xO Z.aA) Z.aC)))) (Z.aM (i:=5) cP.nd rfl (Or.inl rfl)) (Z.aD (Z.aS (i:=2) cP.nd rfl (Or.inl rfl) (Z.aF (aBo) (hr.mono (by decide)) (by rfl) tx.sS tx.mR.kp tx.sR .nil aU (Z.aE (Z.aL (K':=K) (Z.pv 0) (Z.pv 5) (fun _ _=>rfl)) (Z.aE (Z.pv 5) (Z.aE (Z.pv 2) (Z.aE (Z.pv 1) Z.aC))))))
   (Z.aG (Z.iC (Z.nB (K':=K) (Z.pv 4) (Z.aE (Z.pv 2) Z.aC))))))
   (Z.aG (Z.aV (Z.u7 rfl (by rfl) tx.kQ (by rfl) tx.jJ (Z.aE (Z.pv 4) Z.aC)))))))) ?_
  obtain⟨as,ga,ra⟩:=hla.ex
  have las:=ra.len
  have pos:=hok.pos
  obtain⟨n,hn⟩ : ∃n,Ls.length=n+1:=⟨Ls.length - 1,by omega⟩
  have el:as[n]?=some as[n]:=List.getElem?_eq_getElem (by omega)
  have ll:Ls[n]?=some Ls[n]:=List.getElem?_eq_getElem (by omega)
  obtain⟨us,gu,pu⟩:=ra.at_ n _ _ el ll
  generalize as[n]=an at el gu
  generalize Ls[n]=pn at ll pu
  have lpn:=hok.vO pn (List.mem_of_getElem? ll)
  have ndn:=hok.nd pn (List.mem_of_getElem? ll)
  have lus:=pu.1
  have ai:uH (as.map V.ref) (-1)=some (.ref an):=by
   rw[aEh (by rw[List.length_map];omega),List.length_map,las,hn,Nat.add_sub_cancel]
   exact kS el
  refine aR (σ:=[some (.ref la),some (.ref f),none,none,none,none]) rfl ?_
  walk_at "w"
  refine κ.new (fun _=>0) fun bd H1 nbd s1 db=>?_
  have ga1:=s1 _ _ ga
  walk_at "w"
  refine fH (bG.of (s1 _ _ gu)) ?_
  refine tU (xs:=us) (fun i σ' H'=>aI H H'/\κ.da H' bd (pn.take i) (fun _=>0)/\∃z,σ'=[some (.ref la),some (.ref f),some (.ref bd),z,none,none]) ⟨s1,db,_,rfl⟩
   (fun i σ' H' hi ⟨s',_⟩=>bG.of (s' _ _ gu)) (fun i v σ' H' hv ⟨s',dw',z,e⟩=>?_) (fun σ' H2 ⟨s2,d2,z,e⟩=>?_)
  ·subst e
   obtain⟨x,ex,px⟩:=pu.get hv
   walk_at "w"
   have nx:x∉pn.take i:=fun z=>by
    obtain⟨j,hj,ej⟩:=List.getElem_of_mem z
    rw[List.length_take] at hj
    rw[List.getElem_take] at ej
    have e2:pn[i]'((List.getElem?_eq_some_iff.mp ex).1)=x:=(List.getElem?_eq_some_iff.mp ex).2
    have:=(List.getElem_inj ndn).mp (ej.trans e2.symm)
    omega
   obtain⟨H4,p4,d4,k4⟩:=κ.put dw' (κ.oF px s') nx (by rw[List.length_take];omega)
   refine⟨bd,H4,rfl,p4,?_⟩
   walk_at "w"
   refine⟨fun b o e=>k4 _ _ (s' _ _ e) (bE nbd e),?_,_,rfl⟩
   rw[cJ ex]
   exact d4
  ·subst e
   rw[lus,List.take_length] at d2
   have ga2:=s2 _ _ ga
   walk_at "w"
   intro lw nlw
   obtain⟨H3,i3,s3,g3⟩:=nw _ nlw;rw[i3]
   have s03:=s2.trans s3
   have ga3:=s03 _ _ ga
   have nlH:H lw=none:=s2.free nlw
   walk_at "w"
   refine⟨_,_,rfl,by rw[List.length_map,las];omega,?_⟩
   rw[show(((as.map V.ref).length:Int) - 2 - -1).toNat=n by rw[List.length_map,las,hn];omega]
   refine aKi (n:=n) (fun i σ' H'=>aI H H'/\(∃ds:List Addr,H' lw=some (.lst (ds.map V.ref))/\ds.length=i+1/\(∃d,ds[i]?=some d/\σ'[2]?=some (some (.ref d)))/\∀(j:Nat) d ps,ds[j]?=some d->Ls[n - j]?=some ps->κ.da H' d ps (wF W j (n - j)))/\∃b z5,σ'=[some (.ref la),some (.ref f),some (.ref b),z,some (.ref lw),z5])
    ⟨s03,⟨[bd],g3,rfl,⟨bd,rfl,rfl⟩,fun j d ps h1 h2=>?_⟩,_,_,rfl⟩ (fun i σ' H' hi ⟨s',⟨ds,gd,ld,⟨d,ed,e2⟩,hd⟩,b,z5,e⟩=>?_) (fun σ' H' ⟨s',⟨ds,gd,ld,⟨d,ed,e2⟩,hd⟩,b,z5,e⟩=>?_)
   ·match j,h1 with
    |0,h1=>
     cases h1
     rw[Nat.sub_zero,ll] at h2
     cases h2
     exact κ.oG d2 s3
    |j+1,h1=>simp at h1
   ·subst e
    have e2':some (some (V.ref b))=some (some (.ref d)):=e2
    cases e2'
    have hh:(((as.map V.ref).length:Int) - 2 - (i:Int))=((n - 1 - i:Nat):Int):=by rw[List.length_map,las,hn];omega
    rw[hh]
    have ea:as[n - 1 - i]?=some as[n - 1 - i]:=List.getElem?_eq_getElem (by omega)
    have eL:Ls[n - 1 - i]?=some Ls[n - 1 - i]:=List.getElem?_eq_getElem (by omega)
    have eL2:Ls[n - i]?=some Ls[n - i]:=List.getElem?_eq_getElem (by omega)
    obtain⟨us',gu',pu'⟩:=ra.at_ _ _ _ ea eL
    generalize as[n - 1 - i]=ax at ea gu'
    generalize Ls[n - 1 - i]=px at eL pu'
    have db':=hd i d _ ed eL2
    generalize Ls[n - i]=qx at eL2 db'
    have ga':=s' _ _ ga
    have ix:uH (as.map V.ref) ((n - 1 - i:Nat):Int)=some (.ref ax):=dM (kS ea)
    walk_at "w"
    have e1:n - 1 - i+1=n - i:=by omega
    refine⟨α,κ,ax,d,f,n - 1 - i,us',px,qx,wF W i (n - i),W,L,rfl,s' _ _ gu',pu'.same s',hok.nd px (List.mem_of_getElem? eL),hok.vO px (List.mem_of_getElem? eL),db',hW.same s',fun x hx=>?_,fun q H4 s4 nq dq=>?_⟩
    ·obtain⟨n1,n2⟩:=hok.ne _ px x eL (by omega) hx
     exact⟨hL _ px x eL (by omega) hx,n1,n2,fun w hw=>hok.on _ px qx x w eL (by rw[e1];exact eL2) hx hw⟩
    have gd4:=s4 _ _ gd
    walk_at "w"
    refine oK (bG.of gd4) ?_
    walk_at "w"
    refine rO (xs:=ds.map V.ref) gd4 (Nat.lt_of_lt_of_le (by rw[List.length_map];omega:(ds.map V.ref).length < 20000) (bX (by decide))) ?_
    obtain⟨H5,i5,k5,g5⟩:=wr H4 lw _;rw[i5]
    walk_at "w"
    refine⟨fun b o e=>k5 _ _ (s4 _ _ (s' _ _ e)) (bE nlH e),⟨ds ++ [q],by rw[g5,List.map_append];rfl,by rw[List.length_append,ld];rfl,⟨q,by rw[List.getElem?_append_right (by omega),ld,Nat.sub_self];rfl,rfl⟩,fun j d ps h1 h2=>?_⟩,_,_,rfl⟩
    by_cases hj:j < i+1
    ·rw[List.getElem?_append_left (by omega)] at h1
     have z:=κ.oG (hd j d ps h1 h2) s4
     exact κ.aGN z (fun y=>κ.aJm z (by rw[y];exact gd4)) k5
    ·have hj2:j < (ds ++ [q]).length:=(List.getElem?_eq_some_iff.mp h1).1
     rw[List.length_append,List.length_singleton] at hj2
     obtain rfl:j=i+1:=by omega
     rw[List.getElem?_append_right (by omega),ld,Nat.sub_self] at h1
     cases h1
     rw[show n - (i+1)=n - 1 - i by omega,eL] at h2
     cases h2
     have z:=κ.aGN dq (fun y=>κ.aJm dq (by rw[y];exact gd4)) k5
     have ee:(fun x=>dY (wF W i (n - i)) (W (n - 1 - i) x))=wF W (i+1) (n - (i+1)):=by
      rw[show n - (i+1)=n - 1 - i by omega]
      funext x
      show _=dY (wF W i (n - 1 - i+1)) (W (n - 1 - i) x)
      rw[e1]
     rw[<-ee]
     exact z
   ·subst e
    walk_at "w"
    refine⟨lw,_,rfl,gd,fun q nq=>?_⟩
    obtain⟨H5,i5,s5,g5⟩:=nw _ nq;rw[i5]
    walk_at "w"
    refine k q H5 (s'.trans s5) (s'.free nq) ⟨⟨ds.reverse,by rw[g5,List.map_reverse],by rw[List.length_reverse,ld,hn],fun i d ps h1 h2=>?_⟩⟩
    have hi:i < ds.length:=by rw[<-List.length_reverse];exact(List.getElem?_eq_some_iff.mp h1).1
    rw[List.getElem?_reverse hi] at h1
    have z:=hd _ d ps h1 (by rw[show n - (ds.length - 1 - i)=i by omega];exact h2)
    rw[show n - (ds.length - 1 - i)=i by omega,show ds.length - 1 - i=Ls.length - 1 - i by omega] at z
    exact κ.oG z s5
def aB0(K:W.Frag):Sp:=fun vs H Q _=>∃(α:Type) (κ:PK α) (l d:Addr) (ws:List (Wy α)) (ps:List α) (g:α->Int),vs=[.ref l,.ref d]/\qU κ H l ws/\κ.da H d ps g/\ws≠[]/\ws.length<=10000/\(∀w∈ws,w.2.1∈ps)/\
 ∀a w H',aI H H'->kR g ws=some w->zB κ H' a w->Q (.ref a) H'
theorem aB1{P:Program}{w:World}{K:PySem.W.Frag}{mg:Str->Option Value}{base:Heap}{a:kW}(tx:Txt K mg a):bO P w K mg base iB 2 a.lM a.lN ["ways","behind"] (aB0 K):=by
 have vM:=zC (P:=P) (w:=w) (base:=base) tx
 refine tx.qL.ok uK (fun vs H Q E h=>?_) (fun cdv A outer s H vs Q E hr h=>?_)
 ·obtain⟨α,κ,l,d,ws,ps,g,rfl,_⟩:=h
  rfl
 ·obtain⟨α,κ,l,d,ws,ps,g,rfl ,hw,hd,hne,hlen,hin,k⟩:=h
  have hu:=kZ hr
  refine Z.root (Z.aD (Z.aS (i:=2) uK.nd rfl (Or.inr rfl) (Z.aF (vM) (hr.mono (by decide)) (by rfl) tx.vF tx.qK.kp tx.vE .nil aU (Z.aE (Z.pv 0) (Z.aE (Z.pv 1) Z.aC))))
   (Z.aG (Z.aV (Z.aL (K':=K) (Z.cO (k:=1) (idx:=[1,2]) (N:=["way","behind","least"]) (cF (sc:=aB eE) (NX:=["ways","behind","least"]) rfl rfl rfl (by decide +kernel)) rfl (Z.bQ (K':=K) (Z.pv 0)) (fun _ _ _ _=>(Z.aM (i:=0) (show(["way","behind","least"]:List Str).Nodup by decide +kernel) rfl (Or.inl rfl))) (dF (by decide)) (fun _ _ _ _=>(Z.aAc (Z.bH (r:=rD K) (gH hu) (Z.aT bK (Z.aL (K':=K) (Z.pv 0) Z.aA (fun _ _=>rfl)) (Z.rQ hu (Z.pv 1) (Z.aL (K':=K) (Z.pv 0) Z.aA (fun _ _=>rfl)))) (Z.pv 2) (bJ _)))) (fun _ _ _ _=>(Z.pv 0))) Z.aA (fun _ _=>rfl))))) ?_
  refine aR (σ:=[some (.ref l),some (.ref d),none]) rfl ?_
  walk_at "w"
  refine⟨α,κ,l,d,ws,ps,g,rfl,hw,hd,hne,hlen,hin,fun H1 s1=>?_⟩
  obtain⟨as,gl,rl⟩:=(hw.same s1).ex
  have las:=rl.len
  have hd1:=κ.oG hd s1
  walk_at "w"
  refine fH (bG.of gl) ?_
  refine cB (xs:=as.map V.ref) (fun j us H'=>H'=H1/\us.length<=j/\(us=[]->∀w∈ws.take j,¬w.2.2+g w.2.1=dY g ws)/\∀u,us[0]?=some u->∃a w,u=.ref a/\kR g ws=some w/\zB κ H1 a w) ⟨rfl,Nat.le_refl _,(fun _ w hw=>by simp at hw),(fun u hu=>by simp at hu)⟩ (bX (by rw[List.length_map];omega))
   (fun j us H' hj ⟨e0,e1,_⟩=>⟨by rw[e0];exact bG.of gl,e1⟩) (fun j v us H' hv ⟨e0,e1,e2,e3⟩=>?_) (fun us H' ⟨e0,e1,e2,e3⟩=>?_)
  ·subst e0
   obtain⟨a1,w,ea,rfl,ew,vv,g1,hp⟩:=rl.gt hv
   walk_at "w"
   refine⟨d,_,rfl,κ.get hd1 hp (hin w (List.mem_of_getElem? ew)),?_⟩
   walk_at "w"
   refine cY (fun h=>?_) (fun h=>?_)
   ·walk_at "w"
    refine⟨rfl,by rw[List.length_append,List.length_singleton];omega,(fun z=>by simp at z),fun u hu=>?_⟩
    cases us with
    |nil=>
     cases hu
     refine⟨a1,w,rfl,?_,vv,g1,hp⟩
     unfold kR
     exact aGM ew (fun x hx=>decide_eq_false (e2 rfl x hx)) (decide_eq_true h)
    |cons y r=>exact e3 u hu
   ·walk_at "w"
    refine⟨rfl,by omega,fun z x hx=>?_,e3⟩
    rw[cJ ew] at hx
    rcases List.mem_append.mp hx with q|q
    ·exact e2 z x q
    ·rw[List.mem_singleton.mp q];exact h
  subst e0
  rw[List.length_map,las,List.take_length] at e2
  obtain⟨w0,hw0,hw1⟩:=m6 g hne
  cases us with
  |nil=>exact absurd hw1 (e2 rfl w0 hw0)
  |cons u0 r=>
   obtain⟨a1,w,rfl,f1,hA⟩:=e3 u0 rfl
   intro l2 n2
   obtain⟨H2,i2,s2,g2⟩:=nw _ n2;rw[i2]
   have ix:uH (V.ref a1::r) 0=some (.ref a1):=dM (j:=0) rfl
   walk_at "w"
   exact k a1 w H2 (s1.trans s2) f1 (hA.same s2)
def w5(K:PySem.W.Frag)(C:Addr->Sp->Prop):Sp:=fun vs H Q _=>∃(α:Type) (κ:PK α) (v:V) (x:α) (p0:List α) (lw f:Addr) (Ls:List (List α)) (W:Nat->α->List (Wy α)) (L:Nat->α->Prop),vs=[v,.ref lw,.ref f]/\κ.pv H v x/\aF4 κ H lw Ls (fun i=>wF W (Ls.length - 1 - i) i)/\Ls[0]?=some p0/\x∈p0/\aJn W Ls/\Ls.length<=10000/\qV κ C H f W L/\
 (∀(i:Nat) ps x,Ls[i]?=some ps->i+1 < Ls.length->x∈ps->L i x)/\∀q H',aI H H'->H q=none->H' q=some (.lst ((vL W (Ls.length - 1) 0 x).map V.int))->Q (.ref q) H'
theorem aDM{P:Program}{w:World}{K:PySem.W.Frag}{mg:Str->Option Value}{base:Heap}{a:kW}(tx:Txt K mg a):bO P w K mg base iB 10 a.nS a.nU ["place","worths","ways_at"] (w5 K (Clo P w K mg base (8+1))):=by
 have aDN:=aB1 (P:=P) (w:=w) (base:=base) tx
 refine tx.sU.ok iI (fun vs H Q E h=>?_) (fun cdv A outer s H vs Q E hr h=>?_)
 ·obtain⟨α,κ,v,x,p0,lw,f,Ls,W,L,rfl,_⟩:=h
  rfl
 ·obtain⟨α,κ,v,x,p0,lw,f,Ls,W,L,rfl ,hv,hds,hp0,hx0,hok,hlen,hW,hL,k⟩:=h
  have hu:=kZ hr
  refine Z.root (Z.aD (Z.aS (i:=3) iI.nd rfl (Or.inl rfl) (Z.gG Z.aC))
   (Z.aD (Z.cS PassesOwn.never rfl (Z.cZ (by rfl) tx.dO (Z.aE (Z.aT gF (Z.aN (rc:=oV K) bY (by rfl) tx.fP eZ (Z.aE (Z.pv 1) Z.aC)) Z.aA) Z.aC)) (Z.aM (i:=4) iI.nd rfl (Or.inl rfl)) (Z.aD (Z.aS (i:=5) iI.nd rfl (Or.inl rfl) (Z.aF (aDN) (hr.mono (by decide)) (by rfl) tx.wK tx.qL.kp tx.wJ .nil aU (Z.aE (Z.aAX (P:=P) (w:=w) (K:=K) (mg:=mg) (base:=base) (i:=2) (k:=8+1) (hr.mono (by decide)) (Z.aE (Z.pv 4) (Z.aE (Z.pv 0) Z.aC))) (Z.aE (Z.aL (K':=K) (Z.pv 1) (Z.aT bK (Z.pv 4) Z.aA) (fun _ _=>rfl)) Z.aC))))
   (Z.aD (Z.iC (Z.nB (K':=K) (Z.pv 3) (Z.aE (Z.aL (K':=K) (Z.pv 5) Z.aA (fun _ _=>rfl)) Z.aC)))
   (Z.aG (Z.aS (i:=0) iI.nd rfl (Or.inl rfl) (Z.aL (K':=K) (Z.pv 5) Z.aA (fun _ _=>rfl)))))))
   (Z.aG (Z.aV (Z.pv 3))))) ?_
  obtain⟨ds,gds,lds,hds'⟩:=hds.ex
  obtain⟨spc,hC,hp⟩:=hW.ex
  have pos:=hok.pos
  obtain⟨n,hn⟩ : ∃n,Ls.length=n+1:=⟨Ls.length - 1,by omega⟩
  refine aR (σ:=[some v,some (.ref lw),some (.ref f),none,none,none]) rfl ?_
  walk_at "w"
  intro lr nlr
  obtain⟨H1,i1,s1,g1⟩:=nw _ nlr;rw[i1]
  have gds1:=s1 _ _ gds
  walk_at "w"
  refine⟨by rw[List.length_map];omega,by rw[List.length_map];omega,?_⟩
  rw[show(((ds.map V.ref).length:Int) - 1).toNat=n by rw[List.length_map,lds,hn];omega]
  refine kH (n:=n) (fun i σ' H'=>aI H H'/\∃(row:List Int) (u:V) (y:α) (ps:List α) (z4 z5:Option V),σ'=[some u,some (.ref lw),some (.ref f),some (.ref lr),z4,z5]/\H' lr=some (.lst (row.map V.int))/\row.length=i/\κ.pv H' u y/\Ls[i]?=some ps/\y∈ps/\row++vL W (n - i) i y=vL W n 0 x)
   ⟨s1,[],v,x,p0,_,_,rfl,g1,rfl,κ.oF hv s1,hp0,hx0,rfl⟩ (fun i σ' H' hi ⟨s',row,u,y,ps,z4,z5,e,gr,lr',py,eps,hy,hrow⟩=>?_) (fun σ' H' ⟨s',row,u,y,ps,z4,z5,e,gr,lr',py,eps,hy,hrow⟩=>?_)
  ·subst e
   have eq:Ls[i+1]?=some Ls[i+1]:=List.getElem?_eq_getElem (by omega)
   have ed:ds[i+1]?=some ds[i+1]:=List.getElem?_eq_getElem (by omega)
   have hdd:=hds' (i+1) _ _ ed eq
   generalize ds[i+1]=dx at ed hdd
   generalize Ls[i+1]=qs at eq hdd
   obtain⟨n1,n2⟩:=hok.ne i ps y eps (by omega) hy
   have gds':=s' _ _ gds
   have ix:uH (ds.map V.ref) ((0+(i:Int))+1)=some (.ref dx):=by
    rw[show(0+(i:Int))+1=((i+1:Nat):Int) by push_cast;omega]
    exact dM (kS ed)
   walk_at "w"
   refine aAT rfl hC ?_
   walk_at "w"
   rw[show(0+(i:Int))=(i:Int) by omega]
   refine hp H' i u y _ s' (hL i ps y eps (by omega) hy) py fun l H2 s2 hws=>?_
   have gds2:=s2 _ _ gds'
   have ix2:uH (ds.map V.ref) ((i:Int)+1)=some (.ref dx):=by rw[<-ix,show(0+(i:Int))=(i:Int) by omega]
   walk_at "w"
   refine⟨α,κ,l,dx,W i y,qs,_,rfl,hws,κ.oG hdd (s'.trans s2),n1,n2,fun w hw=>hok.on i ps qs y w eps eq hy hw,fun a w H3 s3 fw hA=>?_⟩
   obtain⟨vv,ga,hpv⟩:=hA
   have gr3:=(s2.trans s3) _ _ gr
   have hwm:w∈W i y:=by
    unfold kR at fw
    exact List.mem_of_find?_eq_some fw
   walk_at "w"
   refine oK (bG.of gr3) ?_
   walk_at "w"
   refine rO (xs:=row.map V.int) gr3 (Nat.lt_of_lt_of_le (by rw[List.length_map];omega:(row.map V.int).length < 20000) (bX (by decide))) ?_
   obtain⟨H4,i4,k4,g4⟩:=wr H3 lr _;rw[i4]
   have na:a≠lr:=fun z=>by rw[z,gr3] at ga;cases ga
   have ga4:=k4 _ _ ga na
   have hpv4:κ.pv H4 vv w.2.1:=κ.aDL hpv gr3 k4
   walk_at "w"
   refine⟨fun b o e=>k4 _ _ ((s'.trans (s2.trans s3)) _ _ e) (bE nlr e),row ++ [w.1],vv,w.2.1,qs,_,_,rfl,by rw[g4,List.map_append];rfl,by rw[List.length_append,lr'];rfl,hpv4,eq,hok.on i ps qs y w eps eq hy hwm,?_⟩
   rw[<-hrow,List.append_assoc]
   congr 1
   obtain⟨m,hm⟩ : ∃m,n - i=m+1:=⟨n - i - 1,by omega⟩
   rw[hm,show n - (i+1)=m by omega]
   have fw':kR (wF W m (i+1)) (W i y)=some w:=by rw[<-fw,show Ls.length - 1 - (i+1)=m by omega]
   show _=(match kR (wF W m (i+1)) (W i y) with|none=>[]|some w=>w.1::vL W m (i+1) w.2.1)
   rw[fw']
   rfl
  ·subst e
   walk_at "w"
   rw[Nat.sub_self,show vL W 0 n y=[] from rfl,List.append_nil] at hrow
   refine k lr H' s' nlr ?_
   rw[gr,hrow,hn,Nat.add_sub_cancel]
def On(m:MS)(s s':Int×Int):Prop:=∃on,Bit on/\(s.1=on\/s.2=0)/\s'=pE m s.1 s.2 on
def Rc(m:MS)(a:Int×Int):Nat->Int×Int->Prop
 |0,s=>s=a
 |n+1,s=>∃q,Rc m a n q/\On m q s
def sLt(a b:Int×Int):Prop:=a.1 < b.1\/(a.1=b.1/\a.2 < b.2)
def St1(m:MS)(s:Int×Int):Prop:=(s.1=1/\0<=s.2/\s.2 < m.up)\/(s.1=0/\0<=s.2/\s.2 < 60)
theorem St1.st0{m:MS}(g:m.Good){s:Int×Int}(h:St1 m s):St0 s.1 s.2:=by
 obtain⟨u0,u1⟩:=g.up
 rcases h with ⟨a,b,c⟩|⟨a,b,c⟩
 ·exact⟨.inr a,b,by omega⟩
 ·exact⟨.inl a,b,c⟩
theorem Rc.st{m:MS}(g:m.Good){a:Int×Int}(h:St1 m a):∀{n:Nat}{s:Int×Int},Rc m a n s->St0 s.1 s.2/\(s.2 < 12\/(s.1=0/\s.2=a.2 - n))
 |0,s,hs=>by
  have hs':s=a:=hs
  subst hs'
  obtain⟨u0,u1⟩:=g.up
  refine⟨h.st0 g,?_⟩
  rcases h with ⟨x,y,z⟩|⟨x,y,z⟩
  ·exact .inl (by omega)
  ·exact .inr ⟨x,by omega⟩
 |n+1,s,hs=>by
  obtain⟨q,hq,on,bon,may,rfl⟩:=hs
  obtain⟨i1,i2⟩:=Rc.st g h hq
  obtain⟨u0,u1⟩:=g.up
  obtain⟨d0,d1⟩:=g.down
  refine⟨i1.pE g bon,?_⟩
  unfold My.pE
  by_cases e:q.1=on
  ·rw[if_pos e]
   rcases i2 with i2|⟨i2,i3⟩
   ·exact .inl (by show max (q.2 - 1) 0 < 12;omega)
   ·by_cases z:q.2 - 1 < 12
    ·exact .inl (by show max (q.2 - 1) 0 < 12;omega)
    ·refine .inr ⟨by show on=0;omega,?_⟩
     show max (q.2 - 1) 0=a.2 - ((n+1:Nat):Int)
     omega
  ·rw[if_neg e]
   split
   ·exact .inl (by show m.up - 1 < 12;omega)
   ·exact .inl (by show m.down - 1 < 12;omega)
theorem Rc.vO{m:MS}(g:m.Good){a:Int×Int}(h:St1 m a){n:Nat}{ks:List (Int×Int)}(nd:ks.Nodup)(hr:∀k∈ks,Rc m a n k):ks.length<=25:=by
 have:=aJl 25 (ks.map fun k=>if k.2 < 12 then (k.1*12+k.2).toNat else 24) (by
  rw[List.Nodup,List.pairwise_map]
  refine nd.imp_of_mem ?_
  intro x y hx hy hxy z
  obtain⟨⟨a1,a2,a3⟩,a4⟩:=Rc.st g h (hr x hx)
  obtain⟨⟨b1,b2,b3⟩,b4⟩:=Rc.st g h (hr y hy)
  refine hxy ?_
  by_cases c1:x.2 < 12 <;> by_cases c2:y.2 < 12
  ·rw[if_pos c1,if_pos c2] at z
   refine Prod.ext ?_ ?_
   ·rcases a1 with a1|a1 <;> rcases b1 with b1|b1 <;> rw[a1,b1] <;> rw[a1,b1] at z <;> omega
   ·rcases a1 with a1|a1 <;> rcases b1 with b1|b1 <;> rw[a1,b1] at z <;> omega
  ·rw[if_pos c1,if_neg c2] at z
   rcases a1 with a1|a1 <;> rw[a1] at z <;> omega
  ·rw[if_neg c1,if_pos c2] at z
   rcases b1 with b1|b1 <;> rw[b1] at z <;> omega
  ·rcases a4 with a4|⟨a4,a5⟩
   ·omega
   ·rcases b4 with b4|⟨b4,b5⟩
    ·omega
    ·exact Prod.ext (by omega) (by omega)) (fun x hx=>by
  obtain⟨k,hk,rfl⟩:=List.mem_map.mp hx
  obtain⟨⟨a1,a2,a3⟩,a4⟩:=Rc.st g h (hr k hk)
  split
  ·rcases a1 with a1|a1 <;> rw[a1] <;> omega
  ·omega)
 simpa using this
structure aDO(m:MS)(a:Int×Int)(Ls:List (List (Int×Int))):Prop where
 at_:∀(i:Nat) ps,Ls[i]?=some ps->ps.Pairwise sLt/\∀s,s∈ps↔Rc m a i s
theorem aDP{ps:List (Int×Int)}(h:ps.Pairwise sLt):ps.Nodup:=h.imp fun {a b} hab z=>by
 subst z
 rcases hab with y|⟨_,y⟩ <;> omega
def gnT(m:MS)(p:Int):Int:=p*m.least+gn p m.pieces
def aMg(m:MS)(s:Int×Int)(on:Int):Int:=aHB m s.1 [on]
def hw(m:MS)(p:Int)(s:Int×Int)(on:Int):Int:=aMg m s on - on*gnT m p
def zT(s:Int×Int)(on:Int):Bool:=decide (s.1=on) || decide (s.2=0)
def rwy(m:MS)(p:Int)(s:Int×Int):List (Wy (Int×Int)):=(([0,1]:List Int).filter (zT s)).map fun on=>(on,pE m s.1 s.2 on,hw m p s on)
def Wr(m:MS)(ps:List Int)(i:Nat)(s:Int×Int):List (Wy (Int×Int)):=rwy m (ps.getD i 0) s
theorem pC{s:Int×Int}{on:Int}:zT s on=true↔s.1=on\/s.2=0:=by unfold zT;simp
theorem w6{m:MS}{p:Int}{s:Int×Int}{w:Wy (Int×Int)}:w∈rwy m p s↔∃on,Bit on/\(s.1=on\/s.2=0)/\w=(on,pE m s.1 s.2 on,hw m p s on):=by
 unfold rwy
 rw[List.mem_map]
 constructor
 ·rintro ⟨on,h,rfl⟩
  obtain⟨h1,h2⟩:=List.mem_filter.mp h
  exact⟨on,by simpa [Bit] using h1,pC.mp h2,rfl⟩
 ·rintro ⟨on,b,h,rfl⟩
  exact⟨on,List.mem_filter.mpr ⟨by simpa [Bit] using b,pC.mpr h⟩,rfl⟩
theorem aF5{m:MS}{p:Int}{s:Int×Int}(b:Bit s.1):rwy m p s≠[]:=fun z=>by
 have:_∈rwy m p s:=w6.mpr ⟨s.1,b,.inl rfl,rfl⟩
 rw[z] at this
 cases this
theorem aAm(m:MS)(p:Int)(s:Int×Int):(rwy m p s).length<=2:=by
 unfold rwy
 rw[List.length_map]
 exact List.length_filter_le ..
theorem aEY(m:MS)(p:Int)(s:Int×Int):aF3 (rwy m p s):=by
 unfold aF3 rwy
 rw[List.pairwise_map]
 exact List.Pairwise.filter _ (by simp)
theorem aGO{m:MS}(g:m.Good){a:Int×Int}(h:St1 m a)(qs:List Int){Ls:List (List (Int×Int))}(pos:0 < Ls.length)(hl:aDO m a Ls):aJn (Wr m qs) Ls where
 pos:=pos
 nd:=fun ps hp=>by
  obtain⟨i,hi⟩:=List.getElem?_of_mem hp
  exact aDP (hl.at_ i ps hi).1
 vO:=fun ps hp=>by
  obtain⟨i,hi⟩:=List.getElem?_of_mem hp
  obtain⟨h1,h2⟩:=hl.at_ i ps hi
  exact Nat.le_trans (Rc.vO g h (aDP h1) fun k hk=>(h2 k).mp hk) (by decide)
 ne:=fun i ps x hi _ hx=>by
  have:=((Rc.st g h (((hl.at_ i ps hi).2 x).mp hx)).1).1
  exact⟨aF5 this,Nat.le_trans (aAm ..) (by decide)⟩
 on:=fun i ps rs x w hi hj hx hw=>by
  obtain⟨on,b,may,rfl⟩:=w6.mp hw
  exact((hl.at_ (i+1) rs hj).2 _).mpr ⟨x,((hl.at_ i ps hi).2 x).mp hx,on,b,may,rfl⟩
theorem aKu{m:MS}(g:m.Good){a:Int×Int}(h:St1 m a)(qs:List Int)(n:Nat):Lay (Wr m qs) n (Rc m a) where
 ne:=fun i x _ hx=>aF5 ((Rc.st g h hx).1).1
 on:=fun i x w _ hx hw=>by
  obtain⟨on,b,may,rfl⟩:=w6.mp hw
  exact⟨x,hx,on,b,may,rfl⟩
def rwF(m:MS)(qs:List Int)(a:Int×Int):Int:=wF (Wr m qs) qs.length 0 a
def rrF(m:MS)(qs:List Int)(a:Int×Int):List Int:=vL (Wr m qs) qs.length 0 a
def κS:PK (Int×Int):=.tk jK fun _ _ h=>tJ h
theorem bW.aNl{C:Addr}{H:Hp}{q w:Addr}{m:MS}{kvs:List (List Key×V)}(h:bW C H q m)(e:H w=some (.dT kvs)):bW C (del w H) q m:=by
 obtain⟨dx,pl,h1,h2⟩:=h.ex
 obtain⟨qs,h3,h4⟩:=h2.ex
 refine⟨dx,pl,m3 h1 (fun z=>by rw[z,e] at h1;cases h1),qs,m3 h3 (fun z=>by rw[z,e] at h3;cases h3),h4.len,fun j a t h5 h6=>?_⟩
 have h7:=h4.at_ j a t h5 h6
 exact m3 h7 (fun z=>by rw[z,e] at h7;cases h7)
theorem aKv(x:Option Int):(x.map V.int).getD (.int 0)=.int (x.getD 0):=by cases x <;> rfl
theorem aDQ{ps:List WP}{i:Nat}{kv:List Key×V}(h:(enc ps)[i]?=some kv):∃p,ps[i]?=some p/\kv=(jK p.1,V.int p.2):=by
 unfold enc at h
 rw[List.getElem?_map] at h
 obtain⟨p,hp,e⟩:=Option.map_eq_some_iff.mp h
 exact⟨p,hp,e.symm⟩
theorem mD(ps:List WP):(enc ps).length=ps.length:=by unfold enc;rw[List.length_map]
theorem aHD{ps:List WP}{k s:Int×Int}{v:Int}:s∈(addW ps k v).map (·.1)↔s∈ps.map (·.1)\/s=k:=by
 unfold addW
 by_cases h:ps.any (fun p=>decide (p.1=k))=true
 ·rw[if_pos h,List.map_map]
  have e:((fun p:WP=>p.1) ∘ fun p:WP=>if p.1=k then (p.1,v) else p)=fun p=>p.1:=by
   funext p
   show(if p.1=k then (p.1,v) else p).1=p.1
   split <;> rfl
  rw[e]
  refine⟨.inl,fun z=>?_⟩
  rcases z with z|z
  ·exact z
  ·obtain⟨p,hp,e⟩:=List.any_eq_true.mp h
   rw[z]
   exact List.mem_map.mpr ⟨p,hp,of_decide_eq_true e⟩
 ·rw[if_neg h,List.map_append,List.mem_append]
  simp
def aBp(K:W.Frag)(C:Addr):Sp:=fun vs H Q _=>∃(q:Addr) (m:MS) (w:Addr) (ps:List WP),vs=[.ref q,.ref w]/\bW C H q m/\m.Good/\H w=some (.dT (enc ps))/\aBZ ps/\
 ∀w' ps' H',aI (del w H) H'->H w'=none->H' w'=some (.dT (enc ps'))->aBZ ps'->(∀s,s∈ps'.map (·.1)↔∃q∈ps.map (·.1),On m q s)->Q (.ref w') H'
theorem aBq{P:Program}{w:World}{K:PySem.W.Frag}{mg:Str->Option Value}{base:Heap}{a:kW}(tx:Txt K mg a):bO P w K mg base iB 3 a.jR a.jS ["machine","ways"] (aBp K a.aZ):=by
 have mZ:=t9 (P:=P) (w:=w) (base:=base) tx
 have gN:=mY (P:=P) (w:=w) (base:=base) tx
 refine tx.oO.ok dX (fun vs H Q E h=>?_) (fun cdv A outer s H vs Q E hr h=>?_)
 ·obtain⟨q,m,w,ps,rfl,_⟩:=h
  rfl
 ·obtain⟨q,m,w,ps,rfl ,hm,hg,gw,hW,k⟩:=h
  have hu:=kZ hr
  refine Z.root (Z.aD (Z.aS (i:=2) dX.nd rfl (Or.inl rfl) Z.rV)
   (Z.aD (Z.cS PassesOwn.never rfl (Z.v3 (Z.pv 1)) (Z.fE (K':=K) (n:=2) rfl (Z.bA (Z.aM (i:=3) dX.nd rfl (Or.inl rfl)) (Z.bA (Z.aM (i:=4) dX.nd rfl (Or.inl rfl)) Z.dJ))) (Z.aG (Z.cS PassesOwn.never rfl (Z.aAf (K':=K) (Z.rE Z.aA Z.aA)) (Z.aM (i:=5) dX.nd rfl (Or.inl rfl)) (Z.aG (Z.cK (Z.i0 (Z.aF (mZ) (hr.mono (by decide)) (by rfl) tx.sN tx.o5.kp tx.sM .nil aU (Z.aE (Z.pv 0) (Z.aE (Z.pv 3) (Z.aE (Z.pv 5) Z.aC))))) (Z.aD (Z.aS (i:=6) dX.nd rfl (Or.inl rfl) (Z.aF (gN) (hr.mono (by decide)) (by rfl) tx.j7 tx.gL.kp tx.j0 .nil aU (Z.aE (Z.pv 0) (Z.aE (Z.pv 3) (Z.aE (Z.pv 5) Z.aC)))))
   (Z.aG (Z.vW hu (Z.pv 2) (Z.pv 6) (Z.aT bK (Z.aAE hu (Z.pv 2) (Z.pv 6) Z.aA) (Z.pv 4))))) Z.bF)))))
   (Z.aG (Z.aV (Z.pv 2))))) ?_
  have hmD:=hm.aNl gw
  refine aR (σ:=[some (.ref q),some (.ref w),none,none,none,none,none]) rfl ?_
  walk_at "w"
  refine aCD ?_
  intro l nl
  obtain⟨H1,i1,s1,g1⟩:=nw _ nl;rw[i1]
  have gw1:=s1 _ _ gw
  have lw:l≠w:=fun z=>by rw[z,gw] at nl;cases nl
  have nlD:del w H l=none:=by rw[aF0 lw];exact nl
  walk_at "w"
  refine aKE gw1 fun ob=>?_
  obtain⟨H2,i2,k2,g2⟩:=wr H1 w _;rw[i2]
  have g12:=k2 _ _ g1 lw
  have S2:aI (del w H) H2:=fun b o e=>k2 _ _ (s1 _ _ (aMe _ _ e)) (fun z=>by rw[z,aKG] at e;cases e)
  refine aIR (kvs:=enc ps) (fun i σ' H'=>∃(ps':List WP) (z3 z4 z5 z6:Option V),σ'=[some (.ref q),some (.ref w),some (.ref l),z3,z4,z5,z6]/\H' l=some (.dT (enc ps'))/\aBZ ps'/\(∀s,s∈ps'.map (·.1)↔∃q∈(ps.take i).map (·.1),On m q s)/\aI (del w H) H'/\H' w=some (.frz ob (.dT (enc ps))))
   ⟨[],_,_,_,_,rfl,g12,⟨List.nodup_nil,fun p hp=>by cases hp⟩,fun s=>⟨(fun h=>by cases h),(fun⟨q,h,_⟩=>by simp at h)⟩,S2,g2⟩ (fun i σ' H' hi ⟨_,_,_,_,_,_,_,_,_,_,h⟩=>h) (fun i kv σ' H' T b hk ⟨ps',z3,z4,z5,z6,e,gl,hW',hs,S',gw'⟩ nT gb=>?_) (fun σ' H' ⟨ps',z3,z4,z5,z6,e,gl,hW',hs,S',gw'⟩=>?_)
  ·subst e
   obtain⟨p,ep,rfl⟩:=aDQ hk
   have hst:=hW.st p (List.mem_of_getElem? ep)
   have gb0:H' b=some (.tup [.int p.1.1,.int p.1.2]):=gb
   obtain⟨H3,i3,s3,gT⟩:=nw _ nT;rw[i3]
   refine fD (kL.of gT) rfl ?_
   walk_at "w"
   intro Tu nTu
   obtain⟨H4,i4,s4,gTu⟩:=nw _ nTu;rw[i4]
   have gl4:=(s3.trans s4) _ _ gl
   have gb4:=(s3.trans s4) _ _ gb0
   have gw4:=(s3.trans s4) _ _ gw'
   have S4:=S'.trans (s3.trans s4)
   have Tul:Tu≠l:=fun z=>by rw[z,gl4] at gTu;cases gTu
   have bl:b≠l:=fun z=>by rw[z,gl4] at gb4;cases gb4
   walk_at "w"
   refine aGp (kL.of gTu) ?_
   refine aFy (xs:=([0,1]:List Int).map V.int) (fun j σ' H'=>∃(ps':List WP) (z5 z6:Option V),σ'=[some (.ref q),some (.ref w),some (.ref l),some (.ref b),some (.int p.2),z5,z6]/\H' l=some (.dT (enc ps'))/\aBZ ps'/\(∀s,s∈ps'.map (·.1)↔(∃q∈(ps.take i).map (·.1),On m q s)\/∃on∈([0,1]:List Int).take j,(p.1.1=on\/p.1.2=0)/\s=pE m p.1.1 p.1.2 on)/\aI (del w H) H'/\bS l H4 H')
    ⟨ps',_,_,rfl,gl4,hW',fun s=>by rw[hs s];simp,S4,fun _ _ e _=>e⟩ (fun j σ' H' hj ⟨_,_,_,_,_,_,_,_,h⟩=>kL.of (h _ _ gTu Tul)) (fun j v σ' H5 hv ⟨ps',z5,z6,e,gl5,hW5,hs5,S5,k5⟩=>?_) (fun σ' H5 ⟨ps',z5,z6,e,gl5,hW5,hs5,S5,k5⟩=>?_)
   ·subst e
    obtain⟨on,eon,rfl⟩:=aAk hv
    have bon:Bit on:=by
     have:=List.mem_of_getElem? eon
     simp at this
     exact this
    have gb5:=k5 _ _ gb4 bl
    have tk:([0,1]:List Int).take (j+1)=([0,1]:List Int).take j ++ [on]:=by rw[List.take_add_one,eon];rfl
    walk_at "w"
    refine⟨_,b,_,_,on,rfl,gb5,?_⟩
    by_cases hmay:p.1.1=on\/p.1.2=0
    ·rw[show(decide (p.1.1=on) || decide (p.1.2=0))=true by simpa using hmay]
     walk_at "w"
     refine⟨q,m,b,_,_,on,rfl,hmD.same S5,gb5,hmay,fun T2 H6 s6 nT2 gT2=>?_⟩
     have gl6:=s6 _ _ gl5
     have gk:H6 T2=some (.tup ((jK (pE m p.1.1 p.1.2 on)).map kV)):=gT2
     have hle:=hW5.len
     walk_at "w"
     refine⟨l,rfl,.inr ⟨_,.inl gl6⟩,?_⟩
     walk_at "w"
     refine⟨_,kE.t gl6 gk,?_⟩
     rw[aAl,aKv]
     walk_at "w"
     refine⟨l,_,rfl,aAC.t gl6 gk (Nat.lt_of_lt_of_le (by rw[mD];omega:(enc ps').length < 1000) (bX (by decide))),?_⟩
     rw[aKs]
     obtain⟨H7,i7,k7,g7⟩:=wr H6 l _;rw[i7]
     walk_at "w"
     refine⟨_,_,_,rfl,g7,hW5.add (hst.pE hg bon) p.2,fun s=>?_,fun b o e=>k7 _ _ ((S5.trans s6) _ _ e) (bE nlD e),k5.trans (s6.keep.trans k7)⟩
     rw[aHD,hs5 s,tk]
     constructor
     ·rintro ((h|⟨on',h1,h2⟩)|h)
      ·exact .inl h
      ·exact .inr ⟨on',List.mem_append_left _ h1,h2⟩
      ·exact .inr ⟨on,List.mem_append_right _ (.head _),hmay,h⟩
     ·rintro (h|⟨on',h1,h2,h3⟩)
      ·exact .inl (.inl h)
      ·rcases List.mem_append.mp h1 with z|z
       ·exact .inl (.inr ⟨on',z,h2,h3⟩)
       ·rw[List.mem_singleton.mp z] at h3;exact .inr h3
    ·rw[show(decide (p.1.1=on) || decide (p.1.2=0))=false by simpa using hmay]
     walk_at "w"
     refine⟨ps',_,_,rfl,gl5,hW5,fun s=>?_,S5,k5⟩
     rw[hs5 s,tk]
     constructor
     ·rintro (h|⟨on',h1,h2⟩)
      ·exact .inl h
      ·exact .inr ⟨on',List.mem_append_left _ h1,h2⟩
     ·rintro (h|⟨on',h1,h2,h3⟩)
      ·exact .inl h
      ·rcases List.mem_append.mp h1 with z|z
       ·exact .inr ⟨on',z,h2,h3⟩
       ·rw[List.mem_singleton.mp z] at h2;exact absurd h2 hmay
   ·subst e
    refine⟨ps',_,_,_,_,rfl,gl5,hW5,fun s=>?_,S5,k5 _ _ gw4 (Ne.symm lw)⟩
    rw[hs5 s,take_snoc ep,List.map_append]
    constructor
    ·rintro (⟨q,h1,h2⟩|⟨on',h1,h2,h3⟩)
     ·exact⟨q,List.mem_append_left _ h1,h2⟩
     ·exact⟨p.1,List.mem_append_right _ (.head _),on',by simpa [Bit] using h1,h2,h3⟩
    ·rintro ⟨q,h1,on',b1,h2,h3⟩
     rcases List.mem_append.mp h1 with z|z
     ·exact .inl ⟨q,z,on',b1,h2,h3⟩
     ·rw[show q=p.1 by simpa using z] at h2 h3
      exact .inr ⟨on',by rcases b1 with rfl|rfl <;> simp,h2,h3⟩
  ·subst e
   walk_at "w"
   refine k l ps' H' S' nl gl hW' fun s=>?_
   rw[hs s,mD,List.take_length]
theorem aF6{t:TE}{σ σ':St}{H:Hp}{Q:VK}(e:σ'=σ)(h:t σ H Q):t σ' H Q:=e▸h
theorem RL.one{α:Type}{P:Addr->α->Prop}{a:Addr}{x:α}(h:P a x):RL P [a] [x]:=⟨rfl,fun j q u hq hu=>by
 match j,hq,hu with
 |0,hq,hu=>cases hq;cases hu;exact h
 |_+1,hq,_=>simp at hq⟩
theorem aJo(ps:List WP):(enc ps).map (·.1)=(ps.map fun p=>[p.1.1,p.1.2]).map fun t=>t.map Sum.inl:=by
 unfold enc
 rw[List.map_map,List.map_map]
 rfl
theorem aB2{H:Hp}{ps:List WP}{qs:List Addr}{us:List (List Int)}(nd:(ps.map (·.1)).Nodup)(hT:mO H qs us)(hp:us.Perm (ps.map fun p=>[p.1.1,p.1.2]))(hs:us.Pairwise fun a b=>iZ b a=false) :
  ∃ks:List (Int×Int),ks.Pairwise sLt/\(∀s,s∈ks↔s∈ps.map (·.1))/\PVs κS H (qs.map V.ref) ks:=by
 have hform:∀u∈us,u=[u.getD 0 0,u.getD 1 0]:=fun u hu=>by
  obtain⟨p,_,rfl⟩:=List.mem_map.mp (hp.mem_iff.mp hu)
  rfl
 have pk:(us.map fun u=>(u.getD 0 0,u.getD 1 0)).Perm (ps.map (·.1)):=by
  have:=hp.map fun u=>(u.getD 0 0,u.getD 1 0)
  rw[List.map_map] at this
  exact this
 have ndk:=pk.nodup_iff.mpr nd
 refine⟨us.map fun u=>(u.getD 0 0,u.getD 1 0),?_,fun s=>pk.mem_iff,?_⟩
 ·rw[List.pairwise_map]
  have nd':us.Pairwise fun a b=>(a.getD 0 0,a.getD 1 0)≠(b.getD 0 0,b.getD 1 0):=List.pairwise_map.mp ndk
  refine(hs.and nd').imp_of_mem ?_
  intro a b ha hb ⟨h1,h2⟩
  rw[hform a ha,hform b hb] at h1
  generalize a.getD 0 0=a0 at h1 h2 ⊢
  generalize a.getD 1 0=a1 at h1 h2 ⊢
  generalize b.getD 0 0=b0 at h1 h2 ⊢
  generalize b.getD 1 0=b1 at h1 h2 ⊢
  unfold sLt
  show a0 < b0\/(a0=b0/\a1 < b1)
  by_cases e0:a0=b0
  ·subst e0
   by_cases e1:a1=b1
   ·exact absurd (by rw[e1]) h2
   ·rw[bZ,if_pos rfl,bZ,if_neg (fun z=>e1 z.symm)] at h1
    have:=of_decide_eq_false h1
    omega
  ·rw[bZ,if_neg (fun z=>e0 z.symm)] at h1
   have:=of_decide_eq_false h1
   omega
 ·refine⟨by rw[List.length_map,List.length_map,hT.len],fun i v x h1 h2=>?_⟩
  rw[List.getElem?_map] at h1 h2
  obtain⟨q,e1,rfl⟩:=Option.map_eq_some_iff.mp h1
  obtain⟨u,e2,rfl⟩:=Option.map_eq_some_iff.mp h2
  have:=(hT.at_ i q u e1 e2).1
  rw[hform u (List.mem_of_getElem? e2)] at this
  exact⟨q,rfl,this⟩
def w9(K:W.Frag)(C:Addr):Sp:=fun vs H Q _=>∃(q:Addr) (m:MS) (t:Addr) (a:Int×Int) (n:Nat),vs=[.ref q,.ref t,.int (n:Int)]/\bW C H q m/\m.Good/\H t=some (.tup [.int a.1,.int a.2])/\St1 m a/\n<=1000/\
 ∀la Ls H',aI H H'->H la=none->aEX κS H' la Ls->aDO m a Ls->Ls.length=n+1->Q (.ref la) H'
theorem xA{P:Program}{w:World}{K:PySem.W.Frag}{mg:Str->Option Value}{base:Heap}{a:kW}(tx:Txt K mg a):bO P w K mg base iB 4 a.gA a.gB ["machine","state","hours"] (w9 K a.aZ):=by
 have aB3:=aBq (P:=P) (w:=w) (base:=base) tx
 refine tx.jG.ok dH (fun vs H Q E h=>?_) (fun cdv A outer s H vs Q E hr h=>?_)
 ·obtain⟨q,m,t,st,n,rfl,_⟩:=h
  rfl
 ·obtain⟨q,m,t,st,n,rfl ,hm,hg,ht,hst,hn,k⟩:=h
  have hu:=kZ hr
  refine Z.root (Z.aD (Z.aS (i:=3) dH.nd rfl (Or.inl rfl) (Z.aAR hu (Z.pv 1) Z.aA))
   (Z.aD (Z.aS (i:=4) dH.nd rfl (Or.inl rfl) (Z.aBF (Z.aBF (Z.pv 1))))
   (Z.aD (Z.cS PassesOwn.never rfl (Z.cZ (by rfl) tx.dO (Z.aE (Z.pv 2) Z.aC)) (Z.aM (i:=5) dH.nd rfl (Or.inl rfl)) (Z.aD (Z.aS (i:=3) dH.nd rfl (Or.inl rfl) (Z.aF (aB3) (hr.mono (by decide)) (by rfl) tx.uM tx.oO.kp tx.uL .nil aU (Z.aE (Z.pv 0) (Z.aE (Z.pv 3) Z.aC))))
   (Z.aG (Z.iC (Z.nB (K':=K) (Z.pv 4) (Z.aE (Z.aN (rc:=aFM) (aDj rfl) (by rfl) tx.mX aCu (Z.aE (Z.pv 3) Z.aC)) Z.aC))))))
   (Z.aG (Z.aV (Z.pv 4)))))) ?_
  refine aR (σ:=[some (.ref q),some (.ref t),some (.int (n:Int)),none,none,none]) rfl ?_
  walk_at "w"
  intro w nw0
  obtain⟨H1,i1,s1,g1⟩:=nw _ nw0;rw[i1]
  have ht1:=s1 _ _ ht
  walk_at "w"
  refine⟨t,jK st,rfl,ht1,g1,?_⟩
  obtain⟨H2,i2,k2,g2⟩:=wr H1 w _;rw[i2]
  have S2:aI H H2:=fun b o e=>k2 _ _ (s1 _ _ e) (bE nw0 e)
  walk_at "w"
  intro l0 nl0
  obtain⟨H3,i3,s3,g3⟩:=nw _ nl0;rw[i3]
  walk_at "w"
  intro la nla
  obtain⟨H4,i4,s4,g4⟩:=nw _ nla;rw[i4]
  have S4:aI H H4:=S2.trans (s3.trans s4)
  have nlaH:H la=none:=(S2.trans s3).free nla
  have g24:=(s3.trans s4) _ _ g2
  have g34:=s4 _ _ g3
  have ht4:=S4 _ _ ht
  have wla:w≠la:=fun z=>by rw[z,g4] at g24;cases g24
  walk_at "w"
  refine⟨by omega,by omega,?_⟩
  refine kH (fun i σ' H'=>∃(w:Addr) (ps:List WP) (as:List Addr) (Ls:List (List (Int×Int))) (z5:Option V),σ'=[some (.ref q),some (.ref t),some (.int (n:Int)),some (.ref w),some (.ref la),z5]/\H w=none/\H' w=some (.dT (enc ps))/\aBZ ps/\(∀s,s∈ps.map (·.1)↔Rc m st i s)/\aI H H'/\H' la=some (.lst (as.map V.ref))/\RL (fun b ps=>∃us,H' b=some (.lst us)/\PVs κS H' us ps/\b≠la) as Ls/\aDO m st Ls/\Ls.length=i+1)
   ⟨w,[(st,1)],[l0],[[st]],_,rfl,nw0,g24,⟨by simp,fun p hp=>by rw[List.mem_singleton.mp hp];exact hst.st0 hg⟩,?_,S4,g4,RL.one ⟨_,g34,⟨rfl,fun i v x h1 h2=>?_⟩,fun z=>?_⟩,⟨fun i ps hi=>?_⟩,rfl⟩ (fun i σ' H' hi ⟨w',ps,as,Ls,z5,e,nw',gw,hW,hk,S',gla,rla,hL,lL⟩=>?_) (fun σ' H' ⟨w',ps,as,Ls,z5,e,nw',gw,hW,hk,S',gla,rla,hL,lL⟩=>?_)
  ·intro s
   show s∈[st]↔s=st
   simp
  ·match i,h1,h2 with
   |0,h1,h2=>cases h1;cases h2;exact⟨t,rfl,ht4⟩
   |_+1,h1,_=>simp at h1
  ·rw[z,nla] at g3
   cases g3
  ·match i,hi with
   |0,hi=>cases hi;exact⟨by simp,fun s=>by show s∈[st]↔s=st;simp⟩
   |_+1,hi=>simp at hi
  ·subst e
   walk_at "w"
   refine⟨q,m,w',ps,rfl,hm.same S',hg,gw,hW,fun w2 ps2 H5 s5 nw2 gw2 hW2 hk2=>?_⟩
   have S5:aI H H5:=fun b o e=>s5 _ _ (m3 (S' _ _ e) (bE nw' e))
   have gla5:H5 la=some (.lst (as.map V.ref)):=s5 _ _ (m3 gla fun z=>by rw[z,gw] at gla;cases gla)
   have hk3:∀s,s∈ps2.map (·.1)↔Rc m st (i+1) s:=fun s=>by
    rw[hk2 s]
    exact⟨fun⟨p,h1,h2⟩=>⟨p,(hk p).mp h1,h2⟩,fun⟨p,h1,h2⟩=>⟨p,(hk p).mpr h1,h2⟩⟩
   have vO:=Rc.vO hg hst hW2.nd fun k hk=>(hk3 k).mp hk
   rw[List.length_map] at vO
   have las:=rla.len
   walk_at "w"
   refine oK (bG.of gla5) ?_
   walk_at "w"
   refine aI6 gw2 (aJo ps2) (fun t ht=>by obtain⟨p,_,rfl⟩:=List.mem_map.mp ht;simp) (by rw[List.length_map];omega) fun p qs us np hT hp hs=>?_
   obtain⟨ks,k1,k2',k3⟩:=aB2 hW2.nd hT hp hs
   obtain⟨H6,i6,s6,g6⟩:=nw _ np;rw[i6]
   have npla:p≠la:=fun z=>by rw[z,gla5] at np;cases np
   walk_at "w"
   refine rO (xs:=as.map V.ref) (s6 _ _ gla5) (Nat.lt_of_lt_of_le (by rw[List.length_map];omega:(as.map V.ref).length < 20000) (bX (by decide))) ?_
   obtain⟨H7,i7,k7,g7⟩:=wr H6 la _;rw[i7]
   have w2la:w2≠la:=fun z=>by rw[z,gla5] at gw2;cases gw2
   walk_at "w"
   have hR:RL (fun b ps=>∃us,H7 b=some (.lst us)/\PVs κS H7 us ps/\b≠la) (as ++ [p]) (Ls ++ [ks]):=by
    refine RL.snoc (rla.imp fun b ps ⟨us,a1,a2,a3⟩=>?_) ⟨_,k7 _ _ g6 npla,⟨k3.1,fun i v x h1 h2=>PK.aDL (κS.oF (k3.2 i v x h1 h2) s6) (s6 _ _ gla5) k7⟩,npla⟩
    have a1':H5 b=some (.lst us):=s5 _ _ (m3 a1 fun z=>by rw[z,gw] at a1;cases a1)
    refine⟨us,k7 _ _ (s6 _ _ a1') a3,⟨a2.1,fun i v x h1 h2=>?_⟩,a3⟩
    obtain⟨b',e',hb'⟩:=a2.2 i v x h1 h2
    exact PK.aDL (κS.oF (H:=H5) ⟨b',e',s5 _ _ (m3 hb' fun z=>by rw[z,gw] at hb';cases hb')⟩ s6) (s6 _ _ gla5) k7
   have hLL:aDO m st (Ls ++ [ks]):=by
    refine⟨fun j rs hj=>?_⟩
    by_cases hj2:j < Ls.length
    ·rw[List.getElem?_append_left hj2] at hj
     exact hL.at_ j rs hj
    ·have hj3:j < (Ls ++ [ks]).length:=(List.getElem?_eq_some_iff.mp hj).1
     rw[List.length_append,List.length_singleton] at hj3
     obtain rfl:j=Ls.length:=by omega
     rw[List.getElem?_append_right (Nat.le_refl _),Nat.sub_self] at hj
     cases hj
     refine⟨k1,fun s=>?_⟩
     rw[k2' s,hk3 s,lL]
   exact⟨w2,ps2,as ++ [p],Ls ++ [ks],_,rfl,S'.free nw2,k7 _ _ (s6 _ _ gw2) w2la,hW2,hk3,fun b o e=>k7 _ _ (s6 _ _ (S5 _ _ e)) (bE nlaH e),by rw[g7,List.map_append];rfl,hR,hLL,by rw[List.length_append,lL];rfl⟩
  ·subst e
   walk_at "w"
   exact k la Ls H' S' nlaH ⟨as,gla,rla.imp fun b ps ⟨us,a1,a2,_⟩=>⟨us,a1,a2⟩⟩ hL (by omega)
def aB4(K:W.Frag)(C:Addr):Sp:=fun vs H Q _=>∃(q:Addr) (m:MS) (t:Addr) (a:Int×Int),vs=[.ref q,.ref t]/\bW C H q m/\m.Good/\H t=some (.tup [.int a.1,.int a.2])/\St0 a.1 a.2/\
 ∀l H',aI H H'->qU κS H' l ((([0,1]:List Int).filter (zT a)).map fun on=>(on,pE m a.1 a.2 on,aMg m a on))->Q (.ref l) H'
theorem aB5{P:Program}{w:World}{K:PySem.W.Frag}{mg:Str->Option Value}{base:Heap}{a:kW}(tx:Txt K mg a):bO P w K mg base iB 7 a.lO a.lP ["machine","state"] (aB4 K a.aZ):=by
 have mZ:=t9 (P:=P) (w:=w) (base:=base) tx
 have aF7:=aET (P:=P) (w:=w) (base:=base) tx
 have gN:=mY (P:=P) (w:=w) (base:=base) tx
 refine tx.qM.ok aBM (fun vs H Q E h=>?_) (fun cdv A outer s H vs Q E hr h=>?_)
 ·obtain⟨q,m,t,st,rfl,_⟩:=h
  rfl
 ·obtain⟨q,m,t,st,rfl ,hm,hg,ht,hst,k⟩:=h
  have hu:=kZ hr
  refine Z.root (Z.aG (Z.aV (Z.cO (k:=1) (idx:=[0,1]) (N:=["on","machine","state"]) (cF (sc:=aB eF) (NX:=["machine","state"]) rfl rfl rfl (by decide +kernel)) rfl (Z.aAf (K':=K) (Z.rE Z.aA Z.aA)) (fun _ _ _ _=>(Z.aM (i:=0) (show(["on","machine","state"]:List Str).Nodup by decide +kernel) rfl (Or.inl rfl))) (dF (by decide)) (fun _ _ _ _=>(Z.aAc (Z.i0 (Z.aF (mZ) (hr.mono (by decide)) (by rfl) tx.sN tx.o5.kp tx.sM .nil aU (Z.aE (Z.pv 1) (Z.aE (Z.pv 2) (Z.aE (Z.pv 0) Z.aC))))))) (fun _ _ _ _=>(Z.aFz (Z.pv 0) (Z.aF (gN) (hr.mono (by decide)) (by rfl) tx.j7 tx.gL.kp tx.j0 .nil aU (Z.aE (Z.pv 1) (Z.aE (Z.pv 2) (Z.aE (Z.pv 0) Z.aC)))) (Z.aF (aF7) (hr.mono (by decide)) (by rfl) tx.aBb tx.vD.kp tx.aBa .nil aU (Z.aE (Z.pv 1) (Z.aE (Z.pv 2) (Z.aE (Z.aBF (Z.pv 0)) Z.aC))))))))) ?_
  refine aR (σ:=[some (.ref q),some (.ref t)]) rfl ?_
  walk_at "w"
  intro Tu nTu
  obtain⟨H1,i1,s1,gTu⟩:=nw _ nTu;rw[i1]
  refine aGp (kL.of gTu) ?_
  refine aIo (xs:=([0,1]:List Int).map V.int) (fun j us H'=>aI H1 H'/\∃as:List Addr,us=as.map V.ref/\as.length<=j/\RL (zB κS H') as (((([0,1]:List Int).take j).filter (zT st)).map fun on=>(on,pE m st.1 st.2 on,aMg m st on))) ⟨aI.refl _,[],rfl,Nat.le_refl _,RL.nil⟩ (bX (by simp))
   (fun j us H' hj ⟨s',as,e,la,r⟩=>⟨kL.of (s' _ _ gTu),by rw[e,List.length_map];exact la⟩) (fun j v us H' hv ⟨s',as,e,la,r⟩=>?_) (fun us H' ⟨s',as,e,la,r⟩=>?_)
  ·obtain⟨on,eon,rfl⟩:=aAk hv
   have bon:Bit on:=by
    have:=List.mem_of_getElem? eon
    simp at this
    exact this
   have tk:([0,1]:List Int).take (j+1)=([0,1]:List Int).take j ++ [on]:=by rw[List.take_add_one,eon];rfl
   have S':=s1.trans s'
   have ht':=S' _ _ ht
   walk_at "w"
   refine⟨_,t,_,_,on,rfl,ht',?_⟩
   by_cases hmay:st.1=on\/st.2=0
   ·have hmb:zT st on=true:=pC.mpr hmay
    rw[show(decide (st.1=on) || decide (st.2=0))=true from hmb]
    walk_at "w"
    refine⟨q,m,t,_,_,on,rfl,hm.same S',ht',hmay,fun T2 H3 s3 nT2 gT2=>?_⟩
    walk_at "w"
    intro lo nlo
    obtain⟨H4,i4,s4,g4⟩:=nw _ nlo;rw[i4]
    walk_at "w"
    refine⟨q,m,t,_,_,lo,[on],rfl,hm.same (S'.trans (s3.trans s4)),hg,(s3.trans s4) _ _ ht',g4,by simp,?_,fun H5 s5=>?_⟩
    ·show(if st.1=on\/st.2=0 then _ else _)=_
     rw[if_pos hmay]
     rfl
    walk_at "w"
    intro T nT
    obtain⟨H6,i6,s6,g6⟩:=nw _ nT;rw[i6]
    have s36:=s3.trans (s4.trans (s5.trans s6))
    refine⟨s'.trans s36,as ++ [T],by rw[e,List.map_append];rfl,by rw[List.length_append];simp;omega,?_⟩
    rw[tk,List.filter_append,List.map_append,List.filter_cons_of_pos hmb]
    exact RL.snoc (r.imp fun _ _ z=>z.same s36) ⟨_,g6,T2,rfl,(s4.trans (s5.trans s6)) _ _ gT2⟩
   ·have hmb:zT st on=false:=by cases h:zT st on;rfl;exact absurd (pC.mp h) hmay
    rw[show(decide (st.1=on) || decide (st.2=0))=false from hmb]
    walk_at "w"
    refine⟨s',as,e,by omega,?_⟩
    rw[tk,List.filter_append,List.map_append,List.filter_cons_of_neg (by rw[hmb];simp)]
    simpa using r
  ·intro l nl
   obtain⟨H3,i3,s3,g3⟩:=nw _ nl;rw[i3]
   walk_at "w"
   exact k l H3 (s1.trans (s'.trans s3)) ⟨as,by rw[g3,e],r.imp fun _ _ z=>z.same s3⟩
def xC(K:W.Frag)(C:Addr):Sp:=fun vs H Q _=>∃(q:Addr) (m:MS) (t:Addr) (a:Int×Int) (p:Int),vs=[.ref q,.ref t,.int p]/\bW C H q m/\m.Good/\H t=some (.tup [.int a.1,.int a.2])/\St0 a.1 a.2/\0<=p/\p<=1000000000001/\
 ∀l H',aI H H'->qU κS H' l (rwy m p a)->Q (.ref l) H'
theorem qW{P:Program}{w:World}{K:PySem.W.Frag}{mg:Str->Option Value}{base:Heap}{a:kW}(tx:Txt K mg a):bO P w K mg base iB 8 a.nV a.nW ["machine","state","price"] (xC K a.aZ):=by
 have aBr:=zO (P:=P) (w:=w) (base:=base) tx
 have aDR:=aB5 (P:=P) (w:=w) (base:=base) tx
 refine tx.kK.ok aDq (fun vs H Q E h=>?_) (fun cdv A outer s H vs Q E hr h=>?_)
 ·obtain⟨q,m,t,st,pr,rfl,_⟩:=h
  rfl
 ·obtain⟨q,m,t,st,pr,rfl ,hm,hg,ht,hst,p0,p1,k⟩:=h
  have hu:=kZ hr
  refine Z.root (Z.aG (Z.aV (Z.cO (k:=3) (idx:=[0,2]) (N:=["on","later","cost","machine","price"]) (cF (sc:=aB fL) (NX:=["machine","state","price"]) rfl rfl rfl (by decide +kernel)) rfl (Z.bQ (K':=K) (Z.aF (aDR) (hr.mono (by decide)) (by rfl) tx.wM tx.qM.kp tx.wL .nil aU (Z.aE (Z.pv 0) (Z.aE (Z.pv 1) Z.aC)))) (fun _ _ _ _=>(Z.fE (K':=K) (n:=3) rfl (Z.bA (Z.aM (i:=0) (show(["on","later","cost","machine","price"]:List Str).Nodup by decide +kernel) rfl (Or.inl rfl)) (Z.bA (Z.aM (i:=1) (show(["on","later","cost","machine","price"]:List Str).Nodup by decide +kernel) rfl (Or.inl rfl)) (Z.bA (Z.aM (i:=2) (show(["on","later","cost","machine","price"]:List Str).Nodup by decide +kernel) rfl (Or.inl rfl)) Z.dJ))))) (nA (bP (by decide) (bP (by decide) (bP (by decide) kG)))) (fun _ _ _ _=>Z.cG) (fun _ _ _ _=>(Z.aFz (Z.pv 0) (Z.pv 1) (Z.aT gF (Z.pv 2) (Z.aT bV (Z.pv 0) (Z.aCZ (Z.pv 3) tx.cC tx.m_Machine_gain (aBr) (hr.mono (by decide)) tx.sJ .nil aU (Z.aE (Z.pv 4) Z.aC))))))))) ?_
  refine aR (σ:=[some (.ref q),some (.ref t),some (.int pr)]) rfl ?_
  walk_at "w"
  refine⟨q,m,t,st,rfl,hm,hg,ht,hst,fun l H1 s1 hw1=>?_⟩
  obtain⟨as,gl,rl⟩:=hw1.ex
  have las:=rl.len
  have lfil:=aAm m pr st
  unfold rwy at lfil
  rw[List.length_map] at las lfil
  refine fH (bG.of gl) ?_
  refine cB (xs:=as.map V.ref) (fun j us H'=>aI H1 H'/\∃bs:List Addr,us=bs.map V.ref/\RL (zB κS H') bs ((rwy m pr st).take j)) ⟨aI.refl _,[],rfl,RL.nil⟩ (bX (by rw[List.length_map];omega))
   (fun j us H' hj ⟨s',bs,e,r⟩=>⟨bG.of (s' _ _ gl),by rw[e,List.length_map,r.len,List.length_take];omega⟩) (fun j v us H' hv ⟨s',bs,e,r⟩=>?_) (fun us H' ⟨s',bs,e,r⟩=>?_)
  ·obtain⟨a1,w,ea,rfl,ew,vv,g1,hp⟩:=rl.gt hv
   rw[List.getElem?_map] at ew
   obtain⟨on,eon,rfl⟩:=Option.map_eq_some_iff.mp ew
   have er:(rwy m pr st)[j]?=some (on,pE m st.1 st.2 on,hw m pr st on):=by unfold rwy;rw[List.getElem?_map,eon];rfl
   obtain⟨b,rfl,hb⟩:=hp
   have bon:0<=on/\on<=1:=by
    have:=(List.mem_filter.mp (List.mem_of_getElem? eon)).1
    simp at this
    omega
   obtain⟨bo0,bo1⟩:=bon
   refine fD (kL.of (s' _ _ g1)) rfl ?_
   walk_at "w"
   have hm2:=hm.same (s1.trans s')
   obtain⟨dx,pl,hq,_⟩:=hm2.ex
   refine⟨q,dx,_,rfl,hq,rfl,?_⟩
   walk_at "w"
   refine⟨q,m,pr,rfl,hm2,hg,p0,p1,?_⟩
   walk_at "w"
   intro T nT
   obtain⟨H3,i3,s3,g3⟩:=nw _ nT;rw[i3]
   refine⟨s'.trans s3,bs ++ [T],by rw[e,List.map_append];rfl,?_⟩
   rw[cJ er]
   exact RL.snoc (r.imp fun _ _ z=>z.same s3) ⟨_,g3,b,rfl,(s'.trans s3) _ _ hb⟩
  ·intro l2 nl2
   obtain⟨H3,i3,s3,g3⟩:=nw _ nl2;rw[i3]
   walk_at "w"
   rw[List.length_map,las,show(([0,1]:List Int).filter (zT st)).length=(rwy m pr st).length by unfold rwy;rw[List.length_map],List.take_length] at r
   exact k l2 H3 (s1.trans (s'.trans s3)) ⟨bs,by rw[g3,e],r.imp fun _ _ z=>z.same s3⟩
theorem yH{K:W.Frag}{a:kW}{H:Hp}{x q:Addr}{m:MS}{ps:List Int}(C:Addr->Sp->Prop)(f:Addr)(spc:Sp)(hC:C f spc)(hs:bW a.aZ H x m)(hg:m.Good)(hq:H q=some (.lst (ps.map V.int)))(ha:∀n∈ps,Am n)
  (h:∀(H':Hp) (h:Nat) (b:Addr) (p:Int) (Q:VK),aI H H'->H' q=some (.lst (ps.map V.int))->uH (ps.map V.int) (h:Int)=some (.int p)->xC K a.aZ [.ref x,.ref b,.int p] H' Q E0->spc [.int (h:Int),.ref b] H' Q E0) :
  qV κS C H f (Wr m ps) fun i y=>i < ps.length/\St0 y.1 y.2:=by
 refine⟨spc,hC,fun H' i v y Q s' hL hpv hk=>?_⟩
 obtain⟨b,rfl,hb⟩:=hpv
 obtain⟨hi,hy⟩:=hL
 have ep:ps[i]?=some ps[i]:=List.getElem?_eq_getElem hi
 obtain⟨a0,a1⟩:=ha _ (List.getElem_mem hi)
 refine h H' i b ps[i] Q s' (s' _ _ hq) (dM (by rw[List.getElem?_map,ep];rfl)) ⟨x,m,b,y,ps[i],rfl,hs.same s',hg,hb,hy,a0,by omega,fun l H2 s2 hw=>hk l H2 s2 ?_⟩
 unfold Wr
 rw[List.getD_eq_getElem?_getD,ep]
 exact hw
def uE(K:W.Frag)(C t:Addr):Sp:=fun vs H Q _=>∃(x:Addr) (m:MS) (b:Addr) (a:Int×Int) (q:Addr) (ps:List Int),vs=[.ref x,.ref b,.ref q]/\H t=some (.ctb cD cE)/\bW C H x m/\m.Good/\H b=some (.tup [.int a.1,.int a.2])/\St1 m a/\H q=some (.lst (ps.map V.int))/\(∀n∈ps,Am n)/\ps.length<=48/\
 ∀r Ls H',aI H H'->H r=none->aDO m a Ls->Ls.length=ps.length+1->aF4 κS H' r Ls (fun i=>wF (Wr m ps) (Ls.length - 1 - i) i)->Q (.ref r) H'
theorem kX{P:Program}{w:World}{K:PySem.W.Frag}{mg:Str->Option Value}{base:Heap}{a:kW}(tx:Txt K mg a):bO P w K mg base iB 12 a.eK a.dB ["machine","state","prices"] (uE K a.aZ a.cH):=by
 have yI:=xA (P:=P) (w:=w) (base:=base) tx
 have xD:=fun base':Heap=>w4 (P:=P) (w:=w) (base:=base') tx
 refine tx.eM.okC tx.gZ kU (fun vs H Q E h=>?_) (fun A outer s H vs Q E hr h=>?_)
 ·obtain⟨x,m,b,st,q,ps,rfl,_⟩:=h
  rfl
 ·obtain⟨x,m,b,st,q,ps,rfl ,gt,hm,hg,hb,hst,hq,ha,hl,k⟩:=h
  have hu:=kZ hr
  refine Z.root (Z.aD (Z.aS (i:=3) kU.nd rfl (Or.inl rfl) (Z.aF (yI) (hr.mono (by decide)) (by rfl) tx.o9 tx.jG.kp tx.o8 .nil aU (Z.aE (Z.pv 0) (Z.aE (Z.pv 1) (Z.aE (Z.aN (rc:=oV K) bY (by rfl) tx.fP eZ (Z.aE (Z.pv 2) Z.aC)) Z.aC)))))
   (Z.aG (Z.aV (Z.rT (psL:=["hour","place"]) (N:=["hour","place","machine","prices"]) (idx:=[0,2]) (sp:=fun C=>oH K C) (kc:=8) (xD) (hr.mono (by decide)) (by rfl) tx.o7 tx.jF.kp tx.o6 (fun _=>rfl) (cF (sc:=aB bR) (NX:=["machine","state","prices","layers"]) rfl rfl rfl (by decide +kernel)) rfl rfl rfl rfl (fun _ _ _ _ us hl=>by obtain⟨_,_,rfl⟩:=ar2 us hl;rfl) (Z.pR (Z.pv 3) (Z.aDg (N:=["hour","place","machine","prices"]) (n:=2) (idx:=[0,2]) rfl tx.gZ.hd rfl rfl (cF (sc:=aB bR) (NX:=["machine","state","prices","layers"]) rfl rfl rfl (by decide +kernel)))) (fun _ _ _ _ _ _ _ _ hr hu=>(Z.aF (qW tx) (hr.mono (by decide)) (by rfl) tx.oC tx.kK.kp tx.oB .nil aU (Z.aE (Z.pv 2) (Z.aE (Z.pv 1) (Z.aE (Z.aL (K':=K) (Z.pv 3) (Z.pv 0) (fun _ _=>rfl)) Z.aC))))))))) ?_
  refine aR (σ:=[some (.ref x),some (.ref b),some (.ref q),none]) rfl ?_
  walk_at "w"
  refine⟨x,m,b,st,ps.length,by rw[List.length_map],hm,hg,hb,hst,by omega,fun la Ls H1 s1 nla hla hL lL=>?_⟩
  walk_at "w"
  refine⟨s1 _ _ gt,fun f c' H3 Cc s3 hc hC=>?_⟩
  have s03:=s1.trans s3
  refine⟨Int×Int,κS,la,f,Ls,Wr m ps,_,rfl,hla.same s3,aGO hg hst ps (by omega) hL,by omega,yH (K:=K) (a:=a) Cc f _ hC (hm.same s03) hg (s03 _ _ hq) ha (fun H' h b' p Q s' gq hp hsp=>?_),fun i qs y e1 e2 hy=>?_,fun r H4 s4 nr hd=>?_⟩
  ·refine⟨s' _ _ hc,rfl,?_⟩
   refine aF6 (σ:=[some (.int (h:Int)),some (.ref b'),some (.ref x),some (.ref q)]) rfl ?_
   walk_at "w"
   exact hsp
  ·exact⟨by omega,(Rc.st hg hst (((hL.at_ i qs e1).2 y).mp hy)).1⟩
  ·exact k r Ls H4 (s03.trans s4) (s03.free nr) hL lL hd
def zU(K:W.Frag)(C t1 t2:Addr):Sp:=fun vs H Q _=>∃(x:Addr) (m:MS) (b:Addr) (a:Int×Int) (q:Addr) (ps:List Int),vs=[.ref x,.ref b,.ref q]/\H t1=some (.ctb cD cE)/\H t2=some (.ctb gO gP)/\bW C H x m/\m.Good/\H b=some (.tup [.int a.1,.int a.2])/\St1 m a/\H q=some (.lst (ps.map V.int))/\(∀n∈ps,Am n)/\ps.length<=48/\
 ∀T r H',aI H H'->H r=none->H' T=some (.tup [.int (rwF m ps a),.ref r])->H' r=some (.lst ((rrF m ps a).map V.int))->Q (.ref T) H'
theorem zV{P:Program}{w:World}{K:PySem.W.Frag}{mg:Str->Option Value}{base:Heap}{a:kW}(tx:Txt K mg a):bO P w K mg base iB 13 a.iT a.fM ["machine","state","prices"] (zU K a.aZ a.cH a.iW):=by
 have g0:=kX (P:=P) (w:=w) (base:=base) tx
 have aDS:=fun base':Heap=>aDM (P:=P) (w:=w) (base:=base') tx
 refine tx.mS.okC tx.mW kN (fun vs H Q E h=>?_) (fun A outer s H vs Q E hr h=>?_)
 ·obtain⟨x,m,b,st,q,ps,rfl,_⟩:=h
  rfl
 ·obtain⟨x,m,b,st,q,ps,rfl ,gt1,gt2,hm,hg,hb,hst,hq,ha,hl,k⟩:=h
  have hu:=kZ hr
  refine Z.root (Z.aD (Z.aS (i:=3) kN.nd rfl (Or.inl rfl) (Z.aF (g0) (hr.mono (by decide)) (by rfl) tx.gY tx.eM.kp tx.gX .nil aU (Z.aE (Z.pv 0) (Z.aE (Z.pv 1) (Z.aE (Z.pv 2) Z.aC)))))
   (Z.aD (Z.aS (i:=4) kN.nd rfl (Or.inl rfl) (Z.rT (psL:=["hour","place"]) (N:=["hour","place","machine","prices"]) (idx:=[0,2]) (sp:=fun C=>w5 K C) (kc:=8) (aDS) (hr.mono (by decide)) (by rfl) tx.y7 tx.sU.kp tx.y6 (fun _=>rfl) (cF (sc:=aB cL) (NX:=["machine","state","prices","worths","run"]) rfl rfl rfl (by decide +kernel)) rfl rfl rfl rfl (fun _ _ _ _ us hl=>by obtain⟨_,_,rfl⟩:=ar2 us hl;rfl) (Z.pR (Z.pv 1) (Z.pR (Z.pv 3) (Z.aDg (N:=["hour","place","machine","prices"]) (n:=2) (idx:=[0,2]) rfl tx.mW.hd rfl rfl (cF (sc:=aB cL) (NX:=["machine","state","prices","worths","run"]) rfl rfl rfl (by decide +kernel))))) (fun _ _ _ _ _ _ _ _ hr hu=>(Z.aF (qW tx) (hr.mono (by decide)) (by rfl) tx.oC tx.kK.kp tx.oB .nil aU (Z.aE (Z.pv 2) (Z.aE (Z.pv 1) (Z.aE (Z.aL (K':=K) (Z.pv 3) (Z.pv 0) (fun _ _=>rfl)) Z.aC)))))))
   (Z.aG (Z.aV (Z.rE (Z.rQ hu (Z.aL (K':=K) (Z.pv 3) Z.aA (fun _ _=>rfl)) (Z.pv 1)) (Z.pv 4)))))) ?_
  refine aR (σ:=[some (.ref x),some (.ref b),some (.ref q),none,none]) rfl ?_
  walk_at "w"
  refine⟨x,m,b,st,q,ps,rfl,gt1,hm,hg,hb,hst,hq,ha,hl,fun lw Ls H1 s1 nlw hL lL hd=>?_⟩
  walk_at "w"
  refine⟨s1 _ _ gt2,fun f c' H3 Cc s3 hc hC=>?_⟩
  have s03:=s1.trans s3
  have el0:Ls[0]?=some Ls[0]:=List.getElem?_eq_getElem (by omega)
  have in0:st∈Ls[0]:=((hL.at_ 0 _ el0).2 st).mpr rfl
  refine⟨Int×Int,κS,.ref b,st,Ls[0],lw,f,Ls,Wr m ps,_,rfl,⟨b,rfl,s03 _ _ hb⟩,hd.same s3,el0,in0,aGO hg hst ps (by omega) hL,by omega,yH (K:=K) (a:=a) Cc f _ hC (hm.same s03) hg (s03 _ _ hq) ha (fun H' h b' p Q s' gq hp hsp=>?_),fun i qs y e1 e2 hy=>?_,fun r H4 s4 nr gr=>?_⟩
  ·refine⟨s' _ _ hc,rfl,?_⟩
   refine aF6 (σ:=[some (.int (h:Int)),some (.ref b'),some (.ref x),some (.ref q)]) rfl ?_
   walk_at "w"
   exact hsp
  ·exact⟨by omega,(Rc.st hg hst (((hL.at_ i qs e1).2 y).mp hy)).1⟩
  ·have s04:=s03.trans s4
   obtain⟨ds,gds,lds,hds⟩:=(hd.same (s3.trans s4)).ex
   have ed:ds[0]?=some ds[0]:=List.getElem?_eq_getElem (by omega)
   have h0:=hds 0 _ _ ed el0
   generalize ds[0]=d0 at ed h0
   have ix:uH (ds.map V.ref) 0=some (.ref d0):=dM (j:=0) (kS ed)
   walk_at "w"
   refine⟨d0,_,rfl,κS.get (v:=.ref b) (x:=st) h0 ⟨b,rfl,s04 _ _ hb⟩ in0,?_⟩
   walk_at "w"
   intro T nT
   obtain⟨H5,i5,s5,g5⟩:=nw _ nT;rw[i5]
   walk_at "w"
   have e1:Ls.length - 1=ps.length:=by omega
   rw[e1] at gr
   rw[Nat.sub_zero,e1] at g5
   exact k T r H5 (s04.trans s5) (s03.free nr) g5 (s5 _ _ gr)
def mgT(acc more:List (List Key×V)):List (List Key×V):=more.foldl (fun acc kv=>putK acc kv.1 kv.2) acc
theorem aGP:∀(l acc:List (List Key×V)),(mgT acc l).length<=acc.length+l.length
 |[],acc=>Nat.le_refl _
 |kv::l,acc=>by
  have h1:=aGP l (putK acc kv.1 kv.2)
  have h2:=kD acc kv.1 kv.2
  show(mgT (putK acc kv.1 kv.2) l).length<=_
  rw[List.length_cons]
  omega
theorem aJp{acc:List (List Key×V)}{k:List Key}{v:V}(h:∃q∈acc,q.1=k):(putK acc k v).length=acc.length:=by
 unfold putK
 obtain⟨q,hq,e⟩:=h
 rw[if_pos (List.any_eq_true.mpr ⟨q,hq,decide_eq_true e⟩),List.length_map]
theorem aEZ{acc:List (List Key×V)}{k:List Key}{v:V}(h:¬∃q∈acc,q.1=k):putK acc k v=acc ++ [(k,v)]:=by
 unfold putK
 rw[if_neg fun z=>h (by obtain⟨q,hq,e⟩:=List.any_eq_true.mp z;exact⟨q,hq,of_decide_eq_true e⟩)]
theorem aE0:∀{more acc:List (List Key×V)},(mgT acc more).length=acc.length+more.length->mgT acc more=acc++more
 |[],acc,_=>by rw[List.append_nil];rfl
 |p::r,acc,h=>by
  have h':(mgT (putK acc p.1 p.2) r).length=acc.length+(p::r).length:=h
  show mgT (putK acc p.1 p.2) r=_
  have hl:=aGP r (putK acc p.1 p.2)
  by_cases e:∃q∈acc,q.1=p.1
  ·rw[aJp e] at hl
   rw[List.length_cons] at h'
   omega
  ·rw[aEZ e] at h' ⊢
   rw[aE0 (by rw[h',List.length_append,List.length_cons,List.length_cons,List.length_nil];omega),List.append_assoc]
   rfl
theorem aJq:∀{more acc:List (List Key×V)},((acc++more).map (·.1)).Nodup->mgT acc more=acc++more
 |[],acc,_=>by rw[List.append_nil];rfl
 |p::r,acc,h=>by
  have e:¬∃q∈acc,q.1=p.1:=by
   rintro ⟨q,hq,e⟩
   rw[List.map_append,List.nodup_append] at h
   exact h.2.2 q.1 (List.mem_map.mpr ⟨q,hq,rfl⟩) p.1 (.head _) e
  show mgT (putK acc p.1 p.2) r=_
  rw[aEZ e,aJq (by rw[List.append_assoc];exact h),List.append_assoc]
  rfl
def qX(row:List WP):Bool:=decide ((fA (enc row)).length=row.length)
theorem aCQ{row:List WP}(h:qX row=true):fA (enc row)=enc row:=by
 have z:=aE0 (acc:=[]) (more:=enc row) (by show(fA (enc row)).length=_;rw[of_decide_eq_true h,mD];simp)
 exact z
theorem yJ{row:List WP}(h:(row.map (·.1)).Nodup):qX row=true:=by
 have z:fA (enc row)=enc row:=by
  refine aJq (acc:=[]) ?_
  show((enc row).map (·.1)).Nodup
  unfold enc
  rw[List.map_map]
  refine List.pairwise_map.mpr ((List.pairwise_map.mp h).imp fun {a b} hab z=>hab ?_)
  exact tJ z
 unfold qX
 rw[z,mD]
 simp
def aAn(n:Int)(ws:List (Wy (Int×Int)))(pb:List WP):Bool:=ws.all fun w=>match eR pb w.2.1 with|some g=>decide (n<=w.2.2+g)|none=>false
def aF8(W:Nat->Int×Int->List (Wy (Int×Int)))(i:Nat)(pa pb:List WP):Bool:=pa.all fun p=>aAn p.2 (W i p.1) pb
def uF(W:Nat->Int×Int->List (Wy (Int×Int)))(x:Int×Int)(n:Nat)(rows:List (List WP))(num:Int):Bool:=
 decide (rows.length=n+1) && (rows.all qX && (decide (eR (rows.getD 0 []) x=some num) && (!((rows.getD n []).any fun p=>decide (p.2 > 0)) && (List.range n).all fun i=>aF8 W i (rows.getD i []) (rows.getD (i+1) []))))
def vN(ps:List (Int×Int))(g:Int×Int->Int):List WP:=ps.map fun x=>(x,g x)
theorem aE1{ps:List (Int×Int)}{g:Int×Int->Int}{x:Int×Int}:x∈ps->eR (vN ps g) x=some (g x):=by
 intro h
 unfold eR vN
 induction ps with
 |nil=>cases h
 |cons y r ih=>
  rw[List.map_cons,List.find?_cons]
  by_cases e:y=x
  ·subst e
   rw[decide_eq_true (show(y,g y).1=y from rfl)]
   rfl
  ·rw[decide_eq_false (show ¬(y,g y).1=x from e)]
   rcases List.mem_cons.mp h with z|z
   ·exact absurd z.symm e
   ·exact ih z
def zW(H:Hp)(q:Addr)(p:WP):Prop:=∃b,H q=some (.tup [.ref b,.int p.2])/\H b=some (.tup [.int p.1.1,.int p.1.2])
theorem zW.same{H H':Hp}{q:Addr}{p:WP}(h:zW H q p)(s:aI H H'):zW H' q p:=let ⟨b,x,y⟩:=h;⟨b,s _ _ x,s _ _ y⟩
def mE(H:Hp)(e:Addr)(row:List WP):Prop:=∃qs:List Addr,H e=some (.lst (qs.map V.ref))/\RL (zW H) qs row
theorem mE.same{H H':Hp}{e:Addr}{row:List WP}(h:mE H e row)(s:aI H H'):mE H' e row:=let ⟨qs,a,r⟩:=h;⟨qs,s _ _ a,r.imp fun _ _ z=>z.same s⟩
structure pD(H:Hp)(t:Addr)(rows:List (List WP)):Prop where
 ex:∃es:List Addr,H t=some (.lst (es.map V.ref))/\RL (mE H) es rows
theorem pD.same{H H':Hp}{t:Addr}{rows:List (List WP)}(h:pD H t rows)(s:aI H H'):pD H' t rows:=let ⟨es,a,r⟩:=h.ex;⟨es,s _ _ a,r.imp fun _ _ z=>z.same s⟩
theorem aCR{H:Hp}{qs:List Addr}{row:List WP}(h:RL (zW H) qs row):aGE H qs (enc row):=
 ⟨by rw[mD];exact h.len,fun j q kv h1 h2=>by
  obtain⟨p,e,rfl⟩:=aDQ h2
  exact h.at_ j q p h1 e⟩
def aB6(K:W.Frag):Sp:=fun vs H Q _=>∃(n:Int) (l d:Addr) (ws:List (Wy (Int×Int))) (pb:List WP),vs=[.int n,.ref l,.ref d]/\qU κS H l ws/\H d=some (.dT (enc pb))/\ws.length<=10000/\∀H',aI H H'->Q (.bl (aAn n ws pb)) H'
theorem aB7{P:Program}{w:World}{K:PySem.W.Frag}{mg:Str->Option Value}{base:Heap}{a:kW}(tx:Txt K mg a):bO P w K mg base iB 1 a.lQ a.lR ["number","ways","behind"] (aB6 K):=by
 refine tx.qN.ok aBN (fun vs H Q E h=>?_) (fun cdv A outer s H vs Q E hr h=>?_)
 ·obtain⟨n,l,d,ws,pb,rfl,_⟩:=h
  rfl
 ·obtain⟨n,l,d,ws,pb,rfl ,hw,hd,hlen,k⟩:=h
  have hu:=kZ hr
  refine Z.root (Z.aG (Z.aV (Z.aN (rc:=aFA K) (oX rfl) (by rfl) tx.uR aAI (Z.aE (Z.cO (k:=3) (idx:=[2,0]) (N:=["choice","later","worth","behind","number"]) (cF (sc:=aB eG) (NX:=["number","ways","behind"]) rfl rfl rfl (by decide +kernel)) rfl (Z.bQ (K':=K) (Z.pv 1)) (fun _ _ _ _=>(Z.fE (K':=K) (n:=3) rfl (Z.bA (Z.aM (i:=0) (show(["choice","later","worth","behind","number"]:List Str).Nodup by decide +kernel) rfl (Or.inl rfl)) (Z.bA (Z.aM (i:=1) (show(["choice","later","worth","behind","number"]:List Str).Nodup by decide +kernel) rfl (Or.inl rfl)) (Z.bA (Z.aM (i:=2) (show(["choice","later","worth","behind","number"]:List Str).Nodup by decide +kernel) rfl (Or.inl rfl)) Z.dJ))))) (nA (bP (by decide) (bP (by decide) (bP (by decide) kG)))) (fun _ _ _ _=>Z.cG) (fun _ _ _ _=>(Z.rF (Z.jL (r:=aL3) (aL4 hu) (Z.pv 1) (Z.pv 3) (by with_unfolding_all rfl)) (Z.pH (Z.jL aAu (Z.pv 4) (Z.aT bK (Z.pv 2) (Z.rQ hu (Z.pv 3) (Z.pv 1))) (bJ _)))))) Z.aC)))) ?_
  obtain⟨as,gl,rl⟩:=hw.ex
  have las:=rl.len
  refine aR (σ:=[some (.int n),some (.ref l),some (.ref d)]) rfl ?_
  walk_at "w"
  refine fH (bG.of gl) ?_
  refine cB (xs:=as.map V.ref) (fun j us H'=>H'=H/\us=(((ws.take j).map fun w=>match eR pb w.2.1 with|some g=>decide (n<=w.2.2+g)|none=>false).map V.bl)) ⟨rfl,rfl⟩ (bX (by rw[List.length_map];omega))
   (fun j us H' hj ⟨e0,e1⟩=>⟨by rw[e0];exact bG.of gl,by rw[e1,List.length_map,List.length_map,List.length_take];omega⟩) (fun j v us H' hv ⟨e0,e1⟩=>?_) (fun us H' ⟨e0,e1⟩=>?_)
  ·subst e0
   obtain⟨a1,w,ea,rfl,ew,vv,g1,hp⟩:=rl.gt hv
   obtain⟨bv,rfl,hp'⟩:=hp
   have hg:=kE.t (k:=jK w.2.1) hd hp'
   rw[aAl] at hg
   refine fD (kL.of g1) rfl ?_
   walk_at "w"
   refine aL5 hg ?_
   cases eg:eR pb w.2.1 with
   |none=>
    repeat walk_at "gs"
    refine⟨rfl,?_⟩
    rw[e1,cJ ew,List.map_append,List.map_append]
    simp[eg]
   |some g=>
    rw[eg] at hg
    repeat walk_at "gs"
    refine⟨d,_,rfl,hg,?_⟩
    walk_at "w"
    refine⟨rfl,?_⟩
    rw[e1,cJ ew,List.map_append,List.map_append]
    simp[eg]
  subst e0 e1
  rw[List.length_map,las,List.take_length]
  intro l2 n2
  obtain⟨H2,i2,s2,g2⟩:=nw _ n2;rw[i2]
  walk_at "w"
  refine⟨l2,_,rfl,bG.of g2,?_⟩
  walk_at "w"
  have z:=k H2 s2
  unfold aAn at z
  rw[List.all_map]
  exact z
def aB8(K:PySem.W.Frag)(C:Addr->Sp->Prop):Sp:=fun vs H Q _=>∃(h:Nat) (da db f:Addr) (pa pb:List WP) (W:Nat->Int×Int->List (Wy (Int×Int))) (L:Nat->Int×Int->Prop) (H0:Hp),vs=[.int (h:Int),.ref da,.ref db,.ref f]/\aI H0 H/\H0 da=none/\qV κS C H0 f W L/\H da=some (.dT (enc pa))/\H db=some (.dT (enc pb))/\da≠db/\pa.length<=10000/\(∀p∈pa,L h p.1/\(W h p.1).length<=10000)/\
 ∀H',aI H H'->Q (.bl (aF8 W h pa pb)) H'
theorem aB9{P:Program}{w:World}{K:PySem.W.Frag}{mg:Str->Option Value}{base:Heap}{a:kW}(tx:Txt K mg a):bO P w K mg base iB 10 a.lT a.lU ["hour","ahead","behind","ways_at"] (aB8 K (Clo P w K mg base (8+1))):=by
 have aDT:=aB7 (P:=P) (w:=w) (base:=base) tx
 refine tx.qO.ok aBO (fun vs H Q E h=>?_) (fun cdv A outer s H vs Q E hr h=>?_)
 ·obtain⟨h,da,db,f,pa,pb,W,L,H0,rfl,_⟩:=h
  rfl
 ·obtain⟨h,da,db,f,pa,pb,W,L,H0,rfl ,s0,n0,hW,ga,gb,nab,hlen,hL,k⟩:=h
  have hu:=kZ hr
  refine Z.root (Z.aG (Z.aV (Z.v5 (Z.aN (rc:=aFA K) (oX rfl) (by rfl) tx.uR aAI (Z.aE (Z.cO (k:=2) (idx:=[2,0,3]) (N:=["place","number","behind","hour","ways_at"]) (cF (sc:=aB eI) (NX:=["hour","ahead","behind","ways_at"]) rfl rfl rfl (by decide +kernel)) rfl (Z.v3 (Z.pv 1)) (fun _ _ _ _=>(Z.fE (K':=K) (n:=2) rfl (Z.bA (Z.aM (i:=0) (show(["place","number","behind","hour","ways_at"]:List Str).Nodup by decide +kernel) rfl (Or.inl rfl)) (Z.bA (Z.aM (i:=1) (show(["place","number","behind","hour","ways_at"]:List Str).Nodup by decide +kernel) rfl (Or.inl rfl)) Z.dJ)))) (nA (bP (by decide) (bP (by decide) kG))) (fun _ _ _ _=>Z.cG) (fun _ _ _ _=>(Z.aF (aDT) (hr.mono (by decide)) (by rfl) tx.wO tx.qN.kp tx.wN .nil aU (Z.aE (Z.pv 1) (Z.aE (Z.aAX (P:=P) (w:=w) (K:=K) (mg:=mg) (base:=base) (i:=4) (k:=8+1) (hr.mono (by decide)) (Z.aE (Z.pv 3) (Z.aE (Z.pv 0) Z.aC))) (Z.aE (Z.pv 2) Z.aC)))))) Z.aC))))) ?_
  obtain⟨spc,hC,hp⟩:=hW.ex
  refine aR (σ:=[some (.int (h:Int)),some (.ref da),some (.ref db),some (.ref f)]) rfl ?_
  walk_at "w"
  refine aKE ga fun o=>?_
  obtain⟨H1,i1,k1,g1⟩:=wr H da _;rw[i1]
  have s01:aI H0 H1:=fun b u e=>k1 _ _ (s0 _ _ e) (bE n0 e)
  have gb1:=k1 _ _ gb (Ne.symm nab)
  refine aEE (kvs:=enc pa) (fun j us H'=>aI H1 H'/\us=(((pa.take j).map fun p=>aAn p.2 (W h p.1) pb).map V.bl)) ⟨aI.refl _,rfl⟩ (bX (by rw[mD];omega))
   (fun j us H' hj ⟨s',e⟩=>⟨s' _ _ g1,by rw[e,List.length_map,List.length_map,List.length_take];omega⟩) (fun j kv us H' T bT hkv ⟨s',e⟩ nT hbT=>?_) (fun us H' ⟨s',e⟩=>?_)
  ·obtain⟨p,ep,rfl⟩:=aDQ hkv
   obtain⟨l1,l2⟩:=hL p (List.mem_of_getElem? ep)
   obtain⟨H2,i2,s2,g2⟩:=nw _ nT;rw[i2]
   refine fD (kL.of g2) rfl ?_
   walk_at "w"
   refine aAT rfl hC ?_
   walk_at "w"
   have s02:=s'.trans s2
   refine hp H2 h _ p.1 _ (s01.trans s02) l1 ⟨bT,rfl,s2 _ _ hbT⟩ fun l H3 s3 hws=>?_
   have s03:=s02.trans s3
   walk_at "w"
   refine⟨p.2,l,db,W h p.1,pb,rfl,hws,s03 _ _ gb1,l2,fun H4 s4=>?_⟩
   walk_at "w"
   refine⟨s03.trans s4,?_⟩
   rw[e,cJ ep,List.map_append,List.map_append]
   rfl
  ·subst e
   rw[mD,List.take_length]
   intro l2 n2
   obtain⟨H2,i2,s2,g2⟩:=nw _ n2;rw[i2]
   walk_at "w"
   refine⟨l2,_,rfl,bG.of g2,?_⟩
   walk_at "w"
   refine⟨da,enc pa,ga,o,s2 _ _ (s' _ _ g1),?_⟩
   rw[List.all_map]
   refine k _ fun b u e=>?_
   by_cases eb:b=da
   ·subst eb
    rw[aH,<-ga]
    exact e
   ·rw[aJ eb]
    exact s2 _ _ (s' _ _ (k1 _ _ e eb))
def tK(K:PySem.W.Frag)(C:Addr->Sp->Prop):Sp:=fun vs H Q _=>∃(bx:Addr) (x:Int×Int) (n:Nat) (t f:Addr) (num:Int) (rows:List (List WP)) (W:Nat->Int×Int->List (Wy (Int×Int))) (L:Nat->Int×Int->Prop),vs=[.ref bx,.int (n:Int),.ref t,.int num,.ref f]/\H bx=some (.tup [.int x.1,.int x.2])/\pD H t rows/\qV κS C H f W L/\rows.length<=10000/\n<=10000/\(∀row∈rows,row.length<=1000)/\(∀(i:Nat) row p,rows[i]?=some row->i < n->p∈row->L i p.1/\(W i p.1).length<=10000)/\
 ∀H',aI H H'->Q (.bl (uF W x n rows num)) H'
theorem aBs{P:Program}{w:World}{K:PySem.W.Frag}{mg:Str->Option Value}{base:Heap}{a:kW}(tx:Txt K mg a):bO P w K mg base iB 11 a.jT a.jU ["place","hours","table","number","ways_at"] (tK K (Clo P w K mg base (8+1))):=by
 have aDU:=aB9 (P:=P) (w:=w) (base:=base) tx
 refine tx.oP.ok rY (fun vs H Q E h=>?_) (fun cdv A outer s H vs Q E hr h=>?_)
 ·obtain⟨bx,x,n,t,f,num,rows,W,L,rfl,_⟩:=h
  rfl
 ·obtain⟨bx,x,n,t,f,num,rows,W,L,rfl ,hbx,ht,hW,hlen,hn,hrow,hL,k⟩:=h
  have hu:=kZ hr
  refine Z.root (Z.aD (Z.cK (Z.bH (r:=aAJ K) (xW hu) (Z.aN (rc:=oV K) bY (by rfl) tx.fP eZ (Z.aE (Z.pv 2) Z.aC)) (Z.aT bK (Z.pv 1) Z.aA) (bJ _)) (Z.aG (Z.aV Z.mJ)) Z.bF)
   (Z.aD (Z.aS (i:=5) rY.nd rfl (Or.inr rfl) (Z.cO (k:=1) (idx:=[]) (N:=["entries"]) (cF (sc:=aB bU) (NX:=["place","hours","table","number","ways_at","numbers"]) rfl rfl rfl (by decide +kernel)) rfl (Z.bQ (K':=K) (Z.pv 2)) (fun _ _ _ _=>(Z.aM (i:=0) (show(["entries"]:List Str).Nodup by decide +kernel) rfl (Or.inl rfl))) (dF (by decide)) (fun _ _ _ _=>Z.cG) (fun _ _ _ _=>(Z.eC (rc:=aDm) (aA0 rfl hu) (by rfl) tx.vJ aGo (Z.aE (Z.pv 0) Z.aC)))))
   (Z.aD (Z.cK (Z.bH (r:=aAJ K) (xW hu) (Z.cO (k:=1) (idx:=[]) (N:=["named"]) (cF (sc:=aB bU) (NX:=["place","hours","table","number","ways_at","numbers"]) rfl rfl rfl (by decide +kernel)) rfl (Z.bQ (K':=K) (Z.pv 5)) (fun _ _ _ _=>(Z.aM (i:=0) (show(["named"]:List Str).Nodup by decide +kernel) rfl (Or.inl rfl))) (dF (by decide)) (fun _ _ _ _=>Z.cG) (fun _ _ _ _=>(Z.aN (rc:=aJa) aHv (by rfl) tx.fP eZ (Z.aE (Z.pv 0) Z.aC)))) (Z.cO (k:=1) (idx:=[]) (N:=["entries"]) (cF (sc:=aB bU) (NX:=["place","hours","table","number","ways_at","numbers"]) rfl rfl rfl (by decide +kernel)) rfl (Z.bQ (K':=K) (Z.pv 2)) (fun _ _ _ _=>(Z.aM (i:=0) (show(["entries"]:List Str).Nodup by decide +kernel) rfl (Or.inl rfl))) (dF (by decide)) (fun _ _ _ _=>Z.cG) (fun _ _ _ _=>(Z.aN (rc:=oV K) bY (by rfl) tx.fP eZ (Z.aE (Z.pv 0) Z.aC)))) (bJ _)) (Z.aG (Z.aV Z.mJ)) Z.bF)
   (Z.aD (Z.cK (Z.bH (r:=aAJ K) (xW hu) (Z.aAD hu (Z.aL (K':=K) (Z.pv 5) Z.aA (fun _ _=>rfl)) (Z.pv 0)) (Z.pv 3) (bJ _)) (Z.aG (Z.aV Z.mJ)) Z.bF)
   (Z.aD (Z.cK (Z.i0 (Z.v5 (Z.aN (rc:=aMX K) (aHh rfl) (by rfl) tx.aCJ aLr (Z.aE (Z.cO (k:=1) (idx:=[]) (N:=["last"]) (cF (sc:=aB bU) (NX:=["place","hours","table","number","ways_at","numbers"]) rfl rfl rfl (by decide +kernel)) rfl (Z.aA1 (Z.aL (K':=K) (Z.pv 5) (Z.pv 1) (fun _ _=>rfl))) (fun _ _ _ _=>(Z.aM (i:=0) (show(["last"]:List Str).Nodup by decide +kernel) rfl (Or.inl rfl))) (dF (by decide)) (fun _ _ _ _=>Z.cG) (fun _ _ _ _=>(Z.jL aEd (Z.pv 0) Z.aA (bJ _)))) Z.aC)))) (Z.aG (Z.aV Z.mJ)) Z.bF)
   (Z.aG (Z.aV (Z.aN (rc:=aFA K) (oX rfl) (by rfl) tx.uR aAI (Z.aE (Z.cO (k:=1) (idx:=[5,4]) (N:=["hour","numbers","ways_at"]) (cF (sc:=aB bU) (NX:=["place","hours","table","number","ways_at","numbers"]) rfl rfl rfl (by decide +kernel)) rfl (Z.cZ (by rfl) tx.dO (Z.aE (Z.pv 1) Z.aC)) (fun _ _ _ _=>(Z.aM (i:=0) (show(["hour","numbers","ways_at"]:List Str).Nodup by decide +kernel) rfl (Or.inl rfl))) (dF (by decide)) (fun _ _ _ _=>Z.cG) (fun _ _ _ _=>(Z.aF (aDU) (hr.mono (by decide)) (by rfl) tx.wR tx.qO.kp tx.wQ .nil aU (Z.aE (Z.pv 0) (Z.aE (Z.aL (K':=K) (Z.pv 1) (Z.pv 0) (fun _ _=>rfl)) (Z.aE (Z.aL (K':=K) (Z.pv 1) (Z.aT bK (Z.pv 0) Z.aA) (fun _ _=>rfl)) (Z.aE (Z.pv 2) Z.aC))))))) Z.aC))))))))) ?_
  obtain⟨es,gt,re⟩:=ht.ex
  have les:=re.len
  refine aR (σ:=[some (.ref bx),some (.int (n:Int)),some (.ref t),some (.int num),some (.ref f),none]) rfl ?_
  walk_at "w"
  have out:∀(H':Hp),aI H H'->uF W x n rows num=false->Q (.bl false) H':=fun H' s' e=>by rw[<-e];exact k H' s'
  refine tS (fun hne=>?_) (fun heq=>?_)
  ·walk_at "w"
   refine out H (aI.refl _) ?_
   unfold uF
   rw[decide_eq_false (fun z=>hne (by rw[List.length_map,les,z];push_cast;rfl)),Bool.false_and]
  have hrl:rows.length=n+1:=by rw[List.length_map,les] at heq;omega
  walk_at "w"
  refine fH (bG.of gt) ?_
  refine cB (xs:=es.map V.ref) (fun j us H'=>aI H H'/\∃ds:List Addr,us=ds.map V.ref/\(∀d∈ds,H d=none)/\ds.Nodup/\RL (fun d row=>H' d=some (.dT (fA (enc row)))) ds (rows.take j)) ⟨aI.refl _,[],rfl,(fun d h=>by cases h),List.nodup_nil,RL.nil⟩ (bX (by rw[List.length_map];omega))
   (fun j us H' hj ⟨s',ds,e,_,_,r⟩=>⟨bG.of (s' _ _ gt),by rw[e,List.length_map,r.len,List.length_take];omega⟩) (fun j v us H' hv ⟨s',ds,e,nd,dd,r⟩=>?_) (fun us H1 ⟨s1,ds,e,nd,dd,r⟩=>?_)
  ·obtain⟨e1,row,ee,rfl,er,hr⟩:=re.gt hv
   obtain⟨qs,gq,rq⟩:=hr.same s'
   have lq:=rq.len
   have hr1:=hrow row (List.mem_of_getElem? er)
   walk_at "w"
   refine aED gq (aCR rq) (by omega) fun p np=>?_
   obtain⟨H2,i2,s2,g2⟩:=nw _ np;rw[i2]
   refine⟨s'.trans s2,ds ++ [p],by rw[e,List.map_append];rfl,fun d hd=>?_,?_,?_⟩
   ·rcases List.mem_append.mp hd with z|z
    ·exact nd d z
    ·rw[List.mem_singleton.mp z];exact s'.free np
   ·rw[List.nodup_append]
    refine⟨dd,by simp,fun a ha b hb z=>?_⟩
    rw[List.mem_singleton.mp hb] at z
    subst z
    obtain⟨j2,ej⟩:=List.getElem?_of_mem ha
    have lj:j2 < (rows.take j).length:=by rw[<-r.len];exact(List.getElem?_eq_some_iff.mp ej).1
    have:=r.at_ j2 a _ ej (List.getElem?_eq_getElem lj)
    rw[np] at this
    cases this
   ·rw[cJ er]
    exact RL.snoc (r.imp fun _ _ z=>s2 _ _ z) g2
  rw[List.length_map,les,List.take_length] at r
  have lds:=r.len
  subst e
  intro la nla
  obtain⟨H2,i2,s2,g2⟩:=nw _ nla;rw[i2]
  have s02:=s1.trans s2
  have r2:RL (fun d row=>H2 d=some (.dT (fA (enc row)))) ds rows:=r.imp fun _ _ z=>s2 _ _ z
  walk_at "w"
  refine fH (bG.of g2) ?_
  refine cB (xs:=ds.map V.ref) (fun j us H'=>H'=H2/\us=(((rows.take j).map fun row=>((fA (enc row)).length:Int)).map V.int)) ⟨rfl,rfl⟩ (bX (by rw[List.length_map];omega))
   (fun j us H' hj ⟨e0,e1⟩=>⟨by rw[e0];exact bG.of g2,by rw[e1,List.length_map,List.length_map,List.length_take];omega⟩) (fun j v us H' hv ⟨e0,e1⟩=>?_) (fun us H' ⟨e0,e1⟩=>?_)
  ·subst e0
   obtain⟨d1,row,ed,rfl,er,gd⟩:=r2.gt hv
   walk_at "w"
   refine aKm gd ?_
   refine⟨rfl,?_⟩
   rw[e1,cJ er,List.map_append,List.map_append]
   rfl
  subst e0 e1
  rw[List.length_map,lds,List.take_length]
  intro la3 n3
  obtain⟨H3,i3,s3,g3⟩:=nw _ n3;rw[i3]
  have s03:=s02.trans s3
  walk_at "w"
  refine fH (bG.of (s03 _ _ gt)) ?_
  refine cB (xs:=es.map V.ref) (fun j us H'=>H'=H3/\us=(((rows.take j).map fun row=>(row.length:Int)).map V.int)) ⟨rfl,rfl⟩ (bX (by rw[List.length_map];omega))
   (fun j us H' hj ⟨e0,e1⟩=>⟨by rw[e0];exact bG.of (s03 _ _ gt),by rw[e1,List.length_map,List.length_map,List.length_take];omega⟩) (fun j v us H' hv ⟨e0,e1⟩=>?_) (fun us H' ⟨e0,e1⟩=>?_)
  ·subst e0
   obtain⟨e2,row,ee,rfl,er,hr⟩:=re.gt hv
   obtain⟨qs,gq,rq⟩:=hr.same s03
   walk_at "w"
   refine⟨rfl,?_⟩
   rw[e1,cJ er,List.map_append,List.map_append,List.length_map,rq.len]
   rfl
  subst e0 e1
  rw[List.length_map,les,List.take_length]
  intro la4 n4
  obtain⟨H4,i4,s4,g4⟩:=nw _ n4;rw[i4]
  have s04:=s03.trans s4
  walk_at "w"
  refine aJ9 (bG.of (s4 _ _ g3)) (bG.of g4) ?_
  walk_at "w"
  refine tS (fun hne=>?_) (fun heq2=>?_)
  ·walk_at "w"
   refine out H4 s04 ?_
   unfold uF
   have z:rows.all qX=false:=by
    cases q:rows.all qX with
    |false=>rfl
    |true=>
     refine absurd (List.map_congr_left fun row hr=>?_) hne
     have y:=of_decide_eq_true (List.all_eq_true.mp q row hr)
     rw[y]
   rw[z,Bool.false_and,Bool.and_false]
  have hok:∀row∈rows,qX row=true:=fun row hr=>by
   have y:=List.map_inj_left.mp heq2 row hr
   exact decide_eq_true (by omega)
  have hall:rows.all qX=true:=List.all_eq_true.mpr hok
  have r4:RL (fun d row=>H4 d=some (.dT (enc row))) ds rows:=⟨r2.len,fun j d row h1 h2=>by
   have z:=r2.at_ j d row h1 h2
   rw[aCQ (hok row (List.mem_of_getElem? h2))] at z
   exact(s3.trans s4) _ _ z⟩
  have ga4:=(s3.trans s4) _ _ g2
  have ed0:ds[0]?=some ds[0]:=List.getElem?_eq_getElem (by omega)
  have er0:rows[0]?=some rows[0]:=List.getElem?_eq_getElem (by omega)
  have gd0:=r4.at_ 0 _ _ ed0 er0
  have e00:rows.getD 0 []=rows[0]:=by rw[List.getD_eq_getElem?_getD,er0];rfl
  generalize ds[0]=d0 at ed0 gd0
  generalize rows[0]=row0 at er0 gd0 e00
  have ix0:uH (ds.map V.ref) 0=some (.ref d0):=dM (j:=0) (kS ed0)
  have hg0:=kE.t (k:=jK x) gd0 (show H4 bx=some (.tup ((jK x).map kV)) from s04 _ _ hbx)
  rw[aAl] at hg0
  walk_at "w"
  refine⟨d0,rfl,.inr ⟨_,.inl gd0⟩,?_⟩
  walk_at "w"
  refine⟨_,hg0,?_⟩
  have key:∀(Q2:VK),Q2 (.bl (!decide (eR row0 x=some num))) H4->aAJ K (((eR row0 x).map V.int).getD .non) (.int num) H4 Q2:=fun Q2 q=>by
   cases eg:eR row0 x with
   |none=>
    rw[eg] at q
    exact aIw rfl rfl q
   |some g=>
    rw[eg] at q
    refine aIB ?_
    rw[show decide (g=num)=decide (some g=some num) by rw[Bool.eq_iff_iff];simp]
    exact q
  walk_at "w"
  refine key _ ?_
  walk_at "w"
  refine tS (fun hne=>?_) (fun heq3=>?_)
  ·walk_at "w"
   refine out H4 s04 ?_
   unfold uF
   rw[e00,decide_eq_false hne,Bool.false_and,Bool.and_false,Bool.and_false]
  have edn:ds[n]?=some ds[n]:=List.getElem?_eq_getElem (by omega)
  have ern:rows[n]?=some rows[n]:=List.getElem?_eq_getElem (by omega)
  have gdn:=r4.at_ n _ _ edn ern
  have enn:rows.getD n []=rows[n]:=by rw[List.getD_eq_getElem?_getD,ern];rfl
  generalize ds[n]=dn at edn gdn
  generalize rows[n]=rown at ern gdn enn
  have lrn:=hrow rown (List.mem_of_getElem? ern)
  have ixn:uH (ds.map V.ref) (n:Int)=some (.ref dn):=dM (kS edn)
  walk_at "w"
  refine aM0 gdn fun o=>?_
  obtain⟨H5,i5,k5,g5⟩:=wr H4 dn _;rw[i5]
  refine aFS (kvs:=enc rown) (fun j us H'=>H'=H5/\us=(((rown.take j).map fun p=>decide (p.2 > 0)).map V.bl)) ⟨rfl,rfl⟩ (bX (by rw[mD];omega))
   (fun j us H' hj ⟨e0,e1⟩=>⟨by rw[e0];exact g5,by rw[e1,List.length_map,List.length_map,List.length_take];omega⟩) (fun j kv us H' hkv ⟨e0,e1⟩=>?_) (fun us H' ⟨e0,e1⟩=>?_)
  ·subst e0
   obtain⟨p,ep,rfl⟩:=aDQ hkv
   walk_at "w"
   refine⟨rfl,?_⟩
   rw[e1,cJ ep,List.map_append,List.map_append]
   rfl
  subst e0 e1
  rw[mD,List.take_length]
  intro la6 n6
  obtain⟨H6,i6,s6,g6⟩:=nw _ n6;rw[i6]
  walk_at "w"
  refine⟨la6,_,rfl,bG.of g6,?_⟩
  walk_at "w"
  refine⟨dn,enc rown,gdn,o,s6 _ _ g5,?_⟩
  generalize hH7:upd H6 dn (.dT (enc rown))=H7
  have s47:aI H4 H7:=fun b u e=>by
   rw[<-hH7]
   by_cases eb:b=dn
   ·subst eb
    rw[aH,<-gdn]
    exact e
   ·rw[aJ eb]
    exact s6 _ _ (k5 _ _ e eb)
  have s07:=s04.trans s47
  rw[List.any_map]
  cases eany:rown.any (id ∘ fun p=>decide (p.2 > 0)) with
  |true=>
   repeat walk_at "gs"
   refine out H7 s07 ?_
   unfold uF
   rw[enn,show(rown.any fun p=>decide (p.2 > 0))=true from eany,Bool.not_true,Bool.false_and,Bool.and_false,Bool.and_false,Bool.and_false]
  |false=>
   repeat walk_at "gs"
   have ga7:=s47 _ _ ga4
   have r7:RL (fun d row=>H7 d=some (.dT (enc row))) ds rows:=r4.imp fun _ _ z=>s47 _ _ z
   refine⟨by omega,by omega,?_⟩
   rw[Int.toNat_natCast]
   refine aAG (fun i us H'=>aI H7 H'/\us=(((List.range i).map fun i=>aF8 W i (rows.getD i []) (rows.getD (i+1) [])).map V.bl)) ⟨aI.refl _,rfl⟩ (bX (by omega)) (fun i us H' hi ⟨s',e⟩=>by rw[e,List.length_map,List.length_map,List.length_range];omega) (fun i us H' hi ⟨s',e⟩=>?_) (fun us H' ⟨s',e⟩=>?_)
   ·have ed1:ds[i]?=some ds[i]:=List.getElem?_eq_getElem (by omega)
    have ed2:ds[i+1]?=some ds[i+1]:=List.getElem?_eq_getElem (by omega)
    have er1:rows[i]?=some rows[i]:=List.getElem?_eq_getElem (by omega)
    have er2:rows[i+1]?=some rows[i+1]:=List.getElem?_eq_getElem (by omega)
    have gd1:=r7.at_ i _ _ ed1 er1
    have gd2:=r7.at_ (i+1) _ _ ed2 er2
    have n12:ds[i]≠ds[i+1]:=fun z=>by
     have:=(List.getElem_inj dd).mp z
     omega
    have f1:rows.getD i []=rows[i]:=by rw[List.getD_eq_getElem?_getD,er1];rfl
    have f2:rows.getD (i+1) []=rows[i+1]:=by rw[List.getD_eq_getElem?_getD,er2];rfl
    have nd1:=nd ds[i] (List.getElem_mem _)
    generalize ds[i]=dx at ed1 gd1 n12 nd1
    generalize ds[i+1]=dy at ed2 gd2 n12
    generalize rows[i]=rx at er1 gd1 f1
    generalize rows[i+1]=ry at er2 gd2 f2
    have ga':=s' _ _ ga7
    have ix1:uH (ds.map V.ref) (0+(i:Int))=some (.ref dx):=by rw[show(0+(i:Int))=(i:Int) by omega];exact dM (kS ed1)
    have ix2:uH (ds.map V.ref) (0+(i:Int)+1)=some (.ref dy):=by
     rw[show(0+(i:Int))+1=((i+1:Nat):Int) by push_cast;omega]
     exact dM (kS ed2)
    walk_at "w"
    refine⟨i,dx,dy,f,rx,ry,W,L,H,by rw[show(0+(i:Int))=(i:Int) by omega],s07.trans s',nd1,hW,s' _ _ gd1,s' _ _ gd2,n12,Nat.le_trans (hrow rx (List.mem_of_getElem? er1)) (by decide),fun p hp=>hL i rx p er1 hi hp,fun H8 s8=>?_⟩
    walk_at "w"
    refine⟨s'.trans s8,?_⟩
    rw[e,List.range_succ,List.map_append,List.map_append,<-f1,<-f2]
    rfl
   ·subst e
    intro la8 n8
    obtain⟨H8,i8,s8,g8⟩:=nw _ n8;rw[i8]
    walk_at "w"
    refine⟨la8,_,rfl,bG.of g8,?_⟩
    walk_at "w"
    have z:=k H8 (s07.trans (s'.trans s8))
    unfold uF at z
    rw[decide_eq_true hrl,hall,e00,decide_eq_true heq3,enn,show(rown.any fun p=>decide (p.2 > 0))=false from eany] at z
    rw[List.all_map]
    simpa using z
theorem aMh{H:Hp}{qs:List Addr}{zs:List (List Int×Int)}{row:List WP}(e:zs=row.map fun p=>([p.1.1,p.1.2],p.2))(hl:qs.length=zs.length)(h:∀(j:Nat) q r,qs[j]?=some q->zs[j]?=some r->aMc H q r):RL (zW H) qs row:=by
 subst e
 refine⟨by rw[hl,List.length_map],fun j q p h1 h2=>?_⟩
 obtain⟨b,x,y⟩:=h j q ([p.1.1,p.1.2],p.2) h1 (by rw[List.getElem?_map,h2];rfl)
 exact⟨b,x,y⟩
theorem aMi(row:List WP):HO.dT (enc row)=dN (row.map fun p=>([p.1.1,p.1.2],p.2)):=by
 unfold dN enc
 rw[List.map_map]
 rfl
theorem aM8{row:List WP}{zs:List (List Int×Int)}(h:row.Pairwise fun a b=>sLt a.1 b.1)(h1:zs.Perm (row.map fun p=>([p.1.1,p.1.2],p.2)))(h2:zs.Pairwise fun a b=>iZ (rX b) (rX a)=false):zs=row.map fun p=>([p.1.1,p.1.2],p.2):=by
 refine List.Perm.eq_of_pairwise (le:=fun a b=>iZ (rX b) (rX a)=false) (fun a b ha hb x y=>?_) h2 ?_ h1
 ·obtain⟨p,_,e1⟩:=List.mem_map.mp (h1.mem_iff.mp ha)
  obtain⟨q,_,e2⟩:=List.mem_map.mp hb
  subst e1
  subst e2
  have z:=u4 _ _ y x
  have z':[p.1.1,p.1.2,p.2]=[q.1.1,q.1.2,q.2]:=z
  simp only[List.cons.injEq,and_true] at z'
  obtain⟨z1,z2,z3⟩:=z'
  rw[z1,z2,z3]
 ·refine List.pairwise_map.mpr (h.imp fun {a b} hab=>?_)
  show iZ [b.1.1,b.1.2,b.2] [a.1.1,a.1.2,a.2]=false
  rcases hab with z|⟨z1,z2⟩
  ·rw[bZ,if_neg (by omega)]
   exact decide_eq_false (by omega)
  ·rw[bZ,if_pos z1.symm,bZ,if_neg (by omega)]
   exact decide_eq_false (by omega)
def tbS(m:MS)(ps:List Int)(Ls:List (List (Int×Int))):List (List WP):=(List.range Ls.length).map fun i=>vN (Ls.getD i []) (wF (Wr m ps) (Ls.length - 1 - i) i)
theorem aDV(m:MS)(ps:List Int)(Ls:List (List (Int×Int))):(tbS m ps Ls).length=Ls.length:=by unfold tbS;rw[List.length_map,List.length_range]
theorem aF9{m:MS}{qs:List Int}{Ls:List (List (Int×Int))}{i:Nat}{ps:List (Int×Int)}(h:Ls[i]?=some ps):(tbS m qs Ls)[i]?=some (vN ps (wF (Wr m qs) (Ls.length - 1 - i) i)):=by
 have hi:=(List.getElem?_eq_some_iff.mp h).1
 unfold tbS
 rw[List.getElem?_map,List.getElem?_range hi]
 show some (vN (Ls.getD i []) _)=_
 rw[List.getD_eq_getElem?_getD,h]
 rfl
theorem aMj{m:MS}{qs:List Int}{Ls:List (List (Int×Int))}{i:Nat}{row:List WP}(h:(tbS m qs Ls)[i]?=some row):∃ps,Ls[i]?=some ps/\row=vN ps (wF (Wr m qs) (Ls.length - 1 - i) i):=by
 have li:i < Ls.length:=by rw[<-aDV m qs];exact(List.getElem?_eq_some_iff.mp h).1
 have ei:Ls[i]?=some Ls[i]:=List.getElem?_eq_getElem li
 rw[aF9 ei] at h
 cases h
 exact⟨_,ei,rfl⟩
def aE2(K:W.Frag):Sp:=fun vs H Q _=>∃(lw:Addr) (m:MS) (ps:List Int) (a:Int×Int) (Ls:List (List (Int×Int))),vs=[.ref lw]/\m.Good/\St1 m a/\aDO m a Ls/\Ls.length<=1000/\aF4 κS H lw Ls (fun i=>wF (Wr m ps) (Ls.length - 1 - i) i)/\∀t H',aI H H'->H t=none->pD H' t (tbS m ps Ls)->Q (.ref t) H'
theorem aE3{P:Program}{w:World}{K:PySem.W.Frag}{mg:Str->Option Value}{base:Heap}{a:kW}(tx:Txt K mg a):bO P w K mg base iB 1 a.qB a.qC ["worths"] (aE2 K):=by
 refine tx.vG.ok aEI (fun vs H Q E h=>?_) (fun cdv A outer s H vs Q E hr h=>?_)
 ·obtain⟨lw,m,ps,st,Ls,rfl,_⟩:=h
  rfl
 ·obtain⟨lw,m,ps,st,Ls,rfl ,hg,hst,hR,hlen,hd,k⟩:=h
  have hu:=kZ hr
  refine Z.root (Z.aG (Z.aV (Z.cO (k:=1) (idx:=[]) (N:=["named"]) (cF (sc:=aB gR) (NX:=["worths"]) rfl rfl rfl (by decide +kernel)) rfl (Z.bQ (K':=K) (Z.pv 0)) (fun _ _ _ _=>(Z.aM (i:=0) (show(["named"]:List Str).Nodup by decide +kernel) rfl (Or.inl rfl))) (dF (by decide)) (fun _ _ _ _=>Z.cG) (fun _ _ _ _=>(Z.aN (rc:=aFP) (aDl rfl hu) (by rfl) tx.mX aCu (Z.aE (Z.aDh (Z.pv 0)) Z.aC)))))) ?_
  obtain⟨ds,gds,lds,hds⟩:=hd.ex
  refine aR (σ:=[some (.ref lw)]) rfl ?_
  walk_at "w"
  refine fH (bG.of gds) ?_
  refine cB (xs:=ds.map V.ref) (fun j us H'=>aI H H'/\∃es:List Addr,us=es.map V.ref/\RL (mE H') es ((tbS m ps Ls).take j)) ⟨aI.refl _,[],rfl,RL.nil⟩ (bX (by rw[List.length_map];omega))
   (fun j us H' hj ⟨s',es,e,r⟩=>⟨bG.of (s' _ _ gds),by rw[e,List.length_map,r.len,List.length_take];omega⟩) (fun j v us H' hv ⟨s',es,e,r⟩=>?_) (fun us H' ⟨s',es,e,r⟩=>?_)
  ·rw[List.getElem?_map] at hv
   obtain⟨d,ed,rfl⟩:=Option.map_eq_some_iff.mp hv
   have lj:j < Ls.length:=by rw[<-lds];exact(List.getElem?_eq_some_iff.mp ed).1
   have eL:Ls[j]?=some Ls[j]:=List.getElem?_eq_getElem lj
   have gd:=hds j d _ ed eL
   obtain⟨r2,r3⟩:=hR.at_ j _ eL
   have er:=aF9 (m:=m) (qs:=ps) eL
   generalize Ls[j]=pj at eL gd r2 r3 er
   have vO:=Rc.vO hg hst (aDP r2) fun k hk=>(r3 k).mp hk
   have gd':H d=some (.dT (enc (vN pj (wF (Wr m ps) (Ls.length - 1 - j) j)))):=by
    rw[show H d=some (.dT (pj.map fun x=>(jK x,V.int (wF (Wr m ps) (Ls.length - 1 - j) j x)))) from gd]
    unfold enc vN
    rw[List.map_map]
    rfl
   have rp:(vN pj (wF (Wr m ps) (Ls.length - 1 - j) j)).Pairwise fun a b=>sLt a.1 b.1:=by
    unfold vN
    exact List.pairwise_map.mpr r2
   generalize hrow:vN pj (wF (Wr m ps) (Ls.length - 1 - j) j)=row at gd' rp er
   have rl:row.length<=25:=by rw[<-hrow];unfold vN;rw[List.length_map];exact vO
   walk_at "w"
   refine⟨d,rfl,.inr ⟨_,.inl (s' _ _ gd')⟩,fun b nb=>?_⟩
   obtain⟨H2,i2,s2,g2⟩:=nw _ nb;rw[i2]
   have gd2:=s2 _ _ (s' _ _ gd')
   rw[aMi] at gd2
   walk_at "w"
   refine aI9 (L:=2) g2 gd2 (by rw[List.length_map];omega) (fun r hr=>by obtain⟨p,_,rfl⟩:=List.mem_map.mp hr;rfl) fun p qs zs H3 s3 np nq gp hql hN hp hs=>?_
   have rw3:=aMh (aM8 rp hp hs) hql hN
   refine⟨s'.trans (s2.trans s3),es ++ [p],by rw[e,List.map_append];rfl,?_⟩
   rw[cJ er]
   exact RL.snoc (r.imp fun _ _ z=>z.same (s2.trans s3)) ⟨qs,gp,rw3⟩
  ·intro t nt
   obtain⟨H2,i2,s2,g2⟩:=nw _ nt;rw[i2]
   walk_at "w"
   rw[List.length_map,lds,List.take_of_length_le (by rw[aDV];exact Nat.le_refl _)] at r
   exact k t H2 (s'.trans s2) (s'.free nt) ⟨es,by rw[g2,e],r.imp fun _ _ z=>z.same s2⟩
def aCa(K:W.Frag)(C t:Addr):Sp:=fun vs H Q _=>∃(x:Addr) (m:MS) (b:Addr) (a:Int×Int) (q:Addr) (ps:List Int),vs=[.ref x,.ref b,.ref q]/\H t=some (.ctb cD cE)/\bW C H x m/\m.Good/\H b=some (.tup [.int a.1,.int a.2])/\St1 m a/\H q=some (.lst (ps.map V.int))/\(∀n∈ps,Am n)/\ps.length<=48/\
 ∀r Ls H',aI H H'->H r=none->aDO m a Ls->Ls.length=ps.length+1->pD H' r (tbS m ps Ls)->Q (.ref r) H'
theorem aCb{P:Program}{w:World}{K:PySem.W.Frag}{mg:Str->Option Value}{base:Heap}{a:kW}(tx:Txt K mg a):bO P w K mg base iB 13 a.lV a.lW ["machine","state","prices"] (aCa K a.aZ a.cH):=by
 have aGa:=aE3 (P:=P) (w:=w) (base:=base) tx
 have g0:=kX (P:=P) (w:=w) (base:=base) tx
 refine tx.qP.ok aBP (fun vs H Q E h=>?_) (fun cdv A outer s H vs Q E hr h=>?_)
 ·obtain⟨x,m,b,st,q,ps,rfl,_⟩:=h
  rfl
 ·obtain⟨x,m,b,st,q,ps,rfl ,gt,hm,hg,hb,hst,hq,ha,hl,k⟩:=h
  have hu:=kZ hr
  refine Z.root (Z.aG (Z.aV (Z.aF (aGa) (hr.mono (by decide)) (by rfl) tx.aBd tx.vG.kp tx.aBc .nil aU (Z.aE (Z.aF (g0) (hr.mono (by decide)) (by rfl) tx.gY tx.eM.kp tx.gX .nil aU (Z.aE (Z.pv 0) (Z.aE (Z.pv 1) (Z.aE (Z.pv 2) Z.aC)))) Z.aC)))) ?_
  refine aR (σ:=[some (.ref x),some (.ref b),some (.ref q)]) rfl ?_
  walk_at "w"
  refine⟨x,m,b,st,q,ps,rfl,gt,hm,hg,hb,hst,hq,ha,hl,fun lw Ls H1 s1 nlw hL lL hd=>?_⟩
  walk_at "w"
  refine⟨lw,m,ps,st,Ls,rfl,hg,hst,hL,by omega,hd,fun t H2 s2 nt ht=>?_⟩
  walk_at "w"
  exact k t Ls H2 (s1.trans s2) (s1.free nt) hL lL ht
def aDW(K:W.Frag)(C t:Addr):Sp:=fun vs H Q _=>∃(x:Addr) (m:MS) (b:Addr) (a:Int×Int) (q tb:Addr) (ps:List Int) (rows:List (List WP)) (num:Int),vs=[.ref x,.ref b,.ref q,.ref tb,.int num]/\H t=some (.ctb iX iY)/\bW C H x m/\m.Good/\H b=some (.tup [.int a.1,.int a.2])/\H q=some (.lst (ps.map V.int))/\(∀n∈ps,Am n)/\ps.length<=48/\pD H tb rows/\rows.length<=1000/\(∀row∈rows,row.length<=1000/\∀p∈row,St0 p.1.1 p.1.2)/\
 ∀H',aI H H'->Q (.bl (uF (Wr m ps) a ps.length rows num)) H'
theorem xE{P:Program}{w:World}{K:PySem.W.Frag}{mg:Str->Option Value}{base:Heap}{a:kW}(tx:Txt K mg a):bO P w K mg base iB 12 a.nX a.kI ["machine","state","prices","table","number"] (aDW K a.aZ a.kJ):=by
 have aBt:=fun base':Heap=>aBs (P:=P) (w:=w) (base:=base') tx
 refine tx.oE.okC tx.tF aDr (fun vs H Q E h=>?_) (fun A outer s H vs Q E hr h=>?_)
 ·obtain⟨x,m,b,st,q,tb,ps,rows,num,rfl,_⟩:=h
  rfl
 ·obtain⟨x,m,b,st,q,tb,ps,rows,num,rfl ,gt,hm,hg,hb,hq,ha,hl,htb,hlen,hrow,k⟩:=h
  have hu:=kZ hr
  refine Z.root (Z.aG (Z.aV (Z.rT (psL:=["hour","place"]) (N:=["hour","place","machine","prices"]) (idx:=[0,2]) (sp:=fun C=>tK K C) (kc:=8) (aBt) (hr.mono (by decide)) (by rfl) tx.uO tx.oP.kp tx.uN (fun _=>rfl) (cF (sc:=aB d8) (NX:=["machine","state","prices","table","number"]) rfl rfl rfl (by decide +kernel)) rfl rfl rfl rfl (fun _ _ _ _ us hl=>by obtain⟨_,_,rfl⟩:=ar2 us hl;rfl) (Z.pR (Z.pv 1) (Z.pR (Z.aN (rc:=oV K) bY (by rfl) tx.fP eZ (Z.aE (Z.pv 2) Z.aC)) (Z.pR (Z.pv 3) (Z.pR (Z.pv 4) (Z.aDg (N:=["hour","place","machine","prices"]) (n:=2) (idx:=[0,2]) rfl tx.tF.hd rfl rfl (cF (sc:=aB d8) (NX:=["machine","state","prices","table","number"]) rfl rfl rfl (by decide +kernel))))))) (fun _ _ _ _ _ _ _ _ hr hu=>(Z.aF (qW tx) (hr.mono (by decide)) (by rfl) tx.oC tx.kK.kp tx.oB .nil aU (Z.aE (Z.pv 2) (Z.aE (Z.pv 1) (Z.aE (Z.aL (K':=K) (Z.pv 3) (Z.pv 0) (fun _ _=>rfl)) Z.aC)))))))) ?_
  refine aR (σ:=[some (.ref x),some (.ref b),some (.ref q),some (.ref tb),some (.int num)]) rfl ?_
  walk_at "w"
  refine⟨gt,fun f c' H3 Cc s3 hc hC=>?_⟩
  refine⟨b,st,ps.length,tb,f,num,rows,Wr m ps,_,by simp,s3 _ _ hb,htb.same s3,yH (K:=K) (a:=a) Cc f _ hC (hm.same s3) hg (s3 _ _ hq) ha (fun H' h b' p Q s' gq hp hsp=>?_),by omega,by omega,fun row hr=>(hrow row hr).1,fun i row p er hi hp=>?_,fun H4 s4=>?_⟩
  ·refine⟨s' _ _ hc,rfl,?_⟩
   refine aF6 (σ:=[some (.int (h:Int)),some (.ref b'),some (.ref x),some (.ref q)]) rfl ?_
   walk_at "w"
   exact hsp
  ·exact⟨⟨hi,(hrow row (List.mem_of_getElem? er)).2 p hp⟩,Nat.le_trans (aAm ..) (by decide)⟩
  ·walk_at "w"
   exact k H4 (s3.trans s4)
def aCc(K:W.Frag):Sp:=fun vs H Q _=>∃(p b:Addr) (x y M:Int),vs=[.ref p,.ref b,.int M]/\bB H p/\H b=some (.lst [.int x,.int y])/\1<=y/\y<=50000000000/\Am M/\
 ∀(r:Int) H',Am r->bB H' p->bS p H H'->fF p H H'->Q (.int r) H'
theorem aCd{P:Program}{w:World}{K:PySem.W.Frag}{mg:Str->Option Value}{base:Heap}{a:kW}(tx:Txt K mg a):bO P w K mg base iB 2 a.lX a.lY ["_law_hand","_law_by","_law_most"] (aCc K):=by
 have aK:=cU (P:=P) (w:=w) (base:=base) tx
 refine tx.mC.ok aBQ (fun vs H Q E h=>?_) (fun cdv A outer s H vs Q E hr h=>?_)
 ·obtain⟨p,b,x,y,M,rfl,_⟩:=h
  rfl
 ·obtain⟨p,b,x,y,M,rfl ,hh,hb,y0,y1,hM,k⟩:=h
  have hu:=kZ hr
  refine Z.root (Z.aG (Z.aV (Z.aN (xY rfl) (by rfl) tx.uS aAH (Z.aE (Z.aN (mF rfl) (by rfl) tx.tG xV (Z.aE Z.aA (Z.aE (Z.aT gF (Z.aT bK (Z.aT bV (Z.aL (K':=K) (Z.pv 1) Z.aA (fun _ _=>rfl)) (Z.aF (aK) (hr.mono (by decide)) (by rfl) tx.aQ tx.aO.kp tx.aP .nil aU (Z.aE (Z.pv 0) (Z.aE Z.aA Z.aC)))) (Z.aF (aK) (hr.mono (by decide)) (by rfl) tx.aQ tx.aO.kp tx.aP .nil aU (Z.aE (Z.pv 0) (Z.aE Z.aA Z.aC)))) Z.aA) Z.aC))) (Z.aE (Z.pv 2) Z.aC))))) ?_
  obtain⟨m0,m1⟩:=hM
  have bp:b≠p:=hh.aHz hb (by simp)
  refine aR (σ:=[some (.ref p),some (.ref b),some (.int M)]) rfl ?_
  walk_at "w"
  refine⟨p,_,rfl,hh,by decide,by decide,fun r1 H1 a1 b1 h1 k1 q1=>?_⟩
  walk_at "w"
  refine⟨p,_,rfl,h1,by decide,by decide,fun r2 H2 a2 b2 h2 k2 q2=>?_⟩
  walk_at "w"
  exact k _ _ ⟨by omega,by omega⟩ h2 (k1.trans k2) (q1.trans q2)
section Enm
variable{α:Type}
def cR(W:Nat->α->List (Wy α))(a:α):Nat->List (List Int×α×Int)
 |0=>[([],a,0)]
 |k+1=>(cR W a k).flatMap fun f=>(W k f.2.1).map fun v=>(f.1 ++ [v.1],v.2.1,f.2.2+v.2.2)
def yK(W:Nat->α->List (Wy α)):Nat->α->List Int->Option (α×Int)
 |_,x,[]=>some (x,0)
 |i,x,c::r=>match (W i x).find? fun w=>decide (w.1=c) with
  |none=>none
  |some w=>(yK W (i+1) w.2.1 r).map fun e=>(e.1,w.2.2+e.2)
theorem aDX{W:Nat->α->List (Wy α)}:∀{row:List Int}{i:Nat}{x:α},aEV W i x row=(yK W i x row).map (·.2)
 |[],_,_=>rfl
 |c::r,i,x=>by
  unfold aEV yK
  cases (W i x).find? fun w=>decide (w.1=c) with
  |none=>rfl
  |some w=>
   show Option.map _ _=Option.map _ (Option.map _ _)
   rw[aDX,Option.map_map,Option.map_map]
   rfl
theorem yL{W:Nat->α->List (Wy α)}{c:Int}:∀{row:List Int}{i:Nat}{x:α},yK W i x (row ++ [c])=(yK W i x row).bind fun e=>((W (i+row.length) e.1).find? fun w=>decide (w.1=c)).map fun v=>(v.2.1,e.2+v.2.2)
 |[],i,x=>by
  show(match (W i x).find? fun w=>decide (w.1=c) with|none=>none|some w=>(some (w.2.1,(0:Int))).map fun e=>(e.1,w.2.2+e.2))=((W (i+0) x).find? fun w=>decide (w.1=c)).map fun v=>(v.2.1,0+v.2.2)
  rw[Nat.add_zero]
  cases (W i x).find? fun w=>decide (w.1=c) with
  |none=>rfl
  |some w=>
   show some (w.2.1,w.2.2+0)=some (w.2.1,0+w.2.2)
   rw[Int.add_zero,Int.zero_add]
 |d::r,i,x=>by
  show yK W i x (d::(r ++ [c]))=_
  unfold yK
  cases (W i x).find? fun w=>decide (w.1=d) with
  |none=>rfl
  |some w=>
   show Option.map _ (yK W (i+1) w.2.1 (r ++ [c]))=(Option.map _ (yK W (i+1) w.2.1 r)).bind _
   rw[yL,List.length_cons,show i+1+r.length=i+(r.length+1) by omega]
   cases yK W (i+1) w.2.1 r with
   |none=>rfl
   |some e=>
    show Option.map _ (Option.map _ _)=Option.map _ _
    rw[Option.map_map]
    congr 1
    funext v
    show(v.2.1,w.2.2+(e.2+v.2.2))=(v.2.1,w.2.2+e.2+v.2.2)
    rw[Int.add_assoc]
theorem mH{W:Nat->α->List (Wy α)}(hr:∀i x,aF3 (W i x)){a:α}:∀{k:Nat}{f:List Int×α×Int},f∈cR W a k↔f.1.length=k/\yK W 0 a f.1=some (f.2.1,f.2.2)
 |0,f=>by
  show f∈[([],a,(0:Int))]↔_
  rw[List.mem_singleton]
  constructor
  ·rintro rfl;exact⟨rfl,rfl⟩
  ·rintro ⟨h1,h2⟩
   obtain⟨f1,f2,f3⟩:=f
   have e:f1=[]:=List.length_eq_zero_iff.mp h1
   subst e
   cases h2
   rfl
 |k+1,f=>by
  show f∈(cR W a k).flatMap _↔_
  rw[List.mem_flatMap]
  constructor
  ·rintro ⟨g,hg,hf⟩
   obtain⟨v,hv,rfl⟩:=List.mem_map.mp hf
   obtain⟨h1,h2⟩:=(mH hr).mp hg
   refine⟨by show(g.1 ++ [v.1]).length=k+1;rw[List.length_append,h1];rfl,?_⟩
   show yK W 0 a (g.1 ++ [v.1])=_
   rw[yL,h2,h1,Nat.zero_add]
   show Option.map _ ((W k g.2.1).find? _)=_
   rw[aCO (hr k g.2.1) hv]
   rfl
  ·rintro ⟨h1,h2⟩
   obtain⟨f1,f2,f3⟩:=f
   have h1':f1.length=k+1:=h1
   have hne:f1≠[]:=fun z=>by rw[z] at h1';cases h1'
   have es:=List.dropLast_concat_getLast hne
   have h2':yK W 0 a f1=some (f2,f3):=h2
   rw[<-es,yL] at h2'
   obtain⟨e,he,hv⟩:=Option.bind_eq_some_iff.mp h2'
   obtain⟨v,hf,ev⟩:=Option.map_eq_some_iff.mp hv
   have lk:f1.dropLast.length=k:=by rw[List.length_dropLast,h1'];rfl
   rw[lk,Nat.zero_add] at hf
   cases ev
   have vc:v.1=f1.getLast hne:=of_decide_eq_true (List.find?_some (p:=fun w:Wy α=>decide (w.1=f1.getLast hne)) hf)
   refine⟨(f1.dropLast,e.1,e.2),(mH hr).mpr ⟨lk,he⟩,List.mem_map.mpr ⟨v,List.mem_of_find?_eq_some hf,?_⟩⟩
   show(f1.dropLast ++ [v.1],v.2.1,e.2+v.2.2)=(f1,v.2.1,e.2+v.2.2)
   rw[vc,es]
theorem aE4{W:Nat->α->List (Wy α)}{n:Nat}{L:Nat->α->Prop}(hl:Lay W n L)(hr:∀i x,aF3 (W i x)){a:α}(ha:L 0 a){m:Int}(h1:∃f∈cR W a n,f.2.2=m)(h2:∀f∈cR W a n,m<=f.2.2):m=wF W n 0 a:=by
 obtain⟨r1,r2⟩:=aDK hl hr n 0 a (by omega) ha
 rw[aDX] at r1
 obtain⟨e,e1,e2⟩:=Option.map_eq_some_iff.mp r1
 have a1:=h2 (vL W n 0 a,e.1,e.2) ((mH hr).mpr ⟨r2,e1⟩)
 obtain⟨f,hf,rfl⟩:=h1
 obtain⟨f1,f2⟩:=(mH hr).mp hf
 have a2:=aKH (W:=W) (row:=f.1) (i:=0) (x:=a) (v:=f.2.2) (by rw[aDX,f2];rfl)
 rw[f1] at a2
 have a3:f.2.2<=e.2:=a1
 omega
end Enm
theorem aDY{r:Int}{n:Nat}(h0:0<=r)(hn:0 < n):∃j:Nat,j < n/\r % (n:Int)=(j:Int):=by
 have e1:=Int.emod_nonneg r (b:=(n:Int)) (by omega)
 have e2:=Int.emod_lt_of_pos r (b:=(n:Int)) (by omega)
 exact⟨(r % (n:Int)).toNat,by omega,by omega⟩
theorem aNm(m:MS)(p:Int)(s:Int×Int):hw m p s 0=m.rest:=by
 show aHB m s.1 [0] - 0*gnT m p=_
 unfold aHB
 rw[show bgs s.1 [0] 0=[] by show(if (0:Int)=1/\s.1=0 then [((0:Nat):Int)] else []) ++ []=[];rw[if_neg (by omega)];rfl]
 simp
theorem aNn(m:MS)(p:Int){s:Int×Int}(b:Bit s.1):hw m p s 1=m.run+m.begin_*(1 - s.1) - gnT m p:=by
 show aHB m s.1 [1] - 1*gnT m p=_
 unfold aHB
 rcases b with b|b
 ·rw[show bgs s.1 [1] 0=[0] by show(if (1:Int)=1/\s.1=0 then [((0:Nat):Int)] else []) ++ []=[0];rw[if_pos ⟨rfl,b⟩];rfl,b]
  simp
  omega
 ·rw[show bgs s.1 [1] 0=[] by show(if (1:Int)=1/\s.1=0 then [((0:Nat):Int)] else []) ++ []=[];rw[if_neg (by omega)];rfl,b]
  simp
def aDZ(K:W.Frag):Sp:=fun vs H Q _=>∃(s:Addr) (m:MS) (t:Addr) (a:Int×Int) (p on:Int),vs=[.ref s,.ref t,.int p,.int on]/\fB H s m/\m.Good/\H t=some (.tup [.int a.1,.int a.2])/\Bit a.1/\0<=p/\p<=1000000000001/\Bit on/\
 ∀H',aI H H'->Q (.int (hw m p a on)) H'
theorem aD0{P:Program}{w:World}{K:PySem.W.Frag}{mg:Str->Option Value}{base:Heap}{a:kW}(tx:Txt K mg a):bO P w K mg base iB 2 a.nY a.nZ ["_law_spec_here","_law_state_here","_law_price_here","_law_on"] (aDZ K):=by
 have aE5:=aDB (P:=P) (w:=w) (base:=base) tx
 refine tx.sZ.ok aDs (fun vs H Q E h=>?_) (fun cdv A outer s H vs Q E hr h=>?_)
 ·obtain⟨s,m,t,st,pr,on,rfl,_⟩:=h
  rfl
 ·obtain⟨s,m,t,st,pr,on,rfl ,hs,hg,ht,hb,p0,p1,bon,k⟩:=h
  have hu:=kZ hr
  refine Z.root (Z.aD (Z.cK (Z.bH (r:=rD K) (gH hu) (Z.pv 3) Z.aA (bJ _)) (Z.aG (Z.aV (Z.aL (K':=K) (Z.pv 0) Z.aA (fun _ _=>rfl)))) Z.bF)
   (Z.aG (Z.aV (Z.aT gF (Z.aT bK (Z.aL (K':=K) (Z.pv 0) Z.aA (fun _ _=>rfl)) (Z.aT bV (Z.aL (K':=K) (Z.pv 0) Z.aA (fun _ _=>rfl)) (Z.aT gF Z.aA (Z.aL (K':=K) (Z.pv 1) Z.aA (fun _ _=>rfl))))) (Z.aF (aE5) (hr.mono (by decide)) (by rfl) tx.yZ tx.sL.kp tx.yY .nil aU (Z.aE (Z.pv 0) (Z.aE (Z.pv 2) Z.aC))))))) ?_
  obtain⟨pl,e1,_⟩:=hs.ex
  obtain⟨b0,b1⟩:=hg.begin_
  have bb:0<=st.1/\st.1<=1:=by rcases hb with z|z <;> omega
  obtain⟨bb0,bb1⟩:=bb
  refine aR (σ:=[some (.ref s),some (.ref t),some (.int pr),some (.int on)]) rfl ?_
  walk_at "w"
  rcases bon with rfl|rfl
  ·repeat walk_at "gs"
   rw[aNm] at k
   exact k H (aI.refl _)
  ·repeat walk_at "gs"
   refine⟨s,m,pr,rfl,hs,hg,p0,p1,fun H1 s1=>?_⟩
   walk_at "w"
   rw[aNn m pr hb] at k
   exact k H1 s1
def aBu(K:W.Frag):Sp:=fun vs H Q _=>∃(p s b:Addr) (m:MS) (x y:Int) (n:Nat),vs=[.ref p,.ref s,.ref b,.int (n:Int)]/\bB H p/\fB H s m/\m.Good/\H b=some (.lst [.int x,.int y])/\1<=y/\y<=50000000000/\n<=48/\
 ∀(q:Addr) (ps:List Int) (H':Hp),H' q=some (.lst (ps.map V.int))->ps.length=n->(∀r∈ps,Am r)->H q=none->bB H' p->bS p H H'->Q (.ref q) H'
theorem aBv{P:Program}{w:World}{K:PySem.W.Frag}{mg:Str->Option Value}{base:Heap}{a:kW}(tx:Txt K mg a):bO P w K mg base iB 3 a.jV a.jW ["_law_hand","_law_spec_here","_law_by","_law_hours"] (aBu K):=by
 have aK:=cU (P:=P) (w:=w) (base:=base) tx
 have xF:=aCd (P:=P) (w:=w) (base:=base) tx
 refine tx.oQ.ok cM (fun vs H Q E h=>?_) (fun cdv A outer s H vs Q E hr h=>?_)
 ·obtain⟨p,s,b,m,x,y,n,rfl,_⟩:=h
  rfl
 ·obtain⟨p,s,b,m,x,y,n,rfl ,hh,hs,hg,hb,y0,y1,hn,k⟩:=h
  have hu:=kZ hr
  refine Z.root (Z.aD (Z.aS (i:=4) cM.nd rfl (Or.inl rfl) (Z.gG Z.aC))
   (Z.aD (Z.aS (i:=5) cM.nd rfl (Or.inl rfl) (Z.aF (xF) (hr.mono (by decide)) (by rfl) tx.qR tx.mC.kp tx.qQ .nil aU (Z.aE (Z.pv 0) (Z.aE (Z.pv 2) (Z.aE (Z.aT uU Z.aA Z.aA) Z.aC)))))
   (Z.aD (Z.cS PassesOwn.never rfl (Z.cZ (by rfl) tx.dO (Z.aE (Z.pv 3) Z.aC)) (Z.aM (i:=6) cM.nd rfl (Or.inl rfl)) (Z.aD (Z.aS (i:=7) cM.nd rfl (Or.inl rfl) (Z.aF (xF) (hr.mono (by decide)) (by rfl) tx.qR tx.mC.kp tx.qQ .nil aU (Z.aE (Z.pv 0) (Z.aE (Z.pv 2) (Z.aE (Z.aT uU Z.aA Z.aA) Z.aC)))))
   (Z.aD (Z.cK (Z.bH (r:=rD K) (gH hu) (Z.aF (aK) (hr.mono (by decide)) (by rfl) tx.aQ tx.aO.kp tx.aP .nil aU (Z.aE (Z.pv 0) (Z.aE Z.aA Z.aC))) Z.aA (bJ _)) (Z.aG (Z.aS (i:=7) cM.nd rfl (Or.inl rfl) (Z.pv 5))) Z.bF)
   (Z.aD (Z.cK (Z.aAM (Z.aAq (Z.bH (r:=aL9 K) (aMa hu) (Z.aL (K':=K) (Z.pv 1) Z.aA (fun _ _=>rfl)) (Z.gG Z.aC) (bJ _)) (Z.vQ (Z.bH (r:=rD K) (gH hu) (Z.aF (aK) (hr.mono (by decide)) (by rfl) tx.aQ tx.aO.kp tx.aP .nil aU (Z.aE (Z.pv 0) (Z.aE Z.aA Z.aC))) Z.aA (bJ _))))) (Z.aG (Z.aS (i:=7) cM.nd rfl (Or.inl rfl) (Z.aN (xY rfl) (by rfl) tx.uS aAH (Z.aE (Z.aT uU Z.aA Z.aA) (Z.aE (Z.aT bK (Z.aL (K':=K) (Z.aL (K':=K) (Z.aL (K':=K) (Z.pv 1) Z.aA (fun _ _=>rfl)) (Z.aT iD (Z.aF (aK) (hr.mono (by decide)) (by rfl) tx.aQ tx.aO.kp tx.aP .nil aU (Z.aE (Z.pv 0) (Z.aE Z.aA Z.aC))) (Z.aN (rc:=oV K) bY (by rfl) tx.fP eZ (Z.aE (Z.aL (K':=K) (Z.pv 1) Z.aA (fun _ _=>rfl)) Z.aC))) (fun _ _=>rfl)) Z.aA (fun _ _=>rfl)) (Z.aF (aK) (hr.mono (by decide)) (by rfl) tx.aQ tx.aO.kp tx.aP .nil aU (Z.aE (Z.pv 0) (Z.aE Z.aA Z.aC)))) Z.aC))))) Z.bF)
   (Z.aD (Z.cK (Z.bH (r:=rD K) (gH hu) (Z.aF (aK) (hr.mono (by decide)) (by rfl) tx.aQ tx.aO.kp tx.aP .nil aU (Z.aE (Z.pv 0) (Z.aE Z.aA Z.aC))) Z.aA (bJ _)) (Z.aG (Z.aS (i:=7) cM.nd rfl (Or.inl rfl) (Z.aT uU Z.aA Z.aA))) Z.bF)
   (Z.aG (Z.iC (Z.nB (K':=K) (Z.pv 4) (Z.aE (Z.pv 7) Z.aC)))))))))
   (Z.aG (Z.aV (Z.pv 4)))))) ?_
  have bp:b≠p:=hh.aHz hb (by simp)
  have e12:(10:Int) ^ (12:Int).toNat=1000000000000:=by decide
  refine aR (σ:=[some (.ref p),some (.ref s),some (.ref b),some (.int (n:Int)),none,none,none,none]) rfl ?_
  walk_at "w"
  intro q nq
  obtain⟨H1,i1,s1,g1⟩:=nw _ nq;rw[i1]
  have qp:q≠p:=hh.aM5 nq
  walk_at "w"
  rw[e12]
  refine⟨p,b,x,y,_,rfl,hh.same s1,s1 _ _ hb,y0,y1,⟨by decide,by decide⟩,fun bs H2 abs h2 k2 q2=>?_⟩
  have g2:=k2 _ _ g1 qp
  have K2:bS p H H2:=s1.keep.trans k2
  have Q2:fF p H H2:=(fF.of (s1 p)).trans q2
  walk_at "w"
  refine⟨by omega,by omega,?_⟩
  rw[Int.toNat_natCast]
  refine kH (n:=n) (fun i σ' H'=>∃(ps:List Int) (z6 z7:Option V),σ'=[some (.ref p),some (.ref s),some (.ref b),some (.int (n:Int)),some (.ref q),some (.int bs),z6,z7]/\H' q=some (.lst (ps.map V.int))/\ps.length=i/\(∀r∈ps,Am r)/\bS p H H'/\fF p H H')
   ⟨[],_,_,rfl,g2,rfl,(fun r h=>by cases h),K2,Q2⟩ (fun i σ' H3 hi ⟨ps,z6,z7,e,g3,lps,aps,K3,Q3⟩=>?_) (fun σ' H3 ⟨ps,z6,z7,e,g3,lps,aps,K3,Q3⟩=>?_)
  ·subst e
   have h3:=hh.of K3 Q3
   walk_at "w"
   rw[e12]
   refine⟨p,b,x,y,_,rfl,h3,K3 _ _ hb bp,y0,y1,⟨by decide,by decide⟩,fun pr H4 apr h4 k4 q4=>?_⟩
   have g4:=k4 _ _ g3 qp
   repeat walk_at "st"
   refine aAd (fun σ' H'=>∃pr:Int,Am pr/\σ'=[some (.ref p),some (.ref s),some (.ref b),some (.int (n:Int)),some (.ref q),some (.int bs),some (.int (0+(i:Int))),some (.int pr)]/\bS p H4 H'/\fF p H4 H') (fun N hN=>?_) (fun σ' H6 ⟨pr2,apr2,e,k5,q5⟩=>?_)
   ·walk_at "w"
    refine⟨p,_,rfl,h4,by decide,by decide,fun r5 H5 a5 b5 h5 k5 q5=>?_⟩
    walk_at "w"
    refine cY (fun c=>?_) (fun c=>?_)
    ·walk_at "w"
     exact hN _ _ ⟨bs,abs,rfl,k5,q5⟩
    ·walk_at "w"
     exact hN _ _ ⟨pr,apr,rfl,k5,q5⟩
   subst e
   have K5:bS p H H6:=K3.trans (k4.trans k5)
   have Q5:fF p H H6:=Q3.trans (q4.trans q5)
   have g5:=k5 _ _ g4 qp
   have h5:=hh.of K5 Q5
   have hs5:=hs.keep hh K5
   obtain⟨pl,es,hpc⟩:=hs5.ex
   obtain⟨qs,gpl,tpl⟩:=hpc.ex
   refine aAd (fun σ' H'=>∃pr:Int,Am pr/\σ'=[some (.ref p),some (.ref s),some (.ref b),some (.int (n:Int)),some (.ref q),some (.int bs),some (.int (0+(i:Int))),some (.int pr)]/\bS p H6 H'/\fF p H6 H') (fun N hN=>?_) (fun σ' H7 ⟨pr3,apr3,e,k7,q7⟩=>?_)
   ·walk_at "w"
    intro l0 nl0
    obtain⟨H7,i7,s7,g7⟩:=nw _ nl0;rw[i7]
    refine aMb (s7 _ _ gpl) g7 ?_
    walk_at "w"
    have h7:=h5.same s7
    cases qs with
    |nil=>
     repeat walk_at "gs"
     exact hN _ _ ⟨pr2,apr2,rfl,s7.keep,fF.of (s7 p)⟩
    |cons q0 qr=>
     have lqs:=tpl.len
     have mpos:0 < m.pieces.length:=by rw[<-lqs];simp
     have lqm:((q0::qr).map V.ref).length=m.pieces.length:=by rw[List.length_map];exact lqs
     have gpp:pl≠p:=fun z=>by
      obtain⟨d',c',q',ms',hp',_⟩:=h5.ex
      rw[z,hp'] at gpl
      cases gpl
     repeat walk_at "gs"
     refine⟨p,_,rfl,h7,by decide,by decide,fun r8 H8 a8 b8 h8 k8 q8=>?_⟩
     have es8:=k8 _ _ (s7 _ _ es) (h7.aHz (s7 _ _ es) (by simp))
     have gpl8:=k8 _ _ (s7 _ _ gpl) gpp
     have K68:bS p H6 H8:=s7.keep.trans k8
     have Q68:fF p H6 H8:=(fF.of (s7 p)).trans q8
     walk_at "w"
     refine cY (fun c=>?_) (fun c=>?_)
     ·walk_at "w"
      rw[e12]
      refine⟨p,_,rfl,h8,by decide,by decide,fun r9 H9 a9 b9 h9 k9 q9=>?_⟩
      have es9:=k9 _ _ es8 (h8.aHz es8 (by simp))
      have gpl9:=k9 _ _ gpl8 gpp
      obtain⟨jk,hjk,ejk⟩:=aDY (n:=m.pieces.length) a9 mpos
      have eqk:(q0::qr)[jk]?=some ((q0::qr)[jk]'(by rw[lqs];exact hjk)):=List.getElem?_eq_getElem (by rw[lqs];exact hjk)
      have erk:m.pieces[jk]?=some m.pieces[jk]:=List.getElem?_eq_getElem hjk
      have gk6:=tpl.at_ jk _ _ eqk erk
      have pk:=hg.pieces.pc m.pieces[jk] (List.getElem_mem hjk)
      generalize (q0::qr)[jk]'(by rw[lqs];exact hjk)=qk at eqk gk6
      generalize m.pieces[jk]=ow at erk gk6 pk
      have ixk:uH ((q0::qr).map V.ref) (jk:Int)=some (.ref qk):=dM (kS eqk)
      have gk9:H9 qk=some (.tup [.int ow.1,.int ow.2]):=k9 _ _ (k8 _ _ (s7 _ _ gk6) fun z=>h7.mI _ (by rw[<-z];exact s7 _ _ gk6)) fun z=>h8.mI _ (by rw[<-z];exact k8 _ _ (s7 _ _ gk6) fun z=>h7.mI _ (by rw[<-z];exact s7 _ _ gk6))
      have hl0:0 < (m.pieces.length:Int):=by omega
      walk_at "w"
      rw[lqm,ejk]
      walk_at "w"
      refine⟨p,_,rfl,h9,by decide,by decide,fun r10 H10 a10 b10 h10 k10 q10=>?_⟩
      obtain⟨_,_,u0,u1⟩:=pk
      walk_at "w"
      exact hN _ _ ⟨_,⟨by omega,by omega⟩,rfl,K68.trans (k9.trans k10),Q68.trans (q9.trans q10)⟩
     ·walk_at "w"
      exact hN _ _ ⟨pr2,apr2,rfl,K68,Q68⟩
   subst e
   have K7:=K5.trans k7
   have Q7:=Q5.trans q7
   have h7:=hh.of K7 Q7
   have g7:=k7 _ _ g5 qp
   refine aAd (fun σ' H'=>∃pr:Int,Am pr/\σ'=[some (.ref p),some (.ref s),some (.ref b),some (.int (n:Int)),some (.ref q),some (.int bs),some (.int (0+(i:Int))),some (.int pr)]/\bS p H7 H'/\fF p H7 H') (fun N hN=>?_) (fun σ' H9 ⟨pr4,apr4,e,k8,q8⟩=>?_)
   ·walk_at "w"
    refine⟨p,_,rfl,h7,by decide,by decide,fun r8 H8 a8 b8 h8 k8 q8=>?_⟩
    walk_at "w"
    refine cY (fun c=>?_) (fun c=>?_)
    ·walk_at "w"
     rw[e12]
     walk_at "w"
     exact hN _ _ ⟨_,⟨by decide,by decide⟩,rfl,k8,q8⟩
    ·walk_at "w"
     exact hN _ _ ⟨pr3,apr3,rfl,k8,q8⟩
   subst e
   have K8:=K7.trans k8
   have Q8:=Q7.trans q8
   have g8:=k8 _ _ g7 qp
   walk_at "w"
   refine oK (bG.of g8) ?_
   walk_at "w"
   refine rO (xs:=ps.map V.int) g8 (Nat.lt_of_lt_of_le (by rw[List.length_map];omega:(ps.map V.int).length < 1000) (bX (by decide))) ?_
   obtain⟨H10,i10,k10,g10⟩:=wr H9 q _;rw[i10]
   walk_at "w"
   refine⟨ps ++ [pr4],_,_,rfl,by rw[g10,List.map_append];rfl,by rw[List.length_append,lps];rfl,fun r hr=>?_,fun d o e nd=>k10 _ _ (K8 _ _ e nd) (bE nq e),Q8.trans (fF.of fun o e=>k10 _ _ e (Ne.symm qp))⟩
   rcases List.mem_append.mp hr with z|z
   ·exact aps r z
   ·rw[List.mem_singleton.mp z];exact apr4
  ·subst e
   walk_at "w"
   exact k q ps H3 g3 lps aps nq (hh.of K3 Q3) K3
theorem aE6{m:MS}{ps:List Int}{a:Int×Int}:∀{k:Nat}{f:List Int×(Int×Int)×Int},f∈cR (Wr m ps) a k->Rc m a k f.2.1
 |0,f,h=>by
  have h':f∈[([],a,(0:Int))]:=h
  rw[List.mem_singleton.mp h']
  rfl
 |k+1,f,h=>by
  have h':f∈(cR (Wr m ps) a k).flatMap _:=h
  obtain⟨g,hg,hf⟩:=List.mem_flatMap.mp h'
  obtain⟨v,hv,rfl⟩:=List.mem_map.mp hf
  obtain⟨on,b,may,rfl⟩:=w6.mp hv
  exact⟨g.2.1,aE6 hg,on,b,may,rfl⟩
theorem tL{α β:Type}{g:α->List β}:∀{l:List α},(∀x∈l,(g x).length<=2)->(l.flatMap g).length<=2*l.length
 |[],_=>by simp
 |x::l,h=>by
  rw[List.flatMap_cons,List.length_append,List.length_cons]
  have h1:=h x (.head _)
  have h2:=tL (l:=l) fun y hy=>h y (List.mem_cons_of_mem _ hy)
  omega
theorem yM(m:MS)(ps:List Int)(a:Int×Int):∀k:Nat,(cR (Wr m ps) a k).length<=2 ^ k
 |0=>by show [_].length<=1;simp
 |k+1=>by
  have h1:=yM m ps a k
  have h2:(cR (Wr m ps) a (k+1)).length<=2*(cR (Wr m ps) a k).length:=tL fun f _=>by
   rw[List.length_map]
   exact aAm ..
  rw[Nat.pow_succ]
  omega
def FAt(x:Addr)(H:Hp)(a:Addr)(f:List Int×(Int×Int)×Int):Prop:=∃r t,H a=some (.tup [.ref r,.ref t,.int f.2.2])/\H r=some (.lst (f.1.map V.int))/\H t=some (.tup [.int f.2.1.1,.int f.2.1.2])/\r≠x
theorem FAt.keep{x a:Addr}{H H':Hp}{ys:List V}{f:List Int×(Int×Int)×Int}(h:FAt x H a f)(gx:H x=some (.lst ys))(k:∀d o,H d=some o->d≠x->H' d=some o):FAt x H' a f:=by
 obtain⟨r,t,h1,h2,h3,h4⟩:=h
 exact⟨r,t,k _ _ h1 (fun z=>by rw[z,gx] at h1;cases h1),k _ _ h2 h4,k _ _ h3 (fun z=>by rw[z,gx] at h3;cases h3),h4⟩
theorem FAt.same{x a:Addr}{H H':Hp}{f:List Int×(Int×Int)×Int}(h:FAt x H a f)(s:aI H H'):FAt x H' a f:=by
 obtain⟨r,t,h1,h2,h3,h4⟩:=h
 exact⟨r,t,s _ _ h1,s _ _ h2,s _ _ h3,h4⟩
theorem FAt.fresh{x y a:Addr}{H:Hp}{f:List Int×(Int×Int)×Int}(h:FAt x H a f)(n:H y=none):FAt y H a f:=by
 obtain⟨r,t,h1,h2,h3,h4⟩:=h
 exact⟨r,t,h1,h2,h3,fun z=>by rw[z,n] at h2;cases h2⟩
def GAt(H:Hp)(a:Addr)(f:List Int×(Int×Int)×Int):Prop:=∃r,H a=some (.tup [.ref r,.int f.2.2])/\H r=some (.lst (f.1.map V.int))
theorem GAt.same{a:Addr}{H H':Hp}{f:List Int×(Int×Int)×Int}(h:GAt H a f)(s:aI H H'):GAt H' a f:=by
 obtain⟨r,h1,h2⟩:=h
 exact⟨r,s _ _ h1,s _ _ h2⟩
def stp(m:MS)(p:Int)(f:List Int×(Int×Int)×Int)(ons:List Int):List (List Int×(Int×Int)×Int):=(ons.filter (zT f.2.1)).map fun on=>(f.1 ++ [on],pE m f.2.1.1 f.2.1.2 on,f.2.2+hw m p f.2.1 on)
theorem aJr(m:MS)(p:Int)(f:List Int×(Int×Int)×Int):((rwy m p f.2.1).map fun v=>(f.1 ++ [v.1],v.2.1,f.2.2+v.2.2))=stp m p f [0,1]:=by
 unfold stp rwy
 rw[List.map_map]
 rfl
def aE7(K:W.Frag):Sp:=fun vs H Q _=>∃(s:Addr) (m:MS) (t:Addr) (a:Int×Int) (q:Addr) (ps:List Int),vs=[.ref s,.ref t,.ref q]/\fB H s m/\m.Good/\H t=some (.tup [.int a.1,.int a.2])/\St1 m a/\H q=some (.lst (ps.map V.int))/\(∀n∈ps,Am n)/\ps.length<=7/\
 ∀(l:Addr) (as:List Addr) (H':Hp),aI H H'->H' l=some (.lst (as.map V.ref))->RL (GAt H') as (cR (Wr m ps) a ps.length)->Q (.ref l) H'
theorem aE8{P:Program}{w:World}{K:PySem.W.Frag}{mg:Str->Option Value}{base:Heap}{a:kW}(tx:Txt K mg a):bO P w K mg base iB 3 a.qD a.qE ["_law_spec_here","_law_state_here","_law_prices_here"] (aE7 K):=by
 have aD1:=aBW (P:=P) (w:=w) (base:=base) tx
 have aE9:=aD0 (P:=P) (w:=w) (base:=base) tx
 refine tx.vH.ok cV (fun vs H Q E h=>?_) (fun cdv A outer s H vs Q E hr h=>?_)
 ·obtain⟨s,m,t,st,q,ps,rfl,_⟩:=h
  rfl
 ·obtain⟨s,m,t,st,q,ps,rfl ,hs,hg,ht,hst,hq,ha,hl,k⟩:=h
  have hu:=kZ hr
  refine Z.root (Z.aD (Z.aS (i:=3) cV.nd rfl (Or.inl rfl) (Z.aBF (Z.aFz (Z.gG Z.aC) (Z.pv 1) Z.aA)))
   (Z.aD (Z.cS PassesOwn.never rfl (Z.bQ (K':=K) (Z.pv 2)) (Z.aM (i:=4) cV.nd rfl (Or.inl rfl)) (Z.aD (Z.aS (i:=5) cV.nd rfl (Or.inl rfl) (Z.gG Z.aC))
   (Z.aD (Z.cS PassesOwn.never rfl (Z.bQ (K':=K) (Z.pv 3)) (Z.fE (K':=K) (n:=3) rfl (Z.bA (Z.aM (i:=6) cV.nd rfl (Or.inl rfl)) (Z.bA (Z.aM (i:=7) cV.nd rfl (Or.inl rfl)) (Z.bA (Z.aM (i:=8) cV.nd rfl (Or.inl rfl)) Z.dJ)))) (Z.aG (Z.cS PassesOwn.never rfl (Z.aAf (K':=K) (Z.rE Z.aA Z.aA)) (Z.aM (i:=9) cV.nd rfl (Or.inl rfl)) (Z.aD (Z.aS (i:=10) cV.nd rfl (Or.inl rfl) (Z.aF (aD1) (hr.mono (by decide)) (by rfl) tx.wG tx.qI.kp tx.wD .nil aU (Z.aE (Z.pv 0) (Z.aE (Z.pv 7) (Z.aE (Z.pv 9) Z.aC)))))
   (Z.aG (Z.cK (Z.bH xZ (Z.pv 10) Z.xK (bJ _)) (Z.aG (Z.iC (Z.nB (K':=K) (Z.pv 5) (Z.aE (Z.aFz (Z.aT bK (Z.pv 6) (Z.aBF (Z.pv 9))) (Z.pv 10) (Z.aT bK (Z.pv 8) (Z.aF (aE9) (hr.mono (by decide)) (by rfl) tx.y9 tx.sZ.kp tx.y8 .nil aU (Z.aE (Z.pv 0) (Z.aE (Z.pv 7) (Z.aE (Z.pv 4) (Z.aE (Z.pv 9) Z.aC))))))) Z.aC)))) Z.bF))))))
   (Z.aG (Z.aS (i:=3) cV.nd rfl (Or.inl rfl) (Z.pv 5))))))
   (Z.aG (Z.aV (Z.cO (k:=3) (idx:=[]) (N:=["_law_run","_law_one","_law_worth"]) (cF (sc:=aB gU) (NX:=["_law_spec_here","_law_state_here","_law_prices_here","_law_found","_law_price_here","_law_later","_law_run","_law_one","_law_worth","_law_on","_law_behind"]) rfl rfl rfl (by decide +kernel)) rfl (Z.bQ (K':=K) (Z.pv 3)) (fun _ _ _ _=>(Z.fE (K':=K) (n:=3) rfl (Z.bA (Z.aM (i:=0) (show(["_law_run","_law_one","_law_worth"]:List Str).Nodup by decide +kernel) rfl (Or.inl rfl)) (Z.bA (Z.aM (i:=1) (show(["_law_run","_law_one","_law_worth"]:List Str).Nodup by decide +kernel) rfl (Or.inl rfl)) (Z.bA (Z.aM (i:=2) (show(["_law_run","_law_one","_law_worth"]:List Str).Nodup by decide +kernel) rfl (Or.inl rfl)) Z.dJ))))) (nA (bP (by decide) (bP (by decide) (bP (by decide) kG)))) (fun _ _ _ _=>Z.cG) (fun _ _ _ _=>(Z.rE (Z.pv 0) (Z.pv 2)))))))) ?_
  refine aR (σ:=[some (.ref s),some (.ref t),some (.ref q),none,none,none,none,none,none,none,none]) rfl ?_
  walk_at "w"
  intro l0 nl0
  obtain⟨H1,i1,s1,g1⟩:=nw _ nl0;rw[i1]
  walk_at "w"
  intro T nT
  obtain⟨H2,i2,s2,g2⟩:=nw _ nT;rw[i2]
  walk_at "w"
  intro lf nlf
  obtain⟨H3,i3,s3,g3⟩:=nw _ nlf;rw[i3]
  have S3:aI H H3:=s1.trans (s2.trans s3)
  walk_at "w"
  refine fH (bG.of (S3 _ _ hq)) ?_
  have vO:∀i,i<=ps.length->(cR (Wr m ps) st i).length<=128:=fun i hi=>Nat.le_trans (yM m ps st i) (Nat.le_trans (Nat.pow_le_pow_right (by decide) (show i<=7 by omega)) (by decide))
  refine tU (xs:=ps.map V.int) (fun i σ' H'=>aI H H'/\∃(lf:Addr) (fs:List Addr) (z4 z5 z6 z7 z8 z9 z10:Option V),σ'=[some (.ref s),some (.ref t),some (.ref q),some (.ref lf),z4,z5,z6,z7,z8,z9,z10]/\H' lf=some (.lst (fs.map V.ref))/\∃x,RL (FAt x H') fs (cR (Wr m ps) st i))
   ⟨S3,lf,[T],_,_,_,_,_,_,_,rfl,g3,lf,RL.one ⟨l0,t,s3 _ _ g2,(s2.trans s3) _ _ g1,S3 _ _ ht,fun z=>by have y:=s2 _ _ g1;rw[z,nlf] at y;cases y⟩⟩ (fun i σ' H' hi ⟨s',_⟩=>bG.of (s' _ _ hq)) (fun i v σ' H' hv ⟨s',lf,fs,z4,z5,z6,z7,z8,z9,z10,e,glf,x,rfs⟩=>?_) (fun σ' H' ⟨s',lf,fs,z4,z5,z6,z7,z8,z9,z10,e,glf,x,rfs⟩=>?_)
  ·subst e
   obtain⟨pr,ep,rfl⟩:=aAk hv
   have hi:i < ps.length:=(List.getElem?_eq_some_iff.mp ep).1
   obtain⟨p0,p1⟩:=ha pr (List.mem_of_getElem? ep)
   have egd:ps.getD i 0=pr:=by rw[List.getD_eq_getElem?_getD,ep];rfl
   have lfs:=rfs.len
   have f128:=vO i (by omega)
   have f128':=vO (i+1) (by omega)
   walk_at "w"
   intro ll nll
   obtain⟨H4,i4,s4,g4⟩:=nw _ nll;rw[i4]
   have nllH:H ll=none:=s'.free nll
   have S4:=s'.trans s4
   have rfs4:RL (FAt ll H4) fs (cR (Wr m ps) st i):=rfs.imp fun _ _ z=>(z.fresh nll).same s4
   have glf4:=s4 _ _ glf
   have lfll:lf≠ll:=fun z=>by rw[z,nll] at glf;cases glf
   have estp:∀j,((cR (Wr m ps) st i).take j).flatMap (fun f=>(Wr m ps i f.2.1).map fun v=>(f.1 ++ [v.1],v.2.1,f.2.2+v.2.2))=((cR (Wr m ps) st i).take j).flatMap fun f=>stp m pr f [0,1]:=fun j=>by
    congr 1
    funext f
    unfold Wr
    rw[egd]
    exact aJr m pr f
   walk_at "w"
   refine fH (bG.of glf4) ?_
   refine tU (xs:=fs.map V.ref) (fun j σ' H'=>aI H H'/\bS ll H4 H'/\∃(gs:List Addr) (z6 z7 z8 z9 z10:Option V),σ'=[some (.ref s),some (.ref t),some (.ref q),some (.ref lf),some (.int pr),some (.ref ll),z6,z7,z8,z9,z10]/\H' ll=some (.lst (gs.map V.ref))/\RL (FAt ll H') gs (((cR (Wr m ps) st i).take j).flatMap fun f=>stp m pr f [0,1]))
    ⟨S4,fun _ _ e _=>e,[],_,_,_,_,_,rfl,g4,RL.nil⟩ (fun j σ' H' hj ⟨_,k',_⟩=>bG.of (k' _ _ glf4 lfll)) (fun j v σ' H5 hv ⟨s5,k5,gs,z6,z7,z8,z9,z10,e,g5,rgs⟩=>?_) (fun σ' H5 ⟨s5,k5,gs,z6,z7,z8,z9,z10,e,g5,rgs⟩=>?_)
   ·subst e
    obtain⟨a1,f,ea,rfl,ef,r,t1,h1,h2,h3,h4⟩:=(rfs4.imp fun _ _ z=>z.keep g4 k5).gt hv
    have hfm:=List.mem_of_getElem? ef
    obtain⟨sb,sd,_⟩:=(Rc.st hg hst (aE6 hfm)).1
    have hfl:=((mH (fun i x=>aEY _ _ _)).mp hfm).1
    refine fD (kL.of h1) rfl ?_
    walk_at "w"
    intro Tu nTu
    obtain⟨H6,i6,s6,gTu⟩:=nw _ nTu;rw[i6]
    have g6:=s6 _ _ g5
    have h26:=s6 _ _ h2
    have h36:=s6 _ _ h3
    have t1ll:t1≠ll:=fun z=>by rw[z,g5] at h3;cases h3
    have Tull:Tu≠ll:=fun z=>by rw[z,g6] at gTu;cases gTu
    have S6:=s5.trans s6
    walk_at "w"
    refine aGp (kL.of gTu) ?_
    refine aFy (xs:=([0,1]:List Int).map V.int) (fun jj σ' H'=>aI H H'/\bS ll H6 H'/\∃(gs:List Addr) (z9 z10:Option V),σ'=[some (.ref s),some (.ref t),some (.ref q),some (.ref lf),some (.int pr),some (.ref ll),some (.ref r),some (.ref t1),some (.int f.2.2),z9,z10]/\H' ll=some (.lst (gs.map V.ref))/\RL (FAt ll H') gs ((((cR (Wr m ps) st i).take j).flatMap fun f=>stp m pr f [0,1])++stp m pr f (([0,1]:List Int).take jj)))
     ⟨S6,fun _ _ e _=>e,gs,_,_,rfl,g6,by rw[show stp m pr f (([0,1]:List Int).take 0)=[] from rfl,List.append_nil];exact rgs.imp fun _ _ z=>z.same s6⟩ (fun jj σ' H' hj ⟨_,k',_⟩=>kL.of (k' _ _ gTu Tull)) (fun jj v σ' H7 hv ⟨s7,k7,gs,z9,z10,e,g7,rg7⟩=>?_) (fun σ' H7 ⟨s7,k7,gs,z9,z10,e,g7,rg7⟩=>?_)
    ·subst e
     obtain⟨on,eon,rfl⟩:=aAk hv
     have bon:Bit on:=by
      have:=List.mem_of_getElem? eon
      simp at this
      exact this
     have tk:([0,1]:List Int).take (jj+1)=([0,1]:List Int).take jj ++ [on]:=by rw[List.take_add_one,eon];rfl
     have est:stp m pr f (([0,1]:List Int).take (jj+1))=stp m pr f (([0,1]:List Int).take jj)++stp m pr f [on]:=by
      unfold stp
      rw[tk,List.filter_append,List.map_append]
     have h37:=k7 _ _ h36 t1ll
     have h27:=k7 _ _ h26 h4
     have hs7:=hs.same s7
     have lgs:=rg7.len
     have lgb:gs.length<=2*128+2:=by
      rw[lgs,List.length_append]
      have b1:(((cR (Wr m ps) st i).take j).flatMap fun f=>stp m pr f [0,1]).length<=2*((cR (Wr m ps) st i).take j).length:=tL fun f _=>by
       unfold stp
       rw[List.length_map]
       exact List.length_filter_le ..
      have b2:(stp m pr f (([0,1]:List Int).take jj)).length<=2:=by
       unfold stp
       rw[List.length_map]
       refine Nat.le_trans (List.length_filter_le ..) ?_
       rw[List.length_take]
       simp
       omega
      rw[List.length_take] at b1
      omega
     walk_at "w"
     refine⟨s,m,t1,f.2.1.1,f.2.1.2,on,rfl,hs7,h37,bon,sb,sd,fun may T2 H8 s8 nT2 gT2=>?_,fun nmay=>?_⟩
     ·have hmb:zT f.2.1 on=true:=pC.mpr may
      have g8:=s8 _ _ g7
      repeat walk_at "gs"
      refine oK (bG.of g8) ?_
      walk_at "w"
      intro lo nlo
      obtain⟨H9,i9,s9,g9⟩:=nw _ nlo;rw[i9]
      walk_at "w"
      refine vY (xs:=f.1.map V.int) (zs:=[.int on]) ((s8.trans s9) _ _ h27) g9 (bX (by rw[List.length_map];simp;omega)) ?_
      intro r2 nr2
      obtain⟨H10,i10,s10,g10⟩:=nw _ nr2;rw[i10]
      have s810:=s8.trans (s9.trans s10)
      walk_at "w"
      refine⟨s,m,t1,f.2.1,pr,on,rfl,hs7.same s810,hg,s810 _ _ h37,sb,p0,by omega,bon,fun H11 s11=>?_⟩
      walk_at "w"
      intro TT nTT
      obtain⟨H12,i12,s12,g12⟩:=nw _ nTT;rw[i12]
      have s712:=s810.trans (s11.trans s12)
      have g7':=s712 _ _ g7
      have r2ll:r2≠ll:=fun z=>by rw[z,(s8.trans s9) _ _ g7] at nr2;cases nr2
      walk_at "w"
      refine rO (xs:=gs.map V.ref) g7' (Nat.lt_of_lt_of_le (by rw[List.length_map];omega:(gs.map V.ref).length < 1000) (bX (by decide))) ?_
      obtain⟨H13,i13,k13,g13⟩:=wr H12 ll _;rw[i13]
      have k713:∀d o,H7 d=some o->d≠ll->H13 d=some o:=fun d o e n=>k13 _ _ (s712 _ _ e) n
      have TTll:TT≠ll:=fun z=>by rw[z,g7'] at g12;cases g12
      have T2ll:T2≠ll:=fun z=>by rw[z,g8] at gT2;cases gT2
      walk_at "w"
      refine⟨fun d o e=>k713 _ _ (s7 _ _ e) (bE nllH e),fun d o e n=>k713 _ _ (k7 _ _ e n) n,gs ++ [TT],_,_,rfl,by rw[g13,List.map_append];rfl,?_⟩
      rw[est,<-List.append_assoc,show stp m pr f [on]=[(f.1 ++ [on],pE m f.2.1.1 f.2.1.2 on,f.2.2+hw m pr f.2.1 on)] by unfold stp;rw[List.filter_cons_of_pos hmb];rfl]
      refine RL.snoc (rg7.imp fun _ _ z=>z.keep g7 k713) ⟨r2,T2,k13 _ _ g12 TTll,?_,k13 _ _ ((s9.trans (s10.trans (s11.trans s12))) _ _ gT2) T2ll,r2ll⟩
      rw[k13 _ _ ((s11.trans s12) _ _ g10) r2ll,List.map_append]
      rfl
     ·have hmb:¬zT f.2.1 on=true:=fun z=>nmay (pC.mp z)
      repeat walk_at "gs"
      refine⟨s7,k7,gs,_,_,rfl,g7,?_⟩
      rw[est,show stp m pr f [on]=[] by unfold stp;rw[List.filter_cons_of_neg hmb];rfl,List.append_nil]
      exact rg7
    ·subst e
     refine⟨s7,fun d o e n=>k7 _ _ (s6 _ _ (k5 _ _ e n)) n,gs,_,_,_,_,_,rfl,g7,?_⟩
     rw[cJ ef,List.flatMap_append,List.flatMap_cons,List.flatMap_nil,List.append_nil]
     exact rg7
   ·subst e
    walk_at "w"
    refine⟨s5,ll,gs,_,_,_,_,_,_,_,rfl,g5,ll,?_⟩
    rw[List.length_map,lfs,<-estp,List.take_length] at rgs
    exact rgs
  ·subst e
   rw[List.length_map] at rfs
   have lfs:=rfs.len
   have f128:=vO ps.length (Nat.le_refl _)
   walk_at "w"
   refine fH (bG.of glf) ?_
   refine cB (xs:=fs.map V.ref) (fun j us H5=>aI H' H5/\∃as:List Addr,us=as.map V.ref/\RL (GAt H5) as ((cR (Wr m ps) st ps.length).take j)) ⟨aI.refl _,[],rfl,RL.nil⟩ (bX (by rw[List.length_map];omega))
    (fun j us H5 hj ⟨s5,as,e,r⟩=>⟨bG.of (s5 _ _ glf),by rw[e,List.length_map,r.len,List.length_take];omega⟩) (fun j v us H5 hv ⟨s5,as,e,r⟩=>?_) (fun us H5 ⟨s5,as,e,r⟩=>?_)
   ·obtain⟨a1,f,ea,rfl,ef,r1,t1,h1,h2,h3,h4⟩:=rfs.gt hv
    refine fD (kL.of (s5 _ _ h1)) rfl ?_
    walk_at "w"
    intro TT nTT
    obtain⟨H6,i6,s6,g6⟩:=nw _ nTT;rw[i6]
    refine⟨s5.trans s6,as ++ [TT],by rw[e,List.map_append];rfl,?_⟩
    rw[cJ ef]
    exact RL.snoc (r.imp fun _ _ z=>z.same s6) ⟨r1,g6,(s5.trans s6) _ _ h2⟩
   ·rw[List.length_map,lfs,List.take_length] at r
    intro l nl
    obtain⟨H6,i6,s6,g6⟩:=nw _ nl;rw[i6]
    walk_at "w"
    exact k l as H6 (s'.trans (s5.trans s6)) (by rw[g6,e]) (r.imp fun _ _ z=>z.same s6)
theorem fG{H:Hp}{p e:Addr}{qs:List Addr}(hh:bB H p)(g:H e=some (.lst (qs.map V.ref))):e≠p:=fun z=>by
 obtain⟨d,c,q,ms,hp,_⟩:=hh.ex
 rw[z,hp] at g
 cases qs with
 |nil=>cases g
 |cons a r=>cases g
theorem pD.keep{H H':Hp}{p t:Addr}{rows:List (List WP)}(h:pD H t rows)(hh:bB H p)(k:bS p H H'):pD H' t rows:=by
 obtain⟨es,gt,re⟩:=h.ex
 refine⟨es,k _ _ gt (fG hh gt),re.imp fun e row ⟨qs,g,rq⟩=>⟨qs,k _ _ g (fG hh g),rq.imp fun q p' ⟨b,z1,z2⟩=>⟨b,k _ _ z1 fun y=>hh.mI _ (by rw[<-y];exact z1),k _ _ z2 fun y=>hh.mI _ (by rw[<-y];exact z2)⟩⟩⟩
theorem bB.xG{H H':Hp}{p l:Addr}{qs:List Addr}(h:bB H p)(g:H l=some (.lst (qs.map V.ref)))(k:bS l H H'):bB H' p:=by
 obtain⟨d,c,q,ms,hp,hq,hne,hqp⟩:=h.ex
 refine⟨⟨d,c,q,ms,k _ _ hp (Ne.symm (fG h g)),k _ _ hq (fun z=>?_),hne,hqp⟩⟩
 rw[z,g] at hq
 cases qs with
 |nil=>cases ms with
  |nil=>exact hne rfl
  |cons _ _=>cases hq
 |cons _ _=>cases ms with
  |nil=>cases hq
  |cons _ _=>cases hq
theorem zW.xG{H H':Hp}{q l:Addr}{p:WP}{xs:List V}(h:zW H q p)(g:H l=some (.lst xs))(k:bS l H H'):zW H' q p:=by
 obtain⟨b,z1,z2⟩:=h
 exact⟨b,k _ _ z1 (fun y=>by rw[y,g] at z1;cases z1),k _ _ z2 (fun y=>by rw[y,g] at z2;cases z2)⟩
theorem mE.xG{H H':Hp}{e l:Addr}{row:List WP}{xs:List V}(h:mE H e row)(ne:e≠l)(g:H l=some (.lst xs))(k:bS l H H'):mE H' e row:=by
 obtain⟨qs,a,r⟩:=h
 exact⟨qs,k _ _ a ne,r.imp fun _ _ z=>z.xG g k⟩
structure iA(m:MS)(st:Int×Int)(n:Nat)(rows:List (List WP)):Prop where
 len:rows.length=n+1
 at_:∀(i:Nat) row,rows[i]?=some row->(row.map (·.1)).Nodup/\∀s,s∈row.map (·.1)↔Rc m st i s
theorem Rc.some{m:MS}(g:m.Good){a:Int×Int}(h:St1 m a):∀n:Nat,∃s,Rc m a n s
 |0=>⟨a,rfl⟩
 |n+1=>by
  obtain⟨s,hs⟩:=Rc.some g h n
  exact⟨_,s,hs,s.1,(Rc.st g h hs).1.1,.inl rfl,rfl⟩
theorem iA.vO{m:MS}{st:Int×Int}{n:Nat}{rows:List (List WP)}(T:iA m st n rows)(g:m.Good)(h:St1 m st){i:Nat}{row:List WP}(e:rows[i]?=some row):row.length<=25/\row≠[]/\∀p∈row,St0 p.1.1 p.1.2:=by
 obtain⟨a,b⟩:=T.at_ i row e
 refine⟨?_,fun z=>?_,fun p hp=>(Rc.st g h ((b p.1).mp (List.mem_map.mpr ⟨p,hp,rfl⟩))).1⟩
 ·have:=Rc.vO g h a fun k hk=>(b k).mp hk
  rw[List.length_map] at this
  exact this
 ·obtain⟨s,hs⟩:=Rc.some g h i
  have:=(b s).mpr hs
  rw[z] at this
  cases this
theorem iA.row{m:MS}{st:Int×Int}{n:Nat}{rows:List (List WP)}(T:iA m st n rows)(g:m.Good)(h:St1 m st){row:List WP}(e:row∈rows):row.length<=1000/\∀p∈row,St0 p.1.1 p.1.2:=by
 obtain⟨i,ei⟩:=List.getElem?_of_mem e
 have:=T.vO g h ei
 exact⟨by omega,this.2.2⟩
theorem aHE(ps:List (Int×Int))(f:Int×Int->Int):(vN ps f).map (·.1)=ps:=by
 unfold vN
 rw[List.map_map]
 exact List.map_id ps
theorem aFa{m:MS}{st:Int×Int}{ps:List Int}{Ls:List (List (Int×Int))}(hR:aDO m st Ls)(hl:Ls.length=ps.length+1):iA m st ps.length (tbS m ps Ls):=by
 refine⟨by rw[aDV,hl],fun i row e=>?_⟩
 obtain⟨qs,eq,rfl⟩:=aMj e
 obtain⟨a,b⟩:=hR.at_ i qs eq
 rw[aHE]
 exact⟨aDP a,b⟩
theorem aFb{ps:List WP}{k:Int×Int}{v:Int}(h:eR ps k=some v):(k,v)∈ps:=by
 unfold eR at h
 obtain⟨p,hp,rfl⟩:=Option.map_eq_some_iff.mp h
 have:=of_decide_eq_true (List.find?_some (p:=fun p:WP=>decide (p.1=k)) hp)
 rw[<-this]
 exact List.mem_of_find?_eq_some hp
theorem aHF{ps:List WP}{k:Int×Int}(h:k∈ps.map (·.1)):∃v,eR ps k=some v:=by
 obtain⟨p,hp,e⟩:=List.mem_map.mp h
 unfold eR
 cases q:ps.find? fun p=>decide (p.1=k) with
 |none=>
  rw[List.find?_eq_none] at q
  exact absurd (decide_eq_true e) (q p hp)
 |some x=>exact⟨x.2,rfl⟩
theorem aHG{W:Nat->Int×Int->List (Wy (Int×Int))}{x:Int×Int}{n:Nat}{rows:List (List WP)}{num:Int}(hne:∀(i:Nat) row p,rows[i]?=some row->i < n->p∈row->W i p.1≠[])(h:uF W x n rows num=true):num<=wF W n 0 x:=by
 unfold uF at h
 rw[Bool.and_eq_true,Bool.and_eq_true,Bool.and_eq_true,Bool.and_eq_true] at h
 obtain⟨h1,_,h3,h4,h5⟩:=h
 have hl:=of_decide_eq_true h1
 have gd:∀i,i<=n->∃row,rows[i]?=some row/\rows.getD i []=row:=fun i hi=>⟨rows[i]'(by omega),List.getElem?_eq_getElem (by omega),by rw[List.getD_eq_getElem?_getD,List.getElem?_eq_getElem (by omega)];rfl⟩
 have key:∀k i,i+k=n->∀p∈rows.getD i [],p.2<=wF W k i p.1:=fun k=>by
  induction k with
  |zero=>
   intro i hi p hp
   have e:i=n:=by omega
   subst e
   rw[Bool.not_eq_true',List.any_eq_false] at h4
   have:=h4 p hp
   show p.2<=0
   simpa using this
  |succ k ih=>
   intro i hi p hp
   obtain⟨row,er,eg⟩:=gd i (by omega)
   have z:=List.all_eq_true.mp h5 i (List.mem_range.mpr (by omega))
   have z2:=List.all_eq_true.mp z p hp
   show p.2<=dY (wF W k (i+1)) (W i p.1)
   obtain⟨w,hw,e⟩:=m6 (wF W k (i+1)) (hne i row p er (by omega) (by rw[<-eg];exact hp))
   rw[<-e]
   have z3:=List.all_eq_true.mp z2 w hw
   cases q:eR (rows.getD (i+1) []) w.2.1 with
   |none=>rw[q] at z3;cases z3
   |some g=>
    rw[q] at z3
    have a1:=of_decide_eq_true z3
    have a2:=ih (i+1) (by omega) _ (aFb q)
    have a3:g<=wF W k (i+1) w.2.1:=a2
    omega
 have:=key n 0 (by omega) _ (aFb (of_decide_eq_true h3))
 exact this
def tM(c:Int)(row:List WP):List WP:=row.map fun p=>(p.1,p.2 - c)
theorem aHH(c:Int)(row:List WP):(tM c row).map (·.1)=row.map (·.1):=by
 unfold tM
 rw[List.map_map]
 rfl
theorem aFc(c:Int)(k:Int×Int):∀row:List WP,eR (tM c row) k=(eR row k).map (·- c)
 |[]=>rfl
 |p::r=>by
  unfold eR tM
  rw[List.map_cons,List.find?_cons,List.find?_cons]
  by_cases e:p.1=k
  ·rw[decide_eq_true (show(p.1,p.2 - c).1=k from e)];rfl
  ·rw[decide_eq_false (show ¬(p.1,p.2 - c).1=k from e)]
   exact aFc c k r
structure aCe(rows rows':List (List WP)):Prop where
 len:rows'.length=rows.length
 ex:∃c:Nat->Int,(∀i,i < rows.length->0<=c i)/\(∀i,i+1 < rows.length->c (i+1)<=c i)/\∀(i:Nat) row,rows[i]?=some row->rows'[i]?=some (tM (c i) row)
theorem aCe.good{m:MS}{st:Int×Int}{n:Nat}{rows rows':List (List WP)}(L:aCe rows rows')(T:iA m st n rows):iA m st n rows':=by
 refine⟨by rw[L.len,T.len],fun i row' e=>?_⟩
 have hi:i < rows.length:=by rw[<-L.len];exact(List.getElem?_eq_some_iff.mp e).1
 obtain⟨c,_,_,h⟩:=L.ex
 rw[h i _ (List.getElem?_eq_getElem hi)] at e
 cases e
 rw[aHH]
 exact T.at_ i _ (List.getElem?_eq_getElem hi)
theorem aCe.aM9{W:Nat->Int×Int->List (Wy (Int×Int))}{x:Int×Int}{n:Nat}{rows rows':List (List WP)}{num num':Int}(L:aCe rows rows')(hk:∀row∈rows',qX row=true)(h:uF W x n rows num=true)(hn:eR (rows'.getD 0 []) x=some num'):uF W x n rows' num'=true:=by
 unfold uF at h ⊢
 rw[Bool.and_eq_true,Bool.and_eq_true,Bool.and_eq_true,Bool.and_eq_true] at h ⊢
 obtain⟨h1,_,_,h4,h5⟩:=h
 have hl:=of_decide_eq_true h1
 obtain⟨c,c0,c1,hc⟩:=L.ex
 have gd:∀i,i<=n->rows'.getD i []=tM (c i) (rows.getD i []):=fun i hi=>by
  have e:=List.getElem?_eq_getElem (show i < rows.length by omega)
  rw[List.getD_eq_getElem?_getD,List.getD_eq_getElem?_getD,hc i _ e,e]
  rfl
 refine⟨decide_eq_true (by rw[L.len,hl]),List.all_eq_true.mpr hk,decide_eq_true hn,?_,List.all_eq_true.mpr fun i hi=>?_⟩
 ·rw[gd n (Nat.le_refl _),Bool.not_eq_true',List.any_eq_false]
  intro p hp
  obtain⟨p',hp',rfl⟩:=List.mem_map.mp hp
  rw[Bool.not_eq_true',List.any_eq_false] at h4
  have z:=h4 p' hp'
  have z2:=c0 n (by omega)
  have z3:¬p'.2 > 0:=by simpa using z
  show ¬decide (p'.2 - c n > 0)=true
  rw[decide_eq_true_eq]
  omega
 ·have li:i < n:=List.mem_range.mp hi
  have z:=List.all_eq_true.mp h5 i hi
  have cc:=c1 i (by omega)
  rw[gd i (by omega),gd (i+1) (by omega)]
  refine List.all_eq_true.mpr fun p hp=>?_
  obtain⟨p',hp',rfl⟩:=List.mem_map.mp hp
  have z2:=List.all_eq_true.mp z p' hp'
  refine List.all_eq_true.mpr fun w hw=>?_
  have z3:=List.all_eq_true.mp z2 w hw
  rw[aFc]
  cases q:eR (rows.getD (i+1) []) w.2.1 with
  |none=>rw[q] at z3;cases z3
  |some g=>
   rw[q] at z3
   have a1:=of_decide_eq_true z3
   show decide (p'.2 - c i<=w.2.2+(g - c (i+1)))=true
   rw[decide_eq_true_eq]
   omega
theorem aCe.refl(rows:List (List WP)):aCe rows rows:=⟨rfl,fun _=>0,fun _ _=>Int.le_refl _,fun _ _=>Int.le_refl _,fun i row e=>by
 rw[e]
 congr 1
 unfold tM
 conv=>lhs;rw[<-List.map_id row]
 refine List.map_congr_left fun p _=>?_
 show p=(p.1,p.2 - 0)
 rw[Int.sub_zero]⟩
theorem aHI{m:MS}(g:m.Good){st:Int×Int}(h:St1 m st){ps:List Int}{Ls:List (List (Int×Int))}(hR:aDO m st Ls)(hl:Ls.length=ps.length+1):uF (Wr m ps) st ps.length (tbS m ps Ls) (rwF m ps st)=true/\eR ((tbS m ps Ls).getD 0 []) st=some (rwF m ps st):=by
 have at_:∀i,i<=ps.length->∃qs,Ls[i]?=some qs:=fun i hi=>⟨Ls[i]'(by omega),List.getElem?_eq_getElem (by omega)⟩
 have gD:∀i qs,Ls[i]?=some qs->(tbS m ps Ls).getD i []=vN qs (wF (Wr m ps) (ps.length - i) i):=fun i qs e=>by
  rw[List.getD_eq_getElem?_getD,aF9 e,hl,Nat.add_sub_cancel]
  rfl
 have T:=aFa hR hl
 have w0:eR ((tbS m ps Ls).getD 0 []) st=some (rwF m ps st):=by
  obtain⟨qs,e⟩:=at_ 0 (Nat.zero_le _)
  rw[gD 0 qs e,aE1 (((hR.at_ 0 qs e).2 st).mpr rfl)]
  rfl
 refine⟨?_,w0⟩
 unfold uF
 rw[Bool.and_eq_true,Bool.and_eq_true,Bool.and_eq_true,Bool.and_eq_true]
 refine⟨decide_eq_true T.len,List.all_eq_true.mpr fun row hrow=>?_,decide_eq_true w0,?_,List.all_eq_true.mpr fun i hi=>?_⟩
 ·obtain⟨i,ei⟩:=List.getElem?_of_mem hrow
  exact yJ (T.at_ i row ei).1
 ·obtain⟨qs,e⟩:=at_ ps.length (Nat.le_refl _)
  rw[gD _ qs e,Nat.sub_self,Bool.not_eq_true',List.any_eq_false]
  intro p hp
  obtain⟨y,_,rfl⟩:=List.mem_map.mp hp
  show ¬decide ((0:Int) > 0)=true
  decide
 ·have li:i < ps.length:=List.mem_range.mp hi
  obtain⟨qs,e⟩:=at_ i (by omega)
  obtain⟨rs,e2⟩:=at_ (i+1) (by omega)
  rw[gD i qs e,gD (i+1) rs e2]
  refine List.all_eq_true.mpr fun p hp=>?_
  obtain⟨y,hy,rfl⟩:=List.mem_map.mp hp
  refine List.all_eq_true.mpr fun w hw=>?_
  have hin:w.2.1∈rs:=by
   obtain⟨on,b,may,rfl⟩:=w6.mp hw
   exact((hR.at_ (i+1) rs e2).2 _).mpr ⟨y,((hR.at_ i qs e).2 y).mp hy,on,b,may,rfl⟩
  rw[aE1 hin]
  refine decide_eq_true ?_
  obtain⟨k,hk⟩ : ∃k,ps.length - i=k+1:=⟨ps.length - i - 1,by omega⟩
  rw[hk,show ps.length - (i+1)=k by omega]
  exact uA (wF (Wr m ps) k (i+1)) hw
theorem RL.rev{α:Type}{P:Addr->α->Prop}{as:List Addr}{xs:List α}(h:RL P as xs):RL P as.reverse xs.reverse:=by
 have hl:=h.len
 refine⟨by rw[List.length_reverse,List.length_reverse,hl],fun j a x h1 h2=>?_⟩
 have hj:j < as.length:=by have:=(List.getElem?_eq_some_iff.mp h1).1;simpa using this
 rw[List.getElem?_reverse hj] at h1
 rw[List.getElem?_reverse (by omega)] at h2
 exact h.at_ (as.length - 1 - j) a x h1 (by rw[hl];exact h2)
def aBw(K:W.Frag):Sp:=fun vs H Q _=>∃(tb b:Addr) (m:MS) (st:Int×Int) (n:Nat) (rows:List (List WP)),vs=[.ref tb,.ref b]/\pD H tb rows/\m.Good/\St1 m st/\iA m st n rows/\H b=some (.tup [.int st.1,.int st.2])/\
 ∀v H',aI H H'->eR (rows.getD 0 []) st=some v->Q (.int v) H'
theorem tN{P:Program}{w:World}{K:PySem.W.Frag}{mg:Str->Option Value}{base:Heap}{a:kW}(tx:Txt K mg a):bO P w K mg base iB 1 a.jX a.jY ["_law_table","_law_state_here"] (aBw K):=by
 refine tx.gM.ok aA5 (fun vs H Q E h=>?_) (fun cdv A outer s H vs Q E hr h=>?_)
 ·obtain⟨tb,b,m,st,n,rows,rfl,_⟩:=h
  rfl
 ·obtain⟨tb,b,m,st,n,rows,rfl ,ht,hg,hst,hT,hb,k⟩:=h
  have hu:=kZ hr
  refine Z.root (Z.aG (Z.aV (Z.rQ hu (Z.eC (rc:=aDm) (aA0 rfl hu) (by rfl) tx.vJ aGo (Z.aE (Z.aL (K':=K) (Z.pv 0) Z.aA (fun _ _=>rfl)) Z.aC)) (Z.pv 1)))) ?_
  obtain⟨es,gt,re⟩:=ht.ex
  have les:=re.len
  have hl:=hT.len
  have e0:es[0]?=some es[0]:=List.getElem?_eq_getElem (by omega)
  have r0:rows[0]?=some rows[0]:=List.getElem?_eq_getElem (by omega)
  obtain⟨qs,gq,rq⟩:=re.at_ 0 _ _ e0 r0
  have f0:=hT.vO hg hst r0
  obtain⟨nd0,hm0⟩:=hT.at_ 0 _ r0
  have eg:rows.getD 0 []=rows[0]:=by rw[List.getD_eq_getElem?_getD,r0];rfl
  rw[eg] at k
  generalize es[0]=e1 at e0 gq
  generalize rows[0]=row at r0 rq f0 nd0 hm0 k
  obtain⟨v,hv⟩:=aHF ((hm0 st).mpr rfl)
  have ix:uH (es.map V.ref) 0=some (.ref e1):=dM (j:=0) (kS e0)
  have lq:=rq.len
  refine aR (σ:=[some (.ref tb),some (.ref b)]) rfl ?_
  walk_at "w"
  refine aED gq (aCR rq) (by omega) fun p np=>?_
  rw[aCQ (yJ nd0)]
  obtain⟨H2,i2,s2,g2⟩:=nw _ np;rw[i2]
  have hg2:=kE.t (k:=jK st) g2 (show H2 b=some (.tup ((jK st).map kV)) from s2 _ _ hb)
  rw[aAl,hv] at hg2
  walk_at "w"
  refine⟨p,_,rfl,hg2,?_⟩
  exact k v H2 s2 hv
def zX(K:W.Frag):Sp:=fun vs H Q _=>∃(p tb b:Addr) (x y:Int) (m:MS) (st:Int×Int) (n:Nat) (rows:List (List WP)),vs=[.ref p,.ref tb,.ref b]/\bB H p/\pD H tb rows/\m.Good/\St1 m st/\iA m st n rows/\n<=48/\H b=some (.lst [.int x,.int y])/\1<=y/\y<=50000000000/\
 ∀t' rows' H',pD H' t' rows'->aCe rows rows'->bB H' p->bS p H H'->Q (.ref t') H'
theorem zY{P:Program}{w:World}{K:PySem.W.Frag}{mg:Str->Option Value}{base:Heap}{a:kW}(tx:Txt K mg a):bO P w K mg base iB 2 a.iU a.iV ["_law_hand","_law_table","_law_by"] (zX K):=by
 have aK:=cU (P:=P) (w:=w) (base:=base) tx
 refine tx.mT.ok eQ (fun vs H Q E h=>?_) (fun cdv A outer s H vs Q E hr h=>?_)
 ·obtain⟨p,tb,b,x,y,m,st,n,rows,rfl,_⟩:=h
  rfl
 ·obtain⟨p,tb,b,x,y,m,st,n,rows,rfl ,hh,ht,hg,hst,hT,hn,hb,y0,y1,k⟩:=h
  have hu:=kZ hr
  refine Z.root (Z.aD (Z.aS (i:=3) eQ.nd rfl (Or.inr rfl) Z.aA)
   (Z.aD (Z.aS (i:=4) eQ.nd rfl (Or.inl rfl) (Z.gG Z.aC))
   (Z.aD (Z.cS PassesOwn.never rfl (Z.bQ (K':=K) (Z.aC9 (K':=K) (Z.pv 1) (Z.m8 (Z.yO xO Z.aA)))) (Z.aM (i:=5) eQ.nd rfl (Or.inl rfl)) (Z.aD (Z.aAs (i:=3) eQ.nd rfl (Or.inr rfl) (Z.aT bK (Z.aT bV (Z.aL (K':=K) (Z.pv 2) Z.aA (fun _ _=>rfl)) (Z.aF (aK) (hr.mono (by decide)) (by rfl) tx.aQ tx.aO.kp tx.aP .nil aU (Z.aE (Z.pv 0) (Z.aE Z.aA Z.aC)))) (Z.aF (aK) (hr.mono (by decide)) (by rfl) tx.aQ tx.aO.kp tx.aP .nil aU (Z.aE (Z.pv 0) (Z.aE Z.aA Z.aC)))) aCY)
   (Z.aG (Z.iC (Z.nB (K':=K) (Z.pv 4) (Z.aE (Z.cO (k:=2) (idx:=[3]) (N:=["_law_one","_law_worth","_law_less"]) (cF (sc:=aB dA) (NX:=["_law_hand","_law_table","_law_by","_law_less","_law_lowered_here","_law_entries"]) rfl rfl rfl (by decide +kernel)) rfl (Z.bQ (K':=K) (Z.pv 5)) (fun _ _ _ _=>(Z.fE (K':=K) (n:=2) rfl (Z.bA (Z.aM (i:=0) (show(["_law_one","_law_worth","_law_less"]:List Str).Nodup by decide +kernel) rfl (Or.inl rfl)) (Z.bA (Z.aM (i:=1) (show(["_law_one","_law_worth","_law_less"]:List Str).Nodup by decide +kernel) rfl (Or.inl rfl)) Z.dJ)))) (nA (bP (by decide) (bP (by decide) kG))) (fun _ _ _ _=>Z.cG) (fun _ _ _ _=>(Z.rE (Z.pv 0) (Z.aT gF (Z.pv 1) (Z.pv 2))))) Z.aC))))))
   (Z.aG (Z.aV (Z.aC9 (K':=K) (Z.pv 4) (Z.m8 (Z.yO xO Z.aA)))))))) ?_
  obtain⟨es,gt,re⟩:=ht.ex
  have les:=re.len
  have hl:=hT.len
  have bp:b≠p:=hh.aHz hb (by simp)
  refine aR (σ:=[some (.ref p),some (.ref tb),some (.ref b),none,none,none]) rfl ?_
  walk_at "w"
  intro lw nlw
  obtain⟨H1,i1,s1,g1⟩:=nw _ nlw;rw[i1]
  walk_at "w"
  refine⟨rfl,tb,_,rfl,bG.of (s1 _ _ gt),fun lr nlr=>?_⟩
  obtain⟨H2,i2,s2,g2⟩:=nw _ nlr;rw[i2]
  rw[<-List.map_reverse] at g2
  have S2:=s1.trans s2
  have g12:=s2 _ _ g1
  have K2:bS p H H2:=S2.keep
  have rr:RL (mE H2) es.reverse rows.reverse:=(re.imp fun _ _ z=>z.same S2).rev
  have lrr:=rr.len
  rw[List.length_reverse,List.length_reverse] at lrr
  have hh2:=hh.same S2
  have nlwH:H lw=none:=nlw
  refine fH (bG.of g2) ?_
  refine tU (xs:=es.reverse.map V.ref) (fun j σ' H'=>∃(less:Int) (ls:List Addr) (ds:List Int) (z5:Option V),σ'=[some (.ref p),some (.ref tb),some (.ref b),some (.int less),some (.ref lw),z5]/\H' lw=some (.lst (ls.map V.ref))/\RL (fun e row=>mE H' e row/\e≠lw) ls (List.zipWith tM ds (rows.reverse.take j))/\ds.length=j/\(∀d∈ds,0<=d/\d<=less)/\ds.Pairwise (·<=·)/\0<=less/\bB H' p/\bS p H H'/\H' lr=some (.lst (es.reverse.map V.ref)))
   ⟨0,[],[],_,rfl,g12,RL.nil,rfl,(fun d hd=>by cases hd),List.Pairwise.nil,Int.le_refl _,hh2,K2,g2⟩ (fun j σ' H' hj ⟨_,_,_,_,_,_,_,_,_,_,_,_,_,h⟩=>bG.of h) (fun j v σ' H3 hv ⟨less,ls,ds,z5,e,gl,rl,ld,hd,pd,l0,h3,K3,gr⟩=>?_) (fun σ' H3 ⟨less,ls,ds,z5,e,gl,rl,ld,hd,pd,l0,h3,K3,gr⟩=>?_)
  ·subst e
   obtain⟨e1,row,ee,rfl,er,_⟩:=rr.gt hv
   have hj:j < rows.length:=by have:=(List.getElem?_eq_some_iff.mp er).1;simpa using this
   have lsl:ls.length<=49:=by rw[rl.len,List.length_zipWith,List.length_take,List.length_reverse];omega
   have gb3:=K3 _ _ hb bp
   walk_at "w"
   refine aFv rfl ?_
   walk_at "w"
   refine⟨p,_,rfl,h3,by decide,by decide,fun r1 H4 a4 b4 h4 k4 _=>?_⟩
   walk_at "w"
   refine⟨p,_,rfl,h4,by decide,by decide,fun r2 H5 a5 b5 h5 k5 _=>?_⟩
   have K35:=k4.trans k5
   have K5:=K3.trans K35
   have gl5:H5 lw=some (.lst (ls.map V.ref)):=K35 _ _ gl (fG h3 gl)
   have gr5:H5 lr=some (.lst (es.reverse.map V.ref)):=K35 _ _ gr (fG h3 gr)
   have gb5:=K5 _ _ hb bp
   have rl5:RL (fun e row=>mE H5 e row/\e≠lw) ls (List.zipWith tM ds (rows.reverse.take j)):=rl.imp fun e row ⟨⟨qs,z1,z2⟩,z3⟩=>⟨⟨qs,K35 _ _ z1 (fG h3 z1),z2.imp fun q p' ⟨b,y1,y2⟩=>⟨b,K35 _ _ y1 fun y=>h3.mI _ (by rw[<-y];exact y1),K35 _ _ y2 fun y=>h3.mI _ (by rw[<-y];exact y2)⟩⟩,z3⟩
   have pos:0<=y*r1:=Int.mul_nonneg (by omega) a4
   obtain⟨less',hless',hge⟩ : ∃l':Int,less+(y*r1+r2)=l'/\less<=l':=⟨_,rfl,by omega⟩
   have rS5:mE H5 e1 row:=by
    obtain⟨es5,gt5,re5⟩:=(ht.keep hh K5).ex
    have ee5:es5=es:=by
     have a1:=K5 _ _ gt (fG hh gt)
     rw[gt5] at a1
     injection a1 with a1
     injection a1 with a1
     exact(List.map_inj_right (fun x y h=>by injection h)).mp a1
    rw[ee5] at re5
    exact re5.rev.at_ j e1 row ee er
   obtain⟨qs,gq,rq⟩:=rS5
   have frow:row.length<=25:=by
    obtain⟨i,ei⟩:=List.getElem?_of_mem (List.mem_reverse.mp (List.mem_of_getElem? er))
    exact(hT.vO hg hst ei).1
   have lq:=rq.len
   walk_at "w"
   rw[hless']
   walk_at "w"
   refine oK (bG.of gl5) ?_
   walk_at "w"
   refine fH (bG.of gq) ?_
   refine cB (xs:=qs.map V.ref) (fun i us H'=>aI H5 H'/\∃qs':List Addr,us=qs'.map V.ref/\RL (zW H') qs' ((tM less' row).take i)) ⟨aI.refl _,[],rfl,RL.nil⟩ (bX (by rw[List.length_map];omega))
    (fun i us H' hi ⟨s',qs',e,r⟩=>⟨bG.of (s' _ _ gq),by rw[e,List.length_map,r.len,List.length_take];omega⟩) (fun i v us H' hv ⟨s',qs',e,r⟩=>?_) (fun us H6 ⟨s6,qs',e,r⟩=>?_)
   ·obtain⟨q1,w,eq1,rfl,ew,b1,y1,y2⟩:=rq.gt hv
    refine fD (kL.of (s' _ _ y1)) rfl ?_
    walk_at "w"
    intro T nT
    obtain⟨H7,i7,s7,g7⟩:=nw _ nT;rw[i7]
    refine⟨s'.trans s7,qs' ++ [T],by rw[e,List.map_append];rfl,?_⟩
    rw[cJ (show(tM less' row)[i]?=some (w.1,w.2 - less') by unfold tM;rw[List.getElem?_map,ew];rfl)]
    exact RL.snoc (r.imp fun _ _ z=>z.same s7) ⟨b1,g7,s7 _ _ (s' _ _ y2)⟩
   subst e
   rw[List.length_map,lq,show row.length=(tM less' row).length by unfold tM;rw[List.length_map],List.take_length] at r
   intro ln nln
   obtain⟨H7,i7,s7,g7⟩:=nw _ nln;rw[i7]
   have s57:=s6.trans s7
   have gl7:=s57 _ _ gl5
   have lnl:ln≠lw:=fun z=>by rw[z,s6 _ _ gl5] at nln;cases nln
   walk_at "w"
   refine rO (xs:=ls.map V.ref) gl7 (Nat.lt_of_lt_of_le (by rw[List.length_map];omega:(ls.map V.ref).length < 20000) (bX (by decide))) ?_
   obtain⟨H8,i8,k8,g8⟩:=wr H7 lw _;rw[i8]
   walk_at "w"
   refine⟨less',ls ++ [ln],ds ++ [less'],_,rfl,by rw[g8,List.map_append];rfl,?_,by rw[List.length_append,ld];rfl,fun d hd'=>?_,?_,by omega,(h5.same s57).xG gl7 k8,fun b o e ne=>k8 _ _ (s57 _ _ (K5 _ _ e ne)) (bE nlwH e),k8 _ _ (s57 _ _ gr5) (fun z=>by rw[z] at nlr;rw[g1] at nlr;cases nlr)⟩
   ·rw[cJ er,List.zipWith_append (by rw[ld,List.length_take,List.length_reverse];omega)]
    refine RL.snoc (rl5.imp fun e row ⟨z1,z2⟩=>⟨(z1.same s57).xG z2 gl7 k8,z2⟩) ⟨⟨qs',k8 _ _ g7 lnl,(r.imp fun _ _ z=>(z.same s7).xG gl7 k8)⟩,lnl⟩
   ·rcases List.mem_append.mp hd' with z|z
    ·have:=hd d z;omega
    ·rw[List.mem_singleton.mp z];omega
   ·refine List.pairwise_append.mpr ⟨pd,List.pairwise_singleton _ _,fun a ha b hb=>?_⟩
    rw[List.mem_singleton.mp hb]
    have:=hd a ha
    omega
  ·subst e
   rw[List.length_map,List.length_reverse,les] at ld
   rw[List.length_map,List.length_reverse,les,show rows.length=rows.reverse.length by rw[List.length_reverse],List.take_length] at rl
   walk_at "w"
   refine⟨rfl,lw,_,rfl,bG.of gl,fun t' nt'=>?_⟩
   obtain⟨H4,i4,s4,g4⟩:=nw _ nt';rw[i4]
   rw[<-List.map_reverse] at g4
   walk_at "w"
   refine k t' (List.zipWith tM ds rows.reverse).reverse H4 ⟨ls.reverse,g4,(rl.imp fun _ _ z=>z.1.same s4).rev⟩ ⟨by rw[List.length_reverse,List.length_zipWith,List.length_reverse];omega,fun i=>ds.getD (rows.length - 1 - i) 0,fun i hi=>?_,fun i hi=>?_,fun i row er=>?_⟩ (h3.same s4) (K3.trans s4.keep)
   ·have e:ds[rows.length - 1 - i]?=some ds[rows.length - 1 - i]:=List.getElem?_eq_getElem (by omega)
    show 0<=ds.getD _ 0
    rw[List.getD_eq_getElem?_getD,e]
    exact(hd _ (List.mem_of_getElem? e)).1
   ·show ds.getD (rows.length - 1 - (i+1)) 0<=ds.getD (rows.length - 1 - i) 0
    rw[List.getD_eq_getElem?_getD,List.getD_eq_getElem?_getD,List.getElem?_eq_getElem (show rows.length - 1 - (i+1) < ds.length by omega),List.getElem?_eq_getElem (show rows.length - 1 - i < ds.length by omega)]
    exact List.pairwise_iff_getElem.mp pd _ _ _ _ (by omega)
   ·have hi:i < rows.length:=(List.getElem?_eq_some_iff.mp er).1
    rw[List.getElem?_reverse (by rw[List.length_zipWith,List.length_reverse];omega),List.length_zipWith,List.length_reverse,ld,Nat.min_self,List.getElem?_zipWith,List.getElem?_eq_getElem (show rows.length - 1 - i < ds.length by omega),List.getElem?_reverse (by omega),show rows.length - 1 - (rows.length - 1 - i)=i by omega,er]
    show some (tM ds[rows.length - 1 - i] row)=some (tM (ds.getD (rows.length - 1 - i) 0) row)
    rw[List.getD_eq_getElem?_getD,List.getElem?_eq_getElem (show rows.length - 1 - i < ds.length by omega)]
    rfl
theorem RL.aNo{α:Type}{P:Addr->α->Prop}{as:List Addr}{xs:List α}(h:RL P as xs){j:Nat}{a:Addr}{x:α}(hp:P a x):RL P (as.set j a) (xs.set j x):=by
 refine⟨by rw[List.length_set,List.length_set];exact h.len,fun i b y h1 h2=>?_⟩
 by_cases e:i=j
 ·subst e
  have hi:i < as.length:=by
   have:=(List.getElem?_eq_some_iff.mp h1).1
   rwa[List.length_set] at this
  rw[List.getElem?_set_self hi] at h1
  rw[List.getElem?_set_self (by rw[<-h.len];exact hi)] at h2
  cases h1
  cases h2
  exact hp
 ·rw[List.getElem?_set_ne (fun z=>e z.symm)] at h1 h2
  exact h.at_ i b y h1 h2
theorem aHJ{H H':Hp}{fs:List Addr}{rows:List (List WP)}{j:Nat}{f:Addr}{xs:List V}{row':List WP}(r:RL (mE H) fs rows)(nd:fs.Nodup)(ef:fs[j]?=some f)(gf:H f=some (.lst xs))(k:bS f H H')(w:mE H' f row'):RL (mE H') fs (rows.set j row'):=by
 refine⟨by rw[List.length_set];exact r.len,fun i a x h1 h2=>?_⟩
 by_cases e:i=j
 ·subst e
  rw[ef] at h1
  cases h1
  have hi:i < rows.length:=by rw[<-r.len];exact(List.getElem?_eq_some_iff.mp ef).1
  rw[List.getElem?_set_self hi] at h2
  cases h2
  exact w
 ·rw[List.getElem?_set_ne (fun z=>e z.symm)] at h2
  have na:a≠f:=fun z=>e (by
   subst z
   obtain⟨i1,e1⟩:=List.getElem?_eq_some_iff.mp h1
   obtain⟨i2,e2⟩:=List.getElem?_eq_some_iff.mp ef
   exact(List.getElem_inj nd).mp (e1.trans e2.symm))
  exact(r.at_ i a x h1 h2).xG na gf k
theorem m7{H H':Hp}{p:Addr}{fs:List Addr}{rows:List (List WP)}(r:RL (mE H) fs rows)(hh:bB H p)(k:bS p H H'):RL (mE H') fs rows:=
 r.imp fun e row ⟨qs,g,rq⟩=>⟨qs,k _ _ g (fG hh g),rq.imp fun q p' ⟨b,z1,z2⟩=>⟨b,k _ _ z1 fun y=>hh.mI _ (by rw[<-y];exact z1),k _ _ z2 fun y=>hh.mI _ (by rw[<-y];exact z2)⟩⟩
theorem iA.put{m:MS}{st:Int×Int}{n:Nat}{rows:List (List WP)}(T:iA m st n rows){j k:Nat}{row:List WP}{w:WP}{v:Int}(er:rows[j]?=some row)(ew:row[k]?=some w):iA m st n (rows.set j (row.set k (w.1,v))):=by
 refine⟨by rw[List.length_set];exact T.len,fun i row' e=>?_⟩
 by_cases z:i=j
 ·subst z
  rw[List.getElem?_set_self (List.getElem?_eq_some_iff.mp er).1] at e
  cases e
  have:(row.set k (w.1,v)).map (·.1)=row.map (·.1):=by
   rw[List.map_set]
   refine List.ext_getElem? fun i=>?_
   by_cases y:k=i
   ·subst y
    rw[List.getElem?_set_self (by rw[List.length_map];exact(List.getElem?_eq_some_iff.mp ew).1),List.getElem?_map,ew]
    rfl
   ·rw[List.getElem?_set_ne y]
  rw[this]
  exact T.at_ i row er
 ·rw[List.getElem?_set_ne (fun y=>z y.symm)] at e
  exact T.at_ i row' e
theorem iA.turn{m:MS}{st:Int×Int}{n:Nat}{rows:List (List WP)}(T:iA m st n rows):iA m st n (rows.map List.reverse):=by
 refine⟨by rw[List.length_map];exact T.len,fun i row' e=>?_⟩
 rw[List.getElem?_map] at e
 obtain⟨row,er,rfl⟩:=Option.map_eq_some_iff.mp e
 obtain⟨a,b⟩:=T.at_ i row er
 rw[List.map_reverse]
 exact⟨List.pairwise_reverse.mpr (List.Pairwise.imp (fun h=>Ne.symm h) a),fun s=>by rw[List.mem_reverse];exact b s⟩
def xH(K:W.Frag):Sp:=fun vs H Q _=>∃(p t:Addr) (m:MS) (st:Int×Int) (n:Nat) (rows:List (List WP)),vs=[.ref p,.ref t]/\bB H p/\pD H t rows/\m.Good/\St1 m st/\iA m st n rows/\n<=48/\
 ∀t' rows' H',pD H' t' rows'->iA m st n rows'->bB H' p->bS p H H'->Q (.ref t') H'
theorem xI{P:Program}{w:World}{K:PySem.W.Frag}{mg:Str->Option Value}{base:Heap}{a:kW}(tx:Txt K mg a):bO P w K mg base iB 2 a.gC a.gE ["_law_hand","_law_table"] (xH K):=by
 have aK:=cU (P:=P) (w:=w) (base:=base) tx
 refine tx.jH.ok cQ (fun vs H Q E h=>?_) (fun cdv A outer s H vs Q E hr h=>?_)
 ·obtain⟨p,t,m,st,n,rows,rfl,_⟩:=h
  rfl
 ·obtain⟨p,t,m,st,n,rows,rfl ,hh,ht,hg,hst,hT,hn,k⟩:=h
  have hu:=kZ hr
  refine Z.root (Z.aD (Z.tQ (k:=1) (idx:=[]) (N:=["_law_entries"]) (i:=3) cQ.nd rfl (Or.inl rfl) (cF (sc:=aB cA) (NX:=["_law_hand","_law_table","_law_entries","_law_rows","_law_k","_law_at"]) rfl rfl rfl (by decide +kernel)) rfl (Z.bQ (K':=K) (Z.pv 1)) (fun _ _ _ _=>(Z.aM (i:=0) (show(["_law_entries"]:List Str).Nodup by decide +kernel) rfl (Or.inl rfl))) (dF (by decide)) (fun _ _ _ _=>Z.cG) (fun _ _ _ _=>(Z.eC (rc:=pN K) mN (by rfl) tx.kQ pM (Z.aE (Z.pv 0) Z.aC))))
   (Z.aD (Z.cS PassesOwn.never rfl (Z.cZ (by rfl) tx.dO (Z.aE (Z.aF (aK) (hr.mono (by decide)) (by rfl) tx.aQ tx.aO.kp tx.aP .nil aU (Z.aE (Z.pv 0) (Z.aE Z.aA Z.aC))) Z.aC)) (Z.aM (i:=4) cQ.nd rfl (Or.inl rfl)) (Z.aD (Z.aS (i:=2) cQ.nd rfl (Or.inl rfl) (Z.aL (K':=K) (Z.pv 3) (Z.aT iD (Z.aF (aK) (hr.mono (by decide)) (by rfl) tx.aQ tx.aO.kp tx.aP .nil aU (Z.aE (Z.pv 0) (Z.aE Z.aA Z.aC))) (Z.aN (rc:=oV K) bY (by rfl) tx.fP eZ (Z.aE (Z.pv 3) Z.aC))) (fun _ _=>rfl)))
   (Z.aD (Z.aS (i:=5) cQ.nd rfl (Or.inl rfl) (Z.aT iD (Z.aF (aK) (hr.mono (by decide)) (by rfl) tx.aQ tx.aO.kp tx.aP .nil aU (Z.aE (Z.pv 0) (Z.aE Z.aA Z.aC))) (Z.aN (rc:=oV K) bY (by rfl) tx.fP eZ (Z.aE (Z.pv 2) Z.aC))))
   (Z.aG (Z.aCW (Z.rE (Z.aL (K':=K) (Z.aL (K':=K) (Z.pv 2) (Z.pv 5) (fun _ _=>rfl)) Z.aA (fun _ _=>rfl)) (Z.aT gF (Z.aT bK (Z.aL (K':=K) (Z.aL (K':=K) (Z.pv 2) (Z.pv 5) (fun _ _=>rfl)) Z.aA (fun _ _=>rfl)) (Z.aF (aK) (hr.mono (by decide)) (by rfl) tx.aQ tx.aO.kp tx.aP .nil aU (Z.aE (Z.pv 0) (Z.aE Z.aA Z.aC)))) Z.aA)) (Z.aCV (Z.pv 2) (Z.pv 5) set_list))))))
   (Z.aD (Z.cK (Z.bH (r:=rD K) (gH hu) (Z.aF (aK) (hr.mono (by decide)) (by rfl) tx.aQ tx.aO.kp tx.aP .nil aU (Z.aE (Z.pv 0) (Z.aE Z.aA Z.aC))) Z.aA (bJ _)) (Z.aG (Z.tQ (k:=1) (idx:=[]) (N:=["_law_entries"]) (i:=3) cQ.nd rfl (Or.inl rfl) (cF (sc:=aB cA) (NX:=["_law_hand","_law_table","_law_entries","_law_rows","_law_k","_law_at"]) rfl rfl rfl (by decide +kernel)) rfl (Z.bQ (K':=K) (Z.pv 3)) (fun _ _ _ _=>(Z.aM (i:=0) (show(["_law_entries"]:List Str).Nodup by decide +kernel) rfl (Or.inl rfl))) (dF (by decide)) (fun _ _ _ _=>Z.cG) (fun _ _ _ _=>(Z.aC9 (K':=K) (Z.pv 0) (Z.m8 (Z.yO xO Z.aA)))))) Z.bF)
   (Z.aG (Z.aV (Z.pv 3)))))) ?_
  obtain⟨es,gt,re⟩:=ht.ex
  have les:=re.len
  have hl:=hT.len
  refine aR (σ:=[some (.ref p),some (.ref t),none,none,none,none]) rfl ?_
  walk_at "w"
  refine fH (bG.of gt) ?_
  refine cB (xs:=es.map V.ref) (fun j us H6=>aI H H6/\∃fs:List Addr,us=fs.map V.ref/\(∀f∈fs,H f=none)/\fs.Nodup/\RL (mE H6) fs (rows.take j)) ⟨aI.refl _,[],rfl,(fun f h=>by cases h),List.nodup_nil,RL.nil⟩ (bX (by rw[List.length_map];omega))
   (fun j us H6 hj ⟨s6,fs,e,_,_,r⟩=>⟨bG.of (s6 _ _ gt),by rw[e,List.length_map,r.len,List.length_take];omega⟩) (fun j v us H6 hv ⟨s6,fs,e,fn,fd,r⟩=>?_) (fun us H6 ⟨s6,fs,e,fn,fd,r⟩=>?_)
  ·obtain⟨e1,row,ee,rfl,er,qs,gq,rq⟩:=re.gt hv
   walk_at "w"
   refine rN (bG.of (s6 _ _ gq)) ?_
   intro c1 nc1
   obtain⟨H7,i7,s7,g7⟩:=nw _ nc1;rw[i7]
   refine⟨s6.trans s7,fs ++ [c1],by rw[e,List.map_append];rfl,fun f hf=>?_,?_,?_⟩
   ·rcases List.mem_append.mp hf with z|z
    ·exact fn f z
    ·rw[List.mem_singleton.mp z];exact s6.free nc1
   ·rw[List.nodup_append]
    refine⟨fd,by simp,fun a ha' c hc z=>?_⟩
    rw[List.mem_singleton.mp hc] at z
    subst z
    obtain⟨j2,ej⟩:=List.getElem?_of_mem ha'
    have lj:j2 < (rows.take j).length:=by rw[<-r.len];exact(List.getElem?_eq_some_iff.mp ej).1
    obtain⟨qs2,z2,_⟩:=r.at_ j2 a _ ej (List.getElem?_eq_getElem lj)
    rw[z2] at nc1
    cases nc1
   ·rw[cJ er]
    exact RL.snoc (r.imp fun _ _ z=>z.same s7) ⟨qs,g7,rq.imp fun _ _ z=>z.same (s6.trans s7)⟩
  rw[List.length_map,les,List.take_length] at r
  have lfs:=r.len
  intro t1 nt1
  obtain⟨H1,i1,s1,g1⟩:=nw _ nt1;rw[i1]
  have S1:=s6.trans s1
  have nt1H:H t1=none:=s6.free nt1
  have hfs:∀f∈fs,f≠t1:=fun f hf z=>by
   obtain⟨i,hi⟩:=List.getElem?_of_mem hf
   have hi':i < rows.length:=by rw[<-lfs];exact(List.getElem?_eq_some_iff.mp hi).1
   obtain⟨qs,g,_⟩:=r.at_ i f _ hi (List.getElem?_eq_getElem hi')
   rw[z,nt1] at g
   cases g
  have r1:RL (mE H1) fs rows:=r.imp fun _ _ z=>z.same s1
  rw[e] at g1
  walk_at "w"
  refine⟨p,_,rfl,hh.same S1,by decide,by decide,fun way H2 w0 w1 h2 k2 _=>?_⟩
  have g2:=k2 _ _ g1 (fG (hh.same S1) g1)
  have r2:=m7 r1 (hh.same S1) k2
  have K2:bS p H H2:=S1.keep.trans k2
  walk_at "w"
  refine⟨by omega,by omega,?_⟩
  refine kH (fun i σ' H'=>∃(rows':List (List WP)) (z2 z4 z5:Option V),σ'=[some (.ref p),some (.ref t),z2,some (.ref t1),z4,z5]/\H' t1=some (.lst (fs.map V.ref))/\RL (mE H') fs rows'/\iA m st n rows'/\bB H' p/\bS p H H')
   ⟨rows,_,_,_,rfl,g2,r2,hT,h2,K2⟩ (fun i σ' H3 hi ⟨rows',z2,z4,z5,e',g3,r3,T3,h3,K3⟩=>?_) (fun σ' H3 ⟨rows',z2,z4,z5,e',g3,r3,T3,h3,K3⟩=>?_)
  ·subst e'
   have hl3:=T3.len
   have lf3:=r3.len
   walk_at "w"
   refine⟨p,_,rfl,h3,by decide,by decide,fun ra H4 a4 b4 h4 k4 _=>?_⟩
   have g4:=k4 _ _ g3 (fG h3 g3)
   have r4:=m7 r3 h3 k4
   have K4:=K3.trans k4
   obtain⟨j,hj,ej⟩:=aDY (n:=rows'.length) a4 (by omega)
   have hl0:0 < (rows'.length:Int):=by omega
   have lfm:(fs.map V.ref).length=rows'.length:=by rw[List.length_map,lf3]
   have ef:fs[j]?=some fs[j]:=List.getElem?_eq_getElem (by omega)
   have er:rows'[j]?=some rows'[j]:=List.getElem?_eq_getElem hj
   have wj:=r4.at_ j _ _ ef er
   have hfn:=fn fs[j] (List.getElem_mem _)
   have nft:t1≠fs[j]:=Ne.symm (hfs _ (List.getElem_mem _))
   generalize fs[j]=f at ef wj hfn nft
   generalize hrw:rows'[j]=row at er wj
   obtain⟨qs,gq,rq⟩:=wj
   have frow:=T3.vO hg hst er
   have ix:uH (fs.map V.ref) (j:Int)=some (.ref f):=dM (kS ef)
   walk_at "w"
   rw[lfm,ej]
   refine aC7 (bG.of g4) ix ?_
   walk_at "w"
   refine⟨p,_,rfl,h4,by decide,by decide,fun rb H5 a5 b5 h5 k5 _=>?_⟩
   have lqs:=rq.len
   have rpos:0 < row.length:=List.length_pos_iff.mpr frow.2.1
   have nfp:f≠p:=fG h4 gq
   obtain⟨jk,hjk,ejk⟩:=aDY (n:=row.length) a5 rpos
   have gq5:=k5 _ _ gq nfp
   have g5:=k5 _ _ g4 (fG h4 g4)
   have r5:=m7 r4 h4 k5
   have K5:=K4.trans k5
   have hl1:0 < (row.length:Int):=by omega
   have lqm:(qs.map V.ref).length=row.length:=by rw[List.length_map];exact lqs
   have rq5:RL (zW H5) qs row:=rq.imp fun q p' ⟨b,z1,z2⟩=>⟨b,k5 _ _ z1 fun y=>h4.mI _ (by rw[<-y];exact z1),k5 _ _ z2 fun y=>h4.mI _ (by rw[<-y];exact z2)⟩
   have eqk:qs[jk]?=some (qs[jk]'(by rw[lqs];exact hjk)):=List.getElem?_eq_getElem (by rw[lqs];exact hjk)
   have erk:row[jk]?=some row[jk]:=List.getElem?_eq_getElem hjk
   have gk5:=rq5.at_ jk _ _ eqk erk
   generalize qs[jk]'(by rw[lqs];exact hjk)=qk at eqk gk5
   generalize row[jk]=ow at erk gk5
   obtain⟨bk,gk5,gk6⟩:=gk5
   have ixk:uH (qs.map V.ref) (jk:Int)=some (.ref qk):=dM (kS eqk)
   walk_at "w"
   rw[lqm,ejk]
   walk_at "w"
   refine⟨p,_,rfl,h5,by decide,by decide,fun rc H6' a6 b6 h6 k6 _=>?_⟩
   have gq6:=k6 _ _ gq5 nfp
   have g6:=k6 _ _ g5 (fG h5 g5)
   have r6:=m7 r5 h5 k6
   have K6:=K5.trans k6
   have gb6:=k6 _ _ gk6 (fun y=>h5.mI _ (by rw[<-y];exact gk6))
   have rq6:RL (zW H6') qs row:=rq5.imp fun q p' ⟨b,z1,z2⟩=>⟨b,k6 _ _ z1 fun y=>h5.mI _ (by rw[<-y];exact z1),k6 _ _ z2 fun y=>h5.mI _ (by rw[<-y];exact z2)⟩
   walk_at "w"
   intro T nT
   obtain⟨H7,i7,s7,g7⟩:=nw _ nT;rw[i7]
   have gq7:=s7 _ _ gq6
   have nTf:T≠f:=fun z=>by rw[z,gq6] at nT;cases nT
   walk_at "w"
   refine aC6 (j:=jk) gq7 (aKo (by rw[lqm];exact hjk)) ?_
   rw[<-List.map_set]
   obtain⟨H8,i8,k8,g8⟩:=wr H7 f _;rw[i8]
   have w8:mE H8 f (row.set jk (ow.1,ow.2+rc - 2)):=⟨_,g8,RL.aNo (rq6.imp fun q p z=>(z.same s7).xG gq7 k8) ⟨bk,k8 _ _ g7 nTf,k8 _ _ (s7 _ _ gb6) (fun z=>by rw[z,gq6] at gb6;cases gb6)⟩⟩
   walk_at "w"
   exact⟨_,_,_,_,rfl,k8 _ _ (s7 _ _ g6) nft,aHJ (r6.imp fun _ _ z=>z.same s7) fd ef gq7 k8 w8,T3.put er erk,(h6.same s7).xG gq7 k8,fun b o e ne=>k8 _ _ (s7 _ _ (K6 _ _ e ne)) (bE hfn e)⟩
  ·subst e'
   have hl3:=T3.len
   have lf3:=r3.len
   walk_at "w"
   refine⟨p,_,rfl,h3,by decide,by decide,fun ra H4 a4 b4 h4 k4 _=>?_⟩
   have g4:=k4 _ _ g3 (fG h3 g3)
   have r4:=m7 r3 h3 k4
   have K4:=K3.trans k4
   walk_at "w"
   refine cY (fun c0=>?_) (fun _=>?_)
   ·walk_at "w"
    refine fH (bG.of g4) ?_
    refine cB (xs:=fs.map V.ref) (fun j us H6=>aI H4 H6/\∃gs:List Addr,us=gs.map V.ref/\RL (mE H6) gs ((rows'.map List.reverse).take j)) ⟨aI.refl _,[],rfl,RL.nil⟩ (bX (by rw[List.length_map];omega))
     (fun j us H6 hj ⟨s6,gs,e,r⟩=>⟨bG.of (s6 _ _ g4),by rw[e,List.length_map,r.len,List.length_take,List.length_map];omega⟩) (fun j v us H6 hv ⟨s6,gs,e,r⟩=>?_) (fun us H6 ⟨s6,gs,e,r⟩=>?_)
    ·obtain⟨e1,row,ee,rfl,er,qs,gq,rq⟩:=r4.gt hv
     walk_at "w"
     refine⟨rfl,e1,_,rfl,bG.of (s6 _ _ gq),fun c1 nc1=>?_⟩
     obtain⟨H7,i7,s7,g7⟩:=nw _ nc1;rw[i7]
     rw[<-List.map_reverse] at g7
     refine⟨s6.trans s7,gs ++ [c1],by rw[e,List.map_append];rfl,?_⟩
     rw[cJ (show(rows'.map List.reverse)[j]?=some row.reverse by rw[List.getElem?_map,er];rfl)]
     exact RL.snoc (r.imp fun _ _ z=>z.same s7) ⟨qs.reverse,g7,(rq.imp fun _ _ z=>z.same (s6.trans s7)).rev⟩
    subst e
    rw[List.length_map,lf3,show rows'.length=(rows'.map List.reverse).length by rw[List.length_map],List.take_length] at r
    intro t2 nt2
    obtain⟨H7,i7,s7,g7⟩:=nw _ nt2;rw[i7]
    have s47:=s6.trans s7
    walk_at "w"
    exact k t2 _ H7 ⟨gs,g7,r.imp fun _ _ z=>z.same s7⟩ T3.turn (h4.same s47) (K4.trans s47.keep)
   ·walk_at "w"
    exact k t1 rows' H4 ⟨fs,g4,r4⟩ T3 h4 K4
theorem aHK{H:Hp}{fs es:List Addr}{rows:List (List WP)}(r:RL (fun f e=>∃qs:List Addr,H f=some (.lst (qs.map V.ref))/\H e=some (.lst (qs.map V.ref))) fs es)(re:RL (mE H) es rows):RL (mE H) fs rows:=by
 refine⟨r.len.trans re.len,fun j f row ef er=>?_⟩
 have hj:j < es.length:=by rw[<-r.len];exact(List.getElem?_eq_some_iff.mp ef).1
 have ee:=List.getElem?_eq_getElem hj
 obtain⟨qs,g1,g2⟩:=r.at_ j f _ ef ee
 obtain⟨qs',g3,r3⟩:=re.at_ j _ row ee er
 rw[g2] at g3
 injection g3 with g3
 injection g3 with g3
 have e:=(List.map_inj_right (fun x y h=>by injection h)).mp g3
 subst e
 exact⟨qs,g1,r3⟩
def aCf(K:W.Frag)(C t:Addr):Sp:=fun vs H Q _=>∃(x:Addr) (m:MS) (b:Addr) (st:Int×Int) (q tb:Addr) (ps:List Int) (rows:List (List WP)),vs=[.ref x,.ref b,.ref q,.ref tb,.int (wF (Wr m ps) ps.length 0 st)]/\H t=some (.ctb iX iY)/\bW C H x m/\m.Good/\H b=some (.tup [.int st.1,.int st.2])/\St1 m st/\H q=some (.lst (ps.map V.int))/\(∀n∈ps,Am n)/\ps.length<=48/\pD H tb rows/\iA m st ps.length rows/\
 ∀H',aI H H'->Q (.bl true) H'
theorem aCg{P:Program}{w:World}{K:PySem.W.Frag}{mg:Str->Option Value}{base:Heap}{a:kW}(tx:Txt K mg a):bO P w K mg base iB 13 a.lZ a.mB ["_law_machine_here","_law_state_here","_law_prices_here","_law_table","_law_least"] (aCf K a.aZ a.kJ):=by
 have kA:=tN (P:=P) (w:=w) (base:=base) tx
 have tO:=xE (P:=P) (w:=w) (base:=base) tx
 refine tx.qS.ok jM (fun vs H Q E h=>?_) (fun cdv A outer s H vs Q E hr h=>?_)
 ·obtain⟨x,m,b,st,q,tb,ps,rows,rfl,_⟩:=h
  rfl
 ·obtain⟨x,m,b,st,q,tb,ps,rows,rfl ,gt,hm,hg,hb,hst,hq,ha,hl,htb,hT,k⟩:=h
  have hu:=kZ hr
  refine Z.root (Z.aD (Z.aS (i:=5) jM.nd rfl (Or.inl rfl) (Z.aF (kA) (hr.mono (by decide)) (by rfl) tx.j9 tx.gM.kp tx.j8 .nil aU (Z.aE (Z.pv 3) (Z.aE (Z.pv 1) Z.aC))))
   (Z.aD (Z.tQ (k:=1) (idx:=[]) (N:=["_law_entries"]) (i:=6) jM.nd rfl (Or.inl rfl) (cF (sc:=aB eJ) (NX:=["_law_machine_here","_law_state_here","_law_prices_here","_law_table","_law_least","_law_number_here","_law_handed","_law_found"]) rfl rfl rfl (by decide +kernel)) rfl (Z.bQ (K':=K) (Z.pv 3)) (fun _ _ _ _=>(Z.aM (i:=0) (show(["_law_entries"]:List Str).Nodup by decide +kernel) rfl (Or.inl rfl))) (dF (by decide)) (fun _ _ _ _=>Z.cG) (fun _ _ _ _=>(Z.eC (rc:=pN K) mN (by rfl) tx.kQ pM (Z.aE (Z.pv 0) Z.aC))))
   (Z.aD (Z.aS (i:=7) jM.nd rfl (Or.inl rfl) (Z.aF (tO) (hr.mono (by decide)) (by rfl) tx.sY tx.oE.kp tx.sX .nil aU (Z.aE (Z.pv 0) (Z.aE (Z.pv 1) (Z.aE (Z.eC (rc:=pN K) mN (by rfl) tx.kQ pM (Z.aE (Z.pv 2) Z.aC)) (Z.aE (Z.pv 6) (Z.aE (Z.pv 5) Z.aC)))))))
   (Z.aD (Z.cK (Z.aAM (Z.aCl (Z.bH (r:=aL6 K) (aL7 hu) (Z.pv 6) (Z.pv 3) (bJ _)) (Z.xM (Z.oJ (Z.i0 (Z.aN (rc:=aFx K) oW (by rfl) tx.cI gK (Z.aE (Z.pv 7) (Z.aE (Z.pG (v:=.ty "bool") (by rfl) tx.vI aGn rfl) Z.aC)))))))) (Z.aG (Z.aV Z.mJ)) Z.bF)
   (Z.aG (Z.aV (Z.aGd (Z.jL aAu (Z.pv 5) (Z.pv 4) (bJ _)) (Z.pH (Z.aCT (Z.pv 7)))))))))) ?_
  refine aR (σ:=[some (.ref x),some (.ref b),some (.ref q),some (.ref tb),some (.int (wF (Wr m ps) ps.length 0 st)),none,none,none]) rfl ?_
  walk_at "w"
  refine⟨tb,b,m,st,_,rows,rfl,htb,hg,hst,hT,hb,fun v H1 s1 hv=>?_⟩
  obtain⟨es,gt1,re⟩:=(htb.same s1).ex
  have les:=re.len
  have hT0:=hT.len
  walk_at "w"
  refine fH (bG.of gt1) ?_
  refine cB (xs:=es.map V.ref) (fun j us H6=>aI H1 H6/\∃fs:List Addr,us=fs.map V.ref/\RL (fun f e=>∃qs:List Addr,H6 f=some (.lst (qs.map V.ref))/\H6 e=some (.lst (qs.map V.ref))) fs (es.take j)) ⟨aI.refl _,[],rfl,RL.nil⟩ (bX (by rw[List.length_map];omega))
   (fun j us H6 hj ⟨s6,fs,e,r⟩=>⟨bG.of (s6 _ _ gt1),by rw[e,List.length_map,r.len,List.length_take];omega⟩) (fun j v us H6 hv ⟨s6,fs,e,r⟩=>?_) (fun us H6 ⟨s6,fs,e,r⟩=>?_)
  ·obtain⟨e1,row,ee,rfl,er,qs,gq,rq⟩:=re.gt hv
   walk_at "w"
   refine rN (bG.of (s6 _ _ gq)) ?_
   intro c1 nc1
   obtain⟨H7,i7,s7,g7⟩:=nw _ nc1;rw[i7]
   refine⟨s6.trans s7,fs ++ [c1],by rw[e,List.map_append];rfl,?_⟩
   rw[cJ ee]
   exact RL.snoc (r.imp fun _ _ ⟨qs,z1,z2⟩=>⟨qs,s7 _ _ z1,s7 _ _ z2⟩) ⟨qs,g7,(s6.trans s7) _ _ gq⟩
  subst e
  rw[List.length_map,List.take_length] at r
  have lfs:=r.len
  intro lh nlh
  obtain⟨H7,i7,s7,g7⟩:=nw _ nlh;rw[i7]
  have s17:=s6.trans s7
  have r7:RL (fun f e=>∃qs:List Addr,H7 f=some (.lst (qs.map V.ref))/\H7 e=some (.lst (qs.map V.ref))) fs es:=r.imp fun _ _ ⟨qs,z1,z2⟩=>⟨qs,s7 _ _ z1,s7 _ _ z2⟩
  have t7:pD H7 lh rows:=⟨fs,g7,aHK r7 (re.imp fun _ _ z=>z.same s17)⟩
  have S7:=s1.trans s17
  walk_at "w"
  refine rN (bG.of (S7 _ _ hq)) ?_
  intro lq nlq
  obtain⟨H8,i8,s8,g8⟩:=nw _ nlq;rw[i8]
  have S8:=S7.trans s8
  walk_at "w"
  refine⟨x,m,b,st,lq,lh,ps,rows,v,rfl,S8 _ _ gt,hm.same S8,hg,S8 _ _ hb,g8,ha,hl,t7.same s8,by omega,fun row hr=>hT.row hg hst hr,fun H9 s9=>?_⟩
  have s79:=s8.trans s9
  have S9:=S7.trans s79
  walk_at "w"
  refine aL8 (s79 _ _ g7) ((s17.trans s79) _ _ gt1) lfs (fun j a b ha hb=>?_) ?_
  ·obtain⟨qs,z1,z2⟩:=r7.at_ j a b ha hb
   exact⟨qs,s79 _ _ z1,s79 _ _ z2⟩
  repeat walk_at "gs"
  refine aAK (aEJ (.bl _)) ?_
  repeat walk_at "gs"
  refine cY (fun hle=>?_) (fun hle=>?_)
  ·repeat walk_at "gs"
   exact k _ S9
  ·cases hs:uF (Wr m ps) st ps.length rows v with
   |true=>exact absurd (aHG (fun i row p er hi hp=>aF5 ((hT.vO hg hst er).2.2 p hp).1) hs) hle
   |false=>
    repeat walk_at "gs"
    exact k _ S9
theorem aJs{qs:List Addr}:mK (qs.map V.ref) none none=qs.map V.ref:=by
 simp only[mK,HT.aAy,List.drop_zero,Nat.sub_zero,List.take_length]
def aD2(K:W.Frag)(t1 t2 t3:Addr):Sp:=fun vs H Q _=>∃(a:Addr) (ns:List Int),vs=[.ref a]/\bG K H a (ns.map V.int)/\ns.length<=63/\H t1=some (.ctb cD cE)/\H t2=some (.ctb gO gP)/\H t3=some (.ctb iX iY)/\∀H',aI H H'->Q (.bl true) H'
theorem aMk{P:Program}{w:World}{K:PySem.W.Frag}{mg:Str->Option Value}{base:Heap}{a:kW}(tx:Txt K mg a):bO P w K mg base iB 14 a.aGF a.aGG ["_law_script"] (aD2 K a.cH a.iW a.kJ):=by
 have aGb:=aE8 (P:=P) (w:=w) (base:=base) tx
 have aK:=cU (P:=P) (w:=w) (base:=base) tx
 have uT:=aBh (P:=P) (w:=w) (base:=base) tx
 have aBx:=zY (P:=P) (w:=w) (base:=base) tx
 have aBy:=zM (P:=P) (w:=w) (base:=base) tx
 have kA:=tN (P:=P) (w:=w) (base:=base) tx
 have zD:=aDu (P:=P) (w:=w) (base:=base) tx
 have yN:=xI (P:=P) (w:=w) (base:=base) tx
 have aCh:=aBv (P:=P) (w:=w) (base:=base) tx
 have aD3:=aCg (P:=P) (w:=w) (base:=base) tx
 have aFd:=aDz (P:=P) (w:=w) (base:=base) tx
 have aD4:=aBU (P:=P) (w:=w) (base:=base) tx
 have aBz:=zV (P:=P) (w:=w) (base:=base) tx
 have aD5:=aCb (P:=P) (w:=w) (base:=base) tx
 have tO:=xE (P:=P) (w:=w) (base:=base) tx
 refine tx.aKF.ok gW (fun vs H Q E h=>?_) (fun cdv A outer s H vs Q E hr h=>?_)
 ·obtain⟨ad,ns,rfl,_⟩:=h
  rfl
 ·obtain⟨ad,ns,rfl ,hS,hl,gt1,gt2,gt3,k⟩:=h
  have hu:=kZ hr
  refine Z.root (Z.aD (Z.aS (i:=1) gW.nd rfl (Or.inl rfl) (Z.aF (zD) (hr.mono (by decide)) (by rfl) tx.sA tx.oA.kp tx.rZ .nil aU (Z.aE (Z.pv 0) (Z.aE Z.aA Z.aC))))
   (Z.aD (Z.aS (i:=2) gW.nd rfl (Or.inl rfl) (Z.aHd (Z.aF (uT) (hr.mono (by decide)) (by rfl) tx.oN tx.jZ.kp tx.oM .nil aU (Z.aE (Z.pv 1) Z.aC)) (Z.aF (uT) (hr.mono (by decide)) (by rfl) tx.oN tx.jZ.kp tx.oM .nil aU (Z.aE (Z.pv 1) Z.aC))))
   (Z.aD (Z.cS PassesOwn.never rfl (Z.cZ (by rfl) tx.dO (Z.aE (Z.aN (mF rfl) (by rfl) tx.tG xV (Z.aE Z.aA (Z.aE (Z.aN (xY rfl) (by rfl) tx.uS aAH (Z.aE (Z.aN (rc:=oV K) bY (by rfl) tx.fP eZ (Z.aE (Z.pv 0) Z.aC)) (Z.aE Z.aA Z.aC))) Z.aC))) Z.aC)) (Z.aM (i:=3) gW.nd rfl (Or.inl rfl)) (Z.aD (Z.aS (i:=1) gW.nd rfl (Or.inl rfl) (Z.aF (zD) (hr.mono (by decide)) (by rfl) tx.sA tx.oA.kp tx.rZ .nil aU (Z.aE (Z.pv 0) (Z.aE (Z.pv 3) Z.aC))))
   (Z.aD (Z.aS (i:=4) gW.nd rfl (Or.inl rfl) (Z.aF (aFd) (hr.mono (by decide)) (by rfl) tx.yX tx.sE.kp tx.yW .nil aU (Z.aE (Z.pv 1) (Z.aE (Z.pv 2) (Z.aE Z.aA Z.aC)))))
   (Z.aD (Z.aS (i:=5) gW.nd rfl (Or.inl rfl) (Z.aF (aBy) (hr.mono (by decide)) (by rfl) tx.sG tx.mP.kp tx.sF .nil aU (Z.aE (Z.pv 4) Z.aC)))
   (Z.aD (Z.aS (i:=6) gW.nd rfl (Or.inl rfl) (Z.aF (aD4) (hr.mono (by decide)) (by rfl) tx.wC tx.qH.kp tx.wB .nil aU (Z.aE (Z.pv 1) (Z.aE (Z.pv 4) Z.aC))))
   (Z.aD (Z.aS (i:=7) gW.nd rfl (Or.inl rfl) (Z.aF (aCh) (hr.mono (by decide)) (by rfl) tx.uQ tx.oQ.kp tx.uP .nil aU (Z.aE (Z.pv 1) (Z.aE (Z.pv 4) (Z.aE (Z.pv 2) (Z.aE (Z.aF (aK) (hr.mono (by decide)) (by rfl) tx.aQ tx.aO.kp tx.aP .nil aU (Z.aE (Z.pv 1) (Z.aE Z.aA Z.aC))) Z.aC))))))
   (Z.aD (Z.aS (i:=8) gW.nd rfl (Or.inl rfl) (Z.aN (rc:=aGz K) (aCC rfl) (by rfl) tx.uS aAH (Z.aE (Z.cO (k:=2) (idx:=[]) (N:=["_law_run","_law_worth"]) (cF (sc:=aB aA2) (NX:=["_law_script","_law_hand","_law_by","_law_place","_law_spec_here","_law_machine_here","_law_state_here","_law_prices_here","_law_least","_law_table","_law_low","_law_one","_law_k"]) rfl rfl rfl (by decide +kernel)) rfl (Z.bQ (K':=K) (Z.aF (aGb) (hr.mono (by decide)) (by rfl) tx.aBf tx.vH.kp tx.aBe .nil aU (Z.aE (Z.pv 4) (Z.aE (Z.pv 6) (Z.aE (Z.pv 7) Z.aC))))) (fun _ _ _ _=>(Z.fE (K':=K) (n:=2) rfl (Z.bA (Z.aM (i:=0) (show(["_law_run","_law_worth"]:List Str).Nodup by decide +kernel) rfl (Or.inl rfl)) (Z.bA (Z.aM (i:=1) (show(["_law_run","_law_worth"]:List Str).Nodup by decide +kernel) rfl (Or.inl rfl)) Z.dJ)))) (nA (bP (by decide) (bP (by decide) kG))) (fun _ _ _ _=>Z.cG) (fun _ _ _ _=>(Z.pv 1))) Z.aC)))
   (Z.aD (Z.aS (i:=9) gW.nd rfl (Or.inl rfl) (Z.aF (aD5) (hr.mono (by decide)) (by rfl) tx.wV tx.qP.kp tx.wU .nil aU (Z.aE (Z.pv 5) (Z.aE (Z.pv 6) (Z.aE (Z.pv 7) Z.aC)))))
   (Z.aD (Z.aS (i:=10) gW.nd rfl (Or.inl rfl) (Z.aF (aBx) (hr.mono (by decide)) (by rfl) tx.tE tx.mT.kp tx.tD .nil aU (Z.aE (Z.pv 1) (Z.aE (Z.pv 9) (Z.aE (Z.pv 2) Z.aC)))))
   (Z.aD (Z.cK (Z.aAM (Z.aCl (Z.bH (r:=aAJ K) (xW hu) (Z.aL (K':=K) (Z.aF (aBz) (hr.mono (by decide)) (by rfl) tx.sW tx.mS.kp tx.sV .nil aU (Z.aE (Z.pv 5) (Z.aE (Z.pv 6) (Z.aE (Z.pv 7) Z.aC)))) Z.aA (fun _ _=>rfl)) (Z.pv 8) (bJ _)) (Z.xM (Z.bH (r:=aAJ K) (xW hu) (Z.aF (kA) (hr.mono (by decide)) (by rfl) tx.j9 tx.gM.kp tx.j8 .nil aU (Z.aE (Z.pv 9) (Z.aE (Z.pv 6) Z.aC))) (Z.pv 8) (bJ _))))) (Z.aG (Z.aV Z.mJ)) Z.bF)
   (Z.aD (Z.cS PassesOwn.never rfl (Z.aAf (K':=K) (Z.aFz (Z.pv 9) (Z.oS (rs:=aHa K) aJN (Z.pv 9) Z.pL Z.pL) (Z.pv 10))) (Z.aM (i:=11) gW.nd rfl (Or.inl rfl)) (Z.aG (Z.cK (Z.bH xZ (Z.aF (tO) (hr.mono (by decide)) (by rfl) tx.sY tx.oE.kp tx.sX .nil aU (Z.aE (Z.pv 5) (Z.aE (Z.pv 6) (Z.aE (Z.pv 7) (Z.aE (Z.pv 11) (Z.aE (Z.aF (kA) (hr.mono (by decide)) (by rfl) tx.j9 tx.gM.kp tx.j8 .nil aU (Z.aE (Z.pv 11) (Z.aE (Z.pv 6) Z.aC))) Z.aC)))))) Z.mJ (bJ _)) (Z.aG (Z.aV Z.mJ)) Z.bF)))
   (Z.aG (Z.cS PassesOwn.never rfl (Z.cZ (by rfl) tx.dO (Z.aE Z.aA Z.aC)) (Z.aM (i:=12) gW.nd rfl (Or.inl rfl)) (Z.aD (Z.aS (i:=11) gW.nd rfl (Or.inl rfl) (Z.aF (yN) (hr.mono (by decide)) (by rfl) tx.pB tx.jH.kp tx.pA .nil aU (Z.aE (Z.pv 1) (Z.aE (Z.aL (K':=K) (Z.aHd (Z.pv 9) (Z.pv 10)) (Z.aT iD (Z.pv 12) Z.aA) (fun _ _=>rfl)) Z.aC))))
   (Z.aG (Z.cK (Z.oJ (Z.i0 (Z.aF (aD3) (hr.mono (by decide)) (by rfl) tx.wX tx.qS.kp tx.wW .nil aU (Z.aE (Z.pv 5) (Z.aE (Z.pv 6) (Z.aE (Z.pv 7) (Z.aE (Z.pv 11) (Z.aE (Z.pv 8) Z.aC)))))))) (Z.aG (Z.aV Z.mJ)) Z.bF))))))))))))))))
   (Z.aG (Z.aV Z.mJ))))) ?_
  refine aR (σ:=[some (.ref ad),none,none,none,none,none,none,none,none,none,none,none,none]) rfl ?_
  walk_at "w"
  refine⟨ad,ns,_,rfl,hS,hl,by omega,fun p0 H1 s1 np0 hh0=>?_⟩
  walk_at "w"
  refine⟨p0,rfl,hh0,fun x H2 x0 x1 h2 k2 _=>?_⟩
  walk_at "w"
  refine⟨p0,rfl,h2,fun y H3 y0 y1 h3 k3 _=>?_⟩
  walk_at "w"
  intro b nb
  obtain⟨H4,i4,s4,gb⟩:=nw _ nb;rw[i4]
  have S4:aI H H4:=(m5 np0 s1 (k2.trans k3)).trans s4
  walk_at "w"
  refine⟨by omega,by omega,?_⟩
  refine kH (fun i σ' H'=>aI H4 H'/\∃(z1 z3 z4 z5 z6 z7 z8 z9 z10 z11 z12:Option V),σ'=[some (.ref ad),z1,some (.ref b),z3,z4,z5,z6,z7,z8,z9,z10,z11,z12]) ⟨aI.refl _,_,_,_,_,_,_,_,_,_,_,_,rfl⟩ (fun i σ' H' hi ⟨s0,z1,z3,z4,z5,z6,z7,z8,z9,z10,z11,z12,e⟩=>?_) (fun σ' H' ⟨s0,z1,z3,z4,z5,z6,z7,z8,z9,z10,z11,z12,e⟩=>?_)
  ·subst e
   have S0:=S4.trans s0
   walk_at "w"
   refine⟨ad,ns,_,rfl,aI.seq S0 hS,hl,by omega,fun p H5 s5 np hh=>?_⟩
   have npH4:H4 p=none:=s0.free np
   have S5:aI H4 H5:=s0.trans s5
   have bp:b≠p:=bE np (s0 _ _ gb)
   have gb5:=S5 _ _ gb
   walk_at "w"
   refine⟨p,b,x,y,3,rfl,hh,gb5,x0,x1,y0,y1,by decide,by decide,fun s m H8 hs hg _ _ h8 k8 ns8=>?_⟩
   walk_at "w"
   refine⟨s,m,rfl,hs,hg,fun xm H9 hm s9 nxm=>?_⟩
   have hs9:=hs.same s9
   have h9:=h8.same s9
   walk_at "w"
   refine⟨p,s,m,rfl,h9,hs9,hg,fun t o d H10 ht hst h10 k10=>?_⟩
   have hs10:=hs9.keep h9 k10
   have hm10:=hm.keep h9 k10
   have gb10:H10 b=some (.lst [.int x,.int y]):=k10 _ _ (s9 _ _ (k8 _ _ gb5 bp)) bp
   walk_at "w"
   refine⟨p,_,rfl,h10,by decide,by decide,fun r11 H11 a11 b11 h11 k11 _=>?_⟩
   obtain⟨nh,rfl⟩:=Int.eq_ofNat_of_zero_le a11
   have nh8:nh < 7:=by omega
   have hs11:=hs10.keep h10 k11
   have hm11:=hm10.keep h10 k11
   have gb11:=k11 _ _ gb10 bp
   have ht11:H11 t=some (.tup [.int o,.int d]):=k11 _ _ ht fun z=>h10.mI _ (by rw[<-z];exact ht)
   walk_at "w"
   refine⟨p,s,b,m,x,y,nh,rfl,h11,hs11,hg,gb11,y0,y1,by omega,fun q ps H12 hq lps aps nq h12 k12=>?_⟩
   have hs12:=hs11.keep h11 k12
   have hm12:=hm11.keep h11 k12
   have ht12:H12 t=some (.tup [.int o,.int d]):=k12 _ _ ht11 fun z=>h11.mI _ (by rw[<-z];exact ht11)
   have gb12:=k12 _ _ gb11 bp
   have K12:bS p H5 H12:=k8.trans (s9.keep.trans (k10.trans (k11.trans k12)))
   have S12:aI H4 H12:=m5 npH4 S5 K12
   have qp:q≠p:=h11.aM5 nq
   have st1:St1 m (o,d):=hst
   walk_at "w"
   refine⟨s,m,t,(o,d),q,ps,rfl,hs12,hg,ht12,st1,hq,aps,by omega,fun l as H13 s13 gl ras=>?_⟩
   have las:=ras.len
   have f128:(cR (Wr m ps) (o,d) ps.length).length<=128:=Nat.le_trans (yM m ps (o,d) _) (Nat.le_trans (Nat.pow_le_pow_right (by decide) (show ps.length<=7 by omega)) (by decide))
   walk_at "w"
   refine fH (bG.of gl) ?_
   refine cB (xs:=as.map V.ref) (fun j us H'=>H'=H13/\us=(((cR (Wr m ps) (o,d) ps.length).take j).map fun f=>f.2.2).map V.int) ⟨rfl,rfl⟩ (bX (by rw[List.length_map];omega))
    (fun j us H' hj ⟨e0,e1⟩=>⟨by rw[e0];exact bG.of gl,by rw[e1,List.length_map,List.length_map,List.length_take];omega⟩) (fun j v us H' hv ⟨e0,e1⟩=>?_) (fun us H' ⟨e0,e1⟩=>?_)
   ·subst e0
    obtain⟨a1,f,ea,rfl,ef,r1,g1,g2⟩:=ras.gt hv
    refine fD (kL.of g1) rfl ?_
    walk_at "w"
    refine⟨rfl,?_⟩
    rw[e1,cJ ef,List.map_append,List.map_append]
    rfl
   subst e0 e1
   rw[List.length_map,las,List.take_length]
   intro lw nlw
   obtain⟨H14,i14,s14,g14⟩:=nw _ nlw;rw[i14]
   have lay:=aKu hg st1 ps ps.length
   have hri:∀i x,aF3 (Wr m ps i x):=fun _ _=>aEY _ _ _
   have fne:cR (Wr m ps) (o,d) ps.length≠[]:=fun z=>by
    obtain⟨r1,r2⟩:=aDK lay hri ps.length 0 (o,d) (by omega) rfl
    rw[aDX] at r1
    obtain⟨e,e1,_⟩:=Option.map_eq_some_iff.mp r1
    have:(vL (Wr m ps) ps.length 0 (o,d),e.1,e.2)∈cR (Wr m ps) (o,d) ps.length:=(mH hri).mpr ⟨r2,e1⟩
    rw[z] at this
    cases this
   walk_at "w"
   refine aGA (bG.of g14) (by simpa using fne) fun mm hmm hle=>?_
   have emm:mm=wF (Wr m ps) ps.length 0 (o,d):=aE4 lay hri rfl (by
    obtain⟨f,hf,e⟩:=List.mem_map.mp hmm
    exact⟨f,hf,e⟩) fun f hf=>hle _ (List.mem_map.mpr ⟨f,hf,rfl⟩)
   subst emm
   have s1214:=s13.trans s14
   have h14:=h12.same s1214
   have SH14:aI H H14:=S4.trans (S12.trans s1214)
   have hq14:=s1214 _ _ hq
   have hm14:=hm12.same s1214
   have ht14:=s1214 _ _ ht12
   walk_at "w"
   refine⟨xm,m,t,(o,d),q,ps,rfl,SH14 _ _ gt1,hm14,hg,ht14,st1,hq14,aps,by omega,fun tb Ls H15 s15 ntb hR hLs htb=>?_⟩
   have T0:=aFa hR hLs
   obtain⟨shw0,num0⟩:=aHI hg st1 hR hLs
   have h15:=h14.same s15
   have s1215:=s1214.trans s15
   walk_at "w"
   refine⟨p,tb,b,x,y,m,(o,d),ps.length,_,rfl,h15,htb,hg,st1,T0,by omega,s1215 _ _ gb12,y0,y1,fun lo rows' H16 hlo LT h16 k16=>?_⟩
   have K16:bS p H12 H16:=s1215.keep.trans k16
   have htb16:=htb.keep h15 k16
   have hm16:=hm12.keep h12 K16
   have hq16:=K16 _ _ hq qp
   have ht16:H16 t=some (.tup [.int o,.int d]):=K16 _ _ ht12 fun z=>h12.mI _ (by rw[<-z];exact ht12)
   have S16:aI H4 H16:=m5 npH4 S5 (K12.trans K16)
   have SH16:=S4.trans S16
   have T1:=LT.good T0
   walk_at "w"
   refine⟨xm,m,t,(o,d),q,ps,rfl,SH16 _ _ gt1,SH16 _ _ gt2,hm16,hg,ht16,st1,hq16,aps,by omega,fun T2 r2 H17 s17 nr2 gT2 gr2=>?_⟩
   walk_at "w"
   refine tS (fun hne=>absurd rfl hne) (fun _=>?_)
   walk_at "w"
   refine⟨tb,t,m,(o,d),ps.length,_,rfl,htb16.same s17,hg,st1,T0,s17 _ _ ht16,fun v H18 s18 hv=>?_⟩
   rw[num0] at hv
   cases hv
   walk_at "w"
   refine tS (fun hne=>absurd rfl hne) (fun _=>?_)
   have s1618:=s17.trans s18
   have htb18:=htb16.same s1618
   obtain⟨es,gt,re⟩:=htb18.ex
   walk_at "w"
   refine xX (bG.of gt) fun tb2 ntb2=>?_
   rw[aJs]
   obtain⟨H19,i19,s19,g19⟩:=nw _ ntb2;rw[i19]
   walk_at "w"
   intro T3 nT3
   obtain⟨H20,i20,s20,g20⟩:=nw _ nT3;rw[i20]
   have s1820:=s19.trans s20
   have s1620:=s1618.trans s1820
   have tb20:=htb18.same s1820
   have tb220:pD H20 tb2 (tbS m ps Ls):=⟨es,s20 _ _ g19,re.imp fun _ _ z=>z.same s1820⟩
   have lo20:=hlo.same s1620
   have hm20:=hm16.same s1620
   have hq20:=s1620 _ _ hq16
   have ht20:=s1620 _ _ ht16
   have h20:=h16.same s1620
   refine aGp (kL.of g20) ?_
   refine aFy (xs:=[.ref tb,.ref tb2,.ref lo]) (fun j σ' H'=>aI H20 H'/\∃(z11 z12:Option V),σ'=[some (.ref ad),some (.ref p),some (.ref b),some (.int (0+(i:Int))),some (.ref s),some (.ref xm),some (.ref t),some (.ref q),some (.int (wF (Wr m ps) ps.length 0 (o,d))),some (.ref tb),some (.ref lo),z11,z12]) ⟨aI.refl _,_,_,rfl⟩ (fun j σ' H' hj ⟨s',_⟩=>kL.of (s' _ _ g20)) (fun j v σ' H21 hv ⟨s21,z11,z12,e⟩=>?_) (fun σ' H21 ⟨s21,z11,z12,e⟩=>?_)
   ·subst e
    obtain⟨one,rws,rfl,hone,LO⟩ : ∃one rws,v=.ref one/\pD H21 one rws/\aCe (tbS m ps Ls) rws:=by
     match j,hv with
     |0,hv=>cases hv;exact⟨tb,_,rfl,tb20.same s21,aCe.refl _⟩
     |1,hv=>cases hv;exact⟨tb2,_,rfl,tb220.same s21,aCe.refl _⟩
     |2,hv=>cases hv;exact⟨lo,_,rfl,lo20.same s21,LT⟩
    have TO:=LO.good T0
    have SH21:aI H H21:=SH16.trans (s1620.trans s21)
    have lrw:=TO.len
    walk_at "w"
    refine⟨one,t,m,(o,d),ps.length,rws,rfl,hone,hg,st1,TO,s21 _ _ ht20,fun v H22 s22 hv=>?_⟩
    have s2022:=s21.trans s22
    have SH22:=SH21.trans s22
    walk_at "w"
    refine⟨xm,m,t,(o,d),q,one,ps,rws,v,rfl,SH22 _ _ gt3,hm20.same s2022,hg,s2022 _ _ ht20,s2022 _ _ hq20,aps,by omega,hone.same s22,by omega,fun row hr=>TO.row hg st1 hr,fun H23 s23=>?_⟩
    rw[LO.aM9 (fun row hr=>by
     obtain⟨i,ei⟩:=List.getElem?_of_mem hr
     exact yJ (TO.at_ i row ei).1) shw0 hv]
    repeat walk_at "gs"
    exact⟨s2022.trans s23,_,_,rfl⟩
   ·subst e
    have h21:=h20.same s21
    have K20:bS p H12 H20:=K16.trans s1620.keep
    walk_at "w"
    refine⟨by decide,by decide,?_⟩
    refine kH (fun jj σ' H'=>bB H' p/\bS p H20 H'/\∃(z11 z12:Option V),σ'=[some (.ref ad),some (.ref p),some (.ref b),some (.int (0+(i:Int))),some (.ref s),some (.ref xm),some (.ref t),some (.ref q),some (.int (wF (Wr m ps) ps.length 0 (o,d))),some (.ref tb),some (.ref lo),z11,z12]) ⟨h21,s21.keep,_,_,rfl⟩ (fun jj σ' H22 hjj ⟨h22,k22,z11,z12,e⟩=>?_) (fun σ' H22 ⟨h22,k22,z11,z12,e⟩=>?_)
    ·subst e
     have tb22:=tb20.keep h20 k22
     have lo22:=lo20.keep h20 k22
     walk_at "w"
     intro l2 nl2
     obtain⟨H23,i23,s23,g23⟩:=nw _ nl2;rw[i23]
     obtain⟨one,rws,hix,hone,TO⟩ : ∃one rws,uH [V.ref tb,V.ref lo] ((0+(jj:Int)) % 2)=some (.ref one)/\pD H23 one rws/\iA m (o,d) ps.length rws:=by
      rcases(show(0+(jj:Int)) % 2=0\/(0+(jj:Int)) % 2=1 by omega) with e|e <;> rw[e]
      ·exact⟨tb,_,rfl,tb22.same s23,T0⟩
      ·exact⟨lo,_,rfl,lo22.same s23,T1⟩
     walk_at "w"
     have h23:=h22.same s23
     refine⟨p,one,m,(o,d),ps.length,rws,rfl,h23,hone,hg,st1,TO,by omega,fun tn rwn H24 htn TN h24 k24=>?_⟩
     have k2024:bS p H20 H24:=k22.trans (s23.keep.trans k24)
     have SH24:aI H H24:=S4.trans (m5 npH4 S5 (K12.trans (K20.trans k2024)))
     have ht24:H24 t=some (.tup [.int o,.int d]):=k2024 _ _ ht20 fun z=>h20.mI _ (by rw[<-z];exact ht20)
     walk_at "w"
     refine⟨xm,m,t,(o,d),q,tn,ps,rwn,rfl,SH24 _ _ gt3,hm20.keep h20 k2024,hg,ht24,st1,k2024 _ _ hq20 qp,aps,by omega,htn,TN,fun H25 s25=>?_⟩
     repeat walk_at "gs"
     exact⟨h24.same s25,k2024.trans s25.keep,_,_,rfl⟩
    ·subst e
     exact⟨m5 npH4 S5 (K12.trans (K20.trans k22)),_,_,_,_,_,_,_,_,_,_,_,rfl⟩
  ·subst e
   walk_at "w"
   exact k _ (S4.trans s0)
end My
namespace My
open PySem L2
theorem all_mk{l:PySem.W.OpenLaw}{w:World}{K:PySem.W.Frag}{h:Heap}{mg:Str->Option Value}{fa:Addr}(X:K.In h)(G:h.Ns mainGlobals mg)(hfa:mg "law" = some (.ref fa))
  {C0:Addr} {f0:Addr} {od0 an0:Option Addr} {sl0:Array (Option Value)} {oc0 kV0 dc0 pm0 cd0 ct0:Value} {f1:Addr} {od1 an1:Option Addr} {sl1:Array (Option Value)} {oc1 kV1 dc1 pm1 cd1 ct1:Value} {f2:Addr} {od2 an2:Option Addr} {sl2:Array (Option Value)} {oc2 kV2 dc2 pm2 cd2 ct2:Value} {f3:Addr} {od3 an3:Option Addr} {sl3:Array (Option Value)} {oc3 kV3 dc3 pm3 cd3 ct3:Value} {f4:Addr} {od4 an4:Option Addr} {sl4:Array (Option Value)} {oc4 kV4 dc4 pm4 cd4 ct4:Value} {f5:Addr} {od5 an5:Option Addr} {sl5:Array (Option Value)} {oc5 kV5 dc5 pm5 cd5 ct5:Value} {f6:Addr} {od6 an6:Option Addr} {sl6:Array (Option Value)} {oc6 kV6 dc6 pm6 cd6 ct6:Value} {f7:Addr} {od7 an7:Option Addr} {sl7:Array (Option Value)} {oc7 kV7 dc7 pm7 cd7 ct7:Value} {f8:Addr} {od8 an8:Option Addr} {sl8:Array (Option Value)} {oc8 kV8 dc8 pm8 cd8 ct8:Value} {f9:Addr} {od9 an9:Option Addr} {sl9:Array (Option Value)} {oc9 kV9 dc9 pm9 cd9 ct9:Value} {f10:Addr} {od10 an10:Option Addr} {sl10:Array (Option Value)} {oc10 kV10 dc10 pm10 cd10 ct10:Value} {f11:Addr} {od11 an11:Option Addr} {sl11:Array (Option Value)} {oc11 kV11 dc11 pm11 cd11 ct11:Value} {f12:Addr} {od12 an12:Option Addr} {sl12:Array (Option Value)} {oc12 kV12 dc12 pm12 cd12 ct12:Value} {f13:Addr} {od13 an13:Option Addr} {sl13:Array (Option Value)} {oc13 kV13 dc13 pm13 cd13 ct13:Value} {f14:Addr} {od14 an14:Option Addr} {sl14:Array (Option Value)} {oc14 kV14 dc14 pm14 cd14 ct14:Value} {f15:Addr} {od15 an15:Option Addr} {sl15:Array (Option Value)} {oc15 kV15 dc15 pm15 cd15 ct15:Value} {f16:Addr} {od16 an16:Option Addr} {sl16:Array (Option Value)} {oc16 kV16 dc16 pm16 cd16 ct16:Value} {f17:Addr} {od17 an17:Option Addr} {sl17:Array (Option Value)} {oc17 kV17 dc17 pm17 cd17 ct17:Value} {f18:Addr} {od18 an18:Option Addr} {sl18:Array (Option Value)} {oc18 kV18 dc18 pm18 cd18 ct18:Value} {f19:Addr} {od19 an19:Option Addr} {sl19:Array (Option Value)} {oc19 kV19 dc19 pm19 cd19 ct19:Value} {f20:Addr} {od20 an20:Option Addr} {sl20:Array (Option Value)} {oc20 kV20 dc20 pm20 cd20 ct20:Value} {f21:Addr} {od21 an21:Option Addr} {sl21:Array (Option Value)} {oc21 kV21 dc21 pm21 cd21 ct21:Value} {f22:Addr} {od22 an22:Option Addr} {sl22:Array (Option Value)} {oc22 kV22 dc22 pm22 cd22 ct22:Value} {f23:Addr} {od23 an23:Option Addr} {sl23:Array (Option Value)} {oc23 kV23 dc23 pm23 cd23 ct23:Value} {f24:Addr} {od24 an24:Option Addr} {sl24:Array (Option Value)} {oc24 kV24 dc24 pm24 cd24 ct24:Value} {f25:Addr} {od25 an25:Option Addr} {sl25:Array (Option Value)} {oc25 kV25 dc25 pm25 cd25 ct25:Value} {f26:Addr} {od26 an26:Option Addr} {sl26:Array (Option Value)} {oc26 kV26 dc26 pm26 cd26 ct26:Value} {f27:Addr} {od27 an27:Option Addr} {sl27:Array (Option Value)} {oc27 kV27 dc27 pm27 cd27 ct27:Value} {f28:Addr} {od28 an28:Option Addr} {sl28:Array (Option Value)} {oc28 kV28 dc28 pm28 cd28 ct28:Value} {f29:Addr} {od29 an29:Option Addr} {sl29:Array (Option Value)} {oc29 kV29 dc29 pm29 cd29 ct29:Value} {f30:Addr} {od30 an30:Option Addr} {sl30:Array (Option Value)} {oc30 kV30 dc30 pm30 cd30 ct30:Value} {f31:Addr} {od31 an31:Option Addr} {sl31:Array (Option Value)} {oc31 kV31 dc31 pm31 ct31:Value} {kc31 T31:Addr} {tod31:Option Addr} {tvs31:Array Value} {tsl31:Array (Option Value)} {f32:Addr} {od32 an32:Option Addr} {sl32:Array (Option Value)} {oc32 kV32 dc32 pm32 ct32:Value} {kc32 T32:Addr} {tod32:Option Addr} {tvs32:Array Value} {tsl32:Array (Option Value)} {f33:Addr} {od33 an33:Option Addr} {sl33:Array (Option Value)} {oc33 kV33 dc33 pm33 cd33 ct33:Value} {f34:Addr} {od34 an34:Option Addr} {sl34:Array (Option Value)} {oc34 kV34 dc34 pm34 cd34 ct34:Value} {f35:Addr} {od35 an35:Option Addr} {sl35:Array (Option Value)} {oc35 kV35 dc35 pm35 cd35 ct35:Value} {f36:Addr} {od36 an36:Option Addr} {sl36:Array (Option Value)} {oc36 kV36 dc36 pm36 cd36 ct36:Value} {f37:Addr} {od37 an37:Option Addr} {sl37:Array (Option Value)} {oc37 kV37 dc37 pm37 cd37 ct37:Value} {f38:Addr} {od38 an38:Option Addr} {sl38:Array (Option Value)} {oc38 kV38 dc38 pm38 ct38:Value} {kc38 T38:Addr} {tod38:Option Addr} {tvs38:Array Value} {tsl38:Array (Option Value)} {f39:Addr} {od39 an39:Option Addr} {sl39:Array (Option Value)} {oc39 kV39 dc39 pm39 cd39 ct39:Value} {f40:Addr} {od40 an40:Option Addr} {sl40:Array (Option Value)} {oc40 kV40 dc40 pm40 cd40 ct40:Value} {f41:Addr} {od41 an41:Option Addr} {sl41:Array (Option Value)} {oc41 kV41 dc41 pm41 cd41 ct41:Value} {f42:Addr} {od42 an42:Option Addr} {sl42:Array (Option Value)} {oc42 kV42 dc42 pm42 cd42 ct42:Value} {f43:Addr} {od43 an43:Option Addr} {sl43:Array (Option Value)} {oc43 kV43 dc43 pm43 cd43 ct43:Value} {f44:Addr} {od44 an44:Option Addr} {sl44:Array (Option Value)} {oc44 kV44 dc44 pm44 cd44 ct44:Value} {f45:Addr} {od45 an45:Option Addr} {sl45:Array (Option Value)} {oc45 kV45 dc45 pm45 cd45 ct45:Value} {f46:Addr} {od46 an46:Option Addr} {sl46:Array (Option Value)} {oc46 kV46 dc46 pm46 cd46 ct46:Value} {f47:Addr} {od47 an47:Option Addr} {sl47:Array (Option Value)} {oc47 kV47 dc47 pm47 cd47 ct47:Value} {tk_LONGEST_STINT:Tok} {tk_MOST_PIECES:Tok}
  (aC0:PySem.W.nsIn K mainGlobals "Machine" = some (some (.ref C0)))
  (a0:PySem.W.nsIn K mainGlobals "_law_open" = some (some (.ref f0)))
  (l0:K.lookup f0=some ⟨oc0,od0,.func (PySem.W.fnOf "_law_open" "_law_open" (aY fJ) (aW fJ) (aB fJ) .none kV0 dc0 pm0 an0 cd0 ct0),sl0⟩)
  (c0:PySem.W.codeIn K cd0 "_law_open" = true)
  (k0:W.keepIn K (.ref f0)=true)
  (a1:PySem.W.nsIn K mainGlobals "_law_draw" = some (some (.ref f1)))
  (l1:K.lookup f1=some ⟨oc1,od1,.func (PySem.W.fnOf "_law_draw" "_law_draw" (aY hE) (aW hE) (aB hE) .none kV1 dc1 pm1 an1 cd1 ct1),sl1⟩)
  (c1:PySem.W.codeIn K cd1 "_law_draw" = true)
  (k1:W.keepIn K (.ref f1)=true)
  (a2:PySem.W.nsIn K mainGlobals "_law_far" = some (some (.ref f2)))
  (l2:K.lookup f2=some ⟨oc2,od2,.func (PySem.W.fnOf "_law_far" "_law_far" (aY jB) (aW jB) (aB jB) .none kV2 dc2 pm2 an2 cd2 ct2),sl2⟩)
  (c2:PySem.W.codeIn K cd2 "_law_far" = true)
  (k2:W.keepIn K (.ref f2)=true)
  (a3:PySem.W.nsIn K mainGlobals "_law_factor" = some (some (.ref f3)))
  (l3:K.lookup f3=some ⟨oc3,od3,.func (PySem.W.fnOf "_law_factor" "_law_factor" (aY eS) (aW eS) (aB eS) .none kV3 dc3 pm3 an3 cd3 ct3),sl3⟩)
  (c3:PySem.W.codeIn K cd3 "_law_factor" = true)
  (k3:W.keepIn K (.ref f3)=true)
  (a4:PySem.W.nsIn K mainGlobals "is_whole" = some (some (.ref f4)))
  (l4:K.lookup f4=some ⟨oc4,od4,.func (PySem.W.fnOf "is_whole" "is_whole" (aY jC) (aW jC) (aB jC) .none kV4 dc4 pm4 an4 cd4 ct4),sl4⟩)
  (c4:PySem.W.codeIn K cd4 "is_whole" = true)
  (k4:W.keepIn K (.ref f4)=true)
  (a5:PySem.W.nsIn K mainGlobals "is_amount" = some (some (.ref f5)))
  (l5:K.lookup f5=some ⟨oc5,od5,.func (PySem.W.fnOf "is_amount" "is_amount" (aY hJ) (aW hJ) (aB hJ) .none kV5 dc5 pm5 an5 cd5 ct5),sl5⟩)
  (c5:PySem.W.codeIn K cd5 "is_amount" = true)
  (k5:W.keepIn K (.ref f5)=true)
  (a6:PySem.W.nsIn K mainGlobals "is_span" = some (some (.ref f6)))
  (l6:K.lookup f6=some ⟨oc6,od6,.func (PySem.W.fnOf "is_span" "is_span" (aY mG) (aW mG) (aB mG) .none kV6 dc6 pm6 an6 cd6 ct6),sl6⟩)
  (c6:PySem.W.codeIn K cd6 "is_span" = true)
  (k6:W.keepIn K (.ref f6)=true)
  (a7:PySem.W.nsIn K mainGlobals "is_piece" = some (some (.ref f7)))
  (l7:K.lookup f7=some ⟨oc7,od7,.func (PySem.W.fnOf "is_piece" "is_piece" (aY jD) (aW jD) (aB jD) .none kV7 dc7 pm7 an7 cd7 ct7),sl7⟩)
  (c7:PySem.W.codeIn K cd7 "is_piece" = true)
  (k7:W.keepIn K (.ref f7)=true)
  (a8:PySem.W.nsIn K mainGlobals "are_pieces" = some (some (.ref f8)))
  (l8:K.lookup f8=some ⟨oc8,od8,.func (PySem.W.fnOf "are_pieces" "are_pieces" (aY dG) (aW dG) (aB dG) .none kV8 dc8 pm8 an8 cd8 ct8),sl8⟩)
  (c8:PySem.W.codeIn K cd8 "are_pieces" = true)
  (k8:W.keepIn K (.ref f8)=true)
  (a9:PySem.W.findIn K (.ref C0) "__init__" = some (some (.ref f9)))
  (i9:PySem.W.isFn K (.ref f9)=true)
  (l9:K.lookup f9=some ⟨oc9,od9,.func (PySem.W.fnOf "__init__" "Machine.__init__" (aY dQ) (aW dQ) (aB dQ) .none kV9 dc9 pm9 an9 cd9 ct9),sl9⟩)
  (c9:PySem.W.codeIn K cd9 "Machine.__init__" = true)
  (k9:W.keepIn K (.ref f9)=true)
  (a10:PySem.W.nsIn K mainGlobals "_law_spec" = some (some (.ref f10)))
  (l10:K.lookup f10=some ⟨oc10,od10,.func (PySem.W.fnOf "_law_spec" "_law_spec" (aY hU) (aW hU) (aB hU) .none kV10 dc10 pm10 an10 cd10 ct10),sl10⟩)
  (c10:PySem.W.codeIn K cd10 "_law_spec" = true)
  (k10:W.keepIn K (.ref f10)=true)
  (a11:PySem.W.nsIn K mainGlobals "_law_machine" = some (some (.ref f11)))
  (l11:K.lookup f11=some ⟨oc11,od11,.func (PySem.W.fnOf "_law_machine" "_law_machine" (aY dR) (aW dR) (aB dR) .none kV11 dc11 pm11 an11 cd11 ct11),sl11⟩)
  (c11:PySem.W.codeIn K cd11 "_law_machine" = true)
  (k11:W.keepIn K (.ref f11)=true)
  (a12:PySem.W.findIn K (.ref C0) "gain" = some (some (.ref f12)))
  (i12:PySem.W.isFn K (.ref f12)=true)
  (l12:K.lookup f12=some ⟨oc12,od12,.func (PySem.W.fnOf "gain" "Machine.gain" (aY dS) (aW dS) (aB dS) .none kV12 dc12 pm12 an12 cd12 ct12),sl12⟩)
  (c12:PySem.W.codeIn K cd12 "Machine.gain" = true)
  (k12:W.keepIn K (.ref f12)=true)
  (a13:PySem.W.nsIn K mainGlobals "_law_gain" = some (some (.ref f13)))
  (l13:K.lookup f13=some ⟨oc13,od13,.func (PySem.W.fnOf "_law_gain" "_law_gain" (aY fK) (aW fK) (aB fK) .none kV13 dc13 pm13 an13 cd13 ct13),sl13⟩)
  (c13:PySem.W.codeIn K cd13 "_law_gain" = true)
  (k13:W.keepIn K (.ref f13)=true)
  (a14:PySem.W.nsIn K mainGlobals "may_be" = some (some (.ref f14)))
  (l14:K.lookup f14=some ⟨oc14,od14,.func (PySem.W.fnOf "may_be" "may_be" (aY oZ) (aW oZ) (aB oZ) .none kV14 dc14 pm14 an14 cd14 ct14),sl14⟩)
  (c14:PySem.W.codeIn K cd14 "may_be" = true)
  (k14:W.keepIn K (.ref f14)=true)
  (a15:PySem.W.nsIn K mainGlobals "state_after" = some (some (.ref f15)))
  (l15:K.lookup f15=some ⟨oc15,od15,.func (PySem.W.fnOf "state_after" "state_after" (aY eT) (aW eT) (aB eT) .none kV15 dc15 pm15 an15 cd15 ct15),sl15⟩)
  (c15:PySem.W.codeIn K cd15 "state_after" = true)
  (k15:W.keepIn K (.ref f15)=true)
  (a16:PySem.W.nsIn K mainGlobals "_law_state" = some (some (.ref f16)))
  (l16:K.lookup f16=some ⟨oc16,od16,.func (PySem.W.fnOf "_law_state" "_law_state" (aY fR) (aW fR) (aB fR) .none kV16 dc16 pm16 an16 cd16 ct16),sl16⟩)
  (c16:PySem.W.codeIn K cd16 "_law_state" = true)
  (k16:W.keepIn K (.ref f16)=true)
  (a17:PySem.W.nsIn K mainGlobals "_law_after" = some (some (.ref f17)))
  (l17:K.lookup f17=some ⟨oc17,od17,.func (PySem.W.fnOf "_law_after" "_law_after" (aY fS) (aW fS) (aB fS) .none kV17 dc17 pm17 an17 cd17 ct17),sl17⟩)
  (c17:PySem.W.codeIn K cd17 "_law_after" = true)
  (k17:W.keepIn K (.ref f17)=true)
  (a18:PySem.W.nsIn K mainGlobals "run_fault" = some (some (.ref f18)))
  (l18:K.lookup f18=some ⟨oc18,od18,.func (PySem.W.fnOf "run_fault" "run_fault" (aY hV) (aW hV) (aB hV) .none kV18 dc18 pm18 an18 cd18 ct18),sl18⟩)
  (c18:PySem.W.codeIn K cd18 "run_fault" = true)
  (k18:W.keepIn K (.ref f18)=true)
  (a19:PySem.W.nsIn K mainGlobals "refuse_fault" = some (some (.ref f19)))
  (l19:K.lookup f19=some ⟨oc19,od19,.func (PySem.W.fnOf "refuse_fault" "refuse_fault" (aY dU) (aW dU) (aB dU) .none kV19 dc19 pm19 an19 cd19 ct19),sl19⟩)
  (c19:PySem.W.codeIn K cd19 "refuse_fault" = true)
  (k19:W.keepIn K (.ref f19)=true)
  (a20:PySem.W.nsIn K mainGlobals "run_begins" = some (some (.ref f20)))
  (l20:K.lookup f20=some ⟨oc20,od20,.func (PySem.W.fnOf "run_begins" "run_begins" (aY fT) (aW fT) (aB fT) .none kV20 dc20 pm20 an20 cd20 ct20),sl20⟩)
  (c20:PySem.W.codeIn K cd20 "run_begins" = true)
  (k20:W.keepIn K (.ref f20)=true)
  (a21:PySem.W.nsIn K mainGlobals "run_cost" = some (some (.ref f21)))
  (l21:K.lookup f21=some ⟨oc21,od21,.func (PySem.W.fnOf "run_cost" "run_cost" (aY jE) (aW jE) (aB jE) .none kV21 dc21 pm21 an21 cd21 ct21),sl21⟩)
  (c21:PySem.W.codeIn K cd21 "run_cost" = true)
  (k21:W.keepIn K (.ref f21)=true)
  (a22:PySem.W.nsIn K mainGlobals "least_of" = some (some (.ref f22)))
  (l22:K.lookup f22=some ⟨oc22,od22,.func (PySem.W.fnOf "least_of" "least_of" (aY gQ) (aW gQ) (aB gQ) .none kV22 dc22 pm22 an22 cd22 ct22),sl22⟩)
  (c22:PySem.W.codeIn K cd22 "least_of" = true)
  (k22:W.keepIn K (.ref f22)=true)
  (a23:PySem.W.nsIn K mainGlobals "worths_ahead" = some (some (.ref f23)))
  (l23:K.lookup f23=some ⟨oc23,od23,.func (PySem.W.fnOf "worths_ahead" "worths_ahead" (aY dW) (aW dW) (aB dW) .none kV23 dc23 pm23 an23 cd23 ct23),sl23⟩)
  (c23:PySem.W.codeIn K cd23 "worths_ahead" = true)
  (k23:W.keepIn K (.ref f23)=true)
  (a24:PySem.W.nsIn K mainGlobals "worths_by_hour" = some (some (.ref f24)))
  (l24:K.lookup f24=some ⟨oc24,od24,.func (PySem.W.fnOf "worths_by_hour" "worths_by_hour" (aY cW) (aW cW) (aB cW) .none kV24 dc24 pm24 an24 cd24 ct24),sl24⟩)
  (c24:PySem.W.codeIn K cd24 "worths_by_hour" = true)
  (k24:W.keepIn K (.ref f24)=true)
  (a25:PySem.W.nsIn K mainGlobals "first_best" = some (some (.ref f25)))
  (l25:K.lookup f25=some ⟨oc25,od25,.func (PySem.W.fnOf "first_best" "first_best" (aY eE) (aW eE) (aB eE) .none kV25 dc25 pm25 an25 cd25 ct25),sl25⟩)
  (c25:PySem.W.codeIn K cd25 "first_best" = true)
  (k25:W.keepIn K (.ref f25)=true)
  (a26:PySem.W.nsIn K mainGlobals "first_row" = some (some (.ref f26)))
  (l26:K.lookup f26=some ⟨oc26,od26,.func (PySem.W.fnOf "first_row" "first_row" (aY hX) (aW hX) (aB hX) .none kV26 dc26 pm26 an26 cd26 ct26),sl26⟩)
  (c26:PySem.W.codeIn K cd26 "first_row" = true)
  (k26:W.keepIn K (.ref f26)=true)
  (a27:PySem.W.nsIn K mainGlobals "ways_one_on" = some (some (.ref f27)))
  (l27:K.lookup f27=some ⟨oc27,od27,.func (PySem.W.fnOf "ways_one_on" "ways_one_on" (aY eU) (aW eU) (aB eU) .none kV27 dc27 pm27 an27 cd27 ct27),sl27⟩)
  (c27:PySem.W.codeIn K cd27 "ways_one_on" = true)
  (k27:W.keepIn K (.ref f27)=true)
  (a28:PySem.W.nsIn K mainGlobals "states_by_hour" = some (some (.ref f28)))
  (l28:K.lookup f28=some ⟨oc28,od28,.func (PySem.W.fnOf "states_by_hour" "states_by_hour" (aY cX) (aW cX) (aB cX) .none kV28 dc28 pm28 an28 cd28 ct28),sl28⟩)
  (c28:PySem.W.codeIn K cd28 "states_by_hour" = true)
  (k28:W.keepIn K (.ref f28)=true)
  (a29:PySem.W.nsIn K mainGlobals "next_hours" = some (some (.ref f29)))
  (l29:K.lookup f29=some ⟨oc29,od29,.func (PySem.W.fnOf "next_hours" "next_hours" (aY eF) (aW eF) (aB eF) .none kV29 dc29 pm29 an29 cd29 ct29),sl29⟩)
  (c29:PySem.W.codeIn K cd29 "next_hours" = true)
  (k29:W.keepIn K (.ref f29)=true)
  (a30:PySem.W.nsIn K mainGlobals "hour_ways" = some (some (.ref f30)))
  (l30:K.lookup f30=some ⟨oc30,od30,.func (PySem.W.fnOf "hour_ways" "hour_ways" (aY fL) (aW fL) (aB fL) .none kV30 dc30 pm30 an30 cd30 ct30),sl30⟩)
  (c30:PySem.W.codeIn K cd30 "hour_ways" = true)
  (k30:W.keepIn K (.ref f30)=true)
  (a31:PySem.W.nsIn K mainGlobals "worths_of_states" = some (some (.ref f31)))
  (l31:K.lookup f31=some ⟨oc31,od31,.func (PySem.W.fnOf "worths_of_states" "worths_of_states" (aY bR) (aW bR) (aB bR) .none kV31 dc31 pm31 an31 (.ref kc31) ct31),sl31⟩)
  (c31:PySem.W.codeIn K (.ref kc31) "worths_of_states" = true)
  (tl31:K.lookup kc31=some ⟨.type "code",tod31,.fields tvs31,tsl31⟩)
  (tv31:(tvs31[11]? : Option Value)=some (.ref T31))
  (th31:PySem.W.codeHdIn K kc31 T31=true)
  (k31:W.keepIn K (.ref f31)=true)
  (a32:PySem.W.nsIn K mainGlobals "cheapest_run" = some (some (.ref f32)))
  (l32:K.lookup f32=some ⟨oc32,od32,.func (PySem.W.fnOf "cheapest_run" "cheapest_run" (aY cL) (aW cL) (aB cL) .none kV32 dc32 pm32 an32 (.ref kc32) ct32),sl32⟩)
  (c32:PySem.W.codeIn K (.ref kc32) "cheapest_run" = true)
  (tl32:K.lookup kc32=some ⟨.type "code",tod32,.fields tvs32,tsl32⟩)
  (tv32:(tvs32[11]? : Option Value)=some (.ref T32))
  (th32:PySem.W.codeHdIn K kc32 T32=true)
  (k32:W.keepIn K (.ref f32)=true)
  (a33:PySem.W.nsIn K mainGlobals "is_at_most" = some (some (.ref f33)))
  (l33:K.lookup f33=some ⟨oc33,od33,.func (PySem.W.fnOf "is_at_most" "is_at_most" (aY eG) (aW eG) (aB eG) .none kV33 dc33 pm33 an33 cd33 ct33),sl33⟩)
  (c33:PySem.W.codeIn K cd33 "is_at_most" = true)
  (k33:W.keepIn K (.ref f33)=true)
  (a34:PySem.W.nsIn K mainGlobals "keeps_hour" = some (some (.ref f34)))
  (l34:K.lookup f34=some ⟨oc34,od34,.func (PySem.W.fnOf "keeps_hour" "keeps_hour" (aY eI) (aW eI) (aB eI) .none kV34 dc34 pm34 an34 cd34 ct34),sl34⟩)
  (c34:PySem.W.codeIn K cd34 "keeps_hour" = true)
  (k34:W.keepIn K (.ref f34)=true)
  (a35:PySem.W.nsIn K mainGlobals "shows_least" = some (some (.ref f35)))
  (l35:K.lookup f35=some ⟨oc35,od35,.func (PySem.W.fnOf "shows_least" "shows_least" (aY bU) (aW bU) (aB bU) .none kV35 dc35 pm35 an35 cd35 ct35),sl35⟩)
  (c35:PySem.W.codeIn K cd35 "shows_least" = true)
  (k35:W.keepIn K (.ref f35)=true)
  (a36:PySem.W.nsIn K mainGlobals "table_of" = some (some (.ref f36)))
  (l36:K.lookup f36=some ⟨oc36,od36,.func (PySem.W.fnOf "table_of" "table_of" (aY gR) (aW gR) (aB gR) .none kV36 dc36 pm36 an36 cd36 ct36),sl36⟩)
  (c36:PySem.W.codeIn K cd36 "table_of" = true)
  (k36:W.keepIn K (.ref f36)=true)
  (a37:PySem.W.nsIn K mainGlobals "run_worths" = some (some (.ref f37)))
  (l37:K.lookup f37=some ⟨oc37,od37,.func (PySem.W.fnOf "run_worths" "run_worths" (aY fU) (aW fU) (aB fU) .none kV37 dc37 pm37 an37 cd37 ct37),sl37⟩)
  (c37:PySem.W.codeIn K cd37 "run_worths" = true)
  (k37:W.keepIn K (.ref f37)=true)
  (a38:PySem.W.nsIn K mainGlobals "shows_run" = some (some (.ref f38)))
  (l38:K.lookup f38=some ⟨oc38,od38,.func (PySem.W.fnOf "shows_run" "shows_run" (aY d8) (aW d8) (aB d8) .none kV38 dc38 pm38 an38 (.ref kc38) ct38),sl38⟩)
  (c38:PySem.W.codeIn K (.ref kc38) "shows_run" = true)
  (tl38:K.lookup kc38=some ⟨.type "code",tod38,.fields tvs38,tsl38⟩)
  (tv38:(tvs38[11]? : Option Value)=some (.ref T38))
  (th38:PySem.W.codeHdIn K kc38 T38=true)
  (k38:W.keepIn K (.ref f38)=true)
  (a39:PySem.W.nsIn K mainGlobals "_law_price" = some (some (.ref f39)))
  (l39:K.lookup f39=some ⟨oc39,od39,.func (PySem.W.fnOf "_law_price" "_law_price" (aY fV) (aW fV) (aB fV) .none kV39 dc39 pm39 an39 cd39 ct39),sl39⟩)
  (c39:PySem.W.codeIn K cd39 "_law_price" = true)
  (k39:W.keepIn K (.ref f39)=true)
  (a40:PySem.W.nsIn K mainGlobals "_law_hour" = some (some (.ref f40)))
  (l40:K.lookup f40=some ⟨oc40,od40,.func (PySem.W.fnOf "_law_hour" "_law_hour" (aY hZ) (aW hZ) (aB hZ) .none kV40 dc40 pm40 an40 cd40 ct40),sl40⟩)
  (c40:PySem.W.codeIn K cd40 "_law_hour" = true)
  (k40:W.keepIn K (.ref f40)=true)
  (a41:PySem.W.nsIn K mainGlobals "_law_prices" = some (some (.ref f41)))
  (l41:K.lookup f41=some ⟨oc41,od41,.func (PySem.W.fnOf "_law_prices" "_law_prices" (aY eV) (aW eV) (aB eV) .none kV41 dc41 pm41 an41 cd41 ct41),sl41⟩)
  (c41:PySem.W.codeIn K cd41 "_law_prices" = true)
  (k41:W.keepIn K (.ref f41)=true)
  (a42:PySem.W.nsIn K mainGlobals "_law_all" = some (some (.ref f42)))
  (l42:K.lookup f42=some ⟨oc42,od42,.func (PySem.W.fnOf "_law_all" "_law_all" (aY gU) (aW gU) (aB gU) .none kV42 dc42 pm42 an42 cd42 ct42),sl42⟩)
  (c42:PySem.W.codeIn K cd42 "_law_all" = true)
  (k42:W.keepIn K (.ref f42)=true)
  (a43:PySem.W.nsIn K mainGlobals "_law_number" = some (some (.ref f43)))
  (l43:K.lookup f43=some ⟨oc43,od43,.func (PySem.W.fnOf "_law_number" "_law_number" (aY eW) (aW eW) (aB eW) .none kV43 dc43 pm43 an43 cd43 ct43),sl43⟩)
  (c43:PySem.W.codeIn K cd43 "_law_number" = true)
  (k43:W.keepIn K (.ref f43)=true)
  (a44:PySem.W.nsIn K mainGlobals "_law_lowered" = some (some (.ref f44)))
  (l44:K.lookup f44=some ⟨oc44,od44,.func (PySem.W.fnOf "_law_lowered" "_law_lowered" (aY dA) (aW dA) (aB dA) .none kV44 dc44 pm44 an44 cd44 ct44),sl44⟩)
  (c44:PySem.W.codeIn K cd44 "_law_lowered" = true)
  (k44:W.keepIn K (.ref f44)=true)
  (a45:PySem.W.nsIn K mainGlobals "_law_otherwise" = some (some (.ref f45)))
  (l45:K.lookup f45=some ⟨oc45,od45,.func (PySem.W.fnOf "_law_otherwise" "_law_otherwise" (aY cA) (aW cA) (aB cA) .none kV45 dc45 pm45 an45 cd45 ct45),sl45⟩)
  (c45:PySem.W.codeIn K cd45 "_law_otherwise" = true)
  (k45:W.keepIn K (.ref f45)=true)
  (a46:PySem.W.nsIn K mainGlobals "_law_sound" = some (some (.ref f46)))
  (l46:K.lookup f46=some ⟨oc46,od46,.func (PySem.W.fnOf "_law_sound" "_law_sound" (aY eJ) (aW eJ) (aB eJ) .none kV46 dc46 pm46 an46 cd46 ct46),sl46⟩)
  (c46:PySem.W.codeIn K cd46 "_law_sound" = true)
  (k46:W.keepIn K (.ref f46)=true)
  (a47:PySem.W.nsIn K mainGlobals "law" = some (some (.ref f47)))
  (l47:K.lookup f47=some ⟨oc47,od47,.func (PySem.W.fnOf "law" "law" (aY aA2) (aW aA2) (aB aA2) .none kV47 dc47 pm47 an47 cd47 ct47),sl47⟩)
  (c47:PySem.W.codeIn K cd47 "law" = true)
  (k47:W.keepIn K (.ref f47)=true)
  (pg0:PySem.W.plainGet K C0 Str.empty=true)
  (hd0:PySem.W.hasDictIn K C0=true)
  (po0:PySem.W.plainOver K C0=true)
  (sa0:PySem.W.findIn K (.ref C0) "__setattr__" = some (some (.builtin "object.__setattr__")))
  (mk0:PySem.W.makesIn K C0=true)
  (kc0:W.keepIn K (.ref C0)=true)
  (n0_up:PySem.W.findIn K (.ref C0) "up" = some none)
  (n0_down:PySem.W.findIn K (.ref C0) "down" = some none)
  (n0_begin:PySem.W.findIn K (.ref C0) "begin" = some none)
  (n0_run:PySem.W.findIn K (.ref C0) "run" = some none)
  (n0_rest:PySem.W.findIn K (.ref C0) "rest" = some none)
  (n0_least:PySem.W.findIn K (.ref C0) "least" = some none)
  (n0_pieces:PySem.W.findIn K (.ref C0) "pieces" = some none)
  (aCI:PySem.W.nsIn K mainGlobals "abs" = some none)
  (uR:PySem.W.nsIn K mainGlobals "all" = some none)
  (aCJ:PySem.W.nsIn K mainGlobals "any" = some none)
  (vI:PySem.W.nsIn K mainGlobals "bool" = some none)
  (vJ:PySem.W.nsIn K mainGlobals "dict" = some none)
  (eA:PySem.W.nsIn K mainGlobals "enumerate" = some none)
  (aCK:PySem.W.nsIn K mainGlobals "int" = some none)
  (cI:PySem.W.nsIn K mainGlobals "isinstance" = some none)
  (fP:PySem.W.nsIn K mainGlobals "len" = some none)
  (kQ:PySem.W.nsIn K mainGlobals "list" = some none)
  (tG:PySem.W.nsIn K mainGlobals "max" = some none)
  (uS:PySem.W.nsIn K mainGlobals "min" = some none)
  (dO:PySem.W.nsIn K mainGlobals "range" = some none)
  (jJ:PySem.W.nsIn K mainGlobals "reversed" = some none)
  (mX:PySem.W.nsIn K mainGlobals "sorted" = some none)
  (aCL:PySem.W.nsIn K mainGlobals "sum" = some none)
  (tZ:PySem.W.nsIn K mainGlobals "tuple" = some none)
  (dC:PySem.W.nsIn K mainGlobals "LONGEST_STINT" = some (some (.int 12 tk_LONGEST_STINT)))
  (eY:PySem.W.nsIn K mainGlobals "MOST_PIECES" = some (some (.int 4 tk_MOST_PIECES))) :
  (∃c,PySem.W.codeHdIn K c T31=true)/\(∃c,PySem.W.codeHdIn K c T32=true)/\(∃c,PySem.W.codeHdIn K c T38=true)/\∃fd:FuncData,(∀(s:Shared) (v:Value),BindsTo s fd ⟨[v],[]⟩ [("_law_script",v)])/\∀base:Heap,K.In base->base.Ns mainGlobals mg->bO l.prog w K mg base iB 14 fa fd ["_law_script"] (aD2 K T31 T32 T38):=by
 have e:=hfa.symm.trans (W.mg_of X G a47)
 cases e
 have F0:=bD (st:=fJ) l0 c0 k0
 have b0:=F0.binds (ps:=["_law_script","_law_place"]) fun _ _ _ _ _ _ us hl=>by obtain⟨_,_,rfl⟩:=ar2 us hl;rfl
 have F1:=bD (st:=hE) l1 c1 k1
 have b1:=F1.binds (ps:=["_law_hand","_law_many"]) fun _ _ _ _ _ _ us hl=>by obtain⟨_,_,rfl⟩:=ar2 us hl;rfl
 have F2:=bD (st:=jB) l2 c2 k2
 have b2:=F2.binds (ps:=["_law_hand","_law_bound"]) fun _ _ _ _ _ _ us hl=>by obtain⟨_,_,rfl⟩:=ar2 us hl;rfl
 have F3:=bD (st:=eS) l3 c3 k3
 have b3:=F3.binds (ps:=["_law_hand"]) fun _ _ _ _ _ _ us hl=>by obtain⟨_,rfl⟩:=ar1 us hl;rfl
 have F4:=bD (st:=jC) l4 c4 k4
 have b4:=F4.binds (ps:=["thing"]) fun _ _ _ _ _ _ us hl=>by obtain⟨_,rfl⟩:=ar1 us hl;rfl
 have F5:=bD (st:=hJ) l5 c5 k5
 have b5:=F5.binds (ps:=["thing"]) fun _ _ _ _ _ _ us hl=>by obtain⟨_,rfl⟩:=ar1 us hl;rfl
 have F6:=bD (st:=mG) l6 c6 k6
 have b6:=F6.binds (ps:=["thing"]) fun _ _ _ _ _ _ us hl=>by obtain⟨_,rfl⟩:=ar1 us hl;rfl
 have F7:=bD (st:=jD) l7 c7 k7
 have b7:=F7.binds (ps:=["thing"]) fun _ _ _ _ _ _ us hl=>by obtain⟨_,rfl⟩:=ar1 us hl;rfl
 have F8:=bD (st:=dG) l8 c8 k8
 have b8:=F8.binds (ps:=["thing"]) fun _ _ _ _ _ _ us hl=>by obtain⟨_,rfl⟩:=ar1 us hl;rfl
 have F9:=bD (st:=dQ) l9 c9 k9
 have b9:=F9.binds (ps:=["self","up","down","begin","run","rest","least","pieces"]) fun _ _ _ _ _ _ us hl=>by obtain⟨_,_,_,_,_,_,_,_,rfl⟩:=ar8 us hl;rfl
 have F10:=bD (st:=hU) l10 c10 k10
 have b10:=F10.binds (ps:=["_law_hand","_law_by","_law_longest"]) fun _ _ _ _ _ _ us hl=>by obtain⟨_,_,_,rfl⟩:=ar3 us hl;rfl
 have F11:=bD (st:=dR) l11 c11 k11
 have b11:=F11.binds (ps:=["_law_spec_here"]) fun _ _ _ _ _ _ us hl=>by obtain⟨_,rfl⟩:=ar1 us hl;rfl
 have F12:=bD (st:=dS) l12 c12 k12
 have b12:=F12.binds (ps:=["self","price"]) fun _ _ _ _ _ _ us hl=>by obtain⟨_,_,rfl⟩:=ar2 us hl;rfl
 have F13:=bD (st:=fK) l13 c13 k13
 have b13:=F13.binds (ps:=["_law_spec_here","_law_price_here"]) fun _ _ _ _ _ _ us hl=>by obtain⟨_,_,rfl⟩:=ar2 us hl;rfl
 have F14:=bD (st:=oZ) l14 c14 k14
 have b14:=F14.binds (ps:=["machine","state","on"]) fun _ _ _ _ _ _ us hl=>by obtain⟨_,_,_,rfl⟩:=ar3 us hl;rfl
 have F15:=bD (st:=eT) l15 c15 k15
 have b15:=F15.binds (ps:=["machine","state","on"]) fun _ _ _ _ _ _ us hl=>by obtain⟨_,_,_,rfl⟩:=ar3 us hl;rfl
 have F16:=bD (st:=fR) l16 c16 k16
 have b16:=F16.binds (ps:=["_law_hand","_law_spec_here"]) fun _ _ _ _ _ _ us hl=>by obtain⟨_,_,rfl⟩:=ar2 us hl;rfl
 have F17:=bD (st:=fS) l17 c17 k17
 have b17:=F17.binds (ps:=["_law_spec_here","_law_state_here","_law_on"]) fun _ _ _ _ _ _ us hl=>by obtain⟨_,_,_,rfl⟩:=ar3 us hl;rfl
 have F18:=bD (st:=hV) l18 c18 k18
 have b18:=F18.binds (ps:=["machine","state","run"]) fun _ _ _ _ _ _ us hl=>by obtain⟨_,_,_,rfl⟩:=ar3 us hl;rfl
 have F19:=bD (st:=dU) l19 c19 k19
 have b19:=F19.binds (ps:=["machine","state","run"]) fun _ _ _ _ _ _ us hl=>by obtain⟨_,_,_,rfl⟩:=ar3 us hl;rfl
 have F20:=bD (st:=fT) l20 c20 k20
 have b20:=F20.binds (ps:=["machine","state","run"]) fun _ _ _ _ _ _ us hl=>by obtain⟨_,_,_,rfl⟩:=ar3 us hl;rfl
 have F21:=bD (st:=jE) l21 c21 k21
 have b21:=F21.binds (ps:=["machine","state","run"]) fun _ _ _ _ _ _ us hl=>by obtain⟨_,_,_,rfl⟩:=ar3 us hl;rfl
 have F22:=bD (st:=gQ) l22 c22 k22
 have b22:=F22.binds (ps:=["ways","behind"]) fun _ _ _ _ _ _ us hl=>by obtain⟨_,_,rfl⟩:=ar2 us hl;rfl
 have F23:=bD (st:=dW) l23 c23 k23
 have b23:=F23.binds (ps:=["places","hour","behind","ways_at"]) fun _ _ _ _ _ _ us hl=>by obtain⟨_,_,_,_,rfl⟩:=ar4 us hl;rfl
 have F24:=bD (st:=cW) l24 c24 k24
 have b24:=F24.binds (ps:=["layers","ways_at"]) fun _ _ _ _ _ _ us hl=>by obtain⟨_,_,rfl⟩:=ar2 us hl;rfl
 have F25:=bD (st:=eE) l25 c25 k25
 have b25:=F25.binds (ps:=["ways","behind"]) fun _ _ _ _ _ _ us hl=>by obtain⟨_,_,rfl⟩:=ar2 us hl;rfl
 have F26:=bD (st:=hX) l26 c26 k26
 have b26:=F26.binds (ps:=["place","worths","ways_at"]) fun _ _ _ _ _ _ us hl=>by obtain⟨_,_,_,rfl⟩:=ar3 us hl;rfl
 have F27:=bD (st:=eU) l27 c27 k27
 have b27:=F27.binds (ps:=["machine","ways"]) fun _ _ _ _ _ _ us hl=>by obtain⟨_,_,rfl⟩:=ar2 us hl;rfl
 have F28:=bD (st:=cX) l28 c28 k28
 have b28:=F28.binds (ps:=["machine","state","hours"]) fun _ _ _ _ _ _ us hl=>by obtain⟨_,_,_,rfl⟩:=ar3 us hl;rfl
 have F29:=bD (st:=eF) l29 c29 k29
 have b29:=F29.binds (ps:=["machine","state"]) fun _ _ _ _ _ _ us hl=>by obtain⟨_,_,rfl⟩:=ar2 us hl;rfl
 have F30:=bD (st:=fL) l30 c30 k30
 have b30:=F30.binds (ps:=["machine","state","price"]) fun _ _ _ _ _ _ us hl=>by obtain⟨_,_,_,rfl⟩:=ar3 us hl;rfl
 have F31:=bD (st:=bR) l31 c31 k31
 have b31:=F31.binds (ps:=["machine","state","prices"]) fun _ _ _ _ _ _ us hl=>by obtain⟨_,_,_,rfl⟩:=ar3 us hl;rfl
 have F32:=bD (st:=cL) l32 c32 k32
 have b32:=F32.binds (ps:=["machine","state","prices"]) fun _ _ _ _ _ _ us hl=>by obtain⟨_,_,_,rfl⟩:=ar3 us hl;rfl
 have F33:=bD (st:=eG) l33 c33 k33
 have b33:=F33.binds (ps:=["number","ways","behind"]) fun _ _ _ _ _ _ us hl=>by obtain⟨_,_,_,rfl⟩:=ar3 us hl;rfl
 have F34:=bD (st:=eI) l34 c34 k34
 have b34:=F34.binds (ps:=["hour","ahead","behind","ways_at"]) fun _ _ _ _ _ _ us hl=>by obtain⟨_,_,_,_,rfl⟩:=ar4 us hl;rfl
 have F35:=bD (st:=bU) l35 c35 k35
 have b35:=F35.binds (ps:=["place","hours","table","number","ways_at"]) fun _ _ _ _ _ _ us hl=>by obtain⟨_,_,_,_,_,rfl⟩:=ar5 us hl;rfl
 have F36:=bD (st:=gR) l36 c36 k36
 have b36:=F36.binds (ps:=["worths"]) fun _ _ _ _ _ _ us hl=>by obtain⟨_,rfl⟩:=ar1 us hl;rfl
 have F37:=bD (st:=fU) l37 c37 k37
 have b37:=F37.binds (ps:=["machine","state","prices"]) fun _ _ _ _ _ _ us hl=>by obtain⟨_,_,_,rfl⟩:=ar3 us hl;rfl
 have F38:=bD (st:=d8) l38 c38 k38
 have b38:=F38.binds (ps:=["machine","state","prices","table","number"]) fun _ _ _ _ _ _ us hl=>by obtain⟨_,_,_,_,_,rfl⟩:=ar5 us hl;rfl
 have F39:=bD (st:=fV) l39 c39 k39
 have b39:=F39.binds (ps:=["_law_hand","_law_by","_law_most"]) fun _ _ _ _ _ _ us hl=>by obtain⟨_,_,_,rfl⟩:=ar3 us hl;rfl
 have F40:=bD (st:=hZ) l40 c40 k40
 have b40:=F40.binds (ps:=["_law_spec_here","_law_state_here","_law_price_here","_law_on"]) fun _ _ _ _ _ _ us hl=>by obtain⟨_,_,_,_,rfl⟩:=ar4 us hl;rfl
 have F41:=bD (st:=eV) l41 c41 k41
 have b41:=F41.binds (ps:=["_law_hand","_law_spec_here","_law_by","_law_hours"]) fun _ _ _ _ _ _ us hl=>by obtain⟨_,_,_,_,rfl⟩:=ar4 us hl;rfl
 have F42:=bD (st:=gU) l42 c42 k42
 have b42:=F42.binds (ps:=["_law_spec_here","_law_state_here","_law_prices_here"]) fun _ _ _ _ _ _ us hl=>by obtain⟨_,_,_,rfl⟩:=ar3 us hl;rfl
 have F43:=bD (st:=eW) l43 c43 k43
 have b43:=F43.binds (ps:=["_law_table","_law_state_here"]) fun _ _ _ _ _ _ us hl=>by obtain⟨_,_,rfl⟩:=ar2 us hl;rfl
 have F44:=bD (st:=dA) l44 c44 k44
 have b44:=F44.binds (ps:=["_law_hand","_law_table","_law_by"]) fun _ _ _ _ _ _ us hl=>by obtain⟨_,_,_,rfl⟩:=ar3 us hl;rfl
 have F45:=bD (st:=cA) l45 c45 k45
 have b45:=F45.binds (ps:=["_law_hand","_law_table"]) fun _ _ _ _ _ _ us hl=>by obtain⟨_,_,rfl⟩:=ar2 us hl;rfl
 have F46:=bD (st:=eJ) l46 c46 k46
 have b46:=F46.binds (ps:=["_law_machine_here","_law_state_here","_law_prices_here","_law_table","_law_least"]) fun _ _ _ _ _ _ us hl=>by obtain⟨_,_,_,_,_,rfl⟩:=ar5 us hl;rfl
 have F47:=bD (st:=aA2) l47 c47 k47
 have b47:=F47.binds (ps:=["_law_script"]) fun _ _ _ _ _ _ us hl=>by obtain⟨_,rfl⟩:=ar1 us hl;rfl
 have tx:Txt K mg { nE:=f0,nF:=_,nG:=f1,nH:=_,pS:=f2,pT:=_,jN:=f3,jO:=_,pU:=f4,pV:=_,nJ:=f5,nK:=_,tW:=f6,tX:=_,pW:=f7,pX:=_,lB:=f8,lC:=_,iJ:=f9,iK:=_,nL:=f10,nM:=_,iL:=f11,iM:=_,iN:=f12,iO:=_,nO:=f13,nP:=_,v7:=f14,v8:=_,jP:=f15,jQ:=_,lE:=f16,lF:=_,lG:=f17,lH:=_,nQ:=f18,nR:=_,iP:=f19,iQ:=_,lJ:=f20,lK:=_,pY:=f21,pZ:=_,p9:=f22,qA:=_,iR:=f23,iS:=_,fY:=f24,fZ:=_,lM:=f25,lN:=_,nS:=f26,nU:=_,jR:=f27,jS:=_,gA:=f28,gB:=_,lO:=f29,lP:=_,nV:=f30,nW:=_,eK:=f31,dB:=_,k_worths_of_states:=kc31,cH:=T31,iT:=f32,fM:=_,k_cheapest_run:=kc32,iW:=T32,lQ:=f33,lR:=_,lT:=f34,lU:=_,jT:=f35,jU:=_,qB:=f36,qC:=_,lV:=f37,lW:=_,nX:=f38,kI:=_,k_shows_run:=kc38,kJ:=T38,lX:=f39,lY:=_,nY:=f40,nZ:=_,jV:=f41,jW:=_,qD:=f42,qE:=_,jX:=f43,jY:=_,iU:=f44,iV:=_,gC:=f45,gE:=_,lZ:=f46,mB:=_,aGF:=fa,aGG:=_,aZ:=C0 }:={ oA:=F0,rZ:=b0,sA:=W.mg_of X G a0,aO:=F1,aP:=b1,aQ:=W.mg_of X G a1,u9:=F2,aA6:=b2,aA7:=W.mg_of X G a2,jZ:=F3,oM:=b3,oN:=W.mg_of X G a3,qF:=F4,vA:=b4,vB:=W.mg_of X G a4,d9:=F5,fN:=b5,fO:=W.mg_of X G a5,tY:=F6,yD:=b6,yE:=W.mg_of X G a6,vC:=F7,aA8:=b7,aA9:=W.mg_of X G a7,qG:=F8,v9:=b8,wA:=W.mg_of X G a8,sC:=F9,sD:=b9,sE:=F10,yW:=b10,yX:=W.mg_of X G a10,mP:=F11,sF:=b11,sG:=W.mg_of X G a11,sI:=F12,sJ:=b12,sL:=F13,yY:=b13,yZ:=W.mg_of X G a13,o5:=F14,sM:=b14,sN:=W.mg_of X G a14,gL:=F15,j0:=b15,j7:=W.mg_of X G a15,qH:=F16,wB:=b16,wC:=W.mg_of X G a16,qI:=F17,wD:=b17,wG:=W.mg_of X G a17,sO:=F18,y3:=b18,y4:=W.mg_of X G a18,mQ:=F19,sP:=b19,sQ:=W.mg_of X G a19,qJ:=F20,wH:=b20,wI:=W.mg_of X G a20,vD:=F21,aBa:=b21,aBb:=W.mg_of X G a21,qK:=F22,vE:=b22,vF:=W.mg_of X G a22,mR:=F23,sR:=b23,sS:=W.mg_of X G a23,jF:=F24,o6:=b24,o7:=W.mg_of X G a24,qL:=F25,wJ:=b25,wK:=W.mg_of X G a25,sU:=F26,y6:=b26,y7:=W.mg_of X G a26,oO:=F27,uL:=b27,uM:=W.mg_of X G a27,jG:=F28,o8:=b28,o9:=W.mg_of X G a28,qM:=F29,wL:=b29,wM:=W.mg_of X G a29,kK:=F30,oB:=b30,oC:=W.mg_of X G a30,eM:=F31,gX:=b31,gZ:=⟨rfl,th31⟩,gY:=W.mg_of X G a31,mS:=F32,sV:=b32,mW:=⟨rfl,th32⟩,sW:=W.mg_of X G a32,qN:=F33,wN:=b33,wO:=W.mg_of X G a33,qO:=F34,wQ:=b34,wR:=W.mg_of X G a34,oP:=F35,uN:=b35,uO:=W.mg_of X G a35,vG:=F36,aBc:=b36,aBd:=W.mg_of X G a36,qP:=F37,wU:=b37,wV:=W.mg_of X G a37,oE:=F38,sX:=b38,tF:=⟨rfl,th38⟩,sY:=W.mg_of X G a38,mC:=F39,qQ:=b39,qR:=W.mg_of X G a39,sZ:=F40,y8:=b40,y9:=W.mg_of X G a40,oQ:=F41,uP:=b41,uQ:=W.mg_of X G a41,vH:=F42,aBe:=b42,aBf:=W.mg_of X G a42,gM:=F43,j8:=b43,j9:=W.mg_of X G a43,mT:=F44,tD:=b44,tE:=W.mg_of X G a44,jH:=F45,pA:=b45,pB:=W.mg_of X G a45,qS:=F46,wW:=b46,wX:=W.mg_of X G a46,aKF:=F47,aM1:=b47,aM2:=W.mg_of X G a47,cC:=⟨pg0,hd0,po0,sa0⟩,aCG:=W.mg_of X G aC0,aCH:=⟨mk0,a9,i9,kc0⟩,m_Machine_gain:=⟨a12,i12,k12⟩,qT:=n0_up,mU:=n0_down,kO:=n0_begin,oR:=n0_run,mV:=n0_rest,kP:=n0_least,jI:=n0_pieces,aCI:=PySem.W.mg_none_of X G aCI,uR:=PySem.W.mg_none_of X G uR,aCJ:=PySem.W.mg_none_of X G aCJ,vI:=PySem.W.mg_none_of X G vI,vJ:=PySem.W.mg_none_of X G vJ,eA:=PySem.W.mg_none_of X G eA,aCK:=PySem.W.mg_none_of X G aCK,cI:=PySem.W.mg_none_of X G cI,fP:=PySem.W.mg_none_of X G fP,kQ:=PySem.W.mg_none_of X G kQ,tG:=PySem.W.mg_none_of X G tG,uS:=PySem.W.mg_none_of X G uS,dO:=PySem.W.mg_none_of X G dO,jJ:=PySem.W.mg_none_of X G jJ,mX:=PySem.W.mg_none_of X G mX,aCL:=PySem.W.mg_none_of X G aCL,tZ:=PySem.W.mg_none_of X G tZ,dC:=⟨_,W.mg_of X G dC⟩,eY:=⟨_,W.mg_of X G eY⟩ }
 exact⟨⟨_,th31⟩,⟨_,th32⟩,⟨_,th38⟩,_,fun s v=>.of_eq rfl,fun base _ _=>aMk tx⟩
theorem walk{l:PySem.W.OpenLaw}{q:Program}{loose:List Str}{XP:(Str->Option Value)->Heap->Prop}{YP:World->Heap->Prop}{d:DefRec}{K:Params->W.Frag}{T31 T32 T38:Addr}(hn:l.most=some 63)(hdf:d.params.defaults=[])(hI:∀(w:World) (h:Heap),YP w h->(K w.params).In h)
  (F:∀(w:World) (mg:Str->Option Value) (fa:Addr) (h:Heap),(K w.params).In h->h.Ns mainGlobals mg->mg d.name=some (.ref fa)->
   (∃c,PySem.W.codeHdIn (K w.params) c T31=true)/\(∃c,PySem.W.codeHdIn (K w.params) c T32=true)/\(∃c,PySem.W.codeHdIn (K w.params) c T38=true)/\∃fd:FuncData,(∀(s:Shared) (u:Value),BindsTo s fd ⟨[u],[]⟩ [("_law_script",u)])/\∀base:Heap,(K w.params).In base->base.Ns mainGlobals mg->bO l.prog w (K w.params) mg base iB 14 fa fd ["_law_script"] (aD2 (K w.params) T31 T32 T38))
  (hN:decide ([T31,T32,T38]:List Addr).Nodup=true) (hY:∀(w:World) (h:Heap),YP w h->∀t∈([T31,T32,T38]:List Addr),h.get? t=some { cls:=.none,data:=.fields #[] })
  (hK:∀w:World,(K w.params).lookup T31=none/\(K w.params).lookup T32=none/\(K w.params).lookup T38=none) :
  PySem.W.WalkO q loose XP YP l.row.toRowW d [] (fun f vs=>PySem.call f vs):=by
 refine L2.aIY (tabs:=[(T31,cD,cE),(T32,gO,gP),(T38,iX,iY)]) (n:=63) (k:=14) (x:="_law_script") (sp:=fun w=>aD2 (K w.params) T31 T32 T38) hn (by decide) hdf ⟨rfl,by decide,by decide⟩ (of_decide_eq_true hN) (fun w h Y=>⟨hI w h Y,fun t ht=>hY w h Y t.1 ?_⟩) (fun w t ht=>?_) (fun w mg fa h x1 x2 x3=>?_) (fun _ _ a ns hl hT hS=>?_)
 ·simp only[List.mem_cons,List.not_mem_nil,or_false] at ht
  rcases ht with rfl|rfl|rfl <;> simp
 ·have hk:=hK w
  simp only[List.mem_cons,List.not_mem_nil,or_false] at ht
  rcases ht with rfl|rfl|rfl
  ·exact hk.1
  ·exact hk.2.1
  ·exact hk.2.2
 ·obtain⟨c31,c32,c38,rest⟩:=F w mg fa h x1 x2 x3
  refine⟨fun t ht=>?_,rest⟩
  simp only[List.mem_cons,List.not_mem_nil,or_false] at ht
  rcases ht with rfl|rfl|rfl
  ·exact c31
  ·exact c32
  ·exact c38
 ·exact⟨a,ns,rfl,hS,hl,hT (T31,cD,cE) (by simp),hT (T32,gO,gP) (by simp),hT (T38,iX,iY) (by simp),fun H' s'=>⟨rfl,s'⟩⟩
end My
open PySem PySem.W PyProof.Rows
set_option maxRecDepth 100000 in
theorem PySem.Challenge.cw_stintwise_k45_whole_papers_never_tell_to_holds : PySem.Challenge.rw_stintwise_k45_whole_papers_never_tell_to.Holds := by
 w_on;o_law;k_head;(case hw=>w_witness2)
 k_fill
 refine' My.walk (l:=PySem.Challenge.rw_stintwise_k45_whole_papers_never_tell_to) rfl rfl (fun w h Y=>PySem.W.km_in_of Y) ?F ?hN0 ?hY0 ?hK0
 case F=>
  intro w mg fa h KX G hmg
  refine' My.all_mk KX G hmg ?aC0 ?a0 ?l0 ?c0 ?k0 ?a1 ?l1 ?c1 ?k1 ?a2 ?l2 ?c2 ?k2 ?a3 ?l3 ?c3 ?k3 ?a4 ?l4 ?c4 ?k4 ?a5 ?l5 ?c5 ?k5 ?a6 ?l6 ?c6 ?k6 ?a7 ?l7 ?c7 ?k7 ?a8 ?l8 ?c8 ?k8 ?a9 ?i9 ?l9 ?c9 ?k9 ?a10 ?l10 ?c10 ?k10 ?a11 ?l11 ?c11 ?k11 ?a12 ?i12 ?l12 ?c12 ?k12 ?a13 ?l13 ?c13 ?k13 ?a14 ?l14 ?c14 ?k14 ?a15 ?l15 ?c15 ?k15 ?a16 ?l16 ?c16 ?k16 ?a17 ?l17 ?c17 ?k17 ?a18 ?l18 ?c18 ?k18 ?a19 ?l19 ?c19 ?k19 ?a20 ?l20 ?c20 ?k20 ?a21 ?l21 ?c21 ?k21 ?a22 ?l22 ?c22 ?k22 ?a23 ?l23 ?c23 ?k23 ?a24 ?l24 ?c24 ?k24 ?a25 ?l25 ?c25 ?k25 ?a26 ?l26 ?c26 ?k26 ?a27 ?l27 ?c27 ?k27 ?a28 ?l28 ?c28 ?k28 ?a29 ?l29 ?c29 ?k29 ?a30 ?l30 ?c30 ?k30 ?a31 ?l31 ?c31 ?tl31 ?tv31 ?th31 ?k31 ?a32 ?l32 ?c32 ?tl32 ?tv32 ?th32 ?k32 ?a33 ?l33 ?c33 ?k33 ?a34 ?l34 ?c34 ?k34 ?a35 ?l35 ?c35 ?k35 ?a36 ?l36 ?c36 ?k36 ?a37 ?l37 ?c37 ?k37 ?a38 ?l38 ?c38 ?tl38 ?tv38 ?th38 ?k38 ?a39 ?l39 ?c39 ?k39 ?a40 ?l40 ?c40 ?k40 ?a41 ?l41 ?c41 ?k41 ?a42 ?l42 ?c42 ?k42 ?a43 ?l43 ?c43 ?k43 ?a44 ?l44 ?c44 ?k44 ?a45 ?l45 ?c45 ?k45 ?a46 ?l46 ?c46 ?k46 ?a47 ?l47 ?c47 ?k47 ?pg0 ?hd0 ?po0 ?sa0 ?mk0 ?kc0 ?n0_up ?n0_down ?n0_begin ?n0_run ?n0_rest ?n0_least ?n0_pieces ?aCI ?uR ?aCJ ?vI ?vJ ?eA ?aCK ?cI ?fP ?kQ ?tG ?uS ?dO ?jJ ?mX ?aCL ?tZ ?dC ?eY
  (case aC0=>k_is);(case a0=>k_is);(case l0=>k_is);(case c0=>k_is);(case k0=>k_is);(case a1=>k_is);(case l1=>k_is);(case c1=>k_is)
  (case k1=>k_is);(case a2=>k_is);(case l2=>k_is);(case c2=>k_is);(case k2=>k_is);(case a3=>k_is);(case l3=>k_is);(case c3=>k_is)
  (case k3=>k_is);(case a4=>k_is);(case l4=>k_is);(case c4=>k_is);(case k4=>k_is);(case a5=>k_is);(case l5=>k_is);(case c5=>k_is)
  (case k5=>k_is);(case a6=>k_is);(case l6=>k_is);(case c6=>k_is);(case k6=>k_is);(case a7=>k_is);(case l7=>k_is);(case c7=>k_is)
  (case k7=>k_is);(case a8=>k_is);(case l8=>k_is);(case c8=>k_is);(case k8=>k_is);(case a9=>k_is);(case i9=>k_is);(case l9=>k_is)
  (case c9=>k_is);(case k9=>k_is);(case a10=>k_is);(case l10=>k_is);(case c10=>k_is);(case k10=>k_is);(case a11=>k_is);(case l11=>k_is)
  (case c11=>k_is);(case k11=>k_is);(case a12=>k_is);(case i12=>k_is);(case l12=>k_is);(case c12=>k_is);(case k12=>k_is);(case a13=>k_is)
  (case l13=>k_is);(case c13=>k_is);(case k13=>k_is);(case a14=>k_is);(case l14=>k_is);(case c14=>k_is);(case k14=>k_is);(case a15=>k_is)
  (case l15=>k_is);(case c15=>k_is);(case k15=>k_is);(case a16=>k_is);(case l16=>k_is);(case c16=>k_is);(case k16=>k_is);(case a17=>k_is)
  (case l17=>k_is);(case c17=>k_is);(case k17=>k_is);(case a18=>k_is);(case l18=>k_is);(case c18=>k_is);(case k18=>k_is);(case a19=>k_is)
  (case l19=>k_is);(case c19=>k_is);(case k19=>k_is);(case a20=>k_is);(case l20=>k_is);(case c20=>k_is);(case k20=>k_is);(case a21=>k_is)
  (case l21=>k_is);(case c21=>k_is);(case k21=>k_is);(case a22=>k_is);(case l22=>k_is);(case c22=>k_is);(case k22=>k_is);(case a23=>k_is)
  (case l23=>k_is);(case c23=>k_is);(case k23=>k_is);(case a24=>k_is);(case l24=>k_is);(case c24=>k_is);(case k24=>k_is);(case a25=>k_is)
  (case l25=>k_is);(case c25=>k_is);(case k25=>k_is);(case a26=>k_is);(case l26=>k_is);(case c26=>k_is);(case k26=>k_is);(case a27=>k_is)
  (case l27=>k_is);(case c27=>k_is);(case k27=>k_is);(case a28=>k_is);(case l28=>k_is);(case c28=>k_is);(case k28=>k_is);(case a29=>k_is)
  (case l29=>k_is);(case c29=>k_is);(case k29=>k_is);(case a30=>k_is);(case l30=>k_is);(case c30=>k_is);(case k30=>k_is);(case a31=>k_is)
  (case l31=>k_is);(case c31=>k_is);(case tl31=>k_is);(case tv31=>exact rfl);(case th31=>kernel_rfl);(case k31=>k_is);(case a32=>k_is);(case l32=>k_is)
  (case c32=>k_is);(case tl32=>k_is);(case tv32=>exact rfl);(case th32=>kernel_rfl);(case k32=>k_is);(case a33=>k_is);(case l33=>k_is);(case c33=>k_is)
  (case k33=>k_is);(case a34=>k_is);(case l34=>k_is);(case c34=>k_is);(case k34=>k_is);(case a35=>k_is);(case l35=>k_is);(case c35=>k_is)
  (case k35=>k_is);(case a36=>k_is);(case l36=>k_is);(case c36=>k_is);(case k36=>k_is);(case a37=>k_is);(case l37=>k_is);(case c37=>k_is)
  (case k37=>k_is);(case a38=>k_is);(case l38=>k_is);(case c38=>k_is);(case tl38=>k_is);(case tv38=>exact rfl);(case th38=>kernel_rfl);(case k38=>k_is)
  (case a39=>k_is);(case l39=>k_is);(case c39=>k_is);(case k39=>k_is);(case a40=>k_is);(case l40=>k_is);(case c40=>k_is);(case k40=>k_is)
  (case a41=>k_is);(case l41=>k_is);(case c41=>k_is);(case k41=>k_is);(case a42=>k_is);(case l42=>k_is);(case c42=>k_is);(case k42=>k_is)
  (case a43=>k_is);(case l43=>k_is);(case c43=>k_is);(case k43=>k_is);(case a44=>k_is);(case l44=>k_is);(case c44=>k_is);(case k44=>k_is)
  (case a45=>k_is);(case l45=>k_is);(case c45=>k_is);(case k45=>k_is);(case a46=>k_is);(case l46=>k_is);(case c46=>k_is);(case k46=>k_is)
  (case a47=>k_is);(case l47=>k_is);(case c47=>k_is);(case k47=>k_is);(case pg0=>k_is);(case hd0=>k_is);(case po0=>k_is);(case sa0=>k_is)
  (case mk0=>k_is);(case kc0=>k_is);(case n0_up=>k_is);(case n0_down=>k_is);(case n0_begin=>k_is);(case n0_run=>k_is);(case n0_rest=>k_is);(case n0_least=>k_is)
  (case n0_pieces=>k_is);(case aCI=>k_is);(case uR=>k_is);(case aCJ=>k_is);(case vI=>k_is);(case vJ=>k_is);(case eA=>k_is);(case aCK=>k_is)
  (case cI=>k_is);(case fP=>k_is);(case kQ=>k_is);(case tG=>k_is);(case uS=>k_is);(case dO=>k_is);(case jJ=>k_is);(case mX=>k_is)
  (case aCL=>k_is);(case tZ=>k_is);(case dC=>k_is);(case eY=>k_is)
 case hN0=>exact rfl
 case hY0=>exact fun w h Y t ht=>PySem.W.km_tabs_of Y t (by revert t;decide)
 case hK0=>intro w;exact⟨by kernel_rfl,by kernel_rfl,by kernel_rfl⟩
