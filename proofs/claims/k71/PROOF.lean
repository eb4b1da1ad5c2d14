import PyProof.Rows.All
import Wide.All
import OpenK.AllK
import Wide.FinOn
import Lean
import PyProof.EqAt
import PyProof.EqKinds
import PyProof.NeKinds
import PyProof.TupleCall
import KE.KDictSum
import KE.KSortTup
import KE.KLam
import KE.KNestM
import PyProof.DictItems
import PyProof.DictValues
import PyProof.Rows.TupDisplay
import KE.KItemsList
import KE.KDictOf
import PyProof.AttrMissHeap
import PySem.Challenge.RW_stintwise_k71_bounds_by_prices
set_option Elab.async false
set_option linter.all false
set_option maxRecDepth 100000
namespace PySem.W.Fast
def tw8087734002699214772:=()
def tw7670838490301525277:=()
def tw187544731405316378:=()
def tw10827801793349146408:=()
def tw5399762205320863544:=()
def tw7418283394891178349:=()
def tw302619197052543931:=()
def tw10659248951591753185:=()
def tw13335006384881947703:=()
def tw5449148862657886772:=()
def tw11013940081742134548:=()
def tw9703376031863286753:=()
def tw7597755681655485574:=()
def tw5811080028520714787:=()
def tw17712566511802070206:=()
def tw6118761035464669852:=()
def tw14284651283398140223:=()
def tw17027109861084155676:=()
def tw2499531651096465830:=()
def tw3171974752059308142:=()
def tw5820675410186119580:=()
def tw7533518546762568587:=()
def tw3289462961357508828:=()
def tw5481987760629327004:=()
def tw16394351639457035480:=()
def tw2569476000601677713:=()
def tw4851292379960592389:=()
def tw14861233430218461433:=()
def tw6638042053872753719:=()
def tw17757499137951034919:=()
def tw9773287327214547744:=()
def tw6406139064890014786:=()
def tw3887784672752690585:=()
def tw11992045568656991105:=()
def tw1466989166026258247:=()
def tw12431166567273413234:=()
def tw12398820348235118631:=()
def tw18193105233142638934:=()
def tw7520621460112505598:=()
def tw17496638873203697646:=()
def tw17993160764444899752:=()
def tw1202158300692345129:=()
def tw9774297416063010809:=()
def tw7555560696334450263:=()
def tw17766311379697160286:=()
def tw820230475440317823:=()
def tw17402487403423146979:=()
def tw14927514420102916195:=()
def tw2962925767214860301:=()
def tw6455281776197447133:=()
def tw749925452885777712:=()
def tw3242995317505543459:=()
def tw9545839932026979864:=()
def tw843876336703908909:=()
def tw4938513516615217925:=()
def tw8853744717916556087:=()
def tw9254177868618395300:=()
def tw1327289242852132908:=()
def tw7480247152082409360:=()
def tw18253203310859518303:=()
def tw3404843603824313034:=()
def tw8197071198995091887:=()
def tw3651814376431235585:=()
def tw12100907630312467280:=()
def tw7085954131186879060:=()
def tw10605588197593683906:=()
def tw17952832563279366610:=()
def tw16769427391460802553:=()
def tw6975998664343036303:=()
def tw6568594817938218742:=()
def tw17652430167691030344:=()
def tw14206883705025870592:=()
def tw7445888133417971266:=()
def tw10859366474608604419:=()
def tw12618975529688921875:=()
def tw18149337642232749737:=()
def tw15806841163955755144:=()
def tw1528832055459480488:=()
def tw7171974859432263910:=()
def tw10503146746363867434:=()
def tw13599495410845679511:=()
def tw668815217193325872:=()
def tw12322376325455437830:=()
def tw5287158298806568366:=()
def tw5558685125841536577:=()
def tw6925712656489337895:=()
def tw6228461556499942065:=()
def tw12876272699419419646:=()
def tw10699654543852781190:=()
def tw7789967193540966644:=()
def tw10503601137458299166:=()
def tw6430705879255138369:=()
def tw16812209572548732753:=()
def tw2824157540173326976:=()
def tw17147665291494022750:=()
def tw4050507520022146273:=()
def tw2010173032613566924:=()
def tw15533077351307701090:=()
def tw3013130159600491919:=()
def tw14345680154253028764:=()
def tw262835170452505478:=()
def tw3662384424642120806:=()
def tw17474916516706023636:=()
def tw17557797549147815194:=()
def tw13063670981041979503:=()
def tw14564711061519689152:=()
def tw7216810333979881373:=()
def tw16855889685714716070:=()
def tw9196094073046640664:=()
def tw10105456751785155519:=()
def tw9607945178607035442:=()
def tw7710346639651705412:=()
def tw17632521880022990083:=()
def tw11114402185074058109:=()
def tw7781780015529105760:=()
def tw9740124761149583058:=()
def tw7941501586254736582:=()
def tw5760825551572617849:=()
def tw9003751057101385494:=()
def tw15615878398267292387:=()
def tw4462023157071915713:=()
def tw1182250187635391130:=()
def tw15611089731273460626:=()
def tw15938241913741877521:=()
def tw5719028528123426258:=()
def tw5101214604739984555:=()
def tw13640298489957568317:=()
def tw4016171183010192392:=()
def tw11716796311068820526:=()
def tw7586146356090317882:=()
def tw16993930762183967804:=()
def tw18059034956008075951:=()
def tw4008873324439483553:=()
def tw13917625476209551858:=()
def tw713246071400528101:=()
def tw12353741321280560176:=()
def tw14011130353525322955:=()
def tw5680981589234325417:=()
def tw1986758894998232988:=()
def tw7780256019885298389:=()
def tw9190406229438901563:=()
def tw14967723531958490787:=()
def tw12035580892874339333:=()
def tw6541086596298689821:=()
end PySem.W.Fast
set_option maxHeartbeats 0
namespace L2
open PySem PySem.Spec PyProof.Rows
abbrev Key:=Sum Int Str
def aBF:Key->Value->Bool
 |.inl k,v=>Value.isInt k v
 |.inr x,v=>Value.isStrOf x v
def aPB(w:World):Key->Int
 |.inl k=>hashInt k
 |.inr x=>hashStr w x
theorem cU:∀{k:Key}{v:Value},aBF k v=true->(∃i t,k=Sum.inl i/\v=Value.int i t)\/(∃x t,k=Sum.inr x/\v=Value.str x t)
 |.inl i,v,h=>by
  obtain⟨t,e⟩:=Value.isInt_shape (k:=i) (v:=v) h
  exact .inl ⟨i,t,rfl,e⟩
 |.inr x,v,h=>by
  obtain⟨t,e⟩:=Value.isStrOf_shape (x:=x) (v:=v) h
  exact .inr ⟨x,t,rfl,e⟩
theorem aJd(i:Int)(t:Tok):aBF (.inl i) (.int i t)=true:=by simp[aBF,Value.isInt]
theorem aJe(x:Str)(t:Tok):aBF (.inr x) (.str x t)=true:=by simp[aBF,Value.isStrOf]
theorem aNj(a b:Int):decide ((Sum.inl a:Key)=Sum.inl b)=(a == b):=by
 by_cases e:a=b
 ·subst e;simp
 ·have h:¬(Sum.inl a:Key)=Sum.inl b:=fun q=>e (Sum.inl.inj q)
  rw[decide_eq_false h]
  exact(beq_eq_false_iff_ne.mpr e).symm
theorem aNk(a b:Str):decide ((Sum.inr a:Key)=Sum.inr b)=decide (a=b):=by
 by_cases e:a=b
 ·subst e;simp
 ·have h:¬(Sum.inr a:Key)=Sum.inr b:=fun q=>e (Sum.inr.inj q)
  rw[decide_eq_false h,decide_eq_false e]
theorem aNl(a:Int)(b:Str):decide ((Sum.inl a:Key)=Sum.inr b)=false:=decide_eq_false (fun q=>nomatch q)
theorem aNm(a:Str)(b:Int):decide ((Sum.inr a:Key)=Sum.inl b)=false:=decide_eq_false (fun q=>nomatch q)
def cZ(prog:Program)(w:World):PySem.KeyKind prog w Key where
 is:=aBF
 hash:=aPB w
 inj:=fun v a b ha hb=>by
  rcases cU ha with ⟨i,t,rfl,rfl⟩|⟨x,t,rfl,rfl⟩
  ·rcases cU hb with ⟨j,u,rfl,e⟩|⟨y,u,rfl,e⟩
   ·injection e with e1 _;rw[e1]
   ·exact nomatch e
  ·rcases cU hb with ⟨j,u,rfl,e⟩|⟨y,u,rfl,e⟩
   ·exact nomatch e
   ·injection e with e1 _;rw[e1]
 byValue:=fun k v h=>by
  rcases cU h with ⟨i,t,rfl,rfl⟩|⟨x,t,rfl,rfl⟩ <;> rfl
 pyHash:=fun hv h=>by
  rcases cU hv with ⟨i,t,rfl,rfl⟩|⟨x,t,rfl,rfl⟩
  ·exact wpAny_pyHash_int h
  ·exact wpAny_pyHash_str h
 eqBool:=fun hu hv h=>by
  rcases cU hu with ⟨i,t,rfl,rfl⟩|⟨x,t,rfl,rfl⟩
  ·rcases cU hv with ⟨j,u,rfl,rfl⟩|⟨y,u,rfl,rfl⟩
   ·rw[aNj] at h;exact wpAny_eqBool_int h
   ·rw[aNl] at h;exact SeqAt.EqAt.int_str i t y u _ _ _ _ h
  ·rcases cU hv with ⟨j,u,rfl,rfl⟩|⟨y,u,rfl,rfl⟩
   ·rw[aNm] at h;exact SeqAt.EqAt.str_int x t j u _ _ _ _ h
   ·rw[aNk] at h;exact wpAny_eqBool_str h
 «strs»:=fun k x t v h=>by
  rcases cU h with ⟨i,u,rfl,e⟩|⟨y,u,rfl,e⟩
  ·exact nomatch e
  ·injection e with e1 _
   subst e1
   cases v <;> rfl
theorem aGs(prog:Program)(w:World)(i:Int)(t:Tok):(cZ prog w).is (.inl i) (.int i t)=true:=aJd i t
theorem aGt(prog:Program)(w:World)(x:Str)(t:Tok):(cZ prog w).is (.inr x) (.str x t)=true:=aJe x t
end L2
namespace L2
open PySem PySem.Spec PyProof.Rows
inductive V where
 |non|bl (b:Bool)|int (i:Int)|str (x:Str)|byt (b:Array UInt8)|flt (b:UInt64)|ref (a:Addr)|ty (n:String)
 deriving DecidableEq
def RelV:V->Value->Prop
 |.non,u=>u=Value.none
 |.bl b,u=>u=Value.bool b
 |.int i,u=>∃t,u=Value.int i t
 |.str x,u=>∃t,u=Value.str x t
 |.byt b,u=>∃t,u=Value.bytes b t
 |.flt b,u=>∃t,u=Value.float b t
 |.ref a,u=>u=Value.ref a
 |.ty n,u=>u=Value.type n
abbrev Vals:List V->List Value->Prop:=Paired RelV
theorem Vals.length{xs:List V}{us:List Value}(r:Vals xs us):xs.length=us.length:=Paired.length r
theorem Vals.get:∀{xs:List V}{us:List Value}{i:Nat}{x:V},Vals xs us->xs[i]?=some x->∃u,us[i]?=some u/\RelV x u
 |_,_,_,_,.nil,e=>by simp at e
 |_,_,0,_,.cons r _,e=>by simp at e;subst e;exact⟨_,rfl,r⟩
 |_,_,i+1,x,.cons _ t,e=>by
  obtain⟨u,h1,h2⟩:=Vals.get (i:=i) (x:=x) t (by simpa using e)
  exact⟨u,by simpa using h1,h2⟩
theorem Vals.set{x:V}{u:Value}(r:RelV x u):∀{xs:List V}{us:List Value}(i:Nat),Vals xs us->Vals (xs.set i x) (us.set i u)
 |_,_,_,.nil=>.nil
 |_,_,0,.cons _ t=>.cons r t
 |_,_,i+1,.cons q t=>.cons q (Vals.set r i t)
theorem Vals.append:∀{xs ys:List V}{us ws:List Value},Vals xs us->Vals ys ws->Vals (xs++ys) (us++ws)
 |_,_,_,_,.nil,s=>s
 |_,_,_,_,.cons r t,s=>.cons r (Vals.append t s)
theorem Vals.take:∀{xs:List V}{us:List Value}(n:Nat),Vals xs us->Vals (xs.take n) (us.take n)
 |_,_,0,_=>.nil
 |_,_,_+1,.nil=>.nil
 |_,_,n+1,.cons r t=>.cons r (Vals.take n t)
theorem Vals.drop:∀{xs:List V}{us:List Value}(n:Nat),Vals xs us->Vals (xs.drop n) (us.drop n)
 |_,_,0,r=>r
 |_,_,_+1,.nil=>.nil
 |_,_,n+1,.cons _ t=>Vals.drop n t
def vH:Option V->Option Value->Prop
 |some v,some u=>RelV v u
 |none,none=>True
 |_,_=>False
def KV{κ:Type}:List (κ×V)->List (κ×Value)->Prop:=Paired fun(p:κ×V) (q:κ×Value)=>p.1=q.1/\RelV p.2 q.2
def kV:Key->V
 |.inl i=>.int i
 |.inr x=>.str x
inductive HO where
 |lst (xs:List V)
 |tup (xs:List V)
 |dK (kvs:List (Key×V))|dT (kvs:List (List Key×V))
 |set (S:Int->Bool) (n:Nat)
 |ins (C dx:Addr) (fs:List (Str×V))
 |own (x:Addr)
 |xd (fs:List (Str×V))
 |met (f x:Addr)
 |rng (lo hi:Int)
 |frz (o:Obj) (u:HO)
 |tbl (ps:Array Value)
 |ext (φ:Heap->Prop)
 |cod (q:Str)|ctb (pos:Pos) (q:Str)
def Sty:HO->Prop
 |.tup _=>True
 |.cod _=>True
 |_=>False
abbrev Hp:=Addr->Option HO
def upd(H:Hp)(a:Addr)(o:HO):Hp:=fun b=>if b=a then some o else H b
theorem aH{H:Hp}{a:Addr}{o:HO}:upd H a o a=some o:=by unfold upd;rw[if_pos rfl]
theorem aR{H:Hp}{a b:Addr}{o:HO}(h:b≠a):upd H a o b=H b:=by unfold upd;rw[if_neg h]
theorem jR{H:Hp}{a:Addr}{o u:HO}:upd (upd H a o) a u=upd H a u:=by
 funext b;unfold upd;split <;> rfl
theorem aM5{H:Hp}{a b:Addr}{o u:HO}(h:H a=some o)(h':H b=some u)(d:o≠u):a≠b:=by
 intro e;subst e;rw[h] at h';exact d (Option.some.inj h')
theorem bF{H:Hp}{a b:Addr}{o:HO}(h:H a=some o)(h':H b=none):a≠b:=by
 intro e;subst e;rw[h] at h';cases h'
section
variable(P:Program)(w:World)
def bO(H:Hp)(h:Heap)(a:Addr):HO->Prop
 |.lst xs=>xs.length<=sizeLine/\∃(its:List Value) (n:Nat),Vals xs its/\h.get? a=some { cls:=.type "list",data:=.seq its.toArray n }
 |.tup xs=>xs.length<=sizeLine/\∃its:List Value,Vals xs its/\IsTup h a its.toArray
 |.dK kvs=>kvs.length<=sizeLine/\(a == sysModules)=false/\∃vs,KV kvs vs/\h.DictOf (cZ P w) a vs
 |.dT kvs=>kvs.length<=sizeLine/\(a == sysModules)=false/\∃xs:List (List Key×Addr×Value),
   Paired (fun(p:List Key×V) (q:List Key×Addr×Value)=>p.1=q.1/\H q.2.1=some (.tup (p.1.map kV))/\RelV p.2 q.2.2) kvs xs/\
   ∃o es ep,h.get? a=some o/\o.ExactDict/\o.data=.dict es ep/\es.toList=xs.map (entryOfKey (tupleKind (cZ P w)))/\(xs.map (·.1)).Nodup
 |.set S n=>h.SetOf (intKind P w) a S n
 |.ins C dx fs=>H dx=some (.own a)/\fs.length<=1000/\dx≠a/\h.get? a=some (PySem.W.instObj C dx)/\
   ∃mA,h.Ns1 dx mA/\(∀f,vH (fs.lookup f) (mA f))/\PySem.Within mA (fs.map (·.1))
 |.own _=>∃o,h.get? a=some o
 |.xd fs=>∃mA,h.Ns1 a mA/\∀f,vH (fs.lookup f) (mA f)
 |.rng lo hi=>∃t u v,h.get? a=some { cls:=.type "range",data:=.fields #[.int lo t,.int hi u,.int 1 v] }
 |.frz o u=>h.get? a=some o/\bO H h a u
 |.tbl ps=>h.get? a=some { cls:=.none,data:=.fields ps }
 |.met f x=>h.get? a=some (PySem.W.methodObj (.ref f) (.ref x))
 |.ext φ=>φ h/\(∃o,h.get? a=some o)/\∀h1 h2:Heap,φ h1->(∀o,h1.get? a=some o->h2.get? a=some o)->φ h2
 |.cod q=>∃o vs t,h.get? a=some o/\o.data=.fields vs/\vs[1]?=some (.str q t)
 |.ctb pos q=>∃ps:Array Value,h.get? a=some { cls:=.none,data:=.fields ps }/\TriplesOk ps.toList/\(codeAmong pos ps.toList=none\/∃c,codeAmong pos ps.toList=some (.ref c)/\H c=some (.cod q))
def vB(H:Hp)(h:Heap):Prop:=∀a o,H a=some o->bO P w H h a o
end
section
variable{P:Program}{w:World}{H H':Hp}{h h':Heap}{a:Addr}{o:HO}
theorem bO.lt(x:bO P w H h a o):a < h.objs.size:=by
 cases o with
 |lst xs=>obtain⟨_,_,_,_,e⟩:=x;exact Heap.lt_size e
 |tup xs=>obtain⟨_,_,_,p⟩:=x;exact p.lt
 |dK kvs=>obtain⟨_,_,_,_,o,_,_,e,_⟩:=x;exact Heap.lt_size e
 |dT kvs=>obtain⟨_,_,_,_,o,_,_,e,_⟩:=x;exact Heap.lt_size e
 |set S n=>obtain⟨o,_,_,_,e,_⟩:=x;exact Heap.lt_size e
 |ins C dx fs=>obtain⟨_,_,_,e,_⟩:=x;exact Heap.lt_size e
 |own y=>obtain⟨_,e⟩:=x;exact Heap.lt_size e
 |xd fs=>obtain⟨_,⟨_,_,_,e,_⟩,_⟩:=x;exact Heap.lt_size e
 |rng lo hi=>obtain⟨_,_,_,e⟩:=x;exact Heap.lt_size e
 |frz ob u=>obtain⟨e,_⟩:=x;exact Heap.lt_size e
 |tbl ps=>exact Heap.lt_size (show h.get? a=some _ from x)
 |met f y=>exact Heap.lt_size (show h.get? a=some _ from x)
 |ext φ=>obtain⟨_,⟨_,e⟩,_⟩:=x;exact Heap.lt_size e
 |cod q=>obtain⟨_,_,_,e,_⟩:=x;exact Heap.lt_size e
 |ctb pos q=>obtain⟨_,e,_⟩:=x;exact Heap.lt_size e
theorem Paired.aNn{α β:Type}{F G:α->β->Prop}:∀{l₁:List α}{l₂:List β},Paired F l₁ l₂->(∀a b,F a b->G a b)->Paired G l₁ l₂
 |_,_,.nil,_=>.nil
 |_,_,.cons r t,f=>.cons (f _ _ r) (Paired.aNn t f)
theorem bO.aB5(x:bO P w H h a o)(k:∀b u,(b=a\/H b=some (.own a))->h.get? b=some u->h'.get? b=some u)
  (ho:∀b,H b=some (.own a)->H' b=some (.own a)) (ht:∀b u,Sty u->H b=some u->H' b=some u):bO P w H' h' a o:=by
 induction o with
 |lst xs=>obtain⟨z,its,n,r,e⟩:=x;exact⟨z,its,n,r,k _ _ (.inl rfl) e⟩
 |tup xs=>obtain⟨z,its,r,ob,e,c⟩:=x;exact⟨z,its,r,ob,k _ _ (.inl rfl) e,c⟩
 |dK kvs=>obtain⟨z,y,vs,r,ob,es,ep,e,c⟩:=x;exact⟨z,y,vs,r,ob,es,ep,k _ _ (.inl rfl) e,c⟩
 |dT kvs=>
  obtain⟨z,y,xs,r,ob,es,ep,e,c⟩:=x
  exact⟨z,y,xs,Paired.aNn r fun p q z=>⟨z.1,ht _ _ trivial z.2.1,z.2.2⟩,ob,es,ep,k _ _ (.inl rfl) e,c⟩
 |set S n=>obtain⟨ob,es,ep,t,e,c⟩:=x;exact⟨ob,es,ep,t,k _ _ (.inl rfl) e,c⟩
 |ins C dx fs=>
  obtain⟨d,z,ne,e,mA,⟨od,es,ep,e2,c⟩,r⟩:=x
  exact⟨ho _ d,z,ne,k _ _ (.inl rfl) e,mA,⟨od,es,ep,k _ _ (.inr d) e2,c⟩,r⟩
 |own y=>obtain⟨ob,e⟩:=x;exact⟨ob,k _ _ (.inl rfl) e⟩
 |xd fs=>obtain⟨mA,⟨od,es,ep,e,c⟩,r⟩:=x;exact⟨mA,⟨od,es,ep,k _ _ (.inl rfl) e,c⟩,r⟩
 |rng lo hi=>obtain⟨t,u,v,e⟩:=x;exact⟨t,u,v,k _ _ (.inl rfl) e⟩
 |frz ob u ih=>obtain⟨e,q⟩:=x;exact⟨k _ _ (.inl rfl) e,ih q⟩
 |tbl ps=>
  have e:h.get? a=some { cls:=.none,data:=.fields ps }:=x
  show h'.get? a=some { cls:=.none,data:=.fields ps }
  exact k a _ (.inl rfl) e
 |met f y=>
  have e:h.get? a=some (PySem.W.methodObj (.ref f) (.ref y)):=x
  show h'.get? a=some (PySem.W.methodObj (.ref f) (.ref y))
  exact k a _ (.inl rfl) e
 |ext φ=>obtain⟨p,⟨o,e⟩,st⟩:=x;exact⟨st _ _ p fun o q=>k _ _ (.inl rfl) q,⟨o,k _ _ (.inl rfl) e⟩,st⟩
 |cod q=>obtain⟨o,vs,t,e,r⟩:=x;exact⟨o,vs,t,k _ _ (.inl rfl) e,r⟩
 |ctb pos q=>
  obtain⟨ps,e,t,c⟩:=x
  refine⟨ps,k _ _ (.inl rfl) e,t,?_⟩
  rcases c with c|⟨c,e1,e2⟩
  ·exact .inl c
  ·exact .inr ⟨c,e1,ht _ _ trivial e2⟩
theorem vB.lt(x:vB P w H h)(e:H a=some o):a < h.objs.size:=(x a o e).lt
theorem vB.fresh(x:vB P w H h)(e:h.objs.size<=a):H a=none:=by
 cases q:H a with
 |none=>rfl
 |some u=>exact absurd (Nat.lt_of_lt_of_le (x.lt q) e) (Nat.lt_irrefl _)
theorem vB.kept(x:vB P w H h)(k:∀b u,h.get? b=some u->h'.get? b=some u):vB P w H h':=fun a o e=>
 (x a o e).aB5 (fun b u _ q=>k b u q) (fun _ q=>q) fun _ _ _ q=>q
theorem vB.laid(x:vB P w H h)(k:∀b u,h.get? b=some u->h'.get? b=some u)(hp:h.objs.size<=a)(new:bO P w (upd H a o) h' a o):vB P w (upd H a o) h':=fun b u e=>by
 have hn:=x.fresh hp
 by_cases hb:b=a
 ·subst hb;rw[aH] at e;cases e;exact new
 ·rw[aR hb] at e
  exact(x b u e).aB5 (fun c v _ q=>k c v q) (fun c q=>by rw[aR (bF q hn)];exact q) fun c xs _ q=>by rw[aR (bF q hn)];exact q
end
def Rd(H:Hp)(a:Addr)(u:HO):Prop:=H a=some u\/∃o,H a=some (.frz o u)
theorem Rd.ok{P:Program}{w:World}{H:Hp}{h:Heap}{a:Addr}{u:HO}(r:Rd H a u)(x:vB P w H h):bO P w H h a u:=by
 rcases r with r|⟨o,r⟩
 ·exact x a u r
 ·obtain⟨_,q⟩:=x a _ r
  exact q
def Mut:Option HO->Prop
 |some (.lst _)=>True
 |some (.dK _)=>True
 |some (.dT _)=>True
 |some (.set _ _)=>True
 |some (.ins _ _ _)=>True
 |some (.ext _)=>True
 |_=>False
section
variable{P:Program}{w:World}{H:Hp}{h h':Heap}{x e:Addr}{o':HO}
theorem vB.write(ok:vB P w H h)(mu:Mut (H x))(he:e=x\/H e=some (.own x))(k:∀b u,b≠e->h.get? b=some u->h'.get? b=some u)(heo:∃u,h'.get? e=some u)
  (new:bO P w (upd H x o') h' x o'):vB P w (upd H x o') h':=fun b u q=>by
 have nown:∀c y,H c=some (.own y)->c≠x:=fun c y r z=>by subst z;rw[r] at mu;exact mu
 have aJ9:∀c u,Sty u->H c=some u->c≠x:=fun c u y r z=>by
  subst z
  rw[r] at mu
  cases u <;> first|exact mu|exact y
 by_cases hb:b=x
 ·subst hb;rw[aH] at q;cases q;exact new
 ·rw[aR hb] at q
  by_cases hbe:b=e
  ·have q':H b=some (.own x):=by
    rcases he with z|z
    ·exact absurd (hbe.trans z) hb
    ·rw[hbe];exact z
   rw[q] at q';cases q'
   obtain⟨v,hv⟩:=heo
   exact⟨v,by rw[hbe];exact hv⟩
  ·refine(ok b u q).aB5 (fun c v hc r=>k c v ?_ r) (fun c r=>by rw[aR (nown c b r)];exact r) fun c xs y r=>by rw[aR (aJ9 c xs y r)];exact r
   rcases hc with rfl|hc
   ·exact hbe
   ·rintro rfl
    rcases he with z|z
    ·exact nown c b hc z
    ·rw[hc] at z;cases z;exact hb rfl
end
structure Un(fs ex:List Addr)(H H':Hp)(h h':Heap):Prop where
 keep:∀b o,h.get? b=some o->H b=none->b∉fs->b∉ex->h'.get? b=some o
 slot:∀b o,h.get? b=some o->H b=none->b∈fs->b∉ex->∃sl,h'.get? b=some { o with slots:=sl }
 free:∀b o,h.get? b=some o->H b=none->b∉ex->H' b=none
 there:∀b o,h.get? b=some o->b∉ex->∃o',h'.get? b=some o'
 vL:∀b xs,H b=some (.tup xs)->H' b=some (.tup xs)
 frzs:∀b o u,H b=some (.frz o u)->H' b=some (.frz o u)
 tbls:∀b ps,H b=some (.tbl ps)->∃more,H' b=some (.tbl (ps++more))
section
variable{fs fs' ex ex':List Addr}{H H1 H2:Hp}{h h1 h2 h':Heap}{a x e:Addr}{o:HO}
theorem Un.any(u:Un fs ex H H1 h h1){b:Addr}{ob:Obj}(q:h.get? b=some ob)(n:H b=none)(hx:b∉ex):∃sl,h1.get? b=some { ob with slots:=sl }:=by
 by_cases hb:b∈fs
 ·exact u.slot b ob q n hb hx
 ·exact⟨ob.slots,u.keep b ob q n hb hx⟩
theorem Un.trans(a:Un fs ex H H1 h h1)(b:Un fs ex H1 H2 h1 h2):Un fs ex H H2 h h2 where
 keep:=fun c ob q n hc hx=>b.keep c ob (a.keep c ob q n hc hx) (a.free c ob q n hx) hc hx
 slot:=fun c ob q n hc hx=>by
  obtain⟨sl,e1⟩:=a.slot c ob q n hc hx
  obtain⟨sl',e2⟩:=b.slot c _ e1 (a.free c ob q n hx) hc hx
  exact⟨sl',e2⟩
 free:=fun c ob q n hx=>by
  obtain⟨o',e1⟩:=a.there c ob q hx
  exact b.free c o' e1 (a.free c ob q n hx) hx
 there:=fun c ob q hx=>by
  obtain⟨o',e1⟩:=a.there c ob q hx
  exact b.there c o' e1 hx
 vL:=fun c xs q=>b.vL c xs (a.vL c xs q)
 frzs:=fun c ob xs q=>b.frzs c ob xs (a.frzs c ob xs q)
 tbls:=fun c ps q=>by
  obtain⟨m1,e1⟩:=a.tbls c ps q
  obtain⟨m2,e2⟩:=b.tbls c _ e1
  exact⟨m1++m2,by rw[e2,Array.append_assoc]⟩
theorem Un.kept(k:∀b u,h.get? b=some u->h'.get? b=some u):Un fs ex H H h h':=
 ⟨fun b ob q _ _ _=>k b ob q,fun b ob q _ _ _=>⟨ob.slots,k b ob q⟩,fun _ _ _ n _=>n,fun b ob q _=>⟨ob,k b ob q⟩,fun _ _ q=>q,fun _ _ _ q=>q,fun _ ps q=>⟨#[],by rw[q];simp⟩⟩
theorem Un.refl:Un fs ex H H h h:=Un.kept fun _ _ q=>q
theorem Un.laid(k:∀b u,h.get? b=some u->h'.get? b=some u)(hp:h.objs.size<=a)(hn:H a=none):Un fs ex H (upd H a o) h h' where
 keep:=fun b u q _ _ _=>k b u q
 slot:=fun b u q _ _ _=>⟨u.slots,k b u q⟩
 free:=fun b u q n _=>by rw[aR (Nat.ne_of_lt (Nat.lt_of_lt_of_le (Heap.lt_size q) hp))];exact n
 there:=fun b u q _=>⟨u,k b u q⟩
 vL:=fun b xs q=>by rw[aR (bF q hn)];exact q
 frzs:=fun b u xs q=>by rw[aR (bF q hn)];exact q
 tbls:=fun b ps q=>⟨#[],by rw[aR (bF q hn),q];simp⟩
theorem Un.write(mu:Mut (H x))(he:e=x\/H e=some (.own x))(k:∀b u,b≠e->h.get? b=some u->h'.get? b=some u)(heo:∃u,h'.get? e=some u):Un fs ex H (upd H x o) h h':=by
 have hx:∀b,H b=none->b≠x:=fun b n z=>by subst z;rw[n] at mu;exact mu
 have hb:∀b,H b=none->b≠e:=fun b n z=>by
  subst z
  rcases he with r|r
  ·exact hx b n r
  ·rw[n] at r;cases r
 have hm:∀b u,H b=some u->¬Mut (some u)->b≠x:=fun b u q nm z=>by subst z;rw[q] at mu;exact nm mu
 refine⟨fun b u q n _ _=>k b u (hb b n) q,fun b u q n _ _=>⟨u.slots,k b u (hb b n) q⟩,fun b u q n _=>by rw[aR (hx b n)];exact n,fun b u q _=>?_,
  fun b xs q=>by rw[aR (hm b _ q fun z=>z)];exact q,fun b u xs q=>by rw[aR (hm b _ q fun z=>z)];exact q,fun b ps q=>⟨#[],by rw[aR (hm b _ q fun z=>z),q];simp⟩⟩
 by_cases hbe:b=e
 ·subst hbe;exact heo
 ·exact⟨u,k b u hbe q⟩
end
def trk(h:Heap)(H:Hp):List Addr:=(List.range h.objs.size).filter fun a=>(H a).isSome
def yB(h:Heap)(H:Hp):Heap:=PySem.W.hideAll h (trk h H)
theorem aEL(h:Heap)(H:Hp):(yB h H).objs.size=h.objs.size:=PySem.W.hideAll_size _ _
theorem aGu{h:Heap}{H:Hp}{b:Addr}{o:Obj}(e:h.get? b=some o)(n:H b=none):(yB h H).get? b=some o:=
 PySem.W.hideAll_get _ e fun hm=>by
  have q:(H b).isSome=true:=(List.mem_filter.mp hm).2
  rw[n] at q;simp at q
theorem aIx{h:Heap}{H:Hp}{b:Addr}{o:Obj}(e:(yB h H).get? b=some o):h.get? b=some o/\H b=none:=by
 have e':h.get? b=some o:=PySem.W.of_hideAll (trk h H) e
 refine⟨e',?_⟩
 cases q:H b with
 |none=>rfl
 |some x=>
  have hm:b∈trk h H:=List.mem_filter.mpr ⟨List.mem_range.mpr (Heap.lt_size e'),by simp[q]⟩
  have z:(yB h H).get? b=none:=PySem.W.hideAll_none (trk h H) hm
  rw[z] at e;cases e
def aL1(g h:Heap)(L:Addr):List (Addr×Obj):=(List.range h.objs.size).filterMap fun a=>if a=L\/(g.get? a).isSome=true then none else (h.get? a).map fun o=>(a,o)
def rest(g h:Heap)(L d:Addr):List (Addr×Obj):=(aL1 g h L).filter fun p=>decide (p.1≠d)
end L2
namespace L2
open PySem PySem.Spec PyProof.Rows
structure Mod(K:W.Frag)(mg:Str->Option Value)(base:Heap):Prop where
 kin:K.In base
 glob:base.Ns mainGlobals mg
 blt:∃mb,base.Ns builtinsNs mb/\∀x:Str,x≠"__name__"->mb x=bootBuiltins x
 nolimit:base.NoLimit
 bm:∃bm o,mg "__builtins__" = some (.ref bm)/\bm≠builtinsNs/\base.get? bm=some o/\o.cls=.type "module"/\o.dict=some builtinsNs/\o.data=.plain
structure Cx where
 prog:Program
 w:World
 K:W.Frag
 mg:Str->Option Value
 base:Heap
 A:Around
 N:List Str
 s₀:Shared
 H₀:Hp
 env:Env
 outer:List Env
 stack:List Env
 ex:List Addr
 fn:Str->Bool
 calm:Bool
 pn:List (Addr×Obj)
 xe:Value->Shared->Prop
def frs(l:List Env):List Addr:=l.filterMap (·.frame)
abbrev Cx.fs(X:Cx):List Addr:=frs X.outer
def Vis(sc:Scope)(x:Str):Prop:=sc.names.lookup x=some .local\/sc.names.lookup x=some .cell\/sc.names.lookup x=some .free
def Loc(sc:Scope)(x:Str):Prop:=sc.names.lookup x=some .local\/sc.names.lookup x=some .cell
def Look(env:Env)(h:Heap)(m:Str->Option Value)(x:Str)(u:Value):Prop:=
 (env.kindOf x=some .local/\m x=some u)\/((env.kindOf x=some .cell\/env.kindOf x=some .free)/\∃c,env.cells.lookup x=some c/\h.IsCell c (some u))
structure Cx.Ok(X:Cx):Prop where
 mod:Mod X.K X.mg X.base
 kind:X.env.scope.kind=.function
 glob:X.env.globals=mainGlobals
 blt:X.env.builtins=builtinsNs
 above:X.s₀.heap.objs.size<=X.env.locals
 inj:∀x y c,X.env.cells.lookup x=some c->X.env.cells.lookup y=some c->x=y
 has:∀x,(X.env.kindOf x=some .cell\/X.env.kindOf x=some .free)->∃c,X.env.cells.lookup x=some c
 cab:∀x c,X.fn x=true->X.env.cells.lookup x=some c->X.s₀.heap.objs.size<=c
 hd:X.calm=true->X.A.handled=none
 frames:X.A.frames=some X.stack
 stk:X.stack=X.outer\/(X.stack=X.env::X.outer/\X.env.frame=some X.env.locals)
 exf:∀b∈X.ex,b≠X.env.locals/\∀x c,X.env.cells.lookup x=some c->c≠b
 bs:∀b o,X.base.get? b=some o->X.s₀.heap.get? b=some o/\X.H₀ b=none
 bsz:X.base.objs.size<=X.s₀.heap.objs.size
 noex:∀b o,X.base.get? b=some o->b∉X.ex
 exfs:∀b∈X.ex,b∉X.fs
 zT:X.s₀.heap.FunFrames X.base X.outer
 frf:∀b∈X.fs,X.H₀ b=none
structure Inv(X:Cx)(P9:List (Addr×Obj))(σ:List (Option V))(H:Hp)(s:Shared):Prop where
 ok:X.Ok
 os:s.os=X.s₀.os
 bare:AllBare s.gens
 base:Un X.fs X.ex X.H₀ H X.s₀.heap s.heap
 loc:∃m,s.heap.Ns X.env.locals m/\∀(i:Nat) (x:Str) (v:V),X.N[i]?=some x->σ[i]?=some (some v)->Vis X.env.scope x->∃u,RelV v u/\Look X.env s.heap m x u
 cell:∀x c,X.env.cells.lookup x=some c->∃v,s.heap.IsCell c v
 free:H X.env.locals=none
 freeC:∀x c,X.env.cells.lookup x=some c->H c=none
 pin:∀p∈X.pn++P9,s.heap.get? p.1=some p.2/\H p.1=none/\p.1≠X.env.locals/\p.1∉X.fs/\∀v,p.2.data≠.cell v
 hok:vB X.prog X.w H s.heap
 len:σ.length=X.N.length
section
variable{X:Cx}{P9:List (Addr×Obj)}{σ:List (Option V)}{H H':Hp}{s:Shared}{h':Heap}
theorem Cx.Ok.aPC(ok:X.Ok){b:Addr}{o:Obj}(e:X.base.get? b=some o):b∉X.fs:=fun hb=>by
 have:=(ok.zT.mem hb).1
 rw[e] at this;cases this
theorem Inv.bs(I:Inv X P9 σ H s):∀b o,X.base.get? b=some o->s.heap.get? b=some o/\H b=none:=fun b o e=>
 ⟨I.base.keep b o (I.ok.bs b o e).1 (I.ok.bs b o e).2 (I.ok.aPC e) (I.ok.noex b o e),I.base.free b o (I.ok.bs b o e).1 (I.ok.bs b o e).2 (I.ok.noex b o e)⟩
theorem Inv.bk(I:Inv X P9 σ H s):∀b o,X.base.get? b=some o->s.heap.get? b=some o:=fun b o e=>(I.bs b o e).1
theorem Inv.mod(I:Inv X P9 σ H s):Mod X.K X.mg X.base:=I.ok.mod
theorem Inv.kIn(I:Inv X P9 σ H s):X.K.In s.heap:=I.ok.mod.kin.keeps I.bk
theorem Inv.lt(I:Inv X P9 σ H s):X.env.locals < s.heap.objs.size:=let ⟨_,hn,_⟩:=I.loc;hn.lt
theorem Inv.sz(I:Inv X P9 σ H s):X.s₀.heap.objs.size<=s.heap.objs.size:=Nat.le_trans I.ok.above (Nat.le_of_lt I.lt)
theorem Inv.aPD(I:Inv X P9 σ H s){a:Addr}(h:s.heap.objs.size<=a):a∉X.fs:=fun hb=>by
 obtain⟨_,o,ho,_⟩:=I.ok.zT.mem hb
 exact absurd (Nat.lt_of_lt_of_le (Heap.lt_size ho) (Nat.le_trans I.sz h)) (Nat.lt_irrefl _)
theorem Inv.cne(I:Inv X P9 σ H s):∀x c,X.env.cells.lookup x=some c->c≠X.env.locals:=fun x c e z=>by
 obtain⟨v,o,ho,hd⟩:=I.cell x c e
 obtain⟨m,⟨o',es,ep,ho',hd',_⟩,_⟩:=I.loc
 rw[z,ho'] at ho;cases ho;rw[hd'] at hd;cases hd
theorem Inv.zT(I:Inv X P9 σ H s):s.heap.FunFrames X.base X.outer:=by
 have all:∀(l:List Env),(∀b∈frs l,b∈X.fs)->X.s₀.heap.FunFrames X.base l->s.heap.FunFrames X.base l:=by
  intro l
  induction l with
  |nil=>intro _ _;trivial
  |cons env r ih=>
   intro hs hl
   obtain⟨hk,⟨L,o,hf,hn,ho,hd⟩,hr⟩:=hl
   have hL:L∈X.fs:=hs L (by unfold frs;rw[List.filterMap_cons,hf];exact List.mem_cons_self)
   obtain⟨sl,e⟩:=I.base.slot L o ho (I.ok.frf L hL) hL fun z=>I.ok.exfs L z hL
   exact⟨hk,⟨L,_,hf,hn,e,hd⟩,ih (fun b hb=>hs b (by unfold frs;rw[List.filterMap_cons,hf];exact List.mem_cons_of_mem _ hb)) hr⟩
 exact all X.outer (fun _ hb=>hb) I.ok.zT
theorem Inv.stack(I:Inv X P9 σ H s):s.heap.FunFrames X.base X.stack:=by
 rcases I.ok.stk with e|⟨e,hf⟩
 ·rw[e];exact I.zT
 ·rw[e]
  obtain⟨m,hn,_⟩:=I.loc
  refine .cons (by rw[I.ok.kind];decide) hf hn ?_ I.zT
  exact Heap.get?_none_of_le (Nat.le_trans I.ok.bsz I.ok.above)
theorem Inv.aCE(I:Inv X P9 σ H s):∀b∈frs X.stack,b∈X.env.locals::X.fs:=fun b hb=>by
 rcases I.ok.stk with e|⟨e,hf⟩
 ·rw[e] at hb;exact List.mem_cons_of_mem _ hb
 ·rw[e] at hb
  unfold frs at hb
  rw[List.filterMap_cons,hf] at hb
  exact hb
theorem Inv.aFf(I:Inv X P9 σ H s):∀b∈frs X.stack,H b=none:=fun b hb=>by
 rcases List.mem_cons.mp (I.aCE b hb) with e|hb
 ·rw[e];exact I.free
 ·obtain⟨_,o,ho,_⟩:=I.ok.zT.mem hb
  exact I.base.free b o ho (I.ok.frf b hb) fun z=>I.ok.exfs b z hb
theorem Inv.step{g':Array GenState}{t':Nat}{d':Drawn}{ch:List Addr}(I:Inv X P9 σ H s)
  (hch:∀b∈ch,(b∈X.ex\/X.s₀.heap.objs.size<=b)/\b≠X.env.locals/\(∀x c,X.env.cells.lookup x=some c->c≠b)/\∀p∈X.pn++P9,p.1≠b)
  (keep:∀b o,b≠X.env.locals->b∉X.fs->b∉ch->s.heap.get? b=some o->H b=none->h'.get? b=some o)
  (slot:∀b o,b≠X.env.locals->b∈X.fs->b∉ch->s.heap.get? b=some o->H b=none->∃sl,h'.get? b=some { o with slots:=sl }) (free:∀b o,b∉ch->s.heap.get? b=some o->H b=none->H' b=none)
  (there:∀b o,b∉ch->s.heap.get? b=some o->∃o',h'.get? b=some o')
  (vL:∀b xs,H b=some (.tup xs)->H' b=some (.tup xs)) (frzs:∀b o u,H b=some (.frz o u)->H' b=some (.frz o u)) (tbls:∀b ps,H b=some (.tbl ps)->∃more,H' b=some (.tbl (ps++more)))
  (ns:∀m,s.heap.Ns X.env.locals m->h'.Ns X.env.locals m) (hok:vB X.prog X.w H' h') (hg:AllBare g') :
  Inv X P9 σ H' { s with heap:=h',gens:=g',drawn:=d',toks:=t' }:=by
 have neL:∀b o,X.s₀.heap.get? b=some o->b≠X.env.locals:=fun b o e=>Nat.ne_of_lt (Nat.lt_of_lt_of_le (Heap.lt_size e) I.ok.above)
 have neC:∀b o,X.s₀.heap.get? b=some o->b∉X.ex->b∉ch:=fun b o e hx hb=>by
  rcases(hch b hb).1 with z|z
  ·exact hx z
  ·exact absurd (Nat.lt_of_lt_of_le (Heap.lt_size e) z) (Nat.lt_irrefl _)
 have cellK:∀x c,X.env.cells.lookup x=some c->∀v,s.heap.IsCell c v->h'.IsCell c v:=fun x c e v ⟨o,ho,hd⟩=>by
  have nch:c∉ch:=fun z=>(hch c z).2.2.1 x c e rfl
  by_cases hc:c∈X.fs
  ·obtain⟨sl,q⟩:=slot c o (I.cne x c e) hc nch ho (I.freeC x c e)
   exact⟨_,q,hd⟩
  ·exact⟨o,keep c o (I.cne x c e) hc nch ho (I.freeC x c e),hd⟩
 refine⟨I.ok,I.os,hg,⟨fun b o e n hb hx=>?_,fun b o e n hb hx=>?_,fun b o e n hx=>?_,fun b o e hx=>?_,fun b xs e=>vL b xs (I.base.vL b xs e),fun b o xs e=>frzs b o xs (I.base.frzs b o xs e),fun b ps e=>?_⟩,?_,fun x c e=>?_,?_,fun x c e=>?_,fun p hp=>?_,hok,I.len⟩
 ·exact keep b o (neL b o e) hb (neC b o e hx) (I.base.keep b o e n hb hx) (I.base.free b o e n hx)
 ·obtain⟨sl,e1⟩:=I.base.slot b o e n hb hx
  obtain⟨sl',e2⟩:=slot b _ (neL b o e) hb (neC b o e hx) e1 (I.base.free b o e n hx)
  exact⟨sl',e2⟩
 ·obtain⟨o',e1⟩:=I.base.there b o e hx
  exact free b o' (neC b o e hx) e1 (I.base.free b o e n hx)
 ·obtain⟨o',e1⟩:=I.base.there b o e hx
  exact there b o' (neC b o e hx) e1
 ·obtain⟨m1,e1⟩:=I.base.tbls b ps e
  obtain⟨m2,e2⟩:=tbls b _ e1
  exact⟨m1++m2,by rw[e2,Array.append_assoc]⟩
 ·obtain⟨m,hn,hl⟩:=I.loc
  refine⟨m,ns m hn,fun i x v e1 e2 e3=>?_⟩
  obtain⟨u,r,l⟩:=hl i x v e1 e2 e3
  refine⟨u,r,?_⟩
  rcases l with l|⟨k,c,e,z⟩
  ·exact .inl l
  ·exact .inr ⟨k,c,e,cellK x c e _ z⟩
 ·obtain⟨v,z⟩:=I.cell x c e
  exact⟨v,cellK x c e v z⟩
 ·obtain⟨m,⟨o,_,_,ho,_⟩,_⟩:=I.loc
  exact free _ o (fun z=>(hch _ z).2.1 rfl) ho I.free
 ·obtain⟨v,o,ho,hd⟩:=I.cell x c e
  exact free c o (fun z=>(hch c z).2.2.1 x c e rfl) ho (I.freeC x c e)
 ·obtain⟨e,n,ne,nf,d⟩:=I.pin p hp
  have nch:p.1∉ch:=fun z=>(hch p.1 z).2.2.2 p hp rfl
  exact⟨keep p.1 p.2 ne nf nch e n,free p.1 p.2 nch e n,ne,nf,d⟩
theorem Inv.un{t':Nat}(I:Inv X P9 σ H s)(u:Un X.fs [] H H' s.heap h')(hok:vB X.prog X.w H' h'):Inv X P9 σ H' { s with heap:=h',toks:=t' }:=by
 obtain⟨m,⟨o,es,ep,ho,r⟩,_⟩:=id I.loc
 obtain⟨sl,hL⟩:=u.any ho I.free (by simp)
 exact I.step (g':=s.gens) (d':=s.drawn) (ch:=[]) (fun _ z=>nomatch z) (fun b o _ hb _ e n=>u.keep b o e n hb (by simp)) (fun b o _ hb _ e n=>u.slot b o e n hb (by simp)) (fun b o _ e n=>u.free b o e n (by simp)) (fun b o _ e=>u.there b o e (by simp)) u.vL u.frzs u.tbls (fun m' hm=>by
  obtain⟨o',es',ep',ho',r'⟩:=hm
  rw[ho] at ho';cases ho'
  exact⟨_,es',ep',hL,r'⟩) hok I.bare
theorem Inv.call{g':Array GenState}{t':Nat}{d':Drawn}{ch:List Addr}(I:Inv X P9 σ H s)(u:Un (frs X.stack) ch H H' s.heap h')(hok:vB X.prog X.w H' h')(hg:AllBare g')
  (hch:∀b∈ch,(b∈X.ex\/X.s₀.heap.objs.size<=b)/\b≠X.env.locals/\(∀x c,X.env.cells.lookup x=some c->c≠b)/\∀p∈X.pn++P9,p.1≠b) :
  Inv X P9 σ H' { s with heap:=h',gens:=g',drawn:=d',toks:=t' }:=by
 obtain⟨m,⟨o,es,ep,ho,r⟩,_⟩:=id I.loc
 obtain⟨sl,hL⟩:=u.any ho I.free fun z=>(hch _ z).2.1 rfl
 exact I.step (ch:=ch) hch (fun b o hL hb hc e n=>u.keep b o e n (fun z=>(List.mem_cons.mp (I.aCE b z)).elim hL hb) hc) (fun b o _ _ hc e n=>u.any e n hc) (fun b o hc e n=>u.free b o e n hc) (fun b o hc e=>u.there b o e hc) u.vL u.frzs u.tbls (fun m' hm=>by
  obtain⟨o',es',ep',ho',r'⟩:=hm
  rw[ho] at ho';cases ho'
  exact⟨_,es',ep',hL,r'⟩) hok hg
theorem Inv.turned{t':Nat}{it:Addr}(I:Inv X P9 σ H s)(k:∀b o,b≠it->s.heap.get? b=some o->h'.get? b=some o)(hn:H it=none)(hL:it≠X.env.locals)
  (h1:it∈X.ex\/X.s₀.heap.objs.size<=it) (h2:∀x c,X.env.cells.lookup x=some c->c≠it) (h3:∀p∈X.pn++P9,p.1≠it):Inv X P9 σ H { s with heap:=h',toks:=t' }:=by
 have nit:∀b u,H b=some u->b≠it:=fun b u e z=>by rw[z,hn] at e;cases e
 refine I.step (g':=s.gens) (d':=s.drawn) (ch:=[it]) (fun b hb=>?_) (fun b o _ _ hc e _=>k b o (fun z=>hc (by simp[z])) e) (fun b o _ _ hc e _=>⟨o.slots,k b o (fun z=>hc (by simp[z])) e⟩) (fun _ _ _ _ n=>n)
  (fun b o hc e=>⟨o,k b o (fun z=>hc (by simp[z])) e⟩) (fun _ _ e=>e) (fun _ _ _ e=>e) (fun b ps e=>⟨#[],by rw[e];simp⟩) (fun m hm=>?_) (fun b u e=>?_) I.bare
 ·have e:b=it:=by simpa using hb
  subst e
  exact⟨h1,hL,h2,h3⟩
 ·obtain⟨o,es,ep,ho,r⟩:=hm
  exact⟨o,es,ep,k _ o (Ne.symm hL) ho,r⟩
 ·refine(I.hok b u e).aB5 (fun c v hc q=>k c v ?_ q) (fun _ q=>q) fun _ _ _ q=>q
  rcases hc with z|z
  ·rw[z];exact nit b u e
  ·exact nit c _ z
theorem Inv.tok(I:Inv X P9 σ H s)(t:Nat):Inv X P9 σ H { s with toks:=t }:=I.un (h':=s.heap) (t':=t) Un.refl I.hok
theorem Inv.kept{t':Nat}(I:Inv X P9 σ H s)(k:∀b u,s.heap.get? b=some u->h'.get? b=some u):Inv X P9 σ H { s with heap:=h',toks:=t' }:=I.un (Un.kept k) (I.hok.kept k)
theorem Inv.laid{a:Addr}{o:HO}{t':Nat}(I:Inv X P9 σ H s)(k:∀b u,s.heap.get? b=some u->h'.get? b=some u)(hp:s.heap.objs.size<=a)(new:bO X.prog X.w (upd H a o) h' a o) :
  Inv X P9 σ (upd H a o) { s with heap:=h',toks:=t' }:=I.un (Un.laid k hp (I.hok.fresh hp)) (I.hok.laid k hp new)
theorem Inv.write{x e:Addr}{o:HO}{t':Nat}(I:Inv X P9 σ H s)(mu:Mut (H x))(he:e=x\/H e=some (.own x))(k:∀b u,b≠e->s.heap.get? b=some u->h'.get? b=some u)(heo:∃u,h'.get? e=some u)
  (new:bO X.prog X.w (upd H x o) h' x o):Inv X P9 σ (upd H x o) { s with heap:=h',toks:=t' }:=I.un (Un.write mu he k heo) (I.hok.write mu he k heo new)
theorem Inv.weak{σ':List (Option V)}(I:Inv X P9 σ H s)(hl:σ'.length=σ.length)(w:∀(i:Nat) v,σ'[i]?=some (some v)->σ[i]?=some (some v)):Inv X P9 σ' H s:=
 ⟨I.ok,I.os,I.bare,I.base,let ⟨m,hn,hl'⟩:=I.loc;⟨m,hn,fun i x v e1 e2 e3=>hl' i x v e1 (w i v e2) e3⟩,I.cell,I.free,I.freeC,I.pin,I.hok,hl.trans I.len⟩
theorem Inv.aCr{pins':List (Addr×Obj)}(I:Inv X P9 σ H s)(h:∀p∈pins',s.heap.get? p.1=some p.2/\H p.1=none/\p.1≠X.env.locals/\p.1∉X.fs/\∀v,p.2.data≠.cell v):Inv X pins' σ H s:=
 ⟨I.ok,I.os,I.bare,I.base,I.loc,I.cell,I.free,I.freeC,fun p hp=>(List.mem_append.mp hp).elim (fun z=>I.pin p (List.mem_append_left _ z)) (h p),I.hok,I.len⟩
theorem aGv{N:List Str}(hN:N.Nodup){i j:Nat}{x:Str}(a:N[i]?=some x)(b:N[j]?=some x):i=j:=by
 obtain⟨h1,e1⟩:=List.getElem?_eq_some_iff.mp a
 obtain⟨h2,e2⟩:=List.getElem?_eq_some_iff.mp b
 exact(List.getElem_inj hN).mp (e1.trans e2.symm)
theorem aEM{M:Model}{A:Around}{E:Value->Shared->Prop}{i:Nat}{x:Str}{v:V}{u:Value}{Q:Unit->Shared->Prop}(I:Inv X P9 σ H s)(hN:X.N.Nodup)(hi:X.N[i]?=some x)(hx:Loc X.env.scope x)(r:RelV v u)
  (h:∀s',Inv X P9 (σ.set i (some v)) H s'->(∃a,Heap.SameBut a s.heap s'.heap/\(a=X.env.locals\/X.env.cells.lookup x=some a))->Q () s') (hf:X.fn x=true\/X.env.scope.names.lookup x=some .local:=by first|exact .inl rfl|exact .inr rfl|assumption):wpAny M A (storeName X.env x u) Q E s:=by
 obtain⟨m,hn,hl⟩:=id I.loc
 have hcls:(X.env.scope.kind == .class || (X.env.scope.kind == .module && X.env.locals != X.env.globals))=false:=by rw[I.ok.kind];rfl
 have hiσ:i < σ.length:=by rw[I.len];exact(List.getElem?_eq_some_iff.mp hi).1
 have cne:=I.cne
 have tracked:∀{a:Addr} {h':Heap},(∃o,s.heap.get? a=some o/\H a=none)->Heap.SameBut a s.heap h'->vB X.prog X.w H h':=fun {a h'} ha hs b ob e=>by
  obtain⟨_,_,hfree⟩:=ha
  refine(I.hok b ob e).aB5 (fun c w' hc q=>(hs.2 c ?_).trans q) (fun _ q=>q) fun _ _ _ q=>q
  rintro rfl
  rcases hc with rfl|hc
  ·rw[hfree] at e;cases e
  ·rw[hfree] at hc;cases hc
 rcases hx with hk|hk
 ·refine wpAny_storeName_local hk hn (fun h' hn' hs=>?_) hcls
  obtain⟨oL,_,_,hoL,_⟩:=id hn
  refine h _ ⟨I.ok,I.os,I.bare,⟨fun b o e n hb hx=>?_,fun b o e n hb hx=>?_,I.base.free,fun b o e hx=>?_,I.base.vL,I.base.frzs,I.base.tbls⟩,⟨_,hn',fun j y v' e1 e2 e3=>?_⟩,fun y c e=>?_,I.free,I.freeC,fun p hp=>?_,tracked ⟨oL,hoL,I.free⟩ hs,by simpa using I.len⟩ ⟨_,hs,.inl rfl⟩
  ·exact(hs.2 b (Nat.ne_of_lt (Nat.lt_of_lt_of_le (Heap.lt_size e) I.ok.above))).trans (I.base.keep b o e n hb hx)
  ·obtain⟨sl,e1⟩:=I.base.slot b o e n hb hx
   exact⟨sl,(hs.2 b (Nat.ne_of_lt (Nat.lt_of_lt_of_le (Heap.lt_size e) I.ok.above))).trans e1⟩
  ·obtain⟨o',e1⟩:=I.base.there b o e hx
   exact⟨o',(hs.2 b (Nat.ne_of_lt (Nat.lt_of_lt_of_le (Heap.lt_size e) I.ok.above))).trans e1⟩
  ·by_cases hj:j=i
   ·subst hj
    rw[hi] at e1;cases e1
    rw[List.getElem?_set_self hiσ] at e2
    cases e2
    exact⟨u,r,.inl ⟨hk,by simp⟩⟩
   ·rw[List.getElem?_set_ne (Ne.symm hj)] at e2
    obtain⟨u',r',q⟩:=hl j y v' e1 e2 e3
    refine⟨u',r',?_⟩
    rcases q with ⟨k,e⟩|⟨k,c,e,z⟩
    ·refine .inl ⟨k,?_⟩
     have:y≠x:=fun e=>hj (aGv hN e1 (e▸hi))
     simp[this,e]
    ·exact .inr ⟨k,c,e,z.sameBut hs (cne y c e)⟩
  ·obtain⟨w',z⟩:=I.cell y c e
   exact⟨w',z.sameBut hs (cne y c e)⟩
  ·obtain⟨e,n,ne,nf,d⟩:=I.pin p hp
   exact⟨(hs.2 p.1 ne).trans e,n,ne,nf,d⟩
 ·have hfn:X.fn x=true:=by
   rcases hf with z|z
   ·exact z
   ·rw[z] at hk;cases hk
  obtain⟨c,hc⟩:=I.ok.has x (.inl hk)
  obtain⟨w',z⟩:=I.cell x c hc
  refine wpAny_storeName_cell I.ok.kind hk hc z (fun h' hc' hs=>?_)
  obtain⟨oc,hoc,hocd⟩:=id z
  refine h { s with heap:=h' } ⟨I.ok,I.os,I.bare,⟨fun b o e n hb hx=>?_,fun b o e n hb hx=>?_,I.base.free,fun b o e hx=>?_,I.base.vL,I.base.frzs,I.base.tbls⟩,⟨m,hn.sameBut hs (Ne.symm (cne x c hc)),fun j y v' e1 e2 e3=>?_⟩,fun y c' e=>?_,I.free,I.freeC,fun p hp=>?_,tracked ⟨oc,hoc,I.freeC x c hc⟩ hs,by simpa using I.len⟩ ⟨c,hs,.inr hc⟩
  ·exact(hs.2 b (Nat.ne_of_lt (Nat.lt_of_lt_of_le (Heap.lt_size e) (I.ok.cab x c hfn hc)))).trans (I.base.keep b o e n hb hx)
  ·obtain⟨sl,e1⟩:=I.base.slot b o e n hb hx
   exact⟨sl,(hs.2 b (Nat.ne_of_lt (Nat.lt_of_lt_of_le (Heap.lt_size e) (I.ok.cab x c hfn hc)))).trans e1⟩
  ·obtain⟨o',e1⟩:=I.base.there b o e hx
   exact⟨o',(hs.2 b (Nat.ne_of_lt (Nat.lt_of_lt_of_le (Heap.lt_size e) (I.ok.cab x c hfn hc)))).trans e1⟩
  ·by_cases hj:j=i
   ·subst hj
    rw[hi] at e1;cases e1
    rw[List.getElem?_set_self hiσ] at e2
    cases e2
    exact⟨u,r,.inr ⟨.inl hk,c,hc,hc'⟩⟩
   ·rw[List.getElem?_set_ne (Ne.symm hj)] at e2
    obtain⟨u',r',q⟩:=hl j y v' e1 e2 e3
    refine⟨u',r',?_⟩
    rcases q with q|⟨k,c',e,z'⟩
    ·exact .inl q
    ·refine .inr ⟨k,c',e,z'.sameBut hs ?_⟩
     rintro rfl
     exact hj (aGv hN e1 (I.ok.inj _ _ _ e hc▸hi))
  ·by_cases hcc:c'=c
   ·subst hcc;exact⟨_,hc'⟩
   ·obtain⟨w2,z2⟩:=I.cell y c' e
    exact⟨w2,z2.sameBut hs hcc⟩
  ·obtain⟨e,n,ne,nf,d⟩:=I.pin p hp
   refine⟨(hs.2 p.1 ?_).trans e,n,ne,nf,d⟩
   intro q
   rw[q,hoc] at e
   have q':oc=p.2:=Option.some.inj e
   exact d w' (by rw[<-q'];exact hocd)
theorem vM{M:Model}{A:Around}{E:Value->Shared->Prop}{i:Nat}{x:Str}{v:V}{u:Value}{Q:Unit->Shared->Prop}(I:Inv X P9 σ H s)(hN:X.N.Nodup)(hi:X.N[i]?=some x)(hx:Loc X.env.scope x)(r:RelV v u)
  (h:∀s',Inv X P9 (σ.set i (some v)) H s'->Q () s') (hf:X.fn x=true\/X.env.scope.names.lookup x=some .local:=by first|exact .inl rfl|exact .inr rfl|assumption):wpAny M A (storeName X.env x u) Q E s:=
 aEM I hN hi hx r (fun s' I' _=>h s' I') hf
theorem Inv.aOQ{s':Shared}{ch:List Addr}(I:Inv X P9 σ H s)(ho:s'.os=s.os)(u:Un (frs X.stack) ch H H' s.heap s'.heap)(hok:vB X.prog X.w H' s'.heap)(hg:AllBare s'.gens)
  (hch:∀b∈ch,(b∈X.ex\/X.s₀.heap.objs.size<=b)/\b≠X.env.locals/\(∀x c,X.env.cells.lookup x=some c->c≠b)/\∀p∈X.pn++P9,p.1≠b):Inv X P9 σ H' s':=by
 obtain⟨h',g',d',t',o'⟩:=s'
 have e:o'=s.os:=ho
 subst e
 exact I.call (g':=g') (t':=t') (d':=d') u hok hg hch
end
abbrev XK:=Value->Option Addr->Hp->Prop
abbrev St:=List (Option V)
abbrev VK:=V->Hp->Prop
abbrev TE:=St->Hp->VK->Prop
abbrev TT:=St->Hp->(Bool->Hp->Prop)->Prop
abbrev TA:=St->Hp->(List V->Hp->Prop)->Prop
structure Ends where
 nx:St->Hp->Prop
 rt:VK
 bk:St->Hp->Prop:=fun _ _=>False
 ct:St->Hp->Prop:=fun _ _=>False
abbrev TS:=Ends->St->Hp->Prop
def EP(X:Cx)(P9:List (Addr×Obj))(σ:St)(Q:VK)(u:Value)(s':Shared):Prop:=∃v H',Inv X P9 σ H' s'/\RelV v u/\Q v H'
def TP(X:Cx)(P9:List (Addr×Obj))(σ:St)(Q:Bool->Hp->Prop)(b:Bool)(s':Shared):Prop:=∃H',Inv X P9 σ H' s'/\Q b H'
def AP(X:Cx)(P9:List (Addr×Obj))(σ:St)(Q:List V->Hp->Prop)(us:List Value)(s':Shared):Prop:=∃vs H',Inv X P9 σ H' s'/\Vals vs us/\Q vs H'
def SP(X:Cx)(P9:List (Addr×Obj))(D:Ends)(f:Flow)(s':Shared):Prop:=
 match f with
 |.next=>∃σ' H',Inv X P9 σ' H' s'/\D.nx σ' H'
 |.brk=>∃σ' H',Inv X P9 σ' H' s'/\D.bk σ' H'
 |.cont=>∃σ' H',Inv X P9 σ' H' s'/\D.ct σ' H'
 |.ret u=>∃v σ' H',Inv X P9 σ' H' s'/\RelV v u/\D.rt v H'
def PE(X:Cx)(e:Expr)(t:TE):Prop:=
 ∀(P9:List (Addr×Obj)) (s:Shared) (σ:St) (H:Hp) (Q:VK),Inv X P9 σ H s->t σ H Q->wpAny (model X.prog X.w) X.A (eval e X.env) (EP X P9 σ Q) X.xe s
def PT(X:Cx)(e:Expr)(t:TT):Prop:=
 ∀(P9:List (Addr×Obj)) (s:Shared) (σ:St) (H:Hp) (Q:Bool->Hp->Prop),Inv X P9 σ H s->t σ H Q->wpAny (model X.prog X.w) X.A (isTrue e X.env (eval e X.env)) (TP X P9 σ Q) X.xe s
def PW(X:Cx)(e:Expr)(t:TT):Prop:=
 ∀(whole:Sem Value) (P9:List (Addr×Obj)) (s:Shared) (σ:St) (H:Hp) (Q:Bool->Hp->Prop),Inv X P9 σ H s->t σ H Q->wpAny (model X.prog X.w) X.A (isTrue e X.env whole) (TP X P9 σ Q) X.xe s
theorem PW.pt{X:Cx}{e:Expr}{t:TT}(h:PW X e t):PT X e t:=h _
def PA(X:Cx)(es:List Expr)(t:TA):Prop:=
 ∀(pos:Pos) (P9:List (Addr×Obj)) (s:Shared) (σ:St) (H:Hp) (Q:List V->Hp->Prop),Inv X P9 σ H s->t σ H Q->wpAny (model X.prog X.w) X.A (spliced (backTo pos (starEach es X.env))) (AP X P9 σ Q) X.xe s
def PS(X:Cx)(st:Stmt)(t:TS):Prop:=
 ∀(P9:List (Addr×Obj)) (s:Shared) (σ:St) (H:Hp) (D:Ends),Inv X P9 σ H s->t D σ H->wpAny (model X.prog X.w) X.A (exec st X.env) (SP X P9 D) X.xe s
def PSs(X:Cx)(st:List Stmt)(t:TS):Prop:=
 ∀(P9:List (Addr×Obj)) (s:Shared) (σ:St) (H:Hp) (D:Ends),Inv X P9 σ H s->t D σ H->wpAny (model X.prog X.w) X.A (execs st X.env) (SP X P9 D) X.xe s
theorem cY{α:Type}{t:Sem α}{Q Q':α->Shared->Prop}{M:Model}{A:Around}{E:Value->Shared->Prop}{s:Shared}(h:wpAny M A t Q E s)(hQ:∀a s,Q a s->Q' a s):wpAny M A t Q' E s:=wpAny_mono h hQ fun _ _ x=>x
end L2
namespace L2
open PySem PySem.Spec PyProof.Rows
section
variable{X:Cx}
def aNo(i:Nat):TE:=fun σ H Q=>∃v,σ[i]?=some (some v)/\Q v H
def tC(v:V):TE:=fun _ H Q=>Q v H
theorem aKa{i:Nat}{x:Str}{pos:Pos}(hN:X.N[i]?=some x)(hv:Vis X.env.scope x)(hd:(x == ("__debug__" : Str))=false:=by decide)(hcd:(x == ("__classdict__" : Str))=false:=by decide):PE X (.Name x pos) (aNo i):=by
 intro P9 s σ H Q I h
 obtain⟨v,e,h⟩:=h
 obtain⟨m,hn,hl⟩:=I.loc
 obtain⟨u,r,l⟩:=hl i x v hN e hv
 have fin:EP X P9 σ Q u s:=⟨v,H,I,r,h⟩
 rcases l with ⟨hk,hm⟩|⟨hk,c,hc,hcell⟩
 ·exact wpAny_Name (wpAny_loadName_local I.ok.kind hk hn hm fin) hd
 ·rcases hk with hk|hk
  ·exact wpAny_Name (wpAny_loadName_cell I.ok.kind hk hc hcell fin) hd
  ·exact wpAny_Name (wpAny_loadName_free I.ok.kind hk hc hcell fin hcd) hd
theorem aA{i j pos}:PE X (.Constant (.int i) j pos) (tC (.int i)):=fun _ _ _ H _ I h=>wpAny_Constant_int ⟨.int i,H,I.tok _,⟨_,rfl⟩,h⟩
theorem zU{b j pos}:PE X (.Constant (.bool b) j pos) (tC (.bl b)):=fun _ _ _ H _ I h=>Constant_bool ⟨.bl b,H,I,rfl,h⟩
theorem jS{j pos}:PE X (.Constant .none j pos) (tC .non):=fun _ _ _ H _ I h=>Constant_none ⟨.non,H,I,rfl,h⟩
def Gl(X:Cx)(x:Str):Prop:=X.env.kindOf x=some .globalImplicit
theorem aCs{E:Value->Shared->Prop}{P9:List (Addr×Obj)}{s:Shared}{σ:St}{H:Hp}{x:Str}{u:Value}{pos:Pos}{Q:Value->Shared->Prop}(I:Inv X P9 σ H s)(hg:Gl X x)(hm:X.mg x=some u)(h:Q u s)
  (hd:(x == ("__debug__" : Str))=false:=by decide):wpAny (model X.prog X.w) X.A (eval (.Name x pos) X.env) Q E s:=
 Calls.Name_function_global I.ok.kind hg (Calls.loadGlobal_global (by rw[I.ok.glob];exact I.mod.glob.keeps I.bk) hm h) hd
theorem rH{E:Value->Shared->Prop}{P9:List (Addr×Obj)}{s:Shared}{σ:St}{H:Hp}{x:Str}{u:Value}{pos:Pos}{Q:Value->Shared->Prop}(I:Inv X P9 σ H s)(hg:Gl X x)(hm:X.mg x=none)(hv:bootBuiltins x=some u)(h:Q u s)
  (hn:x≠"__name__":=by decide) (hd:(x == ("__debug__" : Str))=false:=by decide):wpAny (model X.prog X.w) X.A (eval (.Name x pos) X.env) Q E s:=by
 obtain⟨mb,h1,h2⟩:=I.mod.blt
 exact Calls.Name_function_global I.ok.kind hg (Calls.loadGlobal_builtin (by rw[I.ok.glob];exact I.mod.glob.keeps I.bk) hm (by rw[I.ok.blt];exact h1.keeps I.bk) ((h2 x hn).trans hv) h) hd
theorem zV{x:Str}{v:V}{u:Value}{pos:Pos}(hg:Gl X x)(hm:X.mg x=some u)(r:RelV v u)(hd:(x == ("__debug__" : Str))=false:=by decide):PE X (.Name x pos) (tC v):=
 fun _ _ _ H _ I h=>aCs I hg hm ⟨v,H,I,r,h⟩ hd
theorem nB{x:Str}{v:V}{u:Value}{pos:Pos}(hg:Gl X x)(hm:X.mg x=none)(hv:bootBuiltins x=some u)(r:RelV v u)(hn:x≠"__name__":=by decide)(hd:(x == ("__debug__" : Str))=false:=by decide):PE X (.Name x pos) (tC v):=
 fun _ _ _ H _ I h=>rH I hg hm hv ⟨v,H,I,r,h⟩ hn hd
variable{a b:Expr}{ta tb:TE}{pos:Pos}
def tB(t:TE):TT:=fun σ H Q=>t σ H fun x H1=>∃c,x=.bl c/\Q c H1
theorem jT{e:Expr}{t:TE}(h:PE X e t)(he:∀whole,isTrue e X.env whole=(do let v <-whole;standAt e.pos;holding [v] (truthy v)):=by intro _;rfl):PT X e (tB t):=by
 intro P9 s σ H Q I hw
 refine isTrue_plain (cY (h P9 s σ H _ I hw) fun v s1 ⟨x,H1,I1,r1,q1⟩=>?_) (he _)
 obtain⟨d,rfl,q⟩:=q1
 cases r1
 exact wpAny_truthy_bool ⟨H1,I1,q⟩
variable{tA tB':TT}{rest:List Expr}
def aNp(t u:TT):TT:=fun σ H Q=>t σ H fun c H1=>if c=true then u σ H1 Q else Q false H1
def tOr(t u:TT):TT:=fun σ H Q=>t σ H fun c H1=>if c=true then Q true H1 else u σ H1 Q
def aNq(t:TT):TT:=fun σ H Q=>t σ H fun c H1=>Q (!c) H1
theorem nC(ha:PT X a tA):PW X (.BoolOp .And [a] pos) tA:=by
 intro wh P9 s σ H Q I h
 refine isTrue_and (cY (ha P9 s σ H Q I h) fun c s1 e=>?_)
 cases c with
 |true=>exact isTrue_and_nil e
 |false=>exact e
theorem y3(ha:PT X a tA):PW X (.BoolOp .Or [a] pos) tA:=by
 intro wh P9 s σ H Q I h
 refine isTrue_or (cY (ha P9 s σ H Q I h) fun c s1 e=>?_)
 cases c with
 |false=>exact isTrue_or_nil e
 |true=>exact e
theorem sY(ha:PT X a tA)(hb:PW X (.BoolOp .And (b::rest) pos) tB'):PW X (.BoolOp .And (a::b::rest) pos) (aNp tA tB'):=by
 intro wh P9 s σ H Q I h
 refine isTrue_and (cY (ha P9 s σ H _ I h) fun c s1 ⟨H1,I1,q1⟩=>?_)
 cases c with
 |true=>exact hb wh P9 s1 σ H1 Q I1 q1
 |false=>exact⟨H1,I1,q1⟩
theorem aCF(ha:PT X a tA)(hb:PW X (.BoolOp .Or (b::rest) pos) tB'):PW X (.BoolOp .Or (a::b::rest) pos) (tOr tA tB'):=by
 intro wh P9 s σ H Q I h
 refine isTrue_or (cY (ha P9 s σ H _ I h) fun c s1 ⟨H1,I1,q1⟩=>?_)
 cases c with
 |true=>exact⟨H1,I1,q1⟩
 |false=>exact hb wh P9 s1 σ H1 Q I1 q1
theorem mO(ha:PT X a tA):PT X (.UnaryOp .Not a pos) (aNq tA):=by
 intro P9 s σ H Q I h
 exact isTrue_not (ha P9 s σ H (fun c H1=>Q (!c) H1) I h)
def aKb(ta tb:TE):TE:=fun σ H Q=>ta σ H fun x H1=>∃c,x=.bl c/\if c=true then tb σ H1 Q else Q (.bl false) H1
def aNr(ta tb:TE):TE:=fun σ H Q=>ta σ H fun x H1=>∃c,x=.bl c/\if c=true then Q (.bl true) H1 else tb σ H1 Q
def aKc(ta:TE):TE:=fun σ H Q=>ta σ H fun x H1=>∃c,x=.bl c/\Q (.bl (!c)) H1
theorem rJ{op}{t:TE}(h:PE X a t):PE X (.BoolOp op [a] pos) t:=fun P9 s σ H Q I hw=>BoolOp_one (h P9 s σ H Q I hw)
theorem sZ(ha:PE X a ta)(hb:PE X (.BoolOp .And (b::rest) pos) tb):PE X (.BoolOp .And (a::b::rest) pos) (aKb ta tb):=by
 intro P9 s σ H Q I h
 refine BoolOp_and (cY (ha P9 s σ H _ I h) fun v s1 ⟨x,H1,I1,r1,q1⟩=>?_)
 obtain⟨c,rfl,q1⟩:=q1
 cases r1
 refine wpAny_truthy_bool ?_
 cases c with
 |true=>exact hb P9 s1 σ H1 Q I1 q1
 |false=>exact⟨.bl false,H1,I1,rfl,q1⟩
theorem aIy(ha:PE X a ta)(hb:PE X (.BoolOp .Or (b::rest) pos) tb):PE X (.BoolOp .Or (a::b::rest) pos) (aNr ta tb):=by
 intro P9 s σ H Q I h
 refine BoolOp_or (cY (ha P9 s σ H _ I h) fun v s1 ⟨x,H1,I1,r1,q1⟩=>?_)
 obtain⟨c,rfl,q1⟩:=q1
 cases r1
 refine wpAny_truthy_bool ?_
 cases c with
 |false=>exact hb P9 s1 σ H1 Q I1 q1
 |true=>exact⟨.bl true,H1,I1,rfl,q1⟩
theorem aFg(ha:PE X a ta):PE X (.UnaryOp .Not a pos) (aKc ta):=by
 intro P9 s σ H Q I h
 refine UnaryOp_ (cY (ha P9 s σ H _ I h) fun v s1 ⟨x,H1,I1,r1,q1⟩=>?_)
 obtain⟨c,rfl,q1⟩:=q1
 cases r1
 exact not_of (wpAny_truthy_bool ⟨.bl (!c),H1,I1,rfl,q1⟩)
def tIf(t:TT)(ta tb:TE):TE:=fun σ H Q=>t σ H fun c H1=>if c=true then ta σ H1 Q else tb σ H1 Q
theorem zW{c:Expr}(hc:PT X c tA)(ha:PE X a ta)(hb:PE X b tb):PE X (.IfExp c a b pos) (tIf tA ta tb):=by
 intro P9 s σ H Q I h
 refine wpAny_IfExp (cY (hc P9 s σ H _ I h) fun d s1 ⟨H1,I1,q1⟩=>?_)
 cases d with
 |true=>exact ha P9 s1 σ H1 Q I1 q1
 |false=>exact hb P9 s1 σ H1 Q I1 q1
end
end L2
namespace L2
open PySem PySem.Spec PyProof.Rows
def bR(K:W.Frag)(H:Hp)(a:Addr)(xs:List V):Prop:=
 Rd H a (.lst xs)\/
  ∃(o:Obj) (its:Array Value) (n:Nat),K.lookup a=some o/\o.cls=.type "list"/\o.dict=none/\o.data=.seq its n/\its.size<=sizeLine/\Vals xs its.toList
def kR(K:W.Frag)(H:Hp)(a:Addr)(xs:List V):Prop:=
 Rd H a (.tup xs)\/
  ∃(o:Obj) (its:Array Value) (n:Nat),K.lookup a=some o/\o.cls=.type "tuple"/\o.data=.seq its n/\its.size<=sizeLine/\Vals xs its.toList
def aPE:Value->Option V
 |.none=>some .non
 |.bool b=>some (.bl b)
 |.int i _=>some (.int i)
 |.str x _=>some (.str x)
 |.bytes b _=>some (.byt b)
 |.float b _=>some (.flt b)
 |.ref a=>some (.ref a)
 |.type n=>some (.ty n)
 |_=>none
theorem RelV.abs{x:V}{u:Value}(r:RelV x u):aPE u=some x:=by
 cases x with
 |non=>cases r;rfl
 |bl _=>cases r;rfl
 |int _=>obtain⟨t,rfl⟩:=r;rfl
 |str _=>obtain⟨t,rfl⟩:=r;rfl
 |byt _=>obtain⟨t,rfl⟩:=r;rfl
 |flt _=>obtain⟨t,rfl⟩:=r;rfl
 |ref _=>cases r;rfl
 |ty _=>cases r;rfl
theorem RelV.inj{x y:V}{u:Value}(r:RelV x u)(q:RelV y u):x=y:=Option.some.inj (r.abs.symm.trans q.abs)
theorem Vals.inj:∀{xs ys:List V}{us:List Value},Vals xs us->Vals ys us->xs=ys
 |_,_,_,.nil,.nil=>rfl
 |_,_,_,.cons r t,.cons r' t'=>by rw[r.inj r',Vals.inj t t']
section
variable{X:Cx}{P9:List (Addr×Obj)}{σ:St}{H:Hp}{s:Shared}{a:Addr}{xs ys:List V}
theorem bR.of{K:W.Frag}(h:H a=some (.lst xs)):bR K H a xs:=.inl (.inl h)
theorem kR.of{K:W.Frag}(h:H a=some (.tup xs)):kR K H a xs:=.inl (.inl h)
theorem Inv.list(I:Inv X P9 σ H s)(h:bR X.K H a xs):∃its:List Value,Vals xs its/\PlainL s.heap a its.toArray/\xs.length<=sizeLine:=by
 rcases h with h|⟨o,its,n,hk,hc,hd,hs,hz,r⟩
 ·obtain⟨z,its,n,r,e⟩:=h.ok I.hok
  exact⟨its,r,⟨_,n,e,rfl,rfl,rfl⟩,z⟩
 ·refine⟨its.toList,r,⟨o,n,I.kIn a o hk,hc,hd,by simpa using hs⟩,?_⟩
  have e:=r.length
  simp only[Array.length_toList] at e
  omega
theorem Inv.tuple(I:Inv X P9 σ H s)(h:kR X.K H a xs):∃its:List Value,Vals xs its/\IsTup s.heap a its.toArray/\xs.length<=sizeLine:=by
 rcases h with h|⟨o,its,n,hk,hc,hs,hz,r⟩
 ·obtain⟨z,its,r,p⟩:=h.ok I.hok
  exact⟨its,r,p,z⟩
 ·refine⟨its.toList,r,⟨o,I.kIn a o hk,hc,n,by simpa using hs⟩,?_⟩
  have e:=r.length
  simp only[Array.length_toList] at e
  omega
theorem Inv.aCG(I:Inv X P9 σ H s)(h:bR X.K H a xs)(h':bR X.K H a ys):xs=ys:=by
 obtain⟨its,r,⟨o,n,e,_,_,d⟩,_⟩:=I.list h
 obtain⟨its',r',⟨o',n',e',_,_,d'⟩,_⟩:=I.list h'
 rw[e] at e';cases e'
 rw[d] at d'
 injection d' with d1 _
 have:its=its':=by simpa using congrArg Array.toList d1
 subst this
 exact r.inj r'
theorem Inv.aEN(I:Inv X P9 σ H s)(h:kR X.K H a xs)(h':kR X.K H a ys):xs=ys:=by
 obtain⟨its,r,⟨o,e,_,n,d⟩,_⟩:=I.tuple h
 obtain⟨its',r',⟨o',e',_,n',d'⟩,_⟩:=I.tuple h'
 rw[e] at e';cases e'
 rw[d] at d'
 injection d' with d1 _
 have:its=its':=by simpa using congrArg Array.toList d1
 subst this
 exact r.inj r'
end
abbrev Cx.aDU(X:Cx)(E:Value->Shared->Prop):Cx:={ X with xe:=E }
abbrev Cx.nox(X:Cx):Cx:=X.aDU fun _ _=>False
theorem Cx.Ok.aDU{X:Cx}(ok:X.Ok)(E:Value->Shared->Prop):(X.aDU E).Ok:=
 ⟨ok.mod,ok.kind,ok.glob,ok.blt,ok.above,ok.inj,ok.has,ok.cab,ok.hd,ok.frames,ok.stk,ok.exf,ok.bs,ok.bsz,ok.noex,ok.exfs,ok.zT,ok.frf⟩
theorem Cx.Ok.vN{X:Cx}{E:Value->Shared->Prop}(ok:(X.aDU E).Ok):X.Ok:=
 ⟨ok.mod,ok.kind,ok.glob,ok.blt,ok.above,ok.inj,ok.has,ok.cab,ok.hd,ok.frames,ok.stk,ok.exf,ok.bs,ok.bsz,ok.noex,ok.exfs,ok.zT,ok.frf⟩
section
variable{X:Cx}{P9:List (Addr×Obj)}{σ:St}{H:Hp}{s:Shared}{E:Value->Shared->Prop}
theorem Inv.aDU(I:Inv X P9 σ H s)(E:Value->Shared->Prop):Inv (X.aDU E) P9 σ H s:=⟨I.ok.aDU E,I.os,I.bare,I.base,I.loc,I.cell,I.free,I.freeC,I.pin,I.hok,I.len⟩
theorem Inv.vN(I:Inv (X.aDU E) P9 σ H s):Inv X P9 σ H s:=⟨I.ok.vN,I.os,I.bare,I.base,I.loc,I.cell,I.free,I.freeC,I.pin,I.hok,I.len⟩
theorem SP.vN{D:Ends}{f:Flow}{s':Shared}(h:SP (X.aDU E) P9 D f s'):SP X P9 D f s':=by
 cases f with
 |next=>obtain⟨σ',H',I,q⟩:=h;exact⟨σ',H',I.vN,q⟩
 |brk=>obtain⟨σ',H',I,q⟩:=h;exact⟨σ',H',I.vN,q⟩
 |cont=>obtain⟨σ',H',I,q⟩:=h;exact⟨σ',H',I.vN,q⟩
 |ret u=>obtain⟨v,σ',H',I,r,q⟩:=h;exact⟨v,σ',H',I.vN,r,q⟩
theorem PSs.nox{st:List Stmt}{t:TS}(h:PSs X.nox st t):PSs X st t:=fun P9 s σ H D I hw=>
 wpAny_mono (h P9 s σ H D (I.aDU _) hw) (fun _ _ q=>q.vN) fun _ _ z=>False.elim z
end
section
variable{X:Cx}{st:Stmt}{rest:List Stmt}{t u:TS}{e:Expr}{te:TE}{pos:Pos}
def aKd:TS:=fun D σ H=>D.nx σ H
def aKe(t u:TS):TS:=fun D σ H=>t { D with nx:=u D } σ H
theorem bH:PSs X [] aKd:=fun _ _ σ H _ I h=>wpAny_execs_nil ⟨σ,H,I,h⟩
theorem aD(h1:PS X st t)(h2:PSs X rest u):PSs X (st::rest) (aKe t u):=by
 intro P9 s σ H D I h
 refine wpAny_execs_cons (cY (h1 P9 s σ H { D with nx:=u D } I h) fun f s1 q=>?_)
 cases f with
 |next=>
  obtain⟨σ',H',I',q⟩:=q
  exact h2 P9 s1 σ' H' D I' q
 |ret v=>exact q
 |brk=>exact q
 |cont=>exact q
theorem aG(h1:PS X st t):PSs X [st] t:=by
 intro P9 s σ H D I h
 refine wpAny_execs_cons (cY (h1 P9 s σ H D I h) fun f s1 q=>?_)
 cases f with
 |next=>exact wpAny_execs_nil q
 |ret v=>exact q
 |brk=>exact q
 |cont=>exact q
theorem Inv.quiet{P9:List (Addr×Obj)}{σ:St}{H:Hp}{s:Shared}(I:Inv X P9 σ H s):interactive X.env=false:=by simp[interactive,I.ok.kind]
def aKf(te:TE):TS:=fun D σ H=>te σ H fun _ H1=>D.nx σ H1
theorem pW(he:PE X e te)(hs:swapsWith e none pos.line X.env=pure false:=by rfl):PS X (.Expr e pos) (aKf te):=by
 intro P9 s σ H D I h
 exact wpAny_Expr_any (cY (he P9 s σ H _ I h) fun v s1 ⟨x,H1,I1,r1,q1⟩=>⟨σ,H1,I1,q1⟩) I.quiet hs
def aNs(te:TE):TS:=fun D σ H=>te σ H D.rt
theorem aY(he:PE X e te):PS X (.Return (some e) pos) (aNs te):=by
 intro P9 s σ H D I h
 exact wpAny_Return_some (cY (he P9 s σ H _ I h) fun v s1 ⟨x,H1,I1,r1,q1⟩=>⟨x,σ,H1,I1,r1,q1⟩)
def aNt(c:TT)(t u:TS):TS:=fun D σ H=>c σ H fun b H1=>if b=true then t D σ H1 else u D σ H1
theorem cC{c:Expr}{a b:List Stmt}{tc:TT}(hc:PT X c tc)(ha:PSs X a t)(hb:PSs X b u):PS X (.If c a b pos) (aNt tc t u):=by
 intro P9 s σ H D I h
 refine wpAny_If (cY (hc P9 s σ H _ I h) fun d s1 ⟨H1,I1,q1⟩=>?_)
 cases d with
 |true=>exact ha P9 s1 σ H1 D I1 q1
 |false=>exact hb P9 s1 σ H1 D I1 q1
def aKg:TS:=fun _ _ _=>False
theorem oU:PS X st aKg:=fun _ _ _ _ _ _ h=>h.elim
end
abbrev TG:=V->St->Hp->(St->Hp->Prop)->Prop
abbrev TGs:=List V->St->Hp->(St->Hp->Prop)->Prop
def PG(X:Cx)(target:Expr)(t:TG):Prop:=
 ∀(P9:List (Addr×Obj)) (s:Shared) (σ:St) (H:Hp) (v:V) (u:Value) (Q:St->Hp->Prop),Inv X P9 σ H s->RelV v u->t v σ H Q->
  wpAny (model X.prog X.w) X.A (assign target X.env u) (fun _ s'=>∃σ' H',Inv X P9 σ' H' s'/\Q σ' H') X.xe s
def PGs(X:Cx)(ts:List Expr)(t:TGs):Prop:=
 ∀(P9:List (Addr×Obj)) (s:Shared) (σ:St) (H:Hp) (vs:List V) (us:List Value) (Q:St->Hp->Prop),Inv X P9 σ H s->Vals vs us->t vs σ H Q->
  wpAny (model X.prog X.w) X.A (assignInOrder ((assignEach ts X.env).map (·.2)) us) (fun _ s'=>∃σ' H',Inv X P9 σ' H' s'/\Q σ' H') X.xe s
abbrev aFh:=V->V->V->Hp->(Hp->Prop)->Prop
def aKh(X:Cx)(t:aFh):Prop:=
 ∀(P9:List (Addr×Obj)) (s:Shared) (σ:St) (H:Hp) (o i v:V) (ov iv u:Value) (Q:Hp->Prop),Inv X P9 σ H s->RelV o ov->RelV i iv->RelV v u->t o i v H Q->
  wpAny (model X.prog X.w) X.A (setItem ov iv u) (fun _ s'=>∃H',Inv X P9 σ H' s'/\Q H') X.xe s
abbrev TIp:=V->V->Hp->VK->Prop
def PIp(X:Cx)(op:Operator)(t:TIp):Prop:=
 ∀(P9:List (Addr×Obj)) (s:Shared) (σ:St) (H:Hp) (x y:V) (v u:Value) (Q:VK),Inv X P9 σ H s->RelV x v->RelV y u->t x y H Q->
  wpAny (model X.prog X.w) X.A (inplaceOp op v u) (EP X P9 σ Q) X.xe s
section
variable{X:Cx}{pos:Pos}
def vO(i:Nat):TG:=fun v σ H Q=>Q (σ.set i (some v)) H
theorem aT{i:Nat}{x:Str}(hN:X.N.Nodup)(hi:X.N[i]?=some x)(hx:Loc X.env.scope x)(hf:X.fn x=true\/X.env.scope.names.lookup x=some .local:=by first|exact .inl rfl|exact .inr rfl|assumption):PG X (.Name x pos) (vO i):=by
 intro P9 s σ H v u Q I r h
 exact wpAny_assign_Name (vM I hN hi hx r (fun s' I'=>⟨_,H,I',h⟩) hf)
def aL2:TGs:=fun vs σ H Q=>vs=[]/\Q σ H
def aIz(t:TG)(u:TGs):TGs:=fun vs σ H Q=>∃v r,vs=v::r/\t v σ H fun σ' H'=>u r σ' H' Q
theorem dZ:PGs X [] aL2:=by
 intro P9 s σ H vs us Q I r h
 obtain⟨e,h⟩:=h
 subst e
 cases r
 exact assignInOrder_nil ⟨σ,H,I,h⟩
theorem bD{e:Expr}{es:List Expr}{t:TG}{u:TGs}(h1:PG X e t)(h2:PGs X es u)
  (hs:(assignEach (e::es) X.env).map (·.2)=assign e X.env::(assignEach es X.env).map (·.2):=by rfl):PGs X (e::es) (aIz t u):=by
 intro P9 s σ H vs us Q I r h
 obtain⟨v,vr,e1,h⟩:=h
 subst e1
 cases r with
 |cons r rr=>
  rw[hs]
  refine assignInOrder_cons (cY (h1 P9 s σ H _ _ _ I r h) fun _ s1 ⟨σ1,H1,I1,q1⟩=>?_)
  exact h2 P9 s1 σ1 H1 _ _ Q I1 rr q1
def aL3(K:W.Frag)(n:Nat)(t:TGs):TG:=fun v σ H Q=>∃a xs,v=.ref a/\kR K H a xs/\xs.length=n/\t xs σ H Q
theorem aNu{es:List Expr}{k:Nat}{t:TGs}{n:Nat}(hc:X.calm=true)(h:PGs X es t)
  (hn:(assignEach es X.env).length=n:=by rfl) (hst:(assignEach es X.env).findIdx? (·.1)=none:=by rfl):PG X (.Tuple es k pos) (aL3 X.K n t):=by
 intro P9 s σ H v u Q I r hw
 obtain⟨a,xs,e1,hq,hl,hw⟩:=hw
 subst e1
 cases r
 obtain⟨its,rv,ht,hz⟩:=I.tuple hq
 refine assign_Tuple_tuple (I.ok.hd hc) ht (by simp[hn,<-hl,rv.length]) hst fun h' hx=>?_
 have I1:Inv X P9 σ H { s with heap:=h' }:=I.kept (t':=s.toks) fun b o e=>hx b o (Nat.ne_of_lt (Heap.lt_size e)) e
 exact h P9 _ σ H xs _ Q I1 (by simpa using rv) hw
def aNv(to ti:TE)(t:aFh):TG:=fun v σ H Q=>to σ H fun o H1=>ti σ H1 fun i H2=>t o i v H2 fun H3=>Q σ H3
theorem aA8{o i:Expr}{to ti:TE}{t:aFh}(ho:PE X o to)(hi:PE X i ti)(hs:aKh X t)
  (ha:∀v,assign (.Subscript o i pos) X.env v=(do
   let ov <-holding [v] (eval o X.env)
   let iv <-holding [v,ov] (eval i X.env)
   standAt pos
   holding [v,ov,iv] (setItem ov iv v)
   release [v,ov,iv] []):=by intro _;rfl):PG X (.Subscript o i pos) (aNv to ti t):=by
 intro P9 s σ H v u Q I r h
 rw[ha]
 refine wpAny_bind (wpAny_holding (cY (ho P9 s σ H _ I h) fun ov s1 ⟨x,H1,I1,r1,q1⟩=>?_))
 refine wpAny_bind (wpAny_holding (cY (hi P9 s1 σ H1 _ I1 q1) fun iv s2 ⟨y,H2,I2,r2,q2⟩=>?_))
 refine wpAny_bind (wpAny_standAt (wpAny_bind (wpAny_holding (cY (hs P9 s2 σ H2 x y v ov iv u _ I2 r1 r2 r q2) fun _ s3 ⟨H3,I3,q3⟩=>?_))))
 exact wpAny_release ⟨σ,H3,I3,q3⟩
def aHD(te:TE)(g:TG):TS:=fun D σ H=>te σ H fun x H1=>g x σ H1 D.nx
theorem y4{tg e:Expr}{te:TE}{g:TG}(he:PE X e te)(hg:PG X tg g)(hs:swapsWithSole [tg] e pos.line X.env=pure false:=by rfl)(hw:swappedStores [tg] e X.env=pure none:=by rfl)
  (h1:(assignEach [tg] X.env).map (·.2)=[assign tg X.env]:=by rfl):PS X (.Assign [tg] e pos) (aHD te g):=by
 intro P9 s σ H D I h
 refine wpAny_Assign_stores (cY (he P9 s σ H _ I h) fun v s1 ⟨x,H1,I1,r1,q1⟩=>?_) hs hw
 rw[h1]
 exact cY (hg P9 s1 σ H1 x v _ I1 r1 q1) fun _ s2 q=>q
theorem aV{i:Nat}{x:Str}{e:Expr}{te:TE}{pos':Pos}(hN:X.N.Nodup)(hi:X.N[i]?=some x)(hx:Loc X.env.scope x)(he:PE X e te)(hs:swapsWith e (some (.Name x pos')) pos.line X.env=pure false:=by rfl)(hf:X.fn x=true\/X.env.scope.names.lookup x=some .local:=by first|exact .inl rfl|exact .inr rfl|assumption) :
  PS X (.Assign [.Name x pos'] e pos) (aHD te (vO i)):=by
 intro P9 s σ H D I h
 refine wpAny_Assign_Name (cY (he P9 s σ H _ I h) fun v s1 ⟨y,H1,I1,r1,q1⟩=>?_) hs
 exact vM I1 hN hi hx r1 (fun s2 I2=>⟨_,H1,I2,q1⟩) hf
def aNw(i j:Nat)(ta:TA):TS:=fun D σ H=>ta σ H fun vs H1=>∃v w,vs=[v,w]/\D.nx ((σ.set i (some v)).set j (some w)) H1
theorem aFi{i j:Nat}{x y:Str}{a b:Expr}{ta:TA}{px py pt:Pos}{kt k2 pt2}(hc:X.calm=true)(hN:X.N.Nodup)(hi:X.N[i]?=some x)(hj:X.N[j]?=some y)(hij:i≠j)
  (hx:X.env.scope.names.lookup x=some .local) (hy:X.env.scope.names.lookup y=some .local) (ha:PA X [a,b] ta)
  (hw:swappedStores [.Tuple [.Name x px,.Name y py] kt pt] (.Tuple [a,b] k2 pt2) X.env=pure (some [x,y]))
  (hs:swapsWithSole [.Tuple [.Name x px,.Name y py] kt pt] (.Tuple [a,b] k2 pt2) pos.line X.env=pure false:=by rfl) :
  PS X (.Assign [.Tuple [.Name x px,.Name y py] kt pt] (.Tuple [a,b] k2 pt2) pos) (aNw i j ta):=by
 intro P9 s σ H D I h
 rw[exec_Assign_arm]
 refine wpAny_bind (wpAny_standAt ?_)
 rw[hs]
 refine wpAny_bind (wpAny_pure ?_)
 rw[if_neg (by decide)]
 refine wpAny_bind (Tuple_ (cY (ha _ P9 s σ H _ I h) fun us s1 ⟨vs,H1,I1,r1,q1⟩=>?_))
 obtain⟨v,w,e1,q1⟩:=q1
 subst e1
 obtain⟨u1,u2,rfl,rv,rw'⟩ : ∃u1 u2,us=[u1,u2]/\RelV v u1/\RelV w u2:=by
  cases r1 with
  |cons p q=>
   cases q with
   |cons p' q'=>
    cases q'
    exact⟨_,_,rfl,p,p'⟩
 refine wpAny_newObj_type ?_ (by show 2<=sizeLine;decide)
 have I2:Inv X P9 σ H1 { s1 with heap:=s1.heap.push { cls:=.type "tuple",data:=.seq [u1,u2].toArray } }:=I1.kept (t':=s1.toks) fun b o e=>Heap.get?_push_of_some _ e
 rw[hw]
 refine wpAny_bind (wpAny_pure ?_)
 show wpAny (model X.prog X.w) X.A (do rule "assign.swapped-stores";let items <-unpackItems (.ref s1.heap.objs.size) 2 none;assignInOrder [fun v=>bindName X.env y v,fun v=>bindName X.env x v] items.reverse;pure Flow.next) _ _ _
 refine wpAny_bind (wpAny_rule (wpAny_bind (unpackItems_tuple (items:=#[u1,u2]) (I.ok.hd hc) (IsTup.new s1.heap _) fun h' hx'=>?_)))
 have I3:=I2.kept (h':=h') (t':=s1.toks) fun b o e=>hx' b o (Nat.ne_of_lt (Heap.lt_size e)) e
 show wpAny _ _ (assignInOrder [fun v=>bindName X.env y v,fun v=>bindName X.env x v] [u2,u1] >>= fun _=>pure Flow.next) _ _ _
 refine wpAny_bind (assignInOrder_cons (wpAny_bindName (vM I3 hN hj (.inl hy) rw' (fun s2 I4=>?_) (.inr hy))))
 refine assignInOrder_cons (wpAny_bindName (vM I4 hN hi (.inl hx) rv (fun s3 I5=>assignInOrder_nil (wpAny_pure ?_)) (.inr hx)))
 rw[List.set_comm _ _ (Ne.symm hij)] at I5
 exact⟨_,H1,I5,q1⟩
def aNx(i:Nat)(te:TE)(ti:TIp):TS:=fun D σ H=>∃x,σ[i]?=some (some x)/\te σ H fun y H1=>ti x y H1 fun z H2=>D.nx (σ.set i (some z)) H2
theorem aA9{i:Nat}{x:Str}{e:Expr}{te:TE}{op:Operator}{ti:TIp}{pos':Pos}(hN:X.N.Nodup)(hi:X.N[i]?=some x)(hx:Loc X.env.scope x)(he:PE X e te)(ho:PIp X op ti)(hf:X.fn x=true\/X.env.scope.names.lookup x=some .local:=by first|exact .inl rfl|exact .inr rfl|assumption) :
  PS X (.AugAssign (.Name x pos') op e pos) (aNx i te ti):=by
 intro P9 s σ H D I h
 obtain⟨v,e1,h⟩:=h
 obtain⟨m,hn,hl⟩:=I.loc
 have vis:Vis X.env.scope x:=by rcases hx with k|k;exact .inl k;exact .inr (.inl k)
 obtain⟨u,r,l⟩:=hl i x v hi e1 vis
 refine wpAny_AugAssign_Name ?_
 have go:wpAny (model X.prog X.w) X.A (eval e X.env) (fun w s₂=>wpAny (model X.prog X.w) X.A (inplaceOp op u w) (fun r s₃=>wpAny (model X.prog X.w) X.A (storeName X.env x r) (fun _=>SP X P9 D .next) X.xe s₃) X.xe s₂) X.xe s:=by
  refine cY (he P9 s σ H _ I h) fun w s1 ⟨y,H1,I1,r1,q1⟩=>?_
  refine cY (ho P9 s1 σ H1 v y u w _ I1 r r1 q1) fun z s2 ⟨zv,H2,I2,r2,q2⟩=>?_
  exact vM I2 hN hi hx r2 (fun s3 I3=>⟨_,H2,I3,q2⟩) hf
 rcases l with ⟨hk,hm⟩|⟨hk,c,hc,hcell⟩
 ·exact wpAny_loadName_local I.ok.kind hk hn hm go
 ·rcases hk with hk|hk
  ·exact wpAny_loadName_cell I.ok.kind hk hc hcell go
  ·rcases hx with k|k
   ·have:X.env.scope.names.lookup x=some .free:=hk
    rw[k] at this;cases this
   ·have:X.env.scope.names.lookup x=some .free:=hk
    rw[k] at this;cases this
def aKi(to ti te:TE)(tget:V->V->Hp->VK->Prop)(tip:TIp)(tset:aFh):TS:=fun D σ H=>to σ H fun o H1=>ti σ H1 fun i H2=>tget o i H2 fun x H3=>te σ H3 fun y H4=>tip x y H4 fun z H5=>tset o i z H5 fun H6=>D.nx σ H6
def aNy(X:Cx)(t:V->V->Hp->VK->Prop):Prop:=
 ∀(P9:List (Addr×Obj)) (s:Shared) (σ:St) (H:Hp) (o i:V) (ov iv:Value) (Q:VK),Inv X P9 σ H s->RelV o ov->RelV i iv->t o i H Q->
  wpAny (model X.prog X.w) X.A (getItem ov iv) (EP X P9 σ Q) X.xe s
theorem aFj{o i e:Expr}{to ti te:TE}{tget:V->V->Hp->VK->Prop}{tip:TIp}{tset:aFh}{op:Operator}{tpos:Pos}(ho:PE X o to)(hi:PE X i ti)(hg:aNy X tget)(he:PE X e te)(hp:PIp X op tip)(hs:aKh X tset)
  (ha:∀ov iv new,augStore i ov iv new=(do holding [new,ov,iv] (setItem ov iv new);release [new,ov,iv] [];pure .next):=by intros;rfl):PS X (.AugAssign (.Subscript o i tpos) op e pos) (aKi to ti te tget tip tset):=by
 intro P9 s σ H D I h
 refine wpAny_AugAssign_SubscriptAny (cY (ho P9 s σ H _ I h) fun ov s1 ⟨x1,H1,I1,r1,q1⟩=>?_) ha
 refine cY (hi P9 s1 σ H1 _ I1 q1) fun iv s2 ⟨x2,H2,I2,r2,q2⟩=>?_
 refine cY (hg P9 s2 σ H2 x1 x2 ov iv _ I2 r1 r2 q2) fun old s3 ⟨x3,H3,I3,r3,q3⟩=>?_
 refine cY (he P9 s3 σ H3 _ I3 q3) fun v s4 ⟨x4,H4,I4,r4,q4⟩=>?_
 refine cY (hp P9 s4 σ H4 x3 x4 old v _ I4 r3 r4 q4) fun new s5 ⟨x5,H5,I5,r5,q5⟩=>?_
 exact cY (hs P9 s5 σ H5 x1 x2 x5 ov iv new _ I5 r1 r2 r5 q5) fun _ s6 ⟨H6,I6,q6⟩=>⟨σ,H6,I6,q6⟩
def ipI(f:Int->Int->Int):TIp:=fun x y H Q=>∃i j,x=.int i/\y=.int j/\Q (.int (f i j)) H
theorem aCH:PIp X .Add (ipI fun i j=>i+j):=by
 intro P9 s σ H x y v u Q I r1 r2 h
 obtain⟨i,j,e1,e2,q⟩:=h
 subst e1;subst e2
 obtain⟨t,rfl⟩:=r1
 obtain⟨t',rfl⟩:=r2
 exact iadd_int ⟨.int _,H,I.tok _,⟨_,rfl⟩,q⟩
end
section
variable{X:Cx}{pos:Pos}
end
structure It where
 go:Nat->Hp->Prop
 yld:Nat->Hp->V->Hp->Prop
 stop:Nat->Hp->Prop
def zX(X:Cx)(P9:List (Addr×Obj))(H:Hp)(b:Addr):Prop:=
 H b=none/\b≠X.env.locals/\b∉X.fs/\(b∈X.ex\/X.s₀.heap.objs.size<=b)/\(∀x c,X.env.cells.lookup x=some c->c≠b)/\∀p∈X.pn++P9,p.1≠b
theorem Inv.aDV{X:Cx}{P9:List (Addr×Obj)}{σ:St}{H H':Hp}{s:Shared}{b:Addr}(I:Inv X P9 σ H s)(hb:s.heap.objs.size<=b)(hn:H' b=none):zX X P9 H' b:=by
 refine⟨hn,Nat.ne_of_gt (Nat.lt_of_lt_of_le I.lt hb),I.aPD hb,.inr (Nat.le_trans I.sz hb),fun x c e z=>?_,fun p hp z=>?_⟩
 ·obtain⟨v,q⟩:=I.cell x c e
  exact absurd (Nat.lt_of_lt_of_le q.lt (by rw[z];exact hb)) (Nat.lt_irrefl _)
 ·exact absurd (Nat.lt_of_lt_of_le (Heap.lt_size (I.pin p hp).1) (by rw[z];exact hb)) (Nat.lt_irrefl _)
structure Turn(P:Program)(w:World)(K:W.Frag)(tg:Expr)(J:It)(fp:List Addr)(it:Addr)(tn:Nat->Heap->Prop):Prop where
 mem:it∈fp
 obj:∀i h,tn i h->∀b∈fp,∃o,h.get? b=some o/\∀v,o.data≠.cell v
 keep:∀i h h',tn i h->(∀b∈fp,∀o,h.get? b=some o->h'.get? b=some o)->tn i h'
 item:∀(X:Cx),X.prog=P->X.w=w->X.K=K->X.calm=true->∀(i:Nat) (P9:List (Addr×Obj)) (s:Shared) (σ:St) (H:Hp) (E:Value->Shared->Prop),Inv X P9 σ H s->(∀b∈fp,zX X P9 H b)->tn i s.heap->J.go i H->
  wpAny (model P w) X.A (pyNext (.ref it)) (fun r s1=>∃u,r=some u/\
   wpAny (model P w) X.A (letOwnedTupleGo tg (.ref it) u) (fun _ s2=>∃x H',Inv X P9 σ H' s2/\RelV x u/\J.yld i H x H'/\tn (i+1) s2.heap/\∀b∈fp,H' b=none) E s1) E s
 done:∀(X:Cx),X.prog=P->X.w=w->X.K=K->X.calm=true->∀(i:Nat) (P9:List (Addr×Obj)) (s:Shared) (σ:St) (H:Hp) (E:Value->Shared->Prop),Inv X P9 σ H s->(∀b∈fp,zX X P9 H b)->tn i s.heap->J.stop i H->
  wpAny (model P w) X.A (pyNext (.ref it)) (fun r s1=>r=none/\Inv X P9 σ H s1) E s
 self:∀(A:Around) (i:Nat) (s:Shared) (Q:Value->Shared->Prop) (E:Value->Shared->Prop),tn i s.heap->Q (.ref it) s->wpAny (model P w) A (pyIter (.ref it)) Q E s
abbrev TI:=St->Hp->(It->Hp->Prop)->Prop
def PIE(X:Cx)(P9:List (Addr×Obj))(σ:St)(tg:Expr)(R:It->Hp->Prop)(itv:Value)(s2:Shared):Prop:=
 ∃(it:Addr) (fp:List Addr) (tn:Nat->Heap->Prop) (J:It) (H':Hp),itv=.ref it/\Inv X P9 σ H' s2/\Turn X.prog X.w X.K tg J fp it tn/\tn 0 s2.heap/\(∀b∈fp,zX X P9 H' b)/\R J H'
def PI(X:Cx)(tg iter:Expr)(wi:TI):Prop:=
 ∀(P9:List (Addr×Obj)) (s:Shared) (σ:St) (H:Hp) (R:It->Hp->Prop),Inv X P9 σ H s->wi σ H R->
  wpAny (model X.prog X.w) X.A (eval iter X.env) (fun v s1=>wpAny (model X.prog X.w) X.A (pyIter v) (PIE X P9 σ tg R) X.xe s1) X.xe s
theorem aEO{M:Model}{A:Around}{E:Value->Shared->Prop}{s:Shared}{tg:Expr}{it:Addr}{u:Value}{o:Obj}{n:String}{vs:Array Value}{Q:Unit->Shared->Prop}(ho:s.heap.get? it=some o)(hc:o.cls=.type n)(hd:o.data=.fields vs)
  (hn:["enumerate","zip","dict_itemiterator","dict_reverseitemiterator","odict_iterator","itertools.zip_longest","itertools.pairwise"].contains n=false) (hQ:Q () s):wpAny M A (letOwnedTupleGo tg (.ref it) u) Q E s:=by
 unfold letOwnedTupleGo
 cases tg <;> first
  |exact wpAny_pure hQ
  |(cases u <;> first
    |exact wpAny_pure hQ
    |(
      refine wpAny_bind (wpAny_load ho ?_)
      rw[hc,hd]
      show wpAny M A (if (["enumerate","zip","dict_itemiterator","dict_reverseitemiterator","odict_iterator","itertools.zip_longest","itertools.pairwise"].contains n && vs[0]? == some (rawInt _))=true then _ else _) Q E s
      rw[if_neg (by intro h;rw[hn,Bool.false_and] at h;cases h)]
      exact wpAny_pure hQ))
def Itl(K:W.Frag)(a:Addr):It:=
 ⟨fun i H=>∃xs x,bR K H a xs/\xs[i]?=some x,fun i H x H'=>H'=H/\∀xs,bR K H a xs->xs[i]?=some x,fun i H=>∃xs,bR K H a xs/\xs.length<=i⟩
def Itt(K:W.Frag)(a:Addr):It:=
 ⟨fun i H=>∃xs x,kR K H a xs/\xs[i]?=some x,fun i H x H'=>H'=H/\∀xs,kR K H a xs->xs[i]?=some x,fun i H=>∃xs,kR K H a xs/\xs.length<=i⟩
def Itr(lo:Int)(n:Nat):It:=⟨fun i _=>i < n,fun i H x H'=>H'=H/\x=.int (lo+i),fun i _=>n<=i⟩
theorem aJf{P:Program}{w:World}{K:W.Frag}{tg:Expr}(a it:Addr):Turn P w K tg (Itl K a) [it] it (fun i h=>h.IsListIter it a i) where
 mem:=by simp
 obj:=fun i h st b hb=>by
  have e:b=it:=by simpa using hb
  subst e
  obtain⟨o,e,c,d⟩:=st
  exact⟨o,e,fun v z=>by rw[d] at z;cases z⟩
 keep:=fun i h h' st k=>st.at fun o e=>k it (by simp) o e
 item:=by
  intro X hP hw hK hc i P9 s σ H E I hf st hg
  subst hP hw hK
  obtain⟨xs,x,hq,hx⟩:=hg
  obtain⟨its,rv,p,hz⟩:=I.list hq
  obtain⟨u,hu,ru⟩:=rv.get hx
  obtain⟨f0,f1,f2,f3,f4,f5⟩:=hf it (by simp)
  refine wpAny_pyNext_list_item st p.isList (x:=u) (by simpa using hu) fun h' st' sb=>?_
  have I1:Inv X P9 σ H { s with heap:=h' }:=I.turned (t':=s.toks) (fun b o hb e=>(sb.2 b hb).trans e) f0 f1 f3 f4 f5
  obtain⟨o,e,c,d⟩:=id st'
  exact⟨u,rfl,aEO (s:={ s with heap:=h' }) e c d (by decide) ⟨x,H,I1,ru,⟨rfl,fun ys hy=>by rw[I.aCG hy hq];exact hx⟩,st',fun b hb=>(hf b hb).1⟩⟩
 done:=by
  intro X hP hw hK hc i P9 s σ H E I hf st hg
  subst hP hw hK
  obtain⟨xs,hq,hx⟩:=hg
  obtain⟨its,rv,p,hz⟩:=I.list hq
  obtain⟨f0,f1,f2,f3,f4,f5⟩:=hf it (by simp)
  have hl:=rv.length
  exact wpAny_pyNext_list_end (I.ok.hd hc) st p.isList (by simp;omega) fun h' eb=>⟨rfl,I.turned (t':=s.toks) (fun b o hb e=>eb b o hb e) f0 f1 f3 f4 f5⟩
 self:=fun _ _ _ _ _ st h=>wpAny_pyIter_listiter st h
theorem aHE{P:Program}{w:World}{K:W.Frag}{tg:Expr}(a it:Addr):Turn P w K tg (Itt K a) [it] it (fun i h=>h.IsTupleIter it a i) where
 mem:=by simp
 obj:=fun i h st b hb=>by
  have e:b=it:=by simpa using hb
  subst e
  obtain⟨o,e,c,d⟩:=st
  exact⟨o,e,fun v z=>by rw[d] at z;cases z⟩
 keep:=fun i h h' st k=>st.at fun o e=>k it (by simp) o e
 item:=by
  intro X hP hw hK hc i P9 s σ H E I hf st hg
  subst hP hw hK
  obtain⟨xs,x,hq,hx⟩:=hg
  obtain⟨its,rv,p,hz⟩:=I.tuple hq
  obtain⟨u,hu,ru⟩:=rv.get hx
  obtain⟨f0,f1,f2,f3,f4,f5⟩:=hf it (by simp)
  refine wpAny_pyNext_tuple_item st (show s.heap.IsTuple a its.toArray from p) (x:=u) (by simpa using hu) fun h' st' sb=>?_
  have I1:Inv X P9 σ H { s with heap:=h' }:=I.turned (t':=s.toks) (fun b o hb e=>(sb.2 b hb).trans e) f0 f1 f3 f4 f5
  obtain⟨o,e,c,d⟩:=id st'
  exact⟨u,rfl,aEO (s:={ s with heap:=h' }) e c d (by decide) ⟨x,H,I1,ru,⟨rfl,fun ys hy=>by rw[I.aEN hy hq];exact hx⟩,st',fun b hb=>(hf b hb).1⟩⟩
 done:=by
  intro X hP hw hK hc i P9 s σ H E I hf st hg
  subst hP hw hK
  obtain⟨xs,hq,hx⟩:=hg
  obtain⟨its,rv,p,hz⟩:=I.tuple hq
  obtain⟨f0,f1,f2,f3,f4,f5⟩:=hf it (by simp)
  have hl:=rv.length
  exact wpAny_pyNext_tuple_end (I.ok.hd hc) st (show s.heap.IsTuple a its.toArray from p) (by simp;omega) fun h' eb=>⟨rfl,I.turned (t':=s.toks) (fun b o hb e=>eb b o hb e) f0 f1 f3 f4 f5⟩
 self:=fun _ _ _ _ _ st h=>wpAny_pyIter_tupleiter st h
theorem aHF{P:Program}{w:World}{K:W.Frag}{tg:Expr}(it:Addr)(lo:Int)(n:Nat):Turn P w K tg (Itr lo n) [it] it (fun i h=>IsRangeIter h it (lo+(i:Nat)*1) ((n:Int) - (i:Nat)) 1) where
 mem:=by simp
 obj:=fun i h st b hb=>by
  have e:b=it:=by simpa using hb
  subst e
  exact⟨_,st,fun v z=>by
   have z':Data.fields _=Data.cell v:=z
   cases z'⟩
 keep:=fun i h h' st k=>k it (by simp) _ st
 item:=by
  intro X hP hw hK hc i P9 s σ H E I hf st hg
  subst hP hw hK
  obtain⟨f0,f1,f2,f3,f4,f5⟩:=hf it (by simp)
  have W:=Walks.range (prog:=X.prog) (w:=X.w) (I.ok.hd hc) it lo 1 n
  refine W.item i s _ _ hg st fun v h' tk hv st' kk=>?_
  obtain⟨t,rfl⟩:=hv
  have I1:Inv X P9 σ H { s with heap:=h',toks:=tk }:=I.turned (fun b o hb e=>kk b o (by simpa using hb) e) f0 f1 f3 f4 f5
  refine⟨_,rfl,aEO (s:={ s with heap:=h',toks:=tk }) (n:="range_iterator") st' rfl rfl (by decide) ⟨.int (lo+i),H,I1,⟨t,?_⟩,⟨rfl,rfl⟩,st',fun b hb=>(hf b hb).1⟩⟩
  rw[Int.mul_one]
 done:=by
  intro X hP hw hK hc i P9 s σ H E I hf st hg
  subst hP hw hK
  obtain⟨f0,f1,f2,f3,f4,f5⟩:=hf it (by simp)
  exact wpAny_pyNext_range_end (I.ok.hd hc) st (by have:n<=i:=hg;omega) fun h' eb=>⟨rfl,I.turned (t':=s.toks) (fun b o hb e=>eb b o hb e) f0 f1 f3 f4 f5⟩
 self:=fun _ _ _ _ _ st h=>wpAny_pyIter_rangeiter st h
end L2
namespace L2
open PySem PySem.Spec PyProof.Rows
section
variable{X:Cx}{tg:Expr}
def aKj(K:W.Frag)(tl:TE):TI:=fun σ H R=>tl σ H fun x H1=>∃a,x=.ref a/\(∃xs,bR K H1 a xs)/\R (Itl K a) H1
def aNz(K:W.Frag)(tl:TE):TI:=fun σ H R=>tl σ H fun x H1=>∃a,x=.ref a/\(∃xs,kR K H1 a xs)/\R (Itt K a) H1
theorem aL4{l:Expr}{tl:TE}(hl:PE X l tl):PI X tg l (aKj X.K tl):=by
 intro P9 s σ H R I h
 refine cY (hl P9 s σ H _ I h) fun v s1 ⟨x,H1,I1,r1,q1⟩=>?_
 obtain⟨a,e,⟨xs,hq⟩,q⟩:=q1
 subst e
 cases r1
 obtain⟨its,rv,p,hz⟩:=I1.list hq
 refine wpAny_pyIter_list p.isList ?_
 refine⟨s1.heap.objs.size,[s1.heap.objs.size],_,_,H1,rfl,I1.kept (t':=s1.toks) fun b o e=>Heap.get?_push_of_some _ e,aJf a _,⟨_,Heap.get?_push_size _ rfl,rfl,rfl⟩,fun b hb=>?_,q⟩
 have e:b=s1.heap.objs.size:=by simpa using hb
 subst e
 exact I1.aDV (Nat.le_refl _) (I1.hok.fresh (Nat.le_refl _))
theorem aNA{l:Expr}{tl:TE}(hl:PE X l tl):PI X tg l (aNz X.K tl):=by
 intro P9 s σ H R I h
 refine cY (hl P9 s σ H _ I h) fun v s1 ⟨x,H1,I1,r1,q1⟩=>?_
 obtain⟨a,e,⟨xs,hq⟩,q⟩:=q1
 subst e
 cases r1
 obtain⟨its,rv,p,hz⟩:=I1.tuple hq
 refine wpAny_pyIter_tuple (show s1.heap.IsTuple a its.toArray from p) ?_
 refine⟨s1.heap.objs.size,[s1.heap.objs.size],_,_,H1,rfl,I1.kept (t':=s1.toks) fun b o e=>Heap.get?_push_of_some _ e,aHE a _,⟨_,Heap.get?_push_size _ rfl,rfl,rfl⟩,fun b hb=>?_,q⟩
 have e:b=s1.heap.objs.size:=by simpa using hb
 subst e
 exact I1.aDV (Nat.le_refl _) (I1.hok.fresh (Nat.le_refl _))
theorem aGw{P9:List (Addr×Obj)}{σ:St}{H:Hp}{s:Shared}{R:It->Hp->Prop}{E:Value->Shared->Prop}{lo hi:Int}{t u v:Tok}{tk:Nat}(I:Inv X P9 σ H s)(h1:-(2 ^ 62)<=lo)(h2:lo < 2 ^ 62)(h3:-(2 ^ 62)<=hi)(h4:hi < 2 ^ 62)
  (q:R (Itr lo (hi - lo).toNat) H):wpAny (model X.prog X.w) X.A (pyIter (.ref s.heap.objs.size)) (PIE X P9 σ tg R) E { s with heap:=s.heap.push { cls:=.type "range",data:=.fields #[.int lo t,.int hi u,.int 1 v] },toks:=tk }:=by
 refine wpAny_pyIter_range (IsRange.new ..) (small_one h1 h2 h3 h4) ?_
 have I1:Inv X P9 σ H { s with heap:=s.heap.push { cls:=.type "range",data:=.fields #[.int lo t,.int hi u,.int 1 v] },toks:=tk }:=I.kept fun b o e=>Heap.get?_push_of_some _ e
 refine⟨(s.heap.push { cls:=.type "range",data:=.fields #[.int lo t,.int hi u,.int 1 v] }).objs.size,[(s.heap.push { cls:=.type "range",data:=.fields #[.int lo t,.int hi u,.int 1 v] }).objs.size],_,_,H,rfl,
  I1.kept (t':=tk) fun b o e=>Heap.get?_push_of_some _ e,aHF _ lo (hi - lo).toNat,?_,fun b hb=>?_,q⟩
 ·have e1:lo+((0:Nat):Int)*1=lo:=by simp
  have e2:(((hi - lo).toNat:Nat):Int) - ((0:Nat):Int)=Builtin.Range.rangeSize lo hi 1:=by rw[rangeSize_one];split <;> omega
  show IsRangeIter _ _ (lo+((0:Nat):Int)*1) ((((hi - lo).toNat:Nat):Int) - ((0:Nat):Int)) 1
  rw[e1,e2]
  exact Heap.get?_push_size _ rfl
 ·have e:b=(s.heap.push { cls:=.type "range",data:=.fields #[.int lo t,.int hi u,.int 1 v] }).objs.size:=by simpa using hb
  subst e
  exact I1.aDV (Nat.le_refl _) (I1.hok.fresh (Nat.le_refl _))
def aIA(ta:TA):TI:=fun σ H R=>ta σ H fun vs H1=>∃j:Int,vs=[.int j]/\-(2 ^ 62)<=j/\j < 2 ^ 62/\R (Itr 0 j.toNat) H1
def aIB(ta:TA):TI:=fun σ H R=>ta σ H fun vs H1=>∃i j:Int,vs=[.int i,.int j]/\(-(2 ^ 62)<=i/\i < 2 ^ 62/\-(2 ^ 62)<=j/\j < 2 ^ 62)/\R (Itr i (j - i).toNat) H1
theorem aJg{a:Expr}{ta:TA}{p pos:Pos}(hg:Gl X "range")(hm:X.mg "range" = none)(ha:PA X [a] ta)(hs:starEach [a] X.env=[(false,eval a X.env)]:=by rfl):PI X tg (.Call (.Name "range" p) [a] [] pos) (aIA ta):=by
 intro P9 s σ H R I h
 refine Call_ (rH I hg hm boot_range (PyProof.Rows.callWith_type1 (cY (ha pos P9 s σ H _ I h) fun us s1 ⟨vs,H1,I1,r1,q1⟩=>?_) hs rfl))
 obtain⟨j,e,q1,q2,q⟩:=q1
 subst e
 cases r1 with
 |cons r rr=>
  cases rr
  obtain⟨t,rfl⟩:=r
  exact call_range_1 (aGw I1 (by omega) (by omega) q1 q2 (by simpa using q))
theorem aJh{a b:Expr}{ta:TA}{p pos:Pos}(hg:Gl X "range")(hm:X.mg "range" = none)(ha:PA X [a,b] ta)(hs:starEach [a,b] X.env=[(false,eval a X.env),(false,eval b X.env)]:=by rfl)(hs2:starEach [b] X.env=[(false,eval b X.env)]:=by rfl) :
  PI X tg (.Call (.Name "range" p) [a,b] [] pos) (aIB ta):=by
 intro P9 s σ H R I h
 refine Call_ (rH I hg hm boot_range (PyProof.Rows.callWith_type1 (cY (ha pos P9 s σ H _ I h) fun us s1 ⟨vs,H1,I1,r1,q1⟩=>?_) (by rw[hs,hs2]) (by rw[hs2];rfl)))
 obtain⟨i,j,e,⟨q1,q2,q3,q4⟩,q⟩:=q1
 subst e
 cases r1 with
 |cons r rr=>
  cases rr with
  |cons r' rr=>
   cases rr
   obtain⟨t,rfl⟩:=r
   obtain⟨t',rfl⟩:=r'
   exact call_range_2 (aGw I1 q1 q2 q3 q4 q)
def aNB(wi:TI)(g:TG)(tb:TS):TS:=fun D σ H=>wi σ H fun J H1=>∃W:Nat->Nat->St->Hp->Prop,(∃m,W 0 m σ H1)/\∀i m σ H,W i m σ H->
 (J.stop i H/\D.nx σ H)\/(J.go i H/\∃N:St->Hp->Prop,(∀σ' H',N σ' H'->∃m',m' < m/\W (i+1) m' σ' H')/\∀x H',J.yld i H x H'->g x σ H' fun σ2 H2=>tb { D with nx:=N,ct:=N,bk:=D.nx } σ2 H2)
def aCI(fp:List Addr)(h:Heap):List (Addr×Obj):=fp.filterMap fun b=>(h.get? b).map fun o=>(b,o)
theorem tD{fp:List Addr}{h:Heap}{b:Addr}{o:Obj}(hb:b∈fp)(e:h.get? b=some o):(b,o)∈aCI fp h:=List.mem_filterMap.mpr ⟨b,hb,by rw[e];rfl⟩
theorem aJi{fp:List Addr}{h:Heap}{p:Addr×Obj}(hp:p∈aCI fp h):p.1∈fp/\h.get? p.1=some p.2:=by
 obtain⟨b,hb,e⟩:=List.mem_filterMap.mp hp
 cases q:h.get? b with
 |none=>rw[q] at e;cases e
 |some o=>
  rw[q] at e
  have e':(b,o)=p:=Option.some.inj e
  subst e'
  exact⟨hb,q⟩
theorem Inv.pinned{P9:List (Addr×Obj)}{σ:St}{H:Hp}{s:Shared}{fp:List Addr}(I:Inv X P9 σ H s)(hf:∀b∈fp,zX X P9 H b)(ho:∀b∈fp,∃o,s.heap.get? b=some o/\∀v,o.data≠.cell v):Inv X (P9++aCI fp s.heap) σ H s:=
 I.aCr fun p hp=>(List.mem_append.mp hp).elim (fun z=>I.pin p (List.mem_append_right _ z)) fun z=>by
  obtain⟨hb,e⟩:=aJi z
  obtain⟨f0,f1,f2,_⟩:=hf p.1 hb
  obtain⟨o,e',d⟩:=ho p.1 hb
  rw[e] at e';cases e'
  exact⟨e,f0,f1,f2,d⟩
theorem Inv.zY{P9 pl:List (Addr×Obj)}{σ:St}{H:Hp}{s:Shared}(I:Inv X (P9++pl) σ H s):Inv X P9 σ H s:=I.aCr fun p hp=>I.pin p (List.mem_append_right _ (List.mem_append_left _ hp))
theorem cO{iter:Expr}{body:List Stmt}{wi:TI}{g:TG}{tb:TS}{pos:Pos}(hp:PassesOwn (model X.prog X.w) X.A X.env X.xe)(hc:X.calm=true)(hi:PI X tg iter wi)(hg:PG X tg g)(hb:PSs X body tb)
  (hs:∀x,foldedSetIterable iter X.env x=pure x:=by intro _;rfl):PS X (.For tg iter body [] pos) (aNB wi g tb):=by
 intro P9 s σ H D I h
 refine wpAny_For (cY (hi P9 s σ H _ I h) fun v s1 h1=>cY h1 fun itv s2 h2=>?_) hs
 obtain⟨it,fp,tn,J,H2,e,I2,T,st2,f2,W,⟨m0,w0⟩,turn⟩:=h2
 subst e
 have stat:∀{H':Hp},(∀b∈fp,H' b=none)->∀b∈fp,zX X P9 H' b:=fun hn b hb=>⟨hn b hb,(f2 b hb).2⟩
 refine codeAny_forLoop_any (fun n s'=>∃i σ' H',Inv X P9 σ' H' s'/\tn i s'.heap/\(∀b∈fp,H' b=none)/\W i n σ' H') ?_ m0 ⟨0,σ,H2,I2,st2,fun b hb=>(f2 b hb).1,w0⟩
 rintro n s3 ⟨i,σ3,H3,I3,st3,fr3,w3⟩
 rcases turn i n σ3 H3 w3 with ⟨stop,qn⟩|⟨go,N,hN,step⟩
 ·refine wpAny_passesOwn hp (cY (T.done X rfl rfl rfl hc i P9 s3 σ3 H3 X.xe I3 (stat fr3) st3 stop) fun r s4 ⟨hr,I4⟩=>?_)
  subst hr
  exact wpAny_execs_nil ⟨σ3,H3,I4,qn⟩
 ·refine wpAny_passesOwn hp (cY (T.item X rfl rfl rfl hc i P9 s3 σ3 H3 X.xe I3 (stat fr3) st3 go) fun r s4 ⟨u,hr,h4⟩=>?_)
  subst hr
  refine wpAny_passesOwn hp (cY h4 fun _ s5 ⟨x,H5,I5,r5,y5,st5,fr5⟩=>?_)
  have I5':=I5.pinned (stat fr5) (T.obj _ _ st5)
  refine wpAny_passesOwn hp (cY (hg _ s5 σ3 H5 x u _ I5' r5 (step x H5 y5)) fun _ s6 ⟨σ6,H6,I6,q6⟩=>?_)
  refine wpAny_passesOwn hp (cY (hb _ s6 σ6 H6 _ I6 q6) fun f s7 q7=>?_)
  have again:∀{σ7:St} {H7:Hp},Inv X (P9++aCI fp s5.heap) σ7 H7 s7->N σ7 H7->∃m,m < n/\∃i σ' H',Inv X P9 σ' H' s7/\tn i s7.heap/\(∀b∈fp,H' b=none)/\W i m σ' H':=fun {σ7 H7} I7 n7=>by
   obtain⟨m',hm,w7⟩:=hN σ7 H7 n7
   refine⟨m',hm,i+1,σ7,H7,I7.zY,T.keep _ _ _ st5 fun b hb o e=>(I7.pin (b,o) (List.mem_append_right _ (List.mem_append_right _ (tD hb e)))).1,fun b hb=>?_,w7⟩
   obtain⟨o,e,d⟩:=T.obj _ _ st5 b hb
   exact(I7.pin (b,o) (List.mem_append_right _ (List.mem_append_right _ (tD hb e)))).2.1
  cases f with
  |next=>obtain⟨σ7,H7,I7,n7⟩:=q7;exact again I7 n7
  |cont=>obtain⟨σ7,H7,I7,n7⟩:=q7;exact again I7 n7
  |brk=>obtain⟨σ7,H7,I7,q7⟩:=q7;exact⟨σ7,H7,I7.zY,q7⟩
  |ret v=>obtain⟨x7,σ7,H7,I7,r7,q7⟩:=q7;exact⟨x7,σ7,H7,I7.zY,r7,q7⟩
end
theorem aKk{K:W.Frag}{a:Addr}{xs:List V}{g:TG}{tb:TS}{D:Ends}{σ:St}{H:Hp}(Pv:Nat->St->Hp->Prop)(h0:Pv 0 σ H)(hl:∀i σ H,i<=xs.length->Pv i σ H->bR K H a xs)
  (hs:∀i x σ H,xs[i]?=some x->Pv i σ H->g x σ H fun σ2 H2=>tb { D with nx:=Pv (i+1),ct:=Pv (i+1),bk:=D.nx } σ2 H2) (hd:∀σ H,Pv xs.length σ H->D.nx σ H) :
  ∃W:Nat->Nat->St->Hp->Prop,(∃m,W 0 m σ H)/\∀i m σ H,W i m σ H->
   ((Itl K a).stop i H/\D.nx σ H)\/((Itl K a).go i H/\∃N:St->Hp->Prop,(∀σ' H',N σ' H'->∃m',m' < m/\W (i+1) m' σ' H')/\∀x H',(Itl K a).yld i H x H'->g x σ H' fun σ2 H2=>tb { D with nx:=N,ct:=N,bk:=D.nx } σ2 H2):=by
 refine⟨fun i m σ H=>m=xs.length - i/\i<=xs.length/\Pv i σ H,⟨xs.length,by simp,Nat.zero_le _,h0⟩,?_⟩
 rintro i m σ H ⟨rfl,hi,p⟩
 have q:=hl i σ H hi p
 by_cases hlt:i < xs.length
 ·refine .inr ⟨⟨xs,xs[i],q,by simp[hlt]⟩,Pv (i+1),fun σ' H' p'=>⟨xs.length - (i+1),by omega,rfl,hlt,p'⟩,fun x H' y=>?_⟩
  obtain⟨e,y⟩:=y
  subst e
  exact hs i x σ _ (y xs q) p
 ·have e:i=xs.length:=by omega
  subst e
  exact .inl ⟨⟨xs,q,Nat.le_refl _⟩,hd σ H p⟩
theorem aL5{K:W.Frag}{a:Addr}{xs:List V}{g:TG}{tb:TS}{D:Ends}{σ:St}{H:Hp}(Pv:Nat->St->Hp->Prop)(h0:Pv 0 σ H)(hl:∀i σ H,i<=xs.length->Pv i σ H->kR K H a xs)
  (hs:∀i x σ H,xs[i]?=some x->Pv i σ H->g x σ H fun σ2 H2=>tb { D with nx:=Pv (i+1),ct:=Pv (i+1),bk:=D.nx } σ2 H2) (hd:∀σ H,Pv xs.length σ H->D.nx σ H) :
  ∃W:Nat->Nat->St->Hp->Prop,(∃m,W 0 m σ H)/\∀i m σ H,W i m σ H->
   ((Itt K a).stop i H/\D.nx σ H)\/((Itt K a).go i H/\∃N:St->Hp->Prop,(∀σ' H',N σ' H'->∃m',m' < m/\W (i+1) m' σ' H')/\∀x H',(Itt K a).yld i H x H'->g x σ H' fun σ2 H2=>tb { D with nx:=N,ct:=N,bk:=D.nx } σ2 H2):=by
 refine⟨fun i m σ H=>m=xs.length - i/\i<=xs.length/\Pv i σ H,⟨xs.length,by simp,Nat.zero_le _,h0⟩,?_⟩
 rintro i m σ H ⟨rfl,hi,p⟩
 have q:=hl i σ H hi p
 by_cases hlt:i < xs.length
 ·refine .inr ⟨⟨xs,xs[i],q,by simp[hlt]⟩,Pv (i+1),fun σ' H' p'=>⟨xs.length - (i+1),by omega,rfl,hlt,p'⟩,fun x H' y=>?_⟩
  obtain⟨e,y⟩:=y
  subst e
  exact hs i x σ _ (y xs q) p
 ·have e:i=xs.length:=by omega
  subst e
  exact .inl ⟨⟨xs,q,Nat.le_refl _⟩,hd σ H p⟩
theorem aJj{lo:Int}{n:Nat}{g:TG}{tb:TS}{D:Ends}{σ:St}{H:Hp}(Pv:Nat->St->Hp->Prop)(h0:Pv 0 σ H)
  (hs:∀i σ H,i < n->Pv i σ H->g (.int (lo+i)) σ H fun σ2 H2=>tb { D with nx:=Pv (i+1),ct:=Pv (i+1),bk:=D.nx } σ2 H2) (hd:∀σ H,Pv n σ H->D.nx σ H) :
  ∃W:Nat->Nat->St->Hp->Prop,(∃m,W 0 m σ H)/\∀i m σ H,W i m σ H->
   ((Itr lo n).stop i H/\D.nx σ H)\/((Itr lo n).go i H/\∃N:St->Hp->Prop,(∀σ' H',N σ' H'->∃m',m' < m/\W (i+1) m' σ' H')/\∀x H',(Itr lo n).yld i H x H'->g x σ H' fun σ2 H2=>tb { D with nx:=N,ct:=N,bk:=D.nx } σ2 H2):=by
 refine⟨fun i m σ H=>m=n - i/\i<=n/\Pv i σ H,⟨n,by simp,Nat.zero_le _,h0⟩,?_⟩
 rintro i m σ H ⟨rfl,hi,p⟩
 by_cases hlt:i < n
 ·refine .inr ⟨hlt,Pv (i+1),fun σ' H' p'=>⟨n - (i+1),by omega,rfl,hlt,p'⟩,fun x H' y=>?_⟩
  obtain⟨e,y⟩:=y
  subst e y
  exact hs i σ _ hlt p
 ·have e:i=n:=by omega
  subst e
  exact .inl ⟨Nat.le_refl _,hd σ H p⟩
end L2
namespace L2
open PySem PySem.Spec PyProof.Rows
abbrev R2:=V->V->Hp->VK->Prop
def vP(X:Cx)(f:Value->Value->Sem Value)(r:R2):Prop:=
 ∀(P9:List (Addr×Obj)) (s:Shared) (σ:St) (H:Hp) (x y:V) (v u:Value) (Q:VK),Inv X P9 σ H s->RelV x v->RelV y u->r x y H Q->
  wpAny (model X.prog X.w) X.A (f v u) (EP X P9 σ Q) X.xe s
def UnR(X:Cx)(f:Value->Sem Value)(r:V->Hp->VK->Prop):Prop:=
 ∀(P9:List (Addr×Obj)) (s:Shared) (σ:St) (H:Hp) (x:V) (v:Value) (Q:VK),Inv X P9 σ H s->RelV x v->r x H Q->
  wpAny (model X.prog X.w) X.A (f v) (EP X P9 σ Q) X.xe s
def eA(X:Cx)(f:Value)(r:List V->Hp->VK->Prop):Prop:=
 ∀(P9:List (Addr×Obj)) (s:Shared) (σ:St) (H:Hp) (xs:List V) (us:List Value) (Q:VK),Inv X P9 σ H s->Vals xs us->r xs H Q->
  wpAny (model X.prog X.w) X.A (call f us) (EP X P9 σ Q) X.xe s
def tOp(r:R2)(ta tb:TE):TE:=fun σ H Q=>ta σ H fun x H1=>tb σ H1 fun y H2=>r x y H2 Q
def tUn(r:V->Hp->VK->Prop)(ta:TE):TE:=fun σ H Q=>ta σ H fun x H1=>r x H1 Q
def rI(C:Int->Int->Prop)(g:Int->Int->V):R2:=fun x y H Q=>∃i j,x=.int i/\y=.int j/\C i j/\Q (g i j) H
def rI0(g:Int->Int->V):R2:=fun x y H Q=>∃i j,x=.int i/\y=.int j/\Q (g i j) H
def rU(g:Int->V):V->Hp->VK->Prop:=fun x H Q=>∃i,x=.int i/\Q (g i) H
section
variable{X:Cx}{a b c:Expr}{ta tb tc:TE}{pos:Pos}
theorem aNC(ha:PE X a ta)(hb:PE X b tb){P9:List (Addr×Obj)}{s:Shared}{σ:St}{H:Hp}{R:V->V->Hp->Prop}(I:Inv X P9 σ H s)
  (h:ta σ H fun x H1=>tb σ H1 fun y H2=>R x y H2) {Q:Value->Shared->Prop} {f:Value->Value->Sem Value}
  (hf:∀v u s2 x y H2,Inv X P9 σ H2 s2->RelV x v->RelV y u->R x y H2->wpAny (model X.prog X.w) X.A (f v u) Q X.xe s2) :
  wpAny (model X.prog X.w) X.A (eval a X.env) (fun v s₁=>wpAny (model X.prog X.w) X.A (eval b X.env) (fun u s₂=>wpAny (model X.prog X.w) X.A (f v u) Q X.xe s₂) X.xe s₁) X.xe s:=by
 refine cY (ha P9 s σ H _ I h) fun v s1 ⟨x,H1,I1,r1,q1⟩=>?_
 refine cY (hb P9 s1 σ H1 _ I1 q1) fun u s2 ⟨y,H2,I2,r2,q2⟩=>?_
 exact hf v u s2 x y H2 I2 r1 r2 q2
theorem aS{op:Operator}{r:R2}(ho:vP X (binaryOp op) r)(ha:PE X a ta)(hb:PE X b tb):PE X (.BinOp a op b pos) (tOp r ta tb):=by
 intro P9 s σ H Q I h
 exact wpAny_BinOp (aNC ha hb I h fun v u s2 x y H2 I2 rx ry q=>ho P9 s2 σ H2 x y v u Q I2 rx ry q)
theorem aBG{op:UnaryOp}{r:V->Hp->VK->Prop}(ho:UnR X (unaryOp op) r)(ha:PE X a ta):PE X (.UnaryOp op a pos) (tUn r ta):=by
 intro P9 s σ H Q I h
 exact UnaryOp_ (cY (ha P9 s σ H _ I h) fun v s1 ⟨x,H1,I1,r1,q1⟩=>ho P9 s1 σ H1 x v Q I1 r1 q1)
theorem opI{f:Value->Value->Sem Value}{C:Int->Int->Prop}{g:Int->Int->Int}
  (rule:∀(i j:Int) (t u:Tok) (s:Shared) (Q:Value->Shared->Prop) (E:Value->Shared->Prop),C i j->Q (.int (g i j) s.toks) { s with toks:=s.toks+1 }->wpAny (model X.prog X.w) X.A (f (.int i t) (.int j u)) Q E s) :
  vP X f (rI C fun i j=>.int (g i j)):=by
 intro P9 s σ H x y v u Q I rx ry h
 obtain⟨i,j,rfl,rfl,hc,q⟩:=h
 obtain⟨t,rfl⟩:=rx
 obtain⟨t',rfl⟩:=ry
 exact rule i j t t' s _ _ hc ⟨.int (g i j),H,I.tok _,⟨_,rfl⟩,q⟩
theorem aOR{f:Value->Value->Sem Value}{g:Int->Int->Int}
  (rule:∀(i j:Int) (t u:Tok) (s:Shared) (Q:Value->Shared->Prop) (E:Value->Shared->Prop),Q (.int (g i j) s.toks) { s with toks:=s.toks+1 }->wpAny (model X.prog X.w) X.A (f (.int i t) (.int j u)) Q E s) :
  vP X f (rI0 fun i j=>.int (g i j)):=by
 intro P9 s σ H x y v u Q I rx ry h
 obtain⟨i,j,rfl,rfl,q⟩:=h
 obtain⟨t,rfl⟩:=rx
 obtain⟨t',rfl⟩:=ry
 exact rule i j t t' s _ _ ⟨.int (g i j),H,I.tok _,⟨_,rfl⟩,q⟩
theorem aL6{f:Value->Value->Sem Value}{g:Int->Int->Bool}
  (rule:∀(i j:Int) (t u:Tok) (s:Shared) (Q:Value->Shared->Prop) (E:Value->Shared->Prop),Q (.bool (g i j)) s->wpAny (model X.prog X.w) X.A (f (.int i t) (.int j u)) Q E s) :
  vP X f (rI0 fun i j=>.bl (g i j)):=by
 intro P9 s σ H x y v u Q I rx ry h
 obtain⟨i,j,rfl,rfl,q⟩:=h
 obtain⟨t,rfl⟩:=rx
 obtain⟨t',rfl⟩:=ry
 exact rule i j t t' s _ _ ⟨.bl (g i j),H,I,rfl,q⟩
def aPF(i j:Int):Prop:=0 < j/\j < 1073741824
def aPG(i j:Int):Prop:=0<=j/\j<=1000000/\i.natAbs < 2 ^ 64
def aKl(i j:Int):Prop:=(-(2 ^ 64) < i/\i < 2 ^ 64)\/(-(2 ^ 64) < j/\j < 2 ^ 64)
theorem aKl.ok{i j:Int}(h:aKl i j):IntMulOk i j:=by
 rcases h with ⟨h1,h2⟩|⟨h1,h2⟩
 ·exact .of_left (intBits_le_64 h1 h2)
 ·exact .of_right (intBits_le_64 h1 h2)
theorem aND:vP X (binaryOp .Add) (rI0 fun i j=>.int (i+j)):=aOR fun _ _ _ _ _ _ _ q=>add_int q
theorem eQ:vP X (binaryOp .Sub) (rI0 fun i j=>.int (i - j)):=aOR fun _ _ _ _ _ _ _ q=>sub_int q
theorem aNE:vP X (binaryOp .Mult) (rI aKl fun i j=>.int (i*j)):=opI fun _ _ _ _ _ _ _ hc q=>mul_int q hc.ok
theorem aFk:vP X (binaryOp .FloorDiv) (rI aPF fun i j=>.int (i / j)):=opI fun i j _ _ _ _ _ hc q=>by
 have h1:(0:Int) < j:=hc.1
 have h2:j < 1073741824:=hc.2
 exact floordiv_int (by omega) (by rw[Int.fdiv_eq_ediv_of_nonneg i (by omega)];exact q) (.inl (PyProof.noPylong_small (by omega)))
theorem rK:vP X (binaryOp .Mod) (rI (fun _ j=>0 < j) fun i j=>.int (i % j)):=opI fun i j _ _ _ _ _ hc q=>by
 have h1:(0:Int) < j:=hc
 exact mod_int' (by omega) (by rw[Int.fmod_eq_emod_of_nonneg i (by omega)];exact q)
theorem aCJ:vP X (binaryOp .Pow) (rI aPG fun i j=>.int (i ^ j.toNat)):=opI fun _ _ _ _ _ _ _ hc q=>pow_int_small hc.1 hc.2.1 hc.2.2 q
theorem unI{f:Value->Sem Value}{g:Int->Int}
  (rule:∀(i:Int) (t:Tok) (s:Shared) (Q:Value->Shared->Prop) (E:Value->Shared->Prop),Q (.int (g i) s.toks) { s with toks:=s.toks+1 }->wpAny (model X.prog X.w) X.A (f (.int i t)) Q E s) :
  UnR X f (rU fun i=>.int (g i)):=by
 intro P9 s σ H x v Q I rx h
 obtain⟨i,rfl,q⟩:=h
 obtain⟨t,rfl⟩:=rx
 exact rule i t s _ _ ⟨.int (g i),H,I.tok _,⟨_,rfl⟩,q⟩
theorem aBa:UnR X (unaryOp .USub) (rU fun i=>.int (-i)):=unI fun _ _ _ _ _ q=>neg_int q
end
section
variable{X:Cx}{a b c:Expr}{ta tb tc:TE}{pos:Pos}
theorem aM6:vP X (compareOp .Lt) (rI0 fun i j=>.bl (decide (i < j))):=aL6 fun _ _ _ _ _ _ _ q=>lt_int q
theorem aCK:vP X (compareOp .LtE) (rI0 fun i j=>.bl (decide (i<=j))):=aL6 fun _ _ _ _ _ _ _ q=>le_int q
theorem aBH:vP X (compareOp .Gt) (rI0 fun i j=>.bl (decide (j < i))):=aL6 fun _ _ _ _ _ _ _ q=>gt_int q
theorem aM7:vP X (compareOp .GtE) (rI0 fun i j=>.bl (decide (j<=i))):=aL6 fun _ _ _ _ _ _ _ q=>ge_int q
theorem vP.or{f:Value->Value->Sem Value}{r r':R2}(h:vP X f r)(h':vP X f r'):vP X f (fun x y H Q=>r x y H Q\/r' x y H Q):=by
 intro P9 s σ H x y v u Q I rx ry q
 rcases q with q|q
 ·exact h P9 s σ H x y v u Q I rx ry q
 ·exact h' P9 s σ H x y v u Q I rx ry q
theorem bI(b:Expr){op:CmpOp}(h:op≠.In:=by decide)(h2:op≠.NotIn:=by decide):behindInMarks op b=false:=by
 have e1:(op == CmpOp.In)=false:=by cases op <;> first|rfl|exact absurd rfl h
 have e2:(op == CmpOp.NotIn)=false:=by cases op <;> first|rfl|exact absurd rfl h2
 cases b <;> simp[behindInMarks,e1,e2]
theorem nE{op:CmpOp}{r:R2}(ho:vP X (compareOp op) r)(ha:PE X a ta)(hb:PE X b tb)(hm:behindInMarks op b=false):PE X (.Compare a [op] [b] pos) (tOp r ta tb):=by
 intro P9 s σ H Q I h
 exact wpAny_Compare1 (aNC ha hb I h fun v u s2 x y H2 I2 rx ry q=>ho P9 s2 σ H2 x y v u Q I2 rx ry q) hm
def aKm(t:TE):TT:=fun σ H Q=>t σ H fun x H'=>∃k,x=.bl k/\Q k H'
theorem bE{op:CmpOp}{r:R2}(ho:vP X (compareOp op) r)(ha:PE X a ta)(hb:PE X b tb)(hm:behindInMarks op b=false):PT X (.Compare a [op] [b] pos) (aKm (tOp r ta tb)):=by
 intro P9 s σ H Q I h
 refine wpAny_isTrue_Compare1 (cY (ha P9 s σ H _ I h) fun v s1 ⟨x,H1,I1,r1,q1⟩=>cY (hb P9 s1 σ H1 _ I1 q1) fun u s2 ⟨y,H2,I2,r2,q2⟩=>
  cY (ho P9 s2 σ H2 x y v u _ I2 r1 r2 q2) fun c s3 ⟨z,H3,I3,r3,k,e,q3⟩=>?_) hm
 subst e
 cases r3
 exact wpAny_truthy_bool ⟨H3,I3,q3⟩
def aHG(r r':R2)(ta tb tc:TE):TE:=fun σ H Q=>ta σ H fun x H1=>tb σ H1 fun y H2=>r x y H2 fun z H3=>∃k,z=.bl k/\
 (if k=true then tc σ H3 fun w' H4=>r' y w' H4 Q else Q (.bl false) H3)
theorem vQ{op op':CmpOp}{r r':R2}(ho:vP X (compareOp op) r)(ho':vP X (compareOp op') r')(ha:PE X a ta)(hb:PE X b tb)(hc:PE X c tc)
  (hm:lastMarks [op,op'] [b,c]=false:=by with_unfolding_all rfl):PE X (.Compare a [op,op'] [b,c] pos) (aHG r r' ta tb tc):=by
 intro P9 s σ H Q I h
 refine Compare_chain (cY (ha P9 s σ H _ I h) fun v s1 ⟨x,H1,I1,r1,q1⟩=>chain_link (cY (hb P9 s1 σ H1 _ I1 q1) fun u s2 ⟨y,H2,I2,r2,q2⟩=>
  cY (ho P9 s2 σ H2 x y v u _ I2 r1 r2 q2) fun d s3 ⟨z,H3,I3,r3,k,e,q3⟩=>?_)) hm
 subst e
 cases r3
 refine wpAny_truthy_bool ?_
 cases k with
 |false=>exact ite_ff ⟨.bl false,H3,I3,rfl,q3⟩
 |true=>exact ite_tt (chain_last (cY (hc P9 s3 σ H3 _ I3 q3) fun w' s4 ⟨z',H4,I4,r4,q4⟩=>ho' P9 s4 σ H4 y z' u w' Q I4 r2 r4 q4))
theorem aBb:(sizeLine:Nat) < 2 ^ 63:=by rw[sizeLine_eq];decide
theorem vals1{x:V}{us:List Value}(r:Vals [x] us):∃u,us=[u]/\RelV x u:=by
 cases r with
 |cons r1 r2=>cases r2;exact⟨_,rfl,r1⟩
theorem vals2{x y:V}{us:List Value}(r:Vals [x,y] us):∃u w',us=[u,w']/\RelV x u/\RelV y w':=by
 cases r with
 |cons r1 r2=>
  cases r2 with
  |cons r3 r4=>cases r4;exact⟨_,_,rfl,r1,r3⟩
theorem aKn:eA X (.builtin "abs") (fun xs H Q=>∃i,xs=[.int i]/\Q (.int (if i < 0 then -i else i)) H):=by
 intro P9 s σ H xs us Q I r h
 obtain⟨i,rfl,q⟩:=h
 obtain⟨u,rfl,t,rfl⟩:=vals1 r
 exact call_abs_int fun u tk=>⟨.int (if i < 0 then -i else i),H,I.tok _,⟨_,rfl⟩,q⟩
theorem aJk(hc:X.calm=true):eA X (.builtin "max") (fun xs H Q=>∃i j,xs=[.int i,.int j]/\Q (.int (if j > i then j else i)) H):=by
 intro P9 s σ H xs us Q I r h
 obtain⟨i,j,rfl,q⟩:=h
 obtain⟨u,w',rfl,⟨t,rfl⟩,⟨t',rfl⟩⟩:=vals2 r
 refine max_two_ints (I.ok.hd hc) fun h' tk k=>⟨_,H,I.kept k,?_,q⟩
 by_cases hj:j > i
 ·rw[if_pos hj,if_pos hj];exact⟨_,rfl⟩
 ·rw[if_neg hj,if_neg hj];exact⟨_,rfl⟩
theorem aJl(hc:X.calm=true):eA X (.builtin "min") (fun xs H Q=>∃i j,xs=[.int i,.int j]/\Q (.int (if j < i then j else i)) H):=by
 intro P9 s σ H xs us Q I r h
 obtain⟨i,j,rfl,q⟩:=h
 obtain⟨u,w',rfl,⟨t,rfl⟩,⟨t',rfl⟩⟩:=vals2 r
 refine min_two_ints (I.ok.hd hc) fun h' tk k=>⟨_,H,I.kept k,?_,q⟩
 by_cases hj:j < i
 ·rw[if_pos hj,if_pos hj];exact⟨_,rfl⟩
 ·rw[if_neg hj,if_neg hj];exact⟨_,rfl⟩
theorem aJm:eA X (.type "int") (fun xs H Q=>(∃i,xs=[.int i]/\Q (.int i) H)\/∃k,xs=[.bl k]/\Q (.int (if k then 1 else 0)) H):=by
 intro P9 s σ H xs us Q I r h
 rcases h with ⟨i,rfl,q⟩|⟨k,rfl,q⟩
 ·obtain⟨u,rfl,t,rfl⟩:=vals1 r
  exact call_int_int ⟨.int i,H,I,⟨_,rfl⟩,q⟩
 ·obtain⟨u,rfl,r1⟩:=vals1 r
  cases r1
  exact call_int_bool ⟨.int (if k then 1 else 0),H,I.tok _,⟨_,rfl⟩,q⟩
def aOS(K:W.Frag)(x:V)(H:Hp)(n:Nat):Prop:=
 match x with
 |.str y=>y.length<=sizeLine/\n=y.length
 |.byt y=>y.size<=sizeLine/\n=y.size
 |.ref p=>(∃xs,bR K H p xs/\n=xs.length)\/∃xs,kR K H p xs/\n=xs.length
 |_=>False
theorem aKo:eA X (.builtin "len") (fun xs H Q=>∃x n,xs=[x]/\aOS X.K x H n/\Q (.int n) H):=by
 intro P9 s σ H xs us Q I r h
 obtain⟨x,n,rfl,e,q⟩:=h
 obtain⟨u,rfl,rx⟩:=vals1 r
 have hl:=aBb
 have hs:sizeLine=16777216:=sizeLine_eq
 cases x with
 |str y=>
  obtain⟨t,rfl⟩:=rx
  obtain⟨hy,e'⟩ : y.length<=sizeLine/\n=y.length:=e
  subst e'
  exact len_str (by omega) ⟨.int _,H,I.tok _,⟨_,rfl⟩,q⟩
 |byt y=>
  obtain⟨t,rfl⟩:=rx
  obtain⟨hy,e'⟩ : y.size<=sizeLine/\n=y.size:=e
  subst e'
  exact PySem.W.len_bytes (by omega) ⟨.int _,H,I.tok _,⟨_,rfl⟩,q⟩
 |ref p=>
  cases rx
  have e':(∃xs,bR X.K H p xs/\n=xs.length)\/∃xs,kR X.K H p xs/\n=xs.length:=e
  rcases e' with ⟨xs,hx,e'⟩|⟨xs,hx,e'⟩
  ·subst e'
   obtain⟨its,r',pl,hz⟩:=I.list hx
   have hlen:=r'.length
   exact Calls.call_len_list pl.isList (by simp only[List.size_toArray];omega) ⟨.int xs.length,H,I.tok _,⟨_,by simp only[List.size_toArray];rw[hlen]⟩,q⟩
  ·subst e'
   obtain⟨its,r',pl,hz⟩:=I.tuple hx
   have hlen:=r'.length
   exact len_tuple pl (by simp only[List.size_toArray];omega) ⟨.int xs.length,H,I.tok _,⟨_,by simp only[List.size_toArray];rw[hlen]⟩,q⟩
 |_=>exact(show False from e).elim
end
end L2
namespace L2
open PySem PySem.Spec PyProof.Rows
structure aHH(h:Heap)(x dx C:Addr)(mA:Str->Option Value):Prop where
 obj:h.get? x=some (PySem.W.instObj C dx)
 ns:h.Ns1 dx mA
 ne:dx≠x
theorem aJn{h:Heap}{dx:Addr}{mA:Str->Option Value}(n:h.Ns1 dx mA):∃od,h.get? dx=some od/\∀name,PySem.W.lookIn name od=some (mA name):=by
 obtain⟨o,es,ep,ho,hd,hk,_,hm⟩:=n
 refine⟨o,ho,fun name=>?_⟩
 have e:=hm name
 unfold nsFind findBy at e
 rw[<-Array.find?_toList] at e
 unfold PySem.W.lookIn
 rw[hd]
 dsimp only
 split
 ·rename_i y q
  rw[q] at e
  exact congrArg some e
 ·rename_i q
  rw[q] at e
  have a:es.toList.any (·.refKey)=false:=by
   rw[List.any_eq_false]
   intro y hy
   obtain⟨z,t,hkey⟩:=hk y (Array.mem_toList_iff.mp hy)
   simp[DictEntry.refKey,hkey]
  have a':¬es.toList.any (·.refKey)=true:=by rw[a];exact Bool.false_ne_true
  rw[if_neg a']
  exact congrArg some e
theorem aHH.look{h:Heap}{x dx C:Addr}{mA:Str->Option Value}(I:aHH h x dx C mA):∃od,PySem.W.InstAt h x (PySem.W.instObj C dx) C (some od)/\∀name,PySem.W.lookIn name od=some (mA name):=
 let ⟨od,ho,hl⟩:=aJn I.ns
 ⟨od,⟨I.obj,rfl,rfl,ho⟩,hl⟩
section
variable{prog:Program}{w:World}{A:Around}{E:Value->Shared->Prop}{s:Shared}{K:W.Frag}{x dx C f:Addr}{mA:Str->Option Value}{name:Str}{v:Value}
theorem get_map{expr:Bool}{Q:Value->Shared->Prop}(X:K.In s.heap)(I:aHH s.heap x dx C mA)(hg:PySem.W.plainGet K C name=true)(hh:PySem.W.hasDictIn K C=true)
  (ha:W.findIn K (.ref C) name=some none) (hv:mA name=some v) (hv':PySem.W.handedIn v=true) (h:Q v { s with toks:=s.toks+1 }) :
  wpAny (model prog w) A (getAttr (.ref x) name expr) Q E s:=by
 obtain⟨od,J,hl⟩:=I.look
 exact PySem.W.get_value X J (PySem.W.plainGet_of hg).1 (PySem.W.findObj_own hh ha rfl (by rw[hl,hv])) hv' h
theorem aKp{pl:Sem Bool}{Q:Value×List Value->Shared->Prop}(X:K.In s.heap)(I:aHH s.heap x dx C mA)(hg:PySem.W.plainGet K C name=true)
  (hf:W.findIn K (.ref C) name=some (some (.ref f))) (ht:PySem.W.isFn K (.ref f)=true) (hv:mA name=none) (h:Q (.ref f,[.ref x]) s) :
  wpAny (model prog w) A (getMethod (.ref x) name pl) Q E s:=by
 obtain⟨od,J,hl⟩:=I.look
 exact PySem.W.method_fn X J (PySem.W.plainGet_of hg).1 (PySem.W.plainGet_of hg).2 hf (beq_iff_eq.mp ht) (by show(PySem.W.lookIn name od).map (·.isSome)=some false;rw[hl,hv];rfl) h
theorem aL7{ns:List Str}{Q:Unit->Shared->Prop}(X:K.In s.heap)(I:aHH s.heap x dx C mA)
  (hs:PySem.W.findIn K (.ref C) "__setattr__" = some (some (.builtin "object.__setattr__"))) (hp:PySem.W.plainOver K C=true) (ht:PySem.W.takerIn K C name=some none) (hh:PySem.W.hasDictIn K C=true)
  (hw:PySem.Within mA ns) (hsz:ns.length<=sizeLine)
  (h:∀h',aHH h' x dx C (fun y=>if y=name then some v else mA y)->Heap.SameBut dx s.heap h'->Q () { s with heap:=h',toks:=s.toks+2 }) :
  wpAny (model prog w) A (setAttr (.ref x) name v) Q E s:=by
 obtain⟨od,J,hl⟩:=I.look
 refine PySem.W.set_plain X J hs (PySem.W.osa_open (s:={ s with toks:=s.toks+1 }) (r:=none) X J hp ht fun b=>?_)
 obtain⟨cd,hc,hd'⟩:=PySem.W.any_some hh
 have hx:s.heap.get? x=some ⟨.ref C,some dx,.plain,#[]⟩:=I.obj
 refine wpAny_bind (wpAny_pure (wpAny_bind (wpAny_bind (wpAny_loadPart hx (wpAny_bind (PySem.W.Looks.here (s:={ s with toks:=s.toks+1 }) (PySem.W.looks_clsIn X hc) ?_))))))
 rw[hd']
 refine wpAny_pure (a:=some dx) (wpAny_bind (wpAny_pure (wpAny_bind ?_)))
 refine wpAny_nsSet1 (s:={ s with toks:=s.toks+1 }) I.ns fun h' hn2 hs2=>?_
 obtain⟨oD,esD,epD,hoD,hdD,hcD⟩:=hn2.count (PySem.Within.cons name v hw)
 refine wpAny_bind (wpAny_lookBehind hoD (by rw[hdD];exact pastItsLine_dict (Nat.le_trans hcD (by rw[List.length_cons];omega))) ?_)
 exact wpAny_pure (h _ ⟨(hs2.2 _ (Ne.symm I.ne)).trans I.obj,hn2,I.ne⟩ hs2)
theorem aKq{R:Result->Shared->Prop}{vs:List Value}{kw:List (Str×Value)}(X:K.In s.heap)(hm:PySem.W.makesIn K C=true)
  (hi:PySem.W.findIn K (.ref C) "__init__" = some (some (.ref f))) (hf:PySem.W.typeIn K (.ref f)=some (.type "function"))
  (h:codeAny (model prog w) (A.under (.builtin "type.__call__" ⟨.ref C::vs,kw⟩)) (.call (.ref f) ⟨.ref (s.heap.objs.size+1)::vs,kw⟩) (PySem.W.InitBack (s.heap.objs.size+1) R)
   { s with heap:=(s.heap.push PySem.W.emptyDict).push (PySem.W.instObj C s.heap.objs.size) }) :
  codeAny (model prog w) A (.call (.ref C) ⟨vs,kw⟩) R s:=by
 obtain⟨hh,g,d,t,os⟩:=s
 exact PySem.W.make_core (PySem.W.makes_of X hm) (PySem.W.looks_findIn X hi) (fun self=>PySem.W.bind_fn X self hf) (.inl rfl) h
end
def tE(f:Str)(v:V):List (Str×V)->List (Str×V)
 |[]=>[(f,v)]
 |(g,x)::r=>if g=f then (g,v)::r else (g,x)::tE f v r
theorem aBI(f g:Str)(v:V):∀fs:List (Str×V),(tE f v fs).lookup g=if g=f then some v else fs.lookup g
 |[]=>by
  show List.lookup g [(f,v)]=_
  by_cases h:g=f
  ·have hb:(g == f)=true:=beq_iff_eq.mpr h
   simp only[List.lookup,hb,if_pos h]
  ·have hb:(g == f)=false:=beq_eq_false_iff_ne.mpr h
   simp only[List.lookup,hb,if_neg h]
 |(k,x)::r=>by
  have ih:=aBI f g v r
  rw[show tE f v ((k,x)::r)=(if k=f then (k,v)::r else (k,x)::tE f v r) from rfl]
  by_cases hk:k=f
  ·rw[if_pos hk]
   by_cases h:g=k
   ·have hb:(g == k)=true:=beq_iff_eq.mpr h
    simp only[List.lookup,hb,if_pos (h.trans hk)]
   ·have hb:(g == k)=false:=beq_eq_false_iff_ne.mpr h
    simp only[List.lookup,hb,if_neg (fun e:g=f=>h (e.trans hk.symm))]
  ·rw[if_neg hk]
   by_cases h:g=k
   ·have hb:(g == k)=true:=beq_iff_eq.mpr h
    simp only[List.lookup,hb,if_neg (fun e:g=f=>hk (h.symm.trans e))]
   ·have hb:(g == k)=false:=beq_eq_false_iff_ne.mpr h
    simp only[List.lookup,hb]
    exact ih
theorem aBc(f:Str)(v:V):∀fs:List (Str×V),f∈(tE f v fs).map (·.1)/\∀g,g∈fs.map (·.1)->g∈(tE f v fs).map (·.1)
 |[]=>⟨by simp[tE],fun g h=>by simp at h⟩
 |(k,x)::r=>by
  obtain⟨i1,i2⟩:=aBc f v r
  rw[show tE f v ((k,x)::r)=(if k=f then (k,v)::r else (k,x)::tE f v r) from rfl]
  by_cases hk:k=f
  ·rw[if_pos hk]
   subst hk
   exact⟨by simp,fun g h=>by simpa using h⟩
  ·rw[if_neg hk]
   refine⟨?_,fun g h=>?_⟩
   ·rw[List.map_cons]
    exact List.mem_cons_of_mem _ i1
   ·rw[List.map_cons] at h ⊢
    rcases List.mem_cons.mp h with e|e
    ·exact List.mem_cons.mpr (.inl e)
    ·exact List.mem_cons_of_mem _ (i2 g e)
theorem aBJ(f:Str)(v:V):∀fs:List (Str×V),(tE f v fs).length<=fs.length+1
 |[]=>by simp[tE]
 |(k,x)::r=>by
  have ih:=aBJ f v r
  rw[show tE f v ((k,x)::r)=(if k=f then (k,v)::r else (k,x)::tE f v r) from rfl]
  by_cases hk:k=f
  ·rw[if_pos hk,List.length_cons,List.length_cons];omega
  ·rw[if_neg hk,List.length_cons,List.length_cons];omega
theorem vH.some_of{v:V}{o:Option Value}(r:vH (some v) o):∃u,o=some u/\RelV v u:=by
 cases o with
 |none=>exact(show False from r).elim
 |some u=>exact⟨u,rfl,r⟩
theorem vH.none_of{o:Option Value}(r:vH none o):o=none:=by
 cases o with
 |none=>rfl
 |some u=>exact(show False from r).elim
theorem aJo{v:V}{u:Value}(r:RelV v u):PySem.W.handedIn u=true:=by
 cases v with
 |non=>cases (show u=Value.none from r);rfl
 |bl b=>cases (show u=Value.bool b from r);rfl
 |int i=>obtain⟨t,e⟩:=(show ∃t,u=Value.int i t from r);cases e;rfl
 |str x=>obtain⟨t,e⟩:=(show ∃t,u=Value.str x t from r);cases e;rfl
 |byt b=>obtain⟨t,e⟩:=(show ∃t,u=Value.bytes b t from r);cases e;rfl
 |flt b=>obtain⟨t,e⟩:=(show ∃t,u=Value.float b t from r);cases e;rfl
 |ref a=>cases (show u=Value.ref a from r);rfl
 |ty n=>cases (show u=Value.type n from r);rfl
section
variable{P:Program}{w:World}{H H':Hp}{h h':Heap}{a C dx:Addr}{fs fs':List (Str×V)}
theorem aCt(hok:vB P w H h)(e:H a=some (.ins C dx fs)):∃mA,aHH h a dx C mA/\(∀f,vH (fs.lookup f) (mA f))/\PySem.Within mA (fs.map (·.1))/\fs.length<=1000/\H dx=some (.own a):=by
 obtain⟨d,z,ne,ob,mA,n,r,q⟩:=(show bO P w H h a (.ins C dx fs) from hok a _ e)
 exact⟨mA,⟨ob,n,ne⟩,r,q,z,d⟩
end
structure Cls(K:W.Frag)(C:Addr):Prop where
 pg:PySem.W.plainGet K C Str.empty=true
 hd:PySem.W.hasDictIn K C=true
 po:PySem.W.plainOver K C=true
 sa:PySem.W.findIn K (.ref C) "__setattr__" = some (some (.builtin "object.__setattr__"))
theorem Cls.get{K:W.Frag}{C:Addr}(c:Cls K C)(f:Str):PySem.W.plainGet K C f=true:=c.pg
def cP(K:W.Frag)(C:Addr)(f:Str):Prop:=W.findIn K (.ref C) f=some none
theorem cP.aOT{K:W.Frag}{C:Addr}{f:Str}(n:cP K C f):PySem.W.takerIn K C f=some none:=by
 unfold PySem.W.takerIn
 rw[show W.findIn K (.ref C) f=some none from n]
 rfl
structure Meth(K:W.Frag)(C:Addr)(m:Str)(f:Addr):Prop where
 at_:W.findIn K (.ref C) m=some (some (.ref f))
 fn:PySem.W.isFn K (.ref f)=true
 kp:W.keepIn K (.ref f)=true
section
variable{X:Cx}{P9:List (Addr×Obj)}{σ:St}{H:Hp}{s:Shared}{a C dx:Addr}{fs:List (Str×V)}{f:Str}{v:V}{A:Around}{E:Value->Shared->Prop}
theorem aHI{b:Bool}{Q:Value->Shared->Prop}(I:Inv X P9 σ H s)(e:H a=some (.ins C dx fs))(c:Cls X.K C)(n:cP X.K C f)(l:fs.lookup f=some v)
  (h:∀u s',Inv X P9 σ H s'->RelV v u->Q u s'):wpAny (model X.prog X.w) A (getAttr (.ref a) f b) Q E s:=by
 obtain⟨mA,O,r,_,_,_⟩:=aCt I.hok e
 obtain⟨u,hu,ru⟩:=vH.some_of (v:=v) (o:=mA f) (by rw[<-l];exact r f)
 exact get_map I.kIn O (c.get f) c.hd n hu (aJo ru) (h u _ (I.tok _) ru)
theorem aHJ{m:Str}{g:Addr}{pl:Sem Bool}{Q:Value×List Value->Shared->Prop}(I:Inv X P9 σ H s)(e:H a=some (.ins C dx fs))(c:Cls X.K C)(k:Meth X.K C m g)(l:fs.lookup m=none)
  (h:Q (.ref g,[.ref a]) s):wpAny (model X.prog X.w) A (getMethod (.ref a) m pl) Q E s:=by
 obtain⟨mA,O,r,_,_,_⟩:=aCt I.hok e
 have hn:mA m=none:=vH.none_of (by rw[<-l];exact r m)
 exact aKp I.kIn O (c.get m) k.at_ k.fn hn h
theorem aHK{y:V}{u:Value}{Q:Unit->Shared->Prop}(I:Inv X P9 σ H s)(e:H a=some (.ins C dx fs))(c:Cls X.K C)(n:cP X.K C f)(hl:fs.length < 1000)(ry:RelV y u)
  (h:∀s',Inv X P9 σ (upd H a (.ins C dx (tE f y fs))) s'->Q () s'):wpAny (model X.prog X.w) A (setAttr (.ref a) f u) Q E s:=by
 obtain⟨mA,O,r,wi,_,ho⟩:=aCt I.hok e
 have hz:(fs.map (·.1)).length<=sizeLine:=by rw[List.length_map,sizeLine_eq];omega
 refine aL7 I.kIn O c.sa c.po n.aOT c.hd wi hz fun h' O' sb=>h _ ?_
 have hd:∃o,h'.get? dx=some o:=let ⟨o,_,_,e',_⟩:=O'.ns;⟨o,e'⟩
 refine I.write (x:=a) (e:=dx) (by rw[e];exact True.intro) (.inr ho) (fun b q hb z=>(sb.2 b hb).trans z) hd ?_
 refine⟨by rw[aR O.ne];exact ho,?_,O.ne,O'.obj,_,O'.ns,fun g=>?_,fun g hg=>?_⟩
 ·have:=aBJ f y fs;omega
 ·show vH ((tE f y fs).lookup g) (if g=f then some u else mA g)
  rw[aBI]
  by_cases q:g=f
  ·rw[if_pos q,if_pos q];exact ry
  ·rw[if_neg q,if_neg q];exact r g
 ·by_cases q:g=f
  ·rw[q];exact(aBc f y fs).1
  ·refine(aBc f y fs).2 g (wi g fun z=>hg ?_)
   show(if g=f then some u else mA g)=none
   rw[if_neg q];exact z
theorem Inv.made(I:Inv X P9 σ H s):Inv X P9 σ (upd (upd H s.heap.objs.size (.own (s.heap.objs.size+1))) (s.heap.objs.size+1) (.ins C s.heap.objs.size []))
  { s with heap:=(s.heap.push PySem.W.emptyDict).push (PySem.W.instObj C s.heap.objs.size) }:=by
 have e1:(s.heap.push PySem.W.emptyDict).get? s.heap.objs.size=some PySem.W.emptyDict:=Heap.get?_push_size s.heap rfl
 have e2:((s.heap.push PySem.W.emptyDict).push (PySem.W.instObj C s.heap.objs.size)).get? (s.heap.objs.size+1)=some (PySem.W.instObj C s.heap.objs.size):=by
  have:=Heap.get?_push_size (s.heap.push PySem.W.emptyDict) (o:=PySem.W.instObj C s.heap.objs.size) rfl
  rwa[Heap.size_push] at this
 have e3:(s.heap.push PySem.W.emptyDict).Ns s.heap.objs.size (fun _=>none):=⟨PySem.W.emptyDict,#[],_,e1,rfl,(fun e he=>absurd he (by simp)),fun _=>rfl⟩
 have I1:=I.laid (a:=s.heap.objs.size) (o:=.own (s.heap.objs.size+1)) (h':=s.heap.push PySem.W.emptyDict) (t':=s.toks) (fun b u q=>Heap.get?_push_of_some _ q) (Nat.le_refl _) ⟨_,e1⟩
 refine I1.laid (a:=s.heap.objs.size+1) (o:=.ins C s.heap.objs.size []) (t':=s.toks) (fun b u q=>Heap.get?_push_of_some _ q) (Nat.le_of_eq (Heap.size_push _ _)) ?_
 have ne:s.heap.objs.size≠s.heap.objs.size+1:=Nat.ne_of_lt (Nat.lt_succ_self _)
 refine⟨by rw[aR ne,aH],Nat.zero_le _,ne,e2,fun _=>none,(Heap.Ns1.of_empty e3).at fun o q=>Heap.get?_push_of_some _ q,fun _=>True.intro,fun y hy=>absurd rfl hy⟩
theorem aL8{prog:Program}{w:World}{env:Env}{e:Expr}{f:Str}{pos:Pos}{s:Shared}{Q:Value->Shared->Prop}(hb:attributeBase e f env (eval e env)=eval e env)
  (h:wpAny (model prog w) A (eval e env) (fun o s₁=>wpAny (model prog w) A (getAttr o f true) Q E s₁) E s):wpAny (model prog w) A (eval (.Attribute e f pos) env) Q E s:=
 Attribute_any_ h (by rw[arm_eval_Attribute,hb])
end
def aNF(K:W.Frag)(ta:TE)(f:Str):TE:=fun σ H Q=>ta σ H fun x H1=>∃a C dx fs v,x=.ref a/\H1 a=some (.ins C dx fs)/\Cls K C/\cP K C f/\fs.lookup f=some v/\Q v H1
def aNG(K:W.Frag)(ta tv:TE)(f:Str):TS:=fun D σ H=>tv σ H fun y H1=>ta σ H1 fun x H2=>∃a C dx fs,x=.ref a/\H2 a=some (.ins C dx fs)/\Cls K C/\cP K C f/\fs.length < 1000/\
 D.nx σ (upd H2 a (.ins C dx (tE f y fs)))
section
variable{X:Cx}{o e value:Expr}{f:Str}{pos pos' tpos:Pos}{ta tv:TE}
theorem aNH(he:PE X e ta)(hb:attributeBase e f X.env (eval e X.env)=eval e X.env):PE X (.Attribute e f pos) (aNF X.K ta f):=by
 intro P9 s σ H Q I h
 refine aL8 hb (cY (he P9 s σ H _ I h) fun u s1 ⟨x,H1,I1,rx,a,C,dx,fs,v,ex,ea,c,n,l,q⟩=>?_)
 subst ex
 obtain rfl:u=Value.ref a:=rx
 exact aHI I1 ea c n l fun u' s2 I2 ru=>⟨v,H1,I2,ru,q⟩
theorem aNI(ha:PE X o ta)(hv:PE X value tv)(hs:swapsWith value (some (.Attribute o f pos')) pos.line X.env=pure false):PS X (.Assign [.Attribute o f pos'] value pos) (aNG X.K ta tv f):=by
 intro P9 s σ H D I h
 refine plainObj_wpAny_Assign_Attribute (cY (hv P9 s σ H _ I h) fun u s1 ⟨y,H1,I1,ry,q⟩=>cY (ha P9 s1 σ H1 _ I1 q) fun ov s2 ⟨x,H2,I2,rx,a,C,dx,fs,ex,ea,c,n,l,q2⟩=>?_) hs
 subst ex
 obtain rfl:ov=Value.ref a:=rx
 exact aHK I2 ea c n l ry fun s3 I3=>⟨σ,_,I3,q2⟩
end
section
variable{X:Cx}{P9:List (Addr×Obj)}{σ:St}{H:Hp}{s:Shared}{A:Around}{E:Value->Shared->Prop}{Q:Value->Shared->Prop}{c:Value}{b:Bool}
inductive zZ (K:W.Frag) (H:Hp):V->Value->Prop where
 |non:zZ K H .non (.type "NoneType")
 |bl (x:Bool):zZ K H (.bl x) (.type "bool")
 |int (i:Int):zZ K H (.int i) (.type "int")
 |str (x:Str):zZ K H (.str x) (.type "str")
 |flt (x:UInt64):zZ K H (.flt x) (.type "float")
 |lst {a:Addr} {xs:List V} (e:H a=some (.lst xs)):zZ K H (.ref a) (.type "list")
 |frz {a:Addr} {o:Obj} {xs:List V} (e:H a=some (.frz o (.lst xs))):zZ K H (.ref a) (.type "list")
 |tup {a:Addr} {xs:List V} (e:H a=some (.tup xs)):zZ K H (.ref a) (.type "tuple")
 |dK {a:Addr} {kvs:List (Key×V)} (e:H a=some (.dK kvs)):zZ K H (.ref a) (.type "dict")
 |dT {a:Addr} {kvs:List (List Key×V)} (e:H a=some (.dT kvs)):zZ K H (.ref a) (.type "dict")
 |ins {a C dx:Addr} {fs:List (Str×V)} (e:H a=some (.ins C dx fs)) (cl:Cls K C) (ha:PySem.W.findIn K (.ref C) "__class__" = some (some (.builtin "object.__class__")))
   (hn:PySem.W.specialIn K (.builtin "object.__class__") "__get__" = some (some (.builtin "getset_descriptor.__get__"))) (htk:PySem.W.takesIn K (.builtin "object.__class__")=some true)
   (hm:PySem.W.mroIn K C (.type "object")=some true):zZ K H (.ref a) (.ref C)
theorem aEP{x:V}{u t:Value}(I:Inv X P9 σ H s)(rx:RelV x u)(ty:zZ X.K H x t)(e:PySem.W.kitOne X.K t c=some b)(h:∀tk,Q (.bool b) { s with toks:=tk }) :
  wpAny (model X.prog X.w) A (call (.builtin "isinstance") [u,c]) Q E s:=by
 cases ty with
 |non=>cases (show u=Value.none from rx);exact PySem.W.kia_one PySem.W.kitx_none I.kIn True.intro e (fun z=>nomatch z) h
 |bl y=>cases (show u=Value.bool y from rx);exact PySem.W.kia_one PySem.W.kitx_bool I.kIn True.intro e (fun z=>nomatch z) h
 |int i=>obtain⟨t,q⟩:=(show ∃t,u=Value.int i t from rx);cases q;exact PySem.W.kia_one PySem.W.kitx_int I.kIn True.intro e (fun z=>nomatch z) h
 |str y=>obtain⟨t,q⟩:=(show ∃t,u=Value.str y t from rx);cases q;exact PySem.W.kia_one PySem.W.kitx_str I.kIn True.intro e (fun z=>nomatch z) h
 |flt y=>obtain⟨t,q⟩:=(show ∃t,u=Value.float y t from rx);cases q;exact PySem.W.kia_one PySem.W.kitx_float I.kIn True.intro e (fun z=>nomatch z) h
 |@lst a xs ea=>
  cases (show u=Value.ref a from rx)
  obtain⟨_,_,n,_,h1⟩:=(show bO X.prog X.w H s.heap a (.lst xs) from I.hok a _ ea)
  exact PySem.W.kia_one PySem.W.kitx_list I.kIn ⟨_,h1,rfl⟩ e (fun z=>nomatch z) h
 |@frz a ob xs ea=>
  cases (show u=Value.ref a from rx)
  obtain⟨_,_,_,n,_,h1⟩:=(show bO X.prog X.w H s.heap a (.frz ob (.lst xs)) from I.hok a _ ea)
  exact PySem.W.kia_one PySem.W.kitx_list I.kIn ⟨_,h1,rfl⟩ e (fun z=>nomatch z) h
 |@tup a xs ea=>
  cases (show u=Value.ref a from rx)
  obtain⟨_,_,_,p⟩:=(show bO X.prog X.w H s.heap a (.tup xs) from I.hok a _ ea)
  obtain⟨o,h1,h2,_⟩:=p
  exact PySem.W.kia_one PySem.W.kitx_tuple I.kIn ⟨o,h1,h2⟩ e (fun z=>nomatch z) h
 |@dK a kvs ea=>
  cases (show u=Value.ref a from rx)
  obtain⟨_,_,vs,_,p⟩:=(show bO X.prog X.w H s.heap a (.dK kvs) from I.hok a _ ea)
  obtain⟨o,es,ep,h1,h2,_⟩:=p
  exact PySem.W.kia_one PySem.W.kitx_dict I.kIn ⟨o,h1,h2.1⟩ e (fun z=>nomatch z) h
 |@dT a kvs ea=>
  cases (show u=Value.ref a from rx)
  obtain⟨_,_,xs,_,o,es,ep,h1,h2,_⟩:=(show bO X.prog X.w H s.heap a (.dT kvs) from I.hok a _ ea)
  exact PySem.W.kia_one PySem.W.kitx_dict I.kIn ⟨o,h1,h2.1⟩ e (fun z=>nomatch z) h
 |@ins a C dx fs ea cl ha hn htk hm=>
  cases (show u=Value.ref a from rx)
  obtain⟨mA,O,_⟩:=aCt I.hok ea
  obtain⟨od,J,_⟩:=O.look
  exact PySem.W.kia_one (PySem.W.kitx_own (cl.get _) cl.hd ha hn htk hm) I.kIn J e (fun z=>nomatch z) h
end
end L2
namespace L2
open PySem PySem.Spec PyProof.Rows
structure fD(k:Nat)(A:Around):Prop where
 hd:A.handled=none
 dp:A.depth+3*k+5 < recursionLimit
 un:A.units+16*k+200 < cLine
theorem fD.mono{j k:Nat}{A:Around}(r:fD k A)(h:j<=k):fD j A:=⟨r.hd,by have:=r.dp;omega,by have:=r.un;omega⟩
theorem fD.deeper{k:Nat}{A:Around}(r:fD (k+1) A)(env:Env):fD k (A.deeper env):=
 ⟨r.hd,by have:=r.dp;show A.depth+1+3*k+5 < _;omega,by have:=r.un;show A.units+3+16*k+200 < _;omega⟩
theorem aHL{A:Around}{C:Addr}{us:List Value}{kw:List (Str×Value)}:(A.under (.builtin "type.__call__" ⟨.ref C::us,kw⟩)).depth=A.depth+1:=by
 first|rfl|simp[Around.under,Code.weight,Code.isCreation,Code.isGuard,Code.isCaller,Code.frames,Code.isFrame,guardIds]
theorem aHM{A:Around}{C:Addr}{us:List Value}{kw:List (Str×Value)}:(A.under (.builtin "type.__call__" ⟨.ref C::us,kw⟩)).units=A.units+1:=by
 first|rfl|simp[Around.under,Code.cUnits,Code.frames,Code.isFrame]
theorem fD.make{k:Nat}{A:Around}(r:fD (k+1) A)(C:Addr)(us:List Value)(kw:List (Str×Value)):fD k (A.under (.builtin "type.__call__" ⟨.ref C::us,kw⟩)):=
 ⟨r.hd,by have:=r.dp;rw[aHL];omega,by have:=r.un;rw[aHM];omega⟩
theorem fD.depth{k:Nat}{A:Around}(r:fD k A):A.depth < recursionLimit:=by have:=r.dp;omega
def oV:TA:=fun _ H Q=>Q [] H
def bG(ta:TE)(tr:TA):TA:=fun σ H Q=>ta σ H fun x H1=>tr σ H1 fun xs H2=>Q (x::xs) H2
section
variable{X:Cx}{e:Expr}{es:List Expr}{te:TE}{t:TA}{pos:Pos}
theorem aC:PA X [] oV:=fun _ _ _ _ H Q I h=>Calls.spliced_nil ⟨[],H,I,.nil,h⟩
theorem aL9(ha:PE X e te)(hr:PA X es t)(hs:starEach (e::es) X.env=(false,eval e X.env)::starEach es X.env:=by rfl):PA X (e::es) (bG te t):=by
 intro pos P9 s σ H Q I h
 rw[hs]
 show wpAny _ _ (spliced ((false,eval e X.env)::backTo pos (starEach es X.env))) _ _ s
 refine Calls.spliced_cons (cY (ha P9 s σ H _ I h) fun u s1 ⟨x,H1,I1,r1,q1⟩=>?_)
 exact cY (hr pos P9 s1 σ H1 _ I1 q1) fun us s2 ⟨xs,H2,I2,r2,q2⟩=>⟨x::xs,H2,I2,.cons r1 r2,q2⟩
def aGx(t:TA):TE:=fun σ H Q=>t σ H fun xs H1=>xs.length<=sizeLine/\∀p,H1 p=none->Q (.ref p) (upd H1 p (.tup xs))
def y6(t:TA):TE:=fun σ H Q=>t σ H fun xs H1=>xs.length<=sizeLine/\∀p,H1 p=none->Q (.ref p) (upd H1 p (.lst xs))
theorem aHN{x1}(h:PA X es t):PE X (.Tuple es x1 pos) (aGx t):=by
 intro P9 s σ H Q I hq
 refine wpAny_Tuple_spliced (cY (h pos P9 s σ H _ I hq) fun us s1 ⟨xs,H1,I1,r,z,q⟩=>⟨by rw[<-r.length];exact z,?_⟩)
 have hf:H1 s1.heap.objs.size=none:=I1.hok.fresh (Nat.le_refl _)
 refine⟨.ref s1.heap.objs.size,upd H1 s1.heap.objs.size (.tup xs),I1.laid (t':=s1.toks) (fun b u e=>Heap.get?_push_of_some _ e) (Nat.le_refl _) ?_,rfl,q _ hf⟩
 exact⟨z,us,r,⟨_,Heap.get?_push_size _ rfl,rfl,_,rfl⟩⟩
theorem jU(h:PA X es t):PE X (.List es pos) (y6 t):=by
 intro P9 s σ H Q I hq
 refine wpAny_List_spliced (cY (h pos P9 s σ H _ I hq) fun us s1 ⟨xs,H1,I1,r,z,q⟩=>⟨by rw[<-r.length];exact z,?_⟩)
 have hf:H1 s1.heap.objs.size=none:=I1.hok.fresh (Nat.le_refl _)
 refine⟨.ref s1.heap.objs.size,upd H1 s1.heap.objs.size (.lst xs),I1.laid (t':=s1.toks) (fun b u e=>Heap.get?_push_of_some _ e) (Nat.le_refl _) ?_,rfl,q _ hf⟩
 exact⟨z,us,0,r,Heap.get?_push_size _ rfl⟩
end
abbrev Sp:=List V->Hp->VK->XK->Prop
abbrev CXT:=List Env->Hp->Shared->XK->Value->Shared->Prop
structure aDW(P:Program)(w:World)(K:W.Frag)(mg:Str->Option Value)(base:Heap)(A:Around)(outer:List Env)(s:Shared)(H:Hp):Prop where
 frames:A.frames=some outer
 mod:Mod K mg base
 bs:∀b o,base.get? b=some o->s.heap.get? b=some o/\H b=none
 bsz:base.objs.size<=s.heap.objs.size
 zT:s.heap.FunFrames base outer
 frf:∀b∈frs outer,H b=none
 hok:vB P w H s.heap
 bare:AllBare s.gens
def CE(outer:List Env)(P:Program)(w:World)(H:Hp)(s:Shared)(Q:VK)(u:Value)(s':Shared):Prop:=
 ∃v H',s'.os=s.os/\AllBare s'.gens/\Un (frs outer) [] H H' s.heap s'.heap/\vB P w H' s'.heap/\RelV v u/\Q v H'
def CR(CX:CXT)(outer:List Env)(P:Program)(w:World)(H:Hp)(s:Shared)(Q:VK)(E:XK)(r:Result)(s':Shared):Prop:=
 match r with
 |.ok (.ret u)=>CE outer P w H s Q u s'
 |.ok _=>False
 |.error e=>CX outer H s E e s'
structure bL(P:Program)(w:World)(K:W.Frag)(mg:Str->Option Value)(base:Heap)(CX:CXT)(k:Nat)(f:Addr)(fd:FuncData)(ps:List Str)(sp:Sp):Prop where
 len:∀vs H Q E,sp vs H Q E->vs.length=ps.length
 run:∀(A:Around) (outer:List Env) (s:Shared) (H:Hp) (args:Args) (us:List Value) (vs:List V) (Q:VK) (E:XK),fD k A->aDW P w K mg base A outer s H->BindsTo s fd args (ps.zip us)->Vals vs us->sp vs H Q E->
  codeAny (model P w) A (.call (.ref f) args) (CR CX outer P w H s Q E) s
theorem aDW.make{P:Program}{w:World}{K:W.Frag}{mg:Str->Option Value}{base:Heap}{A:Around}{outer:List Env}{s:Shared}{H:Hp}(e:aDW P w K mg base A outer s H)(C:Addr)(us:List Value)(kw:List (Str×Value)) :
  aDW P w K mg base (A.under (.builtin "type.__call__" ⟨.ref C::us,kw⟩)) outer s H:=⟨by first|exact e.frames|(simpa [Around.under,Code.envs,Code.isFrame,pushEnvs] using e.frames),e.mod,e.bs,e.bsz,e.zT,e.frf,e.hok,e.bare⟩
section
variable{X:Cx}{P9:List (Addr×Obj)}{σ:St}{H:Hp}{s s':Shared}
theorem Inv.aKr(I:Inv X P9 σ H s):aDW X.prog X.w X.K X.mg X.base X.A X.stack s H:=
 ⟨I.ok.frames,I.ok.mod,I.bs,Nat.le_trans I.ok.bsz I.sz,I.stack,I.aFf,I.hok,I.bare⟩
theorem Inv.after{Q:VK}{u:Value}(I:Inv X P9 σ H s)(h:CE X.stack X.prog X.w H s Q u s'):EP X P9 σ Q u s':=by
 obtain⟨v,H',os,bare,un,hok,r,q⟩:=h
 obtain⟨hh,g,d,t,os'⟩:=s'
 obtain rfl:os'=s.os:=os
 exact⟨v,H',I.call (h':=hh) (g':=g) (d':=d) (t':=t) (ch:=[]) un hok bare (fun b z=>absurd z (by simp)),r,q⟩
end
def aGy(sp:Sp)(dvs:List V)(E:XK)(t:TA):TE:=fun σ H Q=>t σ H fun vs H1=>sp (vs++dvs) H1 Q E
def aIC(C:Addr)(m:Str)(sp:Sp)(dvs:List V)(E:XK)(ta:TE)(t:TA):TE:=fun σ H Q=>ta σ H fun x H1=>∃a dx fs,x=.ref a/\H1 a=some (.ins C dx fs)/\fs.lookup m=none/\
 t σ H1 fun vs H2=>sp (x::(vs++dvs)) H2 Q E
def aGz(C:Addr)(sp:Sp)(dvs:List V)(E:XK)(t:TA):TE:=fun σ H Q=>t σ H fun vs H1=>∀x dx,H1 x=none->H1 dx=none->dx≠x->
 sp (.ref x::(vs++dvs)) (upd (upd H1 dx (.own x)) x (.ins C dx [])) (fun v H2=>v=.non/\Q (.ref x) H2) E
def Binds(K:W.Frag)(fd:FuncData)(ps:List Str)(ds:List Value):Prop:=
 ∀(s:Shared) (us:List Value),K.In s.heap->(us++ds).length=ps.length->BindsTo s fd ⟨us,[]⟩ (ps.zip (us++ds))
theorem Binds.all{K:W.Frag}{fd:FuncData}{ps:List Str}(h:∀us:List Value,us.length=ps.length->bindArgs fd ⟨us,[]⟩=pure (ps.zip us)):Binds K fd ps []:=fun s us _ hl=>by
 rw[List.append_nil] at hl ⊢
 exact .of_eq (h us hl)
def Passes(CX:CXT)(X:Cx)(E:XK):Prop:=∀(P9:List (Addr×Obj)) (σ:St) (H:Hp) (s:Shared) (e:Value) (s':Shared),Inv X P9 σ H s->CX X.stack H s E e s'->X.xe e s'
section
variable{X:Cx}{CX:CXT}{k:Nat}{f C:Addr}{fd:FuncData}{ps:List Str}{sp:Sp}{dvs:List V}{ds:List Value}{E:XK}{x m:Str}{p pos apos:Pos}{e o:Expr}{es:List Expr}{ta:TE}{t:TA}
theorem aKs{P9:List (Addr×Obj)}{σ:St}{H:Hp}{s:Shared}{Q:VK}{us:List Value}{vs:List V}(F:bL X.prog X.w X.K X.mg X.base CX k f fd ps sp)(hr:fD k X.A)(hb:Binds X.K fd ps ds)(hd:Vals dvs ds)(hx:Passes CX X E)
  (I:Inv X P9 σ H s) (r:Vals vs us) (h:sp (vs++dvs) H Q E):wpAny (model X.prog X.w) X.A (call (.ref f) us) (EP X P9 σ Q) X.xe s:=by
 have r2:Vals (vs++dvs) (us++ds):=r.append hd
 have hl:(us++ds).length=ps.length:=by rw[<-r2.length];exact F.len _ _ _ _ h
 refine wpAny_call (codeAny_mono (F.run X.A X.stack s H ⟨us,[]⟩ (us++ds) (vs++dvs) Q E hr I.aKr (hb s us I.kIn hl) r2 h) fun r s' hq=>?_)
 cases r with
 |error e=>exact hx P9 σ H s e s' I hq
 |ok fl=>
  cases fl with
  |ret u=>exact I.after hq
  |next=>exact False.elim hq
  |brk=>exact False.elim hq
  |cont=>exact False.elim hq
theorem aMa(F:bL X.prog X.w X.K X.mg X.base CX k f fd ps sp)(hr:fD k X.A)(hg:Gl X x)(hm:X.mg x=some (.ref f))(hk:W.keepIn X.K (.ref f)=true)(hb:Binds X.K fd ps ds)(hd:Vals dvs ds)(hx:Passes CX X E)
  (ha:PA X (e::es) t) (hdb:(x == ("__debug__" : Str))=false:=by decide) (he:starEach (e::es) X.env=(false,eval e X.env)::starEach es X.env:=by rfl) (hpl:(backTo pos (starEach es X.env)).any (·.1)=false:=by rfl) :
  PE X (.Call (.Name x p) (e::es) [] pos) (aGy sp dvs E t):=by
 intro P9 s σ H Q I h
 refine wpAny_Call_Name_kw (aCs I hg hm ?_ hdb)
 refine PySem.W.callWith_K (h₀:=X.base) I.ok.mod.kin hk (cY (ha pos P9 s σ H _ I h) fun us s1 ⟨vs,H1,I1,r,q⟩=>⟨I1.kIn,?_⟩) he hpl
 exact aKs F hr hb hd hx I1 r q
theorem aFl{pl:Sem Bool}(he:PE X o ta)(c:Cls X.K C)(hm:Meth X.K C m f)(F:bL X.prog X.w X.K X.mg X.base CX k f fd ps sp)(hr:fD k X.A)(hb:Binds X.K fd ps ds)(hd:Vals dvs ds)(hx:Passes CX X E)(ha:PA X (e::es) t)
  (hst:starEach (e::es) X.env=(false,eval e X.env)::starEach es X.env:=by rfl) (hpl:(backTo pos (starEach es X.env)).any (·.1)=false:=by rfl)
  (ht:eval (.Call (.Attribute o m apos) (e::es) [] pos) X.env=(do
   let ov <-eval o X.env
   standAt apos.atName
   let (f,first) <-holding [ov] (getMethod ov m pl)
   callWith pos f first (backTo pos (starEach (e::es) X.env)) (backToKw pos (keywordEach [] X.env))):=by rfl) :
  PE X (.Call (.Attribute o m apos) (e::es) [] pos) (aIC C m sp dvs E ta t):=by
 intro P9 s σ H Q I h
 refine PySem.W.methodCall_KW (pl:=pl) (cY (he P9 s σ H _ I h) fun u s1 ⟨x,H1,I1,rx,a,dx,fs,ex,ea,l,q⟩=>?_) ht
 subst ex
 obtain rfl:u=Value.ref a:=rx
 refine aHJ I1 ea c hm l ?_
 refine PySem.W.callWith_K (first:=[.ref a]) (h₀:=X.base) I.ok.mod.kin hm.kp (cY (ha pos P9 s1 σ H1 _ I1 q) fun us s2 ⟨vs,H2,I2,r,q2⟩=>⟨I2.kIn,?_⟩) hst hpl
 exact aKs (us:=.ref a::us) (vs:=.ref a::vs) F hr hb hd hx I2 (.cons rfl r) q2
structure Mk(K:W.Frag)(C f:Addr):Prop where
 makes:PySem.W.makesIn K C=true
 init:PySem.W.findIn K (.ref C) "__init__" = some (some (.ref f))
 fn:PySem.W.isFn K (.ref f)=true
 kp:W.keepIn K (.ref C)=true
theorem aKt{P9:List (Addr×Obj)}{σ:St}{H:Hp}{s:Shared}{Q:VK}{us:List Value}{vs:List V}(M:Mk X.K C f)(F:bL X.prog X.w X.K X.mg X.base CX k f fd ps sp)(hr:fD (k+1) X.A)(hb:Binds X.K fd ps ds)(hd:Vals dvs ds)
  (hx:Passes CX X E) (I:Inv X P9 σ H s) (r:Vals vs us)
  (h:∀x dx,H x=none->H dx=none->dx≠x->sp (.ref x::(vs++dvs)) (upd (upd H dx (.own x)) x (.ins C dx [])) (fun v H2=>v=.non/\Q (.ref x) H2) E) :
  wpAny (model X.prog X.w) X.A (call (.ref C) us) (EP X P9 σ Q) X.xe s:=by
 have hq:=h (s.heap.objs.size+1) s.heap.objs.size (I.hok.fresh (Nat.le_succ _)) (I.hok.fresh (Nat.le_refl _)) (Nat.ne_of_lt (Nat.lt_succ_self _))
 have I2:=Inv.made (C:=C) I
 have r2:Vals (V.ref (s.heap.objs.size+1)::(vs++dvs)) (Value.ref (s.heap.objs.size+1)::(us++ds)):=.cons rfl (r.append hd)
 have hl:(Value.ref (s.heap.objs.size+1)::us++ds).length=ps.length:=by
  have e:=r2.length
  rw[F.len _ _ _ _ hq] at e
  exact e.symm
 refine wpAny_call (aKq (f:=f) I.kIn M.makes M.init (beq_iff_eq.mp M.fn) (codeAny_mono (F.run _ X.stack _ _ ⟨Value.ref (s.heap.objs.size+1)::us,[]⟩ (Value.ref (s.heap.objs.size+1)::(us++ds)) _ _ E (hr.make C us [])
  (I2.aKr.make C us []) (hb _ (Value.ref (s.heap.objs.size+1)::us) I2.kIn hl) r2 hq) fun r s' hq'=>?_))
 cases r with
 |error e=>exact hx P9 σ _ _ e s' I2 hq'
 |ok fl=>
  cases fl with
  |ret u=>
   obtain⟨v,H',I3,rv,ev,q3⟩:=I2.after hq'
   subst ev
   exact⟨rv,⟨V.ref (s.heap.objs.size+1),H',I3,rfl,q3⟩⟩
  |next=>exact False.elim hq'
  |brk=>exact False.elim hq'
  |cont=>exact False.elim hq'
theorem aMb(M:Mk X.K C f)(F:bL X.prog X.w X.K X.mg X.base CX k f fd ps sp)(hr:fD (k+1) X.A)(hg:Gl X x)(hm:X.mg x=some (.ref C))(hb:Binds X.K fd ps ds)(hd:Vals dvs ds)(hx:Passes CX X E)
  (ha:PA X (e::es) t) (hdb:(x == ("__debug__" : Str))=false:=by decide) (he:starEach (e::es) X.env=(false,eval e X.env)::starEach es X.env:=by rfl) (hpl:(backTo pos (starEach es X.env)).any (·.1)=false:=by rfl) :
  PE X (.Call (.Name x p) (e::es) [] pos) (aGz C sp dvs E t):=by
 intro P9 s σ H Q I h
 refine wpAny_Call_Name_kw (aCs I hg hm ?_ hdb)
 refine PySem.W.callWith_K (h₀:=X.base) I.ok.mod.kin M.kp (cY (ha pos P9 s σ H _ I h) fun us s1 ⟨vs,H1,I1,r,q⟩=>⟨I1.kIn,?_⟩) he hpl
 exact aKt M F hr hb hd hx I1 r q
end
def PK(X:Cx)(kws:List Keyword)(t:TA):Prop:=
 ∀(pos:Pos) (P9:List (Addr×Obj)) (s:Shared) (σ:St) (H:Hp) (Q:List V->Hp->Prop),Inv X P9 σ H s->t σ H Q->wpAny (model X.prog X.w) X.A (evalAll ((backToKw pos (keywordEach kws X.env)).map (·.2))) (AP X P9 σ Q) X.xe s
section
variable{X:Cx}{CX:CXT}{k:Nat}{f C:Addr}{fd:FuncData}{ps ks:List Str}{sp:Sp}{E:XK}{x m:Str}{p pos apos kpos:Pos}{e o:Expr}{es:List Expr}{kws:List Keyword}{te ta:TE}{t tk:TA}{nm:Option Str}
variable{g:List Value->List Value->List Value}{gV:List V->List V->List V}
end
structure aW(N P:List Str)(sc:Scope):Prop where
 kind:sc.kind=.function
 co:sc.isCoroutine=false
 gen:sc.isGenerator=false
 nd:N.Nodup
 pre:N.take P.length=P
 par:∀x∈P,sc.names.lookup x=some .local\/sc.names.lookup x=some .cell
 nofree:∀y∈sc.names,y.2≠.free
theorem aEQ{kindOf:Str->Option NameKind}{x:Str}:∀{binds:List (Str×Value)}{m:Str->Option Value},(∀v,(x,v)∉binds)->bindL kindOf binds m x=m x
 |[],_,_=>rfl
 |(n,v)::r,m,h=>by
  unfold bindL
  rw[aEQ fun w hw=>h w (List.mem_cons_of_mem _ hw)]
  split
  ·have:x≠n:=by rintro rfl;exact h v List.mem_cons_self
   simp[this]
  ·rfl
theorem aER{kindOf:Str->Option NameKind}{x:Str}:∀{binds:List (Str×Value)}{m:Str->Option Value},(∀v,(x,v)∉binds)->bindC kindOf binds m x=m x
 |[],_,_=>rfl
 |(n,v)::r,m,h=>by
  unfold bindC
  rw[aER fun w hw=>h w (List.mem_cons_of_mem _ hw)]
  split
  ·rfl
  ·have:x≠n:=by rintro rfl;exact h v List.mem_cons_self
   simp[this]
theorem aES{kindOf:Str->Option NameKind}{x:Str}{v:Value}:∀{P:List Str}{vs:List Value}{i:Nat}{m:Str->Option Value},P.Nodup->P[i]?=some x->vs[i]?=some v->kindOf x=some .local->
  bindL kindOf (P.zip vs) m x=some v
 |[],_,_,_,_,h,_,_=>by simp at h
 |_::_,[],_,_,_,_,h,_=>by simp at h
 |p::P,w::vs,0,m,nd,h1,h2,hk=>by
  simp at h1 h2;subst h1;subst h2
  show bindL kindOf ((p,w)::P.zip vs) m p=_
  unfold bindL
  rw[aEQ fun v hv=>(List.nodup_cons.mp nd).1 (List.of_mem_zip hv).1,if_pos hk]
  simp
 |p::P,w::vs,i+1,m,nd,h1,h2,hk=>by
  show bindL kindOf ((p,w)::P.zip vs) m x=_
  unfold bindL
  exact aES (i:=i) (List.nodup_cons.mp nd).2 (by simpa using h1) (by simpa using h2) hk
theorem aET{kindOf:Str->Option NameKind}{x:Str}{v:Value}:∀{P:List Str}{vs:List Value}{i:Nat}{m:Str->Option Value},P.Nodup->P[i]?=some x->vs[i]?=some v->kindOf x≠some .local->
  bindC kindOf (P.zip vs) m x=some v
 |[],_,_,_,_,h,_,_=>by simp at h
 |_::_,[],_,_,_,_,h,_=>by simp at h
 |p::P,w::vs,0,m,nd,h1,h2,hk=>by
  simp at h1 h2;subst h1;subst h2
  show bindC kindOf ((p,w)::P.zip vs) m p=_
  unfold bindC
  rw[aER fun v hv=>(List.nodup_cons.mp nd).1 (List.of_mem_zip hv).1,if_neg hk]
  simp
 |p::P,w::vs,i+1,m,nd,h1,h2,hk=>by
  show bindC kindOf ((p,w)::P.zip vs) m x=_
  unfold bindC
  exact aET (i:=i) (List.nodup_cons.mp nd).2 (by simpa using h1) (by simpa using h2) hk
def start(N:List Str)(vs:List V):St:=vs.map some++List.replicate (N.length - vs.length) none
def aHO(CX:CXT)(P:Program)(w:World)(K:W.Frag)(mg:Str->Option Value)(base:Heap)(N:List Str)(qual:Str)(scope:Scope)(f:Addr)(cd:Value)(A:Around)(outer:List Env)(s:Shared)(H:Hp)(E:XK):Cx where
 prog:=P
 w:=w
 K:=K
 mg:=mg
 base:=base
 A:=A.deeper (envOfC qual scope s.heap.objs.size f cd)
 N:=N
 s₀:=s
 H₀:=H
 env:=envOfC qual scope s.heap.objs.size f cd
 outer:=outer
 stack:=envOfC qual scope s.heap.objs.size f cd::outer
 ex:=[]
 calm:=true
 fn:=fun _=>true
 pn:=[]
 xe:=fun e s'=>wpAny (model P w) (A.deeper (envOfC qual scope s.heap.objs.size f cd)) (leaving (envOfC qual scope s.heap.objs.size f cd) e) (fun _ s''=>CX outer H s E e s'') (fun e' s''=>CX outer H s E e' s'') s'
theorem aGA{sc:Scope}{n:Nat}{x:Str}(h:sc.names.lookup x=some .cell):∃c,(cellsFrom n sc.names []).lookup x=some c:=by
 have q:=PySem.W.cellsFrom_some sc.names n [] (.inl h)
 exact Option.isSome_iff_exists.mp q
theorem aJp{CX:CXT}{P:Program}{w:World}{K:W.Frag}{mg:Str->Option Value}{base:Heap}{N ps:List Str}{qual:Str}{scope:Scope}{f:Addr}{cd:Value}{A:Around}{outer:List Env}{s s1:Shared}{H:Hp}{E:XK}{us:List Value}{vs:List V}
  (S:aW N ps scope) (hd:A.handled=none) (e0:aDW P w K mg base A outer s H) (hl:vs.length=ps.length) (r:Vals vs us)
  (x:InCallC s s.heap.objs.size (bindL (envOfC qual scope s.heap.objs.size f cd).kindOf (ps.zip us) fun _=>none) (cellsFrom (s.heap.objs.size+1) scope.names []) (bindC (envOfC qual scope s.heap.objs.size f cd).kindOf (ps.zip us) fun _=>none) s1) :
  Inv (aHO CX P w K mg base N qual scope f cd A outer s H E) [] (start N vs) H s1:=by
 have hpl:ps.length<=N.length:=by have:=congrArg List.length S.pre;rw[List.length_take] at this;omega
 obtain⟨h1,tk,rfl,hk⟩:=x.done
 have noA:∀b:Addr,b∉(aHO CX P w K mg base N qual scope f cd A outer s H E).ex:=fun b z=>absurd (show b∈([]:List Addr) from z) (by simp)
 refine⟨⟨e0.mod,S.kind,rfl,rfl,Nat.le_refl _,fun y z c h1 h2=>?_,fun y hy=>?_,fun y c _ h=>?_,fun _=>hd,Around.frames_deeper e0.frames,.inr ⟨rfl,rfl⟩,fun b z=>absurd z (noA b),e0.bs,e0.bsz,fun b _ _=>noA b,fun b z=>absurd z (noA b),e0.zT,e0.frf⟩,
  rfl,e0.bare,Un.kept hk,⟨_,x.toInCall.ns,fun i y v h1 h2 h3=>?_⟩,fun y c h=>⟨_,x.cell y c h⟩,e0.hok.fresh (Nat.le_refl _),fun y c h=>?_,fun p hp=>absurd (show p∈([]:List (Addr×Obj)) from hp) (by simp),e0.hok.kept hk,?_⟩
 ·exact name_of_addr x.apart (PySem.mem_of_lookup h1) (PySem.mem_of_lookup h2)
 ·have hy:scope.names.lookup y=some .cell\/scope.names.lookup y=some .free:=hy
  rcases hy with hy|hy
  ·exact aGA hy
  ·exact absurd rfl (S.nofree _ (PySem.mem_of_lookup hy))
 ·exact Nat.le_of_lt (x.above y c (PySem.mem_of_lookup h))
 ·have hi:i < vs.length:=by
   unfold start at h2
   by_cases hi:i < vs.length
   ·exact hi
   ·rw[List.getElem?_append_right (by simpa using hi)] at h2
    rw[List.getElem?_replicate] at h2
    split at h2 <;> cases h2
  have ha:vs[i]?=some v:=by
   unfold start at h2
   rw[List.getElem?_append_left (by simpa using hi),List.getElem?_map] at h2
   cases e:vs[i]? with
   |none=>rw[e] at h2;cases h2
   |some a=>rw[e] at h2;cases h2;rfl
  obtain⟨u,hu,rv⟩:=r.get ha
  have hp:ps[i]?=some y:=by
   rw[<-S.pre,List.getElem?_take_of_lt (by omega)];exact h1
  have ndP:ps.Nodup:=by rw[<-S.pre];exact S.nd.sublist (List.take_sublist _ _)
  refine⟨u,rv,?_⟩
  rcases S.par y (List.mem_of_getElem? hp) with k|k
  ·exact .inl ⟨k,aES ndP hp hu k⟩
  ·obtain⟨c,e⟩:=aGA (n:=s.heap.objs.size+1) k
   refine .inr ⟨.inl k,c,e,?_⟩
   have q:=x.cell y c e
   rw[aET ndP hp hu (by show scope.names.lookup y≠_;rw[k];decide)] at q
   exact q
 ·exact e0.hok.fresh (Nat.le_of_lt (x.above y c (PySem.mem_of_lookup h)))
 ·unfold start
  show _=N.length
  rw[List.length_append,List.length_map,List.length_replicate]
  omega
theorem aM8{CX:CXT}{P:Program}{w:World}{K:W.Frag}{mg:Str->Option Value}{base:Heap}{k:Nat}{f:Addr}{name qual:Str}{params:Arguments}{body:List Stmt}{scope:Scope}{dV kV doc pm cdv ct oc:Value}{an od:Option Addr}
  {osl:Array (Option Value)} {N ps:List Str} {sp:Sp} (lk:K.lookup f=some ⟨oc,od,.func (W.fnOf name qual params body scope dV kV doc pm an cdv ct),osl⟩) (hcd:W.codeIn K cdv qual=true) (S:aW N ps scope)
  (len:∀vs H Q E,sp vs H Q E->vs.length=ps.length)
  (hbody:∀(A:Around) (outer:List Env) (s:Shared) (H:Hp) (vs:List V) (Q:VK) (E:XK),fD k (A.deeper (envOfC qual scope s.heap.objs.size f cdv))->sp vs H Q E->
   ∃t,PSs (aHO CX P w K mg base N qual scope f cdv A outer s H E) body t/\t { nx:=fun _ H'=>Q .non H',rt:=Q } (start N vs) H) :
  bL P w K mg base CX (k+1) f (W.fnOf name qual params body scope dV kV doc pm an cdv ct) ps sp:=by
 refine⟨len,fun A outer s H args us vs Q E hr e0 hb r hsp=>?_⟩
 have hl:=len _ _ _ _ hsp
 have KX:K.In s.heap:=e0.mod.kin.keeps fun b o e=>(e0.bs b o e).1
 have lim:s.heap.NoLimit:=e0.mod.nolimit.keeps fun b o e=>(e0.bs b o e).1
 have hkind:∀y∈ps.zip us,scope.names.lookup y.1=some .local\/(scope.names.lookup y.1=some .cell/\((cellsFrom (s.heap.objs.size+1) scope.names []).lookup y.1).isSome=true):=fun⟨n,v⟩ hy=>by
  rcases S.par n (List.of_mem_zip hy).1 with q|q
  ·exact .inl q
  ·exact .inr ⟨q,PySem.W.cellsFrom_some _ _ _ (.inl q)⟩
 refine codeAny_call_function hr.depth (KX _ _ lk) rfl S.co S.gen rfl (PySem.W.codeRec_of KX hcd) (hb _ _ _ _ ?_)
 refine wpAny_newFunctionEnv_cells S.kind hkind fun env he s1 x=>?_
 subst he
 refine⟨lim.keeps x.toInCall.keep,codeAny_func ?_⟩
 obtain⟨t,ht,hq⟩:=hbody A outer s H vs Q E (hr.deeper _) hsp
 have I:Inv (aHO CX P w K mg base N qual scope f cdv A outer s H E) [] (start N vs) H s1:=aJp S hr.hd e0 hl r x
 refine wpAny_mono (ht [] s1 (start N vs) H _ I hq) (fun fl s' hs=>?_) fun e s' hs=>hs
 have fin:∀{σ':St} {H':Hp} {v:V} {u:Value},Inv (aHO CX P w K mg base N qual scope f cdv A outer s H E) [] σ' H' s'->RelV v u->Q v H'->CE outer P w H s Q u s':=
  fun {σ' H' v u} J rv q=>⟨v,H',J.os,J.bare,J.base,J.hok,rv,q⟩
 cases fl with
 |ret u=>
  obtain⟨v,σ',H',J,rv,q⟩:=hs
  exact fin J rv q
 |next=>
  obtain⟨σ',H',J,q⟩:=hs
  exact fin (v:=V.non) (u:=Value.none) J rfl q
 |brk=>
  obtain⟨_,_,_,q⟩:=hs
  exact False.elim q
 |cont=>
  obtain⟨_,_,_,q⟩:=hs
  exact False.elim q
end L2
namespace L2
open PySem PySem.Spec PyProof.Rows
section
variable{X:Cx}{x:Str}{p pos:Pos}{e:Expr}{es:List Expr}{t:TA}{id T:String}{r:List V->Hp->VK->Prop}
def tCB(r:List V->Hp->VK->Prop)(t:TA):TE:=fun σ H Q=>t σ H fun vs H1=>r vs H1 Q
theorem aKu(hc:eA X (.builtin id) r)(hg:Gl X x)(hm:X.mg x=none)(hv:bootBuiltins x=some (.builtin id))(ha:PA X (e::es) t)(hn:x≠"__name__":=by decide)(hdb:(x == ("__debug__" : Str))=false:=by decide)
  (he:starEach (e::es) X.env=(false,eval e X.env)::starEach es X.env:=by rfl) (hpl:(backTo pos (starEach es X.env)).any (·.1)=false:=by rfl):PE X (.Call (.Name x p) (e::es) [] pos) (tCB r t):=by
 intro P9 s σ H Q I h
 refine wpAny_Call_Name_kw (rH I hg hm hv ?_ hn hdb)
 exact PyProof.Rows.callWith_builtin1 (cY (ha pos P9 s σ H _ I h) fun us s1 ⟨vs,H1,I1,r1,q1⟩=>hc P9 s1 σ H1 vs us Q I1 r1 q1) he hpl
theorem aJq(hc:eA X (.type T) r)(hg:Gl X x)(hm:X.mg x=none)(hv:bootBuiltins x=some (.type T))(ha:PA X (e::es) t)(hn:x≠"__name__":=by decide)(hdb:(x == ("__debug__" : Str))=false:=by decide)
  (he:starEach (e::es) X.env=(false,eval e X.env)::starEach es X.env:=by rfl) (hpl:(backTo pos (starEach es X.env)).any (·.1)=false:=by rfl):PE X (.Call (.Name x p) (e::es) [] pos) (tCB r t):=by
 intro P9 s σ H Q I h
 refine wpAny_Call_Name_kw (rH I hg hm hv ?_ hn hdb)
 exact PyProof.Rows.callWith_type1 (cY (ha pos P9 s σ H _ I h) fun us s1 ⟨vs,H1,I1,r1,q1⟩=>hc P9 s1 σ H1 vs us Q I1 r1 q1) he hpl
end
end L2
namespace HT
open PySem PyProof.Rows
section
open PySem.SeqAt
open PySem.AutoSeq1 (wpAny_loadPart')
open PySem.MeetsSeq PySem.MeetsSeq2 PySem.MeetsSeq3
end
section
variable{prog:Program}{w:World}{A:Around}{E:Value->Shared->Prop}{s:Shared}
def mK(n d:Nat):Option Int->Nat
 |none=>d
 |some v=>if v < 0 then (v+(n:Int)).toNat else min v.toNat n
theorem aGB(n d:Nat):mK n d none=d:=rfl
theorem aID(n d k:Nat):mK n d (some (k:Int))=min k n:=by
 show(if (k:Int) < 0 then ((k:Int)+(n:Int)).toNat else min (k:Int).toNat n)=min k n
 rw[if_neg (by omega),Int.toNat_natCast]
theorem aNJ(n d:Nat)(hd:d<=n)(o:Option Int):mK n d o<=n:=by
 cases o with
 |none=>exact hd
 |some v=>
  show(if v < 0 then (v+(n:Int)).toNat else min v.toNat n)<=n
  by_cases hv:v < 0
  ·rw[if_pos hv];omega
  ·rw[if_neg hv];exact Nat.min_le_right _ _
theorem aIE(v:Int)(n d:Nat):(if v < 0 then max (v+(n:Int)) 0 else min v (n:Int))=((mK n d (some v):Nat):Int):=by
 show(if v < 0 then max (v+(n:Int)) 0 else min v (n:Int))=(((if v < 0 then (v+(n:Int)).toNat else min v.toNat n):Nat):Int)
 by_cases hv:v < 0
 ·simp only[if_pos hv];omega
 ·simp only[if_neg hv];omega
theorem aHP(lo hi:Option Int)(n:Nat):Builtin.Slice.sliceAdjust lo hi 1 (n:Int)=(((mK n 0 lo:Nat):Int),((mK n n hi:Nat):Int)):=by
 have h1:¬((1:Int) < 0):=by omega
 unfold Builtin.Slice.sliceAdjust
 simp only[h1,if_false]
 refine Prod.ext ?_ ?_
 ·cases lo with
  |none=>rfl
  |some v=>exact aIE v n 0
 ·cases hi with
  |none=>rfl
  |some v=>exact aIE v n n
theorem aHQ(i j:Nat):Builtin.Slice.slicePlaces (i:Int) (j:Int) 1=j - i:=by
 unfold Builtin.Slice.slicePlaces
 have h1:(1:Int) > 0:=by omega
 simp only[h1,if_true,Int.ediv_one]
 split <;> omega
theorem aCL{v:Value}{o:Option Int}{Q:Option Int->Shared->Prop}(p:IsPart v o)(h:Q o s):wpAny (model prog w) A (Builtin.Slice.slicePartIndex v) Q E s:=by
 cases p with
 |none=>exact slicePart_none h
 |int i t=>exact slicePart_int h
theorem aBd{sl:Addr}{vl vu:Value}{lo hi:Option Int}{n:Nat}{Q:Int×Int×Nat->Shared->Prop}(hs:s.heap.IsSliceOf sl vl vu .none)(pl:IsPart vl lo)(pu:IsPart vu hi)
  (h:Q (((mK n 0 lo:Nat):Int),1,mK n n hi - mK n 0 lo) s):wpAny (model prog w) A (Builtin.Slice.sliceApplied (.ref sl) (pure (n:Int))) Q E s:=by
 obtain⟨os,hos,hcs,hds⟩:=id hs
 unfold Builtin.Slice.sliceApplied Builtin.Slice.sliceFields
 refine wpAny_bind (wpAny_bind (wpAny_field hos hds (x:=vl) rfl (wpAny_bind (wpAny_field hos hds (x:=vu) rfl (wpAny_bind (wpAny_field hos hds (x:=.none) rfl (wpAny_pure ?_)))))))
 refine wpAny_bind (slicePart_none ?_)
 show wpAny _ _ (if ((1:Int) == 0)=true then _ else _) _ _ s
 rw[if_neg (by decide)]
 refine wpAny_bind (aCL pl (wpAny_bind (aCL pu (wpAny_bind (wpAny_pure ?_)))))
 show wpAny _ _ (match Builtin.Slice.sliceAdjust lo hi 1 (n:Int) with|(lo,hi)=>pure (lo,(1:Int),Builtin.Slice.slicePlaces lo hi 1)) _ _ s
 rw[aHP lo hi n]
 show wpAny _ _ (pure (((mK n 0 lo:Nat):Int),(1:Int),Builtin.Slice.slicePlaces ((mK n 0 lo:Nat):Int) ((mK n n hi:Nat):Int) 1)) _ _ s
 rw[aHQ]
 exact wpAny_pure h
theorem aKv(xs:Array Value)(i k:Nat):((List.range k).filterMap fun(m:Nat)=>xs[((i:Int)+(m:Int)*1).toNat]?).toArray=((xs.toList.drop i).take k).toArray:=by
 have e:(fun(m:Nat)=>xs[((i:Int)+(m:Int)*1).toNat]?)=fun m=>xs[i+m]?:=by
  funext m
  have:((i:Int)+(m:Int)*1).toNat=i+m:=by omega
  rw[this]
 rw[e]
 have:=pick_run xs i k
 rw[List.filterMap_map] at this
 have e2:((fun x=>xs[x]?) ∘ fun x=>i+x)=fun m=>xs[i+m]?:=rfl
 rw[e2] at this
 rw[this]
theorem z0{t sl:Addr}{items:Array Value}{vl vu:Value}{lo hi:Option Int}{Q:Value->Shared->Prop}(ht:IsTup s.heap t items)(hs:s.heap.IsSliceOf sl vl vu .none)(pl:IsPart vl lo)(pu:IsPart vu hi)
  (hw:¬(mK items.size 0 lo=0/\mK items.size items.size hi=items.size))
  (h:Q (.ref s.heap.objs.size) { s with heap:=s.heap.push { cls:=.type "tuple",data:=.seq ((items.toList.drop (mK items.size 0 lo)).take (mK items.size items.size hi - mK items.size 0 lo)).toArray } })
  (hsz:items.size<=sizeLine):wpAny (model prog w) A (getItem (.ref t) (.ref sl)) Q E s:=by
 have htake:sizeOk (.seq ((items.toList.drop (mK items.size 0 lo)).take (mK items.size items.size hi - mK items.size 0 lo)).toArray):=by
  show((items.toList.drop (mK items.size 0 lo)).take (mK items.size items.size hi - mK items.size 0 lo)).toArray.size<=sizeLine
  rw[List.size_toArray,List.length_take,List.length_drop,Array.length_toList]
  omega
 have hj:mK items.size items.size hi<=items.size:=aNJ _ _ (Nat.le_refl _) hi
 obtain⟨os,hos,hcs,hds⟩:=id hs
 have hTs:s.TypeIs (.ref sl) "slice":=⟨os,hos,hcs⟩
 unfold getItem
 try with_reducible refine wpAny_holding ?_
 first|refine wpAny_bind (wpAny_pure ?_)|skip
 refine wpAny_bind (wpAny_sequenceKey ht.typeIs (by decide) ?_)
 refine wpAny_bind (wpAny_callSpecial?_slot (name:=Str.ofString "__getitem__") ht.typeIs PyProof.Rows.slot_tuple_getitem
  (wpAny_call_entry PyProof.Rows.slot_tuple_getitem ht.typeIs entry_tuple_getitem ?_ (args_tuple_getitem _ _)))
 show wpAny _ _ (Builtin.Tuple.tupleItemsOf (.ref t) >>= _) _ _ s
 refine wpAny_bind (tupleItemsOf_ ht ?_)
 refine wpAny_bind (wpAny_typeOf hTs ?_)
 rw[if_pos (by decide)]
 refine wpAny_bind (aBd hs pl pu ?_)
 have hno:¬((((mK items.size 0 lo:Nat):Int) == 0 && (1:Int) == 1 && (mK items.size items.size hi - mK items.size 0 lo) == items.size)=true):=by
  intro q
  rw[Bool.and_eq_true,Bool.and_eq_true] at q
  have q1:((mK items.size 0 lo:Nat):Int)=0:=eq_of_beq q.1.1
  have q2:mK items.size items.size hi - mK items.size 0 lo=items.size:=eq_of_beq q.2
  exact hw ⟨by omega,by omega⟩
 show wpAny _ _ (if (((mK items.size 0 lo:Nat):Int) == 0 && (1:Int) == 1 && (mK items.size items.size hi - mK items.size 0 lo) == items.size)=true then _ else _) _ _ s
 rw[if_neg hno,aKv]
 first
  |exact wpAny_bind (m:=Builtin.Tuple.tupleExact _) (wpAny_newObj_type (wpAny_pure ⟨_,rfl,wpAny_pure h⟩) htake)
  |exact wpAny_bind (m:=Builtin.Tuple.tupleExact _) (wpAny_newObj_type (wpAny_bind (wpAny_pure (wpAny_pure ⟨_,rfl,wpAny_pure h⟩))) htake)
  |exact wpAny_bind (wpAny_bind (m:=Builtin.Tuple.tupleExact _) (wpAny_newObj_type (wpAny_pure (wpAny_pure ⟨_,rfl,wpAny_pure h⟩)) htake))
  |exact wpAny_bind (wpAny_bind (m:=Builtin.Tuple.tupleExact _) (wpAny_newObj_type (wpAny_pure ⟨_,rfl,wpAny_pure h⟩) htake))
end
end HT
namespace L2
open PySem PySem.Spec PyProof.Rows
abbrev TO:=St->Hp->(Option Int->Hp->Prop)->Prop
def PO(X:Cx)(e:Option Expr)(t:TO):Prop:=
 ∀(P9:List (Addr×Obj)) (s:Shared) (σ:St) (H:Hp) (Q:Option Int->Hp->Prop),Inv X P9 σ H s->t σ H Q->
  wpAny (model X.prog X.w) X.A (evalPart e X.env) (fun u s'=>∃o H',Inv X P9 σ H' s'/\IsPart u o/\Q o H') X.xe s
def aFm:TO:=fun _ H Q=>Q none H
def aKw(t:TE):TO:=fun σ H Q=>t σ H fun x H1=>∃i,x=.int i/\Q (some i) H1
theorem intsAre_of{ns:List Int}:∀{us:List Value},Vals (ns.map V.int) us->IntsAre us ns:=by
 induction ns with
 |nil=>intro us r;rw[List.map_nil] at r;cases r;exact .nil
 |cons n ns ih=>
  intro us r
  rw[List.map_cons] at r
  cases r with
  |cons r1 r2=>
   obtain⟨t,e⟩:=r1
   subst e
   exact .cons n t (ih r2)
section
variable{X:Cx}{e:Expr}{te:TE}{lo hi:Option Expr}{tl th:TO}{pos p2:Pos}
theorem xN:PO X none aFm:=by
 intro P9 s σ H Q I h
 rw[evalPart_none]
 exact wpAny_pure ⟨none,H,I,.none,h⟩
theorem xO(h:PE X e te):PO X (some e) (aKw te):=by
 intro P9 s σ H Q I hw
 rw[evalPart_some]
 refine cY (h P9 s σ H _ I hw) fun u s1 ⟨x,H1,I1,r1,q1⟩=>?_
 obtain⟨i,rfl,q⟩:=q1
 obtain⟨t,rfl⟩:=r1
 exact⟨some i,H1,I1,.int i t,q⟩
def SlR(X:Cx)(r:V->Option Int->Option Int->Hp->VK->Prop):Prop:=
 ∀(P9:List (Addr×Obj)) (s:Shared) (σ:St) (H:Hp) (x:V) (v vl vu:Value) (lo hi:Option Int) (sl:Addr) (Q:VK),Inv X P9 σ H s->RelV x v->s.heap.IsSliceOf sl vl vu .none->IsPart vl lo->IsPart vu hi->r x lo hi H Q->
  ∃T id,typeLookup (.type T) "__getitem__" = pure (some (.builtin id))/\s.TypeIs v T/\wpAny (model X.prog X.w) X.A (getItem v (.ref sl)) (EP X P9 σ Q) X.xe s
theorem SlR.or{r r':V->Option Int->Option Int->Hp->VK->Prop}(h:SlR X r)(h':SlR X r'):SlR X (fun x lo hi H Q=>r x lo hi H Q\/r' x lo hi H Q):=by
 intro P9 s σ H x v vl vu lo hi sl Q I rx hs pl pu q
 rcases q with q|q
 ·exact h P9 s σ H x v vl vu lo hi sl Q I rx hs pl pu q
 ·exact h' P9 s σ H x v vl vu lo hi sl Q I rx hs pl pu q
def tSl(r:V->Option Int->Option Int->Hp->VK->Prop)(te:TE)(tl th:TO):TE:=fun σ H Q=>te σ H fun x H1=>tl σ H1 fun l H2=>th σ H2 fun u H3=>r x l u H3 Q
theorem rZ{r:V->Option Int->Option Int->Hp->VK->Prop}(hr:SlR X r)(he:PE X e te)(hl:PO X lo tl)(hu:PO X hi th):PE X (.Subscript e (.Slice lo hi none p2) pos) (tSl r te tl th):=by
 intro P9 s σ H Q I h
 refine Subscript_ (cY (he P9 s σ H _ I h) fun v s1 ⟨x,H1,I1,r1,q1⟩=>?_)
 refine wpAny_Slice (cY (hl P9 s1 σ H1 _ I1 q1) fun vl s2 ⟨l,H2,I2,pl,q2⟩=>cY (hu P9 s2 σ H2 _ I2 q2) fun vu s3 ⟨u,H3,I3,pu,q3⟩=>?_)
 rw[evalPart_none]
 refine wpAny_pure ?_
 have I4:Inv X P9 σ H3 { s3 with heap:=s3.heap.push { cls:=.type "slice",data:=.fields #[vl,vu,.none] } }:=I3.kept (t':=s3.toks) fun b ob q=>Heap.get?_push_of_some _ q
 obtain⟨T,id,hT,ht,hg⟩:=hr P9 { s3 with heap:=s3.heap.push { cls:=.type "slice",data:=.fields #[vl,vu,.none] } } σ H3 x v vl vu l u s3.heap.objs.size Q I4 r1 (Heap.IsSliceOf.new ..) pl pu q3
 show wpAny (model X.prog X.w) X.A (subscriptTail e (.Slice lo hi none p2) v (.ref s3.heap.objs.size)) (EP X P9 σ Q) X.xe { s3 with heap:=s3.heap.push { cls:=.type "slice",data:=.fields #[vl,vu,.none] } }
 exact tail_any (ops:=[.ref s3.heap.objs.size,v]) ht hT hg (by with_unfolding_all rfl)
def pV(xs:List V)(lo hi:Option Int):List V:=(xs.drop (HT.mK xs.length 0 lo)).take (HT.mK xs.length xs.length hi - HT.mK xs.length 0 lo)
theorem fB(xs:List V)(lo hi:Option Int):(pV xs lo hi).length<=xs.length:=by
 unfold pV
 rw[List.length_take,List.length_drop]
 omega
def aOU(K:W.Frag):V->Option Int->Option Int->Hp->VK->Prop:=fun x lo hi H Q=>∃a xs,x=.ref a/\kR K H a xs/\
 ¬(HT.mK xs.length 0 lo=0/\HT.mK xs.length xs.length hi=xs.length)/\∀p,H p=none->Q (.ref p) (upd H p (.tup (pV xs lo hi)))
theorem aNK:SlR X (aOU X.K):=by
 intro P9 s σ H x v vl vu lo hi sl Q I rx hs pl pu h
 obtain⟨a,xs,rfl,hx,hw,q⟩:=h
 cases rx
 obtain⟨its,r,ht,hz⟩:=I.tuple hx
 have hlen:its.toArray.size=xs.length:=by rw[List.size_toArray];exact r.length.symm
 refine⟨"tuple",_,PyProof.Rows.slot_tuple_getitem.lookup,ht.typeIs,?_⟩
 refine HT.z0 ht hs pl pu (by rw[hlen];exact hw) ?_ (by rw[hlen];exact hz)
 rw[hlen]
 refine⟨.ref s.heap.objs.size,_,I.laid (t':=s.toks) (o:=.tup (pV xs lo hi)) (fun b ob q=>Heap.get?_push_of_some _ q) (Nat.le_refl _) ?_,rfl,q _ (I.hok.fresh (Nat.le_refl _))⟩
 exact⟨Nat.le_trans (fB xs lo hi) hz,_,(r.drop (HT.mK xs.length 0 lo)).take (HT.mK xs.length xs.length hi - HT.mK xs.length 0 lo),IsTup.new _ _⟩
end
end L2
namespace L2
open PySem PySem.Spec PyProof.Rows
def ixN(n:Nat)(i:Int):Option Nat:=if 0<=i then (if i < n then some i.toNat else none) else if -(n:Int)<=i then some (i+n).toNat else none
def xP{α:Type}(xs:List α)(i:Int):Option α:=(ixN xs.length i).bind fun j=>xs[j]?
theorem aIF{n:Nat}{i:Int}{j:Nat}(h:ixN n i=some j):seqIndex? i n=some j/\j < n/\-(n:Int)<=i/\i < n:=by
 unfold ixN at h
 by_cases h0:0<=i
 ·rw[if_pos h0] at h
  by_cases h1:i < n
  ·rw[if_pos h1] at h
   have e:i.toNat=j:=Option.some.inj h
   exact⟨by rw[seqIndex_of h0 h1,e],by omega,by omega,h1⟩
  ·rw[if_neg h1] at h;cases h
 ·rw[if_neg h0] at h
  by_cases h1:-(n:Int)<=i
  ·rw[if_pos h1] at h
   have e:(i+n).toNat=j:=Option.some.inj h
   exact⟨by rw[seqIndex_neg (by omega) h1,e],by omega,h1,by omega⟩
  ·rw[if_neg h1] at h;cases h
theorem aFn{α:Type}{xs:List α}{i:Int}{v:α}(h:xP xs i=some v):∃j,seqIndex? i xs.length=some j/\xs[j]?=some v/\j < xs.length/\-(xs.length:Int)<=i/\i < xs.length:=by
 unfold xP at h
 cases e:ixN xs.length i with
 |none=>rw[e] at h;cases h
 |some j=>
  rw[e] at h
  obtain⟨h1,h2,h3,h4⟩:=aIF e
  exact⟨j,h1,h,h2,h3,h4⟩
theorem gQ{α:Type}{xs:List α}{j:Nat}{v:α}(h:xs[j]?=some v):xP xs (j:Int)=some v:=by
 have hj:j < xs.length:=(List.getElem?_eq_some_iff.mp h).1
 have e:ixN xs.length (j:Int)=some j:=by
  unfold ixN
  rw[if_pos (by omega),if_pos (by omega)];simp
 unfold xP;rw[e];exact h
theorem aGC{α:Type}(xs:List α)(v:α):xP (xs ++ [v]) (-1)=some v:=by
 have hl:(xs ++ [v]).length=xs.length+1:=by simp
 have e:ixN (xs ++ [v]).length (-1)=some xs.length:=by
  unfold ixN
  rw[hl,if_neg (by decide),if_pos (by omega)]
  congr 1
  omega
 unfold xP
 rw[e]
 show(xs ++ [v])[xs.length]?=some v
 simp
def aIG(b:Expr):Prop:=∀o i,subscripted b false o i=operate [o,i] (getItem o i)
def IxR(X:Cx)(r:R2):Prop:=
 ∀(value slice:Expr) (P9:List (Addr×Obj)) (s:Shared) (σ:St) (H:Hp) (x y:V) (v u:Value) (Q:VK),Inv X P9 σ H s->RelV x v->RelV y u->r x y H Q->
  subscripted slice false v u=operate [v,u] (getItem v u)->wpAny (model X.prog X.w) X.A (subscriptTail value slice v u) (EP X P9 σ Q) X.xe s
def MtR(X:Cx)(id:String)(r:V->List V->Hp->VK->Prop):Prop:=
 ∀(P9:List (Addr×Obj)) (s:Shared) (σ:St) (H:Hp) (x:V) (xs:List V) (v:Value) (us:List Value) (Q:VK),Inv X P9 σ H s->RelV x v->Vals xs us->r x xs H Q->
  wpAny (model X.prog X.w) X.A (call (.builtin id) (v::us)) (EP X P9 σ Q) X.xe s
section
variable{X:Cx}{a b:Expr}{ta tb:TE}{pos:Pos}
theorem IxR.or{r r':R2}(h:IxR X r)(h':IxR X r'):IxR X (fun x y H Q=>r x y H Q\/r' x y H Q):=by
 intro value slice P9 s σ H x y v u Q I rx ry q hs
 rcases q with q|q
 ·exact h value slice P9 s σ H x y v u Q I rx ry q hs
 ·exact h' value slice P9 s σ H x y v u Q I rx ry q hs
theorem aOV{r:R2}(hr:IxR X r)(ha:PE X a ta)(hb:PE X b tb)(hs:aIG b):PE X (.Subscript a b pos) (tOp r ta tb):=by
 intro P9 s σ H Q I h
 exact Subscript_ (aNC ha hb I h fun v u s2 x y H2 I2 rx ry q=>hr a b P9 s2 σ H2 x y v u Q I2 rx ry q (hs _ _))
def aOW(K:W.Frag):R2:=fun x y H Q=>∃p xs i v,x=.ref p/\y=.int i/\bR K H p xs/\xP xs i=some v/\Q v H
def aOX(K:W.Frag):R2:=fun x y H Q=>∃p xs i v,x=.ref p/\y=.int i/\kR K H p xs/\xP xs i=some v/\Q v H
def aOY:R2:=fun x y H Q=>∃z i c,x=.str z/\y=.int i/\z.length<=sizeLine/\xP z.cps.toList i=some c/\Q (.str ⟨#[c]⟩) H
theorem aMc:IxR X (aOW X.K):=by
 intro value slice P9 s σ H x y v u Q I rx ry h hs
 obtain⟨p,xs,i,z,rfl,rfl,hq,he,q⟩:=h
 cases rx
 obtain⟨t,rfl⟩:=ry
 obtain⟨its,r,pl,hz⟩:=I.list hq
 obtain⟨j,h1,h2,h3,h4,h5⟩:=aFn he
 obtain⟨w,ew,rw'⟩:=r.get h2
 have hl:=r.length
 have hn:=aBb
 have fin:EP X P9 σ Q w s:=⟨z,H,I,rw',q⟩
 by_cases h0:0<=i
 ·have hj:i.toNat=j:=by
   rw[seqIndex_of h0 h5] at h1
   exact Option.some.inj h1
  exact item_listR pl.isList h0 (by omega) (by rw[hj];simpa using ew) fin hs
 ·have hj:(i+(its.toArray.size:Int)).toNat=j:=by
   rw[seqIndex_neg (by omega) h4] at h1
   rw[List.size_toArray,<-hl]
   exact Option.some.inj h1
  exact subscriptTail_builtinR (x:=w) pl.isList.typeIs slot_list_getitem.lookup
   (wpAny_getItem_list_neg (Q:=fun r s'=>r=w/\EP X P9 σ Q r s') pl.isList (by omega) (by rw[List.size_toArray] <;> omega) (by omega) (by rw[hj];simpa using ew) ⟨rfl,fin⟩) hs
theorem aNL:IxR X (aOX X.K):=by
 intro value slice P9 s σ H x y v u Q I rx ry h hs
 obtain⟨p,xs,i,z,rfl,rfl,hq,he,q⟩:=h
 cases rx
 obtain⟨t,rfl⟩:=ry
 obtain⟨its,r,pl,hz⟩:=I.tuple hq
 obtain⟨j,h1,h2,h3,h4,h5⟩:=aFn he
 obtain⟨w,ew,rw'⟩:=r.get h2
 have hl:=r.length
 have hn:=aBb
 have fin:EP X P9 σ Q w s:=⟨z,H,I,rw',q⟩
 exact subscriptTail_builtinR (x:=w) pl.typeIs slot_tuple_getitem.lookup
  (getItem_tuple (j:=j) (Q:=fun r s'=>r=w/\EP X P9 σ Q r s') pl (by omega) (by omega) (by rw[List.size_toArray,<-hl];exact h1) (by simpa using ew) ⟨rfl,fin⟩) hs
theorem aNM:IxR X aOY:=by
 intro value slice P9 s σ H x y v u Q I rx ry h hs
 obtain⟨z,i,c,rfl,rfl,hz,he,q⟩:=h
 obtain⟨t,rfl⟩:=rx
 obtain⟨t',rfl⟩:=ry
 obtain⟨j,h1,h2,h3,h4,h5⟩:=aFn he
 have hl:z.cps.toList.length=z.length:=by simp[Str.length]
 rw[hl] at h1 h4 h5
 have hn:=aBb
 exact tail_any (typeIs_str s z t) slot_str_getitem.lookup (getItem_str (c:=c) (by
  have e1:decide (i < -(2 ^ 63:Int))=false:=decide_eq_false (by omega)
  have e2:decide (i ≥ 2 ^ 63)=false:=decide_eq_false (by omega)
  rw[e1,e2,Bool.or_false]) (by rw[h1];simpa using h2) ⟨.str ⟨#[c]⟩,H,I.tok _,⟨_,rfl⟩,q⟩) hs
def rIx(K:W.Frag):R2:=fun x y H Q=>aOW K x y H Q\/aOX K x y H Q\/aOY x y H Q
theorem aNN:IxR X (rIx X.K):=aMc.or (aNL.or aNM)
theorem aHR(its:List Value)(n j:Nat)(u:Value):Obj.mapSeq (·.setIfInBounds j u) { cls:=.type "list",data:=.seq its.toArray n } = { cls:=.type "list",data:=.seq (its.set j u).toArray n }:=by
 simp[Obj.mapSeq]
theorem Inv.lst{P9:List (Addr×Obj)}{σ:St}{H:Hp}{s:Shared}{p:Addr}{xs:List V}(I:Inv X P9 σ H s)(h:H p=some (.lst xs)) :
  ∃(its:List Value) (n:Nat),Vals xs its/\s.heap.get? p=some { cls:=.type "list",data:=.seq its.toArray n }/\xs.length<=sizeLine:=by
 obtain⟨z,its,n,r,e⟩:=I.hok p _ h
 exact⟨its,n,r,e,z⟩
theorem Inv.aNO{P9:List (Addr×Obj)}{σ:St}{H:Hp}{s:Shared}{p:Addr}{xs ys:List V}{its its':List Value}{n n':Nat}{f:Obj->Obj}(I:Inv X P9 σ H s)(h:H p=some (.lst xs))
  (ho:s.heap.get? p=some { cls:=.type "list",data:=.seq its.toArray n }) (hf:f { cls:=.type "list",data:=.seq its.toArray n } = { cls:=.type "list",data:=.seq its'.toArray n' }) (r:Vals ys its') (hz:ys.length<=sizeLine) (t:Nat) :
  Inv X P9 σ (upd H p (.lst ys)) { s with heap:=s.heap.update p f,toks:=t }:=by
 have e:(s.heap.update p f).get? p=some { cls:=.type "list",data:=.seq its'.toArray n' }:=by
  rw[Heap.get?_update_self f ho (by rw[hf] <;> rfl),hf]
 refine I.write (x:=p) (e:=p) (by rw[h];trivial) (.inl rfl) (fun b u hb q=>(Heap.get?_update_other _ _ (Ne.symm hb)).trans q) ⟨_,e⟩ ?_
 exact⟨hz,its',n',r,e⟩
def aM9:V->V->V->Hp->(Hp->Prop)->Prop:=fun o i v H Q=>∃p xs k j,o=.ref p/\i=.int k/\H p=some (.lst xs)/\ixN xs.length k=some j/\Q (upd H p (.lst (xs.set j v)))
theorem set_list:aKh X aM9:=by
 intro P9 s σ H o i v ov iv u Q I ro ri rv h
 obtain⟨p,xs,k,j,rfl,rfl,hp,hj,q⟩:=h
 cases ro
 obtain⟨t,rfl⟩:=ri
 obtain⟨its,n,r,ho,hz⟩:=I.lst hp
 obtain⟨h1,h2,h3,h4⟩:=aIF hj
 have hl:=r.length
 have hn:=aBb
 have I':Inv X P9 σ (upd H p (.lst (xs.set j v))) { s with heap:=s.heap.update p (Obj.mapSeq (·.setIfInBounds j u)) }:=
  I.aNO hp ho (aHR its n j u) (r.set rv j) (by rw[List.length_set];exact hz) s.toks
 by_cases h0:0<=k
 ·have hk:k.toNat=j:=by
   rw[seqIndex_of h0 h4] at h1
   exact Option.some.inj h1
  exact PySem.W.ki_setAt ho h0 (by omega) (by rw[List.size_toArray,<-hl];exact h4) (by rw[hk];exact⟨_,I',q⟩)
 ·have hk:(k+(its.toArray.size:Int)).toNat=j:=by
   rw[seqIndex_neg (by omega) h3] at h1
   rw[List.size_toArray,<-hl]
   exact Option.some.inj h1
  exact PySem.W.ki_setBack ho (by omega) (by rw[List.size_toArray,<-hl];exact h3) (by omega) (by rw[hk];exact⟨_,I',q⟩)
theorem aFo(lo hi:Option Int)(n:Nat):(sliceBounds lo hi none n).1=((HT.mK n 0 lo:Nat):Int)/\(sliceBounds lo hi none n).2.1=((HT.mK n n hi:Nat):Int)/\(sliceBounds lo hi none n).2.2=1:=by
 refine⟨?_,?_,rfl⟩
 ·cases lo with
  |none=>simp[sliceBounds,HT.mK]
  |some i=>
   simp only[sliceBounds,HT.mK,Option.getD_none,show(1:Int) > 0 by decide,if_true]
   by_cases h:i < 0
   ·simp only[h,if_true] <;> omega
   ·simp only[h,if_false] <;> omega
 ·cases hi with
  |none=>simp[sliceBounds,HT.mK]
  |some i=>
   simp only[sliceBounds,HT.mK,Option.getD_none,show(1:Int) > 0 by decide,if_true]
   by_cases h:i < 0
   ·simp only[h,if_true] <;> omega
   ·simp only[h,if_false] <;> omega
theorem aDX(its:List Value)(lo hi:Option Int):slicePick its.toArray lo hi none=((its.drop (HT.mK its.length 0 lo)).take (HT.mK its.length its.length hi - HT.mK its.length 0 lo)).toArray:=by
 obtain⟨h1,h2,h3⟩:=aFo lo hi its.toArray.size
 unfold slicePick
 rw[h1,h2,h3]
 simp only[sliceRange_one,pick_run,List.size_toArray] <;> rfl
def aOZ(K:W.Frag):V->Option Int->Option Int->Hp->VK->Prop:=fun x lo hi H Q=>∃a xs,x=.ref a/\bR K H a xs/\∀p,H p=none->Q (.ref p) (upd H p (.lst (pV xs lo hi)))
theorem aMd:SlR X (aOZ X.K):=by
 intro P9 s σ H x v vl vu lo hi sl Q I rx hs pl pu h
 obtain⟨a,xs,rfl,hx,q⟩:=h
 cases rx
 obtain⟨its,r,ht,hz⟩:=I.list hx
 have hlen:=r.length
 refine⟨"list",_,slot_list_getitem.lookup,ht.isList.typeIs,?_⟩
 refine wpAny_getItem_list_slice ht.isList hs pl pu .none (by simp) ?_ (by rw[List.size_toArray] <;> omega)
 rw[aDX,<-hlen]
 refine⟨.ref s.heap.objs.size,_,I.laid (t':=s.toks) (o:=.lst (pV xs lo hi)) (fun b ob q=>Heap.get?_push_of_some _ q) (Nat.le_refl _) ?_,rfl,q _ (I.hok.fresh (Nat.le_refl _))⟩
 exact⟨Nat.le_trans (fB xs lo hi) hz,_,0,(r.drop (HT.mK xs.length 0 lo)).take (HT.mK xs.length xs.length hi - HT.mK xs.length 0 lo),Heap.get?_push_size _ rfl⟩
def sA:V->Bool
 |.non=>true
 |.bl _=>true
 |.int _=>true
 |.str _=>true
 |_=>false
def eqV:V->V->Bool
 |.non,.non=>true
 |.bl a,.bl b=>a == b
 |.bl a,.int b=>(if a then 1 else 0) == b
 |.int a,.bl b=>a == (if b then 1 else 0)
 |.int a,.int b=>a == b
 |.str a,.str b=>a == b
 |_,_=>false
theorem aKx{A:Around}{s:Shared}{y x:V}{u v:Value}(ry:RelV y u)(rx:RelV x v)(fy:sA y=true)(fx:sA x=true):SeqAt.EqAt A s u v (eqV y x):=by
 cases y with
 |non=>
  cases ry
  cases x with
  |non=>cases rx;exact SeqAt.EqAt.same _
  |bl b=>cases rx;exact SeqAt.EqAt.none_bool b
  |int b=>obtain⟨t,rfl⟩:=rx;exact SeqAt.EqAt.none_int b t
  |str b=>obtain⟨t,rfl⟩:=rx;exact SeqAt.EqAt.none_str b t
  |_=>exact absurd (show false=true from fx) Bool.false_ne_true
 |bl a=>
  cases ry
  cases x with
  |non=>cases rx;exact SeqAt.EqAt.bool_none a
  |bl b=>cases rx;exact SeqAt.EqAt.bool_bool a b
  |int b=>obtain⟨t,rfl⟩:=rx;exact SeqAt.EqAt.bool_int a b t
  |str b=>obtain⟨t,rfl⟩:=rx;exact SeqAt.EqAt.bool_str a b t
  |_=>exact absurd (show false=true from fx) Bool.false_ne_true
 |int a=>
  obtain⟨t',rfl⟩:=ry
  cases x with
  |non=>cases rx;exact SeqAt.EqAt.int_none a t'
  |bl b=>cases rx;exact SeqAt.EqAt.int_bool a t' b
  |int b=>obtain⟨t,rfl⟩:=rx;exact SeqAt.EqAt.int_int a t' b t
  |str b=>obtain⟨t,rfl⟩:=rx;exact SeqAt.EqAt.int_str a t' b t
  |_=>exact absurd (show false=true from fx) Bool.false_ne_true
 |str a=>
  obtain⟨t',rfl⟩:=ry
  cases x with
  |non=>cases rx;exact SeqAt.EqAt.str_none a t'
  |bl b=>cases rx;exact SeqAt.EqAt.str_bool a t' b
  |int b=>obtain⟨t,rfl⟩:=rx;exact SeqAt.EqAt.str_int a t' b t
  |str b=>obtain⟨t,rfl⟩:=rx;exact SeqAt.EqAt.str_str a t' b t
  |_=>exact absurd (show false=true from fx) Bool.false_ne_true
 |_=>exact absurd (show false=true from fy) Bool.false_ne_true
theorem aFp:eA X (.type "list") (fun xs H Q=>∃p ys,xs=[.ref p]/\(bR X.K H p ys\/kR X.K H p ys)/\∀l,H l=none->Q (.ref l) (upd H l (.lst ys))):=by
 intro P9 s σ H xs us Q I r h
 obtain⟨p,ys,rfl,hq,q⟩:=h
 obtain⟨u,rfl,rx⟩:=vals1 r
 cases rx
 have fin:∀(its:List Value),Vals ys its->ys.length<=sizeLine->∀(h':Heap) (c':Nat),(∀b o',s.heap.get? b=some o'->h'.get? b=some o')->
   h'.get? s.heap.objs.size=some { cls:=.type "list",dict:=none,data:=.seq its.toArray c',slots:=#[] }->EP X P9 σ Q (.ref s.heap.objs.size) { s with heap:=h' }:=fun its r' hz h' c' kp e=>
  ⟨.ref s.heap.objs.size,_,I.laid (t':=s.toks) kp (Nat.le_refl _) (show bO X.prog X.w _ h' _ (.lst ys) from⟨hz,its,c',r',e⟩),rfl,q _ (I.hok.fresh (Nat.le_refl _))⟩
 rcases hq with hq|hq
 ·obtain⟨its,r',pl,hz⟩:=I.list hq
  have hlen:=r'.length
  obtain⟨o,ho,hc,n,hd⟩:=pl.isList
  exact call_list_seq p (.inl rfl) ho hc hd (fun h' c' kp e=>fin its r' hz h' c' kp e) (by simp only[List.size_toArray] <;> omega)
 ·obtain⟨its,r',pl,hz⟩:=I.tuple hq
  have hlen:=r'.length
  obtain⟨o,ho,hc,n,hd⟩:=pl
  exact call_list_seq p (.inr rfl) ho hc hd (fun h' c' kp e=>fin its r' hz h' c' kp e) (by simp only[List.size_toArray] <;> omega)
theorem aDY:eA X (.type "tuple") (fun xs H Q=>∃p ys,xs=[.ref p]/\((bR X.K H p ys/\∀l,H l=none->Q (.ref l) (upd H l (.tup ys)))\/(kR X.K H p ys/\Q (.ref p) H))):=by
 intro P9 s σ H xs us Q I r h
 obtain⟨p,ys,rfl,h⟩:=h
 obtain⟨u,rfl,rx⟩:=vals1 r
 cases rx
 rcases h with ⟨hq,q⟩|⟨hq,q⟩
 ·obtain⟨its,r',pl,hz⟩:=I.list hq
  have hlen:=r'.length
  refine call_tuple_list pl.isList (fun h' kp=>?_) (by simp only[List.size_toArray] <;> omega)
  have I1:Inv X P9 σ H { s with heap:=h' }:=I.kept (t':=s.toks) kp
  have I2:Inv X P9 σ (upd H h'.objs.size (.tup ys)) { s with heap:=h'.push { cls:=.type "tuple",data:=.seq its.toArray } }:=
   I1.laid (t':=s.toks) (fun b o e=>Heap.get?_push_of_some _ e) (Nat.le_refl _) (show bO X.prog X.w _ _ _ (.tup ys) from⟨hz,its,r',IsTup.new _ _⟩)
  exact⟨.ref h'.objs.size,_,I2,rfl,q _ (I1.hok.fresh (Nat.le_refl _))⟩
 ·obtain⟨its,r',pl,hz⟩:=I.tuple hq
  exact call_tuple_same pl ⟨.ref p,H,I,rfl,q⟩
def tyV(K:W.Frag)(T:String)(x:V)(H:Hp):Prop:=match x with
 |.str _=>T = "str"
 |.int _=>T = "int"
 |.ref p=>(T = "list"/\∃xs,bR K H p xs)\/(T = "tuple"/\∃o,K.lookup p=some o/\o.cls=.type "tuple"/\o.dict=none)\/
   (T = "dict"/\((∃kvs,H p=some (.dK kvs))\/∃kvs,H p=some (.dT kvs)))\/(T = "set"/\∃S n,H p=some (.set S n))
 |_=>False
theorem aNP{P9:List (Addr×Obj)}{σ:St}{H:Hp}{s:Shared}{T:String}{x:V}{v:Value}(I:Inv X P9 σ H s)(r:RelV x v)(ty:tyV X.K T x H) :
  s.TypeIs v T/\∀a,v=.ref a->∃ob,s.heap.get? a=some ob/\ob.dict=none:=by
 cases x with
 |str z=>
  obtain⟨t,rfl⟩:=r
  cases (show T = "str" from ty)
  exact⟨typeIs_str s z t,fun _ e=>nomatch e⟩
 |int i=>
  obtain⟨t,rfl⟩:=r
  cases (show T = "int" from ty)
  exact⟨typeIs_int s i t,fun _ e=>nomatch e⟩
 |ref p=>
  cases r
  rcases ty with ⟨rfl,xs,hq⟩|⟨rfl,o,hk,hc,hd⟩|⟨rfl,hk⟩|⟨rfl,S,n,hk⟩
  ·obtain⟨its,_,pl,_⟩:=I.list hq
   refine⟨pl.isList.typeIs,fun a e=>?_⟩
   cases e
   obtain⟨o,n,e,c,hd,_⟩:=pl
   exact⟨o,e,hd⟩
  ·refine⟨⟨o,I.kIn p o hk,hc⟩,fun a e=>?_⟩
   cases e
   exact⟨o,I.kIn _ o hk,hd⟩
  ·have z:∃o,s.heap.get? p=some o/\o.ExactDict:=by
    rcases hk with ⟨kvs,hk⟩|⟨kvs,hk⟩
    ·obtain⟨_,_,_,_,o,_,_,e,ex,_⟩:=I.hok p _ hk
     exact⟨o,e,ex⟩
    ·obtain⟨_,_,_,_,o,_,_,e,ex,_⟩:=I.hok p _ hk
     exact⟨o,e,ex⟩
   obtain⟨o,e,ex⟩:=z
   refine⟨⟨o,e,ex.1⟩,fun a e2=>?_⟩
   cases e2
   exact⟨o,e,ex.2.1⟩
  ·obtain⟨o,_,_,_,e,ex,_⟩:=I.hok p _ hk
   refine⟨⟨o,e,ex.1⟩,fun a e2=>?_⟩
   cases e2
   exact⟨o,e,ex.2.1⟩
 |_=>exact False.elim ty
def tBM(K:W.Frag)(T:String)(r:V->List V->Hp->VK->Prop)(to:TE)(t:TA):TE:=fun σ H Q=>to σ H fun x H1=>tyV K T x H1/\t σ H1 fun xs H2=>r x xs H2 Q
variable{o e:Expr}{es:List Expr}{to:TE}{t:TA}{name:Str}{apos cpos:Pos}{T id:String}{r:V->List V->Hp->VK->Prop}
theorem aNa(pa:PlainAttrs T)(slot:Slot T name id)(hty:typeOf (.builtin id)=pure (.type "method_descriptor"))(hm:MtR X id r)(ho:PE X o to)(ha:PA X (e::es) t)
  (hbase:attributeBase o name X.env (eval o X.env)=eval o X.env:=by rfl)
  (hfew:((backTo cpos (starEach (e::es) X.env)).all (fun x=>!x.1) && (backToKw cpos (keywordEach [] X.env)).all (fun x=>x.1.isSome)
   && decide ((e::es).length+([]:List Keyword).length+(if ([]:List Keyword).isEmpty then 0 else 1) < 30))=true:=by rfl)
  (hline:(apos.endLine == cpos.line)=true:=by rfl) (hs:starEach (e::es) X.env=(false,eval e X.env)::starEach es X.env:=by rfl) (hplain:(backTo cpos (starEach es X.env)).any (·.1)=false:=by rfl) :
  PE X (.Call (.Attribute o name apos) (e::es) [] cpos) (tBM X.K T r to t):=by
 intro P9 s σ H Q I h
 refine wpAny_Call_method_late hbase hfew hline rfl (cY (ho P9 s σ H _ I h) fun v s1 ⟨x,H1,I1,r1,ty,q1⟩=>?_)
 obtain⟨h1,h2⟩:=aNP I1 r1 ty
 refine⟨T,id,pa,slot,hty,h1,h2,?_⟩
 have hA:=ha cpos P9 s1 σ H1 _ I1 q1
 rw[hs] at hA ⊢
 refine Calls.callWith_builtin (by show(false || (backTo cpos (starEach es X.env)).any (·.1))=false;rw[hplain] <;> rfl) (Calls.evalArgs_plain ?_)
 exact cY hA fun us s2 ⟨vs,H2,I2,r2,q2⟩=>hm P9 s2 σ H2 x vs v us Q I2 r1 r2 q2
end
end L2
namespace L2
open PySem PySem.Spec PyProof.Rows
def MtM(X:Cx)(id:String)(r:V->List V->Hp->VK->Prop):Prop:=
 ∀(P9:List (Addr×Obj)) (s:Shared) (σ:St) (H:Hp) (x:V) (xs:List V) (v:Value) (us:List Value) (Q:VK),Inv X P9 σ H s->RelV x v->Vals xs us->r x xs H Q->
  wpAny (model X.prog X.w) X.A (call (.builtin id) (v::us)) (EP X P9 σ Q) X.xe s
theorem Vals.one:∀{x:V}{us:List Value},Vals [x] us->∃u,us=[u]/\RelV x u
 |_,_,.cons r .nil=>⟨_,rfl,r⟩
theorem Vals.rep{xs:List V}{us:List Value}(h:Vals xs us):∀k:Nat,Vals (List.replicate k xs).flatten (List.replicate k us).flatten
 |0=>.nil
 |k+1=>by
  rw[List.replicate_succ,List.replicate_succ,List.flatten_cons,List.flatten_cons]
  exact Vals.append h (Vals.rep h k)
theorem foldl_rep(its:List Value):∀(k:Nat) (acc:List Value),
  List.foldl (fun x1 x2=>x1++x2) acc.toArray (List.replicate k its.toArray)=(acc++(List.replicate k its).flatten).toArray
 |0,acc=>by simp
 |k+1,acc=>by
  have e:acc.toArray++its.toArray=(acc++its).toArray:=by simp
  have e2:(acc++its)++(List.replicate k its).flatten=acc++(List.replicate (k+1) its).flatten:=by
   rw[List.replicate_succ,List.flatten_cons,List.append_assoc]
  rw[<-e2,<-foldl_rep its k (acc++its),<-e,List.replicate_succ,List.foldl_cons]
section
variable{X:Cx}{P9:List (Addr×Obj)}{σ:St}{H:Hp}{s:Shared}{l b:Addr}{xs ys zs:List V}
theorem Inv.aPH{its its':List Value}{n:Nat}{f:Array Value->Array Value}{t':Nat}(I:Inv X P9 σ H s)(hH:H l=some (.lst xs))
  (e:s.heap.get? l=some { cls:=.type "list",data:=.seq its.toArray n }) (hf:f its.toArray=its'.toArray) (hv:Vals ys its') (hz:ys.length<=sizeLine) :
  Inv X P9 σ (upd H l (.lst ys)) { s with heap:=s.heap.update l (Obj.mapSeq f),toks:=t' }:=by
 have q:=PySem.IsL.update e f
 rw[hf] at q
 refine I.write (x:=l) (e:=l) (by rw[hH];exact trivial) (.inl rfl) (fun b' u hb hu=>(Heap.get?_update_other s.heap (Obj.mapSeq f) (Ne.symm hb)).trans hu) ⟨_,q⟩ ?_
 exact⟨hz,its',_,hv,q⟩
theorem Inv.aO0{its:List Value}{t':Nat}(I:Inv X P9 σ H s)(hv:Vals ys its)(hz:ys.length<=sizeLine) :
  Inv X P9 σ (upd H s.heap.objs.size (.lst ys)) { s with heap:=s.heap.push { cls:=.type "list",data:=.seq its.toArray },toks:=t' }:=
 I.laid (fun _ _ q=>Heap.get?_push_of_some _ q) (Nat.le_refl _) ⟨hz,its,0,hv,Heap.get?_push_size _ rfl⟩
theorem Inv.fresh(I:Inv X P9 σ H s):H s.heap.objs.size=none:=I.hok.fresh (Nat.le_refl _)
theorem Inv.aMe(I:Inv X P9 σ H s)(hH:H l=some (.lst xs)):xs.length<=sizeLine/\∃(its:List Value) (n:Nat),Vals xs its/\xs.length=its.length/\s.heap.get? l=some { cls:=.type "list",data:=.seq its.toArray n }:=by
 obtain⟨z,its,n,r,e⟩:=I.hok l _ hH
 exact⟨z,its,n,r,r.length,e⟩
theorem aKy{n:Nat}(h:n<=sizeLine):Builtin.List.listTooLong n=false:=by
 unfold Builtin.List.listTooLong
 exact decide_eq_false (by omega)
end
section
variable{X:Cx}
def aCu:V->List V->Hp->VK->Prop:=fun x vs H Q=>∃l xs y,x=.ref l/\vs=[y]/\H l=some (.lst xs)/\xs.length < sizeLine/\Q .non (upd H l (.lst (xs ++ [y])))
theorem aJr:MtM X "list.append" aCu:=by
 intro P9 s σ H x vs v us Q I rx rv h
 obtain⟨l,xs,y,rfl,rfl,hH,hz,q⟩:=h
 cases rx
 obtain⟨u,rfl,ru⟩:=rv.one
 obtain⟨z,its,n,r,hl,e⟩:=I.aMe hH
 refine call_meets F.slot_list_append ⟨_,e,rfl⟩ F.entry_list_append (F.args_list_append_2 _ _) (PySem.list_append l its.toArray n u (by rw[List.size_toArray];omega)) ⟨e,?_⟩
 refine⟨.non,_,I.aPH (its':=its ++ [u]) hH e (by simp) (r.append (.cons ru .nil)) ?_,rfl,q⟩
 rw[List.length_append,List.length_singleton]
 omega
def aO1:R2:=fun x y H Q=>∃l b xs zs,x=.ref l/\y=.ref b/\H l=some (.lst xs)/\H b=some (.lst zs)/\xs.length+zs.length<=sizeLine/\∀p,H p=none->Q (.ref p) (upd H p (.lst (xs++zs)))
theorem aNQ:vP X (binaryOp .Add) aO1:=by
 intro P9 s σ H x y v u Q I rx ry h
 obtain⟨l,b,xs,zs,rfl,rfl,hH,hB,hz,q⟩:=h
 cases rx
 cases ry
 obtain⟨z,its,n,r,hl,e⟩:=I.aMe hH
 obtain⟨z2,its2,n2,r2,hl2,e2⟩:=I.aMe hB
 refine PySem.P.add_list e e2 ?_ (by rw[List.size_toArray,List.size_toArray];omega)
 have ea:its.toArray++its2.toArray=(its++its2).toArray:=by simp
 rw[ea]
 exact⟨.ref _,_,I.aO0 (t':=s.toks) (r.append r2) (by rw[List.length_append];omega),rfl,q _ I.fresh⟩
def aO2:R2:=fun x y H Q=>∃l k xs,x=.ref l/\y=.int k/\H l=some (.lst xs)/\-(2 ^ 63)<=k/\k < 2 ^ 63/\xs.length*k.toNat<=sizeLine/\
 ∀p,H p=none->Q (.ref p) (upd H p (.lst (List.replicate k.toNat xs).flatten))
theorem len_rep{α:Type}(xs:List α)(k:Nat):(List.replicate k xs).flatten.length=k*xs.length:=by
 induction k with
 |zero=>simp
 |succ k ih=>rw[List.replicate_succ,List.flatten_cons,List.length_append,ih,Nat.succ_mul,Nat.add_comm]
theorem aNR:vP X (binaryOp .Mult) aO2:=by
 intro P9 s σ H x y v u Q I rx ry h
 obtain⟨l,k,xs,rfl,rfl,hH,h1,h2,hz,q⟩:=h
 cases rx
 obtain⟨t,rfl⟩:=ry
 obtain⟨z,its,n,r,hl,e⟩:=I.aMe hH
 have hlen:its.toArray.size*k.toNat<=sizeLine:=by rw[List.size_toArray,<-hl];exact hz
 have hcap:¬its.toArray.size*k.toNat > (2 ^ 63 - 1) / 8:=by
  have:(sizeLine:Nat)<=(2 ^ 63 - 1) / 8:=by decide
  omega
 have hfit:¬(!Builtin.List.listFitsIndex k)=true:=by
  rw[fitsIndex_both h1 h2]
  exact Bool.false_ne_true
 have hlong:¬Builtin.List.listTooLong (its.toArray.size*k.toNat)=true:=by
  rw[aKy hlen]
  exact Bool.false_ne_true
 have hnew:List.foldl (fun x1 x2=>x1++x2) #[] (List.replicate (if its.toArray.isEmpty=true then 0 else k.toNat) its.toArray)=(List.replicate k.toNat its).flatten.toArray:=by
  have f0:∀m:Nat,List.foldl (fun x1 x2=>x1++x2) #[] (List.replicate m its.toArray)=(List.replicate m its).flatten.toArray:=fun m=>by
   have:=foldl_rep its m []
   rw[List.nil_append] at this
   exact this
  rw[f0]
  cases its with
  |nil=>simp
  |cons a r'=>rw[if_neg (by simp)]
 refine wpAny_binaryOp_repeat_ref (T:="list") (U:="int") (by decide) ⟨_,e,rfl⟩ (fun s'=>typeIs_int s' k t) noFill_list_mul F.fills_int_mul F.slot_int_rmul repeat_list F.slot_int_index.lookup
  (call_meets F.slot_int_rmul (typeIs_int s k t) F.entry_int_rmul (F.args_int_rmul_2 _ _) (int___rmul___int_list k t l its.toArray n)
   ⟨e,rfl,⟨_,e,rfl⟩,call_meets F.slot_list_mul ⟨_,e,rfl⟩ F.entry_list_mul (F.args_list_mul_2 _ _) (AutoListH.list___mul___list_int_3 l its.toArray n k t hfit hcap hlong) ⟨e,?_⟩⟩)
 rw[hnew]
 exact⟨.ref _,_,I.aO0 (t':=s.toks) (r.rep k.toNat) (by rw[len_rep,Nat.mul_comm];exact hz),rfl,q _ I.fresh⟩
end
section
variable{prog:Program}{w:World}{A:Around}{E:Value->Shared->Prop}{s:Shared}
end
section
variable{X:Cx}
end
end L2
namespace L2
open PySem PySem.Spec PyProof.Rows
section
variable{κ:Type}[DecidableEq κ]
def oW(kvs:List (κ×V))(k:κ):Option V:=(kvs.find? fun kv=>decide (kv.1=k)).map (·.2)
def putK(kvs:List (κ×V))(k:κ)(v:V):List (κ×V):=
 if (kvs.any fun kv=>decide (kv.1=k))=true then kvs.map (fun kv=>if kv.1=k then (kv.1,v) else kv) else kvs ++ [(k,v)]
theorem jV{p:κ×V}{r:List (κ×V)}{k:κ}(e:p.1=k):oW (p::r) k=some p.2:=by simp[oW,List.find?_cons,e]
theorem iO{p:κ×V}{r:List (κ×V)}{k:κ}(e:¬p.1=k):oW (p::r) k=oW r k:=by simp[oW,List.find?_cons,e]
theorem aAa(k:κ):∀kvs:List (κ×V),(kvs.any fun kv=>decide (kv.1=k))=(oW kvs k).isSome
 |[]=>rfl
 |p::r=>by
  rw[List.any_cons]
  by_cases e:p.1=k
  ·simp only[jV e,decide_eq_true e,Bool.true_or,Option.isSome_some]
  ·rw[iO e,decide_eq_false e,Bool.false_or];exact aAa k r
theorem vR(k j:κ)(y:V):∀kvs:List (κ×V),oW (kvs.map fun kv=>if kv.1=k then (kv.1,y) else kv) j=(oW kvs j).map fun x=>if j=k then y else x
 |[]=>rfl
 |p::r=>by
  have ih:=vR k j y r
  rw[List.map_cons]
  by_cases h:p.1=k
  ·rw[if_pos h]
   by_cases e:p.1=j
   ·rw[jV (p:=(p.1,y)) e,jV e,Option.map_some,if_pos (e.symm.trans h)]
   ·rw[iO (p:=(p.1,y)) e,iO e,ih]
  ·rw[if_neg h]
   by_cases e:p.1=j
   ·rw[jV (p:=p) e,jV e,Option.map_some,if_neg (fun z=>h (e.trans z))]
   ·rw[iO (p:=p) e,iO e,ih]
theorem pX(kvs:List (κ×V))(k:κ)(v:V):(putK kvs k v).length<=kvs.length+1:=by
 unfold putK
 split
 ·rw[List.length_map];omega
 ·rw[List.length_append,List.length_cons,List.length_nil];omega
theorem aCM{kvs:List (κ×V)}{k:κ}(v:V)(h:oW kvs k=none):putK kvs k v=kvs ++ [(k,v)]:=by
 unfold putK
 rw[aAa,h]
 exact if_neg (by decide)
theorem vH.aJs{o:Option V}{u:Option Value}(r:vH o u):o.isSome=u.isSome:=by
 cases o with
 |none=>cases u with
  |none=>rfl
  |some _=>exact(show False from r).elim
 |some _=>cases u with
  |none=>exact(show False from r).elim
  |some _=>rfl
theorem vH.getD{o:Option V}{u:Option Value}{d:V}{d':Value}(r:vH o u)(rd:RelV d d'):RelV (o.getD d) (u.getD d'):=by
 cases o with
 |none=>cases u with
  |none=>exact rd
  |some _=>exact(show False from r).elim
 |some _=>cases u with
  |none=>exact(show False from r).elim
  |some _=>exact r
theorem KV.val{kvs:List (κ×V)}{vs:List (κ×Value)}(r:KV kvs vs)(k:κ):vH (oW kvs k) (valueAt vs k):=by
 unfold KV at r
 induction r with
 |nil=>exact True.intro
 |@cons p q ps qs h t ih=>
  obtain⟨h1,h2⟩:=h
  by_cases e:p.1=k
  ·have e':q.1=k:=h1.symm.trans e
   have b:valueAt (q::qs) k=some q.2:=by simp[valueAt,List.find?_cons,e']
   rw[jV e,b];exact h2
  ·have e':¬q.1=k:=fun z=>e (h1.trans z)
   have b:valueAt (q::qs) k=valueAt qs k:=by simp[valueAt,List.find?_cons,e']
   rw[iO e,b];exact ih
theorem KV.any{kvs:List (κ×V)}{vs:List (κ×Value)}(r:KV kvs vs)(k:κ):(kvs.any fun kv=>decide (kv.1=k))=vs.any fun kv=>decide (kv.1=k):=by
 unfold KV at r
 induction r with
 |nil=>rfl
 |cons h t ih=>rw[List.any_cons,List.any_cons,ih,h.1]
theorem KV.aNS{kvs:List (κ×V)}{vs:List (κ×Value)}(r:KV kvs vs)(k:κ){y:V}{u:Value}(ry:RelV y u) :
  KV (kvs.map fun kv=>if kv.1=k then (kv.1,y) else kv) (vs.map fun kv=>if kv.1=k then (kv.1,u) else kv):=by
 unfold KV at r ⊢
 induction r with
 |nil=>exact .nil
 |@cons p q ps qs h t ih=>
  rw[List.map_cons,List.map_cons]
  refine .cons ?_ ih
  obtain⟨h1,h2⟩:=h
  by_cases e:p.1=k
  ·rw[if_pos e,if_pos (h1.symm.trans e)];exact⟨h1,ry⟩
  ·rw[if_neg e,if_neg (fun z=>e (h1.trans z))];exact⟨h1,h2⟩
theorem KV.put{kvs:List (κ×V)}{vs:List (κ×Value)}(r:KV kvs vs)(k:κ){y:V}{u:Value}(ry:RelV y u):KV (putK kvs k y) (stored vs k u):=by
 unfold putK stored
 rw[r.any k]
 by_cases e:(vs.any fun kv=>decide (kv.1=k))=true
 ·rw[if_pos e,if_pos e];exact r.aNS k ry
 ·rw[if_neg e,if_neg e];exact Paired.snoc r ⟨rfl,ry⟩
theorem KV.length{kvs:List (κ×V)}{vs:List (κ×Value)}(r:KV kvs vs):kvs.length=vs.length:=Paired.length r
end
theorem aGD{P:Program}{w:World}{k:Key}{u:Value}(r:RelV (kV k) u):(cZ P w).is k u=true:=by
 cases k with
 |inl i=>obtain⟨t,e⟩:=(show ∃t,u=Value.int i t from r);subst e;exact aGs P w i t
 |inr x=>obtain⟨t,e⟩:=(show ∃t,u=Value.str x t from r);subst e;exact aGt P w x t
theorem aEU{P:Program}{w:World}:∀{ks:List Key}{us:List Value},Vals (ks.map kV) us->ItemsAre (cZ P w) ks us
 |[],_,r=>by rw[List.map_nil] at r;cases r;exact .nil
 |k::ks,_,r=>by
  rw[List.map_cons] at r
  cases r with
  |cons h t=>exact .cons (aGD h) (aEU t)
abbrev KT(H:Hp):List (List Key×V)->List (List Key×Addr×Value)->Prop:=Paired fun p q=>p.1=q.1/\H q.2.1=some (.tup (p.1.map kV))/\RelV p.2 q.2.2
theorem KT.val{H:Hp}{kvs:List (List Key×V)}{xs:List (List Key×Addr×Value)}(r:KT H kvs xs)(k:List Key):vH (oW kvs k) ((atKey xs k).map (·.2)):=by
 induction r with
 |nil=>exact True.intro
 |@cons p q ps qs h t ih=>
  obtain⟨h1,_,h2⟩:=h
  by_cases e:p.1=k
  ·have e':q.1=k:=h1.symm.trans e
   have b:atKey (q::qs) k=some q.2:=by simp[atKey,List.find?_cons,e']
   rw[jV e,b];exact h2
  ·have e':¬q.1=k:=fun z=>e (h1.trans z)
   have b:atKey (q::qs) k=atKey qs k:=by simp[atKey,List.find?_cons,e']
   rw[iO e,b];exact ih
theorem KT.aNS{H:Hp}{kvs:List (List Key×V)}{xs:List (List Key×Addr×Value)}(r:KT H kvs xs)(k:List Key){y:V}{u:Value}(ry:RelV y u) :
  KT H (kvs.map fun kv=>if kv.1=k then (kv.1,y) else kv) (xs.map (putAt k u)):=by
 induction r with
 |nil=>exact .nil
 |@cons p q ps qs h t ih=>
  rw[List.map_cons,List.map_cons]
  refine .cons ?_ ih
  obtain⟨h1,h2,h3⟩:=h
  unfold putAt
  by_cases e:p.1=k
  ·rw[if_pos e,if_pos (h1.symm.trans e)];exact⟨h1,h2,ry⟩
  ·rw[if_neg e,if_neg (fun z=>e (h1.trans z))];exact⟨h1,h2,h3⟩
theorem KT.put{H:Hp}{kvs:List (List Key×V)}{xs:List (List Key×Addr×Value)}(r:KT H kvs xs)(k:List Key){b:Addr}{y:V}{u:Value}(hb:H b=some (.tup (k.map kV)))(ry:RelV y u) :
  KT H (putK kvs k y) (storedH xs k b u):=by
 have e:(kvs.any fun kv=>decide (kv.1=k))=(atKey xs k).isSome:=by
  rw[aAa,(r.val k).aJs,Option.isSome_map]
 unfold putK storedH
 rw[e]
 by_cases q:(atKey xs k).isSome=true
 ·rw[if_pos q,if_pos q];exact r.aNS k ry
 ·rw[if_neg q,if_neg q];exact Paired.snoc r ⟨rfl,hb,ry⟩
theorem KT.keeps{H H':Hp}{kvs:List (List Key×V)}{xs:List (List Key×Addr×Value)}(r:KT H kvs xs)(ht:∀b ys,H b=some (.tup ys)->H' b=some (.tup ys)):KT H' kvs xs:=
 Paired.aNn r fun _ _ z=>⟨z.1,ht _ _ z.2.1,z.2.2⟩
section
variable{P:Program}{w:World}{H:Hp}{h:Heap}{a:Addr}
theorem aGE{u:HO}(ok:vB P w H h)(e:Rd H a u):bO P w H h a u:=e.ok ok
theorem aEV{kvs:List (Key×V)}(ok:vB P w H h)(e:Rd H a (.dK kvs)):kvs.length<=sizeLine/\(a == sysModules)=false/\∃vs,KV kvs vs/\h.DictOf (cZ P w) a vs:=
 show bO P w H h a (.dK kvs) from aGE ok e
theorem aKz{kvs:List (Key×V)}(ok:vB P w H h)(e:H a=some (.dK kvs)):kvs.length<=sizeLine/\(a == sysModules)=false/\∃vs,KV kvs vs/\h.DictOf (cZ P w) a vs:=aEV ok (.inl e)
theorem aCN{ks:List Key}(ok:vB P w H h)(e:H a=some (.tup (ks.map kV))):(tupleKind (cZ P w)).is h ks a:=by
 obtain⟨_,its,r,o,h1,h2,n,h3⟩:=(show bO P w H h a (.tup (ks.map kV)) from ok a _ e)
 exact⟨o,its.toArray,n,h1,h2,h3,by simpa using aEU r⟩
theorem aGF{kvs:List (List Key×V)}(ok:vB P w H h)(e:Rd H a (.dT kvs)):kvs.length<=sizeLine/\(a == sysModules)=false/\
  ∃xs,KT H kvs xs/\h.DictOfH (tupleKind (cZ P w)) a xs:=by
 obtain⟨z,y,xs,r,o,es,ep,h1,h2,h3,h4,h5⟩:=(show bO P w H h a (.dT kvs) from aGE ok e)
 refine⟨z,y,xs,r,o,es,ep,h1,h2,h3,h4,fun x hx=>?_,h5⟩
 have all:∀{l:List (List Key×V)} {m:List (List Key×Addr×Value)},KT H l m->∀x∈m,(tupleKind (cZ P w)).is h x.1 x.2.1:=by
  intro l m q
  induction q with
  |nil=>intro x hx;exact nomatch hx
  |@cons p q ps qs hq t ih=>
   intro x hx
   rcases List.mem_cons.mp hx with e|hx
   ·subst e
    exact aCN ok (by rw[<-hq.1];exact hq.2.1)
   ·exact ih x hx
 exact all r x hx
theorem aNb{kvs:List (List Key×V)}(ok:vB P w H h)(e:H a=some (.dT kvs)):kvs.length<=sizeLine/\(a == sysModules)=false/\
  ∃xs,KT H kvs xs/\h.DictOfH (tupleKind (cZ P w)) a xs:=aGF ok (.inl e)
end
def oX(H:Hp)(a:Addr)(y:V)(r:Option V):Prop:=
 (∃kvs k,Rd H a (.dK kvs)/\y=kV k/\r=oW kvs k)\/∃kvs k b,Rd H a (.dT kvs)/\y=.ref b/\H b=some (.tup (k.map kV))/\r=oW kvs k
def aBe(H:Hp)(a:Addr)(y v:V)(H':Hp):Prop:=
 (∃kvs k,H a=some (.dK kvs)/\y=kV k/\kvs.length < sizeLine/\H'=upd H a (.dK (putK kvs k v)))\/
 ∃kvs k b,H a=some (.dT kvs)/\y=.ref b/\H b=some (.tup (k.map kV))/\kvs.length < sizeLine/\H'=upd H a (.dT (putK kvs k v))
theorem oX.k{H:Hp}{a:Addr}{kvs:List (Key×V)}{k:Key}(e:H a=some (.dK kvs)):oX H a (kV k) (oW kvs k):=.inl ⟨kvs,k,.inl e,rfl,rfl⟩
theorem oX.t{H:Hp}{a b:Addr}{kvs:List (List Key×V)}{k:List Key}(e:H a=some (.dT kvs))(eb:H b=some (.tup (k.map kV))):oX H a (.ref b) (oW kvs k):=.inr ⟨kvs,k,b,.inl e,rfl,eb,rfl⟩
theorem aBe.k{H:Hp}{a:Addr}{kvs:List (Key×V)}{k:Key}{v:V}(e:H a=some (.dK kvs))(hl:kvs.length < sizeLine):aBe H a (kV k) v (upd H a (.dK (putK kvs k v))):=.inl ⟨kvs,k,e,rfl,hl,rfl⟩
theorem aBe.t{H:Hp}{a b:Addr}{kvs:List (List Key×V)}{k:List Key}{v:V}(e:H a=some (.dT kvs))(eb:H b=some (.tup (k.map kV)))(hl:kvs.length < sizeLine) :
  aBe H a (.ref b) v (upd H a (.dT (putK kvs k v))):=.inr ⟨kvs,k,b,e,rfl,eb,hl,rfl⟩
section
variable{X:Cx}{P9:List (Addr×Obj)}{σ:St}{H:Hp}{s:Shared}{a:Addr}{y v:V}{u r:Value}{o:Option V}{A:Around}{E:Value->Shared->Prop}
theorem Inv.big(I:Inv X P9 σ H s):sysModules < s.heap.objs.size:=by
 have h:mainGlobals < s.heap.objs.size:=(I.mod.glob.keeps I.bk).lt
 exact Nat.lt_trans (by decide) h
theorem aJt{Q:Value->Shared->Prop}(hu:A.units+1 < cLine)(I:Inv X P9 σ H s)(g:oX H a y (some v))(ry:RelV y u)(h:∀w' s',Inv X P9 σ H s'->RelV v w'->Q w' s') :
  wpAny (model X.prog X.w) A (getItem (.ref a) u) Q E s:=by
 rcases g with ⟨kvs,k,e,ey,l⟩|⟨kvs,k,b,e,ey,eb,l⟩
 ·subst ey
  obtain⟨z,hd,vs,rel,dd⟩:=aEV I.hok e
  obtain⟨w',hw,rw'⟩:=vH.some_of (v:=v) (o:=valueAt vs k) (by rw[l];exact rel.val k)
  exact wpAny_getItem_of (aGD ry) dd.mapOf hw (h w' _ (I.tok _) rw')
 ·subst ey
  cases (show u=Value.ref b from ry)
  obtain⟨z,hd,xs,rel,dd⟩:=aGF I.hok e
  obtain⟨w',hw,rw'⟩:=vH.some_of (v:=v) (o:=(atKey xs k).map (·.2)) (by rw[l];exact rel.val k)
  obtain⟨p,hp,hp2⟩:=Option.map_eq_some_iff.mp hw
  refine wpAny_getItem_heap (tupleKind_room_in1 hu) (aCN I.hok eb) dd hp ?_
  rw[hp2]
  exact h w' _ (I.tok _) rw'
theorem aCv{h':Heap}{t':Nat}{ob:HO}(I:Inv X P9 σ H s)(mu:Mut (H a))(hs:Heap.SameBut a s.heap h')(he:∃q,h'.get? a=some q)(new:bO X.prog X.w (upd H a ob) h' a ob) :
  Inv X P9 σ (upd H a ob) { s with heap:=h',toks:=t' }:=
 I.write (x:=a) (e:=a) mu (.inl rfl) (fun b q hb z=>(hs.2 b hb).trans z) he new
theorem aKA{P:Program}{w:World}{H':Hp}{h':Heap}{kvs:List (Key×V)}{vs:List (Key×Value)}(z:kvs.length<=sizeLine)(hd:(a == sysModules)=false)(rel:KV kvs vs)(dd:h'.DictOf (cZ P w) a vs) :
  bO P w H' h' a (.dK kvs):=⟨z,hd,vs,rel,dd⟩
theorem aJu{H':Hp}{Q:Unit->Shared->Prop}(hu:A.units+1 < cLine)(I:Inv X P9 σ H s)(g:aBe H a y v H')(ry:RelV y u)(rv:RelV v r)(h:∀s',Inv X P9 σ H' s'->Q () s') :
  wpAny (model X.prog X.w) A (setItem (.ref a) u r) Q E s:=by
 rcases g with ⟨kvs,k,e,ey,l,eH⟩|⟨kvs,k,b,e,ey,eb,l,eH⟩
 ·subst ey eH
  obtain⟨z,hd,vs,rel,dd⟩:=aKz I.hok e
  have hz:vs.length<=sizeLine:=by rw[<-rel.length];exact z
  have hl:(putK kvs k v).length<=sizeLine:=by have:=pX kvs k v;omega
  refine wpAny_setItem_pairs (hsz:=hz) (aGD ry) dd fun h' dd' hs=>h _ ?_
  have he:∃q,h'.get? a=some q:=let ⟨q,_,_,hq,_⟩:=dd';⟨q,hq⟩
  exact aCv I (by rw[e];exact True.intro) hs he (aKA hl hd (rel.put k rv) dd')
 ·subst ey eH
  cases (show u=Value.ref b from ry)
  obtain⟨z,hd,xs,rel,dd⟩:=aNb I.hok e
  have hz:xs.length<=sizeLine:=by rw[<-Paired.length rel];exact z
  have hl:(putK kvs k v).length<=sizeLine:=by have:=pX kvs k v;omega
  refine wpAny_setItem_heap (hsz:=hz) (tupleKind_room_in1 hu) (aCN I.hok eb) dd fun h' dd' hs=>h _ ?_
  obtain⟨q,es,ep,hq,h2,h3,h4,_,h5⟩:=dd'
  refine aCv I (by rw[e];exact True.intro) hs ⟨q,hq⟩ ⟨hl,hd,_,(rel.put k eb rv).keeps fun c ys ec=>?_,q,es,ep,hq,h2,h3,h4,h5⟩
  rw[aR (aM5 ec e (fun z=>nomatch z))]
  exact ec
end
section
variable{X:Cx}{P9:List (Addr×Obj)}{σ:St}{H:Hp}{s:Shared}{a:Addr}{kvs:List (Key×V)}{k:Key}{u:Value}{A:Around}{E:Value->Shared->Prop}
end
def aNT(i:Expr):Prop:=∀ov iv,subscripted i false ov iv=operate [ov,iv] (getItem ov iv)
theorem aMf{prog:Program}{w:World}{A:Around}{E:Value->Shared->Prop}{s:Shared}{env:Env}{value slice:Expr}{pos:Pos}{T id:String}{Q:Value->Shared->Prop}
  (hl:typeLookup (.type T) "__getitem__" = pure (some (.builtin id))) (hs:aNT slice)
  (h:wpAny (model prog w) A (eval value env) (fun o s₁=>wpAny (model prog w) A (eval slice env) (fun i s₂=>s₂.TypeIs o T/\wpAny (model prog w) A (getItem o i) Q E s₂) E s₁) E s) :
  wpAny (model prog w) A (eval (.Subscript value slice pos) env) Q E s:=by
 refine Subscript_ (wpAny_mono h (fun o s₁ h₁=>wpAny_mono h₁ (fun i s₂ h₂=>?_) fun _ _ x=>x) fun _ _ x=>x)
 obtain⟨hT,h₂⟩:=h₂
 unfold subscriptTail
 refine wpAny_bind ?_
 rw[getitemInPython_of_ne hT.not_modules]
 refine wpAny_bind (wpAny_specialOf hT hl ?_)
 have fin:wpAny (model prog w) A (subscripted slice false o i) (fun r s₃=>wpAny (model prog w) A (letTemporaryGo value o r >>= fun _=>pure r) Q E s₃) E s₂:=by
  rw[hs o i]
  exact wpAny_operating (wpAny_mono h₂ (fun r s₃ h₃=>wpAny_bind (wpAny_letTemporaryGo (wpAny_pure h₃))) fun _ _ x=>x)
 first
  |exact wpAny_pure (wpAny_bind fin)
  |exact wpAny_bind (wpAny_pure (wpAny_bind fin))
  |exact wpAny_bind fin
theorem aGG{X:Cx}{P9:List (Addr×Obj)}{σ:St}{H:Hp}{s:Shared}{a:Addr}{y:V}{o:Option V}(I:Inv X P9 σ H s)(g:oX H a y o):s.TypeIs (.ref a) "dict":=by
 rcases g with ⟨kvs,k,e,_,_⟩|⟨kvs,k,b,e,_,_,_⟩
 ·obtain⟨_,_,vs,_,dd⟩:=aEV I.hok e
  exact dd.typeIs
 ·obtain⟨_,_,xs,_,dd⟩:=aGF I.hok e
  exact dd.typeIs
def aKB(td ty:TE):TE:=fun σ H Q=>td σ H fun x H1=>ty σ H1 fun y H2=>∃a v,x=.ref a/\oX H2 a y (some v)/\Q v H2
def aKC(td ty tv:TE):TS:=fun D σ H=>tv σ H fun v H1=>td σ H1 fun x H2=>ty σ H2 fun y H3=>∃a H4,x=.ref a/\aBe H3 a y v H4/\D.nx σ H4
section
variable{X:Cx}{o i e value:Expr}{pos pos' tpos:Pos}{td ty tv:TE}
theorem aMg(hu:X.A.units+1 < cLine)(ho:PE X o td)(hi:PE X i ty)(hs:aNT i):PE X (.Subscript o i pos) (aKB td ty):=by
 intro P9 s σ H Q I h
 refine aMf PySem.F.slot_dict_getitem.lookup hs (cY (ho P9 s σ H _ I h) fun u s1 ⟨x,H1,I1,rx,q1⟩=>cY (hi P9 s1 σ H1 _ I1 q1) fun iv s2 ⟨y,H2,I2,ry,a,v,ex,g,q2⟩=>?_)
 subst ex
 obtain rfl:u=Value.ref a:=rx
 exact⟨aGG I2 g,aJt hu I2 g ry fun w' s3 I3 rw'=>⟨v,H2,I3,rw',q2⟩⟩
theorem tF(hu:X.A.units+1 < cLine)(ho:PE X o td)(hi:PE X i ty)(hv:PE X value tv)(hs:swapsWith value (some (.Subscript o i pos')) pos.line X.env=pure false) :
  PS X (.Assign [.Subscript o i pos'] value pos) (aKC td ty tv):=by
 intro P9 s σ H D I h
 refine wpAny_Assign_Subscript (cY (hv P9 s σ H _ I h) fun r s1 ⟨v,H1,I1,rv,q1⟩=>cY (ho P9 s1 σ H1 _ I1 q1) fun u s2 ⟨x,H2,I2,rx,q2⟩=>cY (hi P9 s2 σ H2 _ I2 q2) fun iv s3 ⟨y,H3,I3,ry,a,H4,ex,g,q3⟩=>?_) hs
 subst ex
 obtain rfl:u=Value.ref a:=rx
 exact aJu hu I3 g ry rv fun s4 I4=>⟨σ,H4,I4,q3⟩
end
theorem aGH{P:Program}{w:World}{H:Hp}(h:Heap)(hb:sysModules < h.objs.size):bO P w H (h.push { cls:=.type "dict",data:=.dict #[] }) h.objs.size (.dK []):=
 ⟨Nat.zero_le _,beq_eq_false_iff_ne.mpr (Ne.symm (Nat.ne_of_lt hb)),[],.nil,Heap.DictOf.new h⟩
theorem aGI{P:Program}{w:World}{H:Hp}(h:Heap)(hb:sysModules < h.objs.size):bO P w H (h.push { cls:=.type "dict",data:=.dict #[] }) h.objs.size (.dT []):=
 ⟨Nat.zero_le _,beq_eq_false_iff_ne.mpr (Ne.symm (Nat.ne_of_lt hb)),[],.nil,_,#[],0,Heap.get?_push_size _ rfl,⟨rfl,rfl,rfl⟩,rfl,rfl,List.nodup_nil⟩
def aNU:TE:=fun _ H Q=>∀p,H p=none->Q (.ref p) (upd H p (.dK []))
def aNV:TE:=fun _ H Q=>∀p,H p=none->Q (.ref p) (upd H p (.dT []))
section
variable{X:Cx}{pos:Pos}
theorem aKD:PE X (.Dict [] [] pos) aNU:=fun P9 s σ H Q I h=>
 wpAny_Dict_empty ⟨.ref s.heap.objs.size,_,I.laid (a:=s.heap.objs.size) (o:=.dK []) (t':=s.toks) (fun _ _ q=>Heap.get?_push_of_some _ q) (Nat.le_refl _) (aGH s.heap I.big),rfl,h _ (I.hok.fresh (Nat.le_refl _))⟩
theorem aKE:PE X (.Dict [] [] pos) aNV:=fun P9 s σ H Q I h=>
 wpAny_Dict_empty ⟨.ref s.heap.objs.size,_,I.laid (a:=s.heap.objs.size) (o:=.dT []) (t':=s.toks) (fun _ _ q=>Heap.get?_push_of_some _ q) (Nat.le_refl _) (aGI s.heap I.big),rfl,h _ (I.hok.fresh (Nat.le_refl _))⟩
end
structure M1(X:Cx)(o:Expr)(m:Str)(apos:Pos)(e:Expr)(cpos:Pos):Prop where
 base:attributeBase o m X.env (eval o X.env)=eval o X.env
 few:((backTo cpos (starEach [e] X.env)).all (fun x=>!x.1) && (backToKw cpos (keywordEach [] X.env)).all (fun x=>x.1.isSome)
  && decide (([e]:List Expr).length+([]:List Keyword).length+(if ([]:List Keyword).isEmpty then 0 else 1) < 30))=true
 line:(apos.endLine == cpos.line)=true
 trees:backTo cpos (starEach [e] X.env)=[(false,eval e X.env)]
structure M2(X:Cx)(o:Expr)(m:Str)(apos:Pos)(e f:Expr)(cpos:Pos):Prop where
 base:attributeBase o m X.env (eval o X.env)=eval o X.env
 few:((backTo cpos (starEach [e,f] X.env)).all (fun x=>!x.1) && (backToKw cpos (keywordEach [] X.env)).all (fun x=>x.1.isSome)
  && decide (([e,f]:List Expr).length+([]:List Keyword).length+(if ([]:List Keyword).isEmpty then 0 else 1) < 30))=true
 line:(apos.endLine == cpos.line)=true
 trees:backTo cpos (starEach [e,f] X.env)=[(false,eval e X.env),(false,eval f X.env)]
def IsD(H:Hp)(a:Addr):Prop:=(∃kvs,Rd H a (.dK kvs))\/∃kvs,Rd H a (.dT kvs)
theorem aNW{X:Cx}{P9:List (Addr×Obj)}{σ:St}{H:Hp}{s:Shared}{a:Addr}(I:Inv X P9 σ H s)(d:IsD H a) :
  s.TypeIs (.ref a) "dict"/\(∀b,Value.ref a=.ref b->∃ob,s.heap.get? b=some ob/\ob.dict=none)/\(a == sysModules)=false:=by
 rcases d with ⟨kvs,e⟩|⟨kvs,e⟩
 ·obtain⟨_,hd,vs,_,dd⟩:=aEV I.hok e
  refine⟨dd.typeIs,fun b q=>?_,hd⟩
  cases q
  obtain⟨ob,_,_,h1,h2,_⟩:=dd
  exact⟨ob,h1,h2.2.1⟩
 ·obtain⟨_,hd,xs,_,dd⟩:=aGF I.hok e
  refine⟨dd.typeIs,fun b q=>?_,hd⟩
  cases q
  obtain⟨ob,_,_,h1,h2,_⟩:=dd
  exact⟨ob,h1,h2.2.1⟩
section
variable{X:Cx}{P9:List (Addr×Obj)}{σ:St}{H:Hp}{s:Shared}{a:Addr}{y d:V}{u r:Value}{o:Option V}{A:Around}{E:Value->Shared->Prop}
theorem aNX{Q:Value->Shared->Prop}(hu:A.units+1 < cLine)(I:Inv X P9 σ H s)(g:oX H a y o)(ry:RelV y u)(rd:RelV d r)(h:∀w' s',Inv X P9 σ H s'->RelV (o.getD d) w'->Q w' s') :
  wpAny (model X.prog X.w) A (call (.builtin "dict.get") [.ref a,u,r]) Q E s:=by
 rcases g with ⟨kvs,k,e,ey,l⟩|⟨kvs,k,b,e,ey,eb,l⟩
 ·subst ey
  obtain⟨z,hd,vs,rel,dd⟩:=aEV I.hok e
  refine call_meetsIn PySem.F.slot_dict_get dd.typeIs PySem.F.entry_dict_get (PySem.F.args_dict_get_3 _ _ _) (meets_dict_get_default (cZ X.prog X.w) a (aGD ry) hd r) ⟨_,dd.mapOf,h _ _ (I.tok _) ?_⟩
  rw[l]
  exact(rel.val k).getD rd
 ·subst ey
  cases (show u=Value.ref b from ry)
  obtain⟨z,hd,xs,rel,dd⟩:=aGF I.hok e
  refine call_meetsIn PySem.F.slot_dict_get dd.typeIs PySem.F.entry_dict_get (PySem.F.args_dict_get_3 _ _ _) (meetsH_dict_get_default (tupleKind (cZ X.prog X.w)) a b hd r) ⟨tupleKind_room_in1 hu,k,xs,aCN I.hok eb,dd,h _ _ (I.tok _) ?_⟩
  rw[l]
  exact(rel.val k).getD rd
end
def aHS(td ty tx:TE):TE:=fun σ H Q=>td σ H fun x H1=>∃a,x=.ref a/\IsD H1 a/\ty σ H1 fun y H2=>tx σ H2 fun z H3=>∃o,oX H3 a y o/\Q (o.getD z) H3
section
variable{X:Cx}{o e f:Expr}{apos cpos:Pos}{td ty tx:TE}
theorem vS(hu:X.A.units+1 < cLine)(ho:PE X o td)(he:PE X e ty)(hf:PE X f tx)(m:M2 X o "get" apos e f cpos):PE X (.Call (.Attribute o "get" apos) [e,f] [] cpos) (aHS td ty tx):=by
 intro P9 s σ H Q I h
 refine wpAny_Call_method m.base m.few m.line PySem.F.plainAttrs_dict PySem.F.slot_dict_get PySem.F.type_dict_get (cY (ho P9 s σ H _ I h) fun u s1 ⟨x,H1,I1,rx,a,ex,d,q1⟩=>?_)
 subst ex
 obtain rfl:u=Value.ref a:=rx
 obtain⟨t1,t2,_⟩:=aNW I1 d
 refine⟨t1,t2,?_⟩
 rw[m.trees]
 refine Calls.callWith_builtin rfl (Calls.evalArgs_plain (Calls.spliced_cons (cY (he P9 s1 σ H1 _ I1 q1) fun iv s2 ⟨y,H2,I2,ry,q2⟩=>
  Calls.spliced_cons (cY (hf P9 s2 σ H2 _ I2 q2) fun fv s3 ⟨z,H3,I3,rz,ov,g,q3⟩=>Calls.spliced_nil ?_))))
 exact aNX hu I3 g ry rz fun w' s4 I4 rw'=>⟨_,H3,I4,rw',q3⟩
end
section
variable{X:Cx}{P9:List (Addr×Obj)}{σ:St}{H:Hp}{s:Shared}{a:Addr}{kvs:List (Key×V)}{A:Around}{E:Value->Shared->Prop}
end
section
variable{X:Cx}{P9:List (Addr×Obj)}{σ:St}{H:Hp}{s:Shared}{a:Addr}{y:V}{u:Value}{A:Around}{E:Value->Shared->Prop}
end
end L2
namespace Att
open PySem PySem.W PySem.Calls PyProof.Rows
theorem aB6{P:Params}{h:Heap}:∀(ns:List Int) (vs:List Value),WellAll P h vs (ns.map WData.int)->IntsAre vs ns:=by
 intro ns
 induction ns with
 |nil=>
  intro vs w
  rw[List.map_nil] at w
  cases w
  exact .nil
 |cons n ns ih=>
  intro vs w
  rw[List.map_cons] at w
  cases w with
  |cons a b=>
   cases a
   exact .cons _ _ (ih _ b)
theorem aJv{l:OpenLaw}{n:Nat}(hn:l.most=some n){P:Params}{h:Heap}{args:List WData}{vals:List Value}
  (hpre:l.row.toRowW.claim.pre args=true) (hwl:WellAll P h vals args) :
  ∃a vs ns,vals=[Value.ref a]/\args=[WData.list (ns.map WData.int)]/\h.get? a=some { cls:=.type "list",data:=.seq vs.toArray }/\IntsAre vs ns/\ns.length<=n:=by
 have hsh:WShape.hasAll [] args [.list .int]=true:=(pre_splitW hpre).1
 have hc:l.pre.holds [] { args:=args } = true:=(pre_splitW hpre).2
 obtain⟨d,r,rfl,h1,h2⟩:=hasAllW_cons hsh
 obtain rfl:=hasAllW_nil h2
 obtain⟨xs,rfl,h3⟩:=hasW_list h1
 obtain⟨ns,rfl⟩:=items_int h3
 have hlen:ns.length<=n:=by
  unfold OpenLaw.pre at hc
  have h4:(WTm.not (.lt (.lit (.int (n:Int))) (.len (.arg 0)))).holds [] { args:=[.list (ns.map .int)] } = true:=by
   have h4:=(holds_andW hc).1
   rw[hn] at h4
   exact h4
  have h5:=condW_of h4 (w_not (w_lt w_lit (w_len_list (w_arg rfl))))
  rw[List.length_map] at h5
  refine Nat.le_of_not_lt fun q=>?_
  have q':(n:Int) < ((ns.length:Nat):Int):=by omega
  first
   |(rw[decide_eq_true q'] at h5;exact absurd h5 (by decide))
   |(simp at h5;omega)
 cases hwl with
 |cons w1 w2=>
  cases w2
  cases w1 with
  |list ho hall=>exact⟨_,_,ns,rfl,rfl,ho,aB6 ns _ hall,hlen⟩
theorem aJw(l:OpenLaw)(args:List WData):l.row.toRowW.claim.post args (.bool true) args=true:=
 postW_of (r:=l.row.toRowW) (X:=(true == true))
  (show WShape.has [] (.bool true) .bool=true by first|rfl|decide|simp[WShape.has,WShape.arms,WShape.armsAll])
  (show(WTm.eq .res (.lit (.bool true))).value [] { args:=args,res:=some (.bool true),after:=args } = some (.bool (true == true)) from w_eq_bool (w_res rfl) w_lit) rfl
theorem aGJ{l:OpenLaw}{n:Nat}{q:Program}{loose:List Str}{XP:(Str->Option Value)->Heap->Prop}{YP:World->Heap->Prop}{d:DefRec}
  (hn:l.most=some n) (hdf:d.params.defaults=[])
  (call:∀(w:World) (s₀ s₁:Shared) (mg mb:Str->Option Value) (fa:Addr) (o:Obj) (pm cd doc:Value) (a:Addr) (vs:List Value) (ns:List Int),
   Ground q loose [] XP w s₀ mg mb s₁.heap->YP w s₁.heap->
   s₁.heap.get? fa=some o->o.data=.func (docDef d.name d.params d.body d.scope pm cd doc)->s₁.heap.CodeRec cd d.name->mg d.name=some (.ref fa)->
   s₁.heap.get? a=some { cls:=.type "list",data:=.seq vs.toArray }->IntsAre vs ns->ns.length<=n->s₁.gens = #[]->
   codeAny (model l.prog w) callerA (.call (.ref fa) ⟨[.ref a],[]⟩) (fun r s'=>r=.ok (.ret (.bool true))/\OldK s₁.heap s'.heap/\s'.os=s₁.os/\AllBare s'.gens) s₁) :
  WalkO q loose XP YP l.row.toRowW d [] (fun f vs=>PySem.call f vs):=by
 intro w s₀ s₁ mg mb G Y fa o pm cd doc dV kV ho hd hcd hD hmg hg args vals as hpre hlay hrd hwl hlo
 obtain rfl:dV=.none:=Dflts.none hD hdf
 obtain rfl:kV=.none:=Dflts.noKw hD
 obtain⟨a,vs,ns,rfl,rfl,hobj,hints,hlen⟩:=aJv hn hpre hwl
 refine enter_call (codeAny_mono (call w s₀ s₁ mg mb fa o pm cd doc a vs ns G Y ho (fd_plain hd) hcd hmg hobj hints hlen hg) fun r s' hq=>?_)
 obtain⟨rfl,h2,h3,h4⟩:=hq
 exact⟨.inl ⟨.bool true,.bool true,[],rfl,fun _=>rfl,.bool true,aJw l _,fun _=>⟨List.Pairwise.nil,fun _ hm=>(nomatch hm)⟩⟩,h2,h3,h4⟩
section
variable{prog:Program}{w:World}{A:Around}{E:Value->Shared->Prop}{s:Shared}{K:Frag}
end
end Att
namespace L2
open PySem PySem.Spec PyProof.Rows
theorem aBf:∀{vs:List Value}{ns:List Int},IntsAre vs ns->Vals (ns.map V.int) vs
 |_,_,.nil=>.nil
 |_,_,.cons n t h=>.cons ⟨t,rfl⟩ (aBf h)
def aO3(H:Hp):Prop:=∀b,H b=none\/∃o xs,H b=some (.frz o (.lst xs))
theorem aO4{P:Program}{w:World}{K:W.Frag}{mg mb:Str->Option Value}{CX:CXT}{k:Nat}{fa a:Addr}{fd:FuncData}{x:Str}{sp:Sp}{s₁:Shared}{vs:List Value}{ns:List Int}
  (KX:K.In s₁.heap) (hns:s₁.heap.Ns mainGlobals mg) (hb:s₁.heap.Ns builtinsNs mb) (hbb:∀x:Str,x≠"__name__"->mb x=bootBuiltins x) (hlim:s₁.heap.NoLimit) (hbm:∃bm o,mg "__builtins__" = some (.ref bm)/\bm≠builtinsNs/\s₁.heap.get? bm=some o/\o.cls=.type "module"/\o.dict=some builtinsNs/\o.data=.plain) (hg:s₁.gens = #[])
  (ha:s₁.heap.get? a=some { cls:=.type "list",data:=.seq vs.toArray }) (hi:IntsAre vs ns) (hl:ns.length<=sizeLine) (hr:fD k callerA)
  (F:∀base:Heap,K.In base->base.Ns mainGlobals mg->bL P w K mg base CX k fa fd [x] sp) (hbind:∀(s:Shared) (u:Value),BindsTo s fd ⟨[u],[]⟩ [(x,u)])
  (hsp:∀H:Hp,aO3 H->bR K H a (ns.map V.int)->sp [.ref a] H (fun v _=>v=.bl true) fun _ _ _=>False)
  (hCX:∀H e s',CX [] H s₁ (fun _ _ _=>False) e s'->False) :
  codeAny (model P w) callerA (.call (.ref fa) ⟨[.ref a],[]⟩) (fun r s'=>r=.ok (.ret (.bool true))/\OldK s₁.heap s'.heap/\s'.os=s₁.os/\AllBare s'.gens) s₁:=by
 have rv:=aBf hi
 have lenV:=hi.length
 have core:∀H:Hp,aO3 H->bR K H a (ns.map V.int)->vB P w H s₁.heap->(∀b,H b≠none->b=a)->(H a≠none->K.lookup a=none)->
   codeAny (model P w) callerA (.call (.ref fa) ⟨[.ref a],[]⟩) (fun r s'=>r=.ok (.ret (.bool true))/\OldK s₁.heap s'.heap/\s'.os=s₁.os/\AllBare s'.gens) s₁:=by
  intro H hO hS hok hA hK
  have base_of:∀{b:Addr} {o:Obj},s₁.heap.get? b=some o->H b=none->(yB s₁.heap H).get? b=some o:=fun e n=>aGu e n
  have noA:∀{b:Addr} {o:Obj} {es:Array DictEntry} {ep:Nat},s₁.heap.get? b=some o->o.data=.dict es ep->H b=none:=fun {b o es ep} e d=>by
   cases q:H b with
   |none=>rfl
   |some u=>
    have e':b=a:=hA b (by rw[q];simp)
    subst e'
    rw[ha] at e;cases e
    have d':Data.seq vs.toArray _=Data.dict es ep:=d
    cases d'
  have nsK:∀{b:Addr} {m:Str->Option Value},s₁.heap.Ns b m->(yB s₁.heap H).Ns b m:=fun {b m} ⟨o,es,ep,e,d,r⟩=>⟨o,es,ep,base_of e (noA e d),d,r⟩
  have hKb:K.In (yB s₁.heap H):=fun b o e=>base_of (KX b o e) (by
   cases q:H b with
   |none=>rfl
   |some u=>
    have e':b=a:=hA b (by rw[q];simp)
    subst e'
    rw[hK (by rw[q];simp)] at e;cases e)
  have hbm':∃bm o,mg "__builtins__" = some (.ref bm)/\bm≠builtinsNs/\(yB s₁.heap H).get? bm=some o/\o.cls=.type "module"/\o.dict=some builtinsNs/\o.data=.plain:=by
   obtain⟨bm,ob,b1,b2,b3,b4,b5,b6⟩:=hbm
   refine⟨bm,ob,b1,b2,base_of b3 ?_,b4,b5,b6⟩
   cases q:H bm with
   |none=>rfl
   |some u=>
    have e':bm=a:=hA bm (by rw[q];simp)
    rw[e',ha] at b3
    cases b3
    exact absurd (show Value.type "list" = Value.type "module" from b4) (by decide)
  have hM:Mod K mg (yB s₁.heap H):=⟨hKb,nsK hns,⟨mb,nsK hb,hbb⟩,(let ⟨mc,h1,h2⟩:=hlim;⟨mc,nsK h1,h2⟩),hbm'⟩
  have e0:aDW P w K mg (yB s₁.heap H) callerA [] s₁ H:=⟨rfl,hM,fun b o e=>aIx e,Nat.le_of_eq (aEL _ _),trivial,fun b hb=>absurd (show b∈([]:List Addr) from hb) (by simp),hok,.of_eq hg⟩
  refine codeAny_mono ((F _ hKb (nsK hns)).run callerA [] s₁ H ⟨[.ref a],[]⟩ [.ref a] [.ref a] _ _ hr e0 (hbind s₁ (.ref a)) (.cons rfl .nil) (hsp H hO hS)) fun r s' h=>?_
  cases r with
  |error e=>exact(hCX H e s' h).elim
  |ok fl=>
   cases fl with
   |next=>exact False.elim h
   |brk=>exact False.elim h
   |cont=>exact False.elim h
   |ret u=>
    obtain⟨v,H',os,bare,un,hok',r',q⟩:=h
    have q':v=.bl true:=q
    subst q'
    obtain rfl:u=Value.bool true:=r'
    refine⟨rfl,OldK.of_keep fun b o e=>?_,os,bare⟩
    cases q:H b with
    |none=>exact un.keep b o e q (by intro z;exact absurd (show b∈([]:List Addr) from z) (by simp)) (by simp)
    |some u=>
     rcases hO b with z|⟨ob,xs,z⟩
     ·rw[q] at z;cases z
     ·have z2:=un.frzs b ob _ z
      obtain⟨e1,_⟩:=hok b _ z
      obtain⟨e2,_⟩:=hok' b _ z2
      rw[e] at e1;cases e1
      exact e2
 cases hk:K.lookup a with
 |some o=>
  have e:=KX a o hk
  rw[ha] at e
  cases e
  refine core (fun _=>none) (fun _=>.inl rfl) (.inr ⟨_,vs.toArray,_,hk,rfl,rfl,rfl,by rw[List.size_toArray,lenV];exact hl,by simpa using rv⟩) (fun b u z=>by have z':(none:Option HO)=some u:=z;cases z') (fun b z=>absurd rfl z) fun z=>absurd rfl z
 |none=>
  refine core (fun b=>if b=a then some (.frz { cls:=.type "list",data:=.seq vs.toArray } (.lst (ns.map V.int))) else none) (fun b=>?_) (.inl (.inr ⟨{ cls:=.type "list",data:=.seq vs.toArray },if_pos rfl⟩)) (fun b u z=>?_) (fun b z=>?_) fun _=>hk
  ·by_cases hb:b=a
   ·exact .inr ⟨_,_,if_pos hb⟩
   ·exact .inl (if_neg hb)
  ·by_cases hb:b=a
   ·have z':=(if_pos hb).symm.trans z
    cases z'
    subst hb
    exact⟨ha,by rw[List.length_map];exact hl,vs,_,rv,ha⟩
   ·have z':=(if_neg hb).symm.trans z
    cases z'
  ·by_cases hb:b=a
   ·exact hb
   ·exact absurd (if_neg hb) z
end L2
namespace L2
open PySem PySem.Spec PyProof.Rows
end L2
namespace L2
open PySem PySem.Spec PyProof.Rows
def inClass(s:Stmt)(j:Nat):Stmt:=match s with
 |.ClassDef _ _ _ body _ _ _ _ _ _ _=>body.getD j (.Pass ⟨0,0,0,0⟩)
 |_=>.Pass ⟨0,0,0,0⟩
def aX(s:Stmt):Arguments:=match s with
 |.FunctionDef _ a _ _ _ _ _ _ _ _=>a
 |_=>{ posonlyargs:=[],args:=[],vararg:=none,kwonlyargs:=[],kw_defaults:=[],kwarg:=none,defaults:=[] }
def aU(s:Stmt):List Stmt:=match s with
 |.FunctionDef _ _ b _ _ _ _ _ _ _=>b
 |_=>[]
def aB(s:Stmt):Scope:=match s with
 |.FunctionDef _ _ _ _ _ _ sc _ _ _=>sc
 |_=>{ kind:=.function,names:=[],isGenerator:=false,isCoroutine:=false }
abbrev gF:CXT:=fun _ _ _ _ _ _=>False
abbrev E0:XK:=fun _ _ _=>False
theorem aQ{X:Cx}:Passes gF X E0:=fun _ _ _ _ _ _ _ h=>h.elim
structure iL(K:W.Frag)(x qual:Str)(st:Stmt)(f:Addr)(fd:FuncData):Prop where
 ex:∃(oc:Value) (od:Option Addr) (kV doc pm:Value) (an:Option Addr) (cdv ct:Value) (osl:Array (Option Value)),
  fd=W.fnOf x qual (aX st) (aU st) (aB st) .none kV doc pm an cdv ct/\K.lookup f=some ⟨oc,od,.func fd,osl⟩/\W.codeIn K cdv qual=true
 kp:W.keepIn K (.ref f)=true
section
variable{P:Program}{w:World}{K:W.Frag}{mg:Str->Option Value}{base:Heap}
theorem iL.ok{x qual:Str}{st:Stmt}{f:Addr}{fd:FuncData}{N ps:List Str}{k:Nat}{sp:Sp}(F:iL K x qual st f fd)(S:aW N ps (aB st))(len:∀vs H Q E,sp vs H Q E->vs.length=ps.length)
  (hbody:∀(cdv:Value) (A:Around) (outer:List Env) (s:Shared) (H:Hp) (vs:List V) (Q:VK) (E:XK),fD k (A.deeper (envOfC qual (aB st) s.heap.objs.size f cdv))->sp vs H Q E->
   ∃t,PSs (aHO gF P w K mg base N qual (aB st) f cdv A outer s H E).nox (aU st) t/\t { nx:=fun _ H'=>Q .non H',rt:=Q } (start N vs) H):bL P w K mg base gF (k+1) f fd ps sp:=by
 obtain⟨oc,od,kV,doc,pm,an,cdv,ct,osl,rfl,lk,hcd⟩:=F.ex
 refine aM8 lk hcd S len fun A outer s H vs Q E hr hsp=>?_
 obtain⟨t,h,q⟩:=hbody cdv A outer s H vs Q E hr hsp
 exact⟨t,h.nox,q⟩
theorem iL.binds{x qual:Str}{st:Stmt}{f:Addr}{fd:FuncData}{ps:List Str}(F:iL K x qual st f fd)
  (h:∀(kV doc pm:Value) (an:Option Addr) (cdv ct:Value) (us:List Value),us.length=ps.length->bindArgs (W.fnOf x qual (aX st) (aU st) (aB st) .none kV doc pm an cdv ct) ⟨us,[]⟩=pure (ps.zip us)):Binds K fd ps []:=by
 obtain⟨oc,od,kV,doc,pm,an,cdv,ct,osl,rfl,lk,hcd⟩:=F.ex
 exact .all (h kV doc pm an cdv ct)
theorem bA{x qual:Str}{st:Stmt}{f:Addr}{oc:Value}{od an:Option Addr}{osl:Array (Option Value)}{kV doc pm cdv ct:Value}(l:K.lookup f=some ⟨oc,od,.func (W.fnOf x qual (aX st) (aU st) (aB st) .none kV doc pm an cdv ct),osl⟩)
  (c:W.codeIn K cdv qual=true) (k:W.keepIn K (.ref f)=true):iL K x qual st f (W.fnOf x qual (aX st) (aU st) (aB st) .none kV doc pm an cdv ct):=⟨⟨oc,od,kV,doc,pm,an,cdv,ct,osl,rfl,l,c⟩,k⟩
end
section
variable{X:Cx}
end
theorem aMh{A B:Prop}(h:B):if false=true then A else B:=by
 rw[if_neg Bool.false_ne_true]
 exact h
theorem aNY{A B:Prop}(h:A):if true=true then A else B:=by
 rw[if_pos rfl]
 exact h
def aI(H H':Hp):Prop:=∀b o,H b=some o->H' b=some o
theorem aI.refl(H:Hp):aI H H:=fun _ _ h=>h
theorem aI.trans{H H1 H2:Hp}(a:aI H H1)(b:aI H1 H2):aI H H2:=fun c o h=>b c o (a c o h)
theorem aI.free{H H':Hp}(e:aI H H'){l:Addr}(h:H' l=Option.none):H l=Option.none:=by
 cases q:H l with
 |none=>rfl
 |some o=>
  rw[e l o q] at h
  cases h
theorem aI.seq{K:W.Frag}{H H':Hp}{a:Addr}{xs:List V}(e:aI H H')(h:bR K H a xs):bR K H' a xs:=by
 rcases h with (h|⟨o,h⟩)|h
 ·exact .inl (.inl (e _ _ h))
 ·exact .inl (.inr ⟨o,e _ _ h⟩)
 ·exact .inr h
section
variable{κ:Type}[DecidableEq κ]
end
end L2
namespace L2
open PySem PySem.Spec PyProof.Rows
section
variable{prog:Program}{w:World}{A:Around}{R:Result->Shared->Prop}{s:Shared}
theorem aGK{elt target iter:Expr}{ifs:List Expr}{scope:Scope}{pos:Pos}{it acc:Value}{env:Env}(I:Nat->Shared->Prop)
  (turn:∀n s,I n s->wpAny (model prog w) A (pyNext it) (fun r s₁=>match r with
   |none=>R (.ok .next) s₁
   |some v=>wpAny (model prog w) A (letOwnedTupleGo target it v) (fun _ s₁'=>wpAny (model prog w) A (assign target env v) (fun _ s₂=>
     wpAny (model prog w) A (forIn ifs true fun c r=>if r=true then do let ok <-isTrue c env (eval c env);pure (ForInStep.yield ok) else pure (ForInStep.yield r)) (fun ok s₃=>
      if ok=true then wpAny (model prog w) A (eval elt env) (fun x s₄=>
       wpAny (model prog w) A (call (.builtin "list.append") [acc,x]) (fun _ s₅=>∃m,m < n/\I m s₅) (notedBy (model prog w) A env fun e s'=>R (.error e) s') s₄) (notedBy (model prog w) A env fun e s'=>R (.error e) s') s₃
      else ∃m,m < n/\I m s₃) (notedBy (model prog w) A env fun e s'=>R (.error e) s') s₂) (notedBy (model prog w) A env fun e s'=>R (.error e) s') s₁') (notedBy (model prog w) A env fun e s'=>R (.error e) s') s₁)
   (notedBy (model prog w) A env fun e s'=>R (.error e) s') s)
  (n:Nat) (h:I n s) :
  codeAny (model prog w) A (.compLoop (.ListComp elt [⟨target,iter,ifs,0⟩] scope pos) 0 it acc env) R s:=by
 refine codeAny_loop rfl I (fun n s hI=>?_) n h
 show wpAny _ A ((compTurn (.ListComp elt [⟨target,iter,ifs,0⟩] scope pos) 0 it acc env).onRaise (fun x=>do noteFrame x env;theTreesLotGoes x)) _ _ s
 refine wpAny_noted ?_
 rw[compTurn_list]
 refine wpAny_bind (wpAny_standAt (wpAny_bind (wpAny_mono (turn n s hI) (fun r s₁ h₁=>?_) fun _ _ h'=>h')))
 cases r with
 |none=>exact wpAny_pure h₁
 |some v=>
  refine wpAny_bind (wpAny_mono h₁ (fun _ s₁' h₁'=>?_) fun _ _ h'=>h')
  refine wpAny_bind (wpAny_mono h₁' (fun _ s₂ h₂=>wpAny_bind (wpAny_mono h₂ (fun ok s₃ h₃=>?_) fun _ _ h'=>h')) fun _ _ h'=>h')
  cases ok with
  |false=>exact wpAny_pure ⟨rfl,h₃⟩
  |true=>
   exact wpAny_bind (wpAny_bind (wpAny_mono h₃ (fun x s₄ h₄=>wpAny_bind (wpAny_mono h₄ (fun _ s₅ h₅=>wpAny_pure (wpAny_pure ⟨rfl,h₅⟩)) fun _ _ h'=>h')) fun _ _ h'=>h'))
end
def nF(env:Env):List (Str×NameKind)->List (Str×Addr)->List (Str×Addr)
 |[],cs=>cs
 |(n,k)::r,cs=>nF env r (if (k == NameKind.free)=true then (n,(env.cells.lookup n).getD 0)::cs else cs)
theorem y7{scope:Scope}{env:Env}(h:∀x∈scope.names,x.2=.free->∃c,env.cells.lookup x.1=some c):closureFor scope env=pure (nF env scope.names []):=by
 simp only[closureFor]
 generalize ([]:List (Str×Addr))=cs
 revert h cs
 generalize scope.names=names
 intro h
 induction names with
 |nil=>intro cs;rfl
 |cons x r ih=>
  intro cs
  obtain⟨n,k⟩:=x
  have ih:=ih fun y hy=>h y (List.mem_cons_of_mem _ hy)
  rw[List.forIn_cons]
  by_cases hk:k=.free
  ·subst hk
   obtain⟨c,hc⟩:=h (n,.free) List.mem_cons_self rfl
   have hc':env.cells.lookup n=some c:=hc
   have e:nF env ((n,NameKind.free)::r) cs=nF env r ((n,c)::cs):=by
    show nF env r (if (NameKind.free == NameKind.free)=true then (n,(env.cells.lookup n).getD 0)::cs else cs)=_
    rw[hc']
    rfl
   rw[e,<-ih]
   simp only[cellOf,hc',beq_self_eq_true,if_true]
   rfl
  ·have hb:(k == NameKind.free)=false:=by simpa using hk
   have e:nF env ((n,k)::r) cs=nF env r cs:=by
    show nF env r (if (k == NameKind.free)=true then (n,(env.cells.lookup n).getD 0)::cs else cs)=_
    rw[hb]
    rfl
   rw[e,<-ih]
   simp only[hb,Bool.false_eq_true,if_false]
   rfl
theorem aAb{env:Env}{x:Str}{c:Addr}:∀(names:List (Str×NameKind)) (cs:List (Str×Addr)),(∀y∈names,y.2=.free->∃c,env.cells.lookup y.1=some c)->(x,c)∈nF env names cs->(x,c)∈cs\/env.cells.lookup x=some c
 |[],cs,_,h=>.inl h
 |(n,k)::r,cs,hf,h=>by
  have h':(x,c)∈nF env r (if (k == NameKind.free)=true then (n,(env.cells.lookup n).getD 0)::cs else cs):=h
  rcases aAb r _ (fun y hy=>hf y (List.mem_cons_of_mem _ hy)) h' with q|q
  ·by_cases hk:(k == NameKind.free)=true
   ·rw[if_pos hk] at q
    rcases List.mem_cons.mp q with e|q
    ·cases e
     obtain⟨c,hc⟩:=hf (x,k) List.mem_cons_self (by simpa using hk)
     have hc':env.cells.lookup x=some c:=hc
     rw[hc']
     exact .inr rfl
    ·exact .inl q
   ·rw[if_neg hk] at q
    exact .inl q
  ·exact .inr q
theorem aGL{env:Env}{p:Str×Addr}:∀(names:List (Str×NameKind)) (cs:List (Str×Addr)),p∈cs->p∈nF env names cs
 |[],_,h=>h
 |(n,k)::r,cs,h=>by
  show p∈nF env r (if (k == NameKind.free)=true then (n,(env.cells.lookup n).getD 0)::cs else cs)
  refine aGL r _ ?_
  split
  ·exact List.mem_cons_of_mem _ h
  ·exact h
theorem aGM{env:Env}{x:Str}{c:Addr}:∀(names:List (Str×NameKind)) (cs:List (Str×Addr)),(x,NameKind.free)∈names->env.cells.lookup x=some c->(x,c)∈nF env names cs
 |[],_,h,_=>by cases h
 |(n,k)::r,cs,h,hc=>by
  show(x,c)∈nF env r (if (k == NameKind.free)=true then (n,(env.cells.lookup n).getD 0)::cs else cs)
  rcases List.mem_cons.mp h with e|h
  ·cases e
   refine aGL r _ ?_
   rw[if_pos (by simp),hc]
   exact List.mem_cons_self
  ·exact aGM r _ h hc
theorem yK{x:Str}{c:Addr}:∀{l:List (Str×Addr)},(x,c)∈l->(∀d,(x,d)∈l->d=c)->l.lookup x=some c
 |[],h,_=>by cases h
 |(n,d)::r,h,u=>by
  rw[List.lookup_cons]
  by_cases e:x=n
  ·subst e
   rw[beq_self_eq_true]
   rw[u d List.mem_cons_self]
  ·rw[show(x == n)=false by simpa using e]
   rcases List.mem_cons.mp h with q|q
   ·cases q
    exact absurd rfl e
   ·exact yK q fun d hd=>u d (List.mem_cons_of_mem _ hd)
theorem vT{env:Env}{names:List (Str×NameKind)}{x:Str}{c:Addr}(hf:∀y∈names,y.2=.free->∃c,env.cells.lookup y.1=some c)(hx:(x,NameKind.free)∈names)(hc:env.cells.lookup x=some c):(nF env names []).lookup x=some c:=
 yK (aGM names [] hx hc) fun d hd=>by
  rcases aAb names [] hf hd with q|q
  ·cases q
  ·rw[hc] at q
   exact(Option.some.inj q).symm
theorem pY{env:Env}{names:List (Str×NameKind)}{x:Str}{c:Addr}(hf:∀y∈names,y.2=.free->∃c,env.cells.lookup y.1=some c)(h:(nF env names []).lookup x=some c):env.cells.lookup x=some c:=by
 rcases aAb names [] hf (PySem.mem_of_lookup h) with q|q
 ·cases q
 ·exact q
end L2
namespace L2
open PySem PySem.Spec PyProof.Rows
def cxC(X:Cx)(scope:Scope)(N:List Str)(fp:List Addr)(C:Addr)(s:Shared)(H:Hp):Cx where
 prog:=X.prog
 w:=X.w
 K:=X.K
 mg:=X.mg
 base:=X.base
 A:=X.A
 N:=N
 s₀:=s
 H₀:=H
 env:=compEnvC scope (nF X.env scope.names []) C X.env
 outer:=X.stack
 stack:=X.stack
 ex:=fp
 fn:=fun _=>false
 calm:=X.calm
 pn:=[]
 xe:=fun _ _=>False
theorem vB.aKF{P:Program}{w:World}{H:Hp}{h:Heap}{a:Addr}{o:HO}(x:vB P w H h)(hn:H a=none)(new:bO P w (upd H a o) h a o):vB P w (upd H a o) h:=fun b u e=>by
 by_cases hb:b=a
 ·subst hb;rw[aH] at e;cases e;exact new
 ·rw[aR hb] at e
  exact(x b u e).aB5 (fun c v _ q=>q) (fun c q=>by rw[aR (bF q hn)];exact q) fun c xs _ q=>by rw[aR (bF q hn)];exact q
theorem Un.aKF{fs ex:List Addr}{H H1:Hp}{h h1:Heap}{a:Addr}{o:HO}(u:Un fs ex H H1 h h1)(hs:h.objs.size<=a)(hn:H1 a=none):Un fs ex H (upd H1 a o) h h1 where
 keep:=u.keep
 slot:=u.slot
 free:=fun b ob q n hx=>by rw[aR (Nat.ne_of_lt (Nat.lt_of_lt_of_le (Heap.lt_size q) hs))];exact u.free b ob q n hx
 there:=u.there
 vL:=fun b xs q=>by rw[aR (bF (u.vL b xs q) hn)];exact u.vL b xs q
 frzs:=fun b ob xs q=>by rw[aR (bF (u.frzs b ob xs q) hn)];exact u.frzs b ob xs q
 tbls:=fun b ps q=>by
  obtain⟨m,e⟩:=u.tbls b ps q
  exact⟨m,by rw[aR (bF e hn)];exact e⟩
theorem m3{env:Env}:∀{names:List (Str×NameKind)}{x:Str},names.lookup x=some .free->
  (names.map fun(n,k)=>if (k == NameKind.free && env.scope.kind == .function && env.kindOf n == some .cell) then (n,NameKind.cell) else (n,k)).lookup x=some .cell\/
  (names.map fun(n,k)=>if (k == NameKind.free && env.scope.kind == .function && env.kindOf n == some .cell) then (n,NameKind.cell) else (n,k)).lookup x=some .free
 |[],_,h=>by simp at h
 |(n,k)::r,x,h=>by
  have ih:=@m3 env r x
  show List.lookup x ((if (k == NameKind.free && env.scope.kind == .function && env.kindOf n == some .cell)=true then (n,NameKind.cell) else (n,k))::_)=_\/List.lookup x ((if (k == NameKind.free && env.scope.kind == .function && env.kindOf n == some .cell)=true then (n,NameKind.cell) else (n,k))::_)=_
  cases hx:x == n with
  |true=>
   simp only[List.lookup_cons,hx] at h
   cases h
   by_cases hc:(NameKind.free == NameKind.free && env.scope.kind == .function && env.kindOf n == some .cell)=true
   ·rw[if_pos hc];simp only[List.lookup_cons,hx];exact .inl trivial
   ·rw[if_neg hc];simp only[List.lookup_cons,hx];exact .inr trivial
  |false=>
   simp only[List.lookup_cons,hx] at h
   by_cases hc:(k == NameKind.free && env.scope.kind == .function && env.kindOf n == some .cell)=true
   ·rw[if_pos hc];simp only[List.lookup_cons,hx];exact ih h
   ·rw[if_neg hc];simp only[List.lookup_cons,hx];exact ih h
theorem vU{env:Env}:∀{names:List (Str×NameKind)}{x:Str},(∀y∈names,y.2≠.cell)->
  ((names.map fun(n,k)=>if (k == NameKind.free && env.scope.kind == .function && env.kindOf n == some .cell) then (n,NameKind.cell) else (n,k)).lookup x=some .cell\/
  (names.map fun(n,k)=>if (k == NameKind.free && env.scope.kind == .function && env.kindOf n == some .cell) then (n,NameKind.cell) else (n,k)).lookup x=some .free)->(x,NameKind.free)∈names
 |[],_,_,h=>by simp at h
 |(n,k)::r,x,hc,h=>by
  have ih:=@vU env r x fun y hy=>hc y (List.mem_cons_of_mem _ hy)
  have h':List.lookup x ((if (k == NameKind.free && env.scope.kind == .function && env.kindOf n == some .cell)=true then (n,NameKind.cell) else (n,k))::_)=_\/List.lookup x ((if (k == NameKind.free && env.scope.kind == .function && env.kindOf n == some .cell)=true then (n,NameKind.cell) else (n,k))::_)=_:=h
  cases hx:x == n with
  |true=>
   have e:x=n:=by simpa using hx
   subst e
   by_cases hq:(k == NameKind.free && env.scope.kind == .function && env.kindOf x == some .cell)=true
   ·have hk:(k == NameKind.free)=true:=by
     rw[Bool.and_assoc] at hq
     exact(Bool.and_eq_true _ _▸hq).1
    rw[show k=NameKind.free by simpa using hk]
    exact List.mem_cons_self
   ·rw[if_neg hq] at h'
    simp only[List.lookup_cons,hx] at h'
    rcases h' with z|z
    ·cases z
     exact absurd rfl (hc _ List.mem_cons_self)
    ·cases z
     exact List.mem_cons_self
  |false=>
   by_cases hq:(k == NameKind.free && env.scope.kind == .function && env.kindOf n == some .cell)=true
   ·rw[if_pos hq] at h';simp only[List.lookup_cons,hx] at h';exact List.mem_cons_of_mem _ (ih h')
   ·rw[if_neg hq] at h';simp only[List.lookup_cons,hx] at h';exact List.mem_cons_of_mem _ (ih h')
structure eR(X:Cx)(scope:Scope)(N:List Str)(k:Nat)(idx:List Nat):Prop where
 kind:scope.kind=.function
 nocell:∀y∈scope.names,y.2≠.cell
 names:∀y∈scope.names,y.2=.local->scope.names.lookup y.1=some .local
 free:∀y∈scope.names,y.2=.free->X.env.kindOf y.1=some .cell\/X.env.kindOf y.1=some .free
 nd:N.Nodup
 len:N.length=k+idx.length
 cap:∀(i:Nat) (x:Str),(N.drop k)[i]?=some x->∃j:Nat,idx[i]?=some j/\X.N[j]?=some x/\scope.names.lookup x=some .free
def cσ(k:Nat)(idx:List Nat)(σ:St):St:=List.replicate k none++idx.map fun j=>(σ[j]?).join
section
variable{X:Cx}{P9:List (Addr×Obj)}{σ:St}{H:Hp}{s:Shared}{scope:Scope}{N:List Str}{k:Nat}{idx:List Nat}{fp:List Addr}
theorem eR.cells(S:eR X scope N k idx)(I:Inv X P9 σ H s):∀y∈scope.names,y.2=.free->∃c,X.env.cells.lookup y.1=some c:=fun y hy h=>I.ok.has y.1 (S.free y hy h)
theorem aJx{C D:Addr}{h₁:Heap}{tk:Nat}{oD:Obj}{m:Str->Option Value}(S:eR X scope N k idx)(I:Inv X P9 σ H s)(hf:∀b∈fp,zX X P9 H b)(ho:∀b∈fp,∃o,s.heap.get? b=some o)
  (hC:s.heap.objs.size<=C) (hD:s.heap.objs.size<=D) (hDC:D≠C) (hn:h₁.Ns C m) (old:∀b o,s.heap.get? b=some o->h₁.get? b=some o) (eD:h₁.get? D=some oD) (dD:∀v,oD.data≠.cell v) :
  Inv (cxC X scope N fp C s H) [(D,oD)] (cσ k idx σ) H { s with heap:=h₁,toks:=tk }:=by
 have hcl:=S.cells I
 have nst:∀b,s.heap.objs.size<=b->b∉frs X.stack:=fun b hb z=>by
  obtain⟨_,o,e,_⟩:=I.stack.mem z
  exact absurd (Nat.lt_of_lt_of_le (Heap.lt_size e) hb) (Nat.lt_irrefl _)
 refine⟨⟨I.ok.mod,S.kind,I.ok.glob,I.ok.blt,hC,fun x y c h1 h2=>I.ok.inj x y c (pY hcl h1) (pY hcl h2),fun x hx=>?_,fun x c z _=>(by cases z),I.ok.hd,I.ok.frames,.inl rfl,fun b hb=>⟨?_,fun x c e=>(hf b hb).2.2.2.2.1 x c (pY hcl e)⟩,I.bs,
  Nat.le_trans I.ok.bsz I.sz,fun b o e hb=>?_,fun b hb z=>?_,I.stack,I.aFf⟩,rfl,I.bare,Un.kept old,⟨m,hn,fun i x v h1 h2 h3=>?_⟩,fun x c e=>?_,I.hok.fresh hC,fun x c e=>I.freeC x c (pY hcl e),fun p hp=>?_,I.hok.kept old,?_⟩
 ·obtain⟨c,e⟩:=hcl _ (vU S.nocell hx) rfl
  exact⟨c,vT hcl (vU S.nocell hx) e⟩
 ·obtain⟨o,e⟩:=ho b hb
  exact Nat.ne_of_lt (Nat.lt_of_lt_of_le (Heap.lt_size e) hC)
 ·rcases(hf b hb).2.2.2.1 with z|z
  ·exact I.ok.noex b o e z
  ·exact absurd (Nat.lt_of_lt_of_le (Heap.lt_size (I.ok.bs b o e).1) z) (Nat.lt_irrefl _)
 ·rcases List.mem_cons.mp (I.aCE b z) with q|q
  ·exact(hf b hb).2.1 q
  ·exact(hf b hb).2.2.1 q
 ·have hi:k<=i:=by
   by_cases hi:i < k
   ·unfold cσ at h2
    rw[List.getElem?_append_left (by simpa using hi),List.getElem?_replicate,if_pos hi] at h2
    cases h2
   ·omega
  obtain⟨j,rfl⟩ : ∃j,i=k+j:=⟨i - k,by omega⟩
  have h1':N[k+j]?=some x:=h1
  obtain⟨l,e1,e2,e3⟩:=S.cap j x (by rw[List.getElem?_drop];exact h1')
  have h2':σ[l]?=some (some v):=by
   unfold cσ at h2
   rw[List.getElem?_append_right (by simp),List.getElem?_map] at h2
   simp only[List.length_replicate,Nat.add_sub_cancel_left,e1,Option.map_some,Option.some.injEq] at h2
   cases q:σ[l]? with
   |none=>rw[q] at h2;cases h2
   |some z=>rw[q] at h2;exact congrArg some h2
  obtain⟨m0,hn0,hl⟩:=I.loc
  have hfree:(x,NameKind.free)∈scope.names:=PySem.mem_of_lookup e3
  have hk:=S.free _ hfree rfl
  obtain⟨u,r,l⟩:=hl l x v e2 h2' (by rcases hk with z|z;exact .inr (.inl z);exact .inr (.inr z))
  refine⟨u,r,.inr ⟨m3 e3,?_⟩⟩
  rcases l with ⟨z,_⟩|⟨_,c,e,o,q,d⟩
  ·rcases hk with y|y
   ·rw[y] at z;cases z
   ·rw[y] at z;cases z
  ·exact⟨c,vT hcl hfree e,o,old c o q,d⟩
 ·obtain⟨v,o,q,d⟩:=I.cell x c (pY hcl e)
  exact⟨v,o,old c o q,d⟩
 ·have hp':p∈([]:List (Addr×Obj)) ++ [(D,oD)]:=hp
  have e:p=(D,oD):=by simpa using hp'
  subst e
  exact⟨eD,I.hok.fresh hD,hDC,nst D hD,dD⟩
 ·unfold cσ
  show _=N.length
  rw[S.len]
  simp
theorem aMi{C D:Addr}{s':Shared}{σ':St}{H':Hp}{ys:List V}{its:List Value}{n:Nat}{pins':List (Addr×Obj)}(I:Inv X P9 σ H s)(hf:∀b∈fp,zX X P9 H b)(J:Inv (cxC X scope N fp C s H) pins' σ' H' s')
  (hC:s.heap.objs.size<=C) (hD:s.heap.objs.size<=D) (hDC:D≠C) (hDn:H' D=none) (eD:s'.heap.get? D=some { cls:=.type "list",data:=.seq its.toArray n }) (r:Vals ys its) (hz:ys.length<=sizeLine) :
  Inv X P9 σ (upd H' D (.lst ys)) s'/\zX X P9 (upd H' D (.lst ys)) C:=by
 have hk:vB X.prog X.w (upd H' D (.lst ys)) s'.heap:=vB.aKF J.hok hDn ⟨hz,its,n,r,eD⟩
 have u:Un (frs X.stack) fp H (upd H' D (.lst ys)) s.heap s'.heap:=Un.aKF J.base hD hDn
 refine⟨I.aOQ J.os u hk J.bare fun b hb=>⟨(hf b hb).2.2.2.1,(hf b hb).2.1,(hf b hb).2.2.2.2.1,(hf b hb).2.2.2.2.2⟩,I.aDV hC ?_⟩
 rw[aR hDC.symm]
 exact J.free
end
def rL(J:It)(σ₀:St)(g:TG)(tt:TT)(te:TE)(R:List V->Hp->Prop)(H1:Hp):Prop:=
 ∃W:Nat->Nat->List V->Hp->Prop,(∃m,W 0 m [] H1)/\∀i m ys H,W i m ys H->ys.length<=sizeLine/\
  ((J.stop i H/\R ys H)\/(J.go i H/\∃N:List V->Hp->Prop,(∀ys' H',N ys' H'->∃m',m' < m/\W (i+1) m' ys' H')/\
   ∀x H',J.yld i H x H'->g x σ₀ H' fun σ2 H2=>tt σ2 H2 fun b H3=>if b=true then te σ2 H3 fun y H4=>N (ys ++ [y]) H4 else N ys H3))
def aGN(wi:TI)(k:Nat)(idx:List Nat)(g:TG)(tt:TT)(te:TE):TE:=fun σ H Q=>wi σ H fun J H1=>rL J (cσ k idx σ) g tt te (fun ys H'=>∀p,H' p=none->Q (.ref p) (upd H' p (.lst ys))) H1
def PTs(X:Cx)(ifs:List Expr)(t:TT):Prop:=
 ∀(P9:List (Addr×Obj)) (s:Shared) (σ:St) (H:Hp) (Q:Bool->Hp->Prop),Inv X P9 σ H s->t σ H Q->
  wpAny (model X.prog X.w) X.A (forIn ifs true fun c r=>if r=true then do let ok <-isTrue c X.env (eval c X.env);pure (ForInStep.yield ok) else pure (ForInStep.yield r)) (TP X P9 σ Q) X.xe s
def aNZ:TT:=fun _ H Q=>Q true H
theorem dG{X:Cx}:PTs X [] aNZ:=fun _ _ _ H _ I h=>wpAny_tests_nil ⟨H,I,h⟩
theorem aCw{X:Cx}{c:Expr}{t:TT}(h:PT X c t):PTs X [c] t:=fun P9 s σ H Q I q=>wpAny_tests_one (h P9 s σ H Q I q)
def Agr(k:Nat)(σ' σ:St):Prop:=σ'.length=σ.length/\∀i,k<=i->σ'[i]?=σ[i]?
theorem Agr.set{k i:Nat}{σ σb:St}{v:Option V}(h:Agr k σ σb)(hi:i < k):Agr k (σ.set i v) σb:=⟨by rw[List.length_set];exact h.1,fun j hj=>by rw[List.getElem?_set_ne (by omega)];exact h.2 j hj⟩
def Own(k:Nat)(g:TG):Prop:=∀x σ H (Q:St->Hp->Prop) (σb:St),Agr k σ σb->g x σ H Q->g x σ H fun σ' H'=>Agr k σ' σb/\Q σ' H'
def aMj(k:Nat)(g:TGs):Prop:=∀xs σ H (Q:St->Hp->Prop) (σb:St),Agr k σ σb->g xs σ H Q->g xs σ H fun σ' H'=>Agr k σ' σb/\Q σ' H'
theorem eB{k i:Nat}(h:i < k):Own k (vO i):=fun _ _ _ _ _ a q=>⟨a.set h,q⟩
theorem vV{k:Nat}:aMj k aL2:=fun _ _ _ _ _ a ⟨e,q⟩=>⟨e,a,q⟩
theorem d7{k i:Nat}{u:TGs}(h:i < k)(hu:aMj k u):aMj k (aIz (vO i) u):=fun _ _ _ Q σb a ⟨v,r,e,q⟩=>⟨v,r,e,hu r _ _ Q σb (a.set h) q⟩
theorem aAc{K:W.Frag}{n k:Nat}{u:TGs}(hu:aMj k u):Own k (aL3 K n u):=fun _ _ _ Q σb a ⟨l,xs,e,h1,h2,q⟩=>⟨l,xs,e,h1,h2,hu xs _ _ Q σb a q⟩
theorem aKG(its:List Value)(u:Value)(n:Nat):({ cls:=.type "list",data:=.seq (its.toArray.push u) n }:Obj)={ cls:=.type "list",data:=.seq (its ++ [u]).toArray n }:=by
 rw[List.push_toArray]
section
variable{X:Cx}{P9:List (Addr×Obj)}{σ:St}{H:Hp}{s:Shared}{scope:Scope}{N:List Str}{k:Nat}{idx:List Nat}{fp:List Addr}
theorem aCO{elt target iter:Expr}{ifs:List Expr}{pos:Pos}{it:Addr}{tn:Nat->Heap->Prop}{J:It}{g:TG}{tt:TT}{te:TE}{R:List V->Hp->Prop}{E:Value->Shared->Prop}{RR:Value->Addr->Result->Shared->Prop}
  (S:eR X scope N k idx) (hc:X.calm=true) (I:Inv X P9 σ H s) (T:Turn X.prog X.w X.K target J fp it tn) (st:tn 0 s.heap) (hf:∀b∈fp,zX X P9 H b)
  (hg:∀C,PG (cxC X scope N fp C s H) target g) (ho:Own k g) (ht:∀C,PTs (cxC X scope N fp C s H) ifs tt) (he:∀C,PE (cxC X scope N fp C s H) elt te)
  (hw:rL J (cσ k idx σ) g tt te R H)
  (hRR:∀D C s' m ys H',s'.heap.Ns C m->Inv X P9 σ (upd H' D (.lst ys)) s'->zX X P9 (upd H' D (.lst ys)) C->H' D=none->R ys H'->RR (.ref D) C (.ok .next) s') :
  wpAny (model X.prog X.w) X.A (newList []) (fun acc s₃=>wpAny (model X.prog X.w) X.A (newFunctionEnv scope X.env.globals (nF X.env scope.names []) [] X.env.qual none .none (some X.env)) (fun cenv s₄=>
   codeAny (model X.prog X.w) X.A (.compStart (.ListComp elt [⟨target,iter,ifs,0⟩] scope pos) 0 (.ref it) acc { cenv with scope:=relabel scope X.env }) (RR acc cenv.locals) s₄) E s₃) E s:=by
 refine wpAny_newObj_type (wpAny_newFunctionEnv S.nocell (by intro y hy;simp at hy) (fun h₁ hns₁ hsb₁=>?_) S.kind)
 dsimp only at hns₁ hsb₁ ⊢
 generalize hH2:s.heap.push { cls:=.type "list",dict:=none,data:=.seq ([]:List Value).toArray } = H2 at hns₁ hsb₁ ⊢
 have hCs:H2.objs.size=s.heap.objs.size+1:=by rw[<-hH2,Heap.size_push]
 have hDC:s.heap.objs.size≠H2.objs.size:=by rw[hCs];exact Nat.ne_of_lt (Nat.lt_succ_self _)
 have hCle:s.heap.objs.size<=H2.objs.size:=by rw[hCs];exact Nat.le_succ _
 have below:∀b,b < s.heap.objs.size->b≠H2.objs.size:=fun b hb=>by rw[hCs];exact Nat.ne_of_lt (Nat.lt_succ_of_lt hb)
 have old:∀b o,s.heap.get? b=some o->h₁.get? b=some o:=fun b o e=>hsb₁.extBut b o (below b (Heap.lt_size e)) (Heap.get?_push_of_some _ (hH2▸Heap.get?_push_of_some _ e))
 have hacc:h₁.get? s.heap.objs.size=some { cls:=.type "list",data:=.seq ([]:List Value).toArray 0 }:=hsb₁.extBut _ _ hDC (Heap.get?_push_of_some _ (hH2▸Heap.get?_push_size _ rfl))
 have st₁:tn 0 h₁:=T.keep _ _ _ st fun b _ o e=>old b o e
 obtain⟨W,⟨m0,w0⟩,turn⟩:=hw
 have fp0:∀b∈fp,b < s.heap.objs.size:=fun b hb=>by
  obtain⟨o,e,_⟩:=T.obj _ _ st b hb
  exact Heap.lt_size e
 have stat:∀{H':Hp} {pl:List (Addr×Obj)},(∀b∈fp,H' b=none)->(∀p∈pl,s.heap.objs.size<=p.1)->∀b∈fp,zX (cxC X scope N fp H2.objs.size s H) pl H' b:=fun {H' pl} hn hp b hb=>by
  refine⟨hn b hb,below b (fp0 b hb),fun z=>?_,.inl hb,fun x c e=>(hf b hb).2.2.2.2.1 x c (pY (S.cells I) e),fun p q z=>?_⟩
  ·have z':b∈frs X.stack:=z
   rcases List.mem_cons.mp (I.aCE b z') with q|q
   ·exact(hf b hb).2.1 q
   ·exact(hf b hb).2.2.1 q
  ·have q':p∈([]:List (Addr×Obj))++pl:=q
   have h1:=hp p (by simpa using q')
   rw[z] at h1
   exact absurd (Nat.lt_of_lt_of_le (fp0 b hb) h1) (Nat.lt_irrefl _)
 have loop:∀s₃:Shared,s₃={ s with heap:=h₁,toks:=s.toks+([]:List (Str×Value)).length }->
   codeAny (model X.prog X.w) X.A (.compLoop (.ListComp elt [⟨target,iter,ifs,0⟩] scope pos) 0 (.ref it) (.ref s.heap.objs.size) (compEnvC scope (nF X.env scope.names []) H2.objs.size X.env))
    (RR (.ref s.heap.objs.size) H2.objs.size) s₃:=by
  rintro s₃ rfl
  refine aGK (fun n s'=>∃i ys its H' nn,Inv (cxC X scope N fp H2.objs.size s H) [(s.heap.objs.size,{ cls:=.type "list",data:=.seq its.toArray nn })] (cσ k idx σ) H' s'/\tn i s'.heap/\(∀b∈fp,H' b=none)/\Vals ys its/\W i n ys H') ?_ m0
   ⟨0,[],[],H,0,aJx S I hf (fun b hb=>let ⟨o,e,_⟩:=T.obj _ _ st b hb;⟨o,e⟩) hCle (Nat.le_refl _) hDC hns₁ old hacc (fun v z=>by cases z),st₁,fun b hb=>(hf b hb).1,.nil,w0⟩
  rintro n s' ⟨i,ys,its,H',nn,I',st',fr',rv,w'⟩
  obtain⟨hz,alt⟩:=turn i n ys H' w'
  have pl:∀p∈[((s.heap.objs.size:Addr),({ cls:=.type "list",data:=.seq its.toArray nn }:Obj))],s.heap.objs.size<=p.1:=fun p hp=>by
   have e:p=((s.heap.objs.size:Addr),({ cls:=.type "list",data:=.seq its.toArray nn }:Obj)):=by simpa using hp
   rw[e]
   exact Nat.le_refl _
  rcases alt with ⟨stop,q⟩|⟨go,Nx,hN,step⟩
  ·refine cY (T.done (cxC X scope N fp H2.objs.size s H) rfl rfl rfl hc i _ s' _ H' _ I' (stat fr' pl) st' stop) fun r s4 ⟨hr,I4⟩=>?_
   subst hr
   obtain⟨eD,nD,_⟩:=I4.pin _ (List.mem_append_right _ List.mem_cons_self)
   obtain⟨a1,a2⟩:=aMi I hf I4 hCle (Nat.le_refl _) hDC nD eD rv hz
   obtain⟨m4,hn4,_⟩:=I4.loc
   exact hRR _ _ s4 m4 ys H' hn4 a1 a2 nD q
  ·refine cY (T.item (cxC X scope N fp H2.objs.size s H) rfl rfl rfl hc i _ s' _ H' _ I' (stat fr' pl) st' go) fun r s4 ⟨u,hr,h4⟩=>?_
   subst hr
   refine cY h4 fun _ s5 ⟨x,H5,I5,r5,y5,st5,fr5⟩=>?_
   have I5':=I5.pinned (stat fr5 pl) (T.obj _ _ st5)
   have noE:∀{α:Type} {t:Sem α} {Q:α->Shared->Prop} {E':Value->Shared->Prop} {sx:Shared},wpAny (model X.prog X.w) X.A t Q (fun _ _=>False) sx->wpAny (model X.prog X.w) X.A t Q E' sx:=fun h=>wpAny_mono h (fun _ _ q=>q) fun _ _ z=>z.elim
   refine noE (cY (hg _ _ s5 _ H5 x u _ I5' r5 (ho x _ H5 _ _ ⟨rfl,fun _ _=>rfl⟩ (step x H5 y5))) fun _ s6 ⟨σ6,H6,I6,ag,q6⟩=>?_)
   have back:∀{H7:Hp} {s7:Shared},Inv (cxC X scope N fp H2.objs.size s H) ([((s.heap.objs.size:Addr),({ cls:=.type "list",data:=.seq its.toArray nn }:Obj))] ++ aCI fp s5.heap) σ6 H7 s7->
     Inv (cxC X scope N fp H2.objs.size s H) [((s.heap.objs.size:Addr),({ cls:=.type "list",data:=.seq its.toArray nn }:Obj))] (cσ k idx σ) H7 s7/\tn (i+1) s7.heap/\∀b∈fp,H7 b=none:=fun {H7 s7} I7=>by
    refine⟨I7.zY.weak (by rw[ag.1]) fun j v e=>?_,T.keep _ _ _ st5 fun b hb o e=>(I7.pin (b,o) (List.mem_append_right _ (List.mem_append_right _ (tD hb e)))).1,fun b hb=>?_⟩
    ·have hj:k<=j:=by
      by_cases hj:j < k
      ·unfold cσ at e
       rw[List.getElem?_append_left (by simpa using hj),List.getElem?_replicate,if_pos hj] at e
       cases e
      ·omega
     rw[ag.2 j hj]
     exact e
    ·obtain⟨o,e,d⟩:=T.obj _ _ st5 b hb
     exact(I7.pin (b,o) (List.mem_append_right _ (List.mem_append_right _ (tD hb e)))).2.1
   refine noE (cY (ht _ _ s6 σ6 H6 _ I6 q6) fun b s7 ⟨H7,I7,q7⟩=>?_)
   cases b with
   |false=>
    rw[if_neg Bool.false_ne_true] at q7 ⊢
    obtain⟨m',hm,w7⟩:=hN _ _ q7
    obtain⟨b1,b2,b3⟩:=back I7
    exact⟨m',hm,i+1,ys,its,H7,nn,b1,b2,b3,rv,w7⟩
   |true=>
    rw[if_pos rfl] at q7 ⊢
    refine noE (cY (he _ _ s7 σ6 H7 _ I7 q7) fun y s8 ⟨z,H8,I8,r8,q8⟩=>?_)
    obtain⟨m',hm,w8⟩:=hN _ _ q8
    obtain⟨b1,b2,b3⟩:=back I8
    obtain⟨eD,nD,neD,nfD,_⟩:=b1.pin _ (List.mem_append_right _ List.mem_cons_self)
    have lenV:=rv.length
    refine append_at (hsz:=by rw[List.size_toArray,<-lenV];exact hz) eD fun h9 hs9 hD9=>?_
    have b1':Inv (cxC X scope N fp H2.objs.size s H) [] (cσ k idx σ) H8 s8:=b1.aCr fun p hp=>by cases hp
    have I9:Inv (cxC X scope N fp H2.objs.size s H) [] (cσ k idx σ) H8 { s8 with heap:=h9 }:=b1'.turned (t':=s8.toks) (fun b o hb e=>(hs9.2 b hb).trans e) nD neD (.inr (Nat.le_refl _)) (fun x c e z=>by
     obtain⟨v,q⟩:=I.cell x c (pY (S.cells I) e)
     exact absurd (Nat.lt_of_lt_of_le q.lt (by rw[z];exact Nat.le_refl _)) (Nat.lt_irrefl _)) (fun p hp=>by
     have hp':p∈([]:List (Addr×Obj)) ++ []:=hp
     simp at hp')
    refine⟨m',hm,i+1,ys ++ [z],its ++ [y],H8,nn+1,I9.aCr fun p hp=>?_,T.keep _ _ _ b2 fun b hb o e=>(hs9.2 b (Nat.ne_of_lt (fp0 b hb))).trans e,b3,rv.append (.cons r8 .nil),w8⟩
    have e:p=((s.heap.objs.size:Addr),({ cls:=.type "list",data:=.seq (its ++ [y]).toArray (nn+1) }:Obj)):=by simpa using hp
    subst e
    exact⟨by rw[<-aKG];exact hD9,nD,neD,nfD,fun v z=>by cases z⟩
 exact codeAny_compStart_list (loop _ rfl) (T.self _ 0 _ _ _ st₁ (loop _ rfl))
theorem fE(k:Nat)(idx:List Nat){N:List Str}{elt target iter:Expr}{ifs:List Expr}{pos:Pos}{wi:TI}{g:TG}{tt:TT}{te:TE}(S:eR X scope N k idx)(hc:X.calm=true)(hi:PI X target iter wi)
  (hg:∀fp C s H,PG (cxC X scope N fp C s H) target g) (ho:Own k g) (ht:∀fp C s H,PTs (cxC X scope N fp C s H) ifs tt) (he:∀fp C s H,PE (cxC X scope N fp C s H) elt te)
  (hs:∀x,foldedSetIterable iter X.env x=pure x:=by intro _;rfl):PE X (.ListComp elt [⟨target,iter,ifs,0⟩] scope pos) (aGN wi k idx g tt te):=by
 intro P9 s σ H Q I h
 rw[eval_ListComp]
 refine wpAny_comprehension_free (use:=none) rfl hs (y7 (S.cells I)) S.kind S.names (cY (hi P9 s σ H _ I h) fun v s1 h1=>cY h1 fun itv s2 h2=>?_)
 obtain⟨it,fp,tn,J,H2,e,I2,T,st2,f2,w2⟩:=h2
 subst e
 refine aCO (RR:=fun acc C=>compPost (model X.prog X.w) X.A X.xe none (EP X P9 σ Q) acc C) S hc I2 T st2 f2 (fun C=>hg fp C s2 H2) ho (fun C=>ht fp C s2 H2) (fun C=>he fp C s2 H2) w2 fun D C s' m ys H' hn I' fC hD q=>?_
 refine⟨m,hn,fun h'' hs''=>⟨.ref D,_,I'.turned (t':=s'.toks) (fun b o hb e=>(hs''.2 b hb).trans e) fC.1 fC.2.1 fC.2.2.2.1 fC.2.2.2.2.1 fC.2.2.2.2.2,rfl,q D hD⟩⟩
theorem pZ(k:Nat)(idx:List Nat){i:Nat}{x:Str}{N:List Str}{elt target iter:Expr}{ifs:List Expr}{pos pos' spos:Pos}{wi:TI}{g:TG}{tt:TT}{te:TE}(hN:X.N.Nodup)(hix:X.N[i]?=some x)(hx:Loc X.env.scope x)
  (S:eR X scope N k idx) (hc:X.calm=true) (hi:PI X target iter wi)
  (hg:∀fp C s H,PG (cxC X scope N fp C s H) target g) (ho:Own k g) (ht:∀fp C s H,PTs (cxC X scope N fp C s H) ifs tt) (he:∀fp C s H,PE (cxC X scope N fp C s H) elt te)
  (hsw:swapsWith (.ListComp elt [⟨target,iter,ifs,0⟩] scope pos) (some (.Name x pos')) spos.line X.env=pure true:=by rfl)
  (hs:∀x,foldedSetIterable iter X.env x=pure x:=by intro _;rfl) (hfn:X.fn x=true\/X.env.scope.names.lookup x=some .local:=by first|exact .inl rfl|exact .inr rfl|assumption) :
  PS X (.Assign [.Name x pos'] (.ListComp elt [⟨target,iter,ifs,0⟩] scope pos) spos) (aHD (aGN wi k idx g tt te) (vO i)):=by
 intro P9 s σ H D I h
 rw[exec_Assign_Name_used _ _ _ _ hsw]
 refine wpAny_bind (wpAny_standAt (wpAny_bind ?_))
 show wpAny _ X.A (do let _ <-comprehension (.ListComp elt [⟨target,iter,ifs,0⟩] scope pos) scope X.env _ (newList []) false (eval iter X.env) (some (assign (.Name x pos') X.env))) _ _ s
 refine wpAny_bind (wpAny_mono (wpAny_comprehension_free (use:=some (assign (.Name x pos') X.env)) (Q:=fun _ s'=>SP X P9 D .next s') rfl hs (y7 (S.cells I)) S.kind S.names
  (cY (hi P9 s σ H _ I h) fun v s1 h1=>cY h1 fun itv s2 h2=>?_)) (fun _ s' hq=>wpAny_pure (wpAny_pure hq)) fun _ _ e=>e)
 obtain⟨it,fp,tn,J,H2,e,I2,T,st2,f2,w2⟩:=h2
 subst e
 refine aCO (RR:=fun acc C=>compPost (model X.prog X.w) X.A X.xe (some (assign (.Name x pos') X.env)) (fun _ s'=>SP X P9 D .next s') acc C) S hc I2 T st2 f2 (fun C=>hg fp C s2 H2) ho (fun C=>ht fp C s2 H2) (fun C=>he fp C s2 H2) w2 fun D' C s' m ys H' hn I' fC hD q=>?_
 show wpAny _ X.A (assign (.Name x pos') X.env (.ref D')) _ _ s'
 refine wpAny_assign_Name (aEM I' hN hix hx (show RelV (.ref D') (.ref D') from rfl) (fun s3 I3 ⟨a,sb,ha⟩=>?_) hfn)
 have hCa:C≠a:=by
  rcases ha with z|z
  ·rw[z];exact fC.2.1
  ·exact(fC.2.2.2.2.1 x a z).symm
 refine⟨m,hn.sameBut sb hCa,fun h'' hs''=>⟨_,_,I3.turned (t':=s3.toks) (fun b o hb e=>(hs''.2 b hb).trans e) fC.1 fC.2.1 fC.2.2.2.1 fC.2.2.2.2.1 fC.2.2.2.2.2,q D' hD⟩⟩
end
theorem gR{K:W.Frag}{a:Addr}{xs:List V}{σ₀:St}{g:TG}{tt:TT}{te:TE}{R:List V->Hp->Prop}{H:Hp}(Pv:Nat->List V->Hp->Prop)(h0:Pv 0 [] H)(hz:xs.length<=sizeLine)
  (hl:∀i ys H,i<=xs.length->Pv i ys H->bR K H a xs/\ys.length<=i)
  (hs:∀i x ys H,xs[i]?=some x->Pv i ys H->g x σ₀ H fun σ2 H2=>tt σ2 H2 fun b H3=>if b=true then te σ2 H3 fun y H4=>Pv (i+1) (ys ++ [y]) H4 else Pv (i+1) ys H3)
  (hd:∀ys H,Pv xs.length ys H->R ys H):rL (Itl K a) σ₀ g tt te R H:=by
 refine⟨fun i m ys H=>m=xs.length - i/\i<=xs.length/\Pv i ys H,⟨xs.length,by simp,Nat.zero_le _,h0⟩,?_⟩
 rintro i m ys H ⟨rfl,hi,p⟩
 obtain⟨q,ql⟩:=hl i ys H hi p
 refine⟨by omega,?_⟩
 by_cases hlt:i < xs.length
 ·refine .inr ⟨⟨xs,xs[i],q,by simp[hlt]⟩,Pv (i+1),fun ys' H' p'=>⟨xs.length - (i+1),by omega,rfl,hlt,p'⟩,fun x H' y=>?_⟩
  obtain⟨e,y⟩:=y
  subst e
  exact hs i x ys _ (y xs q) p
 ·have e:i=xs.length:=by omega
  subst e
  exact .inl ⟨⟨xs,q,Nat.le_refl _⟩,hd ys H p⟩
theorem aKH{K:W.Frag}{a:Addr}{xs:List V}{σ₀:St}{g:TG}{tt:TT}{te:TE}{R:List V->Hp->Prop}{H:Hp}(Pv:Nat->List V->Hp->Prop)(h0:Pv 0 [] H)(hz:xs.length<=sizeLine)
  (hl:∀i ys H,i<=xs.length->Pv i ys H->kR K H a xs/\ys.length<=i)
  (hs:∀i x ys H,xs[i]?=some x->Pv i ys H->g x σ₀ H fun σ2 H2=>tt σ2 H2 fun b H3=>if b=true then te σ2 H3 fun y H4=>Pv (i+1) (ys ++ [y]) H4 else Pv (i+1) ys H3)
  (hd:∀ys H,Pv xs.length ys H->R ys H):rL (Itt K a) σ₀ g tt te R H:=by
 refine⟨fun i m ys H=>m=xs.length - i/\i<=xs.length/\Pv i ys H,⟨xs.length,by simp,Nat.zero_le _,h0⟩,?_⟩
 rintro i m ys H ⟨rfl,hi,p⟩
 obtain⟨q,ql⟩:=hl i ys H hi p
 refine⟨by omega,?_⟩
 by_cases hlt:i < xs.length
 ·refine .inr ⟨⟨xs,xs[i],q,by simp[hlt]⟩,Pv (i+1),fun ys' H' p'=>⟨xs.length - (i+1),by omega,rfl,hlt,p'⟩,fun x H' y=>?_⟩
  obtain⟨e,y⟩:=y
  subst e
  exact hs i x ys _ (y xs q) p
 ·have e:i=xs.length:=by omega
  subst e
  exact .inl ⟨⟨xs,q,Nat.le_refl _⟩,hd ys H p⟩
theorem oY{lo:Int}{n:Nat}{σ₀:St}{g:TG}{tt:TT}{te:TE}{R:List V->Hp->Prop}{H:Hp}(Pv:Nat->List V->Hp->Prop)(h0:Pv 0 [] H)(hz:n<=sizeLine)
  (hl:∀i ys H,i<=n->Pv i ys H->ys.length<=i)
  (hs:∀i ys H,i < n->Pv i ys H->g (.int (lo+i)) σ₀ H fun σ2 H2=>tt σ2 H2 fun b H3=>if b=true then te σ2 H3 fun y H4=>Pv (i+1) (ys ++ [y]) H4 else Pv (i+1) ys H3)
  (hd:∀ys H,Pv n ys H->R ys H):rL (Itr lo n) σ₀ g tt te R H:=by
 refine⟨fun i m ys H=>m=n - i/\i<=n/\Pv i ys H,⟨n,by simp,Nat.zero_le _,h0⟩,?_⟩
 rintro i m ys H ⟨rfl,hi,p⟩
 have ql:=hl i ys H hi p
 refine⟨by omega,?_⟩
 by_cases hlt:i < n
 ·refine .inr ⟨hlt,Pv (i+1),fun ys' H' p'=>⟨n - (i+1),by omega,rfl,hlt,p'⟩,fun x H' y=>?_⟩
  obtain⟨e,y⟩:=y
  subst e y
  exact hs i ys _ hlt p
 ·have e:i=n:=by omega
  subst e
  exact .inl ⟨Nat.le_refl _,hd ys H p⟩
end L2
namespace L2
open PySem PySem.Spec PyProof.Rows
theorem aFq:bootBuiltins "int" = some (.type "int"):=by decide +kernel
theorem aIH:bootBuiltins "bool" = some (.type "bool"):=by decide +kernel
theorem lJ:bootBuiltins "list" = some (.type "list"):=by decide +kernel
theorem aGO:bootBuiltins "tuple" = some (.type "tuple"):=by decide +kernel
theorem aGP:bootBuiltins "range" = some (.type "range"):=by decide +kernel
theorem iZ:bootBuiltins "len" = some (.builtin "len"):=by decide +kernel
theorem aN0:bootBuiltins "abs" = some (.builtin "abs"):=by decide +kernel
theorem vW:bootBuiltins "max" = some (.builtin "max"):=by decide +kernel
theorem rM:bootBuiltins "min" = some (.builtin "min"):=by decide +kernel
theorem aHT:bootBuiltins "sum" = some (.builtin "sum"):=by decide +kernel
theorem aHU:bootBuiltins "all" = some (.builtin "all"):=by decide +kernel
theorem aJy:bootBuiltins "sorted" = some (.builtin "sorted"):=by decide +kernel
theorem cS:bootBuiltins "isinstance" = some (.builtin "isinstance"):=by decide +kernel
section
variable{X:Cx}
def aKI:R2:=fun x y H Q=>rI0 (fun i j=>.int (i+j)) x y H Q\/aO1 x y H Q
theorem bJ:vP X (binaryOp .Add) aKI:=aND.or aNQ
def aNc:R2:=fun x y H Q=>rI aKl (fun i j=>.int (i*j)) x y H Q\/aO2 x y H Q
theorem bK:vP X (binaryOp .Mult) aNc:=aNE.or aNR
def aJz(K:W.Frag):V->Option Int->Option Int->Hp->VK->Prop:=fun x lo hi H Q=>aOZ K x lo hi H Q\/aOU K x lo hi H Q
theorem aMk:SlR X (aJz X.K):=aMd.or aNK
def EqN(K:W.Frag)(H:Hp):Nat->V->V->Bool->Prop
 |0,x,y,b=>sA x=true/\sA y=true/\b=eqV x y
 |n+1,x,y,b=>(sA x=true/\sA y=true/\b=eqV x y)\/
  ∃(p q:Addr) (xs ys:List V) (e:Nat->Bool),x=.ref p/\y=.ref q/\((bR K H p xs/\bR K H q ys)\/(kR K H p xs/\kR K H q ys))/\
   (∀(j:Nat) u v,xs[j]?=some u->ys[j]?=some v->EqN K H n u v (e j))/\b=(xs.length == ys.length && (List.range xs.length).all e)
theorem aGQ{x:V}(h:sA x=true):eqV x x=true:=by
 cases x with
 |non=>rfl
 |bl b=>cases b <;> rfl
 |int i=>exact beq_self_eq_true i
 |str z=>exact beq_self_eq_true z
 |_=>exact absurd (show false=true from h) Bool.false_ne_true
theorem aGR{P9:List (Addr×Obj)}{σ:St}{H:Hp}{s:Shared}(I:Inv X P9 σ H s):∀{n:Nat}{x:V}{b:Bool},EqN X.K H n x x b->b=true
 |0,x,b,⟨h,_,e⟩=>by rw[e];exact aGQ h
 |n+1,x,b,h=>by
  rcases h with ⟨h,_,e⟩|⟨p,q,xs,ys,e,e1,e2,hs,he,eb⟩
  ·rw[e];exact aGQ h
  ·subst e1
   cases e2
   have exy:xs=ys:=by
    rcases hs with ⟨h1,h2⟩|⟨h1,h2⟩
    ·exact I.aCG h1 h2
    ·exact I.aEN h1 h2
   subst exy
   rw[eb,beq_self_eq_true,Bool.true_and,List.all_eq_true]
   intro j hj
   have hj':j < xs.length:=List.mem_range.mp hj
   exact aGR I (he j xs[j] xs[j] (List.getElem?_eq_getElem hj') (List.getElem?_eq_getElem hj'))
theorem aKJ{P9:List (Addr×Obj)}{σ:St}{H:Hp}{s:Shared}(I:Inv X P9 σ H s):∀{n:Nat}{A:Around}{x y:V}{u v:Value}{b:Bool},A.units+n < cLine->RelV x u->RelV y v->EqN X.K H n x y b->SeqAt.EqAt A s u v b
 |0,A,x,y,u,v,b,_,rx,ry,⟨h1,h2,e⟩=>by rw[e];exact aKx rx ry h1 h2
 |n+1,A,x,y,u,v,b,hu,rx,ry,h=>by
  rcases id h with ⟨h1,h2,e⟩|⟨p,q,xs,ys,e,e1,e2,hs,he,eb⟩
  ·rw[e];exact aKx rx ry h1 h2
  ·subst e1 e2
   cases rx
   cases ry
   by_cases hpq:p=q
   ·subst hpq
    rw[aGR I h]
    exact SeqAt.EqAt.same _
   ·refine SeqAt.EqAt.of_refs hpq ?_
    have items:∀{us vs:List Value},Vals xs us->Vals ys vs->∀j (h1:j < us.toArray.size) (h2:j < vs.toArray.size),SeqAt.EqAt A.in1 s us.toArray[j] vs.toArray[j] (e j):=fun {us vs} r1 r2 j h1 h2=>by
     have l1:=r1.length
     have l2:=r2.length
     rw[List.size_toArray] at h1 h2
     have g1:xs[j]?=some xs[j]:=List.getElem?_eq_getElem (by omega)
     have g2:ys[j]?=some ys[j]:=List.getElem?_eq_getElem (by omega)
     obtain⟨u',eu,ru⟩:=r1.get g1
     obtain⟨v',ev,rv⟩:=r2.get g2
     have eu':us.toArray[j]=u':=by
      rw[List.getElem_toArray]
      exact Option.some.inj ((List.getElem?_eq_getElem h1).symm.trans eu)
     have ev':vs.toArray[j]=v':=by
      rw[List.getElem_toArray]
      exact Option.some.inj ((List.getElem?_eq_getElem h2).symm.trans ev)
     rw[eu',ev']
     exact aKJ I (n:=n) (by show A.units+1+n < cLine;omega) ru rv (he j _ _ g1 g2)
    rcases hs with ⟨h1,h2⟩|⟨h1,h2⟩
    ·obtain⟨us,r1,p1,_⟩:=I.list h1
     obtain⟨vs,r2,p2,_⟩:=I.list h2
     have l1:=r1.length
     have l2:=r2.length
     by_cases hl:xs.length=ys.length
     ·rw[eb,hl,beq_self_eq_true,Bool.true_and,<-hl,show xs.length=us.toArray.size by rw[List.size_toArray];exact l1]
      exact SeqAt.RcAt.lists p1.isList p2.isList (by rw[List.size_toArray,List.size_toArray];omega) (by omega) (items r1 r2)
     ·rw[eb,show(xs.length == ys.length)=false by simpa using hl,Bool.false_and]
      exact SeqAt.RcAt.lists_lengths p1.isList p2.isList (by rw[List.size_toArray,List.size_toArray];simp;omega) (by omega)
    ·obtain⟨us,r1,p1,_⟩:=I.tuple h1
     obtain⟨vs,r2,p2,_⟩:=I.tuple h2
     have l1:=r1.length
     have l2:=r2.length
     have q:=SeqAt.RcAt.tuples (s:=s) (A:=A) (l:=p) (b:=q) (e:=e) p1 p2 (by omega) (items r1 r2)
     rw[List.size_toArray,List.size_toArray,<-l1,<-l2] at q
     by_cases hl:xs.length=ys.length
     ·rw[eb,hl,beq_self_eq_true,Bool.true_and]
      rw[hl,Nat.min_self,beq_self_eq_true,Bool.and_true] at q
      exact q
     ·have hb:(xs.length == ys.length)=false:=by simpa using hl
      rw[eb,hb,Bool.false_and]
      rw[hb,Bool.and_false] at q
      exact q
def oZ(K:W.Frag):R2:=fun x y H Q=>∃b,EqN K H 8 x y b/\Q (.bl b) H
def aFr(K:W.Frag):R2:=fun x y H Q=>∃b,EqN K H 8 x y b/\Q (.bl (!b)) H
theorem xQ{P9:List (Addr×Obj)}{σ:St}{H:Hp}{s:Shared}{n:Nat}{A:Around}{xs ys:List V}{us vs:List Value}{e:Nat->Bool}(I:Inv X P9 σ H s)(hu:A.units+1+n < cLine)
  (he:∀(j:Nat) u v,xs[j]?=some u->ys[j]?=some v->EqN X.K H n u v (e j)) (r1:Vals xs us) (r2:Vals ys vs):∀j (h1:j < us.toArray.size) (h2:j < vs.toArray.size),SeqAt.EqAt A.in1 s us.toArray[j] vs.toArray[j] (e j):=fun j h1 h2=>by
 have l1:=r1.length
 have l2:=r2.length
 rw[List.size_toArray] at h1 h2
 have g1:xs[j]?=some xs[j]:=List.getElem?_eq_getElem (by omega)
 have g2:ys[j]?=some ys[j]:=List.getElem?_eq_getElem (by omega)
 obtain⟨u',eu,ru⟩:=r1.get g1
 obtain⟨v',ev,rv⟩:=r2.get g2
 have eu':us.toArray[j]=u':=by
  rw[List.getElem_toArray]
  exact Option.some.inj ((List.getElem?_eq_getElem h1).symm.trans eu)
 have ev':vs.toArray[j]=v':=by
  rw[List.getElem_toArray]
  exact Option.some.inj ((List.getElem?_eq_getElem h2).symm.trans ev)
 rw[eu',ev']
 exact aKJ I (n:=n) (by show A.units+1+n < cLine;omega) ru rv (he j _ _ g1 g2)
theorem aN1{A:Around}{s:Shared}{y x:V}{u v:Value}(ry:RelV y u)(rx:RelV x v)(fy:sA y=true)(fx:sA x=true):SeqAt.RcAt A s u v (eqV y x):=by
 cases y with
 |non=>
  cases ry
  cases x with
  |non=>cases rx;exact SeqAt.RcAt.none_none
  |bl b=>cases rx;exact SeqAt.RcAt.none_bool b
  |int b=>obtain⟨t,rfl⟩:=rx;exact SeqAt.RcAt.none_int b t
  |str b=>obtain⟨t,rfl⟩:=rx;exact SeqAt.RcAt.none_str b t
  |_=>exact absurd (show false=true from fx) Bool.false_ne_true
 |bl a=>
  cases ry
  cases x with
  |non=>cases rx;exact SeqAt.RcAt.bool_none a
  |bl b=>cases rx;exact SeqAt.RcAt.bool_bool a b
  |int b=>obtain⟨t,rfl⟩:=rx;exact SeqAt.RcAt.bool_int a b t
  |str b=>obtain⟨t,rfl⟩:=rx;exact SeqAt.RcAt.bool_str a b t
  |_=>exact absurd (show false=true from fx) Bool.false_ne_true
 |int a=>
  obtain⟨t',rfl⟩:=ry
  cases x with
  |non=>cases rx;exact SeqAt.RcAt.int_none a t'
  |bl b=>cases rx;exact SeqAt.RcAt.int_bool a t' b
  |int b=>obtain⟨t,rfl⟩:=rx;exact SeqAt.RcAt.int_int a t' b t
  |str b=>obtain⟨t,rfl⟩:=rx;exact SeqAt.RcAt.int_str a t' b t
  |_=>exact absurd (show false=true from fx) Bool.false_ne_true
 |str a=>
  obtain⟨t',rfl⟩:=ry
  cases x with
  |non=>cases rx;exact SeqAt.RcAt.str_none a t'
  |bl b=>cases rx;exact SeqAt.RcAt.str_bool a t' b
  |int b=>obtain⟨t,rfl⟩:=rx;exact SeqAt.RcAt.str_int a t' b t
  |str b=>obtain⟨t,rfl⟩:=rx;exact SeqAt.RcAt.str_str a t' b t
  |_=>exact absurd (show false=true from fx) Bool.false_ne_true
 |_=>exact absurd (show false=true from fy) Bool.false_ne_true
theorem aKK{A:Around}{s:Shared}{y x:V}{u v:Value}(ry:RelV y u)(rx:RelV x v)(fy:sA y=true)(fx:sA x=true):SeqAt.RcNeAt A s u v (!eqV y x):=by
 cases y with
 |non=>
  cases ry
  cases x with
  |non=>cases rx;exact SeqAt.RcNeAt.none_none
  |bl b=>cases rx;exact SeqAt.RcNeAt.none_bool b
  |int b=>obtain⟨t,rfl⟩:=rx;exact SeqAt.RcNeAt.none_int b t
  |str b=>obtain⟨t,rfl⟩:=rx;exact SeqAt.RcNeAt.none_str b t
  |_=>exact absurd (show false=true from fx) Bool.false_ne_true
 |bl a=>
  cases ry
  cases x with
  |non=>cases rx;exact SeqAt.RcNeAt.bool_none a
  |bl b=>cases rx;exact SeqAt.RcNeAt.bool_bool a b
  |int b=>obtain⟨t,rfl⟩:=rx;exact SeqAt.RcNeAt.bool_int a b t
  |str b=>obtain⟨t,rfl⟩:=rx;exact SeqAt.RcNeAt.bool_str a b t
  |_=>exact absurd (show false=true from fx) Bool.false_ne_true
 |int a=>
  obtain⟨t',rfl⟩:=ry
  cases x with
  |non=>cases rx;exact SeqAt.RcNeAt.int_none a t'
  |bl b=>cases rx;exact SeqAt.RcNeAt.int_bool a t' b
  |int b=>obtain⟨t,rfl⟩:=rx;exact SeqAt.RcNeAt.int_int a t' b t
  |str b=>obtain⟨t,rfl⟩:=rx;exact SeqAt.RcNeAt.int_str a t' b t
  |_=>exact absurd (show false=true from fx) Bool.false_ne_true
 |str a=>
  obtain⟨t',rfl⟩:=ry
  cases x with
  |non=>cases rx;exact SeqAt.RcNeAt.str_none a t'
  |bl b=>cases rx;exact SeqAt.RcNeAt.str_bool a t' b
  |int b=>obtain⟨t,rfl⟩:=rx;exact SeqAt.RcNeAt.str_int a t' b t
  |str b=>obtain⟨t,rfl⟩:=rx;exact SeqAt.RcNeAt.str_str a t' b t
  |_=>exact absurd (show false=true from fx) Bool.false_ne_true
 |_=>exact absurd (show false=true from fy) Bool.false_ne_true
theorem eF(hu:X.A.units+9 < cLine):vP X (compareOp .Eq) (oZ X.K):=by
 intro P9 s σ H x y v u Q I rx ry h
 obtain⟨b,h,q⟩:=h
 have fin:EP X P9 σ Q (.bool b) s:=⟨.bl b,H,I,rfl,q⟩
 rcases h with ⟨h1,h2,e⟩|⟨p,l,xs,ys,e,e1,e2,hs,he,eb⟩
 ·exact aN1 rx ry h1 h2 X.prog X.w X.xe _ (by rw[<-e];exact fin)
 ·subst e1 e2
  cases rx
  cases ry
  rcases hs with ⟨h1,h2⟩|⟨h1,h2⟩
  ·obtain⟨us,r1,p1,_⟩:=I.list h1
   obtain⟨vs,r2,p2,_⟩:=I.list h2
   have l1:=r1.length
   have l2:=r2.length
   by_cases hl:xs.length=ys.length
   ·refine SeqAt.RcAt.lists p1.isList p2.isList (by rw[List.size_toArray,List.size_toArray];omega) (by omega) (xQ I (n:=7) (A:=X.A) (by omega) he r1 r2) X.prog X.w X.xe _ ?_
    rw[List.size_toArray,<-l1]
    rw[eb,hl,beq_self_eq_true,Bool.true_and,<-hl] at fin
    exact fin
   ·refine SeqAt.RcAt.lists_lengths p1.isList p2.isList (by rw[List.size_toArray,List.size_toArray];simp;omega) (by omega) X.prog X.w X.xe _ ?_
    rw[eb,show(xs.length == ys.length)=false by simpa using hl,Bool.false_and] at fin
    exact fin
  ·obtain⟨us,r1,p1,_⟩:=I.tuple h1
   obtain⟨vs,r2,p2,_⟩:=I.tuple h2
   have l1:=r1.length
   have l2:=r2.length
   refine SeqAt.RcAt.tuples p1 p2 (by omega) (xQ I (n:=7) (A:=X.A) (by omega) he r1 r2) X.prog X.w X.xe _ ?_
   rw[List.size_toArray,List.size_toArray,<-l1,<-l2]
   rw[eb] at fin
   by_cases hl:xs.length=ys.length
   ·rw[hl,beq_self_eq_true,Bool.true_and] at fin
    rw[hl,Nat.min_self,beq_self_eq_true,Bool.and_true]
    exact fin
   ·have hb:(xs.length == ys.length)=false:=by simpa using hl
    rw[hb,Bool.false_and] at fin
    rw[hb,Bool.and_false]
    exact fin
theorem aBg(hu:X.A.units+9 < cLine):vP X (compareOp .NotEq) (aFr X.K):=by
 intro P9 s σ H x y v u Q I rx ry h
 obtain⟨b,h,q⟩:=h
 have fin:EP X P9 σ Q (.bool (!b)) s:=⟨.bl (!b),H,I,rfl,q⟩
 rcases h with ⟨h1,h2,e⟩|⟨p,l,xs,ys,e,e1,e2,hs,he,eb⟩
 ·exact aKK rx ry h1 h2 X.prog X.w X.xe _ (by rw[<-e];exact fin)
 ·subst e1 e2
  cases rx
  cases ry
  rcases hs with ⟨h1,h2⟩|⟨h1,h2⟩
  ·obtain⟨us,r1,p1,_⟩:=I.list h1
   obtain⟨vs,r2,p2,_⟩:=I.list h2
   have l1:=r1.length
   have l2:=r2.length
   by_cases hl:xs.length=ys.length
   ·refine SeqAt.RcNeAt.lists p1.isList p2.isList (by rw[List.size_toArray,List.size_toArray];omega) (by omega) (xQ I (n:=7) (A:=X.A) (by omega) he r1 r2) X.prog X.w X.xe _ ?_
    rw[List.size_toArray,<-l1]
    rw[eb,hl,beq_self_eq_true,Bool.true_and,<-hl] at fin
    exact fin
   ·refine SeqAt.RcNeAt.lists_lengths p1.isList p2.isList (by rw[List.size_toArray,List.size_toArray];simp;omega) (by omega) X.prog X.w X.xe _ ?_
    rw[eb,show(xs.length == ys.length)=false by simpa using hl,Bool.false_and] at fin
    exact fin
  ·obtain⟨us,r1,p1,_⟩:=I.tuple h1
   obtain⟨vs,r2,p2,_⟩:=I.tuple h2
   have l1:=r1.length
   have l2:=r2.length
   refine SeqAt.RcNeAt.tuples p1 p2 (by omega) (xQ I (n:=7) (A:=X.A) (by omega) he r1 r2) X.prog X.w X.xe _ ?_
   rw[List.size_toArray,List.size_toArray,<-l1,<-l2]
   rw[eb] at fin
   by_cases hl:xs.length=ys.length
   ·rw[hl,beq_self_eq_true,Bool.true_and] at fin
    rw[hl,Nat.min_self,beq_self_eq_true,Bool.and_true]
    exact fin
   ·have hb:(xs.length == ys.length)=false:=by simpa using hl
    rw[hb,Bool.false_and] at fin
    rw[hb,Bool.and_false]
    exact fin
def IsI(K:W.Frag)(H:Hp)(x:V)(c:V)(b:Bool):Prop:=∃t,zZ K H x t/\((∃T,c=.ty T/\PySem.W.kitOne K t (.type T)=some b)\/(∃C,c=.ref C/\PySem.W.kitOne K t (.ref C)=some b))
theorem aKL:eA X (.builtin "isinstance") (fun xs H Q=>∃x c b,xs=[x,c]/\IsI X.K H x c b/\Q (.bl b) H):=by
 intro P9 s σ H xs us Q I r h
 obtain⟨x,c,b,rfl,⟨t,ty,hc⟩,q⟩:=h
 obtain⟨u,w',rfl,rx,ry⟩:=vals2 r
 rcases hc with ⟨T,rfl,e⟩|⟨C,rfl,e⟩
 ·cases ry
  exact aEP I rx ty e fun tk=>⟨.bl b,H,I.tok _,rfl,q⟩
 ·cases ry
  exact aEP I rx ty e fun tk=>⟨.bl b,H,I.tok _,rfl,q⟩
end
end L2
namespace L2
open PySem PySem.Spec PyProof.Rows
section
variable{X:Cx}
def gIx(K:W.Frag):V->V->Hp->VK->Prop:=fun x y H Q=>∃p xs i v,x=.ref p/\y=.int i/\bR K H p xs/\0<=i/\xs[i.toNat]?=some v/\Q v H
theorem aN2:aNy X (gIx X.K):=by
 intro P9 s σ H x y v u Q I rx ry h
 obtain⟨p,xs,i,z,rfl,rfl,hq,h0,he,q⟩:=h
 cases rx
 obtain⟨t,rfl⟩:=ry
 obtain⟨its,r,pl,hz⟩:=I.list hq
 obtain⟨w,ew,rw'⟩:=r.get he
 have hl:=r.length
 have hn:=aBb
 have hi:i.toNat < xs.length:=(List.getElem?_eq_some_iff.mp he).1
 exact wpAny_getItem_list pl.isList h0 (by omega) (by simpa using ew) ⟨z,H,I,rw',q⟩
theorem jI{k:Nat}{A:Around}(hr:fD k A):A.units+9 < cLine:=by have:=hr.un;omega
end
section
variable{σ:St}{H:Hp}{nx bk ct:St->Hp->Prop}{rt:VK}{Q:VK}{QT:Bool->Hp->Prop}{QA:List V->Hp->Prop}{QG:St->Hp->Prop}
theorem aO{t:TS}{D:Ends}{σ σ':St}(e:σ'=σ)(h:t D σ H):t D σ' H:=e▸h
theorem aKM{t u:TS}(h:t ⟨u ⟨nx,rt,bk,ct⟩,rt,bk,ct⟩ σ H):aKe t u ⟨nx,rt,bk,ct⟩ σ H:=h
theorem aMl(h:nx σ H):aKd ⟨nx,rt,bk,ct⟩ σ H:=h
theorem aN3{te:TE}{g:TG}(h:te σ H fun x H1=>g x σ H1 nx):aHD te g ⟨nx,rt,bk,ct⟩ σ H:=h
theorem aMm{te:TE}(h:te σ H fun _ H1=>nx σ H1):aKf te ⟨nx,rt,bk,ct⟩ σ H:=h
theorem aN4{te:TE}(h:te σ H rt):aNs te ⟨nx,rt,bk,ct⟩ σ H:=h
theorem aN5{c:TT}{t u:TS}(h:c σ H fun b H1=>if b=true then t ⟨nx,rt,bk,ct⟩ σ H1 else u ⟨nx,rt,bk,ct⟩ σ H1):aNt c t u ⟨nx,rt,bk,ct⟩ σ H:=h
theorem aN6{i j:Nat}{ta:TA}(h:ta σ H fun vs H1=>∃v w,vs=[v,w]/\nx ((σ.set i (some v)).set j (some w)) H1):aNw i j ta ⟨nx,rt,bk,ct⟩ σ H:=h
theorem aFs{i:Nat}{te:TE}{ti:TIp}{x:V}(e:σ[i]?=some (some x))(h:te σ H fun y H1=>ti x y H1 fun z H2=>nx (σ.set i (some z)) H2):aNx i te ti ⟨nx,rt,bk,ct⟩ σ H:=⟨x,e,h⟩
theorem aMn{to ti te:TE}{tget:V->V->Hp->VK->Prop}{tip:TIp}{tset:aFh}(h:to σ H fun o H1=>ti σ H1 fun i H2=>tget o i H2 fun x H3=>te σ H3 fun y H4=>tip x y H4 fun z H5=>tset o i z H5 fun H6=>nx σ H6):aKi to ti te tget tip tset ⟨nx,rt,bk,ct⟩ σ H:=h
theorem aN7{wi:TI}{g:TG}{tb:TS}(h:wi σ H fun J H1=>∃W:Nat->Nat->St->Hp->Prop,(∃m,W 0 m σ H1)/\∀i m σ H,W i m σ H->
 (J.stop i H/\nx σ H)\/(J.go i H/\∃N:St->Hp->Prop,(∀σ' H',N σ' H'->∃m',m' < m/\W (i+1) m' σ' H')/\∀x H',J.yld i H x H'->g x σ H' fun σ2 H2=>tb ⟨N,rt,nx,N⟩ σ2 H2)):aNB wi g tb ⟨nx,rt,bk,ct⟩ σ H:=h
theorem aKN{i:Nat}{v:V}{σ':St}(e:σ.set i (some v)=σ')(h:QG σ' H):vO i v σ H QG:=by unfold vO;rw[e];exact h
theorem eJ{K:W.Frag}{n:Nat}{t:TGs}{a:Addr}{xs:List V}(h1:kR K H a xs)(h2:xs.length=n)(h:t xs σ H QG):aL3 K n t (.ref a) σ H QG:=⟨a,xs,rfl,h1,h2,h⟩
theorem aMo(h:QG σ H):aL2 [] σ H QG:=⟨rfl,h⟩
theorem aKO{t:TG}{u:TGs}{v:V}{r:List V}(h:t v σ H fun σ' H'=>u r σ' H' QG):aIz t u (v::r) σ H QG:=⟨v,r,rfl,h⟩
theorem aMp{to ti:TE}{t:aFh}{v:V}(h:to σ H fun o H1=>ti σ H1 fun i H2=>t o i v H2 fun H3=>QG σ H3):aNv to ti t v σ H QG:=h
theorem aAd{p:Addr}{xs:List V}{k:Int}{v:V}{j:Nat}{QH:Hp->Prop}(h1:H p=some (.lst xs))(h2:ixN xs.length k=some j)(h:QH (upd H p (.lst (xs.set j v)))):aM9 (.ref p) (.int k) v H QH:=⟨p,xs,k,j,rfl,rfl,h1,h2,h⟩
theorem aN8{K:W.Frag}{p:Addr}{xs:List V}{i:Int}{v:V}(h1:bR K H p xs)(h0:0<=i)(h2:xs[i.toNat]?=some v)(h:Q v H):gIx K (.ref p) (.int i) H Q:=⟨p,xs,i,v,rfl,rfl,h1,h0,h2,h⟩
theorem aN9{f:Int->Int->Int}{i j:Int}(h:Q (.int (f i j)) H):ipI f (.int i) (.int j) H Q:=⟨i,j,rfl,rfl,h⟩
theorem aOa{i:Nat}{v:V}(e:σ[i]?=some (some v))(h:Q v H):aNo i σ H Q:=⟨v,e,h⟩
theorem aPI{v:V}(h:Q v H):tC v σ H Q:=h
theorem aO5{r:R2}{ta tb:TE}(h:ta σ H fun x H1=>tb σ H1 fun y H2=>r x y H2 Q):tOp r ta tb σ H Q:=h
theorem aO6{r:V->Hp->VK->Prop}{ta:TE}(h:ta σ H fun x H1=>r x H1 Q):tUn r ta σ H Q:=h
theorem aOb{g:Int->Int->V}{i j:Int}(h:Q (g i j) H):rI0 g (.int i) (.int j) H Q:=⟨i,j,rfl,rfl,h⟩
theorem aO7{C:Int->Int->Prop}{g:Int->Int->V}{i j:Int}(c:C i j)(h:Q (g i j) H):rI C g (.int i) (.int j) H Q:=⟨i,j,rfl,rfl,c,h⟩
theorem aO8{g:Int->V}{i:Int}(h:Q (g i) H):rU g (.int i) H Q:=⟨i,rfl,h⟩
theorem aMq{i j:Int}(h:Q (.int (i+j)) H):aKI (.int i) (.int j) H Q:=.inl ⟨i,j,rfl,rfl,h⟩
theorem xR{l b:Addr}{xs zs:List V}(h1:H l=some (.lst xs))(h2:H b=some (.lst zs))(hz:xs.length+zs.length<=sizeLine)(h:∀p,H p=none->Q (.ref p) (upd H p (.lst (xs++zs)))):aKI (.ref l) (.ref b) H Q:=.inr ⟨l,b,xs,zs,rfl,rfl,h1,h2,hz,h⟩
theorem aMr{i j:Int}(c:aKl i j)(h:Q (.int (i*j)) H):aNc (.int i) (.int j) H Q:=.inl ⟨i,j,rfl,rfl,c,h⟩
theorem aCP{K:W.Frag}{p:Addr}{xs:List V}{i:Int}{v:V}(h1:bR K H p xs)(h2:xP xs i=some v)(h:Q v H):rIx K (.ref p) (.int i) H Q:=.inl ⟨p,xs,i,v,rfl,rfl,h1,h2,h⟩
theorem aOc{K:W.Frag}{p:Addr}{xs:List V}{i:Int}{v:V}(h1:kR K H p xs)(h2:xP xs i=some v)(h:Q v H):rIx K (.ref p) (.int i) H Q:=.inr (.inl ⟨p,xs,i,v,rfl,rfl,h1,h2,h⟩)
theorem aO9{r:V->Option Int->Option Int->Hp->VK->Prop}{te:TE}{tl th:TO}(h:te σ H fun x H1=>tl σ H1 fun l H2=>th σ H2 fun u H3=>r x l u H3 Q):tSl r te tl th σ H Q:=h
theorem aJA{QO:Option Int->Hp->Prop}(h:QO none H):aFm σ H QO:=h
theorem aMs{t:TE}{QO:Option Int->Hp->Prop}(h:t σ H fun x H1=>∃i,x=.int i/\QO (some i) H1):aKw t σ H QO:=h
theorem aBh{K:W.Frag}{a:Addr}{xs:List V}{lo hi:Option Int}(h1:bR K H a xs)(h:∀p,H p=none->Q (.ref p) (upd H p (.lst (pV xs lo hi)))):aJz K (.ref a) lo hi H Q:=.inl ⟨a,xs,rfl,h1,h⟩
theorem aMt{ta tb:TE}(h:ta σ H fun x H1=>∃c,x=.bl c/\if c=true then tb σ H1 Q else Q (.bl false) H1):aKb ta tb σ H Q:=h
theorem aOd{ta tb:TE}(h:ta σ H fun x H1=>∃c,x=.bl c/\if c=true then Q (.bl true) H1 else tb σ H1 Q):aNr ta tb σ H Q:=h
theorem aMu{ta:TE}(h:ta σ H fun x H1=>∃c,x=.bl c/\Q (.bl (!c)) H1):aKc ta σ H Q:=h
theorem aOe{t:TT}{ta tb:TE}(h:t σ H fun c H1=>if c=true then ta σ H1 Q else tb σ H1 Q):tIf t ta tb σ H Q:=h
theorem aKP{r r':R2}{ta tb tc:TE}(h:ta σ H fun x H1=>tb σ H1 fun y H2=>r x y H2 fun z H3=>∃k,z=.bl k/\(if k=true then tc σ H3 fun w' H4=>r' y w' H4 Q else Q (.bl false) H3)):aHG r r' ta tb tc σ H Q:=h
theorem aMv{t:TE}(h:t σ H fun x H'=>∃k,x=.bl k/\QT k H'):aKm t σ H QT:=h
theorem aPa{t:TE}(h:t σ H fun x H'=>∃k,x=.bl k/\QT k H'):tB t σ H QT:=h
theorem aOf{t u:TT}(h:t σ H fun c H1=>if c=true then u σ H1 QT else QT false H1):aNp t u σ H QT:=h
theorem aPb{t u:TT}(h:t σ H fun c H1=>if c=true then QT true H1 else u σ H1 QT):tOr t u σ H QT:=h
theorem aOg{t:TT}(h:t σ H fun c H1=>QT (!c) H1):aNq t σ H QT:=h
theorem aOh(h:QT true H):aNZ σ H QT:=h
theorem aPc{b:Bool}{P:Bool->Prop}(h:P b):∃k,V.bl b=V.bl k/\P k:=⟨b,rfl,h⟩
theorem aMw{i:Int}{P:Int->Prop}(h:P i):∃k,V.int i=V.int k/\P k:=⟨i,rfl,h⟩
theorem aPd{i:Int}{P:Int->Prop}(h:P i):∃k,[V.int i]=[V.int k]/\P k:=⟨i,rfl,h⟩
theorem aPe{i j:Int}{P:Int->Int->Prop}(h:P i j):∃k l,[V.int i,V.int j]=[V.int k,V.int l]/\P k l:=⟨i,j,rfl,h⟩
theorem aOi(h:QA [] H):oV σ H QA:=h
theorem aMx{ta:TE}{tr:TA}(h:ta σ H fun x H1=>tr σ H1 fun xs H2=>QA (x::xs) H2):bG ta tr σ H QA:=h
theorem aOj{t:TA}(h:t σ H fun xs H1=>xs.length<=sizeLine/\∀p,H1 p=none->Q (.ref p) (upd H1 p (.tup xs))):aGx t σ H Q:=h
theorem aOk{t:TA}(h:t σ H fun xs H1=>xs.length<=sizeLine/\∀p,H1 p=none->Q (.ref p) (upd H1 p (.lst xs))):y6 t σ H Q:=h
theorem aMy{sp:Sp}{E:XK}{t:TA}(h:t σ H fun vs H1=>sp vs H1 Q E):aGy sp [] E t σ H Q:=by
 unfold aGy
 simpa only [List.append_nil] using h
theorem aPf{r:List V->Hp->VK->Prop}{t:TA}(h:t σ H fun vs H1=>r vs H1 Q):tCB r t σ H Q:=h
theorem aMz{wi:TI}{k:Nat}{idx:List Nat}{g:TG}{tt:TT}{te:TE}(h:wi σ H fun J H1=>rL J (cσ k idx σ) g tt te (fun ys H'=>∀p,H' p=none->Q (.ref p) (upd H' p (.lst ys))) H1):aGN wi k idx g tt te σ H Q:=h
theorem aKQ{ta:TA}{R:It->Hp->Prop}(h:ta σ H fun vs H1=>∃j:Int,vs=[.int j]/\-(2 ^ 62)<=j/\j < 2 ^ 62/\R (Itr 0 j.toNat) H1):aIA ta σ H R:=h
theorem aKR{ta:TA}{R:It->Hp->Prop}(h:ta σ H fun vs H1=>∃i j:Int,vs=[.int i,.int j]/\(-(2 ^ 62)<=i/\i < 2 ^ 62/\-(2 ^ 62)<=j/\j < 2 ^ 62)/\R (Itr i (j - i).toNat) H1):aIB ta σ H R:=h
theorem aOl{K:W.Frag}{ta:TE}{f:Str}(h:ta σ H fun x H1=>∃a C dx fs v,x=.ref a/\H1 a=some (.ins C dx fs)/\Cls K C/\cP K C f/\fs.lookup f=some v/\Q v H1):aNF K ta f σ H Q:=h
theorem aMA{n:Nat}{P:Prop}(h1:n<=sizeLine)(h:P):n<=sizeLine/\P:=⟨h1,h⟩
theorem cD{n:Nat}(h:n<=16777216):n<=sizeLine:=by rw[sizeLine_eq];exact h
end
section
variable{A B:Prop}{c:Prop}[Decidable c]
theorem cA(h1:c->A)(h2:¬c->B):if decide c=true then A else B:=by
 by_cases h:c
 ·rw[if_pos (decide_eq_true h)];exact h1 h
 ·rw[if_neg (by simpa using h)];exact h2 h
theorem aCx(h1:¬c->A)(h2:c->B):if (!decide c)=true then A else B:=by
 by_cases h:c
 ·rw[if_neg (by simpa using h)];exact h2 h
 ·rw[if_pos (by simpa using h)];exact h1 h
theorem iR{b:Bool}(h1:b=true->A)(h2:b=false->B):if b=true then A else B:=by
 cases b
 ·exact aMh (h2 rfl)
 ·exact aNY (h1 rfl)
end
def aNd(sc:Scope)(NX:List Str)(scope:Scope)(N:List Str)(k:Nat)(idx:List Nat):Bool:=
 scope.names.all (fun y=>!(y.2 == .cell)) && scope.names.all (fun y=>!(y.2 == .local) || scope.names.lookup y.1 == some .local) &&
 scope.names.all (fun y=>!(y.2 == .free) || (sc.names.lookup y.1 == some .cell || sc.names.lookup y.1 == some .free)) &&
 decide N.Nodup && decide (N.length=k+idx.length) && (List.range idx.length).all fun i=>
  match (N.drop k)[i]?,idx[i]? with
  |some x,some j=>decide (NX[j]?=some x) && scope.names.lookup x == some .free
  |_,_=>false
theorem cQ{X:Cx}{scope:Scope}{N:List Str}{k:Nat}{idx:List Nat}{sc:Scope}{NX:List Str}(hsc:X.env.scope=sc)(hN:X.N=NX)(hk:scope.kind=.function)(h:aNd sc NX scope N k idx=true):eR X scope N k idx:=by
 unfold aNd at h
 simp only[Bool.and_eq_true,decide_eq_true_eq] at h
 obtain⟨⟨⟨⟨⟨h1,h2⟩,h3⟩,h4⟩,h5⟩,h6⟩:=h
 rw[List.all_eq_true] at h1 h2 h3 h6
 refine⟨hk,fun y hy e=>?_,fun y hy e=>?_,fun y hy e=>?_,h4,h5,fun i x e=>?_⟩
 ·have:=h1 y hy
  rw[e] at this
  simp at this
 ·have:=h2 y hy
  rw[e] at this
  simpa using this
 ·have:=h3 y hy
  rw[e] at this
  show X.env.scope.names.lookup y.1=_\/X.env.scope.names.lookup y.1=_
  rw[hsc]
  simpa using this
 ·have hi:i < (N.drop k).length:=(List.getElem?_eq_some_iff.mp e).1
  have hi2:i < idx.length:=by rw[List.length_drop] at hi;omega
  have q:=h6 i (List.mem_range.mpr hi2)
  rw[e,List.getElem?_eq_getElem hi2] at q
  simp only[Bool.and_eq_true,decide_eq_true_eq] at q
  exact⟨idx[i],List.getElem?_eq_getElem hi2,by rw[hN];exact q.1,by simpa using q.2⟩
theorem bC{H:Hp}{a b:Addr}{o:HO}(h':H b=none)(h:H a=some o):a≠b:=bF h h'
theorem aI.at{H H':Hp}{b:Addr}{o:HO}(e:aI H H')(h:H b=some o):H' b=some o:=e b o h
def bX(p:Addr)(H H':Hp):Prop:=∀b o,H b=some o->b≠p->H' b=some o
theorem bX.at{p:Addr}{H H':Hp}{b:Addr}{o:HO}(e:bX p H H')(h:H b=some o)(n:b≠p):H' b=some o:=e b o h n
theorem aI.new{H:Hp}{p:Addr}{o:HO}(h:H p=none):aI H (upd H p o):=fun b u e=>by rw[aR (bF e h)];exact e
theorem bX.upd{H:Hp}{p:Addr}{o:HO}:bX p H (upd H p o):=fun b u e n=>by rw[aR n];exact e
theorem bX.trans{p:Addr}{H H1 H2:Hp}(a:bX p H H1)(b:bX p H1 H2):bX p H H2:=fun c o h n=>b c o (a c o h n) n
theorem aI.keep{p:Addr}{H H':Hp}(a:aI H H'):bX p H H':=fun c o h _=>a c o h
end L2
namespace L2
open PySem PySem.Spec PyProof.Rows
section
variable{σ:St}{H:Hp}{nx bk ct:St->Hp->Prop}{rt:VK}
theorem iS{t u:TS}(J:St->Hp->Prop)(h1:∀N:St->Hp->Prop,(∀σ' H',J σ' H'->N σ' H')->t ⟨N,rt,bk,ct⟩ σ H)(h2:∀σ' H',J σ' H'->u ⟨nx,rt,bk,ct⟩ σ' H'):aKe t u ⟨nx,rt,bk,ct⟩ σ H:=h1 _ h2
end
theorem aBi{K:W.Frag}{a:Addr}{xs:List V}{σ₀:St}{g:TG}{tt:TT}{te:TE}{R:List V->Hp->Prop}{H:Hp}(f:V->V)(hS:bR K H a xs)(hz:xs.length<=sizeLine)
  (hs:∀x (N:V->Hp->Prop) (N':Hp->Prop),x∈xs->N (f x) H->g x σ₀ H fun σ2 H2=>tt σ2 H2 fun b H3=>if b=true then te σ2 H3 fun y H4=>N y H4 else N' H3)
  (hd:R (xs.map f) H):rL (Itl K a) σ₀ g tt te R H:=by
 refine gR (fun i ys H'=>H'=H/\ys=(xs.take i).map f) ⟨rfl,by simp⟩ hz (fun i ys H' hi ⟨e1,e2⟩=>?_) (fun i x ys H' hx ⟨e1,e2⟩=>?_) (fun ys H' ⟨e1,e2⟩=>?_)
 ·subst e1 e2
  exact⟨hS,by simp;omega⟩
 ·subst e1 e2
  refine hs x (fun y H4=>H4=H'/\(xs.take i).map f ++ [y]=(xs.take (i+1)).map f) (fun H3=>H3=H'/\(xs.take i).map f=(xs.take (i+1)).map f) (List.mem_of_getElem? hx) ⟨rfl,?_⟩
  rw[List.take_add_one,hx,List.map_append]
  rfl
 ·subst e1 e2
  rw[List.take_length]
  exact hd
theorem aHV{lo:Int}{n:Nat}{σ₀:St}{g:TG}{tt:TT}{te:TE}{R:List V->Hp->Prop}{H:Hp}(f:Nat->V)(hz:n<=sizeLine)
  (hs:∀i (N:V->Hp->Prop) (N':Hp->Prop),i < n->N (f i) H->g (.int (lo+i)) σ₀ H fun σ2 H2=>tt σ2 H2 fun b H3=>if b=true then te σ2 H3 fun y H4=>N y H4 else N' H3)
  (hd:R ((List.range n).map f) H):rL (Itr lo n) σ₀ g tt te R H:=by
 refine oY (fun i ys H'=>H'=H/\ys=(List.range i).map f) ⟨rfl,by simp⟩ hz (fun i ys H' hi ⟨e1,e2⟩=>?_) (fun i ys H' hi ⟨e1,e2⟩=>?_) (fun ys H' ⟨e1,e2⟩=>?_)
 ·subst e1 e2
  simp
 ·subst e1 e2
  refine hs i (fun y H4=>H4=H'/\(List.range i).map f ++ [y]=(List.range (i+1)).map f) (fun H3=>H3=H'/\(List.range i).map f=(List.range (i+1)).map f) hi ⟨rfl,?_⟩
  rw[List.range_succ,List.map_append]
  rfl
 ·subst e1 e2
  exact hd
theorem xS{X:Cx}{x:Str}{n:Int}{pos:Pos}(hg:Gl X x)(hm:∃t,X.mg x=some (.int n t))(hd:(x == ("__debug__" : Str))=false:=by decide):PE X (.Name x pos) (tC (.int n)):=by
 obtain⟨t,hm⟩:=hm
 exact zV (v:=.int n) hg hm ⟨t,rfl⟩ hd
section
variable{X:Cx}{K:W.Frag}{H:Hp}{Q:VK}
def vI(K:W.Frag):List V->Hp->VK->Prop:=fun xs H Q=>∃x n,xs=[x]/\aOS K x H n/\Q (.int n) H
theorem cR:eA X (.builtin "len") (vI X.K):=aKo
theorem aMB{p:Addr}{xs:List V}(h:bR K H p xs)(q:Q (.int xs.length) H):vI K [.ref p] H Q:=⟨_,_,rfl,.inl ⟨_,h,rfl⟩,q⟩
theorem aMC{p:Addr}{xs:List V}(h:kR K H p xs)(q:Q (.int xs.length) H):vI K [.ref p] H Q:=⟨_,_,rfl,.inr ⟨_,h,rfl⟩,q⟩
def aPg:List V->Hp->VK->Prop:=fun xs H Q=>∃i,xs=[.int i]/\Q (.int (if i < 0 then -i else i)) H
theorem aJB:eA X (.builtin "abs") aPg:=aKn
theorem aOm{i:Int}(h:Q (.int (if i < 0 then -i else i)) H):aPg [.int i] H Q:=⟨i,rfl,h⟩
def aPh:List V->Hp->VK->Prop:=fun xs H Q=>∃i j,xs=[.int i,.int j]/\Q (.int (if j > i then j else i)) H
theorem jJ(hc:X.calm=true):eA X (.builtin "max") aPh:=aJk hc
theorem aOn{i j:Int}(h:Q (.int (max i j)) H):aPh [.int i,.int j] H Q:=⟨i,j,rfl,by
 rw[show(if j > i then j else i)=max i j by split <;> omega];exact h⟩
def aPi:List V->Hp->VK->Prop:=fun xs H Q=>∃i j,xs=[.int i,.int j]/\Q (.int (if j < i then j else i)) H
theorem kS(hc:X.calm=true):eA X (.builtin "min") aPi:=aJl hc
theorem aOo{i j:Int}(h:Q (.int (min i j)) H):aPi [.int i,.int j] H Q:=⟨i,j,rfl,by
 rw[show(if j < i then j else i)=min i j by split <;> omega];exact h⟩
def aNe:List V->Hp->VK->Prop:=fun xs H Q=>(∃i,xs=[.int i]/\Q (.int i) H)\/∃k,xs=[.bl k]/\Q (.int (if k then 1 else 0)) H
theorem aEW:eA X (.type "int") aNe:=aJm
theorem aMD{b:Bool}(h:Q (.int (if b then 1 else 0)) H):aNe [.bl b] H Q:=.inr ⟨b,rfl,h⟩
def aCQ(K:W.Frag):List V->Hp->VK->Prop:=fun xs H Q=>∃x c b,xs=[x,c]/\IsI K H x c b/\Q (.bl b) H
theorem gS:eA X (.builtin "isinstance") (aCQ X.K):=aKL
theorem tG{x c:V}{b:Bool}(h1:IsI K H x c b)(h:Q (.bl b) H):aCQ K [x,c] H Q:=⟨x,c,b,rfl,h1,h⟩
def tH(K:W.Frag):List V->Hp->VK->Prop:=fun xs H Q=>∃p ys,xs=[.ref p]/\(bR K H p ys\/kR K H p ys)/\∀l,H l=none->Q (.ref l) (upd H l (.lst ys))
theorem o5:eA X (.type "list") (tH X.K):=aFp
theorem vX{p:Addr}{ys:List V}(h1:bR K H p ys)(h:∀l,H l=none->Q (.ref l) (upd H l (.lst ys))):tH K [.ref p] H Q:=⟨p,ys,rfl,.inl h1,h⟩
end
theorem aFt{K:W.Frag}{H:Hp}{p q:Addr}{xs:List V}(h1:bR K H p xs)(h2:bR K H q []):EqN K H 8 (.ref p) (.ref q) xs.isEmpty:=
 .inr ⟨p,q,xs,[],fun _=>true,rfl,rfl,.inl ⟨h1,h2⟩,fun j u v _ e=>by simp at e,by cases xs <;> simp⟩
theorem aKS{xs:List V}{n:Nat}(h:xs.length<=n):pV xs none (some (n:Int))=xs:=by
 unfold pV
 rw[HT.aGB,HT.aID,Nat.min_eq_right h,List.drop_zero,Nat.sub_zero,List.take_length]
end L2
namespace L2
open PySem PySem.Spec PyProof.Rows
section
variable{σ:St}{H:Hp}{nx:St->Hp->Prop}{rt:VK}{g:TG}{tb:TS}{Q:VK}
theorem sC{lo:Int}{n:Nat}(Pv:Nat->St->Hp->Prop)(h0:Pv 0 σ H)
  (hs:∀i σ H,i < n->Pv i σ H->g (.int (lo+i)) σ H fun σ2 H2=>tb ⟨Pv (i+1),rt,nx,Pv (i+1)⟩ σ2 H2) (hd:∀σ H,Pv n σ H->nx σ H) :
  ∃W:Nat->Nat->St->Hp->Prop,(∃m,W 0 m σ H)/\∀i m σ H,W i m σ H->
   ((Itr lo n).stop i H/\nx σ H)\/((Itr lo n).go i H/\∃N:St->Hp->Prop,(∀σ' H',N σ' H'->∃m',m' < m/\W (i+1) m' σ' H')/\∀x H',(Itr lo n).yld i H x H'->g x σ H' fun σ2 H2=>tb ⟨N,rt,nx,N⟩ σ2 H2):=
 aJj (D:=⟨nx,rt,fun _ _=>False,fun _ _=>False⟩) Pv h0 hs hd
theorem xT{K:W.Frag}{a:Addr}{xs:List V}(Pv:Nat->St->Hp->Prop)(h0:Pv 0 σ H)(hl:∀i σ H,i<=xs.length->Pv i σ H->bR K H a xs)
  (hs:∀i x σ H,xs[i]?=some x->Pv i σ H->g x σ H fun σ2 H2=>tb ⟨Pv (i+1),rt,nx,Pv (i+1)⟩ σ2 H2) (hd:∀σ H,Pv xs.length σ H->nx σ H) :
  ∃W:Nat->Nat->St->Hp->Prop,(∃m,W 0 m σ H)/\∀i m σ H,W i m σ H->
   ((Itl K a).stop i H/\nx σ H)\/((Itl K a).go i H/\∃N:St->Hp->Prop,(∀σ' H',N σ' H'->∃m',m' < m/\W (i+1) m' σ' H')/\∀x H',(Itl K a).yld i H x H'->g x σ H' fun σ2 H2=>tb ⟨N,rt,nx,N⟩ σ2 H2):=
 aKk (D:=⟨nx,rt,fun _ _=>False,fun _ _=>False⟩) Pv h0 hl hs hd
theorem aKT{K:W.Frag}{a:Addr}{xs:List V}(Pv:Nat->St->Hp->Prop)(h0:Pv 0 σ H)(hl:∀i σ H,i<=xs.length->Pv i σ H->kR K H a xs)
  (hs:∀i x σ H,xs[i]?=some x->Pv i σ H->g x σ H fun σ2 H2=>tb ⟨Pv (i+1),rt,nx,Pv (i+1)⟩ σ2 H2) (hd:∀σ H,Pv xs.length σ H->nx σ H) :
  ∃W:Nat->Nat->St->Hp->Prop,(∃m,W 0 m σ H)/\∀i m σ H,W i m σ H->
   ((Itt K a).stop i H/\nx σ H)\/((Itt K a).go i H/\∃N:St->Hp->Prop,(∀σ' H',N σ' H'->∃m',m' < m/\W (i+1) m' σ' H')/\∀x H',(Itt K a).yld i H x H'->g x σ H' fun σ2 H2=>tb ⟨N,rt,nx,N⟩ σ2 H2):=
 aL5 (D:=⟨nx,rt,fun _ _=>False,fun _ _=>False⟩) Pv h0 hl hs hd
theorem aOp{K:W.Frag}{i j:Int}(h:Q (.bl (decide (i=j))) H):oZ K (.int i) (.int j) H Q:=⟨_,.inl ⟨rfl,rfl,rfl⟩,h⟩
theorem aOq{K:W.Frag}{i j:Int}(h:Q (.bl (!decide (i=j))) H):aFr K (.int i) (.int j) H Q:=⟨_,.inl ⟨rfl,rfl,rfl⟩,h⟩
end
end L2
namespace L2
open PySem PySem.Spec PyProof.Rows
def noStar:Expr->Bool
 |.Starred _ _=>false
 |_=>true
theorem bM{e:Expr}{es:List Expr}{env:Env}(h:noStar e=true):starEach (e::es) env=(false,eval e env)::starEach es env:=by
 cases e <;> first|rfl|exact absurd h Bool.false_ne_true
theorem jW{env:Env}{pos:Pos}:∀{es:List Expr},es.all noStar=true->(backTo pos (starEach es env)).any (·.1)=false
 |[],_=>rfl
 |e::es,h=>by
  rw[List.all_cons,Bool.and_eq_true] at h
  rw[bM h.1]
  have ih:=jW (env:=env) (pos:=pos) h.2
  unfold backTo at ih ⊢
  rw[List.map_cons,List.any_cons]
  rw[ih]
  rfl
section
variable{X:Cx}{CX:CXT}{k:Nat}{f C:Addr}{fd:FuncData}{ps:List Str}{sp:Sp}{dvs:List V}{ds:List Value}{E:XK}{x m:Str}{p pos apos:Pos}{e o:Expr}{es:List Expr}{ta te:TE}{t:TA}
theorem aE(ha:PE X e te)(hr:PA X es t)(hs:noStar e=true:=by rfl):PA X (e::es) (bG te t):=aL9 ha hr (bM hs)
theorem iM{e:Expr}{es:List Expr}(h:(e::es).all noStar=true):noStar e=true/\es.all noStar=true:=by
 rw[List.all_cons,Bool.and_eq_true] at h
 exact h
theorem aF(F:bL X.prog X.w X.K X.mg X.base CX k f fd ps sp)(hr:fD k X.A)(hg:Gl X x)(hm:X.mg x=some (.ref f))(hk:W.keepIn X.K (.ref f)=true)(hb:Binds X.K fd ps ds)(hd:Vals dvs ds)(hx:Passes CX X E)
  (ha:PA X (e::es) t) (hn:(e::es).all noStar=true:=by rfl) (hdb:(x == ("__debug__" : Str))=false:=by decide):PE X (.Call (.Name x p) (e::es) [] pos) (aGy sp dvs E t):=
 aMa F hr hg hm hk hb hd hx ha hdb (bM (iM hn).1) (jW (iM hn).2)
theorem vY(M:Mk X.K C f)(F:bL X.prog X.w X.K X.mg X.base CX k f fd ps sp)(hr:fD (k+1) X.A)(hg:Gl X x)(hm:X.mg x=some (.ref C))(hb:Binds X.K fd ps ds)(hd:Vals dvs ds)(hx:Passes CX X E)
  (ha:PA X (e::es) t) (hn:(e::es).all noStar=true:=by rfl) (hdb:(x == ("__debug__" : Str))=false:=by decide):PE X (.Call (.Name x p) (e::es) [] pos) (aGz C sp dvs E t):=
 aMb M F hr hg hm hb hd hx ha hdb (bM (iM hn).1) (jW (iM hn).2)
variable{id T:String}{r:List V->Hp->VK->Prop}
theorem aP(hc:eA X (.builtin id) r)(hg:Gl X x)(hm:X.mg x=none)(hv:bootBuiltins x=some (.builtin id))(ha:PA X (e::es) t)(hn:(e::es).all noStar=true:=by rfl)(hne:x≠"__name__":=by decide)(hdb:(x == ("__debug__" : Str))=false:=by decide) :
  PE X (.Call (.Name x p) (e::es) [] pos) (tCB r t):=aKu hc hg hm hv ha hne hdb (bM (iM hn).1) (jW (iM hn).2)
theorem cE(hc:eA X (.type T) r)(hg:Gl X x)(hm:X.mg x=none)(hv:bootBuiltins x=some (.type T))(ha:PA X (e::es) t)(hn:(e::es).all noStar=true:=by rfl)(hne:x≠"__name__":=by decide)(hdb:(x == ("__debug__" : Str))=false:=by decide) :
  PE X (.Call (.Name x p) (e::es) [] pos) (tCB r t):=aJq hc hg hm hv ha hne hdb (bM (iM hn).1) (jW (iM hn).2)
variable{tg a b:Expr}
theorem dC(hg:Gl X "range")(hm:X.mg "range" = none)(ha:PA X [a] t)(hn:noStar a=true:=by rfl):PI X tg (.Call (.Name "range" p) [a] [] pos) (aIA t):=aJg hg hm ha (bM hn)
theorem y8(hg:Gl X "range")(hm:X.mg "range" = none)(ha:PA X [a,b] t)(hn:noStar a=true:=by rfl)(hn2:noStar b=true:=by rfl):PI X tg (.Call (.Name "range" p) [a,b] [] pos) (aIB t):=
 aJh hg hm ha (by rw[bM hn,bM hn2];rfl) (bM hn2)
end
end L2
namespace L2
open PySem PySem.Spec PyProof.Rows
section
variable{X:Cx}{pos:Pos}{x1:Nat}{e1 e2 e3 e4 e5 e6 e7 e8:Expr}{t1 t2 t3 t4 t5 t6 t7 t8:TE}
theorem aFu(h1:PE X e1 t1)(n1:noStar e1=true:=by rfl):PE X (.List [e1] pos) (y6 (bG t1 oV)):=jU (aE h1 aC n1)
theorem aCR(h1:PE X e1 t1)(h2:PE X e2 t2)(n1:noStar e1=true:=by rfl)(n2:noStar e2=true:=by rfl):PE X (.List [e1,e2] pos) (y6 (bG t1 (bG t2 oV))):=jU (aE h1 (aE h2 aC n2) n1)
theorem rN{k1}(h1:PE X e1 t1)(h2:PE X e2 t2)(n1:noStar e1=true:=by rfl)(n2:noStar e2=true:=by rfl):PE X (.Tuple [e1,e2] k1 pos) (aGx (bG t1 (bG t2 oV))):=aHN (aE h1 (aE h2 aC n2) n1)
theorem aHW(h1:PE X e1 t1)(h2:PE X e2 t2)(h3:PE X e3 t3)(n1:noStar e1=true:=by rfl)(n2:noStar e2=true:=by rfl)(n3:noStar e3=true:=by rfl):PE X (.List [e1,e2,e3] pos) (y6 (bG t1 (bG t2 (bG t3 oV)))):=jU (aE h1 (aE h2 (aE h3 aC n3) n2) n1)
theorem aKU{k1}(h1:PE X e1 t1)(h2:PE X e2 t2)(h3:PE X e3 t3)(n1:noStar e1=true:=by rfl)(n2:noStar e2=true:=by rfl)(n3:noStar e3=true:=by rfl):PE X (.Tuple [e1,e2,e3] k1 pos) (aGx (bG t1 (bG t2 (bG t3 oV)))):=aHN (aE h1 (aE h2 (aE h3 aC n3) n2) n1)
theorem aOr(h1:PE X e1 t1)(h2:PE X e2 t2)(h3:PE X e3 t3)(h4:PE X e4 t4)(n1:noStar e1=true:=by rfl)(n2:noStar e2=true:=by rfl)(n3:noStar e3=true:=by rfl)(n4:noStar e4=true:=by rfl):PE X (.List [e1,e2,e3,e4] pos) (y6 (bG t1 (bG t2 (bG t3 (bG t4 oV))))):=jU (aE h1 (aE h2 (aE h3 (aE h4 aC n4) n3) n2) n1)
theorem aME{k1}(h1:PE X e1 t1)(h2:PE X e2 t2)(h3:PE X e3 t3)(h4:PE X e4 t4)(n1:noStar e1=true:=by rfl)(n2:noStar e2=true:=by rfl)(n3:noStar e3=true:=by rfl)(n4:noStar e4=true:=by rfl):PE X (.Tuple [e1,e2,e3,e4] k1 pos) (aGx (bG t1 (bG t2 (bG t3 (bG t4 oV))))):=aHN (aE h1 (aE h2 (aE h3 (aE h4 aC n4) n3) n2) n1)
theorem aMF(h1:PE X e1 t1)(h2:PE X e2 t2)(h3:PE X e3 t3)(h4:PE X e4 t4)(h5:PE X e5 t5)(n1:noStar e1=true:=by rfl)(n2:noStar e2=true:=by rfl)(n3:noStar e3=true:=by rfl)(n4:noStar e4=true:=by rfl)(n5:noStar e5=true:=by rfl):PE X (.List [e1,e2,e3,e4,e5] pos) (y6 (bG t1 (bG t2 (bG t3 (bG t4 (bG t5 oV)))))):=jU (aE h1 (aE h2 (aE h3 (aE h4 (aE h5 aC n5) n4) n3) n2) n1)
theorem aOs(h1:PE X e1 t1)(h2:PE X e2 t2)(h3:PE X e3 t3)(h4:PE X e4 t4)(h5:PE X e5 t5)(h6:PE X e6 t6)(h7:PE X e7 t7)(n1:noStar e1=true:=by rfl)(n2:noStar e2=true:=by rfl)(n3:noStar e3=true:=by rfl)(n4:noStar e4=true:=by rfl)(n5:noStar e5=true:=by rfl)(n6:noStar e6=true:=by rfl)(n7:noStar e7=true:=by rfl):PE X (.List [e1,e2,e3,e4,e5,e6,e7] pos) (y6 (bG t1 (bG t2 (bG t3 (bG t4 (bG t5 (bG t6 (bG t7 oV)))))))):=jU (aE h1 (aE h2 (aE h3 (aE h4 (aE h5 (aE h6 (aE h7 aC n7) n6) n5) n4) n3) n2) n1)
end
end L2
namespace L2
open PySem PySem.Spec PyProof.Rows
section
variable{X:Cx}{P9:List (Addr×Obj)}{σ:St}{H:Hp}{s:Shared}{h':Heap}
theorem Inv.aBj{t':Nat}{ch:List Addr}{T:Addr}{o:HO}(I:Inv X P9 σ H s)(k:∀b u,b∉ch->s.heap.get? b=some u->h'.get? b=some u)
  (hch:∀b∈ch,zX X P9 H b) (hT:s.heap.objs.size<=T) (new:bO X.prog X.w (upd H T o) h' T o):Inv X P9 σ (upd H T o) { s with heap:=h',toks:=t' }:=by
 have hn:H T=none:=I.hok.fresh hT
 have nit:∀b u,H b=some u->b∉ch:=fun b u e z=>by rw[(hch b z).1] at e;cases e
 have neT:∀b u,H b=some u->b≠T:=fun b u e=>bF e hn
 refine I.step (g':=s.gens) (d':=s.drawn) (ch:=ch) (fun b hb=>?_) (fun b u _ _ hc e _=>k b u hc e) (fun b u _ _ hc e _=>⟨u.slots,k b u hc e⟩) (fun b u hc e n=>?_)
  (fun b u hc e=>⟨u,k b u hc e⟩) (fun b xs e=>?_) (fun b u v e=>?_) (fun b ps e=>⟨#[],?_⟩) (fun m hm=>?_) (fun b u e=>?_) I.bare
 ·obtain⟨f0,f1,f2,f3,f4,f5⟩:=hch b hb
  exact⟨f3,f1,f4,f5⟩
 ·rw[aR (Nat.ne_of_lt (Nat.lt_of_lt_of_le (Heap.lt_size e) hT))];exact n
 ·rw[aR (neT _ _ e)];exact e
 ·rw[aR (neT _ _ e)];exact e
 ·rw[aR (neT _ _ e),e];simp
 ·obtain⟨u,es,ep,ho,r⟩:=hm
  exact⟨u,es,ep,k _ u (fun z=>(hch _ z).2.1 rfl) ho,r⟩
 ·by_cases hb:b=T
  ·subst hb;rw[aH] at e;cases e;exact new
  ·rw[aR hb] at e
   refine(I.hok b u e).aB5 (fun c v hc q=>k c v ?_ q) (fun c q=>by rw[aR (bF q hn)];exact q) fun c xs _ q=>by rw[aR (bF q hn)];exact q
   rcases hc with z|z
   ·rw[z];exact nit b u e
   ·exact nit c _ z
end
def Ite(K:W.Frag)(a:Addr):It:=
 ⟨fun i H=>∃xs x,bR K H a xs/\xs[i]?=some x,fun i H x H'=>∃T v,H T=none/\x=.ref T/\H'=upd H T (.tup [.int i,v])/\∀xs,bR K H a xs->xs[i]?=some v,fun i H=>∃xs,bR K H a xs/\xs.length<=i⟩
theorem aJC{P:Program}{w:World}{K:W.Frag}{elts:List Expr}{x1:Nat}{tp:Pos}(a e it:Addr)(hei:e≠it) :
  Turn P w K (.Tuple elts x1 tp) (Ite K a) [e,it] e (fun i h=>(∃old,IsEnum h e it ((i:Nat):Int) old)/\h.IsListIter it a i) where
 mem:=by simp
 obj:=fun i h st b hb=>by
  obtain⟨⟨old,he⟩,st⟩:=st
  rcases List.mem_cons.mp hb with z|hb
  ·subst z
   exact⟨_,he,fun v z=>by cases z⟩
  ·have z:b=it:=by simpa using hb
   subst z
   obtain⟨o,e,c,d⟩:=st
   exact⟨o,e,fun v z=>by rw[d] at z;cases z⟩
 keep:=fun i h h' st k=>by
  obtain⟨⟨old,he⟩,st⟩:=st
  exact⟨⟨old,k e (by simp) _ he⟩,st.at fun o q=>k it (by simp) o q⟩
 item:=by
  intro X hP hw hK hc i P9 s σ H E I hf st hg
  subst hP hw hK
  obtain⟨⟨old,he⟩,st⟩:=st
  obtain⟨xs,x,hq,hx⟩:=hg
  obtain⟨its,rv,p,hz⟩:=I.list hq
  obtain⟨u,hu,ru⟩:=rv.get hx
  have helt:e < s.heap.objs.size:=Heap.lt_size he
  have hilt:it < s.heap.objs.size:=by obtain⟨_,z,_⟩:=id st;exact Heap.lt_size z
  refine wpAny_pyNext_enum_item he st p.isList (x:=u) (by simpa using hu) hei fun h1 ho hit1 hT hsz hk=>?_
  refine⟨_,rfl,wpAny_letOwnedTupleGo_enum ho fun h2 he2 hs2=>?_⟩
  replace hs2:Heap.SameBut e h1 h2:=hs2
  have hT2:h2.IsTuple s.heap.objs.size #[.int i s.toks,u]:=⟨_,(hs2.2 _ (Nat.ne_of_gt helt)).trans hT,rfl,_,rfl⟩
  have kk:∀b o,b∉[e,it]->s.heap.get? b=some o->h2.get? b=some o:=fun b o hb q=>by
   have n1:b≠e:=fun z=>hb (by simp[z])
   have n2:b≠it:=fun z=>hb (by simp[z])
   exact(hs2.2 b n1).trans (hk b o n1 n2 q)
  have I2:Inv X P9 σ (upd H s.heap.objs.size (.tup [.int i,x])) { s with heap:=h2,toks:=s.toks+1 }:=
   I.aBj kk hf (Nat.le_refl _) (show bO X.prog X.w _ h2 _ (.tup [.int i,x]) from⟨cD (by simp),[.int i s.toks,u],.cons ⟨_,rfl⟩ (.cons ru .nil),hT2⟩)
  have hfr:H s.heap.objs.size=none:=I.hok.fresh (Nat.le_refl _)
  refine⟨.ref s.heap.objs.size,_,I2,rfl,⟨_,x,hfr,rfl,rfl,fun ys hy=>by rw[I.aCG hy hq];exact hx⟩,⟨⟨u,?_⟩,?_⟩,fun b hb=>?_⟩
  ·have e1:((i+1:Nat):Int)=(i:Int)+1:=by push_cast;rfl
   rw[e1]
   exact he2
  ·exact hit1.at fun o q=>(hs2.2 it hei.symm).trans q
  ·have hlt:b < s.heap.objs.size:=by
    rcases List.mem_cons.mp hb with z|hb
    ·rw[z];exact helt
    ·rw[show b=it by simpa using hb];exact hilt
   rw[aR (Nat.ne_of_lt hlt)]
   exact(hf b hb).1
 done:=by
  intro X hP hw hK hc i P9 s σ H E I hf st hg
  subst hP hw hK
  obtain⟨⟨old,he⟩,st⟩:=st
  obtain⟨xs,hq,hx⟩:=hg
  obtain⟨its,rv,p,hz⟩:=I.list hq
  obtain⟨f0,f1,f2,f3,f4,f5⟩:=hf it (by simp)
  have hl:=rv.length
  exact wpAny_pyNext_enum_end (I.ok.hd hc) he st p.isList (by simp;omega) fun h' eb=>⟨rfl,I.turned (t':=s.toks) (fun b o hb e=>eb b o hb e) f0 f1 f3 f4 f5⟩
 self:=fun _ _ _ _ _ st h=>by
  obtain⟨⟨old,he⟩,st⟩:=st
  exact wpAny_pyIter_enum he h
section
variable{X:Cx}{elts:List Expr}{x1:Nat}{tp:Pos}
def aKV(K:W.Frag)(ta:TA):TI:=fun σ H R=>ta σ H fun vs H1=>∃a,vs=[.ref a]/\(∃xs,bR K H1 a xs)/\R (Ite K a) H1
theorem aMG{a:Expr}{ta:TA}{p pos:Pos}(hg:Gl X "enumerate")(hm:X.mg "enumerate" = none)(ha:PA X [a] ta)(hn:noStar a=true:=by rfl):PI X (.Tuple elts x1 tp) (.Call (.Name "enumerate" p) [a] [] pos) (aKV X.K ta):=by
 intro P9 s σ H R I h
 refine Call_ (rH I hg hm boot_enumerate (PyProof.Rows.callWith_type1 (cY (ha pos P9 s σ H _ I h) fun us s1 ⟨vs,H1,I1,r1,q1⟩=>?_) (bM hn) rfl))
 obtain⟨l,e,⟨xs,hq⟩,q⟩:=q1
 subst e
 obtain⟨u,rfl,ru⟩:=vals1 r1
 cases ru
 obtain⟨its,rv,pl,hz⟩:=I1.list hq
 refine call_enumerate_list pl.isList fun h' he hit hsz hk=>?_
 refine wpAny_pyIter_enum he ?_
 refine⟨s1.heap.objs.size+1,[s1.heap.objs.size+1,s1.heap.objs.size],_,_,H1,rfl,I1.kept (t':=s1.toks) hk,aJC l _ _ (Nat.succ_ne_self _),⟨⟨_,he⟩,hit⟩,fun b hb=>?_,q⟩
 have hle:s1.heap.objs.size<=b:=by
  rcases List.mem_cons.mp hb with z|hb
  ·rw[z];exact Nat.le_succ _
  ·rw[show b=s1.heap.objs.size by simpa using hb];exact Nat.le_refl _
 exact I1.aDV hle (I1.hok.fresh hle)
end
section
variable{σ:St}{H:Hp}{nx:St->Hp->Prop}{rt:VK}{g:TG}{tb:TS}{Q:VK}{K:W.Frag}
def EnQ(K:W.Frag)(R:It->Hp->Prop):List V->Hp->Prop:=fun vs H1=>∃a,vs=[.ref a]/\(∃xs,bR K H1 a xs)/\R (Ite K a) H1
def LiQ(K:W.Frag)(R:It->Hp->Prop):V->Hp->Prop:=fun x H1=>∃a,x=.ref a/\(∃xs,bR K H1 a xs)/\R (Itl K a) H1
def TiQ(K:W.Frag)(R:It->Hp->Prop):V->Hp->Prop:=fun x H1=>∃a,x=.ref a/\(∃xs,kR K H1 a xs)/\R (Itt K a) H1
theorem aKW{ta:TA}{R:It->Hp->Prop}(h:ta σ H (EnQ K R)):aKV K ta σ H R:=h
theorem aJD{tl:TE}{R:It->Hp->Prop}(h:tl σ H (LiQ K R)):aKj K tl σ H R:=h
theorem aKX{tl:TE}{R:It->Hp->Prop}(h:tl σ H (TiQ K R)):aNz K tl σ H R:=h
theorem aGS{a:Addr}{xs:List V}{R:It->Hp->Prop}(h1:bR K H a xs)(h:R (Ite K a) H):EnQ K R [.ref a] H:=⟨a,rfl,⟨xs,h1⟩,h⟩
theorem mL{a:Addr}{xs:List V}{R:It->Hp->Prop}(h1:bR K H a xs)(h:R (Itl K a) H):LiQ K R (.ref a) H:=⟨a,rfl,⟨xs,h1⟩,h⟩
theorem aKY{a:Addr}{xs:List V}{R:It->Hp->Prop}(h1:kR K H a xs)(h:R (Itt K a) H):TiQ K R (.ref a) H:=⟨a,rfl,⟨xs,h1⟩,h⟩
theorem aAe{a:Addr}{xs:List V}(Pv:Nat->St->Hp->Prop)(h0:Pv 0 σ H)(hl:∀i σ H,i<=xs.length->Pv i σ H->bR K H a xs)
  (hs:∀i x σ H T,xs[i]?=some x->Pv i σ H->H T=none->g (.ref T) σ (upd H T (.tup [.int i,x])) fun σ2 H2=>tb ⟨Pv (i+1),rt,nx,Pv (i+1)⟩ σ2 H2) (hd:∀σ H,Pv xs.length σ H->nx σ H) :
  ∃W:Nat->Nat->St->Hp->Prop,(∃m,W 0 m σ H)/\∀i m σ H,W i m σ H->
   ((Ite K a).stop i H/\nx σ H)\/((Ite K a).go i H/\∃N:St->Hp->Prop,(∀σ' H',N σ' H'->∃m',m' < m/\W (i+1) m' σ' H')/\∀x H',(Ite K a).yld i H x H'->g x σ H' fun σ2 H2=>tb ⟨N,rt,nx,N⟩ σ2 H2):=by
 refine⟨fun i m σ H=>m=xs.length - i/\i<=xs.length/\Pv i σ H,⟨xs.length,by simp,Nat.zero_le _,h0⟩,?_⟩
 rintro i m σ H ⟨rfl,hi,p⟩
 have q:=hl i σ H hi p
 by_cases hlt:i < xs.length
 ·refine .inr ⟨⟨xs,xs[i],q,by simp[hlt]⟩,Pv (i+1),fun σ' H' p'=>⟨xs.length - (i+1),by omega,rfl,hlt,p'⟩,fun x H' y=>?_⟩
  obtain⟨T,v,hT,e1,e2,y⟩:=y
  subst e1 e2
  exact hs i v σ H T (y xs q) p hT
 ·have e:i=xs.length:=by omega
  subst e
  exact .inl ⟨⟨xs,q,Nat.le_refl _⟩,hd σ H p⟩
end
section
variable{X:Cx}
theorem aCS:∀{bs:List Bool}{us:List Value},Vals (bs.map V.bl) us->us=bs.map Value.bool
 |[],_,.nil=>rfl
 |b::bs,_,.cons r t=>by cases r;rw[aCS t];rfl
def aKZ(K:W.Frag):List V->Hp->VK->Prop:=fun xs H Q=>∃(p:Addr) (bs:List Bool),xs=[.ref p]/\bR K H p (bs.map V.bl)/\Q (.bl (bs.all id)) H
theorem aBk(hc:X.calm=true):eA X (.builtin "all") (aKZ X.K):=by
 intro P9 s σ H xs us Q I r h
 obtain⟨p,bs,rfl,hq,q⟩:=h
 obtain⟨u,rfl,rx⟩:=vals1 r
 cases rx
 obtain⟨its,r',pl,hz⟩:=I.list hq
 have e:=aCS r'
 subst e
 have hl:=pl.isList
 have hlt:p < s.heap.objs.size:=by obtain⟨_,e,_⟩:=id hl;exact Heap.lt_size e
 refine call_all_walk (wpAny_pyIter_list hl ?_)
 refine⟨s.heap.objs.size,[s.heap.objs.size,p],[s.heap.objs.size],(bs.map Value.bool).toArray.size,_,_,fun i=>(bs[i]?).getD true,rfl,Walks.list (A:=X.A.in1) (I.ok.hd hc) _ p (Nat.ne_of_lt hlt) (bs.map Value.bool).toArray,
  ⟨⟨_,Heap.get?_push_size _ rfl,rfl,rfl⟩,hl.push _⟩,fun i v s' Q' E' hP hQ=>?_,fun h' tk hk=>?_⟩
 ·have hP':(bs.map Value.bool)[i]?=some v:=by simpa using hP
  rw[List.getElem?_map] at hP'
  cases hb:bs[i]? with
  |none=>rw[hb] at hP';cases hP'
  |some b=>
   rw[hb] at hP'
   cases hP'
   simp only[hb,Option.getD_some] at hQ
   exact wpAny_truthy_bool hQ
 ·have e:((List.range (bs.map Value.bool).toArray.size).all fun i=>(bs[i]?).getD true)=bs.all id:=by
   rw[List.size_toArray,List.length_map];exact LSm.range_all bs
  rw[e]
  exact⟨.bl _,H,I.kept (t':=tk) (LSm.kept_iter hk),rfl,q⟩
end
section
variable{X:Cx}{e st:Expr}{te:TE}{ts:TO}{pos p2:Pos}
end
section
variable{X:Cx}{o e:Expr}{to:TE}{t:TA}{apos cpos:Pos}
theorem aOt(ho:PE X o to)(ha:PA X [e] t)(hn:noStar e=true:=by rfl)(hbase:attributeBase o "append" X.env (eval o X.env)=eval o X.env:=by rfl)(hline:(apos.endLine == cpos.line)=true:=by rfl) :
  PE X (.Call (.Attribute o "append" apos) [e] [] cpos) (tBM X.K "list" aCu to t):=
 aNa PySem.F.plainAttrs_list PySem.F.slot_list_append PySem.F.type_list_append aJr ho ha hbase (by rw[bM hn];rfl) hline (bM hn) (by rfl)
end
section
variable{K:W.Frag}{σ:St}{H:Hp}{Q:VK}
theorem aPj{T:String}{r:V->List V->Hp->VK->Prop}{to:TE}{t:TA}(h:to σ H fun x H1=>tyV K T x H1/\t σ H1 fun xs H2=>r x xs H2 Q):tBM K T r to t σ H Q:=h
theorem y9{p:Addr}{xs:List V}{P:Prop}(h:bR K H p xs)(q:P):tyV K "list" (.ref p) H/\P:=⟨.inl ⟨rfl,xs,h⟩,q⟩
theorem aCT{l:Addr}{xs:List V}{y:V}(h:H l=some (.lst xs))(hz:xs.length < sizeLine)(q:Q .non (upd H l (.lst (xs ++ [y])))):aCu (.ref l) [y] H Q:=⟨l,xs,y,rfl,rfl,h,hz,q⟩
theorem aOu:∀(xs ys:List Int),(xs.length == ys.length && (List.range xs.length).all fun j=>decide (xs[j]?=ys[j]?))=decide (xs=ys):=by
 intro xs ys
 rw[Bool.eq_iff_iff]
 simp only[Bool.and_eq_true,beq_iff_eq,List.all_eq_true,List.mem_range,decide_eq_true_eq]
 constructor
 ·rintro ⟨hl,h⟩
  apply List.ext_getElem?
  intro i
  by_cases hi:i < xs.length
  ·exact h i hi
  ·rw[List.getElem?_eq_none (by omega),List.getElem?_eq_none (by omega)]
 ·rintro rfl
  exact⟨rfl,fun _ _=>rfl⟩
theorem aK0{n:Nat}{p q:Addr}{xs ys:List Int}(h:(bR K H p (xs.map V.int)/\bR K H q (ys.map V.int))\/(kR K H p (xs.map V.int)/\kR K H q (ys.map V.int))):EqN K H (n+1) (.ref p) (.ref q) (decide (xs=ys)):=by
 refine .inr ⟨p,q,xs.map V.int,ys.map V.int,fun j=>decide (xs[j]?=ys[j]?),rfl,rfl,h,fun j u v hu hv=>?_,?_⟩
 ·rw[List.getElem?_map] at hu hv
  cases hx:xs[j]? with
  |none=>rw[hx] at hu;cases hu
  |some a=>
   cases hy:ys[j]? with
   |none=>rw[hy] at hv;cases hv
   |some b=>
    rw[hx] at hu
    rw[hy] at hv
    cases hu
    cases hv
    have z:sA (.int a)=true/\sA (.int b)=true/\(fun j=>decide (xs[j]?=ys[j]?)) j=eqV (.int a) (.int b):=by
     refine⟨rfl,rfl,?_⟩
     show decide (xs[j]?=ys[j]?)=decide (a=b)
     rw[hx,hy]
     simp
    cases n with
    |zero=>exact z
    |succ n=>exact .inl z
 ·rw[List.length_map,List.length_map]
  exact(aOu xs ys).symm
theorem aII{p q:Addr}{xs ys:List Int}(h1:bR K H p (xs.map V.int))(h2:bR K H q (ys.map V.int))(h:Q (.bl (!decide (xs=ys))) H):aFr K (.ref p) (.ref q) H Q:=⟨_,aK0 (.inl ⟨h1,h2⟩),h⟩
end
end L2
namespace L2
open PySem PySem.Spec PyProof.Rows
section
variable{K:W.Frag}{σ:St}{H:Hp}{Q:VK}{nx bk ct:St->Hp->Prop}{rt:VK}
theorem aPk{A B:Prop}(h:B):if (!true)=true then A else B:=aMh h
theorem aPl{A B:Prop}(h:A):if (!false)=true then A else B:=aNY h
theorem aPm{A B:Prop}{b:Bool}(e:b=false)(h:B):if b=true then A else B:=by rw[e];exact aMh h
theorem aMH{C:Addr}{sp:Sp}{E:XK}{t:TA}(h:t σ H fun vs H1=>∀x dx,H1 x=none->H1 dx=none->dx≠x->sp (.ref x::vs) (upd (upd H1 dx (.own x)) x (.ins C dx [])) (fun v H2=>v=.non/\Q (.ref x) H2) E):aGz C sp [] E t σ H Q:=by
 unfold aGz
 simpa only [List.append_nil] using h
theorem aMI{C:Addr}{m:Str}{sp:Sp}{E:XK}{ta:TE}{t:TA}(h:ta σ H fun x H1=>∃a dx fs,x=.ref a/\H1 a=some (.ins C dx fs)/\fs.lookup m=none/\t σ H1 fun vs H2=>sp (x::vs) H2 Q E):aIC C m sp [] E ta t σ H Q:=by
 unfold aIC
 simpa only [List.append_nil] using h
theorem aMJ{ta tv:TE}{f:Str}(h:tv σ H fun y H1=>ta σ H1 fun x H2=>∃a C dx fs,x=.ref a/\H2 a=some (.ins C dx fs)/\Cls K C/\cP K C f/\fs.length < 1000/\nx σ (upd H2 a (.ins C dx (tE f y fs)))):aNG K ta tv f ⟨nx,rt,bk,ct⟩ σ H:=h
theorem jA{a C dx:Addr}{fs fs':List (Str×V)}{f:Str}{y:V}{P:Hp->Prop}(h1:H a=some (.ins C dx fs))(c:Cls K C)(n:cP K C f)(hl:fs.length < 1000)(e:tE f y fs=fs')(h:P (upd H a (.ins C dx fs'))) :
  ∃a' C dx fs,V.ref a=V.ref a'/\H a'=some (.ins C dx fs)/\Cls K C/\cP K C f/\fs.length < 1000/\P (upd H a' (.ins C dx (tE f y fs))):=⟨a,C,dx,fs,rfl,h1,c,n,hl,by rw[e];exact h⟩
theorem jB{a C dx:Addr}{fs:List (Str×V)}{f:Str}{v:V}{P:V->Prop}(h1:H a=some (.ins C dx fs))(c:Cls K C)(n:cP K C f)(l:fs.lookup f=some v)(h:P v) :
  ∃a' C dx fs v,V.ref a=V.ref a'/\H a'=some (.ins C dx fs)/\Cls K C/\cP K C f/\fs.lookup f=some v/\P v:=⟨a,C,dx,fs,v,rfl,h1,c,n,l,h⟩
theorem aGT:∀{xs:List V},(∀x∈xs,x=.bl true)->xs=(List.replicate xs.length true).map V.bl
 |[],_=>rfl
 |x::xs,h=>by
  rw[List.length_cons,List.replicate_succ,List.map_cons,<-aGT (fun y hy=>h y (List.mem_cons_of_mem _ hy)),h x (List.mem_cons_self ..)]
theorem aFv{p:Addr}{xs:List V}(h1:bR K H p xs)(h2:∀x∈xs,x=.bl true)(h:Q (.bl true) H):aKZ K [.ref p] H Q:=by
 refine⟨p,List.replicate xs.length true,rfl,?_,?_⟩
 ·rw[<-aGT h2];exact h1
 ·rw[show(List.replicate xs.length true).all id=true by simp];exact h
end
end L2
namespace L2
open PySem PySem.Spec PyProof.Rows
section
variable{X:Cx}{P9:List (Addr×Obj)}{σ:St}{H:Hp}{s:Shared}{A:Around}{E:Value->Shared->Prop}{Q:Value->Shared->Prop}{b:Bool}
end
section
variable{X:Cx}{K:W.Frag}{H:Hp}{Q:VK}
def isB:V->V->Option Bool
 |.non,.non=>some true
 |.bl a,.bl b=>some (a == b)
 |.bl _,.non=>some false
 |.int _,.non=>some false
 |.str _,.non=>some false
 |.ref _,.non=>some false
 |_,_=>none
def rIs:R2:=fun x y H Q=>∃b,isB x y=some b/\Q (.bl b) H
def aK1:R2:=fun x y H Q=>∃b,isB x y=some b/\Q (.bl (!b)) H
theorem aCU:vP X (compareOp .Is) rIs:=by
 intro P9 s σ H x y v u Q I rx ry h
 obtain⟨b,e,q⟩:=h
 have fin:EP X P9 σ Q (.bool b) s:=⟨.bl b,H,I,rfl,q⟩
 cases x with
 |non=>cases y with
  |non=>cases e;cases rx;cases ry;exact is_none_gen fin
  |_=>cases e
 |bl a=>cases y with
  |bl c=>cases e;cases rx;cases ry;exact is_bool fin
  |non=>cases e;cases rx;cases ry;exact is_none_gen fin
  |_=>cases e
 |int i=>cases y with
  |non=>cases e;obtain⟨t,rfl⟩:=rx;cases ry;exact is_none_gen fin
  |_=>cases e
 |str i=>cases y with
  |non=>cases e;obtain⟨t,rfl⟩:=rx;cases ry;exact is_none_gen fin
  |_=>cases e
 |ref i=>cases y with
  |non=>cases e;cases rx;cases ry;exact is_none_gen fin
  |_=>cases e
 |_=>cases y <;> cases e
theorem xU:vP X (compareOp .IsNot) aK1:=by
 intro P9 s σ H x y v u Q I rx ry h
 obtain⟨b,e,q⟩:=h
 have fin:EP X P9 σ Q (.bool (!b)) s:=⟨.bl (!b),H,I,rfl,q⟩
 cases x with
 |non=>cases y with
  |non=>cases e;cases rx;cases ry;exact isnot_none_gen fin
  |_=>cases e
 |bl a=>cases y with
  |bl c=>cases e;cases rx;cases ry;exact isnot_bool fin
  |non=>cases e;cases rx;cases ry;exact isnot_none_gen fin
  |_=>cases e
 |int i=>cases y with
  |non=>cases e;obtain⟨t,rfl⟩:=rx;cases ry;exact isnot_none_gen fin
  |_=>cases e
 |str i=>cases y with
  |non=>cases e;obtain⟨t,rfl⟩:=rx;cases ry;exact isnot_none_gen fin
  |_=>cases e
 |ref i=>cases y with
  |non=>cases e;cases rx;cases ry;exact isnot_none_gen fin
  |_=>cases e
 |_=>cases y <;> cases e
theorem aPn{x y:V}{b:Bool}(e:isB x y=some b)(h:Q (.bl b) H):rIs x y H Q:=⟨b,e,h⟩
theorem aK2{x y:V}{b:Bool}(e:isB x y=some b)(h:Q (.bl (!b)) H):aK1 x y H Q:=⟨b,e,h⟩
end
end L2
namespace L2
open PySem PySem.Spec PyProof.Rows
section
variable{X:Cx}
def aK3(K:W.Frag):List V->Hp->VK->Prop:=fun xs H Q=>∃(p:Addr) (ns:List Int),xs=[.ref p]/\bR K H p (ns.map V.int)/\Q (.int (List.sum ns)) H
theorem aBl(hc:X.calm=true):eA X (.builtin "sum") (aK3 X.K):=by
 intro P9 s σ H xs us Q I r h
 obtain⟨p,ns,rfl,hq,q⟩:=h
 obtain⟨u,rfl,rx⟩:=vals1 r
 cases rx
 obtain⟨its,r',pl,hz⟩:=I.list hq
 have hi:=intsAre_of r'
 obtain⟨xs,hx⟩:=hi.allInts.items
 have hl':s.heap.IsList p (intItems xs):=hx▸pl.isList
 refine sum_intListG (I.ok.hd hc) hl' fun h' tk t' hk=>?_
 have e1:ns=xs.toList.map (·.1):=by
  rw[<-nums_intItems,<-hx]
  exact(show numsOf its.toArray.toList=ns from hi.numsOf).symm
 have e2:preSum (numAt xs) xs.size=ns.sum:=by
  rw[preSum_eq,List.take_of_length_le (by simp),e1]
 rw[e2]
 exact⟨.int _,H,I.kept (t':=tk) hk,⟨t',rfl⟩,q⟩
theorem aHX{K:W.Frag}{H:Hp}{Q:VK}{p:Addr}{ns:List Int}(h1:bR K H p (ns.map V.int))(h:Q (.int (List.sum ns)) H):aK3 K [.ref p] H Q:=⟨p,ns,rfl,h1,h⟩
end
end L2
namespace L2
open PySem PySem.Spec PyProof.Rows
section
variable{prog:Program}{w:World}{A:Around}{E:Value->Shared->Prop}
end
section
variable{X:Cx}{pos:Pos}
end
end L2
namespace L2
open PySem PySem.Spec PyProof.Rows
section
variable{X:Cx}
def aMK:List V->Hp->VK->Prop:=fun xs H Q=>∃i j:Int,xs=[.int i,.int j]/\∀p,H p=none->Q (.ref p) (upd H p (.rng i j))
theorem aEX:eA X (.type "range") aMK:=by
 intro P9 s σ H xs us Q I r h
 obtain⟨i,j,rfl,q⟩:=h
 obtain⟨u,w',rfl,rx,ry⟩:=vals2 r
 obtain⟨t,rfl⟩:=rx
 obtain⟨t',rfl⟩:=ry
 refine call_range_2 ?_
 exact⟨.ref s.heap.objs.size,_,I.laid (t':=s.toks+1) (o:=.rng i j) (fun b ob q=>Heap.get?_push_of_some _ q) (Nat.le_refl _) ⟨_,_,_,Heap.get?_push_size _ rfl⟩,rfl,q _ (I.hok.fresh (Nat.le_refl _))⟩
theorem aOv{H:Hp}{Q:VK}{i j:Int}(h:∀p,H p=none->Q (.ref p) (upd H p (.rng i j))):aMK [.int i,.int j] H Q:=⟨i,j,rfl,h⟩
def upL(lo:Int)(n:Nat):List Int:=(List.range n).map fun(k:Nat)=>lo+(k:Int)
def aFw:List V->Hp->VK->Prop:=fun xs H Q=>∃(p:Addr) (lo hi:Int),xs=[.ref p]/\H p=some (.rng lo hi)/\-(2 ^ 62)<=lo/\lo < 2 ^ 62/\-(2 ^ 62)<=hi/\hi < 2 ^ 62/\(hi - lo).toNat<=2 ^ 24/\
 ∀l,H l=none->Q (.ref l) (upd H l (.lst ((upL lo (hi - lo).toNat).map V.int)))
theorem aHY{a:Int}:∀(n:Nat) (its:List Value),its.length=n->(∀(i:Nat) v,its[i]?=some v->∃t,v=Value.int (a+(i:Int)) t)->Vals ((upL a n).map V.int) its:=by
 intro n
 induction n generalizing a with
 |zero=>
  intro its hl _
  rw[List.length_eq_zero_iff.mp hl]
  exact .nil
 |succ n ih=>
  intro its hl h
  cases its with
  |nil=>cases hl
  |cons v its=>
   have e:upL a (n+1)=a::upL (a+1) n:=by
    unfold upL
    rw[List.range_succ_eq_map,List.map_cons,List.map_map]
    congr 1
    ·simp
    ·apply List.map_congr_left
     intro k _
     show a+((k+1:Nat):Int)=a+1+(k:Int)
     push_cast;omega
   rw[e,List.map_cons]
   obtain⟨t,ht⟩:=h 0 v rfl
   refine .cons ⟨t,by rw[ht];simp⟩ (ih its (by simpa using hl) fun i w hw=>?_)
   obtain⟨t',ht'⟩:=h (i+1) w (by simpa using hw)
   exact⟨t',by rw[ht'];congr 1;push_cast;omega⟩
theorem aCV(hc:X.calm=true):eA X (.type "list") aFw:=by
 intro P9 s σ H xs us Q I r h
 obtain⟨p,lo,hi,rfl,hp,b1,b2,b3,b4,hz,q⟩:=h
 obtain⟨u,rfl,rx⟩:=vals1 r
 cases rx
 obtain⟨t,t',t'',hr⟩:=(show bO X.prog X.w H s.heap p (.rng lo hi) from I.hok p _ hp)
 refine call_list_range (n:=(hi - lo).toNat) (I.ok.hd hc) hr (small_one b1 b2 b3 b4) (by rw[rangeSize_one];split <;> omega) hz fun h' tk acc' c' hk hS ha=>?_
 have hv:Vals ((upL lo (hi - lo).toNat).map V.int) acc'.toList:=aHY _ _ (by simpa using ha.1) fun i v hv=>by
  obtain⟨t,ht⟩:=ha.2 i v (by simpa using hv)
  exact⟨t,by rw[ht,Int.mul_one]⟩
 have hl:((upL lo (hi - lo).toNat).map V.int).length<=sizeLine:=by
  unfold upL
  rw[List.length_map,List.length_map,List.length_range]
  exact cD hz
 exact⟨.ref s.heap.objs.size,_,I.laid (t':=tk) (o:=.lst ((upL lo (hi - lo).toNat).map V.int)) hk (Nat.le_refl _) ⟨hl,acc'.toList,c',hv,hS⟩,rfl,q _ (I.hok.fresh (Nat.le_refl _))⟩
theorem aGU{H:Hp}{Q:VK}{p:Addr}{lo hi:Int}(hp:H p=some (.rng lo hi))(h1:-(2 ^ 62)<=lo/\lo < 2 ^ 62/\-(2 ^ 62)<=hi/\hi < 2 ^ 62)(hz:(hi - lo).toNat<=2 ^ 24)(h:∀l,H l=none->Q (.ref l) (upd H l (.lst ((upL lo (hi - lo).toNat).map V.int)))):aFw [.ref p] H Q:=
 ⟨p,lo,hi,rfl,hp,h1.1,h1.2.1,h1.2.2.1,h1.2.2.2,hz,h⟩
end
section
variable{X:Cx}{P9:List (Addr×Obj)}{σ:St}{H:Hp}{s:Shared}{h':Heap}
theorem Inv.aJE{t':Nat}{ch:List Addr}(I:Inv X P9 σ H s)(k:∀b u,b∉ch->s.heap.get? b=some u->h'.get? b=some u)
  (hch:∀b∈ch,zX X P9 H b):Inv X P9 σ H { s with heap:=h',toks:=t' }:=by
 have nit:∀b u,H b=some u->b∉ch:=fun b u e z=>by rw[(hch b z).1] at e;cases e
 refine I.step (g':=s.gens) (d':=s.drawn) (ch:=ch) (fun b hb=>?_) (fun b u _ _ hc e _=>k b u hc e) (fun b u _ _ hc e _=>⟨u.slots,k b u hc e⟩) (fun b u hc e n=>n)
  (fun b u hc e=>⟨u,k b u hc e⟩) (fun b xs e=>e) (fun b u v e=>e) (fun b ps e=>⟨#[],by rw[e];simp⟩) (fun m hm=>?_) (fun b u e=>?_) I.bare
 ·obtain⟨f0,f1,f2,f3,f4,f5⟩:=hch b hb
  exact⟨f3,f1,f4,f5⟩
 ·obtain⟨u,es,ep,ho,r⟩:=hm
  exact⟨u,es,ep,k _ u (fun z=>(hch _ z).2.1 rfl) ho,r⟩
 ·refine(I.hok b u e).aB5 (fun c v hc q=>k c v ?_ q) (fun c q=>q) fun c xs _ q=>q
  rcases hc with z|z
  ·rw[z];exact nit b u e
  ·exact nit c _ z
end
section
variable{X:Cx}{elts:List Expr}{x1:Nat}{tp:Pos}
theorem aOw:bootBuiltins "zip" = some (.type "zip"):=by decide +kernel
end
section
variable{σ:St}{H:Hp}{nx:St->Hp->Prop}{rt:VK}{g:TG}{tb:TS}{Q:VK}{K:W.Frag}
end
end L2
namespace L2
open PySem PySem.Spec PyProof.Rows
section
variable{X:Cx}{e:Expr}{te:TE}
end
end L2
namespace L2.Z
open PySem PySem.Spec PyProof.Rows L2
structure QE(X:Cx)(e:Expr)(t:TE):Prop where
 h:PE X e t
structure QT(X:Cx)(e:Expr)(t:TT):Prop where
 h:PT X e t
structure QW(X:Cx)(e:Expr)(t:TT):Prop where
 h:PW X e t
structure QA(X:Cx)(es:List Expr)(t:TA):Prop where
 h:PA X es t
structure QS(X:Cx)(st:Stmt)(t:TS):Prop where
 h:PS X st t
structure QSs(X:Cx)(st:List Stmt)(t:TS):Prop where
 h:PSs X st t
structure QG(X:Cx)(tg:Expr)(g:TG):Prop where
 h:PG X tg g
structure QGs(X:Cx)(tg:List Expr)(g:TGs):Prop where
 h:PGs X tg g
structure QI(X:Cx)(tg it:Expr)(w:TI):Prop where
 h:PI X tg it w
structure QTs(X:Cx)(ifs:List Expr)(t:TT):Prop where
 h:PTs X ifs t
structure QO(X:Cx)(o:Option Expr)(t:TO):Prop where
 h:PO X o t
section
variable{X:Cx}{CX:CXT}{k:Nat}{f C:Addr}{fd:FuncData}{ps:List Str}{sp:Sp}{dvs:List V}{ds:List Value}{E:XK}{x m:Str}{p pos apos p2 spos:Pos}{a b c e o:Expr}{es rest:List Expr}{ta tb tc te to ti:TE}{t:TA}{tA tB tt:TT}{id T:String}{r r':R2}{rc:List V->Hp->VK->Prop}{st:Stmt}{sts sts2:List Stmt}{ts us:TS}{g:TG}{gs:TGs}{wi:TI}{tg iter:Expr}
theorem vC{e:Expr}{t:TT}(q:QW X e t):QT X e t:=⟨q.h.pt⟩
theorem pv(i:Nat)(hN:X.N[i]?=some x:=by rfl)(hv:Vis X.env.scope x:=by first|exact Or.inl rfl|exact Or.inr (Or.inl rfl)|exact Or.inr (Or.inr rfl))(hd:(x == ("__debug__" : Str))=false:=by decide)
  (hcd:(x == ("__classdict__" : Str))=false:=by decide):QE X (.Name x pos) (aNo i):=⟨aKa hN hv hd hcd⟩
theorem aA{i j}:QE X (.Constant (.int i) j pos) (tC (.int i)):=⟨L2.aA⟩
theorem zU{b j}:QE X (.Constant (.bool b) j pos) (tC (.bl b)):=⟨L2.zU⟩
theorem jS{j}:QE X (.Constant .none j pos) (tC .non):=⟨L2.jS⟩
theorem zV{v:V}{u:Value}(hg:Gl X x)(hm:X.mg x=some u)(r:RelV v u)(hd:(x == ("__debug__" : Str))=false:=by decide):QE X (.Name x pos) (tC v):=⟨L2.zV hg hm r hd⟩
theorem xS{n:Int}(hg:Gl X x)(hm:∃t,X.mg x=some (.int n t))(hd:(x == ("__debug__" : Str))=false:=by decide):QE X (.Name x pos) (tC (.int n)):=⟨L2.xS hg hm hd⟩
theorem nB{v:V}{u:Value}(hg:Gl X x)(hm:X.mg x=none)(hv:bootBuiltins x=some u)(r:RelV v u)(hn:x≠"__name__":=by decide)(hd:(x == ("__debug__" : Str))=false:=by decide):QE X (.Name x pos) (tC v):=⟨L2.nB hg hm hv r hn hd⟩
theorem aS{op:Operator}(ho:vP X (binaryOp op) r)(ha:QE X a ta)(hb:QE X b tb):QE X (.BinOp a op b pos) (tOp r ta tb):=⟨L2.aS ho ha.h hb.h⟩
theorem aBG{op:UnaryOp}{ru:V->Hp->VK->Prop}(ho:UnR X (unaryOp op) ru)(ha:QE X a ta):QE X (.UnaryOp op a pos) (tUn ru ta):=⟨L2.aBG ho ha.h⟩
theorem aFg(ha:QE X a ta):QE X (.UnaryOp .Not a pos) (aKc ta):=⟨L2.aFg ha.h⟩
theorem rJ{op}(h:QE X a ta):QE X (.BoolOp op [a] pos) ta:=⟨L2.rJ h.h⟩
theorem sZ(ha:QE X a ta)(hb:QE X (.BoolOp .And (b::rest) pos) tb):QE X (.BoolOp .And (a::b::rest) pos) (aKb ta tb):=⟨L2.sZ ha.h hb.h⟩
theorem aIy(ha:QE X a ta)(hb:QE X (.BoolOp .Or (b::rest) pos) tb):QE X (.BoolOp .Or (a::b::rest) pos) (aNr ta tb):=⟨L2.aIy ha.h hb.h⟩
theorem zW(hc:QT X c tA)(ha:QE X a ta)(hb:QE X b tb):QE X (.IfExp c a b pos) (tIf tA ta tb):=⟨L2.zW hc.h ha.h hb.h⟩
theorem nE{op:CmpOp}(ho:vP X (compareOp op) r)(ha:QE X a ta)(hb:QE X b tb)(hm:behindInMarks op b=false):QE X (.Compare a [op] [b] pos) (tOp r ta tb):=⟨L2.nE ho ha.h hb.h hm⟩
theorem bE{op:CmpOp}(ho:vP X (compareOp op) r)(ha:QE X a ta)(hb:QE X b tb)(hm:behindInMarks op b=false):QT X (.Compare a [op] [b] pos) (aKm (tOp r ta tb)):=⟨L2.bE ho ha.h hb.h hm⟩
theorem vQ{op op':CmpOp}(ho:vP X (compareOp op) r)(ho':vP X (compareOp op') r')(ha:QE X a ta)(hb:QE X b tb)(hc:QE X c tc)(hm:lastMarks [op,op'] [b,c]=false:=by with_unfolding_all rfl):QE X (.Compare a [op,op'] [b,c] pos) (aHG r r' ta tb tc):=⟨L2.vQ ho ho' ha.h hb.h hc.h hm⟩
theorem jT(h:QE X e te)(he:∀whole,isTrue e X.env whole=(do let v <-whole;standAt e.pos;holding [v] (truthy v)):=by intro _;rfl):QT X e (L2.tB te):=⟨L2.jT h.h he⟩
theorem mO(ha:QT X a tA):QT X (.UnaryOp .Not a pos) (aNq tA):=⟨L2.mO ha.h⟩
theorem nC(ha:QT X a tA):QW X (.BoolOp .And [a] pos) tA:=⟨L2.nC ha.h⟩
theorem y3(ha:QT X a tA):QW X (.BoolOp .Or [a] pos) tA:=⟨L2.y3 ha.h⟩
theorem sY(ha:QT X a tA)(hb:QW X (.BoolOp .And (b::rest) pos) tB):QW X (.BoolOp .And (a::b::rest) pos) (aNp tA tB):=⟨L2.sY ha.h hb.h⟩
theorem aCF(ha:QT X a tA)(hb:QW X (.BoolOp .Or (b::rest) pos) tB):QW X (.BoolOp .Or (a::b::rest) pos) (tOr tA tB):=⟨L2.aCF ha.h hb.h⟩
theorem aC:QA X [] oV:=⟨L2.aC⟩
theorem aE(ha:QE X e te)(hr:QA X es t)(hs:noStar e=true:=by rfl):QA X (e::es) (bG te t):=⟨L2.aE ha.h hr.h hs⟩
theorem aF(F:bL X.prog X.w X.K X.mg X.base CX k f fd ps sp)(hr:fD k X.A)(hg:Gl X x)(hm:X.mg x=some (.ref f))(hk:W.keepIn X.K (.ref f)=true)(hb:Binds X.K fd ps ds)(hd:Vals dvs ds)(hx:Passes CX X E)
  (ha:QA X (e::es) t) (hn:(e::es).all noStar=true:=by rfl) (hdb:(x == ("__debug__" : Str))=false:=by decide):QE X (.Call (.Name x p) (e::es) [] pos) (aGy sp dvs E t):=⟨L2.aF F hr hg hm hk hb hd hx ha.h hn hdb⟩
theorem vY(M:Mk X.K C f)(F:bL X.prog X.w X.K X.mg X.base CX k f fd ps sp)(hr:fD (k+1) X.A)(hg:Gl X x)(hm:X.mg x=some (.ref C))(hb:Binds X.K fd ps ds)(hd:Vals dvs ds)(hx:Passes CX X E)
  (ha:QA X (e::es) t) (hn:(e::es).all noStar=true:=by rfl) (hdb:(x == ("__debug__" : Str))=false:=by decide):QE X (.Call (.Name x p) (e::es) [] pos) (aGz C sp dvs E t):=⟨L2.vY M F hr hg hm hb hd hx ha.h hn hdb⟩
theorem aP(hc:eA X (.builtin id) rc)(hg:Gl X x)(hm:X.mg x=none)(hv:bootBuiltins x=some (.builtin id))(ha:QA X (e::es) t)(hn:(e::es).all noStar=true:=by rfl)(hne:x≠"__name__":=by decide)(hdb:(x == ("__debug__" : Str))=false:=by decide) :
  QE X (.Call (.Name x p) (e::es) [] pos) (tCB rc t):=⟨L2.aP hc hg hm hv ha.h hn hne hdb⟩
theorem cE(hc:eA X (.type T) rc)(hg:Gl X x)(hm:X.mg x=none)(hv:bootBuiltins x=some (.type T))(ha:QA X (e::es) t)(hn:(e::es).all noStar=true:=by rfl)(hne:x≠"__name__":=by decide)(hdb:(x == ("__debug__" : Str))=false:=by decide) :
  QE X (.Call (.Name x p) (e::es) [] pos) (tCB rc t):=⟨L2.cE hc hg hm hv ha.h hn hne hdb⟩
theorem xN:QO X none aFm:=⟨L2.xN⟩
theorem xO(h:QE X e te):QO X (some e) (aKw te):=⟨L2.xO h.h⟩
theorem rZ{rs:V->Option Int->Option Int->Hp->VK->Prop}{lo hi:Option Expr}{tl th:TO}(hr:SlR X rs)(he:QE X e te)(hl:QO X lo tl)(hu:QO X hi th):QE X (.Subscript e (.Slice lo hi none p2) pos) (tSl rs te tl th):=⟨L2.rZ hr he.h hl.h hu.h⟩
theorem jU(h:QA X es t):QE X (.List es pos) (y6 t):=⟨L2.jU h.h⟩
theorem dC(hg:Gl X "range")(hm:X.mg "range" = none)(ha:QA X [a] t)(hn:noStar a=true:=by rfl):QI X tg (.Call (.Name "range" p) [a] [] pos) (aIA t):=⟨L2.dC hg hm ha.h hn⟩
theorem y8(hg:Gl X "range")(hm:X.mg "range" = none)(ha:QA X [a,b] t)(hn:noStar a=true:=by rfl)(hn2:noStar b=true:=by rfl):QI X tg (.Call (.Name "range" p) [a,b] [] pos) (aIB t):=⟨L2.y8 hg hm ha.h hn hn2⟩
theorem aT{i:Nat}(hN:X.N.Nodup)(hi:X.N[i]?=some x)(hx:Loc X.env.scope x)(hf:X.fn x=true\/X.env.scope.names.lookup x=some .local:=by first|exact .inl rfl|exact .inr rfl|assumption):QG X (.Name x pos) (vO i):=⟨L2.aT hN hi hx hf⟩
theorem dZ:QGs X [] aL2:=⟨L2.dZ⟩
theorem bD{e:Expr}{es:List Expr}{t:TG}{u:TGs}(h1:QG X e t)(h2:QGs X es u)(hs:(assignEach (e::es) X.env).map (·.2)=assign e X.env::(assignEach es X.env).map (·.2):=by rfl):QGs X (e::es) (aIz t u):=⟨L2.bD h1.h h2.h hs⟩
theorem aA8{i:Expr}{tset:aFh}(ho:QE X o to)(hi:QE X i ti)(hs:aKh X tset)
  (ha:∀v,assign (.Subscript o i pos) X.env v=(do
   let ov <-holding [v] (eval o X.env)
   let iv <-holding [v,ov] (eval i X.env)
   standAt pos
   holding [v,ov,iv] (setItem ov iv v)
   release [v,ov,iv] []):=by intro _;rfl):QG X (.Subscript o i pos) (aNv to ti tset):=⟨L2.aA8 ho.h hi.h hs ha⟩
theorem dG:QTs X [] aNZ:=⟨L2.dG⟩
theorem aCw(h:QT X c tt):QTs X [c] tt:=⟨L2.aCw h.h⟩
theorem root{D:Ends}{σ:St}{H:Hp}(q:QSs X sts ts)(h:ts D σ H):∃t,PSs X sts t/\t D σ H:=⟨ts,q.h,h⟩
theorem bH:QSs X [] aKd:=⟨L2.bH⟩
theorem aD(h1:QS X st ts)(h2:QSs X sts us):QSs X (st::sts) (aKe ts us):=⟨L2.aD h1.h h2.h⟩
theorem aG(h1:QS X st ts):QSs X [st] ts:=⟨L2.aG h1.h⟩
theorem oU:QS X st aKg:=⟨L2.oU⟩
theorem pW(he:QE X e te)(hs:swapsWith e none pos.line X.env=pure false:=by rfl):QS X (.Expr e pos) (aKf te):=⟨L2.pW he.h hs⟩
theorem aY(he:QE X e te):QS X (.Return (some e) pos) (aNs te):=⟨L2.aY he.h⟩
theorem cC(hc:QT X c tt)(ha:QSs X sts ts)(hb:QSs X sts2 us):QS X (.If c sts sts2 pos) (aNt tt ts us):=⟨L2.cC hc.h ha.h hb.h⟩
theorem aV{i:Nat}{pos':Pos}(hN:X.N.Nodup)(hi:X.N[i]?=some x)(hx:Loc X.env.scope x)(he:QE X e te)(hs:swapsWith e (some (.Name x pos')) pos.line X.env=pure false:=by rfl)(hf:X.fn x=true\/X.env.scope.names.lookup x=some .local:=by first|exact .inl rfl|exact .inr rfl|assumption) :
  QS X (.Assign [.Name x pos'] e pos) (aHD te (vO i)):=⟨L2.aV hN hi hx he.h hs hf⟩
theorem y4(he:QE X e te)(hg:QG X tg g)(hs:swapsWithSole [tg] e pos.line X.env=pure false:=by rfl)(hw:swappedStores [tg] e X.env=pure none:=by rfl)
  (h1:(assignEach [tg] X.env).map (·.2)=[assign tg X.env]:=by rfl):QS X (.Assign [tg] e pos) (aHD te g):=⟨L2.y4 he.h hg.h hs hw h1⟩
theorem aA9{i:Nat}{op:Operator}{tip:TIp}{pos':Pos}(hN:X.N.Nodup)(hi:X.N[i]?=some x)(hx:Loc X.env.scope x)(he:QE X e te)(ho:PIp X op tip)(hf:X.fn x=true\/X.env.scope.names.lookup x=some .local:=by first|exact .inl rfl|exact .inr rfl|assumption) :
  QS X (.AugAssign (.Name x pos') op e pos) (aNx i te tip):=⟨L2.aA9 hN hi hx he.h ho hf⟩
theorem aFj{i:Expr}{tget:V->V->Hp->VK->Prop}{tip:TIp}{tset:aFh}{op:Operator}{tpos:Pos}(ho:QE X o to)(hi:QE X i ti)(hg:aNy X tget)(he:QE X e te)(hp:PIp X op tip)(hs:aKh X tset)
  (ha:∀ov iv new,augStore i ov iv new=(do holding [new,ov,iv] (setItem ov iv new);release [new,ov,iv] [];pure .next):=by intros;rfl):QS X (.AugAssign (.Subscript o i tpos) op e pos) (aKi to ti te tget tip tset):=⟨L2.aFj ho.h hi.h hg he.h hp hs ha⟩
theorem cO(hp:PassesOwn (model X.prog X.w) X.A X.env X.xe)(hc:X.calm=true)(hi:QI X tg iter wi)(hg:QG X tg g)(hb:QSs X sts ts)
  (hs:∀x,foldedSetIterable iter X.env x=pure x:=by intro _;rfl):QS X (.For tg iter sts [] pos) (aNB wi g ts):=⟨L2.cO hp hc hi.h hg.h hb.h hs⟩
variable{scope:Scope}{elt target:Expr}{ifs:List Expr}{N:List Str}
theorem fE{k:Nat}{idx:List Nat}{N:List Str}(S:eR X scope N k idx)(hc:X.calm=true)(hi:QI X target iter wi)
  (hg:∀fp C s H,QG (cxC X scope N fp C s H) target g) (ho:Own k g) (ht:∀fp C s H,QTs (cxC X scope N fp C s H) ifs tt) (he:∀fp C s H,QE (cxC X scope N fp C s H) elt te)
  (hs:∀x,foldedSetIterable iter X.env x=pure x:=by intro _;rfl):QE X (.ListComp elt [⟨target,iter,ifs,0⟩] scope pos) (aGN wi k idx g tt te):=
 ⟨L2.fE k idx S hc hi.h (fun fp C s H=>(hg fp C s H).h) ho (fun fp C s H=>(ht fp C s H).h) (fun fp C s H=>(he fp C s H).h) hs⟩
theorem pZ{k:Nat}{idx:List Nat}{i:Nat}{N:List Str}{pos':Pos}(hN:X.N.Nodup)(hix:X.N[i]?=some x)(hx:Loc X.env.scope x)
  (S:eR X scope N k idx) (hc:X.calm=true) (hi:QI X target iter wi)
  (hg:∀fp C s H,QG (cxC X scope N fp C s H) target g) (ho:Own k g) (ht:∀fp C s H,QTs (cxC X scope N fp C s H) ifs tt) (he:∀fp C s H,QE (cxC X scope N fp C s H) elt te)
  (hsw:swapsWith (.ListComp elt [⟨target,iter,ifs,0⟩] scope pos) (some (.Name x pos')) spos.line X.env=pure true:=by rfl)
  (hs:∀x,foldedSetIterable iter X.env x=pure x:=by intro _;rfl) (hfn:X.fn x=true\/X.env.scope.names.lookup x=some .local:=by first|exact .inl rfl|exact .inr rfl|assumption) :
  QS X (.Assign [.Name x pos'] (.ListComp elt [⟨target,iter,ifs,0⟩] scope pos) spos) (aHD (aGN wi k idx g tt te) (vO i)):=
 ⟨L2.pZ k idx hN hix hx S hc hi.h (fun fp C s H=>(hg fp C s H).h) ho (fun fp C s H=>(ht fp C s H).h) (fun fp C s H=>(he fp C s H).h) hsw hs hfn⟩
variable{x1:Nat}{e1 e2 e3 e4 e5 e6 e7 e8:Expr}{t1 t2 t3 t4 t5 t6 t7 t8:TE}
theorem aFu(h1:QE X e1 t1)(n1:noStar e1=true:=by rfl):QE X (.List [e1] pos) (y6 (bG t1 oV)):=⟨L2.aFu h1.h n1⟩
theorem aCR(h1:QE X e1 t1)(h2:QE X e2 t2)(n1:noStar e1=true:=by rfl)(n2:noStar e2=true:=by rfl):QE X (.List [e1,e2] pos) (y6 (bG t1 (bG t2 oV))):=⟨L2.aCR h1.h h2.h n1 n2⟩
theorem rN{k1}(h1:QE X e1 t1)(h2:QE X e2 t2)(n1:noStar e1=true:=by rfl)(n2:noStar e2=true:=by rfl):QE X (.Tuple [e1,e2] k1 pos) (aGx (bG t1 (bG t2 oV))):=⟨L2.rN h1.h h2.h n1 n2⟩
theorem aHW(h1:QE X e1 t1)(h2:QE X e2 t2)(h3:QE X e3 t3)(n1:noStar e1=true:=by rfl)(n2:noStar e2=true:=by rfl)(n3:noStar e3=true:=by rfl):QE X (.List [e1,e2,e3] pos) (y6 (bG t1 (bG t2 (bG t3 oV)))):=⟨L2.aHW h1.h h2.h h3.h n1 n2 n3⟩
theorem aKU{k1}(h1:QE X e1 t1)(h2:QE X e2 t2)(h3:QE X e3 t3)(n1:noStar e1=true:=by rfl)(n2:noStar e2=true:=by rfl)(n3:noStar e3=true:=by rfl):QE X (.Tuple [e1,e2,e3] k1 pos) (aGx (bG t1 (bG t2 (bG t3 oV)))):=⟨L2.aKU h1.h h2.h h3.h n1 n2 n3⟩
theorem aOr(h1:QE X e1 t1)(h2:QE X e2 t2)(h3:QE X e3 t3)(h4:QE X e4 t4)(n1:noStar e1=true:=by rfl)(n2:noStar e2=true:=by rfl)(n3:noStar e3=true:=by rfl)(n4:noStar e4=true:=by rfl):QE X (.List [e1,e2,e3,e4] pos) (y6 (bG t1 (bG t2 (bG t3 (bG t4 oV))))):=⟨L2.aOr h1.h h2.h h3.h h4.h n1 n2 n3 n4⟩
theorem aME{k1}(h1:QE X e1 t1)(h2:QE X e2 t2)(h3:QE X e3 t3)(h4:QE X e4 t4)(n1:noStar e1=true:=by rfl)(n2:noStar e2=true:=by rfl)(n3:noStar e3=true:=by rfl)(n4:noStar e4=true:=by rfl):QE X (.Tuple [e1,e2,e3,e4] k1 pos) (aGx (bG t1 (bG t2 (bG t3 (bG t4 oV))))):=⟨L2.aME h1.h h2.h h3.h h4.h n1 n2 n3 n4⟩
theorem aMF(h1:QE X e1 t1)(h2:QE X e2 t2)(h3:QE X e3 t3)(h4:QE X e4 t4)(h5:QE X e5 t5)(n1:noStar e1=true:=by rfl)(n2:noStar e2=true:=by rfl)(n3:noStar e3=true:=by rfl)(n4:noStar e4=true:=by rfl)(n5:noStar e5=true:=by rfl):QE X (.List [e1,e2,e3,e4,e5] pos) (y6 (bG t1 (bG t2 (bG t3 (bG t4 (bG t5 oV)))))):=⟨L2.aMF h1.h h2.h h3.h h4.h h5.h n1 n2 n3 n4 n5⟩
theorem aOs(h1:QE X e1 t1)(h2:QE X e2 t2)(h3:QE X e3 t3)(h4:QE X e4 t4)(h5:QE X e5 t5)(h6:QE X e6 t6)(h7:QE X e7 t7)(n1:noStar e1=true:=by rfl)(n2:noStar e2=true:=by rfl)(n3:noStar e3=true:=by rfl)(n4:noStar e4=true:=by rfl)(n5:noStar e5=true:=by rfl)(n6:noStar e6=true:=by rfl)(n7:noStar e7=true:=by rfl):QE X (.List [e1,e2,e3,e4,e5,e6,e7] pos) (y6 (bG t1 (bG t2 (bG t3 (bG t4 (bG t5 (bG t6 (bG t7 oV)))))))):=⟨L2.aOs h1.h h2.h h3.h h4.h h5.h h6.h h7.h n1 n2 n3 n4 n5 n6 n7⟩
end
end L2.Z
namespace L2.Z
open PySem PySem.Spec PyProof.Rows L2
section
variable{X:Cx}{CX:CXT}{k:Nat}{f C:Addr}{fd:FuncData}{ps:List Str}{sp:Sp}{dvs:List V}{ds:List Value}{E:XK}{x m:Str}{p pos apos p2 spos cpos tp:Pos}{a b c e o st:Expr}{es rest elts:List Expr}{ta tb tc te to ti:TE}{t:TA}{x1:Nat}{ts:TO}
theorem aFl{pl:Sem Bool}(he:QE X o ta)(c:Cls X.K C)(hm:Meth X.K C m f)(F:bL X.prog X.w X.K X.mg X.base CX k f fd ps sp)(hr:fD k X.A)(hb:Binds X.K fd ps ds)(hd:Vals dvs ds)(hx:Passes CX X E)(ha:QA X (e::es) t)
  (hn:(e::es).all noStar=true:=by rfl)
  (ht:eval (.Call (.Attribute o m apos) (e::es) [] pos) X.env=(do
   let ov <-eval o X.env
   standAt apos.atName
   let (f,first) <-holding [ov] (getMethod ov m pl)
   callWith pos f first (backTo pos (starEach (e::es) X.env)) (backToKw pos (keywordEach [] X.env))):=by rfl) :
  QE X (.Call (.Attribute o m apos) (e::es) [] pos) (aIC C m sp dvs E ta t):=⟨L2.aFl he.h c hm F hr hb hd hx ha.h (bM (iM hn).1) (jW (iM hn).2) ht⟩
end
end L2.Z
namespace L2.Z
open PySem PySem.Spec PyProof.Rows L2
section
variable{X:Cx}{K':W.Frag}{x m n:Str}{p pos apos p2 spos cpos tp pos':Pos}{a b c e o st iter tg:Expr}{es rest elts:List Expr}{ta tb tc te to ti:TE}{t:TA}{x1:Nat}{ts:TO}
theorem aJ(ha:QE X a ta)(hb:QE X b tb)(hs:aIG b)(hK:X.K=K':=by rfl):QE X (.Subscript a b pos) (tOp (rIx K') ta tb):=by subst hK;exact⟨L2.aOV aNN ha.h hb.h hs⟩
theorem cV(hl:QE X e te)(hK:X.K=K':=by rfl):QI X tg e (aKj K' te):=by subst hK;exact⟨L2.aL4 hl.h⟩
theorem aFx(hl:QE X e te)(hK:X.K=K':=by rfl):QI X tg e (aNz K' te):=by subst hK;exact⟨L2.aNA hl.h⟩
theorem vZ(hg:Gl X "enumerate")(hm:X.mg "enumerate" = none)(ha:QA X [a] t)(hn:noStar a=true:=by rfl)(hK:X.K=K':=by rfl):QI X (.Tuple elts x1 tp) (.Call (.Name "enumerate" p) [a] [] pos) (aKV K' t):=by subst hK;exact⟨L2.aMG hg hm ha.h hn⟩
theorem eK{k1 n:Nat}{gs:TGs}(hc:X.calm=true)(h:QGs X es gs)(hn:(assignEach es X.env).length=n:=by rfl)(hst:(assignEach es X.env).findIdx? (·.1)=none:=by rfl)(hK:X.K=K':=by rfl):QG X (.Tuple es k1 pos) (aL3 K' n gs):=by subst hK;exact⟨L2.aNu hc h.h hn hst⟩
theorem fF(he:QE X e ta)(hb:attributeBase e n X.env (eval e X.env)=eval e X.env)(hK:X.K=K':=by rfl):QE X (.Attribute e n pos) (aNF K' ta n):=by subst hK;exact⟨L2.aNH he.h hb⟩
theorem fG(ha:QE X o ta)(hv:QE X e te)(hs:swapsWith e (some (.Attribute o n pos')) pos.line X.env=pure false)(hK:X.K=K':=by rfl):QS X (.Assign [.Attribute o n pos'] e pos) (aNG K' ta te n):=by subst hK;exact⟨L2.aNI ha.h hv.h hs⟩
theorem aAf(ho:QE X o to)(ha:QA X [e] t)(hn:noStar e=true:=by rfl)(hbase:attributeBase o "append" X.env (eval o X.env)=eval o X.env:=by rfl)(hline:(apos.endLine == cpos.line)=true:=by rfl)(hK:X.K=K':=by rfl) :
  QE X (.Call (.Attribute o "append" apos) [e] [] cpos) (tBM K' "list" aCu to t):=by subst hK;exact⟨L2.aOt ho.h ha.h hn hbase hline⟩
end
end L2.Z
namespace L2.Z
open PySem PySem.Spec PyProof.Rows L2
section
variable{X:Cx}{K':W.Frag}{p pos tp:Pos}{a b:Expr}{elts:List Expr}{t:TA}{x1:Nat}
end
end L2.Z
namespace L2
open PySem
section
variable{prog:Program}{w:World}{A:Around}{E:Value->Shared->Prop}{s:Shared}
theorem aAg{it t:Addr}{i:Nat}{items}{x:Value}{Q:Value->Shared->Prop}(hit:s.heap.IsTupleIter it t i)
  (ht:s.heap.IsTuple t items) (hx:items[i]?=some x)
  (hQ:∀h',h'.IsTupleIter it t (i+1)->Heap.SameBut it s.heap h'->Q x { s with heap:=h' }) :
  wpAny (model prog w) A (Builtin.SmallTypes.nextOf (.ref it)) Q E s:=by
 obtain⟨o,ho,hc,hd⟩:=id hit
 obtain⟨ol,hol,_,nl,hdl⟩:=ht
 unfold Builtin.SmallTypes.nextOf
 refine wpAny_bind (wpAny_callSpecial?_slot (name:=Str.ofString "__next__") hit.typeIs F.slot_tuple_iterator_next
  (wpAny_call_entry F.slot_tuple_iterator_next hit.typeIs F.entry_tuple_iterator_next ?_ (F.args_tuple_iterator_next_1 _)))
 show wpAny _ _ (field (.ref it) 0 >>= _) _ _ s
 refine wpAny_bind (wpAny_field ho hd (x:=.ref t) rfl ?_)
 show wpAny _ _ (if (Value.ref t == Value.none)=true then _ else _) _ _ s
 rw[if_neg (show ¬((Value.ref t == Value.none)=true) from Bool.false_ne_true)]
 show wpAny _ _ (field (.ref it) 1 >>= _) _ _ s
 refine wpAny_bind (wpAny_field ho hd (x:=.int i 0) rfl ?_)
 show wpAny _ _ (seqItems? (.ref t) >>= _) _ _ s
 refine wpAny_bind (wpAny_seqItems hol hdl ?_)
 simp only[Int.toNat_natCast,hx]
 refine wpAny_bind (wpAny_setField ho hd (by simp) (wpAny_pure ⟨x,rfl,wpAny_pure (hQ _ ?_ (Heap.SameBut.update ..))⟩))
 exact⟨_,Heap.get?_update_self _ ho (Obj.isFreed_of_fields (Obj.data_mapFields hd _)),(Obj.cls_mapFields ..).trans hc,by
  rw[Obj.data_mapFields hd];simp[rawInt]⟩
theorem aBm{it t:Addr}{i:Nat}{items}{Q:Value->Shared->Prop}(hh:A.handled=none)
  (hit:s.heap.IsTupleIter it t i) (ht:s.heap.IsTuple t items) (hx:items[i]?=none)
  (hE:∀h' e,Heap.ExtBut it s.heap h'->(∃o,h'.get? e=some o/\o.cls=.type "StopIteration")->E (.ref e) { s with heap:=h' }) :
  wpAny (model prog w) A (Builtin.SmallTypes.nextOf (.ref it)) Q E s:=by
 obtain⟨o,ho,hc,hd⟩:=id hit
 obtain⟨ol,hol,_,nl,hdl⟩:=ht
 unfold Builtin.SmallTypes.nextOf
 refine wpAny_bind (wpAny_callSpecial?_slot (name:=Str.ofString "__next__") hit.typeIs F.slot_tuple_iterator_next
  (wpAny_call_entry F.slot_tuple_iterator_next hit.typeIs F.entry_tuple_iterator_next ?_ (F.args_tuple_iterator_next_1 _)))
 show wpAny _ _ (field (.ref it) 0 >>= _) _ _ s
 refine wpAny_bind (wpAny_field ho hd (x:=.ref t) rfl ?_)
 show wpAny _ _ (if (Value.ref t == Value.none)=true then _ else _) _ _ s
 rw[if_neg (show ¬((Value.ref t == Value.none)=true) from Bool.false_ne_true)]
 show wpAny _ _ (field (.ref it) 1 >>= _) _ _ s
 refine wpAny_bind (wpAny_field ho hd (x:=.int i 0) rfl ?_)
 show wpAny _ _ (seqItems? (.ref t) >>= _) _ _ s
 refine wpAny_bind (wpAny_seqItems hol hdl ?_)
 simp only[Int.toNat_natCast,hx]
 refine wpAny_bind (wpAny_rule (wpAny_bind (wpAny_setField ho hd (by simp) ?_)))
 show wpAny _ _ (newExc (.type "StopIteration") [] >>= _) _ _ _
 refine wpAny_bind ?_
 simp only[newExc,newTuple]
 refine wpAny_bind (wpAny_newObj_type ?_ (by size_fits))
 refine wpAny_bind (m:=firstArgMember _ _) (wpAny_of_eq (a:=Value.none) (by first|rfl|(simp only[firstArgMember];rfl)) ?_)
 refine wpAny_newObj_type ?_ (by size_fits)
 simp only[raiseNew]
 refine wpAny_bind (wpAny_handled ?_)
 first|rw[show A.in1.handled=none from hh]|rw[hh]
 refine wpAny_bind (wpAny_pure (wpAny_throw ?_))
 exact hE _ _ (((Heap.SameBut.update ..).extBut.push _).push _) ⟨_,Heap.get?_push_size _ rfl,rfl⟩
end
def SIt(h:Heap)(k:Bool)(it src:Addr)(i:Nat):Prop:=if k=true then h.IsListIter it src i else h.IsTupleIter it src i
def vJ(h:Heap)(k:Bool)(src:Addr)(items:Array Value):Prop:=if k=true then h.IsList src items else h.IsTuple src items
theorem SIt.at{h h':Heap}{k:Bool}{it src:Addr}{i:Nat}(x:SIt h k it src i)(e:∀o,h.get? it=some o->h'.get? it=some o):SIt h' k it src i:=by
 cases k with
 |true=>obtain⟨o,ho,r⟩:=(show h.IsListIter it src i from x);exact(show h'.IsListIter it src i from⟨o,e o ho,r⟩)
 |false=>obtain⟨o,ho,r⟩:=(show h.IsTupleIter it src i from x);exact(show h'.IsTupleIter it src i from⟨o,e o ho,r⟩)
theorem vJ.at{h h':Heap}{k:Bool}{src:Addr}{items:Array Value}(x:vJ h k src items)(e:∀o,h.get? src=some o->h'.get? src=some o):vJ h' k src items:=by
 cases k with
 |true=>obtain⟨o,ho,r⟩:=(show h.IsList src items from x);exact(show h'.IsList src items from⟨o,e o ho,r⟩)
 |false=>obtain⟨o,ho,r⟩:=(show h.IsTuple src items from x);exact(show h'.IsTuple src items from⟨o,e o ho,r⟩)
theorem SIt.obj{h:Heap}{k:Bool}{it src:Addr}{i:Nat}(x:SIt h k it src i):∃o vs,h.get? it=some o/\o.data=.fields vs:=by
 cases k with
 |true=>obtain⟨o,ho,_,r⟩:=(show h.IsListIter it src i from x);exact⟨o,_,ho,r⟩
 |false=>obtain⟨o,ho,_,r⟩:=(show h.IsTupleIter it src i from x);exact⟨o,_,ho,r⟩
section
variable{prog:Program}{w:World}{A:Around}{E:Value->Shared->Prop}{s:Shared}
theorem aGV{k:Bool}{it src:Addr}{i:Nat}{items:Array Value}{x:Value}{Q:Value->Shared->Prop}(hit:SIt s.heap k it src i)(hs:vJ s.heap k src items)(hx:items[i]?=some x)
  (hQ:∀h',SIt h' k it src (i+1)->Heap.SameBut it s.heap h'->Q x { s with heap:=h' }):wpAny (model prog w) A (Builtin.SmallTypes.nextOf (.ref it)) Q E s:=by
 cases k with
 |true=>exact wpAny_nextOf_list_item hit hs hx hQ
 |false=>exact aAg hit hs hx hQ
theorem aHZ{k:Bool}{it src:Addr}{i:Nat}{items:Array Value}{Q:Value->Shared->Prop}(hh:A.handled=none)(hit:SIt s.heap k it src i)(hs:vJ s.heap k src items)(hx:items[i]?=none)
  (hE:∀h' e,Heap.ExtBut it s.heap h'->(∃o,h'.get? e=some o/\o.cls=.type "StopIteration")->E (.ref e) { s with heap:=h' }):wpAny (model prog w) A (Builtin.SmallTypes.nextOf (.ref it)) Q E s:=by
 cases k with
 |true=>exact wpAny_nextOf_list_end hh hit hs hx hE
 |false=>exact aBm hh hit hs hx hE
end
abbrev ZS:=Bool×Addr×Addr
structure ZA(z TI TO:Addr)(L:List ZS):Prop where
 TIz:TI≠z
 TOz:TO≠z
 TITO:TI≠TO
 it:∀t∈L,t.2.1≠z/\t.2.1≠TI/\t.2.1≠TO
 nd:(L.map (·.2.1)).Nodup
abbrev o6(h:Heap)(T:Addr)(vs:Array Value):Prop:=h.get? T=some { cls:=.type "tuple",data:=.seq vs }
def aOx(z TO:Addr)(L:List ZS):Prop:=∀t∈L,t.2.2≠z/\t.2.2≠TO/\∀u∈L,t.2.2≠u.2.1
theorem aK4:∀{l:List Addr},l.Nodup->∀{i j:Nat}{a:Addr},l[i]?=some a->l[j]?=some a->i=j
 |[],_,_,_,_,h,_=>by simp at h
 |b::l,n,0,0,_,_,_=>rfl
 |b::l,n,0,j+1,a,h1,h2=>by
  simp at h1 h2
  subst h1
  exact absurd (List.mem_of_getElem? h2) (List.nodup_cons.mp n).1
 |b::l,n,i+1,0,a,h1,h2=>by
  simp at h1 h2
  subst h2
  exact absurd (List.mem_of_getElem? h1) (List.nodup_cons.mp n).1
 |b::l,n,i+1,j+1,a,h1,h2=>by
  simp at h1 h2
  rw[aK4 (List.nodup_cons.mp n).2 h1 h2]
section
variable{prog:Program}{w:World}{A:Around}{E:Value->Shared->Prop}{s:Shared}
theorem aPJ{T:Addr}{arr:Array Value}{x:Value}{j:Nat}{Q:Unit->Shared->Prop}(hT:o6 s.heap T arr)(hz:arr.size<=1000)
  (h:∀h',o6 h' T (arr.setIfInBounds j x)->Heap.SameBut T s.heap h'->Q () { s with heap:=h' }):wpAny (model prog w) A (updateSeq T (·.setIfInBounds j x)) Q E s:=by
 refine wpAny_updateSeq hT rfl (h _ ?_ (Heap.SameBut.update ..)) (by rw[sizeLine_eq];omega) (by rw[Array.size_setIfInBounds,sizeLine_eq];omega)
 show(s.heap.update T _).get? T=_
 rw[Heap.get?_update_self _ hT rfl]
 simp[Obj.mapSeq]
structure aOy(z TI TO:Addr)(L:List ZS)(k:Nat)(xs:Nat->Value)(h₀:Heap)(j:Nat)(h:Heap):Prop where
 zz:IsZip h z TI TO .ellipsis
 to:∃arr:Array Value,o6 h TO arr/\arr.size=L.length/\∀i,i < j->arr[i]?=some (xs i)
 it:∀i t,L[i]?=some t->SIt h t.1 t.2.1 t.2.2 (if i < j then k+1 else k)
 off:∀c o,c≠z->c≠TO->(∀t∈L,c≠t.2.1)->h₀.get? c=some o->h.get? c=some o
 sz:h.objs.size=h₀.objs.size
theorem aGW{z TI TO:Addr}{L:List ZS}{k:Nat}{items:Nat->Array Value}{xs:Nat->Value}{arr:Array Value}{Q:Value->Shared->Prop}(hh:A.handled=none)(D:ZA z TI TO L)(S:aOx z TO L)(hne:L≠[])(hlen:L.length<=1000)
  (hz:IsZip s.heap z TI TO .none) (hTI:o6 s.heap TI (L.map fun t=>Value.ref t.2.1).toArray) (hTO:o6 s.heap TO arr) (harr:arr.size=L.length)
  (hit:∀t∈L,SIt s.heap t.1 t.2.1 t.2.2 k) (hsrc:∀i t,L[i]?=some t->vJ s.heap t.1 t.2.2 (items i))
  (hx:∀i,i < L.length->∀x,(items i)[k]?=some x->x=xs i)
  (hQ:(∀i,i < L.length->(items i)[k]?=some (xs i))->∀h' arr',IsZip h' z TI TO (rawInt s.heap.objs.size)->o6 h' TO arr'->arr'.size=L.length->(∀i,i < L.length->arr'[i]?=some (xs i))->(∀t∈L,SIt h' t.1 t.2.1 t.2.2 (k+1))->o6 h' s.heap.objs.size arr'->h'.objs.size=s.heap.objs.size+1->
   (∀c o,c≠z->c≠TO->(∀t∈L,c≠t.2.1)->s.heap.get? c=some o->h'.get? c=some o)->Q (.ref s.heap.objs.size) { s with heap:=h' })
  (hE:(∃i,i < L.length/\(items i)[k]?=none)->∀h' e,(∀c o,c≠z->c≠TO->(∀t∈L,c≠t.2.1)->s.heap.get? c=some o->h'.get? c=some o)->(∃o,h'.get? e=some o/\o.cls=.type "StopIteration")->E (.ref e) { s with heap:=h' }) :
  wpAny (model prog w) A (Builtin.«zip.__next__» ⟨[.ref z],[]⟩) (fun fin s'=>∃v,fin=.done (.ret v)/\Q v s') E s:=by
 show wpAny _ _ (field (.ref z) 2 >>= _) _ _ _
 refine wpAny_bind (wpAny_field hz rfl (x:=.bool false) rfl ?_)
 show wpAny _ _ (field (.ref z) 3 >>= _) _ _ _
 refine wpAny_bind (wpAny_field hz rfl (x:=.ref TI) rfl ?_)
 refine wpAny_bind (wpAny_seqItems hTI rfl ?_)
 have hemp:(L.map fun t=>Value.ref t.2.1).toArray.isEmpty=false:=by
  cases L with
  |nil=>exact absurd rfl hne
  |cons t L=>rfl
 simp only[hemp,Bool.false_eq_true,if_false]
 show wpAny _ _ (Builtin.SmallTypes.ownedTupleIsFree (.ref z) >>= _) _ _ _
 refine wpAny_bind ?_
 unfold Builtin.SmallTypes.ownedTupleIsFree
 refine wpAny_bind (wpAny_field hz rfl (x:=.none) rfl (wpAny_pure ?_))
 simp only[if_true]
 refine wpAny_bind (wpAny_rule ?_)
 refine wpAny_bind (wpAny_field hz rfl (x:=.ref TO) rfl ?_)
 refine wpAny_bind (wpAny_setField_rec hz (by simp) fun h₁ hz₁ hs₁=>?_)
 replace hz₁:IsZip h₁ z TI TO .ellipsis:=hz₁
 replace hs₁:Heap.SameBut z s.heap h₁:=hs₁
 refine wpAny_bind ?_
 refine wpAny_forIn_list _ (fun rest b s'=>b=((none,()):Option Fin×Unit)/\∃j,rest=((L.map fun t=>Value.ref t.2.1).zipIdx).drop j/\j<=L.length/\(∀i,i < j->(items i)[k]?=some (xs i))/\aOy z TI TO L k xs s.heap j s'.heap/\s'={ s with heap:=s'.heap }) _ ?turn ?fin _ _ ⟨rfl,0,rfl,Nat.zero_le _,fun i hi=>absurd hi (Nat.not_lt_zero _),?start,rfl⟩
 case start=>
  exact⟨hz₁,⟨arr,hs₁.extBut _ _ D.TOz hTO,harr,fun i hi=>absurd hi (Nat.not_lt_zero _)⟩,fun i t ht=>by
   rw[if_neg (Nat.not_lt_zero _)]
   exact(hit t (List.mem_of_getElem? ht)).at fun o e=>hs₁.extBut _ _ (D.it t (List.mem_of_getElem? ht)).1 e,fun c o c1 _ _ e=>hs₁.extBut _ _ c1 e,hs₁.1⟩
 case turn=>
  rintro x rest b s' ⟨rfl,j,er,hj,hxs,M,es⟩
  have hll:((L.map fun t=>Value.ref t.2.1).zipIdx).length=L.length:=by simp
  have hjl:j < ((L.map fun t=>Value.ref t.2.1).zipIdx).length:=by
   apply Nat.lt_of_not_le
   intro h
   rw[List.drop_eq_nil_of_le h] at er
   cases er
  rw[List.drop_eq_getElem_cons hjl] at er
  injection er with e1 e2
  have hjL:j < L.length:=by rw[<-hll];exact hjl
  have ht:L[j]?=some L[j]:=List.getElem?_eq_getElem hjL
  have hmem:=List.getElem_mem hjL
  have e3:((L.map fun t=>Value.ref t.2.1).zipIdx)[j]=(Value.ref L[j].2.1,j):=by simp
  rw[e3] at e1
  generalize L[j]=t at ht hmem e1
  subst e1 e2
  obtain⟨h',g',d',t',o'⟩:=s'
  injection es with _ e4 e5 e6 e7
  subst e4 e5 e6 e7
  replace M:aOy z TI TO L k xs s.heap j h':=M
  have hitj:=M.it j t ht
  rw[if_neg (Nat.lt_irrefl _)] at hitj
  have hsj:vJ h' t.1 t.2.2 (items j):=(hsrc j t ht).at fun o e=>M.off _ o (S t hmem).1 (S t hmem).2.1 (S t hmem).2.2 e
  refine wpAny_bind (wpAny_onRaise ?_)
  show wpAny _ _ (Builtin.SmallTypes.nextOf (.ref t.2.1) >>= _) _ _ _
  cases hxk:(items j)[k]? with
  |none=>
   refine wpAny_bind (aHZ (s:=⟨h',s.gens,s.drawn,s.toks,s.os⟩) hh hitj hsj hxk fun h2 e eb he=>?_)
   replace eb:Heap.ExtBut t.2.1 h' h2:=eb
   obtain⟨oe,hoe,hce⟩:=he
   have hz2:IsZip h2 z TI TO .ellipsis:=eb _ _ (Ne.symm (D.it t hmem).1) M.zz
   have hez:e≠z:=fun q=>by subst q;rw[hz2] at hoe;cases hoe;simp at hce
   refine wpAny_setField_rec hz2 (by simp) fun h3 _ hs3=>hE ⟨j,hjL,hxk⟩ h3 e (fun c o c1 c2 c3 q=>hs3.extBut _ _ c1 (eb _ _ (c3 t hmem) (M.off c o c1 c2 c3 q))) ⟨oe,hs3.extBut _ _ hez hoe,hce⟩
  |some x=>
   have ex:=hx j hjL x hxk
   subst ex
   refine wpAny_bind (aGV (s:=⟨h',s.gens,s.drawn,s.toks,s.os⟩) hitj hsj hxk fun h2 it2 sb2=>wpAny_pure ?_)
   replace sb2:Heap.SameBut t.2.1 h' h2:=sb2
   obtain⟨arr2,hTO2,ha2,hv2⟩:=M.to
   have hTO3:o6 h2 TO arr2:=sb2.extBut _ _ (Ne.symm (D.it t hmem).2.2) hTO2
   refine wpAny_bind (wpAny_seqItems hTO3 rfl ?_)
   refine wpAny_bind (aPJ (s:=⟨h2,s.gens,s.drawn,s.toks,s.os⟩) hTO3 (by omega) fun h3 hTO4 sb3=>?_)
   replace sb3:Heap.SameBut TO h2 h3:=sb3
   refine wpAny_bind (wpAny_letGo (wpAny_pure ?_))
   refine⟨rfl,j+1,rfl,hjL,fun i hi=>?_,⟨?_,⟨_,hTO4,?_,fun i hi=>?_⟩,fun i u hu=>?_,fun c o c1 c2 c3 q=>?_,?_⟩,rfl⟩
   ·by_cases e:i=j
    ·subst e;exact hxk
    ·exact hxs i (by omega)
   ·exact sb3.extBut _ _ (Ne.symm D.TOz) (sb2.extBut _ _ (Ne.symm (D.it t hmem).1) M.zz)
   ·rw[Array.size_setIfInBounds];exact ha2
   ·by_cases e:i=j
    ·subst e
     rw[Array.getElem?_setIfInBounds_self_of_lt (by omega)]
    ·rw[Array.getElem?_setIfInBounds_ne (Ne.symm e)]
     exact hv2 i (by omega)
   ·have mu:=List.mem_of_getElem? hu
    have nT:u.2.1≠TO:=(D.it u mu).2.2
    by_cases e:i=j
    ·subst e
     rw[ht] at hu
     cases hu
     rw[if_pos (Nat.lt_succ_self _)]
     exact it2.at fun o q=>sb3.extBut _ _ nT q
    ·have ne:u.2.1≠t.2.1:=fun q=>by
      have n:=D.nd
      have q1:(L.map (·.2.1))[i]?=some u.2.1:=by rw[List.getElem?_map,hu];rfl
      have q2:(L.map (·.2.1))[j]?=some u.2.1:=by rw[List.getElem?_map,ht,q];rfl
      exact e (aK4 n q1 q2)
     have:=M.it i u hu
     rw[show(if i < j+1 then k+1 else k)=if i < j then k+1 else k by split <;> split <;> omega]
     exact this.at fun o q=>sb3.extBut _ _ nT (sb2.extBut _ _ ne q)
   ·exact sb3.extBut _ _ c2 (sb2.extBut _ _ (c3 t hmem) (M.off c o c1 c2 c3 q))
   ·show h3.objs.size=_
    rw[sb3.1,sb2.1];exact M.sz
 case fin=>
  rintro b s' ⟨rfl,j,er,hj,hxs,M,es⟩
  have hjL:j=L.length:=by
   have:((L.map fun t=>Value.ref t.2.1).zipIdx).length<=j:=List.drop_eq_nil_iff.mp er.symm
   simp at this
   omega
  subst hjL
  obtain⟨h',g',d',t',o'⟩:=s'
  injection es with _ e4 e5 e6 e7
  subst e4 e5 e6 e7
  replace M:aOy z TI TO L k xs s.heap L.length h':=M
  obtain⟨arr2,hTO2,ha2,hv2⟩:=M.to
  show wpAny _ _ (seqItems? (.ref TO) >>= _) _ _ _
  refine wpAny_bind (wpAny_seqItems hTO2 rfl ?_)
  refine wpAny_bind (wpAny_newTuple ?_ (by rw[Array.length_toList,sizeLine_eq];omega))
  have hzlt:z < h'.objs.size:=Heap.lt_size M.zz
  show wpAny _ _ (Builtin.SmallTypes.ownedTupleHandOut (.ref z) (.ref h'.objs.size) >>= _) _ _ _
  refine wpAny_bind ?_
  unfold Builtin.SmallTypes.ownedTupleHandOut
  have hz6:IsZip (h'.push { cls:=.type "tuple",data:=.seq arr2.toList.toArray }) z TI TO .ellipsis:=Heap.get?_push_of_some _ M.zz
  refine wpAny_bind (wpAny_setField_rec hz6 (by simp) fun h7 hz7 hs7=>?_)
  replace hz7:IsZip h7 z TI TO (rawInt h'.objs.size):=hz7
  refine wpAny_setField_rec hz7 (by simp) fun h8 hz8 hs8=>?_
  replace hz8:IsZip h8 z TI TO (rawInt h'.objs.size):=hz8
  have up:∀c o,c≠z->h'.get? c=some o->h8.get? c=some o:=fun c o c1 e=>hs8.extBut _ _ c1 (hs7.extBut _ _ c1 (Heap.get?_push_of_some _ e))
  have hT8:o6 h8 h'.objs.size arr2:=hs8.extBut _ _ (Nat.ne_of_gt hzlt) (hs7.extBut _ _ (Nat.ne_of_gt hzlt) (by
   have:=Heap.get?_push_size h' (o:={ cls:=.type "tuple",data:=.seq arr2.toList.toArray }) rfl
   simpa using this))
  have hz9:h8.objs.size=h'.objs.size+1:=by rw[hs8.1,hs7.1,Heap.size_push]
  rw[M.sz] at hz8 hT8 hz9
  refine wpAny_pure ⟨_,rfl,?_⟩
  show Q (.ref h'.objs.size) _
  rw[M.sz]
  refine hQ (fun i hi=>hxs i hi) h8 arr2 hz8 (up _ _ D.TOz hTO2) ha2 hv2 (fun t ht=>?_) hT8 hz9 fun c o c1 c2 c3 e=>up c o c1 (M.off c o c1 c2 c3 e)
  obtain⟨i,hi⟩:=List.getElem?_of_mem ht
  have:=M.it i t hi
  rw[if_pos (List.getElem?_eq_some_iff.mp hi).1] at this
  exact this.at fun o e=>up _ o (D.it t ht).1 e
end
def ZSt(z TI TO:Addr)(L:List ZS)(i:Nat)(h:Heap):Prop:=
 IsZip h z TI TO .none/\o6 h TI (L.map fun t=>Value.ref t.2.1).toArray/\(∃arr,o6 h TO arr/\arr.size=L.length)/\∀t∈L,SIt h t.1 t.2.1 t.2.2 i
abbrev aCW(k:Bool)(src:Addr):Obj:={ cls:=.type (if k=true then "list_iterator" else "tuple_iterator"),data:=.fields #[.ref src,.int 0 0] }
theorem SIt.new{h:Heap}{k:Bool}{it src:Addr}(e:h.get? it=some (aCW k src)):SIt h k it src 0:=by
 cases k with
 |true=>exact(show h.IsListIter it src 0 from⟨_,e,rfl,rfl⟩)
 |false=>exact(show h.IsTupleIter it src 0 from⟨_,e,rfl,rfl⟩)
section
variable{prog:Program}{w:World}{A:Around}{E:Value->Shared->Prop}{s:Shared}
theorem aCX{k:Bool}{src:Addr}{items:Array Value}{Q:Value->Shared->Prop}(h:vJ s.heap k src items)(hQ:Q (.ref s.heap.objs.size) { s with heap:=s.heap.push (aCW k src) }):wpAny (model prog w) A (pyIter (.ref src)) Q E s:=by
 cases k with
 |true=>exact wpAny_pyIter_list h hQ
 |false=>exact wpAny_pyIter_tuple h hQ
end
abbrev zg1(h:Heap)(t:Bool×Addr):Heap:=h.push (aCW t.1 t.2)
abbrev zg2(h:Heap)(t u:Bool×Addr):Heap:=(zg1 h t).push (aCW u.1 u.2)
abbrev zk1(h:Heap)(t u:Bool×Addr):Heap:=(zg2 h t u).push { cls:=.type "tuple",data:=.seq #[.ref h.objs.size,.ref (zg1 h t).objs.size] }
abbrev zk2(h:Heap)(t u:Bool×Addr):Heap:=(zk1 h t u).push { cls:=.type "tuple",data:=.seq #[.none,.none] }
abbrev zk3(h:Heap)(t u:Bool×Addr):Heap:=(zk2 h t u).push { cls:=.type "zip",data:=.fields #[.none,.bool false,.bool false,.ref (zg2 h t u).objs.size,.ref (zk1 h t u).objs.size] }
theorem aGX(t u:Bool×Addr)(xs ys:Array Value) :
  Meets (Builtin.«zip.__new__» ⟨[.type "zip",.ref t.2,.ref u.2],[]⟩) (fun _ R s=>vJ s.heap t.1 t.2 xs/\vJ s.heap u.1 u.2 ys/\
   R (.ok (.ret (.ref (zk2 s.heap t u).objs.size))) { s with heap:=zk3 s.heap t u }):=
 .of_wp fun prog w A R s h=>by
  obtain⟨hp,g,d,tk,os⟩:=s;obtain⟨hl1,hl2,h⟩:=h
  have hsub:=sub_zip
  have hL1:vJ (Shared.heap ⟨hp,g,d,tk,os⟩) t.1 t.2 xs:=hl1
  have hL2:vJ (Shared.heap ⟨hp.push (aCW t.1 t.2),g,d,tk,os⟩) u.1 u.2 ys:=vJ.at hl2 fun o e=>Heap.get?_push_of_some _ e
  wp_walk using aCX hL1,aCX hL2
  exact⟨_,rfl,h⟩
section
variable{prog:Program}{w:World}{A:Around}{E:Value->Shared->Prop}{s:Shared}
theorem aH0{t u:Bool×Addr}{xs ys:Array Value}{Q:Value->Shared->Prop}(h1:vJ s.heap t.1 t.2 xs)(h2:vJ s.heap u.1 u.2 ys)
  (h:∀h',ZSt (s.heap.objs.size+4) (s.heap.objs.size+2) (s.heap.objs.size+3) [(t.1,s.heap.objs.size,t.2),(u.1,s.heap.objs.size+1,u.2)] 0 h'->(∀c o,s.heap.get? c=some o->h'.get? c=some o)->Q (.ref (s.heap.objs.size+4)) { s with heap:=h' }) :
  wpAny (model prog w) A (call (.type "zip") [.ref t.2,.ref u.2]) Q E s:=by
 refine callType_new F.called_zip (by decide) (F.typeCall_zip_2 _ _) (F.newCall_zip_2 _ _) (fun obj=>F.args_object_init_3 obj _ _) F.entry_zip_new
  (aGX t u xs ys) ⟨h1,h2,?_⟩
 have z1:(zg1 s.heap t).objs.size=s.heap.objs.size+1:=Heap.size_push ..
 have z2:(zg2 s.heap t u).objs.size=s.heap.objs.size+2:=by rw[Heap.size_push,z1]
 have z3:(zk1 s.heap t u).objs.size=s.heap.objs.size+3:=by rw[Heap.size_push,z2]
 have z4:(zk2 s.heap t u).objs.size=s.heap.objs.size+4:=by rw[Heap.size_push,z3]
 have g5:(zk3 s.heap t u).get? (zk2 s.heap t u).objs.size=some _:=Heap.get?_push_size _ rfl
 have g4:(zk3 s.heap t u).get? (zk1 s.heap t u).objs.size=some _:=Heap.get?_push_of_some _ (Heap.get?_push_size _ rfl)
 have g3:(zk3 s.heap t u).get? (zg2 s.heap t u).objs.size=some _:=Heap.get?_push_of_some _ (Heap.get?_push_of_some _ (Heap.get?_push_size _ rfl))
 have g2:(zk3 s.heap t u).get? (zg1 s.heap t).objs.size=some (aCW u.1 u.2):=Heap.get?_push_of_some _ (Heap.get?_push_of_some _ (Heap.get?_push_of_some _ (Heap.get?_push_size _ rfl)))
 have g1:(zk3 s.heap t u).get? s.heap.objs.size=some (aCW t.1 t.2):=Heap.get?_push_of_some _ (Heap.get?_push_of_some _ (Heap.get?_push_of_some _ (Heap.get?_push_of_some _ (Heap.get?_push_size _ rfl))))
 show _/\_
 rw[z2,z3,z4] at g5
 rw[z1,z2] at g3
 rw[z3] at g4
 rw[z1] at g2
 rw[z4]
 refine⟨⟨_,g5,rfl⟩,h _ ⟨g5,g3,⟨_,g4,rfl⟩,fun x hx=>?_⟩ fun c o x=>
  Heap.get?_push_of_some _ (Heap.get?_push_of_some _ (Heap.get?_push_of_some _ (Heap.get?_push_of_some _ (Heap.get?_push_of_some _ x))))⟩
 simp only[List.mem_cons,List.not_mem_nil,or_false] at hx
 rcases hx with rfl|rfl
 ·exact SIt.new g1
 ·exact SIt.new g2
end
theorem aFy{n a b:Nat}(h:a≠b):@Ne Addr (n+a) (n+b):=fun e=>h (Nat.add_left_cancel e)
theorem za2(n:Nat)(t u:Bool×Addr):ZA (n+4) (n+2) (n+3) [(t.1,n,t.2),(u.1,n+1,u.2)]:=by
 refine⟨aFy (by decide),aFy (by decide),aFy (by decide),fun x hx=>?_,?_⟩
 ·simp only[List.mem_cons,List.not_mem_nil,or_false] at hx
  rcases hx with rfl|rfl
  ·exact⟨aFy (a:=0) (by decide),aFy (a:=0) (by decide),aFy (a:=0) (by decide)⟩
  ·exact⟨aFy (by decide),aFy (by decide),aFy (by decide)⟩
 ·simp
end L2
namespace L2
open PySem PySem.Spec PyProof.Rows
def Src(H:Hp)(k:Bool)(a:Addr)(xs:List V):Prop:=H a=some (if k=true then .lst xs else .tup xs)
theorem Src.inj{H:Hp}{k:Bool}{a:Addr}{xs ys:List V}(h:Src H k a xs)(h':Src H k a ys):xs=ys:=by
 unfold Src at h h'
 rw[h] at h'
 cases k with
 |true=>injection h' with e;injection e
 |false=>injection h' with e;injection e
theorem Src.lst{H:Hp}{a:Addr}{xs:List V}(h:H a=some (.lst xs)):Src H true a xs:=h
theorem Src.tup{H:Hp}{a:Addr}{xs:List V}(h:H a=some (.tup xs)):Src H false a xs:=h
theorem Inv.src{X:Cx}{P9:List (Addr×Obj)}{σ:St}{H:Hp}{s:Shared}{k:Bool}{a:Addr}{xs:List V}(I:Inv X P9 σ H s)(h:Src H k a xs):∃its:List Value,Vals xs its/\vJ s.heap k a its.toArray/\xs.length<=sizeLine:=by
 cases k with
 |true=>
  obtain⟨its,r,p,z⟩:=I.list (bR.of h)
  exact⟨its,r,p.isList,z⟩
 |false=>
  obtain⟨its,r,p,z⟩:=I.tuple (kR.of h)
  exact⟨its,r,p,z⟩
theorem aBK:∀{xs:List V}{us:List Value},xs.length=us.length->(∀(j:Nat) (x:V) (u:Value),xs[j]?=some x->us[j]?=some u->RelV x u)->Vals xs us
 |[],[],_,_=>.nil
 |x::xs,u::us,h,f=>.cons (f 0 x u rfl rfl) (aBK (by simpa using h) fun j y v h1 h2=>f (j+1) y v (by simpa using h1) (by simpa using h2))
 |[],_::_,h,_=>by cases h
 |_::_,[],h,_=>by cases h
def ItZ(L:List (Bool×Addr)):It:=
 ⟨fun i H=>∀t∈L,∃xs x,Src H t.1 t.2 xs/\xs[i]?=some x,
  fun i H v H'=>∃T vs,H T=none/\v=.ref T/\H'=upd H T (.tup vs)/\vs.length=L.length/\∀(j:Nat) (t:Bool×Addr) (xs:List V),L[j]?=some t->Src H t.1 t.2 xs->∃x,xs[i]?=some x/\vs[j]?=some x,
  fun i H=>(∀t∈L,∃xs,Src H t.1 t.2 xs)/\∃t∈L,∃xs,Src H t.1 t.2 xs/\xs.length<=i⟩
def zL(L:List ZS):List (Bool×Addr):=L.map fun t=>(t.1,t.2.2)
theorem aK5{L:List ZS}{t:ZS}(h:t∈L):(t.1,t.2.2)∈zL L:=List.mem_map.mpr ⟨t,h,rfl⟩
theorem aOz{L:List ZS}{j:Nat}{t:Bool×Addr}(h:(zL L)[j]?=some t):∃u,L[j]?=some u/\t=(u.1,u.2.2):=by
 unfold zL at h
 rw[List.getElem?_map] at h
 cases e:L[j]? with
 |none=>rw[e] at h;cases h
 |some u=>rw[e] at h;cases h;exact⟨u,rfl,rfl⟩
abbrev zFp(z TI TO:Addr)(L:List ZS):List Addr:=z::TI::TO::L.map (·.2.1)
theorem aCY{z TI TO:Addr}{L:List ZS}{t:ZS}(h:t∈L):t.2.1∈zFp z TI TO L:=by
 simp only[zFp,List.mem_cons]
 exact .inr (.inr (.inr (List.mem_map.mpr ⟨t,h,rfl⟩)))
theorem ZSt.obj{z TI TO:Addr}{L:List ZS}{i:Nat}{h:Heap}(st:ZSt z TI TO L i h):∀b∈zFp z TI TO L,∃o,h.get? b=some o/\∀v,o.data≠.cell v:=fun b hb=>by
 obtain⟨hz,hTI,⟨arr,hTO,_⟩,hit⟩:=st
 simp only[zFp,List.mem_cons] at hb
 rcases hb with rfl|rfl|rfl|hb
 ·exact⟨_,hz,fun v z=>by cases z⟩
 ·exact⟨_,hTI,fun v z=>by cases z⟩
 ·exact⟨_,hTO,fun v z=>by cases z⟩
 ·obtain⟨t,ht,rfl⟩:=List.mem_map.mp hb
  obtain⟨o,vs,e,d⟩:=(hit t ht).obj
  exact⟨o,e,fun v z=>by rw[d] at z;cases z⟩
theorem aJF{P:Program}{w:World}{K:W.Frag}{elts:List Expr}{x1:Nat}{tp:Pos}(L:List ZS)(z TI TO:Addr)(D:ZA z TI TO L)(hne:L≠[])(hlen:L.length<=1000) :
  Turn P w K (.Tuple elts x1 tp) (ItZ (zL L)) (zFp z TI TO L) z (ZSt z TI TO L) where
 mem:=by simp[zFp]
 obj:=fun i h st=>st.obj
 keep:=fun i h h' st k=>by
  obtain⟨hz,hTI,⟨arr,hTO,ha⟩,hit⟩:=st
  exact⟨k z (by simp[zFp]) _ hz,k TI (by simp[zFp]) _ hTI,⟨arr,k TO (by simp[zFp]) _ hTO,ha⟩,fun t ht=>(hit t ht).at fun o q=>k _ (aCY ht) o q⟩
 item:=by
  intro X hP hw hK hc i P9 s σ H E I hf st hg
  subst hP hw hK
  have lts:∀b∈zFp z TI TO L,b < s.heap.objs.size:=fun b hb=>by obtain⟨o,e,_⟩:=st.obj b hb;exact Heap.lt_size e
  obtain⟨hz,hTI,⟨arr,hTO,harr⟩,hit⟩:=st
  have key:∀j:Nat,∃r:List Value×Value×V,∀t,L[j]?=some t->vJ s.heap t.1 t.2.2 r.1.toArray/\(∀xs,Src H t.1 t.2.2 xs->xs[i]?=some r.2.2)/\r.1[i]?=some r.2.1/\RelV r.2.2 r.2.1/\t.2.2∉zFp z TI TO L:=fun j=>by
   cases e:L[j]? with
   |none=>exact⟨([],.none,.non),fun t h=>by cases h⟩
   |some t=>
    obtain⟨xs,x,hs,hx⟩:=hg _ (aK5 (List.mem_of_getElem? e))
    obtain⟨its,r,src,_⟩:=I.src hs
    obtain⟨u,hu,ru⟩:=r.get hx
    refine⟨(its,u,x),fun t' h=>?_⟩
    cases h
    refine⟨src,fun ys hy=>by rw[hy.inj hs];exact hx,hu,ru,fun hm=>?_⟩
    have:=(hf _ hm).1
    unfold Src at hs
    rw[show H t.2.2=some (if t.1=true then .lst xs else .tup xs) from hs] at this
    cases this
  obtain⟨f,hfk⟩:=Classical.axiomOfChoice key
  have S:aOx z TO L:=fun t ht=>by
   obtain⟨j,hj⟩:=List.getElem?_of_mem ht
   have n:=(hfk j t hj).2.2.2.2
   refine⟨fun e=>n (by rw[e];simp[zFp]),fun e=>n (by rw[e];simp[zFp]),fun u hu e=>n (by rw[e];exact aCY hu)⟩
  have inL:∀j,j < L.length->∃t,L[j]?=some t:=fun j hj=>⟨_,List.getElem?_eq_getElem hj⟩
  unfold pyNext
  have hT:s.TypeIs (.ref z) "zip":=⟨_,hz,rfl⟩
  refine wpAny_bind (wpAny_attempt (wpAny_callSpecial?_slot (name:=Str.ofString "__next__") hT F.slot_zip_next
   (wpAny_call_entry F.slot_zip_next hT F.entry_zip_next (aGW (items:=fun j=>(f j).1.toArray) (xs:=fun j=>(f j).2.1) (I.ok.hd hc) D S hne hlen hz hTI hTO harr hit (fun j t hj=>(hfk j t hj).1) (fun j hj x hx=>?_)
    (fun _ h1 arr' a1 a2 a3 a4 a5 a6 a7 hk=>wpAny_pure ⟨_,rfl,wpAny_letOwnedTupleGo_zip a1 fun g2 hz2 hs2=>?_⟩) (fun hE=>?_)) (F.args_zip_next_1 _))))
  ·obtain⟨t,ht⟩:=inL j hj
   have e:=(hfk j t ht).2.2.1
   have hx':(f j).1[i]?=some x:=by simpa using hx
   rw[e] at hx'
   exact(Option.some.inj hx').symm
  ·replace hs2:Heap.SameBut z h1 g2:=hs2
   have hT2:g2.IsTuple s.heap.objs.size arr':=⟨_,(hs2.2 _ (Nat.ne_of_gt (lts z (by simp[zFp])))).trans a6,rfl,_,rfl⟩
   have kk:∀b o,b∉zFp z TI TO L->s.heap.get? b=some o->g2.get? b=some o:=fun b o hb q=>by
    have n1:b≠z:=fun e=>hb (by rw[e];simp[zFp])
    exact(hs2.2 b n1).trans (hk b o n1 (fun e=>hb (by rw[e];simp[zFp])) (fun t ht e=>hb (by rw[e];exact aCY ht)) q)
   have rv:Vals ((List.range L.length).map fun j=>(f j).2.2) arr'.toList:=by
    refine aBK (by simp[a3]) fun j x u hx hu=>?_
    rw[List.getElem?_map] at hx
    by_cases hj:j < L.length
    ·rw[List.getElem?_range hj] at hx
     cases hx
     obtain⟨t,ht⟩:=inL j hj
     have e:=a4 j hj
     have hu':arr'[j]?=some u:=by simpa using hu
     rw[e] at hu'
     cases hu'
     exact(hfk j t ht).2.2.2.1
    ·rw[List.getElem?_eq_none (by simpa using hj)] at hx
     cases hx
   have I2:Inv X P9 σ (upd H s.heap.objs.size (.tup ((List.range L.length).map fun j=>(f j).2.2))) { s with heap:=g2 }:=
    I.aBj (t':=s.toks) kk hf (Nat.le_refl _) (show bO X.prog X.w _ g2 _ (.tup _) from⟨cD (by simp;omega),arr'.toList,rv,by simpa using show IsTup g2 s.heap.objs.size arr' from hT2⟩)
   have hfr:H s.heap.objs.size=none:=I.hok.fresh (Nat.le_refl _)
   refine⟨.ref s.heap.objs.size,_,I2,rfl,⟨_,_,hfr,rfl,rfl,by simp[zL],fun j t xs hj hs=>?_⟩,⟨hz2,?_,⟨arr',hs2.extBut _ _ D.TOz a2,a3⟩,fun t ht=>(a5 t ht).at fun o q=>(hs2.2 _ (D.it t ht).1).trans q⟩,fun b hb=>?_⟩
   ·obtain⟨u,hu,rfl⟩:=aOz hj
    have hjl:j < L.length:=(List.getElem?_eq_some_iff.mp hu).1
    refine⟨(f j).2.2,(hfk j u hu).2.1 xs hs,?_⟩
    rw[List.getElem?_map,List.getElem?_range hjl]
    rfl
   ·exact hs2.extBut _ _ D.TIz (hk _ _ D.TIz D.TITO (fun t ht=>Ne.symm (D.it t ht).2.1) hTI)
   ·rw[aR (Nat.ne_of_lt (lts b hb))]
    exact(hf b hb).1
  ·exfalso
   obtain⟨j,hj,e⟩:=hE
   obtain⟨t,ht⟩:=inL j hj
   have e':(f j).1[i]?=none:=by simpa using e
   rw[(hfk j t ht).2.2.1] at e'
   cases e'
 done:=by
  intro X hP hw hK hc i P9 s σ H E I hf st hg
  subst hP hw hK
  obtain⟨hz,hTI,⟨arr,hTO,harr⟩,hit⟩:=st
  obtain⟨hall,t0,ht0,xs0,hs0,hl0⟩:=hg
  have key:∀j:Nat,∃r:List Value,∀t,L[j]?=some t->vJ s.heap t.1 t.2.2 r.toArray/\(∀xs,Src H t.1 t.2.2 xs->xs.length=r.length)/\t.2.2∉zFp z TI TO L:=fun j=>by
   cases e:L[j]? with
   |none=>exact⟨[],fun t h=>by cases h⟩
   |some t=>
    obtain⟨xs,hs⟩:=hall _ (aK5 (List.mem_of_getElem? e))
    obtain⟨its,r,src,_⟩:=I.src hs
    refine⟨its,fun t' h=>?_⟩
    cases h
    refine⟨src,fun ys hy=>by rw[hy.inj hs];exact r.length,fun hm=>?_⟩
    have:=(hf _ hm).1
    unfold Src at hs
    rw[show H t.2.2=some (if t.1=true then .lst xs else .tup xs) from hs] at this
    cases this
  obtain⟨f,hfk⟩:=Classical.axiomOfChoice key
  have S:aOx z TO L:=fun t ht=>by
   obtain⟨j,hj⟩:=List.getElem?_of_mem ht
   have n:=(hfk j t hj).2.2
   refine⟨fun e=>n (by rw[e];simp[zFp]),fun e=>n (by rw[e];simp[zFp]),fun u hu e=>n (by rw[e];exact aCY hu)⟩
  unfold pyNext
  have hT:s.TypeIs (.ref z) "zip":=⟨_,hz,rfl⟩
  refine wpAny_bind (wpAny_attempt (wpAny_callSpecial?_slot (name:=Str.ofString "__next__") hT F.slot_zip_next
   (wpAny_call_entry F.slot_zip_next hT F.entry_zip_next (aGW (items:=fun j=>(f j).toArray) (xs:=fun j=>((f j)[i]?).getD .none) (I.ok.hd hc) D S hne hlen hz hTI hTO harr hit (fun j t hj=>(hfk j t hj).1) (fun j hj x hx=>?_)
    (fun hall'=>?_) (fun hE h1 e hk he=>?_)) (F.args_zip_next_1 _))))
  ·have hx':(f j)[i]?=some x:=by simpa using hx
   rw[hx'];rfl
  ·exfalso
   obtain⟨u,hu,rfl⟩:=List.mem_map.mp ht0
   obtain⟨j,hj⟩:=List.getElem?_of_mem hu
   have e1:=(hfk j u hj).2.1 xs0 hs0
   have e2:=hall' j (List.getElem?_eq_some_iff.mp hj).1
   have e3:(f j)[i]?=some (((f j)[i]?).getD .none):=by simpa using e2
   rw[List.getElem?_eq_none (by omega)] at e3
   cases e3
  ·obtain⟨o,ho,hcl⟩:=he
   refine wpAny_bind (wpAny_isInstance (T:="StopIteration") (b:=true) ⟨o,ho,hcl⟩ isSubtype_stop ?_)
   refine wpAny_pure ⟨rfl,I.aJE (t':=s.toks) (ch:=zFp z TI TO L) (fun b o hb q=>?_) hf⟩
   exact hk b o (fun e=>hb (by rw[e];simp[zFp])) (fun e=>hb (by rw[e];simp[zFp])) (fun t ht e=>hb (by rw[e];exact aCY ht)) q
 self:=fun _ _ _ _ _ st h=>wpAny_pyIter_zip st.1 h
section
variable{X:Cx}{elts:List Expr}{x1:Nat}{tp:Pos}{k1 k2 k3:Bool}
def aOA(k1 k2:Bool)(R:It->Hp->Prop):List V->Hp->Prop:=fun vs H1=>∃a b xs ys,vs=[.ref a,.ref b]/\Src H1 k1 a xs/\Src H1 k2 b ys/\R (ItZ [(k1,a),(k2,b)]) H1
def aK6(k1 k2:Bool)(ta:TA):TI:=fun σ H R=>ta σ H (aOA k1 k2 R)
theorem xV{a b:Expr}{ta:TA}{p pos:Pos}(hg:Gl X "zip")(hm:X.mg "zip" = none)(ha:PA X [a,b] ta)(hn:noStar a=true:=by rfl)(hn2:noStar b=true:=by rfl):PI X (.Tuple elts x1 tp) (.Call (.Name "zip" p) [a,b] [] pos) (aK6 k1 k2 ta):=by
 intro P9 s σ H R I h
 have hs2:starEach [b] X.env=[(false,eval b X.env)]:=bM hn2
 have hs:starEach [a,b] X.env=[(false,eval a X.env),(false,eval b X.env)]:=by rw[bM hn,hs2]
 refine Call_ (rH I hg hm aOw (PyProof.Rows.callWith_type1 (cY (ha pos P9 s σ H _ I h) fun us s1 ⟨vs,H1,I1,r1,q1⟩=>?_) (by rw[hs,hs2]) (by rw[hs2];rfl)))
 obtain⟨l1,l2,xs,ys,e,hq1,hq2,q⟩:=q1
 subst e
 obtain⟨u,v,rfl,ru,rv⟩:=vals2 r1
 cases ru
 cases rv
 obtain⟨its,_,pl,_⟩:=I1.src hq1
 obtain⟨its2,_,pl2,_⟩:=I1.src hq2
 refine aH0 (t:=(k1,l1)) (u:=(k2,l2)) pl pl2 fun h' st hk=>?_
 refine wpAny_pyIter_zip st.1 ?_
 refine⟨_,_,_,_,H1,rfl,I1.kept (t':=s1.toks) hk,aJF _ _ _ _ (za2 s1.heap.objs.size (k1,l1) (k2,l2)) (by simp) (by simp),st,fun b hb=>?_,q⟩
 have hle:s1.heap.objs.size<=b:=by
  simp only[zFp,List.map_cons,List.map_nil,List.mem_cons,List.not_mem_nil,or_false] at hb
  rcases hb with rfl|rfl|rfl|rfl|rfl <;> first|exact Nat.le_add_right _ _|exact Nat.le_refl _
 exact I1.aDV hle (I1.hok.fresh hle)
end
section
variable{σ:St}{H:Hp}{nx:St->Hp->Prop}{rt:VK}{g:TG}{tb:TS}{Q:VK}{k1 k2 k3:Bool}{a b c:Addr}{xs ys zs:List V}{n:Nat}
theorem aK7{ta:TA}{R:It->Hp->Prop}(h:ta σ H (aOA k1 k2 R)):aK6 k1 k2 ta σ H R:=h
theorem aFz{R:It->Hp->Prop}(h1:Src H k1 a xs)(h2:Src H k2 b ys)(h:R (ItZ [(k1,a),(k2,b)]) H):aOA k1 k2 R [.ref a,.ref b] H:=⟨a,b,xs,ys,rfl,h1,h2,h⟩
theorem aIJ{i:Nat}(h1:Src H k1 a xs)(h2:Src H k2 b ys){x y:V}(e1:xs[i]?=some x)(e2:ys[i]?=some y):(ItZ [(k1,a),(k2,b)]).go i H:=fun t ht=>by
 simp only[List.mem_cons,List.not_mem_nil,or_false] at ht
 rcases ht with rfl|rfl
 ·exact⟨xs,x,h1,e1⟩
 ·exact⟨ys,y,h2,e2⟩
theorem aGY{i:Nat}(h1:Src H k1 a xs)(h2:Src H k2 b ys){v:V}{H':Hp}(h:(ItZ [(k1,a),(k2,b)]).yld i H v H'):∃T x y,H T=none/\v=.ref T/\H'=upd H T (.tup [x,y])/\xs[i]?=some x/\ys[i]?=some y:=by
 obtain⟨T,vs,nT,e1,e2,hl,hv⟩:=h
 obtain⟨x,hx,v0⟩:=hv 0 _ xs rfl h1
 obtain⟨y,hy,v1⟩:=hv 1 _ ys rfl h2
 match vs,hl with
 |[p,q],_=>cases v0;cases v1;exact⟨T,_,_,nT,e1,e2,hx,hy⟩
theorem aEY{i:Nat}(h1:Src H k1 a xs)(h2:Src H k2 b ys)(hm:xs.length<=i\/ys.length<=i):(ItZ [(k1,a),(k2,b)]).stop i H:=by
 refine⟨fun t ht=>?_,?_⟩
 ·simp only[List.mem_cons,List.not_mem_nil,or_false] at ht
  rcases ht with rfl|rfl
  ·exact⟨xs,h1⟩
  ·exact⟨ys,h2⟩
 ·rcases hm with h|h
  ·exact⟨(k1,a),by simp,xs,h1,h⟩
  ·exact⟨(k2,b),by simp,ys,h2,h⟩
theorem aIK(n1:n<=xs.length)(n2:n<=ys.length)(nm:xs.length=n\/ys.length=n)(Pv:Nat->St->Hp->Prop)(h0:Pv 0 σ H)(hl:∀i σ H,i<=n->Pv i σ H->Src H k1 a xs/\Src H k2 b ys)
  (hs:∀i x y σ H T,xs[i]?=some x->ys[i]?=some y->Pv i σ H->H T=none->g (.ref T) σ (upd H T (.tup [x,y])) fun σ2 H2=>tb ⟨Pv (i+1),rt,nx,Pv (i+1)⟩ σ2 H2) (hd:∀σ H,Pv n σ H->nx σ H) :
  ∃W:Nat->Nat->St->Hp->Prop,(∃m,W 0 m σ H)/\∀i m σ H,W i m σ H->
   ((ItZ [(k1,a),(k2,b)]).stop i H/\nx σ H)\/((ItZ [(k1,a),(k2,b)]).go i H/\∃N:St->Hp->Prop,(∀σ' H',N σ' H'->∃m',m' < m/\W (i+1) m' σ' H')/\∀x H',(ItZ [(k1,a),(k2,b)]).yld i H x H'->g x σ H' fun σ2 H2=>tb ⟨N,rt,nx,N⟩ σ2 H2):=by
 refine⟨fun i m σ H=>m=n - i/\i<=n/\Pv i σ H,⟨n,by simp,Nat.zero_le _,h0⟩,?_⟩
 rintro i m σ H ⟨rfl,hi,p⟩
 obtain⟨q1,q2⟩:=hl i σ H hi p
 by_cases hlt:i < n
 ·refine .inr ⟨aIJ q1 q2 (List.getElem?_eq_getElem (show i < xs.length by omega)) (List.getElem?_eq_getElem (show i < ys.length by omega)),Pv (i+1),fun σ' H' p'=>⟨n - (i+1),by omega,rfl,hlt,p'⟩,fun x H' y=>?_⟩
  obtain⟨T,u,v,hT,e1,e2,y1,y2⟩:=aGY q1 q2 y
  subst e1 e2
  exact hs i u v σ H T y1 y2 p hT
 ·have e:i=n:=by omega
  subst e
  exact .inl ⟨aEY q1 q2 (by omega),hd σ H p⟩
end
section
variable{σ₀:St}{g:TG}{tt:TT}{te:TE}{R:List V->Hp->Prop}{H:Hp}{k1 k2 k3:Bool}{a b c:Addr}{xs ys zs:List V}{n:Nat}
theorem aEZ(n1:n<=xs.length)(n2:n<=ys.length)(nm:xs.length=n\/ys.length=n)(hz:n<=sizeLine)(Pv:Nat->List V->Hp->Prop)(h0:Pv 0 [] H)
  (hl:∀i us H,i<=n->Pv i us H->(Src H k1 a xs/\Src H k2 b ys)/\us.length<=i)
  (hs:∀i x y us H T,xs[i]?=some x->ys[i]?=some y->Pv i us H->H T=none->g (.ref T) σ₀ (upd H T (.tup [x,y])) fun σ2 H2=>tt σ2 H2 fun b H3=>if b=true then te σ2 H3 fun y H4=>Pv (i+1) (us ++ [y]) H4 else Pv (i+1) us H3)
  (hd:∀us H,Pv n us H->R us H):rL (ItZ [(k1,a),(k2,b)]) σ₀ g tt te R H:=by
 refine⟨fun i m us H=>m=n - i/\i<=n/\Pv i us H,⟨n,by simp,Nat.zero_le _,h0⟩,?_⟩
 rintro i m us H ⟨rfl,hi,p⟩
 obtain⟨⟨q1,q2⟩,ql⟩:=hl i us H hi p
 refine⟨by omega,?_⟩
 by_cases hlt:i < n
 ·refine .inr ⟨aIJ q1 q2 (List.getElem?_eq_getElem (show i < xs.length by omega)) (List.getElem?_eq_getElem (show i < ys.length by omega)),Pv (i+1),fun us' H' p'=>⟨n - (i+1),by omega,rfl,hlt,p'⟩,fun x H' y=>?_⟩
  obtain⟨T,u,v,hT,e1,e2,y1,y2⟩:=aGY q1 q2 y
  subst e1 e2
  exact hs i u v us H T y1 y2 p hT
 ·have e:i=n:=by omega
  subst e
  exact .inl ⟨aEY q1 q2 (by omega),hd us H p⟩
end
section
variable{X:Cx}
def aH1(K:W.Frag):List V->Hp->VK->Prop:=fun xs H Q=>∃p ys,xs=[.ref p]/\((bR K H p ys/\∀l,H l=none->Q (.ref l) (upd H l (.tup ys)))\/(kR K H p ys/\Q (.ref p) H))
theorem aJG:eA X (.type "tuple") (aH1 X.K):=aDY
theorem aML{K:W.Frag}{H:Hp}{Q:VK}{p:Addr}{ys:List V}(h1:bR K H p ys)(h:∀l,H l=none->Q (.ref l) (upd H l (.tup ys))):aH1 K [.ref p] H Q:=⟨p,ys,rfl,.inl ⟨h1,h⟩⟩
structure Isi(K:W.Frag)(C:Addr):Prop where
 ha:PySem.W.findIn K (.ref C) "__class__" = some (some (.builtin "object.__class__"))
 hn:PySem.W.specialIn K (.builtin "object.__class__") "__get__" = some (some (.builtin "getset_descriptor.__get__"))
 htk:PySem.W.takesIn K (.builtin "object.__class__")=some true
 hm:PySem.W.mroIn K C (.type "object")=some true
theorem aIL{K:W.Frag}{H:Hp}{a C dx:Addr}{fs:List (Str×V)}(i:Isi K C)(c:Cls K C)(e:H a=some (.ins C dx fs)):IsI K H (.ref a) (.ref C) true:=
 ⟨.ref C,.ins e c i.ha i.hn i.htk i.hm,.inr ⟨C,rfl,by unfold PySem.W.kitOne;rw[if_pos (by simp)]⟩⟩
end
end L2
namespace L2.Z
open PySem PySem.Spec PyProof.Rows L2
section
variable{X:Cx}{p pos tp:Pos}{a b c:Expr}{elts:List Expr}{t:TA}{x1:Nat}{k1 k2 k3:Bool}
theorem xV(hg:Gl X "zip")(hm:X.mg "zip" = none)(ha:QA X [a,b] t)(hn:noStar a=true:=by rfl)(hn2:noStar b=true:=by rfl):QI X (.Tuple elts x1 tp) (.Call (.Name "zip" p) [a,b] [] pos) (aK6 k1 k2 t):=⟨L2.xV hg hm ha.h hn hn2⟩
theorem aFi{i j:Nat}{x y:Str}{px py pt:Pos}{kt k2 pt2}(hc:X.calm=true)(hN:X.N.Nodup)(hi:X.N[i]?=some x)(hj:X.N[j]?=some y)(hij:i≠j)
  (hx:X.env.scope.names.lookup x=some .local) (hy:X.env.scope.names.lookup y=some .local) (ha:QA X [a,b] t)
  (hw:swappedStores [.Tuple [.Name x px,.Name y py] kt pt] (.Tuple [a,b] k2 pt2) X.env=pure (some [x,y]):=by rfl)
  (hs:swapsWithSole [.Tuple [.Name x px,.Name y py] kt pt] (.Tuple [a,b] k2 pt2) pos.line X.env=pure false:=by rfl) :
  QS X (.Assign [.Tuple [.Name x px,.Name y py] kt pt] (.Tuple [a,b] k2 pt2) pos) (aNw i j t):=⟨L2.aFi hc hN hi hj hij hx hy ha.h hw hs⟩
end
end L2.Z
namespace L2
open PySem PySem.Spec PyProof.Rows
theorem nw{H:Hp}{p:Addr}(o:HO)(n:H p=none):∃H2,upd H p o=H2/\aI H H2/\H2 p=some o:=⟨_,rfl,aI.new n,aH⟩
theorem wr(H:Hp)(p:Addr)(o:HO):∃H2,upd H p o=H2/\bX p H H2/\H2 p=some o:=⟨_,rfl,bX.upd,aH⟩
theorem nwi{H:Hp}{x dx C:Addr}(nx:H x=none)(nd:H dx=none)(hd:dx≠x):∃H2,upd (upd H dx (.own x)) x (.ins C dx [])=H2/\aI H H2/\H2 x=some (.ins C dx []):=
 ⟨_,rfl,fun b o e=>by rw[aR (bC nx e),aR (bC nd e)];exact e,aH⟩
end L2
namespace L2
open PySem PySem.Spec PyProof.Rows
end L2
namespace L2
open PySem PySem.Spec PyProof.Rows
def Nx(N:St->Hp->Prop)(σ:St)(H:Hp):Prop:=N σ H
structure Tail(N b:St->Hp->Prop):Prop where
 h:∀σ H,b σ H->N σ H
theorem aMM{nx bk ct:St->Hp->Prop}{rt:VK}{σ:St}{H:Hp}{t u:TS}(h:∀N,Tail N (u ⟨nx,rt,bk,ct⟩)->t ⟨Nx N,rt,bk,ct⟩ σ H):aKe t u ⟨nx,rt,bk,ct⟩ σ H:=h _ ⟨fun _ _ h=>h⟩
theorem aPo{N b:St->Hp->Prop}{σ:St}{H:Hp}(t:Tail N b)(h:b σ H):Nx N σ H:=t.h _ _ h
end L2
namespace L2
open PySem PySem.Spec PyProof.Rows
section
variable{prog:Program}{w:World}{A:Around}{E:Value->Shared->Prop}{s:Shared}{K:W.Frag}{x C:Addr}{ox:Obj}{od:Option Obj}
end
section
variable{X:Cx}
end
end L2
namespace L2
open PySem PySem.Spec PyProof.Rows
theorem aJH{k:Key}{u:Value}(h:aBF k u=true):RelV (kV k) u:=by
 rcases cU h with ⟨i,t,rfl,rfl⟩|⟨x,t,rfl,rfl⟩
 ·exact⟨t,rfl⟩
 ·exact⟨t,rfl⟩
theorem aK8:∀{kvs:List (Key×V)}{vs:List (Key×Value)},KV kvs vs->∀{i:Nat}{p:Key×V},kvs[i]?=some p->∃q,vs[i]?=some q/\p.1=q.1
 |[],_,r,i,p,h=>by simp at h
 |a::as,_,r,i,p,h=>by
  cases r with
  |cons x t=>
   cases i with
   |zero=>cases h;exact⟨_,rfl,x.1⟩
   |succ i=>exact aK8 t (i:=i) h
section
variable{X:Cx}{P9:List (Addr×Obj)}{σ:St}{H:Hp}{s:Shared}
theorem Inv.freeze{d:Addr}{kvs:List (Key×V)}{o:Obj}(I:Inv X P9 σ H s)(e:H d=some (.dK kvs))(ho:s.heap.get? d=some o):Inv X P9 σ (upd H d (.frz o (.dK kvs))) s:=by
 have nd:∀b u,H b=some u->u≠.dK kvs->b≠d:=fun b u q n z=>by rw[z,e] at q;exact n (Option.some.inj q).symm
 refine I.step (h':=s.heap) (g':=s.gens) (d':=s.drawn) (t':=s.toks) (ch:=[]) (fun _ z=>nomatch z) (fun b u _ _ _ q _=>q) (fun b u _ _ _ q _=>⟨u.slots,q⟩) (fun b u _ _ n=>?_)
  (fun b u _ q=>⟨u,q⟩) (fun b xs q=>?_) (fun b u v q=>?_) (fun b ps q=>⟨#[],?_⟩) (fun m hm=>hm) (fun b u q=>?_) I.bare
 ·rw[aR (fun z=>by rw[z,e] at n;cases n)];exact n
 ·rw[aR (nd _ _ q (fun z=>by cases z))];exact q
 ·rw[aR (nd _ _ q (fun z=>by cases z))];exact q
 ·rw[aR (nd _ _ q (fun z=>by cases z)),q];simp
 ·by_cases hb:b=d
  ·subst hb;rw[aH] at q;cases q;exact⟨ho,I.hok b _ e⟩
  ·rw[aR hb] at q
   exact(I.hok b u q).aB5 (fun _ _ _ z=>z) (fun c z=>by rw[aR (nd _ _ z (fun y=>by cases y))];exact z) fun c xs t z=>by rw[aR (nd _ _ z (fun y=>by subst y;exact t))];exact z
end
theorem bO.obj{P:Program}{w:World}{H:Hp}{h:Heap}{a:Addr}{o:HO}(x:bO P w H h a o):∃u,h.get? a=some u:=by
 cases o with
 |lst xs=>obtain⟨_,_,_,_,e⟩:=x;exact⟨_,e⟩
 |tup xs=>obtain⟨_,_,_,u,e,_⟩:=x;exact⟨u,e⟩
 |dK kvs=>obtain⟨_,_,_,_,u,_,_,e,_⟩:=x;exact⟨u,e⟩
 |dT kvs=>obtain⟨_,_,_,_,u,_,_,e,_⟩:=x;exact⟨u,e⟩
 |set S n=>obtain⟨u,_,_,_,e,_⟩:=x;exact⟨u,e⟩
 |ins C dx fs=>obtain⟨_,_,_,e,_⟩:=x;exact⟨_,e⟩
 |own y=>exact x
 |xd fs=>obtain⟨_,⟨u,_,_,e,_⟩,_⟩:=x;exact⟨u,e⟩
 |rng lo hi=>obtain⟨_,_,_,e⟩:=x;exact⟨_,e⟩
 |frz ob u=>exact⟨_,x.1⟩
 |tbl ps=>exact⟨_,x⟩
 |met f y=>exact⟨_,x⟩
 |ext φ=>exact x.2.1
 |cod q=>obtain⟨o,_,_,e,_⟩:=x;exact⟨o,e⟩
 |ctb pos q=>obtain⟨_,e,_⟩:=x;exact⟨_,e⟩
theorem Inv.aPp{X:Cx}{P9:List (Addr×Obj)}{σ:St}{H:Hp}{s:Shared}{h':Heap}{a:Addr}{o:HO}{t':Nat}(I:Inv X P9 σ H s)(k:∀b u,s.heap.get? b=some u->h'.get? b=some u)(hne:∀b u,s.heap.get? b=some u->b≠a)
  (new:bO X.prog X.w (upd H a o) h' a o):H a=none/\Inv X P9 σ (upd H a o) { s with heap:=h',toks:=t' }:=by
 have hn:H a=none:=by
  cases e:H a with
  |none=>rfl
  |some u=>
   obtain⟨ob,z⟩:=(I.hok a u e).obj
   exact absurd rfl (hne a ob z)
 refine⟨hn,I.un ⟨fun b u q _ _ _=>k b u q,fun b u q _ _ _=>⟨u.slots,k b u q⟩,fun b u q n _=>?_,fun b u q _=>⟨u,k b u q⟩,fun b xs q=>?_,fun b u xs q=>?_,fun b ps q=>⟨#[],?_⟩⟩ fun b u e=>?_⟩
 ·rw[aR (hne b u q)];exact n
 ·rw[aR (bF q hn)];exact q
 ·rw[aR (bF q hn)];exact q
 ·rw[aR (bF q hn),q];simp
 ·by_cases hb:b=a
  ·subst hb;rw[aH] at e;cases e;exact new
  ·rw[aR hb] at e
   exact(I.hok b u e).aB5 (fun c v _ q=>k c v q) (fun c q=>by rw[aR (bF q hn)];exact q) fun c xs _ q=>by rw[aR (bF q hn)];exact q
def Itd(d:Addr)(o:Obj)(kvs:List (Key×V)):It:=
 ⟨fun i H=>H d=some (.frz o (.dK kvs))/\i < kvs.length,fun i H x H'=>H'=H/\∃kv,kvs[i]?=some kv/\x=kV kv.1,fun i H=>H d=some (.frz o (.dK kvs))/\kvs.length<=i⟩
theorem aJI{P:Program}{w:World}{K:W.Frag}{tg:Expr}(d it:Addr)(o:Obj)(kvs:List (Key×V))(vs:List (Key×Value))(ep:Nat)(rel:KV kvs vs)
  (hD:∀h:Heap,h.get? d=some o->h.DictAt (cZ P w) d vs ep):Turn P w K tg (Itd d o kvs) [it] it (fun i h=>h.IsKeyIter it d i vs.length ep) where
 mem:=by simp
 obj:=fun i h st b hb=>by
  have e:b=it:=by simpa using hb
  subst e
  obtain⟨u,e,c,q⟩:=st
  exact⟨u,e,fun v z=>by rw[q] at z;cases z⟩
 keep:=fun i h h' st k=>st.at fun u e=>k it (by simp) u e
 item:=by
  intro X hP hw hK hc i P9 s σ H E I hf st hg
  subst hP hw hK
  obtain⟨hd,hi⟩:=hg
  have ho:s.heap.get? d=some o:=(show bO X.prog X.w H s.heap d (.frz o (.dK kvs)) from I.hok d _ hd).1
  obtain⟨f0,f1,f2,f3,f4,f5⟩:=hf it (by simp)
  have hx:kvs[i]?=some kvs[i]:=List.getElem?_eq_getElem hi
  obtain⟨⟨qk,qv⟩,hq,r1⟩:=aK8 rel hx
  refine wpAny_pyNext_dict_item st (hD _ ho) hq fun key h' hkey st' sb=>?_
  have I1:Inv X P9 σ H { s with heap:=h' }:=I.turned (t':=s.toks) (fun b u hb e=>(sb.2 b hb).trans e) f0 f1 f3 f4 f5
  obtain⟨u,e',c',d'⟩:=id st'
  exact⟨key,rfl,aEO (s:={ s with heap:=h' }) e' c' d' (by decide) ⟨kV kvs[i].1,H,I1,aJH (by rw[r1];exact hkey),⟨rfl,kvs[i],hx,rfl⟩,st',fun b hb=>(hf b hb).1⟩⟩
 done:=by
  intro X hP hw hK hc i P9 s σ H E I hf st hg
  subst hP hw hK
  obtain⟨hd,hi⟩:=hg
  have ho:s.heap.get? d=some o:=(show bO X.prog X.w H s.heap d (.frz o (.dK kvs)) from I.hok d _ hd).1
  obtain⟨f0,f1,f2,f3,f4,f5⟩:=hf it (by simp)
  have hl:kvs.length=vs.length:=Paired.length rel
  exact wpAny_pyNext_dict_end (I.ok.hd hc) st (hD _ ho) (List.getElem?_eq_none (by omega)) fun h' eb=>⟨rfl,I.turned (t':=s.toks) (fun b u hb e=>eb b u hb e) f0 f1 f3 f4 f5⟩
 self:=fun _ _ _ _ _ st h=>wpAny_pyIter_keyiter st h
section
variable{X:Cx}{tg:Expr}
def DiQ(R:It->Hp->Prop):V->Hp->Prop:=fun x H1=>∃d kvs,x=.ref d/\H1 d=some (.dK kvs)/\∀o,R (Itd d o kvs) (upd H1 d (.frz o (.dK kvs)))
def aK9(tl:TE):TI:=fun σ H R=>tl σ H (DiQ R)
theorem aFA{l:Expr}{tl:TE}(hl:PE X l tl):PI X tg l (aK9 tl):=by
 intro P9 s σ H R I h
 refine cY (hl P9 s σ H _ I h) fun v s1 ⟨x,H1,I1,r1,q1⟩=>?_
 obtain⟨d,kvs,e,hd,q⟩:=q1
 subst e
 cases r1
 obtain⟨hz,hS,vs,rel,dd⟩:=aKz I1.hok hd
 obtain⟨ep,hat⟩:=dd.dictAt
 obtain⟨o,es,ho,rest⟩:=id hat
 have I2:=I1.freeze hd ho
 refine wpAny_pyIter_dict hS hat ?_
 refine⟨s1.heap.objs.size,[s1.heap.objs.size],_,_,_,rfl,I2.kept (t':=s1.toks) fun b u e=>Heap.get?_push_of_some _ e,aJI d _ o kvs vs ep rel (fun h z=>⟨o,es,z,rest⟩),⟨_,Heap.get?_push_size _ rfl,rfl,rfl⟩,fun b hb=>?_,q o⟩
 have e:b=s1.heap.objs.size:=by simpa using hb
 subst e
 exact I2.aDV (Nat.le_refl _) (I2.hok.fresh (Nat.le_refl _))
end
section
variable{σ:St}{H:Hp}{nx:St->Hp->Prop}{rt:VK}{g:TG}{tb:TS}
theorem aLa{tl:TE}{R:It->Hp->Prop}(h:tl σ H (DiQ R)):aK9 tl σ H R:=h
theorem aPq{d:Addr}{kvs:List (Key×V)}{R:It->Hp->Prop}(h1:H d=some (.dK kvs))(h:∀o,R (Itd d o kvs) (upd H d (.frz o (.dK kvs)))):DiQ R (.ref d) H:=⟨d,kvs,rfl,h1,h⟩
theorem aMN{d:Addr}{o:Obj}{kvs:List (Key×V)}(Pv:Nat->St->Hp->Prop)(h0:Pv 0 σ H)(hl:∀i σ H,i<=kvs.length->Pv i σ H->H d=some (.frz o (.dK kvs)))
  (hs:∀i kv σ H,kvs[i]?=some kv->Pv i σ H->g (kV kv.1) σ H fun σ2 H2=>tb ⟨Pv (i+1),rt,nx,Pv (i+1)⟩ σ2 H2) (hd:∀σ H,Pv kvs.length σ H->nx σ H) :
  ∃W:Nat->Nat->St->Hp->Prop,(∃m,W 0 m σ H)/\∀i m σ H,W i m σ H->
   ((Itd d o kvs).stop i H/\nx σ H)\/((Itd d o kvs).go i H/\∃N:St->Hp->Prop,(∀σ' H',N σ' H'->∃m',m' < m/\W (i+1) m' σ' H')/\∀x H',(Itd d o kvs).yld i H x H'->g x σ H' fun σ2 H2=>tb ⟨N,rt,nx,N⟩ σ2 H2):=by
 refine⟨fun i m σ H=>m=kvs.length - i/\i<=kvs.length/\Pv i σ H,⟨kvs.length,by simp,Nat.zero_le _,h0⟩,?_⟩
 rintro i m σ H ⟨rfl,hi,p⟩
 have q:=hl i σ H hi p
 rcases Nat.lt_or_ge i kvs.length with hlt|hge
 ·refine .inr ⟨⟨q,hlt⟩,Pv (i+1),fun σ' H' z=>⟨kvs.length - (i+1),by omega,rfl,by omega,z⟩,?_⟩
  rintro x H' ⟨rfl,kv,hk,rfl⟩
  exact hs i kv σ H' hk p
 ·have e:i=kvs.length:=by omega
  subst e
  exact .inl ⟨⟨q,Nat.le_refl _⟩,hd σ H p⟩
end
section
variable{X:Cx}
end
section
variable{X:Cx}{o e:Expr}{to:TE}{apos cpos:Pos}
end
section
variable{K:W.Frag}{σ:St}{H:Hp}{Q:VK}
end
end L2
namespace L2.Z
open PySem PySem.Spec PyProof.Rows
section
variable{X:Cx}{K':W.Frag}{tg o i value l:Expr}{to td ty tv tl:TE}{pos pos' apos cpos:Pos}
theorem aFA(hl:QE X l tl):QI X tg l (aK9 tl):=⟨L2.aFA hl.h⟩
theorem tF(hu:X.A.units+9 < cLine)(ho:QE X o td)(hi:QE X i ty)(hv:QE X value tv)(hs:swapsWith value (some (.Subscript o i pos')) pos.line X.env=pure false:=by rfl) :
  QS X (.Assign [.Subscript o i pos'] value pos) (aKC td ty tv):=⟨L2.tF (by omega) ho.h hi.h hv.h hs⟩
end
end L2.Z
namespace L2
open PySem PySem.Spec PyProof.Rows
section
variable{σ:St}{H:Hp}{Q:VK}{nx bk ct:St->Hp->Prop}{rt:VK}
theorem aMO{td ty tv:TE}(h:tv σ H fun v H1=>td σ H1 fun x H2=>ty σ H2 fun y H3=>∃a H4,x=.ref a/\aBe H3 a y v H4/\nx σ H4):aKC td ty tv ⟨nx,rt,bk,ct⟩ σ H:=h
end
end L2
namespace L2
open PySem PySem.Spec PyProof.Rows
section
variable{prog:Program}{w:World}{A:Around}{E:Value->Shared->Prop}{s:Shared}{K:W.Frag}{x C:Addr}{ox:Obj}{od:Option Obj}{name:Str}{v:Value}{expr:Bool}
end
section
variable{prog:Program}{w:World}{A:Around}{E:Value->Shared->Prop}{s:Shared}{K:W.Frag}{x C:Addr}{o:Obj}{name:Str}{v:Value}
open PySem.Builtin PySem.Builtin.ObjectAttr in
end
section
variable{prog:Program}{w:World}{A:Around}{E:Value->Shared->Prop}{s:Shared}{K:W.Frag}
variable{nm q:Str}{C N fI:Addr}{bs bm bmB:List Value}{hdct:Bool}{sn:List Str}{sub:List Value}{ab:Bool}{col:Option Bool}{dd:Option Addr}{k0 k1 k2 k3 k5:Option Value}{B newId initId:String}
end
section
variable{M:Model}{A:Around}{E:Value->Shared->Prop}{s:Shared}{base:Heap}{env:Env}{outer:List Env}{L e:Addr}{oe:Obj}{vs:Array Value}{Q:Unit->Shared->Prop}
end
def aPK(C:Addr)(od:Option Addr)(e:Addr):HO:=.ext fun h=>∃o vs,h.get? e=some o/\o.cls=.ref C/\o.dict=od/\o.data=.fields vs
section
variable{X:Cx}{P9:List (Addr×Obj)}{σ:St}{H:Hp}{s:Shared}{h':Heap}{C e:Addr}{od:Option Addr}{oe:Obj}
end
end L2
namespace L2
open PySem PySem.Spec PyProof.Rows
section
variable{X:Cx}{P9:List (Addr×Obj)}{σ:St}{H:Hp}{s:Shared}
end
end L2
namespace L2
open PySem PySem.Spec PyProof.Rows
section
variable{X:Cx}{k:Nat}{f C:Addr}{fd:FuncData}{ps:List Str}{sp:Sp}{x:Str}{p pos:Pos}{e:Expr}{es:List Expr}{t:TA}{te:TE}
end
end L2
namespace L2
open PySem PySem.Spec PyProof.Rows
section
variable{X:Cx}{o e value:Expr}{f:Str}{pos pos':Pos}{ta tv:TE}
end
end L2
namespace L2
open PySem PySem.Spec PyProof.Rows
section
variable{prog:Program}{w:World}{A:Around}{E:Value->Shared->Prop}{s:Shared}{K:W.Frag}{x D:Addr}{ox:Obj}{odo:Option Obj}
end
def aFB(H:Hp)(od:Option Addr):Prop:=∀dx,od=some dx->∃fs,H dx=some (.xd fs)
theorem aFB.none{H:Hp}:aFB H none:=fun _ z=>nomatch z
theorem aFB.some{H:Hp}{dx:Addr}{fs:List (Str×V)}(h:H dx=some (.xd fs)):aFB H (some dx):=fun _ z=>by cases z;exact⟨fs,h⟩
section
variable{X:Cx}{K:W.Frag}{H:Hp}{Q:VK}
end
end L2
namespace L2
open PySem PySem.Spec PyProof.Rows
abbrev TW:=St->Hp->Addr->Prop
structure aOB(X:Cx)(P9:List (Addr×Obj))(T:Addr):Prop where
 up:X.s₀.heap.objs.size<=T
 loc:T≠X.env.locals
 cell:∀x c,X.env.cells.lookup x=some c->c≠T
 pin:∀p∈X.pn++P9,p.1≠T
structure aPL(X:Cx)(P9:List (Addr×Obj))(H:Hp)(h:Heap)(e:Addr):Prop where
 ex:∃(C:Addr) (od:Option Addr) (oe:Obj) (vs:Array Value) (T:Addr) (oT:Obj) (ts:Array Value),H e=some (aPK C od e)/\h.get? e=some oe/\oe.data=.fields vs/\vs[1]?=some (.ref T)/\T≠e/\aOB X P9 T/\H T=none/\h.get? T=some oT/\oT.data=.fields ts/\ts[3]?=some .none
def aOC(X:Cx)(P9:List (Addr×Obj))(W:TW)(ev:Value)(s':Shared):Prop:=∃(e:Addr) (σ:St) (H':Hp),ev=.ref e/\Inv X P9 σ H' s'/\aPL X P9 H' s'.heap e/\W σ H' e
def Cx.tr(X:Cx)(P9:List (Addr×Obj))(W:TW):Cx:={ X with pn:=X.pn++P9,xe:=aOC X P9 W }
def Cx.hnd(X:Cx)(e:Addr):Cx:={ X with A:=X.A.mark (some (.ref e)),calm:=false,xe:=fun _ _=>False }
section
variable{X:Cx}{P9 pins':List (Addr×Obj)}{σ:St}{H:Hp}{s:Shared}{W:TW}{e:Addr}
end
abbrev TH:=Ends->St->Hp->Addr->Prop
section
variable{X:Cx}{x n:Str}{C0:Addr}{i:Nat}{b₀:Stmt}{suite body:List Stmt}{np pos:Pos}{rest:List ExceptHandler}{h₀:ExceptHandler}{hs:List ExceptHandler}{ts:TS}{th:TH}{tb:TW->TS}
end
end L2
namespace L2
open PySem PySem.Spec PyProof.Rows
section
variable{X:Cx}{pn:List (Addr×Obj)}{W:TW}{k:Nat}{f C:Addr}{fd:FuncData}{ps:List Str}{sp:Sp}{x:Str}{p pos:Pos}{e:Expr}{es:List Expr}{t:TA}
end
structure aPr(k:Nat)(A:Around):Prop where
 dp:A.depth+3*k+5 < recursionLimit
 un:A.units+16*k+200 < cLine
theorem fD.h{k:Nat}{A:Around}(r:fD k A):aPr k A:=⟨r.dp,r.un⟩
section
variable{X:Cx}{k:Nat}{f:Addr}{fd:FuncData}{ps:List Str}{sp:Sp}{x:Str}{p pos:Pos}{e:Expr}{es:List Expr}{t:TA}
end
end L2
namespace L2
open PySem PySem.Spec PyProof.Rows
section
variable{K:W.Frag}{σ:St}{H:Hp}{Q:VK}{nx bk ct:St->Hp->Prop}{rt:VK}
end
end L2
namespace L2.Z
open PySem PySem.Spec PyProof.Rows L2
section
variable{X:Cx}{K':PySem.W.Frag}{pn:List (Addr×Obj)}{W:TW}{k:Nat}{f C C0:Addr}{fd:FuncData}{ps:List Str}{sp:Sp}{x n:Str}{p pos pos' np:Pos}{e o:Expr}{es:List Expr}{t:TA}{te ta:TE}{E:XK}{i:Nat}{b₀:Stmt}{suite body:List Stmt}{rest hs:List ExceptHandler}{h₀:ExceptHandler}{ts:TS}{th:TH}{tb:TW->TS}
end
end L2.Z
namespace L2
open PySem PySem.Spec PyProof.Rows
section
variable{X:Cx}
end
end L2
namespace L2
open PySem PySem.Spec PyProof.Rows
end L2
namespace L2
open PySem PySem.Spec PyProof.Rows
section
variable{X:Cx}{o e:Expr}{to:TE}{t:TA}{apos cpos:Pos}
theorem aIM:∀{ns:List Int}{us:List Value},Vals (ns.map V.int) us->IntsAre us ns
 |[],_,.nil=>.nil
 |n::ns,_,.cons r t=>by
  obtain⟨k,rfl⟩:=(show ∃k,_=Value.int n k from r)
  exact .cons n k (aIM t)
def aFC(K:W.Frag):V->List V->Hp->VK->Prop:=fun x vs H Q=>∃(l:Addr) (ns:List Int) (k:Int),x=.ref l/\vs=[.int k]/\bR K H l (ns.map V.int)/\Q (.int (ns.count k:Nat)) H
theorem aLb:MtR X "list.count" (aFC X.K):=by
 intro P9 s σ H x vs v us Q I rx rv h
 obtain⟨l,ns,k,rfl,rfl,hS,q⟩:=h
 cases rx
 obtain⟨u,rfl,ru⟩:=rv.one
 obtain⟨tk,rfl⟩:=(show ∃tk,u=Value.int k tk from ru)
 obtain⟨its,r,pl,hz⟩:=I.list hS
 exact count_list_ints pl.isList (aIM r) ⟨.int (ns.count k:Nat),H,I.tok _,⟨_,rfl⟩,q⟩
theorem aLc(ho:PE X o to)(ha:PA X [e] t)(hn:noStar e=true:=by rfl)(hbase:attributeBase o "count" X.env (eval o X.env)=eval o X.env:=by rfl)(hline:(apos.endLine == cpos.line)=true:=by rfl) :
  PE X (.Call (.Attribute o "count" apos) [e] [] cpos) (tBM X.K "list" (aFC X.K) to t):=
 aNa PySem.F.plainAttrs_list PySem.F.slot_list_count PySem.F.type_list_count aLb ho ha hbase (by rw[bM hn];rfl) hline (bM hn) (by rfl)
theorem aGZ{K:W.Frag}{H:Hp}{Q:VK}{l:Addr}{ns:List Int}{k:Int}(h:bR K H l (ns.map V.int))(q:Q (.int (ns.count k:Nat)) H):aFC K (.ref l) [.int k] H Q:=⟨l,ns,k,rfl,rfl,h,q⟩
end
end L2
namespace L2.Z
open PySem PySem.Spec PyProof.Rows L2
theorem aE0{X:Cx}{K':PySem.W.Frag}{o e:Expr}{to:TE}{t:TA}{apos cpos:Pos}(ho:QE X o to)(ha:QA X [e] t)(hn:noStar e=true:=by rfl)(hbase:attributeBase o "count" X.env (eval o X.env)=eval o X.env:=by rfl)(hline:(apos.endLine == cpos.line)=true:=by rfl)(hK:X.K=K':=by rfl) :
  QE X (.Call (.Attribute o "count" apos) [e] [] cpos) (tBM K' "list" (aFC K') to t):=by subst hK;exact⟨L2.aLc ho.h ha.h hn hbase hline⟩
end L2.Z
namespace L2
open PySem PySem.W PyProof.Rows
section
variable{O:KeyOrd}{key:Nat->O.α}{N:Nat}{cmp:Nat->Nat->(Bool->Shared->Prop)->Shared->Prop}{s:Shared}
def kq(key:Nat->O.α)(p:Array Nat)(i:Nat):O.α:=key (p.getD i 0)
def Up(key:Nat->O.α)(p:Array Nat)(k:Nat):Prop:=∀i j,i<=j->j < k->O.kle (kq key p i) (kq key p j)
def Dn(key:Nat->O.α)(p:Array Nat)(k:Nat):Prop:=∀i j,i<=j->j < k->O.kle (kq key p j) (kq key p i)
def Row(N:Nat)(p:Array Nat):Prop:=p.Perm (List.toArray (List.range N))
theorem aG0{p q:Array Nat}{i j:Nat}(h:p[i]?=q[j]?):kq key p i=kq key q j:=by
 unfold kq
 rw[Array.getD_eq_getD_getElem?,Array.getD_eq_getD_getElem?,h]
theorem aLd{p:Array Nat}{a d:Nat}(ha:a < p.size)(hd:d<=a)(k:Nat):kq key (bubble p a d) k=if k=a - d then kq key p a else if a - d < k/\k<=a then kq key p (k - 1) else kq key p k:=by
 have e:=getElem?_bubble ha d hd k
 split
 ·rename_i h;rw[if_pos h] at e;exact aG0 e
 ·rename_i h
  rw[if_neg h] at e
  split
  ·rename_i g;rw[if_pos g] at e;exact aG0 e
  ·rename_i g;rw[if_neg g] at e;exact aG0 e
theorem aFD{p:Array Nat}{i j:Nat}(hj:j<=p.size)(k:Nat):kq key (kas_rev p i j) k=if i<=k/\k < j then kq key p (i+j - 1 - k) else kq key p k:=by
 have e:=getElem?_mirror_all (i:=i) hj k
 split
 ·rename_i h;rw[if_pos h] at e;exact aG0 e
 ·rename_i h;rw[if_neg h] at e;exact aG0 e
theorem Row.size{p:Array Nat}(h:Row N p):p.size=N:=by
 have:=h.size_eq
 rw[this]
 simp
theorem Row.lt{p:Array Nat}(h:Row N p)(hN:0 < N)(i:Nat):p.getD i 0 < N:=by
 by_cases hi:i < p.size
 ·have e:p.getD i 0=p[i]:=by simp[Array.getD,hi]
  have m:p[i]∈p.toList:=by simp
  have m2:=(Array.perm_iff_toList_perm.mp h).mem_iff.mp m
  rw[e]
  simpa using m2
 ·have e:p.getD i 0=0:=by simp[Array.getD,hi]
  rw[e];exact hN
theorem Row.rev{p:Array Nat}(h:Row N p)(i j:Nat):Row N (kas_rev p i j):=(mirror_perm p i j _).trans h
theorem Row.bub{p:Array Nat}(h:Row N p)(i j:Nat):Row N (bubble p i j):=(bubble_perm p i j).trans h
theorem Up.more{p:Array Nat}{m:Nat}(h:Up key p m)(e:O.kle (kq key p (m - 1)) (kq key p m)):Up key p (m+1):=fun i j hij hj=>by
 by_cases hm:j < m
 ·exact h i j hij hm
 ·have ej:j=m:=by omega
  subst ej
  by_cases hi:i=j
  ·subst hi;exact KeyOrd.kle_refl _
  ·exact KeyOrd.kle_trans (h i (j - 1) (by omega) (by omega)) e
theorem Dn.more{p:Array Nat}{m:Nat}(h:Dn key p m)(e:O.kle (kq key p m) (kq key p (m - 1))):Dn key p (m+1):=fun i j hij hj=>by
 by_cases hm:j < m
 ·exact h i j hij hm
 ·have ej:j=m:=by omega
  subst ej
  by_cases hi:i=j
  ·subst hi;exact KeyOrd.kle_refl _
  ·exact KeyOrd.kle_trans e (h i (j - 1) (by omega) (by omega))
def Ans(key:Nat->O.α)(N:Nat)(cmp:Nat->Nat->(Bool->Shared->Prop)->Shared->Prop)(s:Shared):Prop:=∀i j (C:Bool->Shared->Prop),i < N->j < N->C (O.blt (key i) (key j)) s->cmp i j C s
theorem Ans.ask{α:Type}(hc:Ans key N cmp s)(hN:0 < N){p:Array Nat}(hp:Row N p){i j:Nat}{k:Bool->KasT α}{Q:α->Shared->Prop}(h1:O.klt (kq key p i) (kq key p j)->(k true).kasWp cmp Q s)(h2:O.kle (kq key p j) (kq key p i)->(k false).kasWp cmp Q s) :
  (KasT.ask (p.getD i 0) (p.getD j 0) k).kasWp cmp Q s:=by
 refine hc _ _ _ (hp.lt hN i) (hp.lt hN j) ?_
 cases e:O.blt (key (p.getD i 0)) (key (p.getD j 0)) with
 |true=>exact h1 e
 |false=>exact h2 e
theorem aH2(hc:Ans key N cmp s)(hN:0 < N){p:Array Nat}(hp:Row N p){Q:Nat->Shared->Prop}:∀{f m:Nat},f=N - m->1<=m->m<=N->Up key p m->
  (∀r,m<=r->r<=N->Up key p r->(r < N->O.klt (kq key p r) (kq key p (r - 1)))->Q r s)->(kas_asc p f m).kasWp cmp Q s
 |0,m,hf,h1,hm,hu,h=>h m (Nat.le_refl _) hm hu (fun z=>by omega)
 |f+1,m,hf,h1,hm,hu,h=>by
  refine hc.ask hN hp (fun z=>?_) (fun z=>?_)
  ·rw[if_pos rfl]
   exact h m (Nat.le_refl _) hm hu fun _=>z
  ·rw[if_neg (by decide)]
   exact aH2 hc hN hp (by omega) (by omega) (by omega) (hu.more z) fun r a b c d=>h r (by omega) b c d
def Blk(key:Nat->O.α)(p:Array Nat)(n q:Nat):Prop:=∀i,n - (q+1)<=i->i < n->kq key p i=kq key p (n - 1)
theorem Blk.same{p:Array Nat}{n q:Nat}(h:Blk key p n q)(hz:n<=p.size)(k:Nat):kq key (kas_rev p (n - (q+1)) n) k=kq key p k:=by
 rw[aFD hz]
 split
 ·rename_i g
  rw[h k g.1 g.2]
  exact h _ (by omega) (by omega)
 ·rfl
theorem aCy(hc:Ans key N cmp s)(hN:0 < N){Q:Array Nat×Nat×Nat->Shared->Prop}:∀{f n q:Nat}{p:Array Nat},Row N p->f=N - n->1<=n->n<=N->q+1<=n->Dn key p n->Blk key p n q->
  (∀p' n' q',Row N p'->1<=n'->n'<=N->q'+1<=n'->Dn key p' n'->Blk key p' n' q'->Q (p',n',q') s)->(kas_desc f p n q).kasWp cmp Q s
 |0,n,q,p,hp,hf,h1,hn,hq,hd,hb,h=>h p n q hp h1 hn hq hd hb
 |f+1,n,q,p,hp,hf,h1,hn,hq,hd,hb,h=>by
  have hz:n<=p.size:=by rw[hp.size];exact hn
  refine hc.ask hN hp (fun z=>?_) (fun z=>?_)
  ·rw[if_pos rfl]
   have hd':Dn key p (n+1):=hd.more (KeyOrd.kle_of_klt z)
   split
   ·have e:=hb.same hz
    refine aCy hc hN (hp.rev _ _) (by omega) (by omega) (by omega) (by omega) (fun i j a b=>?_) (fun i a b=>?_) h
    ·rw[e,e];exact hd' i j a b
    ·have:i=n:=by omega
     subst this;rfl
   ·refine aCy hc hN hp (by omega) (by omega) (by omega) (by omega) hd' (fun i a b=>?_) h
    have:i=n:=by omega
    subst this;rfl
  ·rw[if_neg (by decide)]
   refine hc.ask hN hp (fun y=>?_) (fun y=>?_)
   ·rw[if_pos rfl]
    exact h p n q hp h1 hn hq hd hb
   ·rw[if_neg (by decide)]
    have e:kq key p (n - 1)=kq key p n:=KeyOrd.kle_antisymm z y
    refine aCy hc hN hp (by omega) (by omega) (by omega) (by omega) (hd.more y) (fun i a b=>?_) h
    show kq key p i=kq key p n
    by_cases hi:i < n
    ·rw[hb i (by omega) hi,e]
    ·have:i=n:=by omega
     subst this;rfl
theorem aIN(hc:Ans key N cmp s)(hN:0 < N){n:Nat}{p:Array Nat}{Q:Nat×Array Nat->Shared->Prop}(hp:Row N p)(h1:1<=n)(hn:n<=N)(hd:Dn key p n)(h:∀m p',Row N p'->1<=m->m<=N->Up key p' m->Q (m,p') s):(kas_tail3 n N p).kasWp cmp Q s:=by
 have hz:n<=p.size:=by rw[hp.size];exact hn
 unfold kas_tail3
 rw[KasT.kasWp_bind]
 refine aH2 hc hN (hp.rev 0 n) rfl h1 hn (fun i j a b=>?_) fun r a b c _=>h r _ (hp.rev 0 n) (by omega) b c
 rw[aFD hz,aFD hz,if_pos ⟨Nat.zero_le _,by omega⟩,if_pos ⟨Nat.zero_le _,b⟩]
 exact hd _ _ (by omega) (by omega)
theorem aBL(hc:Ans key N cmp s)(hN:0 < N){n:Nat}{p:Array Nat}{Q:Nat×Array Nat->Shared->Prop}(hp:Row N p)(h1:1<=n)(hn:n < N)(hd:Dn key p n)(hl:O.klt (kq key p n) (kq key p (n - 1)))(h:∀m p',Row N p'->1<=m->m<=N->Up key p' m->Q (m,p') s) :
  (kas_descPart n N p).kasWp cmp Q s:=by
 unfold kas_descPart
 rw[KasT.kasWp_bind]
 refine aCy hc hN hp rfl (by omega) (by omega) (by omega) (hd.more (KeyOrd.kle_of_klt hl)) (fun i a b=>by have:i=n:=(by omega);subst this;rfl) fun p' n' q' r1 r2 r3 r4 r5 r6=>?_
 have hz:n'<=p'.size:=by rw[r1.size];exact r3
 split
 ·refine aIN hc hN (r1.rev _ _) r2 r3 (fun i j a b=>?_) h
  have e:=r6.same hz
  show O.kle (kq key (kas_rev p' (n' - (q'+1)) n') j) (kq key (kas_rev p' (n' - (q'+1)) n') i)
  rw[e,e]
  exact r5 i j a b
 ·exact aIN hc hN r1 r2 r3 r5 h
theorem aLe(hc:Ans key N cmp s)(hN:0 < N){p:Array Nat}{Q:Nat×Array Nat->Shared->Prop}(hp:Row N p)(h:∀m p',Row N p'->1<=m->m<=N->Up key p' m->Q (m,p') s):(kas_count N p).kasWp cmp Q s:=by
 unfold kas_count
 rw[KasT.kasWp_bind]
 refine aH2 hc hN hp rfl (Nat.le_refl _) hN (fun i j a b=>by have:i=j:=(by omega);subst this;exact KeyOrd.kle_refl _) fun n a b c d=>?_
 have hz:n<=p.size:=by rw[hp.size];exact b
 split
 ·exact h n p hp a b c
 ·rename_i ne
  have nN:n < N:=by
   have:n≠N:=fun z=>ne (by simp[z])
   omega
  split
  ·refine hc.ask hN hp (fun z=>?_) (fun z=>?_)
   ·rw[if_pos rfl]
    exact h n p hp a b c
   ·rw[if_neg (by decide)]
    have all:∀i,i < n->kq key p i=kq key p 0:=fun i hi=>KeyOrd.kle_antisymm (KeyOrd.kle_trans (c i (n - 1) (by omega) (by omega)) z) (c 0 i (by omega) hi)
    have e:∀k,kq key (kas_rev p 0 n) k=kq key p k:=fun k=>by
     rw[aFD hz]
     split
     ·rw[all _ (by omega),all k (by omega)]
     ·rfl
    refine aBL hc hN (hp.rev 0 n) a nN (fun i j x y=>?_) ?_ h
    ·rw[e,e,all i (by omega),all j y]
     exact KeyOrd.kle_refl _
    ·rw[e,e]
     exact d nN
  ·have n1:n=1:=by omega
   subst n1
   exact aBL hc hN hp (Nat.le_refl _) nN (fun i j x y=>by have:i=j:=(by omega);subst this;exact KeyOrd.kle_refl _) (d nN) h
theorem aCZ(hc:Ans key N cmp s)(hN:0 < N){p:Array Nat}(hp:Row N p){k:Nat}(hu:Up key p k){Q:Nat->Shared->Prop}:∀{f l r:Nat},l<=r->r<=k->r - l<=f->
  (∀i,i < l->O.kle (kq key p i) (kq key p k))->(∀i,r<=i->i < k->O.klt (kq key p k) (kq key p i))->
  (∀m,m<=k->(∀i,i < m->O.kle (kq key p i) (kq key p k))->(∀i,m<=i->i < k->O.klt (kq key p k) (kq key p i))->Q m s)->(kas_place p k f l r).kasWp cmp Q s
 |0,l,r,hlr,hrk,hf,ha,hb,h=>h l (by omega) ha fun i x y=>hb i (by omega) y
 |f+1,l,r,hlr,hrk,hf,ha,hb,h=>by
  unfold kas_place
  by_cases g:l ≥ r
  ·rw[if_pos g]
   exact h l (by omega) ha fun i x y=>hb i (by omega) y
  ·rw[if_neg g]
   refine hc.ask hN hp (fun z=>?_) (fun z=>?_)
   ·rw[if_pos rfl]
    refine aCZ hc hN hp hu (by omega) (by omega) (by omega) ha (fun i x y=>?_) h
    exact KeyOrd.klt_of_klt_of_kle z (hu _ i x y)
   ·rw[if_neg (by decide)]
    refine aCZ hc hN hp hu (by omega) (by omega) (by omega) (fun i x=>?_) hb h
    exact KeyOrd.kle_trans (hu i _ (by omega) (by omega)) z
theorem aLf(hc:Ans key N cmp s)(hN:0 < N){Q:Array Nat->Shared->Prop}:∀{f k:Nat}{p:Array Nat},Row N p->f=N - k->k<=N->Up key p k->(∀p',Row N p'->Up key p' N->Q p' s)->(kas_bin f p k).kasWp cmp Q s
 |0,k,p,hp,hf,hk,hu,h=>h p hp (by have:k=N:=(by omega);subst this;exact hu)
 |f+1,k,p,hp,hf,hk,hu,h=>by
  unfold kas_bin
  rw[KasT.kasWp_bind]
  refine aCZ hc hN hp hu (Nat.zero_le _) (Nat.le_refl _) (by omega) (fun i x=>by omega) (fun i x y=>by omega) fun m hm ha hb=>?_
  have kz:k < p.size:=by rw[hp.size];omega
  refine aLf hc hN (hp.bub k (k - m)) (by omega) (by omega) (fun i j hij hj=>?_) h
  have em:k - (k - m)=m:=by omega
  rw[aLd kz (by omega),aLd kz (by omega),em]
  by_cases i1:i=m
  ·rw[if_pos i1]
   by_cases j1:j=m
   ·rw[if_pos j1];exact KeyOrd.kle_refl _
   ·rw[if_neg j1,if_pos (by omega)]
    exact KeyOrd.kle_of_klt (hb _ (by omega) (by omega))
  ·rw[if_neg i1]
   by_cases i2:m < i/\i<=k
   ·rw[if_pos i2,if_neg (by omega),if_pos (by omega)]
    exact hu _ _ (by omega) (by omega)
   ·rw[if_neg i2]
    by_cases j1:j=m
    ·rw[if_pos j1]
     exact ha i (by omega)
    ·rw[if_neg j1]
     by_cases j2:m < j/\j<=k
     ·rw[if_pos j2]
      exact hu _ _ (by omega) (by omega)
     ·rw[if_neg j2]
      exact hu _ _ (by omega) (by omega)
theorem aMP(hc:Ans key N cmp s)(hN:0 < N){Q:Array Nat->Shared->Prop}(h:∀p,Row N p->Up key p N->Q p s):(kas_sort N).kasWp cmp Q s:=by
 unfold kas_sort
 rw[KasT.kasWp_bind]
 refine aLe hc hN (Array.Perm.refl _) fun m p hp h1 hm hu=>?_
 split
 ·rename_i z
  have e:max m 1=m:=by omega
  show(kas_bin (N - max m 1) p (max m 1)).kasWp cmp Q s
  rw[e]
  exact aLf hc hN hp rfl hm hu h
 ·rename_i z
  have z':¬m < N:=z
  have e:m=N:=by omega
  subst e
  exact h p hp hu
end
end L2
namespace L2
open PySem PySem.W PyProof.Rows
def v8:List Int->List Int->Bool
 |[],[]=>false
 |[],_::_=>true
 |_::_,[]=>false
 |a::as,b::bs=>if a=b then v8 as bs else decide (a < b)
theorem fV(a b:Int)(as bs:List Int):v8 (a::as) (b::bs)=if a=b then v8 as bs else decide (a < b):=rfl
theorem aBM:∀as:List Int,v8 as as=false
 |[]=>rfl
 |a::as=>by rw[fV,if_pos rfl];exact aBM as
theorem aC3:∀as bs cs:List Int,v8 as bs=true->v8 bs cs=true->v8 as cs=true
 |[],[],_,h,_=>by cases h
 |[],_::_,[],_,h=>by cases h
 |[],_::_,_::_,_,_=>rfl
 |_::_,[],_,h,_=>by cases h
 |_::_,_::_,[],_,h=>by cases h
 |a::as,b::bs,c::cs,h1,h2=>by
  rw[fV] at h1 h2 ⊢
  by_cases e1:a=b
  ·subst e1
   rw[if_pos rfl] at h1
   by_cases e2:a=c
   ·rw[if_pos e2] at h2 ⊢;exact aC3 as bs cs h1 h2
   ·rw[if_neg e2] at h2 ⊢;exact h2
  ·rw[if_neg e1] at h1
   have l1:=of_decide_eq_true h1
   by_cases e2:b=c
   ·subst e2
    rw[if_neg e1];exact h1
   ·rw[if_neg e2] at h2
    have l2:=of_decide_eq_true h2
    rw[if_neg (by omega)]
    exact decide_eq_true (by omega)
theorem aG1:∀as bs cs:List Int,v8 as cs=true->v8 as bs=true\/v8 bs cs=true
 |[],[],_,h=>.inr h
 |[],_::_,_,_=>.inl rfl
 |_::_,_,[],h=>by cases h
 |_::_,[],_::_,_=>.inr rfl
 |a::as,b::bs,c::cs,h=>by
  rw[fV] at h
  rw[fV,fV]
  by_cases e1:a=b
  ·subst e1
   rw[if_pos rfl]
   by_cases e2:a=c
   ·rw[if_pos e2] at h ⊢;exact aG1 as bs cs h
   ·rw[if_neg e2] at h ⊢;exact .inr h
  ·rw[if_neg e1]
   by_cases e2:b=c
   ·subst e2
    rw[if_neg e1] at h
    exact .inl h
   ·rw[if_neg e2]
    by_cases l:a < b
    ·exact .inl (decide_eq_true l)
    ·refine .inr (decide_eq_true ?_)
     by_cases e3:a=c
     ·omega
     ·rw[if_neg e3] at h
      have:=of_decide_eq_true h
      omega
theorem aC4:∀as bs:List Int,v8 as bs=false->v8 bs as=false->as=bs
 |[],[],_,_=>rfl
 |[],_::_,h,_=>by cases h
 |_::_,[],_,h=>by cases h
 |a::as,b::bs,h1,h2=>by
  rw[fV] at h1 h2
  by_cases e:a=b
  ·subst e
   rw[if_pos rfl] at h1 h2
   rw[aC4 as bs h1 h2]
  ·rw[if_neg e] at h1
   rw[if_neg (Ne.symm e)] at h2
   have:=of_decide_eq_false h1
   have:=of_decide_eq_false h2
   omega
def aJJ:KeyOrd:=⟨List Int,v8,aBM,aC3,aG1,aC4⟩
theorem aAh:∀{ns:List Int}{its:List Value},Vals (ns.map V.int) its->IntsAre its ns
 |[],_,r=>by cases r;exact .nil
 |n::ns,_,r=>by
  cases r with
  |cons h t=>
   obtain⟨u,rfl⟩:=h
   exact .cons n u (aAh t)
inductive yC (h:Heap):List Value->List (List Int)->Prop
 |nil:yC h [] []
 |cons {x:Addr} {o:Obj} {xs:Array Value} {k:Nat} {t:List Int} {vs:List Value} {ts:List (List Int)} (e:h.get? x=some o) (c:o.cls=.type "tuple") (d:o.data=.seq xs k) (i:IntsAre xs.toList t) (ne:t≠[]) (r:yC h vs ts):yC h (.ref x::vs) (t::ts)
theorem yC.length{h:Heap}{vs:List Value}{ts:List (List Int)}(r:yC h vs ts):vs.length=ts.length:=by
 induction r with
 |nil=>rfl
 |cons _ _ _ _ _ _ ih=>rw[List.length_cons,List.length_cons,ih]
theorem yC.at_{h:Heap}{vs:List Value}{ts:List (List Int)}(r:yC h vs ts):∀{j:Nat},j < vs.length->∃x o xs k,vs.getD j Value.none=.ref x/\h.get? x=some o/\o.data=.seq xs k/\IntsAre xs.toList (ts.getD j []):=by
 induction r with
 |nil=>intro j hj;simp at hj
 |cons e c d i ne r ih=>
  intro j hj
  cases j with
  |zero=>exact⟨_,_,_,_,rfl,e,d,i⟩
  |succ j=>exact ih (by simpa using hj)
theorem yC.keeps{h h':Heap}{vs:List Value}{ts:List (List Int)}(r:yC h vs ts)(k:∀(b:Addr) (o:Obj),o.cls=.type "tuple"->h.get? b=some o->h'.get? b=some o):yC h' vs ts:=by
 induction r with
 |nil=>exact .nil
 |cons e c d i ne _ ih=>exact .cons (k _ _ c e) c d i ne ih
theorem yC.aOD{h:Heap}{vs:List Value}{ts:List (List Int)}(r:yC h vs ts):∃fs:List Value,KatTups h vs fs/\fs.length=vs.length/\∀v∈fs,∃n u,v=Value.int n u:=by
 induction r with
 |nil=>exact⟨[],.nil,rfl,fun v z=>by cases z⟩
 |@cons x o xs k t vs ts e c d i ne _ ih=>
  obtain⟨fs,a1,a2,a3⟩:=ih
  obtain⟨n,u,hx⟩ : ∃n u,xs[0]?=some (Value.int n u):=by
   rw[<-Array.getElem?_toList]
   generalize xs.toList=l at i
   cases i with
   |nil=>exact absurd rfl ne
   |cons n u _=>exact⟨n,u,rfl⟩
  refine⟨.int n u::fs,.cons e c d hx a1,by rw[List.length_cons,List.length_cons,a2],fun v z=>?_⟩
  rcases List.mem_cons.mp z with z|z
  ·exact⟨n,u,z⟩
  ·exact a3 v z
section
variable{prog:Program}{w:World}{A:Around}{E:Value->Shared->Prop}{s:Shared}
theorem aG2{Q:Bool->Shared->Prop}:∀{xs ys:List Value}{as bs:List Int}{i:Nat}{fin:Bool},IntsAre xs as->IntsAre ys bs->fin=decide (as.length < bs.length)->Q (v8 as bs) s->KatLex prog w A true fin Q (xs.zip ys) i s
 |_,_,_,_,i,fin,.nil,.nil,hf,h=>kat_nil (by rw[hf];exact h)
 |_,_,_,_,i,fin,.nil,.cons _ _ _,hf,h=>kat_nil (by rw[hf];exact h)
 |_,_,_,_,i,fin,.cons _ _ _,.nil,hf,h=>kat_nil (by rw[hf];exact h)
 |_,_,_,_,i,fin,.cons a t r,.cons b u q,hf,h=>by
  refine kat_cons (wpAny_eqBool_int ?_)
  rw[fV] at h
  by_cases e:a=b
  ·rw[if_pos e] at h
   rw[show(a == b)=true by simp[e]]
   refine kat_yes (aG2 r q ?_ h)
   rw[hf,List.length_cons,List.length_cons]
   congr 1
   apply propext
   constructor <;> intro z <;> omega
  ·rw[if_neg e] at h
   rw[show(a == b)=false by simp[e]]
   refine kat_no ?_
   cases i with
   |zero=>exact oneLt_int h
   |succ i=>
    rw[show(true && (i+1 == 0))=false by simp]
    exact kat_one _ _ (PyProof.Rows.lt_int h)
theorem aLg{vs:List Value}{ts:List (List Int)}(r:yC s.heap vs ts):Ans (O:=aJJ) (fun i=>ts.getD i []) vs.length (kas_ask prog w A (tuples' true) vs) s:=fun i j C hi hj h=>by
 obtain⟨x,ox,xs,n,e1,g1,d1,i1⟩:=r.at_ hi
 obtain⟨y,oy,ys,k,e2,g2,d2,i2⟩:=r.at_ hj
 unfold kas_ask
 rw[e1,e2]
 refine kat_lt g1 d1 g2 d2 (aG2 i1 i2 ?_ h)
 rw[<-i1.length,<-i2.length,Array.length_toList,Array.length_toList]
def aAi(vs:List Value)(p:Array Nat):Array Value:=List.toArray (p.toList.map fun i=>vs.getD i Value.none)
theorem aJK{a:Addr}{vs:List Value}{ts:List (List Int)}{n:Nat}{P:PySem.Fin->Shared->Prop}(ho:s.heap.get? a=some (seqObj "list" vs.toArray n))(hT:yC s.heap vs ts)(h64:vs.length < 64)
  (h:∀p,Row vs.length p->Up (O:=aJJ) (fun i=>ts.getD i []) p vs.length->P (.done (.ret .none)) { s with heap:=sortedHeap s.heap a vs (aAi vs p) }) :
  wpAny (model prog w) A (Builtin.«list.sort» ⟨[.ref a],[]⟩) P E s:=by
 rw[list_sort_plain]
 have la:=Heap.lt_size ho
 refine wpAny_bind (listItems_at ho rfl (wpAny_bind (listUpdate_at ho rfl ?_)))
 obtain⟨e1,g1⟩ : ∃e,(s.heap.update a (Obj.mapSeq fun _=>#[])).get? a=some (seqObj "list" #[] e):=⟨_,get?_update_seq ho fun _=>#[]⟩
 refine wpAny_bind (seqEpoch_at g1 rfl (wpAny_bind (wpAny_newTuple (wpAny_bind (wpAny_newList (wpAny_holding ?_))))))
 generalize hh6:((s.heap.update a (Obj.mapSeq fun _=>#[])).push (seqObj "tuple" vs.toArray 0)).push (seqObj "list" #[] 0)=h6
 have keep6:∀b o,b≠a->s.heap.get? b=some o->h6.get? b=some o:=fun b o nb e=>by
  have lb:=Heap.lt_size e
  rw[<-hh6,Heap.get?_push_ne _ _ _ (Nat.ne_of_lt (by rw[size_push',Heap.size_update];exact Nat.lt_succ_of_lt lb)),Heap.get?_push_ne _ _ _ (Nat.ne_of_lt (by rw[Heap.size_update];exact lb)),Heap.get?_update_ne _ _ _ _ nb]
  exact e
 have g6:h6.get? a=some (seqObj "list" #[] e1):=by
  rw[<-hh6,Heap.get?_push_ne _ _ _ (Nat.ne_of_lt (by rw[size_push',Heap.size_update];exact Nat.lt_succ_of_lt la)),Heap.get?_push_ne _ _ _ (Nat.ne_of_lt (by rw[Heap.size_update];exact la))]
  exact g1
 have fin:∀p,Row vs.length p->Up (O:=aJJ) (fun i=>ts.getD i []) p vs.length->P (.done (.ret .none)) { s with heap:=h6.update a (Obj.mapSeq fun _=>aAi vs p) }:=fun p r u=>by
  rw[<-hh6]
  exact h p r u
 have T6:yC h6 vs ts:=hT.keeps fun b o c e=>keep6 b o (fun z=>by rw[z,ho] at e;cases e;exact absurd c (show ¬Value.type "list" = Value.type "tuple" by decide)) e
 show wpAny (model prog w) A _ P E { s with heap:=h6 }
 have hvz:vs.toArray.size=vs.length:=List.size_toArray
 dsimp only
 by_cases small:vs.toArray.size < 2
 ·rw[if_pos small,if_pos small]
  refine wpAny_bind (wpAny_pure ?_)
  rw[StateT.run_pure]
  refine wpAny_bind (wpAny_pure ?_)
  have ev:((vs.toArray.zip vs.toArray).map fun x=>x.2)=aAi vs (List.toArray (List.range vs.length)):=by
   unfold aAi
   match vs,hvz,small with
   |[],_,_=>simp
   |[v],_,_=>simp
   |_::_::_,_,z=>simp at z;omega
  refine wpAny_bind (seqEpoch_at g6 rfl (wpAny_bind (listUpdate_at g6 rfl ?_ (hsz2:=?_))))
  ·simp only[bne_self_eq_false,Bool.false_eq_true,if_false]
   refine wpAny_pure ?_
   show P (.done (.ret .none)) { s with heap:=h6.update a (Obj.mapSeq fun _=>(vs.toArray.zip vs.toArray).map fun x=>x.2) }
   rw[ev]
   exact fin _ (Array.Perm.refl _) fun i j x y=>by
    have z:i=j:=by omega
    subst z
    exact KeyOrd.kle_refl _
  ·show((vs.toArray.zip vs.toArray).map fun x=>x.2).size<=_
   rw[ev,aAi,List.size_toArray,List.length_map,sizeLine_eq]
   simp
   omega
 ·rw[if_neg small,if_neg small]
  obtain⟨fs,f1,f2,f3⟩:=T6.aOD
  refine wpAny_bind (kat_kind (s:={ s with heap:=h6 }) (T:=.type "int") f1 (by omega) (fun v hv=>?_) rfl ?_)
  ·obtain⟨m,u,rfl⟩:=f3 v hv
   exact Looks.now
  rw[show(Value.type "int" != Value.type "tuple")=true by decide]
  refine wpAny_bind (wpAny_mono (kat_run (ks:=vs) (vs:=vs) (prog:=prog) (w:=w) (A:=A) (E:=E) (s:={ s with heap:=h6 }) (Q:=fun st' s'=>s'={ s with heap:=h6 }/\∃p,p.size=vs.length/\arrOf st'=p.map (kas_item (vs.toArray.zip vs.toArray))/\failedOf st'=none/\Row vs.length p/\Up (O:=aJJ) (fun i=>ts.getD i []) p vs.length)
   (G:=fun p s'=>s'={ s with heap:=h6 }/\Row vs.length p/\Up (O:=aJJ) (fun i=>ts.getD i []) p vs.length) rfl (by omega) h64 (fun p st' s' hz har hf hG=>⟨hG.1,p,hz,har,hf,hG.2.1,hG.2.2⟩) (aMP (aLg (s:={ s with heap:=h6 }) T6) (by omega) fun p r u=>⟨rfl,r,u⟩)) ?_ fun _ _ e=>e)
  rintro ⟨_,st'⟩ s' ⟨rfl,p,hz,har,hf,hr,hu⟩
  dsimp only at har hf ⊢
  have eo:=kat_snds (ks:=vs) (vs:=vs) rfl har
  refine wpAny_bind (seqEpoch_at g6 rfl (wpAny_bind (listUpdate_at g6 rfl ?_ (hsz2:=?_))))
  ·rw[hf]
   simp only[bne_self_eq_false,Bool.false_eq_true,if_false]
   refine wpAny_pure ?_
   show P (.done (.ret .none)) { s with heap:=h6.update a (Obj.mapSeq fun _=>(arrOf st').map (·.2)) }
   rw[eo]
   exact fin p hr hu
  ·show((arrOf st').map (·.2)).size<=_
   rw[eo,List.size_toArray,List.length_map,Array.length_toList,hz,sizeLine_eq]
   omega
end
end L2
namespace L2
open PySem PySem.Spec PySem.W PyProof.Rows
theorem range_getD{α:Type}(d:α)(l:List α):(List.range l.length).map (fun i=>l.getD i d)=l:=by
 apply List.ext_getElem
 ·simp
 ·intro i h1 h2
  simp[List.getD_eq_getElem?_getD,List.getElem?_eq_getElem h2]
theorem aC5:∀(qs:List Addr),Vals (qs.map V.ref) (qs.map Value.ref)
 |[]=>.nil
 |q::qs=>.cons rfl (aC5 qs)
structure o7(H:Hp)(qs:List Addr)(ts:List (List Int)):Prop where
 len:qs.length=ts.length
 at_:∀(j:Nat) q t,qs[j]?=some q->ts[j]?=some t->H q=some (.tup (t.map V.int))/\t≠[]
theorem o7.tail{H:Hp}{q:Addr}{t:List Int}{qs:List Addr}{ts:List (List Int)}(h:o7 H (q::qs) (t::ts)):o7 H qs ts:=⟨by have:=h.len;simpa using this,fun j a b x y=>h.at_ (j+1) a b x y⟩
theorem o7.vL{X:Cx}{P9:List (Addr×Obj)}{σ:St}{H:Hp}{s:Shared}(I:Inv X P9 σ H s):∀{qs:List Addr}{ts:List (List Int)},o7 H qs ts->yC s.heap (qs.map Value.ref) ts
 |[],[],_=>.nil
 |[],_::_,h=>by have:=h.len;simp at this
 |_::_,[],h=>by have:=h.len;simp at this
 |q::qs,t::ts,h=>by
  obtain⟨e,ne⟩:=h.at_ 0 q t rfl rfl
  obtain⟨_,its,r,o,g1,g2,n,g3⟩:=(show bO X.prog X.w H s.heap q (.tup (t.map V.int)) from I.hok q _ e)
  exact .cons g1 g2 g3 (by simpa using aAh r) ne (o7.vL I h.tail)
section
variable{X:Cx}
end
end L2
namespace L2
open PySem PySem.Spec PyProof.Rows
section
variable{prog:Program}{w:World}{A:Around}{E:Value->Shared->Prop}{s:Shared}{es:Array DictEntry}{d it vw:Addr}{i ep:Nat}
def Raw(h:Heap)(d:Addr)(es:Array DictEntry)(ep:Nat):Prop:=∃o,h.get? d=some o/\o.cls=.type "dict"/\o.data=.dict es ep
theorem Raw.ty(m:Raw s.heap d es ep):s.TypeIs (.ref d) "dict":=let ⟨o,a,b,_⟩:=m;⟨o,a,b⟩
theorem Raw.keep{h h':Heap}(m:Raw h d es ep)(k:∀o,h.get? d=some o->h'.get? d=some o):Raw h' d es ep:=let ⟨o,a,r⟩:=m;⟨o,k o a,r⟩
theorem aJL(d:Addr)(lo:(d == sysModules)=false):MeetsIn prog w (Builtin.«dict.items» ⟨[.ref d],[]⟩) (fun _ R s=>s.TypeIs (.ref d) "dict"/\
  R (.ok (.ret (.ref s.heap.objs.size))) { s with heap:=s.heap.push { cls:=.type "dict_items",data:=.fields #[.ref d] } }):=
 .of_wp fun A R s ⟨ty,h⟩=>by
  unfold Builtin.«dict.items»;with_reducible refine wpAny_bind ?_;unfold Builtin.Dict.noArgs
  refine wpAny_bind (wpAny_notOrdered_dict ty (show wpAny _ _ (pure d) _ _ s from wpAny_pure ?_))
  show wpAny _ _ (Builtin.Dict.showsAll d >>= _) _ _ s;unfold Builtin.Dict.showsAll
  rw[if_neg (fun z=>Bool.false_ne_true (lo.symm.trans z))];refine wpAny_bind (wpAny_pure ?_)
  exact wpAny_bind (wpAny_newObj_type (wpAny_pure (show _ from⟨_,rfl,h⟩)))
theorem aH3(d:Addr)(lo:(d == sysModules)=false):MeetsIn prog w (Builtin.«dict.values» ⟨[.ref d],[]⟩) (fun _ R s=>s.TypeIs (.ref d) "dict"/\
  R (.ok (.ret (.ref s.heap.objs.size))) { s with heap:=s.heap.push { cls:=.type "dict_values",data:=.fields #[.ref d] } }):=
 .of_wp fun A R s ⟨ty,h⟩=>by
  refine wpAny_bind (show _ from ?_);unfold Builtin.Dict.noArgs
  refine wpAny_bind (wpAny_notOrdered_dict ty (show wpAny _ _ (pure d) _ _ s from wpAny_pure ?_))
  show wpAny _ _ (Builtin.Dict.showsAll d >>= _) _ _ s;unfold Builtin.Dict.showsAll
  rw[if_neg (fun z=>Bool.false_ne_true (lo.symm.trans z))];refine wpAny_bind (wpAny_pure ?_)
  exact wpAny_bind (wpAny_newObj_type (wpAny_pure (show _ from⟨_,rfl,h⟩)))
theorem aDZ{Q:Value->Shared->Prop}(hv:s.heap.IsItemsView vw d)(hm:Raw s.heap d es ep)
  (hQ:Q (.ref s.heap.objs.size) { s with heap:=s.heap.push { cls:=.type "dict_itemiterator",data:=.fields #[.none,.bool false,.ref d,.int 0 0,.int es.size 0,.int ep 0,.none,.none] } }) :
  wpAny (model prog w) A (pyIter (.ref vw)) Q E s:=by
 obtain⟨ov,a1,a2,a3⟩:=id hv;obtain⟨o,b1,b2,b3⟩:=id hm
 refine wpAny_pyIter_slot hv.typeIs F.slot_dict_items_iter (wpAny_call_entry F.slot_dict_items_iter hv.typeIs F.entry_dict_items_iter (show _ from ?_) (F.args_dict_items_iter_1 _))
 unfold Builtin.«dict_items.__iter__»;refine wpAny_bind (wpAny_pure ?_);with_reducible refine wpAny_bind ?_
 unfold Builtin.Dict_items.dictOf;refine wpAny_bind (wpAny_field a1 a3 (x:=.ref d) rfl (wpAny_pure ?_));with_reducible refine wpAny_bind ?_
 unfold Builtin.Dict_items.newIterator;refine wpAny_bind (wpAny_dictEntries b1 b3 (wpAny_bind (wpAny_dictEpoch b1 b3 ?_)))
 have own:Builtin.Dict_items.ownsTuple "dict_itemiterator" = true:=rfl
 simp only[own,if_true]
 refine wpAny_newObj_type (wpAny_pure ⟨_,rfl,"dict_itemiterator",_,⟨_,Heap.get?_push_size _ rfl,rfl⟩,F.slot_dict_itemiterator_next.lookup,(show _ from ?_)⟩)
  (by simp only[sizeOk,Builtin.Dict_items.ownedTupleFields,List.size_toArray,List.length_append,List.length_cons,List.length_nil,sizeLine_eq];decide)
 simpa [Builtin.Dict_items.ownedTupleFields,rawInt] using hQ
theorem aC6{Q:Value->Shared->Prop}(hv:s.heap.IsValuesView vw d)(hm:Raw s.heap d es ep)
  (hQ:Q (.ref s.heap.objs.size) { s with heap:=s.heap.push { cls:=.type "dict_valueiterator",data:=.fields #[.ref d,.int 0 0,.int es.size 0,.int ep 0] } }) :
  wpAny (model prog w) A (pyIter (.ref vw)) Q E s:=by
 obtain⟨ov,a1,a2,a3⟩:=id hv;obtain⟨o,b1,b2,b3⟩:=id hm
 refine wpAny_pyIter_slot hv.typeIs F.slot_dict_values_iter (wpAny_call_entry F.slot_dict_values_iter hv.typeIs F.entry_dict_values_iter (show _ from ?_) (F.args_dict_values_iter_1 _))
 unfold Builtin.«dict_values.__iter__»;refine wpAny_bind (wpAny_pure ?_);with_reducible refine wpAny_bind ?_
 unfold Builtin.Dict_items.dictOf;refine wpAny_bind (wpAny_field a1 a3 (x:=.ref d) rfl (wpAny_pure ?_));with_reducible refine wpAny_bind ?_
 unfold Builtin.Dict_items.newIterator;refine wpAny_bind (wpAny_dictEntries b1 b3 (wpAny_bind (wpAny_dictEpoch b1 b3 ?_)))
 have own:Builtin.Dict_items.ownsTuple "dict_valueiterator" = false:=rfl
 simp only[own,Bool.false_eq_true,if_false]
 refine wpAny_newObj_type (wpAny_pure ⟨_,rfl,"dict_valueiterator",_,⟨_,Heap.get?_push_size _ rfl,rfl⟩,F.slot_dict_valueiterator_next.lookup,(show _ from ?_)⟩)
 simpa [rawInt] using hQ
theorem aAj{Q:Value->Shared->Prop}(lo:(d == sysModules)=false)(hm:Raw s.heap d es ep)
  (hQ:Q (.ref s.heap.objs.size) { s with heap:=s.heap.push { cls:=.type "dict_keyiterator",data:=.fields #[.ref d,.int 0 0,.int es.size 0,.int ep 0] } }) :
  wpAny (model prog w) A (pyIter (.ref d)) Q E s:=by
 obtain⟨o,b1,b2,b3⟩:=id hm
 refine wpAny_pyIter_slot hm.ty F.slot_dict_iter (wpAny_call_entry F.slot_dict_iter hm.ty F.entry_dict_iter (show _ from ?_) (F.args_dict_iter_1 _))
 unfold Builtin.«dict.__iter__»;with_reducible refine wpAny_bind ?_;unfold Builtin.Dict.dictSlotNone
 refine wpAny_bind (wpAny_notOrdered_dict hm.ty (show wpAny _ _ (pure (Value.ref d)) _ _ s from wpAny_pure ?_))
 show wpAny _ _ (Builtin.Dict.showsAll d >>= _) _ _ s;unfold Builtin.Dict.showsAll
 rw[if_neg (fun z=>Bool.false_ne_true (lo.symm.trans z))];refine wpAny_bind (wpAny_pure ?_)
 refine wpAny_bind (wpAny_dictEntries b1 b3 (wpAny_bind (wpAny_dictEpoch b1 b3 ?_)))
 refine wpAny_bind (wpAny_newObj_type (wpAny_pure ⟨_,rfl,"dict_keyiterator",_,⟨_,Heap.get?_push_size _ rfl,rfl⟩,F.slot_dict_keyiterator_next.lookup,(show _ from ?_)⟩))
 simpa [rawInt] using hQ
def It4(T:String)(h:Heap)(it d:Addr)(i n ep:Nat):Prop:=∃o,h.get? it=some o/\o.cls=.type T/\o.data=.fields #[.ref d,.int i 0,.int n 0,.int ep 0]
theorem It4.ty{T:String}{n:Nat}(x:It4 T s.heap it d i n ep):s.TypeIs (.ref it) T:=let ⟨o,a,b,_⟩:=x;⟨o,a,b⟩
theorem It4.keep{T:String}{n:Nat}{h h':Heap}(m:It4 T h it d i n ep)(k:∀o,h.get? it=some o->h'.get? it=some o):It4 T h' it d i n ep:=let ⟨o,a,r⟩:=m;⟨o,k o a,r⟩
theorem It4.turn{T:String}{n:Nat}{h:Heap}{o:Obj}(a:h.get? it=some o)(b:o.cls=.type T)(c:o.data=.fields #[.ref d,.int i 0,.int n 0,.int ep 0]) :
  It4 T (h.update it (Obj.mapFields (·.setIfInBounds 1 (rawInt ((i:Int)+1))))) it d (i+1) n ep:=
 ⟨_,Heap.get?_update_self _ a (Obj.isFreed_of_fields (Obj.data_mapFields c _)),(Obj.cls_mapFields ..).trans b,by rw[Obj.data_mapFields c];simp[rawInt]⟩
theorem aD0{Q:Option Value->Shared->Prop}{e:DictEntry}(hit:It4 "dict_valueiterator" s.heap it d i es.size ep)(hm:Raw s.heap d es ep)(hx:es[i]?=some e)
  (hQ:∀h',It4 "dict_valueiterator" h' it d (i+1) es.size ep->Heap.SameBut it s.heap h'->Q (some e.val) { s with heap:=h' }):wpAny (model prog w) A (pyNext (.ref it)) Q E s:=by
 obtain⟨o,a1,a2,a3⟩:=id hit;obtain⟨od,b1,b2,b3⟩:=id hm;have ty:=hit.ty
 unfold pyNext;refine wpAny_bind (wpAny_attempt (wpAny_callSpecial?_slot (name:=Str.ofString "__next__") ty F.slot_dict_valueiterator_next
  (wpAny_call_entry F.slot_dict_valueiterator_next ty F.entry_dict_valueiterator_next (show _ from ?_) (F.args_dict_valueiterator_next_1 _))))
 refine wpAny_bind (wpAny_pure ?_);refine wpAny_bind (show _ from ?_);refine wpAny_bind (show _ from ?_)
 first|refine wpAny_bind (wpAny_typeNameOfWhole_valiter ty (show _ from wpAny_pure ?_))|refine wpAny_bind (wpAny_typeNameOf_valiter ty (show _ from wpAny_pure ?_))
 refine wpAny_bind (wpAny_fieldsOf a1 a3 (show _ from ?_));have own:Builtin.Dict_items.ownsTuple "dict_valueiterator" = false:=rfl
 simp only[own,if_false,Bool.false_eq_true];show wpAny _ _ (if (Value.ref d == Value.none)=true then _ else _) _ _ s
 rw[if_neg (show ¬((Value.ref d == Value.none)=true) from fun z=>nomatch z)];refine wpAny_bind (wpAny_pure ?_)
 refine wpAny_bind (wpAny_dictEntries b1 b3 (show _ from ?_));rw[if_neg (show _ from by simp)];refine wpAny_bind (wpAny_pure ?_)
 refine wpAny_bind (wpAny_dictEpoch b1 b3 (show _ from ?_));rw[if_neg (show _ from by simp)];refine wpAny_pure (show _ from ?_)
 have il:i < es.size:=(Array.getElem?_eq_some_iff.mp hx).1
 have ee:es[i]=e:=(Array.getElem?_eq_some_iff.mp hx).2
 simp only[show ¬((i:Int) < 0) by omega,if_false,Int.toNat_natCast,hx]
 refine wpAny_bind (show _ from ?_)
 first|refine wpAny_bind (wpAny_typeNameOfWhole_valiter ty (show _ from wpAny_pure ?_))|refine wpAny_bind (wpAny_typeNameOf_valiter ty (show _ from wpAny_pure ?_))
 refine wpAny_bind (wpAny_isOneOf_valiter ty (show _ from ?_));show wpAny _ _ (setField (.ref it) 1 (rawInt ((i:Int)+1)) >>= _) _ _ s
 refine wpAny_bind (wpAny_setField a1 a3 (show _ by simp) (show _ from ?_));have t2:=It4.turn a1 a2 a3
 refine wpAny_bind (wpAny_holding (show _ from ?_))
 refine wpAny_bind (wpAny_isOneOf_valiter (s:={ s with heap:=s.heap.update it (Obj.mapFields (·.setIfInBounds 1 (rawInt ((i:Int)+1)))) }) t2.ty (show _ from ?_))
 refine wpAny_bind (wpAny_isOneOf_valiter (s:={ s with heap:=s.heap.update it (Obj.mapFields (·.setIfInBounds 1 (rawInt ((i:Int)+1)))) }) t2.ty (show _ from ?_))
 exact wpAny_pure (wpAny_pure ⟨_,rfl,wpAny_pure (hQ _ t2 (Heap.SameBut.update ..))⟩)
theorem aBN{Q:Option Value->Shared->Prop}{e:DictEntry}(hit:It4 "dict_keyiterator" s.heap it d i es.size ep)(hm:Raw s.heap d es ep)(hx:es[i]?=some e)
  (hQ:∀h',It4 "dict_keyiterator" h' it d (i+1) es.size ep->Heap.SameBut it s.heap h'->Q (some e.key) { s with heap:=h' }):wpAny (model prog w) A (pyNext (.ref it)) Q E s:=by
 obtain⟨o,a1,a2,a3⟩:=id hit;obtain⟨od,b1,b2,b3⟩:=id hm;have ty:=hit.ty
 unfold pyNext;refine wpAny_bind (wpAny_attempt (wpAny_callSpecial?_slot (name:=Str.ofString "__next__") ty F.slot_dict_keyiterator_next
  (wpAny_call_entry F.slot_dict_keyiterator_next ty F.entry_dict_keyiterator_next (show _ from ?_) (F.args_dict_keyiterator_next_1 _))))
 refine wpAny_bind (wpAny_pure ?_);refine wpAny_bind (show _ from ?_);refine wpAny_bind (show _ from ?_)
 first|refine wpAny_bind (wpAny_typeNameOfWhole_keyiter ty (show _ from wpAny_pure ?_))|refine wpAny_bind (wpAny_typeNameOf_keyiter ty (show _ from wpAny_pure ?_))
 refine wpAny_bind (wpAny_fieldsOf a1 a3 (show _ from ?_));have own:Builtin.Dict_items.ownsTuple "dict_keyiterator" = false:=rfl
 simp only[own,if_false,Bool.false_eq_true];show wpAny _ _ (if (Value.ref d == Value.none)=true then _ else _) _ _ s
 rw[if_neg (show ¬((Value.ref d == Value.none)=true) from fun z=>nomatch z)];refine wpAny_bind (wpAny_pure ?_)
 refine wpAny_bind (wpAny_dictEntries b1 b3 (show _ from ?_));rw[if_neg (show _ from by simp)];refine wpAny_bind (wpAny_pure ?_)
 refine wpAny_bind (wpAny_dictEpoch b1 b3 (show _ from ?_));rw[if_neg (show _ from by simp)];refine wpAny_pure (show _ from ?_)
 have il:i < es.size:=(Array.getElem?_eq_some_iff.mp hx).1
 have ee:es[i]=e:=(Array.getElem?_eq_some_iff.mp hx).2
 simp only[show ¬((i:Int) < 0) by omega,if_false,Int.toNat_natCast,hx]
 refine wpAny_bind (show _ from ?_)
 first|refine wpAny_bind (wpAny_typeNameOfWhole_keyiter ty (show _ from wpAny_pure ?_))|refine wpAny_bind (wpAny_typeNameOf_keyiter ty (show _ from wpAny_pure ?_))
 refine wpAny_bind (wpAny_isOneOf_keyiter ty (show _ from ?_));show wpAny _ _ (setField (.ref it) 1 (rawInt ((i:Int)+1)) >>= _) _ _ s
 refine wpAny_bind (wpAny_setField a1 a3 (show _ by simp) (show _ from ?_));have t2:=It4.turn a1 a2 a3
 refine wpAny_bind (wpAny_holding (show _ from ?_))
 refine wpAny_bind (wpAny_isOneOf_keyiter (s:={ s with heap:=s.heap.update it (Obj.mapFields (·.setIfInBounds 1 (rawInt ((i:Int)+1)))) }) t2.ty (show _ from ?_))
 exact wpAny_pure (wpAny_pure ⟨_,rfl,wpAny_pure (hQ _ t2 (Heap.SameBut.update ..))⟩)
theorem aFE{Q:Option Value->Shared->Prop}(hh:A.handled=none)(hit:It4 "dict_valueiterator" s.heap it d i es.size ep)(hm:Raw s.heap d es ep)(hx:es.size<=i)
  (hQ:∀h',Heap.ExtBut it s.heap h'->Q none { s with heap:=h' }):wpAny (model prog w) A (pyNext (.ref it)) Q E s:=by
 obtain⟨o,a1,a2,a3⟩:=id hit;obtain⟨od,b1,b2,b3⟩:=id hm;have ty:=hit.ty
 unfold pyNext;refine wpAny_bind (wpAny_attempt (wpAny_callSpecial?_slot (name:=Str.ofString "__next__") ty F.slot_dict_valueiterator_next
  (wpAny_call_entry F.slot_dict_valueiterator_next ty F.entry_dict_valueiterator_next (show _ from ?_) (F.args_dict_valueiterator_next_1 _))))
 refine wpAny_bind (wpAny_pure ?_);refine wpAny_bind (show _ from ?_);refine wpAny_bind (show _ from ?_)
 first|refine wpAny_bind (wpAny_typeNameOfWhole_valiter ty (show _ from wpAny_pure ?_))|refine wpAny_bind (wpAny_typeNameOf_valiter ty (show _ from wpAny_pure ?_))
 refine wpAny_bind (wpAny_fieldsOf a1 a3 (show _ from ?_));have own:Builtin.Dict_items.ownsTuple "dict_valueiterator" = false:=rfl
 simp only[own,if_false,Bool.false_eq_true];show wpAny _ _ (if (Value.ref d == Value.none)=true then _ else _) _ _ s
 rw[if_neg (show ¬((Value.ref d == Value.none)=true) from fun z=>nomatch z)];refine wpAny_bind (wpAny_pure ?_)
 refine wpAny_bind (wpAny_dictEntries b1 b3 (show _ from ?_));rw[if_neg (show _ from by simp)];refine wpAny_bind (wpAny_pure ?_)
 refine wpAny_bind (wpAny_dictEpoch b1 b3 (show _ from ?_));rw[if_neg (show _ from by simp)];refine wpAny_pure (show _ from ?_)
 simp only[show ¬((i:Int) < 0) by omega,if_false,Int.toNat_natCast,Array.getElem?_eq_none hx]
 refine wpAny_bind (show _ from ?_)
 first|refine wpAny_bind (wpAny_typeNameOfWhole_valiter ty (show _ from wpAny_pure ?_))|refine wpAny_bind (wpAny_typeNameOf_valiter ty (show _ from wpAny_pure ?_))
 show wpAny _ _ (setField (.ref it) 0 Value.none >>= _) _ _ s
 refine wpAny_bind (wpAny_setField a1 a3 (show _ by simp) (show _ from ?_));show wpAny _ _ (newExc (.type "StopIteration") [] >>= _) _ _ _
 refine wpAny_bind (show _ from ?_);simp only[newExc,newTuple];refine wpAny_bind (wpAny_newObj_type (show _ from ?_) (by size_fits))
 refine wpAny_bind (m:=firstArgMember _ _) (wpAny_of_eq (a:=Value.none) (show _ by first|rfl|(simp only[firstArgMember];rfl)) (show _ from ?_))
 refine wpAny_newObj_type (show _ from ?_) (by size_fits);simp only[raiseNew]
 refine wpAny_bind (wpAny_handled (show _ from ?_));rw[show A.in1.handled=none from hh];refine wpAny_bind (wpAny_pure (wpAny_throw ?_))
 refine wpAny_bind (wpAny_isInstance (T:="StopIteration") (b:=true) ⟨_,Heap.get?_push_size _ rfl,rfl⟩ isSubtype_stop (show _ from ?_))
 exact wpAny_pure (hQ _ (show _ from((Heap.SameBut.update ..).extBut.push _).push _))
theorem aC7{Q:Option Value->Shared->Prop}(hh:A.handled=none)(hit:It4 "dict_keyiterator" s.heap it d i es.size ep)(hm:Raw s.heap d es ep)(hx:es.size<=i)
  (hQ:∀h',Heap.ExtBut it s.heap h'->Q none { s with heap:=h' }):wpAny (model prog w) A (pyNext (.ref it)) Q E s:=by
 obtain⟨o,a1,a2,a3⟩:=id hit;obtain⟨od,b1,b2,b3⟩:=id hm;have ty:=hit.ty
 unfold pyNext;refine wpAny_bind (wpAny_attempt (wpAny_callSpecial?_slot (name:=Str.ofString "__next__") ty F.slot_dict_keyiterator_next
  (wpAny_call_entry F.slot_dict_keyiterator_next ty F.entry_dict_keyiterator_next (show _ from ?_) (F.args_dict_keyiterator_next_1 _))))
 refine wpAny_bind (wpAny_pure ?_);refine wpAny_bind (show _ from ?_);refine wpAny_bind (show _ from ?_)
 first|refine wpAny_bind (wpAny_typeNameOfWhole_keyiter ty (show _ from wpAny_pure ?_))|refine wpAny_bind (wpAny_typeNameOf_keyiter ty (show _ from wpAny_pure ?_))
 refine wpAny_bind (wpAny_fieldsOf a1 a3 (show _ from ?_));have own:Builtin.Dict_items.ownsTuple "dict_keyiterator" = false:=rfl
 simp only[own,if_false,Bool.false_eq_true];show wpAny _ _ (if (Value.ref d == Value.none)=true then _ else _) _ _ s
 rw[if_neg (show ¬((Value.ref d == Value.none)=true) from fun z=>nomatch z)];refine wpAny_bind (wpAny_pure ?_)
 refine wpAny_bind (wpAny_dictEntries b1 b3 (show _ from ?_));rw[if_neg (show _ from by simp)];refine wpAny_bind (wpAny_pure ?_)
 refine wpAny_bind (wpAny_dictEpoch b1 b3 (show _ from ?_));rw[if_neg (show _ from by simp)];refine wpAny_pure (show _ from ?_)
 simp only[show ¬((i:Int) < 0) by omega,if_false,Int.toNat_natCast,Array.getElem?_eq_none hx]
 refine wpAny_bind (show _ from ?_)
 first|refine wpAny_bind (wpAny_typeNameOfWhole_keyiter ty (show _ from wpAny_pure ?_))|refine wpAny_bind (wpAny_typeNameOf_keyiter ty (show _ from wpAny_pure ?_))
 show wpAny _ _ (setField (.ref it) 0 Value.none >>= _) _ _ s
 refine wpAny_bind (wpAny_setField a1 a3 (show _ by simp) (show _ from ?_));show wpAny _ _ (newExc (.type "StopIteration") [] >>= _) _ _ _
 refine wpAny_bind (show _ from ?_);simp only[newExc,newTuple];refine wpAny_bind (wpAny_newObj_type (show _ from ?_) (by size_fits))
 refine wpAny_bind (m:=firstArgMember _ _) (wpAny_of_eq (a:=Value.none) (show _ by first|rfl|(simp only[firstArgMember];rfl)) (show _ from ?_))
 refine wpAny_newObj_type (show _ from ?_) (by size_fits);simp only[raiseNew]
 refine wpAny_bind (wpAny_handled (show _ from ?_));rw[show A.in1.handled=none from hh];refine wpAny_bind (wpAny_pure (wpAny_throw ?_))
 refine wpAny_bind (wpAny_isInstance (T:="StopIteration") (b:=true) ⟨_,Heap.get?_push_size _ rfl,rfl⟩ isSubtype_stop (show _ from ?_))
 exact wpAny_pure (hQ _ (show _ from((Heap.SameBut.update ..).extBut.push _).push _))
theorem aFF{ok ov:Value}{Q:Option Value->Shared->Prop}{e:DictEntry}(hit:IsItemIter s.heap it d i es.size ep ok ov)(hm:Raw s.heap d es ep)(hx:es[i]?=some e)
  (hQ:∀h',IsItemIterOut h' it d (i+1) es.size ep e.key e.val s.heap.objs.size->h'.get? s.heap.objs.size=some { cls:=.type "tuple",data:=.seq #[e.key,e.val] }->
   h'.objs.size=s.heap.objs.size+1->(∀b o,b≠it->s.heap.get? b=some o->h'.get? b=some o)->Q (some (.ref s.heap.objs.size)) { s with heap:=h' }) :
  wpAny (model prog w) A (pyNext (.ref it)) Q E s:=by
 obtain⟨hp,g,dr,tk,os⟩:=s;obtain⟨od,b1,b2,b3⟩:=id hm
 have ty:Shared.TypeIs ⟨hp,g,dr,tk,os⟩ (.ref it) "dict_itemiterator":=⟨_,hit,rfl⟩
 unfold pyNext;refine wpAny_bind (wpAny_attempt (wpAny_callSpecial?_slot (name:=Str.ofString "__next__") ty F.slot_dict_itemiterator_next
  (wpAny_call_entry F.slot_dict_itemiterator_next ty F.entry_dict_itemiterator_next (show _ from ?_) (F.args_dict_itemiterator_next_1 _))))
 refine wpAny_bind (wpAny_pure ?_);refine wpAny_bind (show _ from ?_);refine wpAny_bind (show _ from ?_)
 first|refine wpAny_bind (wpAny_typeNameOfWhole_itemiter ty (show _ from wpAny_pure ?_))|refine wpAny_bind (wpAny_typeNameOf_itemiter ty (show _ from wpAny_pure ?_))
 refine wpAny_bind (wpAny_fieldsOf hit rfl (show _ from ?_));have own:Builtin.Dict_items.ownsTuple "dict_itemiterator" = true:=rfl
 simp only[own,if_true];show wpAny _ _ (if (Value.ref d == Value.none)=true then _ else _) _ _ _
 rw[if_neg (show ¬((Value.ref d == Value.none)=true) from fun z=>nomatch z)];refine wpAny_bind (wpAny_pure ?_)
 refine wpAny_bind (wpAny_dictEntries b1 b3 (show _ from ?_));rw[if_neg (show _ from by simp)];refine wpAny_bind (wpAny_pure ?_)
 refine wpAny_bind (wpAny_dictEpoch b1 b3 (show _ from ?_));rw[if_neg (show _ from by simp)];refine wpAny_pure (show _ from ?_)
 simp only[show ¬((i:Int) < 0) by omega,if_false,Int.toNat_natCast,hx]
 refine wpAny_bind (show _ from ?_)
 first|refine wpAny_bind (wpAny_typeNameOfWhole_itemiter ty (show _ from wpAny_pure ?_))|refine wpAny_bind (wpAny_typeNameOf_itemiter ty (show _ from wpAny_pure ?_))
 refine wpAny_bind (wpAny_isOneOf_itemiter ty (show _ from ?_));show wpAny _ _ (setField (.ref it) 3 (rawInt ((i:Int)+1)) >>= _) _ _ _
 refine wpAny_bind (wpAny_setField_rec hit (show _ by simp) fun j1 c1 d1=>(show _ from ?_))
 replace d1:Heap.SameBut it hp j1:=d1
 replace c1:IsItemIter j1 it d (i+1) es.size ep ok ov:=by
  unfold IsItemIter;rw[show((i+1:Nat):Int)=(i:Int)+1 by omega];simpa [rawInt] using c1
 have ty1:Shared.TypeIs ⟨j1,g,dr,tk,os⟩ (.ref it) "dict_itemiterator":=⟨_,c1,rfl⟩
 refine wpAny_bind (wpAny_holding (show _ from ?_));refine wpAny_bind (wpAny_isOneOf_itemiter ty1 (wpAny_bind (wpAny_isOneOf_itemiter ty1 (show _ from ?_))))
 show wpAny _ _ (Builtin.Dict_items.pairFromOwner (.ref it) 6 e.key e.val) _ _ ⟨j1,g,dr,tk,os⟩;unfold Builtin.Dict_items.pairFromOwner
 refine wpAny_bind (wpAny_newTuple (show _ from ?_))
 have c2:IsItemIter (j1.push { cls:=.type "tuple",data:=.seq #[e.key,e.val] }) it d (i+1) es.size ep ok ov:=Heap.get?_push_of_some _ c1
 generalize hj2:j1.push { cls:=.type "tuple",data:=.seq #[e.key,e.val] } = j2 at c2
 have z1:j1.objs.size=hp.objs.size:=d1.1
 have il:it < hp.objs.size:=Heap.lt_size hit
 have t2:j2.get? hp.objs.size=some { cls:=.type "tuple",data:=.seq #[e.key,e.val] }:=by rw[<-hj2,<-z1];exact Heap.get?_push_size _ rfl
 have z2:j2.objs.size=hp.objs.size+1:=by rw[<-hj2,Heap.size_push,z1]
 have k2:∀b o,b≠it->hp.get? b=some o->j2.get? b=some o:=fun b o hb q=>by rw[<-hj2];exact Heap.get?_push_of_some _ (d1.extBut b o hb q)
 show wpAny _ _ (Builtin.Dict_items.ownedTupleIsFree (.ref it) >>= _) _ _ ⟨j2,g,dr,tk,os⟩;rw[z1];clear hj2 c1 d1 ty1 z1 j1
 refine wpAny_bind (show _ from ?_);unfold Builtin.Dict_items.ownedTupleIsFree;refine wpAny_bind (wpAny_field c2 rfl (x:=.none) rfl (show _ from wpAny_pure ?_))
 simp only[if_true];refine wpAny_bind (wpAny_field c2 rfl (x:=ok) rfl (wpAny_bind (wpAny_field c2 rfl (x:=ov) rfl (show _ from ?_))))
 refine wpAny_bind (wpAny_setField_rec c2 (show _ by simp) fun j3 c3 d3=>(show _ from ?_))
 replace d3:Heap.SameBut it j2 j3:=d3;replace c3:IsItemIter j3 it d (i+1) es.size ep e.key ov:=c3
 refine wpAny_bind (wpAny_setField_rec c3 (show _ by simp) fun j4 c4 d4=>(show _ from ?_))
 replace d4:Heap.SameBut it j3 j4:=d4;replace c4:IsItemIter j4 it d (i+1) es.size ep e.key e.val:=c4
 refine wpAny_bind (wpAny_setField_rec c4 (show _ by simp) fun j5 c5 d5=>(show _ from ?_))
 replace d5:Heap.SameBut it j4 j5:=d5;replace c5:IsItemIterOut j5 it d (i+1) es.size ep e.key e.val hp.objs.size:=c5
 refine wpAny_bind (wpAny_setField_rec c5 (show _ by simp) fun j6 c6 d6=>(show _ from ?_))
 replace d6:Heap.SameBut it j5 j6:=d6;replace c6:IsItemIterOut j6 it d (i+1) es.size ep e.key e.val hp.objs.size:=c6
 have up:∀b o,b≠it->j2.get? b=some o->j6.get? b=some o:=fun b o hb q=>d6.extBut b o hb (d5.extBut b o hb (d4.extBut b o hb (d3.extBut b o hb q)))
 refine wpAny_bind (wpAny_letGo (wpAny_pure (wpAny_pure ⟨_,rfl,wpAny_pure (hQ j6 c6 (up _ _ (Nat.ne_of_gt il) t2) ?_ fun b o hb q=>up b o hb (k2 b o hb q))⟩)))
 show j6.objs.size=_;rw[d6.1,d5.1,d4.1,d3.1,z2]
theorem aG3{ok ov:Value}{Q:Option Value->Shared->Prop}(hh:A.handled=none)(hit:IsItemIter s.heap it d i es.size ep ok ov)(hm:Raw s.heap d es ep)(hx:es.size<=i)
  (hQ:∀h',Heap.ExtBut it s.heap h'->Q none { s with heap:=h' }):wpAny (model prog w) A (pyNext (.ref it)) Q E s:=by
 obtain⟨od,b1,b2,b3⟩:=id hm;have ty:s.TypeIs (.ref it) "dict_itemiterator":=⟨_,hit,rfl⟩
 unfold pyNext;refine wpAny_bind (wpAny_attempt (wpAny_callSpecial?_slot (name:=Str.ofString "__next__") ty F.slot_dict_itemiterator_next
  (wpAny_call_entry F.slot_dict_itemiterator_next ty F.entry_dict_itemiterator_next (show _ from ?_) (F.args_dict_itemiterator_next_1 _))))
 refine wpAny_bind (wpAny_pure ?_);refine wpAny_bind (show _ from ?_);refine wpAny_bind (show _ from ?_)
 first|refine wpAny_bind (wpAny_typeNameOfWhole_itemiter ty (show _ from wpAny_pure ?_))|refine wpAny_bind (wpAny_typeNameOf_itemiter ty (show _ from wpAny_pure ?_))
 refine wpAny_bind (wpAny_fieldsOf hit rfl (show _ from ?_));have own:Builtin.Dict_items.ownsTuple "dict_itemiterator" = true:=rfl
 simp only[own,if_true];show wpAny _ _ (if (Value.ref d == Value.none)=true then _ else _) _ _ _
 rw[if_neg (show ¬((Value.ref d == Value.none)=true) from fun z=>nomatch z)];refine wpAny_bind (wpAny_pure ?_)
 refine wpAny_bind (wpAny_dictEntries b1 b3 (show _ from ?_));rw[if_neg (show _ from by simp)];refine wpAny_bind (wpAny_pure ?_)
 refine wpAny_bind (wpAny_dictEpoch b1 b3 (show _ from ?_));rw[if_neg (show _ from by simp)];refine wpAny_pure (show _ from ?_)
 simp only[show ¬((i:Int) < 0) by omega,if_false,Int.toNat_natCast,Array.getElem?_eq_none hx]
 refine wpAny_bind (show _ from ?_)
 first|refine wpAny_bind (wpAny_typeNameOfWhole_itemiter ty (show _ from wpAny_pure ?_))|refine wpAny_bind (wpAny_typeNameOf_itemiter ty (show _ from wpAny_pure ?_))
 show wpAny _ _ (setField (.ref it) 2 Value.none >>= _) _ _ s
 refine wpAny_bind (wpAny_setField hit rfl (show _ by simp) (show _ from ?_));show wpAny _ _ (newExc (.type "StopIteration") [] >>= _) _ _ _
 refine wpAny_bind (show _ from ?_);simp only[newExc,newTuple];refine wpAny_bind (wpAny_newObj_type (show _ from ?_) (by size_fits))
 refine wpAny_bind (m:=firstArgMember _ _) (wpAny_of_eq (a:=Value.none) (show _ by first|rfl|(simp only[firstArgMember];rfl)) (show _ from ?_))
 refine wpAny_newObj_type (show _ from ?_) (by size_fits);simp only[raiseNew]
 refine wpAny_bind (wpAny_handled (show _ from ?_));rw[show A.in1.handled=none from hh];refine wpAny_bind (wpAny_pure (wpAny_throw ?_))
 refine wpAny_bind (wpAny_isInstance (T:="StopIteration") (b:=true) ⟨_,Heap.get?_push_size _ rfl,rfl⟩ isSubtype_stop (show _ from ?_))
 exact wpAny_pure (hQ _ (show _ from((Heap.SameBut.update ..).extBut.push _).push _))
end
end L2
namespace L2
open PySem PySem.Spec PyProof.Rows
section
variable{X:Cx}{P9:List (Addr×Obj)}{σ:St}{H:Hp}{s:Shared}
theorem Inv.aIO{d:Addr}{kvs:List (List Key×V)}{o:Obj}(I:Inv X P9 σ H s)(e:H d=some (.dT kvs))(ho:s.heap.get? d=some o):Inv X P9 σ (upd H d (.frz o (.dT kvs))) s:=by
 have nd:∀b u,H b=some u->u≠.dT kvs->b≠d:=fun b u q n z=>by rw[z,e] at q;exact n (Option.some.inj q).symm
 refine I.step (h':=s.heap) (g':=s.gens) (d':=s.drawn) (t':=s.toks) (ch:=[]) (fun _ z=>nomatch z) (fun b u _ _ _ q _=>q) (fun b u _ _ _ q _=>⟨u.slots,q⟩) (fun b u _ _ n=>?_)
  (fun b u _ q=>⟨u,q⟩) (fun b xs q=>?_) (fun b u v q=>?_) (fun b ps q=>⟨#[],?_⟩) (fun m hm=>hm) (fun b u q=>?_) I.bare
 ·rw[aR (fun z=>by rw[z,e] at n;cases n)];exact n
 ·rw[aR (nd _ _ q (fun z=>by cases z))];exact q
 ·rw[aR (nd _ _ q (fun z=>by cases z))];exact q
 ·rw[aR (nd _ _ q (fun z=>by cases z)),q];simp
 ·have st:∀c v,H c=some v->bO X.prog X.w H s.heap c v->bO X.prog X.w (upd H d (.frz o (.dT kvs))) s.heap c v:=fun c v _ z=>
   z.aB5 (fun _ _ _ z=>z) (fun c z=>by rw[aR (nd _ _ z (fun y=>by cases y))];exact z) fun c xs t z=>by rw[aR (nd _ _ z (fun y=>by subst y;exact t))];exact z
  by_cases hb:b=d
  ·subst hb;rw[aH] at q;cases q;exact⟨ho,st b _ e (I.hok b _ e)⟩
  ·rw[aR hb] at q
   exact st b u q (I.hok b u q)
end
theorem aBn{H:Hp}:∀{kvs:List (List Key×V)}{xs:List (List Key×Addr×Value)},KT H kvs xs->∀{i:Nat}{p:List Key×V},kvs[i]?=some p->∃q,xs[i]?=some q/\H q.2.1=some (.tup (p.1.map kV))/\RelV p.2 q.2.2
 |[],_,r,i,p,h=>by simp at h
 |a::as,_,r,i,p,h=>by
  cases r with
  |cons x t=>
   cases i with
   |zero=>cases h;exact⟨_,rfl,x.2⟩
   |succ i=>exact aBn t (i:=i) h
theorem zA{P:Program}{w:World}{H:Hp}{h:Heap}{d:Addr}{kvs:List (List Key×V)}(x:bO P w H h d (.dT kvs)):(d == sysModules)=false/\∃(o:Obj) (es:Array DictEntry) (ep:Nat) (xs:List (List Key×Addr×Value)),
  h.get? d=some o/\o.ExactDict/\o.data=.dict es ep/\KT H kvs xs/\es.toList=xs.map (entryOfKey (tupleKind (cZ P w)))/\es.size=kvs.length:=by
 obtain⟨z,y,xs,r,o,es,ep,h1,h2,h3,h4,h5⟩:=x
 refine⟨y,o,es,ep,xs,h1,h2,h3,r,h4,?_⟩
 rw[size_of_entries h4]
 exact(Paired.length r).symm
def Iti(d:Addr)(o:Obj)(kvs:List (List Key×V)):It:=
 ⟨fun i H=>H d=some (.frz o (.dT kvs))/\i < kvs.length,fun i H x H'=>∃T b kv,H T=none/\x=.ref T/\kvs[i]?=some kv/\H b=some (.tup (kv.1.map kV))/\H'=upd H T (.tup [.ref b,kv.2]),fun i H=>H d=some (.frz o (.dT kvs))/\kvs.length<=i⟩
theorem aB7:entryFor table "dict_itemiterator.__iter__" = some Builtin.«dict_keyiterator.__iter__»:=PySem.entryFor_alias (id':="dict_keyiterator.__iter__") (by kernel_rfl) rfl (by decide +kernel) (show _ by kernel_rfl)
theorem aH4{P:Program}{w:World}{K:PySem.W.Frag}{elts:List Expr}{x1:Nat}{tp:Pos}(d it:Addr)(o:Obj)(kvs:List (List Key×V))(es:Array DictEntry)(ep:Nat)(hc0:o.cls=.type "dict")(hd0:o.data=.dict es ep)(hn:es.size=kvs.length) :
  Turn P w K (.Tuple elts x1 tp) (Iti d o kvs) [it] it (fun i h=>∃ok ov,IsItemIter h it d i es.size ep ok ov) where
 mem:=by simp
 obj:=fun i h st b hb=>by
  obtain⟨ok,ov,he⟩:=st
  have z:b=it:=by simpa using hb
  subst z
  exact⟨_,he,fun v z=>by cases z⟩
 keep:=fun i h h' st k=>by
  obtain⟨ok,ov,he⟩:=st
  exact⟨ok,ov,k it (by simp) _ he⟩
 item:=by
  intro X hP hw hK hc i P9 s σ H E I hf st hg
  subst hP hw hK
  obtain⟨ok,ov,he⟩:=st
  obtain⟨hd,hi⟩:=hg
  have hO:bO X.prog X.w H s.heap d (.frz o (.dT kvs)):=I.hok d _ hd
  obtain⟨ho,hO⟩:=hO
  obtain⟨lo,o',es',ep',xs,g1,g2,g3,rel,g4,g5⟩:=zA hO
  have eo:o'=o:=Option.some.inj (g1.symm.trans ho)
  subst eo
  have ee:es'=es/\ep'=ep:=by rw[hd0] at g3;injection g3 with a b;exact⟨a.symm,b.symm⟩
  obtain⟨e1,e2⟩:=ee
  subst e1 e2
  have raw:Raw s.heap d es' ep':=⟨o',ho,hc0,hd0⟩
  have hx:kvs[i]?=some kvs[i]:=List.getElem?_eq_getElem hi
  obtain⟨q,hq,hb,rv⟩:=aBn rel hx
  have hex:es'[i]?=some (entryOfKey (tupleKind (cZ X.prog X.w)) q):=by rw[entry_at g4,hq];rfl
  have hilt:it < s.heap.objs.size:=Heap.lt_size he
  refine aFF he raw hex fun h1 h2' hT hsz hk=>?_
  refine⟨_,rfl,wpAny_letOwnedTupleGo_items h2' fun h2 he2 hs2=>?_⟩
  replace hs2:Heap.SameBut it h1 h2:=hs2
  have hT2:h2.IsTuple s.heap.objs.size #[.ref q.2.1,q.2.2]:=⟨_,(hs2.2 _ (Nat.ne_of_gt hilt)).trans hT,rfl,_,rfl⟩
  have kk:∀b o,b∉[it]->s.heap.get? b=some o->h2.get? b=some o:=fun b o hb q=>by
   have n1:b≠it:=fun z=>hb (by simp[z])
   exact(hs2.2 b n1).trans (hk b o n1 q)
  have I2:Inv X P9 σ (upd H s.heap.objs.size (.tup [.ref q.2.1,kvs[i].2])) { s with heap:=h2,toks:=s.toks }:=
   I.aBj kk hf (Nat.le_refl _) (show bO X.prog X.w _ h2 _ (.tup [.ref q.2.1,kvs[i].2]) from⟨cD (by simp),[.ref q.2.1,q.2.2],.cons rfl (.cons rv .nil),hT2⟩)
  have hfr:H s.heap.objs.size=none:=I.hok.fresh (Nat.le_refl _)
  refine⟨.ref s.heap.objs.size,_,I2,rfl,⟨_,q.2.1,kvs[i],hfr,rfl,hx,hb,rfl⟩,⟨_,_,he2⟩,fun b hb=>?_⟩
  have z:b=it:=by simpa using hb
  subst z
  rw[aR (Nat.ne_of_lt hilt)]
  exact(hf b (by simp)).1
 done:=by
  intro X hP hw hK hc i P9 s σ H E I hf st hg
  subst hP hw hK
  obtain⟨ok,ov,he⟩:=st
  obtain⟨hd,hi⟩:=hg
  have hO:bO X.prog X.w H s.heap d (.frz o (.dT kvs)):=I.hok d _ hd
  obtain⟨f0,f1,f2,f3,f4,f5⟩:=hf it (by simp)
  exact aG3 (I.ok.hd hc) he ⟨o,hO.1,hc0,hd0⟩ (by omega) fun h' eb=>⟨rfl,I.turned (t':=s.toks) (fun b o hb e=>eb b o hb e) f0 f1 f3 f4 f5⟩
 self:=fun _ _ _ _ _ st h=>by
  obtain⟨ok,ov,he⟩:=st
  refine wpAny_pyIter_slot ⟨_,he,rfl⟩ F.slot_dict_itemiterator_iter (wpAny_call_entry F.slot_dict_itemiterator_iter ⟨_,he,rfl⟩ aB7 ?_ (F.args_dict_itemiterator_iter_1 _))
  exact wpAny_pure ⟨_,rfl,"dict_itemiterator",_,⟨_,he,rfl⟩,F.slot_dict_itemiterator_next.lookup,h⟩
section
variable{X:Cx}{elts:List Expr}{x1:Nat}{tp:Pos}
def ImQ(R:It->Hp->Prop):V->Hp->Prop:=fun x H1=>∃d kvs,x=.ref d/\H1 d=some (.dT kvs)/\∀o,R (Iti d o kvs) (upd H1 d (.frz o (.dT kvs)))
def aH5(td:TE):TI:=fun σ H R=>td σ H (ImQ R)
theorem aC8{o:Expr}{td:TE}{apos cpos:Pos}(ho:PE X o td)(hbase:attributeBase o "items" X.env (eval o X.env)=eval o X.env:=by rfl)(hline:(apos.endLine == cpos.line)=true:=by rfl) :
  PI X (.Tuple elts x1 tp) (.Call (.Attribute o "items" apos) [] [] cpos) (aH5 td):=by
 intro P9 s σ H R I h
 refine wpAny_Call_method (T:="dict") (id:="dict.items") hbase rfl hline PySem.F.plainAttrs_dict PySem.F.slot_dict_items PySem.F.type_dict_items (cY (ho P9 s σ H _ I h) fun v s1 ⟨x,H1,I1,r1,q1⟩=>?_)
 obtain⟨d,kvs,e,hd,q⟩:=q1
 subst e
 cases r1
 obtain⟨lo,ob,es,ep,xs,g1,g2,g3,rel,g4,g5⟩:=zA (show bO X.prog X.w H1 s1.heap d (.dT kvs) from I1.hok d _ hd)
 have raw:Raw s1.heap d es ep:=⟨ob,g1,g2.1,g3⟩
 refine⟨raw.ty,fun b z=>by cases z;exact⟨ob,g1,g2.2.1⟩,?_⟩
 refine method_meetsIn PySem.F.slot_dict_items PySem.F.entry_dict_items rfl (PySem.evalArgs_none ⟨rfl,raw.ty,PySem.F.args_dict_items_1 _,_,aJL d lo,raw.ty,?_⟩)
 have I2:=I1.aIO hd g1
 show wpAny _ _ (pyIter (.ref s1.heap.objs.size)) _ _ _
 refine aDZ (s:={ s1 with heap:=s1.heap.push { cls:=.type "dict_items",data:=.fields #[.ref d] } }) ⟨_,Heap.get?_push_size _ rfl,rfl,rfl⟩ (raw.keep fun o e=>Heap.get?_push_of_some _ e) ?_
 have hk:∀b u,s1.heap.get? b=some u->((s1.heap.push { cls:=.type "dict_items",data:=.fields #[.ref d] }).push { cls:=.type "dict_itemiterator",data:=.fields #[.none,.bool false,.ref d,.int 0 0,.int es.size 0,.int ep 0,.none,.none] }).get? b=some u:=
  fun b u e=>Heap.get?_push_of_some _ (Heap.get?_push_of_some _ e)
 refine⟨_,[(s1.heap.push { cls:=.type "dict_items",data:=.fields #[.ref d] }).objs.size],_,_,_,rfl,I2.kept (t':=s1.toks) hk,aH4 d _ ob kvs es ep g2.1 g3 g5,⟨_,_,Heap.get?_push_size _ rfl⟩,fun b hb=>?_,q ob⟩
 have e:b=(s1.heap.push { cls:=.type "dict_items",data:=.fields #[.ref d] }).objs.size:=by simpa using hb
 have hle:s1.heap.objs.size<=b:=by rw[e,Heap.size_push];exact Nat.le_succ _
 exact I2.aDV hle (I2.hok.fresh hle)
end
section
variable{σ:St}{H:Hp}{nx:St->Hp->Prop}{rt:VK}{g:TG}{tb:TS}
theorem aJM{td:TE}{R:It->Hp->Prop}(h:td σ H (ImQ R)):aH5 td σ H R:=h
theorem aPs{d:Addr}{kvs:List (List Key×V)}{R:It->Hp->Prop}(h1:H d=some (.dT kvs))(h:∀o,R (Iti d o kvs) (upd H d (.frz o (.dT kvs)))):ImQ R (.ref d) H:=⟨d,kvs,rfl,h1,h⟩
theorem aLh{d:Addr}{o:Obj}{kvs:List (List Key×V)}(Pv:Nat->St->Hp->Prop)(h0:Pv 0 σ H)(hl:∀i σ H,i<=kvs.length->Pv i σ H->H d=some (.frz o (.dT kvs)))
  (hs:∀i kv σ H T b,kvs[i]?=some kv->Pv i σ H->H T=none->H b=some (.tup (kv.1.map kV))->g (.ref T) σ (upd H T (.tup [.ref b,kv.2])) fun σ2 H2=>tb ⟨Pv (i+1),rt,nx,Pv (i+1)⟩ σ2 H2) (hd:∀σ H,Pv kvs.length σ H->nx σ H) :
  ∃W:Nat->Nat->St->Hp->Prop,(∃m,W 0 m σ H)/\∀i m σ H,W i m σ H->
   ((Iti d o kvs).stop i H/\nx σ H)\/((Iti d o kvs).go i H/\∃N:St->Hp->Prop,(∀σ' H',N σ' H'->∃m',m' < m/\W (i+1) m' σ' H')/\∀x H',(Iti d o kvs).yld i H x H'->g x σ H' fun σ2 H2=>tb ⟨N,rt,nx,N⟩ σ2 H2):=by
 refine⟨fun i m σ H=>m=kvs.length - i/\i<=kvs.length/\Pv i σ H,⟨kvs.length,by simp,Nat.zero_le _,h0⟩,?_⟩
 rintro i m σ H ⟨rfl,hi,p⟩
 have q:=hl i σ H hi p
 by_cases hlt:i < kvs.length
 ·refine .inr ⟨⟨q,hlt⟩,Pv (i+1),fun σ' H' p'=>⟨kvs.length - (i+1),by omega,rfl,hlt,p'⟩,fun x H' y=>?_⟩
  obtain⟨T,b,kv,hT,e1,hk,hb,e2⟩:=y
  subst e1 e2
  exact hs i kv σ H T b hk p hT hb
 ·have e:i=kvs.length:=by omega
  subst e
  exact .inl ⟨⟨q,Nat.le_refl _⟩,hd σ H p⟩
end
theorem aJN{prog:Program}{w:World}{A:Around}(hh:A.handled=none)(I d:Addr)(hne:d≠I)(es:Array DictEntry)(ep:Nat) :
  Walks prog w A I [I,d] [I] es.size (fun i v=>∃e,es[i]?=some e/\v=e.val) (fun i h=>It4 "dict_valueiterator" h I d i es.size ep/\Raw h d es ep) where
 sub:=fun b hb=>List.mem_cons.mpr (.inl (by simpa using hb))
 frame:=fun _ _ _ st hk=>⟨st.1.keep fun o e=>hk I (by simp) o e,st.2.keep fun o e=>hk d (by simp) o e⟩
 item:=fun i s Q E hi st hQ=>by
  have hx:es[i]?=some es[i]:=Array.getElem?_eq_getElem hi
  refine aD0 st.1 st.2 hx fun h' a b=>hQ es[i].val h' s.toks ⟨_,hx,rfl⟩ ⟨a,st.2.keep fun o e=>b.extBut d o hne e⟩ fun b' o hb e=>b.extBut b' o (fun z=>hb (List.mem_singleton.mpr z)) e
 done:=fun s Q E st hQ=>aFE hh st.1 st.2 (Nat.le_refl _) fun h' z=>hQ h' s.toks fun b o hb e=>z b o (fun y=>hb (List.mem_singleton.mpr y)) e
 self:=fun _ _ _ _ st hQ=>wpAny_pyIter_valiter st.1 hQ
section
variable{X:Cx}{o:Expr}{td:TE}{apos cpos:Pos}
def aJO(b d:Addr):Heap->Prop:=fun h=>h.IsValuesView b d
end
section
variable{X:Cx}{ek ev:Expr}{tk tv:TE}{pos:Pos}
theorem aJP{P9:List (Addr×Obj)}{σ:St}{H:Hp}{s:Shared}{a b:Addr}{v:V}{r:Value}{A:Around}{E:Value->Shared->Prop}{kvs:List (List Key×V)}{k:List Key}{Q:Unit->Shared->Prop}(hu:A.units < cLine)(I:Inv X P9 σ H s)(e:H a=some (.dT kvs))(eb:H b=some (.tup (k.map kV)))(l:kvs.length < sizeLine)(rv:RelV v r)(h:∀s',Inv X P9 σ (upd H a (.dT (putK kvs k v))) s'->Q () s') :
  wpAny (model X.prog X.w) A (dictSet a (.ref b) r) Q E s:=by
 obtain⟨z,hd,xs,rel,dd⟩:=aNb I.hok e
 have hz:xs.length<=sizeLine:=by rw[<-Paired.length rel];exact z
 have hl:(putK kvs k v).length<=sizeLine:=by have:=pX kvs k v;omega
 refine wpAny_dictSet_heap (hsz:=hz) hu (aCN I.hok eb) dd fun h' dd' hs=>h _ ?_
 obtain⟨q,es,ep,hq,h2,h3,h4,_,h5⟩:=dd'
 refine aCv I (by rw[e];exact True.intro) hs ⟨q,hq⟩ ⟨hl,hd,_,(rel.put k eb rv).keeps fun c ys ec=>?_,q,es,ep,hq,h2,h3,h4,h5⟩
 rw[aR (aM5 ec e (fun z=>nomatch z))]
 exact ec
def aH6(tk tv:TE):TE:=fun σ H Q=>∀d,H d=none->tk σ (upd H d (.dT [])) fun y H1=>tv σ H1 fun v H2=>∃b k,y=.ref b/\H2 b=some (.tup (k.map kV))/\H2 d=some (.dT [])/\Q (.ref d) (upd H2 d (.dT [(k,v)]))
theorem aAk(hu:X.A.units < cLine)(hk:PE X ek tk)(hv:PE X ev tv):PE X (.Dict [some ek] [ev] pos) (aH6 tk tv):=by
 intro P9 s σ H Q I h
 have hn:H s.heap.objs.size=none:=I.hok.fresh (Nat.le_refl _)
 have I0:Inv X P9 σ (upd H s.heap.objs.size (.dT [])) { s with heap:=s.heap.push { cls:=.type "dict",data:=.dict #[] } }:=I.laid (a:=s.heap.objs.size) (o:=.dT []) (t':=s.toks) (fun _ _ q=>Heap.get?_push_of_some _ q) (Nat.le_refl _) (aGI s.heap I.big)
 refine wpAny_Dict_any rfl rfl (by simp) (by simp) ?_
 refine pairTrees_cons_walk (cY (hk P9 _ σ _ _ I0 (h _ hn)) fun u s1 ⟨y,H1,I1,r1,q1⟩=>cY (hv P9 s1 σ H1 _ I1 q1) fun v s2 ⟨x,H2,I2,r2,q2⟩=>pairTrees_nil_walk ?_)
 obtain⟨b,k,e,eb,ed,q⟩:=q2
 subst e
 cases r1
 unfold storeAll
 simp only[List.forIn_cons,List.forIn_nil]
 refine wpAny_bind (wpAny_bind (aJP hu I2 ed eb (by rw[sizeLine_eq];decide) r2 fun s3 I3=>?_))
 exact wpAny_pure (wpAny_pure ⟨.ref _,_,I3,rfl,q⟩)
end
end L2
namespace L2
section
variable{σ:St}{H:Hp}{Q:VK}
theorem aLi{tk tv:TE}(h:∀d,H d=none->tk σ (upd H d (.dT [])) fun y H1=>tv σ H1 fun v H2=>∃b k,y=.ref b/\H2 b=some (.tup (k.map kV))/\H2 d=some (.dT [])/\Q (.ref d) (upd H2 d (.dT [(k,v)]))):aH6 tk tv σ H Q:=h
theorem aLj{td ty tx:TE}(h:td σ H fun x H1=>∃a,x=.ref a/\IsD H1 a/\ty σ H1 fun y H2=>tx σ H2 fun z H3=>∃o,oX H3 a y o/\Q (o.getD z) H3):aHS td ty tx σ H Q:=h
end
end L2
namespace L2.Z
open PySem PySem.Spec PyProof.Rows L2
section
variable{X:Cx}{o e f ek ev:Expr}{td ty tx tk tv:TE}{pos apos cpos tp:Pos}{elts:List Expr}{x1:Nat}
theorem aC8(ho:QE X o td)(hbase:attributeBase o "items" X.env (eval o X.env)=eval o X.env:=by rfl)(hline:(apos.endLine == cpos.line)=true:=by rfl) :
  QI X (.Tuple elts x1 tp) (.Call (.Attribute o "items" apos) [] [] cpos) (aH5 td):=⟨L2.aC8 ho.h hbase hline⟩
theorem aAk(hu:X.A.units+9 < cLine)(hk:QE X ek tk)(hv:QE X ev tv):QE X (.Dict [some ek] [ev] pos) (aH6 tk tv):=⟨L2.aAk (by omega) hk.h hv.h⟩
theorem vS(hu:X.A.units+9 < cLine)(ho:QE X o td)(he:QE X e ty)(hf:QE X f tx)(base:attributeBase o "get" X.env (eval o X.env)=eval o X.env:=by rfl)
  (few:((backTo cpos (starEach [e,f] X.env)).all (fun x=>!x.1) && (backToKw cpos (keywordEach [] X.env)).all (fun x=>x.1.isSome)
   && decide (([e,f]:List Expr).length+([]:List Keyword).length+(if ([]:List Keyword).isEmpty then 0 else 1) < 30))=true:=by rfl)
  (line:(apos.endLine == cpos.line)=true:=by rfl) (trees:backTo cpos (starEach [e,f] X.env)=[(false,eval e X.env),(false,eval f X.env)]:=by rfl) :
  QE X (.Call (.Attribute o "get" apos) [e,f] [] cpos) (aHS td ty tx):=⟨L2.vS (by omega) ho.h he.h hf.h ⟨base,few,line,trees⟩⟩
end
end L2.Z
namespace L2
open PySem PySem.Spec PyProof.Rows
def Itk(d:Addr)(o:Obj)(kvs:List (List Key×V)):It:=
 ⟨fun i H=>H d=some (.frz o (.dT kvs))/\i < kvs.length,fun i H x H'=>H'=H/\∃b kv,kvs[i]?=some kv/\x=.ref b/\H b=some (.tup (kv.1.map kV)),fun i H=>H d=some (.frz o (.dT kvs))/\kvs.length<=i⟩
theorem aH7{P:Program}{w:World}{K:PySem.W.Frag}{tg:Expr}(d it:Addr)(o:Obj)(kvs:List (List Key×V))(es:Array DictEntry)(ep:Nat)(hc0:o.cls=.type "dict")(hd0:o.data=.dict es ep)(hn:es.size=kvs.length) :
  Turn P w K tg (Itk d o kvs) [it] it (fun i h=>It4 "dict_keyiterator" h it d i es.size ep) where
 mem:=by simp
 obj:=fun i h st b hb=>by
  have z:b=it:=by simpa using hb
  subst z
  obtain⟨u,e,c,q⟩:=st
  exact⟨u,e,fun v z=>by rw[q] at z;cases z⟩
 keep:=fun i h h' st k=>st.keep fun u e=>k it (by simp) u e
 item:=by
  intro X hP hw hK hc i P9 s σ H E I hf st hg
  subst hP hw hK
  obtain⟨hd,hi⟩:=hg
  have hO:bO X.prog X.w H s.heap d (.frz o (.dT kvs)):=I.hok d _ hd
  obtain⟨ho,hO⟩:=hO
  obtain⟨lo,o',es',ep',xs,g1,g2,g3,rel,g4,g5⟩:=zA hO
  have eo:o'=o:=Option.some.inj (g1.symm.trans ho)
  subst eo
  have ee:es'=es/\ep'=ep:=by rw[hd0] at g3;injection g3 with a b;exact⟨a.symm,b.symm⟩
  obtain⟨e1,e2⟩:=ee
  subst e1 e2
  have raw:Raw s.heap d es' ep':=⟨o',ho,hc0,hd0⟩
  have hx:kvs[i]?=some kvs[i]:=List.getElem?_eq_getElem hi
  obtain⟨q,hq,hb,rv⟩:=aBn rel hx
  have hex:es'[i]?=some (entryOfKey (tupleKind (cZ X.prog X.w)) q):=by rw[entry_at g4,hq];rfl
  obtain⟨f0,f1,f2,f3,f4,f5⟩:=hf it (by simp)
  refine aBN st raw hex fun h' st' sb=>?_
  have I1:Inv X P9 σ H { s with heap:=h' }:=I.turned (t':=s.toks) (fun b u hb e=>(sb.2 b hb).trans e) f0 f1 f3 f4 f5
  obtain⟨u,e',c',d'⟩:=id st'
  exact⟨_,rfl,aEO (s:={ s with heap:=h' }) e' c' d' (by decide) ⟨.ref q.2.1,H,I1,rfl,⟨rfl,q.2.1,kvs[i],hx,rfl,hb⟩,st',fun b hb=>(hf b hb).1⟩⟩
 done:=by
  intro X hP hw hK hc i P9 s σ H E I hf st hg
  subst hP hw hK
  obtain⟨hd,hi⟩:=hg
  have hO:bO X.prog X.w H s.heap d (.frz o (.dT kvs)):=I.hok d _ hd
  obtain⟨f0,f1,f2,f3,f4,f5⟩:=hf it (by simp)
  exact aC7 (I.ok.hd hc) st ⟨o,hO.1,hc0,hd0⟩ (by omega) fun h' eb=>⟨rfl,I.turned (t':=s.toks) (fun b o hb e=>eb b o hb e) f0 f1 f3 f4 f5⟩
 self:=fun _ _ _ _ _ st h=>wpAny_pyIter_keyiter st h
section
variable{X:Cx}{tg:Expr}
def DkQ(R:It->Hp->Prop):V->Hp->Prop:=fun x H1=>∃d kvs,x=.ref d/\H1 d=some (.dT kvs)/\∀o,R (Itk d o kvs) (upd H1 d (.frz o (.dT kvs)))
def aH8(tl:TE):TI:=fun σ H R=>tl σ H (DkQ R)
theorem aC9{l:Expr}{tl:TE}(hl:PE X l tl):PI X tg l (aH8 tl):=by
 intro P9 s σ H R I h
 refine cY (hl P9 s σ H _ I h) fun v s1 ⟨x,H1,I1,r1,q1⟩=>?_
 obtain⟨d,kvs,e,hd,q⟩:=q1
 subst e
 cases r1
 obtain⟨lo,ob,es,ep,xs,g1,g2,g3,rel,g4,g5⟩:=zA (show bO X.prog X.w H1 s1.heap d (.dT kvs) from I1.hok d _ hd)
 have raw:Raw s1.heap d es ep:=⟨ob,g1,g2.1,g3⟩
 have I2:=I1.aIO hd g1
 refine aAj lo raw ?_
 refine⟨s1.heap.objs.size,[s1.heap.objs.size],_,_,_,rfl,I2.kept (t':=s1.toks) fun b u e=>Heap.get?_push_of_some _ e,aH7 d _ ob kvs es ep g2.1 g3 g5,⟨_,Heap.get?_push_size _ rfl,rfl,rfl⟩,fun b hb=>?_,q ob⟩
 have e:b=s1.heap.objs.size:=by simpa using hb
 subst e
 exact I2.aDV (Nat.le_refl _) (I2.hok.fresh (Nat.le_refl _))
end
section
variable{σ:St}{H:Hp}{Q:VK}{nx:St->Hp->Prop}{rt:VK}{g:TG}{tb:TS}
theorem aJQ{tl:TE}{R:It->Hp->Prop}(h:tl σ H (DkQ R)):aH8 tl σ H R:=h
theorem aPt{d:Addr}{kvs:List (List Key×V)}{R:It->Hp->Prop}(h1:H d=some (.dT kvs))(h:∀o,R (Itk d o kvs) (upd H d (.frz o (.dT kvs)))):DkQ R (.ref d) H:=⟨d,kvs,rfl,h1,h⟩
theorem aLk{td ty:TE}(h:td σ H fun x H1=>ty σ H1 fun y H2=>∃a v,x=.ref a/\oX H2 a y (some v)/\Q v H2):aKB td ty σ H Q:=h
theorem oX.f{H:Hp}{a b:Addr}{o:Obj}{kvs:List (List Key×V)}{k:List Key}(e:H a=some (.frz o (.dT kvs)))(eb:H b=some (.tup (k.map kV))):oX H a (.ref b) (oW kvs k):=.inr ⟨kvs,k,b,.inr ⟨o,e⟩,rfl,eb,rfl⟩
end
end L2
namespace L2.Z
open PySem PySem.Spec PyProof.Rows L2
section
variable{X:Cx}{o i l tg:Expr}{td ty tl:TE}{pos:Pos}
theorem aC9(hl:QE X l tl):QI X tg l (aH8 tl):=⟨L2.aC9 hl.h⟩
theorem sD(hu:X.A.units+9 < cLine)(ho:QE X o td)(hi:QE X i ty)(hs:aNT i:=by intro _ _;rfl):QE X (.Subscript o i pos) (aKB td ty):=⟨L2.aMg (by omega) ho.h hi.h hs⟩
end
end L2.Z
namespace L2
open PySem PySem.Spec PyProof.Rows
section
open PySem.SeqAt
open PySem.AutoSeq1 (wpAny_loadPart')
open PySem.MeetsSeq PySem.MeetsSeq2 PySem.MeetsSeq3
end
section
variable{X:Cx}
end
end L2
namespace L2
open PySem PySem.Spec PyProof.Rows
structure Clo(P:Program)(w:World)(K:W.Frag)(mg:Str->Option Value)(base:Heap)(k:Nat)(f:Addr)(sp:Sp):Prop where
 ex:∃(o:Obj) (fd:FuncData) (ps:List Str),base.get? f=some o/\o.data=.func fd/\bL P w K mg base gF k f fd ps sp/\∀(s:Shared) (us:List Value),us.length=ps.length->BindsTo s fd ⟨us,[]⟩ (ps.zip us)
abbrev aE1(q:Str)(params:Arguments)(body:Expr)(scope:Scope)(cl:List (Str×Addr))(pm cd ct:Value):FuncData:=
  { name := "<lambda>", qualname := q, params, body := .expr body, scope, globals := mainGlobals, closure := cl, defaults := .none, kwdefaults := .none, doc := .none, pyModule := pm, annotations := none, code := cd, closureTuple := ct, builtins := builtinsNs }
abbrev v9(q:Str)(scope:Scope)(L f:Addr)(cd:Value)(cl:List (Str×Addr)):Env:=
 { scope:=scope,locals:=L,globals:=mainGlobals,cells:=cl,qual:=q ++ ".<locals>.",func:=some f,code:=cd,frame:=some L,builtins:=builtinsNs }
def cxL(P:Program)(w:World)(K:W.Frag)(mg:Str->Option Value)(base:Heap)(N:List Str)(q:Str)(scope:Scope)(f:Addr)(cd:Value)(cl:List (Str×Addr))(A:Around)(outer:List Env)(s:Shared)(H:Hp):Cx where
 prog:=P
 w:=w
 K:=K
 mg:=mg
 base:=base
 A:=A.deeper (v9 q scope s.heap.objs.size f cd cl)
 N:=N
 s₀:=s
 H₀:=H
 env:=v9 q scope s.heap.objs.size f cd cl
 outer:=outer
 stack:=v9 q scope s.heap.objs.size f cd cl::outer
 ex:=[]
 calm:=true
 fn:=fun _=>false
 pn:=[]
 xe:=fun _ _=>False
structure aOE(base:Heap)(scope:Scope)(N ps:List Str)(cl:List (Str×Addr))(cap:St):Prop where
 kind:scope.kind=.function
 co:scope.isCoroutine=false
 gen:scope.isGenerator=false
 nocell:∀y∈scope.names,y.2≠.cell
 pre:N.take ps.length=ps
 nd:N.Nodup
 len:N.length=ps.length+cap.length
 par:∀x∈ps,scope.names.lookup x=some .local
 inj:∀x y c,cl.lookup x=some c->cl.lookup y=some c->x=y
 has:∀x,scope.names.lookup x=some .free->∃c,cl.lookup x=some c
 all:∀x c,cl.lookup x=some c->∃o v,base.get? c=some o/\o.data=.cell v
 cap:∀(i:Nat) x v,(N.drop ps.length)[i]?=some x->cap[i]?=some (some v)->scope.names.lookup x=some .free/\∃u c o,RelV v u/\cl.lookup x=some c/\base.get? c=some o/\o.data=.cell (some u)
theorem aIP{x:Str}{v:Value}:∀{l:List (Str×Value)},(l.map (·.1)).Nodup->(x,v)∈l->l.lookup x=some v
 |[],_,h=>by cases h
 |(y,u)::r,nd,h=>by
  rw[List.lookup_cons]
  rcases List.mem_cons.mp h with e|h'
  ·cases e
   rw[beq_self_eq_true]
  ·have ne:x≠y:=fun z=>by
    subst z
    exact(List.nodup_cons.mp nd).1 (List.mem_map.mpr ⟨(x,v),h',rfl⟩)
   rw[beq_eq_false_iff_ne.mpr ne]
   exact aIP (List.nodup_cons.mp nd).2 h'
theorem aMQ{v:Value}{x:Str}:∀{P:List Str}{us:List Value}{i:Nat},P.Nodup->P[i]?=some x->us[i]?=some v->P.length=us.length->(P.zip us).reverse.lookup x=some v:=by
 intro P us i nd h1 h2 hl
 have hm:(x,v)∈(P.zip us).reverse:=by
  rw[List.mem_reverse]
  refine List.mem_of_getElem? (i:=i) ?_
  rw[List.getElem?_zip_eq_some]
  exact⟨h1,h2⟩
 refine aIP ?_ hm
 rw[List.map_reverse,List.map_fst_zip (Nat.le_of_eq hl)]
 exact List.pairwise_reverse.mpr (nd.imp fun h=>Ne.symm h)
def aIQ(c:Addr)(q:Str)(n:Nat)(tl:TE)(cap:St):Sp:=fun ws H Q _=>H c=some (.cod q)/\ws.length=n/\tl (ws.map some++cap) H Q
theorem aH9{P:Program}{w:World}{K:W.Frag}{mg:Str->Option Value}{base:Heap}{N ps:List Str}{q:Str}{scope:Scope}{f:Addr}{cd:Value}{cl:List (Str×Addr)}{cap:St}{A:Around}{outer:List Env}{s:Shared}{H:Hp}{us:List Value}{vs:List V}{h':Heap}{tk:Nat}
  (S:aOE base scope N ps cl cap) (hd:A.handled=none) (e0:aDW P w K mg base A outer s H) (hl:vs.length=ps.length) (r:Vals vs us)
  (hns:h'.Ns s.heap.objs.size fun x=>(ps.zip us).reverse.lookup x) (hk:∀b o,s.heap.get? b=some o->h'.get? b=some o) :
  Inv (cxL P w K mg base N q scope f cd cl A outer s H) [] (vs.map some++cap) H { s with heap:=h',toks:=tk }:=by
 have noA:∀b:Addr,b∉(cxL P w K mg base N q scope f cd cl A outer s H).ex:=fun b z=>absurd (show b∈([]:List Addr) from z) (by simp)
 refine⟨⟨e0.mod,S.kind,rfl,rfl,Nat.le_refl _,S.inj,fun y hy=>?_,fun y c z _=>(by cases z),fun _=>hd,Around.frames_deeper e0.frames,.inr ⟨rfl,rfl⟩,fun b z=>absurd z (noA b),e0.bs,e0.bsz,fun b _ _=>noA b,fun b z=>absurd z (noA b),e0.zT,e0.frf⟩,
  rfl,e0.bare,Un.kept hk,⟨_,hns,fun i y v h1 h2 h3=>?_⟩,fun y c h=>?_,e0.hok.fresh (Nat.le_refl _),fun y c h=>?_,fun p hp=>absurd (show p∈([]:List (Addr×Obj)) from hp) (by simp),e0.hok.kept hk,?_⟩
 ·have hy:scope.names.lookup y=some .cell\/scope.names.lookup y=some .free:=hy
  rcases hy with hy|hy
  ·exact absurd rfl (S.nocell _ (PySem.mem_of_lookup hy))
  ·exact S.has y hy
 ·have h1':N[i]?=some y:=h1
  by_cases hi:i < ps.length
  ·rw[List.getElem?_append_left (by rw[List.length_map];omega),List.getElem?_map] at h2
   obtain⟨v',hv',e⟩:=Option.map_eq_some_iff.mp h2
   cases e
   obtain⟨u,hu,rv⟩:=r.get hv'
   have hp:ps[i]?=some y:=by rw[<-S.pre,List.getElem?_take_of_lt hi];exact h1'
   have ndP:ps.Nodup:=by rw[<-S.pre];exact S.nd.sublist (List.take_sublist _ _)
   refine⟨u,rv,.inl ⟨S.par y (List.mem_of_getElem? hp),?_⟩⟩
   exact aMQ ndP hp hu (by rw[<-hl];exact r.length)
  ·obtain⟨j,rfl⟩ : ∃j,i=ps.length+j:=⟨i - ps.length,by omega⟩
   rw[List.getElem?_append_right (by rw[List.length_map];omega),List.length_map,hl,Nat.add_sub_cancel_left] at h2
   obtain⟨hf,u,c,o,rv,ec,eo,ed⟩:=S.cap j y v (by rw[List.getElem?_drop];exact h1') h2
   exact⟨u,rv,.inr ⟨.inr hf,c,ec,o,hk _ _ (e0.bs c o eo).1,ed⟩⟩
 ·obtain⟨o,v,eo,ed⟩:=S.all y c h
  exact⟨v,o,hk _ _ (e0.bs c o eo).1,ed⟩
 ·obtain⟨o,v,eo,ed⟩:=S.all y c h
  exact(e0.bs c o eo).2
 ·show _=N.length
  rw[List.length_append,List.length_map,hl,S.len]
theorem aOF{P:Program}{w:World}{K:W.Frag}{mg:Str->Option Value}{base:Heap}{k:Nat}{f c:Addr}{q:Str}{params:Arguments}{body:Expr}{scope:Scope}{cl:List (Str×Addr)}{pm ct:Value}{N ps:List Str}{cap:St}{tl:TE}{o:Obj}
  (hf:base.get? f=some o) (ho:o.data=.func (aE1 q params body scope cl pm (.ref c) ct)) (S:aOE base scope N ps cl cap)
  (hbody:∀(A:Around) (outer:List Env) (s:Shared) (H:Hp),fD k (A.deeper (v9 q scope s.heap.objs.size f (.ref c) cl))->PE (cxL P w K mg base N q scope f (.ref c) cl A outer s H) body tl) :
  bL P w K mg base gF (k+1) f (aE1 q params body scope cl pm (.ref c) ct) ps (aIQ c q ps.length tl cap):=by
 refine⟨fun vs H Q E h=>h.2.1,fun A outer s H args us vs Q E hr e0 hb r hsp=>?_⟩
 obtain⟨hcod,hl,hq⟩:=hsp
 have lim:s.heap.NoLimit:=e0.mod.nolimit.keeps fun b o e=>(e0.bs b o e).1
 have hcd:s.heap.CodeRec (.ref c) q:=by
  obtain⟨oc,vc,t,z1,z2,z3⟩:=e0.hok c _ hcod
  exact⟨c,oc,vc,t,rfl,z1,z2,z3⟩
 refine PySem.W.kla_callFunE hr.depth (e0.bs f _ hf).1 ho S.co S.gen rfl hcd (hb _ _ _ _ ?_)
 refine wpAny_newFunctionEnv S.nocell (fun y hy=>?_) (fun h₁ hns hsb=>⟨lim.fresh _ hsb,?_⟩) S.kind
 ·obtain⟨n,v⟩:=y
  exact S.par n (List.of_mem_zip hy).1
 show codeAny _ _ (.expr body (v9 q scope s.heap.objs.size f (.ref c) cl)) _ _
 have hk₁:∀b o,s.heap.get? b=some o->h₁.get? b=some o:=fun b o e=>hsb.extBut b o (Nat.ne_of_lt (Heap.lt_size e)) (Heap.get?_push_of_some _ e)
 refine PySem.W.kla_codeExpr ?_
 have I:=aH9 (tk:=s.toks+(ps.zip us).length) (q:=q) (f:=f) (cd:=.ref c) S hr.hd e0 hl r hns hk₁
 refine wpAny_mono (hbody A outer s H (hr.deeper _) [] _ _ H _ I hq) (fun u s' hs=>?_) fun e s' hs=>hs.elim
 obtain⟨v,H',J,rv,z⟩:=hs
 exact⟨v,H',J.os,J.bare,J.base,J.hok,rv,z⟩
def aFG(base h:Heap)(Z:List Addr):Heap:=PySem.W.hideAll h ((List.range h.objs.size).filter fun a=>!((base.get? a).isSome || Z.contains a))
theorem wA{base h:Heap}{Z:List Addr}{b:Addr}{o:Obj}(e:h.get? b=some o)(z:(∃u,base.get? b=some u)\/b∈Z):(aFG base h Z).get? b=some o:=by
 refine PySem.W.hideAll_get _ e fun hm=>?_
 have q:=(List.mem_filter.mp hm).2
 rcases z with ⟨u,z⟩|z
 ·rw[z] at q;simp at q
 ·rw[show Z.contains b=true from List.elem_iff.mpr z] at q
  simp at q
theorem aIR{base h:Heap}{Z:List Addr}{b:Addr}{o:Obj}(e:(aFG base h Z).get? b=some o):h.get? b=some o/\((∃u,base.get? b=some u)\/b∈Z):=by
 have e':h.get? b=some o:=PySem.W.of_hideAll _ e
 refine⟨e',?_⟩
 cases q1:base.get? b with
 |some u=>exact .inl ⟨u,rfl⟩
 |none=>
  cases q2:Z.contains b with
  |true=>exact .inr (List.elem_iff.mp q2)
  |false=>
   have hm:b∈(List.range h.objs.size).filter fun a=>!((base.get? a).isSome || Z.contains a):=List.mem_filter.mpr ⟨List.mem_range.mpr (Heap.lt_size e'),by rw[q1,q2];rfl⟩
   have z:(aFG base h Z).get? b=none:=PySem.W.hideAll_none _ hm
   rw[z] at e
   cases e
theorem Mod.keeps{K:W.Frag}{mg:Str->Option Value}{base base':Heap}(M:Mod K mg base)(k:∀b o,base.get? b=some o->base'.get? b=some o):Mod K mg base':=
 ⟨M.kin.keeps k,M.glob.keeps k,(let ⟨mb,h1,h2⟩:=M.blt;⟨mb,h1.keeps k,h2⟩),M.nolimit.keeps k,let ⟨bm,o,e1,e2,e3,r⟩:=M.bm;⟨bm,o,e1,e2,k _ _ e3,r⟩⟩
theorem aIa{h base:Heap}{Z:List Addr}{l:List Env}(hl:h.FunFrames base l)(hz:∀b∈frs l,b∉Z):h.FunFrames (aFG base h Z) l:=by
 induction l with
 |nil=>trivial
 |cons env rest ih=>
  obtain⟨hk,⟨L,o,hf,hn,ho,hd⟩,hr⟩:=hl
  have hL:L∈frs (env::rest):=by unfold frs;rw[List.filterMap_cons,hf];exact List.mem_cons_self
  refine⟨hk,⟨L,o,hf,?_,ho,hd⟩,ih hr fun b hb=>hz b (by unfold frs;rw[List.filterMap_cons,hf];exact List.mem_cons_of_mem _ hb)⟩
  cases q:(aFG base h Z).get? L with
  |none=>rfl
  |some u=>
   rcases(aIR q).2 with ⟨v,z⟩|z
   ·rw[hn] at z;cases z
   ·exact absurd z (hz L hL)
end L2
namespace L2
open PySem PySem.Spec PyProof.Rows
section
variable{X:Cx}{P9:List (Addr×Obj)}{σ:St}{H:Hp}{s:Shared}{c Pt:Addr}{q:Str}{params:Arguments}{body:Expr}{scope:Scope}{pos lpos:Pos}{cl:List (Str×Addr)}
theorem aLl{Q:Value->Shared->Prop}(I:Inv X P9 σ H s)(hcode:X.env.code=.ref c)(hC:PySem.W.codeHdIn X.K c Pt=true)(hT:H Pt=some (.ctb pos q))(hq:X.env.qual ++ "<lambda>" = q)(hdef:defaultsOf params X.env=([],[]))(hcl:closureFor scope X.env=pure cl)
  (h:∀(f c':Addr) (pm ct:Value) (o:Obj) (H':Hp) (s':Shared),Inv X P9 σ H' s'->aI H H'->s'.heap.get? f=some o->o.data=.func (aE1 q params body scope cl pm (.ref c') ct)->H' f=none->H' c'=some (.cod q)->s.heap.objs.size<=f->Q (.ref f) s') :
  wpAny (model X.prog X.w) X.A (eval (.Lambda params body scope pos) X.env) Q X.xe s:=by
 obtain⟨ps,eP,ht,hc⟩:=I.hok Pt _ hT
 have hg:s.heap.Ns mainGlobals X.mg:=I.mod.glob.keeps I.bk
 have hgP:mainGlobals≠Pt:=fun z=>by
  obtain⟨o,es,ep,e,hd,_⟩:=hg
  rw[z,eP] at e
  cases e
  cases hd
 have hb:s.heap.BuiltinsAt X.mg Pt:=by
  obtain⟨bm,o,e1,e2,e3,e4,e5,e6⟩:=I.mod.bm
  have e3':=I.bk _ _ e3
  refine⟨bm,o,e1,e2,fun z=>?_,fun z=>?_,e3',e4,e5,e6⟩
  ·obtain⟨o',es,ep,e,hd,_⟩:=hg
   rw[z,e] at e3'
   cases e3'
   rw[hd] at e6
   cases e6
  ·rw[z,eP] at e3'
   cases e3'
   cases e4
 have hCd:PySem.W.CodeHd s.heap c Pt:=PySem.W.codeHd_of_K I.kIn hC
 refine PySem.W.kla_eval hdef ?_
 rw[hq]
 rcases hc with hn|⟨c',hs,hcd⟩
 ·refine PySem.W.kla_makeFunction (mg:=X.mg) (P:=Pt) (c:=c) (ps:=ps) hcl I.ok.glob hg hcode hCd eP ht hn hgP hb fun c' ctv h' tk hx hge hlt hrec htb=>?_
  have hnc:H c'=none:=I.hok.fresh hge
  have hx2:∀b o,b≠Pt->s.heap.get? b=some o->(h'.push (PySem.W.kla_obj "<lambda>" q params body scope cl ((X.mg "__name__").getD .none) c' ctv)).get? b=some o:=fun b o n e=>Heap.get?_push_of_some _ (hx b o n e)
  have np:∀b,H b=none->b≠Pt:=fun b n z=>by rw[z,hT] at n;cases n
  have ncP:c'≠Pt:=np c' hnc
  refine h h'.objs.size c' _ ctv _ (upd H c' (.cod q)) _ (I.step (h':=h'.push _) (g':=s.gens) (d':=s.drawn) (t':=tk) (ch:=[]) (fun _ z=>nomatch z) (fun b o _ _ _ e n=>hx2 b o (np b n) e) (fun b o _ _ _ e n=>⟨o.slots,hx2 b o (np b n) e⟩)
   (fun b o _ e n=>by rw[aR (Nat.ne_of_lt (Nat.lt_of_lt_of_le (Heap.lt_size e) hge))];exact n) (fun b o _ e=>?_) (fun b xs e=>by rw[aR (bF e hnc)];exact e) (fun b o u e=>by rw[aR (bF e hnc)];exact e)
   (fun b ps e=>⟨#[],by rw[aR (bF e hnc),e];simp⟩) (fun m hm=>hm.extBut (b:=Pt) hx2 (np _ I.free)) (fun b u e=>?_) I.bare) (aI.new hnc) (Heap.get?_push_size _ rfl) rfl ?_ aH (Nat.le_trans hge (Nat.le_of_lt hlt))
  ·by_cases hbP:b=Pt
   ·subst hbP
    exact⟨_,Heap.get?_push_of_some _ htb⟩
   ·exact⟨o,hx2 b o hbP e⟩
  ·by_cases hbc:b=c'
   ·subst hbc
    rw[aH] at e
    cases e
    obtain⟨c2,oc,vs,t,z1,z2,z3,z4⟩:=hrec
    cases z1
    exact⟨oc,vs,t,Heap.get?_push_of_some _ z2,z3,z4⟩
   ·rw[aR hbc] at e
    by_cases hbP:b=Pt
    ·subst hbP
     rw[hT] at e
     cases e
     refine⟨_,Heap.get?_push_of_some _ htb,?_,.inr ⟨c',?_,aH⟩⟩
     ·rw[Array.toList_append]
      exact TriplesOk_snoc _ _ _ _ ht
     ·rw[Array.toList_append]
      exact codeAmong_snoc _ ht hn
    ·refine(I.hok b u e).aB5 (fun d v hd z=>hx2 d v ?_ z) (fun d z=>by rw[aR (bF z hnc)];exact z) fun d xs _ z=>by rw[aR (bF z hnc)];exact z
     rcases hd with z|z
     ·rw[z];exact hbP
     ·intro y
      rw[y,hT] at z
      cases z
  ·rw[aR (Nat.ne_of_gt hlt)]
   exact I.hok.fresh (Nat.le_trans hge (Nat.le_of_lt hlt))
 ·refine PySem.W.kla_makeFunctionHit (mg:=X.mg) (P:=Pt) (c:=c) (ps:=ps) hcl I.ok.glob hg hcode hCd eP ht hs hb fun ctv h' tk hk hsz=>?_
  exact h h'.objs.size c' _ ctv _ H _ (I.kept fun b u e=>Heap.get?_push_of_some _ (hk b u e)) (aI.refl _) (Heap.get?_push_size _ rfl) rfl (I.hok.fresh hsz) hcd hsz
def PAL(X:Cx)(es:List Expr)(params:Arguments)(body:Expr)(scope:Scope)(lpos:Pos)(Pt:Addr)(q:Str)(cl:List (Str×Addr))(t:TA):Prop:=
 ∀(pos:Pos) (P9:List (Addr×Obj)) (s:Shared) (σ:St) (H:Hp) (Q:List V->Hp->Prop),Inv X P9 σ H s->t σ H (fun vs H1=>H1 Pt=some (.ctb lpos q)/\Q vs H1)->
  wpAny (model X.prog X.w) X.A (spliced (backTo pos (starEach es X.env))) (fun us s'=>∃(vs:List V) (us0:List Value) (f c':Addr) (pm ct:Value) (o:Obj) (H1 H2:Hp),us=us0 ++ [.ref f]/\Vals vs us0/\Inv X P9 σ H2 s'/\aI H1 H2/\
   s'.heap.get? f=some o/\o.data=.func (aE1 q params body scope cl pm (.ref c') ct)/\H2 f=none/\H2 c'=some (.cod q)/\f∉frs X.stack/\Q vs H1) X.xe s
theorem aLm(hcode:X.env.code=.ref c)(hC:PySem.W.codeHdIn X.K c Pt=true)(hq:X.env.qual ++ "<lambda>" = q)(hdef:defaultsOf params X.env=([],[])){N:List Str}{n:Nat}{idx:List Nat}(S:eR X scope N n idx) :
  PAL X [.Lambda params body scope lpos] params body scope lpos Pt q (nF X.env scope.names []) oV:=by
 intro pos P9 s σ H Q I h
 obtain⟨hT,hQ⟩:=h
 show wpAny _ _ (spliced ((false,eval (.Lambda params body scope lpos) X.env)::backTo pos (starEach [] X.env))) _ _ s
 refine Calls.spliced_cons (aLl I hcode hC hT hq hdef (y7 (S.cells I)) fun f c' pm ct o H' s' I' sm e1 e2 e3 e4 e5=>?_)
 refine Calls.spliced_nil ⟨[],[],f,c',pm,ct,o,H,H',rfl,.nil,I',sm,e1,e2,e3,e4,fun z=>?_,hQ⟩
 obtain⟨_,o',e,_⟩:=I.stack.mem z
 exact absurd (Nat.lt_of_lt_of_le (Heap.lt_size e) e5) (Nat.lt_irrefl _)
theorem aLn{e:Expr}{es:List Expr}{te:TE}{t:TA}(ha:PE X e te)(hr:PAL X es params body scope lpos Pt q cl t)(hs:starEach (e::es) X.env=(false,eval e X.env)::starEach es X.env:=by rfl) :
  PAL X (e::es) params body scope lpos Pt q cl (bG te t):=by
 intro pos P9 s σ H Q I h
 rw[hs]
 show wpAny _ _ (spliced ((false,eval e X.env)::backTo pos (starEach es X.env))) _ _ s
 refine Calls.spliced_cons (cY (ha P9 s σ H _ I h) fun u s1 ⟨x,H1,I1,r1,q1⟩=>?_)
 refine cY (hr pos P9 s1 σ H1 (fun vs H2=>Q (x::vs) H2) I1 q1) fun us s2 ⟨vs,us0,f,c',pm,ct,o,H2,H3,e0,r,I3,sm,e1,e2,e3,e4,e5,hQ⟩=>?_
 exact⟨x::vs,u::us0,f,c',pm,ct,o,H2,H3,by rw[e0];rfl,.cons r1 r,I3,sm,e1,e2,e3,e4,e5,hQ⟩
def aIb(Pt:Addr)(lpos:Pos)(q:Str)(sp:(Addr->Sp->Prop)->Sp)(n:Nat)(tl:TE)(idx:List Nat)(t:TA):TE:=fun σ H Q=>t σ H fun vs H1=>H1 Pt=some (.ctb lpos q)/\
 ∀(f c':Addr) (H2:Hp) (C:Addr->Sp->Prop),aI H1 H2->H2 c'=some (.cod q)->C f (aIQ c' q n tl (idx.map fun j=>(σ[j]?).join))->sp C (vs ++ [.ref f]) H2 Q E0
theorem sE{f:Addr}{fd:FuncData}{ps psL N:List Str}{idx:List Nat}{sp:(Addr->Sp->Prop)->Sp}{k kc:Nat}{x:Str}{p:Pos}{e:Expr}{es:List Expr}{t:TA}{tl:TE}
  (F:∀base':Heap,bL X.prog X.w X.K X.mg base' gF k f fd ps (sp (Clo X.prog X.w X.K X.mg base' (kc+1)))) (hr:fD k X.A) (hg:Gl X x) (hm:X.mg x=some (.ref f)) (hk:W.keepIn X.K (.ref f)=true) (hb:Binds X.K fd ps [])
  (hfn:∀y,X.fn y=true) (S:eR X scope N psL.length idx) (hpre:N.take psL.length=psL) (hpar:psL.all (fun x=>scope.names.lookup x == some .local)=true) (hco:scope.isCoroutine=false) (hgen:scope.isGenerator=false)
  (hbind:∀(cl:List (Str×Addr)) (pm cd ct:Value) (us:List Value),us.length=psL.length->bindArgs (aE1 q params body scope cl pm cd ct) ⟨us,[]⟩=pure (psL.zip us))
  (ha:PAL X (e::es) params body scope lpos Pt q (nF X.env scope.names []) t)
  (hbody:∀(base':Heap) (f' c':Addr) (cl:List (Str×Addr)) (A:Around) (outer:List Env) (s:Shared) (H:Hp),fD kc (A.deeper (v9 q scope s.heap.objs.size f' (.ref c') cl))->PE (cxL X.prog X.w X.K X.mg base' N q scope f' (.ref c') cl A outer s H) body tl)
  (hdb:(x == ("__debug__" : Str))=false:=by decide) (he:starEach (e::es) X.env=(false,eval e X.env)::starEach es X.env:=by rfl) (hpl:(backTo pos (starEach es X.env)).any (·.1)=false:=by rfl) :
  PE X (.Call (.Name x p) (e::es) [] pos) (aIb Pt lpos q sp psL.length tl idx t):=by
 intro P9 s σ H Q I h
 refine wpAny_Call_Name_kw (aCs I hg hm ?_ hdb)
 refine PySem.W.callWith_K (h₀:=X.base) I.ok.mod.kin hk (cY (ha pos P9 s σ H _ I h) fun us s1 ⟨vs,us0,fl,c',pm,ct,o,H1,H2,e0,r,I2,sm,e1,e2,e3,e4,e5,hQ⟩=>⟨I2.kIn,?_⟩) he hpl
 subst e0
 generalize hcl:nF X.env scope.names []=cl at *
 have cels:=S.cells I2
 have clo:∀{y:Str} {d:Addr},cl.lookup y=some d->X.env.cells.lookup y=some d:=fun {y d} z=>pY cels (by rw[hcl];exact z)
 have lkp:∀{y:Str} {d:Addr},(y,NameKind.free)∈scope.names->X.env.cells.lookup y=some d->cl.lookup y=some d:=fun {y d} h1 h2=>by rw[<-hcl];exact vT cels h1 h2
 have inZ:∀{y:Str} {d:Addr},cl.lookup y=some d->d∈fl::cl.map (·.2):=fun {y d} z=>List.mem_cons_of_mem _ (List.mem_map.mpr ⟨(y,d),PySem.mem_of_lookup z,rfl⟩)
 have memZ:∀d,d∈cl.map (·.2)->∃y,X.env.cells.lookup y=some d:=fun d z=>by
  obtain⟨⟨y,d'⟩,hm,e⟩:=List.mem_map.mp z
  have e':d'=d:=e
  subst e'
  rw[<-hcl] at hm
  rcases aAb _ _ cels hm with q|q
  ·cases q
  ·exact⟨y,q⟩
 have keepB:∀b u,X.base.get? b=some u->(aFG X.base s1.heap (fl::cl.map (·.2))).get? b=some u:=fun b u z=>wA (I2.bk b u z) (.inl ⟨u,z⟩)
 have notfs:∀b∈frs X.stack,b∉fl::cl.map (·.2):=fun b hb z=>by
  rcases List.mem_cons.mp z with rfl|z
  ·exact e5 hb
  ·obtain⟨y,hy⟩:=memZ b z
   rcases List.mem_cons.mp (I2.aCE b hb) with q|q
   ·exact I2.cne y b hy q
   ·obtain⟨_,ob,eo,_⟩:=I2.ok.zT.mem q
    exact absurd (Nat.lt_of_lt_of_le (Heap.lt_size eo) (I2.ok.cab y b (hfn y) hy)) (Nat.lt_irrefl _)
 have aKr:aDW X.prog X.w X.K X.mg (aFG X.base s1.heap (fl::cl.map (·.2))) X.A X.stack s1 H2:=by
  refine⟨I2.ok.frames,I2.ok.mod.keeps keepB,fun b u z=>?_,Nat.le_of_eq (PySem.W.hideAll_size _ _),aIa I2.stack notfs,I2.aFf,I2.hok,I2.bare⟩
  obtain⟨z1,z2⟩:=aIR z
  refine⟨z1,?_⟩
  rcases z2 with ⟨u',z2⟩|z2
  ·exact(I2.bs b u' z2).2
  ·rcases List.mem_cons.mp z2 with rfl|z2
   ·exact e3
   ·obtain⟨y,hy⟩:=memZ b z2
    exact I2.freeC y b hy
 have caps:aOE (aFG X.base s1.heap (fl::cl.map (·.2))) scope N psL cl (idx.map fun j=>(σ[j]?).join):=by
  refine⟨S.kind,hco,hgen,S.nocell,hpre,S.nd,by rw[List.length_map];exact S.len,fun y hy=>?_,fun y z d h1 h2=>I2.ok.inj y z d (clo h1) (clo h2),fun y hy=>?_,fun y d hy=>?_,fun i y v h1 h2=>?_⟩
  ·have:=List.all_eq_true.mp hpar y hy
   simpa using this
  ·have hmem:=PySem.mem_of_lookup hy
   obtain⟨d,hd⟩:=cels _ hmem rfl
   exact⟨d,lkp hmem hd⟩
  ·obtain⟨v,oc,eo,ed⟩:=I2.cell y d (clo hy)
   exact⟨oc,v,wA eo (.inr (inZ hy)),ed⟩
  ·obtain⟨j,z1,z2,z3⟩:=S.cap i y h1
   refine⟨z3,?_⟩
   rw[List.getElem?_map,z1] at h2
   have h2j:(σ[j]?).join=some v:=Option.some.inj h2
   have h2':σ[j]?=some (some v):=by
    cases qj:σ[j]? with
    |none=>rw[qj] at h2j;cases h2j
    |some w=>rw[qj] at h2j;rw[show w=some v from h2j]
   have hfree:=PySem.mem_of_lookup z3
   have hkind:=S.free _ hfree rfl
   obtain⟨m0,hn0,hl0⟩:=I2.loc
   obtain⟨u,ru,l⟩:=hl0 j y v z2 h2' (by rcases hkind with z|z;exact .inr (.inl z);exact .inr (.inr z))
   rcases l with ⟨z,_⟩|⟨_,d,ed,oc,eo,dd⟩
   ·rcases hkind with w|w
    ·rw[w] at z;cases z
    ·rw[w] at z;cases z
   ·exact⟨u,d,oc,ru,lkp hfree ed,wA eo (.inr (inZ (lkp hfree ed))),dd⟩
 have lamK:=aOF (P:=X.prog) (w:=X.w) (K:=X.K) (mg:=X.mg) (N:=N) (ps:=psL) (wA e1 (.inr List.mem_cons_self)) e2 caps (hbody _ fl c' cl)
 have hC:Clo X.prog X.w X.K X.mg (aFG X.base s1.heap (fl::cl.map (·.2))) (kc+1) fl (aIQ c' q psL.length tl (idx.map fun j=>(σ[j]?).join)):=
  ⟨o,_,psL,wA e1 (.inr List.mem_cons_self),e2,lamK,fun s us hl=>.of_eq (hbind cl pm (.ref c') ct us hl)⟩
 have hsp:=hQ fl c' H2 _ sm e4 hC
 have r2:Vals (vs ++ [.ref fl]) (us0 ++ [.ref fl]):=r.append (.cons rfl .nil)
 have hl:(us0 ++ [Value.ref fl]).length=ps.length:=by rw[<-r2.length];exact(F _).len _ _ _ _ hsp
 have hb':=hb s1 (us0 ++ [.ref fl]) I2.kIn (by rw[List.append_nil];exact hl)
 rw[List.append_nil] at hb'
 refine wpAny_call (codeAny_mono ((F _).run X.A X.stack s1 H2 ⟨us0 ++ [.ref fl],[]⟩ (us0 ++ [.ref fl]) (vs ++ [.ref fl]) Q E0 hr aKr hb' r2 hsp) fun r s' hq=>?_)
 cases r with
 |error e=>exact False.elim hq
 |ok fl=>
  cases fl with
  |ret u=>exact I2.after hq
  |next=>exact False.elim hq
  |brk=>exact False.elim hq
  |cont=>exact False.elim hq
def aFH(C:Addr->Sp->Prop)(i:Nat)(t:TA):TE:=fun σ H Q=>∃f sp,σ[i]?=some (some (.ref f))/\C f sp/\t σ H fun vs H1=>sp vs H1 Q E0
theorem aDa{i k:Nat}{x:Str}{p:Pos}{e:Expr}{es:List Expr}{t:TA}(hN:X.N[i]?=some x)(hv:Vis X.env.scope x)(hr:fD k X.A)(ha:PA X (e::es) t)(hd:(x == ("__debug__" : Str))=false:=by decide)(hcd:(x == ("__classdict__" : Str))=false:=by decide)
  (he:starEach (e::es) X.env=(false,eval e X.env)::starEach es X.env:=by rfl) (hpl:(backTo pos (starEach es X.env)).any (·.1)=false:=by rfl) :
  PE X (.Call (.Name x p) (e::es) [] pos) (aFH (Clo X.prog X.w X.K X.mg X.base k) i t):=by
 intro P9 s σ H Q I h
 obtain⟨f,sp,ei,hC,ht⟩:=h
 obtain⟨o,fd,ps,ef,ed,F,hb⟩:=hC.ex
 refine wpAny_Call_Name_kw (cY (aKa hN hv hd hcd P9 s σ H (fun v H'=>v=.ref f/\H'=H) I ⟨_,ei,rfl,rfl⟩) fun u s0 ⟨v,H0,I0,rv,hvf,hH0⟩=>?_)
 subst hvf hH0
 obtain rfl:u=Value.ref f:=rv
 have hin:∀{pins' σ' H' s'},Inv X pins' σ' H' s'->W.Frag.In [(f,o)] s'.heap:=fun {pins' σ' H' s'} J a u z=>by
  rw[List.lookup_cons] at z
  split at z
  ·rename_i hb
   cases z
   rw[eq_of_beq hb]
   exact J.bk _ _ ef
  ·cases z
 have hkp:W.keepIn [(f,o)] (.ref f)=true:=by
  obtain⟨oc,od,odt,osl⟩:=o
  have:odt=.func fd:=ed
  subst this
  have z:List.lookup f [(f,({ cls:=oc,dict:=od,data:=.func fd,slots:=osl }:Obj))]=some { cls:=oc,dict:=od,data:=.func fd,slots:=osl }:=by rw[List.lookup_cons,beq_self_eq_true]
  unfold W.keepIn
  dsimp only
  rw[z]
 refine PySem.W.callWith_K (h₀:=s0.heap) (hin I0) hkp (cY (ha pos P9 s0 σ H0 _ I0 ht) fun us s1 ⟨vs,H1,I1,r,q⟩=>⟨hin I1,?_⟩) he hpl
 have hl:us.length=ps.length:=by rw[<-r.length];exact F.len _ _ _ _ q
 refine wpAny_call (codeAny_mono (F.run X.A X.stack s1 H1 ⟨us,[]⟩ us vs Q E0 hr I1.aKr (hb s1 us hl) r q) fun r s' hq=>?_)
 cases r with
 |error e=>exact False.elim hq
 |ok fl=>
  cases fl with
  |ret u=>exact I1.after hq
  |next=>exact False.elim hq
  |brk=>exact False.elim hq
  |cont=>exact False.elim hq
end
end L2
namespace L2
open PySem PySem.Spec PyProof.Rows
structure aLo(K:W.Frag)(fd:FuncData)(c Pt:Addr):Prop where
 code:fd.code=.ref c
 hd:PySem.W.codeHdIn K c Pt=true
theorem iL.okC{P:Program}{w:World}{K:W.Frag}{mg:Str->Option Value}{base:Heap}{x qual:Str}{st:Stmt}{f c Pt:Addr}{fd:FuncData}{N ps:List Str}{k:Nat}{sp:Sp}(F:iL K x qual st f fd)(hc:aLo K fd c Pt)(S:aW N ps (aB st))(len:∀vs H Q E,sp vs H Q E->vs.length=ps.length)
  (hbody:∀(A:Around) (outer:List Env) (s:Shared) (H:Hp) (vs:List V) (Q:VK) (E:XK),fD k (A.deeper (envOfC qual (aB st) s.heap.objs.size f (.ref c)))->sp vs H Q E->
   ∃t,PSs (aHO gF P w K mg base N qual (aB st) f (.ref c) A outer s H E).nox (aU st) t/\t { nx:=fun _ H'=>Q .non H',rt:=Q } (start N vs) H):bL P w K mg base gF (k+1) f fd ps sp:=by
 obtain⟨oc,od,kV,doc,pm,an,cdv,ct,osl,rfl,lk,hcd⟩:=F.ex
 obtain rfl:cdv=.ref c:=hc.code
 refine aM8 lk hcd S len fun A outer s H vs Q E hr hsp=>?_
 obtain⟨t,h,q⟩:=hbody A outer s H vs Q E hr hsp
 exact⟨t,h.nox,q⟩
theorem aE2{β:Type}{b:Addr}{p:β}:∀{l:List (Addr×β)},l.lookup b=some p->(b,p)∈l
 |[],h=>by cases h
 |(d,x)::r,h=>by
  rw[List.lookup_cons] at h
  cases hb:b == d with
  |true=>rw[hb] at h;cases h;rw[eq_of_beq hb];exact .head _
  |false=>rw[hb] at h;exact .tail _ (aE2 h)
theorem aJR{P:Program}{w:World}{K:W.Frag}{mg mb:Str->Option Value}{k:Nat}{fa a:Addr}{fd:FuncData}{x:Str}{sp:Sp}{s₁:Shared}{vs:List Value}{ns:List Int}{tabs:List (Addr×Pos×Str)}
  (KX:K.In s₁.heap) (hns:s₁.heap.Ns mainGlobals mg) (hb:s₁.heap.Ns builtinsNs mb) (hbb:∀x:Str,x≠"__name__"->mb x=bootBuiltins x) (hlim:s₁.heap.NoLimit) (hbm:∃bm o,mg "__builtins__" = some (.ref bm)/\bm≠builtinsNs/\s₁.heap.get? bm=some o/\o.cls=.type "module"/\o.dict=some builtinsNs/\o.data=.plain) (hg:s₁.gens = #[])
  (ha:s₁.heap.get? a=some { cls:=.type "list",data:=.seq vs.toArray }) (hi:IntsAre vs ns) (hl:ns.length<=sizeLine) (hr:fD k callerA)
  (hT:∀t∈tabs,s₁.heap.get? t.1=some { cls:=.none,data:=.fields #[] }/\K.lookup t.1=none/\∃c,PySem.W.codeHdIn K c t.1=true) (hnd:(tabs.map (·.1)).Nodup)
  (F:∀base:Heap,K.In base->base.Ns mainGlobals mg->bL P w K mg base gF k fa fd [x] sp) (hbind:∀(s:Shared) (u:Value),BindsTo s fd ⟨[u],[]⟩ [(x,u)])
  (hsp:∀H:Hp,(∀t∈tabs,H t.1=some (.ctb t.2.1 t.2.2))->bR K H a (ns.map V.int)->sp [.ref a] H (fun v H'=>v=.bl true/\aI H H') fun _ _ _=>False) :
  codeAny (model P w) callerA (.call (.ref fa) ⟨[.ref a],[]⟩) (fun r s'=>r=.ok (.ret (.bool true))/\OldK s₁.heap s'.heap/\s'.os=s₁.os/\AllBare s'.gens) s₁:=by
 have rv:=aBf hi
 have lenV:=hi.length
 have core:∀H:Hp,bR K H a (ns.map V.int)->vB P w H s₁.heap->(∀t∈tabs,H t.1=some (.ctb t.2.1 t.2.2))->(∀b u,H b=some u->(b=a/\K.lookup a=none/\∃o xs,u=.frz o (.lst xs))\/∃t∈tabs,b=t.1/\u=.ctb t.2.1 t.2.2)->
   codeAny (model P w) callerA (.call (.ref fa) ⟨[.ref a],[]⟩) (fun r s'=>r=.ok (.ret (.bool true))/\OldK s₁.heap s'.heap/\s'.os=s₁.os/\AllBare s'.gens) s₁:=by
  intro H hS hok hTH hA
  have base_of:∀{b:Addr} {o:Obj},s₁.heap.get? b=some o->H b=none->(yB s₁.heap H).get? b=some o:=fun e n=>aGu e n
  have noA:∀{b:Addr} {o:Obj} {es:Array DictEntry} {ep:Nat},s₁.heap.get? b=some o->o.data=.dict es ep->H b=none:=fun {b o es ep} e d=>by
   cases q:H b with
   |none=>rfl
   |some u=>
    rcases hA b u q with ⟨e',_⟩|⟨t,ht,e',_⟩
    ·subst e'
     rw[ha] at e;cases e
     have d':Data.seq vs.toArray _=Data.dict es ep:=d
     cases d'
    ·rw[e',(hT t ht).1] at e;cases e
     have d':Data.fields _=Data.dict es ep:=d
     cases d'
  have nsK:∀{b:Addr} {m:Str->Option Value},s₁.heap.Ns b m->(yB s₁.heap H).Ns b m:=fun {b m} ⟨o,es,ep,e,d,r⟩=>⟨o,es,ep,base_of e (noA e d),d,r⟩
  have hKb:K.In (yB s₁.heap H):=fun b o e=>base_of (KX b o e) (by
   cases q:H b with
   |none=>rfl
   |some u=>
    rcases hA b u q with ⟨e',hn,_⟩|⟨t,ht,e',_⟩
    ·rw[e',hn] at e;cases e
    ·rw[e',(hT t ht).2.1] at e;cases e)
  have hbm':∃bm o,mg "__builtins__" = some (.ref bm)/\bm≠builtinsNs/\(yB s₁.heap H).get? bm=some o/\o.cls=.type "module"/\o.dict=some builtinsNs/\o.data=.plain:=by
   obtain⟨bm,ob,b1,b2,b3,b4,b5,b6⟩:=hbm
   refine⟨bm,ob,b1,b2,base_of b3 ?_,b4,b5,b6⟩
   cases q:H bm with
   |none=>rfl
   |some u=>
    rcases hA bm u q with ⟨e',_⟩|⟨t,ht,e',_⟩
    ·rw[e',ha] at b3
     cases b3
     exact absurd (show Value.type "list" = Value.type "module" from b4) (by decide)
    ·rw[e',(hT t ht).1] at b3
     cases b3
     exact absurd (show Value.none=Value.type "module" from b4) (by decide)
  have hM:Mod K mg (yB s₁.heap H):=⟨hKb,nsK hns,⟨mb,nsK hb,hbb⟩,(let ⟨mc,h1,h2⟩:=hlim;⟨mc,nsK h1,h2⟩),hbm'⟩
  have e0:aDW P w K mg (yB s₁.heap H) callerA [] s₁ H:=⟨rfl,hM,fun b o e=>aIx e,Nat.le_of_eq (aEL _ _),trivial,fun b hb=>absurd (show b∈([]:List Addr) from hb) (by simp),hok,.of_eq hg⟩
  refine codeAny_mono ((F _ hKb (nsK hns)).run callerA [] s₁ H ⟨[.ref a],[]⟩ [.ref a] [.ref a] _ _ hr e0 (hbind s₁ (.ref a)) (.cons rfl .nil) (hsp H hTH hS)) fun r s' h=>?_
  cases r with
  |error e=>exact False.elim h
  |ok fl=>
   cases fl with
   |next=>exact False.elim h
   |brk=>exact False.elim h
   |cont=>exact False.elim h
   |ret u=>
    obtain⟨v,H',os,bare,un,hok',r',q,sm⟩:=h
    have q':v=.bl true:=q
    subst q'
    obtain rfl:u=Value.bool true:=r'
    have key:∀b o,s₁.heap.get? b=some o->s'.heap.get? b=some o\/∃c ps,PySem.W.codeHdIn K c b=true/\o={ cls:=.none,data:=.fields #[] }/\s'.heap.get? b=some { cls:=.none,data:=.fields ps }:=fun b o e=>by
     cases q:H b with
     |none=>exact .inl (un.keep b o e q (by intro z;exact absurd (show b∈([]:List Addr) from z) (by simp)) (by simp))
     |some u=>
      rcases hA b u q with ⟨_,_,ob,xs,rfl⟩|⟨t,ht,e',rfl⟩
      ·have z2:=un.frzs b ob _ q
       obtain⟨e1,_⟩:=hok b _ q
       obtain⟨e2,_⟩:=hok' b _ z2
       rw[e] at e1;cases e1
       exact .inl e2
      ·obtain⟨ps,z,_⟩:=hok' b _ (sm b _ q)
       obtain⟨h1,_,c,hc⟩:=hT t ht
       rw[<-e'] at h1 hc
       rw[e] at h1
       exact .inr ⟨c,ps,hc,Option.some.inj h1,z⟩
    refine⟨rfl,⟨fun b o e=>?_,fun b o e=>?_⟩,os,bare⟩
    ·rcases key b o e with z|⟨c,ps,hc,rfl,z⟩
     ·exact .inl z
     ·refine .inr (.inl ⟨?_,rfl,#[],ps,rfl,?_⟩)
      ·obtain⟨oc,vs,_,_,_,_,_,_,_,f1,f2,f3,f4,_⟩:=PySem.W.codeHd_of_K KX hc
       exact⟨c,oc,vs,f1,f2,f3,f4⟩
      ·rw[z];simp
    ·rcases key b o e with z|⟨c,ps,hc,rfl,z⟩
     ·exact⟨_,z⟩
     ·exact⟨_,z⟩
 have lkT:∀t∈tabs,tabs.lookup t.1=some t.2:=by
  clear hT hsp core
  induction tabs with
  |nil=>intro t h;cases h
  |cons q r ih=>
   intro t ht
   rw[List.lookup_cons]
   rcases List.mem_cons.mp ht with rfl|ht
   ·rw[beq_self_eq_true]
   ·have ne:t.1≠q.1:=fun z=>(List.nodup_cons.mp hnd).1 (List.mem_map.mpr ⟨t,ht,z⟩)
    rw[beq_eq_false_iff_ne.mpr ne]
    exact ih (List.nodup_cons.mp hnd).2 t ht
 have memT:∀{b:Addr} {p:Pos×Str},tabs.lookup b=some p->(b,p)∈tabs:=fun {b p} h=>aE2 h
 have naT:∀t∈tabs,t.1≠a:=fun t ht z=>by
  have:=(hT t ht).1
  rw[z,ha] at this
  cases this
 have okT:∀(H:Hp) (t:Addr×Pos×Str),t∈tabs->bO P w H s₁.heap t.1 (.ctb t.2.1 t.2.2):=fun H t ht=>⟨#[],(hT t ht).1,trivial,.inl rfl⟩
 cases hk:K.lookup a with
 |some o=>
  have e:=KX a o hk
  rw[ha] at e
  cases e
  refine core (fun b=>(tabs.lookup b).map fun p=>.ctb p.1 p.2) (.inr ⟨_,vs.toArray,_,hk,rfl,rfl,rfl,by rw[List.size_toArray,lenV];exact hl,by simpa using rv⟩) (fun b u z=>?_) (fun t ht=>?_) fun b u z=>?_
  ·obtain⟨p,hp,rfl⟩:=Option.map_eq_some_iff.mp z
   exact okT _ _ (memT hp)
  ·show(tabs.lookup t.1).map _=_
   rw[lkT t ht];rfl
  ·obtain⟨p,hp,rfl⟩:=Option.map_eq_some_iff.mp z
   exact .inr ⟨_,memT hp,rfl,rfl⟩
 |none=>
  refine core (fun b=>if b=a then some (.frz { cls:=.type "list",data:=.seq vs.toArray } (.lst (ns.map V.int))) else (tabs.lookup b).map fun p=>.ctb p.1 p.2) (.inl (.inr ⟨{ cls:=.type "list",data:=.seq vs.toArray },if_pos rfl⟩)) (fun b u z=>?_) (fun t ht=>?_) fun b u z=>?_
  ·by_cases hb:b=a
   ·have z':=(if_pos hb).symm.trans z
    cases z'
    subst hb
    exact⟨ha,by rw[List.length_map];exact hl,vs,_,rv,ha⟩
   ·have z':=(if_neg hb).symm.trans z
    obtain⟨p,hp,rfl⟩:=Option.map_eq_some_iff.mp z'
    exact okT _ _ (memT hp)
  ·show(if t.1=a then _ else (tabs.lookup t.1).map _)=_
   rw[if_neg (naT t ht),lkT t ht];rfl
  ·by_cases hb:b=a
   ·have z':=(if_pos hb).symm.trans z
    cases z'
    exact .inl ⟨hb,hk,_,_,rfl⟩
   ·have z':=(if_neg hb).symm.trans z
    obtain⟨p,hp,rfl⟩:=Option.map_eq_some_iff.mp z'
    exact .inr ⟨_,memT hp,rfl,rfl⟩
theorem aLp{l:PySem.W.OpenLaw}{n k:Nat}{q:Program}{loose:List Str}{XP:(Str->Option Value)->Heap->Prop}{YP:World->Heap->Prop}{d:DefRec}{K:Params->W.Frag}{sp:World->Sp}{x:Str}{tabs:List (Addr×Pos×Str)}
  (hn:l.most=some n) (hn2:n<=sizeLine) (hdf:d.params.defaults=[]) (hr:fD k callerA) (hnd:(tabs.map (·.1)).Nodup)
  (hY:∀(w:World) (h:Heap),YP w h->(K w.params).In h/\∀t∈tabs,h.get? t.1=some { cls:=.none,data:=.fields #[] })
  (hK:∀(w:World),∀t∈tabs,(K w.params).lookup t.1=none)
  (F:∀(w:World) (mg:Str->Option Value) (fa:Addr) (h:Heap),(K w.params).In h->h.Ns mainGlobals mg->mg d.name=some (.ref fa)->(∀t∈tabs,∃c,PySem.W.codeHdIn (K w.params) c t.1=true)/\
   ∃fd:FuncData,(∀(s:Shared) (u:Value),BindsTo s fd ⟨[u],[]⟩ [(x,u)])/\
    ∀base:Heap,(K w.params).In base->base.Ns mainGlobals mg->bL l.prog w (K w.params) mg base gF k fa fd [x] (sp w))
  (hsp:∀(w:World) (H:Hp) (a:Addr) (ns:List Int),ns.length<=n->(∀t∈tabs,H t.1=some (.ctb t.2.1 t.2.2))->bR (K w.params) H a (ns.map V.int)->sp w [.ref a] H (fun v H'=>v=.bl true/\aI H H') fun _ _ _=>False) :
  PySem.W.WalkO q loose XP YP l.row.toRowW d [] (fun f vs=>PySem.call f vs):=by
 refine Att.aGJ hn hdf fun w s₀ s₁ mg mb fa o pm cd doc a vs ns G Y ho hd hcd hmg hobj hints hlen hg=>?_
 obtain⟨KX,hT⟩:=hY w _ Y
 obtain⟨hcd',fd,hb,hF⟩:=F w mg fa _ KX G.T.g hmg
 exact aJR KX G.T.g G.T.b G.T.builtins G.T.nolimit G.T.bmain hg hobj hints (Nat.le_trans hlen hn2) hr (fun t ht=>⟨hT t ht,hK w t ht,hcd' t ht⟩) hnd hF hb (fun H hO hS=>hsp w H a ns hlen hO hS)
section
variable{X:Cx}{σ:St}{H:Hp}{Q:VK}
theorem aLq{Pt:Addr}{lpos:Pos}{q:Str}{sp:(Addr->Sp->Prop)->Sp}{n:Nat}{tl:TE}{idx:List Nat}{t:TA}(h:t σ H fun vs H1=>H1 Pt=some (.ctb lpos q)/\
  ∀(f c':Addr) (H2:Hp) (C:Addr->Sp->Prop),aI H1 H2->H2 c'=some (.cod q)->C f (aIQ c' q n tl (idx.map fun j=>(σ[j]?).join))->sp C (vs ++ [.ref f]) H2 Q E0):aIb Pt lpos q sp n tl idx t σ H Q:=h
theorem aG4{C:Addr->Sp->Prop}{i:Nat}{t:TA}{f:Addr}{sp:Sp}(e:σ[i]?=some (some (.ref f)))(hC:C f sp)(h:t σ H fun vs H1=>sp vs H1 Q E0):aFH C i t σ H Q:=⟨f,sp,e,hC,h⟩
end
end L2
namespace L2.Z
open PySem PySem.Spec PyProof.Rows L2
section
variable{X:Cx}{c Pt:Addr}{q:Str}{params:Arguments}{body:Expr}{scope:Scope}{pos lpos:Pos}{cl:List (Str×Addr)}
structure QAL(X:Cx)(es:List Expr)(params:Arguments)(body:Expr)(scope:Scope)(lpos:Pos)(Pt:Addr)(q:Str)(cl:List (Str×Addr))(t:TA):Prop where
 h:PAL X es params body scope lpos Pt q cl t
theorem aCz(hcode:X.env.code=.ref c)(hC:PySem.W.codeHdIn X.K c Pt=true)(hq:X.env.qual ++ "<lambda>" = q)(hdef:defaultsOf params X.env=([],[])){N:List Str}{n:Nat}{idx:List Nat}(S:eR X scope N n idx) :
  QAL X [.Lambda params body scope lpos] params body scope lpos Pt q (nF X.env scope.names []) oV:=⟨aLm hcode hC hq hdef S⟩
theorem xW{e:Expr}{es:List Expr}{te:TE}{t:TA}(ha:QE X e te)(hr:QAL X es params body scope lpos Pt q cl t)(hn:noStar e=true:=by rfl):QAL X (e::es) params body scope lpos Pt q cl (bG te t):=
 ⟨aLn ha.h hr.h (bM hn)⟩
theorem sE{f:Addr}{fd:FuncData}{ps psL N:List Str}{idx:List Nat}{sp:(Addr->Sp->Prop)->Sp}{k kc:Nat}{x:Str}{p:Pos}{e:Expr}{es:List Expr}{t:TA}{tl:TE}
  (F:∀base':Heap,bL X.prog X.w X.K X.mg base' gF k f fd ps (sp (Clo X.prog X.w X.K X.mg base' (kc+1)))) (hr:fD k X.A) (hg:Gl X x) (hm:X.mg x=some (.ref f)) (hk:W.keepIn X.K (.ref f)=true) (hb:Binds X.K fd ps [])
  (hfn:∀y,X.fn y=true) (S:eR X scope N psL.length idx) (hpre:N.take psL.length=psL) (hpar:psL.all (fun x=>scope.names.lookup x == some .local)=true) (hco:scope.isCoroutine=false) (hgen:scope.isGenerator=false)
  (hbind:∀(cl:List (Str×Addr)) (pm cd ct:Value) (us:List Value),us.length=psL.length->bindArgs (aE1 q params body scope cl pm cd ct) ⟨us,[]⟩=pure (psL.zip us))
  (ha:QAL X (e::es) params body scope lpos Pt q (nF X.env scope.names []) t)
  (hbody:∀(base':Heap) (f' c':Addr) (cl:List (Str×Addr)) (A:Around) (outer:List Env) (s:Shared) (H:Hp),fD kc (A.deeper (v9 q scope s.heap.objs.size f' (.ref c') cl))->(A.deeper (v9 q scope s.heap.objs.size f' (.ref c') cl)).units+9 < cLine->QE (cxL X.prog X.w X.K X.mg base' N q scope f' (.ref c') cl A outer s H) body tl)
  (hn:(e::es).all noStar=true:=by rfl) (hdb:(x == ("__debug__" : Str))=false:=by decide) :
  QE X (.Call (.Name x p) (e::es) [] pos) (aIb Pt lpos q sp psL.length tl idx t):=
 ⟨L2.sE F hr hg hm hk hb hfn S hpre hpar hco hgen hbind ha.h (fun base' f' c' cl A outer s H hr'=>(hbody base' f' c' cl A outer s H hr' (jI hr')).h) hdb (bM (iM hn).1) (jW (iM hn).2)⟩
theorem aDa{i k:Nat}{x:Str}{p:Pos}{e:Expr}{es:List Expr}{t:TA}(hr:fD k X.A)(ha:QA X (e::es) t)(hN:X.N[i]?=some x:=by rfl)(hv:Vis X.env.scope x:=by first|exact Or.inl rfl|exact Or.inr (Or.inl rfl)|exact Or.inr (Or.inr rfl))
  (hn:(e::es).all noStar=true:=by rfl) (hd:(x == ("__debug__" : Str))=false:=by decide) (hcd:(x == ("__classdict__" : Str))=false:=by decide) :
  QE X (.Call (.Name x p) (e::es) [] pos) (aFH (Clo X.prog X.w X.K X.mg X.base k) i t):=⟨L2.aDa hN hv hr ha.h hd hcd (bM (iM hn).1) (jW (iM hn).2)⟩
end
end L2.Z
namespace PySem
set_option maxRecDepth 100000
namespace F
theorem aIc:typeLookup (.type "list_reverseiterator") "__len__" = pure none:=by rw[typeLookup_type,builtinLookup_eq_fast];kernel_rfl
theorem aLr:typeLookup (.type "list_reverseiterator") "__length_hint__" = pure (some (.builtin "list_reverseiterator.__length_hint__")):=by rw[typeLookup_type,builtinLookup_eq_fast];kernel_rfl
end F
section
variable{prog:Program}{w:World}{A:Around}{E:Value->Shared->Prop}{s:Shared}
theorem aDb{it l:Addr}{i:Int}{Q:Bool->Shared->Prop}(hit:s.heap.IsRevIter it l i)(h:Q false s):wpAny (model prog w) A (Builtin.List.listLengthHint (.ref it)) Q E s:=by
 unfold Builtin.List.listLengthHint;refine wpAny_bind (wpAny_specialOf hit.typeIs F.aIc ?_)
 show wpAny _ A (specialOf (Value.ref it) (Str.ofString "__length_hint__") >>= _) _ _ _
 refine wpAny_bind (wpAny_specialOf hit.typeIs F.aLr ?_)
 generalize hid:("list_reverseiterator.__length_hint__" : String)=id0
 wp_delta
 rw[show splitId id0=some ("list_reverseiterator","__length_hint__") from by subst hid;decide +kernel]
 subst hid
 refine wpAny_bind (wpAny_isInstance (T:="list_reverseiterator") (b:=true) hit.typeIs (by rw[isSubtype_type];kernel_rfl) ?_)
 exact wpAny_ite_split (fun z=>absurd z (by decide)) fun _=>wpAny_ite_split (fun _=>wpAny_ite_split (fun z=>absurd z (by decide +kernel)) fun _=>wpAny_pure h) fun z=>absurd (by decide +kernel) z
end
end PySem
namespace PySem
section
variable{prog:Program}{w:World}{A:Around}{E:Value->Shared->Prop}{s:Shared}
theorem aBo{R:Result->Shared->Prop}{it l:Addr}{items:Array Value}(hh:A.handled=none)(hit:s.heap.IsRevIter it l ((items.size:Int) - 1))(hl:s.heap.IsList l items)(hne:l≠it)
  (hlen:items.size<=sizeLine) (S:Addr) (res:Value) (c₀:Nat) (hS:s.heap.get? S=some { cls:=.type "list",data:=.seq #[] c₀ }) (hSl:S≠l) (hSI:S≠it)
  (hR:∀h' tk acc' c',(∀b o,b≠S->b≠it->s.heap.get? b=some o->h'.get? b=some o)->h'.get? S=some { cls:=.type "list",dict:=none,data:=.seq acc' c',slots:=#[] }->
   ItemsOf (fun i v=>items[items.size - 1 - i]?=some v) acc' items.size->R (.ok (.ret res)) { s with heap:=h',toks:=tk }) :
  wpAny (model prog w) A.in1 (Builtin.List.listExtendWith (.ref S) (.ref it) res) (fun fin s'=>match fin with|.done f=>R (.ok f) s'|.again k=>k.quiet=true/\codeAny (model prog w) A k R s') (fun e s'=>R (.error e) s') s:=by
 have hSf:S∉[it,l]:=by simp[hSI,hSl]
 have W:=(Walks.listRev (prog:=prog) (w:=w) (A:=A.in1) hh it l hne items).toS
 unfold Builtin.List.listExtendWith;refine wpAny_bind (wpAny_typeOf (T:="list_reverseiterator") hit.typeIs ?_)
 have h1:Builtin.List.listSameRef (.ref S) (.ref it)=false:=by simp[Builtin.List.listSameRef,hSI]
 have h2:(Value.type "list_reverseiterator" == Value.type "list")=false:=by decide
 have h3:(Value.type "list_reverseiterator" == Value.type "tuple")=false:=by decide
 simp only[h1,h2,h3,Bool.false_eq_true,Bool.or_false,if_false]
 refine wpAny_bind (wpAny_pyIter_revIter hit (wpAny_bind (wpAny_holding (aDb hit ?_))))
 refine wpAny_ite_split (fun z=>by cases z) (fun _=>wpAny_pure ⟨plainId_quiet F.plain_extend_loop _,?_⟩)
 refine codeAny_extend_loopS W hlen S hSf res items.size 0 _ #[] c₀ rfl (Nat.zero_le _) ⟨Nat.zero_le _,?_,hl⟩ hS (ItemsOf.nil _) fun s' acc' c' hm hS' hacc=>?_
 ·rw[show(items.size:Int) - 1 - ((0:Nat):Int)=(items.size:Int) - 1 by omega]
  exact hit
 ·rw[Moved.eq_with hm]
  exact hR s'.heap s'.toks acc' c' (fun b o hb hi e=>hm.heap b o (by simp[hb,hi]) e) hS' hacc
theorem aD1{Q:Value->Shared->Prop}{it l:Addr}{items:Array Value}(hh:A.handled=none)(hit:s.heap.IsRevIter it l ((items.size:Int) - 1))(hl:s.heap.IsList l items)(hne:l≠it)(hlen:items.size<=sizeLine)
  (hQ:∀h' tk acc' c',(∀b o,b≠it->s.heap.get? b=some o->h'.get? b=some o)->
   h'.get? s.heap.objs.size=some { cls:=.type "list",dict:=none,data:=.seq acc' c',slots:=#[] }->ItemsOf (fun i v=>items[items.size - 1 - i]?=some v) acc' items.size->Q (.ref s.heap.objs.size) { s with heap:=h',toks:=tk }) :
  wpAny (model prog w) A (call (.type "list") [.ref it]) Q E s:=by
 have lit:it < s.heap.objs.size:=let ⟨_,e,_⟩:=hit;Heap.lt_size e
 have ll:l < s.heap.objs.size:=let ⟨_,e,_⟩:=hl;Heap.lt_size e
 have hS:(s.heap.push { cls:=.type "list",data:=.seq #[] }).get? s.heap.objs.size=some { cls:=.type "list",data:=.seq #[] }:=by exact Heap.get?_push_size _ rfl
 have hS₂:=Heap.get?_update_self (Obj.mapSeq fun _=>(#[]:Array Value)) hS rfl
 have old:∀b o,s.heap.get? b=some o->((s.heap.push { cls:=.type "list",data:=.seq #[] }).update s.heap.objs.size (Obj.mapSeq fun _=>(#[]:Array Value))).get? b=some o:=
  fun b o e=>(Heap.get?_update_other _ _ (Nat.ne_of_gt (Heap.lt_size e))).trans (Heap.get?_push_of_some _ e)
 refine callType_codes (Q₁:=fun x t=>x=.ref s.heap.objs.size/\t={ s with heap:=s.heap.push { cls:=.type "list",data:=.seq #[] } }) F.called_list (F.typeCall_list_1 _) F.entry_list_init (code_list_new _ ⟨rfl,rfl⟩) ?_
 rintro x t ⟨rfl,rfl⟩
 refine⟨⟨_,hS,rfl⟩,F.args_list_init_2 _ _,?_⟩
 show wpAny _ _ (Builtin.List.listItems (.ref s.heap.objs.size) >>= fun old=>Builtin.List.listUpdate (.ref s.heap.objs.size) (fun _=>#[]) >>= fun _=>letGo old.toList.reverse >>= fun _=>Builtin.List.listExtendWith (.ref s.heap.objs.size) (.ref it) .none) _ _ _
 refine wpAny_bind (wpAny_listItems hS rfl ?_)
 show wpAny _ _ (updateSeq s.heap.objs.size (fun _=>#[]) >>= fun _=>letGo (#[]:Array Value).toList.reverse >>= fun _=>Builtin.List.listExtendWith (.ref s.heap.objs.size) (.ref it) .none) _ _ _
 refine wpAny_bind (wpAny_updateSeq hS rfl (wpAny_bind (wpAny_letGo (aBo (A:=A.in1) hh (hit.at fun o e=>old _ _ e) (hl.at fun o e=>old _ _ e) hne hlen s.heap.objs.size .none _ hS₂ (Nat.ne_of_gt ll) (Nat.ne_of_gt lit) fun h' tk acc' c' hk hS' hacc=>?_))))
 exact⟨rfl,hQ h' tk acc' c' (fun b o hb e=>hk b o (Nat.ne_of_lt (Heap.lt_size e)) hb (old b o e)) hS' hacc⟩
end
end PySem
namespace L2
open PySem PySem.Spec PyProof.Rows
section
variable{X:Cx}
def aDc(t:TA):TE:=fun σ H Q=>t σ H fun vs H1=>∃l xs,vs=[.ref l]/\H1 l=some (.lst xs)/\∀q,H1 q=none->Q (.ref q) (upd H1 q (.lst xs.reverse))
theorem aLs{xs:List V}{us:List Value}(r:Vals xs us):Vals xs.reverse us.reverse:=by
 induction r with
 |nil=>exact .nil
 |cons h t ih=>
  simp only[List.reverse_cons]
  exact ih.append (.cons h .nil)
theorem zB{e:Expr}{t:TA}{p1 p2 pos1 pos2:Pos}(hc:X.calm=true)(hg1:Gl X "list")(hm1:X.mg "list" = none)(hg2:Gl X "reversed")(hm2:X.mg "reversed" = none)(he:PA X [e] t)(hn:noStar e=true:=by rfl) :
  PE X (.Call (.Name "list" p1) [.Call (.Name "reversed" p2) [e] [] pos2] [] pos1) (aDc t):=by
 intro P9 s σ H Q I h
 refine Call_ (rH I hg1 hm1 lJ (PyProof.Rows.callWith_type1 (Calls.spliced_cons ?_) rfl rfl))
 refine Call_ (rH I hg2 hm2 boot_reversed (PyProof.Rows.callWith_type1 (cY (he pos2 P9 s σ H _ I h) fun us s1 ⟨vs,H1,I1,r1,l,xs,ex,hl,q⟩=>?_) (bM hn) rfl))
 subst ex
 obtain⟨u,rfl,ru⟩:=vals1 r1
 obtain rfl:u=Value.ref l:=ru
 obtain⟨hz,its,n,rv,eo⟩:=I1.hok l _ hl
 have hlist:s1.heap.IsList l its.toArray:=⟨_,eo,rfl,n,rfl⟩
 refine call_reversed_list hlist (Calls.spliced_nil ?_)
 have hll:l < s1.heap.objs.size:=Heap.lt_size eo
 refine aD1 (it:=s1.heap.objs.size) (l:=l) (items:=its.toArray) (I.ok.hd hc) ⟨_,Heap.get?_push_size _ rfl,rfl,rfl⟩ ⟨_,Heap.get?_push_of_some _ eo,rfl,n,rfl⟩ (Nat.ne_of_lt hll) (by rw[List.size_toArray,<-rv.length];exact hz) fun h' tk acc' c' hk hS ha=>?_
 have eacc:acc'.toList=its.reverse:=by
  obtain⟨h1,h2⟩:=ha
  refine List.ext_getElem? fun i=>?_
  by_cases hi:i < acc'.size
  ·have e1:acc'[i]?=some acc'[i]:=Array.getElem?_eq_getElem hi
   have e2:=h2 i _ e1
   rw[Array.getElem?_toList,e1,List.getElem?_reverse (by rw[h1,List.size_toArray] at hi;exact hi)]
   rw[<-e2,List.size_toArray,List.getElem?_toArray]
  ·rw[List.getElem?_eq_none (by rw[Array.length_toList];omega),List.getElem?_eq_none (by rw[List.length_reverse];rw[h1,List.size_toArray] at hi;omega)]
 have hv:Vals xs.reverse acc'.toList:=by rw[eacc];exact aLs rv
 have sz:s1.heap.objs.size<=(s1.heap.push (revObj l ((its.toArray.size:Int) - 1))).objs.size:=by rw[Heap.size_push];omega
 exact⟨.ref _,_,I1.laid (t':=tk) (o:=.lst xs.reverse) (fun b u e=>hk b u (Nat.ne_of_lt (Heap.lt_size e)) (Heap.get?_push_of_some _ e)) sz ⟨by rw[List.length_reverse];exact hz,acc'.toList,c',hv,hS⟩,rfl,q _ (I1.hok.fresh sz)⟩
end
end L2
namespace L2
open PySem PySem.Spec PyProof.Rows
section
variable{X:Cx}
def aLt(K:W.Frag):List V->Hp->VK->Prop:=fun vs H Q=>∃(p:Addr) (ns:List Int),vs=[.ref p]/\bR K H p (ns.map V.int)/\ns≠[]/\∀m,m∈ns->(∀x∈ns,m<=x)->Q (.int m) H
theorem aJS(hc:X.calm=true):eA X (.builtin "min") (aLt X.K):=by
 intro P9 s σ H vs us Q I r h
 obtain⟨p,ns,rfl,hq,hne,q⟩:=h
 obtain⟨u,rfl,rx⟩:=vals1 r
 cases rx
 obtain⟨its,r',pl,hz⟩:=I.list hq
 have hi:=intsAre_of r'
 obtain⟨xs,hx⟩:=hi.allInts.items
 have e1:ns=xs.toList.map (·.1):=by rw[<-nums_intItems,<-hx];exact(show numsOf its.toArray.toList=ns from hi.numsOf).symm
 have hsz:0 < xs.size:=by
  have z:=List.length_pos_iff.mpr hne
  rw[e1,List.length_map,Array.length_toList] at z
  exact z
 refine min_intList (I.ok.hd hc) (hx▸pl.isList:s.heap.IsList p (intItems xs)) hsz fun v h' tk hv hk=>?_
 obtain⟨t,rfl⟩:=intItems_at hv
 obtain⟨h1,h2⟩:=argBest_lt (numAt xs) (xs.size - 1)
 refine⟨.int _,H,I.kept (t':=tk) hk,⟨t,rfl⟩,q _ ?_ fun x hx'=>?_⟩
 ·rw[e1,numAt_eq];exact getD_mem (by rw[List.length_map,Array.length_toList];omega)
 ·rw[e1] at hx'
  obtain⟨j,hj,rfl⟩:=mem_getD hx'
  rw[List.length_map,Array.length_toList] at hj
  rw[<-numAt_eq];exact h2 j (by omega)
theorem aMR{K:W.Frag}{H:Hp}{Q:VK}{p:Addr}{ns:List Int}(h1:bR K H p (ns.map V.int))(hne:ns≠[])(h:∀m,m∈ns->(∀x∈ns,m<=x)->Q (.int m) H):aLt K [.ref p] H Q:=⟨p,ns,rfl,h1,hne,h⟩
def aDd:TE:=fun _ H Q=>(∀p,H p=none->Q (.ref p) (upd H p (.dK [])))\/∀p,H p=none->Q (.ref p) (upd H p (.dT []))
theorem o8{pos:Pos}:PE X (.Dict [] [] pos) aDd:=by
 intro P9 s σ H Q I h
 rcases h with h|h
 ·exact aKD P9 s σ H Q I h
 ·exact aKE P9 s σ H Q I h
theorem aE3{σ:St}{H:Hp}{Q:VK}(h:∀p,H p=none->Q (.ref p) (upd H p (.dK []))):aDd σ H Q:=.inl h
theorem aBp{σ:St}{H:Hp}{Q:VK}(h:∀p,H p=none->Q (.ref p) (upd H p (.dT []))):aDd σ H Q:=.inr h
def Itw(hi:Int)(n:Nat):It:=⟨fun i _=>i < n,fun i H x H'=>H'=H/\x=.int (hi - i),fun i _=>n<=i⟩
theorem aJT{P:Program}{w:World}{K:W.Frag}{tg:Expr}(it:Addr)(hi:Int)(n:Nat):Turn P w K tg (Itw hi n) [it] it (fun i h=>IsRangeIter h it (hi+(i:Nat) * -1) ((n:Int) - (i:Nat)) (-1)) where
 mem:=by simp
 obj:=fun i h st b hb=>by
  have e:b=it:=by simpa using hb
  rw[e]
  exact⟨_,st,fun v z=>by
   have z':Data.fields _=Data.cell v:=z
   cases z'⟩
 keep:=fun i h h' st k=>k it (by simp) _ st
 item:=by
  intro X hP hw hK hc i P9 s σ H E I hf st hg
  subst hP hw hK
  obtain⟨f0,f1,f2,f3,f4,f5⟩:=hf it (by simp)
  refine(Walks.range (prog:=X.prog) (w:=X.w) (I.ok.hd hc) it hi (-1) n).item i s _ _ hg st fun v h' tk hv st' kk=>?_
  obtain⟨t,rfl⟩:=hv
  refine⟨_,rfl,aEO (s:={ s with heap:=h',toks:=tk }) (n:="range_iterator") st' rfl rfl (by decide) ⟨.int (hi - i),H,I.turned (fun b o hb e=>kk b o (by simpa using hb) e) f0 f1 f3 f4 f5,⟨t,?_⟩,⟨rfl,rfl⟩,st',fun b hb=>(hf b hb).1⟩⟩
  congr 1
  omega
 done:=by
  intro X hP hw hK hc i P9 s σ H E I hf st hg
  subst hP hw hK
  obtain⟨f0,f1,f2,f3,f4,f5⟩:=hf it (by simp)
  exact wpAny_pyNext_range_end (I.ok.hd hc) st (by have:n<=i:=hg;omega) fun h' eb=>⟨rfl,I.turned (t':=s.toks) (fun b o hb e=>eb b o hb e) f0 f1 f3 f4 f5⟩
 self:=fun _ _ _ _ _ st h=>wpAny_pyIter_rangeiter st h
theorem aE4(a b:Int):Builtin.Range.rangeSize a b (-1)=(((a - b).toNat:Nat):Int):=by
 unfold Builtin.Range.rangeSize
 rw[if_neg (by decide)]
 split
 ·rw[show -(-1:Int)=1 from rfl,Int.ediv_one];omega
 ·omega
theorem small_down{a b:Int}(h1:-(2 ^ 62)<=a)(h2:a < 2 ^ 62)(h3:-(2 ^ 62)<=b)(h4:b < 2 ^ 62):Builtin.Range.small a b (-1)=true:=by
 unfold Builtin.Range.small
 simp only[aE4,Builtin.Range.rangeFitsLong,Bool.and_eq_true,Bool.or_eq_true,decide_eq_true_eq,beq_iff_eq]
 rw[if_neg (by decide)]
 simp only[Bool.and_eq_true,decide_eq_true_eq]
 omega
def aLu(ta:TA):TI:=fun σ H R=>ta σ H fun vs H1=>∃i j:Int,vs=[.int i,.int j,.int (-1)]/\(-(2 ^ 62)<=i/\i < 2 ^ 62/\-(2 ^ 62)<=j/\j < 2 ^ 62)/\R (Itw i (i - j).toNat) H1
theorem aBq{a b c:Expr}{ta:TA}{p pos:Pos}{tg:Expr}(hg:Gl X "range")(hm:X.mg "range" = none)(ha:PA X [a,b,c] ta)(hn:[a,b,c].all noStar=true:=by rfl):PI X tg (.Call (.Name "range" p) [a,b,c] [] pos) (aLu ta):=by
 intro P9 s σ H R I h
 refine Call_ (rH I hg hm boot_range (PyProof.Rows.callWith_type1 (cY (ha pos P9 s σ H _ I h) fun us s1 ⟨vs,H1,I1,r1,i,j,e,⟨q1,q2,q3,q4⟩,q⟩=>?_) (bM (iM hn).1) (jW (iM hn).2)))
 subst e
 obtain⟨u1,us1,rfl,⟨t1,rfl⟩,r2⟩ : ∃u us',us=u::us'/\RelV (.int i) u/\Vals [.int j,.int (-1)] us':=by cases r1 with|cons h t=>exact⟨_,_,rfl,h,t⟩
 obtain⟨u2,u3,rfl,⟨t2,rfl⟩,⟨t3,rfl⟩⟩:=vals2 r2
 refine call_range_3 (by decide) ?_ (.inl (PyProof.noPylong_small (by decide)))
 refine wpAny_pyIter_range (IsRange.new ..) (small_down q1 q2 q3 q4) ?_
 have I2:Inv X P9 σ H1 { s1 with heap:=s1.heap.push { cls:=.type "range",data:=.fields #[.int i t1,.int j t2,.int (-1) t3] } }:=I1.kept (t':=s1.toks) fun b o e=>Heap.get?_push_of_some _ e
 refine⟨_,[_],_,_,H1,rfl,I2.kept (t':=s1.toks) fun b o e=>Heap.get?_push_of_some _ e,aJT _ i (i - j).toNat,?_,fun b hb=>?_,q⟩
 ·show IsRangeIter _ _ (i+((0:Nat):Int) * -1) ((((i - j).toNat:Nat):Int) - ((0:Nat):Int)) (-1)
  rw[show i+((0:Nat):Int) * -1=i by omega,show(((i - j).toNat:Nat):Int) - ((0:Nat):Int)=Builtin.Range.rangeSize i j (-1) by rw[aE4];omega]
  exact Heap.get?_push_size _ rfl
 ·have e:b=(s1.heap.push { cls:=.type "range",data:=.fields #[.int i t1,.int j t2,.int (-1) t3] }).objs.size:=by simpa using hb
  subst e
  exact I2.aDV (Nat.le_refl _) (I2.hok.fresh (Nat.le_refl _))
theorem aLv{ta:TA}{σ:St}{H:Hp}{R:It->Hp->Prop}(h:ta σ H fun vs H1=>∃i j:Int,vs=[.int i,.int j,.int (-1)]/\(-(2 ^ 62)<=i/\i < 2 ^ 62/\-(2 ^ 62)<=j/\j < 2 ^ 62)/\R (Itw i (i - j).toNat) H1):aLu ta σ H R:=h
theorem aMS{hi:Int}{n:Nat}{σ:St}{H:Hp}{nx:St->Hp->Prop}{rt:VK}{g:TG}{tb:TS}(Pv:Nat->St->Hp->Prop)(h0:Pv 0 σ H)
  (hs:∀i σ H,i < n->Pv i σ H->g (.int (hi - i)) σ H fun σ2 H2=>tb ⟨Pv (i+1),rt,nx,Pv (i+1)⟩ σ2 H2) (hd:∀σ H,Pv n σ H->nx σ H) :
  ∃W:Nat->Nat->St->Hp->Prop,(∃m,W 0 m σ H)/\∀i m σ H,W i m σ H->
   ((Itw hi n).stop i H/\nx σ H)\/((Itw hi n).go i H/\∃N:St->Hp->Prop,(∀σ' H',N σ' H'->∃m',m' < m/\W (i+1) m' σ' H')/\∀x H',(Itw hi n).yld i H x H'->g x σ H' fun σ2 H2=>tb ⟨N,rt,nx,N⟩ σ2 H2):=by
 refine⟨fun i m σ H=>m=n - i/\i<=n/\Pv i σ H,⟨n,by omega,Nat.zero_le _,h0⟩,?_⟩
 rintro i m σ H ⟨rfl,hi',p⟩
 by_cases h:i < n
 ·refine .inr ⟨h,Pv (i+1),fun σ' H' p'=>⟨n - (i+1),by omega,rfl,h,p'⟩,?_⟩
  rintro x H' ⟨rfl,rfl⟩
  exact hs i σ H' h p
 ·have e:i=n:=by omega
  subst e
  exact .inl ⟨Nat.le_refl _,hd σ H p⟩
end
end L2
namespace L2.Z
open PySem PySem.Spec PyProof.Rows L2
section
variable{X:Cx}{tg:Expr}
theorem zB{e:Expr}{t:TA}{p1 p2 pos1 pos2:Pos}(hc:X.calm=true)(hg1:Gl X "list")(hm1:X.mg "list" = none)(hg2:Gl X "reversed")(hm2:X.mg "reversed" = none)(he:QA X [e] t)(hn:noStar e=true:=by rfl) :
  QE X (.Call (.Name "list" p1) [.Call (.Name "reversed" p2) [e] [] pos2] [] pos1) (aDc t):=⟨L2.zB hc hg1 hm1 hg2 hm2 he.h hn⟩
theorem o8{pos:Pos}:QE X (.Dict [] [] pos) aDd:=⟨L2.o8⟩
theorem aBq{a b c:Expr}{ta:TA}{p pos:Pos}(hg:Gl X "range")(hm:X.mg "range" = none)(ha:QA X [a,b,c] ta)(hn:[a,b,c].all noStar=true:=by rfl):QI X tg (.Call (.Name "range" p) [a,b,c] [] pos) (aLu ta):=⟨L2.aBq hg hm ha.h hn⟩
theorem aG5{P:Program}{w:World}{K:W.Frag}{mg:Str->Option Value}{base:Heap}{i k:Nat}{x:Str}{p pos:Pos}{e:Expr}{es:List Expr}{t:TA}(hr:fD k X.A)(ha:QA X (e::es) t)(hP:X.prog=P:=by rfl)(hw:X.w=w:=by rfl)(hK:X.K=K:=by rfl)(hg:X.mg=mg:=by rfl)(hB:X.base=base:=by rfl)
  (hN:X.N[i]?=some x:=by rfl) (hv:Vis X.env.scope x:=by first|exact Or.inl rfl|exact Or.inr (Or.inl rfl)|exact Or.inr (Or.inr rfl))
  (hn:(e::es).all noStar=true:=by rfl) (hd:(x == ("__debug__" : Str))=false:=by decide) (hcd:(x == ("__classdict__" : Str))=false:=by decide) :
  QE X (.Call (.Name x p) (e::es) [] pos) (aFH (Clo P w K mg base k) i t):=by
 subst hP hw hK hg hB
 exact aDa hr ha hN hv hn hd hcd
end
end L2.Z
namespace L2
open PySem
section
variable{σ:St}{H:Hp}{Q:VK}
theorem aIe{t:TA}(h:t σ H fun vs H1=>∃l xs,vs=[.ref l]/\H1 l=some (.lst xs)/\∀q,H1 q=none->Q (.ref q) (upd H1 q (.lst xs.reverse))):aDc t σ H Q:=h
end
end L2
namespace L2
open PySem PySem.Spec PySem.W PyProof.Rows
section
variable{X:Cx}{o:Expr}{td:TE}{apos cpos:Pos}
theorem aPu{P:Program}{w:World}{H:Hp}{h:Heap}{d:Addr}(ok:vB P w H h)(x:IsD H d):(d == sysModules)=false/\∃(o:Obj) (es:Array DictEntry) (ep:Nat),h.get? d=some o/\o.ExactDict/\o.data=.dict es ep:=by
 rcases x with ⟨kvs,x⟩|⟨kvs,x⟩
 ·obtain⟨_,y,vs,_,o,es,ep,h1,h2,h3,_⟩:=aEV ok x
  exact⟨y,o,es,ep,h1,h2,h3⟩
 ·obtain⟨y,o,es,ep,_,h1,h2,h3,_⟩:=zA (aGE ok x)
  exact⟨y,o,es,ep,h1,h2,h3⟩
end
end L2
namespace L2
open PySem PySem.Spec PySem.W PyProof.Rows
section
variable{X:Cx}{P9:List (Addr×Obj)}{σ:St}{H:Hp}{s:Shared}
theorem aNf:∀{kvs:List (Key×V)}{vs:List (Key×Value)},KV kvs vs->∀{i:Nat}{p:Key×V},kvs[i]?=some p->∃q,vs[i]?=some q/\p.1=q.1/\RelV p.2 q.2
 |[],_,r,i,p,h=>by simp at h
 |a::as,_,r,i,p,h=>by
  cases r with
  |cons x t=>
   cases i with
   |zero=>cases h;exact⟨_,rfl,x⟩
   |succ i=>exact aNf t (i:=i) h
theorem aOG{P:Program}{w:World}{H:Hp}{h:Heap}{d:Addr}{kvs:List (Key×V)}(x:bO P w H h d (.dK kvs)):(d == sysModules)=false/\∃(o:Obj) (es:Array DictEntry) (ep:Nat),h.get? d=some o/\o.ExactDict/\o.data=.dict es ep/\es.size=kvs.length/\
  ∀(i:Nat) (p:Key×V),kvs[i]?=some p->∃e,es[i]?=some e/\RelV (kV p.1) e.key/\RelV p.2 e.val:=by
 obtain⟨z,y,vs,r,o,es,ep,h1,h2,h3,h4,h5,h6⟩:=x
 have hz:es.size=vs.length:=by rw[<-h5.length];simp
 have hl:kvs.length=vs.length:=Paired.length r
 refine⟨y,o,es,ep,h1,h2,h3,by omega,fun i p hp=>?_⟩
 obtain⟨q,e1,e2,e3⟩:=aNf r hp
 have il:i < es.size:=by rw[hz];exact(List.getElem?_eq_some_iff.mp e1).1
 obtain⟨a,b⟩:=h5.get? (e:=es[i]) (by simp[il]) e1
 refine⟨es[i],by simp[il],?_,by rw[b];exact e3⟩
 have e8:aBF q.1 es[i].key=true:=a
 rw[e2]
 rcases cU e8 with ⟨n,t,e7,e9⟩|⟨x,t,e7,e9⟩
 ·rw[e7,e9];exact⟨t,rfl⟩
 ·rw[e7,e9];exact⟨t,rfl⟩
end
section
variable{X:Cx}{elts:List Expr}{x1:Nat}{tp:Pos}{tg:Expr}
end
section
variable{σ:St}{H:Hp}{Q:VK}{nx:St->Hp->Prop}{rt:VK}{g:TG}{tb:TS}
end
end L2
namespace L2
open PySem PySem.Spec PySem.W PyProof.Rows
section
variable{prog:Program}{w:World}{A:Around}{s:Shared}{R:Result->Shared->Prop}{D I l:Addr}{items:Array Value}{ps:List (Key×Value)}
end
end L2
namespace L2
open PySem PySem.Spec PySem.W PyProof.Rows
section
variable{X:Cx}
end
end L2
namespace L2
open PySem PySem.Spec PySem.W PyProof.Rows
section
variable{X:Cx}
end
section
variable{σ:St}{H:Hp}{Q:VK}
end
end L2
namespace L2.Z
open PySem PySem.Spec PyProof.Rows L2
section
variable{X:Cx}{o e tg:Expr}{td ty t:TE}{pos apos cpos tp:Pos}{elts:List Expr}{x1:Nat}
end
end L2.Z
namespace L2
open PySem PySem.Spec PyProof.Rows
end L2
namespace L2
open PySem PySem.Spec PySem.W PyProof.Rows
theorem aJU{prog:Program}{w:World}{A:Around}(hh:A.handled=none)(I d:Addr)(hne:d≠I)(es:Array DictEntry)(ep:Nat) :
  Walks prog w A I [I,d] [I] es.size (fun i v=>∃e,es[i]?=some e/\v=e.key) (fun i h=>It4 "dict_keyiterator" h I d i es.size ep/\Raw h d es ep) where
 sub:=fun b hb=>List.mem_cons.mpr (.inl (by simpa using hb))
 frame:=fun _ _ _ st hk=>⟨st.1.keep fun o e=>hk I (by simp) o e,st.2.keep fun o e=>hk d (by simp) o e⟩
 item:=fun i s Q E hi st hQ=>by
  have hx:es[i]?=some es[i]:=Array.getElem?_eq_getElem hi
  refine aBN st.1 st.2 hx fun h' a b=>hQ es[i].key h' s.toks ⟨_,hx,rfl⟩ ⟨a,st.2.keep fun o e=>b.extBut d o hne e⟩ fun b' o hb e=>b.extBut b' o (fun z=>hb (List.mem_singleton.mpr z)) e
 done:=fun s Q E st hQ=>aC7 hh st.1 st.2 (Nat.le_refl _) fun h' z=>hQ h' s.toks fun b o hb e=>z b o (fun y=>hb (List.mem_singleton.mpr y)) e
 self:=fun _ _ _ _ st hQ=>wpAny_pyIter_keyiter st.1 hQ
theorem aJV{prog:Program}{w:World}{d:Addr}{es:Array DictEntry}{ep:Nat}(lo:(d == sysModules)=false):KdlSrc prog w "dict" d d es.size (fun i v=>∃e,es[i]?=some e/\v=e.key) (fun h=>Raw h d es ep) where
 type:=fun _ hm=>hm.ty
 there:=fun _ hm=>let ⟨_,e,_⟩:=hm;⟨Heap.lt_size e,Heap.lt_size e⟩
 keep:=fun _ _ hm hk=>hm.keep fun o e=>hk d (.inl rfl) o e
 notList:=by decide
 notTuple:=by decide
 hint:=fun _ _ _ _ hm hq=>kdl_hint_dict hm.ty hq
 iter:=fun _ _ hh hm=>⟨_,_,(fun _ _ hq=>aAj lo hm hq),aJU hh _ d (Nat.ne_of_lt (let ⟨_,e,_⟩:=hm;Heap.lt_size e)) es ep,⟨⟨_,Heap.get?_push_size _ rfl,rfl,rfl⟩,hm.keep fun o e=>Heap.get?_push_of_some _ e⟩⟩
section
variable{X:Cx}
def aIf:List V->Hp->VK->Prop:=fun xs H Q=>∃(d:Addr) (kvs:List (List Key×V)) (ts:List (List Int)),xs=[.ref d]/\H d=some (.dT kvs)/\kvs.map (·.1)=ts.map (fun t=>t.map Sum.inl)/\(∀t∈ts,t≠[])/\ts.length < 64/\
 ∀(p:Addr) (qs:List Addr) (us:List (List Int)),H p=none->o7 H qs us->us.Perm ts->us.Pairwise (fun a b=>v8 b a=false)->Q (.ref p) (upd H p (.lst (qs.map V.ref)))
theorem aFI(hc:X.calm=true):eA X (.builtin "sorted") aIf:=by
 intro P9 s σ H xs us Q I r h
 obtain⟨d,kvs,ts,rfl,hd,ek,hne,h64',q⟩:=h
 obtain⟨u,rfl,ru⟩:=vals1 r
 cases ru
 obtain⟨lo,ob,es,ep,ys,g1,g2,g3,rel,g4,g5⟩:=zA (show bO X.prog X.w H s.heap d (.dT kvs) from I.hok d _ hd)
 have raw:Raw s.heap d es ep:=⟨ob,g1,g2.1,g3⟩
 have hkl:kvs.length=ts.length:=by have:=congrArg List.length ek;simpa using this
 have hyl:ys.length=kvs.length:=(Paired.length rel).symm
 have ht:o7 H (ys.map (·.2.1)) ts:=by
  refine⟨by rw[List.length_map,hyl,hkl],fun j a t x y=>?_⟩
  have hj:j < kvs.length:=by rw[hkl];exact(List.getElem?_eq_some_iff.mp y).1
  obtain⟨p,hp,hb,_⟩:=aBn rel (List.getElem?_eq_getElem hj)
  rw[List.getElem?_map,hp] at x
  cases x
  refine⟨?_,hne t (List.mem_of_getElem? y)⟩
  have e3:(kvs.map (·.1))[j]?=some kvs[j].1:=by rw[List.getElem?_map,List.getElem?_eq_getElem hj];rfl
  rw[ek,List.getElem?_map,y] at e3
  have e4:t.map Sum.inl=kvs[j].1:=Option.some.inj e3
  rw[hb,<-e4,List.map_map]
  rfl
 have hv:((ys.map (·.2.1)).map Value.ref).length=ts.length:=by rw[List.length_map];exact ht.len
 refine Calls.call_function_entry kind_sorted plain_sorted entry_sorted (args_sorted1 (.ref d)) ?_
 unfold Builtin.«sorted»
 refine wpAny_bind (m:=checkCount "sorted" 1 1 _) (wpAny_pure (wpAny_bind (PySem.W.kdu_collect (A:=X.A.in1) (aJV (es:=es) (ep:=ep) lo) (I.ok.hd hc) raw (by rw[sizeLine_eq];omega) fun h1 tk acc k0 hacc=>?_)))
 have ea:acc.toList=(ys.map (·.2.1)).map Value.ref:=by
  refine List.ext_getElem? fun j=>?_
  by_cases hj:j < kvs.length
  ·have hja:j < acc.size:=by rw[hacc.1,g5];exact hj
   have e1:acc[j]?=some acc[j]:=Array.getElem?_eq_getElem hja
   obtain⟨e,he,ev⟩:=hacc.2 j _ e1
   obtain⟨p,hp,hb,_⟩:=aBn rel (List.getElem?_eq_getElem hj)
   rw[entry_at g4,hp] at he
   cases he
   rw[Array.getElem?_toList,e1,ev,List.getElem?_map,List.getElem?_map,hp]
   rfl
  ·rw[List.getElem?_eq_none (by rw[Array.length_toList,hacc.1,g5];omega),List.getElem?_eq_none (by rw[List.length_map,List.length_map,hyl];omega)]
 rw[ea]
 generalize hqs:ys.map (·.2.1)=qs at ht hv ea
 have hq:=ht.len
 have h64:qs.length < 64:=by omega
 refine wpAny_bind (wpAny_newList ?_ (by rw[hv,sizeLine_eq];omega))
 have k1:∀b o,s.heap.get? b=some o->(h1.push (seqObj "list" (qs.map Value.ref).toArray 0)).get? b=some o:=fun b o g=>Heap.get?_push_of_some _ (k0 b o g)
 have gD:(h1.push (seqObj "list" (qs.map Value.ref).toArray 0)).get? h1.objs.size=some (seqObj "list" (qs.map Value.ref).toArray 0):=Heap.get?_push_size _ rfl
 refine wpAny_bind (wpAny_holding (wpAny_call_entry (s:={ s with heap:=h1.push (seqObj "list" (qs.map Value.ref).toArray 0),toks:=tk }) slot_list_sort ⟨_,gD,rfl⟩ entry_list_sort (aJK gD ((ht.vL I).keeps fun b o _ g=>k1 b o g) (by rw[hv,<-hq];exact h64) fun p hr hu=>⟨_,rfl,?_⟩) (args_list_sort (.ref h1.objs.size))))
 rw[hv,<-hq] at hr hu
 have pl:p.toList.Perm (List.range qs.length):=by simpa using Array.perm_iff_toList_perm.mp hr
 have plen:p.toList.length=qs.length:=by have:=pl.length_eq;simpa using this
 have eo:(aAi (qs.map Value.ref) p).toList=(p.toList.map fun i=>qs.getD i 0).map Value.ref:=by
  unfold aAi
  show p.toList.map (fun i=>(qs.map Value.ref).getD i Value.none)=_
  rw[List.map_map]
  refine List.map_congr_left fun i hi=>?_
  have li:i < qs.length:=List.mem_range.mp (pl.mem_iff.mp hi)
  show(qs.map Value.ref).getD i Value.none=Value.ref (qs.getD i 0)
  simp[List.getD_eq_getElem?_getD,List.getElem?_eq_getElem li]
 refine wpAny_pure ⟨_,rfl,?_⟩
 obtain⟨c,hc2⟩:=sortedHeap_at (out:=aAi (qs.map Value.ref) p) gD
 have T':o7 H (p.toList.map fun i=>qs.getD i 0) (p.toList.map fun i=>ts.getD i []):=by
  refine⟨by rw[List.length_map,List.length_map],fun j a b x y=>?_⟩
  rw[List.getElem?_map] at x y
  obtain⟨i,e1,e2⟩:=Option.map_eq_some_iff.mp x
  rw[e1] at y
  have li:i < qs.length:=List.mem_range.mp (pl.mem_iff.mp (List.mem_of_getElem? e1))
  refine ht.at_ i a b ?_ ?_
  ·rw[<-e2];simp[List.getD_eq_getElem?_getD,List.getElem?_eq_getElem li]
  ·cases y
   simp[List.getD_eq_getElem?_getD,List.getElem?_eq_getElem (show i < ts.length by omega)]
 obtain⟨hn,I2⟩:=I.aPp (t':=tk) (h':=sortedHeap (h1.push (seqObj "list" (qs.map Value.ref).toArray 0)) h1.objs.size (qs.map Value.ref) (aAi (qs.map Value.ref) p)) (a:=h1.objs.size) (o:=.lst ((p.toList.map fun i=>qs.getD i 0).map V.ref)) (fun b ob g=>by
   have lb:b < h1.objs.size:=Heap.lt_size (k0 b ob g)
   rw[sortedHeap_old (Nat.ne_of_lt lb) (by rw[size_push'];exact Nat.lt_succ_of_lt lb)]
   exact k1 b ob g) (fun b ob g=>Nat.ne_of_lt (Heap.lt_size (k0 b ob g)))
  ⟨by rw[List.length_map,List.length_map,plen,sizeLine_eq];omega,(p.toList.map fun i=>qs.getD i 0).map Value.ref,c,aC5 _,by rw[<-eo,Array.toArray_toList];exact hc2⟩
 refine⟨.ref h1.objs.size,_,I2,rfl,q _ _ _ hn T' ?_ ?_⟩
 ·have:=pl.map (fun i=>ts.getD i [])
  rw[hq,range_getD] at this
  exact this
 ·rw[List.pairwise_iff_getElem]
  intro i j hi hj hij
  rw[List.length_map,plen] at hi hj
  have key:∀k (hk:k < p.toList.length),(p.toList.map fun i=>ts.getD i [])[k]'(by rw[List.length_map];exact hk)=kq (O:=aJJ) (fun i=>ts.getD i []) p k:=fun k hk=>by
   rw[List.getElem_map]
   unfold kq
   have:p.getD k 0=p.toList[k]:=by
    have hk':k < p.size:=by simpa using hk
    simp[Array.getD,hk']
   rw[this]
  rw[key i (by omega),key j (by omega)]
  exact hu i j (by omega) hj
end
section
variable{H:Hp}{Q:VK}
theorem aLw{d:Addr}{kvs:List (List Key×V)}{ts:List (List Int)}(h:H d=some (.dT kvs))(e:kvs.map (·.1)=ts.map (fun t=>t.map Sum.inl))(hne:∀t∈ts,t≠[])(hl:ts.length < 64)(q:∀(p:Addr) (qs:List Addr) (us:List (List Int)),H p=none->o7 H qs us->us.Perm ts->us.Pairwise (fun a b=>v8 b a=false)->Q (.ref p) (upd H p (.lst (qs.map V.ref)))):aIf [.ref d] H Q:=⟨d,kvs,ts,rfl,h,e,hne,hl,q⟩
end
end L2
namespace L2
open PySem PySem.Spec PySem.W PyProof.Rows
section
variable{X:Cx}{o:Expr}{td:TE}{apos cpos:Pos}
def aIg(td:TE):TE:=fun σ H Q=>td σ H fun x H1=>∃d,x=.ref d/\IsD H1 d/\∀b,H1 b=none->Q (.ref b) (upd H1 b (.ext (aJO b d)))
theorem aAl(ho:PE X o td)(hbase:attributeBase o "values" X.env (eval o X.env)=eval o X.env:=by rfl)(hline:(apos.endLine == cpos.line)=true:=by rfl):PE X (.Call (.Attribute o "values" apos) [] [] cpos) (aIg td):=by
 intro P9 s σ H Q I h
 refine wpAny_Call_method (T:="dict") (id:="dict.values") hbase rfl hline PySem.F.plainAttrs_dict PySem.F.slot_dict_values PySem.F.type_dict_values (cY (ho P9 s σ H _ I h) fun v s1 ⟨x,H1,I1,r1,q1⟩=>?_)
 obtain⟨d,e,hd,q⟩:=q1
 subst e
 cases r1
 obtain⟨lo,ob,es,ep,g1,g2,g3⟩:=aPu I1.hok hd
 have raw:Raw s1.heap d es ep:=⟨ob,g1,g2.1,g3⟩
 refine⟨raw.ty,fun b z=>by cases z;exact⟨ob,g1,g2.2.1⟩,?_⟩
 refine method_meetsIn PySem.F.slot_dict_values PySem.F.entry_dict_values rfl (PySem.evalArgs_none ⟨rfl,raw.ty,PySem.F.args_dict_values_1 _,_,aH3 d lo,raw.ty,?_⟩)
 have hn:H1 s1.heap.objs.size=none:=I1.hok.fresh (Nat.le_refl _)
 refine⟨.ref s1.heap.objs.size,_,I1.laid (a:=s1.heap.objs.size) (o:=.ext (aJO s1.heap.objs.size d)) (t':=s1.toks) (fun _ _ q=>Heap.get?_push_of_some _ q) (Nat.le_refl _) ⟨⟨_,Heap.get?_push_size _ rfl,rfl,rfl⟩,⟨_,Heap.get?_push_size _ rfl⟩,fun h1 h2 z k=>?_⟩,rfl,q _ hn⟩
 obtain⟨o',a,r⟩:=z
 exact⟨o',k o' a,r⟩
def Vls(H:Hp)(d:Addr)(ns:List Int):Prop:=(∃kvs,Rd H d (.dT kvs)/\kvs.map (·.2)=ns.map V.int)\/∃kvs,Rd H d (.dK kvs)/\kvs.map (·.2)=ns.map V.int
theorem aMT{P:Program}{w:World}{H:Hp}{h:Heap}{d:Addr}{ns:List Int}(ok:vB P w H h)(x:Vls H d ns):(d == sysModules)=false/\∃(o:Obj) (es:Array DictEntry) (ep:Nat),h.get? d=some o/\o.ExactDict/\o.data=.dict es ep/\es.size=ns.length/\∀(i:Nat) e,es[i]?=some e->∃t,e.val=.int (ns.getD i 0) t:=by
 have val:∀{kvs:List V} {i:Nat},kvs=ns.map V.int->∀(hi:i < kvs.length),kvs[i]=V.int (ns.getD i 0):=fun {kvs i} e hi=>by
  subst e
  rw[List.getElem_map,List.getD_eq_getElem?_getD,List.getElem?_eq_getElem (by simpa using hi)]
  rfl
 rcases x with ⟨kvs,x,en⟩|⟨kvs,x,en⟩
 ·obtain⟨lo,ob,es,ep,xs,g1,g2,g3,rel,g4,g5⟩:=zA (aGE ok x)
  have ln:ns.length=kvs.length:=by have:=congrArg List.length en;simpa using this.symm
  refine⟨lo,ob,es,ep,g1,g2,g3,by omega,fun i e he=>?_⟩
  have il:i < kvs.length:=by rw[<-g5];exact(Array.getElem?_eq_some_iff.mp he).1
  obtain⟨p,hp,_,rv⟩:=aBn rel (List.getElem?_eq_getElem il)
  have e2:es[i]?=some (entryOfKey (tupleKind (cZ P w)) p):=by rw[entry_at g4,hp];rfl
  rw[he] at e2
  cases e2
  have e4:=val en (i:=i) (by simpa using il)
  rw[List.getElem_map] at e4
  rw[e4] at rv
  exact rv
 ·obtain⟨lo,ob,es,ep,g1,g2,g3,g5,row⟩:=aOG (aGE ok x)
  have ln:ns.length=kvs.length:=by have:=congrArg List.length en;simpa using this.symm
  refine⟨lo,ob,es,ep,g1,g2,g3,by omega,fun i e he=>?_⟩
  have il:i < kvs.length:=by rw[<-g5];exact(Array.getElem?_eq_some_iff.mp he).1
  obtain⟨e',hex,rk,rv⟩:=row i _ (List.getElem?_eq_getElem il)
  rw[he] at hex
  cases hex
  have e4:=val en (i:=i) (by simpa using il)
  rw[List.getElem_map] at e4
  rw[e4] at rv
  exact rv
def aIS:List V->Hp->VK->Prop:=fun xs H Q=>∃(b d:Addr) (ns:List Int),xs=[.ref b]/\H b=some (.ext (aJO b d))/\Vls H d ns/\ns≠[]/\∀m,m∈ns->(∀x∈ns,m<=x)->Q (.int m) H
theorem aE5(hc:X.calm=true):eA X (.builtin "min") aIS:=by
 intro P9 s σ H xs us Q I r h
 obtain⟨b,d,ns,rfl,hb,hd,hne,q⟩:=h
 obtain⟨u,rfl,ru⟩:=vals1 r
 cases ru
 obtain⟨lo,ob,es,ep,g1,g2,g3,g5,row⟩:=aMT I.hok hd
 have raw:Raw s.heap d es ep:=⟨ob,g1,g2.1,g3⟩
 have hv:s.heap.IsValuesView b d:=(show bO X.prog X.w H s.heap b (.ext (aJO b d)) from I.hok b _ hb).1
 have hdl:d < s.heap.objs.size:=Heap.lt_size g1
 have hpos:0 < ns.length:=List.length_pos_iff.mpr hne
 refine call_min_walkS (aC6 hv raw ⟨s.heap.objs.size,[s.heap.objs.size,d],[s.heap.objs.size],_,es.size,_,_,_,rfl,(aJN (A:=X.A.in1) (show X.A.in1.handled=none from I.ok.hd hc) s.heap.objs.size d (Nat.ne_of_lt hdl) es ep).toS,⟨⟨_,Heap.get?_push_size _ rfl,rfl,rfl⟩,raw.keep fun o e=>Heap.get?_push_of_some _ e⟩,fun b' hb'=>?_,by omega,CmpOf.ints_lt (fun i=>ns.getD i 0) (fun i v hi=>?_),fun v s' hP hm=>?_⟩)
 ·show b' < (s.heap.push _).objs.size
  rw[Heap.size_push]
  rcases List.mem_cons.mp hb' with z|z
  ·rw[z];exact Nat.lt_succ_self _
  ·rw[show b'=d by simpa using z];exact Nat.lt_succ_of_lt hdl
 ·obtain⟨e,he,rfl⟩:=hi
  exact row i e he
 ·obtain⟨e,he,rfl⟩:=hP
  obtain⟨t,et⟩:=row _ e he
  obtain⟨b1,b2⟩:=argBest_lt (fun i=>ns.getD i 0) (es.size - 1)
  rw[et,Moved.eq_with hm]
  refine⟨.int _,H,I.kept (t':=s'.toks) (fun b' u e=>hm.heap b' u (fun z=>Nat.ne_of_lt (Heap.lt_size e) (by simpa using z)) (Heap.get?_push_of_some _ e)),⟨t,rfl⟩,q _ ?_ fun x hx=>?_⟩
  ·have hj:PySem.argBest (fun i j=>decide (ns.getD i 0 < ns.getD j 0)) (es.size - 1) < ns.length:=by omega
   rw[List.getD_eq_getElem?_getD,List.getElem?_eq_getElem hj]
   exact List.getElem_mem hj
  ·obtain⟨i,hi,rfl⟩:=List.getElem_of_mem hx
   have:=b2 i (by omega)
   rw[List.getD_eq_getElem?_getD (l:=ns) (i:=i),List.getElem?_eq_getElem hi] at this
   exact this
end
section
variable{σ:St}{H:Hp}{Q:VK}
theorem aLx{td:TE}(h:td σ H fun x H1=>∃d,x=.ref d/\IsD H1 d/\∀b,H1 b=none->Q (.ref b) (upd H1 b (.ext (aJO b d)))):aIg td σ H Q:=h
theorem aIT{b d:Addr}{ns:List Int}(h1:H b=some (.ext (aJO b d)))(h2:Vls H d ns)(hne:ns≠[])(h:∀m,m∈ns->(∀x∈ns,m<=x)->Q (.int m) H):aIS [.ref b] H Q:=⟨b,d,ns,rfl,h1,h2,hne,h⟩
end
end L2
namespace L2.Z
open PySem PySem.Spec PyProof.Rows
section
variable{X:Cx}{o:Expr}{td:TE}{apos cpos:Pos}
theorem aAl(ho:QE X o td)(hbase:attributeBase o "values" X.env (eval o X.env)=eval o X.env:=by rfl)(hline:(apos.endLine == cpos.line)=true:=by rfl) :
  QE X (.Call (.Attribute o "values" apos) [] [] cpos) (aIg td):=⟨L2.aAl ho.h hbase hline⟩
end
end L2.Z
namespace L2
open PySem PySem.Spec PySem.W PyProof.Rows
section
variable{X:Cx}{ek ev:Expr}{tk tv:TE}{pos:Pos}
theorem aIh{P9:List (Addr×Obj)}{σ:St}{H:Hp}{s:Shared}{a:Addr}{v:V}{r u:Value}{A:Around}{E:Value->Shared->Prop}{kvs:List (Key×V)}{k:Key}{Q:Unit->Shared->Prop}(I:Inv X P9 σ H s)(e:H a=some (.dK kvs))(ru:RelV (kV k) u)(l:kvs.length < sizeLine)(rv:RelV v r)(h:∀s',Inv X P9 σ (upd H a (.dK (putK kvs k v))) s'->Q () s') :
  wpAny (model X.prog X.w) A (dictSet a u r) Q E s:=by
 obtain⟨z,hd,vs,rel,dd⟩:=aKz I.hok e
 have hz:vs.length<=sizeLine:=by rw[<-rel.length];exact z
 have hl:(putK kvs k v).length<=sizeLine:=by have:=pX kvs k v;omega
 refine wpAny_dictSet_pairs (hsz:=hz) (aGD ru) dd fun h' dd' hs=>h _ ?_
 have he:∃q,h'.get? a=some q:=let ⟨q,_,_,hq,_⟩:=dd';⟨q,hq⟩
 exact aCv I (by rw[e];exact True.intro) hs he (aKA hl hd (rel.put k rv) dd')
def aFJ(tk tv:TE):TE:=fun σ H Q=>∀d,H d=none->tk σ (upd H d (.dK [])) fun y H1=>tv σ H1 fun v H2=>∃k,y=kV k/\H2 d=some (.dK [])/\Q (.ref d) (upd H2 d (.dK [(k,v)]))
theorem aBr(hk:PE X ek tk)(hv:PE X ev tv):PE X (.Dict [some ek] [ev] pos) (aFJ tk tv):=by
 intro P9 s σ H Q I h
 have hn:H s.heap.objs.size=none:=I.hok.fresh (Nat.le_refl _)
 have I0:Inv X P9 σ (upd H s.heap.objs.size (.dK [])) { s with heap:=s.heap.push { cls:=.type "dict",data:=.dict #[] } }:=I.laid (a:=s.heap.objs.size) (o:=.dK []) (t':=s.toks) (fun _ _ q=>Heap.get?_push_of_some _ q) (Nat.le_refl _) (aGH s.heap I.big)
 refine wpAny_Dict_any rfl rfl (by simp) (by simp) ?_
 refine pairTrees_cons_walk (cY (hk P9 _ σ _ _ I0 (h _ hn)) fun u s1 ⟨y,H1,I1,r1,q1⟩=>cY (hv P9 s1 σ H1 _ I1 q1) fun v s2 ⟨x,H2,I2,r2,q2⟩=>pairTrees_nil_walk ?_)
 obtain⟨k,e,ed,q⟩:=q2
 subst e
 unfold storeAll
 simp only[List.forIn_cons,List.forIn_nil]
 refine wpAny_bind (wpAny_bind (aIh I2 ed r1 (by rw[sizeLine_eq];decide) r2 fun s3 I3=>?_))
 exact wpAny_pure (wpAny_pure ⟨.ref _,_,I3,rfl,q⟩)
end
section
variable{σ:St}{H:Hp}{Q:VK}{nx:St->Hp->Prop}{rt:VK}{g:TG}{tb:TS}
theorem aJW{tk tv:TE}(h:∀d,H d=none->tk σ (upd H d (.dK [])) fun y H1=>tv σ H1 fun v H2=>∃k,y=kV k/\H2 d=some (.dK [])/\Q (.ref d) (upd H2 d (.dK [(k,v)]))):aFJ tk tv σ H Q:=h
theorem aLy{d:Addr}{o:Obj}{kvs:List (List Key×V)}(Pv:Nat->St->Hp->Prop)(h0:Pv 0 σ H)(hl:∀i σ H,i<=kvs.length->Pv i σ H->H d=some (.frz o (.dT kvs)))
  (hs:∀i kv σ H b,kvs[i]?=some kv->Pv i σ H->H b=some (.tup (kv.1.map kV))->g (.ref b) σ H fun σ2 H2=>tb ⟨Pv (i+1),rt,nx,Pv (i+1)⟩ σ2 H2) (hd:∀σ H,Pv kvs.length σ H->nx σ H) :
  ∃W:Nat->Nat->St->Hp->Prop,(∃m,W 0 m σ H)/\∀i m σ H,W i m σ H->
   ((Itk d o kvs).stop i H/\nx σ H)\/((Itk d o kvs).go i H/\∃N:St->Hp->Prop,(∀σ' H',N σ' H'->∃m',m' < m/\W (i+1) m' σ' H')/\∀x H',(Itk d o kvs).yld i H x H'->g x σ H' fun σ2 H2=>tb ⟨N,rt,nx,N⟩ σ2 H2):=by
 refine⟨fun i m σ H=>m=kvs.length - i/\i<=kvs.length/\Pv i σ H,⟨kvs.length,by simp,Nat.zero_le _,h0⟩,?_⟩
 rintro i m σ H ⟨rfl,hi,p⟩
 have q:=hl i σ H hi p
 rcases Nat.lt_or_ge i kvs.length with hlt|hge
 ·refine .inr ⟨⟨q,hlt⟩,Pv (i+1),fun σ' H' z=>⟨kvs.length - (i+1),by omega,rfl,by omega,z⟩,?_⟩
  rintro x H' ⟨rfl,b,kv,hk,rfl,hb⟩
  exact hs i kv σ H' b hk p hb
 ·have e:i=kvs.length:=by omega
  subst e
  exact .inl ⟨⟨q,Nat.le_refl _⟩,hd σ H p⟩
end
theorem oX.fk{H:Hp}{a:Addr}{o:Obj}{kvs:List (Key×V)}{k:Key}(e:H a=some (.frz o (.dK kvs))):oX H a (kV k) (oW kvs k):=.inl ⟨kvs,k,.inr ⟨o,e⟩,rfl,rfl⟩
end L2
namespace L2.Z
open PySem PySem.Spec PyProof.Rows
section
variable{X:Cx}{ek ev:Expr}{tk tv:TE}{pos:Pos}
theorem aBr(hk:QE X ek tk)(hv:QE X ev tv):QE X (.Dict [some ek] [ev] pos) (aFJ tk tv):=⟨L2.aBr hk.h hv.h⟩
end
end L2.Z
local macro_rules | `(tactic| walk_at "ne") => `(tactic| first
  | assumption
  | (refine Ne.symm ?_; assumption)
  | exact L2.bC (by assumption) (by walk_at "hp")
  | exact Ne.symm (L2.bC (by assumption) (by walk_at "hp")))
local macro_rules | `(tactic| walk_at "hp") => `(tactic| first
  | assumption
  | exact L2.aH
  | (refine Eq.trans (L2.aR (by walk_at "ne")) ?_; walk_at "hp")
  | (refine L2.aI.at (by assumption) ?_; walk_at "hp")
  | (refine L2.bX.at (by assumption) ?_ (by walk_at "ne"); walk_at "hp"))
local macro_rules | `(tactic| walk_at "sq") => `(tactic| first
  | assumption
  | exact L2.bR.of (by walk_at "hp")
  | exact L2.kR.of (by walk_at "hp")
  | exact L2.aI.seq (by assumption) (by walk_at "sq"))
local macro_rules | `(tactic| walk_at "cnd") => `(tactic| first
  | omega
  | decide
  | (simp only [List.length_map]; omega)
  | (refine ⟨?_, ?_⟩ <;> first | omega | decide)
  | (refine Or.inl ⟨?_, ?_⟩ <;> first | omega | decide)
  | (refine Or.inr ⟨?_, ?_⟩ <;> first | omega | decide)
  | (refine ⟨?_, ?_, ?_⟩ <;> first | omega | decide))
local macro_rules | `(tactic| walk_at "sz") => `(tactic| (refine L2.cD ?_; first | decide | (simp only [List.length_cons, List.length_nil, List.length_append]; omega) | omega))
local macro_rules | `(tactic| walk_at "rd") => `(tactic| (with_reducible first
  | refine L2.aMl ?_
  | refine L2.aN6 ?_
  | refine L2.aN3 ?_
  | refine L2.aMm ?_
  | refine L2.aN4 ?_
  | refine L2.rd_retN ?_
  | refine L2.rd_break ?_
  | refine L2.rd_cont ?_
  | refine L2.aN5 ?_
  | refine L2.aMn ?_
  | refine L2.aN7 ?_
  | refine L2.aMo ?_
  | refine L2.aKO ?_
  | refine L2.aMp ?_
  | refine L2.aJM ?_
  | refine L2.aJQ ?_
  | refine L2.aLk ?_
  | refine L2.aLx ?_
  | refine L2.aLi ?_
  | refine L2.aJW ?_
  | refine L2.aLj ?_
  | refine L2.aN9 ?_
  | refine L2.aPI ?_
  | refine L2.aO5 ?_
  | refine L2.aO6 ?_
  | refine L2.aOb ?_
  | refine L2.aO8 ?_
  | refine L2.aMq ?_
  | refine L2.aO9 ?_
  | refine L2.aJA ?_
  | refine L2.aMs ?_
  | refine L2.rd_partN ?_
  | refine L2.rd_pnN ?_
  | refine L2.rd_pnI ?_
  | refine L2.aMt ?_
  | refine L2.aOd ?_
  | refine L2.aMu ?_
  | refine L2.aOe ?_
  | refine L2.aKP ?_
  | refine L2.aMv ?_
  | refine L2.aPa ?_
  | refine L2.aOf ?_
  | refine L2.aPb ?_
  | refine L2.aOg ?_
  | refine L2.aOh ?_
  | refine L2.aPc ?_
  | refine L2.aMw ?_
  | refine L2.aPd ?_
  | refine L2.aPe ?_
  | refine L2.rd_bl2 ?_
  | refine L2.aOi ?_
  | refine L2.aMx ?_
  | refine L2.aOj ?_
  | refine L2.aOk ?_
  | refine L2.aMy ?_
  | refine L2.aPf ?_
  | refine L2.aMz ?_
  | refine L2.aJD ?_
  | refine L2.aKX ?_
  | refine L2.aKQ ?_
  | refine L2.aKR ?_
  | refine L2.aOl ?_
  | refine L2.aNY ?_
  | refine L2.aMh ?_
  | refine L2.aPk ?_
  | refine L2.aPl ?_
  | refine L2.aPj ?_
  | refine L2.aKW ?_
  | refine L2.aK7 ?_
  | refine L2.aOv ?_
  | refine L2.aMH ?_
  | refine L2.aMI ?_
  | refine L2.aMJ ?_
  | refine L2.aLa ?_
  | refine L2.aMO ?_
  | refine L2.aLq ?_
  | refine L2.aIe ?_
  | refine L2.aLv ?_))
local macro_rules | `(tactic| walk_at "st") => `(tactic| first
  | walk_at "rd"
  | ((with_reducible refine L2.aPo (b := ?b) ?t ?_); (case t => assumption))
  | ((with_reducible refine L2.aOa (v := ?v) ?e ?_); (case e => rfl))
  | ((with_reducible refine L2.aKN (σ' := ?s) ?e ?_); (case e => first | (simp only [List.set_cons_zero, List.set_cons_succ]; rfl) | rfl))
  | ((with_reducible refine L2.aO7 ?c ?_); (case c => walk_at "cnd"))
  | ((with_reducible refine L2.aMr ?c ?_); (case c => walk_at "cnd"))
  | ((with_reducible refine L2.aCP (xs := ?xs) (v := ?v) ?a ?b ?_); (case a => walk_at "sq"); (case b => first | rfl | assumption))
  | ((with_reducible refine L2.aOc (xs := ?xs) (v := ?v) ?a ?b ?_); (case a => walk_at "sq"); (case b => first | rfl | assumption))
  | (with_reducible refine L2.aOm ?_)
  | (with_reducible refine L2.aOn ?_)
  | (with_reducible refine L2.aOo ?_)
  | (with_reducible refine L2.rd_intI ?_)
  | (with_reducible refine L2.aMD ?_)
  | ((with_reducible refine L2.aMB (xs := ?xs) ?a ?_); (case a => walk_at "sq"))
  | ((with_reducible refine L2.aMC (xs := ?xs) ?a ?_); (case a => walk_at "sq"))
  | (with_reducible refine L2.aOp ?_)
  | (with_reducible refine L2.aOq ?_)
  | ((with_reducible refine L2.rd_eqF ?a ?b ?_); (case a => rfl); (case b => rfl))
  | ((with_reducible refine L2.rd_neF ?a ?b ?_); (case a => rfl); (case b => rfl))
  | ((with_reducible refine L2.aPn (b := ?b) ?e ?_); (case e => rfl))
  | ((with_reducible refine L2.aK2 (b := ?b) ?e ?_); (case e => rfl))
  | ((with_reducible refine L2.aMA ?c ?_); (case c => walk_at "sz")))
local macro_rules | `(tactic| walk_at "go") => `(tactic| first
  | (with_reducible refine L2.aMM (fun _ _ => ?_))
  | walk_at "st")
local macro_rules | `(tactic| walk_at "w") => `(tactic| repeat walk_at "go")
local macro_rules | `(tactic| walk_at "gs") => `(tactic| first
  | walk_at "go"
  | ((with_reducible refine L2.aPm ?e ?_); (case e => rfl))
  | ((with_reducible refine L2.iteGT ?e ?_); (case e => rfl)))
namespace My
open PySem L2
def top(i:Nat):Stmt:=PySem.Challenge.pw_stintwise_k71_bounds_by_prices.main.body.getD i (.Pass ⟨0,0,0,0⟩)
abbrev gK:Stmt:=top 56
abbrev jK:Stmt:=top 57
abbrev kT:Stmt:=top 58
abbrev gU:Stmt:=top 79
abbrev fW:Stmt:=top 59
abbrev kU:Stmt:=top 12
abbrev jL:Stmt:=top 13
abbrev oS:Stmt:=top 43
abbrev kW:Stmt:=top 44
abbrev eC:Stmt:=top 45
abbrev eS:Stmt:=inClass (top 46) 0
abbrev jM:Stmt:=top 60
abbrev eT:Stmt:=top 61
abbrev eU:Stmt:=inClass (top 46) 3
abbrev gL:Stmt:=top 68
abbrev sF:Stmt:=top 15
abbrev fX:Stmt:=top 16
abbrev gW:Stmt:=top 62
abbrev gX:Stmt:=top 66
abbrev kX:Stmt:=top 31
abbrev gY:Stmt:=inClass (top 32) 0
abbrev jN:Stmt:=top 20
abbrev eV:Stmt:=top 21
abbrev gZ:Stmt:=top 22
abbrev kY:Stmt:=top 23
abbrev jC:Stmt:=top 2
abbrev eW:Stmt:=top 3
abbrev dP:Stmt:=top 4
abbrev fH:Stmt:=top 5
abbrev jO:Stmt:=top 6
abbrev fY:Stmt:=top 17
abbrev dU:Stmt:=top 49
abbrev hJ:Stmt:=inClass (top 50) 0
abbrev hU:Stmt:=top 63
abbrev fZ:Stmt:=top 72
abbrev cF:Stmt:=top 69
abbrev fJ:Stmt:=top 70
abbrev dE:Stmt:=top 71
abbrev eX:Stmt:=top 33
abbrev gA:Stmt:=top 34
abbrev kZ:Stmt:=top 35
abbrev fK:Stmt:=top 37
abbrev bP:Stmt:=top 38
abbrev cK:Stmt:=top 39
abbrev dQ:Stmt:=top 18
abbrev fL:Stmt:=top 24
abbrev gM:Stmt:=top 26
abbrev bT:Stmt:=top 27
abbrev cW:Stmt:=top 28
abbrev hV:Stmt:=top 64
abbrev bZ:Stmt:=top 52
abbrev dR:Stmt:=top 53
abbrev eG:Stmt:=top 54
abbrev dS:Stmt:=top 75
abbrev hX:Stmt:=top 73
abbrev jP:Stmt:=top 65
abbrev dA:Stmt:=top 76
abbrev hZ:Stmt:=top 77
abbrev eI:Stmt:=top 74
abbrev gN:Stmt:=top 78
abbrev aDe:Stmt:=top 80
theorem iA:aW ["_law_script","_law_place","_law_cells","_law_at","_law_digits"] ["_law_script","_law_place"] (aB gK):=⟨rfl,rfl,rfl,by decide +kernel,rfl,by decide +kernel,by decide +kernel⟩
theorem iB:aW ["_law_hand","_law_many","_law_got","_law_cell","_law_number"] ["_law_hand","_law_many"] (aB jK):=⟨rfl,rfl,rfl,by decide +kernel,rfl,by decide +kernel,by decide +kernel⟩
theorem p9:aW ["_law_hand","_law_bound_here","_law_total","_law_k"] ["_law_hand","_law_bound_here"] (aB kT):=⟨rfl,rfl,rfl,by decide +kernel,rfl,by decide +kernel,by decide +kernel⟩
theorem aD2:aW ["_law_thing"] ["_law_thing"] (aB gU):=⟨rfl,rfl,rfl,by decide +kernel,rfl,by decide +kernel,by decide +kernel⟩
theorem aDf:aW ["_law_hand"] ["_law_hand"] (aB fW):=⟨rfl,rfl,rfl,by decide +kernel,rfl,by decide +kernel,by decide +kernel⟩
theorem aG6:aW ["thing"] ["thing"] (aB kU):=⟨rfl,rfl,rfl,by decide +kernel,rfl,by decide +kernel,by decide +kernel⟩
theorem aFK:aW ["thing"] ["thing"] (aB jL):=⟨rfl,rfl,rfl,by decide +kernel,rfl,by decide +kernel,by decide +kernel⟩
theorem aIi:aW ["thing"] ["thing"] (aB oS):=⟨rfl,rfl,rfl,by decide +kernel,rfl,by decide +kernel,by decide +kernel⟩
theorem aG7:aW ["thing"] ["thing"] (aB kW):=⟨rfl,rfl,rfl,by decide +kernel,rfl,by decide +kernel,by decide +kernel⟩
theorem aD3:aW ["thing"] ["thing"] (aB eC):=⟨rfl,rfl,rfl,by decide +kernel,rfl,by decide +kernel,by decide +kernel⟩
theorem fQ:aW ["self","up","down","begin","run","rest","least","pieces","spans","costs","at","fits"] ["self","up","down","begin","run","rest","least","pieces"] (aB eS):=⟨rfl,rfl,rfl,by decide +kernel,rfl,by decide +kernel,by decide +kernel⟩
theorem dH:aW ["_law_hand","_law_by","_law_longest","_law_up","_law_down","_law_costs","_law_least","_law_rate","_law_pieces","_law_k"] ["_law_hand","_law_by","_law_longest"] (aB jM):=⟨rfl,rfl,rfl,by decide +kernel,rfl,by decide +kernel,by decide +kernel⟩
theorem aB8:aW ["_law_spec_here"] ["_law_spec_here"] (aB eT):=⟨rfl,rfl,rfl,by decide +kernel,rfl,by decide +kernel,by decide +kernel⟩
theorem fR:aW ["self","price","worth","amount","rate"] ["self","price"] (aB eU):=⟨rfl,rfl,rfl,by decide +kernel,rfl,by decide +kernel,by decide +kernel⟩
theorem aFL:aW ["_law_spec_here","_law_price_here"] ["_law_spec_here","_law_price_here"] (aB gL):=⟨rfl,rfl,rfl,by decide +kernel,rfl,by decide +kernel,by decide +kernel⟩
theorem aJX:aW ["machine","state","on"] ["machine","state","on"] (aB sF):=⟨rfl,rfl,rfl,by decide +kernel,rfl,by decide +kernel,by decide +kernel⟩
theorem aDg:aW ["machine","state","on"] ["machine","state","on"] (aB fX):=⟨rfl,rfl,rfl,by decide +kernel,rfl,by decide +kernel,by decide +kernel⟩
theorem aD4:aW ["_law_hand","_law_spec_here"] ["_law_hand","_law_spec_here"] (aB gW):=⟨rfl,rfl,rfl,by decide +kernel,rfl,by decide +kernel,by decide +kernel⟩
theorem aD5:aW ["_law_spec_here","_law_state_here","_law_on"] ["_law_spec_here","_law_state_here","_law_on"] (aB gX):=⟨rfl,rfl,rfl,by decide +kernel,rfl,by decide +kernel,by decide +kernel⟩
theorem aG8:aW ["thing"] ["thing"] (aB kX):=⟨rfl,rfl,rfl,by decide +kernel,rfl,by decide +kernel,by decide +kernel⟩
theorem lK:aW ["self","cap","into","out","takes","gives","depths","at","fits"] ["self","cap","into","out","takes","gives"] (aB gY):=⟨rfl,rfl,rfl,by decide +kernel,rfl,by decide +kernel,by decide +kernel⟩
theorem nG:aW ["machine","state","run","hour","on"] ["machine","state","run"] (aB jN):=⟨rfl,rfl,rfl,by decide +kernel,rfl,by decide +kernel,by decide +kernel⟩
theorem vD:aW ["machine","state","run","fault"] ["machine","state","run"] (aB eV):=⟨rfl,rfl,rfl,by decide +kernel,rfl,by decide +kernel,by decide +kernel⟩
theorem gB:aW ["machine","state","run","begins","ahead","hour","on"] ["machine","state","run"] (aB gZ):=⟨rfl,rfl,rfl,by decide +kernel,rfl,by decide +kernel,by decide +kernel⟩
theorem aBO:aW ["machine","state","run","begins"] ["machine","state","run"] (aB kY):=⟨rfl,rfl,rfl,by decide +kernel,rfl,by decide +kernel,by decide +kernel⟩
theorem aG9:aW ["ways","behind"] ["ways","behind"] (aB jC):=⟨rfl,rfl,rfl,by decide +kernel,rfl,by decide +kernel,by decide +kernel⟩
theorem mP:aW ["places","hour","behind","ways_at","worths","place"] ["places","hour","behind","ways_at"] (aB eW):=⟨rfl,rfl,rfl,by decide +kernel,rfl,by decide +kernel,by decide +kernel⟩
theorem dB:aW ["layers","ways_at","behind","place","worths","hour"] ["layers","ways_at"] (aB dP):=⟨rfl,rfl,rfl,by decide +kernel,rfl,by decide +kernel,by decide +kernel⟩
theorem yL:aW ["ways","behind","least"] ["ways","behind"] (aB fH):=⟨rfl,rfl,rfl,by decide +kernel,rfl,by decide +kernel,by decide +kernel⟩
theorem jX:aW ["place","worths","ways_at","row","hour","way"] ["place","worths","ways_at"] (aB jO):=⟨rfl,rfl,rfl,by decide +kernel,rfl,by decide +kernel,by decide +kernel⟩
theorem eY:aW ["machine","ways","later","state","many","on","behind"] ["machine","ways"] (aB fY):=⟨rfl,rfl,rfl,by decide +kernel,rfl,by decide +kernel,by decide +kernel⟩
theorem aB9:aW ["thing"] ["thing"] (aB dU):=⟨rfl,rfl,rfl,by decide +kernel,rfl,by decide +kernel,by decide +kernel⟩
theorem lM:aW ["self","machines","store","lack","is_store","at","fits"] ["self","machines","store","lack"] (aB hJ):=⟨rfl,rfl,rfl,by decide +kernel,rfl,by decide +kernel,by decide +kernel⟩
theorem lN:aW ["_law_hand","_law_by","_law_gives","_law_takes"] ["_law_hand","_law_by"] (aB hU):=⟨rfl,rfl,rfl,by decide +kernel,rfl,by decide +kernel,by decide +kernel⟩
theorem aDh:aW ["_law_store_here","_law_level"] ["_law_store_here","_law_level"] (aB fZ):=⟨rfl,rfl,rfl,by decide +kernel,rfl,by decide +kernel,by decide +kernel⟩
theorem bQ:aW ["_law_hand","_law_most","_law_by","_law_wide","_law_many","_law_specs","_law_store_here","_law_lack"] ["_law_hand","_law_most"] (aB cF):=⟨rfl,rfl,rfl,by decide +kernel,rfl,by decide +kernel,by decide +kernel⟩
theorem lO:aW ["_law_spec_here","_law_machines","_law_store_here"] ["_law_spec_here"] (aB fJ):=⟨rfl,rfl,rfl,by decide +kernel,rfl,by decide +kernel,by decide +kernel⟩
theorem sG:aW ["_law_hand","_law_spec_here","_law_states"] ["_law_hand","_law_spec_here"] (aB dE):=⟨rfl,rfl,rfl,by decide +kernel,rfl,by decide +kernel,by decide +kernel⟩
theorem mQ:aW ["store","level","hours","lowest","highest"] ["store","level","hours"] (aB eX):=⟨rfl,rfl,rfl,by decide +kernel,rfl,by decide +kernel,by decide +kernel⟩
theorem aDi:aW ["store","level"] ["store","level"] (aB gA):=⟨rfl,rfl,rfl,by decide +kernel,rfl,by decide +kernel,by decide +kernel⟩
theorem aBP:aW ["store","level","later","each"] ["store","level","later"] (aB kZ):=⟨rfl,rfl,rfl,by decide +kernel,rfl,by decide +kernel,by decide +kernel⟩
theorem aD6:aW ["store","level","price"] ["store","level","price"] (aB fK):=⟨rfl,rfl,rfl,by decide +kernel,rfl,by decide +kernel,by decide +kernel⟩
theorem m5:aW ["store","level","prices","layers"] ["store","level","prices"] (aB bP):=⟨rfl,rfl,rfl,by decide +kernel,rfl,by decide +kernel,by decide +kernel⟩
theorem lA:aW ["store","level","prices","worths","path"] ["store","level","prices"] (aB cK):=⟨rfl,rfl,rfl,by decide +kernel,rfl,by decide +kernel,by decide +kernel⟩
theorem eE:aW ["machine","state","hours","ways","layers","hour"] ["machine","state","hours"] (aB dQ):=⟨rfl,rfl,rfl,by decide +kernel,rfl,by decide +kernel,by decide +kernel⟩
theorem aD7:aW ["machine","state"] ["machine","state"] (aB fL):=⟨rfl,rfl,rfl,by decide +kernel,rfl,by decide +kernel,by decide +kernel⟩
theorem aFM:aW ["machine","state","price"] ["machine","state","price"] (aB gM):=⟨rfl,rfl,rfl,by decide +kernel,rfl,by decide +kernel,by decide +kernel⟩
theorem m6:aW ["machine","state","prices","layers"] ["machine","state","prices"] (aB bT):=⟨rfl,rfl,rfl,by decide +kernel,rfl,by decide +kernel,by decide +kernel⟩
theorem mR:aW ["machine","state","prices","worths","run"] ["machine","state","prices"] (aB cW):=⟨rfl,rfl,rfl,by decide +kernel,rfl,by decide +kernel,by decide +kernel⟩
theorem aD8:aW ["_law_hand","_law_by","_law_most"] ["_law_hand","_law_by","_law_most"] (aB hV):=⟨rfl,rfl,rfl,by decide +kernel,rfl,by decide +kernel,by decide +kernel⟩
theorem wB:aW ["works","position","prices"] ["works","position","prices"] (aB bZ):=⟨rfl,rfl,rfl,by decide +kernel,rfl,by decide +kernel,by decide +kernel⟩
theorem aAm:aW ["works","position","prices"] ["works","position","prices"] (aB dR):=⟨rfl,rfl,rfl,by decide +kernel,rfl,by decide +kernel,by decide +kernel⟩
theorem o9:aW ["works","position","wants","prices","wanted","machines"] ["works","position","wants","prices"] (aB eG):=⟨rfl,rfl,rfl,by decide +kernel,rfl,by decide +kernel,by decide +kernel⟩
theorem bN:aW ["_law_spec_here","_law_state_here","_law_prices_here","_law_known","_law_price_here","_law_later","_law_one","_law_runs","_law_on","_law_two","_law_worth"] ["_law_spec_here","_law_state_here","_law_prices_here"] (aB dS):=⟨rfl,rfl,rfl,by decide +kernel,rfl,by decide +kernel,by decide +kernel⟩
theorem aD9:aW ["_law_store_here","_law_level","_law_later"] ["_law_store_here","_law_level","_law_later"] (aB hX):=⟨rfl,rfl,rfl,by decide +kernel,rfl,by decide +kernel,by decide +kernel⟩
theorem aFN:aW ["_law_hand","_law_by"] ["_law_hand","_law_by"] (aB jP):=⟨rfl,rfl,rfl,by decide +kernel,rfl,by decide +kernel,by decide +kernel⟩
theorem bU:aW ["_law_store_here","_law_level","_law_prices_here","_law_known","_law_price_here","_law_later","_law_one","_law_two","_law_worth"] ["_law_store_here","_law_level","_law_prices_here"] (aB dA):=⟨rfl,rfl,rfl,by decide +kernel,rfl,by decide +kernel,by decide +kernel⟩
theorem dJ:aW ["_law_spec_here","_law_position_here","_law_wants","_law_prices_here","_law_bound_here","_law_price_here","_law_want_here","_law_one","_law_state_here"] ["_law_spec_here","_law_position_here","_law_wants","_law_prices_here"] (aB hZ):=⟨rfl,rfl,rfl,by decide +kernel,rfl,by decide +kernel,by decide +kernel⟩
theorem aDj:aW ["_law_hand","_law_by","_law_lack","_law_hours"] ["_law_hand","_law_by","_law_lack","_law_hours"] (aB eI):=⟨rfl,rfl,rfl,by decide +kernel,rfl,by decide +kernel,by decide +kernel⟩
theorem jY:aW ["_law_hand","_law_most","_law_spec_here","_law_hours","_law_wants"] ["_law_hand","_law_most"] (aB gN):=⟨rfl,rfl,rfl,by decide +kernel,rfl,by decide +kernel,by decide +kernel⟩
theorem jZ:aW ["_law_script","_law_place","_law_hand","_law_spec_here","_law_position_here","_law_wants","_law_prices_here","_law_works_here","_law_other","_law_beside","_law_some","_law_spot","_law_handed","_law_kept","_law_found"] ["_law_script"] (aB aDe):=⟨rfl,rfl,rfl,by decide +kernel,rfl,by decide +kernel,by decide +kernel⟩
structure iT where
 qA:Addr
 qB:FuncData
 qC:Addr
 qD:FuncData
 tI:Addr
 tJ:FuncData
 nH:Addr
 nI:FuncData
 lP:Addr
 lQ:FuncData
 tK:Addr
 tL:FuncData
 qE:Addr
 qF:FuncData
 xX:Addr
 xY:FuncData
 tM:Addr
 tN:FuncData
 nJ:Addr
 nK:FuncData
 j0:Addr
 j7:FuncData
 qG:Addr
 qH:FuncData
 j8:Addr
 j9:FuncData
 kA:Addr
 kB:FuncData
 qI:Addr
 qJ:FuncData
 aAn:Addr
 aAo:FuncData
 lR:Addr
 lS:FuncData
 nL:Addr
 nM:FuncData
 nO:Addr
 nP:FuncData
 tO:Addr
 tQ:FuncData
 nQ:Addr
 nR:FuncData
 qK:Addr
 qL:FuncData
 kC:Addr
 kD:FuncData
 nS:Addr
 nU:FuncData
 tR:Addr
 tS:FuncData
 tT:Addr
 tU:FuncData
 kE:Addr
 kF:FuncData
 iC:Addr
 iD:FuncData
 nV:Addr
 nW:FuncData
 qM:Addr
 qN:FuncData
 lT:Addr
 lU:FuncData
 kG:Addr
 kH:FuncData
 nX:Addr
 nY:FuncData
 nZ:Addr
 oA:FuncData
 lV:Addr
 lW:FuncData
 gG:Addr
 gH:FuncData
 oB:Addr
 oC:FuncData
 iU:Addr
 iV:FuncData
 kI:Addr
 kJ:FuncData
 lX:Addr
 lY:FuncData
 tV:Addr
 tW:FuncData
 oE:Addr
 oF:FuncData
 fM:Addr
 dW:FuncData
 iW:Addr
 fS:FuncData
 iE:Addr
 iF:FuncData
 oG:Addr
 oH:FuncData
 qO:Addr
 qP:FuncData
 fN:Addr
 dX:FuncData
 kK:Addr
 gO:FuncData
 oI:Addr
 oJ:FuncData
 eM:Addr
 eN:FuncData
 iG:Addr
 iH:FuncData
 lZ:Addr
 mC:FuncData
 iI:Addr
 iJ:FuncData
 oK:Addr
 oM:FuncData
 qQ:Addr
 qR:FuncData
 gI:Addr
 gJ:FuncData
 oN:Addr
 oO:FuncData
 mD:Addr
 mE:FuncData
 qS:Addr
 qT:FuncData
 aIU:Addr
 aIV:FuncData
 k_worths_of_levels:Addr
 bV:Addr
 k_cheapest_path:Addr
 dF:Addr
 k_worths_of_states:Addr
 bW:Addr
 k_cheapest_run:Addr
 dY:Addr
 aZ:Addr
 bY:Addr
 eO:Addr
structure Txt(K:W.Frag)(mg:Str->Option Value)(a:iT):Prop where
 wC:iL K "_law_open" "_law_open" gK a.qA a.qB
 aBQ:Binds K a.qB ["_law_script","_law_place"] []
 aBR:mg "_law_open" = some (.ref a.qA)
 aL:iL K "_law_draw" "_law_draw" jK a.qC a.qD
 aM:Binds K a.qD ["_law_hand","_law_many"] []
 aN:mg "_law_draw" = some (.ref a.qC)
 zC:iL K "_law_far" "_law_far" kT a.tI a.tJ
 aDk:Binds K a.tJ ["_law_hand","_law_bound_here"] []
 aDl:mg "_law_far" = some (.ref a.tI)
 tX:iL K "_law_whole" "_law_whole" gU a.nH a.nI
 aAp:Binds K a.nI ["_law_thing"] []
 aAq:mg "_law_whole" = some (.ref a.nH)
 mF:iL K "_law_factor" "_law_factor" fW a.lP a.lQ
 rO:Binds K a.lQ ["_law_hand"] []
 rP:mg "_law_factor" = some (.ref a.lP)
 pA:iL K "is_whole" "is_whole" kU a.tK a.tL
 tY:Binds K a.tL ["thing"] []
 tZ:mg "is_whole" = some (.ref a.tK)
 cX:iL K "is_amount" "is_amount" jL a.qE a.qF
 dM:Binds K a.qF ["thing"] []
 dN:mg "is_amount" = some (.ref a.qE)
 xZ:iL K "is_span" "is_span" oS a.xX a.xY
 aBs:Binds K a.xY ["thing"] []
 aBt:mg "is_span" = some (.ref a.xX)
 zD:iL K "is_piece" "is_piece" kW a.tM a.tN
 aDm:Binds K a.tN ["thing"] []
 aDn:mg "is_piece" = some (.ref a.tM)
 uA:iL K "are_pieces" "are_pieces" eC a.nJ a.nK
 aAr:Binds K a.nK ["thing"] []
 aAs:mg "are_pieces" = some (.ref a.nJ)
 wD:iL K "__init__" "Machine.__init__" eS a.j0 a.j7
 wG:Binds K a.j7 ["self","up","down","begin","run","rest","least","pieces"] []
 wH:iL K "_law_spec" "_law_spec" jM a.qG a.qH
 aBS:Binds K a.qH ["_law_hand","_law_by","_law_longest"] []
 aBT:mg "_law_spec" = some (.ref a.qG)
 pB:iL K "_law_machine" "_law_machine" eT a.j8 a.j9
 wI:Binds K a.j9 ["_law_spec_here"] []
 wJ:mg "_law_machine" = some (.ref a.j8)
 wK:iL K "gain" "Machine.gain" eU a.kA a.kB
 wL:Binds K a.kB ["self","price"] []
 wM:iL K "_law_gain" "_law_gain" gL a.qI a.qJ
 aBU:Binds K a.qJ ["_law_spec_here","_law_price_here"] []
 aBV:mg "_law_gain" = some (.ref a.qI)
 sI:iL K "may_be" "may_be" sF a.aAn a.aAo
 wN:Binds K a.aAo ["machine","state","on"] []
 wO:mg "may_be" = some (.ref a.aAn)
 iP:iL K "state_after" "state_after" fX a.lR a.lS
 mG:Binds K a.lS ["machine","state","on"] []
 mH:mg "state_after" = some (.ref a.lR)
 uB:iL K "_law_state" "_law_state" gW a.nL a.nM
 aAt:Binds K a.nM ["_law_hand","_law_spec_here"] []
 aAu:mg "_law_state" = some (.ref a.nL)
 uC:iL K "_law_after" "_law_after" gX a.nO a.nP
 aAv:Binds K a.nP ["_law_spec_here","_law_state_here","_law_on"] []
 aAw:mg "_law_after" = some (.ref a.nO)
 pC:iL K "is_depth" "is_depth" kX a.tO a.tQ
 uD:Binds K a.tQ ["thing"] []
 uE:mg "is_depth" = some (.ref a.tO)
 aAx:iL K "__init__" "Store.__init__" gY a.nQ a.nR
 aAy:Binds K a.nR ["self","cap","into","out","takes","gives"] []
 wQ:iL K "run_fault" "run_fault" jN a.qK a.qL
 aBW:Binds K a.qL ["machine","state","run"] []
 aBX:mg "run_fault" = some (.ref a.qK)
 pD:iL K "refuse_fault" "refuse_fault" eV a.kC a.kD
 wR:Binds K a.kD ["machine","state","run"] []
 wU:mg "refuse_fault" = some (.ref a.kC)
 uF:iL K "run_begins" "run_begins" gZ a.nS a.nU
 aAz:Binds K a.nU ["machine","state","run"] []
 aAA:mg "run_begins" = some (.ref a.nS)
 zE:iL K "run_cost" "run_cost" kY a.tR a.tS
 aDo:Binds K a.tS ["machine","state","run"] []
 aDp:mg "run_cost" = some (.ref a.tR)
 uG:iL K "least_of" "least_of" jC a.tT a.tU
 zF:Binds K a.tU ["ways","behind"] []
 zG:mg "least_of" = some (.ref a.tT)
 pE:iL K "worths_ahead" "worths_ahead" eW a.kE a.kF
 wV:Binds K a.kF ["places","hour","behind","ways_at"] []
 wW:mg "worths_ahead" = some (.ref a.kE)
 iK:iL K "worths_by_hour" "worths_by_hour" dP a.iC a.iD
 lB:Binds K a.iD ["layers","ways_at"] []
 lC:mg "worths_by_hour" = some (.ref a.iC)
 uH:iL K "first_best" "first_best" fH a.nV a.nW
 aAB:Binds K a.nW ["ways","behind"] []
 aAC:mg "first_best" = some (.ref a.nV)
 qU:iL K "first_row" "first_row" jO a.qM a.qN
 wX:Binds K a.qN ["place","worths","ways_at"] []
 wY:mg "first_row" = some (.ref a.qM)
 rQ:iL K "ways_one_on" "ways_one_on" fY a.lT a.lU
 yM:Binds K a.lU ["machine","ways"] []
 yN:mg "ways_one_on" = some (.ref a.lT)
 pF:iL K "are_machines" "are_machines" dU a.kG a.kH
 wZ:Binds K a.kH ["thing"] []
 w4:mg "are_machines" = some (.ref a.kG)
 aAD:iL K "__init__" "Works.__init__" hJ a.nX a.nY
 aAE:Binds K a.nY ["self","machines","store","lack"] []
 uI:iL K "_law_store" "_law_store" hU a.nZ a.oA
 aAF:Binds K a.oA ["_law_hand","_law_by"] []
 aAG:mg "_law_store" = some (.ref a.nZ)
 rR:iL K "_law_levels" "_law_levels" fZ a.lV a.lW
 yO:Binds K a.lW ["_law_store_here","_law_level"] []
 yP:mg "_law_levels" = some (.ref a.lV)
 kL:iL K "_law_works_spec" "_law_works_spec" cF a.gG a.gH
 qV:Binds K a.gH ["_law_hand","_law_most"] []
 qW:mg "_law_works_spec" = some (.ref a.gG)
 uJ:iL K "_law_works" "_law_works" fJ a.oB a.oC
 aAH:Binds K a.oC ["_law_spec_here"] []
 aAI:mg "_law_works" = some (.ref a.oB)
 iX:iL K "_law_position" "_law_position" dE a.iU a.iV
 mS:Binds K a.iV ["_law_hand","_law_spec_here"] []
 mT:mg "_law_position" = some (.ref a.iU)
 kM:iL K "levels_after" "levels_after" eX a.kI a.kJ
 pG:Binds K a.kJ ["store","level","hours"] []
 pH:mg "levels_after" = some (.ref a.kI)
 rS:iL K "levels_from" "levels_from" gA a.lX a.lY
 yQ:Binds K a.lY ["store","level"] []
 yR:mg "levels_from" = some (.ref a.lX)
 zH:iL K "drawn_by" "drawn_by" kZ a.tV a.tW
 aDq:Binds K a.tW ["store","level","later"] []
 aDr:mg "drawn_by" = some (.ref a.tV)
 oP:iL K "level_ways" "level_ways" fK a.oE a.oF
 uK:Binds K a.oF ["store","level","price"] []
 uL:mg "level_ways" = some (.ref a.oE)
 jD:iL K "worths_of_levels" "worths_of_levels" bP a.fM a.dW
 pI:Binds K a.dW ["store","level","prices"] []
 pJ:mg "worths_of_levels" = some (.ref a.fM)
 mU:iL K "cheapest_path" "cheapest_path" cK a.iW a.fS
 vE:Binds K a.fS ["store","level","prices"] []
 vF:mg "cheapest_path" = some (.ref a.iW)
 lD:iL K "states_by_hour" "states_by_hour" dQ a.iE a.iF
 sJ:Binds K a.iF ["machine","state","hours"] []
 sL:mg "states_by_hour" = some (.ref a.iE)
 uM:iL K "next_hours" "next_hours" fL a.oG a.oH
 aAJ:Binds K a.oH ["machine","state"] []
 aAK:mg "next_hours" = some (.ref a.oG)
 qX:iL K "hour_ways" "hour_ways" gM a.qO a.qP
 w5:Binds K a.qP ["machine","state","price"] []
 w6:mg "hour_ways" = some (.ref a.qO)
 jE:iL K "worths_of_states" "worths_of_states" bT a.fN a.dX
 pK:Binds K a.dX ["machine","state","prices"] []
 pL:mg "worths_of_states" = some (.ref a.fN)
 pM:iL K "cheapest_run" "cheapest_run" cW a.kK a.gO
 w9:Binds K a.gO ["machine","state","prices"] []
 xA:mg "cheapest_run" = some (.ref a.kK)
 uN:iL K "_law_price" "_law_price" hV a.oI a.oJ
 aAL:Binds K a.oJ ["_law_hand","_law_by","_law_most"] []
 aAM:mg "_law_price" = some (.ref a.oI)
 iN:iL K "least_of_machines" "least_of_machines" bZ a.eM a.eN
 m7:Binds K a.eN ["works","position","prices"] []
 m8:mg "least_of_machines" = some (.ref a.eM)
 lE:iL K "least_of_store" "least_of_store" dR a.iG a.iH
 sM:Binds K a.iH ["works","position","prices"] []
 sN:mg "least_of_store" = some (.ref a.iG)
 rT:iL K "price_bound" "price_bound" eG a.lZ a.mC
 yS:Binds K a.mC ["works","position","wants","prices"] []
 yT:mg "price_bound" = some (.ref a.lZ)
 lF:iL K "_law_least_run" "_law_least_run" dS a.iI a.iJ
 sO:Binds K a.iJ ["_law_spec_here","_law_state_here","_law_prices_here"] []
 sP:mg "_law_least_run" = some (.ref a.iI)
 uO:iL K "_law_drawn" "_law_drawn" hX a.oK a.oM
 aAN:Binds K a.oM ["_law_store_here","_law_level","_law_later"] []
 aAO:mg "_law_drawn" = some (.ref a.oK)
 xB:iL K "_law_want" "_law_want" jP a.qQ a.qR
 aBY:Binds K a.qR ["_law_hand","_law_by"] []
 aBZ:mg "_law_want" = some (.ref a.qQ)
 kN:iL K "_law_least_path" "_law_least_path" dA a.gI a.gJ
 qY:Binds K a.gJ ["_law_store_here","_law_level","_law_prices_here"] []
 qZ:mg "_law_least_path" = some (.ref a.gI)
 uP:iL K "_law_bound" "_law_bound" hZ a.oN a.oO
 aAP:Binds K a.oO ["_law_spec_here","_law_position_here","_law_wants","_law_prices_here"] []
 aAQ:mg "_law_bound" = some (.ref a.oN)
 rV:iL K "_law_prices" "_law_prices" eI a.mD a.mE
 yU:Binds K a.mE ["_law_hand","_law_by","_law_lack","_law_hours"] []
 yV:mg "_law_prices" = some (.ref a.mD)
 xC:iL K "_law_case" "_law_case" gN a.qS a.qT
 aB0:Binds K a.qT ["_law_hand","_law_most"] []
 aB1:mg "_law_case" = some (.ref a.qS)
 aNg:iL K "law" "law" aDe a.aIU a.aIV
 aPv:Binds K a.aIV ["_law_script"] []
 aPw:mg "law" = some (.ref a.aIU)
 cB:Cls K a.aZ
 aBu:mg "Machine" = some (.ref a.aZ)
 aE6:Mk K a.aZ a.j0
 m_Machine_gain:Meth K a.aZ "gain" a.kA
 uQ:cP K a.aZ "up"
 pN:cP K a.aZ "down"
 mV:cP K a.aZ "begin"
 rW:cP K a.aZ "run"
 pO:cP K a.aZ "rest"
 mW:cP K a.aZ "least"
 lG:cP K a.aZ "pieces"
 i_Machine:Isi K a.aZ
 iY:Cls K a.bY
 aFO:mg "Store" = some (.ref a.bY)
 aIW:Mk K a.bY a.nQ
 xD:cP K a.bY "cap"
 uR:cP K a.bY "into"
 xE:cP K a.bY "out"
 rX:cP K a.bY "takes"
 rY:cP K a.bY "gives"
 i_Store:Isi K a.bY
 uS:Cls K a.eO
 aIX:mg "Works" = some (.ref a.eO)
 aIY:Mk K a.eO a.nX
 lH:cP K a.eO "machines"
 mI:cP K a.eO "store"
 aAR:cP K a.eO "lack"
 i_Works:Isi K a.eO
 jF:aLo K a.dW a.k_worths_of_levels a.bV
 mX:aLo K a.fS a.k_cheapest_path a.dF
 jG:aLo K a.dX a.k_worths_of_states a.bW
 pP:aLo K a.gO a.k_cheapest_run a.dY
 aE7:mg "abs" = none
 aB2:mg "all" = none
 zI:mg "bool" = none
 dO:mg "enumerate" = none
 aAS:mg "int" = none
 bS:mg "isinstance" = none
 jQ:mg "len" = none
 jH:mg "list" = none
 sQ:mg "max" = none
 pQ:mg "min" = none
 dI:mg "range" = none
 lI:mg "reversed" = none
 sR:mg "sorted" = none
 aB3:mg "sum" = none
 uT:mg "tuple" = none
 aAT:mg "zip" = none
 gC:∃t,mg "MOST_LEVELS" = some (.int 8 t)
 d8:∃t,mg "LONGEST_STINT" = some (.int 12 t)
 gE:∃t,mg "MOST_PIECES" = some (.int 4 t)
 d9:∃t,mg "MOST_MACHINES" = some (.int 6 t)
abbrev cG:Pos:=⟨138,34,138,92⟩
abbrev cH:Str:=(("worths_of_levels" : Str) ++ ".<locals>.") ++ "<lambda>"
abbrev eZ:Pos:=⟨141,36,141,94⟩
abbrev fA:Str:=(("cheapest_path" : Str) ++ ".<locals>.") ++ "<lambda>"
abbrev cI:Pos:=⟨103,34,103,93⟩
abbrev cJ:Str:=(("worths_of_states" : Str) ++ ".<locals>.") ++ "<lambda>"
abbrev fT:Pos:=⟨106,35,106,94⟩
abbrev fU:Str:=(("cheapest_run" : Str) ++ ".<locals>.") ++ "<lambda>"
end My
namespace My
open PySem L2
inductive Th (H:Hp):V->String->Prop where
 |non:Th H .non "NoneType"
 |bl (b:Bool):Th H (.bl b) "bool"
 |int (i:Int):Th H (.int i) "int"
 |str (x:Str):Th H (.str x) "str"
 |lst {p:Addr} {xs:List V} (e:H p=some (.lst xs)):Th H (.ref p) "list"
 |tup {p:Addr} {xs:List V} (e:H p=some (.tup xs)):Th H (.ref p) "tuple"
 |dK {p:Addr} {kvs:List (Key×V)} (e:H p=some (.dK kvs)):Th H (.ref p) "dict"
theorem Th.ty{K:W.Frag}{H:Hp}{v:V}{T:String}(h:Th H v T):zZ K H v (.type T):=by
 cases h with
 |non=>exact .non
 |bl b=>exact .bl b
 |int i=>exact .int i
 |str x=>exact .str x
 |lst e=>exact .lst e
 |tup e=>exact .tup e
 |dK e=>exact .dK e
theorem aIZ{K:PySem.W.Frag}{H:Hp}{v:V}{T:String}(h:Th H v T):IsI K H v (.ty "int") (T == "int" || T == "bool"):=by
 refine⟨_,h.ty,.inl ⟨_,rfl,?_⟩⟩
 cases h <;> rfl
theorem aHa{K:PySem.W.Frag}{H:Hp}{v:V}{T:String}(h:Th H v T):IsI K H v (.ty "bool") (T == "bool"):=by
 refine⟨_,h.ty,.inl ⟨_,rfl,?_⟩⟩
 cases h <;> rfl
def amt:V->Bool
 |.int i=>decide (0<=i) && decide (i<=10 ^ 12)
 |_=>false
structure bB(H:Hp)(p:Addr):Prop where
 ex:∃(d c:Int) (q:Addr) (ms:List Int),H p=some (.lst [.int d,.int c,.ref q])/\H q=some (.lst (ms.map V.int))/\ms≠[]/\q≠p
def m9(p:Addr)(H H':Hp):Prop:=∀(d c:Int) (q:Addr),H p=some (.lst [.int d,.int c,.ref q])->∃d' c':Int,H' p=some (.lst [.int d',.int c',.ref q])
theorem m9.trans{p:Addr}{H H1 H2:Hp}(a:m9 p H H1)(b:m9 p H1 H2):m9 p H H2:=fun d c q e=>by
 obtain⟨d',c',e'⟩:=a d c q e
 exact b d' c' q e'
theorem m9.of{p:Addr}{H H':Hp}(s:∀o,H p=some o->H' p=some o):m9 p H H':=fun d c q e=>⟨d,c,s _ e⟩
theorem bB.same{H H':Hp}{p:Addr}(h:bB H p)(s:aI H H'):bB H' p:=by
 obtain⟨d,c,q,ms,hp,hq,hne,hqp⟩:=h.ex
 exact⟨⟨d,c,q,ms,s _ _ hp,s _ _ hq,hne,hqp⟩⟩
theorem aHb{K:PySem.W.Frag}{H:Hp}{v:V}{T:String}(h:Th H v T):IsI K H v (.ty "list") (T == "list"):=by
 refine⟨_,h.ty,.inl ⟨_,rfl,?_⟩⟩
 cases h <;> rfl
theorem aJY{K:PySem.W.Frag}{H:Hp}{v:V}{T:String}(h:Th H v T):IsI K H v (.ty "tuple") (T == "tuple"):=by
 refine⟨_,h.ty,.inl ⟨_,rfl,?_⟩⟩
 cases h <;> rfl
theorem aLz{ms:List Int}{c:Int}(h:ms≠[]):∃m,m∈ms/\xP (ms.map V.int) (c % ((ms.map V.int).length:Int))=some (.int m):=by
 have hl:0 < ms.length:=List.length_pos_iff.mpr h
 have e1:=Int.emod_nonneg c (b:=((ms.map V.int).length:Int)) (by rw[List.length_map];omega)
 have e2:=Int.emod_lt_of_pos c (b:=((ms.map V.int).length:Int)) (by rw[List.length_map];omega)
 obtain⟨j,hj⟩ : ∃j:Nat,c % ((ms.map V.int).length:Int)=(j:Int):=⟨_,(Int.toNat_of_nonneg e1).symm⟩
 rw[hj] at e2 ⊢
 rw[List.length_map] at e2
 have hjl:j < ms.length:=by omega
 exact⟨ms[j],List.getElem_mem hjl,gQ (by rw[List.getElem?_map,List.getElem?_eq_getElem hjl];rfl)⟩
theorem aI0(ms:List Int)(lo hi:Option Int):∃r:List Int,pV (ms.map V.int) lo hi=r.map V.int/\r.length=(pV (ms.map V.int) lo hi).length:=by
 unfold pV
 rw[<-List.map_drop,<-List.map_take]
 exact⟨_,rfl,by simp⟩
theorem rot{ms:List Int}{i:Int}(h0:0<=i)(h1:i < ms.length):∃ms':List Int,pV (ms.map V.int) (some i) none++pV (ms.map V.int) none (some i)=ms'.map V.int/\ms'≠[]/\ms'.length<=ms.length+ms.length:=by
 obtain⟨r1,e1,l1⟩:=aI0 ms (some i) none
 obtain⟨r2,e2,l2⟩:=aI0 ms none (some i)
 have b1:=fB (ms.map V.int) (some i) none
 have b2:=fB (ms.map V.int) none (some i)
 rw[List.length_map] at b1 b2
 refine⟨r1++r2,by rw[e1,e2,List.map_append],fun z=>?_,by rw[List.length_append];omega⟩
 have z1:r1=[]:=(List.append_eq_nil_iff.mp z).1
 obtain⟨j,rfl⟩:=Int.eq_ofNat_of_zero_le h0
 have hj:j < ms.length:=by omega
 rw[z1,List.length_nil] at l1
 have l3:(pV (ms.map V.int) (some (j:Int)) none).length=ms.length - j:=by
  unfold pV
  rw[HT.aID,HT.aGB,List.length_take,List.length_drop,List.length_map,Nat.min_eq_left (Nat.le_of_lt hj)]
  omega
 rw[l3] at l1
 omega
def aFP(K:W.Frag):Sp:=fun vs H Q _=>∃(a:Addr) (ns:List Int) (i:Int),vs=[.ref a,.int i]/\bR K H a (ns.map V.int)/\ns.length<=63/\0<=i/\
 ∀p H',aI H H'->H p=none->bB H' p->Q (.ref p) H'
theorem aFQ{P:Program}{w:World}{K:PySem.W.Frag}{mg:Str->Option Value}{base:Heap}{a:iT}(tx:Txt K mg a):bL P w K mg base gF 1 a.qA a.qB ["_law_script","_law_place"] (aFP K):=by
 refine tx.wC.ok iA (fun vs H Q E h=>?_) (fun cdv A outer s H vs Q E hr h=>?_)
 ·obtain⟨a,ns,i,rfl,_⟩:=h
  rfl
 ·obtain⟨a,ns,i,rfl ,hS,hl,h0,k⟩:=h
  have hu:=jI hr
  refine Z.root (Z.aD (Z.pZ (k:=1) (idx:=[]) (N:=["_law_cell"]) (i:=2) iA.nd rfl (Or.inl rfl) (cQ (sc:=aB gK) (NX:=["_law_script","_law_place","_law_cells","_law_at","_law_digits"]) rfl rfl rfl (by decide +kernel)) rfl (Z.cV (K':=K) (Z.rZ (rs:=aJz K) aMk (Z.pv 0) Z.xN (Z.xO Z.aA))) (fun _ _ _ _=>(Z.aT (i:=0) (show(["_law_cell"]:List Str).Nodup by decide +kernel) rfl (Or.inl rfl))) (eB (by decide)) (fun _ _ _ _=>Z.dG) (fun _ _ _ _=>(Z.aP aJB (by rfl) tx.aE7 aN0 (Z.aE (Z.pv 0) Z.aC))))
   (Z.aD (Z.cC (Z.bE (r:=oZ K) (eF hu) (Z.pv 2) (Z.jU Z.aC) (bI _)) (Z.aG (Z.aV (i:=2) iA.nd rfl (Or.inl rfl) (Z.aFu Z.aA))) Z.bH)
   (Z.aD (Z.aV (i:=3) iA.nd rfl (Or.inl rfl) (Z.aS rK (Z.pv 1) (Z.aP (rc:=vI K) cR (by rfl) tx.jQ iZ (Z.aE (Z.pv 2) Z.aC))))
   (Z.aD (Z.aV (i:=4) iA.nd rfl (Or.inl rfl) Z.aA)
   (Z.aD (Z.cC (Z.vC (Z.sY (Z.bE aM7 (Z.aJ (K':=K) (Z.pv 2) (Z.pv 3) (fun _ _=>rfl)) (Z.aS aCJ Z.aA Z.aA) (bI _)) (Z.nC (Z.bE aM6 (Z.pv 1) (Z.aP (rc:=vI K) cR (by rfl) tx.jQ iZ (Z.aE (Z.pv 2) Z.aC)) (bI _))))) (Z.aG (Z.aV (i:=4) iA.nd rfl (Or.inl rfl) (Z.aJ (K':=K) (Z.pv 2) (Z.pv 3) (fun _ _=>rfl)))) Z.bH)
   (Z.aG (Z.aY (Z.aHW (Z.pv 4) (Z.aS bJ Z.aA (Z.aS bK Z.aA (Z.pv 1))) (Z.aS bJ (Z.rZ (rs:=aJz K) aMk (Z.pv 2) (Z.xO (Z.pv 3)) Z.xN) (Z.rZ (rs:=aJz K) aMk (Z.pv 2) Z.xN (Z.xO (Z.pv 3)))))))))))) ?_
  refine aO (σ:=[some (.ref a),some (.int i),none,none,none]) rfl ?_
  refine aKM ?_
  walk_at "w"
  refine aBh hS ?_
  intro p1 n1
  walk_at "w"
  rw[show pV (ns.map V.int) none (some 63)=ns.map V.int from aKS (n:=63) (by rw[List.length_map];exact hl)]
  refine mL (bR.of aH) ?_
  refine aBi (fun v=>match v with|.int i=>.int (if i < 0 then -i else i)|v=>v) (bR.of aH) (cD (by rw[List.length_map];omega)) (fun x N N' hx hN=>?_) ?_
  ·obtain⟨y,hy,rfl⟩:=List.mem_map.mp hx
   walk_at "w"
   exact hN
  ·intro p2 n2
   repeat walk_at "st"
   have s2:aI H (upd (upd H p1 (.lst (ns.map V.int))) p2 (.lst ((ns.map V.int).map fun v=>match v with|.int i=>.int (if i < 0 then -i else i)|v=>v))):=(aI.new n1).trans (aI.new n2)
   rw[List.map_map] at s2 ⊢
   generalize hm:ns.map ((fun v=>match v with|V.int i=>V.int (if i < 0 then -i else i)|v=>v) ∘ V.int)=xs at s2 ⊢
   obtain⟨ms,rfl⟩ : ∃ms:List Int,xs=ms.map V.int:=⟨ns.map fun i=>if i < 0 then -i else i,by rw[<-hm,List.map_map];rfl⟩
   have lm:ms.length<=63:=by
    have:=congrArg List.length hm
    simp only[List.length_map] at this
    omega
   refine iS (fun σ' H'=>∃(c:Addr) (ms:List Int),σ'=[some (.ref a),some (.int i),some (.ref c),none,none]/\aI H H'/\H' c=some (.lst (ms.map V.int))/\ms≠[]/\ms.length<=63) (fun N hN=>?_) ?_
   ·walk_at "w"
    intro p3 n3
    walk_at "w"
    refine⟨_,aFt (bR.of (by walk_at "hp")) (bR.of aH),?_⟩
    walk_at "w"
    refine iR (fun h=>?_) (fun h=>?_)
    ·walk_at "w"
     intro p4 n4
     walk_at "w"
     exact hN _ _ ⟨p4,[0],rfl,(s2.trans (aI.new n3)).trans (aI.new n4),aH,by simp,by simp⟩
    ·walk_at "w"
     refine hN _ _ ⟨p2,ms,rfl,s2.trans (aI.new n3),by walk_at "hp",?_,lm⟩
     rintro rfl
     simp at h
   ·rintro σ' H' ⟨c,ms,rfl,sH,hc,hne,lm⟩
    have hl:0 < ms.length:=List.length_pos_iff.mpr hne
    obtain⟨m,_,hm⟩:=aLz (c:=i) hne
    have e1:=Int.emod_nonneg i (b:=((ms.map V.int).length:Int)) (by rw[List.length_map];omega)
    have e2:=Int.emod_lt_of_pos i (b:=((ms.map V.int).length:Int)) (by rw[List.length_map];omega)
    obtain⟨ms',em,en,el⟩:=rot (ms:=ms) e1 (by rw[List.length_map] at e2 ⊢;exact e2)
    walk_at "w"
    refine cA (fun h=>?_) (fun h=>?_)
    ·walk_at "w"
     refine cA (fun h=>?_) (fun h=>?_)
     all_goals
      walk_at "w"
      refine aBh (bR.of hc) ?_
      intro p5 n5
      walk_at "w"
      refine aBh (bR.of (by walk_at "hp")) ?_
      intro p6 n6
      walk_at "w"
      refine xR (by walk_at "hp") (by walk_at "hp") (cD (by have:=fB (ms.map V.int) (some (i % ((ms.map V.int).length:Int))) none;have:=fB (ms.map V.int) none (some (i % ((ms.map V.int).length:Int)));simp only[List.length_map] at *;omega)) ?_
      intro p7 n7
      walk_at "w"
      rw[em]
      walk_at "w"
      intro p8 n8
      walk_at "w"
      have s8:=((aI.new (o:=.lst (pV (ms.map V.int) (some (i % ((ms.map V.int).length:Int))) none)) n5).trans (aI.new (o:=.lst (pV (ms.map V.int) none (some (i % ((ms.map V.int).length:Int))))) n6)).trans (aI.new (o:=.lst (ms'.map V.int)) n7)
      refine k _ _ (sH.trans (s8.trans (aI.new n8))) ((sH.trans s8).free n8) ⟨⟨_,_,_,ms',aH,by walk_at "hp",en,?_⟩⟩
      exact bC n8 aH
    ·walk_at "w"
     refine aBh (bR.of hc) ?_
     intro p5 n5
     walk_at "w"
     refine aBh (bR.of (by walk_at "hp")) ?_
     intro p6 n6
     walk_at "w"
     refine xR (by walk_at "hp") (by walk_at "hp") (cD (by have:=fB (ms.map V.int) (some (i % ((ms.map V.int).length:Int))) none;have:=fB (ms.map V.int) none (some (i % ((ms.map V.int).length:Int)));simp only[List.length_map] at *;omega)) ?_
     intro p7 n7
     walk_at "w"
     rw[em]
     walk_at "w"
     intro p8 n8
     walk_at "w"
     have s8:=((aI.new (o:=.lst (pV (ms.map V.int) (some (i % ((ms.map V.int).length:Int))) none)) n5).trans (aI.new (o:=.lst (pV (ms.map V.int) none (some (i % ((ms.map V.int).length:Int))))) n6)).trans (aI.new (o:=.lst (ms'.map V.int)) n7)
     refine k _ _ (sH.trans (s8.trans (aI.new n8))) ((sH.trans s8).free n8) ⟨⟨_,_,_,ms',aH,by walk_at "hp",en,?_⟩⟩
     exact bC n8 aH
def aFR(K:W.Frag):Sp:=fun vs H Q _=>∃(p:Addr) (n:Int),vs=[.ref p,.int n]/\bB H p/\0 < n/\n < 1073741824/\
 ∀(r:Int) H',0<=r->r < n->bB H' p->bX p H H'->m9 p H H'->Q (.int r) H'
theorem cT{P:Program}{w:World}{K:PySem.W.Frag}{mg:Str->Option Value}{base:Heap}{a:iT}(tx:Txt K mg a):bL P w K mg base gF 1 a.qC a.qD ["_law_hand","_law_many"] (aFR K):=by
 refine tx.aL.ok iB (fun vs H Q E h=>?_) (fun cdv A outer s H vs Q E hr h=>?_)
 ·obtain⟨p,n,rfl,_⟩:=h
  rfl
 ·obtain⟨p,n,rfl ,hh,h0,h1,k⟩:=h
  have hu:=jI hr
  refine Z.root (Z.aD (Z.cC (Z.bE aBH (Z.aJ (K':=K) (Z.pv 0) Z.aA (fun _ _=>rfl)) Z.aA (bI _)) (Z.aD (Z.aV (i:=2) iB.nd rfl (Or.inl rfl) (Z.aS rK (Z.aJ (K':=K) (Z.pv 0) Z.aA (fun _ _=>rfl)) (Z.pv 1)))
   (Z.aD (Z.y4 (Z.aS aFk (Z.aJ (K':=K) (Z.pv 0) Z.aA (fun _ _=>rfl)) (Z.pv 1)) (Z.aA8 (Z.pv 0) Z.aA set_list))
   (Z.aG (Z.aY (Z.pv 2))))) Z.bH)
   (Z.aD (Z.aFj (Z.pv 0) Z.aA aN2 Z.aA aCH set_list)
   (Z.aD (Z.aV (i:=3) iB.nd rfl (Or.inl rfl) (Z.aS rK (Z.aJ (K':=K) (Z.aJ (K':=K) (Z.pv 0) Z.aA (fun _ _=>rfl)) (Z.aS rK (Z.aJ (K':=K) (Z.pv 0) Z.aA (fun _ _=>rfl)) (Z.aP (rc:=vI K) cR (by rfl) tx.jQ iZ (Z.aE (Z.aJ (K':=K) (Z.pv 0) Z.aA (fun _ _=>rfl)) Z.aC))) (fun _ _=>rfl)) Z.aA))
   (Z.aD (Z.aV (i:=4) iB.nd rfl (Or.inl rfl) (Z.aS rK (Z.aS bJ (Z.aS bJ (Z.aS bK (Z.pv 3) Z.aA) (Z.aS bK (Z.aJ (K':=K) (Z.pv 0) Z.aA (fun _ _=>rfl)) Z.aA)) Z.aA) Z.aA))
   (Z.aD (Z.aV (i:=4) iB.nd rfl (Or.inl rfl) (Z.aS rK (Z.aS bJ (Z.aS bK (Z.pv 4) (Z.pv 4)) (Z.aJ (K':=K) (Z.pv 0) Z.aA (fun _ _=>rfl))) Z.aA))
   (Z.aD (Z.aV (i:=4) iB.nd rfl (Or.inl rfl) (Z.aS rK (Z.aS bJ (Z.aS bK (Z.pv 4) Z.aA) Z.aA) Z.aA))
   (Z.aG (Z.aY (Z.aS rK (Z.aS aFk (Z.aS rK (Z.aS bK (Z.pv 4) (Z.pv 4)) Z.aA) Z.aA) (Z.pv 1)))))))))) ?_
  obtain⟨d,c,q,ms,hp,hq,hne,hqp⟩:=hh.ex
  refine aO (σ:=[some (.ref p),some (.int n),none,none,none]) rfl ?_
  walk_at "w"
  refine cA (fun hd=>?_) (fun hd=>?_)
  ·walk_at "w"
   refine aAd hp rfl ?_
   walk_at "w"
   refine k _ _ (Int.emod_nonneg _ (by omega)) (Int.emod_lt_of_pos _ h0) ⟨⟨_,c,q,ms,aH,by walk_at "hp",hne,hqp⟩⟩ bX.upd (fun d0 c0 q0 e0=>by rw[hp] at e0;cases e0;exact⟨_,_,aH⟩)
  ·walk_at "w"
   refine aN8 (bR.of hp) (by decide) rfl ?_
   walk_at "w"
   refine aAd hp rfl ?_
   obtain⟨m,_,hm⟩:=aLz (c:=c+1) hne
   have hlen:0 < ((ms.map V.int).length:Int):=by rw[List.length_map];have:=List.length_pos_iff.mpr hne;omega
   walk_at "w"
   have hq':(upd H p (.lst [.int d,.int (c+1),.ref q])) q=some (.lst (ms.map V.int)):=by walk_at "hp"
   walk_at "w"
   exact k _ _ (Int.emod_nonneg _ (by omega)) (Int.emod_lt_of_pos _ h0) ⟨⟨d,c+1,q,ms,aH,hq',hne,hqp⟩⟩ bX.upd (fun d0 c0 q0 e0=>by rw[hp] at e0;cases e0;exact⟨_,_,aH⟩)
def aHc(K:W.Frag):Sp:=fun vs H Q _=>∃(p:Addr) (b:Int),vs=[.ref p,.int b]/\bB H p/\0 < b/\
 ∀(r:Int) H',0<=r->r < b->bB H' p->bX p H H'->m9 p H H'->Q (.int r) H'
theorem aHd{P:Program}{w:World}{K:PySem.W.Frag}{mg:Str->Option Value}{base:Heap}{a:iT}(tx:Txt K mg a):bL P w K mg base gF 2 a.tI a.tJ ["_law_hand","_law_bound_here"] (aHc K):=by
 have aK:=cT (P:=P) (w:=w) (base:=base) tx
 refine tx.zC.ok p9 (fun vs H Q E h=>?_) (fun cdv A outer s H vs Q E hr h=>?_)
 ·obtain⟨p,b,rfl,_⟩:=h
  rfl
 ·obtain⟨p,b,rfl ,hh,h0,k⟩:=h
  have hu:=jI hr
  refine Z.root (Z.aD (Z.aV (i:=2) p9.nd rfl (Or.inl rfl) Z.aA)
   (Z.aD (Z.cO PassesOwn.never rfl (Z.dC (by rfl) tx.dI (Z.aE Z.aA Z.aC)) (Z.aT (i:=3) p9.nd rfl (Or.inl rfl)) (Z.aG (Z.aV (i:=2) p9.nd rfl (Or.inl rfl) (Z.aS bJ (Z.aS bK (Z.pv 2) Z.aA) (Z.aF (aK) (hr.mono (by decide)) (by rfl) tx.aN tx.aL.kp tx.aM .nil aQ (Z.aE (Z.pv 0) (Z.aE Z.aA Z.aC)))))))
   (Z.aG (Z.aY (Z.aS rK (Z.pv 2) (Z.pv 1)))))) ?_
  refine aO (σ:=[some (.ref p),some (.int b),none,none]) rfl ?_
  walk_at "w"
  refine⟨by decide,by decide,?_⟩
  refine sC (n:=11) (fun i σ' H'=>∃(t:Int) (x:Option V),σ'=[some (.ref p),some (.int b),some (.int t),x]/\bB H' p/\bX p H H'/\m9 p H H') ⟨0,none,rfl,hh,fun _ _ e _=>e,m9.of fun _ e=>e⟩ (fun i σ' H' hi ⟨t,x,e,h',kp,sq⟩=>?_) (fun σ' H' ⟨t,x,e,h',kp,sq⟩=>?_)
  ·subst e
   walk_at "w"
   refine⟨p,_,rfl,h',by decide,by decide,fun r H2 r0 r1 h2 k2 q2=>?_⟩
   walk_at "w"
   exact⟨_,_,rfl,h2,kp.trans k2,sq.trans q2⟩
  ·subst e
   walk_at "w"
   exact k _ _ (Int.emod_nonneg _ (by omega)) (Int.emod_lt_of_pos _ h0) h' kp sq
def aEa(K:PySem.W.Frag):Sp:=fun vs H Q _=>∃v T,vs=[v]/\Th H v T/\Q (.bl (T == "int")) H
theorem aEb{P:Program}{w:World}{K:PySem.W.Frag}{mg:Str->Option Value}{base:Heap}{a:iT}(tx:Txt K mg a):bL P w K mg base gF 1 a.nH a.nI ["_law_thing"] (aEa K):=by
 refine tx.tX.ok aD2 (fun vs H Q E h=>?_) (fun cdv A outer s H vs Q E hr h=>?_)
 ·obtain⟨v,T,rfl,_⟩:=h
  rfl
 ·obtain⟨v,T,rfl ,ht,k⟩:=h
  have hu:=jI hr
  refine Z.root (Z.aG (Z.aY (Z.sZ (Z.aP (rc:=aCQ K) gS (by rfl) tx.bS cS (Z.aE (Z.pv 0) (Z.aE (Z.nB (v:=.ty "int") (by rfl) tx.aAS aFq rfl) Z.aC))) (Z.rJ (Z.aFg (Z.aP (rc:=aCQ K) gS (by rfl) tx.bS cS (Z.aE (Z.pv 0) (Z.aE (Z.nB (v:=.ty "bool") (by rfl) tx.zI aIH rfl) Z.aC)))))))) ?_
  refine aO (σ:=[some v]) rfl ?_
  walk_at "w"
  refine tG (aIZ ht) ?_
  walk_at "w"
  refine iR (fun h=>?_) (fun h=>?_)
  ·walk_at "w"
   refine tG (aHa ht) ?_
   walk_at "w"
   have e:(!(T == "bool"))=(T == "int"):=by cases ht <;> first|rfl|cases h
   rw[e]
   exact k
  ·have e:(T == "int")=false:=by cases ht <;> first|rfl|cases h
   rw[e] at k
   exact k
def aDs(K:W.Frag):Sp:=fun vs H Q _=>∃(p:Addr),vs=[.ref p]/\bB H p/\∀(r:Int) H',1<=r->r<=50000000000->bB H' p->bX p H H'->m9 p H H'->Q (.int r) H'
theorem aDt{P:Program}{w:World}{K:PySem.W.Frag}{mg:Str->Option Value}{base:Heap}{a:iT}(tx:Txt K mg a):bL P w K mg base gF 3 a.lP a.lQ ["_law_hand"] (aDs K):=by
 have aK:=cT (P:=P) (w:=w) (base:=base) tx
 have aIj:=aHd (P:=P) (w:=w) (base:=base) tx
 refine tx.mF.ok aDf (fun vs H Q E h=>?_) (fun cdv A outer s H vs Q E hr h=>?_)
 ·obtain⟨p,rfl,_⟩:=h
  rfl
 ·obtain⟨p,rfl ,hh,k⟩:=h
  have hu:=jI hr
  refine Z.root (Z.aD (Z.cC (Z.bE aBH (Z.aF (aK) (hr.mono (by decide)) (by rfl) tx.aN tx.aL.kp tx.aM .nil aQ (Z.aE (Z.pv 0) (Z.aE Z.aA Z.aC))) Z.aA (bI _)) (Z.aG (Z.aY Z.aA)) Z.bH)
   (Z.aG (Z.aY (Z.aS bJ Z.aA (Z.aF (aIj) (hr.mono (by decide)) (by rfl) tx.aDl tx.zC.kp tx.aDk .nil aQ (Z.aE (Z.pv 0) (Z.aE (Z.aS bK Z.aA (Z.aS aCJ Z.aA Z.aA)) Z.aC))))))) ?_
  refine aO (σ:=[some (.ref p)]) rfl ?_
  walk_at "w"
  refine⟨p,_,rfl,hh,by decide,by decide,fun r1 H1 a1 b1 h1 k1 q1=>?_⟩
  walk_at "w"
  refine cA (fun h=>?_) (fun h=>?_)
  ·walk_at "w"
   exact k _ _ (by decide) (by decide) h1 k1 q1
  ·walk_at "w"
   refine⟨p,_,rfl,h1,by decide,fun r2 H2 a2 b2 h2 k2 q2=>?_⟩
   have b3:r2 < 50000000000:=b2
   walk_at "w"
   exact k _ _ (by omega) (by omega) h2 (k1.trans k2) (q1.trans q2)
structure MS where
 up:Int
 down:Int
 begin_:Int
 run:Int
 rest:Int
 least:Int
 pieces:List (Int×Int)
def Am(i:Int):Prop:=0<=i/\i<=1000000000000
structure aLA(ps:List (Int×Int)):Prop where
 len:ps.length<=4
 pc:∀t∈ps,1<=t.1/\Am t.1/\Am t.2
 up:∀(j:Nat) t u,ps[j]?=some t->ps[j+1]?=some u->t.2<=u.2
structure MS.Good(m:MS):Prop where
 up:1<=m.up/\m.up<=12
 down:1<=m.down/\m.down<=12
 begin_:Am m.begin_
 run:Am m.run
 rest:Am m.rest
 least:Am m.least
 pieces:aLA m.pieces
structure xF(H:Hp)(qs:List Addr)(ps:List (Int×Int)):Prop where
 len:qs.length=ps.length
 at_:∀(j:Nat) q t,qs[j]?=some q->ps[j]?=some t->H q=some (.tup [.int t.1,.int t.2])
structure yD(H:Hp)(p:Addr)(ps:List (Int×Int)):Prop where
 ex:∃qs,H p=some (.lst (qs.map V.ref))/\xF H qs ps
structure cM(H:Hp)(s:Addr)(m:MS):Prop where
 ex:∃pl,H s=some (.lst [.int m.up,.int m.down,.int m.begin_,.int m.run,.int m.rest,.int m.least,.ref pl])/\yD H pl m.pieces
def mFs(m:MS)(pl:Addr):List (Str×V):=[("up",.int m.up),("down",.int m.down),("begin",.int m.begin_),("run",.int m.run),("rest",.int m.rest),("least",.int m.least),("pieces",.ref pl)]
structure cN(C:Addr)(H:Hp)(a:Addr)(m:MS):Prop where
 ex:∃dx pl,H a=some (.ins C dx (mFs m pl))/\yD H pl m.pieces
theorem xF.at2{H:Hp}{qs:List Addr}{ps:List (Int×Int)}(h:xF H qs ps){q:Addr}(hq:q∈qs):∃t∈ps,H q=some (.tup [.int t.1,.int t.2]):=by
 obtain⟨j,hj,rfl⟩:=List.getElem_of_mem hq
 have hj2:j < ps.length:=by rw[<-h.len];exact hj
 exact⟨ps[j],List.getElem_mem hj2,h.at_ j _ _ (List.getElem?_eq_getElem hj) (List.getElem?_eq_getElem hj2)⟩
theorem xF.same{H H':Hp}{qs:List Addr}{ps:List (Int×Int)}(h:xF H qs ps)(s:aI H H'):xF H' qs ps:=⟨h.len,fun j q t h1 h2=>s _ _ (h.at_ j q t h1 h2)⟩
theorem yD.same{H H':Hp}{p:Addr}{ps:List (Int×Int)}(h:yD H p ps)(s:aI H H'):yD H' p ps:=by
 obtain⟨qs,h1,h2⟩:=h.ex
 exact⟨qs,s _ _ h1,h2.same s⟩
theorem cM.same{H H':Hp}{p:Addr}{m:MS}(h:cM H p m)(s:aI H H'):cM H' p m:=by
 obtain⟨pl,h1,h2⟩:=h.ex
 exact⟨pl,s _ _ h1,h2.same s⟩
theorem cN.same{C:Addr}{H H':Hp}{p:Addr}{m:MS}(h:cN C H p m)(s:aI H H'):cN C H' p m:=by
 obtain⟨dx,pl,h1,h2⟩:=h.ex
 exact⟨dx,pl,s _ _ h1,h2.same s⟩
theorem xF.keep{H H':Hp}{qs:List Addr}{ps:List (Int×Int)}{p:Addr}(h:xF H qs ps)(hp:∀xs,H p≠some (.tup xs))(s:bX p H H'):xF H' qs ps:=
 ⟨h.len,fun j q t h1 h2=>by
  have e:=h.at_ j q t h1 h2
  exact s _ _ e (fun z=>hp _ (z▸e))⟩
theorem bB.aJ9{H:Hp}{p:Addr}(h:bB H p)(xs:List V):H p≠some (.tup xs):=fun z=>by
 obtain⟨d,c,q,ms,hp,_⟩:=h.ex
 rw[hp] at z
 cases z
theorem yD.keep{H H':Hp}{a p:Addr}{ps:List (Int×Int)}(h:yD H a ps)(hh:bB H p)(s:bX p H H'):yD H' a ps:=by
 obtain⟨qs,h1,h2⟩:=h.ex
 obtain⟨d,c,q,ms,hp,_⟩:=id hh.ex
 refine⟨qs,s _ _ h1 (fun z=>?_),h2.keep hh.aJ9 s⟩
 rw[z,hp] at h1
 cases qs with
 |nil=>cases h1
 |cons x xs=>cases h1
theorem cM.keep{H H':Hp}{a p:Addr}{m:MS}(h:cM H a m)(hh:bB H p)(s:bX p H H'):cM H' a m:=by
 obtain⟨pl,h1,h2⟩:=h.ex
 obtain⟨d,c,q,ms,hp,_⟩:=id hh.ex
 refine⟨pl,s _ _ h1 (fun z=>?_),h2.keep hh s⟩
 rw[z,hp] at h1
 cases h1
theorem uU{i:Int}(h:Am i):amt (.int i)=true:=by
 obtain⟨h1,h2⟩:=h
 have h3:i<=10 ^ 12:=h2
 show(decide (0<=i) && decide (i<=10 ^ 12))=true
 rw[decide_eq_true h1,decide_eq_true h3]
 rfl
def aHe(K:PySem.W.Frag):Sp:=fun vs H Q _=>∃v T,vs=[v]/\Th H v T/\Q (.bl (T == "int")) H
theorem xG{P:Program}{w:World}{K:PySem.W.Frag}{mg:Str->Option Value}{base:Heap}{a:iT}(tx:Txt K mg a):bL P w K mg base gF 1 a.tK a.tL ["thing"] (aHe K):=by
 refine tx.pA.ok aG6 (fun vs H Q E h=>?_) (fun cdv A outer s H vs Q E hr h=>?_)
 ·obtain⟨v,T,rfl,_⟩:=h
  rfl
 ·obtain⟨v,T,rfl ,ht,k⟩:=h
  have hu:=jI hr
  refine Z.root (Z.aG (Z.aY (Z.sZ (Z.aP (rc:=aCQ K) gS (by rfl) tx.bS cS (Z.aE (Z.pv 0) (Z.aE (Z.nB (v:=.ty "int") (by rfl) tx.aAS aFq rfl) Z.aC))) (Z.rJ (Z.aFg (Z.aP (rc:=aCQ K) gS (by rfl) tx.bS cS (Z.aE (Z.pv 0) (Z.aE (Z.nB (v:=.ty "bool") (by rfl) tx.zI aIH rfl) Z.aC)))))))) ?_
  refine aO (σ:=[some v]) rfl ?_
  walk_at "w"
  refine tG (aIZ ht) ?_
  walk_at "w"
  refine iR (fun h=>?_) (fun h=>?_)
  ·walk_at "w"
   refine tG (aHa ht) ?_
   walk_at "w"
   have e:(!(T == "bool"))=(T == "int"):=by cases ht <;> first|rfl|cases h
   rw[e]
   exact k
  ·have e:(T == "int")=false:=by cases ht <;> first|rfl|cases h
   rw[e] at k
   exact k
def aFS(K:W.Frag):Sp:=fun vs H Q _=>∃v T,vs=[v]/\Th H v T/\Q (.bl (amt v)) H
theorem oQ{P:Program}{w:World}{K:PySem.W.Frag}{mg:Str->Option Value}{base:Heap}{a:iT}(tx:Txt K mg a):bL P w K mg base gF 2 a.qE a.qF ["thing"] (aFS K):=by
 have pR:=xG (P:=P) (w:=w) (base:=base) tx
 refine tx.cX.ok aFK (fun vs H Q E h=>?_) (fun cdv A outer s H vs Q E hr h=>?_)
 ·obtain⟨v,T,rfl,_⟩:=h
  rfl
 ·obtain⟨v,T,rfl ,ht,k⟩:=h
  have hu:=jI hr
  refine Z.root (Z.aG (Z.aY (Z.sZ (Z.aF (pR) (hr.mono (by decide)) (by rfl) tx.tZ tx.pA.kp tx.tY .nil aQ (Z.aE (Z.pv 0) Z.aC)) (Z.rJ (Z.vQ aCK aCK Z.aA (Z.pv 0) (Z.aS aCJ Z.aA Z.aA)))))) ?_
  refine aO (σ:=[some v]) rfl ?_
  walk_at "w"
  refine⟨v,T,rfl,ht,?_⟩
  walk_at "w"
  refine iR (fun h=>?_) (fun h=>?_)
  ·cases ht with
   |int i=>
    walk_at "w"
    refine cA (fun h1=>?_) (fun h1=>?_)
    ·walk_at "w"
     have e:amt (.int i)=decide (i<=10 ^ (12:Int).toNat):=by simp[amt,h1]
     rw[<-e]
     exact k
    ·have e:amt (.int i)=false:=by simp[amt,h1]
     rw[e] at k
     exact k
   |_=>cases h
  ·have e:amt v=false:=by cases ht <;> first|rfl|cases h
   rw[e] at k
   exact k
def aIk(K:W.Frag):Sp:=fun vs H Q _=>∃(i:Int),vs=[.int i]/\1<=i/\i<=12/\Q (.bl true) H
theorem aIl{P:Program}{w:World}{K:PySem.W.Frag}{mg:Str->Option Value}{base:Heap}{a:iT}(tx:Txt K mg a):bL P w K mg base gF 2 a.xX a.xY ["thing"] (aIk K):=by
 have pR:=xG (P:=P) (w:=w) (base:=base) tx
 refine tx.xZ.ok aIi (fun vs H Q E h=>?_) (fun cdv A outer s H vs Q E hr h=>?_)
 ·obtain⟨i,rfl,_⟩:=h
  rfl
 ·obtain⟨i,rfl ,h1,h2,k⟩:=h
  have hu:=jI hr
  refine Z.root (Z.aG (Z.aY (Z.sZ (Z.aF (pR) (hr.mono (by decide)) (by rfl) tx.tZ tx.pA.kp tx.tY .nil aQ (Z.aE (Z.pv 0) Z.aC)) (Z.rJ (Z.vQ aCK aCK Z.aA (Z.pv 0) (Z.xS (n:=12) (by rfl) tx.d8)))))) ?_
  refine aO (σ:=[some (.int i)]) rfl ?_
  walk_at "w"
  refine⟨_,_,rfl,.int i,?_⟩
  walk_at "w"
  refine iR (fun _=>?_) (fun h=>by simp at h)
  walk_at "w"
  refine cA (fun _=>?_) (fun h=>absurd h1 h)
  walk_at "w"
  rw[decide_eq_true h2]
  exact k
def aHf(K:W.Frag):Sp:=fun vs H Q _=>∃(q:Addr) (x y:Int),vs=[.ref q]/\H q=some (.tup [.int x,.int y])/\1<=x/\Am x/\Am y/\Q (.bl true) H
theorem aHg{P:Program}{w:World}{K:PySem.W.Frag}{mg:Str->Option Value}{base:Heap}{a:iT}(tx:Txt K mg a):bL P w K mg base gF 3 a.tM a.tN ["thing"] (aHf K):=by
 have cL:=oQ (P:=P) (w:=w) (base:=base) tx
 refine tx.zD.ok aG7 (fun vs H Q E h=>?_) (fun cdv A outer s H vs Q E hr h=>?_)
 ·obtain⟨q,x,y,rfl,_⟩:=h
  rfl
 ·obtain⟨q,x,y,rfl ,hq,h1,h2,h3,k⟩:=h
  have hu:=jI hr
  refine Z.root (Z.aD (Z.cC (Z.vC (Z.aCF (Z.mO (Z.jT (Z.aP (rc:=aCQ K) gS (by rfl) tx.bS cS (Z.aE (Z.pv 0) (Z.aE (Z.nB (v:=.ty "tuple") (by rfl) tx.uT aGO rfl) Z.aC))))) (Z.y3 (Z.bE (r:=aFr K) (aBg hu) (Z.aP (rc:=vI K) cR (by rfl) tx.jQ iZ (Z.aE (Z.pv 0) Z.aC)) Z.aA (bI _))))) (Z.aG (Z.aY Z.zU)) Z.bH)
   (Z.aG (Z.aY (Z.sZ (Z.aF (cL) (hr.mono (by decide)) (by rfl) tx.dN tx.cX.kp tx.dM .nil aQ (Z.aE (Z.aJ (K':=K) (Z.pv 0) Z.aA (fun _ _=>rfl)) Z.aC)) (Z.sZ (Z.nE aM7 (Z.aJ (K':=K) (Z.pv 0) Z.aA (fun _ _=>rfl)) Z.aA (bI _)) (Z.rJ (Z.aF (cL) (hr.mono (by decide)) (by rfl) tx.dN tx.cX.kp tx.dM .nil aQ (Z.aE (Z.aJ (K':=K) (Z.pv 0) Z.aA (fun _ _=>rfl)) Z.aC)))))))) ?_
  refine aO (σ:=[some (.ref q)]) rfl ?_
  walk_at "w"
  refine tG (aJY (.tup hq)) ?_
  walk_at "w"
  refine iR (fun h=>by simp at h) (fun _=>?_)
  walk_at "w"
  refine aCx (fun h=>absurd rfl h) (fun _=>?_)
  walk_at "w"
  refine⟨_,_,rfl,.int x,?_⟩
  rw[uU h2]
  walk_at "w"
  refine cA (fun _=>?_) (fun h=>absurd h1 h)
  walk_at "w"
  refine⟨_,_,rfl,.int y,?_⟩
  rw[uU h3]
  exact k
def aEc(K:W.Frag):Sp:=fun vs H Q _=>∃(p:Addr) (ps:List (Int×Int)),vs=[.ref p]/\yD H p ps/\aLA ps/\∀H',aI H H'->Q (.bl true) H'
theorem aEd{P:Program}{w:World}{K:PySem.W.Frag}{mg:Str->Option Value}{base:Heap}{a:iT}(tx:Txt K mg a):bL P w K mg base gF 4 a.nJ a.nK ["thing"] (aEc K):=by
 have aIm:=aHg (P:=P) (w:=w) (base:=base) tx
 refine tx.uA.ok aD3 (fun vs H Q E h=>?_) (fun cdv A outer s H vs Q E hr h=>?_)
 ·obtain⟨p,ps,rfl,_⟩:=h
  rfl
 ·obtain⟨p,ps,rfl ,hp,hg,k⟩:=h
  have hu:=jI hr
  refine Z.root (Z.aD (Z.cC (Z.vC (Z.aCF (Z.mO (Z.jT (Z.aP (rc:=aCQ K) gS (by rfl) tx.bS cS (Z.aE (Z.pv 0) (Z.aE (Z.nB (v:=.ty "list") (by rfl) tx.jH lJ rfl) Z.aC))))) (Z.y3 (Z.bE aBH (Z.aP (rc:=vI K) cR (by rfl) tx.jQ iZ (Z.aE (Z.pv 0) Z.aC)) (Z.xS (n:=4) (by rfl) tx.gE) (bI _))))) (Z.aG (Z.aY Z.zU)) Z.bH)
   (Z.aD (Z.cC (Z.mO (Z.jT (Z.aP (rc:=aKZ K) (aBk rfl) (by rfl) tx.aB2 aHU (Z.aE (Z.fE (k:=1) (idx:=[]) (N:=["piece"]) (cQ (sc:=aB eC) (NX:=["thing"]) rfl rfl rfl (by decide +kernel)) rfl (Z.cV (K':=K) (Z.pv 0)) (fun _ _ _ _=>(Z.aT (i:=0) (show(["piece"]:List Str).Nodup by decide +kernel) rfl (Or.inl rfl))) (eB (by decide)) (fun _ _ _ _=>Z.dG) (fun _ _ _ _=>(Z.aF (aIm) (hr.mono (by decide)) (by rfl) tx.aDn tx.zD.kp tx.aDm .nil aQ (Z.aE (Z.pv 0) Z.aC)))) Z.aC)))) (Z.aG (Z.aY Z.zU)) Z.bH)
   (Z.aG (Z.aY (Z.aP (rc:=aKZ K) (aBk rfl) (by rfl) tx.aB2 aHU (Z.aE (Z.fE (k:=1) (idx:=[0]) (N:=["at","thing"]) (cQ (sc:=aB eC) (NX:=["thing"]) rfl rfl rfl (by decide +kernel)) rfl (Z.y8 (by rfl) tx.dI (Z.aE Z.aA (Z.aE (Z.aP (rc:=vI K) cR (by rfl) tx.jQ iZ (Z.aE (Z.pv 0) Z.aC)) Z.aC))) (fun _ _ _ _=>(Z.aT (i:=0) (show(["at","thing"]:List Str).Nodup by decide +kernel) rfl (Or.inl rfl))) (eB (by decide)) (fun _ _ _ _=>Z.dG) (fun _ _ _ _=>(Z.nE aCK (Z.aJ (K':=K) (Z.aJ (K':=K) (Z.pv 1) (Z.aS eQ (Z.pv 0) Z.aA) (fun _ _=>rfl)) Z.aA (fun _ _=>rfl)) (Z.aJ (K':=K) (Z.aJ (K':=K) (Z.pv 1) (Z.pv 0) (fun _ _=>rfl)) Z.aA (fun _ _=>rfl)) (bI _)))) Z.aC)))))) ?_
  obtain⟨qs,h1,h2⟩:=hp.ex
  have hl:=hg.len
  have hql:qs.length<=4:=by rw[h2.len];exact hl
  refine aO (σ:=[some (.ref p)]) rfl ?_
  walk_at "w"
  refine tG (aHb (.lst h1)) ?_
  walk_at "w"
  refine iR (fun h=>by simp at h) (fun _=>?_)
  walk_at "w"
  refine cA (fun h=>by rw[List.length_map] at h;omega) (fun _=>?_)
  walk_at "w"
  refine mL (bR.of h1) ?_
  refine aBi (fun _=>.bl true) (bR.of h1) (cD (by rw[List.length_map];omega)) (fun x N N' hxm hN=>?_) ?_
  ·obtain⟨q,hq,rfl⟩:=List.mem_map.mp hxm
   obtain⟨t,ht,e⟩:=h2.at2 hq
   obtain⟨g1,g2,g3⟩:=hg.pc t ht
   walk_at "w"
   exact⟨q,t.1,t.2,rfl,e,g1,g2,g3,hN⟩
  ·intro l1 n1
   walk_at "w"
   refine aFv (bR.of aH) (fun x hx=>by obtain⟨_,_,rfl⟩:=List.mem_map.mp hx;rfl) ?_
   walk_at "w"
   have h1':=aI.new (o:=.lst ((qs.map V.ref).map fun _=>V.bl true)) n1 _ _ h1
   have h2':=h2.same (aI.new (o:=.lst ((qs.map V.ref).map fun _=>V.bl true)) n1)
   walk_at "w"
   refine⟨⟨by omega,by omega,by omega,by rw[List.length_map];omega⟩,?_⟩
   rw[List.length_map]
   refine aHV (fun _=>.bl true) (cD (by omega)) (fun i N N' hi hN=>?_) ?_
   ·have i1:i < qs.length:=by omega
    have i2:i+1 < qs.length:=by omega
    have j1:i < ps.length:=by rw[<-h2.len];exact i1
    have j2:i+1 < ps.length:=by rw[<-h2.len];exact i2
    have e1:xP (qs.map V.ref) (1+(i:Int) - 1)=some (.ref qs[i]):=by
     rw[show 1+(i:Int) - 1=(i:Int) by omega]
     exact gQ (by rw[List.getElem?_map,List.getElem?_eq_getElem i1];rfl)
    have e2:xP (qs.map V.ref) (1+(i:Int))=some (.ref qs[i+1]):=by
     rw[show 1+(i:Int)=((i+1:Nat):Int) by omega]
     exact gQ (by rw[List.getElem?_map,List.getElem?_eq_getElem i2];rfl)
    have t1:=h2'.at_ i _ _ (List.getElem?_eq_getElem i1) (List.getElem?_eq_getElem j1)
    have t2:=h2'.at_ (i+1) _ _ (List.getElem?_eq_getElem i2) (List.getElem?_eq_getElem j2)
    have t3:=hg.up i _ _ (List.getElem?_eq_getElem j1) (List.getElem?_eq_getElem j2)
    walk_at "w"
    rw[decide_eq_true t3]
    exact hN
   ·intro l2 n2
    walk_at "w"
    refine aFv (bR.of aH) (fun x hx=>by obtain⟨_,_,rfl⟩:=List.mem_map.mp hx;rfl) ?_
    exact k _ ((aI.new n1).trans (aI.new n2))
def aCa(K:W.Frag)(C:Addr):Sp:=fun vs H Q _=>∃(x dx pl:Addr) (m:MS),vs=[.ref x,.int m.up,.int m.down,.int m.begin_,.int m.run,.int m.rest,.int m.least,.ref pl]/\H x=some (.ins C dx [])/\yD H pl m.pieces/\m.Good/\
 ∀H',cN C H' x m->bX x H H'->Q .non H'
theorem aCb{P:Program}{w:World}{K:PySem.W.Frag}{mg:Str->Option Value}{base:Heap}{a:iT}(tx:Txt K mg a):bL P w K mg base gF 5 a.j0 a.j7 ["self","up","down","begin","run","rest","least","pieces"] (aCa K a.aZ):=by
 have aFT:=aEd (P:=P) (w:=w) (base:=base) tx
 have cL:=oQ (P:=P) (w:=w) (base:=base) tx
 have aE8:=aIl (P:=P) (w:=w) (base:=base) tx
 refine tx.wD.ok fQ (fun vs H Q E h=>?_) (fun cdv A outer s H vs Q E hr h=>?_)
 ·obtain⟨x,dx,pl,m,rfl,_⟩:=h
  rfl
 ·obtain⟨x,dx,pl,m,rfl ,hx,hp,hg,k⟩:=h
  have hu:=jI hr
  refine Z.root (Z.aD (Z.aV (i:=8) fQ.nd rfl (Or.inl rfl) (Z.aCR (Z.aF (aE8) (hr.mono (by decide)) (by rfl) tx.aBt tx.xZ.kp tx.aBs .nil aQ (Z.aE (Z.pv 1) Z.aC)) (Z.aF (aE8) (hr.mono (by decide)) (by rfl) tx.aBt tx.xZ.kp tx.aBs .nil aQ (Z.aE (Z.pv 2) Z.aC))))
   (Z.aD (Z.aV (i:=9) fQ.nd rfl (Or.inl rfl) (Z.aOr (Z.aF (cL) (hr.mono (by decide)) (by rfl) tx.dN tx.cX.kp tx.dM .nil aQ (Z.aE (Z.pv 3) Z.aC)) (Z.aF (cL) (hr.mono (by decide)) (by rfl) tx.dN tx.cX.kp tx.dM .nil aQ (Z.aE (Z.pv 4) Z.aC)) (Z.aF (cL) (hr.mono (by decide)) (by rfl) tx.dN tx.cX.kp tx.dM .nil aQ (Z.aE (Z.pv 5) Z.aC)) (Z.aF (cL) (hr.mono (by decide)) (by rfl) tx.dN tx.cX.kp tx.dM .nil aQ (Z.aE (Z.pv 6) Z.aC))))
   (Z.aD (Z.cO PassesOwn.never rfl (Z.vZ (K':=K) (by rfl) tx.dO (Z.aE (Z.aS bJ (Z.aS bJ (Z.pv 8) (Z.pv 9)) (Z.aFu (Z.aF (aFT) (hr.mono (by decide)) (by rfl) tx.aAs tx.uA.kp tx.aAr .nil aQ (Z.aE (Z.pv 7) Z.aC)))) Z.aC)) (Z.eK (K':=K) (n:=2) rfl (Z.bD (Z.aT (i:=10) fQ.nd rfl (Or.inl rfl)) (Z.bD (Z.aT (i:=11) fQ.nd rfl (Or.inl rfl)) Z.dZ))) (Z.aG (Z.cC (Z.mO (Z.jT (Z.pv 11))) (Z.aG Z.oU) Z.bH)))
   (Z.aD (Z.fG (K':=K) (Z.pv 0) (Z.pv 1) rfl)
   (Z.aD (Z.fG (K':=K) (Z.pv 0) (Z.pv 2) rfl)
   (Z.aD (Z.fG (K':=K) (Z.pv 0) (Z.pv 3) rfl)
   (Z.aD (Z.fG (K':=K) (Z.pv 0) (Z.pv 4) rfl)
   (Z.aD (Z.fG (K':=K) (Z.pv 0) (Z.pv 5) rfl)
   (Z.aD (Z.fG (K':=K) (Z.pv 0) (Z.pv 6) rfl)
   (Z.aG (Z.fG (K':=K) (Z.pv 0) (Z.cE (rc:=tH K) o5 (by rfl) tx.jH lJ (Z.aE (Z.pv 7) Z.aC)) rfl))))))))))) ?_
  refine aO (σ:=[some (.ref x),some (.int m.up),some (.int m.down),some (.int m.begin_),some (.int m.run),some (.int m.rest),some (.int m.least),some (.ref pl),none,none,none,none]) rfl ?_
  walk_at "w"
  refine⟨_,rfl,hg.up.1,hg.up.2,?_⟩
  walk_at "w"
  refine⟨_,rfl,hg.down.1,hg.down.2,?_⟩
  walk_at "w"
  intro l1 n1
  walk_at "w"
  refine⟨_,_,rfl,.int _,?_⟩
  rw[uU hg.begin_]
  walk_at "w"
  refine⟨_,_,rfl,.int _,?_⟩
  rw[uU hg.run]
  walk_at "w"
  refine⟨_,_,rfl,.int _,?_⟩
  rw[uU hg.rest]
  walk_at "w"
  refine⟨_,_,rfl,.int _,?_⟩
  rw[uU hg.least]
  walk_at "w"
  intro l2 n2
  walk_at "w"
  refine xR (xs:=[.bl true,.bl true]) (zs:=[.bl true,.bl true,.bl true,.bl true]) (by walk_at "hp") aH (cD (by simp)) ?_
  intro l3 n3
  walk_at "w"
  have s3:aI H (upd (upd (upd H l1 (.lst [.bl true,.bl true])) l2 (.lst [.bl true,.bl true,.bl true,.bl true])) l3 (.lst ([.bl true,.bl true] ++ [.bl true,.bl true,.bl true,.bl true]))):=((aI.new n1).trans (aI.new n2)).trans (aI.new n3)
  refine⟨pl,m.pieces,rfl,hp.same s3,hg.pieces,fun H4 s4=>?_⟩
  walk_at "w"
  intro l5 n5
  walk_at "w"
  refine xR (xs:=[.bl true,.bl true] ++ [.bl true,.bl true,.bl true,.bl true]) (zs:=[.bl true]) (aI.new n5 _ _ (s4 _ _ aH)) aH (cD (by simp)) ?_
  intro l6 n6
  walk_at "w"
  have s6:aI H (upd (upd H4 l5 (.lst [.bl true])) l6 (.lst (([.bl true,.bl true] ++ [.bl true,.bl true,.bl true,.bl true]) ++ [.bl true]))):=(s3.trans s4).trans ((aI.new n5).trans (aI.new n6))
  generalize hH6:upd (upd H4 l5 (.lst [.bl true])) l6 (.lst (([.bl true,.bl true] ++ [.bl true,.bl true,.bl true,.bl true]) ++ [.bl true]))=H6 at s6 ⊢
  have e6:H6 l6=some (.lst [.bl true,.bl true,.bl true,.bl true,.bl true,.bl true,.bl true]):=by rw[<-hH6,aH];rfl
  refine aGS (bR.of e6) ?_
  refine aAe (xs:=[.bl true,.bl true,.bl true,.bl true,.bl true,.bl true,.bl true]) (fun i σ' H'=>∃y z,σ'=[some (.ref x),some (.int m.up),some (.int m.down),some (.int m.begin_),some (.int m.run),some (.int m.rest),some (.int m.least),some (.ref pl),some (.ref l1),some (.ref l2),y,z]/\aI H6 H')
   ⟨_,_,rfl,aI.refl _⟩ (fun i σ' H' hi ⟨y,z,e,s⟩=>bR.of (s _ _ e6)) (fun i v σ' H' T hv ⟨y,z,e,s⟩ nT=>?_) (fun σ' H' ⟨y,z,e,s⟩=>?_)
  ·subst e
   have ev:v=.bl true:=by
    have:=List.mem_of_getElem? hv
    simpa using this
   subst ev
   refine eJ (kR.of aH) rfl ?_
   walk_at "w"
   exact⟨_,_,rfl,s.trans (aI.new nT)⟩
  ·subst e
   have sH:aI H H':=s6.trans s
   have hx':=sH _ _ hx
   have hp':=hp.same sH
   obtain⟨qs,p1,p2⟩:=hp'.ex
   walk_at "w"
   refine jA (fs':=[("up",.int m.up)]) hx' tx.cB tx.uQ (by simp[mFs]) rfl ?_
   walk_at "w"
   refine jA (fs':=[("up",.int m.up),("down",.int m.down)]) aH tx.cB tx.pN (by simp[mFs]) rfl ?_
   rw[jR]
   walk_at "w"
   refine jA (fs':=[("up",.int m.up),("down",.int m.down),("begin",.int m.begin_)]) aH tx.cB tx.mV (by simp[mFs]) rfl ?_
   rw[jR]
   walk_at "w"
   refine jA (fs':=[("up",.int m.up),("down",.int m.down),("begin",.int m.begin_),("run",.int m.run)]) aH tx.cB tx.rW (by simp[mFs]) rfl ?_
   rw[jR]
   walk_at "w"
   refine jA (fs':=[("up",.int m.up),("down",.int m.down),("begin",.int m.begin_),("run",.int m.run),("rest",.int m.rest)]) aH tx.cB tx.pO (by simp[mFs]) rfl ?_
   rw[jR]
   walk_at "w"
   refine jA (fs':=[("up",.int m.up),("down",.int m.down),("begin",.int m.begin_),("run",.int m.run),("rest",.int m.rest),("least",.int m.least)]) aH tx.cB tx.mW (by simp[mFs]) rfl ?_
   rw[jR]
   walk_at "w"
   have px:pl≠x:=fun z=>by rw[z,hx'] at p1;cases p1
   refine vX (ys:=qs.map V.ref) (bR.of (by rw[aR px];exact p1)) ?_
   intro l9 n9
   walk_at "w"
   have x9:x≠l9:=bC n9 aH
   walk_at "w"
   refine jA (fs':=mFs m l9) (by rw[aR x9];exact aH) tx.cB tx.lG (by simp[mFs]) rfl ?_
   walk_at "w"
   refine k _ ⟨dx,l9,aH,qs,?_,p2.len,fun j q t h1 h2=>?_⟩ (fun b o e nb=>?_)
   ·rw[aR (Ne.symm x9),aH]
   ·have e:=p2.at_ j q t h1 h2
    have qx:q≠x:=fun z=>by rw[z,hx'] at e;cases e
    have q9:q≠l9:=bC n9 (by rw[aR qx];exact e)
    rw[aR qx,aR q9,aR qx]
    exact e
   ·have e1:=sH _ _ e
    have b9:b≠l9:=bC n9 (by rw[aR nb];exact e1)
    rw[aR nb,aR b9,aR nb]
    exact e1
structure PcW(ps:List (Int×Int))(r:Int):Prop where
 pc:∀t∈ps,1<=t.1/\Am t.1/\Am t.2
 up:∀(j:Nat) t u,ps[j]?=some t->ps[j+1]?=some u->t.2<=u.2
 top:∀t∈ps,t.2<=r
theorem PcW.nil{r:Int}:PcW [] r:=⟨fun _ h=>by simp at h,fun j t u h=>by simp at h,fun _ h=>by simp at h⟩
theorem PcW.snoc{ps:List (Int×Int)}{r r' a:Int}(w:PcW ps r)(hr:r<=r')(h1:1<=a)(h2:Am a)(h3:Am r'):PcW (ps ++ [(a,r')]) r':=by
 refine⟨fun t h=>?_,fun j t u ht hu=>?_,fun t h=>?_⟩
 ·rcases List.mem_append.mp h with h|h
  ·exact w.pc t h
  ·rw[List.mem_singleton.mp h];exact⟨h1,h2,h3⟩
 ·have hj2:j+1 < (ps ++ [(a,r')]).length:=(List.getElem?_eq_some_iff.mp hu).1
  rw[List.length_append,List.length_singleton] at hj2
  have hj:j < ps.length:=by omega
  rw[List.getElem?_append_left hj] at ht
  by_cases hj3:j+1 < ps.length
  ·rw[List.getElem?_append_left hj3] at hu
   exact w.up j t u ht hu
  ·rw[List.getElem?_append_right (by omega),show j+1 - ps.length=0 by omega] at hu
   cases hu
   exact Int.le_trans (w.top t (List.mem_of_getElem? ht)) hr
 ·rcases List.mem_append.mp h with h|h
  ·exact Int.le_trans (w.top t h) hr
  ·rw[List.mem_singleton.mp h];exact Int.le_refl _
theorem xF.snoc{H H3:Hp}{qs:List Addr}{ss:List (Int×Int)}{l T:Addr}{xs:List V}{t:Int×Int}(h:xF H qs ss)(hl:H l=some (.lst xs))(k:bX l H H3)(hT:H3 T=some (.tup [.int t.1,.int t.2])):xF H3 (qs ++ [T]) (ss ++ [t]):=by
 refine⟨by rw[List.length_append,List.length_append,h.len];rfl,fun j q u hq hu=>?_⟩
 by_cases hj:j < qs.length
 ·rw[List.getElem?_append_left hj] at hq
  rw[List.getElem?_append_left (by rw[<-h.len];exact hj)] at hu
  have e:=h.at_ j q u hq hu
  refine k q _ e fun z=>?_
  rw[z,hl] at e
  cases e
 ·have hj2:j < (qs ++ [T]).length:=(List.getElem?_eq_some_iff.mp hq).1
  rw[List.length_append,List.length_singleton] at hj2
  have e:j=qs.length:=by omega
  subst e
  rw[List.getElem?_append_right (Nat.le_refl _),Nat.sub_self] at hq
  rw[h.len,List.getElem?_append_right (Nat.le_refl _),Nat.sub_self] at hu
  cases hq
  cases hu
  exact hT
theorem bB.aLB{H:Hp}{p c:Addr}{qs:List Addr}(h:bB H p)(e:H c=some (.lst (qs.map V.ref))):c≠p:=fun z=>by
 obtain⟨d,cc,q,ms,hp,_⟩:=h.ex
 rw[z,hp] at e
 cases qs with
 |nil=>cases e
 |cons x xs=>cases e
theorem bB.aHh{H:Hp}{p c:Addr}{xs:List V}(h:bB H p)(e:H c=some (.lst xs))(hl:xs.length≠3):c≠p:=fun z=>by
 obtain⟨d,cc,q,ms,hp,_⟩:=h.ex
 rw[z,hp] at e
 cases e
 exact hl rfl
theorem bB.isL{H:Hp}{p:Addr}(h:bB H p):∃xs,H p=some (.lst xs):=by
 obtain⟨d,cc,q,ms,hp,_⟩:=h.ex
 exact⟨_,hp⟩
theorem mM{H H':Hp}{p c:Addr}(k:bX p H H')(hh:bB H' p)(n:H' c=none):H c=none:=by
 cases hc:H c with
 |none=>rfl
 |some v=>
  obtain⟨xs,e⟩:=hh.isL
  exact absurd rfl (bC n (k c v hc (fun z=>bC n e z.symm)))
def aFU(K:W.Frag):Sp:=fun vs H Q _=>∃(p b:Addr) (x y n:Int),vs=[.ref p,.ref b,.int n]/\bB H p/\H b=some (.lst [.int x,.int y])/\1<=x/\x<=50000000000/\1<=y/\y<=50000000000/\1<=n/\n<=12/\
 ∀(s:Addr) (m:MS) H',cM H' s m->m.Good->m.up<=n->m.down<=n->bB H' p->bX p H H'->H s=none->Q (.ref s) H'
theorem aFV{P:Program}{w:World}{K:PySem.W.Frag}{mg:Str->Option Value}{base:Heap}{a:iT}(tx:Txt K mg a):bL P w K mg base gF 2 a.qG a.qH ["_law_hand","_law_by","_law_longest"] (aFU K):=by
 have aK:=cT (P:=P) (w:=w) (base:=base) tx
 refine tx.wH.ok dH (fun vs H Q E h=>?_) (fun cdv A outer s H vs Q E hr h=>?_)
 ·obtain⟨p,b,x,y,n,rfl,_⟩:=h
  rfl
 ·obtain⟨p,b,x,y,n,rfl ,hh,hb,x0,x1,y0,y1,n0,n1,k⟩:=h
  have hu:=jI hr
  refine Z.root (Z.aD (Z.aV (i:=3) dH.nd rfl (Or.inl rfl) (Z.aS bJ Z.aA (Z.aF (aK) (hr.mono (by decide)) (by rfl) tx.aN tx.aL.kp tx.aM .nil aQ (Z.aE (Z.pv 0) (Z.aE (Z.pv 2) Z.aC)))))
   (Z.aD (Z.aV (i:=4) dH.nd rfl (Or.inl rfl) (Z.aS bJ Z.aA (Z.aF (aK) (hr.mono (by decide)) (by rfl) tx.aN tx.aL.kp tx.aM .nil aQ (Z.aE (Z.pv 0) (Z.aE (Z.pv 2) Z.aC)))))
   (Z.aD (Z.aV (i:=5) dH.nd rfl (Or.inl rfl) (Z.aHW (Z.aS bK (Z.aJ (K':=K) (Z.pv 1) Z.aA (fun _ _=>rfl)) (Z.aF (aK) (hr.mono (by decide)) (by rfl) tx.aN tx.aL.kp tx.aM .nil aQ (Z.aE (Z.pv 0) (Z.aE Z.aA Z.aC)))) (Z.aS bK (Z.aJ (K':=K) (Z.pv 1) Z.aA (fun _ _=>rfl)) (Z.aF (aK) (hr.mono (by decide)) (by rfl) tx.aN tx.aL.kp tx.aM .nil aQ (Z.aE (Z.pv 0) (Z.aE Z.aA Z.aC)))) (Z.aS bK (Z.aJ (K':=K) (Z.pv 1) Z.aA (fun _ _=>rfl)) (Z.aF (aK) (hr.mono (by decide)) (by rfl) tx.aN tx.aL.kp tx.aM .nil aQ (Z.aE (Z.pv 0) (Z.aE Z.aA Z.aC))))))
   (Z.aD (Z.aV (i:=6) dH.nd rfl (Or.inl rfl) (Z.aS bK (Z.aJ (K':=K) (Z.pv 1) Z.aA (fun _ _=>rfl)) (Z.aF (aK) (hr.mono (by decide)) (by rfl) tx.aN tx.aL.kp tx.aM .nil aQ (Z.aE (Z.pv 0) (Z.aE Z.aA Z.aC)))))
   (Z.aD (Z.aV (i:=7) dH.nd rfl (Or.inl rfl) Z.aA)
   (Z.aD (Z.aV (i:=8) dH.nd rfl (Or.inl rfl) (Z.jU Z.aC))
   (Z.aD (Z.cO PassesOwn.never rfl (Z.dC (by rfl) tx.dI (Z.aE (Z.aF (aK) (hr.mono (by decide)) (by rfl) tx.aN tx.aL.kp tx.aM .nil aQ (Z.aE (Z.pv 0) (Z.aE Z.aA Z.aC))) Z.aC)) (Z.aT (i:=9) dH.nd rfl (Or.inl rfl)) (Z.aD (Z.aA9 (i:=7) dH.nd rfl (Or.inl rfl) (Z.aS bK (Z.aJ (K':=K) (Z.pv 1) Z.aA (fun _ _=>rfl)) (Z.aF (aK) (hr.mono (by decide)) (by rfl) tx.aN tx.aL.kp tx.aM .nil aQ (Z.aE (Z.pv 0) (Z.aE Z.aA Z.aC)))) aCH)
   (Z.aG (Z.pW (Z.aAf (K':=K) (Z.pv 8) (Z.aE (Z.rN (Z.aS bK (Z.aJ (K':=K) (Z.pv 1) Z.aA (fun _ _=>rfl)) (Z.aS bJ Z.aA (Z.aF (aK) (hr.mono (by decide)) (by rfl) tx.aN tx.aL.kp tx.aM .nil aQ (Z.aE (Z.pv 0) (Z.aE Z.aA Z.aC))))) (Z.pv 7)) Z.aC))))))
   (Z.aG (Z.aY (Z.aOs (Z.pv 3) (Z.pv 4) (Z.aJ (K':=K) (Z.pv 5) Z.aA (fun _ _=>rfl)) (Z.aJ (K':=K) (Z.pv 5) Z.aA (fun _ _=>rfl)) (Z.aJ (K':=K) (Z.pv 5) Z.aA (fun _ _=>rfl)) (Z.pv 6) (Z.pv 8))))))))))) ?_
  have bp:b≠p:=hh.aHh hb (by simp)
  refine aO (σ:=[some (.ref p),some (.ref b),some (.int n),none,none,none,none,none,none,none]) rfl ?_
  walk_at "w"
  refine⟨p,_,rfl,hh,by omega,by omega,fun r1 H1 a1 c1 h1 k1 _=>?_⟩
  have hb1:=k1 _ _ hb bp
  walk_at "w"
  refine⟨p,_,rfl,h1,by omega,by omega,fun r2 H2 a2 c2 h2 k2 _=>?_⟩
  have hb2:=k2 _ _ hb1 bp
  walk_at "w"
  refine⟨p,_,rfl,h2,by omega,by omega,fun r3 H3 a3 c3 h3 k3 _=>?_⟩
  have hb3:=k3 _ _ hb2 bp
  walk_at "w"
  refine⟨p,_,rfl,h3,by omega,by omega,fun r4 H4 a4 c4 h4 k4 _=>?_⟩
  have hb4:=k4 _ _ hb3 bp
  walk_at "w"
  refine⟨p,_,rfl,h4,by omega,by omega,fun r5 H5 a5 c5 h5 k5 _=>?_⟩
  have hb5:=k5 _ _ hb4 bp
  walk_at "w"
  intro l6 n6
  walk_at "w"
  have hb6:=aI.new (o:=.lst [.int (y*r3),.int (y*r4),.int (y*r5)]) n6 _ _ hb5
  have h6:=h5.same (aI.new (o:=.lst [.int (y*r3),.int (y*r4),.int (y*r5)]) n6)
  walk_at "w"
  refine⟨p,_,rfl,h6,by omega,by omega,fun r7 H7 a7 c7 h7 k7 _=>?_⟩
  have hb7:=k7 _ _ hb6 bp
  have l6p:l6≠p:=fun z=>by obtain⟨_,e⟩:=h5.isL;exact bC n6 e z.symm
  have e7:H7 l6=some (.lst [.int (y*r3),.int (y*r4),.int (y*r5)]):=k7 _ _ aH l6p
  have kk7:bX p H H7:=k1.trans (k2.trans (k3.trans (k4.trans (k5.trans ((aI.new n6).keep.trans k7)))))
  have g3:0<=y*r3/\y*r3<=250000000000:=⟨Int.mul_nonneg (by omega) (by omega),Int.le_trans (Int.mul_le_mul_of_nonneg_left (show r3<=5 by omega) (by omega)) (by omega)⟩
  have g4:0<=y*r4/\y*r4<=250000000000:=⟨Int.mul_nonneg (by omega) (by omega),Int.le_trans (Int.mul_le_mul_of_nonneg_left (show r4<=5 by omega) (by omega)) (by omega)⟩
  have g5:0<=y*r5/\y*r5<=250000000000:=⟨Int.mul_nonneg (by omega) (by omega),Int.le_trans (Int.mul_le_mul_of_nonneg_left (show r5<=5 by omega) (by omega)) (by omega)⟩
  have g7:0<=x*r7/\x*r7<=250000000000:=⟨Int.mul_nonneg (by omega) (by omega),Int.le_trans (Int.mul_le_mul_of_nonneg_left (show r7<=5 by omega) (by omega)) (by omega)⟩
  walk_at "w"
  intro l8 n8
  walk_at "w"
  have h8:=h7.same (aI.new (o:=.lst []) n8)
  walk_at "w"
  refine⟨p,_,rfl,h8,by omega,by omega,fun r9 H9 a9 c9 h9 k9 _=>?_⟩
  have l8p:l8≠p:=fun z=>by obtain⟨_,e⟩:=h7.isL;exact bC n8 e z.symm
  have e9:H9 l8=some (.lst []):=k9 _ _ aH l8p
  have hb9:=k9 _ _ (aI.new n8 _ _ hb7) bp
  have e69:H9 l6=some (.lst [.int (y*r3),.int (y*r4),.int (y*r5)]):=k9 _ _ (aI.new n8 _ _ e7) l6p
  have kk9:bX p H H9:=kk7.trans ((aI.new n8).keep.trans k9)
  have n8H:H l8=none:=mM kk7 h7 n8
  have n6H:H l6=none:=mM (k1.trans (k2.trans (k3.trans (k4.trans k5)))) h5 n6
  walk_at "w"
  refine⟨by omega,by omega,?_⟩
  refine sC (fun i σ' H'=>∃qs ps rate x9,σ'=[some (.ref p),some (.ref b),some (.int n),some (.int (1+r1)),some (.int (1+r2)),some (.ref l6),some (.int (x*r7)),some (.int rate),some (.ref l8),x9]/\H' l8=some (.lst (qs.map V.ref))/\xF H' qs ps/\ps.length=i/\PcW ps rate/\
    0<=rate/\rate<=(i:Int)*100000000000/\bB H' p/\bX p H H'/\H' b=some (.lst [.int x,.int y])/\H' l6=some (.lst [.int (y*r3),.int (y*r4),.int (y*r5)]))
   ⟨[],[],0,_,rfl,e9,⟨rfl,fun j q t h=>by simp at h⟩,rfl,PcW.nil,by omega,by omega,h9,kk9,hb9,e69⟩
   (fun i σ' H' hi ⟨qs,ps,rate,x9,e,f1,f2,f3,f4,f5,f6,f7,f8,f9,f0⟩=>?_) (fun σ' H' ⟨qs,ps,rate,x9,e,f1,f2,f3,f4,f5,f6,f7,f8,f9,f0⟩=>?_)
  ·subst e
   have i4:i<=3:=by omega
   walk_at "w"
   refine aFs rfl ?_
   walk_at "w"
   refine⟨p,_,rfl,f7,by omega,by omega,fun u1 J1 v1 w1 q1 t1 _=>?_⟩
   have g1:0<=y*u1/\y*u1<=100000000000:=⟨Int.mul_nonneg (by omega) (by omega),Int.le_trans (Int.mul_le_mul_of_nonneg_left (show u1<=2 by omega) (by omega)) (by omega)⟩
   have l8q:l8≠p:=f7.aLB f1
   have d1:=t1 _ _ f1 l8q
   have d2:=f2.keep f7.aJ9 t1
   have d3:=t1 _ _ f9 bp
   have d4:=t1 _ _ f0 l6p
   walk_at "w"
   refine y9 (bR.of d1) ?_
   walk_at "w"
   refine⟨p,_,rfl,q1,by omega,by omega,fun u2 J2 v2 w2 q2 t2 _=>?_⟩
   have g2:x*1<=x*(1+u2)/\x*(1+u2)<=150000000000:=⟨Int.mul_le_mul_of_nonneg_left (show 1<=1+u2 by omega) (by omega),Int.le_trans (Int.mul_le_mul_of_nonneg_left (show 1+u2<=3 by omega) (by omega)) (by omega)⟩
   rw[Int.mul_one] at g2
   have dd1:=t2 _ _ d1 l8q
   have dd2:=d2.keep q1.aJ9 t2
   have dd3:=t2 _ _ d3 bp
   have dd4:=t2 _ _ d4 l6p
   walk_at "w"
   intro T nT
   walk_at "w"
   refine aCT (xs:=qs.map V.ref) (aI.new nT _ _ dd1) (Nat.lt_of_lt_of_le (by rw[List.length_map,f2.len];omega:(qs.map V.ref).length < 1000) (cD (by simp))) ?_
   walk_at "w"
   have hT8:T≠l8:=Ne.symm (bC nT dd1)
   have kz:bX l8 J2 (upd (upd J2 T (.tup [.int (x*(1+u2)),.int (rate+y*u1)])) l8 (.lst (qs.map V.ref ++ [.ref T]))):=(aI.new nT).keep.trans bX.upd
   refine⟨qs ++ [T],ps ++ [(x*(1+u2),rate+y*u1)],_,_,rfl,?_,dd2.snoc dd1 kz (by rw[aR hT8,aH]),by rw[List.length_append,f3];rfl,f4.snoc (by omega) (by omega) ⟨by omega,by omega⟩ ⟨by omega,by omega⟩,by omega,by omega,?_,fun c o hc hcp=>?_,?_,?_⟩
   ·rw[aH,List.map_append];rfl
   ·obtain⟨dd,cc,q,ms,hp,hq,hne,hqp⟩:=q2.ex
    refine⟨⟨dd,cc,q,ms,kz _ _ hp (Ne.symm l8q),kz _ _ hq (fun z=>?_),hne,hqp⟩⟩
    rw[z,dd1] at hq
    cases qs with
    |nil=>cases ms with
     |nil=>exact hne rfl
     |cons _ _=>cases hq
    |cons _ _=>cases ms with
     |nil=>exact hne rfl
     |cons _ _=>cases hq
   ·exact kz _ _ (t2 _ _ (t1 _ _ (f8 _ _ hc hcp) hcp) hcp) (bC n8H hc)
   ·exact kz _ _ dd3 (fun z=>by rw[z,dd1] at dd3;cases qs with
     |nil=>cases dd3
     |cons _ _=>cases dd3)
   ·exact kz _ _ dd4 (fun z=>by rw[z,dd1] at dd4;cases qs with
     |nil=>cases dd4
     |cons _ _=>cases dd4)
  ·subst e
   walk_at "w"
   intro s ns
   walk_at "w"
   have hr9:r9.toNat<=4:=by omega
   refine k s ⟨1+r1,1+r2,y*r3,y*r4,y*r5,x*r7,ps⟩ _ ⟨l8,aH,qs,aI.new ns _ _ f1,f2.same (aI.new ns)⟩ ⟨⟨by show 1<=1+r1;omega,by show 1+r1<=12;omega⟩,⟨by show 1<=1+r2;omega,by show 1+r2<=12;omega⟩,⟨g3.1,by show y*r3<=_;omega⟩,⟨g4.1,by show y*r4<=_;omega⟩,⟨g5.1,by show y*r5<=_;omega⟩,⟨g7.1,by show x*r7<=_;omega⟩,⟨by show ps.length<=4;omega,f4.pc,f4.up⟩⟩ (by show 1+r1<=n;omega) (by show 1+r2<=n;omega) (f7.same (aI.new ns)) (f8.trans (aI.new ns).keep) (mM f8 f7 ns)
def aCc(K:W.Frag)(C:Addr):Sp:=fun vs H Q _=>∃(s:Addr) (m:MS),vs=[.ref s]/\cM H s m/\m.Good/\∀x H',cN C H' x m->aI H H'->H x=none->Q (.ref x) H'
theorem aCd{P:Program}{w:World}{K:PySem.W.Frag}{mg:Str->Option Value}{base:Heap}{a:iT}(tx:Txt K mg a):bL P w K mg base gF 7 a.j8 a.j9 ["_law_spec_here"] (aCc K a.aZ):=by
 have aDu:=aCb (P:=P) (w:=w) (base:=base) tx
 refine tx.pB.ok aB8 (fun vs H Q E h=>?_) (fun cdv A outer s H vs Q E hr h=>?_)
 ·obtain⟨s,m,rfl,_⟩:=h
  rfl
 ·obtain⟨s,m,rfl ,hs,hg,k⟩:=h
  have hu:=jI hr
  refine Z.root (Z.aG (Z.aY (Z.vY tx.aE6 (aDu) (hr.mono (by decide)) (by rfl) tx.aBu tx.wG .nil aQ (Z.aE (Z.aJ (K':=K) (Z.pv 0) Z.aA (fun _ _=>rfl)) (Z.aE (Z.aJ (K':=K) (Z.pv 0) Z.aA (fun _ _=>rfl)) (Z.aE (Z.aJ (K':=K) (Z.pv 0) Z.aA (fun _ _=>rfl)) (Z.aE (Z.aJ (K':=K) (Z.pv 0) Z.aA (fun _ _=>rfl)) (Z.aE (Z.aJ (K':=K) (Z.pv 0) Z.aA (fun _ _=>rfl)) (Z.aE (Z.aJ (K':=K) (Z.pv 0) Z.aA (fun _ _=>rfl)) (Z.aE (Z.cE (rc:=tH K) o5 (by rfl) tx.jH lJ (Z.aE (Z.aJ (K':=K) (Z.pv 0) Z.aA (fun _ _=>rfl)) Z.aC)) Z.aC)))))))))) ?_
  obtain⟨pl,h1,h2⟩:=hs.ex
  obtain⟨qs,h3,h4⟩:=h2.ex
  refine aO (σ:=[some (.ref s)]) rfl ?_
  walk_at "w"
  refine vX (bR.of h3) ?_
  intro l n
  walk_at "w"
  intro x dx nx nd hd
  have sx:aI H (upd (upd (upd H l (.lst (qs.map V.ref))) dx (.own x)) x (.ins a.aZ dx [])):=fun b o e=>by
   have e1:=aI.new (o:=.lst (qs.map V.ref)) n _ _ e
   rw[aR (bC nx e1),aR (bC nd e1)]
   exact e1
  have lx:l≠x:=bC nx aH
  have ld:l≠dx:=bC nd aH
  refine⟨x,dx,l,m,rfl,aH,⟨qs,by rw[aR lx,aR ld,aH],h4.same sx⟩,hg,fun H' hM kx=>⟨rfl,?_⟩⟩
  have nxH:H x=none:=(aI.new n).free nx
  exact k x H' hM (fun b o e=>kx _ _ (sx _ _ e) (bC nxH e)) nxH
theorem bB.aOH{H:Hp}{p c:Addr}(hh:bB H p)(n:H c=none):c≠p:=fun z=>by
 obtain⟨xs,e⟩:=hh.isL
 exact bC n e z.symm
def aPx:List (Int×Int)->Int
 |[]=>0
 |t::ps=>t.1+aPx ps
def gn(p:Int):List (Int×Int)->Int
 |[]=>0
 |t::ps=>t.1*max (p - t.2) 0+gn p ps
def Up:List (Int×Int)->Prop
 |[]=>True
 |t::ps=>1<=t.1/\(∀u∈ps,t.2<=u.2)/\Up ps
theorem aLC{p:Int}:∀(a:List (Int×Int)) (t:Int×Int),gn p (a ++ [t])=gn p a+t.1*max (p - t.2) 0
 |[],t=>by show t.1*max (p - t.2) 0+0=0+t.1*max (p - t.2) 0;omega
 |u::a,t=>by
  show u.1*max (p - u.2) 0+gn p (a ++ [t])=u.1*max (p - u.2) 0+gn p a+t.1*max (p - t.2) 0
  rw[aLC a t];omega
theorem aLD{p:Int}:∀(ps:List (Int×Int)),List.sum (ps.filterMap fun t=>some (max 0 (p - t.2)*t.1))=gn p ps
 |[]=>rfl
 |t::ps=>by
  rw[List.filterMap_cons]
  show List.sum (max 0 (p - t.2)*t.1::_)=t.1*max (p - t.2) 0+gn p ps
  rw[List.sum_cons,aLD ps,Int.mul_comm,show max 0 (p - t.2)=max (p - t.2) 0 by omega]
theorem aLE{K:W.Frag}{H:Hp}{pl:Addr}{qs:List Addr}{ps:List (Int×Int)}{σ₀:St}{g:TG}{tt:TT}{te:TE}{R:List V->Hp->Prop}(f:Int×Int->Option Int)(h1:H pl=some (.lst (qs.map V.ref)))(h2:xF H qs ps)(hz:ps.length<=4)
  (hs:∀q t (N:V->Hp->Prop) (N':Hp->Prop),t∈ps->H q=some (.tup [.int t.1,.int t.2])->(∀y,f t=some y->N (.int y) H)->(f t=none->N' H)->g (.ref q) σ₀ H fun σ2 H2=>tt σ2 H2 fun b H3=>if b=true then te σ2 H3 fun y H4=>N y H4 else N' H3)
  (hd:R ((ps.filterMap f).map V.int) H):rL (Itl K pl) σ₀ g tt te R H:=by
 have hql:qs.length<=4:=by rw[h2.len];exact hz
 refine gR (xs:=qs.map V.ref) (fun i ys H'=>H'=H/\ys=((ps.take i).filterMap f).map V.int) ⟨rfl,by simp⟩ (cD (by rw[List.length_map];omega)) (fun i ys H' hi ⟨e1,e2⟩=>?_) (fun i x ys H' hx ⟨e1,e2⟩=>?_) (fun ys H' ⟨e1,e2⟩=>?_)
 ·subst e1 e2
  refine⟨bR.of h1,?_⟩
  rw[List.length_map]
  exact Nat.le_trans (List.length_filterMap_le ..) (by rw[List.length_take];omega)
 ·subst e1 e2
  rw[List.getElem?_map] at hx
  cases hq:qs[i]? with
  |none=>rw[hq] at hx;cases hx
  |some q=>
   rw[hq] at hx
   cases hx
   have li:i < ps.length:=by rw[<-h2.len];exact(List.getElem?_eq_some_iff.mp hq).1
   have ht:ps[i]?=some ps[i]:=List.getElem?_eq_getElem li
   have e:=h2.at_ i q _ hq ht
   have hm:=List.getElem_mem li
   generalize ps[i]=t at ht e hm
   refine hs q t (fun y H4=>H4=H'/\((ps.take i).filterMap f).map V.int ++ [y]=((ps.take (i+1)).filterMap f).map V.int) (fun H3=>H3=H'/\((ps.take i).filterMap f).map V.int=((ps.take (i+1)).filterMap f).map V.int) hm e (fun y hy=>⟨rfl,?_⟩) (fun hy=>⟨rfl,?_⟩)
   ·rw[List.take_add_one,ht,List.filterMap_append,List.map_append]
    simp[hy]
   ·rw[List.take_add_one,ht,List.filterMap_append,List.map_append]
    simp[hy]
 ·subst e1 e2
  rw[List.length_map,h2.len,List.take_length]
  exact hd
def aCe(K:W.Frag)(C:Addr):Sp:=fun vs H Q _=>∃(x:Addr) (m:MS) (pr:Int),vs=[.ref x,.int pr]/\cN C H x m/\m.Good/\0<=pr/\pr<=1000000000001/\Q (.int (pr*m.least+gn pr m.pieces)) H
theorem aCf{P:Program}{w:World}{K:PySem.W.Frag}{mg:Str->Option Value}{base:Heap}{a:iT}(tx:Txt K mg a):bL P w K mg base gF 1 a.kA a.kB ["self","price"] (aCe K a.aZ):=by
 refine tx.wK.ok fR (fun vs H Q E h=>?_) (fun cdv A outer s H vs Q E hr h=>?_)
 ·obtain⟨x,m,pr,rfl,_⟩:=h
  rfl
 ·obtain⟨x,m,pr,rfl ,hm,hg,p0,p1,k⟩:=h
  have hu:=jI hr
  refine Z.root (Z.aD (Z.aV (i:=2) fR.nd rfl (Or.inl rfl) (Z.aS bK (Z.pv 1) (Z.fF (K':=K) (Z.pv 0) rfl)))
   (Z.aD (Z.cO PassesOwn.never rfl (Z.cV (K':=K) (Z.fF (K':=K) (Z.pv 0) rfl)) (Z.eK (K':=K) (n:=2) rfl (Z.bD (Z.aT (i:=3) fR.nd rfl (Or.inl rfl)) (Z.bD (Z.aT (i:=4) fR.nd rfl (Or.inl rfl)) Z.dZ))) (Z.aG (Z.aA9 (i:=2) fR.nd rfl (Or.inl rfl) (Z.aS bK (Z.pv 3) (Z.aP (jJ rfl) (by rfl) tx.sQ vW (Z.aE (Z.aS eQ (Z.pv 1) (Z.pv 4)) (Z.aE Z.aA Z.aC)))) aCH)))
   (Z.aG (Z.aY (Z.pv 2))))) ?_
  obtain⟨dx,pl,hx,hp⟩:=hm.ex
  obtain⟨qs,h1,h2⟩:=hp.ex
  refine aO (σ:=[some (.ref x),some (.int pr),none,none,none]) rfl ?_
  walk_at "w"
  refine jB hx tx.cB tx.mW rfl ?_
  walk_at "w"
  refine jB hx tx.cB tx.lG rfl ?_
  refine mL (bR.of h1) ?_
  refine xT (xs:=qs.map V.ref) (fun i σ' H'=>H'=H/\∃y z,σ'=[some (.ref x),some (.int pr),some (.int (pr*m.least+gn pr (m.pieces.take i))),y,z]) ⟨rfl,_,_,by rw[show gn pr (m.pieces.take 0)=0 by simp[gn],Int.add_zero]⟩ (fun i σ' H' hi ⟨e1,y,z,e⟩=>by subst e1;exact bR.of h1) (fun i v σ' H' hv ⟨e1,y,z,e⟩=>?_) (fun σ' H' ⟨e1,y,z,e⟩=>?_)
  ·subst e1 e
   rw[List.getElem?_map] at hv
   cases hq:qs[i]? with
   |none=>rw[hq] at hv;cases hv
   |some q=>
    rw[hq] at hv
    cases hv
    have li:i < m.pieces.length:=by rw[<-h2.len];exact(List.getElem?_eq_some_iff.mp hq).1
    have ht:m.pieces[i]?=some m.pieces[i]:=List.getElem?_eq_getElem li
    have e:=h2.at_ i q _ hq ht
    obtain⟨z1,⟨z2,z3⟩,z4,z5⟩:=hg.pieces.pc _ (List.getElem_mem li)
    generalize m.pieces[i]=t at ht e z1 z2 z3 z4 z5
    refine eJ (kR.of e) rfl ?_
    walk_at "w"
    refine aFs rfl ?_
    walk_at "w"
    refine⟨rfl,some (.int t.1),some (.int t.2),?_⟩
    rw[List.take_add_one,ht]
    show _=[some (V.ref x),some (V.int pr),some (V.int (pr*m.least+gn pr (m.pieces.take i ++ [t]))),_,_]
    rw[aLC,Int.add_assoc]
    rfl
  ·subst e1 e
   walk_at "w"
   rw[List.length_map,h2.len,List.take_length]
   exact k
def aFW(K:W.Frag):Sp:=fun vs H Q _=>∃(s:Addr) (m:MS) (pr:Int),vs=[.ref s,.int pr]/\cM H s m/\m.Good/\0<=pr/\pr<=1000000000001/\∀H',aI H H'->Q (.int (pr*m.least+gn pr m.pieces)) H'
theorem aFX{P:Program}{w:World}{K:PySem.W.Frag}{mg:Str->Option Value}{base:Heap}{a:iT}(tx:Txt K mg a):bL P w K mg base gF 1 a.qI a.qJ ["_law_spec_here","_law_price_here"] (aFW K):=by
 refine tx.wM.ok aFL (fun vs H Q E h=>?_) (fun cdv A outer s H vs Q E hr h=>?_)
 ·obtain⟨s,m,pr,rfl,_⟩:=h
  rfl
 ·obtain⟨s,m,pr,rfl ,hs,hg,p0,p1,k⟩:=h
  have hu:=jI hr
  refine Z.root (Z.aG (Z.aY (Z.aS bJ (Z.aS bK (Z.pv 1) (Z.aJ (K':=K) (Z.pv 0) Z.aA (fun _ _=>rfl))) (Z.aP (rc:=aK3 K) (aBl rfl) (by rfl) tx.aB3 aHT (Z.aE (Z.fE (k:=2) (idx:=[1]) (N:=["_law_amount","_law_rate","_law_price_here"]) (cQ (sc:=aB gL) (NX:=["_law_spec_here","_law_price_here"]) rfl rfl rfl (by decide +kernel)) rfl (Z.cV (K':=K) (Z.aJ (K':=K) (Z.pv 0) Z.aA (fun _ _=>rfl))) (fun _ _ _ _=>(Z.eK (K':=K) (n:=2) rfl (Z.bD (Z.aT (i:=0) (show(["_law_amount","_law_rate","_law_price_here"]:List Str).Nodup by decide +kernel) rfl (Or.inl rfl)) (Z.bD (Z.aT (i:=1) (show(["_law_amount","_law_rate","_law_price_here"]:List Str).Nodup by decide +kernel) rfl (Or.inl rfl)) Z.dZ)))) (aAc (d7 (by decide) (d7 (by decide) vV))) (fun _ _ _ _=>Z.dG) (fun _ _ _ _=>(Z.aS bK (Z.aP (jJ rfl) (by rfl) tx.sQ vW (Z.aE Z.aA (Z.aE (Z.aS eQ (Z.pv 2) (Z.pv 1)) Z.aC))) (Z.pv 0)))) Z.aC))))) ?_
  obtain⟨pl,hx,hp⟩:=hs.ex
  obtain⟨qs,h1,h2⟩:=hp.ex
  refine aO (σ:=[some (.ref s),some (.int pr)]) rfl ?_
  walk_at "w"
  refine mL (bR.of h1) ?_
  refine aLE (fun t=>some (max 0 (pr - t.2)*t.1)) h1 h2 hg.pieces.len (fun q t N N' hm hq hN hN'=>?_) ?_
  ·obtain⟨z1,⟨z2,z3⟩,z4,z5⟩:=hg.pieces.pc _ hm
   refine eJ (kR.of hq) rfl ?_
   walk_at "w"
   exact hN _ rfl
  intro l1 n1
  walk_at "w"
  refine aHX (bR.of aH) ?_
  rw[aLD]
  walk_at "w"
  exact k _ (aI.new n1)
def aJZ(K:W.Frag):Sp:=fun vs H Q _=>∃(v:V) (t:Addr) (o d on:Int),vs=[v,.ref t,.int on]/\H t=some (.tup [.int o,.int d])/\Q (.bl (decide (o=on) || decide (d=0))) H
theorem x8{P:Program}{w:World}{K:PySem.W.Frag}{mg:Str->Option Value}{base:Heap}{a:iT}(tx:Txt K mg a):bL P w K mg base gF 1 a.aAn a.aAo ["machine","state","on"] (aJZ K):=by
 refine tx.sI.ok aJX (fun vs H Q E h=>?_) (fun cdv A outer s H vs Q E hr h=>?_)
 ·obtain⟨v,t,o,d,on,rfl,_⟩:=h
  rfl
 ·obtain⟨v,t,o,d,on,rfl ,ht,k⟩:=h
  have hu:=jI hr
  refine Z.root (Z.aG (Z.aY (Z.aIy (Z.nE (r:=oZ K) (eF hu) (Z.aJ (K':=K) (Z.pv 1) Z.aA (fun _ _=>rfl)) (Z.pv 2) (bI _)) (Z.rJ (Z.nE (r:=oZ K) (eF hu) (Z.aJ (K':=K) (Z.pv 1) Z.aA (fun _ _=>rfl)) Z.aA (bI _)))))) ?_
  refine aO (σ:=[some v,some (.ref t),some (.int on)]) rfl ?_
  walk_at "w"
  refine cA (fun h=>?_) (fun h=>?_)
  ·rw[decide_eq_true h,Bool.true_or] at k
   exact k
  ·rw[decide_eq_false h,Bool.false_or] at k
   walk_at "w"
   exact k
def uV(m:MS)(o d on:Int):Int×Int:=if o=on then (on,max (d - 1) 0) else if on=1 then (1,m.up - 1) else (0,m.down - 1)
def aDv(K:W.Frag)(C:Addr):Sp:=fun vs H Q _=>∃(q:Addr) (m:MS) (t:Addr) (o d on:Int),vs=[.ref q,.ref t,.int on]/\cN C H q m/\H t=some (.tup [.int o,.int d])/\(o=on\/d=0)/\
 ∀T H',aI H H'->H T=none->H' T=some (.tup [.int (uV m o d on).1,.int (uV m o d on).2])->Q (.ref T) H'
theorem pS{P:Program}{w:World}{K:PySem.W.Frag}{mg:Str->Option Value}{base:Heap}{a:iT}(tx:Txt K mg a):bL P w K mg base gF 2 a.lR a.lS ["machine","state","on"] (aDv K a.aZ):=by
 have pT:=x8 (P:=P) (w:=w) (base:=base) tx
 refine tx.iP.ok aDg (fun vs H Q E h=>?_) (fun cdv A outer s H vs Q E hr h=>?_)
 ·obtain⟨q,m,t,o,d,on,rfl,_⟩:=h
  rfl
 ·obtain⟨q,m,t,o,d,on,rfl ,hm,ht,hmay,k⟩:=h
  have hu:=jI hr
  refine Z.root (Z.aD (Z.cC (Z.mO (Z.jT (Z.aF (pT) (hr.mono (by decide)) (by rfl) tx.wO tx.sI.kp tx.wN .nil aQ (Z.aE (Z.pv 0) (Z.aE (Z.pv 1) (Z.aE (Z.pv 2) Z.aC)))))) (Z.aG Z.oU) Z.bH)
   (Z.aD (Z.cC (Z.bE (r:=oZ K) (eF hu) (Z.aJ (K':=K) (Z.pv 1) Z.aA (fun _ _=>rfl)) (Z.pv 2) (bI _)) (Z.aG (Z.aY (Z.rN (Z.pv 2) (Z.aP (jJ rfl) (by rfl) tx.sQ vW (Z.aE (Z.aS eQ (Z.aJ (K':=K) (Z.pv 1) Z.aA (fun _ _=>rfl)) Z.aA) (Z.aE Z.aA Z.aC)))))) Z.bH)
   (Z.aD (Z.cC (Z.bE (r:=oZ K) (eF hu) (Z.pv 2) Z.aA (bI _)) (Z.aG (Z.aY (Z.rN Z.aA (Z.aS eQ (Z.fF (K':=K) (Z.pv 0) rfl) Z.aA)))) Z.bH)
   (Z.aG (Z.aY (Z.rN Z.aA (Z.aS eQ (Z.fF (K':=K) (Z.pv 0) rfl) Z.aA))))))) ?_
  obtain⟨dx,pl,hq,_⟩:=hm.ex
  refine aO (σ:=[some (.ref q),some (.ref t),some (.int on)]) rfl ?_
  walk_at "w"
  refine⟨_,_,_,_,_,rfl,ht,?_⟩
  walk_at "w"
  rw[show(decide (o=on) || decide (d=0))=true by rcases hmay with h|h <;> simp[h]]
  walk_at "w"
  unfold uV at k
  refine cA (fun h=>?_) (fun h=>?_)
  ·rw[if_pos h] at k
   walk_at "w"
   intro T nT
   walk_at "w"
   exact k _ _ (aI.new nT) nT aH
  ·rw[if_neg h] at k
   walk_at "w"
   refine cA (fun h1=>?_) (fun h1=>?_)
   ·rw[if_pos h1] at k
    walk_at "w"
    refine jB hq tx.cB tx.uQ rfl ?_
    walk_at "w"
    intro T nT
    walk_at "w"
    exact k _ _ (aI.new nT) nT aH
   ·rw[if_neg h1] at k
    walk_at "w"
    refine jB hq tx.cB tx.pN rfl ?_
    walk_at "w"
    intro T nT
    walk_at "w"
    exact k _ _ (aI.new nT) nT aH
def Bit(o:Int):Prop:=o=0\/o=1
theorem aLF{m:MS}(hg:m.Good){o d on:Int}(ho:Bit on):Bit (uV m o d on).1/\0<=(uV m o d on).2:=by
 obtain⟨u0,u1⟩:=hg.up
 obtain⟨d0,d1⟩:=hg.down
 unfold uV
 split
 ·exact⟨ho,by show 0<=max (d - 1) 0;omega⟩
 ·split
  ·exact⟨.inr rfl,by show 0<=m.up - 1;omega⟩
  ·exact⟨.inl rfl,by show 0<=m.down - 1;omega⟩
def aEe(K:W.Frag):Sp:=fun vs H Q _=>∃(p s:Addr) (m:MS),vs=[.ref p,.ref s]/\bB H p/\cM H s m/\m.Good/\
 ∀(t:Addr) (o d:Int) H',H' t=some (.tup [.int o,.int d])->((o=1/\0<=d/\d < m.up)\/(o=0/\0<=d/\d < 60))->bB H' p->bX p H H'->Q (.ref t) H'
theorem aEf{P:Program}{w:World}{K:PySem.W.Frag}{mg:Str->Option Value}{base:Heap}{a:iT}(tx:Txt K mg a):bL P w K mg base gF 2 a.nL a.nM ["_law_hand","_law_spec_here"] (aEe K):=by
 have aK:=cT (P:=P) (w:=w) (base:=base) tx
 refine tx.uB.ok aD4 (fun vs H Q E h=>?_) (fun cdv A outer s H vs Q E hr h=>?_)
 ·obtain⟨p,s,m,rfl,_⟩:=h
  rfl
 ·obtain⟨p,s,m,rfl ,hh,hs,hg,k⟩:=h
  have hu:=jI hr
  refine Z.root (Z.aD (Z.cC (Z.bE (r:=oZ K) (eF hu) (Z.aF (aK) (hr.mono (by decide)) (by rfl) tx.aN tx.aL.kp tx.aM .nil aQ (Z.aE (Z.pv 0) (Z.aE Z.aA Z.aC))) Z.aA (bI _)) (Z.aG (Z.aY (Z.rN Z.aA (Z.aF (aK) (hr.mono (by decide)) (by rfl) tx.aN tx.aL.kp tx.aM .nil aQ (Z.aE (Z.pv 0) (Z.aE (Z.aJ (K':=K) (Z.pv 1) Z.aA (fun _ _=>rfl)) Z.aC)))))) Z.bH)
   (Z.aD (Z.cC (Z.bE (r:=oZ K) (eF hu) (Z.aF (aK) (hr.mono (by decide)) (by rfl) tx.aN tx.aL.kp tx.aM .nil aQ (Z.aE (Z.pv 0) (Z.aE Z.aA Z.aC))) Z.aA (bI _)) (Z.aG (Z.aY (Z.rN Z.aA (Z.aF (aK) (hr.mono (by decide)) (by rfl) tx.aN tx.aL.kp tx.aM .nil aQ (Z.aE (Z.pv 0) (Z.aE Z.aA Z.aC)))))) Z.bH)
   (Z.aG (Z.aY (Z.rN Z.aA (Z.aF (aK) (hr.mono (by decide)) (by rfl) tx.aN tx.aL.kp tx.aM .nil aQ (Z.aE (Z.pv 0) (Z.aE (Z.aJ (K':=K) (Z.pv 1) Z.aA (fun _ _=>rfl)) Z.aC)))))))) ?_
  obtain⟨u0,u1⟩:=hg.up
  obtain⟨d0,d1⟩:=hg.down
  refine aO (σ:=[some (.ref p),some (.ref s)]) rfl ?_
  walk_at "w"
  refine⟨p,_,rfl,hh,by decide,by decide,fun r1 H1 a1 b1 h1 k1 _=>?_⟩
  have hs1:=hs.keep hh k1
  obtain⟨pl,e1,_⟩:=hs1.ex
  walk_at "w"
  refine cA (fun h=>?_) (fun h=>?_)
  ·walk_at "w"
   refine⟨p,_,rfl,h1,by omega,by omega,fun r2 H2 a2 b2 h2 k2 _=>?_⟩
   walk_at "w"
   intro T nT
   walk_at "w"
   exact k _ _ _ _ aH (.inl ⟨rfl,a2,b2⟩) (h2.same (aI.new nT)) (k1.trans (k2.trans (aI.new nT).keep))
  ·walk_at "w"
   refine⟨p,_,rfl,h1,by decide,by decide,fun r2 H2 a2 b2 h2 k2 _=>?_⟩
   have hs2:=hs1.keep h1 k2
   obtain⟨pl2,e2,_⟩:=hs2.ex
   walk_at "w"
   refine cA (fun h=>?_) (fun h=>?_)
   ·walk_at "w"
    refine⟨p,_,rfl,h2,by decide,by decide,fun r3 H3 a3 b3 h3 k3 _=>?_⟩
    walk_at "w"
    intro T nT
    walk_at "w"
    exact k _ _ _ _ aH (.inr ⟨rfl,a3,b3⟩) (h3.same (aI.new nT)) (k1.trans (k2.trans (k3.trans (aI.new nT).keep)))
   ·walk_at "w"
    refine⟨p,_,rfl,h2,by omega,by omega,fun r3 H3 a3 b3 h3 k3 _=>?_⟩
    walk_at "w"
    intro T nT
    walk_at "w"
    exact k _ _ _ _ aH (.inr ⟨rfl,a3,by omega⟩) (h3.same (aI.new nT)) (k1.trans (k2.trans (k3.trans (aI.new nT).keep)))
def aEg(K:W.Frag):Sp:=fun vs H Q _=>∃(s:Addr) (m:MS) (t:Addr) (o d on:Int),vs=[.ref s,.ref t,.int on]/\cM H s m/\H t=some (.tup [.int o,.int d])/\Bit on/\Bit o/\0<=d/\
 ((o=on\/d=0)->∀T H',aI H H'->H T=none->H' T=some (.tup [.int (uV m o d on).1,.int (uV m o d on).2])->Q (.ref T) H')/\(¬(o=on\/d=0)->Q .non H)
theorem aEh{P:Program}{w:World}{K:PySem.W.Frag}{mg:Str->Option Value}{base:Heap}{a:iT}(tx:Txt K mg a):bL P w K mg base gF 1 a.nO a.nP ["_law_spec_here","_law_state_here","_law_on"] (aEg K):=by
 refine tx.uC.ok aD5 (fun vs H Q E h=>?_) (fun cdv A outer s H vs Q E hr h=>?_)
 ·obtain⟨s,m,t,o,d,on,rfl,_⟩:=h
  rfl
 ·obtain⟨s,m,t,o,d,on,rfl ,hs,ht,hon,ho,hd,k1,k2⟩:=h
  have hu:=jI hr
  refine Z.root (Z.aD (Z.cC (Z.bE (r:=oZ K) (eF hu) (Z.pv 2) (Z.aJ (K':=K) (Z.pv 1) Z.aA (fun _ _=>rfl)) (bI _)) (Z.aG (Z.aY (Z.rN (Z.pv 2) (Z.aP (jJ rfl) (by rfl) tx.sQ vW (Z.aE Z.aA (Z.aE (Z.aS eQ (Z.aJ (K':=K) (Z.pv 1) Z.aA (fun _ _=>rfl)) Z.aA) Z.aC)))))) Z.bH)
   (Z.aD (Z.cC (Z.bE aBH (Z.aJ (K':=K) (Z.pv 1) Z.aA (fun _ _=>rfl)) Z.aA (bI _)) (Z.aG (Z.aY Z.jS)) Z.bH)
   (Z.aG (Z.aY (Z.rN (Z.pv 2) (Z.aS eQ (Z.aJ (K':=K) (Z.aCR (Z.aJ (K':=K) (Z.pv 0) Z.aA (fun _ _=>rfl)) (Z.aJ (K':=K) (Z.pv 0) Z.aA (fun _ _=>rfl))) (Z.pv 2) (fun _ _=>rfl)) Z.aA)))))) ?_
  obtain⟨pl,e1,_⟩:=hs.ex
  refine aO (σ:=[some (.ref s),some (.ref t),some (.int on)]) rfl ?_
  walk_at "w"
  refine cA (fun h=>?_) (fun h=>?_)
  ·have k3:=k1 (.inl h.symm)
   unfold uV at k3
   rw[if_pos h.symm] at k3
   walk_at "w"
   rw[show max 0 (d - 1)=max (d - 1) 0 by omega]
   intro T nT
   walk_at "w"
   exact k3 _ _ (aI.new nT) nT aH
  ·walk_at "w"
   refine cA (fun h1=>?_) (fun h1=>?_)
   ·walk_at "w"
    exact k2 (fun z=>by rcases z with z|z;exact h z.symm;omega)
   ·have k3:=k1 (.inr (by omega))
    unfold uV at k3
    rw[if_neg (fun z=>h z.symm)] at k3
    walk_at "w"
    intro l nl
    walk_at "w"
    have sl:=aI.new (o:=.lst [.int m.down,.int m.up]) nl
    rcases hon with rfl|rfl
    ·refine aCP (bR.of aH) rfl ?_
     rw[if_neg (by decide)] at k3
     walk_at "w"
     intro T nT
     walk_at "w"
     exact k3 _ _ (sl.trans (aI.new nT)) (sl.free nT) aH
    ·refine aCP (bR.of aH) rfl ?_
     rw[if_pos rfl] at k3
     walk_at "w"
     intro T nT
     walk_at "w"
     exact k3 _ _ (sl.trans (aI.new nT)) (sl.free nT) aH
structure RL{α:Type}(P:Addr->α->Prop)(as:List Addr)(xs:List α):Prop where
 len:as.length=xs.length
 at_:∀(j:Nat) a x,as[j]?=some a->xs[j]?=some x->P a x
theorem RL.nil{α:Type}{P:Addr->α->Prop}:RL P [] []:=⟨rfl,fun j a x h=>by simp at h⟩
theorem RL.imp{α:Type}{P P':Addr->α->Prop}{as:List Addr}{xs:List α}(h:RL P as xs)(f:∀a x,P a x->P' a x):RL P' as xs:=⟨h.len,fun j a x h1 h2=>f a x (h.at_ j a x h1 h2)⟩
theorem RL.snoc{α:Type}{P:Addr->α->Prop}{as:List Addr}{xs:List α}(h:RL P as xs){a:Addr}{x:α}(hp:P a x):RL P (as ++ [a]) (xs ++ [x]):=by
 refine⟨by rw[List.length_append,List.length_append,h.len];rfl,fun j q u hq hu=>?_⟩
 by_cases hj:j < as.length
 ·rw[List.getElem?_append_left hj] at hq
  rw[List.getElem?_append_left (by rw[<-h.len];exact hj)] at hu
  exact h.at_ j q u hq hu
 ·have hj2:j < (as ++ [a]).length:=(List.getElem?_eq_some_iff.mp hq).1
  rw[List.length_append,List.length_singleton] at hj2
  have e:j=as.length:=by omega
  subst e
  rw[List.getElem?_append_right (Nat.le_refl _),Nat.sub_self] at hq
  rw[h.len,List.getElem?_append_right (Nat.le_refl _),Nat.sub_self] at hu
  cases hq
  cases hu
  exact hp
def SmV(H:Hp):Nat->V->V->Prop
 |0,_,_=>False
 |j+1,x,y=>(∃i,x=.int i/\y=.int i)\/(∃b,x=.bl b/\y=.bl b)\/(x=.non/\y=.non)\/(∃s,x=.str s/\y=.str s)\/
  ∃(p q:Addr) (xs ys:List V),x=.ref p/\y=.ref q/\((H p=some (.tup xs)/\H q=some (.tup ys))\/(H p=some (.lst xs)/\H q=some (.lst ys)))/\xs.length=ys.length/\ys.length<=1000000/\∀(i:Nat) u v,xs[i]?=some u->ys[i]?=some v->SmV H j u v
theorem SmV.int{H:Hp}{j:Nat}(i:Int):SmV H (j+1) (.int i) (.int i):=.inl ⟨i,rfl,rfl⟩
def aBv(o:HO):Prop:=(∃(d c:Int) (q:Addr),o=.lst [.int d,.int c,.ref q])\/∃(C dx:Addr),o=.ins C dx []
def Tr(H H':Hp):Prop:=∀b o,H b=some o->¬aBv o->H' b=some o
theorem Tr.trans{H H1 H2:Hp}(a:Tr H H1)(b:Tr H1 H2):Tr H H2:=fun c o e n=>b c o (a c o e n) n
theorem _root_.L2.aI.tr{H H':Hp}(s:aI H H'):Tr H H':=fun b o e _=>s b o e
theorem bB.tr{H H':Hp}{p:Addr}(hh:bB H p)(k:bX p H H'):Tr H H':=fun b o e n=>k b o e fun z=>by
 obtain⟨d,c,q,ms,hp,_⟩:=hh.ex
 rw[z,hp] at e
 cases e
 exact n (.inl ⟨d,c,q,rfl⟩)
theorem aLG{H H':Hp}{x C dx:Addr}(hx:H x=some (.ins C dx []))(k:bX x H H'):Tr H H':=fun b o e n=>k b o e fun z=>by
 rw[z,hx] at e
 cases e
 exact n (.inr ⟨C,dx,rfl⟩)
def Tk(H H':Hp):Prop:=∀b xs,H b=some (.tup xs)->H' b=some (.tup xs)
theorem Tk.trans{H H1 H2:Hp}(a:Tk H H1)(b:Tk H1 H2):Tk H H2:=fun c o e=>b c o (a c o e)
theorem aOI{xs:List V}:¬aBv (.tup xs):=fun z=>by rcases z with ⟨_,_,_,e⟩|⟨_,_,e⟩ <;> cases e
theorem aIn{C dx:Addr}{fs:List (Str×V)}(h:fs≠[]):¬aBv (.ins C dx fs):=fun z=>by
 rcases z with ⟨_,_,_,e⟩|⟨_,_,e⟩
 ·cases e
 ·cases e;exact h rfl
theorem aDw{xs:List V}(h:xs.length≠3):¬aBv (.lst xs):=fun z=>by
 rcases z with ⟨_,_,_,e⟩|⟨_,_,e⟩
 ·cases e;exact h rfl
 ·cases e
theorem aFY{qs:List Addr}:¬aBv (.lst (qs.map V.ref)):=fun z=>by
 rcases z with ⟨_,_,_,e⟩|⟨_,_,e⟩
 ·cases qs with
  |nil=>cases e
  |cons x xs=>cases e
 ·cases e
theorem aCA{ns:List Int}:¬aBv (.lst (ns.map V.int)):=fun z=>by
 rcases z with ⟨d,c,q,e⟩|⟨_,_,e⟩
 ·injection e with e
  have h:=congrArg (fun l=>l[2]?) e
  replace h:(ns.map V.int)[2]?=some (.ref q):=h
  rw[List.getElem?_map] at h
  cases hq:ns[2]? with
  |none=>rw[hq] at h;cases h
  |some n=>rw[hq] at h;cases h
 ·cases e
theorem Tr.tk{H H':Hp}(s:Tr H H'):Tk H H':=fun b xs e=>s b _ e aOI
theorem _root_.L2.aI.tk{H H':Hp}(s:aI H H'):Tk H H':=fun b xs e=>s b _ e
def del(l:Addr)(H:Hp):Hp:=fun b=>if b=l then none else H b
theorem zJ{l b:Addr}{H:Hp}(n:b≠l):del l H b=H b:=by unfold del;rw[if_neg n]
theorem xH{l:Addr}{H:Hp}:aI (del l H) H:=fun b o e=>by
 unfold del at e
 split at e
 ·cases e
 ·exact e
theorem aE9{l:Addr}{H:Hp}:del l H l=none:=by unfold del;rw[if_pos rfl]
theorem mN{l b:Addr}{H:Hp}{o:HO}(e:H b=some o)(n:b≠l):del l H b=some o:=by rw[zJ n];exact e
theorem Tr.del{l:Addr}{H H':Hp}(s:Tr H H'):Tr (del l H) (del l H'):=fun b o e n=>by
 by_cases hb:b=l
 ·subst hb;rw[aE9] at e;cases e
 ·rw[zJ hb] at e ⊢;exact s b o e n
theorem aI1{l:Addr}{H:Hp}{o:HO}:del l (upd H l o)=del l H:=by
 funext b
 by_cases hb:b=l
 ·subst hb;rw[aE9,aE9]
 ·rw[zJ hb,zJ hb,aR hb]
theorem xF.tr{H H':Hp}{qs:List Addr}{ps:List (Int×Int)}(h:xF H qs ps)(s:Tk H H'):xF H' qs ps:=⟨h.len,fun j q t h1 h2=>s _ _ (h.at_ j q t h1 h2)⟩
theorem yD.tr{H H':Hp}{p:Addr}{ps:List (Int×Int)}(h:yD H p ps)(s:Tr H H'):yD H' p ps:=by
 obtain⟨qs,h1,h2⟩:=h.ex
 exact⟨qs,s _ _ h1 aFY,h2.tr s.tk⟩
theorem cM.tr{H H':Hp}{p:Addr}{m:MS}(h:cM H p m)(s:Tr H H'):cM H' p m:=by
 obtain⟨pl,h1,h2⟩:=h.ex
 exact⟨pl,s _ _ h1 (aDw (by simp)),h2.tr s⟩
theorem cN.tr{C:Addr}{H H':Hp}{p:Addr}{m:MS}(h:cN C H p m)(s:Tr H H'):cN C H' p m:=by
 obtain⟨dx,pl,h1,h2⟩:=h.ex
 exact⟨dx,pl,s _ _ h1 (aIn (by simp[mFs])),h2.tr s⟩
structure SS where
 cap:Int
 into:Int
 out:Int
 takes:Int
 gives:Int
structure SS.Good(s:SS):Prop where
 cap:0<=s.cap/\s.cap<=8
 into:0<=s.into/\s.into<=8
 out:0<=s.out/\s.out<=8
 takes:Am s.takes
 gives:Am s.gives
def Lv(s:SS)(l n:Int):Prop:=0<=n/\n<=s.cap/\l - s.out<=n/\n<=l+s.into
instance (s:SS) (l n:Int):Decidable (Lv s l n):=by unfold Lv;infer_instance
def dr(s:SS)(l n:Int):Int:=(if l < n then s.takes else s.gives)*(n - l)
theorem aFZ{lo n:Int}{k:Nat}:n∈upL lo k↔lo<=n/\n < lo+(k:Int):=by
 unfold upL
 rw[List.mem_map]
 constructor
 ·rintro ⟨j,hj,rfl⟩
  have:=List.mem_range.mp hj
  omega
 ·rintro ⟨h1,h2⟩
  exact⟨(n - lo).toNat,List.mem_range.mpr (by omega),by omega⟩
theorem aMU(lo:Int)(k:Nat):(upL lo k).length=k:=by
 unfold upL
 rw[List.length_map,List.length_range]
def sFs(s:SS):List (Str×V):=[("cap",.int s.cap),("into",.int s.into),("out",.int s.out),("takes",.int s.takes),("gives",.int s.gives)]
structure aF0(H:Hp)(a:Addr)(s:SS):Prop where
 at_:H a=some (.lst [.int s.cap,.int s.into,.int s.out,.int s.takes,.int s.gives])
structure fO(C:Addr)(H:Hp)(x:Addr)(s:SS):Prop where
 ex:∃dx,H x=some (.ins C dx (sFs s))
theorem fO.same{C:Addr}{H H':Hp}{a:Addr}{s:SS}(h:fO C H a s)(e:aI H H'):fO C H' a s:=by
 obtain⟨dx,q⟩:=h.ex
 exact⟨dx,e _ _ q⟩
def aHi(K:W.Frag):Sp:=fun vs H Q _=>∃(i:Int),vs=[.int i]/\0<=i/\i<=8/\Q (.bl true) H
theorem aHj{P:Program}{w:World}{K:PySem.W.Frag}{mg:Str->Option Value}{base:Heap}{a:iT}(tx:Txt K mg a):bL P w K mg base gF 2 a.tO a.tQ ["thing"] (aHi K):=by
 have pR:=xG (P:=P) (w:=w) (base:=base) tx
 refine tx.pC.ok aG8 (fun vs H Q E h=>?_) (fun cdv A outer s H vs Q E hr h=>?_)
 ·obtain⟨i,rfl,_⟩:=h
  rfl
 ·obtain⟨i,rfl ,h1,h2,k⟩:=h
  have hu:=jI hr
  refine Z.root (Z.aG (Z.aY (Z.sZ (Z.aF (pR) (hr.mono (by decide)) (by rfl) tx.tZ tx.pA.kp tx.tY .nil aQ (Z.aE (Z.pv 0) Z.aC)) (Z.rJ (Z.vQ aCK aCK Z.aA (Z.pv 0) (Z.xS (n:=8) (by rfl) tx.gC)))))) ?_
  refine aO (σ:=[some (.int i)]) rfl ?_
  walk_at "w"
  refine⟨_,_,rfl,.int i,?_⟩
  walk_at "w"
  refine iR (fun _=>?_) (fun h=>by simp at h)
  walk_at "w"
  refine cA (fun _=>?_) (fun h=>absurd h1 h)
  walk_at "w"
  rw[decide_eq_true h2]
  exact k
def aEi(K:W.Frag)(C:Addr):Sp:=fun vs H Q _=>∃(x dx:Addr) (s:SS),vs=[.ref x,.int s.cap,.int s.into,.int s.out,.int s.takes,.int s.gives]/\H x=some (.ins C dx [])/\s.Good/\
 ∀H',fO C H' x s->bX x H H'->Q .non H'
theorem aEj{P:Program}{w:World}{K:PySem.W.Frag}{mg:Str->Option Value}{base:Heap}{a:iT}(tx:Txt K mg a):bL P w K mg base gF 3 a.nQ a.nR ["self","cap","into","out","takes","gives"] (aEi K a.bY):=by
 have cL:=oQ (P:=P) (w:=w) (base:=base) tx
 have zK:=aHj (P:=P) (w:=w) (base:=base) tx
 refine tx.aAx.ok lK (fun vs H Q E h=>?_) (fun cdv A outer s H vs Q E hr h=>?_)
 ·obtain⟨x,dx,ss,rfl,_⟩:=h
  rfl
 ·obtain⟨x,dx,ss,rfl ,hx,hg,k⟩:=h
  have hu:=jI hr
  refine Z.root (Z.aD (Z.aV (i:=6) lK.nd rfl (Or.inl rfl) (Z.aHW (Z.aF (zK) (hr.mono (by decide)) (by rfl) tx.uE tx.pC.kp tx.uD .nil aQ (Z.aE (Z.pv 1) Z.aC)) (Z.aF (zK) (hr.mono (by decide)) (by rfl) tx.uE tx.pC.kp tx.uD .nil aQ (Z.aE (Z.pv 2) Z.aC)) (Z.aF (zK) (hr.mono (by decide)) (by rfl) tx.uE tx.pC.kp tx.uD .nil aQ (Z.aE (Z.pv 3) Z.aC))))
   (Z.aD (Z.cO PassesOwn.never rfl (Z.vZ (K':=K) (by rfl) tx.dO (Z.aE (Z.aS bJ (Z.pv 6) (Z.aCR (Z.aF (cL) (hr.mono (by decide)) (by rfl) tx.dN tx.cX.kp tx.dM .nil aQ (Z.aE (Z.pv 4) Z.aC)) (Z.aF (cL) (hr.mono (by decide)) (by rfl) tx.dN tx.cX.kp tx.dM .nil aQ (Z.aE (Z.pv 5) Z.aC)))) Z.aC)) (Z.eK (K':=K) (n:=2) rfl (Z.bD (Z.aT (i:=7) lK.nd rfl (Or.inl rfl)) (Z.bD (Z.aT (i:=8) lK.nd rfl (Or.inl rfl)) Z.dZ))) (Z.aG (Z.cC (Z.mO (Z.jT (Z.pv 8))) (Z.aG Z.oU) Z.bH)))
   (Z.aD (Z.fG (K':=K) (Z.pv 0) (Z.pv 1) rfl)
   (Z.aD (Z.fG (K':=K) (Z.pv 0) (Z.pv 2) rfl)
   (Z.aD (Z.fG (K':=K) (Z.pv 0) (Z.pv 3) rfl)
   (Z.aD (Z.fG (K':=K) (Z.pv 0) (Z.pv 4) rfl)
   (Z.aG (Z.fG (K':=K) (Z.pv 0) (Z.pv 5) rfl)))))))) ?_
  refine aO (σ:=[some (.ref x),some (.int ss.cap),some (.int ss.into),some (.int ss.out),some (.int ss.takes),some (.int ss.gives),none,none,none]) rfl ?_
  walk_at "w"
  refine⟨_,rfl,hg.cap.1,hg.cap.2,?_⟩
  walk_at "w"
  refine⟨_,rfl,hg.into.1,hg.into.2,?_⟩
  walk_at "w"
  refine⟨_,rfl,hg.out.1,hg.out.2,?_⟩
  walk_at "w"
  intro l1 n1
  walk_at "w"
  refine⟨_,_,rfl,.int _,?_⟩
  rw[uU hg.takes]
  walk_at "w"
  refine⟨_,_,rfl,.int _,?_⟩
  rw[uU hg.gives]
  walk_at "w"
  intro l2 n2
  walk_at "w"
  refine xR (xs:=[.bl true,.bl true,.bl true]) (zs:=[.bl true,.bl true]) (aI.new n2 _ _ aH) aH (cD (by simp)) ?_
  intro l3 n3
  have s3:aI H (upd (upd (upd H l1 (.lst [.bl true,.bl true,.bl true])) l2 (.lst [.bl true,.bl true])) l3 (.lst ([.bl true,.bl true,.bl true] ++ [.bl true,.bl true]))):=((aI.new n1).trans (aI.new n2)).trans (aI.new n3)
  have e3:(upd (upd (upd H l1 (.lst [.bl true,.bl true,.bl true])) l2 (.lst [.bl true,.bl true])) l3 (.lst ([.bl true,.bl true,.bl true] ++ [.bl true,.bl true]))) l3=some (.lst [.bl true,.bl true,.bl true,.bl true,.bl true]):=aH
  generalize upd (upd (upd H l1 (.lst [.bl true,.bl true,.bl true])) l2 (.lst [.bl true,.bl true])) l3 (.lst ([.bl true,.bl true,.bl true] ++ [.bl true,.bl true]))=H3 at s3 e3 ⊢
  walk_at "w"
  refine aGS (bR.of e3) ?_
  refine aAe (xs:=[.bl true,.bl true,.bl true,.bl true,.bl true]) (fun i σ' H'=>∃y z,σ'=[some (.ref x),some (.int ss.cap),some (.int ss.into),some (.int ss.out),some (.int ss.takes),some (.int ss.gives),some (.ref l1),y,z]/\aI H3 H')
   ⟨_,_,rfl,aI.refl _⟩ (fun i σ' H' hi ⟨y,z,e,s⟩=>bR.of (s _ _ e3)) (fun i v σ' H' T hv ⟨y,z,e,s⟩ nT=>?_) (fun σ' H' ⟨y,z,e,s⟩=>?_)
  ·subst e
   have ev:v=.bl true:=by
    have:=List.mem_of_getElem? hv
    simpa using this
   subst ev
   refine eJ (kR.of aH) rfl ?_
   walk_at "w"
   exact⟨_,_,rfl,s.trans (aI.new nT)⟩
  ·subst e
   have sH:aI H H':=s3.trans s
   have hx':=sH _ _ hx
   walk_at "w"
   refine jA (fs':=[("cap",.int ss.cap)]) hx' tx.iY tx.xD (by simp) rfl ?_
   walk_at "w"
   refine jA (fs':=[("cap",.int ss.cap),("into",.int ss.into)]) aH tx.iY tx.uR (by simp) rfl ?_
   rw[jR]
   walk_at "w"
   refine jA (fs':=[("cap",.int ss.cap),("into",.int ss.into),("out",.int ss.out)]) aH tx.iY tx.xE (by simp) rfl ?_
   rw[jR]
   walk_at "w"
   refine jA (fs':=[("cap",.int ss.cap),("into",.int ss.into),("out",.int ss.out),("takes",.int ss.takes)]) aH tx.iY tx.rX (by simp) rfl ?_
   rw[jR]
   walk_at "w"
   refine jA (fs':=sFs ss) aH tx.iY tx.rY (by simp) rfl ?_
   rw[jR]
   walk_at "w"
   exact k _ ⟨dx,aH⟩ (sH.keep.trans bX.upd)
theorem aF0.tr{H H':Hp}{a:Addr}{s:SS}(h:aF0 H a s)(e:Tr H H'):aF0 H' a s:=⟨e _ _ h.at_ (aDw (by simp))⟩
theorem fO.tr{C:Addr}{H H':Hp}{a:Addr}{s:SS}(h:fO C H a s)(e:Tr H H'):fO C H' a s:=by
 obtain⟨dx,q⟩:=h.ex
 exact⟨dx,e _ _ q (aIn (by simp[sFs]))⟩
def StA(H:Hp)(q:Addr)(t:Int×Int):Prop:=H q=some (.tup [.int t.1,.int t.2])
structure aI2(H:Hp)(t:Addr)(ss:List (Int×Int)):Prop where
 ex:∃qs,H t=some (.tup (qs.map V.ref))/\RL (StA H) qs ss
abbrev Ps:=List (Int×Int)×Int
structure yW(H:Hp)(a:Addr)(P:Ps):Prop where
 ex:∃t,H a=some (.tup [.ref t,.int P.2])/\aI2 H t P.1
structure Hr where
 ons:List Int
 outs:List Int
 lev:Int
structure aOJ(H:Hp)(a:Addr)(h:Hr):Prop where
 ex:∃t u,H a=some (.tup [.ref t,.ref u,.int h.lev])/\H t=some (.tup (h.ons.map V.int))/\H u=some (.tup (h.outs.map V.int))
theorem aI2.tk{H H':Hp}{t:Addr}{ss:List (Int×Int)}(h:aI2 H t ss)(s:Tk H H'):aI2 H' t ss:=by
 obtain⟨qs,h1,h2⟩:=h.ex
 exact⟨qs,s _ _ h1,h2.imp fun a x z=>s _ _ z⟩
theorem yW.tk{H H':Hp}{a:Addr}{P:Ps}(h:yW H a P)(s:Tk H H'):yW H' a P:=by
 obtain⟨t,h1,h2⟩:=h.ex
 exact⟨t,s _ _ h1,h2.tk s⟩
theorem aOJ.tk{H H':Hp}{a:Addr}{h:Hr}(x:aOJ H a h)(s:Tk H H'):aOJ H' a h:=by
 obtain⟨t,u,h1,h2,h3⟩:=x.ex
 exact⟨t,u,s _ _ h1,s _ _ h2,s _ _ h3⟩
structure WS where
 specs:List MS
 store:Option SS
 lack:Int
 x:Int
 y:Int
 wide:Int
structure WS.Good(W:WS):Prop where
 specs:∀m∈W.specs,m.Good
 len:W.specs.length<=6
 store:∀s,W.store=some s->s.Good
 lack:Am W.lack
 x:1<=W.x/\W.x<=50000000000
 y:1<=W.y/\W.y<=50000000000
 wide:W.wide=0\/W.wide=1
structure uW(H:Hp)(l:Addr)(ms:List MS):Prop where
 ex:∃qs,H l=some (.lst (qs.map V.ref))/\RL (cM H) qs ms
structure rA(C:Addr)(H:Hp)(l:Addr)(ms:List MS):Prop where
 ex:∃qs,H l=some (.lst (qs.map V.ref))/\RL (cN C H) qs ms
def aEk(H:Hp)(v:V):Option SS->Prop
 |none=>v=.non
 |some s=>∃a,v=.ref a/\aF0 H a s
def aJ0(C:Addr)(H:Hp)(v:V):Option SS->Prop
 |none=>v=.non
 |some s=>∃a,v=.ref a/\fO C H a s
theorem uW.tr{H H':Hp}{l:Addr}{ms:List MS}(h:uW H l ms)(s:Tr H H'):uW H' l ms:=by
 obtain⟨qs,h1,h2⟩:=h.ex
 exact⟨qs,s _ _ h1 aFY,h2.imp fun a x z=>z.tr s⟩
theorem rA.tr{C:Addr}{H H':Hp}{l:Addr}{ms:List MS}(h:rA C H l ms)(s:Tr H H'):rA C H' l ms:=by
 obtain⟨qs,h1,h2⟩:=h.ex
 exact⟨qs,s _ _ h1 aFY,h2.imp fun a x z=>z.tr s⟩
theorem aEk.tr{H H':Hp}{v:V}:∀{o:Option SS},aEk H v o->Tr H H'->aEk H' v o
 |none,h,_=>h
 |some s,⟨a,e,h⟩,t=>⟨a,e,h.tr t⟩
theorem aJ0.tr{C:Addr}{H H':Hp}{v:V}:∀{o:Option SS},aJ0 C H v o->Tr H H'->aJ0 C H' v o
 |none,h,_=>h
 |some s,⟨a,e,h⟩,t=>⟨a,e,h.tr t⟩
structure rB(H:Hp)(a:Addr)(W:WS):Prop where
 ex:∃ls st b,H a=some (.lst [.ref ls,st,.int W.lack,.ref b,.int W.wide])/\uW H ls W.specs/\aEk H st W.store/\H b=some (.lst [.int W.x,.int W.y])
theorem rB.tr{H H':Hp}{a:Addr}{W:WS}(h:rB H a W)(s:Tr H H'):rB H' a W:=by
 obtain⟨ls,st,b,h1,h2,h3,h4⟩:=h.ex
 exact⟨ls,st,b,s _ _ h1 (aDw (by simp)),h2.tr s,h3.tr s,s _ _ h4 (aDw (by simp))⟩
def wFs(lm:Addr)(st:V)(k:Int):List (Str×V):=[("machines",.ref lm),("store",st),("lack",.int k)]
structure rC(CW CM CS:Addr)(H:Hp)(w:Addr)(W:WS):Prop where
 ex:∃dx lm st,H w=some (.ins CW dx (wFs lm st W.lack))/\rA CM H lm W.specs/\aJ0 CS H st W.store
theorem rC.tr{CW CM CS:Addr}{H H':Hp}{w:Addr}{W:WS}(h:rC CW CM CS H w W)(s:Tr H H'):rC CW CM CS H' w W:=by
 obtain⟨dx,lm,st,h1,h2,h3⟩:=h.ex
 exact⟨dx,lm,st,s _ _ h1 (aIn (by simp[wFs])),h2.tr s,h3.tr s⟩
def VS(s:Int×Int):Prop:=Bit s.1/\0<=s.2
def aPy:List MS->List (Int×Int)->List Int->List (Int×Int)
 |m::ms,s::ss,o::os=>uV m s.1 s.2 o::aPy ms ss os
 |_,_,_=>[]
def May(ss:List (Int×Int))(os:List Int):Prop:=∀(j:Nat) (s:Int×Int) (o:Int),ss[j]?=some s->os[j]?=some o->s.1=o\/s.2=0
def aFa(W:WS)(l:Int):Prop:=match W.store with|none=>l=0|some s=>0<=l/\l<=s.cap
def LvW(W:WS)(l n:Int):Prop:=match W.store with|none=>n=0|some s=>Lv s l n
structure aNh(W:WS)(P:Ps):Prop where
 len:P.1.length=W.specs.length
 vs:∀s∈P.1,VS s
 lev:aFa W P.2
def aPz(m:MS)(on out:Int):Prop:=(on=0->out=0)/\(on≠0->m.least<=out/\out<=m.least+aPx m.pieces)
structure aLH(W:WS)(P:Ps)(h:Hr):Prop where
 ons:h.ons.length=W.specs.length
 outs:h.outs.length=W.specs.length
 bits:∀o∈h.ons,Bit o
 may:May P.1 h.ons
 out:∀(j:Nat) m on out,W.specs[j]?=some m->h.ons[j]?=some on->h.outs[j]?=some out->aPz m on out
 lev:LvW W P.2 h.lev
def nxt(W:WS)(P:Ps)(h:Hr):Ps:=(aPy W.specs P.1 h.ons,h.lev)
def aDx(W:WS):Ps->List Hr->Prop
 |_,[]=>True
 |P,h::hs=>aLH W P h/\aDx W (nxt W P h) hs
def aPA(W:WS):Ps->List Hr->Ps
 |P,[]=>P
 |P,h::hs=>aPA W (nxt W P h) hs
theorem aDx.take{W:WS}:∀{P:Ps}{hs:List Hr}{i:Nat}{h:Hr},aDx W P hs->hs[i]?=some h->aDx W P (hs.take i)/\aLH W (aPA W P (hs.take i)) h
 |P,g::hs,0,h,x,e=>by cases e;exact⟨trivial,x.1⟩
 |P,g::hs,i+1,h,x,e=>by
  have:=aDx.take (i:=i) (h:=h) x.2 e
  exact⟨⟨x.1,this.1⟩,this.2⟩
 |_,[],_,_,_,e=>by simp at e
theorem take_snoc{α:Type}{l:List α}{i:Nat}{x:α}(h:l[i]?=some x):l.take (i+1)=l.take i ++ [x]:=by
 rw[List.take_add_one,h];rfl
theorem RL.get{α:Type}{P:Addr->α->Prop}{as:List Addr}{xs:List α}(h:RL P as xs){i:Nat}{v:V}(hv:(as.map V.ref)[i]?=some v):∃a x,as[i]?=some a/\v=.ref a/\xs[i]?=some x/\P a x:=by
 rw[List.getElem?_map] at hv
 cases hq:as[i]? with
 |none=>rw[hq] at hv;cases hv
 |some a=>
  rw[hq] at hv
  cases hv
  have li:i < xs.length:=by rw[<-h.len];exact(List.getElem?_eq_some_iff.mp hq).1
  have hx:xs[i]?=some xs[i]:=List.getElem?_eq_getElem li
  exact⟨a,xs[i],rfl,rfl,hx,h.at_ i a _ hq hx⟩
theorem RL.ix{α:Type}{P:Addr->α->Prop}{as:List Addr}{xs:List α}(h:RL P as xs){i:Nat}(hi:i < xs.length):∃a,as[i]?=some a/\P a xs[i]:=by
 have li:i < as.length:=by rw[h.len];exact hi
 have ha:as[i]?=some as[i]:=List.getElem?_eq_getElem li
 exact⟨as[i],ha,h.at_ i _ _ ha (List.getElem?_eq_getElem hi)⟩
theorem aMV{as:List Addr}{i:Nat}{a:Addr}(h:as[i]?=some a):xP (as.map V.ref) (i:Int)=some (.ref a):=gQ (by rw[List.getElem?_map,h];rfl)
theorem mJ{ns:List Int}{i:Nat}{x:V}(h:(ns.map V.int)[i]?=some x):∃n,ns[i]?=some n/\x=.int n:=by
 rw[List.getElem?_map] at h
 cases hq:ns[i]? with
 |none=>rw[hq] at h;cases h
 |some n=>rw[hq] at h;cases h;exact⟨n,rfl,rfl⟩
theorem aIo{H H1 H2:Hp}{p:Addr}(np:H p=none)(s:aI H H1)(k:bX p H1 H2):aI H H2:=fun b o e=>k _ _ (s _ _ e) (bC np e)
theorem RL.take{α:Type}{P:Addr->α->Prop}{as:List Addr}{xs:List α}(h:RL P as xs)(i:Nat):RL P (as.take i) (xs.take i):=by
 refine⟨by rw[List.length_take,List.length_take,h.len],fun j a x h1 h2=>?_⟩
 rw[List.getElem?_take] at h1 h2
 split at h1
 ·rename_i hj
  rw[if_pos hj] at h2
  exact h.at_ j a x h1 h2
 ·cases h1
def flt(m:MS):Int->Int->List Int->Nat->V
 |_,_,[],_=>.non
 |o,d,on::r,i=>if o=on\/d=0 then flt m (uV m o d on).1 (uV m o d on).2 r (i+1) else .int i
theorem aI3{ns:List Int}{i:Nat}{n:Int}(h:ns[i]?=some n):ns.drop i=n::ns.drop (i+1):=by
 obtain⟨hi,e⟩:=List.getElem?_eq_some_iff.mp h
 rw[List.drop_eq_getElem_cons hi,e]
def aF1(K:W.Frag)(C:Addr):Sp:=fun vs H Q _=>∃(q:Addr) (m:MS) (t:Addr) (o d:Int) (p:Addr) (ns:List Int),vs=[.ref q,.ref t,.ref p]/\cN C H q m/\H t=some (.tup [.int o,.int d])/\H p=some (.lst (ns.map V.int))/\
 ∀H',aI H H'->Q (flt m o d ns 0) H'
theorem aF2{P:Program}{w:World}{K:PySem.W.Frag}{mg:Str->Option Value}{base:Heap}{a:iT}(tx:Txt K mg a):bL P w K mg base gF 3 a.qK a.qL ["machine","state","run"] (aF1 K a.aZ):=by
 have pT:=x8 (P:=P) (w:=w) (base:=base) tx
 have iQ:=pS (P:=P) (w:=w) (base:=base) tx
 refine tx.wQ.ok nG (fun vs H Q E h=>?_) (fun cdv A outer s H vs Q E hr h=>?_)
 ·obtain⟨q,m,t,o,d,p,ns,rfl,_⟩:=h
  rfl
 ·obtain⟨q,m,t,o,d,p,ns,rfl ,hm,ht,hp,k⟩:=h
  have hu:=jI hr
  refine Z.root (Z.aD (Z.cO PassesOwn.never rfl (Z.vZ (K':=K) (by rfl) tx.dO (Z.aE (Z.pv 2) Z.aC)) (Z.eK (K':=K) (n:=2) rfl (Z.bD (Z.aT (i:=3) nG.nd rfl (Or.inl rfl)) (Z.bD (Z.aT (i:=4) nG.nd rfl (Or.inl rfl)) Z.dZ))) (Z.aD (Z.cC (Z.mO (Z.jT (Z.aF (pT) (hr.mono (by decide)) (by rfl) tx.wO tx.sI.kp tx.wN .nil aQ (Z.aE (Z.pv 0) (Z.aE (Z.pv 1) (Z.aE (Z.pv 4) Z.aC)))))) (Z.aG (Z.aY (Z.pv 3))) Z.bH)
   (Z.aG (Z.aV (i:=1) nG.nd rfl (Or.inl rfl) (Z.aF (iQ) (hr.mono (by decide)) (by rfl) tx.mH tx.iP.kp tx.mG .nil aQ (Z.aE (Z.pv 0) (Z.aE (Z.pv 1) (Z.aE (Z.pv 4) Z.aC))))))))
   (Z.aG (Z.aY Z.jS))) ?_
  refine aO (σ:=[some (.ref q),some (.ref t),some (.ref p),none,none]) rfl ?_
  walk_at "w"
  refine aGS (bR.of hp) ?_
  refine aAe (xs:=ns.map V.int) (fun i σ' H'=>∃t' o' d' x3 x4,σ'=[some (.ref q),some (.ref t'),some (.ref p),x3,x4]/\H' t'=some (.tup [.int o',.int d'])/\aI H H'/\flt m o' d' (ns.drop i) i=flt m o d ns 0)
   ⟨t,o,d,_,_,rfl,ht,aI.refl _,rfl⟩ (fun i σ' H' hi ⟨t',o',d',x3,x4,e,h1,h2,h3⟩=>bR.of (h2 _ _ hp)) (fun i x σ' H' T hx ⟨t',o',d',x3,x4,e,h1,h2,h3⟩ nT=>?_) (fun σ' H' ⟨t',o',d',x3,x4,e,h1,h2,h3⟩=>?_)
  ·subst e
   rw[List.getElem?_map] at hx
   obtain⟨n,hn,rfl⟩ : ∃n,ns[i]?=some n/\x=.int n:=by
    cases hq:ns[i]? with
    |none=>rw[hq] at hx;cases hx
    |some n=>rw[hq] at hx;cases hx;exact⟨n,rfl,rfl⟩
   rw[aI3 hn] at h3
   have sT:=aI.new (o:=.tup [.int (i:Int),.int n]) nT
   refine eJ (kR.of aH) rfl ?_
   walk_at "w"
   refine⟨_,_,_,_,_,rfl,sT _ _ h1,?_⟩
   walk_at "w"
   have h3':(if o'=n\/d'=0 then flt m (uV m o' d' n).1 (uV m o' d' n).2 (ns.drop (i+1)) (i+1) else .int i)=flt m o d ns 0:=h3
   by_cases hmay:o'=n\/d'=0
   ·rw[if_pos hmay] at h3'
    rw[show(decide (o'=n) || decide (d'=0))=true by rcases hmay with h|h <;> simp[h]]
    walk_at "w"
    refine⟨q,m,t',o',d',n,rfl,hm.same (h2.trans sT),sT _ _ h1,hmay,fun T2 H2 s2 nT2 hT2=>?_⟩
    walk_at "w"
    exact⟨T2,_,_,_,_,rfl,hT2,(h2.trans sT).trans s2,h3'⟩
   ·rw[if_neg hmay] at h3'
    rw[show(decide (o'=n) || decide (d'=0))=false by simp only[not_or] at hmay;simp[hmay.1,hmay.2]]
    walk_at "w"
    rw[<-h3'] at k
    exact k _ (h2.trans sT)
  ·subst e
   rw[List.length_map,List.drop_length] at h3
   walk_at "w"
   have h3':V.non=flt m o d ns 0:=h3
   rw[h3']
   exact k _ h2
def bgs:Int->List Int->Nat->List Int
 |_,[],_=>[]
 |o,on::r,i=>(if on=1/\o=0 then [(i:Int)] else [])++bgs on r (i+1)
def aJ1(m:MS)(o:Int)(ns:List Int):Int:=m.begin_*((bgs o ns 0).length:Int)+m.run*(ns.count 1:Nat)+m.rest*(ns.count 0:Nat)
def aCg(K:W.Frag)(C:Addr):Sp:=fun vs H Q _=>∃(q:Addr) (m:MS) (t:Addr) (o d:Int) (p:Addr) (ns:List Int),vs=[.ref q,.ref t,.ref p]/\cN C H q m/\H t=some (.tup [.int o,.int d])/\H p=some (.lst (ns.map V.int))/\
 flt m o d ns 0=.non/\∀H',aI H H'->Q .non H'
theorem aCh{P:Program}{w:World}{K:PySem.W.Frag}{mg:Str->Option Value}{base:Heap}{a:iT}(tx:Txt K mg a):bL P w K mg base gF 4 a.kC a.kD ["machine","state","run"] (aCg K a.aZ):=by
 have aHk:=aF2 (P:=P) (w:=w) (base:=base) tx
 refine tx.pD.ok vD (fun vs H Q E h=>?_) (fun cdv A outer s H vs Q E hr h=>?_)
 ·obtain⟨q,m,t,o,d,p,ns,rfl,_⟩:=h
  rfl
 ·obtain⟨q,m,t,o,d,p,ns,rfl ,hm,ht,hp,hf,k⟩:=h
  have hu:=jI hr
  refine Z.root (Z.aD (Z.aV (i:=3) vD.nd rfl (Or.inl rfl) (Z.aF (aHk) (hr.mono (by decide)) (by rfl) tx.aBX tx.wQ.kp tx.aBW .nil aQ (Z.aE (Z.pv 0) (Z.aE (Z.pv 1) (Z.aE (Z.pv 2) Z.aC)))))
   (Z.aG (Z.cC (Z.bE xU (Z.pv 3) Z.jS (bI _)) (Z.aG Z.oU) Z.bH))) ?_
  refine aO (σ:=[some (.ref q),some (.ref t),some (.ref p),none]) rfl ?_
  walk_at "w"
  refine⟨q,m,t,o,d,p,ns,rfl,hm,ht,hp,fun H1 s1=>?_⟩
  rw[hf]
  walk_at "w"
  exact k _ s1
def aEm(K:W.Frag)(C:Addr):Sp:=fun vs H Q _=>∃(q:Addr) (m:MS) (t:Addr) (o d:Int) (p:Addr) (ns:List Int),vs=[.ref q,.ref t,.ref p]/\cN C H q m/\H t=some (.tup [.int o,.int d])/\H p=some (.lst (ns.map V.int))/\ns.length<=48/\
 flt m o d ns 0=.non/\∀c H',aI H H'->H c=none->H' c=some (.lst ((bgs o ns 0).map V.int))->Q (.ref c) H'
theorem aEn{P:Program}{w:World}{K:PySem.W.Frag}{mg:Str->Option Value}{base:Heap}{a:iT}(tx:Txt K mg a):bL P w K mg base gF 5 a.nS a.nU ["machine","state","run"] (aEm K a.aZ):=by
 have aDy:=aCh (P:=P) (w:=w) (base:=base) tx
 refine tx.uF.ok gB (fun vs H Q E h=>?_) (fun cdv A outer s H vs Q E hr h=>?_)
 ·obtain⟨q,m,t,o,d,p,ns,rfl,_⟩:=h
  rfl
 ·obtain⟨q,m,t,o,d,p,ns,rfl ,hm,ht,hp,hl,hn,k1⟩:=h
  have hu:=jI hr
  refine Z.root (Z.aD (Z.pW (Z.aF (aDy) (hr.mono (by decide)) (by rfl) tx.wU tx.pD.kp tx.wR .nil aQ (Z.aE (Z.pv 0) (Z.aE (Z.pv 1) (Z.aE (Z.pv 2) Z.aC)))))
   (Z.aD (Z.aV (i:=3) gB.nd rfl (Or.inl rfl) (Z.jU Z.aC))
   (Z.aD (Z.aV (i:=4) gB.nd rfl (Or.inl rfl) (Z.aJ (K':=K) (Z.pv 1) Z.aA (fun _ _=>rfl)))
   (Z.aD (Z.cO PassesOwn.never rfl (Z.vZ (K':=K) (by rfl) tx.dO (Z.aE (Z.pv 2) Z.aC)) (Z.eK (K':=K) (n:=2) rfl (Z.bD (Z.aT (i:=5) gB.nd rfl (Or.inl rfl)) (Z.bD (Z.aT (i:=6) gB.nd rfl (Or.inl rfl)) Z.dZ))) (Z.aD (Z.cC (Z.vC (Z.sY (Z.bE (r:=oZ K) (eF hu) (Z.pv 6) Z.aA (bI _)) (Z.nC (Z.bE (r:=oZ K) (eF hu) (Z.pv 4) Z.aA (bI _))))) (Z.aG (Z.pW (Z.aAf (K':=K) (Z.pv 3) (Z.aE (Z.pv 5) Z.aC)))) Z.bH)
   (Z.aG (Z.aV (i:=4) gB.nd rfl (Or.inl rfl) (Z.pv 6)))))
   (Z.aG (Z.aY (Z.pv 3))))))) ?_
  refine aO (σ:=[some (.ref q),some (.ref t),some (.ref p),none,none,none,none]) rfl ?_
  walk_at "w"
  refine⟨q,m,t,o,d,p,ns,rfl,hm,ht,hp,hn,fun H1 s1=>?_⟩
  walk_at "w"
  intro c nc
  obtain⟨H2,i2,s2,g2⟩:=nw _ nc;rw[i2]
  have ht2:=(s1.trans s2) _ _ ht
  have hp2:=(s1.trans s2) _ _ hp
  have cp:c≠p:=fun z=>by rw[z] at nc;exact bC nc (s1 _ _ hp) rfl
  walk_at "w"
  refine aGS (bR.of hp2) ?_
  refine aAe (xs:=ns.map V.int) (fun i σ' H'=>∃(a':Int) (bs:List Int) (x5 x6:Option V),σ'=[some (.ref q),some (.ref t),some (.ref p),some (.ref c),some (.int a'),x5,x6]/\H' c=some (.lst (bs.map V.int))/\bs.length<=i/\bs++bgs a' (ns.drop i) i=bgs o ns 0/\aI H1 H')
   ⟨o,[],_,_,rfl,g2,Nat.le_refl _,rfl,s2⟩ (fun i σ' H' hi ⟨a',bs,x5,x6,e,g,lb,eb,s'⟩=>bR.of (s' _ _ (s1 _ _ hp))) (fun i x σ' H' T hx ⟨a',bs,x5,x6,e,g,lb,eb,s'⟩ nT=>?_) (fun σ' H' ⟨a',bs,x5,x6,e,g,lb,eb,s'⟩=>?_)
  ·subst e
   rw[List.getElem?_map] at hx
   obtain⟨n,hn',rfl⟩:=Option.map_eq_some_iff.mp hx
   have hi:i < ns.length:=(List.getElem?_eq_some_iff.mp hn').1
   rw[aI3 hn'] at eb
   obtain⟨H3,i3,s3,g3⟩:=nw (.tup [.int (i:Int),.int n]) nT;rw[i3]
   refine eJ (kR.of g3) rfl ?_
   have g':=s3 _ _ g
   have eb':bs++((if n=1/\a'=0 then [(i:Int)] else [])++bgs n (ns.drop (i+1)) (i+1))=bgs o ns 0:=eb
   walk_at "w"
   refine cA (fun h1=>?_) (fun h1=>?_)
   ·walk_at "w"
    refine cA (fun h2=>?_) (fun h2=>?_)
    ·rw[if_pos ⟨h1,h2⟩,<-List.append_assoc] at eb'
     walk_at "w"
     refine y9 (bR.of g') ?_
     walk_at "w"
     refine aCT (xs:=bs.map V.int) g' (Nat.lt_of_lt_of_le (by rw[List.length_map];omega:(bs.map V.int).length < 1000) (cD (by simp))) ?_
     obtain⟨H4,i4,k4,g4⟩:=wr H3 c (.lst (bs.map V.int ++ [.int (i:Int)]));rw[i4]
     walk_at "w"
     exact⟨n,bs ++ [(i:Int)],_,_,rfl,by rw[g4,List.map_append];rfl,by rw[List.length_append];simp;exact lb,eb',fun b o e=>k4 _ _ (s3 _ _ (s' _ _ e)) (bC nc e)⟩
    ·rw[if_neg (fun z=>h2 z.2),List.nil_append] at eb'
     walk_at "w"
     exact⟨n,bs,_,_,rfl,g',by omega,eb',s'.trans s3⟩
   ·rw[if_neg (fun z=>h1 z.1),List.nil_append] at eb'
    walk_at "w"
    exact⟨n,bs,_,_,rfl,g',by omega,eb',s'.trans s3⟩
  ·subst e
   rw[List.length_map,List.drop_length] at eb
   rw[show bs++bgs a' [] ns.length=bs from List.append_nil bs] at eb
   walk_at "w"
   exact k1 c _ (s1.trans s') (s1.free nc) (by rw[<-eb];exact g)
def aHl(K:W.Frag)(C:Addr):Sp:=fun vs H Q _=>∃(q:Addr) (m:MS) (t:Addr) (o d:Int) (p:Addr) (ns:List Int),vs=[.ref q,.ref t,.ref p]/\cN C H q m/\m.Good/\H t=some (.tup [.int o,.int d])/\H p=some (.lst (ns.map V.int))/\ns.length<=48/\
 flt m o d ns 0=.non/\∀H',aI H H'->Q (.int (aJ1 m o ns)) H'
theorem aHm{P:Program}{w:World}{K:PySem.W.Frag}{mg:Str->Option Value}{base:Heap}{a:iT}(tx:Txt K mg a):bL P w K mg base gF 6 a.tR a.tS ["machine","state","run"] (aHl K a.aZ):=by
 have aF3:=aEn (P:=P) (w:=w) (base:=base) tx
 refine tx.zE.ok aBO (fun vs H Q E h=>?_) (fun cdv A outer s H vs Q E hr h=>?_)
 ·obtain⟨q,m,t,o,d,p,ns,rfl,_⟩:=h
  rfl
 ·obtain⟨q,m,t,o,d,p,ns,rfl ,hm,hg,ht,hp,hl,hn,k1⟩:=h
  have hu:=jI hr
  refine Z.root (Z.aD (Z.aV (i:=3) aBO.nd rfl (Or.inl rfl) (Z.aP (rc:=vI K) cR (by rfl) tx.jQ iZ (Z.aE (Z.aF (aF3) (hr.mono (by decide)) (by rfl) tx.aAA tx.uF.kp tx.aAz .nil aQ (Z.aE (Z.pv 0) (Z.aE (Z.pv 1) (Z.aE (Z.pv 2) Z.aC)))) Z.aC)))
   (Z.aG (Z.aY (Z.aS bJ (Z.aS bJ (Z.aS bK (Z.fF (K':=K) (Z.pv 0) rfl) (Z.pv 3)) (Z.aS bK (Z.fF (K':=K) (Z.pv 0) rfl) (Z.aE0 (K':=K) (Z.pv 2) (Z.aE Z.aA Z.aC)))) (Z.aS bK (Z.fF (K':=K) (Z.pv 0) rfl) (Z.aE0 (K':=K) (Z.pv 2) (Z.aE Z.aA Z.aC))))))) ?_
  obtain⟨b0,b1⟩:=hg.begin_
  obtain⟨u0,u1⟩:=hg.run
  obtain⟨r0,r1⟩:=hg.rest
  refine aO (σ:=[some (.ref q),some (.ref t),some (.ref p),none]) rfl ?_
  walk_at "w"
  refine⟨q,m,t,o,d,p,ns,rfl,hm,ht,hp,hl,hn,fun c H1 s1 nc gc=>?_⟩
  obtain⟨dx,pl,hq,_⟩:=(hm.same s1).ex
  have hp1:=s1 _ _ hp
  walk_at "w"
  refine jB hq tx.cB tx.mV rfl ?_
  walk_at "w"
  refine jB hq tx.cB tx.rW rfl ?_
  walk_at "w"
  refine y9 (bR.of hp1) ?_
  walk_at "w"
  refine aGZ (bR.of hp1) ?_
  walk_at "w"
  refine jB hq tx.cB tx.pO rfl ?_
  walk_at "w"
  refine y9 (bR.of hp1) ?_
  walk_at "w"
  refine aGZ (bR.of hp1) ?_
  walk_at "w"
  rw[List.length_map]
  exact k1 _ s1
def Ok(m:MS):Int->Int->List Int->Prop
 |_,_,[]=>True
 |o,d,on::r=>(o=on\/d=0)/\Ok m (uV m o d on).1 (uV m o d on).2 r
def ed(m:MS):Int->Int->List Int->Int×Int
 |o,d,[]=>(o,d)
 |o,d,on::r=>ed m (uV m o d on).1 (uV m o d on).2 r
def St0(o d:Int):Prop:=Bit o/\0<=d/\d < 60
theorem St0.uV{m:MS}(g:m.Good){o d on:Int}(h:St0 o d)(b:Bit on):St0 (uV m o d on).1 (uV m o d on).2:=by
 obtain⟨h0,h1,h2⟩:=h
 refine⟨(aLF g b).1,(aLF g b).2,?_⟩
 have u:=g.up
 have v:=g.down
 unfold My.uV
 split
 ·show max (d - 1) 0 < 60;omega
 ·split
  ·show m.up - 1 < 60;omega
  ·show m.down - 1 < 60;omega
def tP(m:MS)(on:Int)(f:Int->Int->Int)(o d:Int):Int:=if o=on\/d=0 then f (uV m o d on).1 (uV m o d on).2 else 0
def tB(m:MS)(f:Int->Int->Int)(o d:Int):Int:=tP m 0 f o d+tP m 1 f o d
def one(_ _:Int):Int:=1
abbrev WP:=(Int×Int)×Int
def oR(k:Int×Int):List Key:=[.inl k.1,.inl k.2]
def enc(ps:List WP):List (List Key×V):=ps.map fun p=>(oR p.1,V.int p.2)
theorem aAU{a b:Int×Int}(h:oR a=oR b):a=b:=by
 unfold oR at h
 simp only[List.cons.injEq,Sum.inl.injEq,and_true] at h
 exact Prod.ext h.1 h.2
def xI(ps:List WP)(k:Int×Int):Option Int:=(ps.find? fun p=>decide (p.1=k)).map (·.2)
def addW(ps:List WP)(k:Int×Int)(v:Int):List WP:=if ps.any (fun p=>decide (p.1=k)) then ps.map (fun p=>if p.1=k then (p.1,v) else p) else ps ++ [(k,v)]
theorem aF4(ps:List WP)(k:Int×Int):oW (enc ps) (oR k)=(xI ps k).map V.int:=by
 unfold oW xI enc
 induction ps with
 |nil=>rfl
 |cons p r ih=>
  by_cases h:p.1=k
  ·simp[h]
  ·have:oR p.1≠oR k:=fun z=>h (aAU z)
   simp only[List.map_cons,List.find?_cons,this,h,decide_false]
   exact ih
theorem aI4(ps:List WP)(k:Int×Int)(v:Int):putK (enc ps) (oR k) (.int v)=enc (addW ps k v):=by
 unfold putK addW enc
 have e:((ps.map fun p:WP=>(oR p.1,V.int p.2)).any fun kv=>decide (kv.1=oR k))=ps.any fun p=>decide (p.1=k):=by
  rw[List.any_map]
  congr 1
  funext p
  show decide (oR p.1=oR k)=decide (p.1=k)
  exact decide_eq_decide.mpr ⟨aAU,fun z=>by rw[z]⟩
 rw[e]
 split
 ·rw[List.map_map,List.map_map]
  congr 1
  funext p
  show(if oR p.1=oR k then (oR p.1,V.int v) else (oR p.1,V.int p.2))=(oR (if p.1=k then (p.1,v) else p).1,V.int (if p.1=k then (p.1,v) else p).2)
  by_cases h:p.1=k
  ·rw[if_pos h,if_pos (by rw[h])]
  ·rw[if_neg h,if_neg fun z=>h (aAU z)]
 ·rw[List.map_append]
  rfl
def wsum(f:Int->Int->Int)(ps:List WP):Int:=List.sum (ps.map fun p=>p.2*f p.1.1 p.1.2)
theorem aFb(f:Int->Int->Int)(p:WP)(ps:List WP):wsum f (p::ps)=p.2*f p.1.1 p.1.2+wsum f ps:=rfl
theorem aLI(f:Int->Int->Int)(ps qs:List WP):wsum f (ps++qs)=wsum f ps+wsum f qs:=by
 unfold wsum
 rw[List.map_append,List.sum_append]
theorem aMW{ps:List WP}{k:Int×Int}{c:Int}(nd:(ps.map (·.1)).Nodup):((addW ps k ((xI ps k).getD 0+c)).map (·.1)).Nodup/\(∀p∈addW ps k ((xI ps k).getD 0+c),p.1=k\/∃q∈ps,q.1=p.1)/\∀f,wsum f (addW ps k ((xI ps k).getD 0+c))=wsum f ps+c*f k.1 k.2:=by
 unfold addW
 by_cases h:ps.any (fun p=>decide (p.1=k))=true
 ·rw[if_pos h]
  refine⟨?_,fun p hp=>?_,fun f=>?_⟩
  ·rw[List.map_map]
   have e:((fun p:WP=>p.1) ∘ fun p:WP=>if p.1=k then (p.1,(xI ps k).getD 0+c) else p)=fun p=>p.1:=by
    funext p
    show(if p.1=k then (p.1,(xI ps k).getD 0+c) else p).1=p.1
    split <;> rfl
   rw[e]
   exact nd
  ·obtain⟨q,hq,rfl⟩:=List.mem_map.mp hp
   refine .inr ⟨q,hq,?_⟩
   split <;> rfl
  ·have key:∀(qs:List WP),(qs.map (·.1)).Nodup->qs.any (fun p=>decide (p.1=k))=true->∀v,(xI qs k).getD 0+c=v->wsum f (qs.map fun p=>if p.1=k then (p.1,v) else p)=wsum f qs+c*f k.1 k.2:=by
    intro qs
    induction qs with
    |nil=>intro _ z;cases z
    |cons p r ih=>
     intro nd h v hv
     rw[List.map_cons,List.nodup_cons] at nd
     rw[List.map_cons,aFb,aFb]
     by_cases hp:p.1=k
     ·have hn:∀q∈r,¬q.1=k:=fun q hq z=>nd.1 (List.mem_map.mpr ⟨q,hq,by rw[z,hp]⟩)
      have e1:(r.map fun p=>if p.1=k then (p.1,v) else p)=r:=by
       conv=>rhs;rw[<-List.map_id r]
       exact List.map_congr_left fun q hq=>if_neg (hn q hq)
      have e2:xI (p::r) k=some p.2:=by unfold xI;simp[hp]
      rw[e2] at hv
      rw[e1,if_pos hp,<-hv,hp]
      show(p.2+c)*f k.1 k.2+wsum f r=_
      rw[Int.add_mul]
      omega
     ·have h':r.any (fun p=>decide (p.1=k))=true:=by simpa [hp] using h
      have e2:xI (p::r) k=xI r k:=by unfold xI;simp[hp]
      rw[e2] at hv
      rw[if_neg hp,ih nd.2 h' v hv]
      omega
   exact key ps nd h _ rfl
 ·have hn:xI ps k=none:=by
   unfold xI
   rw[Option.map_eq_none_iff,List.find?_eq_none]
   intro p hp z
   exact h (List.any_eq_true.mpr ⟨p,hp,z⟩)
  rw[if_neg h,hn]
  refine⟨?_,fun p hp=>?_,fun f=>?_⟩
  ·rw[List.map_append,List.nodup_append]
   refine⟨nd,by simp,fun a ha b hb=>?_⟩
   rw[List.map_cons,List.map_nil,List.mem_singleton] at hb
   rintro rfl
   obtain⟨q,hq,e⟩:=List.mem_map.mp ha
   exact h (List.any_eq_true.mpr ⟨q,hq,by simpa using e.trans hb⟩)
  ·rcases List.mem_append.mp hp with z|z
   ·exact .inr ⟨p,z,rfl⟩
   ·rw[List.mem_singleton.mp z];exact .inl rfl
  ·rw[aLI]
   show _+((0+c)*f k.1 k.2+0)=_
   rw[Int.zero_add,Int.add_zero]
theorem aI5:∀(n:Nat) (l:List Nat),l.Nodup->(∀x∈l,x < n)->l.length<=n
 |0,l,_,h=>by
  cases l with
  |nil=>exact Nat.le_refl _
  |cons x r=>exact absurd (h x (.head _)) (by omega)
 |n+1,l,nd,h=>by
  have:=aI5 n (l.erase n) (nd.erase n) (fun x hx=>by
   have h1:=(nd.mem_erase_iff.mp hx)
   have:=h x h1.2
   have:=h1.1
   omega)
  rw[List.length_erase] at this
  split at this <;> omega
structure aEo(ps:List WP):Prop where
 nd:(ps.map (·.1)).Nodup
 st:∀p∈ps,St0 p.1.1 p.1.2
theorem aEo.len{ps:List WP}(h:aEo ps):ps.length<=120:=by
 have:=aI5 120 ((ps.map (·.1)).map fun k=>(k.1*60+k.2).toNat) (by
  rw[List.Nodup,List.pairwise_map]
  refine h.nd.imp_of_mem ?_
  intro a b ha hb hab z
  obtain⟨p,hp,rfl⟩:=List.mem_map.mp ha
  obtain⟨q,hq,rfl⟩:=List.mem_map.mp hb
  obtain⟨a1,a2,a3⟩:=h.st p hp
  obtain⟨b1,b2,b3⟩:=h.st q hq
  refine hab (Prod.ext ?_ ?_)
  ·rcases a1 with a1|a1 <;> rcases b1 with b1|b1 <;> rw[a1,b1] <;> rw[a1,b1] at z <;> omega
  ·rcases a1 with a1|a1 <;> rcases b1 with b1|b1 <;> rw[a1,b1] at z <;> omega) (fun x hx=>by
  obtain⟨k,hk,rfl⟩:=List.mem_map.mp hx
  obtain⟨p,hp,rfl⟩:=List.mem_map.mp hk
  obtain⟨a1,a2,a3⟩:=h.st p hp
  rcases a1 with a1|a1 <;> rw[a1] <;> omega)
 simpa using this
theorem aEo.add{ps:List WP}(h:aEo ps){k:Int×Int}(hk:St0 k.1 k.2)(c:Int):aEo (addW ps k ((xI ps k).getD 0+c)):=by
 obtain⟨h1,h2,_⟩:=aMW (k:=k) (c:=c) h.nd
 refine⟨h1,fun p hp=>?_⟩
 rcases h2 p hp with z|⟨q,hq,z⟩
 ·rw[z];exact hk
 ·rw[<-z];exact h.st q hq
section
variable{α:Type}
abbrev Wy(α:Type):=Int×α×Int
def fP(f:α->Int):List (Wy α)->Int
 |[]=>0
 |[w]=>w.2.2+f w.2.1
 |w::v::r=>min (w.2.2+f w.2.1) (fP f (v::r))
theorem aBw(f:α->Int):∀{ws:List (Wy α)}{w:Wy α},w∈ws->fP f ws<=w.2.2+f w.2.1
 |[],_,h=>by cases h
 |[w],v,h=>by rw[List.mem_singleton.mp h];exact Int.le_refl _
 |w::v::r,u,h=>by
  show min _ _<=_
  rcases List.mem_cons.mp h with rfl|h
  ·omega
  ·have:=aBw f h;omega
theorem uX(f:α->Int):∀{ws:List (Wy α)},ws≠[]->∃w∈ws,w.2.2+f w.2.1=fP f ws
 |[],h=>absurd rfl h
 |[w],_=>⟨w,.head _,rfl⟩
 |w::v::r,_=>by
  obtain⟨u,hu,e⟩:=uX f (ws:=v::r) (by simp)
  by_cases h:w.2.2+f w.2.1<=fP f (v::r)
  ·exact⟨w,.head _,by show _=min _ _;omega⟩
  ·exact⟨u,List.mem_cons_of_mem _ hu,by show _=min _ _;omega⟩
theorem aJ2{f:α->Int}{ws:List (Wy α)}{m:Int}(h1:∃w∈ws,w.2.2+f w.2.1=m)(h2:∀w∈ws,m<=w.2.2+f w.2.1):m=fP f ws:=by
 obtain⟨w,hw,e⟩:=h1
 have a:=aBw f hw
 obtain⟨u,hu,e2⟩:=uX f (ws:=ws) (fun z=>by rw[z] at hw;cases hw)
 have b:=h2 u hu
 omega
def wF(W:Nat->α->List (Wy α)):Nat->Nat->α->Int
 |0,_,_=>0
 |k+1,i,x=>fP (wF W k (i+1)) (W i x)
def mY(f:α->Int)(ws:List (Wy α)):Option (Wy α):=ws.find? fun w=>decide (w.2.2+f w.2.1=fP f ws)
theorem aHn(f:α->Int){ws:List (Wy α)}(h:ws≠[]):∃w,mY f ws=some w/\w∈ws/\w.2.2+f w.2.1=fP f ws:=by
 obtain⟨u,hu,e⟩:=uX f h
 cases q:mY f ws with
 |none=>
  unfold mY at q
  rw[List.find?_eq_none] at q
  exact absurd (decide_eq_true e) (q u hu)
 |some w=>
  unfold mY at q
  exact⟨w,rfl,List.mem_of_find?_eq_some q,of_decide_eq_true (List.find?_some (p:=fun w:Wy α=>decide (w.2.2+f w.2.1=fP f ws)) q)⟩
def aAV(W:Nat->α->List (Wy α)):Nat->Nat->α->List Int
 |0,_,_=>[]
 |k+1,i,x=>match mY (wF W k (i+1)) (W i x) with
  |none=>[]
  |some w=>w.1::aAV W k (i+1) w.2.1
def aHo(W:Nat->α->List (Wy α)):Nat->α->List Int->Option Int
 |_,_,[]=>some 0
 |i,x,c::r=>match (W i x).find? fun w=>decide (w.1=c) with
  |none=>none
  |some w=>(aHo W (i+1) w.2.1 r).map (w.2.2 + ·)
structure Lay(W:Nat->α->List (Wy α))(n:Nat)(L:Nat->α->Prop):Prop where
 ne:∀i x,i < n->L i x->W i x≠[]
 on:∀i x w,i < n->L i x->w∈W i x->L (i+1) w.2.1
theorem aNi{W:Nat->α->List (Wy α)}:∀{row:List Int}{i:Nat}{x:α}{v:Int},aHo W i x row=some v->wF W row.length i x<=v
 |[],_,_,v,h=>by cases h;exact Int.le_refl _
 |c::r,i,x,v,h=>by
  unfold aHo at h
  cases q:(W i x).find? fun w=>decide (w.1=c) with
  |none=>rw[q] at h;cases h
  |some w=>
   rw[q] at h
   obtain⟨u,hu,rfl⟩:=Option.map_eq_some_iff.mp h
   have a:=aNi hu
   have b:=aBw (wF W r.length (i+1)) (List.mem_of_find?_eq_some q)
   show fP (wF W r.length (i+1)) (W i x)<=w.2.2+u
   omega
def aF5(ws:List (Wy α)):Prop:=ws.Pairwise fun a b=>a.1 < b.1
theorem aBx{ws:List (Wy α)}(h:aF5 ws){w:Wy α}(hw:w∈ws):(ws.find? fun v=>decide (v.1=w.1))=some w:=by
 induction ws with
 |nil=>cases hw
 |cons a r ih=>
  obtain⟨h1,h2⟩:=List.pairwise_cons.mp h
  rw[List.find?_cons]
  rcases List.mem_cons.mp hw with rfl|hw
  ·simp
  ·have:=h1 w hw
   rw[decide_eq_false (by omega)]
   exact ih h2 hw
theorem aI6{W:Nat->α->List (Wy α)}{n:Nat}{L:Nat->α->Prop}(hl:Lay W n L)(hr:∀i x,aF5 (W i x)):∀(k i:Nat) (x:α),i+k<=n->L i x->aHo W i x (aAV W k i x)=some (wF W k i x)/\(aAV W k i x).length=k
 |0,_,_,_,_=>⟨rfl,rfl⟩
 |k+1,i,x,hk,hx=>by
  obtain⟨w,e1,e2,e3⟩:=aHn (wF W k (i+1)) (hl.ne i x (by omega) hx)
  obtain⟨h1,h2⟩:=aI6 hl hr k (i+1) w.2.1 (by omega) (hl.on i x w (by omega) hx e2)
  have e:aAV W (k+1) i x=w.1::aAV W k (i+1) w.2.1:=by
   show(match mY (wF W k (i+1)) (W i x) with|none=>[]|some w=>w.1::aAV W k (i+1) w.2.1)=_
   rw[e1]
  rw[e]
  refine⟨?_,by rw[List.length_cons,h2]⟩
  unfold aHo
  rw[aBx (hr i x) e2]
  show Option.map (w.2.2 + ·) (aHo W (i+1) w.2.1 (aAV W k (i+1) w.2.1))=_
  rw[h1]
  show some (w.2.2+wF W k (i+1) w.2.1)=some (fP (wF W k (i+1)) (W i x))
  rw[e3]
theorem aI7{β:Type}{p:β->Bool}:∀{l:List β}{j:Nat}{w:β},l[j]?=some w->(∀x∈l.take j,p x=false)->p w=true->l.find? p=some w
 |[],_,_,h,_,_=>by simp at h
 |a::r,0,w,h,_,hp=>by
  cases h
  rw[List.find?_cons,hp]
 |a::r,j+1,w,h,hn,hp=>by
  rw[List.find?_cons,hn a (by rw[List.take_succ_cons];exact .head _)]
  exact aI7 (l:=r) (j:=j) h (fun x hx=>hn x (by rw[List.take_succ_cons];exact List.mem_cons_of_mem _ hx)) hp
end
inductive PK (α:Type) where
 |ik (f:α->Key) (inj:∀x y,f x=f y->x=y)
 |tk (f:α->List Key) (inj:∀x y,f x=f y->x=y)
def PK.pv{α:Type}:PK α->Hp->V->α->Prop
 |.ik f _,_,v,x=>v=kV (f x)
 |.tk f _,H,v,x=>∃b,v=.ref b/\H b=some (.tup ((f x).map kV))
def PK.da{α:Type}:PK α->Hp->Addr->List α->(α->Int)->Prop
 |.ik f _,H,d,ps,g=>H d=some (.dK (ps.map fun x=>(f x,.int (g x))))
 |.tk f _,H,d,ps,g=>H d=some (.dT (ps.map fun x=>(f x,.int (g x))))
section
variable{α:Type}{κ:PK α}{H H':Hp}{v:V}{x:α}{d:Addr}{ps:List α}{g g':α->Int}
theorem PK.rD(h:κ.pv H v x)(s:aI H H'):κ.pv H' v x:=by
 cases κ with
 |ik f i=>exact h
 |tk f i=>obtain⟨b,e,hb⟩:=h;exact⟨b,e,s _ _ hb⟩
theorem PK.rE(h:κ.da H d ps g)(s:aI H H'):κ.da H' d ps g:=by
 cases κ with
 |ik f i=>exact s _ _ h
 |tk f i=>exact s _ _ h
theorem vR{κ':Type}[DecidableEq κ']{f:α->κ'}(inj:∀x y,f x=f y->x=y){g:α->Int}{x:α}:∀{ps:List α},x∈ps->oW (ps.map fun x=>(f x,V.int (g x))) (f x)=some (.int (g x))
 |[],h=>by cases h
 |y::r,h=>by
  rw[List.map_cons]
  by_cases e:f y=f x
  ·rw[jV (show(f y,V.int (g y)).1=f x from e),inj _ _ e]
  ·rw[iO (show ¬(f y,V.int (g y)).1=f x from e)]
   rcases List.mem_cons.mp h with rfl|h
   ·exact absurd rfl e
   ·exact vR inj h
theorem aFc{κ':Type}[DecidableEq κ']{f:α->κ'}(inj:∀x y,f x=f y->x=y){g:α->Int}{x:α}:∀{ps:List α},x∉ps->oW (ps.map fun x=>(f x,V.int (g x))) (f x)=none
 |[],_=>rfl
 |y::r,h=>by
  rw[List.map_cons,iO (show ¬(f y,V.int (g y)).1=f x from fun z=>h (by rw[inj _ _ z];exact .head _))]
  exact aFc inj fun z=>h (List.mem_cons_of_mem _ z)
theorem PK.get(h:κ.da H d ps g)(hv:κ.pv H v x)(hx:x∈ps):oX H d v (some (.int (g x))):=by
 cases κ with
 |ik f i=>
  have hv':v=kV (f x):=hv
  subst hv'
  have z:=oX.k (k:=f x) (show H d=some (.dK _) from h)
  rw[vR i hx] at z
  exact z
 |tk f i=>
  obtain⟨b,rfl,hb⟩:=hv
  have z:=oX.t (show H d=some (.dT _) from h) hb
  rw[vR i hx] at z
  exact z
theorem aCM{κ':Type}[DecidableEq κ']{f:α->κ'}(inj:∀x y,f x=f y->x=y){g:α->Int}{x:α}{ps:List α}(hx:x∉ps):putK (ps.map fun x=>(f x,V.int (g x))) (f x) (.int (g x))=(ps ++ [x]).map fun x=>(f x,V.int (g x)):=by
 unfold putK
 rw[aAa,aFc inj hx,List.map_append]
 rfl
theorem PK.put(h:κ.da H d ps g)(hv:κ.pv H v x)(hx:x∉ps)(hl:ps.length < 1000000):∃H',aBe H d v (.int (g x)) H'/\κ.da H' d (ps ++ [x]) g/\bX d H H':=by
 have lt:ps.length < sizeLine:=Nat.lt_of_lt_of_le hl (cD (by decide))
 cases κ with
 |ik f i=>
  have hv':v=kV (f x):=hv
  subst hv'
  refine⟨_,aBe.k (k:=f x) (show H d=some (.dK _) from h) (by rw[List.length_map];exact lt),?_,bX.upd⟩
  show upd H d _ d=_
  rw[aH,aCM i hx]
 |tk f i=>
  obtain⟨b,rfl,hb⟩:=hv
  refine⟨_,aBe.t (show H d=some (.dT _) from h) hb (by rw[List.length_map];exact lt),?_,bX.upd⟩
  show upd H d _ d=_
  rw[aH,aCM i hx]
theorem PK.new{σ:St}{Q:VK}(κ:PK α)(g:α->Int)(h:∀p H',H p=none->aI H H'->κ.da H' p [] g->Q (.ref p) H'):aDd σ H Q:=by
 cases κ with
 |ik f i=>exact aE3 fun p np=>h p _ np (aI.new np) aH
 |tk f i=>exact aBp fun p np=>h p _ np (aI.new np) aH
theorem PK.aLJ{xs:List V}(h:κ.da H d ps g)(e:H d=some (.lst xs)):False:=by
 cases κ with
 |ik f i=>have h':H d=some (.dK _):=h;rw[e] at h';cases h'
 |tk f i=>have h':H d=some (.dT _):=h;rw[e] at h';cases h'
def aAW(κ:PK α)(H:Hp)(a:Addr)(w:Wy α):Prop:=∃v,H a=some (.tup [.int w.1,v,.int w.2.2])/\κ.pv H v w.2.1
theorem aAW.same{a:Addr}{w:Wy α}(h:aAW κ H a w)(s:aI H H'):aAW κ H' a w:=let ⟨v,e,p⟩:=h;⟨v,s _ _ e,κ.rD p s⟩
structure uY(κ:PK α)(H:Hp)(l:Addr)(ws:List (Wy α)):Prop where
 ex:∃as,H l=some (.lst (as.map V.ref))/\RL (aAW κ H) as ws
theorem uY.same{l:Addr}{ws:List (Wy α)}(h:uY κ H l ws)(s:aI H H'):uY κ H' l ws:=let ⟨as,e,r⟩:=h.ex;⟨as,s _ _ e,r.imp fun _ _ z=>z.same s⟩
structure xJ(κ:PK α)(C:Addr->Sp->Prop)(H:Hp)(f:Addr)(W:Nat->α->List (Wy α))(L:Nat->α->Prop):Prop where
 ex:∃spc,C f spc/\∀(H':Hp) (h:Nat) (v:V) (x:α) (Q:VK),aI H H'->L h x->κ.pv H' v x->(∀l H'',aI H' H''->uY κ H'' l (W h x)->Q (.ref l) H'')->spc [.int (h:Int),v] H' Q E0
theorem xJ.same{C:Addr->Sp->Prop}{f:Addr}{W:Nat->α->List (Wy α)}{L:Nat->α->Prop}(h:xJ κ C H f W L)(s:aI H H'):xJ κ C H' f W L:=
 let ⟨spc,c,p⟩:=h.ex;⟨spc,c,fun H2 a v x Q s2=>p H2 a v x Q (s.trans s2)⟩
def PVs(κ:PK α)(H:Hp)(vs:List V)(ps:List α):Prop:=vs.length=ps.length/\∀(i:Nat) v x,vs[i]?=some v->ps[i]?=some x->κ.pv H v x
theorem PVs.same{vs:List V}(h:PVs κ H vs ps)(s:aI H H'):PVs κ H' vs ps:=⟨h.1,fun i v x h1 h2=>κ.rD (h.2 i v x h1 h2) s⟩
theorem PVs.get{vs:List V}(h:PVs κ H vs ps){i:Nat}{v:V}(e:vs[i]?=some v):∃x,ps[i]?=some x/\κ.pv H v x:=by
 have li:i < ps.length:=by rw[<-h.1];exact(List.getElem?_eq_some_iff.mp e).1
 exact⟨_,List.getElem?_eq_getElem li,h.2 i v _ e (List.getElem?_eq_getElem li)⟩
end
theorem kO{α:Type}{l:List α}{i:Nat}{x:α}(h:l[i]?=some x):l.take (i+1)=l.take i ++ [x]:=by rw[List.take_add_one,h];rfl
theorem RL.gt{α:Type}{P:Addr->α->Prop}{as:List Addr}{xs:List α}(h:RL P as xs){i:Nat}{v:V}(hv:(as.map V.ref)[i]?=some v):∃a x,as[i]?=some a/\v=.ref a/\xs[i]?=some x/\P a x:=by
 rw[List.getElem?_map] at hv
 obtain⟨a,e,rfl⟩:=Option.map_eq_some_iff.mp hv
 have li:i < xs.length:=by rw[<-h.len];exact(List.getElem?_eq_some_iff.mp e).1
 exact⟨a,xs[i],e,rfl,List.getElem?_eq_getElem li,h.at_ i a _ e (List.getElem?_eq_getElem li)⟩
def aHp(K:W.Frag):Sp:=fun vs H Q _=>∃(α:Type) (κ:PK α) (l d:Addr) (ws:List (Wy α)) (ps:List α) (g:α->Int),vs=[.ref l,.ref d]/\uY κ H l ws/\κ.da H d ps g/\ws≠[]/\ws.length<=10000/\(∀w∈ws,w.2.1∈ps)/\
 ∀H',aI H H'->Q (.int (fP g ws)) H'
theorem aB4{P:Program}{w:World}{K:PySem.W.Frag}{mg:Str->Option Value}{base:Heap}{a:iT}(tx:Txt K mg a):bL P w K mg base gF 1 a.tT a.tU ["ways","behind"] (aHp K):=by
 refine tx.uG.ok aG9 (fun vs H Q E h=>?_) (fun cdv A outer s H vs Q E hr h=>?_)
 ·obtain⟨α,κ,l,d,ws,ps,g,rfl,_⟩:=h
  rfl
 ·obtain⟨α,κ,l,d,ws,ps,g,rfl ,hw,hd,hne,hlen,hin,k⟩:=h
  have hu:=jI hr
  refine Z.root (Z.aG (Z.aY (Z.aP (rc:=aLt K) (aJS rfl) (by rfl) tx.pQ rM (Z.aE (Z.fE (k:=3) (idx:=[1]) (N:=["choice","later","worth","behind"]) (cQ (sc:=aB jC) (NX:=["ways","behind"]) rfl rfl rfl (by decide +kernel)) rfl (Z.cV (K':=K) (Z.pv 0)) (fun _ _ _ _=>(Z.eK (K':=K) (n:=3) rfl (Z.bD (Z.aT (i:=0) (show(["choice","later","worth","behind"]:List Str).Nodup by decide +kernel) rfl (Or.inl rfl)) (Z.bD (Z.aT (i:=1) (show(["choice","later","worth","behind"]:List Str).Nodup by decide +kernel) rfl (Or.inl rfl)) (Z.bD (Z.aT (i:=2) (show(["choice","later","worth","behind"]:List Str).Nodup by decide +kernel) rfl (Or.inl rfl)) Z.dZ))))) (aAc (d7 (by decide) (d7 (by decide) (d7 (by decide) vV)))) (fun _ _ _ _=>Z.dG) (fun _ _ _ _=>(Z.aS bJ (Z.pv 2) (Z.sD hu (Z.pv 3) (Z.pv 1))))) Z.aC)))) ?_
  obtain⟨as,gl,rl⟩:=hw.ex
  have las:=rl.len
  refine aO (σ:=[some (.ref l),some (.ref d)]) rfl ?_
  walk_at "w"
  refine mL (bR.of gl) ?_
  refine gR (xs:=as.map V.ref) (fun j us H'=>H'=H/\us=(((ws.take j).map fun w=>w.2.2+g w.2.1).map V.int)) ⟨rfl,rfl⟩ (cD (by rw[List.length_map];omega))
   (fun j us H' hj ⟨e0,e1⟩=>⟨by rw[e0];exact bR.of gl,by rw[e1,List.length_map,List.length_map,List.length_take];omega⟩) (fun j v us H' hv ⟨e0,e1⟩=>?_) (fun us H' ⟨e0,e1⟩=>?_)
  ·subst e0
   obtain⟨a1,w,ea,rfl,ew,vv,g1,hp⟩:=rl.gt hv
   refine eJ (kR.of g1) rfl ?_
   walk_at "w"
   refine⟨d,_,rfl,κ.get hd hp (hin w (List.mem_of_getElem? ew)),?_⟩
   walk_at "w"
   refine⟨rfl,?_⟩
   rw[e1,kO ew,List.map_append,List.map_append]
   rfl
  subst e0 e1
  rw[List.length_map,las,List.take_length]
  intro l2 n2
  obtain⟨H2,i2,s2,g2⟩:=nw _ n2;rw[i2]
  walk_at "w"
  refine aMR (bR.of g2) (by simpa using hne) fun m hm hle=>?_
  have e:m=fP g ws:=aJ2 (by
   obtain⟨w,hw,e⟩:=List.mem_map.mp hm
   exact⟨w,hw,e⟩) fun w hw=>hle _ (List.mem_map.mpr ⟨w,hw,rfl⟩)
  rw[e]
  exact k H2 s2
def aCi(K:PySem.W.Frag)(C:Addr->Sp->Prop):Sp:=fun vs H Q _=>∃(α:Type) (κ:PK α) (lp d f:Addr) (h:Nat) (us:List V) (ps bs:List α) (g:α->Int) (W:Nat->α->List (Wy α)) (L:Nat->α->Prop),vs=[.ref lp,.int (h:Int),.ref d,.ref f]/\
 H lp=some (.lst us)/\PVs κ H us ps/\ps.Nodup/\ps.length<=10000/\κ.da H d bs g/\xJ κ C H f W L/\(∀x∈ps,L h x/\W h x≠[]/\(W h x).length<=10000/\∀w∈W h x,w.2.1∈bs)/\
 ∀q H',aI H H'->H q=none->κ.da H' q ps (fun x=>fP g (W h x))->Q (.ref q) H'
theorem aCj{P:Program}{w:World}{K:PySem.W.Frag}{mg:Str->Option Value}{base:Heap}{a:iT}(tx:Txt K mg a):bL P w K mg base gF 10 a.kE a.kF ["places","hour","behind","ways_at"] (aCi K (Clo P w K mg base (8+1))):=by
 have zM:=aB4 (P:=P) (w:=w) (base:=base) tx
 refine tx.pE.ok mP (fun vs H Q E h=>?_) (fun cdv A outer s H vs Q E hr h=>?_)
 ·obtain⟨α,κ,lp,d,f,h,us,ps,bs,g,W,L,rfl,_⟩:=h
  rfl
 ·obtain⟨α,κ,lp,d,f,h,us,ps,bs,g,W,L,rfl ,gl,hpv,hnd,hlen,hd,hW,hon,k⟩:=h
  have hu:=jI hr
  refine Z.root (Z.aD (Z.aV (i:=4) mP.nd rfl (Or.inl rfl) Z.o8)
   (Z.aD (Z.cO PassesOwn.never rfl (Z.cV (K':=K) (Z.pv 0)) (Z.aT (i:=5) mP.nd rfl (Or.inl rfl)) (Z.aG (Z.tF hu (Z.pv 4) (Z.pv 5) (Z.aF (zM) (hr.mono (by decide)) (by rfl) tx.zG tx.uG.kp tx.zF .nil aQ (Z.aE (Z.aG5 (P:=P) (w:=w) (K:=K) (mg:=mg) (base:=base) (i:=3) (k:=8+1) (hr.mono (by decide)) (Z.aE (Z.pv 1) (Z.aE (Z.pv 5) Z.aC))) (Z.aE (Z.pv 2) Z.aC))))))
   (Z.aG (Z.aY (Z.pv 4))))) ?_
  obtain⟨spc,hC,hp⟩:=hW.ex
  have lus:=hpv.1
  refine aO (σ:=[some (.ref lp),some (.int (h:Int)),some (.ref d),some (.ref f),none,none]) rfl ?_
  walk_at "w"
  refine κ.new (fun x=>fP g (W h x)) fun wd H1 nwd s1 dw=>?_
  walk_at "w"
  refine mL (bR.of (s1 _ _ gl)) ?_
  refine xT (xs:=us) (fun i σ' H'=>aI H H'/\κ.da H' wd (ps.take i) (fun x=>fP g (W h x))/\∃z,σ'=[some (.ref lp),some (.int (h:Int)),some (.ref d),some (.ref f),some (.ref wd),z]) ⟨s1,dw,_,rfl⟩
   (fun i σ' H' hi ⟨s',_⟩=>bR.of (s' _ _ gl)) (fun i v σ' H' hv ⟨s',dw',z,e⟩=>?_) (fun σ' H' ⟨s',dw',z,e⟩=>?_)
  ·subst e
   obtain⟨x,ex,px⟩:=hpv.get hv
   obtain⟨o1,o2,o3,o4⟩:=hon x (List.mem_of_getElem? ex)
   walk_at "w"
   refine aG4 rfl hC ?_
   walk_at "w"
   refine hp H' h v x _ s' o1 (κ.rD px s') fun l H2 s2 hws=>?_
   have s02:=s'.trans s2
   walk_at "w"
   refine⟨α,κ,l,d,W h x,bs,g,rfl,hws,κ.rE hd s02,o2,o3,o4,fun H3 s3=>?_⟩
   have s03:=s02.trans s3
   walk_at "w"
   have nx:x∉ps.take i:=fun z=>by
    have hi:i < ps.length:=(List.getElem?_eq_some_iff.mp ex).1
    obtain⟨j,hj,ej⟩:=List.getElem_of_mem z
    rw[List.length_take] at hj
    rw[List.getElem_take] at ej
    have e2:ps[i]=x:=(List.getElem?_eq_some_iff.mp ex).2
    have:=(List.getElem_inj hnd).mp (ej.trans e2.symm)
    omega
   obtain⟨H4,p4,d4,k4⟩:=κ.put (κ.rE dw' (s2.trans s3)) (κ.rD px s03) nx (by rw[List.length_take];omega)
   refine⟨wd,H4,rfl,p4,?_⟩
   walk_at "w"
   refine⟨fun b o e=>k4 _ _ (s03 _ _ e) (bC nwd e),?_,_,rfl⟩
   rw[kO ex]
   exact d4
  ·subst e
   walk_at "w"
   rw[lus,List.take_length] at dw'
   exact k wd H' s' nwd dw'
structure aHq{α:Type}(κ:PK α)(H:Hp)(a:Addr)(Ls:List (List α)):Prop where
 ex:∃as,H a=some (.lst (as.map V.ref))/\RL (fun b ps=>∃us,H b=some (.lst us)/\PVs κ H us ps) as Ls
theorem aHq.same{α:Type}{κ:PK α}{H H':Hp}{a:Addr}{Ls:List (List α)}(h:aHq κ H a Ls)(s:aI H H'):aHq κ H' a Ls:=
 let ⟨as,e,r⟩:=h.ex;⟨as,s _ _ e,r.imp fun _ _ ⟨us,e,p⟩=>⟨us,s _ _ e,p.same s⟩⟩
structure aIp{α:Type}(κ:PK α)(H:Hp)(a:Addr)(Ls:List (List α))(F:Nat->α->Int):Prop where
 ex:∃ds:List Addr,H a=some (.lst (ds.map V.ref))/\ds.length=Ls.length/\∀(i:Nat) d ps,ds[i]?=some d->Ls[i]?=some ps->κ.da H d ps (F i)
theorem aIp.same{α:Type}{κ:PK α}{H H':Hp}{a:Addr}{Ls:List (List α)}{F:Nat->α->Int}(h:aIp κ H a Ls F)(s:aI H H'):aIp κ H' a Ls F:=
 let ⟨ds,e,l,r⟩:=h.ex;⟨ds,s _ _ e,l,fun i d ps h1 h2=>κ.rE (r i d ps h1 h2) s⟩
structure aI8{α:Type}(W:Nat->α->List (Wy α))(Ls:List (List α)):Prop where
 pos:0 < Ls.length
 nd:∀ps∈Ls,ps.Nodup
 few:∀ps∈Ls,ps.length<=10000
 ne:∀(i:Nat) ps x,Ls[i]?=some ps->i+1 < Ls.length->x∈ps->W i x≠[]/\(W i x).length<=10000
 on:∀(i:Nat) ps qs x w,Ls[i]?=some ps->Ls[i+1]?=some qs->x∈ps->w∈W i x->w.2.1∈qs
theorem aGC{xs:List V}(h:0 < xs.length):xP xs (-1)=xs[xs.length - 1]?:=by
 have e:ixN xs.length (-1)=some (xs.length - 1):=by
  unfold ixN
  rw[if_neg (by omega),if_pos (by omega)]
  congr 1
  omega
 unfold xP
 rw[e]
 rfl
theorem PK.aI9{α:Type}{κ:PK α}{H H':Hp}{d p:Addr}{ps:List α}{g:α->Int}(h:κ.da H d ps g)(n:d≠p)(k:bX p H H'):κ.da H' d ps g:=by
 cases κ with
 |ik f i=>exact k _ _ h n
 |tk f i=>exact k _ _ h n
theorem PK.aF6{α:Type}{κ:PK α}{H H':Hp}{v:V}{x:α}{p:Addr}{xs:List V}(h:κ.pv H v x)(gp:H p=some (.lst xs))(k:bX p H H'):κ.pv H' v x:=by
 cases κ with
 |ik f i=>exact h
 |tk f i=>
  obtain⟨b,e,hb⟩:=h
  exact⟨b,e,k _ _ hb fun z=>by rw[z,gp] at hb;cases hb⟩
theorem aDz{as:List Addr}{i:Nat}{a:Addr}(h:as[i]?=some a):(as.map V.ref)[i]?=some (.ref a):=by rw[List.getElem?_map,h];rfl
def kP(K:PySem.W.Frag)(C:Addr->Sp->Prop):Sp:=fun vs H Q _=>∃(α:Type) (κ:PK α) (la f:Addr) (Ls:List (List α)) (W:Nat->α->List (Wy α)) (L:Nat->α->Prop),vs=[.ref la,.ref f]/\aHq κ H la Ls/\aI8 W Ls/\Ls.length<=10000/\xJ κ C H f W L/\
 (∀(i:Nat) ps x,Ls[i]?=some ps->i+1 < Ls.length->x∈ps->L i x)/\∀q H',aI H H'->H q=none->aIp κ H' q Ls (fun i=>wF W (Ls.length - 1 - i) i)->Q (.ref q) H'
theorem rF{P:Program}{w:World}{K:PySem.W.Frag}{mg:Str->Option Value}{base:Heap}{a:iT}(tx:Txt K mg a):bL P w K mg base gF 11 a.iC a.iD ["layers","ways_at"] (kP K (Clo P w K mg base (8+1))):=by
 have aDA:=aCj (P:=P) (w:=w) (base:=base) tx
 refine tx.iK.ok dB (fun vs H Q E h=>?_) (fun cdv A outer s H vs Q E hr h=>?_)
 ·obtain⟨α,κ,la,f,Ls,W,L,rfl,_⟩:=h
  rfl
 ·obtain⟨α,κ,la,f,Ls,W,L,rfl ,hla,hok,hlen,hW,hL,k⟩:=h
  have hu:=jI hr
  refine Z.root (Z.aD (Z.aV (i:=2) dB.nd rfl (Or.inl rfl) Z.o8)
   (Z.aD (Z.cO PassesOwn.never rfl (Z.cV (K':=K) (Z.aJ (K':=K) (Z.pv 0) (Z.aBG aBa Z.aA) (fun _ _=>rfl))) (Z.aT (i:=3) dB.nd rfl (Or.inl rfl)) (Z.aG (Z.tF hu (Z.pv 2) (Z.pv 3) Z.aA)))
   (Z.aD (Z.aV (i:=4) dB.nd rfl (Or.inl rfl) (Z.aFu (Z.pv 2)))
   (Z.aD (Z.cO PassesOwn.never rfl (Z.aBq (by rfl) tx.dI (Z.aE (Z.aS eQ (Z.aP (rc:=vI K) cR (by rfl) tx.jQ iZ (Z.aE (Z.pv 0) Z.aC)) Z.aA) (Z.aE (Z.aBG aBa Z.aA) (Z.aE (Z.aBG aBa Z.aA) Z.aC)))) (Z.aT (i:=5) dB.nd rfl (Or.inl rfl)) (Z.aD (Z.aV (i:=2) dB.nd rfl (Or.inl rfl) (Z.aF (aDA) (hr.mono (by decide)) (by rfl) tx.wW tx.pE.kp tx.wV .nil aQ (Z.aE (Z.aJ (K':=K) (Z.pv 0) (Z.pv 5) (fun _ _=>rfl)) (Z.aE (Z.pv 5) (Z.aE (Z.pv 2) (Z.aE (Z.pv 1) Z.aC))))))
   (Z.aG (Z.pW (Z.aAf (K':=K) (Z.pv 4) (Z.aE (Z.pv 2) Z.aC))))))
   (Z.aG (Z.aY (Z.zB rfl (by rfl) tx.jH (by rfl) tx.lI (Z.aE (Z.pv 4) Z.aC)))))))) ?_
  obtain⟨as,ga,ra⟩:=hla.ex
  have las:=ra.len
  have pos:=hok.pos
  obtain⟨n,hn⟩ : ∃n,Ls.length=n+1:=⟨Ls.length - 1,by omega⟩
  have el:as[n]?=some as[n]:=List.getElem?_eq_getElem (by omega)
  have ll:Ls[n]?=some Ls[n]:=List.getElem?_eq_getElem (by omega)
  obtain⟨us,gu,pu⟩:=ra.at_ n _ _ el ll
  generalize as[n]=an at el gu
  generalize Ls[n]=pn at ll pu
  have lpn:=hok.few pn (List.mem_of_getElem? ll)
  have ndn:=hok.nd pn (List.mem_of_getElem? ll)
  have lus:=pu.1
  have ai:xP (as.map V.ref) (-1)=some (.ref an):=by
   rw[aGC (by rw[List.length_map];omega),List.length_map,las,hn,Nat.add_sub_cancel]
   exact aDz el
  refine aO (σ:=[some (.ref la),some (.ref f),none,none,none,none]) rfl ?_
  walk_at "w"
  refine κ.new (fun _=>0) fun bd H1 nbd s1 db=>?_
  have ga1:=s1 _ _ ga
  walk_at "w"
  refine mL (bR.of (s1 _ _ gu)) ?_
  refine xT (xs:=us) (fun i σ' H'=>aI H H'/\κ.da H' bd (pn.take i) (fun _=>0)/\∃z,σ'=[some (.ref la),some (.ref f),some (.ref bd),z,none,none]) ⟨s1,db,_,rfl⟩
   (fun i σ' H' hi ⟨s',_⟩=>bR.of (s' _ _ gu)) (fun i v σ' H' hv ⟨s',dw',z,e⟩=>?_) (fun σ' H2 ⟨s2,d2,z,e⟩=>?_)
  ·subst e
   obtain⟨x,ex,px⟩:=pu.get hv
   walk_at "w"
   have nx:x∉pn.take i:=fun z=>by
    obtain⟨j,hj,ej⟩:=List.getElem_of_mem z
    rw[List.length_take] at hj
    rw[List.getElem_take] at ej
    have e2:pn[i]'((List.getElem?_eq_some_iff.mp ex).1)=x:=(List.getElem?_eq_some_iff.mp ex).2
    have:=(List.getElem_inj ndn).mp (ej.trans e2.symm)
    omega
   obtain⟨H4,p4,d4,k4⟩:=κ.put dw' (κ.rD px s') nx (by rw[List.length_take];omega)
   refine⟨bd,H4,rfl,p4,?_⟩
   walk_at "w"
   refine⟨fun b o e=>k4 _ _ (s' _ _ e) (bC nbd e),?_,_,rfl⟩
   rw[kO ex]
   exact d4
  ·subst e
   rw[lus,List.take_length] at d2
   have ga2:=s2 _ _ ga
   walk_at "w"
   intro lw nlw
   obtain⟨H3,i3,s3,g3⟩:=nw _ nlw;rw[i3]
   have s03:=s2.trans s3
   have ga3:=s03 _ _ ga
   have nlH:H lw=none:=s2.free nlw
   walk_at "w"
   refine⟨_,_,rfl,by rw[List.length_map,las];omega,?_⟩
   rw[show(((as.map V.ref).length:Int) - 2 - -1).toNat=n by rw[List.length_map,las,hn];omega]
   refine aMS (n:=n) (fun i σ' H'=>aI H H'/\(∃ds:List Addr,H' lw=some (.lst (ds.map V.ref))/\ds.length=i+1/\(∃d,ds[i]?=some d/\σ'[2]?=some (some (.ref d)))/\∀(j:Nat) d ps,ds[j]?=some d->Ls[n - j]?=some ps->κ.da H' d ps (wF W j (n - j)))/\∃b z5,σ'=[some (.ref la),some (.ref f),some (.ref b),z,some (.ref lw),z5])
    ⟨s03,⟨[bd],g3,rfl,⟨bd,rfl,rfl⟩,fun j d ps h1 h2=>?_⟩,_,_,rfl⟩ (fun i σ' H' hi ⟨s',⟨ds,gd,ld,⟨d,ed,e2⟩,hd⟩,b,z5,e⟩=>?_) (fun σ' H' ⟨s',⟨ds,gd,ld,⟨d,ed,e2⟩,hd⟩,b,z5,e⟩=>?_)
   ·match j,h1 with
    |0,h1=>
     cases h1
     rw[Nat.sub_zero,ll] at h2
     cases h2
     exact κ.rE d2 s3
    |j+1,h1=>simp at h1
   ·subst e
    have e2':some (some (V.ref b))=some (some (.ref d)):=e2
    cases e2'
    have hh:(((as.map V.ref).length:Int) - 2 - (i:Int))=((n - 1 - i:Nat):Int):=by rw[List.length_map,las,hn];omega
    rw[hh]
    have ea:as[n - 1 - i]?=some as[n - 1 - i]:=List.getElem?_eq_getElem (by omega)
    have eL:Ls[n - 1 - i]?=some Ls[n - 1 - i]:=List.getElem?_eq_getElem (by omega)
    have eL2:Ls[n - i]?=some Ls[n - i]:=List.getElem?_eq_getElem (by omega)
    obtain⟨us',gu',pu'⟩:=ra.at_ _ _ _ ea eL
    generalize as[n - 1 - i]=ax at ea gu'
    generalize Ls[n - 1 - i]=px at eL pu'
    have db':=hd i d _ ed eL2
    generalize Ls[n - i]=qx at eL2 db'
    have ga':=s' _ _ ga
    have ix:xP (as.map V.ref) ((n - 1 - i:Nat):Int)=some (.ref ax):=gQ (aDz ea)
    walk_at "w"
    have e1:n - 1 - i+1=n - i:=by omega
    refine⟨α,κ,ax,d,f,n - 1 - i,us',px,qx,wF W i (n - i),W,L,rfl,s' _ _ gu',pu'.same s',hok.nd px (List.mem_of_getElem? eL),hok.few px (List.mem_of_getElem? eL),db',hW.same s',fun x hx=>?_,fun q H4 s4 nq dq=>?_⟩
    ·obtain⟨n1,n2⟩:=hok.ne _ px x eL (by omega) hx
     exact⟨hL _ px x eL (by omega) hx,n1,n2,fun w hw=>hok.on _ px qx x w eL (by rw[e1];exact eL2) hx hw⟩
    have gd4:=s4 _ _ gd
    walk_at "w"
    refine y9 (bR.of gd4) ?_
    walk_at "w"
    refine aCT (xs:=ds.map V.ref) gd4 (Nat.lt_of_lt_of_le (by rw[List.length_map];omega:(ds.map V.ref).length < 20000) (cD (by decide))) ?_
    obtain⟨H5,i5,k5,g5⟩:=wr H4 lw _;rw[i5]
    walk_at "w"
    refine⟨fun b o e=>k5 _ _ (s4 _ _ (s' _ _ e)) (bC nlH e),⟨ds ++ [q],by rw[g5,List.map_append];rfl,by rw[List.length_append,ld];rfl,⟨q,by rw[List.getElem?_append_right (by omega),ld,Nat.sub_self];rfl,rfl⟩,fun j d ps h1 h2=>?_⟩,_,_,rfl⟩
    by_cases hj:j < i+1
    ·rw[List.getElem?_append_left (by omega)] at h1
     have z:=κ.rE (hd j d ps h1 h2) s4
     exact κ.aI9 z (fun y=>κ.aLJ z (by rw[y];exact gd4)) k5
    ·have hj2:j < (ds ++ [q]).length:=(List.getElem?_eq_some_iff.mp h1).1
     rw[List.length_append,List.length_singleton] at hj2
     obtain rfl:j=i+1:=by omega
     rw[List.getElem?_append_right (by omega),ld,Nat.sub_self] at h1
     cases h1
     rw[show n - (i+1)=n - 1 - i by omega,eL] at h2
     cases h2
     have z:=κ.aI9 dq (fun y=>κ.aLJ dq (by rw[y];exact gd4)) k5
     have ee:(fun x=>fP (wF W i (n - i)) (W (n - 1 - i) x))=wF W (i+1) (n - (i+1)):=by
      rw[show n - (i+1)=n - 1 - i by omega]
      funext x
      show _=fP (wF W i (n - 1 - i+1)) (W (n - 1 - i) x)
      rw[e1]
     rw[<-ee]
     exact z
   ·subst e
    walk_at "w"
    refine⟨lw,_,rfl,gd,fun q nq=>?_⟩
    obtain⟨H5,i5,s5,g5⟩:=nw _ nq;rw[i5]
    walk_at "w"
    refine k q H5 (s'.trans s5) (s'.free nq) ⟨⟨ds.reverse,by rw[g5,List.map_reverse],by rw[List.length_reverse,ld,hn],fun i d ps h1 h2=>?_⟩⟩
    have hi:i < ds.length:=by rw[<-List.length_reverse];exact(List.getElem?_eq_some_iff.mp h1).1
    rw[List.getElem?_reverse hi] at h1
    have z:=hd _ d ps h1 (by rw[show n - (ds.length - 1 - i)=i by omega];exact h2)
    rw[show n - (ds.length - 1 - i)=i by omega,show ds.length - 1 - i=Ls.length - 1 - i by omega] at z
    exact κ.rE z s5
def aEp(K:W.Frag):Sp:=fun vs H Q _=>∃(α:Type) (κ:PK α) (l d:Addr) (ws:List (Wy α)) (ps:List α) (g:α->Int),vs=[.ref l,.ref d]/\uY κ H l ws/\κ.da H d ps g/\ws≠[]/\ws.length<=10000/\(∀w∈ws,w.2.1∈ps)/\
 ∀a w H',aI H H'->mY g ws=some w->aAW κ H' a w->Q (.ref a) H'
theorem aEq{P:Program}{w:World}{K:PySem.W.Frag}{mg:Str->Option Value}{base:Heap}{a:iT}(tx:Txt K mg a):bL P w K mg base gF 2 a.nV a.nW ["ways","behind"] (aEp K):=by
 have zM:=aB4 (P:=P) (w:=w) (base:=base) tx
 refine tx.uH.ok yL (fun vs H Q E h=>?_) (fun cdv A outer s H vs Q E hr h=>?_)
 ·obtain⟨α,κ,l,d,ws,ps,g,rfl,_⟩:=h
  rfl
 ·obtain⟨α,κ,l,d,ws,ps,g,rfl ,hw,hd,hne,hlen,hin,k⟩:=h
  have hu:=jI hr
  refine Z.root (Z.aD (Z.aV (i:=2) yL.nd rfl (Or.inr rfl) (Z.aF (zM) (hr.mono (by decide)) (by rfl) tx.zG tx.uG.kp tx.zF .nil aQ (Z.aE (Z.pv 0) (Z.aE (Z.pv 1) Z.aC))))
   (Z.aG (Z.aY (Z.aJ (K':=K) (Z.fE (k:=1) (idx:=[1,2]) (N:=["way","behind","least"]) (cQ (sc:=aB fH) (NX:=["ways","behind","least"]) rfl rfl rfl (by decide +kernel)) rfl (Z.cV (K':=K) (Z.pv 0)) (fun _ _ _ _=>(Z.aT (i:=0) (show(["way","behind","least"]:List Str).Nodup by decide +kernel) rfl (Or.inl rfl))) (eB (by decide)) (fun _ _ _ _=>(Z.aCw (Z.bE (r:=oZ K) (eF hu) (Z.aS bJ (Z.aJ (K':=K) (Z.pv 0) Z.aA (fun _ _=>rfl)) (Z.sD hu (Z.pv 1) (Z.aJ (K':=K) (Z.pv 0) Z.aA (fun _ _=>rfl)))) (Z.pv 2) (bI _)))) (fun _ _ _ _=>(Z.pv 0))) Z.aA (fun _ _=>rfl))))) ?_
  refine aO (σ:=[some (.ref l),some (.ref d),none]) rfl ?_
  walk_at "w"
  refine⟨α,κ,l,d,ws,ps,g,rfl,hw,hd,hne,hlen,hin,fun H1 s1=>?_⟩
  obtain⟨as,gl,rl⟩:=(hw.same s1).ex
  have las:=rl.len
  have hd1:=κ.rE hd s1
  walk_at "w"
  refine mL (bR.of gl) ?_
  refine gR (xs:=as.map V.ref) (fun j us H'=>H'=H1/\us.length<=j/\(us=[]->∀w∈ws.take j,¬w.2.2+g w.2.1=fP g ws)/\∀u,us[0]?=some u->∃a w,u=.ref a/\mY g ws=some w/\aAW κ H1 a w) ⟨rfl,Nat.le_refl _,(fun _ w hw=>by simp at hw),(fun u hu=>by simp at hu)⟩ (cD (by rw[List.length_map];omega))
   (fun j us H' hj ⟨e0,e1,_⟩=>⟨by rw[e0];exact bR.of gl,e1⟩) (fun j v us H' hv ⟨e0,e1,e2,e3⟩=>?_) (fun us H' ⟨e0,e1,e2,e3⟩=>?_)
  ·subst e0
   obtain⟨a1,w,ea,rfl,ew,vv,g1,hp⟩:=rl.gt hv
   walk_at "w"
   refine⟨d,_,rfl,κ.get hd1 hp (hin w (List.mem_of_getElem? ew)),?_⟩
   walk_at "w"
   refine cA (fun h=>?_) (fun h=>?_)
   ·walk_at "w"
    refine⟨rfl,by rw[List.length_append,List.length_singleton];omega,(fun z=>by simp at z),fun u hu=>?_⟩
    cases us with
    |nil=>
     cases hu
     refine⟨a1,w,rfl,?_,vv,g1,hp⟩
     unfold mY
     exact aI7 ew (fun x hx=>decide_eq_false (e2 rfl x hx)) (decide_eq_true h)
    |cons y r=>exact e3 u hu
   ·walk_at "w"
    refine⟨rfl,by omega,fun z x hx=>?_,e3⟩
    rw[kO ew] at hx
    rcases List.mem_append.mp hx with q|q
    ·exact e2 z x q
    ·rw[List.mem_singleton.mp q];exact h
  subst e0
  rw[List.length_map,las,List.take_length] at e2
  obtain⟨w0,hw0,hw1⟩:=uX g hne
  cases us with
  |nil=>exact absurd hw1 (e2 rfl w0 hw0)
  |cons u0 r=>
   obtain⟨a1,w,rfl,f1,hA⟩:=e3 u0 rfl
   intro l2 n2
   obtain⟨H2,i2,s2,g2⟩:=nw _ n2;rw[i2]
   have ix:xP (V.ref a1::r) 0=some (.ref a1):=gQ (j:=0) rfl
   walk_at "w"
   exact k a1 w H2 (s1.trans s2) f1 (hA.same s2)
def uZ(K:PySem.W.Frag)(C:Addr->Sp->Prop):Sp:=fun vs H Q _=>∃(α:Type) (κ:PK α) (v:V) (x:α) (p0:List α) (lw f:Addr) (Ls:List (List α)) (W:Nat->α->List (Wy α)) (L:Nat->α->Prop),vs=[v,.ref lw,.ref f]/\κ.pv H v x/\aIp κ H lw Ls (fun i=>wF W (Ls.length - 1 - i) i)/\Ls[0]?=some p0/\x∈p0/\aI8 W Ls/\Ls.length<=10000/\xJ κ C H f W L/\
 (∀(i:Nat) ps x,Ls[i]?=some ps->i+1 < Ls.length->x∈ps->L i x)/\∀q H',aI H H'->H q=none->H' q=some (.lst ((aAV W (Ls.length - 1) 0 x).map V.int))->Q (.ref q) H'
theorem aAX{P:Program}{w:World}{K:PySem.W.Frag}{mg:Str->Option Value}{base:Heap}{a:iT}(tx:Txt K mg a):bL P w K mg base gF 10 a.qM a.qN ["place","worths","ways_at"] (uZ K (Clo P w K mg base (8+1))):=by
 have aF7:=aEq (P:=P) (w:=w) (base:=base) tx
 refine tx.qU.ok jX (fun vs H Q E h=>?_) (fun cdv A outer s H vs Q E hr h=>?_)
 ·obtain⟨α,κ,v,x,p0,lw,f,Ls,W,L,rfl,_⟩:=h
  rfl
 ·obtain⟨α,κ,v,x,p0,lw,f,Ls,W,L,rfl ,hv,hds,hp0,hx0,hok,hlen,hW,hL,k⟩:=h
  have hu:=jI hr
  refine Z.root (Z.aD (Z.aV (i:=3) jX.nd rfl (Or.inl rfl) (Z.jU Z.aC))
   (Z.aD (Z.cO PassesOwn.never rfl (Z.dC (by rfl) tx.dI (Z.aE (Z.aS eQ (Z.aP (rc:=vI K) cR (by rfl) tx.jQ iZ (Z.aE (Z.pv 1) Z.aC)) Z.aA) Z.aC)) (Z.aT (i:=4) jX.nd rfl (Or.inl rfl)) (Z.aD (Z.aV (i:=5) jX.nd rfl (Or.inl rfl) (Z.aF (aF7) (hr.mono (by decide)) (by rfl) tx.aAC tx.uH.kp tx.aAB .nil aQ (Z.aE (Z.aG5 (P:=P) (w:=w) (K:=K) (mg:=mg) (base:=base) (i:=2) (k:=8+1) (hr.mono (by decide)) (Z.aE (Z.pv 4) (Z.aE (Z.pv 0) Z.aC))) (Z.aE (Z.aJ (K':=K) (Z.pv 1) (Z.aS bJ (Z.pv 4) Z.aA) (fun _ _=>rfl)) Z.aC))))
   (Z.aD (Z.pW (Z.aAf (K':=K) (Z.pv 3) (Z.aE (Z.aJ (K':=K) (Z.pv 5) Z.aA (fun _ _=>rfl)) Z.aC)))
   (Z.aG (Z.aV (i:=0) jX.nd rfl (Or.inl rfl) (Z.aJ (K':=K) (Z.pv 5) Z.aA (fun _ _=>rfl)))))))
   (Z.aG (Z.aY (Z.pv 3))))) ?_
  obtain⟨ds,gds,lds,hds'⟩:=hds.ex
  obtain⟨spc,hC,hp⟩:=hW.ex
  have pos:=hok.pos
  obtain⟨n,hn⟩ : ∃n,Ls.length=n+1:=⟨Ls.length - 1,by omega⟩
  refine aO (σ:=[some v,some (.ref lw),some (.ref f),none,none,none]) rfl ?_
  walk_at "w"
  intro lr nlr
  obtain⟨H1,i1,s1,g1⟩:=nw _ nlr;rw[i1]
  have gds1:=s1 _ _ gds
  walk_at "w"
  refine⟨by rw[List.length_map];omega,by rw[List.length_map];omega,?_⟩
  rw[show(((ds.map V.ref).length:Int) - 1).toNat=n by rw[List.length_map,lds,hn];omega]
  refine sC (n:=n) (fun i σ' H'=>aI H H'/\∃(row:List Int) (u:V) (y:α) (ps:List α) (z4 z5:Option V),σ'=[some u,some (.ref lw),some (.ref f),some (.ref lr),z4,z5]/\H' lr=some (.lst (row.map V.int))/\row.length=i/\κ.pv H' u y/\Ls[i]?=some ps/\y∈ps/\row++aAV W (n - i) i y=aAV W n 0 x)
   ⟨s1,[],v,x,p0,_,_,rfl,g1,rfl,κ.rD hv s1,hp0,hx0,rfl⟩ (fun i σ' H' hi ⟨s',row,u,y,ps,z4,z5,e,gr,lr',py,eps,hy,hrow⟩=>?_) (fun σ' H' ⟨s',row,u,y,ps,z4,z5,e,gr,lr',py,eps,hy,hrow⟩=>?_)
  ·subst e
   have eq:Ls[i+1]?=some Ls[i+1]:=List.getElem?_eq_getElem (by omega)
   have ed:ds[i+1]?=some ds[i+1]:=List.getElem?_eq_getElem (by omega)
   have hdd:=hds' (i+1) _ _ ed eq
   generalize ds[i+1]=dx at ed hdd
   generalize Ls[i+1]=qs at eq hdd
   obtain⟨n1,n2⟩:=hok.ne i ps y eps (by omega) hy
   have gds':=s' _ _ gds
   have ix:xP (ds.map V.ref) ((0+(i:Int))+1)=some (.ref dx):=by
    rw[show(0+(i:Int))+1=((i+1:Nat):Int) by push_cast;omega]
    exact gQ (aDz ed)
   walk_at "w"
   refine aG4 rfl hC ?_
   walk_at "w"
   rw[show(0+(i:Int))=(i:Int) by omega]
   refine hp H' i u y _ s' (hL i ps y eps (by omega) hy) py fun l H2 s2 hws=>?_
   have gds2:=s2 _ _ gds'
   have ix2:xP (ds.map V.ref) ((i:Int)+1)=some (.ref dx):=by rw[<-ix,show(0+(i:Int))=(i:Int) by omega]
   walk_at "w"
   refine⟨α,κ,l,dx,W i y,qs,_,rfl,hws,κ.rE hdd (s'.trans s2),n1,n2,fun w hw=>hok.on i ps qs y w eps eq hy hw,fun a w H3 s3 fw hA=>?_⟩
   obtain⟨vv,ga,hpv⟩:=hA
   have gr3:=(s2.trans s3) _ _ gr
   have hwm:w∈W i y:=by
    unfold mY at fw
    exact List.mem_of_find?_eq_some fw
   walk_at "w"
   refine y9 (bR.of gr3) ?_
   walk_at "w"
   refine aCT (xs:=row.map V.int) gr3 (Nat.lt_of_lt_of_le (by rw[List.length_map];omega:(row.map V.int).length < 20000) (cD (by decide))) ?_
   obtain⟨H4,i4,k4,g4⟩:=wr H3 lr _;rw[i4]
   have na:a≠lr:=fun z=>by rw[z,gr3] at ga;cases ga
   have ga4:=k4 _ _ ga na
   have hpv4:κ.pv H4 vv w.2.1:=κ.aF6 hpv gr3 k4
   walk_at "w"
   refine⟨fun b o e=>k4 _ _ ((s'.trans (s2.trans s3)) _ _ e) (bC nlr e),row ++ [w.1],vv,w.2.1,qs,_,_,rfl,by rw[g4,List.map_append];rfl,by rw[List.length_append,lr'];rfl,hpv4,eq,hok.on i ps qs y w eps eq hy hwm,?_⟩
   rw[<-hrow,List.append_assoc]
   congr 1
   obtain⟨m,hm⟩ : ∃m,n - i=m+1:=⟨n - i - 1,by omega⟩
   rw[hm,show n - (i+1)=m by omega]
   have fw':mY (wF W m (i+1)) (W i y)=some w:=by rw[<-fw,show Ls.length - 1 - (i+1)=m by omega]
   show _=(match mY (wF W m (i+1)) (W i y) with|none=>[]|some w=>w.1::aAV W m (i+1) w.2.1)
   rw[fw']
   rfl
  ·subst e
   walk_at "w"
   rw[Nat.sub_self,show aAV W 0 n y=[] from rfl,List.append_nil] at hrow
   refine k lr H' s' nlr ?_
   rw[gr,hrow,hn,Nat.add_sub_cancel]
def On(m:MS)(s s':Int×Int):Prop:=∃on,Bit on/\(s.1=on\/s.2=0)/\s'=uV m s.1 s.2 on
def Rc(m:MS)(a:Int×Int):Nat->Int×Int->Prop
 |0,s=>s=a
 |n+1,s=>∃q,Rc m a n q/\On m q s
def sLt(a b:Int×Int):Prop:=a.1 < b.1\/(a.1=b.1/\a.2 < b.2)
def St1(m:MS)(s:Int×Int):Prop:=(s.1=1/\0<=s.2/\s.2 < m.up)\/(s.1=0/\0<=s.2/\s.2 < 60)
theorem St1.st0{m:MS}(g:m.Good){s:Int×Int}(h:St1 m s):St0 s.1 s.2:=by
 obtain⟨u0,u1⟩:=g.up
 rcases h with ⟨a,b,c⟩|⟨a,b,c⟩
 ·exact⟨.inr a,b,by omega⟩
 ·exact⟨.inl a,b,c⟩
theorem Rc.st{m:MS}(g:m.Good){a:Int×Int}(h:St1 m a):∀{n:Nat}{s:Int×Int},Rc m a n s->St0 s.1 s.2/\(s.2 < 12\/(s.1=0/\s.2=a.2 - n))
 |0,s,hs=>by
  have hs':s=a:=hs
  subst hs'
  obtain⟨u0,u1⟩:=g.up
  refine⟨h.st0 g,?_⟩
  rcases h with ⟨x,y,z⟩|⟨x,y,z⟩
  ·exact .inl (by omega)
  ·exact .inr ⟨x,by omega⟩
 |n+1,s,hs=>by
  obtain⟨q,hq,on,bon,may,rfl⟩:=hs
  obtain⟨i1,i2⟩:=Rc.st g h hq
  obtain⟨u0,u1⟩:=g.up
  obtain⟨d0,d1⟩:=g.down
  refine⟨i1.uV g bon,?_⟩
  unfold My.uV
  by_cases e:q.1=on
  ·rw[if_pos e]
   rcases i2 with i2|⟨i2,i3⟩
   ·exact .inl (by show max (q.2 - 1) 0 < 12;omega)
   ·by_cases z:q.2 - 1 < 12
    ·exact .inl (by show max (q.2 - 1) 0 < 12;omega)
    ·refine .inr ⟨by show on=0;omega,?_⟩
     show max (q.2 - 1) 0=a.2 - ((n+1:Nat):Int)
     omega
  ·rw[if_neg e]
   split
   ·exact .inl (by show m.up - 1 < 12;omega)
   ·exact .inl (by show m.down - 1 < 12;omega)
theorem Rc.few{m:MS}(g:m.Good){a:Int×Int}(h:St1 m a){n:Nat}{ks:List (Int×Int)}(nd:ks.Nodup)(hr:∀k∈ks,Rc m a n k):ks.length<=25:=by
 have:=aI5 25 (ks.map fun k=>if k.2 < 12 then (k.1*12+k.2).toNat else 24) (by
  rw[List.Nodup,List.pairwise_map]
  refine nd.imp_of_mem ?_
  intro x y hx hy hxy z
  obtain⟨⟨a1,a2,a3⟩,a4⟩:=Rc.st g h (hr x hx)
  obtain⟨⟨b1,b2,b3⟩,b4⟩:=Rc.st g h (hr y hy)
  refine hxy ?_
  by_cases c1:x.2 < 12 <;> by_cases c2:y.2 < 12
  ·rw[if_pos c1,if_pos c2] at z
   refine Prod.ext ?_ ?_
   ·rcases a1 with a1|a1 <;> rcases b1 with b1|b1 <;> rw[a1,b1] <;> rw[a1,b1] at z <;> omega
   ·rcases a1 with a1|a1 <;> rcases b1 with b1|b1 <;> rw[a1,b1] at z <;> omega
  ·rw[if_pos c1,if_neg c2] at z
   rcases a1 with a1|a1 <;> rw[a1] at z <;> omega
  ·rw[if_neg c1,if_pos c2] at z
   rcases b1 with b1|b1 <;> rw[b1] at z <;> omega
  ·rcases a4 with a4|⟨a4,a5⟩
   ·omega
   ·rcases b4 with b4|⟨b4,b5⟩
    ·omega
    ·exact Prod.ext (by omega) (by omega)) (fun x hx=>by
  obtain⟨k,hk,rfl⟩:=List.mem_map.mp hx
  obtain⟨⟨a1,a2,a3⟩,a4⟩:=Rc.st g h (hr k hk)
  split
  ·rcases a1 with a1|a1 <;> rw[a1] <;> omega
  ·omega)
 simpa using this
structure aLK(m:MS)(a:Int×Int)(Ls:List (List (Int×Int))):Prop where
 at_:∀(i:Nat) ps,Ls[i]?=some ps->ps.Pairwise sLt/\∀s,s∈ps↔Rc m a i s
theorem aLL{ps:List (Int×Int)}(h:ps.Pairwise sLt):ps.Nodup:=h.imp fun {a b} hab z=>by
 subst z
 rcases hab with y|⟨_,y⟩ <;> omega
def gnT(m:MS)(p:Int):Int:=p*m.least+gn p m.pieces
def aOK(m:MS)(s:Int×Int)(on:Int):Int:=aJ1 m s.1 [on]
def hw(m:MS)(p:Int)(s:Int×Int)(on:Int):Int:=aOK m s on - on*gnT m p
def aCk(s:Int×Int)(on:Int):Bool:=decide (s.1=on) || decide (s.2=0)
def rwy(m:MS)(p:Int)(s:Int×Int):List (Wy (Int×Int)):=(([0,1]:List Int).filter (aCk s)).map fun on=>(on,uV m s.1 s.2 on,hw m p s on)
def Wr(m:MS)(ps:List Int)(i:Nat)(s:Int×Int):List (Wy (Int×Int)):=rwy m (ps.getD i 0) s
theorem sS{s:Int×Int}{on:Int}:aCk s on=true↔s.1=on\/s.2=0:=by unfold aCk;simp
theorem aCB{m:MS}{p:Int}{s:Int×Int}{w:Wy (Int×Int)}:w∈rwy m p s↔∃on,Bit on/\(s.1=on\/s.2=0)/\w=(on,uV m s.1 s.2 on,hw m p s on):=by
 unfold rwy
 rw[List.mem_map]
 constructor
 ·rintro ⟨on,h,rfl⟩
  obtain⟨h1,h2⟩:=List.mem_filter.mp h
  exact⟨on,by simpa [Bit] using h1,sS.mp h2,rfl⟩
 ·rintro ⟨on,b,h,rfl⟩
  exact⟨on,List.mem_filter.mpr ⟨by simpa [Bit] using b,sS.mpr h⟩,rfl⟩
theorem aLM{m:MS}{p:Int}{s:Int×Int}(b:Bit s.1):rwy m p s≠[]:=fun z=>by
 have:_∈rwy m p s:=aCB.mpr ⟨s.1,b,.inl rfl,rfl⟩
 rw[z] at this
 cases this
theorem aJa(m:MS)(p:Int)(s:Int×Int):(rwy m p s).length<=2:=by
 unfold rwy
 rw[List.length_map]
 exact List.length_filter_le ..
theorem aDB(m:MS)(p:Int)(s:Int×Int):aF5 (rwy m p s):=by
 unfold aF5 rwy
 rw[List.pairwise_map]
 exact List.Pairwise.filter _ (by simp)
theorem aJb{m:MS}(g:m.Good){a:Int×Int}(h:St1 m a)(qs:List Int){Ls:List (List (Int×Int))}(pos:0 < Ls.length)(hl:aLK m a Ls):aI8 (Wr m qs) Ls where
 pos:=pos
 nd:=fun ps hp=>by
  obtain⟨i,hi⟩:=List.getElem?_of_mem hp
  exact aLL (hl.at_ i ps hi).1
 few:=fun ps hp=>by
  obtain⟨i,hi⟩:=List.getElem?_of_mem hp
  obtain⟨h1,h2⟩:=hl.at_ i ps hi
  exact Nat.le_trans (Rc.few g h (aLL h1) fun k hk=>(h2 k).mp hk) (by decide)
 ne:=fun i ps x hi _ hx=>by
  have:=((Rc.st g h (((hl.at_ i ps hi).2 x).mp hx)).1).1
  exact⟨aLM this,Nat.le_trans (aJa ..) (by decide)⟩
 on:=fun i ps rs x w hi hj hx hw=>by
  obtain⟨on,b,may,rfl⟩:=aCB.mp hw
  exact((hl.at_ (i+1) rs hj).2 _).mpr ⟨x,((hl.at_ i ps hi).2 x).mp hx,on,b,may,rfl⟩
theorem aMX{m:MS}(g:m.Good){a:Int×Int}(h:St1 m a)(qs:List Int)(n:Nat):Lay (Wr m qs) n (Rc m a) where
 ne:=fun i x _ hx=>aLM ((Rc.st g h hx).1).1
 on:=fun i x w _ hx hw=>by
  obtain⟨on,b,may,rfl⟩:=aCB.mp hw
  exact⟨x,hx,on,b,may,rfl⟩
def rwF(m:MS)(qs:List Int)(a:Int×Int):Int:=wF (Wr m qs) qs.length 0 a
def rrF(m:MS)(qs:List Int)(a:Int×Int):List Int:=aAV (Wr m qs) qs.length 0 a
def κS:PK (Int×Int):=.tk oR fun _ _ h=>aAU h
theorem cN.aPM{C:Addr}{H:Hp}{q w:Addr}{m:MS}{kvs:List (List Key×V)}(h:cN C H q m)(e:H w=some (.dT kvs)):cN C (del w H) q m:=by
 obtain⟨dx,pl,h1,h2⟩:=h.ex
 obtain⟨qs,h3,h4⟩:=h2.ex
 refine⟨dx,pl,mN h1 (fun z=>by rw[z,e] at h1;cases h1),qs,mN h3 (fun z=>by rw[z,e] at h3;cases h3),h4.len,fun j a t h5 h6=>?_⟩
 have h7:=h4.at_ j a t h5 h6
 exact mN h7 (fun z=>by rw[z,e] at h7;cases h7)
theorem aMY(x:Option Int):(x.map V.int).getD (.int 0)=.int (x.getD 0):=by cases x <;> rfl
theorem aLN{ps:List WP}{i:Nat}{kv:List Key×V}(h:(enc ps)[i]?=some kv):∃p,ps[i]?=some p/\kv=(oR p.1,V.int p.2):=by
 unfold enc at h
 rw[List.getElem?_map] at h
 obtain⟨p,hp,e⟩:=Option.map_eq_some_iff.mp h
 exact⟨p,hp,e.symm⟩
theorem aCC(ps:List WP):(enc ps).length=ps.length:=by unfold enc;rw[List.length_map]
theorem aJ3{ps:List WP}{k s:Int×Int}{v:Int}:s∈(addW ps k v).map (·.1)↔s∈ps.map (·.1)\/s=k:=by
 unfold addW
 by_cases h:ps.any (fun p=>decide (p.1=k))=true
 ·rw[if_pos h,List.map_map]
  have e:((fun p:WP=>p.1) ∘ fun p:WP=>if p.1=k then (p.1,v) else p)=fun p=>p.1:=by
   funext p
   show(if p.1=k then (p.1,v) else p).1=p.1
   split <;> rfl
  rw[e]
  refine⟨.inl,fun z=>?_⟩
  rcases z with z|z
  ·exact z
  ·obtain⟨p,hp,e⟩:=List.any_eq_true.mp h
   rw[z]
   exact List.mem_map.mpr ⟨p,hp,of_decide_eq_true e⟩
 ·rw[if_neg h,List.map_append,List.mem_append]
  simp
def aDC(K:W.Frag)(C:Addr):Sp:=fun vs H Q _=>∃(q:Addr) (m:MS) (w:Addr) (ps:List WP),vs=[.ref q,.ref w]/\cN C H q m/\m.Good/\H w=some (.dT (enc ps))/\aEo ps/\
 ∀w' ps' H',aI (del w H) H'->H w'=none->H' w'=some (.dT (enc ps'))->aEo ps'->(∀s,s∈ps'.map (·.1)↔∃q∈ps.map (·.1),On m q s)->Q (.ref w') H'
theorem aDD{P:Program}{w:World}{K:PySem.W.Frag}{mg:Str->Option Value}{base:Heap}{a:iT}(tx:Txt K mg a):bL P w K mg base gF 3 a.lT a.lU ["machine","ways"] (aDC K a.aZ):=by
 have pT:=x8 (P:=P) (w:=w) (base:=base) tx
 have iQ:=pS (P:=P) (w:=w) (base:=base) tx
 refine tx.rQ.ok eY (fun vs H Q E h=>?_) (fun cdv A outer s H vs Q E hr h=>?_)
 ·obtain⟨q,m,w,ps,rfl,_⟩:=h
  rfl
 ·obtain⟨q,m,w,ps,rfl ,hm,hg,gw,hW,k⟩:=h
  have hu:=jI hr
  refine Z.root (Z.aD (Z.aV (i:=2) eY.nd rfl (Or.inl rfl) Z.o8)
   (Z.aD (Z.cO PassesOwn.never rfl (Z.aC8 (Z.pv 1)) (Z.eK (K':=K) (n:=2) rfl (Z.bD (Z.aT (i:=3) eY.nd rfl (Or.inl rfl)) (Z.bD (Z.aT (i:=4) eY.nd rfl (Or.inl rfl)) Z.dZ))) (Z.aG (Z.cO PassesOwn.never rfl (Z.aFx (K':=K) (Z.rN Z.aA Z.aA)) (Z.aT (i:=5) eY.nd rfl (Or.inl rfl)) (Z.aG (Z.cC (Z.jT (Z.aF (pT) (hr.mono (by decide)) (by rfl) tx.wO tx.sI.kp tx.wN .nil aQ (Z.aE (Z.pv 0) (Z.aE (Z.pv 3) (Z.aE (Z.pv 5) Z.aC))))) (Z.aD (Z.aV (i:=6) eY.nd rfl (Or.inl rfl) (Z.aF (iQ) (hr.mono (by decide)) (by rfl) tx.mH tx.iP.kp tx.mG .nil aQ (Z.aE (Z.pv 0) (Z.aE (Z.pv 3) (Z.aE (Z.pv 5) Z.aC)))))
   (Z.aG (Z.tF hu (Z.pv 2) (Z.pv 6) (Z.aS bJ (Z.vS hu (Z.pv 2) (Z.pv 6) Z.aA) (Z.pv 4))))) Z.bH)))))
   (Z.aG (Z.aY (Z.pv 2))))) ?_
  have hmD:=hm.aPM gw
  refine aO (σ:=[some (.ref q),some (.ref w),none,none,none,none,none]) rfl ?_
  walk_at "w"
  refine aBp ?_
  intro l nl
  obtain⟨H1,i1,s1,g1⟩:=nw _ nl;rw[i1]
  have gw1:=s1 _ _ gw
  have lw:l≠w:=fun z=>by rw[z,gw] at nl;cases nl
  have nlD:del w H l=none:=by rw[zJ lw];exact nl
  walk_at "w"
  refine aPs gw1 fun ob=>?_
  obtain⟨H2,i2,k2,g2⟩:=wr H1 w _;rw[i2]
  have g12:=k2 _ _ g1 lw
  have S2:aI (del w H) H2:=fun b o e=>k2 _ _ (s1 _ _ (xH _ _ e)) (fun z=>by rw[z,aE9] at e;cases e)
  refine aLh (kvs:=enc ps) (fun i σ' H'=>∃(ps':List WP) (z3 z4 z5 z6:Option V),σ'=[some (.ref q),some (.ref w),some (.ref l),z3,z4,z5,z6]/\H' l=some (.dT (enc ps'))/\aEo ps'/\(∀s,s∈ps'.map (·.1)↔∃q∈(ps.take i).map (·.1),On m q s)/\aI (del w H) H'/\H' w=some (.frz ob (.dT (enc ps))))
   ⟨[],_,_,_,_,rfl,g12,⟨List.nodup_nil,fun p hp=>by cases hp⟩,fun s=>⟨(fun h=>by cases h),(fun⟨q,h,_⟩=>by simp at h)⟩,S2,g2⟩ (fun i σ' H' hi ⟨_,_,_,_,_,_,_,_,_,_,h⟩=>h) (fun i kv σ' H' T b hk ⟨ps',z3,z4,z5,z6,e,gl,hW',hs,S',gw'⟩ nT gb=>?_) (fun σ' H' ⟨ps',z3,z4,z5,z6,e,gl,hW',hs,S',gw'⟩=>?_)
  ·subst e
   obtain⟨p,ep,rfl⟩:=aLN hk
   have hst:=hW.st p (List.mem_of_getElem? ep)
   have gb0:H' b=some (.tup [.int p.1.1,.int p.1.2]):=gb
   obtain⟨H3,i3,s3,gT⟩:=nw _ nT;rw[i3]
   refine eJ (kR.of gT) rfl ?_
   walk_at "w"
   intro Tu nTu
   obtain⟨H4,i4,s4,gTu⟩:=nw _ nTu;rw[i4]
   have gl4:=(s3.trans s4) _ _ gl
   have gb4:=(s3.trans s4) _ _ gb0
   have gw4:=(s3.trans s4) _ _ gw'
   have S4:=S'.trans (s3.trans s4)
   have Tul:Tu≠l:=fun z=>by rw[z,gl4] at gTu;cases gTu
   have bl:b≠l:=fun z=>by rw[z,gl4] at gb4;cases gb4
   walk_at "w"
   refine aKY (kR.of gTu) ?_
   refine aKT (xs:=([0,1]:List Int).map V.int) (fun j σ' H'=>∃(ps':List WP) (z5 z6:Option V),σ'=[some (.ref q),some (.ref w),some (.ref l),some (.ref b),some (.int p.2),z5,z6]/\H' l=some (.dT (enc ps'))/\aEo ps'/\(∀s,s∈ps'.map (·.1)↔(∃q∈(ps.take i).map (·.1),On m q s)\/∃on∈([0,1]:List Int).take j,(p.1.1=on\/p.1.2=0)/\s=uV m p.1.1 p.1.2 on)/\aI (del w H) H'/\bX l H4 H')
    ⟨ps',_,_,rfl,gl4,hW',fun s=>by rw[hs s];simp,S4,fun _ _ e _=>e⟩ (fun j σ' H' hj ⟨_,_,_,_,_,_,_,_,h⟩=>kR.of (h _ _ gTu Tul)) (fun j v σ' H5 hv ⟨ps',z5,z6,e,gl5,hW5,hs5,S5,k5⟩=>?_) (fun σ' H5 ⟨ps',z5,z6,e,gl5,hW5,hs5,S5,k5⟩=>?_)
   ·subst e
    obtain⟨on,eon,rfl⟩:=mJ hv
    have bon:Bit on:=by
     have:=List.mem_of_getElem? eon
     simp at this
     exact this
    have gb5:=k5 _ _ gb4 bl
    have tk:([0,1]:List Int).take (j+1)=([0,1]:List Int).take j ++ [on]:=by rw[List.take_add_one,eon];rfl
    walk_at "w"
    refine⟨_,b,_,_,on,rfl,gb5,?_⟩
    by_cases hmay:p.1.1=on\/p.1.2=0
    ·rw[show(decide (p.1.1=on) || decide (p.1.2=0))=true by simpa using hmay]
     walk_at "w"
     refine⟨q,m,b,_,_,on,rfl,hmD.same S5,gb5,hmay,fun T2 H6 s6 nT2 gT2=>?_⟩
     have gl6:=s6 _ _ gl5
     have gk:H6 T2=some (.tup ((oR (uV m p.1.1 p.1.2 on)).map kV)):=gT2
     have hle:=hW5.len
     walk_at "w"
     refine⟨l,rfl,.inr ⟨_,.inl gl6⟩,?_⟩
     walk_at "w"
     refine⟨_,oX.t gl6 gk,?_⟩
     rw[aF4,aMY]
     walk_at "w"
     refine⟨l,_,rfl,aBe.t gl6 gk (Nat.lt_of_lt_of_le (by rw[aCC];omega:(enc ps').length < 1000) (cD (by decide))),?_⟩
     rw[aI4]
     obtain⟨H7,i7,k7,g7⟩:=wr H6 l _;rw[i7]
     walk_at "w"
     refine⟨_,_,_,rfl,g7,hW5.add (hst.uV hg bon) p.2,fun s=>?_,fun b o e=>k7 _ _ ((S5.trans s6) _ _ e) (bC nlD e),k5.trans (s6.keep.trans k7)⟩
     rw[aJ3,hs5 s,tk]
     constructor
     ·rintro ((h|⟨on',h1,h2⟩)|h)
      ·exact .inl h
      ·exact .inr ⟨on',List.mem_append_left _ h1,h2⟩
      ·exact .inr ⟨on,List.mem_append_right _ (.head _),hmay,h⟩
     ·rintro (h|⟨on',h1,h2,h3⟩)
      ·exact .inl (.inl h)
      ·rcases List.mem_append.mp h1 with z|z
       ·exact .inl (.inr ⟨on',z,h2,h3⟩)
       ·rw[List.mem_singleton.mp z] at h3;exact .inr h3
    ·rw[show(decide (p.1.1=on) || decide (p.1.2=0))=false by simpa using hmay]
     walk_at "w"
     refine⟨ps',_,_,rfl,gl5,hW5,fun s=>?_,S5,k5⟩
     rw[hs5 s,tk]
     constructor
     ·rintro (h|⟨on',h1,h2⟩)
      ·exact .inl h
      ·exact .inr ⟨on',List.mem_append_left _ h1,h2⟩
     ·rintro (h|⟨on',h1,h2,h3⟩)
      ·exact .inl h
      ·rcases List.mem_append.mp h1 with z|z
       ·exact .inr ⟨on',z,h2,h3⟩
       ·rw[List.mem_singleton.mp z] at h2;exact absurd h2 hmay
   ·subst e
    refine⟨ps',_,_,_,_,rfl,gl5,hW5,fun s=>?_,S5,k5 _ _ gw4 (Ne.symm lw)⟩
    rw[hs5 s,take_snoc ep,List.map_append]
    constructor
    ·rintro (⟨q,h1,h2⟩|⟨on',h1,h2,h3⟩)
     ·exact⟨q,List.mem_append_left _ h1,h2⟩
     ·exact⟨p.1,List.mem_append_right _ (.head _),on',by simpa [Bit] using h1,h2,h3⟩
    ·rintro ⟨q,h1,on',b1,h2,h3⟩
     rcases List.mem_append.mp h1 with z|z
     ·exact .inl ⟨q,z,on',b1,h2,h3⟩
     ·rw[show q=p.1 by simpa using z] at h2 h3
      exact .inr ⟨on',by rcases b1 with rfl|rfl <;> simp,h2,h3⟩
  ·subst e
   walk_at "w"
   refine k l ps' H' S' nl gl hW' fun s=>?_
   rw[hs s,aCC,List.take_length]
def aCl(K:W.Frag)(C:Addr):Sp:=fun vs H Q _=>∃(p:Addr) (ms:List MS),vs=[.ref p]/\rA C H p ms/\ms.length<=6/\∀H',aI H H'->Q (.bl true) H'
theorem aCm{P:Program}{w:World}{K:PySem.W.Frag}{mg:Str->Option Value}{base:Heap}{a:iT}(tx:Txt K mg a):bL P w K mg base gF 1 a.kG a.kH ["thing"] (aCl K a.aZ):=by
 refine tx.pF.ok aB9 (fun vs H Q E h=>?_) (fun cdv A outer s H vs Q E hr h=>?_)
 ·obtain⟨p,ms,rfl,_⟩:=h
  rfl
 ·obtain⟨p,ms,rfl ,hp,hl,k⟩:=h
  have hu:=jI hr
  refine Z.root (Z.aD (Z.cC (Z.vC (Z.aCF (Z.mO (Z.jT (Z.aP (rc:=aCQ K) gS (by rfl) tx.bS cS (Z.aE (Z.pv 0) (Z.aE (Z.nB (v:=.ty "list") (by rfl) tx.jH lJ rfl) Z.aC))))) (Z.y3 (Z.bE aBH (Z.aP (rc:=vI K) cR (by rfl) tx.jQ iZ (Z.aE (Z.pv 0) Z.aC)) (Z.xS (n:=6) (by rfl) tx.d9) (bI _))))) (Z.aG (Z.aY Z.zU)) Z.bH)
   (Z.aG (Z.aY (Z.aP (rc:=aKZ K) (aBk rfl) (by rfl) tx.aB2 aHU (Z.aE (Z.fE (k:=1) (idx:=[]) (N:=["machine"]) (cQ (sc:=aB dU) (NX:=["thing"]) rfl rfl rfl (by decide +kernel)) rfl (Z.cV (K':=K) (Z.pv 0)) (fun _ _ _ _=>(Z.aT (i:=0) (show(["machine"]:List Str).Nodup by decide +kernel) rfl (Or.inl rfl))) (eB (by decide)) (fun _ _ _ _=>Z.dG) (fun _ _ _ _=>(Z.aP (rc:=aCQ K) gS (by rfl) tx.bS cS (Z.aE (Z.pv 0) (Z.aE (Z.zV (v:=.ref a.aZ) (by rfl) tx.aBu rfl) Z.aC))))) Z.aC))))) ?_
  obtain⟨qs,h1,h2⟩:=hp.ex
  have hql:qs.length<=6:=by rw[h2.len];exact hl
  refine aO (σ:=[some (.ref p)]) rfl ?_
  walk_at "w"
  refine tG (aHb (.lst h1)) ?_
  walk_at "w"
  refine iR (fun h=>by simp at h) (fun _=>?_)
  walk_at "w"
  refine cA (fun h=>by rw[List.length_map] at h;omega) (fun _=>?_)
  walk_at "w"
  refine mL (bR.of h1) ?_
  refine aBi (fun _=>.bl true) (bR.of h1) (cD (by rw[List.length_map];omega)) (fun x N N' hxm hN=>?_) ?_
  ·obtain⟨i,hi⟩:=List.getElem?_of_mem hxm
   obtain⟨q,m,_,rfl,_,hm⟩:=h2.get hi
   obtain⟨dx,pl,hx,_⟩:=hm.ex
   walk_at "w"
   refine tG (aIL tx.i_Machine tx.cB hx) ?_
   exact hN
  ·intro l1 n1
   walk_at "w"
   refine aFv (bR.of aH) (fun x hx=>by obtain⟨_,_,rfl⟩:=List.mem_map.mp hx;rfl) ?_
   exact k _ (aI.new n1)
def aEr(K:PySem.W.Frag)(CW CM CS:Addr):Sp:=fun vs H Q _=>∃(x dx lm:Addr) (st:V) (W:WS),vs=[.ref x,.ref lm,st,.int W.lack]/\H x=some (.ins CW dx [])/\rA CM H lm W.specs/\aJ0 CS H st W.store/\W.specs.length<=6/\Am W.lack/\
 ∀H',rC CW CM CS H' x W->bX x H H'->Q .non H'
theorem aEs{P:Program}{w:World}{K:PySem.W.Frag}{mg:Str->Option Value}{base:Heap}{a:iT}(tx:Txt K mg a):bL P w K mg base gF 3 a.nX a.nY ["self","machines","store","lack"] (aEr K a.eO a.aZ a.bY):=by
 have aDE:=aCm (P:=P) (w:=w) (base:=base) tx
 have cL:=oQ (P:=P) (w:=w) (base:=base) tx
 refine tx.aAD.ok lM (fun vs H Q E h=>?_) (fun cdv A outer s H vs Q E hr h=>?_)
 ·obtain⟨x,dx,lm,st,W,rfl,_⟩:=h
  rfl
 ·obtain⟨x,dx,lm,st,W,rfl ,hx,hm,hs,hl,ha,k⟩:=h
  have hu:=jI hr
  refine Z.root (Z.aD (Z.aV (i:=4) lM.nd rfl (Or.inl rfl) (Z.aIy (Z.nE aCU (Z.pv 2) Z.jS (bI _)) (Z.rJ (Z.aP (rc:=aCQ K) gS (by rfl) tx.bS cS (Z.aE (Z.pv 2) (Z.aE (Z.zV (v:=.ref a.bY) (by rfl) tx.aFO rfl) Z.aC))))))
   (Z.aD (Z.cO PassesOwn.never rfl (Z.vZ (K':=K) (by rfl) tx.dO (Z.aE (Z.aHW (Z.aF (aDE) (hr.mono (by decide)) (by rfl) tx.w4 tx.pF.kp tx.wZ .nil aQ (Z.aE (Z.pv 1) Z.aC)) (Z.pv 4) (Z.aF (cL) (hr.mono (by decide)) (by rfl) tx.dN tx.cX.kp tx.dM .nil aQ (Z.aE (Z.pv 3) Z.aC))) Z.aC)) (Z.eK (K':=K) (n:=2) rfl (Z.bD (Z.aT (i:=5) lM.nd rfl (Or.inl rfl)) (Z.bD (Z.aT (i:=6) lM.nd rfl (Or.inl rfl)) Z.dZ))) (Z.aG (Z.cC (Z.mO (Z.jT (Z.pv 6))) (Z.aG Z.oU) Z.bH)))
   (Z.aD (Z.fG (K':=K) (Z.pv 0) (Z.cE (rc:=tH K) o5 (by rfl) tx.jH lJ (Z.aE (Z.pv 1) Z.aC)) rfl)
   (Z.aD (Z.fG (K':=K) (Z.pv 0) (Z.pv 2) rfl)
   (Z.aG (Z.fG (K':=K) (Z.pv 0) (Z.pv 3) rfl)))))) ?_
  refine aO (σ:=[some (.ref x),some (.ref lm),some st,some (.int W.lack),none,none,none]) rfl ?_
  refine iS (fun σ' H'=>σ'=[some (.ref x),some (.ref lm),some st,some (.int W.lack),some (.bl true),none,none]/\H'=H) (fun N hN=>?_) ?_
  ·cases e:W.store with
   |none=>
    rw[e] at hs
    replace hs:st=.non:=hs
    subst hs
    walk_at "w"
    exact hN _ _ ⟨rfl,rfl⟩
   |some s=>
    rw[e] at hs
    obtain⟨b,rfl,hb⟩:=hs
    obtain⟨db,hb'⟩:=hb.ex
    walk_at "w"
    refine tG (aIL tx.i_Store tx.iY hb') ?_
    walk_at "w"
    exact hN _ _ ⟨rfl,rfl⟩
  rintro σ' H' ⟨rfl,rfl⟩
  walk_at "w"
  refine⟨lm,W.specs,rfl,hm,hl,fun H1 s1=>?_⟩
  walk_at "w"
  refine⟨_,_,rfl,.int _,?_⟩
  rw[uU ha]
  walk_at "w"
  intro l1 n1
  walk_at "w"
  have s2:=s1.trans (aI.new (o:=.lst [.bl true,.bl true,.bl true]) n1)
  have e2:(upd H1 l1 (.lst [.bl true,.bl true,.bl true])) l1=some (.lst [.bl true,.bl true,.bl true]):=aH
  generalize upd H1 l1 (.lst [.bl true,.bl true,.bl true])=H2 at s2 e2 ⊢
  refine aGS (bR.of e2) ?_
  refine aAe (xs:=[.bl true,.bl true,.bl true]) (fun i σ' H3=>∃y z,σ'=[some (.ref x),some (.ref lm),some st,some (.int W.lack),some (.bl true),y,z]/\aI H2 H3)
   ⟨_,_,rfl,aI.refl _⟩ (fun i σ' H3 hi ⟨y,z,e,s⟩=>bR.of (s _ _ e2)) (fun i v σ' H3 T hv ⟨y,z,e,s⟩ nT=>?_) (fun σ' H3 ⟨y,z,e,s⟩=>?_)
  ·subst e
   have ev:v=.bl true:=by
    have:=List.mem_of_getElem? hv
    simpa using this
   subst ev
   refine eJ (kR.of aH) rfl ?_
   walk_at "w"
   exact⟨_,_,rfl,s.trans (aI.new nT)⟩
  ·subst e
   have sH:aI H' H3:=s2.trans s
   have hx':=sH _ _ hx
   obtain⟨qs,p1,p2⟩:=(hm.tr sH.tr).ex
   walk_at "w"
   refine vX (ys:=qs.map V.ref) (bR.of p1) ?_
   intro l9 n9
   have s9:=aI.new (o:=.lst (qs.map V.ref)) n9
   have x9:=s9 _ _ hx'
   walk_at "w"
   refine jA (fs':=[("machines",.ref l9)]) x9 tx.uS tx.lH (by simp) rfl ?_
   walk_at "w"
   refine jA (fs':=[("machines",.ref l9),("store",st)]) aH tx.uS tx.mI (by simp) rfl ?_
   rw[jR]
   walk_at "w"
   refine jA (fs':=wFs l9 st W.lack) aH tx.uS tx.aAR (by simp) rfl ?_
   rw[jR]
   walk_at "w"
   have kx:bX x (upd H3 l9 (.lst (qs.map V.ref))) (upd (upd H3 l9 (.lst (qs.map V.ref))) x (.ins a.eO dx (wFs l9 st W.lack))):=bX.upd
   have t9:Tr H3 (upd (upd H3 l9 (.lst (qs.map V.ref))) x (.ins a.eO dx (wFs l9 st W.lack))):=s9.tr.trans (aLG x9 kx)
   have l9x:l9≠x:=Ne.symm (bC n9 hx')
   refine k _ ⟨dx,l9,st,aH,⟨qs,kx _ _ aH l9x,p2.imp fun _ _ z=>z.tr t9⟩,hs.tr (sH.tr.trans t9)⟩ (fun b o e nb=>kx _ _ (s9 _ _ (sH _ _ e)) nb)
def aEt(K:W.Frag):Sp:=fun vs H Q _=>∃(p b:Addr) (x y:Int),vs=[.ref p,.ref b]/\bB H p/\H b=some (.lst [.int x,.int y])/\1<=x/\x<=50000000000/\
 ∀v (o:Option SS) H',aEk H' v o->(∀s,o=some s->s.Good)->(∀c,v=.ref c->H c=none)->bB H' p->bX p H H'->m9 p H H'->Q v H'
theorem aEu{P:Program}{w:World}{K:PySem.W.Frag}{mg:Str->Option Value}{base:Heap}{a:iT}(tx:Txt K mg a):bL P w K mg base gF 2 a.nZ a.oA ["_law_hand","_law_by"] (aEt K):=by
 have aK:=cT (P:=P) (w:=w) (base:=base) tx
 refine tx.uI.ok lN (fun vs H Q E h=>?_) (fun cdv A outer s H vs Q E hr h=>?_)
 ·obtain⟨p,b,x,y,rfl,_⟩:=h
  rfl
 ·obtain⟨p,b,x,y,rfl ,hh,hb,x0,x1,k⟩:=h
  have hu:=jI hr
  refine Z.root (Z.aD (Z.cC (Z.bE (r:=oZ K) (eF hu) (Z.aF (aK) (hr.mono (by decide)) (by rfl) tx.aN tx.aL.kp tx.aM .nil aQ (Z.aE (Z.pv 0) (Z.aE Z.aA Z.aC))) Z.aA (bI _)) (Z.aG (Z.aY Z.jS)) Z.bH)
   (Z.aD (Z.aV (i:=2) lN.nd rfl (Or.inl rfl) (Z.aS bK (Z.aJ (K':=K) (Z.pv 1) Z.aA (fun _ _=>rfl)) (Z.aF (aK) (hr.mono (by decide)) (by rfl) tx.aN tx.aL.kp tx.aM .nil aQ (Z.aE (Z.pv 0) (Z.aE Z.aA Z.aC)))))
   (Z.aD (Z.aV (i:=3) lN.nd rfl (Or.inl rfl) (Z.aS bJ (Z.pv 2) (Z.aS bK (Z.aJ (K':=K) (Z.pv 1) Z.aA (fun _ _=>rfl)) (Z.aF (aK) (hr.mono (by decide)) (by rfl) tx.aN tx.aL.kp tx.aM .nil aQ (Z.aE (Z.pv 0) (Z.aE Z.aA Z.aC))))))
   (Z.aD (Z.cC (Z.bE (r:=oZ K) (eF hu) (Z.aF (aK) (hr.mono (by decide)) (by rfl) tx.aN tx.aL.kp tx.aM .nil aQ (Z.aE (Z.pv 0) (Z.aE Z.aA Z.aC))) Z.aA (bI _)) (Z.aG (Z.aFi (i:=3) (j:=2) rfl lN.nd rfl rfl (by decide) rfl rfl (Z.aE (Z.pv 2) (Z.aE (Z.pv 3) Z.aC)))) Z.bH)
   (Z.aG (Z.aY (Z.aMF (Z.aF (aK) (hr.mono (by decide)) (by rfl) tx.aN tx.aL.kp tx.aM .nil aQ (Z.aE (Z.pv 0) (Z.aE Z.aA Z.aC))) (Z.aF (aK) (hr.mono (by decide)) (by rfl) tx.aN tx.aL.kp tx.aM .nil aQ (Z.aE (Z.pv 0) (Z.aE Z.aA Z.aC))) (Z.aF (aK) (hr.mono (by decide)) (by rfl) tx.aN tx.aL.kp tx.aM .nil aQ (Z.aE (Z.pv 0) (Z.aE Z.aA Z.aC))) (Z.pv 3) (Z.pv 2)))))))) ?_
  have bp:b≠p:=hh.aHh hb (by simp)
  refine aO (σ:=[some (.ref p),some (.ref b),none,none]) rfl ?_
  walk_at "w"
  refine⟨p,_,rfl,hh,by decide,by decide,fun r1 H1 a1 b1 h1 k1 q1=>?_⟩
  have hb1:=k1 _ _ hb bp
  walk_at "w"
  refine cA (fun h=>?_) (fun h=>?_)
  ·walk_at "w"
   exact k _ none _ rfl (fun s e=>by cases e) (fun c e=>by cases e) h1 k1 q1
  ·walk_at "w"
   refine⟨p,_,rfl,h1,by decide,by decide,fun r2 H2 a2 b2 h2 k2 q2=>?_⟩
   have hb2:=k2 _ _ hb1 bp
   walk_at "w"
   refine⟨p,_,rfl,h2,by decide,by decide,fun r3 H3 a3 b3 h3 k3 q3=>?_⟩
   have g2:0<=x*r2/\x*r2<=150000000000:=⟨Int.mul_nonneg (by omega) (by omega),Int.le_trans (Int.mul_le_mul_of_nonneg_left (show r2<=3 by omega) (by omega)) (by omega)⟩
   have g3:0<=x*r3/\x*r3<=50000000000:=⟨Int.mul_nonneg (by omega) (by omega),Int.le_trans (Int.mul_le_mul_of_nonneg_left (show r3<=1 by omega) (by omega)) (by omega)⟩
   repeat walk_at "st"
   refine iS (fun σ' H'=>∃g t:Int,σ'=[some (.ref p),some (.ref b),some (.int g),some (.int t)]/\Am g/\Am t/\bB H' p/\bX p H H'/\m9 p H H') (fun N hN=>?_) ?_
   ·walk_at "w"
    refine⟨p,_,rfl,h3,by decide,by decide,fun r4 H4 a4 b4 h4 k4 q4=>?_⟩
    walk_at "w"
    refine cA (fun h=>?_) (fun h=>?_)
    ·walk_at "w"
     refine⟨_,_,rfl,?_⟩
     exact hN _ _ ⟨_,_,rfl,⟨by omega,by omega⟩,⟨by omega,by omega⟩,h4,k1.trans (k2.trans (k3.trans k4)),q1.trans (q2.trans (q3.trans q4))⟩
    ·walk_at "w"
     exact hN _ _ ⟨_,_,rfl,⟨by omega,by omega⟩,⟨by omega,by omega⟩,h4,k1.trans (k2.trans (k3.trans k4)),q1.trans (q2.trans (q3.trans q4))⟩
   ·rintro σ' H4 ⟨g,t,rfl,hg,ht,h4,k4,q4⟩
    walk_at "w"
    refine⟨p,_,rfl,h4,by decide,by decide,fun r5 H5 a5 b5 h5 k5 q5=>?_⟩
    walk_at "w"
    refine⟨p,_,rfl,h5,by decide,by decide,fun r6 H6 a6 b6 h6 k6 q6=>?_⟩
    walk_at "w"
    refine⟨p,_,rfl,h6,by decide,by decide,fun r7 H7 a7 b7 h7 k7 q7=>?_⟩
    walk_at "w"
    intro c nc
    have kk:=k4.trans (k5.trans (k6.trans k7))
    have qq:=q4.trans (q5.trans (q6.trans q7))
    refine k (.ref c) (some ⟨r5,r6,r7,t,g⟩) _ ⟨c,rfl,⟨aH⟩⟩ (fun s e=>?_) (fun c' e=>by cases e;exact mM kk h7 nc) (h7.same (aI.new nc)) (kk.trans (aI.new nc).keep) (qq.trans (m9.of (aI.new nc p)))
    cases e
    exact⟨⟨a5,by show r5<=8;omega⟩,⟨a6,by show r6<=8;omega⟩,⟨a7,by show r7<=8;omega⟩,ht,hg⟩
def lvO:Option SS->Int->List Int
 |none,_=>[0]
 |some s,l=>upL (max 0 (l - s.out)) (min s.cap (l+s.into)+1 - max 0 (l - s.out)).toNat
def aDF(K:W.Frag):Sp:=fun vs H Q _=>∃(v:V) (o:Option SS) (l:Int),vs=[v,.int l]/\aEk H v o/\(∀s,o=some s->s.Good/\0<=l/\l<=s.cap)/\∀q H',aI H H'->H q=none->H' q=some (.lst ((lvO o l).map V.int))->Q (.ref q) H'
theorem aDG{P:Program}{w:World}{K:PySem.W.Frag}{mg:Str->Option Value}{base:Heap}{a:iT}(tx:Txt K mg a):bL P w K mg base gF 1 a.lV a.lW ["_law_store_here","_law_level"] (aDF K):=by
 refine tx.rR.ok aDh (fun vs H Q E h=>?_) (fun cdv A outer s H vs Q E hr h=>?_)
 ·obtain⟨v,o,l,rfl,_⟩:=h
  rfl
 ·obtain⟨v,o,l,rfl ,hv,hg,k⟩:=h
  have hu:=jI hr
  refine Z.root (Z.aD (Z.cC (Z.bE aCU (Z.pv 0) Z.jS (bI _)) (Z.aG (Z.aY (Z.aFu Z.aA))) Z.bH)
   (Z.aG (Z.aY (Z.cE (rc:=aFw) (aCV rfl) (by rfl) tx.jH lJ (Z.aE (Z.cE (rc:=aMK) aEX (by rfl) tx.dI aGP (Z.aE (Z.aP (jJ rfl) (by rfl) tx.sQ vW (Z.aE Z.aA (Z.aE (Z.aS eQ (Z.pv 1) (Z.aJ (K':=K) (Z.pv 0) Z.aA (fun _ _=>rfl))) Z.aC))) (Z.aE (Z.aS bJ (Z.aP (kS rfl) (by rfl) tx.pQ rM (Z.aE (Z.aJ (K':=K) (Z.pv 0) Z.aA (fun _ _=>rfl)) (Z.aE (Z.aS bJ (Z.pv 1) (Z.aJ (K':=K) (Z.pv 0) Z.aA (fun _ _=>rfl))) Z.aC))) Z.aA) Z.aC))) Z.aC))))) ?_
  refine aO (σ:=[some v,some (.int l)]) rfl ?_
  cases o with
  |none=>
   replace hv:v=.non:=hv
   subst hv
   walk_at "w"
   intro q nq
   walk_at "w"
   exact k q _ (aI.new nq) nq aH
  |some s=>
   obtain⟨b,rfl,hb⟩:=hv
   obtain⟨gs,l0,l1⟩:=hg s rfl
   obtain⟨c0,c1⟩:=gs.cap
   obtain⟨i0,i1⟩:=gs.into
   obtain⟨o0,o1⟩:=gs.out
   have e1:=hb.at_
   walk_at "w"
   intro p np
   walk_at "w"
   refine aGU aH (by omega) (by omega) ?_
   intro q nq
   exact k q _ ((aI.new np).trans (aI.new nq)) ((aI.new np).free nq) aH
theorem aHr{l:Addr}{H H2:Hp}(h:H l=none)(s:aI H H2):aI H (del l H2):=fun b o e=>by rw[zJ (bC h e)];exact s b o e
theorem aIq{α:Type}{l:List α}{x:α}(h:l.Nodup)(n:x∉l):(l ++ [x]).Nodup:=by
 rw[List.nodup_append]
 refine⟨h,by simp,fun a ha b hb z=>?_⟩
 rw[List.mem_singleton.mp hb] at z
 exact n (by rw[<-z];exact ha)
theorem aLO:Am (10 ^ (12:Int).toNat):=⟨by decide,by decide⟩
theorem bB.upR{H H':Hp}{p l:Addr}{qs:List Addr}(hh:bB H p)(hl:H l=some (.lst (qs.map V.ref)))(k:bX l H H'):bB H' p:=by
 obtain⟨d,c,q,ms,hp,hq,hne,hqp⟩:=hh.ex
 refine⟨⟨d,c,q,ms,k _ _ hp (Ne.symm (hh.aLB hl)),k _ _ hq (fun z=>?_),hne,hqp⟩⟩
 rw[z,hl] at hq
 cases ms with
 |nil=>exact hne rfl
 |cons m ms=>
  cases qs with
  |nil=>cases hq
  |cons _ _=>cases hq
theorem aDH(n:Nat):ixN (n+1) (-1)=some n:=by
 unfold ixN
 rw[if_neg (by omega),if_pos (by omega)]
 congr 1
 omega
theorem RL.set{α:Type}{P:Addr->α->Prop}{as:List Addr}{xs:List α}(h:RL P as xs){i:Nat}{a:Addr}{x:α}(hp:P a x):RL P (as.set i a) (xs.set i x):=by
 refine⟨by rw[List.length_set,List.length_set,h.len],fun j q u hq hu=>?_⟩
 rw[List.getElem?_set] at hq hu
 by_cases e:i=j
 ·rw[if_pos e] at hq hu
  split at hq
  ·split at hu
   ·cases hq;cases hu;exact hp
   ·cases hu
  ·cases hq
 ·rw[if_neg e] at hq hu
  exact h.at_ j q u hq hu
theorem aHs{ms:List MS}{i:Nat}{m:MS}(h:∀m∈ms,m.Good)(g:m.Good):∀m'∈ms.set i m,m'.Good:=fun m' hm=>by
 rcases List.mem_or_eq_of_mem_set hm with h1|h1
 ·exact h m' h1
 ·rw[h1];exact g
theorem aJ4{u d b r t l:Int}{pl:Addr}{ms:List Int}(h:some (HO.lst [.int u,.int d,.int b,.int r,.int t,.int l,.ref pl])=some (HO.lst (ms.map V.int))):False:=by
 injection h with h
 injection h with h
 have z:(ms.map V.int)[6]?=some (.ref pl):=by rw[<-h];rfl
 rw[List.getElem?_map] at z
 obtain⟨n,_,e⟩:=Option.map_eq_some_iff.mp z
 cases e
theorem aLP{n:Nat}{k:Int}(h0:0<=k)(h:k.toNat < n):ixN n k=some k.toNat:=by
 obtain⟨j,rfl⟩:=Int.eq_ofNat_of_zero_le h0
 unfold ixN
 rw[if_pos h0,if_pos (by omega)]
theorem MS.aOL(m:MS)(g:m.Good){v r:Int}(av:Am v)(r0:0<=r)(r1:r < 4)(pl:Addr):∃m':MS,[V.int m.up,.int m.down,.int m.begin_,.int m.run,.int m.rest,.int m.least,.ref pl].set (2+r).toNat (.int v)=[V.int m'.up,.int m'.down,.int m'.begin_,.int m'.run,.int m'.rest,.int m'.least,.ref pl]/\m'.Good/\m'.pieces=m.pieces:=by
 rcases(show r=0\/r=1\/r=2\/r=3 by omega) with rfl|rfl|rfl|rfl
 ·exact⟨{ m with begin_:=v },rfl,⟨g.up,g.down,av,g.run,g.rest,g.least,g.pieces⟩,rfl⟩
 ·exact⟨{ m with run:=v },rfl,⟨g.up,g.down,g.begin_,av,g.rest,g.least,g.pieces⟩,rfl⟩
 ·exact⟨{ m with rest:=v },rfl,⟨g.up,g.down,g.begin_,g.run,av,g.least,g.pieces⟩,rfl⟩
 ·exact⟨{ m with least:=v },rfl,⟨g.up,g.down,g.begin_,g.run,g.rest,av,g.pieces⟩,rfl⟩
def zN(K:W.Frag):Sp:=fun vs H Q _=>∃(p:Addr) (n:Int),vs=[.ref p,.int n]/\bB H p/\0<=n/\n<=6/\
 ∀(s:Addr) (W:WS) H',rB H' s W->W.Good->bB H' p->bX p H H'->H s=none->Q (.ref s) H'
theorem zO{P:Program}{w:World}{K:PySem.W.Frag}{mg:Str->Option Value}{base:Heap}{a:iT}(tx:Txt K mg a):bL P w K mg base gF 4 a.gG a.gH ["_law_hand","_law_most"] (zN K):=by
 have aK:=cT (P:=P) (w:=w) (base:=base) tx
 have yX:=aDt (P:=P) (w:=w) (base:=base) tx
 have aHt:=aFV (P:=P) (w:=w) (base:=base) tx
 have aF8:=aEu (P:=P) (w:=w) (base:=base) tx
 refine tx.kL.ok bQ (fun vs H Q E h=>?_) (fun cdv A outer s H vs Q E hr h=>?_)
 ·obtain⟨p,n,rfl,_⟩:=h
  rfl
 ·obtain⟨p,n,rfl ,hh,n0,n1,k⟩:=h
  have hu:=jI hr
  refine Z.root (Z.aD (Z.aV (i:=2) bQ.nd rfl (Or.inr rfl) (Z.aCR (Z.aF (yX) (hr.mono (by decide)) (by rfl) tx.rP tx.mF.kp tx.rO .nil aQ (Z.aE (Z.pv 0) Z.aC)) (Z.aF (yX) (hr.mono (by decide)) (by rfl) tx.rP tx.mF.kp tx.rO .nil aQ (Z.aE (Z.pv 0) Z.aC))))
   (Z.aD (Z.aV (i:=3) bQ.nd rfl (Or.inr rfl) (Z.cE aEW (by rfl) tx.aAS aFq (Z.aE (Z.nE (r:=oZ K) (eF hu) (Z.aF (aK) (hr.mono (by decide)) (by rfl) tx.aN tx.aL.kp tx.aM .nil aQ (Z.aE (Z.pv 0) (Z.aE Z.aA Z.aC))) Z.aA (bI _)) Z.aC)))
   (Z.aD (Z.aV (i:=4) bQ.nd rfl (Or.inl rfl) (Z.aF (aK) (hr.mono (by decide)) (by rfl) tx.aN tx.aL.kp tx.aM .nil aQ (Z.aE (Z.pv 0) (Z.aE (Z.aJ (K':=K) (Z.aCR (Z.aS bJ (Z.pv 1) Z.aA) Z.aA) (Z.pv 3) (fun _ _=>rfl)) Z.aC))))
   (Z.aD (Z.pZ (k:=1) (idx:=[2,0,3]) (N:=["_law_k","_law_by","_law_hand","_law_wide"]) (i:=5) bQ.nd rfl (Or.inl rfl) (cQ (sc:=aB cF) (NX:=["_law_hand","_law_most","_law_by","_law_wide","_law_many","_law_specs","_law_store_here","_law_lack"]) rfl rfl rfl (by decide +kernel)) rfl (Z.dC (by rfl) tx.dI (Z.aE (Z.pv 4) Z.aC)) (fun _ _ _ _=>(Z.aT (i:=0) (show(["_law_k","_law_by","_law_hand","_law_wide"]:List Str).Nodup by decide +kernel) rfl (Or.inl rfl))) (eB (by decide)) (fun _ _ _ _=>Z.dG) (fun _ _ _ _=>(Z.aF (aHt) (hr.mono (by decide)) (by rfl) tx.aBT tx.wH.kp tx.aBS .nil aQ (Z.aE (Z.pv 2) (Z.aE (Z.pv 1) (Z.aE (Z.aJ (K':=K) (Z.aCR Z.aA Z.aA) (Z.pv 3) (fun _ _=>rfl)) Z.aC))))))
   (Z.aD (Z.cC (Z.vC (Z.sY (Z.bE (r:=aFr K) (aBg hu) (Z.pv 5) (Z.jU Z.aC) (bI _)) (Z.nC (Z.bE (r:=oZ K) (eF hu) (Z.aF (aK) (hr.mono (by decide)) (by rfl) tx.aN tx.aL.kp tx.aM .nil aQ (Z.aE (Z.pv 0) (Z.aE Z.aA Z.aC))) Z.aA (bI _))))) (Z.aG (Z.y4 (Z.aS aCJ Z.aA Z.aA) (Z.aA8 (Z.aJ (K':=K) (Z.pv 5) Z.aA (fun _ _=>rfl)) (Z.aS bJ Z.aA (Z.aF (aK) (hr.mono (by decide)) (by rfl) tx.aN tx.aL.kp tx.aM .nil aQ (Z.aE (Z.pv 0) (Z.aE Z.aA Z.aC)))) set_list))) Z.bH)
   (Z.aD (Z.cC (Z.vC (Z.sY (Z.bE (r:=aFr K) (aBg hu) (Z.pv 5) (Z.jU Z.aC) (bI _)) (Z.nC (Z.bE (r:=oZ K) (eF hu) (Z.aF (aK) (hr.mono (by decide)) (by rfl) tx.aN tx.aL.kp tx.aM .nil aQ (Z.aE (Z.pv 0) (Z.aE Z.aA Z.aC))) Z.aA (bI _))))) (Z.aG (Z.y4 (Z.aJ (K':=K) (Z.pv 5) Z.aA (fun _ _=>rfl)) (Z.aA8 (Z.pv 5) (Z.aBG aBa Z.aA) set_list))) Z.bH)
   (Z.aD (Z.aV (i:=6) bQ.nd rfl (Or.inl rfl) (Z.aF (aF8) (hr.mono (by decide)) (by rfl) tx.aAG tx.uI.kp tx.aAF .nil aQ (Z.aE (Z.pv 0) (Z.aE (Z.pv 2) Z.aC))))
   (Z.aD (Z.aV (i:=7) bQ.nd rfl (Or.inl rfl) (Z.aS bK (Z.aJ (K':=K) (Z.pv 2) Z.aA (fun _ _=>rfl)) (Z.aF (aK) (hr.mono (by decide)) (by rfl) tx.aN tx.aL.kp tx.aM .nil aQ (Z.aE (Z.pv 0) (Z.aE Z.aA Z.aC)))))
   (Z.aD (Z.cC (Z.vC (Z.sY (Z.bE (r:=oZ K) (eF hu) (Z.pv 3) Z.aA (bI _)) (Z.nC (Z.bE xU (Z.pv 6) Z.jS (bI _))))) (Z.aG (Z.aV (i:=6) bQ.nd rfl (Or.inl rfl) (Z.aS bJ (Z.aHW (Z.aF (aK) (hr.mono (by decide)) (by rfl) tx.aN tx.aL.kp tx.aM .nil aQ (Z.aE (Z.pv 0) (Z.aE Z.aA Z.aC))) (Z.aF (aK) (hr.mono (by decide)) (by rfl) tx.aN tx.aL.kp tx.aM .nil aQ (Z.aE (Z.pv 0) (Z.aE Z.aA Z.aC))) (Z.aF (aK) (hr.mono (by decide)) (by rfl) tx.aN tx.aL.kp tx.aM .nil aQ (Z.aE (Z.pv 0) (Z.aE Z.aA Z.aC)))) (Z.rZ (rs:=aJz K) aMk (Z.pv 6) (Z.xO Z.aA) Z.xN)))) Z.bH)
   (Z.aD (Z.cC (Z.vC (Z.sY (Z.bE (r:=oZ K) (eF hu) (Z.pv 3) Z.aA (bI _)) (Z.nC (Z.bE (r:=oZ K) (eF hu) (Z.aF (aK) (hr.mono (by decide)) (by rfl) tx.aN tx.aL.kp tx.aM .nil aQ (Z.aE (Z.pv 0) (Z.aE Z.aA Z.aC))) Z.aA (bI _))))) (Z.aG (Z.aV (i:=7) bQ.nd rfl (Or.inl rfl) (Z.aS aCJ Z.aA Z.aA))) Z.bH)
   (Z.aG (Z.aY (Z.aMF (Z.pv 5) (Z.pv 6) (Z.pv 7) (Z.pv 2) (Z.pv 3)))))))))))))) ?_
  refine aO (σ:=[some (.ref p),some (.int n),none,none,none,none,none,none]) rfl ?_
  walk_at "w"
  refine⟨p,rfl,hh,fun x H1 x0 x1 h1 k1 _=>?_⟩
  walk_at "w"
  refine⟨p,rfl,h1,fun y H2 y0 y1 h2 k2 _=>?_⟩
  walk_at "w"
  intro b nb
  obtain⟨H3,e3,sb,hb3⟩:=nw _ nb;rw[e3]
  have h3:=h2.same sb
  have K3:bX p H H3:=k1.trans (k2.trans sb.keep)
  have nbH:H b=none:=mM (k1.trans k2) h2 nb
  have bp:b≠p:=hh.aOH nbH
  walk_at "w"
  refine⟨p,_,rfl,h3,by decide,by decide,fun r4 H4 a4 b4 h4 k4 _=>?_⟩
  walk_at "w"
  obtain⟨wd,hwd,hwd0⟩ : ∃wd:Int,(if decide (r4=7)=true then (1:Int) else 0)=wd/\(wd=0\/wd=1):=by
   by_cases h:r4=7
   ·exact⟨1,by rw[if_pos (decide_eq_true h)],.inr rfl⟩
   ·exact⟨0,by rw[if_neg (by simpa using h)],.inl rfl⟩
  rw[hwd]
  walk_at "w"
  have hb4:=k4 _ _ hb3 bp
  have K4:=K3.trans k4
  intro l1 nl1
  obtain⟨H5,e5,s5,g5⟩:=nw _ nl1;rw[e5]
  obtain⟨M,hM,M0,M1⟩ : ∃M:Int,xP [V.int (n+1),.int 7] wd=some (.int M)/\1<=M/\M<=7:=by
   rcases hwd0 with rfl|rfl
   ·exact⟨n+1,rfl,by omega,by omega⟩
   ·exact⟨7,rfl,by decide,by decide⟩
  have hb5:=s5 _ _ hb4
  have h5:=h4.same s5
  have K5:=K4.trans (s5.keep (p:=p))
  walk_at "w"
  refine⟨p,_,rfl,h5,by omega,by omega,fun many H6 m0 m1 h6 k6 _=>?_⟩
  have hb6:=k6 _ _ hb5 bp
  have K6:=K5.trans k6
  repeat walk_at "st"
  refine iS (fun σ' H'=>∃(l:Addr) (qs:List Addr) (ms:List MS),σ'=[some (.ref p),some (.int n),some (.ref b),some (.int wd),some (.int many),some (.ref l),none,none]/\H' l=some (.lst (qs.map V.ref))/\qs.length<=6/\RL (cM (del l H')) qs ms/\(∀m∈ms,m.Good)/\H' b=some (.lst [.int x,.int y])/\bB H' p/\bX p H H'/\H l=none/\b≠l/\l≠p/\qs.Nodup/\∀q∈qs,H q=none) (fun N hN=>?_) ?_
  ·walk_at "w"
   refine⟨by omega,by omega,?_⟩
   refine oY (fun i us H'=>∃(qs:List Addr) (ms:List MS),us=qs.map V.ref/\qs.length=i/\RL (cM H') qs ms/\(∀m∈ms,m.Good)/\H' b=some (.lst [.int x,.int y])/\bB H' p/\bX p H H'/\qs.Nodup/\∀q∈qs,H q=none) ⟨[],[],rfl,rfl,RL.nil,(fun m h=>by cases h),hb6,h6,K6,List.nodup_nil,fun q h=>by cases h⟩ (cD (by omega))
    (fun i us H' hi ⟨qs,ms,f1,f2,f3,f4,f5,f6,f7,f8,f9⟩=>by rw[f1,List.length_map];omega) (fun i us H' hi ⟨qs,ms,f1,f2,f3,f4,f5,f6,f7,f8,f9⟩=>?_) (fun us H' ⟨qs,ms,f1,f2,f3,f4,f5,f6,f7,f8,f9⟩=>?_)
   ·obtain⟨L,hL,L0,L1⟩ : ∃L:Int,xP [V.int 3,.int 12] wd=some (.int L)/\1<=L/\L<=12:=by
     rcases hwd0 with rfl|rfl
     ·exact⟨3,rfl,by decide,by decide⟩
     ·exact⟨12,rfl,by decide,by decide⟩
    walk_at "w"
    intro l2 nl2
    obtain⟨H7,e7,s7,g7⟩:=nw _ nl2;rw[e7]
    walk_at "w"
    refine⟨p,b,x,y,L,rfl,f6.same s7,s7 _ _ f5,x0,x1,y0,y1,L0,L1,fun s m H8 hs gm _ _ h8 k8 nA=>?_⟩
    have nds:(qs ++ [s]).Nodup:=aIq f8 fun z=>by
     obtain⟨j,hj⟩:=List.getElem?_of_mem z
     have hj':j < ms.length:=by rw[<-f3.len];exact(List.getElem?_eq_some_iff.mp hj).1
     obtain⟨pl',hq',_⟩:=(f3.at_ j s _ hj (List.getElem?_eq_getElem hj')).ex
     rw[s7 _ _ hq'] at nA
     cases nA
    have frs:∀q∈qs ++ [s],H q=none:=fun q hq=>by
     rcases List.mem_append.mp hq with z|z
     ·exact f9 q z
     ·rw[List.mem_singleton.mp z];exact mM (f7.trans s7.keep) (f6.same s7) nA
    refine⟨qs ++ [s],ms ++ [m],by rw[f1,List.map_append];rfl,by rw[List.length_append,f2];rfl,(f3.imp fun a x z=>z.tr (s7.tr.trans ((f6.same s7).tr k8))).snoc hs,fun m' hm'=>?_,k8 _ _ (s7 _ _ f5) bp,h8,f7.trans (s7.keep.trans k8),nds,frs⟩
    rcases List.mem_append.mp hm' with h|h
    ·exact f4 m' h
    ·rw[List.mem_singleton.mp h];exact gm
   ·subst f1
    intro l nl
    obtain⟨H7,e7,sl,g7⟩:=nw _ nl;rw[e7]
    have nlH:H l=none:=mM f7 f6 nl
    walk_at "w"
    exact hN _ _ ⟨l,qs,ms,rfl,g7,by omega,f3.imp fun a x z=>z.same (aHr nl sl),f4,sl _ _ f5,f6.same sl,f7.trans sl.keep,nlH,bC nl f5,hh.aOH nlH,f8,f9⟩
  rintro σ7 H7 ⟨l,qs7,ms7,rfl,hl7,lq7,rl7,gd7,hb7,h7,K7,nlH,bl,lp,nd7,fr7⟩
  refine iS (fun σ' H'=>∃(qs:List Addr) (ms:List MS),σ'=[some (.ref p),some (.int n),some (.ref b),some (.int wd),some (.int many),some (.ref l),none,none]/\H' l=some (.lst (qs.map V.ref))/\qs.length<=6/\RL (cM (del l H')) qs ms/\(∀m∈ms,m.Good)/\H' b=some (.lst [.int x,.int y])/\bB H' p/\bX p H H') (fun N hN=>?_) ?_
  ·walk_at "w"
   intro f1 nf1
   obtain⟨H8,e8,se1,g8⟩:=nw _ nf1;rw[e8]
   have hl8:=se1 _ _ hl7
   have h8:=h7.same se1
   have hb8:=se1 _ _ hb7
   have K8:=K7.trans (se1.keep (p:=p))
   have rl8:RL (cM (del l H8)) qs7 ms7:=rl7.imp fun a x z=>z.tr se1.tr.del
   walk_at "w"
   refine⟨_,aFt (bR.of hl8) (bR.of g8),?_⟩
   walk_at "w"
   refine iR (fun hne=>?_) (fun hne=>?_)
   ·have hqs:qs7≠[]:=fun z=>by rw[z] at hne;simp at hne
    walk_at "w"
    refine⟨p,_,rfl,h8,by decide,by decide,fun r9 H9 a9 b9 h9 k9 _=>?_⟩
    have hl9:=k9 _ _ hl8 lp
    have hb9:=k9 _ _ hb8 bp
    have K9:=K8.trans k9
    have rl9:RL (cM (del l H9)) qs7 ms7:=rl8.imp fun a x z=>z.tr (h8.tr k9).del
    walk_at "w"
    refine cA (fun hr9=>?_) (fun hr9=>?_)
    ·obtain⟨q0,qr,rfl⟩ : ∃q0 qr,qs7=q0::qr:=by
      cases qs7 with
      |nil=>exact absurd rfl hqs
      |cons q0 qr=>exact⟨q0,qr,rfl⟩
     have lms:0 < ms7.length:=by rw[<-rl9.len];exact Nat.zero_lt_succ _
     obtain⟨m0',mr,rfl⟩ : ∃m0' mr,ms7=m0'::mr:=by
      cases ms7 with
      |nil=>exact absurd lms (Nat.lt_irrefl _)
      |cons a r=>exact⟨a,r,rfl⟩
     have hs0:=rl9.at_ 0 q0 m0' rfl rfl
     have g0:=gd7 m0' (List.mem_cons_self ..)
     walk_at "w"
     refine aCP (bR.of hl9) (gQ (j:=0) rfl) ?_
     walk_at "w"
     refine⟨p,_,rfl,h9,by decide,by decide,fun r10 H10 a10 b10 h10 k10 _=>?_⟩
     have hl10:=k10 _ _ hl9 lp
     have hb10:=k10 _ _ hb9 bp
     have K10:=K9.trans k10
     have rl10:RL (cM (del l H10)) (q0::qr) (m0'::mr):=rl9.imp fun a x z=>z.tr (h9.tr k10).del
     have hs10:=rl10.at_ 0 q0 m0' rfl rfl
     obtain⟨pl0,hq0,hpc0⟩:=hs10.ex
     have q0l:q0≠l:=fun z=>by rw[z,aE9] at hq0;cases hq0
     have hq0':=xH _ _ hq0
     have q0p:q0≠p:=h10.aHh hq0' (by simp)
     have q0b:b≠q0:=fun z=>by rw[<-z,hb10] at hq0';cases hq0'
     walk_at "w"
     refine aAd (j:=(2+r10).toNat) hq0' (aLP (by omega) (by show(2+r10).toNat < 7;omega)) ?_
     obtain⟨v12,hv12⟩ : ∃v:Int,v=10 ^ (12:Int).toNat:=⟨_,rfl⟩
     rw[<-hv12]
     have av:Am v12:=by rw[hv12];exact aLO
     obtain⟨mm,emm,gmm,epc⟩:=MS.aOL m0' g0 av a10 b10 pl0
     rw[emm]
     obtain⟨J11,i11,k11,j11⟩:=wr H10 q0 _;rw[i11]
     have pl0q:pl0≠q0:=fun z=>by
      obtain⟨qs',e',_⟩:=hpc0.ex
      rw[z,hq0] at e'
      cases qs' with
      |nil=>cases e'
      |cons _ _=>cases e'
     have kd:∀d o,del l H10 d=some o->d≠q0->del l J11 d=some o:=fun d o e n=>by
      have nl':d≠l:=fun z=>by rw[z,aE9] at e;cases e
      rw[zJ nl'] at e ⊢
      exact k11 _ _ e n
     have hpc1:yD (del l J11) pl0 m0'.pieces:=by
      obtain⟨qs',e',t'⟩:=hpc0.ex
      exact⟨qs',kd _ _ e' pl0q,t'.len,fun j q t h1 h2=>kd _ _ (t'.at_ j q t h1 h2) fun z=>by have y:=t'.at_ j q t h1 h2;rw[z,hq0] at y;cases y⟩
     have hsp:cM (del l J11) q0 mm:=⟨pl0,mN j11 q0l,by rw[epc];exact hpc1⟩
     walk_at "w"
     refine hN _ _ ⟨q0::qr,mm::mr,rfl,k11 _ _ hl10 (Ne.symm q0l),lq7,⟨by have:=rl10.len;simpa using this,fun j a z h1 h2=>?_⟩,aHs (i:=0) gd7 gmm,k11 _ _ hb10 q0b,?_,fun d o e nd=>k11 _ _ (K10 _ _ e nd) (bC (fr7 q0 (.head _)) e)⟩
     ·match j,h1,h2 with
      |0,h1,h2=>cases h1;cases h2;exact hsp
      |j+1,h1,h2=>
       have hx:=rl10.at_ (j+1) a z h1 h2
       have aq:a≠q0:=fun y=>(List.nodup_cons.mp nd7).1 (by rw[<-y];exact List.mem_of_getElem? h1)
       obtain⟨pl1,e1',hpc'⟩:=hx.ex
       obtain⟨qs',e2',t'⟩:=hpc'.ex
       have p1q:pl1≠q0:=fun y=>by
        rw[y,hq0] at e2'
        cases qs' with
        |nil=>cases e2'
        |cons _ _=>cases e2'
       exact⟨pl1,kd _ _ e1' aq,qs',kd _ _ e2' p1q,t'.len,fun j q t h1 h2=>kd _ _ (t'.at_ j q t h1 h2) fun y=>by have w:=t'.at_ j q t h1 h2;rw[y,hq0] at w;cases w⟩
     ·obtain⟨dd,cc,qq,mms,hp',hq',hne',hqp'⟩:=h10.ex
      refine⟨⟨dd,cc,qq,mms,k11 _ _ hp' (Ne.symm q0p),k11 _ _ hq' (fun y=>?_),hne',hqp'⟩⟩
      rw[y,hq0'] at hq'
      exact aJ4 hq'
    ·walk_at "w"
     exact hN _ _ ⟨qs7,ms7,rfl,hl9,lq7,rl9,gd7,hb9,h9,K9⟩
   ·walk_at "w"
    exact hN _ _ ⟨qs7,ms7,rfl,hl8,lq7,rl8,gd7,hb8,h8,K8⟩
  rintro σ8 H8 ⟨qs8,ms8,rfl,hl8,lq8,rl8,gd8,hb8,h8,K8⟩
  refine iS (fun σ' H'=>∃(ms:List MS),σ'=[some (.ref p),some (.int n),some (.ref b),some (.int wd),some (.int many),some (.ref l),none,none]/\uW H' l ms/\ms.length<=6/\(∀m∈ms,m.Good)/\H' b=some (.lst [.int x,.int y])/\bB H' p/\bX p H H') (fun N hN=>?_) ?_
  ·walk_at "w"
   intro f1 nf1
   obtain⟨H9,e9,se1,g9⟩:=nw _ nf1;rw[e9]
   have hl9:=se1 _ _ hl8
   have h9:=h8.same se1
   have hb9:=se1 _ _ hb8
   have K9:=K8.trans (se1.keep (p:=p))
   have rl9:RL (cM (del l H9)) qs8 ms8:=rl8.imp fun a x z=>z.tr se1.tr.del
   have lms9:=rl9.len
   walk_at "w"
   refine⟨_,aFt (bR.of hl9) (bR.of g9),?_⟩
   walk_at "w"
   refine iR (fun hne=>?_) (fun hne=>?_)
   ·have hqs:qs8≠[]:=fun z=>by rw[z] at hne;simp at hne
    walk_at "w"
    refine⟨p,_,rfl,h9,by decide,by decide,fun r9 H10 a9 b9 h10 k10 _=>?_⟩
    have hl10:=k10 _ _ hl9 lp
    have hb10:=k10 _ _ hb9 bp
    have K10:=K9.trans k10
    have rl10:RL (cM (del l H10)) qs8 ms8:=rl9.imp fun a x z=>z.tr (h9.tr k10).del
    walk_at "w"
    refine cA (fun hr9=>?_) (fun hr9=>?_)
    ·obtain⟨q0,qr,rfl⟩ : ∃q0 qr,qs8=q0::qr:=by
      cases qs8 with
      |nil=>exact absurd rfl hqs
      |cons q0 qr=>exact⟨q0,qr,rfl⟩
     obtain⟨m0',mr,rfl⟩ : ∃m0' mr,ms8=m0'::mr:=by
      cases ms8 with
      |nil=>cases lms9
      |cons a r=>exact⟨a,r,rfl⟩
     have hs0:=rl10.at_ 0 q0 m0' rfl rfl
     walk_at "w"
     refine aCP (bR.of hl10) (gQ (j:=0) rfl) ?_
     walk_at "w"
     refine aAd (j:=qr.length) hl10 (by rw[List.length_map,List.length_cons];exact aDH _) ?_
     obtain⟨J11,i11,k11,j11⟩:=wr H10 l _;rw[i11]
     have dl:del l J11=del l H10:=by rw[<-i11,aI1]
     have hset:=rl10.set (i:=qr.length) hs0
     walk_at "w"
     refine hN _ _ ⟨(m0'::mr).set qr.length m0',rfl,⟨(q0::qr).set qr.length q0,?_,hset.imp fun a x z=>((dl▸z:cM (del l J11) a x)).same xH⟩,by rw[List.length_set,<-lms9];exact lq8,aHs gd8 (gd8 m0' (List.mem_cons_self ..)),k11 _ _ hb10 bl,h10.upR hl10 k11,fun d o e nd=>k11 _ _ (K10 _ _ e nd) (bC nlH e)⟩
     rw[j11,List.map_set]
    ·walk_at "w"
     exact hN _ _ ⟨ms8,rfl,⟨qs8,hl10,rl10.imp fun a x z=>z.same xH⟩,by rw[<-lms9];exact lq8,gd8,hb10,h10,K10⟩
   ·walk_at "w"
    exact hN _ _ ⟨ms8,rfl,⟨qs8,hl9,rl9.imp fun a x z=>z.same xH⟩,by rw[<-lms9];exact lq8,gd8,hb9,h9,K9⟩
  rintro σ9 H9 ⟨ms9,rfl,sp9,ln9,gd9,hb9,h9,K9⟩
  walk_at "w"
  refine⟨p,b,x,y,rfl,h9,hb9,x0,x1,fun v o H10 st10 go10 fr10 h10 k10 _=>?_⟩
  have T10:=h9.tr k10
  have sp10:=sp9.tr T10
  have hb10:=k10 _ _ hb9 bp
  have K10:=K9.trans k10
  walk_at "w"
  refine⟨p,_,rfl,h10,by decide,by decide,fun r11 H11 a11 b11 h11 k11 _=>?_⟩
  have T11:=h10.tr k11
  have sp11:=sp10.tr T11
  have st11:=st10.tr T11
  have hb11:=k11 _ _ hb10 bp
  have K11:=K10.trans k11
  have g11:0<=y*r11/\y*r11<=550000000000:=⟨Int.mul_nonneg (by omega) (by omega),Int.le_trans (Int.mul_le_mul_of_nonneg_left (show r11<=11 by omega) (by omega)) (by omega)⟩
  repeat walk_at "st"
  refine iS (fun σ' H'=>∃(v:V) (o:Option SS),σ'=[some (.ref p),some (.int n),some (.ref b),some (.int wd),some (.int many),some (.ref l),some v,some (.int (y*r11))]/\uW H' l ms9/\aEk H' v o/\(∀s,o=some s->s.Good)/\H' b=some (.lst [.int x,.int y])/\bB H' p/\bX p H H') (fun N hN=>?_) ?_
  ·walk_at "w"
   refine cA (fun hw1=>?_) (fun hw1=>?_)
   ·cases o with
    |none=>
     replace st11:v=.non:=st11
     subst st11
     walk_at "w"
     exact hN _ _ ⟨_,none,rfl,sp11,rfl,go10,hb11,h11,K11⟩
    |some s=>
     obtain⟨c,rfl,hc⟩:=st11
     have gs:=go10 s rfl
     walk_at "w"
     refine⟨p,_,rfl,h11,by decide,by decide,fun u1 H12 a12 b12 h12 k12 _=>?_⟩
     walk_at "w"
     refine⟨p,_,rfl,h12,by decide,by decide,fun u2 H13 a13 b13 h13 k13 _=>?_⟩
     walk_at "w"
     refine⟨p,_,rfl,h13,by decide,by decide,fun u3 H14 a14 b14 h14 k14 _=>?_⟩
     have T14:=(h11.tr k12).trans ((h12.tr k13).trans (h13.tr k14))
     have hc14:=(hc.tr T14).at_
     walk_at "w"
     intro c1 nc1
     obtain⟨J1,i1,t1,j1⟩:=nw _ nc1;rw[i1]
     have hc15:=t1 _ _ hc14
     walk_at "w"
     refine aBh (bR.of hc15) ?_
     rw[show pV [V.int s.cap,.int s.into,.int s.out,.int s.takes,.int s.gives] (some 3) none=[.int s.takes,.int s.gives] from rfl]
     intro c2 nc2
     obtain⟨J2,i2,t2,j2⟩:=nw _ nc2;rw[i2]
     walk_at "w"
     refine xR (t2 _ _ j1) j2 (cD (by simp)) ?_
     intro c3 nc3
     obtain⟨J3,i3,t3,j3⟩:=nw _ nc3;rw[i3]
     have tt:=t1.trans (t2.trans t3)
     walk_at "w"
     refine hN _ _ ⟨_,some ⟨u1,u2,u3,s.takes,s.gives⟩,rfl,sp11.tr (T14.trans tt.tr),⟨c3,rfl,⟨j3⟩⟩,fun s' e=>?_,(T14.trans tt.tr) _ _ hb11 (aDw (by simp)),h14.same tt,K11.trans (k12.trans (k13.trans (k14.trans tt.keep)))⟩
     cases e
     exact⟨⟨a12,by show u1<=8;omega⟩,⟨a13,by show u2<=8;omega⟩,⟨a14,by show u3<=8;omega⟩,gs.takes,gs.gives⟩
   ·walk_at "w"
    exact hN _ _ ⟨v,o,rfl,sp11,st11,go10,hb11,h11,K11⟩
  rintro σ12 H12 ⟨v,o,rfl,sp12,st12,go12,hb12,h12,K12⟩
  refine iS (fun σ' H'=>∃(lk:Int),σ'=[some (.ref p),some (.int n),some (.ref b),some (.int wd),some (.int many),some (.ref l),some v,some (.int lk)]/\Am lk/\uW H' l ms9/\aEk H' v o/\H' b=some (.lst [.int x,.int y])/\bB H' p/\bX p H H') (fun N hN=>?_) ?_
  ·walk_at "w"
   refine cA (fun hw1=>?_) (fun hw1=>?_)
   ·walk_at "w"
    refine⟨p,_,rfl,h12,by decide,by decide,fun u1 H13 a13 b13 h13 k13 _=>?_⟩
    have T13:=h12.tr k13
    walk_at "w"
    refine cA (fun hz=>?_) (fun hz=>?_)
    ·walk_at "w"
     exact hN _ _ ⟨_,rfl,aLO,sp12.tr T13,st12.tr T13,k13 _ _ hb12 bp,h13,K12.trans k13⟩
    ·walk_at "w"
     exact hN _ _ ⟨_,rfl,⟨g11.1,by omega⟩,sp12.tr T13,st12.tr T13,k13 _ _ hb12 bp,h13,K12.trans k13⟩
   ·walk_at "w"
    exact hN _ _ ⟨_,rfl,⟨g11.1,by omega⟩,sp12,st12,hb12,h12,K12⟩
  rintro σ13 H13 ⟨lk,rfl,alk,sp13,st13,hb13,h13,K13⟩
  walk_at "w"
  intro s ns
  obtain⟨J,i,t,j⟩:=nw _ ns;rw[i]
  walk_at "w"
  exact k s ⟨ms9,o,lk,x,y,wd⟩ J ⟨l,v,b,j,sp13.tr t.tr,st13.tr t.tr,t _ _ hb13⟩ ⟨gd9,ln9,go12,alk,⟨x0,x1⟩,⟨y0,y1⟩,hwd0⟩ (h13.same t) (K13.trans t.keep) (mM K13 h13 ns)
theorem aMZ{K:W.Frag}{H:Hp}{n:Nat}{pl pl':Addr}{ps ps':List (Int×Int)}(h:yD H pl ps)(h':yD H pl' ps'):∃b,EqN K H (n+2) (.ref pl) (.ref pl') b/\(b=true->ps=ps'):=by
 obtain⟨qs,h1,h2⟩:=h.ex
 obtain⟨qs',h1',h2'⟩:=h'.ex
 refine⟨_,.inr ⟨pl,pl',_,_,fun j=>(2 == 2 && (List.range 2).all fun i=>match ps[j]?,ps'[j]? with|some t,some t'=>(match i with|0=>decide (t.1=t'.1)|_=>decide (t.2=t'.2))|_,_=>true),rfl,rfl,.inl ⟨bR.of h1,bR.of h1'⟩,fun j u v hu hv=>?_,rfl⟩,fun hb=>?_⟩
 ·rw[List.getElem?_map] at hu hv
  cases e1:qs[j]? with
  |none=>rw[e1] at hu;cases hu
  |some q=>
   cases e2:qs'[j]? with
   |none=>rw[e2] at hv;cases hv
   |some q'=>
    rw[e1] at hu
    rw[e2] at hv
    cases hu
    cases hv
    have l1:j < ps.length:=by rw[<-h2.len];exact(List.getElem?_eq_some_iff.mp e1).1
    have l2:j < ps'.length:=by rw[<-h2'.len];exact(List.getElem?_eq_some_iff.mp e2).1
    have t1:=h2.at_ j q _ e1 (List.getElem?_eq_getElem l1)
    have t2:=h2'.at_ j q' _ e2 (List.getElem?_eq_getElem l2)
    refine .inr ⟨q,q',_,_,fun i=>match ps[j]?,ps'[j]? with|some t,some t'=>(match i with|0=>decide (t.1=t'.1)|_=>decide (t.2=t'.2))|_,_=>true,rfl,rfl,.inr ⟨kR.of t1,kR.of t2⟩,fun i u v hu hv=>?_,rfl⟩
    rw[List.getElem?_eq_getElem l1,List.getElem?_eq_getElem l2]
    match i,hu,hv with
    |0,hu,hv=>
     cases hu;cases hv
     cases n with
     |zero=>exact⟨rfl,rfl,rfl⟩
     |succ n=>exact .inl ⟨rfl,rfl,rfl⟩
    |1,hu,hv=>
     cases hu;cases hv
     cases n with
     |zero=>exact⟨rfl,rfl,rfl⟩
     |succ n=>exact .inl ⟨rfl,rfl,rfl⟩
    |_+2,hu,_=>simp at hu
 ·rw[Bool.and_eq_true,List.all_eq_true] at hb
  obtain⟨b1,b2⟩:=hb
  have hl:ps.length=ps'.length:=by
   have:=beq_iff_eq.mp b1
   rw[List.length_map,List.length_map,h2.len,h2'.len] at this
   exact this
  refine List.ext_getElem hl fun j l1 l2=>?_
  have c:=b2 j (List.mem_range.mpr (by rw[List.length_map,h2.len];exact l1))
  rw[Bool.and_eq_true,List.all_eq_true] at c
  have c0:=c.2 0 (by simp)
  have c1:=c.2 1 (by simp)
  simp only[List.getElem?_eq_getElem l1,List.getElem?_eq_getElem l2] at c0 c1
  exact Prod.ext (of_decide_eq_true c0) (of_decide_eq_true c1)
theorem aLQ{K:W.Frag}{H:Hp}{s t:Addr}{m m':MS}(h1:cM H s m)(h2:cM H t m'):∃b,EqN K H 8 (.ref s) (.ref t) b/\(b=true->m=m'):=by
 obtain⟨pl,e1,p1⟩:=h1.ex
 obtain⟨pl',e2,p2⟩:=h2.ex
 obtain⟨bp,hbp,ep⟩:=aMZ (K:=K) (n:=5) p1 p2
 refine⟨_,.inr ⟨s,t,_,_,fun j=>match j with|0=>decide (m.up=m'.up)|1=>decide (m.down=m'.down)|2=>decide (m.begin_=m'.begin_)|3=>decide (m.run=m'.run)|4=>decide (m.rest=m'.rest)|5=>decide (m.least=m'.least)|_=>bp,rfl,rfl,.inl ⟨bR.of e1,bR.of e2⟩,fun j u v hu hv=>?_,rfl⟩,fun hb=>?_⟩
 ·match j,hu,hv with
  |0,hu,hv=>cases hu;cases hv;exact .inl ⟨rfl,rfl,rfl⟩
  |1,hu,hv=>cases hu;cases hv;exact .inl ⟨rfl,rfl,rfl⟩
  |2,hu,hv=>cases hu;cases hv;exact .inl ⟨rfl,rfl,rfl⟩
  |3,hu,hv=>cases hu;cases hv;exact .inl ⟨rfl,rfl,rfl⟩
  |4,hu,hv=>cases hu;cases hv;exact .inl ⟨rfl,rfl,rfl⟩
  |5,hu,hv=>cases hu;cases hv;exact .inl ⟨rfl,rfl,rfl⟩
  |6,hu,hv=>cases hu;cases hv;exact hbp
  |_+7,hu,_=>simp at hu
 ·rw[Bool.and_eq_true,List.all_eq_true] at hb
  have q:=fun j (hj:j < 7)=>hb.2 j (List.mem_range.mpr hj)
  have c0:=of_decide_eq_true (q 0 (by decide))
  have c1:=of_decide_eq_true (q 1 (by decide))
  have c2:=of_decide_eq_true (q 2 (by decide))
  have c3:=of_decide_eq_true (q 3 (by decide))
  have c4:=of_decide_eq_true (q 4 (by decide))
  have c5:=of_decide_eq_true (q 5 (by decide))
  have c6:=ep (q 6 (by decide))
  obtain⟨u1,u2,u3,u4,u5,u6,u7⟩:=m
  obtain⟨v1,v2,v3,v4,v5,v6,v7⟩:=m'
  simp only[MS.mk.injEq]
  exact⟨c0,c1,c2,c3,c4,c5,c6⟩
theorem ends{qs:List Addr}(h:qs≠[]):∃q0 ql,qs[0]?=some q0/\qs[qs.length - 1]?=some ql/\xP (qs.map V.ref) 0=some (.ref q0)/\xP (qs.map V.ref) (-1)=some (.ref ql):=by
 have hl:0 < qs.length:=List.length_pos_iff.mpr h
 refine⟨qs[0],qs[qs.length - 1],List.getElem?_eq_getElem hl,List.getElem?_eq_getElem (by omega),aMV (i:=0) (List.getElem?_eq_getElem hl),?_⟩
 obtain⟨n,hn⟩ : ∃n,qs.length=n+1:=⟨qs.length - 1,by omega⟩
 have e:ixN (qs.map V.ref).length (-1)=some n:=by rw[List.length_map,hn];exact aDH n
 unfold xP
 rw[e]
 show(qs.map V.ref)[n]?=_
 rw[List.getElem?_map]
 simp only[hn,Nat.add_sub_cancel]
 rw[List.getElem?_eq_getElem (by omega)]
 rfl
theorem set_same{α:Type}{xs:List α}{i:Nat}{x:α}(h:xs[i]?=some x):xs.set i x=xs:=by
 obtain⟨hi,e⟩:=List.getElem?_eq_some_iff.mp h
 rw[<-e,List.set_getElem_self]
def aEv(K:PySem.W.Frag)(CW CM CS:Addr):Sp:=fun vs H Q _=>∃(s:Addr) (W:WS),vs=[.ref s]/\rB H s W/\W.Good/\∀w H',rC CW CM CS H' w W->aI H H'->H w=none->Q (.ref w) H'
theorem aEw{P:Program}{w:World}{K:PySem.W.Frag}{mg:Str->Option Value}{base:Heap}{a:iT}(tx:Txt K mg a):bL P w K mg base gF 8 a.oB a.oC ["_law_spec_here"] (aEv K a.eO a.aZ a.bY):=by
 have aF9:=aEj (P:=P) (w:=w) (base:=base) tx
 have aGa:=aEs (P:=P) (w:=w) (base:=base) tx
 have aDI:=aCd (P:=P) (w:=w) (base:=base) tx
 refine tx.uJ.ok lO (fun vs H Q E h=>?_) (fun cdv A outer s H vs Q E hr h=>?_)
 ·obtain⟨s,W,rfl,_⟩:=h
  rfl
 ·obtain⟨s,W,rfl ,hW,hg,k⟩:=h
  have hu:=jI hr
  refine Z.root (Z.aD (Z.pZ (k:=1) (idx:=[]) (N:=["_law_one"]) (i:=1) lO.nd rfl (Or.inl rfl) (cQ (sc:=aB fJ) (NX:=["_law_spec_here","_law_machines","_law_store_here"]) rfl rfl rfl (by decide +kernel)) rfl (Z.cV (K':=K) (Z.aJ (K':=K) (Z.pv 0) Z.aA (fun _ _=>rfl))) (fun _ _ _ _=>(Z.aT (i:=0) (show(["_law_one"]:List Str).Nodup by decide +kernel) rfl (Or.inl rfl))) (eB (by decide)) (fun _ _ _ _=>Z.dG) (fun _ _ _ _=>(Z.aF (aDI) (hr.mono (by decide)) (by rfl) tx.wJ tx.pB.kp tx.wI .nil aQ (Z.aE (Z.pv 0) Z.aC))))
   (Z.aD (Z.cC (Z.vC (Z.sY (Z.bE aBH (Z.aP (rc:=vI K) cR (by rfl) tx.jQ iZ (Z.aE (Z.pv 1) Z.aC)) Z.aA (bI _)) (Z.nC (Z.bE (r:=oZ K) (eF hu) (Z.aJ (K':=K) (Z.aJ (K':=K) (Z.pv 0) Z.aA (fun _ _=>rfl)) Z.aA (fun _ _=>rfl)) (Z.aJ (K':=K) (Z.aJ (K':=K) (Z.pv 0) Z.aA (fun _ _=>rfl)) (Z.aBG aBa Z.aA) (fun _ _=>rfl)) (bI _))))) (Z.aG (Z.y4 (Z.aJ (K':=K) (Z.pv 1) Z.aA (fun _ _=>rfl)) (Z.aA8 (Z.pv 1) (Z.aBG aBa Z.aA) set_list))) Z.bH)
   (Z.aD (Z.aV (i:=2) lO.nd rfl (Or.inl rfl) (Z.aJ (K':=K) (Z.pv 0) Z.aA (fun _ _=>rfl)))
   (Z.aD (Z.cC (Z.bE xU (Z.pv 2) Z.jS (bI _)) (Z.aG (Z.aV (i:=2) lO.nd rfl (Or.inl rfl) (Z.vY tx.aIW (aF9) (hr.mono (by decide)) (by rfl) tx.aFO tx.aAy .nil aQ (Z.aE (Z.aJ (K':=K) (Z.pv 2) Z.aA (fun _ _=>rfl)) (Z.aE (Z.aJ (K':=K) (Z.pv 2) Z.aA (fun _ _=>rfl)) (Z.aE (Z.aJ (K':=K) (Z.pv 2) Z.aA (fun _ _=>rfl)) (Z.aE (Z.aJ (K':=K) (Z.pv 2) Z.aA (fun _ _=>rfl)) (Z.aE (Z.aJ (K':=K) (Z.pv 2) Z.aA (fun _ _=>rfl)) Z.aC)))))))) Z.bH)
   (Z.aG (Z.aY (Z.vY tx.aIY (aGa) (hr.mono (by decide)) (by rfl) tx.aIX tx.aAE .nil aQ (Z.aE (Z.pv 1) (Z.aE (Z.pv 2) (Z.aE (Z.aJ (K':=K) (Z.pv 0) Z.aA (fun _ _=>rfl)) Z.aC)))))))))) ?_
  have hlen:=hg.len
  obtain⟨ls,st,b,hs,hsp,hst,hb⟩:=hW.ex
  obtain⟨qs,hl,rl⟩:=hsp.ex
  have lql:=rl.len
  refine aO (σ:=[some (.ref s),none,none]) rfl ?_
  refine iS (fun σ' H'=>∃lm qm,σ'=[some (.ref s),some (.ref lm),none]/\H' lm=some (.lst (qm.map V.ref))/\RL (cN a.aZ (del lm H')) qm W.specs/\aI H H'/\H lm=none) (fun N hN=>?_) ?_
  ·walk_at "w"
   refine mL (bR.of hl) ?_
   refine gR (xs:=qs.map V.ref) (fun i us H'=>aI H H'/\∃as,us=as.map V.ref/\as.length=i/\RL (cN a.aZ H') as (W.specs.take i)) ⟨aI.refl _,[],rfl,rfl,RL.nil⟩ (cD (by rw[List.length_map];omega))
    (fun i us H' hi ⟨s1,as,e1,e2,e3⟩=>⟨bR.of (s1 _ _ hl),by rw[e1,List.length_map];omega⟩) (fun i x us H' hx ⟨s1,as,e1,e2,e3⟩=>?_) (fun us H' ⟨s1,as,e1,e2,e3⟩=>?_)
   ·obtain⟨q,m,_,rfl,hm,hq⟩:=rl.get hx
    walk_at "w"
    refine⟨q,m,rfl,hq.tr s1.tr,hg.specs m (List.mem_of_getElem? hm),fun y H5 hM s5 ny=>?_⟩
    refine⟨s1.trans s5,as ++ [y],by rw[e1,List.map_append];rfl,by rw[List.length_append,e2];rfl,?_⟩
    rw[take_snoc hm]
    exact(e3.imp fun a x z=>z.same s5).snoc hM
   ·subst e1
    intro lm nlm
    obtain⟨H2,e2',s2,g2⟩:=nw _ nlm;rw[e2']
    walk_at "w"
    rw[List.length_map,lql,List.take_length] at e3
    exact hN _ _ ⟨lm,as,rfl,g2,e3.imp fun a x z=>z.same (aHr nlm s2),s1.trans s2,s1.free nlm⟩
  rintro σ1 H1 ⟨lm,qm,rfl,hm1,rm1,s1,nlm⟩
  have lqm:=rm1.len
  refine iS (fun σ' H'=>σ'=[some (.ref s),some (.ref lm),none]/\rA a.aZ H' lm W.specs/\aI H H') (fun N hN=>?_) ?_
  ·walk_at "w"
   refine cA (fun h2=>?_) (fun h2=>?_)
   ·rw[List.length_map] at h2
    have hqs:qs≠[]:=fun z=>by rw[z] at lql;simp at lql;omega
    have hqm:qm≠[]:=fun z=>by rw[z] at h2;simp at h2
    obtain⟨q0,ql,f1,f2,f3,f4⟩:=ends hqs
    obtain⟨a0,al,g1,g2,g3,g4⟩:=ends hqm
    have hn:0 < W.specs.length:=by omega
    have m0:W.specs[0]?=some W.specs[0]:=List.getElem?_eq_getElem hn
    have mln:W.specs.length - 1 < W.specs.length:=by omega
    have ml:W.specs[W.specs.length - 1]?=some W.specs[W.specs.length - 1]:=List.getElem?_eq_getElem mln
    have p0:=(rl.at_ 0 q0 _ f1 m0).tr s1.tr
    have pl:=(rl.at_ (qs.length - 1) ql _ f2 (by rw[lql];exact ml)).tr s1.tr
    have hs1:=s1 _ _ hs
    have hl1:=s1 _ _ hl
    generalize W.specs[0]=mA at m0 p0
    generalize W.specs[W.specs.length - 1]=mB at ml pl
    obtain⟨bb,hbb,ebb⟩:=aLQ (K:=K) p0 pl
    walk_at "w"
    refine⟨bb,hbb,?_⟩
    walk_at "w"
    refine iR (fun h3=>?_) (fun h3=>?_)
    ·have em:=ebb h3
     subst em
     walk_at "w"
     refine aAd (j:=qm.length - 1) hm1 (by rw[List.length_map,show qm.length=(qm.length - 1)+1 by omega];exact aDH _) ?_
     obtain⟨J,i,kj,j⟩:=wr H1 lm _;rw[i]
     have dl:del lm J=del lm H1:=by rw[<-i,aI1]
     have hset:=rm1.set (i:=qm.length - 1) (rm1.at_ 0 a0 mA g1 m0)
     rw[lqm,set_same ml] at hset
     walk_at "w"
     refine hN _ _ ⟨rfl,⟨qm.set (W.specs.length - 1) a0,by rw[j,List.map_set,lqm],hset.imp fun a x z=>((dl▸z:cN _ (del lm J) a x)).same xH⟩,fun b o e=>kj _ _ (s1 _ _ e) (bC nlm e)⟩
    ·walk_at "w"
     exact hN _ _ ⟨rfl,⟨qm,hm1,rm1.imp fun a x z=>z.same xH⟩,s1⟩
   ·walk_at "w"
    exact hN _ _ ⟨rfl,⟨qm,hm1,rm1.imp fun a x z=>z.same xH⟩,s1⟩
  rintro σ2 H2 ⟨rfl,hM2,s2⟩
  have hs2:=s2 _ _ hs
  refine aKM ?_
  repeat walk_at "st"
  refine iS (fun σ' H'=>∃so,σ'=[some (.ref s),some (.ref lm),some so]/\aJ0 a.bY H' so W.store/\rA a.aZ H' lm W.specs/\aI H H') (fun N hN=>?_) ?_
  ·cases e:W.store with
   |none=>
    rw[e] at hst
    replace hst:st=.non:=hst
    subst hst
    walk_at "w"
    exact hN _ _ ⟨_,rfl,(by rw[e];rfl),hM2,s2⟩
   |some ss=>
    rw[e] at hst
    obtain⟨c,rfl,hc⟩:=hst
    have gs:=hg.store ss e
    have hc2:=(hc.tr s2.tr).at_
    walk_at "w"
    intro x dx nx nd hd
    obtain⟨J,i,sj,j⟩:=nwi (C:=a.bY) nx nd hd;rw[i]
    refine⟨x,dx,ss,rfl,j,gs,fun H3 hS kx=>⟨rfl,?_⟩⟩
    walk_at "w"
    exact hN _ _ ⟨_,rfl,(by rw[e];exact⟨x,rfl,hS⟩),hM2.tr (sj.tr.trans (aLG j kx)),fun b o e=>kx _ _ (sj _ _ (s2 _ _ e)) (bC (s2.free nx) e)⟩
  rintro σ3 H3 ⟨so,rfl,hso,hM3,s3⟩
  have hs3:=s3 _ _ hs
  walk_at "w"
  intro x dx nx nd hd
  obtain⟨J,i,sj,j⟩:=nwi (C:=a.eO) nx nd hd;rw[i]
  refine⟨x,dx,lm,so,W,rfl,j,hM3.tr sj.tr,hso.tr sj.tr,hlen,hg.lack,fun H4 hWk kx=>⟨rfl,?_⟩⟩
  exact k x H4 hWk (fun b o e=>kx _ _ (sj _ _ (s3 _ _ e)) (bC (s3.free nx) e)) (s3.free nx)
theorem aCD{H:Hp}{qs:List Addr}{ss:List (Int×Int)}(h:RL (StA H) qs ss){H':Hp}(s:Tk H H'):RL (StA H') qs ss:=h.imp fun a x z=>s _ _ z
def aBy(K:PySem.W.Frag):Sp:=fun vs H Q _=>∃(p s:Addr) (W:WS),vs=[.ref p,.ref s]/\bB H p/\rB H s W/\W.Good/\
 ∀(r:Addr) (P:Ps) H',yW H' r P->aNh W P->(∀(j:Nat) m s,W.specs[j]?=some m->P.1[j]?=some s->St1 m s)->bB H' p->bX p H H'->Q (.ref r) H'
theorem sU{P:Program}{w:World}{K:PySem.W.Frag}{mg:Str->Option Value}{base:Heap}{a:iT}(tx:Txt K mg a):bL P w K mg base gF 3 a.iU a.iV ["_law_hand","_law_spec_here"] (aBy K):=by
 have aK:=cT (P:=P) (w:=w) (base:=base) tx
 have aGb:=aEf (P:=P) (w:=w) (base:=base) tx
 refine tx.iX.ok sG (fun vs H Q E h=>?_) (fun cdv A outer s H vs Q E hr h=>?_)
 ·obtain⟨p,s,W,rfl,_⟩:=h
  rfl
 ·obtain⟨p,s,W,rfl ,hh,hW,hg,k⟩:=h
  have hu:=jI hr
  refine Z.root (Z.aD (Z.aV (i:=2) sG.nd rfl (Or.inl rfl) (Z.cE (rc:=aH1 K) aJG (by rfl) tx.uT aGO (Z.aE (Z.fE (k:=1) (idx:=[0]) (N:=["_law_one","_law_hand"]) (cQ (sc:=aB dE) (NX:=["_law_hand","_law_spec_here","_law_states"]) rfl rfl rfl (by decide +kernel)) rfl (Z.cV (K':=K) (Z.aJ (K':=K) (Z.pv 1) Z.aA (fun _ _=>rfl))) (fun _ _ _ _=>(Z.aT (i:=0) (show(["_law_one","_law_hand"]:List Str).Nodup by decide +kernel) rfl (Or.inl rfl))) (eB (by decide)) (fun _ _ _ _=>Z.dG) (fun _ _ _ _=>(Z.aF (aGb) (hr.mono (by decide)) (by rfl) tx.aAu tx.uB.kp tx.aAt .nil aQ (Z.aE (Z.pv 1) (Z.aE (Z.pv 0) Z.aC))))) Z.aC)))
   (Z.aD (Z.cC (Z.bE aCU (Z.aJ (K':=K) (Z.pv 1) Z.aA (fun _ _=>rfl)) Z.jS (bI _)) (Z.aG (Z.aY (Z.rN (Z.pv 2) Z.aA))) Z.bH)
   (Z.aG (Z.aY (Z.rN (Z.pv 2) (Z.aF (aK) (hr.mono (by decide)) (by rfl) tx.aN tx.aL.kp tx.aM .nil aQ (Z.aE (Z.pv 0) (Z.aE (Z.aS bJ (Z.aJ (K':=K) (Z.aJ (K':=K) (Z.pv 1) Z.aA (fun _ _=>rfl)) Z.aA (fun _ _=>rfl)) Z.aA) Z.aC)))))))) ?_
  have hlen:=hg.len
  obtain⟨ls,st,b,hs,hsp,hst,hb⟩:=hW.ex
  obtain⟨qs,hl,rl⟩:=hsp.ex
  have lql:=rl.len
  have sp:s≠p:=hh.aHh hs (by simp)
  have lp:ls≠p:=hh.aLB hl
  refine aO (σ:=[some (.ref p),some (.ref s),none]) rfl ?_
  walk_at "w"
  refine mL (bR.of hl) ?_
  refine gR (xs:=qs.map V.ref) (fun i us H'=>bB H' p/\bX p H H'/\∃ts ss,us=ts.map V.ref/\ts.length=i/\RL (StA H') ts ss/\(∀s∈ss,VS s)/\∀(j:Nat) m s,W.specs[j]?=some m->ss[j]?=some s->St1 m s) ⟨hh,fun _ _ e _=>e,[],[],rfl,rfl,RL.nil,(fun s h=>by cases h),fun j m s _ h=>by simp at h⟩ (cD (by rw[List.length_map];omega))
   (fun i us H' hi ⟨h1,k1,ts,ss,e1,e2,e3,e4,e5⟩=>⟨bR.of (k1 _ _ hl lp),by rw[e1,List.length_map];omega⟩) (fun i x us H' hx ⟨h1,k1,ts,ss,e1,e2,e3,e4,e5⟩=>?_) (fun us H' ⟨h1,k1,ts,ss,e1,e2,e3,e4,e5⟩=>?_)
  ·obtain⟨q,m,_,rfl,hm,hq⟩:=rl.get hx
   have gm:=hg.specs m (List.mem_of_getElem? hm)
   walk_at "w"
   refine⟨p,q,m,rfl,h1,hq.tr (hh.tr k1),gm,fun t o d H2 ht hod h2 k2=>?_⟩
   refine⟨h2,k1.trans k2,ts ++ [t],ss ++ [(o,d)],by rw[e1,List.map_append];rfl,by rw[List.length_append,e2];rfl,(aCD e3 (h1.tr k2).tk).snoc ht,fun s hs=>?_,fun j m' s' hj hs=>?_⟩
   rotate_left
   ·by_cases hj2:j < ss.length
    ·rw[List.getElem?_append_left hj2] at hs
     exact e5 j m' s' hj hs
    ·have hj3:j < (ss ++ [(o,d)]).length:=(List.getElem?_eq_some_iff.mp hs).1
     rw[List.length_append,List.length_singleton] at hj3
     have ej:j=i:=by have:=e3.len;omega
     rw[List.getElem?_append_right (by omega),show j - ss.length=0 by omega] at hs
     cases hs
     rw[ej,hm] at hj
     cases hj
     exact hod
   rcases List.mem_append.mp hs with h|h
   ·exact e4 s h
   ·rw[List.mem_singleton.mp h]
    rcases hod with ⟨z1,z2,_⟩|⟨z1,z2,_⟩
    ·exact⟨.inr z1,z2⟩
    ·exact⟨.inl z1,z2⟩
  ·subst e1
   rw[List.length_map] at e2
   intro l1 n1
   obtain⟨H2,i2,s2,g2⟩:=nw _ n1;rw[i2]
   walk_at "w"
   refine aML (bR.of g2) ?_
   intro T nT
   obtain⟨H3,i3,s3,g3⟩:=nw _ nT;rw[i3]
   have s23:=s2.trans s3
   have hs3:=s23 _ _ (k1 _ _ hs sp)
   have e33:=aCD e3 s23.tk
   have lss:ss.length=W.specs.length:=by rw[<-e3.len,e2,lql]
   have fin:∀(lev:Int),aFa W lev->∀H4,bB H4 p->bX p H3 H4->Q (.ref T) H4\/True:=fun _ _ _ _ _=>.inr trivial
   cases e:W.store with
   |none=>
    rw[e] at hst
    replace hst:st=.non:=hst
    subst hst
    walk_at "w"
    intro r nr
    obtain⟨H4,i4,s4,g4⟩:=nw _ nr;rw[i4]
    walk_at "w"
    exact k r (ss,0) H4 ⟨T,g4,ts,s4 _ _ g3,aCD e33 s4.tk⟩ ⟨lss,e4,by unfold aFa;rw[e]⟩ e5 (h1.same (s23.trans s4)) (k1.trans (s23.trans s4).keep)
   |some sv=>
    rw[e] at hst
    obtain⟨c,rfl,hc⟩:=hst
    have gs:=(hg.store sv e).cap
    have hc3:=(hc.tr ((hh.tr k1).trans s23.tr)).at_
    walk_at "w"
    refine⟨p,_,rfl,h1.same s23,by omega,by omega,fun r5 H5 a5 b5 h5 k5 _=>?_⟩
    have tk5:=((h1.same s23).tr k5).tk
    walk_at "w"
    intro r nr
    obtain⟨H6,i6,s6,g6⟩:=nw _ nr;rw[i6]
    walk_at "w"
    exact k r (ss,r5) H6 ⟨T,g6,ts,s6 _ _ (tk5 _ _ g3),aCD e33 (tk5.trans s6.tk)⟩ ⟨lss,e4,by unfold aFa;rw[e];exact⟨a5,by show r5<=sv.cap;omega⟩⟩ e5 (h5.same s6) (k1.trans (s23.keep.trans (k5.trans s6.keep)))
def aCn(K:W.Frag)(C:Addr):Sp:=fun vs H Q _=>∃(x:Addr) (s:SS) (l h:Int),vs=[.ref x,.int l,.int h]/\fO C H x s/\s.Good/\0<=l/\l<=8/\0<=h/\h<=48/\
 ∀q H',aI H H'->H' q=some (.lst ((upL (max (l - s.out*h) 0) (min (l+s.into*h) s.cap+1 - max (l - s.out*h) 0).toNat).map V.int))->Q (.ref q) H'
theorem vG{P:Program}{w:World}{K:PySem.W.Frag}{mg:Str->Option Value}{base:Heap}{a:iT}(tx:Txt K mg a):bL P w K mg base gF 1 a.kI a.kJ ["store","level","hours"] (aCn K a.bY):=by
 refine tx.kM.ok mQ (fun vs H Q E h=>?_) (fun cdv A outer s H vs Q E hr h=>?_)
 ·obtain⟨x,ss,l,h,rfl,_⟩:=h
  rfl
 ·obtain⟨x,ss,l,h,rfl ,hs,hg,l0,l1,h0,h1,k⟩:=h
  have hu:=jI hr
  refine Z.root (Z.aD (Z.aV (i:=3) mQ.nd rfl (Or.inl rfl) (Z.aP (jJ rfl) (by rfl) tx.sQ vW (Z.aE (Z.aS eQ (Z.pv 1) (Z.aS bK (Z.fF (K':=K) (Z.pv 0) rfl) (Z.pv 2))) (Z.aE Z.aA Z.aC))))
   (Z.aD (Z.aV (i:=4) mQ.nd rfl (Or.inl rfl) (Z.aP (kS rfl) (by rfl) tx.pQ rM (Z.aE (Z.aS bJ (Z.pv 1) (Z.aS bK (Z.fF (K':=K) (Z.pv 0) rfl) (Z.pv 2))) (Z.aE (Z.fF (K':=K) (Z.pv 0) rfl) Z.aC))))
   (Z.aG (Z.aY (Z.cE (rc:=aFw) (aCV rfl) (by rfl) tx.jH lJ (Z.aE (Z.cE (rc:=aMK) aEX (by rfl) tx.dI aGP (Z.aE (Z.pv 3) (Z.aE (Z.aS bJ (Z.pv 4) Z.aA) Z.aC))) Z.aC)))))) ?_
  obtain⟨dx,hx⟩:=hs.ex
  obtain⟨c0,c1⟩:=hg.cap
  obtain⟨i0,i1⟩:=hg.into
  obtain⟨o0,o1⟩:=hg.out
  have e1:0<=ss.out*h/\ss.out*h<=384:=⟨Int.mul_nonneg o0 h0,Int.le_trans (Int.mul_le_mul o1 h1 h0 (by omega)) (by decide)⟩
  have e2:0<=ss.into*h/\ss.into*h<=384:=⟨Int.mul_nonneg i0 h0,Int.le_trans (Int.mul_le_mul i1 h1 h0 (by omega)) (by decide)⟩
  refine aO (σ:=[some (.ref x),some (.int l),some (.int h),none,none]) rfl ?_
  walk_at "w"
  refine jB hx tx.iY tx.xE rfl ?_
  walk_at "w"
  refine jB hx tx.iY tx.uR rfl ?_
  walk_at "w"
  refine jB hx tx.iY tx.xD rfl ?_
  walk_at "w"
  intro p np
  walk_at "w"
  refine aGU aH (by omega) (by omega) ?_
  intro q nq
  exact k q _ ((aI.new np).trans (aI.new nq)) aH
def aDJ(K:W.Frag)(C:Addr):Sp:=fun vs H Q _=>∃(x:Addr) (s:SS) (l:Int),vs=[.ref x,.int l]/\fO C H x s/\s.Good/\0<=l/\l<=8/\
 ∀q H',aI H H'->H' q=some (.lst ((upL (max (l - s.out*1) 0) (min (l+s.into*1) s.cap+1 - max (l - s.out*1) 0).toNat).map V.int))->Q (.ref q) H'
theorem aDK{P:Program}{w:World}{K:PySem.W.Frag}{mg:Str->Option Value}{base:Heap}{a:iT}(tx:Txt K mg a):bL P w K mg base gF 2 a.lX a.lY ["store","level"] (aDJ K a.bY):=by
 have pU:=vG (P:=P) (w:=w) (base:=base) tx
 refine tx.rS.ok aDi (fun vs H Q E h=>?_) (fun cdv A outer s H vs Q E hr h=>?_)
 ·obtain⟨x,ss,l,rfl,_⟩:=h
  rfl
 ·obtain⟨x,ss,l,rfl ,hs,hg,l0,l1,k⟩:=h
  have hu:=jI hr
  refine Z.root (Z.aG (Z.aY (Z.aF (pU) (hr.mono (by decide)) (by rfl) tx.pH tx.kM.kp tx.pG .nil aQ (Z.aE (Z.pv 0) (Z.aE (Z.pv 1) (Z.aE Z.aA Z.aC)))))) ?_
  refine aO (σ:=[some (.ref x),some (.int l)]) rfl ?_
  walk_at "w"
  exact⟨x,ss,l,1,rfl,hs,hg,l0,l1,by decide,by decide,k⟩
def aHu(K:W.Frag)(C:Addr):Sp:=fun vs H Q _=>∃(x:Addr) (s:SS) (l n:Int),vs=[.ref x,.int l,.int n]/\fO C H x s/\s.Good/\Q (.int (dr s l n)) H
theorem aHv{P:Program}{w:World}{K:PySem.W.Frag}{mg:Str->Option Value}{base:Heap}{a:iT}(tx:Txt K mg a):bL P w K mg base gF 1 a.tV a.tW ["store","level","later"] (aHu K a.bY):=by
 refine tx.zH.ok aBP (fun vs H Q E h=>?_) (fun cdv A outer s H vs Q E hr h=>?_)
 ·obtain⟨x,ss,l,n,rfl,_⟩:=h
  rfl
 ·obtain⟨x,ss,l,n,rfl ,hs,hg,k⟩:=h
  have hu:=jI hr
  refine Z.root (Z.aD (Z.aV (i:=3) aBP.nd rfl (Or.inl rfl) (Z.zW (Z.bE aBH (Z.pv 2) (Z.pv 1) (bI _)) (Z.fF (K':=K) (Z.pv 0) rfl) (Z.fF (K':=K) (Z.pv 0) rfl)))
   (Z.aG (Z.aY (Z.aS bK (Z.pv 3) (Z.aS eQ (Z.pv 2) (Z.pv 1)))))) ?_
  obtain⟨dx,hx⟩:=hs.ex
  obtain⟨t0,t1⟩:=hg.takes
  obtain⟨g0,g1⟩:=hg.gives
  refine aO (σ:=[some (.ref x),some (.int l),some (.int n),none]) rfl ?_
  walk_at "w"
  unfold dr at k
  refine cA (fun h=>?_) (fun h=>?_)
  ·rw[if_pos h] at k
   walk_at "w"
   refine jB hx tx.iY tx.rX rfl ?_
   walk_at "w"
   exact k
  ·rw[if_neg h] at k
   walk_at "w"
   refine jB hx tx.iY tx.rY rfl ?_
   walk_at "w"
   exact k
def κI:PK Int:=.ik (fun n=>.inl n) fun x y h=>Sum.inl.inj h
def upTo(s:SS)(l:Int)(h:Int):List Int:=upL (max (l - s.out*h) 0) (min (l+s.into*h) s.cap+1 - max (l - s.out*h) 0).toNat
def lwy(s:SS)(p x:Int):List (Wy Int):=(upTo s x 1).map fun y=>(y,y,p*dr s x y)
def Wl(s:SS)(ps:List Int)(i:Nat)(x:Int):List (Wy Int):=lwy s (ps.getD i 0) x
def Lys(s:SS)(l:Int)(n:Nat):List (List Int):=(List.range (n+1)).map fun(i:Nat)=>upTo s l (i:Int)
theorem mem_upTo{s:SS}{l h n:Int}:n∈upTo s l h↔max (l - s.out*h) 0<=n/\n<=min (l+s.into*h) s.cap:=by
 unfold upTo
 rw[aFZ]
 omega
theorem aLR(lo:Int):∀k:Nat,(upL lo k).Pairwise (·< ·):=by
 intro k
 unfold upL
 rw[List.pairwise_map]
 exact List.pairwise_lt_range.imp fun h=>by omega
theorem aJ5(s:SS)(l h:Int):(upTo s l h).Pairwise (·< ·):=aLR _ _
theorem aDL{s:SS}(g:s.Good)(l h:Int):(upTo s l h).length<=9:=by
 unfold upTo
 rw[aMU]
 have:=g.cap.2
 omega
theorem u9{s:SS}{l:Int}{n i:Nat}{ps:List Int}(h:(Lys s l n)[i]?=some ps):ps=upTo s l (i:Int)/\i<=n:=by
 unfold Lys at h
 rw[List.getElem?_map] at h
 obtain⟨j,hj,rfl⟩:=Option.map_eq_some_iff.mp h
 have hi:i < n+1:=by
  have:=(List.getElem?_eq_some_iff.mp hj).1
  rwa[List.length_range] at this
 rw[List.getElem?_range hi] at hj
 cases hj
 exact⟨rfl,by omega⟩
theorem rG(s:SS)(l:Int)(n:Nat):(Lys s l n).length=n+1:=by unfold Lys;rw[List.length_map,List.length_range]
theorem aIr{s:SS}{l:Int}{n i:Nat}(h:i<=n):(Lys s l n)[i]?=some (upTo s l (i:Int)):=by
 unfold Lys
 rw[List.getElem?_map,List.getElem?_range (by omega)]
 rfl
theorem aGc{s:SS}{l h n:Int}(hn:n∈upTo s l h):0<=n/\n<=s.cap:=by
 have:=mem_upTo.mp hn
 omega
theorem aJ6{s:SS}(g:s.Good){x:Int}(h0:0<=x)(h1:x<=s.cap):x∈upTo s x 1:=by
 have:=g.out.1
 have:=g.into.1
 rw[mem_upTo]
 omega
theorem aM0{s:SS}(g:s.Good){l x n:Int}{i:Nat}(hx:x∈upTo s l (i:Int))(hn:n∈upTo s x 1):n∈upTo s l ((i+1:Nat):Int):=by
 have a:=mem_upTo.mp hx
 have b:=mem_upTo.mp hn
 rw[mem_upTo]
 have e1:s.out*((i+1:Nat):Int)=s.out*(i:Int)+s.out:=by push_cast;rw[Int.mul_add,Int.mul_one]
 have e2:s.into*((i+1:Nat):Int)=s.into*(i:Int)+s.into:=by push_cast;rw[Int.mul_add,Int.mul_one]
 rw[e1,e2]
 rw[Int.mul_one,Int.mul_one] at b
 omega
theorem aLS{s:SS}{l:Int}(h0:0<=l)(h1:l<=s.cap):upTo s l 0=[l]:=by
 unfold upTo
 rw[Int.mul_zero,Int.mul_zero,show max (l - 0) 0=l by omega,show(min (l+0) s.cap+1 - l).toNat=1 by omega]
 unfold upL
 simp
theorem aLT{s:SS}(g:s.Good){l:Int}(ps:List Int)(h0:0<=l)(h1:l<=s.cap):aI8 (Wl s ps) (Lys s l ps.length):=by
 refine⟨by rw[rG];omega,fun qs hq=>?_,fun qs hq=>?_,fun i qs x e hi hx=>?_,fun i qs rs x w e1 e2 hx hw=>?_⟩
 ·obtain⟨i,ei⟩:=List.getElem?_of_mem hq
  rw[(u9 ei).1]
  exact(aJ5 _ _ _).imp fun h=>Int.ne_of_lt h
 ·obtain⟨i,ei⟩:=List.getElem?_of_mem hq
  rw[(u9 ei).1]
  exact Nat.le_trans (aDL g _ _) (by decide)
 ·rw[(u9 e).1] at hx
  obtain⟨x0,x1⟩:=aGc hx
  unfold Wl lwy
  refine⟨fun z=>?_,?_⟩
  ·have:=aJ6 g x0 x1
   rw[List.map_eq_nil_iff.mp z] at this
   cases this
  ·rw[List.length_map]
   exact Nat.le_trans (aDL g _ _) (by decide)
 ·rw[(u9 e1).1] at hx
  rw[(u9 e2).1]
  obtain⟨y,hy,rfl⟩:=List.mem_map.mp hw
  exact aM0 g hx hy
def lwF(s:SS)(ps:List Int)(l:Int):Int:=wF (Wl s ps) ps.length 0 l
def lpF(s:SS)(ps:List Int)(l:Int):List Int:=aAV (Wl s ps) ps.length 0 l
theorem aGd{t:TE}{σ σ':St}{H:Hp}{Q:VK}(e:σ'=σ)(h:t σ H Q):t σ' H Q:=e▸h
theorem intAt{ns:List Int}{i:Nat}{x:V}(h:(ns.map V.int)[i]?=some x):∃n,ns[i]?=some n/\x=.int n:=by
 rw[List.getElem?_map] at h
 obtain⟨n,e,rfl⟩:=Option.map_eq_some_iff.mp h
 exact⟨n,e,rfl⟩
theorem aLU{H:Hp}(ns:List Int):PVs κI H (ns.map V.int) ns:=by
 refine⟨by rw[List.length_map],fun i v x h1 h2=>?_⟩
 obtain⟨n,e,rfl⟩:=intAt h1
 rw[e] at h2
 cases h2
 rfl
def yY(K:W.Frag)(C:Addr):Sp:=fun vs H Q _=>∃(x:Addr) (s:SS) (l p:Int),vs=[.ref x,.int l,.int p]/\fO C H x s/\s.Good/\0<=l/\l<=s.cap/\Am p/\∀q H',aI H H'->uY κI H' q (lwy s p l)->Q (.ref q) H'
theorem yZ{P:Program}{w:World}{K:PySem.W.Frag}{mg:Str->Option Value}{base:Heap}{a:iT}(tx:Txt K mg a):bL P w K mg base gF 3 a.oE a.oF ["store","level","price"] (yY K a.bY):=by
 have aIs:=aHv (P:=P) (w:=w) (base:=base) tx
 have aEx:=aDK (P:=P) (w:=w) (base:=base) tx
 refine tx.oP.ok aD6 (fun vs H Q E h=>?_) (fun cdv A outer s H vs Q E hr h=>?_)
 ·obtain⟨x,ss,l,p,rfl,_⟩:=h
  rfl
 ·obtain⟨x,ss,l,p,rfl ,hs,hg,l0,l1,hp,k⟩:=h
  have hu:=jI hr
  refine Z.root (Z.aG (Z.aY (Z.fE (k:=1) (idx:=[1,2,0]) (N:=["later","level","price","store"]) (cQ (sc:=aB fK) (NX:=["store","level","price"]) rfl rfl rfl (by decide +kernel)) rfl (Z.cV (K':=K) (Z.aF (aEx) (hr.mono (by decide)) (by rfl) tx.yR tx.rS.kp tx.yQ .nil aQ (Z.aE (Z.pv 0) (Z.aE (Z.pv 1) Z.aC)))) (fun _ _ _ _=>(Z.aT (i:=0) (show(["later","level","price","store"]:List Str).Nodup by decide +kernel) rfl (Or.inl rfl))) (eB (by decide)) (fun _ _ _ _=>Z.dG) (fun _ _ _ _=>(Z.aKU (Z.pv 0) (Z.pv 0) (Z.aS bK (Z.pv 2) (Z.aF (aIs) (hr.mono (by decide)) (by rfl) tx.aDr tx.zH.kp tx.aDq .nil aQ (Z.aE (Z.pv 3) (Z.aE (Z.pv 1) (Z.aE (Z.pv 0) Z.aC)))))))))) ?_
  obtain⟨p0,p1⟩:=hp
  obtain⟨c0,c1⟩:=hg.cap
  refine aO (σ:=[some (.ref x),some (.int l),some (.int p)]) rfl ?_
  walk_at "w"
  refine⟨x,ss,l,rfl,hs,hg,l0,by omega,fun q H1 s1 gq=>?_⟩
  have hlen:=aDL hg l 1
  refine mL (bR.of gq) ?_
  refine gR (xs:=(upTo ss l 1).map V.int) (fun j us H'=>aI H1 H'/\∃as:List Addr,us=as.map V.ref/\RL (aAW κI H') as ((lwy ss p l).take j)) ⟨aI.refl _,[],rfl,RL.nil⟩ (cD (by rw[List.length_map];omega))
   (fun j us H' hj ⟨s',as,e,r⟩=>⟨bR.of (s' _ _ gq),by rw[e,List.length_map,r.len,List.length_take];omega⟩) (fun j v us H' hv ⟨s',as,e,r⟩=>?_) (fun us H' ⟨s',as,e,r⟩=>?_)
  ·obtain⟨y,ey,rfl⟩:=intAt hv
   have ew:(lwy ss p l)[j]?=some (y,y,p*dr ss l y):=by unfold lwy;rw[List.getElem?_map,ey];rfl
   walk_at "w"
   refine⟨x,ss,l,y,rfl,hs.same (s1.trans s'),hg,?_⟩
   walk_at "w"
   intro a na
   obtain⟨H2,i2,s2,g2⟩:=nw _ na;rw[i2]
   refine⟨s'.trans s2,as ++ [a],by rw[e,List.map_append];rfl,?_⟩
   rw[kO ew]
   exact RL.snoc (r.imp fun _ _ z=>z.same s2) ⟨.int y,g2,rfl⟩
  ·intro q2 nq2
   obtain⟨H2,i2,s2,g2⟩:=nw _ nq2;rw[i2]
   walk_at "w"
   rw[List.length_map,show(upTo ss l 1).length=(lwy ss p l).length by unfold lwy;rw[List.length_map],List.take_length] at r
   exact k q2 H2 (s1.trans (s'.trans s2)) ⟨as,by rw[g2,e],r.imp fun _ _ z=>z.same s2⟩
theorem aFd{K:W.Frag}{a:iT}{H:Hp}{x q:Addr}{s:SS}{ps:List Int}(C:Addr->Sp->Prop)(f:Addr)(spc:Sp)(hC:C f spc)(hs:fO a.bY H x s)(hg:s.Good)(hq:H q=some (.lst (ps.map V.int)))(ha:∀n∈ps,Am n)(hl:ps.length<=48)
  (h:∀(H':Hp) (h:Nat) (y p:Int) (Q:VK),aI H H'->H' q=some (.lst (ps.map V.int))->xP (ps.map V.int) (h:Int)=some (.int p)->0<=y->y<=s.cap->yY K a.bY [.ref x,.int y,.int p] H' Q E0->spc [.int (h:Int),.int y] H' Q E0) :
  xJ κI C H f (Wl s ps) fun i y=>i < ps.length/\0<=y/\y<=s.cap:=by
 refine⟨spc,hC,fun H' i v y Q s' hL hpv hk=>?_⟩
 have hv:v=.int y:=hpv
 subst hv
 obtain⟨hi,y0,y1⟩:=hL
 have ep:ps[i]?=some ps[i]:=List.getElem?_eq_getElem hi
 refine h H' i y ps[i] Q s' (s' _ _ hq) (gQ (by rw[List.getElem?_map,ep];rfl)) y0 y1 ⟨x,s,y,ps[i],rfl,hs.same s',hg,y0,y1,ha _ (List.getElem_mem hi),fun l H2 s2 hw=>hk l H2 s2 ?_⟩
 unfold Wl
 rw[List.getD_eq_getElem?_getD,ep]
 exact hw
def yE(K:W.Frag)(C t:Addr):Sp:=fun vs H Q _=>∃(x:Addr) (s:SS) (l:Int) (q:Addr) (ps:List Int),vs=[.ref x,.int l,.ref q]/\H t=some (.ctb cG cH)/\fO C H x s/\s.Good/\0<=l/\l<=s.cap/\H q=some (.lst (ps.map V.int))/\(∀n∈ps,Am n)/\ps.length<=48/\
 ∀r H',aI H H'->H r=none->aIp κI H' r (Lys s l ps.length) (fun i=>wF (Wl s ps) ((Lys s l ps.length).length - 1 - i) i)->Q (.ref r) H'
theorem yF{P:Program}{w:World}{K:PySem.W.Frag}{mg:Str->Option Value}{base:Heap}{a:iT}(tx:Txt K mg a):bL P w K mg base gF 12 a.fM a.dW ["store","level","prices"] (yE K a.bY a.bV):=by
 have pU:=vG (P:=P) (w:=w) (base:=base) tx
 have kQ:=fun base':Heap=>rF (P:=P) (w:=w) (base:=base') tx
 refine tx.jD.okC tx.jF m5 (fun vs H Q E h=>?_) (fun A outer s H vs Q E hr h=>?_)
 ·obtain⟨x,ss,l,q,ps,rfl,_⟩:=h
  rfl
 ·obtain⟨x,ss,l,q,ps,rfl ,gt,hs,hg,l0,l1,hq,ha,hl,k⟩:=h
  have hu:=jI hr
  refine Z.root (Z.aD (Z.pZ (k:=1) (idx:=[1,0]) (N:=["hours","level","store"]) (i:=3) m5.nd rfl (Or.inl rfl) (cQ (sc:=aB bP) (NX:=["store","level","prices","layers"]) rfl rfl rfl (by decide +kernel)) rfl (Z.dC (by rfl) tx.dI (Z.aE (Z.aS bJ (Z.aP (rc:=vI K) cR (by rfl) tx.jQ iZ (Z.aE (Z.pv 2) Z.aC)) Z.aA) Z.aC)) (fun _ _ _ _=>(Z.aT (i:=0) (show(["hours","level","store"]:List Str).Nodup by decide +kernel) rfl (Or.inl rfl))) (eB (by decide)) (fun _ _ _ _=>Z.dG) (fun _ _ _ _=>(Z.aF (pU) (hr.mono (by decide)) (by rfl) tx.pH tx.kM.kp tx.pG .nil aQ (Z.aE (Z.pv 2) (Z.aE (Z.pv 1) (Z.aE (Z.pv 0) Z.aC))))))
   (Z.aG (Z.aY (Z.sE (psL:=["hour","place"]) (N:=["hour","place","prices","store"]) (idx:=[2,0]) (sp:=fun C=>kP K C) (kc:=8) (kQ) (hr.mono (by decide)) (by rfl) tx.lC tx.iK.kp tx.lB (fun _=>rfl) (cQ (sc:=aB bP) (NX:=["store","level","prices","layers"]) rfl rfl rfl (by decide +kernel)) rfl rfl rfl rfl (fun _ _ _ _ us hl=>match us,hl with|[_,_],_=>rfl) (Z.xW (Z.pv 3) (Z.aCz (N:=["hour","place","prices","store"]) (n:=2) (idx:=[2,0]) rfl tx.jF.hd rfl rfl (cQ (sc:=aB bP) (NX:=["store","level","prices","layers"]) rfl rfl rfl (by decide +kernel)))) (fun _ _ _ _ _ _ _ _ hr hu=>(Z.aF (yZ tx) (hr.mono (by decide)) (by rfl) tx.uL tx.oP.kp tx.uK .nil aQ (Z.aE (Z.pv 3) (Z.aE (Z.pv 1) (Z.aE (Z.aJ (K':=K) (Z.pv 2) (Z.pv 0) (fun _ _=>rfl)) Z.aC))))))))) ?_
  obtain⟨c0,c1⟩:=hg.cap
  refine aO (σ:=[some (.ref x),some (.int l),some (.ref q),none]) rfl ?_
  walk_at "w"
  refine⟨by rw[List.length_map];omega,by rw[List.length_map];omega,?_⟩
  rw[show(((ps.map V.int).length:Int)+1).toNat=ps.length+1 by rw[List.length_map];omega]
  refine oY (fun i us H'=>aI H H'/\∃as:List Addr,us=as.map V.ref/\RL (fun b qs=>∃us,H' b=some (.lst us)/\PVs κI H' us qs) as ((Lys ss l ps.length).take i)) ⟨aI.refl _,[],rfl,RL.nil⟩ (cD (by omega)) (fun i us H' hi ⟨s',as,e,r⟩=>by rw[e,List.length_map,r.len,List.length_take];omega) (fun i us H' hi ⟨s',as,e,r⟩=>?_) (fun us H' ⟨s',as,e,r⟩=>?_)
  ·walk_at "w"
   refine⟨x,ss,l,_,rfl,hs.same s',hg,l0,by omega,by omega,by omega,fun b H2 s2 gb=>?_⟩
   refine⟨s'.trans s2,as ++ [b],by rw[e,List.map_append];rfl,?_⟩
   rw[kO (aIr (s:=ss) (l:=l) (n:=ps.length) (i:=i) (by omega))]
   refine RL.snoc (r.imp fun _ _ ⟨us,e,p⟩=>⟨us,s2 _ _ e,p.same s2⟩) ⟨_,gb,?_⟩
   rw[show(0+(i:Int))=(i:Int) by omega]
   exact aLU (upTo ss l (i:Int))
  ·intro la nla
   obtain⟨H2,i2,s2,g2⟩:=nw _ nla;rw[i2]
   have s02:=s'.trans s2
   rw[show ps.length+1=(Lys ss l ps.length).length from(rG _ _ _).symm,List.take_length] at r
   walk_at "w"
   refine⟨s02 _ _ gt,fun f c' H3 Cc s3 hc hC=>?_⟩
   have s03:=s02.trans s3
   refine⟨Int,κI,la,f,Lys ss l ps.length,Wl ss ps,_,rfl,⟨as,by rw[s3 _ _ g2,e],r.imp fun _ _ ⟨us,e,p⟩=>⟨us,(s2.trans s3) _ _ e,p.same (s2.trans s3)⟩⟩,aLT hg ps l0 l1,by rw[rG];omega,aFd (K:=K) (a:=a) Cc f _ hC (hs.same s03) hg (s03 _ _ hq) ha hl (fun H' h y p Q s' gq hp y0 y1 hsp=>?_),fun i qs y e1 e2 hy=>?_,fun r H4 s4 nr hd=>?_⟩
   ·refine⟨s' _ _ hc,rfl,?_⟩
    refine aGd (σ:=[some (.int (h:Int)),some (.int y),some (.ref q),some (.ref x)]) rfl ?_
    walk_at "w"
    exact hsp
   ·rw[(u9 e1).1] at hy
    obtain⟨y0,y1⟩:=aGc hy
    rw[rG] at e2
    exact⟨by omega,y0,y1⟩
   ·exact k r H4 (s03.trans s4) (s03.free nr) hd
def aBz(K:W.Frag)(C t1 t2:Addr):Sp:=fun vs H Q _=>∃(x:Addr) (s:SS) (l:Int) (q:Addr) (ps:List Int),vs=[.ref x,.int l,.ref q]/\H t1=some (.ctb cG cH)/\H t2=some (.ctb eZ fA)/\fO C H x s/\s.Good/\0<=l/\l<=s.cap/\H q=some (.lst (ps.map V.int))/\(∀n∈ps,Am n)/\ps.length<=48/\
 ∀T r H',aI H H'->H r=none->H' T=some (.tup [.int (lwF s ps l),.ref r])->H' r=some (.lst ((lpF s ps l).map V.int))->Q (.ref T) H'
theorem aBA{P:Program}{w:World}{K:PySem.W.Frag}{mg:Str->Option Value}{base:Heap}{a:iT}(tx:Txt K mg a):bL P w K mg base gF 13 a.iW a.fS ["store","level","prices"] (aBz K a.bY a.bV a.dF):=by
 have zP:=yF (P:=P) (w:=w) (base:=base) tx
 have vA:=fun base':Heap=>aAX (P:=P) (w:=w) (base:=base') tx
 refine tx.mU.okC tx.mX lA (fun vs H Q E h=>?_) (fun A outer s H vs Q E hr h=>?_)
 ·obtain⟨x,ss,l,q,ps,rfl,_⟩:=h
  rfl
 ·obtain⟨x,ss,l,q,ps,rfl ,gt1,gt2,hs,hg,l0,l1,hq,ha,hl,k⟩:=h
  have hu:=jI hr
  refine Z.root (Z.aD (Z.aV (i:=3) lA.nd rfl (Or.inl rfl) (Z.aF (zP) (hr.mono (by decide)) (by rfl) tx.pJ tx.jD.kp tx.pI .nil aQ (Z.aE (Z.pv 0) (Z.aE (Z.pv 1) (Z.aE (Z.pv 2) Z.aC)))))
   (Z.aD (Z.aV (i:=4) lA.nd rfl (Or.inl rfl) (Z.sE (psL:=["hour","place"]) (N:=["hour","place","prices","store"]) (idx:=[2,0]) (sp:=fun C=>uZ K C) (kc:=8) (vA) (hr.mono (by decide)) (by rfl) tx.wY tx.qU.kp tx.wX (fun _=>rfl) (cQ (sc:=aB cK) (NX:=["store","level","prices","worths","path"]) rfl rfl rfl (by decide +kernel)) rfl rfl rfl rfl (fun _ _ _ _ us hl=>match us,hl with|[_,_],_=>rfl) (Z.xW (Z.pv 1) (Z.xW (Z.pv 3) (Z.aCz (N:=["hour","place","prices","store"]) (n:=2) (idx:=[2,0]) rfl tx.mX.hd rfl rfl (cQ (sc:=aB cK) (NX:=["store","level","prices","worths","path"]) rfl rfl rfl (by decide +kernel))))) (fun _ _ _ _ _ _ _ _ hr hu=>(Z.aF (yZ tx) (hr.mono (by decide)) (by rfl) tx.uL tx.oP.kp tx.uK .nil aQ (Z.aE (Z.pv 3) (Z.aE (Z.pv 1) (Z.aE (Z.aJ (K':=K) (Z.pv 2) (Z.pv 0) (fun _ _=>rfl)) Z.aC)))))))
   (Z.aG (Z.aY (Z.rN (Z.sD hu (Z.aJ (K':=K) (Z.pv 3) Z.aA (fun _ _=>rfl)) (Z.pv 1)) (Z.pv 4)))))) ?_
  refine aO (σ:=[some (.ref x),some (.int l),some (.ref q),none,none]) rfl ?_
  walk_at "w"
  refine⟨x,ss,l,q,ps,rfl,gt1,hs,hg,l0,l1,hq,ha,hl,fun lw H1 s1 nlw hd=>?_⟩
  walk_at "w"
  refine⟨s1 _ _ gt2,fun f c' H3 Cc s3 hc hC=>?_⟩
  have s03:=s1.trans s3
  refine⟨Int,κI,.int l,l,upTo ss l 0,lw,f,Lys ss l ps.length,Wl ss ps,_,rfl,rfl,hd.same s3,aIr (i:=0) (by omega),?_,aLT hg ps l0 l1,by rw[rG];omega,aFd (K:=K) (a:=a) Cc f _ hC (hs.same s03) hg (s03 _ _ hq) ha hl (fun H' h y p Q s' gq hp y0 y1 hsp=>?_),fun i qs y e1 e2 hy=>?_,fun r H4 s4 nr gr=>?_⟩
  ·rw[aLS l0 l1];exact .head _
  ·refine⟨s' _ _ hc,rfl,?_⟩
   refine aGd (σ:=[some (.int (h:Int)),some (.int y),some (.ref q),some (.ref x)]) rfl ?_
   walk_at "w"
   exact hsp
  ·rw[(u9 e1).1] at hy
   obtain⟨y0,y1⟩:=aGc hy
   rw[rG] at e2
   exact⟨by omega,y0,y1⟩
  ·obtain⟨ds,gds,lds,hds⟩:=(hd.same (s3.trans s4)).ex
   rw[rG] at lds
   have ed:ds[0]?=some ds[0]:=List.getElem?_eq_getElem (by omega)
   have h0:=hds 0 _ _ ed (aIr (i:=0) (by omega))
   generalize ds[0]=d0 at ed h0
   have ix:xP (ds.map V.ref) 0=some (.ref d0):=gQ (j:=0) (aDz ed)
   walk_at "w"
   refine⟨d0,_,rfl,κI.get (v:=.int l) (x:=l) h0 rfl (by rw[show((0:Nat):Int)=0 from rfl,aLS l0 l1];exact .head _),?_⟩
   walk_at "w"
   intro T nT
   obtain⟨H5,i5,s5,g5⟩:=nw _ nT;rw[i5]
   walk_at "w"
   have e1:(Lys ss l ps.length).length - 1=ps.length:=by rw[rG];rfl
   rw[e1] at gr
   rw[Nat.sub_zero,e1] at g5
   exact k T r H5 (s03.trans (s4.trans s5)) (s03.free nr) g5 (s5 _ _ gr)
theorem RL.one{α:Type}{P:Addr->α->Prop}{a:Addr}{x:α}(h:P a x):RL P [a] [x]:=⟨rfl,fun j q u hq hu=>by
 match j,hq,hu with
 |0,hq,hu=>cases hq;cases hu;exact h
 |_+1,hq,_=>simp at hq⟩
theorem aLV(ps:List WP):(enc ps).map (·.1)=(ps.map fun p=>[p.1.1,p.1.2]).map fun t=>t.map Sum.inl:=by
 unfold enc
 rw[List.map_map,List.map_map]
 rfl
theorem aEy{H:Hp}{ps:List WP}{qs:List Addr}{us:List (List Int)}(nd:(ps.map (·.1)).Nodup)(hT:o7 H qs us)(hp:us.Perm (ps.map fun p=>[p.1.1,p.1.2]))(hs:us.Pairwise fun a b=>v8 b a=false) :
  ∃ks:List (Int×Int),ks.Pairwise sLt/\(∀s,s∈ks↔s∈ps.map (·.1))/\PVs κS H (qs.map V.ref) ks:=by
 have hform:∀u∈us,u=[u.getD 0 0,u.getD 1 0]:=fun u hu=>by
  obtain⟨p,_,rfl⟩:=List.mem_map.mp (hp.mem_iff.mp hu)
  rfl
 have pk:(us.map fun u=>(u.getD 0 0,u.getD 1 0)).Perm (ps.map (·.1)):=by
  have:=hp.map fun u=>(u.getD 0 0,u.getD 1 0)
  rw[List.map_map] at this
  exact this
 have ndk:=pk.nodup_iff.mpr nd
 refine⟨us.map fun u=>(u.getD 0 0,u.getD 1 0),?_,fun s=>pk.mem_iff,?_⟩
 ·rw[List.pairwise_map]
  have nd':us.Pairwise fun a b=>(a.getD 0 0,a.getD 1 0)≠(b.getD 0 0,b.getD 1 0):=List.pairwise_map.mp ndk
  refine(hs.and nd').imp_of_mem ?_
  intro a b ha hb ⟨h1,h2⟩
  rw[hform a ha,hform b hb] at h1
  generalize a.getD 0 0=a0 at h1 h2 ⊢
  generalize a.getD 1 0=a1 at h1 h2 ⊢
  generalize b.getD 0 0=b0 at h1 h2 ⊢
  generalize b.getD 1 0=b1 at h1 h2 ⊢
  unfold sLt
  show a0 < b0\/(a0=b0/\a1 < b1)
  by_cases e0:a0=b0
  ·subst e0
   by_cases e1:a1=b1
   ·exact absurd (by rw[e1]) h2
   ·rw[fV,if_pos rfl,fV,if_neg (fun z=>e1 z.symm)] at h1
    have:=of_decide_eq_false h1
    omega
  ·rw[fV,if_neg (fun z=>e0 z.symm)] at h1
   have:=of_decide_eq_false h1
   omega
 ·refine⟨by rw[List.length_map,List.length_map,hT.len],fun i v x h1 h2=>?_⟩
  rw[List.getElem?_map] at h1 h2
  obtain⟨q,e1,rfl⟩:=Option.map_eq_some_iff.mp h1
  obtain⟨u,e2,rfl⟩:=Option.map_eq_some_iff.mp h2
  have:=(hT.at_ i q u e1 e2).1
  rw[hform u (List.mem_of_getElem? e2)] at this
  exact⟨q,rfl,this⟩
def aAY(K:W.Frag)(C:Addr):Sp:=fun vs H Q _=>∃(q:Addr) (m:MS) (t:Addr) (a:Int×Int) (n:Nat),vs=[.ref q,.ref t,.int (n:Int)]/\cN C H q m/\m.Good/\H t=some (.tup [.int a.1,.int a.2])/\St1 m a/\n<=1000/\
 ∀la Ls H',aI H H'->H la=none->aHq κS H' la Ls->aLK m a Ls->Ls.length=n+1->Q (.ref la) H'
theorem aAZ{P:Program}{w:World}{K:PySem.W.Frag}{mg:Str->Option Value}{base:Heap}{a:iT}(tx:Txt K mg a):bL P w K mg base gF 4 a.iE a.iF ["machine","state","hours"] (aAY K a.aZ):=by
 have aEz:=aDD (P:=P) (w:=w) (base:=base) tx
 refine tx.lD.ok eE (fun vs H Q E h=>?_) (fun cdv A outer s H vs Q E hr h=>?_)
 ·obtain⟨q,m,t,st,n,rfl,_⟩:=h
  rfl
 ·obtain⟨q,m,t,st,n,rfl ,hm,hg,ht,hst,hn,k⟩:=h
  have hu:=jI hr
  refine Z.root (Z.aD (Z.aV (i:=3) eE.nd rfl (Or.inl rfl) (Z.aAk hu (Z.pv 1) Z.aA))
   (Z.aD (Z.aV (i:=4) eE.nd rfl (Or.inl rfl) (Z.aFu (Z.aFu (Z.pv 1))))
   (Z.aD (Z.cO PassesOwn.never rfl (Z.dC (by rfl) tx.dI (Z.aE (Z.pv 2) Z.aC)) (Z.aT (i:=5) eE.nd rfl (Or.inl rfl)) (Z.aD (Z.aV (i:=3) eE.nd rfl (Or.inl rfl) (Z.aF (aEz) (hr.mono (by decide)) (by rfl) tx.yN tx.rQ.kp tx.yM .nil aQ (Z.aE (Z.pv 0) (Z.aE (Z.pv 3) Z.aC))))
   (Z.aG (Z.pW (Z.aAf (K':=K) (Z.pv 4) (Z.aE (Z.aP (rc:=aIf) (aFI rfl) (by rfl) tx.sR aJy (Z.aE (Z.pv 3) Z.aC)) Z.aC))))))
   (Z.aG (Z.aY (Z.pv 4)))))) ?_
  refine aO (σ:=[some (.ref q),some (.ref t),some (.int (n:Int)),none,none,none]) rfl ?_
  walk_at "w"
  intro w nw0
  obtain⟨H1,i1,s1,g1⟩:=nw _ nw0;rw[i1]
  have ht1:=s1 _ _ ht
  walk_at "w"
  refine⟨t,oR st,rfl,ht1,g1,?_⟩
  obtain⟨H2,i2,k2,g2⟩:=wr H1 w _;rw[i2]
  have S2:aI H H2:=fun b o e=>k2 _ _ (s1 _ _ e) (bC nw0 e)
  walk_at "w"
  intro l0 nl0
  obtain⟨H3,i3,s3,g3⟩:=nw _ nl0;rw[i3]
  walk_at "w"
  intro la nla
  obtain⟨H4,i4,s4,g4⟩:=nw _ nla;rw[i4]
  have S4:aI H H4:=S2.trans (s3.trans s4)
  have nlaH:H la=none:=(S2.trans s3).free nla
  have g24:=(s3.trans s4) _ _ g2
  have g34:=s4 _ _ g3
  have ht4:=S4 _ _ ht
  have wla:w≠la:=fun z=>by rw[z,g4] at g24;cases g24
  walk_at "w"
  refine⟨by omega,by omega,?_⟩
  refine sC (fun i σ' H'=>∃(w:Addr) (ps:List WP) (as:List Addr) (Ls:List (List (Int×Int))) (z5:Option V),σ'=[some (.ref q),some (.ref t),some (.int (n:Int)),some (.ref w),some (.ref la),z5]/\H w=none/\H' w=some (.dT (enc ps))/\aEo ps/\(∀s,s∈ps.map (·.1)↔Rc m st i s)/\aI H H'/\H' la=some (.lst (as.map V.ref))/\RL (fun b ps=>∃us,H' b=some (.lst us)/\PVs κS H' us ps/\b≠la) as Ls/\aLK m st Ls/\Ls.length=i+1)
   ⟨w,[(st,1)],[l0],[[st]],_,rfl,nw0,g24,⟨by simp,fun p hp=>by rw[List.mem_singleton.mp hp];exact hst.st0 hg⟩,?_,S4,g4,RL.one ⟨_,g34,⟨rfl,fun i v x h1 h2=>?_⟩,fun z=>?_⟩,⟨fun i ps hi=>?_⟩,rfl⟩ (fun i σ' H' hi ⟨w',ps,as,Ls,z5,e,nw',gw,hW,hk,S',gla,rla,hL,lL⟩=>?_) (fun σ' H' ⟨w',ps,as,Ls,z5,e,nw',gw,hW,hk,S',gla,rla,hL,lL⟩=>?_)
  ·intro s
   show s∈[st]↔s=st
   simp
  ·match i,h1,h2 with
   |0,h1,h2=>cases h1;cases h2;exact⟨t,rfl,ht4⟩
   |_+1,h1,_=>simp at h1
  ·rw[z,nla] at g3
   cases g3
  ·match i,hi with
   |0,hi=>cases hi;exact⟨by simp,fun s=>by show s∈[st]↔s=st;simp⟩
   |_+1,hi=>simp at hi
  ·subst e
   walk_at "w"
   refine⟨q,m,w',ps,rfl,hm.same S',hg,gw,hW,fun w2 ps2 H5 s5 nw2 gw2 hW2 hk2=>?_⟩
   have S5:aI H H5:=fun b o e=>s5 _ _ (mN (S' _ _ e) (bC nw' e))
   have gla5:H5 la=some (.lst (as.map V.ref)):=s5 _ _ (mN gla fun z=>by rw[z,gw] at gla;cases gla)
   have hk3:∀s,s∈ps2.map (·.1)↔Rc m st (i+1) s:=fun s=>by
    rw[hk2 s]
    exact⟨fun⟨p,h1,h2⟩=>⟨p,(hk p).mp h1,h2⟩,fun⟨p,h1,h2⟩=>⟨p,(hk p).mpr h1,h2⟩⟩
   have few:=Rc.few hg hst hW2.nd fun k hk=>(hk3 k).mp hk
   rw[List.length_map] at few
   have las:=rla.len
   walk_at "w"
   refine y9 (bR.of gla5) ?_
   walk_at "w"
   refine aLw gw2 (aLV ps2) (fun t ht=>by obtain⟨p,_,rfl⟩:=List.mem_map.mp ht;simp) (by rw[List.length_map];omega) fun p qs us np hT hp hs=>?_
   obtain⟨ks,k1,k2',k3⟩:=aEy hW2.nd hT hp hs
   obtain⟨H6,i6,s6,g6⟩:=nw _ np;rw[i6]
   have npla:p≠la:=fun z=>by rw[z,gla5] at np;cases np
   walk_at "w"
   refine aCT (xs:=as.map V.ref) (s6 _ _ gla5) (Nat.lt_of_lt_of_le (by rw[List.length_map];omega:(as.map V.ref).length < 20000) (cD (by decide))) ?_
   obtain⟨H7,i7,k7,g7⟩:=wr H6 la _;rw[i7]
   have w2la:w2≠la:=fun z=>by rw[z,gla5] at gw2;cases gw2
   walk_at "w"
   have hR:RL (fun b ps=>∃us,H7 b=some (.lst us)/\PVs κS H7 us ps/\b≠la) (as ++ [p]) (Ls ++ [ks]):=by
    refine RL.snoc (rla.imp fun b ps ⟨us,a1,a2,a3⟩=>?_) ⟨_,k7 _ _ g6 npla,⟨k3.1,fun i v x h1 h2=>PK.aF6 (κS.rD (k3.2 i v x h1 h2) s6) (s6 _ _ gla5) k7⟩,npla⟩
    have a1':H5 b=some (.lst us):=s5 _ _ (mN a1 fun z=>by rw[z,gw] at a1;cases a1)
    refine⟨us,k7 _ _ (s6 _ _ a1') a3,⟨a2.1,fun i v x h1 h2=>?_⟩,a3⟩
    obtain⟨b',e',hb'⟩:=a2.2 i v x h1 h2
    exact PK.aF6 (κS.rD (H:=H5) ⟨b',e',s5 _ _ (mN hb' fun z=>by rw[z,gw] at hb';cases hb')⟩ s6) (s6 _ _ gla5) k7
   have hLL:aLK m st (Ls ++ [ks]):=by
    refine⟨fun j rs hj=>?_⟩
    by_cases hj2:j < Ls.length
    ·rw[List.getElem?_append_left hj2] at hj
     exact hL.at_ j rs hj
    ·have hj3:j < (Ls ++ [ks]).length:=(List.getElem?_eq_some_iff.mp hj).1
     rw[List.length_append,List.length_singleton] at hj3
     obtain rfl:j=Ls.length:=by omega
     rw[List.getElem?_append_right (Nat.le_refl _),Nat.sub_self] at hj
     cases hj
     refine⟨k1,fun s=>?_⟩
     rw[k2' s,hk3 s,lL]
   exact⟨w2,ps2,as ++ [p],Ls ++ [ks],_,rfl,S'.free nw2,k7 _ _ (s6 _ _ gw2) w2la,hW2,hk3,fun b o e=>k7 _ _ (s6 _ _ (S5 _ _ e)) (bC nlaH e),by rw[g7,List.map_append];rfl,hR,hLL,by rw[List.length_append,lL];rfl⟩
  ·subst e
   walk_at "w"
   exact k la Ls H' S' nlaH ⟨as,gla,rla.imp fun b ps ⟨us,a1,a2,_⟩=>⟨us,a1,a2⟩⟩ hL (by omega)
def aEA(K:W.Frag)(C:Addr):Sp:=fun vs H Q _=>∃(q:Addr) (m:MS) (t:Addr) (a:Int×Int),vs=[.ref q,.ref t]/\cN C H q m/\m.Good/\H t=some (.tup [.int a.1,.int a.2])/\St0 a.1 a.2/\
 ∀l H',aI H H'->uY κS H' l ((([0,1]:List Int).filter (aCk a)).map fun on=>(on,uV m a.1 a.2 on,aOK m a on))->Q (.ref l) H'
theorem aEB{P:Program}{w:World}{K:PySem.W.Frag}{mg:Str->Option Value}{base:Heap}{a:iT}(tx:Txt K mg a):bL P w K mg base gF 7 a.oG a.oH ["machine","state"] (aEA K a.aZ):=by
 have pT:=x8 (P:=P) (w:=w) (base:=base) tx
 have aIt:=aHm (P:=P) (w:=w) (base:=base) tx
 have iQ:=pS (P:=P) (w:=w) (base:=base) tx
 refine tx.uM.ok aD7 (fun vs H Q E h=>?_) (fun cdv A outer s H vs Q E hr h=>?_)
 ·obtain⟨q,m,t,st,rfl,_⟩:=h
  rfl
 ·obtain⟨q,m,t,st,rfl ,hm,hg,ht,hst,k⟩:=h
  have hu:=jI hr
  refine Z.root (Z.aG (Z.aY (Z.fE (k:=1) (idx:=[0,1]) (N:=["on","machine","state"]) (cQ (sc:=aB fL) (NX:=["machine","state"]) rfl rfl rfl (by decide +kernel)) rfl (Z.aFx (K':=K) (Z.rN Z.aA Z.aA)) (fun _ _ _ _=>(Z.aT (i:=0) (show(["on","machine","state"]:List Str).Nodup by decide +kernel) rfl (Or.inl rfl))) (eB (by decide)) (fun _ _ _ _=>(Z.aCw (Z.jT (Z.aF (pT) (hr.mono (by decide)) (by rfl) tx.wO tx.sI.kp tx.wN .nil aQ (Z.aE (Z.pv 1) (Z.aE (Z.pv 2) (Z.aE (Z.pv 0) Z.aC))))))) (fun _ _ _ _=>(Z.aKU (Z.pv 0) (Z.aF (iQ) (hr.mono (by decide)) (by rfl) tx.mH tx.iP.kp tx.mG .nil aQ (Z.aE (Z.pv 1) (Z.aE (Z.pv 2) (Z.aE (Z.pv 0) Z.aC)))) (Z.aF (aIt) (hr.mono (by decide)) (by rfl) tx.aDp tx.zE.kp tx.aDo .nil aQ (Z.aE (Z.pv 1) (Z.aE (Z.pv 2) (Z.aE (Z.aFu (Z.pv 0)) Z.aC))))))))) ?_
  refine aO (σ:=[some (.ref q),some (.ref t)]) rfl ?_
  walk_at "w"
  intro Tu nTu
  obtain⟨H1,i1,s1,gTu⟩:=nw _ nTu;rw[i1]
  refine aKY (kR.of gTu) ?_
  refine aKH (xs:=([0,1]:List Int).map V.int) (fun j us H'=>aI H1 H'/\∃as:List Addr,us=as.map V.ref/\as.length<=j/\RL (aAW κS H') as (((([0,1]:List Int).take j).filter (aCk st)).map fun on=>(on,uV m st.1 st.2 on,aOK m st on))) ⟨aI.refl _,[],rfl,Nat.le_refl _,RL.nil⟩ (cD (by simp))
   (fun j us H' hj ⟨s',as,e,la,r⟩=>⟨kR.of (s' _ _ gTu),by rw[e,List.length_map];exact la⟩) (fun j v us H' hv ⟨s',as,e,la,r⟩=>?_) (fun us H' ⟨s',as,e,la,r⟩=>?_)
  ·obtain⟨on,eon,rfl⟩:=mJ hv
   have bon:Bit on:=by
    have:=List.mem_of_getElem? eon
    simp at this
    exact this
   have tk:([0,1]:List Int).take (j+1)=([0,1]:List Int).take j ++ [on]:=by rw[List.take_add_one,eon];rfl
   have S':=s1.trans s'
   have ht':=S' _ _ ht
   walk_at "w"
   refine⟨_,t,_,_,on,rfl,ht',?_⟩
   by_cases hmay:st.1=on\/st.2=0
   ·have hmb:aCk st on=true:=sS.mpr hmay
    rw[show(decide (st.1=on) || decide (st.2=0))=true from hmb]
    walk_at "w"
    refine⟨q,m,t,_,_,on,rfl,hm.same S',ht',hmay,fun T2 H3 s3 nT2 gT2=>?_⟩
    walk_at "w"
    intro lo nlo
    obtain⟨H4,i4,s4,g4⟩:=nw _ nlo;rw[i4]
    walk_at "w"
    refine⟨q,m,t,_,_,lo,[on],rfl,hm.same (S'.trans (s3.trans s4)),hg,(s3.trans s4) _ _ ht',g4,by simp,?_,fun H5 s5=>?_⟩
    ·show(if st.1=on\/st.2=0 then _ else _)=_
     rw[if_pos hmay]
     rfl
    walk_at "w"
    intro T nT
    obtain⟨H6,i6,s6,g6⟩:=nw _ nT;rw[i6]
    have s36:=s3.trans (s4.trans (s5.trans s6))
    refine⟨s'.trans s36,as ++ [T],by rw[e,List.map_append];rfl,by rw[List.length_append];simp;omega,?_⟩
    rw[tk,List.filter_append,List.map_append,List.filter_cons_of_pos hmb]
    exact RL.snoc (r.imp fun _ _ z=>z.same s36) ⟨_,g6,T2,rfl,(s4.trans (s5.trans s6)) _ _ gT2⟩
   ·have hmb:aCk st on=false:=by cases h:aCk st on;rfl;exact absurd (sS.mp h) hmay
    rw[show(decide (st.1=on) || decide (st.2=0))=false from hmb]
    walk_at "w"
    refine⟨s',as,e,by omega,?_⟩
    rw[tk,List.filter_append,List.map_append,List.filter_cons_of_neg (by rw[hmb];simp)]
    simpa using r
  ·intro l nl
   obtain⟨H3,i3,s3,g3⟩:=nw _ nl;rw[i3]
   walk_at "w"
   exact k l H3 (s1.trans (s'.trans s3)) ⟨as,by rw[g3,e],r.imp fun _ _ z=>z.same s3⟩
def aA0(K:W.Frag)(C:Addr):Sp:=fun vs H Q _=>∃(q:Addr) (m:MS) (t:Addr) (a:Int×Int) (p:Int),vs=[.ref q,.ref t,.int p]/\cN C H q m/\m.Good/\H t=some (.tup [.int a.1,.int a.2])/\St0 a.1 a.2/\0<=p/\p<=1000000000001/\
 ∀l H',aI H H'->uY κS H' l (rwy m p a)->Q (.ref l) H'
theorem aA1{P:Program}{w:World}{K:PySem.W.Frag}{mg:Str->Option Value}{base:Heap}{a:iT}(tx:Txt K mg a):bL P w K mg base gF 8 a.qO a.qP ["machine","state","price"] (aA0 K a.aZ):=by
 have aDM:=aCf (P:=P) (w:=w) (base:=base) tx
 have aGe:=aEB (P:=P) (w:=w) (base:=base) tx
 refine tx.qX.ok aFM (fun vs H Q E h=>?_) (fun cdv A outer s H vs Q E hr h=>?_)
 ·obtain⟨q,m,t,st,pr,rfl,_⟩:=h
  rfl
 ·obtain⟨q,m,t,st,pr,rfl ,hm,hg,ht,hst,p0,p1,k⟩:=h
  have hu:=jI hr
  refine Z.root (Z.aG (Z.aY (Z.fE (k:=3) (idx:=[0,2]) (N:=["on","later","cost","machine","price"]) (cQ (sc:=aB gM) (NX:=["machine","state","price"]) rfl rfl rfl (by decide +kernel)) rfl (Z.cV (K':=K) (Z.aF (aGe) (hr.mono (by decide)) (by rfl) tx.aAK tx.uM.kp tx.aAJ .nil aQ (Z.aE (Z.pv 0) (Z.aE (Z.pv 1) Z.aC)))) (fun _ _ _ _=>(Z.eK (K':=K) (n:=3) rfl (Z.bD (Z.aT (i:=0) (show(["on","later","cost","machine","price"]:List Str).Nodup by decide +kernel) rfl (Or.inl rfl)) (Z.bD (Z.aT (i:=1) (show(["on","later","cost","machine","price"]:List Str).Nodup by decide +kernel) rfl (Or.inl rfl)) (Z.bD (Z.aT (i:=2) (show(["on","later","cost","machine","price"]:List Str).Nodup by decide +kernel) rfl (Or.inl rfl)) Z.dZ))))) (aAc (d7 (by decide) (d7 (by decide) (d7 (by decide) vV)))) (fun _ _ _ _=>Z.dG) (fun _ _ _ _=>(Z.aKU (Z.pv 0) (Z.pv 1) (Z.aS eQ (Z.pv 2) (Z.aS bK (Z.pv 0) (Z.aFl (Z.pv 3) tx.cB tx.m_Machine_gain (aDM) (hr.mono (by decide)) tx.wL .nil aQ (Z.aE (Z.pv 4) Z.aC))))))))) ?_
  refine aO (σ:=[some (.ref q),some (.ref t),some (.int pr)]) rfl ?_
  walk_at "w"
  refine⟨q,m,t,st,rfl,hm,hg,ht,hst,fun l H1 s1 hw1=>?_⟩
  obtain⟨as,gl,rl⟩:=hw1.ex
  have las:=rl.len
  have lfil:=aJa m pr st
  unfold rwy at lfil
  rw[List.length_map] at las lfil
  refine mL (bR.of gl) ?_
  refine gR (xs:=as.map V.ref) (fun j us H'=>aI H1 H'/\∃bs:List Addr,us=bs.map V.ref/\RL (aAW κS H') bs ((rwy m pr st).take j)) ⟨aI.refl _,[],rfl,RL.nil⟩ (cD (by rw[List.length_map];omega))
   (fun j us H' hj ⟨s',bs,e,r⟩=>⟨bR.of (s' _ _ gl),by rw[e,List.length_map,r.len,List.length_take];omega⟩) (fun j v us H' hv ⟨s',bs,e,r⟩=>?_) (fun us H' ⟨s',bs,e,r⟩=>?_)
  ·obtain⟨a1,w,ea,rfl,ew,vv,g1,hp⟩:=rl.gt hv
   rw[List.getElem?_map] at ew
   obtain⟨on,eon,rfl⟩:=Option.map_eq_some_iff.mp ew
   have er:(rwy m pr st)[j]?=some (on,uV m st.1 st.2 on,hw m pr st on):=by unfold rwy;rw[List.getElem?_map,eon];rfl
   obtain⟨b,rfl,hb⟩:=hp
   have bon:0<=on/\on<=1:=by
    have:=(List.mem_filter.mp (List.mem_of_getElem? eon)).1
    simp at this
    omega
   obtain⟨bo0,bo1⟩:=bon
   refine eJ (kR.of (s' _ _ g1)) rfl ?_
   walk_at "w"
   have hm2:=hm.same (s1.trans s')
   obtain⟨dx,pl,hq,_⟩:=hm2.ex
   refine⟨q,dx,_,rfl,hq,rfl,?_⟩
   walk_at "w"
   refine⟨q,m,pr,rfl,hm2,hg,p0,p1,?_⟩
   walk_at "w"
   intro T nT
   obtain⟨H3,i3,s3,g3⟩:=nw _ nT;rw[i3]
   refine⟨s'.trans s3,bs ++ [T],by rw[e,List.map_append];rfl,?_⟩
   rw[kO er]
   exact RL.snoc (r.imp fun _ _ z=>z.same s3) ⟨_,g3,b,rfl,(s'.trans s3) _ _ hb⟩
  ·intro l2 nl2
   obtain⟨H3,i3,s3,g3⟩:=nw _ nl2;rw[i3]
   walk_at "w"
   rw[List.length_map,las,show(([0,1]:List Int).filter (aCk st)).length=(rwy m pr st).length by unfold rwy;rw[List.length_map],List.take_length] at r
   exact k l2 H3 (s1.trans (s'.trans s3)) ⟨bs,by rw[g3,e],r.imp fun _ _ z=>z.same s3⟩
theorem aFe{K:W.Frag}{a:iT}{H:Hp}{x q:Addr}{m:MS}{ps:List Int}(C:Addr->Sp->Prop)(f:Addr)(spc:Sp)(hC:C f spc)(hs:cN a.aZ H x m)(hg:m.Good)(hq:H q=some (.lst (ps.map V.int)))(ha:∀n∈ps,Am n)
  (h:∀(H':Hp) (h:Nat) (b:Addr) (p:Int) (Q:VK),aI H H'->H' q=some (.lst (ps.map V.int))->xP (ps.map V.int) (h:Int)=some (.int p)->aA0 K a.aZ [.ref x,.ref b,.int p] H' Q E0->spc [.int (h:Int),.ref b] H' Q E0) :
  xJ κS C H f (Wr m ps) fun i y=>i < ps.length/\St0 y.1 y.2:=by
 refine⟨spc,hC,fun H' i v y Q s' hL hpv hk=>?_⟩
 obtain⟨b,rfl,hb⟩:=hpv
 obtain⟨hi,hy⟩:=hL
 have ep:ps[i]?=some ps[i]:=List.getElem?_eq_getElem hi
 obtain⟨a0,a1⟩:=ha _ (List.getElem_mem hi)
 refine h H' i b ps[i] Q s' (s' _ _ hq) (gQ (by rw[List.getElem?_map,ep];rfl)) ⟨x,m,b,y,ps[i],rfl,hs.same s',hg,hb,hy,a0,by omega,fun l H2 s2 hw=>hk l H2 s2 ?_⟩
 unfold Wr
 rw[List.getD_eq_getElem?_getD,ep]
 exact hw
def yG(K:W.Frag)(C t:Addr):Sp:=fun vs H Q _=>∃(x:Addr) (m:MS) (b:Addr) (a:Int×Int) (q:Addr) (ps:List Int),vs=[.ref x,.ref b,.ref q]/\H t=some (.ctb cI cJ)/\cN C H x m/\m.Good/\H b=some (.tup [.int a.1,.int a.2])/\St1 m a/\H q=some (.lst (ps.map V.int))/\(∀n∈ps,Am n)/\ps.length<=48/\
 ∀r Ls H',aI H H'->H r=none->aLK m a Ls->Ls.length=ps.length+1->aIp κS H' r Ls (fun i=>wF (Wr m ps) (Ls.length - 1 - i) i)->Q (.ref r) H'
theorem yH{P:Program}{w:World}{K:PySem.W.Frag}{mg:Str->Option Value}{base:Heap}{a:iT}(tx:Txt K mg a):bL P w K mg base gF 12 a.fN a.dX ["machine","state","prices"] (yG K a.aZ a.bW):=by
 have aBB:=aAZ (P:=P) (w:=w) (base:=base) tx
 have kQ:=fun base':Heap=>rF (P:=P) (w:=w) (base:=base') tx
 refine tx.jE.okC tx.jG m6 (fun vs H Q E h=>?_) (fun A outer s H vs Q E hr h=>?_)
 ·obtain⟨x,m,b,st,q,ps,rfl,_⟩:=h
  rfl
 ·obtain⟨x,m,b,st,q,ps,rfl ,gt,hm,hg,hb,hst,hq,ha,hl,k⟩:=h
  have hu:=jI hr
  refine Z.root (Z.aD (Z.aV (i:=3) m6.nd rfl (Or.inl rfl) (Z.aF (aBB) (hr.mono (by decide)) (by rfl) tx.sL tx.lD.kp tx.sJ .nil aQ (Z.aE (Z.pv 0) (Z.aE (Z.pv 1) (Z.aE (Z.aP (rc:=vI K) cR (by rfl) tx.jQ iZ (Z.aE (Z.pv 2) Z.aC)) Z.aC)))))
   (Z.aG (Z.aY (Z.sE (psL:=["hour","place"]) (N:=["hour","place","machine","prices"]) (idx:=[0,2]) (sp:=fun C=>kP K C) (kc:=8) (kQ) (hr.mono (by decide)) (by rfl) tx.lC tx.iK.kp tx.lB (fun _=>rfl) (cQ (sc:=aB bT) (NX:=["machine","state","prices","layers"]) rfl rfl rfl (by decide +kernel)) rfl rfl rfl rfl (fun _ _ _ _ us hl=>match us,hl with|[_,_],_=>rfl) (Z.xW (Z.pv 3) (Z.aCz (N:=["hour","place","machine","prices"]) (n:=2) (idx:=[0,2]) rfl tx.jG.hd rfl rfl (cQ (sc:=aB bT) (NX:=["machine","state","prices","layers"]) rfl rfl rfl (by decide +kernel)))) (fun _ _ _ _ _ _ _ _ hr hu=>(Z.aF (aA1 tx) (hr.mono (by decide)) (by rfl) tx.w6 tx.qX.kp tx.w5 .nil aQ (Z.aE (Z.pv 2) (Z.aE (Z.pv 1) (Z.aE (Z.aJ (K':=K) (Z.pv 3) (Z.pv 0) (fun _ _=>rfl)) Z.aC))))))))) ?_
  refine aO (σ:=[some (.ref x),some (.ref b),some (.ref q),none]) rfl ?_
  walk_at "w"
  refine⟨x,m,b,st,ps.length,by rw[List.length_map],hm,hg,hb,hst,by omega,fun la Ls H1 s1 nla hla hL lL=>?_⟩
  walk_at "w"
  refine⟨s1 _ _ gt,fun f c' H3 Cc s3 hc hC=>?_⟩
  have s03:=s1.trans s3
  refine⟨Int×Int,κS,la,f,Ls,Wr m ps,_,rfl,hla.same s3,aJb hg hst ps (by omega) hL,by omega,aFe (K:=K) (a:=a) Cc f _ hC (hm.same s03) hg (s03 _ _ hq) ha (fun H' h b' p Q s' gq hp hsp=>?_),fun i qs y e1 e2 hy=>?_,fun r H4 s4 nr hd=>?_⟩
  ·refine⟨s' _ _ hc,rfl,?_⟩
   refine aGd (σ:=[some (.int (h:Int)),some (.ref b'),some (.ref x),some (.ref q)]) rfl ?_
   walk_at "w"
   exact hsp
  ·exact⟨by omega,(Rc.st hg hst (((hL.at_ i qs e1).2 y).mp hy)).1⟩
  ·exact k r Ls H4 (s03.trans s4) (s03.free nr) hL lL hd
def aCo(K:W.Frag)(C t1 t2:Addr):Sp:=fun vs H Q _=>∃(x:Addr) (m:MS) (b:Addr) (a:Int×Int) (q:Addr) (ps:List Int),vs=[.ref x,.ref b,.ref q]/\H t1=some (.ctb cI cJ)/\H t2=some (.ctb fT fU)/\cN C H x m/\m.Good/\H b=some (.tup [.int a.1,.int a.2])/\St1 m a/\H q=some (.lst (ps.map V.int))/\(∀n∈ps,Am n)/\ps.length<=48/\
 ∀T r H',aI H H'->H r=none->H' T=some (.tup [.int (rwF m ps a),.ref r])->H' r=some (.lst ((rrF m ps a).map V.int))->Q (.ref T) H'
theorem aCp{P:Program}{w:World}{K:PySem.W.Frag}{mg:Str->Option Value}{base:Heap}{a:iT}(tx:Txt K mg a):bL P w K mg base gF 13 a.kK a.gO ["machine","state","prices"] (aCo K a.aZ a.bW a.dY):=by
 have zQ:=yH (P:=P) (w:=w) (base:=base) tx
 have vA:=fun base':Heap=>aAX (P:=P) (w:=w) (base:=base') tx
 refine tx.pM.okC tx.pP mR (fun vs H Q E h=>?_) (fun A outer s H vs Q E hr h=>?_)
 ·obtain⟨x,m,b,st,q,ps,rfl,_⟩:=h
  rfl
 ·obtain⟨x,m,b,st,q,ps,rfl ,gt1,gt2,hm,hg,hb,hst,hq,ha,hl,k⟩:=h
  have hu:=jI hr
  refine Z.root (Z.aD (Z.aV (i:=3) mR.nd rfl (Or.inl rfl) (Z.aF (zQ) (hr.mono (by decide)) (by rfl) tx.pL tx.jE.kp tx.pK .nil aQ (Z.aE (Z.pv 0) (Z.aE (Z.pv 1) (Z.aE (Z.pv 2) Z.aC)))))
   (Z.aD (Z.aV (i:=4) mR.nd rfl (Or.inl rfl) (Z.sE (psL:=["hour","place"]) (N:=["hour","place","machine","prices"]) (idx:=[0,2]) (sp:=fun C=>uZ K C) (kc:=8) (vA) (hr.mono (by decide)) (by rfl) tx.wY tx.qU.kp tx.wX (fun _=>rfl) (cQ (sc:=aB cW) (NX:=["machine","state","prices","worths","run"]) rfl rfl rfl (by decide +kernel)) rfl rfl rfl rfl (fun _ _ _ _ us hl=>match us,hl with|[_,_],_=>rfl) (Z.xW (Z.pv 1) (Z.xW (Z.pv 3) (Z.aCz (N:=["hour","place","machine","prices"]) (n:=2) (idx:=[0,2]) rfl tx.pP.hd rfl rfl (cQ (sc:=aB cW) (NX:=["machine","state","prices","worths","run"]) rfl rfl rfl (by decide +kernel))))) (fun _ _ _ _ _ _ _ _ hr hu=>(Z.aF (aA1 tx) (hr.mono (by decide)) (by rfl) tx.w6 tx.qX.kp tx.w5 .nil aQ (Z.aE (Z.pv 2) (Z.aE (Z.pv 1) (Z.aE (Z.aJ (K':=K) (Z.pv 3) (Z.pv 0) (fun _ _=>rfl)) Z.aC)))))))
   (Z.aG (Z.aY (Z.rN (Z.sD hu (Z.aJ (K':=K) (Z.pv 3) Z.aA (fun _ _=>rfl)) (Z.pv 1)) (Z.pv 4)))))) ?_
  refine aO (σ:=[some (.ref x),some (.ref b),some (.ref q),none,none]) rfl ?_
  walk_at "w"
  refine⟨x,m,b,st,q,ps,rfl,gt1,hm,hg,hb,hst,hq,ha,hl,fun lw Ls H1 s1 nlw hL lL hd=>?_⟩
  walk_at "w"
  refine⟨s1 _ _ gt2,fun f c' H3 Cc s3 hc hC=>?_⟩
  have s03:=s1.trans s3
  have el0:Ls[0]?=some Ls[0]:=List.getElem?_eq_getElem (by omega)
  have in0:st∈Ls[0]:=((hL.at_ 0 _ el0).2 st).mpr rfl
  refine⟨Int×Int,κS,.ref b,st,Ls[0],lw,f,Ls,Wr m ps,_,rfl,⟨b,rfl,s03 _ _ hb⟩,hd.same s3,el0,in0,aJb hg hst ps (by omega) hL,by omega,aFe (K:=K) (a:=a) Cc f _ hC (hm.same s03) hg (s03 _ _ hq) ha (fun H' h b' p Q s' gq hp hsp=>?_),fun i qs y e1 e2 hy=>?_,fun r H4 s4 nr gr=>?_⟩
  ·refine⟨s' _ _ hc,rfl,?_⟩
   refine aGd (σ:=[some (.int (h:Int)),some (.ref b'),some (.ref x),some (.ref q)]) rfl ?_
   walk_at "w"
   exact hsp
  ·exact⟨by omega,(Rc.st hg hst (((hL.at_ i qs e1).2 y).mp hy)).1⟩
  ·have s04:=s03.trans s4
   obtain⟨ds,gds,lds,hds⟩:=(hd.same (s3.trans s4)).ex
   have ed:ds[0]?=some ds[0]:=List.getElem?_eq_getElem (by omega)
   have h0:=hds 0 _ _ ed el0
   generalize ds[0]=d0 at ed h0
   have ix:xP (ds.map V.ref) 0=some (.ref d0):=gQ (j:=0) (aDz ed)
   walk_at "w"
   refine⟨d0,_,rfl,κS.get (v:=.ref b) (x:=st) h0 ⟨b,rfl,s04 _ _ hb⟩ in0,?_⟩
   walk_at "w"
   intro T nT
   obtain⟨H5,i5,s5,g5⟩:=nw _ nT;rw[i5]
   walk_at "w"
   have e1:Ls.length - 1=ps.length:=by omega
   rw[e1] at gr
   rw[Nat.sub_zero,e1] at g5
   exact k T r H5 (s04.trans s5) (s03.free nr) g5 (s5 _ _ gr)
def aEC(K:W.Frag):Sp:=fun vs H Q _=>∃(p b:Addr) (x y M:Int),vs=[.ref p,.ref b,.int M]/\bB H p/\H b=some (.lst [.int x,.int y])/\1<=y/\y<=50000000000/\Am M/\
 ∀(r:Int) H',0<=r->r<=M->bB H' p->bX p H H'->m9 p H H'->Q (.int r) H'
theorem aED{P:Program}{w:World}{K:PySem.W.Frag}{mg:Str->Option Value}{base:Heap}{a:iT}(tx:Txt K mg a):bL P w K mg base gF 2 a.oI a.oJ ["_law_hand","_law_by","_law_most"] (aEC K):=by
 have aK:=cT (P:=P) (w:=w) (base:=base) tx
 refine tx.uN.ok aD8 (fun vs H Q E h=>?_) (fun cdv A outer s H vs Q E hr h=>?_)
 ·obtain⟨p,b,x,y,M,rfl,_⟩:=h
  rfl
 ·obtain⟨p,b,x,y,M,rfl ,hh,hb,y0,y1,hM,k⟩:=h
  have hu:=jI hr
  refine Z.root (Z.aG (Z.aY (Z.aP (kS rfl) (by rfl) tx.pQ rM (Z.aE (Z.aP (jJ rfl) (by rfl) tx.sQ vW (Z.aE Z.aA (Z.aE (Z.aS eQ (Z.aS bJ (Z.aS bK (Z.aJ (K':=K) (Z.pv 1) Z.aA (fun _ _=>rfl)) (Z.aF (aK) (hr.mono (by decide)) (by rfl) tx.aN tx.aL.kp tx.aM .nil aQ (Z.aE (Z.pv 0) (Z.aE Z.aA Z.aC)))) (Z.aF (aK) (hr.mono (by decide)) (by rfl) tx.aN tx.aL.kp tx.aM .nil aQ (Z.aE (Z.pv 0) (Z.aE Z.aA Z.aC)))) Z.aA) Z.aC))) (Z.aE (Z.pv 2) Z.aC))))) ?_
  obtain⟨m0,m1⟩:=hM
  have bp:b≠p:=hh.aHh hb (by simp)
  refine aO (σ:=[some (.ref p),some (.ref b),some (.int M)]) rfl ?_
  walk_at "w"
  refine⟨p,_,rfl,hh,by decide,by decide,fun r1 H1 a1 b1 h1 k1 q1=>?_⟩
  walk_at "w"
  refine⟨p,_,rfl,h1,by decide,by decide,fun r2 H2 a2 b2 h2 k2 q2=>?_⟩
  walk_at "w"
  exact k _ _ (by omega) (by omega) h2 (k1.trans k2) (q1.trans q2)
def lmF(W:WS)(P:Ps)(qs:List Int):List Int:=List.zipWith (fun m s=>rwF m qs s) W.specs P.1
def lsF(W:WS)(P:Ps)(qs:List Int):Int:=match W.store with|none=>0|some s=>lwF s qs P.2
def wsF(qs ws:List Int):Int:=List.sum (List.zipWith (fun p w=>p*w) qs ws)
def pbF(W:WS)(P:Ps)(ws qs:List Int):Int:=wsF qs ws+List.sum (lmF W P qs)+lsF W P qs
structure aJ7(W:WS)(P:Ps):Prop where
 ok:aNh W P
 st:∀(j:Nat) m s,W.specs[j]?=some m->P.1[j]?=some s->St1 m s
structure aIu(H:Hp)(t1 t2 t3 t4:Addr):Prop where
 a:H t1=some (.ctb cI cJ)
 b:H t2=some (.ctb fT fU)
 c:H t3=some (.ctb cG cH)
 d:H t4=some (.ctb eZ fA)
theorem aIu.same{H H':Hp}{t1 t2 t3 t4:Addr}(h:aIu H t1 t2 t3 t4)(s:aI H H'):aIu H' t1 t2 t3 t4:=⟨s _ _ h.a,s _ _ h.b,s _ _ h.c,s _ _ h.d⟩
theorem yA{α β γ:Type}{f:α->β->γ}{xs:List α}{ys:List β}{i:Nat}{x:α}{y:β}(h1:xs[i]?=some x)(h2:ys[i]?=some y):List.zipWith f (xs.take (i+1)) (ys.take (i+1))=List.zipWith f (xs.take i) (ys.take i) ++ [f x y]:=by
 have e:(List.zipWith f xs ys)[i]?=some (f x y):=by rw[List.getElem?_zipWith,h1,h2]
 rw[<-List.take_zipWith,<-List.take_zipWith]
 exact take_snoc e
def xK(K:PySem.W.Frag)(CW CM CS t1 t2 t3 t4:Addr):Sp:=fun vs H Q _=>∃(w:Addr) (W:WS) (a:Addr) (P:Ps) (q:Addr) (qs:List Int),vs=[.ref w,.ref a,.ref q]/\rC CW CM CS H w W/\W.Good/\yW H a P/\aJ7 W P/\H q=some (.lst (qs.map V.int))/\(∀n∈qs,Am n)/\qs.length<=48/\aIu H t1 t2 t3 t4/\
 ∀(l:Addr) (H':Hp),aI H H'->H' l=some (.lst ((lmF W P qs).map V.int))->Q (.ref l) H'
theorem xM{P:Program}{w:World}{K:PySem.W.Frag}{mg:Str->Option Value}{base:Heap}{a:iT}(tx:Txt K mg a):bL P w K mg base gF 14 a.eM a.eN ["works","position","prices"] (xK K a.eO a.aZ a.bY a.bW a.dY a.bV a.dF):=by
 have aDN:=aCp (P:=P) (w:=w) (base:=base) tx
 refine tx.iN.ok wB (fun vs H Q E h=>?_) (fun cdv A outer s H vs Q E hr h=>?_)
 ·obtain⟨w,W,ap,P,q,qs,rfl,_⟩:=h
  rfl
 ·obtain⟨w,W,ap,P,q,qs,rfl ,hw,hg,hP,hB,hq,ha,hl,hT,k⟩:=h
  have hu:=jI hr
  refine Z.root (Z.aG (Z.aY (Z.fE (k:=2) (idx:=[2]) (N:=["machine","state","prices"]) (cQ (sc:=aB bZ) (NX:=["works","position","prices"]) rfl rfl rfl (by decide +kernel)) rfl (Z.xV (k1:=true) (k2:=false) (by rfl) tx.aAT (Z.aE (Z.fF (K':=K) (Z.pv 0) rfl) (Z.aE (Z.aJ (K':=K) (Z.pv 1) Z.aA (fun _ _=>rfl)) Z.aC))) (fun _ _ _ _=>(Z.eK (K':=K) (n:=2) rfl (Z.bD (Z.aT (i:=0) (show(["machine","state","prices"]:List Str).Nodup by decide +kernel) rfl (Or.inl rfl)) (Z.bD (Z.aT (i:=1) (show(["machine","state","prices"]:List Str).Nodup by decide +kernel) rfl (Or.inl rfl)) Z.dZ)))) (aAc (d7 (by decide) (d7 (by decide) vV))) (fun _ _ _ _=>Z.dG) (fun _ _ _ _=>(Z.aJ (K':=K) (Z.aF (aDN) (hr.mono (by decide)) (by rfl) tx.xA tx.pM.kp tx.w9 .nil aQ (Z.aE (Z.pv 0) (Z.aE (Z.pv 1) (Z.aE (Z.pv 2) Z.aC)))) Z.aA (fun _ _=>rfl)))))) ?_
  obtain⟨dx,lm,st,gw,hms,hsto⟩:=hw.ex
  obtain⟨ms,glm,rms⟩:=hms.ex
  obtain⟨t,gP,hts⟩:=hP.ex
  obtain⟨ts,gts,rts⟩:=hts.ex
  have lms:=rms.len
  have lts:=rts.len
  have lpp:=hB.ok.len
  have l6:=hg.len
  refine aO (σ:=[some (.ref w),some (.ref ap),some (.ref q)]) rfl ?_
  walk_at "w"
  refine jB gw tx.uS tx.lH rfl ?_
  walk_at "w"
  refine aFz (Src.lst glm) (Src.tup gts) ?_
  refine aEZ (n:=W.specs.length) (by rw[List.length_map];omega) (by rw[List.length_map];omega) (.inl (by rw[List.length_map];omega)) (cD (by omega))
   (fun i us H'=>aI H H'/\us=((List.zipWith (fun m s=>rwF m qs s) (W.specs.take i) (P.1.take i)).map V.int)/\us.length<=i) ⟨aI.refl _,by simp,Nat.le_refl _⟩
   (fun i us H' hi ⟨s',e1,e2⟩=>⟨⟨Src.lst (s' _ _ glm),Src.tup (s' _ _ gts)⟩,e2⟩)
   (fun i x y us H' T hx hy ⟨s',e1,e2⟩ nT=>?_) (fun us H' ⟨s',e1,e2⟩=>?_)
  ·obtain⟨xm,m,_,rfl,em,hm⟩:=rms.get hx
   obtain⟨xt,s,_,rfl,es,hs⟩:=rts.get hy
   obtain⟨J,j,sT,gT⟩:=nw _ nT;rw[j]
   have s2:=s'.trans sT
   refine eJ (kR.of gT) rfl ?_
   walk_at "w"
   have hT2:=hT.same s2
   refine⟨xm,m,xt,s,q,qs,rfl,hT2.a,hT2.b,hm.same s2,hg.specs m (List.mem_of_getElem? em),s2 _ _ hs,hB.st i m s em es,s2 _ _ hq,ha,hl,fun T2 r2 H3 s3 nr2 gT2 gr2=>?_⟩
   walk_at "w"
   refine⟨s2.trans s3,?_,by rw[List.length_append,List.length_singleton];omega⟩
   rw[e1,yA em es,List.map_append]
   rfl
  ·subst e1
   rw[List.take_length,<-lpp,List.take_length]
   intro l nl
   obtain⟨J,j,sT,gT⟩:=nw _ nl;rw[j]
   walk_at "w"
   exact k l J (s'.trans sT) gT
def aA2(K:PySem.W.Frag)(CW CM CS t1 t2 t3 t4:Addr):Sp:=fun vs H Q _=>∃(w:Addr) (W:WS) (a:Addr) (P:Ps) (q:Addr) (qs:List Int),vs=[.ref w,.ref a,.ref q]/\rC CW CM CS H w W/\W.Good/\yW H a P/\aJ7 W P/\H q=some (.lst (qs.map V.int))/\(∀n∈qs,Am n)/\qs.length<=48/\aIu H t1 t2 t3 t4/\
 ∀(H':Hp),aI H H'->Q (.int (lsF W P qs)) H'
theorem aA3{P:Program}{w:World}{K:PySem.W.Frag}{mg:Str->Option Value}{base:Heap}{a:iT}(tx:Txt K mg a):bL P w K mg base gF 14 a.iG a.iH ["works","position","prices"] (aA2 K a.eO a.aZ a.bY a.bW a.dY a.bV a.dF):=by
 have aCq:=aBA (P:=P) (w:=w) (base:=base) tx
 refine tx.lE.ok aAm (fun vs H Q E h=>?_) (fun cdv A outer s H vs Q E hr h=>?_)
 ·obtain⟨w,W,ap,P,q,qs,rfl,_⟩:=h
  rfl
 ·obtain⟨w,W,ap,P,q,qs,rfl ,hw,hg,hP,hB,hq,ha,hl,hT,k⟩:=h
  have hu:=jI hr
  refine Z.root (Z.aG (Z.aY (Z.zW (Z.bE aCU (Z.fF (K':=K) (Z.pv 0) rfl) Z.jS (bI _)) Z.aA (Z.aJ (K':=K) (Z.aF (aCq) (hr.mono (by decide)) (by rfl) tx.vF tx.mU.kp tx.vE .nil aQ (Z.aE (Z.fF (K':=K) (Z.pv 0) rfl) (Z.aE (Z.aJ (K':=K) (Z.pv 1) Z.aA (fun _ _=>rfl)) (Z.aE (Z.pv 2) Z.aC)))) Z.aA (fun _ _=>rfl))))) ?_
  obtain⟨dx,lm,st,gw,hms,hsto⟩:=hw.ex
  obtain⟨t,gP,hts⟩:=hP.ex
  have hlev:=hB.ok.lev
  unfold aFa at hlev
  unfold lsF at k
  refine aO (σ:=[some (.ref w),some (.ref ap),some (.ref q)]) rfl ?_
  walk_at "w"
  refine jB gw tx.uS tx.mI rfl ?_
  cases e:W.store with
  |none=>
   rw[e] at hsto k
   replace hsto:st=.non:=hsto
   subst hsto
   repeat walk_at "gs"
   exact k H (aI.refl _)
  |some sv=>
   rw[e] at hsto k hlev
   obtain⟨c,rfl,hc⟩:=hsto
   replace hlev:0<=P.2/\P.2<=sv.cap:=hlev
   repeat walk_at "gs"
   refine jB gw tx.uS tx.mI rfl ?_
   repeat walk_at "gs"
   refine⟨c,sv,P.2,q,qs,rfl,hT.c,hT.d,hc,hg.store sv e,hlev.1,hlev.2,hq,ha,hl,fun T r H2 s2 nr gT gr=>?_⟩
   walk_at "w"
   exact k H2 s2
def aDO(K:PySem.W.Frag)(CW CM CS t1 t2 t3 t4:Addr):Sp:=fun vs H Q _=>∃(w:Addr) (W:WS) (a:Addr) (P:Ps) (u:Addr) (ws:List Int) (q:Addr) (qs:List Int),vs=[.ref w,.ref a,.ref u,.ref q]/\rC CW CM CS H w W/\W.Good/\yW H a P/\aJ7 W P/\H u=some (.lst (ws.map V.int))/\H q=some (.lst (qs.map V.int))/\ws.length=qs.length/\(∀n∈qs,Am n)/\qs.length<=48/\aIu H t1 t2 t3 t4/\
 ∀(H':Hp),aI H H'->Q (.int (pbF W P ws qs)) H'
theorem aDP{P:Program}{w:World}{K:PySem.W.Frag}{mg:Str->Option Value}{base:Heap}{a:iT}(tx:Txt K mg a):bL P w K mg base gF 15 a.lZ a.mC ["works","position","wants","prices"] (aDO K a.eO a.aZ a.bY a.bW a.dY a.bV a.dF):=by
 have yI:=xM (P:=P) (w:=w) (base:=base) tx
 have aBC:=aA3 (P:=P) (w:=w) (base:=base) tx
 refine tx.rT.ok o9 (fun vs H Q E h=>?_) (fun cdv A outer s H vs Q E hr h=>?_)
 ·obtain⟨w,W,ap,P,u,ws,q,qs,rfl,_⟩:=h
  rfl
 ·obtain⟨w,W,ap,P,u,ws,q,qs,rfl ,hw,hg,hP,hB,hwn,hq,hlen,ha,hl,hT,k⟩:=h
  have hu:=jI hr
  refine Z.root (Z.aD (Z.aV (i:=4) o9.nd rfl (Or.inl rfl) (Z.aP (rc:=aK3 K) (aBl rfl) (by rfl) tx.aB3 aHT (Z.aE (Z.fE (k:=2) (idx:=[]) (N:=["price","want"]) (cQ (sc:=aB eG) (NX:=["works","position","wants","prices","wanted","machines"]) rfl rfl rfl (by decide +kernel)) rfl (Z.xV (k1:=true) (k2:=true) (by rfl) tx.aAT (Z.aE (Z.pv 3) (Z.aE (Z.pv 2) Z.aC))) (fun _ _ _ _=>(Z.eK (K':=K) (n:=2) rfl (Z.bD (Z.aT (i:=0) (show(["price","want"]:List Str).Nodup by decide +kernel) rfl (Or.inl rfl)) (Z.bD (Z.aT (i:=1) (show(["price","want"]:List Str).Nodup by decide +kernel) rfl (Or.inl rfl)) Z.dZ)))) (aAc (d7 (by decide) (d7 (by decide) vV))) (fun _ _ _ _=>Z.dG) (fun _ _ _ _=>(Z.aS bK (Z.pv 0) (Z.pv 1)))) Z.aC)))
   (Z.aD (Z.aV (i:=5) o9.nd rfl (Or.inl rfl) (Z.aP (rc:=aK3 K) (aBl rfl) (by rfl) tx.aB3 aHT (Z.aE (Z.aF (yI) (hr.mono (by decide)) (by rfl) tx.m8 tx.iN.kp tx.m7 .nil aQ (Z.aE (Z.pv 0) (Z.aE (Z.pv 1) (Z.aE (Z.pv 3) Z.aC)))) Z.aC)))
   (Z.aG (Z.aY (Z.aS bJ (Z.aS bJ (Z.pv 4) (Z.pv 5)) (Z.aF (aBC) (hr.mono (by decide)) (by rfl) tx.sN tx.lE.kp tx.sM .nil aQ (Z.aE (Z.pv 0) (Z.aE (Z.pv 1) (Z.aE (Z.pv 3) Z.aC))))))))) ?_
  refine aO (σ:=[some (.ref w),some (.ref ap),some (.ref u),some (.ref q),none,none]) rfl ?_
  walk_at "w"
  refine aFz (Src.lst hq) (Src.lst hwn) ?_
  refine aEZ (n:=qs.length) (by rw[List.length_map];omega) (by rw[List.length_map];omega) (.inl (by rw[List.length_map])) (cD (by omega))
   (fun i us H'=>aI H H'/\us=((List.zipWith (fun p w=>p*w) (qs.take i) (ws.take i)).map V.int)/\us.length<=i) ⟨aI.refl _,by simp,Nat.le_refl _⟩
   (fun i us H' hi ⟨s',e1,e2⟩=>⟨⟨Src.lst (s' _ _ hq),Src.lst (s' _ _ hwn)⟩,e2⟩)
   (fun i x y us H' T hx hy ⟨s',e1,e2⟩ nT=>?_) (fun us H' ⟨s',e1,e2⟩=>?_)
  ·obtain⟨pr,ep,rfl⟩:=mJ hx
   obtain⟨wn,ew,rfl⟩:=mJ hy
   obtain⟨p0,p1⟩:=ha pr (List.mem_of_getElem? ep)
   obtain⟨J,j,sT,gT⟩:=nw _ nT;rw[j]
   refine eJ (kR.of gT) rfl ?_
   walk_at "w"
   refine⟨s'.trans sT,?_,by rw[List.length_append,List.length_singleton];omega⟩
   rw[e1,yA ep ew,List.map_append]
   rfl
  subst e1
  rw[List.take_length,<-hlen,List.take_length]
  intro l nl
  obtain⟨H2,i2,s2,g2⟩:=nw _ nl;rw[i2]
  have S2:=s'.trans s2
  walk_at "w"
  refine aHX (bR.of g2) ?_
  walk_at "w"
  refine⟨w,W,ap,P,q,qs,rfl,hw.tr S2.tr,hg,hP.tk S2.tk,hB,S2 _ _ hq,ha,hl,hT.same S2,fun l2 H3 s3 g3=>?_⟩
  have S3:=S2.trans s3
  walk_at "w"
  refine aHX (bR.of g3) ?_
  walk_at "w"
  refine⟨w,W,ap,P,q,qs,rfl,hw.tr S3.tr,hg,hP.tk S3.tk,hB,S3 _ _ hq,ha,hl,hT.same S3,fun H4 s4=>?_⟩
  walk_at "w"
  exact k H4 (S3.trans s4)
section Enm
variable{α:Type}
def aDQ(W:Nat->α->List (Wy α))(a:α):Nat->List (List Int×α×Int)
 |0=>[([],a,0)]
 |k+1=>(aDQ W a k).flatMap fun f=>(W k f.2.1).map fun v=>(f.1 ++ [v.1],v.2.1,f.2.2+v.2.2)
def yJ(W:Nat->α->List (Wy α)):Nat->α->List Int->Option (α×Int)
 |_,x,[]=>some (x,0)
 |i,x,c::r=>match (W i x).find? fun w=>decide (w.1=c) with
  |none=>none
  |some w=>(yJ W (i+1) w.2.1 r).map fun e=>(e.1,w.2.2+e.2)
theorem aIv{W:Nat->α->List (Wy α)}:∀{row:List Int}{i:Nat}{x:α},aHo W i x row=(yJ W i x row).map (·.2)
 |[],_,_=>rfl
 |c::r,i,x=>by
  unfold aHo yJ
  cases (W i x).find? fun w=>decide (w.1=c) with
  |none=>rfl
  |some w=>
   show Option.map _ _=Option.map _ (Option.map _ _)
   rw[aIv,Option.map_map,Option.map_map]
   rfl
theorem sV{W:Nat->α->List (Wy α)}{c:Int}:∀{row:List Int}{i:Nat}{x:α},yJ W i x (row ++ [c])=(yJ W i x row).bind fun e=>((W (i+row.length) e.1).find? fun w=>decide (w.1=c)).map fun v=>(v.2.1,e.2+v.2.2)
 |[],i,x=>by
  show(match (W i x).find? fun w=>decide (w.1=c) with|none=>none|some w=>(some (w.2.1,(0:Int))).map fun e=>(e.1,w.2.2+e.2))=((W (i+0) x).find? fun w=>decide (w.1=c)).map fun v=>(v.2.1,0+v.2.2)
  rw[Nat.add_zero]
  cases (W i x).find? fun w=>decide (w.1=c) with
  |none=>rfl
  |some w=>
   show some (w.2.1,w.2.2+0)=some (w.2.1,0+w.2.2)
   rw[Int.add_zero,Int.zero_add]
 |d::r,i,x=>by
  show yJ W i x (d::(r ++ [c]))=_
  unfold yJ
  cases (W i x).find? fun w=>decide (w.1=d) with
  |none=>rfl
  |some w=>
   show Option.map _ (yJ W (i+1) w.2.1 (r ++ [c]))=(Option.map _ (yJ W (i+1) w.2.1 r)).bind _
   rw[sV,List.length_cons,show i+1+r.length=i+(r.length+1) by omega]
   cases yJ W (i+1) w.2.1 r with
   |none=>rfl
   |some e=>
    show Option.map _ (Option.map _ _)=Option.map _ _
    rw[Option.map_map]
    congr 1
    funext v
    show(v.2.1,w.2.2+(e.2+v.2.2))=(v.2.1,w.2.2+e.2+v.2.2)
    rw[Int.add_assoc]
theorem aBD{W:Nat->α->List (Wy α)}(hr:∀i x,aF5 (W i x)){a:α}:∀{k:Nat}{f:List Int×α×Int},f∈aDQ W a k↔f.1.length=k/\yJ W 0 a f.1=some (f.2.1,f.2.2)
 |0,f=>by
  show f∈[([],a,(0:Int))]↔_
  rw[List.mem_singleton]
  constructor
  ·rintro rfl;exact⟨rfl,rfl⟩
  ·rintro ⟨h1,h2⟩
   obtain⟨f1,f2,f3⟩:=f
   have e:f1=[]:=List.length_eq_zero_iff.mp h1
   subst e
   cases h2
   rfl
 |k+1,f=>by
  show f∈(aDQ W a k).flatMap _↔_
  rw[List.mem_flatMap]
  constructor
  ·rintro ⟨g,hg,hf⟩
   obtain⟨v,hv,rfl⟩:=List.mem_map.mp hf
   obtain⟨h1,h2⟩:=(aBD hr).mp hg
   refine⟨by show(g.1 ++ [v.1]).length=k+1;rw[List.length_append,h1];rfl,?_⟩
   show yJ W 0 a (g.1 ++ [v.1])=_
   rw[sV,h2,h1,Nat.zero_add]
   show Option.map _ ((W k g.2.1).find? _)=_
   rw[aBx (hr k g.2.1) hv]
   rfl
  ·rintro ⟨h1,h2⟩
   obtain⟨f1,f2,f3⟩:=f
   have h1':f1.length=k+1:=h1
   have hne:f1≠[]:=fun z=>by rw[z] at h1';cases h1'
   have es:=List.dropLast_concat_getLast hne
   have h2':yJ W 0 a f1=some (f2,f3):=h2
   rw[<-es,sV] at h2'
   obtain⟨e,he,hv⟩:=Option.bind_eq_some_iff.mp h2'
   obtain⟨v,hf,ev⟩:=Option.map_eq_some_iff.mp hv
   have lk:f1.dropLast.length=k:=by rw[List.length_dropLast,h1'];rfl
   rw[lk,Nat.zero_add] at hf
   cases ev
   have vc:v.1=f1.getLast hne:=of_decide_eq_true (List.find?_some (p:=fun w:Wy α=>decide (w.1=f1.getLast hne)) hf)
   refine⟨(f1.dropLast,e.1,e.2),(aBD hr).mpr ⟨lk,he⟩,List.mem_map.mpr ⟨v,List.mem_of_find?_eq_some hf,?_⟩⟩
   show(f1.dropLast ++ [v.1],v.2.1,e.2+v.2.2)=(f1,v.2.1,e.2+v.2.2)
   rw[vc,es]
end Enm
section Fwd
variable{α:Type}[DecidableEq α]
def aGf(ps:List (α×Int))(k:α):Option Int:=(ps.find? fun p=>decide (p.1=k)).map (·.2)
def aIw(ps:List (α×Int))(k:α)(v:Int):List (α×Int):=if ps.any (fun p=>decide (p.1=k)) then ps.map (fun p=>if p.1=k then (p.1,v) else p) else ps ++ [(k,v)]
theorem sW{ps:List (α×Int)}{k:α}{v:Int}{q:α×Int}:q∈aIw ps k v↔q=(k,v)\/(q∈ps/\q.1≠k):=by
 unfold aIw
 by_cases h:ps.any (fun p=>decide (p.1=k))=true
 ·rw[if_pos h,List.mem_map]
  constructor
  ·rintro ⟨p,hp,rfl⟩
   by_cases e:p.1=k
   ·rw[if_pos e,e];exact .inl rfl
   ·rw[if_neg e];exact .inr ⟨hp,e⟩
  ·rintro (rfl|⟨h1,h2⟩)
   ·obtain⟨p,hp,e⟩:=List.any_eq_true.mp h
    have e':=of_decide_eq_true e
    exact⟨p,hp,by rw[if_pos e',e']⟩
   ·exact⟨q,h1,if_neg h2⟩
 ·rw[if_neg h,List.mem_append,List.mem_singleton]
  constructor
  ·rintro (h1|h1)
   ·exact .inr ⟨h1,fun e=>h (List.any_eq_true.mpr ⟨q,h1,decide_eq_true e⟩)⟩
   ·exact .inl h1
  ·rintro (h1|⟨h1,_⟩)
   ·exact .inr h1
   ·exact .inl h1
theorem aM1{ps:List (α×Int)}{k:α}{v:Int}(nd:(ps.map (·.1)).Nodup):((aIw ps k v).map (·.1)).Nodup:=by
 unfold aIw
 by_cases h:ps.any (fun p=>decide (p.1=k))=true
 ·rw[if_pos h,List.map_map]
  have e:((fun p:α×Int=>p.1) ∘ fun p:α×Int=>if p.1=k then (p.1,v) else p)=fun p=>p.1:=by
   funext p
   show(if p.1=k then (p.1,v) else p).1=p.1
   split <;> rfl
  rw[e]
  exact nd
 ·rw[if_neg h,List.map_append,List.nodup_append]
  refine⟨nd,by simp,fun a ha b hb z=>?_⟩
  rw[List.map_cons,List.map_nil,List.mem_singleton] at hb
  obtain⟨p,hp,e⟩:=List.mem_map.mp ha
  exact h (List.any_eq_true.mpr ⟨p,hp,decide_eq_true (e.trans (z.trans hb))⟩)
theorem aLW{ps:List (α×Int)}{k:α}{v:Int}(h:aGf ps k=some v):(k,v)∈ps:=by
 unfold aGf at h
 obtain⟨p,hp,rfl⟩:=Option.map_eq_some_iff.mp h
 have e:=of_decide_eq_true (List.find?_some (p:=fun p:α×Int=>decide (p.1=k)) hp)
 rw[<-e]
 exact List.mem_of_find?_eq_some hp
theorem aGg{ps:List (α×Int)}(nd:(ps.map (·.1)).Nodup){q:α×Int}(h:q∈ps):aGf ps q.1=some q.2:=by
 induction ps with
 |nil=>cases h
 |cons p r ih=>
  rw[List.map_cons,List.nodup_cons] at nd
  unfold aGf
  rw[List.find?_cons]
  rcases List.mem_cons.mp h with rfl|h
  ·rw[decide_eq_true rfl];rfl
  ·have ne:p.1≠q.1:=fun e=>nd.1 (by rw[e];exact List.mem_map.mpr ⟨q,h,rfl⟩)
   rw[decide_eq_false ne]
   exact ih nd.2 h
structure sX(cs qs:List (α×Int)):Prop where
 nd:(qs.map (·.1)).Nodup
 so:∀q∈qs,q∈cs
 co:∀c∈cs,∃q∈qs,q.1=c.1/\q.2<=c.2
theorem sX.nil:sX ([]:List (α×Int)) []:=⟨List.nodup_nil,(fun _ h=>by cases h),fun _ h=>by cases h⟩
theorem sX.on{cs qs:List (α×Int)}{y:α}{u:Int}(h:sX cs qs):sX (cs ++ [(y,u)]) (aIw qs y (min ((aGf qs y).getD u) u)):=by
 refine⟨aM1 h.nd,fun q hq=>?_,fun c hc=>?_⟩
 ·rcases sW.mp hq with rfl|⟨h1,_⟩
  ·cases e:aGf qs y with
   |none=>
    show(y,min u u)∈_
    rw[Int.min_self]
    exact List.mem_append_right _ (.head _)
   |some v=>
    show(y,min v u)∈_
    by_cases hv:v<=u
    ·rw[Int.min_eq_left hv]
     exact List.mem_append_left _ (h.so _ (aLW e))
    ·rw[Int.min_eq_right (by omega)]
     exact List.mem_append_right _ (.head _)
  ·exact List.mem_append_left _ (h.so q h1)
 ·rcases List.mem_append.mp hc with z|z
  ·obtain⟨q,hq,e1,e2⟩:=h.co c z
   by_cases e:q.1=y
   ·refine⟨_,sW.mpr (.inl rfl),by show y=c.1;rw[<-e,e1],?_⟩
    have:=aGg h.nd hq
    rw[e] at this
    show min ((aGf qs y).getD u) u<=c.2
    rw[this]
    show min q.2 u<=c.2
    omega
   ·exact⟨q,sW.mpr (.inr ⟨hq,e⟩),e1,e2⟩
  ·rw[List.mem_singleton.mp z]
   exact⟨_,sW.mpr (.inl rfl),rfl,by show min _ u<=u;omega⟩
def aJ8(W:Nat->α->List (Wy α))(i:Nat)(ps:List (α×Int)):List (α×Int):=ps.flatMap fun p=>(W i p.1).map fun w=>(w.2.1,p.2+w.2.2)
structure Fw(W:Nat->α->List (Wy α))(a:α)(i:Nat)(ps:List (α×Int)):Prop where
 nd:(ps.map (·.1)).Nodup
 so:∀p∈ps,∃row:List Int,row.length=i/\yJ W 0 a row=some p
 co:∀(row:List Int) e,row.length=i->yJ W 0 a row=some e->∃p∈ps,p.1=e.1/\p.2<=e.2
theorem Fw.zero(W:Nat->α->List (Wy α))(a:α):Fw W a 0 [(a,0)]:=by
 refine⟨by simp,fun p hp=>⟨[],rfl,by rw[List.mem_singleton.mp hp];rfl⟩,fun row e hl he=>?_⟩
 rw[List.length_eq_zero_iff.mp hl] at he
 cases he
 exact⟨_,.head _,rfl,Int.le_refl _⟩
theorem Fw.on{W:Nat->α->List (Wy α)}(hr:∀i x,aF5 (W i x)){a:α}{i:Nat}{ps qs:List (α×Int)}(h:Fw W a i ps)(hq:sX (aJ8 W i ps) qs):Fw W a (i+1) qs:=by
 refine⟨hq.nd,fun q hq'=>?_,fun row e hl he=>?_⟩
 ·obtain⟨p,hp,hc⟩:=List.mem_flatMap.mp (hq.so q hq')
  obtain⟨w,hw,rfl⟩:=List.mem_map.mp hc
  obtain⟨row,l1,e1⟩:=h.so p hp
  refine⟨row ++ [w.1],by rw[List.length_append,l1];rfl,?_⟩
  rw[sV,e1,l1,Nat.zero_add]
  show Option.map _ ((W i p.1).find? _)=_
  rw[aBx (hr i p.1) hw]
  rfl
 ·have hne:row≠[]:=fun z=>by rw[z] at hl;cases hl
  have es:=List.dropLast_concat_getLast hne
  have lk:row.dropLast.length=i:=by rw[List.length_dropLast,hl];rfl
  rw[<-es,sV] at he
  obtain⟨e',he',hv⟩:=Option.bind_eq_some_iff.mp he
  obtain⟨v,hf,ev⟩:=Option.map_eq_some_iff.mp hv
  rw[lk,Nat.zero_add] at hf
  cases ev
  obtain⟨p,hp,e1,e2⟩:=h.co row.dropLast e' lk he'
  have hw:=List.mem_of_find?_eq_some hf
  obtain⟨q,hq',q1,q2⟩:=hq.co (v.2.1,p.2+v.2.2) (List.mem_flatMap.mpr ⟨p,hp,List.mem_map.mpr ⟨v,by rw[e1];exact hw,rfl⟩⟩)
  refine⟨q,hq',q1,?_⟩
  have q2':q.2<=p.2+v.2.2:=q2
  show q.2<=e'.2+v.2.2
  omega
theorem Fw.least{W:Nat->α->List (Wy α)}{n:Nat}{L:Nat->α->Prop}(hl:Lay W n L)(hr:∀i x,aF5 (W i x)){a:α}(ha:L 0 a){ps:List (α×Int)}(h:Fw W a n ps):ps≠[]/\∀m,m∈ps.map (·.2)->(∀x∈ps.map (·.2),m<=x)->m=wF W n 0 a:=by
 obtain⟨r1,r2⟩:=aI6 hl hr n 0 a (by omega) ha
 rw[aIv] at r1
 obtain⟨e,e1,e2⟩:=Option.map_eq_some_iff.mp r1
 obtain⟨p,hp,p1,p2⟩:=h.co _ e r2 e1
 refine⟨(fun z=>by rw[z] at hp;cases hp),fun m hm hle=>?_⟩
 have a1:=hle p.2 (List.mem_map.mpr ⟨p,hp,rfl⟩)
 obtain⟨q,hq,rfl⟩:=List.mem_map.mp hm
 obtain⟨row,l1,f1⟩:=h.so q hq
 have a2:=aNi (W:=W) (row:=row) (i:=0) (x:=a) (v:=q.2) (by rw[aIv,f1];rfl)
 rw[l1] at a2
 have a3:e.2=wF W n 0 a:=e2
 omega
end Fwd
theorem aPN(m:MS)(p:Int)(s:Int×Int):hw m p s 0=m.rest:=by
 show aJ1 m s.1 [0] - 0*gnT m p=_
 unfold aJ1
 rw[show bgs s.1 [0] 0=[] by show(if (0:Int)=1/\s.1=0 then [((0:Nat):Int)] else []) ++ []=[];rw[if_neg (by omega)];rfl]
 simp
theorem aPO(m:MS)(p:Int){s:Int×Int}(b:Bit s.1):hw m p s 1=m.run+m.begin_*(1 - s.1) - gnT m p:=by
 show aJ1 m s.1 [1] - 1*gnT m p=_
 unfold aJ1
 rcases b with b|b
 ·rw[show bgs s.1 [1] 0=[0] by show(if (1:Int)=1/\s.1=0 then [((0:Nat):Int)] else []) ++ []=[0];rw[if_pos ⟨rfl,b⟩];rfl,b]
  simp
  omega
 ·rw[show bgs s.1 [1] 0=[] by show(if (1:Int)=1/\s.1=0 then [((0:Nat):Int)] else []) ++ []=[];rw[if_neg (by omega)];rfl,b]
  simp
theorem aHw{m:MS}{ps:List Int}{a:Int×Int}:∀{k:Nat}{f:List Int×(Int×Int)×Int},f∈aDQ (Wr m ps) a k->Rc m a k f.2.1
 |0,f,h=>by
  have h':f∈[([],a,(0:Int))]:=h
  rw[List.mem_singleton.mp h']
  rfl
 |k+1,f,h=>by
  have h':f∈(aDQ (Wr m ps) a k).flatMap _:=h
  obtain⟨g,hg,hf⟩:=List.mem_flatMap.mp h'
  obtain⟨v,hv,rfl⟩:=List.mem_map.mp hf
  obtain⟨on,b,may,rfl⟩:=aCB.mp hv
  exact⟨g.2.1,aHw hg,on,b,may,rfl⟩
def c1p(m:MS)(pr:Int)(p:WP)(ons:List Int):List WP:=(ons.filter (aCk p.1)).map fun on=>(uV m p.1.1 p.1.2 on,p.2+hw m pr p.1 on)
theorem aLX(m:MS)(pr:Int)(p:WP):((rwy m pr p.1).map fun w=>(w.2.1,p.2+w.2.2))=c1p m pr p [0,1]:=by
 unfold c1p rwy
 rw[List.map_map]
 rfl
theorem aHx(x:Option Int)(n:Int):(x.map V.int).getD (.int n)=.int (x.getD n):=by cases x <;> rfl
theorem aOM{m:MS}{qs:List Int}{a:Int×Int}:∀{row:List Int}{e:(Int×Int)×Int},yJ (Wr m qs) 0 a row=some e->Rc m a row.length e.1:=fun {row e} h=>aHw (ps:=qs) (f:=(row,e.1,e.2)) ((aBD (fun _ _=>aDB _ _ _)).mpr ⟨rfl,h⟩)
def aA4(K:W.Frag):Sp:=fun vs H Q _=>∃(s:Addr) (m:MS) (t:Addr) (a:Int×Int) (q:Addr) (qs:List Int),vs=[.ref s,.ref t,.ref q]/\cM H s m/\m.Good/\H t=some (.tup [.int a.1,.int a.2])/\St1 m a/\H q=some (.lst (qs.map V.int))/\(∀n∈qs,Am n)/\qs.length<=48/\
 ∀(H':Hp),aI H H'->Q (.int (rwF m qs a)) H'
theorem aA5{P:Program}{w:World}{K:PySem.W.Frag}{mg:Str->Option Value}{base:Heap}{a:iT}(tx:Txt K mg a):bL P w K mg base gF 2 a.iI a.iJ ["_law_spec_here","_law_state_here","_law_prices_here"] (aA4 K):=by
 have aGh:=aEh (P:=P) (w:=w) (base:=base) tx
 have aHy:=aFX (P:=P) (w:=w) (base:=base) tx
 refine tx.lF.ok bN (fun vs H Q E h=>?_) (fun cdv A outer s H vs Q E hr h=>?_)
 ·obtain⟨s,m,t,st,q,qs,rfl,_⟩:=h
  rfl
 ·obtain⟨s,m,t,st,q,qs,rfl ,hs,hg,ht,hst,hq,ha,hl,k⟩:=h
  have hu:=jI hr
  refine Z.root (Z.aD (Z.aV (i:=3) bN.nd rfl (Or.inl rfl) (Z.aAk hu (Z.pv 1) Z.aA))
   (Z.aD (Z.cO PassesOwn.never rfl (Z.cV (K':=K) (Z.pv 2)) (Z.aT (i:=4) bN.nd rfl (Or.inl rfl)) (Z.aD (Z.aV (i:=5) bN.nd rfl (Or.inl rfl) Z.o8)
   (Z.aD (Z.cO PassesOwn.never rfl (Z.aC9 (Z.pv 3)) (Z.aT (i:=6) bN.nd rfl (Or.inl rfl)) (Z.aD (Z.aV (i:=7) bN.nd rfl (Or.inl rfl) (Z.aS eQ (Z.aS bJ (Z.aJ (K':=K) (Z.pv 0) Z.aA (fun _ _=>rfl)) (Z.aS bK (Z.aJ (K':=K) (Z.pv 0) Z.aA (fun _ _=>rfl)) (Z.aS eQ Z.aA (Z.aJ (K':=K) (Z.pv 6) Z.aA (fun _ _=>rfl))))) (Z.aF (aHy) (hr.mono (by decide)) (by rfl) tx.aBV tx.wM.kp tx.aBU .nil aQ (Z.aE (Z.pv 0) (Z.aE (Z.pv 4) Z.aC)))))
   (Z.aG (Z.cO PassesOwn.never rfl (Z.dC (by rfl) tx.dI (Z.aE Z.aA Z.aC)) (Z.aT (i:=8) bN.nd rfl (Or.inl rfl)) (Z.aD (Z.aV (i:=9) bN.nd rfl (Or.inl rfl) (Z.aF (aGh) (hr.mono (by decide)) (by rfl) tx.aAw tx.uC.kp tx.aAv .nil aQ (Z.aE (Z.pv 0) (Z.aE (Z.pv 6) (Z.aE (Z.pv 8) Z.aC)))))
   (Z.aG (Z.cC (Z.bE xU (Z.pv 9) Z.jS (bI _)) (Z.aD (Z.aV (i:=10) bN.nd rfl (Or.inl rfl) (Z.aS bJ (Z.sD hu (Z.pv 3) (Z.pv 6)) (Z.aJ (K':=K) (Z.aCR (Z.aJ (K':=K) (Z.pv 0) Z.aA (fun _ _=>rfl)) (Z.pv 7)) (Z.pv 8) (fun _ _=>rfl))))
   (Z.aG (Z.tF hu (Z.pv 5) (Z.pv 9) (Z.aP (kS rfl) (by rfl) tx.pQ rM (Z.aE (Z.vS hu (Z.pv 5) (Z.pv 9) (Z.pv 10)) (Z.aE (Z.pv 10) Z.aC)))))) Z.bH)))))))
   (Z.aG (Z.aV (i:=3) bN.nd rfl (Or.inl rfl) (Z.pv 5))))))
   (Z.aG (Z.aY (Z.aP (rc:=aIS) (aE5 rfl) (by rfl) tx.pQ rM (Z.aE (Z.aAl (Z.pv 3)) Z.aC)))))) ?_
  obtain⟨bg0,bg1⟩:=hg.begin_
  refine aO (σ:=[some (.ref s),some (.ref t),some (.ref q),none,none,none,none,none,none,none,none]) rfl ?_
  walk_at "w"
  intro w nw0
  obtain⟨H1,i1,s1,g1⟩:=nw _ nw0;rw[i1]
  have ht1:=s1 _ _ ht
  walk_at "w"
  refine⟨t,oR st,rfl,ht1,g1,?_⟩
  obtain⟨H2,i2,k2,g2⟩:=wr H1 w _;rw[i2]
  have S2:aI H H2:=fun b o e=>k2 _ _ (s1 _ _ e) (bC nw0 e)
  have hq2:=S2 _ _ hq
  walk_at "w"
  refine mL (bR.of hq2) ?_
  refine xT (xs:=qs.map V.int) (fun i σ' H'=>aI H H'/\∃(d:Addr) (ps:List WP) (z4 z5 z6 z7 z8 z9 z10:Option V),σ'=[some (.ref s),some (.ref t),some (.ref q),some (.ref d),z4,z5,z6,z7,z8,z9,z10]/\H d=none/\H' d=some (.dT (enc ps))/\Fw (Wr m qs) st i ps)
   ⟨S2,w,[(st,0)],_,_,_,_,_,_,_,rfl,nw0,g2,Fw.zero _ _⟩ (fun i σ' H' hi ⟨s',_⟩=>bR.of (s' _ _ hq)) (fun i v σ' H' hv ⟨s',d,ps,z4,z5,z6,z7,z8,z9,z10,e,nd,gd,hF⟩=>?_) (fun σ' H' ⟨s',d,ps,z4,z5,z6,z7,z8,z9,z10,e,nd,gd,hF⟩=>?_)
  ·subst e
   obtain⟨pr,ep,rfl⟩:=mJ hv
   obtain⟨p0,p1⟩:=ha pr (List.mem_of_getElem? ep)
   have egd:qs.getD i 0=pr:=by rw[List.getD_eq_getElem?_getD,ep];rfl
   have hRc:∀p∈ps,Rc m st i p.1:=fun p hp=>by
    obtain⟨row,l1,e1⟩:=hF.so p hp
    rw[<-l1]
    exact aOM e1
   walk_at "w"
   refine aBp ?_
   intro l nl
   obtain⟨H3,i3,s3,g3⟩:=nw _ nl;rw[i3]
   have gd3:=s3 _ _ gd
   have nlH:H l=none:=s'.free nl
   have dl:d≠l:=fun z=>by rw[z,nl] at gd;cases gd
   walk_at "w"
   refine aPt gd3 fun ob=>?_
   obtain⟨H4,i4,k4,g4⟩:=wr H3 d _;rw[i4]
   have S4:aI H H4:=fun b o e=>k4 _ _ (s3 _ _ (s' _ _ e)) (bC nd e)
   have g34:=k4 _ _ g3 (Ne.symm dl)
   refine aLy (kvs:=enc ps) (fun j σ' H'=>aI H H'/\H' d=some (.frz ob (.dT (enc ps)))/\∃(rs:List WP) (z6 z7 z8 z9 z10:Option V),σ'=[some (.ref s),some (.ref t),some (.ref q),some (.ref d),some (.int pr),some (.ref l),z6,z7,z8,z9,z10]/\H' l=some (.dT (enc rs))/\sX ((ps.take j).flatMap fun p=>c1p m pr p [0,1]) rs/\∀r∈rs,Rc m st (i+1) r.1)
    ⟨S4,g4,[],_,_,_,_,_,rfl,g34,sX.nil,fun r h=>by cases h⟩ (fun j σ' H' hj ⟨_,h,_⟩=>h) (fun j kv σ' H5 b hk ⟨s5,gd5,rs,z6,z7,z8,z9,z10,e,gl5,hM,hR⟩ gb=>?_) (fun σ' H5 ⟨s5,gd5,rs,z6,z7,z8,z9,z10,e,gl5,hM,hR⟩=>?_)
   ·subst e
    obtain⟨p,epp,rfl⟩:=aLN hk
    have hpm:=List.mem_of_getElem? epp
    have gb0:H5 b=some (.tup [.int p.1.1,.int p.1.2]):=gb
    obtain⟨⟨sb,sd,_⟩,_⟩:=Rc.st hg hst (hRc p hpm)
    have sbb:0<=p.1.1/\p.1.1<=1:=by rcases sb with z|z <;> omega
    obtain⟨sbb0,sbb1⟩:=sbb
    obtain⟨pl,es5,_⟩:=(hs.same s5).ex
    have bl:b≠l:=fun z=>by rw[z,gl5] at gb0;cases gb0
    have bd:b≠d:=fun z=>by rw[z,gd5] at gb0;cases gb0
    walk_at "w"
    refine⟨s,m,pr,rfl,hs.same s5,hg,p0,by omega,fun H6 s6=>?_⟩
    have s56:=s5.trans s6
    have gl6:=s6 _ _ gl5
    have gd6:=s6 _ _ gd5
    have gb6:=s6 _ _ gb0
    walk_at "w"
    refine⟨by decide,by decide,?_⟩
    refine sC (n:=2) (fun jj σ' H'=>aI H H'/\H' d=some (.frz ob (.dT (enc ps)))/\H' b=some (.tup [.int p.1.1,.int p.1.2])/\∃(rs:List WP) (z8 z9 z10:Option V),σ'=[some (.ref s),some (.ref t),some (.ref q),some (.ref d),some (.int pr),some (.ref l),some (.ref b),some (.int (m.run+m.begin_*(1 - p.1.1) - (pr*m.least+gn pr m.pieces))),z8,z9,z10]/\H' l=some (.dT (enc rs))/\sX (((ps.take j).flatMap fun p=>c1p m pr p [0,1])++c1p m pr p (([0,1]:List Int).take jj)) rs/\∀r∈rs,Rc m st (i+1) r.1)
     ⟨s56,gd6,gb6,rs,_,_,_,rfl,gl6,by rw[show c1p m pr p (([0,1]:List Int).take 0)=[] from rfl,List.append_nil];exact hM,hR⟩ (fun jj σ' H7 hjj ⟨s7,gd7,gb7,rs,z8,z9,z10,e,gl7,hM7,hR7⟩=>?_) (fun σ' H7 ⟨s7,gd7,gb7,rs,z8,z9,z10,e,gl7,hM7,hR7⟩=>?_)
    ·subst e
     have bon:Bit (0+(jj:Int)):=by rcases(show jj=0\/jj=1 by omega) with rfl|rfl;exact .inl rfl;exact .inr rfl
     have eon:([0,1]:List Int)[jj]?=some (0+(jj:Int)):=by rcases(show jj=0\/jj=1 by omega) with rfl|rfl <;> rfl
     generalize 0+(jj:Int)=on at bon eon
     have tk:([0,1]:List Int).take (jj+1)=([0,1]:List Int).take jj ++ [on]:=by rw[List.take_add_one,eon];rfl
     have est:c1p m pr p (([0,1]:List Int).take (jj+1))=c1p m pr p (([0,1]:List Int).take jj)++c1p m pr p [on]:=by
      unfold c1p
      rw[tk,List.filter_append,List.map_append]
     have few:=Rc.few hg hst hM7.nd (fun x hx=>by
      obtain⟨r,hr,rfl⟩:=List.mem_map.mp hx
      exact hR7 r hr)
     rw[List.length_map] at few
     walk_at "w"
     refine⟨s,m,b,p.1.1,p.1.2,on,rfl,hs.same s7,gb7,bon,sb,sd,fun may T H8 s8 nT gT=>?_,fun nmay=>?_⟩
     ·have hmb:aCk p.1 on=true:=sS.mpr may
      have s78:=s7.trans s8
      have gd8:=s8 _ _ gd7
      have gb8:H8 b=some (.tup ((oR p.1).map kV)):=s8 _ _ gb7
      have gl8:=s8 _ _ gl7
      obtain⟨pl8,es8,_⟩:=(hs.same s78).ex
      repeat walk_at "gs"
      have hgt:=oX.f gd8 gb8
      rw[aF4,show xI ps p.1=some p.2 from aGg hF.nd hpm] at hgt
      refine⟨d,_,rfl,hgt,?_⟩
      walk_at "w"
      intro l2 nl2
      obtain⟨H9,i9,s9,g9⟩:=nw _ nl2;rw[i9]
      have ixo:xP [V.int m.rest,.int (m.run+m.begin_*(1 - p.1.1) - (pr*m.least+gn pr m.pieces))] on=some (.int (hw m pr p.1 on)):=by
       rcases bon with rfl|rfl
       ·rw[aPN];rfl
       ·rw[aPO m pr sb];rfl
      have gl9:=s9 _ _ gl8
      have gk:H9 T=some (.tup ((oR (uV m p.1.1 p.1.2 on)).map kV)):=s9 _ _ gT
      walk_at "w"
      refine⟨l,rfl,.inr ⟨_,.inl gl9⟩,?_⟩
      walk_at "w"
      refine⟨_,oX.t gl9 gk,?_⟩
      rw[aF4,aHx]
      walk_at "w"
      refine⟨l,_,rfl,aBe.t gl9 gk (Nat.lt_of_lt_of_le (by rw[aCC];omega:(enc rs).length < 1000) (cD (by decide))),?_⟩
      rw[aI4]
      obtain⟨H10,i10,k10,g10⟩:=wr H9 l _;rw[i10]
      have s89:=s8.trans s9
      walk_at "w"
      refine⟨fun b' o' e'=>k10 _ _ (s89 _ _ (s7 _ _ e')) (bC nlH e'),k10 _ _ (s9 _ _ gd8) dl,k10 _ _ (s9 _ _ gb8) bl,_,_,_,_,rfl,g10,?_,fun r hr=>?_⟩
      ·rw[est,<-List.append_assoc,show c1p m pr p [on]=[(uV m p.1.1 p.1.2 on,p.2+hw m pr p.1 on)] by unfold c1p;rw[List.filter_cons_of_pos hmb];rfl]
       exact hM7.on
      ·rcases sW.mp hr with rfl|⟨h1,_⟩
       ·exact⟨p.1,hRc p hpm,on,bon,may,rfl⟩
       ·exact hR7 r h1
     ·have hmb:¬aCk p.1 on=true:=fun z=>nmay (sS.mp z)
      repeat walk_at "gs"
      refine⟨s7,gd7,gb7,rs,_,_,_,rfl,gl7,?_,hR7⟩
      rw[est,show c1p m pr p [on]=[] by unfold c1p;rw[List.filter_cons_of_neg hmb];rfl,List.append_nil]
      exact hM7
    ·subst e
     refine⟨s7,gd7,rs,_,_,_,_,_,rfl,gl7,?_,hR7⟩
     rw[kO epp,List.flatMap_append,List.flatMap_cons,List.flatMap_nil,List.append_nil]
     exact hM7
   ·subst e
    rw[aCC,List.take_length] at hM
    walk_at "w"
    refine⟨s5,l,rs,_,_,_,_,_,_,_,rfl,nlH,gl5,hF.on (fun _ _=>aDB _ _ _) ?_⟩
    have ec:aJ8 (Wr m qs) i ps=ps.flatMap fun p=>c1p m pr p [0,1]:=by
     unfold aJ8
     congr 1
     funext p
     unfold Wr
     rw[egd]
     exact aLX m pr p
    show sX (aJ8 (Wr m qs) i ps) rs
    rw[ec]
    exact hM
  ·subst e
   rw[List.length_map] at hF
   obtain⟨ne,fl⟩:=hF.least (aMX hg hst qs qs.length) (fun _ _=>aDB _ _ _) rfl
   walk_at "w"
   refine⟨d,rfl,.inr ⟨_,.inl gd⟩,fun b nb=>?_⟩
   obtain⟨H3,i3,s3,g3⟩:=nw _ nb;rw[i3]
   walk_at "w"
   refine aIT g3 (.inl ⟨_,.inl (s3 _ _ gd),show(enc ps).map (·.2)=(ps.map (·.2)).map V.int by unfold enc;rw[List.map_map,List.map_map];rfl⟩) (by simpa using ne) fun mm h1 h2=>?_
   rw[fl mm h1 h2]
   exact k H3 (s'.trans s3)
def vK(ps:List (Int×Int)):List (Key×V):=ps.map fun p=>(Sum.inl p.1,V.int p.2)
theorem aHz(ps:List (Int×Int)):(vK ps).length=ps.length:=by unfold vK;rw[List.length_map]
theorem aDR(k:Int):∀ps:List (Int×Int),oW (vK ps) (.inl k:Key)=(aGf ps k).map V.int
 |[]=>rfl
 |p::r=>by
  show oW ((Sum.inl p.1,V.int p.2)::vK r) _=_
  unfold aGf
  rw[List.find?_cons]
  by_cases e:p.1=k
  ·rw[jV (show((Sum.inl p.1:Key),V.int p.2).1=.inl k by rw[e]),decide_eq_true e];rfl
  ·rw[iO (show ¬((Sum.inl p.1:Key),V.int p.2).1=.inl k from fun z=>e (Sum.inl.inj z)),decide_eq_false e]
   exact aDR k r
theorem aLY(ps:List (Int×Int))(k v:Int):putK (vK ps) (.inl k:Key) (.int v)=vK (aIw ps k v):=by
 unfold putK aIw vK
 have e:((ps.map fun p:Int×Int=>((Sum.inl p.1:Key),V.int p.2)).any fun kv=>decide (kv.1=.inl k))=ps.any fun p=>decide (p.1=k):=by
  rw[List.any_map]
  congr 1
  funext p
  show decide ((Sum.inl p.1:Key)=.inl k)=decide (p.1=k)
  exact decide_eq_decide.mpr ⟨Sum.inl.inj,fun z=>by rw[z]⟩
 rw[e]
 split
 ·rw[List.map_map,List.map_map]
  congr 1
  funext p
  show(if (Sum.inl p.1:Key)=.inl k then ((Sum.inl p.1:Key),V.int v) else (Sum.inl p.1,V.int p.2))=(Sum.inl (if p.1=k then (p.1,v) else p).1,V.int (if p.1=k then (p.1,v) else p).2)
  by_cases h:p.1=k
  ·rw[if_pos h,if_pos (by rw[h])]
  ·rw[if_neg h,if_neg fun z=>h (Sum.inl.inj z)]
 ·rw[List.map_append]
  rfl
theorem aM2{ps:List (Int×Int)}{i:Nat}{kv:Key×V}(h:(vK ps)[i]?=some kv):∃p,ps[i]?=some p/\kv=(.inl p.1,V.int p.2):=by
 unfold vK at h
 rw[List.getElem?_map] at h
 obtain⟨p,hp,e⟩:=Option.map_eq_some_iff.mp h
 exact⟨p,hp,e.symm⟩
def drO:Option SS->Int->Int->Int
 |none,_,_=>0
 |some s,l,n=>dr s l n
theorem aM3{s:SS}{l n:Int}:(if n < l then (n - l)*s.gives else (n - l)*s.takes)=dr s l n:=by
 unfold dr
 by_cases h1:n < l
 ·rw[if_pos h1,if_neg (by omega),Int.mul_comm]
 ·rw[if_neg h1]
  by_cases h2:l < n
  ·rw[if_pos h2,Int.mul_comm]
  ·have e:n=l:=by omega
   subst e
   rw[if_neg h2,Int.sub_self,Int.zero_mul,Int.mul_zero]
def Wo(o:Option SS)(qs:List Int)(i:Nat)(x:Int):List (Wy Int):=(lvO o x).map fun y=>(y,y,qs.getD i 0*drO o x y)
theorem aM4(s:SS)(qs:List Int):Wo (some s) qs=Wl s qs:=by
 funext i x
 unfold Wo Wl lwy
 congr 1
 show upL (max 0 (x - s.out)) (min s.cap (x+s.into)+1 - max 0 (x - s.out)).toNat=upL (max (x - s.out*1) 0) (min (x+s.into*1) s.cap+1 - max (x - s.out*1) 0).toNat
 rw[show max 0 (x - s.out)=max (x - s.out*1) 0 by omega,show min s.cap (x+s.into)=min (x+s.into*1) s.cap by omega]
def LvO(o:Option SS)(l:Int):Prop:=match o with|none=>l=0|some s=>0<=l/\l<=s.cap
theorem aLZ{o:Option SS}{l y:Int}(hy:y∈lvO o l):LvO o y:=by
 cases o with
 |none=>exact List.mem_singleton.mp hy
 |some s=>
  have h:y∈upL (max 0 (l - s.out)) (min s.cap (l+s.into)+1 - max 0 (l - s.out)).toNat:=hy
  rw[aFZ] at h
  show 0<=y/\y<=s.cap
  omega
theorem aJc(o:Option SS)(qs:List Int)(i:Nat)(x:Int):aF5 (Wo o qs i x):=by
 unfold aF5 Wo
 rw[List.pairwise_map]
 cases o with
 |none=>show List.Pairwise _ [0];simp
 |some s=>exact aLR _ _
theorem aON{o:Option SS}(g:∀s,o=some s->s.Good)(qs:List Int)(n:Nat):Lay (Wo o qs) n (fun _=>LvO o) where
 ne:=fun i x _ hx=>by
  unfold Wo
  cases o with
  |none=>show [_]≠[];simp
  |some s=>
   have h:0<=x/\x<=s.cap:=hx
   have gs:=g s rfl
   have g2:=gs.into
   have g3:=gs.out
   intro z
   have z':=List.map_eq_nil_iff.mp z
   have:x∈lvO (some s) x:=by
    show x∈upL (max 0 (x - s.out)) (min s.cap (x+s.into)+1 - max 0 (x - s.out)).toNat
    rw[aFZ]
    omega
   rw[z'] at this
   cases this
 on:=fun i x w _ hx hw=>by
  unfold Wo at hw
  obtain⟨y,hy,rfl⟩:=List.mem_map.mp hw
  exact aLZ hy
theorem aL0{W:WS}{P:Ps}(qs:List Int):wF (Wo W.store qs) qs.length 0 P.2=lsF W P qs:=by
 unfold lsF
 cases e:W.store with
 |none=>
  have key:∀(k i:Nat) (x:Int),wF (Wo none qs) k i x=0:=by
   intro k
   induction k with
   |zero=>intro i x;rfl
   |succ k ih=>
    intro i x
    show qs.getD i 0*0+wF (Wo none qs) k (i+1) 0=0
    rw[ih,Int.mul_zero]
    rfl
  exact key _ _ _
 |some s=>rw[aM4];rfl
theorem aOO{o:Option SS}(g:∀s,o=some s->s.Good){ps:List (Int×Int)}(nd:(ps.map (·.1)).Nodup)(h:∀p∈ps,LvO o p.1):ps.length<=9:=by
 have b:∀p∈ps,0<=p.1/\p.1<=8:=fun p hp=>by
  have:=h p hp
  cases o with
  |none=>have z:p.1=0:=this;omega
  |some s=>have z:0<=p.1/\p.1<=s.cap:=this;have:=(g s rfl).cap.2;omega
 have:=aI5 9 ((ps.map (·.1)).map Int.toNat) (by
  rw[List.Nodup,List.pairwise_map]
  refine nd.imp_of_mem ?_
  intro x y hx hy hxy z
  obtain⟨p,hp,rfl⟩:=List.mem_map.mp hx
  obtain⟨q,hq,rfl⟩:=List.mem_map.mp hy
  have:=b p hp
  have:=b q hq
  omega) (fun x hx=>by
  obtain⟨y,hy,rfl⟩:=List.mem_map.mp hx
  obtain⟨p,hp,rfl⟩:=List.mem_map.mp hy
  have:=b p hp
  omega)
 simpa using this
def aEE(K:W.Frag):Sp:=fun vs H Q _=>∃(v:V) (o:Option SS) (l n:Int),vs=[v,.int l,.int n]/\aEk H v o/\(∀s,o=some s->s.Good)/\Q (.int (drO o l n)) H
theorem aEF{P:Program}{w:World}{K:PySem.W.Frag}{mg:Str->Option Value}{base:Heap}{a:iT}(tx:Txt K mg a):bL P w K mg base gF 1 a.oK a.oM ["_law_store_here","_law_level","_law_later"] (aEE K):=by
 refine tx.uO.ok aD9 (fun vs H Q E h=>?_) (fun cdv A outer s H vs Q E hr h=>?_)
 ·obtain⟨v,o,l,n,rfl,_⟩:=h
  rfl
 ·obtain⟨v,o,l,n,rfl ,hv,hg,k⟩:=h
  have hu:=jI hr
  refine Z.root (Z.aD (Z.cC (Z.bE aCU (Z.pv 0) Z.jS (bI _)) (Z.aG (Z.aY Z.aA)) Z.bH)
   (Z.aD (Z.cC (Z.bE aM6 (Z.pv 2) (Z.pv 1) (bI _)) (Z.aG (Z.aY (Z.aS bK (Z.aS eQ (Z.pv 2) (Z.pv 1)) (Z.aJ (K':=K) (Z.pv 0) Z.aA (fun _ _=>rfl))))) Z.bH)
   (Z.aG (Z.aY (Z.aS bK (Z.aS eQ (Z.pv 2) (Z.pv 1)) (Z.aJ (K':=K) (Z.pv 0) Z.aA (fun _ _=>rfl))))))) ?_
  refine aO (σ:=[some v,some (.int l),some (.int n)]) rfl ?_
  cases o with
  |none=>
   replace hv:v=.non:=hv
   subst hv
   walk_at "w"
   exact k
  |some s=>
   obtain⟨c,rfl,hc⟩:=hv
   have hc':=hc.at_
   obtain⟨t0,t1⟩:=(hg s rfl).takes
   obtain⟨g0,g1⟩:=(hg s rfl).gives
   have k':Q (.int (dr s l n)) H:=k
   rw[<-aM3] at k'
   walk_at "w"
   refine cA (fun h=>?_) (fun h=>?_)
   ·rw[if_pos h] at k'
    walk_at "w"
    exact k'
   ·rw[if_neg h] at k'
    walk_at "w"
    exact k'
def aGi(K:W.Frag):Sp:=fun vs H Q _=>∃(p b:Addr) (x y:Int),vs=[.ref p,.ref b]/\bB H p/\H b=some (.lst [.int x,.int y])/\∀(n:Int) H',bB H' p->bX p H H'->m9 p H H'->Q (.int n) H'
theorem aGj{P:Program}{w:World}{K:PySem.W.Frag}{mg:Str->Option Value}{base:Heap}{a:iT}(tx:Txt K mg a):bL P w K mg base gF 2 a.qQ a.qR ["_law_hand","_law_by"] (aGi K):=by
 have aK:=cT (P:=P) (w:=w) (base:=base) tx
 refine tx.xB.ok aFN (fun vs H Q E h=>?_) (fun cdv A outer s H vs Q E hr h=>?_)
 ·obtain⟨p,b,x,y,rfl,_⟩:=h
  rfl
 ·obtain⟨p,b,x,y,rfl ,hh,hb,k⟩:=h
  have hu:=jI hr
  refine Z.root (Z.aG (Z.aY (Z.aS bJ (Z.aS bK (Z.aJ (K':=K) (Z.pv 1) Z.aA (fun _ _=>rfl)) (Z.aF (aK) (hr.mono (by decide)) (by rfl) tx.aN tx.aL.kp tx.aM .nil aQ (Z.aE (Z.pv 0) (Z.aE Z.aA Z.aC)))) (Z.aF (aK) (hr.mono (by decide)) (by rfl) tx.aN tx.aL.kp tx.aM .nil aQ (Z.aE (Z.pv 0) (Z.aE Z.aA Z.aC)))))) ?_
  refine aO (σ:=[some (.ref p),some (.ref b)]) rfl ?_
  walk_at "w"
  refine⟨p,_,rfl,hh,by decide,by decide,fun r1 H1 a1 b1 h1 k1 q1=>?_⟩
  walk_at "w"
  refine⟨p,_,rfl,h1,by decide,by decide,fun r2 H2 a2 b2 h2 k2 q2=>?_⟩
  walk_at "w"
  exact k _ _ h2 (k1.trans k2) (q1.trans q2)
def zR(K:W.Frag):Sp:=fun vs H Q _=>∃(v:V) (o:Option SS) (l:Int) (q:Addr) (qs:List Int),vs=[v,.int l,.ref q]/\aEk H v o/\(∀s,o=some s->s.Good)/\LvO o l/\H q=some (.lst (qs.map V.int))/\(∀n∈qs,Am n)/\qs.length<=48/\
 ∀(H':Hp),aI H H'->Q (.int (wF (Wo o qs) qs.length 0 l)) H'
theorem zS{P:Program}{w:World}{K:PySem.W.Frag}{mg:Str->Option Value}{base:Heap}{a:iT}(tx:Txt K mg a):bL P w K mg base gF 2 a.gI a.gJ ["_law_store_here","_law_level","_law_prices_here"] (zR K):=by
 have aGk:=aEF (P:=P) (w:=w) (base:=base) tx
 have aEG:=aDG (P:=P) (w:=w) (base:=base) tx
 refine tx.kN.ok bU (fun vs H Q E h=>?_) (fun cdv A outer s H vs Q E hr h=>?_)
 ·obtain⟨v,o,lv,q,qs,rfl,_⟩:=h
  rfl
 ·obtain⟨v,o,lv,q,qs,rfl ,hs,hg,hlv,hq,ha,hl,k⟩:=h
  have hu:=jI hr
  refine Z.root (Z.aD (Z.aV (i:=3) bU.nd rfl (Or.inl rfl) (Z.aBr (Z.pv 1) Z.aA))
   (Z.aD (Z.cO PassesOwn.never rfl (Z.cV (K':=K) (Z.pv 2)) (Z.aT (i:=4) bU.nd rfl (Or.inl rfl)) (Z.aD (Z.aV (i:=5) bU.nd rfl (Or.inl rfl) Z.o8)
   (Z.aD (Z.cO PassesOwn.never rfl (Z.aFA (Z.pv 3)) (Z.aT (i:=6) bU.nd rfl (Or.inl rfl)) (Z.aG (Z.cO PassesOwn.never rfl (Z.cV (K':=K) (Z.aF (aEG) (hr.mono (by decide)) (by rfl) tx.yP tx.rR.kp tx.yO .nil aQ (Z.aE (Z.pv 0) (Z.aE (Z.pv 6) Z.aC)))) (Z.aT (i:=7) bU.nd rfl (Or.inl rfl)) (Z.aD (Z.aV (i:=8) bU.nd rfl (Or.inl rfl) (Z.aS bJ (Z.sD hu (Z.pv 3) (Z.pv 6)) (Z.aS bK (Z.pv 4) (Z.aF (aGk) (hr.mono (by decide)) (by rfl) tx.aAO tx.uO.kp tx.aAN .nil aQ (Z.aE (Z.pv 0) (Z.aE (Z.pv 6) (Z.aE (Z.pv 7) Z.aC)))))))
   (Z.aG (Z.tF hu (Z.pv 5) (Z.pv 7) (Z.aP (kS rfl) (by rfl) tx.pQ rM (Z.aE (Z.vS hu (Z.pv 5) (Z.pv 7) (Z.pv 8)) (Z.aE (Z.pv 8) Z.aC)))))))))
   (Z.aG (Z.aV (i:=3) bU.nd rfl (Or.inl rfl) (Z.pv 5))))))
   (Z.aG (Z.aY (Z.aP (rc:=aIS) (aE5 rfl) (by rfl) tx.pQ rM (Z.aE (Z.aAl (Z.pv 3)) Z.aC)))))) ?_
  refine aO (σ:=[some v,some (.int lv),some (.ref q),none,none,none,none,none,none]) rfl ?_
  walk_at "w"
  intro w nw0
  obtain⟨H1,i1,s1,g1⟩:=nw _ nw0;rw[i1]
  walk_at "w"
  refine⟨.inl lv,rfl,g1,?_⟩
  obtain⟨H2,i2,k2,g2⟩:=wr H1 w _;rw[i2]
  have S2:aI H H2:=fun b o e=>k2 _ _ (s1 _ _ e) (bC nw0 e)
  have hq2:=S2 _ _ hq
  walk_at "w"
  refine mL (bR.of hq2) ?_
  refine xT (xs:=qs.map V.int) (fun i σ' H'=>aI H H'/\∃(d:Addr) (ps:List (Int×Int)) (z4 z5 z6 z7 z8:Option V),σ'=[some v,some (.int lv),some (.ref q),some (.ref d),z4,z5,z6,z7,z8]/\H d=none/\H' d=some (.dK (vK ps))/\Fw (Wo o qs) lv i ps/\∀p∈ps,LvO o p.1)
   ⟨S2,w,[(lv,0)],_,_,_,_,_,rfl,nw0,g2,Fw.zero _ _,fun p hp=>by rw[List.mem_singleton.mp hp];exact hlv⟩ (fun i σ' H' hi ⟨s',_⟩=>bR.of (s' _ _ hq)) (fun i v' σ' H' hv ⟨s',d,ps,z4,z5,z6,z7,z8,e,nd,gd,hF,hL⟩=>?_) (fun σ' H' ⟨s',d,ps,z4,z5,z6,z7,z8,e,nd,gd,hF,hL⟩=>?_)
  ·subst e
   obtain⟨pr,ep,rfl⟩:=mJ hv
   obtain⟨p0,p1⟩:=ha pr (List.mem_of_getElem? ep)
   have egd:qs.getD i 0=pr:=by rw[List.getD_eq_getElem?_getD,ep];rfl
   walk_at "w"
   refine aE3 ?_
   intro l nl
   obtain⟨H3,i3,s3,g3⟩:=nw _ nl;rw[i3]
   have gd3:=s3 _ _ gd
   have nlH:H l=none:=s'.free nl
   have dl:d≠l:=fun z=>by rw[z,nl] at gd;cases gd
   walk_at "w"
   refine aPq gd3 fun ob=>?_
   obtain⟨H4,i4,k4,g4⟩:=wr H3 d _;rw[i4]
   have S4:aI H H4:=fun b o e=>k4 _ _ (s3 _ _ (s' _ _ e)) (bC nd e)
   have g34:=k4 _ _ g3 (Ne.symm dl)
   refine aMN (kvs:=vK ps) (fun j σ' H'=>aI H H'/\H' d=some (.frz ob (.dK (vK ps)))/\∃(rs:List (Int×Int)) (z6 z7 z8:Option V),σ'=[some v,some (.int lv),some (.ref q),some (.ref d),some (.int pr),some (.ref l),z6,z7,z8]/\H' l=some (.dK (vK rs))/\sX ((ps.take j).flatMap fun p=>(lvO o p.1).map fun y=>(y,p.2+pr*drO o p.1 y)) rs/\∀r∈rs,LvO o r.1)
    ⟨S4,g4,[],_,_,_,rfl,g34,sX.nil,fun r h=>by cases h⟩ (fun j σ' H' hj ⟨_,h,_⟩=>h) (fun j kv σ' H5 hk ⟨s5,gd5,rs,z6,z7,z8,e,gl5,hM,hR⟩=>?_) (fun σ' H5 ⟨s5,gd5,rs,z6,z7,z8,e,gl5,hM,hR⟩=>?_)
   ·subst e
    obtain⟨p,epp,rfl⟩:=aM2 hk
    have hpm:=List.mem_of_getElem? epp
    have hlp:=hL p hpm
    show vO 6 (.int p.1) _ _ _
    walk_at "w"
    refine⟨v,o,p.1,rfl,hs.tr s5.tr,fun sv e=>⟨hg sv e,by rw[e] at hlp;exact hlp⟩,fun ll H6 s6 nll gll=>?_⟩
    have s56:=s5.trans s6
    have gl6:=s6 _ _ gl5
    have gd6:=s6 _ _ gd5
    refine mL (bR.of gll) ?_
    refine xT (xs:=(lvO o p.1).map V.int) (fun jj σ' H'=>aI H H'/\H' ll=some (.lst ((lvO o p.1).map V.int))/\H' d=some (.frz ob (.dK (vK ps)))/\∃(rs:List (Int×Int)) (z7 z8:Option V),σ'=[some v,some (.int lv),some (.ref q),some (.ref d),some (.int pr),some (.ref l),some (.int p.1),z7,z8]/\H' l=some (.dK (vK rs))/\sX (((ps.take j).flatMap fun p=>(lvO o p.1).map fun y=>(y,p.2+pr*drO o p.1 y))++(((lvO o p.1).take jj).map fun y=>(y,p.2+pr*drO o p.1 y))) rs/\∀r∈rs,LvO o r.1)
     ⟨s56,gll,gd6,rs,_,_,rfl,gl6,by rw[List.take_zero,List.map_nil,List.append_nil];exact hM,hR⟩ (fun jj σ' H' hj ⟨_,h,_⟩=>bR.of h) (fun jj v' σ' H7 hv ⟨s7,gll7,gd7,rs,z7,z8,e,gl7,hM7,hR7⟩=>?_) (fun σ' H7 ⟨s7,gll7,gd7,rs,z7,z8,e,gl7,hM7,hR7⟩=>?_)
    ·subst e
     obtain⟨y,ey,rfl⟩:=mJ hv
     have hym:=List.mem_of_getElem? ey
     have few:=aOO hg hM7.nd hR7
     have lll:ll≠l:=fun z=>by rw[z,gl7] at gll7;cases gll7
     have hgt:=oX.fk (k:=(.inl p.1:Key)) gd7
     rw[aDR,aGg hF.nd hpm] at hgt
     walk_at "w"
     refine⟨d,_,rfl,hgt,?_⟩
     walk_at "w"
     refine⟨v,o,p.1,y,rfl,hs.tr s7.tr,hg,?_⟩
     walk_at "w"
     refine⟨l,rfl,.inl ⟨_,.inl gl7⟩,?_⟩
     walk_at "w"
     refine⟨_,oX.k (k:=(.inl y:Key)) gl7,?_⟩
     rw[aDR,aHx]
     walk_at "w"
     refine⟨l,_,rfl,aBe.k (k:=(.inl y:Key)) gl7 (Nat.lt_of_lt_of_le (by rw[aHz];omega:(vK rs).length < 1000) (cD (by decide))),?_⟩
     rw[aLY]
     obtain⟨H10,i10,k10,g10⟩:=wr H7 l _;rw[i10]
     walk_at "w"
     refine⟨fun b' o' e'=>k10 _ _ (s7 _ _ e') (bC nlH e'),k10 _ _ gll7 lll,k10 _ _ gd7 dl,_,_,_,rfl,g10,?_,fun r hr=>?_⟩
     ·rw[kO ey,List.map_append,<-List.append_assoc]
      exact hM7.on
     ·rcases sW.mp hr with rfl|⟨h1,_⟩
      ·exact aLZ hym
      ·exact hR7 r h1
    ·subst e
     rw[List.length_map,List.take_length] at hM7
     refine⟨s7,gd7,rs,_,_,_,rfl,gl7,?_,hR7⟩
     rw[kO epp,List.flatMap_append,List.flatMap_cons,List.flatMap_nil,List.append_nil]
     exact hM7
   ·subst e
    rw[aHz,List.take_length] at hM
    walk_at "w"
    refine⟨s5,l,rs,_,_,_,_,_,rfl,nlH,gl5,hF.on (aJc o qs) ?_,hR⟩
    have ec:aJ8 (Wo o qs) i ps=ps.flatMap fun p=>(lvO o p.1).map fun y=>(y,p.2+pr*drO o p.1 y):=by
     unfold aJ8
     congr 1
     funext p
     unfold Wo
     rw[egd,List.map_map]
     rfl
    rw[ec]
    exact hM
  ·subst e
   rw[List.length_map] at hF
   obtain⟨ne,fl⟩:=hF.least (aON hg qs qs.length) (aJc o qs) hlv
   walk_at "w"
   refine⟨d,rfl,.inl ⟨_,.inl gd⟩,fun b nb=>?_⟩
   obtain⟨H3,i3,s3,g3⟩:=nw _ nb;rw[i3]
   walk_at "w"
   refine aIT g3 (.inr ⟨_,.inl (s3 _ _ gd),show(vK ps).map (·.2)=(ps.map (·.2)).map V.int by unfold vK;rw[List.map_map,List.map_map];rfl⟩) (by simpa using ne) fun mm h1 h2=>?_
   rw[fl mm h1 h2]
   exact k H3 (s'.trans s3)
def aEH(K:PySem.W.Frag):Sp:=fun vs H Q _=>∃(s:Addr) (W:WS) (a:Addr) (P:Ps) (u:Addr) (ws:List Int) (q:Addr) (qs:List Int),vs=[.ref s,.ref a,.ref u,.ref q]/\rB H s W/\W.Good/\yW H a P/\aJ7 W P/\H u=some (.lst (ws.map V.int))/\H q=some (.lst (qs.map V.int))/\ws.length=qs.length/\(∀n∈qs,Am n)/\qs.length<=48/\
 ∀(H':Hp),aI H H'->Q (.int (pbF W P ws qs)) H'
theorem aEI{P:Program}{w:World}{K:PySem.W.Frag}{mg:Str->Option Value}{base:Heap}{a:iT}(tx:Txt K mg a):bL P w K mg base gF 3 a.oN a.oO ["_law_spec_here","_law_position_here","_law_wants","_law_prices_here"] (aEH K):=by
 have aA6:=zS (P:=P) (w:=w) (base:=base) tx
 have aBE:=aA5 (P:=P) (w:=w) (base:=base) tx
 refine tx.uP.ok dJ (fun vs H Q E h=>?_) (fun cdv A outer s H vs Q E hr h=>?_)
 ·obtain⟨s,W,ap,P,u,ws,q,qs,rfl,_⟩:=h
  rfl
 ·obtain⟨s,W,ap,P,u,ws,q,qs,rfl ,hW,hg,hP,hB,hwn,hq,hlen,ha,hl,k⟩:=h
  have hu:=jI hr
  refine Z.root (Z.aD (Z.aV (i:=4) dJ.nd rfl (Or.inl rfl) (Z.aF (aA6) (hr.mono (by decide)) (by rfl) tx.qZ tx.kN.kp tx.qY .nil aQ (Z.aE (Z.aJ (K':=K) (Z.pv 0) Z.aA (fun _ _=>rfl)) (Z.aE (Z.aJ (K':=K) (Z.pv 1) Z.aA (fun _ _=>rfl)) (Z.aE (Z.pv 3) Z.aC)))))
   (Z.aD (Z.cO PassesOwn.never rfl (Z.xV (k1:=true) (k2:=true) (by rfl) tx.aAT (Z.aE (Z.pv 3) (Z.aE (Z.pv 2) Z.aC))) (Z.eK (K':=K) (n:=2) rfl (Z.bD (Z.aT (i:=5) dJ.nd rfl (Or.inl rfl)) (Z.bD (Z.aT (i:=6) dJ.nd rfl (Or.inl rfl)) Z.dZ))) (Z.aG (Z.aA9 (i:=4) dJ.nd rfl (Or.inl rfl) (Z.aS bK (Z.pv 5) (Z.pv 6)) aCH)))
   (Z.aD (Z.cO PassesOwn.never rfl (Z.xV (k1:=true) (k2:=false) (by rfl) tx.aAT (Z.aE (Z.aJ (K':=K) (Z.pv 0) Z.aA (fun _ _=>rfl)) (Z.aE (Z.aJ (K':=K) (Z.pv 1) Z.aA (fun _ _=>rfl)) Z.aC))) (Z.eK (K':=K) (n:=2) rfl (Z.bD (Z.aT (i:=7) dJ.nd rfl (Or.inl rfl)) (Z.bD (Z.aT (i:=8) dJ.nd rfl (Or.inl rfl)) Z.dZ))) (Z.aG (Z.aA9 (i:=4) dJ.nd rfl (Or.inl rfl) (Z.aF (aBE) (hr.mono (by decide)) (by rfl) tx.sP tx.lF.kp tx.sO .nil aQ (Z.aE (Z.pv 7) (Z.aE (Z.pv 8) (Z.aE (Z.pv 3) Z.aC)))) aCH)))
   (Z.aG (Z.aY (Z.pv 4)))))) ?_
  obtain⟨ls,st,bb,es,hsp,hst,hbb⟩:=hW.ex
  obtain⟨ms,gls,rms⟩:=hsp.ex
  obtain⟨t,gP,hts⟩:=hP.ex
  obtain⟨ts,gts,rts⟩:=hts.ex
  have lms:=rms.len
  have lts:=rts.len
  have lpp:=hB.ok.len
  have l6:=hg.len
  have hlv:LvO W.store P.2:=by
   have:=hB.ok.lev
   unfold aFa at this
   unfold LvO
   exact this
  refine aO (σ:=[some (.ref s),some (.ref ap),some (.ref u),some (.ref q),none,none,none,none,none]) rfl ?_
  walk_at "w"
  refine⟨st,W.store,P.2,q,qs,rfl,hst,hg.store,hlv,hq,ha,hl,fun H1 s1=>?_⟩
  rw[aL0]
  have hq1:=s1 _ _ hq
  have hw1:=s1 _ _ hwn
  walk_at "w"
  refine aFz (Src.lst hq1) (Src.lst hw1) ?_
  refine aIK (n:=qs.length) (by rw[List.length_map];omega) (by rw[List.length_map];omega) (.inl (by rw[List.length_map]))
   (fun i σ' H'=>aI H1 H'/\∃(z5 z6:Option V),σ'=[some (.ref s),some (.ref ap),some (.ref u),some (.ref q),some (.int (lsF W P qs+List.sum (List.zipWith (fun p w=>p*w) (qs.take i) (ws.take i)))),z5,z6,none,none]) ⟨aI.refl _,none,none,by simp⟩
   (fun i σ' H' hi ⟨s',_⟩=>⟨Src.lst (s' _ _ hq1),Src.lst (s' _ _ hw1)⟩) (fun i x y σ' H' T hx hy ⟨s',z5,z6,e⟩ nT=>?_) (fun σ' H' ⟨s',z5,z6,e⟩=>?_)
  ·subst e
   obtain⟨pr,ep,rfl⟩:=mJ hx
   obtain⟨wn,ew,rfl⟩:=mJ hy
   obtain⟨p0,p1⟩:=ha pr (List.mem_of_getElem? ep)
   obtain⟨J,j,sT,gT⟩:=nw _ nT;rw[j]
   refine eJ (kR.of gT) rfl ?_
   walk_at "w"
   refine aFs rfl ?_
   walk_at "w"
   refine⟨s'.trans sT,some (.int pr),some (.int wn),?_⟩
   rw[yA ep ew,List.sum_append,List.sum_cons,List.sum_nil,Int.add_zero,Int.add_assoc]
   rfl
  subst e
  rw[List.take_length,<-hlen,List.take_length]
  have S2:=s1.trans s'
  have gls2:=S2 _ _ gls
  have gts2:=S2 _ _ gts
  have es2:=S2 _ _ es
  have gP2:=S2 _ _ gP
  walk_at "w"
  refine aFz (Src.lst gls2) (Src.tup gts2) ?_
  refine aIK (n:=W.specs.length) (by rw[List.length_map];omega) (by rw[List.length_map];omega) (.inl (by rw[List.length_map];omega))
   (fun i σ' H3=>aI H' H3/\∃(z7 z8:Option V),σ'=[some (.ref s),some (.ref ap),some (.ref u),some (.ref q),some (.int (lsF W P qs+wsF qs ws+List.sum (List.zipWith (fun m s=>rwF m qs s) (W.specs.take i) (P.1.take i)))),z5,z6,z7,z8]) ⟨aI.refl _,none,none,by simp[wsF]⟩
   (fun i σ' H3 hi ⟨s3,_⟩=>⟨Src.lst (s3 _ _ gls2),Src.tup (s3 _ _ gts2)⟩) (fun i x y σ' H3 T hx hy ⟨s3,z7,z8,e⟩ nT=>?_) (fun σ' H3 ⟨s3,z7,z8,e⟩=>?_)
  ·subst e
   obtain⟨xm,m,_,rfl,em,hm⟩:=rms.get hx
   obtain⟨xt,s0,_,rfl,es0,hs0⟩:=rts.get hy
   obtain⟨J,j,sT,gT⟩:=nw _ nT;rw[j]
   have S3:=S2.trans (s3.trans sT)
   refine eJ (kR.of gT) rfl ?_
   walk_at "w"
   refine aFs rfl ?_
   walk_at "w"
   refine⟨xm,m,xt,s0,q,qs,rfl,hm.tr S3.tr,hg.specs m (List.mem_of_getElem? em),S3 _ _ hs0,hB.st i m s0 em es0,S3 _ _ hq,ha,hl,fun H4 s4=>?_⟩
   walk_at "w"
   refine⟨s3.trans (sT.trans s4),some (.ref xm),some (.ref xt),?_⟩
   rw[yA em es0,List.sum_append,List.sum_cons,List.sum_nil,Int.add_zero,<-Int.add_assoc (lsF W P qs+wsF qs ws)]
   rfl
  subst e
  rw[List.take_length,<-lpp,List.take_length]
  walk_at "w"
  rw[show lsF W P qs+wsF qs ws+List.sum (List.zipWith (fun m s=>rwF m qs s) W.specs P.1)=pbF W P ws qs by unfold pbF lmF;omega]
  exact k H3 (S2.trans s3)
def aDS(K:W.Frag):Sp:=fun vs H Q _=>∃(p b:Addr) (x y L:Int) (n:Nat),vs=[.ref p,.ref b,.int L,.int (n:Int)]/\bB H p/\H b=some (.lst [.int x,.int y])/\1<=y/\y<=50000000000/\Am L/\n<=48/\
 ∀(q:Addr) (ps:List Int) (H':Hp),H' q=some (.lst (ps.map V.int))->ps.length=n->(∀r∈ps,0<=r/\r<=L)->bB H' p->bX p H H'->Q (.ref q) H'
theorem aDT{P:Program}{w:World}{K:PySem.W.Frag}{mg:Str->Option Value}{base:Heap}{a:iT}(tx:Txt K mg a):bL P w K mg base gF 3 a.mD a.mE ["_law_hand","_law_by","_law_lack","_law_hours"] (aDS K):=by
 have aGl:=aED (P:=P) (w:=w) (base:=base) tx
 refine tx.rV.ok aDj (fun vs H Q E h=>?_) (fun cdv A outer s H vs Q E hr h=>?_)
 ·obtain⟨p,b,x,y,L,n,rfl,_⟩:=h
  rfl
 ·obtain⟨p,b,x,y,L,n,rfl ,hh,hb,y0,y1,hL,hn,k⟩:=h
  have hu:=jI hr
  refine Z.root (Z.aG (Z.aY (Z.fE (k:=1) (idx:=[1,0,2]) (N:=["_law_hour","_law_by","_law_hand","_law_lack"]) (cQ (sc:=aB eI) (NX:=["_law_hand","_law_by","_law_lack","_law_hours"]) rfl rfl rfl (by decide +kernel)) rfl (Z.dC (by rfl) tx.dI (Z.aE (Z.pv 3) Z.aC)) (fun _ _ _ _=>(Z.aT (i:=0) (show(["_law_hour","_law_by","_law_hand","_law_lack"]:List Str).Nodup by decide +kernel) rfl (Or.inl rfl))) (eB (by decide)) (fun _ _ _ _=>Z.dG) (fun _ _ _ _=>(Z.aF (aGl) (hr.mono (by decide)) (by rfl) tx.aAM tx.uN.kp tx.aAL .nil aQ (Z.aE (Z.pv 2) (Z.aE (Z.pv 1) (Z.aE (Z.pv 3) Z.aC)))))))) ?_
  have bp:b≠p:=hh.aHh hb (by simp)
  refine aO (σ:=[some (.ref p),some (.ref b),some (.int L),some (.int (n:Int))]) rfl ?_
  walk_at "w"
  refine⟨by omega,by omega,?_⟩
  rw[Int.toNat_natCast]
  refine oY (fun i us H'=>bB H' p/\bX p H H'/\∃ps:List Int,us=ps.map V.int/\ps.length=i/\∀r∈ps,0<=r/\r<=L) ⟨hh,fun _ _ e _=>e,[],rfl,rfl,fun r h=>by cases h⟩ (cD (by omega)) (fun i us H' hi ⟨_,_,ps,e1,e2,_⟩=>by rw[e1,List.length_map];omega) (fun i us H' hi ⟨h1,k1,ps,e1,e2,e3⟩=>?_) (fun us H' ⟨h1,k1,ps,e1,e2,e3⟩=>?_)
  ·walk_at "w"
   refine⟨p,b,x,y,L,rfl,h1,k1 _ _ hb bp,y0,y1,hL,fun r H2 r0 r1 h2 k2 _=>?_⟩
   refine⟨h2,k1.trans k2,ps ++ [r],by rw[e1,List.map_append];rfl,by rw[List.length_append,e2];rfl,fun z hz=>?_⟩
   rcases List.mem_append.mp hz with h|h
   ·exact e3 z h
   ·rw[List.mem_singleton.mp h];exact⟨r0,r1⟩
  ·subst e1
   intro q nq
   obtain⟨H2,i2,s2,g2⟩:=nw _ nq;rw[i2]
   walk_at "w"
   exact k q ps H2 g2 e2 e3 (h1.same s2) (k1.trans s2.keep)
def aGm(K:W.Frag):Sp:=fun vs H Q _=>∃(p:Addr) (n:Int),vs=[.ref p,.int n]/\bB H p/\0<=n/\n<=20/\
 ∀(T s a u q:Addr) (W:WS) (P:Ps) (ws qs:List Int) (H':Hp),H' T=some (.tup [.ref s,.ref a,.ref u,.ref q])->rB H' s W->W.Good->yW H' a P->aJ7 W P->H' u=some (.lst (ws.map V.int))->H' q=some (.lst (qs.map V.int))->ws.length=qs.length->(∀n∈qs,0<=n/\n<=W.lack)->qs.length<=48->bB H' p->bX p H H'->Q (.ref T) H'
theorem aGn{P:Program}{w:World}{K:PySem.W.Frag}{mg:Str->Option Value}{base:Heap}{a:iT}(tx:Txt K mg a):bL P w K mg base gF 5 a.qS a.qT ["_law_hand","_law_most"] (aGm K):=by
 have aK:=cT (P:=P) (w:=w) (base:=base) tx
 have mZ:=sU (P:=P) (w:=w) (base:=base) tx
 have aEJ:=aDT (P:=P) (w:=w) (base:=base) tx
 have aHA:=aGj (P:=P) (w:=w) (base:=base) tx
 have aA7:=zO (P:=P) (w:=w) (base:=base) tx
 refine tx.xC.ok jY (fun vs H Q E h=>?_) (fun cdv A outer s H vs Q E hr h=>?_)
 ·obtain⟨p,n,rfl,_⟩:=h
  rfl
 ·obtain⟨p,n,rfl ,hh,n0,n1,k⟩:=h
  have hu:=jI hr
  refine Z.root (Z.aD (Z.aV (i:=2) jY.nd rfl (Or.inr rfl) (Z.aF (aA7) (hr.mono (by decide)) (by rfl) tx.qW tx.kL.kp tx.qV .nil aQ (Z.aE (Z.pv 0) (Z.aE Z.aA Z.aC))))
   (Z.aD (Z.aV (i:=3) jY.nd rfl (Or.inl rfl) (Z.aJ (K':=K) (Z.aCR (Z.aF (aK) (hr.mono (by decide)) (by rfl) tx.aN tx.aL.kp tx.aM .nil aQ (Z.aE (Z.pv 0) (Z.aE (Z.aS bJ (Z.pv 1) Z.aA) Z.aC))) Z.aA) (Z.aS aFk (Z.aF (aK) (hr.mono (by decide)) (by rfl) tx.aN tx.aL.kp tx.aM .nil aQ (Z.aE (Z.pv 0) (Z.aE Z.aA Z.aC))) Z.aA) (fun _ _=>rfl)))
   (Z.aD (Z.cC (Z.bE (r:=oZ K) (eF hu) (Z.aJ (K':=K) (Z.pv 2) Z.aA (fun _ _=>rfl)) Z.aA (bI _)) (Z.aG (Z.aV (i:=3) jY.nd rfl (Or.inl rfl) (Z.aP (kS rfl) (by rfl) tx.pQ rM (Z.aE (Z.pv 3) (Z.aE (Z.aJ (K':=K) (Z.aCR Z.aA Z.aA) (Z.cE aEW (by rfl) tx.aAS aFq (Z.aE (Z.nE aBH (Z.aP (rc:=vI K) cR (by rfl) tx.jQ iZ (Z.aE (Z.aJ (K':=K) (Z.pv 2) Z.aA (fun _ _=>rfl)) Z.aC)) Z.aA (bI _)) Z.aC)) (fun _ _=>rfl)) Z.aC))))) Z.bH)
   (Z.aD (Z.pZ (k:=1) (idx:=[0,2]) (N:=["_law_hour","_law_hand","_law_spec_here"]) (i:=4) jY.nd rfl (Or.inl rfl) (cQ (sc:=aB gN) (NX:=["_law_hand","_law_most","_law_spec_here","_law_hours","_law_wants"]) rfl rfl rfl (by decide +kernel)) rfl (Z.dC (by rfl) tx.dI (Z.aE (Z.pv 3) Z.aC)) (fun _ _ _ _=>(Z.aT (i:=0) (show(["_law_hour","_law_hand","_law_spec_here"]:List Str).Nodup by decide +kernel) rfl (Or.inl rfl))) (eB (by decide)) (fun _ _ _ _=>Z.dG) (fun _ _ _ _=>(Z.aF (aHA) (hr.mono (by decide)) (by rfl) tx.aBZ tx.xB.kp tx.aBY .nil aQ (Z.aE (Z.pv 1) (Z.aE (Z.aJ (K':=K) (Z.pv 2) Z.aA (fun _ _=>rfl)) Z.aC)))))
   (Z.aG (Z.aY (Z.aME (Z.pv 2) (Z.aF (mZ) (hr.mono (by decide)) (by rfl) tx.mT tx.iX.kp tx.mS .nil aQ (Z.aE (Z.pv 0) (Z.aE (Z.pv 2) Z.aC))) (Z.pv 4) (Z.aF (aEJ) (hr.mono (by decide)) (by rfl) tx.yV tx.rV.kp tx.yU .nil aQ (Z.aE (Z.pv 0) (Z.aE (Z.aJ (K':=K) (Z.pv 2) Z.aA (fun _ _=>rfl)) (Z.aE (Z.aJ (K':=K) (Z.pv 2) Z.aA (fun _ _=>rfl)) (Z.aE (Z.pv 3) Z.aC)))))))))))) ?_
  refine aO (σ:=[some (.ref p),some (.int n),none,none,none]) rfl ?_
  walk_at "w"
  refine⟨p,3,rfl,hh,by decide,by decide,fun s W H1 hW hg h1 k1 ns=>?_⟩
  walk_at "w"
  refine⟨p,_,rfl,h1,by omega,by omega,fun r2 H2 a2 b2 h2 k2 _=>?_⟩
  walk_at "w"
  intro l3 nl3
  obtain⟨H3,i3,s3,g3⟩:=nw _ nl3;rw[i3]
  have l3p:l3≠p:=h2.aOH nl3
  have h3:=h2.same s3
  walk_at "w"
  refine⟨p,_,rfl,h3,by decide,by decide,fun r4 H4 a4 b4 h4 k4 _=>?_⟩
  have g4:=k4 _ _ g3 l3p
  obtain⟨nh,hnh,nh48⟩ : ∃m:Nat,xP [V.int r2,.int 48] (r4 / 7)=some (.int (m:Int))/\m<=48:=by
   obtain⟨m,rfl⟩:=Int.eq_ofNat_of_zero_le a2
   have:r4 / 7=0\/r4 / 7=1:=by omega
   rcases this with e|e <;> rw[e]
   ·exact⟨m,rfl,by omega⟩
   ·exact⟨48,rfl,by omega⟩
  have T4:Tr H1 H4:=(h1.tr k2).trans (s3.tr.trans (h3.tr k4))
  have K4:bX p H H4:=k1.trans (k2.trans (s3.keep.trans k4))
  have hW4:=hW.tr T4
  repeat walk_at "st"
  refine iS (fun σ' H'=>aI H4 H'/\∃nh:Nat,nh<=48/\σ'=[some (.ref p),some (.int n),some (.ref s),some (.int (nh:Int)),none]) (fun N hN=>?_) (fun σ' H5 ⟨s5,nh,nh48,e⟩=>?_)
  ·obtain⟨ls,st,bb,es,hsp,hst,hbb⟩:=hW4.ex
   obtain⟨ms,gls,rms⟩:=hsp.ex
   walk_at "w"
   refine cA (fun hw1=>?_) (fun hw1=>?_)
   ·walk_at "w"
    intro l5 nl5
    obtain⟨H5,i5,s5,g5⟩:=nw _ nl5;rw[i5]
    have es5:=s5 _ _ es
    have gls5:=s5 _ _ gls
    walk_at "w"
    rw[List.length_map]
    obtain⟨v,hv,v0,v1⟩ : ∃v:Int,xP [V.int 16,.int 5] (if decide ((ms.length:Int) > 2)=true then 1 else 0)=some (.int v)/\0<=v/\v<=16:=by
     by_cases c:decide ((ms.length:Int) > 2)=true
     ·rw[if_pos c];exact⟨5,rfl,by decide,by decide⟩
     ·rw[if_neg c];exact⟨16,rfl,by decide,by decide⟩
    walk_at "w"
    refine hN _ _ ⟨s5,(min (nh:Int) v).toNat,by omega,?_⟩
    rw[Int.toNat_of_nonneg (by omega)]
   ·walk_at "w"
    exact hN _ _ ⟨aI.refl _,nh,nh48,rfl⟩
  subst e
  have T5:Tr H1 H5:=T4.trans s5.tr
  have h5:=h4.same s5
  have K5:bX p H H5:=K4.trans s5.keep
  have hW5:=hW.tr T5
  obtain⟨ls,st,bb,es,hsp,hst,hbb⟩:=hW5.ex
  have sp:s≠p:=h5.aHh es (by simp)
  have bbp:bb≠p:=h5.aHh hbb (by simp)
  walk_at "w"
  refine⟨by omega,by omega,?_⟩
  rw[Int.toNat_natCast]
  refine oY (fun i us H'=>bB H' p/\bX p H5 H'/\∃ws:List Int,us=ws.map V.int/\ws.length=i) ⟨h5,fun _ _ e _=>e,[],rfl,rfl⟩ (cD (by omega)) (fun i us H' hi ⟨_,_,ps,e1,e2⟩=>by rw[e1,List.length_map];omega) (fun i us H' hi ⟨h6,k6,ws,e1,e2⟩=>?_) (fun us H' ⟨h6,k6,ws,e1,e2⟩=>?_)
  ·have es6:=k6 _ _ es sp
   walk_at "w"
   refine⟨p,bb,W.x,W.y,rfl,h6,k6 _ _ hbb bbp,fun w H7 h7 k7 _=>?_⟩
   exact⟨h7,k6.trans k7,ws ++ [w],by rw[e1,List.map_append];rfl,by rw[List.length_append,e2];rfl⟩
  subst e1
  intro u nu
  obtain⟨H7,i7,s7,g7⟩:=nw _ nu;rw[i7]
  have h7:=h6.same s7
  have T7:Tr H1 H7:=T5.trans ((h5.tr k6).trans s7.tr)
  have K7:bX p H H7:=K5.trans (k6.trans s7.keep)
  have hW7:=hW.tr T7
  walk_at "w"
  refine⟨p,s,W,rfl,h7,hW7,hg,fun a P H8 hP hPo hPs h8 k8=>?_⟩
  have T8:Tr H7 H8:=h7.tr k8
  have hW8:=hW7.tr T8
  obtain⟨ls8,st8,bb8,es8,hsp8,hst8,hbb8⟩:=hW8.ex
  walk_at "w"
  refine⟨p,bb8,W.x,W.y,W.lack,nh,rfl,h8,hbb8,hg.y.1,hg.y.2,hg.lack,nh48,fun q qs H9 gq lq hq h9 k9=>?_⟩
  have T9:Tr H8 H9:=h8.tr k9
  walk_at "w"
  intro T nT
  obtain⟨H10,i10,s10,g10⟩:=nw _ nT;rw[i10]
  have T10:Tr H8 H10:=T9.trans s10.tr
  walk_at "w"
  exact k T s a u q W P ws qs H10 g10 (hW8.tr T10) hg (hP.tk T10.tk) ⟨hPo,hPs⟩ ((T8.trans T10) _ _ g7 aCA) (s10 _ _ gq) (by omega) hq (by omega) (h9.same s10) (K7.trans (k8.trans (k9.trans s10.keep)))
def aGo(K:W.Frag)(t1 t2 t3 t4:Addr):Sp:=fun vs H Q _=>∃(a:Addr) (ns:List Int),vs=[.ref a]/\bR K H a (ns.map V.int)/\ns.length<=63/\H t3=some (.ctb cG cH)/\H t4=some (.ctb eZ fA)/\H t1=some (.ctb cI cJ)/\H t2=some (.ctb fT fU)/\∀H',aI H H'->Q (.bl true) H'
theorem aOP{P:Program}{w:World}{K:PySem.W.Frag}{mg:Str->Option Value}{base:Heap}{a:iT}(tx:Txt K mg a):bL P w K mg base gF 16 a.aIU a.aIV ["_law_script"] (aGo K a.bW a.dY a.bV a.dF):=by
 have aGp:=aEI (P:=P) (w:=w) (base:=base) tx
 have aHB:=aGn (P:=P) (w:=w) (base:=base) tx
 have aHC:=aFQ (P:=P) (w:=w) (base:=base) tx
 have mZ:=sU (P:=P) (w:=w) (base:=base) tx
 have aGq:=aEb (P:=P) (w:=w) (base:=base) tx
 have aGr:=aEw (P:=P) (w:=w) (base:=base) tx
 have aEK:=aDP (P:=P) (w:=w) (base:=base) tx
 refine tx.aNg.ok jZ (fun vs H Q E h=>?_) (fun cdv A outer s H vs Q E hr h=>?_)
 ·obtain⟨ad,ns,rfl,_⟩:=h
  rfl
 ·obtain⟨ad,ns,rfl ,hS,hl,gt3,gt4,gt1,gt2,k⟩:=h
  have hu:=jI hr
  refine Z.root (Z.aD (Z.cO PassesOwn.never rfl (Z.dC (by rfl) tx.dI (Z.aE (Z.aP (jJ rfl) (by rfl) tx.sQ vW (Z.aE Z.aA (Z.aE (Z.aP (kS rfl) (by rfl) tx.pQ rM (Z.aE (Z.aP (rc:=vI K) cR (by rfl) tx.jQ iZ (Z.aE (Z.pv 0) Z.aC)) (Z.aE Z.aA Z.aC))) Z.aC))) Z.aC)) (Z.aT (i:=1) jZ.nd rfl (Or.inl rfl)) (Z.aD (Z.aV (i:=2) jZ.nd rfl (Or.inl rfl) (Z.aF (aHC) (hr.mono (by decide)) (by rfl) tx.aBR tx.wC.kp tx.aBQ .nil aQ (Z.aE (Z.pv 0) (Z.aE (Z.pv 1) Z.aC))))
   (Z.aD (Z.y4 (Z.aF (aHB) (hr.mono (by decide)) (by rfl) tx.aB1 tx.xC.kp tx.aB0 .nil aQ (Z.aE (Z.pv 2) (Z.aE Z.aA Z.aC))) (Z.eK (K':=K) (n:=4) rfl (Z.bD (Z.aT (i:=3) jZ.nd rfl (Or.inr rfl)) (Z.bD (Z.aT (i:=4) jZ.nd rfl (Or.inl rfl)) (Z.bD (Z.aT (i:=5) jZ.nd rfl (Or.inl rfl)) (Z.bD (Z.aT (i:=6) jZ.nd rfl (Or.inl rfl)) Z.dZ))))))
   (Z.aD (Z.aV (i:=7) jZ.nd rfl (Or.inl rfl) (Z.aF (aGr) (hr.mono (by decide)) (by rfl) tx.aAI tx.uJ.kp tx.aAH .nil aQ (Z.aE (Z.pv 3) Z.aC)))
   (Z.aD (Z.pZ (k:=1) (idx:=[3]) (N:=["_law_price_here","_law_spec_here"]) (i:=8) jZ.nd rfl (Or.inl rfl) (cQ (sc:=aB aDe) (NX:=["_law_script","_law_place","_law_hand","_law_spec_here","_law_position_here","_law_wants","_law_prices_here","_law_works_here","_law_other","_law_beside","_law_some","_law_spot","_law_handed","_law_kept","_law_found"]) rfl rfl rfl (by decide +kernel)) rfl (Z.cV (K':=K) (Z.pv 6)) (fun _ _ _ _=>(Z.aT (i:=0) (show(["_law_price_here","_law_spec_here"]:List Str).Nodup by decide +kernel) rfl (Or.inl rfl))) (eB (by decide)) (fun _ _ _ _=>Z.dG) (fun _ _ _ _=>(Z.aS eQ (Z.aJ (K':=K) (Z.pv 1) Z.aA (fun _ _=>rfl)) (Z.pv 0))))
   (Z.aD (Z.aV (i:=9) jZ.nd rfl (Or.inl rfl) (Z.aF (mZ) (hr.mono (by decide)) (by rfl) tx.mT tx.iX.kp tx.mS .nil aQ (Z.aE (Z.pv 2) (Z.aE (Z.pv 3) Z.aC))))
   (Z.aG (Z.cO PassesOwn.never rfl (Z.aFx (K':=K) (Z.aME (Z.rN (Z.pv 6) (Z.pv 4)) (Z.rN (Z.pv 8) (Z.pv 4)) (Z.rN (Z.pv 6) (Z.pv 9)) (Z.rN (Z.pv 6) (Z.pv 4)))) (Z.eK (K':=K) (n:=2) rfl (Z.bD (Z.aT (i:=10) jZ.nd rfl (Or.inl rfl)) (Z.bD (Z.aT (i:=11) jZ.nd rfl (Or.inl rfl)) Z.dZ))) (Z.aD (Z.aFi (i:=12) (j:=13) rfl jZ.nd rfl rfl (by decide) rfl rfl (Z.aE (Z.cE (rc:=tH K) o5 (by rfl) tx.jH lJ (Z.aE (Z.pv 10) Z.aC)) (Z.aE (Z.cE (rc:=tH K) o5 (by rfl) tx.jH lJ (Z.aE (Z.pv 5) Z.aC)) Z.aC)))
   (Z.aD (Z.aV (i:=14) jZ.nd rfl (Or.inl rfl) (Z.aF (aEK) (hr.mono (by decide)) (by rfl) tx.yT tx.rT.kp tx.yS .nil aQ (Z.aE (Z.pv 7) (Z.aE (Z.pv 11) (Z.aE (Z.pv 13) (Z.aE (Z.pv 12) Z.aC))))))
   (Z.aD (Z.cC (Z.vC (Z.aCF (Z.mO (Z.jT (Z.aF (aGq) (hr.mono (by decide)) (by rfl) tx.aAq tx.tX.kp tx.aAp .nil aQ (Z.aE (Z.pv 14) Z.aC)))) (Z.y3 (Z.bE (r:=aFr K) (aBg hu) (Z.pv 14) (Z.aF (aGp) (hr.mono (by decide)) (by rfl) tx.aAQ tx.uP.kp tx.aAP .nil aQ (Z.aE (Z.pv 3) (Z.aE (Z.pv 11) (Z.aE (Z.pv 5) (Z.aE (Z.pv 10) Z.aC))))) (bI _))))) (Z.aG (Z.aY Z.zU)) Z.bH)
   (Z.aG (Z.cC (Z.vC (Z.aCF (Z.bE (r:=aFr K) (aBg hu) (Z.pv 12) (Z.pv 10) (bI _)) (Z.y3 (Z.bE (r:=aFr K) (aBg hu) (Z.pv 13) (Z.pv 5) (bI _))))) (Z.aG (Z.aY Z.zU)) Z.bH)))))))))))))
   (Z.aG (Z.aY Z.zU))) ?_
  have hTb:aIu H _ _ _ _:=⟨gt1,gt2,gt3,gt4⟩
  refine aO (σ:=[some (.ref ad),none,none,none,none,none,none,none,none,none,none,none,none,none,none]) rfl ?_
  walk_at "w"
  refine⟨by omega,by omega,?_⟩
  refine sC (fun i σ' H'=>aI H H'/\∃(z1 z2 z3 z4 z5 z6 z7 z8 z9 z10 z11 z12 z13 z14:Option V),σ'=[some (.ref ad),z1,z2,z3,z4,z5,z6,z7,z8,z9,z10,z11,z12,z13,z14]) ⟨aI.refl _,_,_,_,_,_,_,_,_,_,_,_,_,_,_,rfl⟩ (fun i σ' H' hi ⟨s0,z1,z2,z3,z4,z5,z6,z7,z8,z9,z10,z11,z12,z13,z14,e⟩=>?_) (fun σ' H' ⟨s0,z1,z2,z3,z4,z5,z6,z7,z8,z9,z10,z11,z12,z13,z14,e⟩=>?_)
  ·subst e
   walk_at "w"
   refine⟨ad,ns,_,rfl,aI.seq s0 hS,hl,by omega,fun p H1 s1 np hh=>?_⟩
   have npH:H p=none:=s0.free np
   have S1:=s0.trans s1
   walk_at "w"
   refine⟨p,6,rfl,hh,by decide,by decide,fun T s a1 u q W P ws qs H2 gT hW hg hP hB gu gq hlen hqs lqs h2 k2=>?_⟩
   have ha:∀n∈qs,Am n:=fun n hn=>⟨(hqs n hn).1,Int.le_trans (hqs n hn).2 hg.lack.2⟩
   walk_at "w"
   refine eJ (kR.of gT) rfl ?_
   walk_at "w"
   refine⟨s,W,rfl,hW,hg,fun w H3 hw s3 nw3=>?_⟩
   have hW3:=hW.tr s3.tr
   have gq3:=s3 _ _ gq
   obtain⟨ls,st,bb,es,hsp,hst,hbb⟩:=hW3.ex
   walk_at "w"
   refine mL (bR.of gq3) ?_
   refine gR (xs:=qs.map V.int) (fun j us H'=>H'=H3/\us=((qs.take j).map fun n=>W.lack - n).map V.int) ⟨rfl,rfl⟩ (cD (by rw[List.length_map];omega))
    (fun j us H' hj ⟨e0,e1⟩=>⟨by rw[e0];exact bR.of gq3,by rw[e1,List.length_map,List.length_map,List.length_take];omega⟩) (fun j v us H' hv ⟨e0,e1⟩=>?_) (fun us H' ⟨e0,e1⟩=>?_)
   ·subst e0
    obtain⟨n,en,rfl⟩:=mJ hv
    walk_at "w"
    refine⟨rfl,?_⟩
    rw[e1,kO en,List.map_append,List.map_append]
    rfl
   subst e0 e1
   rw[List.length_map,List.take_length]
   intro q2 nq2
   obtain⟨H4,i4,s4,gq2⟩:=nw _ nq2;rw[i4]
   have s24:=s3.trans s4
   have h4:=h2.same s24
   walk_at "w"
   refine⟨p,s,W,rfl,h4,hW.tr s24.tr,hg,fun a2 P2 H5 hP2 hPo2 hPs2 h5 k5=>?_⟩
   have T45:=h4.tr k5
   have T25:Tr H2 H5:=s24.tr.trans T45
   have K5:bX p H1 H5:=k2.trans (s24.keep.trans k5)
   have S5:aI H H5:=aIo npH S1 K5
   have hW5:=hW.tr T25
   have hw5:=hw.tr (s4.tr.trans T45)
   have hP5:=hP.tk T25.tk
   have gu5:H5 u=some (.lst (ws.map V.int)):=T25 _ _ gu aCA
   have gq5:H5 q=some (.lst (qs.map V.int)):=T25 _ _ gq aCA
   have gq25:H5 q2=some (.lst ((qs.map fun n=>W.lack - n).map V.int)):=T45 _ _ gq2 aCA
   have ha2:∀n∈qs.map fun n=>W.lack - n,Am n:=fun n hn=>by
    obtain⟨n',hn',rfl⟩:=List.mem_map.mp hn
    have:=hqs n' hn'
    have:=hg.lack
    exact⟨by omega,by have:=this.2;omega⟩
   walk_at "w"
   intro c1 nc1
   obtain⟨J1,j1,t1,g1⟩:=nw _ nc1;rw[j1]
   walk_at "w"
   intro c2 nc2
   obtain⟨J2,j2,t2,g2⟩:=nw _ nc2;rw[j2]
   walk_at "w"
   intro c3 nc3
   obtain⟨J3,j3,t3,g3⟩:=nw _ nc3;rw[j3]
   walk_at "w"
   intro c4 nc4
   obtain⟨J4,j4,t4,g4⟩:=nw _ nc4;rw[j4]
   walk_at "w"
   intro TT nTT
   obtain⟨J5,j5,t5,g5⟩:=nw _ nTT;rw[j5]
   have st5:aI H5 J5:=t1.trans (t2.trans (t3.trans (t4.trans t5)))
   have r4:RL (fun c (e:(Addr×List Int)×(Addr×Ps))=>J5 c=some (.tup [.ref e.1.1,.ref e.2.1])/\J5 e.1.1=some (.lst (e.1.2.map V.int))/\e.1.2.length=qs.length/\(∀n∈e.1.2,Am n)/\yW J5 e.2.1 e.2.2/\aJ7 W e.2.2) [c1,c2,c3,c4] [((q,qs),(a1,P)),((q2,qs.map fun n=>W.lack - n),(a1,P)),((q,qs),(a2,P2)),((q,qs),(a1,P))]:=by
    refine⟨rfl,fun j c e h1 h2=>?_⟩
    match j,h1,h2 with
    |0,h1,h2=>cases h1;cases h2;exact⟨(t2.trans (t3.trans (t4.trans t5))) _ _ g1,st5 _ _ gq5,rfl,ha,hP5.tk st5.tk,hB⟩
    |1,h1,h2=>cases h1;cases h2;exact⟨(t3.trans (t4.trans t5)) _ _ g2,st5 _ _ gq25,by rw[List.length_map],ha2,hP5.tk st5.tk,hB⟩
    |2,h1,h2=>cases h1;cases h2;exact⟨(t4.trans t5) _ _ g3,st5 _ _ gq5,rfl,ha,hP2.tk st5.tk,⟨hPo2,hPs2⟩⟩
    |3,h1,h2=>cases h1;cases h2;exact⟨t5 _ _ g4,st5 _ _ gq5,rfl,ha,hP5.tk st5.tk,hB⟩
    |_+4,h1,_=>simp at h1
   walk_at "w"
   refine aKY (kR.of g5) ?_
   refine aKT (xs:=[c1,c2,c3,c4].map V.ref) (fun j σ' H'=>aI J5 H'/\∃(z10 z11 z12 z13 z14:Option V),σ'=[some (.ref ad),some (.int (0+(i:Int))),some (.ref p),some (.ref s),some (.ref a1),some (.ref u),some (.ref q),some (.ref w),some (.ref q2),some (.ref a2),z10,z11,z12,z13,z14]) ⟨aI.refl _,_,_,_,_,_,rfl⟩ (fun j σ' H' hj ⟨s',_⟩=>kR.of (s' _ _ g5)) (fun j v σ' H6 hv ⟨s6,z10,z11,z12,z13,z14,e⟩=>?_) (fun σ' H6 ⟨s6,z10,z11,z12,z13,z14,e⟩=>?_)
   ·subst e
    obtain⟨c,⟨⟨qx,xs⟩,⟨ax,Px⟩⟩,_,rfl,ec,gc,gqx,lx,hx,hPx,hBx⟩:=r4.gt hv
    have s56:=st5.trans s6
    have lx':xs.length=qs.length:=lx
    refine eJ (kR.of (s6 _ _ gc)) rfl ?_
    walk_at "w"
    refine vX (bR.of (s6 _ _ gqx)) ?_
    intro lh nlh
    obtain⟨H7,i7,s7,g7⟩:=nw _ nlh;rw[i7]
    have gu7:=(s56.trans s7) _ _ gu5
    walk_at "w"
    refine vX (bR.of gu7) ?_
    intro lk nlk
    obtain⟨H8,i8,s8,g8⟩:=nw _ nlk;rw[i8]
    have s68:=s6.trans (s7.trans s8)
    have s58:=st5.trans s68
    refine⟨_,_,rfl,?_⟩
    walk_at "w"
    refine⟨w,W,ax,Px,lk,ws,lh,xs,rfl,hw5.tr s58.tr,hg,hPx.tk s68.tk,hBx,g8,s8 _ _ g7,by rw[hlen,lx],hx,by omega,hTb.same (S5.trans s58),fun H9 s9=>?_⟩
    have s69:=s68.trans s9
    have s59:=st5.trans s69
    walk_at "w"
    refine⟨_,_,rfl,.int _,?_⟩
    repeat walk_at "gs"
    refine⟨s,W,ax,Px,u,ws,qx,xs,rfl,hW5.tr s59.tr,hg,hPx.tk s69.tk,hBx,s59 _ _ gu5,s69 _ _ gqx,by rw[hlen,lx],hx,by omega,fun H10 s10=>?_⟩
    repeat walk_at "gs"
    refine aCx (fun z=>absurd rfl z) (fun _=>?_)
    have s610:=s69.trans s10
    have s510:=st5.trans s610
    walk_at "w"
    refine aII (bR.of ((s8.trans (s9.trans s10)) _ _ g7)) (bR.of (s610 _ _ gqx)) ?_
    walk_at "w"
    refine aCx (fun z=>absurd rfl z) (fun _=>?_)
    walk_at "w"
    refine aII (bR.of ((s9.trans s10) _ _ g8)) (bR.of (s510 _ _ gu5)) ?_
    walk_at "w"
    refine aCx (fun z=>absurd rfl z) (fun _=>?_)
    walk_at "w"
    exact⟨s610,_,_,_,_,_,rfl⟩
   ·subst e
    exact⟨S5.trans (st5.trans s6),_,_,_,_,_,_,_,_,_,_,_,_,_,_,rfl⟩
  ·subst e
   walk_at "w"
   exact k _ s0
end My
namespace My
open PySem L2
theorem all_mk{l:PySem.W.OpenLaw}{w:World}{K:PySem.W.Frag}{h:Heap}{mg:Str->Option Value}{fa:Addr}(X:K.In h)(G:h.Ns mainGlobals mg)(hfa:mg "law" = some (.ref fa))
  {C0:Addr} {C1:Addr} {C2:Addr} {f0:Addr} {od0 an0:Option Addr} {sl0:Array (Option Value)} {oc0 kV0 dc0 pm0 cd0 ct0:Value} {f1:Addr} {od1 an1:Option Addr} {sl1:Array (Option Value)} {oc1 kV1 dc1 pm1 cd1 ct1:Value} {f2:Addr} {od2 an2:Option Addr} {sl2:Array (Option Value)} {oc2 kV2 dc2 pm2 cd2 ct2:Value} {f3:Addr} {od3 an3:Option Addr} {sl3:Array (Option Value)} {oc3 kV3 dc3 pm3 cd3 ct3:Value} {f4:Addr} {od4 an4:Option Addr} {sl4:Array (Option Value)} {oc4 kV4 dc4 pm4 cd4 ct4:Value} {f5:Addr} {od5 an5:Option Addr} {sl5:Array (Option Value)} {oc5 kV5 dc5 pm5 cd5 ct5:Value} {f6:Addr} {od6 an6:Option Addr} {sl6:Array (Option Value)} {oc6 kV6 dc6 pm6 cd6 ct6:Value} {f7:Addr} {od7 an7:Option Addr} {sl7:Array (Option Value)} {oc7 kV7 dc7 pm7 cd7 ct7:Value} {f8:Addr} {od8 an8:Option Addr} {sl8:Array (Option Value)} {oc8 kV8 dc8 pm8 cd8 ct8:Value} {f9:Addr} {od9 an9:Option Addr} {sl9:Array (Option Value)} {oc9 kV9 dc9 pm9 cd9 ct9:Value} {f10:Addr} {od10 an10:Option Addr} {sl10:Array (Option Value)} {oc10 kV10 dc10 pm10 cd10 ct10:Value} {f11:Addr} {od11 an11:Option Addr} {sl11:Array (Option Value)} {oc11 kV11 dc11 pm11 cd11 ct11:Value} {f12:Addr} {od12 an12:Option Addr} {sl12:Array (Option Value)} {oc12 kV12 dc12 pm12 cd12 ct12:Value} {f13:Addr} {od13 an13:Option Addr} {sl13:Array (Option Value)} {oc13 kV13 dc13 pm13 cd13 ct13:Value} {f14:Addr} {od14 an14:Option Addr} {sl14:Array (Option Value)} {oc14 kV14 dc14 pm14 cd14 ct14:Value} {f15:Addr} {od15 an15:Option Addr} {sl15:Array (Option Value)} {oc15 kV15 dc15 pm15 cd15 ct15:Value} {f16:Addr} {od16 an16:Option Addr} {sl16:Array (Option Value)} {oc16 kV16 dc16 pm16 cd16 ct16:Value} {f17:Addr} {od17 an17:Option Addr} {sl17:Array (Option Value)} {oc17 kV17 dc17 pm17 cd17 ct17:Value} {f18:Addr} {od18 an18:Option Addr} {sl18:Array (Option Value)} {oc18 kV18 dc18 pm18 cd18 ct18:Value} {f19:Addr} {od19 an19:Option Addr} {sl19:Array (Option Value)} {oc19 kV19 dc19 pm19 cd19 ct19:Value} {f20:Addr} {od20 an20:Option Addr} {sl20:Array (Option Value)} {oc20 kV20 dc20 pm20 cd20 ct20:Value} {f21:Addr} {od21 an21:Option Addr} {sl21:Array (Option Value)} {oc21 kV21 dc21 pm21 cd21 ct21:Value} {f22:Addr} {od22 an22:Option Addr} {sl22:Array (Option Value)} {oc22 kV22 dc22 pm22 cd22 ct22:Value} {f23:Addr} {od23 an23:Option Addr} {sl23:Array (Option Value)} {oc23 kV23 dc23 pm23 cd23 ct23:Value} {f24:Addr} {od24 an24:Option Addr} {sl24:Array (Option Value)} {oc24 kV24 dc24 pm24 cd24 ct24:Value} {f25:Addr} {od25 an25:Option Addr} {sl25:Array (Option Value)} {oc25 kV25 dc25 pm25 cd25 ct25:Value} {f26:Addr} {od26 an26:Option Addr} {sl26:Array (Option Value)} {oc26 kV26 dc26 pm26 cd26 ct26:Value} {f27:Addr} {od27 an27:Option Addr} {sl27:Array (Option Value)} {oc27 kV27 dc27 pm27 cd27 ct27:Value} {f28:Addr} {od28 an28:Option Addr} {sl28:Array (Option Value)} {oc28 kV28 dc28 pm28 cd28 ct28:Value} {f29:Addr} {od29 an29:Option Addr} {sl29:Array (Option Value)} {oc29 kV29 dc29 pm29 cd29 ct29:Value} {f30:Addr} {od30 an30:Option Addr} {sl30:Array (Option Value)} {oc30 kV30 dc30 pm30 cd30 ct30:Value} {f31:Addr} {od31 an31:Option Addr} {sl31:Array (Option Value)} {oc31 kV31 dc31 pm31 cd31 ct31:Value} {f32:Addr} {od32 an32:Option Addr} {sl32:Array (Option Value)} {oc32 kV32 dc32 pm32 cd32 ct32:Value} {f33:Addr} {od33 an33:Option Addr} {sl33:Array (Option Value)} {oc33 kV33 dc33 pm33 cd33 ct33:Value} {f34:Addr} {od34 an34:Option Addr} {sl34:Array (Option Value)} {oc34 kV34 dc34 pm34 cd34 ct34:Value} {f35:Addr} {od35 an35:Option Addr} {sl35:Array (Option Value)} {oc35 kV35 dc35 pm35 cd35 ct35:Value} {f36:Addr} {od36 an36:Option Addr} {sl36:Array (Option Value)} {oc36 kV36 dc36 pm36 cd36 ct36:Value} {f37:Addr} {od37 an37:Option Addr} {sl37:Array (Option Value)} {oc37 kV37 dc37 pm37 cd37 ct37:Value} {f38:Addr} {od38 an38:Option Addr} {sl38:Array (Option Value)} {oc38 kV38 dc38 pm38 cd38 ct38:Value} {f39:Addr} {od39 an39:Option Addr} {sl39:Array (Option Value)} {oc39 kV39 dc39 pm39 cd39 ct39:Value} {f40:Addr} {od40 an40:Option Addr} {sl40:Array (Option Value)} {oc40 kV40 dc40 pm40 cd40 ct40:Value} {f41:Addr} {od41 an41:Option Addr} {sl41:Array (Option Value)} {oc41 kV41 dc41 pm41 cd41 ct41:Value} {f42:Addr} {od42 an42:Option Addr} {sl42:Array (Option Value)} {oc42 kV42 dc42 pm42 ct42:Value} {kc42 T42:Addr} {tod42:Option Addr} {tvs42:Array Value} {tsl42:Array (Option Value)} {f43:Addr} {od43 an43:Option Addr} {sl43:Array (Option Value)} {oc43 kV43 dc43 pm43 ct43:Value} {kc43 T43:Addr} {tod43:Option Addr} {tvs43:Array Value} {tsl43:Array (Option Value)} {f44:Addr} {od44 an44:Option Addr} {sl44:Array (Option Value)} {oc44 kV44 dc44 pm44 cd44 ct44:Value} {f45:Addr} {od45 an45:Option Addr} {sl45:Array (Option Value)} {oc45 kV45 dc45 pm45 cd45 ct45:Value} {f46:Addr} {od46 an46:Option Addr} {sl46:Array (Option Value)} {oc46 kV46 dc46 pm46 cd46 ct46:Value} {f47:Addr} {od47 an47:Option Addr} {sl47:Array (Option Value)} {oc47 kV47 dc47 pm47 ct47:Value} {kc47 T47:Addr} {tod47:Option Addr} {tvs47:Array Value} {tsl47:Array (Option Value)} {f48:Addr} {od48 an48:Option Addr} {sl48:Array (Option Value)} {oc48 kV48 dc48 pm48 ct48:Value} {kc48 T48:Addr} {tod48:Option Addr} {tvs48:Array Value} {tsl48:Array (Option Value)} {f49:Addr} {od49 an49:Option Addr} {sl49:Array (Option Value)} {oc49 kV49 dc49 pm49 cd49 ct49:Value} {f50:Addr} {od50 an50:Option Addr} {sl50:Array (Option Value)} {oc50 kV50 dc50 pm50 cd50 ct50:Value} {f51:Addr} {od51 an51:Option Addr} {sl51:Array (Option Value)} {oc51 kV51 dc51 pm51 cd51 ct51:Value} {f52:Addr} {od52 an52:Option Addr} {sl52:Array (Option Value)} {oc52 kV52 dc52 pm52 cd52 ct52:Value} {f53:Addr} {od53 an53:Option Addr} {sl53:Array (Option Value)} {oc53 kV53 dc53 pm53 cd53 ct53:Value} {f54:Addr} {od54 an54:Option Addr} {sl54:Array (Option Value)} {oc54 kV54 dc54 pm54 cd54 ct54:Value} {f55:Addr} {od55 an55:Option Addr} {sl55:Array (Option Value)} {oc55 kV55 dc55 pm55 cd55 ct55:Value} {f56:Addr} {od56 an56:Option Addr} {sl56:Array (Option Value)} {oc56 kV56 dc56 pm56 cd56 ct56:Value} {f57:Addr} {od57 an57:Option Addr} {sl57:Array (Option Value)} {oc57 kV57 dc57 pm57 cd57 ct57:Value} {f58:Addr} {od58 an58:Option Addr} {sl58:Array (Option Value)} {oc58 kV58 dc58 pm58 cd58 ct58:Value} {f59:Addr} {od59 an59:Option Addr} {sl59:Array (Option Value)} {oc59 kV59 dc59 pm59 cd59 ct59:Value} {f60:Addr} {od60 an60:Option Addr} {sl60:Array (Option Value)} {oc60 kV60 dc60 pm60 cd60 ct60:Value} {tk_MOST_LEVELS:Tok} {tk_LONGEST_STINT:Tok} {tk_MOST_PIECES:Tok} {tk_MOST_MACHINES:Tok}
  (aC0:PySem.W.nsIn K mainGlobals "Machine" = some (some (.ref C0)))
  (aC1:PySem.W.nsIn K mainGlobals "Store" = some (some (.ref C1)))
  (aC2:PySem.W.nsIn K mainGlobals "Works" = some (some (.ref C2)))
  (a0:PySem.W.nsIn K mainGlobals "_law_open" = some (some (.ref f0)))
  (l0:K.lookup f0=some ⟨oc0,od0,.func (PySem.W.fnOf "_law_open" "_law_open" (aX gK) (aU gK) (aB gK) .none kV0 dc0 pm0 an0 cd0 ct0),sl0⟩)
  (c0:PySem.W.codeIn K cd0 "_law_open" = true)
  (k0:W.keepIn K (.ref f0)=true)
  (a1:PySem.W.nsIn K mainGlobals "_law_draw" = some (some (.ref f1)))
  (l1:K.lookup f1=some ⟨oc1,od1,.func (PySem.W.fnOf "_law_draw" "_law_draw" (aX jK) (aU jK) (aB jK) .none kV1 dc1 pm1 an1 cd1 ct1),sl1⟩)
  (c1:PySem.W.codeIn K cd1 "_law_draw" = true)
  (k1:W.keepIn K (.ref f1)=true)
  (a2:PySem.W.nsIn K mainGlobals "_law_far" = some (some (.ref f2)))
  (l2:K.lookup f2=some ⟨oc2,od2,.func (PySem.W.fnOf "_law_far" "_law_far" (aX kT) (aU kT) (aB kT) .none kV2 dc2 pm2 an2 cd2 ct2),sl2⟩)
  (c2:PySem.W.codeIn K cd2 "_law_far" = true)
  (k2:W.keepIn K (.ref f2)=true)
  (a3:PySem.W.nsIn K mainGlobals "_law_whole" = some (some (.ref f3)))
  (l3:K.lookup f3=some ⟨oc3,od3,.func (PySem.W.fnOf "_law_whole" "_law_whole" (aX gU) (aU gU) (aB gU) .none kV3 dc3 pm3 an3 cd3 ct3),sl3⟩)
  (c3:PySem.W.codeIn K cd3 "_law_whole" = true)
  (k3:W.keepIn K (.ref f3)=true)
  (a4:PySem.W.nsIn K mainGlobals "_law_factor" = some (some (.ref f4)))
  (l4:K.lookup f4=some ⟨oc4,od4,.func (PySem.W.fnOf "_law_factor" "_law_factor" (aX fW) (aU fW) (aB fW) .none kV4 dc4 pm4 an4 cd4 ct4),sl4⟩)
  (c4:PySem.W.codeIn K cd4 "_law_factor" = true)
  (k4:W.keepIn K (.ref f4)=true)
  (a5:PySem.W.nsIn K mainGlobals "is_whole" = some (some (.ref f5)))
  (l5:K.lookup f5=some ⟨oc5,od5,.func (PySem.W.fnOf "is_whole" "is_whole" (aX kU) (aU kU) (aB kU) .none kV5 dc5 pm5 an5 cd5 ct5),sl5⟩)
  (c5:PySem.W.codeIn K cd5 "is_whole" = true)
  (k5:W.keepIn K (.ref f5)=true)
  (a6:PySem.W.nsIn K mainGlobals "is_amount" = some (some (.ref f6)))
  (l6:K.lookup f6=some ⟨oc6,od6,.func (PySem.W.fnOf "is_amount" "is_amount" (aX jL) (aU jL) (aB jL) .none kV6 dc6 pm6 an6 cd6 ct6),sl6⟩)
  (c6:PySem.W.codeIn K cd6 "is_amount" = true)
  (k6:W.keepIn K (.ref f6)=true)
  (a7:PySem.W.nsIn K mainGlobals "is_span" = some (some (.ref f7)))
  (l7:K.lookup f7=some ⟨oc7,od7,.func (PySem.W.fnOf "is_span" "is_span" (aX oS) (aU oS) (aB oS) .none kV7 dc7 pm7 an7 cd7 ct7),sl7⟩)
  (c7:PySem.W.codeIn K cd7 "is_span" = true)
  (k7:W.keepIn K (.ref f7)=true)
  (a8:PySem.W.nsIn K mainGlobals "is_piece" = some (some (.ref f8)))
  (l8:K.lookup f8=some ⟨oc8,od8,.func (PySem.W.fnOf "is_piece" "is_piece" (aX kW) (aU kW) (aB kW) .none kV8 dc8 pm8 an8 cd8 ct8),sl8⟩)
  (c8:PySem.W.codeIn K cd8 "is_piece" = true)
  (k8:W.keepIn K (.ref f8)=true)
  (a9:PySem.W.nsIn K mainGlobals "are_pieces" = some (some (.ref f9)))
  (l9:K.lookup f9=some ⟨oc9,od9,.func (PySem.W.fnOf "are_pieces" "are_pieces" (aX eC) (aU eC) (aB eC) .none kV9 dc9 pm9 an9 cd9 ct9),sl9⟩)
  (c9:PySem.W.codeIn K cd9 "are_pieces" = true)
  (k9:W.keepIn K (.ref f9)=true)
  (a10:PySem.W.findIn K (.ref C0) "__init__" = some (some (.ref f10)))
  (i10:PySem.W.isFn K (.ref f10)=true)
  (l10:K.lookup f10=some ⟨oc10,od10,.func (PySem.W.fnOf "__init__" "Machine.__init__" (aX eS) (aU eS) (aB eS) .none kV10 dc10 pm10 an10 cd10 ct10),sl10⟩)
  (c10:PySem.W.codeIn K cd10 "Machine.__init__" = true)
  (k10:W.keepIn K (.ref f10)=true)
  (a11:PySem.W.nsIn K mainGlobals "_law_spec" = some (some (.ref f11)))
  (l11:K.lookup f11=some ⟨oc11,od11,.func (PySem.W.fnOf "_law_spec" "_law_spec" (aX jM) (aU jM) (aB jM) .none kV11 dc11 pm11 an11 cd11 ct11),sl11⟩)
  (c11:PySem.W.codeIn K cd11 "_law_spec" = true)
  (k11:W.keepIn K (.ref f11)=true)
  (a12:PySem.W.nsIn K mainGlobals "_law_machine" = some (some (.ref f12)))
  (l12:K.lookup f12=some ⟨oc12,od12,.func (PySem.W.fnOf "_law_machine" "_law_machine" (aX eT) (aU eT) (aB eT) .none kV12 dc12 pm12 an12 cd12 ct12),sl12⟩)
  (c12:PySem.W.codeIn K cd12 "_law_machine" = true)
  (k12:W.keepIn K (.ref f12)=true)
  (a13:PySem.W.findIn K (.ref C0) "gain" = some (some (.ref f13)))
  (i13:PySem.W.isFn K (.ref f13)=true)
  (l13:K.lookup f13=some ⟨oc13,od13,.func (PySem.W.fnOf "gain" "Machine.gain" (aX eU) (aU eU) (aB eU) .none kV13 dc13 pm13 an13 cd13 ct13),sl13⟩)
  (c13:PySem.W.codeIn K cd13 "Machine.gain" = true)
  (k13:W.keepIn K (.ref f13)=true)
  (a14:PySem.W.nsIn K mainGlobals "_law_gain" = some (some (.ref f14)))
  (l14:K.lookup f14=some ⟨oc14,od14,.func (PySem.W.fnOf "_law_gain" "_law_gain" (aX gL) (aU gL) (aB gL) .none kV14 dc14 pm14 an14 cd14 ct14),sl14⟩)
  (c14:PySem.W.codeIn K cd14 "_law_gain" = true)
  (k14:W.keepIn K (.ref f14)=true)
  (a15:PySem.W.nsIn K mainGlobals "may_be" = some (some (.ref f15)))
  (l15:K.lookup f15=some ⟨oc15,od15,.func (PySem.W.fnOf "may_be" "may_be" (aX sF) (aU sF) (aB sF) .none kV15 dc15 pm15 an15 cd15 ct15),sl15⟩)
  (c15:PySem.W.codeIn K cd15 "may_be" = true)
  (k15:W.keepIn K (.ref f15)=true)
  (a16:PySem.W.nsIn K mainGlobals "state_after" = some (some (.ref f16)))
  (l16:K.lookup f16=some ⟨oc16,od16,.func (PySem.W.fnOf "state_after" "state_after" (aX fX) (aU fX) (aB fX) .none kV16 dc16 pm16 an16 cd16 ct16),sl16⟩)
  (c16:PySem.W.codeIn K cd16 "state_after" = true)
  (k16:W.keepIn K (.ref f16)=true)
  (a17:PySem.W.nsIn K mainGlobals "_law_state" = some (some (.ref f17)))
  (l17:K.lookup f17=some ⟨oc17,od17,.func (PySem.W.fnOf "_law_state" "_law_state" (aX gW) (aU gW) (aB gW) .none kV17 dc17 pm17 an17 cd17 ct17),sl17⟩)
  (c17:PySem.W.codeIn K cd17 "_law_state" = true)
  (k17:W.keepIn K (.ref f17)=true)
  (a18:PySem.W.nsIn K mainGlobals "_law_after" = some (some (.ref f18)))
  (l18:K.lookup f18=some ⟨oc18,od18,.func (PySem.W.fnOf "_law_after" "_law_after" (aX gX) (aU gX) (aB gX) .none kV18 dc18 pm18 an18 cd18 ct18),sl18⟩)
  (c18:PySem.W.codeIn K cd18 "_law_after" = true)
  (k18:W.keepIn K (.ref f18)=true)
  (a19:PySem.W.nsIn K mainGlobals "is_depth" = some (some (.ref f19)))
  (l19:K.lookup f19=some ⟨oc19,od19,.func (PySem.W.fnOf "is_depth" "is_depth" (aX kX) (aU kX) (aB kX) .none kV19 dc19 pm19 an19 cd19 ct19),sl19⟩)
  (c19:PySem.W.codeIn K cd19 "is_depth" = true)
  (k19:W.keepIn K (.ref f19)=true)
  (a20:PySem.W.findIn K (.ref C1) "__init__" = some (some (.ref f20)))
  (i20:PySem.W.isFn K (.ref f20)=true)
  (l20:K.lookup f20=some ⟨oc20,od20,.func (PySem.W.fnOf "__init__" "Store.__init__" (aX gY) (aU gY) (aB gY) .none kV20 dc20 pm20 an20 cd20 ct20),sl20⟩)
  (c20:PySem.W.codeIn K cd20 "Store.__init__" = true)
  (k20:W.keepIn K (.ref f20)=true)
  (a21:PySem.W.nsIn K mainGlobals "run_fault" = some (some (.ref f21)))
  (l21:K.lookup f21=some ⟨oc21,od21,.func (PySem.W.fnOf "run_fault" "run_fault" (aX jN) (aU jN) (aB jN) .none kV21 dc21 pm21 an21 cd21 ct21),sl21⟩)
  (c21:PySem.W.codeIn K cd21 "run_fault" = true)
  (k21:W.keepIn K (.ref f21)=true)
  (a22:PySem.W.nsIn K mainGlobals "refuse_fault" = some (some (.ref f22)))
  (l22:K.lookup f22=some ⟨oc22,od22,.func (PySem.W.fnOf "refuse_fault" "refuse_fault" (aX eV) (aU eV) (aB eV) .none kV22 dc22 pm22 an22 cd22 ct22),sl22⟩)
  (c22:PySem.W.codeIn K cd22 "refuse_fault" = true)
  (k22:W.keepIn K (.ref f22)=true)
  (a23:PySem.W.nsIn K mainGlobals "run_begins" = some (some (.ref f23)))
  (l23:K.lookup f23=some ⟨oc23,od23,.func (PySem.W.fnOf "run_begins" "run_begins" (aX gZ) (aU gZ) (aB gZ) .none kV23 dc23 pm23 an23 cd23 ct23),sl23⟩)
  (c23:PySem.W.codeIn K cd23 "run_begins" = true)
  (k23:W.keepIn K (.ref f23)=true)
  (a24:PySem.W.nsIn K mainGlobals "run_cost" = some (some (.ref f24)))
  (l24:K.lookup f24=some ⟨oc24,od24,.func (PySem.W.fnOf "run_cost" "run_cost" (aX kY) (aU kY) (aB kY) .none kV24 dc24 pm24 an24 cd24 ct24),sl24⟩)
  (c24:PySem.W.codeIn K cd24 "run_cost" = true)
  (k24:W.keepIn K (.ref f24)=true)
  (a25:PySem.W.nsIn K mainGlobals "least_of" = some (some (.ref f25)))
  (l25:K.lookup f25=some ⟨oc25,od25,.func (PySem.W.fnOf "least_of" "least_of" (aX jC) (aU jC) (aB jC) .none kV25 dc25 pm25 an25 cd25 ct25),sl25⟩)
  (c25:PySem.W.codeIn K cd25 "least_of" = true)
  (k25:W.keepIn K (.ref f25)=true)
  (a26:PySem.W.nsIn K mainGlobals "worths_ahead" = some (some (.ref f26)))
  (l26:K.lookup f26=some ⟨oc26,od26,.func (PySem.W.fnOf "worths_ahead" "worths_ahead" (aX eW) (aU eW) (aB eW) .none kV26 dc26 pm26 an26 cd26 ct26),sl26⟩)
  (c26:PySem.W.codeIn K cd26 "worths_ahead" = true)
  (k26:W.keepIn K (.ref f26)=true)
  (a27:PySem.W.nsIn K mainGlobals "worths_by_hour" = some (some (.ref f27)))
  (l27:K.lookup f27=some ⟨oc27,od27,.func (PySem.W.fnOf "worths_by_hour" "worths_by_hour" (aX dP) (aU dP) (aB dP) .none kV27 dc27 pm27 an27 cd27 ct27),sl27⟩)
  (c27:PySem.W.codeIn K cd27 "worths_by_hour" = true)
  (k27:W.keepIn K (.ref f27)=true)
  (a28:PySem.W.nsIn K mainGlobals "first_best" = some (some (.ref f28)))
  (l28:K.lookup f28=some ⟨oc28,od28,.func (PySem.W.fnOf "first_best" "first_best" (aX fH) (aU fH) (aB fH) .none kV28 dc28 pm28 an28 cd28 ct28),sl28⟩)
  (c28:PySem.W.codeIn K cd28 "first_best" = true)
  (k28:W.keepIn K (.ref f28)=true)
  (a29:PySem.W.nsIn K mainGlobals "first_row" = some (some (.ref f29)))
  (l29:K.lookup f29=some ⟨oc29,od29,.func (PySem.W.fnOf "first_row" "first_row" (aX jO) (aU jO) (aB jO) .none kV29 dc29 pm29 an29 cd29 ct29),sl29⟩)
  (c29:PySem.W.codeIn K cd29 "first_row" = true)
  (k29:W.keepIn K (.ref f29)=true)
  (a30:PySem.W.nsIn K mainGlobals "ways_one_on" = some (some (.ref f30)))
  (l30:K.lookup f30=some ⟨oc30,od30,.func (PySem.W.fnOf "ways_one_on" "ways_one_on" (aX fY) (aU fY) (aB fY) .none kV30 dc30 pm30 an30 cd30 ct30),sl30⟩)
  (c30:PySem.W.codeIn K cd30 "ways_one_on" = true)
  (k30:W.keepIn K (.ref f30)=true)
  (a31:PySem.W.nsIn K mainGlobals "are_machines" = some (some (.ref f31)))
  (l31:K.lookup f31=some ⟨oc31,od31,.func (PySem.W.fnOf "are_machines" "are_machines" (aX dU) (aU dU) (aB dU) .none kV31 dc31 pm31 an31 cd31 ct31),sl31⟩)
  (c31:PySem.W.codeIn K cd31 "are_machines" = true)
  (k31:W.keepIn K (.ref f31)=true)
  (a32:PySem.W.findIn K (.ref C2) "__init__" = some (some (.ref f32)))
  (i32:PySem.W.isFn K (.ref f32)=true)
  (l32:K.lookup f32=some ⟨oc32,od32,.func (PySem.W.fnOf "__init__" "Works.__init__" (aX hJ) (aU hJ) (aB hJ) .none kV32 dc32 pm32 an32 cd32 ct32),sl32⟩)
  (c32:PySem.W.codeIn K cd32 "Works.__init__" = true)
  (k32:W.keepIn K (.ref f32)=true)
  (a33:PySem.W.nsIn K mainGlobals "_law_store" = some (some (.ref f33)))
  (l33:K.lookup f33=some ⟨oc33,od33,.func (PySem.W.fnOf "_law_store" "_law_store" (aX hU) (aU hU) (aB hU) .none kV33 dc33 pm33 an33 cd33 ct33),sl33⟩)
  (c33:PySem.W.codeIn K cd33 "_law_store" = true)
  (k33:W.keepIn K (.ref f33)=true)
  (a34:PySem.W.nsIn K mainGlobals "_law_levels" = some (some (.ref f34)))
  (l34:K.lookup f34=some ⟨oc34,od34,.func (PySem.W.fnOf "_law_levels" "_law_levels" (aX fZ) (aU fZ) (aB fZ) .none kV34 dc34 pm34 an34 cd34 ct34),sl34⟩)
  (c34:PySem.W.codeIn K cd34 "_law_levels" = true)
  (k34:W.keepIn K (.ref f34)=true)
  (a35:PySem.W.nsIn K mainGlobals "_law_works_spec" = some (some (.ref f35)))
  (l35:K.lookup f35=some ⟨oc35,od35,.func (PySem.W.fnOf "_law_works_spec" "_law_works_spec" (aX cF) (aU cF) (aB cF) .none kV35 dc35 pm35 an35 cd35 ct35),sl35⟩)
  (c35:PySem.W.codeIn K cd35 "_law_works_spec" = true)
  (k35:W.keepIn K (.ref f35)=true)
  (a36:PySem.W.nsIn K mainGlobals "_law_works" = some (some (.ref f36)))
  (l36:K.lookup f36=some ⟨oc36,od36,.func (PySem.W.fnOf "_law_works" "_law_works" (aX fJ) (aU fJ) (aB fJ) .none kV36 dc36 pm36 an36 cd36 ct36),sl36⟩)
  (c36:PySem.W.codeIn K cd36 "_law_works" = true)
  (k36:W.keepIn K (.ref f36)=true)
  (a37:PySem.W.nsIn K mainGlobals "_law_position" = some (some (.ref f37)))
  (l37:K.lookup f37=some ⟨oc37,od37,.func (PySem.W.fnOf "_law_position" "_law_position" (aX dE) (aU dE) (aB dE) .none kV37 dc37 pm37 an37 cd37 ct37),sl37⟩)
  (c37:PySem.W.codeIn K cd37 "_law_position" = true)
  (k37:W.keepIn K (.ref f37)=true)
  (a38:PySem.W.nsIn K mainGlobals "levels_after" = some (some (.ref f38)))
  (l38:K.lookup f38=some ⟨oc38,od38,.func (PySem.W.fnOf "levels_after" "levels_after" (aX eX) (aU eX) (aB eX) .none kV38 dc38 pm38 an38 cd38 ct38),sl38⟩)
  (c38:PySem.W.codeIn K cd38 "levels_after" = true)
  (k38:W.keepIn K (.ref f38)=true)
  (a39:PySem.W.nsIn K mainGlobals "levels_from" = some (some (.ref f39)))
  (l39:K.lookup f39=some ⟨oc39,od39,.func (PySem.W.fnOf "levels_from" "levels_from" (aX gA) (aU gA) (aB gA) .none kV39 dc39 pm39 an39 cd39 ct39),sl39⟩)
  (c39:PySem.W.codeIn K cd39 "levels_from" = true)
  (k39:W.keepIn K (.ref f39)=true)
  (a40:PySem.W.nsIn K mainGlobals "drawn_by" = some (some (.ref f40)))
  (l40:K.lookup f40=some ⟨oc40,od40,.func (PySem.W.fnOf "drawn_by" "drawn_by" (aX kZ) (aU kZ) (aB kZ) .none kV40 dc40 pm40 an40 cd40 ct40),sl40⟩)
  (c40:PySem.W.codeIn K cd40 "drawn_by" = true)
  (k40:W.keepIn K (.ref f40)=true)
  (a41:PySem.W.nsIn K mainGlobals "level_ways" = some (some (.ref f41)))
  (l41:K.lookup f41=some ⟨oc41,od41,.func (PySem.W.fnOf "level_ways" "level_ways" (aX fK) (aU fK) (aB fK) .none kV41 dc41 pm41 an41 cd41 ct41),sl41⟩)
  (c41:PySem.W.codeIn K cd41 "level_ways" = true)
  (k41:W.keepIn K (.ref f41)=true)
  (a42:PySem.W.nsIn K mainGlobals "worths_of_levels" = some (some (.ref f42)))
  (l42:K.lookup f42=some ⟨oc42,od42,.func (PySem.W.fnOf "worths_of_levels" "worths_of_levels" (aX bP) (aU bP) (aB bP) .none kV42 dc42 pm42 an42 (.ref kc42) ct42),sl42⟩)
  (c42:PySem.W.codeIn K (.ref kc42) "worths_of_levels" = true)
  (tl42:K.lookup kc42=some ⟨.type "code",tod42,.fields tvs42,tsl42⟩)
  (tv42:(tvs42[11]? : Option Value)=some (.ref T42))
  (th42:PySem.W.codeHdIn K kc42 T42=true)
  (k42:W.keepIn K (.ref f42)=true)
  (a43:PySem.W.nsIn K mainGlobals "cheapest_path" = some (some (.ref f43)))
  (l43:K.lookup f43=some ⟨oc43,od43,.func (PySem.W.fnOf "cheapest_path" "cheapest_path" (aX cK) (aU cK) (aB cK) .none kV43 dc43 pm43 an43 (.ref kc43) ct43),sl43⟩)
  (c43:PySem.W.codeIn K (.ref kc43) "cheapest_path" = true)
  (tl43:K.lookup kc43=some ⟨.type "code",tod43,.fields tvs43,tsl43⟩)
  (tv43:(tvs43[11]? : Option Value)=some (.ref T43))
  (th43:PySem.W.codeHdIn K kc43 T43=true)
  (k43:W.keepIn K (.ref f43)=true)
  (a44:PySem.W.nsIn K mainGlobals "states_by_hour" = some (some (.ref f44)))
  (l44:K.lookup f44=some ⟨oc44,od44,.func (PySem.W.fnOf "states_by_hour" "states_by_hour" (aX dQ) (aU dQ) (aB dQ) .none kV44 dc44 pm44 an44 cd44 ct44),sl44⟩)
  (c44:PySem.W.codeIn K cd44 "states_by_hour" = true)
  (k44:W.keepIn K (.ref f44)=true)
  (a45:PySem.W.nsIn K mainGlobals "next_hours" = some (some (.ref f45)))
  (l45:K.lookup f45=some ⟨oc45,od45,.func (PySem.W.fnOf "next_hours" "next_hours" (aX fL) (aU fL) (aB fL) .none kV45 dc45 pm45 an45 cd45 ct45),sl45⟩)
  (c45:PySem.W.codeIn K cd45 "next_hours" = true)
  (k45:W.keepIn K (.ref f45)=true)
  (a46:PySem.W.nsIn K mainGlobals "hour_ways" = some (some (.ref f46)))
  (l46:K.lookup f46=some ⟨oc46,od46,.func (PySem.W.fnOf "hour_ways" "hour_ways" (aX gM) (aU gM) (aB gM) .none kV46 dc46 pm46 an46 cd46 ct46),sl46⟩)
  (c46:PySem.W.codeIn K cd46 "hour_ways" = true)
  (k46:W.keepIn K (.ref f46)=true)
  (a47:PySem.W.nsIn K mainGlobals "worths_of_states" = some (some (.ref f47)))
  (l47:K.lookup f47=some ⟨oc47,od47,.func (PySem.W.fnOf "worths_of_states" "worths_of_states" (aX bT) (aU bT) (aB bT) .none kV47 dc47 pm47 an47 (.ref kc47) ct47),sl47⟩)
  (c47:PySem.W.codeIn K (.ref kc47) "worths_of_states" = true)
  (tl47:K.lookup kc47=some ⟨.type "code",tod47,.fields tvs47,tsl47⟩)
  (tv47:(tvs47[11]? : Option Value)=some (.ref T47))
  (th47:PySem.W.codeHdIn K kc47 T47=true)
  (k47:W.keepIn K (.ref f47)=true)
  (a48:PySem.W.nsIn K mainGlobals "cheapest_run" = some (some (.ref f48)))
  (l48:K.lookup f48=some ⟨oc48,od48,.func (PySem.W.fnOf "cheapest_run" "cheapest_run" (aX cW) (aU cW) (aB cW) .none kV48 dc48 pm48 an48 (.ref kc48) ct48),sl48⟩)
  (c48:PySem.W.codeIn K (.ref kc48) "cheapest_run" = true)
  (tl48:K.lookup kc48=some ⟨.type "code",tod48,.fields tvs48,tsl48⟩)
  (tv48:(tvs48[11]? : Option Value)=some (.ref T48))
  (th48:PySem.W.codeHdIn K kc48 T48=true)
  (k48:W.keepIn K (.ref f48)=true)
  (a49:PySem.W.nsIn K mainGlobals "_law_price" = some (some (.ref f49)))
  (l49:K.lookup f49=some ⟨oc49,od49,.func (PySem.W.fnOf "_law_price" "_law_price" (aX hV) (aU hV) (aB hV) .none kV49 dc49 pm49 an49 cd49 ct49),sl49⟩)
  (c49:PySem.W.codeIn K cd49 "_law_price" = true)
  (k49:W.keepIn K (.ref f49)=true)
  (a50:PySem.W.nsIn K mainGlobals "least_of_machines" = some (some (.ref f50)))
  (l50:K.lookup f50=some ⟨oc50,od50,.func (PySem.W.fnOf "least_of_machines" "least_of_machines" (aX bZ) (aU bZ) (aB bZ) .none kV50 dc50 pm50 an50 cd50 ct50),sl50⟩)
  (c50:PySem.W.codeIn K cd50 "least_of_machines" = true)
  (k50:W.keepIn K (.ref f50)=true)
  (a51:PySem.W.nsIn K mainGlobals "least_of_store" = some (some (.ref f51)))
  (l51:K.lookup f51=some ⟨oc51,od51,.func (PySem.W.fnOf "least_of_store" "least_of_store" (aX dR) (aU dR) (aB dR) .none kV51 dc51 pm51 an51 cd51 ct51),sl51⟩)
  (c51:PySem.W.codeIn K cd51 "least_of_store" = true)
  (k51:W.keepIn K (.ref f51)=true)
  (a52:PySem.W.nsIn K mainGlobals "price_bound" = some (some (.ref f52)))
  (l52:K.lookup f52=some ⟨oc52,od52,.func (PySem.W.fnOf "price_bound" "price_bound" (aX eG) (aU eG) (aB eG) .none kV52 dc52 pm52 an52 cd52 ct52),sl52⟩)
  (c52:PySem.W.codeIn K cd52 "price_bound" = true)
  (k52:W.keepIn K (.ref f52)=true)
  (a53:PySem.W.nsIn K mainGlobals "_law_least_run" = some (some (.ref f53)))
  (l53:K.lookup f53=some ⟨oc53,od53,.func (PySem.W.fnOf "_law_least_run" "_law_least_run" (aX dS) (aU dS) (aB dS) .none kV53 dc53 pm53 an53 cd53 ct53),sl53⟩)
  (c53:PySem.W.codeIn K cd53 "_law_least_run" = true)
  (k53:W.keepIn K (.ref f53)=true)
  (a54:PySem.W.nsIn K mainGlobals "_law_drawn" = some (some (.ref f54)))
  (l54:K.lookup f54=some ⟨oc54,od54,.func (PySem.W.fnOf "_law_drawn" "_law_drawn" (aX hX) (aU hX) (aB hX) .none kV54 dc54 pm54 an54 cd54 ct54),sl54⟩)
  (c54:PySem.W.codeIn K cd54 "_law_drawn" = true)
  (k54:W.keepIn K (.ref f54)=true)
  (a55:PySem.W.nsIn K mainGlobals "_law_want" = some (some (.ref f55)))
  (l55:K.lookup f55=some ⟨oc55,od55,.func (PySem.W.fnOf "_law_want" "_law_want" (aX jP) (aU jP) (aB jP) .none kV55 dc55 pm55 an55 cd55 ct55),sl55⟩)
  (c55:PySem.W.codeIn K cd55 "_law_want" = true)
  (k55:W.keepIn K (.ref f55)=true)
  (a56:PySem.W.nsIn K mainGlobals "_law_least_path" = some (some (.ref f56)))
  (l56:K.lookup f56=some ⟨oc56,od56,.func (PySem.W.fnOf "_law_least_path" "_law_least_path" (aX dA) (aU dA) (aB dA) .none kV56 dc56 pm56 an56 cd56 ct56),sl56⟩)
  (c56:PySem.W.codeIn K cd56 "_law_least_path" = true)
  (k56:W.keepIn K (.ref f56)=true)
  (a57:PySem.W.nsIn K mainGlobals "_law_bound" = some (some (.ref f57)))
  (l57:K.lookup f57=some ⟨oc57,od57,.func (PySem.W.fnOf "_law_bound" "_law_bound" (aX hZ) (aU hZ) (aB hZ) .none kV57 dc57 pm57 an57 cd57 ct57),sl57⟩)
  (c57:PySem.W.codeIn K cd57 "_law_bound" = true)
  (k57:W.keepIn K (.ref f57)=true)
  (a58:PySem.W.nsIn K mainGlobals "_law_prices" = some (some (.ref f58)))
  (l58:K.lookup f58=some ⟨oc58,od58,.func (PySem.W.fnOf "_law_prices" "_law_prices" (aX eI) (aU eI) (aB eI) .none kV58 dc58 pm58 an58 cd58 ct58),sl58⟩)
  (c58:PySem.W.codeIn K cd58 "_law_prices" = true)
  (k58:W.keepIn K (.ref f58)=true)
  (a59:PySem.W.nsIn K mainGlobals "_law_case" = some (some (.ref f59)))
  (l59:K.lookup f59=some ⟨oc59,od59,.func (PySem.W.fnOf "_law_case" "_law_case" (aX gN) (aU gN) (aB gN) .none kV59 dc59 pm59 an59 cd59 ct59),sl59⟩)
  (c59:PySem.W.codeIn K cd59 "_law_case" = true)
  (k59:W.keepIn K (.ref f59)=true)
  (a60:PySem.W.nsIn K mainGlobals "law" = some (some (.ref f60)))
  (l60:K.lookup f60=some ⟨oc60,od60,.func (PySem.W.fnOf "law" "law" (aX aDe) (aU aDe) (aB aDe) .none kV60 dc60 pm60 an60 cd60 ct60),sl60⟩)
  (c60:PySem.W.codeIn K cd60 "law" = true)
  (k60:W.keepIn K (.ref f60)=true)
  (pg0:PySem.W.plainGet K C0 Str.empty=true)
  (hd0:PySem.W.hasDictIn K C0=true)
  (po0:PySem.W.plainOver K C0=true)
  (sa0:PySem.W.findIn K (.ref C0) "__setattr__" = some (some (.builtin "object.__setattr__")))
  (mk0:PySem.W.makesIn K C0=true)
  (kc0:W.keepIn K (.ref C0)=true)
  (n0_up:PySem.W.findIn K (.ref C0) "up" = some none)
  (n0_down:PySem.W.findIn K (.ref C0) "down" = some none)
  (n0_begin:PySem.W.findIn K (.ref C0) "begin" = some none)
  (n0_run:PySem.W.findIn K (.ref C0) "run" = some none)
  (n0_rest:PySem.W.findIn K (.ref C0) "rest" = some none)
  (n0_least:PySem.W.findIn K (.ref C0) "least" = some none)
  (n0_pieces:PySem.W.findIn K (.ref C0) "pieces" = some none)
  (ia0:PySem.W.findIn K (.ref C0) "__class__" = some (some (.builtin "object.__class__")))
  (in0:PySem.W.specialIn K (.builtin "object.__class__") "__get__" = some (some (.builtin "getset_descriptor.__get__")))
  (it0:PySem.W.takesIn K (.builtin "object.__class__")=some true)
  (im0:PySem.W.mroIn K C0 (.type "object")=some true)
  (pg1:PySem.W.plainGet K C1 Str.empty=true)
  (hd1:PySem.W.hasDictIn K C1=true)
  (po1:PySem.W.plainOver K C1=true)
  (sa1:PySem.W.findIn K (.ref C1) "__setattr__" = some (some (.builtin "object.__setattr__")))
  (mk1:PySem.W.makesIn K C1=true)
  (kc1:W.keepIn K (.ref C1)=true)
  (n1_cap:PySem.W.findIn K (.ref C1) "cap" = some none)
  (n1_into:PySem.W.findIn K (.ref C1) "into" = some none)
  (n1_out:PySem.W.findIn K (.ref C1) "out" = some none)
  (n1_takes:PySem.W.findIn K (.ref C1) "takes" = some none)
  (n1_gives:PySem.W.findIn K (.ref C1) "gives" = some none)
  (ia1:PySem.W.findIn K (.ref C1) "__class__" = some (some (.builtin "object.__class__")))
  (in1:PySem.W.specialIn K (.builtin "object.__class__") "__get__" = some (some (.builtin "getset_descriptor.__get__")))
  (it1:PySem.W.takesIn K (.builtin "object.__class__")=some true)
  (im1:PySem.W.mroIn K C1 (.type "object")=some true)
  (pg2:PySem.W.plainGet K C2 Str.empty=true)
  (hd2:PySem.W.hasDictIn K C2=true)
  (po2:PySem.W.plainOver K C2=true)
  (sa2:PySem.W.findIn K (.ref C2) "__setattr__" = some (some (.builtin "object.__setattr__")))
  (mk2:PySem.W.makesIn K C2=true)
  (kc2:W.keepIn K (.ref C2)=true)
  (n2_machines:PySem.W.findIn K (.ref C2) "machines" = some none)
  (n2_store:PySem.W.findIn K (.ref C2) "store" = some none)
  (n2_lack:PySem.W.findIn K (.ref C2) "lack" = some none)
  (ia2:PySem.W.findIn K (.ref C2) "__class__" = some (some (.builtin "object.__class__")))
  (in2:PySem.W.specialIn K (.builtin "object.__class__") "__get__" = some (some (.builtin "getset_descriptor.__get__")))
  (it2:PySem.W.takesIn K (.builtin "object.__class__")=some true)
  (im2:PySem.W.mroIn K C2 (.type "object")=some true)
  (aE7:PySem.W.nsIn K mainGlobals "abs" = some none)
  (aB2:PySem.W.nsIn K mainGlobals "all" = some none)
  (zI:PySem.W.nsIn K mainGlobals "bool" = some none)
  (dO:PySem.W.nsIn K mainGlobals "enumerate" = some none)
  (aAS:PySem.W.nsIn K mainGlobals "int" = some none)
  (bS:PySem.W.nsIn K mainGlobals "isinstance" = some none)
  (jQ:PySem.W.nsIn K mainGlobals "len" = some none)
  (jH:PySem.W.nsIn K mainGlobals "list" = some none)
  (sQ:PySem.W.nsIn K mainGlobals "max" = some none)
  (pQ:PySem.W.nsIn K mainGlobals "min" = some none)
  (dI:PySem.W.nsIn K mainGlobals "range" = some none)
  (lI:PySem.W.nsIn K mainGlobals "reversed" = some none)
  (sR:PySem.W.nsIn K mainGlobals "sorted" = some none)
  (aB3:PySem.W.nsIn K mainGlobals "sum" = some none)
  (uT:PySem.W.nsIn K mainGlobals "tuple" = some none)
  (aAT:PySem.W.nsIn K mainGlobals "zip" = some none)
  (gC:PySem.W.nsIn K mainGlobals "MOST_LEVELS" = some (some (.int 8 tk_MOST_LEVELS)))
  (d8:PySem.W.nsIn K mainGlobals "LONGEST_STINT" = some (some (.int 12 tk_LONGEST_STINT)))
  (gE:PySem.W.nsIn K mainGlobals "MOST_PIECES" = some (some (.int 4 tk_MOST_PIECES)))
  (d9:PySem.W.nsIn K mainGlobals "MOST_MACHINES" = some (some (.int 6 tk_MOST_MACHINES))) :
  (∃c,PySem.W.codeHdIn K c T42=true)/\(∃c,PySem.W.codeHdIn K c T43=true)/\(∃c,PySem.W.codeHdIn K c T47=true)/\(∃c,PySem.W.codeHdIn K c T48=true)/\∃fd:FuncData,(∀(s:Shared) (v:Value),BindsTo s fd ⟨[v],[]⟩ [("_law_script",v)])/\∀base:Heap,K.In base->base.Ns mainGlobals mg->bL l.prog w K mg base gF 16 fa fd ["_law_script"] (aGo K T47 T48 T42 T43):=by
 have e:=hfa.symm.trans (W.mg_of X G a60)
 cases e
 have F0:=bA (st:=gK) l0 c0 k0
 have b0:=F0.binds (ps:=["_law_script","_law_place"]) fun _ _ _ _ _ _ us hl=>match us,hl with|[_,_],_=>rfl
 have F1:=bA (st:=jK) l1 c1 k1
 have b1:=F1.binds (ps:=["_law_hand","_law_many"]) fun _ _ _ _ _ _ us hl=>match us,hl with|[_,_],_=>rfl
 have F2:=bA (st:=kT) l2 c2 k2
 have b2:=F2.binds (ps:=["_law_hand","_law_bound_here"]) fun _ _ _ _ _ _ us hl=>match us,hl with|[_,_],_=>rfl
 have F3:=bA (st:=gU) l3 c3 k3
 have b3:=F3.binds (ps:=["_law_thing"]) fun _ _ _ _ _ _ us hl=>match us,hl with|[_],_=>rfl
 have F4:=bA (st:=fW) l4 c4 k4
 have b4:=F4.binds (ps:=["_law_hand"]) fun _ _ _ _ _ _ us hl=>match us,hl with|[_],_=>rfl
 have F5:=bA (st:=kU) l5 c5 k5
 have b5:=F5.binds (ps:=["thing"]) fun _ _ _ _ _ _ us hl=>match us,hl with|[_],_=>rfl
 have F6:=bA (st:=jL) l6 c6 k6
 have b6:=F6.binds (ps:=["thing"]) fun _ _ _ _ _ _ us hl=>match us,hl with|[_],_=>rfl
 have F7:=bA (st:=oS) l7 c7 k7
 have b7:=F7.binds (ps:=["thing"]) fun _ _ _ _ _ _ us hl=>match us,hl with|[_],_=>rfl
 have F8:=bA (st:=kW) l8 c8 k8
 have b8:=F8.binds (ps:=["thing"]) fun _ _ _ _ _ _ us hl=>match us,hl with|[_],_=>rfl
 have F9:=bA (st:=eC) l9 c9 k9
 have b9:=F9.binds (ps:=["thing"]) fun _ _ _ _ _ _ us hl=>match us,hl with|[_],_=>rfl
 have F10:=bA (st:=eS) l10 c10 k10
 have b10:=F10.binds (ps:=["self","up","down","begin","run","rest","least","pieces"]) fun _ _ _ _ _ _ us hl=>match us,hl with|[_,_,_,_,_,_,_,_],_=>rfl
 have F11:=bA (st:=jM) l11 c11 k11
 have b11:=F11.binds (ps:=["_law_hand","_law_by","_law_longest"]) fun _ _ _ _ _ _ us hl=>match us,hl with|[_,_,_],_=>rfl
 have F12:=bA (st:=eT) l12 c12 k12
 have b12:=F12.binds (ps:=["_law_spec_here"]) fun _ _ _ _ _ _ us hl=>match us,hl with|[_],_=>rfl
 have F13:=bA (st:=eU) l13 c13 k13
 have b13:=F13.binds (ps:=["self","price"]) fun _ _ _ _ _ _ us hl=>match us,hl with|[_,_],_=>rfl
 have F14:=bA (st:=gL) l14 c14 k14
 have b14:=F14.binds (ps:=["_law_spec_here","_law_price_here"]) fun _ _ _ _ _ _ us hl=>match us,hl with|[_,_],_=>rfl
 have F15:=bA (st:=sF) l15 c15 k15
 have b15:=F15.binds (ps:=["machine","state","on"]) fun _ _ _ _ _ _ us hl=>match us,hl with|[_,_,_],_=>rfl
 have F16:=bA (st:=fX) l16 c16 k16
 have b16:=F16.binds (ps:=["machine","state","on"]) fun _ _ _ _ _ _ us hl=>match us,hl with|[_,_,_],_=>rfl
 have F17:=bA (st:=gW) l17 c17 k17
 have b17:=F17.binds (ps:=["_law_hand","_law_spec_here"]) fun _ _ _ _ _ _ us hl=>match us,hl with|[_,_],_=>rfl
 have F18:=bA (st:=gX) l18 c18 k18
 have b18:=F18.binds (ps:=["_law_spec_here","_law_state_here","_law_on"]) fun _ _ _ _ _ _ us hl=>match us,hl with|[_,_,_],_=>rfl
 have F19:=bA (st:=kX) l19 c19 k19
 have b19:=F19.binds (ps:=["thing"]) fun _ _ _ _ _ _ us hl=>match us,hl with|[_],_=>rfl
 have F20:=bA (st:=gY) l20 c20 k20
 have b20:=F20.binds (ps:=["self","cap","into","out","takes","gives"]) fun _ _ _ _ _ _ us hl=>match us,hl with|[_,_,_,_,_,_],_=>rfl
 have F21:=bA (st:=jN) l21 c21 k21
 have b21:=F21.binds (ps:=["machine","state","run"]) fun _ _ _ _ _ _ us hl=>match us,hl with|[_,_,_],_=>rfl
 have F22:=bA (st:=eV) l22 c22 k22
 have b22:=F22.binds (ps:=["machine","state","run"]) fun _ _ _ _ _ _ us hl=>match us,hl with|[_,_,_],_=>rfl
 have F23:=bA (st:=gZ) l23 c23 k23
 have b23:=F23.binds (ps:=["machine","state","run"]) fun _ _ _ _ _ _ us hl=>match us,hl with|[_,_,_],_=>rfl
 have F24:=bA (st:=kY) l24 c24 k24
 have b24:=F24.binds (ps:=["machine","state","run"]) fun _ _ _ _ _ _ us hl=>match us,hl with|[_,_,_],_=>rfl
 have F25:=bA (st:=jC) l25 c25 k25
 have b25:=F25.binds (ps:=["ways","behind"]) fun _ _ _ _ _ _ us hl=>match us,hl with|[_,_],_=>rfl
 have F26:=bA (st:=eW) l26 c26 k26
 have b26:=F26.binds (ps:=["places","hour","behind","ways_at"]) fun _ _ _ _ _ _ us hl=>match us,hl with|[_,_,_,_],_=>rfl
 have F27:=bA (st:=dP) l27 c27 k27
 have b27:=F27.binds (ps:=["layers","ways_at"]) fun _ _ _ _ _ _ us hl=>match us,hl with|[_,_],_=>rfl
 have F28:=bA (st:=fH) l28 c28 k28
 have b28:=F28.binds (ps:=["ways","behind"]) fun _ _ _ _ _ _ us hl=>match us,hl with|[_,_],_=>rfl
 have F29:=bA (st:=jO) l29 c29 k29
 have b29:=F29.binds (ps:=["place","worths","ways_at"]) fun _ _ _ _ _ _ us hl=>match us,hl with|[_,_,_],_=>rfl
 have F30:=bA (st:=fY) l30 c30 k30
 have b30:=F30.binds (ps:=["machine","ways"]) fun _ _ _ _ _ _ us hl=>match us,hl with|[_,_],_=>rfl
 have F31:=bA (st:=dU) l31 c31 k31
 have b31:=F31.binds (ps:=["thing"]) fun _ _ _ _ _ _ us hl=>match us,hl with|[_],_=>rfl
 have F32:=bA (st:=hJ) l32 c32 k32
 have b32:=F32.binds (ps:=["self","machines","store","lack"]) fun _ _ _ _ _ _ us hl=>match us,hl with|[_,_,_,_],_=>rfl
 have F33:=bA (st:=hU) l33 c33 k33
 have b33:=F33.binds (ps:=["_law_hand","_law_by"]) fun _ _ _ _ _ _ us hl=>match us,hl with|[_,_],_=>rfl
 have F34:=bA (st:=fZ) l34 c34 k34
 have b34:=F34.binds (ps:=["_law_store_here","_law_level"]) fun _ _ _ _ _ _ us hl=>match us,hl with|[_,_],_=>rfl
 have F35:=bA (st:=cF) l35 c35 k35
 have b35:=F35.binds (ps:=["_law_hand","_law_most"]) fun _ _ _ _ _ _ us hl=>match us,hl with|[_,_],_=>rfl
 have F36:=bA (st:=fJ) l36 c36 k36
 have b36:=F36.binds (ps:=["_law_spec_here"]) fun _ _ _ _ _ _ us hl=>match us,hl with|[_],_=>rfl
 have F37:=bA (st:=dE) l37 c37 k37
 have b37:=F37.binds (ps:=["_law_hand","_law_spec_here"]) fun _ _ _ _ _ _ us hl=>match us,hl with|[_,_],_=>rfl
 have F38:=bA (st:=eX) l38 c38 k38
 have b38:=F38.binds (ps:=["store","level","hours"]) fun _ _ _ _ _ _ us hl=>match us,hl with|[_,_,_],_=>rfl
 have F39:=bA (st:=gA) l39 c39 k39
 have b39:=F39.binds (ps:=["store","level"]) fun _ _ _ _ _ _ us hl=>match us,hl with|[_,_],_=>rfl
 have F40:=bA (st:=kZ) l40 c40 k40
 have b40:=F40.binds (ps:=["store","level","later"]) fun _ _ _ _ _ _ us hl=>match us,hl with|[_,_,_],_=>rfl
 have F41:=bA (st:=fK) l41 c41 k41
 have b41:=F41.binds (ps:=["store","level","price"]) fun _ _ _ _ _ _ us hl=>match us,hl with|[_,_,_],_=>rfl
 have F42:=bA (st:=bP) l42 c42 k42
 have b42:=F42.binds (ps:=["store","level","prices"]) fun _ _ _ _ _ _ us hl=>match us,hl with|[_,_,_],_=>rfl
 have F43:=bA (st:=cK) l43 c43 k43
 have b43:=F43.binds (ps:=["store","level","prices"]) fun _ _ _ _ _ _ us hl=>match us,hl with|[_,_,_],_=>rfl
 have F44:=bA (st:=dQ) l44 c44 k44
 have b44:=F44.binds (ps:=["machine","state","hours"]) fun _ _ _ _ _ _ us hl=>match us,hl with|[_,_,_],_=>rfl
 have F45:=bA (st:=fL) l45 c45 k45
 have b45:=F45.binds (ps:=["machine","state"]) fun _ _ _ _ _ _ us hl=>match us,hl with|[_,_],_=>rfl
 have F46:=bA (st:=gM) l46 c46 k46
 have b46:=F46.binds (ps:=["machine","state","price"]) fun _ _ _ _ _ _ us hl=>match us,hl with|[_,_,_],_=>rfl
 have F47:=bA (st:=bT) l47 c47 k47
 have b47:=F47.binds (ps:=["machine","state","prices"]) fun _ _ _ _ _ _ us hl=>match us,hl with|[_,_,_],_=>rfl
 have F48:=bA (st:=cW) l48 c48 k48
 have b48:=F48.binds (ps:=["machine","state","prices"]) fun _ _ _ _ _ _ us hl=>match us,hl with|[_,_,_],_=>rfl
 have F49:=bA (st:=hV) l49 c49 k49
 have b49:=F49.binds (ps:=["_law_hand","_law_by","_law_most"]) fun _ _ _ _ _ _ us hl=>match us,hl with|[_,_,_],_=>rfl
 have F50:=bA (st:=bZ) l50 c50 k50
 have b50:=F50.binds (ps:=["works","position","prices"]) fun _ _ _ _ _ _ us hl=>match us,hl with|[_,_,_],_=>rfl
 have F51:=bA (st:=dR) l51 c51 k51
 have b51:=F51.binds (ps:=["works","position","prices"]) fun _ _ _ _ _ _ us hl=>match us,hl with|[_,_,_],_=>rfl
 have F52:=bA (st:=eG) l52 c52 k52
 have b52:=F52.binds (ps:=["works","position","wants","prices"]) fun _ _ _ _ _ _ us hl=>match us,hl with|[_,_,_,_],_=>rfl
 have F53:=bA (st:=dS) l53 c53 k53
 have b53:=F53.binds (ps:=["_law_spec_here","_law_state_here","_law_prices_here"]) fun _ _ _ _ _ _ us hl=>match us,hl with|[_,_,_],_=>rfl
 have F54:=bA (st:=hX) l54 c54 k54
 have b54:=F54.binds (ps:=["_law_store_here","_law_level","_law_later"]) fun _ _ _ _ _ _ us hl=>match us,hl with|[_,_,_],_=>rfl
 have F55:=bA (st:=jP) l55 c55 k55
 have b55:=F55.binds (ps:=["_law_hand","_law_by"]) fun _ _ _ _ _ _ us hl=>match us,hl with|[_,_],_=>rfl
 have F56:=bA (st:=dA) l56 c56 k56
 have b56:=F56.binds (ps:=["_law_store_here","_law_level","_law_prices_here"]) fun _ _ _ _ _ _ us hl=>match us,hl with|[_,_,_],_=>rfl
 have F57:=bA (st:=hZ) l57 c57 k57
 have b57:=F57.binds (ps:=["_law_spec_here","_law_position_here","_law_wants","_law_prices_here"]) fun _ _ _ _ _ _ us hl=>match us,hl with|[_,_,_,_],_=>rfl
 have F58:=bA (st:=eI) l58 c58 k58
 have b58:=F58.binds (ps:=["_law_hand","_law_by","_law_lack","_law_hours"]) fun _ _ _ _ _ _ us hl=>match us,hl with|[_,_,_,_],_=>rfl
 have F59:=bA (st:=gN) l59 c59 k59
 have b59:=F59.binds (ps:=["_law_hand","_law_most"]) fun _ _ _ _ _ _ us hl=>match us,hl with|[_,_],_=>rfl
 have F60:=bA (st:=aDe) l60 c60 k60
 have b60:=F60.binds (ps:=["_law_script"]) fun _ _ _ _ _ _ us hl=>match us,hl with|[_],_=>rfl
 have tx:Txt K mg { qA:=f0,qB:=_,qC:=f1,qD:=_,tI:=f2,tJ:=_,nH:=f3,nI:=_,lP:=f4,lQ:=_,tK:=f5,tL:=_,qE:=f6,qF:=_,xX:=f7,xY:=_,tM:=f8,tN:=_,nJ:=f9,nK:=_,j0:=f10,j7:=_,qG:=f11,qH:=_,j8:=f12,j9:=_,kA:=f13,kB:=_,qI:=f14,qJ:=_,aAn:=f15,aAo:=_,lR:=f16,lS:=_,nL:=f17,nM:=_,nO:=f18,nP:=_,tO:=f19,tQ:=_,nQ:=f20,nR:=_,qK:=f21,qL:=_,kC:=f22,kD:=_,nS:=f23,nU:=_,tR:=f24,tS:=_,tT:=f25,tU:=_,kE:=f26,kF:=_,iC:=f27,iD:=_,nV:=f28,nW:=_,qM:=f29,qN:=_,lT:=f30,lU:=_,kG:=f31,kH:=_,nX:=f32,nY:=_,nZ:=f33,oA:=_,lV:=f34,lW:=_,gG:=f35,gH:=_,oB:=f36,oC:=_,iU:=f37,iV:=_,kI:=f38,kJ:=_,lX:=f39,lY:=_,tV:=f40,tW:=_,oE:=f41,oF:=_,fM:=f42,dW:=_,k_worths_of_levels:=kc42,bV:=T42,iW:=f43,fS:=_,k_cheapest_path:=kc43,dF:=T43,iE:=f44,iF:=_,oG:=f45,oH:=_,qO:=f46,qP:=_,fN:=f47,dX:=_,k_worths_of_states:=kc47,bW:=T47,kK:=f48,gO:=_,k_cheapest_run:=kc48,dY:=T48,oI:=f49,oJ:=_,eM:=f50,eN:=_,iG:=f51,iH:=_,lZ:=f52,mC:=_,iI:=f53,iJ:=_,oK:=f54,oM:=_,qQ:=f55,qR:=_,gI:=f56,gJ:=_,oN:=f57,oO:=_,mD:=f58,mE:=_,qS:=f59,qT:=_,aIU:=fa,aIV:=_,aZ:=C0,bY:=C1,eO:=C2 }:={ wC:=F0,aBQ:=b0,aBR:=W.mg_of X G a0,aL:=F1,aM:=b1,aN:=W.mg_of X G a1,zC:=F2,aDk:=b2,aDl:=W.mg_of X G a2,tX:=F3,aAp:=b3,aAq:=W.mg_of X G a3,mF:=F4,rO:=b4,rP:=W.mg_of X G a4,pA:=F5,tY:=b5,tZ:=W.mg_of X G a5,cX:=F6,dM:=b6,dN:=W.mg_of X G a6,xZ:=F7,aBs:=b7,aBt:=W.mg_of X G a7,zD:=F8,aDm:=b8,aDn:=W.mg_of X G a8,uA:=F9,aAr:=b9,aAs:=W.mg_of X G a9,wD:=F10,wG:=b10,wH:=F11,aBS:=b11,aBT:=W.mg_of X G a11,pB:=F12,wI:=b12,wJ:=W.mg_of X G a12,wK:=F13,wL:=b13,wM:=F14,aBU:=b14,aBV:=W.mg_of X G a14,sI:=F15,wN:=b15,wO:=W.mg_of X G a15,iP:=F16,mG:=b16,mH:=W.mg_of X G a16,uB:=F17,aAt:=b17,aAu:=W.mg_of X G a17,uC:=F18,aAv:=b18,aAw:=W.mg_of X G a18,pC:=F19,uD:=b19,uE:=W.mg_of X G a19,aAx:=F20,aAy:=b20,wQ:=F21,aBW:=b21,aBX:=W.mg_of X G a21,pD:=F22,wR:=b22,wU:=W.mg_of X G a22,uF:=F23,aAz:=b23,aAA:=W.mg_of X G a23,zE:=F24,aDo:=b24,aDp:=W.mg_of X G a24,uG:=F25,zF:=b25,zG:=W.mg_of X G a25,pE:=F26,wV:=b26,wW:=W.mg_of X G a26,iK:=F27,lB:=b27,lC:=W.mg_of X G a27,uH:=F28,aAB:=b28,aAC:=W.mg_of X G a28,qU:=F29,wX:=b29,wY:=W.mg_of X G a29,rQ:=F30,yM:=b30,yN:=W.mg_of X G a30,pF:=F31,wZ:=b31,w4:=W.mg_of X G a31,aAD:=F32,aAE:=b32,uI:=F33,aAF:=b33,aAG:=W.mg_of X G a33,rR:=F34,yO:=b34,yP:=W.mg_of X G a34,kL:=F35,qV:=b35,qW:=W.mg_of X G a35,uJ:=F36,aAH:=b36,aAI:=W.mg_of X G a36,iX:=F37,mS:=b37,mT:=W.mg_of X G a37,kM:=F38,pG:=b38,pH:=W.mg_of X G a38,rS:=F39,yQ:=b39,yR:=W.mg_of X G a39,zH:=F40,aDq:=b40,aDr:=W.mg_of X G a40,oP:=F41,uK:=b41,uL:=W.mg_of X G a41,jD:=F42,pI:=b42,jF:=⟨rfl,th42⟩,pJ:=W.mg_of X G a42,mU:=F43,vE:=b43,mX:=⟨rfl,th43⟩,vF:=W.mg_of X G a43,lD:=F44,sJ:=b44,sL:=W.mg_of X G a44,uM:=F45,aAJ:=b45,aAK:=W.mg_of X G a45,qX:=F46,w5:=b46,w6:=W.mg_of X G a46,jE:=F47,pK:=b47,jG:=⟨rfl,th47⟩,pL:=W.mg_of X G a47,pM:=F48,w9:=b48,pP:=⟨rfl,th48⟩,xA:=W.mg_of X G a48,uN:=F49,aAL:=b49,aAM:=W.mg_of X G a49,iN:=F50,m7:=b50,m8:=W.mg_of X G a50,lE:=F51,sM:=b51,sN:=W.mg_of X G a51,rT:=F52,yS:=b52,yT:=W.mg_of X G a52,lF:=F53,sO:=b53,sP:=W.mg_of X G a53,uO:=F54,aAN:=b54,aAO:=W.mg_of X G a54,xB:=F55,aBY:=b55,aBZ:=W.mg_of X G a55,kN:=F56,qY:=b56,qZ:=W.mg_of X G a56,uP:=F57,aAP:=b57,aAQ:=W.mg_of X G a57,rV:=F58,yU:=b58,yV:=W.mg_of X G a58,xC:=F59,aB0:=b59,aB1:=W.mg_of X G a59,aNg:=F60,aPv:=b60,aPw:=W.mg_of X G a60,cB:=⟨pg0,hd0,po0,sa0⟩,aBu:=W.mg_of X G aC0,aE6:=⟨mk0,a10,i10,kc0⟩,m_Machine_gain:=⟨a13,i13,k13⟩,uQ:=n0_up,pN:=n0_down,mV:=n0_begin,rW:=n0_run,pO:=n0_rest,mW:=n0_least,lG:=n0_pieces,i_Machine:=⟨ia0,in0,it0,im0⟩,iY:=⟨pg1,hd1,po1,sa1⟩,aFO:=W.mg_of X G aC1,aIW:=⟨mk1,a20,i20,kc1⟩,xD:=n1_cap,uR:=n1_into,xE:=n1_out,rX:=n1_takes,rY:=n1_gives,i_Store:=⟨ia1,in1,it1,im1⟩,uS:=⟨pg2,hd2,po2,sa2⟩,aIX:=W.mg_of X G aC2,aIY:=⟨mk2,a32,i32,kc2⟩,lH:=n2_machines,mI:=n2_store,aAR:=n2_lack,i_Works:=⟨ia2,in2,it2,im2⟩,aE7:=PySem.W.mg_none_of X G aE7,aB2:=PySem.W.mg_none_of X G aB2,zI:=PySem.W.mg_none_of X G zI,dO:=PySem.W.mg_none_of X G dO,aAS:=PySem.W.mg_none_of X G aAS,bS:=PySem.W.mg_none_of X G bS,jQ:=PySem.W.mg_none_of X G jQ,jH:=PySem.W.mg_none_of X G jH,sQ:=PySem.W.mg_none_of X G sQ,pQ:=PySem.W.mg_none_of X G pQ,dI:=PySem.W.mg_none_of X G dI,lI:=PySem.W.mg_none_of X G lI,sR:=PySem.W.mg_none_of X G sR,aB3:=PySem.W.mg_none_of X G aB3,uT:=PySem.W.mg_none_of X G uT,aAT:=PySem.W.mg_none_of X G aAT,gC:=⟨_,W.mg_of X G gC⟩,d8:=⟨_,W.mg_of X G d8⟩,gE:=⟨_,W.mg_of X G gE⟩,d9:=⟨_,W.mg_of X G d9⟩ }
 exact⟨⟨_,th42⟩,⟨_,th43⟩,⟨_,th47⟩,⟨_,th48⟩,_,fun s v=>.of_eq rfl,fun base _ _=>aOP tx⟩
theorem walk{l:PySem.W.OpenLaw}{q:Program}{loose:List Str}{XP:(Str->Option Value)->Heap->Prop}{YP:World->Heap->Prop}{d:DefRec}{K:Params->W.Frag}{T42 T43 T47 T48:Addr}(hn:l.most=some 63)(hdf:d.params.defaults=[])(hI:∀(w:World) (h:Heap),YP w h->(K w.params).In h)
  (F:∀(w:World) (mg:Str->Option Value) (fa:Addr) (h:Heap),(K w.params).In h->h.Ns mainGlobals mg->mg d.name=some (.ref fa)->
   (∃c,PySem.W.codeHdIn (K w.params) c T42=true)/\(∃c,PySem.W.codeHdIn (K w.params) c T43=true)/\(∃c,PySem.W.codeHdIn (K w.params) c T47=true)/\(∃c,PySem.W.codeHdIn (K w.params) c T48=true)/\∃fd:FuncData,(∀(s:Shared) (u:Value),BindsTo s fd ⟨[u],[]⟩ [("_law_script",u)])/\∀base:Heap,(K w.params).In base->base.Ns mainGlobals mg->bL l.prog w (K w.params) mg base gF 16 fa fd ["_law_script"] (aGo (K w.params) T47 T48 T42 T43))
  (hN:decide ([T42,T43,T47,T48]:List Addr).Nodup=true) (hY:∀(w:World) (h:Heap),YP w h->∀t∈([T42,T43,T47,T48]:List Addr),h.get? t=some { cls:=.none,data:=.fields #[] })
  (hK:∀w:World,(K w.params).lookup T42=none/\(K w.params).lookup T43=none/\(K w.params).lookup T47=none/\(K w.params).lookup T48=none) :
  PySem.W.WalkO q loose XP YP l.row.toRowW d [] (fun f vs=>PySem.call f vs):=by
 refine L2.aLp (tabs:=[(T42,cG,cH),(T43,eZ,fA),(T47,cI,cJ),(T48,fT,fU)]) (n:=63) (k:=16) (x:="_law_script") (sp:=fun w=>aGo (K w.params) T47 T48 T42 T43) hn (by decide) hdf ⟨rfl,by decide,by decide⟩ (of_decide_eq_true hN) (fun w h Y=>⟨hI w h Y,fun t ht=>hY w h Y t.1 ?_⟩) (fun w t ht=>?_) (fun w mg fa h x1 x2 x3=>?_) (fun _ _ a ns hl hT hS=>?_)
 ·simp only[List.mem_cons,List.not_mem_nil,or_false] at ht
  rcases ht with rfl|rfl|rfl|rfl <;> simp
 ·have hk:=hK w
  simp only[List.mem_cons,List.not_mem_nil,or_false] at ht
  rcases ht with rfl|rfl|rfl|rfl
  ·exact hk.1
  ·exact hk.2.1
  ·exact hk.2.2.1
  ·exact hk.2.2.2
 ·obtain⟨c42,c43,c47,c48,rest⟩:=F w mg fa h x1 x2 x3
  refine⟨fun t ht=>?_,rest⟩
  simp only[List.mem_cons,List.not_mem_nil,or_false] at ht
  rcases ht with rfl|rfl|rfl|rfl
  ·exact c42
  ·exact c43
  ·exact c47
  ·exact c48
 ·exact⟨a,ns,rfl,hS,hl,hT (T42,cG,cH) (by simp),hT (T43,eZ,fA) (by simp),hT (T47,cI,cJ) (by simp),hT (T48,fT,fU) (by simp),fun H' s'=>⟨rfl,s'⟩⟩
end My
open PySem PySem.W PyProof.Rows
set_option maxRecDepth 100000 in
theorem PySem.Challenge.cw_stintwise_k71_bounds_by_prices_holds : PySem.Challenge.rw_stintwise_k71_bounds_by_prices.Holds := by
 w_on;o_law;k_head;(case hw=>w_witness2)
 k_fill
 refine' My.walk (l:=PySem.Challenge.rw_stintwise_k71_bounds_by_prices) rfl rfl (fun w h Y=>PySem.W.km_in_of Y) ?F ?hN0 ?hY0 ?hK0
 case F=>
  intro w mg fa h KX G hmg
  refine' My.all_mk KX G hmg ?aC0 ?aC1 ?aC2 ?a0 ?l0 ?c0 ?k0 ?a1 ?l1 ?c1 ?k1 ?a2 ?l2 ?c2 ?k2 ?a3 ?l3 ?c3 ?k3 ?a4 ?l4 ?c4 ?k4 ?a5 ?l5 ?c5 ?k5 ?a6 ?l6 ?c6 ?k6 ?a7 ?l7 ?c7 ?k7 ?a8 ?l8 ?c8 ?k8 ?a9 ?l9 ?c9 ?k9 ?a10 ?i10 ?l10 ?c10 ?k10 ?a11 ?l11 ?c11 ?k11 ?a12 ?l12 ?c12 ?k12 ?a13 ?i13 ?l13 ?c13 ?k13 ?a14 ?l14 ?c14 ?k14 ?a15 ?l15 ?c15 ?k15 ?a16 ?l16 ?c16 ?k16 ?a17 ?l17 ?c17 ?k17 ?a18 ?l18 ?c18 ?k18 ?a19 ?l19 ?c19 ?k19 ?a20 ?i20 ?l20 ?c20 ?k20 ?a21 ?l21 ?c21 ?k21 ?a22 ?l22 ?c22 ?k22 ?a23 ?l23 ?c23 ?k23 ?a24 ?l24 ?c24 ?k24 ?a25 ?l25 ?c25 ?k25 ?a26 ?l26 ?c26 ?k26 ?a27 ?l27 ?c27 ?k27 ?a28 ?l28 ?c28 ?k28 ?a29 ?l29 ?c29 ?k29 ?a30 ?l30 ?c30 ?k30 ?a31 ?l31 ?c31 ?k31 ?a32 ?i32 ?l32 ?c32 ?k32 ?a33 ?l33 ?c33 ?k33 ?a34 ?l34 ?c34 ?k34 ?a35 ?l35 ?c35 ?k35 ?a36 ?l36 ?c36 ?k36 ?a37 ?l37 ?c37 ?k37 ?a38 ?l38 ?c38 ?k38 ?a39 ?l39 ?c39 ?k39 ?a40 ?l40 ?c40 ?k40 ?a41 ?l41 ?c41 ?k41 ?a42 ?l42 ?c42 ?tl42 ?tv42 ?th42 ?k42 ?a43 ?l43 ?c43 ?tl43 ?tv43 ?th43 ?k43 ?a44 ?l44 ?c44 ?k44 ?a45 ?l45 ?c45 ?k45 ?a46 ?l46 ?c46 ?k46 ?a47 ?l47 ?c47 ?tl47 ?tv47 ?th47 ?k47 ?a48 ?l48 ?c48 ?tl48 ?tv48 ?th48 ?k48 ?a49 ?l49 ?c49 ?k49 ?a50 ?l50 ?c50 ?k50 ?a51 ?l51 ?c51 ?k51 ?a52 ?l52 ?c52 ?k52 ?a53 ?l53 ?c53 ?k53 ?a54 ?l54 ?c54 ?k54 ?a55 ?l55 ?c55 ?k55 ?a56 ?l56 ?c56 ?k56 ?a57 ?l57 ?c57 ?k57 ?a58 ?l58 ?c58 ?k58 ?a59 ?l59 ?c59 ?k59 ?a60 ?l60 ?c60 ?k60 ?pg0 ?hd0 ?po0 ?sa0 ?mk0 ?kc0 ?n0_up ?n0_down ?n0_begin ?n0_run ?n0_rest ?n0_least ?n0_pieces ?ia0 ?in0 ?it0 ?im0 ?pg1 ?hd1 ?po1 ?sa1 ?mk1 ?kc1 ?n1_cap ?n1_into ?n1_out ?n1_takes ?n1_gives ?ia1 ?in1 ?it1 ?im1 ?pg2 ?hd2 ?po2 ?sa2 ?mk2 ?kc2 ?n2_machines ?n2_store ?n2_lack ?ia2 ?in2 ?it2 ?im2 ?aE7 ?aB2 ?zI ?dO ?aAS ?bS ?jQ ?jH ?sQ ?pQ ?dI ?lI ?sR ?aB3 ?uT ?aAT ?gC ?d8 ?gE ?d9
  (case aC0=>k_is);(case aC1=>k_is);(case aC2=>k_is);(case a0=>k_is);(case l0=>k_is);(case c0=>k_is);(case k0=>k_is);(case a1=>k_is)
  (case l1=>k_is);(case c1=>k_is);(case k1=>k_is);(case a2=>k_is);(case l2=>k_is);(case c2=>k_is);(case k2=>k_is);(case a3=>k_is)
  (case l3=>k_is);(case c3=>k_is);(case k3=>k_is);(case a4=>k_is);(case l4=>k_is);(case c4=>k_is);(case k4=>k_is);(case a5=>k_is)
  (case l5=>k_is);(case c5=>k_is);(case k5=>k_is);(case a6=>k_is);(case l6=>k_is);(case c6=>k_is);(case k6=>k_is);(case a7=>k_is)
  (case l7=>k_is);(case c7=>k_is);(case k7=>k_is);(case a8=>k_is);(case l8=>k_is);(case c8=>k_is);(case k8=>k_is);(case a9=>k_is)
  (case l9=>k_is);(case c9=>k_is);(case k9=>k_is);(case a10=>k_is);(case i10=>k_is);(case l10=>k_is);(case c10=>k_is);(case k10=>k_is)
  (case a11=>k_is);(case l11=>k_is);(case c11=>k_is);(case k11=>k_is);(case a12=>k_is);(case l12=>k_is);(case c12=>k_is);(case k12=>k_is)
  (case a13=>k_is);(case i13=>k_is);(case l13=>k_is);(case c13=>k_is);(case k13=>k_is);(case a14=>k_is);(case l14=>k_is);(case c14=>k_is)
  (case k14=>k_is);(case a15=>k_is);(case l15=>k_is);(case c15=>k_is);(case k15=>k_is);(case a16=>k_is);(case l16=>k_is);(case c16=>k_is)
  (case k16=>k_is);(case a17=>k_is);(case l17=>k_is);(case c17=>k_is);(case k17=>k_is);(case a18=>k_is);(case l18=>k_is);(case c18=>k_is)
  (case k18=>k_is);(case a19=>k_is);(case l19=>k_is);(case c19=>k_is);(case k19=>k_is);(case a20=>k_is);(case i20=>k_is);(case l20=>k_is)
  (case c20=>k_is);(case k20=>k_is);(case a21=>k_is);(case l21=>k_is);(case c21=>k_is);(case k21=>k_is);(case a22=>k_is);(case l22=>k_is)
  (case c22=>k_is);(case k22=>k_is);(case a23=>k_is);(case l23=>k_is);(case c23=>k_is);(case k23=>k_is);(case a24=>k_is);(case l24=>k_is)
  (case c24=>k_is);(case k24=>k_is);(case a25=>k_is);(case l25=>k_is);(case c25=>k_is);(case k25=>k_is);(case a26=>k_is);(case l26=>k_is)
  (case c26=>k_is);(case k26=>k_is);(case a27=>k_is);(case l27=>k_is);(case c27=>k_is);(case k27=>k_is);(case a28=>k_is);(case l28=>k_is)
  (case c28=>k_is);(case k28=>k_is);(case a29=>k_is);(case l29=>k_is);(case c29=>k_is);(case k29=>k_is);(case a30=>k_is);(case l30=>k_is)
  (case c30=>k_is);(case k30=>k_is);(case a31=>k_is);(case l31=>k_is);(case c31=>k_is);(case k31=>k_is);(case a32=>k_is);(case i32=>k_is)
  (case l32=>k_is);(case c32=>k_is);(case k32=>k_is);(case a33=>k_is);(case l33=>k_is);(case c33=>k_is);(case k33=>k_is);(case a34=>k_is)
  (case l34=>k_is);(case c34=>k_is);(case k34=>k_is);(case a35=>k_is);(case l35=>k_is);(case c35=>k_is);(case k35=>k_is);(case a36=>k_is)
  (case l36=>k_is);(case c36=>k_is);(case k36=>k_is);(case a37=>k_is);(case l37=>k_is);(case c37=>k_is);(case k37=>k_is);(case a38=>k_is)
  (case l38=>k_is);(case c38=>k_is);(case k38=>k_is);(case a39=>k_is);(case l39=>k_is);(case c39=>k_is);(case k39=>k_is);(case a40=>k_is)
  (case l40=>k_is);(case c40=>k_is);(case k40=>k_is);(case a41=>k_is);(case l41=>k_is);(case c41=>k_is);(case k41=>k_is);(case a42=>k_is)
  (case l42=>k_is);(case c42=>k_is);(case tl42=>k_is);(case tv42=>exact rfl);(case th42=>kernel_rfl);(case k42=>k_is);(case a43=>k_is);(case l43=>k_is)
  (case c43=>k_is);(case tl43=>k_is);(case tv43=>exact rfl);(case th43=>kernel_rfl);(case k43=>k_is);(case a44=>k_is);(case l44=>k_is);(case c44=>k_is)
  (case k44=>k_is);(case a45=>k_is);(case l45=>k_is);(case c45=>k_is);(case k45=>k_is);(case a46=>k_is);(case l46=>k_is);(case c46=>k_is)
  (case k46=>k_is);(case a47=>k_is);(case l47=>k_is);(case c47=>k_is);(case tl47=>k_is);(case tv47=>exact rfl);(case th47=>kernel_rfl);(case k47=>k_is)
  (case a48=>k_is);(case l48=>k_is);(case c48=>k_is);(case tl48=>k_is);(case tv48=>exact rfl);(case th48=>kernel_rfl);(case k48=>k_is);(case a49=>k_is)
  (case l49=>k_is);(case c49=>k_is);(case k49=>k_is);(case a50=>k_is);(case l50=>k_is);(case c50=>k_is);(case k50=>k_is);(case a51=>k_is)
  (case l51=>k_is);(case c51=>k_is);(case k51=>k_is);(case a52=>k_is);(case l52=>k_is);(case c52=>k_is);(case k52=>k_is);(case a53=>k_is)
  (case l53=>k_is);(case c53=>k_is);(case k53=>k_is);(case a54=>k_is);(case l54=>k_is);(case c54=>k_is);(case k54=>k_is);(case a55=>k_is)
  (case l55=>k_is);(case c55=>k_is);(case k55=>k_is);(case a56=>k_is);(case l56=>k_is);(case c56=>k_is);(case k56=>k_is);(case a57=>k_is)
  (case l57=>k_is);(case c57=>k_is);(case k57=>k_is);(case a58=>k_is);(case l58=>k_is);(case c58=>k_is);(case k58=>k_is);(case a59=>k_is)
  (case l59=>k_is);(case c59=>k_is);(case k59=>k_is);(case a60=>k_is);(case l60=>k_is);(case c60=>k_is);(case k60=>k_is);(case pg0=>k_is)
  (case hd0=>k_is);(case po0=>k_is);(case sa0=>k_is);(case mk0=>k_is);(case kc0=>k_is);(case n0_up=>k_is);(case n0_down=>k_is);(case n0_begin=>k_is)
  (case n0_run=>k_is);(case n0_rest=>k_is);(case n0_least=>k_is);(case n0_pieces=>k_is);(case ia0=>k_is);(case in0=>k_is);(case it0=>k_is);(case im0=>k_is)
  (case pg1=>k_is);(case hd1=>k_is);(case po1=>k_is);(case sa1=>k_is);(case mk1=>k_is);(case kc1=>k_is);(case n1_cap=>k_is);(case n1_into=>k_is)
  (case n1_out=>k_is);(case n1_takes=>k_is);(case n1_gives=>k_is);(case ia1=>k_is);(case in1=>k_is);(case it1=>k_is);(case im1=>k_is);(case pg2=>k_is)
  (case hd2=>k_is);(case po2=>k_is);(case sa2=>k_is);(case mk2=>k_is);(case kc2=>k_is);(case n2_machines=>k_is);(case n2_store=>k_is);(case n2_lack=>k_is)
  (case ia2=>k_is);(case in2=>k_is);(case it2=>k_is);(case im2=>k_is);(case aE7=>k_is);(case aB2=>k_is);(case zI=>k_is);(case dO=>k_is)
  (case aAS=>k_is);(case bS=>k_is);(case jQ=>k_is);(case jH=>k_is);(case sQ=>k_is);(case pQ=>k_is);(case dI=>k_is);(case lI=>k_is)
  (case sR=>k_is);(case aB3=>k_is);(case uT=>k_is);(case aAT=>k_is);(case gC=>k_is);(case d8=>k_is);(case gE=>k_is);(case d9=>k_is)
 case hN0=>exact rfl
 case hY0=>exact fun w h Y t ht=>PySem.W.km_tabs_of Y t (by revert t;decide)
 case hK0=>intro w;exact⟨by kernel_rfl,by kernel_rfl,by kernel_rfl,by kernel_rfl⟩
