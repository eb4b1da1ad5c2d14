import PyProof.Rows.All
import Wide.All
import OpenK.AllK
import Wide.FinOn
import Lean
import PyProof.EqAt
import PyProof.EqKinds
import PyProof.NeKinds
import PyProof.TupleCall
import KE.KDictSum
import PyProof.StrCalls
import PyProof.StrCalls2
import PyProof.StrWalks
import KE.KIntText
import PyProof.SliceStr2
import PyProof.StrLawsIdx
import PySem.Challenge.RW_stintwise_k99_works_as_lines
set_option Elab.async false
set_option linter.all false
set_option maxRecDepth 100000
structure PySem.W.Fast:Prop where(tw326743489426129632 tw4018983449138736484 tw3574818615320733513 tw2108423525888433164 tw18416457020916829978 tw13933674010471216879 tw14680138033394969083 tw1002715089364491036 tw13333261924977942823 tw12147104601560958603 tw7818914789875446409 tw8641634588385877570 tw1261992761301170457 tw1117716386830769305 tw11358186987681824728 tw2823171663412765673 tw9617388963904998457 tw11315307491360163137 tw7538610143818115916 tw1455887948348117329 tw15324944082508702739 tw5237236416476373382 tw15037770888258722019 tw5318336648236934313 tw13006258139523305679 tw12280974251420293924 tw17836867974241818165 tw17227875902832870641 tw7659681342569928761 tw9282555541686419528 tw9806407331797774070 tw2663266877037229764 tw7503418963036363825 tw14575627368228296286 tw12244964627136013434 tw13744217894505558597 tw13656229739579211426 tw15357106339406031646 tw2537791206555181871 tw15719734616557674242 tw593071331914032126 tw7826933986178066875 tw17005472246781015374 tw16869225353625323530 tw14620548598588380480 tw1208931805526076797 tw11788021617053824979 tw15673494429502927750 tw2373141021087501718 tw5177961656758504611 tw12972902617803244304 tw1801668457608834021 tw580372567222805633 tw3661936111452655146 tw8552123931709687672 tw7043137932052176312 tw982521383458083440 tw12704074068097244934 tw13717333340221784015 tw4104590809718401893 tw583558144003711518 tw2962537812551032196 tw2396434011032433324 tw11035536175226978465 tw12569894714967491883 tw143825621725788135 tw6003330471880456684 tw12824044868861994386 tw18410110340417888168 tw7329636850998336699 tw1942941414717975141 tw15208185029723775225 tw11507286318567495664 tw10669840719393032736 tw16670177200763838704 tw9208935514955423199 tw6957986513233483263 tw15483175014565376613 tw18330819814959454201 tw397004424748754440 tw15900847897728502708 tw6217167307045111577 tw9183287895539479616 tw9449100282194347391 tw10620932586628641456 tw15975388995294954958 tw10158632614239663586 tw8050233158568836516 tw11224273059937976598 tw10563266801541732404 tw15460140255244770277 tw4985884997120285280 tw8421704531649865558 tw17723988234250553340 tw4180695677030480790 tw10635902314894008453 tw16801738973617888952 tw12280776032703691470 tw10170749908734097200 tw17204927292007060407 tw15245072560780980358 tw15270087401237197861 tw16008163011831495220 tw1624482304122478489 tw17559537998886395477 tw2379728387332810097 tw5107837170746110083 tw1727105832795102362 tw13487336207593482559 tw13400020973491383844 tw15146975235351733505 tw3596913293334231847 tw12110572850132198442 tw10837525626267998629 tw4319194921087126953 tw6496936890823009277 tw1748334029556741519 tw5929310098562120560 tw7787709719324580863 tw3609244033607831718 tw13826575085512501245 tw1932047656722919795 tw4215857117979385951 tw11362834960862324651 tw12284319793756020545 tw7135551003432074630 tw9011976202521546873 tw6010316407773547272 tw1525878607826909071 tw1590051836482322773 tw2295625977298434687 tw3232958486534030582 tw13743792774062337272 tw1327513028945202928 tw5105151433520951039 tw14044838345297210168 tw2242350952438251873 tw12034845434193400465 tw3019304510209266677 tw16227156532131575035 tw12203478080809986696 tw3770096330036082795 tw9764390552812077392 tw4359446647669472442 tw9380886720737457519 tw2561696473123382549 tw13132644870348913766 tw4250354588511136231 tw11359967538037168272 tw4060744654096218874 tw5107180507792008989 tw12307774980507680231 tw6538766529024209219 tw17422599120490671451 tw16330845320087042342 tw14060778651683347647 tw10889507642604598219 tw2558806276729705233 tw12177515572997183485 tw5291098945655940572 tw4676329853205973984 tw15114110795333841168 tw14673115937285196272 tw10909882121215419513 tw3608500619532090496 tw18158846474691989220 tw936140159132919404 tw6169151407948038528 tw266793454754020526 tw13259637104085161028 tw4794485521444998448 tw18293018040931441880 tw4859356267173652338 tw13771434077261036179 tw13537610338933534712 tw12726978876912295034 tw6835763510849719897 tw17231168914021607386 tw12548364028494364193 tw15211447351512979297 tw11375593143504225026 tw8338162493961443990 tw425693029062158665 tw17166928019185994567 tw3192905990747276699 tw12884784698537229959 tw13979800200767457662 tw3906856563939416475 tw4795558449855342498 tw6573718999484362856 tw4905315943189556034 tw16491852763196195647 tw6845874590924975650 tw4430286660540227173 tw9697521946719254568 tw16557965243772567159 tw14952946968249246027 tw16738757723189834188 tw9112237616987235708:True)
set_option maxHeartbeats 0
def cC:=@List.length_map
def cM:=@PySem.wpAny_bind
def tO:=@List.getElem?_eq_getElem
def mP:=@List.size_toArray
def wF:=@List.getElem?_eq_some_iff
def vG:=@PySem.Heap.get?_push_of_some
def rA:=@List.length_append
def o5:=@List.map_append
def v9:=@List.mem_of_getElem?
def iI:=@Nat.le_refl
def xT:=@List.mem_append_right
def kW:=@PySem.Heap.lt_size
def wY:=@Array.length_toList
def tP:=@List.length_take
def xU:=@Nat.lt_of_lt_of_le
def jY:=@PySem.wpAny_pure
def xV:=@List.getElem?_map
def Qr9:=@List.mem_cons_of_mem
def rN:=@List.mem_cons
def Qt9:=@Option.map_eq_some_iff
def Qu9:=@Bool.false_ne_true
def Qv9:=@PySem.Heap.get?_update_other
def zB:=@Bool.and_eq_true
def Qx9:=@List.take_length
def Qy9:=@List.getElem?_append_left
def Qz9:=@PySem.Heap.get?_push_size
def wG:=@Nat.ne_of_lt
def Rb9:=@List.mem_append
def wZ:=@Nat.le_trans
def Rd9:=@List.getElem?_append_right
def Re9:=@List.length_cons
def Rf9:=@List.mem_cons_self
def fQ:=@if_neg
def Rh9:=@List.mem_singleton
def Ri9:=@List.all_eq_true
def gU:=@if_pos
def Rk9:=@List.mem_map
def Rl9:=@Array.toList_append
def Rm9:=@List.length_drop
def Rn9:=@List.lookup_cons
def Ro9:=@List.mem_append_left
def Rp9:=@decide_eq_false
def Rq9:=@Nat.lt_irrefl
def Rr9:=@PySem.Heap.get?_update_self
def Rs9:=@PySem.wpAny_mono
def Rt9:=@List.length_singleton
def Ru9:=@Bool.false_and
def Rv9:=@decide_eq_true
def Rw9:=@Bool.true_and
def Rx9:=@Array.getElem?_eq_some_iff
def Ry9:=@List.append_nil
def Rz9:=@Int.eq_ofNat_of_zero_le
def Sa9:=@List.getD_eq_getElem?_getD
def Sb9:=@PySem.wpAny_newObj_type
def Sc9:=@PySem.wpAny_holding
def Sd9:=@Int.emod_lt_of_pos
def Se9:=@Nat.lt_succ_self
def Sf9:=@List.mem_of_mem_take
def Sg9:=@List.getElem?_of_mem
def Sh9:=@Int.toNat_natCast
def Si9:=@List.replicate_succ
def Sj9:=@List.length_pos_iff
def Sk9:=@List.take_of_length_le
def Sl9:=@List.cons_append
def Sm9:=@Array.toList_inj
def Sn9:=@List.map_cons
def So9:=@Nat.sub_self
def Sp9:=@Nat.zero_le
def Sq9:=@List.drop_zero
def Sr9:=@List.mem_of_mem_drop
def Ss9:=@Nat.lt_succ_of_lt
def St9:=@Array.size_setIfInBounds
def Su9:=@Array.getElem?_setIfInBounds_ne
def Sv9:=@Int.emod_nonneg
def Sw9:=@List.getElem?_replicate
def Sx9:=@PySem.Heap.size_push
def Sy9:=@PySem.wpAny_setField
def Sz9:=@List.head?_eq_getElem?
def Ta9:=@List.nil_append
def Tb9:=@List.length_nil
def Tc9:=@List.all_cons
def Td9:=@List.any_cons
def Te9:=@PySem.Heap.get?_none_of_le
def Tf9:=@List.getElem?_set_ne
def Tg9:=@List.getElem_toArray
def Th9:=@List.mem_range
def Ti9:=@Option.bind_some
def Tj9:=@Nat.ne_of_gt
def Tk9:=@Bool.and_true
def Tl9:=@List.map_drop
def Tm9:=@List.getElem?_set_self
def Tn9:=@List.flatten_cons
def To9:=@List.take_add_one
def Tp9:=@Nat.le_of_lt
def Tq9:=@List.getElem?_eq_none
def Tr9:=@Array.getElem?_toList
def Ts9:=@PySem.Heap.size_update
def Tt9:=@List.map_take
def Tu9:=@PySem.sizeLine_eq
def Tv9:=@Nat.le_succ
def Tw9:=@List.nodup_cons
def Tx9:=@Nat.min_eq_left
def Ty9:=@Nat.le_of_eq
namespace L2
open PySem PySem.Spec PyProof.Rows
abbrev Key:=Sum Int Str
def aKr:Key->Value->Bool
 |.inl k,v=>Value.isInt k v
 |.inr x,v=>Value.isStrOf x v
def aNr(w:World):Key->Int
 |.inl k=>hashInt k
 |.inr x=>hashStr w x
theorem eQ:∀{k:Key}{v:Value},aKr k v=true->(∃i t,k=Sum.inl i/\v=Value.int i t)\/(∃x t,k=Sum.inr x/\v=Value.str x t)
 |.inl i,v,h=>by
  obtain⟨t,e⟩:=Value.isInt_shape (k:=i) (v:=v) h
  exact .inl ⟨i,t,rfl,e⟩
 |.inr x,v,h=>by
  obtain⟨t,e⟩:=Value.isStrOf_shape (x:=x) (v:=v) h
  exact .inr ⟨x,t,rfl,e⟩
theorem aKB(a b:Int):decide ((Sum.inl a:Key)=Sum.inl b)=(a == b):=by
 by_cases e:a=b
 ·subst e;simp
 ·have h:¬(Sum.inl a:Key)=Sum.inl b:=λq=>e (Sum.inl.inj q)
  rw[Rp9 h]
  exact(beq_eq_false_iff_ne.mpr e).symm
theorem aKC(a b:Str):decide ((Sum.inr a:Key)=Sum.inr b)=decide (a=b):=by
 by_cases e:a=b
 ·subst e;simp
 ·have h:¬(Sum.inr a:Key)=Sum.inr b:=λq=>e (Sum.inr.inj q)
  rw[Rp9 h,Rp9 e]
theorem aKD(a:Int)(b:Str):decide ((Sum.inl a:Key)=Sum.inr b)=false:=Rp9 (λq=>nomatch q)
theorem aKE(a:Str)(b:Int):decide ((Sum.inr a:Key)=Sum.inl b)=false:=Rp9 (λq=>nomatch q)
def aFF(prog:Program)(w:World):PySem.KeyKind prog w Key where
 is:=aKr
 hash:=aNr w
 inj:=λv a b ha hb=>by
  rcases eQ ha with ⟨i,t,rfl,rfl⟩|⟨x,t,rfl,rfl⟩
  ·rcases eQ hb with ⟨j,u,rfl,e⟩|⟨y,u,rfl,e⟩
   ·injection e with e1 _;rw[e1]
   ·exact nomatch e
  ·rcases eQ hb with ⟨j,u,rfl,e⟩|⟨y,u,rfl,e⟩
   ·exact nomatch e
   ·injection e with e1 _;rw[e1]
 byValue:=λk v h=>by
  rcases eQ h with ⟨i,t,rfl,rfl⟩|⟨x,t,rfl,rfl⟩ <;> rfl
 pyHash:=λhv h=>by
  rcases eQ hv with ⟨i,t,rfl,rfl⟩|⟨x,t,rfl,rfl⟩
  ·exact wpAny_pyHash_int h
  ·exact wpAny_pyHash_str h
 eqBool:=λhu hv h=>by
  rcases eQ hu with ⟨i,t,rfl,rfl⟩|⟨x,t,rfl,rfl⟩
  ·rcases eQ hv with ⟨j,u,rfl,rfl⟩|⟨y,u,rfl,rfl⟩
   ·rw[aKB] at h;exact wpAny_eqBool_int h
   ·rw[aKD] at h;exact SeqAt.EqAt.int_str i t y u _ _ _ _ h
  ·rcases eQ hv with ⟨j,u,rfl,rfl⟩|⟨y,u,rfl,rfl⟩
   ·rw[aKE] at h;exact SeqAt.EqAt.str_int x t j u _ _ _ _ h
   ·rw[aKC] at h;exact wpAny_eqBool_str h
 «strs»:=λk x t v h=>by
  rcases eQ h with ⟨i,u,rfl,e⟩|⟨y,u,rfl,e⟩
  ·exact nomatch e
  ·injection e with e1 _
   subst e1
   cases v <;> rfl
end L2
namespace L2
open PySem PySem.Spec PyProof.Rows
inductive V where
 |non|bl (b:Bool)|int (i:Int)|str (x:Str)|byt (b:Array UInt8)|flt (b:UInt64)|ref (a:Addr)|ty (n:String)
 deriving DecidableEq
def RelV:V->Value->Prop
 |.non,u=>u=Value.none
 |.bl b,u=>u=Value.bool b
 |.int i,u=>∃t,u=Value.int i t
 |.str x,u=>∃t,u=Value.str x t
 |.byt b,u=>∃t,u=Value.bytes b t
 |.flt b,u=>∃t,u=Value.float b t
 |.ref a,u=>u=Value.ref a
 |.ty n,u=>u=Value.type n
abbrev Vals:List V->List Value->Prop:=Paired RelV
theorem Vals.length{xs:List V}{us:List Value}(r:Vals xs us):xs.length=us.length:=Paired.length r
theorem Vals.get:∀{xs:List V}{us:List Value}{i:Nat}{x:V},Vals xs us->xs[i]?=some x->∃u,us[i]?=some u/\RelV x u
 |_,_,_,_,.nil,e=>by simp at e
 |_,_,0,_,.cons r _,e=>by simp at e;subst e;exact⟨_,rfl,r⟩
 |_,_,i+1,x,.cons _ t,e=>by
  obtain⟨u,h1,h2⟩:=Vals.get (i:=i) (x:=x) t (by simpa using e)
  exact⟨u,by simpa using h1,h2⟩
theorem Vals.set(r:RelV x u):∀{xs:List V}{us:List Value}(i:Nat),Vals xs us->Vals (xs.set i x) (us.set i u)
 |_,_,_,.nil=>.nil
 |_,_,0,.cons _ t=>.cons r t
 |_,_,i+1,.cons q t=>.cons q (Vals.set r i t)
theorem Vals.append:∀{xs ys:List V}{us ws:List Value},Vals xs us->Vals ys ws->Vals (xs++ys) (us++ws)
 |_,_,_,_,.nil,s=>s
 |_,_,_,_,.cons r t,s=>.cons r (Vals.append t s)
theorem Vals.take:∀{xs:List V}{us:List Value}(n:Nat),Vals xs us->Vals (xs.take n) (us.take n)
 |_,_,0,_=>.nil
 |_,_,_+1,.nil=>.nil
 |_,_,n+1,.cons r t=>.cons r (Vals.take n t)
theorem Vals.drop:∀{xs:List V}{us:List Value}(n:Nat),Vals xs us->Vals (xs.drop n) (us.drop n)
 |_,_,0,r=>r
 |_,_,_+1,.nil=>.nil
 |_,_,n+1,.cons _ t=>Vals.drop n t
def aDL:Option V->Option Value->Prop
 |some v,some u=>RelV v u
 |none,none=>True
 |_,_=>False
def KV{κ:Type}:List (κ×V)->List (κ×Value)->Prop:=Paired λ(p:κ×V) (q:κ×Value)=>p.1=q.1/\RelV p.2 q.2
def kV:Key->V
 |.inl i=>.int i
 |.inr x=>.str x
inductive HO where
 |lst (xs:List V)
 |tup (xs:List V)
 |dK (kvs:List (Key×V))|dT (kvs:List (List Key×V))
 |set (S:Int->Bool) (n:Nat)
 |ins (C dx:Addr) (fs:List (Str×V))
 |own (x:Addr)
 |xd (fs:List (Str×V))
 |met (f x:Addr)
 |rng (lo hi:Int)
 |frz (o:Obj) (u:HO)
 |tbl (ps:Array Value)
 |ext (φ:Heap->Prop)
 |cod (q:Str)|ctb (pos:Pos) (q:Str)
def Sty:HO->Prop
 |.tup _=>True
 |.cod _=>True
 |_=>False
abbrev Hp:=Addr->Option HO
def upd(H:Hp)(a:Addr)(o:HO):Hp:=λb=>if b=a then some o else H b
theorem aO:upd H a o a=some o:=by unfold upd;rw[gU rfl]
theorem aU{H:Hp}(h:b≠a):upd H a o b=H b:=by unfold upd;rw[fQ h]
theorem jZ:upd (upd H a o) a u=upd H a u:=by
 funext b;unfold upd;split <;> rfl
theorem bZ{H:Hp}{a b:Addr}{o:HO}(h:H a=some o)(h':H b=none):a≠b:=by
 intro e;subst e;rw[h] at h';cases h'
section
variable(P:Program)(w:World)
def eE(H:Hp)(h:Heap)(a:Addr):HO->Prop
 |.lst xs=>xs.length<=sizeLine/\∃(its:List Value) (n:Nat),Vals xs its/\h.get? a=some { cls:=.type "list",data:=.seq its.toArray n }
 |.tup xs=>xs.length<=sizeLine/\∃its:List Value,Vals xs its/\IsTup h a its.toArray
 |.dK kvs=>kvs.length<=sizeLine/\(a == sysModules)=false/\∃vs,KV kvs vs/\h.DictOf (aFF P w) a vs
 |.dT kvs=>kvs.length<=sizeLine/\(a == sysModules)=false/\∃xs:List (List Key×Addr×Value),
   Paired (λ(p:List Key×V) (q:List Key×Addr×Value)=>p.1=q.1/\H q.2.1=some (.tup (p.1.map kV))/\RelV p.2 q.2.2) kvs xs/\
   ∃o es ep,h.get? a=some o/\o.ExactDict/\o.data=.dict es ep/\es.toList=xs.map (entryOfKey (tupleKind (aFF P w)))/\(xs.map (·.1)).Nodup
 |.set S n=>h.SetOf (intKind P w) a S n
 |.ins C dx fs=>H dx=some (.own a)/\fs.length<=1000/\dx≠a/\h.get? a=some (PySem.W.instObj C dx)/\
   ∃mA,h.Ns1 dx mA/\(∀f,aDL (fs.lookup f) (mA f))/\PySem.Within mA (fs.map (·.1))
 |.own _=>∃o,h.get? a=some o
 |.xd fs=>∃mA,h.Ns1 a mA/\∀f,aDL (fs.lookup f) (mA f)
 |.rng lo hi=>∃t u v,h.get? a=some { cls:=.type "range",data:=.fields #[.int lo t,.int hi u,.int 1 v] }
 |.frz o u=>h.get? a=some o/\eE H h a u
 |.tbl ps=>h.get? a=some { cls:=.none,data:=.fields ps }
 |.met f x=>h.get? a=some (PySem.W.methodObj (.ref f) (.ref x))
 |.ext φ=>φ h/\(∃o,h.get? a=some o)/\∀h1 h2:Heap,φ h1->(∀o,h1.get? a=some o->h2.get? a=some o)->φ h2
 |.cod q=>∃o vs t,h.get? a=some o/\o.data=.fields vs/\vs[1]?=some (.str q t)
 |.ctb pos q=>∃ps:Array Value,h.get? a=some { cls:=.none,data:=.fields ps }/\TriplesOk ps.toList/\(codeAmong pos ps.toList=none\/∃c,codeAmong pos ps.toList=some (.ref c)/\H c=some (.cod q))
def wA(H:Hp)(h:Heap):Prop:=∀a o,H a=some o->eE P w H h a o
end
section
variable{P:Program}{w:World}{H H':Hp}{h h':Heap}{a:Addr}{o:HO}
theorem eE.lt(x:eE P w H h a o):a < h.objs.size:=by
 cases o with
 |lst xs=>obtain⟨_,_,_,_,e⟩:=x;exact kW e
 |tup xs=>obtain⟨_,_,_,p⟩:=x;exact p.lt
 |dK kvs=>obtain⟨_,_,_,_,o,_,_,e,_⟩:=x;exact kW e
 |dT kvs=>obtain⟨_,_,_,_,o,_,_,e,_⟩:=x;exact kW e
 |set S n=>obtain⟨o,_,_,_,e,_⟩:=x;exact kW e
 |ins C dx fs=>obtain⟨_,_,_,e,_⟩:=x;exact kW e
 |own y=>obtain⟨_,e⟩:=x;exact kW e
 |xd fs=>obtain⟨_,⟨_,_,_,e,_⟩,_⟩:=x;exact kW e
 |rng lo hi=>obtain⟨_,_,_,e⟩:=x;exact kW e
 |frz ob u=>obtain⟨e,_⟩:=x;exact kW e
 |tbl ps=>exact kW (show h.get? a=some _ from x)
 |met f y=>exact kW (show h.get? a=some _ from x)
 |ext φ=>obtain⟨_,⟨_,e⟩,_⟩:=x;exact kW e
 |cod q=>obtain⟨_,_,_,e,_⟩:=x;exact kW e
 |ctb pos q=>obtain⟨_,e,_⟩:=x;exact kW e
theorem Paired.aMA{α β:Type}{F G:α->β->Prop}:∀{l₁:List α}{l₂:List β},Paired F l₁ l₂->(∀a b,F a b->G a b)->Paired G l₁ l₂
 |_,_,.nil,_=>.nil
 |_,_,.cons r t,f=>.cons (f _ _ r) (Paired.aMA t f)
theorem eE.aAB(x:eE P w H h a o)(k:∀b u,(b=a\/H b=some (.own a))->h.get? b=some u->h'.get? b=some u)
  (ho:∀b,H b=some (.own a)->H' b=some (.own a)) (ht:∀b u,Sty u->H b=some u->H' b=some u):eE P w H' h' a o:=by
 induction o with
 |lst xs=>obtain⟨z,its,n,r,e⟩:=x;exact⟨z,its,n,r,k _ _ (.inl rfl) e⟩
 |tup xs=>obtain⟨z,its,r,ob,e,c⟩:=x;exact⟨z,its,r,ob,k _ _ (.inl rfl) e,c⟩
 |dK kvs=>obtain⟨z,y,vs,r,ob,es,ep,e,c⟩:=x;exact⟨z,y,vs,r,ob,es,ep,k _ _ (.inl rfl) e,c⟩
 |dT kvs=>
  obtain⟨z,y,xs,r,ob,es,ep,e,c⟩:=x
  exact⟨z,y,xs,Paired.aMA r λp q z=>⟨z.1,ht _ _ trivial z.2.1,z.2.2⟩,ob,es,ep,k _ _ (.inl rfl) e,c⟩
 |set S n=>obtain⟨ob,es,ep,t,e,c⟩:=x;exact⟨ob,es,ep,t,k _ _ (.inl rfl) e,c⟩
 |ins C dx fs=>
  obtain⟨d,z,ne,e,mA,⟨od,es,ep,e2,c⟩,r⟩:=x
  exact⟨ho _ d,z,ne,k _ _ (.inl rfl) e,mA,⟨od,es,ep,k _ _ (.inr d) e2,c⟩,r⟩
 |own y=>obtain⟨ob,e⟩:=x;exact⟨ob,k _ _ (.inl rfl) e⟩
 |xd fs=>obtain⟨mA,⟨od,es,ep,e,c⟩,r⟩:=x;exact⟨mA,⟨od,es,ep,k _ _ (.inl rfl) e,c⟩,r⟩
 |rng lo hi=>obtain⟨t,u,v,e⟩:=x;exact⟨t,u,v,k _ _ (.inl rfl) e⟩
 |frz ob u ih=>obtain⟨e,q⟩:=x;exact⟨k _ _ (.inl rfl) e,ih q⟩
 |tbl ps=>
  have e:h.get? a=some { cls:=.none,data:=.fields ps }:=x
  show h'.get? a=some { cls:=.none,data:=.fields ps }
  exact k a _ (.inl rfl) e
 |met f y=>
  have e:h.get? a=some (PySem.W.methodObj (.ref f) (.ref y)):=x
  show h'.get? a=some (PySem.W.methodObj (.ref f) (.ref y))
  exact k a _ (.inl rfl) e
 |ext φ=>obtain⟨p,⟨o,e⟩,st⟩:=x;exact⟨st _ _ p λo q=>k _ _ (.inl rfl) q,⟨o,k _ _ (.inl rfl) e⟩,st⟩
 |cod q=>obtain⟨o,vs,t,e,r⟩:=x;exact⟨o,vs,t,k _ _ (.inl rfl) e,r⟩
 |ctb pos q=>
  obtain⟨ps,e,t,c⟩:=x
  refine⟨ps,k _ _ (.inl rfl) e,t,?_⟩
  rcases c with c|⟨c,e1,e2⟩
  ·exact .inl c
  ·exact .inr ⟨c,e1,ht _ _ trivial e2⟩
theorem wA.lt(x:wA P w H h)(e:H a=some o):a < h.objs.size:=(x a o e).lt
theorem wA.fresh(x:wA P w H h)(e:h.objs.size<=a):H a=none:=by
 cases q:H a with
 |none=>rfl
 |some u=>exact absurd (xU (x.lt q) e) (Rq9 _)
theorem wA.kept(x:wA P w H h)(k:∀b u,h.get? b=some u->h'.get? b=some u):wA P w H h':=λa o e=>
 (x a o e).aAB (λb u _ q=>k b u q) (λ_ q=>q) λ_ _ _ q=>q
theorem wA.laid(x:wA P w H h)(k:∀b u,h.get? b=some u->h'.get? b=some u)(hp:h.objs.size<=a)(new:eE P w (upd H a o) h' a o):wA P w (upd H a o) h':=λb u e=>by
 have hn:=x.fresh hp
 by_cases hb:b=a
 ·subst hb;rw[aO] at e;cases e;exact new
 ·rw[aU hb] at e
  exact(x b u e).aAB (λc v _ q=>k c v q) (λc q=>by rw[aU (bZ q hn)];exact q) λc xs _ q=>by rw[aU (bZ q hn)];exact q
end
def Rd(H:Hp)(a:Addr)(u:HO):Prop:=H a=some u\/∃o,H a=some (.frz o u)
theorem Rd.of(h:H a=some u):Rd H a u:=.inl h
theorem Rd.ok(r:Rd H a u)(x:wA P w H h):eE P w H h a u:=by
 rcases r with r|⟨o,r⟩
 ·exact x a u r
 ·obtain⟨_,q⟩:=x a _ r
  exact q
def Mut:Option HO->Prop
 |some (.lst _)=>True
 |some (.dK _)=>True
 |some (.dT _)=>True
 |some (.set _ _)=>True
 |some (.ins _ _ _)=>True
 |some (.ext _)=>True
 |_=>False
section
variable{P:Program}{w:World}{H:Hp}{h h':Heap}{x e:Addr}{o':HO}
theorem wA.write(ok:wA P w H h)(mu:Mut (H x))(he:e=x\/H e=some (.own x))(k:∀b u,b≠e->h.get? b=some u->h'.get? b=some u)(heo:∃u,h'.get? e=some u)
  (new:eE P w (upd H x o') h' x o'):wA P w (upd H x o') h':=λb u q=>by
 have nown:∀c y,H c=some (.own y)->c≠x:=λc y r z=>by subst z;rw[r] at mu;exact mu
 have aG5:∀c u,Sty u->H c=some u->c≠x:=λc u y r z=>by
  subst z
  rw[r] at mu
  cases u <;> first|exact mu|exact y
 by_cases hb:b=x
 ·subst hb;rw[aO] at q;cases q;exact new
 ·rw[aU hb] at q
  by_cases hbe:b=e
  ·have q':H b=some (.own x):=by
    rcases he with z|z
    ·exact absurd (hbe.trans z) hb
    ·rw[hbe];exact z
   rw[q] at q';cases q'
   obtain⟨v,hv⟩:=heo
   exact⟨v,by rw[hbe];exact hv⟩
  ·refine(ok b u q).aAB (λc v hc r=>k c v ?_ r) (λc r=>by rw[aU (nown c b r)];exact r) λc xs y r=>by rw[aU (aG5 c xs y r)];exact r
   rcases hc with rfl|hc
   ·exact hbe
   ·rintro rfl
    rcases he with z|z
    ·exact nown c b hc z
    ·rw[hc] at z;cases z;exact hb rfl
end
structure Un(fs ex:List Addr)(H H':Hp)(h h':Heap):Prop where
 keep:∀b o,h.get? b=some o->H b=none->b∉fs->b∉ex->h'.get? b=some o
 slot:∀b o,h.get? b=some o->H b=none->b∈fs->b∉ex->∃sl,h'.get? b=some { o with slots:=sl }
 free:∀b o,h.get? b=some o->H b=none->b∉ex->H' b=none
 there:∀b o,h.get? b=some o->b∉ex->∃o',h'.get? b=some o'
 tups:∀b xs,H b=some (.tup xs)->H' b=some (.tup xs)
 frzs:∀b o u,H b=some (.frz o u)->H' b=some (.frz o u)
 tbls:∀b ps,H b=some (.tbl ps)->∃more,H' b=some (.tbl (ps++more))
section
variable{fs fs' ex ex':List Addr}{H H1 H2:Hp}{h h1 h2 h':Heap}{a x e:Addr}{o:HO}
theorem Un.any(u:Un fs ex H H1 h h1)(q:h.get? b=some ob)(n:H b=none)(hx:b∉ex):∃sl,h1.get? b=some { ob with slots:=sl }:=by
 by_cases hb:b∈fs
 ·exact u.slot b ob q n hb hx
 ·exact⟨ob.slots,u.keep b ob q n hb hx⟩
theorem Un.trans(a:Un fs ex H H1 h h1)(b:Un fs ex H1 H2 h1 h2):Un fs ex H H2 h h2 where
 keep:=λc ob q n hc hx=>b.keep c ob (a.keep c ob q n hc hx) (a.free c ob q n hx) hc hx
 slot:=λc ob q n hc hx=>by
  obtain⟨sl,e1⟩:=a.slot c ob q n hc hx
  obtain⟨sl',e2⟩:=b.slot c _ e1 (a.free c ob q n hx) hc hx
  exact⟨sl',e2⟩
 free:=λc ob q n hx=>by
  obtain⟨o',e1⟩:=a.there c ob q hx
  exact b.free c o' e1 (a.free c ob q n hx) hx
 there:=λc ob q hx=>by
  obtain⟨o',e1⟩:=a.there c ob q hx
  exact b.there c o' e1 hx
 tups:=λc xs q=>b.tups c xs (a.tups c xs q)
 frzs:=λc ob xs q=>b.frzs c ob xs (a.frzs c ob xs q)
 tbls:=λc ps q=>by
  obtain⟨m1,e1⟩:=a.tbls c ps q
  obtain⟨m2,e2⟩:=b.tbls c _ e1
  exact⟨m1++m2,by rw[e2,Array.append_assoc]⟩
theorem Un.kept(k:∀b u,h.get? b=some u->h'.get? b=some u):Un fs ex H H h h':=
 ⟨λb ob q _ _ _=>k b ob q,λb ob q _ _ _=>⟨ob.slots,k b ob q⟩,λ_ _ _ n _=>n,λb ob q _=>⟨ob,k b ob q⟩,λ_ _ q=>q,λ_ _ _ q=>q,λ_ ps q=>⟨#[],by rw[q];simp⟩⟩
theorem Un.refl:Un fs ex H H h h:=Un.kept λ_ _ q=>q
theorem Un.laid(k:∀b u,h.get? b=some u->h'.get? b=some u)(hp:h.objs.size<=a)(hn:H a=none):Un fs ex H (upd H a o) h h' where
 keep:=λb u q _ _ _=>k b u q
 slot:=λb u q _ _ _=>⟨u.slots,k b u q⟩
 free:=λb u q n _=>by rw[aU (wG (xU (kW q) hp))];exact n
 there:=λb u q _=>⟨u,k b u q⟩
 tups:=λb xs q=>by rw[aU (bZ q hn)];exact q
 frzs:=λb u xs q=>by rw[aU (bZ q hn)];exact q
 tbls:=λb ps q=>⟨#[],by rw[aU (bZ q hn),q];simp⟩
theorem Un.write(mu:Mut (H x))(he:e=x\/H e=some (.own x))(k:∀b u,b≠e->h.get? b=some u->h'.get? b=some u)(heo:∃u,h'.get? e=some u):Un fs ex H (upd H x o) h h':=by
 have hx:∀b,H b=none->b≠x:=λb n z=>by subst z;rw[n] at mu;exact mu
 have hb:∀b,H b=none->b≠e:=λb n z=>by
  subst z
  rcases he with r|r
  ·exact hx b n r
  ·rw[n] at r;cases r
 have hm:∀b u,H b=some u->¬Mut (some u)->b≠x:=λb u q nm z=>by subst z;rw[q] at mu;exact nm mu
 refine⟨λb u q n _ _=>k b u (hb b n) q,λb u q n _ _=>⟨u.slots,k b u (hb b n) q⟩,λb u q n _=>by rw[aU (hx b n)];exact n,λb u q _=>?_,
  λb xs q=>by rw[aU (hm b _ q λz=>z)];exact q,λb u xs q=>by rw[aU (hm b _ q λz=>z)];exact q,λb ps q=>⟨#[],by rw[aU (hm b _ q λz=>z),q];simp⟩⟩
 by_cases hbe:b=e
 ·subst hbe;exact heo
 ·exact⟨u,k b u hbe q⟩
end
def trk(h:Heap)(H:Hp):List Addr:=(List.range h.objs.size).filter λa=>(H a).isSome
def aBK(h:Heap)(H:Hp):Heap:=PySem.W.hideAll h (trk h H)
theorem aGj(h:Heap)(H:Hp):(aBK h H).objs.size=h.objs.size:=PySem.W.hideAll_size _ _
theorem aG6{h:Heap}(e:h.get? b=some o)(n:H b=none):(aBK h H).get? b=some o:=
 PySem.W.hideAll_get _ e λhm=>by
  have q:(H b).isSome=true:=(List.mem_filter.mp hm).2
  rw[n] at q;simp at q
theorem aIV{h:Heap}{H:Hp}(e:(aBK h H).get? b=some o):h.get? b=some o/\H b=none:=by
 have e':h.get? b=some o:=PySem.W.of_hideAll (trk h H) e
 refine⟨e',?_⟩
 cases q:H b with
 |none=>rfl
 |some x=>
  have hm:b∈trk h H:=List.mem_filter.mpr ⟨Th9.mpr (kW e'),by simp[q]⟩
  have z:(aBK h H).get? b=none:=PySem.W.hideAll_none (trk h H) hm
  rw[z] at e;cases e
def aIW(g h:Heap)(L:Addr):List (Addr×Obj):=(List.range h.objs.size).filterMap λa=>if a=L\/(g.get? a).isSome=true then none else (h.get? a).map λo=>(a,o)
def rest(g h:Heap)(L d:Addr):List (Addr×Obj):=(aIW g h L).filter λp=>decide (p.1≠d)
end L2
namespace L2
open PySem PySem.Spec PyProof.Rows
structure Mod(K:W.Frag)(mg:Str->Option Value)(base:Heap):Prop where
 kin:K.In base
 glob:base.Ns mainGlobals mg
 blt:∃mb,base.Ns builtinsNs mb/\∀x:Str,x≠"__name__"->mb x=bootBuiltins x
 nolimit:base.NoLimit
 bm:∃bm o,mg "__builtins__" = some (.ref bm)/\bm≠builtinsNs/\base.get? bm=some o/\o.cls=.type "module"/\o.dict=some builtinsNs/\o.data=.plain
structure Cx where
 prog:Program
 w:World
 K:W.Frag
 mg:Str->Option Value
 base:Heap
 A:Around
 N:List Str
 s₀:Shared
 H₀:Hp
 env:Env
 outer:List Env
 stack:List Env
 ex:List Addr
 fn:Str->Bool
 calm:Bool
 pn:List (Addr×Obj)
 xe:Value->Shared->Prop
def wH(l:List Env):List Addr:=l.filterMap (·.frame)
abbrev Cx.fs(X:Cx):List Addr:=wH X.outer
def Vis(sc:Scope)(x:Str):Prop:=sc.names.lookup x=some .local\/sc.names.lookup x=some .cell\/sc.names.lookup x=some .free
def Loc(sc:Scope)(x:Str):Prop:=sc.names.lookup x=some .local\/sc.names.lookup x=some .cell
def Look(env:Env)(h:Heap)(m:Str->Option Value)(x:Str)(u:Value):Prop:=
 (env.kindOf x=some .local/\m x=some u)\/((env.kindOf x=some .cell\/env.kindOf x=some .free)/\∃c,env.cells.lookup x=some c/\h.IsCell c (some u))
structure Cx.Ok(X:Cx):Prop where
 mod:Mod X.K X.mg X.base
 kind:X.env.scope.kind=.function
 glob:X.env.globals=mainGlobals
 blt:X.env.builtins=builtinsNs
 above:X.s₀.heap.objs.size<=X.env.locals
 inj:∀x y c,X.env.cells.lookup x=some c->X.env.cells.lookup y=some c->x=y
 has:∀x,(X.env.kindOf x=some .cell\/X.env.kindOf x=some .free)->∃c,X.env.cells.lookup x=some c
 cab:∀x c,X.fn x=true->X.env.cells.lookup x=some c->X.s₀.heap.objs.size<=c
 hd:X.calm=true->X.A.handled=none
 frames:X.A.frames=some X.stack
 stk:X.stack=X.outer\/(X.stack=X.env::X.outer/\X.env.frame=some X.env.locals)
 exf:∀b∈X.ex,b≠X.env.locals/\∀x c,X.env.cells.lookup x=some c->c≠b
 bs:∀b o,X.base.get? b=some o->X.s₀.heap.get? b=some o/\X.H₀ b=none
 bsz:X.base.objs.size<=X.s₀.heap.objs.size
 noex:∀b o,X.base.get? b=some o->b∉X.ex
 exfs:∀b∈X.ex,b∉X.fs
 rO:X.s₀.heap.FunFrames X.base X.outer
 frf:∀b∈X.fs,X.H₀ b=none
structure Inv(X:Cx)(pins:List (Addr×Obj))(σ:List (Option V))(H:Hp)(s:Shared):Prop where
 ok:X.Ok
 os:s.os=X.s₀.os
 bare:AllBare s.gens
 base:Un X.fs X.ex X.H₀ H X.s₀.heap s.heap
 loc:∃m,s.heap.Ns X.env.locals m/\∀(i:Nat) (x:Str) (v:V),X.N[i]?=some x->σ[i]?=some (some v)->Vis X.env.scope x->∃u,RelV v u/\Look X.env s.heap m x u
 cell:∀x c,X.env.cells.lookup x=some c->∃v,s.heap.IsCell c v
 free:H X.env.locals=none
 freeC:∀x c,X.env.cells.lookup x=some c->H c=none
 pin:∀p∈X.pn++pins,s.heap.get? p.1=some p.2/\H p.1=none/\p.1≠X.env.locals/\p.1∉X.fs/\∀v,p.2.data≠.cell v
 hok:wA X.prog X.w H s.heap
 len:σ.length=X.N.length
section
variable{X:Cx}{pins:List (Addr×Obj)}{σ:List (Option V)}{H H':Hp}{s:Shared}{h':Heap}
theorem Cx.Ok.aNs(ok:X.Ok)(e:X.base.get? b=some o):b∉X.fs:=λhb=>by
 have:=(ok.rO.mem hb).1
 rw[e] at this;cases this
theorem Inv.bs(I:Inv X pins σ H s):∀b o,X.base.get? b=some o->s.heap.get? b=some o/\H b=none:=λb o e=>
 ⟨I.base.keep b o (I.ok.bs b o e).1 (I.ok.bs b o e).2 (I.ok.aNs e) (I.ok.noex b o e),I.base.free b o (I.ok.bs b o e).1 (I.ok.bs b o e).2 (I.ok.noex b o e)⟩
theorem Inv.bk(I:Inv X pins σ H s):∀b o,X.base.get? b=some o->s.heap.get? b=some o:=λb o e=>(I.bs b o e).1
theorem Inv.mod(I:Inv X pins σ H s):Mod X.K X.mg X.base:=I.ok.mod
theorem Inv.rP(I:Inv X pins σ H s):X.K.In s.heap:=I.ok.mod.kin.keeps I.bk
theorem Inv.fr(I:Inv X pins σ H s):∃m,Fr X.base X.env.locals s.heap m:=
 let ⟨m,hn,_⟩:=I.loc
 ⟨m,hn,I.bk,wZ I.ok.bsz I.ok.above⟩
theorem Inv.lt(I:Inv X pins σ H s):X.env.locals < s.heap.objs.size:=let ⟨_,hn,_⟩:=I.loc;hn.lt
theorem Inv.sz(I:Inv X pins σ H s):X.s₀.heap.objs.size<=s.heap.objs.size:=wZ I.ok.above (Tp9 I.lt)
theorem Inv.aNt(I:Inv X pins σ H s)(h:s.heap.objs.size<=a):a∉X.fs:=λhb=>by
 obtain⟨_,o,ho,_⟩:=I.ok.rO.mem hb
 exact absurd (xU (kW ho) (wZ I.sz h)) (Rq9 _)
theorem Inv.cne(I:Inv X pins σ H s):∀x c,X.env.cells.lookup x=some c->c≠X.env.locals:=λx c e z=>by
 obtain⟨v,o,ho,hd⟩:=I.cell x c e
 obtain⟨m,⟨o',es,ep,ho',hd',_⟩,_⟩:=I.loc
 rw[z,ho'] at ho;cases ho;rw[hd'] at hd;cases hd
theorem Inv.rO(I:Inv X pins σ H s):s.heap.FunFrames X.base X.outer:=by
 have all:∀(l:List Env),(∀b∈wH l,b∈X.fs)->X.s₀.heap.FunFrames X.base l->s.heap.FunFrames X.base l:=by
  intro l
  induction l with
  |nil=>intro _ _;trivial
  |cons env r ih=>
   intro hs hl
   obtain⟨hk,⟨L,o,hf,hn,ho,hd⟩,hr⟩:=hl
   have hL:L∈X.fs:=hs L (by unfold wH;rw[List.filterMap_cons,hf];exact Rf9)
   obtain⟨sl,e⟩:=I.base.slot L o ho (I.ok.frf L hL) hL λz=>I.ok.exfs L z hL
   exact⟨hk,⟨L,_,hf,hn,e,hd⟩,ih (λb hb=>hs b (by unfold wH;rw[List.filterMap_cons,hf];exact Qr9 _ hb)) hr⟩
 exact all X.outer (λ_ hb=>hb) I.ok.rO
theorem Inv.stack(I:Inv X pins σ H s):s.heap.FunFrames X.base X.stack:=by
 rcases I.ok.stk with e|⟨e,hf⟩
 ·rw[e];exact I.rO
 ·rw[e]
  obtain⟨m,hn,_⟩:=I.loc
  refine .cons (by rw[I.ok.kind];decide) hf hn ?_ I.rO
  exact Te9 (wZ I.ok.bsz I.ok.above)
theorem Inv.zC(I:Inv X pins σ H s):∀b∈wH X.stack,b∈X.env.locals::X.fs:=λb hb=>by
 rcases I.ok.stk with e|⟨e,hf⟩
 ·rw[e] at hb;exact Qr9 _ hb
 ·rw[e] at hb
  unfold wH at hb
  rw[List.filterMap_cons,hf] at hb
  exact hb
theorem Inv.aAP(I:Inv X pins σ H s):∀b∈wH X.stack,H b=none:=λb hb=>by
 rcases rN.mp (I.zC b hb) with e|hb
 ·rw[e];exact I.free
 ·obtain⟨_,o,ho,_⟩:=I.ok.rO.mem hb
  exact I.base.free b o ho (I.ok.frf b hb) λz=>I.ok.exfs b z hb
theorem Inv.step{g':Array GenState}{t':Nat}{d':Drawn}{ch:List Addr}(I:Inv X pins σ H s)
  (hch:∀b∈ch,(b∈X.ex\/X.s₀.heap.objs.size<=b)/\b≠X.env.locals/\(∀x c,X.env.cells.lookup x=some c->c≠b)/\∀p∈X.pn++pins,p.1≠b)
  (keep:∀b o,b≠X.env.locals->b∉X.fs->b∉ch->s.heap.get? b=some o->H b=none->h'.get? b=some o)
  (slot:∀b o,b≠X.env.locals->b∈X.fs->b∉ch->s.heap.get? b=some o->H b=none->∃sl,h'.get? b=some { o with slots:=sl }) (free:∀b o,b∉ch->s.heap.get? b=some o->H b=none->H' b=none)
  (there:∀b o,b∉ch->s.heap.get? b=some o->∃o',h'.get? b=some o')
  (tups:∀b xs,H b=some (.tup xs)->H' b=some (.tup xs)) (frzs:∀b o u,H b=some (.frz o u)->H' b=some (.frz o u)) (tbls:∀b ps,H b=some (.tbl ps)->∃more,H' b=some (.tbl (ps++more)))
  (ns:∀m,s.heap.Ns X.env.locals m->h'.Ns X.env.locals m) (hok:wA X.prog X.w H' h') (hg:AllBare g') :
  Inv X pins σ H' { s with heap:=h',gens:=g',drawn:=d',toks:=t' }:=by
 have neL:∀b o,X.s₀.heap.get? b=some o->b≠X.env.locals:=λb o e=>wG (xU (kW e) I.ok.above)
 have neC:∀b o,X.s₀.heap.get? b=some o->b∉X.ex->b∉ch:=λb o e hx hb=>by
  rcases(hch b hb).1 with z|z
  ·exact hx z
  ·exact absurd (xU (kW e) z) (Rq9 _)
 have cellK:∀x c,X.env.cells.lookup x=some c->∀v,s.heap.IsCell c v->h'.IsCell c v:=λx c e v ⟨o,ho,hd⟩=>by
  have nch:c∉ch:=λz=>(hch c z).2.2.1 x c e rfl
  by_cases hc:c∈X.fs
  ·obtain⟨sl,q⟩:=slot c o (I.cne x c e) hc nch ho (I.freeC x c e)
   exact⟨_,q,hd⟩
  ·exact⟨o,keep c o (I.cne x c e) hc nch ho (I.freeC x c e),hd⟩
 refine⟨I.ok,I.os,hg,⟨λb o e n hb hx=>?_,λb o e n hb hx=>?_,λb o e n hx=>?_,λb o e hx=>?_,λb xs e=>tups b xs (I.base.tups b xs e),λb o xs e=>frzs b o xs (I.base.frzs b o xs e),λb ps e=>?_⟩,?_,λx c e=>?_,?_,λx c e=>?_,λp hp=>?_,hok,I.len⟩
 ·exact keep b o (neL b o e) hb (neC b o e hx) (I.base.keep b o e n hb hx) (I.base.free b o e n hx)
 ·obtain⟨sl,e1⟩:=I.base.slot b o e n hb hx
  obtain⟨sl',e2⟩:=slot b _ (neL b o e) hb (neC b o e hx) e1 (I.base.free b o e n hx)
  exact⟨sl',e2⟩
 ·obtain⟨o',e1⟩:=I.base.there b o e hx
  exact free b o' (neC b o e hx) e1 (I.base.free b o e n hx)
 ·obtain⟨o',e1⟩:=I.base.there b o e hx
  exact there b o' (neC b o e hx) e1
 ·obtain⟨m1,e1⟩:=I.base.tbls b ps e
  obtain⟨m2,e2⟩:=tbls b _ e1
  exact⟨m1++m2,by rw[e2,Array.append_assoc]⟩
 ·obtain⟨m,hn,hl⟩:=I.loc
  refine⟨m,ns m hn,λi x v e1 e2 e3=>?_⟩
  obtain⟨u,r,l⟩:=hl i x v e1 e2 e3
  refine⟨u,r,?_⟩
  rcases l with l|⟨k,c,e,z⟩
  ·exact .inl l
  ·exact .inr ⟨k,c,e,cellK x c e _ z⟩
 ·obtain⟨v,z⟩:=I.cell x c e
  exact⟨v,cellK x c e v z⟩
 ·obtain⟨m,⟨o,_,_,ho,_⟩,_⟩:=I.loc
  exact free _ o (λz=>(hch _ z).2.1 rfl) ho I.free
 ·obtain⟨v,o,ho,hd⟩:=I.cell x c e
  exact free c o (λz=>(hch c z).2.2.1 x c e rfl) ho (I.freeC x c e)
 ·obtain⟨e,n,ne,nf,d⟩:=I.pin p hp
  have nch:p.1∉ch:=λz=>(hch p.1 z).2.2.2 p hp rfl
  exact⟨keep p.1 p.2 ne nf nch e n,free p.1 p.2 nch e n,ne,nf,d⟩
theorem Inv.un{t':Nat}(I:Inv X pins σ H s)(u:Un X.fs [] H H' s.heap h')(hok:wA X.prog X.w H' h'):Inv X pins σ H' { s with heap:=h',toks:=t' }:=by
 obtain⟨m,⟨o,es,ep,ho,r⟩,_⟩:=id I.loc
 obtain⟨sl,hL⟩:=u.any ho I.free (by simp)
 exact I.step (g':=s.gens) (d':=s.drawn) (ch:=[]) (λ_ z=>nomatch z) (λb o _ hb _ e n=>u.keep b o e n hb (by simp)) (λb o _ hb _ e n=>u.slot b o e n hb (by simp)) (λb o _ e n=>u.free b o e n (by simp)) (λb o _ e=>u.there b o e (by simp)) u.tups u.frzs u.tbls (λm' hm=>by
  obtain⟨o',es',ep',ho',r'⟩:=hm
  rw[ho] at ho';cases ho'
  exact⟨_,es',ep',hL,r'⟩) hok I.bare
theorem Inv.call{t':Nat}{d':Drawn}(I:Inv X pins σ H s)(u:Un (wH X.stack) ch H H' s.heap h')(hok:wA X.prog X.w H' h')(hg:AllBare g')(hch:∀b∈ch,(b∈X.ex\/X.s₀.heap.objs.size<=b)/\b≠X.env.locals/\(∀x c,X.env.cells.lookup x=some c->c≠b)/\∀p∈X.pn++pins,p.1≠b) :
  Inv X pins σ H' { s with heap:=h',gens:=g',drawn:=d',toks:=t' }:=by
 obtain⟨m,⟨o,es,ep,ho,r⟩,_⟩:=id I.loc
 obtain⟨sl,hL⟩:=u.any ho I.free λz=>(hch _ z).2.1 rfl
 exact I.step (ch:=ch) hch (λb o hL hb hc e n=>u.keep b o e n (λz=>(rN.mp (I.zC b z)).elim hL hb) hc) (λb o _ _ hc e n=>u.any e n hc) (λb o hc e n=>u.free b o e n hc) (λb o hc e=>u.there b o e hc) u.tups u.frzs u.tbls (λm' hm=>by
  obtain⟨o',es',ep',ho',r'⟩:=hm
  rw[ho] at ho';cases ho'
  exact⟨_,es',ep',hL,r'⟩) hok hg
theorem Inv.turned{t':Nat}{it:Addr}(I:Inv X pins σ H s)(k:∀b o,b≠it->s.heap.get? b=some o->h'.get? b=some o)(hn:H it=none)(hL:it≠X.env.locals)
  (h1:it∈X.ex\/X.s₀.heap.objs.size<=it) (h2:∀x c,X.env.cells.lookup x=some c->c≠it) (h3:∀p∈X.pn++pins,p.1≠it):Inv X pins σ H { s with heap:=h',toks:=t' }:=by
 have nit:∀b u,H b=some u->b≠it:=λb u e z=>by rw[z,hn] at e;cases e
 refine I.step (g':=s.gens) (d':=s.drawn) (ch:=[it]) (λb hb=>?_) (λb o _ _ hc e _=>k b o (λz=>hc (by simp[z])) e) (λb o _ _ hc e _=>⟨o.slots,k b o (λz=>hc (by simp[z])) e⟩) (λ_ _ _ _ n=>n)
  (λb o hc e=>⟨o,k b o (λz=>hc (by simp[z])) e⟩) (λ_ _ e=>e) (λ_ _ _ e=>e) (λb ps e=>⟨#[],by rw[e];simp⟩) (λm hm=>?_) (λb u e=>?_) I.bare
 ·have e:b=it:=by simpa using hb
  subst e
  exact⟨h1,hL,h2,h3⟩
 ·obtain⟨o,es,ep,ho,r⟩:=hm
  exact⟨o,es,ep,k _ o (Ne.symm hL) ho,r⟩
 ·refine(I.hok b u e).aAB (λc v hc q=>k c v ?_ q) (λ_ q=>q) λ_ _ _ q=>q
  rcases hc with z|z
  ·rw[z];exact nit b u e
  ·exact nit c _ z
theorem Inv.tok(I:Inv X pins σ H s)(t:Nat):Inv X pins σ H { s with toks:=t }:=I.un (h':=s.heap) (t':=t) Un.refl I.hok
theorem Inv.kept{t':Nat}(I:Inv X pins σ H s)(k:∀b u,s.heap.get? b=some u->h'.get? b=some u):Inv X pins σ H { s with heap:=h',toks:=t' }:=I.un (Un.kept k) (I.hok.kept k)
theorem Inv.laid{t':Nat}(I:Inv X pins σ H s)(k:∀b u,s.heap.get? b=some u->h'.get? b=some u)(hp:s.heap.objs.size<=a)(new:eE X.prog X.w (upd H a o) h' a o) :
  Inv X pins σ (upd H a o) { s with heap:=h',toks:=t' }:=I.un (Un.laid k hp (I.hok.fresh hp)) (I.hok.laid k hp new)
theorem Inv.write{t':Nat}(I:Inv X pins σ H s)(mu:Mut (H x))(he:e=x\/H e=some (.own x))(k:∀b u,b≠e->s.heap.get? b=some u->h'.get? b=some u)(heo:∃u,h'.get? e=some u)(new:eE X.prog X.w (upd H x o) h' x o):Inv X pins σ (upd H x o) { s with heap:=h',toks:=t' }:=I.un (Un.write mu he k heo) (I.hok.write mu he k heo new)
theorem Inv.weak{σ':List (Option V)}(I:Inv X pins σ H s)(hl:σ'.length=σ.length)(w:∀(i:Nat) v,σ'[i]?=some (some v)->σ[i]?=some (some v)):Inv X pins σ' H s:=
 ⟨I.ok,I.os,I.bare,I.base,let ⟨m,hn,hl'⟩:=I.loc;⟨m,hn,λi x v e1 e2 e3=>hl' i x v e1 (w i v e2) e3⟩,I.cell,I.free,I.freeC,I.pin,I.hok,hl.trans I.len⟩
theorem Inv.vH(I:Inv X pins σ H s)(h:∀p∈pins',s.heap.get? p.1=some p.2/\H p.1=none/\p.1≠X.env.locals/\p.1∉X.fs/\∀v,p.2.data≠.cell v):Inv X pins' σ H s:=
 ⟨I.ok,I.os,I.bare,I.base,I.loc,I.cell,I.free,I.freeC,λp hp=>(Rb9.mp hp).elim (λz=>I.pin p (Ro9 _ z)) (h p),I.hok,I.len⟩
theorem aA0{N:List Str}(hN:N.Nodup){i j:Nat}(a:N[i]?=some x)(b:N[j]?=some x):i=j:=by
 obtain⟨h1,e1⟩:=wF.mp a
 obtain⟨h2,e2⟩:=wF.mp b
 exact(List.getElem_inj hN).mp (e1.trans e2.symm)
theorem vI{E:Value->Shared->Prop}{i:Nat}{Q:Unit->Shared->Prop}(I:Inv X pins σ H s)(hN:X.N.Nodup)(hi:X.N[i]?=some x)(hx:Loc X.env.scope x)(r:RelV v u)(h:∀s',Inv X pins (σ.set i (some v)) H s'->(∃a,Heap.SameBut a s.heap s'.heap/\(a=X.env.locals\/X.env.cells.lookup x=some a))->Q () s')(hf:X.fn x=true\/X.env.scope.names.lookup x=some .local:=by first|exact .inl rfl|exact .inr rfl|assumption):wpAny M A (storeName X.env x u) Q E s:=by
 obtain⟨m,hn,hl⟩:=id I.loc
 have hcls:(X.env.scope.kind == .class || (X.env.scope.kind == .module && X.env.locals != X.env.globals))=false:=by rw[I.ok.kind];rfl
 have hiσ:i < σ.length:=by rw[I.len];exact(wF.mp hi).1
 have cne:=I.cne
 have tracked:∀{a:Addr} {h':Heap},(∃o,s.heap.get? a=some o/\H a=none)->Heap.SameBut a s.heap h'->wA X.prog X.w H h':=λ{a h'} ha hs b ob e=>by
  obtain⟨_,_,hfree⟩:=ha
  refine(I.hok b ob e).aAB (λc w' hc q=>(hs.2 c ?_).trans q) (λ_ q=>q) λ_ _ _ q=>q
  rintro rfl
  rcases hc with rfl|hc
  ·rw[hfree] at e;cases e
  ·rw[hfree] at hc;cases hc
 rcases hx with hk|hk
 ·refine wpAny_storeName_local hk hn (λh' hn' hs=>?_) hcls
  obtain⟨oL,_,_,hoL,_⟩:=id hn
  refine h _ ⟨I.ok,I.os,I.bare,⟨λb o e n hb hx=>?_,λb o e n hb hx=>?_,I.base.free,λb o e hx=>?_,I.base.tups,I.base.frzs,I.base.tbls⟩,⟨_,hn',λj y v' e1 e2 e3=>?_⟩,λy c e=>?_,I.free,I.freeC,λp hp=>?_,tracked ⟨oL,hoL,I.free⟩ hs,by simpa using I.len⟩ ⟨_,hs,.inl rfl⟩
  ·exact(hs.2 b (wG (xU (kW e) I.ok.above))).trans (I.base.keep b o e n hb hx)
  ·obtain⟨sl,e1⟩:=I.base.slot b o e n hb hx
   exact⟨sl,(hs.2 b (wG (xU (kW e) I.ok.above))).trans e1⟩
  ·obtain⟨o',e1⟩:=I.base.there b o e hx
   exact⟨o',(hs.2 b (wG (xU (kW e) I.ok.above))).trans e1⟩
  ·by_cases hj:j=i
   ·subst hj
    rw[hi] at e1;cases e1
    rw[Tm9 hiσ] at e2
    cases e2
    exact⟨u,r,.inl ⟨hk,by simp⟩⟩
   ·rw[Tf9 (Ne.symm hj)] at e2
    obtain⟨u',r',q⟩:=hl j y v' e1 e2 e3
    refine⟨u',r',?_⟩
    rcases q with ⟨k,e⟩|⟨k,c,e,z⟩
    ·refine .inl ⟨k,?_⟩
     have:y≠x:=λe=>hj (aA0 hN e1 (e▸hi))
     simp[this,e]
    ·exact .inr ⟨k,c,e,z.sameBut hs (cne y c e)⟩
  ·obtain⟨w',z⟩:=I.cell y c e
   exact⟨w',z.sameBut hs (cne y c e)⟩
  ·obtain⟨e,n,ne,nf,d⟩:=I.pin p hp
   exact⟨(hs.2 p.1 ne).trans e,n,ne,nf,d⟩
 ·have hfn:X.fn x=true:=by
   rcases hf with z|z
   ·exact z
   ·rw[z] at hk;cases hk
  obtain⟨c,hc⟩:=I.ok.has x (.inl hk)
  obtain⟨w',z⟩:=I.cell x c hc
  refine wpAny_storeName_cell I.ok.kind hk hc z (λh' hc' hs=>?_)
  obtain⟨oc,hoc,hocd⟩:=id z
  refine h { s with heap:=h' } ⟨I.ok,I.os,I.bare,⟨λb o e n hb hx=>?_,λb o e n hb hx=>?_,I.base.free,λb o e hx=>?_,I.base.tups,I.base.frzs,I.base.tbls⟩,⟨m,hn.sameBut hs (Ne.symm (cne x c hc)),λj y v' e1 e2 e3=>?_⟩,λy c' e=>?_,I.free,I.freeC,λp hp=>?_,tracked ⟨oc,hoc,I.freeC x c hc⟩ hs,by simpa using I.len⟩ ⟨c,hs,.inr hc⟩
  ·exact(hs.2 b (wG (xU (kW e) (I.ok.cab x c hfn hc)))).trans (I.base.keep b o e n hb hx)
  ·obtain⟨sl,e1⟩:=I.base.slot b o e n hb hx
   exact⟨sl,(hs.2 b (wG (xU (kW e) (I.ok.cab x c hfn hc)))).trans e1⟩
  ·obtain⟨o',e1⟩:=I.base.there b o e hx
   exact⟨o',(hs.2 b (wG (xU (kW e) (I.ok.cab x c hfn hc)))).trans e1⟩
  ·by_cases hj:j=i
   ·subst hj
    rw[hi] at e1;cases e1
    rw[Tm9 hiσ] at e2
    cases e2
    exact⟨u,r,.inr ⟨.inl hk,c,hc,hc'⟩⟩
   ·rw[Tf9 (Ne.symm hj)] at e2
    obtain⟨u',r',q⟩:=hl j y v' e1 e2 e3
    refine⟨u',r',?_⟩
    rcases q with q|⟨k,c',e,z'⟩
    ·exact .inl q
    ·refine .inr ⟨k,c',e,z'.sameBut hs ?_⟩
     rintro rfl
     exact hj (aA0 hN e1 (I.ok.inj _ _ _ e hc▸hi))
  ·by_cases hcc:c'=c
   ·subst hcc;exact⟨_,hc'⟩
   ·obtain⟨w2,z2⟩:=I.cell y c' e
    exact⟨w2,z2.sameBut hs hcc⟩
  ·obtain⟨e,n,ne,nf,d⟩:=I.pin p hp
   refine⟨(hs.2 p.1 ?_).trans e,n,ne,nf,d⟩
   intro q
   rw[q,hoc] at e
   have q':oc=p.2:=Option.some.inj e
   exact d w' (by rw[<-q'];exact hocd)
theorem aA1{E:Value->Shared->Prop}{i:Nat}{Q:Unit->Shared->Prop}(I:Inv X pins σ H s)(hN:X.N.Nodup)(hi:X.N[i]?=some x)(hx:Loc X.env.scope x)(r:RelV v u)(h:∀s',Inv X pins (σ.set i (some v)) H s'->Q () s')(hf:X.fn x=true\/X.env.scope.names.lookup x=some .local:=by first|exact .inl rfl|exact .inr rfl|assumption):wpAny M A (storeName X.env x u) Q E s:=
 vI I hN hi hx r (λs' I' _=>h s' I') hf
theorem Inv.aDM{s':Shared}(I:Inv X pins σ H s)(ho:s'.os=s.os)(u:Un (wH X.stack) ch H H' s.heap s'.heap)(hok:wA X.prog X.w H' s'.heap)(hg:AllBare s'.gens)(hch:∀b∈ch,(b∈X.ex\/X.s₀.heap.objs.size<=b)/\b≠X.env.locals/\(∀x c,X.env.cells.lookup x=some c->c≠b)/\∀p∈X.pn++pins,p.1≠b):Inv X pins σ H' s':=by
 obtain⟨h',g',d',t',o'⟩:=s'
 have e:o'=s.os:=ho
 subst e
 exact I.call (g':=g') (t':=t') (d':=d') u hok hg hch
end
abbrev XK:=Value->Option Addr->Hp->Prop
abbrev St:=List (Option V)
abbrev VK:=V->Hp->Prop
abbrev TE:=St->Hp->VK->Prop
abbrev TT:=St->Hp->(Bool->Hp->Prop)->Prop
abbrev TA:=St->Hp->(List V->Hp->Prop)->Prop
structure Ends where
 nx:St->Hp->Prop
 rt:VK
 bk:St->Hp->Prop:=λ_ _=>False
 ct:St->Hp->Prop:=λ_ _=>False
abbrev TS:=Ends->St->Hp->Prop
def EP(X:Cx)(pins:List (Addr×Obj))(σ:St)(Q:VK)(u:Value)(s':Shared):Prop:=∃v H',Inv X pins σ H' s'/\RelV v u/\Q v H'
def TP(X:Cx)(pins:List (Addr×Obj))(σ:St)(Q:Bool->Hp->Prop)(b:Bool)(s':Shared):Prop:=∃H',Inv X pins σ H' s'/\Q b H'
def AP(X:Cx)(pins:List (Addr×Obj))(σ:St)(Q:List V->Hp->Prop)(us:List Value)(s':Shared):Prop:=∃vs H',Inv X pins σ H' s'/\Vals vs us/\Q vs H'
def SP(X:Cx)(pins:List (Addr×Obj))(D:Ends)(f:Flow)(s':Shared):Prop:=
 match f with
 |.next=>∃σ' H',Inv X pins σ' H' s'/\D.nx σ' H'
 |.brk=>∃σ' H',Inv X pins σ' H' s'/\D.bk σ' H'
 |.cont=>∃σ' H',Inv X pins σ' H' s'/\D.ct σ' H'
 |.ret u=>∃v σ' H',Inv X pins σ' H' s'/\RelV v u/\D.rt v H'
def PE(X:Cx)(e:Expr)(t:TE):Prop:=
 ∀(pins:List (Addr×Obj)) (s:Shared) (σ:St) (H:Hp) (Q:VK),Inv X pins σ H s->t σ H Q->wpAny (model X.prog X.w) X.A (eval e X.env) (EP X pins σ Q) X.xe s
def PT(X:Cx)(e:Expr)(t:TT):Prop:=
 ∀(pins:List (Addr×Obj)) (s:Shared) (σ:St) (H:Hp) (Q:Bool->Hp->Prop),Inv X pins σ H s->t σ H Q->wpAny (model X.prog X.w) X.A (isTrue e X.env (eval e X.env)) (TP X pins σ Q) X.xe s
def PW(X:Cx)(e:Expr)(t:TT):Prop:=
 ∀(whole:Sem Value) (pins:List (Addr×Obj)) (s:Shared) (σ:St) (H:Hp) (Q:Bool->Hp->Prop),Inv X pins σ H s->t σ H Q->wpAny (model X.prog X.w) X.A (isTrue e X.env whole) (TP X pins σ Q) X.xe s
theorem PW.pt(h:PW X e t):PT X e t:=h _
def PA(X:Cx)(es:List Expr)(t:TA):Prop:=
 ∀(pos:Pos) (pins:List (Addr×Obj)) (s:Shared) (σ:St) (H:Hp) (Q:List V->Hp->Prop),Inv X pins σ H s->t σ H Q->wpAny (model X.prog X.w) X.A (spliced (backTo pos (starEach es X.env))) (AP X pins σ Q) X.xe s
def PS(X:Cx)(st:Stmt)(t:TS):Prop:=
 ∀(pins:List (Addr×Obj)) (s:Shared) (σ:St) (H:Hp) (D:Ends),Inv X pins σ H s->t D σ H->wpAny (model X.prog X.w) X.A (exec st X.env) (SP X pins D) X.xe s
def PSs(X:Cx)(st:List Stmt)(t:TS):Prop:=
 ∀(pins:List (Addr×Obj)) (s:Shared) (σ:St) (H:Hp) (D:Ends),Inv X pins σ H s->t D σ H->wpAny (model X.prog X.w) X.A (execs st X.env) (SP X pins D) X.xe s
theorem dY{α:Type}{t:Sem α}{Q Q':α->Shared->Prop}{E:Value->Shared->Prop}(h:wpAny M A t Q E s)(hQ:∀a s,Q a s->Q' a s):wpAny M A t Q' E s:=Rs9 h hQ λ_ _ x=>x
end L2
namespace L2
open PySem PySem.Spec PyProof.Rows
section
variable{X:Cx}
def aKF(i:Nat):TE:=λσ H Q=>∃v,σ[i]?=some (some v)/\Q v H
def tC(v:V):TE:=λ_ H Q=>Q v H
theorem aKG{i:Nat}(hN:X.N[i]?=some x)(hv:Vis X.env.scope x)(hd:(x == ("__debug__" : Str))=false:=by decide)(hcd:(x == ("__classdict__" : Str))=false:=by decide):PE X (.Name x pos) (aKF i):=by
 intro pins s σ H Q I h
 obtain⟨v,e,h⟩:=h
 obtain⟨m,hn,hl⟩:=I.loc
 obtain⟨u,r,l⟩:=hl i x v hN e hv
 have fin:EP X pins σ Q u s:=⟨v,H,I,r,h⟩
 rcases l with ⟨hk,hm⟩|⟨hk,c,hc,hcell⟩
 ·exact wpAny_Name (wpAny_loadName_local I.ok.kind hk hn hm fin) hd
 ·rcases hk with hk|hk
  ·exact wpAny_Name (wpAny_loadName_cell I.ok.kind hk hc hcell fin) hd
  ·exact wpAny_Name (wpAny_loadName_free I.ok.kind hk hc hcell fin hcd) hd
theorem aKH{i j pos}:PE X (.Constant (.int i) j pos) (tC (.int i)):=λ_ _ _ H _ I h=>wpAny_Constant_int ⟨.int i,H,I.tok _,⟨_,rfl⟩,h⟩
theorem aMB{b j pos}:PE X (.Constant (.bool b) j pos) (tC (.bl b)):=λ_ _ _ H _ I h=>Constant_bool ⟨.bl b,H,I,rfl,h⟩
theorem aKI{j pos}:PE X (.Constant .none j pos) (tC .non):=λ_ _ _ H _ I h=>Constant_none ⟨.non,H,I,rfl,h⟩
theorem aG7{x j pos}:PE X (.Constant (.str x) j pos) (tC (.str x)):=λ_ _ _ H _ I h=>Calls.Constant_str ⟨.str x,H,I.tok _,⟨_,rfl⟩,h⟩
def Gl(X:Cx)(x:Str):Prop:=X.env.kindOf x=some .globalImplicit
theorem nO{E:Value->Shared->Prop}{Q:Value->Shared->Prop}(I:Inv X pins σ H s)(hg:Gl X x)(hm:X.mg x=some u)(h:Q u s)(hd:(x == ("__debug__" : Str))=false:=by decide):wpAny (model X.prog X.w) X.A (eval (.Name x pos) X.env) Q E s:=
 Calls.Name_function_global I.ok.kind hg (Calls.loadGlobal_global (by rw[I.ok.glob];exact I.mod.glob.keeps I.bk) hm h) hd
theorem zD{E:Value->Shared->Prop}{Q:Value->Shared->Prop}(I:Inv X pins σ H s)(hg:Gl X x)(hm:X.mg x=none)(hv:bootBuiltins x=some u)(h:Q u s)(hn:x≠"__name__":=by decide)(hd:(x == ("__debug__" : Str))=false:=by decide):wpAny (model X.prog X.w) X.A (eval (.Name x pos) X.env) Q E s:=by
 obtain⟨mb,h1,h2⟩:=I.mod.blt
 exact Calls.Name_function_global I.ok.kind hg (Calls.loadGlobal_builtin (by rw[I.ok.glob];exact I.mod.glob.keeps I.bk) hm (by rw[I.ok.blt];exact h1.keeps I.bk) ((h2 x hn).trans hv) h) hd
theorem aCS(hg:Gl X x)(hm:X.mg x=some u)(r:RelV v u)(hd:(x == ("__debug__" : Str))=false:=by decide):PE X (.Name x pos) (tC v):=
 λ_ _ _ H _ I h=>nO I hg hm ⟨v,H,I,r,h⟩ hd
theorem aIX(hg:Gl X x)(hm:X.mg x=none)(hv:bootBuiltins x=some u)(r:RelV v u)(hn:x≠"__name__":=by decide)(hd:(x == ("__debug__" : Str))=false:=by decide):PE X (.Name x pos) (tC v):=
 λ_ _ _ H _ I h=>zD I hg hm hv ⟨v,H,I,r,h⟩ hn hd
variable{a b:Expr}{ta tb:TE}{pos:Pos}
def tB(t:TE):TT:=λσ H Q=>t σ H λx H1=>∃c,x=.bl c/\Q c H1
theorem aKJ{e:Expr}(h:PE X e t)(he:∀whole,isTrue e X.env whole=(do let v <-whole;standAt e.pos;holding [v] (truthy v)):=by intro _;rfl):PT X e (tB t):=by
 intro pins s σ H Q I hw
 refine isTrue_plain (dY (h pins s σ H _ I hw) λv s1 ⟨x,H1,I1,r1,q1⟩=>?_) (he _)
 obtain⟨d,rfl,q⟩:=q1
 cases r1
 exact wpAny_truthy_bool ⟨H1,I1,q⟩
variable{tA tB':TT}{rest:List Expr}
def aKK(t u:TT):TT:=λσ H Q=>t σ H λc H1=>if c=true then u σ H1 Q else Q false H1
def tOr(t u:TT):TT:=λσ H Q=>t σ H λc H1=>if c=true then Q true H1 else u σ H1 Q
def aKL(t:TT):TT:=λσ H Q=>t σ H λc H1=>Q (!c) H1
theorem aIY(ha:PT X a tA):PW X (.BoolOp .And [a] pos) tA:=by
 intro wh pins s σ H Q I h
 refine isTrue_and (dY (ha pins s σ H Q I h) λc s1 e=>?_)
 cases c with
 |true=>exact isTrue_and_nil e
 |false=>exact e
theorem aKM(ha:PT X a tA):PW X (.BoolOp .Or [a] pos) tA:=by
 intro wh pins s σ H Q I h
 refine isTrue_or (dY (ha pins s σ H Q I h) λc s1 e=>?_)
 cases c with
 |false=>exact isTrue_or_nil e
 |true=>exact e
theorem aKN(ha:PT X a tA)(hb:PW X (.BoolOp .And (b::rest) pos) tB'):PW X (.BoolOp .And (a::b::rest) pos) (aKK tA tB'):=by
 intro wh pins s σ H Q I h
 refine isTrue_and (dY (ha pins s σ H _ I h) λc s1 ⟨H1,I1,q1⟩=>?_)
 cases c with
 |true=>exact hb wh pins s1 σ H1 Q I1 q1
 |false=>exact⟨H1,I1,q1⟩
theorem aMC(ha:PT X a tA)(hb:PW X (.BoolOp .Or (b::rest) pos) tB'):PW X (.BoolOp .Or (a::b::rest) pos) (tOr tA tB'):=by
 intro wh pins s σ H Q I h
 refine isTrue_or (dY (ha pins s σ H _ I h) λc s1 ⟨H1,I1,q1⟩=>?_)
 cases c with
 |true=>exact⟨H1,I1,q1⟩
 |false=>exact hb wh pins s1 σ H1 Q I1 q1
theorem aKO(ha:PT X a tA):PT X (.UnaryOp .Not a pos) (aKL tA):=by
 intro pins s σ H Q I h
 exact isTrue_not (ha pins s σ H (λc H1=>Q (!c) H1) I h)
def aG8(ta tb:TE):TE:=λσ H Q=>ta σ H λx H1=>∃c,x=.bl c/\if c=true then tb σ H1 Q else Q (.bl false) H1
def aKP(ta tb:TE):TE:=λσ H Q=>ta σ H λx H1=>∃c,x=.bl c/\if c=true then Q (.bl true) H1 else tb σ H1 Q
def aG9(ta:TE):TE:=λσ H Q=>ta σ H λx H1=>∃c,x=.bl c/\Q (.bl (!c)) H1
theorem aKQ{op}(h:PE X a t):PE X (.BoolOp op [a] pos) t:=λpins s σ H Q I hw=>BoolOp_one (h pins s σ H Q I hw)
theorem aKR(ha:PE X a ta)(hb:PE X (.BoolOp .And (b::rest) pos) tb):PE X (.BoolOp .And (a::b::rest) pos) (aG8 ta tb):=by
 intro pins s σ H Q I h
 refine BoolOp_and (dY (ha pins s σ H _ I h) λv s1 ⟨x,H1,I1,r1,q1⟩=>?_)
 obtain⟨c,rfl,q1⟩:=q1
 cases r1
 refine wpAny_truthy_bool ?_
 cases c with
 |true=>exact hb pins s1 σ H1 Q I1 q1
 |false=>exact⟨.bl false,H1,I1,rfl,q1⟩
theorem aMD(ha:PE X a ta)(hb:PE X (.BoolOp .Or (b::rest) pos) tb):PE X (.BoolOp .Or (a::b::rest) pos) (aKP ta tb):=by
 intro pins s σ H Q I h
 refine BoolOp_or (dY (ha pins s σ H _ I h) λv s1 ⟨x,H1,I1,r1,q1⟩=>?_)
 obtain⟨c,rfl,q1⟩:=q1
 cases r1
 refine wpAny_truthy_bool ?_
 cases c with
 |false=>exact hb pins s1 σ H1 Q I1 q1
 |true=>exact⟨.bl true,H1,I1,rfl,q1⟩
theorem aKS(ha:PE X a ta):PE X (.UnaryOp .Not a pos) (aG9 ta):=by
 intro pins s σ H Q I h
 refine UnaryOp_ (dY (ha pins s σ H _ I h) λv s1 ⟨x,H1,I1,r1,q1⟩=>?_)
 obtain⟨c,rfl,q1⟩:=q1
 cases r1
 exact not_of (wpAny_truthy_bool ⟨.bl (!c),H1,I1,rfl,q1⟩)
end
end L2
namespace L2
open PySem PySem.Spec PyProof.Rows
def bQ(K:W.Frag)(H:Hp)(a:Addr)(xs:List V):Prop:=
 Rd H a (.lst xs)\/
  ∃(o:Obj) (its:Array Value) (n:Nat),K.lookup a=some o/\o.cls=.type "list"/\o.dict=none/\o.data=.seq its n/\its.size<=sizeLine/\Vals xs its.toList
def mY(K:W.Frag)(H:Hp)(a:Addr)(xs:List V):Prop:=
 Rd H a (.tup xs)\/
  ∃(o:Obj) (its:Array Value) (n:Nat),K.lookup a=some o/\o.cls=.type "tuple"/\o.data=.seq its n/\its.size<=sizeLine/\Vals xs its.toList
def aNu:Value->Option V
 |.none=>some .non
 |.bool b=>some (.bl b)
 |.int i _=>some (.int i)
 |.str x _=>some (.str x)
 |.bytes b _=>some (.byt b)
 |.float b _=>some (.flt b)
 |.ref a=>some (.ref a)
 |.type n=>some (.ty n)
 |_=>none
theorem RelV.abs(r:RelV x u):aNu u=some x:=by
 cases x with
 |non=>cases r;rfl
 |bl _=>cases r;rfl
 |int _=>obtain⟨t,rfl⟩:=r;rfl
 |str _=>obtain⟨t,rfl⟩:=r;rfl
 |byt _=>obtain⟨t,rfl⟩:=r;rfl
 |flt _=>obtain⟨t,rfl⟩:=r;rfl
 |ref _=>cases r;rfl
 |ty _=>cases r;rfl
theorem RelV.inj(r:RelV x u)(q:RelV y u):x=y:=Option.some.inj (r.abs.symm.trans q.abs)
theorem Vals.inj:∀{xs ys:List V}{us:List Value},Vals xs us->Vals ys us->xs=ys
 |_,_,_,.nil,.nil=>rfl
 |_,_,_,.cons r t,.cons r' t'=>by rw[r.inj r',Vals.inj t t']
section
variable{X:Cx}{pins:List (Addr×Obj)}{σ:St}{H:Hp}{s:Shared}{a:Addr}{xs ys:List V}
theorem bQ.of{K:W.Frag}(h:H a=some (.lst xs)):bQ K H a xs:=.inl (.inl h)
theorem mY.of{K:W.Frag}(h:H a=some (.tup xs)):mY K H a xs:=.inl (.inl h)
theorem Inv.list(I:Inv X pins σ H s)(h:bQ X.K H a xs):∃its:List Value,Vals xs its/\PlainL s.heap a its.toArray/\xs.length<=sizeLine:=by
 rcases h with h|⟨o,its,n,hk,hc,hd,hs,hz,r⟩
 ·obtain⟨z,its,n,r,e⟩:=h.ok I.hok
  exact⟨its,r,⟨_,n,e,rfl,rfl,rfl⟩,z⟩
 ·refine⟨its.toList,r,⟨o,n,I.rP a o hk,hc,hd,by simpa using hs⟩,?_⟩
  have e:=r.length
  simp only[wY] at e
  omega
theorem Inv.tuple(I:Inv X pins σ H s)(h:mY X.K H a xs):∃its:List Value,Vals xs its/\IsTup s.heap a its.toArray/\xs.length<=sizeLine:=by
 rcases h with h|⟨o,its,n,hk,hc,hs,hz,r⟩
 ·obtain⟨z,its,r,p⟩:=h.ok I.hok
  exact⟨its,r,p,z⟩
 ·refine⟨its.toList,r,⟨o,I.rP a o hk,hc,n,by simpa using hs⟩,?_⟩
  have e:=r.length
  simp only[wY] at e
  omega
theorem Inv.aA2(I:Inv X pins σ H s)(h:bQ X.K H a xs)(h':bQ X.K H a ys):xs=ys:=by
 obtain⟨its,r,⟨o,n,e,_,_,d⟩,_⟩:=I.list h
 obtain⟨its',r',⟨o',n',e',_,_,d'⟩,_⟩:=I.list h'
 rw[e] at e';cases e'
 rw[d] at d'
 injection d' with d1 _
 have:its=its':=by simpa using congrArg Array.toList d1
 subst this
 exact r.inj r'
theorem Inv.aCd(I:Inv X pins σ H s)(h:mY X.K H a xs)(h':mY X.K H a ys):xs=ys:=by
 obtain⟨its,r,⟨o,e,_,n,d⟩,_⟩:=I.tuple h
 obtain⟨its',r',⟨o',e',_,n',d'⟩,_⟩:=I.tuple h'
 rw[e] at e';cases e'
 rw[d] at d'
 injection d' with d1 _
 have:its=its':=by simpa using congrArg Array.toList d1
 subst this
 exact r.inj r'
end
abbrev Cx.aBL(X:Cx)(E:Value->Shared->Prop):Cx:={ X with xe:=E }
abbrev Cx.nox(X:Cx):Cx:=X.aBL λ_ _=>False
theorem Cx.Ok.aBL{X:Cx}(ok:X.Ok)(E:Value->Shared->Prop):(X.aBL E).Ok:=
 ⟨ok.mod,ok.kind,ok.glob,ok.blt,ok.above,ok.inj,ok.has,ok.cab,ok.hd,ok.frames,ok.stk,ok.exf,ok.bs,ok.bsz,ok.noex,ok.exfs,ok.rO,ok.frf⟩
theorem Cx.Ok.uA{X:Cx}{E:Value->Shared->Prop}(ok:(X.aBL E).Ok):X.Ok:=
 ⟨ok.mod,ok.kind,ok.glob,ok.blt,ok.above,ok.inj,ok.has,ok.cab,ok.hd,ok.frames,ok.stk,ok.exf,ok.bs,ok.bsz,ok.noex,ok.exfs,ok.rO,ok.frf⟩
section
variable{X:Cx}{pins:List (Addr×Obj)}{σ:St}{H:Hp}{s:Shared}{E:Value->Shared->Prop}
theorem Inv.aBL(I:Inv X pins σ H s)(E:Value->Shared->Prop):Inv (X.aBL E) pins σ H s:=⟨I.ok.aBL E,I.os,I.bare,I.base,I.loc,I.cell,I.free,I.freeC,I.pin,I.hok,I.len⟩
theorem Inv.uA(I:Inv (X.aBL E) pins σ H s):Inv X pins σ H s:=⟨I.ok.uA,I.os,I.bare,I.base,I.loc,I.cell,I.free,I.freeC,I.pin,I.hok,I.len⟩
theorem SP.uA(h:SP (X.aBL E) pins D f s'):SP X pins D f s':=by
 cases f with
 |next=>obtain⟨σ',H',I,q⟩:=h;exact⟨σ',H',I.uA,q⟩
 |brk=>obtain⟨σ',H',I,q⟩:=h;exact⟨σ',H',I.uA,q⟩
 |cont=>obtain⟨σ',H',I,q⟩:=h;exact⟨σ',H',I.uA,q⟩
 |ret u=>obtain⟨v,σ',H',I,r,q⟩:=h;exact⟨v,σ',H',I.uA,r,q⟩
theorem PSs.nox{st:List Stmt}{t:TS}(h:PSs X.nox st t):PSs X st t:=λpins s σ H D I hw=>
 Rs9 (h pins s σ H D (I.aBL _) hw) (λ_ _ q=>q.uA) λ_ _ z=>False.elim z
end
section
variable{X:Cx}{st:Stmt}{rest:List Stmt}{t u:TS}{e:Expr}{te:TE}{pos:Pos}
def aHa:TS:=λD σ H=>D.nx σ H
def aHb(t u:TS):TS:=λD σ H=>t { D with nx:=u D } σ H
theorem aIZ:PSs X [] aHa:=λ_ _ σ H _ I h=>wpAny_execs_nil ⟨σ,H,I,h⟩
theorem aHc(h1:PS X st t)(h2:PSs X rest u):PSs X (st::rest) (aHb t u):=by
 intro pins s σ H D I h
 refine wpAny_execs_cons (dY (h1 pins s σ H { D with nx:=u D } I h) λf s1 q=>?_)
 cases f with
 |next=>
  obtain⟨σ',H',I',q⟩:=q
  exact h2 pins s1 σ' H' D I' q
 |ret v=>exact q
 |brk=>exact q
 |cont=>exact q
theorem aI0(h1:PS X st t):PSs X [st] t:=by
 intro pins s σ H D I h
 refine wpAny_execs_cons (dY (h1 pins s σ H D I h) λf s1 q=>?_)
 cases f with
 |next=>exact wpAny_execs_nil q
 |ret v=>exact q
 |brk=>exact q
 |cont=>exact q
theorem Inv.quiet(I:Inv X pins σ H s):interactive X.env=false:=by simp[interactive,I.ok.kind]
def aHd(te:TE):TS:=λD σ H=>te σ H λ_ H1=>D.nx σ H1
theorem aI1(he:PE X e te)(hs:swapsWith e none pos.line X.env=pure false:=by rfl):PS X (.Expr e pos) (aHd te):=by
 intro pins s σ H D I h
 exact wpAny_Expr_any (dY (he pins s σ H _ I h) λv s1 ⟨x,H1,I1,r1,q1⟩=>⟨σ,H1,I1,q1⟩) I.quiet hs
def aKT(te:TE):TS:=λD σ H=>te σ H D.rt
theorem aKU(he:PE X e te):PS X (.Return (some e) pos) (aKT te):=by
 intro pins s σ H D I h
 exact wpAny_Return_some (dY (he pins s σ H _ I h) λv s1 ⟨x,H1,I1,r1,q1⟩=>⟨x,σ,H1,I1,r1,q1⟩)
def aKV(c:TT)(t u:TS):TS:=λD σ H=>c σ H λb H1=>if b=true then t D σ H1 else u D σ H1
theorem aME(hc:PT X c tc)(ha:PSs X a t)(hb:PSs X b u):PS X (.If c a b pos) (aKV tc t u):=by
 intro pins s σ H D I h
 refine wpAny_If (dY (hc pins s σ H _ I h) λd s1 ⟨H1,I1,q1⟩=>?_)
 cases d with
 |true=>exact ha pins s1 σ H1 D I1 q1
 |false=>exact hb pins s1 σ H1 D I1 q1
end
abbrev TG:=V->St->Hp->(St->Hp->Prop)->Prop
abbrev TGs:=List V->St->Hp->(St->Hp->Prop)->Prop
def PG(X:Cx)(target:Expr)(t:TG):Prop:=
 ∀(pins:List (Addr×Obj)) (s:Shared) (σ:St) (H:Hp) (v:V) (u:Value) (Q:St->Hp->Prop),Inv X pins σ H s->RelV v u->t v σ H Q->
  wpAny (model X.prog X.w) X.A (assign target X.env u) (λ_ s'=>∃σ' H',Inv X pins σ' H' s'/\Q σ' H') X.xe s
def PGs(X:Cx)(ts:List Expr)(t:TGs):Prop:=
 ∀(pins:List (Addr×Obj)) (s:Shared) (σ:St) (H:Hp) (vs:List V) (us:List Value) (Q:St->Hp->Prop),Inv X pins σ H s->Vals vs us->t vs σ H Q->
  wpAny (model X.prog X.w) X.A (assignInOrder ((assignEach ts X.env).map (·.2)) us) (λ_ s'=>∃σ' H',Inv X pins σ' H' s'/\Q σ' H') X.xe s
abbrev aKW:=V->V->V->Hp->(Hp->Prop)->Prop
def aHe(X:Cx)(t:aKW):Prop:=
 ∀(pins:List (Addr×Obj)) (s:Shared) (σ:St) (H:Hp) (o i v:V) (ov iv u:Value) (Q:Hp->Prop),Inv X pins σ H s->RelV o ov->RelV i iv->RelV v u->t o i v H Q->
  wpAny (model X.prog X.w) X.A (setItem ov iv u) (λ_ s'=>∃H',Inv X pins σ H' s'/\Q H') X.xe s
abbrev TIp:=V->V->Hp->VK->Prop
def PIp(X:Cx)(op:Operator)(t:TIp):Prop:=
 ∀(pins:List (Addr×Obj)) (s:Shared) (σ:St) (H:Hp) (x y:V) (v u:Value) (Q:VK),Inv X pins σ H s->RelV x v->RelV y u->t x y H Q->
  wpAny (model X.prog X.w) X.A (inplaceOp op v u) (EP X pins σ Q) X.xe s
section
variable{X:Cx}{pos:Pos}
def pA(i:Nat):TG:=λv σ H Q=>Q (σ.set i (some v)) H
theorem aI2{i:Nat}(hN:X.N.Nodup)(hi:X.N[i]?=some x)(hx:Loc X.env.scope x)(hf:X.fn x=true\/X.env.scope.names.lookup x=some .local:=by first|exact .inl rfl|exact .inr rfl|assumption):PG X (.Name x pos) (pA i):=by
 intro pins s σ H v u Q I r h
 exact wpAny_assign_Name (aA1 I hN hi hx r (λs' I'=>⟨_,H,I',h⟩) hf)
def aI3:TGs:=λvs σ H Q=>vs=[]/\Q σ H
def aFG(t:TG)(u:TGs):TGs:=λvs σ H Q=>∃v r,vs=v::r/\t v σ H λσ' H'=>u r σ' H' Q
theorem aI4:PGs X [] aI3:=by
 intro pins s σ H vs us Q I r h
 obtain⟨e,h⟩:=h
 subst e
 cases r
 exact assignInOrder_nil ⟨σ,H,I,h⟩
theorem aHf(h1:PG X e t)(h2:PGs X es u)(hs:(assignEach (e::es) X.env).map (·.2)=assign e X.env::(assignEach es X.env).map (·.2):=by rfl):PGs X (e::es) (aFG t u):=by
 intro pins s σ H vs us Q I r h
 obtain⟨v,vr,e1,h⟩:=h
 subst e1
 cases r with
 |cons r rr=>
  rw[hs]
  refine assignInOrder_cons (dY (h1 pins s σ H _ _ _ I r h) λ_ s1 ⟨σ1,H1,I1,q1⟩=>?_)
  exact h2 pins s1 σ1 H1 _ _ Q I1 rr q1
def aI5(K:W.Frag)(n:Nat)(t:TGs):TG:=λv σ H Q=>∃a xs,v=.ref a/\mY K H a xs/\xs.length=n/\t xs σ H Q
theorem aKX{k:Nat}{n:Nat}(hc:X.calm=true)(h:PGs X es t)(hn:(assignEach es X.env).length=n:=by rfl)(hst:(assignEach es X.env).findIdx? (·.1)=none:=by rfl):PG X (.Tuple es k pos) (aI5 X.K n t):=by
 intro pins s σ H v u Q I r hw
 obtain⟨a,xs,e1,hq,hl,hw⟩:=hw
 subst e1
 cases r
 obtain⟨its,rv,ht,hz⟩:=I.tuple hq
 refine assign_Tuple_tuple (I.ok.hd hc) ht (by simp[hn,<-hl,rv.length]) hst λh' hx=>?_
 have I1:Inv X pins σ H { s with heap:=h' }:=I.kept (t':=s.toks) λb o e=>hx b o (wG (kW e)) e
 exact h pins _ σ H xs _ Q I1 (by simpa using rv) hw
def aKY(to ti:TE)(t:aKW):TG:=λv σ H Q=>to σ H λo H1=>ti σ H1 λi H2=>t o i v H2 λH3=>Q σ H3
theorem aKZ(ho:PE X o to)(hi:PE X i ti)(hs:aHe X t)(ha:∀v,assign (.Subscript o i pos) X.env v=(do
   let ov <-holding [v] (eval o X.env)
   let iv <-holding [v,ov] (eval i X.env)
   standAt pos
   holding [v,ov,iv] (setItem ov iv v)
   release [v,ov,iv] []):=by intro _;rfl):PG X (.Subscript o i pos) (aKY to ti t):=by
 intro pins s σ H v u Q I r h
 rw[ha]
 refine cM (Sc9 (dY (ho pins s σ H _ I h) λov s1 ⟨x,H1,I1,r1,q1⟩=>?_))
 refine cM (Sc9 (dY (hi pins s1 σ H1 _ I1 q1) λiv s2 ⟨y,H2,I2,r2,q2⟩=>?_))
 refine cM (wpAny_standAt (cM (Sc9 (dY (hs pins s2 σ H2 x y v ov iv u _ I2 r1 r2 r q2) λ_ s3 ⟨H3,I3,q3⟩=>?_))))
 exact wpAny_release ⟨σ,H3,I3,q3⟩
def aAC(te:TE)(g:TG):TS:=λD σ H=>te σ H λx H1=>g x σ H1 D.nx
theorem aK0(he:PE X e te)(hg:PG X tg g)(hs:swapsWithSole [tg] e pos.line X.env=pure false:=by rfl)(hw:swappedStores [tg] e X.env=pure none:=by rfl)(h1:(assignEach [tg] X.env).map (·.2)=[assign tg X.env]:=by rfl):PS X (.Assign [tg] e pos) (aAC te g):=by
 intro pins s σ H D I h
 refine wpAny_Assign_stores (dY (he pins s σ H _ I h) λv s1 ⟨x,H1,I1,r1,q1⟩=>?_) hs hw
 rw[h1]
 exact dY (hg pins s1 σ H1 x v _ I1 r1 q1) λ_ s2 q=>q
theorem aK1{i:Nat}(hN:X.N.Nodup)(hi:X.N[i]?=some x)(hx:Loc X.env.scope x)(he:PE X e te)(hs:swapsWith e (some (.Name x pos')) pos.line X.env=pure false:=by rfl)(hf:X.fn x=true\/X.env.scope.names.lookup x=some .local:=by first|exact .inl rfl|exact .inr rfl|assumption) :
  PS X (.Assign [.Name x pos'] e pos) (aAC te (pA i)):=by
 intro pins s σ H D I h
 refine wpAny_Assign_Name (dY (he pins s σ H _ I h) λv s1 ⟨y,H1,I1,r1,q1⟩=>?_) hs
 exact aA1 I1 hN hi hx r1 (λs2 I2=>⟨_,H1,I2,q1⟩) hf
def aHg(to ti te:TE)(tget:V->V->Hp->VK->Prop)(tip:TIp)(tset:aKW):TS:=λD σ H=>to σ H λo H1=>ti σ H1 λi H2=>tget o i H2 λx H3=>te σ H3 λy H4=>tip x y H4 λz H5=>tset o i z H5 λH6=>D.nx σ H6
def aK2(X:Cx)(t:V->V->Hp->VK->Prop):Prop:=
 ∀(pins:List (Addr×Obj)) (s:Shared) (σ:St) (H:Hp) (o i:V) (ov iv:Value) (Q:VK),Inv X pins σ H s->RelV o ov->RelV i iv->t o i H Q->
  wpAny (model X.prog X.w) X.A (getItem ov iv) (EP X pins σ Q) X.xe s
theorem aI6{tget:V->V->Hp->VK->Prop}(ho:PE X o to)(hi:PE X i ti)(hg:aK2 X tget)(he:PE X e te)(hp:PIp X op tip)(hs:aHe X tset)(ha:∀ov iv new,augStore i ov iv new=(do holding [new,ov,iv] (setItem ov iv new);release [new,ov,iv] [];pure .next):=by intros;rfl):PS X (.AugAssign (.Subscript o i tpos) op e pos) (aHg to ti te tget tip tset):=by
 intro pins s σ H D I h
 refine wpAny_AugAssign_SubscriptAny (dY (ho pins s σ H _ I h) λov s1 ⟨x1,H1,I1,r1,q1⟩=>?_) ha
 refine dY (hi pins s1 σ H1 _ I1 q1) λiv s2 ⟨x2,H2,I2,r2,q2⟩=>?_
 refine dY (hg pins s2 σ H2 x1 x2 ov iv _ I2 r1 r2 q2) λold s3 ⟨x3,H3,I3,r3,q3⟩=>?_
 refine dY (he pins s3 σ H3 _ I3 q3) λv s4 ⟨x4,H4,I4,r4,q4⟩=>?_
 refine dY (hp pins s4 σ H4 x3 x4 old v _ I4 r3 r4 q4) λnew s5 ⟨x5,H5,I5,r5,q5⟩=>?_
 exact dY (hs pins s5 σ H5 x1 x2 x5 ov iv new _ I5 r1 r2 r5 q5) λ_ s6 ⟨H6,I6,q6⟩=>⟨σ,H6,I6,q6⟩
def ipI(f:Int->Int->Int):TIp:=λx y H Q=>∃i j,x=.int i/\y=.int j/\Q (.int (f i j)) H
theorem aK3:PIp X .Add (ipI λi j=>i+j):=by
 intro pins s σ H x y v u Q I r1 r2 h
 obtain⟨i,j,e1,e2,q⟩:=h
 subst e1;subst e2
 obtain⟨t,rfl⟩:=r1
 obtain⟨t',rfl⟩:=r2
 exact iadd_int ⟨.int _,H,I.tok _,⟨_,rfl⟩,q⟩
end
section
variable{X:Cx}{pos:Pos}
end
structure It where
 go:Nat->Hp->Prop
 yld:Nat->Hp->V->Hp->Prop
 stop:Nat->Hp->Prop
def qO(X:Cx)(pins:List (Addr×Obj))(H:Hp)(b:Addr):Prop:=
 H b=none/\b≠X.env.locals/\b∉X.fs/\(b∈X.ex\/X.s₀.heap.objs.size<=b)/\(∀x c,X.env.cells.lookup x=some c->c≠b)/\∀p∈X.pn++pins,p.1≠b
theorem Inv.aEO{s:Shared}(I:Inv X pins σ H s)(hb:s.heap.objs.size<=b)(hn:H' b=none):qO X pins H' b:=by
 refine⟨hn,Tj9 (xU I.lt hb),I.aNt hb,.inr (wZ I.sz hb),λx c e z=>?_,λp hp z=>?_⟩
 ·obtain⟨v,q⟩:=I.cell x c e
  exact absurd (xU q.lt (by rw[z];exact hb)) (Rq9 _)
 ·exact absurd (xU (kW (I.pin p hp).1) (by rw[z];exact hb)) (Rq9 _)
structure Turn(P:Program)(w:World)(K:W.Frag)(tg:Expr)(J:It)(fp:List Addr)(it:Addr)(tn:Nat->Heap->Prop):Prop where
 mem:it∈fp
 obj:∀i h,tn i h->∀b∈fp,∃o,h.get? b=some o/\∀v,o.data≠.cell v
 keep:∀i h h',tn i h->(∀b∈fp,∀o,h.get? b=some o->h'.get? b=some o)->tn i h'
 item:∀(X:Cx),X.prog=P->X.w=w->X.K=K->X.calm=true->∀(i:Nat) (pins:List (Addr×Obj)) (s:Shared) (σ:St) (H:Hp) (E:Value->Shared->Prop),Inv X pins σ H s->(∀b∈fp,qO X pins H b)->tn i s.heap->J.go i H->
  wpAny (model P w) X.A (pyNext (.ref it)) (λr s1=>∃u,r=some u/\
   wpAny (model P w) X.A (letOwnedTupleGo tg (.ref it) u) (λ_ s2=>∃x H',Inv X pins σ H' s2/\RelV x u/\J.yld i H x H'/\tn (i+1) s2.heap/\∀b∈fp,H' b=none) E s1) E s
 done:∀(X:Cx),X.prog=P->X.w=w->X.K=K->X.calm=true->∀(i:Nat) (pins:List (Addr×Obj)) (s:Shared) (σ:St) (H:Hp) (E:Value->Shared->Prop),Inv X pins σ H s->(∀b∈fp,qO X pins H b)->tn i s.heap->J.stop i H->
  wpAny (model P w) X.A (pyNext (.ref it)) (λr s1=>r=none/\Inv X pins σ H s1) E s
 self:∀(A:Around) (i:Nat) (s:Shared) (Q:Value->Shared->Prop) (E:Value->Shared->Prop),tn i s.heap->Q (.ref it) s->wpAny (model P w) A (pyIter (.ref it)) Q E s
abbrev TI:=St->Hp->(It->Hp->Prop)->Prop
def PIE(X:Cx)(pins:List (Addr×Obj))(σ:St)(tg:Expr)(R:It->Hp->Prop)(itv:Value)(s2:Shared):Prop:=
 ∃(it:Addr) (fp:List Addr) (tn:Nat->Heap->Prop) (J:It) (H':Hp),itv=.ref it/\Inv X pins σ H' s2/\Turn X.prog X.w X.K tg J fp it tn/\tn 0 s2.heap/\(∀b∈fp,qO X pins H' b)/\R J H'
def PI(X:Cx)(tg iter:Expr)(wi:TI):Prop:=
 ∀(pins:List (Addr×Obj)) (s:Shared) (σ:St) (H:Hp) (R:It->Hp->Prop),Inv X pins σ H s->wi σ H R->
  wpAny (model X.prog X.w) X.A (eval iter X.env) (λv s1=>wpAny (model X.prog X.w) X.A (pyIter v) (PIE X pins σ tg R) X.xe s1) X.xe s
theorem aFH{E:Value->Shared->Prop}{s:Shared}{o:Obj}{Q:Unit->Shared->Prop}(ho:s.heap.get? it=some o)(hc:o.cls=.type n)(hd:o.data=.fields vs)(hn:["enumerate","zip","dict_itemiterator","dict_reverseitemiterator","odict_iterator","itertools.zip_longest","itertools.pairwise"].contains n=false)(hQ:Q () s):wpAny M A (letOwnedTupleGo tg (.ref it) u) Q E s:=by
 unfold letOwnedTupleGo
 cases tg <;> first
  |exact jY hQ
  |(cases u <;> first
    |exact jY hQ
    |(
      refine cM (wpAny_load ho ?_)
      rw[hc,hd]
      show wpAny M A (if (["enumerate","zip","dict_itemiterator","dict_reverseitemiterator","odict_iterator","itertools.zip_longest","itertools.pairwise"].contains n && vs[0]? == some (rawInt _))=true then _ else _) Q E s
      rw[fQ (by intro h;rw[hn,Ru9] at h;cases h)]
      exact jY hQ))
def Itl(K:W.Frag)(a:Addr):It:=
 ⟨λi H=>∃xs x,bQ K H a xs/\xs[i]?=some x,λi H x H'=>H'=H/\∀xs,bQ K H a xs->xs[i]?=some x,λi H=>∃xs,bQ K H a xs/\xs.length<=i⟩
def Itt(K:W.Frag)(a:Addr):It:=
 ⟨λi H=>∃xs x,mY K H a xs/\xs[i]?=some x,λi H x H'=>H'=H/\∀xs,mY K H a xs->xs[i]?=some x,λi H=>∃xs,mY K H a xs/\xs.length<=i⟩
def Itr(lo:Int)(n:Nat):It:=⟨λi _=>i < n,λi H x H'=>H'=H/\x=.int (lo+i),λi _=>n<=i⟩
theorem aGk{P:Program}{w:World}{K:W.Frag}{tg:Expr}(a it:Addr):Turn P w K tg (Itl K a) [it] it (λi h=>h.IsListIter it a i) where
 mem:=by simp
 obj:=λi h st b hb=>by
  have e:b=it:=by simpa using hb
  subst e
  obtain⟨o,e,c,d⟩:=st
  exact⟨o,e,λv z=>by rw[d] at z;cases z⟩
 keep:=λi h h' st k=>st.at λo e=>k it (by simp) o e
 item:=by
  intro X hP hw hK hc i pins s σ H E I hf st hg
  subst hP hw hK
  obtain⟨xs,x,hq,hx⟩:=hg
  obtain⟨its,rv,p,hz⟩:=I.list hq
  obtain⟨u,hu,ru⟩:=rv.get hx
  obtain⟨f0,f1,f2,f3,f4,f5⟩:=hf it (by simp)
  refine wpAny_pyNext_list_item st p.isList (x:=u) (by simpa using hu) λh' st' sb=>?_
  have I1:Inv X pins σ H { s with heap:=h' }:=I.turned (t':=s.toks) (λb o hb e=>(sb.2 b hb).trans e) f0 f1 f3 f4 f5
  obtain⟨o,e,c,d⟩:=id st'
  exact⟨u,rfl,aFH (s:={ s with heap:=h' }) e c d (by decide) ⟨x,H,I1,ru,⟨rfl,λys hy=>by rw[I.aA2 hy hq];exact hx⟩,st',λb hb=>(hf b hb).1⟩⟩
 done:=by
  intro X hP hw hK hc i pins s σ H E I hf st hg
  subst hP hw hK
  obtain⟨xs,hq,hx⟩:=hg
  obtain⟨its,rv,p,hz⟩:=I.list hq
  obtain⟨f0,f1,f2,f3,f4,f5⟩:=hf it (by simp)
  have hl:=rv.length
  exact wpAny_pyNext_list_end (I.ok.hd hc) st p.isList (by simp;omega) λh' eb=>⟨rfl,I.turned (t':=s.toks) (λb o hb e=>eb b o hb e) f0 f1 f3 f4 f5⟩
 self:=λ_ _ _ _ _ st h=>wpAny_pyIter_listiter st h
theorem aEP{P:Program}{w:World}{K:W.Frag}{tg:Expr}(a it:Addr):Turn P w K tg (Itt K a) [it] it (λi h=>h.IsTupleIter it a i) where
 mem:=by simp
 obj:=λi h st b hb=>by
  have e:b=it:=by simpa using hb
  subst e
  obtain⟨o,e,c,d⟩:=st
  exact⟨o,e,λv z=>by rw[d] at z;cases z⟩
 keep:=λi h h' st k=>st.at λo e=>k it (by simp) o e
 item:=by
  intro X hP hw hK hc i pins s σ H E I hf st hg
  subst hP hw hK
  obtain⟨xs,x,hq,hx⟩:=hg
  obtain⟨its,rv,p,hz⟩:=I.tuple hq
  obtain⟨u,hu,ru⟩:=rv.get hx
  obtain⟨f0,f1,f2,f3,f4,f5⟩:=hf it (by simp)
  refine wpAny_pyNext_tuple_item st (show s.heap.IsTuple a its.toArray from p) (x:=u) (by simpa using hu) λh' st' sb=>?_
  have I1:Inv X pins σ H { s with heap:=h' }:=I.turned (t':=s.toks) (λb o hb e=>(sb.2 b hb).trans e) f0 f1 f3 f4 f5
  obtain⟨o,e,c,d⟩:=id st'
  exact⟨u,rfl,aFH (s:={ s with heap:=h' }) e c d (by decide) ⟨x,H,I1,ru,⟨rfl,λys hy=>by rw[I.aCd hy hq];exact hx⟩,st',λb hb=>(hf b hb).1⟩⟩
 done:=by
  intro X hP hw hK hc i pins s σ H E I hf st hg
  subst hP hw hK
  obtain⟨xs,hq,hx⟩:=hg
  obtain⟨its,rv,p,hz⟩:=I.tuple hq
  obtain⟨f0,f1,f2,f3,f4,f5⟩:=hf it (by simp)
  have hl:=rv.length
  exact wpAny_pyNext_tuple_end (I.ok.hd hc) st (show s.heap.IsTuple a its.toArray from p) (by simp;omega) λh' eb=>⟨rfl,I.turned (t':=s.toks) (λb o hb e=>eb b o hb e) f0 f1 f3 f4 f5⟩
 self:=λ_ _ _ _ _ st h=>wpAny_pyIter_tupleiter st h
theorem aEQ{P:Program}{w:World}{K:W.Frag}{tg:Expr}(it:Addr)(lo:Int)(n:Nat):Turn P w K tg (Itr lo n) [it] it (λi h=>IsRangeIter h it (lo+(i:Nat)*1) ((n:Int) - (i:Nat)) 1) where
 mem:=by simp
 obj:=λi h st b hb=>by
  have e:b=it:=by simpa using hb
  subst e
  exact⟨_,st,λv z=>by
   have z':Data.fields _=Data.cell v:=z
   cases z'⟩
 keep:=λi h h' st k=>k it (by simp) _ st
 item:=by
  intro X hP hw hK hc i pins s σ H E I hf st hg
  subst hP hw hK
  obtain⟨f0,f1,f2,f3,f4,f5⟩:=hf it (by simp)
  have W:=Walks.range (prog:=X.prog) (w:=X.w) (I.ok.hd hc) it lo 1 n
  refine W.item i s _ _ hg st λv h' tk hv st' kk=>?_
  obtain⟨t,rfl⟩:=hv
  have I1:Inv X pins σ H { s with heap:=h',toks:=tk }:=I.turned (λb o hb e=>kk b o (by simpa using hb) e) f0 f1 f3 f4 f5
  refine⟨_,rfl,aFH (s:={ s with heap:=h',toks:=tk }) (n:="range_iterator") st' rfl rfl (by decide) ⟨.int (lo+i),H,I1,⟨t,?_⟩,⟨rfl,rfl⟩,st',λb hb=>(hf b hb).1⟩⟩
  rw[Int.mul_one]
 done:=by
  intro X hP hw hK hc i pins s σ H E I hf st hg
  subst hP hw hK
  obtain⟨f0,f1,f2,f3,f4,f5⟩:=hf it (by simp)
  exact wpAny_pyNext_range_end (I.ok.hd hc) st (by have:n<=i:=hg;omega) λh' eb=>⟨rfl,I.turned (t':=s.toks) (λb o hb e=>eb b o hb e) f0 f1 f3 f4 f5⟩
 self:=λ_ _ _ _ _ st h=>wpAny_pyIter_rangeiter st h
end L2
namespace L2
open PySem PySem.Spec PyProof.Rows
section
variable{X:Cx}{tg:Expr}
def aHh(K:W.Frag)(tl:TE):TI:=λσ H R=>tl σ H λx H1=>∃a,x=.ref a/\(∃xs,bQ K H1 a xs)/\R (Itl K a) H1
def aK4(K:W.Frag)(tl:TE):TI:=λσ H R=>tl σ H λx H1=>∃a,x=.ref a/\(∃xs,mY K H1 a xs)/\R (Itt K a) H1
theorem aI7{l:Expr}{tl:TE}(hl:PE X l tl):PI X tg l (aHh X.K tl):=by
 intro pins s σ H R I h
 refine dY (hl pins s σ H _ I h) λv s1 ⟨x,H1,I1,r1,q1⟩=>?_
 obtain⟨a,e,⟨xs,hq⟩,q⟩:=q1
 subst e
 cases r1
 obtain⟨its,rv,p,hz⟩:=I1.list hq
 refine wpAny_pyIter_list p.isList ?_
 refine⟨s1.heap.objs.size,[s1.heap.objs.size],_,_,H1,rfl,I1.kept (t':=s1.toks) λb o e=>vG _ e,aGk a _,⟨_,Qz9 _ rfl,rfl,rfl⟩,λb hb=>?_,q⟩
 have e:b=s1.heap.objs.size:=by simpa using hb
 subst e
 exact I1.aEO (iI _) (I1.hok.fresh (iI _))
theorem aK5{l:Expr}{tl:TE}(hl:PE X l tl):PI X tg l (aK4 X.K tl):=by
 intro pins s σ H R I h
 refine dY (hl pins s σ H _ I h) λv s1 ⟨x,H1,I1,r1,q1⟩=>?_
 obtain⟨a,e,⟨xs,hq⟩,q⟩:=q1
 subst e
 cases r1
 obtain⟨its,rv,p,hz⟩:=I1.tuple hq
 refine wpAny_pyIter_tuple (show s1.heap.IsTuple a its.toArray from p) ?_
 refine⟨s1.heap.objs.size,[s1.heap.objs.size],_,_,H1,rfl,I1.kept (t':=s1.toks) λb o e=>vG _ e,aEP a _,⟨_,Qz9 _ rfl,rfl,rfl⟩,λb hb=>?_,q⟩
 have e:b=s1.heap.objs.size:=by simpa using hb
 subst e
 exact I1.aEO (iI _) (I1.hok.fresh (iI _))
theorem aDN{s:Shared}{R:It->Hp->Prop}{E:Value->Shared->Prop}{lo hi:Int}{t u v:Tok}{tk:Nat}(I:Inv X pins σ H s)(h1:-(2 ^ 62)<=lo)(h2:lo < 2 ^ 62)(h3:-(2 ^ 62)<=hi)(h4:hi < 2 ^ 62)(q:R (Itr lo (hi - lo).toNat) H):wpAny (model X.prog X.w) X.A (pyIter (.ref s.heap.objs.size)) (PIE X pins σ tg R) E { s with heap:=s.heap.push { cls:=.type "range",data:=.fields #[.int lo t,.int hi u,.int 1 v] },toks:=tk }:=by
 refine wpAny_pyIter_range (IsRange.new ..) (small_one h1 h2 h3 h4) ?_
 have I1:Inv X pins σ H { s with heap:=s.heap.push { cls:=.type "range",data:=.fields #[.int lo t,.int hi u,.int 1 v] },toks:=tk }:=I.kept λb o e=>vG _ e
 refine⟨(s.heap.push { cls:=.type "range",data:=.fields #[.int lo t,.int hi u,.int 1 v] }).objs.size,[(s.heap.push { cls:=.type "range",data:=.fields #[.int lo t,.int hi u,.int 1 v] }).objs.size],_,_,H,rfl,
  I1.kept (t':=tk) λb o e=>vG _ e,aEQ _ lo (hi - lo).toNat,?_,λb hb=>?_,q⟩
 ·have e1:lo+((0:Nat):Int)*1=lo:=by simp
  have e2:(((hi - lo).toNat:Nat):Int) - ((0:Nat):Int)=Builtin.Range.rangeSize lo hi 1:=by rw[rangeSize_one];split <;> omega
  show IsRangeIter _ _ (lo+((0:Nat):Int)*1) ((((hi - lo).toNat:Nat):Int) - ((0:Nat):Int)) 1
  rw[e1,e2]
  exact Qz9 _ rfl
 ·have e:b=(s.heap.push { cls:=.type "range",data:=.fields #[.int lo t,.int hi u,.int 1 v] }).objs.size:=by simpa using hb
  subst e
  exact I1.aEO (iI _) (I1.hok.fresh (iI _))
def aFI(ta:TA):TI:=λσ H R=>ta σ H λvs H1=>∃j:Int,vs=[.int j]/\-(2 ^ 62)<=j/\j < 2 ^ 62/\R (Itr 0 j.toNat) H1
def aFJ(ta:TA):TI:=λσ H R=>ta σ H λvs H1=>∃i j:Int,vs=[.int i,.int j]/\(-(2 ^ 62)<=i/\i < 2 ^ 62/\-(2 ^ 62)<=j/\j < 2 ^ 62)/\R (Itr i (j - i).toNat) H1
theorem aGl(hg:Gl X "range")(hm:X.mg "range" = none)(ha:PA X [a] ta)(hs:starEach [a] X.env=[(false,eval a X.env)]:=by rfl):PI X tg (.Call (.Name "range" p) [a] [] pos) (aFI ta):=by
 intro pins s σ H R I h
 refine Call_ (zD I hg hm boot_range (PyProof.Rows.callWith_type1 (dY (ha pos pins s σ H _ I h) λus s1 ⟨vs,H1,I1,r1,q1⟩=>?_) hs rfl))
 obtain⟨j,e,q1,q2,q⟩:=q1
 subst e
 cases r1 with
 |cons r rr=>
  cases rr
  obtain⟨t,rfl⟩:=r
  exact call_range_1 (aDN I1 (by omega) (by omega) q1 q2 (by simpa using q))
theorem aGm(hg:Gl X "range")(hm:X.mg "range" = none)(ha:PA X [a,b] ta)(hs:starEach [a,b] X.env=[(false,eval a X.env),(false,eval b X.env)]:=by rfl)(hs2:starEach [b] X.env=[(false,eval b X.env)]:=by rfl) :
  PI X tg (.Call (.Name "range" p) [a,b] [] pos) (aFJ ta):=by
 intro pins s σ H R I h
 refine Call_ (zD I hg hm boot_range (PyProof.Rows.callWith_type1 (dY (ha pos pins s σ H _ I h) λus s1 ⟨vs,H1,I1,r1,q1⟩=>?_) (by rw[hs,hs2]) (by rw[hs2];rfl)))
 obtain⟨i,j,e,⟨q1,q2,q3,q4⟩,q⟩:=q1
 subst e
 cases r1 with
 |cons r rr=>
  cases rr with
  |cons r' rr=>
   cases rr
   obtain⟨t,rfl⟩:=r
   obtain⟨t',rfl⟩:=r'
   exact call_range_2 (aDN I1 q1 q2 q3 q4 q)
def aK6(wi:TI)(g:TG)(tb:TS):TS:=λD σ H=>wi σ H λJ H1=>∃W:Nat->Nat->St->Hp->Prop,(∃m,W 0 m σ H1)/\∀i m σ H,W i m σ H->
 (J.stop i H/\D.nx σ H)\/(J.go i H/\∃N:St->Hp->Prop,(∀σ' H',N σ' H'->∃m',m' < m/\W (i+1) m' σ' H')/\∀x H',J.yld i H x H'->g x σ H' λσ2 H2=>tb { D with nx:=N,ct:=N,bk:=D.nx } σ2 H2)
def zE(fp:List Addr)(h:Heap):List (Addr×Obj):=fp.filterMap λb=>(h.get? b).map λo=>(b,o)
theorem kZ{h:Heap}(hb:b∈fp)(e:h.get? b=some o):(b,o)∈zE fp h:=List.mem_filterMap.mpr ⟨b,hb,by rw[e];rfl⟩
theorem aGn{h:Heap}{p:Addr×Obj}(hp:p∈zE fp h):p.1∈fp/\h.get? p.1=some p.2:=by
 obtain⟨b,hb,e⟩:=List.mem_filterMap.mp hp
 cases q:h.get? b with
 |none=>rw[q] at e;cases e
 |some o=>
  rw[q] at e
  have e':(b,o)=p:=Option.some.inj e
  subst e'
  exact⟨hb,q⟩
theorem Inv.pinned{s:Shared}(I:Inv X pins σ H s)(hf:∀b∈fp,qO X pins H b)(ho:∀b∈fp,∃o,s.heap.get? b=some o/\∀v,o.data≠.cell v):Inv X (pins++zE fp s.heap) σ H s:=
 I.vH λp hp=>(Rb9.mp hp).elim (λz=>I.pin p (xT _ z)) λz=>by
  obtain⟨hb,e⟩:=aGn z
  obtain⟨f0,f1,f2,_⟩:=hf p.1 hb
  obtain⟨o,e',d⟩:=ho p.1 hb
  rw[e] at e';cases e'
  exact⟨e,f0,f1,f2,d⟩
theorem Inv.uB(I:Inv X (pins++pl) σ H s):Inv X pins σ H s:=I.vH λp hp=>I.pin p (xT _ (Ro9 _ hp))
theorem aK7(hp:PassesOwn (model X.prog X.w) X.A X.env X.xe)(hc:X.calm=true)(hi:PI X tg iter wi)(hg:PG X tg g)(hb:PSs X body tb)(hs:∀x,foldedSetIterable iter X.env x=pure x:=by intro _;rfl):PS X (.For tg iter body [] pos) (aK6 wi g tb):=by
 intro pins s σ H D I h
 refine wpAny_For (dY (hi pins s σ H _ I h) λv s1 h1=>dY h1 λitv s2 h2=>?_) hs
 obtain⟨it,fp,tn,J,H2,e,I2,T,st2,f2,W,⟨m0,w0⟩,turn⟩:=h2
 subst e
 have stat:∀{H':Hp},(∀b∈fp,H' b=none)->∀b∈fp,qO X pins H' b:=λhn b hb=>⟨hn b hb,(f2 b hb).2⟩
 refine codeAny_forLoop_any (λn s'=>∃i σ' H',Inv X pins σ' H' s'/\tn i s'.heap/\(∀b∈fp,H' b=none)/\W i n σ' H') ?_ m0 ⟨0,σ,H2,I2,st2,λb hb=>(f2 b hb).1,w0⟩
 rintro n s3 ⟨i,σ3,H3,I3,st3,fr3,w3⟩
 rcases turn i n σ3 H3 w3 with ⟨stop,qn⟩|⟨go,N,hN,step⟩
 ·refine wpAny_passesOwn hp (dY (T.done X rfl rfl rfl hc i pins s3 σ3 H3 X.xe I3 (stat fr3) st3 stop) λr s4 ⟨hr,I4⟩=>?_)
  subst hr
  exact wpAny_execs_nil ⟨σ3,H3,I4,qn⟩
 ·refine wpAny_passesOwn hp (dY (T.item X rfl rfl rfl hc i pins s3 σ3 H3 X.xe I3 (stat fr3) st3 go) λr s4 ⟨u,hr,h4⟩=>?_)
  subst hr
  refine wpAny_passesOwn hp (dY h4 λ_ s5 ⟨x,H5,I5,r5,y5,st5,fr5⟩=>?_)
  have I5':=I5.pinned (stat fr5) (T.obj _ _ st5)
  refine wpAny_passesOwn hp (dY (hg _ s5 σ3 H5 x u _ I5' r5 (step x H5 y5)) λ_ s6 ⟨σ6,H6,I6,q6⟩=>?_)
  refine wpAny_passesOwn hp (dY (hb _ s6 σ6 H6 _ I6 q6) λf s7 q7=>?_)
  have again:∀{σ7:St} {H7:Hp},Inv X (pins++zE fp s5.heap) σ7 H7 s7->N σ7 H7->∃m,m < n/\∃i σ' H',Inv X pins σ' H' s7/\tn i s7.heap/\(∀b∈fp,H' b=none)/\W i m σ' H':=λ{σ7 H7} I7 n7=>by
   obtain⟨m',hm,w7⟩:=hN σ7 H7 n7
   refine⟨m',hm,i+1,σ7,H7,I7.uB,T.keep _ _ _ st5 λb hb o e=>(I7.pin (b,o) (xT _ (xT _ (kZ hb e)))).1,λb hb=>?_,w7⟩
   obtain⟨o,e,d⟩:=T.obj _ _ st5 b hb
   exact(I7.pin (b,o) (xT _ (xT _ (kZ hb e)))).2.1
  cases f with
  |next=>obtain⟨σ7,H7,I7,n7⟩:=q7;exact again I7 n7
  |cont=>obtain⟨σ7,H7,I7,n7⟩:=q7;exact again I7 n7
  |brk=>obtain⟨σ7,H7,I7,q7⟩:=q7;exact⟨σ7,H7,I7.uB,q7⟩
  |ret v=>obtain⟨x7,σ7,H7,I7,r7,q7⟩:=q7;exact⟨x7,σ7,H7,I7.uB,r7,q7⟩
end
theorem aHi{K:W.Frag}{a:Addr}{xs:List V}{g:TG}{tb:TS}{D:Ends}{σ:St}{H:Hp}(Pv:Nat->St->Hp->Prop)(h0:Pv 0 σ H)(hl:∀i σ H,i<=xs.length->Pv i σ H->bQ K H a xs)
  (hs:∀i x σ H,xs[i]?=some x->Pv i σ H->g x σ H λσ2 H2=>tb { D with nx:=Pv (i+1),ct:=Pv (i+1),bk:=D.nx } σ2 H2) (hd:∀σ H,Pv xs.length σ H->D.nx σ H) :
  ∃W:Nat->Nat->St->Hp->Prop,(∃m,W 0 m σ H)/\∀i m σ H,W i m σ H->
   ((Itl K a).stop i H/\D.nx σ H)\/((Itl K a).go i H/\∃N:St->Hp->Prop,(∀σ' H',N σ' H'->∃m',m' < m/\W (i+1) m' σ' H')/\∀x H',(Itl K a).yld i H x H'->g x σ H' λσ2 H2=>tb { D with nx:=N,ct:=N,bk:=D.nx } σ2 H2):=by
 refine⟨λi m σ H=>m=xs.length - i/\i<=xs.length/\Pv i σ H,⟨xs.length,by simp,Sp9 _,h0⟩,?_⟩
 rintro i m σ H ⟨rfl,hi,p⟩
 have q:=hl i σ H hi p
 by_cases hlt:i < xs.length
 ·refine .inr ⟨⟨xs,xs[i],q,by simp[hlt]⟩,Pv (i+1),λσ' H' p'=>⟨xs.length - (i+1),by omega,rfl,hlt,p'⟩,λx H' y=>?_⟩
  obtain⟨e,y⟩:=y
  subst e
  exact hs i x σ _ (y xs q) p
 ·have e:i=xs.length:=by omega
  subst e
  exact .inl ⟨⟨xs,q,iI _⟩,hd σ H p⟩
theorem aI8{K:W.Frag}{a:Addr}{xs:List V}{g:TG}{tb:TS}{D:Ends}{σ:St}{H:Hp}(Pv:Nat->St->Hp->Prop)(h0:Pv 0 σ H)(hl:∀i σ H,i<=xs.length->Pv i σ H->mY K H a xs)
  (hs:∀i x σ H,xs[i]?=some x->Pv i σ H->g x σ H λσ2 H2=>tb { D with nx:=Pv (i+1),ct:=Pv (i+1),bk:=D.nx } σ2 H2) (hd:∀σ H,Pv xs.length σ H->D.nx σ H) :
  ∃W:Nat->Nat->St->Hp->Prop,(∃m,W 0 m σ H)/\∀i m σ H,W i m σ H->
   ((Itt K a).stop i H/\D.nx σ H)\/((Itt K a).go i H/\∃N:St->Hp->Prop,(∀σ' H',N σ' H'->∃m',m' < m/\W (i+1) m' σ' H')/\∀x H',(Itt K a).yld i H x H'->g x σ H' λσ2 H2=>tb { D with nx:=N,ct:=N,bk:=D.nx } σ2 H2):=by
 refine⟨λi m σ H=>m=xs.length - i/\i<=xs.length/\Pv i σ H,⟨xs.length,by simp,Sp9 _,h0⟩,?_⟩
 rintro i m σ H ⟨rfl,hi,p⟩
 have q:=hl i σ H hi p
 by_cases hlt:i < xs.length
 ·refine .inr ⟨⟨xs,xs[i],q,by simp[hlt]⟩,Pv (i+1),λσ' H' p'=>⟨xs.length - (i+1),by omega,rfl,hlt,p'⟩,λx H' y=>?_⟩
  obtain⟨e,y⟩:=y
  subst e
  exact hs i x σ _ (y xs q) p
 ·have e:i=xs.length:=by omega
  subst e
  exact .inl ⟨⟨xs,q,iI _⟩,hd σ H p⟩
theorem aGo{lo:Int}{n:Nat}{g:TG}{tb:TS}{D:Ends}{σ:St}{H:Hp}(Pv:Nat->St->Hp->Prop)(h0:Pv 0 σ H)
  (hs:∀i σ H,i < n->Pv i σ H->g (.int (lo+i)) σ H λσ2 H2=>tb { D with nx:=Pv (i+1),ct:=Pv (i+1),bk:=D.nx } σ2 H2) (hd:∀σ H,Pv n σ H->D.nx σ H) :
  ∃W:Nat->Nat->St->Hp->Prop,(∃m,W 0 m σ H)/\∀i m σ H,W i m σ H->
   ((Itr lo n).stop i H/\D.nx σ H)\/((Itr lo n).go i H/\∃N:St->Hp->Prop,(∀σ' H',N σ' H'->∃m',m' < m/\W (i+1) m' σ' H')/\∀x H',(Itr lo n).yld i H x H'->g x σ H' λσ2 H2=>tb { D with nx:=N,ct:=N,bk:=D.nx } σ2 H2):=by
 refine⟨λi m σ H=>m=n - i/\i<=n/\Pv i σ H,⟨n,by simp,Sp9 _,h0⟩,?_⟩
 rintro i m σ H ⟨rfl,hi,p⟩
 by_cases hlt:i < n
 ·refine .inr ⟨hlt,Pv (i+1),λσ' H' p'=>⟨n - (i+1),by omega,rfl,hlt,p'⟩,λx H' y=>?_⟩
  obtain⟨e,y⟩:=y
  subst e y
  exact hs i σ _ hlt p
 ·have e:i=n:=by omega
  subst e
  exact .inl ⟨iI _,hd σ H p⟩
end L2
namespace L2
open PySem PySem.Spec PyProof.Rows
abbrev R2:=V->V->Hp->VK->Prop
def pU(X:Cx)(f:Value->Value->Sem Value)(r:R2):Prop:=
 ∀(pins:List (Addr×Obj)) (s:Shared) (σ:St) (H:Hp) (x y:V) (v u:Value) (Q:VK),Inv X pins σ H s->RelV x v->RelV y u->r x y H Q->
  wpAny (model X.prog X.w) X.A (f v u) (EP X pins σ Q) X.xe s
def UnR(X:Cx)(f:Value->Sem Value)(r:V->Hp->VK->Prop):Prop:=
 ∀(pins:List (Addr×Obj)) (s:Shared) (σ:St) (H:Hp) (x:V) (v:Value) (Q:VK),Inv X pins σ H s->RelV x v->r x H Q->
  wpAny (model X.prog X.w) X.A (f v) (EP X pins σ Q) X.xe s
def eR(X:Cx)(f:Value)(r:List V->Hp->VK->Prop):Prop:=
 ∀(pins:List (Addr×Obj)) (s:Shared) (σ:St) (H:Hp) (xs:List V) (us:List Value) (Q:VK),Inv X pins σ H s->Vals xs us->r xs H Q->
  wpAny (model X.prog X.w) X.A (call f us) (EP X pins σ Q) X.xe s
def tOp(r:R2)(ta tb:TE):TE:=λσ H Q=>ta σ H λx H1=>tb σ H1 λy H2=>r x y H2 Q
def tUn(r:V->Hp->VK->Prop)(ta:TE):TE:=λσ H Q=>ta σ H λx H1=>r x H1 Q
def rI(C:Int->Int->Prop)(g:Int->Int->V):R2:=λx y H Q=>∃i j,x=.int i/\y=.int j/\C i j/\Q (g i j) H
def rI0(g:Int->Int->V):R2:=λx y H Q=>∃i j,x=.int i/\y=.int j/\Q (g i j) H
def rU(g:Int->V):V->Hp->VK->Prop:=λx H Q=>∃i,x=.int i/\Q (g i) H
section
variable{X:Cx}{a b c:Expr}{ta tb tc:TE}{pos:Pos}
theorem aK8(ha:PE X a ta)(hb:PE X b tb){R:V->V->Hp->Prop}(I:Inv X pins σ H s)(h:ta σ H λx H1=>tb σ H1 λy H2=>R x y H2){Q:Value->Shared->Prop}{f:Value->Value->Sem Value}(hf:∀v u s2 x y H2,Inv X pins σ H2 s2->RelV x v->RelV y u->R x y H2->wpAny (model X.prog X.w) X.A (f v u) Q X.xe s2) :
  wpAny (model X.prog X.w) X.A (eval a X.env) (λv s₁=>wpAny (model X.prog X.w) X.A (eval b X.env) (λu s₂=>wpAny (model X.prog X.w) X.A (f v u) Q X.xe s₂) X.xe s₁) X.xe s:=by
 refine dY (ha pins s σ H _ I h) λv s1 ⟨x,H1,I1,r1,q1⟩=>?_
 refine dY (hb pins s1 σ H1 _ I1 q1) λu s2 ⟨y,H2,I2,r2,q2⟩=>?_
 exact hf v u s2 x y H2 I2 r1 r2 q2
theorem aMF(ho:pU X (binaryOp op) r)(ha:PE X a ta)(hb:PE X b tb):PE X (.BinOp a op b pos) (tOp r ta tb):=by
 intro pins s σ H Q I h
 exact wpAny_BinOp (aK8 ha hb I h λv u s2 x y H2 I2 rx ry q=>ho pins s2 σ H2 x y v u Q I2 rx ry q)
theorem aMG{r:V->Hp->VK->Prop}(ho:UnR X (unaryOp op) r)(ha:PE X a ta):PE X (.UnaryOp op a pos) (tUn r ta):=by
 intro pins s σ H Q I h
 exact UnaryOp_ (dY (ha pins s σ H _ I h) λv s1 ⟨x,H1,I1,r1,q1⟩=>ho pins s1 σ H1 x v Q I1 r1 q1)
theorem opI{f:Value->Value->Sem Value}{C:Int->Int->Prop}{g:Int->Int->Int}
  (rule:∀(i j:Int) (t u:Tok) (s:Shared) (Q:Value->Shared->Prop) (E:Value->Shared->Prop),C i j->Q (.int (g i j) s.toks) { s with toks:=s.toks+1 }->wpAny (model X.prog X.w) X.A (f (.int i t) (.int j u)) Q E s) :
  pU X f (rI C λi j=>.int (g i j)):=by
 intro pins s σ H x y v u Q I rx ry h
 obtain⟨i,j,rfl,rfl,hc,q⟩:=h
 obtain⟨t,rfl⟩:=rx
 obtain⟨t',rfl⟩:=ry
 exact rule i j t t' s _ _ hc ⟨.int (g i j),H,I.tok _,⟨_,rfl⟩,q⟩
theorem aMH{f:Value->Value->Sem Value}{g:Int->Int->Int}
  (rule:∀(i j:Int) (t u:Tok) (s:Shared) (Q:Value->Shared->Prop) (E:Value->Shared->Prop),Q (.int (g i j) s.toks) { s with toks:=s.toks+1 }->wpAny (model X.prog X.w) X.A (f (.int i t) (.int j u)) Q E s) :
  pU X f (rI0 λi j=>.int (g i j)):=by
 intro pins s σ H x y v u Q I rx ry h
 obtain⟨i,j,rfl,rfl,q⟩:=h
 obtain⟨t,rfl⟩:=rx
 obtain⟨t',rfl⟩:=ry
 exact rule i j t t' s _ _ ⟨.int (g i j),H,I.tok _,⟨_,rfl⟩,q⟩
theorem aI9{f:Value->Value->Sem Value}{g:Int->Int->Bool}
  (rule:∀(i j:Int) (t u:Tok) (s:Shared) (Q:Value->Shared->Prop) (E:Value->Shared->Prop),Q (.bool (g i j)) s->wpAny (model X.prog X.w) X.A (f (.int i t) (.int j u)) Q E s) :
  pU X f (rI0 λi j=>.bl (g i j)):=by
 intro pins s σ H x y v u Q I rx ry h
 obtain⟨i,j,rfl,rfl,q⟩:=h
 obtain⟨t,rfl⟩:=rx
 obtain⟨t',rfl⟩:=ry
 exact rule i j t t' s _ _ ⟨.bl (g i j),H,I,rfl,q⟩
def aNv(i j:Int):Prop:=0 < j/\j < 1073741824
def aNw(i j:Int):Prop:=0<=j/\j<=1000000/\i.natAbs < 2 ^ 64
def aHj(i j:Int):Prop:=(-(2 ^ 64) < i/\i < 2 ^ 64)\/(-(2 ^ 64) < j/\j < 2 ^ 64)
theorem aHj.ok{i j:Int}(h:aHj i j):IntMulOk i j:=by
 rcases h with ⟨h1,h2⟩|⟨h1,h2⟩
 ·exact .of_left (intBits_le_64 h1 h2)
 ·exact .of_right (intBits_le_64 h1 h2)
theorem aK9:pU X (binaryOp .Add) (rI0 λi j=>.int (i+j)):=aMH λ_ _ _ _ _ _ _ q=>add_int q
theorem aER:pU X (binaryOp .Sub) (rI0 λi j=>.int (i - j)):=aMH λ_ _ _ _ _ _ _ q=>sub_int q
theorem aLa:pU X (binaryOp .Mult) (rI aHj λi j=>.int (i*j)):=opI λ_ _ _ _ _ _ _ hc q=>mul_int q hc.ok
theorem aFK:pU X (binaryOp .FloorDiv) (rI aNv λi j=>.int (i / j)):=opI λi j _ _ _ _ _ hc q=>by
 have h1:(0:Int) < j:=hc.1
 have h2:j < 1073741824:=hc.2
 exact floordiv_int (by omega) (by rw[Int.fdiv_eq_ediv_of_nonneg i (by omega)];exact q) (.inl (PyProof.noPylong_small (by omega)))
theorem jI:pU X (binaryOp .Mod) (rI (λ_ j=>0 < j) λi j=>.int (i % j)):=opI λi j _ _ _ _ _ hc q=>by
 have h1:(0:Int) < j:=hc
 exact mod_int' (by omega) (by rw[Int.fmod_eq_emod_of_nonneg i (by omega)];exact q)
theorem uC:pU X (binaryOp .Pow) (rI aNw λi j=>.int (i ^ j.toNat)):=opI λ_ _ _ _ _ _ _ hc q=>pow_int_small hc.1 hc.2.1 hc.2.2 q
theorem unI{f:Value->Sem Value}{g:Int->Int}
  (rule:∀(i:Int) (t:Tok) (s:Shared) (Q:Value->Shared->Prop) (E:Value->Shared->Prop),Q (.int (g i) s.toks) { s with toks:=s.toks+1 }->wpAny (model X.prog X.w) X.A (f (.int i t)) Q E s) :
  UnR X f (rU λi=>.int (g i)):=by
 intro pins s σ H x v Q I rx h
 obtain⟨i,rfl,q⟩:=h
 obtain⟨t,rfl⟩:=rx
 exact rule i t s _ _ ⟨.int (g i),H,I.tok _,⟨_,rfl⟩,q⟩
theorem pB:UnR X (unaryOp .USub) (rU λi=>.int (-i)):=unI λ_ _ _ _ _ q=>neg_int q
end
section
variable{X:Cx}{a b c:Expr}{ta tb tc:TE}{pos:Pos}
theorem aLb{pins:List (Addr×Obj)}{σ:St}{H:Hp}{s:Shared}{Q:VK}{k k':Bool}(I:Inv X pins σ H s)(q:Q (.bl k) H)(e:k=k'):EP X pins σ Q (.bool k') s:=by
 subst e
 exact⟨.bl k,H,I,rfl,q⟩
theorem aA3:pU X (compareOp .Lt) (rI0 λi j=>.bl (decide (i < j))):=aI9 λ_ _ _ _ _ _ _ q=>lt_int q
theorem aA4:pU X (compareOp .LtE) (rI0 λi j=>.bl (decide (i<=j))):=aI9 λ_ _ _ _ _ _ _ q=>le_int q
theorem pC:pU X (compareOp .Gt) (rI0 λi j=>.bl (decide (j < i))):=aI9 λ_ _ _ _ _ _ _ q=>gt_int q
theorem aKs:pU X (compareOp .GtE) (rI0 λi j=>.bl (decide (j<=i))):=aI9 λ_ _ _ _ _ _ _ q=>ge_int q
theorem aGp:pU X (compareOp .In) (λx y H Q=>∃i j,x=.str i/\y=.str j/\Q (.bl (!(Builtin.Str.occurrences j i 0 j.length 1).isEmpty)) H):=by
 intro pins s σ H x y v u Q I rx ry h
 obtain⟨i,j,rfl,rfl,q⟩:=h
 obtain⟨t,rfl⟩:=rx
 obtain⟨t',rfl⟩:=ry
 exact in_str (aLb I q rfl)
theorem pU.or{f:Value->Value->Sem Value}{r':R2}(h:pU X f r)(h':pU X f r'):pU X f (λx y H Q=>r x y H Q\/r' x y H Q):=by
 intro pins s σ H x y v u Q I rx ry q
 rcases q with q|q
 ·exact h pins s σ H x y v u Q I rx ry q
 ·exact h' pins s σ H x y v u Q I rx ry q
theorem bB(b:Expr)(h:op≠.In:=by decide)(h2:op≠.NotIn:=by decide):behindInMarks op b=false:=by
 have e1:(op == CmpOp.In)=false:=by cases op <;> first|rfl|exact absurd rfl h
 have e2:(op == CmpOp.NotIn)=false:=by cases op <;> first|rfl|exact absurd rfl h2
 cases b <;> simp[behindInMarks,e1,e2]
theorem aJa(ho:pU X (compareOp op) r)(ha:PE X a ta)(hb:PE X b tb)(hm:behindInMarks op b=false):PE X (.Compare a [op] [b] pos) (tOp r ta tb):=by
 intro pins s σ H Q I h
 exact wpAny_Compare1 (aK8 ha hb I h λv u s2 x y H2 I2 rx ry q=>ho pins s2 σ H2 x y v u Q I2 rx ry q) hm
def aHk(t:TE):TT:=λσ H Q=>t σ H λx H'=>∃k,x=.bl k/\Q k H'
theorem aJb(ho:pU X (compareOp op) r)(ha:PE X a ta)(hb:PE X b tb)(hm:behindInMarks op b=false):PT X (.Compare a [op] [b] pos) (aHk (tOp r ta tb)):=by
 intro pins s σ H Q I h
 refine wpAny_isTrue_Compare1 (dY (ha pins s σ H _ I h) λv s1 ⟨x,H1,I1,r1,q1⟩=>dY (hb pins s1 σ H1 _ I1 q1) λu s2 ⟨y,H2,I2,r2,q2⟩=>
  dY (ho pins s2 σ H2 x y v u _ I2 r1 r2 q2) λc s3 ⟨z,H3,I3,r3,k,e,q3⟩=>?_) hm
 subst e
 cases r3
 exact wpAny_truthy_bool ⟨H3,I3,q3⟩
def aES(r r':R2)(ta tb tc:TE):TE:=λσ H Q=>ta σ H λx H1=>tb σ H1 λy H2=>r x y H2 λz H3=>∃k,z=.bl k/\
 (if k=true then tc σ H3 λw' H4=>r' y w' H4 Q else Q (.bl false) H3)
theorem aHl(ho:pU X (compareOp op) r)(ho':pU X (compareOp op') r')(ha:PE X a ta)(hb:PE X b tb)(hc:PE X c tc)(hm:lastMarks [op,op'] [b,c]=false:=by with_unfolding_all rfl):PE X (.Compare a [op,op'] [b,c] pos) (aES r r' ta tb tc):=by
 intro pins s σ H Q I h
 refine Compare_chain (dY (ha pins s σ H _ I h) λv s1 ⟨x,H1,I1,r1,q1⟩=>chain_link (dY (hb pins s1 σ H1 _ I1 q1) λu s2 ⟨y,H2,I2,r2,q2⟩=>
  dY (ho pins s2 σ H2 x y v u _ I2 r1 r2 q2) λd s3 ⟨z,H3,I3,r3,k,e,q3⟩=>?_)) hm
 subst e
 cases r3
 refine wpAny_truthy_bool ?_
 cases k with
 |false=>exact ite_ff ⟨.bl false,H3,I3,rfl,q3⟩
 |true=>exact ite_tt (chain_last (dY (hc pins s3 σ H3 _ I3 q3) λw' s4 ⟨z',H4,I4,r4,q4⟩=>ho' pins s4 σ H4 y z' u w' Q I4 r2 r4 q4))
theorem w5:(sizeLine:Nat) < 2 ^ 63:=by rw[Tu9];decide
theorem aET:pU X (binaryOp .Add) (λx y H Q=>∃i j,x=.str i/\y=.str j/\i.length+j.length<=sizeLine/\Q (.str (i++j)) H):=by
 intro pins s σ H x y v u Q I rx ry h
 obtain⟨i,j,rfl,rfl,hz,q⟩:=h
 obtain⟨t,rfl⟩:=rx
 obtain⟨t',rfl⟩:=ry
 exact add_str (λt' tk=>⟨.str (i++j),H,I.tok _,⟨_,rfl⟩,q⟩) hz
theorem vals1(r:Vals [x] us):∃u,us=[u]/\RelV x u:=by
 cases r with
 |cons r1 r2=>cases r2;exact⟨_,rfl,r1⟩
theorem vals2(r:Vals [x,y] us):∃u w',us=[u,w']/\RelV x u/\RelV y w':=by
 cases r with
 |cons r1 r2=>
  cases r2 with
  |cons r3 r4=>cases r4;exact⟨_,_,rfl,r1,r3⟩
theorem aHm:eR X (.builtin "abs") (λxs H Q=>∃i,xs=[.int i]/\Q (.int (if i < 0 then -i else i)) H):=by
 intro pins s σ H xs us Q I r h
 obtain⟨i,rfl,q⟩:=h
 obtain⟨u,rfl,t,rfl⟩:=vals1 r
 exact call_abs_int λu tk=>⟨.int (if i < 0 then -i else i),H,I.tok _,⟨_,rfl⟩,q⟩
theorem aGq(hc:X.calm=true):eR X (.builtin "max") (λxs H Q=>∃i j,xs=[.int i,.int j]/\Q (.int (if j > i then j else i)) H):=by
 intro pins s σ H xs us Q I r h
 obtain⟨i,j,rfl,q⟩:=h
 obtain⟨u,w',rfl,⟨t,rfl⟩,⟨t',rfl⟩⟩:=vals2 r
 refine max_two_ints (I.ok.hd hc) λh' tk k=>⟨_,H,I.kept k,?_,q⟩
 by_cases hj:j > i
 ·rw[gU hj,gU hj];exact⟨_,rfl⟩
 ·rw[fQ hj,fQ hj];exact⟨_,rfl⟩
theorem aGr(hc:X.calm=true):eR X (.builtin "min") (λxs H Q=>∃i j,xs=[.int i,.int j]/\Q (.int (if j < i then j else i)) H):=by
 intro pins s σ H xs us Q I r h
 obtain⟨i,j,rfl,q⟩:=h
 obtain⟨u,w',rfl,⟨t,rfl⟩,⟨t',rfl⟩⟩:=vals2 r
 refine min_two_ints (I.ok.hd hc) λh' tk k=>⟨_,H,I.kept k,?_,q⟩
 by_cases hj:j < i
 ·rw[gU hj,gU hj];exact⟨_,rfl⟩
 ·rw[fQ hj,fQ hj];exact⟨_,rfl⟩
theorem aCT:eR X (.type "str") (λxs H Q=>∃i,xs=[.int i]/\i.natAbs.log2 < 1920/\Q (.str (toString i)) H):=by
 intro pins s σ H xs us Q I r h
 obtain⟨i,rfl,hz,q⟩:=h
 obtain⟨u,rfl,t,rfl⟩:=vals1 r
 exact PySem.P.str_of_int hz ⟨.str _,H,I.tok _,⟨_,rfl⟩,q⟩
def aMI(K:W.Frag)(x:V)(H:Hp)(n:Nat):Prop:=
 match x with
 |.str y=>y.length<=sizeLine/\n=y.length
 |.byt y=>y.size<=sizeLine/\n=y.size
 |.ref p=>(∃xs,bQ K H p xs/\n=xs.length)\/∃xs,mY K H p xs/\n=xs.length
 |_=>False
theorem aHn:eR X (.builtin "len") (λxs H Q=>∃x n,xs=[x]/\aMI X.K x H n/\Q (.int n) H):=by
 intro pins s σ H xs us Q I r h
 obtain⟨x,n,rfl,e,q⟩:=h
 obtain⟨u,rfl,rx⟩:=vals1 r
 have hl:=w5
 have hs:sizeLine=16777216:=Tu9
 cases x with
 |str y=>
  obtain⟨t,rfl⟩:=rx
  obtain⟨hy,e'⟩ : y.length<=sizeLine/\n=y.length:=e
  subst e'
  exact len_str (by omega) ⟨.int _,H,I.tok _,⟨_,rfl⟩,q⟩
 |byt y=>
  obtain⟨t,rfl⟩:=rx
  obtain⟨hy,e'⟩ : y.size<=sizeLine/\n=y.size:=e
  subst e'
  exact PySem.W.len_bytes (by omega) ⟨.int _,H,I.tok _,⟨_,rfl⟩,q⟩
 |ref p=>
  cases rx
  have e':(∃xs,bQ X.K H p xs/\n=xs.length)\/∃xs,mY X.K H p xs/\n=xs.length:=e
  rcases e' with ⟨xs,hx,e'⟩|⟨xs,hx,e'⟩
  ·subst e'
   obtain⟨its,r',pl,hz⟩:=I.list hx
   have hlen:=r'.length
   exact Calls.call_len_list pl.isList (by simp only[mP];omega) ⟨.int xs.length,H,I.tok _,⟨_,by simp only[mP];rw[hlen]⟩,q⟩
  ·subst e'
   obtain⟨its,r',pl,hz⟩:=I.tuple hx
   have hlen:=r'.length
   exact len_tuple pl (by simp only[mP];omega) ⟨.int xs.length,H,I.tok _,⟨_,by simp only[mP];rw[hlen]⟩,q⟩
 |_=>exact(show False from e).elim
end
end L2
namespace L2
open PySem PySem.Spec PyProof.Rows
structure aGs(h:Heap)(x dx C:Addr)(mA:Str->Option Value):Prop where
 obj:h.get? x=some (PySem.W.instObj C dx)
 ns:h.Ns1 dx mA
 ne:dx≠x
theorem aGt{h:Heap}{mA:Str->Option Value}(n:h.Ns1 dx mA):∃od,h.get? dx=some od/\∀name,PySem.W.lookIn name od=some (mA name):=by
 obtain⟨o,es,ep,ho,hd,hk,_,hm⟩:=n
 refine⟨o,ho,λname=>?_⟩
 have e:=hm name
 unfold nsFind findBy at e
 rw[<-Array.find?_toList] at e
 unfold PySem.W.lookIn
 rw[hd]
 dsimp only
 split
 ·rename_i y q
  rw[q] at e
  exact congrArg some e
 ·rename_i q
  rw[q] at e
  have a:es.toList.any (·.refKey)=false:=by
   rw[List.any_eq_false]
   intro y hy
   obtain⟨z,t,hkey⟩:=hk y (Array.mem_toList_iff.mp hy)
   simp[DictEntry.refKey,hkey]
  have a':¬es.toList.any (·.refKey)=true:=by rw[a];exact Qu9
  rw[fQ a']
  exact congrArg some e
theorem aGs.look{mA:Str->Option Value}(I:aGs h x dx C mA):∃od,PySem.W.InstAt h x (PySem.W.instObj C dx) C (some od)/\∀name,PySem.W.lookIn name od=some (mA name):=
 let ⟨od,ho,hl⟩:=aGt I.ns
 ⟨od,⟨I.obj,rfl,rfl,ho⟩,hl⟩
section
variable{prog:Program}{w:World}{A:Around}{E:Value->Shared->Prop}{s:Shared}{K:W.Frag}{x dx C f:Addr}{mA:Str->Option Value}{name:Str}{v:Value}
theorem get_map{expr:Bool}{Q:Value->Shared->Prop}(X:K.In s.heap)(I:aGs s.heap x dx C mA)(hg:PySem.W.plainGet K C name=true)(hh:PySem.W.hasDictIn K C=true)
  (ha:W.findIn K (.ref C) name=some none) (hv:mA name=some v) (hv':PySem.W.handedIn v=true) (h:Q v { s with toks:=s.toks+1 }) :
  wpAny (model prog w) A (getAttr (.ref x) name expr) Q E s:=by
 obtain⟨od,J,hl⟩:=I.look
 exact PySem.W.get_value X J (PySem.W.plainGet_of hg).1 (PySem.W.findObj_own hh ha rfl (by rw[hl,hv])) hv' h
theorem aJc{ns:List Str}{Q:Unit->Shared->Prop}(X:K.In s.heap)(I:aGs s.heap x dx C mA)
  (hs:PySem.W.findIn K (.ref C) "__setattr__" = some (some (.builtin "object.__setattr__"))) (hp:PySem.W.plainOver K C=true) (ht:PySem.W.takerIn K C name=some none) (hh:PySem.W.hasDictIn K C=true)
  (hw:PySem.Within mA ns) (hsz:ns.length<=sizeLine)
  (h:∀h',aGs h' x dx C (λy=>if y=name then some v else mA y)->Heap.SameBut dx s.heap h'->Q () { s with heap:=h',toks:=s.toks+2 }) :
  wpAny (model prog w) A (setAttr (.ref x) name v) Q E s:=by
 obtain⟨od,J,hl⟩:=I.look
 refine PySem.W.set_plain X J hs (PySem.W.osa_open (s:={ s with toks:=s.toks+1 }) (r:=none) X J hp ht λb=>?_)
 obtain⟨cd,hc,hd'⟩:=PySem.W.any_some hh
 have hx:s.heap.get? x=some ⟨.ref C,some dx,.plain,#[]⟩:=I.obj
 refine cM (jY (cM (cM (wpAny_loadPart hx (cM (PySem.W.Looks.here (s:={ s with toks:=s.toks+1 }) (PySem.W.looks_clsIn X hc) ?_))))))
 rw[hd']
 refine jY (a:=some dx) (cM (jY (cM ?_)))
 refine wpAny_nsSet1 (s:={ s with toks:=s.toks+1 }) I.ns λh' hn2 hs2=>?_
 obtain⟨oD,esD,epD,hoD,hdD,hcD⟩:=hn2.count (PySem.Within.cons name v hw)
 refine cM (wpAny_lookBehind hoD (by rw[hdD];exact pastItsLine_dict (wZ hcD (by rw[Re9];omega))) ?_)
 exact jY (h _ ⟨(hs2.2 _ (Ne.symm I.ne)).trans I.obj,hn2,I.ne⟩ hs2)
theorem aDO{R:Result->Shared->Prop}(X:K.In s.heap)(hm:PySem.W.makesIn K C=true)(hi:PySem.W.findIn K (.ref C) "__init__" = some (some (.ref f)))(hf:PySem.W.typeIn K (.ref f)=some (.type "function"))(h:codeAny (model prog w) (A.under (.builtin "type.__call__" ⟨.ref C::vs,kw⟩)) (.call (.ref f) ⟨.ref (s.heap.objs.size+1)::vs,kw⟩) (PySem.W.InitBack (s.heap.objs.size+1) R)
   { s with heap:=(s.heap.push PySem.W.emptyDict).push (PySem.W.instObj C s.heap.objs.size) }) :
  codeAny (model prog w) A (.call (.ref C) ⟨vs,kw⟩) R s:=by
 obtain⟨hh,g,d,t,os⟩:=s
 exact PySem.W.make_core (PySem.W.makes_of X hm) (PySem.W.looks_findIn X hi) (λself=>PySem.W.bind_fn X self hf) (.inl rfl) h
end
def rQ(f:Str)(v:V):List (Str×V)->List (Str×V)
 |[]=>[(f,v)]
 |(g,x)::r=>if g=f then (g,v)::r else (g,x)::rQ f v r
theorem aAc(f g:Str)(v:V):∀fs:List (Str×V),(rQ f v fs).lookup g=if g=f then some v else fs.lookup g
 |[]=>by
  show List.lookup g [(f,v)]=_
  by_cases h:g=f
  ·have hb:(g == f)=true:=beq_iff_eq.mpr h
   simp only[List.lookup,hb,gU h]
  ·have hb:(g == f)=false:=beq_eq_false_iff_ne.mpr h
   simp only[List.lookup,hb,fQ h]
 |(k,x)::r=>by
  have ih:=aAc f g v r
  rw[show rQ f v ((k,x)::r)=(if k=f then (k,v)::r else (k,x)::rQ f v r) from rfl]
  by_cases hk:k=f
  ·rw[gU hk]
   by_cases h:g=k
   ·have hb:(g == k)=true:=beq_iff_eq.mpr h
    simp only[List.lookup,hb,gU (h.trans hk)]
   ·have hb:(g == k)=false:=beq_eq_false_iff_ne.mpr h
    simp only[List.lookup,hb,fQ (λe:g=f=>h (e.trans hk.symm))]
  ·rw[fQ hk]
   by_cases h:g=k
   ·have hb:(g == k)=true:=beq_iff_eq.mpr h
    simp only[List.lookup,hb,fQ (λe:g=f=>hk (h.symm.trans e))]
   ·have hb:(g == k)=false:=beq_eq_false_iff_ne.mpr h
    simp only[List.lookup,hb]
    exact ih
theorem zF(f:Str)(v:V):∀fs:List (Str×V),f∈(rQ f v fs).map (·.1)/\∀g,g∈fs.map (·.1)->g∈(rQ f v fs).map (·.1)
 |[]=>⟨by simp[rQ],λg h=>by simp at h⟩
 |(k,x)::r=>by
  obtain⟨i1,i2⟩:=zF f v r
  rw[show rQ f v ((k,x)::r)=(if k=f then (k,v)::r else (k,x)::rQ f v r) from rfl]
  by_cases hk:k=f
  ·rw[gU hk]
   subst hk
   exact⟨by simp,λg h=>by simpa using h⟩
  ·rw[fQ hk]
   refine⟨?_,λg h=>?_⟩
   ·rw[Sn9]
    exact Qr9 _ i1
   ·rw[Sn9] at h ⊢
    rcases rN.mp h with e|e
    ·exact rN.mpr (.inl e)
    ·exact Qr9 _ (i2 g e)
theorem aAd(f:Str)(v:V):∀fs:List (Str×V),(rQ f v fs).length<=fs.length+1
 |[]=>by simp[rQ]
 |(k,x)::r=>by
  have ih:=aAd f v r
  rw[show rQ f v ((k,x)::r)=(if k=f then (k,v)::r else (k,x)::rQ f v r) from rfl]
  by_cases hk:k=f
  ·rw[gU hk,Re9,Re9];omega
  ·rw[fQ hk,Re9,Re9];omega
theorem aDL.some_of(r:aDL (some v) o):∃u,o=some u/\RelV v u:=by
 cases o with
 |none=>exact(show False from r).elim
 |some u=>exact⟨u,rfl,r⟩
theorem aGu(r:RelV v u):PySem.W.handedIn u=true:=by
 cases v with
 |non=>cases (show u=Value.none from r);rfl
 |bl b=>cases (show u=Value.bool b from r);rfl
 |int i=>obtain⟨t,e⟩:=(show ∃t,u=Value.int i t from r);cases e;rfl
 |str x=>obtain⟨t,e⟩:=(show ∃t,u=Value.str x t from r);cases e;rfl
 |byt b=>obtain⟨t,e⟩:=(show ∃t,u=Value.bytes b t from r);cases e;rfl
 |flt b=>obtain⟨t,e⟩:=(show ∃t,u=Value.float b t from r);cases e;rfl
 |ref a=>cases (show u=Value.ref a from r);rfl
 |ty n=>cases (show u=Value.type n from r);rfl
section
variable{P:Program}{w:World}{H H':Hp}{h h':Heap}{a C dx:Addr}{fs fs':List (Str×V)}
theorem aCU(hok:wA P w H h)(e:H a=some (.ins C dx fs)):∃mA,aGs h a dx C mA/\(∀f,aDL (fs.lookup f) (mA f))/\PySem.Within mA (fs.map (·.1))/\fs.length<=1000/\H dx=some (.own a):=by
 obtain⟨d,z,ne,ob,mA,n,r,q⟩:=(show eE P w H h a (.ins C dx fs) from hok a _ e)
 exact⟨mA,⟨ob,n,ne⟩,r,q,z,d⟩
end
structure Cls(K:W.Frag)(C:Addr):Prop where
 pg:PySem.W.plainGet K C Str.empty=true
 hd:PySem.W.hasDictIn K C=true
 po:PySem.W.plainOver K C=true
 sa:PySem.W.findIn K (.ref C) "__setattr__" = some (some (.builtin "object.__setattr__"))
theorem Cls.get{K:W.Frag}{C:Addr}(c:Cls K C)(f:Str):PySem.W.plainGet K C f=true:=c.pg
def dB(K:W.Frag)(C:Addr)(f:Str):Prop:=W.findIn K (.ref C) f=some none
theorem dB.aMJ{K:W.Frag}{C:Addr}{f:Str}(n:dB K C f):PySem.W.takerIn K C f=some none:=by
 unfold PySem.W.takerIn
 rw[show W.findIn K (.ref C) f=some none from n]
 rfl
section
variable{X:Cx}{pins:List (Addr×Obj)}{σ:St}{H:Hp}{s:Shared}{a C dx:Addr}{fs:List (Str×V)}{f:Str}{v:V}{A:Around}{E:Value->Shared->Prop}
theorem aEU{b:Bool}{Q:Value->Shared->Prop}(I:Inv X pins σ H s)(e:H a=some (.ins C dx fs))(c:Cls X.K C)(n:dB X.K C f)(l:fs.lookup f=some v)
  (h:∀u s',Inv X pins σ H s'->RelV v u->Q u s'):wpAny (model X.prog X.w) A (getAttr (.ref a) f b) Q E s:=by
 obtain⟨mA,O,r,_,_,_⟩:=aCU I.hok e
 obtain⟨u,hu,ru⟩:=aDL.some_of (v:=v) (o:=mA f) (by rw[<-l];exact r f)
 exact get_map I.rP O (c.get f) c.hd n hu (aGu ru) (h u _ (I.tok _) ru)
theorem aEV{Q:Unit->Shared->Prop}(I:Inv X pins σ H s)(e:H a=some (.ins C dx fs))(c:Cls X.K C)(n:dB X.K C f)(hl:fs.length < 1000)(ry:RelV y u)(h:∀s',Inv X pins σ (upd H a (.ins C dx (rQ f y fs))) s'->Q () s'):wpAny (model X.prog X.w) A (setAttr (.ref a) f u) Q E s:=by
 obtain⟨mA,O,r,wi,_,ho⟩:=aCU I.hok e
 have hz:(fs.map (·.1)).length<=sizeLine:=by rw[cC,Tu9];omega
 refine aJc I.rP O c.sa c.po n.aMJ c.hd wi hz λh' O' sb=>h _ ?_
 have hd:∃o,h'.get? dx=some o:=let ⟨o,_,_,e',_⟩:=O'.ns;⟨o,e'⟩
 refine I.write (x:=a) (e:=dx) (by rw[e];exact True.intro) (.inr ho) (λb q hb z=>(sb.2 b hb).trans z) hd ?_
 refine⟨by rw[aU O.ne];exact ho,?_,O.ne,O'.obj,_,O'.ns,λg=>?_,λg hg=>?_⟩
 ·have:=aAd f y fs;omega
 ·show aDL ((rQ f y fs).lookup g) (if g=f then some u else mA g)
  rw[aAc]
  by_cases q:g=f
  ·rw[gU q,gU q];exact ry
  ·rw[fQ q,fQ q];exact r g
 ·by_cases q:g=f
  ·rw[q];exact(zF f y fs).1
  ·refine(zF f y fs).2 g (wi g λz=>hg ?_)
   show(if g=f then some u else mA g)=none
   rw[fQ q];exact z
theorem Inv.made(I:Inv X pins σ H s):Inv X pins σ (upd (upd H s.heap.objs.size (.own (s.heap.objs.size+1))) (s.heap.objs.size+1) (.ins C s.heap.objs.size []))
  { s with heap:=(s.heap.push PySem.W.emptyDict).push (PySem.W.instObj C s.heap.objs.size) }:=by
 have e1:(s.heap.push PySem.W.emptyDict).get? s.heap.objs.size=some PySem.W.emptyDict:=Qz9 s.heap rfl
 have e2:((s.heap.push PySem.W.emptyDict).push (PySem.W.instObj C s.heap.objs.size)).get? (s.heap.objs.size+1)=some (PySem.W.instObj C s.heap.objs.size):=by
  have:=Qz9 (s.heap.push PySem.W.emptyDict) (o:=PySem.W.instObj C s.heap.objs.size) rfl
  rwa[Sx9] at this
 have e3:(s.heap.push PySem.W.emptyDict).Ns s.heap.objs.size (λ_=>none):=⟨PySem.W.emptyDict,#[],_,e1,rfl,(λe he=>absurd he (by simp)),λ_=>rfl⟩
 have I1:=I.laid (a:=s.heap.objs.size) (o:=.own (s.heap.objs.size+1)) (h':=s.heap.push PySem.W.emptyDict) (t':=s.toks) (λb u q=>vG _ q) (iI _) ⟨_,e1⟩
 refine I1.laid (a:=s.heap.objs.size+1) (o:=.ins C s.heap.objs.size []) (t':=s.toks) (λb u q=>vG _ q) (Ty9 (Sx9 _ _)) ?_
 have ne:s.heap.objs.size≠s.heap.objs.size+1:=wG (Se9 _)
 refine⟨by rw[aU ne,aO],Sp9 _,ne,e2,λ_=>none,(Heap.Ns1.of_empty e3).at λo q=>vG _ q,λ_=>True.intro,λy hy=>absurd rfl hy⟩
theorem aJd{Q:Value->Shared->Prop}(hb:attributeBase e f env (eval e env)=eval e env)(h:wpAny (model prog w) A (eval e env) (λo s₁=>wpAny (model prog w) A (getAttr o f true) Q E s₁) E s):wpAny (model prog w) A (eval (.Attribute e f pos) env) Q E s:=
 Attribute_any_ h (by rw[arm_eval_Attribute,hb])
end
def aLc(K:W.Frag)(ta:TE)(f:Str):TE:=λσ H Q=>ta σ H λx H1=>∃a C dx fs v,x=.ref a/\H1 a=some (.ins C dx fs)/\Cls K C/\dB K C f/\fs.lookup f=some v/\Q v H1
def aLd(K:W.Frag)(ta tv:TE)(f:Str):TS:=λD σ H=>tv σ H λy H1=>ta σ H1 λx H2=>∃a C dx fs,x=.ref a/\H2 a=some (.ins C dx fs)/\Cls K C/\dB K C f/\fs.length < 1000/\
 D.nx σ (upd H2 a (.ins C dx (rQ f y fs)))
section
variable{X:Cx}{o e value:Expr}{f:Str}{pos pos' tpos:Pos}{ta tv:TE}
theorem aLe(he:PE X e ta)(hb:attributeBase e f X.env (eval e X.env)=eval e X.env):PE X (.Attribute e f pos) (aLc X.K ta f):=by
 intro pins s σ H Q I h
 refine aJd hb (dY (he pins s σ H _ I h) λu s1 ⟨x,H1,I1,rx,a,C,dx,fs,v,ex,ea,c,n,l,q⟩=>?_)
 subst ex
 obtain rfl:u=Value.ref a:=rx
 exact aEU I1 ea c n l λu' s2 I2 ru=>⟨v,H1,I2,ru,q⟩
theorem aLf(ha:PE X o ta)(hv:PE X value tv)(hs:swapsWith value (some (.Attribute o f pos')) pos.line X.env=pure false):PS X (.Assign [.Attribute o f pos'] value pos) (aLd X.K ta tv f):=by
 intro pins s σ H D I h
 refine plainObj_wpAny_Assign_Attribute (dY (hv pins s σ H _ I h) λu s1 ⟨y,H1,I1,ry,q⟩=>dY (ha pins s1 σ H1 _ I1 q) λov s2 ⟨x,H2,I2,rx,a,C,dx,fs,ex,ea,c,n,l,q2⟩=>?_) hs
 subst ex
 obtain rfl:ov=Value.ref a:=rx
 exact aEV I2 ea c n l ry λs3 I3=>⟨σ,_,I3,q2⟩
end
section
variable{X:Cx}{pins:List (Addr×Obj)}{σ:St}{H:Hp}{s:Shared}{A:Around}{E:Value->Shared->Prop}{Q:Value->Shared->Prop}{c:Value}{b:Bool}
inductive xW (K:W.Frag) (H:Hp):V->Value->Prop where
 |non:xW K H .non (.type "NoneType")
 |bl (x:Bool):xW K H (.bl x) (.type "bool")
 |int (i:Int):xW K H (.int i) (.type "int")
 |str (x:Str):xW K H (.str x) (.type "str")
 |flt (x:UInt64):xW K H (.flt x) (.type "float")
 |lst {a:Addr} {xs:List V} (e:H a=some (.lst xs)):xW K H (.ref a) (.type "list")
 |frz {a:Addr} {o:Obj} {xs:List V} (e:H a=some (.frz o (.lst xs))):xW K H (.ref a) (.type "list")
 |tup {a:Addr} {xs:List V} (e:H a=some (.tup xs)):xW K H (.ref a) (.type "tuple")
 |dK {a:Addr} {kvs:List (Key×V)} (e:H a=some (.dK kvs)):xW K H (.ref a) (.type "dict")
 |dT {a:Addr} {kvs:List (List Key×V)} (e:H a=some (.dT kvs)):xW K H (.ref a) (.type "dict")
 |ins {a C dx:Addr} {fs:List (Str×V)} (e:H a=some (.ins C dx fs)) (cl:Cls K C) (ha:PySem.W.findIn K (.ref C) "__class__" = some (some (.builtin "object.__class__")))
   (hn:PySem.W.specialIn K (.builtin "object.__class__") "__get__" = some (some (.builtin "getset_descriptor.__get__"))) (htk:PySem.W.takesIn K (.builtin "object.__class__")=some true)
   (hm:PySem.W.mroIn K C (.type "object")=some true):xW K H (.ref a) (.ref C)
theorem aCe(I:Inv X pins σ H s)(rx:RelV x u)(ty:xW X.K H x t)(e:PySem.W.kitOne X.K t c=some b)(h:∀tk,Q (.bool b) { s with toks:=tk }) :
  wpAny (model X.prog X.w) A (call (.builtin "isinstance") [u,c]) Q E s:=by
 cases ty with
 |non=>cases (show u=Value.none from rx);exact PySem.W.kia_one PySem.W.kitx_none I.rP True.intro e (λz=>nomatch z) h
 |bl y=>cases (show u=Value.bool y from rx);exact PySem.W.kia_one PySem.W.kitx_bool I.rP True.intro e (λz=>nomatch z) h
 |int i=>obtain⟨t,q⟩:=(show ∃t,u=Value.int i t from rx);cases q;exact PySem.W.kia_one PySem.W.kitx_int I.rP True.intro e (λz=>nomatch z) h
 |str y=>obtain⟨t,q⟩:=(show ∃t,u=Value.str y t from rx);cases q;exact PySem.W.kia_one PySem.W.kitx_str I.rP True.intro e (λz=>nomatch z) h
 |flt y=>obtain⟨t,q⟩:=(show ∃t,u=Value.float y t from rx);cases q;exact PySem.W.kia_one PySem.W.kitx_float I.rP True.intro e (λz=>nomatch z) h
 |@lst a xs ea=>
  cases (show u=Value.ref a from rx)
  obtain⟨_,_,n,_,h1⟩:=(show eE X.prog X.w H s.heap a (.lst xs) from I.hok a _ ea)
  exact PySem.W.kia_one PySem.W.kitx_list I.rP ⟨_,h1,rfl⟩ e (λz=>nomatch z) h
 |@frz a ob xs ea=>
  cases (show u=Value.ref a from rx)
  obtain⟨_,_,_,n,_,h1⟩:=(show eE X.prog X.w H s.heap a (.frz ob (.lst xs)) from I.hok a _ ea)
  exact PySem.W.kia_one PySem.W.kitx_list I.rP ⟨_,h1,rfl⟩ e (λz=>nomatch z) h
 |@tup a xs ea=>
  cases (show u=Value.ref a from rx)
  obtain⟨_,_,_,p⟩:=(show eE X.prog X.w H s.heap a (.tup xs) from I.hok a _ ea)
  obtain⟨o,h1,h2,_⟩:=p
  exact PySem.W.kia_one PySem.W.kitx_tuple I.rP ⟨o,h1,h2⟩ e (λz=>nomatch z) h
 |@dK a kvs ea=>
  cases (show u=Value.ref a from rx)
  obtain⟨_,_,vs,_,p⟩:=(show eE X.prog X.w H s.heap a (.dK kvs) from I.hok a _ ea)
  obtain⟨o,es,ep,h1,h2,_⟩:=p
  exact PySem.W.kia_one PySem.W.kitx_dict I.rP ⟨o,h1,h2.1⟩ e (λz=>nomatch z) h
 |@dT a kvs ea=>
  cases (show u=Value.ref a from rx)
  obtain⟨_,_,xs,_,o,es,ep,h1,h2,_⟩:=(show eE X.prog X.w H s.heap a (.dT kvs) from I.hok a _ ea)
  exact PySem.W.kia_one PySem.W.kitx_dict I.rP ⟨o,h1,h2.1⟩ e (λz=>nomatch z) h
 |@ins a C dx fs ea cl ha hn htk hm=>
  cases (show u=Value.ref a from rx)
  obtain⟨mA,O,_⟩:=aCU I.hok ea
  obtain⟨od,J,_⟩:=O.look
  exact PySem.W.kia_one (PySem.W.kitx_own (cl.get _) cl.hd ha hn htk hm) I.rP J e (λz=>nomatch z) h
end
end L2
namespace L2
open PySem PySem.Spec PyProof.Rows
structure gS(k:Nat)(A:Around):Prop where
 hd:A.handled=none
 dp:A.depth+3*k+5 < recursionLimit
 un:A.units+16*k+200 < cLine
theorem gS.mono{j k:Nat}(r:gS k A)(h:j<=k):gS j A:=⟨r.hd,by have:=r.dp;omega,by have:=r.un;omega⟩
theorem gS.deeper{k:Nat}{A:Around}(r:gS (k+1) A)(env:Env):gS k (A.deeper env):=
 ⟨r.hd,by have:=r.dp;show A.depth+1+3*k+5 < _;omega,by have:=r.un;show A.units+3+16*k+200 < _;omega⟩
theorem aEW{A:Around}:(A.under (.builtin "type.__call__" ⟨.ref C::us,kw⟩)).depth=A.depth+1:=by
 first|rfl|simp[Around.under,Code.weight,Code.isCreation,Code.isGuard,Code.isCaller,Code.frames,Code.isFrame,guardIds]
theorem aEX{A:Around}:(A.under (.builtin "type.__call__" ⟨.ref C::us,kw⟩)).units=A.units+1:=by
 first|rfl|simp[Around.under,Code.cUnits,Code.frames,Code.isFrame]
theorem gS.make{k:Nat}{A:Around}(r:gS (k+1) A)(C:Addr)(us:List Value)(kw:List (Str×Value)):gS k (A.under (.builtin "type.__call__" ⟨.ref C::us,kw⟩)):=
 ⟨r.hd,by have:=r.dp;rw[aEW];omega,by have:=r.un;rw[aEX];omega⟩
theorem gS.depth{k:Nat}{A:Around}(r:gS k A):A.depth < recursionLimit:=by have:=r.dp;omega
theorem gS.units{k:Nat}{A:Around}(r:gS k A):A.units+64 < cLine:=by have:=r.un;omega
def rR:TA:=λ_ H Q=>Q [] H
def bN(ta:TE)(tr:TA):TA:=λσ H Q=>ta σ H λx H1=>tr σ H1 λxs H2=>Q (x::xs) H2
section
variable{X:Cx}{e:Expr}{es:List Expr}{te:TE}{t:TA}{pos:Pos}
theorem rS:PA X [] rR:=λ_ _ _ _ H Q I h=>Calls.spliced_nil ⟨[],H,I,.nil,h⟩
theorem aJe(ha:PE X e te)(hr:PA X es t)(hs:starEach (e::es) X.env=(false,eval e X.env)::starEach es X.env:=by rfl):PA X (e::es) (bN te t):=by
 intro pos pins s σ H Q I h
 rw[hs]
 show wpAny _ _ (spliced ((false,eval e X.env)::backTo pos (starEach es X.env))) _ _ s
 refine Calls.spliced_cons (dY (ha pins s σ H _ I h) λu s1 ⟨x,H1,I1,r1,q1⟩=>?_)
 exact dY (hr pos pins s1 σ H1 _ I1 q1) λus s2 ⟨xs,H2,I2,r2,q2⟩=>⟨x::xs,H2,I2,.cons r1 r2,q2⟩
def aGv(t:TA):TE:=λσ H Q=>t σ H λxs H1=>xs.length<=sizeLine/\∀p,H1 p=none->Q (.ref p) (upd H1 p (.tup xs))
def w6(t:TA):TE:=λσ H Q=>t σ H λxs H1=>xs.length<=sizeLine/\∀p,H1 p=none->Q (.ref p) (upd H1 p (.lst xs))
theorem aHo{x1}(h:PA X es t):PE X (.Tuple es x1 pos) (aGv t):=by
 intro pins s σ H Q I hq
 refine wpAny_Tuple_spliced (dY (h pos pins s σ H _ I hq) λus s1 ⟨xs,H1,I1,r,z,q⟩=>⟨by rw[<-r.length];exact z,?_⟩)
 have hf:H1 s1.heap.objs.size=none:=I1.hok.fresh (iI _)
 refine⟨.ref s1.heap.objs.size,upd H1 s1.heap.objs.size (.tup xs),I1.laid (t':=s1.toks) (λb u e=>vG _ e) (iI _) ?_,rfl,q _ hf⟩
 exact⟨z,us,r,⟨_,Qz9 _ rfl,rfl,_,rfl⟩⟩
theorem w9(h:PA X es t):PE X (.List es pos) (w6 t):=by
 intro pins s σ H Q I hq
 refine wpAny_List_spliced (dY (h pos pins s σ H _ I hq) λus s1 ⟨xs,H1,I1,r,z,q⟩=>⟨by rw[<-r.length];exact z,?_⟩)
 have hf:H1 s1.heap.objs.size=none:=I1.hok.fresh (iI _)
 refine⟨.ref s1.heap.objs.size,upd H1 s1.heap.objs.size (.lst xs),I1.laid (t':=s1.toks) (λb u e=>vG _ e) (iI _) ?_,rfl,q _ hf⟩
 exact⟨z,us,0,r,Qz9 _ rfl⟩
end
abbrev Sp:=List V->Hp->VK->XK->Prop
abbrev CXT:=List Env->Hp->Shared->XK->Value->Shared->Prop
structure aEY(P:Program)(w:World)(K:W.Frag)(mg:Str->Option Value)(base:Heap)(A:Around)(outer:List Env)(s:Shared)(H:Hp):Prop where
 frames:A.frames=some outer
 mod:Mod K mg base
 bs:∀b o,base.get? b=some o->s.heap.get? b=some o/\H b=none
 bsz:base.objs.size<=s.heap.objs.size
 rO:s.heap.FunFrames base outer
 frf:∀b∈wH outer,H b=none
 hok:wA P w H s.heap
 bare:AllBare s.gens
def CE(outer:List Env)(P:Program)(w:World)(H:Hp)(s:Shared)(Q:VK)(u:Value)(s':Shared):Prop:=
 ∃v H',s'.os=s.os/\AllBare s'.gens/\Un (wH outer) [] H H' s.heap s'.heap/\wA P w H' s'.heap/\RelV v u/\Q v H'
def CR(CX:CXT)(outer:List Env)(P:Program)(w:World)(H:Hp)(s:Shared)(Q:VK)(E:XK)(r:Result)(s':Shared):Prop:=
 match r with
 |.ok (.ret u)=>CE outer P w H s Q u s'
 |.ok _=>False
 |.error e=>CX outer H s E e s'
structure cT(P:Program)(w:World)(K:W.Frag)(mg:Str->Option Value)(base:Heap)(CX:CXT)(k:Nat)(f:Addr)(fd:FuncData)(ps:List Str)(sp:Sp):Prop where
 len:∀vs H Q E,sp vs H Q E->vs.length=ps.length
 run:∀(A:Around) (outer:List Env) (s:Shared) (H:Hp) (args:Args) (us:List Value) (vs:List V) (Q:VK) (E:XK),gS k A->aEY P w K mg base A outer s H->BindsTo s fd args (ps.zip us)->Vals vs us->sp vs H Q E->
  codeAny (model P w) A (.call (.ref f) args) (CR CX outer P w H s Q E) s
theorem aEY.make{P:Program}{w:World}{K:W.Frag}{mg:Str->Option Value}{base:Heap}{A:Around}{outer:List Env}{s:Shared}{H:Hp}(e:aEY P w K mg base A outer s H)(C:Addr)(us:List Value)(kw:List (Str×Value)) :
  aEY P w K mg base (A.under (.builtin "type.__call__" ⟨.ref C::us,kw⟩)) outer s H:=⟨by first|exact e.frames|(simpa [Around.under,Code.envs,Code.isFrame,pushEnvs] using e.frames),e.mod,e.bs,e.bsz,e.rO,e.frf,e.hok,e.bare⟩
section
variable{X:Cx}{pins:List (Addr×Obj)}{σ:St}{H:Hp}{s s':Shared}
theorem Inv.aHp(I:Inv X pins σ H s):aEY X.prog X.w X.K X.mg X.base X.A X.stack s H:=
 ⟨I.ok.frames,I.ok.mod,I.bs,wZ I.ok.bsz I.sz,I.stack,I.aAP,I.hok,I.bare⟩
theorem Inv.after(I:Inv X pins σ H s)(h:CE X.stack X.prog X.w H s Q u s'):EP X pins σ Q u s':=by
 obtain⟨v,H',os,bare,un,hok,r,q⟩:=h
 obtain⟨hh,g,d,t,os'⟩:=s'
 obtain rfl:os'=s.os:=os
 exact⟨v,H',I.call (h':=hh) (g':=g) (d':=d) (t':=t) (ch:=[]) un hok bare (λb z=>absurd z (by simp)),r,q⟩
end
def aDP(sp:Sp)(dvs:List V)(E:XK)(t:TA):TE:=λσ H Q=>t σ H λvs H1=>sp (vs++dvs) H1 Q E
def aDQ(C:Addr)(sp:Sp)(dvs:List V)(E:XK)(t:TA):TE:=λσ H Q=>t σ H λvs H1=>∀x dx,H1 x=none->H1 dx=none->dx≠x->
 sp (.ref x::(vs++dvs)) (upd (upd H1 dx (.own x)) x (.ins C dx [])) (λv H2=>v=.non/\Q (.ref x) H2) E
def Binds(K:W.Frag)(fd:FuncData)(ps:List Str)(ds:List Value):Prop:=
 ∀(s:Shared) (us:List Value),K.In s.heap->(us++ds).length=ps.length->BindsTo s fd ⟨us,[]⟩ (ps.zip (us++ds))
theorem Binds.all{K:W.Frag}{fd:FuncData}{ps:List Str}(h:∀us:List Value,us.length=ps.length->bindArgs fd ⟨us,[]⟩=pure (ps.zip us)):Binds K fd ps []:=λs us _ hl=>by
 rw[Ry9] at hl ⊢
 exact .of_eq (h us hl)
def Passes(CX:CXT)(X:Cx)(E:XK):Prop:=∀(pins:List (Addr×Obj)) (σ:St) (H:Hp) (s:Shared) (e:Value) (s':Shared),Inv X pins σ H s->CX X.stack H s E e s'->X.xe e s'
section
variable{X:Cx}{CX:CXT}{k:Nat}{f C:Addr}{fd:FuncData}{ps:List Str}{sp:Sp}{dvs:List V}{ds:List Value}{E:XK}{x m:Str}{p pos apos:Pos}{e o:Expr}{es:List Expr}{ta:TE}{t:TA}
theorem aLg(F:cT X.prog X.w X.K X.mg X.base CX k f fd ps sp)(hr:gS k X.A)(hb:Binds X.K fd ps ds)(hd:Vals dvs ds)(hx:Passes CX X E)(I:Inv X pins σ H s)(r:Vals vs us)(h:sp (vs++dvs) H Q E):wpAny (model X.prog X.w) X.A (call (.ref f) us) (EP X pins σ Q) X.xe s:=by
 have r2:Vals (vs++dvs) (us++ds):=r.append hd
 have hl:(us++ds).length=ps.length:=by rw[<-r2.length];exact F.len _ _ _ _ h
 refine wpAny_call (codeAny_mono (F.run X.A X.stack s H ⟨us,[]⟩ (us++ds) (vs++dvs) Q E hr I.aHp (hb s us I.rP hl) r2 h) λr s' hq=>?_)
 cases r with
 |error e=>exact hx pins σ H s e s' I hq
 |ok fl=>
  cases fl with
  |ret u=>exact I.after hq
  |next=>exact False.elim hq
  |brk=>exact False.elim hq
  |cont=>exact False.elim hq
theorem aJf(F:cT X.prog X.w X.K X.mg X.base CX k f fd ps sp)(hr:gS k X.A)(hg:Gl X x)(hm:X.mg x=some (.ref f))(hk:W.keepIn X.K (.ref f)=true)(hb:Binds X.K fd ps ds)(hd:Vals dvs ds)(hx:Passes CX X E)
  (ha:PA X (e::es) t) (hdb:(x == ("__debug__" : Str))=false:=by decide) (he:starEach (e::es) X.env=(false,eval e X.env)::starEach es X.env:=by rfl) (hpl:(backTo pos (starEach es X.env)).any (·.1)=false:=by rfl) :
  PE X (.Call (.Name x p) (e::es) [] pos) (aDP sp dvs E t):=by
 intro pins s σ H Q I h
 refine wpAny_Call_Name_kw (nO I hg hm ?_ hdb)
 refine PySem.W.callWith_K (h₀:=X.base) I.ok.mod.kin hk (dY (ha pos pins s σ H _ I h) λus s1 ⟨vs,H1,I1,r,q⟩=>⟨I1.rP,?_⟩) he hpl
 exact aLg F hr hb hd hx I1 r q
structure Mk(K:W.Frag)(C f:Addr):Prop where
 makes:PySem.W.makesIn K C=true
 init:PySem.W.findIn K (.ref C) "__init__" = some (some (.ref f))
 fn:PySem.W.isFn K (.ref f)=true
 kp:W.keepIn K (.ref C)=true
theorem aHq{H:Hp}{Q:VK}(M:Mk X.K C f)(F:cT X.prog X.w X.K X.mg X.base CX k f fd ps sp)(hr:gS (k+1) X.A)(hb:Binds X.K fd ps ds)(hd:Vals dvs ds)(hx:Passes CX X E)(I:Inv X pins σ H s)(r:Vals vs us)(h:∀x dx,H x=none->H dx=none->dx≠x->sp (.ref x::(vs++dvs)) (upd (upd H dx (.own x)) x (.ins C dx [])) (λv H2=>v=.non/\Q (.ref x) H2) E) :
  wpAny (model X.prog X.w) X.A (call (.ref C) us) (EP X pins σ Q) X.xe s:=by
 have hq:=h (s.heap.objs.size+1) s.heap.objs.size (I.hok.fresh (Tv9 _)) (I.hok.fresh (iI _)) (wG (Se9 _))
 have I2:=Inv.made (C:=C) I
 have r2:Vals (V.ref (s.heap.objs.size+1)::(vs++dvs)) (Value.ref (s.heap.objs.size+1)::(us++ds)):=.cons rfl (r.append hd)
 have hl:(Value.ref (s.heap.objs.size+1)::us++ds).length=ps.length:=by
  have e:=r2.length
  rw[F.len _ _ _ _ hq] at e
  exact e.symm
 refine wpAny_call (aDO (f:=f) I.rP M.makes M.init (beq_iff_eq.mp M.fn) (codeAny_mono (F.run _ X.stack _ _ ⟨Value.ref (s.heap.objs.size+1)::us,[]⟩ (Value.ref (s.heap.objs.size+1)::(us++ds)) _ _ E (hr.make C us [])
  (I2.aHp.make C us []) (hb _ (Value.ref (s.heap.objs.size+1)::us) I2.rP hl) r2 hq) λr s' hq'=>?_))
 cases r with
 |error e=>exact hx pins σ _ _ e s' I2 hq'
 |ok fl=>
  cases fl with
  |ret u=>
   obtain⟨v,H',I3,rv,ev,q3⟩:=I2.after hq'
   subst ev
   exact⟨rv,⟨V.ref (s.heap.objs.size+1),H',I3,rfl,q3⟩⟩
  |next=>exact False.elim hq'
  |brk=>exact False.elim hq'
  |cont=>exact False.elim hq'
theorem aJg(M:Mk X.K C f)(F:cT X.prog X.w X.K X.mg X.base CX k f fd ps sp)(hr:gS (k+1) X.A)(hg:Gl X x)(hm:X.mg x=some (.ref C))(hb:Binds X.K fd ps ds)(hd:Vals dvs ds)(hx:Passes CX X E)
  (ha:PA X (e::es) t) (hdb:(x == ("__debug__" : Str))=false:=by decide) (he:starEach (e::es) X.env=(false,eval e X.env)::starEach es X.env:=by rfl) (hpl:(backTo pos (starEach es X.env)).any (·.1)=false:=by rfl) :
  PE X (.Call (.Name x p) (e::es) [] pos) (aDQ C sp dvs E t):=by
 intro pins s σ H Q I h
 refine wpAny_Call_Name_kw (nO I hg hm ?_ hdb)
 refine PySem.W.callWith_K (h₀:=X.base) I.ok.mod.kin M.kp (dY (ha pos pins s σ H _ I h) λus s1 ⟨vs,H1,I1,r,q⟩=>⟨I1.rP,?_⟩) he hpl
 exact aHq M F hr hb hd hx I1 r q
end
section
variable{X:Cx}{CX:CXT}{k:Nat}{f C:Addr}{fd:FuncData}{ps ks:List Str}{sp:Sp}{E:XK}{x m:Str}{p pos apos kpos:Pos}{e o:Expr}{es:List Expr}{kws:List Keyword}{te ta:TE}{t tk:TA}{nm:Option Str}
variable{g:List Value->List Value->List Value}{gV:List V->List V->List V}
end
structure bK(N P:List Str)(sc:Scope):Prop where
 kind:sc.kind=.function:=by exact rfl
 co:sc.isCoroutine=false:=by exact rfl
 gen:sc.isGenerator=false:=by exact rfl
 nd:N.Nodup:=by decide +kernel
 pre:N.take P.length=P:=by exact rfl
 par:∀x∈P,sc.names.lookup x=some .local\/sc.names.lookup x=some .cell:=by decide +kernel
 nofree:∀y∈sc.names,y.2≠.free:=by decide +kernel
theorem aCf{kindOf:Str->Option NameKind}:∀{binds:List (Str×Value)}{m:Str->Option Value},(∀v,(x,v)∉binds)->bindL kindOf binds m x=m x
 |[],_,_=>rfl
 |(n,v)::r,m,h=>by
  unfold bindL
  rw[aCf λw hw=>h w (Qr9 _ hw)]
  split
  ·have:x≠n:=by rintro rfl;exact h v Rf9
   simp[this]
  ·rfl
theorem aCg{kindOf:Str->Option NameKind}:∀{binds:List (Str×Value)}{m:Str->Option Value},(∀v,(x,v)∉binds)->bindC kindOf binds m x=m x
 |[],_,_=>rfl
 |(n,v)::r,m,h=>by
  unfold bindC
  rw[aCg λw hw=>h w (Qr9 _ hw)]
  split
  ·rfl
  ·have:x≠n:=by rintro rfl;exact h v Rf9
   simp[this]
theorem aCh{kindOf:Str->Option NameKind}:∀{P:List Str}{vs:List Value}{i:Nat}{m:Str->Option Value},P.Nodup->P[i]?=some x->vs[i]?=some v->kindOf x=some .local->
  bindL kindOf (P.zip vs) m x=some v
 |[],_,_,_,_,h,_,_=>by simp at h
 |_::_,[],_,_,_,_,h,_=>by simp at h
 |p::P,w::vs,0,m,nd,h1,h2,hk=>by
  simp at h1 h2;subst h1;subst h2
  show bindL kindOf ((p,w)::P.zip vs) m p=_
  unfold bindL
  rw[aCf λv hv=>(Tw9.mp nd).1 (List.of_mem_zip hv).1,gU hk]
  simp
 |p::P,w::vs,i+1,m,nd,h1,h2,hk=>by
  show bindL kindOf ((p,w)::P.zip vs) m x=_
  unfold bindL
  exact aCh (i:=i) (Tw9.mp nd).2 (by simpa using h1) (by simpa using h2) hk
theorem aCi{kindOf:Str->Option NameKind}:∀{P:List Str}{vs:List Value}{i:Nat}{m:Str->Option Value},P.Nodup->P[i]?=some x->vs[i]?=some v->kindOf x≠some .local->
  bindC kindOf (P.zip vs) m x=some v
 |[],_,_,_,_,h,_,_=>by simp at h
 |_::_,[],_,_,_,_,h,_=>by simp at h
 |p::P,w::vs,0,m,nd,h1,h2,hk=>by
  simp at h1 h2;subst h1;subst h2
  show bindC kindOf ((p,w)::P.zip vs) m p=_
  unfold bindC
  rw[aCg λv hv=>(Tw9.mp nd).1 (List.of_mem_zip hv).1,fQ hk]
  simp
 |p::P,w::vs,i+1,m,nd,h1,h2,hk=>by
  show bindC kindOf ((p,w)::P.zip vs) m x=_
  unfold bindC
  exact aCi (i:=i) (Tw9.mp nd).2 (by simpa using h1) (by simpa using h2) hk
def start(N:List Str)(vs:List V):St:=vs.map some++List.replicate (N.length - vs.length) none
def mQ(CX:CXT)(P:Program)(w:World)(K:W.Frag)(mg:Str->Option Value)(base:Heap)(N:List Str)(qual:Str)(scope:Scope)(f:Addr)(cd:Value)(A:Around)(outer:List Env)(s:Shared)(H:Hp)(E:XK):Cx where
 prog:=P
 w:=w
 K:=K
 mg:=mg
 base:=base
 A:=A.deeper (envOfC qual scope s.heap.objs.size f cd)
 N:=N
 s₀:=s
 H₀:=H
 env:=envOfC qual scope s.heap.objs.size f cd
 outer:=outer
 stack:=envOfC qual scope s.heap.objs.size f cd::outer
 ex:=[]
 calm:=true
 fn:=λ_=>true
 pn:=[]
 xe:=λe s'=>wpAny (model P w) (A.deeper (envOfC qual scope s.heap.objs.size f cd)) (leaving (envOfC qual scope s.heap.objs.size f cd) e) (λ_ s''=>CX outer H s E e s'') (λe' s''=>CX outer H s E e' s'') s'
theorem aDR{sc:Scope}{n:Nat}(h:sc.names.lookup x=some .cell):∃c,(cellsFrom n sc.names []).lookup x=some c:=by
 have q:=PySem.W.cellsFrom_some sc.names n [] (.inl h)
 exact Option.isSome_iff_exists.mp q
theorem aGw{CX:CXT}{P:Program}{w:World}{K:W.Frag}{mg:Str->Option Value}{base:Heap}{N ps:List Str}{qual:Str}{scope:Scope}{f:Addr}{cd:Value}{A:Around}{outer:List Env}{s s1:Shared}{H:Hp}{E:XK}{us:List Value}{vs:List V}
  (S:bK N ps scope) (hd:A.handled=none) (e0:aEY P w K mg base A outer s H) (hl:vs.length=ps.length) (r:Vals vs us)
  (x:InCallC s s.heap.objs.size (bindL (envOfC qual scope s.heap.objs.size f cd).kindOf (ps.zip us) λ_=>none) (cellsFrom (s.heap.objs.size+1) scope.names []) (bindC (envOfC qual scope s.heap.objs.size f cd).kindOf (ps.zip us) λ_=>none) s1) :
  Inv (mQ CX P w K mg base N qual scope f cd A outer s H E) [] (start N vs) H s1:=by
 have hpl:ps.length<=N.length:=by have:=congrArg List.length S.pre;rw[tP] at this;omega
 obtain⟨h1,tk,rfl,hk⟩:=x.done
 have noA:∀b:Addr,b∉(mQ CX P w K mg base N qual scope f cd A outer s H E).ex:=λb z=>absurd (show b∈([]:List Addr) from z) (by simp)
 refine⟨⟨e0.mod,S.kind,rfl,rfl,iI _,λy z c h1 h2=>?_,λy hy=>?_,λy c _ h=>?_,λ_=>hd,Around.frames_deeper e0.frames,.inr ⟨rfl,rfl⟩,λb z=>absurd z (noA b),e0.bs,e0.bsz,λb _ _=>noA b,λb z=>absurd z (noA b),e0.rO,e0.frf⟩,
  rfl,e0.bare,Un.kept hk,⟨_,x.toInCall.ns,λi y v h1 h2 h3=>?_⟩,λy c h=>⟨_,x.cell y c h⟩,e0.hok.fresh (iI _),λy c h=>?_,λp hp=>absurd (show p∈([]:List (Addr×Obj)) from hp) (by simp),e0.hok.kept hk,?_⟩
 ·exact name_of_addr x.apart (PySem.mem_of_lookup h1) (PySem.mem_of_lookup h2)
 ·have hy:scope.names.lookup y=some .cell\/scope.names.lookup y=some .free:=hy
  rcases hy with hy|hy
  ·exact aDR hy
  ·exact absurd rfl (S.nofree _ (PySem.mem_of_lookup hy))
 ·exact Tp9 (x.above y c (PySem.mem_of_lookup h))
 ·have hi:i < vs.length:=by
   unfold start at h2
   by_cases hi:i < vs.length
   ·exact hi
   ·rw[Rd9 (by simpa using hi)] at h2
    rw[Sw9] at h2
    split at h2 <;> cases h2
  have ha:vs[i]?=some v:=by
   unfold start at h2
   rw[Qy9 (by simpa using hi),xV] at h2
   cases e:vs[i]? with
   |none=>rw[e] at h2;cases h2
   |some a=>rw[e] at h2;cases h2;rfl
  obtain⟨u,hu,rv⟩:=r.get ha
  have hp:ps[i]?=some y:=by
   rw[<-S.pre,List.getElem?_take_of_lt (by omega)];exact h1
  have ndP:ps.Nodup:=by rw[<-S.pre];exact S.nd.sublist (List.take_sublist _ _)
  refine⟨u,rv,?_⟩
  rcases S.par y (v9 hp) with k|k
  ·exact .inl ⟨k,aCh ndP hp hu k⟩
  ·obtain⟨c,e⟩:=aDR (n:=s.heap.objs.size+1) k
   refine .inr ⟨.inl k,c,e,?_⟩
   have q:=x.cell y c e
   rw[aCi ndP hp hu (by show scope.names.lookup y≠_;rw[k];decide)] at q
   exact q
 ·exact e0.hok.fresh (Tp9 (x.above y c (PySem.mem_of_lookup h)))
 ·unfold start
  show _=N.length
  rw[rA,cC,List.length_replicate]
  omega
theorem aKt{CX:CXT}{P:Program}{w:World}{K:W.Frag}{mg:Str->Option Value}{base:Heap}{k:Nat}{f:Addr}{name qual:Str}{params:Arguments}{body:List Stmt}{scope:Scope}{dV kV doc pm cdv ct oc:Value}{an od:Option Addr}
  {osl:Array (Option Value)} {N ps:List Str} {sp:Sp} (lk:K.lookup f=some ⟨oc,od,.func (W.fnOf name qual params body scope dV kV doc pm an cdv ct),osl⟩) (hcd:W.codeIn K cdv qual=true) (S:bK N ps scope)
  (len:∀vs H Q E,sp vs H Q E->vs.length=ps.length)
  (hbody:∀(A:Around) (outer:List Env) (s:Shared) (H:Hp) (vs:List V) (Q:VK) (E:XK),gS k (A.deeper (envOfC qual scope s.heap.objs.size f cdv))->sp vs H Q E->
   ∃t,PSs (mQ CX P w K mg base N qual scope f cdv A outer s H E) body t/\t { nx:=λ_ H'=>Q .non H',rt:=Q } (start N vs) H) :
  cT P w K mg base CX (k+1) f (W.fnOf name qual params body scope dV kV doc pm an cdv ct) ps sp:=by
 refine⟨len,λA outer s H args us vs Q E hr e0 hb r hsp=>?_⟩
 have hl:=len _ _ _ _ hsp
 have KX:K.In s.heap:=e0.mod.kin.keeps λb o e=>(e0.bs b o e).1
 have lim:s.heap.NoLimit:=e0.mod.nolimit.keeps λb o e=>(e0.bs b o e).1
 have hkind:∀y∈ps.zip us,scope.names.lookup y.1=some .local\/(scope.names.lookup y.1=some .cell/\((cellsFrom (s.heap.objs.size+1) scope.names []).lookup y.1).isSome=true):=λ⟨n,v⟩ hy=>by
  rcases S.par n (List.of_mem_zip hy).1 with q|q
  ·exact .inl q
  ·exact .inr ⟨q,PySem.W.cellsFrom_some _ _ _ (.inl q)⟩
 refine codeAny_call_function hr.depth (KX _ _ lk) rfl S.co S.gen rfl (PySem.W.codeRec_of KX hcd) (hb _ _ _ _ ?_)
 refine wpAny_newFunctionEnv_cells S.kind hkind λenv he s1 x=>?_
 subst he
 refine⟨lim.keeps x.toInCall.keep,codeAny_func ?_⟩
 obtain⟨t,ht,hq⟩:=hbody A outer s H vs Q E (hr.deeper _) hsp
 have I:Inv (mQ CX P w K mg base N qual scope f cdv A outer s H E) [] (start N vs) H s1:=aGw S hr.hd e0 hl r x
 refine Rs9 (ht [] s1 (start N vs) H _ I hq) (λfl s' hs=>?_) λe s' hs=>hs
 have fin:∀{σ':St} {H':Hp} {v:V} {u:Value},Inv (mQ CX P w K mg base N qual scope f cdv A outer s H E) [] σ' H' s'->RelV v u->Q v H'->CE outer P w H s Q u s':=
  λ{σ' H' v u} J rv q=>⟨v,H',J.os,J.bare,J.base,J.hok,rv,q⟩
 cases fl with
 |ret u=>
  obtain⟨v,σ',H',J,rv,q⟩:=hs
  exact fin J rv q
 |next=>
  obtain⟨σ',H',J,q⟩:=hs
  exact fin (v:=V.non) (u:=Value.none) J rfl q
 |brk=>
  obtain⟨_,_,_,q⟩:=hs
  exact False.elim q
 |cont=>
  obtain⟨_,_,_,q⟩:=hs
  exact False.elim q
end L2
namespace L2
open PySem PySem.Spec PyProof.Rows
section
variable{X:Cx}{x:Str}{p pos:Pos}{e:Expr}{es:List Expr}{t:TA}{id T:String}{r:List V->Hp->VK->Prop}
def tCB(r:List V->Hp->VK->Prop)(t:TA):TE:=λσ H Q=>t σ H λvs H1=>r vs H1 Q
theorem aHr(hc:eR X (.builtin id) r)(hg:Gl X x)(hm:X.mg x=none)(hv:bootBuiltins x=some (.builtin id))(ha:PA X (e::es) t)(hn:x≠"__name__":=by decide)(hdb:(x == ("__debug__" : Str))=false:=by decide)
  (he:starEach (e::es) X.env=(false,eval e X.env)::starEach es X.env:=by rfl) (hpl:(backTo pos (starEach es X.env)).any (·.1)=false:=by rfl):PE X (.Call (.Name x p) (e::es) [] pos) (tCB r t):=by
 intro pins s σ H Q I h
 refine wpAny_Call_Name_kw (zD I hg hm hv ?_ hn hdb)
 exact PyProof.Rows.callWith_builtin1 (dY (ha pos pins s σ H _ I h) λus s1 ⟨vs,H1,I1,r1,q1⟩=>hc pins s1 σ H1 vs us Q I1 r1 q1) he hpl
theorem aGx(hc:eR X (.type T) r)(hg:Gl X x)(hm:X.mg x=none)(hv:bootBuiltins x=some (.type T))(ha:PA X (e::es) t)(hn:x≠"__name__":=by decide)(hdb:(x == ("__debug__" : Str))=false:=by decide)
  (he:starEach (e::es) X.env=(false,eval e X.env)::starEach es X.env:=by rfl) (hpl:(backTo pos (starEach es X.env)).any (·.1)=false:=by rfl):PE X (.Call (.Name x p) (e::es) [] pos) (tCB r t):=by
 intro pins s σ H Q I h
 refine wpAny_Call_Name_kw (zD I hg hm hv ?_ hn hdb)
 exact PyProof.Rows.callWith_type1 (dY (ha pos pins s σ H _ I h) λus s1 ⟨vs,H1,I1,r1,q1⟩=>hc pins s1 σ H1 vs us Q I1 r1 q1) he hpl
end
end L2
namespace HT
open PySem PyProof.Rows
section
open PySem.SeqAt
open PySem.AutoSeq1 (wpAny_loadPart')
open PySem.MeetsSeq PySem.MeetsSeq2 PySem.MeetsSeq3
end
section
variable{prog:Program}{w:World}{A:Around}{E:Value->Shared->Prop}{s:Shared}
def kX(n d:Nat):Option Int->Nat
 |none=>d
 |some v=>if v < 0 then (v+(n:Int)).toNat else min v.toNat n
theorem rB(n d:Nat):kX n d none=d:=rfl
theorem aFL(n d k:Nat):kX n d (some (k:Int))=min k n:=by
 show(if (k:Int) < 0 then ((k:Int)+(n:Int)).toNat else min (k:Int).toNat n)=min k n
 rw[fQ (by omega),Sh9]
theorem aLh(n d:Nat)(hd:d<=n)(o:Option Int):kX n d o<=n:=by
 cases o with
 |none=>exact hd
 |some v=>
  show(if v < 0 then (v+(n:Int)).toNat else min v.toNat n)<=n
  by_cases hv:v < 0
  ·rw[gU hv];omega
  ·rw[fQ hv];exact Nat.min_le_right _ _
theorem aFM(v:Int)(n d:Nat):(if v < 0 then max (v+(n:Int)) 0 else min v (n:Int))=((kX n d (some v):Nat):Int):=by
 show(if v < 0 then max (v+(n:Int)) 0 else min v (n:Int))=(((if v < 0 then (v+(n:Int)).toNat else min v.toNat n):Nat):Int)
 by_cases hv:v < 0
 ·simp only[gU hv];omega
 ·simp only[fQ hv];omega
theorem aEZ(lo hi:Option Int)(n:Nat):Builtin.Slice.sliceAdjust lo hi 1 (n:Int)=(((kX n 0 lo:Nat):Int),((kX n n hi:Nat):Int)):=by
 have h1:¬((1:Int) < 0):=by omega
 unfold Builtin.Slice.sliceAdjust
 simp only[h1,if_false]
 refine Prod.ext ?_ ?_
 ·cases lo with
  |none=>rfl
  |some v=>exact aFM v n 0
 ·cases hi with
  |none=>rfl
  |some v=>exact aFM v n n
theorem aE3(i j:Nat):Builtin.Slice.slicePlaces (i:Int) (j:Int) 1=j - i:=by
 unfold Builtin.Slice.slicePlaces
 have h1:(1:Int) > 0:=by omega
 simp only[h1,if_true,Int.ediv_one]
 split <;> omega
theorem aA5{o:Option Int}{Q:Option Int->Shared->Prop}(p:IsPart v o)(h:Q o s):wpAny (model prog w) A (Builtin.Slice.slicePartIndex v) Q E s:=by
 cases p with
 |none=>exact slicePart_none h
 |int i t=>exact slicePart_int h
theorem zG{lo hi:Option Int}{n:Nat}{Q:Int×Int×Nat->Shared->Prop}(hs:s.heap.IsSliceOf sl vl vu .none)(pl:IsPart vl lo)(pu:IsPart vu hi)(h:Q (((kX n 0 lo:Nat):Int),1,kX n n hi - kX n 0 lo) s):wpAny (model prog w) A (Builtin.Slice.sliceApplied (.ref sl) (pure (n:Int))) Q E s:=by
 obtain⟨os,hos,hcs,hds⟩:=id hs
 unfold Builtin.Slice.sliceApplied Builtin.Slice.sliceFields
 refine cM (cM (wpAny_field hos hds (x:=vl) rfl (cM (wpAny_field hos hds (x:=vu) rfl (cM (wpAny_field hos hds (x:=.none) rfl (jY ?_)))))))
 refine cM (slicePart_none ?_)
 show wpAny _ _ (if ((1:Int) == 0)=true then _ else _) _ _ s
 rw[fQ (by decide)]
 refine cM (aA5 pl (cM (aA5 pu (cM (jY ?_)))))
 show wpAny _ _ (match Builtin.Slice.sliceAdjust lo hi 1 (n:Int) with|(lo,hi)=>pure (lo,(1:Int),Builtin.Slice.slicePlaces lo hi 1)) _ _ s
 rw[aEZ lo hi n]
 show wpAny _ _ (pure (((kX n 0 lo:Nat):Int),(1:Int),Builtin.Slice.slicePlaces ((kX n 0 lo:Nat):Int) ((kX n n hi:Nat):Int) 1)) _ _ s
 rw[aE3]
 exact jY h
theorem aHs(xs:Array Value)(i k:Nat):((List.range k).filterMap λ(m:Nat)=>xs[((i:Int)+(m:Int)*1).toNat]?).toArray=((xs.toList.drop i).take k).toArray:=by
 have e:(λ(m:Nat)=>xs[((i:Int)+(m:Int)*1).toNat]?)=λm=>xs[i+m]?:=by
  funext m
  have:((i:Int)+(m:Int)*1).toNat=i+m:=by omega
  rw[this]
 rw[e]
 have:=pick_run xs i k
 rw[List.filterMap_map] at this
 have e2:((λx=>xs[x]?) ∘ λx=>i+x)=λm=>xs[i+m]?:=rfl
 rw[e2] at this
 rw[this]
theorem xX{items:Array Value}{lo hi:Option Int}{Q:Value->Shared->Prop}(ht:IsTup s.heap t items)(hs:s.heap.IsSliceOf sl vl vu .none)(pl:IsPart vl lo)(pu:IsPart vu hi)(hw:¬(kX items.size 0 lo=0/\kX items.size items.size hi=items.size))(h:Q (.ref s.heap.objs.size) { s with heap:=s.heap.push { cls:=.type "tuple",data:=.seq ((items.toList.drop (kX items.size 0 lo)).take (kX items.size items.size hi - kX items.size 0 lo)).toArray } })(hsz:items.size<=sizeLine):wpAny (model prog w) A (getItem (.ref t) (.ref sl)) Q E s:=by
 have htake:sizeOk (.seq ((items.toList.drop (kX items.size 0 lo)).take (kX items.size items.size hi - kX items.size 0 lo)).toArray):=by
  show((items.toList.drop (kX items.size 0 lo)).take (kX items.size items.size hi - kX items.size 0 lo)).toArray.size<=sizeLine
  rw[mP,tP,Rm9,wY]
  omega
 have hj:kX items.size items.size hi<=items.size:=aLh _ _ (iI _) hi
 obtain⟨os,hos,hcs,hds⟩:=id hs
 have hTs:s.TypeIs (.ref sl) "slice":=⟨os,hos,hcs⟩
 unfold getItem
 try with_reducible refine Sc9 ?_
 first|refine cM (jY ?_)|skip
 refine cM (wpAny_sequenceKey ht.typeIs (by decide) ?_)
 refine cM (wpAny_callSpecial?_slot (name:=Str.ofString "__getitem__") ht.typeIs PyProof.Rows.slot_tuple_getitem
  (wpAny_call_entry PyProof.Rows.slot_tuple_getitem ht.typeIs entry_tuple_getitem ?_ (args_tuple_getitem _ _)))
 show wpAny _ _ (Builtin.Tuple.tupleItemsOf (.ref t) >>= _) _ _ s
 refine cM (tupleItemsOf_ ht ?_)
 refine cM (wpAny_typeOf hTs ?_)
 rw[gU (by decide)]
 refine cM (zG hs pl pu ?_)
 have hno:¬((((kX items.size 0 lo:Nat):Int) == 0 && (1:Int) == 1 && (kX items.size items.size hi - kX items.size 0 lo) == items.size)=true):=by
  intro q
  rw[zB,zB] at q
  have q1:((kX items.size 0 lo:Nat):Int)=0:=eq_of_beq q.1.1
  have q2:kX items.size items.size hi - kX items.size 0 lo=items.size:=eq_of_beq q.2
  exact hw ⟨by omega,by omega⟩
 show wpAny _ _ (if (((kX items.size 0 lo:Nat):Int) == 0 && (1:Int) == 1 && (kX items.size items.size hi - kX items.size 0 lo) == items.size)=true then _ else _) _ _ s
 rw[fQ hno,aHs]
 first
  |exact cM (m:=Builtin.Tuple.tupleExact _) (Sb9 (jY ⟨_,rfl,jY h⟩) htake)
  |exact cM (m:=Builtin.Tuple.tupleExact _) (Sb9 (cM (jY (jY ⟨_,rfl,jY h⟩))) htake)
  |exact cM (cM (m:=Builtin.Tuple.tupleExact _) (Sb9 (jY (jY ⟨_,rfl,jY h⟩)) htake))
  |exact cM (cM (m:=Builtin.Tuple.tupleExact _) (Sb9 (jY ⟨_,rfl,jY h⟩) htake))
end
end HT
namespace L2
open PySem PySem.Spec PyProof.Rows
abbrev TO:=St->Hp->(Option Int->Hp->Prop)->Prop
def PO(X:Cx)(e:Option Expr)(t:TO):Prop:=
 ∀(pins:List (Addr×Obj)) (s:Shared) (σ:St) (H:Hp) (Q:Option Int->Hp->Prop),Inv X pins σ H s->t σ H Q->
  wpAny (model X.prog X.w) X.A (evalPart e X.env) (λu s'=>∃o H',Inv X pins σ H' s'/\IsPart u o/\Q o H') X.xe s
def aCV:TO:=λ_ H Q=>Q none H
def aHt(t:TE):TO:=λσ H Q=>t σ H λx H1=>∃i,x=.int i/\Q (some i) H1
theorem intsAre_of{ns:List Int}:∀{us:List Value},Vals (ns.map V.int) us->IntsAre us ns:=by
 induction ns with
 |nil=>intro us r;rw[List.map_nil] at r;cases r;exact .nil
 |cons n ns ih=>
  intro us r
  rw[Sn9] at r
  cases r with
  |cons r1 r2=>
   obtain⟨t,e⟩:=r1
   subst e
   exact .cons n t (ih r2)
section
variable{X:Cx}{e:Expr}{te:TE}{lo hi:Option Expr}{tl th:TO}{pos p2:Pos}
theorem aJh:PO X none aCV:=by
 intro pins s σ H Q I h
 rw[evalPart_none]
 exact jY ⟨none,H,I,.none,h⟩
theorem aJi(h:PE X e te):PO X (some e) (aHt te):=by
 intro pins s σ H Q I hw
 rw[evalPart_some]
 refine dY (h pins s σ H _ I hw) λu s1 ⟨x,H1,I1,r1,q1⟩=>?_
 obtain⟨i,rfl,q⟩:=q1
 obtain⟨t,rfl⟩:=r1
 exact⟨some i,H1,I1,.int i t,q⟩
def SlR(X:Cx)(r:V->Option Int->Option Int->Hp->VK->Prop):Prop:=
 ∀(pins:List (Addr×Obj)) (s:Shared) (σ:St) (H:Hp) (x:V) (v vl vu:Value) (lo hi:Option Int) (sl:Addr) (Q:VK),Inv X pins σ H s->RelV x v->s.heap.IsSliceOf sl vl vu .none->IsPart vl lo->IsPart vu hi->r x lo hi H Q->
  ∃T id,typeLookup (.type T) "__getitem__" = pure (some (.builtin id))/\s.TypeIs v T/\wpAny (model X.prog X.w) X.A (getItem v (.ref sl)) (EP X pins σ Q) X.xe s
theorem SlR.or{r r':V->Option Int->Option Int->Hp->VK->Prop}(h:SlR X r)(h':SlR X r'):SlR X (λx lo hi H Q=>r x lo hi H Q\/r' x lo hi H Q):=by
 intro pins s σ H x v vl vu lo hi sl Q I rx hs pl pu q
 rcases q with q|q
 ·exact h pins s σ H x v vl vu lo hi sl Q I rx hs pl pu q
 ·exact h' pins s σ H x v vl vu lo hi sl Q I rx hs pl pu q
def tSl(r:V->Option Int->Option Int->Hp->VK->Prop)(te:TE)(tl th:TO):TE:=λσ H Q=>te σ H λx H1=>tl σ H1 λl H2=>th σ H2 λu H3=>r x l u H3 Q
theorem aHu{r:V->Option Int->Option Int->Hp->VK->Prop}(hr:SlR X r)(he:PE X e te)(hl:PO X lo tl)(hu:PO X hi th):PE X (.Subscript e (.Slice lo hi none p2) pos) (tSl r te tl th):=by
 intro pins s σ H Q I h
 refine Subscript_ (dY (he pins s σ H _ I h) λv s1 ⟨x,H1,I1,r1,q1⟩=>?_)
 refine wpAny_Slice (dY (hl pins s1 σ H1 _ I1 q1) λvl s2 ⟨l,H2,I2,pl,q2⟩=>dY (hu pins s2 σ H2 _ I2 q2) λvu s3 ⟨u,H3,I3,pu,q3⟩=>?_)
 rw[evalPart_none]
 refine jY ?_
 have I4:Inv X pins σ H3 { s3 with heap:=s3.heap.push { cls:=.type "slice",data:=.fields #[vl,vu,.none] } }:=I3.kept (t':=s3.toks) λb ob q=>vG _ q
 obtain⟨T,id,hT,ht,hg⟩:=hr pins { s3 with heap:=s3.heap.push { cls:=.type "slice",data:=.fields #[vl,vu,.none] } } σ H3 x v vl vu l u s3.heap.objs.size Q I4 r1 (Heap.IsSliceOf.new ..) pl pu q3
 show wpAny (model X.prog X.w) X.A (subscriptTail e (.Slice lo hi none p2) v (.ref s3.heap.objs.size)) (EP X pins σ Q) X.xe { s3 with heap:=s3.heap.push { cls:=.type "slice",data:=.fields #[vl,vu,.none] } }
 exact tail_any (ops:=[.ref s3.heap.objs.size,v]) ht hT hg (by with_unfolding_all rfl)
def gX(xs:List V)(lo hi:Option Int):List V:=(xs.drop (HT.kX xs.length 0 lo)).take (HT.kX xs.length xs.length hi - HT.kX xs.length 0 lo)
theorem fM(xs:List V)(lo hi:Option Int):(gX xs lo hi).length<=xs.length:=by
 unfold gX
 rw[tP,Rm9]
 omega
def aMK(K:W.Frag):V->Option Int->Option Int->Hp->VK->Prop:=λx lo hi H Q=>∃a xs,x=.ref a/\mY K H a xs/\
 ¬(HT.kX xs.length 0 lo=0/\HT.kX xs.length xs.length hi=xs.length)/\∀p,H p=none->Q (.ref p) (upd H p (.tup (gX xs lo hi)))
theorem aLi:SlR X (aMK X.K):=by
 intro pins s σ H x v vl vu lo hi sl Q I rx hs pl pu h
 obtain⟨a,xs,rfl,hx,hw,q⟩:=h
 cases rx
 obtain⟨its,r,ht,hz⟩:=I.tuple hx
 have hlen:its.toArray.size=xs.length:=by rw[mP];exact r.length.symm
 refine⟨"tuple",_,PyProof.Rows.slot_tuple_getitem.lookup,ht.typeIs,?_⟩
 refine HT.xX ht hs pl pu (by rw[hlen];exact hw) ?_ (by rw[hlen];exact hz)
 rw[hlen]
 refine⟨.ref s.heap.objs.size,_,I.laid (t':=s.toks) (o:=.tup (gX xs lo hi)) (λb ob q=>vG _ q) (iI _) ?_,rfl,q _ (I.hok.fresh (iI _))⟩
 exact⟨wZ (fM xs lo hi) hz,_,(r.drop (HT.kX xs.length 0 lo)).take (HT.kX xs.length xs.length hi - HT.kX xs.length 0 lo),IsTup.new _ _⟩
end
end L2
namespace L2
open PySem PySem.Spec PyProof.Rows
def ixN(n:Nat)(i:Int):Option Nat:=if 0<=i then (if i < n then some i.toNat else none) else if -(n:Int)<=i then some (i+n).toNat else none
def atI{α:Type}(xs:List α)(i:Int):Option α:=(ixN xs.length i).bind λj=>xs[j]?
theorem aFN{n:Nat}{i:Int}{j:Nat}(h:ixN n i=some j):seqIndex? i n=some j/\j < n/\-(n:Int)<=i/\i < n:=by
 unfold ixN at h
 by_cases h0:0<=i
 ·rw[gU h0] at h
  by_cases h1:i < n
  ·rw[gU h1] at h
   have e:i.toNat=j:=Option.some.inj h
   exact⟨by rw[seqIndex_of h0 h1,e],by omega,by omega,h1⟩
  ·rw[fQ h1] at h;cases h
 ·rw[fQ h0] at h
  by_cases h1:-(n:Int)<=i
  ·rw[gU h1] at h
   have e:(i+n).toNat=j:=Option.some.inj h
   exact⟨by rw[seqIndex_neg (by omega) h1,e],by omega,h1,by omega⟩
  ·rw[fQ h1] at h;cases h
theorem aCW{α:Type}{xs:List α}{i:Int}{v:α}(h:atI xs i=some v):∃j,seqIndex? i xs.length=some j/\xs[j]?=some v/\j < xs.length/\-(xs.length:Int)<=i/\i < xs.length:=by
 unfold atI at h
 cases e:ixN xs.length i with
 |none=>rw[e] at h;cases h
 |some j=>
  rw[e] at h
  obtain⟨h1,h2,h3,h4⟩:=aFN e
  exact⟨j,h1,h,h2,h3,h4⟩
theorem j0{α:Type}{xs:List α}{j:Nat}{v:α}(h:xs[j]?=some v):atI xs (j:Int)=some v:=by
 have hj:j < xs.length:=(wF.mp h).1
 have e:ixN xs.length (j:Int)=some j:=by
  unfold ixN
  rw[gU (by omega),gU (by omega)];simp
 unfold atI;rw[e];exact h
def aFO(b:Expr):Prop:=∀o i,subscripted b false o i=operate [o,i] (getItem o i)
def IxR(X:Cx)(r:R2):Prop:=
 ∀(value slice:Expr) (pins:List (Addr×Obj)) (s:Shared) (σ:St) (H:Hp) (x y:V) (v u:Value) (Q:VK),Inv X pins σ H s->RelV x v->RelV y u->r x y H Q->
  subscripted slice false v u=operate [v,u] (getItem v u)->wpAny (model X.prog X.w) X.A (subscriptTail value slice v u) (EP X pins σ Q) X.xe s
def MtR(X:Cx)(id:String)(r:V->List V->Hp->VK->Prop):Prop:=
 ∀(pins:List (Addr×Obj)) (s:Shared) (σ:St) (H:Hp) (x:V) (xs:List V) (v:Value) (us:List Value) (Q:VK),Inv X pins σ H s->RelV x v->Vals xs us->r x xs H Q->
  wpAny (model X.prog X.w) X.A (call (.builtin id) (v::us)) (EP X pins σ Q) X.xe s
section
variable{X:Cx}{a b:Expr}{ta tb:TE}{pos:Pos}
theorem IxR.or{r':R2}(h:IxR X r)(h':IxR X r'):IxR X (λx y H Q=>r x y H Q\/r' x y H Q):=by
 intro value slice pins s σ H x y v u Q I rx ry q hs
 rcases q with q|q
 ·exact h value slice pins s σ H x y v u Q I rx ry q hs
 ·exact h' value slice pins s σ H x y v u Q I rx ry q hs
theorem aML(hr:IxR X r)(ha:PE X a ta)(hb:PE X b tb)(hs:aFO b):PE X (.Subscript a b pos) (tOp r ta tb):=by
 intro pins s σ H Q I h
 exact Subscript_ (aK8 ha hb I h λv u s2 x y H2 I2 rx ry q=>hr a b pins s2 σ H2 x y v u Q I2 rx ry q (hs _ _))
def aMM(K:W.Frag):R2:=λx y H Q=>∃p xs i v,x=.ref p/\y=.int i/\bQ K H p xs/\atI xs i=some v/\Q v H
def aMN(K:W.Frag):R2:=λx y H Q=>∃p xs i v,x=.ref p/\y=.int i/\mY K H p xs/\atI xs i=some v/\Q v H
def aMO:R2:=λx y H Q=>∃z i c,x=.str z/\y=.int i/\z.length<=sizeLine/\atI z.cps.toList i=some c/\Q (.str ⟨#[c]⟩) H
theorem aJj:IxR X (aMM X.K):=by
 intro value slice pins s σ H x y v u Q I rx ry h hs
 obtain⟨p,xs,i,z,rfl,rfl,hq,he,q⟩:=h
 cases rx
 obtain⟨t,rfl⟩:=ry
 obtain⟨its,r,pl,hz⟩:=I.list hq
 obtain⟨j,h1,h2,h3,h4,h5⟩:=aCW he
 obtain⟨w,ew,rw'⟩:=r.get h2
 have hl:=r.length
 have hn:=w5
 have fin:EP X pins σ Q w s:=⟨z,H,I,rw',q⟩
 by_cases h0:0<=i
 ·have hj:i.toNat=j:=by
   rw[seqIndex_of h0 h5] at h1
   exact Option.some.inj h1
  exact item_listR pl.isList h0 (by omega) (by rw[hj];simpa using ew) fin hs
 ·have hj:(i+(its.toArray.size:Int)).toNat=j:=by
   rw[seqIndex_neg (by omega) h4] at h1
   rw[mP,<-hl]
   exact Option.some.inj h1
  exact subscriptTail_builtinR (x:=w) pl.isList.typeIs slot_list_getitem.lookup
   (wpAny_getItem_list_neg (Q:=λr s'=>r=w/\EP X pins σ Q r s') pl.isList (by omega) (by rw[mP] <;> omega) (by omega) (by rw[hj];simpa using ew) ⟨rfl,fin⟩) hs
theorem aLj:IxR X (aMN X.K):=by
 intro value slice pins s σ H x y v u Q I rx ry h hs
 obtain⟨p,xs,i,z,rfl,rfl,hq,he,q⟩:=h
 cases rx
 obtain⟨t,rfl⟩:=ry
 obtain⟨its,r,pl,hz⟩:=I.tuple hq
 obtain⟨j,h1,h2,h3,h4,h5⟩:=aCW he
 obtain⟨w,ew,rw'⟩:=r.get h2
 have hl:=r.length
 have hn:=w5
 have fin:EP X pins σ Q w s:=⟨z,H,I,rw',q⟩
 exact subscriptTail_builtinR (x:=w) pl.typeIs slot_tuple_getitem.lookup
  (getItem_tuple (j:=j) (Q:=λr s'=>r=w/\EP X pins σ Q r s') pl (by omega) (by omega) (by rw[mP,<-hl];exact h1) (by simpa using ew) ⟨rfl,fin⟩) hs
theorem aLk:IxR X aMO:=by
 intro value slice pins s σ H x y v u Q I rx ry h hs
 obtain⟨z,i,c,rfl,rfl,hz,he,q⟩:=h
 obtain⟨t,rfl⟩:=rx
 obtain⟨t',rfl⟩:=ry
 obtain⟨j,h1,h2,h3,h4,h5⟩:=aCW he
 have hl:z.cps.toList.length=z.length:=by simp[Str.length]
 rw[hl] at h1 h4 h5
 have hn:=w5
 exact tail_any (typeIs_str s z t) slot_str_getitem.lookup (getItem_str (c:=c) (by
  have e1:decide (i < -(2 ^ 63:Int))=false:=Rp9 (by omega)
  have e2:decide (i ≥ 2 ^ 63)=false:=Rp9 (by omega)
  rw[e1,e2,Bool.or_false]) (by rw[h1];simpa using h2) ⟨.str ⟨#[c]⟩,H,I.tok _,⟨_,rfl⟩,q⟩) hs
def rIx(K:W.Frag):R2:=λx y H Q=>aMM K x y H Q\/aMN K x y H Q\/aMO x y H Q
theorem aLl:IxR X (rIx X.K):=aJj.or (aLj.or aLk)
theorem aE4(its:List Value)(n j:Nat)(u:Value):Obj.mapSeq (·.setIfInBounds j u) { cls:=.type "list",data:=.seq its.toArray n } = { cls:=.type "list",data:=.seq (its.set j u).toArray n }:=by
 simp[Obj.mapSeq]
theorem Inv.lst{pins:List (Addr×Obj)}{σ:St}{H:Hp}{s:Shared}{p:Addr}{xs:List V}(I:Inv X pins σ H s)(h:H p=some (.lst xs)) :
  ∃(its:List Value) (n:Nat),Vals xs its/\s.heap.get? p=some { cls:=.type "list",data:=.seq its.toArray n }/\xs.length<=sizeLine:=by
 obtain⟨z,its,n,r,e⟩:=I.hok p _ h
 exact⟨its,n,r,e,z⟩
theorem Inv.aLm{s:Shared}{ys:List V}{its its':List Value}{n n':Nat}{f:Obj->Obj}(I:Inv X pins σ H s)(h:H p=some (.lst xs))(ho:s.heap.get? p=some { cls:=.type "list",data:=.seq its.toArray n })(hf:f { cls:=.type "list",data:=.seq its.toArray n } = { cls:=.type "list",data:=.seq its'.toArray n' })(r:Vals ys its')(hz:ys.length<=sizeLine)(t:Nat) :
  Inv X pins σ (upd H p (.lst ys)) { s with heap:=s.heap.update p f,toks:=t }:=by
 have e:(s.heap.update p f).get? p=some { cls:=.type "list",data:=.seq its'.toArray n' }:=by
  rw[Rr9 f ho (by rw[hf] <;> rfl),hf]
 refine I.write (x:=p) (e:=p) (by rw[h];trivial) (.inl rfl) (λb u hb q=>(Qv9 _ _ (Ne.symm hb)).trans q) ⟨_,e⟩ ?_
 exact⟨hz,its',n',r,e⟩
def aKu:V->V->V->Hp->(Hp->Prop)->Prop:=λo i v H Q=>∃p xs k j,o=.ref p/\i=.int k/\H p=some (.lst xs)/\ixN xs.length k=some j/\Q (upd H p (.lst (xs.set j v)))
theorem set_list:aHe X aKu:=by
 intro pins s σ H o i v ov iv u Q I ro ri rv h
 obtain⟨p,xs,k,j,rfl,rfl,hp,hj,q⟩:=h
 cases ro
 obtain⟨t,rfl⟩:=ri
 obtain⟨its,n,r,ho,hz⟩:=I.lst hp
 obtain⟨h1,h2,h3,h4⟩:=aFN hj
 have hl:=r.length
 have hn:=w5
 have I':Inv X pins σ (upd H p (.lst (xs.set j v))) { s with heap:=s.heap.update p (Obj.mapSeq (·.setIfInBounds j u)) }:=
  I.aLm hp ho (aE4 its n j u) (r.set rv j) (by rw[List.length_set];exact hz) s.toks
 by_cases h0:0<=k
 ·have hk:k.toNat=j:=by
   rw[seqIndex_of h0 h4] at h1
   exact Option.some.inj h1
  exact PySem.W.ki_setAt ho h0 (by omega) (by rw[mP,<-hl];exact h4) (by rw[hk];exact⟨_,I',q⟩)
 ·have hk:(k+(its.toArray.size:Int)).toNat=j:=by
   rw[seqIndex_neg (by omega) h3] at h1
   rw[mP,<-hl]
   exact Option.some.inj h1
  exact PySem.W.ki_setBack ho (by omega) (by rw[mP,<-hl];exact h3) (by omega) (by rw[hk];exact⟨_,I',q⟩)
theorem aCX(lo hi:Option Int)(n:Nat):(sliceBounds lo hi none n).1=((HT.kX n 0 lo:Nat):Int)/\(sliceBounds lo hi none n).2.1=((HT.kX n n hi:Nat):Int)/\(sliceBounds lo hi none n).2.2=1:=by
 refine⟨?_,?_,rfl⟩
 ·cases lo with
  |none=>simp[sliceBounds,HT.kX]
  |some i=>
   simp only[sliceBounds,HT.kX,Option.getD_none,show(1:Int) > 0 by decide,if_true]
   by_cases h:i < 0
   ·simp only[h,if_true] <;> omega
   ·simp only[h,if_false] <;> omega
 ·cases hi with
  |none=>simp[sliceBounds,HT.kX]
  |some i=>
   simp only[sliceBounds,HT.kX,Option.getD_none,show(1:Int) > 0 by decide,if_true]
   by_cases h:i < 0
   ·simp only[h,if_true] <;> omega
   ·simp only[h,if_false] <;> omega
theorem aBM(its:List Value)(lo hi:Option Int):slicePick its.toArray lo hi none=((its.drop (HT.kX its.length 0 lo)).take (HT.kX its.length its.length hi - HT.kX its.length 0 lo)).toArray:=by
 obtain⟨h1,h2,h3⟩:=aCX lo hi its.toArray.size
 unfold slicePick
 rw[h1,h2,h3]
 simp only[sliceRange_one,pick_run,mP] <;> rfl
def aMP(K:W.Frag):V->Option Int->Option Int->Hp->VK->Prop:=λx lo hi H Q=>∃a xs,x=.ref a/\bQ K H a xs/\∀p,H p=none->Q (.ref p) (upd H p (.lst (gX xs lo hi)))
theorem aJk:SlR X (aMP X.K):=by
 intro pins s σ H x v vl vu lo hi sl Q I rx hs pl pu h
 obtain⟨a,xs,rfl,hx,q⟩:=h
 cases rx
 obtain⟨its,r,ht,hz⟩:=I.list hx
 have hlen:=r.length
 refine⟨"list",_,slot_list_getitem.lookup,ht.isList.typeIs,?_⟩
 refine wpAny_getItem_list_slice ht.isList hs pl pu .none (by simp) ?_ (by rw[mP] <;> omega)
 rw[aBM,<-hlen]
 refine⟨.ref s.heap.objs.size,_,I.laid (t':=s.toks) (o:=.lst (gX xs lo hi)) (λb ob q=>vG _ q) (iI _) ?_,rfl,q _ (I.hok.fresh (iI _))⟩
 exact⟨wZ (fM xs lo hi) hz,_,0,(r.drop (HT.kX xs.length 0 lo)).take (HT.kX xs.length xs.length hi - HT.kX xs.length 0 lo),Qz9 _ rfl⟩
def eF:V->Bool
 |.non=>true
 |.bl _=>true
 |.int _=>true
 |.str _=>true
 |_=>false
def eqV:V->V->Bool
 |.non,.non=>true
 |.bl a,.bl b=>a == b
 |.bl a,.int b=>(if a then 1 else 0) == b
 |.int a,.bl b=>a == (if b then 1 else 0)
 |.int a,.int b=>a == b
 |.str a,.str b=>a == b
 |_,_=>false
theorem aE5(ry:RelV y u)(rx:RelV x v)(fy:eF y=true)(fx:eF x=true):SeqAt.EqAt A s u v (eqV y x):=by
 cases y with
 |non=>
  cases ry
  cases x with
  |non=>cases rx;exact SeqAt.EqAt.same _
  |bl b=>cases rx;exact SeqAt.EqAt.none_bool b
  |int b=>obtain⟨t,rfl⟩:=rx;exact SeqAt.EqAt.none_int b t
  |str b=>obtain⟨t,rfl⟩:=rx;exact SeqAt.EqAt.none_str b t
  |_=>exact absurd (show false=true from fx) Qu9
 |bl a=>
  cases ry
  cases x with
  |non=>cases rx;exact SeqAt.EqAt.bool_none a
  |bl b=>cases rx;exact SeqAt.EqAt.bool_bool a b
  |int b=>obtain⟨t,rfl⟩:=rx;exact SeqAt.EqAt.bool_int a b t
  |str b=>obtain⟨t,rfl⟩:=rx;exact SeqAt.EqAt.bool_str a b t
  |_=>exact absurd (show false=true from fx) Qu9
 |int a=>
  obtain⟨t',rfl⟩:=ry
  cases x with
  |non=>cases rx;exact SeqAt.EqAt.int_none a t'
  |bl b=>cases rx;exact SeqAt.EqAt.int_bool a t' b
  |int b=>obtain⟨t,rfl⟩:=rx;exact SeqAt.EqAt.int_int a t' b t
  |str b=>obtain⟨t,rfl⟩:=rx;exact SeqAt.EqAt.int_str a t' b t
  |_=>exact absurd (show false=true from fx) Qu9
 |str a=>
  obtain⟨t',rfl⟩:=ry
  cases x with
  |non=>cases rx;exact SeqAt.EqAt.str_none a t'
  |bl b=>cases rx;exact SeqAt.EqAt.str_bool a t' b
  |int b=>obtain⟨t,rfl⟩:=rx;exact SeqAt.EqAt.str_int a t' b t
  |str b=>obtain⟨t,rfl⟩:=rx;exact SeqAt.EqAt.str_str a t' b t
  |_=>exact absurd (show false=true from fx) Qu9
 |_=>exact absurd (show false=true from fy) Qu9
def eqU(x:V)(u:Value):Bool:=match u with
 |.none=>eqV .non x
 |.bool b=>eqV (.bl b) x
 |.int i _=>eqV (.int i) x
 |.str z _=>eqV (.str z) x
 |_=>false
theorem aHv{x y:V}{u:Value}(r:RelV y u)(f:eF y=true):eqU x u=eqV y x:=by
 cases y with
 |non=>cases r;rfl
 |bl b=>cases r;rfl
 |int i=>obtain⟨t,rfl⟩:=r;rfl
 |str z=>obtain⟨t,rfl⟩:=r;rfl
 |_=>exact absurd (show false=true from f) Qu9
theorem aCY{x:V}:∀{xs:List V}{us:List Value},Vals xs us->xs.all eF=true->us.any (eqU x)=xs.any λy=>eqV y x
 |_,_,.nil,_=>rfl
 |y::xs,u::us,.cons r t,f=>by
  rw[Tc9,zB] at f
  rw[Td9,Td9,aHv r f.1,aCY t f.2]
theorem aA6{A:Around}{s:Shared}{x:V}{v:Value}(rx:RelV x v)(fx:eF x=true):∀{xs:List V}{us:List Value},Vals xs us->xs.all eF=true->∀u∈us,SeqAt.EqAt A s u v (eqU x u)
 |_,_,.nil,_=>λu hu=>by cases hu
 |y::xs,u::us,.cons r t,f=>λu' hu=>by
  rw[Tc9,zB] at f
  rcases rN.mp hu with rfl|hu
  ·rw[aHv r f.1];exact aE5 r rx f.1 fx
  ·exact aA6 rx fx t f.2 u' hu
def inV(x:V)(xs:List V):Bool:=xs.any λy=>eqV y x
def rIn(K:W.Frag)(neg:Bool):R2:=λx y H Q=>∃p xs,y=.ref p/\(bQ K H p xs\/mY K H p xs)/\eF x=true/\xs.all eF=true/\Q (.bl (if neg then !inV x xs else inV x xs)) H
theorem zH:pU X (compareOp .In) (rIn X.K false):=by
 intro pins s σ H x y v u Q I rx ry h
 obtain⟨p,xs,rfl,hq,fx,fs,q⟩:=h
 cases ry
 rcases hq with hq|hq
 ·obtain⟨its,r,pl,hz⟩:=I.list hq
  refine SeqAt.in_listAt (eqU x) pl.isList (λw hw=>aA6 rx fx r fs w (by simpa using hw)) ⟨.bl _,H,I,rfl,?_⟩
  rw[show its.toArray.any (eqU x)=its.any (eqU x) by simp,aCY r fs]
  exact q
 ·obtain⟨its,r,pl,hz⟩:=I.tuple hq
  refine SeqAt.in_tupleAt (eqU x) pl (λw hw=>aA6 rx fx r fs w (by simpa using hw)) ⟨.bl _,H,I,rfl,?_⟩
  rw[show its.toArray.any (eqU x)=its.any (eqU x) by simp,aCY r fs]
  exact q
theorem aCZ:pU X (compareOp .NotIn) (λx y H Q=>∃i j,x=.str i/\y=.str j/\Q (.bl (!(!(Builtin.Str.occurrences j i 0 j.length 1).isEmpty))) H):=by
 intro pins s σ H x y v u Q I rx ry h
 obtain⟨i,j,rfl,rfl,q⟩:=h
 obtain⟨t,rfl⟩:=rx
 obtain⟨t',rfl⟩:=ry
 exact notIn_str ⟨.bl _,H,I,rfl,q⟩
theorem aC3:eR X (.builtin "len") (λxs H Q=>∃z,xs=[.str z]/\z.length<=sizeLine/\Q (.int z.length) H):=by
 intro pins s σ H xs us Q I r h
 obtain⟨z,rfl,hz,q⟩:=h
 obtain⟨u,rfl,t,rfl⟩:=vals1 r
 have hn:=w5
 exact len_str (by omega) ⟨.int z.length,H,I.tok _,⟨_,rfl⟩,q⟩
theorem aC4:eR X (.type "list") (λxs H Q=>∃p ys,xs=[.ref p]/\(bQ X.K H p ys\/mY X.K H p ys)/\∀l,H l=none->Q (.ref l) (upd H l (.lst ys))):=by
 intro pins s σ H xs us Q I r h
 obtain⟨p,ys,rfl,hq,q⟩:=h
 obtain⟨u,rfl,rx⟩:=vals1 r
 cases rx
 have fin:∀(its:List Value),Vals ys its->ys.length<=sizeLine->∀(h':Heap) (c':Nat),(∀b o',s.heap.get? b=some o'->h'.get? b=some o')->
   h'.get? s.heap.objs.size=some { cls:=.type "list",dict:=none,data:=.seq its.toArray c',slots:=#[] }->EP X pins σ Q (.ref s.heap.objs.size) { s with heap:=h' }:=λits r' hz h' c' kp e=>
  ⟨.ref s.heap.objs.size,_,I.laid (t':=s.toks) kp (iI _) (show eE X.prog X.w _ h' _ (.lst ys) from⟨hz,its,c',r',e⟩),rfl,q _ (I.hok.fresh (iI _))⟩
 rcases hq with hq|hq
 ·obtain⟨its,r',pl,hz⟩:=I.list hq
  have hlen:=r'.length
  obtain⟨o,ho,hc,n,hd⟩:=pl.isList
  exact call_list_seq p (.inl rfl) ho hc hd (λh' c' kp e=>fin its r' hz h' c' kp e) (by simp only[mP] <;> omega)
 ·obtain⟨its,r',pl,hz⟩:=I.tuple hq
  have hlen:=r'.length
  obtain⟨o,ho,hc,n,hd⟩:=pl
  exact call_list_seq p (.inr rfl) ho hc hd (λh' c' kp e=>fin its r' hz h' c' kp e) (by simp only[mP] <;> omega)
def tyV(K:W.Frag)(T:String)(x:V)(H:Hp):Prop:=match x with
 |.str _=>T = "str"
 |.int _=>T = "int"
 |.ref p=>(T = "list"/\∃xs,bQ K H p xs)\/(T = "tuple"/\∃o,K.lookup p=some o/\o.cls=.type "tuple"/\o.dict=none)\/
   (T = "dict"/\((∃kvs,H p=some (.dK kvs))\/∃kvs,H p=some (.dT kvs)))\/(T = "set"/\∃S n,H p=some (.set S n))
 |_=>False
theorem aLn{s:Shared}(I:Inv X pins σ H s)(r:RelV x v)(ty:tyV X.K T x H) :
  s.TypeIs v T/\∀a,v=.ref a->∃ob,s.heap.get? a=some ob/\ob.dict=none:=by
 cases x with
 |str z=>
  obtain⟨t,rfl⟩:=r
  cases (show T = "str" from ty)
  exact⟨typeIs_str s z t,λ_ e=>nomatch e⟩
 |int i=>
  obtain⟨t,rfl⟩:=r
  cases (show T = "int" from ty)
  exact⟨typeIs_int s i t,λ_ e=>nomatch e⟩
 |ref p=>
  cases r
  rcases ty with ⟨rfl,xs,hq⟩|⟨rfl,o,hk,hc,hd⟩|⟨rfl,hk⟩|⟨rfl,S,n,hk⟩
  ·obtain⟨its,_,pl,_⟩:=I.list hq
   refine⟨pl.isList.typeIs,λa e=>?_⟩
   cases e
   obtain⟨o,n,e,c,hd,_⟩:=pl
   exact⟨o,e,hd⟩
  ·refine⟨⟨o,I.rP p o hk,hc⟩,λa e=>?_⟩
   cases e
   exact⟨o,I.rP _ o hk,hd⟩
  ·have z:∃o,s.heap.get? p=some o/\o.ExactDict:=by
    rcases hk with ⟨kvs,hk⟩|⟨kvs,hk⟩
    ·obtain⟨_,_,_,_,o,_,_,e,ex,_⟩:=I.hok p _ hk
     exact⟨o,e,ex⟩
    ·obtain⟨_,_,_,_,o,_,_,e,ex,_⟩:=I.hok p _ hk
     exact⟨o,e,ex⟩
   obtain⟨o,e,ex⟩:=z
   refine⟨⟨o,e,ex.1⟩,λa e2=>?_⟩
   cases e2
   exact⟨o,e,ex.2.1⟩
  ·obtain⟨o,_,_,_,e,ex,_⟩:=I.hok p _ hk
   refine⟨⟨o,e,ex.1⟩,λa e2=>?_⟩
   cases e2
   exact⟨o,e,ex.2.1⟩
 |_=>exact False.elim ty
def tBM(K:W.Frag)(T:String)(r:V->List V->Hp->VK->Prop)(to:TE)(t:TA):TE:=λσ H Q=>to σ H λx H1=>tyV K T x H1/\t σ H1 λxs H2=>r x xs H2 Q
variable{o e:Expr}{es:List Expr}{to:TE}{t:TA}{name:Str}{apos cpos:Pos}{T id:String}{r:V->List V->Hp->VK->Prop}
theorem aDS(pa:PlainAttrs T)(slot:Slot T name id)(hty:typeOf (.builtin id)=pure (.type "method_descriptor"))(hm:MtR X id r)(ho:PE X o to)(ha:PA X (e::es) t)
  (hbase:attributeBase o name X.env (eval o X.env)=eval o X.env:=by rfl)
  (hfew:((backTo cpos (starEach (e::es) X.env)).all (λx=>!x.1) && (backToKw cpos (keywordEach [] X.env)).all (λx=>x.1.isSome)
   && decide ((e::es).length+([]:List Keyword).length+(if ([]:List Keyword).isEmpty then 0 else 1) < 30))=true:=by rfl)
  (hline:(apos.endLine == cpos.line)=true:=by rfl) (hs:starEach (e::es) X.env=(false,eval e X.env)::starEach es X.env:=by rfl) (hplain:(backTo cpos (starEach es X.env)).any (·.1)=false:=by rfl) :
  PE X (.Call (.Attribute o name apos) (e::es) [] cpos) (tBM X.K T r to t):=by
 intro pins s σ H Q I h
 refine wpAny_Call_method_late hbase hfew hline rfl (dY (ho pins s σ H _ I h) λv s1 ⟨x,H1,I1,r1,ty,q1⟩=>?_)
 obtain⟨h1,h2⟩:=aLn I1 r1 ty
 refine⟨T,id,pa,slot,hty,h1,h2,?_⟩
 have hA:=ha cpos pins s1 σ H1 _ I1 q1
 rw[hs] at hA ⊢
 refine Calls.callWith_builtin (by show(false || (backTo cpos (starEach es X.env)).any (·.1))=false;rw[hplain] <;> rfl) (Calls.evalArgs_plain ?_)
 exact dY hA λus s2 ⟨vs,H2,I2,r2,q2⟩=>hm pins s2 σ H2 x vs v us Q I2 r1 r2 q2
end
end L2
namespace L2
open PySem PySem.Spec PyProof.Rows
def MtM(X:Cx)(id:String)(r:V->List V->Hp->VK->Prop):Prop:=
 ∀(pins:List (Addr×Obj)) (s:Shared) (σ:St) (H:Hp) (x:V) (xs:List V) (v:Value) (us:List Value) (Q:VK),Inv X pins σ H s->RelV x v->Vals xs us->r x xs H Q->
  wpAny (model X.prog X.w) X.A (call (.builtin id) (v::us)) (EP X pins σ Q) X.xe s
theorem Vals.one:∀{x:V}{us:List Value},Vals [x] us->∃u,us=[u]/\RelV x u
 |_,_,.cons r .nil=>⟨_,rfl,r⟩
theorem Vals.reverse{xs:List V}{us:List Value}(h:Vals xs us):Vals xs.reverse us.reverse:=by
 induction h with
 |nil=>exact .nil
 |cons r t ih=>rw[List.reverse_cons,List.reverse_cons];exact Vals.append ih (.cons r .nil)
theorem Vals.rep(h:Vals xs us):∀k:Nat,Vals (List.replicate k xs).flatten (List.replicate k us).flatten
 |0=>.nil
 |k+1=>by
  rw[Si9,Si9,Tn9,Tn9]
  exact Vals.append h (Vals.rep h k)
theorem foldl_rep(its:List Value):∀(k:Nat) (acc:List Value),
  List.foldl (λx1 x2=>x1++x2) acc.toArray (List.replicate k its.toArray)=(acc++(List.replicate k its).flatten).toArray
 |0,acc=>by simp
 |k+1,acc=>by
  have e:acc.toArray++its.toArray=(acc++its).toArray:=by simp
  have e2:(acc++its)++(List.replicate k its).flatten=acc++(List.replicate (k+1) its).flatten:=by
   rw[Si9,Tn9,List.append_assoc]
  rw[<-e2,<-foldl_rep its k (acc++its),<-e,Si9,List.foldl_cons]
section
variable{X:Cx}{pins:List (Addr×Obj)}{σ:St}{H:Hp}{s:Shared}{l b:Addr}{xs ys zs:List V}
theorem Inv.aNx{its its':List Value}{n:Nat}{f:Array Value->Array Value}{t':Nat}(I:Inv X pins σ H s)(hH:H l=some (.lst xs))
  (e:s.heap.get? l=some { cls:=.type "list",data:=.seq its.toArray n }) (hf:f its.toArray=its'.toArray) (hv:Vals ys its') (hz:ys.length<=sizeLine) :
  Inv X pins σ (upd H l (.lst ys)) { s with heap:=s.heap.update l (Obj.mapSeq f),toks:=t' }:=by
 have q:=PySem.IsL.update e f
 rw[hf] at q
 refine I.write (x:=l) (e:=l) (by rw[hH];exact trivial) (.inl rfl) (λb' u hb hu=>(Qv9 s.heap (Obj.mapSeq f) (Ne.symm hb)).trans hu) ⟨_,q⟩ ?_
 exact⟨hz,its',_,hv,q⟩
theorem Inv.aLo{t':Nat}(I:Inv X pins σ H s)(hv:Vals ys its)(hz:ys.length<=sizeLine) :
  Inv X pins σ (upd H s.heap.objs.size (.lst ys)) { s with heap:=s.heap.push { cls:=.type "list",data:=.seq its.toArray },toks:=t' }:=
 I.laid (λ_ _ q=>vG _ q) (iI _) ⟨hz,its,0,hv,Qz9 _ rfl⟩
theorem Inv.fresh(I:Inv X pins σ H s):H s.heap.objs.size=none:=I.hok.fresh (iI _)
theorem Inv.aHw(I:Inv X pins σ H s)(hH:H l=some (.lst xs)):xs.length<=sizeLine/\∃(its:List Value) (n:Nat),Vals xs its/\xs.length=its.length/\s.heap.get? l=some { cls:=.type "list",data:=.seq its.toArray n }:=by
 obtain⟨z,its,n,r,e⟩:=I.hok l _ hH
 exact⟨z,its,n,r,r.length,e⟩
theorem aHx{n:Nat}(h:n<=sizeLine):Builtin.List.listTooLong n=false:=by
 unfold Builtin.List.listTooLong
 exact Rp9 (by omega)
end
section
variable{X:Cx}
def aAQ:V->List V->Hp->VK->Prop:=λx vs H Q=>∃l xs y,x=.ref l/\vs=[y]/\H l=some (.lst xs)/\xs.length < sizeLine/\Q .non (upd H l (.lst (xs ++ [y])))
theorem aGy:MtM X "list.append" aAQ:=by
 intro pins s σ H x vs v us Q I rx rv h
 obtain⟨l,xs,y,rfl,rfl,hH,hz,q⟩:=h
 cases rx
 obtain⟨u,rfl,ru⟩:=rv.one
 obtain⟨z,its,n,r,hl,e⟩:=I.aHw hH
 refine call_meets F.slot_list_append ⟨_,e,rfl⟩ F.entry_list_append (F.args_list_append_2 _ _) (PySem.list_append l its.toArray n u (by rw[mP];omega)) ⟨e,?_⟩
 refine⟨.non,_,I.aNx (its':=its ++ [u]) hH e (by simp) (r.append (.cons ru .nil)) ?_,rfl,q⟩
 rw[rA,Rt9]
 omega
def aMQ:R2:=λx y H Q=>∃l b xs zs,x=.ref l/\y=.ref b/\H l=some (.lst xs)/\H b=some (.lst zs)/\xs.length+zs.length<=sizeLine/\∀p,H p=none->Q (.ref p) (upd H p (.lst (xs++zs)))
theorem aLp:pU X (binaryOp .Add) aMQ:=by
 intro pins s σ H x y v u Q I rx ry h
 obtain⟨l,b,xs,zs,rfl,rfl,hH,hB,hz,q⟩:=h
 cases rx
 cases ry
 obtain⟨z,its,n,r,hl,e⟩:=I.aHw hH
 obtain⟨z2,its2,n2,r2,hl2,e2⟩:=I.aHw hB
 refine PySem.P.add_list e e2 ?_ (by rw[mP,mP];omega)
 have ea:its.toArray++its2.toArray=(its++its2).toArray:=by simp
 rw[ea]
 exact⟨.ref _,_,I.aLo (t':=s.toks) (r.append r2) (by rw[rA];omega),rfl,q _ I.fresh⟩
def aMR:R2:=λx y H Q=>∃l k xs,x=.ref l/\y=.int k/\H l=some (.lst xs)/\-(2 ^ 63)<=k/\k < 2 ^ 63/\xs.length*k.toNat<=sizeLine/\
 ∀p,H p=none->Q (.ref p) (upd H p (.lst (List.replicate k.toNat xs).flatten))
theorem len_rep{α:Type}(xs:List α)(k:Nat):(List.replicate k xs).flatten.length=k*xs.length:=by
 induction k with
 |zero=>simp
 |succ k ih=>rw[Si9,Tn9,rA,ih,Nat.succ_mul,Nat.add_comm]
theorem aLq:pU X (binaryOp .Mult) aMR:=by
 intro pins s σ H x y v u Q I rx ry h
 obtain⟨l,k,xs,rfl,rfl,hH,h1,h2,hz,q⟩:=h
 cases rx
 obtain⟨t,rfl⟩:=ry
 obtain⟨z,its,n,r,hl,e⟩:=I.aHw hH
 have hlen:its.toArray.size*k.toNat<=sizeLine:=by rw[mP,<-hl];exact hz
 have hcap:¬its.toArray.size*k.toNat > (2 ^ 63 - 1) / 8:=by
  have:(sizeLine:Nat)<=(2 ^ 63 - 1) / 8:=by decide
  omega
 have hfit:¬(!Builtin.List.listFitsIndex k)=true:=by
  rw[fitsIndex_both h1 h2]
  exact Qu9
 have hlong:¬Builtin.List.listTooLong (its.toArray.size*k.toNat)=true:=by
  rw[aHx hlen]
  exact Qu9
 have hnew:List.foldl (λx1 x2=>x1++x2) #[] (List.replicate (if its.toArray.isEmpty=true then 0 else k.toNat) its.toArray)=(List.replicate k.toNat its).flatten.toArray:=by
  have f0:∀m:Nat,List.foldl (λx1 x2=>x1++x2) #[] (List.replicate m its.toArray)=(List.replicate m its).flatten.toArray:=λm=>by
   have:=foldl_rep its m []
   rw[Ta9] at this
   exact this
  rw[f0]
  cases its with
  |nil=>simp
  |cons a r'=>rw[fQ (by simp)]
 refine wpAny_binaryOp_repeat_ref (T:="list") (U:="int") (by decide) ⟨_,e,rfl⟩ (λs'=>typeIs_int s' k t) noFill_list_mul F.fills_int_mul F.slot_int_rmul repeat_list F.slot_int_index.lookup
  (call_meets F.slot_int_rmul (typeIs_int s k t) F.entry_int_rmul (F.args_int_rmul_2 _ _) (int___rmul___int_list k t l its.toArray n)
   ⟨e,rfl,⟨_,e,rfl⟩,call_meets F.slot_list_mul ⟨_,e,rfl⟩ F.entry_list_mul (F.args_list_mul_2 _ _) (AutoListH.list___mul___list_int_3 l its.toArray n k t hfit hcap hlong) ⟨e,?_⟩⟩)
 rw[hnew]
 exact⟨.ref _,_,I.aLo (t':=s.toks) (r.rep k.toNat) (by rw[len_rep,Nat.mul_comm];exact hz),rfl,q _ I.fresh⟩
end
section
variable{prog:Program}{w:World}{A:Around}{E:Value->Shared->Prop}{s:Shared}
end
section
variable{X:Cx}
end
end L2
namespace L2
open PySem PySem.Spec PyProof.Rows
section
variable{κ:Type}[DecidableEq κ]
def aJl(kvs:List (κ×V))(k:κ):Option V:=(kvs.find? λkv=>decide (kv.1=k)).map (·.2)
def putK(kvs:List (κ×V))(k:κ)(v:V):List (κ×V):=
 if (kvs.any λkv=>decide (kv.1=k))=true then kvs.map (λkv=>if kv.1=k then (kv.1,v) else kv) else kvs ++ [(k,v)]
theorem KV.any{kvs:List (κ×V)}{vs:List (κ×Value)}(r:KV kvs vs)(k:κ):(kvs.any λkv=>decide (kv.1=k))=vs.any λkv=>decide (kv.1=k):=by
 unfold KV at r
 induction r with
 |nil=>rfl
 |cons h t ih=>rw[Td9,Td9,ih,h.1]
theorem KV.length{kvs:List (κ×V)}{vs:List (κ×Value)}(r:KV kvs vs):kvs.length=vs.length:=Paired.length r
end
section
variable{P:Program}{w:World}{H:Hp}{h:Heap}{a:Addr}
end
def aJm(H:Hp)(a:Addr)(y:V)(r:Option V):Prop:=
 (∃kvs k,Rd H a (.dK kvs)/\y=kV k/\r=aJl kvs k)\/∃kvs k b,Rd H a (.dT kvs)/\y=.ref b/\H b=some (.tup (k.map kV))/\r=aJl kvs k
def aJn(H:Hp)(a:Addr)(y v:V)(H':Hp):Prop:=
 (∃kvs k,H a=some (.dK kvs)/\y=kV k/\kvs.length < sizeLine/\H'=upd H a (.dK (putK kvs k v)))\/
 ∃kvs k b,H a=some (.dT kvs)/\y=.ref b/\H b=some (.tup (k.map kV))/\kvs.length < sizeLine/\H'=upd H a (.dT (putK kvs k v))
theorem aJm.k{H:Hp}{a:Addr}{kvs:List (Key×V)}{k:Key}(e:H a=some (.dK kvs)):aJm H a (kV k) (aJl kvs k):=.inl ⟨kvs,k,.inl e,rfl,rfl⟩
theorem aJm.t{k:List Key}(e:H a=some (.dT kvs))(eb:H b=some (.tup (k.map kV))):aJm H a (.ref b) (aJl kvs k):=.inr ⟨kvs,k,b,.inl e,rfl,eb,rfl⟩
theorem aJn.k{H:Hp}{a:Addr}{kvs:List (Key×V)}{k:Key}{v:V}(e:H a=some (.dK kvs))(hl:kvs.length < sizeLine):aJn H a (kV k) v (upd H a (.dK (putK kvs k v))):=.inl ⟨kvs,k,e,rfl,hl,rfl⟩
theorem aJn.t{kvs:List (List Key×V)}{k:List Key}(e:H a=some (.dT kvs))(eb:H b=some (.tup (k.map kV)))(hl:kvs.length < sizeLine) :
  aJn H a (.ref b) v (upd H a (.dT (putK kvs k v))):=.inr ⟨kvs,k,b,e,rfl,eb,hl,rfl⟩
section
variable{X:Cx}{pins:List (Addr×Obj)}{σ:St}{H:Hp}{s:Shared}{a:Addr}{y v:V}{u r:Value}{o:Option V}{A:Around}{E:Value->Shared->Prop}
end
section
variable{X:Cx}{pins:List (Addr×Obj)}{σ:St}{H:Hp}{s:Shared}{a:Addr}{kvs:List (Key×V)}{k:Key}{u:Value}{A:Around}{E:Value->Shared->Prop}
end
section
variable{X:Cx}{o i e value:Expr}{pos pos' tpos:Pos}{td ty tv:TE}
end
section
variable{X:Cx}{pos:Pos}
end
section
variable{X:Cx}{pins:List (Addr×Obj)}{σ:St}{H:Hp}{s:Shared}{a:Addr}{y d:V}{u r:Value}{o:Option V}{A:Around}{E:Value->Shared->Prop}
end
section
variable{X:Cx}{o e f:Expr}{apos cpos:Pos}{td ty tx:TE}
end
section
variable{X:Cx}{pins:List (Addr×Obj)}{σ:St}{H:Hp}{s:Shared}{a:Addr}{kvs:List (Key×V)}{A:Around}{E:Value->Shared->Prop}
end
section
variable{X:Cx}{pins:List (Addr×Obj)}{σ:St}{H:Hp}{s:Shared}{a:Addr}{y:V}{u:Value}{A:Around}{E:Value->Shared->Prop}
end
end L2
namespace Att
open PySem PySem.W PySem.Calls PyProof.Rows
theorem aAD:∀(ns:List Int) (vs:List Value),WellAll P h vs (ns.map WData.int)->IntsAre vs ns:=by
 intro ns
 induction ns with
 |nil=>
  intro vs w
  rw[List.map_nil] at w
  cases w
  exact .nil
 |cons n ns ih=>
  intro vs w
  rw[Sn9] at w
  cases w with
  |cons a b=>
   cases a
   exact .cons _ _ (ih _ b)
theorem aGz{l:OpenLaw}{n:Nat}(hn:l.most=some n){h:Heap}(hpre:l.row.toRowW.claim.pre args=true)(hwl:WellAll P h vals args) :
  ∃a vs ns,vals=[Value.ref a]/\args=[WData.list (ns.map WData.int)]/\h.get? a=some { cls:=.type "list",data:=.seq vs.toArray }/\IntsAre vs ns/\ns.length<=n:=by
 have hsh:WShape.hasAll [] args [.list .int]=true:=(pre_splitW hpre).1
 have hc:l.pre.holds [] { args:=args } = true:=(pre_splitW hpre).2
 obtain⟨d,r,rfl,h1,h2⟩:=hasAllW_cons hsh
 obtain rfl:=hasAllW_nil h2
 obtain⟨xs,rfl,h3⟩:=hasW_list h1
 obtain⟨ns,rfl⟩:=items_int h3
 have hlen:ns.length<=n:=by
  unfold OpenLaw.pre at hc
  have h4:(WTm.not (.lt (.lit (.int (n:Int))) (.len (.arg 0)))).holds [] { args:=[.list (ns.map .int)] } = true:=by
   have h4:=(holds_andW hc).1
   rw[hn] at h4
   exact h4
  have h5:=condW_of h4 (w_not (w_lt w_lit (w_len_list (w_arg rfl))))
  rw[cC] at h5
  refine Nat.le_of_not_lt λq=>?_
  have q':(n:Int) < ((ns.length:Nat):Int):=by omega
  first
   |(rw[Rv9 q'] at h5;exact absurd h5 (by decide))
   |(simp at h5;omega)
 cases hwl with
 |cons w1 w2=>
  cases w2
  cases w1 with
  |list ho hall=>exact⟨_,_,ns,rfl,rfl,ho,aAD ns _ hall,hlen⟩
theorem aGA(l:OpenLaw)(args:List WData):l.row.toRowW.claim.post args (.bool true) args=true:=
 postW_of (r:=l.row.toRowW) (X:=(true == true))
  (show WShape.has [] (.bool true) .bool=true by first|rfl|decide|simp[WShape.has,WShape.arms,WShape.armsAll])
  (show(WTm.eq .res (.lit (.bool true))).value [] { args:=args,res:=some (.bool true),after:=args } = some (.bool (true == true)) from w_eq_bool (w_res rfl) w_lit) rfl
theorem aDT{l:OpenLaw}{n:Nat}{XP:(Str->Option Value)->Heap->Prop}{YP:World->Heap->Prop}{d:DefRec}(hn:l.most=some n)(hdf:d.params.defaults=[])(call:∀(w:World) (s₀ s₁:Shared) (mg mb:Str->Option Value) (fa:Addr) (o:Obj) (pm cd doc:Value) (a:Addr) (vs:List Value) (ns:List Int),
   Ground q loose [] XP w s₀ mg mb s₁.heap->YP w s₁.heap->
   s₁.heap.get? fa=some o->o.data=.func (docDef d.name d.params d.body d.scope pm cd doc)->s₁.heap.CodeRec cd d.name->mg d.name=some (.ref fa)->
   s₁.heap.get? a=some { cls:=.type "list",data:=.seq vs.toArray }->IntsAre vs ns->ns.length<=n->s₁.gens = #[]->
   codeAny (model l.prog w) callerA (.call (.ref fa) ⟨[.ref a],[]⟩) (λr s'=>r=.ok (.ret (.bool true))/\OldK s₁.heap s'.heap/\s'.os=s₁.os/\AllBare s'.gens) s₁) :
  WalkO q loose XP YP l.row.toRowW d [] (λf vs=>PySem.call f vs):=by
 intro w s₀ s₁ mg mb G Y fa o pm cd doc dV kV ho hd hcd hD hmg hg args vals as hpre hlay hrd hwl hlo
 obtain rfl:dV=.none:=Dflts.none hD hdf
 obtain rfl:kV=.none:=Dflts.noKw hD
 obtain⟨a,vs,ns,rfl,rfl,hobj,hints,hlen⟩:=aGz hn hpre hwl
 refine enter_call (codeAny_mono (call w s₀ s₁ mg mb fa o pm cd doc a vs ns G Y ho (fd_plain hd) hcd hmg hobj hints hlen hg) λr s' hq=>?_)
 obtain⟨rfl,h2,h3,h4⟩:=hq
 exact⟨.inl ⟨.bool true,.bool true,[],rfl,λ_=>rfl,.bool true,aGA l _,λ_=>⟨List.Pairwise.nil,λ_ hm=>(nomatch hm)⟩⟩,h2,h3,h4⟩
section
variable{prog:Program}{w:World}{A:Around}{E:Value->Shared->Prop}{s:Shared}{K:Frag}
end
end Att
namespace L2
open PySem PySem.Spec PyProof.Rows
theorem zI:∀{vs:List Value}{ns:List Int},IntsAre vs ns->Vals (ns.map V.int) vs
 |_,_,.nil=>.nil
 |_,_,.cons n t h=>.cons ⟨t,rfl⟩ (zI h)
def aLr(H:Hp):Prop:=∀b,H b=none\/∃o xs,H b=some (.frz o (.lst xs))
theorem aHy{K:PySem.W.Frag}{mg mb:Str->Option Value}{CX:CXT}{k:Nat}{sp:Sp}{s₁:Shared}{vs:List Value}{ns:List Int}(KX:K.In s₁.heap)(hns:s₁.heap.Ns mainGlobals mg)(hb:s₁.heap.Ns builtinsNs mb)(hbb:∀x:Str,x≠"__name__"->mb x=bootBuiltins x)(hlim:s₁.heap.NoLimit)(hbm:∃bm o,mg "__builtins__" = some (.ref bm)/\bm≠builtinsNs/\s₁.heap.get? bm=some o/\o.cls=.type "module"/\o.dict=some builtinsNs/\o.data=.plain)(hg:s₁.gens = #[])(ha:s₁.heap.get? a=some { cls:=.type "list",data:=.seq vs.toArray })(hi:IntsAre vs ns)(hl:ns.length<=sizeLine)(hr:gS k callerA)(F:∀base:Heap,K.In base->base.Ns mainGlobals mg->cT P w K mg base CX k fa fd [x] sp)(hbind:∀(s:Shared) (u:Value),BindsTo s fd ⟨[u],[]⟩ [(x,u)])(hsp:∀H:Hp,aLr H->bQ K H a (ns.map V.int)->sp [.ref a] H (λv _=>v=.bl true) λ_ _ _=>False)(hCX:∀H e s',CX [] H s₁ (λ_ _ _=>False) e s'->False) :
  codeAny (model P w) callerA (.call (.ref fa) ⟨[.ref a],[]⟩) (λr s'=>r=.ok (.ret (.bool true))/\OldK s₁.heap s'.heap/\s'.os=s₁.os/\AllBare s'.gens) s₁:=by
 have rv:=zI hi
 have lenV:=hi.length
 have core:∀H:Hp,aLr H->bQ K H a (ns.map V.int)->wA P w H s₁.heap->(∀b,H b≠none->b=a)->(H a≠none->K.lookup a=none)->
   codeAny (model P w) callerA (.call (.ref fa) ⟨[.ref a],[]⟩) (λr s'=>r=.ok (.ret (.bool true))/\OldK s₁.heap s'.heap/\s'.os=s₁.os/\AllBare s'.gens) s₁:=by
  intro H hO hS hok hA hK
  have base_of:∀{b:Addr} {o:Obj},s₁.heap.get? b=some o->H b=none->(aBK s₁.heap H).get? b=some o:=λe n=>aG6 e n
  have noA:∀{b:Addr} {o:Obj} {es:Array DictEntry} {ep:Nat},s₁.heap.get? b=some o->o.data=.dict es ep->H b=none:=λ{b o es ep} e d=>by
   cases q:H b with
   |none=>rfl
   |some u=>
    have e':b=a:=hA b (by rw[q];simp)
    subst e'
    rw[ha] at e;cases e
    have d':Data.seq vs.toArray _=Data.dict es ep:=d
    cases d'
  have nsK:∀{b:Addr} {m:Str->Option Value},s₁.heap.Ns b m->(aBK s₁.heap H).Ns b m:=λ{b m} ⟨o,es,ep,e,d,r⟩=>⟨o,es,ep,base_of e (noA e d),d,r⟩
  have hKb:K.In (aBK s₁.heap H):=λb o e=>base_of (KX b o e) (by
   cases q:H b with
   |none=>rfl
   |some u=>
    have e':b=a:=hA b (by rw[q];simp)
    subst e'
    rw[hK (by rw[q];simp)] at e;cases e)
  have hbm':∃bm o,mg "__builtins__" = some (.ref bm)/\bm≠builtinsNs/\(aBK s₁.heap H).get? bm=some o/\o.cls=.type "module"/\o.dict=some builtinsNs/\o.data=.plain:=by
   obtain⟨bm,ob,b1,b2,b3,b4,b5,b6⟩:=hbm
   refine⟨bm,ob,b1,b2,base_of b3 ?_,b4,b5,b6⟩
   cases q:H bm with
   |none=>rfl
   |some u=>
    have e':bm=a:=hA bm (by rw[q];simp)
    rw[e',ha] at b3
    cases b3
    exact absurd (show Value.type "list" = Value.type "module" from b4) (by decide)
  have hM:Mod K mg (aBK s₁.heap H):=⟨hKb,nsK hns,⟨mb,nsK hb,hbb⟩,(let ⟨mc,h1,h2⟩:=hlim;⟨mc,nsK h1,h2⟩),hbm'⟩
  have e0:aEY P w K mg (aBK s₁.heap H) callerA [] s₁ H:=⟨rfl,hM,λb o e=>aIV e,Ty9 (aGj _ _),trivial,λb hb=>absurd (show b∈([]:List Addr) from hb) (by simp),hok,.of_eq hg⟩
  refine codeAny_mono ((F _ hKb (nsK hns)).run callerA [] s₁ H ⟨[.ref a],[]⟩ [.ref a] [.ref a] _ _ hr e0 (hbind s₁ (.ref a)) (.cons rfl .nil) (hsp H hO hS)) λr s' h=>?_
  cases r with
  |error e=>exact(hCX H e s' h).elim
  |ok fl=>
   cases fl with
   |next=>exact False.elim h
   |brk=>exact False.elim h
   |cont=>exact False.elim h
   |ret u=>
    obtain⟨v,H',os,bare,un,hok',r',q⟩:=h
    have q':v=.bl true:=q
    subst q'
    obtain rfl:u=Value.bool true:=r'
    refine⟨rfl,OldK.of_keep λb o e=>?_,os,bare⟩
    cases q:H b with
    |none=>exact un.keep b o e q (by intro z;exact absurd (show b∈([]:List Addr) from z) (by simp)) (by simp)
    |some u=>
     rcases hO b with z|⟨ob,xs,z⟩
     ·rw[q] at z;cases z
     ·have z2:=un.frzs b ob _ z
      obtain⟨e1,_⟩:=hok b _ z
      obtain⟨e2,_⟩:=hok' b _ z2
      rw[e] at e1;cases e1
      exact e2
 cases hk:K.lookup a with
 |some o=>
  have e:=KX a o hk
  rw[ha] at e
  cases e
  refine core (λ_=>none) (λ_=>.inl rfl) (.inr ⟨_,vs.toArray,_,hk,rfl,rfl,rfl,by rw[mP,lenV];exact hl,by simpa using rv⟩) (λb u z=>by have z':(none:Option HO)=some u:=z;cases z') (λb z=>absurd rfl z) λz=>absurd rfl z
 |none=>
  refine core (λb=>if b=a then some (.frz { cls:=.type "list",data:=.seq vs.toArray } (.lst (ns.map V.int))) else none) (λb=>?_) (.inl (.inr ⟨{ cls:=.type "list",data:=.seq vs.toArray },gU rfl⟩)) (λb u z=>?_) (λb z=>?_) λ_=>hk
  ·by_cases hb:b=a
   ·exact .inr ⟨_,_,gU hb⟩
   ·exact .inl (fQ hb)
  ·by_cases hb:b=a
   ·have z':=(gU hb).symm.trans z
    cases z'
    subst hb
    exact⟨ha,by rw[cC];exact hl,vs,_,rv,ha⟩
   ·have z':=(fQ hb).symm.trans z
    cases z'
  ·by_cases hb:b=a
   ·exact hb
   ·exact absurd (fQ hb) z
end L2
namespace L2
open PySem PySem.Spec PyProof.Rows
theorem aJo{l:PySem.W.OpenLaw}{n k:Nat}{q:Program}{loose:List Str}{XP:(Str->Option Value)->Heap->Prop}{YP:World->Heap->Prop}{d:DefRec}{K:Params->W.Frag}{CX:World->CXT}{sp:World->Sp}{x:Str}
  (hn:l.most=some n) (hn2:n<=sizeLine) (hdf:d.params.defaults=[]) (hr:gS k callerA)
  (hY:∀(w:World) (h:Heap),YP w h->(K w.params).In h)
  (F:∀(w:World) (mg:Str->Option Value) (fa:Addr) (h:Heap),(K w.params).In h->h.Ns mainGlobals mg->mg d.name=some (.ref fa)->
   ∃fd:FuncData,(∀(s:Shared) (u:Value),BindsTo s fd ⟨[u],[]⟩ [(x,u)])/\
    ∀base:Heap,(K w.params).In base->base.Ns mainGlobals mg->cT l.prog w (K w.params) mg base (CX w) k fa fd [x] (sp w))
  (hsp:∀(w:World) (H:Hp) (a:Addr) (ns:List Int),ns.length<=n->aLr H->bQ (K w.params) H a (ns.map V.int)->sp w [.ref a] H (λv _=>v=.bl true) λ_ _ _=>False)
  (hCX:∀(w:World) (H:Hp) (s:Shared) (e:Value) (s':Shared),CX w [] H s (λ_ _ _=>False) e s'->False) :
  PySem.W.WalkO q loose XP YP l.row.toRowW d [] (λf vs=>PySem.call f vs):=by
 refine Att.aDT hn hdf λw s₀ s₁ mg mb fa o pm cd doc a vs ns G Y ho hd hcd hmg hobj hints hlen hg=>?_
 have KX:=hY w _ Y
 obtain⟨fd,hb,hF⟩:=F w mg fa _ KX G.T.g hmg
 exact aHy KX G.T.g G.T.b G.T.builtins G.T.nolimit G.T.bmain hg hobj hints (wZ hlen hn2) hr hF hb (λH hO hS=>hsp w H a ns hlen hO hS) λH e s'=>hCX w H s₁ e s'
end L2
namespace L2
open PySem PySem.Spec PyProof.Rows
def inClass(s:Stmt)(j:Nat):Stmt:=match s with
 |.ClassDef _ _ _ body _ _ _ _ _ _ _=>body.getD j (.Pass ⟨0,0,0,0⟩)
 |_=>.Pass ⟨0,0,0,0⟩
def bL(s:Stmt):Arguments:=match s with
 |.FunctionDef _ a _ _ _ _ _ _ _ _=>a
 |_=>{ posonlyargs:=[],args:=[],vararg:=none,kwonlyargs:=[],kw_defaults:=[],kwarg:=none,defaults:=[] }
def bI(s:Stmt):List Stmt:=match s with
 |.FunctionDef _ _ b _ _ _ _ _ _ _=>b
 |_=>[]
def aH(s:Stmt):Scope:=match s with
 |.FunctionDef _ _ _ _ _ _ sc _ _ _=>sc
 |_=>{ kind:=.function,names:=[],isGenerator:=false,isCoroutine:=false }
abbrev tZ:CXT:=λ_ _ _ _ _ _=>False
abbrev E0:XK:=λ_ _ _=>False
theorem bE:Passes tZ X E0:=λ_ _ _ _ _ _ _ h=>h.elim
structure pT(K:W.Frag)(x qual:Str)(st:Stmt)(f:Addr)(fd:FuncData):Prop where
 ex:∃(oc:Value) (od:Option Addr) (kV doc pm:Value) (an:Option Addr) (cdv ct:Value) (osl:Array (Option Value)),
  fd=W.fnOf x qual (bL st) (bI st) (aH st) .none kV doc pm an cdv ct/\K.lookup f=some ⟨oc,od,.func fd,osl⟩/\W.codeIn K cdv qual=true
 kp:W.keepIn K (.ref f)=true
section
variable{P:Program}{w:World}{K:W.Frag}{mg:Str->Option Value}{base:Heap}
theorem pT.ok{x qual:Str}{st:Stmt}{f:Addr}{fd:FuncData}{N ps:List Str}{k:Nat}{sp:Sp}(F:pT K x qual st f fd)(S:bK N ps (aH st))(len:∀vs H Q E,sp vs H Q E->vs.length=ps.length)
  (hbody:∀(cdv:Value) (A:Around) (outer:List Env) (s:Shared) (H:Hp) (vs:List V) (Q:VK) (E:XK),gS k (A.deeper (envOfC qual (aH st) s.heap.objs.size f cdv))->sp vs H Q E->
   ∃t,PSs (mQ tZ P w K mg base N qual (aH st) f cdv A outer s H E).nox (bI st) t/\t { nx:=λ_ H'=>Q .non H',rt:=Q } (start N vs) H):cT P w K mg base tZ (k+1) f fd ps sp:=by
 obtain⟨oc,od,kV,doc,pm,an,cdv,ct,osl,rfl,lk,hcd⟩:=F.ex
 refine aKt lk hcd S len λA outer s H vs Q E hr hsp=>?_
 obtain⟨t,h,q⟩:=hbody cdv A outer s H vs Q E hr hsp
 exact⟨t,h.nox,q⟩
theorem pT.binds{x qual:Str}{st:Stmt}{f:Addr}{fd:FuncData}{ps:List Str}(F:pT K x qual st f fd)
  (h:∀(kV doc pm:Value) (an:Option Addr) (cdv ct:Value) (us:List Value),us.length=ps.length->bindArgs (W.fnOf x qual (bL st) (bI st) (aH st) .none kV doc pm an cdv ct) ⟨us,[]⟩=pure (ps.zip us)):Binds K fd ps []:=by
 obtain⟨oc,od,kV,doc,pm,an,cdv,ct,osl,rfl,lk,hcd⟩:=F.ex
 exact .all (h kV doc pm an cdv ct)
theorem cE{x qual:Str}{st:Stmt}{f:Addr}{oc:Value}{od an:Option Addr}{osl:Array (Option Value)}{kV doc pm cdv ct:Value}(l:K.lookup f=some ⟨oc,od,.func (W.fnOf x qual (bL st) (bI st) (aH st) .none kV doc pm an cdv ct),osl⟩)
  (c:W.codeIn K cdv qual=true) (k:W.keepIn K (.ref f)=true):pT K x qual st f (W.fnOf x qual (bL st) (bI st) (aH st) .none kV doc pm an cdv ct):=⟨⟨oc,od,kV,doc,pm,an,cdv,ct,osl,rfl,l,c⟩,k⟩
end
section
variable{X:Cx}
end
theorem aJp{A B:Prop}(h:B):if false=true then A else B:=by
 rw[fQ Qu9]
 exact h
theorem aHz{A B:Prop}(h:A):if true=true then A else B:=by
 rw[gU rfl]
 exact h
def aT(H H':Hp):Prop:=∀b o,H b=some o->H' b=some o
theorem aT.refl(H:Hp):aT H H:=λ_ _ h=>h
theorem aT.trans(a:aT H H1)(b:aT H1 H2):aT H H2:=λc o h=>b c o (a c o h)
theorem aT.free(e:aT H H')(h:H' l=Option.none):H l=Option.none:=by
 cases q:H l with
 |none=>rfl
 |some o=>
  rw[e l o q] at h
  cases h
theorem aT.seq{K:W.Frag}{H H':Hp}{a:Addr}{xs:List V}(e:aT H H')(h:bQ K H a xs):bQ K H' a xs:=by
 rcases h with (h|⟨o,h⟩)|h
 ·exact .inl (.inl (e _ _ h))
 ·exact .inl (.inr ⟨o,e _ _ h⟩)
 ·exact .inr h
section
variable{κ:Type}[DecidableEq κ]
end
end L2
namespace L2
open PySem PySem.Spec PyProof.Rows
section
variable{prog:Program}{w:World}{A:Around}{R:Result->Shared->Prop}{s:Shared}
theorem aAe(I:Nat->Shared->Prop)(turn:∀n s,I n s->wpAny (model prog w) A (pyNext it) (λr s₁=>match r with
   |none=>R (.ok .next) s₁
   |some v=>wpAny (model prog w) A (letOwnedTupleGo target it v) (λ_ s₁'=>wpAny (model prog w) A (assign target env v) (λ_ s₂=>
     wpAny (model prog w) A (forIn ifs true λc r=>if r=true then do let ok <-isTrue c env (eval c env);pure (ForInStep.yield ok) else pure (ForInStep.yield r)) (λok s₃=>
      if ok=true then wpAny (model prog w) A (eval elt env) (λx s₄=>
       wpAny (model prog w) A (call (.builtin "list.append") [acc,x]) (λ_ s₅=>∃m,m < n/\I m s₅) (notedBy (model prog w) A env λe s'=>R (.error e) s') s₄) (notedBy (model prog w) A env λe s'=>R (.error e) s') s₃
      else ∃m,m < n/\I m s₃) (notedBy (model prog w) A env λe s'=>R (.error e) s') s₂) (notedBy (model prog w) A env λe s'=>R (.error e) s') s₁') (notedBy (model prog w) A env λe s'=>R (.error e) s') s₁)
   (notedBy (model prog w) A env λe s'=>R (.error e) s') s) (n:Nat) (h:I n s) :
  codeAny (model prog w) A (.compLoop (.ListComp elt [⟨target,iter,ifs,0⟩] scope pos) 0 it acc env) R s:=by
 refine codeAny_loop rfl I (λn s hI=>?_) n h
 show wpAny _ A ((compTurn (.ListComp elt [⟨target,iter,ifs,0⟩] scope pos) 0 it acc env).onRaise (λx=>do noteFrame x env;theTreesLotGoes x)) _ _ s
 refine wpAny_noted ?_
 rw[compTurn_list]
 refine cM (wpAny_standAt (cM (Rs9 (turn n s hI) (λr s₁ h₁=>?_) λ_ _ h'=>h')))
 cases r with
 |none=>exact jY h₁
 |some v=>
  refine cM (Rs9 h₁ (λ_ s₁' h₁'=>?_) λ_ _ h'=>h')
  refine cM (Rs9 h₁' (λ_ s₂ h₂=>cM (Rs9 h₂ (λok s₃ h₃=>?_) λ_ _ h'=>h')) λ_ _ h'=>h')
  cases ok with
  |false=>exact jY ⟨rfl,h₃⟩
  |true=>
   exact cM (cM (Rs9 h₃ (λx s₄ h₄=>cM (Rs9 h₄ (λ_ s₅ h₅=>jY (jY ⟨rfl,h₅⟩)) λ_ _ h'=>h')) λ_ _ h'=>h'))
end
def mZ(env:Env):List (Str×NameKind)->List (Str×Addr)->List (Str×Addr)
 |[],cs=>cs
 |(n,k)::r,cs=>mZ env r (if (k == NameKind.free)=true then (n,(env.cells.lookup n).getD 0)::cs else cs)
theorem rT{scope:Scope}{env:Env}(h:∀x∈scope.names,x.2=.free->∃c,env.cells.lookup x.1=some c):closureFor scope env=pure (mZ env scope.names []):=by
 simp only[closureFor]
 generalize ([]:List (Str×Addr))=cs
 revert h cs
 generalize scope.names=names
 intro h
 induction names with
 |nil=>intro cs;rfl
 |cons x r ih=>
  intro cs
  obtain⟨n,k⟩:=x
  have ih:=ih λy hy=>h y (Qr9 _ hy)
  rw[List.forIn_cons]
  by_cases hk:k=.free
  ·subst hk
   obtain⟨c,hc⟩:=h (n,.free) Rf9 rfl
   have hc':env.cells.lookup n=some c:=hc
   have e:mZ env ((n,NameKind.free)::r) cs=mZ env r ((n,c)::cs):=by
    show mZ env r (if (NameKind.free == NameKind.free)=true then (n,(env.cells.lookup n).getD 0)::cs else cs)=_
    rw[hc']
    rfl
   rw[e,<-ih]
   simp only[cellOf,hc',beq_self_eq_true,if_true]
   rfl
  ·have hb:(k == NameKind.free)=false:=by simpa using hk
   have e:mZ env ((n,k)::r) cs=mZ env r cs:=by
    show mZ env r (if (k == NameKind.free)=true then (n,(env.cells.lookup n).getD 0)::cs else cs)=_
    rw[hb]
    rfl
   rw[e,<-ih]
   simp only[hb,Bool.false_eq_true,if_false]
   rfl
theorem aA7{env:Env}:∀(names:List (Str×NameKind)) (cs:List (Str×Addr)),(∀y∈names,y.2=.free->∃c,env.cells.lookup y.1=some c)->(x,c)∈mZ env names cs->(x,c)∈cs\/env.cells.lookup x=some c
 |[],cs,_,h=>.inl h
 |(n,k)::r,cs,hf,h=>by
  have h':(x,c)∈mZ env r (if (k == NameKind.free)=true then (n,(env.cells.lookup n).getD 0)::cs else cs):=h
  rcases aA7 r _ (λy hy=>hf y (Qr9 _ hy)) h' with q|q
  ·by_cases hk:(k == NameKind.free)=true
   ·rw[gU hk] at q
    rcases rN.mp q with e|q
    ·cases e
     obtain⟨c,hc⟩:=hf (x,k) Rf9 (by simpa using hk)
     have hc':env.cells.lookup x=some c:=hc
     rw[hc']
     exact .inr rfl
    ·exact .inl q
   ·rw[fQ hk] at q
    exact .inl q
  ·exact .inr q
theorem aDU:∀(names:List (Str×NameKind)) (cs:List (Str×Addr)),p∈cs->p∈mZ env names cs
 |[],_,h=>h
 |(n,k)::r,cs,h=>by
  show p∈mZ env r (if (k == NameKind.free)=true then (n,(env.cells.lookup n).getD 0)::cs else cs)
  refine aDU r _ ?_
  split
  ·exact Qr9 _ h
  ·exact h
theorem aDV{env:Env}:∀(names:List (Str×NameKind)) (cs:List (Str×Addr)),(x,NameKind.free)∈names->env.cells.lookup x=some c->(x,c)∈mZ env names cs
 |[],_,h,_=>by cases h
 |(n,k)::r,cs,h,hc=>by
  show(x,c)∈mZ env r (if (k == NameKind.free)=true then (n,(env.cells.lookup n).getD 0)::cs else cs)
  rcases rN.mp h with e|h
  ·cases e
   refine aDU r _ ?_
   rw[gU (by simp),hc]
   exact Rf9
  ·exact aDV r _ h hc
theorem wI:∀{l:List (Str×Addr)},(x,c)∈l->(∀d,(x,d)∈l->d=c)->l.lookup x=some c
 |[],h,_=>by cases h
 |(n,d)::r,h,u=>by
  rw[Rn9]
  by_cases e:x=n
  ·subst e
   rw[beq_self_eq_true]
   rw[u d Rf9]
  ·rw[show(x == n)=false by simpa using e]
   rcases rN.mp h with q|q
   ·cases q
    exact absurd rfl e
   ·exact wI q λd hd=>u d (Qr9 _ hd)
theorem aAf{env:Env}(hf:∀y∈names,y.2=.free->∃c,env.cells.lookup y.1=some c)(hx:(x,NameKind.free)∈names)(hc:env.cells.lookup x=some c):(mZ env names []).lookup x=some c:=
 wI (aDV names [] hx hc) λd hd=>by
  rcases aA7 names [] hf hd with q|q
  ·cases q
  ·rw[hc] at q
   exact(Option.some.inj q).symm
theorem lM{env:Env}(hf:∀y∈names,y.2=.free->∃c,env.cells.lookup y.1=some c)(h:(mZ env names []).lookup x=some c):env.cells.lookup x=some c:=by
 rcases aA7 names [] hf (PySem.mem_of_lookup h) with q|q
 ·cases q
 ·exact q
end L2
namespace L2
open PySem PySem.Spec PyProof.Rows
def cxC(X:Cx)(scope:Scope)(N:List Str)(fp:List Addr)(C:Addr)(s:Shared)(H:Hp):Cx where
 prog:=X.prog
 w:=X.w
 K:=X.K
 mg:=X.mg
 base:=X.base
 A:=X.A
 N:=N
 s₀:=s
 H₀:=H
 env:=compEnvC scope (mZ X.env scope.names []) C X.env
 outer:=X.stack
 stack:=X.stack
 ex:=fp
 fn:=λ_=>false
 calm:=X.calm
 pn:=[]
 xe:=λ_ _=>False
theorem wA.aHA{P:Program}{w:World}{H:Hp}{h:Heap}{a:Addr}{o:HO}(x:wA P w H h)(hn:H a=none)(new:eE P w (upd H a o) h a o):wA P w (upd H a o) h:=λb u e=>by
 by_cases hb:b=a
 ·subst hb;rw[aO] at e;cases e;exact new
 ·rw[aU hb] at e
  exact(x b u e).aAB (λc v _ q=>q) (λc q=>by rw[aU (bZ q hn)];exact q) λc xs _ q=>by rw[aU (bZ q hn)];exact q
theorem Un.aHA{fs ex:List Addr}{H H1:Hp}{h h1:Heap}{a:Addr}{o:HO}(u:Un fs ex H H1 h h1)(hs:h.objs.size<=a)(hn:H1 a=none):Un fs ex H (upd H1 a o) h h1 where
 keep:=u.keep
 slot:=u.slot
 free:=λb ob q n hx=>by rw[aU (wG (xU (kW q) hs))];exact u.free b ob q n hx
 there:=u.there
 tups:=λb xs q=>by rw[aU (bZ (u.tups b xs q) hn)];exact u.tups b xs q
 frzs:=λb ob xs q=>by rw[aU (bZ (u.frzs b ob xs q) hn)];exact u.frzs b ob xs q
 tbls:=λb ps q=>by
  obtain⟨m,e⟩:=u.tbls b ps q
  exact⟨m,by rw[aU (bZ e hn)];exact e⟩
theorem nJ{env:Env}:∀{names:List (Str×NameKind)}{x:Str},names.lookup x=some .free->
  (names.map λ(n,k)=>if (k == NameKind.free && env.scope.kind == .function && env.kindOf n == some .cell) then (n,NameKind.cell) else (n,k)).lookup x=some .cell\/
  (names.map λ(n,k)=>if (k == NameKind.free && env.scope.kind == .function && env.kindOf n == some .cell) then (n,NameKind.cell) else (n,k)).lookup x=some .free
 |[],_,h=>by simp at h
 |(n,k)::r,x,h=>by
  have ih:=@nJ env r x
  show List.lookup x ((if (k == NameKind.free && env.scope.kind == .function && env.kindOf n == some .cell)=true then (n,NameKind.cell) else (n,k))::_)=_\/List.lookup x ((if (k == NameKind.free && env.scope.kind == .function && env.kindOf n == some .cell)=true then (n,NameKind.cell) else (n,k))::_)=_
  cases hx:x == n with
  |true=>
   simp only[Rn9,hx] at h
   cases h
   by_cases hc:(NameKind.free == NameKind.free && env.scope.kind == .function && env.kindOf n == some .cell)=true
   ·rw[gU hc];simp only[Rn9,hx];exact .inl trivial
   ·rw[fQ hc];simp only[Rn9,hx];exact .inr trivial
  |false=>
   simp only[Rn9,hx] at h
   by_cases hc:(k == NameKind.free && env.scope.kind == .function && env.kindOf n == some .cell)=true
   ·rw[gU hc];simp only[Rn9,hx];exact ih h
   ·rw[fQ hc];simp only[Rn9,hx];exact ih h
theorem xY{env:Env}{ow:Option Str}:∀{names:List (Str×NameKind)}{x:Str},(∀z∈names,z.2=.cell->ow=some z.1)->
  ((names.map λ(n,k)=>if (k == NameKind.free && env.scope.kind == .function && env.kindOf n == some .cell) then (n,NameKind.cell) else (n,k)).lookup x=some .cell\/
  (names.map λ(n,k)=>if (k == NameKind.free && env.scope.kind == .function && env.kindOf n == some .cell) then (n,NameKind.cell) else (n,k)).lookup x=some .free)->ow=some x\/(x,NameKind.free)∈names
 |[],_,_,h=>by simp at h
 |(n,k)::r,x,hc,h=>by
  have ih:=@xY env ow r x λz hz=>hc z (Qr9 _ hz)
  have h':List.lookup x ((if (k == NameKind.free && env.scope.kind == .function && env.kindOf n == some .cell)=true then (n,NameKind.cell) else (n,k))::_)=_\/List.lookup x ((if (k == NameKind.free && env.scope.kind == .function && env.kindOf n == some .cell)=true then (n,NameKind.cell) else (n,k))::_)=_:=h
  cases hx:x == n with
  |true=>
   have e:x=n:=by simpa using hx
   subst e
   by_cases hq:(k == NameKind.free && env.scope.kind == .function && env.kindOf x == some .cell)=true
   ·have hk:(k == NameKind.free)=true:=by
     rw[Bool.and_assoc] at hq
     exact(zB _ _▸hq).1
    rw[show k=NameKind.free by simpa using hk]
    exact .inr Rf9
   ·rw[fQ hq] at h'
    simp only[Rn9,hx] at h'
    rcases h' with z|z
    ·cases z
     exact .inl (hc _ Rf9 rfl)
    ·cases z
     exact .inr Rf9
  |false=>
   have go:_->ow=some x\/(x,NameKind.free)∈(n,k)::r:=λq=>(ih q).imp id (Qr9 _)
   by_cases hq:(k == NameKind.free && env.scope.kind == .function && env.kindOf n == some .cell)=true
   ·rw[gU hq] at h';simp only[Rn9,hx] at h';exact go h'
   ·rw[fQ hq] at h';simp only[Rn9,hx] at h';exact go h'
structure d5(X:Cx)(scope:Scope)(N:List Str)(k:Nat)(idx:List Nat):Prop where
 kind:scope.kind=.function
 nocell:∀y∈scope.names,y.2≠.cell
 names:∀y∈scope.names,y.2=.local->scope.names.lookup y.1=some .local
 free:∀y∈scope.names,y.2=.free->X.env.kindOf y.1=some .cell\/X.env.kindOf y.1=some .free
 nd:N.Nodup
 len:N.length=k+idx.length
 cap:∀(i:Nat) (x:Str),(N.drop k)[i]?=some x->∃j:Nat,idx[i]?=some j/\X.N[j]?=some x/\scope.names.lookup x=some .free
def cσ(k:Nat)(idx:List Nat)(σ:St):St:=List.replicate k none++idx.map λj=>(σ[j]?).join
def ocl(ow:Option Str)(a:Addr):List (Str×Addr):=match ow with|none=>[]|some y=>[(y,a)]
def pow(ow:Option Str)(h:Heap):Heap:=match ow with|none=>h|some _=>h.push { cls:=.type "cell",data:=.cell none }
def cxD(X:Cx)(ow:Option Str)(scope:Scope)(N:List Str)(fp:List Addr)(C:Addr)(s:Shared)(H:Hp):Cx:=
 { cxC X scope N fp C s H with env:=compEnvC scope (ocl ow (C+1)++mZ X.env scope.names []) C X.env,fn:=λx=>match ow with|none=>false|some y=>x == y }
structure uD(X:Cx)(ow:Option Str)(scope:Scope)(N:List Str)(k:Nat)(idx:List Nat):Prop where
 kind:scope.kind=.function
 cf:∀n acc,cellsFrom n scope.names acc=ocl ow n++acc
 pc:∀h,pushCells h scope.names=pow ow h
 nocell:∀z∈scope.names,z.2=.cell->ow=some z.1
 names:∀z∈scope.names,z.2=.local->scope.names.lookup z.1=some .local
 free:∀z∈scope.names,z.2=.free->ow≠some z.1/\(X.env.kindOf z.1=some .cell\/X.env.kindOf z.1=some .free)
 nd:N.Nodup
 len:N.length=k+idx.length
 cap:∀(i:Nat) (x:Str),(N.drop k)[i]?=some x->∃j:Nat,idx[i]?=some j/\X.N[j]?=some x/\scope.names.lookup x=some .free
theorem aA8:∀{names:List (Str×NameKind)},(∀y∈names,y.2≠.cell)->(∀n acc,cellsFrom n names acc=acc)/\∀h,pushCells h names=h
 |[],_=>⟨λ_ _=>rfl,λ_=>rfl⟩
 |(x,k)::r,h=>by
  have ih:=aA8 λy hy=>h y (Qr9 _ hy)
  have hk:¬(k == NameKind.cell)=true:=by simpa using h _ Rf9
  refine⟨λn acc=>?_,λhp=>?_⟩
  ·unfold cellsFrom;rw[fQ hk];exact ih.1 n acc
  ·unfold pushCells;rw[fQ hk];exact ih.2 hp
theorem d5.dlk{k:Nat}{idx:List Nat}(S:d5 X scope N k idx):uD X none scope N k idx:=
 ⟨S.kind,(aA8 S.nocell).1,(aA8 S.nocell).2,λz hz e=>absurd e (S.nocell z hz),S.names,λz hz e=>⟨nofun,S.free z hz e⟩,S.nd,S.len,S.cap⟩
theorem aAg{cl:List (Str×Addr)}(h:(ocl ow a++cl).lookup x=some c):(ow=some x/\c=a)\/(ow≠some x/\cl.lookup x=some c):=by
 cases ow with
 |none=>exact .inr ⟨nofun,h⟩
 |some y=>
  have h':((y,a)::cl).lookup x=some c:=h
  rw[Rn9] at h'
  cases e:x == y with
  |true=>rw[e] at h';cases h';exact .inl ⟨by rw[beq_iff_eq.mp e],rfl⟩
  |false=>rw[e] at h';exact .inr ⟨λz=>by cases z;simp at e,h'⟩
theorem aDW{cl:List (Str×Addr)}(h:ow≠some x):(ocl ow a++cl).lookup x=cl.lookup x:=by
 cases ow with
 |none=>rfl
 |some y=>
  show((y,a)::cl).lookup x=_
  rw[Rn9,show(x == y)=false from beq_eq_false_iff_ne.mpr λz=>h (by rw[z])]
theorem aHB:(ocl (some y) a++cl).lookup y=some a:=by
 show((y,a)::cl).lookup y=_
 rw[Rn9,show(y == y)=true by simp]
theorem aC5{h:Heap}(e:h.get? b=some o):(pow ow h).get? b=some o:=by
 cases ow with
 |none=>exact e
 |some y=>exact vG _ e
theorem aLs{h:Heap}(e:a=h.objs.size):(pow (some y) h).get? a=some { cls:=.type "cell",data:=.cell none }:=by
 rw[e];exact Qz9 _ rfl
theorem aBN{E:Value->Shared->Prop}{s:Shared}{scope:Scope}{Q:Env->Shared->Prop}(cf:∀n acc,cellsFrom n scope.names acc=ocl ow n++acc)(pc:∀h,pushCells h scope.names=pow ow h)(hQ:Q (newEnv scope s.heap.objs.size globals (ocl ow (s.heap.objs.size+1)++cl) qual none .none (some env) builtinsNs) { s with heap:=pow ow (s.heap.push { cls:=.type "dict",data:=.dict #[] }) }) :
  wpAny M A (newFunctionEnv scope globals cl [] qual none .none (some env)) Q E s:=by
 simp only[newFunctionEnv,Option.isSome_some,if_true]
 refine cM (wpAny_alloc ?_)
 refine cM (wpAny_layCells _ (λname kind cells=>by cases hkc:kind == NameKind.cell <;> simp[hkc]) _ _ _ _ ?_)
 rw[cf,pc,show({ s with heap:=s.heap.push { cls:=.type "dict",data:=.dict #[] } }:Shared).heap.objs.size=s.heap.objs.size+1 from Sx9 ..]
 rw[List.forIn_nil]
 exact cM (jY (jY hQ))
section
variable{X:Cx}{pins:List (Addr×Obj)}{σ:St}{H:Hp}{s:Shared}{ow:Option Str}{scope:Scope}{N:List Str}{k:Nat}{idx:List Nat}{fp:List Addr}
theorem uD.cells(S:uD X ow scope N k idx)(I:Inv X pins σ H s):∀z∈scope.names,z.2=.free->∃c,X.env.cells.lookup z.1=some c:=λz hz h=>I.ok.has z.1 (S.free z hz h).2
theorem aCj{h₁:Heap}{tk:Nat}{oD:Obj}{m:Str->Option Value}(S:uD X ow scope N k idx)(I:Inv X pins σ H s)(hf:∀b∈fp,qO X pins H b)(ho:∀b∈fp,∃o,s.heap.get? b=some o)(hC:s.heap.objs.size<=C)(hD:s.heap.objs.size<=D)(hDC:D≠C)(hn:h₁.Ns C m)(old:∀b o,s.heap.get? b=some o->h₁.get? b=some o)(eD:h₁.get? D=some oD)(dD:∀v,oD.data≠.cell v)(ec:∀y,ow=some y->h₁.get? (C+1)=some { cls:=.type "cell",data:=.cell none }) :
  Inv (cxD X ow scope N fp C s H) [(D,oD)] (cσ k idx σ) H { s with heap:=h₁,toks:=tk }:=by
 have hcl:=S.cells I
 have old2:∀{x:Str} {c:Addr},(mZ X.env scope.names []).lookup x=some c->c < s.heap.objs.size:=λ{x c} e=>by
  obtain⟨v,q⟩:=I.cell x c (lM hcl e)
  exact q.lt
 have hCs:s.heap.objs.size < C+1:=Nat.lt_succ_of_le hC
 have nst:∀b,s.heap.objs.size<=b->b∉wH X.stack:=λb hb z=>by
  obtain⟨_,o,e,_⟩:=I.stack.mem z
  exact absurd (xU (kW e) hb) (Rq9 _)
 refine⟨⟨I.ok.mod,S.kind,I.ok.glob,I.ok.blt,hC,λx x2 c h1 h2=>?_,λx hx=>?_,λx c z e=>?_,I.ok.hd,I.ok.frames,.inl rfl,λb hb=>⟨?_,λx c e=>?_⟩,I.bs,
  wZ I.ok.bsz I.sz,λb o e hb=>?_,λb hb z=>?_,I.stack,I.aAP⟩,rfl,I.bare,Un.kept old,⟨m,hn,λi x v h1 h2 h3=>?_⟩,λx c e=>?_,I.hok.fresh hC,λx c e=>?_,λp hp=>?_,I.hok.kept old,?_⟩
 ·rcases aAg h1 with ⟨a1,a2⟩|⟨a1,a2⟩ <;> rcases aAg h2 with ⟨b1,b2⟩|⟨b1,b2⟩
  ·cases a1.symm.trans b1;rfl
  ·have:=old2 b2;rw[a2] at this;exact absurd (Nat.lt_trans this hCs) (Rq9 _)
  ·have:=old2 a2;rw[b2] at this;exact absurd (Nat.lt_trans this hCs) (Rq9 _)
  ·exact I.ok.inj x x2 c (lM hcl a2) (lM hcl b2)
 ·rcases xY S.nocell hx with q|q
  ·cases q;exact⟨C+1,aHB⟩
  ·obtain⟨c,e⟩:=hcl _ q rfl
   exact⟨c,(aDW (S.free _ q rfl).1).trans (aAf hcl q e)⟩
 ·rcases aAg e with ⟨a1,a2⟩|⟨a1,a2⟩
  ·rw[a2];exact Tp9 hCs
  ·cases ow with
   |none=>cases z
   |some y=>
    have z':(x == y)=true:=z
    exact absurd (by rw[beq_iff_eq.mp z']) a1
 ·obtain⟨o,e⟩:=ho b hb
  exact wG (xU (kW e) hC)
 ·rcases aAg e with ⟨a1,a2⟩|⟨a1,a2⟩
  ·obtain⟨o,q⟩:=ho b hb
   have:=kW q
   intro z;rw[a2] at z;rw[<-z] at this;exact absurd (Nat.lt_trans this hCs) (Rq9 _)
  ·exact(hf b hb).2.2.2.2.1 x c (lM hcl a2)
 ·rcases(hf b hb).2.2.2.1 with z|z
  ·exact I.ok.noex b o e z
  ·exact absurd (xU (kW (I.ok.bs b o e).1) z) (Rq9 _)
 ·rcases rN.mp (I.zC b z) with q|q
  ·exact(hf b hb).2.1 q
  ·exact(hf b hb).2.2.1 q
 ·have hi:k<=i:=by
   by_cases hi:i < k
   ·unfold cσ at h2
    rw[Qy9 (by simpa using hi),Sw9,gU hi] at h2
    cases h2
   ·omega
  obtain⟨j,rfl⟩ : ∃j,i=k+j:=⟨i - k,by omega⟩
  have h1':N[k+j]?=some x:=h1
  obtain⟨l,e1,e2,e3⟩:=S.cap j x (by rw[List.getElem?_drop];exact h1')
  have h2':σ[l]?=some (some v):=by
   unfold cσ at h2
   rw[Rd9 (by simp),xV] at h2
   simp only[List.length_replicate,Nat.add_sub_cancel_left,e1,Option.map_some,Option.some.injEq] at h2
   cases q:σ[l]? with
   |none=>rw[q] at h2;cases h2
   |some z=>rw[q] at h2;exact congrArg some h2
  obtain⟨m0,hn0,hl⟩:=I.loc
  have hfree:(x,NameKind.free)∈scope.names:=PySem.mem_of_lookup e3
  have hk:=(S.free _ hfree rfl).2
  obtain⟨u,r,l⟩:=hl l x v e2 h2' (by rcases hk with z|z;exact .inr (.inl z);exact .inr (.inr z))
  refine⟨u,r,.inr ⟨nJ e3,?_⟩⟩
  rcases l with ⟨z,_⟩|⟨_,c,e,o,q,d⟩
  ·rcases hk with w|w
   ·rw[w] at z;cases z
   ·rw[w] at z;cases z
  ·exact⟨c,(aDW (S.free _ hfree rfl).1).trans (aAf hcl hfree e),o,old c o q,d⟩
 ·rcases aAg e with ⟨a1,a2⟩|⟨a1,a2⟩
  ·rw[a2];exact⟨none,_,ec _ a1,rfl⟩
  ·obtain⟨v,o,q,d⟩:=I.cell x c (lM hcl a2)
   exact⟨v,o,old c o q,d⟩
 ·rcases aAg e with ⟨a1,a2⟩|⟨a1,a2⟩
  ·rw[a2];exact I.hok.fresh (Tp9 hCs)
  ·exact I.freeC x c (lM hcl a2)
 ·have hp':p∈([]:List (Addr×Obj)) ++ [(D,oD)]:=hp
  have e:p=(D,oD):=by simpa using hp'
  subst e
  exact⟨eD,I.hok.fresh hD,hDC,nst D hD,dD⟩
 ·unfold cσ
  show _=N.length
  rw[S.len]
  simp
theorem aFP{s':Shared}{ys:List V}{its:List Value}{n:Nat}(I:Inv X pins σ H s)(hf:∀b∈fp,qO X pins H b)(J:Inv (cxD X ow scope N fp C s H) pins' σ' H' s')(hC:s.heap.objs.size<=C)(hD:s.heap.objs.size<=D)(hDC:D≠C)(hDn:H' D=none)(eD:s'.heap.get? D=some { cls:=.type "list",data:=.seq its.toArray n })(r:Vals ys its)(hz:ys.length<=sizeLine) :
  Inv X pins σ (upd H' D (.lst ys)) s'/\qO X pins (upd H' D (.lst ys)) C:=by
 have hk:wA X.prog X.w (upd H' D (.lst ys)) s'.heap:=wA.aHA J.hok hDn ⟨hz,its,n,r,eD⟩
 have u:Un (wH X.stack) fp H (upd H' D (.lst ys)) s.heap s'.heap:=Un.aHA J.base hD hDn
 refine⟨I.aDM J.os u hk J.bare λb hb=>⟨(hf b hb).2.2.2.1,(hf b hb).2.1,(hf b hb).2.2.2.2.1,(hf b hb).2.2.2.2.2⟩,I.aEO hC ?_⟩
 rw[aU hDC.symm]
 exact J.free
theorem d5.cells(S:d5 X scope N k idx)(I:Inv X pins σ H s):∀y∈scope.names,y.2=.free->∃c,X.env.cells.lookup y.1=some c:=S.dlk.cells I
theorem aGB{C D:Addr}{h₁:Heap}{tk:Nat}{oD:Obj}{m:Str->Option Value}(S:d5 X scope N k idx)(I:Inv X pins σ H s)(hf:∀b∈fp,qO X pins H b)(ho:∀b∈fp,∃o,s.heap.get? b=some o)
  (hC:s.heap.objs.size<=C) (hD:s.heap.objs.size<=D) (hDC:D≠C) (hn:h₁.Ns C m) (old:∀b o,s.heap.get? b=some o->h₁.get? b=some o) (eD:h₁.get? D=some oD) (dD:∀v,oD.data≠.cell v) :
  Inv (cxC X scope N fp C s H) [(D,oD)] (cσ k idx σ) H { s with heap:=h₁,toks:=tk }:=aCj (ow:=none) S.dlk I hf ho hC hD hDC hn old eD dD nofun
theorem aJq{C D:Addr}{s':Shared}{σ':St}{H':Hp}{ys:List V}{its:List Value}{n:Nat}{pins':List (Addr×Obj)}(I:Inv X pins σ H s)(hf:∀b∈fp,qO X pins H b)(J:Inv (cxC X scope N fp C s H) pins' σ' H' s')
  (hC:s.heap.objs.size<=C) (hD:s.heap.objs.size<=D) (hDC:D≠C) (hDn:H' D=none) (eD:s'.heap.get? D=some { cls:=.type "list",data:=.seq its.toArray n }) (r:Vals ys its) (hz:ys.length<=sizeLine) :
  Inv X pins σ (upd H' D (.lst ys)) s'/\qO X pins (upd H' D (.lst ys)) C:=aFP (ow:=none) I hf J hC hD hDC hDn eD r hz
end
def uE(J:It)(σ₀:St)(g:TG)(tt:TT)(te:TE)(R:List V->Hp->Prop)(H1:Hp):Prop:=
 ∃W:Nat->Nat->List V->Hp->Prop,(∃m,W 0 m [] H1)/\∀i m ys H,W i m ys H->ys.length<=sizeLine/\
  ((J.stop i H/\R ys H)\/(J.go i H/\∃N:List V->Hp->Prop,(∀ys' H',N ys' H'->∃m',m' < m/\W (i+1) m' ys' H')/\
   ∀x H',J.yld i H x H'->g x σ₀ H' λσ2 H2=>tt σ2 H2 λb H3=>if b=true then te σ2 H3 λy H4=>N (ys ++ [y]) H4 else N ys H3))
def xZ(wi:TI)(k:Nat)(idx:List Nat)(g:TG)(tt:TT)(te:TE):TE:=λσ H Q=>wi σ H λJ H1=>uE J (cσ k idx σ) g tt te (λys H'=>∀p,H' p=none->Q (.ref p) (upd H' p (.lst ys))) H1
def PTs(X:Cx)(ifs:List Expr)(t:TT):Prop:=
 ∀(pins:List (Addr×Obj)) (s:Shared) (σ:St) (H:Hp) (Q:Bool->Hp->Prop),Inv X pins σ H s->t σ H Q->
  wpAny (model X.prog X.w) X.A (forIn ifs true λc r=>if r=true then do let ok <-isTrue c X.env (eval c X.env);pure (ForInStep.yield ok) else pure (ForInStep.yield r)) (TP X pins σ Q) X.xe s
def aLt:TT:=λ_ H Q=>Q true H
theorem aJr:PTs X [] aLt:=λ_ _ _ H _ I h=>wpAny_tests_nil ⟨H,I,h⟩
def Agr(k:Nat)(σ' σ:St):Prop:=σ'.length=σ.length/\∀i,k<=i->σ'[i]?=σ[i]?
theorem Agr.set{k i:Nat}{σ:St}(h:Agr k σ σb)(hi:i < k):Agr k (σ.set i v) σb:=⟨by rw[List.length_set];exact h.1,λj hj=>by rw[Tf9 (by omega)];exact h.2 j hj⟩
def Own(k:Nat)(g:TG):Prop:=∀x σ H (Q:St->Hp->Prop) (σb:St),Agr k σ σb->g x σ H Q->g x σ H λσ' H'=>Agr k σ' σb/\Q σ' H'
def aJs(k:Nat)(g:TGs):Prop:=∀xs σ H (Q:St->Hp->Prop) (σb:St),Agr k σ σb->g xs σ H Q->g xs σ H λσ' H'=>Agr k σ' σb/\Q σ' H'
theorem cL{k i:Nat}(h:i < k):Own k (pA i):=λ_ _ _ _ _ a q=>⟨a.set h,q⟩
theorem aDX{k:Nat}:aJs k aI3:=λ_ _ _ _ _ a ⟨e,q⟩=>⟨e,a,q⟩
theorem vJ{k i:Nat}(h:i < k)(hu:aJs k u):aJs k (aFG (pA i) u):=λ_ _ _ Q σb a ⟨v,r,e,q⟩=>⟨v,r,e,hu r _ _ Q σb (a.set h) q⟩
theorem aFQ{K:W.Frag}{n k:Nat}{u:TGs}(hu:aJs k u):Own k (aI5 K n u):=λ_ _ _ Q σb a ⟨l,xs,e,h1,h2,q⟩=>⟨l,xs,e,h1,h2,hu xs _ _ Q σb a q⟩
theorem aDY(its:List Value)(u:Value)(n:Nat):({ cls:=.type "list",data:=.seq (its.toArray.push u) n }:Obj)={ cls:=.type "list",data:=.seq (its ++ [u]).toArray n }:=by
 rw[List.push_toArray]
section
variable{X:Cx}{pins:List (Addr×Obj)}{σ:St}{H:Hp}{s:Shared}{ow:Option Str}{scope:Scope}{N:List Str}{k:Nat}{idx:List Nat}{fp:List Addr}
theorem aAh{tn:Nat->Heap->Prop}{R:List V->Hp->Prop}{E:Value->Shared->Prop}{RR:Value->Addr->Result->Shared->Prop}(S:uD X ow scope N k idx)(hc:X.calm=true)(I:Inv X pins σ H s)(T:Turn X.prog X.w X.K target J fp it tn)(st:tn 0 s.heap)(hf:∀b∈fp,qO X pins H b)(hg:∀C,PG (cxD X ow scope N fp C s H) target g)(ho:Own k g)(ht:∀C,PTs (cxD X ow scope N fp C s H) ifs tt)(he:∀C,PE (cxD X ow scope N fp C s H) elt te)(hw:uE J (cσ k idx σ) g tt te R H)(hRR:∀D C s' m ys H',s'.heap.Ns C m->Inv X pins σ (upd H' D (.lst ys)) s'->qO X pins (upd H' D (.lst ys)) C->H' D=none->R ys H'->RR (.ref D) C (.ok .next) s') :
  wpAny (model X.prog X.w) X.A (newList []) (λacc s₃=>wpAny (model X.prog X.w) X.A (newFunctionEnv scope X.env.globals (mZ X.env scope.names []) [] X.env.qual none .none (some X.env)) (λcenv s₄=>
   codeAny (model X.prog X.w) X.A (.compStart (.ListComp elt [⟨target,iter,ifs,0⟩] scope pos) 0 (.ref it) acc { cenv with scope:=relabel scope X.env }) (RR acc cenv.locals) s₄) E s₃) E s:=by
 refine Sb9 (aBN S.cf S.pc ?_)
 dsimp only
 generalize hH2:s.heap.push { cls:=.type "list",dict:=none,data:=.seq ([]:List Value).toArray } = H2
 have hCs:H2.objs.size=s.heap.objs.size+1:=by rw[<-hH2,Sx9]
 have hDC:s.heap.objs.size≠H2.objs.size:=by rw[hCs];exact wG (Se9 _)
 have hCle:s.heap.objs.size<=H2.objs.size:=by rw[hCs];exact Tv9 _
 have below:∀b,b < s.heap.objs.size->b≠H2.objs.size:=λb hb=>by rw[hCs];exact wG (Ss9 hb)
 generalize hh1:pow ow (H2.push { cls:=.type "dict",data:=.dict #[] })=h₁
 have hns₁:h₁.Ns H2.objs.size (λ_=>none):=hh1▸(Heap.Ns.new H2 (.type "dict")).keeps λb o e=>aC5 e
 have old:∀b o,s.heap.get? b=some o->h₁.get? b=some o:=λb o e=>hh1▸aC5 (vG _ (hH2▸vG _ e))
 have hacc:h₁.get? s.heap.objs.size=some { cls:=.type "list",data:=.seq ([]:List Value).toArray 0 }:=hh1▸aC5 (vG _ (hH2▸Qz9 _ rfl))
 have hcell:∀y,ow=some y->h₁.get? (H2.objs.size+1)=some { cls:=.type "cell",data:=.cell none }:=λy e=>by
  subst e
  rw[<-hh1]
  exact aLs (Sx9 ..).symm
 have st₁:tn 0 h₁:=T.keep _ _ _ st λb _ o e=>old b o e
 obtain⟨W,⟨m0,w0⟩,turn⟩:=hw
 have fp0:∀b∈fp,b < s.heap.objs.size:=λb hb=>by
  obtain⟨o,e,_⟩:=T.obj _ _ st b hb
  exact kW e
 have stat:∀{H':Hp} {pl:List (Addr×Obj)},(∀b∈fp,H' b=none)->(∀p∈pl,s.heap.objs.size<=p.1)->∀b∈fp,qO (cxD X ow scope N fp H2.objs.size s H) pl H' b:=λ{H' pl} hn hp b hb=>by
  refine⟨hn b hb,below b (fp0 b hb),λz=>?_,.inl hb,λx c e=>by
   rcases aAg e with ⟨a1,a2⟩|⟨a1,a2⟩
   ·have:=fp0 b hb
    intro z;rw[a2] at z;rw[<-z,hCs] at this;exact absurd (Nat.lt_trans this (Ss9 (Se9 _))) (Rq9 _)
   ·exact(hf b hb).2.2.2.2.1 x c (lM (S.cells I) a2),λp q z=>?_⟩
  ·have z':b∈wH X.stack:=z
   rcases rN.mp (I.zC b z') with q|q
   ·exact(hf b hb).2.1 q
   ·exact(hf b hb).2.2.1 q
  ·have q':p∈([]:List (Addr×Obj))++pl:=q
   have h1:=hp p (by simpa using q')
   rw[z] at h1
   exact absurd (xU (fp0 b hb) h1) (Rq9 _)
 have loop:∀s₃:Shared,s₃={ s with heap:=h₁ }->
   codeAny (model X.prog X.w) X.A (.compLoop (.ListComp elt [⟨target,iter,ifs,0⟩] scope pos) 0 (.ref it) (.ref s.heap.objs.size) (compEnvC scope (ocl ow (H2.objs.size+1)++mZ X.env scope.names []) H2.objs.size X.env))
    (RR (.ref s.heap.objs.size) H2.objs.size) s₃:=by
  rintro s₃ rfl
  refine aAe (λn s'=>∃i ys its H' nn,Inv (cxD X ow scope N fp H2.objs.size s H) [(s.heap.objs.size,{ cls:=.type "list",data:=.seq its.toArray nn })] (cσ k idx σ) H' s'/\tn i s'.heap/\(∀b∈fp,H' b=none)/\Vals ys its/\W i n ys H') ?_ m0
   ⟨0,[],[],H,0,aCj S I hf (λb hb=>let ⟨o,e,_⟩:=T.obj _ _ st b hb;⟨o,e⟩) hCle (iI _) hDC hns₁ old hacc (λv z=>by cases z) hcell,st₁,λb hb=>(hf b hb).1,.nil,w0⟩
  rintro n s' ⟨i,ys,its,H',nn,I',st',fr',rv,w'⟩
  obtain⟨hz,alt⟩:=turn i n ys H' w'
  have pl:∀p∈[((s.heap.objs.size:Addr),({ cls:=.type "list",data:=.seq its.toArray nn }:Obj))],s.heap.objs.size<=p.1:=λp hp=>by
   have e:p=((s.heap.objs.size:Addr),({ cls:=.type "list",data:=.seq its.toArray nn }:Obj)):=by simpa using hp
   rw[e]
   exact iI _
  rcases alt with ⟨stop,q⟩|⟨go,Nx,hN,step⟩
  ·refine dY (T.done (cxD X ow scope N fp H2.objs.size s H) rfl rfl rfl hc i _ s' _ H' _ I' (stat fr' pl) st' stop) λr s4 ⟨hr,I4⟩=>?_
   subst hr
   obtain⟨eD,nD,_⟩:=I4.pin _ (xT _ Rf9)
   obtain⟨a1,a2⟩:=aFP I hf I4 hCle (iI _) hDC nD eD rv hz
   obtain⟨m4,hn4,_⟩:=I4.loc
   exact hRR _ _ s4 m4 ys H' hn4 a1 a2 nD q
  ·refine dY (T.item (cxD X ow scope N fp H2.objs.size s H) rfl rfl rfl hc i _ s' _ H' _ I' (stat fr' pl) st' go) λr s4 ⟨u,hr,h4⟩=>?_
   subst hr
   refine dY h4 λ_ s5 ⟨x,H5,I5,r5,y5,st5,fr5⟩=>?_
   have I5':=I5.pinned (stat fr5 pl) (T.obj _ _ st5)
   have noE:∀{α:Type} {t:Sem α} {Q:α->Shared->Prop} {E':Value->Shared->Prop} {sx:Shared},wpAny (model X.prog X.w) X.A t Q (λ_ _=>False) sx->wpAny (model X.prog X.w) X.A t Q E' sx:=λh=>Rs9 h (λ_ _ q=>q) λ_ _ z=>z.elim
   refine noE (dY (hg _ _ s5 _ H5 x u _ I5' r5 (ho x _ H5 _ _ ⟨rfl,λ_ _=>rfl⟩ (step x H5 y5))) λ_ s6 ⟨σ6,H6,I6,ag,q6⟩=>?_)
   have back:∀{H7:Hp} {s7:Shared},Inv (cxD X ow scope N fp H2.objs.size s H) ([((s.heap.objs.size:Addr),({ cls:=.type "list",data:=.seq its.toArray nn }:Obj))] ++ zE fp s5.heap) σ6 H7 s7->
     Inv (cxD X ow scope N fp H2.objs.size s H) [((s.heap.objs.size:Addr),({ cls:=.type "list",data:=.seq its.toArray nn }:Obj))] (cσ k idx σ) H7 s7/\tn (i+1) s7.heap/\∀b∈fp,H7 b=none:=λ{H7 s7} I7=>by
    refine⟨I7.uB.weak (by rw[ag.1]) λj v e=>?_,T.keep _ _ _ st5 λb hb o e=>(I7.pin (b,o) (xT _ (xT _ (kZ hb e)))).1,λb hb=>?_⟩
    ·have hj:k<=j:=by
      by_cases hj:j < k
      ·unfold cσ at e
       rw[Qy9 (by simpa using hj),Sw9,gU hj] at e
       cases e
      ·omega
     rw[ag.2 j hj]
     exact e
    ·obtain⟨o,e,d⟩:=T.obj _ _ st5 b hb
     exact(I7.pin (b,o) (xT _ (xT _ (kZ hb e)))).2.1
   refine noE (dY (ht _ _ s6 σ6 H6 _ I6 q6) λb s7 ⟨H7,I7,q7⟩=>?_)
   cases b with
   |false=>
    rw[fQ Qu9] at q7 ⊢
    obtain⟨m',hm,w7⟩:=hN _ _ q7
    obtain⟨b1,b2,b3⟩:=back I7
    exact⟨m',hm,i+1,ys,its,H7,nn,b1,b2,b3,rv,w7⟩
   |true=>
    rw[gU rfl] at q7 ⊢
    refine noE (dY (he _ _ s7 σ6 H7 _ I7 q7) λyv s8 ⟨z,H8,I8,r8,q8⟩=>?_)
    obtain⟨m',hm,w8⟩:=hN _ _ q8
    obtain⟨b1,b2,b3⟩:=back I8
    obtain⟨eD,nD,neD,nfD,_⟩:=b1.pin _ (xT _ Rf9)
    have lenV:=rv.length
    refine append_at (hsz:=by rw[mP,<-lenV];exact hz) eD λh9 hs9 hD9=>?_
    have b1':Inv (cxD X ow scope N fp H2.objs.size s H) [] (cσ k idx σ) H8 s8:=b1.vH λp hp=>by cases hp
    have I9:Inv (cxD X ow scope N fp H2.objs.size s H) [] (cσ k idx σ) H8 { s8 with heap:=h9 }:=b1'.turned (t':=s8.toks) (λb o hb e=>(hs9.2 b hb).trans e) nD neD (.inr (iI _)) (λx c e z=>by
     rcases aAg e with ⟨a1,a2⟩|⟨a1,a2⟩
     ·rw[a2,hCs] at z;exact absurd z (Tj9 (Ss9 (Se9 _)))
     ·obtain⟨v,q⟩:=I.cell x c (lM (S.cells I) a2)
      exact absurd (xU q.lt (by rw[z];exact iI _)) (Rq9 _)) (λp hp=>by
     have hp':p∈([]:List (Addr×Obj)) ++ []:=hp
     simp at hp')
    refine⟨m',hm,i+1,ys ++ [z],its ++ [yv],H8,nn+1,I9.vH λp hp=>?_,T.keep _ _ _ b2 λb hb o e=>(hs9.2 b (wG (fp0 b hb))).trans e,b3,rv.append (.cons r8 .nil),w8⟩
    have e:p=((s.heap.objs.size:Addr),({ cls:=.type "list",data:=.seq (its ++ [yv]).toArray (nn+1) }:Obj)):=by simpa using hp
    subst e
    exact⟨by rw[<-aDY];exact hD9,nD,neD,nfD,λv z=>by cases z⟩
 exact codeAny_compStart_list (loop _ rfl) (T.self _ 0 _ _ _ st₁ (loop _ rfl))
theorem aJt(k:Nat)(idx:List Nat)(S:d5 X scope N k idx)(hc:X.calm=true)(hi:PI X target iter wi)(hg:∀fp C s H,PG (cxC X scope N fp C s H) target g)(ho:Own k g)(ht:∀fp C s H,PTs (cxC X scope N fp C s H) ifs tt)(he:∀fp C s H,PE (cxC X scope N fp C s H) elt te)(hs:∀x,foldedSetIterable iter X.env x=pure x:=by intro _;rfl):PE X (.ListComp elt [⟨target,iter,ifs,0⟩] scope pos) (xZ wi k idx g tt te):=by
 intro pins s σ H Q I h
 rw[eval_ListComp]
 refine wpAny_comprehension_free (use:=none) rfl hs (rT (S.dlk.cells I)) S.kind S.names (dY (hi pins s σ H _ I h) λv s1 h1=>dY h1 λitv s2 h2=>?_)
 obtain⟨it,fp,tn,J,H2,e,I2,T,st2,f2,w2⟩:=h2
 subst e
 refine aAh (RR:=λacc C=>compPost (model X.prog X.w) X.A X.xe none (EP X pins σ Q) acc C) S.dlk hc I2 T st2 f2 (λC=>hg fp C s2 H2) ho (λC=>ht fp C s2 H2) (λC=>he fp C s2 H2) w2 λD C s' m ys H' hn I' fC hD q=>?_
 refine⟨m,hn,λh'' hs''=>⟨.ref D,_,I'.turned (t':=s'.toks) (λb o hb e=>(hs''.2 b hb).trans e) fC.1 fC.2.1 fC.2.2.2.1 fC.2.2.2.2.1 fC.2.2.2.2.2,rfl,q D hD⟩⟩
theorem aJu(k:Nat)(idx:List Nat){i:Nat}{spos:Pos}(hN:X.N.Nodup)(hix:X.N[i]?=some x)(hx:Loc X.env.scope x)(S:d5 X scope N k idx)(hc:X.calm=true)(hi:PI X target iter wi)(hg:∀fp C s H,PG (cxC X scope N fp C s H) target g)(ho:Own k g)(ht:∀fp C s H,PTs (cxC X scope N fp C s H) ifs tt)(he:∀fp C s H,PE (cxC X scope N fp C s H) elt te)(hsw:swapsWith (.ListComp elt [⟨target,iter,ifs,0⟩] scope pos) (some (.Name x pos')) spos.line X.env=pure true:=by rfl)(hs:∀x,foldedSetIterable iter X.env x=pure x:=by intro _;rfl)(hfn:X.fn x=true\/X.env.scope.names.lookup x=some .local:=by first|exact .inl rfl|exact .inr rfl|assumption) :
  PS X (.Assign [.Name x pos'] (.ListComp elt [⟨target,iter,ifs,0⟩] scope pos) spos) (aAC (xZ wi k idx g tt te) (pA i)):=by
 intro pins s σ H D I h
 rw[exec_Assign_Name_used _ _ _ _ hsw]
 refine cM (wpAny_standAt (cM ?_))
 show wpAny _ X.A (do let _ <-comprehension (.ListComp elt [⟨target,iter,ifs,0⟩] scope pos) scope X.env _ (newList []) false (eval iter X.env) (some (assign (.Name x pos') X.env))) _ _ s
 refine cM (Rs9 (wpAny_comprehension_free (use:=some (assign (.Name x pos') X.env)) (Q:=λ_ s'=>SP X pins D .next s') rfl hs (rT (S.dlk.cells I)) S.kind S.names
  (dY (hi pins s σ H _ I h) λv s1 h1=>dY h1 λitv s2 h2=>?_)) (λ_ s' hq=>jY (jY hq)) λ_ _ e=>e)
 obtain⟨it,fp,tn,J,H2,e,I2,T,st2,f2,w2⟩:=h2
 subst e
 refine aAh (RR:=λacc C=>compPost (model X.prog X.w) X.A X.xe (some (assign (.Name x pos') X.env)) (λ_ s'=>SP X pins D .next s') acc C) S.dlk hc I2 T st2 f2 (λC=>hg fp C s2 H2) ho (λC=>ht fp C s2 H2) (λC=>he fp C s2 H2) w2 λD' C s' m ys H' hn I' fC hD q=>?_
 show wpAny _ X.A (assign (.Name x pos') X.env (.ref D')) _ _ s'
 refine wpAny_assign_Name (vI I' hN hix hx (show RelV (.ref D') (.ref D') from rfl) (λs3 I3 ⟨a,sb,ha⟩=>?_) hfn)
 have hCa:C≠a:=by
  rcases ha with z|z
  ·rw[z];exact fC.2.1
  ·exact(fC.2.2.2.2.1 x a z).symm
 refine⟨m,hn.sameBut sb hCa,λh'' hs''=>⟨_,_,I3.turned (t':=s3.toks) (λb o hb e=>(hs''.2 b hb).trans e) fC.1 fC.2.1 fC.2.2.2.1 fC.2.2.2.2.1 fC.2.2.2.2.2,q D' hD⟩⟩
end
theorem cP{K:W.Frag}{a:Addr}{xs:List V}{σ₀:St}{g:TG}{tt:TT}{te:TE}{R:List V->Hp->Prop}{H:Hp}(Pv:Nat->List V->Hp->Prop)(h0:Pv 0 [] H)(hz:xs.length<=sizeLine)
  (hl:∀i ys H,i<=xs.length->Pv i ys H->bQ K H a xs/\ys.length<=i)
  (hs:∀i x ys H,xs[i]?=some x->Pv i ys H->g x σ₀ H λσ2 H2=>tt σ2 H2 λb H3=>if b=true then te σ2 H3 λy H4=>Pv (i+1) (ys ++ [y]) H4 else Pv (i+1) ys H3)
  (hd:∀ys H,Pv xs.length ys H->R ys H):uE (Itl K a) σ₀ g tt te R H:=by
 refine⟨λi m ys H=>m=xs.length - i/\i<=xs.length/\Pv i ys H,⟨xs.length,by simp,Sp9 _,h0⟩,?_⟩
 rintro i m ys H ⟨rfl,hi,p⟩
 obtain⟨q,ql⟩:=hl i ys H hi p
 refine⟨by omega,?_⟩
 by_cases hlt:i < xs.length
 ·refine .inr ⟨⟨xs,xs[i],q,by simp[hlt]⟩,Pv (i+1),λys' H' p'=>⟨xs.length - (i+1),by omega,rfl,hlt,p'⟩,λx H' y=>?_⟩
  obtain⟨e,y⟩:=y
  subst e
  exact hs i x ys _ (y xs q) p
 ·have e:i=xs.length:=by omega
  subst e
  exact .inl ⟨⟨xs,q,iI _⟩,hd ys H p⟩
theorem rV{lo:Int}{n:Nat}{g:TG}{R:List V->Hp->Prop}(Pv:Nat->List V->Hp->Prop)(h0:Pv 0 [] H)(hz:n<=sizeLine)(hl:∀i ys H,i<=n->Pv i ys H->ys.length<=i)(hs:∀i ys H,i < n->Pv i ys H->g (.int (lo+i)) σ₀ H λσ2 H2=>tt σ2 H2 λb H3=>if b=true then te σ2 H3 λy H4=>Pv (i+1) (ys ++ [y]) H4 else Pv (i+1) ys H3)(hd:∀ys H,Pv n ys H->R ys H):uE (Itr lo n) σ₀ g tt te R H:=by
 refine⟨λi m ys H=>m=n - i/\i<=n/\Pv i ys H,⟨n,by simp,Sp9 _,h0⟩,?_⟩
 rintro i m ys H ⟨rfl,hi,p⟩
 have ql:=hl i ys H hi p
 refine⟨by omega,?_⟩
 by_cases hlt:i < n
 ·refine .inr ⟨hlt,Pv (i+1),λys' H' p'=>⟨n - (i+1),by omega,rfl,hlt,p'⟩,λx H' y=>?_⟩
  obtain⟨e,y⟩:=y
  subst e y
  exact hs i ys _ hlt p
 ·have e:i=n:=by omega
  subst e
  exact .inl ⟨iI _,hd ys H p⟩
end L2
namespace L2
open PySem PySem.Spec PyProof.Rows
theorem aE6:bootBuiltins "int" = some (.type "int"):=by decide +kernel
theorem aJv:bootBuiltins "bool" = some (.type "bool"):=by decide +kernel
theorem uF:bootBuiltins "str" = some (.type "str"):=by decide +kernel
theorem vK:bootBuiltins "list" = some (.type "list"):=by decide +kernel
theorem aHC:bootBuiltins "tuple" = some (.type "tuple"):=by decide +kernel
theorem cV:bootBuiltins "len" = some (.builtin "len"):=by decide +kernel
theorem aLu:bootBuiltins "abs" = some (.builtin "abs"):=by decide +kernel
theorem xA:bootBuiltins "max" = some (.builtin "max"):=by decide +kernel
theorem aHD:bootBuiltins "min" = some (.builtin "min"):=by decide +kernel
theorem aC6:bootBuiltins "all" = some (.builtin "all"):=by decide +kernel
theorem aCk:bootBuiltins "sorted" = some (.builtin "sorted"):=by decide +kernel
theorem cS:bootBuiltins "isinstance" = some (.builtin "isinstance"):=by decide +kernel
section
variable{X:Cx}
def aHE:R2:=λx y H Q=>rI0 (λi j=>.int (i+j)) x y H Q\/aMQ x y H Q
theorem bT:pU X (binaryOp .Add) aHE:=aK9.or aLp
def aKv:R2:=λx y H Q=>rI aHj (λi j=>.int (i*j)) x y H Q\/aMR x y H Q
theorem rW:pU X (binaryOp .Mult) aKv:=aLa.or aLq
def kY(K:W.Frag):V->Option Int->Option Int->Hp->VK->Prop:=λx lo hi H Q=>aMP K x lo hi H Q\/aMK K x lo hi H Q
theorem mR:SlR X (kY X.K):=aJk.or aLi
def EqN(K:W.Frag)(H:Hp):Nat->V->V->Bool->Prop
 |0,x,y,b=>eF x=true/\eF y=true/\b=eqV x y
 |n+1,x,y,b=>(eF x=true/\eF y=true/\b=eqV x y)\/
  ∃(p q:Addr) (xs ys:List V) (e:Nat->Bool),x=.ref p/\y=.ref q/\((bQ K H p xs/\bQ K H q ys)\/(mY K H p xs/\mY K H q ys))/\
   (∀(j:Nat) u v,xs[j]?=some u->ys[j]?=some v->EqN K H n u v (e j))/\b=(xs.length == ys.length && (List.range xs.length).all e)
theorem x8(h:eF x=true):eqV x x=true:=by
 cases x with
 |non=>rfl
 |bl b=>cases b <;> rfl
 |int i=>exact beq_self_eq_true i
 |str z=>exact beq_self_eq_true z
 |_=>exact absurd (show false=true from h) Qu9
theorem aDZ(I:Inv X pins σ H s):∀{n:Nat}{x:V}{b:Bool},EqN X.K H n x x b->b=true
 |0,x,b,⟨h,_,e⟩=>by rw[e];exact x8 h
 |n+1,x,b,h=>by
  rcases h with ⟨h,_,e⟩|⟨p,q,xs,ys,e,e1,e2,hs,he,eb⟩
  ·rw[e];exact x8 h
  ·subst e1
   cases e2
   have exy:xs=ys:=by
    rcases hs with ⟨h1,h2⟩|⟨h1,h2⟩
    ·exact I.aA2 h1 h2
    ·exact I.aCd h1 h2
   subst exy
   rw[eb,beq_self_eq_true,Rw9,Ri9]
   intro j hj
   have hj':j < xs.length:=Th9.mp hj
   exact aDZ I (he j xs[j] xs[j] (tO hj') (tO hj'))
theorem aHF(I:Inv X pins σ H s):∀{n:Nat}{A:Around}{x y:V}{u v:Value}{b:Bool},A.units+n < cLine->RelV x u->RelV y v->EqN X.K H n x y b->SeqAt.EqAt A s u v b
 |0,A,x,y,u,v,b,_,rx,ry,⟨h1,h2,e⟩=>by rw[e];exact aE5 rx ry h1 h2
 |n+1,A,x,y,u,v,b,hu,rx,ry,h=>by
  rcases id h with ⟨h1,h2,e⟩|⟨p,q,xs,ys,e,e1,e2,hs,he,eb⟩
  ·rw[e];exact aE5 rx ry h1 h2
  ·subst e1 e2
   cases rx
   cases ry
   by_cases hpq:p=q
   ·subst hpq
    rw[aDZ I h]
    exact SeqAt.EqAt.same _
   ·refine SeqAt.EqAt.of_refs hpq ?_
    have items:∀{us vs:List Value},Vals xs us->Vals ys vs->∀j (h1:j < us.toArray.size) (h2:j < vs.toArray.size),SeqAt.EqAt A.in1 s us.toArray[j] vs.toArray[j] (e j):=λ{us vs} r1 r2 j h1 h2=>by
     have l1:=r1.length
     have l2:=r2.length
     rw[mP] at h1 h2
     have g1:xs[j]?=some xs[j]:=tO (by omega)
     have g2:ys[j]?=some ys[j]:=tO (by omega)
     obtain⟨u',eu,ru⟩:=r1.get g1
     obtain⟨v',ev,rv⟩:=r2.get g2
     have eu':us.toArray[j]=u':=by
      rw[Tg9]
      exact Option.some.inj ((tO h1).symm.trans eu)
     have ev':vs.toArray[j]=v':=by
      rw[Tg9]
      exact Option.some.inj ((tO h2).symm.trans ev)
     rw[eu',ev']
     exact aHF I (n:=n) (by show A.units+1+n < cLine;omega) ru rv (he j _ _ g1 g2)
    rcases hs with ⟨h1,h2⟩|⟨h1,h2⟩
    ·obtain⟨us,r1,p1,_⟩:=I.list h1
     obtain⟨vs,r2,p2,_⟩:=I.list h2
     have l1:=r1.length
     have l2:=r2.length
     by_cases hl:xs.length=ys.length
     ·rw[eb,hl,beq_self_eq_true,Rw9,<-hl,show xs.length=us.toArray.size by rw[mP];exact l1]
      exact SeqAt.RcAt.lists p1.isList p2.isList (by rw[mP,mP];omega) (by omega) (items r1 r2)
     ·rw[eb,show(xs.length == ys.length)=false by simpa using hl,Ru9]
      exact SeqAt.RcAt.lists_lengths p1.isList p2.isList (by rw[mP,mP];simp;omega) (by omega)
    ·obtain⟨us,r1,p1,_⟩:=I.tuple h1
     obtain⟨vs,r2,p2,_⟩:=I.tuple h2
     have l1:=r1.length
     have l2:=r2.length
     have q:=SeqAt.RcAt.tuples (s:=s) (A:=A) (l:=p) (b:=q) (e:=e) p1 p2 (by omega) (items r1 r2)
     rw[mP,mP,<-l1,<-l2] at q
     by_cases hl:xs.length=ys.length
     ·rw[eb,hl,beq_self_eq_true,Rw9]
      rw[hl,Nat.min_self,beq_self_eq_true,Tk9] at q
      exact q
     ·have hb:(xs.length == ys.length)=false:=by simpa using hl
      rw[eb,hb,Ru9]
      rw[hb,Bool.and_false] at q
      exact q
def rC(K:W.Frag):R2:=λx y H Q=>∃b,EqN K H 8 x y b/\Q (.bl b) H
def wB(K:W.Frag):R2:=λx y H Q=>∃b,EqN K H 8 x y b/\Q (.bl (!b)) H
theorem vL{n:Nat}{A:Around}{xs ys:List V}{us vs:List Value}{e:Nat->Bool}(I:Inv X pins σ H s)(hu:A.units+1+n < cLine)(he:∀(j:Nat) u v,xs[j]?=some u->ys[j]?=some v->EqN X.K H n u v (e j))(r1:Vals xs us)(r2:Vals ys vs):∀j (h1:j < us.toArray.size) (h2:j < vs.toArray.size),SeqAt.EqAt A.in1 s us.toArray[j] vs.toArray[j] (e j):=λj h1 h2=>by
 have l1:=r1.length
 have l2:=r2.length
 rw[mP] at h1 h2
 have g1:xs[j]?=some xs[j]:=tO (by omega)
 have g2:ys[j]?=some ys[j]:=tO (by omega)
 obtain⟨u',eu,ru⟩:=r1.get g1
 obtain⟨v',ev,rv⟩:=r2.get g2
 have eu':us.toArray[j]=u':=by
  rw[Tg9]
  exact Option.some.inj ((tO h1).symm.trans eu)
 have ev':vs.toArray[j]=v':=by
  rw[Tg9]
  exact Option.some.inj ((tO h2).symm.trans ev)
 rw[eu',ev']
 exact aHF I (n:=n) (by show A.units+1+n < cLine;omega) ru rv (he j _ _ g1 g2)
theorem aLv(ry:RelV y u)(rx:RelV x v)(fy:eF y=true)(fx:eF x=true):SeqAt.RcAt A s u v (eqV y x):=by
 cases y with
 |non=>
  cases ry
  cases x with
  |non=>cases rx;exact SeqAt.RcAt.none_none
  |bl b=>cases rx;exact SeqAt.RcAt.none_bool b
  |int b=>obtain⟨t,rfl⟩:=rx;exact SeqAt.RcAt.none_int b t
  |str b=>obtain⟨t,rfl⟩:=rx;exact SeqAt.RcAt.none_str b t
  |_=>exact absurd (show false=true from fx) Qu9
 |bl a=>
  cases ry
  cases x with
  |non=>cases rx;exact SeqAt.RcAt.bool_none a
  |bl b=>cases rx;exact SeqAt.RcAt.bool_bool a b
  |int b=>obtain⟨t,rfl⟩:=rx;exact SeqAt.RcAt.bool_int a b t
  |str b=>obtain⟨t,rfl⟩:=rx;exact SeqAt.RcAt.bool_str a b t
  |_=>exact absurd (show false=true from fx) Qu9
 |int a=>
  obtain⟨t',rfl⟩:=ry
  cases x with
  |non=>cases rx;exact SeqAt.RcAt.int_none a t'
  |bl b=>cases rx;exact SeqAt.RcAt.int_bool a t' b
  |int b=>obtain⟨t,rfl⟩:=rx;exact SeqAt.RcAt.int_int a t' b t
  |str b=>obtain⟨t,rfl⟩:=rx;exact SeqAt.RcAt.int_str a t' b t
  |_=>exact absurd (show false=true from fx) Qu9
 |str a=>
  obtain⟨t',rfl⟩:=ry
  cases x with
  |non=>cases rx;exact SeqAt.RcAt.str_none a t'
  |bl b=>cases rx;exact SeqAt.RcAt.str_bool a t' b
  |int b=>obtain⟨t,rfl⟩:=rx;exact SeqAt.RcAt.str_int a t' b t
  |str b=>obtain⟨t,rfl⟩:=rx;exact SeqAt.RcAt.str_str a t' b t
  |_=>exact absurd (show false=true from fx) Qu9
 |_=>exact absurd (show false=true from fy) Qu9
theorem aHG(ry:RelV y u)(rx:RelV x v)(fy:eF y=true)(fx:eF x=true):SeqAt.RcNeAt A s u v (!eqV y x):=by
 cases y with
 |non=>
  cases ry
  cases x with
  |non=>cases rx;exact SeqAt.RcNeAt.none_none
  |bl b=>cases rx;exact SeqAt.RcNeAt.none_bool b
  |int b=>obtain⟨t,rfl⟩:=rx;exact SeqAt.RcNeAt.none_int b t
  |str b=>obtain⟨t,rfl⟩:=rx;exact SeqAt.RcNeAt.none_str b t
  |_=>exact absurd (show false=true from fx) Qu9
 |bl a=>
  cases ry
  cases x with
  |non=>cases rx;exact SeqAt.RcNeAt.bool_none a
  |bl b=>cases rx;exact SeqAt.RcNeAt.bool_bool a b
  |int b=>obtain⟨t,rfl⟩:=rx;exact SeqAt.RcNeAt.bool_int a b t
  |str b=>obtain⟨t,rfl⟩:=rx;exact SeqAt.RcNeAt.bool_str a b t
  |_=>exact absurd (show false=true from fx) Qu9
 |int a=>
  obtain⟨t',rfl⟩:=ry
  cases x with
  |non=>cases rx;exact SeqAt.RcNeAt.int_none a t'
  |bl b=>cases rx;exact SeqAt.RcNeAt.int_bool a t' b
  |int b=>obtain⟨t,rfl⟩:=rx;exact SeqAt.RcNeAt.int_int a t' b t
  |str b=>obtain⟨t,rfl⟩:=rx;exact SeqAt.RcNeAt.int_str a t' b t
  |_=>exact absurd (show false=true from fx) Qu9
 |str a=>
  obtain⟨t',rfl⟩:=ry
  cases x with
  |non=>cases rx;exact SeqAt.RcNeAt.str_none a t'
  |bl b=>cases rx;exact SeqAt.RcNeAt.str_bool a t' b
  |int b=>obtain⟨t,rfl⟩:=rx;exact SeqAt.RcNeAt.str_int a t' b t
  |str b=>obtain⟨t,rfl⟩:=rx;exact SeqAt.RcNeAt.str_str a t' b t
  |_=>exact absurd (show false=true from fx) Qu9
 |_=>exact absurd (show false=true from fy) Qu9
theorem gY(hu:X.A.units+9 < cLine):pU X (compareOp .Eq) (rC X.K):=by
 intro pins s σ H x y v u Q I rx ry h
 obtain⟨b,h,q⟩:=h
 have fin:EP X pins σ Q (.bool b) s:=⟨.bl b,H,I,rfl,q⟩
 rcases h with ⟨h1,h2,e⟩|⟨p,l,xs,ys,e,e1,e2,hs,he,eb⟩
 ·exact aLv rx ry h1 h2 X.prog X.w X.xe _ (by rw[<-e];exact fin)
 ·subst e1 e2
  cases rx
  cases ry
  rcases hs with ⟨h1,h2⟩|⟨h1,h2⟩
  ·obtain⟨us,r1,p1,_⟩:=I.list h1
   obtain⟨vs,r2,p2,_⟩:=I.list h2
   have l1:=r1.length
   have l2:=r2.length
   by_cases hl:xs.length=ys.length
   ·refine SeqAt.RcAt.lists p1.isList p2.isList (by rw[mP,mP];omega) (by omega) (vL I (n:=7) (A:=X.A) (by omega) he r1 r2) X.prog X.w X.xe _ ?_
    rw[mP,<-l1]
    rw[eb,hl,beq_self_eq_true,Rw9,<-hl] at fin
    exact fin
   ·refine SeqAt.RcAt.lists_lengths p1.isList p2.isList (by rw[mP,mP];simp;omega) (by omega) X.prog X.w X.xe _ ?_
    rw[eb,show(xs.length == ys.length)=false by simpa using hl,Ru9] at fin
    exact fin
  ·obtain⟨us,r1,p1,_⟩:=I.tuple h1
   obtain⟨vs,r2,p2,_⟩:=I.tuple h2
   have l1:=r1.length
   have l2:=r2.length
   refine SeqAt.RcAt.tuples p1 p2 (by omega) (vL I (n:=7) (A:=X.A) (by omega) he r1 r2) X.prog X.w X.xe _ ?_
   rw[mP,mP,<-l1,<-l2]
   rw[eb] at fin
   by_cases hl:xs.length=ys.length
   ·rw[hl,beq_self_eq_true,Rw9] at fin
    rw[hl,Nat.min_self,beq_self_eq_true,Tk9]
    exact fin
   ·have hb:(xs.length == ys.length)=false:=by simpa using hl
    rw[hb,Ru9] at fin
    rw[hb,Bool.and_false]
    exact fin
theorem lC(hu:X.A.units+9 < cLine):pU X (compareOp .NotEq) (wB X.K):=by
 intro pins s σ H x y v u Q I rx ry h
 obtain⟨b,h,q⟩:=h
 have fin:EP X pins σ Q (.bool (!b)) s:=⟨.bl (!b),H,I,rfl,q⟩
 rcases h with ⟨h1,h2,e⟩|⟨p,l,xs,ys,e,e1,e2,hs,he,eb⟩
 ·exact aHG rx ry h1 h2 X.prog X.w X.xe _ (by rw[<-e];exact fin)
 ·subst e1 e2
  cases rx
  cases ry
  rcases hs with ⟨h1,h2⟩|⟨h1,h2⟩
  ·obtain⟨us,r1,p1,_⟩:=I.list h1
   obtain⟨vs,r2,p2,_⟩:=I.list h2
   have l1:=r1.length
   have l2:=r2.length
   by_cases hl:xs.length=ys.length
   ·refine SeqAt.RcNeAt.lists p1.isList p2.isList (by rw[mP,mP];omega) (by omega) (vL I (n:=7) (A:=X.A) (by omega) he r1 r2) X.prog X.w X.xe _ ?_
    rw[mP,<-l1]
    rw[eb,hl,beq_self_eq_true,Rw9,<-hl] at fin
    exact fin
   ·refine SeqAt.RcNeAt.lists_lengths p1.isList p2.isList (by rw[mP,mP];simp;omega) (by omega) X.prog X.w X.xe _ ?_
    rw[eb,show(xs.length == ys.length)=false by simpa using hl,Ru9] at fin
    exact fin
  ·obtain⟨us,r1,p1,_⟩:=I.tuple h1
   obtain⟨vs,r2,p2,_⟩:=I.tuple h2
   have l1:=r1.length
   have l2:=r2.length
   refine SeqAt.RcNeAt.tuples p1 p2 (by omega) (vL I (n:=7) (A:=X.A) (by omega) he r1 r2) X.prog X.w X.xe _ ?_
   rw[mP,mP,<-l1,<-l2]
   rw[eb] at fin
   by_cases hl:xs.length=ys.length
   ·rw[hl,beq_self_eq_true,Rw9] at fin
    rw[hl,Nat.min_self,beq_self_eq_true,Tk9]
    exact fin
   ·have hb:(xs.length == ys.length)=false:=by simpa using hl
    rw[hb,Ru9] at fin
    rw[hb,Bool.and_false]
    exact fin
def IsI(K:W.Frag)(H:Hp)(x:V)(c:V)(b:Bool):Prop:=∃t,xW K H x t/\((∃T,c=.ty T/\PySem.W.kitOne K t (.type T)=some b)\/(∃C,c=.ref C/\PySem.W.kitOne K t (.ref C)=some b))
theorem aHH:eR X (.builtin "isinstance") (λxs H Q=>∃x c b,xs=[x,c]/\IsI X.K H x c b/\Q (.bl b) H):=by
 intro pins s σ H xs us Q I r h
 obtain⟨x,c,b,rfl,⟨t,ty,hc⟩,q⟩:=h
 obtain⟨u,w',rfl,rx,ry⟩:=vals2 r
 rcases hc with ⟨T,rfl,e⟩|⟨C,rfl,e⟩
 ·cases ry
  exact aCe I rx ty e λtk=>⟨.bl b,H,I.tok _,rfl,q⟩
 ·cases ry
  exact aCe I rx ty e λtk=>⟨.bl b,H,I.tok _,rfl,q⟩
end
end L2
namespace L2
open PySem PySem.Spec PyProof.Rows
section
variable{X:Cx}
def gIx(K:W.Frag):V->V->Hp->VK->Prop:=λx y H Q=>∃p xs i v,x=.ref p/\y=.int i/\bQ K H p xs/\0<=i/\xs[i.toNat]?=some v/\Q v H
theorem aLw:aK2 X (gIx X.K):=by
 intro pins s σ H x y v u Q I rx ry h
 obtain⟨p,xs,i,z,rfl,rfl,hq,h0,he,q⟩:=h
 cases rx
 obtain⟨t,rfl⟩:=ry
 obtain⟨its,r,pl,hz⟩:=I.list hq
 obtain⟨w,ew,rw'⟩:=r.get he
 have hl:=r.length
 have hn:=w5
 have hi:i.toNat < xs.length:=(wF.mp he).1
 exact wpAny_getItem_list pl.isList h0 (by omega) (by simpa using ew) ⟨z,H,I,rw',q⟩
theorem tQ{k:Nat}{A:Around}(hr:gS k A):A.units+9 < cLine:=by have:=hr.un;omega
end
section
variable{σ:St}{H:Hp}{nx bk ct:St->Hp->Prop}{rt:VK}{Q:VK}{QT:Bool->Hp->Prop}{QA:List V->Hp->Prop}{QG:St->Hp->Prop}
theorem bF{t:TS}{D:Ends}{σ σ':St}(e:σ'=σ)(h:t D σ H):t D σ' H:=e▸h
theorem aLx{u:TS}(h:t ⟨u ⟨nx,rt,bk,ct⟩,rt,bk,ct⟩ σ H):aHb t u ⟨nx,rt,bk,ct⟩ σ H:=h
theorem aJw(h:nx σ H):aHa ⟨nx,rt,bk,ct⟩ σ H:=h
theorem aLy(h:te σ H λx H1=>g x σ H1 nx):aAC te g ⟨nx,rt,bk,ct⟩ σ H:=h
theorem aJx(h:te σ H λ_ H1=>nx σ H1):aHd te ⟨nx,rt,bk,ct⟩ σ H:=h
theorem aLz(h:te σ H rt):aKT te ⟨nx,rt,bk,ct⟩ σ H:=h
theorem aLA(h:c σ H λb H1=>if b=true then t ⟨nx,rt,bk,ct⟩ σ H1 else u ⟨nx,rt,bk,ct⟩ σ H1):aKV c t u ⟨nx,rt,bk,ct⟩ σ H:=h
theorem aJy{tget:V->V->Hp->VK->Prop}(h:to σ H λo H1=>ti σ H1 λi H2=>tget o i H2 λx H3=>te σ H3 λy H4=>tip x y H4 λz H5=>tset o i z H5 λH6=>nx σ H6):aHg to ti te tget tip tset ⟨nx,rt,bk,ct⟩ σ H:=h
theorem aLB{g:TG}(h:wi σ H λJ H1=>∃W:Nat->Nat->St->Hp->Prop,(∃m,W 0 m σ H1)/\∀i m σ H,W i m σ H->
 (J.stop i H/\nx σ H)\/(J.go i H/\∃N:St->Hp->Prop,(∀σ' H',N σ' H'->∃m',m' < m/\W (i+1) m' σ' H')/\∀x H',J.yld i H x H'->g x σ H' λσ2 H2=>tb ⟨N,rt,nx,N⟩ σ2 H2)):aK6 wi g tb ⟨nx,rt,bk,ct⟩ σ H:=h
theorem aHI{i:Nat}(e:σ.set i (some v)=σ')(h:QG σ' H):pA i v σ H QG:=by unfold pA;rw[e];exact h
theorem rX{K:W.Frag}{n:Nat}{t:TGs}{a:Addr}{xs:List V}(h1:mY K H a xs)(h2:xs.length=n)(h:t xs σ H QG):aI5 K n t (.ref a) σ H QG:=⟨a,xs,rfl,h1,h2,h⟩
theorem aJz(h:QG σ H):aI3 [] σ H QG:=⟨rfl,h⟩
theorem aHJ(h:t v σ H λσ' H'=>u r σ' H' QG):aFG t u (v::r) σ H QG:=⟨v,r,rfl,h⟩
theorem aJA(h:to σ H λo H1=>ti σ H1 λi H2=>t o i v H2 λH3=>QG σ H3):aKY to ti t v σ H QG:=h
theorem aFR{xs:List V}{k:Int}{j:Nat}{QH:Hp->Prop}(h1:H p=some (.lst xs))(h2:ixN xs.length k=some j)(h:QH (upd H p (.lst (xs.set j v)))):aKu (.ref p) (.int k) v H QH:=⟨p,xs,k,j,rfl,rfl,h1,h2,h⟩
theorem aLC{K:W.Frag}{p:Addr}{xs:List V}{i:Int}{v:V}(h1:bQ K H p xs)(h0:0<=i)(h2:xs[i.toNat]?=some v)(h:Q v H):gIx K (.ref p) (.int i) H Q:=⟨p,xs,i,v,rfl,rfl,h1,h0,h2,h⟩
theorem aLD{f:Int->Int->Int}{i j:Int}(h:Q (.int (f i j)) H):ipI f (.int i) (.int j) H Q:=⟨i,j,rfl,rfl,h⟩
theorem aLE{i:Nat}(e:σ[i]?=some (some v))(h:Q v H):aKF i σ H Q:=⟨v,e,h⟩
theorem aNy(h:Q v H):tC v σ H Q:=h
theorem aMS(h:ta σ H λx H1=>tb σ H1 λy H2=>r x y H2 Q):tOp r ta tb σ H Q:=h
theorem aMT{r:V->Hp->VK->Prop}(h:ta σ H λx H1=>r x H1 Q):tUn r ta σ H Q:=h
theorem aLF{g:Int->Int->V}{i j:Int}(h:Q (g i j) H):rI0 g (.int i) (.int j) H Q:=⟨i,j,rfl,rfl,h⟩
theorem aMU{C:Int->Int->Prop}{g:Int->Int->V}{i j:Int}(c:C i j)(h:Q (g i j) H):rI C g (.int i) (.int j) H Q:=⟨i,j,rfl,rfl,c,h⟩
theorem aMV{g:Int->V}{i:Int}(h:Q (g i) H):rU g (.int i) H Q:=⟨i,rfl,h⟩
theorem aJB{i j:Int}(h:Q (.int (i+j)) H):aHE (.int i) (.int j) H Q:=.inl ⟨i,j,rfl,rfl,h⟩
theorem dR{xs zs:List V}(h1:H l=some (.lst xs))(h2:H b=some (.lst zs))(hz:xs.length+zs.length<=sizeLine)(h:∀p,H p=none->Q (.ref p) (upd H p (.lst (xs++zs)))):aHE (.ref l) (.ref b) H Q:=.inr ⟨l,b,xs,zs,rfl,rfl,h1,h2,hz,h⟩
theorem aJC{i j:Int}(c:aHj i j)(h:Q (.int (i*j)) H):aKv (.int i) (.int j) H Q:=.inl ⟨i,j,rfl,rfl,c,h⟩
theorem aLG{K:W.Frag}{x y:V}(h1:eF x=true)(h2:eF y=true)(h:Q (.bl (eqV x y)) H):rC K x y H Q:=⟨_,.inl ⟨h1,h2,rfl⟩,h⟩
theorem aLH{K:W.Frag}{x y:V}(h1:eF x=true)(h2:eF y=true)(h:Q (.bl (!eqV x y)) H):wB K x y H Q:=⟨_,.inl ⟨h1,h2,rfl⟩,h⟩
theorem aA9{K:W.Frag}{p:Addr}{xs:List V}{i:Int}{v:V}(h1:bQ K H p xs)(h2:atI xs i=some v)(h:Q v H):rIx K (.ref p) (.int i) H Q:=.inl ⟨p,xs,i,v,rfl,rfl,h1,h2,h⟩
theorem aLI{K:W.Frag}{p:Addr}{xs:List V}{i:Int}{v:V}(h1:mY K H p xs)(h2:atI xs i=some v)(h:Q v H):rIx K (.ref p) (.int i) H Q:=.inr (.inl ⟨p,xs,i,v,rfl,rfl,h1,h2,h⟩)
theorem aMW{r:V->Option Int->Option Int->Hp->VK->Prop}(h:te σ H λx H1=>tl σ H1 λl H2=>th σ H2 λu H3=>r x l u H3 Q):tSl r te tl th σ H Q:=h
theorem aGC{QO:Option Int->Hp->Prop}(h:QO none H):aCV σ H QO:=h
theorem aJD{QO:Option Int->Hp->Prop}(h:t σ H λx H1=>∃i,x=.int i/\QO (some i) H1):aHt t σ H QO:=h
theorem cW{K:W.Frag}{a:Addr}{xs:List V}{lo hi:Option Int}(h1:bQ K H a xs)(h:∀p,H p=none->Q (.ref p) (upd H p (.lst (gX xs lo hi)))):kY K (.ref a) lo hi H Q:=.inl ⟨a,xs,rfl,h1,h⟩
theorem aJE(h:ta σ H λx H1=>∃c,x=.bl c/\if c=true then tb σ H1 Q else Q (.bl false) H1):aG8 ta tb σ H Q:=h
theorem aLJ(h:ta σ H λx H1=>∃c,x=.bl c/\if c=true then Q (.bl true) H1 else tb σ H1 Q):aKP ta tb σ H Q:=h
theorem aJF(h:ta σ H λx H1=>∃c,x=.bl c/\Q (.bl (!c)) H1):aG9 ta σ H Q:=h
theorem aHK(h:ta σ H λx H1=>tb σ H1 λy H2=>r x y H2 λz H3=>∃k,z=.bl k/\(if k=true then tc σ H3 λw' H4=>r' y w' H4 Q else Q (.bl false) H3)):aES r r' ta tb tc σ H Q:=h
theorem aJG(h:t σ H λx H'=>∃k,x=.bl k/\QT k H'):aHk t σ H QT:=h
theorem aMX(h:t σ H λx H'=>∃k,x=.bl k/\QT k H'):tB t σ H QT:=h
theorem aLK(h:t σ H λc H1=>if c=true then u σ H1 QT else QT false H1):aKK t u σ H QT:=h
theorem aMY(h:t σ H λc H1=>if c=true then QT true H1 else u σ H1 QT):tOr t u σ H QT:=h
theorem aLL(h:t σ H λc H1=>QT (!c) H1):aKL t σ H QT:=h
theorem aLM(h:QT true H):aLt σ H QT:=h
theorem aMZ{b:Bool}{P:Bool->Prop}(h:P b):∃k,V.bl b=V.bl k/\P k:=⟨b,rfl,h⟩
theorem aJH{i:Int}{P:Int->Prop}(h:P i):∃k,V.int i=V.int k/\P k:=⟨i,rfl,h⟩
theorem aM0{i:Int}{P:Int->Prop}(h:P i):∃k,[V.int i]=[V.int k]/\P k:=⟨i,rfl,h⟩
theorem aM1{i j:Int}{P:Int->Int->Prop}(h:P i j):∃k l,[V.int i,V.int j]=[V.int k,V.int l]/\P k l:=⟨i,j,rfl,h⟩
theorem aLN(h:QA [] H):rR σ H QA:=h
theorem aJI(h:ta σ H λx H1=>tr σ H1 λxs H2=>QA (x::xs) H2):bN ta tr σ H QA:=h
theorem aLO(h:t σ H λxs H1=>xs.length<=sizeLine/\∀p,H1 p=none->Q (.ref p) (upd H1 p (.tup xs))):aGv t σ H Q:=h
theorem aLP(h:t σ H λxs H1=>xs.length<=sizeLine/\∀p,H1 p=none->Q (.ref p) (upd H1 p (.lst xs))):w6 t σ H Q:=h
theorem aJJ(h:t σ H λvs H1=>sp vs H1 Q E):aDP sp [] E t σ H Q:=by
 unfold aDP
 simpa only [Ry9] using h
theorem aM2{r:List V->Hp->VK->Prop}(h:t σ H λvs H1=>r vs H1 Q):tCB r t σ H Q:=h
theorem aJK{k:Nat}{idx:List Nat}(h:wi σ H λJ H1=>uE J (cσ k idx σ) g tt te (λys H'=>∀p,H' p=none->Q (.ref p) (upd H' p (.lst ys))) H1):xZ wi k idx g tt te σ H Q:=h
theorem aHL{R:It->Hp->Prop}(h:ta σ H λvs H1=>∃j:Int,vs=[.int j]/\-(2 ^ 62)<=j/\j < 2 ^ 62/\R (Itr 0 j.toNat) H1):aFI ta σ H R:=h
theorem aHM{R:It->Hp->Prop}(h:ta σ H λvs H1=>∃i j:Int,vs=[.int i,.int j]/\(-(2 ^ 62)<=i/\i < 2 ^ 62/\-(2 ^ 62)<=j/\j < 2 ^ 62)/\R (Itr i (j - i).toNat) H1):aFJ ta σ H R:=h
theorem aLQ{K:W.Frag}{ta:TE}{f:Str}(h:ta σ H λx H1=>∃a C dx fs v,x=.ref a/\H1 a=some (.ins C dx fs)/\Cls K C/\dB K C f/\fs.lookup f=some v/\Q v H1):aLc K ta f σ H Q:=h
theorem aJL{n:Nat}{P:Prop}(h1:n<=sizeLine)(h:P):n<=sizeLine/\P:=⟨h1,h⟩
theorem aX{n:Nat}(h:n<=16777216):n<=sizeLine:=by rw[Tu9];exact h
end
section
variable{A B:Prop}{c:Prop}[Decidable c]
theorem bX(h1:c->A)(h2:¬c->B):if decide c=true then A else B:=by
 by_cases h:c
 ·rw[gU (Rv9 h)];exact h1 h
 ·rw[fQ (by simpa using h)];exact h2 h
theorem lN(h1:¬c->A)(h2:c->B):if (!decide c)=true then A else B:=by
 by_cases h:c
 ·rw[fQ (by simpa using h)];exact h2 h
 ·rw[gU (by simpa using h)];exact h1 h
theorem iJ{b:Bool}(h1:b=true->A)(h2:b=false->B):if b=true then A else B:=by
 cases b
 ·exact aJp (h2 rfl)
 ·exact aHz (h1 rfl)
end
def aKw(sc:Scope)(NX:List Str)(scope:Scope)(N:List Str)(k:Nat)(idx:List Nat):Bool:=
 scope.names.all (λy=>!(y.2 == .cell)) && scope.names.all (λy=>!(y.2 == .local) || scope.names.lookup y.1 == some .local) &&
 scope.names.all (λy=>!(y.2 == .free) || (sc.names.lookup y.1 == some .cell || sc.names.lookup y.1 == some .free)) &&
 decide N.Nodup && decide (N.length=k+idx.length) && (List.range idx.length).all λi=>
  match (N.drop k)[i]?,idx[i]? with
  |some x,some j=>decide (NX[j]?=some x) && scope.names.lookup x == some .free
  |_,_=>false
theorem d6{X:Cx}{scope:Scope}{k:Nat}{idx:List Nat}(hsc:X.env.scope=sc)(hN:X.N=NX)(hk:scope.kind=.function)(h:aKw sc NX scope N k idx=true):d5 X scope N k idx:=by
 unfold aKw at h
 simp only[zB,decide_eq_true_eq] at h
 obtain⟨⟨⟨⟨⟨h1,h2⟩,h3⟩,h4⟩,h5⟩,h6⟩:=h
 rw[Ri9] at h1 h2 h3 h6
 refine⟨hk,λy hy e=>?_,λy hy e=>?_,λy hy e=>?_,h4,h5,λi x e=>?_⟩
 ·have:=h1 y hy
  rw[e] at this
  simp at this
 ·have:=h2 y hy
  rw[e] at this
  simpa using this
 ·have:=h3 y hy
  rw[e] at this
  show X.env.scope.names.lookup y.1=_\/X.env.scope.names.lookup y.1=_
  rw[hsc]
  simpa using this
 ·have hi:i < (N.drop k).length:=(wF.mp e).1
  have hi2:i < idx.length:=by rw[Rm9] at hi;omega
  have q:=h6 i (Th9.mpr hi2)
  rw[e,tO hi2] at q
  simp only[zB,decide_eq_true_eq] at q
  exact⟨idx[i],tO hi2,by rw[hN];exact q.1,by simpa using q.2⟩
theorem cQ{H:Hp}{a b:Addr}{o:HO}(h':H b=none)(h:H a=some o):a≠b:=bZ h h'
theorem aT.at(e:aT H H')(h:H b=some o):H' b=some o:=e b o h
def cJ(p:Addr)(H H':Hp):Prop:=∀b o,H b=some o->b≠p->H' b=some o
theorem cJ.at(e:cJ p H H')(h:H b=some o)(n:b≠p):H' b=some o:=e b o h n
theorem aT.new(h:H p=none):aT H (upd H p o):=λb u e=>by rw[aU (bZ e h)];exact e
theorem cJ.upd:cJ p H (upd H p o):=λb u e n=>by rw[aU n];exact e
theorem cJ.trans(a:cJ p H H1)(b:cJ p H1 H2):cJ p H H2:=λc o h n=>b c o (a c o h n) n
theorem aT.keep(a:aT H H'):cJ p H H':=λc o h _=>a c o h
end L2
namespace L2
open PySem PySem.Spec PyProof.Rows
section
variable{σ:St}{H:Hp}{nx bk ct:St->Hp->Prop}{rt:VK}
theorem cY{t u:TS}(J:St->Hp->Prop)(h1:∀N:St->Hp->Prop,(∀σ' H',J σ' H'->N σ' H')->t ⟨N,rt,bk,ct⟩ σ H)(h2:∀σ' H',J σ' H'->u ⟨nx,rt,bk,ct⟩ σ' H'):aHb t u ⟨nx,rt,bk,ct⟩ σ H:=h1 _ h2
end
theorem aCl{K:W.Frag}{a:Addr}{xs:List V}{σ₀:St}{g:TG}{tt:TT}{te:TE}{R:List V->Hp->Prop}{H:Hp}(f:V->V)(hS:bQ K H a xs)(hz:xs.length<=sizeLine)
  (hs:∀x (N:V->Hp->Prop) (N':Hp->Prop),x∈xs->N (f x) H->g x σ₀ H λσ2 H2=>tt σ2 H2 λb H3=>if b=true then te σ2 H3 λy H4=>N y H4 else N' H3)
  (hd:R (xs.map f) H):uE (Itl K a) σ₀ g tt te R H:=by
 refine cP (λi ys H'=>H'=H/\ys=(xs.take i).map f) ⟨rfl,by simp⟩ hz (λi ys H' hi z1q=>?_) (λi x ys H' hx z2q=>?_) (λys H' z3q=>?_)
 ·obtain⟨e1,e2⟩:=z1q
  subst e1 e2
  exact⟨hS,by simp;omega⟩
 ·obtain⟨e1,e2⟩:=z2q
  subst e1 e2
  refine hs x (λy H4=>H4=H'/\(xs.take i).map f ++ [y]=(xs.take (i+1)).map f) (λH3=>H3=H'/\(xs.take i).map f=(xs.take (i+1)).map f) (v9 hx) ⟨rfl,?_⟩
  rw[To9,hx,o5]
  rfl
 ·obtain⟨e1,e2⟩:=z3q
  subst e1 e2
  rw[Qx9]
  exact hd
theorem aJM{X:Cx}{n:Int}(hg:Gl X x)(hm:∃t,X.mg x=some (.int n t))(hd:(x == ("__debug__" : Str))=false:=by decide):PE X (.Name x pos) (tC (.int n)):=by
 obtain⟨t,hm⟩:=hm
 exact aCS (v:=.int n) hg hm ⟨t,rfl⟩ hd
section
variable{X:Cx}{K:W.Frag}{H:Hp}{Q:VK}
def nP(K:W.Frag):List V->Hp->VK->Prop:=λxs H Q=>∃x n,xs=[x]/\aMI K x H n/\Q (.int n) H
theorem cF:eR X (.builtin "len") (nP X.K):=aHn
theorem aJN{xs:List V}(h:bQ K H p xs)(q:Q (.int xs.length) H):nP K [.ref p] H Q:=⟨_,_,rfl,.inl ⟨_,h,rfl⟩,q⟩
theorem aJO{xs:List V}(h:mY K H p xs)(q:Q (.int xs.length) H):nP K [.ref p] H Q:=⟨_,_,rfl,.inr ⟨_,h,rfl⟩,q⟩
def aM3:List V->Hp->VK->Prop:=λxs H Q=>∃i,xs=[.int i]/\Q (.int (if i < 0 then -i else i)) H
theorem aGD:eR X (.builtin "abs") aM3:=aHm
theorem aLR{i:Int}(h:Q (.int (if i < 0 then -i else i)) H):aM3 [.int i] H Q:=⟨i,rfl,h⟩
def aM4:List V->Hp->VK->Prop:=λxs H Q=>∃i j,xs=[.int i,.int j]/\Q (.int (if j > i then j else i)) H
theorem aCm(hc:X.calm=true):eR X (.builtin "max") aM4:=aGq hc
theorem aLS{i j:Int}(h:Q (.int (max i j)) H):aM4 [.int i,.int j] H Q:=⟨i,j,rfl,by
 rw[show(if j > i then j else i)=max i j by split <;> omega];exact h⟩
def aM5:List V->Hp->VK->Prop:=λxs H Q=>∃i j,xs=[.int i,.int j]/\Q (.int (if j < i then j else i)) H
theorem aGE(hc:X.calm=true):eR X (.builtin "min") aM5:=aGr hc
theorem aLT{i j:Int}(h:Q (.int (min i j)) H):aM5 [.int i,.int j] H Q:=⟨i,j,rfl,by
 rw[show(if j < i then j else i)=min i j by split <;> omega];exact h⟩
def aBO(K:W.Frag):List V->Hp->VK->Prop:=λxs H Q=>∃x c b,xs=[x,c]/\IsI K H x c b/\Q (.bl b) H
theorem jP:eR X (.builtin "isinstance") (aBO X.K):=aHH
theorem uG{b:Bool}(h1:IsI K H x c b)(h:Q (.bl b) H):aBO K [x,c] H Q:=⟨x,c,b,rfl,h1,h⟩
def vM(K:W.Frag):List V->Hp->VK->Prop:=λxs H Q=>∃p ys,xs=[.ref p]/\(bQ K H p ys\/mY K H p ys)/\∀l,H l=none->Q (.ref l) (upd H l (.lst ys))
theorem rY:eR X (.type "list") (vM X.K):=aC4
theorem yA(h1:bQ K H p ys)(h:∀l,H l=none->Q (.ref l) (upd H l (.lst ys))):vM K [.ref p] H Q:=⟨p,ys,rfl,.inl h1,h⟩
end
theorem aJP{K:W.Frag}{H:Hp}{p q:Addr}{xs:List V}(h1:bQ K H p xs)(h2:bQ K H q []):EqN K H 8 (.ref p) (.ref q) xs.isEmpty:=
 .inr ⟨p,q,xs,[],λ_=>true,rfl,rfl,.inl ⟨h1,h2⟩,λj u v _ e=>by simp at e,by cases xs <;> simp⟩
theorem aHN{xs:List V}{n:Nat}(h:xs.length<=n):gX xs none (some (n:Int))=xs:=by
 unfold gX
 rw[HT.rB,HT.aFL,Nat.min_eq_right h,Sq9,Nat.sub_zero,Qx9]
end L2
namespace L2
open PySem PySem.Spec PyProof.Rows
section
variable{σ:St}{H:Hp}{nx:St->Hp->Prop}{rt:VK}{g:TG}{tb:TS}{Q:VK}
theorem aBa{lo:Int}{n:Nat}(Pv:Nat->St->Hp->Prop)(h0:Pv 0 σ H)
  (hs:∀i σ H,i < n->Pv i σ H->g (.int (lo+i)) σ H λσ2 H2=>tb ⟨Pv (i+1),rt,nx,Pv (i+1)⟩ σ2 H2) (hd:∀σ H,Pv n σ H->nx σ H) :
  ∃W:Nat->Nat->St->Hp->Prop,(∃m,W 0 m σ H)/\∀i m σ H,W i m σ H->
   ((Itr lo n).stop i H/\nx σ H)\/((Itr lo n).go i H/\∃N:St->Hp->Prop,(∀σ' H',N σ' H'->∃m',m' < m/\W (i+1) m' σ' H')/\∀x H',(Itr lo n).yld i H x H'->g x σ H' λσ2 H2=>tb ⟨N,rt,nx,N⟩ σ2 H2):=
 aGo (D:=⟨nx,rt,λ_ _=>False,λ_ _=>False⟩) Pv h0 hs hd
theorem yB{K:W.Frag}{a:Addr}{xs:List V}(Pv:Nat->St->Hp->Prop)(h0:Pv 0 σ H)(hl:∀i σ H,i<=xs.length->Pv i σ H->bQ K H a xs)
  (hs:∀i x σ H,xs[i]?=some x->Pv i σ H->g x σ H λσ2 H2=>tb ⟨Pv (i+1),rt,nx,Pv (i+1)⟩ σ2 H2) (hd:∀σ H,Pv xs.length σ H->nx σ H) :
  ∃W:Nat->Nat->St->Hp->Prop,(∃m,W 0 m σ H)/\∀i m σ H,W i m σ H->
   ((Itl K a).stop i H/\nx σ H)\/((Itl K a).go i H/\∃N:St->Hp->Prop,(∀σ' H',N σ' H'->∃m',m' < m/\W (i+1) m' σ' H')/\∀x H',(Itl K a).yld i H x H'->g x σ H' λσ2 H2=>tb ⟨N,rt,nx,N⟩ σ2 H2):=
 aHi (D:=⟨nx,rt,λ_ _=>False,λ_ _=>False⟩) Pv h0 hl hs hd
theorem aLU{K:W.Frag}{a:Addr}{xs:List V}(Pv:Nat->St->Hp->Prop)(h0:Pv 0 σ H)(hl:∀i σ H,i<=xs.length->Pv i σ H->mY K H a xs)
  (hs:∀i x σ H,xs[i]?=some x->Pv i σ H->g x σ H λσ2 H2=>tb ⟨Pv (i+1),rt,nx,Pv (i+1)⟩ σ2 H2) (hd:∀σ H,Pv xs.length σ H->nx σ H) :
  ∃W:Nat->Nat->St->Hp->Prop,(∃m,W 0 m σ H)/\∀i m σ H,W i m σ H->
   ((Itt K a).stop i H/\nx σ H)\/((Itt K a).go i H/\∃N:St->Hp->Prop,(∀σ' H',N σ' H'->∃m',m' < m/\W (i+1) m' σ' H')/\∀x H',(Itt K a).yld i H x H'->g x σ H' λσ2 H2=>tb ⟨N,rt,nx,N⟩ σ2 H2):=
 aI8 (D:=⟨nx,rt,λ_ _=>False,λ_ _=>False⟩) Pv h0 hl hs hd
theorem aLV{K:W.Frag}{i j:Int}(h:Q (.bl (decide (i=j))) H):rC K (.int i) (.int j) H Q:=⟨_,.inl ⟨rfl,rfl,rfl⟩,h⟩
theorem aLW{K:W.Frag}{i j:Int}(h:Q (.bl (!decide (i=j))) H):wB K (.int i) (.int j) H Q:=⟨_,.inl ⟨rfl,rfl,rfl⟩,h⟩
end
end L2
namespace L2
open PySem PySem.Spec PyProof.Rows
def noStar:Expr->Bool
 |.Starred _ _=>false
 |_=>true
theorem bV(h:noStar e=true):starEach (e::es) env=(false,eval e env)::starEach es env:=by
 cases e <;> first|rfl|exact absurd h Qu9
theorem mS:∀{es:List Expr},es.all noStar=true->(backTo pos (starEach es env)).any (·.1)=false
 |[],_=>rfl
 |e::es,h=>by
  rw[Tc9,zB] at h
  rw[bV h.1]
  have ih:=mS (env:=env) (pos:=pos) h.2
  unfold backTo at ih ⊢
  rw[Sn9,Td9]
  rw[ih]
  rfl
section
variable{X:Cx}{CX:CXT}{k:Nat}{f C:Addr}{fd:FuncData}{ps:List Str}{sp:Sp}{dvs:List V}{ds:List Value}{E:XK}{x m:Str}{p pos apos:Pos}{e o:Expr}{es:List Expr}{ta te:TE}{t:TA}
theorem iY(ha:PE X e te)(hr:PA X es t)(hs:noStar e=true:=by rfl):PA X (e::es) (bN te t):=aJe ha hr (bV hs)
theorem kA{es:List Expr}(h:(e::es).all noStar=true):noStar e=true/\es.all noStar=true:=by
 rw[Tc9,zB] at h
 exact h
theorem aHO(F:cT X.prog X.w X.K X.mg X.base CX k f fd ps sp)(hr:gS k X.A)(hg:Gl X x)(hm:X.mg x=some (.ref f))(hk:W.keepIn X.K (.ref f)=true)(hb:Binds X.K fd ps ds)(hd:Vals dvs ds)(hx:Passes CX X E)
  (ha:PA X (e::es) t) (hn:(e::es).all noStar=true:=by rfl) (hdb:(x == ("__debug__" : Str))=false:=by decide):PE X (.Call (.Name x p) (e::es) [] pos) (aDP sp dvs E t):=
 aJf F hr hg hm hk hb hd hx ha hdb (bV (kA hn).1) (mS (kA hn).2)
theorem aHP(M:Mk X.K C f)(F:cT X.prog X.w X.K X.mg X.base CX k f fd ps sp)(hr:gS (k+1) X.A)(hg:Gl X x)(hm:X.mg x=some (.ref C))(hb:Binds X.K fd ps ds)(hd:Vals dvs ds)(hx:Passes CX X E)
  (ha:PA X (e::es) t) (hn:(e::es).all noStar=true:=by rfl) (hdb:(x == ("__debug__" : Str))=false:=by decide):PE X (.Call (.Name x p) (e::es) [] pos) (aDQ C sp dvs E t):=
 aJg M F hr hg hm hb hd hx ha hdb (bV (kA hn).1) (mS (kA hn).2)
variable{id T:String}{r:List V->Hp->VK->Prop}
theorem aGF(hc:eR X (.builtin id) r)(hg:Gl X x)(hm:X.mg x=none)(hv:bootBuiltins x=some (.builtin id))(ha:PA X (e::es) t)(hn:(e::es).all noStar=true:=by rfl)(hne:x≠"__name__":=by decide)(hdb:(x == ("__debug__" : Str))=false:=by decide) :
  PE X (.Call (.Name x p) (e::es) [] pos) (tCB r t):=aHr hc hg hm hv ha hne hdb (bV (kA hn).1) (mS (kA hn).2)
theorem aE7(hc:eR X (.type T) r)(hg:Gl X x)(hm:X.mg x=none)(hv:bootBuiltins x=some (.type T))(ha:PA X (e::es) t)(hn:(e::es).all noStar=true:=by rfl)(hne:x≠"__name__":=by decide)(hdb:(x == ("__debug__" : Str))=false:=by decide) :
  PE X (.Call (.Name x p) (e::es) [] pos) (tCB r t):=aGx hc hg hm hv ha hne hdb (bV (kA hn).1) (mS (kA hn).2)
variable{tg a b:Expr}
theorem aE8(hg:Gl X "range")(hm:X.mg "range" = none)(ha:PA X [a] t)(hn:noStar a=true:=by rfl):PI X tg (.Call (.Name "range" p) [a] [] pos) (aFI t):=aGl hg hm ha (bV hn)
theorem aE9(hg:Gl X "range")(hm:X.mg "range" = none)(ha:PA X [a,b] t)(hn:noStar a=true:=by rfl)(hn2:noStar b=true:=by rfl):PI X tg (.Call (.Name "range" p) [a,b] [] pos) (aFJ t):=
 aGm hg hm ha (by rw[bV hn,bV hn2];rfl) (bV hn2)
end
end L2
namespace L2
open PySem PySem.Spec PyProof.Rows
section
variable{X:Cx}{pos:Pos}{x1:Nat}{e1 e2 e3 e4 e5 e6 e7 e8:Expr}{t1 t2 t3 t4 t5 t6 t7 t8:TE}
theorem aNz(h1:PE X e1 t1)(n1:noStar e1=true:=by rfl):PE X (.List [e1] pos) (w6 (bN t1 rR)):=w9 (iY h1 rS n1)
theorem aNA(h1:PE X e1 t1)(h2:PE X e2 t2)(n1:noStar e1=true:=by rfl)(n2:noStar e2=true:=by rfl):PE X (.List [e1,e2] pos) (w6 (bN t1 (bN t2 rR))):=w9 (iY h1 (iY h2 rS n2) n1)
theorem aNB{k1}(h1:PE X e1 t1)(h2:PE X e2 t2)(n1:noStar e1=true:=by rfl)(n2:noStar e2=true:=by rfl):PE X (.Tuple [e1,e2] k1 pos) (aGv (bN t1 (bN t2 rR))):=aHo (iY h1 (iY h2 rS n2) n1)
theorem aNC(h1:PE X e1 t1)(h2:PE X e2 t2)(h3:PE X e3 t3)(n1:noStar e1=true:=by rfl)(n2:noStar e2=true:=by rfl)(n3:noStar e3=true:=by rfl):PE X (.List [e1,e2,e3] pos) (w6 (bN t1 (bN t2 (bN t3 rR)))):=w9 (iY h1 (iY h2 (iY h3 rS n3) n2) n1)
theorem aND(h1:PE X e1 t1)(h2:PE X e2 t2)(h3:PE X e3 t3)(h4:PE X e4 t4)(n1:noStar e1=true:=by rfl)(n2:noStar e2=true:=by rfl)(n3:noStar e3=true:=by rfl)(n4:noStar e4=true:=by rfl):PE X (.List [e1,e2,e3,e4] pos) (w6 (bN t1 (bN t2 (bN t3 (bN t4 rR))))):=w9 (iY h1 (iY h2 (iY h3 (iY h4 rS n4) n3) n2) n1)
theorem aNE(h1:PE X e1 t1)(h2:PE X e2 t2)(h3:PE X e3 t3)(h4:PE X e4 t4)(h5:PE X e5 t5)(n1:noStar e1=true:=by rfl)(n2:noStar e2=true:=by rfl)(n3:noStar e3=true:=by rfl)(n4:noStar e4=true:=by rfl)(n5:noStar e5=true:=by rfl):PE X (.List [e1,e2,e3,e4,e5] pos) (w6 (bN t1 (bN t2 (bN t3 (bN t4 (bN t5 rR)))))):=w9 (iY h1 (iY h2 (iY h3 (iY h4 (iY h5 rS n5) n4) n3) n2) n1)
theorem aNF(h1:PE X e1 t1)(h2:PE X e2 t2)(h3:PE X e3 t3)(h4:PE X e4 t4)(h5:PE X e5 t5)(h6:PE X e6 t6)(h7:PE X e7 t7)(n1:noStar e1=true:=by rfl)(n2:noStar e2=true:=by rfl)(n3:noStar e3=true:=by rfl)(n4:noStar e4=true:=by rfl)(n5:noStar e5=true:=by rfl)(n6:noStar e6=true:=by rfl)(n7:noStar e7=true:=by rfl):PE X (.List [e1,e2,e3,e4,e5,e6,e7] pos) (w6 (bN t1 (bN t2 (bN t3 (bN t4 (bN t5 (bN t6 (bN t7 rR)))))))):=w9 (iY h1 (iY h2 (iY h3 (iY h4 (iY h5 (iY h6 (iY h7 rS n7) n6) n5) n4) n3) n2) n1)
theorem aNG{k1}(h1:PE X e1 t1)(h2:PE X e2 t2)(h3:PE X e3 t3)(h4:PE X e4 t4)(h5:PE X e5 t5)(h6:PE X e6 t6)(h7:PE X e7 t7)(n1:noStar e1=true:=by rfl)(n2:noStar e2=true:=by rfl)(n3:noStar e3=true:=by rfl)(n4:noStar e4=true:=by rfl)(n5:noStar e5=true:=by rfl)(n6:noStar e6=true:=by rfl)(n7:noStar e7=true:=by rfl):PE X (.Tuple [e1,e2,e3,e4,e5,e6,e7] k1 pos) (aGv (bN t1 (bN t2 (bN t3 (bN t4 (bN t5 (bN t6 (bN t7 rR)))))))):=aHo (iY h1 (iY h2 (iY h3 (iY h4 (iY h5 (iY h6 (iY h7 rS n7) n6) n5) n4) n3) n2) n1)
end
end L2
namespace L2
open PySem PySem.Spec PyProof.Rows
section
variable{X:Cx}{pins:List (Addr×Obj)}{σ:St}{H:Hp}{s:Shared}{h':Heap}
theorem Inv.aGG{t':Nat}{ch:List Addr}{T:Addr}{o:HO}(I:Inv X pins σ H s)(k:∀b u,b∉ch->s.heap.get? b=some u->h'.get? b=some u)
  (hch:∀b∈ch,qO X pins H b) (hT:s.heap.objs.size<=T) (new:eE X.prog X.w (upd H T o) h' T o):Inv X pins σ (upd H T o) { s with heap:=h',toks:=t' }:=by
 have hn:H T=none:=I.hok.fresh hT
 have nit:∀b u,H b=some u->b∉ch:=λb u e z=>by rw[(hch b z).1] at e;cases e
 have neT:∀b u,H b=some u->b≠T:=λb u e=>bZ e hn
 refine I.step (g':=s.gens) (d':=s.drawn) (ch:=ch) (λb hb=>?_) (λb u _ _ hc e _=>k b u hc e) (λb u _ _ hc e _=>⟨u.slots,k b u hc e⟩) (λb u hc e n=>?_)
  (λb u hc e=>⟨u,k b u hc e⟩) (λb xs e=>?_) (λb u v e=>?_) (λb ps e=>⟨#[],?_⟩) (λm hm=>?_) (λb u e=>?_) I.bare
 ·obtain⟨f0,f1,f2,f3,f4,f5⟩:=hch b hb
  exact⟨f3,f1,f4,f5⟩
 ·rw[aU (wG (xU (kW e) hT))];exact n
 ·rw[aU (neT _ _ e)];exact e
 ·rw[aU (neT _ _ e)];exact e
 ·rw[aU (neT _ _ e),e];simp
 ·obtain⟨u,es,ep,ho,r⟩:=hm
  exact⟨u,es,ep,k _ u (λz=>(hch _ z).2.1 rfl) ho,r⟩
 ·by_cases hb:b=T
  ·subst hb;rw[aO] at e;cases e;exact new
  ·rw[aU hb] at e
   refine(I.hok b u e).aAB (λc v hc q=>k c v ?_ q) (λc q=>by rw[aU (bZ q hn)];exact q) λc xs _ q=>by rw[aU (bZ q hn)];exact q
   rcases hc with z|z
   ·rw[z];exact nit b u e
   ·exact nit c _ z
end
def Ite(K:W.Frag)(a:Addr):It:=
 ⟨λi H=>∃xs x,bQ K H a xs/\xs[i]?=some x,λi H x H'=>∃T v,H T=none/\x=.ref T/\H'=upd H T (.tup [.int i,v])/\∀xs,bQ K H a xs->xs[i]?=some v,λi H=>∃xs,bQ K H a xs/\xs.length<=i⟩
theorem aGH{P:Program}{w:World}{K:W.Frag}{elts:List Expr}{x1:Nat}{tp:Pos}(a e it:Addr)(hei:e≠it) :
  Turn P w K (.Tuple elts x1 tp) (Ite K a) [e,it] e (λi h=>(∃old,IsEnum h e it ((i:Nat):Int) old)/\h.IsListIter it a i) where
 mem:=by simp
 obj:=λi h st b hb=>by
  obtain⟨⟨old,he⟩,st⟩:=st
  rcases rN.mp hb with z|hb
  ·subst z
   exact⟨_,he,λv z=>by cases z⟩
  ·have z:b=it:=by simpa using hb
   subst z
   obtain⟨o,e,c,d⟩:=st
   exact⟨o,e,λv z=>by rw[d] at z;cases z⟩
 keep:=λi h h' st k=>by
  obtain⟨⟨old,he⟩,st⟩:=st
  exact⟨⟨old,k e (by simp) _ he⟩,st.at λo q=>k it (by simp) o q⟩
 item:=by
  intro X hP hw hK hc i pins s σ H E I hf st hg
  subst hP hw hK
  obtain⟨⟨old,he⟩,st⟩:=st
  obtain⟨xs,x,hq,hx⟩:=hg
  obtain⟨its,rv,p,hz⟩:=I.list hq
  obtain⟨u,hu,ru⟩:=rv.get hx
  have helt:e < s.heap.objs.size:=kW he
  have hilt:it < s.heap.objs.size:=by obtain⟨_,z,_⟩:=id st;exact kW z
  refine wpAny_pyNext_enum_item he st p.isList (x:=u) (by simpa using hu) hei λh1 ho hit1 hT hsz hk=>?_
  refine⟨_,rfl,wpAny_letOwnedTupleGo_enum ho λh2 he2 hs2=>?_⟩
  replace hs2:Heap.SameBut e h1 h2:=hs2
  have hT2:h2.IsTuple s.heap.objs.size #[.int i s.toks,u]:=⟨_,(hs2.2 _ (Tj9 helt)).trans hT,rfl,_,rfl⟩
  have kk:∀b o,b∉[e,it]->s.heap.get? b=some o->h2.get? b=some o:=λb o hb q=>by
   have n1:b≠e:=λz=>hb (by simp[z])
   have n2:b≠it:=λz=>hb (by simp[z])
   exact(hs2.2 b n1).trans (hk b o n1 n2 q)
  have I2:Inv X pins σ (upd H s.heap.objs.size (.tup [.int i,x])) { s with heap:=h2,toks:=s.toks+1 }:=
   I.aGG kk hf (iI _) (show eE X.prog X.w _ h2 _ (.tup [.int i,x]) from⟨aX (by simp),[.int i s.toks,u],.cons ⟨_,rfl⟩ (.cons ru .nil),hT2⟩)
  have hfr:H s.heap.objs.size=none:=I.hok.fresh (iI _)
  refine⟨.ref s.heap.objs.size,_,I2,rfl,⟨_,x,hfr,rfl,rfl,λys hy=>by rw[I.aA2 hy hq];exact hx⟩,⟨⟨u,?_⟩,?_⟩,λb hb=>?_⟩
  ·have e1:((i+1:Nat):Int)=(i:Int)+1:=by push_cast;rfl
   rw[e1]
   exact he2
  ·exact hit1.at λo q=>(hs2.2 it hei.symm).trans q
  ·have hlt:b < s.heap.objs.size:=by
    rcases rN.mp hb with z|hb
    ·rw[z];exact helt
    ·rw[show b=it by simpa using hb];exact hilt
   rw[aU (wG hlt)]
   exact(hf b hb).1
 done:=by
  intro X hP hw hK hc i pins s σ H E I hf st hg
  subst hP hw hK
  obtain⟨⟨old,he⟩,st⟩:=st
  obtain⟨xs,hq,hx⟩:=hg
  obtain⟨its,rv,p,hz⟩:=I.list hq
  obtain⟨f0,f1,f2,f3,f4,f5⟩:=hf it (by simp)
  have hl:=rv.length
  exact wpAny_pyNext_enum_end (I.ok.hd hc) he st p.isList (by simp;omega) λh' eb=>⟨rfl,I.turned (t':=s.toks) (λb o hb e=>eb b o hb e) f0 f1 f3 f4 f5⟩
 self:=λ_ _ _ _ _ st h=>by
  obtain⟨⟨old,he⟩,st⟩:=st
  exact wpAny_pyIter_enum he h
section
variable{X:Cx}{elts:List Expr}{x1:Nat}{tp:Pos}
def aHQ(K:W.Frag)(ta:TA):TI:=λσ H R=>ta σ H λvs H1=>∃a,vs=[.ref a]/\(∃xs,bQ K H1 a xs)/\R (Ite K a) H1
theorem aJQ{a:Expr}{ta:TA}{p pos:Pos}(hg:Gl X "enumerate")(hm:X.mg "enumerate" = none)(ha:PA X [a] ta)(hn:noStar a=true:=by rfl):PI X (.Tuple elts x1 tp) (.Call (.Name "enumerate" p) [a] [] pos) (aHQ X.K ta):=by
 intro pins s σ H R I h
 refine Call_ (zD I hg hm boot_enumerate (PyProof.Rows.callWith_type1 (dY (ha pos pins s σ H _ I h) λus s1 ⟨vs,H1,I1,r1,q1⟩=>?_) (bV hn) rfl))
 obtain⟨l,e,⟨xs,hq⟩,q⟩:=q1
 subst e
 obtain⟨u,rfl,ru⟩:=vals1 r1
 cases ru
 obtain⟨its,rv,pl,hz⟩:=I1.list hq
 refine call_enumerate_list pl.isList λh' he hit hsz hk=>?_
 refine wpAny_pyIter_enum he ?_
 refine⟨s1.heap.objs.size+1,[s1.heap.objs.size+1,s1.heap.objs.size],_,_,H1,rfl,I1.kept (t':=s1.toks) hk,aGH l _ _ (Nat.succ_ne_self _),⟨⟨_,he⟩,hit⟩,λb hb=>?_,q⟩
 have hle:s1.heap.objs.size<=b:=by
  rcases rN.mp hb with z|hb
  ·rw[z];exact Tv9 _
  ·rw[show b=s1.heap.objs.size by simpa using hb];exact iI _
 exact I1.aEO hle (I1.hok.fresh hle)
end
section
variable{σ:St}{H:Hp}{nx:St->Hp->Prop}{rt:VK}{g:TG}{tb:TS}{Q:VK}{K:W.Frag}
def EnQ(K:W.Frag)(R:It->Hp->Prop):List V->Hp->Prop:=λvs H1=>∃a,vs=[.ref a]/\(∃xs,bQ K H1 a xs)/\R (Ite K a) H1
def LiQ(K:W.Frag)(R:It->Hp->Prop):V->Hp->Prop:=λx H1=>∃a,x=.ref a/\(∃xs,bQ K H1 a xs)/\R (Itl K a) H1
def TiQ(K:W.Frag)(R:It->Hp->Prop):V->Hp->Prop:=λx H1=>∃a,x=.ref a/\(∃xs,mY K H1 a xs)/\R (Itt K a) H1
theorem aHR{R:It->Hp->Prop}(h:ta σ H (EnQ K R)):aHQ K ta σ H R:=h
theorem aGI{R:It->Hp->Prop}(h:tl σ H (LiQ K R)):aHh K tl σ H R:=h
theorem aHS{R:It->Hp->Prop}(h:tl σ H (TiQ K R)):aK4 K tl σ H R:=h
theorem aHT{R:It->Hp->Prop}(h1:bQ K H a xs)(h:R (Ite K a) H):EnQ K R [.ref a] H:=⟨a,rfl,⟨xs,h1⟩,h⟩
theorem gZ{R:It->Hp->Prop}(h1:bQ K H a xs)(h:R (Itl K a) H):LiQ K R (.ref a) H:=⟨a,rfl,⟨xs,h1⟩,h⟩
theorem aM6{R:It->Hp->Prop}(h1:mY K H a xs)(h:R (Itt K a) H):TiQ K R (.ref a) H:=⟨a,rfl,⟨xs,h1⟩,h⟩
theorem aC7{xs:List V}(Pv:Nat->St->Hp->Prop)(h0:Pv 0 σ H)(hl:∀i σ H,i<=xs.length->Pv i σ H->bQ K H a xs)(hs:∀i x σ H T,xs[i]?=some x->Pv i σ H->H T=none->g (.ref T) σ (upd H T (.tup [.int i,x])) λσ2 H2=>tb ⟨Pv (i+1),rt,nx,Pv (i+1)⟩ σ2 H2)(hd:∀σ H,Pv xs.length σ H->nx σ H) :
  ∃W:Nat->Nat->St->Hp->Prop,(∃m,W 0 m σ H)/\∀i m σ H,W i m σ H->
   ((Ite K a).stop i H/\nx σ H)\/((Ite K a).go i H/\∃N:St->Hp->Prop,(∀σ' H',N σ' H'->∃m',m' < m/\W (i+1) m' σ' H')/\∀x H',(Ite K a).yld i H x H'->g x σ H' λσ2 H2=>tb ⟨N,rt,nx,N⟩ σ2 H2):=by
 refine⟨λi m σ H=>m=xs.length - i/\i<=xs.length/\Pv i σ H,⟨xs.length,by simp,Sp9 _,h0⟩,?_⟩
 rintro i m σ H ⟨rfl,hi,p⟩
 have q:=hl i σ H hi p
 by_cases hlt:i < xs.length
 ·refine .inr ⟨⟨xs,xs[i],q,by simp[hlt]⟩,Pv (i+1),λσ' H' p'=>⟨xs.length - (i+1),by omega,rfl,hlt,p'⟩,λx H' y=>?_⟩
  obtain⟨T,v,hT,e1,e2,y⟩:=y
  subst e1 e2
  exact hs i v σ H T (y xs q) p hT
 ·have e:i=xs.length:=by omega
  subst e
  exact .inl ⟨⟨xs,q,iI _⟩,hd σ H p⟩
end
section
variable{X:Cx}
theorem aBb:∀{bs:List Bool}{us:List Value},Vals (bs.map V.bl) us->us=bs.map Value.bool
 |[],_,.nil=>rfl
 |b::bs,_,.cons r t=>by cases r;rw[aBb t];rfl
def aFa(K:W.Frag):List V->Hp->VK->Prop:=λxs H Q=>∃(p:Addr) (bs:List Bool),xs=[.ref p]/\bQ K H p (bs.map V.bl)/\Q (.bl (bs.all id)) H
theorem vO(hc:X.calm=true):eR X (.builtin "all") (aFa X.K):=by
 intro pins s σ H xs us Q I r h
 obtain⟨p,bs,rfl,hq,q⟩:=h
 obtain⟨u,rfl,rx⟩:=vals1 r
 cases rx
 obtain⟨its,r',pl,hz⟩:=I.list hq
 have e:=aBb r'
 subst e
 have hl:=pl.isList
 have hlt:p < s.heap.objs.size:=by obtain⟨_,e,_⟩:=id hl;exact kW e
 refine call_all_walk (wpAny_pyIter_list hl ?_)
 refine⟨s.heap.objs.size,[s.heap.objs.size,p],[s.heap.objs.size],(bs.map Value.bool).toArray.size,_,_,λi=>(bs[i]?).getD true,rfl,Walks.list (A:=X.A.in1) (I.ok.hd hc) _ p (wG hlt) (bs.map Value.bool).toArray,
  ⟨⟨_,Qz9 _ rfl,rfl,rfl⟩,hl.push _⟩,λi v s' Q' E' hP hQ=>?_,λh' tk hk=>?_⟩
 ·have hP':(bs.map Value.bool)[i]?=some v:=by simpa using hP
  rw[xV] at hP'
  cases hb:bs[i]? with
  |none=>rw[hb] at hP';cases hP'
  |some b=>
   rw[hb] at hP'
   cases hP'
   simp only[hb,Option.getD_some] at hQ
   exact wpAny_truthy_bool hQ
 ·have e:((List.range (bs.map Value.bool).toArray.size).all λi=>(bs[i]?).getD true)=bs.all id:=by
   rw[mP,cC];exact LSm.range_all bs
  rw[e]
  exact⟨.bl _,H,I.kept (t':=tk) (LSm.kept_iter hk),rfl,q⟩
theorem aLX{K:W.Frag}{H:Hp}{Q:VK}{p:Addr}{bs:List Bool}(h1:bQ K H p (bs.map V.bl))(h:Q (.bl (bs.all id)) H):aFa K [.ref p] H Q:=⟨p,bs,rfl,h1,h⟩
end
section
variable{X:Cx}{e st:Expr}{te:TE}{ts:TO}{pos p2:Pos}
end
section
variable{X:Cx}{o e:Expr}{to:TE}{t:TA}{apos cpos:Pos}
theorem aLY(ho:PE X o to)(ha:PA X [e] t)(hn:noStar e=true:=by rfl)(hbase:attributeBase o "append" X.env (eval o X.env)=eval o X.env:=by rfl)(hline:(apos.endLine == cpos.line)=true:=by rfl) :
  PE X (.Call (.Attribute o "append" apos) [e] [] cpos) (tBM X.K "list" aAQ to t):=
 aDS PySem.F.plainAttrs_list PySem.F.slot_list_append PySem.F.type_list_append aGy ho ha hbase (by rw[bV hn];rfl) hline (bV hn) (by rfl)
end
section
variable{K:W.Frag}{σ:St}{H:Hp}{Q:VK}
theorem aM7{r:V->List V->Hp->VK->Prop}{t:TA}(h:to σ H λx H1=>tyV K T x H1/\t σ H1 λxs H2=>r x xs H2 Q):tBM K T r to t σ H Q:=h
theorem aFb{P:Prop}(h:bQ K H p xs)(q:P):tyV K "list" (.ref p) H/\P:=⟨.inl ⟨rfl,xs,h⟩,q⟩
theorem aFc{xs:List V}(h:H l=some (.lst xs))(hz:xs.length < sizeLine)(q:Q .non (upd H l (.lst (xs ++ [y])))):aAQ (.ref l) [y] H Q:=⟨l,xs,y,rfl,rfl,h,hz,q⟩
theorem aLZ:∀(xs ys:List Int),(xs.length == ys.length && (List.range xs.length).all λj=>decide (xs[j]?=ys[j]?))=decide (xs=ys):=by
 intro xs ys
 rw[Bool.eq_iff_iff]
 simp only[zB,beq_iff_eq,Ri9,Th9,decide_eq_true_eq]
 constructor
 ·rintro ⟨hl,h⟩
  apply List.ext_getElem?
  intro i
  by_cases hi:i < xs.length
  ·exact h i hi
  ·rw[Tq9 (by omega),Tq9 (by omega)]
 ·rintro rfl
  exact⟨rfl,λ_ _=>rfl⟩
theorem aHU{n:Nat}{xs ys:List Int}(h:(bQ K H p (xs.map V.int)/\bQ K H q (ys.map V.int))\/(mY K H p (xs.map V.int)/\mY K H q (ys.map V.int))):EqN K H (n+1) (.ref p) (.ref q) (decide (xs=ys)):=by
 refine .inr ⟨p,q,xs.map V.int,ys.map V.int,λj=>decide (xs[j]?=ys[j]?),rfl,rfl,h,λj u v hu hv=>?_,?_⟩
 ·rw[xV] at hu hv
  cases hx:xs[j]? with
  |none=>rw[hx] at hu;cases hu
  |some a=>
   cases hy:ys[j]? with
   |none=>rw[hy] at hv;cases hv
   |some b=>
    rw[hx] at hu
    rw[hy] at hv
    cases hu
    cases hv
    have z:eF (.int a)=true/\eF (.int b)=true/\(λj=>decide (xs[j]?=ys[j]?)) j=eqV (.int a) (.int b):=by
     refine⟨rfl,rfl,?_⟩
     show decide (xs[j]?=ys[j]?)=decide (a=b)
     rw[hx,hy]
     simp
    cases n with
    |zero=>exact z
    |succ n=>exact .inl z
 ·rw[cC,cC]
  exact(aLZ xs ys).symm
end
end L2
namespace L2
open PySem PySem.Spec PyProof.Rows
section
variable{K:W.Frag}{σ:St}{H:Hp}{Q:VK}{nx bk ct:St->Hp->Prop}{rt:VK}
theorem aM8{A B:Prop}(h:B):if (!true)=true then A else B:=aJp h
theorem aM9{A B:Prop}(h:A):if (!false)=true then A else B:=aHz h
theorem aNa{A B:Prop}{b:Bool}(e:b=false)(h:B):if b=true then A else B:=by rw[e];exact aJp h
theorem aNb{A B:Prop}{b:Bool}(e:b=true)(h:A):if b=true then A else B:=by rw[e];exact aHz h
theorem aJR{sp:Sp}(h:t σ H λvs H1=>∀x dx,H1 x=none->H1 dx=none->dx≠x->sp (.ref x::vs) (upd (upd H1 dx (.own x)) x (.ins C dx [])) (λv H2=>v=.non/\Q (.ref x) H2) E):aDQ C sp [] E t σ H Q:=by
 unfold aDQ
 simpa only [Ry9] using h
theorem aJS(h:tv σ H λy H1=>ta σ H1 λx H2=>∃a C dx fs,x=.ref a/\H2 a=some (.ins C dx fs)/\Cls K C/\dB K C f/\fs.length < 1000/\nx σ (upd H2 a (.ins C dx (rQ f y fs)))):aLd K ta tv f ⟨nx,rt,bk,ct⟩ σ H:=h
theorem jJ{fs:List (Str×V)}{P:Hp->Prop}(h1:H a=some (.ins C dx fs))(c:Cls K C)(n:dB K C f)(hl:fs.length < 1000)(e:rQ f y fs=fs')(h:P (upd H a (.ins C dx fs'))) :
  ∃a' C dx fs,V.ref a=V.ref a'/\H a'=some (.ins C dx fs)/\Cls K C/\dB K C f/\fs.length < 1000/\P (upd H a' (.ins C dx (rQ f y fs))):=⟨a,C,dx,fs,rfl,h1,c,n,hl,by rw[e];exact h⟩
theorem cR{fs:List (Str×V)}{P:V->Prop}(h1:H a=some (.ins C dx fs))(c:Cls K C)(n:dB K C f)(l:fs.lookup f=some v)(h:P v) :
  ∃a' C dx fs v,V.ref a=V.ref a'/\H a'=some (.ins C dx fs)/\Cls K C/\dB K C f/\fs.lookup f=some v/\P v:=⟨a,C,dx,fs,v,rfl,h1,c,n,l,h⟩
theorem aD0:∀{xs:List V},(∀x∈xs,x=.bl true)->xs=(List.replicate xs.length true).map V.bl
 |[],_=>rfl
 |x::xs,h=>by
  rw[Re9,Si9,Sn9,<-aD0 (λy hy=>h y (Qr9 _ hy)),h x (Rf9 ..)]
theorem aJT(h1:bQ K H p xs)(h2:∀x∈xs,x=.bl true)(h:Q (.bl true) H):aFa K [.ref p] H Q:=by
 refine⟨p,List.replicate xs.length true,rfl,?_,?_⟩
 ·rw[<-aD0 h2];exact h1
 ·rw[show(List.replicate xs.length true).all id=true by simp];exact h
end
end L2
namespace L2
open PySem PySem.Spec PyProof.Rows
section
variable{X:Cx}{pins:List (Addr×Obj)}{σ:St}{H:Hp}{s:Shared}{A:Around}{E:Value->Shared->Prop}{Q:Value->Shared->Prop}{b:Bool}
end
section
variable{X:Cx}{K:W.Frag}{H:Hp}{Q:VK}
def isB:V->V->Option Bool
 |.non,.non=>some true
 |.bl a,.bl b=>some (a == b)
 |.bl _,.non=>some false
 |.int _,.non=>some false
 |.str _,.non=>some false
 |.ref _,.non=>some false
 |_,_=>none
def rIs:R2:=λx y H Q=>∃b,isB x y=some b/\Q (.bl b) H
def aHV:R2:=λx y H Q=>∃b,isB x y=some b/\Q (.bl (!b)) H
theorem aBc:pU X (compareOp .Is) rIs:=by
 intro pins s σ H x y v u Q I rx ry h
 obtain⟨b,e,q⟩:=h
 have fin:EP X pins σ Q (.bool b) s:=⟨.bl b,H,I,rfl,q⟩
 cases x with
 |non=>cases y with
  |non=>cases e;cases rx;cases ry;exact is_none_gen fin
  |_=>cases e
 |bl a=>cases y with
  |bl c=>cases e;cases rx;cases ry;exact is_bool fin
  |non=>cases e;cases rx;cases ry;exact is_none_gen fin
  |_=>cases e
 |int i=>cases y with
  |non=>cases e;obtain⟨t,rfl⟩:=rx;cases ry;exact is_none_gen fin
  |_=>cases e
 |str i=>cases y with
  |non=>cases e;obtain⟨t,rfl⟩:=rx;cases ry;exact is_none_gen fin
  |_=>cases e
 |ref i=>cases y with
  |non=>cases e;cases rx;cases ry;exact is_none_gen fin
  |_=>cases e
 |_=>cases y <;> cases e
theorem zJ:pU X (compareOp .IsNot) aHV:=by
 intro pins s σ H x y v u Q I rx ry h
 obtain⟨b,e,q⟩:=h
 have fin:EP X pins σ Q (.bool (!b)) s:=⟨.bl (!b),H,I,rfl,q⟩
 cases x with
 |non=>cases y with
  |non=>cases e;cases rx;cases ry;exact isnot_none_gen fin
  |_=>cases e
 |bl a=>cases y with
  |bl c=>cases e;cases rx;cases ry;exact isnot_bool fin
  |non=>cases e;cases rx;cases ry;exact isnot_none_gen fin
  |_=>cases e
 |int i=>cases y with
  |non=>cases e;obtain⟨t,rfl⟩:=rx;cases ry;exact isnot_none_gen fin
  |_=>cases e
 |str i=>cases y with
  |non=>cases e;obtain⟨t,rfl⟩:=rx;cases ry;exact isnot_none_gen fin
  |_=>cases e
 |ref i=>cases y with
  |non=>cases e;cases rx;cases ry;exact isnot_none_gen fin
  |_=>cases e
 |_=>cases y <;> cases e
theorem aNc{b:Bool}(e:isB x y=some b)(h:Q (.bl b) H):rIs x y H Q:=⟨b,e,h⟩
theorem aHW{b:Bool}(e:isB x y=some b)(h:Q (.bl (!b)) H):aHV x y H Q:=⟨b,e,h⟩
end
end L2
namespace L2
open PySem PySem.Spec PyProof.Rows
section
variable{X:Cx}
end
end L2
namespace L2
open PySem PySem.Spec PyProof.Rows
section
variable{prog:Program}{w:World}{A:Around}{E:Value->Shared->Prop}
end
section
variable{X:Cx}{pos:Pos}
end
end L2
namespace L2
open PySem PySem.Spec PyProof.Rows
section
variable{X:Cx}
end
section
variable{X:Cx}{pins:List (Addr×Obj)}{σ:St}{H:Hp}{s:Shared}{h':Heap}
end
section
variable{X:Cx}{elts:List Expr}{x1:Nat}{tp:Pos}
end
section
variable{σ:St}{H:Hp}{nx:St->Hp->Prop}{rt:VK}{g:TG}{tb:TS}{Q:VK}{K:W.Frag}
end
end L2
namespace L2
open PySem PySem.Spec PyProof.Rows
section
variable{X:Cx}{e:Expr}{te:TE}
end
end L2
namespace L2.Z
open PySem PySem.Spec PyProof.Rows L2
structure QE(X:Cx)(e:Expr)(t:TE):Prop where
 h:PE X e t
structure QT(X:Cx)(e:Expr)(t:TT):Prop where
 h:PT X e t
structure QW(X:Cx)(e:Expr)(t:TT):Prop where
 h:PW X e t
structure QA(X:Cx)(es:List Expr)(t:TA):Prop where
 h:PA X es t
structure QS(X:Cx)(st:Stmt)(t:TS):Prop where
 h:PS X st t
structure QSs(X:Cx)(st:List Stmt)(t:TS):Prop where
 h:PSs X st t
structure QG(X:Cx)(tg:Expr)(g:TG):Prop where
 h:PG X tg g
structure QGs(X:Cx)(tg:List Expr)(g:TGs):Prop where
 h:PGs X tg g
structure QI(X:Cx)(tg it:Expr)(w:TI):Prop where
 h:PI X tg it w
structure QTs(X:Cx)(ifs:List Expr)(t:TT):Prop where
 h:PTs X ifs t
structure QO(X:Cx)(o:Option Expr)(t:TO):Prop where
 h:PO X o t
section
variable{X:Cx}{CX:CXT}{k:Nat}{f C:Addr}{fd:FuncData}{ps:List Str}{sp:Sp}{dvs:List V}{ds:List Value}{E:XK}{x m:Str}{p pos apos p2 spos:Pos}{a b c e o:Expr}{es rest:List Expr}{ta tb tc te to ti:TE}{t:TA}{tA tB tt:TT}{id T:String}{r r':R2}{rc:List V->Hp->VK->Prop}{st:Stmt}{sts sts2:List Stmt}{ts us:TS}{g:TG}{gs:TGs}{wi:TI}{tg iter:Expr}
theorem dA{e:Expr}{t:TT}(q:QW X e t):QT X e t:=⟨q.h.pt⟩
theorem aD(i:Nat)(hN:X.N[i]?=some x:=by rfl)(hv:Vis X.env.scope x:=by first|exact Or.inl rfl|exact Or.inr (Or.inl rfl)|exact Or.inr (Or.inr rfl))(hd:(x == ("__debug__" : Str))=false:=by decide)
  (hcd:(x == ("__classdict__" : Str))=false:=by decide):QE X (.Name x pos) (aKF i):=⟨aKG hN hv hd hcd⟩
theorem aC{i j}:QE X (.Constant (.int i) j pos) (tC (.int i)):=⟨L2.aKH⟩
theorem kB{b j}:QE X (.Constant (.bool b) j pos) (tC (.bl b)):=⟨L2.aMB⟩
theorem bS{j}:QE X (.Constant .none j pos) (tC .non):=⟨L2.aKI⟩
theorem aR{x j}:QE X (.Constant (.str x) j pos) (tC (.str x)):=⟨L2.aG7⟩
theorem pD{v:V}{u:Value}(hg:Gl X x)(hm:X.mg x=some u)(r:RelV v u)(hd:(x == ("__debug__" : Str))=false:=by decide):QE X (.Name x pos) (tC v):=⟨L2.aCS hg hm r hd⟩
theorem pE{n:Int}(hg:Gl X x)(hm:∃t,X.mg x=some (.int n t))(hd:(x == ("__debug__" : Str))=false:=by decide):QE X (.Name x pos) (tC (.int n)):=⟨L2.aJM hg hm hd⟩
theorem pF(hg:Gl X x)(hm:X.mg x=none)(hv:bootBuiltins x=some u)(r:RelV v u)(hn:x≠"__name__":=by decide)(hd:(x == ("__debug__" : Str))=false:=by decide):QE X (.Name x pos) (tC v):=⟨L2.aIX hg hm hv r hn hd⟩
theorem aI(ho:pU X (binaryOp op) r)(ha:QE X a ta)(hb:QE X b tb):QE X (.BinOp a op b pos) (tOp r ta tb):=⟨L2.aMF ho ha.h hb.h⟩
theorem hJ{ru:V->Hp->VK->Prop}(ho:UnR X (unaryOp op) ru)(ha:QE X a ta):QE X (.UnaryOp op a pos) (tUn ru ta):=⟨L2.aMG ho ha.h⟩
theorem aCn(ha:QE X a ta):QE X (.UnaryOp .Not a pos) (aG9 ta):=⟨L2.aKS ha.h⟩
theorem jQ{op}(h:QE X a ta):QE X (.BoolOp op [a] pos) ta:=⟨L2.aKQ h.h⟩
theorem gE(ha:QE X a ta)(hb:QE X (.BoolOp .And (b::rest) pos) tb):QE X (.BoolOp .And (a::b::rest) pos) (aG8 ta tb):=⟨L2.aKR ha.h hb.h⟩
theorem aHX(ha:QE X a ta)(hb:QE X (.BoolOp .Or (b::rest) pos) tb):QE X (.BoolOp .Or (a::b::rest) pos) (aKP ta tb):=⟨L2.aMD ha.h hb.h⟩
theorem jK(ho:pU X (compareOp op) r)(ha:QE X a ta)(hb:QE X b tb)(hm:behindInMarks op b=false):QE X (.Compare a [op] [b] pos) (tOp r ta tb):=⟨L2.aJa ho ha.h hb.h hm⟩
theorem aL(ho:pU X (compareOp op) r)(ha:QE X a ta)(hb:QE X b tb)(hm:behindInMarks op b=false):QT X (.Compare a [op] [b] pos) (aHk (tOp r ta tb)):=⟨L2.aJb ho ha.h hb.h hm⟩
theorem uH(ho:pU X (compareOp op) r)(ho':pU X (compareOp op') r')(ha:QE X a ta)(hb:QE X b tb)(hc:QE X c tc)(hm:lastMarks [op,op'] [b,c]=false:=by with_unfolding_all rfl):QE X (.Compare a [op,op'] [b,c] pos) (aES r r' ta tb tc):=⟨L2.aHl ho ho' ha.h hb.h hc.h hm⟩
theorem eG(h:QE X e te)(he:∀whole,isTrue e X.env whole=(do let v <-whole;standAt e.pos;holding [v] (truthy v)):=by intro _;rfl):QT X e (L2.tB te):=⟨L2.aKJ h.h he⟩
theorem eH(ha:QT X a tA):QT X (.UnaryOp .Not a pos) (aKL tA):=⟨L2.aKO ha.h⟩
theorem xB(ha:QT X a tA):QW X (.BoolOp .And [a] pos) tA:=⟨L2.aIY ha.h⟩
theorem dC(ha:QT X a tA):QW X (.BoolOp .Or [a] pos) tA:=⟨L2.aKM ha.h⟩
theorem zK(ha:QT X a tA)(hb:QW X (.BoolOp .And (b::rest) pos) tB):QW X (.BoolOp .And (a::b::rest) pos) (aKK tA tB):=⟨L2.aKN ha.h hb.h⟩
theorem cH(ha:QT X a tA)(hb:QW X (.BoolOp .Or (b::rest) pos) tB):QW X (.BoolOp .Or (a::b::rest) pos) (tOr tA tB):=⟨L2.aMC ha.h hb.h⟩
theorem aA:QA X [] rR:=⟨L2.rS⟩
theorem aB(ha:QE X e te)(hr:QA X es t)(hs:noStar e=true:=by rfl):QA X (e::es) (bN te t):=⟨L2.iY ha.h hr.h hs⟩
theorem aG(F:cT X.prog X.w X.K X.mg X.base CX k f fd ps sp)(hr:gS k X.A)(hg:Gl X x)(hm:X.mg x=some (.ref f))(hk:W.keepIn X.K (.ref f)=true)(hb:Binds X.K fd ps ds)(hd:Vals dvs ds)(hx:Passes CX X E)
  (ha:QA X (e::es) t) (hn:(e::es).all noStar=true:=by rfl) (hdb:(x == ("__debug__" : Str))=false:=by decide):QE X (.Call (.Name x p) (e::es) [] pos) (aDP sp dvs E t):=⟨L2.aHO F hr hg hm hk hb hd hx ha.h hn hdb⟩
theorem zq1{j:Nat}(F:cT X.prog X.w X.K X.mg X.base tZ k f fd ps sp)(hr:gS j X.A)(hm:X.mg x=some (.ref f))(hk:W.keepIn X.K (.ref f)=true)(hb:Binds X.K fd ps [])(ha:QA X (e::es) t)(hj:k<=j:=by decide)(hg:Gl X x:=by rfl)(hn:(e::es).all noStar=true:=by rfl)(hdb:(x == ("__debug__" : Str))=false:=by decide):QE X (.Call (.Name x p) (e::es) [] pos) (aDP sp [] E0 t):=aG F (hr.mono hj) hg hm hk hb .nil bE ha hn hdb
theorem mT(M:Mk X.K C f)(F:cT X.prog X.w X.K X.mg X.base CX k f fd ps sp)(hr:gS (k+1) X.A)(hg:Gl X x)(hm:X.mg x=some (.ref C))(hb:Binds X.K fd ps ds)(hd:Vals dvs ds)(hx:Passes CX X E)
  (ha:QA X (e::es) t) (hn:(e::es).all noStar=true:=by rfl) (hdb:(x == ("__debug__" : Str))=false:=by decide):QE X (.Call (.Name x p) (e::es) [] pos) (aDQ C sp dvs E t):=⟨L2.aHP M F hr hg hm hb hd hx ha.h hn hdb⟩
theorem aJ(hc:eR X (.builtin id) rc)(hg:Gl X x)(hm:X.mg x=none)(hv:bootBuiltins x=some (.builtin id))(ha:QA X (e::es) t)(hn:(e::es).all noStar=true:=by rfl)(hne:x≠"__name__":=by decide)(hdb:(x == ("__debug__" : Str))=false:=by decide) :
  QE X (.Call (.Name x p) (e::es) [] pos) (tCB rc t):=⟨L2.aGF hc hg hm hv ha.h hn hne hdb⟩
theorem cB(hc:eR X (.type T) rc)(hg:Gl X x)(hm:X.mg x=none)(hv:bootBuiltins x=some (.type T))(ha:QA X (e::es) t)(hn:(e::es).all noStar=true:=by rfl)(hne:x≠"__name__":=by decide)(hdb:(x == ("__debug__" : Str))=false:=by decide) :
  QE X (.Call (.Name x p) (e::es) [] pos) (tCB rc t):=⟨L2.aE7 hc hg hm hv ha.h hn hne hdb⟩
theorem aY:QO X none aCV:=⟨L2.aJh⟩
theorem aW(h:QE X e te):QO X (some e) (aHt te):=⟨L2.aJi h.h⟩
theorem aS{rs:V->Option Int->Option Int->Hp->VK->Prop}{lo hi:Option Expr}{tl th:TO}(hr:SlR X rs)(he:QE X e te)(hl:QO X lo tl)(hu:QO X hi th):QE X (.Subscript e (.Slice lo hi none p2) pos) (tSl rs te tl th):=⟨L2.aHu hr he.h hl.h hu.h⟩
theorem vP(h:QA X es t):QE X (.List es pos) (w6 t):=⟨L2.w9 h.h⟩
theorem gF(hg:Gl X "range")(hm:X.mg "range" = none)(ha:QA X [a] t)(hn:noStar a=true:=by rfl):QI X tg (.Call (.Name "range" p) [a] [] pos) (aFI t):=⟨L2.aE8 hg hm ha.h hn⟩
theorem aBP(hg:Gl X "range")(hm:X.mg "range" = none)(ha:QA X [a,b] t)(hn:noStar a=true:=by rfl)(hn2:noStar b=true:=by rfl):QI X tg (.Call (.Name "range" p) [a,b] [] pos) (aFJ t):=⟨L2.aE9 hg hm ha.h hn hn2⟩
theorem aQ{i:Nat}(hN:X.N.Nodup)(hi:X.N[i]?=some x:=by rfl)(hx:Loc X.env.scope x:=by exact Or.inl rfl)(hf:X.fn x=true\/X.env.scope.names.lookup x=some .local:=by first|exact .inl rfl|exact .inr rfl|assumption):QG X (.Name x pos) (pA i):=⟨L2.aI2 hN hi hx hf⟩
theorem jM:QGs X [] aI3:=⟨L2.aI4⟩
theorem cI{e:Expr}{es:List Expr}{t:TG}{u:TGs}(h1:QG X e t)(h2:QGs X es u)(hs:(assignEach (e::es) X.env).map (·.2)=assign e X.env::(assignEach es X.env).map (·.2):=by rfl):QGs X (e::es) (aFG t u):=⟨L2.aHf h1.h h2.h hs⟩
theorem aGJ(ho:QE X o to)(hi:QE X i ti)(hs:aHe X tset)(ha:∀v,assign (.Subscript o i pos) X.env v=(do
   let ov <-holding [v] (eval o X.env)
   let iv <-holding [v,ov] (eval i X.env)
   standAt pos
   holding [v,ov,iv] (setItem ov iv v)
   release [v,ov,iv] []):=by intro _;rfl):QG X (.Subscript o i pos) (aKY to ti tset):=⟨L2.aKZ ho.h hi.h hs ha⟩
theorem bR:QTs X [] aLt:=⟨L2.aJr⟩
theorem bP(q:QSs X sts ts)(h:ts D σ H):∃t,PSs X sts t/\t D σ H:=⟨ts,q.h,h⟩
theorem aP:QSs X [] aHa:=⟨L2.aIZ⟩
theorem aE(h1:QS X st ts)(h2:QSs X sts us):QSs X (st::sts) (aHb ts us):=⟨L2.aHc h1.h h2.h⟩
theorem aF(h1:QS X st ts):QSs X [st] ts:=⟨L2.aI0 h1.h⟩
theorem xC(he:QE X e te)(hs:swapsWith e none pos.line X.env=pure false:=by rfl):QS X (.Expr e pos) (aHd te):=⟨L2.aI1 he.h hs⟩
theorem aN(he:QE X e te):QS X (.Return (some e) pos) (aKT te):=⟨L2.aKU he.h⟩
theorem aZ(hc:QT X c tt)(ha:QSs X sts ts)(hb:QSs X sts2 us):QS X (.If c sts sts2 pos) (aKV tt ts us):=⟨L2.aME hc.h ha.h hb.h⟩
theorem aGK{i:Nat}(hN:X.N.Nodup)(hi:X.N[i]?=some x)(hx:Loc X.env.scope x)(he:QE X e te)(hs:swapsWith e (some (.Name x pos')) pos.line X.env=pure false:=by rfl)(hf:X.fn x=true\/X.env.scope.names.lookup x=some .local:=by first|exact .inl rfl|exact .inr rfl|assumption) :
  QS X (.Assign [.Name x pos'] e pos) (aAC te (pA i)):=⟨L2.aK1 hN hi hx he.h hs hf⟩
theorem aM{i:Nat}(hN:X.N.Nodup)(he:QE X e te)(hi:X.N[i]?=some x:=by rfl)(hx:Loc X.env.scope x:=by exact Or.inl rfl)(hs:swapsWith e (some (.Name x pos')) pos.line X.env=pure false:=by rfl)(hf:X.fn x=true\/X.env.scope.names.lookup x=some .local:=by first|exact .inl rfl|exact .inr rfl|assumption) :
  QS X (.Assign [.Name x pos'] e pos) (aAC te (pA i)):=aGK hN hi hx he hs hf
theorem aCo(he:QE X e te)(hg:QG X tg g)(hs:swapsWithSole [tg] e pos.line X.env=pure false:=by rfl)(hw:swappedStores [tg] e X.env=pure none:=by rfl)
  (h1:(assignEach [tg] X.env).map (·.2)=[assign tg X.env]:=by rfl):QS X (.Assign [tg] e pos) (aAC te g):=⟨L2.aK0 he.h hg.h hs hw h1⟩
theorem aFd{tget:V->V->Hp->VK->Prop}(ho:QE X o to)(hi:QE X i ti)(hg:aK2 X tget)(he:QE X e te)(hp:PIp X op tip)(hs:aHe X tset)(ha:∀ov iv new,augStore i ov iv new=(do holding [new,ov,iv] (setItem ov iv new);release [new,ov,iv] [];pure .next):=by intros;rfl):QS X (.AugAssign (.Subscript o i tpos) op e pos) (aHg to ti te tget tip tset):=⟨L2.aI6 ho.h hi.h hg he.h hp hs ha⟩
theorem dZ(hp:PassesOwn (model X.prog X.w) X.A X.env X.xe)(hc:X.calm=true)(hi:QI X tg iter wi)(hg:QG X tg g)(hb:QSs X sts ts)
  (hs:∀x,foldedSetIterable iter X.env x=pure x:=by intro _;rfl):QS X (.For tg iter sts [] pos) (aK6 wi g ts):=⟨L2.aK7 hp hc hi.h hg.h hb.h hs⟩
variable{scope:Scope}{elt target:Expr}{ifs:List Expr}{N:List Str}
theorem d8{k:Nat}{idx:List Nat}(S:d5 X scope N k idx)(hc:X.calm=true)(hi:QI X target iter wi)(hg:∀fp C s H,QG (cxC X scope N fp C s H) target g)(ho:Own k g)(ht:∀fp C s H,QTs (cxC X scope N fp C s H) ifs tt)(he:∀fp C s H,QE (cxC X scope N fp C s H) elt te)(hs:∀x,foldedSetIterable iter X.env x=pure x:=by intro _;rfl):QE X (.ListComp elt [⟨target,iter,ifs,0⟩] scope pos) (xZ wi k idx g tt te):=
 ⟨L2.aJt k idx S hc hi.h (λfp C s H=>(hg fp C s H).h) ho (λfp C s H=>(ht fp C s H).h) (λfp C s H=>(he fp C s H).h) hs⟩
theorem hR{k:Nat}{idx:List Nat}{i:Nat}(hN:X.N.Nodup)(hix:X.N[i]?=some x)(hx:Loc X.env.scope x)(S:d5 X scope N k idx)(hc:X.calm=true)(hi:QI X target iter wi)(hg:∀fp C s H,QG (cxC X scope N fp C s H) target g)(ho:Own k g)(ht:∀fp C s H,QTs (cxC X scope N fp C s H) ifs tt)(he:∀fp C s H,QE (cxC X scope N fp C s H) elt te)(hsw:swapsWith (.ListComp elt [⟨target,iter,ifs,0⟩] scope pos) (some (.Name x pos')) spos.line X.env=pure true:=by rfl)(hs:∀x,foldedSetIterable iter X.env x=pure x:=by intro _;rfl)(hfn:X.fn x=true\/X.env.scope.names.lookup x=some .local:=by first|exact .inl rfl|exact .inr rfl|assumption) :
  QS X (.Assign [.Name x pos'] (.ListComp elt [⟨target,iter,ifs,0⟩] scope pos) spos) (aAC (xZ wi k idx g tt te) (pA i)):=
 ⟨L2.aJu k idx hN hix hx S hc hi.h (λfp C s H=>(hg fp C s H).h) ho (λfp C s H=>(ht fp C s H).h) (λfp C s H=>(he fp C s H).h) hsw hs hfn⟩
variable{x1:Nat}{e1 e2 e3 e4 e5 e6 e7 e8:Expr}{t1 t2 t3 t4 t5 t6 t7 t8:TE}
theorem yC(h1:QE X e1 t1)(n1:noStar e1=true:=by rfl):QE X (.List [e1] pos) (w6 (bN t1 rR)):=⟨L2.aNz h1.h n1⟩
theorem nQ(h1:QE X e1 t1)(h2:QE X e2 t2)(n1:noStar e1=true:=by rfl)(n2:noStar e2=true:=by rfl):QE X (.List [e1,e2] pos) (w6 (bN t1 (bN t2 rR))):=⟨L2.aNA h1.h h2.h n1 n2⟩
theorem aC8{k1}(h1:QE X e1 t1)(h2:QE X e2 t2)(n1:noStar e1=true:=by rfl)(n2:noStar e2=true:=by rfl):QE X (.Tuple [e1,e2] k1 pos) (aGv (bN t1 (bN t2 rR))):=⟨L2.aNB h1.h h2.h n1 n2⟩
theorem vQ(h1:QE X e1 t1)(h2:QE X e2 t2)(h3:QE X e3 t3)(n1:noStar e1=true:=by rfl)(n2:noStar e2=true:=by rfl)(n3:noStar e3=true:=by rfl):QE X (.List [e1,e2,e3] pos) (w6 (bN t1 (bN t2 (bN t3 rR)))):=⟨L2.aNC h1.h h2.h h3.h n1 n2 n3⟩
theorem aC9(h1:QE X e1 t1)(h2:QE X e2 t2)(h3:QE X e3 t3)(h4:QE X e4 t4)(n1:noStar e1=true:=by rfl)(n2:noStar e2=true:=by rfl)(n3:noStar e3=true:=by rfl)(n4:noStar e4=true:=by rfl):QE X (.List [e1,e2,e3,e4] pos) (w6 (bN t1 (bN t2 (bN t3 (bN t4 rR))))):=⟨L2.aND h1.h h2.h h3.h h4.h n1 n2 n3 n4⟩
theorem aDa(h1:QE X e1 t1)(h2:QE X e2 t2)(h3:QE X e3 t3)(h4:QE X e4 t4)(h5:QE X e5 t5)(n1:noStar e1=true:=by rfl)(n2:noStar e2=true:=by rfl)(n3:noStar e3=true:=by rfl)(n4:noStar e4=true:=by rfl)(n5:noStar e5=true:=by rfl):QE X (.List [e1,e2,e3,e4,e5] pos) (w6 (bN t1 (bN t2 (bN t3 (bN t4 (bN t5 rR)))))):=⟨L2.aNE h1.h h2.h h3.h h4.h h5.h n1 n2 n3 n4 n5⟩
theorem aJU(h1:QE X e1 t1)(h2:QE X e2 t2)(h3:QE X e3 t3)(h4:QE X e4 t4)(h5:QE X e5 t5)(h6:QE X e6 t6)(h7:QE X e7 t7)(n1:noStar e1=true:=by rfl)(n2:noStar e2=true:=by rfl)(n3:noStar e3=true:=by rfl)(n4:noStar e4=true:=by rfl)(n5:noStar e5=true:=by rfl)(n6:noStar e6=true:=by rfl)(n7:noStar e7=true:=by rfl):QE X (.List [e1,e2,e3,e4,e5,e6,e7] pos) (w6 (bN t1 (bN t2 (bN t3 (bN t4 (bN t5 (bN t6 (bN t7 rR)))))))):=⟨L2.aNF h1.h h2.h h3.h h4.h h5.h h6.h h7.h n1 n2 n3 n4 n5 n6 n7⟩
theorem aJV{k1}(h1:QE X e1 t1)(h2:QE X e2 t2)(h3:QE X e3 t3)(h4:QE X e4 t4)(h5:QE X e5 t5)(h6:QE X e6 t6)(h7:QE X e7 t7)(n1:noStar e1=true:=by rfl)(n2:noStar e2=true:=by rfl)(n3:noStar e3=true:=by rfl)(n4:noStar e4=true:=by rfl)(n5:noStar e5=true:=by rfl)(n6:noStar e6=true:=by rfl)(n7:noStar e7=true:=by rfl):QE X (.Tuple [e1,e2,e3,e4,e5,e6,e7] k1 pos) (aGv (bN t1 (bN t2 (bN t3 (bN t4 (bN t5 (bN t6 (bN t7 rR)))))))):=⟨L2.aNG h1.h h2.h h3.h h4.h h5.h h6.h h7.h n1 n2 n3 n4 n5 n6 n7⟩
end
end L2.Z
namespace L2.Z
open PySem PySem.Spec PyProof.Rows L2
section
variable{X:Cx}{CX:CXT}{k:Nat}{f C:Addr}{fd:FuncData}{ps:List Str}{sp:Sp}{dvs:List V}{ds:List Value}{E:XK}{x m:Str}{p pos apos p2 spos cpos tp:Pos}{a b c e o st:Expr}{es rest elts:List Expr}{ta tb tc te to ti:TE}{t:TA}{x1:Nat}{ts:TO}
end
end L2.Z
namespace L2.Z
open PySem PySem.Spec PyProof.Rows L2
section
variable{X:Cx}{K':W.Frag}{x m n:Str}{p pos apos p2 spos cpos tp pos':Pos}{a b c e o st iter tg:Expr}{es rest elts:List Expr}{ta tb tc te to ti:TE}{t:TA}{x1:Nat}{ts:TO}
theorem aK(ha:QE X a ta)(hb:QE X b tb)(hs:aFO b:=by exact λ_ _=>rfl)(hK:X.K=K':=by rfl):QE X (.Subscript a b pos) (tOp (rIx K') ta tb):=by subst hK;exact⟨L2.aML aLl ha.h hb.h hs⟩
theorem bJ(hl:QE X e te)(hK:X.K=K':=by rfl):QI X tg e (aHh K' te):=by subst hK;exact⟨L2.aI7 hl.h⟩
theorem aFe(hl:QE X e te)(hK:X.K=K':=by rfl):QI X tg e (aK4 K' te):=by subst hK;exact⟨L2.aK5 hl.h⟩
theorem uI(hg:Gl X "enumerate")(hm:X.mg "enumerate" = none)(ha:QA X [a] t)(hn:noStar a=true:=by rfl)(hK:X.K=K':=by rfl):QI X (.Tuple elts x1 tp) (.Call (.Name "enumerate" p) [a] [] pos) (aHQ K' t):=by subst hK;exact⟨L2.aJQ hg hm ha.h hn⟩
theorem jN{k1 n:Nat}(hc:X.calm=true)(h:QGs X es gs)(hn:(assignEach es X.env).length=n:=by rfl)(hst:(assignEach es X.env).findIdx? (·.1)=none:=by rfl)(hK:X.K=K':=by rfl):QG X (.Tuple es k1 pos) (aI5 K' n gs):=by subst hK;exact⟨L2.aKX hc h.h hn hst⟩
theorem bC(he:QE X e ta)(hb:attributeBase e n X.env (eval e X.env)=eval e X.env)(hK:X.K=K':=by rfl):QE X (.Attribute e n pos) (aLc K' ta n):=by subst hK;exact⟨L2.aLe he.h hb⟩
theorem cN(ha:QE X o ta)(hv:QE X e te)(hs:swapsWith e (some (.Attribute o n pos')) pos.line X.env=pure false)(hK:X.K=K':=by rfl):QS X (.Assign [.Attribute o n pos'] e pos) (aLd K' ta te n):=by subst hK;exact⟨L2.aLf ha.h hv.h hs⟩
theorem xD(ho:QE X o to)(ha:QA X [e] t)(hn:noStar e=true:=by rfl)(hbase:attributeBase o "append" X.env (eval o X.env)=eval o X.env:=by rfl)(hline:(apos.endLine == cpos.line)=true:=by rfl)(hK:X.K=K':=by rfl) :
  QE X (.Call (.Attribute o "append" apos) [e] [] cpos) (tBM K' "list" aAQ to t):=by subst hK;exact⟨L2.aLY ho.h ha.h hn hbase hline⟩
end
end L2.Z
namespace L2.Z
open PySem PySem.Spec PyProof.Rows L2
section
variable{X:Cx}{K':W.Frag}{p pos tp:Pos}{a b:Expr}{elts:List Expr}{t:TA}{x1:Nat}
end
end L2.Z
namespace L2
open PySem
section
variable{prog:Program}{w:World}{A:Around}{E:Value->Shared->Prop}{s:Shared}
end
def SIt(h:Heap)(k:Bool)(it src:Addr)(i:Nat):Prop:=if k=true then h.IsListIter it src i else h.IsTupleIter it src i
def aJW(h:Heap)(k:Bool)(src:Addr)(items:Array Value):Prop:=if k=true then h.IsList src items else h.IsTuple src items
theorem SIt.at{h h':Heap}{k:Bool}{i:Nat}(x:SIt h k it src i)(e:∀o,h.get? it=some o->h'.get? it=some o):SIt h' k it src i:=by
 cases k with
 |true=>obtain⟨o,ho,r⟩:=(show h.IsListIter it src i from x);exact(show h'.IsListIter it src i from⟨o,e o ho,r⟩)
 |false=>obtain⟨o,ho,r⟩:=(show h.IsTupleIter it src i from x);exact(show h'.IsTupleIter it src i from⟨o,e o ho,r⟩)
theorem aJW.at{h h':Heap}{k:Bool}(x:aJW h k src items)(e:∀o,h.get? src=some o->h'.get? src=some o):aJW h' k src items:=by
 cases k with
 |true=>obtain⟨o,ho,r⟩:=(show h.IsList src items from x);exact(show h'.IsList src items from⟨o,e o ho,r⟩)
 |false=>obtain⟨o,ho,r⟩:=(show h.IsTuple src items from x);exact(show h'.IsTuple src items from⟨o,e o ho,r⟩)
theorem SIt.obj{h:Heap}{k:Bool}{i:Nat}(x:SIt h k it src i):∃o vs,h.get? it=some o/\o.data=.fields vs:=by
 cases k with
 |true=>obtain⟨o,ho,_,r⟩:=(show h.IsListIter it src i from x);exact⟨o,_,ho,r⟩
 |false=>obtain⟨o,ho,_,r⟩:=(show h.IsTupleIter it src i from x);exact⟨o,_,ho,r⟩
section
variable{prog:Program}{w:World}{A:Around}{E:Value->Shared->Prop}{s:Shared}
end
abbrev ZS:=Bool×Addr×Addr
abbrev aHY(h:Heap)(T:Addr)(vs:Array Value):Prop:=h.get? T=some { cls:=.type "tuple",data:=.seq vs }
section
variable{prog:Program}{w:World}{A:Around}{E:Value->Shared->Prop}{s:Shared}
end
def ZSt(z TI TO:Addr)(L:List ZS)(i:Nat)(h:Heap):Prop:=
 IsZip h z TI TO .none/\aHY h TI (L.map λt=>Value.ref t.2.1).toArray/\(∃arr,aHY h TO arr/\arr.size=L.length)/\∀t∈L,SIt h t.1 t.2.1 t.2.2 i
section
variable{prog:Program}{w:World}{A:Around}{E:Value->Shared->Prop}{s:Shared}
end
section
variable{prog:Program}{w:World}{A:Around}{E:Value->Shared->Prop}{s:Shared}
end
end L2
namespace L2
open PySem PySem.Spec PyProof.Rows
def Src(H:Hp)(k:Bool)(a:Addr)(xs:List V):Prop:=H a=some (if k=true then .lst xs else .tup xs)
theorem Src.inj{k:Bool}(h:Src H k a xs)(h':Src H k a ys):xs=ys:=by
 unfold Src at h h'
 rw[h] at h'
 cases k with
 |true=>injection h' with e;injection e
 |false=>injection h' with e;injection e
theorem Src.lst{H:Hp}{a:Addr}{xs:List V}(h:H a=some (.lst xs)):Src H true a xs:=h
theorem Src.tup{H:Hp}{a:Addr}{xs:List V}(h:H a=some (.tup xs)):Src H false a xs:=h
theorem Inv.src{s:Shared}{k:Bool}{xs:List V}(I:Inv X pins σ H s)(h:Src H k a xs):∃its:List Value,Vals xs its/\aJW s.heap k a its.toArray/\xs.length<=sizeLine:=by
 cases k with
 |true=>
  obtain⟨its,r,p,z⟩:=I.list (bQ.of h)
  exact⟨its,r,p.isList,z⟩
 |false=>
  obtain⟨its,r,p,z⟩:=I.tuple (mY.of h)
  exact⟨its,r,p,z⟩
abbrev zFp(z TI TO:Addr)(L:List ZS):List Addr:=z::TI::TO::L.map (·.2.1)
theorem ZSt.obj{z TI TO:Addr}{L:List ZS}{i:Nat}{h:Heap}(st:ZSt z TI TO L i h):∀b∈zFp z TI TO L,∃o,h.get? b=some o/\∀v,o.data≠.cell v:=λb hb=>by
 obtain⟨hz,hTI,⟨arr,hTO,_⟩,hit⟩:=st
 simp only[zFp,rN] at hb
 rcases hb with rfl|rfl|rfl|hb
 ·exact⟨_,hz,λv z=>by cases z⟩
 ·exact⟨_,hTI,λv z=>by cases z⟩
 ·exact⟨_,hTO,λv z=>by cases z⟩
 ·obtain⟨t,ht,rfl⟩:=Rk9.mp hb
  obtain⟨o,vs,e,d⟩:=(hit t ht).obj
  exact⟨o,e,λv z=>by rw[d] at z;cases z⟩
section
variable{X:Cx}{elts:List Expr}{x1:Nat}{tp:Pos}{k1 k2 k3:Bool}
end
section
variable{σ:St}{H:Hp}{nx:St->Hp->Prop}{rt:VK}{g:TG}{tb:TS}{Q:VK}{k1 k2 k3:Bool}{a b c:Addr}{xs ys zs:List V}{n:Nat}
end
section
variable{σ₀:St}{g:TG}{tt:TT}{te:TE}{R:List V->Hp->Prop}{H:Hp}{k1 k2 k3:Bool}{a b c:Addr}{xs ys zs:List V}{n:Nat}
end
section
variable{X:Cx}
structure Isi(K:W.Frag)(C:Addr):Prop where
 ha:PySem.W.findIn K (.ref C) "__class__" = some (some (.builtin "object.__class__"))
 hn:PySem.W.specialIn K (.builtin "object.__class__") "__get__" = some (some (.builtin "getset_descriptor.__get__"))
 htk:PySem.W.takesIn K (.builtin "object.__class__")=some true
 hm:PySem.W.mroIn K C (.type "object")=some true
theorem aDb{K:W.Frag}{H:Hp}{a C dx:Addr}{fs:List (Str×V)}(i:Isi K C)(c:Cls K C)(e:H a=some (.ins C dx fs)):IsI K H (.ref a) (.ref C) true:=
 ⟨.ref C,.ins e c i.ha i.hn i.htk i.hm,.inr ⟨C,rfl,by unfold PySem.W.kitOne;rw[gU (by simp)]⟩⟩
end
end L2
namespace L2.Z
open PySem PySem.Spec PyProof.Rows L2
section
variable{X:Cx}{p pos tp:Pos}{a b c:Expr}{elts:List Expr}{t:TA}{x1:Nat}{k1 k2 k3:Bool}
end
end L2.Z
namespace L2
open PySem PySem.Spec PyProof.Rows
theorem nw(o:HO)(n:H p=none):∃H2,upd H p o=H2/\aT H H2/\H2 p=some o:=⟨_,rfl,aT.new n,aO⟩
theorem wr(H:Hp)(p:Addr)(o:HO):∃H2,upd H p o=H2/\cJ p H H2/\H2 p=some o:=⟨_,rfl,cJ.upd,aO⟩
end L2
namespace L2
open PySem PySem.Spec PyProof.Rows
end L2
namespace L2
open PySem PySem.Spec PyProof.Rows
def Nx(N:St->Hp->Prop)(σ:St)(H:Hp):Prop:=N σ H
structure Tail(N b:St->Hp->Prop):Prop where
 h:∀σ H,b σ H->N σ H
theorem aJX{nx bk ct:St->Hp->Prop}{t u:TS}(h:∀N,Tail N (u ⟨nx,rt,bk,ct⟩)->t ⟨Nx N,rt,bk,ct⟩ σ H):aHb t u ⟨nx,rt,bk,ct⟩ σ H:=h _ ⟨λ_ _ h=>h⟩
theorem aNd{N b:St->Hp->Prop}(t:Tail N b)(h:b σ H):Nx N σ H:=t.h _ _ h
end L2
namespace L2
open PySem PySem.Spec PyProof.Rows
section
variable{prog:Program}{w:World}{A:Around}{E:Value->Shared->Prop}{s:Shared}{K:W.Frag}{x C:Addr}{ox:Obj}{od:Option Obj}
end
section
variable{X:Cx}
end
end L2
namespace L2
open PySem PySem.Spec PyProof.Rows
section
variable{X:Cx}{pins:List (Addr×Obj)}{σ:St}{H:Hp}{s:Shared}
end
theorem eE.obj{h:Heap}(x:eE P w H h a o):∃u,h.get? a=some u:=by
 cases o with
 |lst xs=>obtain⟨_,_,_,_,e⟩:=x;exact⟨_,e⟩
 |tup xs=>obtain⟨_,_,_,u,e,_⟩:=x;exact⟨u,e⟩
 |dK kvs=>obtain⟨_,_,_,_,u,_,_,e,_⟩:=x;exact⟨u,e⟩
 |dT kvs=>obtain⟨_,_,_,_,u,_,_,e,_⟩:=x;exact⟨u,e⟩
 |set S n=>obtain⟨u,_,_,_,e,_⟩:=x;exact⟨u,e⟩
 |ins C dx fs=>obtain⟨_,_,_,e,_⟩:=x;exact⟨_,e⟩
 |own y=>exact x
 |xd fs=>obtain⟨_,⟨u,_,_,e,_⟩,_⟩:=x;exact⟨u,e⟩
 |rng lo hi=>obtain⟨_,_,_,e⟩:=x;exact⟨_,e⟩
 |frz ob u=>exact⟨_,x.1⟩
 |tbl ps=>exact⟨_,x⟩
 |met f y=>exact⟨_,x⟩
 |ext φ=>exact x.2.1
 |cod q=>obtain⟨o,_,_,e,_⟩:=x;exact⟨o,e⟩
 |ctb pos q=>obtain⟨_,e,_⟩:=x;exact⟨_,e⟩
theorem Inv.aKx{X:Cx}{s:Shared}{h':Heap}{t':Nat}(I:Inv X pins σ H s)(k:∀b u,s.heap.get? b=some u->h'.get? b=some u)(hne:∀b u,s.heap.get? b=some u->b≠a)(new:eE X.prog X.w (upd H a o) h' a o):H a=none/\Inv X pins σ (upd H a o) { s with heap:=h',toks:=t' }:=by
 have hn:H a=none:=by
  cases e:H a with
  |none=>rfl
  |some u=>
   obtain⟨ob,z⟩:=(I.hok a u e).obj
   exact absurd rfl (hne a ob z)
 refine⟨hn,I.un ⟨λb u q _ _ _=>k b u q,λb u q _ _ _=>⟨u.slots,k b u q⟩,λb u q n _=>?_,λb u q _=>⟨u,k b u q⟩,λb xs q=>?_,λb u xs q=>?_,λb ps q=>⟨#[],?_⟩⟩ λb u e=>?_⟩
 ·rw[aU (hne b u q)];exact n
 ·rw[aU (bZ q hn)];exact q
 ·rw[aU (bZ q hn)];exact q
 ·rw[aU (bZ q hn),q];simp
 ·by_cases hb:b=a
  ·subst hb;rw[aO] at e;cases e;exact new
  ·rw[aU hb] at e
   exact(I.hok b u e).aAB (λc v _ q=>k c v q) (λc q=>by rw[aU (bZ q hn)];exact q) λc xs _ q=>by rw[aU (bZ q hn)];exact q
section
variable{X:Cx}{tg:Expr}
end
section
variable{σ:St}{H:Hp}{nx:St->Hp->Prop}{rt:VK}{g:TG}{tb:TS}
end
section
variable{X:Cx}
end
section
variable{X:Cx}{o e:Expr}{to:TE}{apos cpos:Pos}
end
section
variable{K:W.Frag}{σ:St}{H:Hp}{Q:VK}
end
end L2
namespace L2.Z
open PySem PySem.Spec PyProof.Rows
section
variable{X:Cx}{K':W.Frag}{tg o i value l:Expr}{to td ty tv tl:TE}{pos pos' apos cpos:Pos}
end
end L2.Z
namespace L2
open PySem PySem.Spec PyProof.Rows
section
variable{σ:St}{H:Hp}{Q:VK}{nx bk ct:St->Hp->Prop}{rt:VK}
end
end L2
namespace L2
open PySem PySem.Spec PyProof.Rows
structure aL0(K:W.Frag)(C:Addr):Prop where
 ga:PySem.W.findIn K (.ref C) "__getattribute__" = some (some (.builtin "BaseException.__getattribute__"))
 gx:PySem.W.findIn K (.ref C) "__getattr__" = some none
 ex:PySem.W.mroIn K C (.type "BaseException")=some true
section
variable{prog:Program}{w:World}{A:Around}{E:Value->Shared->Prop}{s:Shared}{K:W.Frag}{x C:Addr}{ox:Obj}{od:Option Obj}{name:Str}{v:Value}{expr:Bool}
end
def uJ:List Value->Bool
 |.ref _::r=>uJ r
 |l=>l == [.type "ValueError",.type "Exception",.type "BaseException",.type "object"]
theorem aD1(self:Value):refuseLoop self "__setattr__" [.type "ValueError",.type "Exception",.type "BaseException",.type "object"]=pure ():=by kernel_rfl
theorem aBd{P:List Value->Prop}(h0:P [.type "ValueError",.type "Exception",.type "BaseException",.type "object"])(h1:∀c r,P r->P (.ref c::r)):∀{l:List Value},uJ l=true->P l:=by
 intro l
 induction l with
 |nil=>intro e;cases e
 |cons u r ih=>
  intro e
  cases u with
  |ref c=>exact h1 c r (ih e)
  |_=>rw[show _::r=[Value.type "ValueError",.type "Exception",.type "BaseException",.type "object"] from beq_iff_eq.mp e];exact h0
theorem aFf(self:Value){l:List Value}(e:uJ l=true):refuseLoop self "__setattr__" l=pure ():=
 aBd (P:=λl=>refuseLoop self "__setattr__" l=pure ()) (aD1 self) (λc r h=>by rw[refuseLoop_ref];exact h) e
theorem aBe{l:List Value}(e:uJ l=true):l.contains (.type "object")=true/\l.isEmpty=false:=
 aBd (P:=λl=>l.contains (.type "object")=true/\l.isEmpty=false) ⟨by decide,rfl⟩ (λc r h=>⟨by rw[List.contains_cons,h.1,Bool.or_true],rfl⟩) e
section
variable{prog:Program}{w:World}{A:Around}{E:Value->Shared->Prop}{s:Shared}{K:W.Frag}{x C:Addr}{o:Obj}{name:Str}{v:Value}
open PySem.Builtin PySem.Builtin.ObjectAttr in
theorem aJY{Q:Unit->Shared->Prop}(X:K.In s.heap)(hx:s.heap.get? x=some o)(hc:o.cls=.ref C)(hnc:∀c,o.data≠.cls c)(hnf:PySem.W.notCls o=true)(hdn:o.dict=none)
  (hs:PySem.W.findIn K (.ref C) "__setattr__" = some (some (.builtin "object.__setattr__"))) (hm:(PySem.W.clsIn K C).any (λcd=>uJ cd.mro && cd.hasDict)=true) (ht:PySem.W.findIn K (.ref C) name=some none)
  (h:∀h',h'.get? x=some { o with dict:=some s.heap.objs.size }->h'.Ns1 s.heap.objs.size (λy=>if y=name then some v else none)->(∀b ob,b≠x->s.heap.get? b=some ob->h'.get? b=some ob)->∀tk,Q () { s with heap:=h',toks:=tk }) :
  wpAny (model prog w) A (setAttr (.ref x) name v) Q E s:=by
 have J:PySem.W.InstAt s.heap x o C none:=⟨hx,hc,hnf,by rw[hdn];trivial⟩
 obtain⟨cd,hcd,hq⟩:=PySem.W.any_some hm
 obtain⟨hmro,hhd⟩:=Bool.and_eq_true_iff.mp hq
 have SF:=PySem.F.store_object
 refine PySem.W.set_plain X J hs ?_
 obtain⟨hp,g,d,t,os⟩:=s
 have L0:=J.type (M:=model prog w)
 have LM:PySem.W.Looks (model prog w) hp (mroOf (.ref C)) cd.mro:=(PySem.W.looks_clsIn X hcd).andThen .now
 have LA:=PySem.W.looks_findIn (M:=model prog w) X ht
 have sub:PySem.W.Looks (model prog w) hp (isInstance (.ref x) (.type "object")) true:=L0.andThen (PySem.W.looks_mroIn X (by unfold PySem.W.mroIn;rw[hcd,Ti9,fQ (by rw[(aBe hmro).2];decide),(aBe hmro).1]))
 refine codeAny_call_builtin SF.slot.plain SF.entry (@PySem.W.check_slot (model prog w) _ _ _ "object.__setattr__" "object" "__setattr__" (.ref x) [.str name t,v] [] _ SF.kind SF.split sub (SF.args (.ref x) (.str name t) v) ?_)
 rw[PySem.W.osa_eq,refuse_eq]
 refine cM (cM (PySem.W.Looks.at L0 (cM (PySem.W.Looks.at LM ?_))))
 rw[aFf _ hmro]
 refine jY (cM (PySem.W.Looks.at L0 (cM (PySem.W.Looks.at LA (cM (jY ?_))))))
 show wpAny _ _ (storeInOwnDict (.ref x) (.ref C) (.str name t) name v false) _ _ _
 refine cM (jY (cM (cM (wpAny_loadPart hx ?_))))
 rw[hc]
 refine cM (PySem.W.Looks.at (PySem.W.looks_clsIn X hcd) ?_)
 rw[fQ (by rw[hhd];simp)]
 dsimp only
 rw[hdn]
 dsimp only
 rw[fQ (by simp[typeHasDict])]
 have hx1:(hp.push { cls:=.type "dict",data:=.dict #[] }).get? x=some o:=vG _ hx
 have hne:x≠hp.objs.size:=wG (kW hx)
 split
 ·rename_i c z;exact absurd z (hnc c)
 refine cM (wpAny_alloc' (cM (wpAny_update' hx1 (jY ?_))))
 have hg1:((hp.push { cls:=.type "dict",data:=.dict #[] }).update x λo=>{ cls:=o.cls,dict:=some hp.objs.size,data:=o.data,slots:=o.slots }).Ns hp.objs.size (λ_=>none):=
  ⟨_,#[],_,(Heap.get?_update_ne _ _ _ _ hne.symm).trans (Heap.get?_push_at rfl rfl),rfl,λe he=>absurd he (by simp),λ_=>rfl⟩
 show wpAny _ _ (storeInDict hp.objs.size (.str name t) name v) _ _ _
 unfold storeInDict newKeyGuard
 refine cM (jY (cM (wpAny_nsSet1 (Heap.Ns1.of_empty hg1) λh' hn2 hs2=>?_)))
 obtain⟨oD,esD,epD,hoD,hdD,hcD⟩:=hn2.count (PySem.Within.cons name v PySem.Within.nil)
 refine cM (wpAny_lookBehind hoD (by rw[hdD];exact pastItsLine_dict (wZ hcD (Nat.le_succ_of_le (aX (n:=1) (by decide))))) (jY ?_))
 refine h h' ?_ ?_ (λb ob hb e=>?_) _
 ·refine(hs2.2 x hne).trans (Rr9 _ hx1 ?_)
  have hfr:=(Heap.get?_some_iff.mp hx).2
  obtain⟨oc,od,odt,osl⟩:=o
  cases odt <;> first|rfl|exact hfr
 ·exact hn2
 ·exact(hs2.2 b (wG (kW e))).trans ((Heap.get?_update_ne _ _ _ _ hb).trans (vG _ e))
end
section
variable{prog:Program}{w:World}{A:Around}{E:Value->Shared->Prop}{s:Shared}{K:W.Frag}
variable{nm q:Str}{C N fI:Addr}{bs bm bmB:List Value}{hdct:Bool}{sn:List Str}{sub:List Value}{ab:Bool}{col:Option Bool}{dd:Option Addr}{k0 k1 k2 k3 k5:Option Value}{B newId initId:String}
theorem aHZ(F:ExcBaseFacts B newId initId bmB){rest:List Value}{Q:Value->Shared->Prop}(X:K.In s.heap)(hC:s.heap.get? C=some (excClassObj nm q C N bs bm hdct sn sub ab col dd k0 k1 k2 k3 k5 newId))(T:OwnTail s.heap bmB bm)
  (hi:PySem.W.findIn K (.ref C) "__init__" = some (some (.ref fI))) (hf:PySem.W.typeIn K (.ref fI)=some (.type "function")) (hz:rest.length<=sizeLine)
  (hq:∀h' e,Heap.MadeExcOf s.heap h' e (.ref C) rest->wpAny (model prog w) (A.under (.builtin "type.__call__" ⟨.ref C::rest,[]⟩)) (call (.ref fI) (.ref e::rest)) (λr s'=>r=.none/\Q (.ref e) s') E { s with heap:=h' }) :
  wpAny (model prog w) A (call (.ref C) rest) Q E s:=by
 obtain⟨h,g,d,t,os⟩:=s
 have f1:=tc_lookup
 have f2:=tc_bind (.ref C)
 have hT:(⟨h,g,d,t,os⟩ : Shared).TypeIs (.ref C) "type":=⟨_,hC,rfl⟩
 refine wpAny_call (codeAny_of_tree (show wpAny _ _ (callAny (.ref C) ⟨rest,[]⟩) _ _ _ from ?_))
 repeat (any_goals (first|assumption|with_reducible refine wpAny_loadPart_at (o:=excClassObj nm q C N bs bm hdct sn sub ab col dd k0 k1 k2 k3 k5 newId) hC ?_|wp_step))
 refine⟨rfl,codeAny_call_builtin_at (Code.quiet_builtin _ (by decide +kernel)) entry_typeCall (wpAny_check_type_call_sub hC ?_)⟩
 repeat (first|with_reducible refine wpAny_loadPart_at (o:=excClassObj nm q C N bs bm hdct sn sub ab col dd k0 k1 k2 k3 k5 newId) hC ?_|with_reducible refine wpAny_madeBy_exc hC ?_|wp_step)
 refine codeAny_call_builtin_code (Code.quiet_builtin _ F.quiet) (wpAny_check_new_subT F T hC (codeAny_exc_new_subT F T hC ?_ hz))
 show wpAny _ _ _ _ _ ⟨(h.push { cls:=.type "tuple",data:=.seq rest.toArray }).push { cls:=.ref C,data:=.fields #[.ref h.objs.size,.none,.none,.none,.bool false,.none] },g,d,t,os⟩
 generalize hH:(h.push { cls:=.type "tuple",data:=.seq rest.toArray }).push { cls:=.ref C,data:=.fields #[.ref h.objs.size,.none,.none,.none,.bool false,.none] } = h2
 have kp:∀b ob,h.get? b=some ob->h2.get? b=some ob:=λb ob e=>by rw[<-hH];exact vG _ (vG _ e)
 have he:h2.get? (h.objs.size+1)=some { cls:=.ref C,data:=.fields #[.ref h.objs.size,.none,.none,.none,.bool false,.none] }:=by rw[<-hH];exact Heap.get?_push_at (by rw[size_push']) rfl
 have ht:h2.get? h.objs.size=some { cls:=.type "tuple",data:=.seq rest.toArray }:=by rw[<-hH];exact vG _ (Heap.get?_push_at rfl rfl)
 have J:PySem.W.InstAt h2 (h.objs.size+1) { cls:=.ref C,data:=.fields #[.ref h.objs.size,.none,.none,.none,.bool false,.none] } C none:=⟨he,rfl,rfl,trivial⟩
 have made:Heap.MadeExcOf h h2 (h.objs.size+1) (.ref C) rest:=⟨kp,Te9 (Tv9 _),h.objs.size,he,Te9 (iI _),ht⟩
 refine cM ?_
 unfold isInstance
 refine cM (PySem.W.Looks.at (J.type (M:=model prog w)) (wpAny_isSubtype_exc (kp _ _ hC) ?_))
 rw[show(Value.ref C::bm).contains (.ref C)=true by simp,fQ (by decide)]
 refine cM (Sc9 (PySem.W.special_fn (s:=⟨h2,g,d,t,os⟩) (X.keeps kp) J hi hf (Rs9 (hq h2 _ made) (λr s' z=>?_) λ_ _ y=>y)))
 obtain⟨rfl,hQ⟩:=z
 dsimp only
 rw[fQ (by decide)]
 exact jY hQ
end
structure Lft(fs:List Addr)(e:Addr)(oe:Obj)(h h':Heap):Prop where
 keep:∀b o,b∉fs->b≠e->h.get? b=some o->h'.get? b=some o
 slot:∀b o,b∈fs->h.get? b=some o->∃sl,h'.get? b=some { o with slots:=sl }
 err:∃vs T oT ts,h'.get? e=some { oe with data:=.fields vs }/\vs[1]?=some (.ref T)/\T≠e/\h.objs.size<=T/\h'.get? T=some oT/\oT.data=.fields ts/\ts[3]?=some .none
 ctx:∀vs0 vs,oe.data=.fields vs0->h'.get? e=some { oe with data:=.fields vs }->vs[2]?=vs0[2]?
section
variable{M:Model}{A:Around}{E:Value->Shared->Prop}{s:Shared}{base:Heap}{env:Env}{outer:List Env}{L e:Addr}{oe:Obj}{vs:Array Value}{Q:Unit->Shared->Prop}
theorem aCp{head:Value}{hadNext:Bool}(hfr:A.frames=some (env::outer))(hl:s.heap.FunFrames base (env::outer))(hf:env.frame=some L)(he:s.heap.get? e=some oe)(hd:oe.data=.fields vs)(hz:1 < vs.size)
  (h:∀h',Lft (wH (env::outer)) e oe s.heap h'->Q () { s with heap:=h' }) :
  wpAny M A (do let a <-frameOf env;let pl <-entryPlaceOf L hadNext;let b <-EntryCells.newEntry head a .none (rawInt L) .none pl;setField (.ref e) 1 b) (λ_ s'=>wpAny M A (setFlight (.ref e) none) Q E s') E s:=by
 have hene:e∉wH (env::outer):=λhm=>by
  obtain⟨_,o,ho,hnf⟩:=hl.mem hm
  rw[he] at ho
  cases ho
  exact hnf vs hd
 refine cM (wpAny_frameOf_fun hfr hl hf λh2 hs=>cM (wpAny_entryPlaceOf λpl hpl=>?_))
 unfold EntryCells.newEntry newFields
 refine cM (Sb9 ?_ (hpl.sizeOk5 _ _ _ _ _))
 have he2:h2.get? e=some oe:=(hs.2.1 e hene).trans he
 have nT:h2.objs.size≠e:=Tj9 (kW he2)
 refine Sy9 (vG _ he2) hd hz ?_
 generalize hTs:([head,Value.ref L,Value.none,rawInt L,Value.none] ++ if pl.isEmpty=true then List.replicate 6 Value.none else pl).toArray=ts0
 have h3:3 < ts0.size:=by rw[<-hTs];simp only[mP,rA,Re9,Tb9];omega
 have em:Obj.mapFields (·.setIfInBounds 1 (Value.ref h2.objs.size)) oe={ oe with data:=.fields (vs.setIfInBounds 1 (Value.ref h2.objs.size)) }:=by
  obtain⟨c,di,dt,sl⟩:=oe
  cases hd
  rfl
 generalize hA:h2.push { cls:=.type "traceback",data:=.fields ts0 } = hA'
 have ka:∀b o,h2.get? b=some o->hA'.get? b=some o:=λb o z=>by rw[<-hA];exact vG _ z
 have kT:hA'.get? h2.objs.size=some { cls:=.type "traceback",data:=.fields ts0 }:=by rw[<-hA];exact Qz9 _ rfl
 show wpAny M A (setFlight (.ref e) none) Q E { s with heap:=hA'.update e (Obj.mapFields (·.setIfInBounds 1 (Value.ref h2.objs.size))) }
 have he3:(hA'.update e (Obj.mapFields (·.setIfInBounds 1 (Value.ref h2.objs.size)))).get? e=some { oe with data:=.fields (vs.setIfInBounds 1 (Value.ref h2.objs.size)) }:=by
  rw[<-em]
  exact Rr9 _ (ka _ _ he2) (by rw[em];rfl)
 have hT3:(hA'.update e (Obj.mapFields (·.setIfInBounds 1 (Value.ref h2.objs.size)))).get? h2.objs.size=some { cls:=.type "traceback",data:=.fields ts0 }:=(Qv9 _ _ (Ne.symm nT)).trans kT
 unfold setFlight
 refine cM (wpAny_field he3 rfl (x:=.ref h2.objs.size) (by simp[hz]) ?_)
 rw[gU (show(Value.ref h2.objs.size != Value.none)=true from by simp)]
 refine Sy9 hT3 rfl h3 (h _ ⟨λb o hb hbe z=>?_,λb o hb z=>?_,?_,λvs0 vs1 z1 z2=>?_⟩)
 ·have z2:=(hs.2.1 b hb).trans z
  exact(Qv9 _ _ (Tj9 (kW z2))).trans ((Qv9 _ _ (Ne.symm hbe)).trans (ka _ _ z2))
 ·obtain⟨sl,z2⟩:=hs.2.2 b o z
  exact⟨sl,(Qv9 _ _ (Tj9 (kW z2))).trans ((Qv9 _ _ (show e≠b from λq=>hene (by rw[q];exact hb))).trans (ka _ _ z2))⟩
 ·refine⟨_,h2.objs.size,_,_,(Qv9 _ _ nT).trans he3,by simp[hz],nT,Ty9 hs.1.symm,Rr9 _ hT3 rfl,rfl,by simp[h3]⟩
 ·rw[(Qv9 _ _ nT).trans he3] at z2
  injection z2 with z2
  injection z2 with _ _ z2
  injection z2 with z2
  rw[hd] at z1
  injection z1 with z1
  rw[<-z2,<-z1]
  simp
theorem aGL(hfr:A.frames=some (env::outer))(hl:s.heap.FunFrames base (env::outer))(hf:env.frame=some L)(he:s.heap.get? e=some oe)(hd:oe.data=.fields vs)(h1:vs[1]?=some .none)
  (h:∀h',Lft (wH (env::outer)) e oe s.heap h'->Q () { s with heap:=h' }):wpAny M A (leaving env (.ref e)) Q E s:=by
 unfold leaving noteFrame
 simp only[hf]
 refine cM (cM (wpAny_field he hd h1 ?_))
 rw[fQ (by decide)]
 exact aCp hfr hl hf he hd (Rx9.mp h1).1 h
theorem aH0{T:Addr}{oT:Obj}{ts:Array Value}(hfr:A.frames=some (env::outer))(hl:s.heap.FunFrames base (env::outer))(hf:env.frame=some L)(he:s.heap.get? e=some oe)(hd:oe.data=.fields vs)(h1:vs[1]?=some (.ref T))
  (hT:s.heap.get? T=some oT) (hdT:oT.data=.fields ts) (h3:ts[3]?=some .none) (nTe:T≠e)
  (h:∀h2 h',(∀b,b≠T->h2.get? b=s.heap.get? b)->h2.objs.size=s.heap.objs.size->Lft (wH (env::outer)) e oe h2 h'->Q () { s with heap:=h' }) :
  wpAny M A (noteFrame (.ref e) env) (λ_ s2=>wpAny M A (setFlight (.ref e) none) Q E s2) E s:=by
 unfold noteFrame
 simp only[hf]
 refine cM (wpAny_field he hd h1 ?_)
 rw[gU (show(Value.ref T != Value.none)=true from by simp)]
 refine cM (wpAny_field hT hdT h3 ?_)
 rw[fQ (show ¬((Value.none == rawInt L)=true) from by simp[rawInt])]
 refine cM (Sy9 hT hdT (Rx9.mp h3).1 ?_)
 have ot:∀b,b≠T->(s.heap.update T (Obj.mapFields (·.setIfInBounds 3 Value.none))).get? b=s.heap.get? b:=λb hb=>Qv9 _ _ (Ne.symm hb)
 refine aCp (base:=base) hfr (hl.of_keeps λb o z hnf=>⟨o,(ot b λq=>?_).trans z,rfl⟩) hf ((ot e (Ne.symm nTe)).trans he) hd (Rx9.mp h1).1 λh' lf=>h _ h' ot (Ts9 ..) lf
 rw[q,hT] at z
 cases z
 exact hnf ts hdT
end
def fZ(C:Addr)(od:Option Addr)(e:Addr):HO:=.ext λh=>∃o vs,h.get? e=some o/\o.cls=.ref C/\o.dict=od/\o.data=.fields vs/\(od≠none->vs[2]?=some .none)
theorem aAR{P:Program}{w:World}{H:Hp}{h:Heap}{C e:Addr}{od:Option Addr}{o:Obj}{vs:Array Value}(h1:h.get? e=some o)(h2:o.cls=.ref C)(h3:o.dict=od)(h4:o.data=.fields vs)(h5:od≠none->vs[2]?=some .none):eE P w H h e (fZ C od e):=
 ⟨⟨o,vs,h1,h2,h3,h4,h5⟩,⟨o,h1⟩,λ_ _ z k=>let ⟨o,vs,a,b,c,d⟩:=z;⟨o,vs,k o a,b,c,d⟩⟩
theorem vR{P:Program}{w:World}{H:Hp}{h:Heap}{C e:Addr}{od:Option Addr}(x:eE P w H h e (fZ C od e)):∃o vs,h.get? e=some o/\o.cls=.ref C/\o.dict=od/\o.data=.fields vs:=let ⟨o,vs,a,b,c,d,_⟩:=x.1;⟨o,vs,a,b,c,d⟩
theorem aDc{P:Program}{w:World}{H:Hp}{h:Heap}{C e:Addr}{od:Option Addr}{o:Obj}{vs:Array Value}(x:eE P w H h e (fZ C od e))(h1:h.get? e=some o)(h4:o.data=.fields vs)(n:od≠none):vs[2]?=some .none:=by
 obtain⟨o',vs',a,b,c,d,f⟩:=x.1
 rw[h1] at a
 cases a
 rw[h4] at d
 cases d
 exact f n
section
variable{X:Cx}{pins:List (Addr×Obj)}{σ:St}{H:Hp}{s:Shared}{h':Heap}{C e:Addr}{od:Option Addr}{oe:Obj}
theorem Inv.left(I:Inv X pins σ H s)(he:H e=some (fZ C od e))(ho:s.heap.get? e=some oe)(lf:Lft (wH X.stack) e oe s.heap h'):Inv X pins σ H { s with heap:=h' }:=by
 obtain⟨o,vs,q1,q2,q3,q4⟩:=vR (I.hok e _ he)
 rw[ho] at q1
 cases q1
 have stk:=I.aAP
 obtain⟨vs2,T,oT,ts,r1,_⟩:=lf.err
 have tr:∀b u,H b=some u->b∉wH X.stack:=λb u z hb=>by rw[stk b hb] at z;cases z
 refine I.call (g':=s.gens) (d':=s.drawn) (t':=s.toks) (ch:=[]) ⟨λb o z n hb _=>lf.keep b o hb (λq=>by rw[q,he] at n;cases n) z,λb o z n hb _=>lf.slot b o hb z,λb o z n _=>n,λb o z _=>?_,λ_ _ z=>z,λ_ _ _ z=>z,λb ps z=>⟨#[],by rw[z];simp⟩⟩ (λa u z=>?_) I.bare (λb z=>nomatch z)
 ·by_cases hb:b∈wH X.stack
  ·obtain⟨sl,q⟩:=lf.slot b o hb z;exact⟨_,q⟩
  ·by_cases hbe:b=e
   ·subst hbe;exact⟨_,r1⟩
   ·exact⟨o,lf.keep b o hb hbe z⟩
 ·by_cases hae:a=e
  ·subst hae
   rw[he] at z
   cases z
   exact aAR r1 q2 q3 rfl λn=>(lf.ctx _ _ q4 r1).trans (aDc (I.hok _ _ he) ho q4 n)
  ·refine(I.hok a u z).aAB (λb v hb q=>?_) (λ_ q=>q) λ_ _ _ q=>q
   rcases hb with rfl|hb
   ·exact lf.keep _ v (tr _ _ z) hae q
   ·exact lf.keep _ v (tr _ _ hb) (λy=>by rw[y,he] at hb;cases hb) q
end
def tR(P:Program)(w:World):CXT:=λouter H s E ev s'=>∃(e C:Addr) (od:Option Addr) (H':Hp) (oe:Obj) (vs:Array Value) (T:Addr) (oT:Obj) (ts:Array Value),
 ev=.ref e/\s'.os=s.os/\AllBare s'.gens/\Un (wH outer) [] H H' s.heap s'.heap/\wA P w H' s'.heap/\H' e=some (fZ C od e)/\s'.heap.get? e=some oe/\oe.data=.fields vs/\vs[1]?=some (.ref T)/\T≠e/\
 s.heap.objs.size<=T/\H' T=none/\s'.heap.get? T=some oT/\oT.data=.fields ts/\ts[3]?=some .none/\E (.ref e) od H'
theorem aGM{P:Program}{w:World}{K:W.Frag}{mg:Str->Option Value}{base:Heap}{N:List Str}{qual:Str}{scope:Scope}{f:Addr}{cd:Value}{A:Around}{outer:List Env}{s s':Shared}{H H':Hp}{E:XK}{pins:List (Addr×Obj)}{σ:St}
  {C e:Addr} {od:Option Addr} {oe:Obj} {vs:Array Value} (I:Inv (mQ (tR P w) P w K mg base N qual scope f cd A outer s H E) pins σ H' s') (he:H' e=some (fZ C od e)) (ho:s'.heap.get? e=some oe) (hd:oe.data=.fields vs) (h1:vs[1]?=some .none) (hE:E (.ref e) od H') :
  (mQ (tR P w) P w K mg base N qual scope f cd A outer s H E).xe (.ref e) s':=by
 refine aGL (base:=base) I.ok.frames I.stack rfl ho hd h1 λh' lf=>?_
 have I2:=I.left he ho lf
 obtain⟨vs2,T,oT,ts,r1,r2,r3,r4,r5,r6,r7⟩:=lf.err
 have sT:s.heap.objs.size<=T:=wZ I.sz r4
 have nT:s'.heap.get? T=none:=Te9 r4
 have hT:H' T=none:=by
  cases z:H' T with
  |none=>rfl
  |some u=>
   obtain⟨o2,z2⟩:=(I.hok T u z).obj
   rw[nT] at z2
   cases z2
 exact⟨e,C,od,H',_,_,T,oT,ts,rfl,I2.os,I2.bare,I2.base,I2.hok,he,r1,rfl,r2,r3,sT,hT,r5,r6,r7,hE⟩
end L2
namespace L2
open PySem PySem.Spec PyProof.Rows
def aAi:List Value:=[.type "ValueError",.type "Exception",.type "BaseException",.type "object"]
def rZ(K:W.Frag)(C:Addr):Bool:=match K.lookup C with
 |some ⟨.type "type",_,.cls cd,sl⟩=>(match cd.mro,sl.toList with
  |.ref C'::bm,[_,_,_,_,some (.builtin n),_]=>C' == C && n == "ValueError.__new__" && !cd.hasDel && PySem.W.tailIn K aAi bm
  |_,_=>false)
 |_=>false
theorem aBf{K:W.Frag}{h:Heap}{C:Addr}(X:K.In h)(q:rZ K C=true):∃nm qn N bs bm hd sn sub ab col dd k0 k1 k2 k3 k5,
  h.get? C=some (excClassObj nm qn C N bs bm hd sn sub ab col dd k0 k1 k2 k3 k5 "ValueError.__new__")/\OwnTail h aAi bm:=by
 unfold rZ at q
 split at q
 ·rename_i dd cd sl ho
  split at q
  ·rename_i C' bm k0 k1 k2 k3 n k5 hm hs
   simp only[zB,beq_iff_eq,Bool.not_eq_true'] at q
   obtain⟨⟨⟨rfl,rfl⟩,hdel⟩,ht⟩:=q
   obtain⟨nm,bs,mro,ns,qn,hd,sn,sub,ab,col,del⟩:=cd
   dsimp only at hm hdel
   subst hm hdel
   have hsl:sl = #[k0,k1,k2,k3,some (.builtin "ValueError.__new__"),k5]:=by
    obtain⟨l⟩:=sl
    simp only at hs
    rw[hs]
   subst hsl
   exact⟨nm,qn,ns,bs,bm,hd,sn,sub,ab,col,dd,k0,k1,k2,k3,k5,X _ _ ho,PySem.W.tail_of_in X ht⟩
  ·cases q
 ·cases q
structure rD(K:W.Frag)(C:Addr):Prop where
 z:aL0 K C
 sa:PySem.W.findIn K (.ref C) "__setattr__" = some (some (.builtin "object.__setattr__"))
 ca:PySem.W.findIn K (.ref C) "__class__" = some (some (.builtin "object.__class__"))
 cg:PySem.W.specialIn K (.builtin "object.__class__") "__get__" = some (some (.builtin "getset_descriptor.__get__"))
 ct:PySem.W.takesIn K (.builtin "object.__class__")=some true
 mo:PySem.W.mroIn K C (.type "object")=some true
 hd:PySem.W.hasDictIn K C=true
 mm:(PySem.W.clsIn K C).any (λcd=>uJ cd.mro && cd.hasDict)=true
 made:rZ K C=true
 kp:W.keepIn K (.ref C)=true
def iK(C:Addr)(od:Option Addr)(e:Addr):HO:=.ext λh=>∃o t,h.get? e=some o/\o.cls=.ref C/\o.dict=od/\o.data=.fields #[.ref t,.none,.none,.none,.bool false,.none]
theorem aFS{P:Program}{w:World}{H:Hp}{h:Heap}{C e t:Addr}{od:Option Addr}{o:Obj}(h1:h.get? e=some o)(h2:o.cls=.ref C)(h3:o.dict=od)(h4:o.data=.fields #[.ref t,.none,.none,.none,.bool false,.none]):eE P w H h e (iK C od e):=
 ⟨⟨o,t,h1,h2,h3,h4⟩,⟨o,h1⟩,λ_ _ z k=>let ⟨o,t,a,b,c,d⟩:=z;⟨o,t,k o a,b,c,d⟩⟩
theorem aAS{P:Program}{w:World}{H:Hp}{h:Heap}{C e:Addr}{od:Option Addr}(x:eE P w H h e (iK C od e)):∃o t,h.get? e=some o/\o.cls=.ref C/\o.dict=od/\o.data=.fields #[.ref t,.none,.none,.none,.bool false,.none]:=x.1
theorem zL{o:Obj}{vs:Array Value}(h:o.data=.fields vs):PySem.W.notCls o=true:=by
 obtain⟨c,d,dt,sl⟩:=o
 cases h
 rfl
section
variable{X:Cx}{pins:List (Addr×Obj)}{σ:St}{H:Hp}{s:Shared}
theorem Inv.aL1{C e:Addr}{od:Option Addr}(I:Inv X pins σ H s)(he:H e=some (iK C od e)):Inv X pins σ (upd H e (fZ C od e)) s:=by
 obtain⟨o,t,a,b,c,d⟩:=aAS (I.hok e _ he)
 exact I.write (x:=e) (e:=e) (h':=s.heap) (t':=s.toks) (by rw[he];trivial) (.inl rfl) (λ_ _ _ q=>q) ⟨o,a⟩ (aAR a b c d λ_=>rfl)
end
end L2
namespace L2
open PySem PySem.Spec PyProof.Rows
def aL2(C:Addr)(sp:Sp)(t:TA):TE:=λσ H Q=>t σ H λvs H1=>∀x,H1 x=none->sp (.ref x::vs) (upd H1 x (iK C none x)) (λv H2=>v=.non/\Q (.ref x) H2) E0
def aFT(C:Addr):TE:=λ_ H Q=>∀x,H x=none->Q (.ref x) (upd H x (iK C none x))
section
variable{X:Cx}{k:Nat}{f C:Addr}{fd:FuncData}{ps:List Str}{sp:Sp}{x:Str}{p pos:Pos}{e:Expr}{es:List Expr}{t:TA}{te:TE}
theorem aFU{pins:List (Addr×Obj)}{σ:St}{H:Hp}{s:Shared}{h':Heap}{e:Addr}{us:List Value}(I:Inv X pins σ H s)(m:Heap.MadeExcOf s.heap h' e (.ref C) us) :
  H e=none/\Inv X pins σ (upd H e (iK C none e)) { s with heap:=h' }:=by
 obtain⟨kp,nE,t,he,_⟩:=m
 exact I.aKx (t':=s.toks) kp (λb u q z=>by rw[z,nE] at q;cases q) (aFS he rfl rfl rfl)
theorem aL3(Z:rD X.K C)(hi:PySem.W.findIn X.K (.ref C) "__init__" = some (some (.ref f)))(hf:PySem.W.isFn X.K (.ref f)=true)(F:cT X.prog X.w X.K X.mg X.base tZ k f fd ps sp)(hr:gS (k+1) X.A)(hg:Gl X x)(hm:X.mg x=some (.ref C))(hb:Binds X.K fd ps [])
  (ha:PA X (e::es) t) (hlen:ps.length<=1000) (hdb:(x == ("__debug__" : Str))=false:=by decide) (he:starEach (e::es) X.env=(false,eval e X.env)::starEach es X.env:=by rfl) (hpl:(backTo pos (starEach es X.env)).any (·.1)=false:=by rfl) :
  PE X (.Call (.Name x p) (e::es) [] pos) (aL2 C sp t):=by
 intro pins s σ H Q I h
 refine wpAny_Call_Name_kw (nO I hg hm ?_ hdb)
 refine PySem.W.callWith_K (h₀:=X.base) I.ok.mod.kin Z.kp (dY (ha pos pins s σ H _ I h) λus s1 ⟨vs,H1,I1,r,q⟩=>⟨I1.rP,?_⟩) he hpl
 obtain⟨nm,qn,N,bs,bm,hd,sn,sub,ab,col,dd,k0,k1,k2,k3,k5,hC,T⟩:=aBf I1.rP Z.made
 have hln:us.length<=sizeLine:=by
  have e1:=F.len _ _ _ _ (q _ (I1.hok.fresh (iI s1.heap.objs.size)))
  rw[<-r.length]
  rw[Re9] at e1
  exact aX (by omega)
 refine aHZ PySem.F.excBase_ValueError I1.rP hC T hi (beq_iff_eq.mp hf) hln λh' a m=>?_
 obtain⟨n1,I2⟩:=aFU I1 m
 have hq:=q a n1
 have r2:Vals (V.ref a::vs) (Value.ref a::us):=.cons rfl r
 have hl:(Value.ref a::us).length=ps.length:=by rw[<-r2.length];exact F.len _ _ _ _ hq
 refine wpAny_call (codeAny_mono (F.run _ X.stack _ _ ⟨Value.ref a::us,[]⟩ (Value.ref a::us) _ _ E0 (hr.make C us []) (I2.aHp.make C us []) (by have:=hb _ (Value.ref a::us) I2.rP (by rw[Ry9];exact hl);rwa[Ry9] at this) r2 hq) λr s' hq'=>?_)
 cases r with
 |error e=>exact False.elim hq'
 |ok fl=>
  cases fl with
  |ret u=>
   obtain⟨v,H',I3,rv,ev,q3⟩:=I2.after hq'
   subst ev
   exact⟨rv,V.ref a,H',I3,rfl,q3⟩
  |next=>exact False.elim hq'
  |brk=>exact False.elim hq'
  |cont=>exact False.elim hq'
theorem aH1{K:PySem.W.Frag}{h:Heap}{C:Addr}(X:K.In h)(q:PySem.W.excIn K C aAi "ValueError.__new__" = true):∃nm qn N bs bm hd sn sub ab col dd k0 k1 k2 k3 k5,∃mN:Str->Option Value,
  h.get? C=some (excClassObj nm qn C N bs bm hd sn sub ab col dd k0 k1 k2 k3 k5 "ValueError.__new__")/\h.Ns N mN/\mN "__init__" = none/\OwnTail h aAi bm:=by
 unfold PySem.W.excIn at q
 split at q
 ·rename_i dd cd sl ho
  split at q
  ·rename_i C' bm k0 k1 k2 k3 n k5 hm hs
   simp only[zB,beq_iff_eq,Bool.not_eq_true'] at q
   obtain⟨⟨⟨⟨⟨rfl,rfl⟩,hdel⟩,ht⟩,hok⟩,hni⟩:=q
   obtain⟨nm,bs,mro,ns,qn,hd,sn,sub,ab,col,del⟩:=cd
   dsimp only at hm hdel hok hni
   subst hm hdel
   have hsl:sl = #[k0,k1,k2,k3,some (.builtin "ValueError.__new__"),k5]:=by
    obtain⟨l⟩:=sl
    simp only at hs
    rw[hs]
   subst hsl
   exact⟨nm,qn,ns,bs,bm,hd,sn,sub,ab,col,dd,k0,k1,k2,k3,k5,_,X _ _ ho,.of_isNs (PySem.W.isNs_of_in X hok),PySem.W.nsMap_none_of_in X hok hni,PySem.W.tail_of_in X ht⟩
  ·cases q
 ·cases q
theorem aJZ(q:PySem.W.excIn X.K C aAi "ValueError.__new__" = true)(hk:PySem.W.keepIn X.K (.ref C)=true)(hg:Gl X x)(hm:X.mg x=some (.ref C))(hdb:(x == ("__debug__" : Str))=false:=by decide):PE X (.Call (.Name x p) [] [] pos) (aFT C):=by
 intro pins s σ H Q I h
 refine wpAny_Call_Name_kw (nO I hg hm ?_ hdb)
 refine PySem.W.callWith_K0 I.rP hk ?_
 obtain⟨nm,qn,N,bs,bm,hd,sn,sub,ab,col,dd,k0,k1,k2,k3,k5,mN,hC,hN,hni,T⟩:=aH1 I.rP q
 obtain⟨hp,g,d,tk,os⟩:=s
 refine wpAny_call_exc_subT (rest:=[]) PySem.F.excBase_ValueError T hC hN hni λh' e m=>?_
 obtain⟨n1,I2⟩:=aFU I m
 exact⟨V.ref e,_,I2,rfl,h e n1⟩
def Raises(X:Cx)(E:XK):Prop:=∀(pins:List (Addr×Obj)) (σ:St) (H:Hp) (s:Shared) (e C:Addr) (od:Option Addr) (oe:Obj) (vs:Array Value),Inv X pins σ H s->H e=some (fZ C od e)->s.heap.get? e=some oe->oe.data=.fields vs->vs[1]?=some .none->E (.ref e) od H->X.xe (.ref e) s
theorem eI{P:Program}{w:World}{K:W.Frag}{mg:Str->Option Value}{base:Heap}{N:List Str}{qual:Str}{scope:Scope}{f:Addr}{cd:Value}{A:Around}{outer:List Env}{s:Shared}{H:Hp}{E:XK} :
  Raises (mQ (tR P w) P w K mg base N qual scope f cd A outer s H E) E:=λ_ _ _ _ _ _ _ _ _ I he ho hd h1 hE=>aGM I he ho hd h1 hE
theorem aDd{P:Program}{w:World}{K:W.Frag}{mg:Str->Option Value}{base:Heap}{N:List Str}{qual:Str}{scope:Scope}{f:Addr}{cd:Value}{A:Around}{outer:List Env}{s:Shared}{H:Hp}{E:XK} :
  PassesOwn (model P w) (mQ (tR P w) P w K mg base N qual scope f cd A outer s H E).A (mQ (tR P w) P w K mg base N qual scope f cd A outer s H E).env (mQ (tR P w) P w K mg base N qual scope f cd A outer s H E).xe:=
 λ_ _ h=>wpAny_leaving_again (SameStack.refl _) h
def aFg(K:W.Frag)(E:XK)(te:TE):TS:=λ_ σ H=>te σ H λv H1=>∃e C od,v=.ref e/\H1 e=some (iK C od e)/\rD K C/\E (.ref e) od (upd H1 e (fZ C od e))
theorem aFh{M:Model}{A:Around}{Ex:Value->Shared->Prop}{env:Env}{s:Shared}{x:Sem Value}{Q:Flow->Shared->Prop}{K:W.Frag}(hh:A.handled=none)
  (h:wpAny M A x (λv s₁=>∃e C oe vs,v=.ref e/\K.In s₁.heap/\rZ K C=true/\s₁.heap.get? e=some oe/\oe.cls=.ref C/\oe.data=.fields vs/\vs[1]?=some .none/\Ex (.ref e) s₁) Ex s) :
  wpAny M A (raiseStmt env (some x) none) Q Ex s:=by
 unfold raiseStmt
 refine cM (Rs9 h (λv s₁ h₁=>?_) λ_ _ x=>x)
 obtain⟨e,C,oe,vs,rfl,X,hc,he,hcl,hd,h1,hE⟩:=h₁
 obtain⟨nm,qn,N,bs,bm,hdd,sn,sub,ab,col,dd,k0,k1,k2,k3,k5,hC,T⟩:=aBf X hc
 have hcB:(Value.ref C::bm).contains (.type "BaseException")=true:=by rw[List.contains_cons,T.hasType (b:=true) (by decide),Bool.or_true]
 obtain⟨hp,g,d,tk,os⟩:=s₁
 obtain⟨oc,od,odt,osl⟩:=oe
 cases hcl
 cases hd
 repeat (first|with_reducible refine wpAny_loadPart_at he ?_|with_reducible refine wpAny_loadPart_at hC ?_|(with_reducible refine wpAny_isSubtype_exc hC ?_;rw[hcB])|wp_step)
 rw[h1]
 refine jY ?_
 rw[fQ (by decide)]
 exact jY (wpAny_raiseNew_none hh hE)
theorem aH2{E:XK}(hx:Raises X E)(hc:X.calm=true)(he:PE X e te):PS X (.Raise (some e) none pos) (aFg X.K E te):=by
 intro pins s σ H D I h
 rw[arm_exec_Raise]
 refine cM (wpAny_standAt ?_)
 refine aFh (K:=X.K) (I.ok.hd hc) ?_
 refine cM (dY (he pins s σ H _ I h) λu s1 ⟨v,H1,I1,rv,a,C,od,ev,ea,Z,q⟩=>?_)
 subst ev
 obtain rfl:u=Value.ref a:=rv
 obtain⟨o,t,h1,h2,h3,h4⟩:=aAS (I1.hok a _ ea)
 exact cM (wpAny_standAt (jY ⟨a,C,o,_,rfl,I1.rP,Z.made,h1,h2,h4,rfl,hx pins σ _ s1 a C od o _ (I1.aL1 ea) aO h1 h4 rfl q⟩))
end
end L2
namespace L2
open PySem PySem.Spec PyProof.Rows
def aFV(K:W.Frag)(C:Addr)(f:Str):Prop:=W.findIn K (.ref C) f=some none
def aL4(K:W.Frag)(ta tv:TE)(f:Str):TS:=λD σ H=>tv σ H λy H1=>ta σ H1 λx H2=>∃a C,x=.ref a/\H2 a=some (iK C none a)/\rD K C/\aFV K C f/\
 ∀dx,H2 dx=none->dx≠a->D.nx σ (upd (upd H2 dx (.xd [(f,y)])) a (iK C (some dx) a))
section
variable{X:Cx}{o e value:Expr}{f:Str}{pos pos':Pos}{ta tv:TE}
theorem aJ0(ha:PE X o ta)(hv:PE X value tv)(hs:swapsWith value (some (.Attribute o f pos')) pos.line X.env=pure false):PS X (.Assign [.Attribute o f pos'] value pos) (aL4 X.K ta tv f):=by
 intro pins s σ H D I h
 refine plainObj_wpAny_Assign_Attribute (dY (hv pins s σ H _ I h) λu s1 ⟨y,H1,I1,ry,q⟩=>dY (ha pins s1 σ H1 _ I1 q) λov s2 ⟨x,H2,I2,rx,a,C,ex,ea,Z,n,q2⟩=>?_) hs
 subst ex
 obtain rfl:ov=Value.ref a:=rx
 obtain⟨ob,t,h1,h2,h3,h4⟩:=aAS (I2.hok a _ ea)
 refine aJY (K:=X.K) I2.rP h1 h2 (λc z=>by rw[h4] at z;cases z) (zL h4) h3 Z.sa Z.mm n λh' g1 g2 g3 tk=>?_
 generalize hdx:s2.heap.objs.size=dx at g1 g2
 have nd:H2 dx=none:=I2.hok.fresh (Ty9 hdx)
 have nda:dx≠a:=λz=>by rw[z,ea] at nd;cases nd
 have lt:∀b u,s2.heap.get? b=some u->b≠dx:=λb u z w'=>absurd (kW z) (by rw[w',<-hdx];exact Rq9 _)
 have na:∀b,H2 b=none->b≠a:=λb z w'=>by rw[w',ea] at z;cases z
 have no:∀b u,H2 b=some u->u≠iK C none a->b≠a:=λb u z n w'=>by rw[w',ea] at z;exact n (Option.some.inj z).symm
 have no2:∀b u,H2 b=some u->b≠dx:=λb u z w'=>by rw[w',nd] at z;cases z
 refine⟨σ,_,I2.un (h':=h') (t':=tk) (H':=upd (upd H2 dx (.xd [(f,y)])) a (iK C (some dx) a)) ⟨λb u z n _ _=>g3 b u (na b n) z,λb u z n _ _=>⟨u.slots,g3 b u (na b n) z⟩,λb u z n _=>?_,λb u z _=>?_,λb xs z=>?_,λb u xs z=>?_,λb ps z=>⟨#[],?_⟩⟩ ?_,q2 dx nd nda⟩
 ·rw[aU (na b n),aU (lt b u z)];exact n
 ·by_cases hb:b=a
  ·subst hb;exact⟨_,g1⟩
  ·exact⟨u,g3 b u hb z⟩
 ·rw[aU (no b _ z (λw'=>by cases w')),aU (no2 b _ z)];exact z
 ·rw[aU (no b _ z (λw'=>by cases w')),aU (no2 b _ z)];exact z
 ·rw[aU (no b _ z (λw'=>by cases w')),aU (no2 b _ z),z];simp
 ·intro b ho z
  by_cases hb:b=a
  ·subst hb
   rw[aO] at z
   cases z
   exact aFS g1 h2 rfl h4
  ·rw[aU hb] at z
   by_cases hbd:b=dx
   ·subst hbd
    rw[aO] at z
    cases z
    refine⟨_,g2,λf'=>?_⟩
    by_cases hf:f'=f
    ·rw[gU hf,hf]
     show aDL (List.lookup f [(f,y)]) (some u)
     rw[Rn9,beq_self_eq_true]
     exact ry
    ·rw[fQ hf,Rn9,beq_eq_false_iff_ne.mpr hf]
     trivial
   ·rw[aU hbd] at z
    refine(I2.hok b ho z).aAB (λc v hc q=>?_) (λc q=>?_) λc xs yt q=>?_
    ·refine g3 c v ?_ q
     rcases hc with rfl|hc
     ·exact hb
     ·exact no c _ hc (λw'=>by cases w')
    ·rw[aU (no c _ q (λw'=>by cases w')),aU (no2 c _ q)];exact q
    ·rw[aU (no c _ q (λw'=>by subst w';exact yt)),aU (no2 c _ q)];exact q
end
end L2
namespace L2
open PySem PySem.Spec PyProof.Rows
section
variable{prog:Program}{w:World}{A:Around}{E:Value->Shared->Prop}{s:Shared}{K:W.Frag}{x D:Addr}{ox:Obj}{odo:Option Obj}
theorem aGN{Q:Option Value->Shared->Prop}(Z:rD K D)(X:K.In s.heap)(I:PySem.W.InstAt s.heap x ox D odo)(h:Q (some (.ref D)) { s with toks:=s.toks+1 }):wpAny (model prog w) A (getAttr? (.ref x) "__class__") Q E s:=by
 have hf:PySem.W.findObj K D odo "__class__" = some (.bind (.builtin "getset_descriptor.__get__") (.builtin "object.__class__")):=by
  obtain⟨cd,hc,_⟩:=PySem.W.any_some Z.hd
  unfold PySem.W.findObj
  rw[hc,Ti9,Z.ca,Ti9]
  dsimp only
  rw[Z.cg,Ti9]
  dsimp only
  rw[Z.ct,Ti9]
 obtain⟨hp,g,d,t,os⟩:=s
 have L0:=I.type (M:=model prog w)
 have L1:=PySem.W.looks_findIn (M:=model prog w) X Z.z.ga
 have L2:=PySem.W.looks_findIn (M:=model prog w) X Z.z.gx
 have L3:=PySem.W.looks_mroIn (M:=model prog w) X Z.z.ex
 have L4:=PySem.W.looks_find (M:=model prog w) X I hf
 have f3:=PySem.F.attr_ValueError.ga.bind (.ref x)
 have hx1:(onTheHeap (Value.ref D) && Value.builtin "BaseException.__getattribute__" == Value.builtin "object.__getattribute__")=false:=by
  rw[show(Value.builtin "BaseException.__getattribute__" == Value.builtin "object.__getattribute__")=false by decide +kernel];rfl
 unfold getAttr? getAttrBy? getAttrBy
 refine cM (wpAny_mkText (cM (wpAny_attempt (Sc9 (cM (L0.at (cM (L1.at ?_))))))))
 dsimp only
 rw[hx1,fQ Qu9]
 unfold getAttrByItsOwn hookBefore
 rw[gU (show onTheHeap (Value.ref D)=true from rfl)]
 refine cM (L2.at (cM (wpAny_attempt (Sc9 ?_))))
 unfold callGetattribute boundAndCalled
 rw[fQ (by simp)]
 refine cM (wpAny_of_eq f3 (wpAny_call (codeAny_call_builtin PySem.F.attr_ValueError.ga.plain PySem.F.entry_bexc_ga ?_)))
 have hk:builtinKind "BaseException.__getattribute__" = some .slot:=by decide +kernel
 have hs:splitId "BaseException.__getattribute__" = some ("BaseException","__getattribute__"):=by decide +kernel
 have ha:=PySem.F.args_bexc_ga (.ref x) (.str "__class__" t)
 simp only[List.singleton_append,checkBuiltinCall,hk,hs]
 refine cM ?_
 unfold isInstance
 refine cM (PySem.W.Looks.at L0 (PySem.W.Looks.at L3 ?_))
 rw[fQ (by simp)]
 refine wpAny_of_eq (a:=()) ha ?_
 unfold Builtin.«object.__getattribute__»
 refine cM (jY (cM (jY (cM (PySem.W.Looks.at L0 (cM (PySem.W.Looks.at L4 ?_)))))))
 show wpAny _ _ (holding [_] (call (.builtin "getset_descriptor.__get__") [.builtin "object.__class__",.ref x,.ref D]) >>= ret) _ _ _
 refine cM (Sc9 (wpAny_call (PySem.W.class_get (ox:=ox) (od:=odo) X I Z.mo ?_)))
 exact jY (PySem.W.handed_on rfl (jY h))
theorem aH3(Z:rD K D):PySem.W.KitX K (.ref x) (.ref D) (λh=>∃ox odo,PySem.W.InstAt h x ox D odo) where
 ty:=λ_ _ _ ⟨_,_,I⟩=>I.type
 it:=λ_ _ X _=>by
  obtain⟨cdD,hcD,_⟩:=PySem.W.any_some Z.hd
  unfold PySem.W.clsIn at hcD
  split at hcD
  ·rename_i c' d' cd' sl' ho
   intro A' Q' E' s' k q
   unfold isType loadHead
   exact cM (wpAny_loadPart (k _ _ (X _ _ ho)) (jY q))
  ·cases hcD
 ne:=λh tp dd its n sl X htp=>by
  obtain⟨cdD,hcD,_⟩:=PySem.W.any_some Z.hd
  refine Bool.eq_false_iff.mpr λq=>?_
  have e:D=tp:=Value.ref.inj (beq_iff_eq.mp q)
  subst e
  unfold PySem.W.clsIn at hcD
  split at hcD
  ·rename_i c' d' cd' sl' ho
   have z:=(X _ _ ho).symm.trans htp
   cases z
  ·cases hcD
 ca:=λX ⟨_,_,I⟩ k=>aGN Z X I k
end
theorem aL5{P:Program}{w:World}{H:Hp}{h:Heap}{C e:Addr}{od:Option Addr}(hok:wA P w H h)(he:H e=some (fZ C od e))(hd:∀dx,od=some dx->∃o,h.get? dx=some o):∃o odo,PySem.W.InstAt h e o C odo:=by
 obtain⟨o,vs,a,b,c,d⟩:=vR (hok e _ he)
 cases od with
 |none=>exact⟨o,none,a,b,zL d,by rw[c];trivial⟩
 |some dx=>
  obtain⟨oo,ho⟩:=hd dx rfl
  exact⟨o,some oo,a,b,zL d,by rw[c];exact ho⟩
def qP(H:Hp)(od:Option Addr):Prop:=∀dx,od=some dx->∃fs,H dx=some (.xd fs)
theorem qP.none:qP H none:=λ_ z=>nomatch z
theorem qP.some(h:H dx=some (.xd fs)):qP H (some dx):=λ_ z=>by cases z;exact⟨fs,h⟩
theorem qP.there{h:Heap}(hok:wA P w H h)(d:qP H od):∀dx,od=Option.some dx->∃o,h.get? dx=Option.some o:=λdx z=>by
 obtain⟨fs,e⟩:=d dx z
 exact(hok dx _ e).obj
def aFW(K:W.Frag):List V->Hp->VK->Prop:=λxs H Q=>∃(a C:Addr) (od:Option Addr) (c:V) (cv:Value) (b:Bool),xs=[.ref a,c]/\H a=some (fZ C od a)/\qP H od/\rD K C/\(∀u,RelV c u->u=cv)/\PySem.W.kitOne K (.ref C) cv=some b/\Q (.bl b) H
section
variable{X:Cx}{K:W.Frag}{H:Hp}{Q:VK}
theorem aCq:eR X (.builtin "isinstance") (aFW X.K):=by
 intro pins s σ H xs us Q I r h
 obtain⟨a,C,od,c,cv,b,rfl,ha,hd,Z,hc,e,q⟩:=h
 obtain⟨u,w',rfl,rx,ry⟩:=vals2 r
 cases (show u=Value.ref a from rx)
 obtain rfl:=hc _ ry
 exact PySem.W.kia_one (aH3 Z) I.rP (aL5 I.hok ha (hd.there I.hok)) e (λz=>nomatch z) λtk=>⟨.bl b,H,I.tok _,rfl,q⟩
theorem aFX{a C C':Addr}{od:Option Addr}{b:Bool}(ha:H a=some (fZ C od a))(hd:qP H od)(Z:rD K C)(e:PySem.W.kitOne K (.ref C) (.ref C')=some b)(h:Q (.bl b) H):aFW K [.ref a,.ref C'] H Q:=⟨a,C,od,.ref C',.ref C',b,rfl,ha,hd,Z,λ_ z=>z,e,h⟩
end
end L2
namespace L2
open PySem PySem.Spec PyProof.Rows
abbrev TW:=St->Hp->Addr->Prop
structure xE(X:Cx)(pins:List (Addr×Obj))(T:Addr):Prop where
 up:X.s₀.heap.objs.size<=T
 loc:T≠X.env.locals
 cell:∀x c,X.env.cells.lookup x=some c->c≠T
 pin:∀p∈X.pn++pins,p.1≠T
structure aL6(fs:List Addr)(e:Addr)(oe:Obj)(h h':Heap):Prop where
 keep:∀b o,b∉fs->b≠e->h.get? b=some o->h'.get? b=some o
 slot:∀b o,b∈fs->h.get? b=some o->∃sl,h'.get? b=some { o with slots:=sl }
 err:∃vs T oT ts,h'.get? e=some { oe with data:=.fields vs }/\vs[1]?=some (.ref T)/\T≠e/\h.objs.size<=T/\h'.get? T=some oT/\oT.data=.fields ts/\3 < ts.size
 ctx:∀vs0 vs,oe.data=.fields vs0->h'.get? e=some { oe with data:=.fields vs }->vs[2]?=vs0[2]?
section
variable{M:Model}{A:Around}{E:Value->Shared->Prop}{s:Shared}{base:Heap}{env:Env}{outer:List Env}{L e:Addr}{oe:Obj}{vs:Array Value}{Q:Unit->Shared->Prop}
theorem aFi{head:Value}{hadNext:Bool}(hfr:A.frames=some (env::outer))(hl:s.heap.FunFrames base (env::outer))(hf:env.frame=some L)(he:s.heap.get? e=some oe)(hd:oe.data=.fields vs)(hz:1 < vs.size)
  (h:∀h',aL6 (wH (env::outer)) e oe s.heap h'->Q () { s with heap:=h' }) :
  wpAny M A (do let a <-frameOf env;let pl <-entryPlaceOf L hadNext;let b <-EntryCells.newEntry head a .none (rawInt L) .none pl;setField (.ref e) 1 b) Q E s:=by
 have hene:e∉wH (env::outer):=λhm=>by
  obtain⟨_,o,ho,hnf⟩:=hl.mem hm
  rw[he] at ho
  cases ho
  exact hnf vs hd
 refine cM (wpAny_frameOf_fun hfr hl hf λh2 hs=>cM (wpAny_entryPlaceOf λpl hpl=>?_))
 unfold EntryCells.newEntry newFields
 refine cM (Sb9 ?_ (hpl.sizeOk5 _ _ _ _ _))
 have he2:h2.get? e=some oe:=(hs.2.1 e hene).trans he
 have nT:h2.objs.size≠e:=Tj9 (kW he2)
 refine Sy9 (vG _ he2) hd hz ?_
 generalize hTs:([head,Value.ref L,Value.none,rawInt L,Value.none] ++ if pl.isEmpty=true then List.replicate 6 Value.none else pl).toArray=ts0
 have h3:3 < ts0.size:=by rw[<-hTs];simp only[mP,rA,Re9,Tb9];omega
 have em:Obj.mapFields (·.setIfInBounds 1 (Value.ref h2.objs.size)) oe={ oe with data:=.fields (vs.setIfInBounds 1 (Value.ref h2.objs.size)) }:=by
  obtain⟨c,di,dt,sl⟩:=oe
  cases hd
  rfl
 generalize hA:h2.push { cls:=.type "traceback",data:=.fields ts0 } = hA'
 have ka:∀b o,h2.get? b=some o->hA'.get? b=some o:=λb o z=>by rw[<-hA];exact vG _ z
 have kT:hA'.get? h2.objs.size=some { cls:=.type "traceback",data:=.fields ts0 }:=by rw[<-hA];exact Qz9 _ rfl
 have he3:(hA'.update e (Obj.mapFields (·.setIfInBounds 1 (Value.ref h2.objs.size)))).get? e=some { oe with data:=.fields (vs.setIfInBounds 1 (Value.ref h2.objs.size)) }:=by
  rw[<-em]
  exact Rr9 _ (ka _ _ he2) (by rw[em];rfl)
 have hT3:(hA'.update e (Obj.mapFields (·.setIfInBounds 1 (Value.ref h2.objs.size)))).get? h2.objs.size=some { cls:=.type "traceback",data:=.fields ts0 }:=(Qv9 _ _ (Ne.symm nT)).trans kT
 refine h _ ⟨λb o hb hbe z=>?_,λb o hb z=>?_,⟨_,_,_,_,he3,by simp[hz],nT,Ty9 hs.1.symm,hT3,rfl,h3⟩,λvs0 vs1 z1 z2=>?_⟩
 ·exact(Qv9 _ _ (Ne.symm hbe)).trans (ka _ _ ((hs.2.1 b hb).trans z))
 ·obtain⟨sl,z2⟩:=hs.2.2 b o z
  exact⟨sl,(Qv9 _ _ (show e≠b from λq=>hene (by rw[q];exact hb))).trans (ka _ _ z2)⟩
 ·rw[he3] at z2
  injection z2 with z2
  injection z2 with _ _ z2
  injection z2 with z2
  rw[hd] at z1
  injection z1 with z1
  rw[<-z2,<-z1]
  simp
variable{T:Addr}{oT:Obj}{ts:Array Value}
theorem zM(hfr:A.frames=some (env::outer))(hl:s.heap.FunFrames base (env::outer))(hf:env.frame=some L)(he:s.heap.get? e=some oe)(hd:oe.data=.fields vs)(h1:vs[1]?=some (.ref T))
  (hT:s.heap.get? T=some oT) (hdT:oT.data=.fields ts) (h3:3 < ts.size) (nTe:T≠e) (h0:Q () s)
  (h:∀h2 h',(∀b,b≠T->h2.get? b=s.heap.get? b)->h2.objs.size=s.heap.objs.size->aL6 (wH (env::outer)) e oe h2 h'->Q () { s with heap:=h' }) :
  wpAny M A (noteFrame (.ref e) env) Q E s:=by
 unfold noteFrame
 simp only[hf]
 refine cM (wpAny_field he hd h1 ?_)
 rw[gU (show(Value.ref T != Value.none)=true from by simp)]
 refine cM (wpAny_field hT hdT (x:=ts[3]) (by simp[h3]) ?_)
 by_cases q:(ts[3] == rawInt L)=true
 ·rw[gU q]
  exact jY h0
 ·rw[fQ q]
  refine cM (Sy9 hT hdT h3 ?_)
  have ot:∀b,b≠T->(s.heap.update T (Obj.mapFields (·.setIfInBounds 3 Value.none))).get? b=s.heap.get? b:=λb hb=>Qv9 _ _ (Ne.symm hb)
  refine aFi (base:=base) hfr (hl.of_keeps λb o z hnf=>⟨o,(ot b λq=>?_).trans z,rfl⟩) hf ((ot e (Ne.symm nTe)).trans he) hd (Rx9.mp h1).1 λh' lf=>h _ h' ot (Ts9 ..) lf
  rw[q,hT] at z
  cases z
  exact hnf ts hdT
theorem jO{fr:Option Addr}(he:s.heap.get? e=some oe)(hd:oe.data=.fields vs)(h1:vs[1]?=some (.ref T))(hT:s.heap.get? T=some oT)(hdT:oT.data=.fields ts)(h3:3 < ts.size)
  (h:∀h' x,(∀b,b≠T->h'.get? b=s.heap.get? b)->h'.objs.size=s.heap.objs.size->h'.get? T=some { oT with data:=.fields (ts.setIfInBounds 3 x) }->(fr=none->x=.none)->Q () { s with heap:=h' }) :
  wpAny M A (setFlight (.ref e) fr) Q E s:=by
 unfold setFlight
 refine cM (wpAny_field he hd h1 ?_)
 rw[gU (show(Value.ref T != Value.none)=true from by simp)]
 have em:∀x,Obj.mapFields (·.setIfInBounds 3 x) oT={ oT with data:=.fields (ts.setIfInBounds 3 x) }:=λx=>by
  obtain⟨c,di,dt,sl⟩:=oT
  cases hdT
  rfl
 refine Sy9 hT hdT h3 (h _ (fr.elim .none λf=>rawInt f) (λb hb=>Qv9 _ _ (Ne.symm hb)) (Ts9 ..) ?_ (λz=>by rw[z];rfl))
 rw[<-em]
 exact Rr9 _ hT (by rw[em];rfl)
end
section
variable{X:Cx}{pins:List (Addr×Obj)}{σ:St}{H:Hp}{s:Shared}{h':Heap}{C e T:Addr}{od:Option Addr}{oe:Obj}
theorem Inv.aH4(I:Inv X pins σ H s)(he:H e=some (fZ C od e))(ho:s.heap.get? e=some oe)(lf:aL6 (wH X.stack) e oe s.heap h'):Inv X pins σ H { s with heap:=h' }:=by
 obtain⟨o,vs,q1,q2,q3,q4⟩:=vR (I.hok e _ he)
 rw[ho] at q1
 cases q1
 have stk:=I.aAP
 obtain⟨vs2,T,oT,ts,r1,_⟩:=lf.err
 have tr:∀b u,H b=some u->b∉wH X.stack:=λb u z hb=>by rw[stk b hb] at z;cases z
 refine I.call (g':=s.gens) (d':=s.drawn) (t':=s.toks) (ch:=[]) ⟨λb o z n hb _=>lf.keep b o hb (λq=>by rw[q,he] at n;cases n) z,λb o z n hb _=>lf.slot b o hb z,λb o z n _=>n,λb o z _=>?_,λ_ _ z=>z,λ_ _ _ z=>z,λb ps z=>⟨#[],by rw[z];simp⟩⟩ (λa u z=>?_) I.bare (λb z=>nomatch z)
 ·by_cases hb:b∈wH X.stack
  ·obtain⟨sl,q⟩:=lf.slot b o hb z;exact⟨_,q⟩
  ·by_cases hbe:b=e
   ·subst hbe;exact⟨_,r1⟩
   ·exact⟨o,lf.keep b o hb hbe z⟩
 ·by_cases hae:a=e
  ·subst hae
   rw[he] at z
   cases z
   exact aAR r1 q2 q3 rfl λn=>(lf.ctx _ _ q4 r1).trans (aDc (I.hok _ _ he) ho q4 n)
  ·refine(I.hok a u z).aAB (λb v hb q=>?_) (λ_ q=>q) λ_ _ _ q=>q
   rcases hb with rfl|hb
   ·exact lf.keep _ v (tr _ _ z) hae q
   ·exact lf.keep _ v (tr _ _ hb) (λy=>by rw[y,he] at hb;cases hb) q
theorem Inv.aH5(I:Inv X pins σ H s)(hb:s.heap.objs.size<=T):xE X pins T:=by
 have nn:∀b o,s.heap.get? b=some o->b≠T:=λb o z w'=>absurd (kW z) (by rw[w'];exact Nat.not_lt.mpr hb)
 obtain⟨m,⟨oL,_,_,hoL,_⟩,_⟩:=id I.loc
 exact⟨wZ I.sz hb,(nn _ _ hoL).symm,λx c z=>by obtain⟨v,o,z2,_⟩:=I.cell x c z;exact nn _ _ z2,λp hp=>nn _ _ (I.pin p hp).1⟩
end
structure aFj(X:Cx)(pins:List (Addr×Obj))(H:Hp)(h:Heap)(e:Addr):Prop where
 ex:∃(C:Addr) (od:Option Addr) (oe:Obj) (vs:Array Value) (T:Addr) (oT:Obj) (ts:Array Value),H e=some (fZ C od e)/\h.get? e=some oe/\oe.data=.fields vs/\vs[1]?=some (.ref T)/\T≠e/\xE X pins T/\H T=none/\h.get? T=some oT/\oT.data=.fields ts/\3 < ts.size
def aH6(X:Cx)(pins:List (Addr×Obj))(W:TW)(ev:Value)(s':Shared):Prop:=∃(e:Addr) (σ:St) (H':Hp),ev=.ref e/\Inv X pins σ H' s'/\aFj X pins H' s'.heap e/\W σ H' e
def Cx.tr(X:Cx)(pins:List (Addr×Obj))(W:TW):Cx:={ X with pn:=X.pn++pins,xe:=aH6 X pins W }
def Cx.hnd(X:Cx)(e:Addr):Cx:={ X with A:=X.A.mark (some (.ref e)),calm:=false,xe:=λ_ _=>False }
section
variable{X:Cx}{pins pins':List (Addr×Obj)}{σ:St}{H:Hp}{s:Shared}{W:TW}{e:Addr}
theorem Cx.Ok.tr(ok:X.Ok):(X.tr pins W).Ok:=⟨ok.mod,ok.kind,ok.glob,ok.blt,ok.above,ok.inj,ok.has,ok.cab,ok.hd,ok.frames,ok.stk,ok.exf,ok.bs,ok.bsz,ok.noex,ok.exfs,ok.rO,ok.frf⟩
theorem Cx.Ok.aBg(ok:(X.tr pins W).Ok):X.Ok:=⟨ok.mod,ok.kind,ok.glob,ok.blt,ok.above,ok.inj,ok.has,ok.cab,ok.hd,ok.frames,ok.stk,ok.exf,ok.bs,ok.bsz,ok.noex,ok.exfs,ok.rO,ok.frf⟩
theorem Cx.Ok.hnd(ok:X.Ok):(X.hnd e).Ok:=⟨ok.mod,ok.kind,ok.glob,ok.blt,ok.above,ok.inj,ok.has,ok.cab,(λz=>Bool.noConfusion z),ok.frames,ok.stk,ok.exf,ok.bs,ok.bsz,ok.noex,ok.exfs,ok.rO,ok.frf⟩
theorem Inv.tr(I:Inv X pins σ H s):Inv (X.tr pins W) [] σ H s:=⟨I.ok.tr,I.os,I.bare,I.base,I.loc,I.cell,I.free,I.freeC,λp hp=>I.pin p (by rw[Ry9] at hp;exact hp),I.hok,I.len⟩
theorem Inv.aBg(I:Inv (X.tr pins W) pins' σ H s):Inv X pins σ H s:=⟨I.ok.aBg,I.os,I.bare,I.base,I.loc,I.cell,I.free,I.freeC,λp hp=>I.pin p (Ro9 _ hp),I.hok,I.len⟩
theorem Inv.hnd(I:Inv X pins σ H s):Inv (X.hnd e) pins σ H s:=⟨I.ok.hnd,I.os,I.bare,I.base,I.loc,I.cell,I.free,I.freeC,I.pin,I.hok,I.len⟩
theorem Inv.aFY(ok:X.Ok)(I:Inv (X.hnd e) pins σ H s):Inv X pins σ H s:=⟨ok,I.os,I.bare,I.base,I.loc,I.cell,I.free,I.freeC,I.pin,I.hok,I.len⟩
theorem SP.aBg{D:Ends}{f:Flow}{s':Shared}(h:SP (X.tr pins W) [] D f s'):SP X pins D f s':=by
 cases f with
 |next=>obtain⟨σ',H',I,q⟩:=h;exact⟨σ',H',I.aBg,q⟩
 |brk=>obtain⟨σ',H',I,q⟩:=h;exact⟨σ',H',I.aBg,q⟩
 |cont=>obtain⟨σ',H',I,q⟩:=h;exact⟨σ',H',I.aBg,q⟩
 |ret u=>obtain⟨v,σ',H',I,r,q⟩:=h;exact⟨v,σ',H',I.aBg,r,q⟩
theorem aCr{P:Program}{w:World}{E:XK}{ev:Value}{s':Shared}(hP:X.prog=P)(hw:X.w=w)(I:Inv X pins σ H s)(h:tR P w X.stack H s E ev s')(hE:∀e od H',E (.ref e) od H'->W σ H' e):aH6 X pins W ev s':=by
 subst hP hw
 obtain⟨e,C,od,H',oe,vs,T,oT,ts,rfl,os,bare,un,hok,he,ho,hd,h1,nT,sT,hT,g1,g2,g3,hq⟩:=h
 have I2:Inv X pins σ H' s':=I.aDM os un hok bare (λb z=>nomatch z)
 have nn:∀b o,s.heap.get? b=some o->b≠T:=λb o z w'=>absurd (kW z) (by rw[w'];exact Nat.not_lt.mpr sT)
 obtain⟨m,⟨oL,_,_,hoL,_⟩,_⟩:=id I.loc
 refine⟨e,σ,H',rfl,I2,⟨C,od,oe,vs,T,oT,ts,he,ho,hd,h1,nT,⟨wZ I.sz sT,(nn _ _ hoL).symm,λx c z=>?_,λp hp=>nn _ _ (I.pin p hp).1⟩,hT,g1,g2,(Rx9.mp g3).1⟩,hE e od H' hq⟩
 obtain⟨v,o,z2,_⟩:=I.cell x c z
 exact nn _ _ z2
theorem Inv.trace{T:Addr}{h':Heap}(I:Inv X pins σ H s)(F:xE X pins T)(hT:H T=none)(k:∀b,b≠T->h'.get? b=s.heap.get? b):Inv X pins σ H { s with heap:=h' }:=
 I.turned (t':=s.toks) (it:=T) (λb o hb z=>(k b hb).trans z) hT F.loc (.inr F.up) F.cell F.pin
theorem aGO{M:Model}{A:Around}{Ex:Value->Shared->Prop}{Q:Unit->Shared->Prop}{env:Env}{outer:List Env}{L:Addr}(hA:A.frames=some (env::outer))(hst:X.stack=env::outer)(hf:env.frame=some L)(I:Inv X pins σ H s)(F:aFj X pins H s.heap e)
  (h:∀s',Inv X pins σ H s'->aFj X pins H s'.heap e->Q () s') :
  wpAny M A (noteFrame (.ref e) env) (λ_ s2=>wpAny M A (setFlight (.ref e) none) Q Ex s2) Ex s:=by
 obtain⟨C,od,oe,vs,T,oT,ts,he,ho,hd,h1,nT,TF,hT,g1,g2,g3⟩:=F.ex
 refine zM (base:=X.base) hA (by rw[<-hst];exact I.stack) hf ho hd h1 g1 g2 g3 nT ?_ λh2 h' k2 sz2 lf=>?_
 ·exact jO ho hd h1 g1 g2 g3 λh' x k sz gT _=>h _ (I.trace TF hT k) ⟨C,od,oe,vs,T,_,_,he,(k e (Ne.symm nT)).trans ho,hd,h1,nT,TF,hT,gT,rfl,by rw[St9];exact g3⟩
 ·have I2:=I.trace TF hT k2
  have ho2:h2.get? e=some oe:=(k2 e (Ne.symm nT)).trans ho
  have I3:=I2.aH4 (s:={ s with heap:=h2 }) he ho2 (by rw[hst];exact lf)
  obtain⟨vs2,T2,oT2,ts2,r1,r2,r3,r4,r5,r6,r7⟩:=lf.err
  rw[sz2] at r4
  have TF2:xE X pins T2:=I.aH5 r4
  exact jO r1 rfl r2 r5 r6 r7 λh3 x k sz gT _=>h _ (I3.trace TF2 (I.hok.fresh r4) k) ⟨C,od,_,vs2,T2,_,_,he,(k e (Ne.symm r3)).trans r1,rfl,r2,r3,TF2,I.hok.fresh r4,gT,rfl,by rw[St9];exact r7⟩
theorem aCs{M:Model}{A:Around}{Ex:Value->Shared->Prop}{Q:Unit->Shared->Prop}(I:Inv X pins σ H s)(F:aFj X pins H s.heap e)(h:∀s',Inv X pins σ H s'->Q () s'):wpAny M A (setFlight (.ref e) none) Q Ex s:=by
 obtain⟨C,od,oe,vs,T,oT,ts,he,ho,hd,h1,nT,TF,hT,g1,g2,g3⟩:=F.ex
 refine wpAny_setFlight_none ho hd h1 g1 g2 g3 (h _ ?_)
 exact I.trace TF hT λb hb=>Qv9 _ _ (Ne.symm hb)
theorem name_goes{M:Model}{A:Around}{Ex:Value->Shared->Prop}{i:Nat}{n:Str}{pos:Pos}{Q:Unit->Shared->Prop}(I:Inv X pins σ H s)(hN:X.N.Nodup)(hi:X.N[i]?=some n)(hl:X.env.kindOf n=some .local)
  (h:∀s',Inv X pins (σ.set i none) H s'->Q () s'):wpAny M A (do bindName X.env n .none;unbindBehindTheSuite X.env n pos) Q Ex s:=by
 obtain⟨m,hn,hlk⟩:=id I.loc
 have hcls:(X.env.scope.kind == .class || (X.env.scope.kind == .module && X.env.locals != X.env.globals))=false:=by rw[I.ok.kind];rfl
 have cne:=I.cne
 refine wpAny_nameGoes_keeps hl hn hcls λh' v hn' hs=>?_
 have tr:∀b o,H b=some o->b≠X.env.locals:=λb o z w'=>by rw[w',I.free] at z;cases z
 refine h _ ⟨I.ok,I.os,I.bare,⟨λb o e n hb hx=>?_,λb o e n hb hx=>?_,I.base.free,λb o e hx=>?_,I.base.tups,I.base.frzs,I.base.tbls⟩,⟨_,hn',λj y v' e1 e2 e3=>?_⟩,λy c e=>?_,I.free,I.freeC,λp hp=>?_,λb ob z=>?_,by simpa using I.len⟩
 ·exact(hs.2 b (wG (xU (kW e) I.ok.above))).trans (I.base.keep b o e n hb hx)
 ·obtain⟨sl,e1⟩:=I.base.slot b o e n hb hx
  exact⟨sl,(hs.2 b (wG (xU (kW e) I.ok.above))).trans e1⟩
 ·obtain⟨o',e1⟩:=I.base.there b o e hx
  exact⟨o',(hs.2 b (wG (xU (kW e) I.ok.above))).trans e1⟩
 ·by_cases hj:j=i
  ·subst hj
   exfalso
   by_cases hjl:j < σ.length
   ·rw[Tm9 hjl] at e2;cases e2
   ·rw[Tq9 (by rw[List.length_set];exact Nat.not_lt.mp hjl)] at e2;cases e2
  ·rw[Tf9 (Ne.symm hj)] at e2
   obtain⟨u',r',q⟩:=hlk j y v' e1 e2 e3
   refine⟨u',r',?_⟩
   rcases q with ⟨k,e⟩|⟨k,c,e,z⟩
   ·refine .inl ⟨k,?_⟩
    have:y≠n:=λe=>hj (aA0 hN e1 (e▸hi))
    simp[this,e]
   ·exact .inr ⟨k,c,e,z.sameBut hs (cne y c e)⟩
 ·obtain⟨w',z⟩:=I.cell y c e
  exact⟨w',z.sameBut hs (cne y c e)⟩
 ·obtain⟨e,n,ne,nf,d⟩:=I.pin p hp
  exact⟨(hs.2 p.1 ne).trans e,n,ne,nf,d⟩
 ·refine(I.hok b ob z).aAB (λc v hc q=>(hs.2 c ?_).trans q) (λ_ q=>q) λ_ _ _ q=>q
  rcases hc with rfl|hc
  ·exact tr _ _ z
  ·exact tr _ _ hc
end
abbrev TH:=Ends->St->Hp->Addr->Prop
def PHs(X:Cx)(hs:List ExceptHandler)(th:TH):Prop:=∀(pins:List (Addr×Obj)) (s:Shared) (σ:St) (H:Hp) (D:Ends) (e:Addr),Inv X pins σ H s->aFj X pins H s.heap e->th D σ H e->wpAny (model X.prog X.w) X.A (handleBy (.ref e) X.env hs) (SP X pins D) X.xe s
def aNe:TH:=λ_ _ _ _=>False
def aL7(K:W.Frag)(C0:Addr)(i:Nat)(ts:TS)(th:TH):TH:=λD σ H e=>∃C od b,H e=some (fZ C od e)/\rD K C/\PySem.W.exmOne K (.ref C) (.ref C0)=some b/\
 if b=true then ts ⟨λσ' H'=>D.nx (σ'.set i none) H',D.rt,λσ' H'=>D.bk (σ'.set i none) H',λσ' H'=>D.ct (σ'.set i none) H'⟩ (σ.set i (some (.ref e))) H else th D σ H e
def aL8(tb:TW->TS)(th:TH):TS:=λD σ H=>tb (λσ' H' e=>th D σ' H' e) D σ H
section
variable{X:Cx}{x n:Str}{C0:Addr}{i:Nat}{b₀:Stmt}{suite body:List Stmt}{np pos:Pos}{rest:List ExceptHandler}{h₀:ExceptHandler}{hs:List ExceptHandler}{ts:TS}{th:TH}{tb:TW->TS}
theorem aNf:PHs X [] aNe:=λ_ _ _ _ _ _ _ _ h=>h.elim
theorem aNg(hg:Gl X x)(hm:X.mg x=some (.ref C0))(hN:X.N.Nodup)(hi:X.N[i]?=some n)(hl:X.env.scope.names.lookup n=some .local)(hs:∀e,PSs (X.hnd e) (b₀::suite) ts)(hr:PHs X rest th)(hdb:(x == ("__debug__" : Str))=false:=by decide) :
  PHs X (.ExceptHandler (some (.Name x np)) (some n) (b₀::suite) pos::rest) (aL7 X.K C0 i ts th):=by
 intro pins s σ H D e I F h
 obtain⟨C,od,b,he,Z,hx,q⟩:=h
 obtain⟨o,vs,g1,g2,g3,g4⟩:=vR (I.hok e _ he)
 have LT:PySem.W.Looks (model X.prog X.w) s.heap (typeOf (.ref e)) (.ref C):=by rw[<-g2];exact(PySem.W.Looks.ld g1).andThen .now
 refine wpAny_handleBy_cons (codeAny_handlers_test (nO (X:=X.hnd e) (I.hnd (e:=e)) hg hm ?_ hdb)) (by intro z;cases z)
 refine(PySem.W.exm_one I.rP LT hx).here ?_
 cases b with
 |false=>exact hr pins s σ H D e I F q
 |true=>
  refine codeAny_handlers_suite_as (aCs I F λs1 I1=>?_)
  refine aA1 (X:=X.hnd e) (i:=i) (v:=.ref e) (I1.hnd (e:=e)) hN hi (.inl hl) rfl (λs2 I2=>?_) (.inr hl)
  refine Rs9 (hs e pins s2 _ H _ I2 q) (λf s3 z=>?_) λ_ _ z=>z.elim
  cases f with
  |next=>obtain⟨σ',H',I3,q3⟩:=z;exact name_goes (I3.aFY I.ok) hN hi hl λs4 I4=>⟨_,_,I4,q3⟩
  |brk=>obtain⟨σ',H',I3,q3⟩:=z;exact name_goes (I3.aFY I.ok) hN hi hl λs4 I4=>⟨_,_,I4,q3⟩
  |cont=>obtain⟨σ',H',I3,q3⟩:=z;exact name_goes (I3.aFY I.ok) hN hi hl λs4 I4=>⟨_,_,I4,q3⟩
  |ret u=>obtain⟨v,σ',H',I3,r3,q3⟩:=z;exact name_goes (I3.aFY I.ok) hN hi hl λs4 I4=>⟨v,_,_,I4,r3,q3⟩
theorem aL9(hst:X.stack=X.env::X.outer)(hf:X.env.frame=some X.env.locals)(hb:∀pins W,PSs (X.tr pins W) body (tb W))(hh:PHs X (h₀::hs) th):PS X (.Try body (h₀::hs) [] [] pos) (aL8 tb th):=by
 intro pins s σ H D I h
 refine wpAny_Try_except (Rs9 (hb pins _ [] s σ H D I.tr h) (λf s1 z=>?_) λev s1 z=>?_)
 ·have z:=z.aBg
  cases f with
  |next=>exact wpAny_execs_nil z
  |brk=>exact z
  |cont=>exact z
  |ret u=>exact z
 ·obtain⟨e,σ',H',rfl,I1,F,q⟩:=z
  refine aGO (env:=X.env) (outer:=X.outer) (by rw[<-hst];exact I.ok.frames) hst hf I1 F λs2 I2 F2=>hh pins s2 σ' H' D e I2 F2 q
end
end L2
namespace L2
open PySem PySem.Spec PyProof.Rows
theorem pT.okE{P:Program}{w:World}{K:W.Frag}{mg:Str->Option Value}{base:Heap}{x qual:Str}{st:Stmt}{f:Addr}{fd:FuncData}{N ps:List Str}{k:Nat}{sp:Sp}(F:pT K x qual st f fd)(S:bK N ps (aH st))(len:∀vs H Q E,sp vs H Q E->vs.length=ps.length)
  (hbody:∀(cdv:Value) (A:Around) (outer:List Env) (s:Shared) (H:Hp) (vs:List V) (Q:VK) (E:XK),gS k (A.deeper (envOfC qual (aH st) s.heap.objs.size f cdv))->sp vs H Q E->
   ∃t,PSs (mQ (tR P w) P w K mg base N qual (aH st) f cdv A outer s H E) (bI st) t/\t { nx:=λ_ H'=>Q .non H',rt:=Q } (start N vs) H):cT P w K mg base (tR P w) (k+1) f fd ps sp:=by
 obtain⟨oc,od,kV,doc,pm,an,cdv,ct,osl,rfl,lk,hcd⟩:=F.ex
 exact aKt lk hcd S len λA outer s H vs Q E hr hsp=>hbody cdv A outer s H vs Q E hr hsp
def aFk(sp:Sp)(W:TW)(t:TA):TE:=λσ H Q=>t σ H λvs H1=>sp vs H1 Q (λev _ H'=>∃e,ev=.ref e/\W σ H' e)
def aFl(C:Addr)(sp:Sp)(W:TW)(t:TA):TE:=λσ H Q=>t σ H λvs H1=>∀x dx,H1 x=none->H1 dx=none->dx≠x->
 sp (.ref x::vs) (upd (upd H1 dx (.own x)) x (.ins C dx [])) (λv H2=>v=.non/\Q (.ref x) H2) (λev _ H'=>∃e,ev=.ref e/\W σ H' e)
section
variable{X:Cx}{pn:List (Addr×Obj)}{W:TW}{k:Nat}{f C:Addr}{fd:FuncData}{ps:List Str}{sp:Sp}{x:Str}{p pos:Pos}{e:Expr}{es:List Expr}{t:TA}
theorem aH7(F:cT X.prog X.w X.K X.mg X.base (tR X.prog X.w) k f fd ps sp)(hr:gS k X.A)(hg:Gl X x)(hm:X.mg x=some (.ref f))(hk:PySem.W.keepIn X.K (.ref f)=true)(hb:Binds X.K fd ps [])
  (ha:PA (X.tr pn W) (e::es) t) (hn:(e::es).all noStar=true) (hdb:(x == ("__debug__" : Str))=false:=by decide):PE (X.tr pn W) (.Call (.Name x p) (e::es) [] pos) (aFk sp W t):=by
 intro pins s σ H Q I h
 refine wpAny_Call_Name_kw (nO I hg hm ?_ hdb)
 refine PySem.W.callWith_K (h₀:=X.base) I.ok.mod.kin hk (dY (ha pos pins s σ H _ I h) λus s1 ⟨vs,H1,I1,r,q⟩=>⟨I1.rP,?_⟩) (bV (kA hn).1) (mS (kA hn).2)
 have hl:us.length=ps.length:=by rw[<-r.length];exact F.len _ _ _ _ q
 refine wpAny_call (codeAny_mono (F.run X.A X.stack s1 H1 ⟨us,[]⟩ us vs Q _ hr I1.aHp (by have:=hb s1 us I1.rP (by rw[Ry9];exact hl);rwa[Ry9] at this) r q) λr s' hq=>?_)
 cases r with
 |error ev=>exact aCr (E:=λev _ H'=>∃e,ev=Value.ref e/\W σ H' e) rfl rfl I1.aBg hq λe od H' z=>by obtain⟨e',z1,z2⟩:=z;cases z1;exact z2
 |ok fl=>
  cases fl with
  |ret u=>exact I1.after hq
  |next=>exact False.elim hq
  |brk=>exact False.elim hq
  |cont=>exact False.elim hq
theorem aH8(M:Mk X.K C f)(F:cT X.prog X.w X.K X.mg X.base (tR X.prog X.w) k f fd ps sp)(hr:gS (k+1) X.A)(hg:Gl X x)(hm:X.mg x=some (.ref C))(hb:Binds X.K fd ps [])
  (ha:PA (X.tr pn W) (e::es) t) (hn:(e::es).all noStar=true) (hdb:(x == ("__debug__" : Str))=false:=by decide):PE (X.tr pn W) (.Call (.Name x p) (e::es) [] pos) (aFl C sp W t):=by
 intro pins s σ H Q I h
 refine wpAny_Call_Name_kw (nO I hg hm ?_ hdb)
 refine PySem.W.callWith_K (h₀:=X.base) I.ok.mod.kin M.kp (dY (ha pos pins s σ H _ I h) λus s1 ⟨vs,H1,I1,r,q⟩=>⟨I1.rP,?_⟩) (bV (kA hn).1) (mS (kA hn).2)
 have hq:=q (s1.heap.objs.size+1) s1.heap.objs.size (I1.hok.fresh (Tv9 _)) (I1.hok.fresh (iI _)) (wG (Se9 _))
 have I2:=Inv.made (C:=C) I1
 have r2:Vals (V.ref (s1.heap.objs.size+1)::vs) (Value.ref (s1.heap.objs.size+1)::us):=.cons rfl r
 have hl:(Value.ref (s1.heap.objs.size+1)::us).length=ps.length:=by
  rw[<-r2.length];exact F.len _ _ _ _ hq
 refine wpAny_call (aDO (f:=f) I1.rP M.makes M.init (beq_iff_eq.mp M.fn) (codeAny_mono (F.run _ X.stack _ _ ⟨Value.ref (s1.heap.objs.size+1)::us,[]⟩ (Value.ref (s1.heap.objs.size+1)::us) _ _ _ (hr.make C us [])
  (I2.aHp.make C us []) (by have:=hb _ (Value.ref (s1.heap.objs.size+1)::us) I2.rP (by rw[Ry9];exact hl);rwa[Ry9] at this) r2 hq) λr s' hq'=>?_))
 cases r with
 |error ev=>exact aCr (E:=λev _ H'=>∃e,ev=Value.ref e/\W σ H' e) rfl rfl I2.aBg hq' λe od H' z=>by obtain⟨e',z1,z2⟩:=z;cases z1;exact z2
 |ok fl=>
  cases fl with
  |ret u=>
   obtain⟨v,H',I3,rv,ev,q3⟩:=I2.after hq'
   subst ev
   exact⟨rv,⟨V.ref (s1.heap.objs.size+1),H',I3,rfl,q3⟩⟩
  |next=>exact False.elim hq'
  |brk=>exact False.elim hq'
  |cont=>exact False.elim hq'
end
structure aNh(k:Nat)(A:Around):Prop where
 dp:A.depth+3*k+5 < recursionLimit
 un:A.units+16*k+200 < cLine
theorem gS.h{k:Nat}(r:gS k A):aNh k A:=⟨r.dp,r.un⟩
section
variable{X:Cx}{k:Nat}{f:Addr}{fd:FuncData}{ps:List Str}{sp:Sp}{x:Str}{p pos:Pos}{e:Expr}{es:List Expr}{t:TA}
end
end L2
namespace L2
open PySem PySem.Spec PyProof.Rows
theorem aFZ{X:Cx}:Passes (tR X.prog X.w) X E0:=λ_ _ _ _ _ _ _ ⟨_,_,_,_,_,_,_,_,_,_,_,_,_,_,_,_,_,_,_,_,_,_,_,_,h⟩=>h.elim
section
variable{K:W.Frag}{σ:St}{H:Hp}{Q:VK}{nx bk ct:St->Hp->Prop}{rt:VK}
theorem aMa{C:Addr}{sp:Sp}{t:TA}(h:t σ H λvs H1=>∀x,H1 x=none->sp (.ref x::vs) (upd H1 x (iK C none x)) (λv H2=>v=.non/\Q (.ref x) H2) E0):aL2 C sp t σ H Q:=h
theorem aJ1{C:Addr}(h:∀x,H x=none->Q (.ref x) (upd H x (iK C none x))):aFT C σ H Q:=h
theorem aH9{E:XK}{te:TE}(h:te σ H λv H1=>∃e C od,v=.ref e/\H1 e=some (iK C od e)/\rD K C/\E (.ref e) od (upd H1 e (fZ C od e))):aFg K E te ⟨nx,rt,bk,ct⟩ σ H:=h
theorem aJ2{ta tv:TE}{f:Str}(h:tv σ H λy H1=>ta σ H1 λx H2=>∃a C,x=.ref a/\H2 a=some (iK C none a)/\rD K C/\aFV K C f/\∀dx,H2 dx=none->dx≠a->nx σ (upd (upd H2 dx (.xd [(f,y)])) a (iK C (some dx) a))):aL4 K ta tv f ⟨nx,rt,bk,ct⟩ σ H:=h
theorem aMb{tb:TW->TS}{th:TH}(h:tb (λσ' H' e=>th ⟨nx,rt,bk,ct⟩ σ' H' e) ⟨nx,rt,bk,ct⟩ σ H):aL8 tb th ⟨nx,rt,bk,ct⟩ σ H:=h
theorem aIa{sp:Sp}{W:TW}{t:TA}(h:t σ H λvs H1=>sp vs H1 Q (λev _ H'=>∃e,ev=.ref e/\W σ H' e)):aFk sp W t σ H Q:=h
theorem aIb{C:Addr}{sp:Sp}{W:TW}{t:TA}(h:t σ H λvs H1=>∀x dx,H1 x=none->H1 dx=none->dx≠x->sp (.ref x::vs) (upd (upd H1 dx (.own x)) x (.ins C dx [])) (λv H2=>v=.non/\Q (.ref x) H2) (λev _ H'=>∃e,ev=.ref e/\W σ H' e)):aFl C sp W t σ H Q:=h
theorem aJ3{C0 C e:Addr}{od:Option Addr}{i:Nat}{ts:TS}{th:TH}(he:H e=some (fZ C od e))(Z:rD K C)(hx:PySem.W.exmOne K (.ref C) (.ref C0)=some true)
  (h:ts ⟨λσ' H'=>nx (σ'.set i none) H',rt,λσ' H'=>bk (σ'.set i none) H',λσ' H'=>ct (σ'.set i none) H'⟩ (σ.set i (some (.ref e))) H):aL7 K C0 i ts th ⟨nx,rt,bk,ct⟩ σ H e:=⟨C,od,true,he,Z,hx,aHz h⟩
end
end L2
namespace L2.Z
open PySem PySem.Spec PyProof.Rows L2
structure QHs(X:Cx)(hs:List ExceptHandler)(th:TH):Prop where
 h:PHs X hs th
section
variable{X:Cx}{K':PySem.W.Frag}{pn:List (Addr×Obj)}{W:TW}{k:Nat}{f C C0:Addr}{fd:FuncData}{ps:List Str}{sp:Sp}{x n:Str}{p pos pos' np:Pos}{e o:Expr}{es:List Expr}{t:TA}{te ta:TE}{E:XK}{i:Nat}{b₀:Stmt}{suite body:List Stmt}{rest hs:List ExceptHandler}{h₀:ExceptHandler}{ts:TS}{th:TH}{tb:TW->TS}
theorem zN(Z:rD X.K C)(hi:PySem.W.findIn X.K (.ref C) "__init__" = some (some (.ref f)))(hf:PySem.W.isFn X.K (.ref f)=true)(F:cT X.prog X.w X.K X.mg X.base tZ k f fd ps sp)(hr:gS (k+1) X.A)(hg:Gl X x)(hm:X.mg x=some (.ref C))(hb:Binds X.K fd ps [])
  (ha:QA X (e::es) t) (hlen:ps.length<=1000:=by decide) (hn:(e::es).all noStar=true:=by rfl) (hdb:(x == ("__debug__" : Str))=false:=by decide):QE X (.Call (.Name x p) (e::es) [] pos) (aL2 C sp t):=
 ⟨L2.aL3 Z hi hf F hr hg hm hb ha.h hlen hdb (bV (kA hn).1) (mS (kA hn).2)⟩
theorem fR(q:PySem.W.excIn X.K C aAi "ValueError.__new__" = true)(hk:PySem.W.keepIn X.K (.ref C)=true)(hg:Gl X x)(hm:X.mg x=some (.ref C))(hdb:(x == ("__debug__" : Str))=false:=by decide):QE X (.Call (.Name x p) [] [] pos) (aFT C):=⟨L2.aJZ q hk hg hm hdb⟩
theorem dH(hx:Raises X E)(hc:X.calm=true)(he:QE X e te)(hK:X.K=K':=by rfl):QS X (.Raise (some e) none pos) (aFg K' E te):=by subst hK;exact⟨L2.aH2 hx hc he.h⟩
theorem aFm(ha:QE X o ta)(hv:QE X e te)(hs:swapsWith e (some (.Attribute o n pos')) pos.line X.env=pure false)(hK:X.K=K':=by rfl):QS X (.Assign [.Attribute o n pos'] e pos) (aL4 K' ta te n):=by subst hK;exact⟨L2.aJ0 ha.h hv.h hs⟩
theorem aIc:QHs X [] aNe:=⟨L2.aNf⟩
theorem aIe(hg:Gl X x)(hm:X.mg x=some (.ref C0))(hN:X.N.Nodup)(hi:X.N[i]?=some n)(hl:X.env.scope.names.lookup n=some .local)(hs:∀e,QSs (X.hnd e) (b₀::suite) ts)(hr:QHs X rest th)(hdb:(x == ("__debug__" : Str))=false:=by decide)(hK:X.K=K':=by rfl) :
  QHs X (.ExceptHandler (some (.Name x np)) (some n) (b₀::suite) pos::rest) (aL7 K' C0 i ts th):=by subst hK;exact⟨L2.aNg hg hm hN hi hl (λe=>(hs e).h) hr.h hdb⟩
theorem aCt(hst:X.stack=X.env::X.outer)(hf:X.env.frame=some X.env.locals)(hb:∀pins W,QSs (X.tr pins W) body (tb W))(hh:QHs X (h₀::hs) th):QS X (.Try body (h₀::hs) [] [] pos) (aL8 tb th):=⟨L2.aL9 hst hf (λpins W=>(hb pins W).h) hh.h⟩
theorem uK(F:cT X.prog X.w X.K X.mg X.base (tR X.prog X.w) k f fd ps sp)(hr:gS k X.A)(hg:Gl X x)(hm:X.mg x=some (.ref f))(hk:PySem.W.keepIn X.K (.ref f)=true)(hb:Binds X.K fd ps [])
  (ha:QA (X.tr pn W) (e::es) t) (hn:(e::es).all noStar=true:=by rfl) (hdb:(x == ("__debug__" : Str))=false:=by decide):QE (X.tr pn W) (.Call (.Name x p) (e::es) [] pos) (aFk sp W t):=⟨L2.aH7 F hr hg hm hk hb ha.h hn hdb⟩
theorem aD2(M:Mk X.K C f)(F:cT X.prog X.w X.K X.mg X.base (tR X.prog X.w) k f fd ps sp)(hr:gS (k+1) X.A)(hg:Gl X x)(hm:X.mg x=some (.ref C))(hb:Binds X.K fd ps [])
  (ha:QA (X.tr pn W) (e::es) t) (hn:(e::es).all noStar=true:=by rfl) (hdb:(x == ("__debug__" : Str))=false:=by decide):QE (X.tr pn W) (.Call (.Name x p) (e::es) [] pos) (aFl C sp W t):=⟨L2.aH8 M F hr hg hm hb ha.h hn hdb⟩
end
end L2.Z
namespace L2
open PySem PySem.Spec PyProof.Rows
section
variable{X:Cx}
end
theorem aD3{K:W.Frag}{H:Hp}{n:Nat}{p q:Addr}{xs:List V}(h:(bQ K H p xs/\bQ K H q xs)\/(mY K H p xs/\mY K H q xs))(hf:∀x∈xs,eF x=true):EqN K H (n+1) (.ref p) (.ref q) true:=by
 refine .inr ⟨p,q,xs,xs,λ_=>true,rfl,rfl,h,λj u v hu hv=>?_,?_⟩
 ·rw[hu] at hv
  cases hv
  have f:=hf u (v9 hu)
  have z:eF u=true/\eF u=true/\(λ_:Nat=>true) j=eqV u u:=⟨f,f,(x8 f).symm⟩
  cases n with
  |zero=>exact z
  |succ n=>exact .inl z
 ·simp
end L2
namespace L2
open PySem PySem.Spec PyProof.Rows
theorem rE{P:Program}{w:World}{K:W.Frag}{mg:Str->Option Value}{base:Heap}{N:List Str}{qual:Str}{scope:Scope}{f:Addr}{cd:Value}{A:Around}{outer:List Env}{s:Shared}{H:Hp}{E:XK} :
  Passes (tR P w) (mQ (tR P w) P w K mg base N qual scope f cd A outer s H E) E:=by
 intro pins σ H1 s1 ev s2 I h
 obtain⟨e,C,od,H2,oe,vs,T,oT,ts,rfl,os,bare,un,hok,he,ho,hd,h1,nT,sT,hT,g1,g2,g3,hq⟩:=h
 have I2:Inv (mQ (tR P w) P w K mg base N qual scope f cd A outer s H E) pins σ H2 s2:=I.aDM os un hok bare (λb z=>nomatch z)
 have nn:∀b o,s1.heap.get? b=some o->b≠T:=λb o z w'=>absurd (kW z) (by rw[w'];exact Nat.not_lt.mpr sT)
 obtain⟨m,⟨oL,_,_,hoL,_⟩,_⟩:=id I.loc
 have TF:xE (mQ (tR P w) P w K mg base N qual scope f cd A outer s H E) pins T:=⟨wZ I.sz sT,(nn _ _ hoL).symm,λx c z=>by obtain⟨v,o,z2,_⟩:=I.cell x c z;exact nn _ _ z2,λp hp=>nn _ _ (I.pin p hp).1⟩
 refine cM (aH0 (base:=base) I2.ok.frames I2.stack rfl ho hd h1 g1 g2 g3 nT λh2 h' k2 sz2 lf=>?_)
 have I3:=I2.trace TF hT k2
 have ho2:h2.get? e=some oe:=(k2 e (Ne.symm nT)).trans ho
 have I4:=I3.left (s:={ s2 with heap:=h2 }) he ho2 lf
 obtain⟨vs2,T2,oT2,ts2,r1,r2,r3,r4,r5,r6,r7⟩:=lf.err
 rw[sz2] at r4
 exact⟨e,C,od,H2,_,_,T2,oT2,ts2,rfl,I4.os,I4.bare,I4.base,I4.hok,he,r1,rfl,r2,r3,wZ I2.sz r4,I2.hok.fresh r4,r5,r6,r7,hq⟩
end L2
namespace L2
open PySem PySem.Spec PyProof.Rows
section
variable{X:Cx}{o e:Expr}{to:TE}{t:TA}{apos cpos:Pos}
end
end L2
namespace L2.Z
open PySem PySem.Spec PyProof.Rows L2
end L2.Z
namespace L2
open PySem PySem.Spec PyProof.Rows
section
open PySem.SeqAt
open PySem.AutoSeq1 (wpAny_loadPart')
open PySem.MeetsSeq PySem.MeetsSeq2 PySem.MeetsSeq3
end
section
variable{X:Cx}
end
end L2
namespace L2
open PySem PySem.Spec PyProof.Rows
theorem aCu:∀l:List (Str×Tok),Vals ((l.map (·.1)).map V.str) (strValues l)
 |[]=>.nil
 |p::r=>.cons ⟨p.2,rfl⟩ (aCu r)
theorem aCv:∀{ws:List Str}{us:List Value},Vals (ws.map V.str) us->∃l:List (Str×Tok),us=strValues l/\l.map (·.1)=ws
 |[],_,.nil=>⟨[],rfl,rfl⟩
 |w::ws,_,.cons r t=>by
  obtain⟨k,rfl⟩:=r
  obtain⟨l,rfl,e⟩:=aCv t
  exact⟨(w,k)::l,rfl,by rw[Sn9,e]⟩
section
variable{X:Cx}
def aFn:V->List V->Hp->VK->Prop:=λx vs H Q=>∃(z y:Str),x=.str z/\vs=[.str y]/\(y.length == 0)=false/\z.length<=sizeLine/\(Txt.split z y).length<=sizeLine/\∀p,H p=none->Q (.ref p) (upd H p (.lst ((Txt.split z y).map V.str)))
theorem aIf:MtM X "str.split" aFn:=by
 intro pins s σ H x vs v us Q I rx rv h
 obtain⟨z,y,rfl,rfl,hy,hz,hn,q⟩:=h
 obtain⟨t,rfl⟩:=rx
 obtain⟨u,rfl,ru⟩:=rv.one
 obtain⟨t2,rfl⟩:=ru
 have fr:H s.heap.objs.size=none:=I.hok.fresh (iI _)
 have fin:∀(l:List (Str×Tok)) (k:Nat),l.map (·.1)=Txt.split z y->EP X pins σ Q (.ref s.heap.objs.size) { s with heap:=s.heap.push { cls:=.type "list",data:=.seq (strValues l).toArray },toks:=k }:=λl k e=>by
  refine⟨.ref s.heap.objs.size,_,I.aLo (its:=strValues l) (ys:=(Txt.split z y).map V.str) (by rw[<-e];exact aCu l) (by rw[cC];exact hn),rfl,q _ fr⟩
 cases h1:(decide (z.length < y.length) || decide (Builtin.Str.strKind z < Builtin.Str.strKind y))
 ·cases hf:(Builtin.Str.occurrences z y 0 z.length (z.length+1)).isEmpty
  ·have e:Txt.split z y=Builtin.Str.partsBetween z (Builtin.Str.occurrences z y 0 z.length (z.length+1)) y.length:=(fQ (ne_true_of_eq_false h1)).trans (fQ (ne_true_of_eq_false hf))
   refine call_meets PySem.F.slot_str_split (typeIs_str _ _ _) PySem.F.entry_str_split (PySem.F.args_str_split_2 _ _) (PySem.meets_str_split_sep z y t t2 h1 hy hf hz (by rw[<-e];exact hn)) ?_
   have w:=fin (numbered s.toks (Txt.split z y)) (s.toks+(Txt.split z y).length) (numbered_texts _ _)
   rw[<-strsFrom_eq,e] at w
   exact w
  ·exact call_meets PySem.F.slot_str_split (typeIs_str _ _ _) PySem.F.entry_str_split (PySem.F.args_str_split_2 _ _) (PySem.meets_str_split_not_found z y t t2 h1 hy hf)
    (fin [(z,t)] s.toks ((fQ (ne_true_of_eq_false h1)).trans (gU hf)).symm)
 ·exact call_meets PySem.F.slot_str_split (typeIs_str _ _ _) PySem.F.entry_str_split (PySem.F.args_str_split_2 _ _) (PySem.meets_str_split_cannot_occur z y t t2 h1)
   (fin [(z,t)] s.toks (gU h1).symm)
def rJoin(K:W.Frag):V->List V->Hp->VK->Prop:=λx vs H Q=>∃(z:Str) (p:Addr) (ws:List Str),x=.str z/\vs=[.ref p]/\bQ K H p (ws.map V.str)/\JoinOk z ws=true/\Q (.str (Txt.join z ws)) H
theorem aJ4:MtM X "str.join" (rJoin X.K):=by
 intro pins s σ H x vs v us Q I rx rv h
 obtain⟨z,p,ws,rfl,rfl,hp,hj,q⟩:=h
 obtain⟨t,rfl⟩:=rx
 obtain⟨u,rfl,ru⟩:=rv.one
 cases ru
 obtain⟨its,r,pl,hz⟩:=I.list hp
 obtain⟨l,rfl,e⟩:=aCv r
 exact PySem.SC.join pl.isList e hj λt' k=>⟨.str _,H,I.tok _,⟨t',rfl⟩,q⟩
def aIg:List V->Hp->VK->Prop:=λxs H Q=>∃(z:Str) (n:Int),xs=[.str z]/\PySem.intText? z=some n/\z.length<=640/\Q (.int n) H
theorem aCw:eR X (.type "int") aIg:=by
 intro pins s σ H xs us Q I r h
 obtain⟨z,n,rfl,hn,hz,q⟩:=h
 obtain⟨u,rfl,t,rfl⟩:=vals1 r
 exact PySem.W.KIN.call_text hn hz ⟨.int n,H,I.tok _,⟨_,rfl⟩,q⟩
def aDe:V->List V->Hp->VK->Prop:=λx vs H Q=>∃(z y:Str),x=.str z/\vs=[.str y]/\Q (.bl (Txt.startswith z y)) H
theorem aGP:MtM X "str.startswith" aDe:=by
 intro pins s σ H x vs v us Q I rx rv h
 obtain⟨z,y,rfl,rfl,q⟩:=h
 obtain⟨t,rfl⟩:=rx
 obtain⟨u,rfl,ru⟩:=rv.one
 obtain⟨t2,rfl⟩:=ru
 exact PySem.SC.startswith ⟨.bl _,H,I,rfl,q⟩
section
variable{o e:Expr}{to:TE}{t:TA}{apos cpos:Pos}
theorem aIh(ho:PE X o to)(ha:PA X [e] t)(hn:noStar e=true:=by rfl)(hbase:attributeBase o "split" X.env (eval o X.env)=eval o X.env:=by rfl)(hline:(apos.endLine == cpos.line)=true:=by rfl) :
  PE X (.Call (.Attribute o "split" apos) [e] [] cpos) (tBM X.K "str" aFn to t):=
 aDS PySem.F.plainAttrs_str PySem.F.slot_str_split PySem.F.type_str_split aIf ho ha hbase (by rw[bV hn];rfl) hline (bV hn) (by rfl)
theorem aJ5(ho:PE X o to)(ha:PA X [e] t)(hn:noStar e=true:=by rfl)(hbase:attributeBase o "join" X.env (eval o X.env)=eval o X.env:=by rfl)(hline:(apos.endLine == cpos.line)=true:=by rfl) :
  PE X (.Call (.Attribute o "join" apos) [e] [] cpos) (tBM X.K "str" (rJoin X.K) to t):=
 aDS PySem.F.plainAttrs_str PySem.F.slot_str_join PySem.F.type_str_join aJ4 ho ha hbase (by rw[bV hn];rfl) hline (bV hn) (by rfl)
theorem aGQ(ho:PE X o to)(ha:PA X [e] t)(hn:noStar e=true:=by rfl)(hbase:attributeBase o "startswith" X.env (eval o X.env)=eval o X.env:=by rfl)(hline:(apos.endLine == cpos.line)=true:=by rfl) :
  PE X (.Call (.Attribute o "startswith" apos) [e] [] cpos) (tBM X.K "str" aDe to t):=
 aDS PySem.F.plainAttrs_str PySem.F.slot_str_startswith PySem.F.type_str_startswith aGP ho ha hbase (by rw[bV hn];rfl) hline (bV hn) (by rfl)
end
end
end L2
namespace L2
open PySem PySem.Spec PyProof.Rows
def ItS(z:Str):It:=⟨λi _=>i < z.cps.size,λi H x H'=>H'=H/\∃c,z.cps[i]?=some c/\x=.str ⟨#[c]⟩,λi _=>z.cps.size<=i⟩
theorem aIi{P:Program}{w:World}{K:PySem.W.Frag}{tg:Expr}(it:Addr)(z:Str)(t:Tok):Turn P w K tg (ItS z) [it] it (λi h=>h.IsStrIter it "str_ascii_iterator" z t i) where
 mem:=by simp
 obj:=λi h st b hb=>by
  have e:b=it:=by simpa using hb
  subst e
  obtain⟨u,e,c,q⟩:=st
  exact⟨u,e,λv z=>by rw[q] at z;cases z⟩
 keep:=λi h h' st k=>by
  obtain⟨u,e,r⟩:=st
  exact⟨u,k it (by simp) u e,r⟩
 item:=by
  intro X hP hw hK hc i pins s σ H E I hf st hg
  subst hP hw hK
  have hi:i < z.cps.size:=hg
  obtain⟨f0,f1,f2,f3,f4,f5⟩:=hf it (by simp)
  have hx:z.cps[i]?=some z.cps[i]:=Array.getElem?_eq_getElem hi
  refine wpAny_pyNext_ascii_item st hx λh' st' sb=>?_
  have I1:Inv X pins σ H { s with heap:=h',toks:=s.toks+1 }:=I.turned (t':=s.toks+1) (λb u hb e=>(sb.2 b hb).trans e) f0 f1 f3 f4 f5
  obtain⟨u,e',c',d'⟩:=id st'
  exact⟨_,rfl,aFH (s:={ s with heap:=h',toks:=s.toks+1 }) e' c' d' (by decide) ⟨.str ⟨#[z.cps[i]]⟩,H,I1,⟨_,rfl⟩,⟨rfl,_,hx,rfl⟩,st',λb hb=>(hf b hb).1⟩⟩
 done:=by
  intro X hP hw hK hc i pins s σ H E I hf st hg
  subst hP hw hK
  have hi:z.cps.size<=i:=hg
  obtain⟨f0,f1,f2,f3,f4,f5⟩:=hf it (by simp)
  exact wpAny_pyNext_ascii_end (I.ok.hd hc) st (Array.getElem?_eq_none hi) λh' eb=>⟨rfl,I.turned (t':=s.toks) (λb u hb e=>eb b u hb e) f0 f1 f3 f4 f5⟩
 self:=λ_ _ _ _ _ st h=>wpAny_pyIter_striter_ascii st h
section
variable{X:Cx}{tg:Expr}
def SzQ(R:It->Hp->Prop):V->Hp->Prop:=λx H1=>∃z:Str,x=.str z/\z.cps.all (·< 128)=true/\R (ItS z) H1
def aMc(tl:TE):TI:=λσ H R=>tl σ H (SzQ R)
theorem aMd{l:Expr}{tl:TE}(hl:PE X l tl):PI X tg l (aMc tl):=by
 intro pins s σ H R I h
 refine dY (hl pins s σ H _ I h) λv s1 ⟨x,H1,I1,r1,q1⟩=>?_
 obtain⟨z,e,ha,q⟩:=q1
 subst e
 obtain⟨t,rfl⟩:=r1
 refine wpAny_pyIter_ascii ha ?_
 refine⟨s1.heap.objs.size,[s1.heap.objs.size],_,_,_,rfl,I1.kept (t':=s1.toks) λb u e=>vG _ e,aIi _ z t,⟨_,Qz9 _ rfl,rfl,rfl⟩,λb hb=>?_,q⟩
 have e:b=s1.heap.objs.size:=by simpa using hb
 subst e
 exact I1.aEO (iI _) (I1.hok.fresh (iI _))
end
section
variable{σ:St}{H:Hp}
theorem aJ6{tl:TE}{R:It->Hp->Prop}(h:tl σ H (SzQ R)):aMc tl σ H R:=h
theorem aIj{z:Str}{σ₀:St}{g:TG}{tt:TT}{te:TE}{R:List V->Hp->Prop}(Pv:Nat->List V->Hp->Prop)(h0:Pv 0 [] H)(hz:z.cps.size<=sizeLine)
  (hl:∀i ys H,i<=z.cps.size->Pv i ys H->ys.length<=i)
  (hs:∀i c ys H,z.cps[i]?=some c->Pv i ys H->g (.str ⟨#[c]⟩) σ₀ H λσ2 H2=>tt σ2 H2 λb H3=>if b=true then te σ2 H3 λy H4=>Pv (i+1) (ys ++ [y]) H4 else Pv (i+1) ys H3)
  (hd:∀ys H,Pv z.cps.size ys H->R ys H):uE (ItS z) σ₀ g tt te R H:=by
 refine⟨λi m ys H=>m=z.cps.size - i/\i<=z.cps.size/\Pv i ys H,⟨z.cps.size,by simp,Sp9 _,h0⟩,?_⟩
 rintro i m ys H ⟨rfl,hi,p⟩
 have ql:=hl i ys H hi p
 refine⟨by omega,?_⟩
 by_cases hlt:i < z.cps.size
 ·refine .inr ⟨hlt,Pv (i+1),λys' H' p'=>⟨z.cps.size - (i+1),by omega,rfl,hlt,p'⟩,λx H' y=>?_⟩
  obtain⟨e,c,hc,e2⟩:=y
  subst e e2
  exact hs i c ys _ hc p
 ·have e:i=z.cps.size:=by omega
  subst e
  exact .inl ⟨iI _,hd ys H p⟩
end
end L2
namespace L2
open PySem PySem.Spec PyProof.Rows
section
variable{X:Cx}
theorem part_of{v:Value}{p:Option Int}(h:IsPart v p):∃l:Option (Int×Tok),v=partValue l/\l.map (·.1)=p:=by
 cases h with
 |none=>exact⟨none,rfl,rfl⟩
 |int i t=>exact⟨some (i,t),rfl,rfl⟩
def zO:V->Option Int->Option Int->Hp->VK->Prop:=λx lo hi H Q=>∃z:Str,x=.str z/\(StrLaws.sliceText z lo hi).length<=sizeLine/\Q (.str (StrLaws.sliceText z lo hi)) H
theorem nF:SlR X zO:=by
 intro pins s σ H x v vl vu lo hi sl Q I rx hs pl pu h
 obtain⟨z,rfl,hz,q⟩:=h
 obtain⟨t,rfl⟩:=rx
 obtain⟨l,rfl,e1⟩:=part_of pl
 obtain⟨u,rfl,e2⟩:=part_of pu
 obtain⟨o,ho,hc,hd⟩:=id hs
 refine⟨"str",_,PySem.F.slot_str_getitem.lookup,typeIs_str _ _ _,wpAny_getItem_str_slice (l:=l) (u:=u) (st:=none) ⟨o,ho,hc,hd⟩ rfl ?_⟩
 subst e1 e2
 unfold sliceMade
 by_cases c:(((none:Option (Int×Tok)).map (·.1)).getD 1 == 1 && (slicePicked z l u none).length == z.length)=true
 ·rw[gU c]
  have e:StrLaws.sliceText z (l.map (·.1)) (u.map (·.1))=z:=gU c
  rw[e] at q
  exact⟨.str z,H,I,⟨t,rfl⟩,q⟩
 ·rw[fQ c]
  have e:StrLaws.sliceText z (l.map (·.1)) (u.map (·.1))=⟨((slicePicked z l u none).filterMap (z.cps[·]?)).toArray⟩:=fQ c
  rw[e] at q hz
  exact⟨hz,⟨.str _,H,I.tok _,⟨_,rfl⟩,q⟩⟩
end
end L2
namespace L2
open PySem PySem.Spec PyProof.Rows
section
variable{X:Cx}
def iZ:R2:=λx y H Q=>∃i j:Str,x=.str i/\y=.str j/\i.length+j.length<=sizeLine/\Q (.str (i++j)) H
theorem dO:pU X (binaryOp .Add) iZ:=aET
def yD:List V->Hp->VK->Prop:=λxs H Q=>∃i:Int,xs=[.int i]/\i.natAbs.log2 < 1920/\Q (.str (toString i)) H
theorem jR:eR X (.type "str") yD:=aCT
def aNi:R2:=λx y H Q=>∃i j:Str,x=.str i/\y=.str j/\Q (.bl (!(Builtin.Str.occurrences j i 0 j.length 1).isEmpty)) H
theorem aMe:pU X (compareOp .In) aNi:=aGp
def aAj:List V->Hp->VK->Prop:=λxs H Q=>∃z:Str,xs=[.str z]/\z.length<=sizeLine/\Q (.int z.length) H
theorem lD:eR X (.builtin "len") aAj:=aC3
end
end L2
namespace L2.Z
open PySem PySem.Spec PyProof.Rows L2
section
variable{X:Cx}{K':W.Frag}{o e l tg:Expr}{to tl:TE}{t:TA}{apos cpos:Pos}
theorem dF(ho:QE X o to)(ha:QA X [e] t)(hn:noStar e=true:=by rfl)(hbase:attributeBase o "split" X.env (eval o X.env)=eval o X.env:=by rfl)(hline:(apos.endLine == cpos.line)=true:=by rfl)(hK:X.K=K':=by rfl) :
  QE X (.Call (.Attribute o "split" apos) [e] [] cpos) (tBM K' "str" aFn to t):=by subst hK;exact⟨L2.aIh ho.h ha.h hn hbase hline⟩
theorem eT(ho:QE X o to)(ha:QA X [e] t)(hn:noStar e=true:=by rfl)(hbase:attributeBase o "join" X.env (eval o X.env)=eval o X.env:=by rfl)(hline:(apos.endLine == cpos.line)=true:=by rfl)(hK:X.K=K':=by rfl) :
  QE X (.Call (.Attribute o "join" apos) [e] [] cpos) (tBM K' "str" (rJoin K') to t):=by subst hK;exact⟨L2.aJ5 ho.h ha.h hn hbase hline⟩
theorem aBQ(ho:QE X o to)(ha:QA X [e] t)(hn:noStar e=true:=by rfl)(hbase:attributeBase o "startswith" X.env (eval o X.env)=eval o X.env:=by rfl)(hline:(apos.endLine == cpos.line)=true:=by rfl)(hK:X.K=K':=by rfl) :
  QE X (.Call (.Attribute o "startswith" apos) [e] [] cpos) (tBM K' "str" aDe to t):=by subst hK;exact⟨L2.aGQ ho.h ha.h hn hbase hline⟩
theorem xF{x n:Str}{pos:Pos}(hg:Gl X x)(hm:∃t,X.mg x=some (.str n t))(hd:(x == ("__debug__" : Str))=false:=by decide):QE X (.Name x pos) (tC (.str n)):=⟨by
 obtain⟨t,hm⟩:=hm
 exact L2.aCS (v:=.str n) hg hm ⟨t,rfl⟩ hd⟩
theorem aCx(hl:QE X l tl):QI X tg l (aMc tl):=⟨L2.aMd hl.h⟩
end
end L2.Z
namespace L2
open PySem PySem.Spec PyProof.Rows
section
variable{X:Cx}
def aIk(K:W.Frag):List V->Hp->VK->Prop:=λvs H Q=>∃(p:Addr) (ns:List Int),vs=[.ref p]/\bQ K H p (ns.map V.int)/\ns≠[]/\∀m,m∈ns->(∀x∈ns,m<=x)->Q (.int m) H
theorem aGR(hc:X.calm=true):eR X (.builtin "min") (aIk X.K):=by
 intro pins s σ H vs us Q I r h
 obtain⟨p,ns,rfl,hq,hne,q⟩:=h
 obtain⟨u,rfl,rx⟩:=vals1 r
 cases rx
 obtain⟨its,r',pl,hz⟩:=I.list hq
 have hi:=intsAre_of r'
 obtain⟨xs,hx⟩:=hi.allInts.items
 have e1:ns=xs.toList.map (·.1):=by rw[<-nums_intItems,<-hx];exact(show numsOf its.toArray.toList=ns from hi.numsOf).symm
 have hsz:0 < xs.size:=by
  have z:=Sj9.mpr hne
  rw[e1,cC,wY] at z
  exact z
 refine min_intList (I.ok.hd hc) (hx▸pl.isList:s.heap.IsList p (intItems xs)) hsz λv h' tk hv hk=>?_
 obtain⟨t,rfl⟩:=intItems_at hv
 obtain⟨h1,h2⟩:=argBest_lt (numAt xs) (xs.size - 1)
 refine⟨.int _,H,I.kept (t':=tk) hk,⟨t,rfl⟩,q _ ?_ λx hx'=>?_⟩
 ·rw[e1,numAt_eq];exact getD_mem (by rw[cC,wY];omega)
 ·rw[e1] at hx'
  obtain⟨j,hj,rfl⟩:=mem_getD hx'
  rw[cC,wY] at hj
  rw[<-numAt_eq];exact h2 j (by omega)
theorem aJ7{K:W.Frag}{H:Hp}{Q:VK}{p:Addr}{ns:List Int}(h1:bQ K H p (ns.map V.int))(hne:ns≠[])(h:∀m,m∈ns->(∀x∈ns,m<=x)->Q (.int m) H):aIk K [.ref p] H Q:=⟨p,ns,rfl,h1,hne,h⟩
end
end L2
namespace L2.Z
open PySem PySem.Spec PyProof.Rows L2
section
variable{X:Cx}{tg:Expr}
end
end L2.Z
namespace L2
open PySem
section
variable{σ:St}{H:Hp}{Q:VK}
end
end L2
namespace L2
open PySem PySem.Spec PyProof.Rows
section
variable{X:Cx}
def aCy(K:W.Frag):List V->Hp->VK->Prop:=λvs H Q=>∃(p:Addr) (ns:List Int),vs=[.ref p]/\bQ K H p (ns.map V.int)/\ns≠[]/\∀m,m∈ns->(∀x∈ns,x<=m)->Q (.int m) H
theorem vS(hc:X.calm=true):eR X (.builtin "max") (aCy X.K):=by
 intro pins s σ H vs us Q I r h
 obtain⟨p,ns,rfl,hq,hne,q⟩:=h
 obtain⟨u,rfl,rx⟩:=vals1 r
 cases rx
 obtain⟨its,r',pl,hz⟩:=I.list hq
 have hi:=intsAre_of r'
 obtain⟨xs,hx⟩:=hi.allInts.items
 have e1:ns=xs.toList.map (·.1):=by rw[<-nums_intItems,<-hx];exact(show numsOf its.toArray.toList=ns from hi.numsOf).symm
 have hsz:0 < xs.size:=by
  have z:=Sj9.mpr hne
  rw[e1,cC,wY] at z
  exact z
 refine max_intList (I.ok.hd hc) (hx▸pl.isList:s.heap.IsList p (intItems xs)) hsz λv h' tk hv hk=>?_
 obtain⟨t,rfl⟩:=intItems_at hv
 obtain⟨h1,h2⟩:=argBest_gt (numAt xs) (xs.size - 1)
 refine⟨.int _,H,I.kept (t':=tk) hk,⟨t,rfl⟩,q _ ?_ λx hx'=>?_⟩
 ·rw[e1,numAt_eq];exact getD_mem (by rw[cC,wY];omega)
 ·rw[e1] at hx'
  obtain⟨j,hj,rfl⟩:=mem_getD hx'
  rw[cC,wY] at hj
  rw[<-numAt_eq];exact h2 j (by omega)
theorem aAT{K:W.Frag}{H:Hp}{Q:VK}{p:Addr}{ns:List Int}(h1:bQ K H p (ns.map V.int))(hne:ns≠[])(h:∀m,m∈ns->(∀x∈ns,x<=m)->Q (.int m) H):aCy K [.ref p] H Q:=⟨p,ns,rfl,h1,hne,h⟩
end
end L2
namespace L2
open PySem PySem.Spec PyProof.Rows
structure wJ(X:Cx)(pins:List (Addr×Obj))(H:Hp)(h:Heap)(e C:Addr)(od:Option Addr)(T:Addr):Prop where
 he:H e=some (fZ C od e)
 tf:xE X pins T
 hT:H T=none
 ex:∃oe vs oT ts,h.get? e=some oe/\oe.data=.fields vs/\vs[1]?=some (.ref T)/\T≠e/\h.get? T=some oT/\oT.data=.fields ts/\3 < ts.size
section
variable{X:Cx}{pins:List (Addr×Obj)}{σ:St}{H:Hp}{s:Shared}{h':Heap}{C e T:Addr}{od:Option Addr}{oe:Obj}
variable{M:Model}{Ex:Value->Shared->Prop}{Q:Unit->Shared->Prop}{env:Env}{outer:List Env}{L:Addr}
theorem wJ.note{A:Around}(hA:A.frames=some (env::outer))(hst:X.stack=env::outer)(hf:env.frame=some L)(I:Inv X pins σ H s)(F:wJ X pins H s.heap e C od T)
  (h:∀h2 T',Inv X pins σ H { s with heap:=h2 }->wJ X pins H h2 e C od T'->(T'=T\/s.heap.objs.size<=T')->(∀b o,b∉wH X.stack->b≠e->b≠T->s.heap.get? b=some o->h2.get? b=some o)->Q () { s with heap:=h2 }) :
  wpAny M A (noteFrame (.ref e) env) Q Ex s:=by
 obtain⟨oe,vs,oT,ts,ho,hd,h1,nT,g1,g2,g3⟩:=F.ex
 refine zM (base:=X.base) hA (by rw[<-hst];exact I.stack) hf ho hd h1 g1 g2 g3 nT ?_ λh2 h' k2 sz2 lf=>?_
 ·exact h s.heap T I F (.inl rfl) λ_ _ _ _ _ z=>z
 ·have I2:=I.trace F.tf F.hT k2
  have ho2:h2.get? e=some oe:=(k2 e (Ne.symm nT)).trans ho
  have I3:=I2.aH4 (s:={ s with heap:=h2 }) F.he ho2 (by rw[hst];exact lf)
  obtain⟨vs2,T2,oT2,ts2,r1,r2,r3,r4,r5,r6,r7⟩:=lf.err
  rw[sz2] at r4
  exact h h' T2 I3 ⟨F.he,I.aH5 r4,I.hok.fresh r4,⟨_,_,_,_,r1,rfl,r2,r3,r5,r6,r7⟩⟩ (.inr r4) λb o a1 a2 a3 z=>lf.keep b o (by rw[<-hst];exact a1) a2 ((k2 b a3).trans z)
theorem wJ.aMf{A:Around}{fr:Option Addr}(I:Inv X pins σ H s)(F:wJ X pins H s.heap e C od T)
  (h:∀h2,Inv X pins σ H { s with heap:=h2 }->wJ X pins H h2 e C od T->Q () { s with heap:=h2 }):wpAny M A (setFlight (.ref e) fr) Q Ex s:=by
 obtain⟨oe,vs,oT,ts,ho,hd,h1,nT,g1,g2,g3⟩:=F.ex
 refine jO ho hd h1 g1 g2 g3 λh' x k sz gT _=>h h' (I.trace F.tf F.hT k) ⟨F.he,F.tf,F.hT,⟨_,_,_,_,(k e (Ne.symm nT)).trans ho,hd,h1,nT,gT,rfl,by rw[St9];exact g3⟩⟩
end
structure aD4(X:Cx)(E:XK):Prop where
 fr:∃L,X.env.frame=some L
 st:∃outer,X.stack=X.env::outer
 out:∀(pins:List (Addr×Obj)) (σ:St) (H:Hp) (s:Shared) (e C:Addr) (od:Option Addr) (T:Addr),Inv X pins σ H s->wJ X pins H s.heap e C od T->E (.ref e) od H->X.xe (.ref e) s
structure yE(X:Cx)(E:XK)(σ:St):Prop where
 fr:∃L,X.env.frame=some L
 st:∃outer,X.stack=X.env::outer
 out:∀(pins:List (Addr×Obj)) (H:Hp) (s:Shared) (e C:Addr) (od:Option Addr) (T:Addr),Inv X pins σ H s->wJ X pins H s.heap e C od T->E (.ref e) od H->X.xe (.ref e) s
theorem aD4.at{X:Cx}{E:XK}(h:aD4 X E)(σ:St):yE X E σ:=⟨h.fr,h.st,λpins H s=>h.out pins σ H s⟩
def EW(W:TW)(σ:St):XK:=λev _ H'=>∃e,ev=.ref e/\W σ H' e
theorem aIl{X:Cx}{pn:List (Addr×Obj)}{W:TW}{σ:St}(fr:∃L,X.env.frame=some L)(st:∃outer,X.stack=X.env::outer):yE (X.tr pn W) (EW W σ) σ:=by
 refine⟨fr,st,λpins H s e C od T I F hE=>?_⟩
 obtain⟨e',z,w⟩:=hE
 cases z
 obtain⟨oe,vs,oT,ts,ho,hd,h1,nT,g1,g2,g3⟩:=F.ex
 exact⟨e,σ,H,rfl,I.aBg,⟨C,od,oe,vs,T,oT,ts,F.he,ho,hd,h1,nT,⟨F.tf.up,F.tf.loc,F.tf.cell,λp hp=>F.tf.pin p (Ro9 _ hp)⟩,F.hT,g1,g2,g3⟩,w⟩
theorem aBh{P:Program}{w:World}{K:W.Frag}{mg:Str->Option Value}{base:Heap}{N:List Str}{qual:Str}{scope:Scope}{f:Addr}{cd:Value}{A:Around}{outer:List Env}{s:Shared}{H:Hp}{E:XK} :
  aD4 (mQ (tR P w) P w K mg base N qual scope f cd A outer s H E) E:=by
 refine⟨⟨_,rfl⟩,⟨_,rfl⟩,λpins σ H1 s1 e C od T I F hE=>?_⟩
 show wpAny _ _ (leaving _ _) _ _ _
 unfold leaving
 refine cM (F.note (X:=mQ (tR P w) P w K mg base N qual scope f cd A outer s H E) I.ok.frames rfl rfl I λh2 T' I2 F2 _ _=>?_)
 obtain⟨oe,vs,oT,ts,ho,hd,h1,nT,g1,g2,g3⟩:=F2.ex
 refine jO ho hd h1 g1 g2 g3 λh' x k sz gT hx=>?_
 have I3:=I2.trace F2.tf F2.hT k
 exact⟨e,C,od,H1,_,_,T',_,_,rfl,I3.os,I3.bare,I3.base,I3.hok,F2.he,(k e (Ne.symm nT)).trans ho,hd,h1,nT,F2.tf.up,F2.hT,gT,rfl,by rw[hx rfl];simp[g3],hE⟩
def CXB(X:Cx)(fp:List Addr)(C0:Addr)(s:Shared)(H:Hp)(E:XK):Value->Shared->Prop:=λev s'=>∃(e C:Addr) (od:Option Addr) (H':Hp) (T:Addr),
 ev=.ref e/\s'.os=s.os/\AllBare s'.gens/\Un (wH X.stack) fp H H' s.heap s'.heap/\wA X.prog X.w H' s'.heap/\(∃m,s'.heap.Ns C0 m)/\H' C0=none/\H' e=some (fZ C od e)/\s.heap.objs.size<=T/\T≠C0/\H' T=none/\
 (∃oe vs oT ts,s'.heap.get? e=some oe/\oe.data=.fields vs/\vs[1]?=some (.ref T)/\T≠e/\s'.heap.get? T=some oT/\oT.data=.fields ts/\3 < ts.size)/\E (.ref e) od H'
def zA(X:Cx)(scope:Scope)(N:List Str)(fp:List Addr)(E:XK)(C:Addr)(s:Shared)(H:Hp):Cx:={ cxC X scope N fp C s H with xe:=CXB X fp C s H E }
section
variable{X:Cx}{pins:List (Addr×Obj)}{σ:St}{H:Hp}{s:Shared}{scope:Scope}{N:List Str}{fp:List Addr}{E:XK}
theorem Inv.toB{C:Addr}{pins':List (Addr×Obj)}{σ':St}{H':Hp}{s':Shared}(I:Inv (cxC X scope N fp C s H) pins' σ' H' s'):Inv (zA X scope N fp E C s H) pins' σ' H' s':=
 ⟨⟨I.ok.mod,I.ok.kind,I.ok.glob,I.ok.blt,I.ok.above,I.ok.inj,I.ok.has,I.ok.cab,I.ok.hd,I.ok.frames,I.ok.stk,I.ok.exf,I.ok.bs,I.ok.bsz,I.ok.noex,I.ok.exfs,I.ok.rO,I.ok.frf⟩,I.os,I.bare,I.base,I.loc,I.cell,I.free,I.freeC,I.pin,I.hok,I.len⟩
theorem Inv.ofB{C:Addr}{pins':List (Addr×Obj)}{σ':St}{H':Hp}{s':Shared}(I:Inv (zA X scope N fp E C s H) pins' σ' H' s'):Inv (cxC X scope N fp C s H) pins' σ' H' s':=
 ⟨⟨I.ok.mod,I.ok.kind,I.ok.glob,I.ok.blt,I.ok.above,I.ok.inj,I.ok.has,I.ok.cab,I.ok.hd,I.ok.frames,I.ok.stk,I.ok.exf,I.ok.bs,I.ok.bsz,I.ok.noex,I.ok.exfs,I.ok.rO,I.ok.frf⟩,I.os,I.bare,I.base,I.loc,I.cell,I.free,I.freeC,I.pin,I.hok,I.len⟩
theorem r9{C:Addr}:Passes (tR X.prog X.w) (zA X scope N fp E C s H) E:=by
 intro pins σ H1 s1 ev s2 I h
 obtain⟨e,C',od,H2,oe,vs,T,oT,ts,rfl,os,bare,un,hok,he,ho,hd,h1,nT,sT,hT,g1,g2,g3,hq⟩:=h
 have I2:Inv (zA X scope N fp E C s H) pins σ H2 s2:=I.aDM os un hok bare (λb z=>nomatch z)
 obtain⟨m,hn,_⟩:=id I2.loc
 exact⟨e,C',od,H2,T,rfl,I2.os,I2.bare,I2.base,I2.hok,⟨m,hn⟩,I2.free,he,wZ I.sz sT,(I.aH5 sT).loc,hT,⟨oe,vs,oT,ts,ho,hd,h1,nT,g1,g2,(Rx9.mp g3).1⟩,hq⟩
theorem aF0{C:Addr}{ev:Value}{s':Shared}{cl:List (Str×Addr)}{use:Option (Value->Sem Unit)}{Q:Value->Shared->Prop}{acc:Value}(hx:yE X E σ)(I:Inv X pins σ H s)(hf:∀b∈fp,qO X pins H b)(hC:s.heap.objs.size<=C)(h:CXB X fp C s H E ev s') :
  notedBy (model X.prog X.w) X.A (compEnvC scope cl C X.env) (λe s''=>compPost (model X.prog X.w) X.A X.xe use Q acc C (.error e) s'') ev s':=by
 obtain⟨e,C',od,H',T,rfl,os,bare,un,hok,⟨m,oC,es,ep,hoC,rest⟩,hC0,he,sT,nTC,hT,ex,hq⟩:=h
 have I':Inv X pins σ H' s':=I.aDM os un hok bare λb hb=>⟨(hf b hb).2.2.2.1,(hf b hb).2.1,(hf b hb).2.2.2.2.1,(hf b hb).2.2.2.2.2⟩
 have F:wJ X pins H' s'.heap e C' od T:=⟨he,I.aH5 sT,hT,ex⟩
 have fC:qO X pins H' C:=I.aEO hC hC0
 obtain⟨L,hL⟩:=hx.fr
 obtain⟨outer,ho⟩:=hx.st
 have nCf:C∉wH X.stack:=λz=>by
  rcases rN.mp (I.zC C z) with q|q
  ·exact fC.2.1 q
  ·exact fC.2.2.1 q
 have nCe:e≠C:=λz=>by rw[<-z,he] at hC0;cases hC0
 show wpAny _ X.A (noteFrame (.ref e) X.env) _ _ s'
 refine F.note (by rw[<-ho];exact I.ok.frames) ho hL I' λh2 T' I2 F2 hT' kp=>?_
 have nT':T'≠C:=by
  rcases hT' with rfl|q
  ·exact nTC
  ·exact λz=>absurd (kW hoC) (by rw[<-z];exact Nat.not_lt.mpr q)
 refine⟨m,⟨oC,es,ep,kp C oC nCf nCe.symm nTC.symm hoC,rest⟩,λh3 hs3 cenv hcl=>?_⟩
 have I3:=I2.turned (h':=h3) (t':=s'.toks) (λb o hb e=>(hs3.2 b hb).trans e) fC.1 fC.2.1 fC.2.2.2.1 fC.2.2.2.2.1 fC.2.2.2.2.2
 obtain⟨oe,vs,oT,ts,a1,a2,a3,a4,a5,a6,a7⟩:=F2.ex
 have b1:h3.get? e=some oe:=(hs3.2 e nCe).trans a1
 have F3:wJ X pins H' h3 e C' od T':=⟨F2.he,F2.tf,F2.hT,⟨oe,vs,oT,ts,b1,a2,a3,a4,(hs3.2 T' nT').trans a5,a6,a7⟩⟩
 unfold PySem.passOn
 refine cM (wpAny_field b1 a2 a3 ?_)
 rw[fQ (by simp)]
 refine cM (F3.aMf I3 λh4 I4 F4=>?_)
 exact wpAny_throw (hx.out pins H' _ e C' od T' I4 F4 hq)
end
section
variable{X:Cx}{pins:List (Addr×Obj)}{σ:St}{H:Hp}{s:Shared}{scope:Scope}{N:List Str}{k:Nat}{idx:List Nat}{fp:List Addr}
theorem aAk{EE:XK}{elt target iter:Expr}{ifs:List Expr}{pos:Pos}{it:Addr}{tn:Nat->Heap->Prop}{J:It}{g:TG}{tt:TT}{te:TE}{R:List V->Hp->Prop}{E:Value->Shared->Prop}{RR:Value->Addr->Result->Shared->Prop}
  (S:d5 X scope N k idx) (hc:X.calm=true) (I:Inv X pins σ H s) (T:Turn X.prog X.w X.K target J fp it tn) (st:tn 0 s.heap) (hf:∀b∈fp,qO X pins H b)
  (hg:∀C,PG (zA X scope N fp EE C s H) target g) (ho:Own k g) (ht:∀C,PTs (zA X scope N fp EE C s H) ifs tt) (he:∀C,PE (zA X scope N fp EE C s H) elt te)
  (hw:uE J (cσ k idx σ) g tt te R H)
  (hRR:∀D C s' m ys H',s'.heap.Ns C m->Inv X pins σ (upd H' D (.lst ys)) s'->qO X pins (upd H' D (.lst ys)) C->H' D=none->R ys H'->RR (.ref D) C (.ok .next) s')
  (hER:∀D C ev s',s.heap.objs.size<=C->CXB X fp C s H EE ev s'->notedBy (model X.prog X.w) X.A (compEnvC scope (mZ X.env scope.names []) C X.env) (λe s''=>RR (.ref D) C (.error e) s'') ev s') :
  wpAny (model X.prog X.w) X.A (newList []) (λacc s₃=>wpAny (model X.prog X.w) X.A (newFunctionEnv scope X.env.globals (mZ X.env scope.names []) [] X.env.qual none .none (some X.env)) (λcenv s₄=>
   codeAny (model X.prog X.w) X.A (.compStart (.ListComp elt [⟨target,iter,ifs,0⟩] scope pos) 0 (.ref it) acc { cenv with scope:=relabel scope X.env }) (RR acc cenv.locals) s₄) E s₃) E s:=by
 refine Sb9 (wpAny_newFunctionEnv S.nocell (by intro y hy;simp at hy) (λh₁ hns₁ hsb₁=>?_) S.kind)
 dsimp only at hns₁ hsb₁ ⊢
 generalize hH2:s.heap.push { cls:=.type "list",dict:=none,data:=.seq ([]:List Value).toArray } = H2 at hns₁ hsb₁ ⊢
 have hCs:H2.objs.size=s.heap.objs.size+1:=by rw[<-hH2,Sx9]
 have hDC:s.heap.objs.size≠H2.objs.size:=by rw[hCs];exact wG (Se9 _)
 have hCle:s.heap.objs.size<=H2.objs.size:=by rw[hCs];exact Tv9 _
 have below:∀b,b < s.heap.objs.size->b≠H2.objs.size:=λb hb=>by rw[hCs];exact wG (Ss9 hb)
 have old:∀b o,s.heap.get? b=some o->h₁.get? b=some o:=λb o e=>hsb₁.extBut b o (below b (kW e)) (vG _ (hH2▸vG _ e))
 have hacc:h₁.get? s.heap.objs.size=some { cls:=.type "list",data:=.seq ([]:List Value).toArray 0 }:=hsb₁.extBut _ _ hDC (vG _ (hH2▸Qz9 _ rfl))
 have st₁:tn 0 h₁:=T.keep _ _ _ st λb _ o e=>old b o e
 obtain⟨W,⟨m0,w0⟩,turn⟩:=hw
 have fp0:∀b∈fp,b < s.heap.objs.size:=λb hb=>by
  obtain⟨o,e,_⟩:=T.obj _ _ st b hb
  exact kW e
 have stat:∀{H':Hp} {pl:List (Addr×Obj)},(∀b∈fp,H' b=none)->(∀p∈pl,s.heap.objs.size<=p.1)->∀b∈fp,qO (zA X scope N fp EE H2.objs.size s H) pl H' b:=λ{H' pl} hn hp b hb=>by
  refine⟨hn b hb,below b (fp0 b hb),λz=>?_,.inl hb,λx c e=>(hf b hb).2.2.2.2.1 x c (lM (S.cells I) e),λp q z=>?_⟩
  ·have z':b∈wH X.stack:=z
   rcases rN.mp (I.zC b z') with q|q
   ·exact(hf b hb).2.1 q
   ·exact(hf b hb).2.2.1 q
  ·have q':p∈([]:List (Addr×Obj))++pl:=q
   have h1:=hp p (by simpa using q')
   rw[z] at h1
   exact absurd (xU (fp0 b hb) h1) (Rq9 _)
 have loop:∀s₃:Shared,s₃={ s with heap:=h₁,toks:=s.toks+([]:List (Str×Value)).length }->
   codeAny (model X.prog X.w) X.A (.compLoop (.ListComp elt [⟨target,iter,ifs,0⟩] scope pos) 0 (.ref it) (.ref s.heap.objs.size) (compEnvC scope (mZ X.env scope.names []) H2.objs.size X.env))
    (RR (.ref s.heap.objs.size) H2.objs.size) s₃:=by
  rintro s₃ rfl
  refine aAe (λn s'=>∃i ys its H' nn,Inv (zA X scope N fp EE H2.objs.size s H) [(s.heap.objs.size,{ cls:=.type "list",data:=.seq its.toArray nn })] (cσ k idx σ) H' s'/\tn i s'.heap/\(∀b∈fp,H' b=none)/\Vals ys its/\W i n ys H') ?_ m0
   ⟨0,[],[],H,0,(aGB S I hf (λb hb=>let ⟨o,e,_⟩:=T.obj _ _ st b hb;⟨o,e⟩) hCle (iI _) hDC hns₁ old hacc (λv z=>by cases z)).toB,st₁,λb hb=>(hf b hb).1,.nil,w0⟩
  rintro n s' ⟨i,ys,its,H',nn,I',st',fr',rv,w'⟩
  obtain⟨hz,alt⟩:=turn i n ys H' w'
  have pl:∀p∈[((s.heap.objs.size:Addr),({ cls:=.type "list",data:=.seq its.toArray nn }:Obj))],s.heap.objs.size<=p.1:=λp hp=>by
   have e:p=((s.heap.objs.size:Addr),({ cls:=.type "list",data:=.seq its.toArray nn }:Obj)):=by simpa using hp
   rw[e]
   exact iI _
  rcases alt with ⟨stop,q⟩|⟨go,Nx,hN,step⟩
  ·refine dY (T.done (zA X scope N fp EE H2.objs.size s H) rfl rfl rfl hc i _ s' _ H' _ I' (stat fr' pl) st' stop) λr s4 ⟨hr,I4⟩=>?_
   subst hr
   obtain⟨eD,nD,_⟩:=I4.pin _ (xT _ Rf9)
   obtain⟨a1,a2⟩:=aJq I hf I4.ofB hCle (iI _) hDC nD eD rv hz
   obtain⟨m4,hn4,_⟩:=I4.loc
   exact hRR _ _ s4 m4 ys H' hn4 a1 a2 nD q
  ·refine dY (T.item (zA X scope N fp EE H2.objs.size s H) rfl rfl rfl hc i _ s' _ H' _ I' (stat fr' pl) st' go) λr s4 ⟨u,hr,h4⟩=>?_
   subst hr
   refine dY h4 λ_ s5 ⟨x,H5,I5,r5,y5,st5,fr5⟩=>?_
   have I5':=I5.pinned (stat fr5 pl) (T.obj _ _ st5)
   have noE:∀{α:Type} {t:Sem α} {Q:α->Shared->Prop} {sx:Shared},wpAny (model X.prog X.w) X.A t Q (zA X scope N fp EE H2.objs.size s H).xe sx->wpAny (model X.prog X.w) X.A t Q (notedBy (model X.prog X.w) X.A (compEnvC scope (mZ X.env scope.names []) H2.objs.size X.env) λe s''=>RR (.ref s.heap.objs.size) H2.objs.size (.error e) s'') sx:=λh=>Rs9 h (λ_ _ q=>q) λ_ _ z=>hER _ _ _ _ hCle z
   refine noE (dY (hg _ _ s5 _ H5 x u _ I5' r5 (ho x _ H5 _ _ ⟨rfl,λ_ _=>rfl⟩ (step x H5 y5))) λ_ s6 ⟨σ6,H6,I6,ag,q6⟩=>?_)
   have back:∀{H7:Hp} {s7:Shared},Inv (zA X scope N fp EE H2.objs.size s H) ([((s.heap.objs.size:Addr),({ cls:=.type "list",data:=.seq its.toArray nn }:Obj))] ++ zE fp s5.heap) σ6 H7 s7->
     Inv (zA X scope N fp EE H2.objs.size s H) [((s.heap.objs.size:Addr),({ cls:=.type "list",data:=.seq its.toArray nn }:Obj))] (cσ k idx σ) H7 s7/\tn (i+1) s7.heap/\∀b∈fp,H7 b=none:=λ{H7 s7} I7=>by
    refine⟨I7.uB.weak (by rw[ag.1]) λj v e=>?_,T.keep _ _ _ st5 λb hb o e=>(I7.pin (b,o) (xT _ (xT _ (kZ hb e)))).1,λb hb=>?_⟩
    ·have hj:k<=j:=by
      by_cases hj:j < k
      ·unfold cσ at e
       rw[Qy9 (by simpa using hj),Sw9,gU hj] at e
       cases e
      ·omega
     rw[ag.2 j hj]
     exact e
    ·obtain⟨o,e,d⟩:=T.obj _ _ st5 b hb
     exact(I7.pin (b,o) (xT _ (xT _ (kZ hb e)))).2.1
   refine noE (dY (ht _ _ s6 σ6 H6 _ I6 q6) λb s7 ⟨H7,I7,q7⟩=>?_)
   cases b with
   |false=>
    rw[fQ Qu9] at q7 ⊢
    obtain⟨m',hm,w7⟩:=hN _ _ q7
    obtain⟨b1,b2,b3⟩:=back I7
    exact⟨m',hm,i+1,ys,its,H7,nn,b1,b2,b3,rv,w7⟩
   |true=>
    rw[gU rfl] at q7 ⊢
    refine noE (dY (he _ _ s7 σ6 H7 _ I7 q7) λy s8 ⟨z,H8,I8,r8,q8⟩=>?_)
    obtain⟨m',hm,w8⟩:=hN _ _ q8
    obtain⟨b1,b2,b3⟩:=back I8
    obtain⟨eD,nD,neD,nfD,_⟩:=b1.pin _ (xT _ Rf9)
    have lenV:=rv.length
    refine append_at (hsz:=by rw[mP,<-lenV];exact hz) eD λh9 hs9 hD9=>?_
    have b1':Inv (zA X scope N fp EE H2.objs.size s H) [] (cσ k idx σ) H8 s8:=b1.vH λp hp=>by cases hp
    have I9:Inv (zA X scope N fp EE H2.objs.size s H) [] (cσ k idx σ) H8 { s8 with heap:=h9 }:=b1'.turned (t':=s8.toks) (λb o hb e=>(hs9.2 b hb).trans e) nD neD (.inr (iI _)) (λx c e z=>by
     obtain⟨v,q⟩:=I.cell x c (lM (S.cells I) e)
     exact absurd (xU q.lt (by rw[z];exact iI _)) (Rq9 _)) (λp hp=>by
     have hp':p∈([]:List (Addr×Obj)) ++ []:=hp
     simp at hp')
    refine⟨m',hm,i+1,ys ++ [z],its ++ [y],H8,nn+1,I9.vH λp hp=>?_,T.keep _ _ _ b2 λb hb o e=>(hs9.2 b (wG (fp0 b hb))).trans e,b3,rv.append (.cons r8 .nil),w8⟩
    have e:p=((s.heap.objs.size:Addr),({ cls:=.type "list",data:=.seq (its ++ [y]).toArray (nn+1) }:Obj)):=by simpa using hp
    subst e
    exact⟨by rw[<-aDY];exact hD9,nD,neD,nfD,λv z=>by cases z⟩
 exact codeAny_compStart_list (loop _ rfl) (T.self _ 0 _ _ _ st₁ (loop _ rfl))
theorem aIm{EE:XK}(hfl:aD4 X EE)(k:Nat)(idx:List Nat){i:Nat}{x:Str}{N:List Str}{elt target iter:Expr}{ifs:List Expr}{pos pos' spos:Pos}{wi:TI}{g:TG}{tt:TT}{te:TE}(hN:X.N.Nodup)(hix:X.N[i]?=some x)(hx:Loc X.env.scope x)
  (S:d5 X scope N k idx) (hc:X.calm=true) (hi:PI X target iter wi)
  (hg:∀fp C s H,PG (zA X scope N fp EE C s H) target g) (ho:Own k g) (ht:∀fp C s H,PTs (zA X scope N fp EE C s H) ifs tt) (he:∀fp C s H,PE (zA X scope N fp EE C s H) elt te)
  (hsw:swapsWith (.ListComp elt [⟨target,iter,ifs,0⟩] scope pos) (some (.Name x pos')) spos.line X.env=pure true:=by rfl)
  (hs:∀x,foldedSetIterable iter X.env x=pure x:=by intro _;rfl) (hfn:X.fn x=true\/X.env.scope.names.lookup x=some .local:=by first|exact .inl rfl|exact .inr rfl|assumption) :
  PS X (.Assign [.Name x pos'] (.ListComp elt [⟨target,iter,ifs,0⟩] scope pos) spos) (aAC (xZ wi k idx g tt te) (pA i)):=by
 intro pins s σ H D I h
 rw[exec_Assign_Name_used _ _ _ _ hsw]
 refine cM (wpAny_standAt (cM ?_))
 show wpAny _ X.A (do let _ <-comprehension (.ListComp elt [⟨target,iter,ifs,0⟩] scope pos) scope X.env _ (newList []) false (eval iter X.env) (some (assign (.Name x pos') X.env))) _ _ s
 refine cM (Rs9 (wpAny_comprehension_free (use:=some (assign (.Name x pos') X.env)) (Q:=λ_ s'=>SP X pins D .next s') rfl hs (rT (S.cells I)) S.kind S.names
  (dY (hi pins s σ H _ I h) λv s1 h1=>dY h1 λitv s2 h2=>?_)) (λ_ s' hq=>jY (jY hq)) λ_ _ e=>e)
 obtain⟨it,fp,tn,J,H2,e,I2,T,st2,f2,w2⟩:=h2
 subst e
 refine aAk (EE:=EE) (RR:=λacc C=>compPost (model X.prog X.w) X.A X.xe (some (assign (.Name x pos') X.env)) (λ_ s'=>SP X pins D .next s') acc C) S hc I2 T st2 f2 (λC=>hg fp C s2 H2) ho (λC=>ht fp C s2 H2) (λC=>he fp C s2 H2) w2 (λD' C s' m ys H' hn I' fC hD q=>?_) λD C ev s' hC h=>aF0 (hfl.at σ) I2 f2 hC h
 show wpAny _ X.A (assign (.Name x pos') X.env (.ref D')) _ _ s'
 refine wpAny_assign_Name (vI I' hN hix hx (show RelV (.ref D') (.ref D') from rfl) (λs3 I3 ⟨a,sb,ha⟩=>?_) hfn)
 have hCa:C≠a:=by
  rcases ha with z|z
  ·rw[z];exact fC.2.1
  ·exact(fC.2.2.2.2.1 x a z).symm
 refine⟨m,hn.sameBut sb hCa,λh'' hs''=>⟨_,_,I3.turned (t':=s3.toks) (λb o hb e=>(hs''.2 b hb).trans e) fC.1 fC.2.1 fC.2.2.2.1 fC.2.2.2.2.1 fC.2.2.2.2.2,q D' hD⟩⟩
theorem aIn{EE:St->XK}(hfl:∀σ,yE X (EE σ) σ)(k:Nat)(idx:List Nat){i:Nat}{x:Str}{N:List Str}{elt target iter:Expr}{ifs:List Expr}{pos pos' spos:Pos}{wi:TI}{g:TG}{tt:TT}{te:St->TE}(hN:X.N.Nodup)(hix:X.N[i]?=some x)(hx:Loc X.env.scope x)
  (S:d5 X scope N k idx) (hc:X.calm=true) (hi:PI X target iter wi)
  (hg:∀σ fp C s H,PG (zA X scope N fp (EE σ) C s H) target g) (ho:Own k g) (ht:∀σ fp C s H,PTs (zA X scope N fp (EE σ) C s H) ifs tt) (he:∀σ fp C s H,PE (zA X scope N fp (EE σ) C s H) elt (te σ))
  (hsw:swapsWith (.ListComp elt [⟨target,iter,ifs,0⟩] scope pos) (some (.Name x pos')) spos.line X.env=pure true:=by rfl)
  (hs:∀x,foldedSetIterable iter X.env x=pure x:=by intro _;rfl) (hfn:X.fn x=true\/X.env.scope.names.lookup x=some .local:=by first|exact .inl rfl|exact .inr rfl|assumption) :
  PS X (.Assign [.Name x pos'] (.ListComp elt [⟨target,iter,ifs,0⟩] scope pos) spos) (λD σ H=>aAC (xZ wi k idx g tt (te σ)) (pA i) D σ H):=by
 intro pins s σ H D I h
 rw[exec_Assign_Name_used _ _ _ _ hsw]
 refine cM (wpAny_standAt (cM ?_))
 show wpAny _ X.A (do let _ <-comprehension (.ListComp elt [⟨target,iter,ifs,0⟩] scope pos) scope X.env _ (newList []) false (eval iter X.env) (some (assign (.Name x pos') X.env))) _ _ s
 refine cM (Rs9 (wpAny_comprehension_free (use:=some (assign (.Name x pos') X.env)) (Q:=λ_ s'=>SP X pins D .next s') rfl hs (rT (S.cells I)) S.kind S.names
  (dY (hi pins s σ H _ I h) λv s1 h1=>dY h1 λitv s2 h2=>?_)) (λ_ s' hq=>jY (jY hq)) λ_ _ e=>e)
 obtain⟨it,fp,tn,J,H2,e,I2,T,st2,f2,w2⟩:=h2
 subst e
 refine aAk (EE:=EE σ) (RR:=λacc C=>compPost (model X.prog X.w) X.A X.xe (some (assign (.Name x pos') X.env)) (λ_ s'=>SP X pins D .next s') acc C) S hc I2 T st2 f2 (λC=>hg σ fp C s2 H2) ho (λC=>ht σ fp C s2 H2) (λC=>he σ fp C s2 H2) w2 (λD' C s' m ys H' hn I' fC hD q=>?_) λD C ev s' hC h=>aF0 (hfl σ) I2 f2 hC h
 show wpAny _ X.A (assign (.Name x pos') X.env (.ref D')) _ _ s'
 refine wpAny_assign_Name (vI I' hN hix hx (show RelV (.ref D') (.ref D') from rfl) (λs3 I3 ⟨a,sb,ha⟩=>?_) hfn)
 have hCa:C≠a:=by
  rcases ha with z|z
  ·rw[z];exact fC.2.1
  ·exact(fC.2.2.2.2.1 x a z).symm
 refine⟨m,hn.sameBut sb hCa,λh'' hs''=>⟨_,_,I3.turned (t':=s3.toks) (λb o hb e=>(hs''.2 b hb).trans e) fC.1 fC.2.1 fC.2.2.2.1 fC.2.2.2.2.1 fC.2.2.2.2.2,q D' hD⟩⟩
end
end L2
namespace L2.Z
open PySem PySem.Spec PyProof.Rows L2
section
variable{X:Cx}{x:Str}{pos spos:Pos}{elt target iter:Expr}{ifs:List Expr}{scope:Scope}{wi:TI}{g:TG}{tt:TT}{te:TE}
theorem uL{EE:XK}(hfl:aD4 X EE){k:Nat}{idx:List Nat}{i:Nat}{N:List Str}{pos':Pos}(hN:X.N.Nodup)(hix:X.N[i]?=some x)(hx:Loc X.env.scope x)
  (S:d5 X scope N k idx) (hc:X.calm=true) (hi:QI X target iter wi)
  (hg:∀fp C s H,QG (zA X scope N fp EE C s H) target g) (ho:Own k g) (ht:∀fp C s H,QTs (zA X scope N fp EE C s H) ifs tt) (he:∀fp C s H,QE (zA X scope N fp EE C s H) elt te)
  (hsw:swapsWith (.ListComp elt [⟨target,iter,ifs,0⟩] scope pos) (some (.Name x pos')) spos.line X.env=pure true:=by rfl)
  (hs:∀x,foldedSetIterable iter X.env x=pure x:=by intro _;rfl) (hfn:X.fn x=true\/X.env.scope.names.lookup x=some .local:=by first|exact .inl rfl|exact .inr rfl|assumption) :
  QS X (.Assign [.Name x pos'] (.ListComp elt [⟨target,iter,ifs,0⟩] scope pos) spos) (aAC (xZ wi k idx g tt te) (pA i)):=
 ⟨L2.aIm hfl k idx hN hix hx S hc hi.h (λfp C s H=>(hg fp C s H).h) ho (λfp C s H=>(ht fp C s H).h) (λfp C s H=>(he fp C s H).h) hsw hs hfn⟩
theorem aD5{EE:St->XK}{te:St->TE}(hfl:∀σ,yE X (EE σ) σ){k:Nat}{idx:List Nat}{i:Nat}{N:List Str}{pos':Pos}(hN:X.N.Nodup)(hix:X.N[i]?=some x)(hx:Loc X.env.scope x)
  (S:d5 X scope N k idx) (hc:X.calm=true) (hi:QI X target iter wi)
  (hg:∀σ fp C s H,QG (zA X scope N fp (EE σ) C s H) target g) (ho:Own k g) (ht:∀σ fp C s H,QTs (zA X scope N fp (EE σ) C s H) ifs tt) (he:∀σ fp C s H,QE (zA X scope N fp (EE σ) C s H) elt (te σ))
  (hsw:swapsWith (.ListComp elt [⟨target,iter,ifs,0⟩] scope pos) (some (.Name x pos')) spos.line X.env=pure true:=by rfl)
  (hs:∀x,foldedSetIterable iter X.env x=pure x:=by intro _;rfl) (hfn:X.fn x=true\/X.env.scope.names.lookup x=some .local:=by first|exact .inl rfl|exact .inr rfl|assumption) :
  QS X (.Assign [.Name x pos'] (.ListComp elt [⟨target,iter,ifs,0⟩] scope pos) spos) (λD σ H=>aAC (xZ wi k idx g tt (te σ)) (pA i) D σ H):=
 ⟨L2.aIn hfl k idx hN hix hx S hc hi.h (λσ fp C s H=>(hg σ fp C s H).h) ho (λσ fp C s H=>(ht σ fp C s H).h) (λσ fp C s H=>(he σ fp C s H).h) hsw hs hfn⟩
end
end L2.Z
namespace L2
open PySem PySem.Spec PyProof.Rows
section
variable{X:Cx}
def aF1:R2:=λx y H Q=>∃i j:Str,x=.str i/\y=.str j/\Q (.bl (!(!(Builtin.Str.occurrences j i 0 j.length 1).isEmpty))) H
theorem aGS:pU X (compareOp .NotIn) aF1:=aCZ
def aKy:R2:=λx y H Q=>∃(z:Str) (n:Nat),x=.str z/\y=.int (n:Int)/\2<=n/\1<=z.length/\z.length*n<=sizeLine/\Q (.str ⟨(List.replicate n z.cps).foldl (·++ ·) #[]⟩) H
theorem aJ8:pU X (binaryOp .Mult) aKy:=by
 intro pins s σ H x y v u Q I rx ry h
 obtain⟨z,n,rfl,rfl,h2,h1,hz,q⟩:=h
 obtain⟨t,rfl⟩:=(show ∃t,v=Value.str z t from rx)
 obtain⟨tn,rfl⟩:=(show ∃t,u=Value.int (n:Int) t from ry)
 have hs:(sizeLine:Nat) < 2 ^ 62:=by decide
 have hn:n<=sizeLine:=wZ (Nat.le_mul_of_pos_left n h1) hz
 have tl:Builtin.Str.tooLong (z.length*n)=false:=by unfold Builtin.Str.tooLong;simp;exact hz
 refine P.mul_str (by simp;omega) (λ_ _=>?_) (λ_ _=>?_) ?_
 ·have hzn:z.length*n < 2 ^ 62:=by omega
  have:(z.length:Int)<=(2 ^ 63 - 1) / (n:Int):=by
   rw[Int.le_ediv_iff_mul_le (by omega)]
   have:((z.length*n:Nat):Int) < ((2 ^ 62:Nat):Int):=Int.ofNat_lt.mpr hzn
   rw[Int.natCast_mul] at this
   have e:((2 ^ 62:Nat):Int)=4611686018427387904:=by decide
   omega
  omega
 ·rw[Sh9]
  exact tl
 ·rw[fQ (by omega),fQ (by simp;omega),Sh9]
  exact⟨fits_reps tl,⟨.str _,H,I.tok _,⟨_,rfl⟩,q⟩⟩
def eN(u:Value):Bool:=match u with
 |.none=>true
 |_=>false
def vN(v:V):Bool:=match v with
 |.non=>true
 |_=>false
end
end L2
namespace L2
open PySem PySem.Spec PyProof.Rows
theorem aMg{σ:St}{H:Hp}{nx:St->Hp->Prop}{rt:VK}{g:TG}{tb:TS}{z:Str}(Pv:Nat->St->Hp->Prop)(h0:Pv 0 σ H)
  (hs:∀i c σ H,z.cps[i]?=some c->Pv i σ H->g (.str ⟨#[c]⟩) σ H λσ2 H2=>tb ⟨Pv (i+1),rt,nx,Pv (i+1)⟩ σ2 H2) (hd:∀σ H,Pv z.cps.size σ H->nx σ H) :
  ∃W:Nat->Nat->St->Hp->Prop,(∃m,W 0 m σ H)/\∀i m σ H,W i m σ H->
   ((ItS z).stop i H/\nx σ H)\/((ItS z).go i H/\∃N:St->Hp->Prop,(∀σ' H',N σ' H'->∃m',m' < m/\W (i+1) m' σ' H')/\∀x H',(ItS z).yld i H x H'->g x σ H' λσ2 H2=>tb ⟨N,rt,nx,N⟩ σ2 H2):=by
 refine⟨λi m σ H=>m=z.cps.size - i/\i<=z.cps.size/\Pv i σ H,⟨z.cps.size,by simp,Sp9 _,h0⟩,?_⟩
 rintro i m σ H ⟨rfl,hi,p⟩
 by_cases hlt:i < z.cps.size
 ·refine .inr ⟨hlt,Pv (i+1),λσ' H' p'=>⟨z.cps.size - (i+1),by omega,rfl,hlt,p'⟩,λx H' y=>?_⟩
  obtain⟨e,c,hc,e2⟩:=y
  subst e e2
  exact hs i c σ _ hc p
 ·have e:i=z.cps.size:=by omega
  subst e
  exact .inl ⟨iI _,hd σ H p⟩
end L2
namespace L2
open PySem PySem.Spec PyProof.Rows
theorem aIo{P:Program}{w:World}{K:W.Frag}{mg:Str->Option Value}{base:Heap}{N:List Str}{qual:Str}{scope:Scope}{f:Addr}{cd:Value}{A:Around}{outer:List Env}{s s':Shared}{H H':Hp}{E:XK}{pins:List (Addr×Obj)}{σ:St}{e C:Addr}{od:Option Addr}
  (I:Inv (mQ (tR P w) P w K mg base N qual scope f cd A outer s H E) pins σ H' s') (F:aFj (mQ (tR P w) P w K mg base N qual scope f cd A outer s H E) pins H' s'.heap e) (he:H' e=some (fZ C od e)) (hE:E (.ref e) od H') :
  (mQ (tR P w) P w K mg base N qual scope f cd A outer s H E).xe (.ref e) s':=by
 obtain⟨C',od',oe,vs,T,oT,ts,he',ho,hd,h1,nT,TF,hT,g1,g2,g3⟩:=F.ex
 refine cM (zM (base:=base) I.ok.frames I.stack rfl ho hd h1 g1 g2 g3 nT ?_ λh2 h' k2 sz2 lf=>?_)
 ·refine jO ho hd h1 g1 g2 g3 λh' x k sz gT hx=>?_
  have I2:=I.trace TF hT k
  exact⟨e,C,od,H',oe,vs,T,_,_,rfl,I2.os,I2.bare,I2.base,I2.hok,he,(k e (Ne.symm nT)).trans ho,hd,h1,nT,TF.up,hT,gT,rfl,by rw[hx rfl];simp[g3],hE⟩
 ·have I2:=I.trace TF hT k2
  have ho2:h2.get? e=some oe:=(k2 e (Ne.symm nT)).trans ho
  have I3:=I2.aH4 (s:={ s' with heap:=h2 }) he ho2 lf
  obtain⟨vs2,T2,oT2,ts2,r1,r2,r3,r4,r5,r6,r7⟩:=lf.err
  rw[sz2] at r4
  have TF2:xE _ pins T2:=I.aH5 r4
  refine jO r1 rfl r2 r5 r6 r7 λh3 x k sz gT hx=>?_
  have I4:=I3.trace TF2 (I.hok.fresh r4) k
  exact⟨e,C,od,H',_,vs2,T2,_,_,rfl,I4.os,I4.bare,I4.base,I4.hok,he,(k e (Ne.symm r3)).trans r1,rfl,r2,r3,TF2.up,I.hok.fresh r4,gT,rfl,by rw[hx rfl];simp[r7],hE⟩
def aMh(X:Cx)(E:XK):Prop:=∀(pins:List (Addr×Obj)) (σ:St) (H:Hp) (s:Shared) (e C:Addr) (od:Option Addr),Inv X pins σ H s->aFj X pins H s.heap e->H e=some (fZ C od e)->E (.ref e) od H->X.xe (.ref e) s
theorem aJ9{P:Program}{w:World}{K:W.Frag}{mg:Str->Option Value}{base:Heap}{N:List Str}{qual:Str}{scope:Scope}{f:Addr}{cd:Value}{A:Around}{outer:List Env}{s:Shared}{H:Hp}{E:XK} :
  aMh (mQ (tR P w) P w K mg base N qual scope f cd A outer s H E) E:=λ_ _ _ _ _ _ _ I F he hE=>aIo I F he hE
def aDf(E:XK):TH:=λ_ _ H e=>∃C od,H e=some (fZ C od e)/\E (.ref e) od H
section
variable{X:Cx}{x:Str}{C0:Addr}{b₀:Stmt}{suite:List Stmt}{np pos:Pos}{rest:List ExceptHandler}{th:TH}{E:XK}
theorem aKa(hO:aMh X E):PHs X [] (aDf E):=by
 intro pins s σ H D e I F h
 obtain⟨C,od,he,hE⟩:=h
 obtain⟨C',od',oe,vs,T,oT,ts,he',ho,hd,h1,nT,TF,hT,g1,g2,g3⟩:=F.ex
 unfold handleBy PySem.passOn
 refine cM (wpAny_field ho hd h1 ?_)
 rw[fQ (by simp)]
 refine cM (jO ho hd h1 g1 g2 g3 λh' y k sz gT hy=>?_)
 refine wpAny_throw (hO pins σ H _ e C od (I.trace TF hT k) ⟨C',od',oe,vs,T,_,_,he',(k e (Ne.symm nT)).trans ho,hd,h1,nT,TF,hT,gT,rfl,by rw[St9];exact g3⟩ he hE)
def Cx.hnr(X:Cx)(e:Addr):Cx:={ X with A:=X.A.mark (some (.ref e)),calm:=false }
theorem Inv.hnr{pins:List (Addr×Obj)}{σ:St}{H:Hp}{s:Shared}{e:Addr}(I:Inv X pins σ H s):Inv (X.hnr e) pins σ H s:=
 ⟨⟨I.ok.mod,I.ok.kind,I.ok.glob,I.ok.blt,I.ok.above,I.ok.inj,I.ok.has,I.ok.cab,(λz=>Bool.noConfusion z),I.ok.frames,I.ok.stk,I.ok.exf,I.ok.bs,I.ok.bsz,I.ok.noex,I.ok.exfs,I.ok.rO,I.ok.frf⟩,I.os,I.bare,I.base,I.loc,I.cell,I.free,I.freeC,I.pin,I.hok,I.len⟩
theorem Inv.aD6{pins:List (Addr×Obj)}{σ:St}{H:Hp}{s:Shared}{e:Addr}(ok:X.Ok)(I:Inv (X.hnr e) pins σ H s):Inv X pins σ H s:=⟨ok,I.os,I.bare,I.base,I.loc,I.cell,I.free,I.freeC,I.pin,I.hok,I.len⟩
def aD7(K:W.Frag)(C0:Addr)(ts:Addr->TS)(th:TH):TH:=λD σ H e=>∃C od b,H e=some (fZ C od e)/\rD K C/\PySem.W.exmOne K (.ref C) (.ref C0)=some b/\if b=true then ts e D σ H else th D σ H e
theorem aMi{ts:Addr->TS}(hp:∀e:Addr,PassesOwnAt (model X.prog X.w) (X.A.mark (some (.ref e))) X.A X.env X.xe)(hg:Gl X x)(hm:X.mg x=some (.ref C0))(hs:∀e,PSs (X.hnr e) (b₀::suite) (ts e))(hr:PHs X rest th)(hdb:(x == ("__debug__" : Str))=false:=by decide) :
  PHs X (.ExceptHandler (some (.Name x np)) none (b₀::suite) pos::rest) (aD7 X.K C0 ts th):=by
 intro pins s σ H D e I F h
 obtain⟨C,od,b,he,Z,hx,q⟩:=h
 obtain⟨o,vs,g1,g2,g3,g4⟩:=vR (I.hok e _ he)
 have LT:PySem.W.Looks (model X.prog X.w) s.heap (typeOf (.ref e)) (.ref C):=by rw[<-g2];exact(PySem.W.Looks.ld g1).andThen .now
 refine wpAny_handleBy_cons (codeAny_handlers_test (nO (X:=X.hnd e) (I.hnd (e:=e)) hg hm ?_ hdb)) (by intro z;cases z)
 refine(PySem.W.exm_one I.rP LT hx).here ?_
 cases b with
 |false=>exact hr pins s σ H D e I F q
 |true=>
  refine codeAny_handlers_suite (aCs I F λs1 I1=>?_)
  refine Rs9 (hs e pins s1 _ H _ (I1.hnr (e:=e)) q) (λf s3 z=>?_) λx s3 z=>hp e x s3 z
  cases f with
  |next=>obtain⟨σ',H',I3,q3⟩:=z;exact⟨_,_,I3.aD6 I.ok,q3⟩
  |brk=>obtain⟨σ',H',I3,q3⟩:=z;exact⟨_,_,I3.aD6 I.ok,q3⟩
  |cont=>obtain⟨σ',H',I3,q3⟩:=z;exact⟨_,_,I3.aD6 I.ok,q3⟩
  |ret u=>obtain⟨v,σ',H',I3,r3,q3⟩:=z;exact⟨v,_,_,I3.aD6 I.ok,r3,q3⟩
theorem aNj{P:Program}{w:World}{K:W.Frag}{mg:Str->Option Value}{base:Heap}{N:List Str}{qual:Str}{scope:Scope}{f:Addr}{cd:Value}{A:Around}{outer:List Env}{s:Shared}{H:Hp}{E:XK}(e:Addr) :
  PassesOwnAt (model P w) ((mQ (tR P w) P w K mg base N qual scope f cd A outer s H E).A.mark (some (.ref e))) (mQ (tR P w) P w K mg base N qual scope f cd A outer s H E).A (mQ (tR P w) P w K mg base N qual scope f cd A outer s H E).env (mQ (tR P w) P w K mg base N qual scope f cd A outer s H E).xe:=
 PassesOwnAt.leaving
theorem aBR:entryFor table "proto.unchain" = some Builtin.«proto.unchain»:=entryFor_of_fast (by kernel_rfl)
theorem aFo{prog:Program}{w:World}{A:Around}{Ex:Value->Shared->Prop}{env:Env}{s:Shared}{x c:Sem Value}{Q:Flow->Shared->Prop}{K:W.Frag}{e0:Addr}(hh:A.handled=some (.ref e0))
  (h:wpAny (model prog w) A x (λv s₁=>wpAny (model prog w) A c (λcv s₂=>cv=.none/\∃e C oe vs o0 vs0,v=.ref e/\e0≠e/\K.In s₂.heap/\rZ K C=true/\s₂.heap.get? e=some oe/\oe.cls=.ref C/\oe.data=.fields vs/\vs.size=6/\vs[1]?=some .none/\s₂.heap.get? e0=some o0/\o0.data=.fields vs0/\vs0[2]?=some .none/\
   ∀h' vs',(∀b,b≠e->h'.get? b=s₂.heap.get? b)->h'.get? e=some { oe with data:=.fields vs' }->vs'[1]?=some .none->Ex (.ref e) { s₂ with heap:=h' }) Ex s₁) Ex s) :
  wpAny (model prog w) A (raiseStmt env (some x) (some c)) Q Ex s:=by
 unfold raiseStmt
 refine cM (Rs9 h (λv s₁ h₁=>?_) λ_ _ x=>x)
 refine cM (Sc9 (Rs9 h₁ (λcv s₂ h₂=>cM (jY ?_)) λ_ _ x=>x))
 obtain⟨rfl,e,C,oe,vs,o0,vs0,rfl,ne,X,hc,he,hcl,hd,hz,h1,he0,hd0,hx0,hE⟩:=h₂
 obtain⟨nm,qn,N,bs,bm,hdd,sn,sub,ab,col,dd,k0,k1,k2,k3,k5,hC,T⟩:=aBf X hc
 have hcB:(Value.ref C::bm).contains (.type "BaseException")=true:=by rw[List.contains_cons,T.hasType (b:=true) (by decide),Bool.or_true]
 obtain⟨hp,g,d,tk,os⟩:=s₂
 obtain⟨oc,od,odt,osl⟩:=oe
 cases hcl
 cases hd
 repeat (first|with_reducible refine wpAny_loadPart_at he ?_|with_reducible refine wpAny_loadPart_at hC ?_|(with_reducible refine wpAny_isSubtype_exc hC ?_;rw[hcB])|wp_step)
 have nC:e≠C:=λz=>by
  rw[z,hC] at he
  injection he with he
  injection he with _ _ he
  cases he
 have em:∀(i:Nat) (u:Value) (ws:Array Value),Obj.mapFields (·.setIfInBounds i u) { cls:=Value.ref C,dict:=od,data:=.fields ws,slots:=osl } = { cls:=Value.ref C,dict:=od,data:=.fields (ws.setIfInBounds i u),slots:=osl }:=λ_ _ _=>rfl
 have he1:(hp.update e (Obj.mapFields λx=>x.setIfInBounds 3 Value.none)).get? e=some { cls:=Value.ref C,dict:=od,data:=.fields (vs.setIfInBounds 3 Value.none),slots:=osl }:=Rr9 _ he rfl
 have he2:((hp.update e (Obj.mapFields λx=>x.setIfInBounds 3 Value.none)).update e (Obj.mapFields λx=>x.setIfInBounds 4 (Value.bool true))).get? e=some { cls:=Value.ref C,dict:=od,data:=.fields ((vs.setIfInBounds 3 Value.none).setIfInBounds 4 (Value.bool true)),slots:=osl }:=Rr9 _ he1 rfl
 have kp:∀b,b≠e->((hp.update e (Obj.mapFields λx=>x.setIfInBounds 3 Value.none)).update e (Obj.mapFields λx=>x.setIfInBounds 4 (Value.bool true))).get? b=hp.get? b:=λb hb=>(Qv9 _ _ (Ne.symm hb)).trans (Qv9 _ _ (Ne.symm hb))
 generalize (hp.update e (Obj.mapFields λx=>x.setIfInBounds 3 Value.none)).update e (Obj.mapFields λx=>x.setIfInBounds 4 (Value.bool true))=h2 at he2 kp ⊢
 have hC2:=(kp C (Ne.symm nC)).trans hC
 have he02:=(kp e0 ne).trans he0
 have v1:((vs.setIfInBounds 3 Value.none).setIfInBounds 4 (Value.bool true))[1]?=some Value.none:=by
  rw[Su9 (by decide),Su9 (by decide)]
  exact h1
 have vz:((vs.setIfInBounds 3 Value.none).setIfInBounds 4 (Value.bool true)).size=6:=by simp[hz]
 generalize (vs.setIfInBounds 3 Value.none).setIfInBounds 4 (Value.bool true)=ws at he2 v1 vz
 repeat (first|with_reducible refine wpAny_loadPart_at hC2 ?_|wp_step)
 rw[v1]
 refine jY ?_
 rw[fQ (by decide)]
 refine jY ?_
 unfold raiseNew
 refine cM (wpAny_handled ?_)
 rw[hh]
 show wpAny _ _ (if (Value.ref e0 != Value.ref e)=true then _ else _) _ _ _
 rw[gU (by simpa using ne)]
 refine cM (Sc9 (wpAny_runValue (codeAny_builtin aBR ?_)))
 refine(show wpAny _ _ (do let context <-field (.ref e0) 2;_) _ _ _ from cM (wpAny_field he02 hd0 hx0 ?_))
 rw[gU (by decide)]
 refine cM (jY ?_)
 refine jY ?_
 refine cM (show wpAny _ _ (setField (.ref e) 2 (.ref e0)) _ _ _ from Sy9 he2 rfl (by rw[vz];decide) ?_)
 refine wpAny_throw (hE _ (ws.setIfInBounds 2 (.ref e0)) (λb hb=>(Qv9 _ _ (Ne.symm hb)).trans (kp b hb)) (Rr9 _ he2 rfl) ?_)
 rw[Su9 (by decide)]
 exact v1
def aAU(K:W.Frag)(E:XK)(e0:Addr)(te:TE):TS:=λ_ σ H=>te σ H λv H1=>∃e C C0 dx,v=.ref e/\H1 e=some (iK C none e)/\rD K C/\H1 e0=some (fZ C0 (some dx) e0)/\E (.ref e) none (upd H1 e (fZ C none e))
theorem aGT{e0:Addr}{e c:Expr}{te:TE}(hx:Raises X E)(hk:X.A.handled=none)(he:PE (X.hnr e0) e te)(hc:PE (X.hnr e0) c (tC .non)):PS (X.hnr e0) (.Raise (some e) (some c) pos) (aAU X.K E e0 te):=by
 intro pins s σ H D I h
 have ok:X.Ok:=⟨I.ok.mod,I.ok.kind,I.ok.glob,I.ok.blt,I.ok.above,I.ok.inj,I.ok.has,I.ok.cab,(λ_=>hk),I.ok.frames,I.ok.stk,I.ok.exf,I.ok.bs,I.ok.bsz,I.ok.noex,I.ok.exfs,I.ok.rO,I.ok.frf⟩
 rw[arm_exec_Raise]
 refine cM (wpAny_standAt ?_)
 refine aFo (K:=X.K) (e0:=e0) rfl ?_
 refine cM (dY (he pins s σ H _ I h) λu s1 y=>?_)
 obtain⟨v,H1,I1,rv,a,C,C0,dx,ev,ea,Z,e0a,q⟩:=y
 subst ev
 obtain rfl:u=Value.ref a:=rv
 refine cM (wpAny_standAt (jY ?_))
 refine cM (dY (hc pins s1 σ H1 (λx H2=>x=.non/\H2=H1) I1 ⟨rfl,rfl⟩) λu s2 y=>?_)
 obtain⟨v,H2,I2,rv,rfl,rfl⟩:=y
 obtain rfl:u=Value.none:=rv
 refine cM (wpAny_standAt (jY ⟨rfl,?_⟩))
 obtain⟨o,t,h1,h2,h3,h4⟩:=aAS (I2.hok a _ ea)
 obtain⟨o0,vs0,g1,g2,g3,g4⟩:=vR (I2.hok e0 _ e0a)
 have ne:e0≠a:=λz=>by
  subst z
  rw[h1] at g1
  cases g1
  rw[h3] at g3
  cases g3
 refine⟨a,C,o,_,o0,vs0,rfl,ne,I2.rP,Z.made,h1,h2,h4,rfl,rfl,g1,g4,aDc (I2.hok e0 _ e0a) g1 g4 nofun,λh' vs' k ge v1=>?_⟩
 have I3:Inv (X.hnr e0) pins σ (upd H2 a (fZ C none a)) { s2 with heap:=h' }:=I2.write (x:=a) (e:=a) (h':=h') (t':=s2.toks) (by rw[ea];trivial) (.inl rfl) (λb u hb q=>(k b hb).trans q) ⟨_,ge⟩ (aAR ge h2 h3 rfl λn=>absurd rfl n)
 exact hx pins σ _ _ a C none _ vs' (I3.aD6 ok) aO ge rfl v1 q
end
section
variable{K:W.Frag}{σ:St}{H:Hp}{nx bk ct:St->Hp->Prop}{rt:VK}
theorem aGU{E:XK}{e0:Addr}{te:TE}(h:te σ H λv H1=>∃e C C0 dx,v=.ref e/\H1 e=some (iK C none e)/\rD K C/\H1 e0=some (fZ C0 (some dx) e0)/\E (.ref e) none (upd H1 e (fZ C none e))):aAU K E e0 te ⟨nx,rt,bk,ct⟩ σ H:=h
theorem aMj{D:Ends}{C0 C e:Addr}{od:Option Addr}{ts:Addr->TS}{th:TH}(he:H e=some (fZ C od e))(Z:rD K C)(hx:PySem.W.exmOne K (.ref C) (.ref C0)=some true)(h:ts e D σ H):aD7 K C0 ts th D σ H e:=⟨C,od,true,he,Z,hx,h⟩
theorem aMk{D:Ends}{C0 C e:Addr}{od:Option Addr}{ts:Addr->TS}{th:TH}(he:H e=some (fZ C od e))(Z:rD K C)(hx:PySem.W.exmOne K (.ref C) (.ref C0)=some false)(h:th D σ H e):aD7 K C0 ts th D σ H e:=⟨C,od,false,he,Z,hx,h⟩
theorem aIp{D:Ends}{E:XK}{C e:Addr}{od:Option Addr}(he:H e=some (fZ C od e))(h:E (.ref e) od H):aDf E D σ H e:=⟨C,od,he,h⟩
end
end L2
namespace L2.Z
open PySem PySem.Spec PyProof.Rows L2
section
variable{X:Cx}{x:Str}{C0 e0:Addr}{b₀:Stmt}{suite:List Stmt}{np pos:Pos}{rest:List ExceptHandler}{th:TH}{E:XK}{e c:Expr}{te:TE}{K':W.Frag}
theorem aFp(hO:aMh X E):QHs X [] (aDf E):=⟨L2.aKa hO⟩
theorem aGV{ts:Addr->TS}(hp:∀e:Addr,PassesOwnAt (model X.prog X.w) (X.A.mark (some (.ref e))) X.A X.env X.xe)(hg:Gl X x)(hm:X.mg x=some (.ref C0))(hs:∀e,QSs (X.hnr e) (b₀::suite) (ts e))(hr:QHs X rest th)(hdb:(x == ("__debug__" : Str))=false:=by decide)(hK:X.K=K':=by rfl) :
  QHs X (.ExceptHandler (some (.Name x np)) none (b₀::suite) pos::rest) (aD7 K' C0 ts th):=by subst hK;exact⟨L2.aMi hp hg hm (λe=>(hs e).h) hr.h hdb⟩
theorem aDg(hx:Raises X E)(hk:X.A.handled=none)(he:QE (X.hnr e0) e te)(hc:QE (X.hnr e0) c (tC .non))(hK:X.K=K':=by rfl):QS (X.hnr e0) (.Raise (some e) (some c) pos) (aAU K' E e0 te):=by subst hK;exact⟨L2.aGT hx hk he.h hc.h⟩
end
end L2.Z
namespace L2
open PySem PySem.Spec PyProof.Rows
section
variable{X:Cx}
theorem Inv.aNk{pins:List (Addr×Obj)}{σ:St}{H:Hp}{s:Shared}{ys:List V}{its:List Value}{t':Nat}(I:Inv X pins σ H s)(hv:Vals ys its)(hz:ys.length<=sizeLine) :
  Inv X pins σ (upd H s.heap.objs.size (.tup ys)) { s with heap:=s.heap.push { cls:=.type "tuple",data:=.seq its.toArray },toks:=t' }:=
 I.laid (λ_ _ q=>vG _ q) (iI _) ⟨hz,its,hv,⟨_,Qz9 _ rfl,rfl,⟨_,rfl⟩⟩⟩
theorem aIq(a b c:Str)(t u w:Tok):Vals [V.str a,V.str b,V.str c] [Value.str a t,Value.str b u,Value.str c w]:=.cons ⟨t,rfl⟩ (.cons ⟨u,rfl⟩ (.cons ⟨w,rfl⟩ .nil))
def aF2:V->List V->Hp->VK->Prop:=λx vs H Q=>∃(z y:Str),x=.str z/\vs=[.str y]/\(y.length == 0)=false/\z.length<=sizeLine/\∀p,H p=none->Q (.ref p) (upd H p (.tup [.str (Txt.partition z y).1,.str (Txt.partition z y).2.1,.str (Txt.partition z y).2.2]))
theorem aKb:MtM X "str.partition" aF2:=by
 intro pins s σ H x vs v us Q I rx rv h
 obtain⟨z,y,rfl,rfl,hy,hz,q⟩:=h
 obtain⟨t,rfl⟩:=rx
 obtain⟨u,rfl,ru⟩:=rv.one
 obtain⟨t2,rfl⟩:=ru
 have fr:H s.heap.objs.size=none:=I.hok.fresh (iI _)
 refine call_meets PySem.F.slot_str_partition (typeIs_str _ _ _) PySem.F.entry_str_partition (PySem.F.args_str_partition_2 _ _) (PySem.meets_str_partition z y t t2 hy hz) ?_
 have h':=q _ fr
 unfold Txt.partition at h'
 revert h'
 cases Builtin.Str.occurrences z y 0 z.length 1 with
 |nil=>intro h';exact⟨.ref s.heap.objs.size,_,I.aNk (aIq _ _ _ _ _ _) (aX (by simp)),rfl,h'⟩
 |cons i r=>intro h';exact⟨.ref s.heap.objs.size,_,I.aNk (aIq _ _ _ _ _ _) (aX (by simp)),rfl,h'⟩
variable{o e:Expr}{to:TE}{t:TA}{apos cpos:Pos}
theorem aKc(ho:PE X o to)(ha:PA X [e] t)(hn:noStar e=true:=by rfl)(hbase:attributeBase o "partition" X.env (eval o X.env)=eval o X.env:=by rfl)(hline:(apos.endLine == cpos.line)=true:=by rfl) :
  PE X (.Call (.Attribute o "partition" apos) [e] [] cpos) (tBM X.K "str" aF2 to t):=
 aDS PySem.F.plainAttrs_str PySem.F.slot_str_partition PySem.F.type_str_partition aKb ho ha hbase (by rw[bV hn];rfl) hline (bV hn) (by rfl)
def tFs(c:Str)(ta tb:TE):TE:=λσ H Q=>ta σ H λx H1=>∃i:Int,x=.int i/\i.natAbs.log2 < 1920/\(Str.ofString (toString i)).length<=1000/\c.length<=1000/\tb σ H1 λy H2=>∃j:Int,y=.int j/\j.natAbs.log2 < 1920/\(Str.ofString (toString j)).length<=1000/\Q (.str (Str.empty++Str.ofString (toString i)++c++Str.ofString (toString j))) H2
theorem aNl{a b:Expr}{ta tb:TE}{c:Str}{k:Nat}{p1 p2 p3 pos:Pos}(ha:PE X a ta)(hb:PE X b tb):PE X (.JoinedStr [.FormattedValue a (-1) none p1,.Constant (.str c) k p2,.FormattedValue b (-1) none p3] pos) (tFs c ta tb):=by
 intro pins s σ H Q I h
 have l0:Str.empty.length=0:=rfl
 refine JoinedStr_many (joinParts_cons (FormattedValue_plain (dY (ha pins s σ H _ I h) λu s1 y=>?_)))
 obtain⟨x,H1,I1,r1,i,rfl,hi,li,lc,q1⟩:=y
 obtain⟨t1,rfl⟩:=(show ∃t,u=Value.int i t from r1)
 refine formatField_int_small hi ?_
 refine⟨aX (by rw[strLen_append,l0];omega),?_⟩
 refine joinParts_cons (dY (aG7 (X:=X) pins _ σ H1 (λv H2=>v=.str c/\H2=H1) (I1.tok _) ⟨rfl,rfl⟩) λu s2 y=>?_)
 obtain⟨v,H2,I2,r2,rfl,rfl⟩:=y
 obtain⟨t2,rfl⟩:=(show ∃t,u=Value.str c t from r2)
 refine⟨aX (by rw[strLen_append,strLen_append,l0];omega),?_⟩
 refine joinParts_cons (FormattedValue_plain (dY (hb pins s2 σ H2 _ I2 q1) λu s3 y=>?_))
 obtain⟨x,H3,I3,r3,j,rfl,hj,lj,q2⟩:=y
 obtain⟨t3,rfl⟩:=(show ∃t,u=Value.int j t from r3)
 refine formatField_int_small hj ?_
 refine⟨aX (by rw[strLen_append,strLen_append,strLen_append,l0];omega),?_⟩
 exact joinParts_nil ⟨.str _,H3,I3.tok _,⟨_,rfl⟩,q2⟩ (aX (by rw[strLen_append,strLen_append,strLen_append,l0];omega))
end
section
variable{K:W.Frag}{σ:St}{H:Hp}{Q:VK}
theorem aIr{z y:Str}(h1:(y.length == 0)=false)(h2:z.length<=sizeLine)(h:∀p,H p=none->Q (.ref p) (upd H p (.tup [.str (Txt.partition z y).1,.str (Txt.partition z y).2.1,.str (Txt.partition z y).2.2]))):aF2 (.str z) [.str y] H Q:=⟨z,y,rfl,rfl,h1,h2,h⟩
theorem aNm{c:Str}{ta tb:TE}(h:ta σ H λx H1=>∃i:Int,x=.int i/\i.natAbs.log2 < 1920/\(Str.ofString (toString i)).length<=1000/\c.length<=1000/\tb σ H1 λy H2=>∃j:Int,y=.int j/\j.natAbs.log2 < 1920/\(Str.ofString (toString j)).length<=1000/\Q (.str (Str.empty++Str.ofString (toString i)++c++Str.ofString (toString j))) H2):tFs c ta tb σ H Q:=h
end
end L2
namespace L2.Z
open PySem PySem.Spec PyProof.Rows L2
section
variable{X:Cx}{o e a b:Expr}{to ta tb:TE}{t:TA}{apos cpos p1 p2 p3 pos:Pos}{c:Str}{k:Nat}{K':W.Frag}
theorem aD8(ho:QE X o to)(ha:QA X [e] t)(hn:noStar e=true:=by rfl)(hbase:attributeBase o "partition" X.env (eval o X.env)=eval o X.env:=by rfl)(hline:(apos.endLine == cpos.line)=true:=by rfl)(hK:X.K=K':=by rfl) :
  QE X (.Call (.Attribute o "partition" apos) [e] [] cpos) (tBM K' "str" aF2 to t):=by subst hK;exact⟨L2.aKc ho.h ha.h hn hbase hline⟩
theorem aIs(ha:QE X a ta)(hb:QE X b tb):QE X (.JoinedStr [.FormattedValue a (-1) none p1,.Constant (.str c) k p2,.FormattedValue b (-1) none p3] pos) (tFs c ta tb):=⟨L2.aNl ha.h hb.h⟩
end
end L2.Z
namespace L2
open PySem PySem.Spec PyProof.Rows
section
variable{X:Cx}
theorem aD9{pins:List (Addr×Obj)}{σ:St}{H:Hp}{s:Shared}{A:Around}(I:Inv X pins σ H s)(hu:A.units < cLine):∀{xs:List V}{us:List Value},Vals xs us->(∀v∈xs,v=.non\/∃a ys,v=.ref a/\H a=some (.lst ys))->(∀u∈us,SeqAt.EqAt A s u .none (eN u))/\us.any eN=xs.any vN
 |_,_,.nil,_=>⟨λu hu=>by(cases hu),rfl⟩
 |x::xs,u::us,.cons r t,h=>by
  obtain⟨h1,h2⟩:=aD9 I hu t λv hv=>h v (.tail _ hv)
  have key:SeqAt.EqAt A s u .none (eN u)/\eN u=vN x:=by
   rcases h x (.head _) with rfl|⟨a,ys,rfl,ha⟩
   ·cases r
    exact⟨SeqAt.EqAt.same _,rfl⟩
   ·obtain rfl:u=Value.ref a:=r
    obtain⟨its,r2,pl,hz⟩:=I.list (bQ.of (K:=X.K) ha)
    exact⟨SeqAt.EqAt.list_none pl.isList hu,rfl⟩
  refine⟨λu' hu'=>?_,by rw[Td9,Td9,h2,key.2]⟩
  rcases rN.mp hu' with rfl|q
  ·exact key.1
  ·exact h1 u' q
def aIt(K:W.Frag):R2:=λx y H Q=>∃(p:Addr) (xs:List V),x=.non/\y=.ref p/\bQ K H p xs/\(∀v∈xs,v=.non\/∃a ys,v=.ref a/\H a=some (.lst ys))/\Q (.bl (xs.any vN)) H
theorem aKd(hu:X.A.units+9 < cLine):pU X (compareOp .In) (aIt X.K):=by
 intro pins s σ H x y v u Q I rx ry h
 obtain⟨p,xs,rfl,rfl,hS,hv,q⟩:=h
 cases ry
 cases rx
 obtain⟨its,r,pl,hz⟩:=I.list hS
 obtain⟨h1,h2⟩:=aD9 (A:=X.A.in1) I (by show X.A.units+1 < cLine;omega) r hv
 refine SeqAt.in_listAt eN pl.isList (λw hw=>h1 w (by simpa using hw)) ⟨.bl _,H,I,rfl,?_⟩
 rw[show its.toArray.any eN=its.any eN by simp,h2]
 exact q
theorem aKe{K:W.Frag}{H:Hp}{Q:VK}{p:Addr}{xs:List V}(h1:bQ K H p xs)(h2:∀v∈xs,v=.non\/∃a ys,v=.ref a/\H a=some (.lst ys))(h:Q (.bl (xs.any vN)) H):aIt K .non (.ref p) H Q:=⟨p,xs,rfl,rfl,h1,h2,h⟩
end
end L2
namespace L2
open PySem PySem.Spec PyProof.Rows
section
variable{X:Cx}
def aIu:List V->Hp->VK->Prop:=λxs H Q=>∃(l:Addr) (ks:List Int),xs=[.ref l]/\H l=some (.lst (ks.map V.int))/\ks.length < 64/\
 ∀(p:Addr) (zs:List Int),H p=none->zs.Perm ks->zs.Pairwise (·<=·)->Q (.ref p) (upd H p (.lst (zs.map V.int)))
theorem aAl:eR X (.builtin "sorted") aIu:=by
 intro pins s σ H xs us Q I r h
 obtain⟨l,ks,rfl,hl,h64,q⟩:=h
 obtain⟨u,rfl,ru⟩:=vals1 r
 cases ru
 obtain⟨z,its,n,rv,hlen,e⟩:=I.aHw hl
 have hI:IntsAre its ks:=by simpa using intsAre_of rv
 have hv:its.length=ks.length:=by rw[<-rv.length,cC]
 refine Calls.call_function_entry kind_sorted plain_sorted entry_sorted (args_sorted1 (.ref l)) ?_
 unfold Builtin.«sorted»
 refine cM (m:=checkCount "sorted" 1 1 _) (jY (cM (collect_list (vs:=its) ⟨_,e,rfl,_,rfl⟩ (cM (wpAny_newList ?_ (by rw[hv,Tu9];omega))) (by rw[hv,Tu9];omega))))
 generalize hh1:(s.heap.push (seqObj "list" #[] 0)).update s.heap.objs.size (Obj.mapSeq (·++ its.toArray))=h1
 have z1:h1.objs.size=s.heap.objs.size+1:=by rw[<-hh1,Ts9,size_push']
 have kk:∀b o,s.heap.get? b=some o->h1.get? b=some o:=λb o g=>by
  have lb:=kW g
  rw[<-hh1,Heap.get?_update_ne _ _ _ _ (wG lb)]
  exact vG _ g
 have gD:(h1.push (seqObj "list" its.toArray 0)).get? h1.objs.size=some (seqObj "list" its.toArray 0):=Qz9 _ rfl
 refine cM (Sc9 (wpAny_call_entry (s:={ s with heap:=h1.push (seqObj "list" its.toArray 0) }) slot_list_sort ⟨_,gD,rfl⟩ entry_list_sort (list_sort_tree gD hI (by omega) λout zs a1 a2 a3=>⟨_,rfl,?_⟩) (args_list_sort (.ref h1.objs.size))))
 refine jY ⟨_,rfl,?_⟩
 obtain⟨c,hc2⟩:=sortedHeap_at (out:=out) gD
 have hp:=a2.length_eq
 obtain⟨hn,I2⟩:=I.aKx (t':=s.toks) (h':=sortedHeap (h1.push (seqObj "list" its.toArray 0)) h1.objs.size its out) (a:=h1.objs.size) (o:=.lst (zs.map V.int)) (λb ob g=>by
   have hlt:=kW (kk b ob g)
   rw[sortedHeap_old (wG hlt) (by rw[size_push'];exact Ss9 hlt)]
   exact vG _ (kk b ob g)) (λb ob g=>wG (kW (kk b ob g)))
  ⟨by rw[cC];omega,out.toList,c,zI a1,by rw[Array.toArray_toList];exact hc2⟩
 exact⟨.ref h1.objs.size,_,I2,rfl,q _ zs hn a2 a3⟩
theorem aEa{H:Hp}{Q:VK}{l:Addr}{ks:List Int}(h1:H l=some (.lst (ks.map V.int)))(h2:ks.length < 64)(h:∀(p:Addr) (zs:List Int),H p=none->zs.Perm ks->zs.Pairwise (·<=·)->Q (.ref p) (upd H p (.lst (zs.map V.int)))):aIu [.ref l] H Q:=⟨l,ks,rfl,h1,h2,h⟩
end
end L2
namespace L2
open PySem PySem.Spec PyProof.Rows
section
theorem aFq{prog:Program}{w:World}{A:Around}{E:Value->Shared->Prop}{s:Shared}{l:Addr}{xs:Array (Int×Tok)}{Q:Value->Shared->Prop}(hh:A.handled=none)(hl:s.heap.IsTuple l (intItems xs))(hne:0 < xs.size)
  (h:∀v h' tk,(intItems xs)[argBest (λi j=>decide (numAt xs i > numAt xs j)) (xs.size - 1)]?=some v->(∀b o,s.heap.get? b=some o->h'.get? b=some o)->Q v { s with heap:=h',toks:=tk }) :
  wpAny (model prog w) A (call (.builtin "max") [.ref l]) Q E s:=by
 have hlt:l < s.heap.objs.size:=by obtain⟨_,e,_⟩:=hl;exact kW e
 refine call_max_walk (wpAny_pyIter_tuple hl ?_)
 refine⟨_,[s.heap.objs.size,l],[s.heap.objs.size],_,_,_,_,rfl,Walks.tuple (A:=A.in1) hh s.heap.objs.size l (wG hlt) (intItems xs),⟨⟨_,Qz9 _ rfl,rfl,rfl⟩,hl.push _⟩,λb hb=>?_,by simpa [intItems] using hne,CmpOf.ints_gt (numAt xs) (λ_ _=>intItems_at),λv h' tk hP hk=>?_⟩
 ·show b < (s.heap.push _).objs.size
  rw[Sx9]
  rcases rN.mp hb with rfl|hb
  ·exact Se9 _
  ·rcases rN.mp hb with rfl|hb
   ·exact Ss9 hlt
   ·cases hb
 ·refine h v h' tk (by simpa [intItems] using hP) λb o e=>?_
  refine hk b o (λhm=>?_) (vG _ e)
  rcases rN.mp hm with e1|hm
  ·exact absurd (e1▸kW e) (Rq9 _)
  ·cases hm
variable{X:Cx}
def aIv(K:W.Frag):List V->Hp->VK->Prop:=λvs H Q=>∃(p:Addr) (ns:List Int),vs=[.ref p]/\mY K H p (ns.map V.int)/\ns≠[]/\∀m,m∈ns->(∀x∈ns,x<=m)->Q (.int m) H
theorem aGW(hc:X.calm=true):eR X (.builtin "max") (aIv X.K):=by
 intro pins s σ H vs us Q I r h
 obtain⟨p,ns,rfl,hq,hne,q⟩:=h
 obtain⟨u,rfl,rx⟩:=vals1 r
 cases rx
 obtain⟨its,r',pl,hz⟩:=I.tuple hq
 have hi:=intsAre_of r'
 obtain⟨xs,hx⟩:=hi.allInts.items
 have e1:ns=xs.toList.map (·.1):=by rw[<-nums_intItems,<-hx];exact(show numsOf its.toArray.toList=ns from hi.numsOf).symm
 have hsz:0 < xs.size:=by
  have z:=Sj9.mpr hne
  rw[e1,cC,wY] at z
  exact z
 refine aFq (I.ok.hd hc) (hx▸pl:s.heap.IsTuple p (intItems xs)) hsz λv h' tk hv hk=>?_
 obtain⟨t,rfl⟩:=intItems_at hv
 obtain⟨h1,h2⟩:=argBest_gt (numAt xs) (xs.size - 1)
 refine⟨.int _,H,I.kept (t':=tk) hk,⟨t,rfl⟩,q _ ?_ λx hx'=>?_⟩
 ·rw[e1,numAt_eq];exact getD_mem (by rw[cC,wY];omega)
 ·rw[e1] at hx'
  obtain⟨j,hj,rfl⟩:=mem_getD hx'
  rw[cC,wY] at hj
  rw[<-numAt_eq];exact h2 j (by omega)
theorem aKf{K:W.Frag}{H:Hp}{Q:VK}{p:Addr}{ns:List Int}(h1:mY K H p (ns.map V.int))(hne:ns≠[])(h:∀m,m∈ns->(∀x∈ns,x<=m)->Q (.int m) H):aIv K [.ref p] H Q:=⟨p,ns,rfl,h1,hne,h⟩
end
end L2
local macro_rules | `(tactic| walk_at "ne") => `(tactic| first
  | assumption
  | (refine Ne.symm ?_; assumption)
  | exact L2.cQ (by assumption) (by walk_at "hp")
  | exact Ne.symm (L2.cQ (by assumption) (by walk_at "hp")))
local macro_rules | `(tactic| walk_at "hp") => `(tactic| first
  | assumption
  | exact L2.aO
  | (refine Eq.trans (L2.aU (by walk_at "ne")) ?_; walk_at "hp")
  | (refine L2.aT.at (by assumption) ?_; walk_at "hp")
  | (refine L2.cJ.at (by assumption) ?_ (by walk_at "ne"); walk_at "hp"))
local macro_rules | `(tactic| walk_at "sq") => `(tactic| first
  | assumption
  | exact L2.bQ.of (by walk_at "hp")
  | exact L2.mY.of (by walk_at "hp")
  | exact L2.aT.seq (by assumption) (by walk_at "sq"))
local macro_rules | `(tactic| walk_at "cnd") => `(tactic| first
  | omega
  | decide
  | (simp only [List.length_map]; omega)
  | (refine ⟨?_, ?_⟩ <;> first | omega | decide)
  | (refine Or.inl ⟨?_, ?_⟩ <;> first | omega | decide)
  | (refine Or.inr ⟨?_, ?_⟩ <;> first | omega | decide)
  | (refine ⟨?_, ?_, ?_⟩ <;> first | omega | decide))
local macro_rules | `(tactic| walk_at "sz") => `(tactic| (refine L2.aX ?_; first | decide | (simp only [List.length_cons, List.length_nil, List.length_append]; omega) | omega))
local macro_rules | `(tactic| walk_at "rd") => `(tactic| (with_reducible first
  | refine L2.aJw ?_
  | refine L2.rd_par ?_
  | refine L2.aLy ?_
  | refine L2.aJx ?_
  | refine L2.aLz ?_
  | refine L2.rd_retN ?_
  | refine L2.rd_break ?_
  | refine L2.rd_cont ?_
  | refine L2.aLA ?_
  | refine L2.aJy ?_
  | refine L2.aLB ?_
  | refine L2.aJz ?_
  | refine L2.aHJ ?_
  | refine L2.aJA ?_
  | refine L2.rd_updT ?_
  | refine L2.aJ6 ?_
  | refine L2.aLD ?_
  | refine L2.aNy ?_
  | refine L2.aMS ?_
  | refine L2.aMT ?_
  | refine L2.aLF ?_
  | refine L2.aMV ?_
  | refine L2.aJB ?_
  | refine L2.aMW ?_
  | refine L2.aGC ?_
  | refine L2.aJD ?_
  | refine L2.rd_partN ?_
  | refine L2.rd_pnN ?_
  | refine L2.rd_pnI ?_
  | refine L2.aJE ?_
  | refine L2.aLJ ?_
  | refine L2.aJF ?_
  | refine L2.rd_ifE ?_
  | refine L2.aHK ?_
  | refine L2.aJG ?_
  | refine L2.aMX ?_
  | refine L2.aLK ?_
  | refine L2.aMY ?_
  | refine L2.aLL ?_
  | refine L2.aLM ?_
  | refine L2.aMZ ?_
  | refine L2.aJH ?_
  | refine L2.aM0 ?_
  | refine L2.aM1 ?_
  | refine L2.rd_bl2 ?_
  | refine L2.aLN ?_
  | refine L2.aJI ?_
  | refine L2.aLO ?_
  | refine L2.aLP ?_
  | refine L2.aJJ ?_
  | refine L2.aM2 ?_
  | refine L2.aJK ?_
  | refine L2.aGI ?_
  | refine L2.aHS ?_
  | refine L2.aHL ?_
  | refine L2.aHM ?_
  | refine L2.aLQ ?_
  | refine L2.aHz ?_
  | refine L2.aJp ?_
  | refine L2.aM8 ?_
  | refine L2.aM9 ?_
  | refine L2.aM7 ?_
  | refine L2.aHR ?_
  | refine L2.rd_rng ?_
  | refine L2.aJR ?_
  | refine L2.aJS ?_
  | refine L2.aMa ?_
  | refine L2.aJ1 ?_
  | refine L2.aH9 ?_
  | refine L2.aJ2 ?_
  | refine L2.aMb ?_
  | refine L2.aIa ?_
  | refine L2.aIb ?_))
local macro_rules | `(tactic| walk_at "st") => `(tactic| first
  | walk_at "rd"
  | ((with_reducible refine L2.aNd (b := ?b) ?t ?_); (case t => assumption))
  | ((with_reducible refine L2.aLE (v := ?v) ?e ?_); (case e => rfl))
  | ((with_reducible refine L2.aHI (σ' := ?s) ?e ?_); (case e => first | (simp only [List.set_cons_zero, List.set_cons_succ]; rfl) | rfl))
  | ((with_reducible refine L2.aMU ?c ?_); (case c => walk_at "cnd"))
  | ((with_reducible refine L2.aJC ?c ?_); (case c => walk_at "cnd"))
  | ((with_reducible refine L2.aA9 (xs := ?xs) (v := ?v) ?a ?b ?_); (case a => walk_at "sq"); (case b => first | rfl | assumption))
  | ((with_reducible refine L2.aLI (xs := ?xs) (v := ?v) ?a ?b ?_); (case a => walk_at "sq"); (case b => first | rfl | assumption))
  | (with_reducible refine L2.aLR ?_)
  | (with_reducible refine L2.aLS ?_)
  | (with_reducible refine L2.aLT ?_)
  | (with_reducible refine L2.rd_intI ?_)
  | (with_reducible refine L2.rd_intB ?_)
  | ((with_reducible refine L2.aJN (xs := ?xs) ?a ?_); (case a => walk_at "sq"))
  | ((with_reducible refine L2.aJO (xs := ?xs) ?a ?_); (case a => walk_at "sq"))
  | (with_reducible refine L2.aLV ?_)
  | (with_reducible refine L2.aLW ?_)
  | ((with_reducible refine L2.aLG ?a ?b ?_); (case a => rfl); (case b => rfl))
  | ((with_reducible refine L2.aLH ?a ?b ?_); (case a => rfl); (case b => rfl))
  | ((with_reducible refine L2.aNc (b := ?b) ?e ?_); (case e => rfl))
  | ((with_reducible refine L2.aHW (b := ?b) ?e ?_); (case e => rfl))
  | ((with_reducible refine L2.aJL ?c ?_); (case c => walk_at "sz")))
local macro_rules | `(tactic| walk_at "go") => `(tactic| first
  | (with_reducible refine L2.aJX (fun _ _ => ?_))
  | walk_at "st")
local macro_rules | `(tactic| walk_at "w") => `(tactic| repeat walk_at "go")
local macro_rules | `(tactic| walk_at "gs") => `(tactic| first
  | walk_at "go"
  | ((with_reducible refine L2.aNa ?e ?_); (case e => rfl))
  | ((with_reducible refine L2.aNb ?e ?_); (case e => rfl)))
namespace My
open PySem L2 L2.Z
def top(i:Nat):Stmt:=PySem.Challenge.pw_stintwise_k99_works_as_lines.main.body.getD i (.Pass ⟨0,0,0,0⟩)
abbrev hU:Stmt:=top 37
abbrev jS:Stmt:=top 38
abbrev lE:Stmt:=top 39
abbrev lF:Stmt:=top 6
abbrev jT:Stmt:=top 7
abbrev iL:Stmt:=inClass (top 3) 0
abbrev hV:Stmt:=top 27
abbrev gG:Stmt:=top 40
abbrev eJ:Stmt:=top 41
abbrev gH:Stmt:=top 42
abbrev o6:Stmt:=top 11
abbrev lG:Stmt:=top 12
abbrev eU:Stmt:=top 13
abbrev fK:Stmt:=inClass (top 14) 0
abbrev lH:Stmt:=top 17
abbrev iM:Stmt:=inClass (top 18) 0
abbrev d9:Stmt:=top 21
abbrev iN:Stmt:=inClass (top 22) 0
abbrev dI:Stmt:=top 29
abbrev fS:Stmt:=top 30
abbrev fT:Stmt:=top 31
abbrev eK:Stmt:=top 28
abbrev iO:Stmt:=top 32
abbrev dJ:Stmt:=top 33
abbrev fU:Stmt:=top 34
abbrev fV:Stmt:=top 35
abbrev gI:Stmt:=top 43
abbrev bY:Stmt:=top 44
abbrev hX:Stmt:=top 45
abbrev jU:Stmt:=top 46
abbrev fN:Stmt:=top 47
abbrev gJ:Stmt:=top 48
abbrev gK:Stmt:=top 52
abbrev cG:Stmt:=top 49
abbrev cK:Stmt:=top 50
abbrev iP:Stmt:=top 51
abbrev iQ:Stmt:=top 53
abbrev aCz:Stmt:=top 54
theorem iR:bK ["_law_script","_law_place","_law_cells","_law_at","_law_digits"] ["_law_script","_law_place"] (aH hU):={}
theorem iS:bK ["_law_hand","_law_many","_law_got","_law_cell","_law_number_here"] ["_law_hand","_law_many"] (aH jS):={}
theorem pV:bK ["_law_hand","_law_bound","_law_total","_law_k"] ["_law_hand","_law_bound"] (aH lE):={}
theorem aEb:bK ["thing"] ["thing"] (aH lF):={}
theorem aDh:bK ["thing"] ["thing"] (aH jT):={}
theorem aBS:bK ["self","at"] ["self","at"] (aH iL):={}
theorem aDi:bK ["word"] ["word"] (aH hV):={}
theorem uM:bK ["_law_word","_law_sign"] ["_law_word"] (aH gG):={}
theorem lI:bK ["_law_hand","_law_signs"] ["_law_hand"] (aH eJ):={}
theorem eB:bK ["_law_hand","_law_line_here","_law_way","_law_at","_law_sign","_law_words","_law_k"] ["_law_hand","_law_line_here"] (aH gH):={}
theorem aFr:bK ["thing"] ["thing"] (aH o6):={}
theorem aEc:bK ["thing"] ["thing"] (aH lG):={}
theorem aBT:bK ["thing"] ["thing"] (aH eU):={}
theorem gC:bK ["self","up","down","begin","run","rest","least","pieces","spans","costs","at","fits"] ["self","up","down","begin","run","rest","least","pieces"] (aH fK):={}
theorem aEd:bK ["thing"] ["thing"] (aH lH):={}
theorem lO:bK ["self","cap","into","out","takes","gives","depths","at","fits"] ["self","cap","into","out","takes","gives"] (aH iM):={}
theorem aAE:bK ["thing"] ["thing"] (aH d9):={}
theorem lQ:bK ["self","machines","store","lack","is_store","at","fits"] ["self","machines","store","lack"] (aH iN):={}
theorem nG:bK ["machine","costs","words"] ["machine"] (aH dI):={}
theorem wK:bK ["store","values"] ["store"] (aH fS):={}
theorem wL:bK ["works","parts"] ["works"] (aH fT):={}
theorem zP:bK ["word","ahead"] ["word","ahead"] (aH eK):={}
theorem wM:bK ["word","parts"] ["word"] (aH iO):={}
theorem jA:bK ["part","words","values","pieces"] ["part"] (aH dJ):={}
theorem qQ:bK ["part","words","values"] ["part"] (aH fU):={}
theorem qR:bK ["line","parts","machines"] ["line"] (aH fV):={}
theorem aBi:bK ["_law_hand"] ["_law_hand"] (aH gI):={}
theorem hZ:bK ["_law_hand","_law_spec_here","_law_rates"] ["_law_hand"] (aH bY):={}
theorem nR:bK ["_law_hand","_law_specs","_law_store"] ["_law_hand"] (aH hX):={}
theorem kC:bK ["_law_spec_here","_law_machines","_law_one","_law_store"] ["_law_spec_here"] (aH jU):={}
theorem dG:bK ["_law_spec_here","_law_line_here","_law_one","_law_amount_here","_law_rate"] ["_law_spec_here"] (aH fN):={}
theorem iC:bK ["_law_works","_law_specs","_law_one","_law_store"] ["_law_works"] (aH gJ):={}
theorem aBj:bK ["_law_some","_law_at"] ["_law_some","_law_at"] (aH gK):={}
theorem bU:bK ["_law_part","_law_words","_law_word","_law_some","_law_pieces","_law_amount_here","_law_colon","_law_rate","_law_rates"] ["_law_part"] (aH cG):={}
theorem cO:bK ["_law_line_here","_law_parts","_law_specs","_law_lack","_law_store","_law_words"] ["_law_line_here"] (aH cK):={}
theorem lR:bK ["_law_line_here","_law_due","_law_told","e"] ["_law_line_here"] (aH iP):={}
theorem i0:bK ["_law_hand","_law_line_here","_law_way","_law_words","_law_parts","_law_at"] ["_law_hand","_law_line_here"] (aH iQ):={}
theorem uN:bK ["_law_script","_law_line_here","_law_place","_law_hand","_law_spec_here","_law_works","_law_k"] ["_law_script"] (aH aCz):={}
theorem zQ:∀us:List Value,us.length=1->∃a0,us=[a0]
 |[a0],_=>⟨a0,rfl⟩
theorem zq2{n:Nat}:∀{us:List Value},us.length=n+1->∃a r,us=a::r/\r.length=n
 |a::r,h=>⟨a,r,rfl,Nat.succ.inj h⟩
theorem ar1(us:List Value)(h:us.length=1):∃a0,us=[a0]:=by obtain⟨a,r,rfl,g⟩:=zq2 h;cases List.eq_nil_of_length_eq_zero g;exact⟨a,rfl⟩
theorem ar2(us:List Value)(h:us.length=2):∃a0 a1,us=[a0,a1]:=by obtain⟨a0,r,rfl,g⟩:=zq2 h;obtain⟨a1,rfl⟩:=ar1 r g;exact⟨a0,a1,rfl⟩
theorem ar3(us:List Value)(h:us.length=3):∃a0 a1 a2,us=[a0,a1,a2]:=by obtain⟨a0,r,rfl,g⟩:=zq2 h;obtain⟨a1,a2,rfl⟩:=ar2 r g;exact⟨a0,a1,a2,rfl⟩
theorem ar4(us:List Value)(h:us.length=4):∃a0 a1 a2 a3,us=[a0,a1,a2,a3]:=by obtain⟨a0,r,rfl,g⟩:=zq2 h;obtain⟨a1,a2,a3,rfl⟩:=ar3 r g;exact⟨a0,a1,a2,a3,rfl⟩
theorem ar5(us:List Value)(h:us.length=5):∃a0 a1 a2 a3 a4,us=[a0,a1,a2,a3,a4]:=by obtain⟨a0,r,rfl,g⟩:=zq2 h;obtain⟨a1,a2,a3,a4,rfl⟩:=ar4 r g;exact⟨a0,a1,a2,a3,a4,rfl⟩
theorem ar6(us:List Value)(h:us.length=6):∃a0 a1 a2 a3 a4 a5,us=[a0,a1,a2,a3,a4,a5]:=by obtain⟨a0,r,rfl,g⟩:=zq2 h;obtain⟨a1,a2,a3,a4,a5,rfl⟩:=ar5 r g;exact⟨a0,a1,a2,a3,a4,a5,rfl⟩
theorem ar7(us:List Value)(h:us.length=7):∃a0 a1 a2 a3 a4 a5 a6,us=[a0,a1,a2,a3,a4,a5,a6]:=by obtain⟨a0,r,rfl,g⟩:=zq2 h;obtain⟨a1,a2,a3,a4,a5,a6,rfl⟩:=ar6 r g;exact⟨a0,a1,a2,a3,a4,a5,a6,rfl⟩
theorem ar8(us:List Value)(h:us.length=8):∃a0 a1 a2 a3 a4 a5 a6 a7,us=[a0,a1,a2,a3,a4,a5,a6,a7]:=by obtain⟨a0,r,rfl,g⟩:=zq2 h;obtain⟨a1,a2,a3,a4,a5,a6,a7,rfl⟩:=ar7 r g;exact⟨a0,a1,a2,a3,a4,a5,a6,a7,rfl⟩
set_option genInjectivity false in
set_option genSizeOf false in
structure sC where
 pX:Addr
 pY:FuncData
 pZ:Addr
 p0:FuncData
 sD:Addr
 sE:FuncData
 sG:Addr
 sI:FuncData
 p9:Addr
 qA:FuncData
 kD:Addr
 nS:FuncData
 qB:Addr
 qC:FuncData
 lT:Addr
 lU:FuncData
 jB:Addr
 jC:FuncData
 lV:Addr
 lX:FuncData
 vT:Addr
 vU:FuncData
 sJ:Addr
 sL:FuncData
 nU:Addr
 nV:FuncData
 kE:Addr
 kF:FuncData
 sM:Addr
 sO:FuncData
 nW:Addr
 nX:FuncData
 kG:Addr
 kH:FuncData
 nY:Addr
 nZ:FuncData
 kI:Addr
 kJ:FuncData
 n0:Addr
 oA:FuncData
 oB:Addr
 oE:FuncData
 jD:Addr
 jE:FuncData
 oF:Addr
 oG:FuncData
 kK:Addr
 kL:FuncData
 oH:Addr
 oI:FuncData
 oJ:Addr
 oK:FuncData
 lY:Addr
 lZ:FuncData
 fE:Addr
 fF:FuncData
 qD:Addr
 qE:FuncData
 qF:Addr
 qG:FuncData
 qH:Addr
 qI:FuncData
 mB:Addr
 mC:FuncData
 mD:Addr
 mE:FuncData
 fG:Addr
 fH:FuncData
 gQ:Addr
 gR:FuncData
 oM:Addr
 oN:FuncData
 oO:Addr
 oP:FuncData
 aF3:Addr
 aF4:FuncData
 bO:Addr
 cZ:Addr
 fJ:Addr
 aV:Addr
 oQ:Addr
 bW:Addr
structure Txt(K:W.Frag)(mg:Str->Option Value)(a:sC):Prop where
 uO:pT K "_law_open" "_law_open" hU a.pX a.pY
 aAm:Binds K a.pY ["_law_script","_law_place"] []
 aAn:mg "_law_open" = some (.ref a.pX)
 bD:pT K "_law_draw" "_law_draw" jS a.pZ a.p0
 bG:Binds K a.p0 ["_law_hand","_law_many"] []
 bH:mg "_law_draw" = some (.ref a.pZ)
 xG:pT K "_law_far" "_law_far" lE a.sD a.sE
 aBk:Binds K a.sE ["_law_hand","_law_bound"] []
 aBl:mg "_law_far" = some (.ref a.sD)
 pG:pT K "is_whole" "is_whole" lF a.sG a.sI
 sP:Binds K a.sI ["thing"] []
 sQ:mg "is_whole" = some (.ref a.sG)
 dM:pT K "is_amount" "is_amount" jT a.p9 a.qA
 dS:Binds K a.qA ["thing"] []
 dU:mg "is_amount" = some (.ref a.p9)
 yF:pT K "__init__" "Wrong.__init__" iL a.kD a.nS
 oR:Binds K a.nS ["self","at"] []
 iD:pT K "number_of" "number_of" hV a.qB a.qC
 jV:Binds K a.qC ["word"] []
 jW:mg "number_of" = some (.ref a.qB)
 eX:pT K "_law_number" "_law_number" gG a.lT a.lU
 gL:Binds K a.lU ["_law_word"] []
 gM:mg "_law_number" = some (.ref a.lT)
 nH:pT K "_law_any_sign" "_law_any_sign" eJ a.jB a.jC
 tS:Binds K a.jC ["_law_hand"] []
 tT:mg "_law_any_sign" = some (.ref a.jB)
 qS:pT K "_law_spoilt" "_law_spoilt" gH a.lV a.lX
 wN:Binds K a.lX ["_law_hand","_law_line_here"] []
 wO:mg "_law_spoilt" = some (.ref a.lV)
 vV:pT K "is_span" "is_span" o6 a.vT a.vU
 zR:Binds K a.vU ["thing"] []
 zS:mg "is_span" = some (.ref a.vT)
 xH:pT K "is_piece" "is_piece" lG a.sJ a.sL
 aBm:Binds K a.sL ["thing"] []
 aBn:mg "is_piece" = some (.ref a.sJ)
 sR:pT K "are_pieces" "are_pieces" eU a.nU a.nV
 yG:Binds K a.nV ["thing"] []
 yH:mg "are_pieces" = some (.ref a.nU)
 uP:pT K "__init__" "Machine.__init__" fK a.kE a.kF
 pH:Binds K a.kF ["self","up","down","begin","run","rest","least","pieces"] []
 pI:pT K "is_depth" "is_depth" lH a.sM a.sO
 sS:Binds K a.sO ["thing"] []
 sU:mg "is_depth" = some (.ref a.sM)
 yI:pT K "__init__" "Store.__init__" iM a.nW a.nX
 sV:Binds K a.nX ["self","cap","into","out","takes","gives"] []
 pJ:pT K "are_machines" "are_machines" d9 a.kG a.kH
 uQ:Binds K a.kH ["thing"] []
 uR:mg "are_machines" = some (.ref a.kG)
 yJ:pT K "__init__" "Works.__init__" iN a.nY a.nZ
 sW:Binds K a.nZ ["self","machines","store","lack"] []
 pK:pT K "show_machine" "show_machine" dI a.kI a.kJ
 uS:Binds K a.kJ ["machine"] []
 uT:mg "show_machine" = some (.ref a.kI)
 sX:pT K "show_store" "show_store" fS a.n0 a.oA
 yK:Binds K a.oA ["store"] []
 yL:mg "show_store" = some (.ref a.n0)
 oS:pT K "show_works" "show_works" fT a.oB a.oE
 sY:Binds K a.oE ["works"] []
 sZ:mg "show_works" = some (.ref a.oB)
 nI:pT K "number_behind" "number_behind" eK a.jD a.jE
 tU:Binds K a.jE ["word","ahead"] []
 tV:mg "number_behind" = some (.ref a.jD)
 tD:pT K "read_piece" "read_piece" iO a.oF a.oG
 yM:Binds K a.oG ["word"] []
 yN:mg "read_piece" = some (.ref a.oF)
 pL:pT K "read_machine" "read_machine" dJ a.kK a.kL
 uU:Binds K a.kL ["part"] []
 uV:mg "read_machine" = some (.ref a.kK)
 tE:pT K "read_store" "read_store" fU a.oH a.oI
 yO:Binds K a.oI ["part"] []
 yP:mg "read_store" = some (.ref a.oH)
 oU:pT K "read_works" "read_works" fV a.oJ a.oK
 tF:Binds K a.oK ["line"] []
 tG:mg "read_works" = some (.ref a.oJ)
 dW:pT K "_law_amount" "_law_amount" gI a.lY a.lZ
 eY:Binds K a.lZ ["_law_hand"] []
 eZ:mg "_law_amount" = some (.ref a.lY)
 iW:pT K "_law_machine_spec" "_law_machine_spec" bY a.fE a.fF
 nK:Binds K a.fF ["_law_hand"] []
 nL:mg "_law_machine_spec" = some (.ref a.fE)
 uW:pT K "_law_spec" "_law_spec" hX a.qD a.qE
 aAo:Binds K a.qE ["_law_hand"] []
 aAp:mg "_law_spec" = some (.ref a.qD)
 uX:pT K "_law_made" "_law_made" jU a.qF a.qG
 aAq:Binds K a.qG ["_law_spec_here"] []
 aAr:mg "_law_made" = some (.ref a.qF)
 uY:pT K "_law_line" "_law_line" fN a.qH a.qI
 aAs:Binds K a.qI ["_law_spec_here"] []
 aAt:mg "_law_line" = some (.ref a.qH)
 mF:pT K "_law_fields" "_law_fields" gJ a.mB a.mC
 qT:Binds K a.mC ["_law_works"] []
 qU:mg "_law_fields" = some (.ref a.mB)
 mG:pT K "_law_turned" "_law_turned" gK a.mD a.mE
 qV:Binds K a.mE ["_law_some","_law_at"] []
 qW:mg "_law_turned" = some (.ref a.mD)
 iX:pT K "_law_machine_read" "_law_machine_read" cG a.fG a.fH
 nM:Binds K a.fH ["_law_part"] []
 nN:mg "_law_machine_read" = some (.ref a.fG)
 kM:pT K "_law_works_read" "_law_works_read" cK a.gQ a.gR
 qJ:Binds K a.gR ["_law_line_here"] []
 qK:mg "_law_works_read" = some (.ref a.gQ)
 kN:pT K "_law_right" "_law_right" iP a.oM a.oN
 oV:Binds K a.oN ["_law_line_here"] []
 oW:mg "_law_right" = some (.ref a.oM)
 tH:pT K "_law_other" "_law_other" iQ a.oO a.oP
 yQ:Binds K a.oP ["_law_hand","_law_line_here"] []
 yR:mg "_law_other" = some (.ref a.oO)
 aKz:pT K "law" "law" aCz a.aF3 a.aF4
 aNn:Binds K a.aF4 ["_law_script"] []
 aNo:mg "law" = some (.ref a.aF3)
 cA:Cls K a.bO
 vW:mg "Machine" = some (.ref a.bO)
 zT:Mk K a.bO a.kE
 oX:dB K a.bO "up"
 kO:dB K a.bO "down"
 jF:dB K a.bO "begin"
 mH:dB K a.bO "run"
 kP:dB K a.bO "rest"
 jG:dB K a.bO "least"
 iT:dB K a.bO "pieces"
 i_Machine:Isi K a.bO
 eW:Cls K a.cZ
 aAV:mg "Store" = some (.ref a.cZ)
 aDj:Mk K a.cZ a.nW
 qL:dB K a.cZ "cap"
 oY:dB K a.cZ "into"
 qM:dB K a.cZ "out"
 mI:dB K a.cZ "takes"
 mK:dB K a.cZ "gives"
 i_Store:Isi K a.cZ
 kQ:Cls K a.fJ
 aAW:mg "Works" = some (.ref a.fJ)
 aDk:Mk K a.fJ a.nY
 iU:dB K a.fJ "machines"
 mL:dB K a.fJ "store"
 oZ:dB K a.fJ "lack"
 i_Works:Isi K a.fJ
 iE:mg "NoText" = some (.ref a.aV)
 Z_NoText:rD K a.aV
 ex_NoText:PySem.W.excIn K a.aV aAi "ValueError.__new__" = true
 x_NoText_Wrong:PySem.W.exmOne K (.ref a.aV) (.ref a.bW)=some false
 x_NoText_StintError:PySem.W.exmOne K (.ref a.aV) (.ref a.oQ)=some true
 k_NoText_Wrong:PySem.W.kitOne K (.ref a.aV) (.ref a.bW)=some false
 k_NoText_NoText:PySem.W.kitOne K (.ref a.aV) (.ref a.aV)=some true
 yS:mg "StintError" = some (.ref a.oQ)
 vX:mg "Wrong" = some (.ref a.bW)
 Z_Wrong:rD K a.bW
 fi_Wrong:PySem.W.findIn K (.ref a.bW) "__init__" = some (some (.ref a.kD))
 ff_Wrong:PySem.W.isFn K (.ref a.kD)=true
 ni_Wrong_at:aFV K a.bW "at"
 x_Wrong_Wrong:PySem.W.exmOne K (.ref a.bW) (.ref a.bW)=some true
 x_Wrong_StintError:PySem.W.exmOne K (.ref a.bW) (.ref a.oQ)=some true
 k_Wrong_Wrong:PySem.W.kitOne K (.ref a.bW) (.ref a.bW)=some true
 k_Wrong_NoText:PySem.W.kitOne K (.ref a.bW) (.ref a.aV)=some false
 aCA:mg "abs" = none
 yT:mg "all" = none
 zU:mg "bool" = none
 fO:mg "enumerate" = none
 aAu:mg "int" = none
 cD:mg "isinstance" = none
 dQ:mg "len" = none
 pM:mg "list" = none
 tW:mg "max" = none
 aBo:mg "min" = none
 jH:mg "range" = none
 pN:mg "sorted" = none
 rF:mg "str" = none
 vY:mg "tuple" = none
 eM:∃t,mg "LONGEST_STINT" = some (.int 12 t)
 gN:∃t,mg "MOST_PIECES" = some (.int 4 t)
 gO:∃t,mg "MOST_LEVELS" = some (.int 8 t)
 eO:∃t,mg "MOST_MACHINES" = some (.int 6 t)
 o7:∃t,mg "FIGURES" = some (.str (Str.ofString "0123456789") t)
 fL:∃t,mg "MOST_FIGURES" = some (.int 20 t)
 lK:∃t,mg "NOTHING" = some (.str (Str.ofString "none") t)
end My
namespace My
open PySem L2 L2.Z
inductive Th (H:Hp):V->String->Prop where
 |non:Th H .non "NoneType"
 |bl (b:Bool):Th H (.bl b) "bool"
 |int (i:Int):Th H (.int i) "int"
 |str (x:Str):Th H (.str x) "str"
 |lst {p:Addr} {xs:List V} (e:H p=some (.lst xs)):Th H (.ref p) "list"
 |tup {p:Addr} {xs:List V} (e:H p=some (.tup xs)):Th H (.ref p) "tuple"
 |dK {p:Addr} {kvs:List (Key×V)} (e:H p=some (.dK kvs)):Th H (.ref p) "dict"
theorem Th.ty{K:W.Frag}{H:Hp}{v:V}{T:String}(h:Th H v T):xW K H v (.type T):=by
 cases h with
 |non=>exact .non
 |bl b=>exact .bl b
 |int i=>exact .int i
 |str x=>exact .str x
 |lst e=>exact .lst e
 |tup e=>exact .tup e
 |dK e=>exact .dK e
theorem Th.keep(h:Th H v T)(n:∀b,v=.ref b->b≠p)(k:cJ p H H'):Th H' v T:=by
 cases h with
 |non=>exact .non
 |bl b=>exact .bl b
 |int i=>exact .int i
 |str x=>exact .str x
 |lst e=>exact .lst (k _ _ e (n _ rfl))
 |tup e=>exact .tup (k _ _ e (n _ rfl))
 |dK e=>exact .dK (k _ _ e (n _ rfl))
theorem aKg(h:Th H v T):IsI K H v (.ty "int") (T == "int" || T == "bool"):=by
 refine⟨_,h.ty,.inl ⟨_,rfl,?_⟩⟩
 cases h <;> rfl
theorem aIw(h:Th H v T):IsI K H v (.ty "bool") (T == "bool"):=by
 refine⟨_,h.ty,.inl ⟨_,rfl,?_⟩⟩
 cases h <;> rfl
def amt:V->Bool
 |.int i=>decide (0<=i) && decide (i<=10 ^ 12)
 |_=>false
structure bM(H:Hp)(p:Addr):Prop where
 ex:∃(d c:Int) (q:Addr) (ms:List Int),H p=some (.lst [.int d,.int c,.ref q])/\H q=some (.lst (ms.map V.int))/\ms≠[]/\q≠p
def uZ(p:Addr)(H H':Hp):Prop:=∀(d c:Int) (q:Addr),H p=some (.lst [.int d,.int c,.ref q])->∃d' c':Int,H' p=some (.lst [.int d',.int c',.ref q])
theorem uZ.trans(a:uZ p H H1)(b:uZ p H1 H2):uZ p H H2:=λd c q e=>by
 obtain⟨d',c',e'⟩:=a d c q e
 exact b d' c' q e'
theorem uZ.of{H H':Hp}(s:∀o,H p=some o->H' p=some o):uZ p H H':=λd c q e=>⟨d,c,s _ e⟩
theorem bM.of(h:bM H p)(k:cJ p H H')(s:uZ p H H'):bM H' p:=by
 obtain⟨d,c,q,ms,hp,hq,hne,hqp⟩:=h.ex
 obtain⟨d',c',e⟩:=s d c q hp
 exact⟨⟨d',c',q,ms,e,k _ _ hq hqp,hne,hqp⟩⟩
theorem bM.same(h:bM H p)(s:aT H H'):bM H' p:=by
 obtain⟨d,c,q,ms,hp,hq,hne,hqp⟩:=h.ex
 exact⟨⟨d,c,q,ms,s _ _ hp,s _ _ hq,hne,hqp⟩⟩
theorem aEe(h:Th H v T):IsI K H v (.ty "list") (T == "list"):=by
 refine⟨_,h.ty,.inl ⟨_,rfl,?_⟩⟩
 cases h <;> rfl
theorem aGX(h:Th H v T):IsI K H v (.ty "tuple") (T == "tuple"):=by
 refine⟨_,h.ty,.inl ⟨_,rfl,?_⟩⟩
 cases h <;> rfl
theorem aIx{ms:List Int}{c:Int}(h:ms≠[]):∃m,m∈ms/\atI (ms.map V.int) (c % ((ms.map V.int).length:Int))=some (.int m):=by
 have hl:0 < ms.length:=Sj9.mpr h
 have e1:=Sv9 c (b:=((ms.map V.int).length:Int)) (by rw[cC];omega)
 have e2:=Sd9 c (b:=((ms.map V.int).length:Int)) (by rw[cC];omega)
 obtain⟨j,hj⟩ : ∃j:Nat,c % ((ms.map V.int).length:Int)=(j:Int):=⟨_,(Int.toNat_of_nonneg e1).symm⟩
 rw[hj] at e2 ⊢
 rw[cC] at e2
 have hjl:j < ms.length:=by omega
 exact⟨ms[j],List.getElem_mem hjl,j0 (by rw[xV,tO hjl];rfl)⟩
theorem aF5(ms:List Int)(lo hi:Option Int):∃r:List Int,gX (ms.map V.int) lo hi=r.map V.int/\r.length=(gX (ms.map V.int) lo hi).length:=by
 unfold gX
 rw[<-Tl9,<-Tt9]
 exact⟨_,rfl,by simp⟩
theorem rot{ms:List Int}{i:Int}(h0:0<=i)(h1:i < ms.length):∃ms':List Int,gX (ms.map V.int) (some i) none++gX (ms.map V.int) none (some i)=ms'.map V.int/\ms'≠[]/\ms'.length<=ms.length+ms.length:=by
 obtain⟨r1,e1,l1⟩:=aF5 ms (some i) none
 obtain⟨r2,e2,l2⟩:=aF5 ms none (some i)
 have b1:=fM (ms.map V.int) (some i) none
 have b2:=fM (ms.map V.int) none (some i)
 rw[cC] at b1 b2
 refine⟨r1++r2,by rw[e1,e2,o5],λz=>?_,by rw[rA];omega⟩
 have z1:r1=[]:=(List.append_eq_nil_iff.mp z).1
 obtain⟨j,rfl⟩:=Rz9 h0
 have hj:j < ms.length:=by omega
 rw[z1,Tb9] at l1
 have l3:(gX (ms.map V.int) (some (j:Int)) none).length=ms.length - j:=by
  unfold gX
  rw[HT.aFL,HT.rB,tP,Rm9,cC,Tx9 (Tp9 hj)]
  omega
 rw[l3] at l1
 omega
def aDl(K:W.Frag):Sp:=λvs H Q _=>∃(a:Addr) (ns:List Int) (i:Int),vs=[.ref a,.int i]/\bQ K H a (ns.map V.int)/\ns.length<=63/\0<=i/\
 ∀p H',aT H H'->H p=none->bM H' p->Q (.ref p) H'
theorem aDm{P:Program}{w:World}{K:PySem.W.Frag}{mg:Str->Option Value}{base:Heap}{a:sC}(tx:Txt K mg a):cT P w K mg base tZ 1 a.pX a.pY ["_law_script","_law_place"] (aDl K):=by
 refine tx.uO.ok iR (λvs H Q E h=>?_) (λcdv A outer s H vs Q E hr h=>?_)
 ·obtain⟨a,ns,i,rfl,_⟩:=h
  rfl
 ·obtain⟨a,ns,i,rfl ,hS,hl,h0,k⟩:=h
  have hu:=tQ hr
  refine bP (aE (hR (k:=1) (idx:=[]) (N:=["_law_cell"]) (i:=2) iR.nd rfl (Or.inl rfl) (d6 (sc:=aH hU) (NX:=["_law_script","_law_place","_law_cells","_law_at","_law_digits"]) rfl rfl rfl (by decide +kernel)) rfl (bJ (K':=K) (aS (rs:=kY K) mR (aD 0) aY (aW aC))) (λ_ _ _ _=>(aQ (i:=0) (show(["_law_cell"]:List Str).Nodup by decide +kernel))) (cL (by decide)) (λ_ _ _ _=>bR) (λ_ _ _ _=>(aJ aGD (by rfl) tx.aCA aLu (aB (aD 0) aA))))
   (aE (aZ (aL (r:=rC K) (gY hu) (aD 2) (vP aA) (bB _)) (aF (aM (i:=2) iR.nd (yC aC))) aP)
   (aE (aM (i:=3) iR.nd (aI jI (aD 1) (aJ (rc:=nP K) cF (by rfl) tx.dQ cV (aB (aD 2) aA))))
   (aE (aM (i:=4) iR.nd aC)
   (aE (aZ (dA (zK (aL aKs (aK (K':=K) (aD 2) (aD 3)) (aI uC aC aC) (bB _)) (xB (aL aA3 (aD 1) (aJ (rc:=nP K) cF (by rfl) tx.dQ cV (aB (aD 2) aA)) (bB _))))) (aF (aM (i:=4) iR.nd (aK (K':=K) (aD 2) (aD 3)))) aP)
   (aF (aN (vQ (aD 4) (aI bT aC (aI rW aC (aD 1))) (aI bT (aS (rs:=kY K) mR (aD 2) (aW (aD 3)) aY) (aS (rs:=kY K) mR (aD 2) aY (aW (aD 3)))))))))))) ?_
  refine bF (σ:=[some (.ref a),some (.int i),none,none,none]) rfl ?_
  refine aLx ?_
  walk_at "w"
  refine cW hS ?_
  intro p1 n1
  walk_at "w"
  rw[show gX (ns.map V.int) none (some 63)=ns.map V.int from aHN (n:=63) (by rw[cC];exact hl)]
  refine gZ (bQ.of aO) ?_
  refine aCl (λv=>match v with|.int i=>.int (if i < 0 then -i else i)|v=>v) (bQ.of aO) (aX (by rw[cC];omega)) (λx N N' hx hN=>?_) ?_
  ·obtain⟨y,hy,rfl⟩:=Rk9.mp hx
   walk_at "w"
   exact hN
  ·intro p2 n2
   repeat walk_at "st"
   have s2:aT H (upd (upd H p1 (.lst (ns.map V.int))) p2 (.lst ((ns.map V.int).map λv=>match v with|.int i=>.int (if i < 0 then -i else i)|v=>v))):=(aT.new n1).trans (aT.new n2)
   rw[List.map_map] at s2 ⊢
   generalize hm:ns.map ((λv=>match v with|V.int i=>V.int (if i < 0 then -i else i)|v=>v) ∘ V.int)=xs at s2 ⊢
   obtain⟨ms,rfl⟩ : ∃ms:List Int,xs=ms.map V.int:=⟨ns.map λi=>if i < 0 then -i else i,by rw[<-hm,List.map_map];rfl⟩
   have lm:ms.length<=63:=by
    have:=congrArg List.length hm
    simp only[cC] at this
    omega
   refine cY (λσ' H'=>∃(c:Addr) (ms:List Int),σ'=[some (.ref a),some (.int i),some (.ref c),none,none]/\aT H H'/\H' c=some (.lst (ms.map V.int))/\ms≠[]/\ms.length<=63) (λN hN=>?_) ?_
   ·walk_at "w"
    intro p3 n3
    walk_at "w"
    refine⟨_,aJP (bQ.of (by walk_at "hp")) (bQ.of aO),?_⟩
    walk_at "w"
    refine iJ (λh=>?_) (λh=>?_)
    ·walk_at "w"
     intro p4 n4
     walk_at "w"
     exact hN _ _ ⟨p4,[0],rfl,(s2.trans (aT.new n3)).trans (aT.new n4),aO,by simp,by simp⟩
    ·walk_at "w"
     refine hN _ _ ⟨p2,ms,rfl,s2.trans (aT.new n3),by walk_at "hp",?_,lm⟩
     rintro rfl
     simp at h
   ·rintro σ' H' ⟨c,ms,rfl,sH,hc,hne,lm⟩
    have hl:0 < ms.length:=Sj9.mpr hne
    obtain⟨m,_,hm⟩:=aIx (c:=i) hne
    have e1:=Sv9 i (b:=((ms.map V.int).length:Int)) (by rw[cC];omega)
    have e2:=Sd9 i (b:=((ms.map V.int).length:Int)) (by rw[cC];omega)
    obtain⟨ms',em,en,el⟩:=rot (ms:=ms) e1 (by rw[cC] at e2 ⊢;exact e2)
    walk_at "w"
    refine bX (λh=>?_) (λh=>?_)
    ·walk_at "w"
     refine bX (λh=>?_) (λh=>?_)
     all_goals
      walk_at "w"
      refine cW (bQ.of hc) ?_
      intro p5 n5
      walk_at "w"
      refine cW (bQ.of (by walk_at "hp")) ?_
      intro p6 n6
      walk_at "w"
      refine dR (by walk_at "hp") (by walk_at "hp") (aX (by have:=fM (ms.map V.int) (some (i % ((ms.map V.int).length:Int))) none;have:=fM (ms.map V.int) none (some (i % ((ms.map V.int).length:Int)));simp only[cC] at *;omega)) ?_
      intro p7 n7
      walk_at "w"
      rw[em]
      walk_at "w"
      intro p8 n8
      walk_at "w"
      have s8:=((aT.new (o:=.lst (gX (ms.map V.int) (some (i % ((ms.map V.int).length:Int))) none)) n5).trans (aT.new (o:=.lst (gX (ms.map V.int) none (some (i % ((ms.map V.int).length:Int))))) n6)).trans (aT.new (o:=.lst (ms'.map V.int)) n7)
      refine k _ _ (sH.trans (s8.trans (aT.new n8))) ((sH.trans s8).free n8) ⟨⟨_,_,_,ms',aO,by walk_at "hp",en,?_⟩⟩
      exact cQ n8 aO
    ·walk_at "w"
     refine cW (bQ.of hc) ?_
     intro p5 n5
     walk_at "w"
     refine cW (bQ.of (by walk_at "hp")) ?_
     intro p6 n6
     walk_at "w"
     refine dR (by walk_at "hp") (by walk_at "hp") (aX (by have:=fM (ms.map V.int) (some (i % ((ms.map V.int).length:Int))) none;have:=fM (ms.map V.int) none (some (i % ((ms.map V.int).length:Int)));simp only[cC] at *;omega)) ?_
     intro p7 n7
     walk_at "w"
     rw[em]
     walk_at "w"
     intro p8 n8
     walk_at "w"
     have s8:=((aT.new (o:=.lst (gX (ms.map V.int) (some (i % ((ms.map V.int).length:Int))) none)) n5).trans (aT.new (o:=.lst (gX (ms.map V.int) none (some (i % ((ms.map V.int).length:Int))))) n6)).trans (aT.new (o:=.lst (ms'.map V.int)) n7)
     refine k _ _ (sH.trans (s8.trans (aT.new n8))) ((sH.trans s8).free n8) ⟨⟨_,_,_,ms',aO,by walk_at "hp",en,?_⟩⟩
     exact cQ n8 aO
def aDn(K:W.Frag):Sp:=λvs H Q _=>∃(p:Addr) (n:Int),vs=[.ref p,.int n]/\bM H p/\0 < n/\n < 1073741824/\
 ∀(r:Int) H',0<=r->r < n->bM H' p->cJ p H H'->uZ p H H'->Q (.int r) H'
theorem fW{P:Program}{w:World}{K:PySem.W.Frag}{mg:Str->Option Value}{base:Heap}{a:sC}(tx:Txt K mg a):cT P w K mg base tZ 1 a.pZ a.p0 ["_law_hand","_law_many"] (aDn K):=by
 refine tx.bD.ok iS (λvs H Q E h=>?_) (λcdv A outer s H vs Q E hr h=>?_)
 ·obtain⟨p,n,rfl,_⟩:=h
  rfl
 ·obtain⟨p,n,rfl ,hh,h0,h1,k⟩:=h
  have hu:=tQ hr
  refine bP (aE (aZ (aL pC (aK (K':=K) (aD 0) aC) aC (bB _)) (aE (aM (i:=2) iS.nd (aI jI (aK (K':=K) (aD 0) aC) (aD 1)))
   (aE (aCo (aI aFK (aK (K':=K) (aD 0) aC) (aD 1)) (aGJ (aD 0) aC set_list))
   (aF (aN (aD 2))))) aP)
   (aE (aFd (aD 0) aC aLw aC aK3 set_list)
   (aE (aM (i:=3) iS.nd (aI jI (aK (K':=K) (aK (K':=K) (aD 0) aC) (aI jI (aK (K':=K) (aD 0) aC) (aJ (rc:=nP K) cF (by rfl) tx.dQ cV (aB (aK (K':=K) (aD 0) aC) aA)))) aC))
   (aE (aM (i:=4) iS.nd (aI jI (aI bT (aI bT (aI rW (aD 3) aC) (aI rW (aK (K':=K) (aD 0) aC) aC)) aC) aC))
   (aE (aM (i:=4) iS.nd (aI jI (aI bT (aI rW (aD 4) (aD 4)) (aK (K':=K) (aD 0) aC)) aC))
   (aE (aM (i:=4) iS.nd (aI jI (aI bT (aI rW (aD 4) aC) aC) aC))
   (aF (aN (aI jI (aI aFK (aI jI (aI rW (aD 4) (aD 4)) aC) aC) (aD 1)))))))))) ?_
  obtain⟨d,c,q,ms,hp,hq,hne,hqp⟩:=hh.ex
  refine bF (σ:=[some (.ref p),some (.int n),none,none,none]) rfl ?_
  walk_at "w"
  refine bX (λhd=>?_) (λhd=>?_)
  ·walk_at "w"
   refine aFR hp rfl ?_
   walk_at "w"
   refine k _ _ (Sv9 _ (by omega)) (Sd9 _ h0) ⟨⟨_,c,q,ms,aO,by walk_at "hp",hne,hqp⟩⟩ cJ.upd (λd0 c0 q0 e0=>by rw[hp] at e0;cases e0;exact⟨_,_,aO⟩)
  ·walk_at "w"
   refine aLC (bQ.of hp) (by decide) rfl ?_
   walk_at "w"
   refine aFR hp rfl ?_
   obtain⟨m,_,hm⟩:=aIx (c:=c+1) hne
   have hlen:0 < ((ms.map V.int).length:Int):=by rw[cC];have:=Sj9.mpr hne;omega
   walk_at "w"
   have hq':(upd H p (.lst [.int d,.int (c+1),.ref q])) q=some (.lst (ms.map V.int)):=by walk_at "hp"
   walk_at "w"
   exact k _ _ (Sv9 _ (by omega)) (Sd9 _ h0) ⟨⟨d,c+1,q,ms,aO,hq',hne,hqp⟩⟩ cJ.upd (λd0 c0 q0 e0=>by rw[hp] at e0;cases e0;exact⟨_,_,aO⟩)
def aEf(K:W.Frag):Sp:=λvs H Q _=>∃(p:Addr) (b:Int),vs=[.ref p,.int b]/\bM H p/\0 < b/\
 ∀(r:Int) H',0<=r->r < b->bM H' p->cJ p H H'->uZ p H H'->Q (.int r) H'
theorem aEg{P:Program}{w:World}{K:PySem.W.Frag}{mg:Str->Option Value}{base:Heap}{a:sC}(tx:Txt K mg a):cT P w K mg base tZ 2 a.sD a.sE ["_law_hand","_law_bound"] (aEf K):=by
 have bA:=fW (P:=P) (w:=w) (base:=base) tx
 refine tx.xG.ok pV (λvs H Q E h=>?_) (λcdv A outer s H vs Q E hr h=>?_)
 ·obtain⟨p,b,rfl,_⟩:=h
  rfl
 ·obtain⟨p,b,rfl ,hh,h0,k⟩:=h
  have hu:=tQ hr
  refine bP (aE (aM (i:=2) pV.nd aC)
   (aE (dZ PassesOwn.never rfl (gF (by rfl) tx.jH (aB aC aA)) (aQ (i:=3) pV.nd) (aF (aM (i:=2) pV.nd (aI bT (aI rW (aD 2) aC) (zq1 bA hr tx.bH tx.bD.kp tx.bG (aB (aD 0) (aB aC aA)))))))
   (aF (aN (aI jI (aD 2) (aD 1)))))) ?_
  refine bF (σ:=[some (.ref p),some (.int b),none,none]) rfl ?_
  walk_at "w"
  refine⟨by decide,by decide,?_⟩
  refine aBa (n:=11) (λi σ' H'=>∃(t:Int) (x:Option V),σ'=[some (.ref p),some (.int b),some (.int t),x]/\bM H' p/\cJ p H H'/\uZ p H H') ⟨0,none,rfl,hh,λ_ _ e _=>e,uZ.of λ_ e=>e⟩ (λi σ' H' hi z4q=>?_) (λσ' H' z5q=>?_)
  ·obtain⟨t,x,e,h',kp,sq⟩:=z4q
   subst e
   walk_at "w"
   refine⟨p,_,rfl,h',by decide,by decide,λr H2 r0 r1 h2 k2 q2=>?_⟩
   walk_at "w"
   exact⟨_,_,rfl,h2,kp.trans k2,sq.trans q2⟩
  ·obtain⟨t,x,e,h',kp,sq⟩:=z5q
   subst e
   walk_at "w"
   exact k _ _ (Sv9 _ (by omega)) (Sd9 _ h0) h' kp sq
structure MS where
 up:Int
 down:Int
 begin_:Int
 run:Int
 rest:Int
 least:Int
 pieces:List (Int×Int)
def Am(i:Int):Prop:=0<=i/\i<=1000000000000
structure aFs(ps:List (Int×Int)):Prop where
 len:ps.length<=4
 pc:∀t∈ps,1<=t.1/\Am t.1/\Am t.2
 up:∀(j:Nat) t u,ps[j]?=some t->ps[j+1]?=some u->t.2<=u.2
structure MS.Good(m:MS):Prop where
 up:1<=m.up/\m.up<=12
 down:1<=m.down/\m.down<=12
 begin_:Am m.begin_
 run:Am m.run
 rest:Am m.rest
 least:Am m.least
 pieces:aFs m.pieces
structure xI(H:Hp)(qs:List Addr)(ps:List (Int×Int)):Prop where
 len:qs.length=ps.length
 at_:∀(j:Nat) q t,qs[j]?=some q->ps[j]?=some t->H q=some (.tup [.int t.1,.int t.2])
structure mU(H:Hp)(p:Addr)(ps:List (Int×Int)):Prop where
 ex:∃qs,H p=some (.lst (qs.map V.ref))/\xI H qs ps
structure iF(H:Hp)(s:Addr)(m:MS):Prop where
 ex:∃pl,H s=some (.lst [.int m.up,.int m.down,.int m.begin_,.int m.run,.int m.rest,.int m.least,.ref pl])/\mU H pl m.pieces
def mFs(m:MS)(pl:Addr):List (Str×V):=[("up",.int m.up),("down",.int m.down),("begin",.int m.begin_),("run",.int m.run),("rest",.int m.rest),("least",.int m.least),("pieces",.ref pl)]
structure fX(C:Addr)(H:Hp)(a:Addr)(m:MS):Prop where
 ex:∃dx pl,H a=some (.ins C dx (mFs m pl))/\mU H pl m.pieces
theorem xI.same{ps:List (Int×Int)}(h:xI H qs ps)(s:aT H H'):xI H' qs ps:=⟨h.len,λj q t h1 h2=>s _ _ (h.at_ j q t h1 h2)⟩
theorem mU.same{ps:List (Int×Int)}(h:mU H p ps)(s:aT H H'):mU H' p ps:=by
 obtain⟨qs,h1,h2⟩:=h.ex
 exact⟨qs,s _ _ h1,h2.same s⟩
theorem iF.same(h:iF H p m)(s:aT H H'):iF H' p m:=by
 obtain⟨pl,h1,h2⟩:=h.ex
 exact⟨pl,s _ _ h1,h2.same s⟩
theorem fX.same(h:fX C H p m)(s:aT H H'):fX C H' p m:=by
 obtain⟨dx,pl,h1,h2⟩:=h.ex
 exact⟨dx,pl,s _ _ h1,h2.same s⟩
theorem xI.keep{H:Hp}{ps:List (Int×Int)}(h:xI H qs ps)(hp:∀xs,H p≠some (.tup xs))(s:cJ p H H'):xI H' qs ps:=
 ⟨h.len,λj q t h1 h2=>by
  have e:=h.at_ j q t h1 h2
  exact s _ _ e (λz=>hp _ (z▸e))⟩
theorem bM.aG5(h:bM H p)(xs:List V):H p≠some (.tup xs):=λz=>by
 obtain⟨d,c,q,ms,hp,_⟩:=h.ex
 rw[hp] at z
 cases z
theorem mU.keep{ps:List (Int×Int)}(h:mU H a ps)(hh:bM H p)(s:cJ p H H'):mU H' a ps:=by
 obtain⟨qs,h1,h2⟩:=h.ex
 obtain⟨d,c,q,ms,hp,_⟩:=id hh.ex
 refine⟨qs,s _ _ h1 (λz=>?_),h2.keep hh.aG5 s⟩
 rw[z,hp] at h1
 cases qs with
 |nil=>cases h1
 |cons x xs=>cases h1
theorem iF.keep(h:iF H a m)(hh:bM H p)(s:cJ p H H'):iF H' a m:=by
 obtain⟨pl,h1,h2⟩:=h.ex
 obtain⟨d,c,q,ms,hp,_⟩:=id hh.ex
 refine⟨pl,s _ _ h1 (λz=>?_),h2.keep hh s⟩
 rw[z,hp] at h1
 cases h1
theorem fX.keep(h:fX C H a m)(hh:bM H p)(s:cJ p H H'):fX C H' a m:=by
 obtain⟨dx,pl,h1,h2⟩:=h.ex
 obtain⟨d,c,q,ms,hp,_⟩:=id hh.ex
 refine⟨dx,pl,s _ _ h1 (λz=>?_),h2.keep hh s⟩
 rw[z,hp] at h1
 cases h1
theorem aMl{i:Int}(h:Am i):amt (.int i)=true:=by
 obtain⟨h1,h2⟩:=h
 have h3:i<=10 ^ 12:=h2
 show(decide (0<=i) && decide (i<=10 ^ 12))=true
 rw[Rv9 h1,Rv9 h3]
 rfl
def aEh(K:PySem.W.Frag):Sp:=λvs H Q _=>∃v T,vs=[v]/\Th H v T/\Q (.bl (T == "int")) H
theorem u0{P:Program}{w:World}{K:PySem.W.Frag}{mg:Str->Option Value}{base:Heap}{a:sC}(tx:Txt K mg a):cT P w K mg base tZ 1 a.sG a.sI ["thing"] (aEh K):=by
 refine tx.pG.ok aEb (λvs H Q E h=>?_) (λcdv A outer s H vs Q E hr h=>?_)
 ·obtain⟨v,T,rfl,_⟩:=h
  rfl
 ·obtain⟨v,T,rfl ,ht,k⟩:=h
  have hu:=tQ hr
  refine bP (aF (aN (gE (aJ (rc:=aBO K) jP (by rfl) tx.cD cS (aB (aD 0) (aB (pF (v:=.ty "int") (by rfl) tx.aAu aE6 rfl) aA))) (jQ (aCn (aJ (rc:=aBO K) jP (by rfl) tx.cD cS (aB (aD 0) (aB (pF (v:=.ty "bool") (by rfl) tx.zU aJv rfl) aA)))))))) ?_
  refine bF (σ:=[some v]) rfl ?_
  walk_at "w"
  refine uG (aKg ht) ?_
  walk_at "w"
  refine iJ (λh=>?_) (λh=>?_)
  ·walk_at "w"
   refine uG (aIw ht) ?_
   walk_at "w"
   have e:(!(T == "bool"))=(T == "int"):=by cases ht <;> first|rfl|cases h
   rw[e]
   exact k
  ·have e:(T == "int")=false:=by cases ht <;> first|rfl|cases h
   rw[e] at k
   exact k
def aDo(K:W.Frag):Sp:=λvs H Q _=>∃v T,vs=[v]/\Th H v T/\Q (.bl (amt v)) H
theorem o3{P:Program}{w:World}{K:PySem.W.Frag}{mg:Str->Option Value}{base:Heap}{a:sC}(tx:Txt K mg a):cT P w K mg base tZ 2 a.p9 a.qA ["thing"] (aDo K):=by
 have pO:=u0 (P:=P) (w:=w) (base:=base) tx
 refine tx.dM.ok aDh (λvs H Q E h=>?_) (λcdv A outer s H vs Q E hr h=>?_)
 ·obtain⟨v,T,rfl,_⟩:=h
  rfl
 ·obtain⟨v,T,rfl ,ht,k⟩:=h
  have hu:=tQ hr
  refine bP (aF (aN (gE (zq1 pO hr tx.sQ tx.pG.kp tx.sP (aB (aD 0) aA)) (jQ (uH aA4 aA4 aC (aD 0) (aI uC aC aC)))))) ?_
  refine bF (σ:=[some v]) rfl ?_
  walk_at "w"
  refine⟨v,T,rfl,ht,?_⟩
  walk_at "w"
  refine iJ (λh=>?_) (λh=>?_)
  ·cases ht with
   |int i=>
    walk_at "w"
    refine bX (λh1=>?_) (λh1=>?_)
    ·walk_at "w"
     have e:amt (.int i)=decide (i<=10 ^ (12:Int).toNat):=by simp[amt,h1]
     rw[<-e]
     exact k
    ·have e:amt (.int i)=false:=by simp[amt,h1]
     rw[e] at k
     exact k
   |_=>cases h
  ·have e:amt v=false:=by cases ht <;> first|rfl|cases h
   rw[e] at k
   exact k
theorem bM.isL{H:Hp}(h:bM H p):∃xs,H p=some (.lst xs):=by
 obtain⟨d,cc,q,ms,hp,_⟩:=h.ex
 exact⟨_,hp⟩
theorem aIy(k:cJ p H H')(hh:bM H' p)(n:H' c=none):H c=none:=by
 cases hc:H c with
 |none=>rfl
 |some v=>
  obtain⟨xs,e⟩:=hh.isL
  exact absurd rfl (cQ n (k c v hc (λz=>cQ n e z.symm)))
theorem bM.xJ(hh:bM H p)(n:H c=none):c≠p:=λz=>by
 obtain⟨xs,e⟩:=hh.isL
 exact cQ n e z.symm
structure RL{α:Type}(P:Addr->α->Prop)(as:List Addr)(xs:List α):Prop where
 len:as.length=xs.length
 at_:∀(j:Nat) a x,as[j]?=some a->xs[j]?=some x->P a x
theorem RL.nil{α:Type}{P:Addr->α->Prop}:RL P [] []:=⟨rfl,λj a x h=>by simp at h⟩
theorem RL.imp{α:Type}{P P':Addr->α->Prop}{xs:List α}(h:RL P as xs)(f:∀a x,P a x->P' a x):RL P' as xs:=⟨h.len,λj a x h1 h2=>f a x (h.at_ j a x h1 h2)⟩
theorem RL.snoc{α:Type}{P:Addr->α->Prop}{xs:List α}(h:RL P as xs){x:α}(hp:P a x):RL P (as ++ [a]) (xs ++ [x]):=by
 refine⟨by rw[rA,rA,h.len];rfl,λj q u hq hu=>?_⟩
 by_cases hj:j < as.length
 ·rw[Qy9 hj] at hq
  rw[Qy9 (by rw[<-h.len];exact hj)] at hu
  exact h.at_ j q u hq hu
 ·have hj2:j < (as ++ [a]).length:=(wF.mp hq).1
  rw[rA,Rt9] at hj2
  have e:j=as.length:=by omega
  subst e
  rw[Rd9 (iI _),So9] at hq
  rw[h.len,Rd9 (iI _),So9] at hu
  cases hq
  cases hu
  exact hp
theorem aIz{c:Nat}:∀{a b x y:List Nat},c∉a->c∉b->a++c::x=b++c::y->a=b/\x=y
 |[],[],x,y,_,_,h=>by simpa using h
 |[],d::b,x,y,_,hb,h=>by
  simp only[Ta9,Sl9,List.cons.injEq] at h
  exact absurd (by rw[h.1];exact .head _) hb
 |d::a,[],x,y,ha,_,h=>by
  simp only[Ta9,Sl9,List.cons.injEq] at h
  exact absurd (by rw[<-h.1];exact .head _) ha
 |d::a,e::b,x,y,ha,hb,h=>by
  simp only[Sl9,List.cons.injEq] at h
  obtain⟨h1,h2⟩:=aIz (λz=>ha (Qr9 _ z)) (λz=>hb (Qr9 _ z)) h.2
  exact⟨by rw[h.1,h1],h2⟩
def jL(c:Nat):List (List Nat)->List Nat
 |[]=>[]
 |[w]=>w
 |w::v::r=>w++c::jL c (v::r)
theorem aIA{c:Nat}:∀{ws us:List (List Nat)},ws≠[]->us≠[]->(∀w∈ws,c∉w)->(∀u∈us,c∉u)->jL c ws=jL c us->ws=us
 |[],_,h,_,_,_,_=>absurd rfl h
 |_::_,[],_,h,_,_,_=>absurd rfl h
 |[w],[u],_,_,_,_,h=>by rw[show w=u from h]
 |[w],u::v::r,_,_,hw,_,h=>by
  have h':w=u++c::jL c (v::r):=h
  exact absurd (by rw[h'];exact xT _ (.head _)) (hw w (.head _))
 |w::x::s,[u],_,_,_,hu,h=>by
  have h':w++c::jL c (x::s)=u:=h
  exact absurd (by rw[<-h'];exact xT _ (.head _)) (hu u (.head _))
 |w::x::s,u::v::r,_,_,hw,hu,h=>by
  obtain⟨h1,h2⟩:=aIz (hw w (.head _)) (hu u (.head _)) (show w++c::jL c (x::s)=u++c::jL c (v::r) from h)
  rw[h1,aIA (by simp) (by simp) (λz hz=>hw z (Qr9 _ hz)) (λz hz=>hu z (Qr9 _ hz)) h2]
theorem aAX(c:Nat):∀ws:List Str,(Str.join ⟨#[c]⟩ ws).cps.toList=jL c (ws.map (·.cps.toList))
 |[]=>rfl
 |[w]=>rfl
 |w::v::r=>by
  have e:Str.join ⟨#[c]⟩ (w::v::r)=w ++ ⟨#[c]⟩ ++ Str.join ⟨#[c]⟩ (v::r):=rfl
  rw[e,Str.cps_append,Str.cps_append,Rl9,Rl9,aAX c (v::r)]
  show w.cps.toList ++ [c] ++ _=w.cps.toList++c::_
  simp
theorem aDp:∀{a b:List Str},a.map (·.cps.toList)=b.map (·.cps.toList)->a=b
 |[],[],_=>rfl
 |[],_::_,h=>by cases h
 |_::_,[],h=>by cases h
 |x::a,y::b,h=>by
  simp only[Sn9,List.cons.injEq] at h
  rw[Str.ext' (Sm9.mp h.1),aDp h.2]
theorem qN(c:Nat){ws:List Str}(h0:ws≠[])(hf:∀w∈ws,c∉w.cps.toList):Txt.split (Str.join ⟨#[c]⟩ ws) ⟨#[c]⟩=ws:=by
 have h1:=StrLaws.join_split (Str.join ⟨#[c]⟩ ws) ⟨#[c]⟩
 have h2:=StrLaws.split_free (Str.join ⟨#[c]⟩ ws) c
 have h3:Txt.split (Str.join ⟨#[c]⟩ ws) ⟨#[c]⟩≠[]:=λz=>by
  have:=PyProof.Rows.split_pos (Str.join ⟨#[c]⟩ ws) ⟨#[c]⟩
  rw[z] at this
  exact absurd this (by decide)
 have h4:jL c ((Txt.split (Str.join ⟨#[c]⟩ ws) ⟨#[c]⟩).map (·.cps.toList))=jL c (ws.map (·.cps.toList)):=by rw[<-aAX,<-aAX,h1]
 have h5:=aIA (by simpa using h3) (by simpa using h0) (λz hz=>by obtain⟨p,hp,rfl⟩:=Rk9.mp hz;exact h2 p hp) (λz hz=>by obtain⟨p,hp,rfl⟩:=Rk9.mp hz;exact hf p hp) h4
 exact aDp h5
theorem aCB{c:Char}(h:c.isDigit=true):48<=c.toNat/\c.toNat<=57:=by
 unfold Char.isDigit at h
 simp only[zB,decide_eq_true_eq] at h
 exact⟨h.1,h.2⟩
theorem aFt{m:Nat}(h:m < 10 ^ 20):(Nat.toDigits 10 m).length<=20:=by
 have:=(Nat.length_toDigits_le_iff (b:=10) (k:=20) (n:=m) (by decide) (by decide)).mpr h
 exact this
theorem aAv{n:Int}(h0:0<=n)(h1:n < 10 ^ 20):PySem.intText? (PySem.Str.ofString (toString n))=some n/\(PySem.Str.ofString (toString n)).length<=20:=by
 obtain⟨m,rfl⟩:=Rz9 h0
 have hl:(PySem.Str.ofString (toString ((m:Nat):Int))).length<=20:=by
  have e:(PySem.Str.ofString (toString ((m:Nat):Int))).length=(Nat.toDigits 10 m).length:=by
   show(PySem.Str.ofString (toString ((m:Nat):Int))).cps.size=_
   rw[<-wY,PySem.W.KIN.signs_num,cC]
  rw[e]
  exact aFt (by omega)
 have hd:∀c∈(PySem.Str.ofString (toString ((m:Nat):Int))).cps.toList,48<=c/\c<=57:=by
  intro c hc
  rw[PySem.W.KIN.signs_num] at hc
  obtain⟨ch,hch,e⟩:=Rk9.mp hc
  have r:=aCB (Nat.isDigit_of_mem_toDigits (by decide) (by decide) hch)
  rw[<-e]
  exact r
 have hne:(PySem.Str.ofString (toString ((m:Nat):Int))).cps.toList≠[]:=by
  rw[PySem.W.KIN.signs_num]
  intro e
  have h:=Nat.length_toDigits_pos (b:=10) (n:=m)
  rw[List.map_eq_nil_iff.mp e] at h
  exact absurd h (by decide)
 have e:=PySem.intText_digits hd hne (wZ hl (by decide))
 rw[PySem.W.KIN.signs_num,PySem.W.KIN.val_back] at e
 exact⟨e,hl⟩
def No2(c e:Nat)(p:List Nat):Prop:=∀u v,p≠u++c::e::v
theorem No2.tail{c e d:Nat}{p:List Nat}(h:No2 c e (d::p)):No2 c e p:=λu v z=>h (d::u) v (by rw[z];rfl)
theorem aKA{c e:Nat}(hce:e≠c):∀{a b x y:List Nat},c∉a->No2 c e b->a++c::e::x=b++c::e::y->a=b/\x=y
 |[],[],x,y,_,_,h=>by simpa using h
 |[],[d],x,y,_,_,h=>by
  simp only[Ta9,Sl9,List.cons.injEq] at h
  exact absurd h.2.1 hce
 |[],d::g::b,x,y,_,hb,h=>by
  simp only[Ta9,Sl9,List.cons.injEq] at h
  exact absurd (show d::g::b=[] ++ c::e::b by rw[h.1,h.2.1];rfl) (hb [] b)
 |d::a,[],x,y,ha,_,h=>by
  simp only[Ta9,Sl9,List.cons.injEq] at h
  exact absurd (by rw[<-h.1];exact .head _) ha
 |d::a,g::b,x,y,ha,hb,h=>by
  simp only[Sl9,List.cons.injEq] at h
  obtain⟨h1,h2⟩:=aKA hce (λz=>ha (Qr9 _ z)) hb.tail h.2
  exact⟨by rw[h.1,h1],h2⟩
def jL2(c e:Nat):List (List Nat)->List Nat
 |[]=>[]
 |[w]=>w
 |w::v::r=>w++c::e::jL2 c e (v::r)
theorem aF6{c e:Nat}(hce:e≠c):∀{ws us:List (List Nat)},ws≠[]->us≠[]->(∀w∈ws,c∉w)->(∀u∈us,No2 c e u)->jL2 c e ws=jL2 c e us->ws=us
 |[],_,h,_,_,_,_=>absurd rfl h
 |_::_,[],_,h,_,_,_=>absurd rfl h
 |[w],[u],_,_,_,_,h=>by rw[show w=u from h]
 |[w],u::v::r,_,_,hw,_,h=>by
  have h':w=u++c::e::jL2 c e (v::r):=h
  exact absurd (by rw[h'];exact xT _ (.head _)) (hw w (.head _))
 |w::x::s,[u],_,_,_,hu,h=>by
  have h':w++c::e::jL2 c e (x::s)=u:=h
  exact absurd h'.symm (hu u (.head _) w (jL2 c e (x::s)))
 |w::x::s,u::v::r,_,_,hw,hu,h=>by
  obtain⟨h1,h2⟩:=aKA hce (hw w (.head _)) (hu u (.head _)) (show w++c::e::jL2 c e (x::s)=u++c::e::jL2 c e (v::r) from h)
  rw[h1,aF6 hce (by simp) (by simp) (λz hz=>hw z (Qr9 _ hz)) (λz hz=>hu z (Qr9 _ hz)) h2]
theorem aBp(c e:Nat):∀ws:List Str,(Str.join ⟨#[c,e]⟩ ws).cps.toList=jL2 c e (ws.map (·.cps.toList))
 |[]=>rfl
 |[w]=>rfl
 |w::v::r=>by
  have q:Str.join ⟨#[c,e]⟩ (w::v::r)=w ++ ⟨#[c,e]⟩ ++ Str.join ⟨#[c,e]⟩ (v::r):=rfl
  rw[q,Str.cps_append,Str.cps_append,Rl9,Rl9,aBp c e (v::r)]
  show w.cps.toList ++ [c,e] ++ _=w.cps.toList++c::e::_
  simp
open Builtin Builtin.Str in
theorem xK(x:Str)(c e a b:Nat)(hb:b<=x.length)(hn:∀k,a<=k->k < b->¬StrLaws.At x ⟨#[c,e]⟩ x.length k):No2 c e (strSub x a b).cps.toList:=by
 intro u v h
 rw[StrLaws.strSub_toList] at h
 have hl:u.length+2<=b - a:=by
  have:=congrArg List.length h
  rw[tP,Rm9,rA,Re9,Re9] at this
  omega
 have hx:x.cps.toList.length=x.length:=wY
 refine hn (a+u.length) (by omega) (by omega) ⟨by show a+u.length+2<=x.length;omega,?_⟩
 rw[StrLaws.subAt_eq]
 show((x.cps.toList.drop (a+u.length)).take 2 == [c,e])=true
 have e1:((x.cps.toList.drop a).take (b - a)).drop u.length=c::e::v:=by rw[h,List.drop_left]
 rw[List.drop_take,List.drop_drop] at e1
 have e2:(x.cps.toList.drop (a+u.length)).take 2=((x.cps.toList.drop (a+u.length)).take (b - a - u.length)).take 2:=by
  rw[List.take_take,Tx9 (by omega)]
 rw[e2,e1]
 simp
open Builtin Builtin.Str in
theorem aAw(x:Str)(c e:Nat):∀(cuts:List Nat) (a f:Nat),StrLaws.ChainG x ⟨#[c,e]⟩ x.length a cuts f->(∀k,f<=k->¬StrLaws.At x ⟨#[c,e]⟩ x.length k)->∀p∈StrLaws.partsFrom x (⟨#[c,e]⟩ : Str).length a cuts,No2 c e p.cps.toList
 |[],a,f,h,hn,p,hp=>by
  have q:f=a:=h
  subst q
  rw[Rh9.mp hp]
  exact xK x c e f x.length (iI _) λk h1 _=>hn k h1
 |d::r,a,f,h,hn,p,hp=>by
  rcases rN.mp hp with rfl|hp'
  ·exact xK x c e a d (by have:=h.2.1.1;omega) h.2.2.1
  ·exact aAw x c e r _ f h.2.2.2 hn p hp'
open Builtin Builtin.Str in
theorem aEi(x:Str)(c e:Nat)(hc:c < 128)(he:e < 128):∀p∈Txt.split x ⟨#[c,e]⟩,No2 c e p.cps.toList:=by
 obtain⟨f,hG,hn⟩:=StrLaws.occ_tight x ⟨#[c,e]⟩ (show 1<=2 by decide)
 unfold Txt.split
 split
 ·rename_i hk
  intro p hp
  rw[Rh9.mp hp]
  intro u v z
  have hl:=congrArg List.length z
  rw[rA,Re9,Re9,wY] at hl
  rw[Bool.or_eq_true,decide_eq_true_eq,decide_eq_true_eq] at hk
  rcases hk with h|h
  ·have h':x.cps.size < 2:=h
   omega
  ·have k1:(#[c,e]:Array Nat).all (·< 256)=true:=by simp;omega
   unfold Builtin.Str.strKind at h
   rw[gU k1] at h
   split at h
   ·omega
   ·split at h <;> omega
 ·split
  ·rename_i hk
   intro p hp
   rw[Rh9.mp hp]
   rw[List.isEmpty_iff.mp hk] at hG
   have q:f=0:=hG
   subst q
   have z:=xK x c e 0 x.length (iI _) λk h1 _=>hn k h1
   rwa[StrLaws.sub_whole] at z
  ·rw[StrLaws.partsBetween_eq]
   exact aAw x c e _ 0 f hG hn
theorem aEj(c e:Nat)(hce:e≠c)(hc:c < 128)(he:e < 128){ws:List Str}(h0:ws≠[])(hf:∀w∈ws,c∉w.cps.toList):Txt.split (Str.join ⟨#[c,e]⟩ ws) ⟨#[c,e]⟩=ws:=by
 have h1:=StrLaws.join_split (Str.join ⟨#[c,e]⟩ ws) ⟨#[c,e]⟩
 have h2:=aEi (Str.join ⟨#[c,e]⟩ ws) c e hc he
 have h3:Txt.split (Str.join ⟨#[c,e]⟩ ws) ⟨#[c,e]⟩≠[]:=λz=>by
  have:=PyProof.Rows.split_pos (Str.join ⟨#[c,e]⟩ ws) ⟨#[c,e]⟩
  rw[z] at this
  exact absurd this (by decide)
 have h4:jL2 c e (ws.map (·.cps.toList))=jL2 c e ((Txt.split (Str.join ⟨#[c,e]⟩ ws) ⟨#[c,e]⟩).map (·.cps.toList)):=by rw[<-aBp,<-aBp,h1]
 have h5:=aF6 hce (by simpa using h0) (by simpa using h3) (λz hz=>by obtain⟨p,hp,rfl⟩:=Rk9.mp hz;exact hf p hp) (λz hz=>by obtain⟨p,hp,rfl⟩:=Rk9.mp hz;exact h2 p hp) h4
 exact(aDp h5).symm
def aFu(H:Hp)(e C:Addr)(f:Str)(v:V):Prop:=∃dx,H e=some (fZ C (some dx) e)/\H dx=some (.xd [(f,v)])
def aEk(H:Hp)(e C:Addr):Prop:=H e=some (fZ C none e)
def aNp(f:Str)(K:W.Frag):Sp:=λvs H Q _=>∃(x C:Addr) (v:V),vs=[.ref x,v]/\H x=some (iK C none x)/\rD K C/\aFV K C f/\∀dx,H dx=none->dx≠x->Q .non (upd (upd H dx (.xd [(f,v)])) x (iK C (some dx) x))
theorem aDq{H:Hp}{x dx C:Addr}{a c:HO}{f:Str}{v:V}(nx:H x=none)(n1:upd H x a dx=none)(n2:dx≠x) :
  aT H (upd (upd (upd (upd H x a) dx (.xd [(f,v)])) x c) x (fZ C (some dx) x))/\aFu (upd (upd (upd (upd H x a) dx (.xd [(f,v)])) x c) x (fZ C (some dx) x)) x C f v:=by
 rw[aU n2] at n1
 refine⟨λb o e=>?_,dx,aO,by rw[aU n2,aU n2,aO]⟩
 have hb:b≠x:=λz=>by rw[z,nx] at e;cases e
 have hd:b≠dx:=λz=>by rw[z,n1] at e;cases e
 rw[aU hb,aU hb,aU hd,aU hb]
 exact e
theorem iG{H:Hp}{x C:Addr}{a:HO}(nx:H x=none):aT H (upd (upd H x a) x (fZ C none x))/\aEk (upd (upd H x a) x (fZ C none x)) x C:=by
 refine⟨λb o e=>?_,aO⟩
 have hb:b≠x:=λz=>by rw[z,nx] at e;cases e
 rw[aU hb,aU hb]
 exact e
def aBU:PySem.W.Frag->Sp:=aNp "at"
theorem qX{P:Program}{w:World}{K:PySem.W.Frag}{mg:Str->Option Value}{base:Heap}{a:sC}(tx:Txt K mg a):cT P w K mg base tZ 1 a.kD a.nS ["self","at"] (aBU K):=by
 refine tx.yF.ok aBS (λvs H Q E h=>?_) (λcdv A outer s H vs Q E hr h=>?_)
 ·obtain⟨x,C,v,rfl,_⟩:=h
  rfl
 ·obtain⟨x,C,v,rfl ,he,Zk,n,k⟩:=h
  have hu:=tQ hr
  refine bP (aF (aFm (K':=K) (aD 0) (aD 1) rfl)) ?_
  refine bF (σ:=[some (.ref x),some v]) rfl ?_
  walk_at "w"
  exact⟨x,C,rfl,he,Zk,n,k⟩
abbrev sN(n:Int):Str:=Str.ofString (toString n)
theorem iV{n:Int}(h0:0<=n):∀c∈(sN n).cps.toList,48<=c/\c<=57:=by
 obtain⟨m,rfl⟩:=Rz9 h0
 intro c hc
 rw[PySem.W.KIN.signs_num] at hc
 obtain⟨ch,hch,e⟩:=Rk9.mp hc
 have r:=aCB (Nat.isDigit_of_mem_toDigits (by decide) (by decide) hch)
 rw[<-e]
 exact r
theorem aKh:∀{m:Nat},0 < m->(Nat.toDigits 10 m).head?≠some '0':=by
 intro m
 induction m using Nat.strongRecOn with
 |_ m ih=>
  intro hm
  by_cases h:m < 10
  ·rw[Nat.toDigits_of_lt_base h]
   have:m=1\/m=2\/m=3\/m=4\/m=5\/m=6\/m=7\/m=8\/m=9:=by omega
   rcases this with rfl|rfl|rfl|rfl|rfl|rfl|rfl|rfl|rfl <;> decide
  ·have hm':m % 10 < 10:=Nat.mod_lt m (by decide)
   have t:Nat.toDigits 10 (m / 10)++Nat.toDigits 10 (m % 10)=Nat.toDigits 10 (10*(m / 10)+m % 10):=Nat.toDigits_append_toDigits (by decide) (by omega) hm'
   rw[Nat.div_add_mod] at t
   rw[<-t]
   have ne:Nat.toDigits 10 (m / 10)≠[]:=λe=>by
    have h:=Nat.length_toDigits_pos (b:=10) (n:=m / 10)
    rw[e] at h
    exact absurd h (by decide)
   have r:=ih (m / 10) (by omega) (by omega)
   generalize Nat.toDigits 10 (m / 10)=l at ne r
   cases l with
   |nil=>exact absurd rfl ne
   |cons x l=>exact r
theorem aKi{n:Int}(h0:0<=n)(h1:1 < (sN n).length):(sN n).cps.toList.head?≠some 48:=by
 obtain⟨m,rfl⟩:=Rz9 h0
 rw[PySem.W.KIN.signs_num]
 have hm:0 < m:=by
  rcases Nat.eq_zero_or_pos m with rfl|h
  ·exact absurd h1 (by decide)
  ·exact h
 intro z
 rw[List.head?_map] at z
 obtain⟨ch,e1,e2⟩:=Qt9.mp z
 refine aKh hm ?_
 rw[e1]
 congr 1
 exact Char.toNat_inj.mp e2
theorem starts_app(a b:Str):Txt.startswith (a++b) a=true:=by
 unfold Txt.startswith
 rw[zB,decide_eq_true_eq,StrLaws.subAt_eq,Str.length_append]
 refine⟨by omega,?_⟩
 rw[Str.cps_append,Rl9,Sq9]
 have e:a.length=a.cps.toList.length:=wY.symm
 rw[e,List.take_left]
 simp
theorem take_snoc{α:Type}{l:List α}{i:Nat}{x:α}(h:l[i]?=some x):l.take (i+1)=l.take i ++ [x]:=by
 rw[To9,h];rfl
theorem RL.get{α:Type}{P:Addr->α->Prop}{as:List Addr}{xs:List α}(h:RL P as xs){i:Nat}(hv:(as.map V.ref)[i]?=some v):∃a x,as[i]?=some a/\v=.ref a/\xs[i]?=some x/\P a x:=by
 rw[xV] at hv
 cases hq:as[i]? with
 |none=>rw[hq] at hv;cases hv
 |some a=>
  rw[hq] at hv
  cases hv
  have li:i < xs.length:=by rw[<-h.len];exact(wF.mp hq).1
  have hx:xs[i]?=some xs[i]:=tO li
  exact⟨a,xs[i],rfl,rfl,hx,h.at_ i a _ hq hx⟩
theorem yU{ns:List Int}{i:Nat}(h:(ns.map V.int)[i]?=some x):∃n,ns[i]?=some n/\x=.int n:=by
 rw[xV] at h
 obtain⟨n,e,rfl⟩:=Qt9.mp h
 exact⟨n,e,rfl⟩
structure Hr where
 ons:List Int
 outs:List Int
 lvl:Int
def aMm(H:Hp)(a:Addr)(h:Hr):Prop:=∃t1 t2,H a=some (.tup [.ref t1,.ref t2,.int h.lvl])/\H t1=some (.tup (h.ons.map V.int))/\H t2=some (.tup (h.outs.map V.int))
theorem aMn{n:Int}(h0:0<=n)(h1:n < 10 ^ 20):n.natAbs.log2 < 1920:=by
 by_cases z:n.natAbs=0
 ·rw[z];decide
 ·rw[Nat.log2_lt z]
  have:(10:Int) ^ 20=100000000000000000000:=by decide
  exact xU (by omega:n.natAbs < 2 ^ 67) (Nat.pow_le_pow_right (by decide) (by decide))
theorem sp1:(Str.ofString " ")=⟨#[32]⟩:=by decide
theorem sp2:(Str.ofString "; ")=⟨#[59,32]⟩:=by decide
theorem aEm(c e:Nat):∀{ws:List (List Nat)},e≠c->(∀w∈ws,e∉w)->e∉jL c ws
 |[],_,_,h=>by cases h
 |[w],_,hw,h=>hw w (.head _) h
 |w::v::r,hec,hw,h=>by
  rcases Rb9.mp (show e∈w++c::jL c (v::r) from h) with z|z
  ·exact hw w (.head _) z
  ·rcases rN.mp z with z|z
   ·exact hec z
   ·exact aEm c e hec (λu hu=>hw u (Qr9 _ hu)) z
theorem aDr(x:V):atI (xs ++ [x]) (-1)=some x:=by
 have e:ixN (xs ++ [x]).length (-1)=some xs.length:=by
  unfold ixN
  rw[fQ (by omega),gU (by rw[rA,Rt9];omega)]
  congr 1
  rw[rA,Rt9]
  omega
 unfold atI
 rw[e]
 simp
def SmV(H:Hp):Nat->V->V->Prop
 |0,_,_=>False
 |j+1,x,y=>(∃i,x=.int i/\y=.int i)\/(∃b,x=.bl b/\y=.bl b)\/(x=.non/\y=.non)\/(∃s,x=.str s/\y=.str s)\/
  ∃(p q:Addr) (xs ys:List V),x=.ref p/\y=.ref q/\((H p=some (.tup xs)/\H q=some (.tup ys))\/(H p=some (.lst xs)/\H q=some (.lst ys)))/\xs.length=ys.length/\ys.length<=1000000/\∀(i:Nat) u v,xs[i]?=some u->ys[i]?=some v->SmV H j u v
theorem SmV.int{j:Nat}(i:Int):SmV H (j+1) (.int i) (.int i):=.inl ⟨i,rfl,rfl⟩
theorem xM(np:H p=none)(s:aT H H1)(k:cJ p H1 H2):aT H H2:=λb o e=>k _ _ (s _ _ e) (cQ np e)
theorem aMm.keep{H H':Hp}{a p:Addr}{h:Hr}(x:aMm H a h)(hh:bM H p)(s:cJ p H H'):aMm H' a h:=by
 obtain⟨xs,e⟩:=hh.isL
 have f:∀{b:Addr} {ys:List V},H b=some (.tup ys)->H' b=some (.tup ys):=λ{b ys} g=>s _ _ g λz=>by rw[z,e] at g;cases g
 obtain⟨t1,t2,a,b,c⟩:=x
 exact⟨t1,t2,f a,f b,f c⟩
abbrev Pl(w:Str):Prop:=w.cps.all (·< 128)=true
theorem Pl.mem{w:Str}(h:Pl w):∀c∈w.cps.toList,c < 128:=λc hc=>by
 have h':w.cps.toList.all (·< 128)=true:=by rw[Array.all_toList];exact h
 exact of_decide_eq_true (Ri9.mp h' c hc)
theorem Pl.of{w:Str}(h:∀c∈w.cps.toList,c < 128):Pl w:=by
 show w.cps.all (·< 128)=true
 rw[<-Array.all_toList,Ri9]
 exact λc hc=>Rv9 (h c hc)
structure Ln(n:Nat)(w:Str):Prop where
 pl:Pl w
 sz:w.length<=n
theorem Pl.app{a b:Str}(h1:Pl a)(h2:Pl b):Pl (a++b):=Pl.of λc hc=>by
 rw[Str.cps_append,Rl9] at hc
 exact(Rb9.mp hc).elim (h1.mem c) (h2.mem c)
theorem Ln.app{n m:Nat}{a b:Str}(h1:Ln n a)(h2:Ln m b):Ln (n+m) (a++b):=⟨h1.pl.app h2.pl,by rw[Str.length_append];have:=h1.sz;have:=h2.sz;omega⟩
theorem Ln.le{n m:Nat}{a:Str}(h:Ln n a)(hm:n<=m):Ln m a:=⟨h.pl,wZ h.sz hm⟩
theorem aGY{x:Str}{l u:Option Int}:∀c∈(StrLaws.sliceText x l u).cps.toList,c∈x.cps.toList:=λc hc=>by
 unfold StrLaws.sliceText at hc
 split at hc
 ·exact hc
 ·have hc':c∈(Builtin.Str.strSliceIndices l u 1 x.length).filterMap (x.cps[·]?):=by simpa using hc
  obtain⟨i,_,hi⟩:=List.mem_filterMap.mp hc'
  exact v9 (by rw[Tr9];exact hi)
theorem aBq{y:Str}:∀{ws:List Str}{w:Str},w∈ws->(∀c∈w.cps.toList,c∈(Str.join y ws).cps.toList)/\w.length<=(Str.join y ws).length
 |[x],w,h=>by
  rw[Rh9.mp h]
  exact⟨λc hc=>hc,iI _⟩
 |x::z::r,w,h=>by
  show(∀c∈w.cps.toList,c∈(x++y++Str.join y (z::r)).cps.toList)/\w.length<=(x++y++Str.join y (z::r)).length
  rw[Str.cps_append,Str.cps_append,Rl9,Rl9,Str.length_append,Str.length_append]
  rcases rN.mp h with rfl|h
  ·exact⟨λc hc=>Ro9 _ (Ro9 _ hc),by omega⟩
  ·obtain⟨a,b⟩:=aBq (y:=y) h
   exact⟨λc hc=>xT _ (a c hc),by omega⟩
theorem eC{n:Nat}{x y:Str}(h:Ln n x):∀w∈Txt.split x y,Ln n w:=λw hw=>by
 obtain⟨a,b⟩:=aBq (y:=y) hw
 rw[StrLaws.join_split] at a b
 exact⟨Pl.of λc hc=>h.pl.mem c (a c hc),wZ b h.sz⟩
theorem vZ{y:Str}(hy:Pl y):∀{ws:List Str},(∀w∈ws,Pl w)->Pl (Str.join y ws)
 |[],_=>Pl.of λc hc=>nomatch (show c∈([]:List Nat) from hc)
 |[x],h=>h x (.head _)
 |x::z::r,h=>((h x (.head _)).app hy).app (vZ hy λw hw=>h w (.tail _ hw))
def dg(c:Nat):Bool:=decide (48<=c) && decide (c<=57)
def okN(w:Str):Bool:=decide (0 < w.length) && decide (w.length<=20) && w.cps.toList.all dg && !(decide (1 < w.length) && (w.cps.toList.head? == some 48))
def dE(w:Str):Option Int:=if okN w=true then PySem.intText? w else none
theorem fY{w:Str}:okN w=true↔0 < w.length/\w.length<=20/\w.cps.toList.all dg=true/\¬(1 < w.length/\w.cps.toList.head?=some 48):=by
 unfold okN
 simp only[zB,decide_eq_true_eq,Bool.not_eq_true',Bool.and_eq_false_iff,decide_eq_false_iff_not,beq_eq_false_iff_ne,and_assoc]
 constructor
 ·rintro ⟨a,b,c,d⟩
  exact⟨a,b,c,λz=>d.elim (λq=>q z.1) λq=>q z.2⟩
 ·rintro ⟨a,b,c,d⟩
  refine⟨a,b,c,?_⟩
  by_cases z:1 < w.length
  ·exact .inr λq=>d ⟨z,q⟩
  ·exact .inl z
theorem aDs{w:Str}(h:okN w=true):∃n,PySem.intText? w=some n/\dE w=some n:=by
 obtain⟨a,b,c,d⟩:=fY.mp h
 have hd:∀x∈w.cps.toList,48<=x/\x<=57:=λx hx=>by
  have:=Ri9.mp c x hx
  unfold dg at this
  simpa using this
 have hne:w.cps.toList≠[]:=λe=>by
  have:w.cps.toList.length=w.length:=wY
  rw[e] at this
  exact absurd this (by rw[Tb9];omega)
 have e:=PySem.intText_digits (x:=w) hd hne (by omega)
 exact⟨_,e,by unfold dE;rw[gU h,e]⟩
theorem mM{w:Str}(h:¬okN w=true):dE w=none:=by unfold dE;rw[fQ h]
theorem aF7(c:Nat)(h:c < 128):(!(Builtin.Str.occurrences (Str.ofString "0123456789") ⟨#[c]⟩ 0 (Str.ofString "0123456789").length 1).isEmpty)=dg c:=by
 have q:∀i:Fin 128,(!(Builtin.Str.occurrences (Str.ofString "0123456789") ⟨#[i.val]⟩ 0 (Str.ofString "0123456789").length 1).isEmpty)=dg i.val:=by decide +kernel
 exact q ⟨c,h⟩
theorem u3{n:Nat}{x:Str}{l u:Option Int}(h:Ln n x)(hz:(StrLaws.sliceText x l u).length<=n):Ln n (StrLaws.sliceText x l u):=⟨Pl.of λc hc=>h.pl.mem c (aGY c hc),hz⟩
def cX{α β:Type}(f:α->Option β):List α->Option (List β)
 |[]=>some []
 |x::r=>match f x,cX f r with
  |some y,some ys=>some (y::ys)
  |_,_=>none
theorem aCC{α β:Type}{f:α->Option β}:∀{xs:List α}{ys:List β}{x:α}{y:β},cX f xs=some ys->f x=some y->cX f (xs ++ [x])=some (ys ++ [y])
 |[],ys,x,y,h,hy=>by cases h;show(match f x,some [] with|some y,some ys=>some (y::ys)|_,_=>none)=_;rw[hy];rfl
 |z::r,ys,x,y,h,hy=>by
  unfold cX at h
  cases e1:f z with
  |none=>rw[e1] at h;cases h
  |some u=>
   cases e2:cX f r with
   |none=>rw[e1,e2] at h;cases h
   |some us=>
    rw[e1,e2] at h
    cases h
    have ih:=aCC e2 hy
    show cX f (z::(r ++ [x]))=_
    unfold cX
    rw[e1,ih]
    rfl
theorem rG{α β:Type}{f:α->Option β}:∀{xs:List α}{x:α},x∈xs->f x=none->cX f xs=none
 |z::r,x,h,hx=>by
  unfold cX
  rcases rN.mp h with rfl|h
  ·rw[hx]
  ·rw[rG h hx]
   cases f z <;> rfl
theorem dN{α β:Type}{f:α->Option β}:∀{xs:List α}{ys:List β},cX f xs=some ys->ys.length=xs.length
 |[],ys,h=>by cases h;rfl
 |z::r,ys,h=>by
  unfold cX at h
  cases e1:f z with
  |none=>rw[e1] at h;cases h
  |some u=>
   cases e2:cX f r with
   |none=>rw[e1,e2] at h;cases h
   |some us=>
    rw[e1,e2] at h
    cases h
    rw[Re9,Re9,dN e2]
def dX(p:Str):List Str:=Txt.split p (Str.ofString " ")
theorem aFv(p:Str):dX p≠[]:=λe=>by
 have:=PyProof.Rows.split_pos p (Str.ofString " ")
 unfold dX at e
 rw[e] at this
 exact absurd this (by decide)
def qZ(x:Str):List Str:=Txt.split x (Str.ofString "; ")
theorem aF8{c d:Nat}(z:Str)(hz:z.cps.toList=[d]):eqV (.str ⟨#[c]⟩) (.str z)=decide (c=d):=by
 show((⟨#[c]⟩ : Str) == z)=decide (c=d)
 by_cases h:c=d
 ·subst h
  have e:(⟨#[c]⟩ : Str)=z:=Str.ext' (Sm9.mp hz.symm)
  rw[e,Rv9 rfl]
  exact beq_self_eq_true _
 ·rw[Rp9 h,beq_eq_false_iff_ne]
  intro e
  have q:(⟨#[c]⟩ : Str).cps.toList=z.cps.toList:=by rw[e]
  rw[hz] at q
  exact h (List.cons.inj q).1
theorem mO(x y:Str):eqV (.str x) (.str y)=decide (x=y):=by
 show(x == y)=decide (x=y)
 by_cases h:x=y
 ·rw[Rv9 h,h];exact beq_self_eq_true _
 ·rw[Rp9 h,beq_eq_false_iff_ne];exact h
theorem yV{p:Str}{n:Nat}(h:p.length<=n):(dX p).dropLast.length<=n+1/\(dX p).length<=n+2:=by
 have:=PyProof.Rows.split_le p (Str.ofString " ")
 have e:(dX p).dropLast.length=(dX p).length - 1:=List.length_dropLast
 have e2:(dX p).length=(Txt.split p (Str.ofString " ")).length:=rfl
 omega
theorem yW{α β:Type}{f:α->Option β}:∀{xs:List α}{ys:List β}{i:Nat}{x:α},cX f (xs.take i)=some ys->xs[i]?=some x->∀{y},f x=some y->cX f (xs.take (i+1))=some (ys ++ [y]):=λ{xs ys i x} h hx {y} hy=>by
 rw[take_snoc hx]
 exact aCC h hy
def aDt(K:W.Frag)(CN:Addr):Sp:=λvs H Q E=>∃w:Str,vs=[.str w]/\Ln 100000 w/\(∀n,dE w=some n->∀H',aT H H'->Q (.int n) H')/\(dE w=none->∀e od H',aT H H'->aEk H' e CN->E (.ref e) od H')
theorem o4{P:Program}{w:World}{K:PySem.W.Frag}{mg:Str->Option Value}{base:Heap}{a:sC}(tx:Txt K mg a):cT P w K mg base (tR P w) 1 a.qB a.qC ["word"] (aDt K a.aV):=by
 refine tx.iD.okE aDi (λvs H Q E h=>?_) (λcdv A outer s H vs Q E hr h=>?_)
 ·obtain⟨w,rfl,_⟩:=h
  rfl
 ·obtain⟨w,rfl ,hw,k,ke⟩:=h
  have hu:=tQ hr
  refine bP (aE (aZ (dA (cH (aL (r:=rC K) (gY hu) (aJ (rc:=aAj) lD (by rfl) tx.dQ cV (aB (aD 0) aA)) aC (bB _)) (dC (aL pC (aJ (rc:=aAj) lD (by rfl) tx.dQ cV (aB (aD 0) aA)) (pE (n:=20) (by rfl) tx.fL) (bB _))))) (aF (dH (K':=K) (E:=E) eI rfl (fR tx.ex_NoText tx.Z_NoText.kp (by rfl) tx.iE))) aP)
   (aE (aZ (eH (eG (aJ (rc:=aFa K) (vO rfl) (by rfl) tx.yT aC6 (aB (d8 (k:=1) (idx:=[]) (N:=["sign"]) (d6 (sc:=aH hV) (NX:=["word"]) rfl rfl rfl (by decide +kernel)) rfl (aCx (aD 0)) (λ_ _ _ _=>(aQ (i:=0) (show(["sign"]:List Str).Nodup by decide +kernel))) (cL (by decide)) (λ_ _ _ _=>bR) (λ_ _ _ _=>(jK (r:=aNi) aMe (aD 0) (xF (n:="0123456789") (by rfl) tx.o7) (by with_unfolding_all rfl)))) aA)))) (aF (dH (K':=K) (E:=E) eI rfl (fR tx.ex_NoText tx.Z_NoText.kp (by rfl) tx.iE))) aP)
   (aE (aZ (dA (zK (aL pC (aJ (rc:=aAj) lD (by rfl) tx.dQ cV (aB (aD 0) aA)) aC (bB _)) (xB (aL (r:=rC K) (gY hu) (aK (K':=K) (aD 0) aC) aR (bB _))))) (aF (dH (K':=K) (E:=E) eI rfl (fR tx.ex_NoText tx.Z_NoText.kp (by rfl) tx.iE))) aP)
   (aF (aN (cB (rc:=aIg) aCw (by rfl) tx.aAu aE6 (aB (aD 0) aA))))))) ?_
  have hl:=hw.sz
  have hz:w.length<=sizeLine:=aX (by omega)
  have e0:w.cps.toList.length=w.length:=wY
  refine bF (σ:=[some (.str w)]) rfl ?_
  walk_at "w"
  refine⟨w,rfl,hz,?_⟩
  walk_at "w"
  refine bX (λh=>?_) (λh1=>?_)
  ·walk_at "w"
   intro e ne
   obtain⟨s1,e1⟩:=iG (C:=a.aV) (a:=iK a.aV none e) ne
   exact⟨e,a.aV,none,rfl,aO,tx.Z_NoText,ke (mM λz=>by have:=(fY.mp z).1;omega) _ _ _ s1 e1⟩
  walk_at "w"
  refine⟨w,rfl,hz,?_⟩
  walk_at "w"
  refine bX (λh=>?_) (λh2=>?_)
  ·walk_at "w"
   intro e ne
   obtain⟨s1,e1⟩:=iG (C:=a.aV) (a:=iK a.aV none e) ne
   exact⟨e,a.aV,none,rfl,aO,tx.Z_NoText,ke (mM λz=>by have:=(fY.mp z).2.1;omega) _ _ _ s1 e1⟩
  walk_at "w"
  refine⟨w,rfl,hw.pl,?_⟩
  refine aIj (λi us H'=>H'=H/\us=((w.cps.toList.take i).map dg).map V.bl) ⟨rfl,rfl⟩ hz (λi us H' hi ⟨_,e⟩=>by rw[e,cC,cC,tP];omega) (λi c us H' hc z6q=>?_) (λus H' z7q=>?_)
  ·obtain⟨e0,e1⟩:=z6q
   subst e0
   have hc2:w.cps.toList[i]?=some c:=by rw[Tr9];exact hc
   have hc':=hw.pl.mem c (v9 hc2)
   walk_at "w"
   refine⟨⟨#[c]⟩,_,rfl,rfl,?_⟩
   rw[aF7 c hc']
   refine⟨rfl,?_⟩
   rw[e1,To9,hc2,o5,o5]
   rfl
  obtain⟨e0,e1⟩:=z7q
  subst e0
  rw[show w.cps.size=w.cps.toList.length from wY.symm,Qx9] at e1
  subst e1
  intro l nl
  obtain⟨H1,i1,s1,g1⟩:=nw _ nl;rw[i1]
  walk_at "w"
  refine aLX (bQ.of g1) ?_
  rw[List.all_map]
  walk_at "w"
  refine iJ (λh3=>?_) (λh3=>?_)
  ·walk_at "w"
   intro e ne
   obtain⟨s2,e2⟩:=iG (C:=a.aV) (a:=iK a.aV none e) ne
   refine⟨e,a.aV,none,rfl,aO,tx.Z_NoText,ke (mM λz=>?_) _ _ _ (s1.trans s2) e2⟩
   have:=(fY.mp z).2.2.1
   simp[this] at h3
  walk_at "w"
  refine⟨w,rfl,hz,?_⟩
  walk_at "w"
  have hall:w.cps.toList.all dg=true:=by simpa using h3
  refine bX (λh4=>?_) (λh4=>?_)
  ·obtain⟨c,ec⟩ : ∃c,w.cps.toList[0]?=some c:=⟨_,tO (by rw[e0];omega)⟩
   walk_at "w"
   refine .inr (.inr ⟨w,0,c,rfl,rfl,hz,j0 (j:=0) ec,?_⟩)
   walk_at "w"
   rw[aF8 (d:=48) (Str.ofString "0") (by decide)]
   refine bX (λh5=>?_) (λh5=>?_)
   ·walk_at "w"
    intro e ne
    obtain⟨s2,e2⟩:=iG (C:=a.aV) (a:=iK a.aV none e) ne
    refine⟨e,a.aV,none,rfl,aO,tx.Z_NoText,ke (mM λz=>(fY.mp z).2.2.2 ⟨by omega,?_⟩) _ _ _ (s1.trans s2) e2⟩
    rw[Sz9,ec,h5]
   ·obtain⟨n,hi,hn⟩:=aDs (w:=w) (fY.mpr ⟨by omega,by omega,hall,λz=>h5 (by rw[Sz9,ec] at z;exact Option.some.inj z.2)⟩)
    walk_at "w"
    exact⟨w,n,rfl,hi,by omega,k n hn _ s1⟩
  ·obtain⟨n,hi,hn⟩:=aDs (w:=w) (fY.mpr ⟨by omega,by omega,hall,λz=>by omega⟩)
   walk_at "w"
   exact⟨w,n,rfl,hi,by omega,k n hn _ s1⟩
theorem aEn{w:Str}(h:w.length=0):w=Str.ofString "":=by
 apply Str.ext'
 apply Sm9.mp
 have e:w.cps.toList.length=w.length:=wY
 rw[h] at e
 rw[List.eq_nil_of_length_eq_zero e]
 decide
theorem kR{x:Str}{i:Int}(h:0<=i):(StrLaws.sliceText x (some i) none).length<=x.length:=by
 have e:x.cps.toList.length=x.length:=wY
 by_cases hi:i<=x.length
 ·rw[StrLaws.sliceText_from ⟨h,by rw[e];exact hi⟩]
  show(List.toArray _).size<=_
  rw[mP,tP,Rm9,e]
  omega
 ·have q:StrLaws.sliceText x (some i) none=StrLaws.sliceText x (some (x.length:Int)) none:=by
   unfold StrLaws.sliceText
   have w:Builtin.Str.strSliceIndices (some i) none 1 x.length=Builtin.Str.strSliceIndices (some (x.length:Int)) none 1 x.length:=by
    have a:¬i < 0:=by omega
    have b:¬((x.length:Int) < 0):=by omega
    have c:min i (x.length:Int)=(x.length:Int):=by omega
    simp[Builtin.Str.strSliceIndices,a,b,c]
   rw[w]
  rw[q,StrLaws.sliceText_from ⟨by omega,by rw[e];exact Int.le_refl _⟩]
  show(List.toArray _).size<=_
  rw[mP,tP,Rm9,e]
  omega
theorem aDu{x:Str}{j:Int}(h:0<=j)(h2:j<=x.length):(StrLaws.sliceText x none (some j)).length<=x.length:=by
 have e:x.cps.toList.length=x.length:=wY
 rw[StrLaws.sliceText_to ⟨h,by rw[e];exact h2⟩]
 show(List.toArray _).size<=_
 rw[mP,tP,Rm9,e]
 omega
def NumV(w:Str)(v:V):Prop:=(∃n,dE w=some n/\v=.int n)\/(dE w=none/\v=.non)
theorem aMo{w:Str}{c:Nat}(h:w.cps.toList[0]?=some c)(hl:¬1 < w.length)(z:Str)(hz:z.cps.toList=[c]):w=z:=by
 apply Str.ext'
 apply Sm9.mp
 rw[hz]
 have e:w.cps.toList.length=w.length:=wY
 cases q:w.cps.toList with
 |nil=>rw[q] at h;cases h
 |cons d r=>
  rw[q] at h e
  cases h
  rw[Re9] at e
  rw[List.eq_nil_of_length_eq_zero (show r.length=0 by omega)]
theorem Pl.one{c:Nat}(h:c < 128):Ln 1 (⟨#[c]⟩ : Str):=⟨Pl.of λd hd=>by
 have:d=c:=by simpa using hd
 omega,iI 1⟩
def zV(ws:List Str)(lo hi:Option Int):List Str:=(ws.drop (HT.kX ws.length 0 lo)).take (HT.kX ws.length ws.length hi - HT.kX ws.length 0 lo)
theorem iH(ws:List Str)(lo hi:Option Int):gX (ws.map V.str) lo hi=(zV ws lo hi).map V.str:=by
 unfold gX zV
 rw[cC,Tt9,Tl9]
def wt(ws:List Str):Nat:=(ws.map (·.length)).sum+ws.length
theorem pQ(a b:List Str):wt (a++b)=wt a+wt b:=by
 unfold wt
 rw[o5,List.sum_append,rA]
 omega
theorem aDv(ws:List Str)(lo hi:Option Int):wt (zV ws lo hi)<=wt ws:=by
 unfold zV
 generalize HT.kX ws.length 0 lo=i
 generalize HT.kX ws.length ws.length hi - i=j
 have e1:=pQ (ws.take i) (ws.drop i)
 rw[List.take_append_drop] at e1
 have e2:=pQ ((ws.drop i).take j) ((ws.drop i).drop j)
 rw[List.take_append_drop] at e2
 omega
theorem aAY{ws:List Str}{lo hi:Option Int}{w:Str}(h:w∈zV ws lo hi):w∈ws:=Sr9 (Sf9 h)
theorem aCD{ws:List Str}{n:Nat}(h:wt ws<=n)(hn:n<=100000):JoinOk (Str.ofString " ") ws=true:=by
 unfold JoinOk
 rw[StrLaws.joinTotal,show(Str.ofString " ").length=1 by decide,Nat.mul_one]
 have:Builtin.Str.tooLong ((ws.map (·.length)).sum+ws.length)=false:=by
  unfold Builtin.Str.tooLong
  have z:(ws.map (·.length)).sum+ws.length<=sizeLine:=aX (by unfold wt at h;omega)
  simpa using z
 rw[this]
 rfl
theorem aF9{ws:List Str}{n:Nat}(h:wt ws<=n)(hp:∀w∈ws,Pl w):Ln n (Txt.join (Str.ofString " ") ws):=by
 have e:Txt.join (Str.ofString " ") ws=Str.join (Str.ofString " ") ws:=StrLaws.glued_eq_join _ _
 rw[e]
 refine⟨vZ (by decide +kernel) hp,?_⟩
 have:=StrLaws.join_length_le (Str.ofString " ") ws
 rw[show(Str.ofString " ").length=1 by decide,Nat.mul_one] at this
 unfold wt at h
 omega
theorem aMp(n:Nat)(h:n=15\/n=21):Ln 21 (⟨(List.replicate n (Str.ofString "1").cps).foldl (·++ ·) #[]⟩ : Str):=by
 rcases h with rfl|rfl
 ·exact⟨by decide +kernel,by decide +kernel⟩
 ·exact⟨by decide +kernel,by decide +kernel⟩
def aBr(K:W.Frag):Sp:=λvs H Q E=>∃w:Str,vs=[.str w]/\Ln 100000 w/\∀v H',NumV w v->aT H H'->Q v H'
theorem u4{P:Program}{w:World}{K:PySem.W.Frag}{mg:Str->Option Value}{base:Heap}{a:sC}(tx:Txt K mg a):cT P w K mg base tZ 1 a.lT a.lU ["_law_word"] (aBr K):=by
 refine tx.eX.ok uM (λvs H Q E h=>?_) (λcdv A outer s H vs Q E hr h=>?_)
 ·obtain⟨w,rfl,_⟩:=h
  rfl
 ·obtain⟨w,rfl ,hw,k⟩:=h
  have hu:=tQ hr
  refine bP (aE (aZ (dA (cH (aL (r:=rC K) (gY hu) (aD 0) aR (bB _)) (cH (aL pC (aJ (rc:=aAj) lD (by rfl) tx.dQ cV (aB (aD 0) aA)) aC (bB _)) (dC (dA (zK (aL (r:=rC K) (gY hu) (aK (K':=K) (aD 0) aC) aR (bB _)) (xB (aL (r:=wB K) (lC hu) (aD 0) aR (bB _))))))))) (aF (aN bS)) aP)
   (aE (dZ PassesOwn.never rfl (aCx (aD 0)) (aQ (i:=1) uM.nd) (aF (aZ (aL (r:=aF1) aGS (aD 1) aR (by with_unfolding_all rfl)) (aF (aN bS)) aP)))
   (aF (aN (cB (rc:=aIg) aCw (by rfl) tx.aAu aE6 (aB (aD 0) aA)))))) ?_
  have hl:=hw.sz
  have hz:w.length<=sizeLine:=aX (by omega)
  have e0:w.cps.toList.length=w.length:=wY
  refine bF (σ:=[some (.str w),none]) rfl ?_
  refine cY (λσ' H'=>σ'=[some (.str w),none]/\H'=H/\0 < w.length/\w.length<=20/\¬(1 < w.length/\w.cps.toList.head?=some 48)) (λN hN=>?_) ?_
  ·walk_at "w"
   rw[mO]
   refine bX (λh0=>?_) (λh0=>?_)
   ·repeat walk_at "gs"
    exact k _ _ (.inr ⟨mM λz=>by have:=(fY.mp z).1;rw[h0] at this;exact absurd this (by decide),rfl⟩) (aT.refl _)
   have l0:0 < w.length:=Nat.pos_of_ne_zero λz=>h0 (aEn z)
   walk_at "w"
   refine⟨w,rfl,hz,?_⟩
   walk_at "w"
   refine bX (λh1=>?_) (λh1=>?_)
   ·repeat walk_at "gs"
    exact k _ _ (.inr ⟨mM λz=>by have:=(fY.mp z).2.1;omega,rfl⟩) (aT.refl _)
   obtain⟨c,ec⟩ : ∃c,w.cps.toList[0]?=some c:=⟨_,tO (by rw[e0];omega)⟩
   walk_at "w"
   refine .inr (.inr ⟨w,0,c,rfl,rfl,hz,j0 (j:=0) ec,?_⟩)
   walk_at "w"
   rw[aF8 (d:=48) (Str.ofString "0") (by decide)]
   refine bX (λh2=>?_) (λh2=>?_)
   ·walk_at "w"
    rw[mO]
    refine iJ (λh3=>?_) (λh3=>?_)
    ·repeat walk_at "gs"
     refine k _ _ (.inr ⟨mM λz=>(fY.mp z).2.2.2 ⟨?_,by rw[Sz9,ec,h2]⟩,rfl⟩) (aT.refl _)
     by_cases q:1 < w.length
     ·exact q
     ·have:w=Str.ofString "0":=aMo ec q _ (by rw[h2];decide)
      simp[this] at h3
    ·repeat walk_at "gs"
     have:w=Str.ofString "0":=by simpa using h3
     exact hN _ _ ⟨rfl,rfl,l0,by omega,λz=>by rw[this] at z;exact absurd z.1 (by decide)⟩
   ·repeat walk_at "gs"
    exact hN _ _ ⟨rfl,rfl,l0,by omega,λz=>h2 (by rw[Sz9,ec] at z;exact Option.some.inj z.2)⟩
  rintro σ1 H1 ⟨rfl,rfl,l0,l20,hh⟩
  walk_at "w"
  refine⟨w,rfl,hw.pl,?_⟩
  refine aMg (λi σ' H'=>H'=H1/\(w.cps.toList.take i).all dg=true/\∃z,σ'=[some (.str w),z]) ⟨rfl,rfl,_,rfl⟩ (λi c σ' H' hc z8q=>?_) (λσ' H' z9q=>?_)
  ·obtain⟨e1,e2,z,e3⟩:=z8q
   subst e1 e3
   have hc2:w.cps.toList[i]?=some c:=by rw[Tr9];exact hc
   have hc':=hw.pl.mem c (v9 hc2)
   walk_at "w"
   refine⟨⟨#[c]⟩,_,rfl,rfl,?_⟩
   rw[aF7 c hc']
   walk_at "w"
   refine iJ (λh3=>?_) (λh3=>?_)
   ·walk_at "w"
    refine k _ _ (.inr ⟨mM λz=>?_,rfl⟩) (aT.refl _)
    have:=Ri9.mp (fY.mp z).2.2.1 c (v9 hc2)
    simp[this] at h3
   ·walk_at "w"
    have hd:dg c=true:=by simpa using h3
    exact⟨rfl,by rw[To9,hc2,List.all_append,e2];simp[hd],_,rfl⟩
  ·obtain⟨e1,e2,z,e3⟩:=z9q
   subst e1 e3
   rw[show w.cps.size=w.cps.toList.length from wY.symm,Qx9] at e2
   obtain⟨n,hi,hn⟩:=aDs (w:=w) (fY.mpr ⟨l0,l20,e2,hh⟩)
   walk_at "w"
   exact⟨w,n,rfl,hi,by omega,k _ _ (.inl ⟨n,hn,rfl⟩) (aT.refl _)⟩
def zW(K:W.Frag):Sp:=λvs H Q E=>∃p:Addr,vs=[.ref p]/\bM H p/\∀(c:Nat) H',c < 128->bM H' p->cJ p H H'->Q (.str ⟨#[c]⟩) H'
theorem zX{P:Program}{w:World}{K:PySem.W.Frag}{mg:Str->Option Value}{base:Heap}{a:sC}(tx:Txt K mg a):cT P w K mg base tZ 2 a.jB a.jC ["_law_hand"] (zW K):=by
 have bA:=fW (P:=P) (w:=w) (base:=base) tx
 refine tx.nH.ok lI (λvs H Q E h=>?_) (λcdv A outer s H vs Q E hr h=>?_)
 ·obtain⟨p,rfl,_⟩:=h
  rfl
 ·obtain⟨p,rfl ,hh,k⟩:=h
  have hu:=tQ hr
  refine bP (aE (aM (i:=1) lI.nd aR)
   (aE (aM (i:=1) lI.nd (aI (r:=iZ) dO (aD 1) aR))
   (aF (aN (aK (K':=K) (aD 1) (zq1 bA hr tx.bH tx.bD.kp tx.bG (aB (aD 0) (aB (aJ (rc:=aAj) lD (by rfl) tx.dQ cV (aB (aD 1) aA)) aA)))))))) ?_
  refine bF (σ:=[some (.ref p),none]) rfl ?_
  walk_at "w"
  refine⟨_,_,rfl,rfl,aX (by decide +kernel),?_⟩
  obtain⟨S,hS⟩ : ∃S:Str,Str.ofString " !\"#$&'()*+,-./0123456789:;<=>?@ABCDEFGHIJKLMNOPQRSTUVWXYZ[\\]^_`" ++ Str.ofString "abcdefghijklmnopqrstuvwxyz{|}~" = S:=⟨_,rfl⟩
  have lS:0 < S.length/\S.length<=100:=by rw[<-hS];decide +kernel
  have pS:Pl S:=by rw[<-hS];decide +kernel
  rw[hS]
  walk_at "w"
  refine⟨S,rfl,aX (by omega),?_⟩
  walk_at "w"
  refine⟨p,_,rfl,hh,by omega,by omega,λr1 H1 a1 b1 h1 k1 q1=>?_⟩
  obtain⟨c,ec⟩ : ∃c,S.cps.toList[r1.toNat]?=some c:=⟨_,tO (by rw[wY];show _ < S.length;omega)⟩
  have er:r1=(r1.toNat:Int):=by omega
  refine .inr (.inr ⟨S,r1,c,rfl,rfl,aX (by omega),by rw[er];exact j0 ec,?_⟩)
  walk_at "w"
  exact k c H1 (pS.mem c (v9 ec)) h1 k1
def aBs(K:W.Frag):Sp:=λvs H Q E=>∃(p:Addr) (x:Str),vs=[.ref p,.str x]/\bM H p/\Ln 20000 x/\∀(y:Str) H',Ln 100000 y->bM H' p->cJ p H H'->Q (.str y) H'
theorem aBt{P:Program}{w:World}{K:PySem.W.Frag}{mg:Str->Option Value}{base:Heap}{a:sC}(tx:Txt K mg a):cT P w K mg base tZ 3 a.lV a.lX ["_law_hand","_law_line_here"] (aBs K):=by
 have aAF:=zX (P:=P) (w:=w) (base:=base) tx
 have bA:=fW (P:=P) (w:=w) (base:=base) tx
 refine tx.qS.ok eB (λvs H Q E h=>?_) (λcdv A outer s H vs Q E hr h=>?_)
 ·obtain⟨p,x,rfl,_⟩:=h
  rfl
 ·obtain⟨p,x,rfl ,hh,hx,k⟩:=h
  have hu:=tQ hr
  refine bP (aE (aM (i:=2) eB.nd (zq1 bA hr tx.bH tx.bD.kp tx.bG (aB (aD 0) (aB aC aA))))
   (aE (aM (i:=3) eB.nd (aI jI (zq1 bA hr tx.bH tx.bD.kp tx.bG (aB (aD 0) (aB aC aA))) (aI bT (aJ (rc:=aAj) lD (by rfl) tx.dQ cV (aB (aD 1) aA)) aC)))
   (aE (aM (i:=4) eB.nd (aK (K':=K) aR (zq1 bA hr tx.bH tx.bD.kp tx.bG (aB (aD 0) (aB aC aA)))))
   (aE (aZ (aL (r:=rC K) (gY hu) (zq1 bA hr tx.bH tx.bD.kp tx.bG (aB (aD 0) (aB aC aA))) aC (bB _)) (aF (aM (i:=4) eB.nd (zq1 aAF hr tx.tT tx.nH.kp tx.tS (aB (aD 0) aA)))) aP)
   (aE (aZ (aL (r:=rC K) (gY hu) (aD 2) aC (bB _)) (aF (aN (aI (r:=iZ) dO (aI (r:=iZ) dO (aS (rs:=zO) nF (aD 1) aY (aW (aD 3))) (aD 4)) (aS (rs:=zO) nF (aD 1) (aW (aD 3)) aY)))) aP)
   (aE (aZ (aL (r:=rC K) (gY hu) (aD 2) aC (bB _)) (aF (aN (aI (r:=iZ) dO (aS (rs:=zO) nF (aD 1) aY (aW (aD 3))) (aS (rs:=zO) nF (aD 1) (aW (aI bT (aD 3) aC)) aY)))) aP)
   (aE (aZ (aL (r:=rC K) (gY hu) (aD 2) aC (bB _)) (aF (aN (aI (r:=iZ) dO (aI (r:=iZ) dO (aS (rs:=zO) nF (aD 1) aY (aW (aD 3))) (aD 4)) (aS (rs:=zO) nF (aD 1) (aW (aI bT (aD 3) aC)) aY)))) aP)
   (aE (aZ (aL (r:=rC K) (gY hu) (aD 2) aC (bB _)) (aF (aN (aS (rs:=zO) nF (aD 1) aY (aW (aD 3))))) aP)
   (aE (aZ (aL (r:=rC K) (gY hu) (aD 2) aC (bB _)) (aF (aN (aI (r:=iZ) dO (aI (r:=iZ) dO (aS (rs:=zO) nF (aD 1) aY (aW (aD 3))) (aI (r:=aKy) aJ8 aR (aK (K':=K) (nQ aC aC) (zq1 bA hr tx.bH tx.bD.kp tx.bG (aB (aD 0) (aB aC aA)))))) (aS (rs:=zO) nF (aD 1) (aW (aD 3)) aY)))) aP)
   (aE (aM (i:=5) eB.nd (dF (K':=K) (aD 1) (aB aR aA)))
   (aE (aM (i:=6) eB.nd (aI jI (zq1 bA hr tx.bH tx.bD.kp tx.bG (aB (aD 0) (aB aC aA))) (aJ (rc:=nP K) cF (by rfl) tx.dQ cV (aB (aD 5) aA))))
   (aF (aN (eT (K':=K) aR (aB (aK (K':=K) (nQ (aI bT (aS (rs:=kY K) mR (aD 5) aY (aW (aD 6))) (aS (rs:=kY K) mR (aD 5) (aW (aI bT (aD 6) aC)) aY)) (aI bT (aI bT (aS (rs:=kY K) mR (aD 5) aY (aW (aD 6))) (aS (rs:=kY K) mR (aD 5) (aW (aD 6)) (aW (aI bT (aD 6) aC)))) (aS (rs:=kY K) mR (aD 5) (aW (aD 6)) aY))) (zq1 bA hr tx.bH tx.bD.kp tx.bG (aB (aD 0) (aB aC aA)))) aA))))))))))))))) ?_
  have hl:=hx.sz
  refine bF (σ:=[some (.ref p),some (.str x),none,none,none,none,none]) rfl ?_
  walk_at "w"
  refine⟨p,_,rfl,hh,by decide,by decide,λway H1 a1 b1 h1 k1 _=>?_⟩
  walk_at "w"
  refine⟨p,_,rfl,h1,by decide,by decide,λr2 H2 a2 b2 h2 k2 _=>?_⟩
  walk_at "w"
  refine⟨x,rfl,aX (by omega),?_⟩
  walk_at "w"
  obtain⟨at_,hat,at0,at1⟩ : ∃at_:Int,r2 % ((x.length:Int)+1)=at_/\0<=at_/\at_<=x.length:=⟨_,rfl,Sv9 _ (by omega),by have:=Sd9 r2 (show(0:Int) < x.length+1 by omega);omega⟩
  rw[hat]
  refine⟨p,_,rfl,h2,by decide,by decide,λr3 H3 a3 b3 h3 k3 _=>?_⟩
  have l9:(Str.ofString " ;@-0:59n").cps.toList.length=9:=by decide +kernel
  obtain⟨c3,ec3⟩ : ∃c,(Str.ofString " ;@-0:59n").cps.toList[r3.toNat]?=some c:=⟨_,tO (by rw[l9];omega)⟩
  have pc3:c3 < 128:=Pl.mem (by decide +kernel:Pl (Str.ofString " ;@-0:59n")) c3 (v9 ec3)
  refine .inr (.inr ⟨_,r3,c3,rfl,rfl,aX (by decide),by rw[show r3=(r3.toNat:Int) by omega];exact j0 ec3,?_⟩)
  repeat walk_at "st"
  refine cY (λσ' H'=>∃c:Nat,c < 128/\σ'=[some (.ref p),some (.str x),some (.int way),some (.int at_),some (.str ⟨#[c]⟩),none,none]/\bM H' p/\cJ p H H') (λN hN=>?_) ?_
  ·walk_at "w"
   refine⟨p,_,rfl,h3,by decide,by decide,λr4 H4 a4 b4 h4 k4 _=>?_⟩
   walk_at "w"
   refine bX (λh=>?_) (λh=>?_)
   ·walk_at "w"
    refine⟨p,rfl,h4,λc H5 hc h5 k5=>?_⟩
    walk_at "w"
    exact hN _ _ ⟨c,hc,rfl,h5,k1.trans (k2.trans (k3.trans (k4.trans k5)))⟩
   ·walk_at "w"
    exact hN _ _ ⟨c3,pc3,rfl,h4,k1.trans (k2.trans (k3.trans k4))⟩
  rintro σ5 H5 ⟨c,hc,rfl,h5,K5⟩
  have sg:=Pl.one hc
  have A:Ln 20000 (StrLaws.sliceText x none (some at_)):=u3 hx (wZ (aDu at0 at1) hl)
  have B:Ln 20000 (StrLaws.sliceText x (some at_) none):=u3 hx (wZ (kR at0) hl)
  have B1:Ln 20000 (StrLaws.sliceText x (some (at_+1)) none):=u3 hx (wZ (kR (by omega)) hl)
  have bz:∀{n:Nat} {y:Str},Ln n y->n<=100000->y.length<=sizeLine:=λh hn=>aX (wZ h.sz (by omega))
  have az:∀{n m:Nat} {y z:Str},Ln n y->Ln m z->n+m<=100000->y.length+z.length<=sizeLine:=λh h' hn=>aX (by have:=h.sz;have:=h'.sz;omega)
  walk_at "w"
  refine bX (λw0=>?_) (λw0=>?_)
  ·walk_at "w"
   refine⟨_,rfl,bz A (by omega),?_⟩
   walk_at "w"
   refine⟨_,_,rfl,rfl,az A sg (by omega),?_⟩
   walk_at "w"
   refine⟨_,rfl,bz B (by omega),?_⟩
   walk_at "w"
   refine⟨_,_,rfl,rfl,az (A.app sg) B (by omega),?_⟩
   walk_at "w"
   exact k _ _ (((A.app sg).app B).le (by omega)) h5 K5
  walk_at "w"
  refine bX (λw1=>?_) (λw1=>?_)
  ·walk_at "w"
   refine⟨_,rfl,bz A (by omega),?_⟩
   walk_at "w"
   refine⟨_,rfl,bz B1 (by omega),?_⟩
   walk_at "w"
   refine⟨_,_,rfl,rfl,az A B1 (by omega),?_⟩
   walk_at "w"
   exact k _ _ ((A.app B1).le (by omega)) h5 K5
  walk_at "w"
  refine bX (λw2=>?_) (λw2=>?_)
  ·walk_at "w"
   refine⟨_,rfl,bz A (by omega),?_⟩
   walk_at "w"
   refine⟨_,_,rfl,rfl,az A sg (by omega),?_⟩
   walk_at "w"
   refine⟨_,rfl,bz B1 (by omega),?_⟩
   walk_at "w"
   refine⟨_,_,rfl,rfl,az (A.app sg) B1 (by omega),?_⟩
   walk_at "w"
   exact k _ _ (((A.app sg).app B1).le (by omega)) h5 K5
  walk_at "w"
  refine bX (λw3=>?_) (λw3=>?_)
  ·walk_at "w"
   refine⟨_,rfl,bz A (by omega),?_⟩
   walk_at "w"
   exact k _ _ (A.le (by omega)) h5 K5
  walk_at "w"
  refine bX (λw4=>?_) (λw4=>?_)
  ·walk_at "w"
   refine⟨_,rfl,bz A (by omega),?_⟩
   walk_at "w"
   intro l6 n6
   obtain⟨H6,i6,s6,g6⟩:=nw _ n6;rw[i6]
   walk_at "w"
   refine⟨p,_,rfl,h5.same s6,by decide,by decide,λr7 H7 a7 b7 h7 k7 _=>?_⟩
   have lp6:l6≠p:=h5.xJ n6
   have g7:=k7 _ _ g6 lp6
   have K7:cJ p H H7:=K5.trans (s6.keep.trans k7)
   obtain⟨m,em,hm⟩ : ∃m:Nat,atI [V.int 15,.int 21] r7=some (.int (m:Int))/\(m=15\/m=21):=by
    have:r7=0\/r7=1:=by omega
    rcases this with rfl|rfl
    ·exact⟨15,rfl,.inl rfl⟩
    ·exact⟨21,rfl,.inr rfl⟩
   have rp:=aMp m hm
   walk_at "w"
   refine⟨_,m,rfl,rfl,by omega,by decide,aX (by rw[show(Str.ofString "1").length=1 by decide];omega),?_⟩
   walk_at "w"
   refine⟨_,_,rfl,rfl,az A rp (by omega),?_⟩
   walk_at "w"
   refine⟨_,rfl,bz B (by omega),?_⟩
   walk_at "w"
   refine⟨_,_,rfl,rfl,az (A.app rp) B (by omega),?_⟩
   walk_at "w"
   exact k _ _ (((A.app rp).app B).le (by omega)) h7 K7
  walk_at "w"
  refine⟨rfl,?_⟩
  walk_at "w"
  have sw:=PyProof.Rows.split_weight x (Str.ofString " ") (by decide)
  have wW:wt (dX x)<=20001:=by show((Txt.split x (Str.ofString " ")).map (·.length)).sum+(Txt.split x (Str.ofString " ")).length<=_;omega
  have lW:(dX x).length<=20001:=by unfold wt at wW;omega
  have l1W:1<=(dX x).length:=PyProof.Rows.split_pos x (Str.ofString " ")
  have pW:∀w∈dX x,Pl w:=λw hw=>(eC hx w hw).pl
  refine⟨_,_,rfl,rfl,by decide,aX (by omega),aX (by show(dX x).length<=_;omega),λl nl=>?_⟩
  rw[show Txt.split x (Str.ofString " ")=dX x from rfl]
  obtain⟨H6,i6,s6,g6⟩:=nw _ nl;rw[i6]
  have lp:l≠p:=h5.xJ nl
  walk_at "w"
  refine⟨p,_,rfl,h5.same s6,by decide,by decide,λr7 H7 a7 b7 h7 k7 _=>?_⟩
  have g7:=k7 _ _ g6 lp
  have K7:cJ p H H7:=K5.trans (s6.keep.trans k7)
  have l1':0 < (((dX x).map V.str).length:Int):=by rw[cC];omega
  walk_at "w"
  obtain⟨kk,hkk⟩ : ∃kk:Int,r7 % (((dX x).map V.str).length:Int)=kk:=⟨_,rfl⟩
  rw[hkk]
  have hw:∀lo hi,wt (zV (dX x) lo hi)<=20001:=λlo hi=>wZ (aDv _ _ _) wW
  have hc:∀lo hi,(zV (dX x) lo hi).length<=20001:=λlo hi=>by have:=hw lo hi;unfold wt at this;omega
  have hp:∀lo hi,∀w∈zV (dX x) lo hi,Pl w:=λlo hi w h=>pW w (aAY h)
  walk_at "w"
  refine⟨rfl,?_⟩
  walk_at "w"
  refine cW (bQ.of g7) ?_
  rw[iH]
  intro b1 m1
  obtain⟨J1,j1,t1,q1⟩:=nw _ m1;rw[j1]
  walk_at "w"
  refine cW (bQ.of (t1 _ _ g7)) ?_
  rw[iH]
  intro b2 m2
  obtain⟨J2,j2,t2,q2⟩:=nw _ m2;rw[j2]
  walk_at "w"
  refine dR (t2 _ _ q1) q2 (aX (by rw[cC,cC];have:=hc none (some kk);have:=hc (some (kk+1)) none;omega)) ?_
  rw[<-o5]
  intro b3 m3
  obtain⟨J3,j3,t3,q3⟩:=nw _ m3;rw[j3]
  have T3:=t1.trans (t2.trans t3)
  walk_at "w"
  refine cW (bQ.of (T3 _ _ g7)) ?_
  rw[iH]
  intro b4 m4
  obtain⟨J4,j4,t4,q4⟩:=nw _ m4;rw[j4]
  walk_at "w"
  refine cW (bQ.of (t4 _ _ (T3 _ _ g7))) ?_
  rw[iH]
  intro b5 m5
  obtain⟨J5,j5,t5,q5⟩:=nw _ m5;rw[j5]
  walk_at "w"
  refine dR (t5 _ _ q4) q5 (aX (by rw[cC,cC];have:=hc none (some kk);have:=hc (some kk) (some (kk+1));omega)) ?_
  rw[<-o5]
  intro b6 m6
  obtain⟨J6,j6,t6,q6⟩:=nw _ m6;rw[j6]
  have T6:=T3.trans (t4.trans (t5.trans t6))
  walk_at "w"
  refine cW (bQ.of (T6 _ _ g7)) ?_
  rw[iH]
  intro b7' m7
  obtain⟨J7,j7,t7,q7⟩:=nw _ m7;rw[j7]
  walk_at "w"
  refine dR (t7 _ _ q6) q7 (aX (by rw[cC,cC,rA];have:=hc none (some kk);have:=hc (some kk) (some (kk+1));have:=hc (some kk) none;omega)) ?_
  rw[<-o5]
  intro b8 m8
  obtain⟨J8,j8,t8,q8⟩:=nw _ m8;rw[j8]
  have q38:=(t4.trans (t5.trans (t6.trans (t7.trans t8)))) _ _ q3
  walk_at "w"
  intro b9 m9
  obtain⟨J9,j9,t9,q9⟩:=nw _ m9;rw[j9]
  have T9:aT H7 J9:=T6.trans (t7.trans (t8.trans t9))
  have b9p:b9≠p:=(h7.same (T6.trans (t7.trans t8))).xJ m9
  have b3p:b3≠p:=(h7.same (t1.trans t2)).xJ m3
  have b8p:b8≠p:=(h7.same (T6.trans t7)).xJ m8
  have q39:=t9 _ _ q38
  have q89:=t9 _ _ q8
  walk_at "w"
  refine⟨p,_,rfl,h7.same T9,by decide,by decide,λr8 J10 a8 b8' h10 k10 _=>?_⟩
  have q10:=k10 _ _ q9 b9p
  obtain⟨bb,ws,eb,qb,hb⟩ : ∃bb ws,atI [V.ref b3,.ref b8] r8=some (.ref bb)/\J10 bb=some (.lst (ws.map V.str))/\wt ws<=60003/\∀w∈ws,Pl w:=by
   have:r8=0\/r8=1:=by omega
   rcases this with rfl|rfl
   ·exact⟨b3,_,rfl,k10 _ _ q39 b3p,by rw[pQ];have:=hw none (some kk);have:=hw (some (kk+1)) none;omega,λw h=>(Rb9.mp h).elim (hp _ _ w) (hp _ _ w)⟩
   ·exact⟨b8,_,rfl,k10 _ _ q89 b8p,by rw[pQ,pQ];have:=hw none (some kk);have:=hw (some kk) (some (kk+1));have:=hw (some kk) none;omega,λw h=>(Rb9.mp h).elim (λh=>(Rb9.mp h).elim (hp _ _ w) (hp _ _ w)) (hp _ _ w)⟩
  walk_at "w"
  refine⟨_,bb,ws,rfl,rfl,bQ.of qb,aCD hb.1 (by omega),?_⟩
  exact k _ _ ((aF9 hb.1 hb.2).le (by omega)) h10 (K7.trans (T9.keep.trans k10))
def aFw(i:Int):Bool:=decide (1<=i) && decide (i<=12)
def pcB(t:Int×Int):Bool:=amt (.int t.1) && (decide (t.1 ≥ 1) && amt (.int t.2))
def upB(ps:List (Int×Int))(i:Nat):Bool:=decide ((ps.getD i (0,0)).2<=(ps.getD (i+1) (0,0)).2)
def aIB(ps:List (Int×Int)):Bool:=decide (ps.length<=4) && (ps.all pcB && (List.range (ps.length - 1)).all (upB ps))
def aFx(K:W.Frag):Sp:=λvs H Q _=>∃(i:Int),vs=[.int i]/\Q (.bl (aFw i)) H
theorem aFy{P:Program}{w:World}{K:PySem.W.Frag}{mg:Str->Option Value}{base:Heap}{a:sC}(tx:Txt K mg a):cT P w K mg base tZ 2 a.vT a.vU ["thing"] (aFx K):=by
 have pO:=u0 (P:=P) (w:=w) (base:=base) tx
 refine tx.vV.ok aFr (λvs H Q E h=>?_) (λcdv A outer s H vs Q E hr h=>?_)
 ·obtain⟨i,rfl,_⟩:=h
  rfl
 ·obtain⟨i,rfl ,k⟩:=h
  have hu:=tQ hr
  refine bP (aF (aN (gE (zq1 pO hr tx.sQ tx.pG.kp tx.sP (aB (aD 0) aA)) (jQ (uH aA4 aA4 aC (aD 0) (pE (n:=12) (by rfl) tx.eM)))))) ?_
  refine bF (σ:=[some (.int i)]) rfl ?_
  walk_at "w"
  refine⟨_,_,rfl,.int i,?_⟩
  walk_at "w"
  refine iJ (λ_=>?_) (λh=>by simp at h)
  walk_at "w"
  refine bX (λh=>?_) (λh=>?_)
  ·walk_at "w"
   unfold aFw at k
   rw[Rv9 h,Rw9] at k
   exact k
  ·unfold aFw at k
   rw[Rp9 h,Ru9] at k
   exact k
def aEo(K:W.Frag):Sp:=λvs H Q _=>∃(q:Addr) (t:Int×Int),vs=[.ref q]/\H q=some (.tup [.int t.1,.int t.2])/\Q (.bl (pcB t)) H
theorem aEp{P:Program}{w:World}{K:PySem.W.Frag}{mg:Str->Option Value}{base:Heap}{a:sC}(tx:Txt K mg a):cT P w K mg base tZ 3 a.sJ a.sL ["thing"] (aEo K):=by
 have cU:=o3 (P:=P) (w:=w) (base:=base) tx
 refine tx.xH.ok aEc (λvs H Q E h=>?_) (λcdv A outer s H vs Q E hr h=>?_)
 ·obtain⟨q,t,rfl,_⟩:=h
  rfl
 ·obtain⟨q,t,rfl ,hq,k⟩:=h
  have hu:=tQ hr
  refine bP (aE (aZ (dA (cH (eH (eG (aJ (rc:=aBO K) jP (by rfl) tx.cD cS (aB (aD 0) (aB (pF (v:=.ty "tuple") (by rfl) tx.vY aHC rfl) aA))))) (dC (aL (r:=wB K) (lC hu) (aJ (rc:=nP K) cF (by rfl) tx.dQ cV (aB (aD 0) aA)) aC (bB _))))) (aF (aN kB)) aP)
   (aF (aN (gE (zq1 cU hr tx.dU tx.dM.kp tx.dS (aB (aK (K':=K) (aD 0) aC) aA)) (gE (jK aKs (aK (K':=K) (aD 0) aC) aC (bB _)) (jQ (zq1 cU hr tx.dU tx.dM.kp tx.dS (aB (aK (K':=K) (aD 0) aC) aA)))))))) ?_
  refine bF (σ:=[some (.ref q)]) rfl ?_
  walk_at "w"
  refine uG (aGX (.tup hq)) ?_
  walk_at "w"
  refine iJ (λh=>by simp at h) (λ_=>?_)
  walk_at "w"
  refine lN (λh=>absurd rfl h) (λ_=>?_)
  walk_at "w"
  refine⟨_,_,rfl,.int t.1,?_⟩
  unfold pcB at k
  walk_at "w"
  refine iJ (λh=>?_) (λh=>?_)
  ·rw[h,Rw9] at k
   walk_at "w"
   refine bX (λh2=>?_) (λh2=>?_)
   ·rw[Rv9 h2,Rw9] at k
    walk_at "w"
    exact⟨_,_,rfl,.int t.2,k⟩
   ·rw[Rp9 h2,Ru9] at k
    exact k
  ·rw[h,Ru9] at k
   exact k
def aBV(K:W.Frag):Sp:=λvs H Q _=>∃(p:Addr) (ps:List (Int×Int)),vs=[.ref p]/\mU H p ps/\ps.length<=100000/\∀H',aT H H'->Q (.bl (aIB ps)) H'
theorem aBW{P:Program}{w:World}{K:PySem.W.Frag}{mg:Str->Option Value}{base:Heap}{a:sC}(tx:Txt K mg a):cT P w K mg base tZ 4 a.nU a.nV ["thing"] (aBV K):=by
 have aFz:=aEp (P:=P) (w:=w) (base:=base) tx
 refine tx.sR.ok aBT (λvs H Q E h=>?_) (λcdv A outer s H vs Q E hr h=>?_)
 ·obtain⟨p,ps,rfl,_⟩:=h
  rfl
 ·obtain⟨p,ps,rfl ,hp,hl,k⟩:=h
  have hu:=tQ hr
  refine bP (aE (aZ (dA (cH (eH (eG (aJ (rc:=aBO K) jP (by rfl) tx.cD cS (aB (aD 0) (aB (pF (v:=.ty "list") (by rfl) tx.pM vK rfl) aA))))) (dC (aL pC (aJ (rc:=nP K) cF (by rfl) tx.dQ cV (aB (aD 0) aA)) (pE (n:=4) (by rfl) tx.gN) (bB _))))) (aF (aN kB)) aP)
   (aE (aZ (eH (eG (aJ (rc:=aFa K) (vO rfl) (by rfl) tx.yT aC6 (aB (d8 (k:=1) (idx:=[]) (N:=["piece"]) (d6 (sc:=aH eU) (NX:=["thing"]) rfl rfl rfl (by decide +kernel)) rfl (bJ (K':=K) (aD 0)) (λ_ _ _ _=>(aQ (i:=0) (show(["piece"]:List Str).Nodup by decide +kernel))) (cL (by decide)) (λ_ _ _ _=>bR) (λ_ _ _ _=>(zq1 aFz hr tx.aBn tx.xH.kp tx.aBm (aB (aD 0) aA)))) aA)))) (aF (aN kB)) aP)
   (aF (aN (aJ (rc:=aFa K) (vO rfl) (by rfl) tx.yT aC6 (aB (d8 (k:=1) (idx:=[0]) (N:=["at","thing"]) (d6 (sc:=aH eU) (NX:=["thing"]) rfl rfl rfl (by decide +kernel)) rfl (aBP (by rfl) tx.jH (aB aC (aB (aJ (rc:=nP K) cF (by rfl) tx.dQ cV (aB (aD 0) aA)) aA))) (λ_ _ _ _=>(aQ (i:=0) (show(["at","thing"]:List Str).Nodup by decide +kernel))) (cL (by decide)) (λ_ _ _ _=>bR) (λ_ _ _ _=>(jK aA4 (aK (K':=K) (aK (K':=K) (aD 1) (aI aER (aD 0) aC)) aC) (aK (K':=K) (aK (K':=K) (aD 1) (aD 0)) aC) (bB _)))) aA)))))) ?_
  obtain⟨qs,h1,h2⟩:=hp.ex
  have hq:=h2.len
  refine bF (σ:=[some (.ref p)]) rfl ?_
  walk_at "w"
  refine uG (aEe (.lst h1)) ?_
  walk_at "w"
  refine iJ (λh=>by simp at h) (λ_=>?_)
  walk_at "w"
  unfold aIB at k
  refine bX (λh=>?_) (λh=>?_)
  ·rw[cC] at h
   rw[Rp9 (by omega),Ru9] at k
   walk_at "w"
   exact k H (aT.refl _)
  rw[cC] at h
  rw[Rv9 (show ps.length<=4 by omega),Rw9] at k
  walk_at "w"
  refine gZ (bQ.of h1) ?_
  refine cP (xs:=qs.map V.ref) (λj us H'=>H'=H/\us=((ps.take j).map pcB).map V.bl) ⟨rfl,rfl⟩ (aX (by rw[cC];omega))
   (λj us H' hj ⟨e0,e1⟩=>⟨by rw[e0];exact bQ.of h1,by rw[e1,cC,cC,tP];omega⟩) (λj v us H' hv z10q=>?_) (λus H' z11q=>?_)
  ·obtain⟨e0,e1⟩:=z10q
   subst e0
   rw[xV] at hv
   obtain⟨q,eq,rfl⟩:=Qt9.mp hv
   have lj:j < ps.length:=by rw[<-hq];exact(wF.mp eq).1
   have ep:ps[j]?=some ps[j]:=tO lj
   walk_at "w"
   refine⟨q,ps[j],rfl,h2.at_ j q _ eq ep,rfl,?_⟩
   rw[e1,take_snoc ep,o5,o5]
   rfl
  obtain⟨e0,e1⟩:=z11q
  subst e0 e1
  rw[cC,hq,Qx9]
  intro l1 n1
  obtain⟨H1,i1,s1,g1⟩:=nw _ n1;rw[i1]
  walk_at "w"
  refine⟨l1,_,rfl,bQ.of g1,?_⟩
  walk_at "w"
  have eall:(List.map pcB ps).all id=ps.all pcB:=by rw[List.all_map];rfl
  rw[eall]
  cases ea:ps.all pcB with
  |false=>
   rw[ea,Ru9] at k
   repeat walk_at "gs"
   exact k _ s1
  |true=>
   rw[ea,Rw9] at k
   have h1':=s1 _ _ h1
   have h2':=h2.same s1
   repeat walk_at "gs"
   refine⟨⟨by omega,by omega,by omega,by rw[cC];omega⟩,?_⟩
   rw[cC,hq]
   have en:((ps.length:Int) - 1).toNat=ps.length - 1:=by omega
   rw[en]
   refine rV (n:=ps.length - 1) (λj us H'=>H'=H1/\us=((List.range j).map (upB ps)).map V.bl) ⟨rfl,rfl⟩ (aX (by omega))
    (λj us H' hj ⟨e0,e1⟩=>by rw[e1,cC,cC,List.length_range];exact iI _) (λj us H' hj z12q=>?_) (λus H' z13q=>?_)
   ·obtain⟨e0,e1⟩:=z12q
    subst e0
    have j1:j < ps.length:=by omega
    have j2:j+1 < ps.length:=by omega
    have q1:j < qs.length:=by omega
    have q2:j+1 < qs.length:=by omega
    have x1:atI (qs.map V.ref) (1+(j:Int) - 1)=some (.ref qs[j]):=by
     rw[show 1+(j:Int) - 1=(j:Int) by omega]
     exact j0 (by rw[xV,tO q1];rfl)
    have x2:atI (qs.map V.ref) (1+(j:Int))=some (.ref qs[j+1]):=by
     rw[show 1+(j:Int)=((j+1:Nat):Int) by omega]
     exact j0 (by rw[xV,tO q2];rfl)
    have t1:=h2'.at_ j _ _ (tO q1) (tO j1)
    have t2:=h2'.at_ (j+1) _ _ (tO q2) (tO j2)
    walk_at "w"
    refine⟨rfl,?_⟩
    rw[e1,List.range_succ,o5,o5]
    unfold upB
    simp[Sa9,tO j1,tO j2]
   ·obtain⟨e0,e1⟩:=z13q
    subst e0 e1
    intro l2 n2
    obtain⟨H2,i2,s2,g2⟩:=nw _ n2;rw[i2]
    walk_at "w"
    refine⟨l2,_,rfl,bQ.of g2,?_⟩
    rw[List.all_map]
    exact k _ (s1.trans s2)
def aEq(m:MS):List Bool:=[aFw m.up,aFw m.down,amt (.int m.begin_),amt (.int m.run),amt (.int m.rest),amt (.int m.least),aIB m.pieces]
def aAx(m:MS):Bool:=(aEq m).all id
def aAG(K:W.Frag)(C CW:Addr):Sp:=λvs H Q E=>∃(x dx pl:Addr) (m:MS),vs=[.ref x,.int m.up,.int m.down,.int m.begin_,.int m.run,.int m.rest,.int m.least,.ref pl]/\H x=some (.ins C dx [])/\mU H pl m.pieces/\m.pieces.length<=100000/\
 (aAx m=true->∀d' p' H',H' x=some (.ins C d' (mFs m p'))->mU H' p' m.pieces->H p'=none->cJ x H H'->Q .non H')/\(aAx m=false->∀e od n H',aT H H'->aFu H' e CW "at" n->E (.ref e) od H')
theorem tX{P:Program}{w:World}{K:PySem.W.Frag}{mg:Str->Option Value}{base:Heap}{a:sC}(tx:Txt K mg a):cT P w K mg base (tR P w) 5 a.kE a.kF ["self","up","down","begin","run","rest","least","pieces"] (aAG K a.bO a.bW):=by
 have kS:=qX (P:=P) (w:=w) (base:=base) tx
 have aDw:=aBW (P:=P) (w:=w) (base:=base) tx
 have cU:=o3 (P:=P) (w:=w) (base:=base) tx
 have aCE:=aFy (P:=P) (w:=w) (base:=base) tx
 refine tx.uP.okE gC (λvs H Q E h=>?_) (λcdv A outer s H vs Q E hr h=>?_)
 ·obtain⟨x,dx,pl,m,rfl,_⟩:=h
  rfl
 ·obtain⟨x,dx,pl,m,rfl ,hx,hp,hlen,k,k2⟩:=h
  have hu:=tQ hr
  refine bP (aE (aM (i:=8) gC.nd (nQ (zq1 aCE hr tx.zS tx.vV.kp tx.zR (aB (aD 1) aA)) (zq1 aCE hr tx.zS tx.vV.kp tx.zR (aB (aD 2) aA))))
   (aE (aM (i:=9) gC.nd (aC9 (zq1 cU hr tx.dU tx.dM.kp tx.dS (aB (aD 3) aA)) (zq1 cU hr tx.dU tx.dM.kp tx.dS (aB (aD 4) aA)) (zq1 cU hr tx.dU tx.dM.kp tx.dS (aB (aD 5) aA)) (zq1 cU hr tx.dU tx.dM.kp tx.dS (aB (aD 6) aA))))
   (aE (dZ aDd rfl (uI (K':=K) (by rfl) tx.fO (aB (aI bT (aI bT (aD 8) (aD 9)) (yC (zq1 aDw hr tx.yH tx.sR.kp tx.yG (aB (aD 7) aA)))) aA)) (jN (K':=K) (n:=2) rfl (cI (aQ (i:=10) gC.nd) (cI (aQ (i:=11) gC.nd) jM))) (aF (aZ (eH (eG (aD 11))) (aF (dH (K':=K) (E:=E) eI rfl (zN tx.Z_Wrong tx.fi_Wrong tx.ff_Wrong (kS) (hr.mono (by decide)) (by rfl) tx.vX tx.oR (aB (aD 10) aA)))) aP)))
   (aE (cN (K':=K) (aD 0) (aD 1) rfl)
   (aE (cN (K':=K) (aD 0) (aD 2) rfl)
   (aE (cN (K':=K) (aD 0) (aD 3) rfl)
   (aE (cN (K':=K) (aD 0) (aD 4) rfl)
   (aE (cN (K':=K) (aD 0) (aD 5) rfl)
   (aE (cN (K':=K) (aD 0) (aD 6) rfl)
   (aF (cN (K':=K) (aD 0) (cB (rc:=vM K) rY (by rfl) tx.pM vK (aB (aD 7) aA)) rfl))))))))))) ?_
  refine bF (σ:=[some (.ref x),some (.int m.up),some (.int m.down),some (.int m.begin_),some (.int m.run),some (.int m.rest),some (.int m.least),some (.ref pl),none,none,none,none]) rfl ?_
  walk_at "w"
  refine⟨_,rfl,?_⟩
  walk_at "w"
  refine⟨_,rfl,?_⟩
  walk_at "w"
  intro l1 n1
  obtain⟨H1,i1,s1,g1⟩:=nw _ n1;rw[i1]
  walk_at "w"
  refine⟨_,_,rfl,.int _,?_⟩
  walk_at "w"
  refine⟨_,_,rfl,.int _,?_⟩
  walk_at "w"
  refine⟨_,_,rfl,.int _,?_⟩
  walk_at "w"
  refine⟨_,_,rfl,.int _,?_⟩
  walk_at "w"
  intro l2 n2
  obtain⟨H2,i2,s2,g2⟩:=nw _ n2;rw[i2]
  walk_at "w"
  refine dR (s2 _ _ g1) g2 (aX (by simp)) ?_
  intro l3 n3
  obtain⟨H3,i3,s3,g3⟩:=nw _ n3;rw[i3]
  have s03:=s1.trans (s2.trans s3)
  walk_at "w"
  refine⟨pl,m.pieces,rfl,hp.same s03,hlen,λH4 s4=>?_⟩
  walk_at "w"
  intro l5 n5
  obtain⟨H5,i5,s5,g5⟩:=nw _ n5;rw[i5]
  walk_at "w"
  refine dR ((s4.trans s5) _ _ g3) g5 (aX (by simp)) ?_
  intro l6 n6
  obtain⟨H6,i6,s6,g6⟩:=nw _ n6;rw[i6]
  have s06:=s03.trans (s4.trans (s5.trans s6))
  have e6:H6 l6=some (.lst ((aEq m).map V.bl)):=g6
  have hgb:aAx m=(aEq m).all id:=rfl
  generalize aEq m=bs at e6 hgb
  walk_at "w"
  refine aHT (bQ.of e6) ?_
  refine aC7 (xs:=bs.map V.bl) (λi σ' H'=>∃y z,σ'=[some (.ref x),some (.int m.up),some (.int m.down),some (.int m.begin_),some (.int m.run),some (.int m.rest),some (.int m.least),some (.ref pl),some (.ref l1),some (.ref l2),y,z]/\aT H6 H'/\∀(j:Nat) b,j < i->bs[j]?=some b->b=true)
   ⟨_,_,rfl,aT.refl _,λj b hj=>absurd hj (Nat.not_lt_zero _)⟩ (λi σ' H' hi ⟨y,z,e,s,_⟩=>bQ.of (s _ _ e6)) (λi v σ' H' T hv z14q nT=>?_) (λσ' H' z15q=>?_)
  ·obtain⟨y,z,e,s,ok⟩:=z14q
   subst e
   rw[xV] at hv
   obtain⟨c,hb,rfl⟩:=Qt9.mp hv
   obtain⟨H7,i7,s7,g7⟩:=nw (.tup [.int i,.bl c]) nT;rw[i7]
   refine rX (mY.of g7) rfl ?_
   walk_at "w"
   cases c with
   |true=>
    repeat walk_at "gs"
    refine⟨_,_,rfl,s.trans s7,λj c hj hc=>?_⟩
    rcases Nat.lt_or_eq_of_le (Nat.lt_succ_iff.mp hj) with h|h
    ·exact ok j c h hc
    ·subst h;rw[hb] at hc;cases hc;rfl
   |false=>
    repeat walk_at "gs"
    intro x' nx
    refine⟨x',a.bW,.int i,rfl,aO,tx.Z_Wrong,tx.ni_Wrong_at,λdx' m1 m2=>⟨rfl,x',a.bW,some dx',rfl,aO,tx.Z_Wrong,?_⟩⟩
    obtain⟨s8,e8⟩:=aDq (C:=a.bW) (c:=iK a.bW (some dx') x') nx m1 m2
    refine k2 ?_ _ _ _ _ (s06.trans (s.trans (s7.trans s8))) e8
    rw[hgb,List.all_eq_false]
    exact⟨false,v9 hb,by decide⟩
  ·obtain⟨y,z,e,s,ok⟩:=z15q
   subst e
   have sH:aT H H':=s06.trans s
   have hx':=sH _ _ hx
   have hp':=hp.same sH
   obtain⟨qs,p1,p2⟩:=hp'.ex
   replace k:=k (by
    rw[hgb,Ri9]
    intro b hb
    obtain⟨j,ej⟩:=Sg9 hb
    exact ok j b (by have:=(wF.mp ej).1;rw[cC];exact this) ej)
   walk_at "w"
   refine jJ (fs':=[("up",.int m.up)]) hx' tx.cA tx.oX (by simp[mFs]) rfl ?_
   walk_at "w"
   refine jJ (fs':=[("up",.int m.up),("down",.int m.down)]) aO tx.cA tx.kO (by simp[mFs]) rfl ?_
   rw[jZ]
   walk_at "w"
   refine jJ (fs':=[("up",.int m.up),("down",.int m.down),("begin",.int m.begin_)]) aO tx.cA tx.jF (by simp[mFs]) rfl ?_
   rw[jZ]
   walk_at "w"
   refine jJ (fs':=[("up",.int m.up),("down",.int m.down),("begin",.int m.begin_),("run",.int m.run)]) aO tx.cA tx.mH (by simp[mFs]) rfl ?_
   rw[jZ]
   walk_at "w"
   refine jJ (fs':=[("up",.int m.up),("down",.int m.down),("begin",.int m.begin_),("run",.int m.run),("rest",.int m.rest)]) aO tx.cA tx.kP (by simp[mFs]) rfl ?_
   rw[jZ]
   walk_at "w"
   refine jJ (fs':=[("up",.int m.up),("down",.int m.down),("begin",.int m.begin_),("run",.int m.run),("rest",.int m.rest),("least",.int m.least)]) aO tx.cA tx.jG (by simp[mFs]) rfl ?_
   rw[jZ]
   walk_at "w"
   have px:pl≠x:=λz=>by rw[z,hx'] at p1;cases p1
   refine yA (ys:=qs.map V.ref) (bQ.of (by rw[aU px];exact p1)) ?_
   intro l9 n9
   walk_at "w"
   have x9:x≠l9:=cQ n9 aO
   walk_at "w"
   refine jJ (fs':=mFs m l9) (by rw[aU x9];exact aO) tx.cA tx.iT (by simp[mFs]) rfl ?_
   walk_at "w"
   refine k dx l9 _ aO ⟨qs,?_,p2.len,λj q t h1 h2=>?_⟩ (sH.free (by have:=n9;rwa[aU (Ne.symm x9)] at this)) (λb o e nb=>?_)
   ·rw[aU (Ne.symm x9),aO]
   ·have e:=p2.at_ j q t h1 h2
    have qx:q≠x:=λz=>by rw[z,hx'] at e;cases e
    have q9:q≠l9:=cQ n9 (by rw[aU qx];exact e)
    rw[aU qx,aU q9,aU qx]
    exact e
   ·have e1:=sH _ _ e
    have b9:b≠l9:=cQ n9 (by rw[aU nb];exact e1)
    rw[aU nb,aU b9,aU nb]
    exact e1
theorem bM.aNH{xs:List V}(h:bM H p)(e:H c=some (.lst xs))(hl:xs.length≠3):c≠p:=λz=>by
 obtain⟨d,cc,q,ms,hp,_⟩:=h.ex
 rw[z,hp] at e
 cases e
 exact hl rfl
structure S9 where
 cap:Int
 into:Int
 out:Int
 takes:Int
 gives:Int
def S9.vals(s:S9):List Int:=[s.cap,s.into,s.out,s.takes,s.gives]
structure S9.Good(s:S9):Prop where
 cap:0<=s.cap/\s.cap<=8
 into:0<=s.into/\s.into<=8
 out:0<=s.out/\s.out<=8
 takes:Am s.takes
 gives:Am s.gives
structure L9 where
 ms:List MS
 st:Option S9
 lack:Int
structure L9.Good(W:L9):Prop where
 ms:∀m∈W.ms,m.Good
 len:W.ms.length<=6
 st:∀s,W.st=some s->s.Good
 lack:Am W.lack
def SpA(H:Hp)(v:V):Option S9->Prop
 |none=>v=.non
 |some s=>∃a,v=.ref a/\H a=some (.lst (s.vals.map V.int))
theorem SpA.same{H H':Hp}{v:V}:∀{o:Option S9},SpA H v o->aT H H'->SpA H' v o
 |none,h,_=>h
 |some _,⟨a,e,h⟩,s=>⟨a,e,s _ _ h⟩
theorem SpA.keep{H H':Hp}{p:Addr}{v:V}(hh:bM H p)(k:cJ p H H'):∀{o:Option S9},SpA H v o->SpA H' v o
 |none,h=>h
 |some _,⟨a,e,h⟩=>⟨a,e,k _ _ h (hh.aNH h (by simp[S9.vals]))⟩
structure aAy(H:Hp)(l:Addr)(ms:List MS):Prop where
 ex:∃qs,H l=some (.lst (qs.map V.ref))/\RL (iF H) qs ms
structure zY(H:Hp)(a:Addr)(W:L9):Prop where
 ex:∃ls st,H a=some (.lst [.ref ls,st,.int W.lack])/\aAy H ls W.ms/\SpA H st W.st
theorem aDx{qs:List Addr}(hh:bM H p)(g:H e=some (.lst (qs.map V.ref))):e≠p:=λz=>by
 obtain⟨d,c,q,ms,hp,_⟩:=hh.ex
 rw[z,hp] at g
 cases qs with
 |nil=>cases g
 |cons x r=>cases g
theorem aAy.keep{H H':Hp}{p l:Addr}{ms:List MS}(h:aAy H l ms)(hh:bM H p)(k:cJ p H H'):aAy H' l ms:=let ⟨qs,a,b⟩:=h.ex;⟨qs,k _ _ a (aDx hh a),b.imp λ_ _ z=>z.keep hh k⟩
theorem aAy.same{H H':Hp}{l:Addr}{ms:List MS}(h:aAy H l ms)(s:aT H H'):aAy H' l ms:=let ⟨qs,a,b⟩:=h.ex;⟨qs,s _ _ a,b.imp λ_ _ z=>z.same s⟩
def dpB(i:Int):Bool:=decide (0<=i) && decide (i<=8)
def aEr(K:W.Frag):Sp:=λvs H Q _=>∃(i:Int),vs=[.int i]/\Q (.bl (dpB i)) H
theorem aEs{P:Program}{w:World}{K:PySem.W.Frag}{mg:Str->Option Value}{base:Heap}{a:sC}(tx:Txt K mg a):cT P w K mg base tZ 2 a.sM a.sO ["thing"] (aEr K):=by
 have pO:=u0 (P:=P) (w:=w) (base:=base) tx
 refine tx.pI.ok aEd (λvs H Q E h=>?_) (λcdv A outer s H vs Q E hr h=>?_)
 ·obtain⟨i,rfl,_⟩:=h
  rfl
 ·obtain⟨i,rfl ,k⟩:=h
  have hu:=tQ hr
  refine bP (aF (aN (gE (zq1 pO hr tx.sQ tx.pG.kp tx.sP (aB (aD 0) aA)) (jQ (uH aA4 aA4 aC (aD 0) (pE (n:=8) (by rfl) tx.gO)))))) ?_
  refine bF (σ:=[some (.int i)]) rfl ?_
  walk_at "w"
  refine⟨_,_,rfl,.int i,?_⟩
  walk_at "w"
  refine iJ (λ_=>?_) (λh=>by simp at h)
  walk_at "w"
  refine bX (λh=>?_) (λh=>?_)
  ·walk_at "w"
   unfold dpB at k
   rw[Rv9 h,Rw9] at k
   exact k
  ·unfold dpB at k
   rw[Rp9 h,Ru9] at k
   exact k
def aEt(s:S9):List Bool:=[dpB s.cap,dpB s.into,dpB s.out,amt (.int s.takes),amt (.int s.gives)]
def xN(s:S9):Bool:=(aEt s).all id
def sF(s:S9):List (Str×V):=[("cap",.int s.cap),("into",.int s.into),("out",.int s.out),("takes",.int s.takes),("gives",.int s.gives)]
def aIC(C:Addr)(H:Hp)(a:Addr)(s:S9):Prop:=∃dx,H a=some (.ins C dx (sF s))
def aBX(K:W.Frag)(C CW:Addr):Sp:=λvs H Q E=>∃(x dx:Addr) (s:S9),vs=[.ref x,.int s.cap,.int s.into,.int s.out,.int s.takes,.int s.gives]/\H x=some (.ins C dx [])/\
 (xN s=true->∀H',aIC C H' x s->cJ x H H'->Q .non H')/\(xN s=false->∀e od n H',aT H H'->aFu H' e CW "at" n->E (.ref e) od H')
theorem wQ{P:Program}{w:World}{K:PySem.W.Frag}{mg:Str->Option Value}{base:Heap}{a:sC}(tx:Txt K mg a):cT P w K mg base (tR P w) 3 a.nW a.nX ["self","cap","into","out","takes","gives"] (aBX K a.cZ a.bW):=by
 have kS:=qX (P:=P) (w:=w) (base:=base) tx
 have cU:=o3 (P:=P) (w:=w) (base:=base) tx
 have xO:=aEs (P:=P) (w:=w) (base:=base) tx
 refine tx.yI.okE lO (λvs H Q E h=>?_) (λcdv A outer s H vs Q E hr h=>?_)
 ·obtain⟨x,dx,s,rfl,_⟩:=h
  rfl
 ·obtain⟨x,dx,s,rfl ,hx,k,k2⟩:=h
  have hu:=tQ hr
  refine bP (aE (aM (i:=6) lO.nd (vQ (zq1 xO hr tx.sU tx.pI.kp tx.sS (aB (aD 1) aA)) (zq1 xO hr tx.sU tx.pI.kp tx.sS (aB (aD 2) aA)) (zq1 xO hr tx.sU tx.pI.kp tx.sS (aB (aD 3) aA))))
   (aE (dZ aDd rfl (uI (K':=K) (by rfl) tx.fO (aB (aI bT (aD 6) (nQ (zq1 cU hr tx.dU tx.dM.kp tx.dS (aB (aD 4) aA)) (zq1 cU hr tx.dU tx.dM.kp tx.dS (aB (aD 5) aA)))) aA)) (jN (K':=K) (n:=2) rfl (cI (aQ (i:=7) lO.nd) (cI (aQ (i:=8) lO.nd) jM))) (aF (aZ (eH (eG (aD 8))) (aF (dH (K':=K) (E:=E) eI rfl (zN tx.Z_Wrong tx.fi_Wrong tx.ff_Wrong (kS) (hr.mono (by decide)) (by rfl) tx.vX tx.oR (aB (aD 7) aA)))) aP)))
   (aE (cN (K':=K) (aD 0) (aD 1) rfl)
   (aE (cN (K':=K) (aD 0) (aD 2) rfl)
   (aE (cN (K':=K) (aD 0) (aD 3) rfl)
   (aE (cN (K':=K) (aD 0) (aD 4) rfl)
   (aF (cN (K':=K) (aD 0) (aD 5) rfl)))))))) ?_
  refine bF (σ:=[some (.ref x),some (.int s.cap),some (.int s.into),some (.int s.out),some (.int s.takes),some (.int s.gives),none,none,none]) rfl ?_
  walk_at "w"
  refine⟨_,rfl,?_⟩
  walk_at "w"
  refine⟨_,rfl,?_⟩
  walk_at "w"
  refine⟨_,rfl,?_⟩
  walk_at "w"
  intro l1 n1
  obtain⟨H1,i1,s1,g1⟩:=nw _ n1;rw[i1]
  walk_at "w"
  refine⟨_,_,rfl,.int _,?_⟩
  walk_at "w"
  refine⟨_,_,rfl,.int _,?_⟩
  walk_at "w"
  intro l2 n2
  obtain⟨H2,i2,s2,g2⟩:=nw _ n2;rw[i2]
  walk_at "w"
  refine dR (s2 _ _ g1) g2 (aX (by simp)) ?_
  intro l6 n6
  obtain⟨H6,i6,s6,g6⟩:=nw _ n6;rw[i6]
  have s06:=s1.trans (s2.trans s6)
  have e6:H6 l6=some (.lst ((aEt s).map V.bl)):=g6
  have hgb:xN s=(aEt s).all id:=rfl
  generalize aEt s=bs at e6 hgb
  walk_at "w"
  refine aHT (bQ.of e6) ?_
  refine aC7 (xs:=bs.map V.bl) (λi σ' H'=>∃y z,σ'=[some (.ref x),some (.int s.cap),some (.int s.into),some (.int s.out),some (.int s.takes),some (.int s.gives),some (.ref l1),y,z]/\aT H6 H'/\∀(j:Nat) b,j < i->bs[j]?=some b->b=true)
   ⟨_,_,rfl,aT.refl _,λj b hj=>absurd hj (Nat.not_lt_zero _)⟩ (λi σ' H' hi ⟨y,z,e,s,_⟩=>bQ.of (s _ _ e6)) (λi v σ' H' T hv z16q nT=>?_) (λσ' H' z17q=>?_)
  ·obtain⟨y,z,e,sm,ok⟩:=z16q
   subst e
   rw[xV] at hv
   obtain⟨c,hb,rfl⟩:=Qt9.mp hv
   obtain⟨H7,i7,s7,g7⟩:=nw (.tup [.int i,.bl c]) nT;rw[i7]
   refine rX (mY.of g7) rfl ?_
   walk_at "w"
   cases c with
   |true=>
    repeat walk_at "gs"
    refine⟨_,_,rfl,sm.trans s7,λj c hj hc=>?_⟩
    rcases Nat.lt_or_eq_of_le (Nat.lt_succ_iff.mp hj) with h|h
    ·exact ok j c h hc
    ·subst h;rw[hb] at hc;cases hc;rfl
   |false=>
    repeat walk_at "gs"
    intro x' nx
    refine⟨x',a.bW,.int i,rfl,aO,tx.Z_Wrong,tx.ni_Wrong_at,λdx' m1 m2=>⟨rfl,x',a.bW,some dx',rfl,aO,tx.Z_Wrong,?_⟩⟩
    obtain⟨s8,e8⟩:=aDq (C:=a.bW) (c:=iK a.bW (some dx') x') nx m1 m2
    refine k2 ?_ _ _ _ _ (s06.trans (sm.trans (s7.trans s8))) e8
    rw[hgb,List.all_eq_false]
    exact⟨false,v9 hb,by decide⟩
  ·obtain⟨y,z,e,sm,ok⟩:=z17q
   subst e
   have sH:aT H H':=s06.trans sm
   have hx':=sH _ _ hx
   replace k:=k (by
    rw[hgb,Ri9]
    intro b hb
    obtain⟨j,ej⟩:=Sg9 hb
    exact ok j b (by have:=(wF.mp ej).1;rw[cC];exact this) ej)
   walk_at "w"
   refine jJ (fs':=[("cap",.int s.cap)]) hx' tx.eW tx.qL (by simp) rfl ?_
   walk_at "w"
   refine jJ (fs':=[("cap",.int s.cap),("into",.int s.into)]) aO tx.eW tx.oY (by simp) rfl ?_
   rw[jZ]
   walk_at "w"
   refine jJ (fs':=[("cap",.int s.cap),("into",.int s.into),("out",.int s.out)]) aO tx.eW tx.qM (by simp) rfl ?_
   rw[jZ]
   walk_at "w"
   refine jJ (fs':=[("cap",.int s.cap),("into",.int s.into),("out",.int s.out),("takes",.int s.takes)]) aO tx.eW tx.mI (by simp) rfl ?_
   rw[jZ]
   walk_at "w"
   refine jJ (fs':=[("cap",.int s.cap),("into",.int s.into),("out",.int s.out),("takes",.int s.takes),("gives",.int s.gives)]) aO tx.eW tx.mK (by simp) rfl ?_
   rw[jZ]
   walk_at "w"
   refine k _ ⟨dx,aO⟩ (λb o e nb=>?_)
   rw[aU nb]
   exact sH _ _ e
theorem aKj{w:Str}{n:Int}(h:dE w=some n):∀c∈w.cps.toList,48<=c/\c<=57:=λc hc=>by
 have:okN w=true:=by
  cases e:okN w with
  |true=>rfl
  |false=>rw[mM (by rw[e];decide)] at h;cases h
 have q:=Ri9.mp (fY.mp this).2.2.1 c hc
 unfold dg at q
 simpa using q
theorem yX{w:Str}{n:Int}(h:dE w=some n):58∉w.cps.toList:=λz=>by have:=aKj h 58 z;omega
theorem zZ:(Str.ofString ":")=⟨#[58]⟩:=by decide
theorem o8{a b:Str}:(a++Str.ofString ":" ++ b).cps.toList=a.cps.toList++58::b.cps.toList:=by
 rw[Str.cps_append,Str.cps_append,Rl9,Rl9,show(Str.ofString ":").cps.toList=[58] by decide,List.append_assoc]
 rfl
theorem aBu{a b:Str}(h:a.cps.toList=b.cps.toList):a=b:=Str.ext' (Sm9.mp h)
theorem tI(w:Str):(Txt.partition w (Str.ofString ":")=(w,Str.empty,Str.empty)/\58∉w.cps.toList)\/∃a b,Txt.partition w (Str.ofString ":")=(a,Str.ofString ":",b)/\w=a++Str.ofString ":" ++ b/\58∉a.cps.toList:=by
 unfold Txt.partition
 rcases StrLaws.occ_head w (Str.ofString ":") 1 (iI _) with ⟨e,hn⟩|⟨i,r,e,hi,hn⟩
 ·rw[e]
  refine .inl ⟨rfl,?_⟩
  have:=StrLaws.part_free w 58 0 w.length (iI _) (λk _ _=>by rw[zZ] at hn;exact hn k)
  rwa[StrLaws.sub_whole] at this
 ·rw[e]
  refine .inr ⟨_,_,rfl,?_,?_⟩
  ·rw[StrLaws.sub_cat w (Str.ofString ":") (Sp9 i) hi,StrLaws.sub_whole]
  ·refine StrLaws.part_free w 58 0 i ?_ (λk _ hk=>by rw[zZ] at hn;exact hn k hk)
   have:=hi.1
   omega
def pcP(w:Str):Option (Int×Int):=match Txt.split w (Str.ofString ":") with
 |[a,b]=>(match dE a,dE b with|some x,some y=>some (x,y)|_,_=>none)
 |_=>none
theorem aDy{w:Str}{t:Int×Int}(h:pcP w=some t):∃a b,Txt.split w (Str.ofString ":")=[a,b]/\dE a=some t.1/\dE b=some t.2/\w=a++Str.ofString ":" ++ b:=by
 unfold pcP at h
 split at h
 ·rename_i a b e
  split at h
  ·rename_i x y e1 e2
   cases h
   have:=StrLaws.join_split w (Str.ofString ":")
   rw[e] at this
   exact⟨a,b,e,e1,e2,this.symm⟩
  ·cases h
 ·cases h
theorem aMq{w:Str}(h:(Txt.partition w (Str.ofString ":")).2.1=Str.ofString ""):pcP w=none:=by
 cases e:pcP w with
 |none=>rfl
 |some t=>
  obtain⟨a,b,_,_,_,ew⟩:=aDy e
  rcases tI w with ⟨_,hn⟩|⟨a',b',e',_⟩
  ·refine absurd ?_ hn
   rw[ew,o8]
   exact xT _ (.head _)
  ·rw[e'] at h
   exact absurd (show Str.ofString ":" = Str.ofString "" from h) (by decide)
theorem aID{w:Str}{x y:Int}(h1:dE (Txt.partition w (Str.ofString ":")).1=some x)(h2:dE (Txt.partition w (Str.ofString ":")).2.2=some y):pcP w=some (x,y):=by
 rcases tI w with ⟨e,_⟩|⟨a,b,e,ew,ha⟩
 ·rw[e] at h2
  have h3:dE Str.empty=some y:=h2
  rw[show dE Str.empty=none by decide] at h3
  cases h3
 ·rw[e] at h1 h2
  have hs:Txt.split w (Str.ofString ":")=[a,b]:=by
   have q:w=Str.join ⟨#[58]⟩ [a,b]:=by rw[ew,zZ];rfl
   rw[q,zZ]
   refine qN 58 (by simp) λu hu=>?_
   rcases rN.mp hu with rfl|hu
   ·exact ha
   ·rw[Rh9.mp hu];exact yX h2
  unfold pcP
  rw[hs]
  show(match dE a,dE b with|some x,some y=>some (x,y)|_,_=>none)=_
  rw[show dE a=some x from h1,show dE b=some y from h2]
theorem aIE{w:Str}(h:dE (Txt.partition w (Str.ofString ":")).1=none\/dE (Txt.partition w (Str.ofString ":")).2.2=none):pcP w=none:=by
 cases e:pcP w with
 |none=>rfl
 |some t=>
  obtain⟨a,b,_,n1,n2,ew⟩:=aDy e
  rcases tI w with ⟨_,hn⟩|⟨a',b',e',ew',ha'⟩
  ·refine absurd ?_ hn
   rw[ew,o8]
   exact xT _ (.head _)
  ·rw[e'] at h
   have q:a.cps.toList++58::b.cps.toList=a'.cps.toList++58::b'.cps.toList:=by rw[<-o8,<-o8,<-ew,<-ew']
   obtain⟨q1,q2⟩:=aIz (yX n1) ha' q
   rw[aBu q1] at n1
   rw[aBu q2] at n2
   rcases h with h|h
   ·rw[show dE a'=none from h] at n1;cases n1
   ·rw[show dE b'=none from h] at n2;cases n2
theorem aGa{w a b:Str}(h:Txt.split w (Str.ofString ":")=[a,b]):pcP w=(match dE a,dE b with|some x,some y=>some (x,y)|_,_=>none):=by
 unfold pcP
 rw[h]
theorem aKk{w:Str}(h:(Txt.split w (Str.ofString ":")).length≠2):pcP w=none:=by
 cases e:pcP w with
 |none=>rfl
 |some t=>
  obtain⟨a,b,q,_⟩:=aDy e
  rw[q] at h
  exact absurd rfl h
def dP(p:Str):Option MS:=match cX dE ((dX p).take 6),cX pcP ((dX p).drop 6) with
 |some [a,b,c,d,e,f],some ps=>if aAx ⟨a,b,c,d,e,f,ps⟩=true then some ⟨a,b,c,d,e,f,ps⟩ else none
 |_,_=>none
def fD(p:Str):Option (Option S9):=if p=Str.ofString "none" then some none else if (dX p).head?=some (Str.ofString "store") then match cX dE ((dX p).drop 1) with
  |some [a,b,c,d,e]=>if xN ⟨a,b,c,d,e⟩=true then some (some ⟨a,b,c,d,e⟩) else none
  |_=>none
 else none
def mV(w:Str):Option Int:=if Txt.startswith w (Str.ofString "lack ")=true then dE (StrLaws.sliceText w (some 5) none) else none
def aBv(W:L9):List Bool:=[decide (W.ms.length<=6),true,amt (.int W.lack)]
def goodW(W:L9):Bool:=(aBv W).all id
def fA(x:Str):Option L9:=match (qZ x).reverse with
 |l::s::ms=>(match cX dP ms.reverse,fD s,mV l with
  |some ms,some st,some l=>if goodW ⟨ms,st,l⟩=true then some ⟨ms,st,l⟩ else none
  |_,_,_=>none)
 |_=>none
theorem aEu{p:Str}{m:MS}(h:dP p=some m):aAx m=true:=by
 unfold dP at h
 split at h
 ·split at h
  ·rename_i hg
   cases h
   exact hg
  ·cases h
 ·cases h
def StA(C:Addr)(H:Hp)(v:V):Option S9->Prop
 |none=>v=.non
 |some s=>∃a,v=.ref a/\aIC C H a s
theorem aIC.same{C:Addr}{H H':Hp}{a:Addr}{s:S9}(h:aIC C H a s)(k:aT H H'):aIC C H' a s:=let ⟨dx,e⟩:=h;⟨dx,k _ _ e⟩
theorem StA.same{C:Addr}{H H':Hp}{v:V}(k:aT H H'):∀{o:Option S9},StA C H v o->StA C H' v o
 |none,h=>h
 |some _,⟨a,e,h⟩=>⟨a,e,h.same k⟩
structure aAH(CW CM CS:Addr)(H:Hp)(x:Addr)(W:L9):Prop where
 ex:∃dx lm as st,H x=some (.ins CW dx [("machines",.ref lm),("store",st),("lack",.int W.lack)])/\H lm=some (.lst (as.map V.ref))/\RL (fX CM H) as W.ms/\StA CS H st W.st
theorem aAH.same{CW CM CS:Addr}{H H':Hp}{x:Addr}{W:L9}(h:aAH CW CM CS H x W)(k:aT H H'):aAH CW CM CS H' x W:=by
 obtain⟨dx,lm,as,st,e1,e2,r,t⟩:=h.ex
 exact⟨dx,lm,as,st,k _ _ e1,k _ _ e2,r.imp λ_ _ z=>z.same k,t.same k⟩
theorem mU.aEv{H H':Hp}{p x C dx:Addr}{ps:List (Int×Int)}(h:mU H p ps)(hx:H x=some (.ins C dx []))(k:cJ x H H'):mU H' p ps:=by
 obtain⟨qs,h1,h2⟩:=h.ex
 refine⟨qs,k _ _ h1 (λz=>?_),h2.keep (λxs z=>by rw[hx] at z;cases z) k⟩
 rw[z,hx] at h1
 cases h1
theorem fX.aEv{C H H'}{p x C' dx:Addr}{m:MS}(h:fX C H p m)(hx:H x=some (.ins C' dx []))(k:cJ x H H'):fX C H' p m:=by
 obtain⟨d,pl,h1,h2⟩:=h.ex
 refine⟨d,pl,k _ _ h1 (λz=>?_),h2.aEv hx k⟩
 rw[z,hx] at h1
 cases h1
theorem StA.aEv{C H H'}{x C' dx:Addr}{v:V}(hx:H x=some (.ins C' dx []))(k:cJ x H H'):∀{o:Option S9},StA C H v o->StA C H' v o
 |none,h=>h
 |some _,⟨a,e,d,h⟩=>⟨a,e,d,k _ _ h λz=>by rw[z,hx] at h;cases h⟩
theorem aGb(xs:List V)(k:Nat):gX xs none (some (k:Int))=xs.take k:=by
 unfold gX
 rw[HT.rB,Sq9,Nat.sub_zero]
 show xs.take (if (k:Int) < 0 then ((k:Int)+(xs.length:Int)).toNat else min (k:Int).toNat xs.length)=_
 rw[fQ (by omega),Sh9]
 by_cases h:k<=xs.length
 ·rw[Tx9 h]
 ·rw[Nat.min_eq_right (by omega),Qx9,Sk9 (by omega)]
theorem v7(xs:List V)(k:Nat):gX xs (some (k:Int)) none=xs.drop k:=by
 unfold gX
 rw[HT.rB]
 show(xs.drop (if (k:Int) < 0 then ((k:Int)+(xs.length:Int)).toNat else min (k:Int).toNat xs.length)).take (xs.length - (if (k:Int) < 0 then ((k:Int)+(xs.length:Int)).toNat else min (k:Int).toNat xs.length))=_
 rw[fQ (by omega),Sh9]
 by_cases h:k<=xs.length
 ·rw[Tx9 h,Sk9 (by rw[Rm9];omega)]
 ·rw[Nat.min_eq_right (by omega),List.drop_length,List.drop_of_length_le (by omega),List.take_nil]
theorem xI.snoc{ps:List (Int×Int)}{t:Int×Int}(h:xI H qs ps)(e:H q=some (.tup [.int t.1,.int t.2])):xI H (qs ++ [q]) (ps ++ [t]):=by
 refine⟨by rw[rA,rA,h.len];rfl,λi q' t' h1 h2=>?_⟩
 by_cases hi:i < qs.length
 ·rw[Qy9 hi] at h1
  rw[Qy9 (by rw[<-h.len];exact hi)] at h2
  exact h.at_ i q' t' h1 h2
 ·have hi2:i < (qs ++ [q]).length:=(wF.mp h1).1
  rw[rA,Rt9] at hi2
  have ei:i=qs.length:=by omega
  subst ei
  rw[Rd9 (iI _),So9] at h1
  rw[h.len,Rd9 (iI _),So9] at h2
  cases h1
  cases h2
  exact e
theorem aIF{ns:List Int}(h:ns.length=6):∃a b c d e f,ns=[a,b,c,d,e,f]:=by
 match ns,h with
 |[a,b,c,d,e,f],_=>exact⟨a,b,c,d,e,f,rfl⟩
theorem aGc{ns:List Int}(h:ns.length=5):∃a b c d e,ns=[a,b,c,d,e]:=by
 match ns,h with
 |[a,b,c,d,e],_=>exact⟨a,b,c,d,e,rfl⟩
theorem aCF{p w:Str}(h:w∈(dX p).take 6)(h2:dE w=none):dP p=none:=by
 unfold dP
 rw[rG h h2]
theorem yY{p w:Str}(h:w∈(dX p).drop 6)(h2:pcP w=none):dP p=none:=by
 unfold dP
 rw[rG h h2]
 split
 ·rename_i e;cases e
 ·rfl
theorem aCG{p:Str}(h:(dX p).length < 6):dP p=none:=by
 unfold dP
 split
 ·rename_i e1 e2
  have:=dN e1
  rw[tP] at this
  simp at this
  omega
 ·rfl
theorem aBw{p:Str}{a b c d e f:Int}{ps:List (Int×Int)}(h1:cX dE ((dX p).take 6)=some [a,b,c,d,e,f])(h2:cX pcP ((dX p).drop 6)=some ps):dP p=if aAx ⟨a,b,c,d,e,f,ps⟩=true then some ⟨a,b,c,d,e,f,ps⟩ else none:=by
 unfold dP
 rw[h1,h2]
theorem v8{H:Hp}{x dx:Addr}{o1 o2:HO}(nx:H x=none)(nd:H dx=none):aT H (upd (upd H dx o1) x o2):=λb o e=>by
 rw[aU (cQ nx e),aU (cQ nd e)]
 exact e
theorem o9{H H1 H2:Hp}{x:Addr}(nx:H x=none)(s:aT H H1)(k:cJ x H1 H2):aT H H2:=λb o e=>k _ _ (s _ _ e) (cQ nx e)
theorem xP:fD (Str.ofString "none")=some none:=by unfold fD;rw[gU rfl]
theorem aCH{p w:Str}(h0:p≠Str.ofString "none")(h:w∈(dX p).drop 1)(h2:dE w=none):fD p=none:=by
 unfold fD
 rw[fQ h0,rG h h2]
 split <;> rfl
theorem aGZ{p:Str}(h0:p≠Str.ofString "none")(h:(dX p).length≠6):fD p=none:=by
 unfold fD
 rw[fQ h0]
 split
 ·split
  ·rename_i e1
   have:=dN e1
   rw[Rm9] at this
   simp at this
   omega
  ·rfl
 ·rfl
theorem aBx{p:Str}(h0:p≠Str.ofString "none")(h:(dX p).head?≠some (Str.ofString "store")):fD p=none:=by
 unfold fD
 rw[fQ h0,fQ h]
theorem aBy{p:Str}{a b c d e:Int}(h0:p≠Str.ofString "none")(h:(dX p).head?=some (Str.ofString "store"))(h1:cX dE ((dX p).drop 1)=some [a,b,c,d,e]):fD p=if xN ⟨a,b,c,d,e⟩=true then some (some ⟨a,b,c,d,e⟩) else none:=by
 unfold fD
 rw[fQ h0,gU h,h1]
theorem rH{x s l:Str}{ms:List Str}(h:qZ x=ms ++ [s,l]):fA x=(match cX dP ms,fD s,mV l with
  |some ms,some st,some l=>if goodW ⟨ms,st,l⟩=true then some ⟨ms,st,l⟩ else none
  |_,_,_=>none):=by
 unfold fA
 rw[h,show(ms ++ [s,l]).reverse=l::s::ms.reverse by simp]
 show(match cX dP ms.reverse.reverse,fD s,mV l with|some ms,some st,some l=>if goodW ⟨ms,st,l⟩=true then some (⟨ms,st,l⟩ : L9) else none|_,_,_=>none)=_
 rw[List.reverse_reverse]
theorem two_end{α:Type}{ws:List α}(h:2<=ws.length):∃ms s l,ws=ms ++ [s,l]:=by
 rcases List.eq_nil_or_concat ws with e|⟨r,l,e⟩
 ·rw[e] at h;exact absurd h (by simp)
 ·rcases List.eq_nil_or_concat r with e2|⟨r2,s,e2⟩
  ·rw[e,e2] at h;exact absurd h (by simp)
  ·exact⟨r2,s,l,by rw[e,e2];simp⟩
theorem aBz{x:Str}(h:(qZ x).length < 2):fA x=none:=by
 unfold fA
 split
 ·rename_i e
  have:=congrArg List.length e
  rw[List.length_reverse] at this
  simp at this
  omega
 ·rfl
theorem aCI{x s l w:Str}{ms:List Str}(h:qZ x=ms ++ [s,l])(hw:w∈ms)(h2:dP w=none):fA x=none:=by rw[rH h,rG hw h2]
theorem aCJ{x s l:Str}{ms:List Str}(h:qZ x=ms ++ [s,l])(h2:fD s=none):fA x=none:=by
 rw[rH h,h2]
 split
 ·rename_i e _;cases e
 ·rfl
theorem z0{x s l:Str}{ms:List Str}(h:qZ x=ms ++ [s,l])(h2:mV l=none):fA x=none:=by
 rw[rH h,h2]
 split
 ·rename_i e;cases e
 ·rfl
theorem xQ{x s l:Str}{ms:List Str}{Ms:List MS}{st:Option S9}{n:Int}(h:qZ x=ms ++ [s,l])(h1:cX dP ms=some Ms)(h2:fD s=some st)(h3:mV l=some n):fA x=if goodW ⟨Ms,st,n⟩=true then some ⟨Ms,st,n⟩ else none:=by rw[rH h,h1,h2,h3]
theorem aG0(xs:List V)(x y:V):gX (xs ++ [x,y]) none (some (-2))=xs:=by
 unfold gX
 rw[HT.rB,Sq9,Nat.sub_zero]
 show(xs ++ [x,y]).take (if (-2:Int) < 0 then ((-2:Int)+((xs ++ [x,y]).length:Int)).toNat else min (-2:Int).toNat (xs ++ [x,y]).length)=_
 rw[gU (by decide),rA]
 have:((-2:Int)+((xs.length + [x,y].length:Nat):Int)).toNat=xs.length:=by simp;omega
 rw[this,List.take_left]
theorem aEw(xs:List V)(x y:V):atI (xs ++ [x,y]) (-2)=some x:=by
 have e:ixN (xs ++ [x,y]).length (-2)=some xs.length:=by
  have l:(xs ++ [x,y]).length=xs.length+2:=by rw[rA];rfl
  unfold ixN
  rw[fQ (by omega),gU (by rw[l];omega)]
  congr 1
  rw[l]
  omega
 unfold atI
 rw[e]
 simp
theorem yZ{i:Int}:amt (.int i)=true↔Am i:=by
 constructor
 ·intro h
  have h':(decide (0<=i) && decide (i<=10 ^ 12))=true:=h
  rw[zB,decide_eq_true_eq,decide_eq_true_eq] at h'
  have h2:=h'.2
  rw[show(10:Int) ^ 12=1000000000000 by decide] at h2
  exact⟨h'.1,h2⟩
 ·exact aMl
theorem aIG{i:Int}:aFw i=true↔1<=i/\i<=12:=by unfold aFw;rw[zB,decide_eq_true_eq,decide_eq_true_eq]
theorem aKl{i:Int}:dpB i=true↔0<=i/\i<=8:=by unfold dpB;rw[zB,decide_eq_true_eq,decide_eq_true_eq]
theorem aGd{t:Int×Int}:pcB t=true↔1<=t.1/\Am t.1/\Am t.2:=by
 unfold pcB
 rw[zB,zB,decide_eq_true_eq,yZ,yZ]
 exact⟨λ⟨a,b,c⟩=>⟨b,a,c⟩,λ⟨a,b,c⟩=>⟨b,a,c⟩⟩
theorem aKm{ps:List (Int×Int)}:(List.range (ps.length - 1)).all (upB ps)=true↔∀(j:Nat) t u,ps[j]?=some t->ps[j+1]?=some u->t.2<=u.2:=by
 rw[Ri9]
 constructor
 ·intro h j t u ht hu
  have hj:j+1 < ps.length:=(wF.mp hu).1
  have:=h j (Th9.mpr (by omega))
  unfold upB at this
  rw[decide_eq_true_eq,Sa9,Sa9,ht,hu] at this
  exact this
 ·intro h j hj
  have hj':=Th9.mp hj
  have e1:ps[j]?=some ps[j]:=tO (by omega)
  have e2:ps[j+1]?=some ps[j+1]:=tO (by omega)
  unfold upB
  rw[decide_eq_true_eq,Sa9,Sa9,e1,e2]
  exact h j _ _ e1 e2
theorem aIH{ps:List (Int×Int)}:aIB ps=true↔aFs ps:=by
 unfold aIB
 rw[zB,zB,decide_eq_true_eq,aKm,Ri9]
 exact⟨λ⟨a,b,c⟩=>⟨a,λt ht=>aGd.mp (b t ht),c⟩,λ⟨a,b,c⟩=>⟨a,λt ht=>aGd.mpr (b t ht),c⟩⟩
theorem rJ{m:MS}:aAx m=true↔m.Good:=by
 unfold aAx aEq
 simp only[Tc9,List.all_nil,id,Tk9,zB,aIG,yZ,aIH]
 exact⟨λ⟨a,b,c,d,e,f,g⟩=>⟨a,b,c,d,e,f,g⟩,λ⟨a,b,c,d,e,f,g⟩=>⟨a,b,c,d,e,f,g⟩⟩
theorem tJ{s:S9}:xN s=true↔s.Good:=by
 unfold xN aEt
 simp only[Tc9,List.all_nil,id,Tk9,zB,aKl,yZ]
 exact⟨λ⟨a,b,c,d,e⟩=>⟨a,b,c,d,e⟩,λ⟨a,b,c,d,e⟩=>⟨a,b,c,d,e⟩⟩
theorem z7{W:L9}:goodW W=true↔W.ms.length<=6/\Am W.lack:=by
 unfold goodW aBv
 simp only[Tc9,List.all_nil,id,Tk9,Rw9,zB,decide_eq_true_eq,yZ]
theorem y0{α β:Type}{f:α->Option β}:∀{xs:List α}{ys:List β},cX f xs=some ys->∀y∈ys,∃x∈xs,f x=some y
 |[],ys,h,y,hy=>by cases h;cases hy
 |z::r,ys,h,y,hy=>by
  unfold cX at h
  cases e1:f z with
  |none=>rw[e1] at h;cases h
  |some u=>
   cases e2:cX f r with
   |none=>rw[e1,e2] at h;cases h
   |some us=>
    rw[e1,e2] at h
    cases h
    rcases rN.mp hy with rfl|hy
    ·exact⟨z,.head _,e1⟩
    ·obtain⟨x,hx,ex⟩:=y0 e2 y hy
     exact⟨x,.tail _ hx,ex⟩
theorem aEx{p:Str}{s:S9}(h:fD p=some (some s)):s.Good:=by
 unfold fD at h
 split at h
 ·cases h
 ·split at h
  ·split at h
   ·split at h
    ·rename_i hg
     cases h
     exact tJ.mp hg
    ·cases h
   ·cases h
  ·cases h
theorem aAz{x:Str}{W:L9}(h:fA x=some W):W.Good:=by
 unfold fA at h
 split at h
 ·split at h
  ·rename_i e1 e2 e3
   split at h
   ·rename_i hg
    cases h
    have g:=z7.mp hg
    exact⟨λm hm=>by
     obtain⟨w,_,ew⟩:=y0 e1 m hm
     exact rJ.mp (aEu ew),g.1,λs es=>aEx (by rw[e2];exact congrArg some es),g.2⟩
   ·cases h
  ·cases h
 ·cases h
def pcS(t:Int×Int):Str:=sN t.1++Str.ofString ":" ++ sN t.2
def MS.six(m:MS):List Int:=[m.up,m.down,m.begin_,m.run,m.rest,m.least]
def mWs(m:MS):List Str:=m.six.map sN++m.pieces.map pcS
def kU(m:MS):Str:=Str.join (Str.ofString " ") (mWs m)
def sWs(s:S9):List Str:=Str.ofString "store" :: s.vals.map sN
def rK:Option S9->Str
 |none=>Str.ofString "none"
 |some s=>Str.join (Str.ofString " ") (sWs s)
def wPs(W:L9):List Str:=W.ms.map kU ++ [rK W.st,Str.ofString "lack " ++ sN W.lack]
def jX(W:L9):Str:=Str.join (Str.ofString "; ") (wPs W)
theorem Am.lt{n:Int}(h:Am n):0<=n/\n < 10 ^ 20:=by
 have h2:=h.2
 rw[show(10:Int) ^ 20=100000000000000000000 by decide]
 exact⟨h.1,by omega⟩
theorem Am.log{n:Int}(h:Am n):n.natAbs.log2 < 1920:=aMn h.lt.1 h.lt.2
theorem Am.len{n:Int}(h:Am n):(sN n).length<=20:=(aAv h.lt.1 h.lt.2).2
theorem MS.Good.six{m:MS}(g:m.Good):∀n∈m.six,Am n:=λn hn=>by
 have h1:=g.up
 have h2:=g.down
 have a1:Am m.up:=⟨by omega,by omega⟩
 have a2:Am m.down:=⟨by omega,by omega⟩
 unfold MS.six at hn
 simp only[rN,List.not_mem_nil,or_false] at hn
 rcases hn with rfl|rfl|rfl|rfl|rfl|rfl
 ·exact a1
 ·exact a2
 ·exact g.begin_
 ·exact g.run
 ·exact g.rest
 ·exact g.least
theorem S9.Good.am{s:S9}(g:s.Good):∀n∈s.vals,Am n:=λn hn=>by
 have h1:=g.cap
 have h2:=g.into
 have h3:=g.out
 have a1:Am s.cap:=⟨by omega,by omega⟩
 have a2:Am s.into:=⟨by omega,by omega⟩
 have a3:Am s.out:=⟨by omega,by omega⟩
 unfold S9.vals at hn
 simp only[rN,List.not_mem_nil,or_false] at hn
 rcases hn with rfl|rfl|rfl|rfl|rfl
 ·exact a1
 ·exact a2
 ·exact a3
 ·exact g.takes
 ·exact g.gives
theorem aGe{t:Int×Int}(h:1<=t.1/\Am t.1/\Am t.2):(pcS t).length<=41:=by
 unfold pcS
 have:=h.2.1.len
 have:=h.2.2.len
 rw[Str.length_append,Str.length_append,show(Str.ofString ":").length=1 by decide]
 omega
theorem rL{m:MS}(g:m.Good):∀w∈mWs m,w.length<=41:=λw hw=>by
 rcases Rb9.mp hw with h|h
 ·obtain⟨n,hn,rfl⟩:=Rk9.mp h
  have:=(g.six n hn).len
  omega
 ·obtain⟨t,ht,rfl⟩:=Rk9.mp h
  exact aGe (g.pieces.pc t ht)
theorem aAZ{m:MS}(g:m.Good):(mWs m).length<=10:=by
 have:=g.pieces.len
 unfold mWs MS.six
 rw[rA,cC,cC]
 simp
 omega
theorem z8{s:S9}(g:s.Good):∀w∈sWs s,w.length<=41:=λw hw=>by
 rcases rN.mp hw with h|h
 ·rw[h];decide
 ·obtain⟨n,hn,rfl⟩:=Rk9.mp h
  have:=(g.am n hn).len
  omega
theorem mW{ws:List Str}(h:∀w∈ws,w.length<=41)(hl:ws.length<=10):JoinOk (Str.ofString " ") ws=true/\(Str.join (Str.ofString " ") ws).length<=420:=by
 constructor
 ·unfold JoinOk
  rw[StrLaws.joinFits (B:=41) h (by rw[show(Str.ofString " ").length=1 by decide];omega)]
  rfl
 ·have z:=StrLaws.join_length_le (Str.ofString " ") ws
  have w:=StrLaws.sumLen_le (B:=41) ws h
  rw[show(Str.ofString " ").length=1 by decide] at z
  omega
theorem aCK{W:L9}(g:W.Good):(rK W.st).length<=420:=by
 cases e:W.st with
 |none=>show(Str.ofString "none").length<=_;decide
 |some s=>exact(mW (z8 (g.st s e)) (by simp[sWs,S9.vals])).2
theorem aCL{W:L9}(g:W.Good):∀w∈wPs W,w.length<=420:=λw hw=>by
 rcases Rb9.mp hw with h|h
 ·obtain⟨m,hm,rfl⟩:=Rk9.mp h
  exact(mW (rL (g.ms m hm)) (aAZ (g.ms m hm))).2
 ·rcases rN.mp h with rfl|h
  ·exact aCK g
  ·rw[Rh9.mp h,Str.length_append]
   have:=g.lack.len
   have:(Str.ofString "lack ").length=5:=by decide
   omega
theorem aGf{W:L9}(g:W.Good):(wPs W).length<=8:=by
 have:=g.len
 unfold wPs
 rw[rA,cC]
 simp
 omega
theorem aII{W:L9}(g:W.Good):JoinOk (Str.ofString "; ") (wPs W)=true:=by
 have:=aGf g
 unfold JoinOk
 rw[StrLaws.joinFits (B:=420) (aCL g) (by rw[show(Str.ofString "; ").length=2 by decide];omega)]
 rfl
theorem aG1{W:L9}(g:W.Good):(jX W).length<=4000:=by
 have:=aGf g
 have z:=StrLaws.join_length_le (Str.ofString "; ") (wPs W)
 have w:=StrLaws.sumLen_le (B:=420) (wPs W) (aCL g)
 rw[show(Str.ofString "; ").length=2 by decide] at z
 unfold jX
 omega
def u5(C:Addr)(l:Addr)(H:Hp)(q:Addr)(m:MS):Prop:=∃dx pl,H q=some (.ins C dx (mFs m pl))/\mU H pl m.pieces/\pl≠l
theorem u5.same{C l:Addr}{H H':Hp}{q:Addr}{m:MS}(h:u5 C l H q m)(s:aT H H'):u5 C l H' q m:=let ⟨dx,pl,a,b,c⟩:=h;⟨dx,pl,s _ _ a,b.same s,c⟩
theorem mU.wr{H H':Hp}{l p:Addr}{xs:List V}{ps:List (Int×Int)}(h:mU H p ps)(hl:H l=some (.lst xs))(n:p≠l)(k:cJ l H H'):mU H' p ps:=by
 obtain⟨qs,h1,h2⟩:=h.ex
 exact⟨qs,k _ _ h1 n,h2.keep (λys z=>by rw[hl] at z;cases z) k⟩
theorem u5.wr{C l:Addr}{H H':Hp}{q:Addr}{m:MS}{xs:List V}(h:u5 C l H q m)(hl:H l=some (.lst xs))(k:cJ l H H'):u5 C l H' q m:=by
 obtain⟨dx,pl,a,b,c⟩:=h
 exact⟨dx,pl,k _ _ a (λz=>by rw[z,hl] at a;cases a),b.wr hl c k,c⟩
theorem u5.at_{C l:Addr}{H:Hp}{q:Addr}{m:MS}(h:u5 C l H q m):fX C H q m:=let ⟨dx,pl,a,b,_⟩:=h;⟨dx,pl,a,b⟩
theorem aEy{W:L9}(g:W.Good):goodW W=true:=z7.mpr ⟨g.len,g.lack⟩
def aAI(K:W.Frag)(C:Addr):Sp:=λvs H Q _=>∃(p:Addr) (as:List Addr) (ms:List MS),vs=[.ref p]/\H p=some (.lst (as.map V.ref))/\RL (fX C H) as ms/\ms.length<=110000/\∀H',aT H H'->Q (.bl (decide (ms.length<=6))) H'
theorem aAJ{P:Program}{w:World}{K:PySem.W.Frag}{mg:Str->Option Value}{base:Heap}{a:sC}(tx:Txt K mg a):cT P w K mg base tZ 1 a.kG a.kH ["thing"] (aAI K a.bO):=by
 refine tx.pJ.ok aAE (λvs H Q E h=>?_) (λcdv A outer s H vs Q E hr h=>?_)
 ·obtain⟨p,as,ms,rfl,_⟩:=h
  rfl
 ·obtain⟨p,as,ms,rfl ,h1,h2,hl,k⟩:=h
  have hu:=tQ hr
  refine bP (aE (aZ (dA (cH (eH (eG (aJ (rc:=aBO K) jP (by rfl) tx.cD cS (aB (aD 0) (aB (pF (v:=.ty "list") (by rfl) tx.pM vK rfl) aA))))) (dC (aL pC (aJ (rc:=nP K) cF (by rfl) tx.dQ cV (aB (aD 0) aA)) (pE (n:=6) (by rfl) tx.eO) (bB _))))) (aF (aN kB)) aP)
   (aF (aN (aJ (rc:=aFa K) (vO rfl) (by rfl) tx.yT aC6 (aB (d8 (k:=1) (idx:=[]) (N:=["machine"]) (d6 (sc:=aH d9) (NX:=["thing"]) rfl rfl rfl (by decide +kernel)) rfl (bJ (K':=K) (aD 0)) (λ_ _ _ _=>(aQ (i:=0) (show(["machine"]:List Str).Nodup by decide +kernel))) (cL (by decide)) (λ_ _ _ _=>bR) (λ_ _ _ _=>(aJ (rc:=aBO K) jP (by rfl) tx.cD cS (aB (aD 0) (aB (pD (v:=.ref a.bO) (by rfl) tx.vW rfl) aA))))) aA))))) ?_
  have hq:=h2.len
  refine bF (σ:=[some (.ref p)]) rfl ?_
  walk_at "w"
  refine uG (aEe (.lst h1)) ?_
  walk_at "w"
  refine iJ (λh=>by simp at h) (λ_=>?_)
  walk_at "w"
  refine bX (λh=>?_) (λh=>?_)
  ·rw[cC] at h
   rw[Rp9 (show ¬ms.length<=6 by omega)] at k
   walk_at "w"
   exact k H (aT.refl _)
  rw[cC] at h
  rw[Rv9 (show ms.length<=6 by omega)] at k
  walk_at "w"
  refine gZ (bQ.of h1) ?_
  refine aCl (λ_=>.bl true) (bQ.of h1) (aX (by rw[cC];omega)) (λx N N' hxm hN=>?_) ?_
  ·obtain⟨i,hi⟩:=Sg9 hxm
   obtain⟨q,m,_,rfl,_,hm⟩:=h2.get hi
   obtain⟨dx,pl,hx,_⟩:=hm.ex
   walk_at "w"
   refine uG (aDb tx.i_Machine tx.cA hx) ?_
   exact hN
  ·intro l1 n1
   walk_at "w"
   refine aJT (bQ.of aO) (λx hx=>by obtain⟨_,_,rfl⟩:=Rk9.mp hx;rfl) ?_
   exact k _ (aT.new n1)
def aBY(K:PySem.W.Frag)(C CM CS CW:Addr):Sp:=λvs H Q E=>∃(x dx lm:Addr) (as:List Addr) (st:V) (W:L9),vs=[.ref x,.ref lm,st,.int W.lack]/\H x=some (.ins C dx [])/\H lm=some (.lst (as.map V.ref))/\RL (fX CM H) as W.ms/\StA CS H st W.st/\W.ms.length<=110000/\
 (goodW W=true->∀H',aAH C CM CS H' x W->cJ x H H'->Q .non H')/\(goodW W=false->∀e od n H',aT H H'->aFu H' e CW "at" n->E (.ref e) od H')
theorem wR{P:Program}{w:World}{K:PySem.W.Frag}{mg:Str->Option Value}{base:Heap}{a:sC}(tx:Txt K mg a):cT P w K mg base (tR P w) 3 a.nY a.nZ ["self","machines","store","lack"] (aBY K a.fJ a.bO a.cZ a.bW):=by
 have kS:=qX (P:=P) (w:=w) (base:=base) tx
 have aBA:=aAJ (P:=P) (w:=w) (base:=base) tx
 have cU:=o3 (P:=P) (w:=w) (base:=base) tx
 refine tx.yJ.okE lQ (λvs H Q E h=>?_) (λcdv A outer s H vs Q E hr h=>?_)
 ·obtain⟨x,dx,lm,as,st,W,rfl,_⟩:=h
  rfl
 ·obtain⟨x,dx,lm,as,st,W,rfl ,hx,hm,hrl,hs,hlen,k,k2⟩:=h
  have hu:=tQ hr
  refine bP (aE (aM (i:=4) lQ.nd (aHX (jK aBc (aD 2) bS (bB _)) (jQ (aJ (rc:=aBO K) jP (by rfl) tx.cD cS (aB (aD 2) (aB (pD (v:=.ref a.cZ) (by rfl) tx.aAV rfl) aA))))))
   (aE (dZ aDd rfl (uI (K':=K) (by rfl) tx.fO (aB (vQ (zq1 aBA hr tx.uR tx.pJ.kp tx.uQ (aB (aD 1) aA)) (aD 4) (zq1 cU hr tx.dU tx.dM.kp tx.dS (aB (aD 3) aA))) aA)) (jN (K':=K) (n:=2) rfl (cI (aQ (i:=5) lQ.nd) (cI (aQ (i:=6) lQ.nd) jM))) (aF (aZ (eH (eG (aD 6))) (aF (dH (K':=K) (E:=E) eI rfl (zN tx.Z_Wrong tx.fi_Wrong tx.ff_Wrong (kS) (hr.mono (by decide)) (by rfl) tx.vX tx.oR (aB (aD 5) aA)))) aP)))
   (aE (cN (K':=K) (aD 0) (cB (rc:=vM K) rY (by rfl) tx.pM vK (aB (aD 1) aA)) rfl)
   (aE (cN (K':=K) (aD 0) (aD 2) rfl)
   (aF (cN (K':=K) (aD 0) (aD 3) rfl)))))) ?_
  refine bF (σ:=[some (.ref x),some (.ref lm),some st,some (.int W.lack),none,none,none]) rfl ?_
  refine cY (λσ' H'=>σ'=[some (.ref x),some (.ref lm),some st,some (.int W.lack),some (.bl true),none,none]/\H'=H) (λN hN=>?_) ?_
  ·cases e:W.st with
   |none=>
    rw[e] at hs
    replace hs:st=.non:=hs
    subst hs
    walk_at "w"
    exact hN _ _ ⟨rfl,rfl⟩
   |some s=>
    rw[e] at hs
    obtain⟨b,rfl,db,hb'⟩:=hs
    walk_at "w"
    refine uG (aDb tx.i_Store tx.eW hb') ?_
    walk_at "w"
    exact hN _ _ ⟨rfl,rfl⟩
  rintro σ' H' ⟨rfl,rfl⟩
  walk_at "w"
  refine⟨lm,as,W.ms,rfl,hm,hrl,hlen,λH1 s1=>?_⟩
  walk_at "w"
  refine⟨_,_,rfl,.int _,?_⟩
  walk_at "w"
  intro l6 n6
  obtain⟨H6,i6,s6,g6⟩:=nw _ n6;rw[i6]
  have s06:=s1.trans s6
  have e6:H6 l6=some (.lst ((aBv W).map V.bl)):=g6
  have hgb:goodW W=(aBv W).all id:=rfl
  generalize aBv W=bs at e6 hgb
  walk_at "w"
  refine aHT (bQ.of e6) ?_
  refine aC7 (xs:=bs.map V.bl) (λi σ' H'=>∃y z,σ'=[some (.ref x),some (.ref lm),some st,some (.int W.lack),some (.bl true),y,z]/\aT H6 H'/\∀(j:Nat) b,j < i->bs[j]?=some b->b=true)
   ⟨_,_,rfl,aT.refl _,λj b hj=>absurd hj (Nat.not_lt_zero _)⟩ (λi σ' H' hi ⟨y,z,e,s,_⟩=>bQ.of (s _ _ e6)) (λi v σ' H' T hv z18q nT=>?_) (λσ' H3 z19q=>?_)
  ·obtain⟨y,z,e,sm,ok⟩:=z18q
   subst e
   rw[xV] at hv
   obtain⟨c,hb,rfl⟩:=Qt9.mp hv
   obtain⟨H7,i7,s7,g7⟩:=nw (.tup [.int i,.bl c]) nT;rw[i7]
   refine rX (mY.of g7) rfl ?_
   walk_at "w"
   cases c with
   |true=>
    repeat walk_at "gs"
    refine⟨_,_,rfl,sm.trans s7,λj c hj hc=>?_⟩
    rcases Nat.lt_or_eq_of_le (Nat.lt_succ_iff.mp hj) with h|h
    ·exact ok j c h hc
    ·subst h;rw[hb] at hc;cases hc;rfl
   |false=>
    repeat walk_at "gs"
    intro x' nx
    refine⟨x',a.bW,.int i,rfl,aO,tx.Z_Wrong,tx.ni_Wrong_at,λdx' m1 m2=>⟨rfl,x',a.bW,some dx',rfl,aO,tx.Z_Wrong,?_⟩⟩
    obtain⟨s8,e8⟩:=aDq (C:=a.bW) (c:=iK a.bW (some dx') x') nx m1 m2
    refine k2 ?_ _ _ _ _ (s06.trans (sm.trans (s7.trans s8))) e8
    rw[hgb,List.all_eq_false]
    exact⟨false,v9 hb,by decide⟩
  ·obtain⟨y,z,e,sm,ok⟩:=z19q
   subst e
   have sH:aT H' H3:=s06.trans sm
   have hx':=sH _ _ hx
   have p1:=sH _ _ hm
   have p2:=hrl.imp λ_ _ z=>fX.same z sH
   replace k:=k (by
    rw[hgb,Ri9]
    intro b hb
    obtain⟨j,ej⟩:=Sg9 hb
    exact ok j b (by have:=(wF.mp ej).1;rw[cC];exact this) ej)
   walk_at "w"
   refine yA (ys:=as.map V.ref) (bQ.of p1) ?_
   intro l9 n9
   obtain⟨H9,i9,s9,g9⟩:=nw _ n9;rw[i9]
   have x9:=s9 _ _ hx'
   walk_at "w"
   refine jJ (fs':=[("machines",.ref l9)]) x9 tx.kQ tx.iU (by simp) rfl ?_
   walk_at "w"
   refine jJ (fs':=[("machines",.ref l9),("store",st)]) aO tx.kQ tx.mL (by simp) rfl ?_
   rw[jZ]
   walk_at "w"
   refine jJ (fs':=[("machines",.ref l9),("store",st),("lack",.int W.lack)]) aO tx.kQ tx.oZ (by simp) rfl ?_
   rw[jZ]
   walk_at "w"
   obtain⟨H10,i10,k10,g10⟩:=wr H9 x _;rw[i10]
   have l9x:l9≠x:=Ne.symm (cQ n9 hx')
   refine k _ ⟨dx,l9,as,st,g10,k10 _ _ g9 l9x,p2.imp λq m z=>?_,?_⟩ (λb o e nb=>k10 _ _ (s9 _ _ (sH _ _ e)) nb)
   ·exact(z.same s9).aEv x9 k10
   ·exact StA.aEv x9 k10 ((hs.same sH).same s9)
def aAK(K:W.Frag)(CM:Addr):Sp:=λvs H Q _=>∃(q:Addr) (m:MS),vs=[.ref q]/\fX CM H q m/\m.Good/\∀H',aT H H'->Q (.str (kU m)) H'
theorem aAL{P:Program}{w:World}{K:PySem.W.Frag}{mg:Str->Option Value}{base:Heap}{a:sC}(tx:Txt K mg a):cT P w K mg base tZ 1 a.kI a.kJ ["machine"] (aAK K a.bO):=by
 refine tx.pK.ok nG (λvs H Q E h=>?_) (λcdv A outer s H vs Q E hr h=>?_)
 ·obtain⟨q,m,rfl,_⟩:=h
  rfl
 ·obtain⟨q,m,rfl ,hq,g,k⟩:=h
  have hu:=tQ hr
  refine bP (aE (aM (i:=1) nG.nd (aC9 (bC (K':=K) (aD 0) rfl) (bC (K':=K) (aD 0) rfl) (bC (K':=K) (aD 0) rfl) (bC (K':=K) (aD 0) rfl)))
   (aE (hR (k:=1) (idx:=[]) (N:=["number"]) (i:=2) nG.nd rfl (Or.inl rfl) (d6 (sc:=aH dI) (NX:=["machine","costs","words"]) rfl rfl rfl (by decide +kernel)) rfl (bJ (K':=K) (aI bT (nQ (bC (K':=K) (aD 0) rfl) (bC (K':=K) (aD 0) rfl)) (aD 1))) (λ_ _ _ _=>(aQ (i:=0) (show(["number"]:List Str).Nodup by decide +kernel))) (cL (by decide)) (λ_ _ _ _=>bR) (λ_ _ _ _=>(cB (rc:=yD) jR (by rfl) tx.rF uF (aB (aD 0) aA))))
   (aF (aN (eT (K':=K) aR (aB (aI bT (aD 2) (d8 (k:=2) (idx:=[]) (N:=["amount","rate"]) (d6 (sc:=aH dI) (NX:=["machine","costs","words"]) rfl rfl rfl (by decide +kernel)) rfl (bJ (K':=K) (bC (K':=K) (aD 0) rfl)) (λ_ _ _ _=>(jN (K':=K) (n:=2) rfl (cI (aQ (i:=0) (show(["amount","rate"]:List Str).Nodup by decide +kernel)) (cI (aQ (i:=1) (show(["amount","rate"]:List Str).Nodup by decide +kernel)) jM)))) (aFQ (vJ (by decide) (vJ (by decide) aDX))) (λ_ _ _ _=>bR) (λ_ _ _ _=>(aIs (aD 0) (aD 1))))) aA)))))) ?_
  obtain⟨dq,pl,e0,qs,e1,e2⟩:=hq.ex
  have lq:=e2.len
  have lp:=g.pieces.len
  refine bF (σ:=[some (.ref q),none,none]) rfl ?_
  walk_at "w"
  refine cR e0 tx.cA tx.jF rfl ?_
  walk_at "w"
  refine cR e0 tx.cA tx.mH rfl ?_
  walk_at "w"
  refine cR e0 tx.cA tx.kP rfl ?_
  walk_at "w"
  refine cR e0 tx.cA tx.jG rfl ?_
  walk_at "w"
  intro l1 n1
  obtain⟨H1,i1,s1,g1⟩:=nw _ n1;rw[i1]
  have e01:=s1 _ _ e0
  walk_at "w"
  refine cR e01 tx.cA tx.oX rfl ?_
  walk_at "w"
  refine cR e01 tx.cA tx.kO rfl ?_
  walk_at "w"
  intro l2 n2
  obtain⟨H2,i2,s2,g2⟩:=nw _ n2;rw[i2]
  walk_at "w"
  refine dR g2 (s2 _ _ g1) (aX (by simp)) ?_
  intro l3 n3
  obtain⟨H3,i3,s3,g3⟩:=nw _ n3;rw[i3]
  have e3:H3 l3=some (.lst (m.six.map V.int)):=g3
  have S3:aT H H3:=s1.trans (s2.trans s3)
  refine gZ (bQ.of e3) ?_
  refine cP (xs:=m.six.map V.int) (λj us H'=>H'=H3/\us=((m.six.take j).map sN).map V.str) ⟨rfl,rfl⟩ (aX (by simp[MS.six]))
   (λj us H' hj ⟨e0,e1⟩=>⟨by rw[e0];exact bQ.of e3,by rw[e1,cC,cC,tP];omega⟩) (λj v us H' hv z20q=>?_) (λus H' z21q=>?_)
  ·obtain⟨e0,e1⟩:=z20q
   subst e0
   obtain⟨n,en,rfl⟩:=yU hv
   walk_at "w"
   refine⟨n,rfl,(g.six n (v9 en)).log,rfl,?_⟩
   rw[e1,take_snoc en,o5,o5]
   rfl
  obtain⟨e0,e1⟩:=z21q
  subst e0 e1
  rw[cC,Qx9]
  intro l4 n4
  obtain⟨H4,i4,s4,g4⟩:=nw _ n4;rw[i4]
  have S4:=S3.trans s4
  have e04:=S4 _ _ e0
  have e14:=S4 _ _ e1
  have e24:=e2.same S4
  walk_at "w"
  refine⟨rfl,?_⟩
  walk_at "w"
  refine cR e04 tx.cA tx.iT rfl ?_
  refine gZ (bQ.of e14) ?_
  refine cP (xs:=qs.map V.ref) (λj us H'=>H'=H4/\us=((m.pieces.take j).map pcS).map V.str) ⟨rfl,rfl⟩ (aX (by rw[cC];omega))
   (λj us H' hj ⟨e0,e1⟩=>⟨by rw[e0];exact bQ.of e14,by rw[e1,cC,cC,tP];omega⟩) (λj v us H' hv z22q=>?_) (λus H' z23q=>?_)
  ·obtain⟨e0,e1⟩:=z22q
   subst e0
   rw[xV] at hv
   obtain⟨q1,eq1,rfl⟩:=Qt9.mp hv
   have lj:j < m.pieces.length:=by rw[<-lq];exact(wF.mp eq1).1
   have ep:m.pieces[j]?=some m.pieces[j]:=tO lj
   have et:=e24.at_ j q1 _ eq1 ep
   have gp:=g.pieces.pc _ (v9 ep)
   refine rX (mY.of et) rfl ?_
   walk_at "w"
   have c1:(Str.ofString ":").length<=1000:=by decide
   refine aNm ?_
   walk_at "w"
   refine⟨gp.2.1.log,wZ gp.2.1.len (by decide),c1,?_⟩
   walk_at "w"
   refine⟨gp.2.2.log,wZ gp.2.2.len (by decide),rfl,?_⟩
   rw[e1,take_snoc ep,o5,o5,Str.empty_append]
   rfl
  obtain⟨e0,e1⟩:=z23q
  subst e0 e1
  rw[cC,lq,Qx9]
  intro l5 n5
  obtain⟨H5,i5,s5,g5⟩:=nw _ n5;rw[i5]
  walk_at "w"
  refine dR (s5 _ _ g4) g5 (aX (by rw[cC,cC,cC,cC];simp[MS.six];omega)) ?_
  rw[<-o5]
  intro l6 n6
  obtain⟨H6,i6,s6,g6⟩:=nw _ n6;rw[i6]
  have e6:H6 l6=some (.lst ((mWs m).map V.str)):=g6
  walk_at "w"
  refine⟨_,l6,mWs m,rfl,rfl,bQ.of e6,(mW (rL g) (aAZ g)).1,?_⟩
  have z:=k H6 (S4.trans (s5.trans s6))
  unfold kU at z
  rw[<-StrLaws.glued_eq_join] at z
  exact z
def aBZ(K:W.Frag)(CS:Addr):Sp:=λvs H Q _=>∃(v:V) (o:Option S9),vs=[v]/\StA CS H v o/\(∀s,o=some s->s.Good)/\∀H',aT H H'->Q (.str (rK o)) H'
theorem aB0{P:Program}{w:World}{K:PySem.W.Frag}{mg:Str->Option Value}{base:Heap}{a:sC}(tx:Txt K mg a):cT P w K mg base tZ 1 a.n0 a.oA ["store"] (aBZ K a.cZ):=by
 refine tx.sX.ok wK (λvs H Q E h=>?_) (λcdv A outer s H vs Q E hr h=>?_)
 ·obtain⟨v,o,rfl,_⟩:=h
  rfl
 ·obtain⟨v,o,rfl ,hq,g,k⟩:=h
  have hu:=tQ hr
  refine bP (aE (aZ (aL aBc (aD 0) bS (bB _)) (aF (aN (xF (n:="none") (by rfl) tx.lK))) aP)
   (aE (aM (i:=1) wK.nd (aDa (bC (K':=K) (aD 0) rfl) (bC (K':=K) (aD 0) rfl) (bC (K':=K) (aD 0) rfl) (bC (K':=K) (aD 0) rfl) (bC (K':=K) (aD 0) rfl)))
   (aF (aN (eT (K':=K) aR (aB (aI bT (yC aR) (d8 (k:=1) (idx:=[]) (N:=["number"]) (d6 (sc:=aH fS) (NX:=["store","values"]) rfl rfl rfl (by decide +kernel)) rfl (bJ (K':=K) (aD 1)) (λ_ _ _ _=>(aQ (i:=0) (show(["number"]:List Str).Nodup by decide +kernel))) (cL (by decide)) (λ_ _ _ _=>bR) (λ_ _ _ _=>(cB (rc:=yD) jR (by rfl) tx.rF uF (aB (aD 0) aA))))) aA)))))) ?_
  refine bF (σ:=[some v,none]) rfl ?_
  cases o with
  |none=>
   replace hq:v=.non:=hq
   subst hq
   walk_at "w"
   exact k _ (aT.refl _)
  |some s=>
   obtain⟨b,rfl,db,hb⟩:=hq
   have g:=g s rfl
   walk_at "w"
   refine cR hb tx.eW tx.qL rfl ?_
   walk_at "w"
   refine cR hb tx.eW tx.oY rfl ?_
   walk_at "w"
   refine cR hb tx.eW tx.qM rfl ?_
   walk_at "w"
   refine cR hb tx.eW tx.mI rfl ?_
   walk_at "w"
   refine cR hb tx.eW tx.mK rfl ?_
   walk_at "w"
   intro l1 n1
   obtain⟨H1,i1,s1,g1⟩:=nw _ n1;rw[i1]
   walk_at "w"
   refine⟨rfl,?_⟩
   walk_at "w"
   intro l2 n2
   obtain⟨H2,i2,s2,g2⟩:=nw _ n2;rw[i2]
   have e12:H2 l1=some (.lst (s.vals.map V.int)):=s2 _ _ g1
   walk_at "w"
   refine gZ (bQ.of e12) ?_
   refine cP (xs:=s.vals.map V.int) (λj us H'=>H'=H2/\us=((s.vals.take j).map sN).map V.str) ⟨rfl,rfl⟩ (aX (by simp[S9.vals]))
    (λj us H' hj ⟨e0,e1⟩=>⟨by rw[e0];exact bQ.of e12,by rw[e1,cC,cC,tP];omega⟩) (λj v us H' hv z24q=>?_) (λus H' z25q=>?_)
   ·obtain⟨e0,e1⟩:=z24q
    subst e0
    obtain⟨n,en,rfl⟩:=yU hv
    walk_at "w"
    refine⟨n,rfl,(g.am n (v9 en)).log,rfl,?_⟩
    rw[e1,take_snoc en,o5,o5]
    rfl
   obtain⟨e0,e1⟩:=z25q
   subst e0 e1
   rw[cC,Qx9]
   intro l4 n4
   obtain⟨H4,i4,s4,g4⟩:=nw _ n4;rw[i4]
   walk_at "w"
   refine dR (s4 _ _ g2) g4 (aX (by simp[S9.vals])) ?_
   intro l5 n5
   obtain⟨H5,i5,s5,g5⟩:=nw _ n5;rw[i5]
   have e5:H5 l5=some (.lst ((sWs s).map V.str)):=g5
   walk_at "w"
   refine⟨_,l5,sWs s,rfl,rfl,bQ.of e5,(mW (z8 g) (by simp[sWs,S9.vals])).1,?_⟩
   have z:Q (V.str (Str.join (Str.ofString " ") (sWs s))) H5:=k H5 (s1.trans (s2.trans (s4.trans s5)))
   rw[<-StrLaws.glued_eq_join] at z
   exact z
def aB1(K:PySem.W.Frag)(C CM CS:Addr):Sp:=λvs H Q _=>∃(x:Addr) (W:L9),vs=[.ref x]/\aAH C CM CS H x W/\W.Good/\∀H',aT H H'->Q (.str (jX W)) H'
theorem aB2{P:Program}{w:World}{K:PySem.W.Frag}{mg:Str->Option Value}{base:Heap}{a:sC}(tx:Txt K mg a):cT P w K mg base tZ 2 a.oB a.oE ["works"] (aB1 K a.fJ a.bO a.cZ):=by
 have aBB:=aAL (P:=P) (w:=w) (base:=base) tx
 have aDz:=aB0 (P:=P) (w:=w) (base:=base) tx
 refine tx.oS.ok wL (λvs H Q E h=>?_) (λcdv A outer s H vs Q E hr h=>?_)
 ·obtain⟨x,W,rfl,_⟩:=h
  rfl
 ·obtain⟨x,W,rfl ,hx,g,k⟩:=h
  have hu:=tQ hr
  refine bP (aE (hR (k:=1) (idx:=[]) (N:=["machine"]) (i:=1) wL.nd rfl (Or.inl rfl) (d6 (sc:=aH fT) (NX:=["works","parts"]) rfl rfl rfl (by decide +kernel)) rfl (bJ (K':=K) (bC (K':=K) (aD 0) rfl)) (λ_ _ _ _=>(aQ (i:=0) (show(["machine"]:List Str).Nodup by decide +kernel))) (cL (by decide)) (λ_ _ _ _=>bR) (λ_ _ _ _=>(zq1 aBB hr tx.uT tx.pK.kp tx.uS (aB (aD 0) aA))))
   (aF (aN (eT (K':=K) aR (aB (aI bT (aD 1) (nQ (zq1 aDz hr tx.yL tx.sX.kp tx.yK (aB (bC (K':=K) (aD 0) rfl) aA)) (aI (r:=iZ) dO aR (cB (rc:=yD) jR (by rfl) tx.rF uF (aB (bC (K':=K) (aD 0) rfl) aA))))) aA))))) ?_
  obtain⟨dx,lm,as,st,e0,e1,e2,e3⟩:=hx.ex
  have la:=e2.len
  have lm6:=g.len
  refine bF (σ:=[some (.ref x),none]) rfl ?_
  walk_at "w"
  refine cR e0 tx.kQ tx.iU rfl ?_
  refine gZ (bQ.of e1) ?_
  refine cP (xs:=as.map V.ref) (λj us H'=>aT H H'/\us=((W.ms.take j).map kU).map V.str) ⟨aT.refl _,rfl⟩ (aX (by rw[cC];omega))
   (λj us H' hj ⟨s0,e⟩=>⟨bQ.of (s0 _ _ e1),by rw[e,cC,cC,tP];omega⟩) (λj v us H' hv z26q=>?_) (λus H' z27q=>?_)
  ·obtain⟨s0,e⟩:=z26q
   obtain⟨a1,m1,ea1,rfl,em1,hm⟩:=e2.get hv
   walk_at "w"
   refine⟨a1,m1,rfl,hm.same s0,g.ms _ (v9 em1),λH2 s2=>⟨s0.trans s2,?_⟩⟩
   rw[e,take_snoc em1,o5,o5]
   rfl
  obtain⟨s0,e⟩:=z27q
  subst e
  rw[cC,la,Qx9]
  intro l1 n1
  obtain⟨H1,i1,s1,g1⟩:=nw _ n1;rw[i1]
  have S1:=s0.trans s1
  have e01:=S1 _ _ e0
  walk_at "w"
  refine⟨rfl,?_⟩
  walk_at "w"
  refine cR e01 tx.kQ tx.mL rfl ?_
  walk_at "w"
  refine⟨st,W.st,rfl,e3.same S1,g.st,λH2 s2=>?_⟩
  have e02:=s2 _ _ e01
  walk_at "w"
  refine cR e02 tx.kQ tx.oZ rfl ?_
  walk_at "w"
  have gl:=g.lack.len
  refine⟨W.lack,rfl,g.lack.log,?_⟩
  walk_at "w"
  refine⟨_,_,rfl,rfl,aX (by rw[show(Str.ofString "lack ").length=5 by decide];show 5+(sN W.lack).length<=_;omega),?_⟩
  walk_at "w"
  intro l3 n3
  obtain⟨H3,i3,s3,g3⟩:=nw _ n3;rw[i3]
  walk_at "w"
  refine dR ((s2.trans s3) _ _ g1) g3 (aX (by rw[cC,cC];simp;omega)) ?_
  intro l4 n4
  obtain⟨H4,i4,s4,g4⟩:=nw _ n4;rw[i4]
  have e4:H4 l4=some (.lst ((wPs W).map V.str)):=by rw[g4];unfold wPs;rw[o5];rfl
  walk_at "w"
  refine⟨_,l4,wPs W,rfl,rfl,bQ.of e4,aII g,?_⟩
  have z:=k H4 (S1.trans (s2.trans (s3.trans s4)))
  unfold jX at z
  rw[<-StrLaws.glued_eq_join] at z
  exact z
def z9(K:PySem.W.Frag)(CN:Addr):Sp:=λvs H Q E=>∃w:Str,vs=[.str w,.str (Str.ofString "lack ")]/\Ln 100000 w/\(∀n,mV w=some n->∀H',aT H H'->Q (.int n) H')/\(mV w=none->∀e od H',aT H H'->aEk H' e CN->E (.ref e) od H')
theorem aAa{P:Program}{w:World}{K:PySem.W.Frag}{mg:Str->Option Value}{base:Heap}{a:sC}(tx:Txt K mg a):cT P w K mg base (tR P w) 2 a.jD a.jE ["word","ahead"] (z9 K a.aV):=by
 have fP:=o4 (P:=P) (w:=w) (base:=base) tx
 refine tx.nI.okE zP (λvs H Q E h=>?_) (λcdv A outer s H vs Q E hr h=>?_)
 ·obtain⟨w,rfl,_⟩:=h
  rfl
 ·obtain⟨w,rfl ,hw,k,ke⟩:=h
  have hu:=tQ hr
  refine bP (aE (aZ (eH (eG (aBQ (K':=K) (aD 0) (aB (aD 1) aA)))) (aF (dH (K':=K) (E:=E) eI rfl (fR tx.ex_NoText tx.Z_NoText.kp (by rfl) tx.iE))) aP)
   (aF (aN (aG (fP) (hr.mono (by decide)) (by rfl) tx.jW tx.iD.kp tx.jV .nil rE (aB (aS (rs:=zO) nF (aD 0) (aW (aJ (rc:=aAj) lD (by rfl) tx.dQ cV (aB (aD 1) aA))) aY) aA))))) ?_
  have hl:=hw.sz
  refine bF (σ:=[some (.str w),some (.str (Str.ofString "lack "))]) rfl ?_
  walk_at "w"
  refine⟨rfl,?_⟩
  walk_at "w"
  refine⟨_,_,rfl,rfl,?_⟩
  cases hs:Txt.startswith w (Str.ofString "lack ") with
  |false=>
   repeat walk_at "gs"
   intro e ne
   obtain⟨s1,e1⟩:=iG (C:=a.aV) (a:=iK a.aV none e) ne
   exact⟨e,a.aV,none,rfl,aO,tx.Z_NoText,ke (by unfold mV;rw[hs];rfl) _ _ _ s1 e1⟩
  |true=>
   have l2:=kR (x:=w) (i:=5) (by decide)
   have el:mV w=dE (StrLaws.sliceText w (some 5) none):=by unfold mV;rw[hs];rfl
   repeat walk_at "gs"
   refine⟨_,rfl,aX (by decide),?_⟩
   walk_at "w"
   refine⟨_,rfl,?_⟩
   rw[show(((Str.ofString "lack ").length:Nat):Int)=5 from rfl]
   refine⟨aX (by omega),?_⟩
   walk_at "w"
   exact⟨_,rfl,u3 hw (by omega),λn hn=>k n (el.trans hn),λhn=>ke (el.trans hn)⟩
def aB3(K:W.Frag)(CN:Addr):Sp:=λvs H Q E=>∃w:Str,vs=[.str w]/\Ln 100000 w/\(∀t,pcP w=some t->∀q H',aT H H'->H' q=some (.tup [.int t.1,.int t.2])->Q (.ref q) H')/\(pcP w=none->∀e od H',aT H H'->aEk H' e CN->E (.ref e) od H')
theorem aB4{P:Program}{w:World}{K:PySem.W.Frag}{mg:Str->Option Value}{base:Heap}{a:sC}(tx:Txt K mg a):cT P w K mg base (tR P w) 2 a.oF a.oG ["word"] (aB3 K a.aV):=by
 have fP:=o4 (P:=P) (w:=w) (base:=base) tx
 refine tx.tD.okE wM (λvs H Q E h=>?_) (λcdv A outer s H vs Q E hr h=>?_)
 ·obtain⟨w,rfl,_⟩:=h
  rfl
 ·obtain⟨w,rfl ,hw,k,ke⟩:=h
  have hu:=tQ hr
  refine bP (aE (aM (i:=1) wM.nd (dF (K':=K) (aD 0) (aB aR aA)))
   (aE (aZ (aL (r:=wB K) (lC hu) (aJ (rc:=nP K) cF (by rfl) tx.dQ cV (aB (aD 1) aA)) aC (bB _)) (aF (dH (K':=K) (E:=E) eI rfl (fR tx.ex_NoText tx.Z_NoText.kp (by rfl) tx.iE))) aP)
   (aF (aN (aC8 (aG (fP) (hr.mono (by decide)) (by rfl) tx.jW tx.iD.kp tx.jV .nil rE (aB (aK (K':=K) (aD 1) aC) aA)) (aG (fP) (hr.mono (by decide)) (by rfl) tx.jW tx.iD.kp tx.jV .nil rE (aB (aK (K':=K) (aD 1) aC) aA))))))) ?_
  have hl:=hw.sz
  have lp:(Txt.split w (Str.ofString ":")).length<=100002:=by have:=PyProof.Rows.split_le w (Str.ofString ":");omega
  refine bF (σ:=[some (.str w),none]) rfl ?_
  walk_at "w"
  refine⟨rfl,?_⟩
  walk_at "w"
  refine⟨_,_,rfl,rfl,by decide,aX (by omega),aX (by omega),λl nl=>?_⟩
  obtain⟨H1,i1,s1,g1⟩:=nw _ nl;rw[i1]
  walk_at "w"
  refine lN (λh=>?_) (λh=>?_)
  ·walk_at "w"
   intro e ne
   obtain⟨s2,e2⟩:=iG (C:=a.aV) (a:=iK a.aV none e) ne
   exact⟨e,a.aV,none,rfl,aO,tx.Z_NoText,ke (aKk λz=>h (by rw[cC,z];rfl)) _ _ _ (s1.trans s2) e2⟩
  obtain⟨u,v,e2⟩ : ∃u v,Txt.split w (Str.ofString ":")=[u,v]:=by
   rw[cC] at h
   have h':(Txt.split w (Str.ofString ":")).length=2:=by omega
   match q:Txt.split w (Str.ofString ":"),h' with
   |[u,v],_=>exact⟨u,v,rfl⟩
  have ep:=aGa e2
  have lu:Ln 100000 u:=eC (y:=Str.ofString ":") hw u (by rw[e2];exact .head _)
  have lv:Ln 100000 v:=eC (y:=Str.ofString ":") hw v (by rw[e2];exact .tail _ (.head _))
  rw[e2] at g1
  walk_at "w"
  refine⟨u,rfl,lu,λn1 h1 H2 s2=>?_,λz e od H' s2 he=>ke (by rw[ep,z]) e od H' (s1.trans s2) he⟩
  have g2:=s2 _ _ g1
  walk_at "w"
  refine⟨v,rfl,lv,λn2 h2 H3 s3=>?_,λz e od H' s3 he=>ke (by rw[ep,z];cases dE u <;> rfl) e od H' (s1.trans (s2.trans s3)) he⟩
  walk_at "w"
  intro T nT
  obtain⟨H4,i4,s4,g4⟩:=nw _ nT;rw[i4]
  exact k (n1,n2) (by rw[ep,h1,h2]) T H4 (s1.trans (s2.trans (s3.trans s4))) g4
def aAM(K:PySem.W.Frag)(CN CW CM:Addr):Sp:=λvs H Q E=>∃p:Str,vs=[.str p]/\Ln 100000 p/\(∀m,dP p=some m->∀x H',aT H H'->fX CM H' x m->Q (.ref x) H')/\(dP p=none->∀e od H',aT H H'->(aEk H' e CN\/∃n,aFu H' e CW "at" n)->E (.ref e) od H')
theorem aAN{P:Program}{w:World}{K:PySem.W.Frag}{mg:Str->Option Value}{base:Heap}{a:sC}(tx:Txt K mg a):cT P w K mg base (tR P w) 7 a.kK a.kL ["part"] (aAM K a.aV a.bW a.bO):=by
 have pR:=tX (P:=P) (w:=w) (base:=base) tx
 have fP:=o4 (P:=P) (w:=w) (base:=base) tx
 have aDA:=aB4 (P:=P) (w:=w) (base:=base) tx
 refine tx.pL.okE jA (λvs H Q E h=>?_) (λcdv A outer s H vs Q E hr h=>?_)
 ·obtain⟨p,rfl,_⟩:=h
  rfl
 ·obtain⟨p,rfl ,hp,k,ke⟩:=h
  have hu:=tQ hr
  refine bP (aE (aM (i:=1) jA.nd (dF (K':=K) (aD 0) (aB aR aA)))
   (aE (aZ (aL aA3 (aJ (rc:=nP K) cF (by rfl) tx.dQ cV (aB (aD 1) aA)) aC (bB _)) (aF (dH (K':=K) (E:=E) eI rfl (fR tx.ex_NoText tx.Z_NoText.kp (by rfl) tx.iE))) aP)
   (aE (uL aBh (k:=1) (idx:=[]) (N:=["word"]) (i:=2) jA.nd rfl (Or.inl rfl) (d6 (sc:=aH dJ) (NX:=["part","words","values","pieces"]) rfl rfl rfl (by decide +kernel)) rfl (bJ (K':=K) (aS (rs:=kY K) mR (aD 1) aY (aW aC))) (λ_ _ _ _=>(aQ (i:=0) (show(["word"]:List Str).Nodup by decide +kernel))) (cL (by decide)) (λ_ _ _ _=>bR) (λ_ _ _ _=>(aG (fP) (hr.mono (by decide)) (by rfl) tx.jW tx.iD.kp tx.jV .nil r9 (aB (aD 0) aA))))
   (aE (uL aBh (k:=1) (idx:=[]) (N:=["word"]) (i:=3) jA.nd rfl (Or.inl rfl) (d6 (sc:=aH dJ) (NX:=["part","words","values","pieces"]) rfl rfl rfl (by decide +kernel)) rfl (bJ (K':=K) (aS (rs:=kY K) mR (aD 1) (aW aC) aY)) (λ_ _ _ _=>(aQ (i:=0) (show(["word"]:List Str).Nodup by decide +kernel))) (cL (by decide)) (λ_ _ _ _=>bR) (λ_ _ _ _=>(aG (aDA) (hr.mono (by decide)) (by rfl) tx.yN tx.tD.kp tx.yM .nil r9 (aB (aD 0) aA))))
   (aF (aN (mT tx.zT (pR) (hr.mono (by decide)) (by rfl) tx.vW tx.pH .nil rE (aB (aK (K':=K) (aD 2) aC) (aB (aK (K':=K) (aD 2) aC) (aB (aK (K':=K) (aD 2) aC) (aB (aK (K':=K) (aD 2) aC) (aB (aK (K':=K) (aD 2) aC) (aB (aK (K':=K) (aD 2) aC) (aB (aD 3) aA)))))))))))))) ?_
  have hl:=hp.sz
  have lw:(dX p).length<=100002:=(yV hl).2
  refine bF (σ:=[some (.str p),none,none,none]) rfl ?_
  walk_at "w"
  refine⟨rfl,?_⟩
  walk_at "w"
  refine⟨_,_,rfl,rfl,by decide,aX (by omega),aX (by show(dX p).length<=_;omega),λl nl=>?_⟩
  rw[show Txt.split p (Str.ofString " ")=dX p from rfl]
  obtain⟨H1,i1,s1,g1⟩:=nw _ nl;rw[i1]
  walk_at "w"
  refine bX (λh=>?_) (λh=>?_)
  ·rw[cC] at h
   walk_at "w"
   intro e ne
   obtain⟨s2,e2⟩:=iG (C:=a.aV) (a:=iK a.aV none e) ne
   exact⟨e,a.aV,none,rfl,aO,tx.Z_NoText,ke (aCG (by omega)) _ _ _ (s1.trans s2) (.inl e2)⟩
  rw[cC] at h
  have l6:((dX p).take 6).length=6:=by rw[tP];omega
  walk_at "w"
  refine cW (bQ.of g1) ?_
  rw[show(6:Int)=((6:Nat):Int) from rfl,aGb,<-Tt9]
  intro l2 n2
  obtain⟨H2,i2,s2,g2⟩:=nw _ n2;rw[i2]
  refine gZ (bQ.of g2) ?_
  refine cP (xs:=((dX p).take 6).map V.str) (λj us H'=>aT H2 H'/\∃os,cX dE (((dX p).take 6).take j)=some os/\us=os.map V.int) ⟨aT.refl _,[],rfl,rfl⟩ (aX (by rw[cC];omega))
   (λj us H' hj ⟨e0,os,eo,e1⟩=>⟨bQ.of (e0 _ _ g2),by rw[e1,cC,dN eo,tP];omega⟩) (λj v us H' hv z28q=>?_) (λus H' z29q=>?_)
  ·obtain⟨e0,os,eo,e1⟩:=z28q
   rw[xV] at hv
   obtain⟨w,ew,rfl⟩:=Qt9.mp hv
   have mw:=v9 ew
   walk_at "w"
   exact⟨w,rfl,eC hp _ (Sf9 mw),λn hn H6 s6=>⟨e0.trans s6,os ++ [n],yW eo ew hn,by rw[e1,o5];rfl⟩,λz e od H' s6 he=>ke (aCF mw z) e od H' (s1.trans (s2.trans (e0.trans s6))) (.inl he)⟩
  obtain⟨e0,os,eo,e1⟩:=z29q
  subst e1
  rw[cC,Qx9] at eo
  have lo:=dN eo
  rw[l6] at lo
  obtain⟨v0,v1,v2,v3,v4,v5,rfl⟩:=aIF lo
  intro l3 n3
  obtain⟨H3,i3,s3,g3⟩:=nw _ n3;rw[i3]
  have S3:aT H H3:=s1.trans (s2.trans (e0.trans s3))
  have g13:=(s2.trans (e0.trans s3)) _ _ g1
  walk_at "w"
  refine cW (bQ.of g13) ?_
  rw[show(6:Int)=((6:Nat):Int) from rfl,v7,<-Tl9]
  intro l4 n4
  obtain⟨H4,i4,s4,g4⟩:=nw _ n4;rw[i4]
  have ld:((dX p).drop 6).length<=100000:=by rw[Rm9];omega
  refine gZ (bQ.of g4) ?_
  refine cP (xs:=((dX p).drop 6).map V.str) (λj us H'=>aT H4 H'/\∃(qs:List Addr) (ps:List (Int×Int)),us=qs.map V.ref/\cX pcP (((dX p).drop 6).take j)=some ps/\xI H' qs ps) ⟨aT.refl _,[],[],rfl,rfl,⟨rfl,λj q t h=>by simp at h⟩⟩ (aX (by rw[cC];omega))
   (λj us H' hj ⟨e0,qs,ps,e1,eh,ra⟩=>⟨bQ.of (e0 _ _ g4),by rw[e1,cC,ra.len,dN eh,tP];omega⟩) (λj v us H' hv z30q=>?_) (λus H' z31q=>?_)
  ·obtain⟨e1,qs,ps,e2,eh,ra⟩:=z30q
   rw[xV] at hv
   obtain⟨w,ew,rfl⟩:=Qt9.mp hv
   have mw:=v9 ew
   walk_at "w"
   exact⟨w,rfl,eC hp _ (Sr9 mw),λt ht q H6 s6 hq=>⟨e1.trans s6,qs ++ [q],ps ++ [t],by rw[e2,o5];rfl,yW eh ew ht,(ra.same s6).snoc hq⟩,λz e od H' s6 he=>ke (yY mw z) e od H' (S3.trans (s4.trans (e1.trans s6))) (.inl he)⟩
  obtain⟨e1,qs,ps,e2,eh,ra⟩:=z31q
  subst e2
  rw[cC,Qx9] at eh
  have lps:=dN eh
  intro l5 n5
  obtain⟨H5,i5,s5,g5⟩:=nw _ n5;rw[i5]
  have g35:=(s4.trans (e1.trans s5)) _ _ g3
  have S5:aT H H5:=S3.trans (s4.trans (e1.trans s5))
  have em:=aBw eo eh
  walk_at "w"
  intro x dx nx ndx dxx
  have s6:=v8 (o1:=.own x) (o2:=.ins a.bO dx []) nx ndx
  exact⟨x,dx,l5,⟨v0,v1,v2,v3,v4,v5,ps⟩,rfl,aO,mU.same ⟨qs,g5,ra.same s5⟩ s6,by show ps.length<=_;omega,λhg d7 p7 H7 m1 m2 _ k7=>⟨rfl,k _ (by rw[em,gU hg]) x H7 (S5.trans (o9 nx s6 k7)) ⟨d7,p7,m1,m2⟩⟩,λhg e od n H7 s7 he=>ke (by rw[em,fQ (by rw[hg];decide)]) e od H7 (S5.trans (s6.trans s7)) (.inr ⟨n,he⟩)⟩
def aB5(K:PySem.W.Frag)(CN CW CS:Addr):Sp:=λvs H Q E=>∃p:Str,vs=[.str p]/\Ln 100000 p/\(∀o,fD p=some o->∀v H',aT H H'->StA CS H' v o->Q v H')/\(fD p=none->∀e od H',aT H H'->(aEk H' e CN\/∃n,aFu H' e CW "at" n)->E (.ref e) od H')
theorem aB6{P:Program}{w:World}{K:PySem.W.Frag}{mg:Str->Option Value}{base:Heap}{a:sC}(tx:Txt K mg a):cT P w K mg base (tR P w) 5 a.oH a.oI ["part"] (aB5 K a.aV a.bW a.cZ):=by
 have tK:=wQ (P:=P) (w:=w) (base:=base) tx
 have fP:=o4 (P:=P) (w:=w) (base:=base) tx
 refine tx.tE.okE qQ (λvs H Q E h=>?_) (λcdv A outer s H vs Q E hr h=>?_)
 ·obtain⟨p,rfl,_⟩:=h
  rfl
 ·obtain⟨p,rfl ,hp,k,ke⟩:=h
  have hu:=tQ hr
  refine bP (aE (aZ (aL (r:=rC K) (gY hu) (aD 0) (xF (n:="none") (by rfl) tx.lK) (bB _)) (aF (aN bS)) aP)
   (aE (aM (i:=1) qQ.nd (dF (K':=K) (aD 0) (aB aR aA)))
   (aE (aZ (dA (cH (aL (r:=wB K) (lC hu) (aJ (rc:=nP K) cF (by rfl) tx.dQ cV (aB (aD 1) aA)) aC (bB _)) (dC (aL (r:=wB K) (lC hu) (aK (K':=K) (aD 1) aC) aR (bB _))))) (aF (dH (K':=K) (E:=E) eI rfl (fR tx.ex_NoText tx.Z_NoText.kp (by rfl) tx.iE))) aP)
   (aE (uL aBh (k:=1) (idx:=[]) (N:=["word"]) (i:=2) qQ.nd rfl (Or.inl rfl) (d6 (sc:=aH fU) (NX:=["part","words","values"]) rfl rfl rfl (by decide +kernel)) rfl (bJ (K':=K) (aS (rs:=kY K) mR (aD 1) (aW aC) aY)) (λ_ _ _ _=>(aQ (i:=0) (show(["word"]:List Str).Nodup by decide +kernel))) (cL (by decide)) (λ_ _ _ _=>bR) (λ_ _ _ _=>(aG (fP) (hr.mono (by decide)) (by rfl) tx.jW tx.iD.kp tx.jV .nil r9 (aB (aD 0) aA))))
   (aF (aN (mT tx.aDj (tK) (hr.mono (by decide)) (by rfl) tx.aAV tx.sV .nil rE (aB (aK (K':=K) (aD 2) aC) (aB (aK (K':=K) (aD 2) aC) (aB (aK (K':=K) (aD 2) aC) (aB (aK (K':=K) (aD 2) aC) (aB (aK (K':=K) (aD 2) aC) aA)))))))))))) ?_
  have hl:=hp.sz
  have lw:(dX p).length<=100002:=(yV hl).2
  refine bF (σ:=[some (.str p),none,none]) rfl ?_
  walk_at "w"
  rw[mO]
  refine bX (λh0=>?_) (λh0=>?_)
  ·subst h0
   walk_at "w"
   exact k none xP _ _ (aT.refl _) rfl
  walk_at "w"
  refine⟨rfl,?_⟩
  walk_at "w"
  refine⟨_,_,rfl,rfl,by decide,aX (by omega),aX (by show(dX p).length<=_;omega),λl nl=>?_⟩
  rw[show Txt.split p (Str.ofString " ")=dX p from rfl]
  obtain⟨H1,i1,s1,g1⟩:=nw _ nl;rw[i1]
  walk_at "w"
  refine lN (λh=>?_) (λh=>?_)
  ·rw[cC] at h
   repeat walk_at "gs"
   intro e ne
   obtain⟨s2,e2⟩:=iG (C:=a.aV) (a:=iK a.aV none e) ne
   exact⟨e,a.aV,none,rfl,aO,tx.Z_NoText,ke (aGZ h0 λz=>h (by rw[z];rfl)) _ _ _ (s1.trans s2) (.inl e2)⟩
  rw[cC] at h
  obtain⟨w0,wr0,ew0⟩ : ∃w0 wr0,dX p=w0::wr0:=by
   cases q:dX p with
   |nil=>exact absurd q (aFv p)
   |cons x y=>exact⟨x,y,rfl⟩
  have at0:atI ((dX p).map V.str) 0=some (.str w0):=j0 (j:=0) (by rw[ew0];rfl)
  have hh:(dX p).head?=some w0:=by rw[ew0];rfl
  have l5:((dX p).drop 1).length=5:=by rw[Rm9];omega
  repeat walk_at "gs"
  rw[mO]
  refine lN (λh2=>?_) (λh2=>?_)
  ·repeat walk_at "gs"
   intro e ne
   obtain⟨s2,e2⟩:=iG (C:=a.aV) (a:=iK a.aV none e) ne
   exact⟨e,a.aV,none,rfl,aO,tx.Z_NoText,ke (aBx h0 λz=>h2 (by rw[hh] at z;exact Option.some.inj z)) _ _ _ (s1.trans s2) (.inl e2)⟩
  subst h2
  walk_at "w"
  refine cW (bQ.of g1) ?_
  rw[show(1:Int)=((1:Nat):Int) from rfl,v7,<-Tl9]
  intro l2 n2
  obtain⟨H2,i2,s2,g2⟩:=nw _ n2;rw[i2]
  refine gZ (bQ.of g2) ?_
  refine cP (xs:=((dX p).drop 1).map V.str) (λj us H'=>aT H2 H'/\∃os,cX dE (((dX p).drop 1).take j)=some os/\us=os.map V.int) ⟨aT.refl _,[],rfl,rfl⟩ (aX (by rw[cC];omega))
   (λj us H' hj ⟨e0,os,eo,e1⟩=>⟨bQ.of (e0 _ _ g2),by rw[e1,cC,dN eo,tP];omega⟩) (λj v us H' hv z32q=>?_) (λus H' z33q=>?_)
  ·obtain⟨e0,os,eo,e1⟩:=z32q
   rw[xV] at hv
   obtain⟨w,ew,rfl⟩:=Qt9.mp hv
   have mw:=v9 ew
   walk_at "w"
   exact⟨w,rfl,eC hp _ (Sr9 mw),λn hn H6 s6=>⟨e0.trans s6,os ++ [n],yW eo ew hn,by rw[e1,o5];rfl⟩,λz e od H' s6 he=>ke (aCH h0 mw z) e od H' (s1.trans (s2.trans (e0.trans s6))) (.inl he)⟩
  obtain⟨e0,os,eo,e1⟩:=z33q
  subst e1
  rw[cC,Qx9] at eo
  have lo:=dN eo
  rw[l5] at lo
  obtain⟨v0,v1,v2,v3,v4,rfl⟩:=aGc lo
  have em:=aBy h0 hh eo
  intro l3 n3
  obtain⟨H3,i3,s3,g3⟩:=nw _ n3;rw[i3]
  have S3:aT H H3:=s1.trans (s2.trans (e0.trans s3))
  walk_at "w"
  intro x dx nx ndx dxx
  have s6:=v8 (o1:=.own x) (o2:=.ins a.cZ dx []) nx ndx
  exact⟨x,dx,⟨v0,v1,v2,v3,v4⟩,rfl,aO,λhg H7 hM k7=>⟨rfl,k (some _) (by rw[em,gU hg]) (.ref x) H7 (S3.trans (o9 nx s6 k7)) ⟨x,rfl,hM⟩⟩,λhg e od n H7 s7 he=>ke (by rw[em,fQ (by rw[hg];decide)]) e od H7 (S3.trans (s6.trans s7)) (.inr ⟨n,he⟩)⟩
def aB7(K:PySem.W.Frag)(CN C CM CS:Addr):Sp:=λvs H Q E=>∃x:Str,vs=[.str x]/\Ln 100000 x/\(∀W,fA x=some W->∀p H',aT H H'->aAH C CM CS H' p W->Q (.ref p) H')/\(fA x=none->∀e od H',aT H H'->aEk H' e CN->E (.ref e) od H')
theorem wU{P:Program}{w:World}{K:PySem.W.Frag}{mg:Str->Option Value}{base:Heap}{a:sC}(tx:Txt K mg a):cT P w K mg base (tR P w) 8 a.oJ a.oK ["line"] (aB7 K a.aV a.fJ a.bO a.cZ):=by
 have tL:=wR (P:=P) (w:=w) (base:=base) tx
 have aAO:=aAa (P:=P) (w:=w) (base:=base) tx
 have aBC:=aAN (P:=P) (w:=w) (base:=base) tx
 have aDB:=aB6 (P:=P) (w:=w) (base:=base) tx
 refine tx.oU.okE qR (λvs H Q E h=>?_) (λcdv A outer s H vs Q E hr h=>?_)
 ·obtain⟨x,rfl,_⟩:=h
  rfl
 ·obtain⟨x,rfl ,hx,k,ke⟩:=h
  have hu:=tQ hr
  refine bP (aE (aM (i:=1) qR.nd (dF (K':=K) (aD 0) (aB aR aA)))
   (aE (aZ (aL aA3 (aJ (rc:=nP K) cF (by rfl) tx.dQ cV (aB (aD 1) aA)) aC (bB _)) (aF (dH (K':=K) (E:=E) eI rfl (fR tx.ex_NoText tx.Z_NoText.kp (by rfl) tx.iE))) aP)
   (aF (aCt rfl rfl (λpn W=>(aE (aD5 (λ_=>aIl ⟨_,rfl⟩ ⟨_,rfl⟩) (k:=1) (idx:=[]) (N:=["part"]) (i:=2) qR.nd rfl (Or.inl rfl) (d6 (sc:=aH fV) (NX:=["line","parts","machines"]) rfl rfl rfl (by decide +kernel)) rfl (bJ (K':=K) (aS (rs:=kY K) mR (aD 1) aY (aW (hJ pB aC)))) (λ_ _ _ _ _=>(aQ (i:=0) (show(["part"]:List Str).Nodup by decide +kernel))) (cL (by decide)) (λ_ _ _ _ _=>bR) (λ_ _ _ _ _=>(aG (aBC) (hr.mono (by decide)) (by rfl) tx.uV tx.pL.kp tx.uU .nil r9 (aB (aD 0) aA))))
   (aF (aN (aD2 (pn:=pn) (W:=W) tx.aDk (tL) (hr.mono (by decide)) (by rfl) tx.aAW tx.sW (aB (aD 2) (aB (uK (pn:=pn) (W:=W) (aDB) (hr.mono (by decide)) (by rfl) tx.yP tx.tE.kp tx.yO (aB (aK (K':=K) (aD 1) (hJ pB aC)) aA)) (aB (uK (pn:=pn) (W:=W) (aAO) (hr.mono (by decide)) (by rfl) tx.tV tx.nI.kp tx.tU (aB (aK (K':=K) (aD 1) (hJ pB aC)) (aB aR aA))) aA)))))))) (aGV (K':=K) aNj (by rfl) tx.vX (λe0=>(aF (aDg (K':=K) (E:=E) eI hr.hd (fR tx.ex_NoText tx.Z_NoText.kp (by rfl) tx.iE) bS))) (aFp aJ9)))))) ?_
  have hl:=hx.sz
  have lp:(qZ x).length<=100002:=by have:=PyProof.Rows.split_le x (Str.ofString "; ");show(Txt.split x (Str.ofString "; ")).length<=_;omega
  refine bF (σ:=[some (.str x),none,none]) rfl ?_
  walk_at "w"
  refine⟨rfl,?_⟩
  walk_at "w"
  refine⟨_,_,rfl,rfl,by decide,aX (by omega),aX (by show(qZ x).length<=_;omega),λl nl=>?_⟩
  rw[show Txt.split x (Str.ofString "; ")=qZ x from rfl]
  obtain⟨H1,i1,s1,g1⟩:=nw _ nl;rw[i1]
  walk_at "w"
  refine bX (λh=>?_) (λh=>?_)
  ·rw[cC] at h
   walk_at "w"
   intro e ne
   obtain⟨s2,e2⟩:=iG (C:=a.aV) (a:=iK a.aV none e) ne
   exact⟨e,a.aV,none,rfl,aO,tx.Z_NoText,ke (aBz (by omega)) _ _ _ (s1.trans s2) e2⟩
  rw[cC] at h
  obtain⟨ms,s,lk,eP⟩:=two_end (show 2<=(qZ x).length by omega)
  have eV:(qZ x).map V.str=ms.map V.str ++ [.str s,.str lk]:=by rw[eP,o5];rfl
  rw[eV] at g1
  have lms:ms.length<=100000:=by have:=congrArg List.length eP;rw[rA] at this;simp at this;omega
  have lnm:∀w∈ms,Ln 100000 w:=λw hw=>eC (y:=Str.ofString "; ") hx w (by show w∈qZ x;rw[eP];exact Ro9 _ hw)
  have lns:Ln 100000 s:=eC (y:=Str.ofString "; ") hx s (by show s∈qZ x;rw[eP];exact xT _ (.head _))
  have lnl:Ln 100000 lk:=eC (y:=Str.ofString "; ") hx lk (by show lk∈qZ x;rw[eP];exact xT _ (.tail _ (.head _)))
  have hE:∀(D:Ends) (σ':St) (H':Hp) (e:Addr),fA x=none->aT H H'->(aEk H' e a.aV\/∃n,aFu H' e a.bW "at" n)->aD7 K a.bW (λe0=>aAU K E e0 (aFT a.aV)) (aDf E) D σ' H' e:=by
   rintro ⟨d1,d2,d3,d4⟩ σ' H' e hn s' (h1|⟨n,dx,h1,_⟩)
   ·exact aMk h1 tx.Z_NoText tx.x_NoText_Wrong (aIp h1 (ke hn e none H' s' h1))
   ·refine aMj h1 tx.Z_Wrong tx.x_Wrong_Wrong (aGU ?_)
    intro e2 ne2
    obtain⟨s2,q2⟩:=iG (C:=a.aV) (a:=iK a.aV none e2) ne2
    exact⟨e2,a.aV,a.bW,dx,rfl,aO,tx.Z_NoText,by rw[aU (cQ ne2 h1)];exact h1,ke hn e2 none _ (s'.trans s2) q2⟩
  walk_at "w"
  refine cW (bQ.of g1) ?_
  rw[aG0]
  intro l2 n2
  obtain⟨H2,i2,s2,g2⟩:=nw _ n2;rw[i2]
  refine gZ (bQ.of g2) ?_
  refine cP (xs:=ms.map V.str) (λj us H'=>aT H2 H'/\∃(as:List Addr) (Ms:List MS),us=as.map V.ref/\cX dP (ms.take j)=some Ms/\RL (fX a.bO H') as Ms) ⟨aT.refl _,[],[],rfl,rfl,RL.nil⟩ (aX (by rw[cC];omega))
   (λj us H' hj ⟨e0,as,Ms,e1,eh,ra⟩=>⟨bQ.of (e0 _ _ g2),by rw[e1,cC,ra.len,dN eh,tP];omega⟩) (λj v us H' hv z34q=>?_) (λus H' z35q=>?_)
  ·obtain⟨e0,as,Ms,e1,eh,ra⟩:=z34q
   rw[xV] at hv
   obtain⟨w,ew,rfl⟩:=Qt9.mp hv
   have mw:=v9 ew
   walk_at "w"
   exact⟨w,rfl,lnm w mw,λm hm q H6 s6 hq=>⟨e0.trans s6,as ++ [q],Ms ++ [m],by rw[e1,o5];rfl,yW eh ew hm,(ra.imp λ_ _ z=>fX.same z s6).snoc hq⟩,λz e od H' s6 he=>⟨e,rfl,hE _ _ _ _ (aCI eP mw z) (s1.trans (s2.trans (e0.trans s6))) he⟩⟩
  obtain⟨e0,as,Ms,e1,eh,ra⟩:=z35q
  subst e1
  rw[cC,Qx9] at eh
  have lMs:=dN eh
  have las:=ra.len
  intro l3 n3
  obtain⟨H3,i3,s3,g3⟩:=nw _ n3;rw[i3]
  have S3:aT H H3:=s1.trans (s2.trans (e0.trans s3))
  have g13:=(s2.trans (e0.trans s3)) _ _ g1
  have a2:=aEw (ms.map V.str) (.str s) (.str lk)
  have a1:atI (ms.map V.str ++ [.str s,.str lk]) (-1)=some (.str lk):=by
   rw[show ms.map V.str ++ [V.str s,.str lk]=(ms.map V.str ++ [.str s]) ++ [.str lk] by simp]
   exact aDr _
  walk_at "w"
  refine⟨s,rfl,lns,λst hst v H4 s4 hv=>?_,λz e od H' s4 he=>⟨e,rfl,hE _ _ _ _ (aCJ eP z) (S3.trans s4) he⟩⟩
  have g14:=s4 _ _ g13
  walk_at "w"
  refine⟨lk,rfl,lnl,λn hn H5 s5=>?_,λz e od H' s5 he=>⟨e,rfl,hE _ _ _ _ (z0 eP z) (S3.trans (s4.trans s5)) (.inl he)⟩⟩
  have em:=xQ eP eh hst hn
  have S5:aT H H5:=S3.trans (s4.trans s5)
  walk_at "w"
  intro y dx nx ndx dxx
  have s6:=v8 (o1:=.own y) (o2:=.ins a.fJ dx []) nx ndx
  exact⟨y,dx,l3,as,v,⟨Ms,st,n⟩,rfl,aO,(s4.trans (s5.trans s6)) _ _ g3,ra.imp λ_ _ z=>fX.same z (s3.trans (s4.trans (s5.trans s6))),(hv.same s5).same s6,by show Ms.length<=_;omega,λhg H7 hM k7=>⟨rfl,k _ (by rw[em,gU hg]) y H7 (S5.trans (o9 nx s6 k7)) hM⟩,λhg e od n H7 s7 he=>⟨e,rfl,hE _ _ _ _ (by rw[em,fQ (by rw[hg];decide)]) (S5.trans (s6.trans s7)) (.inr ⟨_,he⟩)⟩⟩
def aBD(K:W.Frag):Sp:=λvs H Q _=>∃p:Addr,vs=[.ref p]/\bM H p/\∀(n:Int) H',Am n->bM H' p->cJ p H H'->Q (.int n) H'
theorem u6{P:Program}{w:World}{K:PySem.W.Frag}{mg:Str->Option Value}{base:Heap}{a:sC}(tx:Txt K mg a):cT P w K mg base tZ 3 a.lY a.lZ ["_law_hand"] (aBD K):=by
 have bA:=fW (P:=P) (w:=w) (base:=base) tx
 have aFA:=aEg (P:=P) (w:=w) (base:=base) tx
 refine tx.dW.ok aBi (λvs H Q E h=>?_) (λcdv A outer s H vs Q E hr h=>?_)
 ·obtain⟨p,rfl,_⟩:=h
  rfl
 ·obtain⟨p,rfl ,hh,k⟩:=h
  have hu:=tQ hr
  refine bP (aF (aN (aK (K':=K) (aC9 aC (aI uC aC aC) (zq1 bA hr tx.bH tx.bD.kp tx.bG (aB (aD 0) (aB aC aA))) (zq1 aFA hr tx.aBl tx.xG.kp tx.aBk (aB (aD 0) (aB (aI uC aC aC) aA)))) (zq1 bA hr tx.bH tx.bD.kp tx.bG (aB (aD 0) (aB aC aA)))))) ?_
  have e12:(10:Int) ^ (12:Int).toNat=1000000000000:=by decide
  refine bF (σ:=[some (.ref p)]) rfl ?_
  walk_at "w"
  rw[e12]
  refine⟨p,_,rfl,hh,by decide,by decide,λr1 H1 a1 b1 h1 k1 _=>?_⟩
  walk_at "w"
  refine⟨p,_,rfl,h1,by decide,λr2 H2 a2 b2 h2 k2 _=>?_⟩
  rw[e12] at b2
  walk_at "w"
  intro l nl
  obtain⟨H3,i3,s3,g3⟩:=nw _ nl;rw[i3]
  have lp:l≠p:=h2.xJ nl
  walk_at "w"
  refine⟨p,_,rfl,h2.same s3,by decide,by decide,λr4 H4 a4 b4 h4 k4 _=>?_⟩
  have g4:=k4 _ _ g3 lp
  have K4:cJ p H H4:=k1.trans (k2.trans (s3.keep.trans k4))
  have:r4=0\/r4=1\/r4=2\/r4=3:=by omega
  rcases this with rfl|rfl|rfl|rfl
  ·exact aA9 (bQ.of g4) rfl (k _ _ ⟨by decide,by decide⟩ h4 K4)
  ·exact aA9 (bQ.of g4) rfl (k _ _ ⟨by decide,by decide⟩ h4 K4)
  ·exact aA9 (bQ.of g4) rfl (k _ _ ⟨by omega,by omega⟩ h4 K4)
  ·exact aA9 (bQ.of g4) rfl (k _ _ ⟨by omega,by omega⟩ h4 K4)
def u7(K:W.Frag):Sp:=λvs H Q _=>∃p:Addr,vs=[.ref p]/\bM H p/\∀(s:Addr) (m:MS) H',iF H' s m->m.Good->H s=none->bM H' p->cJ p H H'->Q (.ref s) H'
theorem u9{P:Program}{w:World}{K:PySem.W.Frag}{mg:Str->Option Value}{base:Heap}{a:sC}(tx:Txt K mg a):cT P w K mg base tZ 4 a.fE a.fF ["_law_hand"] (u7 K):=by
 have fB:=u6 (P:=P) (w:=w) (base:=base) tx
 have bA:=fW (P:=P) (w:=w) (base:=base) tx
 refine tx.iW.ok hZ (λvs H Q E h=>?_) (λcdv A outer s H vs Q E hr h=>?_)
 ·obtain⟨p,rfl,_⟩:=h
  rfl
 ·obtain⟨p,rfl ,hh,k⟩:=h
  have hu:=tQ hr
  refine bP (aE (aM (i:=1) hZ.nd (aI bT (nQ (aI bT aC (zq1 bA hr tx.bH tx.bD.kp tx.bG (aB (aD 0) (aB aC aA)))) (aI bT aC (zq1 bA hr tx.bH tx.bD.kp tx.bG (aB (aD 0) (aB aC aA))))) (d8 (k:=1) (idx:=[0]) (N:=["_law_k","_law_hand"]) (d6 (sc:=aH bY) (NX:=["_law_hand","_law_spec_here","_law_rates"]) rfl rfl rfl (by decide +kernel)) rfl (gF (by rfl) tx.jH (aB aC aA)) (λ_ _ _ _=>(aQ (i:=0) (show(["_law_k","_law_hand"]:List Str).Nodup by decide +kernel))) (cL (by decide)) (λ_ _ _ _=>bR) (λ_ _ _ _=>(zq1 fB hr tx.eZ tx.dW.kp tx.eY (aB (aD 1) aA))))))
   (aE (aM (i:=2) hZ.nd (aJ aAl (by rfl) tx.pN aCk (aB (d8 (k:=1) (idx:=[0]) (N:=["_law_k","_law_hand"]) (d6 (sc:=aH bY) (NX:=["_law_hand","_law_spec_here","_law_rates"]) rfl rfl rfl (by decide +kernel)) rfl (gF (by rfl) tx.jH (aB (zq1 bA hr tx.bH tx.bD.kp tx.bG (aB (aD 0) (aB aC aA))) aA)) (λ_ _ _ _=>(aQ (i:=0) (show(["_law_k","_law_hand"]:List Str).Nodup by decide +kernel))) (cL (by decide)) (λ_ _ _ _=>bR) (λ_ _ _ _=>(zq1 fB hr tx.eZ tx.dW.kp tx.eY (aB (aD 1) aA)))) aA)))
   (aF (aN (aI bT (aD 1) (yC (d8 (k:=1) (idx:=[0]) (N:=["_law_rate","_law_hand"]) (d6 (sc:=aH bY) (NX:=["_law_hand","_law_spec_here","_law_rates"]) rfl rfl rfl (by decide +kernel)) rfl (bJ (K':=K) (aD 2)) (λ_ _ _ _=>(aQ (i:=0) (show(["_law_rate","_law_hand"]:List Str).Nodup by decide +kernel))) (cL (by decide)) (λ_ _ _ _=>bR) (λ_ _ _ _=>(aC8 (aJ (aCm rfl) (by rfl) tx.tW xA (aB aC (aB (zq1 fB hr tx.eZ tx.dW.kp tx.eY (aB (aD 1) aA)) aA))) (aD 0)))))))))) ?_
  refine bF (σ:=[some (.ref p),none,none]) rfl ?_
  walk_at "w"
  refine⟨p,_,rfl,hh,by decide,by decide,λr1 H1 a1 b1 h1 k1 _=>?_⟩
  walk_at "w"
  refine⟨p,_,rfl,h1,by decide,by decide,λr2 H2 a2 b2 h2 k2 _=>?_⟩
  walk_at "w"
  intro l0 nl0
  obtain⟨H3,i3,s3,g3⟩:=nw _ nl0;rw[i3]
  have l0p:l0≠p:=h2.xJ nl0
  walk_at "w"
  refine⟨by decide,by decide,?_⟩
  refine rV (n:=4) (λj us H'=>∃ns:List Int,us=ns.map V.int/\ns.length=j/\(∀n∈ns,Am n)/\bM H' p/\cJ p H3 H') ⟨[],rfl,rfl,(λ_ h=>by cases h),h2.same s3,aT.keep (aT.refl _)⟩ (aX (by decide))
   (λj us H' hj ⟨ns,e,l,_⟩=>by rw[e,cC];omega) (λj us H' hj z36q=>?_) (λus H' z37q=>?_)
  ·obtain⟨ns,e,l,a,hq,kq⟩:=z36q
   walk_at "w"
   refine⟨p,rfl,hq,λn H4 an h4 k4=>?_⟩
   walk_at "w"
   exact⟨ns ++ [n],by rw[e,o5];rfl,by rw[rA,l];rfl,λx hx=>by
    rcases Rb9.mp hx with z|z
    ·exact a x z
    ·rw[Rh9.mp z];exact an,h4,kq.trans k4⟩
  obtain⟨ns,e,l,a,hq,kq⟩:=z37q
  subst e
  intro l1 nl1
  obtain⟨H5,i5,s5,g5⟩:=nw _ nl1;rw[i5]
  walk_at "w"
  have K5:cJ p H3 H5:=kq.trans s5.keep
  have h5:=hq.same s5
  have g0:=K5 _ _ g3 l0p
  obtain⟨n1,n2,n3,n4,rfl⟩ : ∃n1 n2 n3 n4:Int,ns=[n1,n2,n3,n4]:=by
   match ns,l with
   |[a,b,c,d],_=>exact⟨a,b,c,d,rfl⟩
  refine dR g0 g5 (aX (by simp)) ?_
  intro l2 nl2
  obtain⟨H6,i6,s6,g6⟩:=nw _ nl2;rw[i6]
  have l2p:l2≠p:=h5.xJ nl2
  walk_at "w"
  refine⟨p,_,rfl,h5.same s6,by decide,by decide,λr7 H7 a7 b7 h7 k7 _=>?_⟩
  obtain⟨q7,rfl⟩:=Rz9 a7
  have g7:=k7 _ _ g6 l2p
  walk_at "w"
  refine⟨by omega,by omega,?_⟩
  rw[Sh9]
  refine rV (n:=q7) (λj us H'=>∃ns:List Int,us=ns.map V.int/\ns.length=j/\(∀n∈ns,Am n)/\bM H' p/\cJ p H7 H') ⟨[],rfl,rfl,(λ_ h=>by cases h),h7,aT.keep (aT.refl _)⟩ (aX (by omega))
   (λj us H' hj ⟨ns,e,l,_⟩=>by rw[e,cC];omega) (λj us H' hj z38q=>?_) (λus H8 z39q=>?_)
  ·obtain⟨ns,e,l,a,hq,kq⟩:=z38q
   walk_at "w"
   refine⟨p,rfl,hq,λn H4 an h4 k4=>?_⟩
   walk_at "w"
   exact⟨ns ++ [n],by rw[e,o5];rfl,by rw[rA,l];rfl,λx hx=>by
    rcases Rb9.mp hx with z|z
    ·exact a x z
    ·rw[Rh9.mp z];exact an,h4,kq.trans k4⟩
  obtain⟨rs,e,l8,a8,h8,k8⟩:=z39q
  subst e
  intro l9 nl9
  obtain⟨H9,i9,s9,g9⟩:=nw _ nl9;rw[i9]
  walk_at "w"
  refine aEa g9 (by omega) λlz zs nlz pz sz=>?_
  obtain⟨H10,i10,s10,g10⟩:=nw _ nlz;rw[i10]
  have lzp:lz≠p:=(h8.same s9).xJ nlz
  have h10:=h8.same (s9.trans s10)
  have lz8:=pz.length_eq
  walk_at "w"
  have hzA:∀n∈zs,Am n:=λn hn=>a8 n (pz.mem_iff.mp hn)
  refine gZ (bQ.of g10) ?_
  refine cP (xs:=zs.map V.int) (λj us H'=>∃(qs:List Addr) (ps:List (Int×Int)),us=qs.map V.ref/\xI H' qs ps/\ps.map (·.2)=zs.take j/\(∀t∈ps,1<=t.1/\Am t.1)/\bM H' p/\cJ p H10 H') ⟨[],[],rfl,⟨rfl,λj q t h=>by simp at h⟩,rfl,(λ_ h=>by cases h),h10,aT.keep (aT.refl _)⟩ (aX (by rw[cC];omega))
   (λj us H' hj ⟨qs,ps,e,t2,e2,_,_,kq⟩=>⟨bQ.of (kq _ _ g10 lzp),by
    have:=congrArg List.length e2
    rw[cC,tP] at this
    rw[e,cC,t2.len];omega⟩) (λj v us H' hv z40q=>?_) (λus H11 z41q=>?_)
  ·obtain⟨qs,ps,e,t2,e2,a,hq,kq⟩:=z40q
   obtain⟨n,hn,rfl⟩:=yU hv
   walk_at "w"
   refine⟨p,rfl,hq,λn' H4 an h4 k4=>?_⟩
   walk_at "w"
   intro T nT
   obtain⟨H5',i5',s5',g5'⟩:=nw _ nT;rw[i5']
   refine⟨qs ++ [T],ps ++ [(max 1 n',n)],by rw[e,o5];rfl,?_,by rw[o5,e2,take_snoc hn];rfl,λt ht=>?_,h4.same s5',(kq.trans k4).trans s5'.keep⟩
   ·have t3:=(t2.keep (λxs z=>hq.aG5 xs z) k4)
    refine⟨by rw[rA,rA,t2.len];rfl,λi q t h1 h2=>?_⟩
    by_cases hi:i < qs.length
    ·rw[Qy9 hi] at h1
     rw[Qy9 (by rw[<-t2.len];exact hi)] at h2
     exact s5' _ _ (t3.at_ i q t h1 h2)
    ·have hi2:i < (qs ++ [T]).length:=(wF.mp h1).1
     rw[rA,Rt9] at hi2
     have ei:i=qs.length:=by omega
     subst ei
     rw[Rd9 (iI _),So9] at h1
     rw[t2.len,Rd9 (iI _),So9] at h2
     cases h1
     cases h2
     exact g5'
   ·rcases Rb9.mp ht with z|z
    ·exact a t z
    ·rw[Rh9.mp z]
     obtain⟨b1,b2⟩:=an
     exact⟨by show 1<=max 1 n';omega,by show 0<=max 1 n';omega,by show max 1 n'<=_;omega⟩
  obtain⟨qs,ps,e,t2,e2,a11,h11,k11⟩:=z41q
  subst e
  rw[cC,Qx9] at e2
  have lps:ps.length=zs.length:=by have:=congrArg List.length e2;rwa[cC] at this
  intro pl npl
  obtain⟨H12,i12,s12,g12⟩:=nw _ npl;rw[i12]
  walk_at "w"
  intro l13 nl13
  obtain⟨H13,i13,s13,g13⟩:=nw _ nl13;rw[i13]
  have k713:cJ p H7 H13:=k8.trans ((s9.trans s10).keep.trans (k11.trans (s12.trans s13).keep))
  have h13:=h11.same (s12.trans s13)
  refine dR (k713 _ _ g7 l2p) g13 (aX (by simp)) ?_
  intro s14 ns14
  obtain⟨H14,i14,t14,g14⟩:=nw _ ns14;rw[i14]
  have K14:cJ p H H14:=k1.trans (k2.trans (s3.keep.trans (K5.trans (s6.keep.trans (k7.trans (k713.trans t14.keep))))))
  have u1:1<=1+r1/\1+r1<=12:=by omega
  have u2:1<=1+r2/\1+r2<=12:=by omega
  refine k s14 ⟨1+r1,1+r2,n1,n2,n3,n4,ps⟩ H14 ⟨pl,g14,⟨qs,(s13.trans t14) _ _ g12,⟨t2.len,λi q t x1 x2=>(s12.trans (s13.trans t14)) _ _ (t2.at_ i q t x1 x2)⟩⟩⟩ ⟨u1,u2,a n1 (by simp),a n2 (by simp),a n3 (by simp),a n4 (by simp),⟨by show ps.length<=4;omega,λt ht=>?_,λi t u x1 x2=>?_⟩⟩ ?_ (h13.same t14) K14
  ·obtain⟨c1,c2⟩:=a11 t ht
   exact⟨c1,c2,hzA _ (by rw[<-e2];exact Rk9.mpr ⟨t,ht,rfl⟩)⟩
  ·have y1:zs[i]?=some t.2:=by rw[<-e2,xV,x1];rfl
   have y2:zs[i+1]?=some u.2:=by rw[<-e2,xV,x2];rfl
   obtain⟨w1,z1⟩:=wF.mp y1
   obtain⟨w2,z2⟩:=wF.mp y2
   rw[<-z1,<-z2]
   exact List.pairwise_iff_getElem.mp sz i (i+1) w1 w2 (by omega)
  ·cases z:H s14 with
   |none=>rfl
   |some o=>
    have sp:s14≠p:=h13.xJ ns14
    have:=(k1.trans (k2.trans (s3.keep.trans (K5.trans (s6.keep.trans (k7.trans k713)))))) _ _ z sp
    rw[ns14] at this
    cases this
def aDC(K:PySem.W.Frag):Sp:=λvs H Q _=>∃p:Addr,vs=[.ref p]/\bM H p/\∀(a:Addr) (W:L9) H',zY H' a W->W.Good->H a=none->bM H' p->cJ p H H'->Q (.ref a) H'
theorem aDD{P:Program}{w:World}{K:PySem.W.Frag}{mg:Str->Option Value}{base:Heap}{a:sC}(tx:Txt K mg a):cT P w K mg base tZ 5 a.qD a.qE ["_law_hand"] (aDC K):=by
 have fB:=u6 (P:=P) (w:=w) (base:=base) tx
 have bA:=fW (P:=P) (w:=w) (base:=base) tx
 have wC:=u9 (P:=P) (w:=w) (base:=base) tx
 refine tx.uW.ok nR (λvs H Q E h=>?_) (λcdv A outer s H vs Q E hr h=>?_)
 ·obtain⟨p,rfl,_⟩:=h
  rfl
 ·obtain⟨p,rfl ,hh,k⟩:=h
  have hu:=tQ hr
  refine bP (aE (hR (k:=1) (idx:=[0]) (N:=["_law_k","_law_hand"]) (i:=1) nR.nd rfl (Or.inl rfl) (d6 (sc:=aH hX) (NX:=["_law_hand","_law_specs","_law_store"]) rfl rfl rfl (by decide +kernel)) rfl (gF (by rfl) tx.jH (aB (zq1 bA hr tx.bH tx.bD.kp tx.bG (aB (aD 0) (aB aC aA))) aA)) (λ_ _ _ _=>(aQ (i:=0) (show(["_law_k","_law_hand"]:List Str).Nodup by decide +kernel))) (cL (by decide)) (λ_ _ _ _=>bR) (λ_ _ _ _=>(zq1 wC hr tx.nL tx.iW.kp tx.nK (aB (aD 1) aA))))
   (aE (aM (i:=2) nR.nd bS)
   (aE (aZ (aL pC (zq1 bA hr tx.bH tx.bD.kp tx.bG (aB (aD 0) (aB aC aA))) aC (bB _)) (aF (aM (i:=2) nR.nd (aDa (zq1 bA hr tx.bH tx.bD.kp tx.bG (aB (aD 0) (aB aC aA))) (zq1 bA hr tx.bH tx.bD.kp tx.bG (aB (aD 0) (aB aC aA))) (zq1 bA hr tx.bH tx.bD.kp tx.bG (aB (aD 0) (aB aC aA))) (zq1 fB hr tx.eZ tx.dW.kp tx.eY (aB (aD 0) aA)) (zq1 fB hr tx.eZ tx.dW.kp tx.eY (aB (aD 0) aA))))) aP)
   (aF (aN (vQ (aD 1) (aD 2) (zq1 fB hr tx.eZ tx.dW.kp tx.eY (aB (aD 0) aA)))))))) ?_
  refine bF (σ:=[some (.ref p),none,none]) rfl ?_
  walk_at "w"
  refine⟨p,_,rfl,hh,by decide,by decide,λr1 H1 a1 b1 h1 k1 _=>?_⟩
  obtain⟨n1,rfl⟩:=Rz9 a1
  walk_at "w"
  refine⟨by omega,by omega,?_⟩
  rw[Sh9]
  refine rV (n:=n1) (λj us H'=>∃(qs:List Addr) (ms:List MS),us=qs.map V.ref/\RL (iF H') qs ms/\ms.length=j/\(∀m∈ms,m.Good)/\bM H' p/\cJ p H1 H') ⟨[],[],rfl,RL.nil,rfl,(λ_ h=>by cases h),h1,aT.keep (aT.refl _)⟩ (aX (by omega))
   (λj us H' hj ⟨qs,ms,e,r,l,_⟩=>by rw[e,cC,r.len];omega) (λj us H' hj z42q=>?_) (λus H2 z43q=>?_)
  ·obtain⟨qs,ms,e,r,l,g,hq,kq⟩:=z42q
   walk_at "w"
   refine⟨p,rfl,hq,λs m H3 hs hg ns h3 k3=>?_⟩
   walk_at "w"
   refine⟨qs ++ [s],ms ++ [m],by rw[e,o5];rfl,RL.snoc (r.imp λ_ _ z=>z.keep hq k3) hs,by rw[rA,l];rfl,λx hx=>?_,h3,kq.trans k3⟩
   rcases Rb9.mp hx with z|z
   ·exact g x z
   ·rw[Rh9.mp z];exact hg
  obtain⟨qs,ms,e,r,l,g,hq,kq⟩:=z43q
  subst e
  intro ls nls
  obtain⟨H3,i3,s3,g3⟩:=nw _ nls;rw[i3]
  have S3:aAy H3 ls ms:=⟨qs,g3,r.imp λ_ _ z=>z.same s3⟩
  have h3:=hq.same s3
  have K3:cJ p H H3:=k1.trans (kq.trans s3.keep)
  repeat walk_at "st"
  refine cY (λσ' H'=>σ'=[some (.ref p),some (.ref ls),some .non]/\H3=H') (λN hN=>?_) ?_
  ·walk_at "w"
   exact hN _ _ ⟨rfl,rfl⟩
  rintro σ' _ ⟨rfl,rfl⟩
  repeat walk_at "st"
  refine cY (λσ' H'=>∃(v:V) (o:Option S9),σ'=[some (.ref p),some (.ref ls),some v]/\SpA H' v o/\(∀s,o=some s->s.Good)/\bM H' p/\cJ p H3 H') (λN hN=>?_) ?_
  ·walk_at "w"
   refine⟨p,_,rfl,h3,by decide,by decide,λr4 H4 a4 b4 h4 k4 _=>?_⟩
   walk_at "w"
   refine bX (λ_=>?_) (λ_=>?_)
   ·walk_at "w"
    refine⟨p,_,rfl,h4,by decide,by decide,λc1 H5 x1 y1 h5 k5 _=>?_⟩
    walk_at "w"
    refine⟨p,_,rfl,h5,by decide,by decide,λc2 H6 x2 y2 h6 k6 _=>?_⟩
    walk_at "w"
    refine⟨p,_,rfl,h6,by decide,by decide,λc3 H7 x3 y3 h7 k7 _=>?_⟩
    walk_at "w"
    refine⟨p,rfl,h7,λc4 H8 m4 h8 k8=>?_⟩
    walk_at "w"
    refine⟨p,rfl,h8,λc5 H9 m5 h9 k9=>?_⟩
    walk_at "w"
    intro t nt
    obtain⟨H10,i10,s10,g10⟩:=nw _ nt;rw[i10]
    walk_at "w"
    have e1:0<=c1/\c1<=8:=by omega
    have e2:0<=c2/\c2<=8:=by omega
    have e3:0<=c3/\c3<=8:=by omega
    exact hN _ _ ⟨_,some ⟨c1,c2,c3,c4,c5⟩,rfl,⟨t,rfl,g10⟩,λs e=>by cases e;exact⟨e1,e2,e3,m4,m5⟩,h9.same s10,k4.trans (k5.trans (k6.trans (k7.trans (k8.trans (k9.trans s10.keep)))))⟩
   ·walk_at "w"
    exact hN _ _ ⟨_,none,rfl,rfl,(λ_ e=>by cases e),h4,k4⟩
  rintro σ' H4 ⟨v,o,rfl,hv,go,h4,k4⟩
  walk_at "w"
  refine⟨p,rfl,h4,λn H5 an h5 k5=>?_⟩
  walk_at "w"
  intro a na
  obtain⟨H6,i6,s6,g6⟩:=nw _ na;rw[i6]
  refine k a ⟨ms,o,n⟩ H6 ⟨ls,v,g6,((S3.keep h3 k4).keep h4 k5).same s6,(hv.keep h4 k5).same s6⟩ ⟨g,by show ms.length<=6;omega,go,an⟩ (aIy (K3.trans (k4.trans k5)) h5 na) (h5.same s6) (K3.trans (k4.trans (k5.trans s6.keep)))
def aDE(K:PySem.W.Frag)(C CM CS:Addr):Sp:=λvs H Q _=>∃(q:Addr) (W:L9),vs=[.ref q]/\zY H q W/\W.Good/\∀x H',aT H H'->aAH C CM CS H' x W->Q (.ref x) H'
theorem aDF{P:Program}{w:World}{K:PySem.W.Frag}{mg:Str->Option Value}{base:Heap}{a:sC}(tx:Txt K mg a):cT P w K mg base tZ 7 a.qF a.qG ["_law_spec_here"] (aDE K a.fJ a.bO a.cZ):=by
 have pR:=tX (P:=P) (w:=w) (base:=base) tx
 have tK:=wQ (P:=P) (w:=w) (base:=base) tx
 have tL:=wR (P:=P) (w:=w) (base:=base) tx
 refine tx.uX.ok kC (λvs H Q E h=>?_) (λcdv A outer s H vs Q E hr h=>?_)
 ·obtain⟨q,W,rfl,_⟩:=h
  rfl
 ·obtain⟨q,W,rfl ,hq,g,k⟩:=h
  have hu:=tQ hr
  refine bP (aE (aM (i:=1) kC.nd (vP aA))
   (aE (dZ PassesOwn.never rfl (bJ (K':=K) (aK (K':=K) (aD 0) aC)) (aQ (i:=2) kC.nd) (aF (xC (xD (K':=K) (aD 1) (aB (mT tx.zT (pR) (hr.mono (by decide)) (by rfl) tx.vW tx.pH .nil aFZ (aB (aK (K':=K) (aD 2) aC) (aB (aK (K':=K) (aD 2) aC) (aB (aK (K':=K) (aD 2) aC) (aB (aK (K':=K) (aD 2) aC) (aB (aK (K':=K) (aD 2) aC) (aB (aK (K':=K) (aD 2) aC) (aB (cB (rc:=vM K) rY (by rfl) tx.pM vK (aB (aK (K':=K) (aD 2) aC) aA)) aA)))))))) aA)))))
   (aE (aM (i:=3) kC.nd (aK (K':=K) (aD 0) aC))
   (aE (aZ (aL zJ (aD 3) bS (bB _)) (aF (aM (i:=3) kC.nd (mT tx.aDj (tK) (hr.mono (by decide)) (by rfl) tx.aAV tx.sV .nil aFZ (aB (aK (K':=K) (aD 3) aC) (aB (aK (K':=K) (aD 3) aC) (aB (aK (K':=K) (aD 3) aC) (aB (aK (K':=K) (aD 3) aC) (aB (aK (K':=K) (aD 3) aC) aA)))))))) aP)
   (aF (aN (mT tx.aDk (tL) (hr.mono (by decide)) (by rfl) tx.aAW tx.sW .nil aFZ (aB (aD 1) (aB (aD 3) (aB (aK (K':=K) (aD 0) aC) aA)))))))))) ?_
  obtain⟨ls,st,e0,⟨qs,e1,e2⟩,e3⟩:=hq.ex
  have lq:=e2.len
  have l6:=g.len
  refine bF (σ:=[some (.ref q),none,none,none]) rfl ?_
  walk_at "w"
  intro l1 n1
  obtain⟨H1,i1,s1,g1⟩:=nw _ n1;rw[i1]
  have e01:=s1 _ _ e0
  have e11:=s1 _ _ e1
  repeat walk_at "st"
  refine cY (λσ' H'=>∃(as:List Addr) (z:Option V),σ'=[some (.ref q),some (.ref l1),z,none]/\H' l1=some (.lst (as.map V.ref))/\RL (u5 a.bO l1 H') as W.ms/\aT H H') (λN hN=>?_) ?_
  ·walk_at "w"
   refine gZ (bQ.of e11) ?_
   refine yB (xs:=qs.map V.ref) (λi σ' H'=>∃(as:List Addr) (z:Option V),σ'=[some (.ref q),some (.ref l1),z,none]/\H' l1=some (.lst (as.map V.ref))/\RL (u5 a.bO l1 H') as (W.ms.take i)/\aT H H')
    ⟨[],_,rfl,g1,RL.nil,s1⟩ (λi σ' H' hi ⟨as,z,e,_,_,s⟩=>bQ.of (s _ _ e1)) (λi v σ' H' hv z44q=>?_) (λσ' H' z45q=>?_)
   ·obtain⟨as,z,e,gl,rl,s⟩:=z44q
    subst e
    obtain⟨q1,m1,eq1,rfl,em1,pl,hs,hp⟩:=e2.get hv
    have gm:=g.ms m1 (v9 em1)
    have i6:i < 6:=by have:=(wF.mp em1).1;omega
    have hs':=s _ _ hs
    have hp':=hp.same s
    obtain⟨qp,p1,p2⟩:=hp'.ex
    have lpc:=gm.pieces.len
    walk_at "w"
    refine aFb (bQ.of gl) ?_
    walk_at "w"
    refine yA (ys:=qp.map V.ref) (bQ.of p1) ?_
    intro l2 n2
    obtain⟨H2,i2,s2,g2⟩:=nw _ n2;rw[i2]
    walk_at "w"
    intro x dx nx ndx dxx
    have s6:=v8 (o1:=.own x) (o2:=.ins a.bO dx []) nx ndx
    refine⟨x,dx,l2,m1,rfl,aO,mU.same ⟨qp,g2,p2.same s2⟩ s6,by omega,λ_ d7 p7 H7 m1' m2' np7 k7=>⟨rfl,?_⟩,λhg=>absurd (rJ.mpr gm) (by rw[hg];decide)⟩
    have S7:aT H' H7:=s2.trans (o9 nx s6 k7)
    have gl7:=S7 _ _ gl
    have np7':p7≠l1:=Ne.symm (cQ np7 ((s2.trans s6) _ _ gl))
    have al:as.length=i:=by rw[rl.len,tP];have:=(wF.mp em1).1;omega
    walk_at "w"
    refine aFc (xs:=as.map V.ref) gl7 (xU (by rw[cC];omega:(as.map V.ref).length < 2000) (aX (by simp))) ?_
    obtain⟨H8,i8,k8,w8⟩:=wr H7 l1 _;rw[i8]
    walk_at "w"
    refine⟨as ++ [x],_,rfl,by rw[w8,o5];rfl,?_,λb o e=>k8 _ _ (S7 _ _ (s _ _ e)) (cQ n1 e)⟩
    rw[take_snoc em1]
    exact((rl.imp λ_ _ z=>(z.same S7).wr gl7 k8)).snoc (u5.wr ⟨d7,p7,m1',m2',np7'⟩ gl7 k8)
   ·obtain⟨as,z,e,gl,rl,s⟩:=z45q
    subst e
    rw[cC,lq,Qx9] at rl
    exact hN _ _ ⟨as,z,rfl,gl,rl,s⟩
  rintro σ2 H2 ⟨as,z,rfl,gl,rl,s⟩
  have e02:=s _ _ e0
  refine cY (λσ' H'=>σ'=[some (.ref q),some (.ref l1),z,some st]/\H'=H2) (λN hN=>?_) ?_
  ·walk_at "w"
   exact hN _ _ ⟨rfl,rfl⟩
  rintro σ2' H2' ⟨rfl,rfl⟩
  refine cY (λσ' H'=>∃v,σ'=[some (.ref q),some (.ref l1),z,some v]/\StA a.cZ H' v W.st/\aT H2' H') (λN hN=>?_) ?_
  ·cases eS:W.st with
   |none=>
    rw[eS] at e3 hN
    replace e3:st=.non:=e3
    subst e3
    walk_at "w"
    exact hN _ _ ⟨_,rfl,rfl,aT.refl _⟩
   |some sx=>
    rw[eS] at e3 hN
    have gs:=g.st sx eS
    obtain⟨b,rfl,hb⟩:=e3
    have hb2:H2' b=some (.lst [.int sx.cap,.int sx.into,.int sx.out,.int sx.takes,.int sx.gives]):=s _ _ hb
    walk_at "w"
    intro x dx nx ndx dxx
    have s6:=v8 (o1:=.own x) (o2:=.ins a.cZ dx []) nx ndx
    refine⟨x,dx,sx,rfl,aO,λ_ H7 hM k7=>⟨rfl,?_⟩,λhg=>absurd (tJ.mpr gs) (by rw[hg];decide)⟩
    walk_at "w"
    exact hN _ _ ⟨_,rfl,⟨x,rfl,hM⟩,o9 nx s6 k7⟩
  rintro σ3 H3 ⟨v,rfl,hv,s3⟩
  have e03:=s3 _ _ e02
  walk_at "w"
  intro x dx nx ndx dxx
  have s6:=v8 (o1:=.own x) (o2:=.ins a.fJ dx []) nx ndx
  exact⟨x,dx,l1,as,v,W,rfl,aO,(s3.trans s6) _ _ gl,rl.imp λ_ _ z=>(z.same (s3.trans s6)).at_,hv.same s6,by omega,λ_ H7 hM k7=>⟨rfl,k x H7 ((s.trans s3).trans (o9 nx s6 k7)) hM⟩,λhg=>absurd (aEy g) (by rw[hg];decide)⟩
theorem join_snoc(s:Str):∀{us:List Str}(v:Str),us≠[]->Str.join s (us ++ [v])=Str.join s us++s++v
 |[],_,h=>absurd rfl h
 |[u],v,_=>rfl
 |u::w::r,v,_=>by
  show u++s++Str.join s (w::r ++ [v])=u++s++Str.join s (w::r)++s++v
  rw[join_snoc s v (by simp)]
  simp only[Str.append_assoc]
def lnP(ps:List Str)(a:Str):Str:=ps.foldl (λa p=>a++p++Str.ofString "; ") a
theorem aIJ(ps:List Str)(p a:Str):lnP (ps ++ [p]) a=lnP ps a++p++Str.ofString "; ":=by
 unfold lnP
 rw[List.foldl_append]
 rfl
theorem aEz(s l:Str):∀(ps:List Str) (a:Str),lnP ps a++s++Str.ofString "; " ++ l=a++Str.join (Str.ofString "; ") (ps ++ [s,l])
 |[],a=>by
  show a++s++Str.ofString "; " ++ l=a++(s++Str.ofString "; " ++ l)
  simp only[Str.append_assoc]
 |m::r,a=>by
  show lnP r (a++m++Str.ofString "; ")++s++Str.ofString "; " ++ l=_
  rw[aEz s l r]
  have e:Str.join (Str.ofString "; ") (m::r ++ [s,l])=m++Str.ofString "; " ++ Str.join (Str.ofString "; ") (r ++ [s,l]):=by
   cases r with
   |nil=>rfl
   |cons y r=>rfl
  rw[e]
  simp only[Str.append_assoc]
theorem aGg:∀(ps:List Str) (a:Str),(∀p∈ps,p.length<=420)->(lnP ps a).length<=a.length+422*ps.length
 |[],a,_=>Nat.le_add_right _ _
 |w::r,a,h=>by
  have ih:=aGg r (a++w++Str.ofString "; ") λz hz=>h z (Qr9 _ hz)
  have hw:=h w (.head _)
  show(lnP r (a++w++Str.ofString "; ")).length<=_
  rw[Str.length_append,Str.length_append,show(Str.ofString "; ").length=2 by decide] at ih
  rw[Re9]
  omega
theorem aCM{m:MS}(g:m.Good):(kU m).length<=420:=(mW (rL g) (aAZ g)).2
def lnW(ms:List MS):Str:=lnP (ms.map kU) (Str.ofString "")
theorem aIK(ms:List MS)(m:MS):lnW (ms ++ [m])=lnW ms++kU m++Str.ofString "; ":=by
 unfold lnW
 rw[o5]
 exact aIJ _ _ _
theorem aIL(W:L9):lnW W.ms++rK W.st++Str.ofString "; lack " ++ sN W.lack=jX W:=by
 rw[show Str.ofString "; lack " = Str.ofString "; " ++ Str.ofString "lack " by decide,<-Str.append_assoc,Str.append_assoc _ _ (sN W.lack)]
 unfold lnW
 rw[aEz]
 exact Str.empty_append _
theorem aGh{ms:List MS}(h:∀m∈ms,m.Good):(lnW ms).length<=422*ms.length:=by
 have:=aGg (ms.map kU) (Str.ofString "") λp hp=>by
  obtain⟨m,hm,rfl⟩:=Rk9.mp hp
  exact aCM (h m hm)
 rw[cC,show(Str.ofString "").length=0 by decide,Nat.zero_add] at this
 exact this
def mJ(m:MS)(j:Nat):Str:=Str.join (Str.ofString " ") (m.six.map sN++(m.pieces.take j).map pcS)
theorem aMr{m:MS}(g:m.Good)(j:Nat):(mJ m j).length<=420:=by
 refine(mW (λw hw=>?_) ?_).2
 ·rcases Rb9.mp hw with h|h
  ·exact rL g w (Ro9 _ h)
  ·obtain⟨t,ht,rfl⟩:=Rk9.mp h
   exact aGe (g.pieces.pc t (Sf9 ht))
 ·have:=aAZ g
  unfold mWs at this
  rw[rA,cC] at *
  rw[cC,tP]
  rw[cC] at this
  omega
theorem aKn{m:MS}{j:Nat}{t:Int×Int}(h:m.pieces[j]?=some t):mJ m (j+1)=mJ m j++Str.ofString " " ++ sN t.1++Str.ofString ":" ++ sN t.2:=by
 unfold mJ
 rw[take_snoc h,o5,<-List.append_assoc]
 rw[show List.map pcS [t]=[pcS t] from rfl,join_snoc _ _ (by simp[MS.six])]
 unfold pcS
 simp only[Str.append_assoc]
theorem aMs(m:MS):mJ m m.pieces.length=kU m:=by unfold mJ;rw[Qx9];rfl
def aDG(K:PySem.W.Frag):Sp:=λvs H Q _=>∃(q:Addr) (W:L9),vs=[.ref q]/\zY H q W/\W.Good/\∀H',aT H H'->Q (.str (jX W)) H'
theorem aDH{P:Program}{w:World}{K:PySem.W.Frag}{mg:Str->Option Value}{base:Heap}{a:sC}(tx:Txt K mg a):cT P w K mg base tZ 1 a.qH a.qI ["_law_spec_here"] (aDG K):=by
 refine tx.uY.ok dG (λvs H Q E h=>?_) (λcdv A outer s H vs Q E hr h=>?_)
 ·obtain⟨q,W,rfl,_⟩:=h
  rfl
 ·obtain⟨q,W,rfl ,hq,g,k⟩:=h
  have hu:=tQ hr
  refine bP (aE (aM (i:=1) dG.nd aR)
   (aE (dZ PassesOwn.never rfl (bJ (K':=K) (aK (K':=K) (aD 0) aC)) (aQ (i:=2) dG.nd) (aE (aM (i:=1) dG.nd (aI (r:=iZ) dO (aD 1) (eT (K':=K) aR (aB (d8 (k:=1) (idx:=[]) (N:=["_law_word"]) (d6 (sc:=aH fN) (NX:=["_law_spec_here","_law_line_here","_law_one","_law_amount_here","_law_rate"]) rfl rfl rfl (by decide +kernel)) rfl (bJ (K':=K) (aS (rs:=kY K) mR (aD 2) aY (aW aC))) (λ_ _ _ _=>(aQ (i:=0) (show(["_law_word"]:List Str).Nodup by decide +kernel))) (cL (by decide)) (λ_ _ _ _=>bR) (λ_ _ _ _=>(cB (rc:=yD) jR (by rfl) tx.rF uF (aB (aD 0) aA)))) aA))))
   (aE (dZ PassesOwn.never rfl (bJ (K':=K) (aK (K':=K) (aD 2) aC)) (jN (K':=K) (n:=2) rfl (cI (aQ (i:=3) dG.nd) (cI (aQ (i:=4) dG.nd) jM))) (aF (aM (i:=1) dG.nd (aI (r:=iZ) dO (aI (r:=iZ) dO (aI (r:=iZ) dO (aI (r:=iZ) dO (aD 1) aR) (cB (rc:=yD) jR (by rfl) tx.rF uF (aB (aD 3) aA))) aR) (cB (rc:=yD) jR (by rfl) tx.rF uF (aB (aD 4) aA))))))
   (aF (aM (i:=1) dG.nd (aI (r:=iZ) dO (aD 1) aR))))))
   (aE (aZ (aL aBc (aK (K':=K) (aD 0) aC) bS (bB _)) (aF (aM (i:=1) dG.nd (aI (r:=iZ) dO (aD 1) aR))) (aF (aM (i:=1) dG.nd (aI (r:=iZ) dO (aI (r:=iZ) dO (aD 1) aR) (eT (K':=K) aR (aB (d8 (k:=1) (idx:=[]) (N:=["_law_word"]) (d6 (sc:=aH fN) (NX:=["_law_spec_here","_law_line_here","_law_one","_law_amount_here","_law_rate"]) rfl rfl rfl (by decide +kernel)) rfl (bJ (K':=K) (aK (K':=K) (aD 0) aC)) (λ_ _ _ _=>(aQ (i:=0) (show(["_law_word"]:List Str).Nodup by decide +kernel))) (cL (by decide)) (λ_ _ _ _=>bR) (λ_ _ _ _=>(cB (rc:=yD) jR (by rfl) tx.rF uF (aB (aD 0) aA)))) aA))))))
   (aF (aN (aI (r:=iZ) dO (aI (r:=iZ) dO (aD 1) aR) (cB (rc:=yD) jR (by rfl) tx.rF uF (aB (aK (K':=K) (aD 0) aC) aA)))))))) ?_
  obtain⟨ls,st,e0,⟨qs,e1,e2⟩,e3⟩:=hq.ex
  have lq:=e2.len
  have l6:=g.len
  have z2:(Str.ofString "; ").length=2:=by decide
  have z1:(Str.ofString " ").length=1:=by decide
  have z1':(Str.ofString ":").length=1:=by decide
  refine bF (σ:=[some (.ref q),none,none,none,none]) rfl ?_
  refine cY (λσ' H'=>σ'=[some (.ref q),some (.str (Str.ofString "")),none,none,none]/\H'=H) (λN hN=>?_) ?_
  ·walk_at "w"
   exact hN _ _ ⟨rfl,rfl⟩
  rintro σ1 H1 ⟨rfl,rfl⟩
  refine cY (λσ' H'=>∃(x y z:Option V),σ'=[some (.ref q),some (.str (lnW W.ms)),x,y,z]/\aT H1 H') (λN hN=>?_) ?_
  ·walk_at "w"
   refine gZ (bQ.of e1) ?_
   refine yB (xs:=qs.map V.ref) (λi σ' H'=>∃(x y z:Option V),σ'=[some (.ref q),some (.str (lnW (W.ms.take i))),x,y,z]/\aT H1 H')
    ⟨_,_,_,rfl,aT.refl _⟩ (λi σ' H' hi ⟨x,y,z,e,s⟩=>bQ.of (s _ _ e1)) (λi v σ' H' hv z46q=>?_) (λσ' H' z47q=>?_)
   ·obtain⟨x,y,z,e,s⟩:=z46q
    subst e
    obtain⟨q1,m1,eq1,rfl,em1,pl,hs,hp⟩:=e2.get hv
    have gm:=g.ms m1 (v9 em1)
    have i6:i < 6:=by have:=(wF.mp em1).1;omega
    have lA:(lnW (W.ms.take i)).length<=2532:=by
     have:=aGh (ms:=W.ms.take i) λm hm=>g.ms m (Sf9 hm)
     rw[tP] at this
     omega
    have eA:=aIK (W.ms.take i) m1
    rw[<-take_snoc em1] at eA
    generalize lnW (W.ms.take i)=A at lA eA
    have hs':=s _ _ hs
    obtain⟨qp,p1,p2⟩:=hp.ex
    have lpc:=gm.pieces.len
    have lqp:=p2.len
    have lJ:=aMr gm
    repeat walk_at "st"
    refine cY (λσ' H'=>∃(y z:Option V),σ'=[some (.ref q),some (.str (A++mJ m1 0)),some (.ref q1),y,z]/\aT H1 H') (λN hN=>?_) ?_
    ·walk_at "w"
     refine⟨rfl,?_⟩
     walk_at "w"
     refine cW (bQ.of hs') ?_
     rw[show gX [V.int m1.up,.int m1.down,.int m1.begin_,.int m1.run,.int m1.rest,.int m1.least,.ref pl] none (some 6)=m1.six.map V.int from rfl]
     intro l2 n2
     obtain⟨H2,i2,s2,g2⟩:=nw _ n2;rw[i2]
     refine gZ (bQ.of g2) ?_
     refine cP (xs:=m1.six.map V.int) (λj us H'=>H'=H2/\us=((m1.six.take j).map sN).map V.str) ⟨rfl,rfl⟩ (aX (by simp[MS.six]))
      (λj us H' hj ⟨e0,e1⟩=>⟨by rw[e0];exact bQ.of g2,by rw[e1,cC,cC,tP];omega⟩) (λj v us H' hv z48q=>?_) (λus H' z49q=>?_)
     ·obtain⟨e0,e1⟩:=z48q
      subst e0
      obtain⟨n,en,rfl⟩:=yU hv
      walk_at "w"
      refine⟨n,rfl,(gm.six n (v9 en)).log,rfl,?_⟩
      rw[e1,take_snoc en,o5,o5]
      rfl
     obtain⟨e0,e1⟩:=z49q
     subst e0 e1
     rw[cC,Qx9]
     intro l3 n3
     obtain⟨H3,i3,s3,g3⟩:=nw _ n3;rw[i3]
     walk_at "w"
     refine⟨_,l3,m1.six.map sN,rfl,rfl,bQ.of g3,(mW (λw hw=>rL gm w (Ro9 _ hw)) (by simp[MS.six])).1,?_⟩
     have lj0:=lJ 0
     have ej:Txt.join (Str.ofString " ") (m1.six.map sN)=mJ m1 0:=by
      show Builtin.Str.glued _ _=_
      rw[StrLaws.glued_eq_join]
      unfold mJ
      rw[List.take_zero,List.map_nil,Ry9]
     rw[ej]
     refine⟨_,_,rfl,rfl,aX (by omega),?_⟩
     walk_at "w"
     exact hN _ _ ⟨_,_,rfl,s.trans (s2.trans s3)⟩
    rintro σ2 H2 ⟨y2,z2',rfl,s2⟩
    have hs2:=s2 _ _ hs
    have p12:=s2 _ _ p1
    have p22:=p2.same s2
    refine cY (λσ' H'=>∃(y z:Option V),σ'=[some (.ref q),some (.str (A++kU m1)),some (.ref q1),y,z]/\aT H1 H') (λN hN=>?_) ?_
    ·walk_at "w"
     refine gZ (bQ.of p12) ?_
     refine yB (xs:=qp.map V.ref) (λi σ' H'=>∃(y z:Option V),σ'=[some (.ref q),some (.str (A++mJ m1 i)),some (.ref q1),y,z]/\H'=H2)
      ⟨_,_,rfl,rfl⟩ (λi σ' H' hi ⟨y,z,e,s⟩=>by rw[s];exact bQ.of p12) (λi v σ' H' hv z50q=>?_) (λσ' H' z51q=>?_)
     ·obtain⟨y,z,e,s⟩:=z50q
      subst e s
      rw[xV] at hv
      obtain⟨qt,eqt,rfl⟩:=Qt9.mp hv
      have lj:i < m1.pieces.length:=by rw[<-lqp];exact(wF.mp eqt).1
      have ep:m1.pieces[i]?=some m1.pieces[i]:=tO lj
      have et:=p22.at_ i qt _ eqt ep
      have gp:=gm.pieces.pc _ (v9 ep)
      have es:=aKn ep
      generalize m1.pieces[i]=t at et gp es
      have w1:=gp.2.1.len
      have w2:=gp.2.2.len
      have lji:=lJ i
      refine rX (mY.of et) rfl ?_
      walk_at "w"
      refine⟨_,_,rfl,rfl,aX (by rw[Str.length_append];omega),?_⟩
      walk_at "w"
      refine⟨_,rfl,gp.2.1.log,?_⟩
      walk_at "w"
      refine⟨_,_,rfl,rfl,aX (by rw[Str.length_append,Str.length_append];show _+(sN t.1).length<=_;omega),?_⟩
      walk_at "w"
      refine⟨_,_,rfl,rfl,aX (by rw[Str.length_append,Str.length_append,Str.length_append];show _+(sN t.1).length+_<=_;omega),?_⟩
      walk_at "w"
      refine⟨_,rfl,gp.2.2.log,?_⟩
      walk_at "w"
      refine⟨_,_,rfl,rfl,aX (by rw[Str.length_append,Str.length_append,Str.length_append,Str.length_append];show _+(sN t.1).length+_+(sN t.2).length<=_;omega),?_⟩
      walk_at "w"
      refine⟨some (.int t.1),some (.int t.2),?_,rfl⟩
      rw[es,<-Str.append_assoc,<-Str.append_assoc,<-Str.append_assoc,<-Str.append_assoc]
     ·obtain⟨y,z,e,s⟩:=z51q
      subst e s
      rw[cC,lqp,aMs]
      exact hN _ _ ⟨_,_,rfl,s2⟩
    rintro σ3 H3 ⟨y3,z3,rfl,s3⟩
    have lm:=aCM gm
    walk_at "w"
    refine⟨_,_,rfl,rfl,aX (by rw[Str.length_append];omega),?_⟩
    walk_at "w"
    exact⟨_,_,_,by rw[eA],s3⟩
   ·obtain⟨x,y,z,e,s⟩:=z47q
    subst e
    rw[cC,lq,Qx9]
    exact hN _ _ ⟨_,_,_,rfl,s⟩
  rintro σ2 H2 ⟨x,y,z,rfl,s⟩
  have e02:=s _ _ e0
  have lA:(lnW W.ms).length<=2532:=by
   have:=aGh (ms:=W.ms) g.ms
   omega
  have eS:=aIL W
  have lS:=aCK g
  have gl:=g.lack.len
  generalize lnW W.ms=A at lA eS
  refine cY (λσ' H'=>σ'=[some (.ref q),some (.str (A++rK W.st)),x,y,z]/\aT H1 H') (λN hN=>?_) ?_
  ·cases eo:W.st with
   |none=>
    rw[eo] at e3 hN
    replace e3:st=.non:=e3
    subst e3
    walk_at "w"
    refine⟨_,_,rfl,rfl,aX (by rw[show(Str.ofString "none").length=4 by decide];omega),?_⟩
    walk_at "w"
    exact hN _ _ ⟨rfl,s⟩
   |some sx=>
    rw[eo] at e3 hN
    have gs:=g.st sx eo
    obtain⟨b,rfl,hb⟩:=e3
    have hb2:H2 b=some (.lst (sx.vals.map V.int)):=s _ _ hb
    walk_at "w"
    refine⟨_,_,rfl,rfl,aX (by rw[show(Str.ofString "store ").length=6 by decide];omega),?_⟩
    walk_at "w"
    refine⟨rfl,?_⟩
    walk_at "w"
    refine gZ (bQ.of hb2) ?_
    refine cP (xs:=sx.vals.map V.int) (λj us H'=>H'=H2/\us=((sx.vals.take j).map sN).map V.str) ⟨rfl,rfl⟩ (aX (by simp[S9.vals]))
     (λj us H' hj ⟨e0,e1⟩=>⟨by rw[e0];exact bQ.of hb2,by rw[e1,cC,cC,tP];omega⟩) (λj v us H' hv z52q=>?_) (λus H' z53q=>?_)
    ·obtain⟨e0,e1⟩:=z52q
     subst e0
     obtain⟨n,en,rfl⟩:=yU hv
     walk_at "w"
     refine⟨n,rfl,(gs.am n (v9 en)).log,rfl,?_⟩
     rw[e1,take_snoc en,o5,o5]
     rfl
    obtain⟨e0,e1⟩:=z53q
    subst e0 e1
    rw[cC,Qx9]
    intro l3 n3
    obtain⟨H3,i3,s3,g3⟩:=nw _ n3;rw[i3]
    have jo:=mW (ws:=sx.vals.map sN) (λw hw=>z8 gs w (.tail _ hw)) (by simp[S9.vals])
    walk_at "w"
    refine⟨_,l3,sx.vals.map sN,rfl,rfl,bQ.of g3,jo.1,?_⟩
    have ej:A++Str.ofString "store " ++ Txt.join (Str.ofString " ") (sx.vals.map sN)=A++rK (some sx):=by
     show A++Str.ofString "store " ++ Builtin.Str.glued _ _=_
     rw[StrLaws.glued_eq_join,Str.append_assoc]
     congr 1
    have jl:=jo.2
    rw[<-StrLaws.glued_eq_join] at jl
    replace jl:(Txt.join (Str.ofString " ") (sx.vals.map sN)).length<=420:=jl
    refine⟨_,_,rfl,rfl,aX (by rw[Str.length_append,show(Str.ofString "store ").length=6 by decide];omega),?_⟩
    rw[ej]
    walk_at "w"
    exact hN _ _ ⟨rfl,s.trans s3⟩
  rintro σ3 H3 ⟨rfl,s3⟩
  have e03:=s3 _ _ e0
  walk_at "w"
  refine⟨_,_,rfl,rfl,aX (by rw[Str.length_append,show(Str.ofString "; lack ").length=7 by decide];omega),?_⟩
  walk_at "w"
  refine⟨_,rfl,g.lack.log,?_⟩
  walk_at "w"
  refine⟨_,_,rfl,rfl,aX (by rw[Str.length_append,Str.length_append,show(Str.ofString "; lack ").length=7 by decide];show _+(sN W.lack).length<=_;omega),?_⟩
  have z:=k H3 s3
  rw[<-eS] at z
  exact z
def vA(l:Addr)(H:Hp)(q:Addr)(m:MS):Prop:=∃pl,H q=some (.lst [.int m.up,.int m.down,.int m.begin_,.int m.run,.int m.rest,.int m.least,.ref pl])/\mU H pl m.pieces/\pl≠l/\q≠l
theorem vA.same{l:Addr}{H H':Hp}{q:Addr}{m:MS}(h:vA l H q m)(s:aT H H'):vA l H' q m:=let ⟨pl,a,b,c,d⟩:=h;⟨pl,s _ _ a,b.same s,c,d⟩
theorem vA.wr{l:Addr}{H H':Hp}{q:Addr}{m:MS}{xs:List V}(h:vA l H q m)(hl:H l=some (.lst xs))(k:cJ l H H'):vA l H' q m:=by
 obtain⟨pl,a,b,c,d⟩:=h
 exact⟨pl,k _ _ a d,b.wr hl c k,c,d⟩
theorem vA.at_{l:Addr}{H:Hp}{q:Addr}{m:MS}(h:vA l H q m):iF H q m:=let ⟨pl,a,b,_,_⟩:=h;⟨pl,a,b⟩
def aBE(K:PySem.W.Frag)(C CM CS:Addr):Sp:=λvs H Q _=>∃(x:Addr) (W:L9),vs=[.ref x]/\aAH C CM CS H x W/\W.Good/\∀a H',aT H H'->zY H' a W->Q (.ref a) H'
theorem vB{P:Program}{w:World}{K:PySem.W.Frag}{mg:Str->Option Value}{base:Heap}{a:sC}(tx:Txt K mg a):cT P w K mg base tZ 1 a.mB a.mC ["_law_works"] (aBE K a.fJ a.bO a.cZ):=by
 refine tx.mF.ok iC (λvs H Q E h=>?_) (λcdv A outer s H vs Q E hr h=>?_)
 ·obtain⟨x,W,rfl,_⟩:=h
  rfl
 ·obtain⟨x,W,rfl ,hx,g,k⟩:=h
  have hu:=tQ hr
  refine bP (aE (aM (i:=1) iC.nd (vP aA))
   (aE (dZ PassesOwn.never rfl (bJ (K':=K) (bC (K':=K) (aD 0) rfl)) (aQ (i:=2) iC.nd) (aF (xC (xD (K':=K) (aD 1) (aB (aJU (bC (K':=K) (aD 2) rfl) (bC (K':=K) (aD 2) rfl) (bC (K':=K) (aD 2) rfl) (bC (K':=K) (aD 2) rfl) (bC (K':=K) (aD 2) rfl) (bC (K':=K) (aD 2) rfl) (cB (rc:=vM K) rY (by rfl) tx.pM vK (aB (bC (K':=K) (aD 2) rfl) aA))) aA)))))
   (aE (aM (i:=3) iC.nd (bC (K':=K) (aD 0) rfl))
   (aE (aZ (aL zJ (aD 3) bS (bB _)) (aF (aM (i:=3) iC.nd (aDa (bC (K':=K) (aD 3) rfl) (bC (K':=K) (aD 3) rfl) (bC (K':=K) (aD 3) rfl) (bC (K':=K) (aD 3) rfl) (bC (K':=K) (aD 3) rfl)))) aP)
   (aF (aN (vQ (aD 1) (aD 3) (bC (K':=K) (aD 0) rfl)))))))) ?_
  obtain⟨dx,lm,as,st,e0,e1,e2,e3⟩:=hx.ex
  have la:=e2.len
  have l6:=g.len
  refine bF (σ:=[some (.ref x),none,none,none]) rfl ?_
  walk_at "w"
  intro l1 n1
  obtain⟨H1,i1,s1,g1⟩:=nw _ n1;rw[i1]
  have e01:=s1 _ _ e0
  have e11:=s1 _ _ e1
  repeat walk_at "st"
  refine cY (λσ' H'=>∃(qs:List Addr) (z:Option V),σ'=[some (.ref x),some (.ref l1),z,none]/\H' l1=some (.lst (qs.map V.ref))/\RL (vA l1 H') qs W.ms/\aT H H') (λN hN=>?_) ?_
  ·walk_at "w"
   refine cR e01 tx.kQ tx.iU rfl ?_
   refine gZ (bQ.of e11) ?_
   refine yB (xs:=as.map V.ref) (λi σ' H'=>∃(qs:List Addr) (z:Option V),σ'=[some (.ref x),some (.ref l1),z,none]/\H' l1=some (.lst (qs.map V.ref))/\RL (vA l1 H') qs (W.ms.take i)/\aT H H')
    ⟨[],_,rfl,g1,RL.nil,s1⟩ (λi σ' H' hi ⟨as,z,e,_,_,s⟩=>bQ.of (s _ _ e1)) (λi v σ' H' hv z54q=>?_) (λσ' H' z55q=>?_)
   ·obtain⟨qs,z,e,gl,rl,s⟩:=z54q
    subst e
    obtain⟨q1,m1,eq1,rfl,em1,dq,pl,hs,hp⟩:=e2.get hv
    have i6:i < 6:=by have:=(wF.mp em1).1;omega
    have hs':=s _ _ hs
    have hp':=hp.same s
    obtain⟨qp,p1,p2⟩:=hp'.ex
    walk_at "w"
    refine aFb (bQ.of gl) ?_
    walk_at "w"
    refine cR hs' tx.cA tx.oX rfl ?_
    walk_at "w"
    refine cR hs' tx.cA tx.kO rfl ?_
    walk_at "w"
    refine cR hs' tx.cA tx.jF rfl ?_
    walk_at "w"
    refine cR hs' tx.cA tx.mH rfl ?_
    walk_at "w"
    refine cR hs' tx.cA tx.kP rfl ?_
    walk_at "w"
    refine cR hs' tx.cA tx.jG rfl ?_
    walk_at "w"
    refine cR hs' tx.cA tx.iT rfl ?_
    walk_at "w"
    refine yA (ys:=qp.map V.ref) (bQ.of p1) ?_
    intro l2 n2
    obtain⟨H2,i2,s2,g2⟩:=nw _ n2;rw[i2]
    walk_at "w"
    intro l3 n3
    obtain⟨H3,i3,s3,g3⟩:=nw _ n3;rw[i3]
    have S3:aT H' H3:=s2.trans s3
    have gl3:=S3 _ _ gl
    have n21:l2≠l1:=Ne.symm (cQ n2 gl)
    have n31:l3≠l1:=Ne.symm (cQ n3 (s2 _ _ gl))
    have al:qs.length=i:=by rw[rl.len,tP];have:=(wF.mp em1).1;omega
    walk_at "w"
    refine aFc (xs:=qs.map V.ref) gl3 (xU (by rw[cC];omega:(qs.map V.ref).length < 2000) (aX (by simp))) ?_
    obtain⟨H8,i8,k8,w8⟩:=wr H3 l1 _;rw[i8]
    walk_at "w"
    refine⟨qs ++ [l3],_,rfl,by rw[w8,o5];rfl,?_,λb o e=>k8 _ _ (S3 _ _ (s _ _ e)) (cQ n1 e)⟩
    rw[take_snoc em1]
    exact((rl.imp λ_ _ z=>(z.same S3).wr gl3 k8)).snoc (vA.wr ⟨l2,g3,⟨qp,s3 _ _ g2,(p2.same s2).same s3⟩,n21,n31⟩ gl3 k8)
   ·obtain⟨qs,z,e,gl,rl,s⟩:=z55q
    subst e
    rw[cC,la,Qx9] at rl
    exact hN _ _ ⟨qs,z,rfl,gl,rl,s⟩
  rintro σ2 H2 ⟨qs,z,rfl,gl,rl,s⟩
  have e02:=s _ _ e0
  refine cY (λσ' H'=>σ'=[some (.ref x),some (.ref l1),z,some st]/\H'=H2) (λN hN=>?_) ?_
  ·walk_at "w"
   refine cR e02 tx.kQ tx.mL rfl ?_
   walk_at "w"
   exact hN _ _ ⟨rfl,rfl⟩
  rintro σ2' H2' ⟨rfl,rfl⟩
  refine cY (λσ' H'=>∃v,σ'=[some (.ref x),some (.ref l1),z,some v]/\SpA H' v W.st/\aT H2' H') (λN hN=>?_) ?_
  ·cases eS:W.st with
   |none=>
    rw[eS] at e3 hN
    replace e3:st=.non:=e3
    subst e3
    walk_at "w"
    exact hN _ _ ⟨_,rfl,rfl,aT.refl _⟩
   |some sx=>
    rw[eS] at e3 hN
    obtain⟨b,rfl,db,hb⟩:=e3
    have hb2:=s _ _ hb
    walk_at "w"
    refine cR hb2 tx.eW tx.qL rfl ?_
    walk_at "w"
    refine cR hb2 tx.eW tx.oY rfl ?_
    walk_at "w"
    refine cR hb2 tx.eW tx.qM rfl ?_
    walk_at "w"
    refine cR hb2 tx.eW tx.mI rfl ?_
    walk_at "w"
    refine cR hb2 tx.eW tx.mK rfl ?_
    walk_at "w"
    intro l3 n3
    obtain⟨H3,i3,s3,g3⟩:=nw _ n3;rw[i3]
    walk_at "w"
    exact hN _ _ ⟨_,rfl,⟨l3,rfl,g3⟩,s3⟩
  rintro σ3 H3 ⟨v,rfl,hv,s3⟩
  have e03:=s3 _ _ e02
  walk_at "w"
  refine cR e03 tx.kQ tx.oZ rfl ?_
  walk_at "w"
  intro l4 n4
  obtain⟨H4,i4,s4,g4⟩:=nw _ n4;rw[i4]
  exact k l4 H4 (s.trans (s3.trans s4)) ⟨l1,v,g4,⟨qs,(s3.trans s4) _ _ gl,rl.imp λ_ _ z=>iF.same z.at_ (s3.trans s4)⟩,hv.same s4⟩
theorem aIM{ws:List Str}{w:Str}(h:w∈ws):w.length+1<=wt ws:=by
 obtain⟨a,b,rfl⟩:=List.append_of_mem h
 rw[show a++w::b=a++([w] ++ b) from rfl,pQ,pQ]
 have:wt [w]=w.length+1:=by unfold wt;simp
 omega
theorem aMt{ws:List Str}{u v:Str}(h1:u∈ws)(h2:v∈ws):wt [v,u]<=2*wt ws:=by
 have:=aIM h1
 have:=aIM h2
 have:wt [v,u]=v.length+u.length+2:=by unfold wt;simp
 omega
def aBF(K:W.Frag):Sp:=λvs H Q _=>∃(l:Addr) (ws:List Str) (i:Nat),vs=[.ref l,.int (i:Int)]/\H l=some (.lst (ws.map V.str))/\i+1 < ws.length/\ws.length<=30000/\∀l' us H',aT H H'->H' l'=some (.lst (us.map V.str))->wt us<=4*wt ws->(∀w∈us,w∈ws)->Q (.ref l') H'
theorem aBG{P:Program}{w:World}{K:PySem.W.Frag}{mg:Str->Option Value}{base:Heap}{a:sC}(tx:Txt K mg a):cT P w K mg base tZ 1 a.mD a.mE ["_law_some","_law_at"] (aBF K):=by
 refine tx.mG.ok aBj (λvs H Q E h=>?_) (λcdv A outer s H vs Q E hr h=>?_)
 ·obtain⟨l,ws,i,rfl,_⟩:=h
  rfl
 ·obtain⟨l,ws,i,rfl ,hl,hi,hz,k⟩:=h
  have hu:=tQ hr
  refine bP (aF (aN (aI bT (aI bT (aS (rs:=kY K) mR (aD 0) aY (aW (aD 1))) (nQ (aK (K':=K) (aD 0) (aI bT (aD 1) aC)) (aK (K':=K) (aD 0) (aD 1)))) (aS (rs:=kY K) mR (aD 0) (aW (aI bT (aD 1) aC)) aY)))) ?_
  have q1:ws[i]?=some ws[i]:=tO (by omega)
  have q2:ws[i+1]?=some ws[i+1]:=tO hi
  have m1:ws[i]∈ws:=v9 q1
  have m2:ws[i+1]∈ws:=v9 q2
  have x1:atI (ws.map V.str) (i:Int)=some (.str ws[i]):=j0 (by rw[xV,q1];rfl)
  have x2:atI (ws.map V.str) ((i:Int)+1)=some (.str ws[i+1]):=by
   rw[show(i:Int)+1=((i+1:Nat):Int) by omega]
   exact j0 (by rw[xV,q2];rfl)
  have hc:∀lo hi,(zV ws lo hi).length<=ws.length:=λlo hi=>by
   unfold zV
   rw[tP,Rm9]
   omega
  generalize ws[i]=a1 at m1 x1
  generalize ws[i+1]=a2 at m2 x2
  refine bF (σ:=[some (.ref l),some (.int (i:Int))]) rfl ?_
  walk_at "w"
  refine cW (bQ.of hl) ?_
  rw[iH]
  intro b1 n1
  obtain⟨J1,j1,t1,g1⟩:=nw _ n1;rw[j1]
  have hl1:=t1 _ _ hl
  walk_at "w"
  intro b2 n2
  obtain⟨J2,j2,t2,g2⟩:=nw _ n2;rw[j2]
  have g2':J2 b2=some (.lst ([a2,a1].map V.str)):=g2
  walk_at "w"
  refine dR (t2 _ _ g1) g2' (aX (by rw[cC,cC];have:=hc none (some (i:Int));simp;omega)) ?_
  rw[<-o5]
  intro b3 n3
  obtain⟨J3,j3,t3,g3⟩:=nw _ n3;rw[j3]
  have hl3:=(t2.trans t3) _ _ hl1
  walk_at "w"
  refine cW (bQ.of hl3) ?_
  rw[iH]
  intro b4 n4
  obtain⟨J4,j4,t4,g4⟩:=nw _ n4;rw[j4]
  walk_at "w"
  refine dR (t4 _ _ g3) g4 (aX (by rw[cC,cC,rA];have:=hc none (some (i:Int));have:=hc (some ((i:Int)+2)) none;simp;omega)) ?_
  rw[<-o5]
  intro b5 n5
  obtain⟨J5,j5,t5,g5⟩:=nw _ n5;rw[j5]
  refine k b5 _ J5 (t1.trans (t2.trans (t3.trans (t4.trans t5)))) g5 ?_ λw hw=>?_
  ·rw[pQ,pQ]
   have c1:=aDv ws none (some (i:Int))
   have c2:=aDv ws (some ((i:Int)+2)) none
   have c3:=aMt m1 m2
   omega
  ·rcases Rb9.mp hw with h|h
   ·rcases Rb9.mp h with h|h
    ·exact aAY h
    ·rcases rN.mp h with rfl|h
     ·exact m2
     ·rw[Rh9.mp h];exact m1
   ·exact aAY h
theorem vC{w:Str}{n:Int}(h:dE w=some n):0<=n:=by
 have ok:okN w=true:=by
  cases e:okN w with
  |true=>rfl
  |false=>rw[mM (by rw[e];decide)] at h;cases h
 obtain⟨a,b,c,d⟩:=fY.mp ok
 have hd:∀x∈w.cps.toList,48<=x/\x<=57:=λx hx=>by
  have:=Ri9.mp c x hx
  unfold dg at this
  simpa using this
 have hne:w.cps.toList≠[]:=λe=>by
  have:w.cps.toList.length=w.length:=wY
  rw[e] at this
  exact absurd this (by rw[Tb9];omega)
 have e:=PySem.intText_digits (x:=w) hd hne (by omega)
 unfold dE at h
 rw[gU ok,e] at h
 cases h
 exact Int.natCast_nonneg _
theorem aEA{α β:Type}{f:α->Option β}:∀{xs:List α}{ys:List β},cX f xs=some ys->∀x∈xs,∃y∈ys,f x=some y
 |[],ys,h,x,hx=>by cases hx
 |z::r,ys,h,x,hx=>by
  unfold cX at h
  cases e1:f z with
  |none=>rw[e1] at h;cases h
  |some u=>
   cases e2:cX f r with
   |none=>rw[e1,e2] at h;cases h
   |some us=>
    rw[e1,e2] at h
    cases h
    rcases rN.mp hx with rfl|hx
    ·exact⟨u,.head _,e1⟩
    ·obtain⟨y,hy,ey⟩:=aEA e2 x hx
     exact⟨y,.tail _ hy,ey⟩
theorem aG2{p:Str}{m:MS}(h:dP p=some m):cX dE ((dX p).take 6)=some m.six/\cX pcP ((dX p).drop 6)=some m.pieces/\m.Good:=by
 have g:=rJ.mp (aEu h)
 unfold dP at h
 split at h
 ·rename_i e1 e2
  split at h
  ·cases h
   exact⟨e1,e2,g⟩
  ·cases h
 ·cases h
theorem aBH{p:Str}(h:∀m:MS,cX dE ((dX p).take 6)=some m.six->cX pcP ((dX p).drop 6)=some m.pieces->m.Good->False):dP p=none:=by
 cases e:dP p with
 |none=>rfl
 |some m=>
  obtain⟨a,b,c⟩:=aG2 e
  exact(h m a b c).elim
theorem aAA{p w:Str}{t:Int×Int}(hw:w∈(dX p).drop 6)(ht:pcP w=some t)(hb:¬(1<=t.1/\Am t.1/\Am t.2)):dP p=none:=aBH λm _ h2 g=>by
 obtain⟨y,hy,ey⟩:=aEA h2 w hw
 rw[ht] at ey
 cases ey
 exact hb (g.pieces.pc _ hy)
theorem aKo{n:Nat}{w:Str}(h:Ln n w):Ln n (Txt.partition w (Str.ofString ":")).1/\Ln n (Txt.partition w (Str.ofString ":")).2.2:=by
 rcases tI w with ⟨e,_⟩|⟨a,b,e,ew,_⟩
 ·rw[e]
  exact⟨h,by show Pl Str.empty;decide +kernel,Sp9 _⟩
 ·rw[e]
  have c:w.cps.toList=a.cps.toList++58::b.cps.toList:=by rw[ew];exact o8
  have l:w.length=a.length+1+b.length:=by rw[ew,Str.length_append,Str.length_append];rfl
  have z:=h.sz
  exact⟨⟨Pl.of λx hx=>h.pl.mem x (by rw[c];exact Ro9 _ hx),by show a.length<=n;omega⟩,⟨Pl.of λx hx=>h.pl.mem x (by rw[c];exact xT _ (.tail _ hx)),by show b.length<=n;omega⟩⟩
structure wV(ws:List Str)(us:List V):Prop where
 len:us.length=ws.length
 at_:∀(j:Nat) w u,ws[j]?=some w->us[j]?=some u->NumV w u
theorem wV.snoc{ws:List Str}{us:List V}{w:Str}{u:V}(h:wV ws us)(e:NumV w u):wV (ws ++ [w]) (us ++ [u]):=by
 refine⟨by rw[rA,rA,h.len];rfl,λj x y h1 h2=>?_⟩
 by_cases hj:j < us.length
 ·rw[Qy9 (by rw[<-h.len];exact hj)] at h1
  rw[Qy9 hj] at h2
  exact h.at_ j x y h1 h2
 ·have hi2:j < (us ++ [u]).length:=(wF.mp h2).1
  rw[rA,Rt9] at hi2
  have ei:j=us.length:=by omega
  subst ei
  rw[Rd9 (iI _),So9] at h2
  rw[h.len,Rd9 (iI _),So9] at h1
  cases h1
  cases h2
  exact e
theorem wV.flat{ws:List Str}{us:List V}(h:wV ws us):us.all eF=true:=by
 rw[Ri9]
 intro u hu
 obtain⟨j,hj⟩:=Sg9 hu
 have lj:j < ws.length:=by rw[<-h.len];exact(wF.mp hj).1
 rcases h.at_ j _ u (tO lj) hj with ⟨n,_,rfl⟩|⟨_,rfl⟩ <;> rfl
theorem wV.both:∀{ws:List Str}{us:List V},wV ws us->(inV .non us=true/\∃w∈ws,dE w=none)\/(inV .non us=false/\∃ns,us=ns.map V.int/\cX dE ws=some ns)
 |[],us,h=>by
  obtain rfl:us=[]:=List.length_eq_zero_iff.mp h.len
  exact .inr ⟨rfl,[],rfl,rfl⟩
 |w::ws,us,h=>by
  match us,h with
  |[],h=>exact absurd h.len (by simp)
  |u::us,h=>
   have ht:wV ws us:=⟨by have:=h.len;simpa using this,λj x y h1 h2=>h.at_ (j+1) x y h1 h2⟩
   rcases h.at_ 0 w u rfl rfl with ⟨n,hn,rfl⟩|⟨hn,rfl⟩
   ·have e:inV .non (V.int n::us)=inV .non us:=rfl
    rw[e]
    rcases ht.both with ⟨a,x,hx,b⟩|⟨a,ns,rfl,b⟩
    ·exact .inl ⟨a,x,.tail _ hx,b⟩
    ·refine .inr ⟨a,n::ns,rfl,?_⟩
     unfold cX
     rw[hn,b]
   ·exact .inl ⟨rfl,w,.head _,hn⟩
theorem aGi:(10:Int) ^ (12:Int).toNat=1000000000000:=by decide
theorem aCN{ps:List (Int×Int)}:(ps.map (·.2)).Pairwise (·<=·)↔∀(j:Nat) t u,ps[j]?=some t->ps[j+1]?=some u->t.2<=u.2:=by
 induction ps with
 |nil=>exact⟨λ_ j t u h=>by simp at h,λ_=>List.Pairwise.nil⟩
 |cons x r ih=>
  rw[Sn9,List.pairwise_cons,ih]
  constructor
  ·rintro ⟨h1,h2⟩ j t u ht hu
   cases j with
   |zero=>
    cases ht
    exact h1 _ (Rk9.mpr ⟨u,v9 hu,rfl⟩)
   |succ j=>exact h2 j t u ht hu
  ·intro h
   have h2:∀(j:Nat) t u,r[j]?=some t->r[j+1]?=some u->t.2<=u.2:=λj t u a b=>h (j+1) t u a b
   refine⟨λy hy=>?_,h2⟩
   cases r with
   |nil=>cases hy
   |cons z r=>
    have hz:=h 0 x z rfl rfl
    have:=(List.pairwise_cons.mp (ih.mpr h2)).1
    rcases rN.mp hy with rfl|hy
    ·exact hz
    ·exact Int.le_trans hz (this y hy)
theorem aEB{xs zs:List Int}(h:zs.Perm xs)(hz:zs.Pairwise (·<=·)):xs=zs↔xs.Pairwise (·<=·):=⟨λe=>by rw[e];exact hz,λhx=>(List.Perm.eq_of_pairwise (λa b _ _ h1 h2=>Int.le_antisymm h1 h2) hx hz h.symm)⟩
def vD(K:W.Frag):Sp:=λvs H Q _=>∃p:Str,vs=[.str p]/\Ln 100000 p/\(∀m,dP p=some m->∀s H',aT H H'->iF H' s m->Q (.ref s) H')/\(dP p=none->∀H',aT H H'->Q .non H')
theorem vE{P:Program}{w:World}{K:PySem.W.Frag}{mg:Str->Option Value}{base:Heap}{a:sC}(tx:Txt K mg a):cT P w K mg base tZ 2 a.fG a.fH ["_law_part"] (vD K):=by
 have gP:=u4 (P:=P) (w:=w) (base:=base) tx
 refine tx.iX.ok bU (λvs H Q E h=>?_) (λcdv A outer s H vs Q E hr h=>?_)
 ·obtain⟨p,rfl,_⟩:=h
  rfl
 ·obtain⟨p,rfl ,hp,k,ke⟩:=h
  have hu:=tQ hr
  refine bP (aE (aM (i:=1) bU.nd (dF (K':=K) (aD 0) (aB aR aA)))
   (aE (hR (k:=1) (idx:=[]) (N:=["_law_word"]) (i:=3) bU.nd rfl (Or.inl rfl) (d6 (sc:=aH cG) (NX:=["_law_part","_law_words","_law_word","_law_some","_law_pieces","_law_amount_here","_law_colon","_law_rate","_law_rates"]) rfl rfl rfl (by decide +kernel)) rfl (bJ (K':=K) (aS (rs:=kY K) mR (aD 1) aY (aW aC))) (λ_ _ _ _=>(aQ (i:=0) (show(["_law_word"]:List Str).Nodup by decide +kernel))) (cL (by decide)) (λ_ _ _ _=>bR) (λ_ _ _ _=>(zq1 gP hr tx.gM tx.eX.kp tx.gL (aB (aD 0) aA))))
   (aE (aM (i:=4) bU.nd (vP aA))
   (aE (dZ PassesOwn.never rfl (bJ (K':=K) (aS (rs:=kY K) mR (aD 1) (aW aC) aY)) (aQ (i:=2) bU.nd) (aE (aCo (aD8 (K':=K) (aD 2) (aB aR aA)) (jN (K':=K) (n:=3) rfl (cI (aQ (i:=5) bU.nd) (cI (aQ (i:=6) bU.nd) (cI (aQ (i:=7) bU.nd) jM)))))
   (aE (xC (xD (K':=K) (aD 4) (aB (aC8 (zq1 gP hr tx.gM tx.eX.kp tx.gL (aB (aD 5) aA)) (zq1 gP hr tx.gM tx.eX.kp tx.gL (aB (aD 7) aA))) aA)))
   (aF (aZ (dA (cH (aL (r:=rC K) (gY hu) (aD 6) aR (bB _)) (cH (aL (r:=rIn K false) zH bS (aK (K':=K) (aD 4) (hJ pB aC)) (by with_unfolding_all rfl)) (cH (aL (r:=rC K) (gY hu) (aK (K':=K) (aK (K':=K) (aD 4) (hJ pB aC)) aC) aC (bB _)) (dC (aL pC (aJ (rc:=aIv K) (aGW rfl) (by rfl) tx.tW xA (aB (aK (K':=K) (aD 4) (hJ pB aC)) aA)) (aI uC aC aC) (bB _))))))) (aF (aN bS)) aP)))))
   (aE (aZ (dA (cH (aL aA3 (aJ (rc:=nP K) cF (by rfl) tx.dQ cV (aB (aD 3) aA)) aC (bB _)) (cH (aL (r:=rIn K false) zH bS (aD 3) (by with_unfolding_all rfl)) (cH (aL pC (aJ (rc:=aCy K) (vS rfl) (by rfl) tx.tW xA (aB (aD 3) aA)) (aI uC aC aC) (bB _)) (cH (aL aA3 (aJ (rc:=aIk K) (aGR rfl) (by rfl) tx.aBo aHD (aB (aS (rs:=kY K) mR (aD 3) aY (aW aC)) aA)) aC (bB _)) (dC (aL pC (aJ (rc:=aCy K) (vS rfl) (by rfl) tx.tW xA (aB (aS (rs:=kY K) mR (aD 3) aY (aW aC)) aA)) aC (bB _)))))))) (aF (aN bS)) aP)
   (aE (hR (k:=2) (idx:=[]) (N:=["_law_amount_here","_law_rate"]) (i:=8) bU.nd rfl (Or.inl rfl) (d6 (sc:=aH cG) (NX:=["_law_part","_law_words","_law_word","_law_some","_law_pieces","_law_amount_here","_law_colon","_law_rate","_law_rates"]) rfl rfl rfl (by decide +kernel)) rfl (bJ (K':=K) (aD 4)) (λ_ _ _ _=>(jN (K':=K) (n:=2) rfl (cI (aQ (i:=0) (show(["_law_amount_here","_law_rate"]:List Str).Nodup by decide +kernel)) (cI (aQ (i:=1) (show(["_law_amount_here","_law_rate"]:List Str).Nodup by decide +kernel)) jM)))) (aFQ (vJ (by decide) (vJ (by decide) aDX))) (λ_ _ _ _=>bR) (λ_ _ _ _=>(aD 1)))
   (aE (aZ (dA (cH (aL pC (aJ (rc:=nP K) cF (by rfl) tx.dQ cV (aB (aD 4) aA)) aC (bB _)) (dC (aL (r:=wB K) (lC hu) (aD 8) (aJ aAl (by rfl) tx.pN aCk (aB (aD 8) aA)) (bB _))))) (aF (aN bS)) aP)
   (aF (aN (aI bT (aD 3) (yC (aD 4)))))))))))) ?_
  have hl:=hp.sz
  have lw:(dX p).length<=100002:=(yV hl).2
  refine bF (σ:=[some (.str p),none,none,none,none,none,none,none,none]) rfl ?_
  walk_at "w"
  refine⟨rfl,?_⟩
  walk_at "w"
  refine⟨_,_,rfl,rfl,by decide,aX (by omega),aX (by show(dX p).length<=_;omega),λl nl=>?_⟩
  rw[show Txt.split p (Str.ofString " ")=dX p from rfl]
  obtain⟨H1,i1,s1,g1⟩:=nw _ nl;rw[i1]
  walk_at "w"
  refine cW (bQ.of g1) ?_
  rw[show(6:Int)=((6:Nat):Int) from rfl,aGb,<-Tt9]
  intro l2 n2
  obtain⟨H2,i2,s2,g2⟩:=nw _ n2;rw[i2]
  have lt6:((dX p).take 6).length<=6:=by rw[tP];omega
  refine gZ (bQ.of g2) ?_
  refine cP (xs:=((dX p).take 6).map V.str) (λj us H'=>aT H2 H'/\wV (((dX p).take 6).take j) us) ⟨aT.refl _,rfl,λj w u h=>by simp at h⟩ (aX (by rw[cC];omega))
   (λj us H' hj ⟨e0,e1⟩=>⟨bQ.of (e0 _ _ g2),by rw[e1.len,tP];omega⟩) (λj v us H' hv z56q=>?_) (λus H' z57q=>?_)
  ·obtain⟨e0,e1⟩:=z56q
   rw[xV] at hv
   obtain⟨w,ew,rfl⟩:=Qt9.mp hv
   have mw:=v9 ew
   walk_at "w"
   refine⟨w,rfl,eC hp _ (Sf9 mw),λv H6 nv s6=>⟨e0.trans s6,?_⟩⟩
   rw[take_snoc ew]
   exact e1.snoc nv
  obtain⟨e0,e1⟩:=z57q
  rw[cC,Qx9] at e1
  intro l3 n3
  obtain⟨H3,i3,s3,g3⟩:=nw _ n3;rw[i3]
  have S3:aT H H3:=s1.trans (s2.trans (e0.trans s3))
  have g13:=(s2.trans (e0.trans s3)) _ _ g1
  walk_at "w"
  intro l4 n4
  obtain⟨H4,i4,s4,g4⟩:=nw _ n4;rw[i4]
  have l3x:l3≠l4:=cQ n4 g3
  have g14:=s4 _ _ g13
  repeat walk_at "st"
  have ld:((dX p).drop 6).length<=100000:=by rw[Rm9];omega
  refine cY (λσ' H'=>∃(qs:List Addr) (ps:List (Int×Int)) (z2 x5 x6 x7:Option V),σ'=[some (.str p),some (.ref l),z2,some (.ref l3),some (.ref l4),x5,x6,x7,none]/\H' l4=some (.lst (qs.map V.ref))/\xI H' qs ps/\cX pcP ((dX p).drop 6)=some ps/\(∀t∈ps,1<=t.1/\Am t.1/\Am t.2)/\aT H3 H') (λN hN=>?_) ?_
  ·walk_at "w"
   refine cW (bQ.of g14) ?_
   rw[show(6:Int)=((6:Nat):Int) from rfl,v7,<-Tl9]
   intro l5 n5
   obtain⟨H5,i5,s5,g5⟩:=nw _ n5;rw[i5]
   have g45:=s5 _ _ g4
   have l5x:l5≠l4:=Ne.symm (cQ n5 g4)
   refine gZ (bQ.of g5) ?_
   refine yB (xs:=((dX p).drop 6).map V.str) (λi σ' H'=>∃(qs:List Addr) (ps:List (Int×Int)) (z2 x5 x6 x7:Option V),σ'=[some (.str p),some (.ref l),z2,some (.ref l3),some (.ref l4),x5,x6,x7,none]/\H' l4=some (.lst (qs.map V.ref))/\xI H' qs ps/\cX pcP (((dX p).drop 6).take i)=some ps/\(∀t∈ps,1<=t.1/\Am t.1/\Am t.2)/\cJ l4 H5 H')
    ⟨[],[],_,_,_,_,rfl,g45,⟨rfl,λj q t h=>by simp at h⟩,rfl,(λ_ h=>nomatch h),(λ_ _ e _=>e)⟩ (λi σ' H' hi ⟨qs,ps,z2,x5,x6,x7,e,_,_,_,_,kk⟩=>bQ.of (kk _ _ g5 l5x)) (λi v σ' H' hv z58q=>?_) (λσ' H' z59q=>?_)
   ·obtain⟨qs,ps,z2,x5,x6,x7,e,gl,t2,ea,gt,kk⟩:=z58q
    subst e
    rw[xV] at hv
    obtain⟨w,ew,rfl⟩:=Qt9.mp hv
    have mw:=v9 ew
    have lnw:Ln 100000 w:=eC hp _ (Sr9 mw)
    obtain⟨pl1,pl2⟩:=aKo lnw
    have lqs:qs.length=i:=by
     rw[t2.len,dN ea,tP]
     have:=(wF.mp ew).1
     omega
    have iz:i < 100000:=by have:=(wF.mp ew).1;omega
    have fin:∀H'',cJ l4 H5 H''->aT H H'':=λH'' k'=>S3.trans (xM n4 (s4.trans s5) k')
    have lwz:=lnw.sz
    have pno:=aMq (w:=w)
    have pnn:=aIE (w:=w)
    have psm:=@aID w
    generalize hP:Txt.partition w (Str.ofString ":")=P at pl1 pl2 pno pnn psm
    obtain⟨wa,wc,wb⟩:=P
    walk_at "w"
    refine⟨rfl,?_⟩
    walk_at "w"
    refine aIr (by decide) (aX (by omega)) λT nT=>?_
    rw[hP]
    obtain⟨H6,i6,s6,g6⟩:=nw _ nT;rw[i6]
    refine rX (mY.of g6) rfl ?_
    walk_at "w"
    have gl6:=s6 _ _ gl
    refine aFb (bQ.of gl6) ?_
    walk_at "w"
    refine⟨wa,rfl,pl1,λva H7 na s7=>?_⟩
    walk_at "w"
    refine⟨wb,rfl,pl2,λvb H8 nb s8=>?_⟩
    walk_at "w"
    intro T2 nT2
    obtain⟨H9,i9,s9,g9⟩:=nw _ nT2;rw[i9]
    have S9':aT H' H9:=s6.trans (s7.trans (s8.trans s9))
    have gl9:=S9' _ _ gl
    walk_at "w"
    refine aFc (xs:=qs.map V.ref) gl9 (xU (by rw[cC];omega:(qs.map V.ref).length < 200000) (aX (by simp))) ?_
    obtain⟨Ha,ia,ka,wa'⟩:=wr H9 l4 _;rw[ia]
    have T2x:T2≠l4:=Ne.symm (cQ nT2 ((s6.trans (s7.trans s8)) _ _ gl))
    have g9a:=ka _ _ g9 T2x
    have Ka:cJ l4 H5 Ha:=kk.trans (S9'.keep.trans ka)
    have ala:=aDr (xs:=qs.map V.ref) (.ref T2)
    walk_at "w"
    rw[mO]
    refine bX (λhc=>?_) (λhc=>?_)
    ·repeat walk_at "gs"
     exact ke (yY mw (pno hc)) _ (fin _ Ka)
    walk_at "w"
    rcases Or.symm na with ⟨hn1,rfl⟩|⟨n1,hn1,rfl⟩
    ·refine⟨T2,[.non,vb],rfl,.inr (mY.of g9a),rfl,?_,?_⟩
     ·rcases nb with ⟨n2,_,rfl⟩|⟨_,rfl⟩ <;> rfl
     repeat walk_at "gs"
     exact ke (yY mw (pnn (.inl hn1))) _ (fin _ Ka)
    rcases Or.symm nb with ⟨hn2,rfl⟩|⟨n2,hn2,rfl⟩
    ·refine⟨T2,[.int n1,.non],rfl,.inr (mY.of g9a),rfl,rfl,?_⟩
     repeat walk_at "gs"
     exact ke (yY mw (pnn (.inr hn2))) _ (fin _ Ka)
    refine⟨T2,[.int n1,.int n2],rfl,.inr (mY.of g9a),rfl,rfl,?_⟩
    have ep:=psm hn1 hn2
    have b1:=vC hn1
    have b2:=vC hn2
    repeat walk_at "gs"
    refine bX (λh0=>?_) (λh0=>?_)
    ·repeat walk_at "gs"
     exact ke (aAA mw ep λz=>by have:=z.1;show False;have e:(n1,n2).1=n1:=rfl;omega) _ (fin _ Ka)
    walk_at "w"
    refine aKf (ns:=[n1,n2]) (mY.of g9a) (by simp) λmx hm1 hm2=>?_
    walk_at "w"
    rw[aGi]
    have m1:=hm2 n1 (by simp)
    have m2:=hm2 n2 (by simp)
    refine bX (λh1=>?_) (λh1=>?_)
    ·repeat walk_at "gs"
     refine ke (aAA mw ep λz=>?_) _ (fin _ Ka)
     obtain⟨_,⟨_,q1⟩,⟨_,q2⟩⟩:=z
     replace q1:n1<=1000000000000:=q1
     replace q2:n2<=1000000000000:=q2
     have:mx=n1\/mx=n2:=by simpa using hm1
     omega
    repeat walk_at "gs"
    refine⟨qs ++ [T2],ps ++ [(n1,n2)],_,_,_,_,rfl,by rw[wa',o5];rfl,xI.snoc (((t2.same S9').keep (λxs z=>by rw[gl9] at z;cases z) ka)) g9a,yW ea ew ep,λt ht=>?_,Ka⟩
    rcases Rb9.mp ht with z|z
    ·exact gt t z
    ·rw[Rh9.mp z]
     exact⟨by show 1<=n1;omega,⟨b1,by show n1<=_;omega⟩,⟨b2,by show n2<=_;omega⟩⟩
   ·obtain⟨qs,ps,z2,x5,x6,x7,e,gl,t2,ea,gt,kk⟩:=z59q
    subst e
    rw[cC,Qx9] at ea
    exact hN _ _ ⟨qs,ps,_,_,_,_,rfl,gl,t2,ea,gt,xM n4 (s4.trans s5) kk⟩
  rintro σ5 H5 ⟨qs,ps,z2,x5,x6,x7,rfl,gl,t2,ea,gt,S35⟩
  have S5:aT H H5:=S3.trans S35
  have g35:=S35 _ _ g3
  refine cY (λσ' H'=>∃v0 v1 v2 v3 v4 v5:Int,us=[V.int v0,.int v1,.int v2,.int v3,.int v4,.int v5]/\cX dE ((dX p).take 6)=some [v0,v1,v2,v3,v4,v5]/\(1<=v0/\v0<=12)/\(1<=v1/\v1<=12)/\(∀n∈[v0,v1,v2,v3,v4,v5],Am n)/\σ'=[some (.str p),some (.ref l),z2,some (.ref l3),some (.ref l4),x5,x6,x7,none]/\aT H5 H') (λN hN=>?_) ?_
  ·walk_at "w"
   refine bX (λh=>?_) (λh=>?_)
   ·repeat walk_at "gs"
    refine ke (aCG ?_) _ S5
    have:=e1.len
    rw[tP] at this
    omega
   have l6:((dX p).take 6).length=6:=by have:=e1.len;omega
   walk_at "w"
   refine⟨l3,us,rfl,.inl (bQ.of g35),rfl,e1.flat,?_⟩
   rcases e1.both with ⟨q1,w,hw,hn⟩|⟨q1,ns,rfl,hn⟩
   ·rw[q1]
    repeat walk_at "gs"
    exact ke (aCF hw hn) _ S5
   rw[q1]
   have lo:=dN hn
   rw[l6] at lo
   obtain⟨v0,v1,v2,v3,v4,v5,rfl⟩:=aIF lo
   have ps0:∀n∈[v0,v1,v2,v3,v4,v5],0<=n:=λn hm=>by
    obtain⟨w,_,ew⟩:=y0 hn n hm
    exact vC ew
   have bad:∀{P:Prop},(∀m:MS,m.six=[v0,v1,v2,v3,v4,v5]->m.Good->P)->¬P->dP p=none:=λhP hn'=>aBH λm a _ c=>by
    rw[hn] at a
    exact hn' (hP m (Option.some.inj a).symm c)
   repeat walk_at "gs"
   refine aAT (ns:=[v0,v1,v2,v3,v4,v5]) (bQ.of g35) (by simp) λmx hm1 hm2=>?_
   walk_at "w"
   rw[aGi]
   refine bX (λh1=>?_) (λh1=>?_)
   ·repeat walk_at "gs"
    refine ke (bad (P:=Am mx) (λm em g=>g.six mx (by rw[em];exact hm1)) λz=>?_) _ S5
    have:=z.2
    omega
   have am:∀n∈[v0,v1,v2,v3,v4,v5],Am n:=λn hm=>⟨ps0 n hm,by have:=hm2 n hm;omega⟩
   walk_at "w"
   refine cW (bQ.of g35) ?_
   rw[show gX ([v0,v1,v2,v3,v4,v5].map V.int) none (some 2)=[v0,v1].map V.int from rfl]
   intro l6' n6
   obtain⟨H6,i6,s6,g6⟩:=nw _ n6;rw[i6]
   walk_at "w"
   refine aJ7 (ns:=[v0,v1]) (bQ.of g6) (by simp) λmn hn1 hn2=>?_
   walk_at "w"
   have upd_of:∀m:MS,m.six=[v0,v1,v2,v3,v4,v5]->m.up=v0/\m.down=v1:=λm em=>by
    unfold MS.six at em
    simp only[List.cons.injEq] at em
    exact⟨em.1,em.2.1⟩
   refine bX (λh2=>?_) (λh2=>?_)
   ·repeat walk_at "gs"
    refine ke (bad (P:=1<=v0/\1<=v1) (λm em g=>?_) λz=>?_) _ (S5.trans s6)
    ·obtain⟨u1,u2⟩:=upd_of m em
     rw[<-u1,<-u2]
     exact⟨g.up.1,g.down.1⟩
    ·have:mn=v0\/mn=v1:=by simpa using hn1
     omega
   walk_at "w"
   refine cW (bQ.of (s6 _ _ g35)) ?_
   rw[show gX ([v0,v1,v2,v3,v4,v5].map V.int) none (some 2)=[v0,v1].map V.int from rfl]
   intro l7 n7
   obtain⟨H7,i7,s7,g7⟩:=nw _ n7;rw[i7]
   walk_at "w"
   refine aAT (ns:=[v0,v1]) (bQ.of g7) (by simp) λmx2 hx1 hx2=>?_
   walk_at "w"
   refine bX (λh3=>?_) (λh3=>?_)
   ·repeat walk_at "gs"
    refine ke (bad (P:=v0<=12/\v1<=12) (λm em g=>?_) λz=>?_) _ (S5.trans (s6.trans s7))
    ·obtain⟨u1,u2⟩:=upd_of m em
     rw[<-u1,<-u2]
     exact⟨g.up.2,g.down.2⟩
    ·have:mx2=v0\/mx2=v1:=by simpa using hx1
     omega
   repeat walk_at "gs"
   have a1:=hn2 v0 (by simp)
   have a2:=hn2 v1 (by simp)
   have a3:=hx2 v0 (by simp)
   have a4:=hx2 v1 (by simp)
   exact hN _ _ ⟨v0,v1,v2,v3,v4,v5,rfl,hn,⟨by omega,by omega⟩,⟨by omega,by omega⟩,am,rfl,s6.trans s7⟩
  rintro σ6 H6 ⟨v0,v1,v2,v3,v4,v5,rfl,hn,hv0,hv1,am,rfl,s56⟩
  have gl6:=s56 _ _ gl
  have t6:=t2.same s56
  have lqs:=t6.len
  have lps:=dN ea
  have S6:aT H H6:=S5.trans s56
  have g36:=s56 _ _ g35
  walk_at "w"
  refine gZ (bQ.of gl6) ?_
  refine cP (xs:=qs.map V.ref) (λj us H'=>H'=H6/\us=((ps.take j).map (·.2)).map V.int) ⟨rfl,rfl⟩ (aX (by rw[cC];omega))
   (λj us H' hj ⟨e0,e1⟩=>⟨by rw[e0];exact bQ.of gl6,by rw[e1,cC,cC,tP];omega⟩) (λj v us H' hv z60q=>?_) (λus H' z61q=>?_)
  ·obtain⟨e0,e1⟩:=z60q
   subst e0
   rw[xV] at hv
   obtain⟨q1,eq1,rfl⟩:=Qt9.mp hv
   have lj:j < ps.length:=by rw[<-lqs];exact(wF.mp eq1).1
   have ep:ps[j]?=some ps[j]:=tO lj
   have et:=t6.at_ j q1 _ eq1 ep
   refine rX (mY.of et) rfl ?_
   walk_at "w"
   refine⟨rfl,?_⟩
   rw[e1,take_snoc ep,o5,o5]
   rfl
  obtain⟨e0,e1⟩:=z61q
  subst e0 e1
  rw[cC,lqs,Qx9]
  intro l7 n7
  obtain⟨H7,i7,s7,g7⟩:=nw _ n7;rw[i7]
  have gl7:=s7 _ _ gl6
  have g37:=s7 _ _ g36
  have t7:=t6.same s7
  have S7:=S6.trans s7
  walk_at "w"
  have noG:¬aFs ps->dP p=none:=λh=>aBH λm _ b c=>by
   rw[ea] at b
   rw[Option.some.inj b] at h
   exact h c.pieces
  refine bX (λh=>?_) (λh=>?_)
  ·rw[cC] at h
   repeat walk_at "gs"
   exact ke (noG λz=>by have:=z.len;omega) _ S7
  rw[cC] at h
  walk_at "w"
  refine aEa g7 (by rw[cC];omega) λlz zs nlz pz sz=>?_
  obtain⟨H8,i8,s8,g8⟩:=nw _ nlz;rw[i8]
  have S8:=S7.trans s8
  have gl8:=s8 _ _ gl7
  have g38:=s8 _ _ g37
  have t8:=t7.same s8
  have iff:=aEB pz sz
  walk_at "w"
  refine⟨_,aHU (.inl ⟨bQ.of (s8 _ _ g7),bQ.of g8⟩),?_⟩
  walk_at "w"
  refine iJ (λh2=>?_) (λh2=>?_)
  ·repeat walk_at "gs"
   refine ke (noG λz=>?_) _ S8
   have:ps.map (·.2)=zs:=iff.mpr (aCN.mpr z.up)
   rw[Rv9 this] at h2
   cases h2
  have up:=aCN.mp (iff.mp (by simpa using h2))
  repeat walk_at "gs"
  intro l9 n9
  obtain⟨H9,i9,s9,g9⟩:=nw _ n9;rw[i9]
  refine dR (s9 _ _ g38) g9 (aX (by simp)) ?_
  intro l10 n10
  obtain⟨H10,i10,s10,g10⟩:=nw _ n10;rw[i10]
  have s810:=s9.trans s10
  have G:MS.Good ⟨v0,v1,v2,v3,v4,v5,ps⟩:=⟨hv0,hv1,am v2 (by simp),am v3 (by simp),am v4 (by simp),am v5 (by simp),⟨by show ps.length<=4;omega,gt,up⟩⟩
  exact k ⟨v0,v1,v2,v3,v4,v5,ps⟩ (by rw[aBw hn ea,gU (rJ.mpr G)]) l10 H10 (S8.trans s810) ⟨l4,g10,⟨qs,s810 _ _ gl8,t8.same s810⟩⟩
theorem aG3{p:Str}{s:S9}(h:fD p=some (some s)):p≠Str.ofString "none"/\(dX p).head?=some (Str.ofString "store")/\cX dE ((dX p).drop 1)=some s.vals/\s.Good:=by
 have g:=aEx h
 unfold fD at h
 split at h
 ·cases h
 ·rename_i h0
  split at h
  ·rename_i hh
   split at h
   ·rename_i e1
    split at h
    ·cases h
     exact⟨h0,hh,e1,g⟩
    ·cases h
   ·cases h
  ·cases h
theorem aEC{p:Str}(h0:p≠Str.ofString "none")(h:∀s:S9,cX dE ((dX p).drop 1)=some s.vals->s.Good->False):fD p=none:=by
 cases e:fD p with
 |none=>rfl
 |some o=>
  cases o with
  |none=>
   unfold fD at e
   rw[fQ h0] at e
   split at e
   ·split at e
    ·split at e <;> cases e
    ·cases e
   ·cases e
  |some s=>
   obtain⟨_,_,a,b⟩:=aG3 e
   exact(h s a b).elim
theorem aCO(x:Str){j:Int}(h:0<=j):StrLaws.sliceText x none (some j)=⟨(x.cps.toList.take j.toNat).toArray⟩:=by
 have e:x.cps.toList.length=x.length:=wY
 by_cases hi:j<=x.length
 ·rw[StrLaws.sliceText_to ⟨h,by rw[e];exact hi⟩,Sq9,Int.sub_zero]
 ·have q:StrLaws.sliceText x none (some j)=StrLaws.sliceText x none (some (x.length:Int)):=by
   unfold StrLaws.sliceText
   have w:Builtin.Str.strSliceIndices none (some j) 1 x.length=Builtin.Str.strSliceIndices none (some (x.length:Int)) 1 x.length:=by
    have a:¬j < 0:=by omega
    have b:¬((x.length:Int) < 0):=by omega
    have c:min j (x.length:Int)=(x.length:Int):=by omega
    simp[Builtin.Str.strSliceIndices,a,b,c]
   rw[w]
  rw[q,StrLaws.sliceText_to ⟨by omega,by rw[e];exact Int.le_refl _⟩,Sq9,Int.sub_zero,Sk9 (by rw[e];omega),Sk9 (by rw[e];omega)]
theorem aED(x:Str){j:Int}(h:0<=j):(StrLaws.sliceText x none (some j)).length<=x.length:=by
 rw[aCO x h]
 show(List.toArray _).size<=_
 rw[mP,tP]
 have e:x.cps.toList.length=x.length:=wY
 omega
theorem aEE{w:Str}:(StrLaws.sliceText w none (some 5)=Str.ofString "lack ")↔Txt.startswith w (Str.ofString "lack ")=true:=by
 have e:w.cps.toList.length=w.length:=wY
 have e5:(Str.ofString "lack ").length=5:=by decide
 have l5:(Str.ofString "lack ").cps.toList.length=5:=by decide
 rw[aCO w (by decide)]
 unfold Txt.startswith
 rw[zB,decide_eq_true_eq,StrLaws.subAt_eq,Sq9,e5,beq_iff_eq]
 have q:(5:Int).toNat=5:=rfl
 rw[q]
 constructor
 ·intro h
  have h':w.cps.toList.take 5=(Str.ofString "lack ").cps.toList:=by rw[<-h]
  refine⟨?_,h'⟩
  have:=congrArg List.length h'
  rw[tP,l5] at this
  omega
 ·rintro ⟨_,h⟩
  apply Str.ext'
  apply Sm9.mp
  rw[<-h]
theorem aFB(xs:List V):gX xs none (some (-2))=xs.take (xs.length - 2):=by
 unfold gX
 rw[HT.rB,Sq9,Nat.sub_zero]
 show xs.take (if (-2:Int) < 0 then ((-2:Int)+(xs.length:Int)).toNat else min (-2:Int).toNat xs.length)=_
 rw[gU (by decide)]
 congr 1
 omega
theorem aFC{x s l:Str}{ms:List Str}{W:L9}(h:qZ x=ms ++ [s,l])(hW:fA x=some W):cX dP ms=some W.ms/\fD s=some W.st/\mV l=some W.lack/\W.Good:=by
 have g:=aAz hW
 rw[rH h] at hW
 split at hW
 ·rename_i e1 e2 e3
  split at hW
  ·cases hW
   exact⟨e1,e2,e3,g⟩
  ·cases hW
 ·cases hW
theorem aCP{x s l:Str}{ms:List Str}(h:qZ x=ms ++ [s,l])(hn:∀W:L9,cX dP ms=some W.ms->mV l=some W.lack->W.Good->False):fA x=none:=by
 cases e:fA x with
 |none=>rfl
 |some W=>
  obtain⟨a,_,b,c⟩:=aFC h e
  exact(hn W a b c).elim
def aIN(H:Hp)(w:Str)(u:V):Prop:=(∃m a,dP w=some m/\u=.ref a/\iF H a m)\/(dP w=none/\u=.non)
theorem aIN.same{H H':Hp}{w:Str}{u:V}(h:aIN H w u)(s:aT H H'):aIN H' w u:=by
 rcases h with ⟨m,a,e1,e2,e3⟩|h
 ·exact .inl ⟨m,a,e1,e2,e3.same s⟩
 ·exact .inr h
structure tY(H:Hp)(ws:List Str)(us:List V):Prop where
 len:us.length=ws.length
 at_:∀(j:Nat) w u,ws[j]?=some w->us[j]?=some u->aIN H w u
theorem tY.same{H H':Hp}{ws:List Str}{us:List V}(h:tY H ws us)(s:aT H H'):tY H' ws us:=⟨h.len,λj w u a b=>(h.at_ j w u a b).same s⟩
theorem tY.snoc{H:Hp}{ws:List Str}{us:List V}{w:Str}{u:V}(h:tY H ws us)(e:aIN H w u):tY H (ws ++ [w]) (us ++ [u]):=by
 refine⟨by rw[rA,rA,h.len];rfl,λj x y h1 h2=>?_⟩
 by_cases hj:j < us.length
 ·rw[Qy9 (by rw[<-h.len];exact hj)] at h1
  rw[Qy9 hj] at h2
  exact h.at_ j x y h1 h2
 ·have hi2:j < (us ++ [u]).length:=(wF.mp h2).1
  rw[rA,Rt9] at hi2
  have ei:j=us.length:=by omega
  subst ei
  rw[Rd9 (iI _),So9] at h2
  rw[h.len,Rd9 (iI _),So9] at h1
  cases h1
  cases h2
  exact e
theorem tY.kind{H:Hp}{ws:List Str}{us:List V}(h:tY H ws us):∀v∈us,v=.non\/∃a ys,v=.ref a/\H a=some (.lst ys):=λv hv=>by
 obtain⟨j,hj⟩:=Sg9 hv
 have lj:j < ws.length:=by rw[<-h.len];exact(wF.mp hj).1
 rcases h.at_ j _ v (tO lj) hj with ⟨m,a,_,rfl,pl,hs,_⟩|⟨_,rfl⟩
 ·exact .inr ⟨a,_,rfl,hs⟩
 ·exact .inl rfl
theorem RL.aNq{α:Type}{P:Addr->α->Prop}{a:Addr}{x:α}{as:List Addr}{xs:List α}(h:P a x)(r:RL P as xs):RL P (a::as) (x::xs):=⟨by rw[Re9,Re9,r.len],λj b y h1 h2=>by
 cases j with
 |zero=>cases h1;cases h2;exact h
 |succ j=>exact r.at_ j b y h1 h2⟩
theorem tY.both{H:Hp}:∀{ws:List Str}{us:List V},tY H ws us->(us.any vN=true/\∃w∈ws,dP w=none)\/(us.any vN=false/\∃as ms,us=as.map V.ref/\cX dP ws=some ms/\RL (iF H) as ms)
 |[],us,h=>by
  obtain rfl:us=[]:=List.length_eq_zero_iff.mp h.len
  exact .inr ⟨rfl,[],[],rfl,rfl,RL.nil⟩
 |w::ws,us,h=>by
  match us,h with
  |[],h=>exact absurd h.len (by simp)
  |u::us,h=>
   have ht:tY H ws us:=⟨by have:=h.len;simpa using this,λj x y h1 h2=>h.at_ (j+1) x y h1 h2⟩
   rcases h.at_ 0 w u rfl rfl with ⟨m,a,hm,rfl,hs⟩|⟨hn,rfl⟩
   ·have e:(V.ref a::us).any vN=us.any vN:=rfl
    rw[e]
    rcases ht.both with ⟨q,x,hx,b⟩|⟨q,as,ms,rfl,b,r⟩
    ·exact .inl ⟨q,x,.tail _ hx,b⟩
    ·refine .inr ⟨q,a::as,m::ms,rfl,?_,RL.aNq hs r⟩
     unfold cX
     rw[hm,b]
   ·exact .inl ⟨rfl,w,.head _,hn⟩
def xR(K:PySem.W.Frag):Sp:=λvs H Q _=>∃x:Str,vs=[.str x]/\Ln 100000 x/\(∀W,fA x=some W->∀a H',aT H H'->zY H' a W->Q (.ref a) H')/\(fA x=none->∀H',aT H H'->Q .non H')
theorem xS{P:Program}{w:World}{K:PySem.W.Frag}{mg:Str->Option Value}{base:Heap}{a:sC}(tx:Txt K mg a):cT P w K mg base tZ 3 a.gQ a.gR ["_law_line_here"] (xR K):=by
 have wD:=vE (P:=P) (w:=w) (base:=base) tx
 have gP:=u4 (P:=P) (w:=w) (base:=base) tx
 refine tx.kM.ok cO (λvs H Q E h=>?_) (λcdv A outer s H vs Q E hr h=>?_)
 ·obtain⟨x,rfl,_⟩:=h
  rfl
 ·obtain⟨x,rfl ,hx,k,ke⟩:=h
  have hu:=tQ hr
  refine bP (aE (aM (i:=1) cO.nd (dF (K':=K) (aD 0) (aB aR aA)))
   (aE (hR (k:=1) (idx:=[]) (N:=["_law_part"]) (i:=2) cO.nd rfl (Or.inl rfl) (d6 (sc:=aH cK) (NX:=["_law_line_here","_law_parts","_law_specs","_law_lack","_law_store","_law_words"]) rfl rfl rfl (by decide +kernel)) rfl (bJ (K':=K) (aS (rs:=kY K) mR (aD 1) aY (aW (hJ pB aC)))) (λ_ _ _ _=>(aQ (i:=0) (show(["_law_part"]:List Str).Nodup by decide +kernel))) (cL (by decide)) (λ_ _ _ _=>bR) (λ_ _ _ _=>(zq1 wD hr tx.nN tx.iX.kp tx.nM (aB (aD 0) aA))))
   (aE (aZ (dA (cH (aL aA3 (aJ (rc:=nP K) cF (by rfl) tx.dQ cV (aB (aD 1) aA)) aC (bB _)) (cH (aL pC (aJ (rc:=nP K) cF (by rfl) tx.dQ cV (aB (aD 2) aA)) aC (bB _)) (cH (aL (r:=aIt K) (aKd hu) bS (aD 2) (by with_unfolding_all rfl)) (dC (aL (r:=wB K) (lC hu) (aS (rs:=zO) nF (aK (K':=K) (aD 1) (hJ pB aC)) aY (aW aC)) aR (bB _))))))) (aF (aN bS)) aP)
   (aE (aM (i:=3) cO.nd (zq1 gP hr tx.gM tx.eX.kp tx.gL (aB (aS (rs:=zO) nF (aK (K':=K) (aD 1) (hJ pB aC)) (aW aC) aY) aA)))
   (aE (aM (i:=4) cO.nd bS)
   (aE (aZ (aL (r:=wB K) (lC hu) (aK (K':=K) (aD 1) (hJ pB aC)) aR (bB _)) (aE (aM (i:=5) cO.nd (dF (K':=K) (aK (K':=K) (aD 1) (hJ pB aC)) (aB aR aA)))
   (aE (hR (k:=1) (idx:=[]) (N:=["_law_word"]) (i:=4) cO.nd rfl (Or.inl rfl) (d6 (sc:=aH cK) (NX:=["_law_line_here","_law_parts","_law_specs","_law_lack","_law_store","_law_words"]) rfl rfl rfl (by decide +kernel)) rfl (bJ (K':=K) (aS (rs:=kY K) mR (aD 5) (aW aC) aY)) (λ_ _ _ _=>(aQ (i:=0) (show(["_law_word"]:List Str).Nodup by decide +kernel))) (cL (by decide)) (λ_ _ _ _=>bR) (λ_ _ _ _=>(zq1 gP hr tx.gM tx.eX.kp tx.gL (aB (aD 0) aA))))
   (aE (aZ (dA (cH (aL (r:=wB K) (lC hu) (aK (K':=K) (aD 5) aC) aR (bB _)) (cH (aL (r:=wB K) (lC hu) (aJ (rc:=nP K) cF (by rfl) tx.dQ cV (aB (aD 4) aA)) aC (bB _)) (dC (aL (r:=rIn K false) zH bS (aD 4) (by with_unfolding_all rfl)))))) (aF (aN bS)) aP)
   (aF (aZ (dA (cH (aL pC (aJ (rc:=aCy K) (vS rfl) (by rfl) tx.tW xA (aB (aS (rs:=kY K) mR (aD 4) aY (aW aC)) aA)) aC (bB _)) (dC (aL pC (aJ (rc:=aCy K) (vS rfl) (by rfl) tx.tW xA (aB (aD 4) aA)) (aI uC aC aC) (bB _))))) (aF (aN bS)) aP))))) aP)
   (aE (aZ (dA (cH (aL aBc (aD 3) bS (bB _)) (dC (aL pC (aD 3) (aI uC aC aC) (bB _))))) (aF (aN bS)) aP)
   (aF (aN (vQ (aD 2) (aD 4) (aD 3))))))))))) ?_
  have hl:=hx.sz
  have lp:(qZ x).length<=100002:=by have:=PyProof.Rows.split_le x (Str.ofString "; ");show(Txt.split x (Str.ofString "; ")).length<=_;omega
  have lnw:∀w∈qZ x,Ln 100000 w:=λw hw=>eC (y:=Str.ofString "; ") hx w hw
  refine bF (σ:=[some (.str x),none,none,none,none,none]) rfl ?_
  walk_at "w"
  refine⟨rfl,?_⟩
  walk_at "w"
  refine⟨_,_,rfl,rfl,by decide,aX (by omega),aX (by show(qZ x).length<=_;omega),λl nl=>?_⟩
  rw[show Txt.split x (Str.ofString "; ")=qZ x from rfl]
  obtain⟨H1,i1,s1,g1⟩:=nw _ nl;rw[i1]
  walk_at "w"
  refine cW (bQ.of g1) ?_
  rw[aFB,<-Tt9,cC]
  obtain⟨ms,hms⟩ : ∃ms,(qZ x).take ((qZ x).length - 2)=ms:=⟨_,rfl⟩
  have mem:∀w∈ms,w∈qZ x:=λw hw=>Sf9 (by rw[hms];exact hw)
  have lms:ms.length<=100002:=by rw[<-hms,tP];omega
  rw[hms]
  intro l2 n2
  obtain⟨H2,i2,s2,g2⟩:=nw _ n2;rw[i2]
  refine gZ (bQ.of g2) ?_
  refine cP (xs:=ms.map V.str) (λj us H'=>aT H2 H'/\tY H' (ms.take j) us) ⟨aT.refl _,rfl,λj w u h=>by simp at h⟩ (aX (by rw[cC];omega))
   (λj us H' hj ⟨e0,e1⟩=>⟨bQ.of (e0 _ _ g2),by rw[e1.len,tP];omega⟩) (λj v us H' hv z62q=>?_) (λus H' z63q=>?_)
  ·obtain⟨e0,e1⟩:=z62q
   rw[xV] at hv
   obtain⟨w,ew,rfl⟩:=Qt9.mp hv
   have mw:=v9 ew
   walk_at "w"
   refine⟨w,rfl,lnw w (mem w mw),λm hm sp H6 s6 hs=>⟨e0.trans s6,?_⟩,λhn H6 s6=>⟨e0.trans s6,?_⟩⟩
   ·rw[take_snoc ew]
    exact(e1.same s6).snoc (.inl ⟨m,sp,hm,rfl,hs⟩)
   ·rw[take_snoc ew]
    exact(e1.same s6).snoc (.inr ⟨hn,rfl⟩)
  obtain⟨e0,e1⟩:=z63q
  rw[cC,Qx9] at e1
  intro l3 n3
  obtain⟨H3,i3,s3,g3⟩:=nw _ n3;rw[i3]
  have S3:aT H H3:=s1.trans (s2.trans (e0.trans s3))
  have g13:=(s2.trans (e0.trans s3)) _ _ g1
  replace e1:=e1.same s3
  walk_at "w"
  refine bX (λh=>?_) (λh=>?_)
  ·rw[cC] at h
   repeat walk_at "gs"
   exact ke (aBz (by omega)) _ S3
  rw[cC] at h
  obtain⟨ms',s,lk,eP⟩:=two_end (show 2<=(qZ x).length by omega)
  obtain rfl:ms=ms':=by
   rw[<-hms,eP,rA]
   simp
  have eV:(qZ x).map V.str=ms.map V.str ++ [.str s,.str lk]:=by rw[eP,o5];rfl
  have lns:Ln 100000 s:=lnw s (by rw[eP];exact xT _ (.head _))
  have lnl:Ln 100000 lk:=lnw lk (by rw[eP];exact xT _ (.tail _ (.head _)))
  rw[eV] at g13
  have a2:=aEw (ms.map V.str) (.str s) (.str lk)
  have a1:atI (ms.map V.str ++ [.str s,.str lk]) (-1)=some (.str lk):=by
   rw[show ms.map V.str ++ [V.str s,.str lk]=(ms.map V.str ++ [.str s]) ++ [.str lk] by simp]
   exact aDr _
  have lus:=e1.len
  walk_at "w"
  refine bX (λh1=>?_) (λh1=>?_)
  ·repeat walk_at "gs"
   refine ke (aCP eP λW q _ g=>?_) _ S3
   have:=dN q
   have:=g.len
   omega
  walk_at "w"
  refine aKe (bQ.of g3) e1.kind ?_
  rcases e1.both with ⟨q1,w,hw,hn⟩|⟨q1,as,Ms,rfl,hM,rM⟩
  ·rw[q1]
   repeat walk_at "gs"
   exact ke (aCI eP hw hn) _ S3
  rw[q1]
  have lkz:=lnl.sz
  repeat walk_at "gs"
  refine⟨lk,rfl,aX (wZ (aED lk (by decide)) (by omega)),?_⟩
  walk_at "w"
  rw[mO]
  refine lN (λh2=>?_) (λh2=>?_)
  ·repeat walk_at "gs"
   refine ke (z0 eP ?_) _ S3
   unfold mV
   rw[fQ λz=>h2 (aEE.mpr z)]
  have hst:=aEE.mp h2
  have el:mV lk=dE (StrLaws.sliceText lk (some 5) none):=by unfold mV;rw[gU hst]
  have sl5:=kR (x:=lk) (i:=5) (by decide)
  repeat walk_at "gs"
  refine⟨lk,rfl,aX (by omega),?_⟩
  walk_at "w"
  refine⟨_,rfl,u3 lnl (by omega),λvl H4 nv s4=>?_⟩
  have g14:=s4 _ _ g13
  repeat walk_at "st"
  refine cY (λσ' H'=>σ'=[some (.str x),some (.ref l),some (.ref l3),some vl,some .non,none]/\H'=H4) (λN hN=>?_) ?_
  ·walk_at "w"
   exact hN _ _ ⟨rfl,rfl⟩
  rintro σ5 H5 ⟨rfl,rfl⟩
  refine cY (λσ' H'=>∃(v:V) (o:Option S9) (z5:Option V),σ'=[some (.str x),some (.ref l),some (.ref l3),some vl,some v,z5]/\fD s=some o/\SpA H' v o/\aT H5 H') (λN hN=>?_) ?_
  ·walk_at "w"
   rw[mO]
   refine lN (λh0=>?_) (λh0=>?_)
   ·have lsz:=lns.sz
    have lws:(dX s).length<=100002:=(yV lsz).2
    walk_at "w"
    refine⟨rfl,?_⟩
    walk_at "w"
    refine⟨_,_,rfl,rfl,by decide,aX (by omega),aX (by show(dX s).length<=_;omega),λl6 n6=>?_⟩
    rw[show Txt.split s (Str.ofString " ")=dX s from rfl]
    obtain⟨H6,i6,s6,g6⟩:=nw _ n6;rw[i6]
    walk_at "w"
    refine cW (bQ.of g6) ?_
    rw[show(1:Int)=((1:Nat):Int) from rfl,v7,<-Tl9]
    intro l7 n7
    obtain⟨H7,i7,s7,g7⟩:=nw _ n7;rw[i7]
    refine gZ (bQ.of g7) ?_
    refine cP (xs:=((dX s).drop 1).map V.str) (λj us H'=>aT H7 H'/\wV (((dX s).drop 1).take j) us) ⟨aT.refl _,rfl,λj w u h=>by simp at h⟩ (aX (by rw[cC,Rm9];omega))
     (λj us H' hj ⟨e0,e1⟩=>⟨bQ.of (e0 _ _ g7),by rw[e1.len,tP];omega⟩) (λj v us H' hv z64q=>?_) (λus H8 z65q=>?_)
    ·obtain⟨e0,e1⟩:=z64q
     rw[xV] at hv
     obtain⟨w,ew,rfl⟩:=Qt9.mp hv
     have mw:=v9 ew
     walk_at "w"
     refine⟨w,rfl,eC lns _ (Sr9 mw),λv H6 nv s6=>⟨e0.trans s6,?_⟩⟩
     rw[take_snoc ew]
     exact e1.snoc nv
    obtain⟨e8,e9⟩:=z65q
    rw[cC,Qx9] at e9
    intro lA nA
    obtain⟨HA,iA,sA,gA⟩:=nw _ nA;rw[iA]
    have S5A:aT H5 HA:=s6.trans (s7.trans (e8.trans sA))
    have SA:aT H HA:=S3.trans (s4.trans S5A)
    have g6A:=(s7.trans (e8.trans sA)) _ _ g6
    obtain⟨w0,wr0,ew0⟩ : ∃w0 wr0,dX s=w0::wr0:=by
     cases q:dX s with
     |nil=>exact absurd q (aFv s)
     |cons x y=>exact⟨x,y,rfl⟩
    have at0:atI ((dX s).map V.str) 0=some (.str w0):=j0 (j:=0) (by rw[ew0];rfl)
    have hh:(dX s).head?=some w0:=by rw[ew0];rfl
    have no:fD s=none->fA x=none:=λz=>aCJ eP z
    repeat walk_at "st"
    refine cY (λσ' H'=>∃v0 v1 v2 v3 v4:Int,w0=Str.ofString "store"/\us=[V.int v0,.int v1,.int v2,.int v3,.int v4]/\cX dE ((dX s).drop 1)=some [v0,v1,v2,v3,v4]/\σ'=[some (.str x),some (.ref l),some (.ref l3),some vl,some (.ref lA),some (.ref l6)]/\H'=HA) (λN' hN'=>?_) ?_
    ·walk_at "w"
     rw[mO]
     refine lN (λh4=>?_) (λh4=>?_)
     ·repeat walk_at "gs"
      exact ke (no (aBx h0 λz=>h4 (by rw[hh] at z;exact Option.some.inj z))) _ SA
     walk_at "w"
     refine lN (λh5=>?_) (λh5=>?_)
     ·repeat walk_at "gs"
      refine ke (no (aEC h0 λs' q _=>?_)) _ SA
      have z1:=dN q
      have z2:=e9.len
      have z3:s'.vals.length=5:=rfl
      omega
     walk_at "w"
     refine⟨lA,us,rfl,.inl (bQ.of gA),rfl,e9.flat,?_⟩
     rcases e9.both with ⟨q1,w,hw,hn⟩|⟨q1,ns,rfl,hn⟩
     ·rw[q1]
      repeat walk_at "gs"
      exact ke (no (aCH h0 hw hn)) _ SA
     rw[q1]
     obtain⟨v0,v1,v2,v3,v4,rfl⟩:=aGc (ns:=ns) (by rw[cC] at h5;omega)
     repeat walk_at "gs"
     exact hN' _ _ ⟨v0,v1,v2,v3,v4,h4,rfl,hn,rfl,rfl⟩
    rintro σ6 _ ⟨v0,v1,v2,v3,v4,rfl,rfl,hn,rfl,rfl⟩
    have ps0:∀n∈[v0,v1,v2,v3,v4],0<=n:=λn hm=>by
     obtain⟨w,_,ew⟩:=y0 hn n hm
     exact vC ew
    have bad:∀{P:Prop},(∀s':S9,s'.vals=[v0,v1,v2,v3,v4]->s'.Good->P)->¬P->fA x=none:=λhP hn'=>no (aEC h0 λs' a c=>by
     rw[hn] at a
     exact hn' (hP s' (Option.some.inj a).symm c))
    walk_at "w"
    refine cW (bQ.of gA) ?_
    rw[show gX [V.int v0,.int v1,.int v2,.int v3,.int v4] none (some 3)=[v0,v1,v2].map V.int from rfl]
    intro lB nB
    obtain⟨HB,iB,sB,gB⟩:=nw _ nB;rw[iB]
    walk_at "w"
    refine aAT (ns:=[v0,v1,v2]) (bQ.of gB) (by simp) λmx hm1 hm2=>?_
    walk_at "w"
    refine bX (λh4=>?_) (λh4=>?_)
    ·repeat walk_at "gs"
     refine ke (bad (P:=v0<=8/\v1<=8/\v2<=8) (λs' es g=>?_) λz=>?_) _ (SA.trans sB)
     ·unfold S9.vals at es
      simp only[List.cons.injEq] at es
      rw[<-es.1,<-es.2.1,<-es.2.2.1]
      exact⟨g.cap.2,g.into.2,g.out.2⟩
     ·have:mx=v0\/mx=v1\/mx=v2:=by simpa using hm1
      omega
    walk_at "w"
    refine aAT (ns:=[v0,v1,v2,v3,v4]) (bQ.of (sB _ _ gA)) (by simp) λmx2 hx1 hx2=>?_
    walk_at "w"
    rw[aGi]
    refine bX (λh5=>?_) (λh5=>?_)
    ·repeat walk_at "gs"
     refine ke (bad (P:=Am mx2) (λs' es g=>g.am mx2 (by rw[es];exact hx1)) λz=>?_) _ (SA.trans sB)
     have:=z.2
     omega
    repeat walk_at "gs"
    have am:∀n∈[v0,v1,v2,v3,v4],Am n:=λn hm=>⟨ps0 n hm,by have:=hx2 n hm;omega⟩
    have G:S9.Good ⟨v0,v1,v2,v3,v4⟩:=⟨⟨ps0 v0 (by simp),Int.le_trans (hm2 v0 (by simp)) (by omega)⟩,⟨ps0 v1 (by simp),Int.le_trans (hm2 v1 (by simp)) (by omega)⟩,⟨ps0 v2 (by simp),Int.le_trans (hm2 v2 (by simp)) (by omega)⟩,am v3 (by simp),am v4 (by simp)⟩
    exact hN _ _ ⟨_,some ⟨v0,v1,v2,v3,v4⟩,_,rfl,by rw[aBy h0 hh hn,gU (tJ.mpr G)],⟨lA,rfl,sB _ _ gA⟩,S5A.trans sB⟩
   ·subst h0
    walk_at "w"
    exact hN _ _ ⟨_,none,_,rfl,xP,rfl,aT.refl _⟩
  rintro σ6 H6 ⟨v,o,z5,rfl,hst',hv,s56⟩
  have S6:aT H H6:=S3.trans (s4.trans s56)
  rcases Or.symm nv with ⟨hn,rfl⟩|⟨n,hn,rfl⟩
  ·repeat walk_at "gs"
   exact ke (z0 eP (el.trans hn)) _ S6
  repeat walk_at "gs"
  rw[aGi]
  refine bX (λh5=>?_) (λh5=>?_)
  ·repeat walk_at "gs"
   refine ke (aCP eP λW _ q g=>?_) _ S6
   rw[el,hn] at q
   have:=g.lack.2
   rw[<-Option.some.inj q] at this
   omega
  repeat walk_at "gs"
  intro l9 n9
  obtain⟨H9,i9,s9,g9⟩:=nw _ n9;rw[i9]
  have s39:aT H3 H9:=s4.trans (s56.trans s9)
  refine k ⟨Ms,o,n⟩ ?_ l9 H9 (S6.trans s9) ⟨l3,v,g9,⟨as,s39 _ _ g3,rM.imp λ_ _ z=>iF.same z s39⟩,hv.same s9⟩
  rw[xQ eP hM hst' (el.trans hn),gU]
  refine z7.mpr ⟨?_,⟨vC hn,by show n<=_;omega⟩⟩
  show Ms.length<=6
  have:=dN hM
  omega
theorem aDI{K:W.Frag}{H:Hp}{n:Nat}{p q:Addr}{xs ys:List V}(h:(bQ K H p xs/\bQ K H q ys)\/(mY K H p xs/\mY K H q ys))(hl:xs.length=ys.length)(he:∀(j:Nat) u v,xs[j]?=some u->ys[j]?=some v->EqN K H n u v true):EqN K H (n+1) (.ref p) (.ref q) true:=
 .inr ⟨p,q,xs,ys,λ_=>true,rfl,rfl,h,he,by rw[hl];simp⟩
theorem aKp{K:W.Frag}{H:Hp}{n:Nat}{p q:Addr}{ps:List (Int×Int)}(h1:mU H p ps)(h2:mU H q ps):EqN K H (n+2) (.ref p) (.ref q) true:=by
 obtain⟨as,a1,a2⟩:=h1.ex
 obtain⟨bs,b1,b2⟩:=h2.ex
 refine aDI (.inl ⟨bQ.of a1,bQ.of b1⟩) (by rw[cC,cC,a2.len,b2.len]) λj u v hu hv=>?_
 rw[xV] at hu hv
 obtain⟨x,ex,rfl⟩:=Qt9.mp hu
 obtain⟨y,ey,rfl⟩:=Qt9.mp hv
 have lj:j < ps.length:=by rw[<-a2.len];exact(wF.mp ex).1
 exact aD3 (.inr ⟨mY.of (a2.at_ j x _ ex (tO lj)),mY.of (b2.at_ j y _ ey (tO lj))⟩) (by simp[eF])
theorem mX{K:W.Frag}{H:Hp}{n:Nat}{u:V}(h:eF u=true):EqN K H (n+1) u u true:=.inl ⟨h,h,(x8 h).symm⟩
theorem aIO{K:W.Frag}{H:Hp}{n:Nat}{p q:Addr}{m:MS}(h1:iF H p m)(h2:iF H q m):EqN K H (n+3) (.ref p) (.ref q) true:=by
 obtain⟨x,a1,a2⟩:=h1.ex
 obtain⟨y,b1,b2⟩:=h2.ex
 refine aDI (.inl ⟨bQ.of a1,bQ.of b1⟩) rfl λj u v hu hv=>?_
 match j,hu,hv with
 |0,hu,hv=>cases hu;cases hv;exact mX rfl
 |1,hu,hv=>cases hu;cases hv;exact mX rfl
 |2,hu,hv=>cases hu;cases hv;exact mX rfl
 |3,hu,hv=>cases hu;cases hv;exact mX rfl
 |4,hu,hv=>cases hu;cases hv;exact mX rfl
 |5,hu,hv=>cases hu;cases hv;exact mX rfl
 |6,hu,hv=>cases hu;cases hv;exact aKp a2 b2
 |_+7,hu,hv=>simp at hu
theorem aCQ{K:PySem.W.Frag}{H:Hp}{n:Nat}{p q:Addr}{W:L9}(h1:zY H p W)(h2:zY H q W):EqN K H (n+5) (.ref p) (.ref q) true:=by
 obtain⟨l1,v1,a1,⟨as,a2,a3⟩,a4⟩:=h1.ex
 obtain⟨l2,v2,b1,⟨bs,b2,b3⟩,b4⟩:=h2.ex
 refine aDI (.inl ⟨bQ.of a1,bQ.of b1⟩) rfl λj u v hu hv=>?_
 match j,hu,hv with
 |0,hu,hv=>
  cases hu
  cases hv
  refine aDI (.inl ⟨bQ.of a2,bQ.of b2⟩) (by rw[cC,cC,a3.len,b3.len]) λj u v hu hv=>?_
  obtain⟨x,m,_,rfl,em,hx⟩:=a3.get hu
  obtain⟨y,m',_,rfl,em',hy⟩:=b3.get hv
  rw[em] at em'
  cases em'
  exact aIO hx hy
 |1,hu,hv=>
  cases hu
  cases hv
  cases e:W.st with
  |none=>
   rw[e] at a4 b4
   replace a4:v1=.non:=a4
   replace b4:v2=.non:=b4
   subst a4 b4
   exact mX rfl
  |some s=>
   rw[e] at a4 b4
   obtain⟨x,rfl,hx⟩:=a4
   obtain⟨y,rfl,hy⟩:=b4
   exact aD3 (.inl ⟨bQ.of hx,bQ.of hy⟩) (by simp[S9.vals,eF])
 |2,hu,hv=>cases hu;cases hv;exact mX rfl
 |_+3,hu,hv=>simp at hu
theorem zY.same{H H':Hp}{p:Addr}{W:L9}(h:zY H p W)(s:aT H H'):zY H' p W:=let ⟨ls,st,a,b,c⟩:=h.ex;⟨ls,st,s _ _ a,b.same s,c.same s⟩
theorem zY.keep{H H':Hp}{p c:Addr}{W:L9}(h:zY H p W)(hh:bM H c)(k:cJ c H H')(n:p≠c):zY H' p W:=let ⟨ls,st,a,b,d⟩:=h.ex;⟨ls,st,k _ _ a n,b.keep hh k,d.keep hh k⟩
def aB8(K:W.Frag):Sp:=λvs H Q _=>∃x:Str,vs=[.str x]/\Ln 100000 x/\∀H',aT H H'->Q (.bl true) H'
theorem aB9{P:Program}{w:World}{K:PySem.W.Frag}{mg:Str->Option Value}{base:Heap}{a:sC}(tx:Txt K mg a):cT P w K mg base tZ 9 a.oM a.oN ["_law_line_here"] (aB8 K):=by
 have qY:=vB (P:=P) (w:=w) (base:=base) tx
 have y4:=xS (P:=P) (w:=w) (base:=base) tx
 have tM:=wU (P:=P) (w:=w) (base:=base) tx
 refine tx.kN.ok lR (λvs H Q E h=>?_) (λcdv A outer s H vs Q E hr h=>?_)
 ·obtain⟨x,rfl,_⟩:=h
  rfl
 ·obtain⟨x,rfl ,hx,k⟩:=h
  have hu:=tQ hr
  refine bP (aE (aM (i:=1) lR.nd (zq1 y4 hr tx.qK tx.kM.kp tx.qJ (aB (aD 0) aA)))
   (aE (aCt rfl rfl (λpn W=>(aF (aM (i:=2) lR.nd (uK (pn:=pn) (W:=W) (tM) (hr.mono (by decide)) (by rfl) tx.tG tx.oU.kp tx.tF (aB (aD 0) aA))))) (aIe (K':=K) (i:=3) (by rfl) tx.yS lR.nd rfl rfl (λ_=>(aF (aN (gE (jK aBc (aD 1) bS (bB _)) (gE (aJ (rc:=aFW K) aCq (by rfl) tx.cD cS (aB (aD 3) (aB (pD (v:=.ref a.aV) (by rfl) tx.iE rfl) aA))) (jQ (aCn (aJ (rc:=aFW K) aCq (by rfl) tx.cD cS (aB (aD 3) (aB (pD (v:=.ref a.bW) (by rfl) tx.vX rfl) aA)))))))))) aIc))
   (aF (aN (gE (jK zJ (aD 1) bS (bB _)) (gE (aJ (rc:=aBO K) jP (by rfl) tx.cD cS (aB (aD 2) (aB (pD (v:=.ref a.fJ) (by rfl) tx.aAW rfl) aA))) (jQ (jK (r:=rC K) (gY hu) (zq1 qY hr tx.qU tx.mF.kp tx.qT (aB (aD 2) aA)) (aD 1) (bB _))))))))) ?_
  refine bF (σ:=[some (.str x),none,none,none]) rfl ?_
  walk_at "w"
  refine⟨x,rfl,hx,λW hW d H1 s1 hd=>?_,λhn H1 s1=>?_⟩
  ·walk_at "w"
   refine⟨x,rfl,hx,λW2 hW2 p H2 s2 hp=>?_,λhn2=>by rw[hW] at hn2;cases hn2⟩
   rw[hW] at hW2
   cases hW2
   obtain⟨dx,lm,as,st,e0,_⟩:=hp.ex
   repeat walk_at "gs"
   refine uG (aDb tx.i_Works tx.kQ e0) ?_
   repeat walk_at "gs"
   refine⟨p,W,rfl,hp,aAz hW,λf H3 s3 hf=>?_⟩
   repeat walk_at "gs"
   exact⟨true,aCQ hf (hd.same (s2.trans s3)),k H3 (s1.trans (s2.trans s3))⟩
  ·walk_at "w"
   refine⟨x,rfl,hx,(λW2 hW2=>by rw[hn] at hW2;cases hW2),λ_ e od H2 s2 he=>⟨e,rfl,?_⟩⟩
   have h1:H2 e=some (fZ a.aV none e):=he
   refine aJ3 h1 tx.Z_NoText tx.x_NoText_StintError ?_
   repeat walk_at "gs"
   refine aFX h1 qP.none tx.Z_NoText tx.k_NoText_NoText ?_
   repeat walk_at "gs"
   refine aFX h1 qP.none tx.Z_NoText tx.k_NoText_Wrong ?_
   repeat walk_at "gs"
   exact k H2 (s1.trans s2)
theorem aBI{ws:List Str}{n:Nat}(h:wt ws<=n)(hn:n<=50000):JoinOk (Str.ofString "; ") ws=true:=by
 unfold JoinOk
 rw[StrLaws.joinTotal,show(Str.ofString "; ").length=2 by decide]
 have:Builtin.Str.tooLong ((ws.map (·.length)).sum+ws.length*2)=false:=by
  unfold Builtin.Str.tooLong
  have z:(ws.map (·.length)).sum+ws.length*2<=sizeLine:=aX (by unfold wt at h;omega)
  simpa using z
 rw[this]
 rfl
theorem aEF{ws:List Str}{n:Nat}(h:wt ws<=n)(hp:∀w∈ws,Pl w):Ln (2*n) (Txt.join (Str.ofString "; ") ws):=by
 have e:Txt.join (Str.ofString "; ") ws=Str.join (Str.ofString "; ") ws:=StrLaws.glued_eq_join _ _
 rw[e]
 refine⟨vZ (by decide +kernel) hp,?_⟩
 have:=StrLaws.join_length_le (Str.ofString "; ") ws
 rw[show(Str.ofString "; ").length=2 by decide] at this
 unfold wt at h
 omega
theorem aIP{r:Int}{n:Nat}(h:2<=n):∃i:Nat,r % ((n:Int) - 1)=(i:Int)/\i+1 < n:=by
 have a:=Sv9 r (show((n:Int) - 1)≠0 by omega)
 have b:=Sd9 r (show(0:Int) < (n:Int) - 1 by omega)
 exact⟨(r % ((n:Int) - 1)).toNat,by omega,by omega⟩
def aCa(K:W.Frag):Sp:=λvs H Q _=>∃(p:Addr) (x:Str),vs=[.ref p,.str x]/\bM H p/\Ln 4000 x/\2<=(dX x).length/\2<=(qZ x).length/\∀(y:Str) H',Ln 100000 y->bM H' p->cJ p H H'->Q (.str y) H'
theorem aCb{P:Program}{w:World}{K:PySem.W.Frag}{mg:Str->Option Value}{base:Heap}{a:sC}(tx:Txt K mg a):cT P w K mg base tZ 4 a.oO a.oP ["_law_hand","_law_line_here"] (aCa K):=by
 have bA:=fW (P:=P) (w:=w) (base:=base) tx
 have aCc:=aBt (P:=P) (w:=w) (base:=base) tx
 have wX:=aBG (P:=P) (w:=w) (base:=base) tx
 refine tx.tH.ok i0 (λvs H Q E h=>?_) (λcdv A outer s H vs Q E hr h=>?_)
 ·obtain⟨p,x,rfl,_⟩:=h
  rfl
 ·obtain⟨p,x,rfl ,hh,hx,w2,p2,k⟩:=h
  have hu:=tQ hr
  refine bP (aE (aM (i:=2) i0.nd (zq1 bA hr tx.bH tx.bD.kp tx.bG (aB (aD 0) (aB aC aA))))
   (aE (aZ (aL aA3 (aD 2) aC (bB _)) (aF (aN (zq1 aCc hr tx.wO tx.qS.kp tx.wN (aB (aD 0) (aB (aD 1) aA))))) aP)
   (aE (aM (i:=3) i0.nd (dF (K':=K) (aD 1) (aB aR aA)))
   (aE (aM (i:=4) i0.nd (dF (K':=K) (aD 1) (aB aR aA)))
   (aE (aZ (aL (r:=rC K) (gY hu) (aD 2) aC (bB _)) (aF (aN (eT (K':=K) aR (aB (zq1 wX hr tx.qW tx.mG.kp tx.qV (aB (aD 3) (aB (aI jI (zq1 bA hr tx.bH tx.bD.kp tx.bG (aB (aD 0) (aB aC aA))) (aI aER (aJ (rc:=nP K) cF (by rfl) tx.dQ cV (aB (aD 3) aA)) aC)) aA))) aA)))) aP)
   (aE (aZ (aL (r:=rC K) (gY hu) (aD 2) aC (bB _)) (aF (aN (eT (K':=K) aR (aB (zq1 wX hr tx.qW tx.mG.kp tx.qV (aB (aD 4) (aB (aI jI (zq1 bA hr tx.bH tx.bD.kp tx.bG (aB (aD 0) (aB aC aA))) (aI aER (aJ (rc:=nP K) cF (by rfl) tx.dQ cV (aB (aD 4) aA)) aC)) aA))) aA)))) aP)
   (aE (aM (i:=5) i0.nd (aI jI (zq1 bA hr tx.bH tx.bD.kp tx.bG (aB (aD 0) (aB aC aA))) (aJ (rc:=nP K) cF (by rfl) tx.dQ cV (aB (aD 4) aA))))
   (aF (aN (eT (K':=K) aR (aB (aK (K':=K) (nQ (aI bT (aS (rs:=kY K) mR (aD 4) aY (aW (aD 5))) (aS (rs:=kY K) mR (aD 4) (aW (aI bT (aD 5) aC)) aY)) (aI bT (aS (rs:=kY K) mR (aD 4) aY (aW (aI bT (aD 5) aC))) (aS (rs:=kY K) mR (aD 4) (aW (aD 5)) aY))) (zq1 bA hr tx.bH tx.bD.kp tx.bG (aB (aD 0) (aB aC aA)))) aA))))))))))) ?_
  have hl:=hx.sz
  have sw:=PyProof.Rows.split_weight x (Str.ofString " ") (by decide)
  have sp:=PyProof.Rows.split_weight x (Str.ofString "; ") (by decide)
  have wW:wt (dX x)<=4001:=by show((Txt.split x (Str.ofString " ")).map (·.length)).sum+(Txt.split x (Str.ofString " ")).length<=_;omega
  have lW:(dX x).length<=4001:=by unfold wt at wW;omega
  have pW:∀w∈dX x,Pl w:=λw hw=>(eC hx w hw).pl
  have wP:wt (qZ x)<=4001:=by show((Txt.split x (Str.ofString "; ")).map (·.length)).sum+(Txt.split x (Str.ofString "; ")).length<=_;omega
  have lP:(qZ x).length<=4001:=by unfold wt at wP;omega
  have pP:∀w∈qZ x,Pl w:=λw hw=>(eC (y:=Str.ofString "; ") hx w hw).pl
  refine bF (σ:=[some (.ref p),some (.str x),none,none,none,none]) rfl ?_
  walk_at "w"
  refine⟨p,_,rfl,hh,by decide,by decide,λway H1 a1 b1 h1 k1 _=>?_⟩
  walk_at "w"
  refine bX (λh=>?_) (λh=>?_)
  ·walk_at "w"
   exact⟨p,x,rfl,h1,hx.le (by omega),λy H2 hy h2 k2=>k y H2 hy h2 (k1.trans k2)⟩
  walk_at "w"
  refine⟨rfl,?_⟩
  walk_at "w"
  refine⟨_,_,rfl,rfl,by decide,aX (by omega),aX (by show(dX x).length<=_;omega),λl nl=>?_⟩
  rw[show Txt.split x (Str.ofString " ")=dX x from rfl]
  obtain⟨H2,i2,s2,g2⟩:=nw _ nl;rw[i2]
  have lp2:l≠p:=h1.xJ nl
  have h2:=h1.same s2
  walk_at "w"
  refine⟨rfl,?_⟩
  walk_at "w"
  refine⟨_,_,rfl,rfl,by decide,aX (by omega),aX (by show(qZ x).length<=_;omega),λl3 n3=>?_⟩
  rw[show Txt.split x (Str.ofString "; ")=qZ x from rfl]
  obtain⟨H3,i3,s3,g3⟩:=nw _ n3;rw[i3]
  have lp3:l3≠p:=h2.xJ n3
  have h3:=h2.same s3
  have K3:cJ p H H3:=k1.trans (s2.trans s3).keep
  have g23:=s3 _ _ g2
  walk_at "w"
  refine bX (λw3=>?_) (λw3=>?_)
  ·walk_at "w"
   refine⟨rfl,?_⟩
   walk_at "w"
   refine⟨p,_,rfl,h3,by decide,by decide,λr4 H4 a4 b4 h4 k4 _=>?_⟩
   have g24:=k4 _ _ g23 lp2
   walk_at "w"
   rw[cC]
   obtain⟨i,hi,ib⟩:=aIP (r:=r4) w2
   rw[hi]
   refine⟨l,dX x,i,rfl,g24,ib,by omega,λl' us H5 s5 g5 wu mu=>?_⟩
   walk_at "w"
   refine⟨_,l',us,rfl,rfl,bQ.of g5,aCD wu (by omega),?_⟩
   exact k _ _ ((aF9 wu λw hw=>pW w (mu w hw)).le (by omega)) (h4.same s5) (K3.trans (k4.trans s5.keep))
  walk_at "w"
  refine bX (λw4=>?_) (λw4=>?_)
  ·walk_at "w"
   refine⟨rfl,?_⟩
   walk_at "w"
   refine⟨p,_,rfl,h3,by decide,by decide,λr4 H4 a4 b4 h4 k4 _=>?_⟩
   have g34:=k4 _ _ g3 lp3
   walk_at "w"
   rw[cC]
   obtain⟨i,hi,ib⟩:=aIP (r:=r4) p2
   rw[hi]
   refine⟨l3,qZ x,i,rfl,g34,ib,by omega,λl' us H5 s5 g5 wu mu=>?_⟩
   walk_at "w"
   refine⟨_,l',us,rfl,rfl,bQ.of g5,aBI wu (by omega),?_⟩
   exact k _ _ ((aEF wu λw hw=>pP w (mu w hw)).le (by omega)) (h4.same s5) (K3.trans (k4.trans s5.keep))
  walk_at "w"
  refine⟨p,_,rfl,h3,by decide,by decide,λr7 H7 a7 b7 h7 k7 _=>?_⟩
  have g7:=k7 _ _ g3 lp3
  have K7:cJ p H H7:=K3.trans k7
  have l1':0 < (((qZ x).map V.str).length:Int):=by rw[cC];omega
  walk_at "w"
  obtain⟨kk,hkk⟩ : ∃kk:Int,r7 % (((qZ x).map V.str).length:Int)=kk:=⟨_,rfl⟩
  rw[hkk]
  have hw:∀lo hi,wt (zV (qZ x) lo hi)<=4001:=λlo hi=>wZ (aDv _ _ _) wP
  have hc:∀lo hi,(zV (qZ x) lo hi).length<=4001:=λlo hi=>by have:=hw lo hi;unfold wt at this;omega
  have hp:∀lo hi,∀w∈zV (qZ x) lo hi,Pl w:=λlo hi w h=>pP w (aAY h)
  walk_at "w"
  refine⟨rfl,?_⟩
  walk_at "w"
  refine cW (bQ.of g7) ?_
  rw[iH]
  intro b1 m1
  obtain⟨J1,j1,t1,q1⟩:=nw _ m1;rw[j1]
  walk_at "w"
  refine cW (bQ.of (t1 _ _ g7)) ?_
  rw[iH]
  intro b2 m2
  obtain⟨J2,j2,t2,q2⟩:=nw _ m2;rw[j2]
  walk_at "w"
  refine dR (t2 _ _ q1) q2 (aX (by rw[cC,cC];have:=hc none (some kk);have:=hc (some (kk+1)) none;omega)) ?_
  rw[<-o5]
  intro b3 m3
  obtain⟨J3,j3,t3,q3⟩:=nw _ m3;rw[j3]
  have T3:=t1.trans (t2.trans t3)
  walk_at "w"
  refine cW (bQ.of (T3 _ _ g7)) ?_
  rw[iH]
  intro b4 m4
  obtain⟨J4,j4,t4,q4⟩:=nw _ m4;rw[j4]
  walk_at "w"
  refine cW (bQ.of (t4 _ _ (T3 _ _ g7))) ?_
  rw[iH]
  intro b5 m5
  obtain⟨J5,j5,t5,q5⟩:=nw _ m5;rw[j5]
  walk_at "w"
  refine dR (t5 _ _ q4) q5 (aX (by rw[cC,cC];have:=hc none (some (kk+1));have:=hc (some kk) none;omega)) ?_
  rw[<-o5]
  intro b6 m6
  obtain⟨J6,j6,t6,q6⟩:=nw _ m6;rw[j6]
  have q36:=(t4.trans (t5.trans t6)) _ _ q3
  walk_at "w"
  intro b9 m9
  obtain⟨J9,j9,t9,q9⟩:=nw _ m9;rw[j9]
  have T9:aT H7 J9:=T3.trans (t4.trans (t5.trans (t6.trans t9)))
  have b9p:b9≠p:=(h7.same (T3.trans (t4.trans (t5.trans t6)))).xJ m9
  have b3p:b3≠p:=(h7.same (t1.trans t2)).xJ m3
  have b6p:b6≠p:=(h7.same (T3.trans (t4.trans t5))).xJ m6
  have q39:=t9 _ _ q36
  have q69:=t9 _ _ q6
  walk_at "w"
  refine⟨p,_,rfl,h7.same T9,by decide,by decide,λr8 J10 a8 b8' h10 k10 _=>?_⟩
  have q10:=k10 _ _ q9 b9p
  obtain⟨bb,ws,eb,qb,hb⟩ : ∃bb ws,atI [V.ref b3,.ref b6] r8=some (.ref bb)/\J10 bb=some (.lst (ws.map V.str))/\wt ws<=8002/\∀w∈ws,Pl w:=by
   have:r8=0\/r8=1:=by omega
   rcases this with rfl|rfl
   ·exact⟨b3,_,rfl,k10 _ _ q39 b3p,by rw[pQ];have:=hw none (some kk);have:=hw (some (kk+1)) none;omega,λw h=>(Rb9.mp h).elim (hp _ _ w) (hp _ _ w)⟩
   ·exact⟨b6,_,rfl,k10 _ _ q69 b6p,by rw[pQ];have:=hw none (some (kk+1));have:=hw (some kk) none;omega,λw h=>(Rb9.mp h).elim (hp _ _ w) (hp _ _ w)⟩
  walk_at "w"
  refine⟨_,bb,ws,rfl,rfl,bQ.of qb,aBI hb.1 (by omega),?_⟩
  exact k _ _ ((aEF hb.1 hb.2).le (by omega)) h10 (K7.trans (T9.keep.trans k10))
theorem y7{n:Int}(h:Am n):dE (sN n)=some n:=by
 have r:=aAv h.lt.1 h.lt.2
 have r1:PySem.intText? (sN n)=some n:=r.1
 have ok:okN (sN n)=true:=by
  refine fY.mpr ⟨Nat.pos_of_ne_zero λz=>?_,h.len,Ri9.mpr λc hc=>?_,λz=>aKi h.1 z.1 z.2⟩
  ·rw[aEn z] at r1
   have q:PySem.intText? (Str.ofString "")=none:=by decide +kernel
   rw[q] at r1
   cases r1
  ·have:=iV h.1 c hc
   unfold dg
   simpa using this
 unfold dE
 rw[gU ok]
 exact r1
theorem vF{α β:Type}{f:α->Option β}{g:β->α}:∀{xs:List β},(∀x∈xs,f (g x)=some x)->cX f (xs.map g)=some xs
 |[],_=>rfl
 |x::r,h=>by
  show cX f (g x::r.map g)=_
  unfold cX
  rw[h x (.head _),vF λy hy=>h y (.tail _ hy)]
theorem aG4{t:Int×Int}(h:1<=t.1/\Am t.1/\Am t.2):∀c∈(pcS t).cps.toList,48<=c/\c<=58:=λc hc=>by
 unfold pcS at hc
 rw[o8] at hc
 rcases Rb9.mp hc with z|z
 ·have:=iV h.2.1.1 c z
  omega
 ·rcases rN.mp z with z|z
  ·omega
  ·have:=iV h.2.2.1 c z
   omega
theorem aKq{t:Int×Int}(h:1<=t.1/\Am t.1/\Am t.2):pcP (pcS t)=some t:=by
 have n1:=y7 h.2.1
 have n2:=y7 h.2.2
 have hs:Txt.split (pcS t) (Str.ofString ":")=[sN t.1,sN t.2]:=by
  have q:pcS t=Str.join ⟨#[58]⟩ [sN t.1,sN t.2]:=by unfold pcS;rw[zZ];rfl
  rw[q,zZ]
  refine qN 58 (by simp) λu hu=>?_
  rcases rN.mp hu with rfl|hu
  ·exact yX n1
  ·rw[Rh9.mp hu];exact yX n2
 rw[aGa hs,n1,n2]
theorem aAb{m:MS}(g:m.Good):∀w∈mWs m,∀c∈w.cps.toList,48<=c/\c<=58:=λw hw c hc=>by
 rcases Rb9.mp hw with h|h
 ·obtain⟨n,hn,rfl⟩:=Rk9.mp h
  have:=iV (g.six n hn).1 c hc
  omega
 ·obtain⟨t,ht,rfl⟩:=Rk9.mp h
  exact aG4 (g.pieces.pc t ht) c hc
theorem aMu(m:MS):mWs m≠[]:=by unfold mWs MS.six;simp
theorem aEG{m:MS}(g:m.Good):dX (kU m)=mWs m:=by
 unfold dX kU
 rw[sp1]
 exact qN 32 (aMu m) λw hw z=>by have:=aAb g w hw 32 z;omega
theorem aBJ{c e:Nat}{ws:List Str}(h:e≠c)(hw:∀w∈ws,e∉w.cps.toList):e∉(Str.join ⟨#[c]⟩ ws).cps.toList:=by
 rw[aAX]
 refine aEm c e h λw hw'=>?_
 obtain⟨u,hu,rfl⟩:=Rk9.mp hw'
 exact hw u hu
theorem aFD{m:MS}(g:m.Good):59∉(kU m).cps.toList:=by
 unfold kU
 rw[sp1]
 exact aBJ (by decide) λw hw z=>by have:=aAb g w hw 59 z;omega
theorem aEH{m:MS}(g:m.Good):dP (kU m)=some m:=by
 have l6:(m.six.map sN).length=6:=rfl
 have e1:cX dE ((dX (kU m)).take 6)=some m.six:=by
  rw[aEG g]
  unfold mWs
  rw[List.take_left' l6]
  exact vF λn hn=>y7 (g.six n hn)
 have e2:cX pcP ((dX (kU m)).drop 6)=some m.pieces:=by
  rw[aEG g]
  unfold mWs
  rw[List.drop_left' l6]
  exact vF λt ht=>aKq (g.pieces.pc t ht)
 have:=aBw (p:=kU m) (a:=m.up) (b:=m.down) (c:=m.begin_) (d:=m.run) (e:=m.rest) (f:=m.least) e1 e2
 rw[this,gU (rJ.mpr g)]
theorem aCR{s:S9}(g:s.Good):∀w∈sWs s,32∉w.cps.toList/\59∉w.cps.toList:=λw hw=>by
 rcases rN.mp hw with rfl|h
 ·decide
 ·obtain⟨n,hn,rfl⟩:=Rk9.mp h
  exact⟨λz=>by have:=iV (g.am n hn).1 32 z;omega,λz=>by have:=iV (g.am n hn).1 59 z;omega⟩
theorem aIQ{s:S9}(g:s.Good):dX (rK (some s))=sWs s:=by
 show Txt.split (Str.join (Str.ofString " ") (sWs s)) (Str.ofString " ")=_
 rw[sp1]
 exact qN 32 (by simp[sWs]) λw hw=>(aCR g w hw).1
theorem aFE{o:Option S9}(g:∀s,o=some s->s.Good):59∉(rK o).cps.toList:=by
 cases o with
 |none=>show 59∉(Str.ofString "none").cps.toList;decide
 |some s=>
  show 59∉(Str.join (Str.ofString " ") (sWs s)).cps.toList
  rw[sp1]
  exact aBJ (by decide) λw hw=>(aCR (g s rfl) w hw).2
theorem aEI{o:Option S9}(g:∀s,o=some s->s.Good):fD (rK o)=some o:=by
 cases o with
 |none=>exact xP
 |some s=>
  have g:=g s rfl
  have e:=aIQ g
  have h0:rK (some s)≠Str.ofString "none":=λz=>by
   rw[z] at e
   have l:=congrArg List.length e
   have a:(dX (Str.ofString "none")).length=1:=by decide +kernel
   have b:(sWs s).length=6:=rfl
   rw[a,b] at l
   cases l
  have hh:(dX (rK (some s))).head?=some (Str.ofString "store"):=by rw[e];rfl
  have hn:cX dE ((dX (rK (some s))).drop 1)=some [s.cap,s.into,s.out,s.takes,s.gives]:=by
   rw[e]
   show cX dE (s.vals.map sN)=some s.vals
   exact vF λn hn=>y7 (g.am n hn)
  rw[aBy h0 hh hn,gU (tJ.mpr g)]
theorem aIR{n:Int}(h:Am n):mV (Str.ofString "lack " ++ sN n)=some n:=by
 have hx:(Str.ofString "lack " ++ sN n).cps.toList=[108,97,99,107,32] ++ (sN n).cps.toList:=by
  rw[Str.cps_append,Rl9,show(Str.ofString "lack ").cps.toList=[108,97,99,107,32] by decide]
 have e:StrLaws.sliceText (Str.ofString "lack " ++ sN n) (some 5) none=sN n:=by
  rw[StrLaws.sliceText_from (by rw[hx];exact⟨by decide,by rw[rA];simp;omega⟩)]
  apply Str.ext'
  apply Sm9.mp
  rw[hx]
  simp
  exact Sk9 (by rw[wY];omega)
 unfold mV
 rw[gU (starts_app _ _),e]
 exact y7 h
theorem aIS{W:L9}(g:W.Good):∀w∈wPs W,59∉w.cps.toList:=λw hw=>by
 rcases Rb9.mp hw with h|h
 ·obtain⟨m,hm,rfl⟩:=Rk9.mp h
  exact aFD (g.ms m hm)
 ·rcases rN.mp h with rfl|h
  ·exact aFE g.st
  ·rw[Rh9.mp h,Str.cps_append,Rl9]
   intro z
   rcases Rb9.mp z with z|z
   ·exact absurd z (by decide)
   ·have:=iV g.lack.1 59 z
    omega
theorem aEJ{W:L9}(g:W.Good):qZ (jX W)=wPs W:=by
 unfold qZ jX
 rw[sp2]
 exact aEj 59 32 (by decide) (by decide) (by decide) (by unfold wPs;simp) (aIS g)
theorem y8{W:L9}(g:W.Good):fA (jX W)=some W:=by
 have e:qZ (jX W)=W.ms.map kU ++ [rK W.st,Str.ofString "lack " ++ sN W.lack]:=aEJ g
 rw[xQ e (vF λm hm=>aEH (g.ms m hm)) (aEI g.st) (aIR g.lack),gU (aEy g)]
theorem aMv{W:L9}(g:W.Good):∀w∈wPs W,Pl w:=λw hw=>by
 rcases Rb9.mp hw with h|h
 ·obtain⟨m,hm,rfl⟩:=Rk9.mp h
  exact vZ (by decide +kernel) λu hu=>Pl.of λc hc=>by have:=aAb (g.ms m hm) u hu c hc;omega
 ·rcases rN.mp h with rfl|h
  ·cases e:W.st with
   |none=>show Pl (Str.ofString "none");decide +kernel
   |some s=>
    refine vZ (by decide +kernel) λu hu=>?_
    rcases rN.mp hu with rfl|hu
    ·decide +kernel
    ·obtain⟨n,hn,rfl⟩:=Rk9.mp hu
     exact Pl.of λc hc=>by have:=iV ((g.st s e).am n hn).1 c hc;omega
  ·rw[Rh9.mp h]
   exact Pl.app (by decide +kernel) (Pl.of λc hc=>by have:=iV g.lack.1 c hc;omega)
theorem aIT{W:L9}(g:W.Good):Ln 4000 (jX W):=⟨vZ (by decide +kernel) (aMv g),aG1 g⟩
theorem aMw{W:L9}(g:W.Good):2<=(qZ (jX W)).length:=by
 rw[aEJ g]
 unfold wPs
 rw[rA]
 simp
theorem aMx{W:L9}(g:W.Good):2<=(dX (jX W)).length:=by
 have h32:32∈(jX W).cps.toList:=by
  have m:Str.ofString "lack " ++ sN W.lack∈wPs W:=xT _ (.tail _ (.head _))
  refine(aBq (y:=Str.ofString "; ") m).1 32 ?_
  rw[Str.cps_append,Rl9]
  exact Ro9 _ (by decide)
 have hj:=StrLaws.join_split (jX W) (Str.ofString " ")
 have hf:=StrLaws.split_free (jX W) 32
 rw[<-sp1] at hf
 cases q:dX (jX W) with
 |nil=>exact absurd q (aFv _)
 |cons w r=>
  cases r with
  |cons _ _=>simp
  |nil=>
   have q':Txt.split (jX W) (Str.ofString " ")=[w]:=q
   rw[q'] at hj hf
   have e:w=jX W:=hj
   refine absurd h32 ?_
   rw[<-e]
   exact hf w (.head _)
theorem mU.aIU{H H':Hp}{p c:Addr}{ps:List (Int×Int)}(h:mU H p ps)(hh:bM H c)(k:cJ c H H'):mU H' p ps:=by
 obtain⟨qs,h1,h2⟩:=h.ex
 exact⟨qs,k _ _ h1 (aDx hh h1),h2.keep (λxs z=>hh.aG5 xs z) k⟩
theorem bM.aMy{H:Hp}{p c C dx:Addr}{fs:List (Str×V)}(h:bM H p)(e:H c=some (.ins C dx fs)):c≠p:=λz=>by
 obtain⟨xs,q⟩:=h.isL
 rw[z,q] at e
 cases e
theorem aAH.aIU{C CM CS:Addr}{H H':Hp}{x c:Addr}{W:L9}(h:aAH C CM CS H x W)(hh:bM H c)(k:cJ c H H'):aAH C CM CS H' x W:=by
 obtain⟨dx,lm,as,st,e1,e2,r,t⟩:=h.ex
 refine⟨dx,lm,as,st,k _ _ e1 (hh.aMy e1),k _ _ e2 (aDx hh e2),r.imp λq m z=>?_,?_⟩
 ·obtain⟨d,pl,a,b⟩:=z.ex
  exact⟨d,pl,k _ _ a (hh.aMy a),b.aIU hh k⟩
 ·cases e:W.st with
  |none=>rw[e] at t;exact t
  |some s=>
   rw[e] at t
   obtain⟨a,rfl,d,ha⟩:=t
   exact⟨a,rfl,d,k _ _ ha (hh.aMy ha)⟩
def aDJ(K:W.Frag):Sp:=λvs H Q _=>∃(a:Addr) (ns:List Int),vs=[.ref a]/\bQ K H a (ns.map V.int)/\ns.length<=63/\∀H',Q (.bl true) H'
theorem aMz{P:Program}{w:World}{K:PySem.W.Frag}{mg:Str->Option Value}{base:Heap}{a:sC}(tx:Txt K mg a):cT P w K mg base tZ 10 a.aF3 a.aF4 ["_law_script"] (aDJ K):=by
 have qY:=vB (P:=P) (w:=w) (base:=base) tx
 have aEK:=aDH (P:=P) (w:=w) (base:=base) tx
 have aEL:=aDF (P:=P) (w:=w) (base:=base) tx
 have aEM:=aDm (P:=P) (w:=w) (base:=base) tx
 have aDK:=aCb (P:=P) (w:=w) (base:=base) tx
 have tN:=aB9 (P:=P) (w:=w) (base:=base) tx
 have aEN:=aDD (P:=P) (w:=w) (base:=base) tx
 have tM:=wU (P:=P) (w:=w) (base:=base) tx
 have y9:=aB2 (P:=P) (w:=w) (base:=base) tx
 refine tx.aKz.ok uN (λvs H Q E h=>?_) (λcdv A outer s H vs Q E hr h=>?_)
 ·obtain⟨ad,ns,rfl,_⟩:=h
  rfl
 ·obtain⟨ad,ns,rfl ,hS,hl,k⟩:=h
  have hu:=tQ hr
  refine bP (aE (dZ PassesOwn.never rfl (aFe (K':=K) (aJV aR aR aR aR aR aR aR)) (aQ (i:=1) uN.nd) (aF (aZ (eH (eG (zq1 tN hr tx.oW tx.kN.kp tx.oV (aB (aD 1) aA)))) (aF (aN kB)) aP)))
   (aE (dZ PassesOwn.never rfl (gF (by rfl) tx.jH (aB (aJ (aCm rfl) (by rfl) tx.tW xA (aB aC (aB (aJ (aGE rfl) (by rfl) tx.aBo aHD (aB (aJ (rc:=nP K) cF (by rfl) tx.dQ cV (aB (aD 0) aA)) (aB aC aA))) aA))) aA)) (aQ (i:=2) uN.nd) (aE (aM (i:=3) uN.nd (zq1 aEM hr tx.aAn tx.uO.kp tx.aAm (aB (aD 0) (aB (aD 2) aA))))
   (aE (aM (i:=4) uN.nd (zq1 aEN hr tx.aAp tx.uW.kp tx.aAo (aB (aD 3) aA)))
   (aE (aM (i:=5) uN.nd (zq1 aEL hr tx.aAr tx.uX.kp tx.aAq (aB (aD 4) aA)))
   (aE (aM (i:=1) uN.nd (zq1 aEK hr tx.aAt tx.uY.kp tx.aAs (aB (aD 4) aA)))
   (aE (aZ (dA (cH (aL (r:=wB K) (lC hu) (zq1 y9 hr tx.sZ tx.oS.kp tx.sY (aB (aD 5) aA)) (aD 1) (bB _)) (dC (eH (eG (zq1 tN hr tx.oW tx.kN.kp tx.oV (aB (aD 1) aA))))))) (aF (aN kB)) aP)
   (aE (dZ PassesOwn.never rfl (gF (by rfl) tx.jH (aB aC aA)) (aQ (i:=6) uN.nd) (aF (aZ (eH (eG (zq1 tN hr tx.oW tx.kN.kp tx.oV (aB (zq1 aDK hr tx.yR tx.tH.kp tx.yQ (aB (aD 3) (aB (aD 1) aA))) aA)))) (aF (aN kB)) aP)))
   (aF (aZ (dA (cH (aL (r:=wB K) (lC hu) (zq1 y9 hr tx.sZ tx.oS.kp tx.sY (aB (aG (tM) (hr.mono (by decide)) (by rfl) tx.tG tx.oU.kp tx.tF .nil aFZ (aB (aD 1) aA)) aA)) (aD 1) (bB _)) (dC (aL (r:=wB K) (lC hu) (zq1 qY hr tx.qU tx.mF.kp tx.qT (aB (aD 5) aA)) (aD 4) (bB _))))) (aF (aN kB)) aP)))))))))
   (aF (aN kB)))) ?_
  refine bF (σ:=[some (.ref ad),none,none,none,none,none,none]) rfl ?_
  walk_at "w"
  intro l1 n1
  obtain⟨H1,i1,s1,g1⟩:=nw _ n1;rw[i1]
  obtain⟨L,eL⟩ : ∃L:List Str,L=["","none; lack 0","none; lack 00","; none; lack 1","store; lack 1","none; lack","none"].map Str.ofString:=⟨_,rfl⟩
  have hL:∀w∈L,Ln 100000 w:=by
   have q:L.all (λw=>w.cps.all (·< 128) && decide (w.length<=100000))=true:=by rw[eL];decide +kernel
   intro w hw
   have:=Ri9.mp q w hw
   rw[zB,decide_eq_true_eq] at this
   exact⟨this.1,this.2⟩
  have g1':H1 l1=some (.tup (L.map V.str)):=by rw[g1,eL];rfl
  have lL:L.length=7:=by rw[eL];rfl
  clear eL g1
  refine aM6 (mY.of g1') ?_
  refine aLU (xs:=L.map V.str) (λj σ' H'=>aT H1 H'/\∃z1,σ'=[some (.ref ad),z1,none,none,none,none,none]) ⟨aT.refl _,_,rfl⟩ (λj σ' H' hj ⟨s,_⟩=>mY.of (s _ _ g1')) (λj v σ' H' hv z66q=>?_) (λσ' H' z67q=>?_)
  ·obtain⟨s,z2,e⟩:=z66q
   subst e
   rw[xV] at hv
   obtain⟨w,ew,rfl⟩:=Qt9.mp hv
   walk_at "w"
   refine⟨w,rfl,hL w (v9 ew),λH6 s6=>?_⟩
   repeat walk_at "gs"
   exact⟨s.trans s6,_,rfl⟩
  obtain⟨s,z2,e⟩:=z67q
  subst e
  walk_at "w"
  refine⟨by omega,by omega,?_⟩
  refine aBa (λi σ' J=>aT H J/\∃(z1 z2 z3 z4 z5 z6:Option V),σ'=[some (.ref ad),z1,z2,z3,z4,z5,z6]) ⟨s1.trans s,_,_,_,_,_,_,rfl⟩ (λi σ' J hi z68q=>?_) (λσ' J z69q=>?_)
  ·obtain⟨t1,z1,z2,z3,z4,z5,z6,e⟩:=z68q
   subst e
   walk_at "w"
   refine⟨ad,ns,_,rfl,aT.seq t1 hS,hl,by omega,λp J2 t2 np hh=>?_⟩
   walk_at "w"
   refine⟨p,rfl,hh,λsp W J3 hW gW nsp h3 k3=>?_⟩
   have sp3:sp≠p:=λz=>by
    obtain⟨xs,e⟩:=hh.isL
    rw[z,e] at nsp
    cases nsp
   walk_at "w"
   refine⟨sp,W,rfl,hW,gW,λx J4 t4 hx=>?_⟩
   have hW4:=hW.same t4
   walk_at "w"
   refine⟨sp,W,rfl,hW4,gW,λJ5 t5=>?_⟩
   have hW5:=hW4.same t5
   have hx5:=hx.same t5
   have hln:=aIT gW
   walk_at "w"
   refine⟨x,W,rfl,hx5,gW,λJ6 t6=>?_⟩
   walk_at "w"
   rw[mO]
   refine lN (λh=>absurd rfl h) (λ_=>?_)
   walk_at "w"
   refine⟨_,rfl,hln.le (by omega),λJ7 t7=>?_⟩
   have hW7:=hW5.same (t6.trans t7)
   have hx7:=hx5.same (t6.trans t7)
   have h7:=h3.same (t4.trans (t5.trans (t6.trans t7)))
   have T7:cJ p J2 J7:=k3.trans (t4.trans (t5.trans (t6.trans t7))).keep
   repeat walk_at "gs"
   refine⟨by omega,by omega,?_⟩
   refine aBa (n:=4) (λj σ' I0=>bM I0 p/\cJ p J7 I0/\∃y6,σ'=[some (.ref ad),some (.str (jX W)),some (.int (0+(i:Int))),some (.ref p),some (.ref sp),some (.ref x),y6]) ⟨h7,(λ_ _ e _=>e),_,rfl⟩ (λj σ' I0 hj z70q=>?_) (λσ' I0 z71q=>?_)
   ·obtain⟨q1,q2,y6,e⟩:=z70q
    subst e
    walk_at "w"
    refine⟨p,_,rfl,q1,hln,aMx gW,aMw gW,λy I1 hy v1 v2=>?_⟩
    walk_at "w"
    refine⟨y,rfl,hy,λI2 v3=>?_⟩
    repeat walk_at "gs"
    exact⟨v1.same v3,q2.trans (v2.trans v3.keep),_,rfl⟩
   ·obtain⟨q1,q2,y6,e⟩:=z71q
    subst e
    have hW8:=hW7.keep h7 q2 sp3
    have hx8:=aAH.aIU hx7 h7 q2
    walk_at "w"
    refine⟨_,rfl,hln.le (by omega),λW2 hW2 q I1 v1 hq=>?_,λz=>by rw[y8 gW] at z;cases z⟩
    rw[y8 gW] at hW2
    cases hW2
    walk_at "w"
    refine⟨q,W,rfl,hq,gW,λI2 v2=>?_⟩
    walk_at "w"
    rw[mO]
    refine lN (λh=>absurd rfl h) (λ_=>?_)
    walk_at "w"
    refine⟨x,W,rfl,hx8.same (v1.trans v2),gW,λf I3 v3 hf=>?_⟩
    walk_at "w"
    refine⟨true,aCQ hf (hW8.same (v1.trans (v2.trans v3))),?_⟩
    repeat walk_at "gs"
    exact⟨t1.trans (xM np t2 (T7.trans (q2.trans (v1.trans (v2.trans v3)).keep))),_,_,_,_,_,_,rfl⟩
  ·obtain⟨t1,z1,z2,z3,z4,z5,z6,e⟩:=z69q
   subst e
   walk_at "w"
   exact k _
end My
namespace My
open PySem L2 L2.Z
theorem all_mk{l:PySem.W.OpenLaw}{w:World}{K:PySem.W.Frag}{h:Heap}{mg:Str->Option Value}{fa:Addr}(X:K.In h)(G:h.Ns mainGlobals mg)(hfa:mg "law" = some (.ref fa))
  {C0:Addr} {C1:Addr} {C2:Addr} {CE0:Addr} {CE1:Addr} {CE2:Addr} {f0:Addr} {od0 an0:Option Addr} {sl0:Array (Option Value)} {oc0 kV0 dc0 pm0 cd0 ct0:Value} {f1:Addr} {od1 an1:Option Addr} {sl1:Array (Option Value)} {oc1 kV1 dc1 pm1 cd1 ct1:Value} {f2:Addr} {od2 an2:Option Addr} {sl2:Array (Option Value)} {oc2 kV2 dc2 pm2 cd2 ct2:Value} {f3:Addr} {od3 an3:Option Addr} {sl3:Array (Option Value)} {oc3 kV3 dc3 pm3 cd3 ct3:Value} {f4:Addr} {od4 an4:Option Addr} {sl4:Array (Option Value)} {oc4 kV4 dc4 pm4 cd4 ct4:Value} {f5:Addr} {od5 an5:Option Addr} {sl5:Array (Option Value)} {oc5 kV5 dc5 pm5 cd5 ct5:Value} {f6:Addr} {od6 an6:Option Addr} {sl6:Array (Option Value)} {oc6 kV6 dc6 pm6 cd6 ct6:Value} {f7:Addr} {od7 an7:Option Addr} {sl7:Array (Option Value)} {oc7 kV7 dc7 pm7 cd7 ct7:Value} {f8:Addr} {od8 an8:Option Addr} {sl8:Array (Option Value)} {oc8 kV8 dc8 pm8 cd8 ct8:Value} {f9:Addr} {od9 an9:Option Addr} {sl9:Array (Option Value)} {oc9 kV9 dc9 pm9 cd9 ct9:Value} {f10:Addr} {od10 an10:Option Addr} {sl10:Array (Option Value)} {oc10 kV10 dc10 pm10 cd10 ct10:Value} {f11:Addr} {od11 an11:Option Addr} {sl11:Array (Option Value)} {oc11 kV11 dc11 pm11 cd11 ct11:Value} {f12:Addr} {od12 an12:Option Addr} {sl12:Array (Option Value)} {oc12 kV12 dc12 pm12 cd12 ct12:Value} {f13:Addr} {od13 an13:Option Addr} {sl13:Array (Option Value)} {oc13 kV13 dc13 pm13 cd13 ct13:Value} {f14:Addr} {od14 an14:Option Addr} {sl14:Array (Option Value)} {oc14 kV14 dc14 pm14 cd14 ct14:Value} {f15:Addr} {od15 an15:Option Addr} {sl15:Array (Option Value)} {oc15 kV15 dc15 pm15 cd15 ct15:Value} {f16:Addr} {od16 an16:Option Addr} {sl16:Array (Option Value)} {oc16 kV16 dc16 pm16 cd16 ct16:Value} {f17:Addr} {od17 an17:Option Addr} {sl17:Array (Option Value)} {oc17 kV17 dc17 pm17 cd17 ct17:Value} {f18:Addr} {od18 an18:Option Addr} {sl18:Array (Option Value)} {oc18 kV18 dc18 pm18 cd18 ct18:Value} {f19:Addr} {od19 an19:Option Addr} {sl19:Array (Option Value)} {oc19 kV19 dc19 pm19 cd19 ct19:Value} {f20:Addr} {od20 an20:Option Addr} {sl20:Array (Option Value)} {oc20 kV20 dc20 pm20 cd20 ct20:Value} {f21:Addr} {od21 an21:Option Addr} {sl21:Array (Option Value)} {oc21 kV21 dc21 pm21 cd21 ct21:Value} {f22:Addr} {od22 an22:Option Addr} {sl22:Array (Option Value)} {oc22 kV22 dc22 pm22 cd22 ct22:Value} {f23:Addr} {od23 an23:Option Addr} {sl23:Array (Option Value)} {oc23 kV23 dc23 pm23 cd23 ct23:Value} {f24:Addr} {od24 an24:Option Addr} {sl24:Array (Option Value)} {oc24 kV24 dc24 pm24 cd24 ct24:Value} {f25:Addr} {od25 an25:Option Addr} {sl25:Array (Option Value)} {oc25 kV25 dc25 pm25 cd25 ct25:Value} {f26:Addr} {od26 an26:Option Addr} {sl26:Array (Option Value)} {oc26 kV26 dc26 pm26 cd26 ct26:Value} {f27:Addr} {od27 an27:Option Addr} {sl27:Array (Option Value)} {oc27 kV27 dc27 pm27 cd27 ct27:Value} {f28:Addr} {od28 an28:Option Addr} {sl28:Array (Option Value)} {oc28 kV28 dc28 pm28 cd28 ct28:Value} {f29:Addr} {od29 an29:Option Addr} {sl29:Array (Option Value)} {oc29 kV29 dc29 pm29 cd29 ct29:Value} {f30:Addr} {od30 an30:Option Addr} {sl30:Array (Option Value)} {oc30 kV30 dc30 pm30 cd30 ct30:Value} {f31:Addr} {od31 an31:Option Addr} {sl31:Array (Option Value)} {oc31 kV31 dc31 pm31 cd31 ct31:Value} {f32:Addr} {od32 an32:Option Addr} {sl32:Array (Option Value)} {oc32 kV32 dc32 pm32 cd32 ct32:Value} {f33:Addr} {od33 an33:Option Addr} {sl33:Array (Option Value)} {oc33 kV33 dc33 pm33 cd33 ct33:Value} {f34:Addr} {od34 an34:Option Addr} {sl34:Array (Option Value)} {oc34 kV34 dc34 pm34 cd34 ct34:Value} {f35:Addr} {od35 an35:Option Addr} {sl35:Array (Option Value)} {oc35 kV35 dc35 pm35 cd35 ct35:Value} {f36:Addr} {od36 an36:Option Addr} {sl36:Array (Option Value)} {oc36 kV36 dc36 pm36 cd36 ct36:Value} {f37:Addr} {od37 an37:Option Addr} {sl37:Array (Option Value)} {oc37 kV37 dc37 pm37 cd37 ct37:Value} {tk_LONGEST_STINT:Tok} {tk_MOST_PIECES:Tok} {tk_MOST_LEVELS:Tok} {tk_MOST_MACHINES:Tok} {tk_FIGURES:Tok} {tk_MOST_FIGURES:Tok} {tk_NOTHING:Tok}
  (aC0:PySem.W.nsIn K mainGlobals "Machine" = some (some (.ref C0)))
  (aC1:PySem.W.nsIn K mainGlobals "Store" = some (some (.ref C1)))
  (aC2:PySem.W.nsIn K mainGlobals "Works" = some (some (.ref C2)))
  (aE0:PySem.W.nsIn K mainGlobals "NoText" = some (some (.ref CE0)))
  (aE1:PySem.W.nsIn K mainGlobals "StintError" = some (some (.ref CE1)))
  (aE2:PySem.W.nsIn K mainGlobals "Wrong" = some (some (.ref CE2)))
  (a0:PySem.W.nsIn K mainGlobals "_law_open" = some (some (.ref f0)))
  (l0:K.lookup f0=some ⟨oc0,od0,.func (PySem.W.fnOf "_law_open" "_law_open" (bL hU) (bI hU) (aH hU) .none kV0 dc0 pm0 an0 cd0 ct0),sl0⟩)
  (c0:PySem.W.codeIn K cd0 "_law_open" = true)
  (k0:W.keepIn K (.ref f0)=true)
  (a1:PySem.W.nsIn K mainGlobals "_law_draw" = some (some (.ref f1)))
  (l1:K.lookup f1=some ⟨oc1,od1,.func (PySem.W.fnOf "_law_draw" "_law_draw" (bL jS) (bI jS) (aH jS) .none kV1 dc1 pm1 an1 cd1 ct1),sl1⟩)
  (c1:PySem.W.codeIn K cd1 "_law_draw" = true)
  (k1:W.keepIn K (.ref f1)=true)
  (a2:PySem.W.nsIn K mainGlobals "_law_far" = some (some (.ref f2)))
  (l2:K.lookup f2=some ⟨oc2,od2,.func (PySem.W.fnOf "_law_far" "_law_far" (bL lE) (bI lE) (aH lE) .none kV2 dc2 pm2 an2 cd2 ct2),sl2⟩)
  (c2:PySem.W.codeIn K cd2 "_law_far" = true)
  (k2:W.keepIn K (.ref f2)=true)
  (a3:PySem.W.nsIn K mainGlobals "is_whole" = some (some (.ref f3)))
  (l3:K.lookup f3=some ⟨oc3,od3,.func (PySem.W.fnOf "is_whole" "is_whole" (bL lF) (bI lF) (aH lF) .none kV3 dc3 pm3 an3 cd3 ct3),sl3⟩)
  (c3:PySem.W.codeIn K cd3 "is_whole" = true)
  (k3:W.keepIn K (.ref f3)=true)
  (a4:PySem.W.nsIn K mainGlobals "is_amount" = some (some (.ref f4)))
  (l4:K.lookup f4=some ⟨oc4,od4,.func (PySem.W.fnOf "is_amount" "is_amount" (bL jT) (bI jT) (aH jT) .none kV4 dc4 pm4 an4 cd4 ct4),sl4⟩)
  (c4:PySem.W.codeIn K cd4 "is_amount" = true)
  (k4:W.keepIn K (.ref f4)=true)
  (a5:PySem.W.findIn K (.ref CE2) "__init__" = some (some (.ref f5)))
  (i5:PySem.W.isFn K (.ref f5)=true)
  (l5:K.lookup f5=some ⟨oc5,od5,.func (PySem.W.fnOf "__init__" "Wrong.__init__" (bL iL) (bI iL) (aH iL) .none kV5 dc5 pm5 an5 cd5 ct5),sl5⟩)
  (c5:PySem.W.codeIn K cd5 "Wrong.__init__" = true)
  (k5:W.keepIn K (.ref f5)=true)
  (a6:PySem.W.nsIn K mainGlobals "number_of" = some (some (.ref f6)))
  (l6:K.lookup f6=some ⟨oc6,od6,.func (PySem.W.fnOf "number_of" "number_of" (bL hV) (bI hV) (aH hV) .none kV6 dc6 pm6 an6 cd6 ct6),sl6⟩)
  (c6:PySem.W.codeIn K cd6 "number_of" = true)
  (k6:W.keepIn K (.ref f6)=true)
  (a7:PySem.W.nsIn K mainGlobals "_law_number" = some (some (.ref f7)))
  (l7:K.lookup f7=some ⟨oc7,od7,.func (PySem.W.fnOf "_law_number" "_law_number" (bL gG) (bI gG) (aH gG) .none kV7 dc7 pm7 an7 cd7 ct7),sl7⟩)
  (c7:PySem.W.codeIn K cd7 "_law_number" = true)
  (k7:W.keepIn K (.ref f7)=true)
  (a8:PySem.W.nsIn K mainGlobals "_law_any_sign" = some (some (.ref f8)))
  (l8:K.lookup f8=some ⟨oc8,od8,.func (PySem.W.fnOf "_law_any_sign" "_law_any_sign" (bL eJ) (bI eJ) (aH eJ) .none kV8 dc8 pm8 an8 cd8 ct8),sl8⟩)
  (c8:PySem.W.codeIn K cd8 "_law_any_sign" = true)
  (k8:W.keepIn K (.ref f8)=true)
  (a9:PySem.W.nsIn K mainGlobals "_law_spoilt" = some (some (.ref f9)))
  (l9:K.lookup f9=some ⟨oc9,od9,.func (PySem.W.fnOf "_law_spoilt" "_law_spoilt" (bL gH) (bI gH) (aH gH) .none kV9 dc9 pm9 an9 cd9 ct9),sl9⟩)
  (c9:PySem.W.codeIn K cd9 "_law_spoilt" = true)
  (k9:W.keepIn K (.ref f9)=true)
  (a10:PySem.W.nsIn K mainGlobals "is_span" = some (some (.ref f10)))
  (l10:K.lookup f10=some ⟨oc10,od10,.func (PySem.W.fnOf "is_span" "is_span" (bL o6) (bI o6) (aH o6) .none kV10 dc10 pm10 an10 cd10 ct10),sl10⟩)
  (c10:PySem.W.codeIn K cd10 "is_span" = true)
  (k10:W.keepIn K (.ref f10)=true)
  (a11:PySem.W.nsIn K mainGlobals "is_piece" = some (some (.ref f11)))
  (l11:K.lookup f11=some ⟨oc11,od11,.func (PySem.W.fnOf "is_piece" "is_piece" (bL lG) (bI lG) (aH lG) .none kV11 dc11 pm11 an11 cd11 ct11),sl11⟩)
  (c11:PySem.W.codeIn K cd11 "is_piece" = true)
  (k11:W.keepIn K (.ref f11)=true)
  (a12:PySem.W.nsIn K mainGlobals "are_pieces" = some (some (.ref f12)))
  (l12:K.lookup f12=some ⟨oc12,od12,.func (PySem.W.fnOf "are_pieces" "are_pieces" (bL eU) (bI eU) (aH eU) .none kV12 dc12 pm12 an12 cd12 ct12),sl12⟩)
  (c12:PySem.W.codeIn K cd12 "are_pieces" = true)
  (k12:W.keepIn K (.ref f12)=true)
  (a13:PySem.W.findIn K (.ref C0) "__init__" = some (some (.ref f13)))
  (i13:PySem.W.isFn K (.ref f13)=true)
  (l13:K.lookup f13=some ⟨oc13,od13,.func (PySem.W.fnOf "__init__" "Machine.__init__" (bL fK) (bI fK) (aH fK) .none kV13 dc13 pm13 an13 cd13 ct13),sl13⟩)
  (c13:PySem.W.codeIn K cd13 "Machine.__init__" = true)
  (k13:W.keepIn K (.ref f13)=true)
  (a14:PySem.W.nsIn K mainGlobals "is_depth" = some (some (.ref f14)))
  (l14:K.lookup f14=some ⟨oc14,od14,.func (PySem.W.fnOf "is_depth" "is_depth" (bL lH) (bI lH) (aH lH) .none kV14 dc14 pm14 an14 cd14 ct14),sl14⟩)
  (c14:PySem.W.codeIn K cd14 "is_depth" = true)
  (k14:W.keepIn K (.ref f14)=true)
  (a15:PySem.W.findIn K (.ref C1) "__init__" = some (some (.ref f15)))
  (i15:PySem.W.isFn K (.ref f15)=true)
  (l15:K.lookup f15=some ⟨oc15,od15,.func (PySem.W.fnOf "__init__" "Store.__init__" (bL iM) (bI iM) (aH iM) .none kV15 dc15 pm15 an15 cd15 ct15),sl15⟩)
  (c15:PySem.W.codeIn K cd15 "Store.__init__" = true)
  (k15:W.keepIn K (.ref f15)=true)
  (a16:PySem.W.nsIn K mainGlobals "are_machines" = some (some (.ref f16)))
  (l16:K.lookup f16=some ⟨oc16,od16,.func (PySem.W.fnOf "are_machines" "are_machines" (bL d9) (bI d9) (aH d9) .none kV16 dc16 pm16 an16 cd16 ct16),sl16⟩)
  (c16:PySem.W.codeIn K cd16 "are_machines" = true)
  (k16:W.keepIn K (.ref f16)=true)
  (a17:PySem.W.findIn K (.ref C2) "__init__" = some (some (.ref f17)))
  (i17:PySem.W.isFn K (.ref f17)=true)
  (l17:K.lookup f17=some ⟨oc17,od17,.func (PySem.W.fnOf "__init__" "Works.__init__" (bL iN) (bI iN) (aH iN) .none kV17 dc17 pm17 an17 cd17 ct17),sl17⟩)
  (c17:PySem.W.codeIn K cd17 "Works.__init__" = true)
  (k17:W.keepIn K (.ref f17)=true)
  (a18:PySem.W.nsIn K mainGlobals "show_machine" = some (some (.ref f18)))
  (l18:K.lookup f18=some ⟨oc18,od18,.func (PySem.W.fnOf "show_machine" "show_machine" (bL dI) (bI dI) (aH dI) .none kV18 dc18 pm18 an18 cd18 ct18),sl18⟩)
  (c18:PySem.W.codeIn K cd18 "show_machine" = true)
  (k18:W.keepIn K (.ref f18)=true)
  (a19:PySem.W.nsIn K mainGlobals "show_store" = some (some (.ref f19)))
  (l19:K.lookup f19=some ⟨oc19,od19,.func (PySem.W.fnOf "show_store" "show_store" (bL fS) (bI fS) (aH fS) .none kV19 dc19 pm19 an19 cd19 ct19),sl19⟩)
  (c19:PySem.W.codeIn K cd19 "show_store" = true)
  (k19:W.keepIn K (.ref f19)=true)
  (a20:PySem.W.nsIn K mainGlobals "show_works" = some (some (.ref f20)))
  (l20:K.lookup f20=some ⟨oc20,od20,.func (PySem.W.fnOf "show_works" "show_works" (bL fT) (bI fT) (aH fT) .none kV20 dc20 pm20 an20 cd20 ct20),sl20⟩)
  (c20:PySem.W.codeIn K cd20 "show_works" = true)
  (k20:W.keepIn K (.ref f20)=true)
  (a21:PySem.W.nsIn K mainGlobals "number_behind" = some (some (.ref f21)))
  (l21:K.lookup f21=some ⟨oc21,od21,.func (PySem.W.fnOf "number_behind" "number_behind" (bL eK) (bI eK) (aH eK) .none kV21 dc21 pm21 an21 cd21 ct21),sl21⟩)
  (c21:PySem.W.codeIn K cd21 "number_behind" = true)
  (k21:W.keepIn K (.ref f21)=true)
  (a22:PySem.W.nsIn K mainGlobals "read_piece" = some (some (.ref f22)))
  (l22:K.lookup f22=some ⟨oc22,od22,.func (PySem.W.fnOf "read_piece" "read_piece" (bL iO) (bI iO) (aH iO) .none kV22 dc22 pm22 an22 cd22 ct22),sl22⟩)
  (c22:PySem.W.codeIn K cd22 "read_piece" = true)
  (k22:W.keepIn K (.ref f22)=true)
  (a23:PySem.W.nsIn K mainGlobals "read_machine" = some (some (.ref f23)))
  (l23:K.lookup f23=some ⟨oc23,od23,.func (PySem.W.fnOf "read_machine" "read_machine" (bL dJ) (bI dJ) (aH dJ) .none kV23 dc23 pm23 an23 cd23 ct23),sl23⟩)
  (c23:PySem.W.codeIn K cd23 "read_machine" = true)
  (k23:W.keepIn K (.ref f23)=true)
  (a24:PySem.W.nsIn K mainGlobals "read_store" = some (some (.ref f24)))
  (l24:K.lookup f24=some ⟨oc24,od24,.func (PySem.W.fnOf "read_store" "read_store" (bL fU) (bI fU) (aH fU) .none kV24 dc24 pm24 an24 cd24 ct24),sl24⟩)
  (c24:PySem.W.codeIn K cd24 "read_store" = true)
  (k24:W.keepIn K (.ref f24)=true)
  (a25:PySem.W.nsIn K mainGlobals "read_works" = some (some (.ref f25)))
  (l25:K.lookup f25=some ⟨oc25,od25,.func (PySem.W.fnOf "read_works" "read_works" (bL fV) (bI fV) (aH fV) .none kV25 dc25 pm25 an25 cd25 ct25),sl25⟩)
  (c25:PySem.W.codeIn K cd25 "read_works" = true)
  (k25:W.keepIn K (.ref f25)=true)
  (a26:PySem.W.nsIn K mainGlobals "_law_amount" = some (some (.ref f26)))
  (l26:K.lookup f26=some ⟨oc26,od26,.func (PySem.W.fnOf "_law_amount" "_law_amount" (bL gI) (bI gI) (aH gI) .none kV26 dc26 pm26 an26 cd26 ct26),sl26⟩)
  (c26:PySem.W.codeIn K cd26 "_law_amount" = true)
  (k26:W.keepIn K (.ref f26)=true)
  (a27:PySem.W.nsIn K mainGlobals "_law_machine_spec" = some (some (.ref f27)))
  (l27:K.lookup f27=some ⟨oc27,od27,.func (PySem.W.fnOf "_law_machine_spec" "_law_machine_spec" (bL bY) (bI bY) (aH bY) .none kV27 dc27 pm27 an27 cd27 ct27),sl27⟩)
  (c27:PySem.W.codeIn K cd27 "_law_machine_spec" = true)
  (k27:W.keepIn K (.ref f27)=true)
  (a28:PySem.W.nsIn K mainGlobals "_law_spec" = some (some (.ref f28)))
  (l28:K.lookup f28=some ⟨oc28,od28,.func (PySem.W.fnOf "_law_spec" "_law_spec" (bL hX) (bI hX) (aH hX) .none kV28 dc28 pm28 an28 cd28 ct28),sl28⟩)
  (c28:PySem.W.codeIn K cd28 "_law_spec" = true)
  (k28:W.keepIn K (.ref f28)=true)
  (a29:PySem.W.nsIn K mainGlobals "_law_made" = some (some (.ref f29)))
  (l29:K.lookup f29=some ⟨oc29,od29,.func (PySem.W.fnOf "_law_made" "_law_made" (bL jU) (bI jU) (aH jU) .none kV29 dc29 pm29 an29 cd29 ct29),sl29⟩)
  (c29:PySem.W.codeIn K cd29 "_law_made" = true)
  (k29:W.keepIn K (.ref f29)=true)
  (a30:PySem.W.nsIn K mainGlobals "_law_line" = some (some (.ref f30)))
  (l30:K.lookup f30=some ⟨oc30,od30,.func (PySem.W.fnOf "_law_line" "_law_line" (bL fN) (bI fN) (aH fN) .none kV30 dc30 pm30 an30 cd30 ct30),sl30⟩)
  (c30:PySem.W.codeIn K cd30 "_law_line" = true)
  (k30:W.keepIn K (.ref f30)=true)
  (a31:PySem.W.nsIn K mainGlobals "_law_fields" = some (some (.ref f31)))
  (l31:K.lookup f31=some ⟨oc31,od31,.func (PySem.W.fnOf "_law_fields" "_law_fields" (bL gJ) (bI gJ) (aH gJ) .none kV31 dc31 pm31 an31 cd31 ct31),sl31⟩)
  (c31:PySem.W.codeIn K cd31 "_law_fields" = true)
  (k31:W.keepIn K (.ref f31)=true)
  (a32:PySem.W.nsIn K mainGlobals "_law_turned" = some (some (.ref f32)))
  (l32:K.lookup f32=some ⟨oc32,od32,.func (PySem.W.fnOf "_law_turned" "_law_turned" (bL gK) (bI gK) (aH gK) .none kV32 dc32 pm32 an32 cd32 ct32),sl32⟩)
  (c32:PySem.W.codeIn K cd32 "_law_turned" = true)
  (k32:W.keepIn K (.ref f32)=true)
  (a33:PySem.W.nsIn K mainGlobals "_law_machine_read" = some (some (.ref f33)))
  (l33:K.lookup f33=some ⟨oc33,od33,.func (PySem.W.fnOf "_law_machine_read" "_law_machine_read" (bL cG) (bI cG) (aH cG) .none kV33 dc33 pm33 an33 cd33 ct33),sl33⟩)
  (c33:PySem.W.codeIn K cd33 "_law_machine_read" = true)
  (k33:W.keepIn K (.ref f33)=true)
  (a34:PySem.W.nsIn K mainGlobals "_law_works_read" = some (some (.ref f34)))
  (l34:K.lookup f34=some ⟨oc34,od34,.func (PySem.W.fnOf "_law_works_read" "_law_works_read" (bL cK) (bI cK) (aH cK) .none kV34 dc34 pm34 an34 cd34 ct34),sl34⟩)
  (c34:PySem.W.codeIn K cd34 "_law_works_read" = true)
  (k34:W.keepIn K (.ref f34)=true)
  (a35:PySem.W.nsIn K mainGlobals "_law_right" = some (some (.ref f35)))
  (l35:K.lookup f35=some ⟨oc35,od35,.func (PySem.W.fnOf "_law_right" "_law_right" (bL iP) (bI iP) (aH iP) .none kV35 dc35 pm35 an35 cd35 ct35),sl35⟩)
  (c35:PySem.W.codeIn K cd35 "_law_right" = true)
  (k35:W.keepIn K (.ref f35)=true)
  (a36:PySem.W.nsIn K mainGlobals "_law_other" = some (some (.ref f36)))
  (l36:K.lookup f36=some ⟨oc36,od36,.func (PySem.W.fnOf "_law_other" "_law_other" (bL iQ) (bI iQ) (aH iQ) .none kV36 dc36 pm36 an36 cd36 ct36),sl36⟩)
  (c36:PySem.W.codeIn K cd36 "_law_other" = true)
  (k36:W.keepIn K (.ref f36)=true)
  (a37:PySem.W.nsIn K mainGlobals "law" = some (some (.ref f37)))
  (l37:K.lookup f37=some ⟨oc37,od37,.func (PySem.W.fnOf "law" "law" (bL aCz) (bI aCz) (aH aCz) .none kV37 dc37 pm37 an37 cd37 ct37),sl37⟩)
  (c37:PySem.W.codeIn K cd37 "law" = true)
  (k37:W.keepIn K (.ref f37)=true)
  (pg0:PySem.W.plainGet K C0 Str.empty=true)
  (hd0:PySem.W.hasDictIn K C0=true)
  (po0:PySem.W.plainOver K C0=true)
  (sa0:PySem.W.findIn K (.ref C0) "__setattr__" = some (some (.builtin "object.__setattr__")))
  (mk0:PySem.W.makesIn K C0=true)
  (kc0:W.keepIn K (.ref C0)=true)
  (n0_up:PySem.W.findIn K (.ref C0) "up" = some none)
  (n0_down:PySem.W.findIn K (.ref C0) "down" = some none)
  (n0_begin:PySem.W.findIn K (.ref C0) "begin" = some none)
  (n0_run:PySem.W.findIn K (.ref C0) "run" = some none)
  (n0_rest:PySem.W.findIn K (.ref C0) "rest" = some none)
  (n0_least:PySem.W.findIn K (.ref C0) "least" = some none)
  (n0_pieces:PySem.W.findIn K (.ref C0) "pieces" = some none)
  (ia0:PySem.W.findIn K (.ref C0) "__class__" = some (some (.builtin "object.__class__")))
  (in0:PySem.W.specialIn K (.builtin "object.__class__") "__get__" = some (some (.builtin "getset_descriptor.__get__")))
  (it0:PySem.W.takesIn K (.builtin "object.__class__")=some true)
  (im0:PySem.W.mroIn K C0 (.type "object")=some true)
  (pg1:PySem.W.plainGet K C1 Str.empty=true)
  (hd1:PySem.W.hasDictIn K C1=true)
  (po1:PySem.W.plainOver K C1=true)
  (sa1:PySem.W.findIn K (.ref C1) "__setattr__" = some (some (.builtin "object.__setattr__")))
  (mk1:PySem.W.makesIn K C1=true)
  (kc1:W.keepIn K (.ref C1)=true)
  (n1_cap:PySem.W.findIn K (.ref C1) "cap" = some none)
  (n1_into:PySem.W.findIn K (.ref C1) "into" = some none)
  (n1_out:PySem.W.findIn K (.ref C1) "out" = some none)
  (n1_takes:PySem.W.findIn K (.ref C1) "takes" = some none)
  (n1_gives:PySem.W.findIn K (.ref C1) "gives" = some none)
  (ia1:PySem.W.findIn K (.ref C1) "__class__" = some (some (.builtin "object.__class__")))
  (in1:PySem.W.specialIn K (.builtin "object.__class__") "__get__" = some (some (.builtin "getset_descriptor.__get__")))
  (it1:PySem.W.takesIn K (.builtin "object.__class__")=some true)
  (im1:PySem.W.mroIn K C1 (.type "object")=some true)
  (pg2:PySem.W.plainGet K C2 Str.empty=true)
  (hd2:PySem.W.hasDictIn K C2=true)
  (po2:PySem.W.plainOver K C2=true)
  (sa2:PySem.W.findIn K (.ref C2) "__setattr__" = some (some (.builtin "object.__setattr__")))
  (mk2:PySem.W.makesIn K C2=true)
  (kc2:W.keepIn K (.ref C2)=true)
  (n2_machines:PySem.W.findIn K (.ref C2) "machines" = some none)
  (n2_store:PySem.W.findIn K (.ref C2) "store" = some none)
  (n2_lack:PySem.W.findIn K (.ref C2) "lack" = some none)
  (ia2:PySem.W.findIn K (.ref C2) "__class__" = some (some (.builtin "object.__class__")))
  (in2:PySem.W.specialIn K (.builtin "object.__class__") "__get__" = some (some (.builtin "getset_descriptor.__get__")))
  (it2:PySem.W.takesIn K (.builtin "object.__class__")=some true)
  (im2:PySem.W.mroIn K C2 (.type "object")=some true)
  (Ega0:PySem.W.findIn K (.ref CE0) "__getattribute__" = some (some (.builtin "BaseException.__getattribute__")))
  (Egx0:PySem.W.findIn K (.ref CE0) "__getattr__" = some none)
  (Eex0:PySem.W.mroIn K CE0 (.type "BaseException")=some true)
  (Esa0:PySem.W.findIn K (.ref CE0) "__setattr__" = some (some (.builtin "object.__setattr__")))
  (Eca0:PySem.W.findIn K (.ref CE0) "__class__" = some (some (.builtin "object.__class__")))
  (Ecg0:PySem.W.specialIn K (.builtin "object.__class__") "__get__" = some (some (.builtin "getset_descriptor.__get__")))
  (Ect0:PySem.W.takesIn K (.builtin "object.__class__")=some true)
  (Emo0:PySem.W.mroIn K CE0 (.type "object")=some true)
  (Ehd0:PySem.W.hasDictIn K CE0=true)
  (Ekp0:W.keepIn K (.ref CE0)=true)
  (Emm0:(PySem.W.clsIn K CE0).any (λcd=>uJ cd.mro && cd.hasDict)=true)
  (Emd0:rZ K CE0=true)
  (Eno0:PySem.W.excIn K CE0 aAi "ValueError.__new__" = true)
  (Ex0_Wrong:PySem.W.exmOne K (.ref CE0) (.ref CE2)=some false)
  (Ex0_StintError:PySem.W.exmOne K (.ref CE0) (.ref CE1)=some true)
  (Ek0_Wrong:PySem.W.kitOne K (.ref CE0) (.ref CE2)=some false)
  (Ek0_NoText:PySem.W.kitOne K (.ref CE0) (.ref CE0)=some true)
  (Ega2:PySem.W.findIn K (.ref CE2) "__getattribute__" = some (some (.builtin "BaseException.__getattribute__")))
  (Egx2:PySem.W.findIn K (.ref CE2) "__getattr__" = some none)
  (Eex2:PySem.W.mroIn K CE2 (.type "BaseException")=some true)
  (Esa2:PySem.W.findIn K (.ref CE2) "__setattr__" = some (some (.builtin "object.__setattr__")))
  (Eca2:PySem.W.findIn K (.ref CE2) "__class__" = some (some (.builtin "object.__class__")))
  (Ecg2:PySem.W.specialIn K (.builtin "object.__class__") "__get__" = some (some (.builtin "getset_descriptor.__get__")))
  (Ect2:PySem.W.takesIn K (.builtin "object.__class__")=some true)
  (Emo2:PySem.W.mroIn K CE2 (.type "object")=some true)
  (Ehd2:PySem.W.hasDictIn K CE2=true)
  (Ekp2:W.keepIn K (.ref CE2)=true)
  (Emm2:(PySem.W.clsIn K CE2).any (λcd=>uJ cd.mro && cd.hasDict)=true)
  (Emd2:rZ K CE2=true)
  (Eat2_at:PySem.W.findIn K (.ref CE2) "at" = some none)
  (Ex2_Wrong:PySem.W.exmOne K (.ref CE2) (.ref CE2)=some true)
  (Ex2_StintError:PySem.W.exmOne K (.ref CE2) (.ref CE1)=some true)
  (Ek2_Wrong:PySem.W.kitOne K (.ref CE2) (.ref CE2)=some true)
  (Ek2_NoText:PySem.W.kitOne K (.ref CE2) (.ref CE0)=some false)
  (aCA:PySem.W.nsIn K mainGlobals "abs" = some none)
  (yT:PySem.W.nsIn K mainGlobals "all" = some none)
  (zU:PySem.W.nsIn K mainGlobals "bool" = some none)
  (fO:PySem.W.nsIn K mainGlobals "enumerate" = some none)
  (aAu:PySem.W.nsIn K mainGlobals "int" = some none)
  (cD:PySem.W.nsIn K mainGlobals "isinstance" = some none)
  (dQ:PySem.W.nsIn K mainGlobals "len" = some none)
  (pM:PySem.W.nsIn K mainGlobals "list" = some none)
  (tW:PySem.W.nsIn K mainGlobals "max" = some none)
  (aBo:PySem.W.nsIn K mainGlobals "min" = some none)
  (jH:PySem.W.nsIn K mainGlobals "range" = some none)
  (pN:PySem.W.nsIn K mainGlobals "sorted" = some none)
  (rF:PySem.W.nsIn K mainGlobals "str" = some none)
  (vY:PySem.W.nsIn K mainGlobals "tuple" = some none)
  (eM:PySem.W.nsIn K mainGlobals "LONGEST_STINT" = some (some (.int 12 tk_LONGEST_STINT)))
  (gN:PySem.W.nsIn K mainGlobals "MOST_PIECES" = some (some (.int 4 tk_MOST_PIECES)))
  (gO:PySem.W.nsIn K mainGlobals "MOST_LEVELS" = some (some (.int 8 tk_MOST_LEVELS)))
  (eO:PySem.W.nsIn K mainGlobals "MOST_MACHINES" = some (some (.int 6 tk_MOST_MACHINES)))
  (o7:PySem.W.nsIn K mainGlobals "FIGURES" = some (some (.str (Str.ofString "0123456789") tk_FIGURES)))
  (fL:PySem.W.nsIn K mainGlobals "MOST_FIGURES" = some (some (.int 20 tk_MOST_FIGURES)))
  (lK:PySem.W.nsIn K mainGlobals "NOTHING" = some (some (.str (Str.ofString "none") tk_NOTHING))) :
  ∃fd:FuncData,(∀(s:Shared) (v:Value),BindsTo s fd ⟨[v],[]⟩ [("_law_script",v)])/\∀base:Heap,K.In base->base.Ns mainGlobals mg->cT l.prog w K mg base tZ 10 fa fd ["_law_script"] (aDJ K):=by
 have e:=hfa.symm.trans (W.mg_of X G a37)
 cases e
 have F0:=cE (st:=hU) l0 c0 k0
 have b0:=F0.binds (ps:=["_law_script","_law_place"]) λ_ _ _ _ _ _ us hl=>by obtain⟨_,_,rfl⟩:=ar2 us hl;rfl
 have F1:=cE (st:=jS) l1 c1 k1
 have b1:=F1.binds (ps:=["_law_hand","_law_many"]) λ_ _ _ _ _ _ us hl=>by obtain⟨_,_,rfl⟩:=ar2 us hl;rfl
 have F2:=cE (st:=lE) l2 c2 k2
 have b2:=F2.binds (ps:=["_law_hand","_law_bound"]) λ_ _ _ _ _ _ us hl=>by obtain⟨_,_,rfl⟩:=ar2 us hl;rfl
 have F3:=cE (st:=lF) l3 c3 k3
 have b3:=F3.binds (ps:=["thing"]) λ_ _ _ _ _ _ us hl=>by obtain⟨_,rfl⟩:=zQ us hl;rfl
 have F4:=cE (st:=jT) l4 c4 k4
 have b4:=F4.binds (ps:=["thing"]) λ_ _ _ _ _ _ us hl=>by obtain⟨_,rfl⟩:=zQ us hl;rfl
 have F5:=cE (st:=iL) l5 c5 k5
 have b5:=F5.binds (ps:=["self","at"]) λ_ _ _ _ _ _ us hl=>by obtain⟨_,_,rfl⟩:=ar2 us hl;rfl
 have F6:=cE (st:=hV) l6 c6 k6
 have b6:=F6.binds (ps:=["word"]) λ_ _ _ _ _ _ us hl=>by obtain⟨_,rfl⟩:=zQ us hl;rfl
 have F7:=cE (st:=gG) l7 c7 k7
 have b7:=F7.binds (ps:=["_law_word"]) λ_ _ _ _ _ _ us hl=>by obtain⟨_,rfl⟩:=zQ us hl;rfl
 have F8:=cE (st:=eJ) l8 c8 k8
 have b8:=F8.binds (ps:=["_law_hand"]) λ_ _ _ _ _ _ us hl=>by obtain⟨_,rfl⟩:=zQ us hl;rfl
 have F9:=cE (st:=gH) l9 c9 k9
 have b9:=F9.binds (ps:=["_law_hand","_law_line_here"]) λ_ _ _ _ _ _ us hl=>by obtain⟨_,_,rfl⟩:=ar2 us hl;rfl
 have F10:=cE (st:=o6) l10 c10 k10
 have b10:=F10.binds (ps:=["thing"]) λ_ _ _ _ _ _ us hl=>by obtain⟨_,rfl⟩:=zQ us hl;rfl
 have F11:=cE (st:=lG) l11 c11 k11
 have b11:=F11.binds (ps:=["thing"]) λ_ _ _ _ _ _ us hl=>by obtain⟨_,rfl⟩:=zQ us hl;rfl
 have F12:=cE (st:=eU) l12 c12 k12
 have b12:=F12.binds (ps:=["thing"]) λ_ _ _ _ _ _ us hl=>by obtain⟨_,rfl⟩:=zQ us hl;rfl
 have F13:=cE (st:=fK) l13 c13 k13
 have b13:=F13.binds (ps:=["self","up","down","begin","run","rest","least","pieces"]) λ_ _ _ _ _ _ us hl=>by obtain⟨_,_,_,_,_,_,_,_,rfl⟩:=ar8 us hl;rfl
 have F14:=cE (st:=lH) l14 c14 k14
 have b14:=F14.binds (ps:=["thing"]) λ_ _ _ _ _ _ us hl=>by obtain⟨_,rfl⟩:=zQ us hl;rfl
 have F15:=cE (st:=iM) l15 c15 k15
 have b15:=F15.binds (ps:=["self","cap","into","out","takes","gives"]) λ_ _ _ _ _ _ us hl=>by obtain⟨_,_,_,_,_,_,rfl⟩:=ar6 us hl;rfl
 have F16:=cE (st:=d9) l16 c16 k16
 have b16:=F16.binds (ps:=["thing"]) λ_ _ _ _ _ _ us hl=>by obtain⟨_,rfl⟩:=zQ us hl;rfl
 have F17:=cE (st:=iN) l17 c17 k17
 have b17:=F17.binds (ps:=["self","machines","store","lack"]) λ_ _ _ _ _ _ us hl=>by obtain⟨_,_,_,_,rfl⟩:=ar4 us hl;rfl
 have F18:=cE (st:=dI) l18 c18 k18
 have b18:=F18.binds (ps:=["machine"]) λ_ _ _ _ _ _ us hl=>by obtain⟨_,rfl⟩:=zQ us hl;rfl
 have F19:=cE (st:=fS) l19 c19 k19
 have b19:=F19.binds (ps:=["store"]) λ_ _ _ _ _ _ us hl=>by obtain⟨_,rfl⟩:=zQ us hl;rfl
 have F20:=cE (st:=fT) l20 c20 k20
 have b20:=F20.binds (ps:=["works"]) λ_ _ _ _ _ _ us hl=>by obtain⟨_,rfl⟩:=zQ us hl;rfl
 have F21:=cE (st:=eK) l21 c21 k21
 have b21:=F21.binds (ps:=["word","ahead"]) λ_ _ _ _ _ _ us hl=>by obtain⟨_,_,rfl⟩:=ar2 us hl;rfl
 have F22:=cE (st:=iO) l22 c22 k22
 have b22:=F22.binds (ps:=["word"]) λ_ _ _ _ _ _ us hl=>by obtain⟨_,rfl⟩:=zQ us hl;rfl
 have F23:=cE (st:=dJ) l23 c23 k23
 have b23:=F23.binds (ps:=["part"]) λ_ _ _ _ _ _ us hl=>by obtain⟨_,rfl⟩:=zQ us hl;rfl
 have F24:=cE (st:=fU) l24 c24 k24
 have b24:=F24.binds (ps:=["part"]) λ_ _ _ _ _ _ us hl=>by obtain⟨_,rfl⟩:=zQ us hl;rfl
 have F25:=cE (st:=fV) l25 c25 k25
 have b25:=F25.binds (ps:=["line"]) λ_ _ _ _ _ _ us hl=>by obtain⟨_,rfl⟩:=zQ us hl;rfl
 have F26:=cE (st:=gI) l26 c26 k26
 have b26:=F26.binds (ps:=["_law_hand"]) λ_ _ _ _ _ _ us hl=>by obtain⟨_,rfl⟩:=zQ us hl;rfl
 have F27:=cE (st:=bY) l27 c27 k27
 have b27:=F27.binds (ps:=["_law_hand"]) λ_ _ _ _ _ _ us hl=>by obtain⟨_,rfl⟩:=zQ us hl;rfl
 have F28:=cE (st:=hX) l28 c28 k28
 have b28:=F28.binds (ps:=["_law_hand"]) λ_ _ _ _ _ _ us hl=>by obtain⟨_,rfl⟩:=zQ us hl;rfl
 have F29:=cE (st:=jU) l29 c29 k29
 have b29:=F29.binds (ps:=["_law_spec_here"]) λ_ _ _ _ _ _ us hl=>by obtain⟨_,rfl⟩:=zQ us hl;rfl
 have F30:=cE (st:=fN) l30 c30 k30
 have b30:=F30.binds (ps:=["_law_spec_here"]) λ_ _ _ _ _ _ us hl=>by obtain⟨_,rfl⟩:=zQ us hl;rfl
 have F31:=cE (st:=gJ) l31 c31 k31
 have b31:=F31.binds (ps:=["_law_works"]) λ_ _ _ _ _ _ us hl=>by obtain⟨_,rfl⟩:=zQ us hl;rfl
 have F32:=cE (st:=gK) l32 c32 k32
 have b32:=F32.binds (ps:=["_law_some","_law_at"]) λ_ _ _ _ _ _ us hl=>by obtain⟨_,_,rfl⟩:=ar2 us hl;rfl
 have F33:=cE (st:=cG) l33 c33 k33
 have b33:=F33.binds (ps:=["_law_part"]) λ_ _ _ _ _ _ us hl=>by obtain⟨_,rfl⟩:=zQ us hl;rfl
 have F34:=cE (st:=cK) l34 c34 k34
 have b34:=F34.binds (ps:=["_law_line_here"]) λ_ _ _ _ _ _ us hl=>by obtain⟨_,rfl⟩:=zQ us hl;rfl
 have F35:=cE (st:=iP) l35 c35 k35
 have b35:=F35.binds (ps:=["_law_line_here"]) λ_ _ _ _ _ _ us hl=>by obtain⟨_,rfl⟩:=zQ us hl;rfl
 have F36:=cE (st:=iQ) l36 c36 k36
 have b36:=F36.binds (ps:=["_law_hand","_law_line_here"]) λ_ _ _ _ _ _ us hl=>by obtain⟨_,_,rfl⟩:=ar2 us hl;rfl
 have F37:=cE (st:=aCz) l37 c37 k37
 have b37:=F37.binds (ps:=["_law_script"]) λ_ _ _ _ _ _ us hl=>by obtain⟨_,rfl⟩:=zQ us hl;rfl
 have tx:Txt K mg { pX:=f0,pY:=_,pZ:=f1,p0:=_,sD:=f2,sE:=_,sG:=f3,sI:=_,p9:=f4,qA:=_,kD:=f5,nS:=_,qB:=f6,qC:=_,lT:=f7,lU:=_,jB:=f8,jC:=_,lV:=f9,lX:=_,vT:=f10,vU:=_,sJ:=f11,sL:=_,nU:=f12,nV:=_,kE:=f13,kF:=_,sM:=f14,sO:=_,nW:=f15,nX:=_,kG:=f16,kH:=_,nY:=f17,nZ:=_,kI:=f18,kJ:=_,n0:=f19,oA:=_,oB:=f20,oE:=_,jD:=f21,jE:=_,oF:=f22,oG:=_,kK:=f23,kL:=_,oH:=f24,oI:=_,oJ:=f25,oK:=_,lY:=f26,lZ:=_,fE:=f27,fF:=_,qD:=f28,qE:=_,qF:=f29,qG:=_,qH:=f30,qI:=_,mB:=f31,mC:=_,mD:=f32,mE:=_,fG:=f33,fH:=_,gQ:=f34,gR:=_,oM:=f35,oN:=_,oO:=f36,oP:=_,aF3:=fa,aF4:=_,bO:=C0,cZ:=C1,fJ:=C2,aV:=CE0,oQ:=CE1,bW:=CE2 }:={ uO:=F0,aAm:=b0,aAn:=W.mg_of X G a0,bD:=F1,bG:=b1,bH:=W.mg_of X G a1,xG:=F2,aBk:=b2,aBl:=W.mg_of X G a2,pG:=F3,sP:=b3,sQ:=W.mg_of X G a3,dM:=F4,dS:=b4,dU:=W.mg_of X G a4,yF:=F5,oR:=b5,iD:=F6,jV:=b6,jW:=W.mg_of X G a6,eX:=F7,gL:=b7,gM:=W.mg_of X G a7,nH:=F8,tS:=b8,tT:=W.mg_of X G a8,qS:=F9,wN:=b9,wO:=W.mg_of X G a9,vV:=F10,zR:=b10,zS:=W.mg_of X G a10,xH:=F11,aBm:=b11,aBn:=W.mg_of X G a11,sR:=F12,yG:=b12,yH:=W.mg_of X G a12,uP:=F13,pH:=b13,pI:=F14,sS:=b14,sU:=W.mg_of X G a14,yI:=F15,sV:=b15,pJ:=F16,uQ:=b16,uR:=W.mg_of X G a16,yJ:=F17,sW:=b17,pK:=F18,uS:=b18,uT:=W.mg_of X G a18,sX:=F19,yK:=b19,yL:=W.mg_of X G a19,oS:=F20,sY:=b20,sZ:=W.mg_of X G a20,nI:=F21,tU:=b21,tV:=W.mg_of X G a21,tD:=F22,yM:=b22,yN:=W.mg_of X G a22,pL:=F23,uU:=b23,uV:=W.mg_of X G a23,tE:=F24,yO:=b24,yP:=W.mg_of X G a24,oU:=F25,tF:=b25,tG:=W.mg_of X G a25,dW:=F26,eY:=b26,eZ:=W.mg_of X G a26,iW:=F27,nK:=b27,nL:=W.mg_of X G a27,uW:=F28,aAo:=b28,aAp:=W.mg_of X G a28,uX:=F29,aAq:=b29,aAr:=W.mg_of X G a29,uY:=F30,aAs:=b30,aAt:=W.mg_of X G a30,mF:=F31,qT:=b31,qU:=W.mg_of X G a31,mG:=F32,qV:=b32,qW:=W.mg_of X G a32,iX:=F33,nM:=b33,nN:=W.mg_of X G a33,kM:=F34,qJ:=b34,qK:=W.mg_of X G a34,kN:=F35,oV:=b35,oW:=W.mg_of X G a35,tH:=F36,yQ:=b36,yR:=W.mg_of X G a36,aKz:=F37,aNn:=b37,aNo:=W.mg_of X G a37,cA:=⟨pg0,hd0,po0,sa0⟩,vW:=W.mg_of X G aC0,zT:=⟨mk0,a13,i13,kc0⟩,oX:=n0_up,kO:=n0_down,jF:=n0_begin,mH:=n0_run,kP:=n0_rest,jG:=n0_least,iT:=n0_pieces,i_Machine:=⟨ia0,in0,it0,im0⟩,eW:=⟨pg1,hd1,po1,sa1⟩,aAV:=W.mg_of X G aC1,aDj:=⟨mk1,a15,i15,kc1⟩,qL:=n1_cap,oY:=n1_into,qM:=n1_out,mI:=n1_takes,mK:=n1_gives,i_Store:=⟨ia1,in1,it1,im1⟩,kQ:=⟨pg2,hd2,po2,sa2⟩,aAW:=W.mg_of X G aC2,aDk:=⟨mk2,a17,i17,kc2⟩,iU:=n2_machines,mL:=n2_store,oZ:=n2_lack,i_Works:=⟨ia2,in2,it2,im2⟩,iE:=W.mg_of X G aE0,Z_NoText:=⟨⟨Ega0,Egx0,Eex0⟩,Esa0,Eca0,Ecg0,Ect0,Emo0,Ehd0,Emm0,Emd0,Ekp0⟩,ex_NoText:=Eno0,x_NoText_Wrong:=Ex0_Wrong,x_NoText_StintError:=Ex0_StintError,k_NoText_Wrong:=Ek0_Wrong,k_NoText_NoText:=Ek0_NoText,yS:=W.mg_of X G aE1,vX:=W.mg_of X G aE2,Z_Wrong:=⟨⟨Ega2,Egx2,Eex2⟩,Esa2,Eca2,Ecg2,Ect2,Emo2,Ehd2,Emm2,Emd2,Ekp2⟩,fi_Wrong:=a5,ff_Wrong:=i5,ni_Wrong_at:=Eat2_at,x_Wrong_Wrong:=Ex2_Wrong,x_Wrong_StintError:=Ex2_StintError,k_Wrong_Wrong:=Ek2_Wrong,k_Wrong_NoText:=Ek2_NoText,aCA:=PySem.W.mg_none_of X G aCA,yT:=PySem.W.mg_none_of X G yT,zU:=PySem.W.mg_none_of X G zU,fO:=PySem.W.mg_none_of X G fO,aAu:=PySem.W.mg_none_of X G aAu,cD:=PySem.W.mg_none_of X G cD,dQ:=PySem.W.mg_none_of X G dQ,pM:=PySem.W.mg_none_of X G pM,tW:=PySem.W.mg_none_of X G tW,aBo:=PySem.W.mg_none_of X G aBo,jH:=PySem.W.mg_none_of X G jH,pN:=PySem.W.mg_none_of X G pN,rF:=PySem.W.mg_none_of X G rF,vY:=PySem.W.mg_none_of X G vY,eM:=⟨_,W.mg_of X G eM⟩,gN:=⟨_,W.mg_of X G gN⟩,gO:=⟨_,W.mg_of X G gO⟩,eO:=⟨_,W.mg_of X G eO⟩,o7:=⟨_,W.mg_of X G o7⟩,fL:=⟨_,W.mg_of X G fL⟩,lK:=⟨_,W.mg_of X G lK⟩ }
 exact⟨_,λs v=>.of_eq rfl,λbase _ _=>aMz tx⟩
theorem walk{l:PySem.W.OpenLaw}{q:Program}{loose:List Str}{XP:(Str->Option Value)->Heap->Prop}{YP:World->Heap->Prop}{d:DefRec}{K:Params->W.Frag}(hn:l.most=some 63)(hdf:d.params.defaults=[])
  (hY:∀(w:World) (h:Heap),YP w h->(K w.params).In h)
  (F:∀(w:World) (mg:Str->Option Value) (fa:Addr) (h:Heap),(K w.params).In h->h.Ns mainGlobals mg->mg d.name=some (.ref fa)->
   ∃fd:FuncData,(∀(s:Shared) (u:Value),BindsTo s fd ⟨[u],[]⟩ [("_law_script",u)])/\∀base:Heap,(K w.params).In base->base.Ns mainGlobals mg->cT l.prog w (K w.params) mg base tZ 10 fa fd ["_law_script"] (aDJ (K w.params))) :
  PySem.W.WalkO q loose XP YP l.row.toRowW d [] (λf vs=>PySem.call f vs):=
 L2.aJo (n:=63) (k:=10) (x:="_law_script") (CX:=λ_=>tZ) (sp:=λw=>aDJ (K w.params)) hn (by decide) hdf ⟨rfl,by decide,by decide⟩ hY F (λ_ _ a ns hl _ hS=>⟨a,ns,rfl,hS,hl,λ_=>rfl⟩) λ_ _ _ _ _ z=>z
end My
open PySem PySem.W PyProof.Rows
set_option maxRecDepth 100000 in
theorem PySem.Challenge.cw_stintwise_k99_works_as_lines_holds : PySem.Challenge.rw_stintwise_k99_works_as_lines.Holds := by
 w_on;o_law;k_head;(case hw=>w_witness2)
 k_fill
 refine My.walk (l:=PySem.Challenge.rw_stintwise_k99_works_as_lines) rfl rfl (λw h Y=>PySem.W.kIn_of Y) ?F
 case F=>
  intro w mg fa h KX G hmg
  refine' My.all_mk KX G hmg ?aC0 ?aC1 ?aC2 ?aE0 ?aE1 ?aE2 ?a0 ?l0 ?c0 ?k0 ?a1 ?l1 ?c1 ?k1 ?a2 ?l2 ?c2 ?k2 ?a3 ?l3 ?c3 ?k3 ?a4 ?l4 ?c4 ?k4 ?a5 ?i5 ?l5 ?c5 ?k5 ?a6 ?l6 ?c6 ?k6 ?a7 ?l7 ?c7 ?k7 ?a8 ?l8 ?c8 ?k8 ?a9 ?l9 ?c9 ?k9 ?a10 ?l10 ?c10 ?k10 ?a11 ?l11 ?c11 ?k11 ?a12 ?l12 ?c12 ?k12 ?a13 ?i13 ?l13 ?c13 ?k13 ?a14 ?l14 ?c14 ?k14 ?a15 ?i15 ?l15 ?c15 ?k15 ?a16 ?l16 ?c16 ?k16 ?a17 ?i17 ?l17 ?c17 ?k17 ?a18 ?l18 ?c18 ?k18 ?a19 ?l19 ?c19 ?k19 ?a20 ?l20 ?c20 ?k20 ?a21 ?l21 ?c21 ?k21 ?a22 ?l22 ?c22 ?k22 ?a23 ?l23 ?c23 ?k23 ?a24 ?l24 ?c24 ?k24 ?a25 ?l25 ?c25 ?k25 ?a26 ?l26 ?c26 ?k26 ?a27 ?l27 ?c27 ?k27 ?a28 ?l28 ?c28 ?k28 ?a29 ?l29 ?c29 ?k29 ?a30 ?l30 ?c30 ?k30 ?a31 ?l31 ?c31 ?k31 ?a32 ?l32 ?c32 ?k32 ?a33 ?l33 ?c33 ?k33 ?a34 ?l34 ?c34 ?k34 ?a35 ?l35 ?c35 ?k35 ?a36 ?l36 ?c36 ?k36 ?a37 ?l37 ?c37 ?k37 ?pg0 ?hd0 ?po0 ?sa0 ?mk0 ?kc0 ?n0_up ?n0_down ?n0_begin ?n0_run ?n0_rest ?n0_least ?n0_pieces ?ia0 ?in0 ?it0 ?im0 ?pg1 ?hd1 ?po1 ?sa1 ?mk1 ?kc1 ?n1_cap ?n1_into ?n1_out ?n1_takes ?n1_gives ?ia1 ?in1 ?it1 ?im1 ?pg2 ?hd2 ?po2 ?sa2 ?mk2 ?kc2 ?n2_machines ?n2_store ?n2_lack ?ia2 ?in2 ?it2 ?im2 ?Ega0 ?Egx0 ?Eex0 ?Esa0 ?Eca0 ?Ecg0 ?Ect0 ?Emo0 ?Ehd0 ?Ekp0 ?Emm0 ?Emd0 ?Eno0 ?Ex0_Wrong ?Ex0_StintError ?Ek0_Wrong ?Ek0_NoText ?Ega2 ?Egx2 ?Eex2 ?Esa2 ?Eca2 ?Ecg2 ?Ect2 ?Emo2 ?Ehd2 ?Ekp2 ?Emm2 ?Emd2 ?Eat2_at ?Ex2_Wrong ?Ex2_StintError ?Ek2_Wrong ?Ek2_NoText ?aCA ?yT ?zU ?fO ?aAu ?cD ?dQ ?pM ?tW ?aBo ?jH ?pN ?rF ?vY ?eM ?gN ?gO ?eO ?o7 ?fL ?lK
  (case aC0=>k_is);(case aC1=>k_is);(case aC2=>k_is);(case aE0=>k_is);(case aE1=>k_is);(case aE2=>k_is);(case a0=>k_is);(case l0=>k_is)
  (case c0=>k_is);(case k0=>k_is);(case a1=>k_is);(case l1=>k_is);(case c1=>k_is);(case k1=>k_is);(case a2=>k_is);(case l2=>k_is)
  (case c2=>k_is);(case k2=>k_is);(case a3=>k_is);(case l3=>k_is);(case c3=>k_is);(case k3=>k_is);(case a4=>k_is);(case l4=>k_is)
  (case c4=>k_is);(case k4=>k_is);(case a5=>k_is);(case i5=>k_is);(case l5=>k_is);(case c5=>k_is);(case k5=>k_is);(case a6=>k_is)
  (case l6=>k_is);(case c6=>k_is);(case k6=>k_is);(case a7=>k_is);(case l7=>k_is);(case c7=>k_is);(case k7=>k_is);(case a8=>k_is)
  (case l8=>k_is);(case c8=>k_is);(case k8=>k_is);(case a9=>k_is);(case l9=>k_is);(case c9=>k_is);(case k9=>k_is);(case a10=>k_is)
  (case l10=>k_is);(case c10=>k_is);(case k10=>k_is);(case a11=>k_is);(case l11=>k_is);(case c11=>k_is);(case k11=>k_is);(case a12=>k_is)
  (case l12=>k_is);(case c12=>k_is);(case k12=>k_is);(case a13=>k_is);(case i13=>k_is);(case l13=>k_is);(case c13=>k_is);(case k13=>k_is)
  (case a14=>k_is);(case l14=>k_is);(case c14=>k_is);(case k14=>k_is);(case a15=>k_is);(case i15=>k_is);(case l15=>k_is);(case c15=>k_is)
  (case k15=>k_is);(case a16=>k_is);(case l16=>k_is);(case c16=>k_is);(case k16=>k_is);(case a17=>k_is);(case i17=>k_is);(case l17=>k_is)
  (case c17=>k_is);(case k17=>k_is);(case a18=>k_is);(case l18=>k_is);(case c18=>k_is);(case k18=>k_is);(case a19=>k_is);(case l19=>k_is)
  (case c19=>k_is);(case k19=>k_is);(case a20=>k_is);(case l20=>k_is);(case c20=>k_is);(case k20=>k_is);(case a21=>k_is);(case l21=>k_is)
  (case c21=>k_is);(case k21=>k_is);(case a22=>k_is);(case l22=>k_is);(case c22=>k_is);(case k22=>k_is);(case a23=>k_is);(case l23=>k_is)
  (case c23=>k_is);(case k23=>k_is);(case a24=>k_is);(case l24=>k_is);(case c24=>k_is);(case k24=>k_is);(case a25=>k_is);(case l25=>k_is)
  (case c25=>k_is);(case k25=>k_is);(case a26=>k_is);(case l26=>k_is);(case c26=>k_is);(case k26=>k_is);(case a27=>k_is);(case l27=>k_is)
  (case c27=>k_is);(case k27=>k_is);(case a28=>k_is);(case l28=>k_is);(case c28=>k_is);(case k28=>k_is);(case a29=>k_is);(case l29=>k_is)
  (case c29=>k_is);(case k29=>k_is);(case a30=>k_is);(case l30=>k_is);(case c30=>k_is);(case k30=>k_is);(case a31=>k_is);(case l31=>k_is)
  (case c31=>k_is);(case k31=>k_is);(case a32=>k_is);(case l32=>k_is);(case c32=>k_is);(case k32=>k_is);(case a33=>k_is);(case l33=>k_is)
  (case c33=>k_is);(case k33=>k_is);(case a34=>k_is);(case l34=>k_is);(case c34=>k_is);(case k34=>k_is);(case a35=>k_is);(case l35=>k_is)
  (case c35=>k_is);(case k35=>k_is);(case a36=>k_is);(case l36=>k_is);(case c36=>k_is);(case k36=>k_is);(case a37=>k_is);(case l37=>k_is)
  (case c37=>k_is);(case k37=>k_is);(case pg0=>k_is);(case hd0=>k_is);(case po0=>k_is);(case sa0=>k_is);(case mk0=>k_is);(case kc0=>k_is)
  (case n0_up=>k_is);(case n0_down=>k_is);(case n0_begin=>k_is);(case n0_run=>k_is);(case n0_rest=>k_is);(case n0_least=>k_is);(case n0_pieces=>k_is);(case ia0=>k_is)
  (case in0=>k_is);(case it0=>k_is);(case im0=>k_is);(case pg1=>k_is);(case hd1=>k_is);(case po1=>k_is);(case sa1=>k_is);(case mk1=>k_is)
  (case kc1=>k_is);(case n1_cap=>k_is);(case n1_into=>k_is);(case n1_out=>k_is);(case n1_takes=>k_is);(case n1_gives=>k_is);(case ia1=>k_is);(case in1=>k_is)
  (case it1=>k_is);(case im1=>k_is);(case pg2=>k_is);(case hd2=>k_is);(case po2=>k_is);(case sa2=>k_is);(case mk2=>k_is);(case kc2=>k_is)
  (case n2_machines=>k_is);(case n2_store=>k_is);(case n2_lack=>k_is);(case ia2=>k_is);(case in2=>k_is);(case it2=>k_is);(case im2=>k_is);(case Ega0=>k_is)
  (case Egx0=>k_is);(case Eex0=>k_is);(case Esa0=>k_is);(case Eca0=>k_is);(case Ecg0=>k_is);(case Ect0=>k_is);(case Emo0=>k_is);(case Ehd0=>k_is)
  (case Ekp0=>k_is);(case Emm0=>kernel_rfl);(case Emd0=>kernel_rfl);(case Eno0=>kernel_rfl);(case Ex0_Wrong=>kernel_rfl);(case Ex0_StintError=>kernel_rfl);(case Ek0_Wrong=>kernel_rfl);(case Ek0_NoText=>kernel_rfl)
  (case Ega2=>k_is);(case Egx2=>k_is);(case Eex2=>k_is);(case Esa2=>k_is);(case Eca2=>k_is);(case Ecg2=>k_is);(case Ect2=>k_is);(case Emo2=>k_is)
  (case Ehd2=>k_is);(case Ekp2=>k_is);(case Emm2=>kernel_rfl);(case Emd2=>kernel_rfl);(case Eat2_at=>k_is);(case Ex2_Wrong=>kernel_rfl);(case Ex2_StintError=>kernel_rfl);(case Ek2_Wrong=>kernel_rfl)
  (case Ek2_NoText=>kernel_rfl);(case aCA=>k_is);(case yT=>k_is);(case zU=>k_is);(case fO=>k_is);(case aAu=>k_is);(case cD=>k_is);(case dQ=>k_is)
  (case pM=>k_is);(case tW=>k_is);(case aBo=>k_is);(case jH=>k_is);(case pN=>k_is);(case rF=>k_is);(case vY=>k_is);(case eM=>k_is)
  (case gN=>k_is);(case gO=>k_is);(case eO=>k_is);(case o7=>k_is);(case fL=>k_is);(case lK=>k_is)
