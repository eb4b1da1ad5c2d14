import PyProof.Rows.All
import Wide.All
import OpenK.AllK
import Wide.FinOn
import Lean
import PyProof.EqAt
import PyProof.EqKinds
import PyProof.NeKinds
import PyProof.TupleCall
import KE.KDictSum
import KE.KSortTup
import PyProof.SetRoads
import PyProof.Rows.SetFrom
import KE.KLam
import KE.KNestM
import PyProof.DictItems
import PyProof.DictValues
import PyProof.Rows.TupDisplay
import KE.KItemsList
import KE.KDictOf
import PyProof.AttrMissHeap
import PySem.Challenge.RW_stintwise_k46_papers_spoilt
set_option Elab.async false
set_option linter.all false
set_option maxRecDepth 100000
namespace PySem.W.Fast
def tw143075531496416753:=()
def tw9734507876877151519:=()
def tw9275125821364312076:=()
def tw10429212620295270918:=()
def tw17273244191480234268:=()
def tw11194536826392760278:=()
def tw10792677330852447194:=()
def tw7185784537916202471:=()
def tw12468434407315832881:=()
def tw9685957365343211164:=()
def tw418458842118019731:=()
def tw1883243564172655516:=()
def tw16720400812870426239:=()
def tw14919202822038008337:=()
def tw10217155743876389018:=()
def tw9047008958370295048:=()
def tw16868533514373010645:=()
def tw17252864731900997670:=()
def tw4637314802629629584:=()
def tw6138662597798548748:=()
def tw10496217977680145984:=()
def tw2862467567874393794:=()
def tw12334513110194152602:=()
def tw14575604711241947965:=()
def tw17253593333321087614:=()
def tw7002476270119538832:=()
def tw1583880314984430046:=()
def tw11988440184575550103:=()
def tw18018313642612919493:=()
def tw13142082855839332738:=()
def tw12898607976104335615:=()
def tw16029937410199809148:=()
def tw1070742082087789876:=()
def tw6375421000366820366:=()
def tw1551262433658808136:=()
def tw10069639365996415320:=()
def tw6338181273011768506:=()
def tw6789155844215001436:=()
def tw14976552038725421395:=()
def tw5225199958456184101:=()
def tw8522460636904624999:=()
def tw816519829714773681:=()
def tw5656928686412123755:=()
def tw16491633909728292564:=()
def tw10939268388629752939:=()
def tw14498239383319292097:=()
def tw9417795958583519819:=()
def tw2060362619364422972:=()
def tw4843083093348390818:=()
def tw14264147259461728317:=()
def tw11338030921801592264:=()
def tw13873014688048915357:=()
def tw9263018434411967843:=()
def tw9881668202187440921:=()
def tw4361183836321843934:=()
def tw18337983063705841392:=()
def tw8281277954934379667:=()
def tw6120820380315245664:=()
def tw1099956054474651318:=()
def tw4495870486197689018:=()
def tw8045202902693415390:=()
def tw15808350620072604935:=()
def tw12636410223399538088:=()
def tw15569644736700528846:=()
def tw11474007590989449672:=()
def tw4131107988030917362:=()
def tw11552607871313369330:=()
def tw11817943588122251741:=()
def tw2336774911301450567:=()
def tw16410787520408484684:=()
def tw11598681345458673542:=()
def tw8916540180135435629:=()
def tw9991931601320765349:=()
def tw3096797638610565804:=()
def tw13828831459967497095:=()
def tw11277931008912325536:=()
def tw6092010843142513921:=()
def tw10721078481387760400:=()
def tw1897592258425883597:=()
def tw10509299144815640792:=()
def tw1018355183481743964:=()
def tw213012451943774214:=()
def tw9241329967853025868:=()
def tw13469544571616305626:=()
def tw11031556601861951588:=()
def tw7899982455688825800:=()
def tw2869481817265392431:=()
def tw2581665236829816709:=()
def tw14286922175956437851:=()
def tw1849449530331927797:=()
def tw9282551947067153693:=()
def tw18321731775678380970:=()
def tw14347719539747113650:=()
def tw8295219284727765579:=()
def tw7670869955956008430:=()
def tw15568295605386015021:=()
def tw7467583861372480481:=()
def tw11072755607876160892:=()
def tw224947737405925238:=()
def tw12332969926800478844:=()
def tw15470282291039115089:=()
def tw5386881484515606140:=()
def tw742187704948326231:=()
def tw17067480076511352648:=()
def tw4411013654931694670:=()
def tw9199676496758357255:=()
def tw16548662099833958155:=()
def tw15624775835965710388:=()
def tw16782201027725524598:=()
def tw2217971976522985781:=()
def tw17789425563601256861:=()
def tw12065682794249094660:=()
def tw13663258289506596309:=()
def tw8090968959801609522:=()
def tw1027427262480528493:=()
def tw10705852685450494533:=()
def tw308364671787038613:=()
def tw11233134328602607216:=()
def tw8825768533138697282:=()
def tw9230089419689007426:=()
def tw18250550413722003491:=()
def tw1257018018377095565:=()
def tw9645961014353934812:=()
def tw5877021086851468069:=()
def tw927801358406028758:=()
def tw16833070459364573976:=()
def tw14419971528107711979:=()
def tw7813108955419536804:=()
def tw11079865911784675496:=()
def tw4101299623619226629:=()
def tw15754426876672665628:=()
def tw13169542611334250386:=()
def tw9375630363623766653:=()
def tw3302325398141170946:=()
def tw3409015004477116788:=()
def tw6702006378734262957:=()
def tw13835444473014845764:=()
def tw3612376911999051432:=()
def tw17747931168709403170:=()
def tw2982461191662544751:=()
def tw12356650515550217183:=()
def tw16422534696380188383:=()
def tw602862153347091932:=()
def tw15379537804923489874:=()
def tw18071377239472590853:=()
def tw4745403650531506451:=()
def tw3543703596965127058:=()
def tw13226191844865938613:=()
def tw1971466186049642150:=()
def tw9015991864336717552:=()
def tw14438770964335570608:=()
def tw9676577150887732132:=()
def tw16271129026305711350:=()
def tw12595498532436699752:=()
def tw1950401608700635041:=()
def tw14942776841739453678:=()
def tw12028169050335671431:=()
def tw14318807724414260806:=()
def tw14934105126014123501:=()
def tw12466138757936168223:=()
def tw4593367075370236738:=()
def tw16981693218804229548:=()
def tw6994576807935310684:=()
def tw17027720505819297032:=()
def tw14945904181077327486:=()
def tw10248108077419646564:=()
def tw17270053051360585340:=()
def tw3076873412676213321:=()
def tw9938852226372434205:=()
def tw5836740609973458011:=()
def tw3334829822809667567:=()
def tw13429091452269371651:=()
def tw12631606281806903946:=()
def tw3013149097146618740:=()
def tw5097377952442030201:=()
def tw3781703191039720821:=()
def tw2513473636017108:=()
def tw6847854681302086091:=()
def tw9592187110304321108:=()
def tw892914143296778488:=()
def tw4166388655792334994:=()
def tw6748719489360637605:=()
def tw4954408085199429304:=()
def tw10474709238541755318:=()
def tw12899454946242812846:=()
def tw15273542726916673642:=()
def tw10541174323421117913:=()
def tw10881230638546224433:=()
def tw6932204719798083342:=()
def tw5169642211634987460:=()
def tw5611450724333797745:=()
def tw15666195740880800526:=()
def tw4211397998958279732:=()
def tw15853019107319514599:=()
def tw4289408013546538702:=()
def tw975765711493493309:=()
def tw16913510319714078845:=()
def tw12345825992054521357:=()
def tw13428173643818571529:=()
def tw8139526201576567465:=()
def tw18342648931437018356:=()
def tw11465693987972583257:=()
def tw13541487227654111397:=()
end PySem.W.Fast
set_option maxHeartbeats 0
def dF:=@List.getElem?_eq_getElem
def cD:=@List.length_map
def lG:=@List.getElem?_eq_some_iff
def iW:=@List.mem_of_getElem?
def lV:=@PySem.Heap.get?_push_of_some
def jV:=@List.size_toArray
def dQ:=@Nat.le_refl
def iI:=@List.map_append
def hX:=@PySem.Heap.lt_size
def sN:=@PySem.Heap.get?_push_size
def sO:=@List.length_append
def qB:=@List.getElem?_map
def uU:=@Nat.lt_of_lt_of_le
def lW:=@List.mem_cons
def Qo9:=@List.getD_eq_getElem?_getD
def uV:=@List.length_take
def Qq9:=@List.getElem?_append_left
def yL:=@Bool.false_eq_true
def Qs9:=@Option.map_eq_some_iff
def Qt9:=@List.mem_cons_of_mem
def zH:=@Bool.false_ne_true
def zJ:=@List.mem_singleton
def o8:=@List.mem_map
def pP:=@Nat.ne_of_lt
def yM:=@List.length_cons
def Qz9:=@List.getElem?_append_right
def Ra9:=@Array.getElem?_toList
def Rb9:=@List.take_length
def Rc9:=@List.mem_cons_self
def Rd9:=@Array.getElem?_eq_getElem
def Re9:=@Array.length_toList
def Rf9:=@List.mem_append
def Rg9:=@List.map_cons
def Rh9:=@Bool.and_false
def Ri9:=@List.pairwise_map
def zK:=@Nat.le_trans
def Rk9:=@List.getElem_mem
def Rl9:=@Array.getElem?_eq_some_iff
def Rm9:=@List.getElem?_of_mem
def Rn9:=@List.mem_range
def Ro9:=@List.mem_append_right
def Rp9:=@List.map_map
def zL:=@Nat.zero_le
def Rr9:=@List.lookup_cons
def Rs9:=@List.nodup_cons
def Rt9:=@List.getElem?_set_self
def Ru9:=@Int.toNat_natCast
def Rv9:=@List.length_set
def Rw9:=@Array.getD_eq_getD_getElem?
def Rx9:=@Bool.false_and
def Ry9:=@List.all_eq_true
def Rz9:=@List.mem_or_eq_of_mem_set
def Sa9:=@List.getElem?_set_ne
def Sb9:=@List.take_of_length_le
def Sc9:=@List.filter_append
def Sd9:=@PySem.Heap.get?_update_self
def Se9:=@List.length_singleton
def Sf9:=@List.length_drop
def Sg9:=@List.take_add_one
def Sh9:=@List.eraseIdx_eq_take_drop_succ
def Si9:=@List.append_nil
def Sj9:=@Bool.and_eq_true
def Sk9:=@List.not_mem_nil
def Sl9:=@List.mem_iff_getElem?
def Sm9:=@Nat.lt_irrefl
def Sn9:=@List.nodup_append
def So9:=@List.mem_filter
def Sp9:=@List.filterMap_cons
def Sq9:=@List.replicate_succ
def Sr9:=@List.find?_cons
def Ss9:=@List.length_reverse
def St9:=@Array.getElem?_eq_none
def Su9:=@List.getElem?_eq_none
def Sv9:=@Nat.add_sub_cancel
def Sw9:=@Int.emod_lt_of_pos
def Sx9:=@List.length_filter_le
def Sy9:=@List.nodup_nil
def Sz9:=@List.append_assoc
def Ta9:=@Nat.lt_succ_of_lt
def Tb9:=@Bool.true_and
def Tc9:=@List.length_pos_iff
def Td9:=@Bool.not_true
def Te9:=@Nat.lt_succ_self
def Tf9:=@Option.getD_some
def Tg9:=@List.filter_cons
def Th9:=@PySem.Heap.size_push
def Ti9:=@List.getElem?_drop
def Tj9:=@Nat.ne_of_gt
def Tk9:=@Int.emod_nonneg
def Tl9:=@Nat.sub_self
def Tm9:=@List.getElem?_reverse
def Tn9:=@List.getElem_toArray
def To9:=@List.getElem?_zip_eq_some
def Tp9:=@List.any_eq_true
def Tq9:=@List.map_congr_left
def Tr9:=@Nat.le_of_lt
def Ts9:=@List.getElem?_take_of_lt
def Tt9:=@List.mem_filterMap
def Tu9:=@List.of_mem_zip
def Tv9:=@List.getElem?_replicate
def Tw9:=@List.length_nil
def Tx9:=@List.filter_cons_of_pos
def Ty9:=@List.map_inj_right
def Tz9:=@List.filter_eq_nil_iff
def Ua9:=@List.flatten_cons
def Ub9:=@PySem.Heap.get?_push_ne
def Uc9:=@Nat.le_of_lt_succ
def Ud9:=@List.pairwise_reverse
def Ue9:=@Nat.add_zero
def Uf9:=@List.filterMap_append
def Ug9:=@List.getElem_inj
def Uh9:=@PySem.Heap.size_update
def Ui9:=@List.mem_reverse
def Uj9:=@List.map_fst_zip
def Uk9:=@Nat.le_succ
def Ul9:=@Nat.le_of_eq
def Um9:=@Nat.sub_zero
namespace L2
open PySem PySem.Spec PyProof.Rows
abbrev Key:=Sum Int Str
def aCs:Key->Value->Bool
 |.inl k,v=>Value.isInt k v
 |.inr x,v=>Value.isStrOf x v
def aPm(w:World):Key->Int
 |.inl k=>hashInt k
 |.inr x=>hashStr w x
theorem eC:∀{k:Key}{v:Value},aCs k v=true->(∃i t,k=Sum.inl i/\v=Value.int i t)\/(∃x t,k=Sum.inr x/\v=Value.str x t)
 |.inl i,v,h=>by
  obtain⟨t,e⟩:=Value.isInt_shape (k:=i) (v:=v) h
  exact .inl ⟨i,t,rfl,e⟩
 |.inr x,v,h=>by
  obtain⟨t,e⟩:=Value.isStrOf_shape (x:=x) (v:=v) h
  exact .inr ⟨x,t,rfl,e⟩
theorem aG3(i:Int)(t:Tok):aCs (.inl i) (.int i t)=true:=by simp[aCs,Value.isInt]
theorem aG4(x:Str)(t:Tok):aCs (.inr x) (.str x t)=true:=by simp[aCs,Value.isStrOf]
theorem aL4(a b:Int):decide ((Sum.inl a:Key)=Sum.inl b)=(a == b):=by
 by_cases e:a=b
 ·subst e;simp
 ·have h:¬(Sum.inl a:Key)=Sum.inl b:=λq=>e (Sum.inl.inj q)
  rw[decide_eq_false h]
  exact(beq_eq_false_iff_ne.mpr e).symm
theorem aL5(a b:Str):decide ((Sum.inr a:Key)=Sum.inr b)=decide (a=b):=by
 by_cases e:a=b
 ·subst e;simp
 ·have h:¬(Sum.inr a:Key)=Sum.inr b:=λq=>e (Sum.inr.inj q)
  rw[decide_eq_false h,decide_eq_false e]
theorem aL6(a:Int)(b:Str):decide ((Sum.inl a:Key)=Sum.inr b)=false:=decide_eq_false (λq=>nomatch q)
theorem aL7(a:Str)(b:Int):decide ((Sum.inr a:Key)=Sum.inl b)=false:=decide_eq_false (λq=>nomatch q)
def bX(prog:Program)(w:World):PySem.KeyKind prog w Key where
 is:=aCs
 hash:=aPm w
 inj:=λv a b ha hb=>by
  rcases eC ha with ⟨i,t,rfl,rfl⟩|⟨x,t,rfl,rfl⟩
  ·rcases eC hb with ⟨j,u,rfl,e⟩|⟨y,u,rfl,e⟩
   ·injection e with e1 _;rw[e1]
   ·exact nomatch e
  ·rcases eC hb with ⟨j,u,rfl,e⟩|⟨y,u,rfl,e⟩
   ·exact nomatch e
   ·injection e with e1 _;rw[e1]
 byValue:=λk v h=>by
  rcases eC h with ⟨i,t,rfl,rfl⟩|⟨x,t,rfl,rfl⟩ <;> rfl
 pyHash:=λhv h=>by
  rcases eC hv with ⟨i,t,rfl,rfl⟩|⟨x,t,rfl,rfl⟩
  ·exact wpAny_pyHash_int h
  ·exact wpAny_pyHash_str h
 eqBool:=λhu hv h=>by
  rcases eC hu with ⟨i,t,rfl,rfl⟩|⟨x,t,rfl,rfl⟩
  ·rcases eC hv with ⟨j,u,rfl,rfl⟩|⟨y,u,rfl,rfl⟩
   ·rw[aL4] at h;exact wpAny_eqBool_int h
   ·rw[aL6] at h;exact SeqAt.EqAt.int_str i t y u _ _ _ _ h
  ·rcases eC hv with ⟨j,u,rfl,rfl⟩|⟨y,u,rfl,rfl⟩
   ·rw[aL7] at h;exact SeqAt.EqAt.str_int x t j u _ _ _ _ h
   ·rw[aL5] at h;exact wpAny_eqBool_str h
 «strs»:=λk x t v h=>by
  rcases eC h with ⟨i,u,rfl,e⟩|⟨y,u,rfl,e⟩
  ·exact nomatch e
  ·injection e with e1 _
   subst e1
   cases v <;> rfl
theorem aEd(prog:Program)(w:World)(i:Int)(t:Tok):(bX prog w).is (.inl i) (.int i t)=true:=aG3 i t
theorem aEe(prog:Program)(w:World)(x:Str)(t:Tok):(bX prog w).is (.inr x) (.str x t)=true:=aG4 x t
end L2
namespace L2
open PySem PySem.Spec PyProof.Rows
inductive V where
 |non|bl (b:Bool)|int (i:Int)|str (x:Str)|byt (b:Array UInt8)|flt (b:UInt64)|ref (a:Addr)|ty (n:String)
 deriving DecidableEq
def RelV:V->Value->Prop
 |.non,u=>u=Value.none
 |.bl b,u=>u=Value.bool b
 |.int i,u=>∃t,u=Value.int i t
 |.str x,u=>∃t,u=Value.str x t
 |.byt b,u=>∃t,u=Value.bytes b t
 |.flt b,u=>∃t,u=Value.float b t
 |.ref a,u=>u=Value.ref a
 |.ty n,u=>u=Value.type n
abbrev Vals:List V->List Value->Prop:=Paired RelV
theorem Vals.length{xs:List V}{us:List Value}(r:Vals xs us):xs.length=us.length:=Paired.length r
theorem Vals.get:∀{xs:List V}{us:List Value}{i:Nat}{x:V},Vals xs us->xs[i]?=some x->∃u,us[i]?=some u/\RelV x u
 |_,_,_,_,.nil,e=>by simp at e
 |_,_,0,_,.cons r _,e=>by simp at e;subst e;exact⟨_,rfl,r⟩
 |_,_,i+1,x,.cons _ t,e=>by
  obtain⟨u,h1,h2⟩:=Vals.get (i:=i) (x:=x) t (by simpa using e)
  exact⟨u,by simpa using h1,h2⟩
theorem Vals.set{x:V}{u:Value}(r:RelV x u):∀{xs:List V}{us:List Value}(i:Nat),Vals xs us->Vals (xs.set i x) (us.set i u)
 |_,_,_,.nil=>.nil
 |_,_,0,.cons _ t=>.cons r t
 |_,_,i+1,.cons q t=>.cons q (Vals.set r i t)
theorem Vals.append:∀{xs ys:List V}{us ws:List Value},Vals xs us->Vals ys ws->Vals (xs++ys) (us++ws)
 |_,_,_,_,.nil,s=>s
 |_,_,_,_,.cons r t,s=>.cons r (Vals.append t s)
theorem Vals.take:∀{xs:List V}{us:List Value}(n:Nat),Vals xs us->Vals (xs.take n) (us.take n)
 |_,_,0,_=>.nil
 |_,_,_+1,.nil=>.nil
 |_,_,n+1,.cons r t=>.cons r (Vals.take n t)
theorem Vals.drop:∀{xs:List V}{us:List Value}(n:Nat),Vals xs us->Vals (xs.drop n) (us.drop n)
 |_,_,0,r=>r
 |_,_,_+1,.nil=>.nil
 |_,_,n+1,.cons _ t=>Vals.drop n t
def sI:Option V->Option Value->Prop
 |some v,some u=>RelV v u
 |none,none=>True
 |_,_=>False
def KV{κ:Type}:List (κ×V)->List (κ×Value)->Prop:=Paired λ(p:κ×V) (q:κ×Value)=>p.1=q.1/\RelV p.2 q.2
def kV:Key->V
 |.inl i=>.int i
 |.inr x=>.str x
inductive HO where
 |lst (xs:List V)
 |tup (xs:List V)
 |dK (kvs:List (Key×V))|dT (kvs:List (List Key×V))
 |set (S:Int->Bool) (n:Nat)
 |ins (C dx:Addr) (fs:List (Str×V))
 |own (x:Addr)
 |xd (fs:List (Str×V))
 |met (f x:Addr)
 |rng (lo hi:Int)
 |frz (o:Obj) (u:HO)
 |tbl (ps:Array Value)
 |ext (φ:Heap->Prop)
 |cod (q:Str)|ctb (pos:Pos) (q:Str)
def Sty:HO->Prop
 |.tup _=>True
 |.cod _=>True
 |_=>False
abbrev Hp:=Addr->Option HO
def upd(H:Hp)(a:Addr)(o:HO):Hp:=λb=>if b=a then some o else H b
theorem aT{H:Hp}{a:Addr}{o:HO}:upd H a o a=some o:=by unfold upd;rw[if_pos rfl]
theorem bB{H:Hp}{a b:Addr}{o:HO}(h:b≠a):upd H a o b=H b:=by unfold upd;rw[if_neg h]
theorem wZ{H:Hp}{a:Addr}{o u:HO}:upd (upd H a o) a u=upd H a u:=by
 funext b;unfold upd;split <;> rfl
theorem aLS{H:Hp}{a b:Addr}{o u:HO}(h:H a=some o)(h':H b=some u)(d:o≠u):a≠b:=by
 intro e;subst e;rw[h] at h';exact d (Option.some.inj h')
theorem bO{H:Hp}{a b:Addr}{o:HO}(h:H a=some o)(h':H b=none):a≠b:=by
 intro e;subst e;rw[h] at h';cases h'
section
variable(P:Program)(w:World)
def cA(H:Hp)(h:Heap)(a:Addr):HO->Prop
 |.lst xs=>xs.length<=sizeLine/\∃(its:List Value) (n:Nat),Vals xs its/\h.get? a=some { cls:=.type "list",data:=.seq its.toArray n }
 |.tup xs=>xs.length<=sizeLine/\∃its:List Value,Vals xs its/\IsTup h a its.toArray
 |.dK kvs=>kvs.length<=sizeLine/\(a == sysModules)=false/\∃vs,KV kvs vs/\h.DictOf (bX P w) a vs
 |.dT kvs=>kvs.length<=sizeLine/\(a == sysModules)=false/\∃xs:List (List Key×Addr×Value),
   Paired (λ(p:List Key×V) (q:List Key×Addr×Value)=>p.1=q.1/\H q.2.1=some (.tup (p.1.map kV))/\RelV p.2 q.2.2) kvs xs/\
   ∃o es ep,h.get? a=some o/\o.ExactDict/\o.data=.dict es ep/\es.toList=xs.map (entryOfKey (tupleKind (bX P w)))/\(xs.map (·.1)).Nodup
 |.set S n=>h.SetOf (intKind P w) a S n
 |.ins C dx fs=>H dx=some (.own a)/\fs.length<=1000/\dx≠a/\h.get? a=some (PySem.W.instObj C dx)/\
   ∃mA,h.Ns1 dx mA/\(∀f,sI (fs.lookup f) (mA f))/\PySem.Within mA (fs.map (·.1))
 |.own _=>∃o,h.get? a=some o
 |.xd fs=>∃mA,h.Ns1 a mA/\∀f,sI (fs.lookup f) (mA f)
 |.rng lo hi=>∃t u v,h.get? a=some { cls:=.type "range",data:=.fields #[.int lo t,.int hi u,.int 1 v] }
 |.frz o u=>h.get? a=some o/\cA H h a u
 |.tbl ps=>h.get? a=some { cls:=.none,data:=.fields ps }
 |.met f x=>h.get? a=some (PySem.W.methodObj (.ref f) (.ref x))
 |.ext φ=>φ h/\(∃o,h.get? a=some o)/\∀h1 h2:Heap,φ h1->(∀o,h1.get? a=some o->h2.get? a=some o)->φ h2
 |.cod q=>∃o vs t,h.get? a=some o/\o.data=.fields vs/\vs[1]?=some (.str q t)
 |.ctb pos q=>∃ps:Array Value,h.get? a=some { cls:=.none,data:=.fields ps }/\TriplesOk ps.toList/\(codeAmong pos ps.toList=none\/∃c,codeAmong pos ps.toList=some (.ref c)/\H c=some (.cod q))
def sL(H:Hp)(h:Heap):Prop:=∀a o,H a=some o->cA P w H h a o
end
section
variable{P:Program}{w:World}{H H':Hp}{h h':Heap}{a:Addr}{o:HO}
theorem cA.lt(x:cA P w H h a o):a < h.objs.size:=by
 cases o with
 |lst xs=>obtain⟨_,_,_,_,e⟩:=x;exact hX e
 |tup xs=>obtain⟨_,_,_,p⟩:=x;exact p.lt
 |dK kvs=>obtain⟨_,_,_,_,o,_,_,e,_⟩:=x;exact hX e
 |dT kvs=>obtain⟨_,_,_,_,o,_,_,e,_⟩:=x;exact hX e
 |set S n=>obtain⟨o,_,_,_,e,_⟩:=x;exact hX e
 |ins C dx fs=>obtain⟨_,_,_,e,_⟩:=x;exact hX e
 |own y=>obtain⟨_,e⟩:=x;exact hX e
 |xd fs=>obtain⟨_,⟨_,_,_,e,_⟩,_⟩:=x;exact hX e
 |rng lo hi=>obtain⟨_,_,_,e⟩:=x;exact hX e
 |frz ob u=>obtain⟨e,_⟩:=x;exact hX e
 |tbl ps=>exact hX (show h.get? a=some _ from x)
 |met f y=>exact hX (show h.get? a=some _ from x)
 |ext φ=>obtain⟨_,⟨_,e⟩,_⟩:=x;exact hX e
 |cod q=>obtain⟨_,_,_,e,_⟩:=x;exact hX e
 |ctb pos q=>obtain⟨_,e,_⟩:=x;exact hX e
theorem Paired.aL8{α β:Type}{F G:α->β->Prop}:∀{l₁:List α}{l₂:List β},Paired F l₁ l₂->(∀a b,F a b->G a b)->Paired G l₁ l₂
 |_,_,.nil,_=>.nil
 |_,_,.cons r t,f=>.cons (f _ _ r) (Paired.aL8 t f)
theorem cA.yN(x:cA P w H h a o)(k:∀b u,(b=a\/H b=some (.own a))->h.get? b=some u->h'.get? b=some u)
  (ho:∀b,H b=some (.own a)->H' b=some (.own a)) (ht:∀b u,Sty u->H b=some u->H' b=some u):cA P w H' h' a o:=by
 induction o with
 |lst xs=>obtain⟨z,its,n,r,e⟩:=x;exact⟨z,its,n,r,k _ _ (.inl rfl) e⟩
 |tup xs=>obtain⟨z,its,r,ob,e,c⟩:=x;exact⟨z,its,r,ob,k _ _ (.inl rfl) e,c⟩
 |dK kvs=>obtain⟨z,y,vs,r,ob,es,ep,e,c⟩:=x;exact⟨z,y,vs,r,ob,es,ep,k _ _ (.inl rfl) e,c⟩
 |dT kvs=>
  obtain⟨z,y,xs,r,ob,es,ep,e,c⟩:=x
  exact⟨z,y,xs,Paired.aL8 r λp q z=>⟨z.1,ht _ _ trivial z.2.1,z.2.2⟩,ob,es,ep,k _ _ (.inl rfl) e,c⟩
 |set S n=>obtain⟨ob,es,ep,t,e,c⟩:=x;exact⟨ob,es,ep,t,k _ _ (.inl rfl) e,c⟩
 |ins C dx fs=>
  obtain⟨d,z,ne,e,mA,⟨od,es,ep,e2,c⟩,r⟩:=x
  exact⟨ho _ d,z,ne,k _ _ (.inl rfl) e,mA,⟨od,es,ep,k _ _ (.inr d) e2,c⟩,r⟩
 |own y=>obtain⟨ob,e⟩:=x;exact⟨ob,k _ _ (.inl rfl) e⟩
 |xd fs=>obtain⟨mA,⟨od,es,ep,e,c⟩,r⟩:=x;exact⟨mA,⟨od,es,ep,k _ _ (.inl rfl) e,c⟩,r⟩
 |rng lo hi=>obtain⟨t,u,v,e⟩:=x;exact⟨t,u,v,k _ _ (.inl rfl) e⟩
 |frz ob u ih=>obtain⟨e,q⟩:=x;exact⟨k _ _ (.inl rfl) e,ih q⟩
 |tbl ps=>
  have e:h.get? a=some { cls:=.none,data:=.fields ps }:=x
  show h'.get? a=some { cls:=.none,data:=.fields ps }
  exact k a _ (.inl rfl) e
 |met f y=>
  have e:h.get? a=some (PySem.W.methodObj (.ref f) (.ref y)):=x
  show h'.get? a=some (PySem.W.methodObj (.ref f) (.ref y))
  exact k a _ (.inl rfl) e
 |ext φ=>obtain⟨p,⟨o,e⟩,st⟩:=x;exact⟨st _ _ p λo q=>k _ _ (.inl rfl) q,⟨o,k _ _ (.inl rfl) e⟩,st⟩
 |cod q=>obtain⟨o,vs,t,e,r⟩:=x;exact⟨o,vs,t,k _ _ (.inl rfl) e,r⟩
 |ctb pos q=>
  obtain⟨ps,e,t,c⟩:=x
  refine⟨ps,k _ _ (.inl rfl) e,t,?_⟩
  rcases c with c|⟨c,e1,e2⟩
  ·exact .inl c
  ·exact .inr ⟨c,e1,ht _ _ trivial e2⟩
theorem sL.lt(x:sL P w H h)(e:H a=some o):a < h.objs.size:=(x a o e).lt
theorem sL.fresh(x:sL P w H h)(e:h.objs.size<=a):H a=none:=by
 cases q:H a with
 |none=>rfl
 |some u=>exact absurd (uU (x.lt q) e) (Sm9 _)
theorem sL.kept(x:sL P w H h)(k:∀b u,h.get? b=some u->h'.get? b=some u):sL P w H h':=λa o e=>
 (x a o e).yN (λb u _ q=>k b u q) (λ_ q=>q) λ_ _ _ q=>q
theorem sL.laid(x:sL P w H h)(k:∀b u,h.get? b=some u->h'.get? b=some u)(hp:h.objs.size<=a)(new:cA P w (upd H a o) h' a o):sL P w (upd H a o) h':=λb u e=>by
 have hn:=x.fresh hp
 by_cases hb:b=a
 ·subst hb;rw[aT] at e;cases e;exact new
 ·rw[bB hb] at e
  exact(x b u e).yN (λc v _ q=>k c v q) (λc q=>by rw[bB (bO q hn)];exact q) λc xs _ q=>by rw[bB (bO q hn)];exact q
end
def Rd(H:Hp)(a:Addr)(u:HO):Prop:=H a=some u\/∃o,H a=some (.frz o u)
theorem Rd.of{H:Hp}{a:Addr}{u:HO}(h:H a=some u):Rd H a u:=.inl h
theorem Rd.ok{P:Program}{w:World}{H:Hp}{h:Heap}{a:Addr}{u:HO}(r:Rd H a u)(x:sL P w H h):cA P w H h a u:=by
 rcases r with r|⟨o,r⟩
 ·exact x a u r
 ·obtain⟨_,q⟩:=x a _ r
  exact q
def Mut:Option HO->Prop
 |some (.lst _)=>True
 |some (.dK _)=>True
 |some (.dT _)=>True
 |some (.set _ _)=>True
 |some (.ins _ _ _)=>True
 |some (.ext _)=>True
 |_=>False
section
variable{P:Program}{w:World}{H:Hp}{h h':Heap}{x e:Addr}{o':HO}
theorem sL.write(ok:sL P w H h)(mu:Mut (H x))(he:e=x\/H e=some (.own x))(k:∀b u,b≠e->h.get? b=some u->h'.get? b=some u)(heo:∃u,h'.get? e=some u)
  (new:cA P w (upd H x o') h' x o'):sL P w (upd H x o') h':=λb u q=>by
 have nown:∀c y,H c=some (.own y)->c≠x:=λc y r z=>by subst z;rw[r] at mu;exact mu
 have iX:∀c u,Sty u->H c=some u->c≠x:=λc u y r z=>by
  subst z
  rw[r] at mu
  cases u <;> first|exact mu|exact y
 by_cases hb:b=x
 ·subst hb;rw[aT] at q;cases q;exact new
 ·rw[bB hb] at q
  by_cases hbe:b=e
  ·have q':H b=some (.own x):=by
    rcases he with z|z
    ·exact absurd (hbe.trans z) hb
    ·rw[hbe];exact z
   rw[q] at q';cases q'
   obtain⟨v,hv⟩:=heo
   exact⟨v,by rw[hbe];exact hv⟩
  ·refine(ok b u q).yN (λc v hc r=>k c v ?_ r) (λc r=>by rw[bB (nown c b r)];exact r) λc xs y r=>by rw[bB (iX c xs y r)];exact r
   rcases hc with rfl|hc
   ·exact hbe
   ·rintro rfl
    rcases he with z|z
    ·exact nown c b hc z
    ·rw[hc] at z;cases z;exact hb rfl
end
structure Un(fs ex:List Addr)(H H':Hp)(h h':Heap):Prop where
 keep:∀b o,h.get? b=some o->H b=none->b∉fs->b∉ex->h'.get? b=some o
 slot:∀b o,h.get? b=some o->H b=none->b∈fs->b∉ex->∃sl,h'.get? b=some { o with slots:=sl }
 free:∀b o,h.get? b=some o->H b=none->b∉ex->H' b=none
 there:∀b o,h.get? b=some o->b∉ex->∃o',h'.get? b=some o'
 pQ:∀b xs,H b=some (.tup xs)->H' b=some (.tup xs)
 frzs:∀b o u,H b=some (.frz o u)->H' b=some (.frz o u)
 tbls:∀b ps,H b=some (.tbl ps)->∃more,H' b=some (.tbl (ps++more))
section
variable{fs fs' ex ex':List Addr}{H H1 H2:Hp}{h h1 h2 h':Heap}{a x e:Addr}{o:HO}
theorem Un.any(u:Un fs ex H H1 h h1){b:Addr}{ob:Obj}(q:h.get? b=some ob)(n:H b=none)(hx:b∉ex):∃sl,h1.get? b=some { ob with slots:=sl }:=by
 by_cases hb:b∈fs
 ·exact u.slot b ob q n hb hx
 ·exact⟨ob.slots,u.keep b ob q n hb hx⟩
theorem Un.trans(a:Un fs ex H H1 h h1)(b:Un fs ex H1 H2 h1 h2):Un fs ex H H2 h h2 where
 keep:=λc ob q n hc hx=>b.keep c ob (a.keep c ob q n hc hx) (a.free c ob q n hx) hc hx
 slot:=λc ob q n hc hx=>by
  obtain⟨sl,e1⟩:=a.slot c ob q n hc hx
  obtain⟨sl',e2⟩:=b.slot c _ e1 (a.free c ob q n hx) hc hx
  exact⟨sl',e2⟩
 free:=λc ob q n hx=>by
  obtain⟨o',e1⟩:=a.there c ob q hx
  exact b.free c o' e1 (a.free c ob q n hx) hx
 there:=λc ob q hx=>by
  obtain⟨o',e1⟩:=a.there c ob q hx
  exact b.there c o' e1 hx
 pQ:=λc xs q=>b.pQ c xs (a.pQ c xs q)
 frzs:=λc ob xs q=>b.frzs c ob xs (a.frzs c ob xs q)
 tbls:=λc ps q=>by
  obtain⟨m1,e1⟩:=a.tbls c ps q
  obtain⟨m2,e2⟩:=b.tbls c _ e1
  exact⟨m1++m2,by rw[e2,Array.append_assoc]⟩
theorem Un.kept(k:∀b u,h.get? b=some u->h'.get? b=some u):Un fs ex H H h h':=
 ⟨λb ob q _ _ _=>k b ob q,λb ob q _ _ _=>⟨ob.slots,k b ob q⟩,λ_ _ _ n _=>n,λb ob q _=>⟨ob,k b ob q⟩,λ_ _ q=>q,λ_ _ _ q=>q,λ_ ps q=>⟨#[],by rw[q];simp⟩⟩
theorem Un.refl:Un fs ex H H h h:=Un.kept λ_ _ q=>q
theorem Un.laid(k:∀b u,h.get? b=some u->h'.get? b=some u)(hp:h.objs.size<=a)(hn:H a=none):Un fs ex H (upd H a o) h h' where
 keep:=λb u q _ _ _=>k b u q
 slot:=λb u q _ _ _=>⟨u.slots,k b u q⟩
 free:=λb u q n _=>by rw[bB (pP (uU (hX q) hp))];exact n
 there:=λb u q _=>⟨u,k b u q⟩
 pQ:=λb xs q=>by rw[bB (bO q hn)];exact q
 frzs:=λb u xs q=>by rw[bB (bO q hn)];exact q
 tbls:=λb ps q=>⟨#[],by rw[bB (bO q hn),q];simp⟩
theorem Un.write(mu:Mut (H x))(he:e=x\/H e=some (.own x))(k:∀b u,b≠e->h.get? b=some u->h'.get? b=some u)(heo:∃u,h'.get? e=some u):Un fs ex H (upd H x o) h h':=by
 have hx:∀b,H b=none->b≠x:=λb n z=>by subst z;rw[n] at mu;exact mu
 have hb:∀b,H b=none->b≠e:=λb n z=>by
  subst z
  rcases he with r|r
  ·exact hx b n r
  ·rw[n] at r;cases r
 have hm:∀b u,H b=some u->¬Mut (some u)->b≠x:=λb u q nm z=>by subst z;rw[q] at mu;exact nm mu
 refine⟨λb u q n _ _=>k b u (hb b n) q,λb u q n _ _=>⟨u.slots,k b u (hb b n) q⟩,λb u q n _=>by rw[bB (hx b n)];exact n,λb u q _=>?_,
  λb xs q=>by rw[bB (hm b _ q λz=>z)];exact q,λb u xs q=>by rw[bB (hm b _ q λz=>z)];exact q,λb ps q=>⟨#[],by rw[bB (hm b _ q λz=>z),q];simp⟩⟩
 by_cases hbe:b=e
 ·subst hbe;exact heo
 ·exact⟨u,k b u hbe q⟩
end
def trk(h:Heap)(H:Hp):List Addr:=(List.range h.objs.size).filter λa=>(H a).isSome
def vO(h:Heap)(H:Hp):Heap:=PySem.W.hideAll h (trk h H)
theorem aCt(h:Heap)(H:Hp):(vO h H).objs.size=h.objs.size:=PySem.W.hideAll_size _ _
theorem aEf{h:Heap}{H:Hp}{b:Addr}{o:Obj}(e:h.get? b=some o)(n:H b=none):(vO h H).get? b=some o:=
 PySem.W.hideAll_get _ e λhm=>by
  have q:(H b).isSome=true:=(So9.mp hm).2
  rw[n] at q;simp at q
theorem aGi{h:Heap}{H:Hp}{b:Addr}{o:Obj}(e:(vO h H).get? b=some o):h.get? b=some o/\H b=none:=by
 have e':h.get? b=some o:=PySem.W.of_hideAll (trk h H) e
 refine⟨e',?_⟩
 cases q:H b with
 |none=>rfl
 |some x=>
  have hm:b∈trk h H:=So9.mpr ⟨Rn9.mpr (hX e'),by simp[q]⟩
  have z:(vO h H).get? b=none:=PySem.W.hideAll_none (trk h H) hm
  rw[z] at e;cases e
def aKh(g h:Heap)(L:Addr):List (Addr×Obj):=(List.range h.objs.size).filterMap λa=>if a=L\/(g.get? a).isSome=true then none else (h.get? a).map λo=>(a,o)
def rest(g h:Heap)(L d:Addr):List (Addr×Obj):=(aKh g h L).filter λp=>decide (p.1≠d)
end L2
namespace L2
open PySem PySem.Spec PyProof.Rows
structure Mod(K:W.Frag)(mg:Str->Option Value)(base:Heap):Prop where
 kin:K.In base
 glob:base.Ns mainGlobals mg
 blt:∃mb,base.Ns builtinsNs mb/\∀x:Str,x≠"__name__"->mb x=bootBuiltins x
 nolimit:base.NoLimit
 bm:∃bm o,mg "__builtins__" = some (.ref bm)/\bm≠builtinsNs/\base.get? bm=some o/\o.cls=.type "module"/\o.dict=some builtinsNs/\o.data=.plain
structure Cx where
 prog:Program
 w:World
 K:W.Frag
 mg:Str->Option Value
 base:Heap
 A:Around
 N:List Str
 s₀:Shared
 H₀:Hp
 env:Env
 outer:List Env
 stack:List Env
 ex:List Addr
 fn:Str->Bool
 calm:Bool
 pn:List (Addr×Obj)
 xe:Value->Shared->Prop
def frs(l:List Env):List Addr:=l.filterMap (·.frame)
abbrev Cx.fs(X:Cx):List Addr:=frs X.outer
def Vis(sc:Scope)(x:Str):Prop:=sc.names.lookup x=some .local\/sc.names.lookup x=some .cell\/sc.names.lookup x=some .free
def Loc(sc:Scope)(x:Str):Prop:=sc.names.lookup x=some .local\/sc.names.lookup x=some .cell
def Look(env:Env)(h:Heap)(m:Str->Option Value)(x:Str)(u:Value):Prop:=
 (env.kindOf x=some .local/\m x=some u)\/((env.kindOf x=some .cell\/env.kindOf x=some .free)/\∃c,env.cells.lookup x=some c/\h.IsCell c (some u))
structure Cx.Ok(X:Cx):Prop where
 mod:Mod X.K X.mg X.base
 kind:X.env.scope.kind=.function
 glob:X.env.globals=mainGlobals
 blt:X.env.builtins=builtinsNs
 above:X.s₀.heap.objs.size<=X.env.locals
 inj:∀x y c,X.env.cells.lookup x=some c->X.env.cells.lookup y=some c->x=y
 has:∀x,(X.env.kindOf x=some .cell\/X.env.kindOf x=some .free)->∃c,X.env.cells.lookup x=some c
 cab:∀x c,X.fn x=true->X.env.cells.lookup x=some c->X.s₀.heap.objs.size<=c
 hd:X.calm=true->X.A.handled=none
 frames:X.A.frames=some X.stack
 stk:X.stack=X.outer\/(X.stack=X.env::X.outer/\X.env.frame=some X.env.locals)
 exf:∀b∈X.ex,b≠X.env.locals/\∀x c,X.env.cells.lookup x=some c->c≠b
 bs:∀b o,X.base.get? b=some o->X.s₀.heap.get? b=some o/\X.H₀ b=none
 bsz:X.base.objs.size<=X.s₀.heap.objs.size
 noex:∀b o,X.base.get? b=some o->b∉X.ex
 exfs:∀b∈X.ex,b∉X.fs
 vP:X.s₀.heap.FunFrames X.base X.outer
 frf:∀b∈X.fs,X.H₀ b=none
structure Inv(X:Cx)(pins:List (Addr×Obj))(σ:List (Option V))(H:Hp)(s:Shared):Prop where
 ok:X.Ok
 os:s.os=X.s₀.os
 bare:AllBare s.gens
 base:Un X.fs X.ex X.H₀ H X.s₀.heap s.heap
 loc:∃m,s.heap.Ns X.env.locals m/\∀(i:Nat) (x:Str) (v:V),X.N[i]?=some x->σ[i]?=some (some v)->Vis X.env.scope x->∃u,RelV v u/\Look X.env s.heap m x u
 cell:∀x c,X.env.cells.lookup x=some c->∃v,s.heap.IsCell c v
 free:H X.env.locals=none
 freeC:∀x c,X.env.cells.lookup x=some c->H c=none
 pin:∀p∈X.pn++pins,s.heap.get? p.1=some p.2/\H p.1=none/\p.1≠X.env.locals/\p.1∉X.fs/\∀v,p.2.data≠.cell v
 hok:sL X.prog X.w H s.heap
 len:σ.length=X.N.length
section
variable{X:Cx}{pins:List (Addr×Obj)}{σ:List (Option V)}{H H':Hp}{s:Shared}{h':Heap}
theorem Cx.Ok.aPn(ok:X.Ok){b:Addr}{o:Obj}(e:X.base.get? b=some o):b∉X.fs:=λhb=>by
 have:=(ok.vP.mem hb).1
 rw[e] at this;cases this
theorem Inv.bs(I:Inv X pins σ H s):∀b o,X.base.get? b=some o->s.heap.get? b=some o/\H b=none:=λb o e=>
 ⟨I.base.keep b o (I.ok.bs b o e).1 (I.ok.bs b o e).2 (I.ok.aPn e) (I.ok.noex b o e),I.base.free b o (I.ok.bs b o e).1 (I.ok.bs b o e).2 (I.ok.noex b o e)⟩
theorem Inv.bk(I:Inv X pins σ H s):∀b o,X.base.get? b=some o->s.heap.get? b=some o:=λb o e=>(I.bs b o e).1
theorem Inv.mod(I:Inv X pins σ H s):Mod X.K X.mg X.base:=I.ok.mod
theorem Inv.yO(I:Inv X pins σ H s):X.K.In s.heap:=I.ok.mod.kin.keeps I.bk
theorem Inv.fr(I:Inv X pins σ H s):∃m,Fr X.base X.env.locals s.heap m:=
 let ⟨m,hn,_⟩:=I.loc
 ⟨m,hn,I.bk,zK I.ok.bsz I.ok.above⟩
theorem Inv.lt(I:Inv X pins σ H s):X.env.locals < s.heap.objs.size:=let ⟨_,hn,_⟩:=I.loc;hn.lt
theorem Inv.sz(I:Inv X pins σ H s):X.s₀.heap.objs.size<=s.heap.objs.size:=zK I.ok.above (Tr9 I.lt)
theorem Inv.aPo(I:Inv X pins σ H s){a:Addr}(h:s.heap.objs.size<=a):a∉X.fs:=λhb=>by
 obtain⟨_,o,ho,_⟩:=I.ok.vP.mem hb
 exact absurd (uU (hX ho) (zK I.sz h)) (Sm9 _)
theorem Inv.cne(I:Inv X pins σ H s):∀x c,X.env.cells.lookup x=some c->c≠X.env.locals:=λx c e z=>by
 obtain⟨v,o,ho,hd⟩:=I.cell x c e
 obtain⟨m,⟨o',es,ep,ho',hd',_⟩,_⟩:=I.loc
 rw[z,ho'] at ho;cases ho;rw[hd'] at hd;cases hd
theorem Inv.vP(I:Inv X pins σ H s):s.heap.FunFrames X.base X.outer:=by
 have all:∀(l:List Env),(∀b∈frs l,b∈X.fs)->X.s₀.heap.FunFrames X.base l->s.heap.FunFrames X.base l:=by
  intro l
  induction l with
  |nil=>intro _ _;trivial
  |cons env r ih=>
   intro hs hl
   obtain⟨hk,⟨L,o,hf,hn,ho,hd⟩,hr⟩:=hl
   have hL:L∈X.fs:=hs L (by unfold frs;rw[Sp9,hf];exact Rc9)
   obtain⟨sl,e⟩:=I.base.slot L o ho (I.ok.frf L hL) hL λz=>I.ok.exfs L z hL
   exact⟨hk,⟨L,_,hf,hn,e,hd⟩,ih (λb hb=>hs b (by unfold frs;rw[Sp9,hf];exact Qt9 _ hb)) hr⟩
 exact all X.outer (λ_ hb=>hb) I.ok.vP
theorem Inv.stack(I:Inv X pins σ H s):s.heap.FunFrames X.base X.stack:=by
 rcases I.ok.stk with e|⟨e,hf⟩
 ·rw[e];exact I.vP
 ·rw[e]
  obtain⟨m,hn,_⟩:=I.loc
  refine .cons (by rw[I.ok.kind];decide) hf hn ?_ I.vP
  exact Heap.get?_none_of_le (zK I.ok.bsz I.ok.above)
theorem Inv.aAO(I:Inv X pins σ H s):∀b∈frs X.stack,b∈X.env.locals::X.fs:=λb hb=>by
 rcases I.ok.stk with e|⟨e,hf⟩
 ·rw[e] at hb;exact Qt9 _ hb
 ·rw[e] at hb
  unfold frs at hb
  rw[Sp9,hf] at hb
  exact hb
theorem Inv.aC5(I:Inv X pins σ H s):∀b∈frs X.stack,H b=none:=λb hb=>by
 rcases lW.mp (I.aAO b hb) with e|hb
 ·rw[e];exact I.free
 ·obtain⟨_,o,ho,_⟩:=I.ok.vP.mem hb
  exact I.base.free b o ho (I.ok.frf b hb) λz=>I.ok.exfs b z hb
theorem Inv.step{g':Array GenState}{t':Nat}{d':Drawn}{ch:List Addr}(I:Inv X pins σ H s)
  (hch:∀b∈ch,(b∈X.ex\/X.s₀.heap.objs.size<=b)/\b≠X.env.locals/\(∀x c,X.env.cells.lookup x=some c->c≠b)/\∀p∈X.pn++pins,p.1≠b)
  (keep:∀b o,b≠X.env.locals->b∉X.fs->b∉ch->s.heap.get? b=some o->H b=none->h'.get? b=some o)
  (slot:∀b o,b≠X.env.locals->b∈X.fs->b∉ch->s.heap.get? b=some o->H b=none->∃sl,h'.get? b=some { o with slots:=sl }) (free:∀b o,b∉ch->s.heap.get? b=some o->H b=none->H' b=none)
  (there:∀b o,b∉ch->s.heap.get? b=some o->∃o',h'.get? b=some o')
  (pQ:∀b xs,H b=some (.tup xs)->H' b=some (.tup xs)) (frzs:∀b o u,H b=some (.frz o u)->H' b=some (.frz o u)) (tbls:∀b ps,H b=some (.tbl ps)->∃more,H' b=some (.tbl (ps++more)))
  (ns:∀m,s.heap.Ns X.env.locals m->h'.Ns X.env.locals m) (hok:sL X.prog X.w H' h') (hg:AllBare g') :
  Inv X pins σ H' { s with heap:=h',gens:=g',drawn:=d',toks:=t' }:=by
 have neL:∀b o,X.s₀.heap.get? b=some o->b≠X.env.locals:=λb o e=>pP (uU (hX e) I.ok.above)
 have neC:∀b o,X.s₀.heap.get? b=some o->b∉X.ex->b∉ch:=λb o e hx hb=>by
  rcases(hch b hb).1 with z|z
  ·exact hx z
  ·exact absurd (uU (hX e) z) (Sm9 _)
 have cellK:∀x c,X.env.cells.lookup x=some c->∀v,s.heap.IsCell c v->h'.IsCell c v:=λx c e v ⟨o,ho,hd⟩=>by
  have nch:c∉ch:=λz=>(hch c z).2.2.1 x c e rfl
  by_cases hc:c∈X.fs
  ·obtain⟨sl,q⟩:=slot c o (I.cne x c e) hc nch ho (I.freeC x c e)
   exact⟨_,q,hd⟩
  ·exact⟨o,keep c o (I.cne x c e) hc nch ho (I.freeC x c e),hd⟩
 refine⟨I.ok,I.os,hg,⟨λb o e n hb hx=>?_,λb o e n hb hx=>?_,λb o e n hx=>?_,λb o e hx=>?_,λb xs e=>pQ b xs (I.base.pQ b xs e),λb o xs e=>frzs b o xs (I.base.frzs b o xs e),λb ps e=>?_⟩,?_,λx c e=>?_,?_,λx c e=>?_,λp hp=>?_,hok,I.len⟩
 ·exact keep b o (neL b o e) hb (neC b o e hx) (I.base.keep b o e n hb hx) (I.base.free b o e n hx)
 ·obtain⟨sl,e1⟩:=I.base.slot b o e n hb hx
  obtain⟨sl',e2⟩:=slot b _ (neL b o e) hb (neC b o e hx) e1 (I.base.free b o e n hx)
  exact⟨sl',e2⟩
 ·obtain⟨o',e1⟩:=I.base.there b o e hx
  exact free b o' (neC b o e hx) e1 (I.base.free b o e n hx)
 ·obtain⟨o',e1⟩:=I.base.there b o e hx
  exact there b o' (neC b o e hx) e1
 ·obtain⟨m1,e1⟩:=I.base.tbls b ps e
  obtain⟨m2,e2⟩:=tbls b _ e1
  exact⟨m1++m2,by rw[e2,Array.append_assoc]⟩
 ·obtain⟨m,hn,hl⟩:=I.loc
  refine⟨m,ns m hn,λi x v e1 e2 e3=>?_⟩
  obtain⟨u,r,l⟩:=hl i x v e1 e2 e3
  refine⟨u,r,?_⟩
  rcases l with l|⟨k,c,e,z⟩
  ·exact .inl l
  ·exact .inr ⟨k,c,e,cellK x c e _ z⟩
 ·obtain⟨v,z⟩:=I.cell x c e
  exact⟨v,cellK x c e v z⟩
 ·obtain⟨m,⟨o,_,_,ho,_⟩,_⟩:=I.loc
  exact free _ o (λz=>(hch _ z).2.1 rfl) ho I.free
 ·obtain⟨v,o,ho,hd⟩:=I.cell x c e
  exact free c o (λz=>(hch c z).2.2.1 x c e rfl) ho (I.freeC x c e)
 ·obtain⟨e,n,ne,nf,d⟩:=I.pin p hp
  have nch:p.1∉ch:=λz=>(hch p.1 z).2.2.2 p hp rfl
  exact⟨keep p.1 p.2 ne nf nch e n,free p.1 p.2 nch e n,ne,nf,d⟩
theorem Inv.un{t':Nat}(I:Inv X pins σ H s)(u:Un X.fs [] H H' s.heap h')(hok:sL X.prog X.w H' h'):Inv X pins σ H' { s with heap:=h',toks:=t' }:=by
 obtain⟨m,⟨o,es,ep,ho,r⟩,_⟩:=id I.loc
 obtain⟨sl,hL⟩:=u.any ho I.free (by simp)
 exact I.step (g':=s.gens) (d':=s.drawn) (ch:=[]) (λ_ z=>nomatch z) (λb o _ hb _ e n=>u.keep b o e n hb (by simp)) (λb o _ hb _ e n=>u.slot b o e n hb (by simp)) (λb o _ e n=>u.free b o e n (by simp)) (λb o _ e=>u.there b o e (by simp)) u.pQ u.frzs u.tbls (λm' hm=>by
  obtain⟨o',es',ep',ho',r'⟩:=hm
  rw[ho] at ho';cases ho'
  exact⟨_,es',ep',hL,r'⟩) hok I.bare
theorem Inv.call{g':Array GenState}{t':Nat}{d':Drawn}{ch:List Addr}(I:Inv X pins σ H s)(u:Un (frs X.stack) ch H H' s.heap h')(hok:sL X.prog X.w H' h')(hg:AllBare g')
  (hch:∀b∈ch,(b∈X.ex\/X.s₀.heap.objs.size<=b)/\b≠X.env.locals/\(∀x c,X.env.cells.lookup x=some c->c≠b)/\∀p∈X.pn++pins,p.1≠b) :
  Inv X pins σ H' { s with heap:=h',gens:=g',drawn:=d',toks:=t' }:=by
 obtain⟨m,⟨o,es,ep,ho,r⟩,_⟩:=id I.loc
 obtain⟨sl,hL⟩:=u.any ho I.free λz=>(hch _ z).2.1 rfl
 exact I.step (ch:=ch) hch (λb o hL hb hc e n=>u.keep b o e n (λz=>(lW.mp (I.aAO b z)).elim hL hb) hc) (λb o _ _ hc e n=>u.any e n hc) (λb o hc e n=>u.free b o e n hc) (λb o hc e=>u.there b o e hc) u.pQ u.frzs u.tbls (λm' hm=>by
  obtain⟨o',es',ep',ho',r'⟩:=hm
  rw[ho] at ho';cases ho'
  exact⟨_,es',ep',hL,r'⟩) hok hg
theorem Inv.turned{t':Nat}{it:Addr}(I:Inv X pins σ H s)(k:∀b o,b≠it->s.heap.get? b=some o->h'.get? b=some o)(hn:H it=none)(hL:it≠X.env.locals)
  (h1:it∈X.ex\/X.s₀.heap.objs.size<=it) (h2:∀x c,X.env.cells.lookup x=some c->c≠it) (h3:∀p∈X.pn++pins,p.1≠it):Inv X pins σ H { s with heap:=h',toks:=t' }:=by
 have nit:∀b u,H b=some u->b≠it:=λb u e z=>by rw[z,hn] at e;cases e
 refine I.step (g':=s.gens) (d':=s.drawn) (ch:=[it]) (λb hb=>?_) (λb o _ _ hc e _=>k b o (λz=>hc (by simp[z])) e) (λb o _ _ hc e _=>⟨o.slots,k b o (λz=>hc (by simp[z])) e⟩) (λ_ _ _ _ n=>n)
  (λb o hc e=>⟨o,k b o (λz=>hc (by simp[z])) e⟩) (λ_ _ e=>e) (λ_ _ _ e=>e) (λb ps e=>⟨#[],by rw[e];simp⟩) (λm hm=>?_) (λb u e=>?_) I.bare
 ·have e:b=it:=by simpa using hb
  subst e
  exact⟨h1,hL,h2,h3⟩
 ·obtain⟨o,es,ep,ho,r⟩:=hm
  exact⟨o,es,ep,k _ o (Ne.symm hL) ho,r⟩
 ·refine(I.hok b u e).yN (λc v hc q=>k c v ?_ q) (λ_ q=>q) λ_ _ _ q=>q
  rcases hc with z|z
  ·rw[z];exact nit b u e
  ·exact nit c _ z
theorem Inv.tok(I:Inv X pins σ H s)(t:Nat):Inv X pins σ H { s with toks:=t }:=I.un (h':=s.heap) (t':=t) Un.refl I.hok
theorem Inv.kept{t':Nat}(I:Inv X pins σ H s)(k:∀b u,s.heap.get? b=some u->h'.get? b=some u):Inv X pins σ H { s with heap:=h',toks:=t' }:=I.un (Un.kept k) (I.hok.kept k)
theorem Inv.laid{a:Addr}{o:HO}{t':Nat}(I:Inv X pins σ H s)(k:∀b u,s.heap.get? b=some u->h'.get? b=some u)(hp:s.heap.objs.size<=a)(new:cA X.prog X.w (upd H a o) h' a o) :
  Inv X pins σ (upd H a o) { s with heap:=h',toks:=t' }:=I.un (Un.laid k hp (I.hok.fresh hp)) (I.hok.laid k hp new)
theorem Inv.write{x e:Addr}{o:HO}{t':Nat}(I:Inv X pins σ H s)(mu:Mut (H x))(he:e=x\/H e=some (.own x))(k:∀b u,b≠e->s.heap.get? b=some u->h'.get? b=some u)(heo:∃u,h'.get? e=some u)
  (new:cA X.prog X.w (upd H x o) h' x o):Inv X pins σ (upd H x o) { s with heap:=h',toks:=t' }:=I.un (Un.write mu he k heo) (I.hok.write mu he k heo new)
theorem Inv.weak{σ':List (Option V)}(I:Inv X pins σ H s)(hl:σ'.length=σ.length)(w:∀(i:Nat) v,σ'[i]?=some (some v)->σ[i]?=some (some v)):Inv X pins σ' H s:=
 ⟨I.ok,I.os,I.bare,I.base,let ⟨m,hn,hl'⟩:=I.loc;⟨m,hn,λi x v e1 e2 e3=>hl' i x v e1 (w i v e2) e3⟩,I.cell,I.free,I.freeC,I.pin,I.hok,hl.trans I.len⟩
theorem Inv.aAB{pins':List (Addr×Obj)}(I:Inv X pins σ H s)(h:∀p∈pins',s.heap.get? p.1=some p.2/\H p.1=none/\p.1≠X.env.locals/\p.1∉X.fs/\∀v,p.2.data≠.cell v):Inv X pins' σ H s:=
 ⟨I.ok,I.os,I.bare,I.base,I.loc,I.cell,I.free,I.freeC,λp hp=>(Rf9.mp hp).elim (λz=>I.pin p (List.mem_append_left _ z)) (h p),I.hok,I.len⟩
theorem aEg{N:List Str}(hN:N.Nodup){i j:Nat}{x:Str}(a:N[i]?=some x)(b:N[j]?=some x):i=j:=by
 obtain⟨h1,e1⟩:=lG.mp a
 obtain⟨h2,e2⟩:=lG.mp b
 exact(Ug9 hN).mp (e1.trans e2.symm)
theorem aCu{M:Model}{A:Around}{E:Value->Shared->Prop}{i:Nat}{x:Str}{v:V}{u:Value}{Q:Unit->Shared->Prop}(I:Inv X pins σ H s)(hN:X.N.Nodup)(hi:X.N[i]?=some x)(hx:Loc X.env.scope x)(r:RelV v u)
  (h:∀s',Inv X pins (σ.set i (some v)) H s'->(∃a,Heap.SameBut a s.heap s'.heap/\(a=X.env.locals\/X.env.cells.lookup x=some a))->Q () s') (hf:X.fn x=true\/X.env.scope.names.lookup x=some .local:=by first|exact .inl rfl|exact .inr rfl|assumption):wpAny M A (storeName X.env x u) Q E s:=by
 obtain⟨m,hn,hl⟩:=id I.loc
 have hcls:(X.env.scope.kind == .class || (X.env.scope.kind == .module && X.env.locals != X.env.globals))=false:=by rw[I.ok.kind];rfl
 have hiσ:i < σ.length:=by rw[I.len];exact(lG.mp hi).1
 have cne:=I.cne
 have tracked:∀{a:Addr} {h':Heap},(∃o,s.heap.get? a=some o/\H a=none)->Heap.SameBut a s.heap h'->sL X.prog X.w H h':=λ{a h'} ha hs b ob e=>by
  obtain⟨_,_,hfree⟩:=ha
  refine(I.hok b ob e).yN (λc w' hc q=>(hs.2 c ?_).trans q) (λ_ q=>q) λ_ _ _ q=>q
  rintro rfl
  rcases hc with rfl|hc
  ·rw[hfree] at e;cases e
  ·rw[hfree] at hc;cases hc
 rcases hx with hk|hk
 ·refine wpAny_storeName_local hk hn (λh' hn' hs=>?_) hcls
  obtain⟨oL,_,_,hoL,_⟩:=id hn
  refine h _ ⟨I.ok,I.os,I.bare,⟨λb o e n hb hx=>?_,λb o e n hb hx=>?_,I.base.free,λb o e hx=>?_,I.base.pQ,I.base.frzs,I.base.tbls⟩,⟨_,hn',λj y v' e1 e2 e3=>?_⟩,λy c e=>?_,I.free,I.freeC,λp hp=>?_,tracked ⟨oL,hoL,I.free⟩ hs,by simpa using I.len⟩ ⟨_,hs,.inl rfl⟩
  ·exact(hs.2 b (pP (uU (hX e) I.ok.above))).trans (I.base.keep b o e n hb hx)
  ·obtain⟨sl,e1⟩:=I.base.slot b o e n hb hx
   exact⟨sl,(hs.2 b (pP (uU (hX e) I.ok.above))).trans e1⟩
  ·obtain⟨o',e1⟩:=I.base.there b o e hx
   exact⟨o',(hs.2 b (pP (uU (hX e) I.ok.above))).trans e1⟩
  ·by_cases hj:j=i
   ·subst hj
    rw[hi] at e1;cases e1
    rw[Rt9 hiσ] at e2
    cases e2
    exact⟨u,r,.inl ⟨hk,by simp⟩⟩
   ·rw[Sa9 (Ne.symm hj)] at e2
    obtain⟨u',r',q⟩:=hl j y v' e1 e2 e3
    refine⟨u',r',?_⟩
    rcases q with ⟨k,e⟩|⟨k,c,e,z⟩
    ·refine .inl ⟨k,?_⟩
     have:y≠x:=λe=>hj (aEg hN e1 (e▸hi))
     simp[this,e]
    ·exact .inr ⟨k,c,e,z.sameBut hs (cne y c e)⟩
  ·obtain⟨w',z⟩:=I.cell y c e
   exact⟨w',z.sameBut hs (cne y c e)⟩
  ·obtain⟨e,n,ne,nf,d⟩:=I.pin p hp
   exact⟨(hs.2 p.1 ne).trans e,n,ne,nf,d⟩
 ·have hfn:X.fn x=true:=by
   rcases hf with z|z
   ·exact z
   ·rw[z] at hk;cases hk
  obtain⟨c,hc⟩:=I.ok.has x (.inl hk)
  obtain⟨w',z⟩:=I.cell x c hc
  refine wpAny_storeName_cell I.ok.kind hk hc z (λh' hc' hs=>?_)
  obtain⟨oc,hoc,hocd⟩:=id z
  refine h { s with heap:=h' } ⟨I.ok,I.os,I.bare,⟨λb o e n hb hx=>?_,λb o e n hb hx=>?_,I.base.free,λb o e hx=>?_,I.base.pQ,I.base.frzs,I.base.tbls⟩,⟨m,hn.sameBut hs (Ne.symm (cne x c hc)),λj y v' e1 e2 e3=>?_⟩,λy c' e=>?_,I.free,I.freeC,λp hp=>?_,tracked ⟨oc,hoc,I.freeC x c hc⟩ hs,by simpa using I.len⟩ ⟨c,hs,.inr hc⟩
  ·exact(hs.2 b (pP (uU (hX e) (I.ok.cab x c hfn hc)))).trans (I.base.keep b o e n hb hx)
  ·obtain⟨sl,e1⟩:=I.base.slot b o e n hb hx
   exact⟨sl,(hs.2 b (pP (uU (hX e) (I.ok.cab x c hfn hc)))).trans e1⟩
  ·obtain⟨o',e1⟩:=I.base.there b o e hx
   exact⟨o',(hs.2 b (pP (uU (hX e) (I.ok.cab x c hfn hc)))).trans e1⟩
  ·by_cases hj:j=i
   ·subst hj
    rw[hi] at e1;cases e1
    rw[Rt9 hiσ] at e2
    cases e2
    exact⟨u,r,.inr ⟨.inl hk,c,hc,hc'⟩⟩
   ·rw[Sa9 (Ne.symm hj)] at e2
    obtain⟨u',r',q⟩:=hl j y v' e1 e2 e3
    refine⟨u',r',?_⟩
    rcases q with q|⟨k,c',e,z'⟩
    ·exact .inl q
    ·refine .inr ⟨k,c',e,z'.sameBut hs ?_⟩
     rintro rfl
     exact hj (aEg hN e1 (I.ok.inj _ _ _ e hc▸hi))
  ·by_cases hcc:c'=c
   ·subst hcc;exact⟨_,hc'⟩
   ·obtain⟨w2,z2⟩:=I.cell y c' e
    exact⟨w2,z2.sameBut hs hcc⟩
  ·obtain⟨e,n,ne,nf,d⟩:=I.pin p hp
   refine⟨(hs.2 p.1 ?_).trans e,n,ne,nf,d⟩
   intro q
   rw[q,hoc] at e
   have q':oc=p.2:=Option.some.inj e
   exact d w' (by rw[<-q'];exact hocd)
theorem aAP{M:Model}{A:Around}{E:Value->Shared->Prop}{i:Nat}{x:Str}{v:V}{u:Value}{Q:Unit->Shared->Prop}(I:Inv X pins σ H s)(hN:X.N.Nodup)(hi:X.N[i]?=some x)(hx:Loc X.env.scope x)(r:RelV v u)
  (h:∀s',Inv X pins (σ.set i (some v)) H s'->Q () s') (hf:X.fn x=true\/X.env.scope.names.lookup x=some .local:=by first|exact .inl rfl|exact .inr rfl|assumption):wpAny M A (storeName X.env x u) Q E s:=
 aCu I hN hi hx r (λs' I' _=>h s' I') hf
theorem Inv.aOi{s':Shared}{ch:List Addr}(I:Inv X pins σ H s)(ho:s'.os=s.os)(u:Un (frs X.stack) ch H H' s.heap s'.heap)(hok:sL X.prog X.w H' s'.heap)(hg:AllBare s'.gens)
  (hch:∀b∈ch,(b∈X.ex\/X.s₀.heap.objs.size<=b)/\b≠X.env.locals/\(∀x c,X.env.cells.lookup x=some c->c≠b)/\∀p∈X.pn++pins,p.1≠b):Inv X pins σ H' s':=by
 obtain⟨h',g',d',t',o'⟩:=s'
 have e:o'=s.os:=ho
 subst e
 exact I.call (g':=g') (t':=t') (d':=d') u hok hg hch
end
abbrev XK:=Value->Option Addr->Hp->Prop
abbrev St:=List (Option V)
abbrev VK:=V->Hp->Prop
abbrev TE:=St->Hp->VK->Prop
abbrev TT:=St->Hp->(Bool->Hp->Prop)->Prop
abbrev TA:=St->Hp->(List V->Hp->Prop)->Prop
structure Ends where
 nx:St->Hp->Prop
 rt:VK
 bk:St->Hp->Prop:=λ_ _=>False
 ct:St->Hp->Prop:=λ_ _=>False
abbrev TS:=Ends->St->Hp->Prop
def EP(X:Cx)(pins:List (Addr×Obj))(σ:St)(Q:VK)(u:Value)(s':Shared):Prop:=∃v H',Inv X pins σ H' s'/\RelV v u/\Q v H'
def TP(X:Cx)(pins:List (Addr×Obj))(σ:St)(Q:Bool->Hp->Prop)(b:Bool)(s':Shared):Prop:=∃H',Inv X pins σ H' s'/\Q b H'
def AP(X:Cx)(pins:List (Addr×Obj))(σ:St)(Q:List V->Hp->Prop)(us:List Value)(s':Shared):Prop:=∃vs H',Inv X pins σ H' s'/\Vals vs us/\Q vs H'
def SP(X:Cx)(pins:List (Addr×Obj))(D:Ends)(f:Flow)(s':Shared):Prop:=
 match f with
 |.next=>∃σ' H',Inv X pins σ' H' s'/\D.nx σ' H'
 |.brk=>∃σ' H',Inv X pins σ' H' s'/\D.bk σ' H'
 |.cont=>∃σ' H',Inv X pins σ' H' s'/\D.ct σ' H'
 |.ret u=>∃v σ' H',Inv X pins σ' H' s'/\RelV v u/\D.rt v H'
def PE(X:Cx)(e:Expr)(t:TE):Prop:=
 ∀(pins:List (Addr×Obj)) (s:Shared) (σ:St) (H:Hp) (Q:VK),Inv X pins σ H s->t σ H Q->wpAny (model X.prog X.w) X.A (eval e X.env) (EP X pins σ Q) X.xe s
def PT(X:Cx)(e:Expr)(t:TT):Prop:=
 ∀(pins:List (Addr×Obj)) (s:Shared) (σ:St) (H:Hp) (Q:Bool->Hp->Prop),Inv X pins σ H s->t σ H Q->wpAny (model X.prog X.w) X.A (isTrue e X.env (eval e X.env)) (TP X pins σ Q) X.xe s
def PW(X:Cx)(e:Expr)(t:TT):Prop:=
 ∀(whole:Sem Value) (pins:List (Addr×Obj)) (s:Shared) (σ:St) (H:Hp) (Q:Bool->Hp->Prop),Inv X pins σ H s->t σ H Q->wpAny (model X.prog X.w) X.A (isTrue e X.env whole) (TP X pins σ Q) X.xe s
theorem PW.pt{X:Cx}{e:Expr}{t:TT}(h:PW X e t):PT X e t:=h _
def PA(X:Cx)(es:List Expr)(t:TA):Prop:=
 ∀(pos:Pos) (pins:List (Addr×Obj)) (s:Shared) (σ:St) (H:Hp) (Q:List V->Hp->Prop),Inv X pins σ H s->t σ H Q->wpAny (model X.prog X.w) X.A (spliced (backTo pos (starEach es X.env))) (AP X pins σ Q) X.xe s
def PS(X:Cx)(st:Stmt)(t:TS):Prop:=
 ∀(pins:List (Addr×Obj)) (s:Shared) (σ:St) (H:Hp) (D:Ends),Inv X pins σ H s->t D σ H->wpAny (model X.prog X.w) X.A (exec st X.env) (SP X pins D) X.xe s
def PSs(X:Cx)(st:List Stmt)(t:TS):Prop:=
 ∀(pins:List (Addr×Obj)) (s:Shared) (σ:St) (H:Hp) (D:Ends),Inv X pins σ H s->t D σ H->wpAny (model X.prog X.w) X.A (execs st X.env) (SP X pins D) X.xe s
theorem dG{α:Type}{t:Sem α}{Q Q':α->Shared->Prop}{M:Model}{A:Around}{E:Value->Shared->Prop}{s:Shared}(h:wpAny M A t Q E s)(hQ:∀a s,Q a s->Q' a s):wpAny M A t Q' E s:=wpAny_mono h hQ λ_ _ x=>x
end L2
namespace L2
open PySem PySem.Spec PyProof.Rows
section
variable{X:Cx}
def aL9(i:Nat):TE:=λσ H Q=>∃v,σ[i]?=some (some v)/\Q v H
def tC(v:V):TE:=λ_ H Q=>Q v H
theorem aH2{i:Nat}{x:Str}{pos:Pos}(hN:X.N[i]?=some x)(hv:Vis X.env.scope x)(hd:(x == ("__debug__" : Str))=false:=by decide)(hcd:(x == ("__classdict__" : Str))=false:=by decide):PE X (.Name x pos) (aL9 i):=by
 intro pins s σ H Q I h
 obtain⟨v,e,h⟩:=h
 obtain⟨m,hn,hl⟩:=I.loc
 obtain⟨u,r,l⟩:=hl i x v hN e hv
 have fin:EP X pins σ Q u s:=⟨v,H,I,r,h⟩
 rcases l with ⟨hk,hm⟩|⟨hk,c,hc,hcell⟩
 ·exact wpAny_Name (wpAny_loadName_local I.ok.kind hk hn hm fin) hd
 ·rcases hk with hk|hk
  ·exact wpAny_Name (wpAny_loadName_cell I.ok.kind hk hc hcell fin) hd
  ·exact wpAny_Name (wpAny_loadName_free I.ok.kind hk hc hcell fin hcd) hd
theorem aMa{i j pos}:PE X (.Constant (.int i) j pos) (tC (.int i)):=λ_ _ _ H _ I h=>wpAny_Constant_int ⟨.int i,H,I.tok _,⟨_,rfl⟩,h⟩
theorem aOj{b j pos}:PE X (.Constant (.bool b) j pos) (tC (.bl b)):=λ_ _ _ H _ I h=>Constant_bool ⟨.bl b,H,I,rfl,h⟩
theorem aMb{j pos}:PE X (.Constant .none j pos) (tC .non):=λ_ _ _ H _ I h=>Constant_none ⟨.non,H,I,rfl,h⟩
def Gl(X:Cx)(x:Str):Prop:=X.env.kindOf x=some .globalImplicit
theorem aAC{E:Value->Shared->Prop}{pins:List (Addr×Obj)}{s:Shared}{σ:St}{H:Hp}{x:Str}{u:Value}{pos:Pos}{Q:Value->Shared->Prop}(I:Inv X pins σ H s)(hg:Gl X x)(hm:X.mg x=some u)(h:Q u s)
  (hd:(x == ("__debug__" : Str))=false:=by decide):wpAny (model X.prog X.w) X.A (eval (.Name x pos) X.env) Q E s:=
 Calls.Name_function_global I.ok.kind hg (Calls.loadGlobal_global (by rw[I.ok.glob];exact I.mod.glob.keeps I.bk) hm h) hd
theorem sP{E:Value->Shared->Prop}{pins:List (Addr×Obj)}{s:Shared}{σ:St}{H:Hp}{x:Str}{u:Value}{pos:Pos}{Q:Value->Shared->Prop}(I:Inv X pins σ H s)(hg:Gl X x)(hm:X.mg x=none)(hv:bootBuiltins x=some u)(h:Q u s)
  (hn:x≠"__name__":=by decide) (hd:(x == ("__debug__" : Str))=false:=by decide):wpAny (model X.prog X.w) X.A (eval (.Name x pos) X.env) Q E s:=by
 obtain⟨mb,h1,h2⟩:=I.mod.blt
 exact Calls.Name_function_global I.ok.kind hg (Calls.loadGlobal_builtin (by rw[I.ok.glob];exact I.mod.glob.keeps I.bk) hm (by rw[I.ok.blt];exact h1.keeps I.bk) ((h2 x hn).trans hv) h) hd
theorem aKi{x:Str}{v:V}{u:Value}{pos:Pos}(hg:Gl X x)(hm:X.mg x=some u)(r:RelV v u)(hd:(x == ("__debug__" : Str))=false:=by decide):PE X (.Name x pos) (tC v):=
 λ_ _ _ H _ I h=>aAC I hg hm ⟨v,H,I,r,h⟩ hd
theorem aKj{x:Str}{v:V}{u:Value}{pos:Pos}(hg:Gl X x)(hm:X.mg x=none)(hv:bootBuiltins x=some u)(r:RelV v u)(hn:x≠"__name__":=by decide)(hd:(x == ("__debug__" : Str))=false:=by decide):PE X (.Name x pos) (tC v):=
 λ_ _ _ H _ I h=>sP I hg hm hv ⟨v,H,I,r,h⟩ hn hd
variable{a b:Expr}{ta tb:TE}{pos:Pos}
def tB(t:TE):TT:=λσ H Q=>t σ H λx H1=>∃c,x=.bl c/\Q c H1
theorem aMc{e:Expr}{t:TE}(h:PE X e t)(he:∀whole,isTrue e X.env whole=(do let v <-whole;standAt e.pos;holding [v] (truthy v)):=by intro _;rfl):PT X e (tB t):=by
 intro pins s σ H Q I hw
 refine isTrue_plain (dG (h pins s σ H _ I hw) λv s1 ⟨x,H1,I1,r1,q1⟩=>?_) (he _)
 obtain⟨d,rfl,q⟩:=q1
 cases r1
 exact wpAny_truthy_bool ⟨H1,I1,q⟩
variable{tA tB':TT}{rest:List Expr}
def aMd(t u:TT):TT:=λσ H Q=>t σ H λc H1=>if c=true then u σ H1 Q else Q false H1
def tOr(t u:TT):TT:=λσ H Q=>t σ H λc H1=>if c=true then Q true H1 else u σ H1 Q
def aMe(t:TT):TT:=λσ H Q=>t σ H λc H1=>Q (!c) H1
theorem aKk(ha:PT X a tA):PW X (.BoolOp .And [a] pos) tA:=by
 intro wh pins s σ H Q I h
 refine isTrue_and (dG (ha pins s σ H Q I h) λc s1 e=>?_)
 cases c with
 |true=>exact isTrue_and_nil e
 |false=>exact e
theorem aMf(ha:PT X a tA):PW X (.BoolOp .Or [a] pos) tA:=by
 intro wh pins s σ H Q I h
 refine isTrue_or (dG (ha pins s σ H Q I h) λc s1 e=>?_)
 cases c with
 |false=>exact isTrue_or_nil e
 |true=>exact e
theorem aMg(ha:PT X a tA)(hb:PW X (.BoolOp .And (b::rest) pos) tB'):PW X (.BoolOp .And (a::b::rest) pos) (aMd tA tB'):=by
 intro wh pins s σ H Q I h
 refine isTrue_and (dG (ha pins s σ H _ I h) λc s1 ⟨H1,I1,q1⟩=>?_)
 cases c with
 |true=>exact hb wh pins s1 σ H1 Q I1 q1
 |false=>exact⟨H1,I1,q1⟩
theorem aOk(ha:PT X a tA)(hb:PW X (.BoolOp .Or (b::rest) pos) tB'):PW X (.BoolOp .Or (a::b::rest) pos) (tOr tA tB'):=by
 intro wh pins s σ H Q I h
 refine isTrue_or (dG (ha pins s σ H _ I h) λc s1 ⟨H1,I1,q1⟩=>?_)
 cases c with
 |true=>exact⟨H1,I1,q1⟩
 |false=>exact hb wh pins s1 σ H1 Q I1 q1
theorem aMh(ha:PT X a tA):PT X (.UnaryOp .Not a pos) (aMe tA):=by
 intro pins s σ H Q I h
 exact isTrue_not (ha pins s σ H (λc H1=>Q (!c) H1) I h)
def aH3(ta tb:TE):TE:=λσ H Q=>ta σ H λx H1=>∃c,x=.bl c/\if c=true then tb σ H1 Q else Q (.bl false) H1
def aMi(ta tb:TE):TE:=λσ H Q=>ta σ H λx H1=>∃c,x=.bl c/\if c=true then Q (.bl true) H1 else tb σ H1 Q
def aH4(ta:TE):TE:=λσ H Q=>ta σ H λx H1=>∃c,x=.bl c/\Q (.bl (!c)) H1
theorem aMj{op}{t:TE}(h:PE X a t):PE X (.BoolOp op [a] pos) t:=λpins s σ H Q I hw=>BoolOp_one (h pins s σ H Q I hw)
theorem aMk(ha:PE X a ta)(hb:PE X (.BoolOp .And (b::rest) pos) tb):PE X (.BoolOp .And (a::b::rest) pos) (aH3 ta tb):=by
 intro pins s σ H Q I h
 refine BoolOp_and (dG (ha pins s σ H _ I h) λv s1 ⟨x,H1,I1,r1,q1⟩=>?_)
 obtain⟨c,rfl,q1⟩:=q1
 cases r1
 refine wpAny_truthy_bool ?_
 cases c with
 |true=>exact hb pins s1 σ H1 Q I1 q1
 |false=>exact⟨.bl false,H1,I1,rfl,q1⟩
theorem aOl(ha:PE X a ta)(hb:PE X (.BoolOp .Or (b::rest) pos) tb):PE X (.BoolOp .Or (a::b::rest) pos) (aMi ta tb):=by
 intro pins s σ H Q I h
 refine BoolOp_or (dG (ha pins s σ H _ I h) λv s1 ⟨x,H1,I1,r1,q1⟩=>?_)
 obtain⟨c,rfl,q1⟩:=q1
 cases r1
 refine wpAny_truthy_bool ?_
 cases c with
 |false=>exact hb pins s1 σ H1 Q I1 q1
 |true=>exact⟨.bl true,H1,I1,rfl,q1⟩
theorem aMl(ha:PE X a ta):PE X (.UnaryOp .Not a pos) (aH4 ta):=by
 intro pins s σ H Q I h
 refine UnaryOp_ (dG (ha pins s σ H _ I h) λv s1 ⟨x,H1,I1,r1,q1⟩=>?_)
 obtain⟨c,rfl,q1⟩:=q1
 cases r1
 exact not_of (wpAny_truthy_bool ⟨.bl (!c),H1,I1,rfl,q1⟩)
end
end L2
namespace L2
open PySem PySem.Spec PyProof.Rows
def bU(K:W.Frag)(H:Hp)(a:Addr)(xs:List V):Prop:=
 Rd H a (.lst xs)\/
  ∃(o:Obj) (its:Array Value) (n:Nat),K.lookup a=some o/\o.cls=.type "list"/\o.dict=none/\o.data=.seq its n/\its.size<=sizeLine/\Vals xs its.toList
def iY(K:W.Frag)(H:Hp)(a:Addr)(xs:List V):Prop:=
 Rd H a (.tup xs)\/
  ∃(o:Obj) (its:Array Value) (n:Nat),K.lookup a=some o/\o.cls=.type "tuple"/\o.data=.seq its n/\its.size<=sizeLine/\Vals xs its.toList
def aPp:Value->Option V
 |.none=>some .non
 |.bool b=>some (.bl b)
 |.int i _=>some (.int i)
 |.str x _=>some (.str x)
 |.bytes b _=>some (.byt b)
 |.float b _=>some (.flt b)
 |.ref a=>some (.ref a)
 |.type n=>some (.ty n)
 |_=>none
theorem RelV.abs{x:V}{u:Value}(r:RelV x u):aPp u=some x:=by
 cases x with
 |non=>cases r;rfl
 |bl _=>cases r;rfl
 |int _=>obtain⟨t,rfl⟩:=r;rfl
 |str _=>obtain⟨t,rfl⟩:=r;rfl
 |byt _=>obtain⟨t,rfl⟩:=r;rfl
 |flt _=>obtain⟨t,rfl⟩:=r;rfl
 |ref _=>cases r;rfl
 |ty _=>cases r;rfl
theorem RelV.inj{x y:V}{u:Value}(r:RelV x u)(q:RelV y u):x=y:=Option.some.inj (r.abs.symm.trans q.abs)
theorem Vals.inj:∀{xs ys:List V}{us:List Value},Vals xs us->Vals ys us->xs=ys
 |_,_,_,.nil,.nil=>rfl
 |_,_,_,.cons r t,.cons r' t'=>by rw[r.inj r',Vals.inj t t']
section
variable{X:Cx}{pins:List (Addr×Obj)}{σ:St}{H:Hp}{s:Shared}{a:Addr}{xs ys:List V}
theorem bU.of{K:W.Frag}(h:H a=some (.lst xs)):bU K H a xs:=.inl (.inl h)
theorem iY.of{K:W.Frag}(h:H a=some (.tup xs)):iY K H a xs:=.inl (.inl h)
theorem Inv.list(I:Inv X pins σ H s)(h:bU X.K H a xs):∃its:List Value,Vals xs its/\PlainL s.heap a its.toArray/\xs.length<=sizeLine:=by
 rcases h with h|⟨o,its,n,hk,hc,hd,hs,hz,r⟩
 ·obtain⟨z,its,n,r,e⟩:=h.ok I.hok
  exact⟨its,r,⟨_,n,e,rfl,rfl,rfl⟩,z⟩
 ·refine⟨its.toList,r,⟨o,n,I.yO a o hk,hc,hd,by simpa using hs⟩,?_⟩
  have e:=r.length
  simp only[Re9] at e
  omega
theorem Inv.tuple(I:Inv X pins σ H s)(h:iY X.K H a xs):∃its:List Value,Vals xs its/\IsTup s.heap a its.toArray/\xs.length<=sizeLine:=by
 rcases h with h|⟨o,its,n,hk,hc,hs,hz,r⟩
 ·obtain⟨z,its,r,p⟩:=h.ok I.hok
  exact⟨its,r,p,z⟩
 ·refine⟨its.toList,r,⟨o,I.yO a o hk,hc,n,by simpa using hs⟩,?_⟩
  have e:=r.length
  simp only[Re9] at e
  omega
theorem Inv.sQ(I:Inv X pins σ H s)(h:bU X.K H a xs)(h':bU X.K H a ys):xs=ys:=by
 obtain⟨its,r,⟨o,n,e,_,_,d⟩,_⟩:=I.list h
 obtain⟨its',r',⟨o',n',e',_,_,d'⟩,_⟩:=I.list h'
 rw[e] at e';cases e'
 rw[d] at d'
 injection d' with d1 _
 have:its=its':=by simpa using congrArg Array.toList d1
 subst this
 exact r.inj r'
theorem Inv.aCv(I:Inv X pins σ H s)(h:iY X.K H a xs)(h':iY X.K H a ys):xs=ys:=by
 obtain⟨its,r,⟨o,e,_,n,d⟩,_⟩:=I.tuple h
 obtain⟨its',r',⟨o',e',_,n',d'⟩,_⟩:=I.tuple h'
 rw[e] at e';cases e'
 rw[d] at d'
 injection d' with d1 _
 have:its=its':=by simpa using congrArg Array.toList d1
 subst this
 exact r.inj r'
end
abbrev Cx.aBS(X:Cx)(E:Value->Shared->Prop):Cx:={ X with xe:=E }
abbrev Cx.nox(X:Cx):Cx:=X.aBS λ_ _=>False
theorem Cx.Ok.aBS{X:Cx}(ok:X.Ok)(E:Value->Shared->Prop):(X.aBS E).Ok:=
 ⟨ok.mod,ok.kind,ok.glob,ok.blt,ok.above,ok.inj,ok.has,ok.cab,ok.hd,ok.frames,ok.stk,ok.exf,ok.bs,ok.bsz,ok.noex,ok.exfs,ok.vP,ok.frf⟩
theorem Cx.Ok.sR{X:Cx}{E:Value->Shared->Prop}(ok:(X.aBS E).Ok):X.Ok:=
 ⟨ok.mod,ok.kind,ok.glob,ok.blt,ok.above,ok.inj,ok.has,ok.cab,ok.hd,ok.frames,ok.stk,ok.exf,ok.bs,ok.bsz,ok.noex,ok.exfs,ok.vP,ok.frf⟩
section
variable{X:Cx}{pins:List (Addr×Obj)}{σ:St}{H:Hp}{s:Shared}{E:Value->Shared->Prop}
theorem Inv.aBS(I:Inv X pins σ H s)(E:Value->Shared->Prop):Inv (X.aBS E) pins σ H s:=⟨I.ok.aBS E,I.os,I.bare,I.base,I.loc,I.cell,I.free,I.freeC,I.pin,I.hok,I.len⟩
theorem Inv.sR(I:Inv (X.aBS E) pins σ H s):Inv X pins σ H s:=⟨I.ok.sR,I.os,I.bare,I.base,I.loc,I.cell,I.free,I.freeC,I.pin,I.hok,I.len⟩
theorem SP.sR{D:Ends}{f:Flow}{s':Shared}(h:SP (X.aBS E) pins D f s'):SP X pins D f s':=by
 cases f with
 |next=>obtain⟨σ',H',I,q⟩:=h;exact⟨σ',H',I.sR,q⟩
 |brk=>obtain⟨σ',H',I,q⟩:=h;exact⟨σ',H',I.sR,q⟩
 |cont=>obtain⟨σ',H',I,q⟩:=h;exact⟨σ',H',I.sR,q⟩
 |ret u=>obtain⟨v,σ',H',I,r,q⟩:=h;exact⟨v,σ',H',I.sR,r,q⟩
theorem PSs.nox{st:List Stmt}{t:TS}(h:PSs X.nox st t):PSs X st t:=λpins s σ H D I hw=>
 wpAny_mono (h pins s σ H D (I.aBS _) hw) (λ_ _ q=>q.sR) λ_ _ z=>False.elim z
end
section
variable{X:Cx}{st:Stmt}{rest:List Stmt}{t u:TS}{e:Expr}{te:TE}{pos:Pos}
def aH5:TS:=λD σ H=>D.nx σ H
def aH6(t u:TS):TS:=λD σ H=>t { D with nx:=u D } σ H
theorem aKl:PSs X [] aH5:=λ_ _ σ H _ I h=>wpAny_execs_nil ⟨σ,H,I,h⟩
theorem aH7(h1:PS X st t)(h2:PSs X rest u):PSs X (st::rest) (aH6 t u):=by
 intro pins s σ H D I h
 refine wpAny_execs_cons (dG (h1 pins s σ H { D with nx:=u D } I h) λf s1 q=>?_)
 cases f with
 |next=>
  obtain⟨σ',H',I',q⟩:=q
  exact h2 pins s1 σ' H' D I' q
 |ret v=>exact q
 |brk=>exact q
 |cont=>exact q
theorem aKm(h1:PS X st t):PSs X [st] t:=by
 intro pins s σ H D I h
 refine wpAny_execs_cons (dG (h1 pins s σ H D I h) λf s1 q=>?_)
 cases f with
 |next=>exact wpAny_execs_nil q
 |ret v=>exact q
 |brk=>exact q
 |cont=>exact q
theorem Inv.quiet{pins:List (Addr×Obj)}{σ:St}{H:Hp}{s:Shared}(I:Inv X pins σ H s):interactive X.env=false:=by simp[interactive,I.ok.kind]
def aH8(te:TE):TS:=λD σ H=>te σ H λ_ H1=>D.nx σ H1
theorem aKn(he:PE X e te)(hs:swapsWith e none pos.line X.env=pure false:=by rfl):PS X (.Expr e pos) (aH8 te):=by
 intro pins s σ H D I h
 exact wpAny_Expr_any (dG (he pins s σ H _ I h) λv s1 ⟨x,H1,I1,r1,q1⟩=>⟨σ,H1,I1,q1⟩) I.quiet hs
def aMm(te:TE):TS:=λD σ H=>te σ H D.rt
theorem aMn(he:PE X e te):PS X (.Return (some e) pos) (aMm te):=by
 intro pins s σ H D I h
 exact wpAny_Return_some (dG (he pins s σ H _ I h) λv s1 ⟨x,H1,I1,r1,q1⟩=>⟨x,σ,H1,I1,r1,q1⟩)
def aMo(c:TT)(t u:TS):TS:=λD σ H=>c σ H λb H1=>if b=true then t D σ H1 else u D σ H1
theorem aOm{c:Expr}{a b:List Stmt}{tc:TT}(hc:PT X c tc)(ha:PSs X a t)(hb:PSs X b u):PS X (.If c a b pos) (aMo tc t u):=by
 intro pins s σ H D I h
 refine wpAny_If (dG (hc pins s σ H _ I h) λd s1 ⟨H1,I1,q1⟩=>?_)
 cases d with
 |true=>exact ha pins s1 σ H1 D I1 q1
 |false=>exact hb pins s1 σ H1 D I1 q1
def aH9:TS:=λ_ _ _=>False
theorem aIa:PS X st aH9:=λ_ _ _ _ _ _ h=>h.elim
end
abbrev TG:=V->St->Hp->(St->Hp->Prop)->Prop
abbrev TGs:=List V->St->Hp->(St->Hp->Prop)->Prop
def PG(X:Cx)(target:Expr)(t:TG):Prop:=
 ∀(pins:List (Addr×Obj)) (s:Shared) (σ:St) (H:Hp) (v:V) (u:Value) (Q:St->Hp->Prop),Inv X pins σ H s->RelV v u->t v σ H Q->
  wpAny (model X.prog X.w) X.A (assign target X.env u) (λ_ s'=>∃σ' H',Inv X pins σ' H' s'/\Q σ' H') X.xe s
def PGs(X:Cx)(ts:List Expr)(t:TGs):Prop:=
 ∀(pins:List (Addr×Obj)) (s:Shared) (σ:St) (H:Hp) (vs:List V) (us:List Value) (Q:St->Hp->Prop),Inv X pins σ H s->Vals vs us->t vs σ H Q->
  wpAny (model X.prog X.w) X.A (assignInOrder ((assignEach ts X.env).map (·.2)) us) (λ_ s'=>∃σ' H',Inv X pins σ' H' s'/\Q σ' H') X.xe s
abbrev aC6:=V->V->V->Hp->(Hp->Prop)->Prop
def aIb(X:Cx)(t:aC6):Prop:=
 ∀(pins:List (Addr×Obj)) (s:Shared) (σ:St) (H:Hp) (o i v:V) (ov iv u:Value) (Q:Hp->Prop),Inv X pins σ H s->RelV o ov->RelV i iv->RelV v u->t o i v H Q->
  wpAny (model X.prog X.w) X.A (setItem ov iv u) (λ_ s'=>∃H',Inv X pins σ H' s'/\Q H') X.xe s
abbrev TIp:=V->V->Hp->VK->Prop
def PIp(X:Cx)(op:Operator)(t:TIp):Prop:=
 ∀(pins:List (Addr×Obj)) (s:Shared) (σ:St) (H:Hp) (x y:V) (v u:Value) (Q:VK),Inv X pins σ H s->RelV x v->RelV y u->t x y H Q->
  wpAny (model X.prog X.w) X.A (inplaceOp op v u) (EP X pins σ Q) X.xe s
section
variable{X:Cx}{pos:Pos}
def sS(i:Nat):TG:=λv σ H Q=>Q (σ.set i (some v)) H
theorem aKo{i:Nat}{x:Str}(hN:X.N.Nodup)(hi:X.N[i]?=some x)(hx:Loc X.env.scope x)(hf:X.fn x=true\/X.env.scope.names.lookup x=some .local:=by first|exact .inl rfl|exact .inr rfl|assumption):PG X (.Name x pos) (sS i):=by
 intro pins s σ H v u Q I r h
 exact wpAny_assign_Name (aAP I hN hi hx r (λs' I'=>⟨_,H,I',h⟩) hf)
def aKp:TGs:=λvs σ H Q=>vs=[]/\Q σ H
def aGj(t:TG)(u:TGs):TGs:=λvs σ H Q=>∃v r,vs=v::r/\t v σ H λσ' H'=>u r σ' H' Q
theorem aKq:PGs X [] aKp:=by
 intro pins s σ H vs us Q I r h
 obtain⟨e,h⟩:=h
 subst e
 cases r
 exact assignInOrder_nil ⟨σ,H,I,h⟩
theorem aIc{e:Expr}{es:List Expr}{t:TG}{u:TGs}(h1:PG X e t)(h2:PGs X es u)
  (hs:(assignEach (e::es) X.env).map (·.2)=assign e X.env::(assignEach es X.env).map (·.2):=by rfl):PGs X (e::es) (aGj t u):=by
 intro pins s σ H vs us Q I r h
 obtain⟨v,vr,e1,h⟩:=h
 subst e1
 cases r with
 |cons r rr=>
  rw[hs]
  refine assignInOrder_cons (dG (h1 pins s σ H _ _ _ I r h) λ_ s1 ⟨σ1,H1,I1,q1⟩=>?_)
  exact h2 pins s1 σ1 H1 _ _ Q I1 rr q1
def aKr(K:W.Frag)(n:Nat)(t:TGs):TG:=λv σ H Q=>∃a xs,v=.ref a/\iY K H a xs/\xs.length=n/\t xs σ H Q
theorem aMp{es:List Expr}{k:Nat}{t:TGs}{n:Nat}(hc:X.calm=true)(h:PGs X es t)
  (hn:(assignEach es X.env).length=n:=by rfl) (hst:(assignEach es X.env).findIdx? (·.1)=none:=by rfl):PG X (.Tuple es k pos) (aKr X.K n t):=by
 intro pins s σ H v u Q I r hw
 obtain⟨a,xs,e1,hq,hl,hw⟩:=hw
 subst e1
 cases r
 obtain⟨its,rv,ht,hz⟩:=I.tuple hq
 refine assign_Tuple_tuple (I.ok.hd hc) ht (by simp[hn,<-hl,rv.length]) hst λh' hx=>?_
 have I1:Inv X pins σ H { s with heap:=h' }:=I.kept (t':=s.toks) λb o e=>hx b o (pP (hX e)) e
 exact h pins _ σ H xs _ Q I1 (by simpa using rv) hw
def aMq(to ti:TE)(t:aC6):TG:=λv σ H Q=>to σ H λo H1=>ti σ H1 λi H2=>t o i v H2 λH3=>Q σ H3
theorem aMr{o i:Expr}{to ti:TE}{t:aC6}(ho:PE X o to)(hi:PE X i ti)(hs:aIb X t)
  (ha:∀v,assign (.Subscript o i pos) X.env v=(do
   let ov <-holding [v] (eval o X.env)
   let iv <-holding [v,ov] (eval i X.env)
   standAt pos
   holding [v,ov,iv] (setItem ov iv v)
   release [v,ov,iv] []):=by intro _;rfl):PG X (.Subscript o i pos) (aMq to ti t):=by
 intro pins s σ H v u Q I r h
 rw[ha]
 refine wpAny_bind (wpAny_holding (dG (ho pins s σ H _ I h) λov s1 ⟨x,H1,I1,r1,q1⟩=>?_))
 refine wpAny_bind (wpAny_holding (dG (hi pins s1 σ H1 _ I1 q1) λiv s2 ⟨y,H2,I2,r2,q2⟩=>?_))
 refine wpAny_bind (wpAny_standAt (wpAny_bind (wpAny_holding (dG (hs pins s2 σ H2 x y v ov iv u _ I2 r1 r2 r q2) λ_ s3 ⟨H3,I3,q3⟩=>?_))))
 exact wpAny_release ⟨σ,H3,I3,q3⟩
def aEh(te:TE)(g:TG):TS:=λD σ H=>te σ H λx H1=>g x σ H1 D.nx
theorem aMs{tg e:Expr}{te:TE}{g:TG}(he:PE X e te)(hg:PG X tg g)(hs:swapsWithSole [tg] e pos.line X.env=pure false:=by rfl)(hw:swappedStores [tg] e X.env=pure none:=by rfl)
  (h1:(assignEach [tg] X.env).map (·.2)=[assign tg X.env]:=by rfl):PS X (.Assign [tg] e pos) (aEh te g):=by
 intro pins s σ H D I h
 refine wpAny_Assign_stores (dG (he pins s σ H _ I h) λv s1 ⟨x,H1,I1,r1,q1⟩=>?_) hs hw
 rw[h1]
 exact dG (hg pins s1 σ H1 x v _ I1 r1 q1) λ_ s2 q=>q
theorem aMt{i:Nat}{x:Str}{e:Expr}{te:TE}{pos':Pos}(hN:X.N.Nodup)(hi:X.N[i]?=some x)(hx:Loc X.env.scope x)(he:PE X e te)(hs:swapsWith e (some (.Name x pos')) pos.line X.env=pure false:=by rfl)(hf:X.fn x=true\/X.env.scope.names.lookup x=some .local:=by first|exact .inl rfl|exact .inr rfl|assumption) :
  PS X (.Assign [.Name x pos'] e pos) (aEh te (sS i)):=by
 intro pins s σ H D I h
 refine wpAny_Assign_Name (dG (he pins s σ H _ I h) λv s1 ⟨y,H1,I1,r1,q1⟩=>?_) hs
 exact aAP I1 hN hi hx r1 (λs2 I2=>⟨_,H1,I2,q1⟩) hf
def aMu(i:Nat)(te:TE)(ti:TIp):TS:=λD σ H=>∃x,σ[i]?=some (some x)/\te σ H λy H1=>ti x y H1 λz H2=>D.nx (σ.set i (some z)) H2
theorem aMv{i:Nat}{x:Str}{e:Expr}{te:TE}{op:Operator}{ti:TIp}{pos':Pos}(hN:X.N.Nodup)(hi:X.N[i]?=some x)(hx:Loc X.env.scope x)(he:PE X e te)(ho:PIp X op ti)(hf:X.fn x=true\/X.env.scope.names.lookup x=some .local:=by first|exact .inl rfl|exact .inr rfl|assumption) :
  PS X (.AugAssign (.Name x pos') op e pos) (aMu i te ti):=by
 intro pins s σ H D I h
 obtain⟨v,e1,h⟩:=h
 obtain⟨m,hn,hl⟩:=I.loc
 have vis:Vis X.env.scope x:=by rcases hx with k|k;exact .inl k;exact .inr (.inl k)
 obtain⟨u,r,l⟩:=hl i x v hi e1 vis
 refine wpAny_AugAssign_Name ?_
 have go:wpAny (model X.prog X.w) X.A (eval e X.env) (λw s₂=>wpAny (model X.prog X.w) X.A (inplaceOp op u w) (λr s₃=>wpAny (model X.prog X.w) X.A (storeName X.env x r) (λ_=>SP X pins D .next) X.xe s₃) X.xe s₂) X.xe s:=by
  refine dG (he pins s σ H _ I h) λw s1 ⟨y,H1,I1,r1,q1⟩=>?_
  refine dG (ho pins s1 σ H1 v y u w _ I1 r r1 q1) λz s2 ⟨zv,H2,I2,r2,q2⟩=>?_
  exact aAP I2 hN hi hx r2 (λs3 I3=>⟨_,H2,I3,q2⟩) hf
 rcases l with ⟨hk,hm⟩|⟨hk,c,hc,hcell⟩
 ·exact wpAny_loadName_local I.ok.kind hk hn hm go
 ·rcases hk with hk|hk
  ·exact wpAny_loadName_cell I.ok.kind hk hc hcell go
  ·rcases hx with k|k
   ·have:X.env.scope.names.lookup x=some .free:=hk
    rw[k] at this;cases this
   ·have:X.env.scope.names.lookup x=some .free:=hk
    rw[k] at this;cases this
def aIe(to ti te:TE)(tget:V->V->Hp->VK->Prop)(tip:TIp)(tset:aC6):TS:=λD σ H=>to σ H λo H1=>ti σ H1 λi H2=>tget o i H2 λx H3=>te σ H3 λy H4=>tip x y H4 λz H5=>tset o i z H5 λH6=>D.nx σ H6
def aMw(X:Cx)(t:V->V->Hp->VK->Prop):Prop:=
 ∀(pins:List (Addr×Obj)) (s:Shared) (σ:St) (H:Hp) (o i:V) (ov iv:Value) (Q:VK),Inv X pins σ H s->RelV o ov->RelV i iv->t o i H Q->
  wpAny (model X.prog X.w) X.A (getItem ov iv) (EP X pins σ Q) X.xe s
theorem aKs{o i e:Expr}{to ti te:TE}{tget:V->V->Hp->VK->Prop}{tip:TIp}{tset:aC6}{op:Operator}{tpos:Pos}(ho:PE X o to)(hi:PE X i ti)(hg:aMw X tget)(he:PE X e te)(hp:PIp X op tip)(hs:aIb X tset)
  (ha:∀ov iv new,augStore i ov iv new=(do holding [new,ov,iv] (setItem ov iv new);release [new,ov,iv] [];pure .next):=by intros;rfl):PS X (.AugAssign (.Subscript o i tpos) op e pos) (aIe to ti te tget tip tset):=by
 intro pins s σ H D I h
 refine wpAny_AugAssign_SubscriptAny (dG (ho pins s σ H _ I h) λov s1 ⟨x1,H1,I1,r1,q1⟩=>?_) ha
 refine dG (hi pins s1 σ H1 _ I1 q1) λiv s2 ⟨x2,H2,I2,r2,q2⟩=>?_
 refine dG (hg pins s2 σ H2 x1 x2 ov iv _ I2 r1 r2 q2) λold s3 ⟨x3,H3,I3,r3,q3⟩=>?_
 refine dG (he pins s3 σ H3 _ I3 q3) λv s4 ⟨x4,H4,I4,r4,q4⟩=>?_
 refine dG (hp pins s4 σ H4 x3 x4 old v _ I4 r3 r4 q4) λnew s5 ⟨x5,H5,I5,r5,q5⟩=>?_
 exact dG (hs pins s5 σ H5 x1 x2 x5 ov iv new _ I5 r1 r2 r5 q5) λ_ s6 ⟨H6,I6,q6⟩=>⟨σ,H6,I6,q6⟩
def ipI(f:Int->Int->Int):TIp:=λx y H Q=>∃i j,x=.int i/\y=.int j/\Q (.int (f i j)) H
theorem aC7:PIp X .Add (ipI λi j=>i+j):=by
 intro pins s σ H x y v u Q I r1 r2 h
 obtain⟨i,j,e1,e2,q⟩:=h
 subst e1;subst e2
 obtain⟨t,rfl⟩:=r1
 obtain⟨t',rfl⟩:=r2
 exact iadd_int ⟨.int _,H,I.tok _,⟨_,rfl⟩,q⟩
end
section
variable{X:Cx}{pos:Pos}
end
structure It where
 go:Nat->Hp->Prop
 yld:Nat->Hp->V->Hp->Prop
 stop:Nat->Hp->Prop
def w5(X:Cx)(pins:List (Addr×Obj))(H:Hp)(b:Addr):Prop:=
 H b=none/\b≠X.env.locals/\b∉X.fs/\(b∈X.ex\/X.s₀.heap.objs.size<=b)/\(∀x c,X.env.cells.lookup x=some c->c≠b)/\∀p∈X.pn++pins,p.1≠b
theorem Inv.aBT{X:Cx}{pins:List (Addr×Obj)}{σ:St}{H H':Hp}{s:Shared}{b:Addr}(I:Inv X pins σ H s)(hb:s.heap.objs.size<=b)(hn:H' b=none):w5 X pins H' b:=by
 refine⟨hn,Tj9 (uU I.lt hb),I.aPo hb,.inr (zK I.sz hb),λx c e z=>?_,λp hp z=>?_⟩
 ·obtain⟨v,q⟩:=I.cell x c e
  exact absurd (uU q.lt (by rw[z];exact hb)) (Sm9 _)
 ·exact absurd (uU (hX (I.pin p hp).1) (by rw[z];exact hb)) (Sm9 _)
structure Turn(P:Program)(w:World)(K:W.Frag)(tg:Expr)(J:It)(fp:List Addr)(it:Addr)(tn:Nat->Heap->Prop):Prop where
 mem:it∈fp
 obj:∀i h,tn i h->∀b∈fp,∃o,h.get? b=some o/\∀v,o.data≠.cell v
 keep:∀i h h',tn i h->(∀b∈fp,∀o,h.get? b=some o->h'.get? b=some o)->tn i h'
 item:∀(X:Cx),X.prog=P->X.w=w->X.K=K->X.calm=true->∀(i:Nat) (pins:List (Addr×Obj)) (s:Shared) (σ:St) (H:Hp) (E:Value->Shared->Prop),Inv X pins σ H s->(∀b∈fp,w5 X pins H b)->tn i s.heap->J.go i H->
  wpAny (model P w) X.A (pyNext (.ref it)) (λr s1=>∃u,r=some u/\
   wpAny (model P w) X.A (letOwnedTupleGo tg (.ref it) u) (λ_ s2=>∃x H',Inv X pins σ H' s2/\RelV x u/\J.yld i H x H'/\tn (i+1) s2.heap/\∀b∈fp,H' b=none) E s1) E s
 done:∀(X:Cx),X.prog=P->X.w=w->X.K=K->X.calm=true->∀(i:Nat) (pins:List (Addr×Obj)) (s:Shared) (σ:St) (H:Hp) (E:Value->Shared->Prop),Inv X pins σ H s->(∀b∈fp,w5 X pins H b)->tn i s.heap->J.stop i H->
  wpAny (model P w) X.A (pyNext (.ref it)) (λr s1=>r=none/\Inv X pins σ H s1) E s
 self:∀(A:Around) (i:Nat) (s:Shared) (Q:Value->Shared->Prop) (E:Value->Shared->Prop),tn i s.heap->Q (.ref it) s->wpAny (model P w) A (pyIter (.ref it)) Q E s
abbrev TI:=St->Hp->(It->Hp->Prop)->Prop
def PIE(X:Cx)(pins:List (Addr×Obj))(σ:St)(tg:Expr)(R:It->Hp->Prop)(itv:Value)(s2:Shared):Prop:=
 ∃(it:Addr) (fp:List Addr) (tn:Nat->Heap->Prop) (J:It) (H':Hp),itv=.ref it/\Inv X pins σ H' s2/\Turn X.prog X.w X.K tg J fp it tn/\tn 0 s2.heap/\(∀b∈fp,w5 X pins H' b)/\R J H'
def PI(X:Cx)(tg iter:Expr)(wi:TI):Prop:=
 ∀(pins:List (Addr×Obj)) (s:Shared) (σ:St) (H:Hp) (R:It->Hp->Prop),Inv X pins σ H s->wi σ H R->
  wpAny (model X.prog X.w) X.A (eval iter X.env) (λv s1=>wpAny (model X.prog X.w) X.A (pyIter v) (PIE X pins σ tg R) X.xe s1) X.xe s
theorem aCw{M:Model}{A:Around}{E:Value->Shared->Prop}{s:Shared}{tg:Expr}{it:Addr}{u:Value}{o:Obj}{n:String}{vs:Array Value}{Q:Unit->Shared->Prop}(ho:s.heap.get? it=some o)(hc:o.cls=.type n)(hd:o.data=.fields vs)
  (hn:["enumerate","zip","dict_itemiterator","dict_reverseitemiterator","odict_iterator","itertools.zip_longest","itertools.pairwise"].contains n=false) (hQ:Q () s):wpAny M A (letOwnedTupleGo tg (.ref it) u) Q E s:=by
 unfold letOwnedTupleGo
 cases tg <;> first
  |exact wpAny_pure hQ
  |(cases u <;> first
    |exact wpAny_pure hQ
    |(
      refine wpAny_bind (wpAny_load ho ?_)
      rw[hc,hd]
      show wpAny M A (if (["enumerate","zip","dict_itemiterator","dict_reverseitemiterator","odict_iterator","itertools.zip_longest","itertools.pairwise"].contains n && vs[0]? == some (rawInt _))=true then _ else _) Q E s
      rw[if_neg (by intro h;rw[hn,Rx9] at h;cases h)]
      exact wpAny_pure hQ))
def Itl(K:W.Frag)(a:Addr):It:=
 ⟨λi H=>∃xs x,bU K H a xs/\xs[i]?=some x,λi H x H'=>H'=H/\∀xs,bU K H a xs->xs[i]?=some x,λi H=>∃xs,bU K H a xs/\xs.length<=i⟩
def Itt(K:W.Frag)(a:Addr):It:=
 ⟨λi H=>∃xs x,iY K H a xs/\xs[i]?=some x,λi H x H'=>H'=H/\∀xs,iY K H a xs->xs[i]?=some x,λi H=>∃xs,iY K H a xs/\xs.length<=i⟩
def Itr(lo:Int)(n:Nat):It:=⟨λi _=>i < n,λi H x H'=>H'=H/\x=.int (lo+i),λi _=>n<=i⟩
theorem aG5{P:Program}{w:World}{K:W.Frag}{tg:Expr}(a it:Addr):Turn P w K tg (Itl K a) [it] it (λi h=>h.IsListIter it a i) where
 mem:=by simp
 obj:=λi h st b hb=>by
  have e:b=it:=by simpa using hb
  subst e
  obtain⟨o,e,c,d⟩:=st
  exact⟨o,e,λv z=>by rw[d] at z;cases z⟩
 keep:=λi h h' st k=>st.at λo e=>k it (by simp) o e
 item:=by
  intro X hP hw hK hc i pins s σ H E I hf st hg
  subst hP hw hK
  obtain⟨xs,x,hq,hx⟩:=hg
  obtain⟨its,rv,p,hz⟩:=I.list hq
  obtain⟨u,hu,ru⟩:=rv.get hx
  obtain⟨f0,f1,f2,f3,f4,f5⟩:=hf it (by simp)
  refine wpAny_pyNext_list_item st p.isList (x:=u) (by simpa using hu) λh' st' sb=>?_
  have I1:Inv X pins σ H { s with heap:=h' }:=I.turned (t':=s.toks) (λb o hb e=>(sb.2 b hb).trans e) f0 f1 f3 f4 f5
  obtain⟨o,e,c,d⟩:=id st'
  exact⟨u,rfl,aCw (s:={ s with heap:=h' }) e c d (by decide) ⟨x,H,I1,ru,⟨rfl,λys hy=>by rw[I.sQ hy hq];exact hx⟩,st',λb hb=>(hf b hb).1⟩⟩
 done:=by
  intro X hP hw hK hc i pins s σ H E I hf st hg
  subst hP hw hK
  obtain⟨xs,hq,hx⟩:=hg
  obtain⟨its,rv,p,hz⟩:=I.list hq
  obtain⟨f0,f1,f2,f3,f4,f5⟩:=hf it (by simp)
  have hl:=rv.length
  exact wpAny_pyNext_list_end (I.ok.hd hc) st p.isList (by simp;omega) λh' eb=>⟨rfl,I.turned (t':=s.toks) (λb o hb e=>eb b o hb e) f0 f1 f3 f4 f5⟩
 self:=λ_ _ _ _ _ st h=>wpAny_pyIter_listiter st h
theorem aFj{P:Program}{w:World}{K:W.Frag}{tg:Expr}(a it:Addr):Turn P w K tg (Itt K a) [it] it (λi h=>h.IsTupleIter it a i) where
 mem:=by simp
 obj:=λi h st b hb=>by
  have e:b=it:=by simpa using hb
  subst e
  obtain⟨o,e,c,d⟩:=st
  exact⟨o,e,λv z=>by rw[d] at z;cases z⟩
 keep:=λi h h' st k=>st.at λo e=>k it (by simp) o e
 item:=by
  intro X hP hw hK hc i pins s σ H E I hf st hg
  subst hP hw hK
  obtain⟨xs,x,hq,hx⟩:=hg
  obtain⟨its,rv,p,hz⟩:=I.tuple hq
  obtain⟨u,hu,ru⟩:=rv.get hx
  obtain⟨f0,f1,f2,f3,f4,f5⟩:=hf it (by simp)
  refine wpAny_pyNext_tuple_item st (show s.heap.IsTuple a its.toArray from p) (x:=u) (by simpa using hu) λh' st' sb=>?_
  have I1:Inv X pins σ H { s with heap:=h' }:=I.turned (t':=s.toks) (λb o hb e=>(sb.2 b hb).trans e) f0 f1 f3 f4 f5
  obtain⟨o,e,c,d⟩:=id st'
  exact⟨u,rfl,aCw (s:={ s with heap:=h' }) e c d (by decide) ⟨x,H,I1,ru,⟨rfl,λys hy=>by rw[I.aCv hy hq];exact hx⟩,st',λb hb=>(hf b hb).1⟩⟩
 done:=by
  intro X hP hw hK hc i pins s σ H E I hf st hg
  subst hP hw hK
  obtain⟨xs,hq,hx⟩:=hg
  obtain⟨its,rv,p,hz⟩:=I.tuple hq
  obtain⟨f0,f1,f2,f3,f4,f5⟩:=hf it (by simp)
  have hl:=rv.length
  exact wpAny_pyNext_tuple_end (I.ok.hd hc) st (show s.heap.IsTuple a its.toArray from p) (by simp;omega) λh' eb=>⟨rfl,I.turned (t':=s.toks) (λb o hb e=>eb b o hb e) f0 f1 f3 f4 f5⟩
 self:=λ_ _ _ _ _ st h=>wpAny_pyIter_tupleiter st h
theorem aFk{P:Program}{w:World}{K:W.Frag}{tg:Expr}(it:Addr)(lo:Int)(n:Nat):Turn P w K tg (Itr lo n) [it] it (λi h=>IsRangeIter h it (lo+(i:Nat)*1) ((n:Int) - (i:Nat)) 1) where
 mem:=by simp
 obj:=λi h st b hb=>by
  have e:b=it:=by simpa using hb
  subst e
  exact⟨_,st,λv z=>by
   have z':Data.fields _=Data.cell v:=z
   cases z'⟩
 keep:=λi h h' st k=>k it (by simp) _ st
 item:=by
  intro X hP hw hK hc i pins s σ H E I hf st hg
  subst hP hw hK
  obtain⟨f0,f1,f2,f3,f4,f5⟩:=hf it (by simp)
  have W:=Walks.range (prog:=X.prog) (w:=X.w) (I.ok.hd hc) it lo 1 n
  refine W.item i s _ _ hg st λv h' tk hv st' kk=>?_
  obtain⟨t,rfl⟩:=hv
  have I1:Inv X pins σ H { s with heap:=h',toks:=tk }:=I.turned (λb o hb e=>kk b o (by simpa using hb) e) f0 f1 f3 f4 f5
  refine⟨_,rfl,aCw (s:={ s with heap:=h',toks:=tk }) (n:="range_iterator") st' rfl rfl (by decide) ⟨.int (lo+i),H,I1,⟨t,?_⟩,⟨rfl,rfl⟩,st',λb hb=>(hf b hb).1⟩⟩
  rw[Int.mul_one]
 done:=by
  intro X hP hw hK hc i pins s σ H E I hf st hg
  subst hP hw hK
  obtain⟨f0,f1,f2,f3,f4,f5⟩:=hf it (by simp)
  exact wpAny_pyNext_range_end (I.ok.hd hc) st (by have:n<=i:=hg;omega) λh' eb=>⟨rfl,I.turned (t':=s.toks) (λb o hb e=>eb b o hb e) f0 f1 f3 f4 f5⟩
 self:=λ_ _ _ _ _ st h=>wpAny_pyIter_rangeiter st h
end L2
namespace L2
open PySem PySem.Spec PyProof.Rows
section
variable{X:Cx}{tg:Expr}
def aIf(K:W.Frag)(tl:TE):TI:=λσ H R=>tl σ H λx H1=>∃a,x=.ref a/\(∃xs,bU K H1 a xs)/\R (Itl K a) H1
def aMx(K:W.Frag)(tl:TE):TI:=λσ H R=>tl σ H λx H1=>∃a,x=.ref a/\(∃xs,iY K H1 a xs)/\R (Itt K a) H1
theorem aKt{l:Expr}{tl:TE}(hl:PE X l tl):PI X tg l (aIf X.K tl):=by
 intro pins s σ H R I h
 refine dG (hl pins s σ H _ I h) λv s1 ⟨x,H1,I1,r1,q1⟩=>?_
 obtain⟨a,e,⟨xs,hq⟩,q⟩:=q1
 subst e
 cases r1
 obtain⟨its,rv,p,hz⟩:=I1.list hq
 refine wpAny_pyIter_list p.isList ?_
 refine⟨s1.heap.objs.size,[s1.heap.objs.size],_,_,H1,rfl,I1.kept (t':=s1.toks) λb o e=>lV _ e,aG5 a _,⟨_,sN _ rfl,rfl,rfl⟩,λb hb=>?_,q⟩
 have e:b=s1.heap.objs.size:=by simpa using hb
 subst e
 exact I1.aBT (dQ _) (I1.hok.fresh (dQ _))
theorem aMy{l:Expr}{tl:TE}(hl:PE X l tl):PI X tg l (aMx X.K tl):=by
 intro pins s σ H R I h
 refine dG (hl pins s σ H _ I h) λv s1 ⟨x,H1,I1,r1,q1⟩=>?_
 obtain⟨a,e,⟨xs,hq⟩,q⟩:=q1
 subst e
 cases r1
 obtain⟨its,rv,p,hz⟩:=I1.tuple hq
 refine wpAny_pyIter_tuple (show s1.heap.IsTuple a its.toArray from p) ?_
 refine⟨s1.heap.objs.size,[s1.heap.objs.size],_,_,H1,rfl,I1.kept (t':=s1.toks) λb o e=>lV _ e,aFj a _,⟨_,sN _ rfl,rfl,rfl⟩,λb hb=>?_,q⟩
 have e:b=s1.heap.objs.size:=by simpa using hb
 subst e
 exact I1.aBT (dQ _) (I1.hok.fresh (dQ _))
theorem aEi{pins:List (Addr×Obj)}{σ:St}{H:Hp}{s:Shared}{R:It->Hp->Prop}{E:Value->Shared->Prop}{lo hi:Int}{t u v:Tok}{tk:Nat}(I:Inv X pins σ H s)(h1:-(2 ^ 62)<=lo)(h2:lo < 2 ^ 62)(h3:-(2 ^ 62)<=hi)(h4:hi < 2 ^ 62)
  (q:R (Itr lo (hi - lo).toNat) H):wpAny (model X.prog X.w) X.A (pyIter (.ref s.heap.objs.size)) (PIE X pins σ tg R) E { s with heap:=s.heap.push { cls:=.type "range",data:=.fields #[.int lo t,.int hi u,.int 1 v] },toks:=tk }:=by
 refine wpAny_pyIter_range (IsRange.new ..) (small_one h1 h2 h3 h4) ?_
 have I1:Inv X pins σ H { s with heap:=s.heap.push { cls:=.type "range",data:=.fields #[.int lo t,.int hi u,.int 1 v] },toks:=tk }:=I.kept λb o e=>lV _ e
 refine⟨(s.heap.push { cls:=.type "range",data:=.fields #[.int lo t,.int hi u,.int 1 v] }).objs.size,[(s.heap.push { cls:=.type "range",data:=.fields #[.int lo t,.int hi u,.int 1 v] }).objs.size],_,_,H,rfl,
  I1.kept (t':=tk) λb o e=>lV _ e,aFk _ lo (hi - lo).toNat,?_,λb hb=>?_,q⟩
 ·have e1:lo+((0:Nat):Int)*1=lo:=by simp
  have e2:(((hi - lo).toNat:Nat):Int) - ((0:Nat):Int)=Builtin.Range.rangeSize lo hi 1:=by rw[rangeSize_one];split <;> omega
  show IsRangeIter _ _ (lo+((0:Nat):Int)*1) ((((hi - lo).toNat:Nat):Int) - ((0:Nat):Int)) 1
  rw[e1,e2]
  exact sN _ rfl
 ·have e:b=(s.heap.push { cls:=.type "range",data:=.fields #[.int lo t,.int hi u,.int 1 v] }).objs.size:=by simpa using hb
  subst e
  exact I1.aBT (dQ _) (I1.hok.fresh (dQ _))
def aGk(ta:TA):TI:=λσ H R=>ta σ H λvs H1=>∃j:Int,vs=[.int j]/\-(2 ^ 62)<=j/\j < 2 ^ 62/\R (Itr 0 j.toNat) H1
def aGl(ta:TA):TI:=λσ H R=>ta σ H λvs H1=>∃i j:Int,vs=[.int i,.int j]/\(-(2 ^ 62)<=i/\i < 2 ^ 62/\-(2 ^ 62)<=j/\j < 2 ^ 62)/\R (Itr i (j - i).toNat) H1
theorem aG6{a:Expr}{ta:TA}{p pos:Pos}(hg:Gl X "range")(hm:X.mg "range" = none)(ha:PA X [a] ta)(hs:starEach [a] X.env=[(false,eval a X.env)]:=by rfl):PI X tg (.Call (.Name "range" p) [a] [] pos) (aGk ta):=by
 intro pins s σ H R I h
 refine Call_ (sP I hg hm boot_range (PyProof.Rows.callWith_type1 (dG (ha pos pins s σ H _ I h) λus s1 ⟨vs,H1,I1,r1,q1⟩=>?_) hs rfl))
 obtain⟨j,e,q1,q2,q⟩:=q1
 subst e
 cases r1 with
 |cons r rr=>
  cases rr
  obtain⟨t,rfl⟩:=r
  exact call_range_1 (aEi I1 (by omega) (by omega) q1 q2 (by simpa using q))
theorem aG7{a b:Expr}{ta:TA}{p pos:Pos}(hg:Gl X "range")(hm:X.mg "range" = none)(ha:PA X [a,b] ta)(hs:starEach [a,b] X.env=[(false,eval a X.env),(false,eval b X.env)]:=by rfl)(hs2:starEach [b] X.env=[(false,eval b X.env)]:=by rfl) :
  PI X tg (.Call (.Name "range" p) [a,b] [] pos) (aGl ta):=by
 intro pins s σ H R I h
 refine Call_ (sP I hg hm boot_range (PyProof.Rows.callWith_type1 (dG (ha pos pins s σ H _ I h) λus s1 ⟨vs,H1,I1,r1,q1⟩=>?_) (by rw[hs,hs2]) (by rw[hs2];rfl)))
 obtain⟨i,j,e,⟨q1,q2,q3,q4⟩,q⟩:=q1
 subst e
 cases r1 with
 |cons r rr=>
  cases rr with
  |cons r' rr=>
   cases rr
   obtain⟨t,rfl⟩:=r
   obtain⟨t',rfl⟩:=r'
   exact call_range_2 (aEi I1 q1 q2 q3 q4 q)
def aMz(wi:TI)(g:TG)(tb:TS):TS:=λD σ H=>wi σ H λJ H1=>∃W:Nat->Nat->St->Hp->Prop,(∃m,W 0 m σ H1)/\∀i m σ H,W i m σ H->
 (J.stop i H/\D.nx σ H)\/(J.go i H/\∃N:St->Hp->Prop,(∀σ' H',N σ' H'->∃m',m' < m/\W (i+1) m' σ' H')/\∀x H',J.yld i H x H'->g x σ H' λσ2 H2=>tb { D with nx:=N,ct:=N,bk:=D.nx } σ2 H2)
def aAQ(fp:List Addr)(h:Heap):List (Addr×Obj):=fp.filterMap λb=>(h.get? b).map λo=>(b,o)
theorem qE{fp:List Addr}{h:Heap}{b:Addr}{o:Obj}(hb:b∈fp)(e:h.get? b=some o):(b,o)∈aAQ fp h:=Tt9.mpr ⟨b,hb,by rw[e];rfl⟩
theorem aG8{fp:List Addr}{h:Heap}{p:Addr×Obj}(hp:p∈aAQ fp h):p.1∈fp/\h.get? p.1=some p.2:=by
 obtain⟨b,hb,e⟩:=Tt9.mp hp
 cases q:h.get? b with
 |none=>rw[q] at e;cases e
 |some o=>
  rw[q] at e
  have e':(b,o)=p:=Option.some.inj e
  subst e'
  exact⟨hb,q⟩
theorem Inv.pinned{pins:List (Addr×Obj)}{σ:St}{H:Hp}{s:Shared}{fp:List Addr}(I:Inv X pins σ H s)(hf:∀b∈fp,w5 X pins H b)(ho:∀b∈fp,∃o,s.heap.get? b=some o/\∀v,o.data≠.cell v):Inv X (pins++aAQ fp s.heap) σ H s:=
 I.aAB λp hp=>(Rf9.mp hp).elim (λz=>I.pin p (Ro9 _ z)) λz=>by
  obtain⟨hb,e⟩:=aG8 z
  obtain⟨f0,f1,f2,_⟩:=hf p.1 hb
  obtain⟨o,e',d⟩:=ho p.1 hb
  rw[e] at e';cases e'
  exact⟨e,f0,f1,f2,d⟩
theorem Inv.w6{pins pl:List (Addr×Obj)}{σ:St}{H:Hp}{s:Shared}(I:Inv X (pins++pl) σ H s):Inv X pins σ H s:=I.aAB λp hp=>I.pin p (Ro9 _ (List.mem_append_left _ hp))
theorem aMA{iter:Expr}{body:List Stmt}{wi:TI}{g:TG}{tb:TS}{pos:Pos}(hp:PassesOwn (model X.prog X.w) X.A X.env X.xe)(hc:X.calm=true)(hi:PI X tg iter wi)(hg:PG X tg g)(hb:PSs X body tb)
  (hs:∀x,foldedSetIterable iter X.env x=pure x:=by intro _;rfl):PS X (.For tg iter body [] pos) (aMz wi g tb):=by
 intro pins s σ H D I h
 refine wpAny_For (dG (hi pins s σ H _ I h) λv s1 h1=>dG h1 λitv s2 h2=>?_) hs
 obtain⟨it,fp,tn,J,H2,e,I2,T,st2,f2,W,⟨m0,w0⟩,turn⟩:=h2
 subst e
 have stat:∀{H':Hp},(∀b∈fp,H' b=none)->∀b∈fp,w5 X pins H' b:=λhn b hb=>⟨hn b hb,(f2 b hb).2⟩
 refine codeAny_forLoop_any (λn s'=>∃i σ' H',Inv X pins σ' H' s'/\tn i s'.heap/\(∀b∈fp,H' b=none)/\W i n σ' H') ?_ m0 ⟨0,σ,H2,I2,st2,λb hb=>(f2 b hb).1,w0⟩
 rintro n s3 ⟨i,σ3,H3,I3,st3,fr3,w3⟩
 rcases turn i n σ3 H3 w3 with ⟨stop,qn⟩|⟨go,N,hN,step⟩
 ·refine wpAny_passesOwn hp (dG (T.done X rfl rfl rfl hc i pins s3 σ3 H3 X.xe I3 (stat fr3) st3 stop) λr s4 ⟨hr,I4⟩=>?_)
  subst hr
  exact wpAny_execs_nil ⟨σ3,H3,I4,qn⟩
 ·refine wpAny_passesOwn hp (dG (T.item X rfl rfl rfl hc i pins s3 σ3 H3 X.xe I3 (stat fr3) st3 go) λr s4 ⟨u,hr,h4⟩=>?_)
  subst hr
  refine wpAny_passesOwn hp (dG h4 λ_ s5 ⟨x,H5,I5,r5,y5,st5,fr5⟩=>?_)
  have I5':=I5.pinned (stat fr5) (T.obj _ _ st5)
  refine wpAny_passesOwn hp (dG (hg _ s5 σ3 H5 x u _ I5' r5 (step x H5 y5)) λ_ s6 ⟨σ6,H6,I6,q6⟩=>?_)
  refine wpAny_passesOwn hp (dG (hb _ s6 σ6 H6 _ I6 q6) λf s7 q7=>?_)
  have again:∀{σ7:St} {H7:Hp},Inv X (pins++aAQ fp s5.heap) σ7 H7 s7->N σ7 H7->∃m,m < n/\∃i σ' H',Inv X pins σ' H' s7/\tn i s7.heap/\(∀b∈fp,H' b=none)/\W i m σ' H':=λ{σ7 H7} I7 n7=>by
   obtain⟨m',hm,w7⟩:=hN σ7 H7 n7
   refine⟨m',hm,i+1,σ7,H7,I7.w6,T.keep _ _ _ st5 λb hb o e=>(I7.pin (b,o) (Ro9 _ (Ro9 _ (qE hb e)))).1,λb hb=>?_,w7⟩
   obtain⟨o,e,d⟩:=T.obj _ _ st5 b hb
   exact(I7.pin (b,o) (Ro9 _ (Ro9 _ (qE hb e)))).2.1
  cases f with
  |next=>obtain⟨σ7,H7,I7,n7⟩:=q7;exact again I7 n7
  |cont=>obtain⟨σ7,H7,I7,n7⟩:=q7;exact again I7 n7
  |brk=>obtain⟨σ7,H7,I7,q7⟩:=q7;exact⟨σ7,H7,I7.w6,q7⟩
  |ret v=>obtain⟨x7,σ7,H7,I7,r7,q7⟩:=q7;exact⟨x7,σ7,H7,I7.w6,r7,q7⟩
end
theorem aIg{K:W.Frag}{a:Addr}{xs:List V}{g:TG}{tb:TS}{D:Ends}{σ:St}{H:Hp}(Pv:Nat->St->Hp->Prop)(h0:Pv 0 σ H)(hl:∀i σ H,i<=xs.length->Pv i σ H->bU K H a xs)
  (hs:∀i x σ H,xs[i]?=some x->Pv i σ H->g x σ H λσ2 H2=>tb { D with nx:=Pv (i+1),ct:=Pv (i+1),bk:=D.nx } σ2 H2) (hd:∀σ H,Pv xs.length σ H->D.nx σ H) :
  ∃W:Nat->Nat->St->Hp->Prop,(∃m,W 0 m σ H)/\∀i m σ H,W i m σ H->
   ((Itl K a).stop i H/\D.nx σ H)\/((Itl K a).go i H/\∃N:St->Hp->Prop,(∀σ' H',N σ' H'->∃m',m' < m/\W (i+1) m' σ' H')/\∀x H',(Itl K a).yld i H x H'->g x σ H' λσ2 H2=>tb { D with nx:=N,ct:=N,bk:=D.nx } σ2 H2):=by
 refine⟨λi m σ H=>m=xs.length - i/\i<=xs.length/\Pv i σ H,⟨xs.length,by simp,zL _,h0⟩,?_⟩
 rintro i m σ H ⟨rfl,hi,p⟩
 have q:=hl i σ H hi p
 by_cases hlt:i < xs.length
 ·refine .inr ⟨⟨xs,xs[i],q,by simp[hlt]⟩,Pv (i+1),λσ' H' p'=>⟨xs.length - (i+1),by omega,rfl,hlt,p'⟩,λx H' y=>?_⟩
  obtain⟨e,y⟩:=y
  subst e
  exact hs i x σ _ (y xs q) p
 ·have e:i=xs.length:=by omega
  subst e
  exact .inl ⟨⟨xs,q,dQ _⟩,hd σ H p⟩
theorem aKu{K:W.Frag}{a:Addr}{xs:List V}{g:TG}{tb:TS}{D:Ends}{σ:St}{H:Hp}(Pv:Nat->St->Hp->Prop)(h0:Pv 0 σ H)(hl:∀i σ H,i<=xs.length->Pv i σ H->iY K H a xs)
  (hs:∀i x σ H,xs[i]?=some x->Pv i σ H->g x σ H λσ2 H2=>tb { D with nx:=Pv (i+1),ct:=Pv (i+1),bk:=D.nx } σ2 H2) (hd:∀σ H,Pv xs.length σ H->D.nx σ H) :
  ∃W:Nat->Nat->St->Hp->Prop,(∃m,W 0 m σ H)/\∀i m σ H,W i m σ H->
   ((Itt K a).stop i H/\D.nx σ H)\/((Itt K a).go i H/\∃N:St->Hp->Prop,(∀σ' H',N σ' H'->∃m',m' < m/\W (i+1) m' σ' H')/\∀x H',(Itt K a).yld i H x H'->g x σ H' λσ2 H2=>tb { D with nx:=N,ct:=N,bk:=D.nx } σ2 H2):=by
 refine⟨λi m σ H=>m=xs.length - i/\i<=xs.length/\Pv i σ H,⟨xs.length,by simp,zL _,h0⟩,?_⟩
 rintro i m σ H ⟨rfl,hi,p⟩
 have q:=hl i σ H hi p
 by_cases hlt:i < xs.length
 ·refine .inr ⟨⟨xs,xs[i],q,by simp[hlt]⟩,Pv (i+1),λσ' H' p'=>⟨xs.length - (i+1),by omega,rfl,hlt,p'⟩,λx H' y=>?_⟩
  obtain⟨e,y⟩:=y
  subst e
  exact hs i x σ _ (y xs q) p
 ·have e:i=xs.length:=by omega
  subst e
  exact .inl ⟨⟨xs,q,dQ _⟩,hd σ H p⟩
theorem aG9{lo:Int}{n:Nat}{g:TG}{tb:TS}{D:Ends}{σ:St}{H:Hp}(Pv:Nat->St->Hp->Prop)(h0:Pv 0 σ H)
  (hs:∀i σ H,i < n->Pv i σ H->g (.int (lo+i)) σ H λσ2 H2=>tb { D with nx:=Pv (i+1),ct:=Pv (i+1),bk:=D.nx } σ2 H2) (hd:∀σ H,Pv n σ H->D.nx σ H) :
  ∃W:Nat->Nat->St->Hp->Prop,(∃m,W 0 m σ H)/\∀i m σ H,W i m σ H->
   ((Itr lo n).stop i H/\D.nx σ H)\/((Itr lo n).go i H/\∃N:St->Hp->Prop,(∀σ' H',N σ' H'->∃m',m' < m/\W (i+1) m' σ' H')/\∀x H',(Itr lo n).yld i H x H'->g x σ H' λσ2 H2=>tb { D with nx:=N,ct:=N,bk:=D.nx } σ2 H2):=by
 refine⟨λi m σ H=>m=n - i/\i<=n/\Pv i σ H,⟨n,by simp,zL _,h0⟩,?_⟩
 rintro i m σ H ⟨rfl,hi,p⟩
 by_cases hlt:i < n
 ·refine .inr ⟨hlt,Pv (i+1),λσ' H' p'=>⟨n - (i+1),by omega,rfl,hlt,p'⟩,λx H' y=>?_⟩
  obtain⟨e,y⟩:=y
  subst e y
  exact hs i σ _ hlt p
 ·have e:i=n:=by omega
  subst e
  exact .inl ⟨dQ _,hd σ H p⟩
end L2
namespace L2
open PySem PySem.Spec PyProof.Rows
abbrev R2:=V->V->Hp->VK->Prop
def rZ(X:Cx)(f:Value->Value->Sem Value)(r:R2):Prop:=
 ∀(pins:List (Addr×Obj)) (s:Shared) (σ:St) (H:Hp) (x y:V) (v u:Value) (Q:VK),Inv X pins σ H s->RelV x v->RelV y u->r x y H Q->
  wpAny (model X.prog X.w) X.A (f v u) (EP X pins σ Q) X.xe s
def UnR(X:Cx)(f:Value->Sem Value)(r:V->Hp->VK->Prop):Prop:=
 ∀(pins:List (Addr×Obj)) (s:Shared) (σ:St) (H:Hp) (x:V) (v:Value) (Q:VK),Inv X pins σ H s->RelV x v->r x H Q->
  wpAny (model X.prog X.w) X.A (f v) (EP X pins σ Q) X.xe s
def eJ(X:Cx)(f:Value)(r:List V->Hp->VK->Prop):Prop:=
 ∀(pins:List (Addr×Obj)) (s:Shared) (σ:St) (H:Hp) (xs:List V) (us:List Value) (Q:VK),Inv X pins σ H s->Vals xs us->r xs H Q->
  wpAny (model X.prog X.w) X.A (call f us) (EP X pins σ Q) X.xe s
def tOp(r:R2)(ta tb:TE):TE:=λσ H Q=>ta σ H λx H1=>tb σ H1 λy H2=>r x y H2 Q
def tUn(r:V->Hp->VK->Prop)(ta:TE):TE:=λσ H Q=>ta σ H λx H1=>r x H1 Q
def rI(C:Int->Int->Prop)(g:Int->Int->V):R2:=λx y H Q=>∃i j,x=.int i/\y=.int j/\C i j/\Q (g i j) H
def rI0(g:Int->Int->V):R2:=λx y H Q=>∃i j,x=.int i/\y=.int j/\Q (g i j) H
def rU(g:Int->V):V->Hp->VK->Prop:=λx H Q=>∃i,x=.int i/\Q (g i) H
section
variable{X:Cx}{a b c:Expr}{ta tb tc:TE}{pos:Pos}
theorem aMB(ha:PE X a ta)(hb:PE X b tb){pins:List (Addr×Obj)}{s:Shared}{σ:St}{H:Hp}{R:V->V->Hp->Prop}(I:Inv X pins σ H s)
  (h:ta σ H λx H1=>tb σ H1 λy H2=>R x y H2) {Q:Value->Shared->Prop} {f:Value->Value->Sem Value}
  (hf:∀v u s2 x y H2,Inv X pins σ H2 s2->RelV x v->RelV y u->R x y H2->wpAny (model X.prog X.w) X.A (f v u) Q X.xe s2) :
  wpAny (model X.prog X.w) X.A (eval a X.env) (λv s₁=>wpAny (model X.prog X.w) X.A (eval b X.env) (λu s₂=>wpAny (model X.prog X.w) X.A (f v u) Q X.xe s₂) X.xe s₁) X.xe s:=by
 refine dG (ha pins s σ H _ I h) λv s1 ⟨x,H1,I1,r1,q1⟩=>?_
 refine dG (hb pins s1 σ H1 _ I1 q1) λu s2 ⟨y,H2,I2,r2,q2⟩=>?_
 exact hf v u s2 x y H2 I2 r1 r2 q2
theorem aOn{op:Operator}{r:R2}(ho:rZ X (binaryOp op) r)(ha:PE X a ta)(hb:PE X b tb):PE X (.BinOp a op b pos) (tOp r ta tb):=by
 intro pins s σ H Q I h
 exact wpAny_BinOp (aMB ha hb I h λv u s2 x y H2 I2 rx ry q=>ho pins s2 σ H2 x y v u Q I2 rx ry q)
theorem aOo{op:UnaryOp}{r:V->Hp->VK->Prop}(ho:UnR X (unaryOp op) r)(ha:PE X a ta):PE X (.UnaryOp op a pos) (tUn r ta):=by
 intro pins s σ H Q I h
 exact UnaryOp_ (dG (ha pins s σ H _ I h) λv s1 ⟨x,H1,I1,r1,q1⟩=>ho pins s1 σ H1 x v Q I1 r1 q1)
theorem opI{f:Value->Value->Sem Value}{C:Int->Int->Prop}{g:Int->Int->Int}
  (rule:∀(i j:Int) (t u:Tok) (s:Shared) (Q:Value->Shared->Prop) (E:Value->Shared->Prop),C i j->Q (.int (g i j) s.toks) { s with toks:=s.toks+1 }->wpAny (model X.prog X.w) X.A (f (.int i t) (.int j u)) Q E s) :
  rZ X f (rI C λi j=>.int (g i j)):=by
 intro pins s σ H x y v u Q I rx ry h
 obtain⟨i,j,rfl,rfl,hc,q⟩:=h
 obtain⟨t,rfl⟩:=rx
 obtain⟨t',rfl⟩:=ry
 exact rule i j t t' s _ _ hc ⟨.int (g i j),H,I.tok _,⟨_,rfl⟩,q⟩
theorem aOp{f:Value->Value->Sem Value}{g:Int->Int->Int}
  (rule:∀(i j:Int) (t u:Tok) (s:Shared) (Q:Value->Shared->Prop) (E:Value->Shared->Prop),Q (.int (g i j) s.toks) { s with toks:=s.toks+1 }->wpAny (model X.prog X.w) X.A (f (.int i t) (.int j u)) Q E s) :
  rZ X f (rI0 λi j=>.int (g i j)):=by
 intro pins s σ H x y v u Q I rx ry h
 obtain⟨i,j,rfl,rfl,q⟩:=h
 obtain⟨t,rfl⟩:=rx
 obtain⟨t',rfl⟩:=ry
 exact rule i j t t' s _ _ ⟨.int (g i j),H,I.tok _,⟨_,rfl⟩,q⟩
theorem aKv{f:Value->Value->Sem Value}{g:Int->Int->Bool}
  (rule:∀(i j:Int) (t u:Tok) (s:Shared) (Q:Value->Shared->Prop) (E:Value->Shared->Prop),Q (.bool (g i j)) s->wpAny (model X.prog X.w) X.A (f (.int i t) (.int j u)) Q E s) :
  rZ X f (rI0 λi j=>.bl (g i j)):=by
 intro pins s σ H x y v u Q I rx ry h
 obtain⟨i,j,rfl,rfl,q⟩:=h
 obtain⟨t,rfl⟩:=rx
 obtain⟨t',rfl⟩:=ry
 exact rule i j t t' s _ _ ⟨.bl (g i j),H,I,rfl,q⟩
def aPq(i j:Int):Prop:=0 < j/\j < 1073741824
def aPr(i j:Int):Prop:=0<=j/\j<=1000000/\i.natAbs < 2 ^ 64
def aIh(i j:Int):Prop:=(-(2 ^ 64) < i/\i < 2 ^ 64)\/(-(2 ^ 64) < j/\j < 2 ^ 64)
theorem aIh.ok{i j:Int}(h:aIh i j):IntMulOk i j:=by
 rcases h with ⟨h1,h2⟩|⟨h1,h2⟩
 ·exact .of_left (intBits_le_64 h1 h2)
 ·exact .of_right (intBits_le_64 h1 h2)
theorem aMC:rZ X (binaryOp .Add) (rI0 λi j=>.int (i+j)):=aOp λ_ _ _ _ _ _ _ q=>add_int q
theorem eZ:rZ X (binaryOp .Sub) (rI0 λi j=>.int (i - j)):=aOp λ_ _ _ _ _ _ _ q=>sub_int q
theorem aMD:rZ X (binaryOp .Mult) (rI aIh λi j=>.int (i*j)):=opI λ_ _ _ _ _ _ _ hc q=>mul_int q hc.ok
theorem aGm:rZ X (binaryOp .FloorDiv) (rI aPq λi j=>.int (i / j)):=opI λi j _ _ _ _ _ hc q=>by
 have h1:(0:Int) < j:=hc.1
 have h2:j < 1073741824:=hc.2
 exact floordiv_int (by omega) (by rw[Int.fdiv_eq_ediv_of_nonneg i (by omega)];exact q) (.inl (PyProof.noPylong_small (by omega)))
theorem iZ:rZ X (binaryOp .Mod) (rI (λ_ j=>0 < j) λi j=>.int (i % j)):=opI λi j _ _ _ _ _ hc q=>by
 have h1:(0:Int) < j:=hc
 exact mod_int' (by omega) (by rw[Int.fmod_eq_emod_of_nonneg i (by omega)];exact q)
theorem qF:rZ X (binaryOp .Pow) (rI aPr λi j=>.int (i ^ j.toNat)):=opI λ_ _ _ _ _ _ _ hc q=>pow_int_small hc.1 hc.2.1 hc.2.2 q
theorem unI{f:Value->Sem Value}{g:Int->Int}
  (rule:∀(i:Int) (t:Tok) (s:Shared) (Q:Value->Shared->Prop) (E:Value->Shared->Prop),Q (.int (g i) s.toks) { s with toks:=s.toks+1 }->wpAny (model X.prog X.w) X.A (f (.int i t)) Q E s) :
  UnR X f (rU λi=>.int (g i)):=by
 intro pins s σ H x v Q I rx h
 obtain⟨i,rfl,q⟩:=h
 obtain⟨t,rfl⟩:=rx
 exact rule i t s _ _ ⟨.int (g i),H,I.tok _,⟨_,rfl⟩,q⟩
theorem nH:UnR X (unaryOp .USub) (rU λi=>.int (-i)):=unI λ_ _ _ _ _ q=>neg_int q
end
section
variable{X:Cx}{a b c:Expr}{ta tb tc:TE}{pos:Pos}
theorem aOq:rZ X (compareOp .Lt) (rI0 λi j=>.bl (decide (i < j))):=aKv λ_ _ _ _ _ _ _ q=>lt_int q
theorem aCx:rZ X (compareOp .LtE) (rI0 λi j=>.bl (decide (i<=j))):=aKv λ_ _ _ _ _ _ _ q=>le_int q
theorem xA:rZ X (compareOp .Gt) (rI0 λi j=>.bl (decide (j < i))):=aKv λ_ _ _ _ _ _ _ q=>gt_int q
theorem aLT:rZ X (compareOp .GtE) (rI0 λi j=>.bl (decide (j<=i))):=aKv λ_ _ _ _ _ _ _ q=>ge_int q
theorem rZ.or{f:Value->Value->Sem Value}{r r':R2}(h:rZ X f r)(h':rZ X f r'):rZ X f (λx y H Q=>r x y H Q\/r' x y H Q):=by
 intro pins s σ H x y v u Q I rx ry q
 rcases q with q|q
 ·exact h pins s σ H x y v u Q I rx ry q
 ·exact h' pins s σ H x y v u Q I rx ry q
theorem bP(b:Expr){op:CmpOp}(h:op≠.In:=by decide)(h2:op≠.NotIn:=by decide):behindInMarks op b=false:=by
 have e1:(op == CmpOp.In)=false:=by cases op <;> first|rfl|exact absurd rfl h
 have e2:(op == CmpOp.NotIn)=false:=by cases op <;> first|rfl|exact absurd rfl h2
 cases b <;> simp[behindInMarks,e1,e2]
theorem aKw{op:CmpOp}{r:R2}(ho:rZ X (compareOp op) r)(ha:PE X a ta)(hb:PE X b tb)(hm:behindInMarks op b=false):PE X (.Compare a [op] [b] pos) (tOp r ta tb):=by
 intro pins s σ H Q I h
 exact wpAny_Compare1 (aMB ha hb I h λv u s2 x y H2 I2 rx ry q=>ho pins s2 σ H2 x y v u Q I2 rx ry q) hm
def aIi(t:TE):TT:=λσ H Q=>t σ H λx H'=>∃k,x=.bl k/\Q k H'
theorem aKx{op:CmpOp}{r:R2}(ho:rZ X (compareOp op) r)(ha:PE X a ta)(hb:PE X b tb)(hm:behindInMarks op b=false):PT X (.Compare a [op] [b] pos) (aIi (tOp r ta tb)):=by
 intro pins s σ H Q I h
 refine wpAny_isTrue_Compare1 (dG (ha pins s σ H _ I h) λv s1 ⟨x,H1,I1,r1,q1⟩=>dG (hb pins s1 σ H1 _ I1 q1) λu s2 ⟨y,H2,I2,r2,q2⟩=>
  dG (ho pins s2 σ H2 x y v u _ I2 r1 r2 q2) λc s3 ⟨z,H3,I3,r3,k,e,q3⟩=>?_) hm
 subst e
 cases r3
 exact wpAny_truthy_bool ⟨H3,I3,q3⟩
def aFl(r r':R2)(ta tb tc:TE):TE:=λσ H Q=>ta σ H λx H1=>tb σ H1 λy H2=>r x y H2 λz H3=>∃k,z=.bl k/\
 (if k=true then tc σ H3 λw' H4=>r' y w' H4 Q else Q (.bl false) H3)
theorem aIj{op op':CmpOp}{r r':R2}(ho:rZ X (compareOp op) r)(ho':rZ X (compareOp op') r')(ha:PE X a ta)(hb:PE X b tb)(hc:PE X c tc)
  (hm:lastMarks [op,op'] [b,c]=false:=by with_unfolding_all rfl):PE X (.Compare a [op,op'] [b,c] pos) (aFl r r' ta tb tc):=by
 intro pins s σ H Q I h
 refine Compare_chain (dG (ha pins s σ H _ I h) λv s1 ⟨x,H1,I1,r1,q1⟩=>chain_link (dG (hb pins s1 σ H1 _ I1 q1) λu s2 ⟨y,H2,I2,r2,q2⟩=>
  dG (ho pins s2 σ H2 x y v u _ I2 r1 r2 q2) λd s3 ⟨z,H3,I3,r3,k,e,q3⟩=>?_)) hm
 subst e
 cases r3
 refine wpAny_truthy_bool ?_
 cases k with
 |false=>exact ite_ff ⟨.bl false,H3,I3,rfl,q3⟩
 |true=>exact ite_tt (chain_last (dG (hc pins s3 σ H3 _ I3 q3) λw' s4 ⟨z',H4,I4,r4,q4⟩=>ho' pins s4 σ H4 y z' u w' Q I4 r2 r4 q4))
theorem yP:(sizeLine:Nat) < 2 ^ 63:=by rw[sizeLine_eq];decide
theorem vals1{x:V}{us:List Value}(r:Vals [x] us):∃u,us=[u]/\RelV x u:=by
 cases r with
 |cons r1 r2=>cases r2;exact⟨_,rfl,r1⟩
theorem vals2{x y:V}{us:List Value}(r:Vals [x,y] us):∃u w',us=[u,w']/\RelV x u/\RelV y w':=by
 cases r with
 |cons r1 r2=>
  cases r2 with
  |cons r3 r4=>cases r4;exact⟨_,_,rfl,r1,r3⟩
theorem aIk:eJ X (.builtin "abs") (λxs H Q=>∃i,xs=[.int i]/\Q (.int (if i < 0 then -i else i)) H):=by
 intro pins s σ H xs us Q I r h
 obtain⟨i,rfl,q⟩:=h
 obtain⟨u,rfl,t,rfl⟩:=vals1 r
 exact call_abs_int λu tk=>⟨.int (if i < 0 then -i else i),H,I.tok _,⟨_,rfl⟩,q⟩
theorem aHa(hc:X.calm=true):eJ X (.builtin "max") (λxs H Q=>∃i j,xs=[.int i,.int j]/\Q (.int (if j > i then j else i)) H):=by
 intro pins s σ H xs us Q I r h
 obtain⟨i,j,rfl,q⟩:=h
 obtain⟨u,w',rfl,⟨t,rfl⟩,⟨t',rfl⟩⟩:=vals2 r
 refine max_two_ints (I.ok.hd hc) λh' tk k=>⟨_,H,I.kept k,?_,q⟩
 by_cases hj:j > i
 ·rw[if_pos hj,if_pos hj];exact⟨_,rfl⟩
 ·rw[if_neg hj,if_neg hj];exact⟨_,rfl⟩
theorem aHb(hc:X.calm=true):eJ X (.builtin "min") (λxs H Q=>∃i j,xs=[.int i,.int j]/\Q (.int (if j < i then j else i)) H):=by
 intro pins s σ H xs us Q I r h
 obtain⟨i,j,rfl,q⟩:=h
 obtain⟨u,w',rfl,⟨t,rfl⟩,⟨t',rfl⟩⟩:=vals2 r
 refine min_two_ints (I.ok.hd hc) λh' tk k=>⟨_,H,I.kept k,?_,q⟩
 by_cases hj:j < i
 ·rw[if_pos hj,if_pos hj];exact⟨_,rfl⟩
 ·rw[if_neg hj,if_neg hj];exact⟨_,rfl⟩
def aOr(K:W.Frag)(x:V)(H:Hp)(n:Nat):Prop:=
 match x with
 |.str y=>y.length<=sizeLine/\n=y.length
 |.byt y=>y.size<=sizeLine/\n=y.size
 |.ref p=>(∃xs,bU K H p xs/\n=xs.length)\/∃xs,iY K H p xs/\n=xs.length
 |_=>False
theorem aIl:eJ X (.builtin "len") (λxs H Q=>∃x n,xs=[x]/\aOr X.K x H n/\Q (.int n) H):=by
 intro pins s σ H xs us Q I r h
 obtain⟨x,n,rfl,e,q⟩:=h
 obtain⟨u,rfl,rx⟩:=vals1 r
 have hl:=yP
 have hs:sizeLine=16777216:=sizeLine_eq
 cases x with
 |str y=>
  obtain⟨t,rfl⟩:=rx
  obtain⟨hy,e'⟩ : y.length<=sizeLine/\n=y.length:=e
  subst e'
  exact len_str (by omega) ⟨.int _,H,I.tok _,⟨_,rfl⟩,q⟩
 |byt y=>
  obtain⟨t,rfl⟩:=rx
  obtain⟨hy,e'⟩ : y.size<=sizeLine/\n=y.size:=e
  subst e'
  exact PySem.W.len_bytes (by omega) ⟨.int _,H,I.tok _,⟨_,rfl⟩,q⟩
 |ref p=>
  cases rx
  have e':(∃xs,bU X.K H p xs/\n=xs.length)\/∃xs,iY X.K H p xs/\n=xs.length:=e
  rcases e' with ⟨xs,hx,e'⟩|⟨xs,hx,e'⟩
  ·subst e'
   obtain⟨its,r',pl,hz⟩:=I.list hx
   have hlen:=r'.length
   exact Calls.call_len_list pl.isList (by simp only[jV];omega) ⟨.int xs.length,H,I.tok _,⟨_,by simp only[jV];rw[hlen]⟩,q⟩
  ·subst e'
   obtain⟨its,r',pl,hz⟩:=I.tuple hx
   have hlen:=r'.length
   exact len_tuple pl (by simp only[jV];omega) ⟨.int xs.length,H,I.tok _,⟨_,by simp only[jV];rw[hlen]⟩,q⟩
 |_=>exact(show False from e).elim
end
end L2
namespace L2
open PySem PySem.Spec PyProof.Rows
structure aFm(h:Heap)(x dx C:Addr)(mA:Str->Option Value):Prop where
 obj:h.get? x=some (PySem.W.instObj C dx)
 ns:h.Ns1 dx mA
 ne:dx≠x
theorem aHc{h:Heap}{dx:Addr}{mA:Str->Option Value}(n:h.Ns1 dx mA):∃od,h.get? dx=some od/\∀name,PySem.W.lookIn name od=some (mA name):=by
 obtain⟨o,es,ep,ho,hd,hk,_,hm⟩:=n
 refine⟨o,ho,λname=>?_⟩
 have e:=hm name
 unfold nsFind findBy at e
 rw[<-Array.find?_toList] at e
 unfold PySem.W.lookIn
 rw[hd]
 dsimp only
 split
 ·rename_i y q
  rw[q] at e
  exact congrArg some e
 ·rename_i q
  rw[q] at e
  have a:es.toList.any (·.refKey)=false:=by
   rw[List.any_eq_false]
   intro y hy
   obtain⟨z,t,hkey⟩:=hk y (Array.mem_toList_iff.mp hy)
   simp[DictEntry.refKey,hkey]
  have a':¬es.toList.any (·.refKey)=true:=by rw[a];exact zH
  rw[if_neg a']
  exact congrArg some e
theorem aFm.look{h:Heap}{x dx C:Addr}{mA:Str->Option Value}(I:aFm h x dx C mA):∃od,PySem.W.InstAt h x (PySem.W.instObj C dx) C (some od)/\∀name,PySem.W.lookIn name od=some (mA name):=
 let ⟨od,ho,hl⟩:=aHc I.ns
 ⟨od,⟨I.obj,rfl,rfl,ho⟩,hl⟩
section
variable{prog:Program}{w:World}{A:Around}{E:Value->Shared->Prop}{s:Shared}{K:W.Frag}{x dx C f:Addr}{mA:Str->Option Value}{name:Str}{v:Value}
theorem get_map{expr:Bool}{Q:Value->Shared->Prop}(X:K.In s.heap)(I:aFm s.heap x dx C mA)(hg:PySem.W.plainGet K C name=true)(hh:PySem.W.hasDictIn K C=true)
  (ha:W.findIn K (.ref C) name=some none) (hv:mA name=some v) (hv':PySem.W.handedIn v=true) (h:Q v { s with toks:=s.toks+1 }) :
  wpAny (model prog w) A (getAttr (.ref x) name expr) Q E s:=by
 obtain⟨od,J,hl⟩:=I.look
 exact PySem.W.get_value X J (PySem.W.plainGet_of hg).1 (PySem.W.findObj_own hh ha rfl (by rw[hl,hv])) hv' h
theorem aIm{pl:Sem Bool}{Q:Value×List Value->Shared->Prop}(X:K.In s.heap)(I:aFm s.heap x dx C mA)(hg:PySem.W.plainGet K C name=true)
  (hf:W.findIn K (.ref C) name=some (some (.ref f))) (ht:PySem.W.isFn K (.ref f)=true) (hv:mA name=none) (h:Q (.ref f,[.ref x]) s) :
  wpAny (model prog w) A (getMethod (.ref x) name pl) Q E s:=by
 obtain⟨od,J,hl⟩:=I.look
 exact PySem.W.method_fn X J (PySem.W.plainGet_of hg).1 (PySem.W.plainGet_of hg).2 hf (beq_iff_eq.mp ht) (by show(PySem.W.lookIn name od).map (·.isSome)=some false;rw[hl,hv];rfl) h
theorem aKy{ns:List Str}{Q:Unit->Shared->Prop}(X:K.In s.heap)(I:aFm s.heap x dx C mA)
  (hs:PySem.W.findIn K (.ref C) "__setattr__" = some (some (.builtin "object.__setattr__"))) (hp:PySem.W.plainOver K C=true) (ht:PySem.W.takerIn K C name=some none) (hh:PySem.W.hasDictIn K C=true)
  (hw:PySem.Within mA ns) (hsz:ns.length<=sizeLine)
  (h:∀h',aFm h' x dx C (λy=>if y=name then some v else mA y)->Heap.SameBut dx s.heap h'->Q () { s with heap:=h',toks:=s.toks+2 }) :
  wpAny (model prog w) A (setAttr (.ref x) name v) Q E s:=by
 obtain⟨od,J,hl⟩:=I.look
 refine PySem.W.set_plain X J hs (PySem.W.osa_open (s:={ s with toks:=s.toks+1 }) (r:=none) X J hp ht λb=>?_)
 obtain⟨cd,hc,hd'⟩:=PySem.W.any_some hh
 have hx:s.heap.get? x=some ⟨.ref C,some dx,.plain,#[]⟩:=I.obj
 refine wpAny_bind (wpAny_pure (wpAny_bind (wpAny_bind (wpAny_loadPart hx (wpAny_bind (PySem.W.Looks.here (s:={ s with toks:=s.toks+1 }) (PySem.W.looks_clsIn X hc) ?_))))))
 rw[hd']
 refine wpAny_pure (a:=some dx) (wpAny_bind (wpAny_pure (wpAny_bind ?_)))
 refine wpAny_nsSet1 (s:={ s with toks:=s.toks+1 }) I.ns λh' hn2 hs2=>?_
 obtain⟨oD,esD,epD,hoD,hdD,hcD⟩:=hn2.count (PySem.Within.cons name v hw)
 refine wpAny_bind (wpAny_lookBehind hoD (by rw[hdD];exact pastItsLine_dict (zK hcD (by rw[yM];omega))) ?_)
 exact wpAny_pure (h _ ⟨(hs2.2 _ (Ne.symm I.ne)).trans I.obj,hn2,I.ne⟩ hs2)
theorem aIn{R:Result->Shared->Prop}{vs:List Value}{kw:List (Str×Value)}(X:K.In s.heap)(hm:PySem.W.makesIn K C=true)
  (hi:PySem.W.findIn K (.ref C) "__init__" = some (some (.ref f))) (hf:PySem.W.typeIn K (.ref f)=some (.type "function"))
  (h:codeAny (model prog w) (A.under (.builtin "type.__call__" ⟨.ref C::vs,kw⟩)) (.call (.ref f) ⟨.ref (s.heap.objs.size+1)::vs,kw⟩) (PySem.W.InitBack (s.heap.objs.size+1) R)
   { s with heap:=(s.heap.push PySem.W.emptyDict).push (PySem.W.instObj C s.heap.objs.size) }) :
  codeAny (model prog w) A (.call (.ref C) ⟨vs,kw⟩) R s:=by
 obtain⟨hh,g,d,t,os⟩:=s
 exact PySem.W.make_core (PySem.W.makes_of X hm) (PySem.W.looks_findIn X hi) (λself=>PySem.W.bind_fn X self hf) (.inl rfl) h
end
def qG(f:Str)(v:V):List (Str×V)->List (Str×V)
 |[]=>[(f,v)]
 |(g,x)::r=>if g=f then (g,v)::r else (g,x)::qG f v r
theorem zM(f g:Str)(v:V):∀fs:List (Str×V),(qG f v fs).lookup g=if g=f then some v else fs.lookup g
 |[]=>by
  show List.lookup g [(f,v)]=_
  by_cases h:g=f
  ·have hb:(g == f)=true:=beq_iff_eq.mpr h
   simp only[List.lookup,hb,if_pos h]
  ·have hb:(g == f)=false:=beq_eq_false_iff_ne.mpr h
   simp only[List.lookup,hb,if_neg h]
 |(k,x)::r=>by
  have ih:=zM f g v r
  rw[show qG f v ((k,x)::r)=(if k=f then (k,v)::r else (k,x)::qG f v r) from rfl]
  by_cases hk:k=f
  ·rw[if_pos hk]
   by_cases h:g=k
   ·have hb:(g == k)=true:=beq_iff_eq.mpr h
    simp only[List.lookup,hb,if_pos (h.trans hk)]
   ·have hb:(g == k)=false:=beq_eq_false_iff_ne.mpr h
    simp only[List.lookup,hb,if_neg (λe:g=f=>h (e.trans hk.symm))]
  ·rw[if_neg hk]
   by_cases h:g=k
   ·have hb:(g == k)=true:=beq_iff_eq.mpr h
    simp only[List.lookup,hb,if_neg (λe:g=f=>hk (h.symm.trans e))]
   ·have hb:(g == k)=false:=beq_eq_false_iff_ne.mpr h
    simp only[List.lookup,hb]
    exact ih
theorem yQ(f:Str)(v:V):∀fs:List (Str×V),f∈(qG f v fs).map (·.1)/\∀g,g∈fs.map (·.1)->g∈(qG f v fs).map (·.1)
 |[]=>⟨by simp[qG],λg h=>by simp at h⟩
 |(k,x)::r=>by
  obtain⟨i1,i2⟩:=yQ f v r
  rw[show qG f v ((k,x)::r)=(if k=f then (k,v)::r else (k,x)::qG f v r) from rfl]
  by_cases hk:k=f
  ·rw[if_pos hk]
   subst hk
   exact⟨by simp,λg h=>by simpa using h⟩
  ·rw[if_neg hk]
   refine⟨?_,λg h=>?_⟩
   ·rw[Rg9]
    exact Qt9 _ i1
   ·rw[Rg9] at h ⊢
    rcases lW.mp h with e|e
    ·exact lW.mpr (.inl e)
    ·exact Qt9 _ (i2 g e)
theorem zN(f:Str)(v:V):∀fs:List (Str×V),(qG f v fs).length<=fs.length+1
 |[]=>by simp[qG]
 |(k,x)::r=>by
  have ih:=zN f v r
  rw[show qG f v ((k,x)::r)=(if k=f then (k,v)::r else (k,x)::qG f v r) from rfl]
  by_cases hk:k=f
  ·rw[if_pos hk,yM,yM];omega
  ·rw[if_neg hk,yM,yM];omega
theorem sI.some_of{v:V}{o:Option Value}(r:sI (some v) o):∃u,o=some u/\RelV v u:=by
 cases o with
 |none=>exact(show False from r).elim
 |some u=>exact⟨u,rfl,r⟩
theorem sI.none_of{o:Option Value}(r:sI none o):o=none:=by
 cases o with
 |none=>rfl
 |some u=>exact(show False from r).elim
theorem aHd{v:V}{u:Value}(r:RelV v u):PySem.W.handedIn u=true:=by
 cases v with
 |non=>cases (show u=Value.none from r);rfl
 |bl b=>cases (show u=Value.bool b from r);rfl
 |int i=>obtain⟨t,e⟩:=(show ∃t,u=Value.int i t from r);cases e;rfl
 |str x=>obtain⟨t,e⟩:=(show ∃t,u=Value.str x t from r);cases e;rfl
 |byt b=>obtain⟨t,e⟩:=(show ∃t,u=Value.bytes b t from r);cases e;rfl
 |flt b=>obtain⟨t,e⟩:=(show ∃t,u=Value.float b t from r);cases e;rfl
 |ref a=>cases (show u=Value.ref a from r);rfl
 |ty n=>cases (show u=Value.type n from r);rfl
section
variable{P:Program}{w:World}{H H':Hp}{h h':Heap}{a C dx:Addr}{fs fs':List (Str×V)}
theorem oA(hok:sL P w H h)(e:H a=some (.ins C dx fs)):∃mA,aFm h a dx C mA/\(∀f,sI (fs.lookup f) (mA f))/\PySem.Within mA (fs.map (·.1))/\fs.length<=1000/\H dx=some (.own a):=by
 obtain⟨d,z,ne,ob,mA,n,r,q⟩:=(show cA P w H h a (.ins C dx fs) from hok a _ e)
 exact⟨mA,⟨ob,n,ne⟩,r,q,z,d⟩
end
structure Cls(K:W.Frag)(C:Addr):Prop where
 pg:PySem.W.plainGet K C Str.empty=true
 hd:PySem.W.hasDictIn K C=true
 po:PySem.W.plainOver K C=true
 sa:PySem.W.findIn K (.ref C) "__setattr__" = some (some (.builtin "object.__setattr__"))
theorem Cls.get{K:W.Frag}{C:Addr}(c:Cls K C)(f:Str):PySem.W.plainGet K C f=true:=c.pg
def fA(K:W.Frag)(C:Addr)(f:Str):Prop:=W.findIn K (.ref C) f=some none
theorem fA.aOs{K:W.Frag}{C:Addr}{f:Str}(n:fA K C f):PySem.W.takerIn K C f=some none:=by
 unfold PySem.W.takerIn
 rw[show W.findIn K (.ref C) f=some none from n]
 rfl
structure Meth(K:W.Frag)(C:Addr)(m:Str)(f:Addr):Prop where
 at_:W.findIn K (.ref C) m=some (some (.ref f))
 fn:PySem.W.isFn K (.ref f)=true
 kp:W.keepIn K (.ref f)=true
section
variable{X:Cx}{pins:List (Addr×Obj)}{σ:St}{H:Hp}{s:Shared}{a C dx:Addr}{fs:List (Str×V)}{f:Str}{v:V}{A:Around}{E:Value->Shared->Prop}
theorem aFn{b:Bool}{Q:Value->Shared->Prop}(I:Inv X pins σ H s)(e:H a=some (.ins C dx fs))(c:Cls X.K C)(n:fA X.K C f)(l:fs.lookup f=some v)
  (h:∀u s',Inv X pins σ H s'->RelV v u->Q u s'):wpAny (model X.prog X.w) A (getAttr (.ref a) f b) Q E s:=by
 obtain⟨mA,O,r,_,_,_⟩:=oA I.hok e
 obtain⟨u,hu,ru⟩:=sI.some_of (v:=v) (o:=mA f) (by rw[<-l];exact r f)
 exact get_map I.yO O (c.get f) c.hd n hu (aHd ru) (h u _ (I.tok _) ru)
theorem aFo{m:Str}{g:Addr}{pl:Sem Bool}{Q:Value×List Value->Shared->Prop}(I:Inv X pins σ H s)(e:H a=some (.ins C dx fs))(c:Cls X.K C)(k:Meth X.K C m g)(l:fs.lookup m=none)
  (h:Q (.ref g,[.ref a]) s):wpAny (model X.prog X.w) A (getMethod (.ref a) m pl) Q E s:=by
 obtain⟨mA,O,r,_,_,_⟩:=oA I.hok e
 have hn:mA m=none:=sI.none_of (by rw[<-l];exact r m)
 exact aIm I.yO O (c.get m) k.at_ k.fn hn h
theorem aFp{y:V}{u:Value}{Q:Unit->Shared->Prop}(I:Inv X pins σ H s)(e:H a=some (.ins C dx fs))(c:Cls X.K C)(n:fA X.K C f)(hl:fs.length < 1000)(ry:RelV y u)
  (h:∀s',Inv X pins σ (upd H a (.ins C dx (qG f y fs))) s'->Q () s'):wpAny (model X.prog X.w) A (setAttr (.ref a) f u) Q E s:=by
 obtain⟨mA,O,r,wi,_,ho⟩:=oA I.hok e
 have hz:(fs.map (·.1)).length<=sizeLine:=by rw[cD,sizeLine_eq];omega
 refine aKy I.yO O c.sa c.po n.aOs c.hd wi hz λh' O' sb=>h _ ?_
 have hd:∃o,h'.get? dx=some o:=let ⟨o,_,_,e',_⟩:=O'.ns;⟨o,e'⟩
 refine I.write (x:=a) (e:=dx) (by rw[e];exact True.intro) (.inr ho) (λb q hb z=>(sb.2 b hb).trans z) hd ?_
 refine⟨by rw[bB O.ne];exact ho,?_,O.ne,O'.obj,_,O'.ns,λg=>?_,λg hg=>?_⟩
 ·have:=zN f y fs;omega
 ·show sI ((qG f y fs).lookup g) (if g=f then some u else mA g)
  rw[zM]
  by_cases q:g=f
  ·rw[if_pos q,if_pos q];exact ry
  ·rw[if_neg q,if_neg q];exact r g
 ·by_cases q:g=f
  ·rw[q];exact(yQ f y fs).1
  ·refine(yQ f y fs).2 g (wi g λz=>hg ?_)
   show(if g=f then some u else mA g)=none
   rw[if_neg q];exact z
theorem Inv.made(I:Inv X pins σ H s):Inv X pins σ (upd (upd H s.heap.objs.size (.own (s.heap.objs.size+1))) (s.heap.objs.size+1) (.ins C s.heap.objs.size []))
  { s with heap:=(s.heap.push PySem.W.emptyDict).push (PySem.W.instObj C s.heap.objs.size) }:=by
 have e1:(s.heap.push PySem.W.emptyDict).get? s.heap.objs.size=some PySem.W.emptyDict:=sN s.heap rfl
 have e2:((s.heap.push PySem.W.emptyDict).push (PySem.W.instObj C s.heap.objs.size)).get? (s.heap.objs.size+1)=some (PySem.W.instObj C s.heap.objs.size):=by
  have:=sN (s.heap.push PySem.W.emptyDict) (o:=PySem.W.instObj C s.heap.objs.size) rfl
  rwa[Th9] at this
 have e3:(s.heap.push PySem.W.emptyDict).Ns s.heap.objs.size (λ_=>none):=⟨PySem.W.emptyDict,#[],_,e1,rfl,(λe he=>absurd he (by simp)),λ_=>rfl⟩
 have I1:=I.laid (a:=s.heap.objs.size) (o:=.own (s.heap.objs.size+1)) (h':=s.heap.push PySem.W.emptyDict) (t':=s.toks) (λb u q=>lV _ q) (dQ _) ⟨_,e1⟩
 refine I1.laid (a:=s.heap.objs.size+1) (o:=.ins C s.heap.objs.size []) (t':=s.toks) (λb u q=>lV _ q) (Ul9 (Th9 _ _)) ?_
 have ne:s.heap.objs.size≠s.heap.objs.size+1:=pP (Te9 _)
 refine⟨by rw[bB ne,aT],zL _,ne,e2,λ_=>none,(Heap.Ns1.of_empty e3).at λo q=>lV _ q,λ_=>True.intro,λy hy=>absurd rfl hy⟩
theorem aKz{prog:Program}{w:World}{env:Env}{e:Expr}{f:Str}{pos:Pos}{s:Shared}{Q:Value->Shared->Prop}(hb:attributeBase e f env (eval e env)=eval e env)
  (h:wpAny (model prog w) A (eval e env) (λo s₁=>wpAny (model prog w) A (getAttr o f true) Q E s₁) E s):wpAny (model prog w) A (eval (.Attribute e f pos) env) Q E s:=
 Attribute_any_ h (by rw[arm_eval_Attribute,hb])
end
def aME(K:W.Frag)(ta:TE)(f:Str):TE:=λσ H Q=>ta σ H λx H1=>∃a C dx fs v,x=.ref a/\H1 a=some (.ins C dx fs)/\Cls K C/\fA K C f/\fs.lookup f=some v/\Q v H1
def aMF(K:W.Frag)(ta tv:TE)(f:Str):TS:=λD σ H=>tv σ H λy H1=>ta σ H1 λx H2=>∃a C dx fs,x=.ref a/\H2 a=some (.ins C dx fs)/\Cls K C/\fA K C f/\fs.length < 1000/\
 D.nx σ (upd H2 a (.ins C dx (qG f y fs)))
section
variable{X:Cx}{o e value:Expr}{f:Str}{pos pos' tpos:Pos}{ta tv:TE}
theorem aMG(he:PE X e ta)(hb:attributeBase e f X.env (eval e X.env)=eval e X.env):PE X (.Attribute e f pos) (aME X.K ta f):=by
 intro pins s σ H Q I h
 refine aKz hb (dG (he pins s σ H _ I h) λu s1 ⟨x,H1,I1,rx,a,C,dx,fs,v,ex,ea,c,n,l,q⟩=>?_)
 subst ex
 obtain rfl:u=Value.ref a:=rx
 exact aFn I1 ea c n l λu' s2 I2 ru=>⟨v,H1,I2,ru,q⟩
theorem aMH(ha:PE X o ta)(hv:PE X value tv)(hs:swapsWith value (some (.Attribute o f pos')) pos.line X.env=pure false):PS X (.Assign [.Attribute o f pos'] value pos) (aMF X.K ta tv f):=by
 intro pins s σ H D I h
 refine plainObj_wpAny_Assign_Attribute (dG (hv pins s σ H _ I h) λu s1 ⟨y,H1,I1,ry,q⟩=>dG (ha pins s1 σ H1 _ I1 q) λov s2 ⟨x,H2,I2,rx,a,C,dx,fs,ex,ea,c,n,l,q2⟩=>?_) hs
 subst ex
 obtain rfl:ov=Value.ref a:=rx
 exact aFp I2 ea c n l ry λs3 I3=>⟨σ,_,I3,q2⟩
end
section
variable{X:Cx}{pins:List (Addr×Obj)}{σ:St}{H:Hp}{s:Shared}{A:Around}{E:Value->Shared->Prop}{Q:Value->Shared->Prop}{c:Value}{b:Bool}
inductive xC (K:W.Frag) (H:Hp):V->Value->Prop where
 |non:xC K H .non (.type "NoneType")
 |bl (x:Bool):xC K H (.bl x) (.type "bool")
 |int (i:Int):xC K H (.int i) (.type "int")
 |str (x:Str):xC K H (.str x) (.type "str")
 |flt (x:UInt64):xC K H (.flt x) (.type "float")
 |lst {a:Addr} {xs:List V} (e:H a=some (.lst xs)):xC K H (.ref a) (.type "list")
 |frz {a:Addr} {o:Obj} {xs:List V} (e:H a=some (.frz o (.lst xs))):xC K H (.ref a) (.type "list")
 |tup {a:Addr} {xs:List V} (e:H a=some (.tup xs)):xC K H (.ref a) (.type "tuple")
 |dK {a:Addr} {kvs:List (Key×V)} (e:H a=some (.dK kvs)):xC K H (.ref a) (.type "dict")
 |dT {a:Addr} {kvs:List (List Key×V)} (e:H a=some (.dT kvs)):xC K H (.ref a) (.type "dict")
 |ins {a C dx:Addr} {fs:List (Str×V)} (e:H a=some (.ins C dx fs)) (cl:Cls K C) (ha:PySem.W.findIn K (.ref C) "__class__" = some (some (.builtin "object.__class__")))
   (hn:PySem.W.specialIn K (.builtin "object.__class__") "__get__" = some (some (.builtin "getset_descriptor.__get__"))) (htk:PySem.W.takesIn K (.builtin "object.__class__")=some true)
   (hm:PySem.W.mroIn K C (.type "object")=some true):xC K H (.ref a) (.ref C)
theorem aCy{x:V}{u t:Value}(I:Inv X pins σ H s)(rx:RelV x u)(ty:xC X.K H x t)(e:PySem.W.kitOne X.K t c=some b)(h:∀tk,Q (.bool b) { s with toks:=tk }) :
  wpAny (model X.prog X.w) A (call (.builtin "isinstance") [u,c]) Q E s:=by
 cases ty with
 |non=>cases (show u=Value.none from rx);exact PySem.W.kia_one PySem.W.kitx_none I.yO True.intro e (λz=>nomatch z) h
 |bl y=>cases (show u=Value.bool y from rx);exact PySem.W.kia_one PySem.W.kitx_bool I.yO True.intro e (λz=>nomatch z) h
 |int i=>obtain⟨t,q⟩:=(show ∃t,u=Value.int i t from rx);cases q;exact PySem.W.kia_one PySem.W.kitx_int I.yO True.intro e (λz=>nomatch z) h
 |str y=>obtain⟨t,q⟩:=(show ∃t,u=Value.str y t from rx);cases q;exact PySem.W.kia_one PySem.W.kitx_str I.yO True.intro e (λz=>nomatch z) h
 |flt y=>obtain⟨t,q⟩:=(show ∃t,u=Value.float y t from rx);cases q;exact PySem.W.kia_one PySem.W.kitx_float I.yO True.intro e (λz=>nomatch z) h
 |@lst a xs ea=>
  cases (show u=Value.ref a from rx)
  obtain⟨_,_,n,_,h1⟩:=(show cA X.prog X.w H s.heap a (.lst xs) from I.hok a _ ea)
  exact PySem.W.kia_one PySem.W.kitx_list I.yO ⟨_,h1,rfl⟩ e (λz=>nomatch z) h
 |@frz a ob xs ea=>
  cases (show u=Value.ref a from rx)
  obtain⟨_,_,_,n,_,h1⟩:=(show cA X.prog X.w H s.heap a (.frz ob (.lst xs)) from I.hok a _ ea)
  exact PySem.W.kia_one PySem.W.kitx_list I.yO ⟨_,h1,rfl⟩ e (λz=>nomatch z) h
 |@tup a xs ea=>
  cases (show u=Value.ref a from rx)
  obtain⟨_,_,_,p⟩:=(show cA X.prog X.w H s.heap a (.tup xs) from I.hok a _ ea)
  obtain⟨o,h1,h2,_⟩:=p
  exact PySem.W.kia_one PySem.W.kitx_tuple I.yO ⟨o,h1,h2⟩ e (λz=>nomatch z) h
 |@dK a kvs ea=>
  cases (show u=Value.ref a from rx)
  obtain⟨_,_,vs,_,p⟩:=(show cA X.prog X.w H s.heap a (.dK kvs) from I.hok a _ ea)
  obtain⟨o,es,ep,h1,h2,_⟩:=p
  exact PySem.W.kia_one PySem.W.kitx_dict I.yO ⟨o,h1,h2.1⟩ e (λz=>nomatch z) h
 |@dT a kvs ea=>
  cases (show u=Value.ref a from rx)
  obtain⟨_,_,xs,_,o,es,ep,h1,h2,_⟩:=(show cA X.prog X.w H s.heap a (.dT kvs) from I.hok a _ ea)
  exact PySem.W.kia_one PySem.W.kitx_dict I.yO ⟨o,h1,h2.1⟩ e (λz=>nomatch z) h
 |@ins a C dx fs ea cl ha hn htk hm=>
  cases (show u=Value.ref a from rx)
  obtain⟨mA,O,_⟩:=oA I.hok ea
  obtain⟨od,J,_⟩:=O.look
  exact PySem.W.kia_one (PySem.W.kitx_own (cl.get _) cl.hd ha hn htk hm) I.yO J e (λz=>nomatch z) h
end
end L2
namespace L2
open PySem PySem.Spec PyProof.Rows
structure eI(k:Nat)(A:Around):Prop where
 hd:A.handled=none
 dp:A.depth+3*k+5 < recursionLimit
 un:A.units+16*k+200 < cLine
theorem eI.mono{j k:Nat}{A:Around}(r:eI k A)(h:j<=k):eI j A:=⟨r.hd,by have:=r.dp;omega,by have:=r.un;omega⟩
theorem eI.deeper{k:Nat}{A:Around}(r:eI (k+1) A)(env:Env):eI k (A.deeper env):=
 ⟨r.hd,by have:=r.dp;show A.depth+1+3*k+5 < _;omega,by have:=r.un;show A.units+3+16*k+200 < _;omega⟩
theorem aFq{A:Around}{C:Addr}{us:List Value}{kw:List (Str×Value)}:(A.under (.builtin "type.__call__" ⟨.ref C::us,kw⟩)).depth=A.depth+1:=by
 first|rfl|simp[Around.under,Code.weight,Code.isCreation,Code.isGuard,Code.isCaller,Code.frames,Code.isFrame,guardIds]
theorem aFr{A:Around}{C:Addr}{us:List Value}{kw:List (Str×Value)}:(A.under (.builtin "type.__call__" ⟨.ref C::us,kw⟩)).units=A.units+1:=by
 first|rfl|simp[Around.under,Code.cUnits,Code.frames,Code.isFrame]
theorem eI.make{k:Nat}{A:Around}(r:eI (k+1) A)(C:Addr)(us:List Value)(kw:List (Str×Value)):eI k (A.under (.builtin "type.__call__" ⟨.ref C::us,kw⟩)):=
 ⟨r.hd,by have:=r.dp;rw[aFq];omega,by have:=r.un;rw[aFr];omega⟩
theorem eI.depth{k:Nat}{A:Around}(r:eI k A):A.depth < recursionLimit:=by have:=r.dp;omega
theorem eI.units{k:Nat}{A:Around}(r:eI k A):A.units+64 < cLine:=by have:=r.un;omega
def o9:TA:=λ_ H Q=>Q [] H
def bW(ta:TE)(tr:TA):TA:=λσ H Q=>ta σ H λx H1=>tr σ H1 λxs H2=>Q (x::xs) H2
section
variable{X:Cx}{e:Expr}{es:List Expr}{te:TE}{t:TA}{pos:Pos}
theorem qH:PA X [] o9:=λ_ _ _ _ H Q I h=>Calls.spliced_nil ⟨[],H,I,.nil,h⟩
theorem aKA(ha:PE X e te)(hr:PA X es t)(hs:starEach (e::es) X.env=(false,eval e X.env)::starEach es X.env:=by rfl):PA X (e::es) (bW te t):=by
 intro pos pins s σ H Q I h
 rw[hs]
 show wpAny _ _ (spliced ((false,eval e X.env)::backTo pos (starEach es X.env))) _ _ s
 refine Calls.spliced_cons (dG (ha pins s σ H _ I h) λu s1 ⟨x,H1,I1,r1,q1⟩=>?_)
 exact dG (hr pos pins s1 σ H1 _ I1 q1) λus s2 ⟨xs,H2,I2,r2,q2⟩=>⟨x::xs,H2,I2,.cons r1 r2,q2⟩
def aEj(t:TA):TE:=λσ H Q=>t σ H λxs H1=>xs.length<=sizeLine/\∀p,H1 p=none->Q (.ref p) (upd H1 p (.tup xs))
def yR(t:TA):TE:=λσ H Q=>t σ H λxs H1=>xs.length<=sizeLine/\∀p,H1 p=none->Q (.ref p) (upd H1 p (.lst xs))
theorem aFs{x1}(h:PA X es t):PE X (.Tuple es x1 pos) (aEj t):=by
 intro pins s σ H Q I hq
 refine wpAny_Tuple_spliced (dG (h pos pins s σ H _ I hq) λus s1 ⟨xs,H1,I1,r,z,q⟩=>⟨by rw[<-r.length];exact z,?_⟩)
 have hf:H1 s1.heap.objs.size=none:=I1.hok.fresh (dQ _)
 refine⟨.ref s1.heap.objs.size,upd H1 s1.heap.objs.size (.tup xs),I1.laid (t':=s1.toks) (λb u e=>lV _ e) (dQ _) ?_,rfl,q _ hf⟩
 exact⟨z,us,r,⟨_,sN _ rfl,rfl,_,rfl⟩⟩
theorem yS(h:PA X es t):PE X (.List es pos) (yR t):=by
 intro pins s σ H Q I hq
 refine wpAny_List_spliced (dG (h pos pins s σ H _ I hq) λus s1 ⟨xs,H1,I1,r,z,q⟩=>⟨by rw[<-r.length];exact z,?_⟩)
 have hf:H1 s1.heap.objs.size=none:=I1.hok.fresh (dQ _)
 refine⟨.ref s1.heap.objs.size,upd H1 s1.heap.objs.size (.lst xs),I1.laid (t':=s1.toks) (λb u e=>lV _ e) (dQ _) ?_,rfl,q _ hf⟩
 exact⟨z,us,0,r,sN _ rfl⟩
end
abbrev Sp:=List V->Hp->VK->XK->Prop
abbrev CXT:=List Env->Hp->Shared->XK->Value->Shared->Prop
structure aBU(P:Program)(w:World)(K:W.Frag)(mg:Str->Option Value)(base:Heap)(A:Around)(outer:List Env)(s:Shared)(H:Hp):Prop where
 frames:A.frames=some outer
 mod:Mod K mg base
 bs:∀b o,base.get? b=some o->s.heap.get? b=some o/\H b=none
 bsz:base.objs.size<=s.heap.objs.size
 vP:s.heap.FunFrames base outer
 frf:∀b∈frs outer,H b=none
 hok:sL P w H s.heap
 bare:AllBare s.gens
def CE(outer:List Env)(P:Program)(w:World)(H:Hp)(s:Shared)(Q:VK)(u:Value)(s':Shared):Prop:=
 ∃v H',s'.os=s.os/\AllBare s'.gens/\Un (frs outer) [] H H' s.heap s'.heap/\sL P w H' s'.heap/\RelV v u/\Q v H'
def CR(CX:CXT)(outer:List Env)(P:Program)(w:World)(H:Hp)(s:Shared)(Q:VK)(E:XK)(r:Result)(s':Shared):Prop:=
 match r with
 |.ok (.ret u)=>CE outer P w H s Q u s'
 |.ok _=>False
 |.error e=>CX outer H s E e s'
structure cR(P:Program)(w:World)(K:W.Frag)(mg:Str->Option Value)(base:Heap)(CX:CXT)(k:Nat)(f:Addr)(fd:FuncData)(ps:List Str)(sp:Sp):Prop where
 len:∀vs H Q E,sp vs H Q E->vs.length=ps.length
 run:∀(A:Around) (outer:List Env) (s:Shared) (H:Hp) (args:Args) (us:List Value) (vs:List V) (Q:VK) (E:XK),eI k A->aBU P w K mg base A outer s H->BindsTo s fd args (ps.zip us)->Vals vs us->sp vs H Q E->
  codeAny (model P w) A (.call (.ref f) args) (CR CX outer P w H s Q E) s
theorem cR.imp{P:Program}{w:World}{K:W.Frag}{mg:Str->Option Value}{base:Heap}{CX:CXT}{k:Nat}{f:Addr}{fd:FuncData}{ps:List Str}{sp sp':Sp}(F:cR P w K mg base CX k f fd ps sp)
  (h:∀vs H Q E,sp' vs H Q E->sp vs H Q E):cR P w K mg base CX k f fd ps sp':=
 ⟨λvs H Q E q=>F.len vs H Q E (h _ _ _ _ q),λA outer s H args us vs Q E hr he hb hv hs=>F.run A outer s H args us vs Q E hr he hb hv (h _ _ _ _ hs)⟩
theorem aBU.make{P:Program}{w:World}{K:W.Frag}{mg:Str->Option Value}{base:Heap}{A:Around}{outer:List Env}{s:Shared}{H:Hp}(e:aBU P w K mg base A outer s H)(C:Addr)(us:List Value)(kw:List (Str×Value)) :
  aBU P w K mg base (A.under (.builtin "type.__call__" ⟨.ref C::us,kw⟩)) outer s H:=⟨by first|exact e.frames|(simpa [Around.under,Code.envs,Code.isFrame,pushEnvs] using e.frames),e.mod,e.bs,e.bsz,e.vP,e.frf,e.hok,e.bare⟩
section
variable{X:Cx}{pins:List (Addr×Obj)}{σ:St}{H:Hp}{s s':Shared}
theorem Inv.aIo(I:Inv X pins σ H s):aBU X.prog X.w X.K X.mg X.base X.A X.stack s H:=
 ⟨I.ok.frames,I.ok.mod,I.bs,zK I.ok.bsz I.sz,I.stack,I.aC5,I.hok,I.bare⟩
theorem Inv.after{Q:VK}{u:Value}(I:Inv X pins σ H s)(h:CE X.stack X.prog X.w H s Q u s'):EP X pins σ Q u s':=by
 obtain⟨v,H',os,bare,un,hok,r,q⟩:=h
 obtain⟨hh,g,d,t,os'⟩:=s'
 obtain rfl:os'=s.os:=os
 exact⟨v,H',I.call (h':=hh) (g':=g) (d':=d) (t':=t) (ch:=[]) un hok bare (λb z=>absurd z (by simp)),r,q⟩
end
def aEk(sp:Sp)(dvs:List V)(E:XK)(t:TA):TE:=λσ H Q=>t σ H λvs H1=>sp (vs++dvs) H1 Q E
def aGn(C:Addr)(m:Str)(sp:Sp)(dvs:List V)(E:XK)(ta:TE)(t:TA):TE:=λσ H Q=>ta σ H λx H1=>∃a dx fs,x=.ref a/\H1 a=some (.ins C dx fs)/\fs.lookup m=none/\
 t σ H1 λvs H2=>sp (x::(vs++dvs)) H2 Q E
def aEm(C:Addr)(sp:Sp)(dvs:List V)(E:XK)(t:TA):TE:=λσ H Q=>t σ H λvs H1=>∀x dx,H1 x=none->H1 dx=none->dx≠x->
 sp (.ref x::(vs++dvs)) (upd (upd H1 dx (.own x)) x (.ins C dx [])) (λv H2=>v=.non/\Q (.ref x) H2) E
def Binds(K:W.Frag)(fd:FuncData)(ps:List Str)(ds:List Value):Prop:=
 ∀(s:Shared) (us:List Value),K.In s.heap->(us++ds).length=ps.length->BindsTo s fd ⟨us,[]⟩ (ps.zip (us++ds))
theorem Binds.all{K:W.Frag}{fd:FuncData}{ps:List Str}(h:∀us:List Value,us.length=ps.length->bindArgs fd ⟨us,[]⟩=pure (ps.zip us)):Binds K fd ps []:=λs us _ hl=>by
 rw[Si9] at hl ⊢
 exact .of_eq (h us hl)
def Passes(CX:CXT)(X:Cx)(E:XK):Prop:=∀(pins:List (Addr×Obj)) (σ:St) (H:Hp) (s:Shared) (e:Value) (s':Shared),Inv X pins σ H s->CX X.stack H s E e s'->X.xe e s'
section
variable{X:Cx}{CX:CXT}{k:Nat}{f C:Addr}{fd:FuncData}{ps:List Str}{sp:Sp}{dvs:List V}{ds:List Value}{E:XK}{x m:Str}{p pos apos:Pos}{e o:Expr}{es:List Expr}{ta:TE}{t:TA}
theorem aIp{pins:List (Addr×Obj)}{σ:St}{H:Hp}{s:Shared}{Q:VK}{us:List Value}{vs:List V}(F:cR X.prog X.w X.K X.mg X.base CX k f fd ps sp)(hr:eI k X.A)(hb:Binds X.K fd ps ds)(hd:Vals dvs ds)(hx:Passes CX X E)
  (I:Inv X pins σ H s) (r:Vals vs us) (h:sp (vs++dvs) H Q E):wpAny (model X.prog X.w) X.A (call (.ref f) us) (EP X pins σ Q) X.xe s:=by
 have r2:Vals (vs++dvs) (us++ds):=r.append hd
 have hl:(us++ds).length=ps.length:=by rw[<-r2.length];exact F.len _ _ _ _ h
 refine wpAny_call (codeAny_mono (F.run X.A X.stack s H ⟨us,[]⟩ (us++ds) (vs++dvs) Q E hr I.aIo (hb s us I.yO hl) r2 h) λr s' hq=>?_)
 cases r with
 |error e=>exact hx pins σ H s e s' I hq
 |ok fl=>
  cases fl with
  |ret u=>exact I.after hq
  |next=>exact False.elim hq
  |brk=>exact False.elim hq
  |cont=>exact False.elim hq
theorem aKB(F:cR X.prog X.w X.K X.mg X.base CX k f fd ps sp)(hr:eI k X.A)(hg:Gl X x)(hm:X.mg x=some (.ref f))(hk:W.keepIn X.K (.ref f)=true)(hb:Binds X.K fd ps ds)(hd:Vals dvs ds)(hx:Passes CX X E)
  (ha:PA X (e::es) t) (hdb:(x == ("__debug__" : Str))=false:=by decide) (he:starEach (e::es) X.env=(false,eval e X.env)::starEach es X.env:=by rfl) (hpl:(backTo pos (starEach es X.env)).any (·.1)=false:=by rfl) :
  PE X (.Call (.Name x p) (e::es) [] pos) (aEk sp dvs E t):=by
 intro pins s σ H Q I h
 refine wpAny_Call_Name_kw (aAC I hg hm ?_ hdb)
 refine PySem.W.callWith_K (h₀:=X.base) I.ok.mod.kin hk (dG (ha pos pins s σ H _ I h) λus s1 ⟨vs,H1,I1,r,q⟩=>⟨I1.yO,?_⟩) he hpl
 exact aIp F hr hb hd hx I1 r q
theorem aKC{pl:Sem Bool}(he:PE X o ta)(c:Cls X.K C)(hm:Meth X.K C m f)(F:cR X.prog X.w X.K X.mg X.base CX k f fd ps sp)(hr:eI k X.A)(hb:Binds X.K fd ps ds)(hd:Vals dvs ds)(hx:Passes CX X E)(ha:PA X (e::es) t)
  (hst:starEach (e::es) X.env=(false,eval e X.env)::starEach es X.env:=by rfl) (hpl:(backTo pos (starEach es X.env)).any (·.1)=false:=by rfl)
  (ht:eval (.Call (.Attribute o m apos) (e::es) [] pos) X.env=(do
   let ov <-eval o X.env
   standAt apos.atName
   let (f,first) <-holding [ov] (getMethod ov m pl)
   callWith pos f first (backTo pos (starEach (e::es) X.env)) (backToKw pos (keywordEach [] X.env))):=by rfl) :
  PE X (.Call (.Attribute o m apos) (e::es) [] pos) (aGn C m sp dvs E ta t):=by
 intro pins s σ H Q I h
 refine PySem.W.methodCall_KW (pl:=pl) (dG (he pins s σ H _ I h) λu s1 ⟨x,H1,I1,rx,a,dx,fs,ex,ea,l,q⟩=>?_) ht
 subst ex
 obtain rfl:u=Value.ref a:=rx
 refine aFo I1 ea c hm l ?_
 refine PySem.W.callWith_K (first:=[.ref a]) (h₀:=X.base) I.ok.mod.kin hm.kp (dG (ha pos pins s1 σ H1 _ I1 q) λus s2 ⟨vs,H2,I2,r,q2⟩=>⟨I2.yO,?_⟩) hst hpl
 exact aIp (us:=.ref a::us) (vs:=.ref a::vs) F hr hb hd hx I2 (.cons rfl r) q2
structure Mk(K:W.Frag)(C f:Addr):Prop where
 makes:PySem.W.makesIn K C=true
 init:PySem.W.findIn K (.ref C) "__init__" = some (some (.ref f))
 fn:PySem.W.isFn K (.ref f)=true
 kp:W.keepIn K (.ref C)=true
theorem aIq{pins:List (Addr×Obj)}{σ:St}{H:Hp}{s:Shared}{Q:VK}{us:List Value}{vs:List V}(M:Mk X.K C f)(F:cR X.prog X.w X.K X.mg X.base CX k f fd ps sp)(hr:eI (k+1) X.A)(hb:Binds X.K fd ps ds)(hd:Vals dvs ds)
  (hx:Passes CX X E) (I:Inv X pins σ H s) (r:Vals vs us)
  (h:∀x dx,H x=none->H dx=none->dx≠x->sp (.ref x::(vs++dvs)) (upd (upd H dx (.own x)) x (.ins C dx [])) (λv H2=>v=.non/\Q (.ref x) H2) E) :
  wpAny (model X.prog X.w) X.A (call (.ref C) us) (EP X pins σ Q) X.xe s:=by
 have hq:=h (s.heap.objs.size+1) s.heap.objs.size (I.hok.fresh (Uk9 _)) (I.hok.fresh (dQ _)) (pP (Te9 _))
 have I2:=Inv.made (C:=C) I
 have r2:Vals (V.ref (s.heap.objs.size+1)::(vs++dvs)) (Value.ref (s.heap.objs.size+1)::(us++ds)):=.cons rfl (r.append hd)
 have hl:(Value.ref (s.heap.objs.size+1)::us++ds).length=ps.length:=by
  have e:=r2.length
  rw[F.len _ _ _ _ hq] at e
  exact e.symm
 refine wpAny_call (aIn (f:=f) I.yO M.makes M.init (beq_iff_eq.mp M.fn) (codeAny_mono (F.run _ X.stack _ _ ⟨Value.ref (s.heap.objs.size+1)::us,[]⟩ (Value.ref (s.heap.objs.size+1)::(us++ds)) _ _ E (hr.make C us [])
  (I2.aIo.make C us []) (hb _ (Value.ref (s.heap.objs.size+1)::us) I2.yO hl) r2 hq) λr s' hq'=>?_))
 cases r with
 |error e=>exact hx pins σ _ _ e s' I2 hq'
 |ok fl=>
  cases fl with
  |ret u=>
   obtain⟨v,H',I3,rv,ev,q3⟩:=I2.after hq'
   subst ev
   exact⟨rv,⟨V.ref (s.heap.objs.size+1),H',I3,rfl,q3⟩⟩
  |next=>exact False.elim hq'
  |brk=>exact False.elim hq'
  |cont=>exact False.elim hq'
theorem aKD(M:Mk X.K C f)(F:cR X.prog X.w X.K X.mg X.base CX k f fd ps sp)(hr:eI (k+1) X.A)(hg:Gl X x)(hm:X.mg x=some (.ref C))(hb:Binds X.K fd ps ds)(hd:Vals dvs ds)(hx:Passes CX X E)
  (ha:PA X (e::es) t) (hdb:(x == ("__debug__" : Str))=false:=by decide) (he:starEach (e::es) X.env=(false,eval e X.env)::starEach es X.env:=by rfl) (hpl:(backTo pos (starEach es X.env)).any (·.1)=false:=by rfl) :
  PE X (.Call (.Name x p) (e::es) [] pos) (aEm C sp dvs E t):=by
 intro pins s σ H Q I h
 refine wpAny_Call_Name_kw (aAC I hg hm ?_ hdb)
 refine PySem.W.callWith_K (h₀:=X.base) I.ok.mod.kin M.kp (dG (ha pos pins s σ H _ I h) λus s1 ⟨vs,H1,I1,r,q⟩=>⟨I1.yO,?_⟩) he hpl
 exact aIq M F hr hb hd hx I1 r q
end
def PK(X:Cx)(kws:List Keyword)(t:TA):Prop:=
 ∀(pos:Pos) (pins:List (Addr×Obj)) (s:Shared) (σ:St) (H:Hp) (Q:List V->Hp->Prop),Inv X pins σ H s->t σ H Q->wpAny (model X.prog X.w) X.A (evalAll ((backToKw pos (keywordEach kws X.env)).map (·.2))) (AP X pins σ Q) X.xe s
section
variable{X:Cx}{CX:CXT}{k:Nat}{f C:Addr}{fd:FuncData}{ps ks:List Str}{sp:Sp}{E:XK}{x m:Str}{p pos apos kpos:Pos}{e o:Expr}{es:List Expr}{kws:List Keyword}{te ta:TE}{t tk:TA}{nm:Option Str}
variable{g:List Value->List Value->List Value}{gV:List V->List V->List V}
end
structure bM(N P:List Str)(sc:Scope):Prop where
 kind:sc.kind=.function:=by exact rfl
 co:sc.isCoroutine=false:=by exact rfl
 gen:sc.isGenerator=false:=by exact rfl
 nd:N.Nodup:=by decide +kernel
 pre:N.take P.length=P:=by exact rfl
 par:∀x∈P,sc.names.lookup x=some .local\/sc.names.lookup x=some .cell:=by decide +kernel
 nofree:∀y∈sc.names,y.2≠.free:=by decide +kernel
theorem aCz{kindOf:Str->Option NameKind}{x:Str}:∀{binds:List (Str×Value)}{m:Str->Option Value},(∀v,(x,v)∉binds)->bindL kindOf binds m x=m x
 |[],_,_=>rfl
 |(n,v)::r,m,h=>by
  unfold bindL
  rw[aCz λw hw=>h w (Qt9 _ hw)]
  split
  ·have:x≠n:=by rintro rfl;exact h v Rc9
   simp[this]
  ·rfl
theorem aCA{kindOf:Str->Option NameKind}{x:Str}:∀{binds:List (Str×Value)}{m:Str->Option Value},(∀v,(x,v)∉binds)->bindC kindOf binds m x=m x
 |[],_,_=>rfl
 |(n,v)::r,m,h=>by
  unfold bindC
  rw[aCA λw hw=>h w (Qt9 _ hw)]
  split
  ·rfl
  ·have:x≠n:=by rintro rfl;exact h v Rc9
   simp[this]
theorem aCB{kindOf:Str->Option NameKind}{x:Str}{v:Value}:∀{P:List Str}{vs:List Value}{i:Nat}{m:Str->Option Value},P.Nodup->P[i]?=some x->vs[i]?=some v->kindOf x=some .local->
  bindL kindOf (P.zip vs) m x=some v
 |[],_,_,_,_,h,_,_=>by simp at h
 |_::_,[],_,_,_,_,h,_=>by simp at h
 |p::P,w::vs,0,m,nd,h1,h2,hk=>by
  simp at h1 h2;subst h1;subst h2
  show bindL kindOf ((p,w)::P.zip vs) m p=_
  unfold bindL
  rw[aCz λv hv=>(Rs9.mp nd).1 (Tu9 hv).1,if_pos hk]
  simp
 |p::P,w::vs,i+1,m,nd,h1,h2,hk=>by
  show bindL kindOf ((p,w)::P.zip vs) m x=_
  unfold bindL
  exact aCB (i:=i) (Rs9.mp nd).2 (by simpa using h1) (by simpa using h2) hk
theorem aCC{kindOf:Str->Option NameKind}{x:Str}{v:Value}:∀{P:List Str}{vs:List Value}{i:Nat}{m:Str->Option Value},P.Nodup->P[i]?=some x->vs[i]?=some v->kindOf x≠some .local->
  bindC kindOf (P.zip vs) m x=some v
 |[],_,_,_,_,h,_,_=>by simp at h
 |_::_,[],_,_,_,_,h,_=>by simp at h
 |p::P,w::vs,0,m,nd,h1,h2,hk=>by
  simp at h1 h2;subst h1;subst h2
  show bindC kindOf ((p,w)::P.zip vs) m p=_
  unfold bindC
  rw[aCA λv hv=>(Rs9.mp nd).1 (Tu9 hv).1,if_neg hk]
  simp
 |p::P,w::vs,i+1,m,nd,h1,h2,hk=>by
  show bindC kindOf ((p,w)::P.zip vs) m x=_
  unfold bindC
  exact aCC (i:=i) (Rs9.mp nd).2 (by simpa using h1) (by simpa using h2) hk
def start(N:List Str)(vs:List V):St:=vs.map some++List.replicate (N.length - vs.length) none
def aFt(CX:CXT)(P:Program)(w:World)(K:W.Frag)(mg:Str->Option Value)(base:Heap)(N:List Str)(qual:Str)(scope:Scope)(f:Addr)(cd:Value)(A:Around)(outer:List Env)(s:Shared)(H:Hp)(E:XK):Cx where
 prog:=P
 w:=w
 K:=K
 mg:=mg
 base:=base
 A:=A.deeper (envOfC qual scope s.heap.objs.size f cd)
 N:=N
 s₀:=s
 H₀:=H
 env:=envOfC qual scope s.heap.objs.size f cd
 outer:=outer
 stack:=envOfC qual scope s.heap.objs.size f cd::outer
 ex:=[]
 calm:=true
 fn:=λ_=>true
 pn:=[]
 xe:=λe s'=>wpAny (model P w) (A.deeper (envOfC qual scope s.heap.objs.size f cd)) (leaving (envOfC qual scope s.heap.objs.size f cd) e) (λ_ s''=>CX outer H s E e s'') (λe' s''=>CX outer H s E e' s'') s'
theorem aEn{sc:Scope}{n:Nat}{x:Str}(h:sc.names.lookup x=some .cell):∃c,(cellsFrom n sc.names []).lookup x=some c:=by
 have q:=PySem.W.cellsFrom_some sc.names n [] (.inl h)
 exact Option.isSome_iff_exists.mp q
theorem aHe{CX:CXT}{P:Program}{w:World}{K:W.Frag}{mg:Str->Option Value}{base:Heap}{N ps:List Str}{qual:Str}{scope:Scope}{f:Addr}{cd:Value}{A:Around}{outer:List Env}{s s1:Shared}{H:Hp}{E:XK}{us:List Value}{vs:List V}
  (S:bM N ps scope) (hd:A.handled=none) (e0:aBU P w K mg base A outer s H) (hl:vs.length=ps.length) (r:Vals vs us)
  (x:InCallC s s.heap.objs.size (bindL (envOfC qual scope s.heap.objs.size f cd).kindOf (ps.zip us) λ_=>none) (cellsFrom (s.heap.objs.size+1) scope.names []) (bindC (envOfC qual scope s.heap.objs.size f cd).kindOf (ps.zip us) λ_=>none) s1) :
  Inv (aFt CX P w K mg base N qual scope f cd A outer s H E) [] (start N vs) H s1:=by
 have hpl:ps.length<=N.length:=by have:=congrArg List.length S.pre;rw[uV] at this;omega
 obtain⟨h1,tk,rfl,hk⟩:=x.done
 have noA:∀b:Addr,b∉(aFt CX P w K mg base N qual scope f cd A outer s H E).ex:=λb z=>absurd (show b∈([]:List Addr) from z) (by simp)
 refine⟨⟨e0.mod,S.kind,rfl,rfl,dQ _,λy z c h1 h2=>?_,λy hy=>?_,λy c _ h=>?_,λ_=>hd,Around.frames_deeper e0.frames,.inr ⟨rfl,rfl⟩,λb z=>absurd z (noA b),e0.bs,e0.bsz,λb _ _=>noA b,λb z=>absurd z (noA b),e0.vP,e0.frf⟩,
  rfl,e0.bare,Un.kept hk,⟨_,x.toInCall.ns,λi y v h1 h2 h3=>?_⟩,λy c h=>⟨_,x.cell y c h⟩,e0.hok.fresh (dQ _),λy c h=>?_,λp hp=>absurd (show p∈([]:List (Addr×Obj)) from hp) (by simp),e0.hok.kept hk,?_⟩
 ·exact name_of_addr x.apart (PySem.mem_of_lookup h1) (PySem.mem_of_lookup h2)
 ·have hy:scope.names.lookup y=some .cell\/scope.names.lookup y=some .free:=hy
  rcases hy with hy|hy
  ·exact aEn hy
  ·exact absurd rfl (S.nofree _ (PySem.mem_of_lookup hy))
 ·exact Tr9 (x.above y c (PySem.mem_of_lookup h))
 ·have hi:i < vs.length:=by
   unfold start at h2
   by_cases hi:i < vs.length
   ·exact hi
   ·rw[Qz9 (by simpa using hi)] at h2
    rw[Tv9] at h2
    split at h2 <;> cases h2
  have ha:vs[i]?=some v:=by
   unfold start at h2
   rw[Qq9 (by simpa using hi),qB] at h2
   cases e:vs[i]? with
   |none=>rw[e] at h2;cases h2
   |some a=>rw[e] at h2;cases h2;rfl
  obtain⟨u,hu,rv⟩:=r.get ha
  have hp:ps[i]?=some y:=by
   rw[<-S.pre,Ts9 (by omega)];exact h1
  have ndP:ps.Nodup:=by rw[<-S.pre];exact S.nd.sublist (List.take_sublist _ _)
  refine⟨u,rv,?_⟩
  rcases S.par y (iW hp) with k|k
  ·exact .inl ⟨k,aCB ndP hp hu k⟩
  ·obtain⟨c,e⟩:=aEn (n:=s.heap.objs.size+1) k
   refine .inr ⟨.inl k,c,e,?_⟩
   have q:=x.cell y c e
   rw[aCC ndP hp hu (by show scope.names.lookup y≠_;rw[k];decide)] at q
   exact q
 ·exact e0.hok.fresh (Tr9 (x.above y c (PySem.mem_of_lookup h)))
 ·unfold start
  show _=N.length
  rw[sO,cD,List.length_replicate]
  omega
theorem aLU{CX:CXT}{P:Program}{w:World}{K:W.Frag}{mg:Str->Option Value}{base:Heap}{k:Nat}{f:Addr}{name qual:Str}{params:Arguments}{body:List Stmt}{scope:Scope}{dV kV doc pm cdv ct oc:Value}{an od:Option Addr}
  {osl:Array (Option Value)} {N ps:List Str} {sp:Sp} (lk:K.lookup f=some ⟨oc,od,.func (W.fnOf name qual params body scope dV kV doc pm an cdv ct),osl⟩) (hcd:W.codeIn K cdv qual=true) (S:bM N ps scope)
  (len:∀vs H Q E,sp vs H Q E->vs.length=ps.length)
  (hbody:∀(A:Around) (outer:List Env) (s:Shared) (H:Hp) (vs:List V) (Q:VK) (E:XK),eI k (A.deeper (envOfC qual scope s.heap.objs.size f cdv))->sp vs H Q E->
   ∃t,PSs (aFt CX P w K mg base N qual scope f cdv A outer s H E) body t/\t { nx:=λ_ H'=>Q .non H',rt:=Q } (start N vs) H) :
  cR P w K mg base CX (k+1) f (W.fnOf name qual params body scope dV kV doc pm an cdv ct) ps sp:=by
 refine⟨len,λA outer s H args us vs Q E hr e0 hb r hsp=>?_⟩
 have hl:=len _ _ _ _ hsp
 have KX:K.In s.heap:=e0.mod.kin.keeps λb o e=>(e0.bs b o e).1
 have lim:s.heap.NoLimit:=e0.mod.nolimit.keeps λb o e=>(e0.bs b o e).1
 have hkind:∀y∈ps.zip us,scope.names.lookup y.1=some .local\/(scope.names.lookup y.1=some .cell/\((cellsFrom (s.heap.objs.size+1) scope.names []).lookup y.1).isSome=true):=λ⟨n,v⟩ hy=>by
  rcases S.par n (Tu9 hy).1 with q|q
  ·exact .inl q
  ·exact .inr ⟨q,PySem.W.cellsFrom_some _ _ _ (.inl q)⟩
 refine codeAny_call_function hr.depth (KX _ _ lk) rfl S.co S.gen rfl (PySem.W.codeRec_of KX hcd) (hb _ _ _ _ ?_)
 refine wpAny_newFunctionEnv_cells S.kind hkind λenv he s1 x=>?_
 subst he
 refine⟨lim.keeps x.toInCall.keep,codeAny_func ?_⟩
 obtain⟨t,ht,hq⟩:=hbody A outer s H vs Q E (hr.deeper _) hsp
 have I:Inv (aFt CX P w K mg base N qual scope f cdv A outer s H E) [] (start N vs) H s1:=aHe S hr.hd e0 hl r x
 refine wpAny_mono (ht [] s1 (start N vs) H _ I hq) (λfl s' hs=>?_) λe s' hs=>hs
 have fin:∀{σ':St} {H':Hp} {v:V} {u:Value},Inv (aFt CX P w K mg base N qual scope f cdv A outer s H E) [] σ' H' s'->RelV v u->Q v H'->CE outer P w H s Q u s':=
  λ{σ' H' v u} J rv q=>⟨v,H',J.os,J.bare,J.base,J.hok,rv,q⟩
 cases fl with
 |ret u=>
  obtain⟨v,σ',H',J,rv,q⟩:=hs
  exact fin J rv q
 |next=>
  obtain⟨σ',H',J,q⟩:=hs
  exact fin (v:=V.non) (u:=Value.none) J rfl q
 |brk=>
  obtain⟨_,_,_,q⟩:=hs
  exact False.elim q
 |cont=>
  obtain⟨_,_,_,q⟩:=hs
  exact False.elim q
end L2
namespace L2
open PySem PySem.Spec PyProof.Rows
section
variable{X:Cx}{x:Str}{p pos:Pos}{e:Expr}{es:List Expr}{t:TA}{id T:String}{r:List V->Hp->VK->Prop}
def tCB(r:List V->Hp->VK->Prop)(t:TA):TE:=λσ H Q=>t σ H λvs H1=>r vs H1 Q
theorem aIr(hc:eJ X (.builtin id) r)(hg:Gl X x)(hm:X.mg x=none)(hv:bootBuiltins x=some (.builtin id))(ha:PA X (e::es) t)(hn:x≠"__name__":=by decide)(hdb:(x == ("__debug__" : Str))=false:=by decide)
  (he:starEach (e::es) X.env=(false,eval e X.env)::starEach es X.env:=by rfl) (hpl:(backTo pos (starEach es X.env)).any (·.1)=false:=by rfl):PE X (.Call (.Name x p) (e::es) [] pos) (tCB r t):=by
 intro pins s σ H Q I h
 refine wpAny_Call_Name_kw (sP I hg hm hv ?_ hn hdb)
 exact PyProof.Rows.callWith_builtin1 (dG (ha pos pins s σ H _ I h) λus s1 ⟨vs,H1,I1,r1,q1⟩=>hc pins s1 σ H1 vs us Q I1 r1 q1) he hpl
theorem aHf(hc:eJ X (.type T) r)(hg:Gl X x)(hm:X.mg x=none)(hv:bootBuiltins x=some (.type T))(ha:PA X (e::es) t)(hn:x≠"__name__":=by decide)(hdb:(x == ("__debug__" : Str))=false:=by decide)
  (he:starEach (e::es) X.env=(false,eval e X.env)::starEach es X.env:=by rfl) (hpl:(backTo pos (starEach es X.env)).any (·.1)=false:=by rfl):PE X (.Call (.Name x p) (e::es) [] pos) (tCB r t):=by
 intro pins s σ H Q I h
 refine wpAny_Call_Name_kw (sP I hg hm hv ?_ hn hdb)
 exact PyProof.Rows.callWith_type1 (dG (ha pos pins s σ H _ I h) λus s1 ⟨vs,H1,I1,r1,q1⟩=>hc pins s1 σ H1 vs us Q I1 r1 q1) he hpl
end
end L2
namespace HT
open PySem PyProof.Rows
section
open PySem.SeqAt
open PySem.AutoSeq1 (wpAny_loadPart')
open PySem.MeetsSeq PySem.MeetsSeq2 PySem.MeetsSeq3
end
section
variable{prog:Program}{w:World}{A:Around}{E:Value->Shared->Prop}{s:Shared}
def lH(n d:Nat):Option Int->Nat
 |none=>d
 |some v=>if v < 0 then (v+(n:Int)).toNat else min v.toNat n
theorem xD(n d:Nat):lH n d none=d:=rfl
theorem aAD(n d k:Nat):lH n d (some (k:Int))=min k n:=by
 show(if (k:Int) < 0 then ((k:Int)+(n:Int)).toNat else min (k:Int).toNat n)=min k n
 rw[if_neg (by omega),Ru9]
theorem aMI(n d:Nat)(hd:d<=n)(o:Option Int):lH n d o<=n:=by
 cases o with
 |none=>exact hd
 |some v=>
  show(if v < 0 then (v+(n:Int)).toNat else min v.toNat n)<=n
  by_cases hv:v < 0
  ·rw[if_pos hv];omega
  ·rw[if_neg hv];exact Nat.min_le_right _ _
theorem aGo(v:Int)(n d:Nat):(if v < 0 then max (v+(n:Int)) 0 else min v (n:Int))=((lH n d (some v):Nat):Int):=by
 show(if v < 0 then max (v+(n:Int)) 0 else min v (n:Int))=(((if v < 0 then (v+(n:Int)).toNat else min v.toNat n):Nat):Int)
 by_cases hv:v < 0
 ·simp only[if_pos hv];omega
 ·simp only[if_neg hv];omega
theorem aFu(lo hi:Option Int)(n:Nat):Builtin.Slice.sliceAdjust lo hi 1 (n:Int)=(((lH n 0 lo:Nat):Int),((lH n n hi:Nat):Int)):=by
 have h1:¬((1:Int) < 0):=by omega
 unfold Builtin.Slice.sliceAdjust
 simp only[h1,if_false]
 refine Prod.ext ?_ ?_
 ·cases lo with
  |none=>rfl
  |some v=>exact aGo v n 0
 ·cases hi with
  |none=>rfl
  |some v=>exact aGo v n n
theorem aFv(i j:Nat):Builtin.Slice.slicePlaces (i:Int) (j:Int) 1=j - i:=by
 unfold Builtin.Slice.slicePlaces
 have h1:(1:Int) > 0:=by omega
 simp only[h1,if_true,Int.ediv_one]
 split <;> omega
theorem aAR{v:Value}{o:Option Int}{Q:Option Int->Shared->Prop}(p:IsPart v o)(h:Q o s):wpAny (model prog w) A (Builtin.Slice.slicePartIndex v) Q E s:=by
 cases p with
 |none=>exact slicePart_none h
 |int i t=>exact slicePart_int h
theorem yT{sl:Addr}{vl vu:Value}{lo hi:Option Int}{n:Nat}{Q:Int×Int×Nat->Shared->Prop}(hs:s.heap.IsSliceOf sl vl vu .none)(pl:IsPart vl lo)(pu:IsPart vu hi)
  (h:Q (((lH n 0 lo:Nat):Int),1,lH n n hi - lH n 0 lo) s):wpAny (model prog w) A (Builtin.Slice.sliceApplied (.ref sl) (pure (n:Int))) Q E s:=by
 obtain⟨os,hos,hcs,hds⟩:=id hs
 unfold Builtin.Slice.sliceApplied Builtin.Slice.sliceFields
 refine wpAny_bind (wpAny_bind (wpAny_field hos hds (x:=vl) rfl (wpAny_bind (wpAny_field hos hds (x:=vu) rfl (wpAny_bind (wpAny_field hos hds (x:=.none) rfl (wpAny_pure ?_)))))))
 refine wpAny_bind (slicePart_none ?_)
 show wpAny _ _ (if ((1:Int) == 0)=true then _ else _) _ _ s
 rw[if_neg (by decide)]
 refine wpAny_bind (aAR pl (wpAny_bind (aAR pu (wpAny_bind (wpAny_pure ?_)))))
 show wpAny _ _ (match Builtin.Slice.sliceAdjust lo hi 1 (n:Int) with|(lo,hi)=>pure (lo,(1:Int),Builtin.Slice.slicePlaces lo hi 1)) _ _ s
 rw[aFu lo hi n]
 show wpAny _ _ (pure (((lH n 0 lo:Nat):Int),(1:Int),Builtin.Slice.slicePlaces ((lH n 0 lo:Nat):Int) ((lH n n hi:Nat):Int) 1)) _ _ s
 rw[aFv]
 exact wpAny_pure h
theorem aIs(xs:Array Value)(i k:Nat):((List.range k).filterMap λ(m:Nat)=>xs[((i:Int)+(m:Int)*1).toNat]?).toArray=((xs.toList.drop i).take k).toArray:=by
 have e:(λ(m:Nat)=>xs[((i:Int)+(m:Int)*1).toNat]?)=λm=>xs[i+m]?:=by
  funext m
  have:((i:Int)+(m:Int)*1).toNat=i+m:=by omega
  rw[this]
 rw[e]
 have:=pick_run xs i k
 rw[List.filterMap_map] at this
 have e2:((λx=>xs[x]?) ∘ λx=>i+x)=λm=>xs[i+m]?:=rfl
 rw[e2] at this
 rw[this]
theorem xE{t sl:Addr}{items:Array Value}{vl vu:Value}{lo hi:Option Int}{Q:Value->Shared->Prop}(ht:IsTup s.heap t items)(hs:s.heap.IsSliceOf sl vl vu .none)(pl:IsPart vl lo)(pu:IsPart vu hi)
  (hw:¬(lH items.size 0 lo=0/\lH items.size items.size hi=items.size))
  (h:Q (.ref s.heap.objs.size) { s with heap:=s.heap.push { cls:=.type "tuple",data:=.seq ((items.toList.drop (lH items.size 0 lo)).take (lH items.size items.size hi - lH items.size 0 lo)).toArray } })
  (hsz:items.size<=sizeLine):wpAny (model prog w) A (getItem (.ref t) (.ref sl)) Q E s:=by
 have htake:sizeOk (.seq ((items.toList.drop (lH items.size 0 lo)).take (lH items.size items.size hi - lH items.size 0 lo)).toArray):=by
  show((items.toList.drop (lH items.size 0 lo)).take (lH items.size items.size hi - lH items.size 0 lo)).toArray.size<=sizeLine
  rw[jV,uV,Sf9,Re9]
  omega
 have hj:lH items.size items.size hi<=items.size:=aMI _ _ (dQ _) hi
 obtain⟨os,hos,hcs,hds⟩:=id hs
 have hTs:s.TypeIs (.ref sl) "slice":=⟨os,hos,hcs⟩
 unfold getItem
 try with_reducible refine wpAny_holding ?_
 first|refine wpAny_bind (wpAny_pure ?_)|skip
 refine wpAny_bind (wpAny_sequenceKey ht.typeIs (by decide) ?_)
 refine wpAny_bind (wpAny_callSpecial?_slot (name:=Str.ofString "__getitem__") ht.typeIs PyProof.Rows.slot_tuple_getitem
  (wpAny_call_entry PyProof.Rows.slot_tuple_getitem ht.typeIs entry_tuple_getitem ?_ (args_tuple_getitem _ _)))
 show wpAny _ _ (Builtin.Tuple.tupleItemsOf (.ref t) >>= _) _ _ s
 refine wpAny_bind (tupleItemsOf_ ht ?_)
 refine wpAny_bind (wpAny_typeOf hTs ?_)
 rw[if_pos (by decide)]
 refine wpAny_bind (yT hs pl pu ?_)
 have hno:¬((((lH items.size 0 lo:Nat):Int) == 0 && (1:Int) == 1 && (lH items.size items.size hi - lH items.size 0 lo) == items.size)=true):=by
  intro q
  rw[Sj9,Sj9] at q
  have q1:((lH items.size 0 lo:Nat):Int)=0:=eq_of_beq q.1.1
  have q2:lH items.size items.size hi - lH items.size 0 lo=items.size:=eq_of_beq q.2
  exact hw ⟨by omega,by omega⟩
 show wpAny _ _ (if (((lH items.size 0 lo:Nat):Int) == 0 && (1:Int) == 1 && (lH items.size items.size hi - lH items.size 0 lo) == items.size)=true then _ else _) _ _ s
 rw[if_neg hno,aIs]
 first
  |exact wpAny_bind (m:=Builtin.Tuple.tupleExact _) (wpAny_newObj_type (wpAny_pure ⟨_,rfl,wpAny_pure h⟩) htake)
  |exact wpAny_bind (m:=Builtin.Tuple.tupleExact _) (wpAny_newObj_type (wpAny_bind (wpAny_pure (wpAny_pure ⟨_,rfl,wpAny_pure h⟩))) htake)
  |exact wpAny_bind (wpAny_bind (m:=Builtin.Tuple.tupleExact _) (wpAny_newObj_type (wpAny_pure (wpAny_pure ⟨_,rfl,wpAny_pure h⟩)) htake))
  |exact wpAny_bind (wpAny_bind (m:=Builtin.Tuple.tupleExact _) (wpAny_newObj_type (wpAny_pure ⟨_,rfl,wpAny_pure h⟩) htake))
end
end HT
namespace L2
open PySem PySem.Spec PyProof.Rows
abbrev TO:=St->Hp->(Option Int->Hp->Prop)->Prop
def PO(X:Cx)(e:Option Expr)(t:TO):Prop:=
 ∀(pins:List (Addr×Obj)) (s:Shared) (σ:St) (H:Hp) (Q:Option Int->Hp->Prop),Inv X pins σ H s->t σ H Q->
  wpAny (model X.prog X.w) X.A (evalPart e X.env) (λu s'=>∃o H',Inv X pins σ H' s'/\IsPart u o/\Q o H') X.xe s
def aC8:TO:=λ_ H Q=>Q none H
def aIt(t:TE):TO:=λσ H Q=>t σ H λx H1=>∃i,x=.int i/\Q (some i) H1
theorem intsAre_of{ns:List Int}:∀{us:List Value},Vals (ns.map V.int) us->IntsAre us ns:=by
 induction ns with
 |nil=>intro us r;rw[List.map_nil] at r;cases r;exact .nil
 |cons n ns ih=>
  intro us r
  rw[Rg9] at r
  cases r with
  |cons r1 r2=>
   obtain⟨t,e⟩:=r1
   subst e
   exact .cons n t (ih r2)
section
variable{X:Cx}{e:Expr}{te:TE}{lo hi:Option Expr}{tl th:TO}{pos p2:Pos}
theorem aKE:PO X none aC8:=by
 intro pins s σ H Q I h
 rw[evalPart_none]
 exact wpAny_pure ⟨none,H,I,.none,h⟩
theorem aKF(h:PE X e te):PO X (some e) (aIt te):=by
 intro pins s σ H Q I hw
 rw[evalPart_some]
 refine dG (h pins s σ H _ I hw) λu s1 ⟨x,H1,I1,r1,q1⟩=>?_
 obtain⟨i,rfl,q⟩:=q1
 obtain⟨t,rfl⟩:=r1
 exact⟨some i,H1,I1,.int i t,q⟩
def SlR(X:Cx)(r:V->Option Int->Option Int->Hp->VK->Prop):Prop:=
 ∀(pins:List (Addr×Obj)) (s:Shared) (σ:St) (H:Hp) (x:V) (v vl vu:Value) (lo hi:Option Int) (sl:Addr) (Q:VK),Inv X pins σ H s->RelV x v->s.heap.IsSliceOf sl vl vu .none->IsPart vl lo->IsPart vu hi->r x lo hi H Q->
  ∃T id,typeLookup (.type T) "__getitem__" = pure (some (.builtin id))/\s.TypeIs v T/\wpAny (model X.prog X.w) X.A (getItem v (.ref sl)) (EP X pins σ Q) X.xe s
theorem SlR.or{r r':V->Option Int->Option Int->Hp->VK->Prop}(h:SlR X r)(h':SlR X r'):SlR X (λx lo hi H Q=>r x lo hi H Q\/r' x lo hi H Q):=by
 intro pins s σ H x v vl vu lo hi sl Q I rx hs pl pu q
 rcases q with q|q
 ·exact h pins s σ H x v vl vu lo hi sl Q I rx hs pl pu q
 ·exact h' pins s σ H x v vl vu lo hi sl Q I rx hs pl pu q
def tSl(r:V->Option Int->Option Int->Hp->VK->Prop)(te:TE)(tl th:TO):TE:=λσ H Q=>te σ H λx H1=>tl σ H1 λl H2=>th σ H2 λu H3=>r x l u H3 Q
theorem aIu{r:V->Option Int->Option Int->Hp->VK->Prop}(hr:SlR X r)(he:PE X e te)(hl:PO X lo tl)(hu:PO X hi th):PE X (.Subscript e (.Slice lo hi none p2) pos) (tSl r te tl th):=by
 intro pins s σ H Q I h
 refine Subscript_ (dG (he pins s σ H _ I h) λv s1 ⟨x,H1,I1,r1,q1⟩=>?_)
 refine wpAny_Slice (dG (hl pins s1 σ H1 _ I1 q1) λvl s2 ⟨l,H2,I2,pl,q2⟩=>dG (hu pins s2 σ H2 _ I2 q2) λvu s3 ⟨u,H3,I3,pu,q3⟩=>?_)
 rw[evalPart_none]
 refine wpAny_pure ?_
 have I4:Inv X pins σ H3 { s3 with heap:=s3.heap.push { cls:=.type "slice",data:=.fields #[vl,vu,.none] } }:=I3.kept (t':=s3.toks) λb ob q=>lV _ q
 obtain⟨T,id,hT,ht,hg⟩:=hr pins { s3 with heap:=s3.heap.push { cls:=.type "slice",data:=.fields #[vl,vu,.none] } } σ H3 x v vl vu l u s3.heap.objs.size Q I4 r1 (Heap.IsSliceOf.new ..) pl pu q3
 show wpAny (model X.prog X.w) X.A (subscriptTail e (.Slice lo hi none p2) v (.ref s3.heap.objs.size)) (EP X pins σ Q) X.xe { s3 with heap:=s3.heap.push { cls:=.type "slice",data:=.fields #[vl,vu,.none] } }
 exact tail_any (ops:=[.ref s3.heap.objs.size,v]) ht hT hg (by with_unfolding_all rfl)
def lP(xs:List V)(lo hi:Option Int):List V:=(xs.drop (HT.lH xs.length 0 lo)).take (HT.lH xs.length xs.length hi - HT.lH xs.length 0 lo)
theorem eV(xs:List V)(lo hi:Option Int):(lP xs lo hi).length<=xs.length:=by
 unfold lP
 rw[uV,Sf9]
 omega
def aOt(K:W.Frag):V->Option Int->Option Int->Hp->VK->Prop:=λx lo hi H Q=>∃a xs,x=.ref a/\iY K H a xs/\
 ¬(HT.lH xs.length 0 lo=0/\HT.lH xs.length xs.length hi=xs.length)/\∀p,H p=none->Q (.ref p) (upd H p (.tup (lP xs lo hi)))
theorem aMJ:SlR X (aOt X.K):=by
 intro pins s σ H x v vl vu lo hi sl Q I rx hs pl pu h
 obtain⟨a,xs,rfl,hx,hw,q⟩:=h
 cases rx
 obtain⟨its,r,ht,hz⟩:=I.tuple hx
 have hlen:its.toArray.size=xs.length:=by rw[jV];exact r.length.symm
 refine⟨"tuple",_,PyProof.Rows.slot_tuple_getitem.lookup,ht.typeIs,?_⟩
 refine HT.xE ht hs pl pu (by rw[hlen];exact hw) ?_ (by rw[hlen];exact hz)
 rw[hlen]
 refine⟨.ref s.heap.objs.size,_,I.laid (t':=s.toks) (o:=.tup (lP xs lo hi)) (λb ob q=>lV _ q) (dQ _) ?_,rfl,q _ (I.hok.fresh (dQ _))⟩
 exact⟨zK (eV xs lo hi) hz,_,(r.drop (HT.lH xs.length 0 lo)).take (HT.lH xs.length xs.length hi - HT.lH xs.length 0 lo),IsTup.new _ _⟩
end
end L2
namespace L2
open PySem PySem.Spec PyProof.Rows
def ixN(n:Nat)(i:Int):Option Nat:=if 0<=i then (if i < n then some i.toNat else none) else if -(n:Int)<=i then some (i+n).toNat else none
def p9{α:Type}(xs:List α)(i:Int):Option α:=(ixN xs.length i).bind λj=>xs[j]?
theorem aGp{n:Nat}{i:Int}{j:Nat}(h:ixN n i=some j):seqIndex? i n=some j/\j < n/\-(n:Int)<=i/\i < n:=by
 unfold ixN at h
 by_cases h0:0<=i
 ·rw[if_pos h0] at h
  by_cases h1:i < n
  ·rw[if_pos h1] at h
   have e:i.toNat=j:=Option.some.inj h
   exact⟨by rw[seqIndex_of h0 h1,e],by omega,by omega,h1⟩
  ·rw[if_neg h1] at h;cases h
 ·rw[if_neg h0] at h
  by_cases h1:-(n:Int)<=i
  ·rw[if_pos h1] at h
   have e:(i+n).toNat=j:=Option.some.inj h
   exact⟨by rw[seqIndex_neg (by omega) h1,e],by omega,h1,by omega⟩
  ·rw[if_neg h1] at h;cases h
theorem aC9{α:Type}{xs:List α}{i:Int}{v:α}(h:p9 xs i=some v):∃j,seqIndex? i xs.length=some j/\xs[j]?=some v/\j < xs.length/\-(xs.length:Int)<=i/\i < xs.length:=by
 unfold p9 at h
 cases e:ixN xs.length i with
 |none=>rw[e] at h;cases h
 |some j=>
  rw[e] at h
  obtain⟨h1,h2,h3,h4⟩:=aGp e
  exact⟨j,h1,h,h2,h3,h4⟩
theorem dA{α:Type}{xs:List α}{j:Nat}{v:α}(h:xs[j]?=some v):p9 xs (j:Int)=some v:=by
 have hj:j < xs.length:=(lG.mp h).1
 have e:ixN xs.length (j:Int)=some j:=by
  unfold ixN
  rw[if_pos (by omega),if_pos (by omega)];simp
 unfold p9;rw[e];exact h
theorem sU{α:Type}(xs:List α)(v:α):p9 (xs ++ [v]) (-1)=some v:=by
 have hl:(xs ++ [v]).length=xs.length+1:=by simp
 have e:ixN (xs ++ [v]).length (-1)=some xs.length:=by
  unfold ixN
  rw[hl,if_neg (by decide),if_pos (by omega)]
  congr 1
  omega
 unfold p9
 rw[e]
 show(xs ++ [v])[xs.length]?=some v
 simp
def aGq(b:Expr):Prop:=∀o i,subscripted b false o i=operate [o,i] (getItem o i)
def IxR(X:Cx)(r:R2):Prop:=
 ∀(value slice:Expr) (pins:List (Addr×Obj)) (s:Shared) (σ:St) (H:Hp) (x y:V) (v u:Value) (Q:VK),Inv X pins σ H s->RelV x v->RelV y u->r x y H Q->
  subscripted slice false v u=operate [v,u] (getItem v u)->wpAny (model X.prog X.w) X.A (subscriptTail value slice v u) (EP X pins σ Q) X.xe s
def MtR(X:Cx)(id:String)(r:V->List V->Hp->VK->Prop):Prop:=
 ∀(pins:List (Addr×Obj)) (s:Shared) (σ:St) (H:Hp) (x:V) (xs:List V) (v:Value) (us:List Value) (Q:VK),Inv X pins σ H s->RelV x v->Vals xs us->r x xs H Q->
  wpAny (model X.prog X.w) X.A (call (.builtin id) (v::us)) (EP X pins σ Q) X.xe s
section
variable{X:Cx}{a b:Expr}{ta tb:TE}{pos:Pos}
theorem IxR.or{r r':R2}(h:IxR X r)(h':IxR X r'):IxR X (λx y H Q=>r x y H Q\/r' x y H Q):=by
 intro value slice pins s σ H x y v u Q I rx ry q hs
 rcases q with q|q
 ·exact h value slice pins s σ H x y v u Q I rx ry q hs
 ·exact h' value slice pins s σ H x y v u Q I rx ry q hs
theorem aOu{r:R2}(hr:IxR X r)(ha:PE X a ta)(hb:PE X b tb)(hs:aGq b):PE X (.Subscript a b pos) (tOp r ta tb):=by
 intro pins s σ H Q I h
 exact Subscript_ (aMB ha hb I h λv u s2 x y H2 I2 rx ry q=>hr a b pins s2 σ H2 x y v u Q I2 rx ry q (hs _ _))
def aOv(K:W.Frag):R2:=λx y H Q=>∃p xs i v,x=.ref p/\y=.int i/\bU K H p xs/\p9 xs i=some v/\Q v H
def aOw(K:W.Frag):R2:=λx y H Q=>∃p xs i v,x=.ref p/\y=.int i/\iY K H p xs/\p9 xs i=some v/\Q v H
def aOx:R2:=λx y H Q=>∃z i c,x=.str z/\y=.int i/\z.length<=sizeLine/\p9 z.cps.toList i=some c/\Q (.str ⟨#[c]⟩) H
theorem aKG:IxR X (aOv X.K):=by
 intro value slice pins s σ H x y v u Q I rx ry h hs
 obtain⟨p,xs,i,z,rfl,rfl,hq,he,q⟩:=h
 cases rx
 obtain⟨t,rfl⟩:=ry
 obtain⟨its,r,pl,hz⟩:=I.list hq
 obtain⟨j,h1,h2,h3,h4,h5⟩:=aC9 he
 obtain⟨w,ew,rw'⟩:=r.get h2
 have hl:=r.length
 have hn:=yP
 have fin:EP X pins σ Q w s:=⟨z,H,I,rw',q⟩
 by_cases h0:0<=i
 ·have hj:i.toNat=j:=by
   rw[seqIndex_of h0 h5] at h1
   exact Option.some.inj h1
  exact item_listR pl.isList h0 (by omega) (by rw[hj];simpa using ew) fin hs
 ·have hj:(i+(its.toArray.size:Int)).toNat=j:=by
   rw[seqIndex_neg (by omega) h4] at h1
   rw[jV,<-hl]
   exact Option.some.inj h1
  exact subscriptTail_builtinR (x:=w) pl.isList.typeIs slot_list_getitem.lookup
   (wpAny_getItem_list_neg (Q:=λr s'=>r=w/\EP X pins σ Q r s') pl.isList (by omega) (by rw[jV] <;> omega) (by omega) (by rw[hj];simpa using ew) ⟨rfl,fin⟩) hs
theorem aMK:IxR X (aOw X.K):=by
 intro value slice pins s σ H x y v u Q I rx ry h hs
 obtain⟨p,xs,i,z,rfl,rfl,hq,he,q⟩:=h
 cases rx
 obtain⟨t,rfl⟩:=ry
 obtain⟨its,r,pl,hz⟩:=I.tuple hq
 obtain⟨j,h1,h2,h3,h4,h5⟩:=aC9 he
 obtain⟨w,ew,rw'⟩:=r.get h2
 have hl:=r.length
 have hn:=yP
 have fin:EP X pins σ Q w s:=⟨z,H,I,rw',q⟩
 exact subscriptTail_builtinR (x:=w) pl.typeIs slot_tuple_getitem.lookup
  (getItem_tuple (j:=j) (Q:=λr s'=>r=w/\EP X pins σ Q r s') pl (by omega) (by omega) (by rw[jV,<-hl];exact h1) (by simpa using ew) ⟨rfl,fin⟩) hs
theorem aML:IxR X aOx:=by
 intro value slice pins s σ H x y v u Q I rx ry h hs
 obtain⟨z,i,c,rfl,rfl,hz,he,q⟩:=h
 obtain⟨t,rfl⟩:=rx
 obtain⟨t',rfl⟩:=ry
 obtain⟨j,h1,h2,h3,h4,h5⟩:=aC9 he
 have hl:z.cps.toList.length=z.length:=by simp[Str.length]
 rw[hl] at h1 h4 h5
 have hn:=yP
 exact tail_any (typeIs_str s z t) slot_str_getitem.lookup (getItem_str (c:=c) (by
  have e1:decide (i < -(2 ^ 63:Int))=false:=decide_eq_false (by omega)
  have e2:decide (i ≥ 2 ^ 63)=false:=decide_eq_false (by omega)
  rw[e1,e2,Bool.or_false]) (by rw[h1];simpa using h2) ⟨.str ⟨#[c]⟩,H,I.tok _,⟨_,rfl⟩,q⟩) hs
def rIx(K:W.Frag):R2:=λx y H Q=>aOv K x y H Q\/aOw K x y H Q\/aOx x y H Q
theorem aMM:IxR X (rIx X.K):=aKG.or (aMK.or aML)
theorem aFw(its:List Value)(n j:Nat)(u:Value):Obj.mapSeq (·.setIfInBounds j u) { cls:=.type "list",data:=.seq its.toArray n } = { cls:=.type "list",data:=.seq (its.set j u).toArray n }:=by
 simp[Obj.mapSeq]
theorem Inv.lst{pins:List (Addr×Obj)}{σ:St}{H:Hp}{s:Shared}{p:Addr}{xs:List V}(I:Inv X pins σ H s)(h:H p=some (.lst xs)) :
  ∃(its:List Value) (n:Nat),Vals xs its/\s.heap.get? p=some { cls:=.type "list",data:=.seq its.toArray n }/\xs.length<=sizeLine:=by
 obtain⟨z,its,n,r,e⟩:=I.hok p _ h
 exact⟨its,n,r,e,z⟩
theorem Inv.aMN{pins:List (Addr×Obj)}{σ:St}{H:Hp}{s:Shared}{p:Addr}{xs ys:List V}{its its':List Value}{n n':Nat}{f:Obj->Obj}(I:Inv X pins σ H s)(h:H p=some (.lst xs))
  (ho:s.heap.get? p=some { cls:=.type "list",data:=.seq its.toArray n }) (hf:f { cls:=.type "list",data:=.seq its.toArray n } = { cls:=.type "list",data:=.seq its'.toArray n' }) (r:Vals ys its') (hz:ys.length<=sizeLine) (t:Nat) :
  Inv X pins σ (upd H p (.lst ys)) { s with heap:=s.heap.update p f,toks:=t }:=by
 have e:(s.heap.update p f).get? p=some { cls:=.type "list",data:=.seq its'.toArray n' }:=by
  rw[Sd9 f ho (by rw[hf] <;> rfl),hf]
 refine I.write (x:=p) (e:=p) (by rw[h];trivial) (.inl rfl) (λb u hb q=>(Heap.get?_update_other _ _ (Ne.symm hb)).trans q) ⟨_,e⟩ ?_
 exact⟨hz,its',n',r,e⟩
def aLV:V->V->V->Hp->(Hp->Prop)->Prop:=λo i v H Q=>∃p xs k j,o=.ref p/\i=.int k/\H p=some (.lst xs)/\ixN xs.length k=some j/\Q (upd H p (.lst (xs.set j v)))
theorem set_list:aIb X aLV:=by
 intro pins s σ H o i v ov iv u Q I ro ri rv h
 obtain⟨p,xs,k,j,rfl,rfl,hp,hj,q⟩:=h
 cases ro
 obtain⟨t,rfl⟩:=ri
 obtain⟨its,n,r,ho,hz⟩:=I.lst hp
 obtain⟨h1,h2,h3,h4⟩:=aGp hj
 have hl:=r.length
 have hn:=yP
 have I':Inv X pins σ (upd H p (.lst (xs.set j v))) { s with heap:=s.heap.update p (Obj.mapSeq (·.setIfInBounds j u)) }:=
  I.aMN hp ho (aFw its n j u) (r.set rv j) (by rw[Rv9];exact hz) s.toks
 by_cases h0:0<=k
 ·have hk:k.toNat=j:=by
   rw[seqIndex_of h0 h4] at h1
   exact Option.some.inj h1
  exact PySem.W.ki_setAt ho h0 (by omega) (by rw[jV,<-hl];exact h4) (by rw[hk];exact⟨_,I',q⟩)
 ·have hk:(k+(its.toArray.size:Int)).toNat=j:=by
   rw[seqIndex_neg (by omega) h3] at h1
   rw[jV,<-hl]
   exact Option.some.inj h1
  exact PySem.W.ki_setBack ho (by omega) (by rw[jV,<-hl];exact h3) (by omega) (by rw[hk];exact⟨_,I',q⟩)
theorem aDa(lo hi:Option Int)(n:Nat):(sliceBounds lo hi none n).1=((HT.lH n 0 lo:Nat):Int)/\(sliceBounds lo hi none n).2.1=((HT.lH n n hi:Nat):Int)/\(sliceBounds lo hi none n).2.2=1:=by
 refine⟨?_,?_,rfl⟩
 ·cases lo with
  |none=>simp[sliceBounds,HT.lH]
  |some i=>
   simp only[sliceBounds,HT.lH,Option.getD_none,show(1:Int) > 0 by decide,if_true]
   by_cases h:i < 0
   ·simp only[h,if_true] <;> omega
   ·simp only[h,if_false] <;> omega
 ·cases hi with
  |none=>simp[sliceBounds,HT.lH]
  |some i=>
   simp only[sliceBounds,HT.lH,Option.getD_none,show(1:Int) > 0 by decide,if_true]
   by_cases h:i < 0
   ·simp only[h,if_true] <;> omega
   ·simp only[h,if_false] <;> omega
theorem aBV(its:List Value)(lo hi:Option Int):slicePick its.toArray lo hi none=((its.drop (HT.lH its.length 0 lo)).take (HT.lH its.length its.length hi - HT.lH its.length 0 lo)).toArray:=by
 obtain⟨h1,h2,h3⟩:=aDa lo hi its.toArray.size
 unfold slicePick
 rw[h1,h2,h3]
 simp only[sliceRange_one,pick_run,jV] <;> rfl
def aOy(K:W.Frag):V->Option Int->Option Int->Hp->VK->Prop:=λx lo hi H Q=>∃a xs,x=.ref a/\bU K H a xs/\∀p,H p=none->Q (.ref p) (upd H p (.lst (lP xs lo hi)))
theorem aKH:SlR X (aOy X.K):=by
 intro pins s σ H x v vl vu lo hi sl Q I rx hs pl pu h
 obtain⟨a,xs,rfl,hx,q⟩:=h
 cases rx
 obtain⟨its,r,ht,hz⟩:=I.list hx
 have hlen:=r.length
 refine⟨"list",_,slot_list_getitem.lookup,ht.isList.typeIs,?_⟩
 refine wpAny_getItem_list_slice ht.isList hs pl pu .none (by simp) ?_ (by rw[jV] <;> omega)
 rw[aBV,<-hlen]
 refine⟨.ref s.heap.objs.size,_,I.laid (t':=s.toks) (o:=.lst (lP xs lo hi)) (λb ob q=>lV _ q) (dQ _) ?_,rfl,q _ (I.hok.fresh (dQ _))⟩
 exact⟨zK (eV xs lo hi) hz,_,0,(r.drop (HT.lH xs.length 0 lo)).take (HT.lH xs.length xs.length hi - HT.lH xs.length 0 lo),sN _ rfl⟩
def lI:V->Bool
 |.non=>true
 |.bl _=>true
 |.int _=>true
 |.str _=>true
 |_=>false
def eqV:V->V->Bool
 |.non,.non=>true
 |.bl a,.bl b=>a == b
 |.bl a,.int b=>(if a then 1 else 0) == b
 |.int a,.bl b=>a == (if b then 1 else 0)
 |.int a,.int b=>a == b
 |.str a,.str b=>a == b
 |_,_=>false
theorem aIv{A:Around}{s:Shared}{y x:V}{u v:Value}(ry:RelV y u)(rx:RelV x v)(fy:lI y=true)(fx:lI x=true):SeqAt.EqAt A s u v (eqV y x):=by
 cases y with
 |non=>
  cases ry
  cases x with
  |non=>cases rx;exact SeqAt.EqAt.same _
  |bl b=>cases rx;exact SeqAt.EqAt.none_bool b
  |int b=>obtain⟨t,rfl⟩:=rx;exact SeqAt.EqAt.none_int b t
  |str b=>obtain⟨t,rfl⟩:=rx;exact SeqAt.EqAt.none_str b t
  |_=>exact absurd (show false=true from fx) zH
 |bl a=>
  cases ry
  cases x with
  |non=>cases rx;exact SeqAt.EqAt.bool_none a
  |bl b=>cases rx;exact SeqAt.EqAt.bool_bool a b
  |int b=>obtain⟨t,rfl⟩:=rx;exact SeqAt.EqAt.bool_int a b t
  |str b=>obtain⟨t,rfl⟩:=rx;exact SeqAt.EqAt.bool_str a b t
  |_=>exact absurd (show false=true from fx) zH
 |int a=>
  obtain⟨t',rfl⟩:=ry
  cases x with
  |non=>cases rx;exact SeqAt.EqAt.int_none a t'
  |bl b=>cases rx;exact SeqAt.EqAt.int_bool a t' b
  |int b=>obtain⟨t,rfl⟩:=rx;exact SeqAt.EqAt.int_int a t' b t
  |str b=>obtain⟨t,rfl⟩:=rx;exact SeqAt.EqAt.int_str a t' b t
  |_=>exact absurd (show false=true from fx) zH
 |str a=>
  obtain⟨t',rfl⟩:=ry
  cases x with
  |non=>cases rx;exact SeqAt.EqAt.str_none a t'
  |bl b=>cases rx;exact SeqAt.EqAt.str_bool a t' b
  |int b=>obtain⟨t,rfl⟩:=rx;exact SeqAt.EqAt.str_int a t' b t
  |str b=>obtain⟨t,rfl⟩:=rx;exact SeqAt.EqAt.str_str a t' b t
  |_=>exact absurd (show false=true from fx) zH
 |_=>exact absurd (show false=true from fy) zH
theorem aDb:eJ X (.type "list") (λxs H Q=>∃p ys,xs=[.ref p]/\(bU X.K H p ys\/iY X.K H p ys)/\∀l,H l=none->Q (.ref l) (upd H l (.lst ys))):=by
 intro pins s σ H xs us Q I r h
 obtain⟨p,ys,rfl,hq,q⟩:=h
 obtain⟨u,rfl,rx⟩:=vals1 r
 cases rx
 have fin:∀(its:List Value),Vals ys its->ys.length<=sizeLine->∀(h':Heap) (c':Nat),(∀b o',s.heap.get? b=some o'->h'.get? b=some o')->
   h'.get? s.heap.objs.size=some { cls:=.type "list",dict:=none,data:=.seq its.toArray c',slots:=#[] }->EP X pins σ Q (.ref s.heap.objs.size) { s with heap:=h' }:=λits r' hz h' c' kp e=>
  ⟨.ref s.heap.objs.size,_,I.laid (t':=s.toks) kp (dQ _) (show cA X.prog X.w _ h' _ (.lst ys) from⟨hz,its,c',r',e⟩),rfl,q _ (I.hok.fresh (dQ _))⟩
 rcases hq with hq|hq
 ·obtain⟨its,r',pl,hz⟩:=I.list hq
  have hlen:=r'.length
  obtain⟨o,ho,hc,n,hd⟩:=pl.isList
  exact call_list_seq p (.inl rfl) ho hc hd (λh' c' kp e=>fin its r' hz h' c' kp e) (by simp only[jV] <;> omega)
 ·obtain⟨its,r',pl,hz⟩:=I.tuple hq
  have hlen:=r'.length
  obtain⟨o,ho,hc,n,hd⟩:=pl
  exact call_list_seq p (.inr rfl) ho hc hd (λh' c' kp e=>fin its r' hz h' c' kp e) (by simp only[jV] <;> omega)
def tyV(K:W.Frag)(T:String)(x:V)(H:Hp):Prop:=match x with
 |.str _=>T = "str"
 |.int _=>T = "int"
 |.ref p=>(T = "list"/\∃xs,bU K H p xs)\/(T = "tuple"/\∃o,K.lookup p=some o/\o.cls=.type "tuple"/\o.dict=none)\/
   (T = "dict"/\((∃kvs,H p=some (.dK kvs))\/∃kvs,H p=some (.dT kvs)))\/(T = "set"/\∃S n,H p=some (.set S n))
 |_=>False
theorem aIw{pins:List (Addr×Obj)}{σ:St}{H:Hp}{s:Shared}{T:String}{x:V}{v:Value}(I:Inv X pins σ H s)(r:RelV x v)(ty:tyV X.K T x H) :
  s.TypeIs v T/\∀a,v=.ref a->∃ob,s.heap.get? a=some ob/\ob.dict=none:=by
 cases x with
 |str z=>
  obtain⟨t,rfl⟩:=r
  cases (show T = "str" from ty)
  exact⟨typeIs_str s z t,λ_ e=>nomatch e⟩
 |int i=>
  obtain⟨t,rfl⟩:=r
  cases (show T = "int" from ty)
  exact⟨typeIs_int s i t,λ_ e=>nomatch e⟩
 |ref p=>
  cases r
  rcases ty with ⟨rfl,xs,hq⟩|⟨rfl,o,hk,hc,hd⟩|⟨rfl,hk⟩|⟨rfl,S,n,hk⟩
  ·obtain⟨its,_,pl,_⟩:=I.list hq
   refine⟨pl.isList.typeIs,λa e=>?_⟩
   cases e
   obtain⟨o,n,e,c,hd,_⟩:=pl
   exact⟨o,e,hd⟩
  ·refine⟨⟨o,I.yO p o hk,hc⟩,λa e=>?_⟩
   cases e
   exact⟨o,I.yO _ o hk,hd⟩
  ·have z:∃o,s.heap.get? p=some o/\o.ExactDict:=by
    rcases hk with ⟨kvs,hk⟩|⟨kvs,hk⟩
    ·obtain⟨_,_,_,_,o,_,_,e,ex,_⟩:=I.hok p _ hk
     exact⟨o,e,ex⟩
    ·obtain⟨_,_,_,_,o,_,_,e,ex,_⟩:=I.hok p _ hk
     exact⟨o,e,ex⟩
   obtain⟨o,e,ex⟩:=z
   refine⟨⟨o,e,ex.1⟩,λa e2=>?_⟩
   cases e2
   exact⟨o,e,ex.2.1⟩
  ·obtain⟨o,_,_,_,e,ex,_⟩:=I.hok p _ hk
   refine⟨⟨o,e,ex.1⟩,λa e2=>?_⟩
   cases e2
   exact⟨o,e,ex.2.1⟩
 |_=>exact False.elim ty
def aKI(K:W.Frag)(T:String)(r:V->List V->Hp->VK->Prop)(to:TE):TE:=λσ H Q=>to σ H λx H1=>tyV K T x H1/\r x [] H1 Q
def tBM(K:W.Frag)(T:String)(r:V->List V->Hp->VK->Prop)(to:TE)(t:TA):TE:=λσ H Q=>to σ H λx H1=>tyV K T x H1/\t σ H1 λxs H2=>r x xs H2 Q
variable{o e:Expr}{es:List Expr}{to:TE}{t:TA}{name:Str}{apos cpos:Pos}{T id:String}{r:V->List V->Hp->VK->Prop}
theorem aMO(pa:PlainAttrs T)(slot:Slot T name id)(hty:typeOf (.builtin id)=pure (.type "method_descriptor"))(hm:MtR X id r)(ho:PE X o to)
  (hbase:attributeBase o name X.env (eval o X.env)=eval o X.env:=by rfl) (hline:(apos.endLine == cpos.line)=true:=by rfl):PE X (.Call (.Attribute o name apos) [] [] cpos) (aKI X.K T r to):=by
 intro pins s σ H Q I h
 refine wpAny_Call_method0_late hbase hline (dG (ho pins s σ H _ I h) λv s1 ⟨x,H1,I1,r1,ty,q1⟩=>?_)
 obtain⟨h1,h2⟩:=aIw I1 r1 ty
 exact⟨T,id,pa,slot,hty,h1,h2,Calls.callWith_builtin rfl (PySem.evalArgs_none (hm pins s1 σ H1 x [] v [] Q I1 r1 .nil q1))⟩
theorem aIx(pa:PlainAttrs T)(slot:Slot T name id)(hty:typeOf (.builtin id)=pure (.type "method_descriptor"))(hm:MtR X id r)(ho:PE X o to)(ha:PA X (e::es) t)
  (hbase:attributeBase o name X.env (eval o X.env)=eval o X.env:=by rfl)
  (hfew:((backTo cpos (starEach (e::es) X.env)).all (λx=>!x.1) && (backToKw cpos (keywordEach [] X.env)).all (λx=>x.1.isSome)
   && decide ((e::es).length+([]:List Keyword).length+(if ([]:List Keyword).isEmpty then 0 else 1) < 30))=true:=by rfl)
  (hline:(apos.endLine == cpos.line)=true:=by rfl) (hs:starEach (e::es) X.env=(false,eval e X.env)::starEach es X.env:=by rfl) (hplain:(backTo cpos (starEach es X.env)).any (·.1)=false:=by rfl) :
  PE X (.Call (.Attribute o name apos) (e::es) [] cpos) (tBM X.K T r to t):=by
 intro pins s σ H Q I h
 refine wpAny_Call_method_late hbase hfew hline rfl (dG (ho pins s σ H _ I h) λv s1 ⟨x,H1,I1,r1,ty,q1⟩=>?_)
 obtain⟨h1,h2⟩:=aIw I1 r1 ty
 refine⟨T,id,pa,slot,hty,h1,h2,?_⟩
 have hA:=ha cpos pins s1 σ H1 _ I1 q1
 rw[hs] at hA ⊢
 refine Calls.callWith_builtin (by show(false || (backTo cpos (starEach es X.env)).any (·.1))=false;rw[hplain] <;> rfl) (Calls.evalArgs_plain ?_)
 exact dG hA λus s2 ⟨vs,H2,I2,r2,q2⟩=>hm pins s2 σ H2 x vs v us Q I2 r1 r2 q2
end
end L2
namespace L2
open PySem PySem.Spec PyProof.Rows
def MtM(X:Cx)(id:String)(r:V->List V->Hp->VK->Prop):Prop:=
 ∀(pins:List (Addr×Obj)) (s:Shared) (σ:St) (H:Hp) (x:V) (xs:List V) (v:Value) (us:List Value) (Q:VK),Inv X pins σ H s->RelV x v->Vals xs us->r x xs H Q->
  wpAny (model X.prog X.w) X.A (call (.builtin id) (v::us)) (EP X pins σ Q) X.xe s
theorem Vals.one:∀{x:V}{us:List Value},Vals [x] us->∃u,us=[u]/\RelV x u
 |_,_,.cons r .nil=>⟨_,rfl,r⟩
theorem Vals.zero:∀{us:List Value},Vals [] us->us=[]
 |_,.nil=>rfl
theorem Vals.dropLast{xs:List V}{us:List Value}(h:Vals xs us):Vals xs.dropLast us.dropLast:=by
 induction h with
 |nil=>exact .nil
 |cons r t ih=>
  cases t with
  |nil=>exact .nil
  |cons q t'=>exact .cons r ih
theorem Vals.eraseIdx:∀{xs:List V}{us:List Value}(i:Nat),Vals xs us->Vals (xs.eraseIdx i) (us.eraseIdx i)
 |_,_,_,.nil=>.nil
 |_,_,0,.cons _ t=>t
 |_,_,i+1,.cons r t=>.cons r (Vals.eraseIdx i t)
theorem Vals.reverse{xs:List V}{us:List Value}(h:Vals xs us):Vals xs.reverse us.reverse:=by
 induction h with
 |nil=>exact .nil
 |cons r t ih=>rw[List.reverse_cons,List.reverse_cons];exact Vals.append ih (.cons r .nil)
theorem Vals.rep{xs:List V}{us:List Value}(h:Vals xs us):∀k:Nat,Vals (List.replicate k xs).flatten (List.replicate k us).flatten
 |0=>.nil
 |k+1=>by
  rw[Sq9,Sq9,Ua9,Ua9]
  exact Vals.append h (Vals.rep h k)
theorem aFx{α:Type}(l:List α):l.eraseIdx (l.length - 1)=l.dropLast:=by
 induction l with
 |nil=>rfl
 |cons a r ih=>
  cases r with
  |nil=>rfl
  |cons b r=>
   have e:(a::b::r).length - 1=((b::r).length - 1)+1:=by
    have h1:(a::b::r).length=r.length+2:=rfl
    have h2:(b::r).length=r.length+1:=rfl
    omega
   rw[e,List.eraseIdx_cons_succ,ih]
   all_goals rfl
theorem aCD{α:Type}:∀(l:List α) (i:Nat),(l.eraseIdx i).length<=l.length
 |[],_=>dQ _
 |_::_,0=>Uk9 _
 |_::r,i+1=>Nat.succ_le_succ (aCD r i)
theorem foldl_rep(its:List Value):∀(k:Nat) (acc:List Value),
  List.foldl (λx1 x2=>x1++x2) acc.toArray (List.replicate k its.toArray)=(acc++(List.replicate k its).flatten).toArray
 |0,acc=>by simp
 |k+1,acc=>by
  have e:acc.toArray++its.toArray=(acc++its).toArray:=by simp
  have e2:(acc++its)++(List.replicate k its).flatten=acc++(List.replicate (k+1) its).flatten:=by
   rw[Sq9,Ua9,Sz9]
  rw[<-e2,<-foldl_rep its k (acc++its),<-e,Sq9,List.foldl_cons]
section
variable{X:Cx}{pins:List (Addr×Obj)}{σ:St}{H:Hp}{s:Shared}{l b:Addr}{xs ys zs:List V}
theorem Inv.aMP{its its':List Value}{n:Nat}{f:Array Value->Array Value}{t':Nat}(I:Inv X pins σ H s)(hH:H l=some (.lst xs))
  (e:s.heap.get? l=some { cls:=.type "list",data:=.seq its.toArray n }) (hf:f its.toArray=its'.toArray) (hv:Vals ys its') (hz:ys.length<=sizeLine) :
  Inv X pins σ (upd H l (.lst ys)) { s with heap:=s.heap.update l (Obj.mapSeq f),toks:=t' }:=by
 have q:=PySem.IsL.update e f
 rw[hf] at q
 refine I.write (x:=l) (e:=l) (by rw[hH];exact trivial) (.inl rfl) (λb' u hb hu=>(Heap.get?_update_other s.heap (Obj.mapSeq f) (Ne.symm hb)).trans hu) ⟨_,q⟩ ?_
 exact⟨hz,its',_,hv,q⟩
theorem Inv.aOz{its:List Value}{t':Nat}(I:Inv X pins σ H s)(hv:Vals ys its)(hz:ys.length<=sizeLine) :
  Inv X pins σ (upd H s.heap.objs.size (.lst ys)) { s with heap:=s.heap.push { cls:=.type "list",data:=.seq its.toArray },toks:=t' }:=
 I.laid (λ_ _ q=>lV _ q) (dQ _) ⟨hz,its,0,hv,sN _ rfl⟩
theorem Inv.fresh(I:Inv X pins σ H s):H s.heap.objs.size=none:=I.hok.fresh (dQ _)
theorem Inv.aEo(I:Inv X pins σ H s)(hH:H l=some (.lst xs)):xs.length<=sizeLine/\∃(its:List Value) (n:Nat),Vals xs its/\xs.length=its.length/\s.heap.get? l=some { cls:=.type "list",data:=.seq its.toArray n }:=by
 obtain⟨z,its,n,r,e⟩:=I.hok l _ hH
 exact⟨z,its,n,r,r.length,e⟩
theorem aIy{n:Nat}(h:n<=sizeLine):Builtin.List.listTooLong n=false:=by
 unfold Builtin.List.listTooLong
 exact decide_eq_false (by omega)
end
section
variable{X:Cx}
def aAE:V->List V->Hp->VK->Prop:=λx vs H Q=>∃l xs y,x=.ref l/\vs=[y]/\H l=some (.lst xs)/\xs.length < sizeLine/\Q .non (upd H l (.lst (xs ++ [y])))
theorem aHg:MtM X "list.append" aAE:=by
 intro pins s σ H x vs v us Q I rx rv h
 obtain⟨l,xs,y,rfl,rfl,hH,hz,q⟩:=h
 cases rx
 obtain⟨u,rfl,ru⟩:=rv.one
 obtain⟨z,its,n,r,hl,e⟩:=I.aEo hH
 refine call_meets F.slot_list_append ⟨_,e,rfl⟩ F.entry_list_append (F.args_list_append_2 _ _) (PySem.list_append l its.toArray n u (by rw[jV];omega)) ⟨e,?_⟩
 refine⟨.non,_,I.aMP (its':=its ++ [u]) hH e (by simp) (r.append (.cons ru .nil)) ?_,rfl,q⟩
 rw[sO,Se9]
 omega
def aKJ:V->List V->Hp->VK->Prop:=λx vs H Q=>∃l xs y,x=.ref l/\vs=[]/\H l=some (.lst xs)/\xs[xs.length - 1]?=some y/\Q y (upd H l (.lst xs.dropLast))
theorem aMQ:MtM X "list.pop" aKJ:=by
 intro pins s σ H x vs v us Q I rx rv h
 obtain⟨l,xs,y,rfl,rfl,hH,hy,q⟩:=h
 cases rx
 have hus:=rv.zero
 subst hus
 obtain⟨z,its,n,r,hl,e⟩:=I.aEo hH
 obtain⟨u,hu,ru⟩:=r.get hy
 have hy':its.toArray[its.toArray.size - 1]?=some u:=by
  show its.toArray[its.length - 1]?=some u
  rw[<-Ra9,<-hl]
  exact hu
 refine call_meets F.slot_list_pop ⟨_,e,rfl⟩ F.entry_list_pop (F.args_list_pop_1 _) (MeetsSeq.list_pop_last l its.toArray n u hy' (by rw[jV];omega)) ⟨e,?_⟩
 refine⟨y,_,I.aMP (its':=its.dropLast) hH e ?_ r.dropLast ?_,ru,q⟩
 ·show its.toArray.eraseIdxIfInBounds (its.toArray.size - 1)=its.dropLast.toArray
  rw[jV,List.eraseIdxIfInBounds_toArray,aFx]
 ·rw[List.length_dropLast]
  omega
def aDc:V->List V->Hp->VK->Prop:=λx vs H Q=>∃l xs i k y,x=.ref l/\vs=[.int i]/\H l=some (.lst xs)/\-(2 ^ 63)<=i/\i < 2 ^ 63/\seqIndex? i xs.length=some k/\xs[k]?=some y/\Q y (upd H l (.lst (xs.eraseIdx k)))
theorem aIz:MtM X "list.pop" aDc:=by
 intro pins s σ H x vs v us Q I rx rv h
 obtain⟨l,xs,i,k,y,rfl,rfl,hH,h1,h2,hk,hy,q⟩:=h
 cases rx
 obtain⟨u,rfl,ru⟩:=rv.one
 obtain⟨t,rfl⟩:=ru
 obtain⟨z,its,n,r,hl,e⟩:=I.aEo hH
 obtain⟨w,hw,rw'⟩:=r.get hy
 refine call_meets F.slot_list_pop ⟨_,e,rfl⟩ F.entry_list_pop (F.args_list_pop_2 _ _)
  (MeetsSeq.list_pop_at l its.toArray n i t k w (fitsIndex_both h1 h2) (by rw[jV,<-hl];exact hk) (by rw[<-Ra9];exact hw) (by rw[jV];omega)) ⟨e,?_⟩
 refine⟨y,_,I.aMP (its':=its.eraseIdx k) hH e ?_ (r.eraseIdx k) ?_,rw',q⟩
 ·show its.toArray.eraseIdxIfInBounds k=(its.eraseIdx k).toArray
  rw[List.eraseIdxIfInBounds_toArray]
 ·have:=aCD xs k
  omega
def aOA:R2:=λx y H Q=>∃l b xs zs,x=.ref l/\y=.ref b/\H l=some (.lst xs)/\H b=some (.lst zs)/\xs.length+zs.length<=sizeLine/\∀p,H p=none->Q (.ref p) (upd H p (.lst (xs++zs)))
theorem aMR:rZ X (binaryOp .Add) aOA:=by
 intro pins s σ H x y v u Q I rx ry h
 obtain⟨l,b,xs,zs,rfl,rfl,hH,hB,hz,q⟩:=h
 cases rx
 cases ry
 obtain⟨z,its,n,r,hl,e⟩:=I.aEo hH
 obtain⟨z2,its2,n2,r2,hl2,e2⟩:=I.aEo hB
 refine PySem.P.add_list e e2 ?_ (by rw[jV,jV];omega)
 have ea:its.toArray++its2.toArray=(its++its2).toArray:=by simp
 rw[ea]
 exact⟨.ref _,_,I.aOz (t':=s.toks) (r.append r2) (by rw[sO];omega),rfl,q _ I.fresh⟩
def aOB:R2:=λx y H Q=>∃l k xs,x=.ref l/\y=.int k/\H l=some (.lst xs)/\-(2 ^ 63)<=k/\k < 2 ^ 63/\xs.length*k.toNat<=sizeLine/\
 ∀p,H p=none->Q (.ref p) (upd H p (.lst (List.replicate k.toNat xs).flatten))
theorem len_rep{α:Type}(xs:List α)(k:Nat):(List.replicate k xs).flatten.length=k*xs.length:=by
 induction k with
 |zero=>simp
 |succ k ih=>rw[Sq9,Ua9,sO,ih,Nat.succ_mul,Nat.add_comm]
theorem aMS:rZ X (binaryOp .Mult) aOB:=by
 intro pins s σ H x y v u Q I rx ry h
 obtain⟨l,k,xs,rfl,rfl,hH,h1,h2,hz,q⟩:=h
 cases rx
 obtain⟨t,rfl⟩:=ry
 obtain⟨z,its,n,r,hl,e⟩:=I.aEo hH
 have hlen:its.toArray.size*k.toNat<=sizeLine:=by rw[jV,<-hl];exact hz
 have hcap:¬its.toArray.size*k.toNat > (2 ^ 63 - 1) / 8:=by
  have:(sizeLine:Nat)<=(2 ^ 63 - 1) / 8:=by decide
  omega
 have hfit:¬(!Builtin.List.listFitsIndex k)=true:=by
  rw[fitsIndex_both h1 h2]
  exact zH
 have hlong:¬Builtin.List.listTooLong (its.toArray.size*k.toNat)=true:=by
  rw[aIy hlen]
  exact zH
 have hnew:List.foldl (λx1 x2=>x1++x2) #[] (List.replicate (if its.toArray.isEmpty=true then 0 else k.toNat) its.toArray)=(List.replicate k.toNat its).flatten.toArray:=by
  have f0:∀m:Nat,List.foldl (λx1 x2=>x1++x2) #[] (List.replicate m its.toArray)=(List.replicate m its).flatten.toArray:=λm=>by
   have:=foldl_rep its m []
   rw[List.nil_append] at this
   exact this
  rw[f0]
  cases its with
  |nil=>simp
  |cons a r'=>rw[if_neg (by simp)]
 refine wpAny_binaryOp_repeat_ref (T:="list") (U:="int") (by decide) ⟨_,e,rfl⟩ (λs'=>typeIs_int s' k t) noFill_list_mul F.fills_int_mul F.slot_int_rmul repeat_list F.slot_int_index.lookup
  (call_meets F.slot_int_rmul (typeIs_int s k t) F.entry_int_rmul (F.args_int_rmul_2 _ _) (int___rmul___int_list k t l its.toArray n)
   ⟨e,rfl,⟨_,e,rfl⟩,call_meets F.slot_list_mul ⟨_,e,rfl⟩ F.entry_list_mul (F.args_list_mul_2 _ _) (AutoListH.list___mul___list_int_3 l its.toArray n k t hfit hcap hlong) ⟨e,?_⟩⟩)
 rw[hnew]
 exact⟨.ref _,_,I.aOz (t':=s.toks) (r.rep k.toNat) (by rw[len_rep,Nat.mul_comm];exact hz),rfl,q _ I.fresh⟩
end
section
variable{prog:Program}{w:World}{A:Around}{E:Value->Shared->Prop}{s:Shared}
end
section
variable{X:Cx}
end
end L2
namespace L2
open PySem PySem.Spec PyProof.Rows
section
variable{κ:Type}[DecidableEq κ]
def pR(kvs:List (κ×V))(k:κ):Option V:=(kvs.find? λkv=>decide (kv.1=k)).map (·.2)
def putK(kvs:List (κ×V))(k:κ)(v:V):List (κ×V):=
 if (kvs.any λkv=>decide (kv.1=k))=true then kvs.map (λkv=>if kv.1=k then (kv.1,v) else kv) else kvs ++ [(k,v)]
theorem lJ{p:κ×V}{r:List (κ×V)}{k:κ}(e:p.1=k):pR (p::r) k=some p.2:=by simp[pR,Sr9,e]
theorem i0{p:κ×V}{r:List (κ×V)}{k:κ}(e:¬p.1=k):pR (p::r) k=pR r k:=by simp[pR,Sr9,e]
theorem xF(k:κ):∀kvs:List (κ×V),(kvs.any λkv=>decide (kv.1=k))=(pR kvs k).isSome
 |[]=>rfl
 |p::r=>by
  rw[List.any_cons]
  by_cases e:p.1=k
  ·simp only[lJ e,decide_eq_true e,Bool.true_or,Option.isSome_some]
  ·rw[i0 e,decide_eq_false e,Bool.false_or];exact xF k r
theorem sV(k j:κ)(y:V):∀kvs:List (κ×V),pR (kvs.map λkv=>if kv.1=k then (kv.1,y) else kv) j=(pR kvs j).map λx=>if j=k then y else x
 |[]=>rfl
 |p::r=>by
  have ih:=sV k j y r
  rw[Rg9]
  by_cases h:p.1=k
  ·rw[if_pos h]
   by_cases e:p.1=j
   ·rw[lJ (p:=(p.1,y)) e,lJ e,Option.map_some,if_pos (e.symm.trans h)]
   ·rw[i0 (p:=(p.1,y)) e,i0 e,ih]
  ·rw[if_neg h]
   by_cases e:p.1=j
   ·rw[lJ (p:=p) e,lJ e,Option.map_some,if_neg (λz=>h (e.trans z))]
   ·rw[i0 (p:=p) e,i0 e,ih]
theorem iQ(kvs:List (κ×V))(k:κ)(v:V):(putK kvs k v).length<=kvs.length+1:=by
 unfold putK
 split
 ·rw[cD];omega
 ·rw[sO,yM,Tw9];omega
theorem aAS{kvs:List (κ×V)}{k:κ}(v:V)(h:pR kvs k=none):putK kvs k v=kvs ++ [(k,v)]:=by
 unfold putK
 rw[xF,h]
 exact if_neg (by decide)
theorem sI.pT{o:Option V}{u:Option Value}(r:sI o u):o.isSome=u.isSome:=by
 cases o with
 |none=>cases u with
  |none=>rfl
  |some _=>exact(show False from r).elim
 |some _=>cases u with
  |none=>exact(show False from r).elim
  |some _=>rfl
theorem sI.getD{o:Option V}{u:Option Value}{d:V}{d':Value}(r:sI o u)(rd:RelV d d'):RelV (o.getD d) (u.getD d'):=by
 cases o with
 |none=>cases u with
  |none=>exact rd
  |some _=>exact(show False from r).elim
 |some _=>cases u with
  |none=>exact(show False from r).elim
  |some _=>exact r
theorem KV.val{kvs:List (κ×V)}{vs:List (κ×Value)}(r:KV kvs vs)(k:κ):sI (pR kvs k) (valueAt vs k):=by
 unfold KV at r
 induction r with
 |nil=>exact True.intro
 |@cons p q ps qs h t ih=>
  obtain⟨h1,h2⟩:=h
  by_cases e:p.1=k
  ·have e':q.1=k:=h1.symm.trans e
   have b:valueAt (q::qs) k=some q.2:=by simp[valueAt,Sr9,e']
   rw[lJ e,b];exact h2
  ·have e':¬q.1=k:=λz=>e (h1.trans z)
   have b:valueAt (q::qs) k=valueAt qs k:=by simp[valueAt,Sr9,e']
   rw[i0 e,b];exact ih
theorem KV.any{kvs:List (κ×V)}{vs:List (κ×Value)}(r:KV kvs vs)(k:κ):(kvs.any λkv=>decide (kv.1=k))=vs.any λkv=>decide (kv.1=k):=by
 unfold KV at r
 induction r with
 |nil=>rfl
 |cons h t ih=>rw[List.any_cons,List.any_cons,ih,h.1]
theorem KV.aMT{kvs:List (κ×V)}{vs:List (κ×Value)}(r:KV kvs vs)(k:κ){y:V}{u:Value}(ry:RelV y u) :
  KV (kvs.map λkv=>if kv.1=k then (kv.1,y) else kv) (vs.map λkv=>if kv.1=k then (kv.1,u) else kv):=by
 unfold KV at r ⊢
 induction r with
 |nil=>exact .nil
 |@cons p q ps qs h t ih=>
  rw[Rg9,Rg9]
  refine .cons ?_ ih
  obtain⟨h1,h2⟩:=h
  by_cases e:p.1=k
  ·rw[if_pos e,if_pos (h1.symm.trans e)];exact⟨h1,ry⟩
  ·rw[if_neg e,if_neg (λz=>e (h1.trans z))];exact⟨h1,h2⟩
theorem KV.put{kvs:List (κ×V)}{vs:List (κ×Value)}(r:KV kvs vs)(k:κ){y:V}{u:Value}(ry:RelV y u):KV (putK kvs k y) (stored vs k u):=by
 unfold putK stored
 rw[r.any k]
 by_cases e:(vs.any λkv=>decide (kv.1=k))=true
 ·rw[if_pos e,if_pos e];exact r.aMT k ry
 ·rw[if_neg e,if_neg e];exact Paired.snoc r ⟨rfl,ry⟩
theorem KV.length{kvs:List (κ×V)}{vs:List (κ×Value)}(r:KV kvs vs):kvs.length=vs.length:=Paired.length r
end
theorem aAT{P:Program}{w:World}{k:Key}{u:Value}(r:RelV (kV k) u):(bX P w).is k u=true:=by
 cases k with
 |inl i=>obtain⟨t,e⟩:=(show ∃t,u=Value.int i t from r);subst e;exact aEd P w i t
 |inr x=>obtain⟨t,e⟩:=(show ∃t,u=Value.str x t from r);subst e;exact aEe P w x t
theorem aCE{P:Program}{w:World}:∀{ks:List Key}{us:List Value},Vals (ks.map kV) us->ItemsAre (bX P w) ks us
 |[],_,r=>by rw[List.map_nil] at r;cases r;exact .nil
 |k::ks,_,r=>by
  rw[Rg9] at r
  cases r with
  |cons h t=>exact .cons (aAT h) (aCE t)
abbrev KT(H:Hp):List (List Key×V)->List (List Key×Addr×Value)->Prop:=Paired λp q=>p.1=q.1/\H q.2.1=some (.tup (p.1.map kV))/\RelV p.2 q.2.2
theorem KT.val{H:Hp}{kvs:List (List Key×V)}{xs:List (List Key×Addr×Value)}(r:KT H kvs xs)(k:List Key):sI (pR kvs k) ((atKey xs k).map (·.2)):=by
 induction r with
 |nil=>exact True.intro
 |@cons p q ps qs h t ih=>
  obtain⟨h1,_,h2⟩:=h
  by_cases e:p.1=k
  ·have e':q.1=k:=h1.symm.trans e
   have b:atKey (q::qs) k=some q.2:=by simp[atKey,Sr9,e']
   rw[lJ e,b];exact h2
  ·have e':¬q.1=k:=λz=>e (h1.trans z)
   have b:atKey (q::qs) k=atKey qs k:=by simp[atKey,Sr9,e']
   rw[i0 e,b];exact ih
theorem KT.aMT{H:Hp}{kvs:List (List Key×V)}{xs:List (List Key×Addr×Value)}(r:KT H kvs xs)(k:List Key){y:V}{u:Value}(ry:RelV y u) :
  KT H (kvs.map λkv=>if kv.1=k then (kv.1,y) else kv) (xs.map (putAt k u)):=by
 induction r with
 |nil=>exact .nil
 |@cons p q ps qs h t ih=>
  rw[Rg9,Rg9]
  refine .cons ?_ ih
  obtain⟨h1,h2,h3⟩:=h
  unfold putAt
  by_cases e:p.1=k
  ·rw[if_pos e,if_pos (h1.symm.trans e)];exact⟨h1,h2,ry⟩
  ·rw[if_neg e,if_neg (λz=>e (h1.trans z))];exact⟨h1,h2,h3⟩
theorem KT.put{H:Hp}{kvs:List (List Key×V)}{xs:List (List Key×Addr×Value)}(r:KT H kvs xs)(k:List Key){b:Addr}{y:V}{u:Value}(hb:H b=some (.tup (k.map kV)))(ry:RelV y u) :
  KT H (putK kvs k y) (storedH xs k b u):=by
 have e:(kvs.any λkv=>decide (kv.1=k))=(atKey xs k).isSome:=by
  rw[xF,(r.val k).pT,Option.isSome_map]
 unfold putK storedH
 rw[e]
 by_cases q:(atKey xs k).isSome=true
 ·rw[if_pos q,if_pos q];exact r.aMT k ry
 ·rw[if_neg q,if_neg q];exact Paired.snoc r ⟨rfl,hb,ry⟩
theorem KT.keeps{H H':Hp}{kvs:List (List Key×V)}{xs:List (List Key×Addr×Value)}(r:KT H kvs xs)(ht:∀b ys,H b=some (.tup ys)->H' b=some (.tup ys)):KT H' kvs xs:=
 Paired.aL8 r λ_ _ z=>⟨z.1,ht _ _ z.2.1,z.2.2⟩
section
variable{P:Program}{w:World}{H:Hp}{h:Heap}{a:Addr}
theorem aLW{u:HO}(ok:sL P w H h)(e:Rd H a u):cA P w H h a u:=e.ok ok
theorem zO{kvs:List (Key×V)}(ok:sL P w H h)(e:Rd H a (.dK kvs)):kvs.length<=sizeLine/\(a == sysModules)=false/\∃vs,KV kvs vs/\h.DictOf (bX P w) a vs:=
 show cA P w H h a (.dK kvs) from aLW ok e
theorem aOC{kvs:List (Key×V)}(ok:sL P w H h)(e:H a=some (.dK kvs)):kvs.length<=sizeLine/\(a == sysModules)=false/\∃vs,KV kvs vs/\h.DictOf (bX P w) a vs:=zO ok (.inl e)
theorem sW{ks:List Key}(ok:sL P w H h)(e:H a=some (.tup (ks.map kV))):(tupleKind (bX P w)).is h ks a:=by
 obtain⟨_,its,r,o,h1,h2,n,h3⟩:=(show cA P w H h a (.tup (ks.map kV)) from ok a _ e)
 exact⟨o,its.toArray,n,h1,h2,h3,by simpa using aCE r⟩
theorem zP{kvs:List (List Key×V)}(ok:sL P w H h)(e:Rd H a (.dT kvs)):kvs.length<=sizeLine/\(a == sysModules)=false/\
  ∃xs,KT H kvs xs/\h.DictOfH (tupleKind (bX P w)) a xs:=by
 obtain⟨z,y,xs,r,o,es,ep,h1,h2,h3,h4,h5⟩:=(show cA P w H h a (.dT kvs) from aLW ok e)
 refine⟨z,y,xs,r,o,es,ep,h1,h2,h3,h4,λx hx=>?_,h5⟩
 have all:∀{l:List (List Key×V)} {m:List (List Key×Addr×Value)},KT H l m->∀x∈m,(tupleKind (bX P w)).is h x.1 x.2.1:=by
  intro l m q
  induction q with
  |nil=>intro x hx;exact nomatch hx
  |@cons p q ps qs hq t ih=>
   intro x hx
   rcases lW.mp hx with e|hx
   ·subst e
    exact sW ok (by rw[<-hq.1];exact hq.2.1)
   ·exact ih x hx
 exact all r x hx
theorem aEp{kvs:List (List Key×V)}(ok:sL P w H h)(e:H a=some (.dT kvs)):kvs.length<=sizeLine/\(a == sysModules)=false/\
  ∃xs,KT H kvs xs/\h.DictOfH (tupleKind (bX P w)) a xs:=zP ok (.inl e)
end
def hU(H:Hp)(a:Addr)(y:V)(r:Option V):Prop:=
 (∃kvs k,Rd H a (.dK kvs)/\y=kV k/\r=pR kvs k)\/∃kvs k b,Rd H a (.dT kvs)/\y=.ref b/\H b=some (.tup (k.map kV))/\r=pR kvs k
def aBW(H:Hp)(a:Addr)(y v:V)(H':Hp):Prop:=
 (∃kvs k,H a=some (.dK kvs)/\y=kV k/\kvs.length < sizeLine/\H'=upd H a (.dK (putK kvs k v)))\/
 ∃kvs k b,H a=some (.dT kvs)/\y=.ref b/\H b=some (.tup (k.map kV))/\kvs.length < sizeLine/\H'=upd H a (.dT (putK kvs k v))
theorem hU.k{H:Hp}{a:Addr}{kvs:List (Key×V)}{k:Key}(e:H a=some (.dK kvs)):hU H a (kV k) (pR kvs k):=.inl ⟨kvs,k,.inl e,rfl,rfl⟩
theorem hU.t{H:Hp}{a b:Addr}{kvs:List (List Key×V)}{k:List Key}(e:H a=some (.dT kvs))(eb:H b=some (.tup (k.map kV))):hU H a (.ref b) (pR kvs k):=.inr ⟨kvs,k,b,.inl e,rfl,eb,rfl⟩
theorem aBW.k{H:Hp}{a:Addr}{kvs:List (Key×V)}{k:Key}{v:V}(e:H a=some (.dK kvs))(hl:kvs.length < sizeLine):aBW H a (kV k) v (upd H a (.dK (putK kvs k v))):=.inl ⟨kvs,k,e,rfl,hl,rfl⟩
theorem aBW.t{H:Hp}{a b:Addr}{kvs:List (List Key×V)}{k:List Key}{v:V}(e:H a=some (.dT kvs))(eb:H b=some (.tup (k.map kV)))(hl:kvs.length < sizeLine) :
  aBW H a (.ref b) v (upd H a (.dT (putK kvs k v))):=.inr ⟨kvs,k,b,e,rfl,eb,hl,rfl⟩
section
variable{X:Cx}{pins:List (Addr×Obj)}{σ:St}{H:Hp}{s:Shared}{a:Addr}{y v:V}{u r:Value}{o:Option V}{A:Around}{E:Value->Shared->Prop}
theorem Inv.big(I:Inv X pins σ H s):sysModules < s.heap.objs.size:=by
 have h:mainGlobals < s.heap.objs.size:=(I.mod.glob.keeps I.bk).lt
 exact Nat.lt_trans (by decide) h
theorem aHh{Q:Value->Shared->Prop}(hu:A.units+1 < cLine)(I:Inv X pins σ H s)(g:hU H a y (some v))(ry:RelV y u)(h:∀w' s',Inv X pins σ H s'->RelV v w'->Q w' s') :
  wpAny (model X.prog X.w) A (getItem (.ref a) u) Q E s:=by
 rcases g with ⟨kvs,k,e,ey,l⟩|⟨kvs,k,b,e,ey,eb,l⟩
 ·subst ey
  obtain⟨z,hd,vs,rel,dd⟩:=zO I.hok e
  obtain⟨w',hw,rw'⟩:=sI.some_of (v:=v) (o:=valueAt vs k) (by rw[l];exact rel.val k)
  exact wpAny_getItem_of (aAT ry) dd.mapOf hw (h w' _ (I.tok _) rw')
 ·subst ey
  cases (show u=Value.ref b from ry)
  obtain⟨z,hd,xs,rel,dd⟩:=zP I.hok e
  obtain⟨w',hw,rw'⟩:=sI.some_of (v:=v) (o:=(atKey xs k).map (·.2)) (by rw[l];exact rel.val k)
  obtain⟨p,hp,hp2⟩:=Qs9.mp hw
  refine wpAny_getItem_heap (tupleKind_room_in1 hu) (sW I.hok eb) dd hp ?_
  rw[hp2]
  exact h w' _ (I.tok _) rw'
theorem aPs{Q:Value->Shared->Prop}(hu:A.units+1 < cLine)(I:Inv X pins σ H s)(g:hU H a y o)(ry:RelV y u)(h:∀s',Inv X pins σ H s'->Q (.bool o.isSome) s') :
  wpAny (model X.prog X.w) A (compareOp .In u (.ref a)) Q E s:=by
 rcases g with ⟨kvs,k,e,ey,l⟩|⟨kvs,k,b,e,ey,eb,l⟩
 ·subst ey
  obtain⟨z,hd,vs,rel,dd⟩:=zO I.hok e
  refine wpAny_in_of (aAT ry) hd dd.mapOf ?_
  rw[<-(rel.val k).pT,<-l]
  exact h _ (I.tok _)
 ·subst ey
  cases (show u=Value.ref b from ry)
  obtain⟨z,hd,xs,rel,dd⟩:=zP I.hok e
  refine wpAny_in_heap (tupleKind_room_in1 hu) (sW I.hok eb) hd dd ?_
  have q:=(rel.val k).pT
  rw[Option.isSome_map] at q
  rw[<-q,<-l]
  exact h _ (I.tok _)
theorem aKK{Q:Value->Shared->Prop}(hu:A.units+1 < cLine)(I:Inv X pins σ H s)(g:hU H a y o)(ry:RelV y u)(h:∀s',Inv X pins σ H s'->Q (.bool (!o.isSome)) s') :
  wpAny (model X.prog X.w) A (compareOp .NotIn u (.ref a)) Q E s:=by
 rcases g with ⟨kvs,k,e,ey,l⟩|⟨kvs,k,b,e,ey,eb,l⟩
 ·subst ey
  obtain⟨z,hd,vs,rel,dd⟩:=zO I.hok e
  refine wpAny_notIn_of (aAT ry) hd dd.mapOf ?_
  rw[<-(rel.val k).pT,<-l]
  exact h _ (I.tok _)
 ·subst ey
  cases (show u=Value.ref b from ry)
  obtain⟨z,hd,xs,rel,dd⟩:=zP I.hok e
  refine wpAny_notIn_heap (tupleKind_room_in1 hu) (sW I.hok eb) hd dd ?_
  have q:=(rel.val k).pT
  rw[Option.isSome_map] at q
  rw[<-q,<-l]
  exact h _ (I.tok _)
theorem aDd{h':Heap}{t':Nat}{ob:HO}(I:Inv X pins σ H s)(mu:Mut (H a))(hs:Heap.SameBut a s.heap h')(he:∃q,h'.get? a=some q)(new:cA X.prog X.w (upd H a ob) h' a ob) :
  Inv X pins σ (upd H a ob) { s with heap:=h',toks:=t' }:=
 I.write (x:=a) (e:=a) mu (.inl rfl) (λb q hb z=>(hs.2 b hb).trans z) he new
theorem aMU{P:Program}{w:World}{H':Hp}{h':Heap}{kvs:List (Key×V)}{vs:List (Key×Value)}(z:kvs.length<=sizeLine)(hd:(a == sysModules)=false)(rel:KV kvs vs)(dd:h'.DictOf (bX P w) a vs) :
  cA P w H' h' a (.dK kvs):=⟨z,hd,vs,rel,dd⟩
theorem aHi{H':Hp}{Q:Unit->Shared->Prop}(hu:A.units+1 < cLine)(I:Inv X pins σ H s)(g:aBW H a y v H')(ry:RelV y u)(rv:RelV v r)(h:∀s',Inv X pins σ H' s'->Q () s') :
  wpAny (model X.prog X.w) A (setItem (.ref a) u r) Q E s:=by
 rcases g with ⟨kvs,k,e,ey,l,eH⟩|⟨kvs,k,b,e,ey,eb,l,eH⟩
 ·subst ey eH
  obtain⟨z,hd,vs,rel,dd⟩:=aOC I.hok e
  have hz:vs.length<=sizeLine:=by rw[<-rel.length];exact z
  have hl:(putK kvs k v).length<=sizeLine:=by have:=iQ kvs k v;omega
  refine wpAny_setItem_pairs (hsz:=hz) (aAT ry) dd λh' dd' hs=>h _ ?_
  have he:∃q,h'.get? a=some q:=let ⟨q,_,_,hq,_⟩:=dd';⟨q,hq⟩
  exact aDd I (by rw[e];exact True.intro) hs he (aMU hl hd (rel.put k rv) dd')
 ·subst ey eH
  cases (show u=Value.ref b from ry)
  obtain⟨z,hd,xs,rel,dd⟩:=aEp I.hok e
  have hz:xs.length<=sizeLine:=by rw[<-Paired.length rel];exact z
  have hl:(putK kvs k v).length<=sizeLine:=by have:=iQ kvs k v;omega
  refine wpAny_setItem_heap (hsz:=hz) (tupleKind_room_in1 hu) (sW I.hok eb) dd λh' dd' hs=>h _ ?_
  obtain⟨q,es,ep,hq,h2,h3,h4,_,h5⟩:=dd'
  refine aDd I (by rw[e];exact True.intro) hs ⟨q,hq⟩ ⟨hl,hd,_,(rel.put k eb rv).keeps λc ys ec=>?_,q,es,ep,hq,h2,h3,h4,h5⟩
  rw[bB (aLS ec e (λz=>nomatch z))]
  exact ec
end
section
variable{X:Cx}{pins:List (Addr×Obj)}{σ:St}{H:Hp}{s:Shared}{a:Addr}{kvs:List (Key×V)}{k:Key}{u:Value}{A:Around}{E:Value->Shared->Prop}
end
def aMV(i:Expr):Prop:=∀ov iv,subscripted i false ov iv=operate [ov,iv] (getItem ov iv)
theorem aKL{prog:Program}{w:World}{A:Around}{E:Value->Shared->Prop}{s:Shared}{env:Env}{value slice:Expr}{pos:Pos}{T id:String}{Q:Value->Shared->Prop}
  (hl:typeLookup (.type T) "__getitem__" = pure (some (.builtin id))) (hs:aMV slice)
  (h:wpAny (model prog w) A (eval value env) (λo s₁=>wpAny (model prog w) A (eval slice env) (λi s₂=>s₂.TypeIs o T/\wpAny (model prog w) A (getItem o i) Q E s₂) E s₁) E s) :
  wpAny (model prog w) A (eval (.Subscript value slice pos) env) Q E s:=by
 refine Subscript_ (wpAny_mono h (λo s₁ h₁=>wpAny_mono h₁ (λi s₂ h₂=>?_) λ_ _ x=>x) λ_ _ x=>x)
 obtain⟨hT,h₂⟩:=h₂
 unfold subscriptTail
 refine wpAny_bind ?_
 rw[getitemInPython_of_ne hT.not_modules]
 refine wpAny_bind (wpAny_specialOf hT hl ?_)
 have fin:wpAny (model prog w) A (subscripted slice false o i) (λr s₃=>wpAny (model prog w) A (letTemporaryGo value o r >>= λ_=>pure r) Q E s₃) E s₂:=by
  rw[hs o i]
  exact wpAny_operating (wpAny_mono h₂ (λr s₃ h₃=>wpAny_bind (wpAny_letTemporaryGo (wpAny_pure h₃))) λ_ _ x=>x)
 first
  |exact wpAny_pure (wpAny_bind fin)
  |exact wpAny_bind (wpAny_pure (wpAny_bind fin))
  |exact wpAny_bind fin
theorem aEq{X:Cx}{pins:List (Addr×Obj)}{σ:St}{H:Hp}{s:Shared}{a:Addr}{y:V}{o:Option V}(I:Inv X pins σ H s)(g:hU H a y o):s.TypeIs (.ref a) "dict":=by
 rcases g with ⟨kvs,k,e,_,_⟩|⟨kvs,k,b,e,_,_,_⟩
 ·obtain⟨_,_,vs,_,dd⟩:=zO I.hok e
  exact dd.typeIs
 ·obtain⟨_,_,xs,_,dd⟩:=zP I.hok e
  exact dd.typeIs
def aIA(td ty:TE):TE:=λσ H Q=>td σ H λx H1=>ty σ H1 λy H2=>∃a v,x=.ref a/\hU H2 a y (some v)/\Q v H2
def aIB(td ty tv:TE):TS:=λD σ H=>tv σ H λv H1=>td σ H1 λx H2=>ty σ H2 λy H3=>∃a H4,x=.ref a/\aBW H3 a y v H4/\D.nx σ H4
section
variable{X:Cx}{o i e value:Expr}{pos pos' tpos:Pos}{td ty tv:TE}
theorem aKM(hu:X.A.units+1 < cLine)(ho:PE X o td)(hi:PE X i ty)(hs:aMV i):PE X (.Subscript o i pos) (aIA td ty):=by
 intro pins s σ H Q I h
 refine aKL PySem.F.slot_dict_getitem.lookup hs (dG (ho pins s σ H _ I h) λu s1 ⟨x,H1,I1,rx,q1⟩=>dG (hi pins s1 σ H1 _ I1 q1) λiv s2 ⟨y,H2,I2,ry,a,v,ex,g,q2⟩=>?_)
 subst ex
 obtain rfl:u=Value.ref a:=rx
 exact⟨aEq I2 g,aHh hu I2 g ry λw' s3 I3 rw'=>⟨v,H2,I3,rw',q2⟩⟩
theorem aKN(hu:X.A.units+1 < cLine)(ho:PE X o td)(hi:PE X i ty)(hv:PE X value tv)(hs:swapsWith value (some (.Subscript o i pos')) pos.line X.env=pure false) :
  PS X (.Assign [.Subscript o i pos'] value pos) (aIB td ty tv):=by
 intro pins s σ H D I h
 refine wpAny_Assign_Subscript (dG (hv pins s σ H _ I h) λr s1 ⟨v,H1,I1,rv,q1⟩=>dG (ho pins s1 σ H1 _ I1 q1) λu s2 ⟨x,H2,I2,rx,q2⟩=>dG (hi pins s2 σ H2 _ I2 q2) λiv s3 ⟨y,H3,I3,ry,a,H4,ex,g,q3⟩=>?_) hs
 subst ex
 obtain rfl:u=Value.ref a:=rx
 exact aHi hu I3 g ry rv λs4 I4=>⟨σ,H4,I4,q3⟩
end
theorem aIC{P:Program}{w:World}{H:Hp}(h:Heap)(hb:sysModules < h.objs.size):cA P w H (h.push { cls:=.type "dict",data:=.dict #[] }) h.objs.size (.dK []):=
 ⟨zL _,beq_eq_false_iff_ne.mpr (Ne.symm (pP hb)),[],.nil,Heap.DictOf.new h⟩
theorem aID{P:Program}{w:World}{H:Hp}(h:Heap)(hb:sysModules < h.objs.size):cA P w H (h.push { cls:=.type "dict",data:=.dict #[] }) h.objs.size (.dT []):=
 ⟨zL _,beq_eq_false_iff_ne.mpr (Ne.symm (pP hb)),[],.nil,_,#[],0,sN _ rfl,⟨rfl,rfl,rfl⟩,rfl,rfl,Sy9⟩
def aMW:TE:=λ_ H Q=>∀p,H p=none->Q (.ref p) (upd H p (.dK []))
def aMX:TE:=λ_ H Q=>∀p,H p=none->Q (.ref p) (upd H p (.dT []))
section
variable{X:Cx}{pos:Pos}
theorem aIE:PE X (.Dict [] [] pos) aMW:=λpins s σ H Q I h=>
 wpAny_Dict_empty ⟨.ref s.heap.objs.size,_,I.laid (a:=s.heap.objs.size) (o:=.dK []) (t':=s.toks) (λ_ _ q=>lV _ q) (dQ _) (aIC s.heap I.big),rfl,h _ (I.hok.fresh (dQ _))⟩
theorem aIF:PE X (.Dict [] [] pos) aMX:=λpins s σ H Q I h=>
 wpAny_Dict_empty ⟨.ref s.heap.objs.size,_,I.laid (a:=s.heap.objs.size) (o:=.dT []) (t':=s.toks) (λ_ _ q=>lV _ q) (dQ _) (aID s.heap I.big),rfl,h _ (I.hok.fresh (dQ _))⟩
end
def aMY(kvs more:List (Key×V)):List (Key×V):=more.foldl (λacc kv=>putK acc kv.1 kv.2) kvs
theorem KV.merge:∀{more:List (Key×V)}{rs:List (Key×Value)}{kvs:List (Key×V)}{vs:List (Key×Value)},KV more rs->KV kvs vs->KV (aMY kvs more) (merged vs rs):=by
 intro more rs kvs vs r
 unfold KV at r
 induction r generalizing kvs vs with
 |nil=>intro q;exact q
 |@cons p q ps qs h t ih=>
  intro r0
  have e:KV (putK kvs p.1 p.2) (stored vs q.1 q.2):=by
   have:=r0.put p.1 h.2
   rw[<-h.1];exact this
  exact ih e
structure M1(X:Cx)(o:Expr)(m:Str)(apos:Pos)(e:Expr)(cpos:Pos):Prop where
 base:attributeBase o m X.env (eval o X.env)=eval o X.env
 few:((backTo cpos (starEach [e] X.env)).all (λx=>!x.1) && (backToKw cpos (keywordEach [] X.env)).all (λx=>x.1.isSome)
  && decide (([e]:List Expr).length+([]:List Keyword).length+(if ([]:List Keyword).isEmpty then 0 else 1) < 30))=true
 line:(apos.endLine == cpos.line)=true
 trees:backTo cpos (starEach [e] X.env)=[(false,eval e X.env)]
structure M2(X:Cx)(o:Expr)(m:Str)(apos:Pos)(e f:Expr)(cpos:Pos):Prop where
 base:attributeBase o m X.env (eval o X.env)=eval o X.env
 few:((backTo cpos (starEach [e,f] X.env)).all (λx=>!x.1) && (backToKw cpos (keywordEach [] X.env)).all (λx=>x.1.isSome)
  && decide (([e,f]:List Expr).length+([]:List Keyword).length+(if ([]:List Keyword).isEmpty then 0 else 1) < 30))=true
 line:(apos.endLine == cpos.line)=true
 trees:backTo cpos (starEach [e,f] X.env)=[(false,eval e X.env),(false,eval f X.env)]
def IsD(H:Hp)(a:Addr):Prop:=(∃kvs,Rd H a (.dK kvs))\/∃kvs,Rd H a (.dT kvs)
theorem aFy{X:Cx}{pins:List (Addr×Obj)}{σ:St}{H:Hp}{s:Shared}{a:Addr}(I:Inv X pins σ H s)(d:IsD H a) :
  s.TypeIs (.ref a) "dict"/\(∀b,Value.ref a=.ref b->∃ob,s.heap.get? b=some ob/\ob.dict=none)/\(a == sysModules)=false:=by
 rcases d with ⟨kvs,e⟩|⟨kvs,e⟩
 ·obtain⟨_,hd,vs,_,dd⟩:=zO I.hok e
  refine⟨dd.typeIs,λb q=>?_,hd⟩
  cases q
  obtain⟨ob,_,_,h1,h2,_⟩:=dd
  exact⟨ob,h1,h2.2.1⟩
 ·obtain⟨_,hd,xs,_,dd⟩:=zP I.hok e
  refine⟨dd.typeIs,λb q=>?_,hd⟩
  cases q
  obtain⟨ob,_,_,h1,h2,_⟩:=dd
  exact⟨ob,h1,h2.2.1⟩
section
variable{X:Cx}{pins:List (Addr×Obj)}{σ:St}{H:Hp}{s:Shared}{a:Addr}{y d:V}{u r:Value}{o:Option V}{A:Around}{E:Value->Shared->Prop}
theorem aMZ{Q:Value->Shared->Prop}(hu:A.units+1 < cLine)(I:Inv X pins σ H s)(g:hU H a y o)(ry:RelV y u)(h:∀w' s',Inv X pins σ H s'->RelV (o.getD .non) w'->Q w' s') :
  wpAny (model X.prog X.w) A (call (.builtin "dict.get") [.ref a,u]) Q E s:=by
 rcases g with ⟨kvs,k,e,ey,l⟩|⟨kvs,k,b,e,ey,eb,l⟩
 ·subst ey
  obtain⟨z,hd,vs,rel,dd⟩:=zO I.hok e
  refine call_meetsIn PySem.F.slot_dict_get dd.typeIs PySem.F.entry_dict_get (PySem.F.args_dict_get_2 _ _) (meets_dict_get (bX X.prog X.w) a (aAT ry) hd) ⟨_,dd.mapOf,h _ _ (I.tok _) ?_⟩
  rw[l]
  exact(rel.val k).getD rfl
 ·subst ey
  cases (show u=Value.ref b from ry)
  obtain⟨z,hd,xs,rel,dd⟩:=zP I.hok e
  refine call_meetsIn PySem.F.slot_dict_get dd.typeIs PySem.F.entry_dict_get (PySem.F.args_dict_get_2 _ _) (meetsH_dict_get (tupleKind (bX X.prog X.w)) a b hd) ⟨tupleKind_room_in1 hu,k,xs,sW I.hok eb,dd,h _ _ (I.tok _) ?_⟩
  rw[l]
  exact(rel.val k).getD rfl
theorem aM0{Q:Value->Shared->Prop}(hu:A.units+1 < cLine)(I:Inv X pins σ H s)(g:hU H a y o)(ry:RelV y u)(rd:RelV d r)(h:∀w' s',Inv X pins σ H s'->RelV (o.getD d) w'->Q w' s') :
  wpAny (model X.prog X.w) A (call (.builtin "dict.get") [.ref a,u,r]) Q E s:=by
 rcases g with ⟨kvs,k,e,ey,l⟩|⟨kvs,k,b,e,ey,eb,l⟩
 ·subst ey
  obtain⟨z,hd,vs,rel,dd⟩:=zO I.hok e
  refine call_meetsIn PySem.F.slot_dict_get dd.typeIs PySem.F.entry_dict_get (PySem.F.args_dict_get_3 _ _ _) (meets_dict_get_default (bX X.prog X.w) a (aAT ry) hd r) ⟨_,dd.mapOf,h _ _ (I.tok _) ?_⟩
  rw[l]
  exact(rel.val k).getD rd
 ·subst ey
  cases (show u=Value.ref b from ry)
  obtain⟨z,hd,xs,rel,dd⟩:=zP I.hok e
  refine call_meetsIn PySem.F.slot_dict_get dd.typeIs PySem.F.entry_dict_get (PySem.F.args_dict_get_3 _ _ _) (meetsH_dict_get_default (tupleKind (bX X.prog X.w)) a b hd r) ⟨tupleKind_room_in1 hu,k,xs,sW I.hok eb,dd,h _ _ (I.tok _) ?_⟩
  rw[l]
  exact(rel.val k).getD rd
end
def aFz(td ty:TE):TE:=λσ H Q=>td σ H λx H1=>∃a,x=.ref a/\IsD H1 a/\ty σ H1 λy H2=>∃o,hU H2 a y o/\Q (o.getD .non) H2
def aFA(td ty tx:TE):TE:=λσ H Q=>td σ H λx H1=>∃a,x=.ref a/\IsD H1 a/\ty σ H1 λy H2=>tx σ H2 λz H3=>∃o,hU H3 a y o/\Q (o.getD z) H3
section
variable{X:Cx}{o e f:Expr}{apos cpos:Pos}{td ty tx:TE}
theorem aIG(hu:X.A.units+1 < cLine)(ho:PE X o td)(he:PE X e ty)(m:M1 X o "get" apos e cpos):PE X (.Call (.Attribute o "get" apos) [e] [] cpos) (aFz td ty):=by
 intro pins s σ H Q I h
 refine wpAny_Call_method m.base m.few m.line PySem.F.plainAttrs_dict PySem.F.slot_dict_get PySem.F.type_dict_get (dG (ho pins s σ H _ I h) λu s1 ⟨x,H1,I1,rx,a,ex,d,q1⟩=>?_)
 subst ex
 obtain rfl:u=Value.ref a:=rx
 obtain⟨t1,t2,_⟩:=aFy I1 d
 refine⟨t1,t2,?_⟩
 rw[m.trees]
 refine Calls.callWith_builtin rfl (Calls.evalArgs_plain (Calls.spliced_cons (dG (he pins s1 σ H1 _ I1 q1) λiv s2 ⟨y,H2,I2,ry,ov,g,q2⟩=>Calls.spliced_nil ?_)))
 exact aMZ hu I2 g ry λw' s3 I3 rw'=>⟨_,H2,I3,rw',q2⟩
theorem aIH(hu:X.A.units+1 < cLine)(ho:PE X o td)(he:PE X e ty)(hf:PE X f tx)(m:M2 X o "get" apos e f cpos):PE X (.Call (.Attribute o "get" apos) [e,f] [] cpos) (aFA td ty tx):=by
 intro pins s σ H Q I h
 refine wpAny_Call_method m.base m.few m.line PySem.F.plainAttrs_dict PySem.F.slot_dict_get PySem.F.type_dict_get (dG (ho pins s σ H _ I h) λu s1 ⟨x,H1,I1,rx,a,ex,d,q1⟩=>?_)
 subst ex
 obtain rfl:u=Value.ref a:=rx
 obtain⟨t1,t2,_⟩:=aFy I1 d
 refine⟨t1,t2,?_⟩
 rw[m.trees]
 refine Calls.callWith_builtin rfl (Calls.evalArgs_plain (Calls.spliced_cons (dG (he pins s1 σ H1 _ I1 q1) λiv s2 ⟨y,H2,I2,ry,q2⟩=>
  Calls.spliced_cons (dG (hf pins s2 σ H2 _ I2 q2) λfv s3 ⟨z,H3,I3,rz,ov,g,q3⟩=>Calls.spliced_nil ?_))))
 exact aM0 hu I3 g ry rz λw' s4 I4 rw'=>⟨_,H3,I4,rw',q3⟩
end
section
variable{X:Cx}{pins:List (Addr×Obj)}{σ:St}{H:Hp}{s:Shared}{a:Addr}{kvs:List (Key×V)}{A:Around}{E:Value->Shared->Prop}
end
section
variable{X:Cx}{pins:List (Addr×Obj)}{σ:St}{H:Hp}{s:Shared}{a:Addr}{y:V}{u:Value}{A:Around}{E:Value->Shared->Prop}
end
end L2
namespace Att
open PySem PySem.W PySem.Calls PyProof.Rows
theorem aAl{P:Params}{h:Heap}:∀(ns:List Int) (vs:List Value),WellAll P h vs (ns.map WData.int)->IntsAre vs ns:=by
 intro ns
 induction ns with
 |nil=>
  intro vs w
  rw[List.map_nil] at w
  cases w
  exact .nil
 |cons n ns ih=>
  intro vs w
  rw[Rg9] at w
  cases w with
  |cons a b=>
   cases a
   exact .cons _ _ (ih _ b)
theorem aHj{l:OpenLaw}{n:Nat}(hn:l.most=some n){P:Params}{h:Heap}{args:List WData}{vals:List Value}
  (hpre:l.row.toRowW.claim.pre args=true) (hwl:WellAll P h vals args) :
  ∃a vs ns,vals=[Value.ref a]/\args=[WData.list (ns.map WData.int)]/\h.get? a=some { cls:=.type "list",data:=.seq vs.toArray }/\IntsAre vs ns/\ns.length<=n:=by
 have hsh:WShape.hasAll [] args [.list .int]=true:=(pre_splitW hpre).1
 have hc:l.pre.holds [] { args:=args } = true:=(pre_splitW hpre).2
 obtain⟨d,r,rfl,h1,h2⟩:=hasAllW_cons hsh
 obtain rfl:=hasAllW_nil h2
 obtain⟨xs,rfl,h3⟩:=hasW_list h1
 obtain⟨ns,rfl⟩:=items_int h3
 have hlen:ns.length<=n:=by
  unfold OpenLaw.pre at hc
  have h4:(WTm.not (.lt (.lit (.int (n:Int))) (.len (.arg 0)))).holds [] { args:=[.list (ns.map .int)] } = true:=by
   have h4:=(holds_andW hc).1
   rw[hn] at h4
   exact h4
  have h5:=condW_of h4 (w_not (w_lt w_lit (w_len_list (w_arg rfl))))
  rw[cD] at h5
  refine Nat.le_of_not_lt λq=>?_
  have q':(n:Int) < ((ns.length:Nat):Int):=by omega
  first
   |(rw[decide_eq_true q'] at h5;exact absurd h5 (by decide))
   |(simp at h5;omega)
 cases hwl with
 |cons w1 w2=>
  cases w2
  cases w1 with
  |list ho hall=>exact⟨_,_,ns,rfl,rfl,ho,aAl ns _ hall,hlen⟩
theorem aHk(l:OpenLaw)(args:List WData):l.row.toRowW.claim.post args (.bool true) args=true:=
 postW_of (r:=l.row.toRowW) (X:=(true == true))
  (show WShape.has [] (.bool true) .bool=true by first|rfl|decide|simp[WShape.has,WShape.arms,WShape.armsAll])
  (show(WTm.eq .res (.lit (.bool true))).value [] { args:=args,res:=some (.bool true),after:=args } = some (.bool (true == true)) from w_eq_bool (w_res rfl) w_lit) rfl
theorem aEr{l:OpenLaw}{n:Nat}{q:Program}{loose:List Str}{XP:(Str->Option Value)->Heap->Prop}{YP:World->Heap->Prop}{d:DefRec}
  (hn:l.most=some n) (hdf:d.params.defaults=[])
  (call:∀(w:World) (s₀ s₁:Shared) (mg mb:Str->Option Value) (fa:Addr) (o:Obj) (pm cd doc:Value) (a:Addr) (vs:List Value) (ns:List Int),
   Ground q loose [] XP w s₀ mg mb s₁.heap->YP w s₁.heap->
   s₁.heap.get? fa=some o->o.data=.func (docDef d.name d.params d.body d.scope pm cd doc)->s₁.heap.CodeRec cd d.name->mg d.name=some (.ref fa)->
   s₁.heap.get? a=some { cls:=.type "list",data:=.seq vs.toArray }->IntsAre vs ns->ns.length<=n->s₁.gens = #[]->
   codeAny (model l.prog w) callerA (.call (.ref fa) ⟨[.ref a],[]⟩) (λr s'=>r=.ok (.ret (.bool true))/\OldK s₁.heap s'.heap/\s'.os=s₁.os/\AllBare s'.gens) s₁) :
  WalkO q loose XP YP l.row.toRowW d [] (λf vs=>PySem.call f vs):=by
 intro w s₀ s₁ mg mb G Y fa o pm cd doc dV kV ho hd hcd hD hmg hg args vals as hpre hlay hrd hwl hlo
 obtain rfl:dV=.none:=Dflts.none hD hdf
 obtain rfl:kV=.none:=Dflts.noKw hD
 obtain⟨a,vs,ns,rfl,rfl,hobj,hints,hlen⟩:=aHj hn hpre hwl
 refine enter_call (codeAny_mono (call w s₀ s₁ mg mb fa o pm cd doc a vs ns G Y ho (fd_plain hd) hcd hmg hobj hints hlen hg) λr s' hq=>?_)
 obtain⟨rfl,h2,h3,h4⟩:=hq
 exact⟨.inl ⟨.bool true,.bool true,[],rfl,λ_=>rfl,.bool true,aHk l _,λ_=>⟨List.Pairwise.nil,λ_ hm=>(nomatch hm)⟩⟩,h2,h3,h4⟩
section
variable{prog:Program}{w:World}{A:Around}{E:Value->Shared->Prop}{s:Shared}{K:Frag}
end
end Att
namespace L2
open PySem PySem.Spec PyProof.Rows
theorem yU:∀{vs:List Value}{ns:List Int},IntsAre vs ns->Vals (ns.map V.int) vs
 |_,_,.nil=>.nil
 |_,_,.cons n t h=>.cons ⟨t,rfl⟩ (yU h)
def aOD(H:Hp):Prop:=∀b,H b=none\/∃o xs,H b=some (.frz o (.lst xs))
theorem aOE{P:Program}{w:World}{K:W.Frag}{mg mb:Str->Option Value}{CX:CXT}{k:Nat}{fa a:Addr}{fd:FuncData}{x:Str}{sp:Sp}{s₁:Shared}{vs:List Value}{ns:List Int}
  (KX:K.In s₁.heap) (hns:s₁.heap.Ns mainGlobals mg) (hb:s₁.heap.Ns builtinsNs mb) (hbb:∀x:Str,x≠"__name__"->mb x=bootBuiltins x) (hlim:s₁.heap.NoLimit) (hbm:∃bm o,mg "__builtins__" = some (.ref bm)/\bm≠builtinsNs/\s₁.heap.get? bm=some o/\o.cls=.type "module"/\o.dict=some builtinsNs/\o.data=.plain) (hg:s₁.gens = #[])
  (ha:s₁.heap.get? a=some { cls:=.type "list",data:=.seq vs.toArray }) (hi:IntsAre vs ns) (hl:ns.length<=sizeLine) (hr:eI k callerA)
  (F:∀base:Heap,K.In base->base.Ns mainGlobals mg->cR P w K mg base CX k fa fd [x] sp) (hbind:∀(s:Shared) (u:Value),BindsTo s fd ⟨[u],[]⟩ [(x,u)])
  (hsp:∀H:Hp,aOD H->bU K H a (ns.map V.int)->sp [.ref a] H (λv _=>v=.bl true) λ_ _ _=>False)
  (hCX:∀H e s',CX [] H s₁ (λ_ _ _=>False) e s'->False) :
  codeAny (model P w) callerA (.call (.ref fa) ⟨[.ref a],[]⟩) (λr s'=>r=.ok (.ret (.bool true))/\OldK s₁.heap s'.heap/\s'.os=s₁.os/\AllBare s'.gens) s₁:=by
 have rv:=yU hi
 have lenV:=hi.length
 have core:∀H:Hp,aOD H->bU K H a (ns.map V.int)->sL P w H s₁.heap->(∀b,H b≠none->b=a)->(H a≠none->K.lookup a=none)->
   codeAny (model P w) callerA (.call (.ref fa) ⟨[.ref a],[]⟩) (λr s'=>r=.ok (.ret (.bool true))/\OldK s₁.heap s'.heap/\s'.os=s₁.os/\AllBare s'.gens) s₁:=by
  intro H hO hS hok hA hK
  have base_of:∀{b:Addr} {o:Obj},s₁.heap.get? b=some o->H b=none->(vO s₁.heap H).get? b=some o:=λe n=>aEf e n
  have noA:∀{b:Addr} {o:Obj} {es:Array DictEntry} {ep:Nat},s₁.heap.get? b=some o->o.data=.dict es ep->H b=none:=λ{b o es ep} e d=>by
   cases q:H b with
   |none=>rfl
   |some u=>
    have e':b=a:=hA b (by rw[q];simp)
    subst e'
    rw[ha] at e;cases e
    have d':Data.seq vs.toArray _=Data.dict es ep:=d
    cases d'
  have nsK:∀{b:Addr} {m:Str->Option Value},s₁.heap.Ns b m->(vO s₁.heap H).Ns b m:=λ{b m} ⟨o,es,ep,e,d,r⟩=>⟨o,es,ep,base_of e (noA e d),d,r⟩
  have hKb:K.In (vO s₁.heap H):=λb o e=>base_of (KX b o e) (by
   cases q:H b with
   |none=>rfl
   |some u=>
    have e':b=a:=hA b (by rw[q];simp)
    subst e'
    rw[hK (by rw[q];simp)] at e;cases e)
  have hbm':∃bm o,mg "__builtins__" = some (.ref bm)/\bm≠builtinsNs/\(vO s₁.heap H).get? bm=some o/\o.cls=.type "module"/\o.dict=some builtinsNs/\o.data=.plain:=by
   obtain⟨bm,ob,b1,b2,b3,b4,b5,b6⟩:=hbm
   refine⟨bm,ob,b1,b2,base_of b3 ?_,b4,b5,b6⟩
   cases q:H bm with
   |none=>rfl
   |some u=>
    have e':bm=a:=hA bm (by rw[q];simp)
    rw[e',ha] at b3
    cases b3
    exact absurd (show Value.type "list" = Value.type "module" from b4) (by decide)
  have hM:Mod K mg (vO s₁.heap H):=⟨hKb,nsK hns,⟨mb,nsK hb,hbb⟩,(let ⟨mc,h1,h2⟩:=hlim;⟨mc,nsK h1,h2⟩),hbm'⟩
  have e0:aBU P w K mg (vO s₁.heap H) callerA [] s₁ H:=⟨rfl,hM,λb o e=>aGi e,Ul9 (aCt _ _),trivial,λb hb=>absurd (show b∈([]:List Addr) from hb) (by simp),hok,.of_eq hg⟩
  refine codeAny_mono ((F _ hKb (nsK hns)).run callerA [] s₁ H ⟨[.ref a],[]⟩ [.ref a] [.ref a] _ _ hr e0 (hbind s₁ (.ref a)) (.cons rfl .nil) (hsp H hO hS)) λr s' h=>?_
  cases r with
  |error e=>exact(hCX H e s' h).elim
  |ok fl=>
   cases fl with
   |next=>exact False.elim h
   |brk=>exact False.elim h
   |cont=>exact False.elim h
   |ret u=>
    obtain⟨v,H',os,bare,un,hok',r',q⟩:=h
    have q':v=.bl true:=q
    subst q'
    obtain rfl:u=Value.bool true:=r'
    refine⟨rfl,OldK.of_keep λb o e=>?_,os,bare⟩
    cases q:H b with
    |none=>exact un.keep b o e q (by intro z;exact absurd (show b∈([]:List Addr) from z) (by simp)) (by simp)
    |some u=>
     rcases hO b with z|⟨ob,xs,z⟩
     ·rw[q] at z;cases z
     ·have z2:=un.frzs b ob _ z
      obtain⟨e1,_⟩:=hok b _ z
      obtain⟨e2,_⟩:=hok' b _ z2
      rw[e] at e1;cases e1
      exact e2
 cases hk:K.lookup a with
 |some o=>
  have e:=KX a o hk
  rw[ha] at e
  cases e
  refine core (λ_=>none) (λ_=>.inl rfl) (.inr ⟨_,vs.toArray,_,hk,rfl,rfl,rfl,by rw[jV,lenV];exact hl,by simpa using rv⟩) (λb u z=>by have z':(none:Option HO)=some u:=z;cases z') (λb z=>absurd rfl z) λz=>absurd rfl z
 |none=>
  refine core (λb=>if b=a then some (.frz { cls:=.type "list",data:=.seq vs.toArray } (.lst (ns.map V.int))) else none) (λb=>?_) (.inl (.inr ⟨{ cls:=.type "list",data:=.seq vs.toArray },if_pos rfl⟩)) (λb u z=>?_) (λb z=>?_) λ_=>hk
  ·by_cases hb:b=a
   ·exact .inr ⟨_,_,if_pos hb⟩
   ·exact .inl (if_neg hb)
  ·by_cases hb:b=a
   ·have z':=(if_pos hb).symm.trans z
    cases z'
    subst hb
    exact⟨ha,by rw[cD];exact hl,vs,_,rv,ha⟩
   ·have z':=(if_neg hb).symm.trans z
    cases z'
  ·by_cases hb:b=a
   ·exact hb
   ·exact absurd (if_neg hb) z
end L2
namespace L2
open PySem PySem.Spec PyProof.Rows
end L2
namespace L2
open PySem PySem.Spec PyProof.Rows
def inClass(s:Stmt)(j:Nat):Stmt:=match s with
 |.ClassDef _ _ _ body _ _ _ _ _ _ _=>body.getD j (.Pass ⟨0,0,0,0⟩)
 |_=>.Pass ⟨0,0,0,0⟩
def bN(s:Stmt):Arguments:=match s with
 |.FunctionDef _ a _ _ _ _ _ _ _ _=>a
 |_=>{ posonlyargs:=[],args:=[],vararg:=none,kwonlyargs:=[],kw_defaults:=[],kwarg:=none,defaults:=[] }
def bL(s:Stmt):List Stmt:=match s with
 |.FunctionDef _ _ b _ _ _ _ _ _ _=>b
 |_=>[]
def aL(s:Stmt):Scope:=match s with
 |.FunctionDef _ _ _ _ _ _ sc _ _ _=>sc
 |_=>{ kind:=.function,names:=[],isGenerator:=false,isCoroutine:=false }
abbrev lQ:CXT:=λ_ _ _ _ _ _=>False
abbrev E0:XK:=λ_ _ _=>False
theorem bG{X:Cx}:Passes lQ X E0:=λ_ _ _ _ _ _ _ h=>h.elim
structure nY(K:W.Frag)(x qual:Str)(st:Stmt)(f:Addr)(fd:FuncData):Prop where
 ex:∃(oc:Value) (od:Option Addr) (kV doc pm:Value) (an:Option Addr) (cdv ct:Value) (osl:Array (Option Value)),
  fd=W.fnOf x qual (bN st) (bL st) (aL st) .none kV doc pm an cdv ct/\K.lookup f=some ⟨oc,od,.func fd,osl⟩/\W.codeIn K cdv qual=true
 kp:W.keepIn K (.ref f)=true
section
variable{P:Program}{w:World}{K:W.Frag}{mg:Str->Option Value}{base:Heap}
theorem nY.ok{x qual:Str}{st:Stmt}{f:Addr}{fd:FuncData}{N ps:List Str}{k:Nat}{sp:Sp}(F:nY K x qual st f fd)(S:bM N ps (aL st))(len:∀vs H Q E,sp vs H Q E->vs.length=ps.length)
  (hbody:∀(cdv:Value) (A:Around) (outer:List Env) (s:Shared) (H:Hp) (vs:List V) (Q:VK) (E:XK),eI k (A.deeper (envOfC qual (aL st) s.heap.objs.size f cdv))->sp vs H Q E->
   ∃t,PSs (aFt lQ P w K mg base N qual (aL st) f cdv A outer s H E).nox (bL st) t/\t { nx:=λ_ H'=>Q .non H',rt:=Q } (start N vs) H):cR P w K mg base lQ (k+1) f fd ps sp:=by
 obtain⟨oc,od,kV,doc,pm,an,cdv,ct,osl,rfl,lk,hcd⟩:=F.ex
 refine aLU lk hcd S len λA outer s H vs Q E hr hsp=>?_
 obtain⟨t,h,q⟩:=hbody cdv A outer s H vs Q E hr hsp
 exact⟨t,h.nox,q⟩
theorem nY.binds{x qual:Str}{st:Stmt}{f:Addr}{fd:FuncData}{ps:List Str}(F:nY K x qual st f fd)
  (h:∀(kV doc pm:Value) (an:Option Addr) (cdv ct:Value) (us:List Value),us.length=ps.length->bindArgs (W.fnOf x qual (bN st) (bL st) (aL st) .none kV doc pm an cdv ct) ⟨us,[]⟩=pure (ps.zip us)):Binds K fd ps []:=by
 obtain⟨oc,od,kV,doc,pm,an,cdv,ct,osl,rfl,lk,hcd⟩:=F.ex
 exact .all (h kV doc pm an cdv ct)
theorem cF{x qual:Str}{st:Stmt}{f:Addr}{oc:Value}{od an:Option Addr}{osl:Array (Option Value)}{kV doc pm cdv ct:Value}(l:K.lookup f=some ⟨oc,od,.func (W.fnOf x qual (bN st) (bL st) (aL st) .none kV doc pm an cdv ct),osl⟩)
  (c:W.codeIn K cdv qual=true) (k:W.keepIn K (.ref f)=true):nY K x qual st f (W.fnOf x qual (bN st) (bL st) (aL st) .none kV doc pm an cdv ct):=⟨⟨oc,od,kV,doc,pm,an,cdv,ct,osl,rfl,l,c⟩,k⟩
end
section
variable{X:Cx}
end
theorem aKO{A B:Prop}(h:B):if false=true then A else B:=by
 rw[if_neg zH]
 exact h
theorem aKP{A B:Prop}(h:A):if true=true then A else B:=by
 rw[if_pos rfl]
 exact h
def aU(H H':Hp):Prop:=∀b o,H b=some o->H' b=some o
theorem aU.refl(H:Hp):aU H H:=λ_ _ h=>h
theorem aU.trans{H H1 H2:Hp}(a:aU H H1)(b:aU H1 H2):aU H H2:=λc o h=>b c o (a c o h)
theorem aU.free{H H':Hp}(e:aU H H'){l:Addr}(h:H' l=Option.none):H l=Option.none:=by
 cases q:H l with
 |none=>rfl
 |some o=>
  rw[e l o q] at h
  cases h
theorem aU.seq{K:W.Frag}{H H':Hp}{a:Addr}{xs:List V}(e:aU H H')(h:bU K H a xs):bU K H' a xs:=by
 rcases h with (h|⟨o,h⟩)|h
 ·exact .inl (.inl (e _ _ h))
 ·exact .inl (.inr ⟨o,e _ _ h⟩)
 ·exact .inr h
section
variable{κ:Type}[DecidableEq κ]
end
end L2
namespace L2
open PySem PySem.Spec PyProof.Rows
section
variable{prog:Program}{w:World}{A:Around}{R:Result->Shared->Prop}{s:Shared}
theorem aEs{elt target iter:Expr}{ifs:List Expr}{scope:Scope}{pos:Pos}{it acc:Value}{env:Env}(I:Nat->Shared->Prop)
  (turn:∀n s,I n s->wpAny (model prog w) A (pyNext it) (λr s₁=>match r with
   |none=>R (.ok .next) s₁
   |some v=>wpAny (model prog w) A (letOwnedTupleGo target it v) (λ_ s₁'=>wpAny (model prog w) A (assign target env v) (λ_ s₂=>
     wpAny (model prog w) A (forIn ifs true λc r=>if r=true then do let ok <-isTrue c env (eval c env);pure (ForInStep.yield ok) else pure (ForInStep.yield r)) (λok s₃=>
      if ok=true then wpAny (model prog w) A (eval elt env) (λx s₄=>
       wpAny (model prog w) A (call (.builtin "list.append") [acc,x]) (λ_ s₅=>∃m,m < n/\I m s₅) (notedBy (model prog w) A env λe s'=>R (.error e) s') s₄) (notedBy (model prog w) A env λe s'=>R (.error e) s') s₃
      else ∃m,m < n/\I m s₃) (notedBy (model prog w) A env λe s'=>R (.error e) s') s₂) (notedBy (model prog w) A env λe s'=>R (.error e) s') s₁') (notedBy (model prog w) A env λe s'=>R (.error e) s') s₁)
   (notedBy (model prog w) A env λe s'=>R (.error e) s') s)
  (n:Nat) (h:I n s) :
  codeAny (model prog w) A (.compLoop (.ListComp elt [⟨target,iter,ifs,0⟩] scope pos) 0 it acc env) R s:=by
 refine codeAny_loop rfl I (λn s hI=>?_) n h
 show wpAny _ A ((compTurn (.ListComp elt [⟨target,iter,ifs,0⟩] scope pos) 0 it acc env).onRaise (λx=>do noteFrame x env;theTreesLotGoes x)) _ _ s
 refine wpAny_noted ?_
 rw[compTurn_list]
 refine wpAny_bind (wpAny_standAt (wpAny_bind (wpAny_mono (turn n s hI) (λr s₁ h₁=>?_) λ_ _ h'=>h')))
 cases r with
 |none=>exact wpAny_pure h₁
 |some v=>
  refine wpAny_bind (wpAny_mono h₁ (λ_ s₁' h₁'=>?_) λ_ _ h'=>h')
  refine wpAny_bind (wpAny_mono h₁' (λ_ s₂ h₂=>wpAny_bind (wpAny_mono h₂ (λok s₃ h₃=>?_) λ_ _ h'=>h')) λ_ _ h'=>h')
  cases ok with
  |false=>exact wpAny_pure ⟨rfl,h₃⟩
  |true=>
   exact wpAny_bind (wpAny_bind (wpAny_mono h₃ (λx s₄ h₄=>wpAny_bind (wpAny_mono h₄ (λ_ s₅ h₅=>wpAny_pure (wpAny_pure ⟨rfl,h₅⟩)) λ_ _ h'=>h')) λ_ _ h'=>h'))
end
def lY(env:Env):List (Str×NameKind)->List (Str×Addr)->List (Str×Addr)
 |[],cs=>cs
 |(n,k)::r,cs=>lY env r (if (k == NameKind.free)=true then (n,(env.cells.lookup n).getD 0)::cs else cs)
theorem wC{scope:Scope}{env:Env}(h:∀x∈scope.names,x.2=.free->∃c,env.cells.lookup x.1=some c):closureFor scope env=pure (lY env scope.names []):=by
 simp only[closureFor]
 generalize ([]:List (Str×Addr))=cs
 revert h cs
 generalize scope.names=names
 intro h
 induction names with
 |nil=>intro cs;rfl
 |cons x r ih=>
  intro cs
  obtain⟨n,k⟩:=x
  have ih:=ih λy hy=>h y (Qt9 _ hy)
  rw[List.forIn_cons]
  by_cases hk:k=.free
  ·subst hk
   obtain⟨c,hc⟩:=h (n,.free) Rc9 rfl
   have hc':env.cells.lookup n=some c:=hc
   have e:lY env ((n,NameKind.free)::r) cs=lY env r ((n,c)::cs):=by
    show lY env r (if (NameKind.free == NameKind.free)=true then (n,(env.cells.lookup n).getD 0)::cs else cs)=_
    rw[hc']
    rfl
   rw[e,<-ih]
   simp only[cellOf,hc',beq_self_eq_true,if_true]
   rfl
  ·have hb:(k == NameKind.free)=false:=by simpa using hk
   have e:lY env ((n,k)::r) cs=lY env r cs:=by
    show lY env r (if (k == NameKind.free)=true then (n,(env.cells.lookup n).getD 0)::cs else cs)=_
    rw[hb]
    rfl
   rw[e,<-ih]
   simp only[hb,yL,if_false]
   rfl
theorem xG{env:Env}{x:Str}{c:Addr}:∀(names:List (Str×NameKind)) (cs:List (Str×Addr)),(∀y∈names,y.2=.free->∃c,env.cells.lookup y.1=some c)->(x,c)∈lY env names cs->(x,c)∈cs\/env.cells.lookup x=some c
 |[],cs,_,h=>.inl h
 |(n,k)::r,cs,hf,h=>by
  have h':(x,c)∈lY env r (if (k == NameKind.free)=true then (n,(env.cells.lookup n).getD 0)::cs else cs):=h
  rcases xG r _ (λy hy=>hf y (Qt9 _ hy)) h' with q|q
  ·by_cases hk:(k == NameKind.free)=true
   ·rw[if_pos hk] at q
    rcases lW.mp q with e|q
    ·cases e
     obtain⟨c,hc⟩:=hf (x,k) Rc9 (by simpa using hk)
     have hc':env.cells.lookup x=some c:=hc
     rw[hc']
     exact .inr rfl
    ·exact .inl q
   ·rw[if_neg hk] at q
    exact .inl q
  ·exact .inr q
theorem aEt{env:Env}{p:Str×Addr}:∀(names:List (Str×NameKind)) (cs:List (Str×Addr)),p∈cs->p∈lY env names cs
 |[],_,h=>h
 |(n,k)::r,cs,h=>by
  show p∈lY env r (if (k == NameKind.free)=true then (n,(env.cells.lookup n).getD 0)::cs else cs)
  refine aEt r _ ?_
  split
  ·exact Qt9 _ h
  ·exact h
theorem aEu{env:Env}{x:Str}{c:Addr}:∀(names:List (Str×NameKind)) (cs:List (Str×Addr)),(x,NameKind.free)∈names->env.cells.lookup x=some c->(x,c)∈lY env names cs
 |[],_,h,_=>by cases h
 |(n,k)::r,cs,h,hc=>by
  show(x,c)∈lY env r (if (k == NameKind.free)=true then (n,(env.cells.lookup n).getD 0)::cs else cs)
  rcases lW.mp h with e|h
  ·cases e
   refine aEt r _ ?_
   rw[if_pos (by simp),hc]
   exact Rc9
  ·exact aEu r _ h hc
theorem vS{x:Str}{c:Addr}:∀{l:List (Str×Addr)},(x,c)∈l->(∀d,(x,d)∈l->d=c)->l.lookup x=some c
 |[],h,_=>by cases h
 |(n,d)::r,h,u=>by
  rw[Rr9]
  by_cases e:x=n
  ·subst e
   rw[beq_self_eq_true]
   rw[u d Rc9]
  ·rw[show(x == n)=false by simpa using e]
   rcases lW.mp h with q|q
   ·cases q
    exact absurd rfl e
   ·exact vS q λd hd=>u d (Qt9 _ hd)
theorem sX{env:Env}{names:List (Str×NameKind)}{x:Str}{c:Addr}(hf:∀y∈names,y.2=.free->∃c,env.cells.lookup y.1=some c)(hx:(x,NameKind.free)∈names)(hc:env.cells.lookup x=some c):(lY env names []).lookup x=some c:=
 vS (aEu names [] hx hc) λd hd=>by
  rcases xG names [] hf hd with q|q
  ·cases q
  ·rw[hc] at q
   exact(Option.some.inj q).symm
theorem oB{env:Env}{names:List (Str×NameKind)}{x:Str}{c:Addr}(hf:∀y∈names,y.2=.free->∃c,env.cells.lookup y.1=some c)(h:(lY env names []).lookup x=some c):env.cells.lookup x=some c:=by
 rcases xG names [] hf (PySem.mem_of_lookup h) with q|q
 ·cases q
 ·exact q
end L2
namespace L2
open PySem PySem.Spec PyProof.Rows
def cxC(X:Cx)(scope:Scope)(N:List Str)(fp:List Addr)(C:Addr)(s:Shared)(H:Hp):Cx where
 prog:=X.prog
 w:=X.w
 K:=X.K
 mg:=X.mg
 base:=X.base
 A:=X.A
 N:=N
 s₀:=s
 H₀:=H
 env:=compEnvC scope (lY X.env scope.names []) C X.env
 outer:=X.stack
 stack:=X.stack
 ex:=fp
 fn:=λ_=>false
 calm:=X.calm
 pn:=[]
 xe:=λ_ _=>False
theorem sL.aII{P:Program}{w:World}{H:Hp}{h:Heap}{a:Addr}{o:HO}(x:sL P w H h)(hn:H a=none)(new:cA P w (upd H a o) h a o):sL P w (upd H a o) h:=λb u e=>by
 by_cases hb:b=a
 ·subst hb;rw[aT] at e;cases e;exact new
 ·rw[bB hb] at e
  exact(x b u e).yN (λc v _ q=>q) (λc q=>by rw[bB (bO q hn)];exact q) λc xs _ q=>by rw[bB (bO q hn)];exact q
theorem Un.aII{fs ex:List Addr}{H H1:Hp}{h h1:Heap}{a:Addr}{o:HO}(u:Un fs ex H H1 h h1)(hs:h.objs.size<=a)(hn:H1 a=none):Un fs ex H (upd H1 a o) h h1 where
 keep:=u.keep
 slot:=u.slot
 free:=λb ob q n hx=>by rw[bB (pP (uU (hX q) hs))];exact u.free b ob q n hx
 there:=u.there
 pQ:=λb xs q=>by rw[bB (bO (u.pQ b xs q) hn)];exact u.pQ b xs q
 frzs:=λb ob xs q=>by rw[bB (bO (u.frzs b ob xs q) hn)];exact u.frzs b ob xs q
 tbls:=λb ps q=>by
  obtain⟨m,e⟩:=u.tbls b ps q
  exact⟨m,by rw[bB (bO e hn)];exact e⟩
theorem lX{env:Env}:∀{names:List (Str×NameKind)}{x:Str},names.lookup x=some .free->
  (names.map λ(n,k)=>if (k == NameKind.free && env.scope.kind == .function && env.kindOf n == some .cell) then (n,NameKind.cell) else (n,k)).lookup x=some .cell\/
  (names.map λ(n,k)=>if (k == NameKind.free && env.scope.kind == .function && env.kindOf n == some .cell) then (n,NameKind.cell) else (n,k)).lookup x=some .free
 |[],_,h=>by simp at h
 |(n,k)::r,x,h=>by
  have ih:=@lX env r x
  show List.lookup x ((if (k == NameKind.free && env.scope.kind == .function && env.kindOf n == some .cell)=true then (n,NameKind.cell) else (n,k))::_)=_\/List.lookup x ((if (k == NameKind.free && env.scope.kind == .function && env.kindOf n == some .cell)=true then (n,NameKind.cell) else (n,k))::_)=_
  cases hx:x == n with
  |true=>
   simp only[Rr9,hx] at h
   cases h
   by_cases hc:(NameKind.free == NameKind.free && env.scope.kind == .function && env.kindOf n == some .cell)=true
   ·rw[if_pos hc];simp only[Rr9,hx];exact .inl trivial
   ·rw[if_neg hc];simp only[Rr9,hx];exact .inr trivial
  |false=>
   simp only[Rr9,hx] at h
   by_cases hc:(k == NameKind.free && env.scope.kind == .function && env.kindOf n == some .cell)=true
   ·rw[if_pos hc];simp only[Rr9,hx];exact ih h
   ·rw[if_neg hc];simp only[Rr9,hx];exact ih h
theorem sY{env:Env}:∀{names:List (Str×NameKind)}{x:Str},(∀y∈names,y.2≠.cell)->
  ((names.map λ(n,k)=>if (k == NameKind.free && env.scope.kind == .function && env.kindOf n == some .cell) then (n,NameKind.cell) else (n,k)).lookup x=some .cell\/
  (names.map λ(n,k)=>if (k == NameKind.free && env.scope.kind == .function && env.kindOf n == some .cell) then (n,NameKind.cell) else (n,k)).lookup x=some .free)->(x,NameKind.free)∈names
 |[],_,_,h=>by simp at h
 |(n,k)::r,x,hc,h=>by
  have ih:=@sY env r x λy hy=>hc y (Qt9 _ hy)
  have h':List.lookup x ((if (k == NameKind.free && env.scope.kind == .function && env.kindOf n == some .cell)=true then (n,NameKind.cell) else (n,k))::_)=_\/List.lookup x ((if (k == NameKind.free && env.scope.kind == .function && env.kindOf n == some .cell)=true then (n,NameKind.cell) else (n,k))::_)=_:=h
  cases hx:x == n with
  |true=>
   have e:x=n:=by simpa using hx
   subst e
   by_cases hq:(k == NameKind.free && env.scope.kind == .function && env.kindOf x == some .cell)=true
   ·have hk:(k == NameKind.free)=true:=by
     rw[Bool.and_assoc] at hq
     exact(Sj9 _ _▸hq).1
    rw[show k=NameKind.free by simpa using hk]
    exact Rc9
   ·rw[if_neg hq] at h'
    simp only[Rr9,hx] at h'
    rcases h' with z|z
    ·cases z
     exact absurd rfl (hc _ Rc9)
    ·cases z
     exact Rc9
  |false=>
   by_cases hq:(k == NameKind.free && env.scope.kind == .function && env.kindOf n == some .cell)=true
   ·rw[if_pos hq] at h';simp only[Rr9,hx] at h';exact Qt9 _ (ih h')
   ·rw[if_neg hq] at h';simp only[Rr9,hx] at h';exact Qt9 _ (ih h')
structure eM(X:Cx)(scope:Scope)(N:List Str)(k:Nat)(idx:List Nat):Prop where
 kind:scope.kind=.function
 nocell:∀y∈scope.names,y.2≠.cell
 names:∀y∈scope.names,y.2=.local->scope.names.lookup y.1=some .local
 free:∀y∈scope.names,y.2=.free->X.env.kindOf y.1=some .cell\/X.env.kindOf y.1=some .free
 nd:N.Nodup
 len:N.length=k+idx.length
 cap:∀(i:Nat) (x:Str),(N.drop k)[i]?=some x->∃j:Nat,idx[i]?=some j/\X.N[j]?=some x/\scope.names.lookup x=some .free
def cσ(k:Nat)(idx:List Nat)(σ:St):St:=List.replicate k none++idx.map λj=>(σ[j]?).join
section
variable{X:Cx}{pins:List (Addr×Obj)}{σ:St}{H:Hp}{s:Shared}{scope:Scope}{N:List Str}{k:Nat}{idx:List Nat}{fp:List Addr}
theorem eM.cells(S:eM X scope N k idx)(I:Inv X pins σ H s):∀y∈scope.names,y.2=.free->∃c,X.env.cells.lookup y.1=some c:=λy hy h=>I.ok.has y.1 (S.free y hy h)
theorem aHl{C D:Addr}{h₁:Heap}{tk:Nat}{oD:Obj}{m:Str->Option Value}(S:eM X scope N k idx)(I:Inv X pins σ H s)(hf:∀b∈fp,w5 X pins H b)(ho:∀b∈fp,∃o,s.heap.get? b=some o)
  (hC:s.heap.objs.size<=C) (hD:s.heap.objs.size<=D) (hDC:D≠C) (hn:h₁.Ns C m) (old:∀b o,s.heap.get? b=some o->h₁.get? b=some o) (eD:h₁.get? D=some oD) (dD:∀v,oD.data≠.cell v) :
  Inv (cxC X scope N fp C s H) [(D,oD)] (cσ k idx σ) H { s with heap:=h₁,toks:=tk }:=by
 have hcl:=S.cells I
 have nst:∀b,s.heap.objs.size<=b->b∉frs X.stack:=λb hb z=>by
  obtain⟨_,o,e,_⟩:=I.stack.mem z
  exact absurd (uU (hX e) hb) (Sm9 _)
 refine⟨⟨I.ok.mod,S.kind,I.ok.glob,I.ok.blt,hC,λx y c h1 h2=>I.ok.inj x y c (oB hcl h1) (oB hcl h2),λx hx=>?_,λx c z _=>(by cases z),I.ok.hd,I.ok.frames,.inl rfl,λb hb=>⟨?_,λx c e=>(hf b hb).2.2.2.2.1 x c (oB hcl e)⟩,I.bs,
  zK I.ok.bsz I.sz,λb o e hb=>?_,λb hb z=>?_,I.stack,I.aC5⟩,rfl,I.bare,Un.kept old,⟨m,hn,λi x v h1 h2 h3=>?_⟩,λx c e=>?_,I.hok.fresh hC,λx c e=>I.freeC x c (oB hcl e),λp hp=>?_,I.hok.kept old,?_⟩
 ·obtain⟨c,e⟩:=hcl _ (sY S.nocell hx) rfl
  exact⟨c,sX hcl (sY S.nocell hx) e⟩
 ·obtain⟨o,e⟩:=ho b hb
  exact pP (uU (hX e) hC)
 ·rcases(hf b hb).2.2.2.1 with z|z
  ·exact I.ok.noex b o e z
  ·exact absurd (uU (hX (I.ok.bs b o e).1) z) (Sm9 _)
 ·rcases lW.mp (I.aAO b z) with q|q
  ·exact(hf b hb).2.1 q
  ·exact(hf b hb).2.2.1 q
 ·have hi:k<=i:=by
   by_cases hi:i < k
   ·unfold cσ at h2
    rw[Qq9 (by simpa using hi),Tv9,if_pos hi] at h2
    cases h2
   ·omega
  obtain⟨j,rfl⟩ : ∃j,i=k+j:=⟨i - k,by omega⟩
  have h1':N[k+j]?=some x:=h1
  obtain⟨l,e1,e2,e3⟩:=S.cap j x (by rw[Ti9];exact h1')
  have h2':σ[l]?=some (some v):=by
   unfold cσ at h2
   rw[Qz9 (by simp),qB] at h2
   simp only[List.length_replicate,Nat.add_sub_cancel_left,e1,Option.map_some,Option.some.injEq] at h2
   cases q:σ[l]? with
   |none=>rw[q] at h2;cases h2
   |some z=>rw[q] at h2;exact congrArg some h2
  obtain⟨m0,hn0,hl⟩:=I.loc
  have hfree:(x,NameKind.free)∈scope.names:=PySem.mem_of_lookup e3
  have hk:=S.free _ hfree rfl
  obtain⟨u,r,l⟩:=hl l x v e2 h2' (by rcases hk with z|z;exact .inr (.inl z);exact .inr (.inr z))
  refine⟨u,r,.inr ⟨lX e3,?_⟩⟩
  rcases l with ⟨z,_⟩|⟨_,c,e,o,q,d⟩
  ·rcases hk with y|y
   ·rw[y] at z;cases z
   ·rw[y] at z;cases z
  ·exact⟨c,sX hcl hfree e,o,old c o q,d⟩
 ·obtain⟨v,o,q,d⟩:=I.cell x c (oB hcl e)
  exact⟨v,o,old c o q,d⟩
 ·have hp':p∈([]:List (Addr×Obj)) ++ [(D,oD)]:=hp
  have e:p=(D,oD):=by simpa using hp'
  subst e
  exact⟨eD,I.hok.fresh hD,hDC,nst D hD,dD⟩
 ·unfold cσ
  show _=N.length
  rw[S.len]
  simp
theorem aKQ{C D:Addr}{s':Shared}{σ':St}{H':Hp}{ys:List V}{its:List Value}{n:Nat}{pins':List (Addr×Obj)}(I:Inv X pins σ H s)(hf:∀b∈fp,w5 X pins H b)(J:Inv (cxC X scope N fp C s H) pins' σ' H' s')
  (hC:s.heap.objs.size<=C) (hD:s.heap.objs.size<=D) (hDC:D≠C) (hDn:H' D=none) (eD:s'.heap.get? D=some { cls:=.type "list",data:=.seq its.toArray n }) (r:Vals ys its) (hz:ys.length<=sizeLine) :
  Inv X pins σ (upd H' D (.lst ys)) s'/\w5 X pins (upd H' D (.lst ys)) C:=by
 have hk:sL X.prog X.w (upd H' D (.lst ys)) s'.heap:=sL.aII J.hok hDn ⟨hz,its,n,r,eD⟩
 have u:Un (frs X.stack) fp H (upd H' D (.lst ys)) s.heap s'.heap:=Un.aII J.base hD hDn
 refine⟨I.aOi J.os u hk J.bare λb hb=>⟨(hf b hb).2.2.2.1,(hf b hb).2.1,(hf b hb).2.2.2.2.1,(hf b hb).2.2.2.2.2⟩,I.aBT hC ?_⟩
 rw[bB hDC.symm]
 exact J.free
end
def lS(J:It)(σ₀:St)(g:TG)(tt:TT)(te:TE)(R:List V->Hp->Prop)(H1:Hp):Prop:=
 ∃W:Nat->Nat->List V->Hp->Prop,(∃m,W 0 m [] H1)/\∀i m ys H,W i m ys H->ys.length<=sizeLine/\
  ((J.stop i H/\R ys H)\/(J.go i H/\∃N:List V->Hp->Prop,(∀ys' H',N ys' H'->∃m',m' < m/\W (i+1) m' ys' H')/\
   ∀x H',J.yld i H x H'->g x σ₀ H' λσ2 H2=>tt σ2 H2 λb H3=>if b=true then te σ2 H3 λy H4=>N (ys ++ [y]) H4 else N ys H3))
def aEv(wi:TI)(k:Nat)(idx:List Nat)(g:TG)(tt:TT)(te:TE):TE:=λσ H Q=>wi σ H λJ H1=>lS J (cσ k idx σ) g tt te (λys H'=>∀p,H' p=none->Q (.ref p) (upd H' p (.lst ys))) H1
def PTs(X:Cx)(ifs:List Expr)(t:TT):Prop:=
 ∀(pins:List (Addr×Obj)) (s:Shared) (σ:St) (H:Hp) (Q:Bool->Hp->Prop),Inv X pins σ H s->t σ H Q->
  wpAny (model X.prog X.w) X.A (forIn ifs true λc r=>if r=true then do let ok <-isTrue c X.env (eval c X.env);pure (ForInStep.yield ok) else pure (ForInStep.yield r)) (TP X pins σ Q) X.xe s
def aM1:TT:=λ_ H Q=>Q true H
theorem aKR{X:Cx}:PTs X [] aM1:=λ_ _ _ H _ I h=>wpAny_tests_nil ⟨H,I,h⟩
theorem aKS{X:Cx}{c:Expr}{t:TT}(h:PT X c t):PTs X [c] t:=λpins s σ H Q I q=>wpAny_tests_one (h pins s σ H Q I q)
def Agr(k:Nat)(σ' σ:St):Prop:=σ'.length=σ.length/\∀i,k<=i->σ'[i]?=σ[i]?
theorem Agr.set{k i:Nat}{σ σb:St}{v:Option V}(h:Agr k σ σb)(hi:i < k):Agr k (σ.set i v) σb:=⟨by rw[Rv9];exact h.1,λj hj=>by rw[Sa9 (by omega)];exact h.2 j hj⟩
def Own(k:Nat)(g:TG):Prop:=∀x σ H (Q:St->Hp->Prop) (σb:St),Agr k σ σb->g x σ H Q->g x σ H λσ' H'=>Agr k σ' σb/\Q σ' H'
def aKT(k:Nat)(g:TGs):Prop:=∀xs σ H (Q:St->Hp->Prop) (σb:St),Agr k σ σb->g xs σ H Q->g xs σ H λσ' H'=>Agr k σ' σb/\Q σ' H'
theorem eN{k i:Nat}(h:i < k):Own k (sS i):=λ_ _ _ _ _ a q=>⟨a.set h,q⟩
theorem nJ{k:Nat}:aKT k aKp:=λ_ _ _ _ _ a ⟨e,q⟩=>⟨e,a,q⟩
theorem cW{k i:Nat}{u:TGs}(h:i < k)(hu:aKT k u):aKT k (aGj (sS i) u):=λ_ _ _ Q σb a ⟨v,r,e,q⟩=>⟨v,r,e,hu r _ _ Q σb (a.set h) q⟩
theorem qI{K:W.Frag}{n k:Nat}{u:TGs}(hu:aKT k u):Own k (aKr K n u):=λ_ _ _ Q σb a ⟨l,xs,e,h1,h2,q⟩=>⟨l,xs,e,h1,h2,hu xs _ _ Q σb a q⟩
theorem aIJ(its:List Value)(u:Value)(n:Nat):({ cls:=.type "list",data:=.seq (its.toArray.push u) n }:Obj)={ cls:=.type "list",data:=.seq (its ++ [u]).toArray n }:=by
 rw[List.push_toArray]
section
variable{X:Cx}{pins:List (Addr×Obj)}{σ:St}{H:Hp}{s:Shared}{scope:Scope}{N:List Str}{k:Nat}{idx:List Nat}{fp:List Addr}
theorem aAU{elt target iter:Expr}{ifs:List Expr}{pos:Pos}{it:Addr}{tn:Nat->Heap->Prop}{J:It}{g:TG}{tt:TT}{te:TE}{R:List V->Hp->Prop}{E:Value->Shared->Prop}{RR:Value->Addr->Result->Shared->Prop}
  (S:eM X scope N k idx) (hc:X.calm=true) (I:Inv X pins σ H s) (T:Turn X.prog X.w X.K target J fp it tn) (st:tn 0 s.heap) (hf:∀b∈fp,w5 X pins H b)
  (hg:∀C,PG (cxC X scope N fp C s H) target g) (ho:Own k g) (ht:∀C,PTs (cxC X scope N fp C s H) ifs tt) (he:∀C,PE (cxC X scope N fp C s H) elt te)
  (hw:lS J (cσ k idx σ) g tt te R H)
  (hRR:∀D C s' m ys H',s'.heap.Ns C m->Inv X pins σ (upd H' D (.lst ys)) s'->w5 X pins (upd H' D (.lst ys)) C->H' D=none->R ys H'->RR (.ref D) C (.ok .next) s') :
  wpAny (model X.prog X.w) X.A (newList []) (λacc s₃=>wpAny (model X.prog X.w) X.A (newFunctionEnv scope X.env.globals (lY X.env scope.names []) [] X.env.qual none .none (some X.env)) (λcenv s₄=>
   codeAny (model X.prog X.w) X.A (.compStart (.ListComp elt [⟨target,iter,ifs,0⟩] scope pos) 0 (.ref it) acc { cenv with scope:=relabel scope X.env }) (RR acc cenv.locals) s₄) E s₃) E s:=by
 refine wpAny_newObj_type (wpAny_newFunctionEnv S.nocell (by intro y hy;simp at hy) (λh₁ hns₁ hsb₁=>?_) S.kind)
 dsimp only at hns₁ hsb₁ ⊢
 generalize hH2:s.heap.push { cls:=.type "list",dict:=none,data:=.seq ([]:List Value).toArray } = H2 at hns₁ hsb₁ ⊢
 have hCs:H2.objs.size=s.heap.objs.size+1:=by rw[<-hH2,Th9]
 have hDC:s.heap.objs.size≠H2.objs.size:=by rw[hCs];exact pP (Te9 _)
 have hCle:s.heap.objs.size<=H2.objs.size:=by rw[hCs];exact Uk9 _
 have below:∀b,b < s.heap.objs.size->b≠H2.objs.size:=λb hb=>by rw[hCs];exact pP (Ta9 hb)
 have old:∀b o,s.heap.get? b=some o->h₁.get? b=some o:=λb o e=>hsb₁.extBut b o (below b (hX e)) (lV _ (hH2▸lV _ e))
 have hacc:h₁.get? s.heap.objs.size=some { cls:=.type "list",data:=.seq ([]:List Value).toArray 0 }:=hsb₁.extBut _ _ hDC (lV _ (hH2▸sN _ rfl))
 have st₁:tn 0 h₁:=T.keep _ _ _ st λb _ o e=>old b o e
 obtain⟨W,⟨m0,w0⟩,turn⟩:=hw
 have fp0:∀b∈fp,b < s.heap.objs.size:=λb hb=>by
  obtain⟨o,e,_⟩:=T.obj _ _ st b hb
  exact hX e
 have stat:∀{H':Hp} {pl:List (Addr×Obj)},(∀b∈fp,H' b=none)->(∀p∈pl,s.heap.objs.size<=p.1)->∀b∈fp,w5 (cxC X scope N fp H2.objs.size s H) pl H' b:=λ{H' pl} hn hp b hb=>by
  refine⟨hn b hb,below b (fp0 b hb),λz=>?_,.inl hb,λx c e=>(hf b hb).2.2.2.2.1 x c (oB (S.cells I) e),λp q z=>?_⟩
  ·have z':b∈frs X.stack:=z
   rcases lW.mp (I.aAO b z') with q|q
   ·exact(hf b hb).2.1 q
   ·exact(hf b hb).2.2.1 q
  ·have q':p∈([]:List (Addr×Obj))++pl:=q
   have h1:=hp p (by simpa using q')
   rw[z] at h1
   exact absurd (uU (fp0 b hb) h1) (Sm9 _)
 have loop:∀s₃:Shared,s₃={ s with heap:=h₁,toks:=s.toks+([]:List (Str×Value)).length }->
   codeAny (model X.prog X.w) X.A (.compLoop (.ListComp elt [⟨target,iter,ifs,0⟩] scope pos) 0 (.ref it) (.ref s.heap.objs.size) (compEnvC scope (lY X.env scope.names []) H2.objs.size X.env))
    (RR (.ref s.heap.objs.size) H2.objs.size) s₃:=by
  rintro s₃ rfl
  refine aEs (λn s'=>∃i ys its H' nn,Inv (cxC X scope N fp H2.objs.size s H) [(s.heap.objs.size,{ cls:=.type "list",data:=.seq its.toArray nn })] (cσ k idx σ) H' s'/\tn i s'.heap/\(∀b∈fp,H' b=none)/\Vals ys its/\W i n ys H') ?_ m0
   ⟨0,[],[],H,0,aHl S I hf (λb hb=>let ⟨o,e,_⟩:=T.obj _ _ st b hb;⟨o,e⟩) hCle (dQ _) hDC hns₁ old hacc (λv z=>by cases z),st₁,λb hb=>(hf b hb).1,.nil,w0⟩
  rintro n s' ⟨i,ys,its,H',nn,I',st',fr',rv,w'⟩
  obtain⟨hz,alt⟩:=turn i n ys H' w'
  have pl:∀p∈[((s.heap.objs.size:Addr),({ cls:=.type "list",data:=.seq its.toArray nn }:Obj))],s.heap.objs.size<=p.1:=λp hp=>by
   have e:p=((s.heap.objs.size:Addr),({ cls:=.type "list",data:=.seq its.toArray nn }:Obj)):=by simpa using hp
   rw[e]
   exact dQ _
  rcases alt with ⟨stop,q⟩|⟨go,Nx,hN,step⟩
  ·refine dG (T.done (cxC X scope N fp H2.objs.size s H) rfl rfl rfl hc i _ s' _ H' _ I' (stat fr' pl) st' stop) λr s4 ⟨hr,I4⟩=>?_
   subst hr
   obtain⟨eD,nD,_⟩:=I4.pin _ (Ro9 _ Rc9)
   obtain⟨a1,a2⟩:=aKQ I hf I4 hCle (dQ _) hDC nD eD rv hz
   obtain⟨m4,hn4,_⟩:=I4.loc
   exact hRR _ _ s4 m4 ys H' hn4 a1 a2 nD q
  ·refine dG (T.item (cxC X scope N fp H2.objs.size s H) rfl rfl rfl hc i _ s' _ H' _ I' (stat fr' pl) st' go) λr s4 ⟨u,hr,h4⟩=>?_
   subst hr
   refine dG h4 λ_ s5 ⟨x,H5,I5,r5,y5,st5,fr5⟩=>?_
   have I5':=I5.pinned (stat fr5 pl) (T.obj _ _ st5)
   have noE:∀{α:Type} {t:Sem α} {Q:α->Shared->Prop} {E':Value->Shared->Prop} {sx:Shared},wpAny (model X.prog X.w) X.A t Q (λ_ _=>False) sx->wpAny (model X.prog X.w) X.A t Q E' sx:=λh=>wpAny_mono h (λ_ _ q=>q) λ_ _ z=>z.elim
   refine noE (dG (hg _ _ s5 _ H5 x u _ I5' r5 (ho x _ H5 _ _ ⟨rfl,λ_ _=>rfl⟩ (step x H5 y5))) λ_ s6 ⟨σ6,H6,I6,ag,q6⟩=>?_)
   have back:∀{H7:Hp} {s7:Shared},Inv (cxC X scope N fp H2.objs.size s H) ([((s.heap.objs.size:Addr),({ cls:=.type "list",data:=.seq its.toArray nn }:Obj))] ++ aAQ fp s5.heap) σ6 H7 s7->
     Inv (cxC X scope N fp H2.objs.size s H) [((s.heap.objs.size:Addr),({ cls:=.type "list",data:=.seq its.toArray nn }:Obj))] (cσ k idx σ) H7 s7/\tn (i+1) s7.heap/\∀b∈fp,H7 b=none:=λ{H7 s7} I7=>by
    refine⟨I7.w6.weak (by rw[ag.1]) λj v e=>?_,T.keep _ _ _ st5 λb hb o e=>(I7.pin (b,o) (Ro9 _ (Ro9 _ (qE hb e)))).1,λb hb=>?_⟩
    ·have hj:k<=j:=by
      by_cases hj:j < k
      ·unfold cσ at e
       rw[Qq9 (by simpa using hj),Tv9,if_pos hj] at e
       cases e
      ·omega
     rw[ag.2 j hj]
     exact e
    ·obtain⟨o,e,d⟩:=T.obj _ _ st5 b hb
     exact(I7.pin (b,o) (Ro9 _ (Ro9 _ (qE hb e)))).2.1
   refine noE (dG (ht _ _ s6 σ6 H6 _ I6 q6) λb s7 ⟨H7,I7,q7⟩=>?_)
   cases b with
   |false=>
    rw[if_neg zH] at q7 ⊢
    obtain⟨m',hm,w7⟩:=hN _ _ q7
    obtain⟨b1,b2,b3⟩:=back I7
    exact⟨m',hm,i+1,ys,its,H7,nn,b1,b2,b3,rv,w7⟩
   |true=>
    rw[if_pos rfl] at q7 ⊢
    refine noE (dG (he _ _ s7 σ6 H7 _ I7 q7) λy s8 ⟨z,H8,I8,r8,q8⟩=>?_)
    obtain⟨m',hm,w8⟩:=hN _ _ q8
    obtain⟨b1,b2,b3⟩:=back I8
    obtain⟨eD,nD,neD,nfD,_⟩:=b1.pin _ (Ro9 _ Rc9)
    have lenV:=rv.length
    refine append_at (hsz:=by rw[jV,<-lenV];exact hz) eD λh9 hs9 hD9=>?_
    have b1':Inv (cxC X scope N fp H2.objs.size s H) [] (cσ k idx σ) H8 s8:=b1.aAB λp hp=>by cases hp
    have I9:Inv (cxC X scope N fp H2.objs.size s H) [] (cσ k idx σ) H8 { s8 with heap:=h9 }:=b1'.turned (t':=s8.toks) (λb o hb e=>(hs9.2 b hb).trans e) nD neD (.inr (dQ _)) (λx c e z=>by
     obtain⟨v,q⟩:=I.cell x c (oB (S.cells I) e)
     exact absurd (uU q.lt (by rw[z];exact dQ _)) (Sm9 _)) (λp hp=>by
     have hp':p∈([]:List (Addr×Obj)) ++ []:=hp
     simp at hp')
    refine⟨m',hm,i+1,ys ++ [z],its ++ [y],H8,nn+1,I9.aAB λp hp=>?_,T.keep _ _ _ b2 λb hb o e=>(hs9.2 b (pP (fp0 b hb))).trans e,b3,rv.append (.cons r8 .nil),w8⟩
    have e:p=((s.heap.objs.size:Addr),({ cls:=.type "list",data:=.seq (its ++ [y]).toArray (nn+1) }:Obj)):=by simpa using hp
    subst e
    exact⟨by rw[<-aIJ];exact hD9,nD,neD,nfD,λv z=>by cases z⟩
 exact codeAny_compStart_list (loop _ rfl) (T.self _ 0 _ _ _ st₁ (loop _ rfl))
theorem aKU(k:Nat)(idx:List Nat){N:List Str}{elt target iter:Expr}{ifs:List Expr}{pos:Pos}{wi:TI}{g:TG}{tt:TT}{te:TE}(S:eM X scope N k idx)(hc:X.calm=true)(hi:PI X target iter wi)
  (hg:∀fp C s H,PG (cxC X scope N fp C s H) target g) (ho:Own k g) (ht:∀fp C s H,PTs (cxC X scope N fp C s H) ifs tt) (he:∀fp C s H,PE (cxC X scope N fp C s H) elt te)
  (hs:∀x,foldedSetIterable iter X.env x=pure x:=by intro _;rfl):PE X (.ListComp elt [⟨target,iter,ifs,0⟩] scope pos) (aEv wi k idx g tt te):=by
 intro pins s σ H Q I h
 rw[eval_ListComp]
 refine wpAny_comprehension_free (use:=none) rfl hs (wC (S.cells I)) S.kind S.names (dG (hi pins s σ H _ I h) λv s1 h1=>dG h1 λitv s2 h2=>?_)
 obtain⟨it,fp,tn,J,H2,e,I2,T,st2,f2,w2⟩:=h2
 subst e
 refine aAU (RR:=λacc C=>compPost (model X.prog X.w) X.A X.xe none (EP X pins σ Q) acc C) S hc I2 T st2 f2 (λC=>hg fp C s2 H2) ho (λC=>ht fp C s2 H2) (λC=>he fp C s2 H2) w2 λD C s' m ys H' hn I' fC hD q=>?_
 refine⟨m,hn,λh'' hs''=>⟨.ref D,_,I'.turned (t':=s'.toks) (λb o hb e=>(hs''.2 b hb).trans e) fC.1 fC.2.1 fC.2.2.2.1 fC.2.2.2.2.1 fC.2.2.2.2.2,rfl,q D hD⟩⟩
theorem aKV(k:Nat)(idx:List Nat){i:Nat}{x:Str}{N:List Str}{elt target iter:Expr}{ifs:List Expr}{pos pos' spos:Pos}{wi:TI}{g:TG}{tt:TT}{te:TE}(hN:X.N.Nodup)(hix:X.N[i]?=some x)(hx:Loc X.env.scope x)
  (S:eM X scope N k idx) (hc:X.calm=true) (hi:PI X target iter wi)
  (hg:∀fp C s H,PG (cxC X scope N fp C s H) target g) (ho:Own k g) (ht:∀fp C s H,PTs (cxC X scope N fp C s H) ifs tt) (he:∀fp C s H,PE (cxC X scope N fp C s H) elt te)
  (hsw:swapsWith (.ListComp elt [⟨target,iter,ifs,0⟩] scope pos) (some (.Name x pos')) spos.line X.env=pure true:=by rfl)
  (hs:∀x,foldedSetIterable iter X.env x=pure x:=by intro _;rfl) (hfn:X.fn x=true\/X.env.scope.names.lookup x=some .local:=by first|exact .inl rfl|exact .inr rfl|assumption) :
  PS X (.Assign [.Name x pos'] (.ListComp elt [⟨target,iter,ifs,0⟩] scope pos) spos) (aEh (aEv wi k idx g tt te) (sS i)):=by
 intro pins s σ H D I h
 rw[exec_Assign_Name_used _ _ _ _ hsw]
 refine wpAny_bind (wpAny_standAt (wpAny_bind ?_))
 show wpAny _ X.A (do let _ <-comprehension (.ListComp elt [⟨target,iter,ifs,0⟩] scope pos) scope X.env _ (newList []) false (eval iter X.env) (some (assign (.Name x pos') X.env))) _ _ s
 refine wpAny_bind (wpAny_mono (wpAny_comprehension_free (use:=some (assign (.Name x pos') X.env)) (Q:=λ_ s'=>SP X pins D .next s') rfl hs (wC (S.cells I)) S.kind S.names
  (dG (hi pins s σ H _ I h) λv s1 h1=>dG h1 λitv s2 h2=>?_)) (λ_ s' hq=>wpAny_pure (wpAny_pure hq)) λ_ _ e=>e)
 obtain⟨it,fp,tn,J,H2,e,I2,T,st2,f2,w2⟩:=h2
 subst e
 refine aAU (RR:=λacc C=>compPost (model X.prog X.w) X.A X.xe (some (assign (.Name x pos') X.env)) (λ_ s'=>SP X pins D .next s') acc C) S hc I2 T st2 f2 (λC=>hg fp C s2 H2) ho (λC=>ht fp C s2 H2) (λC=>he fp C s2 H2) w2 λD' C s' m ys H' hn I' fC hD q=>?_
 show wpAny _ X.A (assign (.Name x pos') X.env (.ref D')) _ _ s'
 refine wpAny_assign_Name (aCu I' hN hix hx (show RelV (.ref D') (.ref D') from rfl) (λs3 I3 ⟨a,sb,ha⟩=>?_) hfn)
 have hCa:C≠a:=by
  rcases ha with z|z
  ·rw[z];exact fC.2.1
  ·exact(fC.2.2.2.2.1 x a z).symm
 refine⟨m,hn.sameBut sb hCa,λh'' hs''=>⟨_,_,I3.turned (t':=s3.toks) (λb o hb e=>(hs''.2 b hb).trans e) fC.1 fC.2.1 fC.2.2.2.1 fC.2.2.2.2.1 fC.2.2.2.2.2,q D' hD⟩⟩
end
theorem dP{K:W.Frag}{a:Addr}{xs:List V}{σ₀:St}{g:TG}{tt:TT}{te:TE}{R:List V->Hp->Prop}{H:Hp}(Pv:Nat->List V->Hp->Prop)(h0:Pv 0 [] H)(hz:xs.length<=sizeLine)
  (hl:∀i ys H,i<=xs.length->Pv i ys H->bU K H a xs/\ys.length<=i)
  (hs:∀i x ys H,xs[i]?=some x->Pv i ys H->g x σ₀ H λσ2 H2=>tt σ2 H2 λb H3=>if b=true then te σ2 H3 λy H4=>Pv (i+1) (ys ++ [y]) H4 else Pv (i+1) ys H3)
  (hd:∀ys H,Pv xs.length ys H->R ys H):lS (Itl K a) σ₀ g tt te R H:=by
 refine⟨λi m ys H=>m=xs.length - i/\i<=xs.length/\Pv i ys H,⟨xs.length,by simp,zL _,h0⟩,?_⟩
 rintro i m ys H ⟨rfl,hi,p⟩
 obtain⟨q,ql⟩:=hl i ys H hi p
 refine⟨by omega,?_⟩
 by_cases hlt:i < xs.length
 ·refine .inr ⟨⟨xs,xs[i],q,by simp[hlt]⟩,Pv (i+1),λys' H' p'=>⟨xs.length - (i+1),by omega,rfl,hlt,p'⟩,λx H' y=>?_⟩
  obtain⟨e,y⟩:=y
  subst e
  exact hs i x ys _ (y xs q) p
 ·have e:i=xs.length:=by omega
  subst e
  exact .inl ⟨⟨xs,q,dQ _⟩,hd ys H p⟩
theorem aIK{K:W.Frag}{a:Addr}{xs:List V}{σ₀:St}{g:TG}{tt:TT}{te:TE}{R:List V->Hp->Prop}{H:Hp}(Pv:Nat->List V->Hp->Prop)(h0:Pv 0 [] H)(hz:xs.length<=sizeLine)
  (hl:∀i ys H,i<=xs.length->Pv i ys H->iY K H a xs/\ys.length<=i)
  (hs:∀i x ys H,xs[i]?=some x->Pv i ys H->g x σ₀ H λσ2 H2=>tt σ2 H2 λb H3=>if b=true then te σ2 H3 λy H4=>Pv (i+1) (ys ++ [y]) H4 else Pv (i+1) ys H3)
  (hd:∀ys H,Pv xs.length ys H->R ys H):lS (Itt K a) σ₀ g tt te R H:=by
 refine⟨λi m ys H=>m=xs.length - i/\i<=xs.length/\Pv i ys H,⟨xs.length,by simp,zL _,h0⟩,?_⟩
 rintro i m ys H ⟨rfl,hi,p⟩
 obtain⟨q,ql⟩:=hl i ys H hi p
 refine⟨by omega,?_⟩
 by_cases hlt:i < xs.length
 ·refine .inr ⟨⟨xs,xs[i],q,by simp[hlt]⟩,Pv (i+1),λys' H' p'=>⟨xs.length - (i+1),by omega,rfl,hlt,p'⟩,λx H' y=>?_⟩
  obtain⟨e,y⟩:=y
  subst e
  exact hs i x ys _ (y xs q) p
 ·have e:i=xs.length:=by omega
  subst e
  exact .inl ⟨⟨xs,q,dQ _⟩,hd ys H p⟩
theorem aAV{lo:Int}{n:Nat}{σ₀:St}{g:TG}{tt:TT}{te:TE}{R:List V->Hp->Prop}{H:Hp}(Pv:Nat->List V->Hp->Prop)(h0:Pv 0 [] H)(hz:n<=sizeLine)
  (hl:∀i ys H,i<=n->Pv i ys H->ys.length<=i)
  (hs:∀i ys H,i < n->Pv i ys H->g (.int (lo+i)) σ₀ H λσ2 H2=>tt σ2 H2 λb H3=>if b=true then te σ2 H3 λy H4=>Pv (i+1) (ys ++ [y]) H4 else Pv (i+1) ys H3)
  (hd:∀ys H,Pv n ys H->R ys H):lS (Itr lo n) σ₀ g tt te R H:=by
 refine⟨λi m ys H=>m=n - i/\i<=n/\Pv i ys H,⟨n,by simp,zL _,h0⟩,?_⟩
 rintro i m ys H ⟨rfl,hi,p⟩
 have ql:=hl i ys H hi p
 refine⟨by omega,?_⟩
 by_cases hlt:i < n
 ·refine .inr ⟨hlt,Pv (i+1),λys' H' p'=>⟨n - (i+1),by omega,rfl,hlt,p'⟩,λx H' y=>?_⟩
  obtain⟨e,y⟩:=y
  subst e y
  exact hs i ys _ hlt p
 ·have e:i=n:=by omega
  subst e
  exact .inl ⟨dQ _,hd ys H p⟩
end L2
namespace L2
open PySem PySem.Spec PyProof.Rows
theorem aM2:bootBuiltins "int" = some (.type "int"):=by decide +kernel
theorem aGr:bootBuiltins "bool" = some (.type "bool"):=by decide +kernel
theorem oC:bootBuiltins "list" = some (.type "list"):=by decide +kernel
theorem aIL:bootBuiltins "tuple" = some (.type "tuple"):=by decide +kernel
theorem aAF:bootBuiltins "dict" = some (.type "dict"):=by decide +kernel
theorem dI:bootBuiltins "len" = some (.builtin "len"):=by decide +kernel
theorem aM3:bootBuiltins "abs" = some (.builtin "abs"):=by decide +kernel
theorem wG:bootBuiltins "max" = some (.builtin "max"):=by decide +kernel
theorem yV:bootBuiltins "min" = some (.builtin "min"):=by decide +kernel
theorem aM4:bootBuiltins "sum" = some (.builtin "sum"):=by decide +kernel
theorem aAW:bootBuiltins "all" = some (.builtin "all"):=by decide +kernel
theorem aM5:bootBuiltins "any" = some (.builtin "any"):=by decide +kernel
theorem aHm:bootBuiltins "sorted" = some (.builtin "sorted"):=by decide +kernel
theorem hZ:bootBuiltins "isinstance" = some (.builtin "isinstance"):=by decide +kernel
section
variable{X:Cx}
def aIM:R2:=λx y H Q=>rI0 (λi j=>.int (i+j)) x y H Q\/aOA x y H Q
theorem bY:rZ X (binaryOp .Add) aIM:=aMC.or aMR
def aLX:R2:=λx y H Q=>rI aIh (λi j=>.int (i*j)) x y H Q\/aOB x y H Q
theorem cJ:rZ X (binaryOp .Mult) aLX:=aMD.or aMS
def aDe(K:W.Frag):V->Option Int->Option Int->Hp->VK->Prop:=λx lo hi H Q=>aOy K x lo hi H Q\/aOt K x lo hi H Q
theorem aFB:SlR X (aDe X.K):=aKH.or aMJ
def EqN(K:W.Frag)(H:Hp):Nat->V->V->Bool->Prop
 |0,x,y,b=>lI x=true/\lI y=true/\b=eqV x y
 |n+1,x,y,b=>(lI x=true/\lI y=true/\b=eqV x y)\/
  ∃(p q:Addr) (xs ys:List V) (e:Nat->Bool),x=.ref p/\y=.ref q/\((bU K H p xs/\bU K H q ys)\/(iY K H p xs/\iY K H q ys))/\
   (∀(j:Nat) u v,xs[j]?=some u->ys[j]?=some v->EqN K H n u v (e j))/\b=(xs.length == ys.length && (List.range xs.length).all e)
theorem aEw{x:V}(h:lI x=true):eqV x x=true:=by
 cases x with
 |non=>rfl
 |bl b=>cases b <;> rfl
 |int i=>exact beq_self_eq_true i
 |str z=>exact beq_self_eq_true z
 |_=>exact absurd (show false=true from h) zH
theorem aEx{pins:List (Addr×Obj)}{σ:St}{H:Hp}{s:Shared}(I:Inv X pins σ H s):∀{n:Nat}{x:V}{b:Bool},EqN X.K H n x x b->b=true
 |0,x,b,⟨h,_,e⟩=>by rw[e];exact aEw h
 |n+1,x,b,h=>by
  rcases h with ⟨h,_,e⟩|⟨p,q,xs,ys,e,e1,e2,hs,he,eb⟩
  ·rw[e];exact aEw h
  ·subst e1
   cases e2
   have exy:xs=ys:=by
    rcases hs with ⟨h1,h2⟩|⟨h1,h2⟩
    ·exact I.sQ h1 h2
    ·exact I.aCv h1 h2
   subst exy
   rw[eb,beq_self_eq_true,Tb9,Ry9]
   intro j hj
   have hj':j < xs.length:=Rn9.mp hj
   exact aEx I (he j xs[j] xs[j] (dF hj') (dF hj'))
theorem aIN{pins:List (Addr×Obj)}{σ:St}{H:Hp}{s:Shared}(I:Inv X pins σ H s):∀{n:Nat}{A:Around}{x y:V}{u v:Value}{b:Bool},A.units+n < cLine->RelV x u->RelV y v->EqN X.K H n x y b->SeqAt.EqAt A s u v b
 |0,A,x,y,u,v,b,_,rx,ry,⟨h1,h2,e⟩=>by rw[e];exact aIv rx ry h1 h2
 |n+1,A,x,y,u,v,b,hu,rx,ry,h=>by
  rcases id h with ⟨h1,h2,e⟩|⟨p,q,xs,ys,e,e1,e2,hs,he,eb⟩
  ·rw[e];exact aIv rx ry h1 h2
  ·subst e1 e2
   cases rx
   cases ry
   by_cases hpq:p=q
   ·subst hpq
    rw[aEx I h]
    exact SeqAt.EqAt.same _
   ·refine SeqAt.EqAt.of_refs hpq ?_
    have items:∀{us vs:List Value},Vals xs us->Vals ys vs->∀j (h1:j < us.toArray.size) (h2:j < vs.toArray.size),SeqAt.EqAt A.in1 s us.toArray[j] vs.toArray[j] (e j):=λ{us vs} r1 r2 j h1 h2=>by
     have l1:=r1.length
     have l2:=r2.length
     rw[jV] at h1 h2
     have g1:xs[j]?=some xs[j]:=dF (by omega)
     have g2:ys[j]?=some ys[j]:=dF (by omega)
     obtain⟨u',eu,ru⟩:=r1.get g1
     obtain⟨v',ev,rv⟩:=r2.get g2
     have eu':us.toArray[j]=u':=by
      rw[Tn9]
      exact Option.some.inj ((dF h1).symm.trans eu)
     have ev':vs.toArray[j]=v':=by
      rw[Tn9]
      exact Option.some.inj ((dF h2).symm.trans ev)
     rw[eu',ev']
     exact aIN I (n:=n) (by show A.units+1+n < cLine;omega) ru rv (he j _ _ g1 g2)
    rcases hs with ⟨h1,h2⟩|⟨h1,h2⟩
    ·obtain⟨us,r1,p1,_⟩:=I.list h1
     obtain⟨vs,r2,p2,_⟩:=I.list h2
     have l1:=r1.length
     have l2:=r2.length
     by_cases hl:xs.length=ys.length
     ·rw[eb,hl,beq_self_eq_true,Tb9,<-hl,show xs.length=us.toArray.size by rw[jV];exact l1]
      exact SeqAt.RcAt.lists p1.isList p2.isList (by rw[jV,jV];omega) (by omega) (items r1 r2)
     ·rw[eb,show(xs.length == ys.length)=false by simpa using hl,Rx9]
      exact SeqAt.RcAt.lists_lengths p1.isList p2.isList (by rw[jV,jV];simp;omega) (by omega)
    ·obtain⟨us,r1,p1,_⟩:=I.tuple h1
     obtain⟨vs,r2,p2,_⟩:=I.tuple h2
     have l1:=r1.length
     have l2:=r2.length
     have q:=SeqAt.RcAt.tuples (s:=s) (A:=A) (l:=p) (b:=q) (e:=e) p1 p2 (by omega) (items r1 r2)
     rw[jV,jV,<-l1,<-l2] at q
     by_cases hl:xs.length=ys.length
     ·rw[eb,hl,beq_self_eq_true,Tb9]
      rw[hl,Nat.min_self,beq_self_eq_true,Bool.and_true] at q
      exact q
     ·have hb:(xs.length == ys.length)=false:=by simpa using hl
      rw[eb,hb,Rx9]
      rw[hb,Rh9] at q
      exact q
def jY(K:W.Frag):R2:=λx y H Q=>∃b,EqN K H 8 x y b/\Q (.bl b) H
def yW(K:W.Frag):R2:=λx y H Q=>∃b,EqN K H 8 x y b/\Q (.bl (!b)) H
theorem uW{pins:List (Addr×Obj)}{σ:St}{H:Hp}{s:Shared}{n:Nat}{A:Around}{xs ys:List V}{us vs:List Value}{e:Nat->Bool}(I:Inv X pins σ H s)(hu:A.units+1+n < cLine)
  (he:∀(j:Nat) u v,xs[j]?=some u->ys[j]?=some v->EqN X.K H n u v (e j)) (r1:Vals xs us) (r2:Vals ys vs):∀j (h1:j < us.toArray.size) (h2:j < vs.toArray.size),SeqAt.EqAt A.in1 s us.toArray[j] vs.toArray[j] (e j):=λj h1 h2=>by
 have l1:=r1.length
 have l2:=r2.length
 rw[jV] at h1 h2
 have g1:xs[j]?=some xs[j]:=dF (by omega)
 have g2:ys[j]?=some ys[j]:=dF (by omega)
 obtain⟨u',eu,ru⟩:=r1.get g1
 obtain⟨v',ev,rv⟩:=r2.get g2
 have eu':us.toArray[j]=u':=by
  rw[Tn9]
  exact Option.some.inj ((dF h1).symm.trans eu)
 have ev':vs.toArray[j]=v':=by
  rw[Tn9]
  exact Option.some.inj ((dF h2).symm.trans ev)
 rw[eu',ev']
 exact aIN I (n:=n) (by show A.units+1+n < cLine;omega) ru rv (he j _ _ g1 g2)
theorem aM6{A:Around}{s:Shared}{y x:V}{u v:Value}(ry:RelV y u)(rx:RelV x v)(fy:lI y=true)(fx:lI x=true):SeqAt.RcAt A s u v (eqV y x):=by
 cases y with
 |non=>
  cases ry
  cases x with
  |non=>cases rx;exact SeqAt.RcAt.none_none
  |bl b=>cases rx;exact SeqAt.RcAt.none_bool b
  |int b=>obtain⟨t,rfl⟩:=rx;exact SeqAt.RcAt.none_int b t
  |str b=>obtain⟨t,rfl⟩:=rx;exact SeqAt.RcAt.none_str b t
  |_=>exact absurd (show false=true from fx) zH
 |bl a=>
  cases ry
  cases x with
  |non=>cases rx;exact SeqAt.RcAt.bool_none a
  |bl b=>cases rx;exact SeqAt.RcAt.bool_bool a b
  |int b=>obtain⟨t,rfl⟩:=rx;exact SeqAt.RcAt.bool_int a b t
  |str b=>obtain⟨t,rfl⟩:=rx;exact SeqAt.RcAt.bool_str a b t
  |_=>exact absurd (show false=true from fx) zH
 |int a=>
  obtain⟨t',rfl⟩:=ry
  cases x with
  |non=>cases rx;exact SeqAt.RcAt.int_none a t'
  |bl b=>cases rx;exact SeqAt.RcAt.int_bool a t' b
  |int b=>obtain⟨t,rfl⟩:=rx;exact SeqAt.RcAt.int_int a t' b t
  |str b=>obtain⟨t,rfl⟩:=rx;exact SeqAt.RcAt.int_str a t' b t
  |_=>exact absurd (show false=true from fx) zH
 |str a=>
  obtain⟨t',rfl⟩:=ry
  cases x with
  |non=>cases rx;exact SeqAt.RcAt.str_none a t'
  |bl b=>cases rx;exact SeqAt.RcAt.str_bool a t' b
  |int b=>obtain⟨t,rfl⟩:=rx;exact SeqAt.RcAt.str_int a t' b t
  |str b=>obtain⟨t,rfl⟩:=rx;exact SeqAt.RcAt.str_str a t' b t
  |_=>exact absurd (show false=true from fx) zH
 |_=>exact absurd (show false=true from fy) zH
theorem aIO{A:Around}{s:Shared}{y x:V}{u v:Value}(ry:RelV y u)(rx:RelV x v)(fy:lI y=true)(fx:lI x=true):SeqAt.RcNeAt A s u v (!eqV y x):=by
 cases y with
 |non=>
  cases ry
  cases x with
  |non=>cases rx;exact SeqAt.RcNeAt.none_none
  |bl b=>cases rx;exact SeqAt.RcNeAt.none_bool b
  |int b=>obtain⟨t,rfl⟩:=rx;exact SeqAt.RcNeAt.none_int b t
  |str b=>obtain⟨t,rfl⟩:=rx;exact SeqAt.RcNeAt.none_str b t
  |_=>exact absurd (show false=true from fx) zH
 |bl a=>
  cases ry
  cases x with
  |non=>cases rx;exact SeqAt.RcNeAt.bool_none a
  |bl b=>cases rx;exact SeqAt.RcNeAt.bool_bool a b
  |int b=>obtain⟨t,rfl⟩:=rx;exact SeqAt.RcNeAt.bool_int a b t
  |str b=>obtain⟨t,rfl⟩:=rx;exact SeqAt.RcNeAt.bool_str a b t
  |_=>exact absurd (show false=true from fx) zH
 |int a=>
  obtain⟨t',rfl⟩:=ry
  cases x with
  |non=>cases rx;exact SeqAt.RcNeAt.int_none a t'
  |bl b=>cases rx;exact SeqAt.RcNeAt.int_bool a t' b
  |int b=>obtain⟨t,rfl⟩:=rx;exact SeqAt.RcNeAt.int_int a t' b t
  |str b=>obtain⟨t,rfl⟩:=rx;exact SeqAt.RcNeAt.int_str a t' b t
  |_=>exact absurd (show false=true from fx) zH
 |str a=>
  obtain⟨t',rfl⟩:=ry
  cases x with
  |non=>cases rx;exact SeqAt.RcNeAt.str_none a t'
  |bl b=>cases rx;exact SeqAt.RcNeAt.str_bool a t' b
  |int b=>obtain⟨t,rfl⟩:=rx;exact SeqAt.RcNeAt.str_int a t' b t
  |str b=>obtain⟨t,rfl⟩:=rx;exact SeqAt.RcNeAt.str_str a t' b t
  |_=>exact absurd (show false=true from fx) zH
 |_=>exact absurd (show false=true from fy) zH
theorem dR(hu:X.A.units+9 < cLine):rZ X (compareOp .Eq) (jY X.K):=by
 intro pins s σ H x y v u Q I rx ry h
 obtain⟨b,h,q⟩:=h
 have fin:EP X pins σ Q (.bool b) s:=⟨.bl b,H,I,rfl,q⟩
 rcases h with ⟨h1,h2,e⟩|⟨p,l,xs,ys,e,e1,e2,hs,he,eb⟩
 ·exact aM6 rx ry h1 h2 X.prog X.w X.xe _ (by rw[<-e];exact fin)
 ·subst e1 e2
  cases rx
  cases ry
  rcases hs with ⟨h1,h2⟩|⟨h1,h2⟩
  ·obtain⟨us,r1,p1,_⟩:=I.list h1
   obtain⟨vs,r2,p2,_⟩:=I.list h2
   have l1:=r1.length
   have l2:=r2.length
   by_cases hl:xs.length=ys.length
   ·refine SeqAt.RcAt.lists p1.isList p2.isList (by rw[jV,jV];omega) (by omega) (uW I (n:=7) (A:=X.A) (by omega) he r1 r2) X.prog X.w X.xe _ ?_
    rw[jV,<-l1]
    rw[eb,hl,beq_self_eq_true,Tb9,<-hl] at fin
    exact fin
   ·refine SeqAt.RcAt.lists_lengths p1.isList p2.isList (by rw[jV,jV];simp;omega) (by omega) X.prog X.w X.xe _ ?_
    rw[eb,show(xs.length == ys.length)=false by simpa using hl,Rx9] at fin
    exact fin
  ·obtain⟨us,r1,p1,_⟩:=I.tuple h1
   obtain⟨vs,r2,p2,_⟩:=I.tuple h2
   have l1:=r1.length
   have l2:=r2.length
   refine SeqAt.RcAt.tuples p1 p2 (by omega) (uW I (n:=7) (A:=X.A) (by omega) he r1 r2) X.prog X.w X.xe _ ?_
   rw[jV,jV,<-l1,<-l2]
   rw[eb] at fin
   by_cases hl:xs.length=ys.length
   ·rw[hl,beq_self_eq_true,Tb9] at fin
    rw[hl,Nat.min_self,beq_self_eq_true,Bool.and_true]
    exact fin
   ·have hb:(xs.length == ys.length)=false:=by simpa using hl
    rw[hb,Rx9] at fin
    rw[hb,Rh9]
    exact fin
theorem sZ(hu:X.A.units+9 < cLine):rZ X (compareOp .NotEq) (yW X.K):=by
 intro pins s σ H x y v u Q I rx ry h
 obtain⟨b,h,q⟩:=h
 have fin:EP X pins σ Q (.bool (!b)) s:=⟨.bl (!b),H,I,rfl,q⟩
 rcases h with ⟨h1,h2,e⟩|⟨p,l,xs,ys,e,e1,e2,hs,he,eb⟩
 ·exact aIO rx ry h1 h2 X.prog X.w X.xe _ (by rw[<-e];exact fin)
 ·subst e1 e2
  cases rx
  cases ry
  rcases hs with ⟨h1,h2⟩|⟨h1,h2⟩
  ·obtain⟨us,r1,p1,_⟩:=I.list h1
   obtain⟨vs,r2,p2,_⟩:=I.list h2
   have l1:=r1.length
   have l2:=r2.length
   by_cases hl:xs.length=ys.length
   ·refine SeqAt.RcNeAt.lists p1.isList p2.isList (by rw[jV,jV];omega) (by omega) (uW I (n:=7) (A:=X.A) (by omega) he r1 r2) X.prog X.w X.xe _ ?_
    rw[jV,<-l1]
    rw[eb,hl,beq_self_eq_true,Tb9,<-hl] at fin
    exact fin
   ·refine SeqAt.RcNeAt.lists_lengths p1.isList p2.isList (by rw[jV,jV];simp;omega) (by omega) X.prog X.w X.xe _ ?_
    rw[eb,show(xs.length == ys.length)=false by simpa using hl,Rx9] at fin
    exact fin
  ·obtain⟨us,r1,p1,_⟩:=I.tuple h1
   obtain⟨vs,r2,p2,_⟩:=I.tuple h2
   have l1:=r1.length
   have l2:=r2.length
   refine SeqAt.RcNeAt.tuples p1 p2 (by omega) (uW I (n:=7) (A:=X.A) (by omega) he r1 r2) X.prog X.w X.xe _ ?_
   rw[jV,jV,<-l1,<-l2]
   rw[eb] at fin
   by_cases hl:xs.length=ys.length
   ·rw[hl,beq_self_eq_true,Tb9] at fin
    rw[hl,Nat.min_self,beq_self_eq_true,Bool.and_true]
    exact fin
   ·have hb:(xs.length == ys.length)=false:=by simpa using hl
    rw[hb,Rx9] at fin
    rw[hb,Rh9]
    exact fin
def IsI(K:W.Frag)(H:Hp)(x:V)(c:V)(b:Bool):Prop:=∃t,xC K H x t/\((∃T,c=.ty T/\PySem.W.kitOne K t (.type T)=some b)\/(∃C,c=.ref C/\PySem.W.kitOne K t (.ref C)=some b))
theorem aIP:eJ X (.builtin "isinstance") (λxs H Q=>∃x c b,xs=[x,c]/\IsI X.K H x c b/\Q (.bl b) H):=by
 intro pins s σ H xs us Q I r h
 obtain⟨x,c,b,rfl,⟨t,ty,hc⟩,q⟩:=h
 obtain⟨u,w',rfl,rx,ry⟩:=vals2 r
 rcases hc with ⟨T,rfl,e⟩|⟨C,rfl,e⟩
 ·cases ry
  exact aCy I rx ty e λtk=>⟨.bl b,H,I.tok _,rfl,q⟩
 ·cases ry
  exact aCy I rx ty e λtk=>⟨.bl b,H,I.tok _,rfl,q⟩
end
end L2
namespace L2
open PySem PySem.Spec PyProof.Rows
section
variable{X:Cx}
def gIx(K:W.Frag):V->V->Hp->VK->Prop:=λx y H Q=>∃p xs i v,x=.ref p/\y=.int i/\bU K H p xs/\0<=i/\xs[i.toNat]?=some v/\Q v H
theorem aM7:aMw X (gIx X.K):=by
 intro pins s σ H x y v u Q I rx ry h
 obtain⟨p,xs,i,z,rfl,rfl,hq,h0,he,q⟩:=h
 cases rx
 obtain⟨t,rfl⟩:=ry
 obtain⟨its,r,pl,hz⟩:=I.list hq
 obtain⟨w,ew,rw'⟩:=r.get he
 have hl:=r.length
 have hn:=yP
 have hi:i.toNat < xs.length:=(lG.mp he).1
 exact wpAny_getItem_list pl.isList h0 (by omega) (by simpa using ew) ⟨z,H,I,rw',q⟩
theorem qJ{k:Nat}{A:Around}(hr:eI k A):A.units+9 < cLine:=by have:=hr.un;omega
end
section
variable{σ:St}{H:Hp}{nx bk ct:St->Hp->Prop}{rt:VK}{Q:VK}{QT:Bool->Hp->Prop}{QA:List V->Hp->Prop}{QG:St->Hp->Prop}
theorem bK{t:TS}{D:Ends}{σ σ':St}(e:σ'=σ)(h:t D σ H):t D σ' H:=e▸h
theorem aM8{t u:TS}(h:t ⟨u ⟨nx,rt,bk,ct⟩,rt,bk,ct⟩ σ H):aH6 t u ⟨nx,rt,bk,ct⟩ σ H:=h
theorem aKW(h:nx σ H):aH5 ⟨nx,rt,bk,ct⟩ σ H:=h
theorem aM9{te:TE}{g:TG}(h:te σ H λx H1=>g x σ H1 nx):aEh te g ⟨nx,rt,bk,ct⟩ σ H:=h
theorem aKX{te:TE}(h:te σ H λ_ H1=>nx σ H1):aH8 te ⟨nx,rt,bk,ct⟩ σ H:=h
theorem aNa{te:TE}(h:te σ H rt):aMm te ⟨nx,rt,bk,ct⟩ σ H:=h
theorem aNb{c:TT}{t u:TS}(h:c σ H λb H1=>if b=true then t ⟨nx,rt,bk,ct⟩ σ H1 else u ⟨nx,rt,bk,ct⟩ σ H1):aMo c t u ⟨nx,rt,bk,ct⟩ σ H:=h
theorem aFC{i:Nat}{te:TE}{ti:TIp}{x:V}(e:σ[i]?=some (some x))(h:te σ H λy H1=>ti x y H1 λz H2=>nx (σ.set i (some z)) H2):aMu i te ti ⟨nx,rt,bk,ct⟩ σ H:=⟨x,e,h⟩
theorem aKY{to ti te:TE}{tget:V->V->Hp->VK->Prop}{tip:TIp}{tset:aC6}(h:to σ H λo H1=>ti σ H1 λi H2=>tget o i H2 λx H3=>te σ H3 λy H4=>tip x y H4 λz H5=>tset o i z H5 λH6=>nx σ H6):aIe to ti te tget tip tset ⟨nx,rt,bk,ct⟩ σ H:=h
theorem aNc{wi:TI}{g:TG}{tb:TS}(h:wi σ H λJ H1=>∃W:Nat->Nat->St->Hp->Prop,(∃m,W 0 m σ H1)/\∀i m σ H,W i m σ H->
 (J.stop i H/\nx σ H)\/(J.go i H/\∃N:St->Hp->Prop,(∀σ' H',N σ' H'->∃m',m' < m/\W (i+1) m' σ' H')/\∀x H',J.yld i H x H'->g x σ H' λσ2 H2=>tb ⟨N,rt,nx,N⟩ σ2 H2)):aMz wi g tb ⟨nx,rt,bk,ct⟩ σ H:=h
theorem aIQ{i:Nat}{v:V}{σ':St}(e:σ.set i (some v)=σ')(h:QG σ' H):sS i v σ H QG:=by unfold sS;rw[e];exact h
theorem fB{K:W.Frag}{n:Nat}{t:TGs}{a:Addr}{xs:List V}(h1:iY K H a xs)(h2:xs.length=n)(h:t xs σ H QG):aKr K n t (.ref a) σ H QG:=⟨a,xs,rfl,h1,h2,h⟩
theorem aKZ(h:QG σ H):aKp [] σ H QG:=⟨rfl,h⟩
theorem aIR{t:TG}{u:TGs}{v:V}{r:List V}(h:t v σ H λσ' H'=>u r σ' H' QG):aGj t u (v::r) σ H QG:=⟨v,r,rfl,h⟩
theorem aK0{to ti:TE}{t:aC6}{v:V}(h:to σ H λo H1=>ti σ H1 λi H2=>t o i v H2 λH3=>QG σ H3):aMq to ti t v σ H QG:=h
theorem aAG{p:Addr}{xs:List V}{k:Int}{v:V}{j:Nat}{QH:Hp->Prop}(h1:H p=some (.lst xs))(h2:ixN xs.length k=some j)(h:QH (upd H p (.lst (xs.set j v)))):aLV (.ref p) (.int k) v H QH:=⟨p,xs,k,j,rfl,rfl,h1,h2,h⟩
theorem aNd{K:W.Frag}{p:Addr}{xs:List V}{i:Int}{v:V}(h1:bU K H p xs)(h0:0<=i)(h2:xs[i.toNat]?=some v)(h:Q v H):gIx K (.ref p) (.int i) H Q:=⟨p,xs,i,v,rfl,rfl,h1,h0,h2,h⟩
theorem aNe{f:Int->Int->Int}{i j:Int}(h:Q (.int (f i j)) H):ipI f (.int i) (.int j) H Q:=⟨i,j,rfl,rfl,h⟩
theorem aNf{i:Nat}{v:V}(e:σ[i]?=some (some v))(h:Q v H):aL9 i σ H Q:=⟨v,e,h⟩
theorem aPt{v:V}(h:Q v H):tC v σ H Q:=h
theorem aOF{r:R2}{ta tb:TE}(h:ta σ H λx H1=>tb σ H1 λy H2=>r x y H2 Q):tOp r ta tb σ H Q:=h
theorem aOG{r:V->Hp->VK->Prop}{ta:TE}(h:ta σ H λx H1=>r x H1 Q):tUn r ta σ H Q:=h
theorem aNg{g:Int->Int->V}{i j:Int}(h:Q (g i j) H):rI0 g (.int i) (.int j) H Q:=⟨i,j,rfl,rfl,h⟩
theorem aOH{C:Int->Int->Prop}{g:Int->Int->V}{i j:Int}(c:C i j)(h:Q (g i j) H):rI C g (.int i) (.int j) H Q:=⟨i,j,rfl,rfl,c,h⟩
theorem aOI{g:Int->V}{i:Int}(h:Q (g i) H):rU g (.int i) H Q:=⟨i,rfl,h⟩
theorem aK1{i j:Int}(h:Q (.int (i+j)) H):aIM (.int i) (.int j) H Q:=.inl ⟨i,j,rfl,rfl,h⟩
theorem lZ{l b:Addr}{xs zs:List V}(h1:H l=some (.lst xs))(h2:H b=some (.lst zs))(hz:xs.length+zs.length<=sizeLine)(h:∀p,H p=none->Q (.ref p) (upd H p (.lst (xs++zs)))):aIM (.ref l) (.ref b) H Q:=.inr ⟨l,b,xs,zs,rfl,rfl,h1,h2,hz,h⟩
theorem aK2{i j:Int}(c:aIh i j)(h:Q (.int (i*j)) H):aLX (.int i) (.int j) H Q:=.inl ⟨i,j,rfl,rfl,c,h⟩
theorem aNh{K:W.Frag}{x y:V}(h1:lI x=true)(h2:lI y=true)(h:Q (.bl (eqV x y)) H):jY K x y H Q:=⟨_,.inl ⟨h1,h2,rfl⟩,h⟩
theorem aIS{K:W.Frag}{x y:V}(h1:lI x=true)(h2:lI y=true)(h:Q (.bl (!eqV x y)) H):yW K x y H Q:=⟨_,.inl ⟨h1,h2,rfl⟩,h⟩
theorem aDf{K:W.Frag}{p:Addr}{xs:List V}{i:Int}{v:V}(h1:bU K H p xs)(h2:p9 xs i=some v)(h:Q v H):rIx K (.ref p) (.int i) H Q:=.inl ⟨p,xs,i,v,rfl,rfl,h1,h2,h⟩
theorem aNi{K:W.Frag}{p:Addr}{xs:List V}{i:Int}{v:V}(h1:iY K H p xs)(h2:p9 xs i=some v)(h:Q v H):rIx K (.ref p) (.int i) H Q:=.inr (.inl ⟨p,xs,i,v,rfl,rfl,h1,h2,h⟩)
theorem aOJ{r:V->Option Int->Option Int->Hp->VK->Prop}{te:TE}{tl th:TO}(h:te σ H λx H1=>tl σ H1 λl H2=>th σ H2 λu H3=>r x l u H3 Q):tSl r te tl th σ H Q:=h
theorem aHn{QO:Option Int->Hp->Prop}(h:QO none H):aC8 σ H QO:=h
theorem aK3{t:TE}{QO:Option Int->Hp->Prop}(h:t σ H λx H1=>∃i,x=.int i/\QO (some i) H1):aIt t σ H QO:=h
theorem qK{K:W.Frag}{a:Addr}{xs:List V}{lo hi:Option Int}(h1:bU K H a xs)(h:∀p,H p=none->Q (.ref p) (upd H p (.lst (lP xs lo hi)))):aDe K (.ref a) lo hi H Q:=.inl ⟨a,xs,rfl,h1,h⟩
theorem aK4{ta tb:TE}(h:ta σ H λx H1=>∃c,x=.bl c/\if c=true then tb σ H1 Q else Q (.bl false) H1):aH3 ta tb σ H Q:=h
theorem aNj{ta tb:TE}(h:ta σ H λx H1=>∃c,x=.bl c/\if c=true then Q (.bl true) H1 else tb σ H1 Q):aMi ta tb σ H Q:=h
theorem aK5{ta:TE}(h:ta σ H λx H1=>∃c,x=.bl c/\Q (.bl (!c)) H1):aH4 ta σ H Q:=h
theorem aIT{r r':R2}{ta tb tc:TE}(h:ta σ H λx H1=>tb σ H1 λy H2=>r x y H2 λz H3=>∃k,z=.bl k/\(if k=true then tc σ H3 λw' H4=>r' y w' H4 Q else Q (.bl false) H3)):aFl r r' ta tb tc σ H Q:=h
theorem aK6{t:TE}(h:t σ H λx H'=>∃k,x=.bl k/\QT k H'):aIi t σ H QT:=h
theorem aOK{t:TE}(h:t σ H λx H'=>∃k,x=.bl k/\QT k H'):tB t σ H QT:=h
theorem aNk{t u:TT}(h:t σ H λc H1=>if c=true then u σ H1 QT else QT false H1):aMd t u σ H QT:=h
theorem aOL{t u:TT}(h:t σ H λc H1=>if c=true then QT true H1 else u σ H1 QT):tOr t u σ H QT:=h
theorem aNl{t:TT}(h:t σ H λc H1=>QT (!c) H1):aMe t σ H QT:=h
theorem aNm(h:QT true H):aM1 σ H QT:=h
theorem aOM{b:Bool}{P:Bool->Prop}(h:P b):∃k,V.bl b=V.bl k/\P k:=⟨b,rfl,h⟩
theorem aK7{i:Int}{P:Int->Prop}(h:P i):∃k,V.int i=V.int k/\P k:=⟨i,rfl,h⟩
theorem aON{i:Int}{P:Int->Prop}(h:P i):∃k,[V.int i]=[V.int k]/\P k:=⟨i,rfl,h⟩
theorem aOO{i j:Int}{P:Int->Int->Prop}(h:P i j):∃k l,[V.int i,V.int j]=[V.int k,V.int l]/\P k l:=⟨i,j,rfl,h⟩
theorem aNn(h:QA [] H):o9 σ H QA:=h
theorem aK8{ta:TE}{tr:TA}(h:ta σ H λx H1=>tr σ H1 λxs H2=>QA (x::xs) H2):bW ta tr σ H QA:=h
theorem aNo{t:TA}(h:t σ H λxs H1=>xs.length<=sizeLine/\∀p,H1 p=none->Q (.ref p) (upd H1 p (.tup xs))):aEj t σ H Q:=h
theorem aNp{t:TA}(h:t σ H λxs H1=>xs.length<=sizeLine/\∀p,H1 p=none->Q (.ref p) (upd H1 p (.lst xs))):yR t σ H Q:=h
theorem aK9{sp:Sp}{E:XK}{t:TA}(h:t σ H λvs H1=>sp vs H1 Q E):aEk sp [] E t σ H Q:=by
 unfold aEk
 simpa only [Si9] using h
theorem aOP{r:List V->Hp->VK->Prop}{t:TA}(h:t σ H λvs H1=>r vs H1 Q):tCB r t σ H Q:=h
theorem aLa{wi:TI}{k:Nat}{idx:List Nat}{g:TG}{tt:TT}{te:TE}(h:wi σ H λJ H1=>lS J (cσ k idx σ) g tt te (λys H'=>∀p,H' p=none->Q (.ref p) (upd H' p (.lst ys))) H1):aEv wi k idx g tt te σ H Q:=h
theorem aIU{ta:TA}{R:It->Hp->Prop}(h:ta σ H λvs H1=>∃j:Int,vs=[.int j]/\-(2 ^ 62)<=j/\j < 2 ^ 62/\R (Itr 0 j.toNat) H1):aGk ta σ H R:=h
theorem aIV{ta:TA}{R:It->Hp->Prop}(h:ta σ H λvs H1=>∃i j:Int,vs=[.int i,.int j]/\(-(2 ^ 62)<=i/\i < 2 ^ 62/\-(2 ^ 62)<=j/\j < 2 ^ 62)/\R (Itr i (j - i).toNat) H1):aGl ta σ H R:=h
theorem aNq{K:W.Frag}{ta:TE}{f:Str}(h:ta σ H λx H1=>∃a C dx fs v,x=.ref a/\H1 a=some (.ins C dx fs)/\Cls K C/\fA K C f/\fs.lookup f=some v/\Q v H1):aME K ta f σ H Q:=h
theorem aLb{n:Nat}{P:Prop}(h1:n<=sizeLine)(h:P):n<=sizeLine/\P:=⟨h1,h⟩
theorem cO{n:Nat}(h:n<=16777216):n<=sizeLine:=by rw[sizeLine_eq];exact h
end
section
variable{A B:Prop}{c:Prop}[Decidable c]
theorem cI(h1:c->A)(h2:¬c->B):if decide c=true then A else B:=by
 by_cases h:c
 ·rw[if_pos (decide_eq_true h)];exact h1 h
 ·rw[if_neg (by simpa using h)];exact h2 h
theorem oE(h1:¬c->A)(h2:c->B):if (!decide c)=true then A else B:=by
 by_cases h:c
 ·rw[if_neg (by simpa using h)];exact h2 h
 ·rw[if_pos (by simpa using h)];exact h1 h
theorem uX{b:Bool}(h1:b=true->A)(h2:b=false->B):if b=true then A else B:=by
 cases b
 ·exact aKO (h2 rfl)
 ·exact aKP (h1 rfl)
end
def aLY(sc:Scope)(NX:List Str)(scope:Scope)(N:List Str)(k:Nat)(idx:List Nat):Bool:=
 scope.names.all (λy=>!(y.2 == .cell)) && scope.names.all (λy=>!(y.2 == .local) || scope.names.lookup y.1 == some .local) &&
 scope.names.all (λy=>!(y.2 == .free) || (sc.names.lookup y.1 == some .cell || sc.names.lookup y.1 == some .free)) &&
 decide N.Nodup && decide (N.length=k+idx.length) && (List.range idx.length).all λi=>
  match (N.drop k)[i]?,idx[i]? with
  |some x,some j=>decide (NX[j]?=some x) && scope.names.lookup x == some .free
  |_,_=>false
theorem dZ{X:Cx}{scope:Scope}{N:List Str}{k:Nat}{idx:List Nat}{sc:Scope}{NX:List Str}(hsc:X.env.scope=sc)(hN:X.N=NX)(hk:scope.kind=.function)(h:aLY sc NX scope N k idx=true):eM X scope N k idx:=by
 unfold aLY at h
 simp only[Sj9,decide_eq_true_eq] at h
 obtain⟨⟨⟨⟨⟨h1,h2⟩,h3⟩,h4⟩,h5⟩,h6⟩:=h
 rw[Ry9] at h1 h2 h3 h6
 refine⟨hk,λy hy e=>?_,λy hy e=>?_,λy hy e=>?_,h4,h5,λi x e=>?_⟩
 ·have:=h1 y hy
  rw[e] at this
  simp at this
 ·have:=h2 y hy
  rw[e] at this
  simpa using this
 ·have:=h3 y hy
  rw[e] at this
  show X.env.scope.names.lookup y.1=_\/X.env.scope.names.lookup y.1=_
  rw[hsc]
  simpa using this
 ·have hi:i < (N.drop k).length:=(lG.mp e).1
  have hi2:i < idx.length:=by rw[Sf9] at hi;omega
  have q:=h6 i (Rn9.mpr hi2)
  rw[e,dF hi2] at q
  simp only[Sj9,decide_eq_true_eq] at q
  exact⟨idx[i],dF hi2,by rw[hN];exact q.1,by simpa using q.2⟩
theorem bQ{H:Hp}{a b:Addr}{o:HO}(h':H b=none)(h:H a=some o):a≠b:=bO h h'
theorem aU.at{H H':Hp}{b:Addr}{o:HO}(e:aU H H')(h:H b=some o):H' b=some o:=e b o h
def cE(p:Addr)(H H':Hp):Prop:=∀b o,H b=some o->b≠p->H' b=some o
theorem cE.at{p:Addr}{H H':Hp}{b:Addr}{o:HO}(e:cE p H H')(h:H b=some o)(n:b≠p):H' b=some o:=e b o h n
theorem aU.new{H:Hp}{p:Addr}{o:HO}(h:H p=none):aU H (upd H p o):=λb u e=>by rw[bB (bO e h)];exact e
theorem cE.upd{H:Hp}{p:Addr}{o:HO}:cE p H (upd H p o):=λb u e n=>by rw[bB n];exact e
theorem cE.trans{p:Addr}{H H1 H2:Hp}(a:cE p H H1)(b:cE p H1 H2):cE p H H2:=λc o h n=>b c o (a c o h n) n
theorem aU.keep{p:Addr}{H H':Hp}(a:aU H H'):cE p H H':=λc o h _=>a c o h
end L2
namespace L2
open PySem PySem.Spec PyProof.Rows
section
variable{σ:St}{H:Hp}{nx bk ct:St->Hp->Prop}{rt:VK}
theorem xH{t u:TS}(J:St->Hp->Prop)(h1:∀N:St->Hp->Prop,(∀σ' H',J σ' H'->N σ' H')->t ⟨N,rt,bk,ct⟩ σ H)(h2:∀σ' H',J σ' H'->u ⟨nx,rt,bk,ct⟩ σ' H'):aH6 t u ⟨nx,rt,bk,ct⟩ σ H:=h1 _ h2
end
theorem aCF{K:W.Frag}{a:Addr}{xs:List V}{σ₀:St}{g:TG}{tt:TT}{te:TE}{R:List V->Hp->Prop}{H:Hp}(f:V->V)(hS:bU K H a xs)(hz:xs.length<=sizeLine)
  (hs:∀x (N:V->Hp->Prop) (N':Hp->Prop),x∈xs->N (f x) H->g x σ₀ H λσ2 H2=>tt σ2 H2 λb H3=>if b=true then te σ2 H3 λy H4=>N y H4 else N' H3)
  (hd:R (xs.map f) H):lS (Itl K a) σ₀ g tt te R H:=by
 refine dP (λi ys H'=>H'=H/\ys=(xs.take i).map f) ⟨rfl,by simp⟩ hz (λi ys H' hi z1q=>?_) (λi x ys H' hx z2q=>?_) (λys H' z3q=>?_)
 ·obtain⟨e1,e2⟩:=z1q
  subst e1 e2
  exact⟨hS,by simp;omega⟩
 ·obtain⟨e1,e2⟩:=z2q
  subst e1 e2
  refine hs x (λy H4=>H4=H'/\(xs.take i).map f ++ [y]=(xs.take (i+1)).map f) (λH3=>H3=H'/\(xs.take i).map f=(xs.take (i+1)).map f) (iW hx) ⟨rfl,?_⟩
  rw[Sg9,hx,iI]
  rfl
 ·obtain⟨e1,e2⟩:=z3q
  subst e1 e2
  rw[Rb9]
  exact hd
theorem aFD{lo:Int}{n:Nat}{σ₀:St}{g:TG}{tt:TT}{te:TE}{R:List V->Hp->Prop}{H:Hp}(f:Nat->V)(hz:n<=sizeLine)
  (hs:∀i (N:V->Hp->Prop) (N':Hp->Prop),i < n->N (f i) H->g (.int (lo+i)) σ₀ H λσ2 H2=>tt σ2 H2 λb H3=>if b=true then te σ2 H3 λy H4=>N y H4 else N' H3)
  (hd:R ((List.range n).map f) H):lS (Itr lo n) σ₀ g tt te R H:=by
 refine aAV (λi ys H'=>H'=H/\ys=(List.range i).map f) ⟨rfl,by simp⟩ hz (λi ys H' hi z4q=>?_) (λi ys H' hi z5q=>?_) (λys H' z6q=>?_)
 ·obtain⟨e1,e2⟩:=z4q
  subst e1 e2
  simp
 ·obtain⟨e1,e2⟩:=z5q
  subst e1 e2
  refine hs i (λy H4=>H4=H'/\(List.range i).map f ++ [y]=(List.range (i+1)).map f) (λH3=>H3=H'/\(List.range i).map f=(List.range (i+1)).map f) hi ⟨rfl,?_⟩
  rw[List.range_succ,iI]
  rfl
 ·obtain⟨e1,e2⟩:=z6q
  subst e1 e2
  exact hd
theorem aLc{X:Cx}{x:Str}{n:Int}{pos:Pos}(hg:Gl X x)(hm:∃t,X.mg x=some (.int n t))(hd:(x == ("__debug__" : Str))=false:=by decide):PE X (.Name x pos) (tC (.int n)):=by
 obtain⟨t,hm⟩:=hm
 exact aKi (v:=.int n) hg hm ⟨t,rfl⟩ hd
section
variable{X:Cx}{K:W.Frag}{H:Hp}{Q:VK}
def lK(K:W.Frag):List V->Hp->VK->Prop:=λxs H Q=>∃x n,xs=[x]/\aOr K x H n/\Q (.int n) H
theorem cB:eJ X (.builtin "len") (lK X.K):=aIl
theorem aLd{p:Addr}{xs:List V}(h:bU K H p xs)(q:Q (.int xs.length) H):lK K [.ref p] H Q:=⟨_,_,rfl,.inl ⟨_,h,rfl⟩,q⟩
theorem aLe{p:Addr}{xs:List V}(h:iY K H p xs)(q:Q (.int xs.length) H):lK K [.ref p] H Q:=⟨_,_,rfl,.inr ⟨_,h,rfl⟩,q⟩
def aOQ:List V->Hp->VK->Prop:=λxs H Q=>∃i,xs=[.int i]/\Q (.int (if i < 0 then -i else i)) H
theorem aHo:eJ X (.builtin "abs") aOQ:=aIk
theorem aNr{i:Int}(h:Q (.int (if i < 0 then -i else i)) H):aOQ [.int i] H Q:=⟨i,rfl,h⟩
def aOR:List V->Hp->VK->Prop:=λxs H Q=>∃i j,xs=[.int i,.int j]/\Q (.int (if j > i then j else i)) H
theorem jZ(hc:X.calm=true):eJ X (.builtin "max") aOR:=aHa hc
theorem aNs{i j:Int}(h:Q (.int (max i j)) H):aOR [.int i,.int j] H Q:=⟨i,j,rfl,by
 rw[show(if j > i then j else i)=max i j by split <;> omega];exact h⟩
def aOS:List V->Hp->VK->Prop:=λxs H Q=>∃i j,xs=[.int i,.int j]/\Q (.int (if j < i then j else i)) H
theorem pU(hc:X.calm=true):eJ X (.builtin "min") aOS:=aHb hc
theorem aNt{i j:Int}(h:Q (.int (min i j)) H):aOS [.int i,.int j] H Q:=⟨i,j,rfl,by
 rw[show(if j < i then j else i)=min i j by split <;> omega];exact h⟩
def aFE(K:W.Frag):List V->Hp->VK->Prop:=λxs H Q=>∃x c b,xs=[x,c]/\IsI K H x c b/\Q (.bl b) H
theorem pV:eJ X (.builtin "isinstance") (aFE X.K):=aIP
theorem aAX{x c:V}{b:Bool}(h1:IsI K H x c b)(h:Q (.bl b) H):aFE K [x,c] H Q:=⟨x,c,b,rfl,h1,h⟩
def mB(K:W.Frag):List V->Hp->VK->Prop:=λxs H Q=>∃p ys,xs=[.ref p]/\(bU K H p ys\/iY K H p ys)/\∀l,H l=none->Q (.ref l) (upd H l (.lst ys))
theorem iK:eJ X (.type "list") (mB X.K):=aDb
theorem nK{p:Addr}{ys:List V}(h1:bU K H p ys)(h:∀l,H l=none->Q (.ref l) (upd H l (.lst ys))):mB K [.ref p] H Q:=⟨p,ys,rfl,.inl h1,h⟩
end
theorem aLf{K:W.Frag}{H:Hp}{p q:Addr}{xs:List V}(h1:bU K H p xs)(h2:bU K H q []):EqN K H 8 (.ref p) (.ref q) xs.isEmpty:=
 .inr ⟨p,q,xs,[],λ_=>true,rfl,rfl,.inl ⟨h1,h2⟩,λj u v _ e=>by simp at e,by cases xs <;> simp⟩
theorem aIW{xs:List V}{n:Nat}(h:xs.length<=n):lP xs none (some (n:Int))=xs:=by
 unfold lP
 rw[HT.xD,HT.aAD,Nat.min_eq_right h,List.drop_zero,Um9,Rb9]
end L2
namespace L2
open PySem PySem.Spec PyProof.Rows
section
variable{σ:St}{H:Hp}{nx:St->Hp->Prop}{rt:VK}{g:TG}{tb:TS}{Q:VK}
theorem nL{lo:Int}{n:Nat}(Pv:Nat->St->Hp->Prop)(h0:Pv 0 σ H)
  (hs:∀i σ H,i < n->Pv i σ H->g (.int (lo+i)) σ H λσ2 H2=>tb ⟨Pv (i+1),rt,nx,Pv (i+1)⟩ σ2 H2) (hd:∀σ H,Pv n σ H->nx σ H) :
  ∃W:Nat->Nat->St->Hp->Prop,(∃m,W 0 m σ H)/\∀i m σ H,W i m σ H->
   ((Itr lo n).stop i H/\nx σ H)\/((Itr lo n).go i H/\∃N:St->Hp->Prop,(∀σ' H',N σ' H'->∃m',m' < m/\W (i+1) m' σ' H')/\∀x H',(Itr lo n).yld i H x H'->g x σ H' λσ2 H2=>tb ⟨N,rt,nx,N⟩ σ2 H2):=
 aG9 (D:=⟨nx,rt,λ_ _=>False,λ_ _=>False⟩) Pv h0 hs hd
theorem qM{K:W.Frag}{a:Addr}{xs:List V}(Pv:Nat->St->Hp->Prop)(h0:Pv 0 σ H)(hl:∀i σ H,i<=xs.length->Pv i σ H->bU K H a xs)
  (hs:∀i x σ H,xs[i]?=some x->Pv i σ H->g x σ H λσ2 H2=>tb ⟨Pv (i+1),rt,nx,Pv (i+1)⟩ σ2 H2) (hd:∀σ H,Pv xs.length σ H->nx σ H) :
  ∃W:Nat->Nat->St->Hp->Prop,(∃m,W 0 m σ H)/\∀i m σ H,W i m σ H->
   ((Itl K a).stop i H/\nx σ H)\/((Itl K a).go i H/\∃N:St->Hp->Prop,(∀σ' H',N σ' H'->∃m',m' < m/\W (i+1) m' σ' H')/\∀x H',(Itl K a).yld i H x H'->g x σ H' λσ2 H2=>tb ⟨N,rt,nx,N⟩ σ2 H2):=
 aIg (D:=⟨nx,rt,λ_ _=>False,λ_ _=>False⟩) Pv h0 hl hs hd
theorem aDg{K:W.Frag}{a:Addr}{xs:List V}(Pv:Nat->St->Hp->Prop)(h0:Pv 0 σ H)(hl:∀i σ H,i<=xs.length->Pv i σ H->iY K H a xs)
  (hs:∀i x σ H,xs[i]?=some x->Pv i σ H->g x σ H λσ2 H2=>tb ⟨Pv (i+1),rt,nx,Pv (i+1)⟩ σ2 H2) (hd:∀σ H,Pv xs.length σ H->nx σ H) :
  ∃W:Nat->Nat->St->Hp->Prop,(∃m,W 0 m σ H)/\∀i m σ H,W i m σ H->
   ((Itt K a).stop i H/\nx σ H)\/((Itt K a).go i H/\∃N:St->Hp->Prop,(∀σ' H',N σ' H'->∃m',m' < m/\W (i+1) m' σ' H')/\∀x H',(Itt K a).yld i H x H'->g x σ H' λσ2 H2=>tb ⟨N,rt,nx,N⟩ σ2 H2):=
 aKu (D:=⟨nx,rt,λ_ _=>False,λ_ _=>False⟩) Pv h0 hl hs hd
theorem aNu{K:W.Frag}{i j:Int}(h:Q (.bl (decide (i=j))) H):jY K (.int i) (.int j) H Q:=⟨_,.inl ⟨rfl,rfl,rfl⟩,h⟩
theorem aIX{K:W.Frag}{i j:Int}(h:Q (.bl (!decide (i=j))) H):yW K (.int i) (.int j) H Q:=⟨_,.inl ⟨rfl,rfl,rfl⟩,h⟩
end
end L2
namespace L2
open PySem PySem.Spec PyProof.Rows
def noStar:Expr->Bool
 |.Starred _ _=>false
 |_=>true
theorem bZ{e:Expr}{es:List Expr}{env:Env}(h:noStar e=true):starEach (e::es) env=(false,eval e env)::starEach es env:=by
 cases e <;> first|rfl|exact absurd h zH
theorem jB{env:Env}{pos:Pos}:∀{es:List Expr},es.all noStar=true->(backTo pos (starEach es env)).any (·.1)=false
 |[],_=>rfl
 |e::es,h=>by
  rw[List.all_cons,Sj9] at h
  rw[bZ h.1]
  have ih:=jB (env:=env) (pos:=pos) h.2
  unfold backTo at ih ⊢
  rw[Rg9,List.any_cons]
  rw[ih]
  rfl
section
variable{X:Cx}{CX:CXT}{k:Nat}{f C:Addr}{fd:FuncData}{ps:List Str}{sp:Sp}{dvs:List V}{ds:List Value}{E:XK}{x m:Str}{p pos apos:Pos}{e o:Expr}{es:List Expr}{ta te:TE}{t:TA}
theorem jW(ha:PE X e te)(hr:PA X es t)(hs:noStar e=true:=by rfl):PA X (e::es) (bW te t):=aKA ha hr (bZ hs)
theorem hV{e:Expr}{es:List Expr}(h:(e::es).all noStar=true):noStar e=true/\es.all noStar=true:=by
 rw[List.all_cons,Sj9] at h
 exact h
theorem aIY(F:cR X.prog X.w X.K X.mg X.base CX k f fd ps sp)(hr:eI k X.A)(hg:Gl X x)(hm:X.mg x=some (.ref f))(hk:W.keepIn X.K (.ref f)=true)(hb:Binds X.K fd ps ds)(hd:Vals dvs ds)(hx:Passes CX X E)
  (ha:PA X (e::es) t) (hn:(e::es).all noStar=true:=by rfl) (hdb:(x == ("__debug__" : Str))=false:=by decide):PE X (.Call (.Name x p) (e::es) [] pos) (aEk sp dvs E t):=
 aKB F hr hg hm hk hb hd hx ha hdb (bZ (hV hn).1) (jB (hV hn).2)
theorem aIZ(M:Mk X.K C f)(F:cR X.prog X.w X.K X.mg X.base CX k f fd ps sp)(hr:eI (k+1) X.A)(hg:Gl X x)(hm:X.mg x=some (.ref C))(hb:Binds X.K fd ps ds)(hd:Vals dvs ds)(hx:Passes CX X E)
  (ha:PA X (e::es) t) (hn:(e::es).all noStar=true:=by rfl) (hdb:(x == ("__debug__" : Str))=false:=by decide):PE X (.Call (.Name x p) (e::es) [] pos) (aEm C sp dvs E t):=
 aKD M F hr hg hm hb hd hx ha hdb (bZ (hV hn).1) (jB (hV hn).2)
variable{id T:String}{r:List V->Hp->VK->Prop}
theorem aHp(hc:eJ X (.builtin id) r)(hg:Gl X x)(hm:X.mg x=none)(hv:bootBuiltins x=some (.builtin id))(ha:PA X (e::es) t)(hn:(e::es).all noStar=true:=by rfl)(hne:x≠"__name__":=by decide)(hdb:(x == ("__debug__" : Str))=false:=by decide) :
  PE X (.Call (.Name x p) (e::es) [] pos) (tCB r t):=aIr hc hg hm hv ha hne hdb (bZ (hV hn).1) (jB (hV hn).2)
theorem aFF(hc:eJ X (.type T) r)(hg:Gl X x)(hm:X.mg x=none)(hv:bootBuiltins x=some (.type T))(ha:PA X (e::es) t)(hn:(e::es).all noStar=true:=by rfl)(hne:x≠"__name__":=by decide)(hdb:(x == ("__debug__" : Str))=false:=by decide) :
  PE X (.Call (.Name x p) (e::es) [] pos) (tCB r t):=aHf hc hg hm hv ha hne hdb (bZ (hV hn).1) (jB (hV hn).2)
variable{tg a b:Expr}
theorem aFG(hg:Gl X "range")(hm:X.mg "range" = none)(ha:PA X [a] t)(hn:noStar a=true:=by rfl):PI X tg (.Call (.Name "range" p) [a] [] pos) (aGk t):=aG6 hg hm ha (bZ hn)
theorem aFH(hg:Gl X "range")(hm:X.mg "range" = none)(ha:PA X [a,b] t)(hn:noStar a=true:=by rfl)(hn2:noStar b=true:=by rfl):PI X tg (.Call (.Name "range" p) [a,b] [] pos) (aGl t):=
 aG7 hg hm ha (by rw[bZ hn,bZ hn2];rfl) (bZ hn2)
end
end L2
namespace L2
open PySem PySem.Spec PyProof.Rows
section
variable{X:Cx}{pos:Pos}{x1:Nat}{e1 e2 e3 e4 e5 e6 e7 e8:Expr}{t1 t2 t3 t4 t5 t6 t7 t8:TE}
theorem aPu(h1:PE X e1 t1)(n1:noStar e1=true:=by rfl):PE X (.List [e1] pos) (yR (bW t1 o9)):=yS (jW h1 qH n1)
theorem aPv(h1:PE X e1 t1)(h2:PE X e2 t2)(n1:noStar e1=true:=by rfl)(n2:noStar e2=true:=by rfl):PE X (.List [e1,e2] pos) (yR (bW t1 (bW t2 o9))):=yS (jW h1 (jW h2 qH n2) n1)
theorem aPw{k1}(h1:PE X e1 t1)(h2:PE X e2 t2)(n1:noStar e1=true:=by rfl)(n2:noStar e2=true:=by rfl):PE X (.Tuple [e1,e2] k1 pos) (aEj (bW t1 (bW t2 o9))):=aFs (jW h1 (jW h2 qH n2) n1)
theorem aPx(h1:PE X e1 t1)(h2:PE X e2 t2)(h3:PE X e3 t3)(n1:noStar e1=true:=by rfl)(n2:noStar e2=true:=by rfl)(n3:noStar e3=true:=by rfl):PE X (.List [e1,e2,e3] pos) (yR (bW t1 (bW t2 (bW t3 o9)))):=yS (jW h1 (jW h2 (jW h3 qH n3) n2) n1)
theorem aPy{k1}(h1:PE X e1 t1)(h2:PE X e2 t2)(h3:PE X e3 t3)(n1:noStar e1=true:=by rfl)(n2:noStar e2=true:=by rfl)(n3:noStar e3=true:=by rfl):PE X (.Tuple [e1,e2,e3] k1 pos) (aEj (bW t1 (bW t2 (bW t3 o9)))):=aFs (jW h1 (jW h2 (jW h3 qH n3) n2) n1)
theorem aPz(h1:PE X e1 t1)(h2:PE X e2 t2)(h3:PE X e3 t3)(h4:PE X e4 t4)(n1:noStar e1=true:=by rfl)(n2:noStar e2=true:=by rfl)(n3:noStar e3=true:=by rfl)(n4:noStar e4=true:=by rfl):PE X (.List [e1,e2,e3,e4] pos) (yR (bW t1 (bW t2 (bW t3 (bW t4 o9))))):=yS (jW h1 (jW h2 (jW h3 (jW h4 qH n4) n3) n2) n1)
theorem aPA{k1}(h1:PE X e1 t1)(h2:PE X e2 t2)(h3:PE X e3 t3)(h4:PE X e4 t4)(h5:PE X e5 t5)(n1:noStar e1=true:=by rfl)(n2:noStar e2=true:=by rfl)(n3:noStar e3=true:=by rfl)(n4:noStar e4=true:=by rfl)(n5:noStar e5=true:=by rfl):PE X (.Tuple [e1,e2,e3,e4,e5] k1 pos) (aEj (bW t1 (bW t2 (bW t3 (bW t4 (bW t5 o9)))))):=aFs (jW h1 (jW h2 (jW h3 (jW h4 (jW h5 qH n5) n4) n3) n2) n1)
theorem aPB(h1:PE X e1 t1)(h2:PE X e2 t2)(h3:PE X e3 t3)(h4:PE X e4 t4)(h5:PE X e5 t5)(h6:PE X e6 t6)(h7:PE X e7 t7)(n1:noStar e1=true:=by rfl)(n2:noStar e2=true:=by rfl)(n3:noStar e3=true:=by rfl)(n4:noStar e4=true:=by rfl)(n5:noStar e5=true:=by rfl)(n6:noStar e6=true:=by rfl)(n7:noStar e7=true:=by rfl):PE X (.List [e1,e2,e3,e4,e5,e6,e7] pos) (yR (bW t1 (bW t2 (bW t3 (bW t4 (bW t5 (bW t6 (bW t7 o9)))))))):=yS (jW h1 (jW h2 (jW h3 (jW h4 (jW h5 (jW h6 (jW h7 qH n7) n6) n5) n4) n3) n2) n1)
end
end L2
namespace L2
open PySem PySem.Spec PyProof.Rows
section
variable{X:Cx}{pins:List (Addr×Obj)}{σ:St}{H:Hp}{s:Shared}{h':Heap}
theorem Inv.yX{t':Nat}{ch:List Addr}{T:Addr}{o:HO}(I:Inv X pins σ H s)(k:∀b u,b∉ch->s.heap.get? b=some u->h'.get? b=some u)
  (hch:∀b∈ch,w5 X pins H b) (hT:s.heap.objs.size<=T) (new:cA X.prog X.w (upd H T o) h' T o):Inv X pins σ (upd H T o) { s with heap:=h',toks:=t' }:=by
 have hn:H T=none:=I.hok.fresh hT
 have nit:∀b u,H b=some u->b∉ch:=λb u e z=>by rw[(hch b z).1] at e;cases e
 have neT:∀b u,H b=some u->b≠T:=λb u e=>bO e hn
 refine I.step (g':=s.gens) (d':=s.drawn) (ch:=ch) (λb hb=>?_) (λb u _ _ hc e _=>k b u hc e) (λb u _ _ hc e _=>⟨u.slots,k b u hc e⟩) (λb u hc e n=>?_)
  (λb u hc e=>⟨u,k b u hc e⟩) (λb xs e=>?_) (λb u v e=>?_) (λb ps e=>⟨#[],?_⟩) (λm hm=>?_) (λb u e=>?_) I.bare
 ·obtain⟨f0,f1,f2,f3,f4,f5⟩:=hch b hb
  exact⟨f3,f1,f4,f5⟩
 ·rw[bB (pP (uU (hX e) hT))];exact n
 ·rw[bB (neT _ _ e)];exact e
 ·rw[bB (neT _ _ e)];exact e
 ·rw[bB (neT _ _ e),e];simp
 ·obtain⟨u,es,ep,ho,r⟩:=hm
  exact⟨u,es,ep,k _ u (λz=>(hch _ z).2.1 rfl) ho,r⟩
 ·by_cases hb:b=T
  ·subst hb;rw[aT] at e;cases e;exact new
  ·rw[bB hb] at e
   refine(I.hok b u e).yN (λc v hc q=>k c v ?_ q) (λc q=>by rw[bB (bO q hn)];exact q) λc xs _ q=>by rw[bB (bO q hn)];exact q
   rcases hc with z|z
   ·rw[z];exact nit b u e
   ·exact nit c _ z
end
def Ite(K:W.Frag)(a:Addr):It:=
 ⟨λi H=>∃xs x,bU K H a xs/\xs[i]?=some x,λi H x H'=>∃T v,H T=none/\x=.ref T/\H'=upd H T (.tup [.int i,v])/\∀xs,bU K H a xs->xs[i]?=some v,λi H=>∃xs,bU K H a xs/\xs.length<=i⟩
theorem aHq{P:Program}{w:World}{K:W.Frag}{elts:List Expr}{x1:Nat}{tp:Pos}(a e it:Addr)(hei:e≠it) :
  Turn P w K (.Tuple elts x1 tp) (Ite K a) [e,it] e (λi h=>(∃old,IsEnum h e it ((i:Nat):Int) old)/\h.IsListIter it a i) where
 mem:=by simp
 obj:=λi h st b hb=>by
  obtain⟨⟨old,he⟩,st⟩:=st
  rcases lW.mp hb with z|hb
  ·subst z
   exact⟨_,he,λv z=>by cases z⟩
  ·have z:b=it:=by simpa using hb
   subst z
   obtain⟨o,e,c,d⟩:=st
   exact⟨o,e,λv z=>by rw[d] at z;cases z⟩
 keep:=λi h h' st k=>by
  obtain⟨⟨old,he⟩,st⟩:=st
  exact⟨⟨old,k e (by simp) _ he⟩,st.at λo q=>k it (by simp) o q⟩
 item:=by
  intro X hP hw hK hc i pins s σ H E I hf st hg
  subst hP hw hK
  obtain⟨⟨old,he⟩,st⟩:=st
  obtain⟨xs,x,hq,hx⟩:=hg
  obtain⟨its,rv,p,hz⟩:=I.list hq
  obtain⟨u,hu,ru⟩:=rv.get hx
  have helt:e < s.heap.objs.size:=hX he
  have hilt:it < s.heap.objs.size:=by obtain⟨_,z,_⟩:=id st;exact hX z
  refine wpAny_pyNext_enum_item he st p.isList (x:=u) (by simpa using hu) hei λh1 ho hit1 hT hsz hk=>?_
  refine⟨_,rfl,wpAny_letOwnedTupleGo_enum ho λh2 he2 hs2=>?_⟩
  replace hs2:Heap.SameBut e h1 h2:=hs2
  have hT2:h2.IsTuple s.heap.objs.size #[.int i s.toks,u]:=⟨_,(hs2.2 _ (Tj9 helt)).trans hT,rfl,_,rfl⟩
  have kk:∀b o,b∉[e,it]->s.heap.get? b=some o->h2.get? b=some o:=λb o hb q=>by
   have n1:b≠e:=λz=>hb (by simp[z])
   have n2:b≠it:=λz=>hb (by simp[z])
   exact(hs2.2 b n1).trans (hk b o n1 n2 q)
  have I2:Inv X pins σ (upd H s.heap.objs.size (.tup [.int i,x])) { s with heap:=h2,toks:=s.toks+1 }:=
   I.yX kk hf (dQ _) (show cA X.prog X.w _ h2 _ (.tup [.int i,x]) from⟨cO (by simp),[.int i s.toks,u],.cons ⟨_,rfl⟩ (.cons ru .nil),hT2⟩)
  have hfr:H s.heap.objs.size=none:=I.hok.fresh (dQ _)
  refine⟨.ref s.heap.objs.size,_,I2,rfl,⟨_,x,hfr,rfl,rfl,λys hy=>by rw[I.sQ hy hq];exact hx⟩,⟨⟨u,?_⟩,?_⟩,λb hb=>?_⟩
  ·have e1:((i+1:Nat):Int)=(i:Int)+1:=by push_cast;rfl
   rw[e1]
   exact he2
  ·exact hit1.at λo q=>(hs2.2 it hei.symm).trans q
  ·have hlt:b < s.heap.objs.size:=by
    rcases lW.mp hb with z|hb
    ·rw[z];exact helt
    ·rw[show b=it by simpa using hb];exact hilt
   rw[bB (pP hlt)]
   exact(hf b hb).1
 done:=by
  intro X hP hw hK hc i pins s σ H E I hf st hg
  subst hP hw hK
  obtain⟨⟨old,he⟩,st⟩:=st
  obtain⟨xs,hq,hx⟩:=hg
  obtain⟨its,rv,p,hz⟩:=I.list hq
  obtain⟨f0,f1,f2,f3,f4,f5⟩:=hf it (by simp)
  have hl:=rv.length
  exact wpAny_pyNext_enum_end (I.ok.hd hc) he st p.isList (by simp;omega) λh' eb=>⟨rfl,I.turned (t':=s.toks) (λb o hb e=>eb b o hb e) f0 f1 f3 f4 f5⟩
 self:=λ_ _ _ _ _ st h=>by
  obtain⟨⟨old,he⟩,st⟩:=st
  exact wpAny_pyIter_enum he h
section
variable{X:Cx}{elts:List Expr}{x1:Nat}{tp:Pos}
def aI0(K:W.Frag)(ta:TA):TI:=λσ H R=>ta σ H λvs H1=>∃a,vs=[.ref a]/\(∃xs,bU K H1 a xs)/\R (Ite K a) H1
theorem aLg{a:Expr}{ta:TA}{p pos:Pos}(hg:Gl X "enumerate")(hm:X.mg "enumerate" = none)(ha:PA X [a] ta)(hn:noStar a=true:=by rfl):PI X (.Tuple elts x1 tp) (.Call (.Name "enumerate" p) [a] [] pos) (aI0 X.K ta):=by
 intro pins s σ H R I h
 refine Call_ (sP I hg hm boot_enumerate (PyProof.Rows.callWith_type1 (dG (ha pos pins s σ H _ I h) λus s1 ⟨vs,H1,I1,r1,q1⟩=>?_) (bZ hn) rfl))
 obtain⟨l,e,⟨xs,hq⟩,q⟩:=q1
 subst e
 obtain⟨u,rfl,ru⟩:=vals1 r1
 cases ru
 obtain⟨its,rv,pl,hz⟩:=I1.list hq
 refine call_enumerate_list pl.isList λh' he hit hsz hk=>?_
 refine wpAny_pyIter_enum he ?_
 refine⟨s1.heap.objs.size+1,[s1.heap.objs.size+1,s1.heap.objs.size],_,_,H1,rfl,I1.kept (t':=s1.toks) hk,aHq l _ _ (Nat.succ_ne_self _),⟨⟨_,he⟩,hit⟩,λb hb=>?_,q⟩
 have hle:s1.heap.objs.size<=b:=by
  rcases lW.mp hb with z|hb
  ·rw[z];exact Uk9 _
  ·rw[show b=s1.heap.objs.size by simpa using hb];exact dQ _
 exact I1.aBT hle (I1.hok.fresh hle)
end
section
variable{σ:St}{H:Hp}{nx:St->Hp->Prop}{rt:VK}{g:TG}{tb:TS}{Q:VK}{K:W.Frag}
def EnQ(K:W.Frag)(R:It->Hp->Prop):List V->Hp->Prop:=λvs H1=>∃a,vs=[.ref a]/\(∃xs,bU K H1 a xs)/\R (Ite K a) H1
def LiQ(K:W.Frag)(R:It->Hp->Prop):V->Hp->Prop:=λx H1=>∃a,x=.ref a/\(∃xs,bU K H1 a xs)/\R (Itl K a) H1
def TiQ(K:W.Frag)(R:It->Hp->Prop):V->Hp->Prop:=λx H1=>∃a,x=.ref a/\(∃xs,iY K H1 a xs)/\R (Itt K a) H1
theorem aI1{ta:TA}{R:It->Hp->Prop}(h:ta σ H (EnQ K R)):aI0 K ta σ H R:=h
theorem aHr{tl:TE}{R:It->Hp->Prop}(h:tl σ H (LiQ K R)):aIf K tl σ H R:=h
theorem aI2{tl:TE}{R:It->Hp->Prop}(h:tl σ H (TiQ K R)):aMx K tl σ H R:=h
theorem aI3{a:Addr}{xs:List V}{R:It->Hp->Prop}(h1:bU K H a xs)(h:R (Ite K a) H):EnQ K R [.ref a] H:=⟨a,rfl,⟨xs,h1⟩,h⟩
theorem iE{a:Addr}{xs:List V}{R:It->Hp->Prop}(h1:bU K H a xs)(h:R (Itl K a) H):LiQ K R (.ref a) H:=⟨a,rfl,⟨xs,h1⟩,h⟩
theorem aEy{a:Addr}{xs:List V}{R:It->Hp->Prop}(h1:iY K H a xs)(h:R (Itt K a) H):TiQ K R (.ref a) H:=⟨a,rfl,⟨xs,h1⟩,h⟩
theorem aDh{a:Addr}{xs:List V}(Pv:Nat->St->Hp->Prop)(h0:Pv 0 σ H)(hl:∀i σ H,i<=xs.length->Pv i σ H->bU K H a xs)
  (hs:∀i x σ H T,xs[i]?=some x->Pv i σ H->H T=none->g (.ref T) σ (upd H T (.tup [.int i,x])) λσ2 H2=>tb ⟨Pv (i+1),rt,nx,Pv (i+1)⟩ σ2 H2) (hd:∀σ H,Pv xs.length σ H->nx σ H) :
  ∃W:Nat->Nat->St->Hp->Prop,(∃m,W 0 m σ H)/\∀i m σ H,W i m σ H->
   ((Ite K a).stop i H/\nx σ H)\/((Ite K a).go i H/\∃N:St->Hp->Prop,(∀σ' H',N σ' H'->∃m',m' < m/\W (i+1) m' σ' H')/\∀x H',(Ite K a).yld i H x H'->g x σ H' λσ2 H2=>tb ⟨N,rt,nx,N⟩ σ2 H2):=by
 refine⟨λi m σ H=>m=xs.length - i/\i<=xs.length/\Pv i σ H,⟨xs.length,by simp,zL _,h0⟩,?_⟩
 rintro i m σ H ⟨rfl,hi,p⟩
 have q:=hl i σ H hi p
 by_cases hlt:i < xs.length
 ·refine .inr ⟨⟨xs,xs[i],q,by simp[hlt]⟩,Pv (i+1),λσ' H' p'=>⟨xs.length - (i+1),by omega,rfl,hlt,p'⟩,λx H' y=>?_⟩
  obtain⟨T,v,hT,e1,e2,y⟩:=y
  subst e1 e2
  exact hs i v σ H T (y xs q) p hT
 ·have e:i=xs.length:=by omega
  subst e
  exact .inl ⟨⟨xs,q,dQ _⟩,hd σ H p⟩
end
section
variable{X:Cx}
theorem wH:∀{bs:List Bool}{us:List Value},Vals (bs.map V.bl) us->us=bs.map Value.bool
 |[],_,.nil=>rfl
 |b::bs,_,.cons r t=>by cases r;rw[wH t];rfl
def aFI(K:W.Frag):List V->Hp->VK->Prop:=λxs H Q=>∃(p:Addr) (bs:List Bool),xs=[.ref p]/\bU K H p (bs.map V.bl)/\Q (.bl (bs.all id)) H
theorem pW(hc:X.calm=true):eJ X (.builtin "all") (aFI X.K):=by
 intro pins s σ H xs us Q I r h
 obtain⟨p,bs,rfl,hq,q⟩:=h
 obtain⟨u,rfl,rx⟩:=vals1 r
 cases rx
 obtain⟨its,r',pl,hz⟩:=I.list hq
 have e:=wH r'
 subst e
 have hl:=pl.isList
 have hlt:p < s.heap.objs.size:=by obtain⟨_,e,_⟩:=id hl;exact hX e
 refine call_all_walk (wpAny_pyIter_list hl ?_)
 refine⟨s.heap.objs.size,[s.heap.objs.size,p],[s.heap.objs.size],(bs.map Value.bool).toArray.size,_,_,λi=>(bs[i]?).getD true,rfl,Walks.list (A:=X.A.in1) (I.ok.hd hc) _ p (pP hlt) (bs.map Value.bool).toArray,
  ⟨⟨_,sN _ rfl,rfl,rfl⟩,hl.push _⟩,λi v s' Q' E' hP hQ=>?_,λh' tk hk=>?_⟩
 ·have hP':(bs.map Value.bool)[i]?=some v:=by simpa using hP
  rw[qB] at hP'
  cases hb:bs[i]? with
  |none=>rw[hb] at hP';cases hP'
  |some b=>
   rw[hb] at hP'
   cases hP'
   simp only[hb,Tf9] at hQ
   exact wpAny_truthy_bool hQ
 ·have e:((List.range (bs.map Value.bool).toArray.size).all λi=>(bs[i]?).getD true)=bs.all id:=by
   rw[jV,cD];exact LSm.range_all bs
  rw[e]
  exact⟨.bl _,H,I.kept (t':=tk) (LSm.kept_iter hk),rfl,q⟩
end
section
variable{X:Cx}{e st:Expr}{te:TE}{ts:TO}{pos p2:Pos}
def aI4(K:W.Frag)(te:TE)(ts:TO):TE:=λσ H Q=>te σ H λx H1=>ts σ H1 λk H2=>k=some (-1)/\∃a xs,x=.ref a/\bU K H2 a xs/\∀p,H2 p=none->Q (.ref p) (upd H2 p (.lst xs.reverse))
theorem aNv(he:PE X e te)(hs:PO X (some st) ts):PE X (.Subscript e (.Slice none none (some st) p2) pos) (aI4 X.K te ts):=by
 intro pins s σ H Q I h
 refine Subscript_ (dG (he pins s σ H _ I h) λv s1 ⟨x,H1,I1,r1,q1⟩=>?_)
 refine wpAny_Slice ?_
 rw[evalPart_none]
 refine wpAny_pure (wpAny_pure (dG (hs pins s1 σ H1 _ I1 q1) λvk s2 ⟨k,H2,I2,pk,q2⟩=>?_))
 obtain⟨ek,a,xs,ex,hx,q⟩:=q2
 subst ek ex
 cases r1
 have I3:Inv X pins σ H2 { s2 with heap:=s2.heap.push { cls:=.type "slice",data:=.fields #[.none,.none,vk] } }:=I2.kept (t':=s2.toks) λb ob q=>lV _ q
 obtain⟨its,r,ht,hz⟩:=I3.list hx
 have hlen:=r.length
 show wpAny (model X.prog X.w) X.A (subscriptTail e (.Slice none none (some st) p2) (.ref a) (.ref s2.heap.objs.size)) (EP X pins σ Q) X.xe { s2 with heap:=s2.heap.push { cls:=.type "slice",data:=.fields #[.none,.none,vk] } }
 refine tail_any (ops:=[.ref a,.ref s2.heap.objs.size]) (ht.isList.typeIs) slot_list_getitem.lookup ?_ (by with_unfolding_all rfl)
 refine wpAny_getItem_list_slice ht.isList (Heap.IsSliceOf.new ..) .none .none pk (by decide) ?_ (by rw[jV] <;> omega)
 rw[PySem.W.krv_pick]
 have hf:H2 (s2.heap.push { cls:=.type "slice",data:=.fields #[.none,.none,vk] }).objs.size=none:=I3.hok.fresh (dQ _)
 refine⟨.ref (s2.heap.push { cls:=.type "slice",data:=.fields #[.none,.none,vk] }).objs.size,_,I3.laid (t':=s2.toks) (o:=.lst xs.reverse) (λb ob q=>lV _ q) (dQ _) ?_,rfl,q _ hf⟩
 exact⟨by rw[Ss9];exact hz,its.reverse,0,r.reverse,sN _ rfl⟩
theorem aNw{K:W.Frag}{σ:St}{H:Hp}{Q:VK}(h:te σ H λx H1=>ts σ H1 λk H2=>k=some (-1)/\∃a xs,x=.ref a/\bU K H2 a xs/\∀p,H2 p=none->Q (.ref p) (upd H2 p (.lst xs.reverse))):aI4 K te ts σ H Q:=h
end
section
variable{X:Cx}{o e:Expr}{to:TE}{t:TA}{apos cpos:Pos}
theorem aNx(ho:PE X o to)(ha:PA X [e] t)(hn:noStar e=true:=by rfl)(hbase:attributeBase o "append" X.env (eval o X.env)=eval o X.env:=by rfl)(hline:(apos.endLine == cpos.line)=true:=by rfl) :
  PE X (.Call (.Attribute o "append" apos) [e] [] cpos) (tBM X.K "list" aAE to t):=
 aIx PySem.F.plainAttrs_list PySem.F.slot_list_append PySem.F.type_list_append aHg ho ha hbase (by rw[bZ hn];rfl) hline (bZ hn) (by rfl)
end
section
variable{K:W.Frag}{σ:St}{H:Hp}{Q:VK}
theorem aOT{T:String}{r:V->List V->Hp->VK->Prop}{to:TE}{t:TA}(h:to σ H λx H1=>tyV K T x H1/\t σ H1 λxs H2=>r x xs H2 Q):tBM K T r to t σ H Q:=h
theorem j0{p:Addr}{xs:List V}{P:Prop}(h:bU K H p xs)(q:P):tyV K "list" (.ref p) H/\P:=⟨.inl ⟨rfl,xs,h⟩,q⟩
theorem qN{l:Addr}{xs:List V}{y:V}(h:H l=some (.lst xs))(hz:xs.length < sizeLine)(q:Q .non (upd H l (.lst (xs ++ [y])))):aAE (.ref l) [y] H Q:=⟨l,xs,y,rfl,rfl,h,hz,q⟩
theorem aNy:∀(xs ys:List Int),(xs.length == ys.length && (List.range xs.length).all λj=>decide (xs[j]?=ys[j]?))=decide (xs=ys):=by
 intro xs ys
 rw[Bool.eq_iff_iff]
 simp only[Sj9,beq_iff_eq,Ry9,Rn9,decide_eq_true_eq]
 constructor
 ·rintro ⟨hl,h⟩
  apply List.ext_getElem?
  intro i
  by_cases hi:i < xs.length
  ·exact h i hi
  ·rw[Su9 (by omega),Su9 (by omega)]
 ·rintro rfl
  exact⟨rfl,λ_ _=>rfl⟩
theorem aEz{n:Nat}{p q:Addr}{xs ys:List Int}(h:(bU K H p (xs.map V.int)/\bU K H q (ys.map V.int))\/(iY K H p (xs.map V.int)/\iY K H q (ys.map V.int))):EqN K H (n+1) (.ref p) (.ref q) (decide (xs=ys)):=by
 refine .inr ⟨p,q,xs.map V.int,ys.map V.int,λj=>decide (xs[j]?=ys[j]?),rfl,rfl,h,λj u v hu hv=>?_,?_⟩
 ·rw[qB] at hu hv
  cases hx:xs[j]? with
  |none=>rw[hx] at hu;cases hu
  |some a=>
   cases hy:ys[j]? with
   |none=>rw[hy] at hv;cases hv
   |some b=>
    rw[hx] at hu
    rw[hy] at hv
    cases hu
    cases hv
    have z:lI (.int a)=true/\lI (.int b)=true/\(λj=>decide (xs[j]?=ys[j]?)) j=eqV (.int a) (.int b):=by
     refine⟨rfl,rfl,?_⟩
     show decide (xs[j]?=ys[j]?)=decide (a=b)
     rw[hx,hy]
     simp
    cases n with
    |zero=>exact z
    |succ n=>exact .inl z
 ·rw[cD,cD]
  exact(aNy xs ys).symm
theorem aDi{p q:Addr}{xs ys:List Int}(h1:bU K H p (xs.map V.int))(h2:bU K H q (ys.map V.int))(h:Q (.bl (!decide (xs=ys))) H):yW K (.ref p) (.ref q) H Q:=⟨_,aEz (.inl ⟨h1,h2⟩),h⟩
end
end L2
namespace L2
open PySem PySem.Spec PyProof.Rows
section
variable{K:W.Frag}{σ:St}{H:Hp}{Q:VK}{nx bk ct:St->Hp->Prop}{rt:VK}
theorem aOU{A B:Prop}(h:B):if (!true)=true then A else B:=aKO h
theorem aOV{A B:Prop}(h:A):if (!false)=true then A else B:=aKP h
theorem aOW{A B:Prop}{b:Bool}(e:b=false)(h:B):if b=true then A else B:=by rw[e];exact aKO h
theorem aOX{A B:Prop}{b:Bool}(e:b=true)(h:A):if b=true then A else B:=by rw[e];exact aKP h
theorem aLh{C:Addr}{sp:Sp}{E:XK}{t:TA}(h:t σ H λvs H1=>∀x dx,H1 x=none->H1 dx=none->dx≠x->sp (.ref x::vs) (upd (upd H1 dx (.own x)) x (.ins C dx [])) (λv H2=>v=.non/\Q (.ref x) H2) E):aEm C sp [] E t σ H Q:=by
 unfold aEm
 simpa only [Si9] using h
theorem aLi{C:Addr}{m:Str}{sp:Sp}{E:XK}{ta:TE}{t:TA}(h:ta σ H λx H1=>∃a dx fs,x=.ref a/\H1 a=some (.ins C dx fs)/\fs.lookup m=none/\t σ H1 λvs H2=>sp (x::vs) H2 Q E):aGn C m sp [] E ta t σ H Q:=by
 unfold aGn
 simpa only [Si9] using h
theorem aLj{ta tv:TE}{f:Str}(h:tv σ H λy H1=>ta σ H1 λx H2=>∃a C dx fs,x=.ref a/\H2 a=some (.ins C dx fs)/\Cls K C/\fA K C f/\fs.length < 1000/\nx σ (upd H2 a (.ins C dx (qG f y fs)))):aMF K ta tv f ⟨nx,rt,bk,ct⟩ σ H:=h
theorem wI{a C dx:Addr}{fs fs':List (Str×V)}{f:Str}{y:V}{P:Hp->Prop}(h1:H a=some (.ins C dx fs))(c:Cls K C)(n:fA K C f)(hl:fs.length < 1000)(e:qG f y fs=fs')(h:P (upd H a (.ins C dx fs'))) :
  ∃a' C dx fs,V.ref a=V.ref a'/\H a'=some (.ins C dx fs)/\Cls K C/\fA K C f/\fs.length < 1000/\P (upd H a' (.ins C dx (qG f y fs))):=⟨a,C,dx,fs,rfl,h1,c,n,hl,by rw[e];exact h⟩
theorem wJ{a C dx:Addr}{fs:List (Str×V)}{f:Str}{v:V}{P:V->Prop}(h1:H a=some (.ins C dx fs))(c:Cls K C)(n:fA K C f)(l:fs.lookup f=some v)(h:P v) :
  ∃a' C dx fs v,V.ref a=V.ref a'/\H a'=some (.ins C dx fs)/\Cls K C/\fA K C f/\fs.lookup f=some v/\P v:=⟨a,C,dx,fs,v,rfl,h1,c,n,l,h⟩
theorem aEA:∀{xs:List V},(∀x∈xs,x=.bl true)->xs=(List.replicate xs.length true).map V.bl
 |[],_=>rfl
 |x::xs,h=>by
  rw[yM,Sq9,Rg9,<-aEA (λy hy=>h y (Qt9 _ hy)),h x (Rc9 ..)]
theorem aGs{p:Addr}{xs:List V}(h1:bU K H p xs)(h2:∀x∈xs,x=.bl true)(h:Q (.bl true) H):aFI K [.ref p] H Q:=by
 refine⟨p,List.replicate xs.length true,rfl,?_,?_⟩
 ·rw[<-aEA h2];exact h1
 ·rw[show(List.replicate xs.length true).all id=true by simp];exact h
end
end L2
namespace L2
open PySem PySem.Spec PyProof.Rows
section
variable{X:Cx}{pins:List (Addr×Obj)}{σ:St}{H:Hp}{s:Shared}{A:Around}{E:Value->Shared->Prop}{Q:Value->Shared->Prop}{b:Bool}
end
section
variable{X:Cx}{K:W.Frag}{H:Hp}{Q:VK}
def isB:V->V->Option Bool
 |.non,.non=>some true
 |.bl a,.bl b=>some (a == b)
 |.bl _,.non=>some false
 |.int _,.non=>some false
 |.str _,.non=>some false
 |.ref _,.non=>some false
 |_,_=>none
def aI5:R2:=λx y H Q=>∃b,isB x y=some b/\Q (.bl (!b)) H
theorem uY:rZ X (compareOp .IsNot) aI5:=by
 intro pins s σ H x y v u Q I rx ry h
 obtain⟨b,e,q⟩:=h
 have fin:EP X pins σ Q (.bool (!b)) s:=⟨.bl (!b),H,I,rfl,q⟩
 cases x with
 |non=>cases y with
  |non=>cases e;cases rx;cases ry;exact isnot_none_gen fin
  |_=>cases e
 |bl a=>cases y with
  |bl c=>cases e;cases rx;cases ry;exact isnot_bool fin
  |non=>cases e;cases rx;cases ry;exact isnot_none_gen fin
  |_=>cases e
 |int i=>cases y with
  |non=>cases e;obtain⟨t,rfl⟩:=rx;cases ry;exact isnot_none_gen fin
  |_=>cases e
 |str i=>cases y with
  |non=>cases e;obtain⟨t,rfl⟩:=rx;cases ry;exact isnot_none_gen fin
  |_=>cases e
 |ref i=>cases y with
  |non=>cases e;cases rx;cases ry;exact isnot_none_gen fin
  |_=>cases e
 |_=>cases y <;> cases e
theorem aI6{x y:V}{b:Bool}(e:isB x y=some b)(h:Q (.bl (!b)) H):aI5 x y H Q:=⟨b,e,h⟩
end
end L2
namespace L2
open PySem PySem.Spec PyProof.Rows
section
variable{X:Cx}
def aNz(K:W.Frag):List V->Hp->VK->Prop:=λxs H Q=>∃(p:Addr) (ns:List Int),xs=[.ref p]/\bU K H p (ns.map V.int)/\Q (.int (List.sum ns)) H
theorem aHs(hc:X.calm=true):eJ X (.builtin "sum") (aNz X.K):=by
 intro pins s σ H xs us Q I r h
 obtain⟨p,ns,rfl,hq,q⟩:=h
 obtain⟨u,rfl,rx⟩:=vals1 r
 cases rx
 obtain⟨its,r',pl,hz⟩:=I.list hq
 have hi:=intsAre_of r'
 obtain⟨xs,hx⟩:=hi.allInts.items
 have hl':s.heap.IsList p (intItems xs):=hx▸pl.isList
 refine sum_intListG (I.ok.hd hc) hl' λh' tk t' hk=>?_
 have e1:ns=xs.toList.map (·.1):=by
  rw[<-nums_intItems,<-hx]
  exact(show numsOf its.toArray.toList=ns from hi.numsOf).symm
 have e2:preSum (numAt xs) xs.size=ns.sum:=by
  rw[preSum_eq,Sb9 (by simp),e1]
 rw[e2]
 exact⟨.int _,H,I.kept (t':=tk) hk,⟨t',rfl⟩,q⟩
theorem aNA{K:W.Frag}{H:Hp}{Q:VK}{p:Addr}{ns:List Int}(h1:bU K H p (ns.map V.int))(h:Q (.int (List.sum ns)) H):aNz K [.ref p] H Q:=⟨p,ns,rfl,h1,h⟩
end
end L2
namespace L2
open PySem PySem.Spec PyProof.Rows
section
variable{prog:Program}{w:World}{A:Around}{E:Value->Shared->Prop}
end
section
variable{X:Cx}{pos:Pos}
end
end L2
namespace L2
open PySem PySem.Spec PyProof.Rows
section
variable{X:Cx}
end
section
variable{X:Cx}{pins:List (Addr×Obj)}{σ:St}{H:Hp}{s:Shared}{h':Heap}
theorem Inv.aHt{t':Nat}{ch:List Addr}(I:Inv X pins σ H s)(k:∀b u,b∉ch->s.heap.get? b=some u->h'.get? b=some u)
  (hch:∀b∈ch,w5 X pins H b):Inv X pins σ H { s with heap:=h',toks:=t' }:=by
 have nit:∀b u,H b=some u->b∉ch:=λb u e z=>by rw[(hch b z).1] at e;cases e
 refine I.step (g':=s.gens) (d':=s.drawn) (ch:=ch) (λb hb=>?_) (λb u _ _ hc e _=>k b u hc e) (λb u _ _ hc e _=>⟨u.slots,k b u hc e⟩) (λb u hc e n=>n)
  (λb u hc e=>⟨u,k b u hc e⟩) (λb xs e=>e) (λb u v e=>e) (λb ps e=>⟨#[],by rw[e];simp⟩) (λm hm=>?_) (λb u e=>?_) I.bare
 ·obtain⟨f0,f1,f2,f3,f4,f5⟩:=hch b hb
  exact⟨f3,f1,f4,f5⟩
 ·obtain⟨u,es,ep,ho,r⟩:=hm
  exact⟨u,es,ep,k _ u (λz=>(hch _ z).2.1 rfl) ho,r⟩
 ·refine(I.hok b u e).yN (λc v hc q=>k c v ?_ q) (λc q=>q) λc xs _ q=>q
  rcases hc with z|z
  ·rw[z];exact nit b u e
  ·exact nit c _ z
end
def Itz(K:W.Frag)(a b:Addr):It:=
 ⟨λi H=>∃xs ys x y,bU K H a xs/\bU K H b ys/\xs[i]?=some x/\ys[i]?=some y,
  λi H v H'=>∃T x y,H T=none/\v=.ref T/\H'=upd H T (.tup [x,y])/\(∀xs,bU K H a xs->xs[i]?=some x)/\∀ys,bU K H b ys->ys[i]?=some y,
  λi H=>∃xs ys,bU K H a xs/\bU K H b ys/\(xs.length<=i\/ys.length<=i)⟩
structure Z5(z TI TO i1 i2:Addr):Prop where
 TIz:TI≠z
 TOz:TO≠z
 i1z:i1≠z
 i2z:i2≠z
 TITO:TI≠TO
 TIi1:TI≠i1
 TIi2:TI≠i2
 TOi1:TO≠i1
 TOi2:TO≠i2
 i12:i1≠i2
theorem Z5.apart{z TI TO i1 i2 l1 l2:Addr}(d:Z5 z TI TO i1 i2){h:Heap}{f0 a b:Value}{k1 k2:Nat}{m1 m2:Addr}{xs ys:Array Value}(hz:IsZip h z TI TO f0)(hTO:IsPair h TO a b)(h1:h.IsListIter i1 m1 k1)(h2:h.IsListIter i2 m2 k2)
  (hl1:h.IsList l1 xs) (hl2:h.IsList l2 ys):ZipApart z TI TO i1 i2 l1 l2:=by
 have key:∀{l:Addr} {vs:Array Value},h.IsList l vs->l≠z/\l≠TO/\l≠i1/\l≠i2:=λ{l vs} hl=>by
  obtain⟨o,ho,hc,n,hd⟩:=hl
  refine⟨λe=>?_,λe=>?_,λe=>?_,λe=>?_⟩
  ·rw[e,hz] at ho;cases ho;cases hd
  ·rw[e,hTO] at ho
   cases ho
   exact absurd (show Value.type "tuple" = Value.type "list" from hc) (by decide)
  ·obtain⟨o1,e1,c1,d1⟩:=h1
   rw[e,e1] at ho;cases ho;rw[d1] at hd;cases hd
  ·obtain⟨o1,e1,c1,d1⟩:=h2
   rw[e,e1] at ho;cases ho;rw[d1] at hd;cases hd
 obtain⟨a1,a2,a3,a4⟩:=key hl1
 obtain⟨b1,b2,b3,b4⟩:=key hl2
 exact⟨d.TIz,d.TOz,d.i1z,d.i2z,d.TITO,d.TIi1,d.TIi2,d.TOi1,d.TOi2,d.i12,a1,a2,a3,a4,b1,b2,b3,b4⟩
theorem aI7{P:Program}{w:World}{K:W.Frag}{elts:List Expr}{x1:Nat}{tp:Pos}(l1 l2 z TI TO i1 i2:Addr)(d:Z5 z TI TO i1 i2) :
  Turn P w K (.Tuple elts x1 tp) (Itz K l1 l2) [z,TI,TO,i1,i2] z (λi h=>IsZip h z TI TO .none/\IsPair h TI (.ref i1) (.ref i2)/\(∃a b,IsPair h TO a b)/\h.IsListIter i1 l1 i/\h.IsListIter i2 l2 i) where
 mem:=by simp
 obj:=λi h st b hb=>by
  obtain⟨hz,hTI,⟨a,c,hTO⟩,h1,h2⟩:=st
  simp only[lW,Sk9,or_false] at hb
  rcases hb with rfl|rfl|rfl|rfl|rfl
  ·exact⟨_,hz,λv z=>by cases z⟩
  ·exact⟨_,hTI,λv z=>by cases z⟩
  ·exact⟨_,hTO,λv z=>by cases z⟩
  ·obtain⟨o,e,c,d⟩:=h1
   exact⟨o,e,λv z=>by rw[d] at z;cases z⟩
  ·obtain⟨o,e,c,d⟩:=h2
   exact⟨o,e,λv z=>by rw[d] at z;cases z⟩
 keep:=λi h h' st k=>by
  obtain⟨hz,hTI,⟨a,c,hTO⟩,h1,h2⟩:=st
  exact⟨k z (by simp) _ hz,k TI (by simp) _ hTI,⟨a,c,k TO (by simp) _ hTO⟩,h1.at λo q=>k i1 (by simp) o q,h2.at λo q=>k i2 (by simp) o q⟩
 item:=by
  intro X hP hw hK hc i pins s σ H E I hf st hg
  subst hP hw hK
  obtain⟨hz,hTI,⟨a,c,hTO⟩,h1,h2⟩:=st
  obtain⟨xs,ys,x,y,hq1,hq2,hx,hy⟩:=hg
  obtain⟨its,rv,p,_⟩:=I.list hq1
  obtain⟨its2,rv2,p2,_⟩:=I.list hq2
  obtain⟨u,hu,ru⟩:=rv.get hx
  obtain⟨v,hv,rv'⟩:=rv2.get hy
  have lts:∀b∈[z,TI,TO,i1,i2],b < s.heap.objs.size:=λb hb=>by
   simp only[lW,Sk9,or_false] at hb
   rcases hb with rfl|rfl|rfl|rfl|rfl
   ·exact hX hz
   ·exact hX hTI
   ·exact hX hTO
   ·obtain⟨_,e,_⟩:=h1;exact hX e
   ·obtain⟨_,e,_⟩:=h2;exact hX e
  refine wpAny_pyNext_zip_item (d.apart hz hTO h1 h2 p.isList p2.isList) hz hTI hTO h1 h2 p.isList p2.isList (x:=u) (y:=v) (by simpa using hu) (by simpa using hv) λg1 a1 a2 a3 a4 a5 a6 hk=>?_
  refine⟨_,rfl,wpAny_letOwnedTupleGo_zip a1 λg2 hz2 hs2=>?_⟩
  replace hs2:Heap.SameBut z g1 g2:=hs2
  have hT2:g2.IsTuple s.heap.objs.size #[u,v]:=⟨_,(hs2.2 _ (Tj9 (lts z (by simp)))).trans a5,rfl,_,rfl⟩
  have kk:∀b o,b∉[z,TI,TO,i1,i2]->s.heap.get? b=some o->g2.get? b=some o:=λb o hb q=>by
   simp only[lW,Sk9,or_false,not_or] at hb
   exact(hs2.2 b hb.1).trans (hk b o hb.1 hb.2.2.1 hb.2.2.2.1 hb.2.2.2.2 q)
  have I2:Inv X pins σ (upd H s.heap.objs.size (.tup [x,y])) { s with heap:=g2 }:=
   I.yX (t':=s.toks) kk hf (dQ _) (show cA X.prog X.w _ g2 _ (.tup [x,y]) from⟨cO (by simp),[u,v],.cons ru (.cons rv' .nil),hT2⟩)
  have hfr:H s.heap.objs.size=none:=I.hok.fresh (dQ _)
  refine⟨.ref s.heap.objs.size,_,I2,rfl,⟨_,x,y,hfr,rfl,rfl,λzs hzs=>by rw[I.sQ hzs hq1];exact hx,λzs hzs=>by rw[I.sQ hzs hq2];exact hy⟩,⟨hz2,?_,⟨_,_,hs2.extBut _ _ d.TOz a2⟩,a3.at λo q=>(hs2.2 i1 d.i1z).trans q,a4.at λo q=>(hs2.2 i2 d.i2z).trans q⟩,λb hb=>?_⟩
  ·exact hs2.extBut _ _ d.TIz (hk _ _ d.TIz d.TITO d.TIi1 d.TIi2 hTI)
  ·rw[bB (pP (lts b hb))]
   exact(hf b hb).1
 done:=by
  intro X hP hw hK hc i pins s σ H E I hf st hg
  subst hP hw hK
  obtain⟨hz,hTI,⟨a,c,hTO⟩,h1,h2⟩:=st
  obtain⟨xs,ys,hq1,hq2,hx⟩:=hg
  obtain⟨its,rv,p,_⟩:=I.list hq1
  obtain⟨its2,rv2,p2,_⟩:=I.list hq2
  have e1:=rv.length
  have e2:=rv2.length
  refine wpAny_pyNext_zip_end (I.ok.hd hc) (d.apart hz hTO h1 h2 p.isList p2.isList) hz hTI hTO h1 h2 p.isList p2.isList ?_ λh' hk=>⟨rfl,?_⟩
  ·rcases hx with hx|hx
   ·exact .inl (by simp;omega)
   ·exact .inr (by simp;omega)
  ·refine I.aHt (t':=s.toks) (ch:=[z,TI,TO,i1,i2]) (λb o hb q=>?_) hf
   simp only[lW,Sk9,or_false,not_or] at hb
   exact hk b o hb.1 hb.2.2.1 hb.2.2.2.1 hb.2.2.2.2 q
 self:=λ_ _ _ _ _ st h=>wpAny_pyIter_zip st.1 h
section
variable{X:Cx}{elts:List Expr}{x1:Nat}{tp:Pos}
def ZiQ(K:W.Frag)(R:It->Hp->Prop):List V->Hp->Prop:=λvs H1=>∃a b,vs=[.ref a,.ref b]/\(∃xs,bU K H1 a xs)/\(∃ys,bU K H1 b ys)/\R (Itz K a b) H1
def aNB(K:W.Frag)(ta:TA):TI:=λσ H R=>ta σ H (ZiQ K R)
theorem aNC:bootBuiltins "zip" = some (.type "zip"):=by decide +kernel
theorem aND{a b:Expr}{ta:TA}{p pos:Pos}(hg:Gl X "zip")(hm:X.mg "zip" = none)(ha:PA X [a,b] ta)(hn:noStar a=true:=by rfl)(hn2:noStar b=true:=by rfl):PI X (.Tuple elts x1 tp) (.Call (.Name "zip" p) [a,b] [] pos) (aNB X.K ta):=by
 intro pins s σ H R I h
 have hs2:starEach [b] X.env=[(false,eval b X.env)]:=bZ hn2
 have hs:starEach [a,b] X.env=[(false,eval a X.env),(false,eval b X.env)]:=by rw[bZ hn,hs2]
 refine Call_ (sP I hg hm aNC (PyProof.Rows.callWith_type1 (dG (ha pos pins s σ H _ I h) λus s1 ⟨vs,H1,I1,r1,q1⟩=>?_) (by rw[hs,hs2]) (by rw[hs2];rfl)))
 obtain⟨l1,l2,e,⟨xs,hq1⟩,⟨ys,hq2⟩,q⟩:=q1
 subst e
 obtain⟨u,v,rfl,ru,rv⟩:=vals2 r1
 cases ru
 cases rv
 obtain⟨its,_,pl,_⟩:=I1.list hq1
 obtain⟨its2,_,pl2,_⟩:=I1.list hq2
 refine call_zip_2 pl.isList pl2.isList λh' g1 g2 g3 g4 g5 g6 hk=>?_
 refine wpAny_pyIter_zip g1 ?_
 have d:Z5 (s1.heap.objs.size+4) (s1.heap.objs.size+2) (s1.heap.objs.size+3) s1.heap.objs.size (s1.heap.objs.size+1):=by
  have ne:∀{a b:Nat},a≠b->(s1.heap.objs.size+a:Nat)≠s1.heap.objs.size+b:=λh e=>h (Nat.add_left_cancel e)
  exact⟨ne (by decide),ne (by decide),ne (a:=0) (by decide),ne (by decide),ne (by decide),ne (b:=0) (by decide),ne (by decide),ne (b:=0) (by decide),ne (by decide),ne (a:=0) (by decide)⟩
 refine⟨s1.heap.objs.size+4,[s1.heap.objs.size+4,s1.heap.objs.size+2,s1.heap.objs.size+3,s1.heap.objs.size,s1.heap.objs.size+1],_,_,H1,rfl,I1.kept (t':=s1.toks) hk,aI7 l1 l2 _ _ _ _ _ d,⟨g1,g2,⟨_,_,g3⟩,g4,g5⟩,λb hb=>?_,q⟩
 have hle:s1.heap.objs.size<=b:=by
  simp only[lW,Sk9,or_false] at hb
  rcases hb with rfl|rfl|rfl|rfl|rfl <;> first|exact Nat.le_add_right _ _|exact dQ _
 exact I1.aBT hle (I1.hok.fresh hle)
end
section
variable{σ:St}{H:Hp}{nx:St->Hp->Prop}{rt:VK}{g:TG}{tb:TS}{Q:VK}{K:W.Frag}
theorem aLk{ta:TA}{R:It->Hp->Prop}(h:ta σ H (ZiQ K R)):aNB K ta σ H R:=h
theorem aOY{a b:Addr}{xs ys:List V}{R:It->Hp->Prop}(h1:bU K H a xs)(h2:bU K H b ys)(h:R (Itz K a b) H):ZiQ K R [.ref a,.ref b] H:=⟨a,b,rfl,⟨xs,h1⟩,⟨ys,h2⟩,h⟩
theorem aNE{a b:Addr}{xs ys:List V}(Pv:Nat->St->Hp->Prop)(h0:Pv 0 σ H)(hl:∀i σ H,i<=min xs.length ys.length->Pv i σ H->bU K H a xs/\bU K H b ys)
  (hs:∀i x y σ H T,xs[i]?=some x->ys[i]?=some y->Pv i σ H->H T=none->g (.ref T) σ (upd H T (.tup [x,y])) λσ2 H2=>tb ⟨Pv (i+1),rt,nx,Pv (i+1)⟩ σ2 H2) (hd:∀σ H,Pv (min xs.length ys.length) σ H->nx σ H) :
  ∃W:Nat->Nat->St->Hp->Prop,(∃m,W 0 m σ H)/\∀i m σ H,W i m σ H->
   ((Itz K a b).stop i H/\nx σ H)\/((Itz K a b).go i H/\∃N:St->Hp->Prop,(∀σ' H',N σ' H'->∃m',m' < m/\W (i+1) m' σ' H')/\∀x H',(Itz K a b).yld i H x H'->g x σ H' λσ2 H2=>tb ⟨N,rt,nx,N⟩ σ2 H2):=by
 refine⟨λi m σ H=>m=min xs.length ys.length - i/\i<=min xs.length ys.length/\Pv i σ H,⟨min xs.length ys.length,by simp,zL _,h0⟩,?_⟩
 rintro i m σ H ⟨rfl,hi,p⟩
 obtain⟨q1,q2⟩:=hl i σ H hi p
 by_cases hlt:i < min xs.length ys.length
 ·have i1:i < xs.length:=by omega
  have i2:i < ys.length:=by omega
  refine .inr ⟨⟨xs,ys,xs[i],ys[i],q1,q2,by simp[i1],by simp[i2]⟩,Pv (i+1),λσ' H' p'=>⟨min xs.length ys.length - (i+1),by omega,rfl,hlt,p'⟩,λx H' y=>?_⟩
  obtain⟨T,u,v,hT,e1,e2,y1,y2⟩:=y
  subst e1 e2
  exact hs i u v σ H T (y1 xs q1) (y2 ys q2) p hT
 ·have e:i=min xs.length ys.length:=by omega
  subst e
  exact .inl ⟨⟨xs,ys,q1,q2,by omega⟩,hd σ H p⟩
end
end L2
namespace L2
open PySem PySem.Spec PyProof.Rows
section
variable{X:Cx}{e:Expr}{te:TE}
end
end L2
namespace L2.Z
open PySem PySem.Spec PyProof.Rows L2
structure QE(X:Cx)(e:Expr)(t:TE):Prop where
 h:PE X e t
structure QT(X:Cx)(e:Expr)(t:TT):Prop where
 h:PT X e t
structure QW(X:Cx)(e:Expr)(t:TT):Prop where
 h:PW X e t
structure QA(X:Cx)(es:List Expr)(t:TA):Prop where
 h:PA X es t
structure QS(X:Cx)(st:Stmt)(t:TS):Prop where
 h:PS X st t
structure QSs(X:Cx)(st:List Stmt)(t:TS):Prop where
 h:PSs X st t
structure QG(X:Cx)(tg:Expr)(g:TG):Prop where
 h:PG X tg g
structure QGs(X:Cx)(tg:List Expr)(g:TGs):Prop where
 h:PGs X tg g
structure QI(X:Cx)(tg it:Expr)(w:TI):Prop where
 h:PI X tg it w
structure QTs(X:Cx)(ifs:List Expr)(t:TT):Prop where
 h:PTs X ifs t
structure QO(X:Cx)(o:Option Expr)(t:TO):Prop where
 h:PO X o t
section
variable{X:Cx}{CX:CXT}{k:Nat}{f C:Addr}{fd:FuncData}{ps:List Str}{sp:Sp}{dvs:List V}{ds:List Value}{E:XK}{x m:Str}{p pos apos p2 spos:Pos}{a b c e o:Expr}{es rest:List Expr}{ta tb tc te to ti:TE}{t:TA}{tA tB tt:TT}{id T:String}{r r':R2}{rc:List V->Hp->VK->Prop}{st:Stmt}{sts sts2:List Stmt}{ts us:TS}{g:TG}{gs:TGs}{wi:TI}{tg iter:Expr}
theorem QW.pt{e:Expr}{t:TT}(q:QW X e t):QT X e t:=⟨q.h.pt⟩
theorem nM{e:Expr}{t:TT}(q:QW X e t):QT X e t:=⟨q.h.pt⟩
theorem pv(i:Nat)(hN:X.N[i]?=some x:=by rfl)(hv:Vis X.env.scope x:=by first|exact Or.inl rfl|exact Or.inr (Or.inl rfl)|exact Or.inr (Or.inr rfl))(hd:(x == ("__debug__" : Str))=false:=by decide)
  (hcd:(x == ("__classdict__" : Str))=false:=by decide):QE X (.Name x pos) (aL9 i):=⟨aH2 hN hv hd hcd⟩
theorem aF{i j}:QE X (.Constant (.int i) j pos) (tC (.int i)):=⟨L2.aMa⟩
theorem cU{b j}:QE X (.Constant (.bool b) j pos) (tC (.bl b)):=⟨L2.aOj⟩
theorem nB{j}:QE X (.Constant .none j pos) (tC .non):=⟨L2.aMb⟩
theorem aAY{n:Int}(hg:Gl X x)(hm:∃t,X.mg x=some (.int n t))(hd:(x == ("__debug__" : Str))=false:=by decide):QE X (.Name x pos) (tC (.int n)):=⟨L2.aLc hg hm hd⟩
theorem nO{v:V}{u:Value}(hg:Gl X x)(hm:X.mg x=none)(hv:bootBuiltins x=some u)(r:RelV v u)(hn:x≠"__name__":=by decide)(hd:(x == ("__debug__" : Str))=false:=by decide):QE X (.Name x pos) (tC v):=⟨L2.aKj hg hm hv r hn hd⟩
theorem aM{op:Operator}(ho:rZ X (binaryOp op) r)(ha:QE X a ta)(hb:QE X b tb):QE X (.BinOp a op b pos) (tOp r ta tb):=⟨L2.aOn ho ha.h hb.h⟩
theorem fX{op:UnaryOp}{ru:V->Hp->VK->Prop}(ho:UnR X (unaryOp op) ru)(ha:QE X a ta):QE X (.UnaryOp op a pos) (tUn ru ta):=⟨L2.aOo ho ha.h⟩
theorem aHu(ha:QE X a ta):QE X (.UnaryOp .Not a pos) (aH4 ta):=⟨L2.aMl ha.h⟩
theorem nC{op}(h:QE X a ta):QE X (.BoolOp op [a] pos) ta:=⟨L2.aMj h.h⟩
theorem nE(ha:QE X a ta)(hb:QE X (.BoolOp .And (b::rest) pos) tb):QE X (.BoolOp .And (a::b::rest) pos) (aH3 ta tb):=⟨L2.aMk ha.h hb.h⟩
theorem aI8(ha:QE X a ta)(hb:QE X (.BoolOp .Or (b::rest) pos) tb):QE X (.BoolOp .Or (a::b::rest) pos) (aMi ta tb):=⟨L2.aOl ha.h hb.h⟩
theorem fY{op:CmpOp}(ho:rZ X (compareOp op) r)(ha:QE X a ta)(hb:QE X b tb)(hm:behindInMarks op b=false):QE X (.Compare a [op] [b] pos) (tOp r ta tb):=⟨L2.aKw ho ha.h hb.h hm⟩
theorem aZ{op:CmpOp}(ho:rZ X (compareOp op) r)(ha:QE X a ta)(hb:QE X b tb)(hm:behindInMarks op b=false):QT X (.Compare a [op] [b] pos) (aIi (tOp r ta tb)):=⟨L2.aKx ho ha.h hb.h hm⟩
theorem zQ{op op':CmpOp}(ho:rZ X (compareOp op) r)(ho':rZ X (compareOp op') r')(ha:QE X a ta)(hb:QE X b tb)(hc:QE X c tc)(hm:lastMarks [op,op'] [b,c]=false:=by with_unfolding_all rfl):QE X (.Compare a [op,op'] [b,c] pos) (aFl r r' ta tb tc):=⟨L2.aIj ho ho' ha.h hb.h hc.h hm⟩
theorem d9(h:QE X e te)(he:∀whole,isTrue e X.env whole=(do let v <-whole;standAt e.pos;holding [v] (truthy v)):=by intro _;rfl):QT X e (L2.tB te):=⟨L2.aMc h.h he⟩
theorem fP(ha:QT X a tA):QT X (.UnaryOp .Not a pos) (aMe tA):=⟨L2.aMh ha.h⟩
theorem qO(ha:QT X a tA):QW X (.BoolOp .And [a] pos) tA:=⟨L2.aKk ha.h⟩
theorem yY(ha:QT X a tA):QW X (.BoolOp .Or [a] pos) tA:=⟨L2.aMf ha.h⟩
theorem uZ(ha:QT X a tA)(hb:QW X (.BoolOp .And (b::rest) pos) tB):QW X (.BoolOp .And (a::b::rest) pos) (aMd tA tB):=⟨L2.aMg ha.h hb.h⟩
theorem aAZ(ha:QT X a tA)(hb:QW X (.BoolOp .Or (b::rest) pos) tB):QW X (.BoolOp .Or (a::b::rest) pos) (tOr tA tB):=⟨L2.aOk ha.h hb.h⟩
theorem aG:QA X [] o9:=⟨L2.qH⟩
theorem aB(ha:QE X e te)(hr:QA X es t)(hs:noStar e=true:=by rfl):QA X (e::es) (bW te t):=⟨L2.jW ha.h hr.h hs⟩
theorem aK(F:cR X.prog X.w X.K X.mg X.base CX k f fd ps sp)(hr:eI k X.A)(hg:Gl X x)(hm:X.mg x=some (.ref f))(hk:W.keepIn X.K (.ref f)=true)(hb:Binds X.K fd ps ds)(hd:Vals dvs ds)(hx:Passes CX X E)
  (ha:QA X (e::es) t) (hn:(e::es).all noStar=true:=by rfl) (hdb:(x == ("__debug__" : Str))=false:=by decide):QE X (.Call (.Name x p) (e::es) [] pos) (aEk sp dvs E t):=⟨L2.aIY F hr hg hm hk hb hd hx ha.h hn hdb⟩
theorem zq1{j:Nat}(F:cR X.prog X.w X.K X.mg X.base lQ k f fd ps sp)(hr:eI j X.A)(hm:X.mg x=some (.ref f))(hk:W.keepIn X.K (.ref f)=true)(hb:Binds X.K fd ps [])(ha:QA X (e::es) t)(hj:k<=j:=by decide)(hg:Gl X x:=by rfl)(hn:(e::es).all noStar=true:=by rfl)(hdb:(x == ("__debug__" : Str))=false:=by decide):QE X (.Call (.Name x p) (e::es) [] pos) (aEk sp [] E0 t):=aK F (hr.mono hj) hg hm hk hb .nil bG ha hn hdb
theorem aEB(M:Mk X.K C f)(F:cR X.prog X.w X.K X.mg X.base CX k f fd ps sp)(hr:eI (k+1) X.A)(hg:Gl X x)(hm:X.mg x=some (.ref C))(hb:Binds X.K fd ps ds)(hd:Vals dvs ds)(hx:Passes CX X E)
  (ha:QA X (e::es) t) (hn:(e::es).all noStar=true:=by rfl) (hdb:(x == ("__debug__" : Str))=false:=by decide):QE X (.Call (.Name x p) (e::es) [] pos) (aEm C sp dvs E t):=⟨L2.aIZ M F hr hg hm hb hd hx ha.h hn hdb⟩
theorem aO(hc:eJ X (.builtin id) rc)(hg:Gl X x)(hm:X.mg x=none)(hv:bootBuiltins x=some (.builtin id))(ha:QA X (e::es) t)(hn:(e::es).all noStar=true:=by rfl)(hne:x≠"__name__":=by decide)(hdb:(x == ("__debug__" : Str))=false:=by decide) :
  QE X (.Call (.Name x p) (e::es) [] pos) (tCB rc t):=⟨L2.aHp hc hg hm hv ha.h hn hne hdb⟩
theorem cH(hc:eJ X (.type T) rc)(hg:Gl X x)(hm:X.mg x=none)(hv:bootBuiltins x=some (.type T))(ha:QA X (e::es) t)(hn:(e::es).all noStar=true:=by rfl)(hne:x≠"__name__":=by decide)(hdb:(x == ("__debug__" : Str))=false:=by decide) :
  QE X (.Call (.Name x p) (e::es) [] pos) (tCB rc t):=⟨L2.aFF hc hg hm hv ha.h hn hne hdb⟩
theorem iM:QO X none aC8:=⟨L2.aKE⟩
theorem fD(h:QE X e te):QO X (some e) (aIt te):=⟨L2.aKF h.h⟩
theorem fZ{rs:V->Option Int->Option Int->Hp->VK->Prop}{lo hi:Option Expr}{tl th:TO}(hr:SlR X rs)(he:QE X e te)(hl:QO X lo tl)(hu:QO X hi th):QE X (.Subscript e (.Slice lo hi none p2) pos) (tSl rs te tl th):=⟨L2.aIu hr he.h hl.h hu.h⟩
theorem gQ(h:QA X es t):QE X (.List es pos) (yR t):=⟨L2.yS h.h⟩
theorem dO(hg:Gl X "range")(hm:X.mg "range" = none)(ha:QA X [a] t)(hn:noStar a=true:=by rfl):QI X tg (.Call (.Name "range" p) [a] [] pos) (aGk t):=⟨L2.aFG hg hm ha.h hn⟩
theorem aBX(hg:Gl X "range")(hm:X.mg "range" = none)(ha:QA X [a,b] t)(hn:noStar a=true:=by rfl)(hn2:noStar b=true:=by rfl):QI X tg (.Call (.Name "range" p) [a,b] [] pos) (aGl t):=⟨L2.aFH hg hm ha.h hn hn2⟩
theorem aQ{i:Nat}(hN:X.N.Nodup)(hi:X.N[i]?=some x:=by rfl)(hx:Loc X.env.scope x:=by exact Or.inl rfl)(hf:X.fn x=true\/X.env.scope.names.lookup x=some .local:=by first|exact .inl rfl|exact .inr rfl|assumption):QG X (.Name x pos) (sS i):=⟨L2.aKo hN hi hx hf⟩
theorem cS:QGs X [] aKp:=⟨L2.aKq⟩
theorem bF{e:Expr}{es:List Expr}{t:TG}{u:TGs}(h1:QG X e t)(h2:QGs X es u)(hs:(assignEach (e::es) X.env).map (·.2)=assign e X.env::(assignEach es X.env).map (·.2):=by rfl):QGs X (e::es) (aGj t u):=⟨L2.aIc h1.h h2.h hs⟩
theorem yZ{i:Expr}{tset:aC6}(ho:QE X o to)(hi:QE X i ti)(hs:aIb X tset)
  (ha:∀v,assign (.Subscript o i pos) X.env v=(do
   let ov <-holding [v] (eval o X.env)
   let iv <-holding [v,ov] (eval i X.env)
   standAt pos
   holding [v,ov,iv] (setItem ov iv v)
   release [v,ov,iv] []):=by intro _;rfl):QG X (.Subscript o i pos) (aMq to ti tset):=⟨L2.aMr ho.h hi.h hs ha⟩
theorem cK:QTs X [] aM1:=⟨L2.aKR⟩
theorem qP(h:QT X c tt):QTs X [c] tt:=⟨L2.aKS h.h⟩
theorem bV{D:Ends}{σ:St}{H:Hp}(q:QSs X sts ts)(h:ts D σ H):∃t,PSs X sts t/\t D σ H:=⟨ts,q.h,h⟩
theorem imp{ts':TS}(q:QSs X sts ts)(h:∀D σ H,ts' D σ H->ts D σ H):QSs X sts ts':=⟨λpins s σ H D I z=>q.h pins s σ H D I (h D σ H z)⟩
theorem aY:QSs X [] aH5:=⟨L2.aKl⟩
theorem aH(h1:QS X st ts)(h2:QSs X sts us):QSs X (st::sts) (aH6 ts us):=⟨L2.aH7 h1.h h2.h⟩
theorem aJ(h1:QS X st ts):QSs X [st] ts:=⟨L2.aKm h1.h⟩
theorem tD:QS X st aH9:=⟨L2.aIa⟩
theorem cZ(he:QE X e te)(hs:swapsWith e none pos.line X.env=pure false:=by rfl):QS X (.Expr e pos) (aH8 te):=⟨L2.aKn he.h hs⟩
theorem aR(he:QE X e te):QS X (.Return (some e) pos) (aMm te):=⟨L2.aMn he.h⟩
theorem bH(hc:QT X c tt)(ha:QSs X sts ts)(hb:QSs X sts2 us):QS X (.If c sts sts2 pos) (aMo tt ts us):=⟨L2.aOm hc.h ha.h hb.h⟩
theorem y3{i:Nat}{pos':Pos}(hN:X.N.Nodup)(hi:X.N[i]?=some x)(hx:Loc X.env.scope x)(he:QE X e te)(hs:swapsWith e (some (.Name x pos')) pos.line X.env=pure false:=by rfl)(hf:X.fn x=true\/X.env.scope.names.lookup x=some .local:=by first|exact .inl rfl|exact .inr rfl|assumption) :
  QS X (.Assign [.Name x pos'] e pos) (aEh te (sS i)):=⟨L2.aMt hN hi hx he.h hs hf⟩
theorem aP{i:Nat}{pos':Pos}(hN:X.N.Nodup)(he:QE X e te)(hi:X.N[i]?=some x:=by rfl)(hx:Loc X.env.scope x:=by exact Or.inl rfl)(hs:swapsWith e (some (.Name x pos')) pos.line X.env=pure false:=by rfl)(hf:X.fn x=true\/X.env.scope.names.lookup x=some .local:=by first|exact .inl rfl|exact .inr rfl|assumption) :
  QS X (.Assign [.Name x pos'] e pos) (aEh te (sS i)):=y3 hN hi hx he hs hf
theorem vB(he:QE X e te)(hg:QG X tg g)(hs:swapsWithSole [tg] e pos.line X.env=pure false:=by rfl)(hw:swappedStores [tg] e X.env=pure none:=by rfl)
  (h1:(assignEach [tg] X.env).map (·.2)=[assign tg X.env]:=by rfl):QS X (.Assign [tg] e pos) (aEh te g):=⟨L2.aMs he.h hg.h hs hw h1⟩
theorem y4{i:Nat}{op:Operator}{tip:TIp}{pos':Pos}(hN:X.N.Nodup)(hi:X.N[i]?=some x)(hx:Loc X.env.scope x)(he:QE X e te)(ho:PIp X op tip)(hf:X.fn x=true\/X.env.scope.names.lookup x=some .local:=by first|exact .inl rfl|exact .inr rfl|assumption) :
  QS X (.AugAssign (.Name x pos') op e pos) (aMu i te tip):=⟨L2.aMv hN hi hx he.h ho hf⟩
theorem aFJ{i:Expr}{tget:V->V->Hp->VK->Prop}{tip:TIp}{tset:aC6}{op:Operator}{tpos:Pos}(ho:QE X o to)(hi:QE X i ti)(hg:aMw X tget)(he:QE X e te)(hp:PIp X op tip)(hs:aIb X tset)
  (ha:∀ov iv new,augStore i ov iv new=(do holding [new,ov,iv] (setItem ov iv new);release [new,ov,iv] [];pure .next):=by intros;rfl):QS X (.AugAssign (.Subscript o i tpos) op e pos) (aIe to ti te tget tip tset):=⟨L2.aKs ho.h hi.h hg he.h hp hs ha⟩
theorem cC(hp:PassesOwn (model X.prog X.w) X.A X.env X.xe)(hc:X.calm=true)(hi:QI X tg iter wi)(hg:QG X tg g)(hb:QSs X sts ts)
  (hs:∀x,foldedSetIterable iter X.env x=pure x:=by intro _;rfl):QS X (.For tg iter sts [] pos) (aMz wi g ts):=⟨L2.aMA hp hc hi.h hg.h hb.h hs⟩
variable{scope:Scope}{elt target:Expr}{ifs:List Expr}{N:List Str}
theorem cM{k:Nat}{idx:List Nat}{N:List Str}(S:eM X scope N k idx)(hc:X.calm=true)(hi:QI X target iter wi)
  (hg:∀fp C s H,QG (cxC X scope N fp C s H) target g) (ho:Own k g) (ht:∀fp C s H,QTs (cxC X scope N fp C s H) ifs tt) (he:∀fp C s H,QE (cxC X scope N fp C s H) elt te)
  (hs:∀x,foldedSetIterable iter X.env x=pure x:=by intro _;rfl):QE X (.ListComp elt [⟨target,iter,ifs,0⟩] scope pos) (aEv wi k idx g tt te):=
 ⟨L2.aKU k idx S hc hi.h (λfp C s H=>(hg fp C s H).h) ho (λfp C s H=>(ht fp C s H).h) (λfp C s H=>(he fp C s H).h) hs⟩
theorem qQ{k:Nat}{idx:List Nat}{i:Nat}{N:List Str}{pos':Pos}(hN:X.N.Nodup)(hix:X.N[i]?=some x)(hx:Loc X.env.scope x)
  (S:eM X scope N k idx) (hc:X.calm=true) (hi:QI X target iter wi)
  (hg:∀fp C s H,QG (cxC X scope N fp C s H) target g) (ho:Own k g) (ht:∀fp C s H,QTs (cxC X scope N fp C s H) ifs tt) (he:∀fp C s H,QE (cxC X scope N fp C s H) elt te)
  (hsw:swapsWith (.ListComp elt [⟨target,iter,ifs,0⟩] scope pos) (some (.Name x pos')) spos.line X.env=pure true:=by rfl)
  (hs:∀x,foldedSetIterable iter X.env x=pure x:=by intro _;rfl) (hfn:X.fn x=true\/X.env.scope.names.lookup x=some .local:=by first|exact .inl rfl|exact .inr rfl|assumption) :
  QS X (.Assign [.Name x pos'] (.ListComp elt [⟨target,iter,ifs,0⟩] scope pos) spos) (aEh (aEv wi k idx g tt te) (sS i)):=
 ⟨L2.aKV k idx hN hix hx S hc hi.h (λfp C s H=>(hg fp C s H).h) ho (λfp C s H=>(ht fp C s H).h) (λfp C s H=>(he fp C s H).h) hsw hs hfn⟩
variable{x1:Nat}{e1 e2 e3 e4 e5 e6 e7 e8:Expr}{t1 t2 t3 t4 t5 t6 t7 t8:TE}
theorem mC(h1:QE X e1 t1)(n1:noStar e1=true:=by rfl):QE X (.List [e1] pos) (yR (bW t1 o9)):=⟨L2.aPu h1.h n1⟩
theorem aAH(h1:QE X e1 t1)(h2:QE X e2 t2)(n1:noStar e1=true:=by rfl)(n2:noStar e2=true:=by rfl):QE X (.List [e1,e2] pos) (yR (bW t1 (bW t2 o9))):=⟨L2.aPv h1.h h2.h n1 n2⟩
theorem cQ{k1}(h1:QE X e1 t1)(h2:QE X e2 t2)(n1:noStar e1=true:=by rfl)(n2:noStar e2=true:=by rfl):QE X (.Tuple [e1,e2] k1 pos) (aEj (bW t1 (bW t2 o9))):=⟨L2.aPw h1.h h2.h n1 n2⟩
theorem aDj(h1:QE X e1 t1)(h2:QE X e2 t2)(h3:QE X e3 t3)(n1:noStar e1=true:=by rfl)(n2:noStar e2=true:=by rfl)(n3:noStar e3=true:=by rfl):QE X (.List [e1,e2,e3] pos) (yR (bW t1 (bW t2 (bW t3 o9)))):=⟨L2.aPx h1.h h2.h h3.h n1 n2 n3⟩
theorem aGt{k1}(h1:QE X e1 t1)(h2:QE X e2 t2)(h3:QE X e3 t3)(n1:noStar e1=true:=by rfl)(n2:noStar e2=true:=by rfl)(n3:noStar e3=true:=by rfl):QE X (.Tuple [e1,e2,e3] k1 pos) (aEj (bW t1 (bW t2 (bW t3 o9)))):=⟨L2.aPy h1.h h2.h h3.h n1 n2 n3⟩
theorem aGu(h1:QE X e1 t1)(h2:QE X e2 t2)(h3:QE X e3 t3)(h4:QE X e4 t4)(n1:noStar e1=true:=by rfl)(n2:noStar e2=true:=by rfl)(n3:noStar e3=true:=by rfl)(n4:noStar e4=true:=by rfl):QE X (.List [e1,e2,e3,e4] pos) (yR (bW t1 (bW t2 (bW t3 (bW t4 o9))))):=⟨L2.aPz h1.h h2.h h3.h h4.h n1 n2 n3 n4⟩
theorem aLl{k1}(h1:QE X e1 t1)(h2:QE X e2 t2)(h3:QE X e3 t3)(h4:QE X e4 t4)(h5:QE X e5 t5)(n1:noStar e1=true:=by rfl)(n2:noStar e2=true:=by rfl)(n3:noStar e3=true:=by rfl)(n4:noStar e4=true:=by rfl)(n5:noStar e5=true:=by rfl):QE X (.Tuple [e1,e2,e3,e4,e5] k1 pos) (aEj (bW t1 (bW t2 (bW t3 (bW t4 (bW t5 o9)))))):=⟨L2.aPA h1.h h2.h h3.h h4.h h5.h n1 n2 n3 n4 n5⟩
theorem aLm(h1:QE X e1 t1)(h2:QE X e2 t2)(h3:QE X e3 t3)(h4:QE X e4 t4)(h5:QE X e5 t5)(h6:QE X e6 t6)(h7:QE X e7 t7)(n1:noStar e1=true:=by rfl)(n2:noStar e2=true:=by rfl)(n3:noStar e3=true:=by rfl)(n4:noStar e4=true:=by rfl)(n5:noStar e5=true:=by rfl)(n6:noStar e6=true:=by rfl)(n7:noStar e7=true:=by rfl):QE X (.List [e1,e2,e3,e4,e5,e6,e7] pos) (yR (bW t1 (bW t2 (bW t3 (bW t4 (bW t5 (bW t6 (bW t7 o9)))))))):=⟨L2.aPB h1.h h2.h h3.h h4.h h5.h h6.h h7.h n1 n2 n3 n4 n5 n6 n7⟩
end
end L2.Z
namespace L2.Z
open PySem PySem.Spec PyProof.Rows L2
section
variable{X:Cx}{CX:CXT}{k:Nat}{f C:Addr}{fd:FuncData}{ps:List Str}{sp:Sp}{dvs:List V}{ds:List Value}{E:XK}{x m:Str}{p pos apos p2 spos cpos tp:Pos}{a b c e o st:Expr}{es rest elts:List Expr}{ta tb tc te to ti:TE}{t:TA}{x1:Nat}{ts:TO}
theorem aFK{pl:Sem Bool}(he:QE X o ta)(c:Cls X.K C)(hm:Meth X.K C m f)(F:cR X.prog X.w X.K X.mg X.base CX k f fd ps sp)(hr:eI k X.A)(hb:Binds X.K fd ps ds)(hd:Vals dvs ds)(hx:Passes CX X E)(ha:QA X (e::es) t)
  (hn:(e::es).all noStar=true:=by rfl)
  (ht:eval (.Call (.Attribute o m apos) (e::es) [] pos) X.env=(do
   let ov <-eval o X.env
   standAt apos.atName
   let (f,first) <-holding [ov] (getMethod ov m pl)
   callWith pos f first (backTo pos (starEach (e::es) X.env)) (backToKw pos (keywordEach [] X.env))):=by rfl) :
  QE X (.Call (.Attribute o m apos) (e::es) [] pos) (aGn C m sp dvs E ta t):=⟨L2.aKC he.h c hm F hr hb hd hx ha.h (bZ (hV hn).1) (jB (hV hn).2) ht⟩
end
end L2.Z
namespace L2.Z
open PySem PySem.Spec PyProof.Rows L2
section
variable{X:Cx}{K':W.Frag}{x m n:Str}{p pos apos p2 spos cpos tp pos':Pos}{a b c e o st iter tg:Expr}{es rest elts:List Expr}{ta tb tc te to ti:TE}{t:TA}{x1:Nat}{ts:TO}
theorem aN(ha:QE X a ta)(hb:QE X b tb)(hs:aGq b:=by exact λ_ _=>rfl)(hK:X.K=K':=by rfl):QE X (.Subscript a b pos) (tOp (rIx K') ta tb):=by subst hK;exact⟨L2.aOu aMM ha.h hb.h hs⟩
theorem bR(hl:QE X e te)(hK:X.K=K':=by rfl):QI X tg e (aIf K' te):=by subst hK;exact⟨L2.aKt hl.h⟩
theorem nP(hl:QE X e te)(hK:X.K=K':=by rfl):QI X tg e (aMx K' te):=by subst hK;exact⟨L2.aMy hl.h⟩
theorem tE(hg:Gl X "enumerate")(hm:X.mg "enumerate" = none)(ha:QA X [a] t)(hn:noStar a=true:=by rfl)(hK:X.K=K':=by rfl):QI X (.Tuple elts x1 tp) (.Call (.Name "enumerate" p) [a] [] pos) (aI0 K' t):=by subst hK;exact⟨L2.aLg hg hm ha.h hn⟩
theorem cT{k1 n:Nat}{gs:TGs}(hc:X.calm=true)(h:QGs X es gs)(hn:(assignEach es X.env).length=n:=by rfl)(hst:(assignEach es X.env).findIdx? (·.1)=none:=by rfl)(hK:X.K=K':=by rfl):QG X (.Tuple es k1 pos) (aKr K' n gs):=by subst hK;exact⟨L2.aMp hc h.h hn hst⟩
theorem iN(he:QE X e ta)(hb:attributeBase e n X.env (eval e X.env)=eval e X.env)(hK:X.K=K':=by rfl):QE X (.Attribute e n pos) (aME K' ta n):=by subst hK;exact⟨L2.aMG he.h hb⟩
theorem iO(ha:QE X o ta)(hv:QE X e te)(hs:swapsWith e (some (.Attribute o n pos')) pos.line X.env=pure false)(hK:X.K=K':=by rfl):QS X (.Assign [.Attribute o n pos'] e pos) (aMF K' ta te n):=by subst hK;exact⟨L2.aMH ha.h hv.h hs⟩
theorem fE(ho:QE X o to)(ha:QA X [e] t)(hn:noStar e=true:=by rfl)(hbase:attributeBase o "append" X.env (eval o X.env)=eval o X.env:=by rfl)(hline:(apos.endLine == cpos.line)=true:=by rfl)(hK:X.K=K':=by rfl) :
  QE X (.Call (.Attribute o "append" apos) [e] [] cpos) (tBM K' "list" aAE to t):=by subst hK;exact⟨L2.aNx ho.h ha.h hn hbase hline⟩
theorem aA0(he:QE X e te)(hs:QO X (some st) ts)(hK:X.K=K':=by rfl):QE X (.Subscript e (.Slice none none (some st) p2) pos) (aI4 K' te ts):=by subst hK;exact⟨L2.aNv he.h hs.h⟩
end
end L2.Z
namespace L2.Z
open PySem PySem.Spec PyProof.Rows L2
section
variable{X:Cx}{K':W.Frag}{p pos tp:Pos}{a b:Expr}{elts:List Expr}{t:TA}{x1:Nat}
theorem aFL(hg:Gl X "zip")(hm:X.mg "zip" = none)(ha:QA X [a,b] t)(hn:noStar a=true:=by rfl)(hn2:noStar b=true:=by rfl)(hK:X.K=K':=by rfl):QI X (.Tuple elts x1 tp) (.Call (.Name "zip" p) [a,b] [] pos) (aNB K' t):=by subst hK;exact⟨L2.aND hg hm ha.h hn hn2⟩
end
end L2.Z
namespace L2
open PySem
section
variable{prog:Program}{w:World}{A:Around}{E:Value->Shared->Prop}{s:Shared}
end
def SIt(h:Heap)(k:Bool)(it src:Addr)(i:Nat):Prop:=if k=true then h.IsListIter it src i else h.IsTupleIter it src i
def aLn(h:Heap)(k:Bool)(src:Addr)(items:Array Value):Prop:=if k=true then h.IsList src items else h.IsTuple src items
theorem SIt.at{h h':Heap}{k:Bool}{it src:Addr}{i:Nat}(x:SIt h k it src i)(e:∀o,h.get? it=some o->h'.get? it=some o):SIt h' k it src i:=by
 cases k with
 |true=>obtain⟨o,ho,r⟩:=(show h.IsListIter it src i from x);exact(show h'.IsListIter it src i from⟨o,e o ho,r⟩)
 |false=>obtain⟨o,ho,r⟩:=(show h.IsTupleIter it src i from x);exact(show h'.IsTupleIter it src i from⟨o,e o ho,r⟩)
theorem aLn.at{h h':Heap}{k:Bool}{src:Addr}{items:Array Value}(x:aLn h k src items)(e:∀o,h.get? src=some o->h'.get? src=some o):aLn h' k src items:=by
 cases k with
 |true=>obtain⟨o,ho,r⟩:=(show h.IsList src items from x);exact(show h'.IsList src items from⟨o,e o ho,r⟩)
 |false=>obtain⟨o,ho,r⟩:=(show h.IsTuple src items from x);exact(show h'.IsTuple src items from⟨o,e o ho,r⟩)
theorem SIt.obj{h:Heap}{k:Bool}{it src:Addr}{i:Nat}(x:SIt h k it src i):∃o vs,h.get? it=some o/\o.data=.fields vs:=by
 cases k with
 |true=>obtain⟨o,ho,_,r⟩:=(show h.IsListIter it src i from x);exact⟨o,_,ho,r⟩
 |false=>obtain⟨o,ho,_,r⟩:=(show h.IsTupleIter it src i from x);exact⟨o,_,ho,r⟩
section
variable{prog:Program}{w:World}{A:Around}{E:Value->Shared->Prop}{s:Shared}
end
abbrev ZS:=Bool×Addr×Addr
abbrev aI9(h:Heap)(T:Addr)(vs:Array Value):Prop:=h.get? T=some { cls:=.type "tuple",data:=.seq vs }
section
variable{prog:Program}{w:World}{A:Around}{E:Value->Shared->Prop}{s:Shared}
end
def ZSt(z TI TO:Addr)(L:List ZS)(i:Nat)(h:Heap):Prop:=
 IsZip h z TI TO .none/\aI9 h TI (L.map λt=>Value.ref t.2.1).toArray/\(∃arr,aI9 h TO arr/\arr.size=L.length)/\∀t∈L,SIt h t.1 t.2.1 t.2.2 i
section
variable{prog:Program}{w:World}{A:Around}{E:Value->Shared->Prop}{s:Shared}
end
section
variable{prog:Program}{w:World}{A:Around}{E:Value->Shared->Prop}{s:Shared}
end
end L2
namespace L2
open PySem PySem.Spec PyProof.Rows
def Src(H:Hp)(k:Bool)(a:Addr)(xs:List V):Prop:=H a=some (if k=true then .lst xs else .tup xs)
theorem Src.inj{H:Hp}{k:Bool}{a:Addr}{xs ys:List V}(h:Src H k a xs)(h':Src H k a ys):xs=ys:=by
 unfold Src at h h'
 rw[h] at h'
 cases k with
 |true=>injection h' with e;injection e
 |false=>injection h' with e;injection e
theorem Src.lst{H:Hp}{a:Addr}{xs:List V}(h:H a=some (.lst xs)):Src H true a xs:=h
theorem Src.tup{H:Hp}{a:Addr}{xs:List V}(h:H a=some (.tup xs)):Src H false a xs:=h
theorem Inv.src{X:Cx}{pins:List (Addr×Obj)}{σ:St}{H:Hp}{s:Shared}{k:Bool}{a:Addr}{xs:List V}(I:Inv X pins σ H s)(h:Src H k a xs):∃its:List Value,Vals xs its/\aLn s.heap k a its.toArray/\xs.length<=sizeLine:=by
 cases k with
 |true=>
  obtain⟨its,r,p,z⟩:=I.list (bU.of h)
  exact⟨its,r,p.isList,z⟩
 |false=>
  obtain⟨its,r,p,z⟩:=I.tuple (iY.of h)
  exact⟨its,r,p,z⟩
abbrev zFp(z TI TO:Addr)(L:List ZS):List Addr:=z::TI::TO::L.map (·.2.1)
theorem ZSt.obj{z TI TO:Addr}{L:List ZS}{i:Nat}{h:Heap}(st:ZSt z TI TO L i h):∀b∈zFp z TI TO L,∃o,h.get? b=some o/\∀v,o.data≠.cell v:=λb hb=>by
 obtain⟨hz,hTI,⟨arr,hTO,_⟩,hit⟩:=st
 simp only[zFp,lW] at hb
 rcases hb with rfl|rfl|rfl|hb
 ·exact⟨_,hz,λv z=>by cases z⟩
 ·exact⟨_,hTI,λv z=>by cases z⟩
 ·exact⟨_,hTO,λv z=>by cases z⟩
 ·obtain⟨t,ht,rfl⟩:=o8.mp hb
  obtain⟨o,vs,e,d⟩:=(hit t ht).obj
  exact⟨o,e,λv z=>by rw[d] at z;cases z⟩
section
variable{X:Cx}{elts:List Expr}{x1:Nat}{tp:Pos}{k1 k2 k3:Bool}
end
section
variable{σ:St}{H:Hp}{nx:St->Hp->Prop}{rt:VK}{g:TG}{tb:TS}{Q:VK}{k1 k2 k3:Bool}{a b c:Addr}{xs ys zs:List V}{n:Nat}
end
section
variable{σ₀:St}{g:TG}{tt:TT}{te:TE}{R:List V->Hp->Prop}{H:Hp}{k1 k2 k3:Bool}{a b c:Addr}{xs ys zs:List V}{n:Nat}
end
section
variable{X:Cx}
end
end L2
namespace L2.Z
open PySem PySem.Spec PyProof.Rows L2
section
variable{X:Cx}{p pos tp:Pos}{a b c:Expr}{elts:List Expr}{t:TA}{x1:Nat}{k1 k2 k3:Bool}
end
end L2.Z
namespace L2
open PySem PySem.Spec PyProof.Rows
theorem nw{H:Hp}{p:Addr}(o:HO)(n:H p=none):∃H2,upd H p o=H2/\aU H H2/\H2 p=some o:=⟨_,rfl,aU.new n,aT⟩
theorem wr(H:Hp)(p:Addr)(o:HO):∃H2,upd H p o=H2/\cE p H H2/\H2 p=some o:=⟨_,rfl,cE.upd,aT⟩
end L2
namespace L2
open PySem PySem.Spec PyProof.Rows
end L2
namespace L2
open PySem PySem.Spec PyProof.Rows
def Nx(N:St->Hp->Prop)(σ:St)(H:Hp):Prop:=N σ H
structure Tail(N b:St->Hp->Prop):Prop where
 h:∀σ H,b σ H->N σ H
theorem aLo{nx bk ct:St->Hp->Prop}{rt:VK}{σ:St}{H:Hp}{t u:TS}(h:∀N,Tail N (u ⟨nx,rt,bk,ct⟩)->t ⟨Nx N,rt,bk,ct⟩ σ H):aH6 t u ⟨nx,rt,bk,ct⟩ σ H:=h _ ⟨λ_ _ h=>h⟩
theorem aOZ{N b:St->Hp->Prop}{σ:St}{H:Hp}(t:Tail N b)(h:b σ H):Nx N σ H:=t.h _ _ h
end L2
namespace L2
open PySem PySem.Spec PyProof.Rows
section
variable{prog:Program}{w:World}{A:Around}{E:Value->Shared->Prop}{s:Shared}{K:W.Frag}{x C:Addr}{ox:Obj}{od:Option Obj}
end
section
variable{X:Cx}
end
end L2
namespace L2
open PySem PySem.Spec PyProof.Rows
section
variable{X:Cx}{pins:List (Addr×Obj)}{σ:St}{H:Hp}{s:Shared}
end
theorem cA.obj{P:Program}{w:World}{H:Hp}{h:Heap}{a:Addr}{o:HO}(x:cA P w H h a o):∃u,h.get? a=some u:=by
 cases o with
 |lst xs=>obtain⟨_,_,_,_,e⟩:=x;exact⟨_,e⟩
 |tup xs=>obtain⟨_,_,_,u,e,_⟩:=x;exact⟨u,e⟩
 |dK kvs=>obtain⟨_,_,_,_,u,_,_,e,_⟩:=x;exact⟨u,e⟩
 |dT kvs=>obtain⟨_,_,_,_,u,_,_,e,_⟩:=x;exact⟨u,e⟩
 |set S n=>obtain⟨u,_,_,_,e,_⟩:=x;exact⟨u,e⟩
 |ins C dx fs=>obtain⟨_,_,_,e,_⟩:=x;exact⟨_,e⟩
 |own y=>exact x
 |xd fs=>obtain⟨_,⟨u,_,_,e,_⟩,_⟩:=x;exact⟨u,e⟩
 |rng lo hi=>obtain⟨_,_,_,e⟩:=x;exact⟨_,e⟩
 |frz ob u=>exact⟨_,x.1⟩
 |tbl ps=>exact⟨_,x⟩
 |met f y=>exact⟨_,x⟩
 |ext φ=>exact x.2.1
 |cod q=>obtain⟨o,_,_,e,_⟩:=x;exact⟨o,e⟩
 |ctb pos q=>obtain⟨_,e,_⟩:=x;exact⟨_,e⟩
theorem Inv.aO0{X:Cx}{pins:List (Addr×Obj)}{σ:St}{H:Hp}{s:Shared}{h':Heap}{a:Addr}{o:HO}{t':Nat}(I:Inv X pins σ H s)(k:∀b u,s.heap.get? b=some u->h'.get? b=some u)(hne:∀b u,s.heap.get? b=some u->b≠a)
  (new:cA X.prog X.w (upd H a o) h' a o):H a=none/\Inv X pins σ (upd H a o) { s with heap:=h',toks:=t' }:=by
 have hn:H a=none:=by
  cases e:H a with
  |none=>rfl
  |some u=>
   obtain⟨ob,z⟩:=(I.hok a u e).obj
   exact absurd rfl (hne a ob z)
 refine⟨hn,I.un ⟨λb u q _ _ _=>k b u q,λb u q _ _ _=>⟨u.slots,k b u q⟩,λb u q n _=>?_,λb u q _=>⟨u,k b u q⟩,λb xs q=>?_,λb u xs q=>?_,λb ps q=>⟨#[],?_⟩⟩ λb u e=>?_⟩
 ·rw[bB (hne b u q)];exact n
 ·rw[bB (bO q hn)];exact q
 ·rw[bB (bO q hn)];exact q
 ·rw[bB (bO q hn),q];simp
 ·by_cases hb:b=a
  ·subst hb;rw[aT] at e;cases e;exact new
  ·rw[bB hb] at e
   exact(I.hok b u e).yN (λc v _ q=>k c v q) (λc q=>by rw[bB (bO q hn)];exact q) λc xs _ q=>by rw[bB (bO q hn)];exact q
section
variable{X:Cx}{tg:Expr}
end
section
variable{σ:St}{H:Hp}{nx:St->Hp->Prop}{rt:VK}{g:TG}{tb:TS}
end
section
variable{X:Cx}
end
section
variable{X:Cx}{o e:Expr}{to:TE}{apos cpos:Pos}
end
section
variable{K:W.Frag}{σ:St}{H:Hp}{Q:VK}
theorem aNF{T:String}{r:V->List V->Hp->VK->Prop}{to:TE}(h:to σ H λx H1=>tyV K T x H1/\r x [] H1 Q):aKI K T r to σ H Q:=h
end
end L2
namespace L2.Z
open PySem PySem.Spec PyProof.Rows
section
variable{X:Cx}{K':W.Frag}{tg o i value l:Expr}{to td ty tv tl:TE}{pos pos' apos cpos:Pos}
theorem aA1(hu:X.A.units+9 < cLine)(ho:QE X o td)(hi:QE X i ty)(hv:QE X value tv)(hs:swapsWith value (some (.Subscript o i pos')) pos.line X.env=pure false:=by rfl) :
  QS X (.Assign [.Subscript o i pos'] value pos) (aIB td ty tv):=⟨L2.aKN (by omega) ho.h hi.h hv.h hs⟩
end
end L2.Z
namespace L2
open PySem PySem.Spec PyProof.Rows
section
variable{σ:St}{H:Hp}{Q:VK}{nx bk ct:St->Hp->Prop}{rt:VK}
theorem aLp{td ty tv:TE}(h:tv σ H λv H1=>td σ H1 λx H2=>ty σ H2 λy H3=>∃a H4,x=.ref a/\aBW H3 a y v H4/\nx σ H4):aIB td ty tv ⟨nx,rt,bk,ct⟩ σ H:=h
end
end L2
namespace L2
open PySem PySem.Spec PyProof.Rows
section
variable{prog:Program}{w:World}{A:Around}{E:Value->Shared->Prop}{s:Shared}{K:W.Frag}{x C:Addr}{ox:Obj}{od:Option Obj}{name:Str}{v:Value}{expr:Bool}
end
section
variable{prog:Program}{w:World}{A:Around}{E:Value->Shared->Prop}{s:Shared}{K:W.Frag}{x C:Addr}{o:Obj}{name:Str}{v:Value}
open PySem.Builtin PySem.Builtin.ObjectAttr in
end
section
variable{prog:Program}{w:World}{A:Around}{E:Value->Shared->Prop}{s:Shared}{K:W.Frag}
variable{nm q:Str}{C N fI:Addr}{bs bm bmB:List Value}{hdct:Bool}{sn:List Str}{sub:List Value}{ab:Bool}{col:Option Bool}{dd:Option Addr}{k0 k1 k2 k3 k5:Option Value}{B newId initId:String}
end
section
variable{M:Model}{A:Around}{E:Value->Shared->Prop}{s:Shared}{base:Heap}{env:Env}{outer:List Env}{L e:Addr}{oe:Obj}{vs:Array Value}{Q:Unit->Shared->Prop}
end
def aPC(C:Addr)(od:Option Addr)(e:Addr):HO:=.ext λh=>∃o vs,h.get? e=some o/\o.cls=.ref C/\o.dict=od/\o.data=.fields vs
section
variable{X:Cx}{pins:List (Addr×Obj)}{σ:St}{H:Hp}{s:Shared}{h':Heap}{C e:Addr}{od:Option Addr}{oe:Obj}
end
end L2
namespace L2
open PySem PySem.Spec PyProof.Rows
section
variable{X:Cx}{pins:List (Addr×Obj)}{σ:St}{H:Hp}{s:Shared}
end
end L2
namespace L2
open PySem PySem.Spec PyProof.Rows
section
variable{X:Cx}{k:Nat}{f C:Addr}{fd:FuncData}{ps:List Str}{sp:Sp}{x:Str}{p pos:Pos}{e:Expr}{es:List Expr}{t:TA}{te:TE}
end
end L2
namespace L2
open PySem PySem.Spec PyProof.Rows
section
variable{X:Cx}{o e value:Expr}{f:Str}{pos pos':Pos}{ta tv:TE}
end
end L2
namespace L2
open PySem PySem.Spec PyProof.Rows
section
variable{prog:Program}{w:World}{A:Around}{E:Value->Shared->Prop}{s:Shared}{K:W.Frag}{x D:Addr}{ox:Obj}{odo:Option Obj}
end
def y6(H:Hp)(od:Option Addr):Prop:=∀dx,od=some dx->∃fs,H dx=some (.xd fs)
theorem y6.none{H:Hp}:y6 H none:=λ_ z=>nomatch z
theorem y6.some{H:Hp}{dx:Addr}{fs:List (Str×V)}(h:H dx=some (.xd fs)):y6 H (some dx):=λ_ z=>by cases z;exact⟨fs,h⟩
theorem y6.there{P:Program}{w:World}{H:Hp}{h:Heap}{od:Option Addr}(hok:sL P w H h)(d:y6 H od):∀dx,od=Option.some dx->∃o,h.get? dx=Option.some o:=λdx z=>by
 obtain⟨fs,e⟩:=d dx z
 exact(hok dx _ e).obj
section
variable{X:Cx}{K:W.Frag}{H:Hp}{Q:VK}
theorem pX:∀{cs:List Addr}{us:List Value},Vals (cs.map V.ref) us->us=cs.map Value.ref
 |[],_,.nil=>rfl
 |c::cs,_,.cons r t=>by cases r;rw[pX t];rfl
end
end L2
namespace L2
open PySem PySem.Spec PyProof.Rows
abbrev TW:=St->Hp->Addr->Prop
structure aNG(X:Cx)(pins:List (Addr×Obj))(T:Addr):Prop where
 up:X.s₀.heap.objs.size<=T
 loc:T≠X.env.locals
 cell:∀x c,X.env.cells.lookup x=some c->c≠T
 pin:∀p∈X.pn++pins,p.1≠T
section
variable{M:Model}{A:Around}{E:Value->Shared->Prop}{s:Shared}{base:Heap}{env:Env}{outer:List Env}{L e:Addr}{oe:Obj}{vs:Array Value}{Q:Unit->Shared->Prop}
variable{T:Addr}{oT:Obj}{ts:Array Value}
end
section
variable{X:Cx}{pins:List (Addr×Obj)}{σ:St}{H:Hp}{s:Shared}{h':Heap}{C e T:Addr}{od:Option Addr}{oe:Obj}
end
structure aPD(X:Cx)(pins:List (Addr×Obj))(H:Hp)(h:Heap)(e:Addr):Prop where
 ex:∃(C:Addr) (od:Option Addr) (oe:Obj) (vs:Array Value) (T:Addr) (oT:Obj) (ts:Array Value),H e=some (aPC C od e)/\h.get? e=some oe/\oe.data=.fields vs/\vs[1]?=some (.ref T)/\T≠e/\aNG X pins T/\H T=none/\h.get? T=some oT/\oT.data=.fields ts/\3 < ts.size
def aNH(X:Cx)(pins:List (Addr×Obj))(W:TW)(ev:Value)(s':Shared):Prop:=∃(e:Addr) (σ:St) (H':Hp),ev=.ref e/\Inv X pins σ H' s'/\aPD X pins H' s'.heap e/\W σ H' e
def Cx.tr(X:Cx)(pins:List (Addr×Obj))(W:TW):Cx:={ X with pn:=X.pn++pins,xe:=aNH X pins W }
def Cx.hnd(X:Cx)(e:Addr):Cx:={ X with A:=X.A.mark (some (.ref e)),calm:=false,xe:=λ_ _=>False }
section
variable{X:Cx}{pins pins':List (Addr×Obj)}{σ:St}{H:Hp}{s:Shared}{W:TW}{e:Addr}
theorem Cx.Ok.tr(ok:X.Ok):(X.tr pins W).Ok:=⟨ok.mod,ok.kind,ok.glob,ok.blt,ok.above,ok.inj,ok.has,ok.cab,ok.hd,ok.frames,ok.stk,ok.exf,ok.bs,ok.bsz,ok.noex,ok.exfs,ok.vP,ok.frf⟩
theorem Cx.Ok.hnd(ok:X.Ok):(X.hnd e).Ok:=⟨ok.mod,ok.kind,ok.glob,ok.blt,ok.above,ok.inj,ok.has,ok.cab,(λz=>Bool.noConfusion z),ok.frames,ok.stk,ok.exf,ok.bs,ok.bsz,ok.noex,ok.exfs,ok.vP,ok.frf⟩
theorem Inv.tr(I:Inv X pins σ H s):Inv (X.tr pins W) [] σ H s:=⟨I.ok.tr,I.os,I.bare,I.base,I.loc,I.cell,I.free,I.freeC,λp hp=>I.pin p (by rw[Si9] at hp;exact hp),I.hok,I.len⟩
theorem Inv.hnd(I:Inv X pins σ H s):Inv (X.hnd e) pins σ H s:=⟨I.ok.hnd,I.os,I.bare,I.base,I.loc,I.cell,I.free,I.freeC,I.pin,I.hok,I.len⟩
end
abbrev TH:=Ends->St->Hp->Addr->Prop
section
variable{X:Cx}{x n:Str}{C0:Addr}{i:Nat}{b₀:Stmt}{suite body:List Stmt}{np pos:Pos}{rest:List ExceptHandler}{h₀:ExceptHandler}{hs:List ExceptHandler}{ts:TS}{th:TH}{tb:TW->TS}
end
end L2
namespace L2
open PySem PySem.Spec PyProof.Rows
section
variable{X:Cx}{pn:List (Addr×Obj)}{W:TW}{k:Nat}{f C:Addr}{fd:FuncData}{ps:List Str}{sp:Sp}{x:Str}{p pos:Pos}{e:Expr}{es:List Expr}{t:TA}
end
structure aCG(k:Nat)(A:Around):Prop where
 dp:A.depth+3*k+5 < recursionLimit
 un:A.units+16*k+200 < cLine
theorem eI.h{k:Nat}{A:Around}(r:eI k A):aCG k A:=⟨r.dp,r.un⟩
theorem aCG.mark{k:Nat}{A:Around}(r:aCG k A)(o:Option Value):aCG k (A.mark o):=⟨r.dp,r.un⟩
theorem aCG.calm{k:Nat}{A:Around}(r:aCG k A):eI k { A with handled:=none }:=⟨rfl,r.dp,r.un⟩
section
variable{X:Cx}{k:Nat}{f:Addr}{fd:FuncData}{ps:List Str}{sp:Sp}{x:Str}{p pos:Pos}{e:Expr}{es:List Expr}{t:TA}
end
end L2
namespace L2
open PySem PySem.Spec PyProof.Rows
section
variable{K:W.Frag}{σ:St}{H:Hp}{Q:VK}{nx bk ct:St->Hp->Prop}{rt:VK}
end
end L2
namespace L2.Z
open PySem PySem.Spec PyProof.Rows L2
section
variable{X:Cx}{K':PySem.W.Frag}{pn:List (Addr×Obj)}{W:TW}{k:Nat}{f C C0:Addr}{fd:FuncData}{ps:List Str}{sp:Sp}{x n:Str}{p pos pos' np:Pos}{e o:Expr}{es:List Expr}{t:TA}{te ta:TE}{E:XK}{i:Nat}{b₀:Stmt}{suite body:List Stmt}{rest hs:List ExceptHandler}{h₀:ExceptHandler}{ts:TS}{th:TH}{tb:TW->TS}
end
end L2.Z
namespace L2
open PySem PySem.Spec PyProof.Rows
section
variable{X:Cx}
def aO1(K:W.Frag):List V->Hp->VK->Prop:=λxs H Q=>∃(p:Addr) (bs:List Bool),xs=[.ref p]/\bU K H p (bs.map V.bl)/\Q (.bl (bs.any id)) H
theorem aHv(hc:X.calm=true):eJ X (.builtin "any") (aO1 X.K):=by
 intro pins s σ H xs us Q I r h
 obtain⟨p,bs,rfl,hq,q⟩:=h
 obtain⟨u,rfl,rx⟩:=vals1 r
 cases rx
 obtain⟨its,r',pl,hz⟩:=I.list hq
 have e:=wH r'
 subst e
 have hl:=pl.isList
 have hlt:p < s.heap.objs.size:=by obtain⟨_,e,_⟩:=id hl;exact hX e
 refine call_any_walk (wpAny_pyIter_list hl ?_)
 refine⟨s.heap.objs.size,[s.heap.objs.size,p],[s.heap.objs.size],(bs.map Value.bool).toArray.size,_,_,λi=>(bs[i]?).getD false,rfl,Walks.list (A:=X.A.in1) (I.ok.hd hc) _ p (pP hlt) (bs.map Value.bool).toArray,
  ⟨⟨_,sN _ rfl,rfl,rfl⟩,hl.push _⟩,λi v s' Q' E' hP hQ=>?_,λh' tk hk=>?_⟩
 ·have hP':(bs.map Value.bool)[i]?=some v:=by simpa using hP
  rw[qB] at hP'
  cases hb:bs[i]? with
  |none=>rw[hb] at hP';cases hP'
  |some b=>
   rw[hb] at hP'
   cases hP'
   simp only[hb,Tf9] at hQ
   exact wpAny_truthy_bool hQ
 ·have e:((List.range (bs.map Value.bool).toArray.size).any λi=>(bs[i]?).getD false)=bs.any id:=by
   rw[jV,cD];exact LSm.range_any bs
  rw[e]
  exact⟨.bl _,H,I.kept (t':=tk) (LSm.kept_iter hk),rfl,q⟩
end
end L2
namespace L2
open PySem PySem.Spec PyProof.Rows
end L2
namespace L2
open PySem PySem.Spec PyProof.Rows
section
variable{X:Cx}{o e:Expr}{to:TE}{t:TA}{apos cpos:Pos}
theorem aGv:∀{ns:List Int}{us:List Value},Vals (ns.map V.int) us->IntsAre us ns
 |[],_,.nil=>.nil
 |n::ns,_,.cons r t=>by
  obtain⟨k,rfl⟩:=(show ∃k,_=Value.int n k from r)
  exact .cons n k (aGv t)
def aDk(K:W.Frag):V->List V->Hp->VK->Prop:=λx vs H Q=>∃(l:Addr) (ns:List Int) (k:Int),x=.ref l/\vs=[.int k]/\bU K H l (ns.map V.int)/\Q (.int (ns.count k:Nat)) H
theorem aJa:MtR X "list.count" (aDk X.K):=by
 intro pins s σ H x vs v us Q I rx rv h
 obtain⟨l,ns,k,rfl,rfl,hS,q⟩:=h
 cases rx
 obtain⟨u,rfl,ru⟩:=rv.one
 obtain⟨tk,rfl⟩:=(show ∃tk,u=Value.int k tk from ru)
 obtain⟨its,r,pl,hz⟩:=I.list hS
 exact count_list_ints pl.isList (aGv r) ⟨.int (ns.count k:Nat),H,I.tok _,⟨_,rfl⟩,q⟩
theorem aJb(ho:PE X o to)(ha:PA X [e] t)(hn:noStar e=true:=by rfl)(hbase:attributeBase o "count" X.env (eval o X.env)=eval o X.env:=by rfl)(hline:(apos.endLine == cpos.line)=true:=by rfl) :
  PE X (.Call (.Attribute o "count" apos) [e] [] cpos) (tBM X.K "list" (aDk X.K) to t):=
 aIx PySem.F.plainAttrs_list PySem.F.slot_list_count PySem.F.type_list_count aJa ho ha hbase (by rw[bZ hn];rfl) hline (bZ hn) (by rfl)
theorem aEC{K:W.Frag}{H:Hp}{Q:VK}{l:Addr}{ns:List Int}{k:Int}(h:bU K H l (ns.map V.int))(q:Q (.int (ns.count k:Nat)) H):aDk K (.ref l) [.int k] H Q:=⟨l,ns,k,rfl,rfl,h,q⟩
end
end L2
namespace L2.Z
open PySem PySem.Spec PyProof.Rows L2
theorem xI{X:Cx}{K':PySem.W.Frag}{o e:Expr}{to:TE}{t:TA}{apos cpos:Pos}(ho:QE X o to)(ha:QA X [e] t)(hn:noStar e=true:=by rfl)(hbase:attributeBase o "count" X.env (eval o X.env)=eval o X.env:=by rfl)(hline:(apos.endLine == cpos.line)=true:=by rfl)(hK:X.K=K':=by rfl) :
  QE X (.Call (.Attribute o "count" apos) [e] [] cpos) (tBM K' "list" (aDk K') to t):=by subst hK;exact⟨L2.aJb ho.h ha.h hn hbase hline⟩
end L2.Z
namespace L2
open PySem PySem.W PyProof.Rows
section
variable{O:KeyOrd}{key:Nat->O.α}{N:Nat}{cmp:Nat->Nat->(Bool->Shared->Prop)->Shared->Prop}{s:Shared}
def kq(key:Nat->O.α)(p:Array Nat)(i:Nat):O.α:=key (p.getD i 0)
def Up(key:Nat->O.α)(p:Array Nat)(k:Nat):Prop:=∀i j,i<=j->j < k->O.kle (kq key p i) (kq key p j)
def Dn(key:Nat->O.α)(p:Array Nat)(k:Nat):Prop:=∀i j,i<=j->j < k->O.kle (kq key p j) (kq key p i)
def Row(N:Nat)(p:Array Nat):Prop:=p.Perm (List.toArray (List.range N))
theorem aED{p q:Array Nat}{i j:Nat}(h:p[i]?=q[j]?):kq key p i=kq key q j:=by
 unfold kq
 rw[Rw9,Rw9,h]
theorem aJc{p:Array Nat}{a d:Nat}(ha:a < p.size)(hd:d<=a)(k:Nat):kq key (bubble p a d) k=if k=a - d then kq key p a else if a - d < k/\k<=a then kq key p (k - 1) else kq key p k:=by
 have e:=getElem?_bubble ha d hd k
 split
 ·rename_i h;rw[if_pos h] at e;exact aED e
 ·rename_i h
  rw[if_neg h] at e
  split
  ·rename_i g;rw[if_pos g] at e;exact aED e
  ·rename_i g;rw[if_neg g] at e;exact aED e
theorem aDl{p:Array Nat}{i j:Nat}(hj:j<=p.size)(k:Nat):kq key (kas_rev p i j) k=if i<=k/\k < j then kq key p (i+j - 1 - k) else kq key p k:=by
 have e:=getElem?_mirror_all (i:=i) hj k
 split
 ·rename_i h;rw[if_pos h] at e;exact aED e
 ·rename_i h;rw[if_neg h] at e;exact aED e
theorem Row.size{p:Array Nat}(h:Row N p):p.size=N:=by
 have:=h.size_eq
 rw[this]
 simp
theorem Row.lt{p:Array Nat}(h:Row N p)(hN:0 < N)(i:Nat):p.getD i 0 < N:=by
 by_cases hi:i < p.size
 ·have e:p.getD i 0=p[i]:=by simp[Array.getD,hi]
  have m:p[i]∈p.toList:=by simp
  have m2:=(Array.perm_iff_toList_perm.mp h).mem_iff.mp m
  rw[e]
  simpa using m2
 ·have e:p.getD i 0=0:=by simp[Array.getD,hi]
  rw[e];exact hN
theorem Row.rev{p:Array Nat}(h:Row N p)(i j:Nat):Row N (kas_rev p i j):=(mirror_perm p i j _).trans h
theorem Row.bub{p:Array Nat}(h:Row N p)(i j:Nat):Row N (bubble p i j):=(bubble_perm p i j).trans h
theorem Up.more{p:Array Nat}{m:Nat}(h:Up key p m)(e:O.kle (kq key p (m - 1)) (kq key p m)):Up key p (m+1):=λi j hij hj=>by
 by_cases hm:j < m
 ·exact h i j hij hm
 ·have ej:j=m:=by omega
  subst ej
  by_cases hi:i=j
  ·subst hi;exact KeyOrd.kle_refl _
  ·exact KeyOrd.kle_trans (h i (j - 1) (by omega) (by omega)) e
theorem Dn.more{p:Array Nat}{m:Nat}(h:Dn key p m)(e:O.kle (kq key p m) (kq key p (m - 1))):Dn key p (m+1):=λi j hij hj=>by
 by_cases hm:j < m
 ·exact h i j hij hm
 ·have ej:j=m:=by omega
  subst ej
  by_cases hi:i=j
  ·subst hi;exact KeyOrd.kle_refl _
  ·exact KeyOrd.kle_trans e (h i (j - 1) (by omega) (by omega))
def Ans(key:Nat->O.α)(N:Nat)(cmp:Nat->Nat->(Bool->Shared->Prop)->Shared->Prop)(s:Shared):Prop:=∀i j (C:Bool->Shared->Prop),i < N->j < N->C (O.blt (key i) (key j)) s->cmp i j C s
theorem Ans.ask{α:Type}(hc:Ans key N cmp s)(hN:0 < N){p:Array Nat}(hp:Row N p){i j:Nat}{k:Bool->KasT α}{Q:α->Shared->Prop}(h1:O.klt (kq key p i) (kq key p j)->(k true).kasWp cmp Q s)(h2:O.kle (kq key p j) (kq key p i)->(k false).kasWp cmp Q s) :
  (KasT.ask (p.getD i 0) (p.getD j 0) k).kasWp cmp Q s:=by
 refine hc _ _ _ (hp.lt hN i) (hp.lt hN j) ?_
 cases e:O.blt (key (p.getD i 0)) (key (p.getD j 0)) with
 |true=>exact h1 e
 |false=>exact h2 e
theorem aFM(hc:Ans key N cmp s)(hN:0 < N){p:Array Nat}(hp:Row N p){Q:Nat->Shared->Prop}:∀{f m:Nat},f=N - m->1<=m->m<=N->Up key p m->
  (∀r,m<=r->r<=N->Up key p r->(r < N->O.klt (kq key p r) (kq key p (r - 1)))->Q r s)->(kas_asc p f m).kasWp cmp Q s
 |0,m,hf,h1,hm,hu,h=>h m (dQ _) hm hu (λz=>by omega)
 |f+1,m,hf,h1,hm,hu,h=>by
  refine hc.ask hN hp (λz=>?_) (λz=>?_)
  ·rw[if_pos rfl]
   exact h m (dQ _) hm hu λ_=>z
  ·rw[if_neg (by decide)]
   exact aFM hc hN hp (by omega) (by omega) (by omega) (hu.more z) λr a b c d=>h r (by omega) b c d
def Blk(key:Nat->O.α)(p:Array Nat)(n q:Nat):Prop:=∀i,n - (q+1)<=i->i < n->kq key p i=kq key p (n - 1)
theorem Blk.same{p:Array Nat}{n q:Nat}(h:Blk key p n q)(hz:n<=p.size)(k:Nat):kq key (kas_rev p (n - (q+1)) n) k=kq key p k:=by
 rw[aDl hz]
 split
 ·rename_i g
  rw[h k g.1 g.2]
  exact h _ (by omega) (by omega)
 ·rfl
theorem aAI(hc:Ans key N cmp s)(hN:0 < N){Q:Array Nat×Nat×Nat->Shared->Prop}:∀{f n q:Nat}{p:Array Nat},Row N p->f=N - n->1<=n->n<=N->q+1<=n->Dn key p n->Blk key p n q->
  (∀p' n' q',Row N p'->1<=n'->n'<=N->q'+1<=n'->Dn key p' n'->Blk key p' n' q'->Q (p',n',q') s)->(kas_desc f p n q).kasWp cmp Q s
 |0,n,q,p,hp,hf,h1,hn,hq,hd,hb,h=>h p n q hp h1 hn hq hd hb
 |f+1,n,q,p,hp,hf,h1,hn,hq,hd,hb,h=>by
  have hz:n<=p.size:=by rw[hp.size];exact hn
  refine hc.ask hN hp (λz=>?_) (λz=>?_)
  ·rw[if_pos rfl]
   have hd':Dn key p (n+1):=hd.more (KeyOrd.kle_of_klt z)
   split
   ·have e:=hb.same hz
    refine aAI hc hN (hp.rev _ _) (by omega) (by omega) (by omega) (by omega) (λi j a b=>?_) (λi a b=>?_) h
    ·rw[e,e];exact hd' i j a b
    ·have:i=n:=by omega
     subst this;rfl
   ·refine aAI hc hN hp (by omega) (by omega) (by omega) (by omega) hd' (λi a b=>?_) h
    have:i=n:=by omega
    subst this;rfl
  ·rw[if_neg (by decide)]
   refine hc.ask hN hp (λy=>?_) (λy=>?_)
   ·rw[if_pos rfl]
    exact h p n q hp h1 hn hq hd hb
   ·rw[if_neg (by decide)]
    have e:kq key p (n - 1)=kq key p n:=KeyOrd.kle_antisymm z y
    refine aAI hc hN hp (by omega) (by omega) (by omega) (by omega) (hd.more y) (λi a b=>?_) h
    show kq key p i=kq key p n
    by_cases hi:i < n
    ·rw[hb i (by omega) hi,e]
    ·have:i=n:=by omega
     subst this;rfl
theorem aGw(hc:Ans key N cmp s)(hN:0 < N){n:Nat}{p:Array Nat}{Q:Nat×Array Nat->Shared->Prop}(hp:Row N p)(h1:1<=n)(hn:n<=N)(hd:Dn key p n)(h:∀m p',Row N p'->1<=m->m<=N->Up key p' m->Q (m,p') s):(kas_tail3 n N p).kasWp cmp Q s:=by
 have hz:n<=p.size:=by rw[hp.size];exact hn
 unfold kas_tail3
 rw[KasT.kasWp_bind]
 refine aFM hc hN (hp.rev 0 n) rfl h1 hn (λi j a b=>?_) λr a b c _=>h r _ (hp.rev 0 n) (by omega) b c
 rw[aDl hz,aDl hz,if_pos ⟨zL _,by omega⟩,if_pos ⟨zL _,b⟩]
 exact hd _ _ (by omega) (by omega)
theorem zR(hc:Ans key N cmp s)(hN:0 < N){n:Nat}{p:Array Nat}{Q:Nat×Array Nat->Shared->Prop}(hp:Row N p)(h1:1<=n)(hn:n < N)(hd:Dn key p n)(hl:O.klt (kq key p n) (kq key p (n - 1)))(h:∀m p',Row N p'->1<=m->m<=N->Up key p' m->Q (m,p') s) :
  (kas_descPart n N p).kasWp cmp Q s:=by
 unfold kas_descPart
 rw[KasT.kasWp_bind]
 refine aAI hc hN hp rfl (by omega) (by omega) (by omega) (hd.more (KeyOrd.kle_of_klt hl)) (λi a b=>by have:i=n:=(by omega);subst this;rfl) λp' n' q' r1 r2 r3 r4 r5 r6=>?_
 have hz:n'<=p'.size:=by rw[r1.size];exact r3
 split
 ·refine aGw hc hN (r1.rev _ _) r2 r3 (λi j a b=>?_) h
  have e:=r6.same hz
  show O.kle (kq key (kas_rev p' (n' - (q'+1)) n') j) (kq key (kas_rev p' (n' - (q'+1)) n') i)
  rw[e,e]
  exact r5 i j a b
 ·exact aGw hc hN r1 r2 r3 r5 h
theorem aJd(hc:Ans key N cmp s)(hN:0 < N){p:Array Nat}{Q:Nat×Array Nat->Shared->Prop}(hp:Row N p)(h:∀m p',Row N p'->1<=m->m<=N->Up key p' m->Q (m,p') s):(kas_count N p).kasWp cmp Q s:=by
 unfold kas_count
 rw[KasT.kasWp_bind]
 refine aFM hc hN hp rfl (dQ _) hN (λi j a b=>by have:i=j:=(by omega);subst this;exact KeyOrd.kle_refl _) λn a b c d=>?_
 have hz:n<=p.size:=by rw[hp.size];exact b
 split
 ·exact h n p hp a b c
 ·rename_i ne
  have nN:n < N:=by
   have:n≠N:=λz=>ne (by simp[z])
   omega
  split
  ·refine hc.ask hN hp (λz=>?_) (λz=>?_)
   ·rw[if_pos rfl]
    exact h n p hp a b c
   ·rw[if_neg (by decide)]
    have all:∀i,i < n->kq key p i=kq key p 0:=λi hi=>KeyOrd.kle_antisymm (KeyOrd.kle_trans (c i (n - 1) (by omega) (by omega)) z) (c 0 i (by omega) hi)
    have e:∀k,kq key (kas_rev p 0 n) k=kq key p k:=λk=>by
     rw[aDl hz]
     split
     ·rw[all _ (by omega),all k (by omega)]
     ·rfl
    refine zR hc hN (hp.rev 0 n) a nN (λi j x y=>?_) ?_ h
    ·rw[e,e,all i (by omega),all j y]
     exact KeyOrd.kle_refl _
    ·rw[e,e]
     exact d nN
  ·have n1:n=1:=by omega
   subst n1
   exact zR hc hN hp (dQ _) nN (λi j x y=>by have:i=j:=(by omega);subst this;exact KeyOrd.kle_refl _) (d nN) h
theorem aA2(hc:Ans key N cmp s)(hN:0 < N){p:Array Nat}(hp:Row N p){k:Nat}(hu:Up key p k){Q:Nat->Shared->Prop}:∀{f l r:Nat},l<=r->r<=k->r - l<=f->
  (∀i,i < l->O.kle (kq key p i) (kq key p k))->(∀i,r<=i->i < k->O.klt (kq key p k) (kq key p i))->
  (∀m,m<=k->(∀i,i < m->O.kle (kq key p i) (kq key p k))->(∀i,m<=i->i < k->O.klt (kq key p k) (kq key p i))->Q m s)->(kas_place p k f l r).kasWp cmp Q s
 |0,l,r,hlr,hrk,hf,ha,hb,h=>h l (by omega) ha λi x y=>hb i (by omega) y
 |f+1,l,r,hlr,hrk,hf,ha,hb,h=>by
  unfold kas_place
  by_cases g:l ≥ r
  ·rw[if_pos g]
   exact h l (by omega) ha λi x y=>hb i (by omega) y
  ·rw[if_neg g]
   refine hc.ask hN hp (λz=>?_) (λz=>?_)
   ·rw[if_pos rfl]
    refine aA2 hc hN hp hu (by omega) (by omega) (by omega) ha (λi x y=>?_) h
    exact KeyOrd.klt_of_klt_of_kle z (hu _ i x y)
   ·rw[if_neg (by decide)]
    refine aA2 hc hN hp hu (by omega) (by omega) (by omega) (λi x=>?_) hb h
    exact KeyOrd.kle_trans (hu i _ (by omega) (by omega)) z
theorem aJe(hc:Ans key N cmp s)(hN:0 < N){Q:Array Nat->Shared->Prop}:∀{f k:Nat}{p:Array Nat},Row N p->f=N - k->k<=N->Up key p k->(∀p',Row N p'->Up key p' N->Q p' s)->(kas_bin f p k).kasWp cmp Q s
 |0,k,p,hp,hf,hk,hu,h=>h p hp (by have:k=N:=(by omega);subst this;exact hu)
 |f+1,k,p,hp,hf,hk,hu,h=>by
  unfold kas_bin
  rw[KasT.kasWp_bind]
  refine aA2 hc hN hp hu (zL _) (dQ _) (by omega) (λi x=>by omega) (λi x y=>by omega) λm hm ha hb=>?_
  have kz:k < p.size:=by rw[hp.size];omega
  refine aJe hc hN (hp.bub k (k - m)) (by omega) (by omega) (λi j hij hj=>?_) h
  have em:k - (k - m)=m:=by omega
  rw[aJc kz (by omega),aJc kz (by omega),em]
  by_cases i1:i=m
  ·rw[if_pos i1]
   by_cases j1:j=m
   ·rw[if_pos j1];exact KeyOrd.kle_refl _
   ·rw[if_neg j1,if_pos (by omega)]
    exact KeyOrd.kle_of_klt (hb _ (by omega) (by omega))
  ·rw[if_neg i1]
   by_cases i2:m < i/\i<=k
   ·rw[if_pos i2,if_neg (by omega),if_pos (by omega)]
    exact hu _ _ (by omega) (by omega)
   ·rw[if_neg i2]
    by_cases j1:j=m
    ·rw[if_pos j1]
     exact ha i (by omega)
    ·rw[if_neg j1]
     by_cases j2:m < j/\j<=k
     ·rw[if_pos j2]
      exact hu _ _ (by omega) (by omega)
     ·rw[if_neg j2]
      exact hu _ _ (by omega) (by omega)
theorem aLq(hc:Ans key N cmp s)(hN:0 < N){Q:Array Nat->Shared->Prop}(h:∀p,Row N p->Up key p N->Q p s):(kas_sort N).kasWp cmp Q s:=by
 unfold kas_sort
 rw[KasT.kasWp_bind]
 refine aJd hc hN (Array.Perm.refl _) λm p hp h1 hm hu=>?_
 split
 ·rename_i z
  have e:max m 1=m:=by omega
  show(kas_bin (N - max m 1) p (max m 1)).kasWp cmp Q s
  rw[e]
  exact aJe hc hN hp rfl hm hu h
 ·rename_i z
  have z':¬m < N:=z
  have e:m=N:=by omega
  subst e
  exact h p hp hu
end
end L2
namespace L2
open PySem PySem.W PyProof.Rows
def sM:List Int->List Int->Bool
 |[],[]=>false
 |[],_::_=>true
 |_::_,[]=>false
 |a::as,b::bs=>if a=b then sM as bs else decide (a < b)
theorem fQ(a b:Int)(as bs:List Int):sM (a::as) (b::bs)=if a=b then sM as bs else decide (a < b):=rfl
theorem zS:∀as:List Int,sM as as=false
 |[]=>rfl
 |a::as=>by rw[fQ,if_pos rfl];exact zS as
theorem aA3:∀as bs cs:List Int,sM as bs=true->sM bs cs=true->sM as cs=true
 |[],[],_,h,_=>by cases h
 |[],_::_,[],_,h=>by cases h
 |[],_::_,_::_,_,_=>rfl
 |_::_,[],_,h,_=>by cases h
 |_::_,_::_,[],_,h=>by cases h
 |a::as,b::bs,c::cs,h1,h2=>by
  rw[fQ] at h1 h2 ⊢
  by_cases e1:a=b
  ·subst e1
   rw[if_pos rfl] at h1
   by_cases e2:a=c
   ·rw[if_pos e2] at h2 ⊢;exact aA3 as bs cs h1 h2
   ·rw[if_neg e2] at h2 ⊢;exact h2
  ·rw[if_neg e1] at h1
   have l1:=of_decide_eq_true h1
   by_cases e2:b=c
   ·subst e2
    rw[if_neg e1];exact h1
   ·rw[if_neg e2] at h2
    have l2:=of_decide_eq_true h2
    rw[if_neg (by omega)]
    exact decide_eq_true (by omega)
theorem aEE:∀as bs cs:List Int,sM as cs=true->sM as bs=true\/sM bs cs=true
 |[],[],_,h=>.inr h
 |[],_::_,_,_=>.inl rfl
 |_::_,_,[],h=>by cases h
 |_::_,[],_::_,_=>.inr rfl
 |a::as,b::bs,c::cs,h=>by
  rw[fQ] at h
  rw[fQ,fQ]
  by_cases e1:a=b
  ·subst e1
   rw[if_pos rfl]
   by_cases e2:a=c
   ·rw[if_pos e2] at h ⊢;exact aEE as bs cs h
   ·rw[if_neg e2] at h ⊢;exact .inr h
  ·rw[if_neg e1]
   by_cases e2:b=c
   ·subst e2
    rw[if_neg e1] at h
    exact .inl h
   ·rw[if_neg e2]
    by_cases l:a < b
    ·exact .inl (decide_eq_true l)
    ·refine .inr (decide_eq_true ?_)
     by_cases e3:a=c
     ·omega
     ·rw[if_neg e3] at h
      have:=of_decide_eq_true h
      omega
theorem aA4:∀as bs:List Int,sM as bs=false->sM bs as=false->as=bs
 |[],[],_,_=>rfl
 |[],_::_,h,_=>by cases h
 |_::_,[],_,h=>by cases h
 |a::as,b::bs,h1,h2=>by
  rw[fQ] at h1 h2
  by_cases e:a=b
  ·subst e
   rw[if_pos rfl] at h1 h2
   rw[aA4 as bs h1 h2]
  ·rw[if_neg e] at h1
   rw[if_neg (Ne.symm e)] at h2
   have:=of_decide_eq_false h1
   have:=of_decide_eq_false h2
   omega
def aHw:KeyOrd:=⟨List Int,sM,zS,aA3,aEE,aA4⟩
theorem qR:∀{ns:List Int}{its:List Value},Vals (ns.map V.int) its->IntsAre its ns
 |[],_,r=>by cases r;exact .nil
 |n::ns,_,r=>by
  cases r with
  |cons h t=>
   obtain⟨u,rfl⟩:=h
   exact .cons n u (qR t)
inductive vQ (h:Heap):List Value->List (List Int)->Prop
 |nil:vQ h [] []
 |cons {x:Addr} {o:Obj} {xs:Array Value} {k:Nat} {t:List Int} {vs:List Value} {ts:List (List Int)} (e:h.get? x=some o) (c:o.cls=.type "tuple") (d:o.data=.seq xs k) (i:IntsAre xs.toList t) (ne:t≠[]) (r:vQ h vs ts):vQ h (.ref x::vs) (t::ts)
theorem vQ.length{h:Heap}{vs:List Value}{ts:List (List Int)}(r:vQ h vs ts):vs.length=ts.length:=by
 induction r with
 |nil=>rfl
 |cons _ _ _ _ _ _ ih=>rw[yM,yM,ih]
theorem vQ.at_{h:Heap}{vs:List Value}{ts:List (List Int)}(r:vQ h vs ts):∀{j:Nat},j < vs.length->∃x o xs k,vs.getD j Value.none=.ref x/\h.get? x=some o/\o.data=.seq xs k/\IntsAre xs.toList (ts.getD j []):=by
 induction r with
 |nil=>intro j hj;simp at hj
 |cons e c d i ne r ih=>
  intro j hj
  cases j with
  |zero=>exact⟨_,_,_,_,rfl,e,d,i⟩
  |succ j=>exact ih (by simpa using hj)
theorem vQ.keeps{h h':Heap}{vs:List Value}{ts:List (List Int)}(r:vQ h vs ts)(k:∀(b:Addr) (o:Obj),o.cls=.type "tuple"->h.get? b=some o->h'.get? b=some o):vQ h' vs ts:=by
 induction r with
 |nil=>exact .nil
 |cons e c d i ne _ ih=>exact .cons (k _ _ c e) c d i ne ih
theorem vQ.aNI{h:Heap}{vs:List Value}{ts:List (List Int)}(r:vQ h vs ts):∃fs:List Value,KatTups h vs fs/\fs.length=vs.length/\∀v∈fs,∃n u,v=Value.int n u:=by
 induction r with
 |nil=>exact⟨[],.nil,rfl,λv z=>by cases z⟩
 |@cons x o xs k t vs ts e c d i ne _ ih=>
  obtain⟨fs,a1,a2,a3⟩:=ih
  obtain⟨n,u,hx⟩ : ∃n u,xs[0]?=some (Value.int n u):=by
   rw[<-Ra9]
   generalize xs.toList=l at i
   cases i with
   |nil=>exact absurd rfl ne
   |cons n u _=>exact⟨n,u,rfl⟩
  refine⟨.int n u::fs,.cons e c d hx a1,by rw[yM,yM,a2],λv z=>?_⟩
  rcases lW.mp z with z|z
  ·exact⟨n,u,z⟩
  ·exact a3 v z
section
variable{prog:Program}{w:World}{A:Around}{E:Value->Shared->Prop}{s:Shared}
theorem aEF{Q:Bool->Shared->Prop}:∀{xs ys:List Value}{as bs:List Int}{i:Nat}{fin:Bool},IntsAre xs as->IntsAre ys bs->fin=decide (as.length < bs.length)->Q (sM as bs) s->KatLex prog w A true fin Q (xs.zip ys) i s
 |_,_,_,_,i,fin,.nil,.nil,hf,h=>kat_nil (by rw[hf];exact h)
 |_,_,_,_,i,fin,.nil,.cons _ _ _,hf,h=>kat_nil (by rw[hf];exact h)
 |_,_,_,_,i,fin,.cons _ _ _,.nil,hf,h=>kat_nil (by rw[hf];exact h)
 |_,_,_,_,i,fin,.cons a t r,.cons b u q,hf,h=>by
  refine kat_cons (wpAny_eqBool_int ?_)
  rw[fQ] at h
  by_cases e:a=b
  ·rw[if_pos e] at h
   rw[show(a == b)=true by simp[e]]
   refine kat_yes (aEF r q ?_ h)
   rw[hf,yM,yM]
   congr 1
   apply propext
   constructor <;> intro z <;> omega
  ·rw[if_neg e] at h
   rw[show(a == b)=false by simp[e]]
   refine kat_no ?_
   cases i with
   |zero=>exact oneLt_int h
   |succ i=>
    rw[show(true && (i+1 == 0))=false by simp]
    exact kat_one _ _ (PyProof.Rows.lt_int h)
theorem aJf{vs:List Value}{ts:List (List Int)}(r:vQ s.heap vs ts):Ans (O:=aHw) (λi=>ts.getD i []) vs.length (kas_ask prog w A (tuples' true) vs) s:=λi j C hi hj h=>by
 obtain⟨x,ox,xs,n,e1,g1,d1,i1⟩:=r.at_ hi
 obtain⟨y,oy,ys,k,e2,g2,d2,i2⟩:=r.at_ hj
 unfold kas_ask
 rw[e1,e2]
 refine kat_lt g1 d1 g2 d2 (aEF i1 i2 ?_ h)
 rw[<-i1.length,<-i2.length,Re9,Re9]
def xJ(vs:List Value)(p:Array Nat):Array Value:=List.toArray (p.toList.map λi=>vs.getD i Value.none)
theorem aHx{a:Addr}{vs:List Value}{ts:List (List Int)}{n:Nat}{P:PySem.Fin->Shared->Prop}(ho:s.heap.get? a=some (seqObj "list" vs.toArray n))(hT:vQ s.heap vs ts)(h64:vs.length < 64)
  (h:∀p,Row vs.length p->Up (O:=aHw) (λi=>ts.getD i []) p vs.length->P (.done (.ret .none)) { s with heap:=sortedHeap s.heap a vs (xJ vs p) }) :
  wpAny (model prog w) A (Builtin.«list.sort» ⟨[.ref a],[]⟩) P E s:=by
 rw[list_sort_plain]
 have la:=hX ho
 refine wpAny_bind (listItems_at ho rfl (wpAny_bind (listUpdate_at ho rfl ?_)))
 obtain⟨e1,g1⟩ : ∃e,(s.heap.update a (Obj.mapSeq λ_=>#[])).get? a=some (seqObj "list" #[] e):=⟨_,get?_update_seq ho λ_=>#[]⟩
 refine wpAny_bind (seqEpoch_at g1 rfl (wpAny_bind (wpAny_newTuple (wpAny_bind (wpAny_newList (wpAny_holding ?_))))))
 generalize hh6:((s.heap.update a (Obj.mapSeq λ_=>#[])).push (seqObj "tuple" vs.toArray 0)).push (seqObj "list" #[] 0)=h6
 have keep6:∀b o,b≠a->s.heap.get? b=some o->h6.get? b=some o:=λb o nb e=>by
  have lb:=hX e
  rw[<-hh6,Ub9 _ _ _ (pP (by rw[size_push',Uh9];exact Ta9 lb)),Ub9 _ _ _ (pP (by rw[Uh9];exact lb)),Heap.get?_update_ne _ _ _ _ nb]
  exact e
 have g6:h6.get? a=some (seqObj "list" #[] e1):=by
  rw[<-hh6,Ub9 _ _ _ (pP (by rw[size_push',Uh9];exact Ta9 la)),Ub9 _ _ _ (pP (by rw[Uh9];exact la))]
  exact g1
 have fin:∀p,Row vs.length p->Up (O:=aHw) (λi=>ts.getD i []) p vs.length->P (.done (.ret .none)) { s with heap:=h6.update a (Obj.mapSeq λ_=>xJ vs p) }:=λp r u=>by
  rw[<-hh6]
  exact h p r u
 have T6:vQ h6 vs ts:=hT.keeps λb o c e=>keep6 b o (λz=>by rw[z,ho] at e;cases e;exact absurd c (show ¬Value.type "list" = Value.type "tuple" by decide)) e
 show wpAny (model prog w) A _ P E { s with heap:=h6 }
 have hvz:vs.toArray.size=vs.length:=jV
 dsimp only
 by_cases small:vs.toArray.size < 2
 ·rw[if_pos small,if_pos small]
  refine wpAny_bind (wpAny_pure ?_)
  rw[StateT.run_pure]
  refine wpAny_bind (wpAny_pure ?_)
  have ev:((vs.toArray.zip vs.toArray).map λx=>x.2)=xJ vs (List.toArray (List.range vs.length)):=by
   unfold xJ
   match vs,hvz,small with
   |[],_,_=>simp
   |[v],_,_=>simp
   |_::_::_,_,z=>simp at z;omega
  refine wpAny_bind (seqEpoch_at g6 rfl (wpAny_bind (listUpdate_at g6 rfl ?_ (hsz2:=?_))))
  ·simp only[bne_self_eq_false,yL,if_false]
   refine wpAny_pure ?_
   show P (.done (.ret .none)) { s with heap:=h6.update a (Obj.mapSeq λ_=>(vs.toArray.zip vs.toArray).map λx=>x.2) }
   rw[ev]
   exact fin _ (Array.Perm.refl _) λi j x y=>by
    have z:i=j:=by omega
    subst z
    exact KeyOrd.kle_refl _
  ·show((vs.toArray.zip vs.toArray).map λx=>x.2).size<=_
   rw[ev,xJ,jV,cD,sizeLine_eq]
   simp
   omega
 ·rw[if_neg small,if_neg small]
  obtain⟨fs,f1,f2,f3⟩:=T6.aNI
  refine wpAny_bind (kat_kind (s:={ s with heap:=h6 }) (T:=.type "int") f1 (by omega) (λv hv=>?_) rfl ?_)
  ·obtain⟨m,u,rfl⟩:=f3 v hv
   exact Looks.now
  rw[show(Value.type "int" != Value.type "tuple")=true by decide]
  refine wpAny_bind (wpAny_mono (kat_run (ks:=vs) (vs:=vs) (prog:=prog) (w:=w) (A:=A) (E:=E) (s:={ s with heap:=h6 }) (Q:=λst' s'=>s'={ s with heap:=h6 }/\∃p,p.size=vs.length/\arrOf st'=p.map (kas_item (vs.toArray.zip vs.toArray))/\failedOf st'=none/\Row vs.length p/\Up (O:=aHw) (λi=>ts.getD i []) p vs.length)
   (G:=λp s'=>s'={ s with heap:=h6 }/\Row vs.length p/\Up (O:=aHw) (λi=>ts.getD i []) p vs.length) rfl (by omega) h64 (λp st' s' hz har hf hG=>⟨hG.1,p,hz,har,hf,hG.2.1,hG.2.2⟩) (aLq (aJf (s:={ s with heap:=h6 }) T6) (by omega) λp r u=>⟨rfl,r,u⟩)) ?_ λ_ _ e=>e)
  rintro ⟨_,st'⟩ s' ⟨rfl,p,hz,har,hf,hr,hu⟩
  dsimp only at har hf ⊢
  have eo:=kat_snds (ks:=vs) (vs:=vs) rfl har
  refine wpAny_bind (seqEpoch_at g6 rfl (wpAny_bind (listUpdate_at g6 rfl ?_ (hsz2:=?_))))
  ·rw[hf]
   simp only[bne_self_eq_false,yL,if_false]
   refine wpAny_pure ?_
   show P (.done (.ret .none)) { s with heap:=h6.update a (Obj.mapSeq λ_=>(arrOf st').map (·.2)) }
   rw[eo]
   exact fin p hr hu
  ·show((arrOf st').map (·.2)).size<=_
   rw[eo,jV,cD,Re9,hz,sizeLine_eq]
   omega
end
end L2
namespace L2
open PySem PySem.Spec PySem.W PyProof.Rows
theorem range_getD{α:Type}(d:α)(l:List α):(List.range l.length).map (λi=>l.getD i d)=l:=by
 apply List.ext_getElem
 ·simp
 ·intro i h1 h2
  simp[Qo9,dF h2]
theorem aDm:∀{qs:List Addr}{its:List Value},Vals (qs.map V.ref) its->its=qs.map Value.ref
 |[],_,r=>by cases r;rfl
 |q::qs,_,r=>by
  cases r with
  |cons h t=>
   cases h
   rw[aDm t]
   rfl
theorem aA5:∀(qs:List Addr),Vals (qs.map V.ref) (qs.map Value.ref)
 |[]=>.nil
 |q::qs=>.cons rfl (aA5 qs)
structure d7(H:Hp)(qs:List Addr)(ts:List (List Int)):Prop where
 len:qs.length=ts.length
 at_:∀(j:Nat) q t,qs[j]?=some q->ts[j]?=some t->H q=some (.tup (t.map V.int))/\t≠[]
theorem d7.tail{H:Hp}{q:Addr}{t:List Int}{qs:List Addr}{ts:List (List Int)}(h:d7 H (q::qs) (t::ts)):d7 H qs ts:=⟨by have:=h.len;simpa using this,λj a b x y=>h.at_ (j+1) a b x y⟩
theorem d7.pQ{X:Cx}{pins:List (Addr×Obj)}{σ:St}{H:Hp}{s:Shared}(I:Inv X pins σ H s):∀{qs:List Addr}{ts:List (List Int)},d7 H qs ts->vQ s.heap (qs.map Value.ref) ts
 |[],[],_=>.nil
 |[],_::_,h=>by have:=h.len;simp at this
 |_::_,[],h=>by have:=h.len;simp at this
 |q::qs,t::ts,h=>by
  obtain⟨e,ne⟩:=h.at_ 0 q t rfl rfl
  obtain⟨_,its,r,o,g1,g2,n,g3⟩:=(show cA X.prog X.w H s.heap q (.tup (t.map V.int)) from I.hok q _ e)
  exact .cons g1 g2 g3 (by simpa using qR r) ne (d7.pQ I h.tail)
section
variable{X:Cx}
end
end L2
namespace L2
open PySem PySem.Spec PyProof.Rows
section
variable{X:Cx}{o e e2:Expr}{to:TE}{t:TA}{apos cpos:Pos}
theorem aJg(ho:PE X o to)(ha:PA X [e] t)(hn:noStar e=true:=by rfl)(hbase:attributeBase o "pop" X.env (eval o X.env)=eval o X.env:=by rfl)(hline:(apos.endLine == cpos.line)=true:=by rfl) :
  PE X (.Call (.Attribute o "pop" apos) [e] [] cpos) (tBM X.K "list" aDc to t):=
 aIx PySem.F.plainAttrs_list PySem.F.slot_list_pop PySem.F.type_list_pop aIz ho ha hbase (by rw[bZ hn];rfl) hline (bZ hn) (by rfl)
end
section
variable{H:Hp}{Q:VK}
theorem aJh{l:Addr}{xs:List V}{k:Nat}{y:V}(h:H l=some (.lst xs))(hy:xs[k]?=some y)(hz:k < 1000000)(q:Q y (upd H l (.lst (xs.eraseIdx k)))):aDc (.ref l) [.int (k:Int)] H Q:=by
 refine⟨l,xs,(k:Int),k,y,rfl,rfl,h,by omega,by omega,?_,hy,q⟩
 have:=(lG.mp hy).1
 show seqIndex? (k:Int) xs.length=some k
 unfold seqIndex?
 simp
 omega
end
end L2
namespace L2.Z
open PySem PySem.Spec PyProof.Rows L2
section
variable{X:Cx}{K':W.Frag}{o e e2:Expr}{to:TE}{t:TA}{apos cpos:Pos}
theorem aDn(ho:QE X o to)(ha:QA X [e] t)(hn:noStar e=true:=by rfl)(hbase:attributeBase o "pop" X.env (eval o X.env)=eval o X.env:=by rfl)(hline:(apos.endLine == cpos.line)=true:=by rfl)(hK:X.K=K':=by rfl) :
  QE X (.Call (.Attribute o "pop" apos) [e] [] cpos) (tBM K' "list" aDc to t):=by subst hK;exact⟨L2.aJg ho.h ha.h hn hbase hline⟩
end
end L2.Z
namespace L2
open PySem PySem.Spec PyProof.Rows
section
variable{prog:Program}{w:World}{A:Around}{E:Value->Shared->Prop}{s:Shared}{es:Array DictEntry}{d it vw:Addr}{i ep:Nat}
def Raw(h:Heap)(d:Addr)(es:Array DictEntry)(ep:Nat):Prop:=∃o,h.get? d=some o/\o.cls=.type "dict"/\o.data=.dict es ep
theorem Raw.ty(m:Raw s.heap d es ep):s.TypeIs (.ref d) "dict":=let ⟨o,a,b,_⟩:=m;⟨o,a,b⟩
theorem Raw.keep{h h':Heap}(m:Raw h d es ep)(k:∀o,h.get? d=some o->h'.get? d=some o):Raw h' d es ep:=let ⟨o,a,r⟩:=m;⟨o,k o a,r⟩
theorem aHy(d:Addr)(lo:(d == sysModules)=false):MeetsIn prog w (Builtin.«dict.items» ⟨[.ref d],[]⟩) (λ_ R s=>s.TypeIs (.ref d) "dict"/\
  R (.ok (.ret (.ref s.heap.objs.size))) { s with heap:=s.heap.push { cls:=.type "dict_items",data:=.fields #[.ref d] } }):=
 .of_wp λA R s ⟨ty,h⟩=>by
  unfold Builtin.«dict.items»;with_reducible refine wpAny_bind ?_;unfold Builtin.Dict.noArgs
  refine wpAny_bind (wpAny_notOrdered_dict ty (show wpAny _ _ (pure d) _ _ s from wpAny_pure ?_))
  show wpAny _ _ (Builtin.Dict.showsAll d >>= _) _ _ s;unfold Builtin.Dict.showsAll
  rw[if_neg (λz=>zH (lo.symm.trans z))];refine wpAny_bind (wpAny_pure ?_)
  exact wpAny_bind (wpAny_newObj_type (wpAny_pure (show _ from⟨_,rfl,h⟩)))
theorem aFN(d:Addr)(lo:(d == sysModules)=false):MeetsIn prog w (Builtin.«dict.values» ⟨[.ref d],[]⟩) (λ_ R s=>s.TypeIs (.ref d) "dict"/\
  R (.ok (.ret (.ref s.heap.objs.size))) { s with heap:=s.heap.push { cls:=.type "dict_values",data:=.fields #[.ref d] } }):=
 .of_wp λA R s ⟨ty,h⟩=>by
  refine wpAny_bind (show _ from ?_);unfold Builtin.Dict.noArgs
  refine wpAny_bind (wpAny_notOrdered_dict ty (show wpAny _ _ (pure d) _ _ s from wpAny_pure ?_))
  show wpAny _ _ (Builtin.Dict.showsAll d >>= _) _ _ s;unfold Builtin.Dict.showsAll
  rw[if_neg (λz=>zH (lo.symm.trans z))];refine wpAny_bind (wpAny_pure ?_)
  exact wpAny_bind (wpAny_newObj_type (wpAny_pure (show _ from⟨_,rfl,h⟩)))
theorem aBY{Q:Value->Shared->Prop}(hv:s.heap.IsItemsView vw d)(hm:Raw s.heap d es ep)
  (hQ:Q (.ref s.heap.objs.size) { s with heap:=s.heap.push { cls:=.type "dict_itemiterator",data:=.fields #[.none,.bool false,.ref d,.int 0 0,.int es.size 0,.int ep 0,.none,.none] } }) :
  wpAny (model prog w) A (pyIter (.ref vw)) Q E s:=by
 obtain⟨ov,a1,a2,a3⟩:=id hv;obtain⟨o,b1,b2,b3⟩:=id hm
 refine wpAny_pyIter_slot hv.typeIs F.slot_dict_items_iter (wpAny_call_entry F.slot_dict_items_iter hv.typeIs F.entry_dict_items_iter (show _ from ?_) (F.args_dict_items_iter_1 _))
 unfold Builtin.«dict_items.__iter__»;refine wpAny_bind (wpAny_pure ?_);with_reducible refine wpAny_bind ?_
 unfold Builtin.Dict_items.dictOf;refine wpAny_bind (wpAny_field a1 a3 (x:=.ref d) rfl (wpAny_pure ?_));with_reducible refine wpAny_bind ?_
 unfold Builtin.Dict_items.newIterator;refine wpAny_bind (wpAny_dictEntries b1 b3 (wpAny_bind (wpAny_dictEpoch b1 b3 ?_)))
 have own:Builtin.Dict_items.ownsTuple "dict_itemiterator" = true:=rfl
 simp only[own,if_true]
 refine wpAny_newObj_type (wpAny_pure ⟨_,rfl,"dict_itemiterator",_,⟨_,sN _ rfl,rfl⟩,F.slot_dict_itemiterator_next.lookup,(show _ from ?_)⟩)
  (by simp only[sizeOk,Builtin.Dict_items.ownedTupleFields,jV,sO,yM,Tw9,sizeLine_eq];decide)
 simpa [Builtin.Dict_items.ownedTupleFields,rawInt] using hQ
theorem aA6{Q:Value->Shared->Prop}(hv:s.heap.IsValuesView vw d)(hm:Raw s.heap d es ep)
  (hQ:Q (.ref s.heap.objs.size) { s with heap:=s.heap.push { cls:=.type "dict_valueiterator",data:=.fields #[.ref d,.int 0 0,.int es.size 0,.int ep 0] } }) :
  wpAny (model prog w) A (pyIter (.ref vw)) Q E s:=by
 obtain⟨ov,a1,a2,a3⟩:=id hv;obtain⟨o,b1,b2,b3⟩:=id hm
 refine wpAny_pyIter_slot hv.typeIs F.slot_dict_values_iter (wpAny_call_entry F.slot_dict_values_iter hv.typeIs F.entry_dict_values_iter (show _ from ?_) (F.args_dict_values_iter_1 _))
 unfold Builtin.«dict_values.__iter__»;refine wpAny_bind (wpAny_pure ?_);with_reducible refine wpAny_bind ?_
 unfold Builtin.Dict_items.dictOf;refine wpAny_bind (wpAny_field a1 a3 (x:=.ref d) rfl (wpAny_pure ?_));with_reducible refine wpAny_bind ?_
 unfold Builtin.Dict_items.newIterator;refine wpAny_bind (wpAny_dictEntries b1 b3 (wpAny_bind (wpAny_dictEpoch b1 b3 ?_)))
 have own:Builtin.Dict_items.ownsTuple "dict_valueiterator" = false:=rfl
 simp only[own,yL,if_false]
 refine wpAny_newObj_type (wpAny_pure ⟨_,rfl,"dict_valueiterator",_,⟨_,sN _ rfl,rfl⟩,F.slot_dict_valueiterator_next.lookup,(show _ from ?_)⟩)
 simpa [rawInt] using hQ
theorem aDo{Q:Value->Shared->Prop}(lo:(d == sysModules)=false)(hm:Raw s.heap d es ep)
  (hQ:Q (.ref s.heap.objs.size) { s with heap:=s.heap.push { cls:=.type "dict_keyiterator",data:=.fields #[.ref d,.int 0 0,.int es.size 0,.int ep 0] } }) :
  wpAny (model prog w) A (pyIter (.ref d)) Q E s:=by
 obtain⟨o,b1,b2,b3⟩:=id hm
 refine wpAny_pyIter_slot hm.ty F.slot_dict_iter (wpAny_call_entry F.slot_dict_iter hm.ty F.entry_dict_iter (show _ from ?_) (F.args_dict_iter_1 _))
 unfold Builtin.«dict.__iter__»;with_reducible refine wpAny_bind ?_;unfold Builtin.Dict.dictSlotNone
 refine wpAny_bind (wpAny_notOrdered_dict hm.ty (show wpAny _ _ (pure (Value.ref d)) _ _ s from wpAny_pure ?_))
 show wpAny _ _ (Builtin.Dict.showsAll d >>= _) _ _ s;unfold Builtin.Dict.showsAll
 rw[if_neg (λz=>zH (lo.symm.trans z))];refine wpAny_bind (wpAny_pure ?_)
 refine wpAny_bind (wpAny_dictEntries b1 b3 (wpAny_bind (wpAny_dictEpoch b1 b3 ?_)))
 refine wpAny_bind (wpAny_newObj_type (wpAny_pure ⟨_,rfl,"dict_keyiterator",_,⟨_,sN _ rfl,rfl⟩,F.slot_dict_keyiterator_next.lookup,(show _ from ?_)⟩))
 simpa [rawInt] using hQ
def It4(T:String)(h:Heap)(it d:Addr)(i n ep:Nat):Prop:=∃o,h.get? it=some o/\o.cls=.type T/\o.data=.fields #[.ref d,.int i 0,.int n 0,.int ep 0]
theorem It4.ty{T:String}{n:Nat}(x:It4 T s.heap it d i n ep):s.TypeIs (.ref it) T:=let ⟨o,a,b,_⟩:=x;⟨o,a,b⟩
theorem It4.keep{T:String}{n:Nat}{h h':Heap}(m:It4 T h it d i n ep)(k:∀o,h.get? it=some o->h'.get? it=some o):It4 T h' it d i n ep:=let ⟨o,a,r⟩:=m;⟨o,k o a,r⟩
theorem It4.turn{T:String}{n:Nat}{h:Heap}{o:Obj}(a:h.get? it=some o)(b:o.cls=.type T)(c:o.data=.fields #[.ref d,.int i 0,.int n 0,.int ep 0]) :
  It4 T (h.update it (Obj.mapFields (·.setIfInBounds 1 (rawInt ((i:Int)+1))))) it d (i+1) n ep:=
 ⟨_,Sd9 _ a (Obj.isFreed_of_fields (Obj.data_mapFields c _)),(Obj.cls_mapFields ..).trans b,by rw[Obj.data_mapFields c];simp[rawInt]⟩
theorem aBZ{Q:Option Value->Shared->Prop}{e:DictEntry}(hit:It4 "dict_valueiterator" s.heap it d i es.size ep)(hm:Raw s.heap d es ep)(hx:es[i]?=some e)
  (hQ:∀h',It4 "dict_valueiterator" h' it d (i+1) es.size ep->Heap.SameBut it s.heap h'->Q (some e.val) { s with heap:=h' }):wpAny (model prog w) A (pyNext (.ref it)) Q E s:=by
 obtain⟨o,a1,a2,a3⟩:=id hit;obtain⟨od,b1,b2,b3⟩:=id hm;have ty:=hit.ty
 unfold pyNext;refine wpAny_bind (wpAny_attempt (wpAny_callSpecial?_slot (name:=Str.ofString "__next__") ty F.slot_dict_valueiterator_next
  (wpAny_call_entry F.slot_dict_valueiterator_next ty F.entry_dict_valueiterator_next (show _ from ?_) (F.args_dict_valueiterator_next_1 _))))
 refine wpAny_bind (wpAny_pure ?_);refine wpAny_bind (show _ from ?_);refine wpAny_bind (show _ from ?_)
 first|refine wpAny_bind (wpAny_typeNameOfWhole_valiter ty (show _ from wpAny_pure ?_))|refine wpAny_bind (wpAny_typeNameOf_valiter ty (show _ from wpAny_pure ?_))
 refine wpAny_bind (wpAny_fieldsOf a1 a3 (show _ from ?_));have own:Builtin.Dict_items.ownsTuple "dict_valueiterator" = false:=rfl
 simp only[own,if_false,yL];show wpAny _ _ (if (Value.ref d == Value.none)=true then _ else _) _ _ s
 rw[if_neg (show ¬((Value.ref d == Value.none)=true) from λz=>nomatch z)];refine wpAny_bind (wpAny_pure ?_)
 refine wpAny_bind (wpAny_dictEntries b1 b3 (show _ from ?_));rw[if_neg (show _ from by simp)];refine wpAny_bind (wpAny_pure ?_)
 refine wpAny_bind (wpAny_dictEpoch b1 b3 (show _ from ?_));rw[if_neg (show _ from by simp)];refine wpAny_pure (show _ from ?_)
 have il:i < es.size:=(Rl9.mp hx).1
 have ee:es[i]=e:=(Rl9.mp hx).2
 simp only[show ¬((i:Int) < 0) by omega,if_false,Ru9,hx]
 refine wpAny_bind (show _ from ?_)
 first|refine wpAny_bind (wpAny_typeNameOfWhole_valiter ty (show _ from wpAny_pure ?_))|refine wpAny_bind (wpAny_typeNameOf_valiter ty (show _ from wpAny_pure ?_))
 refine wpAny_bind (wpAny_isOneOf_valiter ty (show _ from ?_));show wpAny _ _ (setField (.ref it) 1 (rawInt ((i:Int)+1)) >>= _) _ _ s
 refine wpAny_bind (wpAny_setField a1 a3 (show _ by simp) (show _ from ?_));have t2:=It4.turn a1 a2 a3
 refine wpAny_bind (wpAny_holding (show _ from ?_))
 refine wpAny_bind (wpAny_isOneOf_valiter (s:={ s with heap:=s.heap.update it (Obj.mapFields (·.setIfInBounds 1 (rawInt ((i:Int)+1)))) }) t2.ty (show _ from ?_))
 refine wpAny_bind (wpAny_isOneOf_valiter (s:={ s with heap:=s.heap.update it (Obj.mapFields (·.setIfInBounds 1 (rawInt ((i:Int)+1)))) }) t2.ty (show _ from ?_))
 exact wpAny_pure (wpAny_pure ⟨_,rfl,wpAny_pure (hQ _ t2 (Heap.SameBut.update ..))⟩)
theorem aEG{Q:Option Value->Shared->Prop}{e:DictEntry}(hit:It4 "dict_keyiterator" s.heap it d i es.size ep)(hm:Raw s.heap d es ep)(hx:es[i]?=some e)
  (hQ:∀h',It4 "dict_keyiterator" h' it d (i+1) es.size ep->Heap.SameBut it s.heap h'->Q (some e.key) { s with heap:=h' }):wpAny (model prog w) A (pyNext (.ref it)) Q E s:=by
 obtain⟨o,a1,a2,a3⟩:=id hit;obtain⟨od,b1,b2,b3⟩:=id hm;have ty:=hit.ty
 unfold pyNext;refine wpAny_bind (wpAny_attempt (wpAny_callSpecial?_slot (name:=Str.ofString "__next__") ty F.slot_dict_keyiterator_next
  (wpAny_call_entry F.slot_dict_keyiterator_next ty F.entry_dict_keyiterator_next (show _ from ?_) (F.args_dict_keyiterator_next_1 _))))
 refine wpAny_bind (wpAny_pure ?_);refine wpAny_bind (show _ from ?_);refine wpAny_bind (show _ from ?_)
 first|refine wpAny_bind (wpAny_typeNameOfWhole_keyiter ty (show _ from wpAny_pure ?_))|refine wpAny_bind (wpAny_typeNameOf_keyiter ty (show _ from wpAny_pure ?_))
 refine wpAny_bind (wpAny_fieldsOf a1 a3 (show _ from ?_));have own:Builtin.Dict_items.ownsTuple "dict_keyiterator" = false:=rfl
 simp only[own,if_false,yL];show wpAny _ _ (if (Value.ref d == Value.none)=true then _ else _) _ _ s
 rw[if_neg (show ¬((Value.ref d == Value.none)=true) from λz=>nomatch z)];refine wpAny_bind (wpAny_pure ?_)
 refine wpAny_bind (wpAny_dictEntries b1 b3 (show _ from ?_));rw[if_neg (show _ from by simp)];refine wpAny_bind (wpAny_pure ?_)
 refine wpAny_bind (wpAny_dictEpoch b1 b3 (show _ from ?_));rw[if_neg (show _ from by simp)];refine wpAny_pure (show _ from ?_)
 have il:i < es.size:=(Rl9.mp hx).1
 have ee:es[i]=e:=(Rl9.mp hx).2
 simp only[show ¬((i:Int) < 0) by omega,if_false,Ru9,hx]
 refine wpAny_bind (show _ from ?_)
 first|refine wpAny_bind (wpAny_typeNameOfWhole_keyiter ty (show _ from wpAny_pure ?_))|refine wpAny_bind (wpAny_typeNameOf_keyiter ty (show _ from wpAny_pure ?_))
 refine wpAny_bind (wpAny_isOneOf_keyiter ty (show _ from ?_));show wpAny _ _ (setField (.ref it) 1 (rawInt ((i:Int)+1)) >>= _) _ _ s
 refine wpAny_bind (wpAny_setField a1 a3 (show _ by simp) (show _ from ?_));have t2:=It4.turn a1 a2 a3
 refine wpAny_bind (wpAny_holding (show _ from ?_))
 refine wpAny_bind (wpAny_isOneOf_keyiter (s:={ s with heap:=s.heap.update it (Obj.mapFields (·.setIfInBounds 1 (rawInt ((i:Int)+1)))) }) t2.ty (show _ from ?_))
 exact wpAny_pure (wpAny_pure ⟨_,rfl,wpAny_pure (hQ _ t2 (Heap.SameBut.update ..))⟩)
theorem aDp{Q:Option Value->Shared->Prop}(hh:A.handled=none)(hit:It4 "dict_valueiterator" s.heap it d i es.size ep)(hm:Raw s.heap d es ep)(hx:es.size<=i)
  (hQ:∀h',Heap.ExtBut it s.heap h'->Q none { s with heap:=h' }):wpAny (model prog w) A (pyNext (.ref it)) Q E s:=by
 obtain⟨o,a1,a2,a3⟩:=id hit;obtain⟨od,b1,b2,b3⟩:=id hm;have ty:=hit.ty
 unfold pyNext;refine wpAny_bind (wpAny_attempt (wpAny_callSpecial?_slot (name:=Str.ofString "__next__") ty F.slot_dict_valueiterator_next
  (wpAny_call_entry F.slot_dict_valueiterator_next ty F.entry_dict_valueiterator_next (show _ from ?_) (F.args_dict_valueiterator_next_1 _))))
 refine wpAny_bind (wpAny_pure ?_);refine wpAny_bind (show _ from ?_);refine wpAny_bind (show _ from ?_)
 first|refine wpAny_bind (wpAny_typeNameOfWhole_valiter ty (show _ from wpAny_pure ?_))|refine wpAny_bind (wpAny_typeNameOf_valiter ty (show _ from wpAny_pure ?_))
 refine wpAny_bind (wpAny_fieldsOf a1 a3 (show _ from ?_));have own:Builtin.Dict_items.ownsTuple "dict_valueiterator" = false:=rfl
 simp only[own,if_false,yL];show wpAny _ _ (if (Value.ref d == Value.none)=true then _ else _) _ _ s
 rw[if_neg (show ¬((Value.ref d == Value.none)=true) from λz=>nomatch z)];refine wpAny_bind (wpAny_pure ?_)
 refine wpAny_bind (wpAny_dictEntries b1 b3 (show _ from ?_));rw[if_neg (show _ from by simp)];refine wpAny_bind (wpAny_pure ?_)
 refine wpAny_bind (wpAny_dictEpoch b1 b3 (show _ from ?_));rw[if_neg (show _ from by simp)];refine wpAny_pure (show _ from ?_)
 simp only[show ¬((i:Int) < 0) by omega,if_false,Ru9,St9 hx]
 refine wpAny_bind (show _ from ?_)
 first|refine wpAny_bind (wpAny_typeNameOfWhole_valiter ty (show _ from wpAny_pure ?_))|refine wpAny_bind (wpAny_typeNameOf_valiter ty (show _ from wpAny_pure ?_))
 show wpAny _ _ (setField (.ref it) 0 Value.none >>= _) _ _ s
 refine wpAny_bind (wpAny_setField a1 a3 (show _ by simp) (show _ from ?_));show wpAny _ _ (newExc (.type "StopIteration") [] >>= _) _ _ _
 refine wpAny_bind (show _ from ?_);simp only[newExc,newTuple];refine wpAny_bind (wpAny_newObj_type (show _ from ?_) (by size_fits))
 refine wpAny_bind (m:=firstArgMember _ _) (wpAny_of_eq (a:=Value.none) (show _ by first|rfl|(simp only[firstArgMember];rfl)) (show _ from ?_))
 refine wpAny_newObj_type (show _ from ?_) (by size_fits);simp only[raiseNew]
 refine wpAny_bind (wpAny_handled (show _ from ?_));rw[show A.in1.handled=none from hh];refine wpAny_bind (wpAny_pure (wpAny_throw ?_))
 refine wpAny_bind (wpAny_isInstance (T:="StopIteration") (b:=true) ⟨_,sN _ rfl,rfl⟩ isSubtype_stop (show _ from ?_))
 exact wpAny_pure (hQ _ (show _ from((Heap.SameBut.update ..).extBut.push _).push _))
theorem aFO{Q:Option Value->Shared->Prop}(hh:A.handled=none)(hit:It4 "dict_keyiterator" s.heap it d i es.size ep)(hm:Raw s.heap d es ep)(hx:es.size<=i)
  (hQ:∀h',Heap.ExtBut it s.heap h'->Q none { s with heap:=h' }):wpAny (model prog w) A (pyNext (.ref it)) Q E s:=by
 obtain⟨o,a1,a2,a3⟩:=id hit;obtain⟨od,b1,b2,b3⟩:=id hm;have ty:=hit.ty
 unfold pyNext;refine wpAny_bind (wpAny_attempt (wpAny_callSpecial?_slot (name:=Str.ofString "__next__") ty F.slot_dict_keyiterator_next
  (wpAny_call_entry F.slot_dict_keyiterator_next ty F.entry_dict_keyiterator_next (show _ from ?_) (F.args_dict_keyiterator_next_1 _))))
 refine wpAny_bind (wpAny_pure ?_);refine wpAny_bind (show _ from ?_);refine wpAny_bind (show _ from ?_)
 first|refine wpAny_bind (wpAny_typeNameOfWhole_keyiter ty (show _ from wpAny_pure ?_))|refine wpAny_bind (wpAny_typeNameOf_keyiter ty (show _ from wpAny_pure ?_))
 refine wpAny_bind (wpAny_fieldsOf a1 a3 (show _ from ?_));have own:Builtin.Dict_items.ownsTuple "dict_keyiterator" = false:=rfl
 simp only[own,if_false,yL];show wpAny _ _ (if (Value.ref d == Value.none)=true then _ else _) _ _ s
 rw[if_neg (show ¬((Value.ref d == Value.none)=true) from λz=>nomatch z)];refine wpAny_bind (wpAny_pure ?_)
 refine wpAny_bind (wpAny_dictEntries b1 b3 (show _ from ?_));rw[if_neg (show _ from by simp)];refine wpAny_bind (wpAny_pure ?_)
 refine wpAny_bind (wpAny_dictEpoch b1 b3 (show _ from ?_));rw[if_neg (show _ from by simp)];refine wpAny_pure (show _ from ?_)
 simp only[show ¬((i:Int) < 0) by omega,if_false,Ru9,St9 hx]
 refine wpAny_bind (show _ from ?_)
 first|refine wpAny_bind (wpAny_typeNameOfWhole_keyiter ty (show _ from wpAny_pure ?_))|refine wpAny_bind (wpAny_typeNameOf_keyiter ty (show _ from wpAny_pure ?_))
 show wpAny _ _ (setField (.ref it) 0 Value.none >>= _) _ _ s
 refine wpAny_bind (wpAny_setField a1 a3 (show _ by simp) (show _ from ?_));show wpAny _ _ (newExc (.type "StopIteration") [] >>= _) _ _ _
 refine wpAny_bind (show _ from ?_);simp only[newExc,newTuple];refine wpAny_bind (wpAny_newObj_type (show _ from ?_) (by size_fits))
 refine wpAny_bind (m:=firstArgMember _ _) (wpAny_of_eq (a:=Value.none) (show _ by first|rfl|(simp only[firstArgMember];rfl)) (show _ from ?_))
 refine wpAny_newObj_type (show _ from ?_) (by size_fits);simp only[raiseNew]
 refine wpAny_bind (wpAny_handled (show _ from ?_));rw[show A.in1.handled=none from hh];refine wpAny_bind (wpAny_pure (wpAny_throw ?_))
 refine wpAny_bind (wpAny_isInstance (T:="StopIteration") (b:=true) ⟨_,sN _ rfl,rfl⟩ isSubtype_stop (show _ from ?_))
 exact wpAny_pure (hQ _ (show _ from((Heap.SameBut.update ..).extBut.push _).push _))
theorem aDq{ok ov:Value}{Q:Option Value->Shared->Prop}{e:DictEntry}(hit:IsItemIter s.heap it d i es.size ep ok ov)(hm:Raw s.heap d es ep)(hx:es[i]?=some e)
  (hQ:∀h',IsItemIterOut h' it d (i+1) es.size ep e.key e.val s.heap.objs.size->h'.get? s.heap.objs.size=some { cls:=.type "tuple",data:=.seq #[e.key,e.val] }->
   h'.objs.size=s.heap.objs.size+1->(∀b o,b≠it->s.heap.get? b=some o->h'.get? b=some o)->Q (some (.ref s.heap.objs.size)) { s with heap:=h' }) :
  wpAny (model prog w) A (pyNext (.ref it)) Q E s:=by
 obtain⟨hp,g,dr,tk,os⟩:=s;obtain⟨od,b1,b2,b3⟩:=id hm
 have ty:Shared.TypeIs ⟨hp,g,dr,tk,os⟩ (.ref it) "dict_itemiterator":=⟨_,hit,rfl⟩
 unfold pyNext;refine wpAny_bind (wpAny_attempt (wpAny_callSpecial?_slot (name:=Str.ofString "__next__") ty F.slot_dict_itemiterator_next
  (wpAny_call_entry F.slot_dict_itemiterator_next ty F.entry_dict_itemiterator_next (show _ from ?_) (F.args_dict_itemiterator_next_1 _))))
 refine wpAny_bind (wpAny_pure ?_);refine wpAny_bind (show _ from ?_);refine wpAny_bind (show _ from ?_)
 first|refine wpAny_bind (wpAny_typeNameOfWhole_itemiter ty (show _ from wpAny_pure ?_))|refine wpAny_bind (wpAny_typeNameOf_itemiter ty (show _ from wpAny_pure ?_))
 refine wpAny_bind (wpAny_fieldsOf hit rfl (show _ from ?_));have own:Builtin.Dict_items.ownsTuple "dict_itemiterator" = true:=rfl
 simp only[own,if_true];show wpAny _ _ (if (Value.ref d == Value.none)=true then _ else _) _ _ _
 rw[if_neg (show ¬((Value.ref d == Value.none)=true) from λz=>nomatch z)];refine wpAny_bind (wpAny_pure ?_)
 refine wpAny_bind (wpAny_dictEntries b1 b3 (show _ from ?_));rw[if_neg (show _ from by simp)];refine wpAny_bind (wpAny_pure ?_)
 refine wpAny_bind (wpAny_dictEpoch b1 b3 (show _ from ?_));rw[if_neg (show _ from by simp)];refine wpAny_pure (show _ from ?_)
 simp only[show ¬((i:Int) < 0) by omega,if_false,Ru9,hx]
 refine wpAny_bind (show _ from ?_)
 first|refine wpAny_bind (wpAny_typeNameOfWhole_itemiter ty (show _ from wpAny_pure ?_))|refine wpAny_bind (wpAny_typeNameOf_itemiter ty (show _ from wpAny_pure ?_))
 refine wpAny_bind (wpAny_isOneOf_itemiter ty (show _ from ?_));show wpAny _ _ (setField (.ref it) 3 (rawInt ((i:Int)+1)) >>= _) _ _ _
 refine wpAny_bind (wpAny_setField_rec hit (show _ by simp) λj1 c1 d1=>(show _ from ?_))
 replace d1:Heap.SameBut it hp j1:=d1
 replace c1:IsItemIter j1 it d (i+1) es.size ep ok ov:=by
  unfold IsItemIter;rw[show((i+1:Nat):Int)=(i:Int)+1 by omega];simpa [rawInt] using c1
 have ty1:Shared.TypeIs ⟨j1,g,dr,tk,os⟩ (.ref it) "dict_itemiterator":=⟨_,c1,rfl⟩
 refine wpAny_bind (wpAny_holding (show _ from ?_));refine wpAny_bind (wpAny_isOneOf_itemiter ty1 (wpAny_bind (wpAny_isOneOf_itemiter ty1 (show _ from ?_))))
 show wpAny _ _ (Builtin.Dict_items.pairFromOwner (.ref it) 6 e.key e.val) _ _ ⟨j1,g,dr,tk,os⟩;unfold Builtin.Dict_items.pairFromOwner
 refine wpAny_bind (wpAny_newTuple (show _ from ?_))
 have c2:IsItemIter (j1.push { cls:=.type "tuple",data:=.seq #[e.key,e.val] }) it d (i+1) es.size ep ok ov:=lV _ c1
 generalize hj2:j1.push { cls:=.type "tuple",data:=.seq #[e.key,e.val] } = j2 at c2
 have z1:j1.objs.size=hp.objs.size:=d1.1
 have il:it < hp.objs.size:=hX hit
 have t2:j2.get? hp.objs.size=some { cls:=.type "tuple",data:=.seq #[e.key,e.val] }:=by rw[<-hj2,<-z1];exact sN _ rfl
 have z2:j2.objs.size=hp.objs.size+1:=by rw[<-hj2,Th9,z1]
 have k2:∀b o,b≠it->hp.get? b=some o->j2.get? b=some o:=λb o hb q=>by rw[<-hj2];exact lV _ (d1.extBut b o hb q)
 show wpAny _ _ (Builtin.Dict_items.ownedTupleIsFree (.ref it) >>= _) _ _ ⟨j2,g,dr,tk,os⟩;rw[z1];clear hj2 c1 d1 ty1 z1 j1
 refine wpAny_bind (show _ from ?_);unfold Builtin.Dict_items.ownedTupleIsFree;refine wpAny_bind (wpAny_field c2 rfl (x:=.none) rfl (show _ from wpAny_pure ?_))
 simp only[if_true];refine wpAny_bind (wpAny_field c2 rfl (x:=ok) rfl (wpAny_bind (wpAny_field c2 rfl (x:=ov) rfl (show _ from ?_))))
 refine wpAny_bind (wpAny_setField_rec c2 (show _ by simp) λj3 c3 d3=>(show _ from ?_))
 replace d3:Heap.SameBut it j2 j3:=d3;replace c3:IsItemIter j3 it d (i+1) es.size ep e.key ov:=c3
 refine wpAny_bind (wpAny_setField_rec c3 (show _ by simp) λj4 c4 d4=>(show _ from ?_))
 replace d4:Heap.SameBut it j3 j4:=d4;replace c4:IsItemIter j4 it d (i+1) es.size ep e.key e.val:=c4
 refine wpAny_bind (wpAny_setField_rec c4 (show _ by simp) λj5 c5 d5=>(show _ from ?_))
 replace d5:Heap.SameBut it j4 j5:=d5;replace c5:IsItemIterOut j5 it d (i+1) es.size ep e.key e.val hp.objs.size:=c5
 refine wpAny_bind (wpAny_setField_rec c5 (show _ by simp) λj6 c6 d6=>(show _ from ?_))
 replace d6:Heap.SameBut it j5 j6:=d6;replace c6:IsItemIterOut j6 it d (i+1) es.size ep e.key e.val hp.objs.size:=c6
 have up:∀b o,b≠it->j2.get? b=some o->j6.get? b=some o:=λb o hb q=>d6.extBut b o hb (d5.extBut b o hb (d4.extBut b o hb (d3.extBut b o hb q)))
 refine wpAny_bind (wpAny_letGo (wpAny_pure (wpAny_pure ⟨_,rfl,wpAny_pure (hQ j6 c6 (up _ _ (Tj9 il) t2) ?_ λb o hb q=>up b o hb (k2 b o hb q))⟩)))
 show j6.objs.size=_;rw[d6.1,d5.1,d4.1,d3.1,z2]
theorem aEH{ok ov:Value}{Q:Option Value->Shared->Prop}(hh:A.handled=none)(hit:IsItemIter s.heap it d i es.size ep ok ov)(hm:Raw s.heap d es ep)(hx:es.size<=i)
  (hQ:∀h',Heap.ExtBut it s.heap h'->Q none { s with heap:=h' }):wpAny (model prog w) A (pyNext (.ref it)) Q E s:=by
 obtain⟨od,b1,b2,b3⟩:=id hm;have ty:s.TypeIs (.ref it) "dict_itemiterator":=⟨_,hit,rfl⟩
 unfold pyNext;refine wpAny_bind (wpAny_attempt (wpAny_callSpecial?_slot (name:=Str.ofString "__next__") ty F.slot_dict_itemiterator_next
  (wpAny_call_entry F.slot_dict_itemiterator_next ty F.entry_dict_itemiterator_next (show _ from ?_) (F.args_dict_itemiterator_next_1 _))))
 refine wpAny_bind (wpAny_pure ?_);refine wpAny_bind (show _ from ?_);refine wpAny_bind (show _ from ?_)
 first|refine wpAny_bind (wpAny_typeNameOfWhole_itemiter ty (show _ from wpAny_pure ?_))|refine wpAny_bind (wpAny_typeNameOf_itemiter ty (show _ from wpAny_pure ?_))
 refine wpAny_bind (wpAny_fieldsOf hit rfl (show _ from ?_));have own:Builtin.Dict_items.ownsTuple "dict_itemiterator" = true:=rfl
 simp only[own,if_true];show wpAny _ _ (if (Value.ref d == Value.none)=true then _ else _) _ _ _
 rw[if_neg (show ¬((Value.ref d == Value.none)=true) from λz=>nomatch z)];refine wpAny_bind (wpAny_pure ?_)
 refine wpAny_bind (wpAny_dictEntries b1 b3 (show _ from ?_));rw[if_neg (show _ from by simp)];refine wpAny_bind (wpAny_pure ?_)
 refine wpAny_bind (wpAny_dictEpoch b1 b3 (show _ from ?_));rw[if_neg (show _ from by simp)];refine wpAny_pure (show _ from ?_)
 simp only[show ¬((i:Int) < 0) by omega,if_false,Ru9,St9 hx]
 refine wpAny_bind (show _ from ?_)
 first|refine wpAny_bind (wpAny_typeNameOfWhole_itemiter ty (show _ from wpAny_pure ?_))|refine wpAny_bind (wpAny_typeNameOf_itemiter ty (show _ from wpAny_pure ?_))
 show wpAny _ _ (setField (.ref it) 2 Value.none >>= _) _ _ s
 refine wpAny_bind (wpAny_setField hit rfl (show _ by simp) (show _ from ?_));show wpAny _ _ (newExc (.type "StopIteration") [] >>= _) _ _ _
 refine wpAny_bind (show _ from ?_);simp only[newExc,newTuple];refine wpAny_bind (wpAny_newObj_type (show _ from ?_) (by size_fits))
 refine wpAny_bind (m:=firstArgMember _ _) (wpAny_of_eq (a:=Value.none) (show _ by first|rfl|(simp only[firstArgMember];rfl)) (show _ from ?_))
 refine wpAny_newObj_type (show _ from ?_) (by size_fits);simp only[raiseNew]
 refine wpAny_bind (wpAny_handled (show _ from ?_));rw[show A.in1.handled=none from hh];refine wpAny_bind (wpAny_pure (wpAny_throw ?_))
 refine wpAny_bind (wpAny_isInstance (T:="StopIteration") (b:=true) ⟨_,sN _ rfl,rfl⟩ isSubtype_stop (show _ from ?_))
 exact wpAny_pure (hQ _ (show _ from((Heap.SameBut.update ..).extBut.push _).push _))
end
end L2
namespace L2
open PySem PySem.Spec PyProof.Rows
section
variable{X:Cx}{pins:List (Addr×Obj)}{σ:St}{H:Hp}{s:Shared}
theorem Inv.aDr{d:Addr}{kvs:List (List Key×V)}{o:Obj}(I:Inv X pins σ H s)(e:H d=some (.dT kvs))(ho:s.heap.get? d=some o):Inv X pins σ (upd H d (.frz o (.dT kvs))) s:=by
 have nd:∀b u,H b=some u->u≠.dT kvs->b≠d:=λb u q n z=>by rw[z,e] at q;exact n (Option.some.inj q).symm
 refine I.step (h':=s.heap) (g':=s.gens) (d':=s.drawn) (t':=s.toks) (ch:=[]) (λ_ z=>nomatch z) (λb u _ _ _ q _=>q) (λb u _ _ _ q _=>⟨u.slots,q⟩) (λb u _ _ n=>?_)
  (λb u _ q=>⟨u,q⟩) (λb xs q=>?_) (λb u v q=>?_) (λb ps q=>⟨#[],?_⟩) (λm hm=>hm) (λb u q=>?_) I.bare
 ·rw[bB (λz=>by rw[z,e] at n;cases n)];exact n
 ·rw[bB (nd _ _ q (λz=>by cases z))];exact q
 ·rw[bB (nd _ _ q (λz=>by cases z))];exact q
 ·rw[bB (nd _ _ q (λz=>by cases z)),q];simp
 ·have st:∀c v,H c=some v->cA X.prog X.w H s.heap c v->cA X.prog X.w (upd H d (.frz o (.dT kvs))) s.heap c v:=λc v _ z=>
   z.yN (λ_ _ _ z=>z) (λc z=>by rw[bB (nd _ _ z (λy=>by cases y))];exact z) λc xs t z=>by rw[bB (nd _ _ z (λy=>by subst y;exact t))];exact z
  by_cases hb:b=d
  ·subst hb;rw[aT] at q;cases q;exact⟨ho,st b _ e (I.hok b _ e)⟩
  ·rw[bB hb] at q
   exact st b u q (I.hok b u q)
end
theorem aA7{H:Hp}:∀{kvs:List (List Key×V)}{xs:List (List Key×Addr×Value)},KT H kvs xs->∀{i:Nat}{p:List Key×V},kvs[i]?=some p->∃q,xs[i]?=some q/\H q.2.1=some (.tup (p.1.map kV))/\RelV p.2 q.2.2
 |[],_,r,i,p,h=>by simp at h
 |a::as,_,r,i,p,h=>by
  cases r with
  |cons x t=>
   cases i with
   |zero=>cases h;exact⟨_,rfl,x.2⟩
   |succ i=>exact aA7 t (i:=i) h
theorem wK{P:Program}{w:World}{H:Hp}{h:Heap}{d:Addr}{kvs:List (List Key×V)}(x:cA P w H h d (.dT kvs)):(d == sysModules)=false/\∃(o:Obj) (es:Array DictEntry) (ep:Nat) (xs:List (List Key×Addr×Value)),
  h.get? d=some o/\o.ExactDict/\o.data=.dict es ep/\KT H kvs xs/\es.toList=xs.map (entryOfKey (tupleKind (bX P w)))/\es.size=kvs.length:=by
 obtain⟨z,y,xs,r,o,es,ep,h1,h2,h3,h4,h5⟩:=x
 refine⟨y,o,es,ep,xs,h1,h2,h3,r,h4,?_⟩
 rw[size_of_entries h4]
 exact(Paired.length r).symm
def Iti(d:Addr)(o:Obj)(kvs:List (List Key×V)):It:=
 ⟨λi H=>H d=some (.frz o (.dT kvs))/\i < kvs.length,λi H x H'=>∃T b kv,H T=none/\x=.ref T/\kvs[i]?=some kv/\H b=some (.tup (kv.1.map kV))/\H'=upd H T (.tup [.ref b,kv.2]),λi H=>H d=some (.frz o (.dT kvs))/\kvs.length<=i⟩
theorem aAm:entryFor table "dict_itemiterator.__iter__" = some Builtin.«dict_keyiterator.__iter__»:=PySem.entryFor_alias (id':="dict_keyiterator.__iter__") (by kernel_rfl) rfl (by decide +kernel) (show _ by kernel_rfl)
theorem aFP{P:Program}{w:World}{K:PySem.W.Frag}{elts:List Expr}{x1:Nat}{tp:Pos}(d it:Addr)(o:Obj)(kvs:List (List Key×V))(es:Array DictEntry)(ep:Nat)(hc0:o.cls=.type "dict")(hd0:o.data=.dict es ep)(hn:es.size=kvs.length) :
  Turn P w K (.Tuple elts x1 tp) (Iti d o kvs) [it] it (λi h=>∃ok ov,IsItemIter h it d i es.size ep ok ov) where
 mem:=by simp
 obj:=λi h st b hb=>by
  obtain⟨ok,ov,he⟩:=st
  have z:b=it:=by simpa using hb
  subst z
  exact⟨_,he,λv z=>by cases z⟩
 keep:=λi h h' st k=>by
  obtain⟨ok,ov,he⟩:=st
  exact⟨ok,ov,k it (by simp) _ he⟩
 item:=by
  intro X hP hw hK hc i pins s σ H E I hf st hg
  subst hP hw hK
  obtain⟨ok,ov,he⟩:=st
  obtain⟨hd,hi⟩:=hg
  have hO:cA X.prog X.w H s.heap d (.frz o (.dT kvs)):=I.hok d _ hd
  obtain⟨ho,hO⟩:=hO
  obtain⟨lo,o',es',ep',xs,g1,g2,g3,rel,g4,g5⟩:=wK hO
  have eo:o'=o:=Option.some.inj (g1.symm.trans ho)
  subst eo
  have ee:es'=es/\ep'=ep:=by rw[hd0] at g3;injection g3 with a b;exact⟨a.symm,b.symm⟩
  obtain⟨e1,e2⟩:=ee
  subst e1 e2
  have raw:Raw s.heap d es' ep':=⟨o',ho,hc0,hd0⟩
  have hx:kvs[i]?=some kvs[i]:=dF hi
  obtain⟨q,hq,hb,rv⟩:=aA7 rel hx
  have hex:es'[i]?=some (entryOfKey (tupleKind (bX X.prog X.w)) q):=by rw[entry_at g4,hq];rfl
  have hilt:it < s.heap.objs.size:=hX he
  refine aDq he raw hex λh1 h2' hT hsz hk=>?_
  refine⟨_,rfl,wpAny_letOwnedTupleGo_items h2' λh2 he2 hs2=>?_⟩
  replace hs2:Heap.SameBut it h1 h2:=hs2
  have hT2:h2.IsTuple s.heap.objs.size #[.ref q.2.1,q.2.2]:=⟨_,(hs2.2 _ (Tj9 hilt)).trans hT,rfl,_,rfl⟩
  have kk:∀b o,b∉[it]->s.heap.get? b=some o->h2.get? b=some o:=λb o hb q=>by
   have n1:b≠it:=λz=>hb (by simp[z])
   exact(hs2.2 b n1).trans (hk b o n1 q)
  have I2:Inv X pins σ (upd H s.heap.objs.size (.tup [.ref q.2.1,kvs[i].2])) { s with heap:=h2,toks:=s.toks }:=
   I.yX kk hf (dQ _) (show cA X.prog X.w _ h2 _ (.tup [.ref q.2.1,kvs[i].2]) from⟨cO (by simp),[.ref q.2.1,q.2.2],.cons rfl (.cons rv .nil),hT2⟩)
  have hfr:H s.heap.objs.size=none:=I.hok.fresh (dQ _)
  refine⟨.ref s.heap.objs.size,_,I2,rfl,⟨_,q.2.1,kvs[i],hfr,rfl,hx,hb,rfl⟩,⟨_,_,he2⟩,λb hb=>?_⟩
  have z:b=it:=by simpa using hb
  subst z
  rw[bB (pP hilt)]
  exact(hf b (by simp)).1
 done:=by
  intro X hP hw hK hc i pins s σ H E I hf st hg
  subst hP hw hK
  obtain⟨ok,ov,he⟩:=st
  obtain⟨hd,hi⟩:=hg
  have hO:cA X.prog X.w H s.heap d (.frz o (.dT kvs)):=I.hok d _ hd
  obtain⟨f0,f1,f2,f3,f4,f5⟩:=hf it (by simp)
  exact aEH (I.ok.hd hc) he ⟨o,hO.1,hc0,hd0⟩ (by omega) λh' eb=>⟨rfl,I.turned (t':=s.toks) (λb o hb e=>eb b o hb e) f0 f1 f3 f4 f5⟩
 self:=λ_ _ _ _ _ st h=>by
  obtain⟨ok,ov,he⟩:=st
  refine wpAny_pyIter_slot ⟨_,he,rfl⟩ F.slot_dict_itemiterator_iter (wpAny_call_entry F.slot_dict_itemiterator_iter ⟨_,he,rfl⟩ aAm ?_ (F.args_dict_itemiterator_iter_1 _))
  exact wpAny_pure ⟨_,rfl,"dict_itemiterator",_,⟨_,he,rfl⟩,F.slot_dict_itemiterator_next.lookup,h⟩
section
variable{X:Cx}{elts:List Expr}{x1:Nat}{tp:Pos}
def ImQ(R:It->Hp->Prop):V->Hp->Prop:=λx H1=>∃d kvs,x=.ref d/\H1 d=some (.dT kvs)/\∀o,R (Iti d o kvs) (upd H1 d (.frz o (.dT kvs)))
def aFQ(td:TE):TI:=λσ H R=>td σ H (ImQ R)
theorem aJi{o:Expr}{td:TE}{apos cpos:Pos}(ho:PE X o td)(hbase:attributeBase o "items" X.env (eval o X.env)=eval o X.env:=by rfl)(hline:(apos.endLine == cpos.line)=true:=by rfl) :
  PI X (.Tuple elts x1 tp) (.Call (.Attribute o "items" apos) [] [] cpos) (aFQ td):=by
 intro pins s σ H R I h
 refine wpAny_Call_method (T:="dict") (id:="dict.items") hbase rfl hline PySem.F.plainAttrs_dict PySem.F.slot_dict_items PySem.F.type_dict_items (dG (ho pins s σ H _ I h) λv s1 ⟨x,H1,I1,r1,q1⟩=>?_)
 obtain⟨d,kvs,e,hd,q⟩:=q1
 subst e
 cases r1
 obtain⟨lo,ob,es,ep,xs,g1,g2,g3,rel,g4,g5⟩:=wK (show cA X.prog X.w H1 s1.heap d (.dT kvs) from I1.hok d _ hd)
 have raw:Raw s1.heap d es ep:=⟨ob,g1,g2.1,g3⟩
 refine⟨raw.ty,λb z=>by cases z;exact⟨ob,g1,g2.2.1⟩,?_⟩
 refine method_meetsIn PySem.F.slot_dict_items PySem.F.entry_dict_items rfl (PySem.evalArgs_none ⟨rfl,raw.ty,PySem.F.args_dict_items_1 _,_,aHy d lo,raw.ty,?_⟩)
 have I2:=I1.aDr hd g1
 show wpAny _ _ (pyIter (.ref s1.heap.objs.size)) _ _ _
 refine aBY (s:={ s1 with heap:=s1.heap.push { cls:=.type "dict_items",data:=.fields #[.ref d] } }) ⟨_,sN _ rfl,rfl,rfl⟩ (raw.keep λo e=>lV _ e) ?_
 have hk:∀b u,s1.heap.get? b=some u->((s1.heap.push { cls:=.type "dict_items",data:=.fields #[.ref d] }).push { cls:=.type "dict_itemiterator",data:=.fields #[.none,.bool false,.ref d,.int 0 0,.int es.size 0,.int ep 0,.none,.none] }).get? b=some u:=
  λb u e=>lV _ (lV _ e)
 refine⟨_,[(s1.heap.push { cls:=.type "dict_items",data:=.fields #[.ref d] }).objs.size],_,_,_,rfl,I2.kept (t':=s1.toks) hk,aFP d _ ob kvs es ep g2.1 g3 g5,⟨_,_,sN _ rfl⟩,λb hb=>?_,q ob⟩
 have e:b=(s1.heap.push { cls:=.type "dict_items",data:=.fields #[.ref d] }).objs.size:=by simpa using hb
 have hle:s1.heap.objs.size<=b:=by rw[e,Th9];exact Uk9 _
 exact I2.aBT hle (I2.hok.fresh hle)
end
section
variable{σ:St}{H:Hp}{nx:St->Hp->Prop}{rt:VK}{g:TG}{tb:TS}
theorem aHz{td:TE}{R:It->Hp->Prop}(h:td σ H (ImQ R)):aFQ td σ H R:=h
theorem aO2{d:Addr}{kvs:List (List Key×V)}{R:It->Hp->Prop}(h1:H d=some (.dT kvs))(h:∀o,R (Iti d o kvs) (upd H d (.frz o (.dT kvs)))):ImQ R (.ref d) H:=⟨d,kvs,rfl,h1,h⟩
end
section
variable{X:Cx}{o:Expr}{td:TE}{apos cpos:Pos}
end
section
variable{X:Cx}{ek ev:Expr}{tk tv:TE}{pos:Pos}
end
end L2
namespace L2
section
variable{σ:St}{H:Hp}{Q:VK}
theorem aJj{td ty tx:TE}(h:td σ H λx H1=>∃a,x=.ref a/\IsD H1 a/\ty σ H1 λy H2=>tx σ H2 λz H3=>∃o,hU H3 a y o/\Q (o.getD z) H3):aFA td ty tx σ H Q:=h
end
end L2
namespace L2.Z
open PySem PySem.Spec PyProof.Rows L2
section
variable{X:Cx}{o e f ek ev:Expr}{td ty tx tk tv:TE}{pos apos cpos tp:Pos}{elts:List Expr}{x1:Nat}
theorem aEI(ho:QE X o td)(hbase:attributeBase o "items" X.env (eval o X.env)=eval o X.env:=by rfl)(hline:(apos.endLine == cpos.line)=true:=by rfl) :
  QI X (.Tuple elts x1 tp) (.Call (.Attribute o "items" apos) [] [] cpos) (aFQ td):=⟨L2.aJi ho.h hbase hline⟩
theorem aEJ(hu:X.A.units+9 < cLine)(ho:QE X o td)(he:QE X e ty)(hf:QE X f tx)(base:attributeBase o "get" X.env (eval o X.env)=eval o X.env:=by rfl)
  (few:((backTo cpos (starEach [e,f] X.env)).all (λx=>!x.1) && (backToKw cpos (keywordEach [] X.env)).all (λx=>x.1.isSome)
   && decide (([e,f]:List Expr).length+([]:List Keyword).length+(if ([]:List Keyword).isEmpty then 0 else 1) < 30))=true:=by rfl)
  (line:(apos.endLine == cpos.line)=true:=by rfl) (trees:backTo cpos (starEach [e,f] X.env)=[(false,eval e X.env),(false,eval f X.env)]:=by rfl) :
  QE X (.Call (.Attribute o "get" apos) [e,f] [] cpos) (aFA td ty tx):=⟨L2.aIH (by omega) ho.h he.h hf.h ⟨base,few,line,trees⟩⟩
end
end L2.Z
namespace L2
open PySem PySem.Spec PyProof.Rows
def Itk(d:Addr)(o:Obj)(kvs:List (List Key×V)):It:=
 ⟨λi H=>H d=some (.frz o (.dT kvs))/\i < kvs.length,λi H x H'=>H'=H/\∃b kv,kvs[i]?=some kv/\x=.ref b/\H b=some (.tup (kv.1.map kV)),λi H=>H d=some (.frz o (.dT kvs))/\kvs.length<=i⟩
theorem aFR{P:Program}{w:World}{K:PySem.W.Frag}{tg:Expr}(d it:Addr)(o:Obj)(kvs:List (List Key×V))(es:Array DictEntry)(ep:Nat)(hc0:o.cls=.type "dict")(hd0:o.data=.dict es ep)(hn:es.size=kvs.length) :
  Turn P w K tg (Itk d o kvs) [it] it (λi h=>It4 "dict_keyiterator" h it d i es.size ep) where
 mem:=by simp
 obj:=λi h st b hb=>by
  have z:b=it:=by simpa using hb
  subst z
  obtain⟨u,e,c,q⟩:=st
  exact⟨u,e,λv z=>by rw[q] at z;cases z⟩
 keep:=λi h h' st k=>st.keep λu e=>k it (by simp) u e
 item:=by
  intro X hP hw hK hc i pins s σ H E I hf st hg
  subst hP hw hK
  obtain⟨hd,hi⟩:=hg
  have hO:cA X.prog X.w H s.heap d (.frz o (.dT kvs)):=I.hok d _ hd
  obtain⟨ho,hO⟩:=hO
  obtain⟨lo,o',es',ep',xs,g1,g2,g3,rel,g4,g5⟩:=wK hO
  have eo:o'=o:=Option.some.inj (g1.symm.trans ho)
  subst eo
  have ee:es'=es/\ep'=ep:=by rw[hd0] at g3;injection g3 with a b;exact⟨a.symm,b.symm⟩
  obtain⟨e1,e2⟩:=ee
  subst e1 e2
  have raw:Raw s.heap d es' ep':=⟨o',ho,hc0,hd0⟩
  have hx:kvs[i]?=some kvs[i]:=dF hi
  obtain⟨q,hq,hb,rv⟩:=aA7 rel hx
  have hex:es'[i]?=some (entryOfKey (tupleKind (bX X.prog X.w)) q):=by rw[entry_at g4,hq];rfl
  obtain⟨f0,f1,f2,f3,f4,f5⟩:=hf it (by simp)
  refine aEG st raw hex λh' st' sb=>?_
  have I1:Inv X pins σ H { s with heap:=h' }:=I.turned (t':=s.toks) (λb u hb e=>(sb.2 b hb).trans e) f0 f1 f3 f4 f5
  obtain⟨u,e',c',d'⟩:=id st'
  exact⟨_,rfl,aCw (s:={ s with heap:=h' }) e' c' d' (by decide) ⟨.ref q.2.1,H,I1,rfl,⟨rfl,q.2.1,kvs[i],hx,rfl,hb⟩,st',λb hb=>(hf b hb).1⟩⟩
 done:=by
  intro X hP hw hK hc i pins s σ H E I hf st hg
  subst hP hw hK
  obtain⟨hd,hi⟩:=hg
  have hO:cA X.prog X.w H s.heap d (.frz o (.dT kvs)):=I.hok d _ hd
  obtain⟨f0,f1,f2,f3,f4,f5⟩:=hf it (by simp)
  exact aFO (I.ok.hd hc) st ⟨o,hO.1,hc0,hd0⟩ (by omega) λh' eb=>⟨rfl,I.turned (t':=s.toks) (λb o hb e=>eb b o hb e) f0 f1 f3 f4 f5⟩
 self:=λ_ _ _ _ _ st h=>wpAny_pyIter_keyiter st h
section
variable{X:Cx}{tg:Expr}
def DkQ(R:It->Hp->Prop):V->Hp->Prop:=λx H1=>∃d kvs,x=.ref d/\H1 d=some (.dT kvs)/\∀o,R (Itk d o kvs) (upd H1 d (.frz o (.dT kvs)))
def aFS(tl:TE):TI:=λσ H R=>tl σ H (DkQ R)
theorem aJk{l:Expr}{tl:TE}(hl:PE X l tl):PI X tg l (aFS tl):=by
 intro pins s σ H R I h
 refine dG (hl pins s σ H _ I h) λv s1 ⟨x,H1,I1,r1,q1⟩=>?_
 obtain⟨d,kvs,e,hd,q⟩:=q1
 subst e
 cases r1
 obtain⟨lo,ob,es,ep,xs,g1,g2,g3,rel,g4,g5⟩:=wK (show cA X.prog X.w H1 s1.heap d (.dT kvs) from I1.hok d _ hd)
 have raw:Raw s1.heap d es ep:=⟨ob,g1,g2.1,g3⟩
 have I2:=I1.aDr hd g1
 refine aDo lo raw ?_
 refine⟨s1.heap.objs.size,[s1.heap.objs.size],_,_,_,rfl,I2.kept (t':=s1.toks) λb u e=>lV _ e,aFR d _ ob kvs es ep g2.1 g3 g5,⟨_,sN _ rfl,rfl,rfl⟩,λb hb=>?_,q ob⟩
 have e:b=s1.heap.objs.size:=by simpa using hb
 subst e
 exact I2.aBT (dQ _) (I2.hok.fresh (dQ _))
end
section
variable{σ:St}{H:Hp}{Q:VK}{nx:St->Hp->Prop}{rt:VK}{g:TG}{tb:TS}
theorem aHA{tl:TE}{R:It->Hp->Prop}(h:tl σ H (DkQ R)):aFS tl σ H R:=h
theorem aO3{d:Addr}{kvs:List (List Key×V)}{R:It->Hp->Prop}(h1:H d=some (.dT kvs))(h:∀o,R (Itk d o kvs) (upd H d (.frz o (.dT kvs)))):DkQ R (.ref d) H:=⟨d,kvs,rfl,h1,h⟩
theorem aJl{td ty:TE}(h:td σ H λx H1=>ty σ H1 λy H2=>∃a v,x=.ref a/\hU H2 a y (some v)/\Q v H2):aIA td ty σ H Q:=h
theorem hU.f{H:Hp}{a b:Addr}{o:Obj}{kvs:List (List Key×V)}{k:List Key}(e:H a=some (.frz o (.dT kvs)))(eb:H b=some (.tup (k.map kV))):hU H a (.ref b) (pR kvs k):=.inr ⟨kvs,k,b,.inr ⟨o,e⟩,rfl,eb,rfl⟩
end
end L2
namespace L2.Z
open PySem PySem.Spec PyProof.Rows L2
section
variable{X:Cx}{o i l tg:Expr}{td ty tl:TE}{pos:Pos}
theorem aEK(hl:QE X l tl):QI X tg l (aFS tl):=⟨L2.aJk hl.h⟩
theorem lM(hu:X.A.units+9 < cLine)(ho:QE X o td)(hi:QE X i ty)(hs:aMV i:=by intro _ _;rfl):QE X (.Subscript o i pos) (aIA td ty):=⟨L2.aKM (by omega) ho.h hi.h hs⟩
end
end L2.Z
namespace L2
open PySem PySem.Spec PyProof.Rows
section
open PySem.SeqAt
open PySem.AutoSeq1 (wpAny_loadPart')
open PySem.MeetsSeq PySem.MeetsSeq2 PySem.MeetsSeq3
end
section
variable{X:Cx}
end
end L2
namespace L2
open PySem PySem.Spec PyProof.Rows
structure Clo(P:Program)(w:World)(K:W.Frag)(mg:Str->Option Value)(base:Heap)(k:Nat)(f:Addr)(sp:Sp):Prop where
 ex:∃(o:Obj) (fd:FuncData) (ps:List Str),base.get? f=some o/\o.data=.func fd/\cR P w K mg base lQ k f fd ps sp/\∀(s:Shared) (us:List Value),us.length=ps.length->BindsTo s fd ⟨us,[]⟩ (ps.zip us)
abbrev aCH(q:Str)(params:Arguments)(body:Expr)(scope:Scope)(cl:List (Str×Addr))(pm cd ct:Value):FuncData:=
  { name := "<lambda>", qualname := q, params, body := .expr body, scope, globals := mainGlobals, closure := cl, defaults := .none, kwdefaults := .none, doc := .none, pyModule := pm, annotations := none, code := cd, closureTuple := ct, builtins := builtinsNs }
abbrev tF(q:Str)(scope:Scope)(L f:Addr)(cd:Value)(cl:List (Str×Addr)):Env:=
 { scope:=scope,locals:=L,globals:=mainGlobals,cells:=cl,qual:=q ++ ".<locals>.",func:=some f,code:=cd,frame:=some L,builtins:=builtinsNs }
def cxL(P:Program)(w:World)(K:W.Frag)(mg:Str->Option Value)(base:Heap)(N:List Str)(q:Str)(scope:Scope)(f:Addr)(cd:Value)(cl:List (Str×Addr))(A:Around)(outer:List Env)(s:Shared)(H:Hp):Cx where
 prog:=P
 w:=w
 K:=K
 mg:=mg
 base:=base
 A:=A.deeper (tF q scope s.heap.objs.size f cd cl)
 N:=N
 s₀:=s
 H₀:=H
 env:=tF q scope s.heap.objs.size f cd cl
 outer:=outer
 stack:=tF q scope s.heap.objs.size f cd cl::outer
 ex:=[]
 calm:=true
 fn:=λ_=>false
 pn:=[]
 xe:=λ_ _=>False
structure aNJ(base:Heap)(scope:Scope)(N ps:List Str)(cl:List (Str×Addr))(cap:St):Prop where
 kind:scope.kind=.function
 co:scope.isCoroutine=false
 gen:scope.isGenerator=false
 nocell:∀y∈scope.names,y.2≠.cell
 pre:N.take ps.length=ps
 nd:N.Nodup
 len:N.length=ps.length+cap.length
 par:∀x∈ps,scope.names.lookup x=some .local
 inj:∀x y c,cl.lookup x=some c->cl.lookup y=some c->x=y
 has:∀x,scope.names.lookup x=some .free->∃c,cl.lookup x=some c
 all:∀x c,cl.lookup x=some c->∃o v,base.get? c=some o/\o.data=.cell v
 cap:∀(i:Nat) x v,(N.drop ps.length)[i]?=some x->cap[i]?=some (some v)->scope.names.lookup x=some .free/\∃u c o,RelV v u/\cl.lookup x=some c/\base.get? c=some o/\o.data=.cell (some u)
theorem aGx{x:Str}{v:Value}:∀{l:List (Str×Value)},(l.map (·.1)).Nodup->(x,v)∈l->l.lookup x=some v
 |[],_,h=>by cases h
 |(y,u)::r,nd,h=>by
  rw[Rr9]
  rcases lW.mp h with e|h'
  ·cases e
   rw[beq_self_eq_true]
  ·have ne:x≠y:=λz=>by
    subst z
    exact(Rs9.mp nd).1 (o8.mpr ⟨(x,v),h',rfl⟩)
   rw[beq_eq_false_iff_ne.mpr ne]
   exact aGx (Rs9.mp nd).2 h'
theorem aLr{v:Value}{x:Str}:∀{P:List Str}{us:List Value}{i:Nat},P.Nodup->P[i]?=some x->us[i]?=some v->P.length=us.length->(P.zip us).reverse.lookup x=some v:=by
 intro P us i nd h1 h2 hl
 have hm:(x,v)∈(P.zip us).reverse:=by
  rw[Ui9]
  refine iW (i:=i) ?_
  rw[To9]
  exact⟨h1,h2⟩
 refine aGx ?_ hm
 rw[List.map_reverse,Uj9 (Ul9 hl)]
 exact Ud9.mpr (nd.imp λh=>Ne.symm h)
def aGy(c:Addr)(q:Str)(n:Nat)(tl:TE)(cap:St):Sp:=λws H Q _=>H c=some (.cod q)/\ws.length=n/\tl (ws.map some++cap) H Q
theorem aFT{P:Program}{w:World}{K:W.Frag}{mg:Str->Option Value}{base:Heap}{N ps:List Str}{q:Str}{scope:Scope}{f:Addr}{cd:Value}{cl:List (Str×Addr)}{cap:St}{A:Around}{outer:List Env}{s:Shared}{H:Hp}{us:List Value}{vs:List V}{h':Heap}{tk:Nat}
  (S:aNJ base scope N ps cl cap) (hd:A.handled=none) (e0:aBU P w K mg base A outer s H) (hl:vs.length=ps.length) (r:Vals vs us)
  (hns:h'.Ns s.heap.objs.size λx=>(ps.zip us).reverse.lookup x) (hk:∀b o,s.heap.get? b=some o->h'.get? b=some o) :
  Inv (cxL P w K mg base N q scope f cd cl A outer s H) [] (vs.map some++cap) H { s with heap:=h',toks:=tk }:=by
 have noA:∀b:Addr,b∉(cxL P w K mg base N q scope f cd cl A outer s H).ex:=λb z=>absurd (show b∈([]:List Addr) from z) (by simp)
 refine⟨⟨e0.mod,S.kind,rfl,rfl,dQ _,S.inj,λy hy=>?_,λy c z _=>(by cases z),λ_=>hd,Around.frames_deeper e0.frames,.inr ⟨rfl,rfl⟩,λb z=>absurd z (noA b),e0.bs,e0.bsz,λb _ _=>noA b,λb z=>absurd z (noA b),e0.vP,e0.frf⟩,
  rfl,e0.bare,Un.kept hk,⟨_,hns,λi y v h1 h2 h3=>?_⟩,λy c h=>?_,e0.hok.fresh (dQ _),λy c h=>?_,λp hp=>absurd (show p∈([]:List (Addr×Obj)) from hp) (by simp),e0.hok.kept hk,?_⟩
 ·have hy:scope.names.lookup y=some .cell\/scope.names.lookup y=some .free:=hy
  rcases hy with hy|hy
  ·exact absurd rfl (S.nocell _ (PySem.mem_of_lookup hy))
  ·exact S.has y hy
 ·have h1':N[i]?=some y:=h1
  by_cases hi:i < ps.length
  ·rw[Qq9 (by rw[cD];omega),qB] at h2
   obtain⟨v',hv',e⟩:=Qs9.mp h2
   cases e
   obtain⟨u,hu,rv⟩:=r.get hv'
   have hp:ps[i]?=some y:=by rw[<-S.pre,Ts9 hi];exact h1'
   have ndP:ps.Nodup:=by rw[<-S.pre];exact S.nd.sublist (List.take_sublist _ _)
   refine⟨u,rv,.inl ⟨S.par y (iW hp),?_⟩⟩
   exact aLr ndP hp hu (by rw[<-hl];exact r.length)
  ·obtain⟨j,rfl⟩ : ∃j,i=ps.length+j:=⟨i - ps.length,by omega⟩
   rw[Qz9 (by rw[cD];omega),cD,hl,Nat.add_sub_cancel_left] at h2
   obtain⟨hf,u,c,o,rv,ec,eo,ed⟩:=S.cap j y v (by rw[Ti9];exact h1') h2
   exact⟨u,rv,.inr ⟨.inr hf,c,ec,o,hk _ _ (e0.bs c o eo).1,ed⟩⟩
 ·obtain⟨o,v,eo,ed⟩:=S.all y c h
  exact⟨v,o,hk _ _ (e0.bs c o eo).1,ed⟩
 ·obtain⟨o,v,eo,ed⟩:=S.all y c h
  exact(e0.bs c o eo).2
 ·show _=N.length
  rw[sO,cD,hl,S.len]
theorem aNK{P:Program}{w:World}{K:W.Frag}{mg:Str->Option Value}{base:Heap}{k:Nat}{f c:Addr}{q:Str}{params:Arguments}{body:Expr}{scope:Scope}{cl:List (Str×Addr)}{pm ct:Value}{N ps:List Str}{cap:St}{tl:TE}{o:Obj}
  (hf:base.get? f=some o) (ho:o.data=.func (aCH q params body scope cl pm (.ref c) ct)) (S:aNJ base scope N ps cl cap)
  (hbody:∀(A:Around) (outer:List Env) (s:Shared) (H:Hp),eI k (A.deeper (tF q scope s.heap.objs.size f (.ref c) cl))->PE (cxL P w K mg base N q scope f (.ref c) cl A outer s H) body tl) :
  cR P w K mg base lQ (k+1) f (aCH q params body scope cl pm (.ref c) ct) ps (aGy c q ps.length tl cap):=by
 refine⟨λvs H Q E h=>h.2.1,λA outer s H args us vs Q E hr e0 hb r hsp=>?_⟩
 obtain⟨hcod,hl,hq⟩:=hsp
 have lim:s.heap.NoLimit:=e0.mod.nolimit.keeps λb o e=>(e0.bs b o e).1
 have hcd:s.heap.CodeRec (.ref c) q:=by
  obtain⟨oc,vc,t,z1,z2,z3⟩:=e0.hok c _ hcod
  exact⟨c,oc,vc,t,rfl,z1,z2,z3⟩
 refine PySem.W.kla_callFunE hr.depth (e0.bs f _ hf).1 ho S.co S.gen rfl hcd (hb _ _ _ _ ?_)
 refine wpAny_newFunctionEnv S.nocell (λy hy=>?_) (λh₁ hns hsb=>⟨lim.fresh _ hsb,?_⟩) S.kind
 ·obtain⟨n,v⟩:=y
  exact S.par n (Tu9 hy).1
 show codeAny _ _ (.expr body (tF q scope s.heap.objs.size f (.ref c) cl)) _ _
 have hk₁:∀b o,s.heap.get? b=some o->h₁.get? b=some o:=λb o e=>hsb.extBut b o (pP (hX e)) (lV _ e)
 refine PySem.W.kla_codeExpr ?_
 have I:=aFT (tk:=s.toks+(ps.zip us).length) (q:=q) (f:=f) (cd:=.ref c) S hr.hd e0 hl r hns hk₁
 refine wpAny_mono (hbody A outer s H (hr.deeper _) [] _ _ H _ I hq) (λu s' hs=>?_) λe s' hs=>hs.elim
 obtain⟨v,H',J,rv,z⟩:=hs
 exact⟨v,H',J.os,J.bare,J.base,J.hok,rv,z⟩
def aDs(base h:Heap)(Z:List Addr):Heap:=PySem.W.hideAll h ((List.range h.objs.size).filter λa=>!((base.get? a).isSome || Z.contains a))
theorem tG{base h:Heap}{Z:List Addr}{b:Addr}{o:Obj}(e:h.get? b=some o)(z:(∃u,base.get? b=some u)\/b∈Z):(aDs base h Z).get? b=some o:=by
 refine PySem.W.hideAll_get _ e λhm=>?_
 have q:=(So9.mp hm).2
 rcases z with ⟨u,z⟩|z
 ·rw[z] at q;simp at q
 ·rw[show Z.contains b=true from List.elem_iff.mpr z] at q
  simp at q
theorem aGz{base h:Heap}{Z:List Addr}{b:Addr}{o:Obj}(e:(aDs base h Z).get? b=some o):h.get? b=some o/\((∃u,base.get? b=some u)\/b∈Z):=by
 have e':h.get? b=some o:=PySem.W.of_hideAll _ e
 refine⟨e',?_⟩
 cases q1:base.get? b with
 |some u=>exact .inl ⟨u,rfl⟩
 |none=>
  cases q2:Z.contains b with
  |true=>exact .inr (List.elem_iff.mp q2)
  |false=>
   have hm:b∈(List.range h.objs.size).filter λa=>!((base.get? a).isSome || Z.contains a):=So9.mpr ⟨Rn9.mpr (hX e'),by rw[q1,q2];rfl⟩
   have z:(aDs base h Z).get? b=none:=PySem.W.hideAll_none _ hm
   rw[z] at e
   cases e
theorem Mod.keeps{K:W.Frag}{mg:Str->Option Value}{base base':Heap}(M:Mod K mg base)(k:∀b o,base.get? b=some o->base'.get? b=some o):Mod K mg base':=
 ⟨M.kin.keeps k,M.glob.keeps k,(let ⟨mb,h1,h2⟩:=M.blt;⟨mb,h1.keeps k,h2⟩),M.nolimit.keeps k,let ⟨bm,o,e1,e2,e3,r⟩:=M.bm;⟨bm,o,e1,e2,k _ _ e3,r⟩⟩
theorem aFU{h base:Heap}{Z:List Addr}{l:List Env}(hl:h.FunFrames base l)(hz:∀b∈frs l,b∉Z):h.FunFrames (aDs base h Z) l:=by
 induction l with
 |nil=>trivial
 |cons env rest ih=>
  obtain⟨hk,⟨L,o,hf,hn,ho,hd⟩,hr⟩:=hl
  have hL:L∈frs (env::rest):=by unfold frs;rw[Sp9,hf];exact Rc9
  refine⟨hk,⟨L,o,hf,?_,ho,hd⟩,ih hr λb hb=>hz b (by unfold frs;rw[Sp9,hf];exact Qt9 _ hb)⟩
  cases q:(aDs base h Z).get? L with
  |none=>rfl
  |some u=>
   rcases(aGz q).2 with ⟨v,z⟩|z
   ·rw[hn] at z;cases z
   ·exact absurd z (hz L hL)
end L2
namespace L2
open PySem PySem.Spec PyProof.Rows
section
variable{X:Cx}{pins:List (Addr×Obj)}{σ:St}{H:Hp}{s:Shared}{c Pt:Addr}{q:Str}{params:Arguments}{body:Expr}{scope:Scope}{pos lpos:Pos}{cl:List (Str×Addr)}
theorem aJm{Q:Value->Shared->Prop}(I:Inv X pins σ H s)(hcode:X.env.code=.ref c)(hC:PySem.W.codeHdIn X.K c Pt=true)(hT:H Pt=some (.ctb pos q))(hq:X.env.qual ++ "<lambda>" = q)(hdef:defaultsOf params X.env=([],[]))(hcl:closureFor scope X.env=pure cl)
  (h:∀(f c':Addr) (pm ct:Value) (o:Obj) (H':Hp) (s':Shared),Inv X pins σ H' s'->aU H H'->s'.heap.get? f=some o->o.data=.func (aCH q params body scope cl pm (.ref c') ct)->H' f=none->H' c'=some (.cod q)->s.heap.objs.size<=f->Q (.ref f) s') :
  wpAny (model X.prog X.w) X.A (eval (.Lambda params body scope pos) X.env) Q X.xe s:=by
 obtain⟨ps,eP,ht,hc⟩:=I.hok Pt _ hT
 have hg:s.heap.Ns mainGlobals X.mg:=I.mod.glob.keeps I.bk
 have hgP:mainGlobals≠Pt:=λz=>by
  obtain⟨o,es,ep,e,hd,_⟩:=hg
  rw[z,eP] at e
  cases e
  cases hd
 have hb:s.heap.BuiltinsAt X.mg Pt:=by
  obtain⟨bm,o,e1,e2,e3,e4,e5,e6⟩:=I.mod.bm
  have e3':=I.bk _ _ e3
  refine⟨bm,o,e1,e2,λz=>?_,λz=>?_,e3',e4,e5,e6⟩
  ·obtain⟨o',es,ep,e,hd,_⟩:=hg
   rw[z,e] at e3'
   cases e3'
   rw[hd] at e6
   cases e6
  ·rw[z,eP] at e3'
   cases e3'
   cases e4
 have hCd:PySem.W.CodeHd s.heap c Pt:=PySem.W.codeHd_of_K I.yO hC
 refine PySem.W.kla_eval hdef ?_
 rw[hq]
 rcases hc with hn|⟨c',hs,hcd⟩
 ·refine PySem.W.kla_makeFunction (mg:=X.mg) (P:=Pt) (c:=c) (ps:=ps) hcl I.ok.glob hg hcode hCd eP ht hn hgP hb λc' ctv h' tk hx hge hlt hrec htb=>?_
  have hnc:H c'=none:=I.hok.fresh hge
  have hx2:∀b o,b≠Pt->s.heap.get? b=some o->(h'.push (PySem.W.kla_obj "<lambda>" q params body scope cl ((X.mg "__name__").getD .none) c' ctv)).get? b=some o:=λb o n e=>lV _ (hx b o n e)
  have np:∀b,H b=none->b≠Pt:=λb n z=>by rw[z,hT] at n;cases n
  have ncP:c'≠Pt:=np c' hnc
  refine h h'.objs.size c' _ ctv _ (upd H c' (.cod q)) _ (I.step (h':=h'.push _) (g':=s.gens) (d':=s.drawn) (t':=tk) (ch:=[]) (λ_ z=>nomatch z) (λb o _ _ _ e n=>hx2 b o (np b n) e) (λb o _ _ _ e n=>⟨o.slots,hx2 b o (np b n) e⟩)
   (λb o _ e n=>by rw[bB (pP (uU (hX e) hge))];exact n) (λb o _ e=>?_) (λb xs e=>by rw[bB (bO e hnc)];exact e) (λb o u e=>by rw[bB (bO e hnc)];exact e)
   (λb ps e=>⟨#[],by rw[bB (bO e hnc),e];simp⟩) (λm hm=>hm.extBut (b:=Pt) hx2 (np _ I.free)) (λb u e=>?_) I.bare) (aU.new hnc) (sN _ rfl) rfl ?_ aT (zK hge (Tr9 hlt))
  ·by_cases hbP:b=Pt
   ·subst hbP
    exact⟨_,lV _ htb⟩
   ·exact⟨o,hx2 b o hbP e⟩
  ·by_cases hbc:b=c'
   ·subst hbc
    rw[aT] at e
    cases e
    obtain⟨c2,oc,vs,t,z1,z2,z3,z4⟩:=hrec
    cases z1
    exact⟨oc,vs,t,lV _ z2,z3,z4⟩
   ·rw[bB hbc] at e
    by_cases hbP:b=Pt
    ·subst hbP
     rw[hT] at e
     cases e
     refine⟨_,lV _ htb,?_,.inr ⟨c',?_,aT⟩⟩
     ·rw[Array.toList_append]
      exact TriplesOk_snoc _ _ _ _ ht
     ·rw[Array.toList_append]
      exact codeAmong_snoc _ ht hn
    ·refine(I.hok b u e).yN (λd v hd z=>hx2 d v ?_ z) (λd z=>by rw[bB (bO z hnc)];exact z) λd xs _ z=>by rw[bB (bO z hnc)];exact z
     rcases hd with z|z
     ·rw[z];exact hbP
     ·intro y
      rw[y,hT] at z
      cases z
  ·rw[bB (Tj9 hlt)]
   exact I.hok.fresh (zK hge (Tr9 hlt))
 ·refine PySem.W.kla_makeFunctionHit (mg:=X.mg) (P:=Pt) (c:=c) (ps:=ps) hcl I.ok.glob hg hcode hCd eP ht hs hb λctv h' tk hk hsz=>?_
  exact h h'.objs.size c' _ ctv _ H _ (I.kept λb u e=>lV _ (hk b u e)) (aU.refl _) (sN _ rfl) rfl (I.hok.fresh hsz) hcd hsz
def PAL(X:Cx)(es:List Expr)(params:Arguments)(body:Expr)(scope:Scope)(lpos:Pos)(Pt:Addr)(q:Str)(cl:List (Str×Addr))(t:TA):Prop:=
 ∀(pos:Pos) (pins:List (Addr×Obj)) (s:Shared) (σ:St) (H:Hp) (Q:List V->Hp->Prop),Inv X pins σ H s->t σ H (λvs H1=>H1 Pt=some (.ctb lpos q)/\Q vs H1)->
  wpAny (model X.prog X.w) X.A (spliced (backTo pos (starEach es X.env))) (λus s'=>∃(vs:List V) (us0:List Value) (f c':Addr) (pm ct:Value) (o:Obj) (H1 H2:Hp),us=us0 ++ [.ref f]/\Vals vs us0/\Inv X pins σ H2 s'/\aU H1 H2/\
   s'.heap.get? f=some o/\o.data=.func (aCH q params body scope cl pm (.ref c') ct)/\H2 f=none/\H2 c'=some (.cod q)/\f∉frs X.stack/\Q vs H1) X.xe s
theorem aJn(hcode:X.env.code=.ref c)(hC:PySem.W.codeHdIn X.K c Pt=true)(hq:X.env.qual ++ "<lambda>" = q)(hdef:defaultsOf params X.env=([],[])){N:List Str}{n:Nat}{idx:List Nat}(S:eM X scope N n idx) :
  PAL X [.Lambda params body scope lpos] params body scope lpos Pt q (lY X.env scope.names []) o9:=by
 intro pos pins s σ H Q I h
 obtain⟨hT,hQ⟩:=h
 show wpAny _ _ (spliced ((false,eval (.Lambda params body scope lpos) X.env)::backTo pos (starEach [] X.env))) _ _ s
 refine Calls.spliced_cons (aJm I hcode hC hT hq hdef (wC (S.cells I)) λf c' pm ct o H' s' I' sm e1 e2 e3 e4 e5=>?_)
 refine Calls.spliced_nil ⟨[],[],f,c',pm,ct,o,H,H',rfl,.nil,I',sm,e1,e2,e3,e4,λz=>?_,hQ⟩
 obtain⟨_,o',e,_⟩:=I.stack.mem z
 exact absurd (uU (hX e) e5) (Sm9 _)
theorem aJo{e:Expr}{es:List Expr}{te:TE}{t:TA}(ha:PE X e te)(hr:PAL X es params body scope lpos Pt q cl t)(hs:starEach (e::es) X.env=(false,eval e X.env)::starEach es X.env:=by rfl) :
  PAL X (e::es) params body scope lpos Pt q cl (bW te t):=by
 intro pos pins s σ H Q I h
 rw[hs]
 show wpAny _ _ (spliced ((false,eval e X.env)::backTo pos (starEach es X.env))) _ _ s
 refine Calls.spliced_cons (dG (ha pins s σ H _ I h) λu s1 ⟨x,H1,I1,r1,q1⟩=>?_)
 refine dG (hr pos pins s1 σ H1 (λvs H2=>Q (x::vs) H2) I1 q1) λus s2 ⟨vs,us0,f,c',pm,ct,o,H2,H3,e0,r,I3,sm,e1,e2,e3,e4,e5,hQ⟩=>?_
 exact⟨x::vs,u::us0,f,c',pm,ct,o,H2,H3,by rw[e0];rfl,.cons r1 r,I3,sm,e1,e2,e3,e4,e5,hQ⟩
def aFV(Pt:Addr)(lpos:Pos)(q:Str)(sp:(Addr->Sp->Prop)->Sp)(n:Nat)(tl:TE)(idx:List Nat)(t:TA):TE:=λσ H Q=>t σ H λvs H1=>H1 Pt=some (.ctb lpos q)/\
 ∀(f c':Addr) (H2:Hp) (C:Addr->Sp->Prop),aU H1 H2->H2 c'=some (.cod q)->C f (aGy c' q n tl (idx.map λj=>(σ[j]?).join))->sp C (vs ++ [.ref f]) H2 Q E0
theorem aJp{f:Addr}{fd:FuncData}{ps psL N:List Str}{idx:List Nat}{sp:(Addr->Sp->Prop)->Sp}{k kc:Nat}{x:Str}{p:Pos}{e:Expr}{es:List Expr}{t:TA}{tl:TE}
  (F:∀base':Heap,cR X.prog X.w X.K X.mg base' lQ k f fd ps (sp (Clo X.prog X.w X.K X.mg base' (kc+1)))) (hr:eI k X.A) (hg:Gl X x) (hm:X.mg x=some (.ref f)) (hk:W.keepIn X.K (.ref f)=true) (hb:Binds X.K fd ps [])
  (hfn:∀y,X.fn y=true) (S:eM X scope N psL.length idx) (hpre:N.take psL.length=psL) (hpar:psL.all (λx=>scope.names.lookup x == some .local)=true) (hco:scope.isCoroutine=false) (hgen:scope.isGenerator=false)
  (hbind:∀(cl:List (Str×Addr)) (pm cd ct:Value) (us:List Value),us.length=psL.length->bindArgs (aCH q params body scope cl pm cd ct) ⟨us,[]⟩=pure (psL.zip us))
  (ha:PAL X (e::es) params body scope lpos Pt q (lY X.env scope.names []) t)
  (hbody:∀(base':Heap) (f' c':Addr) (cl:List (Str×Addr)) (A:Around) (outer:List Env) (s:Shared) (H:Hp),eI kc (A.deeper (tF q scope s.heap.objs.size f' (.ref c') cl))->PE (cxL X.prog X.w X.K X.mg base' N q scope f' (.ref c') cl A outer s H) body tl)
  (hdb:(x == ("__debug__" : Str))=false:=by decide) (he:starEach (e::es) X.env=(false,eval e X.env)::starEach es X.env:=by rfl) (hpl:(backTo pos (starEach es X.env)).any (·.1)=false:=by rfl) :
  PE X (.Call (.Name x p) (e::es) [] pos) (aFV Pt lpos q sp psL.length tl idx t):=by
 intro pins s σ H Q I h
 refine wpAny_Call_Name_kw (aAC I hg hm ?_ hdb)
 refine PySem.W.callWith_K (h₀:=X.base) I.ok.mod.kin hk (dG (ha pos pins s σ H _ I h) λus s1 ⟨vs,us0,fl,c',pm,ct,o,H1,H2,e0,r,I2,sm,e1,e2,e3,e4,e5,hQ⟩=>⟨I2.yO,?_⟩) he hpl
 subst e0
 generalize hcl:lY X.env scope.names []=cl at *
 have cels:=S.cells I2
 have clo:∀{y:Str} {d:Addr},cl.lookup y=some d->X.env.cells.lookup y=some d:=λ{y d} z=>oB cels (by rw[hcl];exact z)
 have lkp:∀{y:Str} {d:Addr},(y,NameKind.free)∈scope.names->X.env.cells.lookup y=some d->cl.lookup y=some d:=λ{y d} h1 h2=>by rw[<-hcl];exact sX cels h1 h2
 have inZ:∀{y:Str} {d:Addr},cl.lookup y=some d->d∈fl::cl.map (·.2):=λ{y d} z=>Qt9 _ (o8.mpr ⟨(y,d),PySem.mem_of_lookup z,rfl⟩)
 have memZ:∀d,d∈cl.map (·.2)->∃y,X.env.cells.lookup y=some d:=λd z=>by
  obtain⟨⟨y,d'⟩,hm,e⟩:=o8.mp z
  have e':d'=d:=e
  subst e'
  rw[<-hcl] at hm
  rcases xG _ _ cels hm with q|q
  ·cases q
  ·exact⟨y,q⟩
 have keepB:∀b u,X.base.get? b=some u->(aDs X.base s1.heap (fl::cl.map (·.2))).get? b=some u:=λb u z=>tG (I2.bk b u z) (.inl ⟨u,z⟩)
 have notfs:∀b∈frs X.stack,b∉fl::cl.map (·.2):=λb hb z=>by
  rcases lW.mp z with rfl|z
  ·exact e5 hb
  ·obtain⟨y,hy⟩:=memZ b z
   rcases lW.mp (I2.aAO b hb) with q|q
   ·exact I2.cne y b hy q
   ·obtain⟨_,ob,eo,_⟩:=I2.ok.vP.mem q
    exact absurd (uU (hX eo) (I2.ok.cab y b (hfn y) hy)) (Sm9 _)
 have aIo:aBU X.prog X.w X.K X.mg (aDs X.base s1.heap (fl::cl.map (·.2))) X.A X.stack s1 H2:=by
  refine⟨I2.ok.frames,I2.ok.mod.keeps keepB,λb u z=>?_,Ul9 (PySem.W.hideAll_size _ _),aFU I2.stack notfs,I2.aC5,I2.hok,I2.bare⟩
  obtain⟨z1,z2⟩:=aGz z
  refine⟨z1,?_⟩
  rcases z2 with ⟨u',z2⟩|z2
  ·exact(I2.bs b u' z2).2
  ·rcases lW.mp z2 with rfl|z2
   ·exact e3
   ·obtain⟨y,hy⟩:=memZ b z2
    exact I2.freeC y b hy
 have caps:aNJ (aDs X.base s1.heap (fl::cl.map (·.2))) scope N psL cl (idx.map λj=>(σ[j]?).join):=by
  refine⟨S.kind,hco,hgen,S.nocell,hpre,S.nd,by rw[cD];exact S.len,λy hy=>?_,λy z d h1 h2=>I2.ok.inj y z d (clo h1) (clo h2),λy hy=>?_,λy d hy=>?_,λi y v h1 h2=>?_⟩
  ·have:=Ry9.mp hpar y hy
   simpa using this
  ·have hmem:=PySem.mem_of_lookup hy
   obtain⟨d,hd⟩:=cels _ hmem rfl
   exact⟨d,lkp hmem hd⟩
  ·obtain⟨v,oc,eo,ed⟩:=I2.cell y d (clo hy)
   exact⟨oc,v,tG eo (.inr (inZ hy)),ed⟩
  ·obtain⟨j,z1,z2,z3⟩:=S.cap i y h1
   refine⟨z3,?_⟩
   rw[qB,z1] at h2
   have h2j:(σ[j]?).join=some v:=Option.some.inj h2
   have h2':σ[j]?=some (some v):=by
    cases qj:σ[j]? with
    |none=>rw[qj] at h2j;cases h2j
    |some w=>rw[qj] at h2j;rw[show w=some v from h2j]
   have hfree:=PySem.mem_of_lookup z3
   have hkind:=S.free _ hfree rfl
   obtain⟨m0,hn0,hl0⟩:=I2.loc
   obtain⟨u,ru,l⟩:=hl0 j y v z2 h2' (by rcases hkind with z|z;exact .inr (.inl z);exact .inr (.inr z))
   rcases l with ⟨z,_⟩|⟨_,d,ed,oc,eo,dd⟩
   ·rcases hkind with w|w
    ·rw[w] at z;cases z
    ·rw[w] at z;cases z
   ·exact⟨u,d,oc,ru,lkp hfree ed,tG eo (.inr (inZ (lkp hfree ed))),dd⟩
 have lamK:=aNK (P:=X.prog) (w:=X.w) (K:=X.K) (mg:=X.mg) (N:=N) (ps:=psL) (tG e1 (.inr Rc9)) e2 caps (hbody _ fl c' cl)
 have hC:Clo X.prog X.w X.K X.mg (aDs X.base s1.heap (fl::cl.map (·.2))) (kc+1) fl (aGy c' q psL.length tl (idx.map λj=>(σ[j]?).join)):=
  ⟨o,_,psL,tG e1 (.inr Rc9),e2,lamK,λs us hl=>.of_eq (hbind cl pm (.ref c') ct us hl)⟩
 have hsp:=hQ fl c' H2 _ sm e4 hC
 have r2:Vals (vs ++ [.ref fl]) (us0 ++ [.ref fl]):=r.append (.cons rfl .nil)
 have hl:(us0 ++ [Value.ref fl]).length=ps.length:=by rw[<-r2.length];exact(F _).len _ _ _ _ hsp
 have hb':=hb s1 (us0 ++ [.ref fl]) I2.yO (by rw[Si9];exact hl)
 rw[Si9] at hb'
 refine wpAny_call (codeAny_mono ((F _).run X.A X.stack s1 H2 ⟨us0 ++ [.ref fl],[]⟩ (us0 ++ [.ref fl]) (vs ++ [.ref fl]) Q E0 hr aIo hb' r2 hsp) λr s' hq=>?_)
 cases r with
 |error e=>exact False.elim hq
 |ok fl=>
  cases fl with
  |ret u=>exact I2.after hq
  |next=>exact False.elim hq
  |brk=>exact False.elim hq
  |cont=>exact False.elim hq
def aDt(C:Addr->Sp->Prop)(i:Nat)(t:TA):TE:=λσ H Q=>∃f sp,σ[i]?=some (some (.ref f))/\C f sp/\t σ H λvs H1=>sp vs H1 Q E0
theorem aA8{i k:Nat}{x:Str}{p:Pos}{e:Expr}{es:List Expr}{t:TA}(hN:X.N[i]?=some x)(hv:Vis X.env.scope x)(hr:eI k X.A)(ha:PA X (e::es) t)(hd:(x == ("__debug__" : Str))=false:=by decide)(hcd:(x == ("__classdict__" : Str))=false:=by decide)
  (he:starEach (e::es) X.env=(false,eval e X.env)::starEach es X.env:=by rfl) (hpl:(backTo pos (starEach es X.env)).any (·.1)=false:=by rfl) :
  PE X (.Call (.Name x p) (e::es) [] pos) (aDt (Clo X.prog X.w X.K X.mg X.base k) i t):=by
 intro pins s σ H Q I h
 obtain⟨f,sp,ei,hC,ht⟩:=h
 obtain⟨o,fd,ps,ef,ed,F,hb⟩:=hC.ex
 refine wpAny_Call_Name_kw (dG (aH2 hN hv hd hcd pins s σ H (λv H'=>v=.ref f/\H'=H) I ⟨_,ei,rfl,rfl⟩) λu s0 ⟨v,H0,I0,rv,hvf,hH0⟩=>?_)
 subst hvf hH0
 obtain rfl:u=Value.ref f:=rv
 have hin:∀{pins' σ' H' s'},Inv X pins' σ' H' s'->W.Frag.In [(f,o)] s'.heap:=λ{pins' σ' H' s'} J a u z=>by
  rw[Rr9] at z
  split at z
  ·rename_i hb
   cases z
   rw[eq_of_beq hb]
   exact J.bk _ _ ef
  ·cases z
 have hkp:W.keepIn [(f,o)] (.ref f)=true:=by
  obtain⟨oc,od,odt,osl⟩:=o
  have:odt=.func fd:=ed
  subst this
  have z:List.lookup f [(f,({ cls:=oc,dict:=od,data:=.func fd,slots:=osl }:Obj))]=some { cls:=oc,dict:=od,data:=.func fd,slots:=osl }:=by rw[Rr9,beq_self_eq_true]
  unfold W.keepIn
  dsimp only
  rw[z]
 refine PySem.W.callWith_K (h₀:=s0.heap) (hin I0) hkp (dG (ha pos pins s0 σ H0 _ I0 ht) λus s1 ⟨vs,H1,I1,r,q⟩=>⟨hin I1,?_⟩) he hpl
 have hl:us.length=ps.length:=by rw[<-r.length];exact F.len _ _ _ _ q
 refine wpAny_call (codeAny_mono (F.run X.A X.stack s1 H1 ⟨us,[]⟩ us vs Q E0 hr I1.aIo (hb s1 us hl) r q) λr s' hq=>?_)
 cases r with
 |error e=>exact False.elim hq
 |ok fl=>
  cases fl with
  |ret u=>exact I1.after hq
  |next=>exact False.elim hq
  |brk=>exact False.elim hq
  |cont=>exact False.elim hq
end
end L2
namespace L2
open PySem PySem.Spec PyProof.Rows
structure aO4(K:W.Frag)(fd:FuncData)(c Pt:Addr):Prop where
 code:fd.code=.ref c
 hd:PySem.W.codeHdIn K c Pt=true
theorem nY.okC{P:Program}{w:World}{K:W.Frag}{mg:Str->Option Value}{base:Heap}{x qual:Str}{st:Stmt}{f c Pt:Addr}{fd:FuncData}{N ps:List Str}{k:Nat}{sp:Sp}(F:nY K x qual st f fd)(hc:aO4 K fd c Pt)(S:bM N ps (aL st))(len:∀vs H Q E,sp vs H Q E->vs.length=ps.length)
  (hbody:∀(A:Around) (outer:List Env) (s:Shared) (H:Hp) (vs:List V) (Q:VK) (E:XK),eI k (A.deeper (envOfC qual (aL st) s.heap.objs.size f (.ref c)))->sp vs H Q E->
   ∃t,PSs (aFt lQ P w K mg base N qual (aL st) f (.ref c) A outer s H E).nox (bL st) t/\t { nx:=λ_ H'=>Q .non H',rt:=Q } (start N vs) H):cR P w K mg base lQ (k+1) f fd ps sp:=by
 obtain⟨oc,od,kV,doc,pm,an,cdv,ct,osl,rfl,lk,hcd⟩:=F.ex
 obtain rfl:cdv=.ref c:=hc.code
 refine aLU lk hcd S len λA outer s H vs Q E hr hsp=>?_
 obtain⟨t,h,q⟩:=hbody A outer s H vs Q E hr hsp
 exact⟨t,h.nox,q⟩
theorem aCI{β:Type}{b:Addr}{p:β}:∀{l:List (Addr×β)},l.lookup b=some p->(b,p)∈l
 |[],h=>by cases h
 |(d,x)::r,h=>by
  rw[Rr9] at h
  cases hb:b == d with
  |true=>rw[hb] at h;cases h;rw[eq_of_beq hb];exact .head _
  |false=>rw[hb] at h;exact .tail _ (aCI h)
theorem aHB{P:Program}{w:World}{K:W.Frag}{mg mb:Str->Option Value}{k:Nat}{fa a:Addr}{fd:FuncData}{x:Str}{sp:Sp}{s₁:Shared}{vs:List Value}{ns:List Int}{tabs:List (Addr×Pos×Str)}
  (KX:K.In s₁.heap) (hns:s₁.heap.Ns mainGlobals mg) (hb:s₁.heap.Ns builtinsNs mb) (hbb:∀x:Str,x≠"__name__"->mb x=bootBuiltins x) (hlim:s₁.heap.NoLimit) (hbm:∃bm o,mg "__builtins__" = some (.ref bm)/\bm≠builtinsNs/\s₁.heap.get? bm=some o/\o.cls=.type "module"/\o.dict=some builtinsNs/\o.data=.plain) (hg:s₁.gens = #[])
  (ha:s₁.heap.get? a=some { cls:=.type "list",data:=.seq vs.toArray }) (hi:IntsAre vs ns) (hl:ns.length<=sizeLine) (hr:eI k callerA)
  (hT:∀t∈tabs,s₁.heap.get? t.1=some { cls:=.none,data:=.fields #[] }/\K.lookup t.1=none/\∃c,PySem.W.codeHdIn K c t.1=true) (hnd:(tabs.map (·.1)).Nodup)
  (F:∀base:Heap,K.In base->base.Ns mainGlobals mg->cR P w K mg base lQ k fa fd [x] sp) (hbind:∀(s:Shared) (u:Value),BindsTo s fd ⟨[u],[]⟩ [(x,u)])
  (hsp:∀H:Hp,(∀t∈tabs,H t.1=some (.ctb t.2.1 t.2.2))->bU K H a (ns.map V.int)->sp [.ref a] H (λv H'=>v=.bl true/\aU H H') λ_ _ _=>False) :
  codeAny (model P w) callerA (.call (.ref fa) ⟨[.ref a],[]⟩) (λr s'=>r=.ok (.ret (.bool true))/\OldK s₁.heap s'.heap/\s'.os=s₁.os/\AllBare s'.gens) s₁:=by
 have rv:=yU hi
 have lenV:=hi.length
 have core:∀H:Hp,bU K H a (ns.map V.int)->sL P w H s₁.heap->(∀t∈tabs,H t.1=some (.ctb t.2.1 t.2.2))->(∀b u,H b=some u->(b=a/\K.lookup a=none/\∃o xs,u=.frz o (.lst xs))\/∃t∈tabs,b=t.1/\u=.ctb t.2.1 t.2.2)->
   codeAny (model P w) callerA (.call (.ref fa) ⟨[.ref a],[]⟩) (λr s'=>r=.ok (.ret (.bool true))/\OldK s₁.heap s'.heap/\s'.os=s₁.os/\AllBare s'.gens) s₁:=by
  intro H hS hok hTH hA
  have base_of:∀{b:Addr} {o:Obj},s₁.heap.get? b=some o->H b=none->(vO s₁.heap H).get? b=some o:=λe n=>aEf e n
  have noA:∀{b:Addr} {o:Obj} {es:Array DictEntry} {ep:Nat},s₁.heap.get? b=some o->o.data=.dict es ep->H b=none:=λ{b o es ep} e d=>by
   cases q:H b with
   |none=>rfl
   |some u=>
    rcases hA b u q with ⟨e',_⟩|⟨t,ht,e',_⟩
    ·subst e'
     rw[ha] at e;cases e
     have d':Data.seq vs.toArray _=Data.dict es ep:=d
     cases d'
    ·rw[e',(hT t ht).1] at e;cases e
     have d':Data.fields _=Data.dict es ep:=d
     cases d'
  have nsK:∀{b:Addr} {m:Str->Option Value},s₁.heap.Ns b m->(vO s₁.heap H).Ns b m:=λ{b m} ⟨o,es,ep,e,d,r⟩=>⟨o,es,ep,base_of e (noA e d),d,r⟩
  have hKb:K.In (vO s₁.heap H):=λb o e=>base_of (KX b o e) (by
   cases q:H b with
   |none=>rfl
   |some u=>
    rcases hA b u q with ⟨e',hn,_⟩|⟨t,ht,e',_⟩
    ·rw[e',hn] at e;cases e
    ·rw[e',(hT t ht).2.1] at e;cases e)
  have hbm':∃bm o,mg "__builtins__" = some (.ref bm)/\bm≠builtinsNs/\(vO s₁.heap H).get? bm=some o/\o.cls=.type "module"/\o.dict=some builtinsNs/\o.data=.plain:=by
   obtain⟨bm,ob,b1,b2,b3,b4,b5,b6⟩:=hbm
   refine⟨bm,ob,b1,b2,base_of b3 ?_,b4,b5,b6⟩
   cases q:H bm with
   |none=>rfl
   |some u=>
    rcases hA bm u q with ⟨e',_⟩|⟨t,ht,e',_⟩
    ·rw[e',ha] at b3
     cases b3
     exact absurd (show Value.type "list" = Value.type "module" from b4) (by decide)
    ·rw[e',(hT t ht).1] at b3
     cases b3
     exact absurd (show Value.none=Value.type "module" from b4) (by decide)
  have hM:Mod K mg (vO s₁.heap H):=⟨hKb,nsK hns,⟨mb,nsK hb,hbb⟩,(let ⟨mc,h1,h2⟩:=hlim;⟨mc,nsK h1,h2⟩),hbm'⟩
  have e0:aBU P w K mg (vO s₁.heap H) callerA [] s₁ H:=⟨rfl,hM,λb o e=>aGi e,Ul9 (aCt _ _),trivial,λb hb=>absurd (show b∈([]:List Addr) from hb) (by simp),hok,.of_eq hg⟩
  refine codeAny_mono ((F _ hKb (nsK hns)).run callerA [] s₁ H ⟨[.ref a],[]⟩ [.ref a] [.ref a] _ _ hr e0 (hbind s₁ (.ref a)) (.cons rfl .nil) (hsp H hTH hS)) λr s' h=>?_
  cases r with
  |error e=>exact False.elim h
  |ok fl=>
   cases fl with
   |next=>exact False.elim h
   |brk=>exact False.elim h
   |cont=>exact False.elim h
   |ret u=>
    obtain⟨v,H',os,bare,un,hok',r',q,sm⟩:=h
    have q':v=.bl true:=q
    subst q'
    obtain rfl:u=Value.bool true:=r'
    have key:∀b o,s₁.heap.get? b=some o->s'.heap.get? b=some o\/∃c ps,PySem.W.codeHdIn K c b=true/\o={ cls:=.none,data:=.fields #[] }/\s'.heap.get? b=some { cls:=.none,data:=.fields ps }:=λb o e=>by
     cases q:H b with
     |none=>exact .inl (un.keep b o e q (by intro z;exact absurd (show b∈([]:List Addr) from z) (by simp)) (by simp))
     |some u=>
      rcases hA b u q with ⟨_,_,ob,xs,rfl⟩|⟨t,ht,e',rfl⟩
      ·have z2:=un.frzs b ob _ q
       obtain⟨e1,_⟩:=hok b _ q
       obtain⟨e2,_⟩:=hok' b _ z2
       rw[e] at e1;cases e1
       exact .inl e2
      ·obtain⟨ps,z,_⟩:=hok' b _ (sm b _ q)
       obtain⟨h1,_,c,hc⟩:=hT t ht
       rw[<-e'] at h1 hc
       rw[e] at h1
       exact .inr ⟨c,ps,hc,Option.some.inj h1,z⟩
    refine⟨rfl,⟨λb o e=>?_,λb o e=>?_⟩,os,bare⟩
    ·rcases key b o e with z|⟨c,ps,hc,rfl,z⟩
     ·exact .inl z
     ·refine .inr (.inl ⟨?_,rfl,#[],ps,rfl,?_⟩)
      ·obtain⟨oc,vs,_,_,_,_,_,_,_,f1,f2,f3,f4,_⟩:=PySem.W.codeHd_of_K KX hc
       exact⟨c,oc,vs,f1,f2,f3,f4⟩
      ·rw[z];simp
    ·rcases key b o e with z|⟨c,ps,hc,rfl,z⟩
     ·exact⟨_,z⟩
     ·exact⟨_,z⟩
 have lkT:∀t∈tabs,tabs.lookup t.1=some t.2:=by
  clear hT hsp core
  induction tabs with
  |nil=>intro t h;cases h
  |cons q r ih=>
   intro t ht
   rw[Rr9]
   rcases lW.mp ht with rfl|ht
   ·rw[beq_self_eq_true]
   ·have ne:t.1≠q.1:=λz=>(Rs9.mp hnd).1 (o8.mpr ⟨t,ht,z⟩)
    rw[beq_eq_false_iff_ne.mpr ne]
    exact ih (Rs9.mp hnd).2 t ht
 have memT:∀{b:Addr} {p:Pos×Str},tabs.lookup b=some p->(b,p)∈tabs:=λ{b p} h=>aCI h
 have naT:∀t∈tabs,t.1≠a:=λt ht z=>by
  have:=(hT t ht).1
  rw[z,ha] at this
  cases this
 have okT:∀(H:Hp) (t:Addr×Pos×Str),t∈tabs->cA P w H s₁.heap t.1 (.ctb t.2.1 t.2.2):=λH t ht=>⟨#[],(hT t ht).1,trivial,.inl rfl⟩
 cases hk:K.lookup a with
 |some o=>
  have e:=KX a o hk
  rw[ha] at e
  cases e
  refine core (λb=>(tabs.lookup b).map λp=>.ctb p.1 p.2) (.inr ⟨_,vs.toArray,_,hk,rfl,rfl,rfl,by rw[jV,lenV];exact hl,by simpa using rv⟩) (λb u z=>?_) (λt ht=>?_) λb u z=>?_
  ·obtain⟨p,hp,rfl⟩:=Qs9.mp z
   exact okT _ _ (memT hp)
  ·show(tabs.lookup t.1).map _=_
   rw[lkT t ht];rfl
  ·obtain⟨p,hp,rfl⟩:=Qs9.mp z
   exact .inr ⟨_,memT hp,rfl,rfl⟩
 |none=>
  refine core (λb=>if b=a then some (.frz { cls:=.type "list",data:=.seq vs.toArray } (.lst (ns.map V.int))) else (tabs.lookup b).map λp=>.ctb p.1 p.2) (.inl (.inr ⟨{ cls:=.type "list",data:=.seq vs.toArray },if_pos rfl⟩)) (λb u z=>?_) (λt ht=>?_) λb u z=>?_
  ·by_cases hb:b=a
   ·have z':=(if_pos hb).symm.trans z
    cases z'
    subst hb
    exact⟨ha,by rw[cD];exact hl,vs,_,rv,ha⟩
   ·have z':=(if_neg hb).symm.trans z
    obtain⟨p,hp,rfl⟩:=Qs9.mp z'
    exact okT _ _ (memT hp)
  ·show(if t.1=a then _ else (tabs.lookup t.1).map _)=_
   rw[if_neg (naT t ht),lkT t ht];rfl
  ·by_cases hb:b=a
   ·have z':=(if_pos hb).symm.trans z
    cases z'
    exact .inl ⟨hb,hk,_,_,rfl⟩
   ·have z':=(if_neg hb).symm.trans z
    obtain⟨p,hp,rfl⟩:=Qs9.mp z'
    exact .inr ⟨_,memT hp,rfl,rfl⟩
theorem aJq{l:PySem.W.OpenLaw}{n k:Nat}{q:Program}{loose:List Str}{XP:(Str->Option Value)->Heap->Prop}{YP:World->Heap->Prop}{d:DefRec}{K:Params->W.Frag}{sp:World->Sp}{x:Str}{tabs:List (Addr×Pos×Str)}
  (hn:l.most=some n) (hn2:n<=sizeLine) (hdf:d.params.defaults=[]) (hr:eI k callerA) (hnd:(tabs.map (·.1)).Nodup)
  (hY:∀(w:World) (h:Heap),YP w h->(K w.params).In h/\∀t∈tabs,h.get? t.1=some { cls:=.none,data:=.fields #[] })
  (hK:∀(w:World),∀t∈tabs,(K w.params).lookup t.1=none)
  (F:∀(w:World) (mg:Str->Option Value) (fa:Addr) (h:Heap),(K w.params).In h->h.Ns mainGlobals mg->mg d.name=some (.ref fa)->(∀t∈tabs,∃c,PySem.W.codeHdIn (K w.params) c t.1=true)/\
   ∃fd:FuncData,(∀(s:Shared) (u:Value),BindsTo s fd ⟨[u],[]⟩ [(x,u)])/\
    ∀base:Heap,(K w.params).In base->base.Ns mainGlobals mg->cR l.prog w (K w.params) mg base lQ k fa fd [x] (sp w))
  (hsp:∀(w:World) (H:Hp) (a:Addr) (ns:List Int),ns.length<=n->(∀t∈tabs,H t.1=some (.ctb t.2.1 t.2.2))->bU (K w.params) H a (ns.map V.int)->sp w [.ref a] H (λv H'=>v=.bl true/\aU H H') λ_ _ _=>False) :
  PySem.W.WalkO q loose XP YP l.row.toRowW d [] (λf vs=>PySem.call f vs):=by
 refine Att.aEr hn hdf λw s₀ s₁ mg mb fa o pm cd doc a vs ns G Y ho hd hcd hmg hobj hints hlen hg=>?_
 obtain⟨KX,hT⟩:=hY w _ Y
 obtain⟨hcd',fd,hb,hF⟩:=F w mg fa _ KX G.T.g hmg
 exact aHB KX G.T.g G.T.b G.T.builtins G.T.nolimit G.T.bmain hg hobj hints (zK hlen hn2) hr (λt ht=>⟨hT t ht,hK w t ht,hcd' t ht⟩) hnd hF hb (λH hO hS=>hsp w H a ns hlen hO hS)
section
variable{X:Cx}{σ:St}{H:Hp}{Q:VK}
theorem aJr{Pt:Addr}{lpos:Pos}{q:Str}{sp:(Addr->Sp->Prop)->Sp}{n:Nat}{tl:TE}{idx:List Nat}{t:TA}(h:t σ H λvs H1=>H1 Pt=some (.ctb lpos q)/\
  ∀(f c':Addr) (H2:Hp) (C:Addr->Sp->Prop),aU H1 H2->H2 c'=some (.cod q)->C f (aGy c' q n tl (idx.map λj=>(σ[j]?).join))->sp C (vs ++ [.ref f]) H2 Q E0):aFV Pt lpos q sp n tl idx t σ H Q:=h
theorem aJs{C:Addr->Sp->Prop}{i:Nat}{t:TA}{f:Addr}{sp:Sp}(e:σ[i]?=some (some (.ref f)))(hC:C f sp)(h:t σ H λvs H1=>sp vs H1 Q E0):aDt C i t σ H Q:=⟨f,sp,e,hC,h⟩
end
end L2
namespace L2.Z
open PySem PySem.Spec PyProof.Rows L2
section
variable{X:Cx}{c Pt:Addr}{q:Str}{params:Arguments}{body:Expr}{scope:Scope}{pos lpos:Pos}{cl:List (Str×Addr)}
structure QAL(X:Cx)(es:List Expr)(params:Arguments)(body:Expr)(scope:Scope)(lpos:Pos)(Pt:Addr)(q:Str)(cl:List (Str×Addr))(t:TA):Prop where
 h:PAL X es params body scope lpos Pt q cl t
theorem aFW(hcode:X.env.code=.ref c)(hC:PySem.W.codeHdIn X.K c Pt=true)(hq:X.env.qual ++ "<lambda>" = q)(hdef:defaultsOf params X.env=([],[])){N:List Str}{n:Nat}{idx:List Nat}(S:eM X scope N n idx) :
  QAL X [.Lambda params body scope lpos] params body scope lpos Pt q (lY X.env scope.names []) o9:=⟨aJn hcode hC hq hdef S⟩
theorem qS{e:Expr}{es:List Expr}{te:TE}{t:TA}(ha:QE X e te)(hr:QAL X es params body scope lpos Pt q cl t)(hn:noStar e=true:=by rfl):QAL X (e::es) params body scope lpos Pt q cl (bW te t):=
 ⟨aJo ha.h hr.h (bZ hn)⟩
theorem aEL{f:Addr}{fd:FuncData}{ps psL N:List Str}{idx:List Nat}{sp:(Addr->Sp->Prop)->Sp}{k kc:Nat}{x:Str}{p:Pos}{e:Expr}{es:List Expr}{t:TA}{tl:TE}
  (F:∀base':Heap,cR X.prog X.w X.K X.mg base' lQ k f fd ps (sp (Clo X.prog X.w X.K X.mg base' (kc+1)))) (hr:eI k X.A) (hg:Gl X x) (hm:X.mg x=some (.ref f)) (hk:W.keepIn X.K (.ref f)=true) (hb:Binds X.K fd ps [])
  (hfn:∀y,X.fn y=true) (S:eM X scope N psL.length idx) (hpre:N.take psL.length=psL) (hpar:psL.all (λx=>scope.names.lookup x == some .local)=true) (hco:scope.isCoroutine=false) (hgen:scope.isGenerator=false)
  (hbind:∀(cl:List (Str×Addr)) (pm cd ct:Value) (us:List Value),us.length=psL.length->bindArgs (aCH q params body scope cl pm cd ct) ⟨us,[]⟩=pure (psL.zip us))
  (ha:QAL X (e::es) params body scope lpos Pt q (lY X.env scope.names []) t)
  (hbody:∀(base':Heap) (f' c':Addr) (cl:List (Str×Addr)) (A:Around) (outer:List Env) (s:Shared) (H:Hp),eI kc (A.deeper (tF q scope s.heap.objs.size f' (.ref c') cl))->(A.deeper (tF q scope s.heap.objs.size f' (.ref c') cl)).units+9 < cLine->QE (cxL X.prog X.w X.K X.mg base' N q scope f' (.ref c') cl A outer s H) body tl)
  (hn:(e::es).all noStar=true:=by rfl) (hdb:(x == ("__debug__" : Str))=false:=by decide) :
  QE X (.Call (.Name x p) (e::es) [] pos) (aFV Pt lpos q sp psL.length tl idx t):=
 ⟨L2.aJp F hr hg hm hk hb hfn S hpre hpar hco hgen hbind ha.h (λbase' f' c' cl A outer s H hr'=>(hbody base' f' c' cl A outer s H hr' (qJ hr')).h) hdb (bZ (hV hn).1) (jB (hV hn).2)⟩
theorem aA8{i k:Nat}{x:Str}{p:Pos}{e:Expr}{es:List Expr}{t:TA}(hr:eI k X.A)(ha:QA X (e::es) t)(hN:X.N[i]?=some x:=by rfl)(hv:Vis X.env.scope x:=by first|exact Or.inl rfl|exact Or.inr (Or.inl rfl)|exact Or.inr (Or.inr rfl))
  (hn:(e::es).all noStar=true:=by rfl) (hd:(x == ("__debug__" : Str))=false:=by decide) (hcd:(x == ("__classdict__" : Str))=false:=by decide) :
  QE X (.Call (.Name x p) (e::es) [] pos) (aDt (Clo X.prog X.w X.K X.mg X.base k) i t):=⟨L2.aA8 hN hv hr ha.h hd hcd (bZ (hV hn).1) (jB (hV hn).2)⟩
end
end L2.Z
namespace L2
open PySem PySem.Spec PyProof.Rows
section
variable{X:Cx}
def aJt(K:W.Frag):List V->Hp->VK->Prop:=λvs H Q=>∃(p:Addr) (ns:List Int),vs=[.ref p]/\bU K H p (ns.map V.int)/\ns≠[]/\∀m,m∈ns->(∀x∈ns,m<=x)->Q (.int m) H
theorem aHC(hc:X.calm=true):eJ X (.builtin "min") (aJt X.K):=by
 intro pins s σ H vs us Q I r h
 obtain⟨p,ns,rfl,hq,hne,q⟩:=h
 obtain⟨u,rfl,rx⟩:=vals1 r
 cases rx
 obtain⟨its,r',pl,hz⟩:=I.list hq
 have hi:=intsAre_of r'
 obtain⟨xs,hx⟩:=hi.allInts.items
 have e1:ns=xs.toList.map (·.1):=by rw[<-nums_intItems,<-hx];exact(show numsOf its.toArray.toList=ns from hi.numsOf).symm
 have hsz:0 < xs.size:=by
  have z:=Tc9.mpr hne
  rw[e1,cD,Re9] at z
  exact z
 refine min_intList (I.ok.hd hc) (hx▸pl.isList:s.heap.IsList p (intItems xs)) hsz λv h' tk hv hk=>?_
 obtain⟨t,rfl⟩:=intItems_at hv
 obtain⟨h1,h2⟩:=argBest_lt (numAt xs) (xs.size - 1)
 refine⟨.int _,H,I.kept (t':=tk) hk,⟨t,rfl⟩,q _ ?_ λx hx'=>?_⟩
 ·rw[e1,numAt_eq];exact getD_mem (by rw[cD,Re9];omega)
 ·rw[e1] at hx'
  obtain⟨j,hj,rfl⟩:=mem_getD hx'
  rw[cD,Re9] at hj
  rw[<-numAt_eq];exact h2 j (by omega)
theorem aLs{K:W.Frag}{H:Hp}{Q:VK}{p:Addr}{ns:List Int}(h1:bU K H p (ns.map V.int))(hne:ns≠[])(h:∀m,m∈ns->(∀x∈ns,m<=x)->Q (.int m) H):aJt K [.ref p] H Q:=⟨p,ns,rfl,h1,hne,h⟩
def aA9:TE:=λ_ H Q=>(∀p,H p=none->Q (.ref p) (upd H p (.dK [])))\/∀p,H p=none->Q (.ref p) (upd H p (.dT []))
theorem aJu{pos:Pos}:PE X (.Dict [] [] pos) aA9:=by
 intro pins s σ H Q I h
 rcases h with h|h
 ·exact aIE pins s σ H Q I h
 ·exact aIF pins s σ H Q I h
theorem aHD{σ:St}{H:Hp}{Q:VK}(h:∀p,H p=none->Q (.ref p) (upd H p (.dK []))):aA9 σ H Q:=.inl h
theorem aHE{σ:St}{H:Hp}{Q:VK}(h:∀p,H p=none->Q (.ref p) (upd H p (.dT []))):aA9 σ H Q:=.inr h
def Itw(hi:Int)(n:Nat):It:=⟨λi _=>i < n,λi H x H'=>H'=H/\x=.int (hi - i),λi _=>n<=i⟩
theorem aHF{P:Program}{w:World}{K:W.Frag}{tg:Expr}(it:Addr)(hi:Int)(n:Nat):Turn P w K tg (Itw hi n) [it] it (λi h=>IsRangeIter h it (hi+(i:Nat) * -1) ((n:Int) - (i:Nat)) (-1)) where
 mem:=by simp
 obj:=λi h st b hb=>by
  have e:b=it:=by simpa using hb
  rw[e]
  exact⟨_,st,λv z=>by
   have z':Data.fields _=Data.cell v:=z
   cases z'⟩
 keep:=λi h h' st k=>k it (by simp) _ st
 item:=by
  intro X hP hw hK hc i pins s σ H E I hf st hg
  subst hP hw hK
  obtain⟨f0,f1,f2,f3,f4,f5⟩:=hf it (by simp)
  refine(Walks.range (prog:=X.prog) (w:=X.w) (I.ok.hd hc) it hi (-1) n).item i s _ _ hg st λv h' tk hv st' kk=>?_
  obtain⟨t,rfl⟩:=hv
  refine⟨_,rfl,aCw (s:={ s with heap:=h',toks:=tk }) (n:="range_iterator") st' rfl rfl (by decide) ⟨.int (hi - i),H,I.turned (λb o hb e=>kk b o (by simpa using hb) e) f0 f1 f3 f4 f5,⟨t,?_⟩,⟨rfl,rfl⟩,st',λb hb=>(hf b hb).1⟩⟩
  congr 1
  omega
 done:=by
  intro X hP hw hK hc i pins s σ H E I hf st hg
  subst hP hw hK
  obtain⟨f0,f1,f2,f3,f4,f5⟩:=hf it (by simp)
  exact wpAny_pyNext_range_end (I.ok.hd hc) st (by have:n<=i:=hg;omega) λh' eb=>⟨rfl,I.turned (t':=s.toks) (λb o hb e=>eb b o hb e) f0 f1 f3 f4 f5⟩
 self:=λ_ _ _ _ _ st h=>wpAny_pyIter_rangeiter st h
theorem aCJ(a b:Int):Builtin.Range.rangeSize a b (-1)=(((a - b).toNat:Nat):Int):=by
 unfold Builtin.Range.rangeSize
 rw[if_neg (by decide)]
 split
 ·rw[show -(-1:Int)=1 from rfl,Int.ediv_one];omega
 ·omega
theorem small_down{a b:Int}(h1:-(2 ^ 62)<=a)(h2:a < 2 ^ 62)(h3:-(2 ^ 62)<=b)(h4:b < 2 ^ 62):Builtin.Range.small a b (-1)=true:=by
 unfold Builtin.Range.small
 simp only[aCJ,Builtin.Range.rangeFitsLong,Sj9,Bool.or_eq_true,decide_eq_true_eq,beq_iff_eq]
 rw[if_neg (by decide)]
 simp only[Sj9,decide_eq_true_eq]
 omega
def aJv(ta:TA):TI:=λσ H R=>ta σ H λvs H1=>∃i j:Int,vs=[.int i,.int j,.int (-1)]/\(-(2 ^ 62)<=i/\i < 2 ^ 62/\-(2 ^ 62)<=j/\j < 2 ^ 62)/\R (Itw i (i - j).toNat) H1
theorem aHG{a b c:Expr}{ta:TA}{p pos:Pos}{tg:Expr}(hg:Gl X "range")(hm:X.mg "range" = none)(ha:PA X [a,b,c] ta)(hn:[a,b,c].all noStar=true:=by rfl):PI X tg (.Call (.Name "range" p) [a,b,c] [] pos) (aJv ta):=by
 intro pins s σ H R I h
 refine Call_ (sP I hg hm boot_range (PyProof.Rows.callWith_type1 (dG (ha pos pins s σ H _ I h) λus s1 ⟨vs,H1,I1,r1,i,j,e,⟨q1,q2,q3,q4⟩,q⟩=>?_) (bZ (hV hn).1) (jB (hV hn).2)))
 subst e
 obtain⟨u1,us1,rfl,⟨t1,rfl⟩,r2⟩ : ∃u us',us=u::us'/\RelV (.int i) u/\Vals [.int j,.int (-1)] us':=by cases r1 with|cons h t=>exact⟨_,_,rfl,h,t⟩
 obtain⟨u2,u3,rfl,⟨t2,rfl⟩,⟨t3,rfl⟩⟩:=vals2 r2
 refine call_range_3 (by decide) ?_ (.inl (PyProof.noPylong_small (by decide)))
 refine wpAny_pyIter_range (IsRange.new ..) (small_down q1 q2 q3 q4) ?_
 have I2:Inv X pins σ H1 { s1 with heap:=s1.heap.push { cls:=.type "range",data:=.fields #[.int i t1,.int j t2,.int (-1) t3] } }:=I1.kept (t':=s1.toks) λb o e=>lV _ e
 refine⟨_,[_],_,_,H1,rfl,I2.kept (t':=s1.toks) λb o e=>lV _ e,aHF _ i (i - j).toNat,?_,λb hb=>?_,q⟩
 ·show IsRangeIter _ _ (i+((0:Nat):Int) * -1) ((((i - j).toNat:Nat):Int) - ((0:Nat):Int)) (-1)
  rw[show i+((0:Nat):Int) * -1=i by omega,show(((i - j).toNat:Nat):Int) - ((0:Nat):Int)=Builtin.Range.rangeSize i j (-1) by rw[aCJ];omega]
  exact sN _ rfl
 ·have e:b=(s1.heap.push { cls:=.type "range",data:=.fields #[.int i t1,.int j t2,.int (-1) t3] }).objs.size:=by simpa using hb
  subst e
  exact I2.aBT (dQ _) (I2.hok.fresh (dQ _))
theorem aJw{ta:TA}{σ:St}{H:Hp}{R:It->Hp->Prop}(h:ta σ H λvs H1=>∃i j:Int,vs=[.int i,.int j,.int (-1)]/\(-(2 ^ 62)<=i/\i < 2 ^ 62/\-(2 ^ 62)<=j/\j < 2 ^ 62)/\R (Itw i (i - j).toNat) H1):aJv ta σ H R:=h
theorem aLt{hi:Int}{n:Nat}{σ:St}{H:Hp}{nx:St->Hp->Prop}{rt:VK}{g:TG}{tb:TS}(Pv:Nat->St->Hp->Prop)(h0:Pv 0 σ H)
  (hs:∀i σ H,i < n->Pv i σ H->g (.int (hi - i)) σ H λσ2 H2=>tb ⟨Pv (i+1),rt,nx,Pv (i+1)⟩ σ2 H2) (hd:∀σ H,Pv n σ H->nx σ H) :
  ∃W:Nat->Nat->St->Hp->Prop,(∃m,W 0 m σ H)/\∀i m σ H,W i m σ H->
   ((Itw hi n).stop i H/\nx σ H)\/((Itw hi n).go i H/\∃N:St->Hp->Prop,(∀σ' H',N σ' H'->∃m',m' < m/\W (i+1) m' σ' H')/\∀x H',(Itw hi n).yld i H x H'->g x σ H' λσ2 H2=>tb ⟨N,rt,nx,N⟩ σ2 H2):=by
 refine⟨λi m σ H=>m=n - i/\i<=n/\Pv i σ H,⟨n,by omega,zL _,h0⟩,?_⟩
 rintro i m σ H ⟨rfl,hi',p⟩
 by_cases h:i < n
 ·refine .inr ⟨h,Pv (i+1),λσ' H' p'=>⟨n - (i+1),by omega,rfl,h,p'⟩,?_⟩
  rintro x H' ⟨rfl,rfl⟩
  exact hs i σ H' h p
 ·have e:i=n:=by omega
  subst e
  exact .inl ⟨dQ _,hd σ H p⟩
end
end L2
namespace L2.Z
open PySem PySem.Spec PyProof.Rows L2
section
variable{X:Cx}{tg:Expr}
theorem zT{pos:Pos}:QE X (.Dict [] [] pos) aA9:=⟨L2.aJu⟩
theorem aDu{a b c:Expr}{ta:TA}{p pos:Pos}(hg:Gl X "range")(hm:X.mg "range" = none)(ha:QA X [a,b,c] ta)(hn:[a,b,c].all noStar=true:=by rfl):QI X tg (.Call (.Name "range" p) [a,b,c] [] pos) (aJv ta):=⟨L2.aHG hg hm ha.h hn⟩
theorem aEM{P:Program}{w:World}{K:W.Frag}{mg:Str->Option Value}{base:Heap}{i k:Nat}{x:Str}{p pos:Pos}{e:Expr}{es:List Expr}{t:TA}(hr:eI k X.A)(ha:QA X (e::es) t)(hP:X.prog=P:=by rfl)(hw:X.w=w:=by rfl)(hK:X.K=K:=by rfl)(hg:X.mg=mg:=by rfl)(hB:X.base=base:=by rfl)
  (hN:X.N[i]?=some x:=by rfl) (hv:Vis X.env.scope x:=by first|exact Or.inl rfl|exact Or.inr (Or.inl rfl)|exact Or.inr (Or.inr rfl))
  (hn:(e::es).all noStar=true:=by rfl) (hd:(x == ("__debug__" : Str))=false:=by decide) (hcd:(x == ("__classdict__" : Str))=false:=by decide) :
  QE X (.Call (.Name x p) (e::es) [] pos) (aDt (Clo P w K mg base k) i t):=by
 subst hP hw hK hg hB
 exact aA8 hr ha hN hv hn hd hcd
end
end L2.Z
namespace L2
open PySem
section
variable{σ:St}{H:Hp}{Q:VK}
end
end L2
namespace L2
open PySem PySem.Spec PySem.W PyProof.Rows
theorem Inv.more{X:Cx}{pins:List (Addr×Obj)}{σ:St}{H H':Hp}{s:Shared}{h':Heap}{t':Nat}(I:Inv X pins σ H s)(k:∀b u,s.heap.get? b=some u->h'.get? b=some u)(hs:aU H H')
  (hn:∀b u,H' b=some u->H b=some u\/(s.heap.get? b=none/\cA X.prog X.w H' h' b u)):Inv X pins σ H' { s with heap:=h',toks:=t' }:=by
 refine I.un ⟨λb u q _ _ _=>k b u q,λb u q _ _ _=>⟨u.slots,k b u q⟩,λb u q n _=>?_,λb u q _=>⟨u,k b u q⟩,λb xs q=>hs _ _ q,λb u xs q=>hs _ _ q,λb ps q=>⟨#[],by rw[hs _ _ q];simp⟩⟩ λb u e=>?_
 ·cases e:H' b with
  |none=>rfl
  |some v=>
   rcases hn b v e with z|⟨z,_⟩
   ·rw[n] at z;cases z
   ·rw[z] at q;cases q
 ·rcases hn b u e with z|z
  ·exact(I.hok b u z).yN (λc v _ q=>k c v q) (λc q=>hs _ _ q) λc xs _ q=>hs _ _ q
  ·exact z.2
section
variable{X:Cx}{o:Expr}{td:TE}{apos cpos:Pos}
end
end L2
namespace L2
open PySem PySem.Spec PySem.W PyProof.Rows
section
variable{X:Cx}{pins:List (Addr×Obj)}{σ:St}{H:Hp}{s:Shared}
end
section
variable{X:Cx}{elts:List Expr}{x1:Nat}{tp:Pos}{tg:Expr}
end
section
variable{σ:St}{H:Hp}{Q:VK}{nx:St->Hp->Prop}{rt:VK}{g:TG}{tb:TS}
end
end L2
namespace L2
open PySem PySem.Spec PySem.W PyProof.Rows
theorem aDv:typeLookup (.type "list") "keys" = pure none:=by rw[typeLookup_type,builtinLookup_eq_fast];kernel_rfl
theorem aLu{prog:Program}{w:World}{A:Around}{E:Value->Shared->Prop}{s:Shared}{a:Addr}{xs:Array Value}{k:Nat}{Q:Option Value->Shared->Prop}(hA:A.handled=none)
  (hx:s.heap.get? a=some { cls:=.type "list",data:=.seq xs k }) (h:∀(h':Heap) (tk:Nat),(∀b u,s.heap.get? b=some u->h'.get? b=some u)->Q none { s with heap:=h',toks:=tk }) :
  wpAny (model prog w) A (getAttr? (.ref a) "keys") Q E s:=by
 obtain⟨hp,g,d,tk,os⟩:=s
 have ty:∀tk',(⟨hp,g,d,tk',os⟩ : Shared).TypeIs (.ref a) "list":=λ_=>⟨_,hx,rfl⟩
 have f1:=sub_AttributeError
 have f3:=F.slot_list_getattribute.lookup
 have f4:=F.slot_list_getattribute.bind (.ref a)
 have f5:=am_list_getattr_none
 unfold getAttr? getAttrBy? getAttrBy
 repeat (any_goals (first|assumption|exact ty _|((with_reducible show wpAny _ _ (call (Value.builtin "list.__getattribute__") _ _) _ _ _);refine call_meets F.slot_list_getattribute (ty _) am_entry_list_getattribute (F.args_list_getattribute_2 _ _) (meets_getattribute_miss_list a xs k #[] "keys" _ aDv (by decide +kernel)) ⟨hx,hA,λh' tk' e gone=>?_⟩)|wp_step))
 obtain⟨t',u',he⟩:=gone.there
 show wpAny _ _ (getattributeRaised _ _ _ _ _ _ _) _ _ _
 unfold getattributeRaised
 repeat (any_goals (first|assumption|wp_step))
 exact h _ _ gone.keeps
theorem tH:entryFor table "dict.update.loop" = some Builtin.«dict.update.loop»:=entryFor_of_tree (by kernel_rfl)
theorem jD:plainId "dict.update.loop" = true:=by decide +kernel
section
variable{prog:Program}{w:World}{A:Around}{s:Shared}{R:Result->Shared->Prop}{D I l:Addr}{items:Array Value}{ps:List (Key×Value)}
theorem aEN{E:Value->Shared->Prop}{a:Addr}{o:Obj}{xs:Array Value}{n:Nat}{Q:Option (Array Value)->Shared->Prop}(h1:s.heap.get? a=some o)(h2:o.data=.seq xs n)(h:Q (some xs) s):wpAny (model prog w) A (seqItems? (.ref a)) Q E s:=by
 unfold seqItems?
 refine wpAny_bind (wpAny_load h1 ?_)
 rw[h2]
 exact wpAny_pure h
end
end L2
namespace L2
open PySem PySem.Spec PySem.W PyProof.Rows
section
variable{X:Cx}
end
end L2
namespace L2
open PySem PySem.Spec PySem.W PyProof.Rows
section
variable{X:Cx}
def aNL:R2:=λy x H Q=>∃a o,x=.ref a/\hU H a y o/\Q (.bl o.isSome) H
theorem aNM(hu:X.A.units+9 < cLine):rZ X (compareOp .In) aNL:=by
 intro pins s σ H x y u v Q I rx ry h
 obtain⟨a,o,e,g,q⟩:=h
 subst e
 cases ry
 exact aPs (by omega) I g rx λs' I'=>⟨.bl o.isSome,H,I',rfl,q⟩
def aDw:R2:=λy x H Q=>∃a o,x=.ref a/\hU H a y o/\Q (.bl (!o.isSome)) H
theorem aHH(hu:X.A.units+9 < cLine):rZ X (compareOp .NotIn) aDw:=by
 intro pins s σ H x y u v Q I rx ry h
 obtain⟨a,o,e,g,q⟩:=h
 subst e
 cases ry
 exact aKK (by omega) I g rx λs' I'=>⟨.bl (!o.isSome),H,I',rfl,q⟩
end
section
variable{σ:St}{H:Hp}{Q:VK}
theorem aJx{td ty:TE}(h:td σ H λx H1=>∃a,x=.ref a/\IsD H1 a/\ty σ H1 λy H2=>∃o,hU H2 a y o/\Q (o.getD .non) H2):aFz td ty σ H Q:=h
theorem aNN{a:Addr}{y:V}{o:Option V}(g:hU H a y o)(q:Q (.bl o.isSome) H):aNL y (.ref a) H Q:=⟨a,o,rfl,g,q⟩
end
end L2
namespace L2.Z
open PySem PySem.Spec PyProof.Rows L2
section
variable{X:Cx}{o e tg:Expr}{td ty t:TE}{pos apos cpos tp:Pos}{elts:List Expr}{x1:Nat}
theorem aEO(hu:X.A.units+9 < cLine)(ho:QE X o td)(he:QE X e ty)(base:attributeBase o "get" X.env (eval o X.env)=eval o X.env:=by rfl)
  (few:((backTo cpos (starEach [e] X.env)).all (λx=>!x.1) && (backToKw cpos (keywordEach [] X.env)).all (λx=>x.1.isSome)
   && decide (([e]:List Expr).length+([]:List Keyword).length+(if ([]:List Keyword).isEmpty then 0 else 1) < 30))=true:=by rfl)
  (line:(apos.endLine == cpos.line)=true:=by rfl) (trees:backTo cpos (starEach [e] X.env)=[(false,eval e X.env)]:=by rfl) :
  QE X (.Call (.Attribute o "get" apos) [e] [] cpos) (aFz td ty):=⟨L2.aIG (by omega) ho.h he.h ⟨base,few,line,trees⟩⟩
end
end L2.Z
namespace L2
open PySem PySem.Spec PyProof.Rows
end L2
namespace L2
open PySem PySem.Spec PyProof.Rows
section
variable{X:Cx}{o:Expr}{to:TE}{apos cpos:Pos}
theorem aNO(ho:PE X o to)(hbase:attributeBase o "pop" X.env (eval o X.env)=eval o X.env:=by rfl)(hline:(apos.endLine == cpos.line)=true:=by rfl) :
  PE X (.Call (.Attribute o "pop" apos) [] [] cpos) (aKI X.K "list" aKJ to):=
 aMO PySem.F.plainAttrs_list PySem.F.slot_list_pop PySem.F.type_list_pop aMQ ho hbase hline
end
end L2
namespace L2.Z
open PySem PySem.Spec PyProof.Rows L2
section
variable{X:Cx}{K':W.Frag}{o:Expr}{to:TE}{apos cpos:Pos}
theorem aFX(ho:QE X o to)(hbase:attributeBase o "pop" X.env (eval o X.env)=eval o X.env:=by rfl)(hline:(apos.endLine == cpos.line)=true:=by rfl)(hK:X.K=K':=by rfl) :
  QE X (.Call (.Attribute o "pop" apos) [] [] cpos) (aKI K' "list" aKJ to):=by subst hK;exact⟨L2.aNO ho.h hbase hline⟩
end
end L2.Z
namespace L2
open PySem PySem.Spec PyProof.Rows
section
variable{X:Cx}
def aNP(K:W.Frag):R2:=λx y H Q=>∃(p l:Addr) (es fs:List Addr),x=.ref p/\y=.ref l/\bU K H p (es.map V.ref)/\bU K H l (fs.map V.ref)/\es.length=fs.length/\
 (∀(j:Nat) a b,es[j]?=some a->fs[j]?=some b->∃qs:List Addr,bU K H a (qs.map V.ref)/\bU K H b (qs.map V.ref))/\Q (.bl false) H
theorem aNQ(hu:X.A.units+9 < cLine):rZ X (compareOp .NotEq) (aNP X.K):=by
 intro pins s σ H x y v u Q I rx ry h
 obtain⟨p,l,es,fs,rfl,rfl,h1,h2,hl,hr,q⟩:=h
 cases rx
 cases ry
 have fin:EP X pins σ Q (.bool (!true)) s:=⟨.bl false,H,I,rfl,q⟩
 obtain⟨us,r1,p1,_⟩:=I.list h1
 obtain⟨vs,r2,p2,_⟩:=I.list h2
 have e1:us=es.map Value.ref:=pX r1
 have e2:vs=fs.map Value.ref:=pX r2
 subst e1 e2
 refine SeqAt.RcNeAt.lists (e:=λ_=>true) p1.isList p2.isList (by simp[hl]) (by omega) (λj h1 h2=>?_) X.prog X.w X.xe _ ?_
 ·have j1:j < es.length:=by simpa using h1
  have j2:j < fs.length:=by simpa using h2
  obtain⟨qs,a1,a2⟩:=hr j es[j] fs[j] (dF j1) (dF j2)
  obtain⟨us',r3,p3,_⟩:=I.list a1
  obtain⟨vs',r4,p4,_⟩:=I.list a2
  have e3:us'=qs.map Value.ref:=pX r3
  have e4:vs'=qs.map Value.ref:=pX r4
  subst e3 e4
  have z:=SeqAt.RcAt.lists (A:=X.A.in1) (s:=s) (e:=λ_=>true) p3.isList p4.isList rfl (show X.A.in1.units < cLine from Nat.lt_of_le_of_lt (show X.A.in1.units<=X.A.units+9 from Nat.le_add_right _ 8) hu) (λj h1 h2=>SeqAt.EqAt.same _)
  rw[show(List.range (qs.map Value.ref).toArray.size).all (λ_=>true)=true by simp] at z
  have goal:SeqAt.EqAt X.A.in1 s (.ref es[j]) (.ref fs[j]) true:=λprog w E Q h=>by
   unfold eqBool
   refine wpAny_holding ?_
   refine wpAny_ite_split (λ_=>wpAny_bind (wpAny_rule (wpAny_pure h))) (λ_=>?_)
   exact wpAny_bind (z prog w E _ (wpAny_truthy_bool h))
  simpa using goal
 ·rw[show(List.range (es.map Value.ref).toArray.size).all (λ_=>true)=true by simp]
  exact fin
end
section
variable{K:W.Frag}{H:Hp}{Q:VK}
theorem aNR{p l:Addr}{es fs:List Addr}(h1:H p=some (.lst (es.map V.ref)))(h2:H l=some (.lst (fs.map V.ref)))(hl:es.length=fs.length)(hr:∀(j:Nat) a b,es[j]?=some a->fs[j]?=some b->∃qs:List Addr,H a=some (.lst (qs.map V.ref))/\H b=some (.lst (qs.map V.ref)))(h:Q (.bl false) H):aNP K (.ref p) (.ref l) H Q:=
 ⟨p,l,es,fs,rfl,rfl,bU.of h1,bU.of h2,hl,λj a b x y=>let ⟨qs,u,v⟩:=hr j a b x y;⟨qs,bU.of u,bU.of v⟩,h⟩
end
end L2
namespace L2
open PySem PySem.Spec PyProof.Rows
section
variable{X:Cx}
def aNS(K:W.Frag):R2:=λx y H Q=>∃(a b:Addr) (xs:List V),x=.ref a/\y=.ref b/\bU K H a xs/\bU K H b []/\Q (.bl (!xs.isEmpty)) H
theorem aNT(hu:X.A.units+9 < cLine):rZ X (compareOp .NotEq) (aNS X.K):=by
 intro pins s σ H x y v u Q I rx ry h
 obtain⟨a,b,xs,rfl,rfl,h1,h2,q⟩:=h
 cases rx
 cases ry
 have fin:EP X pins σ Q (.bool (!xs.isEmpty)) s:=⟨.bl (!xs.isEmpty),H,I,rfl,q⟩
 obtain⟨us,r1,p1,_⟩:=I.list h1
 obtain⟨vs,r2,p2,_⟩:=I.list h2
 cases r2
 cases xs with
 |nil=>
  cases r1
  refine SeqAt.RcNeAt.lists (e:=λ_=>true) p1.isList p2.isList rfl (by omega) (λj h1 h2=>by simp at h1) X.prog X.w X.xe _ ?_
  exact fin
 |cons z zs=>
  cases r1 with
  |cons hz ht=>exact SeqAt.RcNeAt.lists_lengths p1.isList p2.isList (by simp) (by omega) X.prog X.w X.xe _ fin
end
section
variable{K:W.Frag}{H:Hp}{Q:VK}
theorem aNU{a b:Addr}{xs:List V}(h1:H a=some (.lst xs))(h2:H b=some (.lst []))(h:Q (.bl (!xs.isEmpty)) H):aNS K (.ref a) (.ref b) H Q:=⟨a,b,xs,rfl,rfl,bU.of h1,bU.of h2,h⟩
end
end L2
namespace L2
open PySem PySem.Spec PySem.W PyProof.Rows
section
variable{X:Cx}{ek ev:Expr}{tk tv:TE}{pos:Pos}
end
section
variable{σ:St}{H:Hp}{Q:VK}{nx:St->Hp->Prop}{rt:VK}{g:TG}{tb:TS}
end
end L2
namespace L2.Z
open PySem PySem.Spec PyProof.Rows
section
variable{X:Cx}{ek ev:Expr}{tk tv:TE}{pos:Pos}
end
end L2.Z
namespace L2
open PySem
namespace ST
theorem least{P:Nat->Prop}:∀{n:Nat},P n->∃m,m<=n/\P m/\∀k,k < m->¬P k:=by
 intro n
 induction n using Nat.strongRecOn with
 |_ n ih=>
  intro h
  by_cases hx:∃k,k < n/\P k
  ·obtain⟨k,hk,pk⟩:=hx
   obtain⟨m,a,b,c⟩:=ih k hk pk
   exact⟨m,by omega,b,c⟩
  ·exact⟨n,dQ _,h,λk hk pk=>hx ⟨k,hk,pk⟩⟩
theorem aGA{α:Type}[DecidableEq α]:∀{l l':List α},l.Nodup->(∀x∈l,x∈l')->l.length<=l'.length
 |[],_,_,_=>zL _
 |a::l,l',hn,hs=>by
  rw[Rs9] at hn
  have ha:=hs a Rc9
  have:=aGA (l':=l'.erase a) hn.2 (λx hx=>(List.mem_erase_of_ne (λ(e:x=a)=>hn.1 (e▸hx))).mpr (hs x (Qt9 _ hx)))
  rw[List.length_erase_of_mem ha] at this
  have:0 < l'.length:=List.length_pos_of_mem ha
  simp only[yM]
  omega
def ru(M i:Nat):Nat:=SetTable.runEnd M i - i
theorem aO5(M i:Nat):ru M i<=9:=by unfold ru SetTable.runEnd;split <;> omega
theorem aJy{M i:Nat}(h:i<=M):i+ru M i<=M:=by unfold ru SetTable.runEnd;split <;> omega
def lp(M:Nat)(h:Int):Nat->Nat×Nat
 |0=>(SetTable.bits h % (M+1),SetTable.bits h)
 |k+1=>SetTable.leap M (lp M h k).1 (lp M h k).2
theorem aJz(M:Nat)(h:Int):∀k,(lp M h k).1<=M
 |0=>Uc9 (Nat.mod_lt _ (Nat.succ_pos _))
 |k+1=>Uc9 (Nat.mod_lt _ (Nat.succ_pos _))
theorem aLv(h:Int):SetTable.bits h < 2 ^ 64:=by unfold SetTable.bits;omega
theorem aJA(M:Nat)(h:Int):∀k,(lp M h k).2=SetTable.bits h / 32 ^ k
 |0=>by simp[lp]
 |k+1=>by
  show(lp M h k).2 / 32=_
  rw[aJA M h k,Nat.div_div_eq_div_mul,Nat.pow_succ]
theorem aNV(M:Nat)(h:Int)(k:Nat):(lp M h (13+k)).2=0:=by
 rw[aJA]
 apply Nat.div_eq_of_lt
 have h1:=aLv h
 have h2:32 ^ 13<=32 ^ (13+k):=Nat.pow_le_pow_right (by decide) (by omega)
 have h3:(2:Nat) ^ 64<=32 ^ 13:=by decide
 omega
def it(M:Nat):Nat->Nat->Nat
 |0,i=>i
 |k+1,i=>(it M k i*5+1) % (M+1)
theorem aDx(M a i:Nat):∀b,it M (a+b) i=it M b (it M a i)
 |0=>rfl
 |b+1=>by
  show(it M (a+b) i*5+1) % (M+1)=_
  rw[aDx M a i b];rfl
theorem aLZ(M:Nat)(h:Int):∀k,(lp M h (13+k)).1=it M k (lp M h 13).1
 |0=>rfl
 |k+1=>by
  show((lp M h (13+k)).1*5+1+(lp M h (13+k)).2 / 32) % (M+1)=_
  rw[aNV,aLZ M h k];rfl
def Msk(M:Nat):Prop:=M=7\/M=31\/M=127
def orb(M:Nat):Nat->Nat->List Nat
 |0,_=>[]
 |n+1,i=>i::orb M n ((i*5+1) % (M+1))
theorem aGB{M:Nat}:∀{n k e:Nat},e∈orb M n (it M k 0)->∃j,j < n/\it M (k+j) 0=e
 |0,_,_,h=>by cases h
 |n+1,k,e,h=>by
  rcases lW.mp h with h|h
  ·exact⟨0,Nat.succ_pos _,h.symm⟩
  ·obtain⟨j,a,b⟩:=aGB (n:=n) (k:=k+1) h
   exact⟨j+1,by omega,by rw[<-b];congr 1;omega⟩
theorem aPE{M:Nat}(hM:Msk M):(∀e,e<=M->∃k,k < M+1/\it M k 0=e)/\it M (M+1) 0=0:=by
 have key:∀M,(List.range (M+1)).all (λe=>(orb M (M+1) 0).contains e)=true->∀e,e<=M->∃k,k < M+1/\it M k 0=e:=λM h e he=>by
  have:=Ry9.mp h e (Rn9.mpr (by omega))
  obtain⟨j,a,b⟩:=aGB (k:=0) (by show e∈orb M (M+1) 0;simpa using this)
  exact⟨j,a,by simpa using b⟩
 rcases hM with rfl|rfl|rfl
 ·exact⟨key _ (by decide +kernel),by decide +kernel⟩
 ·exact⟨key _ (by decide +kernel),by decide +kernel⟩
 ·exact⟨key _ (by decide +kernel),by decide +kernel⟩
theorem cov{M i e:Nat}(hM:Msk M)(hi:i<=M)(he:e<=M):∃k,k < M+1/\it M k i=e:=by
 obtain⟨c,z⟩:=aPE hM
 obtain⟨a,ha,rfl⟩:=c i hi
 obtain⟨b,hb,rfl⟩:=c e he
 by_cases hab:a<=b
 ·exact⟨b - a,by omega,by rw[<-aDx];congr 1;omega⟩
 ·refine⟨b+(M+1) - a,by omega,?_⟩
  rw[<-aDx,show a+(b+(M+1) - a)=(M+1)+b by omega,aDx,z]
theorem cover{M e:Nat}(hM:Msk M)(he:e<=M)(h:Int):∃k,k<=13+M/\(lp M h k).1=e:=by
 obtain⟨k,hk,e1⟩:=cov hM (aJz M h 13) he
 exact⟨13+k,by omega,by rw[aLZ];exact e1⟩
def stp(M:Nat)(p:SetTable.Probe):SetTable.Probe:=
 if p.more > 0 then { p with j:=p.j+1,more:=p.more - 1 } else
 let (i,perturb):=SetTable.leap M p.i p.perturb
 { p with j:=i,more:=SetTable.runEnd M i - i,i,perturb }
def R(M:Nat)(h:Int)(k:Nat):SetTable.Probe:={ j:=(lp M h k).1,more:=ru M (lp M h k).1,i:=(lp M h k).1,perturb:=(lp M h k).2,dummy:=none }
def pt(M:Nat)(h:Int):Nat->SetTable.Probe
 |0=>R M h 0
 |n+1=>stp M (pt M h n)
theorem aJB(t:SetTable)(h:Int):t.probeStart h=pt t.mask h 0:=rfl
def pj(M:Nat)(h:Int)(n:Nat):Nat:=(pt M h n).j
theorem aJC(M:Nat)(h:Int):∀n,(pt M h n).dummy=none
 |0=>rfl
 |n+1=>by
  show(stp M (pt M h n)).dummy=none
  unfold stp
  split
  ·exact aJC M h n
  ·exact aJC M h n
theorem aL0(M:Nat)(h:Int):∀n,(pt M h n).j+(pt M h n).more<=M
 |0=>aJy (aJz M h 0)
 |n+1=>by
  have ih:=aL0 M h n
  show(stp M (pt M h n)).j+(stp M (pt M h n)).more<=M
  unfold stp
  split
  ·dsimp only;omega
  ·exact aJy (Uc9 (Nat.mod_lt _ (Nat.succ_pos _)))
theorem aL1(M:Nat)(h:Int)(n:Nat):pj M h n<=M:=by have:=aL0 M h n;unfold pj;omega
theorem aDy{M:Nat}{h:Int}{k n:Nat}(e:pt M h n=R M h k):∀d,d<=ru M (lp M h k).1->pt M h (n+d)={ R M h k with j:=(lp M h k).1+d,more:=ru M (lp M h k).1 - d }
 |0,_=>e
 |d+1,hd=>by
  show stp M (pt M h (n+d))=_
  rw[aDy e d (by omega)]
  unfold stp
  rw[if_pos (by dsimp only;omega)]
  rfl
theorem aGC{M:Nat}{h:Int}{k n:Nat}(e:pt M h n=R M h k):pt M h (n+ru M (lp M h k).1+1)=R M h (k+1):=by
 show stp M (pt M h (n+ru M (lp M h k).1))=_
 rw[aDy e _ (dQ _)]
 unfold stp
 rw[if_neg (by dsimp only;omega)]
 rfl
theorem aJD(M:Nat)(h:Int):∀k,∃n,n<=10*k/\pt M h n=R M h k
 |0=>⟨0,dQ _,rfl⟩
 |k+1=>by
  obtain⟨n,a,b⟩:=aJD M h k
  have:=aO5 M (lp M h k).1
  exact⟨_,by omega,aGC b⟩
def Fst(oc:Nat->Prop)(M:Nat)(h:Int)(n:Nat):Prop:=¬oc (pj M h n)/\∀m,m < n->oc (pj M h m)
def Rch(oc:Nat->Prop)(M:Nat)(h:Int)(j:Nat):Prop:=∃n,pj M h n=j/\∀m,m < n->oc (pj M h m)
theorem Rch.mono{oc oc':Nat->Prop}{M:Nat}{h:Int}{j:Nat}(x:Rch oc M h j)(hm:∀i,oc i->oc' i):Rch oc' M h j:=let ⟨n,a,b⟩:=x;⟨n,a,λm hm'=>hm _ (b m hm')⟩
theorem aNW{oc:Nat->Prop}{M e:Nat}(hM:Msk M)(he:e<=M)(ne:¬oc e)(h:Int):∃n,n<=10*(13+M)/\Fst oc M h n:=by
 obtain⟨k,hk,ek⟩:=cover hM he h
 obtain⟨n,hn,en⟩:=aJD M h k
 obtain⟨m,a,b,c⟩:=least (P:=λn=>¬oc (pj M h n)) (n:=n) (by show ¬oc (pt M h n).j;rw[en];show ¬oc (lp M h k).1;rw[ek];exact ne)
 exact⟨m,by omega,b,λk' hk'=>Classical.byContradiction λz=>c k' hk' z⟩
def Ris(xs:Array Nat):Prop:=∀i k,i < k->k < xs.size->xs.getD i 0 < xs.getD k 0
theorem aNX{xs:Array Nat}{i:Nat}(hi:i < xs.size)(d:Nat):xs.getD i d=xs.getD i 0:=by simp[Array.getD,hi]
def Cut(xs:Array Nat)(j r:Nat):Prop:=r<=xs.size/\(∀i,i < r->xs.getD i 0 < j)/\∀i,r<=i->i < xs.size->j<=xs.getD i 0
theorem aBa{xs:Array Nat}{j:Nat}(hr:Ris xs):∀f lo hi,hi - lo<=f->lo<=hi->hi<=xs.size->(∀i,i < lo->xs.getD i 0 < j)->(∀i,hi<=i->i < xs.size->j<=xs.getD i 0)->Cut xs j (SetTable.below.go xs j f lo hi)
 |0,lo,hi,hf,h1,h2,h3,h4=>by
  have e:lo=hi:=by omega
  subst e
  exact⟨h2,h3,h4⟩
 |f+1,lo,hi,hf,h1,h2,h3,h4=>by
  unfold SetTable.below.go
  split
  ·rename_i hlt
   have hm:(lo+hi) / 2 < xs.size:=by omega
   dsimp only
   rw[aNX hm]
   by_cases hl:xs.getD ((lo+hi) / 2) 0 < j
   ·rw[if_pos hl]
    refine aBa hr f ((lo+hi) / 2+1) hi (by omega) (by omega) h2 (λi hi'=>?_) h4
    by_cases z:i=(lo+hi) / 2
    ·rw[z];exact hl
    ·exact Nat.lt_trans (hr i ((lo+hi) / 2) (by omega) hm) hl
   ·rw[if_neg hl]
    refine aBa hr f lo ((lo+hi) / 2) (by omega) (by omega) (by omega) h3 (λi hi' hs=>?_)
    by_cases z:i=(lo+hi) / 2
    ·rw[z];omega
    ·have:=hr ((lo+hi) / 2) i (by omega) hs
     omega
  ·have e:lo=hi:=by omega
   subst e
   exact⟨h2,h3,h4⟩
theorem vD{xs:Array Nat}(hr:Ris xs)(j:Nat):Cut xs j (SetTable.below xs j):=
 aBa hr _ _ _ (by omega) (by omega) (dQ _) (λi hi=>by omega) (λi a b=>by omega)
theorem aCK{xs:Array Nat}{i j:Nat}(h:xs[i]?=some j):i < xs.size/\xs.getD i 0=j:=by
 obtain⟨a,b⟩:=Rl9.mp h
 exact⟨a,by simp[Array.getD,a,b]⟩
theorem below_at{xs:Array Nat}(hr:Ris xs){i j:Nat}(h:xs[i]?=some j):SetTable.below xs j=i:=by
 obtain⟨a,b⟩:=aCK h
 obtain⟨c1,c2,c3⟩:=vD hr j
 rcases Nat.lt_trichotomy (SetTable.below xs j) i with z|z|z
 ·have h1:=c3 _ (dQ _) (by omega)
  have h2:=hr _ _ z a
  omega
 ·exact z
 ·have:=c2 i z
  omega
theorem y7{t:SetTable}(hr:Ris t.place){i j:Nat}(h:t.place[i]?=some j):t.slot j=.live i:=by
 unfold SetTable.slot
 dsimp only
 rw[below_at hr h,h]
 simp
theorem aGD(j:Nat):SetTable.has #[] j=false:=by simp[SetTable.has]
theorem aFY{t:SetTable}(hd:t.dummies = #[]){j:Nat}(h:j∉t.place.toList):t.slot j=.empty:=by
 unfold SetTable.slot
 dsimp only
 rw[hd,aGD]
 have:(t.place[SetTable.below t.place j]? == some j)=false:=by
  rw[beq_eq_false_iff_ne]
  intro z
  exact h (by rw[<-Array.mem_def];exact Array.mem_of_getElem? z)
 rw[this]
 rfl
theorem aEP{t:SetTable}(hd:t.dummies = #[])(hr:Ris t.place){h:Int}{ha:Nat->Int}{N:Nat}(F:Fst (·∈t.place.toList) t.mask h N):∀f m,m<=N->N < f+m->
  (SetTable.probe.go t ha h f (pt t.mask h m)=some (.empty (pj t.mask h N) none)/\∀n i,m<=n->n < N->t.place[i]?=some (pj t.mask h n)->ha i≠h)\/
  ∃n i,m<=n/\n < N/\t.place[i]?=some (pj t.mask h n)/\ha i=h/\SetTable.probe.go t ha h f (pt t.mask h m)=some (.candidate (pj t.mask h n) i (pt t.mask h (n+1)))/\∀n' i',m<=n'->n' < n->t.place[i']?=some (pj t.mask h n')->ha i'≠h
 |0,m,h1,h2=>by omega
 |f+1,m,h1,h2=>by
  by_cases e:m=N
  ·subst e
   left
   refine⟨?_,λn i a b=>by omega⟩
   unfold SetTable.probe.go
   rw[show(pt t.mask h m).j=pj t.mask h m from rfl,aFY hd F.1,aJC]
  ·have hm:m < N:=by omega
   have hin:=F.2 m hm
   obtain⟨i,hi⟩:=Sl9.mp hin
   rw[Ra9] at hi
   have hs:=y7 hr hi
   by_cases hh:ha i=h
   ·right
    refine⟨m,i,dQ _,hm,hi,hh,?_,λn' i' a b=>by omega⟩
    unfold SetTable.probe.go
    rw[show(pt t.mask h m).j=pj t.mask h m from rfl,hs]
    simp only[hh,beq_self_eq_true,if_true]
    rfl
   ·have eg:SetTable.probe.go t ha h (f+1) (pt t.mask h m)=SetTable.probe.go t ha h f (pt t.mask h (m+1)):=by
     rw[SetTable.probe.go.eq_2]
     rw[show(pt t.mask h m).j=pj t.mask h m from rfl,hs]
     simp only[beq_iff_eq,hh,if_false]
     rfl
    rw[eg]
    have no:∀n i',m<=n->¬m+1<=n->t.place[i']?=some (pj t.mask h n)->ha i'≠h:=λn i' a b z=>by
     have en:n=m:=by omega
     subst en
     have:i'=i:=by rw[<-below_at hr z,below_at hr hi]
     rw[this];exact hh
    rcases aEP hd hr F f (m+1) (by omega) (by omega) with ⟨a,b⟩|⟨n,i2,a,b,c,d,e',g⟩
    ·exact .inl ⟨a,λn i' x y z=>if w:m+1<=n then b n i' w y z else no n i' x w z⟩
    ·exact .inr ⟨n,i2,by omega,b,c,d,e',λn' i' x y z=>if w:m+1<=n' then g n' i' w y z else no n' i' x w z⟩
theorem oA{α:Type}{xs:Array α}{p:Nat}(hp:p<=xs.size)(x:α)(i:Nat):(SetTable.insertAt xs p x)[i]?=if i < p then xs[i]? else if i=p then some x else xs[i - 1]?:=by
 have e:(SetTable.insertAt xs p x).toList=xs.toList.take p++x::xs.toList.drop p:=by
  simp[SetTable.insertAt,List.extract_eq_take_drop,Sb9]
 rw[<-Ra9,e]
 have hl:(xs.toList.take p).length=p:=by simp;omega
 split
 ·rename_i h
  rw[Qq9 (by omega),Ts9 h,Ra9]
 ·rename_i h
  rw[Qz9 (by omega),hl]
  split
  ·rename_i h2
   rw[h2]
   simp
  ·rename_i h2
   rw[show i - p=(i - 1 - p)+1 by omega,List.getElem?_cons_succ,Ti9,Ra9,show p+(i - 1 - p)=i - 1 by omega]
theorem aBb{α:Type}{xs:Array α}{p:Nat}(hp:p<=xs.size)(x:α):(SetTable.insertAt xs p x).size=xs.size+1:=by
 simp[SetTable.insertAt];omega
theorem aGE{α:Type}{xs:Array α}{p:Nat}(hp:p<=xs.size)(x y:α):y∈(SetTable.insertAt xs p x).toList↔y=x\/y∈xs.toList:=by
 have e:(SetTable.insertAt xs p x).toList=xs.toList.take p++x::xs.toList.drop p:=by
  simp[SetTable.insertAt,List.extract_eq_take_drop,Sb9]
 rw[e,Rf9,lW]
 conv=>rhs;rw[<-List.take_append_drop p xs.toList,Rf9]
 constructor
 ·rintro (h|h|h)
  ·exact .inr (.inl h)
  ·exact .inl h
  ·exact .inr (.inr h)
 ·rintro (h|h|h)
  ·exact .inr (.inl h)
  ·exact .inl h
  ·exact .inr (.inr h)
theorem aGF{xs:Array Nat}:Ris xs↔∀(i k a b:Nat),i < k->xs[i]?=some a->xs[k]?=some b->a < b:=by
 constructor
 ·intro h i k a b hik ha hb
  obtain⟨a1,a2⟩:=aCK ha
  obtain⟨b1,b2⟩:=aCK hb
  have:=h i k hik b1
  omega
 ·intro h i k hik hk
  have:=h i k _ _ hik (Rd9 (by omega:i < xs.size)) (Rd9 hk)
  simpa [Array.getD,hk,(by omega:i < xs.size)] using this
theorem aGG{xs:Array Nat}{j:Nat}:j∈xs.toList↔∃i:Nat,xs[i]?=some j:=by
 rw[Sl9]
 simp only[Ra9]
theorem aLw{xs:Array Nat}{j:Nat}(hr:Ris xs)(hj:j∉xs.toList):Ris (SetTable.insertAt xs (SetTable.below xs j) j):=by
 obtain⟨c1,c2,c3⟩:=vD hr j
 rw[aGF] at hr ⊢
 intro i k a b hik ha hb
 rw[oA c1] at ha hb
 have lo:∀i a,i < SetTable.below xs j->xs[i]?=some a->a < j:=λi a h z=>by have:=c2 i h;rw[(aCK z).2] at this;exact this
 have hi:∀i a,SetTable.below xs j<=i->xs[i]?=some a->j < a:=λi a h z=>by
  have h1:=c3 i h (aCK z).1
  rw[(aCK z).2] at h1
  have:a≠j:=λe=>hj (aGG.mpr ⟨i,by rw[<-e];exact z⟩)
  omega
 split at ha
 ·rename_i h1
  split at hb
  ·exact hr i k a b hik ha hb
  ·split at hb
   ·cases hb
    exact lo i a h1 ha
   ·exact hr i (k - 1) a b (by omega) ha hb
 ·split at ha
  ·rename_i h2
   cases ha
   split at hb
   ·omega
   ·split at hb
    ·omega
    ·exact hi _ _ (by omega) hb
  ·split at hb
   ·omega
   ·split at hb
    ·omega
    ·exact hr (i - 1) (k - 1) a b (by omega) ha hb
structure Tab(t:SetTable)(es:Array (Int×Value)):Prop where
 dm:t.dummies = #[]
 sz:t.place.size=es.size
 ris:Ris t.place
 top:∀j∈t.place.toList,j<=t.mask
 msk:Msk t.mask
 room:t.place.size<=t.mask
 rch:∀(i j:Nat) (e:Int×Value),t.place[i]?=some j->es[i]?=some e->Rch (·∈t.place.toList) t.mask e.1 j
theorem Tab.hole{t:SetTable}{es:Array (Int×Value)}(T:Tab t es):∃e,e<=t.mask/\e∉t.place.toList:=by
 apply Classical.byContradiction
 intro hx
 have h1:=aGA (l:=List.range (t.mask+1)) (l':=t.place.toList) List.nodup_range (λx hm=>Classical.byContradiction λz=>hx ⟨x,by have:=Rn9.mp hm;omega,z⟩)
 rw[List.length_range,Re9] at h1
 have:=T.room
 omega
theorem Tab.fits{t:SetTable}{es:Array (Int×Value)}(T:Tab t es):t.fits es.size=true:=by
 unfold SetTable.fits SetTable.fill
 rw[T.dm]
 have:=T.room
 simp[T.sz]
 rw[<-T.sz]
 exact this
theorem Tab.first{t:SetTable}{es:Array (Int×Value)}(T:Tab t es)(h:Int):∃n,n<=10*(13+t.mask)/\Fst (·∈t.place.toList) t.mask h n:=by
 obtain⟨e,a,b⟩:=T.hole
 exact aNW T.msk a b h
theorem Tab.put{t:SetTable}{es:Array (Int×Value)}(T:Tab t es){h:Int}{N:Nat}(F:Fst (·∈t.place.toList) t.mask h N)(hz:es.size+1<=t.mask)(x:Value) :
  (t.put (pj t.mask h N)).1={ t with place:=SetTable.insertAt t.place (SetTable.below t.place (pj t.mask h N)) (pj t.mask h N) }/\(t.put (pj t.mask h N)).2=SetTable.below t.place (pj t.mask h N)/\
  Tab { t with place:=SetTable.insertAt t.place (SetTable.below t.place (pj t.mask h N)) (pj t.mask h N) } (SetTable.insertAt es (SetTable.below t.place (pj t.mask h N)) (h,x)):=by
 obtain⟨c1,c2,c3⟩:=vD T.ris (pj t.mask h N)
 have c1':SetTable.below t.place (pj t.mask h N)<=es.size:=by rw[<-T.sz];exact c1
 refine⟨?_,rfl,?_⟩
 ·unfold SetTable.put
  dsimp only
  rw[T.dm,aGD]
  rfl
 ·refine⟨T.dm,by dsimp only;rw[aBb c1,aBb c1',T.sz],aLw T.ris F.1,λj hj=>?_,T.msk,by dsimp only;rw[aBb c1,T.sz];exact hz,λi j e hi he=>?_⟩
  ·rcases(aGE c1 _ _).mp hj with rfl|hj
   ·exact aL1 ..
   ·exact T.top j hj
  ·dsimp only at hi ⊢
   rw[oA c1] at hi
   rw[oA c1'] at he
   have up:∀i,i∈t.place.toList->i∈(SetTable.insertAt t.place (SetTable.below t.place (pj t.mask h N)) (pj t.mask h N)).toList:=λi hi=>(aGE c1 _ _).mpr (.inr hi)
   split at hi
   ·rename_i q
    rw[if_pos q] at he
    exact(T.rch i j e hi he).mono up
   ·rename_i q
    rw[if_neg q] at he
    split at hi
    ·rename_i q2
     rw[if_pos q2] at he
     cases hi
     cases he
     exact⟨N,rfl,λm hm=>up _ (F.2 m hm)⟩
    ·rename_i q2
     rw[if_neg q2] at he
     exact(T.rch _ j e hi he).mono up
theorem Tab.on{t:SetTable}{es:Array (Int×Value)}(T:Tab t es){h:Int}{N:Nat}(F:Fst (·∈t.place.toList) t.mask h N){i:Nat}{y:Value}(hi:es[i]?=some (h,y)):∃n,n < N/\t.place[i]?=some (pj t.mask h n):=by
 have hl:i < t.place.size:=by rw[T.sz];exact(Rl9.mp hi).1
 have hp:t.place[i]?=some t.place[i]:=Rd9 hl
 obtain⟨n,a,b⟩:=T.rch i _ _ hp hi
 have hin:pj t.mask h n∈t.place.toList:=aGG.mpr ⟨i,by rw[hp];exact congrArg some a.symm⟩
 refine⟨n,?_,by rw[hp];exact congrArg some a.symm⟩
 rcases Nat.lt_trichotomy n N with z|z|z
 ·exact z
 ·rw[z] at hin;exact absurd hin F.1
 ·exact absurd (b N z) F.1
def oc(ow:Array (Option Nat))(j:Nat):Prop:=∃i,ow[j]?=some (some i)
theorem aGH{ow:Array (Option Nat)}{M:Nat}{h:Int}{K:Nat}(hs:ow.size=M+1)(hK:¬oc ow (lp M h K).1):∀f k n,pt M h n=R M h k->(∀m,m < n->oc ow (pj M h m))->k<=K->K < f+k->
  ∃N,SetTable.layClean.free M ow f (lp M h k).1 (lp M h k).2=some (pj M h N)/\Fst (oc ow) M h N
 |0,k,n,e,ho,h1,h2=>by omega
 |f+1,k,n,e,ho,h1,h2=>by
  have isn:∀d,d<=ru M (lp M h k).1->((ow.getD ((lp M h k).1+d) (some 0)).isNone=true↔¬oc ow (pj M h (n+d))):=λd hd=>by
   have ej:pj M h (n+d)=(lp M h k).1+d:=by unfold pj;rw[aDy e d hd]
   rw[ej]
   have hl:(lp M h k).1+d < ow.size:=by have:=aJy (aJz M h k);omega
   have e2:ow[(lp M h k).1+d]?=some ow[(lp M h k).1+d]:=Rd9 hl
   have e3:ow.getD ((lp M h k).1+d) (some 0)=ow[(lp M h k).1+d]:=by simp[Array.getD,hl]
   rw[e3]
   unfold oc
   rw[e2]
   cases ow[(lp M h k).1+d] <;> simp
  have er:SetTable.runEnd M (lp M h k).1+1 - (lp M h k).1=ru M (lp M h k).1+1:=by unfold ru SetTable.runEnd;split <;> omega
  unfold SetTable.layClean.free
  rw[er]
  split
  ·rename_i d hd
   have hp:=List.find?_some hd
   have hm:=List.mem_of_find?_eq_some hd
   have hdl:d<=ru M (lp M h k).1:=by have:=Rn9.mp hm;omega
   refine⟨n+d,?_,(isn d hdl).mp hp,λm hm=>?_⟩
   ·unfold pj;rw[aDy e d hdl]
   ·by_cases z:m < n
    ·exact ho m z
    ·have z2:m - n < d:=by omega
     apply Classical.byContradiction
     intro q
     rw[show m=n+(m - n) by omega] at q
     have:=(isn (m - n) (by omega)).mpr q
     obtain⟨_,as,bs,e1,e2⟩:=List.find?_eq_some_iff_append.mp hd
     have ed:as.length=d:=by
      have h3:(List.range (ru M (lp M h k).1+1))[as.length]?=some d:=by rw[e1];simp
      rw[List.getElem?_range (by have:=congrArg List.length e1;simp at this;omega)] at h3
      exact Option.some.inj h3
     have h4:as[m - n]?=some (m - n):=by
      have h3:(List.range (ru M (lp M h k).1+1))[m - n]?=some (m - n):=List.getElem?_range (by omega)
      rw[e1,Qq9 (by omega)] at h3
      exact h3
     have h5:=e2 _ (iW h4)
     rw[this] at h5
     simp at h5
  ·rename_i hd
   have all:∀d,d<=ru M (lp M h k).1->oc ow (pj M h (n+d)):=λd hdl=>by
    have:=List.find?_eq_none.mp hd d (Rn9.mpr (by omega))
    exact Classical.byContradiction λz=>this ((isn d hdl).mpr z)
   have hkK:k≠K:=λz=>by
    subst z
    have:=all 0 (zL _)
    rw[Ue9] at this
    unfold pj at this
    rw[e] at this
    exact hK this
   exact aGH hs hK f (k+1) (n+ru M (lp M h k).1+1) (aGC e) (λm hm=>if z:m < n then ho m z else by
    have:=all (m - n) (by omega)
    rw[show n+(m - n)=m by omega] at this
    exact this) (by omega) (by omega)
structure Lay(M:Nat)(hs:List Int)(ow:Array (Option Nat))(k:Nat):Prop where
 sz:ow.size=M+1
 at_:∀(j i:Nat),ow[j]?=some (some i)->i < k/\∃h,hs[i]?=some h/\Rch (oc ow) M h j
 all:∀i,i < k->∃j:Nat,ow[j]?=some (some i)
 inj:∀(j j' i:Nat),ow[j]?=some (some i)->ow[j']?=some (some i)->j=j'
theorem Lay.hole{M:Nat}{hs:List Int}{ow:Array (Option Nat)}{k:Nat}(L:Lay M hs ow k)(hk:k<=M):∃e,e<=M/\¬oc ow e:=by
 apply Classical.byContradiction
 intro hx
 have full:∀e,e<=M->oc ow e:=λe he=>Classical.byContradiction λz=>hx ⟨e,he,z⟩
 have nd:((List.range (M+1)).map λj=>(ow.getD j none).getD 0).Nodup:=by
  unfold List.Nodup
  rw[Ri9]
  refine List.Pairwise.imp_of_mem ?_ List.pairwise_lt_range
  intro a b ha hb hab z
  obtain⟨i,hi⟩:=full a (by have:=Rn9.mp ha;omega)
  obtain⟨i',hi'⟩:=full b (by have:=Rn9.mp hb;omega)
  rw[Rw9,Rw9,hi,hi'] at z
  have z2:i=i':=z
  subst z2
  have:=L.inj a b i hi hi'
  omega
 have:=aGA (l':=List.range k) nd (λx hx=>by
  obtain⟨j,hj,rfl⟩:=o8.mp hx
  obtain⟨i,hi⟩:=full j (by have:=Rn9.mp hj;omega)
  rw[Rw9,hi]
  exact Rn9.mpr (L.at_ j i hi).1)
 simp at this
 omega
theorem aJE{M:Nat}{hs:List Int}{ow:Array (Option Nat)}{k:Nat}(hM:Msk M)(L:Lay M hs ow k)(hk:k<=M){h:Int}(hh:hs[k]?=some h) :
  ∃j,SetTable.layClean.free M ow (SetTable.turns M) (SetTable.bits h % (M+1)) (SetTable.bits h)=some j/\Lay M hs (ow.setIfInBounds j (some k)) (k+1):=by
 obtain⟨e,he,ne⟩:=L.hole hk
 obtain⟨K,hK,eK⟩:=cover hM he h
 obtain⟨N,fN,F⟩:=aGH (K:=K) L.sz (by rw[eK];exact ne) (SetTable.turns M) 0 0 rfl (λm hm=>by omega) (zL _) (by unfold SetTable.turns;omega)
 have jl:pj M h N < ow.size:=by have:=aL1 M h N;have:=L.sz;omega
 have un:∀j,(ow.setIfInBounds (pj M h N) (some k))[j]?=if pj M h N=j then some (some k) else ow[j]?:=λj=>by
  rw[Array.getElem?_setIfInBounds]
  split <;> first|rfl|rw[if_pos jl]|(split <;> first|rfl|omega)
 have up:∀j,oc ow j->oc (ow.setIfInBounds (pj M h N) (some k)) j:=λj ⟨i,hi⟩=>by
  unfold oc
  rw[un]
  split
  ·exact⟨k,rfl⟩
  ·exact⟨i,hi⟩
 refine⟨pj M h N,fN,by simp[L.sz],λj i hi=>?_,λi hi=>?_,λj j' i hi hi'=>?_⟩
 ·rw[un] at hi
  split at hi
  ·rename_i z
   cases hi
   exact⟨Te9 _,h,hh,⟨N,z,λm hm=>up _ (F.2 m hm)⟩⟩
  ·obtain⟨a,h',b,c⟩:=L.at_ j i hi
   exact⟨by omega,h',b,c.mono up⟩
 ·by_cases z:i=k
  ·exact⟨pj M h N,by rw[un,if_pos rfl,z]⟩
  ·obtain⟨j,hj⟩:=L.all i (by omega)
   exact⟨j,by rw[un,if_neg (λq=>F.1 ⟨i,by rw[q];exact hj⟩)];exact hj⟩
 ·rw[un] at hi hi'
  split at hi
  ·rename_i z
   split at hi'
   ·rename_i z';rw[<-z,z']
   ·cases hi
    have:=(L.at_ _ _ hi').1
    omega
  ·split at hi'
   ·cases hi'
    have:=(L.at_ _ _ hi).1
    omega
   ·exact L.inj _ _ _ hi hi'
theorem aGI{M:Nat}{hs:List Int}(hM:Msk M)(hz:hs.length<=M):∀(r:List Int) (ow:Array (Option Nat)) (k:Nat),hs.drop k=r->Lay M hs ow k->∃ow',List.foldl (λ(acc:Option (Array (Option Nat)×Nat)) (h:Int)=>do
   let (owner,k) <-acc
   let j <-SetTable.layClean.free M owner (SetTable.turns M) (SetTable.bits h % (M+1)) (SetTable.bits h)
   pure (owner.setIfInBounds j (some k),k+1)) (some (ow,k)) r=some (ow',hs.length)/\Lay M hs ow' hs.length
 |[],ow,k,e,L=>by
  have h1:hs.length<=k:=by have:=congrArg List.length e;simp at this;omega
  have h2:k<=hs.length:=Classical.byContradiction λz=>by
   obtain⟨j,hj⟩:=L.all hs.length (by omega)
   obtain⟨_,h,b,_⟩:=L.at_ j _ hj
   rw[Su9 (dQ _)] at b
   cases b
  have e2:k=hs.length:=by omega
  subst e2
  exact⟨ow,rfl,L⟩
 |h::r,ow,k,e,L=>by
  have hk:k < hs.length:=Classical.byContradiction λz=>by rw[List.drop_eq_nil_of_le (by omega)] at e;cases e
  have hh:hs[k]?=some h:=by
   have:(hs.drop k)[0]?=some h:=by rw[e];rfl
   rw[Ti9] at this
   exact this
  obtain⟨j,fj,L'⟩:=aJE hM L (by omega) hh
  rw[List.foldl_cons]
  have:(do
   let (owner,k) <-some (ow,k)
   let j <-SetTable.layClean.free M owner (SetTable.turns M) (SetTable.bits h % (M+1)) (SetTable.bits h)
   pure (owner.setIfInBounds j (some k),k+1):Option (Array (Option Nat)×Nat))=some (ow.setIfInBounds j (some k),k+1):=by
   show(SetTable.layClean.free M ow (SetTable.turns M) (SetTable.bits h % (M+1)) (SetTable.bits h)).bind _=_
   rw[fj];rfl
  rw[this]
  exact aGI hM hz r _ (k+1) (by rw[<-List.drop_drop,e];rfl) L'
theorem aLx{M:Nat}{hs:Array Int}(hM:Msk M)(hz:hs.size<=M)(fg mv:Nat)(led plain:Bool):∃(pl od:Array Nat),SetTable.laid M fg mv led plain hs=some ({ mask:=M,place:=pl,dummies:=#[],finger:=fg,led:=led,moves:=mv,plain:=plain },od)/\
  od.toList.Perm (List.range hs.size)/\Ris pl/\(∀j∈pl.toList,j<=M)/\pl.size=od.size/\∀(i j k:Nat),pl[i]?=some j->od[i]?=some k->∃h,hs[k]?=some h/\Rch (·∈pl.toList) M h j:=by
 have nor:∀(j i:Nat),¬(Array.replicate (M+1) (none:Option Nat))[j]?=some (some i):=λj i hi=>by
  rw[Array.getElem?_replicate] at hi
  split at hi <;> cases hi
 obtain⟨ow,e,L⟩:=aGI (hs:=hs.toList) hM (by simpa using hz) hs.toList (Array.replicate (M+1) none) 0 rfl ⟨by simp,λj i hi=>absurd hi (nor j i),λi hi=>by omega,λj j' i hi=>absurd hi (nor j i)⟩
 have e1:SetTable.layClean M hs=some ow:=by
  unfold SetTable.layClean
  rw[<-Array.foldl_toList,e]
  rfl
 generalize hlv:((List.range (M+1)).filterMap λj=>(ow.getD j none).map (j,·))=lv
 have mem:∀j i,(j,i)∈lv↔ow[j]?=some (some i):=λj i=>by
  rw[<-hlv,Tt9]
  constructor
  ·rintro ⟨a,ha,b⟩
   rw[Rw9] at b
   cases h:ow[a]? with
   |none=>rw[h] at b;cases b
   |some o=>
    rw[h] at b
    cases o with
    |none=>cases b
    |some x=>cases b;exact h
  ·intro h
   refine⟨j,Rn9.mpr ?_,?_⟩
   ·have:=(Rl9.mp h).1
    rw[L.sz] at this;exact this
   ·rw[Rw9,h];rfl
 have pw:lv.Pairwise λa b=>a.1 < b.1:=by
  rw[<-hlv]
  refine List.Pairwise.filterMap _ ?_ List.pairwise_lt_range
  intro a a' h b hb b' hb'
  obtain⟨_,_,rfl⟩:=Qs9.mp hb
  obtain⟨_,_,rfl⟩:=Qs9.mp hb'
  exact h
 refine⟨(lv.map (·.1)).toArray,(lv.map (·.2)).toArray,?_,?_,?_,?_,by simp,?_⟩
 ·unfold SetTable.laid
  rw[e1]
  show some _=some _
  rw[hlv]
 ·have nd:(lv.map (·.2)).Nodup:=by
   unfold List.Nodup
   rw[Ri9]
   refine List.Pairwise.imp_of_mem ?_ pw
   intro a b ha hb hab z
   have:=L.inj a.1 b.1 a.2 ((mem _ _).mp ha) (by rw[z];exact(mem _ _).mp hb)
   omega
  show(lv.map (·.2)).Perm _
  refine(List.perm_ext_iff_of_nodup nd List.nodup_range).mpr λk=>?_
  rw[o8,Rn9]
  constructor
  ·rintro ⟨⟨j,i⟩,h,rfl⟩
   have:=(L.at_ j i ((mem _ _).mp h)).1
   simpa using this
  ·intro hk
   obtain⟨j,hj⟩:=L.all k (by simpa using hk)
   exact⟨(j,k),(mem _ _).mpr hj,rfl⟩
 ·rw[aGF]
  intro i k a b hik ha hb
  have p2:(lv.map (·.1)).Pairwise (·< ·):=by rw[Ri9];exact pw
  rw[List.getElem?_toArray] at ha hb
  obtain⟨h1,h2⟩:=lG.mp ha
  obtain⟨h3,h4⟩:=lG.mp hb
  have:=List.pairwise_iff_getElem.mp p2 i k h1 h3 hik
  rw[h2,h4] at this
  exact this
 ·intro j hj
  obtain⟨⟨j',i⟩,h,rfl⟩:=o8.mp hj
  have:=(Rl9.mp ((mem _ _).mp h)).1
  rw[L.sz] at this
  exact Uc9 this
 ·intro i j k hj hk
  rw[List.getElem?_toArray,qB] at hj hk
  obtain⟨⟨j',k'⟩,e5,rfl⟩:=Qs9.mp hj
  rw[e5] at hk
  cases hk
  obtain⟨_,h,e6,e7⟩:=L.at_ j' k' ((mem _ _).mp (iW e5))
  refine⟨h,by rw[<-Ra9];exact e6,e7.mono λq ⟨z,hz⟩=>?_⟩
  exact o8.mpr ⟨(q,z),(mem _ _).mpr hz,rfl⟩
theorem aHI{t:SetTable}{es:Array (Int×Value)}{W:Nat}(hM:Msk (SetTable.sizeAbove W - 1))(hz:es.size<=SetTable.sizeAbove W - 1) :
  ∃(pl od:Array Nat),t.relaid (es.map (·.1)) W=some ({ mask:=SetTable.sizeAbove W - 1,place:=pl,dummies:=#[],finger:=t.finger,led:=t.led,moves:=t.movedTo (SetTable.sizeAbove W - 1),plain:=t.plain },od)/\
  (od.filterMap (es[·]?)).toList.Perm es.toList/\Tab { mask:=SetTable.sizeAbove W - 1,place:=pl,dummies:=#[],finger:=t.finger,led:=t.led,moves:=t.movedTo (SetTable.sizeAbove W - 1),plain:=t.plain } (od.filterMap (es[·]?)):=by
 obtain⟨pl,od,e1,e2,e3,e4,e5,e6⟩:=aLx (hs:=es.map (·.1)) hM (by simpa using hz) t.finger (t.movedTo (SetTable.sizeAbove W - 1)) t.led t.plain
 rw[Array.size_map] at e2
 have ef:(List.range es.size).filterMap (λi=>es[i]?)=es.toList:=by
  refine List.ext_getElem? λn=>?_
  have:∀m,m<=es.size->(List.range m).filterMap (λi=>es[i]?)=es.toList.take m:=λm=>by
   induction m with
   |zero=>intro _;rfl
   |succ m ih=>
    intro hm
    rw[List.range_succ,Uf9,ih (by omega),List.take_succ,Ra9,Rd9 (show m < es.size by omega)]
    simp[List.filterMap,Rd9 (show m < es.size by omega)]
  rw[this es.size (dQ _),Sb9 (by simp)]
 have pm:(od.filterMap (es[·]?)).toList.Perm es.toList:=by
  rw[Array.toList_filterMap,<-ef]
  exact e2.filterMap _
 have each:∀k∈od.toList,∃e,es[k]?=some e:=λk hk=>by
  have:=Rn9.mp (e2.mem_iff.mp hk)
  exact⟨_,Rd9 this⟩
 have ix:∀(l:List Nat),(∀k∈l,∃e,es[k]?=some e)->∀(i:Nat) (e:Int×Value),(l.filterMap (es[·]?))[i]?=some e->∃k,l[i]?=some k/\es[k]?=some e:=λl=>by
  induction l with
  |nil=>intro _ i e h;simp at h
  |cons a l ih=>
   intro ha i e h
   obtain⟨x,hx⟩:=ha a Rc9
   rw[List.filterMap_cons_some hx] at h
   cases i with
   |zero=>cases h;exact⟨a,rfl,hx⟩
   |succ i=>exact ih (λk hk=>ha k (Qt9 _ hk)) i e h
 have sz:(od.filterMap (es[·]?)).size=es.size:=by have:=pm.length_eq;rw[Re9,Re9] at this;exact this
 have so:od.size=es.size:=by have:=e2.length_eq;simpa using this
 refine⟨pl,od,e1,pm,rfl,by dsimp only;rw[e5,sz,so],e3,e4,hM,by dsimp only;rw[e5,so];exact hz,λi j e hi he=>?_⟩
 rw[<-Ra9,Array.toList_filterMap] at he
 obtain⟨k,hk,ek⟩:=ix od.toList each i e he
 obtain⟨h,h1,h2⟩:=e6 i j k hi (by rw[<-Ra9];exact hk)
 rw[Array.getElem?_map,ek] at h1
 cases h1
 exact h2
end ST
end L2
namespace L2
open PySem PySem.Spec PySem.W PyProof.Rows
section
variable{prog:Program}{w:World}{K:Type}[DecidableEq K]{A:Around}{E:Value->Shared->Prop}{s:Shared}
structure y8(kd:HeapKind prog w K):Prop where
 keepsT:∀{h h':Heap} {k:K} {b:Addr},kd.is h k b->(∀(b:Addr) (o:Obj),o.cls=.type "tuple"->h.get? b=some o->h'.get? b=some o)->kd.is h' k b
 byVal:∀{A:Around} {E:Value->Shared->Prop} {s:Shared} {k:K} {b:Addr} {Q:Bool->Shared->Prop},kd.is s.heap k b->Q true s->wpAny (model prog w) A (hashByValue 8 (.ref b)) Q E s
 noCls:∀{A:Around} {E:Value->Shared->Prop} {s:Shared} {k:K} {b:Addr} {Q:Bool->Shared->Prop},kd.is s.heap k b->Q false s->wpAny (model prog w) A (ofAClassStatement 8 (.ref b)) Q E s
theorem aJF(b:Addr)(es:Array (Int×Value)):byScan (.ref b) es=false:=by simp[byScan,Value.scannable]
theorem aLy{kd:HeapKind prog w K}(S:y8 kd){k:K}{b:Addr}(hb:kd.is s.heap k b){Q:Bool->Shared->Prop}(hQ:Q false s):∀{l:List Value},(∀y∈l,∃k' b',y=.ref b'/\kd.is s.heap k' b')->wpAny (model prog w) A (searchCouldBeSeen (.ref b) l) Q E s:=by
 intro l hl
 unfold searchCouldBeSeen
 refine wpAny_bind (wpAny_forIn_list _ (λrest r s'=>r.1=none/\s'=s/\∀y∈rest,∃k' b',y=.ref b'/\kd.is s.heap k' b') _ ?_ ?_ _ _ ⟨rfl,rfl,hl⟩)
 ·rintro y rest r s' ⟨hr,rfl,hall⟩
  obtain⟨k',b',rfl,hb'⟩:=hall y Rc9
  dsimp only
  by_cases hv:((b == b') || (carriedByValue (Value.ref b) && carriedByValue (Value.ref b')))=true
  ·rw[if_pos hv]
   exact wpAny_pure ⟨rfl,rfl,λu hu'=>hall u (Qt9 _ hu')⟩
  ·rw[if_neg hv]
   refine wpAny_bind (kd.quiet hb ?_)
   simp only[Td9,yL,if_false]
   refine wpAny_bind (kd.quiet hb' ?_)
   simp only[Td9,yL,if_false]
   refine wpAny_bind (S.noCls hb ?_)
   simp only[yL,if_false]
   refine wpAny_bind (S.noCls hb' ?_)
   simp only[yL,if_false]
   exact wpAny_pure ⟨rfl,rfl,λu hu'=>hall u (Qt9 _ hu')⟩
 ·rintro ⟨r1,r2⟩ s' ⟨hr,rfl,_⟩
  simp only at hr
  subst hr
  exact wpAny_pure hQ
theorem aCL{kd:HeapKind prog w K}(S:y8 kd)(hu:kd.room A){a:Addr}{o:Obj}{es:Array (Int×Value)}{ep:Nat}{t:SetTable}(ho:s.heap.get? a=some o)(hd:o.data=.set es ep t)(T:ST.Tab t es)
  {k:K} {b:Addr} (hb:kd.is s.heap k b) (els:∀(i:Nat) e,es[i]?=some e->∃k' b',e=(kd.hash k',Value.ref b')/\kd.is s.heap k' b') {N:Nat} (F:ST.Fst (·∈t.place.toList) t.mask (kd.hash k) N) (hN:N<=10*(13+t.mask))
  {Q:SetFound->Shared->Prop} (yes:∀(i:Nat) b',es[i]?=some (kd.hash k,.ref b')->kd.is s.heap k b'->Q (.there none) s) (no:(∀(i:Nat) k' b',es[i]?=some (kd.hash k',.ref b')->kd.is s.heap k' b'->k'≠k)->Q (.free (ST.pj t.mask (kd.hash k) N) false) s) :
  ∀f m (stand:Option SetTable.Probe),m<=N->N < f+m->stand.getD (t.probeStart (kd.hash k))=ST.pt t.mask (kd.hash k) m->(∀n (i:Nat) k' b',n < m->t.place[i]?=some (ST.pj t.mask (kd.hash k) n)->es[i]?=some (kd.hash k',.ref b')->kd.is s.heap k' b'->k'≠k)->
   wpAny (model prog w) A (setSearchFrom a (.ref b) (kd.hash k) true f stand) Q E s
 |0,m,_,h1,h2,_,_=>by omega
 |f+1,m,stand,h1,h2,hst,hbe=>by
  unfold setSearchFrom
  refine wpAny_bind (wpAny_setState_of ho hd T.fits ?_)
  dsimp only
  have gw:t.gaveWay=false:=by
   unfold SetTable.gaveWay
   rcases T.msk with z|z|z <;> rw[z] <;> rfl
  rw[gw]
  simp only[yL,if_false]
  rw[hst]
  rcases ST.aEP (ha:=λi=>(es[i]?.map (·.1)).getD 0) T.dm T.ris F (10*SetTable.turns t.mask) m h1 (by unfold SetTable.turns;omega) with ⟨e1,e2⟩|⟨n,i,e1,e2,e3,e4,e5,e6⟩
  ·split
   ·rename_i met heq
    obtain rfl:=Option.some.inj (e1.symm.trans heq)
    dsimp only
    refine wpAny_pure (no λi k' b' hi hk hkk=>?_)
    subst hkk
    obtain⟨n,n1,n2⟩:=T.on F hi
    by_cases hm:n < m
    ·exact hbe n i k' b' hm n2 hi hk rfl
    ·refine e2 n i (by omega) n1 n2 ?_
     rw[hi];rfl
   ·rename_i heq
    exact(heq _ e1).elim
  ·split
   ·rename_i met heq
    obtain rfl:=Option.some.inj (e5.symm.trans heq)
    dsimp only
    have il:i < es.size:=by rw[<-T.sz];exact(Rl9.mp e3).1
    obtain⟨k',b',ee,hk'⟩:=els i _ (Rd9 il)
    have hi:es[i]?=some (kd.hash k',.ref b'):=by rw[Rd9 il,ee]
    rw[hi] at e4
    have e4':kd.hash k'=kd.hash k:=e4
    have sm:t.sameMemory t.moves t.mask=some true:=by unfold SetTable.sameMemory;simp
    have nxt:k'≠k->wpAny (model prog w) A (setSearchFrom a (.ref b) (kd.hash k) true f (some (ST.pt t.mask (kd.hash k) (n+1)))) Q E s:=λhkk=>
     aCL S hu ho hd T hb els F hN yes no f (n+1) (some _) (by omega) (by omega) rfl λn' i' k2 b2 x1 x2 x3 x4=>by
      by_cases z1:n' < m
      ·exact hbe n' i' k2 b2 z1 x2 x3 x4
      ·by_cases z2:n' < n
       ·intro z3
        subst z3
        exact e6 n' i' (by omega) z2 x2 (by rw[x3];rfl)
       ·have z3:n'=n:=by omega
        subst z3
        have z4:i'=i:=by rw[<-ST.below_at T.ris x2,ST.below_at T.ris e3]
        subst z4
        rw[hi] at x3
        injection x3 with x3
        injection x3 with _ x5
        injection x5 with x5
        subst x5
        rw[kd.inj x4 hk']
        exact hkk
    split
    ·refine wpAny_bind (aLy S hb ?_ ?_)
     ·simp only[yL,if_false]
      rw[hi]
      dsimp only
      refine wpAny_bind (wpAny_holding (kd.eqBool hu hk' hb ?_))
      refine wpAny_bind (wpAny_setState_of ho hd T.fits ?_)
      dsimp only
      by_cases hkk:k'=k
      ·subst hkk
       simp only[decide_true,Bool.and_self,if_true]
       exact wpAny_pure (yes i b' hi hk')
      ·rw[decide_eq_false hkk]
       simp only[Rh9,yL,if_false]
       rw[sm]
       dsimp only
       simp only[if_true]
       rw[ST.y7 T.ris e3]
       dsimp only
       rw[hi]
       dsimp only
       refine wpAny_bind (wpAny_isSame_ref_self ?_)
       refine wpAny_bind (wpAny_pure ?_)
       simp only[if_true]
       exact nxt hkk
     ·intro y hy
      obtain⟨e,he,rfl⟩:=o8.mp hy
      rw[Array.toList_filter] at he
      obtain⟨q,hq⟩:=Sl9.mp (So9.mp he).1
      rw[Ra9] at hq
      obtain⟨k',b',rfl,hb'⟩:=els q e hq
      exact⟨k',b',rfl,hb'⟩
    ·rw[hi]
     dsimp only
     refine wpAny_bind (wpAny_holding (kd.eqBool hu hk' hb ?_))
     refine wpAny_bind (wpAny_setState_of ho hd T.fits ?_)
     dsimp only
     by_cases hkk:k'=k
     ·subst hkk
      simp only[decide_true,Bool.and_self,if_true]
      exact wpAny_pure (yes i b' hi hk')
     ·rw[decide_eq_false hkk]
      simp only[Rh9,yL,if_false]
      rw[sm]
      dsimp only
      simp only[if_true]
      rw[ST.y7 T.ris e3]
      dsimp only
      rw[hi]
      dsimp only
      refine wpAny_bind (wpAny_isSame_ref_self ?_)
      refine wpAny_bind (wpAny_pure ?_)
      simp only[if_true]
      exact nxt hkk
   ·rename_i heq
    exact(heq _ e5).elim
theorem aBc{α β:Type}{f:α->β}{l l':List β}(p:l.Perm l'):∀{ps:List α},l'=ps.map f->∃qs:List α,qs.Perm ps/\l=qs.map f:=by
 induction p with
 |nil=>intro ps e;cases ps with
  |nil=>exact⟨[],.nil,rfl⟩
  |cons a ps=>cases e
 |cons x _ ih=>intro ps e;cases ps with
  |nil=>cases e
  |cons a ps=>
   rw[Rg9] at e
   injection e with e1 e2
   obtain⟨qs,a1,a2⟩:=ih e2
   exact⟨a::qs,a1.cons _,by rw[Rg9,<-e1,<-a2]⟩
 |swap x y l=>intro ps e;match ps,e with
  |[],e=>cases e
  |[_],e=>simp at e
  |a::b::ps,e=>
   simp only[Rg9] at e
   injection e with e1 e2
   injection e2 with e2 e3
   exact⟨b::a::ps,List.Perm.swap ..,by simp[e1,e2,e3]⟩
 |trans _ _ ih1 ih2=>
  intro ps e
  obtain⟨qs,a1,a2⟩:=ih2 e
  obtain⟨rs,b1,b2⟩:=ih1 a2
  exact⟨rs,b1.trans a1,b2⟩
def aBd(kd:HeapKind prog w K)(bt:Bool)(h:Heap)(a:Addr)(ps:List (K×Addr)):Prop:=∃o es ep t,h.get? a=some o/\o.ExactSet/\o.data=.set es ep t/\ST.Tab t es/\es.size*5 < t.mask*3/\t.plain=true/\t.led=bt/\
 es.toList=ps.map (λp=>(kd.hash p.1,Value.ref p.2))/\(∀p∈ps,kd.is h p.1 p.2)/\(ps.map (·.1)).Nodup
theorem aBd.keep{kd:HeapKind prog w K}{bt:Bool}{h h':Heap}{a:Addr}{ps:List (K×Addr)}(x:aBd kd bt h a ps)(k1:∀o,h.get? a=some o->h'.get? a=some o)(k2:∀p∈ps,kd.is h p.1 p.2->kd.is h' p.1 p.2):aBd kd bt h' a ps:=by
 obtain⟨o,es,ep,t,ho,r1,r2,r3,r4,r5,r6,r7,r8,r9⟩:=x
 exact⟨o,es,ep,t,k1 o ho,r1,r2,r3,r4,r5,r6,r7,λp hp=>k2 p hp (r8 p hp),r9⟩
theorem aGJ{h:Heap}{a:Addr}{o:Obj}{es es':Array (Int×Value)}{ep:Nat}{t t':SetTable}(ho:h.get? a=some o)(hd:o.data=.set es ep t):(h.update a (Obj.putSet es' t')).get? a=some { o with data:=.set es' (ep+1) t' }:=by
 have:=Sd9 (Obj.putSet es' t') ho (by rw[putSet_of es' t' hd];rfl)
 rw[putSet_of es' t' hd] at this;exact this
theorem aNY{kd:HeapKind prog w K}(S:y8 kd)(hu:kd.room A){bt:Bool}{a:Addr}{ps:List (K×Addr)}(hS:aBd kd bt s.heap a ps){k:K}{b:Addr}(hb:kd.is s.heap k b)(hl:ps.length < 64)
  {Q:Bool->Shared->Prop} (h:∀h' ps' r,Heap.SameBut a s.heap h'->aBd kd bt h' a ps'->ps'.Perm (if k∈ps.map (·.1) then ps else (k,b)::ps)->Q r { s with heap:=h' }) :
  wpAny (model prog w) A (setAddHashed a (.ref b) (kd.hash k)) Q E s:=by
 obtain⟨o,es,ep,t,ho,hex,hd,T,cap,pl,ld,ee,hel,nd⟩:=id hS
 have sz:es.size=ps.length:=by have:=congrArg List.length ee;simpa using this
 have els:∀(i:Nat) e,es[i]?=some e->∃k' b',e=(kd.hash k',Value.ref b')/\kd.is s.heap k' b':=λi e he=>by
  rw[<-Ra9,ee,qB] at he
  obtain⟨p,hp,rfl⟩:=Qs9.mp he
  exact⟨p.1,p.2,rfl,hel p (iW hp)⟩
 obtain⟨N,hN,F⟩:=T.first (kd.hash k)
 have mL:t.mask<=127:=by rcases T.msk with z|z|z <;> omega
 unfold setAddHashed
 refine wpAny_holding ?_
 unfold setAddHashedIn
 refine wpAny_bind (wpAny_setState_of ho hd T.fits ?_)
 dsimp only
 rw[aJF]
 simp only[yL,if_false]
 unfold setSearch
 refine wpAny_bind (aCL S hu ho hd T hb els F hN (λi b' hi hk=>?_) (λhno=>?_) 100000 0 none (zL _) (by omega) (ST.aJB t _) (λn i k' b' z=>by omega))
 ·refine wpAny_pure ?_
  have hm:k∈ps.map (·.1):=by
   rw[<-Ra9,ee,qB] at hi
   obtain⟨p,hp,e⟩:=Qs9.mp hi
   injection e with _ e2
   injection e2 with e2
   have hp1:=hel p (iW hp)
   rw[e2] at hp1
   exact o8.mpr ⟨p,iW hp,kd.inj hp1 hk⟩
  have:=h s.heap ps false (Heap.SameBut.refl a s.heap) hS (by rw[if_pos hm])
  exact this
 ·dsimp only
  have hm:k∉ps.map (·.1):=λhm=>by
   obtain⟨p,hp,e⟩:=o8.mp hm
   obtain⟨i,hi⟩:=Sl9.mp hp
   refine hno i p.1 p.2 ?_ (hel p hp) e
   rw[<-Ra9,ee,qB,hi]
   rfl
  rw[if_neg hm] at h
  refine wpAny_bind (wpAny_setState_of ho hd T.fits ?_)
  dsimp only
  have hz:es.size+1<=t.mask:=by rcases T.msk with z|z|z <;> rw[z] at cap ⊢ <;> omega
  obtain⟨p1,p2,T1⟩:=T.put F hz (.ref b)
  rw[p1,p2]
  generalize hpl:SetTable.insertAt t.place (SetTable.below t.place (ST.pj t.mask (kd.hash k) N)) (ST.pj t.mask (kd.hash k) N)=pl1 at T1
  generalize hes:SetTable.insertAt es (SetTable.below t.place (ST.pj t.mask (kd.hash k) N)) (kd.hash k,Value.ref b)=es1 at T1
  have pm1:es1.toList.Perm (((k,b)::ps).map λp=>(kd.hash p.1,Value.ref p.2)):=by
   rw[<-hes]
   refine(SetTable.insertAt_perm _ _ _).trans ?_
   rw[Array.toList_push,ee,Rg9]
   exact List.perm_append_singleton ..
  obtain⟨ps1,q1,q2⟩:=aBc pm1 rfl
  have sz1:es1.size=ps.length+1:=by have:=pm1.length_eq;simpa using this
  have isk:∀{h':Heap},(∀b o,b≠a->s.heap.get? b=some o->h'.get? b=some o)->∀{qs:List (K×Addr)},qs.Perm ((k,b)::ps)->(∀p∈qs,kd.is h' p.1 p.2)/\(qs.map (·.1)).Nodup:=λhk qs pq=>by
   refine⟨λp hp=>S.keepsT ?_ λb o c e=>hk b o (λz=>by rw[z,ho] at e;cases e;rw[hex.1] at c;exact absurd c (by decide)) e,?_⟩
   ·rcases lW.mp (pq.mem_iff.mp hp) with rfl|hp
    ·exact hb
    ·exact hel p hp
   ·refine((pq.map (·.1)).nodup_iff).mpr ?_
    rw[Rg9]
    exact Rs9.mpr ⟨hm,nd⟩
  rw[if_pos pl]
  refine wpAny_bind (S.byVal hb ?_)
  simp only[if_true]
  refine wpAny_bind (wpAny_storeSet_of ho hd ?_ (by rw[sz1,sizeLine_eq];omega))
  have g1:=aGJ (es':=es1) (t':={ t with place:=pl1 }) ho hd
  have sb1:=Heap.SameBut.update s.heap a (Obj.putSet es1 { t with place:=pl1 })
  generalize hh1:s.heap.update a (Obj.putSet es1 { t with place:=pl1 })=h1 at g1 sb1
  have kp1:∀b o,b≠a->s.heap.get? b=some o->h1.get? b=some o:=λb o hn e=>(sb1.2 b hn).trans e
  have tf:({ t with place:=pl1 }:SetTable).tooFull=decide ((ps.length+1)*5 ≥ t.mask*3):=by
   unfold SetTable.tooFull SetTable.fill
   have:pl1.size=es1.size:=T1.sz
   dsimp only
   rw[this,sz1,T.dm]
   rfl
  rw[tf]
  by_cases full:(ps.length+1)*5 ≥ t.mask*3
  ·rw[decide_eq_true full]
   simp only[Bool.not_false,Bool.and_self,if_true]
   have cs:(t.mask=7/\ps.length=4)\/(t.mask=31/\ps.length=18):=by
    rw[sz] at cap
    rcases T.msk with z|z|z <;> rw[z] at cap full
    ·exact .inl ⟨z,by omega⟩
    ·exact .inr ⟨z,by omega⟩
    ·omega
   have ms:ST.Msk (SetTable.sizeAbove (SetTable.grown (es.size+1)) - 1)/\es1.size*5 < (SetTable.sizeAbove (SetTable.grown (es.size+1)) - 1)*3/\¬SetTable.sizeAbove (SetTable.grown (es.size+1)) > sizeLine:=by
    rw[sz,sz1]
    rcases cs with ⟨_,z⟩|⟨_,z⟩ <;> rw[z]
    ·exact⟨.inr (.inl (by decide)),by decide,by rw[sizeLine_eq];decide⟩
    ·exact⟨.inr (.inr (by decide)),by decide,by rw[sizeLine_eq];decide⟩
   generalize hW:SetTable.grown (es.size+1)=W at ms
   obtain⟨pl2,od,r1,r2,T2⟩:=ST.aHI (t:={ t with place:=pl1 }) (es:=es1) ms.1 (by omega)
   unfold setRelay
   refine wpAny_bind (wpAny_bind (wpAny_setState_of (s:={ s with heap:=h1 }) g1 rfl T1.fits ?_))
   dsimp only
   rw[if_neg ms.2.2]
   have er:∀{Q':(Array (Int×Value)×SetTable)->Shared->Prop},Q' (od.filterMap (es1[·]?),_) { s with heap:=h1 }->wpAny (model prog w) A (do
     let some (t,order):=({ t with place:=pl1 }:SetTable).relaid (es1.map (·.1)) W|unsupported "internal:set-table-without-room"
     let es':=order.filterMap (es1[·]?)
     if es'.size != es1.size then unsupported "internal:set-table-lost-an-element"
     pure (es',t)) Q' E { s with heap:=h1 }:=λ{Q'} hq=>by
    rw[r1]
    dsimp only
    have:((od.filterMap (es1[·]?)).size != es1.size)=false:=by
     have:=r2.length_eq
     rw[Re9,Re9] at this
     simp[this]
    rw[this]
    simp only[yL,if_false]
    exact wpAny_pure hq
   refine wpAny_bind (er ?_)
   obtain⟨ps2,u1,u2⟩:=aBc r2 q2
   have sz2:(od.filterMap (es1[·]?)).size=es1.size:=by have:=r2.length_eq;rw[Re9,Re9] at this;exact this
   refine wpAny_storeSet_of (s:={ s with heap:=h1 }) g1 rfl ?_ (by rw[sz2,sz1,sizeLine_eq];omega)
   refine wpAny_pure ?_
   have g2:=aGJ (es':=od.filterMap (es1[·]?)) (t':={ mask:=SetTable.sizeAbove W - 1,place:=pl2,dummies:=#[],finger:=t.finger,led:=t.led,moves:=({ t with place:=pl1 }:SetTable).movedTo (SetTable.sizeAbove W - 1),plain:=t.plain }) g1 rfl
   have sb2:=sb1.trans (Heap.SameBut.update h1 a (Obj.putSet (od.filterMap (es1[·]?)) { mask:=SetTable.sizeAbove W - 1,place:=pl2,dummies:=#[],finger:=t.finger,led:=t.led,moves:=({ t with place:=pl1 }:SetTable).movedTo (SetTable.sizeAbove W - 1),plain:=t.plain }))
   obtain⟨i1,i2⟩:=isk (λb o hn e=>(sb2.2 b hn).trans e) (u1.trans q1)
   exact h _ ps2 true sb2 ⟨_,_,_,_,g2,hex,rfl,T2,by rw[sz2];exact ms.2.1,pl,ld,u2,i1,i2⟩ (u1.trans q1)
  ·rw[decide_eq_false full]
   simp only[Bool.not_false,Tb9,Rh9,yL,if_false]
   obtain⟨i1,i2⟩:=isk kp1 q1
   exact wpAny_pure (h h1 ps1 true sb1 ⟨_,es1,ep+1,_,g1,hex,rfl,T1,by rw[sz1];dsimp only;omega,pl,ld,q2,i1,i2⟩ q1)
end
end L2
namespace L2
open PySem PySem.Spec PySem.W PyProof.Rows
theorem aEQ:Manifest.owners.lookup (String.ofList "rotareti_tes".toList.reverse)=some Manifest.sig_set_iterator:=by kernel_rfl
theorem vF:Slot "set_iterator" "__next__" "set_iterator.__next__":=
 .of (owner:="set_iterator") (n:="__next__") (by rw[typeLookup_type];rw[builtinLookup_eq_fast];kernel_rfl) (by decide +kernel) (by decide +kernel) (by decide +kernel) (by first|exact Or.inl (by decide +kernel)|exact Or.inr (by decide +kernel)) (by rw[isSubtype_type];kernel_rfl)
theorem aER:entryFor table "set_iterator.__next__" = some Builtin.«set_iterator.__next__»:=by refine entryFor_of_tree ?_;kernel_rfl
theorem aGK(a:Value):argsOk "set_iterator.__next__" ⟨[a],[]⟩:=by
 unfold argsOk;rw[signature?_of (id:="set_iterator.__next__") (n:="__txen__".toList) (o:="rotareti_tes".toList) (by kernel_rfl) aEQ];kernel_rfl
theorem aJG:bootBuiltins "set" = some (.type "set"):=by decide +kernel
theorem aLz:entryFor table "set.__iter__" = some Builtin.«frozenset.__iter__»:=by
 refine entryFor_alias (id':="frozenset.__iter__") ?_ rfl (by decide +kernel) ?_ <;> kernel_rfl
theorem aLA:entryFor table "set_iterator.__iter__" = some Builtin.«dict_keyiterator.__iter__»:=by
 refine entryFor_alias (id':="dict_keyiterator.__iter__") ?_ rfl (by decide +kernel) ?_ <;> kernel_rfl
theorem aES:Slot "set_iterator" "__iter__" "set_iterator.__iter__":=
 .of (owner:="set_iterator") (n:="__iter__") (by rw[typeLookup_type];rw[builtinLookup_eq_fast];kernel_rfl) (by decide +kernel) (by decide +kernel) (by decide +kernel) (by first|exact Or.inl (by decide +kernel)|exact Or.inr (by decide +kernel)) (by rw[isSubtype_type];kernel_rfl)
theorem aJH(a:Value):argsOk "set_iterator.__iter__" ⟨[a],[]⟩:=by
 unfold argsOk;rw[signature?_of (id:="set_iterator.__iter__") (n:="__reti__".toList) (o:="rotareti_tes".toList) (by kernel_rfl) aEQ];kernel_rfl
theorem aGL{α:Type}(f:Nat->Nat):∀(n k:Nat) (l:List α) (out:Array α),l.length=n->(pickOrder.go f n k l out).toList.Perm (out.toList++l)
 |0,k,l,out,h=>by
  have:l=[]:=List.eq_nil_of_length_eq_zero h
  subst this
  unfold pickOrder.go
  simp
 |n+1,k,l,out,h=>by
  have hl:f k % l.length < l.length:=Nat.mod_lt _ (by omega)
  unfold pickOrder.go
  rw[dF hl]
  dsimp only
  refine(aGL f n (k+1) _ _ (by rw[List.length_eraseIdx_of_lt hl,h];rfl)).trans ?_
  rw[Array.toList_push,Sz9]
  refine List.Perm.append_left _ ?_
  rw[Sh9]
  conv=>rhs;rw[<-List.take_append_drop (f k % l.length) l,List.drop_eq_getElem_cons hl]
  rw[List.singleton_append]
  exact List.perm_middle.symm
theorem aHJ{α:Type}(f:Nat->Nat)(xs:Array α):(pickOrder f xs).toList.Perm xs.toList:=by
 have:=aGL f xs.size 0 xs.toList #[] (by simp)
 simpa [pickOrder] using this
section
variable{prog:Program}{w:World}{A:Around}{E:Value->Shared->Prop}{s:Shared}
def nQ(w:World):Bool:=w.params.followText "set-order"
theorem aDz{Q:Bool->Shared->Prop}(h:Q (nQ w) s):wpAny (model prog w) A setsByText Q E s:=by
 unfold setsByText
 exact wpAny_bind (wpAny_askSetting (wpAny_pure h))
structure xK(w:World)(h:Heap)(a:Addr)(es:Array (Int×Value))(ep:Nat)(t:SetTable):Prop where
 at_:∃o,h.get? a=some o/\o.ExactSet/\o.data=.set es ep t
 tab:ST.Tab t es
 pl:t.plain=true
 ld:t.led = !nQ w
theorem xK.ty{a:Addr}{es ep t}(m:xK w s.heap a es ep t):s.TypeIs (.ref a) "set":=let ⟨o,x,y,_⟩:=m.at_;⟨o,x,y.1⟩
theorem xK.keep{h h':Heap}{a:Addr}{es ep t}(m:xK w h a es ep t)(k:∀o,h.get? a=some o->h'.get? a=some o):xK w h' a es ep t:=⟨let ⟨o,x,r⟩:=m.at_;⟨o,k o x,r⟩,m.tab,m.pl,m.ld⟩
def aAn(w:World)(a:Addr)(es:Array (Int×Value))(ep:Nat):Array (Int×Value):=if nQ w then pickOrder (w.params.setOrder a ep) es else es
theorem aCM(w:World)(a:Addr)(es:Array (Int×Value))(ep:Nat):(aAn w a es ep).toList.Perm es.toList:=by
 unfold aAn
 split
 ·exact aHJ _ _
 ·exact .rfl
theorem vG(w:World)(a:Addr)(es:Array (Int×Value))(ep:Nat):(aAn w a es ep).size=es.size:=by have:=(aCM w a es ep).length_eq;simpa using this
def slS(w:World)(t:SetTable)(i:Nat):Nat:=if nQ w then 0 else if i=0 then 0 else t.place.getD (i - 1) 0+1
def IzS(w:World)(h:Heap)(it a:Addr)(t:SetTable)(i n ep:Nat):Prop:=∃o,h.get? it=some o/\o.cls=.type "set_iterator"/\o.data=.fields #[.int (slS w t i) 0,.int i 0,.ref a,.int n 0,.int ep 0]
theorem aJI{a:Addr}{es ep t}(m:xK w s.heap a es ep t){Q:Bool->Shared->Prop}(h:Q false s):wpAny (model prog w) A (setDrawn a) Q E s:=by
 obtain⟨o,o1,o2,o3⟩:=m.at_
 unfold setDrawn
 refine wpAny_bind (wpAny_setState_of o1 o3 m.tab.fits (wpAny_bind (aDz ?_)))
 refine wpAny_pure ?_
 have e:∀b:Bool,(!b && (!t.plain && decide (es.size > 1)))=false:=λb=>by rw[m.pl];simp
 have:=e (nQ w)
 show Q (!nQ w && (!t.plain && decide (es.size > 1))) s
 rw[this];exact h
theorem aJJ{a:Addr}{es ep t}(m:xK w s.heap a es ep t){Q:Value->Shared->Prop}(h:Q (.ref s.heap.objs.size) { s with heap:=s.heap.push { cls:=.type "set_iterator",data:=.fields #[.int 0 0,.int 0 0,.ref a,.int es.size 0,.int ep 0] } }) :
  wpAny (model prog w) A (pyIter (.ref a)) Q E s:=by
 obtain⟨o,o1,o2,o3⟩:=m.at_
 refine wpAny_pyIter_slot m.ty F.slot_set_iter (wpAny_call_entry F.slot_set_iter m.ty aLz (show _ from ?_) (F.args_set_iter_1 _))
 unfold Builtin.«frozenset.__iter__» Builtin.Frozenset.slot0 slotArgs Builtin.Frozenset.sizeOf
 refine wpAny_bind (wpAny_bind (wpAny_pure (wpAny_pure ?_)))
 refine wpAny_bind (wpAny_bind (wpAny_setEntries_of o1 o3 m.tab.fits (wpAny_pure ?_)))
 refine wpAny_bind (aJI m ?_)
 simp only[yL,if_false]
 refine wpAny_bind (wpAny_pure (wpAny_bind (wpAny_setEpoch_of o1 o3 m.tab.fits ?_)))
 unfold newFields
 refine wpAny_bind (wpAny_newObj_type (wpAny_pure ⟨_,rfl,"set_iterator",_,⟨_,sN _ rfl,rfl⟩,vF.lookup,(show _ from ?_)⟩))
 simpa [rawInt] using h
theorem IzS.ty{it a:Addr}{t:SetTable}{i n ep:Nat}(x:IzS w s.heap it a t i n ep):s.TypeIs (.ref it) "set_iterator":=let ⟨o,p,q,_⟩:=x;⟨o,p,q⟩
theorem IzS.keep{h h':Heap}{it a:Addr}{t:SetTable}{i n ep:Nat}(m:IzS w h it a t i n ep)(k:∀o,h.get? it=some o->h'.get? it=some o):IzS w h' it a t i n ep:=let ⟨o,x,r⟩:=m;⟨o,k o x,r⟩
theorem aLB{t:SetTable}{es:Array (Int×Value)}(T:ST.Tab t es)(bt:nQ w=false){i:Nat}(hi:i<=es.size):SetTable.below t.place (slS w t i)=i:=by
 have hz:=T.sz
 obtain⟨c1,c2,c3⟩:=ST.vD T.ris (slS w t i)
 unfold slS at c1 c2 c3 ⊢
 rw[bt] at c1 c2 c3 ⊢
 simp only[yL,if_false] at c1 c2 c3 ⊢
 by_cases z:i=0
 ·rw[if_pos z] at c1 c2 c3 ⊢
  rw[z]
  apply Classical.byContradiction
  intro q
  have:=c2 0 (by omega)
  omega
 ·rw[if_neg z] at c1 c2 c3 ⊢
  rcases Nat.lt_trichotomy (SetTable.below t.place (t.place.getD (i - 1) 0+1)) i with q|q|q
  ·have:=c3 (i - 1) (by omega) (by omega)
   omega
  ·exact q
  ·have h1:=c2 i q
   have h2:=T.ris (i - 1) i (by omega) (by omega)
   omega
theorem aJK{a:Addr}{es ep t}(m:xK w s.heap a es ep t){i:Nat}(hi:i<=es.size){Q:Option (Value×Nat)->Shared->Prop}
  (h:Q ((aAn w a es ep)[i]?.map λe=>(e.2,slS w t (i+1))) s):wpAny (model prog w) A (setNext a (slS w t i) i ep) Q E s:=by
 obtain⟨o,o1,o2,o3⟩:=m.at_
 unfold setNext
 refine wpAny_bind (wpAny_setState_of o1 o3 m.tab.fits (wpAny_bind (aDz ?_)))
 by_cases bt:nQ w=true
 ·rw[if_pos bt]
  simp only[bne_self_eq_false,yL,if_false]
  unfold setWalk
  refine wpAny_bind (wpAny_bind (wpAny_setState_of o1 o3 m.tab.fits (wpAny_bind (aDz ?_))))
  rw[if_pos bt]
  refine wpAny_bind (wpAny_askSetting (wpAny_pure ?_))
  refine wpAny_pure ?_
  unfold aAn slS at h
  rw[if_pos bt,if_pos bt] at h
  unfold slS
  rw[if_pos bt]
  exact h
 ·have bf:nQ w=false:=by simpa using bt
  rw[if_neg bt]
  have dn:(!t.plain && decide (es.size > 1))=false:=by rw[m.pl];rfl
  refine(show wpAny (model prog w) A (if (!t.plain && decide (es.size > 1))=true then unsupported _ else _) Q E s from ?_)
  rw[dn]
  simp only[yL,if_false]
  have ml:wpAny (model prog w) A (do if !t.led && !es.isEmpty then unsupported "set:maker-not-led") (λ_ s'=>s'=s) E s:=by
   rw[m.ld,bf]
   simp only[Bool.not_false,Td9,Rx9,yL,if_false]
   exact wpAny_pure rfl
  refine wpAny_bind (wpAny_mono ml (λ_ s' e=>?_) λ_ _ e=>e)
  subst e
  rw[aLB m.tab bf hi]
  refine wpAny_pure ?_
  have eo:aAn w a es ep=es:=by unfold aAn;rw[if_neg bt]
  rw[eo] at h
  by_cases z:i < es.size
  ·have z2:i < t.place.size:=by rw[m.tab.sz];exact z
   rw[Rd9 z] at h ⊢
   rw[Rd9 z2]
   have e2:slS w t (i+1)=t.place[i] + 1:=by unfold slS;rw[if_neg bt,if_neg (by omega)];simp[Array.getD,z2]
   rw[e2] at h
   exact h
  ·rw[St9 (by omega)] at h ⊢
   exact h
theorem IzS.turn{h:Heap}{it a:Addr}{t:SetTable}{i n ep:Nat}{o:Obj}(g1:h.get? it=some o)(g2:o.cls=.type "set_iterator")(g3:o.data=.fields #[.int (slS w t i) 0,.int i 0,.ref a,.int n 0,.int ep 0]) :
  IzS w ((h.update it (Obj.mapFields (·.setIfInBounds 0 (rawInt (slS w t (i+1)))))).update it (Obj.mapFields (·.setIfInBounds 1 (rawInt ((i:Int)+1))))) it a t (i+1) n ep:=by
 have e1:=Sd9 (Obj.mapFields (·.setIfInBounds 0 (rawInt (slS w t (i+1))))) g1 (Obj.isFreed_of_fields (Obj.data_mapFields g3 _))
 have e2:=Sd9 (Obj.mapFields (·.setIfInBounds 1 (rawInt ((i:Int)+1)))) e1 (Obj.isFreed_of_fields (Obj.data_mapFields (Obj.data_mapFields g3 _) _))
 exact⟨_,e2,((Obj.cls_mapFields ..).trans (Obj.cls_mapFields ..)).trans g2,by rw[Obj.data_mapFields (Obj.data_mapFields g3 _)];simp[rawInt]⟩
theorem aJL{it a:Addr}{es ep t}{i:Nat}{e:Int×Value}(x:IzS w s.heap it a t i es.size ep)(m:xK w s.heap a es ep t)(he:(aAn w a es ep)[i]?=some e){Q:Option Value->Shared->Prop}
  (hQ:∀h',IzS w h' it a t (i+1) es.size ep->Heap.SameBut it s.heap h'->Q (some e.2) { s with heap:=h' }):wpAny (model prog w) A (pyNext (.ref it)) Q E s:=by
 obtain⟨o,g1,g2,g3⟩:=id x
 obtain⟨so,o1,o2,o3⟩:=m.at_
 have il:i < es.size:=by rw[<-vG w a es ep];exact(Rl9.mp he).1
 unfold pyNext
 refine wpAny_bind (wpAny_attempt (wpAny_callSpecial?_slot (name:=Str.ofString "__next__") x.ty vF (wpAny_call_entry vF x.ty aER (show _ from ?_) (aGK _))))
 unfold Builtin.«set_iterator.__next__» slotArgs
 refine wpAny_bind (wpAny_pure ?_)
 refine wpAny_bind (wpAny_fieldsOf g1 g3 ?_)
 dsimp only
 refine wpAny_bind (wpAny_setEntries_of o1 o3 m.tab.fits ?_)
 rw[if_neg (by simp)]
 simp only[Ru9]
 refine wpAny_bind (aJK m (by omega) ?_)
 rw[he]
 dsimp only [Option.map]
 refine wpAny_bind (wpAny_setField g1 g3 (by simp) ?_)
 have e1:=Sd9 (Obj.mapFields (·.setIfInBounds 0 (rawInt (slS w t (i+1))))) g1 (Obj.isFreed_of_fields (Obj.data_mapFields g3 _))
 refine wpAny_bind (wpAny_setField (s:={ s with heap:=_ }) e1 (Obj.data_mapFields g3 _) (by simp) ?_)
 exact wpAny_pure ⟨_,rfl,wpAny_pure (hQ _ (IzS.turn g1 g2 g3) ((Heap.SameBut.update ..).trans (Heap.SameBut.update ..)))⟩
theorem aLC{it a:Addr}{es ep t}(hh:A.handled=none)(x:IzS w s.heap it a t es.size es.size ep)(m:xK w s.heap a es ep t){Q:Option Value->Shared->Prop}
  (hQ:∀h',Heap.ExtBut it s.heap h'->Q none { s with heap:=h' }):wpAny (model prog w) A (pyNext (.ref it)) Q E s:=by
 obtain⟨o,g1,g2,g3⟩:=id x
 obtain⟨so,o1,o2,o3⟩:=m.at_
 unfold pyNext
 refine wpAny_bind (wpAny_attempt (wpAny_callSpecial?_slot (name:=Str.ofString "__next__") x.ty vF (wpAny_call_entry vF x.ty aER (show _ from ?_) (aGK _))))
 unfold Builtin.«set_iterator.__next__» slotArgs
 refine wpAny_bind (wpAny_pure ?_)
 refine wpAny_bind (wpAny_fieldsOf g1 g3 ?_)
 dsimp only
 refine wpAny_bind (wpAny_setEntries_of o1 o3 m.tab.fits ?_)
 rw[if_neg (by simp)]
 simp only[Ru9]
 refine wpAny_bind (aJK m (dQ _) ?_)
 rw[St9 (by rw[vG];omega)]
 dsimp only [Option.map]
 refine wpAny_bind (wpAny_setField g1 g3 (by simp) ?_)
 refine wpAny_bind (show _ from ?_);simp only[newExc,newTuple];refine wpAny_bind (wpAny_newObj_type (show _ from ?_) (by size_fits))
 refine wpAny_bind (m:=firstArgMember _ _) (wpAny_of_eq (a:=Value.none) (by first|rfl|(simp only[firstArgMember];rfl)) ?_)
 refine wpAny_newObj_type ?_ (by size_fits)
 simp only[raiseNew]
 refine wpAny_bind (wpAny_handled ?_)
 rw[show A.in1.handled=none from hh]
 refine wpAny_bind (wpAny_pure (wpAny_throw ?_))
 refine wpAny_bind (wpAny_isInstance (T:="StopIteration") (b:=true) ⟨_,sN _ rfl,rfl⟩ isSubtype_stop ?_)
 exact wpAny_pure (hQ _ (((Heap.SameBut.update ..).extBut.push _).push _))
theorem aNZ{I a:Addr}(hh:A.handled=none)(hne:a≠I){es:Array (Int×Value)}{ep:Nat}{t:SetTable} :
  Walks prog w A I [I,a] [I] es.size (λi v=>∃e,(aAn w a es ep)[i]?=some e/\v=e.2) (λi h=>IzS w h I a t i es.size ep/\xK w h a es ep t) where
 sub:=λb hb=>lW.mpr (.inl (by simpa using hb))
 frame:=λ_ _ _ st hk=>⟨st.1.keep λo e=>hk I (by simp) o e,st.2.keep λo e=>hk a (by simp) o e⟩
 item:=λi s Q E hi st hQ=>by
  have hx:=Rd9 (xs:=aAn w a es ep) (i:=i) (by rw[vG];exact hi)
  exact aJL st.1 st.2 hx λh' p q=>hQ _ h' s.toks ⟨_,hx,rfl⟩ ⟨p,st.2.keep λo e=>q.extBut a o hne e⟩ λb' o hb e=>q.extBut b' o (λz=>hb (zJ.mpr z)) e
 done:=λs Q E st hQ=>aLC hh st.1 st.2 λh' z=>hQ h' s.toks λb o hb e=>z b o (λy=>hb (zJ.mpr y)) e
 self:=λ_ _ _ _ st hQ=>by
  refine wpAny_pyIter_slot st.1.ty aES (wpAny_call_entry aES st.1.ty aLA ?_ (aJH _))
  show wpAny _ _ (ret (.ref I)) _ _ _
  exact wpAny_pure ⟨_,rfl,"set_iterator",_,st.1.ty,vF.lookup,hQ⟩
end
end L2
namespace L2
open PySem PySem.Spec PySem.W PyProof.Rows
section
variable{prog:Program}{w:World}{K:Type}[DecidableEq K]{A:Around}{E:Value->Shared->Prop}{s:Shared}
theorem aN0{kd:HeapKind prog w K}(S:y8 kd)(hr:kd.room A.in1)(hh:A.in1.handled=none){bt:Bool}{I l a:Addr}(n1:l≠I)(n2:a≠I)(n3:a≠l){items:Array Value}{its:List (K×Addr)}(hi:items.toList=its.map λp=>Value.ref p.2){all:List K}(ha:∀p∈its,p.1∈all)(h64:all.length < 64)
  {R:Result->Shared->Prop} {h₀:Heap} {s₀:Shared} (hR:∀h' tk ps,(∀b o,b≠a->b≠I->h₀.get? b=some o->h'.get? b=some o)->aBd kd bt h' a ps->(∀p∈ps,p∈its)->(∀k,k∈ps.map (·.1)↔k∈its.map (·.1))->R (.ok (.ret .none)) { s₀ with heap:=h',toks:=tk }) :
  ∀(k i:Nat) (h:Heap) (tk:Nat) (ps:List (K×Addr)),items.size - i=k->i<=items.size->h.IsListIter I l i->h.IsList l items->(∀p∈its,kd.is h p.1 p.2)->(∀b o,b≠a->b≠I->h₀.get? b=some o->h.get? b=some o)->
   aBd kd bt h a ps->(∀p∈ps,p∈its)->(∀k,k∈ps.map (·.1)↔k∈(its.take i).map (·.1))->codeAny (model prog w) A (.builtin "set.update.loop" ⟨[.ref a,.ref I],[]⟩) R { s₀ with heap:=h,toks:=tk }:=by
 have zl:items.size=its.length:=by have:=congrArg List.length hi;simpa using this
 have keepI:∀{h h':Heap} {i:Nat},h.IsListIter I l i->(∀b o,b∉[I]->h.get? b=some o->h'.get? b=some o)->∀(b:Addr) (o:Obj),o.cls=.type "tuple"->h.get? b=some o->h'.get? b=some o:=λ⟨o',g,c,_⟩ hk b o hc e=>hk b o (λz=>by
  rw[zJ.mp z,g] at e
  cases e
  rw[c] at hc
  exact absurd hc (by decide)) e
 intro k
 induction k with
 |zero=>
  intro i h tk ps hk hle st sl his hfr hS hin hky
  have ei:i=items.size:=by omega
  subst ei
  refine codeAny_builtin F.entry_set_update_loop ?_
  rw[Around.under_plainId F.plain_set_update_loop _]
  refine(show wpAny _ A.in1 (pyNext (.ref I) >>= _) _ _ _ from wpAny_bind ((Walks.list hh I l n1 items).done { s₀ with heap:=h,toks:=tk } _ _ ⟨st,sl⟩ λh' tk' hm=>?_))
  refine(show wpAny _ A.in1 (ret Value.none) _ _ _ from wpAny_pure (hR h' tk' ps (λb o x1 x2 e=>hm b o (by simpa using x2) (hfr b o x1 x2 e)) (hS.keep (λo e=>hm a o (by simpa using n2) e) λp hp e=>S.keepsT e (keepI st hm)) hin λk=>?_))
  rw[hky,zl,Rb9]
 |succ k ih=>
  intro i h tk ps hk hle st sl his hfr hS hin hky
  have hlt:i < items.size:=by omega
  refine codeAny_builtin F.entry_set_update_loop ?_
  rw[Around.under_plainId F.plain_set_update_loop _]
  refine(show wpAny _ A.in1 (pyNext (.ref I) >>= _) _ _ _ from wpAny_bind ((Walks.list hh I l n1 items).item i { s₀ with heap:=h,toks:=tk } _ _ hlt ⟨st,sl⟩ λv h' tk' hv st' hm=>?_))
  have hil:i < its.length:=by omega
  have ev:v=.ref its[i].2:=by
   rw[<-Ra9,hi,qB,dF hil] at hv
   exact(Option.some.inj hv).symm
  subst ev
  have mi:its[i]∈its:=Rk9 hil
  have his':∀p∈its,kd.is h' p.1 p.2:=λp hp=>S.keepsT (his p hp) (keepI st hm)
  have hS':aBd kd bt h' a ps:=hS.keep (λo e=>hm a o (by simpa using n2) e) λp hp e=>S.keepsT e (keepI st hm)
  have lp:ps.length < 64:=by
   obtain⟨_,_,_,_,_,_,_,_,_,_,_,_,_,nd⟩:=hS
   have:=ST.aGA nd (λx hx=>by obtain⟨p,hp,rfl⟩:=o8.mp hx;exact ha p (hin p hp))
   rw[cD] at this
   omega
  refine(show wpAny _ A.in1 (holding [Value.ref its[i].2] (setAdd a (.ref its[i].2)) >>= _) _ _ _ from wpAny_bind (wpAny_holding ?_))
  unfold setAdd
  refine wpAny_holding (wpAny_bind (kd.pyHash (s:={ s₀ with heap:=h',toks:=tk' }) hr (his' _ mi) ?_))
  refine aNY (s:={ s₀ with heap:=h',toks:=tk'+kd.draws its[i].1 }) S hr hS' (his' _ mi) lp λh2 ps2 r sb S2 pp=>?_
  obtain⟨so,sx,sy⟩ : ∃o,h'.get? a=some o/\o.cls=.type "set":=by obtain⟨o,_,_,_,x,y,_⟩:=hS';exact⟨o,x,y.1⟩
  have his2:∀p∈its,kd.is h2 p.1 p.2:=λp hp=>S.keepsT (his' p hp) λb o c e=>(sb.2 b (λz=>by
   rw[z,sx] at e
   cases e
   rw[sy] at c
   exact absurd c (by decide))).trans e
  refine wpAny_pure ⟨plainId_quiet F.plain_set_update_loop _,ih (i+1) h2 _ ps2 (by omega) hlt ?_ ?_ his2 (λb o x1 x2 e=>(sb.2 b x1).trans (hm b o (by simpa using x2) (hfr b o x1 x2 e))) S2 (λp hp=>?_) λk'=>?_⟩
  ·obtain⟨o,x,y⟩:=st'.1
   exact⟨o,(sb.2 I (Ne.symm n2)).trans x,y⟩
  ·obtain⟨o,x,y⟩:=st'.2
   exact⟨o,(sb.2 l (Ne.symm n3)).trans x,y⟩
  ·have:=pp.mem_iff.mp hp
   split at this
   ·exact hin p this
   ·rcases lW.mp this with e|e
    ·rw[e];exact mi
    ·exact hin p e
  ·have e1:(its.take (i+1)).map (·.1)=(its.take i).map (·.1) ++ [its[i].1]:=by rw[List.take_succ,dF hil,iI];rfl
   rw[e1,Rf9,zJ,<-hky k',(pp.map (·.1)).mem_iff]
   split
   ·rename_i z
    constructor
    ·exact .inl
    ·rintro (x|x)
     ·exact x
     ·rw[x];exact z
   ·rw[Rg9,lW]
    exact Or.comm
theorem aLD(kd:HeapKind prog w K)(led:Bool){h:Heap}{a:Addr}(g:h.get? a=some { cls:=.type "set",dict:=none,data:=.set #[] 0 (.fresh 0 0 led) }):aBd kd led h a []:=
 ⟨_,#[],0,_,g,⟨rfl,rfl,rfl⟩,rfl,⟨rfl,rfl,λi k _ hk=>by simp[SetTable.fresh] at hk,λj hj=>by simp[SetTable.fresh] at hj,.inl rfl,by simp[SetTable.fresh],λi j e hi=>by simp[SetTable.fresh] at hi⟩,by simp[SetTable.fresh],rfl,rfl,rfl,(λp hp=>absurd hp Sk9),Sy9⟩
theorem aO6(a:Value){Q₁:Value->Shared->Prop}(hq:Q₁ (.ref s.heap.objs.size) { s with heap:=s.heap.push { cls:=.type "set",dict:=none,data:=.set #[] 0 (.fresh 0 0 (!nQ w)) } }) :
  codeAny (model prog w) A (.call (.builtin "set.__new__") ⟨[.type "set",a],[]⟩) (wants Q₁ E) s:=by
 refine codeAny_of_tree (show wpAny _ A.in1 (do checkBuiltinCall "set.__new__" ⟨[.type "set",a],[]⟩;again (.builtin "set.__new__" ⟨[.type "set",a],[]⟩)) _ _ s from ?_)
 refine wpAny_bind (wpAny_of_eq (F.newCall_set_1 a) (wpAny_pure ⟨plainId_quiet F.plain_set_new _,codeAny_builtin F.entry_set_new (show _ from ?_)⟩))
 rw[Around.under_plainId F.plain_set_new _]
 unfold Builtin.«set.__new__»;unfold Builtin.Frozenset.newClass
 have hsub:=sub_set_self
 obtain⟨hp,g,d,tk,os⟩:=s;dsimp only
 wp_walk
 refine wpAny_askSetting (show _ from wpAny_pure ?_)
 dsimp only;simp only[newObj]
 refine wpAny_bind (wpAny_alloc (show _ from wpAny_pure ?_))
 exact wpAny_pure hq
theorem aN1{kd:HeapKind prog w K}(S:y8 kd)(hr:∀A':Around,A'.units<=A.units+8->kd.room A')(hh:A.handled=none){l:Addr}{items:Array Value}(hl:s.heap.IsList l items){its:List (K×Addr)}(hi:items.toList=its.map λp=>Value.ref p.2)(his:∀p∈its,kd.is s.heap p.1 p.2){all:List K}(ha:∀p∈its,p.1∈all)(h64:all.length < 64)
  {Q:Value->Shared->Prop} (h:∀h' tk ps,(∀b o,s.heap.get? b=some o->h'.get? b=some o)->aBd kd (!nQ w) h' s.heap.objs.size ps->(∀p∈ps,p∈its)->(∀k,k∈ps.map (·.1)↔k∈its.map (·.1))->Q (.ref s.heap.objs.size) { s with heap:=h',toks:=tk }) :
  wpAny (model prog w) A (call (.type "set") [.ref l]) Q E s:=by
 obtain⟨c0,tl0,m0⟩:=F.called_set.mro
 have m1:=F.called_set.made
 have m2:=F.called_set.sub
 refine wpAny_call (codeAny_of_tree (show wpAny _ _ (callAny (.type "set") _) _ _ _ from ?_))
 refine wpAny_pure ⟨Code.quiet_builtin _ (by decide +kernel),codeAny_builtin F.entry_type_call (show _ from ?_)⟩
 rw[Around.under_plain (weight_type_call_type "set" [Value.ref l] []) rfl]
 have m3:=F.called_set.notType
 have m4:=F.called_set.canCreate
 have m5:=F.typeCall_set_1 (.ref l)
 repeat (any_goals (first|wp_step|assumption))
 generalize ho:({ cls:=.type "set",dict:=none,data:=.set #[] 0 (.fresh 0 0 (!nQ w)) }:Obj)=ob
 refine codeAny_mono (aO6 (.ref l) (E:=E) (Q₁:=λu s₁=>u=.ref s.heap.objs.size/\s₁={ s with heap:=s.heap.push ob }) ⟨rfl,by rw[<-ho]⟩) λr s₁ hr1=>?_
 have gN:(s.heap.push ob).get? s.heap.objs.size=some ob:=sN _ (by rw[<-ho];rfl)
 cases r with
 |error e=>exact hr1
 |ok fl=>
  cases fl with
  |ret obj=>
   obtain⟨rfl,rfl⟩:=hr1
   have hT:Shared.TypeIs { s with heap:=s.heap.push ob } (.ref s.heap.objs.size) "set":=⟨_,gN,by rw[<-ho]⟩
   have m6:=F.called_set.init.lookup
   have m7:=F.called_set.init.bind (.ref s.heap.objs.size)
   repeat (any_goals (first|wp_step|assumption))
   refine codeAny_mono (codeAny_call_builtin (R:=wants (λr s₂=>r=.none/\∃h' tk ps,s₂={ s with heap:=h',toks:=tk }/\(∀b o,s.heap.get? b=some o->h'.get? b=some o)/\aBd kd (!nQ w) h' s.heap.objs.size ps/\(∀p∈ps,p∈its)/\(∀k,k∈ps.map (·.1)↔k∈its.map (·.1))) E) F.called_set.init.plain F.entry_set_init (check_set_init_1 hT ?_)) λr₂ s₂ hr₂=>?_
   ·obtain⟨ol,g1,g2,nl,g3⟩:=id hl
    obtain⟨oc,od,oda,osl⟩:=ol
    dsimp only at g2 g3
    subst g2;subst g3
    have g4:(s.heap.push ob).get? l=some { cls:=.type "list",dict:=od,data:=.seq items nl,slots:=osl }:=lV _ g1
    have m8:=F.sub_list_set
    have m9:=F.sub_list_frozenset
    have ne:(Value.type "list" == Value.type "dict")=false:=by decide
    have hl1:(s.heap.push ob).IsList l items:=⟨_,g4,rfl,nl,rfl⟩
    subst ho
    unfold Builtin.«set.__init__»;unfold noKeywords;unfold Builtin.Frozenset.updateFrom
    generalize hPI:pyIter=PI
    wp_walk
    subst hPI
    refine wpAny_pyIter_list hl1 (wpAny_bind (wpAny_runValue (show _ from ?_)))
    have ll:l < s.heap.objs.size:=hX g1
    have zI:(s.heap.push { cls:=.type "set",dict:=none,data:=.set #[] 0 (.fresh 0 0 (!nQ w)) }).objs.size=s.heap.objs.size+1:=Th9 ..
    refine aN0 (kd:=kd) (bt:=!nQ w) (s₀:=s) (h₀:=s.heap) S (hr _ (by simp)) (by simp[hh]) (items:=items) (its:=its) (by rw[zI];exact pP (Ta9 ll)) (by rw[zI];exact pP (Te9 _)) (Tj9 ll) hi ha h64 (λh' tk ps x1 x2 x3 x4=>?_) (items.size - 0) 0 _ s.toks [] (by omega) (zL _) ⟨_,sN _ rfl,rfl,rfl⟩ (hl1.push _) (λp hp=>S.keepsT (his p hp) λb o _ e=>lV _ (lV _ e)) (λb o _ _ e=>lV _ (lV _ e)) (aLD kd _ (lV _ gN)) (λp hp=>absurd hp Sk9) (λk=>by simp)
    refine wpAny_pure (show wpAny _ _ (ret Value.none) _ _ _ from wpAny_pure ⟨rfl,h',tk,ps,rfl,λb o e=>x1 b o (pP (hX e)) (by rw[zI];exact pP (Ta9 (hX e))) e,x2,x3,x4⟩)
   ·cases r₂ with
    |error e=>exact hr₂
    |ok fl₂=>
     cases fl₂ with
     |ret r=>
      obtain⟨rfl,h',tk,ps,rfl,x1,x2,x3,x4⟩:=hr₂
      repeat (any_goals (first|wp_step|assumption))
      exact h _ _ _ x1 x2 x3 x4
     |_=>exact hr₂.elim
  |_=>exact hr1.elim
end
end L2
namespace L2
open PySem PySem.Spec PySem.W PyProof.Rows
section
variable{prog:Program}{w:World}{A:Around}{E:Value->Shared->Prop}{s:Shared}
theorem aN2{r:Addr}{Q:Bool->Shared->Prop}(hT:s.TypeIs (.ref r) "set")(h:Q false s):wpAny (model prog w) A (Builtin.List.listLengthHint (.ref r)) Q E s:=by
 unfold Builtin.List.listLengthHint
 refine wpAny_bind (wpAny_specialOf hT F.slot_set_len.lookup (show _ from ?_))
 generalize hid:("set.__len__" : String)=id0
 wp_delta
 rw[show splitId id0=some ("set","__len__") by subst hid;decide +kernel]
 subst hid
 refine wpAny_bind (wpAny_isInstance (T:="set") (b:=true) hT (by rw[isSubtype_type];kernel_rfl) (show _ from ?_))
 refine wpAny_ite_split (λz=>absurd z (by decide)) (λ_=>(show _ from ?_))
 refine wpAny_ite_split (λ_=>(show _ from ?_)) (λz=>absurd (by decide +kernel) z)
 exact wpAny_bind (wpAny_typeOf hT (wpAny_pure h))
theorem aO7{a:Addr}{es:Array (Int×Value)}{ep:Nat}{t:SetTable}:KdlSrc prog w "set" a a es.size (λi v=>∃e,(aAn w a es ep)[i]?=some e/\v=e.2) (λh=>xK w h a es ep t) where
 type:=λ_ hm=>hm.ty
 there:=λ_ hm=>let ⟨_,e,_⟩:=hm.at_;⟨hX e,hX e⟩
 keep:=λ_ _ hm hk=>hm.keep λo e=>hk a (.inl rfl) o e
 notList:=by decide
 notTuple:=by decide
 hint:=λ_ _ _ _ hm hq=>aN2 hm.ty hq
 iter:=λ_ _ hh hm=>⟨_,_,(λ_ _ hq=>aJJ hm hq),aNZ hh (pP (let ⟨_,e,_⟩:=hm.at_;hX e)),⟨⟨_,sN _ rfl,rfl,by simp[slS]⟩,hm.keep λo e=>lV _ e⟩⟩
theorem aO8:y8 (tupleKind (intKind prog w)) where
 keepsT:=λ⟨o,its,n,a,b,c⟩ k=>⟨o,its,n,k _ o b a,b,c⟩
 byVal:=by
  intro A E s k b Q hk h
  have hT:=IsTupleKey.typeIs hk
  obtain⟨o,items,n,ho,_,hd,hi⟩:=hk
  unfold hashByValue
  refine wpAny_bind (wpAny_specialOf hT F.slot_tuple_hash.lookup (show _ from ?_))
  dsimp only
  refine wpAny_bind (wpAny_seqItems ho hd ?_)
  rw[Tf9,<-Array.forIn_toList]
  refine wpAny_bind (wpAny_forIn_list _ (λrest r s'=>r.1=none/\s'=s/\∀v∈rest,∃n t,v=Value.int n t) _ ?_ ?_ _ _ ⟨rfl,rfl,?_⟩)
  ·rintro v rest r s' ⟨hr,rfl,hall⟩
   obtain⟨n,t,rfl⟩:=hall v Rc9
   refine wpAny_bind (show wpAny _ _ (pure true) _ _ _ from wpAny_pure ?_)
   simp only[Td9,yL,if_false]
   exact wpAny_pure ⟨rfl,rfl,λu hu'=>hall u (Qt9 _ hu')⟩
  ·rintro ⟨r1,r2⟩ s' ⟨hr,rfl,_⟩
   dsimp only at hr
   subst hr
   exact wpAny_pure h
  ·clear ho hd
   generalize items.toList=l at hi
   induction hi with
   |nil=>intro v hv;cases hv
   |cons h1 _ ih=>
    intro v hv
    rcases lW.mp hv with e|hv
    ·obtain⟨t,e2⟩:=Value.isInt_shape h1
     exact⟨_,t,e.trans e2⟩
    ·exact ih v hv
 noCls:=by
  intro A E s k b Q hk h
  have hT:=IsTupleKey.typeIs hk
  obtain⟨o,items,n,ho,_,hd,hi⟩:=hk
  unfold ofAClassStatement
  refine wpAny_bind (wpAny_typeOf hT ?_)
  dsimp only
  rw[if_pos (by decide)]
  refine wpAny_bind (wpAny_pure ?_)
  simp only[Td9,yL,if_false]
  refine wpAny_bind (wpAny_seqItems ho hd ?_)
  dsimp only
  rw[<-Array.forIn_toList]
  refine wpAny_bind (wpAny_forIn_list _ (λrest r s'=>r.1=none/\s'=s/\∀v∈rest,∃n t,v=Value.int n t) _ ?_ ?_ _ _ ⟨rfl,rfl,?_⟩)
  ·rintro v rest r s' ⟨hr,rfl,hall⟩
   obtain⟨n,t,rfl⟩:=hall v Rc9
   refine wpAny_bind (show wpAny _ _ (pure false) _ _ _ from wpAny_pure ?_)
   simp only[yL,if_false]
   exact wpAny_pure ⟨rfl,rfl,λu hu'=>hall u (Qt9 _ hu')⟩
  ·rintro ⟨r1,r2⟩ s' ⟨hr,rfl,_⟩
   dsimp only at hr
   subst hr
   exact wpAny_pure h
  ·clear ho hd
   generalize items.toList=l at hi
   induction hi with
   |nil=>intro v hv;cases hv
   |cons h1 _ ih=>
    intro v hv
    rcases lW.mp hv with e|hv
    ·obtain⟨t,e2⟩:=Value.isInt_shape h1
     exact⟨_,t,e.trans e2⟩
    ·exact ih v hv
end
theorem aBe{prog:Program}{w:World}:∀{vs:List Value}{ns:List Int},IntsAre vs ns->ItemsAre (intKind prog w) ns vs
 |_,_,.nil=>.nil
 |_,_,.cons n t r=>.cons (intKind_is _ _ _ _) (aBe r)
def aBf(w:World)(b:Addr)(qs:List Addr):Heap->Prop:=λh=>∃es ep t,xK w h b es ep t/\es.toList.map (·.2)=qs.map Value.ref
section
variable{X:Cx}
def aGM(w:World):List V->Hp->VK->Prop:=λxs H Q=>∃(l:Addr) (qs:List Addr) (ts al:List (List Int)),xs=[.ref l]/\H l=some (.lst (qs.map V.ref))/\d7 H qs ts/\(∀t∈ts,t∈al)/\al.length < 64/\
 ∀(p:Addr) (qs':List Addr) (us:List (List Int)),H p=none->d7 H qs' us->us.Nodup->(∀t,t∈us↔t∈ts)->Q (.ref p) (upd H p (.ext (aBf w p qs')))
theorem aCN(hc:X.calm=true)(hu:X.A.units+9 < cLine):eJ X (.type "set") (aGM X.w):=by
 intro pins s σ H xs us Q I r h
 obtain⟨l,qs,ts,al,rfl,hl,ht,hal,h64,q⟩:=h
 obtain⟨u,rfl,ru⟩:=vals1 r
 cases ru
 obtain⟨z,its,n,rv,hlen,e⟩:=I.aEo hl
 obtain rfl:=aDm rv
 have hq:=ht.len
 have mz:∀p∈ts.zip qs,∃j:Nat,ts[j]?=some p.1/\qs[j]?=some p.2:=λp hp=>by
  obtain⟨j,hj⟩:=Sl9.mp hp
  obtain⟨a,b⟩:=To9.mp hj
  exact⟨j,a,b⟩
 have zq:(ts.zip qs).map (λp=>Value.ref p.2)=qs.map Value.ref:=by
  rw[<-List.map_snd_zip (l₁:=ts) (l₂:=qs) (by omega),Rp9]
  congr 1
  rw[List.map_snd_zip (by omega)]
 have zt:(ts.zip qs).map (·.1)=ts:=Uj9 (by omega)
 refine aN1 (kd:=tupleKind (intKind X.prog X.w)) aO8 (λA' hA=>show A'.units < cLine by omega) (I.ok.hd hc) ⟨_,e,rfl,_,rfl⟩ (its:=ts.zip qs) zq.symm (λp hp=>?_) (all:=al) (λp hp=>hal _ (Tu9 hp).1) h64 λh' tk ps k1 S1 k2 k3=>?_
 ·obtain⟨j,a,b⟩:=mz p hp
  obtain⟨x,ne⟩:=ht.at_ j _ _ b a
  obtain⟨_,its,r,o,g1,g2,n,g3⟩:=(show cA X.prog X.w H s.heap p.2 (.tup (p.1.map V.int)) from I.hok p.2 _ x)
  exact⟨o,_,n,g1,g2,g3,aBe (by simpa using qR r)⟩
 ·obtain⟨o,es,ep,t,g1,g2,g3,T,cap,pl,ld,ee,_,nd⟩:=S1
  have raw:xK X.w h' s.heap.objs.size es ep t:=⟨⟨o,g1,g2,g3⟩,T,pl,ld⟩
  have em:es.toList.map (·.2)=(ps.map (·.2)).map Value.ref:=by rw[ee,Rp9,Rp9];rfl
  refine⟨.ref s.heap.objs.size,_,I.laid (a:=s.heap.objs.size) (o:=.ext (aBf X.w s.heap.objs.size (ps.map (·.2)))) (t':=tk) (λb u q=>k1 b u q) (dQ _) ⟨⟨es,ep,t,raw,em⟩,⟨_,g1⟩,λh1 h2 z k=>?_⟩,rfl,q _ _ (ps.map (·.1)) (I.hok.fresh (dQ _)) ⟨by simp,λj a b x y=>?_⟩ nd λt=>by rw[k3,zt]⟩
  ·obtain⟨es,ep,t,r,m⟩:=z
   exact⟨es,ep,t,r.keep k,m⟩
  ·rw[qB] at x y
   obtain⟨p,hp,e1⟩:=Qs9.mp x
   rw[hp] at y
   cases y
   obtain⟨j,a1,b1⟩:=mz p (k2 p (iW hp))
   rw[<-e1]
   exact ht.at_ j _ _ b1 a1
def aFZ(w:World):List V->Hp->VK->Prop:=λxs H Q=>∃(b:Addr) (rs:List Addr) (ts:List (List Int)),xs=[.ref b]/\H b=some (.ext (aBf w b rs))/\d7 H rs ts/\ts.length < 64/\
 ∀(p:Addr) (qs:List Addr) (us:List (List Int)),H p=none->d7 H qs us->us.Perm ts->us.Pairwise (λa b=>sM b a=false)->Q (.ref p) (upd H p (.lst (qs.map V.ref)))
theorem aF0(hc:X.calm=true):eJ X (.builtin "sorted") (aFZ X.w):=by
 intro pins s σ H xs us Q I r h
 obtain⟨b,rs,ts0,rfl,hb,ht0,h64',q⟩:=h
 obtain⟨u,rfl,ru⟩:=vals1 r
 cases ru
 obtain⟨es,ep,t,raw,em⟩ : aBf X.w b rs s.heap:=(show cA X.prog X.w H s.heap b (.ext (aBf X.w b rs)) from I.hok b _ hb).1
 have hz:es.size=rs.length:=by have:=congrArg List.length em;simpa using this
 have hr0:=ht0.len
 refine Calls.call_function_entry kind_sorted plain_sorted entry_sorted (args_sorted1 (.ref b)) ?_
 unfold Builtin.«sorted»
 refine wpAny_bind (m:=checkCount "sorted" 1 1 _) (wpAny_pure (wpAny_bind (PySem.W.kdu_collect (A:=X.A.in1) (aO7 (a:=b) (es:=es) (ep:=ep) (t:=t)) (I.ok.hd hc) raw (by rw[sizeLine_eq];omega) λh1 tk acc k0 hacc=>?_)))
 obtain⟨qs,ts,ht,ea,pm0⟩ : ∃(qs:List Addr) (ts:List (List Int)),d7 H qs ts/\acc.toList=qs.map Value.ref/\ts.Perm ts0:=by
  have p1:((aAn X.w b es ep).toList.map (·.2)).Perm ((rs.zip ts0).map λp=>Value.ref p.1):=by
   have:(rs.zip ts0).map (λp=>Value.ref p.1)=es.toList.map (·.2):=by
    rw[em,<-Uj9 (l₁:=rs) (l₂:=ts0) (by omega),Rp9]
    congr 1
    rw[Uj9 (by omega)]
   rw[this]
   exact(aCM X.w b es ep).map _
  obtain⟨zs,z1,z2⟩:=aBc p1 rfl
  refine⟨zs.map (·.1),zs.map (·.2),⟨by simp,λj a t' x y=>?_⟩,?_,?_⟩
  ·rw[qB] at x y
   obtain⟨p,hp,e1⟩:=Qs9.mp x
   rw[hp] at y
   cases y
   obtain⟨i,hi⟩:=Sl9.mp (z1.mem_iff.mp (iW hp))
   obtain⟨a1,b1⟩:=To9.mp hi
   rw[<-e1]
   exact ht0.at_ i _ _ a1 b1
  ·rw[Rp9]
   refine Eq.trans ?_ z2
   refine List.ext_getElem? λj=>?_
   by_cases hj:j < acc.size
   ·have e1:acc[j]?=some acc[j]:=Rd9 hj
    obtain⟨e,he,ev⟩:=hacc.2 j _ e1
    rw[Ra9,e1,ev,qB,Ra9,he]
    rfl
   ·rw[Su9 (by simpa using hj),Su9 (by rw[cD,Re9,vG,<-hacc.1];omega)]
  ·have:=z1.map (·.2)
   rw[List.map_snd_zip (by omega)] at this
   exact this
 have hq:=ht.len
 have hts:=pm0.length_eq
 have hv:(qs.map Value.ref).length=qs.length:=cD ..
 rw[ea]
 have h64:qs.length < 64:=by omega
 refine wpAny_bind (wpAny_newList ?_ (by rw[hv,sizeLine_eq];omega))
 have k1:∀b o,s.heap.get? b=some o->(h1.push (seqObj "list" (qs.map Value.ref).toArray 0)).get? b=some o:=λb o g=>lV _ (k0 b o g)
 have gD:(h1.push (seqObj "list" (qs.map Value.ref).toArray 0)).get? h1.objs.size=some (seqObj "list" (qs.map Value.ref).toArray 0):=sN _ rfl
 refine wpAny_bind (wpAny_holding (wpAny_call_entry (s:={ s with heap:=h1.push (seqObj "list" (qs.map Value.ref).toArray 0),toks:=tk }) slot_list_sort ⟨_,gD,rfl⟩ entry_list_sort (aHx gD ((ht.pQ I).keeps λb o _ g=>k1 b o g) (by rw[hv];exact h64) λp hr hu=>⟨_,rfl,?_⟩) (args_list_sort (.ref h1.objs.size))))
 rw[hv] at hr hu
 have pl:p.toList.Perm (List.range qs.length):=by simpa using Array.perm_iff_toList_perm.mp hr
 have plen:p.toList.length=qs.length:=by have:=pl.length_eq;simpa using this
 have eo:(xJ (qs.map Value.ref) p).toList=(p.toList.map λi=>qs.getD i 0).map Value.ref:=by
  unfold xJ
  show p.toList.map (λi=>(qs.map Value.ref).getD i Value.none)=_
  rw[Rp9]
  refine Tq9 λi hi=>?_
  have li:i < qs.length:=Rn9.mp (pl.mem_iff.mp hi)
  show(qs.map Value.ref).getD i Value.none=Value.ref (qs.getD i 0)
  simp[Qo9,dF li]
 refine wpAny_pure ⟨_,rfl,?_⟩
 obtain⟨c,hc2⟩:=sortedHeap_at (out:=xJ (qs.map Value.ref) p) gD
 have T':d7 H (p.toList.map λi=>qs.getD i 0) (p.toList.map λi=>ts.getD i []):=by
  refine⟨by rw[cD,cD],λj a b x y=>?_⟩
  rw[qB] at x y
  obtain⟨i,e1,e2⟩:=Qs9.mp x
  rw[e1] at y
  have li:i < qs.length:=Rn9.mp (pl.mem_iff.mp (iW e1))
  refine ht.at_ i a b ?_ ?_
  ·rw[<-e2];simp[Qo9,dF li]
  ·cases y
   simp[Qo9,dF (show i < ts.length by omega)]
 obtain⟨hn,I2⟩:=I.aO0 (t':=tk) (h':=sortedHeap (h1.push (seqObj "list" (qs.map Value.ref).toArray 0)) h1.objs.size (qs.map Value.ref) (xJ (qs.map Value.ref) p)) (a:=h1.objs.size) (o:=.lst ((p.toList.map λi=>qs.getD i 0).map V.ref)) (λb ob g=>by
   have lb:b < h1.objs.size:=hX (k0 b ob g)
   rw[sortedHeap_old (pP lb) (by rw[size_push'];exact Ta9 lb)]
   exact k1 b ob g) (λb ob g=>pP (hX (k0 b ob g)))
  ⟨by rw[cD,cD,plen,sizeLine_eq];omega,(p.toList.map λi=>qs.getD i 0).map Value.ref,c,aA5 _,by rw[<-eo,Array.toArray_toList];exact hc2⟩
 refine⟨.ref h1.objs.size,_,I2,rfl,q _ _ _ hn T' ?_ ?_⟩
 ·have:=pl.map (λi=>ts.getD i [])
  rw[hq,range_getD] at this
  exact this.trans pm0
 ·rw[List.pairwise_iff_getElem]
  intro i j hi hj hij
  rw[cD,plen] at hi hj
  have key:∀k (hk:k < p.toList.length),(p.toList.map λi=>ts.getD i [])[k]'(by rw[cD];exact hk)=kq (O:=aHw) (λi=>ts.getD i []) p k:=λk hk=>by
   rw[List.getElem_map]
   unfold kq
   have:p.getD k 0=p.toList[k]:=by
    have hk':k < p.size:=by simpa using hk
    simp[Array.getD,hk']
   rw[this]
  rw[key i (by omega),key j (by omega)]
  exact hu i j (by omega) hj
def aJM(w:World):List V->Hp->VK->Prop:=λxs H Q=>∃(b:Addr) (rs:List Addr),xs=[.ref b]/\H b=some (.ext (aBf w b rs))/\Q (.int rs.length) H
theorem aHK:eJ X (.builtin "len") (aJM X.w):=by
 intro pins s σ H xs us Q I r h
 obtain⟨b,rs,rfl,hb,q⟩:=h
 obtain⟨u,rfl,ru⟩:=vals1 r
 cases ru
 obtain⟨es,ep,t,raw,em⟩ : aBf X.w b rs s.heap:=(show cA X.prog X.w H s.heap b (.ext (aBf X.w b rs)) from I.hok b _ hb).1
 have hz:es.size=rs.length:=by have:=congrArg List.length em;simpa using this
 obtain⟨o,g1,g2,g3⟩:=raw.at_
 have ms:es.size<=127:=by have:=raw.tab.room;have:=raw.tab.sz;rcases raw.tab.msk with z|z|z <;> omega
 refine call_len_set g1 g2 g3 raw.tab.fits (Int.lt_of_lt_of_le (b:=128) (by omega) (by decide)) ?_
 rw[hz]
 exact⟨.int rs.length,H,I.tok _,⟨_,rfl⟩,q⟩
end
section
variable{w:World}{H:Hp}{Q:VK}
theorem aGN{l:Addr}{qs:List Addr}{ts al:List (List Int)}(h1:H l=some (.lst (qs.map V.ref)))(h2:d7 H qs ts)(h3:∀t∈ts,t∈al)(h4:al.length < 64)
  (h:∀(p:Addr) (qs':List Addr) (us:List (List Int)),H p=none->d7 H qs' us->us.Nodup->(∀t,t∈us↔t∈ts)->Q (.ref p) (upd H p (.ext (aBf w p qs')))):aGM w [.ref l] H Q:=⟨l,qs,ts,al,rfl,h1,h2,h3,h4,h⟩
theorem aJN{b:Addr}{rs:List Addr}{ts:List (List Int)}(h1:H b=some (.ext (aBf w b rs)))(h2:d7 H rs ts)(h3:ts.length < 64)
  (h:∀(p:Addr) (qs:List Addr) (us:List (List Int)),H p=none->d7 H qs us->us.Perm ts->us.Pairwise (λa b=>sM b a=false)->Q (.ref p) (upd H p (.lst (qs.map V.ref)))):aFZ w [.ref b] H Q:=⟨b,rs,ts,rfl,h1,h2,h3,h⟩
theorem aLE{b:Addr}{rs:List Addr}(h1:H b=some (.ext (aBf w b rs)))(q:Q (.int rs.length) H):aJM w [.ref b] H Q:=⟨b,rs,rfl,h1,q⟩
end
end L2
namespace L2
open PySem PySem.Spec PySem.W PyProof.Rows
section
variable{prog:Program}{w:World}{A:Around}{E:Value->Shared->Prop}{s:Shared}{it d:Addr}{es:Array DictEntry}{ep i:Nat}
def prO(e:DictEntry):Obj:={ cls:=.type "tuple",data:=.seq #[e.key,e.val] }
structure aO9(es:Array DictEntry)(lo:Addr)(h:Heap)(as:List Addr):Prop where
 rise:as.Pairwise (·< ·)
 above:∀a∈as,lo < a
 at_:∀(j:Nat) (a:Addr),as[j]?=some a->∃e,es[j]?=some e/\h.get? a=some (prO e)
theorem aO9.there{lo:Addr}{h:Heap}{as:List Addr}(g:aO9 es lo h as){a:Addr}(ha:a∈as):a < h.objs.size:=by
 obtain⟨j,hj⟩:=Sl9.mp ha
 obtain⟨_,_,e⟩:=g.at_ j a hj
 exact hX e
end
end L2
namespace L2
open PySem PySem.Spec PySem.W PyProof.Rows
section
variable{prog:Program}{w:World}{A:Around}{E:Value->Shared->Prop}{s:Shared}
end
end L2
namespace L2
open PySem PySem.Spec PySem.W PyProof.Rows
section
variable{X:Cx}
end
end L2
namespace L2
open PySem PySem.Spec PySem.W PyProof.Rows
def eO(kvs:List (List Key×V)):List (List Key×V):=kvs.foldl (λacc kv=>putK acc kv.1 kv.2) []
theorem aET(kvs:List (List Key×V))(kv:List Key×V):eO (kvs ++ [kv])=putK (eO kvs) kv.1 kv.2:=by unfold eO;rw[List.foldl_append];rfl
theorem aBg:∀kvs:List (List Key×V),(eO kvs).length<=kvs.length:=λkvs=>by
 have key:∀(l acc:List (List Key×V)),(l.foldl (λacc kv=>putK acc kv.1 kv.2) acc).length<=acc.length+l.length:=λl=>by
  induction l with
  |nil=>intro acc;exact dQ _
  |cons kv l ih=>
   intro acc
   have:=ih (putK acc kv.1 kv.2)
   have:=iQ acc kv.1 kv.2
   simp only[List.foldl_cons,yM]
   omega
 have:=key kvs []
 simpa [eO] using this
structure aGO(H:Hp)(qs:List Addr)(kvs:List (List Key×V)):Prop where
 len:qs.length=kvs.length
 at_:∀(j:Nat) q kv,qs[j]?=some q->kvs[j]?=some kv->∃b,H q=some (.tup [.ref b,kv.2])/\H b=some (.tup (kv.1.map kV))
section
variable{X:Cx}
theorem vH{P:Program}{w:World}{h h':Heap}{D:Addr}{xs:List (List Key×Addr×Value)}(m:h.DictOfH (tupleKind (bX P w)) D xs)(k1:∀o,h.get? D=some o->h'.get? D=some o)(k2:∀(b:Addr) (o:Obj),o.cls=.type "tuple"->h.get? b=some o->h'.get? b=some o):h'.DictOfH (tupleKind (bX P w)) D xs:=by
 obtain⟨o,es,ep,h1,h2,h3,h4,h5,h6⟩:=m
 refine⟨o,es,ep,k1 o h1,h2,h3,h4,λx hx=>?_,h6⟩
 obtain⟨o',its,n,a,b,c⟩:=h5 x hx
 exact⟨o',its,n,k2 _ _ b a,b,c⟩
theorem aHL{pins:List (Addr×Obj)}{σ:St}{H:Hp}{s:Shared}{A:Around}{R:Result->Shared->Prop}{D I l:Addr}{qs:List Addr}{kvs:List (List Key×V)}(J:Inv X pins σ H s)(hh:A.handled=none)(hu:A.in1.units < cLine)(nD:s.heap.get? D=none)(nI:s.heap.get? I=none)(nDI:D≠I)(nDl:D≠l)(nlI:l≠I)(hK:aGO H qs kvs)(hsz:kvs.length<=sizeLine)
  (hR:∀h' tk xs,KT H (eO kvs) xs->h'.DictOfH (tupleKind (bX X.prog X.w)) D xs->(∀b o,b≠D->b≠I->s.heap.get? b=some o->h'.get? b=some o)->R (.ok (.ret .none)) { s with heap:=h',toks:=tk }) :
  ∀(k i:Nat) (h:Heap) (tk:Nat) (xs:List (List Key×Addr×Value)),qs.length - i=k->i<=qs.length->h.IsListIter I l i->h.IsList l (qs.map Value.ref).toArray->KT H (eO (kvs.take i)) xs->h.DictOfH (tupleKind (bX X.prog X.w)) D xs->(∀b o,b≠D->b≠I->s.heap.get? b=some o->h.get? b=some o)->
   codeAny (model X.prog X.w) A (.builtin "dict.update.loop" ⟨[.ref D,.ref I,rawInt i,.none],[]⟩) R { s with heap:=h,toks:=tk }:=by
 have hl0:=hK.len
 have tupI:∀{h:Heap} {i:Nat},h.IsListIter I l i->∀(b:Addr) (o:Obj),o.cls=.type "tuple"->h.get? b=some o->b≠I:=λ⟨o',g,c,_⟩ b o hc e z=>by
  rw[z,g] at e
  cases e
  rw[c] at hc
  exact absurd hc (by decide)
 have tupD:∀{h:Heap} {xs:List (List Key×Addr×Value)},h.DictOfH (tupleKind (bX X.prog X.w)) D xs->∀(b:Addr) (o:Obj),o.cls=.type "tuple"->h.get? b=some o->b≠D:=λ⟨o',es,ep,g,c,_⟩ b o hc e z=>by
  rw[z,g] at e
  cases e
  rw[c.1] at hc
  exact absurd hc (by decide)
 intro k
 induction k with
 |zero=>
  intro i h tk xs hk hi it hl rel hd fr
  have e:i=qs.length:=by omega
  subst e
  refine codeAny_builtin tH ?_
  rw[Around.under_plainId jD _]
  refine(show wpAny _ A.in1 (pyNext (.ref I) >>= _) _ _ _ from wpAny_bind (wpAny_pyNext_list_end (s:={ s with heap:=h,toks:=tk }) (A:=A.in1) hh it hl (by simp) λh' he=>?_))
  refine wpAny_bind (wpAny_pure (wpAny_pure ?_))
  rw[Sb9 (by omega)] at rel
  exact hR h' tk xs rel (vH hd (λo e=>he D o nDI e) λb o c e=>he b o (tupI it b o c e) e) λb o a1 a2 q=>he b o a2 (fr b o a1 a2 q)
 |succ k ih=>
  intro i h tk xs hk hi it hl rel hd fr
  have il:i < qs.length:=by omega
  have eq1:qs[i]?=some qs[i]:=dF il
  have ekv:kvs[i]?=some kvs[i]:=dF (by omega)
  obtain⟨b,gq,gb⟩:=hK.at_ i _ _ eq1 ekv
  generalize qs[i]=T at eq1 gq
  generalize kvs[i]=kv at ekv gq gb
  obtain⟨_,its,rr,oT,hoT,hcT,nT,hdT⟩:=(show cA X.prog X.w H s.heap T (.tup [.ref b,kv.2]) from J.hok T _ gq)
  obtain⟨u1,v,rfl,ru1,rv⟩:=vals2 rr
  cases ru1
  refine codeAny_builtin tH ?_
  rw[Around.under_plainId jD _]
  refine(show wpAny _ A.in1 (pyNext (.ref I) >>= _) _ _ _ from wpAny_bind (wpAny_pyNext_list_item (s:={ s with heap:=h,toks:=tk }) it hl (x:=.ref T) (by simp[eq1]) λh' it' sb=>?_))
  have up:∀(b:Addr) (o:Obj),s.heap.get? b=some o->h'.get? b=some o:=λb o e=>sb.extBut b o (λz=>by rw[z,nI] at e;cases e) (fr b o (λz=>by rw[z,nD] at e;cases e) (λz=>by rw[z,nI] at e;cases e) e)
  have hd':=vH hd (λo e=>sb.extBut D o nDI e) λb o c e=>sb.extBut b o (tupI it b o c e) e
  have key:(tupleKind (bX X.prog X.w)).is h' kv.1 b:=by
   obtain⟨o',its',n',a1,a2,a3⟩:=sW J.hok gb
   exact⟨o',its',n',up _ _ a1,a2,a3⟩
  have xl:xs.length<=sizeLine:=by
   have h1:=Paired.length rel
   have h2:=aBg (kvs.take i)
   rw[uV] at h2
   omega
  refine wpAny_bind (wpAny_holding (wpAny_bind (wpAny_tryCatch ?_)))
  unfold Builtin.Dict.pairItems
  refine wpAny_bind (wpAny_typeOf (T:="tuple") ⟨oT,up _ _ hoT,hcT⟩ ?_)
  rw[if_pos (by decide)]
  refine wpAny_bind (aEN (up _ _ hoT) hdT (wpAny_pure ?_))
  refine(show wpAny _ A.in1 (holding [Value.ref b,v] (dictSet D (.ref b) v)) _ _ _ from wpAny_holding (wpAny_dictSet_heap (s:={ s with heap:=h',toks:=tk }) (knd:=tupleKind (bX X.prog X.w)) hu key hd' (λh2 hd2 sb2=>?_) xl))
  refine wpAny_pure ⟨plainId_quiet jD _,?_⟩
  rw[show rawInt ((i:Int)+1)=rawInt ((i+1:Nat):Int) by rw[Int.natCast_succ]]
  replace sb2:Heap.SameBut D h' h2:=sb2
  have tk1:kvs.take (i+1)=kvs.take i ++ [kv]:=by rw[Sg9,ekv];rfl
  exact ih (i+1) h2 _ _ (by omega) il (it'.extBut sb2.extBut (Ne.symm nDI)) ((hl.extBut sb.extBut nlI).extBut sb2.extBut (Ne.symm nDl)) (by rw[tk1,aET];exact rel.put kv.1 gb rv) hd2 λb o a1 a2 q=>sb2.extBut b o a1 (sb.extBut b o a2 (fr b o a1 a2 q))
def y9:List V->Hp->VK->Prop:=λxs H Q=>∃(l:Addr) (qs:List Addr) (kvs:List (List Key×V)),xs=[.ref l]/\H l=some (.lst (qs.map V.ref))/\aGO H qs kvs/\qs.length<=1000/\∀p,H p=none->Q (.ref p) (upd H p (.dT (eO kvs)))
theorem qT(hc:X.calm=true)(hu:X.A.units+9 < cLine):eJ X (.type "dict") y9:=by
 intro pins s σ H xs us Q I r h
 obtain⟨l,qs,kvs,rfl,hl,hp,hz,q⟩:=h
 obtain⟨u,rfl,ru⟩:=vals1 r
 cases ru
 obtain⟨z,its,n,rv,hlen,e⟩:=I.aEo hl
 obtain rfl:=aDm rv
 have hkl:=hp.len
 have big:sizeLine ≥ 1000:=by rw[sizeLine_eq];decide
 refine callType_codes (Q₁:=λobj s₁=>obj=.ref s.heap.objs.size/\s₁={ s with heap:=s.heap.push { cls:=.type "dict",data:=.dict #[] } }) F.kt_called_dict (F.kt_typeCall_dict_1 _) F.entry_dict_init (kt_code_dict_new _ ⟨rfl,rfl⟩) ?_
 rintro obj s₁ ⟨rfl,rfl⟩
 have hnew:(s.heap.push { cls:=.type "dict",data:=.dict #[] }).DictOfH (tupleKind (bX X.prog X.w)) s.heap.objs.size []:=Heap.DictOfH.new s.heap
 have ty:Shared.TypeIs { s with heap:=s.heap.push { cls:=.type "dict",data:=.dict #[] } } (.ref s.heap.objs.size) "dict":=hnew.typeIs
 refine⟨ty,F.args_dict_init_2 _ _,?_⟩
 unfold Builtin.«dict.__init__»
 refine wpAny_bind ?_
 unfold Builtin.Dict.selfAndRest
 refine wpAny_bind (wpAny_notOrdered_dict ty ?_)
 refine(show wpAny _ _ (pure (s.heap.objs.size,[Value.ref l])) _ _ _ from wpAny_pure ?_)
 refine(show wpAny _ _ (Builtin.Dict.updateFrom "dict.__init__" s.heap.objs.size (.ref l) [] .none) _ _ _ from ?_)
 unfold Builtin.Dict.updateFrom
 have e':(s.heap.push { cls:=.type "dict",data:=.dict #[] }).get? l=some { cls:=.type "list",data:=.seq (qs.map Value.ref).toArray n }:=lV _ e
 refine wpAny_bind (wpAny_typeOf (T:="list") ⟨_,e',rfl⟩ ?_)
 rw[if_pos (by decide)]
 refine wpAny_bind (aLu (show X.A.in1.in1.handled=none from I.ok.hd hc) e' λh1 tk k1=>?_)
 simp only[Option.isNone_none,if_true]
 refine wpAny_bind (wpAny_rule ?_)
 have g1:h1.IsList l (qs.map Value.ref).toArray:=⟨_,k1 _ _ e',rfl,_,rfl⟩
 have d1:h1.DictOfH (tupleKind (bX X.prog X.w)) s.heap.objs.size []:=vH hnew (λo e=>k1 _ _ e) λb o _ e=>k1 _ _ e
 refine wpAny_bind (wpAny_pyIter_list (s:={ s with heap:=h1,toks:=tk }) g1 ?_)
 refine wpAny_pure ⟨plainId_quiet jD _,?_⟩
 have lD:s.heap.objs.size < h1.objs.size:=by obtain⟨o,es,ep,a,r⟩:=d1;exact hX a
 have ll:l < s.heap.objs.size:=hX e
 have k2:∀b o,s.heap.get? b=some o->(h1.push { cls:=.type "list_iterator",data:=.fields #[.ref l,.int 0 0] }).get? b=some o:=λb o q=>lV _ (k1 b o (lV _ q))
 have nn:∀a,s.heap.objs.size<=a->s.heap.get? a=none:=λa h=>by
  cases z:s.heap.get? a with
  |none=>rfl
  |some o=>exact absurd (hX z) (Nat.not_lt.mpr h)
 refine aHL (s:=s) (A:=X.A.in1) I (show X.A.in1.handled=none from I.ok.hd hc) (by show X.A.units+1+1 < cLine;omega) (D:=s.heap.objs.size) (I:=h1.objs.size) (l:=l) (qs:=qs) (kvs:=kvs) (nn _ (dQ _)) (nn _ (Tr9 lD)) (pP lD) (Tj9 ll) (pP (Nat.lt_trans ll lD)) hp (by omega)
  (λh' tk' xs rel dd fr=>?_) _ 0 _ tk [] rfl (zL _) ⟨_,sN _ rfl,rfl,rfl⟩ (g1.push _) .nil (vH d1 (λo e=>lV _ e) λb o _ e=>lV _ e) (λb o _ _ q=>k2 b o q)
 have hm:(eO kvs).length<=sizeLine:=by have:=aBg kvs;omega
 obtain⟨o,es,ep,h1',h2',h3',h4',_,h6'⟩:=dd
 have hn:H s.heap.objs.size=none:=I.hok.fresh (dQ _)
 refine⟨rfl,.ref s.heap.objs.size,_,I.laid (a:=s.heap.objs.size) (o:=.dT (eO kvs)) (t':=tk') (λb u q=>?_) (dQ _) ⟨hm,beq_eq_false_iff_ne.mpr (Ne.symm (pP I.big)),xs,rel.keeps λc ys ec=>?_,o,es,ep,h1',h2',h3',h4',h6'⟩,rfl,q _ hn⟩
 ·have lb:=hX q
  exact fr b u (pP lb) (pP (Nat.lt_trans lb lD)) q
 ·rw[bB (λz=>by rw[z,hn] at ec;cases ec)]
  exact ec
theorem xM{H:Hp}{Q:VK}{l:Addr}{qs:List Addr}{kvs:List (List Key×V)}(h1:H l=some (.lst (qs.map V.ref)))(h2:aGO H qs kvs)(h3:qs.length<=1000)(h:∀p,H p=none->Q (.ref p) (upd H p (.dT (eO kvs)))):y9 [.ref l] H Q:=⟨l,qs,kvs,rfl,h1,h2,h3,h⟩
end
end L2
namespace L2
open PySem PySem.Spec PySem.W PyProof.Rows
def Itq(d:Addr)(o:Obj)(kvs:List (List Key×V)):It:=
 ⟨λi H=>H d=some (.frz o (.dT kvs))/\i < kvs.length,λi H x H'=>H'=H/\∃kv,kvs[i]?=some kv/\x=kv.2,λi H=>H d=some (.frz o (.dT kvs))/\kvs.length<=i⟩
theorem aDA{P:Program}{w:World}{K:PySem.W.Frag}{tg:Expr}(d it:Addr)(o:Obj)(kvs:List (List Key×V))(es:Array DictEntry)(ep:Nat)(hc0:o.cls=.type "dict")(hd0:o.data=.dict es ep)(hn:es.size=kvs.length) :
  Turn P w K tg (Itq d o kvs) [it] it (λi h=>It4 "dict_valueiterator" h it d i es.size ep) where
 mem:=by simp
 obj:=λi h st b hb=>by
  have z:b=it:=by simpa using hb
  subst z
  obtain⟨u,e,c,q⟩:=st
  exact⟨u,e,λv z=>by rw[q] at z;cases z⟩
 keep:=λi h h' st k=>st.keep λu e=>k it (by simp) u e
 item:=by
  intro X hP hw hK hc i pins s σ H E I hf st hg
  subst hP hw hK
  obtain⟨hd,hi⟩:=hg
  have hO:cA X.prog X.w H s.heap d (.frz o (.dT kvs)):=I.hok d _ hd
  obtain⟨ho,hO⟩:=hO
  obtain⟨lo,o',es',ep',xs,g1,g2,g3,rel,g4,g5⟩:=wK hO
  have eo:o'=o:=Option.some.inj (g1.symm.trans ho)
  subst eo
  have ee:es'=es/\ep'=ep:=by rw[hd0] at g3;injection g3 with a b;exact⟨a.symm,b.symm⟩
  obtain⟨e1,e2⟩:=ee
  subst e1 e2
  have raw:Raw s.heap d es' ep':=⟨o',ho,hc0,hd0⟩
  have hx:kvs[i]?=some kvs[i]:=dF hi
  obtain⟨q,hq,hb,rv⟩:=aA7 rel hx
  have hex:es'[i]?=some (entryOfKey (tupleKind (bX X.prog X.w)) q):=by rw[entry_at g4,hq];rfl
  obtain⟨f0,f1,f2,f3,f4,f5⟩:=hf it (by simp)
  refine aBZ st raw hex λh' st' sb=>?_
  have I1:Inv X pins σ H { s with heap:=h' }:=I.turned (t':=s.toks) (λb u hb e=>(sb.2 b hb).trans e) f0 f1 f3 f4 f5
  obtain⟨u,e',c',d'⟩:=id st'
  exact⟨_,rfl,aCw (s:={ s with heap:=h' }) e' c' d' (by decide) ⟨kvs[i].2,H,I1,rv,⟨rfl,kvs[i],hx,rfl⟩,st',λb hb=>(hf b hb).1⟩⟩
 done:=by
  intro X hP hw hK hc i pins s σ H E I hf st hg
  subst hP hw hK
  obtain⟨hd,hi⟩:=hg
  have hO:cA X.prog X.w H s.heap d (.frz o (.dT kvs)):=I.hok d _ hd
  obtain⟨f0,f1,f2,f3,f4,f5⟩:=hf it (by simp)
  exact aDp (I.ok.hd hc) st ⟨o,hO.1,hc0,hd0⟩ (by omega) λh' eb=>⟨rfl,I.turned (t':=s.toks) (λb o hb e=>eb b o hb e) f0 f1 f3 f4 f5⟩
 self:=λ_ _ _ _ _ st h=>wpAny_pyIter_valiter st h
section
variable{X:Cx}{tg:Expr}
def IqQ(R:It->Hp->Prop):V->Hp->Prop:=λx H1=>∃d kvs,x=.ref d/\H1 d=some (.dT kvs)/\∀o,R (Itq d o kvs) (upd H1 d (.frz o (.dT kvs)))
def aF1(td:TE):TI:=λσ H R=>td σ H (IqQ R)
theorem aJO{o:Expr}{td:TE}{apos cpos:Pos}(ho:PE X o td)(hbase:attributeBase o "values" X.env (eval o X.env)=eval o X.env:=by rfl)(hline:(apos.endLine == cpos.line)=true:=by rfl) :
  PI X tg (.Call (.Attribute o "values" apos) [] [] cpos) (aF1 td):=by
 intro pins s σ H R I h
 refine wpAny_Call_method (T:="dict") (id:="dict.values") hbase rfl hline PySem.F.plainAttrs_dict PySem.F.slot_dict_values PySem.F.type_dict_values (dG (ho pins s σ H _ I h) λv s1 ⟨x,H1,I1,r1,q1⟩=>?_)
 obtain⟨d,kvs,e,hd,q⟩:=q1
 subst e
 cases r1
 obtain⟨lo,ob,es,ep,xs,g1,g2,g3,rel,g4,g5⟩:=wK (show cA X.prog X.w H1 s1.heap d (.dT kvs) from I1.hok d _ hd)
 have raw:Raw s1.heap d es ep:=⟨ob,g1,g2.1,g3⟩
 refine⟨raw.ty,λb z=>by cases z;exact⟨ob,g1,g2.2.1⟩,?_⟩
 refine method_meetsIn PySem.F.slot_dict_values PySem.F.entry_dict_values rfl (PySem.evalArgs_none ⟨rfl,raw.ty,PySem.F.args_dict_values_1 _,_,aFN d lo,raw.ty,?_⟩)
 have I2:=I1.aDr hd g1
 show wpAny _ _ (pyIter (.ref s1.heap.objs.size)) _ _ _
 refine aA6 (s:={ s1 with heap:=s1.heap.push { cls:=.type "dict_values",data:=.fields #[.ref d] } }) ⟨_,sN _ rfl,rfl,rfl⟩ (raw.keep λo e=>lV _ e) ?_
 have hk:∀b u,s1.heap.get? b=some u->((s1.heap.push { cls:=.type "dict_values",data:=.fields #[.ref d] }).push { cls:=.type "dict_valueiterator",data:=.fields #[.ref d,.int 0 0,.int es.size 0,.int ep 0] }).get? b=some u:=
  λb u e=>lV _ (lV _ e)
 refine⟨_,[(s1.heap.push { cls:=.type "dict_values",data:=.fields #[.ref d] }).objs.size],_,_,_,rfl,I2.kept (t':=s1.toks) hk,aDA d _ ob kvs es ep g2.1 g3 g5,⟨_,sN _ rfl,rfl,rfl⟩,λb hb=>?_,q ob⟩
 have e:b=(s1.heap.push { cls:=.type "dict_values",data:=.fields #[.ref d] }).objs.size:=by simpa using hb
 have hle:s1.heap.objs.size<=b:=by rw[e,Th9];exact Uk9 _
 exact I2.aBT hle (I2.hok.fresh hle)
theorem Inv.aPa{pins:List (Addr×Obj)}{σ:St}{H:Hp}{s:Shared}{d:Addr}{o:Obj}{kvs:List (List Key×V)}(I:Inv X pins σ H s)(e:H d=some (.frz o (.dT kvs)))(h0:∀o u,X.H₀ d≠some (.frz o u)):Inv X pins σ (upd H d (.dT kvs)) s:=by
 have nd:∀b u,H b=some u->u≠.frz o (.dT kvs)->b≠d:=λb u q n z=>by rw[z,e] at q;exact n (Option.some.inj q).symm
 have nn:∀b,H b=none->b≠d:=λb q z=>by rw[z,e] at q;cases q
 obtain⟨a1,a2,a3,a4,a5,a6,a7,a8,a9,a10,a11⟩:=I
 refine⟨a1,a2,a3,⟨a4.keep,a4.slot,λb u q n hx=>?_,a4.there,λb xs q=>?_,λb u v q=>?_,λb ps q=>?_⟩,a5,a6,?_,λx c q=>?_,λp hp=>?_,λb u q=>?_,a11⟩
 ·have:=a4.free b u q n hx
  rw[bB (nn b this)];exact this
 ·have:=a4.pQ b xs q
  rw[bB (nd b _ this (λz=>by cases z))];exact this
 ·have:=a4.frzs b u v q
  rw[bB (λz=>h0 u v (by rw[<-z];exact q))];exact this
 ·obtain⟨more,this⟩:=a4.tbls b ps q
  exact⟨more,by rw[bB (nd b _ this (λz=>by cases z))];exact this⟩
 ·rw[bB (nn _ a7)];exact a7
 ·rw[bB (nn _ (a8 x c q))];exact a8 x c q
 ·obtain⟨b1,b2,b3⟩:=a9 p hp
  exact⟨b1,by rw[bB (nn _ b2)];exact b2,b3⟩
 ·have st:∀c v,cA X.prog X.w H s.heap c v->cA X.prog X.w (upd H d (.dT kvs)) s.heap c v:=λc v z=>
   z.yN (λ_ _ _ z=>z) (λc z=>by rw[bB (nd _ _ z (λy=>by cases y))];exact z) λc xs t z=>by rw[bB (nd _ _ z (λy=>by subst y;exact t))];exact z
  by_cases hb:b=d
  ·subst hb;rw[aT] at q;cases q;exact st b _ (a10 b _ e).2
  ·rw[bB hb] at q;exact st b u (a10 b u q)
def aF2(t:TE):TE:=λσ H Q=>t σ H λv H'=>∃d kvs,H d=some (.dT kvs)/\∃o,H' d=some (.frz o (.dT kvs))/\Q v (upd H' d (.dT kvs))
theorem aJP{e:Expr}{t:TE}(he:PE X e t):PE X e (aF2 t):=by
 intro pins s σ H Q I h
 refine dG (he pins s σ H _ I h) λv s1 ⟨x,H1,I1,r1,d,kvs,hd,o,q1,q2⟩=>?_
 exact⟨x,_,I1.aPa q1 (λo u z=>by have y:=I.base.frzs d o u z;rw[hd] at y;cases y),r1,q2⟩
def aJQ:List V->Hp->VK->Prop:=λxs H Q=>∃a kvs,xs=[V.ref a]/\H a=some (.dT kvs)/\Q (.int kvs.length) H
theorem aHM:eJ X (.builtin "len") aJQ:=by
 intro pins s σ H xs us Q I r h
 obtain⟨a,kvs,rfl,ha,q⟩:=h
 obtain⟨u,rfl,ru⟩:=vals1 r
 cases ru
 have hO:=show cA X.prog X.w H s.heap a (.dT kvs) from I.hok a _ ha
 have hz:=hO.1
 obtain⟨lo,ob,es,ep,xs,g1,g2,g3,rel,g4,g5⟩:=wK hO
 have ty:s.TypeIs (.ref a) "dict":=⟨ob,g1,g2.1⟩
 have fit:¬((kvs.length:Nat):Int) ≥ 2 ^ 63:=by rw[sizeLine_eq] at hz;omega
 refine Calls.call_function_entry kind_len plain_len entry_len (args_len1 _) ?_
 unfold Builtin.«len»
 refine wpAny_bind (m:=oneArg "len" _) (wpAny_pure ?_)
 refine wpAny_bind (m:=callSpecial? (.ref a) (Str.ofString "__len__")) (wpAny_callSpecial?_slot (name:=Str.ofString "__len__") ty PySem.F.slot_dict_len (wpAny_call_entry PySem.F.slot_dict_len ty PySem.F.entry_dict_len (show _ from ?_) (PySem.F.args_dict_len_1 _)))
 refine(show wpAny _ _ (dictSize a >>= _) _ _ s from ?_)
 unfold dictSize
 refine wpAny_bind (wpAny_bind (wpAny_dictEntries g1 g3 (wpAny_pure (show wpAny _ _ (Builtin.Dict.pendingCount a >>= _) _ _ s from wpAny_bind (wpAny_pendingCount_other lo (wpAny_ret_mkInt ?_))))))
 rw[Ue9,g5]
 refine(show wpAny _ _ _ _ _ { s with toks:=s.toks+1 } from wpAny_bind (wpAny_holding (wpAny_pure (wpAny_bind (wpAny_letGo ?_)))))
 refine(show wpAny _ _ (if ((kvs.length:Nat):Int) < 0 then _ else _) _ _ _ from ?_)
 rw[if_neg (by omega)]
 refine(show wpAny _ _ (if ((kvs.length:Nat):Int) ≥ 2 ^ 63 then _ else _) _ _ _ from ?_)
 rw[if_neg fit]
 exact wpAny_bind (wpAny_mkInt (wpAny_pure ⟨_,rfl,.int kvs.length,H,I.tok _,⟨_,rfl⟩,q⟩))
end
section
variable{σ:St}{H:Hp}{Q:VK}
theorem aHN{td:TE}{R:It->Hp->Prop}(h:td σ H (IqQ R)):aF1 td σ H R:=h
theorem aPb{d:Addr}{kvs:List (List Key×V)}{R:It->Hp->Prop}(h1:H d=some (.dT kvs))(h:∀o,R (Itq d o kvs) (upd H d (.frz o (.dT kvs)))):IqQ R (.ref d) H:=⟨d,kvs,rfl,h1,h⟩
theorem aJR{t:TE}(h:t σ H λv H'=>∃d kvs,H d=some (.dT kvs)/\∃o,H' d=some (.frz o (.dT kvs))/\Q v (upd H' d (.dT kvs))):aF2 t σ H Q:=h
theorem aLF{a:Addr}{kvs:List (List Key×V)}(e:H a=some (.dT kvs))(q:Q (.int kvs.length) H):aJQ [.ref a] H Q:=⟨a,kvs,rfl,e,q⟩
end
theorem aF3{d:Addr}{o:Obj}{kvs:List (List Key×V)}{σ₀:St}{g:TG}{tt:TT}{te:TE}{R:List V->Hp->Prop}{H:Hp}(Pv:Nat->List V->Hp->Prop)(h0:Pv 0 [] H)(hz:kvs.length<=sizeLine)
  (hl:∀i ys H,i<=kvs.length->Pv i ys H->H d=some (.frz o (.dT kvs))/\ys.length<=i)
  (hs:∀i kv ys H,kvs[i]?=some kv->Pv i ys H->g kv.2 σ₀ H λσ2 H2=>tt σ2 H2 λc H3=>if c=true then te σ2 H3 λy H4=>Pv (i+1) (ys ++ [y]) H4 else Pv (i+1) ys H3)
  (hd:∀ys H,Pv kvs.length ys H->R ys H):lS (Itq d o kvs) σ₀ g tt te R H:=by
 refine⟨λi m ys H=>m=kvs.length - i/\i<=kvs.length/\Pv i ys H,⟨kvs.length,by simp,zL _,h0⟩,?_⟩
 rintro i m ys H ⟨rfl,hi,p⟩
 obtain⟨q,ql⟩:=hl i ys H hi p
 refine⟨by omega,?_⟩
 by_cases hlt:i < kvs.length
 ·refine .inr ⟨⟨q,hlt⟩,Pv (i+1),λys' H' p'=>⟨kvs.length - (i+1),by omega,rfl,hlt,p'⟩,λx H' y=>?_⟩
  obtain⟨e,kv,hk,e2⟩:=y
  subst e e2
  exact hs i kv ys _ hk p
 ·have:i=kvs.length:=by omega
  subst this
  exact .inl ⟨⟨q,dQ _⟩,hd ys H p⟩
theorem aEU{d:Addr}{o:Obj}{kvs:List (List Key×V)}{σ₀:St}{g:TG}{tt:TT}{te:TE}{R:List V->Hp->Prop}{H:Hp}(Pv:Nat->List V->Hp->Prop)(h0:Pv 0 [] H)(hz:kvs.length<=sizeLine)
  (hl:∀i ys H,i<=kvs.length->Pv i ys H->H d=some (.frz o (.dT kvs))/\ys.length<=i)
  (hs:∀i kv ys H T b,kvs[i]?=some kv->Pv i ys H->H T=none->H b=some (.tup (kv.1.map kV))->g (.ref T) σ₀ (upd H T (.tup [.ref b,kv.2])) λσ2 H2=>tt σ2 H2 λc H3=>if c=true then te σ2 H3 λy H4=>Pv (i+1) (ys ++ [y]) H4 else Pv (i+1) ys H3)
  (hd:∀ys H,Pv kvs.length ys H->R ys H):lS (Iti d o kvs) σ₀ g tt te R H:=by
 refine⟨λi m ys H=>m=kvs.length - i/\i<=kvs.length/\Pv i ys H,⟨kvs.length,by simp,zL _,h0⟩,?_⟩
 rintro i m ys H ⟨rfl,hi,p⟩
 obtain⟨q,ql⟩:=hl i ys H hi p
 refine⟨by omega,?_⟩
 by_cases hlt:i < kvs.length
 ·refine .inr ⟨⟨q,hlt⟩,Pv (i+1),λys' H' p'=>⟨kvs.length - (i+1),by omega,rfl,hlt,p'⟩,λx H' y=>?_⟩
  obtain⟨T,b,kv,hT,e,hk,hb,e2⟩:=y
  subst e e2
  exact hs i kv ys _ T b hk p hT hb
 ·have:i=kvs.length:=by omega
  subst this
  exact .inl ⟨⟨q,dQ _⟩,hd ys H p⟩
end L2
namespace L2.Z
open PySem PySem.Spec PyProof.Rows L2
section
variable{X:Cx}{o e tg:Expr}{td t:TE}{apos cpos:Pos}
theorem aEV(ho:QE X o td)(hbase:attributeBase o "values" X.env (eval o X.env)=eval o X.env:=by rfl)(hline:(apos.endLine == cpos.line)=true:=by rfl) :
  QI X tg (.Call (.Attribute o "values" apos) [] [] cpos) (aF1 td):=⟨L2.aJO ho.h hbase hline⟩
theorem zU(he:QE X e t):QE X e (aF2 t):=⟨L2.aJP he.h⟩
end
end L2.Z
namespace L2
open PySem PySem.Spec PySem.W PyProof.Rows
section
variable{prog:Program}{w:World}{K:Type}[DecidableEq K]{A:Around}{E:Value->Shared->Prop}{s:Shared}{knd:HeapKind prog w K}
theorem aBh{d a:Addr}{xs:List (K×Addr×Value)}{k:K}{v:Value}{Q:Unit->Shared->Prop}(hu:knd.room A)(hkey:knd.is s.heap k a)(hm:s.heap.DictOfH knd d xs)
  (hQ:∀h',h'.DictOfH knd d (storedH xs k a v)->Heap.SameBut d s.heap h'->Q () { s with heap:=h' }) (hsz:xs.length<=sizeLine) :
  wpAny (model prog w) A (dictSetHashed d (.ref a) (knd.hash k) v) Q E s:=by
 obtain⟨o,es,ep,ho,hc,hd,he,his,hn⟩:=hm
 unfold dictSetHashed
 try with_reducible refine wpAny_holding ?_
 refine wpAny_bind (wpAny_dictFind_heap hu hkey ho hd he his hn ?_ ?_)
 ·intro hno
  have hnot:k∉xs.map (·.1):=not_mem_keys_of_get hno
  refine wpAny_bind (wpAny_rule (wpAny_updateDictKeys (hz:=by have e:=size_of_entries he;omega) ho hd (hQ _ ⟨_,_,ep+1,Sd9 _ ho (Obj.isFreed_of_dict (Obj.data_mapDictKeys hd _)),
   hc.mapDictKeys _,Obj.data_mapDictKeys hd _,?_,?_,?_⟩ (Heap.SameBut.update ..))))
  ·rw[storedH_new (atKey_none_of_get hno)]
   simp[he,entryOfKey]
  ·rw[storedH_new (atKey_none_of_get hno)]
   intro x hx
   rcases Rf9.mp hx with hx|hx
   ·exact knd.keeps (his x hx) ho hd (Heap.SameBut.update ..)
   ·simp only[zJ] at hx
    subst hx
    exact knd.keeps hkey ho hd (Heap.SameBut.update ..)
  ·rw[storedH_new (atKey_none_of_get hno)]
   rw[iI,Sn9]
   refine⟨hn,by simp,?_⟩
   intro x hx y hy
   simp only[Rg9,List.map_nil,zJ] at hy
   subst hy
   exact λe=>hnot (e▸hx)
 ·intro j p hj
  refine wpAny_bind (wpAny_rule (wpAny_bind (wpAny_updateDict ho hd (wpAny_point (hQ _ ⟨_,_,ep,Sd9 _ ho (Obj.isFreed_of_dict (Obj.data_mapDict hd _)),
   hc.mapDict _,Obj.data_mapDict hd _,?_,?_,?_⟩ (Heap.SameBut.update ..))))))
  ·rw[storedH_old (atKey_of_get hn hj)]
   have:=modify_map_putAt (entryOfKey knd) (λe:DictEntry=>{ e with val:=v }) k v (λ_ _=>rfl) hn hj
   rw[<-he] at this
   obtain⟨l⟩:=es
   simpa using this
  ·rw[storedH_old (atKey_of_get hn hj)]
   intro x hx
   obtain⟨y,hy,rfl⟩:=o8.mp hx
   unfold putAt
   split <;> exact knd.keeps (his y hy) ho hd (Heap.SameBut.update ..)
  ·rw[storedH_old (atKey_of_get hn hj)]
   rw[keys_map_putAt];exact hn
end
def xN(kvs more:List (List Key×V)):List (List Key×V):=more.foldl (λacc kv=>putK acc kv.1 kv.2) kvs
theorem aHO(kvs more:List (List Key×V))(kv:List Key×V):xN kvs (more ++ [kv])=putK (xN kvs more) kv.1 kv.2:=by unfold xN;rw[List.foldl_append];rfl
theorem aBi:∀(more kvs:List (List Key×V)),(xN kvs more).length<=kvs.length+more.length
 |[],kvs=>dQ _
 |kv::more,kvs=>by
  have:=aBi more (putK kvs kv.1 kv.2)
  have:=iQ kvs kv.1 kv.2
  show(xN (putK kvs kv.1 kv.2) more).length<=_
  rw[yM]
  omega
theorem aJS{H:Hp}:∀{kvs:List (List Key×V)}{xs:List (List Key×Addr×Value)},KT H kvs xs->∀{i:Nat}{p:List Key×V}{q:List Key×Addr×Value},kvs[i]?=some p->xs[i]?=some q->p.1=q.1
 |[],_,r,i,p,q,h,_=>by simp at h
 |a::as,_,r,i,p,q,h,h2=>by
  cases r with
  |cons x t=>
   cases i with
   |zero=>cases h;cases h2;exact x.1
   |succ i=>exact aJS t (i:=i) h h2
section
variable{X:Cx}{pins:List (Addr×Obj)}{σ:St}{H:Hp}{s:Shared}{A:Around}{E:Value->Shared->Prop}
theorem aLG{nm:String}{d o:Addr}{kvs more:List (List Key×V)}{Q:Unit->Shared->Prop}(hu:A.units < cLine)(I:Inv X pins σ H s)(hd:H d=some (.dT kvs))(ho:H o=some (.dT more))(ne:d≠o)(hk:kvs≠[])(hsz:kvs.length+more.length<=1000)
  (h:∀s',Inv X pins σ (upd H d (.dT (xN kvs more))) s'->Q () s'):wpAny (model X.prog X.w) A (Builtin.Dict.mergeDict nm d o) Q E s:=by
 obtain⟨z1,hd1,xs,rel,dd⟩:=aEp I.hok hd
 obtain⟨z2,hd2,ys,rel2,dd2⟩:=aEp I.hok ho
 have big:sizeLine ≥ 1000:=by rw[sizeLine_eq];decide
 obtain⟨od,esd,epd,hod,hcd,hdd,hed,hid,hnd⟩:=id dd
 obtain⟨oo,eso,epo,hoo,hco,hdo',heo,hio,hno⟩:=id dd2
 have lx:=Paired.length rel
 have ly:=Paired.length rel2
 have hlen:ys.length=eso.size:=(size_of_entries heo).symm
 unfold Builtin.Dict.mergeDict
 rw[if_neg (by simpa using ne)]
 unfold Builtin.Dict.showsAll
 rw[if_neg (by rw[hd2];exact zH)]
 refine wpAny_bind (wpAny_pure ?_)
 refine wpAny_bind (wpAny_dictEntries hoo hdo' ?_)
 have loop:wpAny (model X.prog X.w) A (do
   let epoch <-dictEpoch o
   let l <-dictEntries o
   forIn [:l.size] PUnit.unit λi (_:PUnit)=>(do
     let l' <-dictEntries o
     match l'[i]? with
      |some e=>do
       holding [e.key,e.val] (dictSetHashed d e.key e.hash e.val)
       let ep' <-dictEpoch o
       if (ep' != epoch)=true then do
         (unsupported (toString nm++toString ":source-changed-during-callback"):Sem PUnit)
         pure (ForInStep.yield PUnit.unit)
        else pure (ForInStep.yield PUnit.unit)
      |_=>do
       (unsupported "internal:dict-merge" : Sem PUnit)
       pure (ForInStep.yield PUnit.unit):Sem (ForInStep PUnit))
   pure ()) Q E s:=by
  refine wpAny_bind (wpAny_dictEpoch hoo hdo' ?_)
  refine wpAny_bind (wpAny_dictEntries hoo hdo' ?_)
  refine wpAny_bind ?_
  rw[Std.Legacy.Range.forIn_eq_forIn_range']
  simp only[Std.Legacy.Range.size,Um9,Sv9,Nat.div_one]
  refine wpAny_forIn_list _
   (λrest _ s'=>∃h' i zs,s'={ s with heap:=h' }/\rest=List.range' i (eso.size - i)/\i<=eso.size/\KT H (xN kvs (more.take i)) zs/\h'.DictOfH (tupleKind (bX X.prog X.w)) d zs/\h'.get? o=some oo/\Heap.SameBut d s.heap h')
   _ ?_ ?_ _ _ ⟨s.heap,0,xs,rfl,by simp,zL _,by simpa [xN] using rel,dd,hoo,Heap.SameBut.refl _ _⟩
  ·rintro x rest b s' ⟨h',i,zs,rfl,hr,hi,relz,hd',hoo',hs'⟩
   have hlt:i < eso.size:=by
    rcases Nat.lt_or_ge i eso.size with h|h
    ·exact h
    ·rw[Nat.sub_eq_zero_of_le h] at hr;simp at hr
   obtain⟨rfl,hrest⟩ : x=i/\rest=List.range' (i+1) (eso.size - (i+1)):=by
    have e:eso.size - i=(eso.size - (i+1))+1:=by omega
    rw[e,List.range'_succ] at hr
    injection hr with h1 h2
    exact⟨h1,h2⟩
   refine wpAny_bind (wpAny_dictEntries hoo' hdo' ?_)
   have lm:x < more.length:=by omega
   obtain⟨y,hy,hb,hv⟩:=aA7 rel2 (dF lm)
   have e2:eso[x]?=some (entryOfKey (tupleKind (bX X.prog X.w)) y):=by rw[entry_at heo,hy];rfl
   rw[e2]
   have ek:more[x].1=y.1:=by
    have:=aJS rel2 (dF lm) hy
    exact this
   have key:(tupleKind (bX X.prog X.w)).is h' y.1 y.2.1:=by
    obtain⟨o',its',n',a1,a2,a3⟩:=hio y (iW hy)
    exact⟨o',its',n',by rw[<-a1];exact hs'.2 _ (λz=>by rw[z,hod] at a1;cases a1;rw[hcd.1] at a2;exact absurd a2 (by decide)),a2,a3⟩
   have lz:zs.length<=sizeLine:=by
    have h1:=Paired.length relz
    have h2:=aBi (more.take x) kvs
    rw[uV] at h2
    omega
   show wpAny _ _ (holding [Value.ref y.2.1,y.2.2] (dictSetHashed d (.ref y.2.1) ((tupleKind (bX X.prog X.w)).hash y.1) y.2.2) >>= _) _ _ _
   refine wpAny_bind (wpAny_holding (aBh (s:={ s with heap:=h' }) (knd:=tupleKind (bX X.prog X.w)) hu key hd' (λh'' hd'' hs''=>?_) lz))
   have hoo'':h''.get? o=some oo:=(hs''.2 o (Ne.symm ne)).trans hoo'
   refine wpAny_bind (wpAny_dictEpoch hoo'' hdo' ?_)
   rw[if_neg (by simp)]
   refine wpAny_pure ⟨h'',x+1,_,rfl,hrest,hlt,?_,hd'',hoo'',hs'.trans hs''⟩
   have tk1:more.take (x+1)=more.take x ++ [more[x]]:=by rw[Sg9,dF lm];rfl
   rw[tk1,aHO,<-ek]
   exact relz.put more[x].1 hb hv
  ·rintro b s' ⟨h',i,zs,rfl,hr,hi,relz,hd',hoo',hs'⟩
   have hin:i=eso.size:=by
    rcases Nat.lt_or_ge i eso.size with h|h
    ·have e:eso.size - i=(eso.size - (i+1))+1:=by omega
     rw[e,List.range'_succ] at hr;exact nomatch hr
    ·exact Nat.le_antisymm hi h
   rw[Sb9 (by omega)] at relz
   have hl:(xN kvs more).length<=sizeLine:=by have:=aBi more kvs;omega
   obtain⟨q,es,ep,hq,h2,h3,h4,_,h5⟩:=hd'
   refine wpAny_pure (h _ (aDd I (by rw[hd];exact True.intro) hs' ⟨q,hq⟩ ⟨hl,hd1,_,relz.keeps λc ys ec=>?_,q,es,ep,hq,h2,h3,h4,h5⟩))
   rw[bB (aLS ec hd (λz=>nomatch z))]
   exact ec
 dsimp only
 split
 ·refine wpAny_bind (wpAny_dictEntries hod hdd ?_)
  split
  ·rename_i hemp
   have h0:esd = #[]:=Array.isEmpty_iff.mp hemp
   have h1:=size_of_entries hed
   rw[h0] at h1
   exact absurd (List.length_eq_zero_iff.mp (by rw[lx];simpa using h1.symm)) hk
  ·exact loop
 ·exact loop
theorem aN3{d o:Addr}{kvs more:List (List Key×V)}{Q:Value->Shared->Prop}(hu:A.units+1 < cLine)(I:Inv X pins σ H s)(hd:H d=some (.dT kvs))(ho:H o=some (.dT more))(ne:d≠o)(hk:kvs≠[])(hsz:kvs.length+more.length<=1000)
  (h:∀s',Inv X pins σ (upd H d (.dT (xN kvs more))) s'->Q .none s'):wpAny (model X.prog X.w) A (call (.builtin "dict.update") [.ref d,.ref o]) Q E s:=by
 obtain⟨z1,hd1,xs,rel,dd⟩:=aEp I.hok hd
 obtain⟨z2,hd2,ys,rel2,dd2⟩:=aEp I.hok ho
 refine wpAny_call_entry PySem.F.slot_dict_update dd.typeIs PySem.F.entry_dict_update ?_ (PySem.F.args_dict_update_2 _ _)
 unfold Builtin.«dict.update»
 refine wpAny_bind ?_
 unfold Builtin.Dict.selfAndRest
 refine wpAny_bind (wpAny_notOrdered_dict dd.typeIs ?_)
 show wpAny _ _ (pure (d,[Value.ref o])) _ _ s
 refine wpAny_pure ?_
 show wpAny _ _ (Builtin.Dict.updateFrom "dict.update" d (.ref o) [] .none) _ _ s
 unfold Builtin.Dict.updateFrom
 refine wpAny_bind (wpAny_typeOf dd2.typeIs ?_)
 rw[if_neg (by decide)]
 refine wpAny_bind ?_
 unfold Builtin.Dict.merge
 refine wpAny_bind ?_
 unfold Builtin.Dict.readDirectly
 refine wpAny_bind (wpAny_isInstance dd2.typeIs isSubtype_dict_dict ?_)
 simp only[Td9,yL,if_false]
 refine wpAny_bind (wpAny_specialOf dd2.typeIs PySem.F.slot_dict_iter.lookup (wpAny_pure ?_))
 simp only[beq_self_eq_true,if_true]
 refine wpAny_bind (wpAny_pure ?_)
 refine aLG (by show A.units+1 < cLine;exact hu) I hd ho ne hk hsz λs' I'=>?_
 show wpAny _ _ (Builtin.Dict.addKeywords d [] >>= _) _ _ _
 exact wpAny_bind (wpAny_pure (wpAny_pure ⟨.none,rfl,h s' I'⟩))
end
def aJT(td ty:TE):TE:=λσ H Q=>td σ H λx H1=>∃a,x=.ref a/\IsD H1 a/\ty σ H1 λy H2=>∃b kvs more,y=.ref b/\H2 a=some (.dT kvs)/\H2 b=some (.dT more)/\a≠b/\kvs≠[]/\kvs.length+more.length<=1000/\Q .non (upd H2 a (.dT (xN kvs more)))
section
variable{X:Cx}{o e:Expr}{apos cpos:Pos}{td ty:TE}
theorem aLH(hu:X.A.units+1 < cLine)(ho:PE X o td)(he:PE X e ty)(m:M1 X o "update" apos e cpos):PE X (.Call (.Attribute o "update" apos) [e] [] cpos) (aJT td ty):=by
 intro pins s σ H Q I h
 refine wpAny_Call_method m.base m.few m.line PySem.F.plainAttrs_dict PySem.F.slot_dict_update PySem.F.type_dict_update (dG (ho pins s σ H _ I h) λu s1 ⟨x,H1,I1,rx,a,ex,d,q1⟩=>?_)
 subst ex
 obtain rfl:u=Value.ref a:=rx
 obtain⟨t1,t2,_⟩:=aFy I1 d
 refine⟨t1,t2,?_⟩
 rw[m.trees]
 refine Calls.callWith_builtin rfl (Calls.evalArgs_plain (Calls.spliced_cons (dG (he pins s1 σ H1 _ I1 q1) λiv s2 ⟨y,H2,I2,ry,b,kvs,more,ey,g1,g2,ne,hk,hz,q2⟩=>Calls.spliced_nil ?_)))
 subst ey
 cases ry
 exact aN3 hu I2 g1 g2 ne hk hz λs3 I3=>⟨.non,_,I3,rfl,q2⟩
theorem aLI{σ:St}{H:Hp}{Q:VK}(h:td σ H λx H1=>∃a,x=.ref a/\IsD H1 a/\ty σ H1 λy H2=>∃b kvs more,y=.ref b/\H2 a=some (.dT kvs)/\H2 b=some (.dT more)/\a≠b/\kvs≠[]/\kvs.length+more.length<=1000/\Q .non (upd H2 a (.dT (xN kvs more)))):aJT td ty σ H Q:=h
end
end L2
namespace L2.Z
open PySem PySem.Spec PyProof.Rows L2
section
variable{X:Cx}{o e:Expr}{td ty:TE}{apos cpos:Pos}
theorem aF4(hu:X.A.units+9 < cLine)(ho:QE X o td)(he:QE X e ty)(base:attributeBase o "update" X.env (eval o X.env)=eval o X.env:=by rfl)
  (few:((backTo cpos (starEach [e] X.env)).all (λx=>!x.1) && (backToKw cpos (keywordEach [] X.env)).all (λx=>x.1.isSome)
   && decide (([e]:List Expr).length+([]:List Keyword).length+(if ([]:List Keyword).isEmpty then 0 else 1) < 30))=true:=by rfl)
  (line:(apos.endLine == cpos.line)=true:=by rfl) (trees:backTo cpos (starEach [e] X.env)=[(false,eval e X.env)]:=by rfl) :
  QE X (.Call (.Attribute o "update" apos) [e] [] cpos) (aJT td ty):=⟨L2.aLH (by omega) ho.h he.h ⟨base,few,line,trees⟩⟩
end
end L2.Z
local macro_rules | `(tactic| walk_at "ne") => `(tactic| first
  | assumption
  | (refine Ne.symm ?_; assumption)
  | exact L2.bQ (by assumption) (by walk_at "hp")
  | exact Ne.symm (L2.bQ (by assumption) (by walk_at "hp")))
local macro_rules | `(tactic| walk_at "hp") => `(tactic| first
  | assumption
  | exact L2.aT
  | (refine Eq.trans (L2.bB (by walk_at "ne")) ?_; walk_at "hp")
  | (refine L2.aU.at (by assumption) ?_; walk_at "hp")
  | (refine L2.cE.at (by assumption) ?_ (by walk_at "ne"); walk_at "hp"))
local macro_rules | `(tactic| walk_at "sq") => `(tactic| first
  | assumption
  | exact L2.bU.of (by walk_at "hp")
  | exact L2.iY.of (by walk_at "hp")
  | exact L2.aU.seq (by assumption) (by walk_at "sq"))
local macro_rules | `(tactic| walk_at "cnd") => `(tactic| first
  | omega
  | decide
  | (simp only [List.length_map]; omega)
  | (refine ⟨?_, ?_⟩ <;> first | omega | decide)
  | (refine Or.inl ⟨?_, ?_⟩ <;> first | omega | decide)
  | (refine Or.inr ⟨?_, ?_⟩ <;> first | omega | decide)
  | (refine ⟨?_, ?_, ?_⟩ <;> first | omega | decide))
local macro_rules | `(tactic| walk_at "sz") => `(tactic| (refine L2.cO ?_; first | decide | (simp only [List.length_cons, List.length_nil, List.length_append]; omega) | omega))
local macro_rules | `(tactic| walk_at "rd") => `(tactic| (with_reducible first
  | refine L2.aKW ?_
  | refine L2.rd_par ?_
  | refine L2.aM9 ?_
  | refine L2.aKX ?_
  | refine L2.aNa ?_
  | refine L2.rd_retN ?_
  | refine L2.rd_break ?_
  | refine L2.rd_cont ?_
  | refine L2.aNb ?_
  | refine L2.aKY ?_
  | refine L2.aNc ?_
  | refine L2.aKZ ?_
  | refine L2.aIR ?_
  | refine L2.aK0 ?_
  | refine L2.aHz ?_
  | refine L2.aJR ?_
  | refine L2.aHN ?_
  | refine L2.aLI ?_
  | refine L2.aJx ?_
  | refine L2.aHA ?_
  | refine L2.aJl ?_
  | refine L2.aJj ?_
  | refine L2.aNe ?_
  | refine L2.aPt ?_
  | refine L2.aOF ?_
  | refine L2.aOG ?_
  | refine L2.aNg ?_
  | refine L2.aOI ?_
  | refine L2.aK1 ?_
  | refine L2.aOJ ?_
  | refine L2.aHn ?_
  | refine L2.aK3 ?_
  | refine L2.rd_partN ?_
  | refine L2.rd_pnN ?_
  | refine L2.rd_pnI ?_
  | refine L2.aK4 ?_
  | refine L2.aNj ?_
  | refine L2.aK5 ?_
  | refine L2.rd_ifE ?_
  | refine L2.aIT ?_
  | refine L2.aK6 ?_
  | refine L2.aOK ?_
  | refine L2.aNk ?_
  | refine L2.aOL ?_
  | refine L2.aNl ?_
  | refine L2.aNm ?_
  | refine L2.aOM ?_
  | refine L2.aK7 ?_
  | refine L2.aON ?_
  | refine L2.aOO ?_
  | refine L2.rd_bl2 ?_
  | refine L2.aNn ?_
  | refine L2.aK8 ?_
  | refine L2.aNo ?_
  | refine L2.aNp ?_
  | refine L2.aK9 ?_
  | refine L2.aOP ?_
  | refine L2.aLa ?_
  | refine L2.aHr ?_
  | refine L2.aI2 ?_
  | refine L2.aIU ?_
  | refine L2.aIV ?_
  | refine L2.aNq ?_
  | refine L2.aKP ?_
  | refine L2.aKO ?_
  | refine L2.aOU ?_
  | refine L2.aOV ?_
  | refine L2.aOT ?_
  | refine L2.aNw ?_
  | refine L2.aI1 ?_
  | refine L2.aLk ?_
  | refine L2.rd_rng ?_
  | refine L2.aLh ?_
  | refine L2.aLi ?_
  | refine L2.aLj ?_
  | refine L2.aLp ?_
  | refine L2.aNF ?_
  | refine L2.aJr ?_
  | refine L2.aJw ?_))
local macro_rules | `(tactic| walk_at "st") => `(tactic| first
  | walk_at "rd"
  | ((with_reducible refine L2.aOZ (b := ?b) ?t ?_); (case t => assumption))
  | ((with_reducible refine L2.aNf (v := ?v) ?e ?_); (case e => rfl))
  | ((with_reducible refine L2.aIQ (σ' := ?s) ?e ?_); (case e => first | (simp only [List.set_cons_zero, List.set_cons_succ]; rfl) | rfl))
  | ((with_reducible refine L2.aOH ?c ?_); (case c => walk_at "cnd"))
  | ((with_reducible refine L2.aK2 ?c ?_); (case c => walk_at "cnd"))
  | ((with_reducible refine L2.aDf (xs := ?xs) (v := ?v) ?a ?b ?_); (case a => walk_at "sq"); (case b => first | rfl | assumption))
  | ((with_reducible refine L2.aNi (xs := ?xs) (v := ?v) ?a ?b ?_); (case a => walk_at "sq"); (case b => first | rfl | assumption))
  | (with_reducible refine L2.aNr ?_)
  | (with_reducible refine L2.aNs ?_)
  | (with_reducible refine L2.aNt ?_)
  | (with_reducible refine L2.rd_intI ?_)
  | (with_reducible refine L2.rd_intB ?_)
  | ((with_reducible refine L2.aLd (xs := ?xs) ?a ?_); (case a => walk_at "sq"))
  | ((with_reducible refine L2.aLe (xs := ?xs) ?a ?_); (case a => walk_at "sq"))
  | (with_reducible refine L2.aNu ?_)
  | (with_reducible refine L2.aIX ?_)
  | ((with_reducible refine L2.aNh ?a ?b ?_); (case a => rfl); (case b => rfl))
  | ((with_reducible refine L2.aIS ?a ?b ?_); (case a => rfl); (case b => rfl))
  | ((with_reducible refine L2.rd_is (b := ?b) ?e ?_); (case e => rfl))
  | ((with_reducible refine L2.aI6 (b := ?b) ?e ?_); (case e => rfl))
  | ((with_reducible refine L2.aLb ?c ?_); (case c => walk_at "sz")))
local macro_rules | `(tactic| walk_at "go") => `(tactic| first
  | (with_reducible refine L2.aLo (fun _ _ => ?_))
  | walk_at "st")
local macro_rules | `(tactic| walk_at "w") => `(tactic| repeat walk_at "go")
local macro_rules | `(tactic| walk_at "gs") => `(tactic| first
  | walk_at "go"
  | ((with_reducible refine L2.aOW ?e ?_); (case e => rfl))
  | ((with_reducible refine L2.aOX ?e ?_); (case e => rfl)))
namespace My
open PySem L2 L2.Z
def top(i:Nat):Stmt:=PySem.Challenge.pw_stintwise_k46_papers_spoilt.main.body.getD i (.Pass ⟨0,0,0,0⟩)
abbrev gE:Stmt:=top 33
abbrev iR:Stmt:=top 34
abbrev j7:Stmt:=top 35
abbrev fR:Stmt:=top 36
abbrev j9:Stmt:=top 10
abbrev iS:Stmt:=top 11
abbrev nF:Stmt:=top 28
abbrev kB:Stmt:=top 29
abbrev eE:Stmt:=top 30
abbrev eQ:Stmt:=inClass (top 31) 0
abbrev iT:Stmt:=top 37
abbrev eR:Stmt:=top 38
abbrev eS:Stmt:=inClass (top 31) 3
abbrev gH:Stmt:=top 42
abbrev pY:Stmt:=top 13
abbrev fS:Stmt:=top 14
abbrev gR:Stmt:=top 39
abbrev iU:Stmt:=top 16
abbrev eT:Stmt:=top 17
abbrev gS:Stmt:=top 18
abbrev kG:Stmt:=top 19
abbrev fF:Stmt:=top 20
abbrev gI:Stmt:=top 22
abbrev fG:Stmt:=top 2
abbrev fH:Stmt:=top 3
abbrev cP:Stmt:=top 4
abbrev eW:Stmt:=top 24
abbrev gU:Stmt:=top 40
abbrev gW:Stmt:=top 41
abbrev iV:Stmt:=top 45
abbrev fT:Stmt:=top 46
abbrev dS:Stmt:=top 47
abbrev fU:Stmt:=top 48
abbrev dB:Stmt:=top 49
abbrev gK:Stmt:=top 50
abbrev eF:Stmt:=top 51
abbrev fJ:Stmt:=top 52
abbrev aCO:Stmt:=top 53
theorem gX:bM ["_law_script","_law_place","_law_cells","_law_at","_law_digits"] ["_law_script","_law_place"] (aL gE):={}
theorem gY:bM ["_law_hand","_law_many","_law_got","_law_cell","_law_number"] ["_law_hand","_law_many"] (aL iR):={}
theorem oF:bM ["_law_hand","_law_bound","_law_total","_law_k"] ["_law_hand","_law_bound"] (aL j7):={}
theorem aBj:bM ["_law_hand"] ["_law_hand"] (aL fR):={}
theorem aEW:bM ["thing"] ["thing"] (aL j9):={}
theorem aDB:bM ["thing"] ["thing"] (aL iS):={}
theorem aF5:bM ["thing"] ["thing"] (aL nF):={}
theorem aEX:bM ["thing"] ["thing"] (aL kB):={}
theorem aB0:bM ["thing"] ["thing"] (aL eE):={}
theorem fM:bM ["self","up","down","begin","run","rest","least","pieces","spans","costs","at","fits"] ["self","up","down","begin","run","rest","least","pieces"] (aL eQ):={}
theorem dJ:bM ["_law_hand","_law_by","_law_longest","_law_up","_law_down","_law_costs","_law_least","_law_rate","_law_pieces","_law_k"] ["_law_hand","_law_by","_law_longest"] (aL iT):={}
theorem aAo:bM ["_law_spec_here"] ["_law_spec_here"] (aL eR):={}
theorem fO:bM ["self","price","worth","amount","rate"] ["self","price"] (aL eS):={}
theorem aDC:bM ["_law_spec_here","_law_price_here"] ["_law_spec_here","_law_price_here"] (aL gH):={}
theorem aHP:bM ["machine","state","on"] ["machine","state","on"] (aL pY):={}
theorem aBk:bM ["machine","state","on"] ["machine","state","on"] (aL fS):={}
theorem aB1:bM ["_law_hand","_law_spec_here"] ["_law_hand","_law_spec_here"] (aL gR):={}
theorem mD:bM ["machine","state","run","hour","on"] ["machine","state","run"] (aL iU):={}
theorem sD:bM ["machine","state","run","fault"] ["machine","state","run"] (aL eT):={}
theorem fV:bM ["machine","state","run","begins","ahead","hour","on"] ["machine","state","run"] (aL gS):={}
theorem zV:bM ["machine","state","run","begins"] ["machine","state","run"] (aL kG):={}
theorem aB2:bM ["machine","state"] ["machine","state"] (aL fF):={}
theorem aDD:bM ["machine","state","price"] ["machine","state","price"] (aL gI):={}
theorem aB3:bM ["number","ways","behind"] ["number","ways","behind"] (aL fG):={}
theorem aB4:bM ["hour","ahead","behind","ways_at"] ["hour","ahead","behind","ways_at"] (aL fH):={}
theorem tI:bM ["place","hours","table","number","ways_at","numbers"] ["place","hours","table","number","ways_at"] (aL cP):={}
theorem aDE:bM ["machine","state","prices","table","number"] ["machine","state","prices","table","number"] (aL eW):={}
theorem aB5:bM ["_law_hand","_law_by","_law_most"] ["_law_hand","_law_by","_law_most"] (aL gU):={}
theorem aB6:bM ["_law_spec_here","_law_state_here","_law_on"] ["_law_spec_here","_law_state_here","_law_on"] (aL gW):={}
theorem aDF:bM ["_law_spec_here","_law_state_here","_law_price_here","_law_on"] ["_law_spec_here","_law_state_here","_law_price_here","_law_on"] (aL iV):={}
theorem dE:bM ["_law_hand","_law_spec_here","_law_by","_law_hours","_law_prices_here","_law_base","_law_hour_here","_law_price_here"] ["_law_hand","_law_spec_here","_law_by","_law_hours"] (aL fT):={}
theorem eA:bM ["_law_spec_here","_law_state_here","_law_hours","_law_rows","_law_hour_here","_law_later","_law_one"] ["_law_spec_here","_law_state_here","_law_hours"] (aL dS):={}
theorem cG:bM ["_law_spec_here","_law_state_here","_law_prices_here","_law_reached_here","_law_later","_law_one","_law_tables","_law_hour_here","_law_worths_here","_law_ways","_law_on","_law_behind"] ["_law_spec_here","_law_state_here","_law_prices_here"] (aL fU):={}
theorem cV:bM ["_law_spec_here","_law_state_here","_law_prices_here","_law_table","_law_number","_law_entries","_law_one","_law_worth","_law_states","_law_hour_here","_law_later","_law_on","_law_behind"] ["_law_spec_here","_law_state_here","_law_prices_here","_law_table","_law_number"] (aL dB):={}
theorem dM:bM ["_law_hand","_law_spec_here","_law_state_here","_law_other","_law_prices_here","_law_tables","_law_worths_here","_law_more","_law_less","_law_rows"] ["_law_hand","_law_spec_here","_law_state_here","_law_other","_law_prices_here"] (aL gK):={}
theorem dU:bM ["_law_hand","_law_rows","_law_at","_law_entries","_law_way","_law_spot","_law_one","_law_worth"] ["_law_hand","_law_rows","_law_at"] (aL eF):={}
theorem pA:bM ["_law_machine_here","_law_spec_here","_law_state_here","_law_prices_here","_law_rows","_law_number","_law_handed","_law_found"] ["_law_machine_here","_law_spec_here","_law_state_here","_law_prices_here","_law_rows","_law_number"] (aL fJ):={}
theorem eU:bM ["_law_script","_law_hand","_law_by","_law_place","_law_spec_here","_law_machine_here","_law_state_here","_law_prices_here","_law_beside","_law_rows","_law_number","_law_spoilt_here","_law_other","_law_one","_law_told","_law_dearer","_law_at","_law_spot","_law_some"] ["_law_script"] (aL aCO):={}
theorem zq2{n:Nat}:∀{us:List Value},us.length=n+1->∃a r,us=a::r/\r.length=n
 |a::r,h=>⟨a,r,rfl,Nat.succ.inj h⟩
theorem ar1(us:List Value)(h:us.length=1):∃a0,us=[a0]:=by obtain⟨a,r,rfl,g⟩:=zq2 h;cases List.eq_nil_of_length_eq_zero g;exact⟨a,rfl⟩
theorem ar2(us:List Value)(h:us.length=2):∃a0 a1,us=[a0,a1]:=by obtain⟨a0,r,rfl,g⟩:=zq2 h;obtain⟨a1,rfl⟩:=ar1 r g;exact⟨a0,a1,rfl⟩
theorem ar3(us:List Value)(h:us.length=3):∃a0 a1 a2,us=[a0,a1,a2]:=by obtain⟨a0,r,rfl,g⟩:=zq2 h;obtain⟨a1,a2,rfl⟩:=ar2 r g;exact⟨a0,a1,a2,rfl⟩
theorem ar4(us:List Value)(h:us.length=4):∃a0 a1 a2 a3,us=[a0,a1,a2,a3]:=by obtain⟨a0,r,rfl,g⟩:=zq2 h;obtain⟨a1,a2,a3,rfl⟩:=ar3 r g;exact⟨a0,a1,a2,a3,rfl⟩
theorem ar5(us:List Value)(h:us.length=5):∃a0 a1 a2 a3 a4,us=[a0,a1,a2,a3,a4]:=by obtain⟨a0,r,rfl,g⟩:=zq2 h;obtain⟨a1,a2,a3,a4,rfl⟩:=ar4 r g;exact⟨a0,a1,a2,a3,a4,rfl⟩
theorem ar6(us:List Value)(h:us.length=6):∃a0 a1 a2 a3 a4 a5,us=[a0,a1,a2,a3,a4,a5]:=by obtain⟨a0,r,rfl,g⟩:=zq2 h;obtain⟨a1,a2,a3,a4,a5,rfl⟩:=ar5 r g;exact⟨a0,a1,a2,a3,a4,a5,rfl⟩
theorem ar7(us:List Value)(h:us.length=7):∃a0 a1 a2 a3 a4 a5 a6,us=[a0,a1,a2,a3,a4,a5,a6]:=by obtain⟨a0,r,rfl,g⟩:=zq2 h;obtain⟨a1,a2,a3,a4,a5,a6,rfl⟩:=ar6 r g;exact⟨a0,a1,a2,a3,a4,a5,a6,rfl⟩
theorem ar8(us:List Value)(h:us.length=8):∃a0 a1 a2 a3 a4 a5 a6 a7,us=[a0,a1,a2,a3,a4,a5,a6,a7]:=by obtain⟨a0,r,rfl,g⟩:=zq2 h;obtain⟨a1,a2,a3,a4,a5,a6,a7,rfl⟩:=ar7 r g;exact⟨a0,a1,a2,a3,a4,a5,a6,a7,rfl⟩
set_option genInjectivity false in
set_option genSizeOf false in
structure qA where
 oG:Addr
 oH:FuncData
 oI:Addr
 oJ:FuncData
 qU:Addr
 qV:FuncData
 kN:Addr
 kO:FuncData
 qW:Addr
 qX:FuncData
 oK:Addr
 oM:FuncData
 vI:Addr
 vJ:FuncData
 qY:Addr
 qZ:FuncData
 mE:Addr
 mF:FuncData
 jF:Addr
 jG:FuncData
 oN:Addr
 oO:FuncData
 jH:Addr
 jI:FuncData
 jJ:Addr
 jK:FuncData
 oP:Addr
 oQ:FuncData
 xO:Addr
 xP:FuncData
 kP:Addr
 kQ:FuncData
 mG:Addr
 mH:FuncData
 oR:Addr
 oS:FuncData
 jL:Addr
 jM:FuncData
 mI:Addr
 mJ:FuncData
 rB:Addr
 rG:FuncData
 mK:Addr
 mM:FuncData
 oU:Addr
 oV:FuncData
 mN:Addr
 mO:FuncData
 mP:Addr
 mQ:FuncData
 kR:Addr
 kS:FuncData
 oW:Addr
 lN:FuncData
 mR:Addr
 mS:FuncData
 mT:Addr
 mU:FuncData
 oX:Addr
 oY:FuncData
 kT:Addr
 kU:FuncData
 jN:Addr
 jO:FuncData
 kW:Addr
 kX:FuncData
 kY:Addr
 kZ:FuncData
 oZ:Addr
 o4:FuncData
 lA:Addr
 lB:FuncData
 mV:Addr
 mW:FuncData
 aGP:Addr
 aGQ:FuncData
 k_shows_run:Addr
 lO:Addr
 bS:Addr
structure Txt(K:W.Frag)(mg:Str->Option Value)(a:qA):Prop where
 o5:nY K "_law_open" "_law_open" gE a.oG a.oH
 tJ:Binds K a.oH ["_law_script","_law_place"] []
 tK:mg "_law_open" = some (.ref a.oG)
 aV:nY K "_law_draw" "_law_draw" iR a.oI a.oJ
 aW:Binds K a.oJ ["_law_hand","_law_many"] []
 aX:mg "_law_draw" = some (.ref a.oI)
 wM:nY K "_law_far" "_law_far" j7 a.qU a.qV
 aBl:Binds K a.qV ["_law_hand","_law_bound"] []
 aBm:mg "_law_far" = some (.ref a.qU)
 lC:nY K "_law_factor" "_law_factor" fR a.kN a.kO
 pB:Binds K a.kO ["_law_hand"] []
 pC:mg "_law_factor" = some (.ref a.kN)
 rH:nY K "is_whole" "is_whole" j9 a.qW a.qX
 wN:Binds K a.qX ["thing"] []
 wO:mg "is_whole" = some (.ref a.qW)
 eX:nY K "is_amount" "is_amount" iS a.oK a.oM
 gM:Binds K a.oM ["thing"] []
 gO:mg "is_amount" = some (.ref a.oK)
 vK:nY K "is_span" "is_span" nF a.vI a.vJ
 zA:Binds K a.vJ ["thing"] []
 zB:mg "is_span" = some (.ref a.vI)
 wQ:nY K "is_piece" "is_piece" kB a.qY a.qZ
 aBn:Binds K a.qZ ["thing"] []
 aBo:mg "is_piece" = some (.ref a.qY)
 rJ:nY K "are_pieces" "are_pieces" eE a.mE a.mF
 xQ:Binds K a.mF ["thing"] []
 xR:mg "are_pieces" = some (.ref a.mE)
 tL:nY K "__init__" "Machine.__init__" eQ a.jF a.jG
 tM:Binds K a.jG ["self","up","down","begin","run","rest","least","pieces"] []
 tN:nY K "_law_spec" "_law_spec" iT a.oN a.oO
 zW:Binds K a.oO ["_law_hand","_law_by","_law_longest"] []
 zX:mg "_law_spec" = some (.ref a.oN)
 nR:nY K "_law_machine" "_law_machine" eR a.jH a.jI
 tO:Binds K a.jI ["_law_spec_here"] []
 tQ:mg "_law_machine" = some (.ref a.jH)
 tR:nY K "gain" "Machine.gain" eS a.jJ a.jK
 tT:Binds K a.jK ["self","price"] []
 tU:nY K "_law_gain" "_law_gain" gH a.oP a.oQ
 zY:Binds K a.oQ ["_law_spec_here","_law_price_here"] []
 zZ:mg "_law_gain" = some (.ref a.oP)
 tV:nY K "may_be" "may_be" pY a.xO a.xP
 xS:Binds K a.xP ["machine","state","on"] []
 xT:mg "may_be" = some (.ref a.xO)
 lE:nY K "state_after" "state_after" fS a.kP a.kQ
 pD:Binds K a.kQ ["machine","state","on"] []
 pE:mg "state_after" = some (.ref a.kP)
 mX:nY K "_law_state" "_law_state" gR a.mG a.mH
 rK:Binds K a.mH ["_law_hand","_law_spec_here"] []
 rM:mg "_law_state" = some (.ref a.mG)
 tW:nY K "run_fault" "run_fault" iU a.oR a.oS
 z0:Binds K a.oS ["machine","state","run"] []
 aAa:mg "run_fault" = some (.ref a.oR)
 nS:nY K "refuse_fault" "refuse_fault" eT a.jL a.jM
 tX:Binds K a.jM ["machine","state","run"] []
 tY:mg "refuse_fault" = some (.ref a.jL)
 rN:nY K "run_begins" "run_begins" gS a.mI a.mJ
 xU:Binds K a.mJ ["machine","state","run"] []
 xV:mg "run_begins" = some (.ref a.mI)
 wR:nY K "run_cost" "run_cost" kG a.rB a.rG
 aBp:Binds K a.rG ["machine","state","run"] []
 aBq:mg "run_cost" = some (.ref a.rB)
 rO:nY K "next_hours" "next_hours" fF a.mK a.mM
 xW:Binds K a.mM ["machine","state"] []
 xX:mg "next_hours" = some (.ref a.mK)
 tZ:nY K "hour_ways" "hour_ways" gI a.oU a.oV
 aAb:Binds K a.oV ["machine","state","price"] []
 aAc:mg "hour_ways" = some (.ref a.oU)
 rP:nY K "is_at_most" "is_at_most" fG a.mN a.mO
 xY:Binds K a.mO ["number","ways","behind"] []
 xZ:mg "is_at_most" = some (.ref a.mN)
 rQ:nY K "keeps_hour" "keeps_hour" fH a.mP a.mQ
 x8:Binds K a.mQ ["hour","ahead","behind","ways_at"] []
 yA:mg "keeps_hour" = some (.ref a.mP)
 pF:nY K "shows_least" "shows_least" cP a.kR a.kS
 vT:Binds K a.kS ["place","hours","table","number","ways_at"] []
 vU:mg "shows_least" = some (.ref a.kR)
 t9:nY K "shows_run" "shows_run" eW a.oW a.lN
 aAd:Binds K a.lN ["machine","state","prices","table","number"] []
 aAe:mg "shows_run" = some (.ref a.oW)
 mY:nY K "_law_price" "_law_price" gU a.mR a.mS
 rR:Binds K a.mS ["_law_hand","_law_by","_law_most"] []
 rS:mg "_law_price" = some (.ref a.mR)
 gZ:nY K "_law_after" "_law_after" gW a.mT a.mU
 jP:Binds K a.mU ["_law_spec_here","_law_state_here","_law_on"] []
 jQ:mg "_law_after" = some (.ref a.mT)
 o6:nY K "_law_hour" "_law_hour" iV a.oX a.oY
 uB:Binds K a.oY ["_law_spec_here","_law_state_here","_law_price_here","_law_on"] []
 uF:mg "_law_hour" = some (.ref a.oX)
 pG:nY K "_law_prices" "_law_prices" fT a.kT a.kU
 vV:Binds K a.kU ["_law_hand","_law_spec_here","_law_by","_law_hours"] []
 vW:mg "_law_prices" = some (.ref a.kT)
 nU:nY K "_law_reached" "_law_reached" dS a.jN a.jO
 uG:Binds K a.jO ["_law_spec_here","_law_state_here","_law_hours"] []
 uH:mg "_law_reached" = some (.ref a.jN)
 lF:nY K "_law_worths" "_law_worths" fU a.kW a.kX
 pH:Binds K a.kX ["_law_spec_here","_law_state_here","_law_prices_here"] []
 pI:mg "_law_worths" = some (.ref a.kW)
 pJ:nY K "_law_let_by" "_law_let_by" dB a.kY a.kZ
 vX:Binds K a.kZ ["_law_spec_here","_law_state_here","_law_prices_here","_law_table","_law_number"] []
 vY:mg "_law_let_by" = some (.ref a.kY)
 uI:nY K "_law_good" "_law_good" gK a.oZ a.o4
 aAf:Binds K a.o4 ["_law_hand","_law_spec_here","_law_state_here","_law_other","_law_prices_here"] []
 aAg:mg "_law_good" = some (.ref a.oZ)
 pK:nY K "_law_spoilt" "_law_spoilt" eF a.lA a.lB
 vZ:Binds K a.lB ["_law_hand","_law_rows","_law_at"] []
 v7:mg "_law_spoilt" = some (.ref a.lA)
 jR:nY K "_law_right" "_law_right" fJ a.mV a.mW
 mZ:Binds K a.mW ["_law_machine_here","_law_spec_here","_law_state_here","_law_prices_here","_law_rows","_law_number"] []
 nA:mg "_law_right" = some (.ref a.mV)
 aL2:nY K "law" "law" aCO a.aGP a.aGQ
 aPc:Binds K a.aGQ ["_law_script"] []
 aPd:mg "law" = some (.ref a.aGP)
 cX:Cls K a.bS
 aCP:mg "Machine" = some (.ref a.bS)
 aCQ:Mk K a.bS a.jF
 m_Machine_gain:Meth K a.bS "gain" a.jJ
 rT:fA K a.bS "up"
 nV:fA K a.bS "down"
 lT:fA K a.bS "begin"
 pM:fA K a.bS "run"
 nW:fA K a.bS "rest"
 lU:fA K a.bS "least"
 kJ:fA K a.bS "pieces"
 uJ:aO4 K a.lN a.k_shows_run a.lO
 aCR:mg "abs" = none
 v9:mg "all" = none
 aCS:mg "any" = none
 wU:mg "bool" = none
 rV:mg "dict" = none
 eY:mg "enumerate" = none
 aCT:mg "int" = none
 dC:mg "isinstance" = none
 dX:mg "len" = none
 kK:mg "list" = none
 sE:mg "max" = none
 uK:mg "min" = none
 fK:mg "range" = none
 aBr:mg "set" = none
 pZ:mg "sorted" = none
 aCU:mg "sum" = none
 vL:mg "tuple" = none
 aCV:mg "zip" = none
 eB:∃t,mg "LONGEST_STINT" = some (.int 12 t)
 fW:∃t,mg "MOST_PIECES" = some (.int 4 t)
abbrev jS:Pos:=⟨77,58,77,117⟩
abbrev jT:Str:=(("shows_run" : Str) ++ ".<locals>.") ++ "<lambda>"
end My
namespace My
open PySem L2 L2.Z
inductive Th (H:Hp):V->String->Prop where
 |non:Th H .non "NoneType"
 |bl (b:Bool):Th H (.bl b) "bool"
 |int (i:Int):Th H (.int i) "int"
 |str (x:Str):Th H (.str x) "str"
 |lst {p:Addr} {xs:List V} (e:H p=some (.lst xs)):Th H (.ref p) "list"
 |tup {p:Addr} {xs:List V} (e:H p=some (.tup xs)):Th H (.ref p) "tuple"
 |dK {p:Addr} {kvs:List (Key×V)} (e:H p=some (.dK kvs)):Th H (.ref p) "dict"
theorem Th.ty{K:W.Frag}{H:Hp}{v:V}{T:String}(h:Th H v T):xC K H v (.type T):=by
 cases h with
 |non=>exact .non
 |bl b=>exact .bl b
 |int i=>exact .int i
 |str x=>exact .str x
 |lst e=>exact .lst e
 |tup e=>exact .tup e
 |dK e=>exact .dK e
theorem Th.keep{H H':Hp}{p:Addr}{v:V}{T:String}(h:Th H v T)(n:∀b,v=.ref b->b≠p)(k:cE p H H'):Th H' v T:=by
 cases h with
 |non=>exact .non
 |bl b=>exact .bl b
 |int i=>exact .int i
 |str x=>exact .str x
 |lst e=>exact .lst (k _ _ e (n _ rfl))
 |tup e=>exact .tup (k _ _ e (n _ rfl))
 |dK e=>exact .dK (k _ _ e (n _ rfl))
theorem aLJ{K:PySem.W.Frag}{H:Hp}{v:V}{T:String}(h:Th H v T):IsI K H v (.ty "int") (T == "int" || T == "bool"):=by
 refine⟨_,h.ty,.inl ⟨_,rfl,?_⟩⟩
 cases h <;> rfl
theorem aEY{K:PySem.W.Frag}{H:Hp}{v:V}{T:String}(h:Th H v T):IsI K H v (.ty "bool") (T == "bool"):=by
 refine⟨_,h.ty,.inl ⟨_,rfl,?_⟩⟩
 cases h <;> rfl
def amt:V->Bool
 |.int i=>decide (0<=i) && decide (i<=10 ^ 12)
 |_=>false
structure bJ(H:Hp)(p:Addr):Prop where
 ex:∃(d c:Int) (q:Addr) (ms:List Int),H p=some (.lst [.int d,.int c,.ref q])/\H q=some (.lst (ms.map V.int))/\ms≠[]/\q≠p
def dY(p:Addr)(H H':Hp):Prop:=∀(d c:Int) (q:Addr),H p=some (.lst [.int d,.int c,.ref q])->∃d' c':Int,H' p=some (.lst [.int d',.int c',.ref q])
theorem dY.trans{p:Addr}{H H1 H2:Hp}(a:dY p H H1)(b:dY p H1 H2):dY p H H2:=λd c q e=>by
 obtain⟨d',c',e'⟩:=a d c q e
 exact b d' c' q e'
theorem dY.of{p:Addr}{H H':Hp}(s:∀o,H p=some o->H' p=some o):dY p H H':=λd c q e=>⟨d,c,s _ e⟩
theorem bJ.of{p:Addr}{H H':Hp}(h:bJ H p)(k:cE p H H')(s:dY p H H'):bJ H' p:=by
 obtain⟨d,c,q,ms,hp,hq,hne,hqp⟩:=h.ex
 obtain⟨d',c',e⟩:=s d c q hp
 exact⟨⟨d',c',q,ms,e,k _ _ hq hqp,hne,hqp⟩⟩
theorem bJ.same{H H':Hp}{p:Addr}(h:bJ H p)(s:aU H H'):bJ H' p:=by
 obtain⟨d,c,q,ms,hp,hq,hne,hqp⟩:=h.ex
 exact⟨⟨d,c,q,ms,s _ _ hp,s _ _ hq,hne,hqp⟩⟩
theorem aJU{K:PySem.W.Frag}{H:Hp}{v:V}{T:String}(h:Th H v T):IsI K H v (.ty "list") (T == "list"):=by
 refine⟨_,h.ty,.inl ⟨_,rfl,?_⟩⟩
 cases h <;> rfl
theorem aHQ{K:PySem.W.Frag}{H:Hp}{v:V}{T:String}(h:Th H v T):IsI K H v (.ty "tuple") (T == "tuple"):=by
 refine⟨_,h.ty,.inl ⟨_,rfl,?_⟩⟩
 cases h <;> rfl
theorem aJV{ms:List Int}{c:Int}(h:ms≠[]):∃m,m∈ms/\p9 (ms.map V.int) (c % ((ms.map V.int).length:Int))=some (.int m):=by
 have hl:0 < ms.length:=Tc9.mpr h
 have e1:=Tk9 c (b:=((ms.map V.int).length:Int)) (by rw[cD];omega)
 have e2:=Sw9 c (b:=((ms.map V.int).length:Int)) (by rw[cD];omega)
 obtain⟨j,hj⟩ : ∃j:Nat,c % ((ms.map V.int).length:Int)=(j:Int):=⟨_,(Int.toNat_of_nonneg e1).symm⟩
 rw[hj] at e2 ⊢
 rw[cD] at e2
 have hjl:j < ms.length:=by omega
 exact⟨ms[j],Rk9 hjl,dA (by rw[qB,dF hjl];rfl)⟩
theorem aGR(ms:List Int)(lo hi:Option Int):∃r:List Int,lP (ms.map V.int) lo hi=r.map V.int/\r.length=(lP (ms.map V.int) lo hi).length:=by
 unfold lP
 rw[<-List.map_drop,<-List.map_take]
 exact⟨_,rfl,by simp⟩
theorem rot{ms:List Int}{i:Int}(h0:0<=i)(h1:i < ms.length):∃ms':List Int,lP (ms.map V.int) (some i) none++lP (ms.map V.int) none (some i)=ms'.map V.int/\ms'≠[]/\ms'.length<=ms.length+ms.length:=by
 obtain⟨r1,e1,l1⟩:=aGR ms (some i) none
 obtain⟨r2,e2,l2⟩:=aGR ms none (some i)
 have b1:=eV (ms.map V.int) (some i) none
 have b2:=eV (ms.map V.int) none (some i)
 rw[cD] at b1 b2
 refine⟨r1++r2,by rw[e1,e2,iI],λz=>?_,by rw[sO];omega⟩
 have z1:r1=[]:=(List.append_eq_nil_iff.mp z).1
 obtain⟨j,rfl⟩:=Int.eq_ofNat_of_zero_le h0
 have hj:j < ms.length:=by omega
 rw[z1,Tw9] at l1
 have l3:(lP (ms.map V.int) (some (j:Int)) none).length=ms.length - j:=by
  unfold lP
  rw[HT.aAD,HT.xD,uV,Sf9,cD,Nat.min_eq_left (Tr9 hj)]
  omega
 rw[l3] at l1
 omega
def aDG(K:W.Frag):Sp:=λvs H Q _=>∃(a:Addr) (ns:List Int) (i:Int),vs=[.ref a,.int i]/\bU K H a (ns.map V.int)/\ns.length<=63/\0<=i/\
 ∀p H',aU H H'->H p=none->bJ H' p->Q (.ref p) H'
theorem aDH{P:Program}{w:World}{K:PySem.W.Frag}{mg:Str->Option Value}{base:Heap}{a:qA}(tx:Txt K mg a):cR P w K mg base lQ 1 a.oG a.oH ["_law_script","_law_place"] (aDG K):=by
 refine tx.o5.ok gX (λvs H Q E h=>?_) (λcdv A outer s H vs Q E hr h=>?_)
 ·obtain⟨a,ns,i,rfl,_⟩:=h
  rfl
 ·obtain⟨a,ns,i,rfl ,hS,hl,h0,k⟩:=h
  have hu:=qJ hr
  refine bV (aH (qQ (k:=1) (idx:=[]) (N:=["_law_cell"]) (i:=2) gX.nd rfl (Or.inl rfl) (dZ (sc:=aL gE) (NX:=["_law_script","_law_place","_law_cells","_law_at","_law_digits"]) rfl rfl rfl (by decide +kernel)) rfl (bR (K':=K) (fZ (rs:=aDe K) aFB (Z.pv 0) iM (fD aF))) (λ_ _ _ _=>(aQ (i:=0) (show(["_law_cell"]:List Str).Nodup by decide +kernel))) (eN (by decide)) (λ_ _ _ _=>cK) (λ_ _ _ _=>(aO aHo (by rfl) tx.aCR aM3 (aB (Z.pv 0) aG))))
   (aH (bH (aZ (r:=jY K) (dR hu) (Z.pv 2) (gQ aG) (bP _)) (aJ (aP (i:=2) gX.nd (mC aF))) aY)
   (aH (aP (i:=3) gX.nd (aM iZ (Z.pv 1) (aO (rc:=lK K) cB (by rfl) tx.dX dI (aB (Z.pv 2) aG))))
   (aH (aP (i:=4) gX.nd aF)
   (aH (bH (nM (uZ (aZ aLT (aN (K':=K) (Z.pv 2) (Z.pv 3)) (aM qF aF aF) (bP _)) (qO (aZ aOq (Z.pv 1) (aO (rc:=lK K) cB (by rfl) tx.dX dI (aB (Z.pv 2) aG)) (bP _))))) (aJ (aP (i:=4) gX.nd (aN (K':=K) (Z.pv 2) (Z.pv 3)))) aY)
   (aJ (aR (aDj (Z.pv 4) (aM bY aF (aM cJ aF (Z.pv 1))) (aM bY (fZ (rs:=aDe K) aFB (Z.pv 2) (fD (Z.pv 3)) iM) (fZ (rs:=aDe K) aFB (Z.pv 2) iM (fD (Z.pv 3)))))))))))) ?_
  refine bK (σ:=[some (.ref a),some (.int i),none,none,none]) rfl ?_
  refine aM8 ?_
  walk_at "w"
  refine qK hS ?_
  intro p1 n1
  walk_at "w"
  rw[show lP (ns.map V.int) none (some 63)=ns.map V.int from aIW (n:=63) (by rw[cD];exact hl)]
  refine iE (bU.of aT) ?_
  refine aCF (λv=>match v with|.int i=>.int (if i < 0 then -i else i)|v=>v) (bU.of aT) (cO (by rw[cD];omega)) (λx N N' hx hN=>?_) ?_
  ·obtain⟨y,hy,rfl⟩:=o8.mp hx
   walk_at "w"
   exact hN
  ·intro p2 n2
   repeat walk_at "st"
   have s2:aU H (upd (upd H p1 (.lst (ns.map V.int))) p2 (.lst ((ns.map V.int).map λv=>match v with|.int i=>.int (if i < 0 then -i else i)|v=>v))):=(aU.new n1).trans (aU.new n2)
   rw[Rp9] at s2 ⊢
   generalize hm:ns.map ((λv=>match v with|V.int i=>V.int (if i < 0 then -i else i)|v=>v) ∘ V.int)=xs at s2 ⊢
   obtain⟨ms,rfl⟩ : ∃ms:List Int,xs=ms.map V.int:=⟨ns.map λi=>if i < 0 then -i else i,by rw[<-hm,Rp9];rfl⟩
   have lm:ms.length<=63:=by
    have:=congrArg List.length hm
    simp only[cD] at this
    omega
   refine xH (λσ' H'=>∃(c:Addr) (ms:List Int),σ'=[some (.ref a),some (.int i),some (.ref c),none,none]/\aU H H'/\H' c=some (.lst (ms.map V.int))/\ms≠[]/\ms.length<=63) (λN hN=>?_) ?_
   ·walk_at "w"
    intro p3 n3
    walk_at "w"
    refine⟨_,aLf (bU.of (by walk_at "hp")) (bU.of aT),?_⟩
    walk_at "w"
    refine uX (λh=>?_) (λh=>?_)
    ·walk_at "w"
     intro p4 n4
     walk_at "w"
     exact hN _ _ ⟨p4,[0],rfl,(s2.trans (aU.new n3)).trans (aU.new n4),aT,by simp,by simp⟩
    ·walk_at "w"
     refine hN _ _ ⟨p2,ms,rfl,s2.trans (aU.new n3),by walk_at "hp",?_,lm⟩
     rintro rfl
     simp at h
   ·rintro σ' H' ⟨c,ms,rfl,sH,hc,hne,lm⟩
    have hl:0 < ms.length:=Tc9.mpr hne
    obtain⟨m,_,hm⟩:=aJV (c:=i) hne
    have e1:=Tk9 i (b:=((ms.map V.int).length:Int)) (by rw[cD];omega)
    have e2:=Sw9 i (b:=((ms.map V.int).length:Int)) (by rw[cD];omega)
    obtain⟨ms',em,en,el⟩:=rot (ms:=ms) e1 (by rw[cD] at e2 ⊢;exact e2)
    walk_at "w"
    refine cI (λh=>?_) (λh=>?_)
    ·walk_at "w"
     refine cI (λh=>?_) (λh=>?_)
     all_goals
      walk_at "w"
      refine qK (bU.of hc) ?_
      intro p5 n5
      walk_at "w"
      refine qK (bU.of (by walk_at "hp")) ?_
      intro p6 n6
      walk_at "w"
      refine lZ (by walk_at "hp") (by walk_at "hp") (cO (by have:=eV (ms.map V.int) (some (i % ((ms.map V.int).length:Int))) none;have:=eV (ms.map V.int) none (some (i % ((ms.map V.int).length:Int)));simp only[cD] at *;omega)) ?_
      intro p7 n7
      walk_at "w"
      rw[em]
      walk_at "w"
      intro p8 n8
      walk_at "w"
      have s8:=((aU.new (o:=.lst (lP (ms.map V.int) (some (i % ((ms.map V.int).length:Int))) none)) n5).trans (aU.new (o:=.lst (lP (ms.map V.int) none (some (i % ((ms.map V.int).length:Int))))) n6)).trans (aU.new (o:=.lst (ms'.map V.int)) n7)
      refine k _ _ (sH.trans (s8.trans (aU.new n8))) ((sH.trans s8).free n8) ⟨⟨_,_,_,ms',aT,by walk_at "hp",en,?_⟩⟩
      exact bQ n8 aT
    ·walk_at "w"
     refine qK (bU.of hc) ?_
     intro p5 n5
     walk_at "w"
     refine qK (bU.of (by walk_at "hp")) ?_
     intro p6 n6
     walk_at "w"
     refine lZ (by walk_at "hp") (by walk_at "hp") (cO (by have:=eV (ms.map V.int) (some (i % ((ms.map V.int).length:Int))) none;have:=eV (ms.map V.int) none (some (i % ((ms.map V.int).length:Int)));simp only[cD] at *;omega)) ?_
     intro p7 n7
     walk_at "w"
     rw[em]
     walk_at "w"
     intro p8 n8
     walk_at "w"
     have s8:=((aU.new (o:=.lst (lP (ms.map V.int) (some (i % ((ms.map V.int).length:Int))) none)) n5).trans (aU.new (o:=.lst (lP (ms.map V.int) none (some (i % ((ms.map V.int).length:Int))))) n6)).trans (aU.new (o:=.lst (ms'.map V.int)) n7)
     refine k _ _ (sH.trans (s8.trans (aU.new n8))) ((sH.trans s8).free n8) ⟨⟨_,_,_,ms',aT,by walk_at "hp",en,?_⟩⟩
     exact bQ n8 aT
def aDI(K:W.Frag):Sp:=λvs H Q _=>∃(p:Addr) (n:Int),vs=[.ref p,.int n]/\bJ H p/\0 < n/\n < 1073741824/\
 ∀(r:Int) H',0<=r->r < n->bJ H' p->cE p H H'->dY p H H'->Q (.int r) H'
theorem dN{P:Program}{w:World}{K:PySem.W.Frag}{mg:Str->Option Value}{base:Heap}{a:qA}(tx:Txt K mg a):cR P w K mg base lQ 1 a.oI a.oJ ["_law_hand","_law_many"] (aDI K):=by
 refine tx.aV.ok gY (λvs H Q E h=>?_) (λcdv A outer s H vs Q E hr h=>?_)
 ·obtain⟨p,n,rfl,_⟩:=h
  rfl
 ·obtain⟨p,n,rfl ,hh,h0,h1,k⟩:=h
  have hu:=qJ hr
  refine bV (aH (bH (aZ xA (aN (K':=K) (Z.pv 0) aF) aF (bP _)) (aH (aP (i:=2) gY.nd (aM iZ (aN (K':=K) (Z.pv 0) aF) (Z.pv 1)))
   (aH (vB (aM aGm (aN (K':=K) (Z.pv 0) aF) (Z.pv 1)) (yZ (Z.pv 0) aF set_list))
   (aJ (aR (Z.pv 2))))) aY)
   (aH (aFJ (Z.pv 0) aF aM7 aF aC7 set_list)
   (aH (aP (i:=3) gY.nd (aM iZ (aN (K':=K) (aN (K':=K) (Z.pv 0) aF) (aM iZ (aN (K':=K) (Z.pv 0) aF) (aO (rc:=lK K) cB (by rfl) tx.dX dI (aB (aN (K':=K) (Z.pv 0) aF) aG)))) aF))
   (aH (aP (i:=4) gY.nd (aM iZ (aM bY (aM bY (aM cJ (Z.pv 3) aF) (aM cJ (aN (K':=K) (Z.pv 0) aF) aF)) aF) aF))
   (aH (aP (i:=4) gY.nd (aM iZ (aM bY (aM cJ (Z.pv 4) (Z.pv 4)) (aN (K':=K) (Z.pv 0) aF)) aF))
   (aH (aP (i:=4) gY.nd (aM iZ (aM bY (aM cJ (Z.pv 4) aF) aF) aF))
   (aJ (aR (aM iZ (aM aGm (aM iZ (aM cJ (Z.pv 4) (Z.pv 4)) aF) aF) (Z.pv 1)))))))))) ?_
  obtain⟨d,c,q,ms,hp,hq,hne,hqp⟩:=hh.ex
  refine bK (σ:=[some (.ref p),some (.int n),none,none,none]) rfl ?_
  walk_at "w"
  refine cI (λhd=>?_) (λhd=>?_)
  ·walk_at "w"
   refine aAG hp rfl ?_
   walk_at "w"
   refine k _ _ (Tk9 _ (by omega)) (Sw9 _ h0) ⟨⟨_,c,q,ms,aT,by walk_at "hp",hne,hqp⟩⟩ cE.upd (λd0 c0 q0 e0=>by rw[hp] at e0;cases e0;exact⟨_,_,aT⟩)
  ·walk_at "w"
   refine aNd (bU.of hp) (by decide) rfl ?_
   walk_at "w"
   refine aAG hp rfl ?_
   obtain⟨m,_,hm⟩:=aJV (c:=c+1) hne
   have hlen:0 < ((ms.map V.int).length:Int):=by rw[cD];have:=Tc9.mpr hne;omega
   walk_at "w"
   have hq':(upd H p (.lst [.int d,.int (c+1),.ref q])) q=some (.lst (ms.map V.int)):=by walk_at "hp"
   walk_at "w"
   exact k _ _ (Tk9 _ (by omega)) (Sw9 _ h0) ⟨⟨d,c+1,q,ms,aT,hq',hne,hqp⟩⟩ cE.upd (λd0 c0 q0 e0=>by rw[hp] at e0;cases e0;exact⟨_,_,aT⟩)
def aEZ(K:W.Frag):Sp:=λvs H Q _=>∃(p:Addr) (b:Int),vs=[.ref p,.int b]/\bJ H p/\0 < b/\
 ∀(r:Int) H',0<=r->r < b->bJ H' p->cE p H H'->dY p H H'->Q (.int r) H'
theorem aE0{P:Program}{w:World}{K:PySem.W.Frag}{mg:Str->Option Value}{base:Heap}{a:qA}(tx:Txt K mg a):cR P w K mg base lQ 2 a.qU a.qV ["_law_hand","_law_bound"] (aEZ K):=by
 have aS:=dN (P:=P) (w:=w) (base:=base) tx
 refine tx.wM.ok oF (λvs H Q E h=>?_) (λcdv A outer s H vs Q E hr h=>?_)
 ·obtain⟨p,b,rfl,_⟩:=h
  rfl
 ·obtain⟨p,b,rfl ,hh,h0,k⟩:=h
  have hu:=qJ hr
  refine bV (aH (aP (i:=2) oF.nd aF)
   (aH (cC PassesOwn.never rfl (dO (by rfl) tx.fK (aB aF aG)) (aQ (i:=3) oF.nd) (aJ (aP (i:=2) oF.nd (aM bY (aM cJ (Z.pv 2) aF) (zq1 aS hr tx.aX tx.aV.kp tx.aW (aB (Z.pv 0) (aB aF aG)))))))
   (aJ (aR (aM iZ (Z.pv 2) (Z.pv 1)))))) ?_
  refine bK (σ:=[some (.ref p),some (.int b),none,none]) rfl ?_
  walk_at "w"
  refine⟨by decide,by decide,?_⟩
  refine nL (n:=11) (λi σ' H'=>∃(t:Int) (x:Option V),σ'=[some (.ref p),some (.int b),some (.int t),x]/\bJ H' p/\cE p H H'/\dY p H H') ⟨0,none,rfl,hh,λ_ _ e _=>e,dY.of λ_ e=>e⟩ (λi σ' H' hi z7q=>?_) (λσ' H' z8q=>?_)
  ·obtain⟨t,x,e,h',kp,sq⟩:=z7q
   subst e
   walk_at "w"
   refine⟨p,_,rfl,h',by decide,by decide,λr H2 r0 r1 h2 k2 q2=>?_⟩
   walk_at "w"
   exact⟨_,_,rfl,h2,kp.trans k2,sq.trans q2⟩
  ·obtain⟨t,x,e,h',kp,sq⟩:=z8q
   subst e
   walk_at "w"
   exact k _ _ (Tk9 _ (by omega)) (Sw9 _ h0) h' kp sq
def aBs(K:W.Frag):Sp:=λvs H Q _=>∃(p:Addr),vs=[.ref p]/\bJ H p/\∀(r:Int) H',1<=r->r<=50000000000->bJ H' p->cE p H H'->dY p H H'->Q (.int r) H'
theorem aBt{P:Program}{w:World}{K:PySem.W.Frag}{mg:Str->Option Value}{base:Heap}{a:qA}(tx:Txt K mg a):cR P w K mg base lQ 3 a.kN a.kO ["_law_hand"] (aBs K):=by
 have aS:=dN (P:=P) (w:=w) (base:=base) tx
 have aF6:=aE0 (P:=P) (w:=w) (base:=base) tx
 refine tx.lC.ok aBj (λvs H Q E h=>?_) (λcdv A outer s H vs Q E hr h=>?_)
 ·obtain⟨p,rfl,_⟩:=h
  rfl
 ·obtain⟨p,rfl ,hh,k⟩:=h
  have hu:=qJ hr
  refine bV (aH (bH (aZ xA (zq1 aS hr tx.aX tx.aV.kp tx.aW (aB (Z.pv 0) (aB aF aG))) aF (bP _)) (aJ (aR aF)) aY)
   (aJ (aR (aM bY aF (zq1 aF6 hr tx.aBm tx.wM.kp tx.aBl (aB (Z.pv 0) (aB (aM cJ aF (aM qF aF aF)) aG))))))) ?_
  refine bK (σ:=[some (.ref p)]) rfl ?_
  walk_at "w"
  refine⟨p,_,rfl,hh,by decide,by decide,λr1 H1 a1 b1 h1 k1 q1=>?_⟩
  walk_at "w"
  refine cI (λh=>?_) (λh=>?_)
  ·walk_at "w"
   exact k _ _ (by decide) (by decide) h1 k1 q1
  ·walk_at "w"
   refine⟨p,_,rfl,h1,by decide,λr2 H2 a2 b2 h2 k2 q2=>?_⟩
   have b3:r2 < 50000000000:=b2
   walk_at "w"
   exact k _ _ (by omega) (by omega) h2 (k1.trans k2) (q1.trans q2)
structure MS where
 up:Int
 down:Int
 begin_:Int
 run:Int
 rest:Int
 least:Int
 pieces:List (Int×Int)
def Am(i:Int):Prop:=0<=i/\i<=1000000000000
structure aJW(ps:List (Int×Int)):Prop where
 len:ps.length<=4
 pc:∀t∈ps,1<=t.1/\Am t.1/\Am t.2
 up:∀(j:Nat) t u,ps[j]?=some t->ps[j+1]?=some u->t.2<=u.2
structure MS.Good(m:MS):Prop where
 up:1<=m.up/\m.up<=12
 down:1<=m.down/\m.down<=12
 begin_:Am m.begin_
 run:Am m.run
 rest:Am m.rest
 least:Am m.least
 pieces:aJW m.pieces
structure uM(H:Hp)(qs:List Addr)(ps:List (Int×Int)):Prop where
 len:qs.length=ps.length
 at_:∀(j:Nat) q t,qs[j]?=some q->ps[j]?=some t->H q=some (.tup [.int t.1,.int t.2])
structure zC(H:Hp)(p:Addr)(ps:List (Int×Int)):Prop where
 ex:∃qs,H p=some (.lst (qs.map V.ref))/\uM H qs ps
structure d8(H:Hp)(s:Addr)(m:MS):Prop where
 ex:∃pl,H s=some (.lst [.int m.up,.int m.down,.int m.begin_,.int m.run,.int m.rest,.int m.least,.ref pl])/\zC H pl m.pieces
def mFs(m:MS)(pl:Addr):List (Str×V):=[("up",.int m.up),("down",.int m.down),("begin",.int m.begin_),("run",.int m.run),("rest",.int m.rest),("least",.int m.least),("pieces",.ref pl)]
structure dW(C:Addr)(H:Hp)(a:Addr)(m:MS):Prop where
 ex:∃dx pl,H a=some (.ins C dx (mFs m pl))/\zC H pl m.pieces
theorem uM.at2{H:Hp}{qs:List Addr}{ps:List (Int×Int)}(h:uM H qs ps){q:Addr}(hq:q∈qs):∃t∈ps,H q=some (.tup [.int t.1,.int t.2]):=by
 obtain⟨j,hj,rfl⟩:=List.getElem_of_mem hq
 have hj2:j < ps.length:=by rw[<-h.len];exact hj
 exact⟨ps[j],Rk9 hj2,h.at_ j _ _ (dF hj) (dF hj2)⟩
theorem uM.same{H H':Hp}{qs:List Addr}{ps:List (Int×Int)}(h:uM H qs ps)(s:aU H H'):uM H' qs ps:=⟨h.len,λj q t h1 h2=>s _ _ (h.at_ j q t h1 h2)⟩
theorem zC.same{H H':Hp}{p:Addr}{ps:List (Int×Int)}(h:zC H p ps)(s:aU H H'):zC H' p ps:=by
 obtain⟨qs,h1,h2⟩:=h.ex
 exact⟨qs,s _ _ h1,h2.same s⟩
theorem d8.same{H H':Hp}{p:Addr}{m:MS}(h:d8 H p m)(s:aU H H'):d8 H' p m:=by
 obtain⟨pl,h1,h2⟩:=h.ex
 exact⟨pl,s _ _ h1,h2.same s⟩
theorem dW.same{C:Addr}{H H':Hp}{p:Addr}{m:MS}(h:dW C H p m)(s:aU H H'):dW C H' p m:=by
 obtain⟨dx,pl,h1,h2⟩:=h.ex
 exact⟨dx,pl,s _ _ h1,h2.same s⟩
theorem uM.keep{H H':Hp}{qs:List Addr}{ps:List (Int×Int)}{p:Addr}(h:uM H qs ps)(hp:∀xs,H p≠some (.tup xs))(s:cE p H H'):uM H' qs ps:=
 ⟨h.len,λj q t h1 h2=>by
  have e:=h.at_ j q t h1 h2
  exact s _ _ e (λz=>hp _ (z▸e))⟩
theorem bJ.iX{H:Hp}{p:Addr}(h:bJ H p)(xs:List V):H p≠some (.tup xs):=λz=>by
 obtain⟨d,c,q,ms,hp,_⟩:=h.ex
 rw[hp] at z
 cases z
theorem zC.keep{H H':Hp}{a p:Addr}{ps:List (Int×Int)}(h:zC H a ps)(hh:bJ H p)(s:cE p H H'):zC H' a ps:=by
 obtain⟨qs,h1,h2⟩:=h.ex
 obtain⟨d,c,q,ms,hp,_⟩:=id hh.ex
 refine⟨qs,s _ _ h1 (λz=>?_),h2.keep hh.iX s⟩
 rw[z,hp] at h1
 cases qs with
 |nil=>cases h1
 |cons x xs=>cases h1
theorem d8.keep{H H':Hp}{a p:Addr}{m:MS}(h:d8 H a m)(hh:bJ H p)(s:cE p H H'):d8 H' a m:=by
 obtain⟨pl,h1,h2⟩:=h.ex
 obtain⟨d,c,q,ms,hp,_⟩:=id hh.ex
 refine⟨pl,s _ _ h1 (λz=>?_),h2.keep hh s⟩
 rw[z,hp] at h1
 cases h1
theorem dW.keep{C:Addr}{H H':Hp}{a p:Addr}{m:MS}(h:dW C H a m)(hh:bJ H p)(s:cE p H H'):dW C H' a m:=by
 obtain⟨dx,pl,h1,h2⟩:=h.ex
 obtain⟨d,c,q,ms,hp,_⟩:=id hh.ex
 refine⟨dx,pl,s _ _ h1 (λz=>?_),h2.keep hh s⟩
 rw[z,hp] at h1
 cases h1
theorem zD{i:Int}(h:Am i):amt (.int i)=true:=by
 obtain⟨h1,h2⟩:=h
 have h3:i<=10 ^ 12:=h2
 show(decide (0<=i) && decide (i<=10 ^ 12))=true
 rw[decide_eq_true h1,decide_eq_true h3]
 rfl
def aE1(K:PySem.W.Frag):Sp:=λvs H Q _=>∃v T,vs=[v]/\Th H v T/\Q (.bl (T == "int")) H
theorem aAh{P:Program}{w:World}{K:PySem.W.Frag}{mg:Str->Option Value}{base:Heap}{a:qA}(tx:Txt K mg a):cR P w K mg base lQ 1 a.qW a.qX ["thing"] (aE1 K):=by
 refine tx.rH.ok aEW (λvs H Q E h=>?_) (λcdv A outer s H vs Q E hr h=>?_)
 ·obtain⟨v,T,rfl,_⟩:=h
  rfl
 ·obtain⟨v,T,rfl ,ht,k⟩:=h
  have hu:=qJ hr
  refine bV (aJ (aR (nE (aO (rc:=aFE K) pV (by rfl) tx.dC hZ (aB (Z.pv 0) (aB (nO (v:=.ty "int") (by rfl) tx.aCT aM2 rfl) aG))) (nC (aHu (aO (rc:=aFE K) pV (by rfl) tx.dC hZ (aB (Z.pv 0) (aB (nO (v:=.ty "bool") (by rfl) tx.wU aGr rfl) aG)))))))) ?_
  refine bK (σ:=[some v]) rfl ?_
  walk_at "w"
  refine aAX (aLJ ht) ?_
  walk_at "w"
  refine uX (λh=>?_) (λh=>?_)
  ·walk_at "w"
   refine aAX (aEY ht) ?_
   walk_at "w"
   have e:(!(T == "bool"))=(T == "int"):=by cases ht <;> first|rfl|cases h
   rw[e]
   exact k
  ·have e:(T == "int")=false:=by cases ht <;> first|rfl|cases h
   rw[e] at k
   exact k
def aDJ(K:W.Frag):Sp:=λvs H Q _=>∃v T,vs=[v]/\Th H v T/\Q (.bl (amt v)) H
theorem yB{P:Program}{w:World}{K:PySem.W.Frag}{mg:Str->Option Value}{base:Heap}{a:qA}(tx:Txt K mg a):cR P w K mg base lQ 2 a.oK a.oM ["thing"] (aDJ K):=by
 have wV:=aAh (P:=P) (w:=w) (base:=base) tx
 refine tx.eX.ok aDB (λvs H Q E h=>?_) (λcdv A outer s H vs Q E hr h=>?_)
 ·obtain⟨v,T,rfl,_⟩:=h
  rfl
 ·obtain⟨v,T,rfl ,ht,k⟩:=h
  have hu:=qJ hr
  refine bV (aJ (aR (nE (zq1 wV hr tx.wO tx.rH.kp tx.wN (aB (Z.pv 0) aG)) (nC (zQ aCx aCx aF (Z.pv 0) (aM qF aF aF)))))) ?_
  refine bK (σ:=[some v]) rfl ?_
  walk_at "w"
  refine⟨v,T,rfl,ht,?_⟩
  walk_at "w"
  refine uX (λh=>?_) (λh=>?_)
  ·cases ht with
   |int i=>
    walk_at "w"
    refine cI (λh1=>?_) (λh1=>?_)
    ·walk_at "w"
     have e:amt (.int i)=decide (i<=10 ^ (12:Int).toNat):=by simp[amt,h1]
     rw[<-e]
     exact k
    ·have e:amt (.int i)=false:=by simp[amt,h1]
     rw[e] at k
     exact k
   |_=>cases h
  ·have e:amt v=false:=by cases ht <;> first|rfl|cases h
   rw[e] at k
   exact k
def aF7(K:W.Frag):Sp:=λvs H Q _=>∃(i:Int),vs=[.int i]/\1<=i/\i<=12/\Q (.bl true) H
theorem aF8{P:Program}{w:World}{K:PySem.W.Frag}{mg:Str->Option Value}{base:Heap}{a:qA}(tx:Txt K mg a):cR P w K mg base lQ 2 a.vI a.vJ ["thing"] (aF7 K):=by
 have wV:=aAh (P:=P) (w:=w) (base:=base) tx
 refine tx.vK.ok aF5 (λvs H Q E h=>?_) (λcdv A outer s H vs Q E hr h=>?_)
 ·obtain⟨i,rfl,_⟩:=h
  rfl
 ·obtain⟨i,rfl ,h1,h2,k⟩:=h
  have hu:=qJ hr
  refine bV (aJ (aR (nE (zq1 wV hr tx.wO tx.rH.kp tx.wN (aB (Z.pv 0) aG)) (nC (zQ aCx aCx aF (Z.pv 0) (aAY (n:=12) (by rfl) tx.eB)))))) ?_
  refine bK (σ:=[some (.int i)]) rfl ?_
  walk_at "w"
  refine⟨_,_,rfl,.int i,?_⟩
  walk_at "w"
  refine uX (λ_=>?_) (λh=>by simp at h)
  walk_at "w"
  refine cI (λ_=>?_) (λh=>absurd h1 h)
  walk_at "w"
  rw[decide_eq_true h2]
  exact k
def aE2(K:W.Frag):Sp:=λvs H Q _=>∃(q:Addr) (x y:Int),vs=[.ref q]/\H q=some (.tup [.int x,.int y])/\1<=x/\Am x/\Am y/\Q (.bl true) H
theorem aE3{P:Program}{w:World}{K:PySem.W.Frag}{mg:Str->Option Value}{base:Heap}{a:qA}(tx:Txt K mg a):cR P w K mg base lQ 3 a.qY a.qZ ["thing"] (aE2 K):=by
 have gP:=yB (P:=P) (w:=w) (base:=base) tx
 refine tx.wQ.ok aEX (λvs H Q E h=>?_) (λcdv A outer s H vs Q E hr h=>?_)
 ·obtain⟨q,x,y,rfl,_⟩:=h
  rfl
 ·obtain⟨q,x,y,rfl ,hq,h1,h2,h3,k⟩:=h
  have hu:=qJ hr
  refine bV (aH (bH (nM (aAZ (fP (d9 (aO (rc:=aFE K) pV (by rfl) tx.dC hZ (aB (Z.pv 0) (aB (nO (v:=.ty "tuple") (by rfl) tx.vL aIL rfl) aG))))) (yY (aZ (r:=yW K) (sZ hu) (aO (rc:=lK K) cB (by rfl) tx.dX dI (aB (Z.pv 0) aG)) aF (bP _))))) (aJ (aR cU)) aY)
   (aJ (aR (nE (zq1 gP hr tx.gO tx.eX.kp tx.gM (aB (aN (K':=K) (Z.pv 0) aF) aG)) (nE (fY aLT (aN (K':=K) (Z.pv 0) aF) aF (bP _)) (nC (zq1 gP hr tx.gO tx.eX.kp tx.gM (aB (aN (K':=K) (Z.pv 0) aF) aG)))))))) ?_
  refine bK (σ:=[some (.ref q)]) rfl ?_
  walk_at "w"
  refine aAX (aHQ (.tup hq)) ?_
  walk_at "w"
  refine uX (λh=>by simp at h) (λ_=>?_)
  walk_at "w"
  refine oE (λh=>absurd rfl h) (λ_=>?_)
  walk_at "w"
  refine⟨_,_,rfl,.int x,?_⟩
  rw[zD h2]
  walk_at "w"
  refine cI (λ_=>?_) (λh=>absurd h1 h)
  walk_at "w"
  refine⟨_,_,rfl,.int y,?_⟩
  rw[zD h3]
  exact k
def aB7(K:W.Frag):Sp:=λvs H Q _=>∃(p:Addr) (ps:List (Int×Int)),vs=[.ref p]/\zC H p ps/\aJW ps/\∀H',aU H H'->Q (.bl true) H'
theorem aB8{P:Program}{w:World}{K:PySem.W.Frag}{mg:Str->Option Value}{base:Heap}{a:qA}(tx:Txt K mg a):cR P w K mg base lQ 4 a.mE a.mF ["thing"] (aB7 K):=by
 have aF9:=aE3 (P:=P) (w:=w) (base:=base) tx
 refine tx.rJ.ok aB0 (λvs H Q E h=>?_) (λcdv A outer s H vs Q E hr h=>?_)
 ·obtain⟨p,ps,rfl,_⟩:=h
  rfl
 ·obtain⟨p,ps,rfl ,hp,hg,k⟩:=h
  have hu:=qJ hr
  refine bV (aH (bH (nM (aAZ (fP (d9 (aO (rc:=aFE K) pV (by rfl) tx.dC hZ (aB (Z.pv 0) (aB (nO (v:=.ty "list") (by rfl) tx.kK oC rfl) aG))))) (yY (aZ xA (aO (rc:=lK K) cB (by rfl) tx.dX dI (aB (Z.pv 0) aG)) (aAY (n:=4) (by rfl) tx.fW) (bP _))))) (aJ (aR cU)) aY)
   (aH (bH (fP (d9 (aO (rc:=aFI K) (pW rfl) (by rfl) tx.v9 aAW (aB (cM (k:=1) (idx:=[]) (N:=["piece"]) (dZ (sc:=aL eE) (NX:=["thing"]) rfl rfl rfl (by decide +kernel)) rfl (bR (K':=K) (Z.pv 0)) (λ_ _ _ _=>(aQ (i:=0) (show(["piece"]:List Str).Nodup by decide +kernel))) (eN (by decide)) (λ_ _ _ _=>cK) (λ_ _ _ _=>(zq1 aF9 hr tx.aBo tx.wQ.kp tx.aBn (aB (Z.pv 0) aG)))) aG)))) (aJ (aR cU)) aY)
   (aJ (aR (aO (rc:=aFI K) (pW rfl) (by rfl) tx.v9 aAW (aB (cM (k:=1) (idx:=[0]) (N:=["at","thing"]) (dZ (sc:=aL eE) (NX:=["thing"]) rfl rfl rfl (by decide +kernel)) rfl (aBX (by rfl) tx.fK (aB aF (aB (aO (rc:=lK K) cB (by rfl) tx.dX dI (aB (Z.pv 0) aG)) aG))) (λ_ _ _ _=>(aQ (i:=0) (show(["at","thing"]:List Str).Nodup by decide +kernel))) (eN (by decide)) (λ_ _ _ _=>cK) (λ_ _ _ _=>(fY aCx (aN (K':=K) (aN (K':=K) (Z.pv 1) (aM eZ (Z.pv 0) aF)) aF) (aN (K':=K) (aN (K':=K) (Z.pv 1) (Z.pv 0)) aF) (bP _)))) aG)))))) ?_
  obtain⟨qs,h1,h2⟩:=hp.ex
  have hl:=hg.len
  have hql:qs.length<=4:=by rw[h2.len];exact hl
  refine bK (σ:=[some (.ref p)]) rfl ?_
  walk_at "w"
  refine aAX (aJU (.lst h1)) ?_
  walk_at "w"
  refine uX (λh=>by simp at h) (λ_=>?_)
  walk_at "w"
  refine cI (λh=>by rw[cD] at h;omega) (λ_=>?_)
  walk_at "w"
  refine iE (bU.of h1) ?_
  refine aCF (λ_=>.bl true) (bU.of h1) (cO (by rw[cD];omega)) (λx N N' hxm hN=>?_) ?_
  ·obtain⟨q,hq,rfl⟩:=o8.mp hxm
   obtain⟨t,ht,e⟩:=h2.at2 hq
   obtain⟨g1,g2,g3⟩:=hg.pc t ht
   walk_at "w"
   exact⟨q,t.1,t.2,rfl,e,g1,g2,g3,hN⟩
  ·intro l1 n1
   walk_at "w"
   refine aGs (bU.of aT) (λx hx=>by obtain⟨_,_,rfl⟩:=o8.mp hx;rfl) ?_
   walk_at "w"
   have h1':=aU.new (o:=.lst ((qs.map V.ref).map λ_=>V.bl true)) n1 _ _ h1
   have h2':=h2.same (aU.new (o:=.lst ((qs.map V.ref).map λ_=>V.bl true)) n1)
   walk_at "w"
   refine⟨⟨by omega,by omega,by omega,by rw[cD];omega⟩,?_⟩
   rw[cD]
   refine aFD (λ_=>.bl true) (cO (by omega)) (λi N N' hi hN=>?_) ?_
   ·have i1:i < qs.length:=by omega
    have i2:i+1 < qs.length:=by omega
    have j1:i < ps.length:=by rw[<-h2.len];exact i1
    have j2:i+1 < ps.length:=by rw[<-h2.len];exact i2
    have e1:p9 (qs.map V.ref) (1+(i:Int) - 1)=some (.ref qs[i]):=by
     rw[show 1+(i:Int) - 1=(i:Int) by omega]
     exact dA (by rw[qB,dF i1];rfl)
    have e2:p9 (qs.map V.ref) (1+(i:Int))=some (.ref qs[i+1]):=by
     rw[show 1+(i:Int)=((i+1:Nat):Int) by omega]
     exact dA (by rw[qB,dF i2];rfl)
    have t1:=h2'.at_ i _ _ (dF i1) (dF j1)
    have t2:=h2'.at_ (i+1) _ _ (dF i2) (dF j2)
    have t3:=hg.up i _ _ (dF j1) (dF j2)
    walk_at "w"
    rw[decide_eq_true t3]
    exact hN
   ·intro l2 n2
    walk_at "w"
    refine aGs (bU.of aT) (λx hx=>by obtain⟨_,_,rfl⟩:=o8.mp hx;rfl) ?_
    exact k _ ((aU.new n1).trans (aU.new n2))
def aAp(K:W.Frag)(C:Addr):Sp:=λvs H Q _=>∃(x dx pl:Addr) (m:MS),vs=[.ref x,.int m.up,.int m.down,.int m.begin_,.int m.run,.int m.rest,.int m.least,.ref pl]/\H x=some (.ins C dx [])/\zC H pl m.pieces/\m.Good/\
 ∀H',dW C H' x m->cE x H H'->Q .non H'
theorem aAq{P:Program}{w:World}{K:PySem.W.Frag}{mg:Str->Option Value}{base:Heap}{a:qA}(tx:Txt K mg a):cR P w K mg base lQ 5 a.jF a.jG ["self","up","down","begin","run","rest","least","pieces"] (aAp K a.bS):=by
 have aDK:=aB8 (P:=P) (w:=w) (base:=base) tx
 have gP:=yB (P:=P) (w:=w) (base:=base) tx
 have aCW:=aF8 (P:=P) (w:=w) (base:=base) tx
 refine tx.tL.ok fM (λvs H Q E h=>?_) (λcdv A outer s H vs Q E hr h=>?_)
 ·obtain⟨x,dx,pl,m,rfl,_⟩:=h
  rfl
 ·obtain⟨x,dx,pl,m,rfl ,hx,hp,hg,k⟩:=h
  have hu:=qJ hr
  refine bV (aH (aP (i:=8) fM.nd (aAH (zq1 aCW hr tx.zB tx.vK.kp tx.zA (aB (Z.pv 1) aG)) (zq1 aCW hr tx.zB tx.vK.kp tx.zA (aB (Z.pv 2) aG))))
   (aH (aP (i:=9) fM.nd (aGu (zq1 gP hr tx.gO tx.eX.kp tx.gM (aB (Z.pv 3) aG)) (zq1 gP hr tx.gO tx.eX.kp tx.gM (aB (Z.pv 4) aG)) (zq1 gP hr tx.gO tx.eX.kp tx.gM (aB (Z.pv 5) aG)) (zq1 gP hr tx.gO tx.eX.kp tx.gM (aB (Z.pv 6) aG))))
   (aH (cC PassesOwn.never rfl (tE (K':=K) (by rfl) tx.eY (aB (aM bY (aM bY (Z.pv 8) (Z.pv 9)) (mC (zq1 aDK hr tx.xR tx.rJ.kp tx.xQ (aB (Z.pv 7) aG)))) aG)) (cT (K':=K) (n:=2) rfl (bF (aQ (i:=10) fM.nd) (bF (aQ (i:=11) fM.nd) cS))) (aJ (bH (fP (d9 (Z.pv 11))) (aJ tD) aY)))
   (aH (iO (K':=K) (Z.pv 0) (Z.pv 1) rfl)
   (aH (iO (K':=K) (Z.pv 0) (Z.pv 2) rfl)
   (aH (iO (K':=K) (Z.pv 0) (Z.pv 3) rfl)
   (aH (iO (K':=K) (Z.pv 0) (Z.pv 4) rfl)
   (aH (iO (K':=K) (Z.pv 0) (Z.pv 5) rfl)
   (aH (iO (K':=K) (Z.pv 0) (Z.pv 6) rfl)
   (aJ (iO (K':=K) (Z.pv 0) (cH (rc:=mB K) iK (by rfl) tx.kK oC (aB (Z.pv 7) aG)) rfl))))))))))) ?_
  refine bK (σ:=[some (.ref x),some (.int m.up),some (.int m.down),some (.int m.begin_),some (.int m.run),some (.int m.rest),some (.int m.least),some (.ref pl),none,none,none,none]) rfl ?_
  walk_at "w"
  refine⟨_,rfl,hg.up.1,hg.up.2,?_⟩
  walk_at "w"
  refine⟨_,rfl,hg.down.1,hg.down.2,?_⟩
  walk_at "w"
  intro l1 n1
  walk_at "w"
  refine⟨_,_,rfl,.int _,?_⟩
  rw[zD hg.begin_]
  walk_at "w"
  refine⟨_,_,rfl,.int _,?_⟩
  rw[zD hg.run]
  walk_at "w"
  refine⟨_,_,rfl,.int _,?_⟩
  rw[zD hg.rest]
  walk_at "w"
  refine⟨_,_,rfl,.int _,?_⟩
  rw[zD hg.least]
  walk_at "w"
  intro l2 n2
  walk_at "w"
  refine lZ (xs:=[.bl true,.bl true]) (zs:=[.bl true,.bl true,.bl true,.bl true]) (by walk_at "hp") aT (cO (by simp)) ?_
  intro l3 n3
  walk_at "w"
  have s3:aU H (upd (upd (upd H l1 (.lst [.bl true,.bl true])) l2 (.lst [.bl true,.bl true,.bl true,.bl true])) l3 (.lst ([.bl true,.bl true] ++ [.bl true,.bl true,.bl true,.bl true]))):=((aU.new n1).trans (aU.new n2)).trans (aU.new n3)
  refine⟨pl,m.pieces,rfl,hp.same s3,hg.pieces,λH4 s4=>?_⟩
  walk_at "w"
  intro l5 n5
  walk_at "w"
  refine lZ (xs:=[.bl true,.bl true] ++ [.bl true,.bl true,.bl true,.bl true]) (zs:=[.bl true]) (aU.new n5 _ _ (s4 _ _ aT)) aT (cO (by simp)) ?_
  intro l6 n6
  walk_at "w"
  have s6:aU H (upd (upd H4 l5 (.lst [.bl true])) l6 (.lst (([.bl true,.bl true] ++ [.bl true,.bl true,.bl true,.bl true]) ++ [.bl true]))):=(s3.trans s4).trans ((aU.new n5).trans (aU.new n6))
  generalize hH6:upd (upd H4 l5 (.lst [.bl true])) l6 (.lst (([.bl true,.bl true] ++ [.bl true,.bl true,.bl true,.bl true]) ++ [.bl true]))=H6 at s6 ⊢
  have e6:H6 l6=some (.lst [.bl true,.bl true,.bl true,.bl true,.bl true,.bl true,.bl true]):=by rw[<-hH6,aT];rfl
  refine aI3 (bU.of e6) ?_
  refine aDh (xs:=[.bl true,.bl true,.bl true,.bl true,.bl true,.bl true,.bl true]) (λi σ' H'=>∃y z,σ'=[some (.ref x),some (.int m.up),some (.int m.down),some (.int m.begin_),some (.int m.run),some (.int m.rest),some (.int m.least),some (.ref pl),some (.ref l1),some (.ref l2),y,z]/\aU H6 H')
   ⟨_,_,rfl,aU.refl _⟩ (λi σ' H' hi ⟨y,z,e,s⟩=>bU.of (s _ _ e6)) (λi v σ' H' T hv z9q nT=>?_) (λσ' H' z10q=>?_)
  ·obtain⟨y,z,e,s⟩:=z9q
   subst e
   have ev:v=.bl true:=by
    have:=iW hv
    simpa using this
   subst ev
   refine fB (iY.of aT) rfl ?_
   walk_at "w"
   exact⟨_,_,rfl,s.trans (aU.new nT)⟩
  ·obtain⟨y,z,e,s⟩:=z10q
   subst e
   have sH:aU H H':=s6.trans s
   have hx':=sH _ _ hx
   have hp':=hp.same sH
   obtain⟨qs,p1,p2⟩:=hp'.ex
   walk_at "w"
   refine wI (fs':=[("up",.int m.up)]) hx' tx.cX tx.rT (by simp[mFs]) rfl ?_
   walk_at "w"
   refine wI (fs':=[("up",.int m.up),("down",.int m.down)]) aT tx.cX tx.nV (by simp[mFs]) rfl ?_
   rw[wZ]
   walk_at "w"
   refine wI (fs':=[("up",.int m.up),("down",.int m.down),("begin",.int m.begin_)]) aT tx.cX tx.lT (by simp[mFs]) rfl ?_
   rw[wZ]
   walk_at "w"
   refine wI (fs':=[("up",.int m.up),("down",.int m.down),("begin",.int m.begin_),("run",.int m.run)]) aT tx.cX tx.pM (by simp[mFs]) rfl ?_
   rw[wZ]
   walk_at "w"
   refine wI (fs':=[("up",.int m.up),("down",.int m.down),("begin",.int m.begin_),("run",.int m.run),("rest",.int m.rest)]) aT tx.cX tx.nW (by simp[mFs]) rfl ?_
   rw[wZ]
   walk_at "w"
   refine wI (fs':=[("up",.int m.up),("down",.int m.down),("begin",.int m.begin_),("run",.int m.run),("rest",.int m.rest),("least",.int m.least)]) aT tx.cX tx.lU (by simp[mFs]) rfl ?_
   rw[wZ]
   walk_at "w"
   have px:pl≠x:=λz=>by rw[z,hx'] at p1;cases p1
   refine nK (ys:=qs.map V.ref) (bU.of (by rw[bB px];exact p1)) ?_
   intro l9 n9
   walk_at "w"
   have x9:x≠l9:=bQ n9 aT
   walk_at "w"
   refine wI (fs':=mFs m l9) (by rw[bB x9];exact aT) tx.cX tx.kJ (by simp[mFs]) rfl ?_
   walk_at "w"
   refine k _ ⟨dx,l9,aT,qs,?_,p2.len,λj q t h1 h2=>?_⟩ (λb o e nb=>?_)
   ·rw[bB (Ne.symm x9),aT]
   ·have e:=p2.at_ j q t h1 h2
    have qx:q≠x:=λz=>by rw[z,hx'] at e;cases e
    have q9:q≠l9:=bQ n9 (by rw[bB qx];exact e)
    rw[bB qx,bB q9,bB qx]
    exact e
   ·have e1:=sH _ _ e
    have b9:b≠l9:=bQ n9 (by rw[bB nb];exact e1)
    rw[bB nb,bB b9,bB nb]
    exact e1
structure PcW(ps:List (Int×Int))(r:Int):Prop where
 pc:∀t∈ps,1<=t.1/\Am t.1/\Am t.2
 up:∀(j:Nat) t u,ps[j]?=some t->ps[j+1]?=some u->t.2<=u.2
 top:∀t∈ps,t.2<=r
theorem PcW.nil{r:Int}:PcW [] r:=⟨λ_ h=>by simp at h,λj t u h=>by simp at h,λ_ h=>by simp at h⟩
theorem PcW.snoc{ps:List (Int×Int)}{r r' a:Int}(w:PcW ps r)(hr:r<=r')(h1:1<=a)(h2:Am a)(h3:Am r'):PcW (ps ++ [(a,r')]) r':=by
 refine⟨λt h=>?_,λj t u ht hu=>?_,λt h=>?_⟩
 ·rcases Rf9.mp h with h|h
  ·exact w.pc t h
  ·rw[zJ.mp h];exact⟨h1,h2,h3⟩
 ·have hj2:j+1 < (ps ++ [(a,r')]).length:=(lG.mp hu).1
  rw[sO,Se9] at hj2
  have hj:j < ps.length:=by omega
  rw[Qq9 hj] at ht
  by_cases hj3:j+1 < ps.length
  ·rw[Qq9 hj3] at hu
   exact w.up j t u ht hu
  ·rw[Qz9 (by omega),show j+1 - ps.length=0 by omega] at hu
   cases hu
   exact Int.le_trans (w.top t (iW ht)) hr
 ·rcases Rf9.mp h with h|h
  ·exact Int.le_trans (w.top t h) hr
  ·rw[zJ.mp h];exact Int.le_refl _
theorem uM.snoc{H H3:Hp}{qs:List Addr}{ss:List (Int×Int)}{l T:Addr}{xs:List V}{t:Int×Int}(h:uM H qs ss)(hl:H l=some (.lst xs))(k:cE l H H3)(hT:H3 T=some (.tup [.int t.1,.int t.2])):uM H3 (qs ++ [T]) (ss ++ [t]):=by
 refine⟨by rw[sO,sO,h.len];rfl,λj q u hq hu=>?_⟩
 by_cases hj:j < qs.length
 ·rw[Qq9 hj] at hq
  rw[Qq9 (by rw[<-h.len];exact hj)] at hu
  have e:=h.at_ j q u hq hu
  refine k q _ e λz=>?_
  rw[z,hl] at e
  cases e
 ·have hj2:j < (qs ++ [T]).length:=(lG.mp hq).1
  rw[sO,Se9] at hj2
  have e:j=qs.length:=by omega
  subst e
  rw[Qz9 (dQ _),Tl9] at hq
  rw[h.len,Qz9 (dQ _),Tl9] at hu
  cases hq
  cases hu
  exact hT
theorem bJ.aPe{H:Hp}{p c:Addr}{qs:List Addr}(h:bJ H p)(e:H c=some (.lst (qs.map V.ref))):c≠p:=λz=>by
 obtain⟨d,cc,q,ms,hp,_⟩:=h.ex
 rw[z,hp] at e
 cases qs with
 |nil=>cases e
 |cons x xs=>cases e
theorem bJ.aJX{H:Hp}{p c:Addr}{xs:List V}(h:bJ H p)(e:H c=some (.lst xs))(hl:xs.length≠3):c≠p:=λz=>by
 obtain⟨d,cc,q,ms,hp,_⟩:=h.ex
 rw[z,hp] at e
 cases e
 exact hl rfl
theorem bJ.isL{H:Hp}{p:Addr}(h:bJ H p):∃xs,H p=some (.lst xs):=by
 obtain⟨d,cc,q,ms,hp,_⟩:=h.ex
 exact⟨_,hp⟩
theorem yC{H H':Hp}{p c:Addr}(k:cE p H H')(hh:bJ H' p)(n:H' c=none):H c=none:=by
 cases hc:H c with
 |none=>rfl
 |some v=>
  obtain⟨xs,e⟩:=hh.isL
  exact absurd rfl (bQ n (k c v hc (λz=>bQ n e z.symm)))
theorem aJY{x r n B:Int}(x0:1<=x)(x1:x<=50000000000)(a:0<=r)(c:r < n)(h:50000000000*(n - 1)<=B):0<=x*r/\x*r<=B:=
 ⟨Int.mul_nonneg (by omega) a,Int.le_trans (Int.mul_le_mul x1 (show r<=n - 1 by omega) a (by omega)) h⟩
theorem aPf{x u n B:Int}(x0:1<=x)(x1:x<=50000000000)(a:0<=u)(c:u < n)(h:50000000000*n<=B):x<=x*(1+u)/\x*(1+u)<=B:=
 ⟨by have:=Int.mul_le_mul_of_nonneg_left (show 1<=1+u by omega) (show 0<=x by omega);rw[Int.mul_one] at this;exact this,Int.le_trans (Int.mul_le_mul x1 (show 1+u<=n by omega) (by omega) (by omega)) h⟩
theorem up1{r n:Int}(a:0<=r)(c:r < n)(n1:n<=12):(1<=1+r/\1+r<=12)/\1+r<=n:=by omega
theorem amB{z:Int}(h:0<=z/\z<=250000000000):Am z:=⟨h.1,by have:=h.2;omega⟩
theorem rtB{rate z:Int}{i:Nat}(f5:0<=rate)(f6:rate<=(i:Int)*100000000000)(g:0<=z/\z<=100000000000)(i4:i<=3):rate<=rate+z/\Am (rate+z)/\0<=rate+z/\rate+z<=((i+1:Nat):Int)*100000000000:=⟨by omega,⟨by omega,by omega⟩,by omega,by omega⟩
theorem xB{x z:Int}(x0:1<=x)(g:x<=z/\z<=150000000000):1<=z/\Am z:=⟨by omega,⟨by omega,by omega⟩⟩
def aDL(K:W.Frag):Sp:=λvs H Q _=>∃(p b:Addr) (x y n:Int),vs=[.ref p,.ref b,.int n]/\bJ H p/\H b=some (.lst [.int x,.int y])/\1<=x/\x<=50000000000/\1<=y/\y<=50000000000/\1<=n/\n<=12/\
 ∀(s:Addr) (m:MS) H',d8 H' s m->m.Good->m.up<=n->m.down<=n->bJ H' p->cE p H H'->H s=none->Q (.ref s) H'
theorem aDM{P:Program}{w:World}{K:PySem.W.Frag}{mg:Str->Option Value}{base:Heap}{a:qA}(tx:Txt K mg a):cR P w K mg base lQ 2 a.oN a.oO ["_law_hand","_law_by","_law_longest"] (aDL K):=by
 have aS:=dN (P:=P) (w:=w) (base:=base) tx
 refine tx.tN.ok dJ (λvs H Q E h=>?_) (λcdv A outer s H vs Q E hr h=>?_)
 ·obtain⟨p,b,x,y,n,rfl,_⟩:=h
  rfl
 ·obtain⟨p,b,x,y,n,rfl ,hh,hb,x0,x1,y0,y1,n0,n1,k⟩:=h
  have hu:=qJ hr
  refine bV (aH (aP (i:=3) dJ.nd (aM bY aF (zq1 aS hr tx.aX tx.aV.kp tx.aW (aB (Z.pv 0) (aB (Z.pv 2) aG)))))
   (aH (aP (i:=4) dJ.nd (aM bY aF (zq1 aS hr tx.aX tx.aV.kp tx.aW (aB (Z.pv 0) (aB (Z.pv 2) aG)))))
   (aH (aP (i:=5) dJ.nd (aDj (aM cJ (aN (K':=K) (Z.pv 1) aF) (zq1 aS hr tx.aX tx.aV.kp tx.aW (aB (Z.pv 0) (aB aF aG)))) (aM cJ (aN (K':=K) (Z.pv 1) aF) (zq1 aS hr tx.aX tx.aV.kp tx.aW (aB (Z.pv 0) (aB aF aG)))) (aM cJ (aN (K':=K) (Z.pv 1) aF) (zq1 aS hr tx.aX tx.aV.kp tx.aW (aB (Z.pv 0) (aB aF aG))))))
   (aH (aP (i:=6) dJ.nd (aM cJ (aN (K':=K) (Z.pv 1) aF) (zq1 aS hr tx.aX tx.aV.kp tx.aW (aB (Z.pv 0) (aB aF aG)))))
   (aH (aP (i:=7) dJ.nd aF)
   (aH (aP (i:=8) dJ.nd (gQ aG))
   (aH (cC PassesOwn.never rfl (dO (by rfl) tx.fK (aB (zq1 aS hr tx.aX tx.aV.kp tx.aW (aB (Z.pv 0) (aB aF aG))) aG)) (aQ (i:=9) dJ.nd) (aH (y4 (i:=7) dJ.nd rfl (Or.inl rfl) (aM cJ (aN (K':=K) (Z.pv 1) aF) (zq1 aS hr tx.aX tx.aV.kp tx.aW (aB (Z.pv 0) (aB aF aG)))) aC7)
   (aJ (cZ (fE (K':=K) (Z.pv 8) (aB (cQ (aM cJ (aN (K':=K) (Z.pv 1) aF) (aM bY aF (zq1 aS hr tx.aX tx.aV.kp tx.aW (aB (Z.pv 0) (aB aF aG))))) (Z.pv 7)) aG))))))
   (aJ (aR (aLm (Z.pv 3) (Z.pv 4) (aN (K':=K) (Z.pv 5) aF) (aN (K':=K) (Z.pv 5) aF) (aN (K':=K) (Z.pv 5) aF) (Z.pv 6) (Z.pv 8))))))))))) ?_
  have bp:b≠p:=hh.aJX hb (by simp)
  refine bK (σ:=[some (.ref p),some (.ref b),some (.int n),none,none,none,none,none,none,none]) rfl ?_
  walk_at "w"
  refine⟨p,_,rfl,hh,by omega,by omega,λr1 H1 a1 c1 h1 k1 _=>?_⟩
  have hb1:=k1 _ _ hb bp
  walk_at "w"
  refine⟨p,_,rfl,h1,by omega,by omega,λr2 H2 a2 c2 h2 k2 _=>?_⟩
  have hb2:=k2 _ _ hb1 bp
  walk_at "w"
  refine⟨p,_,rfl,h2,by decide,by decide,λr3 H3 a3 c3 h3 k3 _=>?_⟩
  have hb3:=k3 _ _ hb2 bp
  walk_at "w"
  refine⟨p,_,rfl,h3,by decide,by decide,λr4 H4 a4 c4 h4 k4 _=>?_⟩
  have hb4:=k4 _ _ hb3 bp
  walk_at "w"
  refine⟨p,_,rfl,h4,by decide,by decide,λr5 H5 a5 c5 h5 k5 _=>?_⟩
  have hb5:=k5 _ _ hb4 bp
  walk_at "w"
  intro l6 n6
  walk_at "w"
  have hb6:=aU.new (o:=.lst [.int (y*r3),.int (y*r4),.int (y*r5)]) n6 _ _ hb5
  have h6:=h5.same (aU.new (o:=.lst [.int (y*r3),.int (y*r4),.int (y*r5)]) n6)
  walk_at "w"
  refine⟨p,_,rfl,h6,by decide,by decide,λr7 H7 a7 c7 h7 k7 _=>?_⟩
  have hb7:=k7 _ _ hb6 bp
  have l6p:l6≠p:=λz=>by obtain⟨_,e⟩:=h5.isL;exact bQ n6 e z.symm
  have e7:H7 l6=some (.lst [.int (y*r3),.int (y*r4),.int (y*r5)]):=k7 _ _ aT l6p
  have kk7:cE p H H7:=k1.trans (k2.trans (k3.trans (k4.trans (k5.trans ((aU.new n6).keep.trans k7)))))
  have g3:0<=y*r3/\y*r3<=250000000000:=aJY y0 y1 a3 c3 (by decide)
  have g4:0<=y*r4/\y*r4<=250000000000:=aJY y0 y1 a4 c4 (by decide)
  have g5:0<=y*r5/\y*r5<=250000000000:=aJY y0 y1 a5 c5 (by decide)
  have g7:0<=x*r7/\x*r7<=250000000000:=aJY x0 x1 a7 c7 (by decide)
  walk_at "w"
  intro l8 n8
  walk_at "w"
  have h8:=h7.same (aU.new (o:=.lst []) n8)
  walk_at "w"
  refine⟨p,_,rfl,h8,by decide,by decide,λr9 H9 a9 c9 h9 k9 _=>?_⟩
  have l8p:l8≠p:=λz=>by obtain⟨_,e⟩:=h7.isL;exact bQ n8 e z.symm
  have e9:H9 l8=some (.lst []):=k9 _ _ aT l8p
  have hb9:=k9 _ _ (aU.new n8 _ _ hb7) bp
  have e69:H9 l6=some (.lst [.int (y*r3),.int (y*r4),.int (y*r5)]):=k9 _ _ (aU.new n8 _ _ e7) l6p
  have kk9:cE p H H9:=kk7.trans ((aU.new n8).keep.trans k9)
  have n8H:H l8=none:=yC kk7 h7 n8
  have n6H:H l6=none:=yC (k1.trans (k2.trans (k3.trans (k4.trans k5)))) h5 n6
  walk_at "w"
  refine⟨by omega,by omega,?_⟩
  refine nL (λi σ' H'=>∃qs ps rate x9,σ'=[some (.ref p),some (.ref b),some (.int n),some (.int (1+r1)),some (.int (1+r2)),some (.ref l6),some (.int (x*r7)),some (.int rate),some (.ref l8),x9]/\H' l8=some (.lst (qs.map V.ref))/\uM H' qs ps/\ps.length=i/\PcW ps rate/\
    0<=rate/\rate<=(i:Int)*100000000000/\bJ H' p/\cE p H H'/\H' b=some (.lst [.int x,.int y])/\H' l6=some (.lst [.int (y*r3),.int (y*r4),.int (y*r5)]))
   ⟨[],[],0,_,rfl,e9,⟨rfl,λj q t h=>by simp at h⟩,rfl,PcW.nil,by omega,by omega,h9,kk9,hb9,e69⟩
   (λi σ' H' hi z11q=>?_) (λσ' H' z12q=>?_)
  ·obtain⟨qs,ps,rate,x9,e,f1,f2,f3,f4,f5,f6,f7,f8,f9,f0⟩:=z11q
   subst e
   have i4:i<=3:=by omega
   walk_at "w"
   refine aFC rfl ?_
   walk_at "w"
   refine⟨p,_,rfl,f7,by decide,by decide,λu1 J1 v1 w1 q1 t1 _=>?_⟩
   have g1:0<=y*u1/\y*u1<=100000000000:=aJY y0 y1 v1 w1 (by decide)
   have l8q:l8≠p:=f7.aPe f1
   have d1:=t1 _ _ f1 l8q
   have d2:=f2.keep f7.iX t1
   have d3:=t1 _ _ f9 bp
   have d4:=t1 _ _ f0 l6p
   walk_at "w"
   refine j0 (bU.of d1) ?_
   walk_at "w"
   refine⟨p,_,rfl,q1,by decide,by decide,λu2 J2 v2 w2 q2 t2 _=>?_⟩
   have g2:x<=x*(1+u2)/\x*(1+u2)<=150000000000:=aPf x0 x1 v2 w2 (by decide)
   have dd1:=t2 _ _ d1 l8q
   have dd2:=d2.keep q1.iX t2
   have dd3:=t2 _ _ d3 bp
   have dd4:=t2 _ _ d4 l6p
   walk_at "w"
   intro T nT
   walk_at "w"
   refine qN (xs:=qs.map V.ref) (aU.new nT _ _ dd1) (uU (by rw[cD,f2.len];omega:(qs.map V.ref).length < 1000) (cO (by simp))) ?_
   walk_at "w"
   have hT8:T≠l8:=Ne.symm (bQ nT dd1)
   have kz:cE l8 J2 (upd (upd J2 T (.tup [.int (x*(1+u2)),.int (rate+y*u1)])) l8 (.lst (qs.map V.ref ++ [.ref T]))):=(aU.new nT).keep.trans cE.upd
   refine⟨qs ++ [T],ps ++ [(x*(1+u2),rate+y*u1)],_,_,rfl,?_,dd2.snoc dd1 kz (by rw[bB hT8,aT]),by rw[sO,f3];rfl,f4.snoc (rtB f5 f6 g1 i4).1 (xB x0 g2).1 (xB x0 g2).2 (rtB f5 f6 g1 i4).2.1,(rtB f5 f6 g1 i4).2.2.1,(rtB f5 f6 g1 i4).2.2.2,?_,λc o hc hcp=>?_,?_,?_⟩
   ·rw[aT,iI];rfl
   ·obtain⟨dd,cc,q,ms,hp,hq,hne,hqp⟩:=q2.ex
    refine⟨⟨dd,cc,q,ms,kz _ _ hp (Ne.symm l8q),kz _ _ hq (λz=>?_),hne,hqp⟩⟩
    rw[z,dd1] at hq
    cases qs with
    |nil=>cases ms with
     |nil=>exact hne rfl
     |cons _ _=>cases hq
    |cons _ _=>cases ms with
     |nil=>exact hne rfl
     |cons _ _=>cases hq
   ·exact kz _ _ (t2 _ _ (t1 _ _ (f8 _ _ hc hcp) hcp) hcp) (bQ n8H hc)
   ·exact kz _ _ dd3 (λz=>by rw[z,dd1] at dd3;cases qs with
     |nil=>cases dd3
     |cons _ _=>cases dd3)
   ·exact kz _ _ dd4 (λz=>by rw[z,dd1] at dd4;cases qs with
     |nil=>cases dd4
     |cons _ _=>cases dd4)
  ·obtain⟨qs,ps,rate,x9,e,f1,f2,f3,f4,f5,f6,f7,f8,f9,f0⟩:=z12q
   subst e
   walk_at "w"
   intro s ns
   walk_at "w"
   have hr9:r9.toNat<=4:=by omega
   refine k s ⟨1+r1,1+r2,y*r3,y*r4,y*r5,x*r7,ps⟩ _ ⟨l8,aT,qs,aU.new ns _ _ f1,f2.same (aU.new ns)⟩ ⟨(up1 a1 c1 n1).1,(up1 a2 c2 n1).1,amB g3,amB g4,amB g5,amB g7,⟨by show ps.length<=4;omega,f4.pc,f4.up⟩⟩ (up1 a1 c1 n1).2 (up1 a2 c2 n1).2 (f7.same (aU.new ns)) (f8.trans (aU.new ns).keep) (yC f8 f7 ns)
def aAr(K:W.Frag)(C:Addr):Sp:=λvs H Q _=>∃(s:Addr) (m:MS),vs=[.ref s]/\d8 H s m/\m.Good/\∀x H',dW C H' x m->aU H H'->H x=none->Q (.ref x) H'
theorem aAs{P:Program}{w:World}{K:PySem.W.Frag}{mg:Str->Option Value}{base:Heap}{a:qA}(tx:Txt K mg a):cR P w K mg base lQ 7 a.jH a.jI ["_law_spec_here"] (aAr K a.bS):=by
 have aBu:=aAq (P:=P) (w:=w) (base:=base) tx
 refine tx.nR.ok aAo (λvs H Q E h=>?_) (λcdv A outer s H vs Q E hr h=>?_)
 ·obtain⟨s,m,rfl,_⟩:=h
  rfl
 ·obtain⟨s,m,rfl ,hs,hg,k⟩:=h
  have hu:=qJ hr
  refine bV (aJ (aR (aEB tx.aCQ (aBu) (hr.mono (by decide)) (by rfl) tx.aCP tx.tM .nil bG (aB (aN (K':=K) (Z.pv 0) aF) (aB (aN (K':=K) (Z.pv 0) aF) (aB (aN (K':=K) (Z.pv 0) aF) (aB (aN (K':=K) (Z.pv 0) aF) (aB (aN (K':=K) (Z.pv 0) aF) (aB (aN (K':=K) (Z.pv 0) aF) (aB (cH (rc:=mB K) iK (by rfl) tx.kK oC (aB (aN (K':=K) (Z.pv 0) aF) aG)) aG)))))))))) ?_
  obtain⟨pl,h1,h2⟩:=hs.ex
  obtain⟨qs,h3,h4⟩:=h2.ex
  refine bK (σ:=[some (.ref s)]) rfl ?_
  walk_at "w"
  refine nK (bU.of h3) ?_
  intro l n
  walk_at "w"
  intro x dx nx nd hd
  have sx:aU H (upd (upd (upd H l (.lst (qs.map V.ref))) dx (.own x)) x (.ins a.bS dx [])):=λb o e=>by
   have e1:=aU.new (o:=.lst (qs.map V.ref)) n _ _ e
   rw[bB (bQ nx e1),bB (bQ nd e1)]
   exact e1
  have lx:l≠x:=bQ nx aT
  have ld:l≠dx:=bQ nd aT
  refine⟨x,dx,l,m,rfl,aT,⟨qs,by rw[bB lx,bB ld,aT],h4.same sx⟩,hg,λH' hM kx=>⟨rfl,?_⟩⟩
  have nxH:H x=none:=(aU.new n).free nx
  exact k x H' hM (λb o e=>kx _ _ (sx _ _ e) (bQ nxH e)) nxH
theorem bJ.aJZ{H:Hp}{p c:Addr}(hh:bJ H p)(n:H c=none):c≠p:=λz=>by
 obtain⟨xs,e⟩:=hh.isL
 exact bQ n e z.symm
def SmV(H:Hp):Nat->V->V->Prop
 |0,_,_=>False
 |j+1,x,y=>(∃i,x=.int i/\y=.int i)\/(∃b,x=.bl b/\y=.bl b)\/(x=.non/\y=.non)\/(∃s,x=.str s/\y=.str s)\/
  ∃(p q:Addr) (xs ys:List V),x=.ref p/\y=.ref q/\((H p=some (.tup xs)/\H q=some (.tup ys))\/(H p=some (.lst xs)/\H q=some (.lst ys)))/\xs.length=ys.length/\ys.length<=1000000/\∀(i:Nat) u v,xs[i]?=some u->ys[i]?=some v->SmV H j u v
theorem SmV.int{H:Hp}{j:Nat}(i:Int):SmV H (j+1) (.int i) (.int i):=.inl ⟨i,rfl,rfl⟩
theorem SmV.pair{H:Hp}{j:Nat}{p q:Addr}{x y:Int}(h1:H p=some (.tup [.int x,.int y]))(h2:H q=some (.tup [.int x,.int y])):SmV H (j+2) (.ref p) (.ref q):=by
 refine .inr (.inr (.inr (.inr ⟨p,q,_,_,rfl,rfl,.inl ⟨h1,h2⟩,rfl,by simp,λi u v hu hv=>?_⟩)))
 rw[hu] at hv
 cases hv
 match i,hu with
 |0,hu=>cases hu;exact SmV.int x
 |1,hu=>cases hu;exact SmV.int y
 |_+2,hu=>simp at hu
def aPg:List (Int×Int)->Int
 |[]=>0
 |t::ps=>t.1+aPg ps
def gn(p:Int):List (Int×Int)->Int
 |[]=>0
 |t::ps=>t.1*max (p - t.2) 0+gn p ps
def Up:List (Int×Int)->Prop
 |[]=>True
 |t::ps=>1<=t.1/\(∀u∈ps,t.2<=u.2)/\Up ps
theorem aJ0{p:Int}:∀(a:List (Int×Int)) (t:Int×Int),gn p (a ++ [t])=gn p a+t.1*max (p - t.2) 0
 |[],t=>by show t.1*max (p - t.2) 0+0=0+t.1*max (p - t.2) 0;omega
 |u::a,t=>by
  show u.1*max (p - u.2) 0+gn p (a ++ [t])=u.1*max (p - u.2) 0+gn p a+t.1*max (p - t.2) 0
  rw[aJ0 a t];omega
theorem aJ1{p:Int}:∀(ps:List (Int×Int)),List.sum (ps.filterMap λt=>some (max 0 (p - t.2)*t.1))=gn p ps
 |[]=>rfl
 |t::ps=>by
  rw[Sp9]
  show List.sum (max 0 (p - t.2)*t.1::_)=t.1*max (p - t.2) 0+gn p ps
  rw[List.sum_cons,aJ1 ps,Int.mul_comm,show max 0 (p - t.2)=max (p - t.2) 0 by omega]
theorem aJ2{K:W.Frag}{H:Hp}{pl:Addr}{qs:List Addr}{ps:List (Int×Int)}{σ₀:St}{g:TG}{tt:TT}{te:TE}{R:List V->Hp->Prop}(f:Int×Int->Option Int)(h1:H pl=some (.lst (qs.map V.ref)))(h2:uM H qs ps)(hz:ps.length<=4)
  (hs:∀q t (N:V->Hp->Prop) (N':Hp->Prop),t∈ps->H q=some (.tup [.int t.1,.int t.2])->(∀y,f t=some y->N (.int y) H)->(f t=none->N' H)->g (.ref q) σ₀ H λσ2 H2=>tt σ2 H2 λb H3=>if b=true then te σ2 H3 λy H4=>N y H4 else N' H3)
  (hd:R ((ps.filterMap f).map V.int) H):lS (Itl K pl) σ₀ g tt te R H:=by
 have hql:qs.length<=4:=by rw[h2.len];exact hz
 refine dP (xs:=qs.map V.ref) (λi ys H'=>H'=H/\ys=((ps.take i).filterMap f).map V.int) ⟨rfl,by simp⟩ (cO (by rw[cD];omega)) (λi ys H' hi z13q=>?_) (λi x ys H' hx z14q=>?_) (λys H' z15q=>?_)
 ·obtain⟨e1,e2⟩:=z13q
  subst e1 e2
  refine⟨bU.of h1,?_⟩
  rw[cD]
  exact zK (List.length_filterMap_le ..) (by rw[uV];omega)
 ·obtain⟨e1,e2⟩:=z14q
  subst e1 e2
  rw[qB] at hx
  cases hq:qs[i]? with
  |none=>rw[hq] at hx;cases hx
  |some q=>
   rw[hq] at hx
   cases hx
   have li:i < ps.length:=by rw[<-h2.len];exact(lG.mp hq).1
   have ht:ps[i]?=some ps[i]:=dF li
   have e:=h2.at_ i q _ hq ht
   have hm:=Rk9 li
   generalize ps[i]=t at ht e hm
   refine hs q t (λy H4=>H4=H'/\((ps.take i).filterMap f).map V.int ++ [y]=((ps.take (i+1)).filterMap f).map V.int) (λH3=>H3=H'/\((ps.take i).filterMap f).map V.int=((ps.take (i+1)).filterMap f).map V.int) hm e (λy hy=>⟨rfl,?_⟩) (λhy=>⟨rfl,?_⟩)
   ·rw[Sg9,ht,Uf9,iI]
    simp[hy]
   ·rw[Sg9,ht,Uf9,iI]
    simp[hy]
 ·obtain⟨e1,e2⟩:=z15q
  subst e1 e2
  rw[cD,h2.len,Rb9]
  exact hd
def aAt(K:W.Frag)(C:Addr):Sp:=λvs H Q _=>∃(x:Addr) (m:MS) (pr:Int),vs=[.ref x,.int pr]/\dW C H x m/\m.Good/\0<=pr/\pr<=1000000000001/\Q (.int (pr*m.least+gn pr m.pieces)) H
theorem aAu{P:Program}{w:World}{K:PySem.W.Frag}{mg:Str->Option Value}{base:Heap}{a:qA}(tx:Txt K mg a):cR P w K mg base lQ 1 a.jJ a.jK ["self","price"] (aAt K a.bS):=by
 refine tx.tR.ok fO (λvs H Q E h=>?_) (λcdv A outer s H vs Q E hr h=>?_)
 ·obtain⟨x,m,pr,rfl,_⟩:=h
  rfl
 ·obtain⟨x,m,pr,rfl ,hm,hg,p0,p1,k⟩:=h
  have hu:=qJ hr
  refine bV (aH (aP (i:=2) fO.nd (aM cJ (Z.pv 1) (iN (K':=K) (Z.pv 0) rfl)))
   (aH (cC PassesOwn.never rfl (bR (K':=K) (iN (K':=K) (Z.pv 0) rfl)) (cT (K':=K) (n:=2) rfl (bF (aQ (i:=3) fO.nd) (bF (aQ (i:=4) fO.nd) cS))) (aJ (y4 (i:=2) fO.nd rfl (Or.inl rfl) (aM cJ (Z.pv 3) (aO (jZ rfl) (by rfl) tx.sE wG (aB (aM eZ (Z.pv 1) (Z.pv 4)) (aB aF aG)))) aC7)))
   (aJ (aR (Z.pv 2))))) ?_
  obtain⟨dx,pl,hx,hp⟩:=hm.ex
  obtain⟨qs,h1,h2⟩:=hp.ex
  refine bK (σ:=[some (.ref x),some (.int pr),none,none,none]) rfl ?_
  walk_at "w"
  refine wJ hx tx.cX tx.lU rfl ?_
  walk_at "w"
  refine wJ hx tx.cX tx.kJ rfl ?_
  refine iE (bU.of h1) ?_
  refine qM (xs:=qs.map V.ref) (λi σ' H'=>H'=H/\∃y z,σ'=[some (.ref x),some (.int pr),some (.int (pr*m.least+gn pr (m.pieces.take i))),y,z]) ⟨rfl,_,_,by rw[show gn pr (m.pieces.take 0)=0 by simp[gn],Int.add_zero]⟩ (λi σ' H' hi ⟨e1,y,z,e⟩=>by subst e1;exact bU.of h1) (λi v σ' H' hv z16q=>?_) (λσ' H' z17q=>?_)
  ·obtain⟨e1,y,z,e⟩:=z16q
   subst e1 e
   rw[qB] at hv
   cases hq:qs[i]? with
   |none=>rw[hq] at hv;cases hv
   |some q=>
    rw[hq] at hv
    cases hv
    have li:i < m.pieces.length:=by rw[<-h2.len];exact(lG.mp hq).1
    have ht:m.pieces[i]?=some m.pieces[i]:=dF li
    have e:=h2.at_ i q _ hq ht
    obtain⟨z1,⟨z2,z3⟩,z4,z5⟩:=hg.pieces.pc _ (Rk9 li)
    generalize m.pieces[i]=t at ht e z1 z2 z3 z4 z5
    refine fB (iY.of e) rfl ?_
    walk_at "w"
    refine aFC rfl ?_
    walk_at "w"
    refine⟨rfl,some (.int t.1),some (.int t.2),?_⟩
    rw[Sg9,ht]
    show _=[some (V.ref x),some (V.int pr),some (V.int (pr*m.least+gn pr (m.pieces.take i ++ [t]))),_,_]
    rw[aJ0,Int.add_assoc]
    rfl
  ·obtain⟨e1,y,z,e⟩:=z17q
   subst e1 e
   walk_at "w"
   rw[cD,h2.len,Rb9]
   exact k
def aDN(K:W.Frag):Sp:=λvs H Q _=>∃(s:Addr) (m:MS) (pr:Int),vs=[.ref s,.int pr]/\d8 H s m/\m.Good/\0<=pr/\pr<=1000000000001/\∀H',aU H H'->Q (.int (pr*m.least+gn pr m.pieces)) H'
theorem aDO{P:Program}{w:World}{K:PySem.W.Frag}{mg:Str->Option Value}{base:Heap}{a:qA}(tx:Txt K mg a):cR P w K mg base lQ 1 a.oP a.oQ ["_law_spec_here","_law_price_here"] (aDN K):=by
 refine tx.tU.ok aDC (λvs H Q E h=>?_) (λcdv A outer s H vs Q E hr h=>?_)
 ·obtain⟨s,m,pr,rfl,_⟩:=h
  rfl
 ·obtain⟨s,m,pr,rfl ,hs,hg,p0,p1,k⟩:=h
  have hu:=qJ hr
  refine bV (aJ (aR (aM bY (aM cJ (Z.pv 1) (aN (K':=K) (Z.pv 0) aF)) (aO (rc:=aNz K) (aHs rfl) (by rfl) tx.aCU aM4 (aB (cM (k:=2) (idx:=[1]) (N:=["_law_amount","_law_rate","_law_price_here"]) (dZ (sc:=aL gH) (NX:=["_law_spec_here","_law_price_here"]) rfl rfl rfl (by decide +kernel)) rfl (bR (K':=K) (aN (K':=K) (Z.pv 0) aF)) (λ_ _ _ _=>(cT (K':=K) (n:=2) rfl (bF (aQ (i:=0) (show(["_law_amount","_law_rate","_law_price_here"]:List Str).Nodup by decide +kernel)) (bF (aQ (i:=1) (show(["_law_amount","_law_rate","_law_price_here"]:List Str).Nodup by decide +kernel)) cS)))) (qI (cW (by decide) (cW (by decide) nJ))) (λ_ _ _ _=>cK) (λ_ _ _ _=>(aM cJ (aO (jZ rfl) (by rfl) tx.sE wG (aB aF (aB (aM eZ (Z.pv 2) (Z.pv 1)) aG))) (Z.pv 0)))) aG))))) ?_
  obtain⟨pl,hx,hp⟩:=hs.ex
  obtain⟨qs,h1,h2⟩:=hp.ex
  refine bK (σ:=[some (.ref s),some (.int pr)]) rfl ?_
  walk_at "w"
  refine iE (bU.of h1) ?_
  refine aJ2 (λt=>some (max 0 (pr - t.2)*t.1)) h1 h2 hg.pieces.len (λq t N N' hm hq hN hN'=>?_) ?_
  ·obtain⟨z1,⟨z2,z3⟩,z4,z5⟩:=hg.pieces.pc _ hm
   refine fB (iY.of hq) rfl ?_
   walk_at "w"
   exact hN _ rfl
  intro l1 n1
  walk_at "w"
  refine aNA (bU.of aT) ?_
  rw[aJ1]
  walk_at "w"
  exact k _ (aU.new n1)
def aHR(K:W.Frag):Sp:=λvs H Q _=>∃(v:V) (t:Addr) (o d on:Int),vs=[v,.ref t,.int on]/\H t=some (.tup [.int o,.int d])/\Q (.bl (decide (o=on) || decide (d=0))) H
theorem zE{P:Program}{w:World}{K:PySem.W.Frag}{mg:Str->Option Value}{base:Heap}{a:qA}(tx:Txt K mg a):cR P w K mg base lQ 1 a.xO a.xP ["machine","state","on"] (aHR K):=by
 refine tx.tV.ok aHP (λvs H Q E h=>?_) (λcdv A outer s H vs Q E hr h=>?_)
 ·obtain⟨v,t,o,d,on,rfl,_⟩:=h
  rfl
 ·obtain⟨v,t,o,d,on,rfl ,ht,k⟩:=h
  have hu:=qJ hr
  refine bV (aJ (aR (aI8 (fY (r:=jY K) (dR hu) (aN (K':=K) (Z.pv 1) aF) (Z.pv 2) (bP _)) (nC (fY (r:=jY K) (dR hu) (aN (K':=K) (Z.pv 1) aF) aF (bP _)))))) ?_
  refine bK (σ:=[some v,some (.ref t),some (.int on)]) rfl ?_
  walk_at "w"
  refine cI (λh=>?_) (λh=>?_)
  ·rw[decide_eq_true h,Bool.true_or] at k
   exact k
  ·rw[decide_eq_false h,Bool.false_or] at k
   walk_at "w"
   exact k
def o7(m:MS)(o d on:Int):Int×Int:=if o=on then (on,max (d - 1) 0) else if on=1 then (1,m.up - 1) else (0,m.down - 1)
def aBv(K:W.Frag)(C:Addr):Sp:=λvs H Q _=>∃(q:Addr) (m:MS) (t:Addr) (o d on:Int),vs=[.ref q,.ref t,.int on]/\dW C H q m/\H t=some (.tup [.int o,.int d])/\(o=on\/d=0)/\
 ∀T H',aU H H'->H T=none->H' T=some (.tup [.int (o7 m o d on).1,.int (o7 m o d on).2])->Q (.ref T) H'
theorem uN{P:Program}{w:World}{K:PySem.W.Frag}{mg:Str->Option Value}{base:Heap}{a:qA}(tx:Txt K mg a):cR P w K mg base lQ 2 a.kP a.kQ ["machine","state","on"] (aBv K a.bS):=by
 have uO:=zE (P:=P) (w:=w) (base:=base) tx
 refine tx.lE.ok aBk (λvs H Q E h=>?_) (λcdv A outer s H vs Q E hr h=>?_)
 ·obtain⟨q,m,t,o,d,on,rfl,_⟩:=h
  rfl
 ·obtain⟨q,m,t,o,d,on,rfl ,hm,ht,hmay,k⟩:=h
  have hu:=qJ hr
  refine bV (aH (bH (fP (d9 (zq1 uO hr tx.xT tx.tV.kp tx.xS (aB (Z.pv 0) (aB (Z.pv 1) (aB (Z.pv 2) aG)))))) (aJ tD) aY)
   (aH (bH (aZ (r:=jY K) (dR hu) (aN (K':=K) (Z.pv 1) aF) (Z.pv 2) (bP _)) (aJ (aR (cQ (Z.pv 2) (aO (jZ rfl) (by rfl) tx.sE wG (aB (aM eZ (aN (K':=K) (Z.pv 1) aF) aF) (aB aF aG)))))) aY)
   (aH (bH (aZ (r:=jY K) (dR hu) (Z.pv 2) aF (bP _)) (aJ (aR (cQ aF (aM eZ (iN (K':=K) (Z.pv 0) rfl) aF)))) aY)
   (aJ (aR (cQ aF (aM eZ (iN (K':=K) (Z.pv 0) rfl) aF))))))) ?_
  obtain⟨dx,pl,hq,_⟩:=hm.ex
  refine bK (σ:=[some (.ref q),some (.ref t),some (.int on)]) rfl ?_
  walk_at "w"
  refine⟨_,_,_,_,_,rfl,ht,?_⟩
  walk_at "w"
  rw[show(decide (o=on) || decide (d=0))=true by rcases hmay with h|h <;> simp[h]]
  walk_at "w"
  unfold o7 at k
  refine cI (λh=>?_) (λh=>?_)
  ·rw[if_pos h] at k
   walk_at "w"
   intro T nT
   walk_at "w"
   exact k _ _ (aU.new nT) nT aT
  ·rw[if_neg h] at k
   walk_at "w"
   refine cI (λh1=>?_) (λh1=>?_)
   ·rw[if_pos h1] at k
    walk_at "w"
    refine wJ hq tx.cX tx.rT rfl ?_
    walk_at "w"
    intro T nT
    walk_at "w"
    exact k _ _ (aU.new nT) nT aT
   ·rw[if_neg h1] at k
    walk_at "w"
    refine wJ hq tx.cX tx.nV rfl ?_
    walk_at "w"
    intro T nT
    walk_at "w"
    exact k _ _ (aU.new nT) nT aT
def Bit(o:Int):Prop:=o=0\/o=1
theorem aGa{m:MS}(hg:m.Good){o d on:Int}(ho:Bit on):Bit (o7 m o d on).1/\0<=(o7 m o d on).2:=by
 obtain⟨u0,u1⟩:=hg.up
 obtain⟨d0,d1⟩:=hg.down
 unfold o7
 split
 ·exact⟨ho,by show 0<=max (d - 1) 0;omega⟩
 ·split
  ·exact⟨.inr rfl,by show 0<=m.up - 1;omega⟩
  ·exact⟨.inl rfl,by show 0<=m.down - 1;omega⟩
theorem aGS{n j:Nat}(h:j < n):ixN n (j:Int)=some j:=by
 unfold ixN
 simp
 omega
structure RL{α:Type}(P:Addr->α->Prop)(as:List Addr)(xs:List α):Prop where
 len:as.length=xs.length
 at_:∀(j:Nat) a x,as[j]?=some a->xs[j]?=some x->P a x
theorem RL.nil{α:Type}{P:Addr->α->Prop}:RL P [] []:=⟨rfl,λj a x h=>by simp at h⟩
theorem RL.imp{α:Type}{P P':Addr->α->Prop}{as:List Addr}{xs:List α}(h:RL P as xs)(f:∀a x,P a x->P' a x):RL P' as xs:=⟨h.len,λj a x h1 h2=>f a x (h.at_ j a x h1 h2)⟩
theorem RL.snoc{α:Type}{P:Addr->α->Prop}{as:List Addr}{xs:List α}(h:RL P as xs){a:Addr}{x:α}(hp:P a x):RL P (as ++ [a]) (xs ++ [x]):=by
 refine⟨by rw[sO,sO,h.len];rfl,λj q u hq hu=>?_⟩
 by_cases hj:j < as.length
 ·rw[Qq9 hj] at hq
  rw[Qq9 (by rw[<-h.len];exact hj)] at hu
  exact h.at_ j q u hq hu
 ·have hj2:j < (as ++ [a]).length:=(lG.mp hq).1
  rw[sO,Se9] at hj2
  have e:j=as.length:=by omega
  subst e
  rw[Qz9 (dQ _),Tl9] at hq
  rw[h.len,Qz9 (dQ _),Tl9] at hu
  cases hq
  cases hu
  exact hp
def aBw(o:HO):Prop:=(∃(d c:Int) (q:Addr),o=.lst [.int d,.int c,.ref q])\/∃(C dx:Addr),o=.ins C dx []
def Tr(H H':Hp):Prop:=∀b o,H b=some o->¬aBw o->H' b=some o
theorem Tr.trans{H H1 H2:Hp}(a:Tr H H1)(b:Tr H1 H2):Tr H H2:=λc o e n=>b c o (a c o e n) n
theorem _root_.L2.aU.tr{H H':Hp}(s:aU H H'):Tr H H':=λb o e _=>s b o e
theorem bJ.tr{H H':Hp}{p:Addr}(hh:bJ H p)(k:cE p H H'):Tr H H':=λb o e n=>k b o e λz=>by
 obtain⟨d,c,q,ms,hp,_⟩:=hh.ex
 rw[z,hp] at e
 cases e
 exact n (.inl ⟨d,c,q,rfl⟩)
def Tk(H H':Hp):Prop:=∀b xs,H b=some (.tup xs)->H' b=some (.tup xs)
theorem Tk.trans{H H1 H2:Hp}(a:Tk H H1)(b:Tk H1 H2):Tk H H2:=λc o e=>b c o (a c o e)
theorem aN4{xs:List V}:¬aBw (.tup xs):=λz=>by rcases z with ⟨_,_,_,e⟩|⟨_,_,e⟩ <;> cases e
theorem aGb{C dx:Addr}{fs:List (Str×V)}(h:fs≠[]):¬aBw (.ins C dx fs):=λz=>by
 rcases z with ⟨_,_,_,e⟩|⟨_,_,e⟩
 ·cases e
 ·cases e;exact h rfl
theorem aDP{xs:List V}(h:xs.length≠3):¬aBw (.lst xs):=λz=>by
 rcases z with ⟨_,_,_,e⟩|⟨_,_,e⟩
 ·cases e;exact h rfl
 ·cases e
theorem yD{qs:List Addr}:¬aBw (.lst (qs.map V.ref)):=λz=>by
 rcases z with ⟨_,_,_,e⟩|⟨_,_,e⟩
 ·cases qs with
  |nil=>cases e
  |cons x xs=>cases e
 ·cases e
theorem Tr.tk{H H':Hp}(s:Tr H H'):Tk H H':=λb xs e=>s b _ e aN4
theorem _root_.L2.aU.tk{H H':Hp}(s:aU H H'):Tk H H':=λb xs e=>s b _ e
theorem uM.tr{H H':Hp}{qs:List Addr}{ps:List (Int×Int)}(h:uM H qs ps)(s:Tk H H'):uM H' qs ps:=⟨h.len,λj q t h1 h2=>s _ _ (h.at_ j q t h1 h2)⟩
theorem zC.tr{H H':Hp}{p:Addr}{ps:List (Int×Int)}(h:zC H p ps)(s:Tr H H'):zC H' p ps:=by
 obtain⟨qs,h1,h2⟩:=h.ex
 exact⟨qs,s _ _ h1 yD,h2.tr s.tk⟩
theorem d8.tr{H H':Hp}{p:Addr}{m:MS}(h:d8 H p m)(s:Tr H H'):d8 H' p m:=by
 obtain⟨pl,h1,h2⟩:=h.ex
 exact⟨pl,s _ _ h1 (aDP (by simp)),h2.tr s⟩
theorem dW.tr{C:Addr}{H H':Hp}{p:Addr}{m:MS}(h:dW C H p m)(s:Tr H H'):dW C H' p m:=by
 obtain⟨dx,pl,h1,h2⟩:=h.ex
 exact⟨dx,pl,s _ _ h1 (aGb (by simp[mFs])),h2.tr s⟩
structure SS where
 cap:Int
 into:Int
 out:Int
 takes:Int
 gives:Int
structure SS.Good(s:SS):Prop where
 cap:0<=s.cap/\s.cap<=8
 into:0<=s.into/\s.into<=8
 out:0<=s.out/\s.out<=8
 takes:Am s.takes
 gives:Am s.gives
def Lv(s:SS)(l n:Int):Prop:=0<=n/\n<=s.cap/\l - s.out<=n/\n<=l+s.into
instance (s:SS) (l n:Int):Decidable (Lv s l n):=by unfold Lv;infer_instance
def dr(s:SS)(l n:Int):Int:=(if l < n then s.takes else s.gives)*(n - l)
def pw(s:SS):Int->List Int->List Int->Int
 |l,p::ps,n::ns=>p*dr s l n+pw s n ps ns
 |_,_,_=>0
def sFs(s:SS):List (Str×V):=[("cap",.int s.cap),("into",.int s.into),("out",.int s.out),("takes",.int s.takes),("gives",.int s.gives)]
structure aDQ(H:Hp)(a:Addr)(s:SS):Prop where
 at_:H a=some (.lst [.int s.cap,.int s.into,.int s.out,.int s.takes,.int s.gives])
structure aAJ(C:Addr)(H:Hp)(x:Addr)(s:SS):Prop where
 ex:∃dx,H x=some (.ins C dx (sFs s))
theorem aDQ.tr{H H':Hp}{a:Addr}{s:SS}(h:aDQ H a s)(e:Tr H H'):aDQ H' a s:=⟨e _ _ h.at_ (aDP (by simp))⟩
theorem aAJ.tr{C:Addr}{H H':Hp}{a:Addr}{s:SS}(h:aAJ C H a s)(e:Tr H H'):aAJ C H' a s:=by
 obtain⟨dx,q⟩:=h.ex
 exact⟨dx,e _ _ q (aGb (by simp[sFs]))⟩
def StA(H:Hp)(q:Addr)(t:Int×Int):Prop:=H q=some (.tup [.int t.1,.int t.2])
structure aGT(H:Hp)(t:Addr)(ss:List (Int×Int)):Prop where
 ex:∃qs,H t=some (.tup (qs.map V.ref))/\RL (StA H) qs ss
abbrev Ps:=List (Int×Int)×Int
structure aBx(H:Hp)(a:Addr)(P:Ps):Prop where
 ex:∃t,H a=some (.tup [.ref t,.int P.2])/\aGT H t P.1
structure Hr where
 ons:List Int
 outs:List Int
 lev:Int
structure aLK(H:Hp)(a:Addr)(h:Hr):Prop where
 ex:∃t u,H a=some (.tup [.ref t,.ref u,.int h.lev])/\H t=some (.tup (h.ons.map V.int))/\H u=some (.tup (h.outs.map V.int))
structure aGc(H:Hp)(a:Addr)(hs:List Hr):Prop where
 ex:∃qs,H a=some (.lst (qs.map V.ref))/\RL (aLK H) qs hs
structure aGd(H:Hp)(a:Addr)(hs:List Ps):Prop where
 ex:∃qs,H a=some (.lst (qs.map V.ref))/\RL (aBx H) qs hs
theorem aGT.tk{H H':Hp}{t:Addr}{ss:List (Int×Int)}(h:aGT H t ss)(s:Tk H H'):aGT H' t ss:=by
 obtain⟨qs,h1,h2⟩:=h.ex
 exact⟨qs,s _ _ h1,h2.imp λa x z=>s _ _ z⟩
theorem aBx.tk{H H':Hp}{a:Addr}{P:Ps}(h:aBx H a P)(s:Tk H H'):aBx H' a P:=by
 obtain⟨t,h1,h2⟩:=h.ex
 exact⟨t,s _ _ h1,h2.tk s⟩
theorem aLK.tk{H H':Hp}{a:Addr}{h:Hr}(x:aLK H a h)(s:Tk H H'):aLK H' a h:=by
 obtain⟨t,u,h1,h2,h3⟩:=x.ex
 exact⟨t,u,s _ _ h1,s _ _ h2,s _ _ h3⟩
theorem aGc.tr{H H':Hp}{a:Addr}{hs:List Hr}(x:aGc H a hs)(s:Tr H H'):aGc H' a hs:=by
 obtain⟨qs,h1,h2⟩:=x.ex
 exact⟨qs,s _ _ h1 yD,h2.imp λa x z=>z.tk s.tk⟩
theorem aGd.tr{H H':Hp}{a:Addr}{hs:List Ps}(x:aGd H a hs)(s:Tr H H'):aGd H' a hs:=by
 obtain⟨qs,h1,h2⟩:=x.ex
 exact⟨qs,s _ _ h1 yD,h2.imp λa x z=>z.tk s.tk⟩
structure WS where
 specs:List MS
 store:Option SS
 lack:Int
 x:Int
 y:Int
 wide:Int
structure WS.Good(W:WS):Prop where
 specs:∀m∈W.specs,m.Good
 len:W.specs.length<=6
 store:∀s,W.store=some s->s.Good
 lack:Am W.lack
 x:1<=W.x/\W.x<=50000000000
 y:1<=W.y/\W.y<=50000000000
 wide:W.wide=0\/W.wide=1
structure aAK(H:Hp)(l:Addr)(ms:List MS):Prop where
 ex:∃qs,H l=some (.lst (qs.map V.ref))/\RL (d8 H) qs ms
structure aAL(C:Addr)(H:Hp)(l:Addr)(ms:List MS):Prop where
 ex:∃qs,H l=some (.lst (qs.map V.ref))/\RL (dW C H) qs ms
def aLL(H:Hp)(v:V):Option SS->Prop
 |none=>v=.non
 |some s=>∃a,v=.ref a/\aDQ H a s
def aLM(C:Addr)(H:Hp)(v:V):Option SS->Prop
 |none=>v=.non
 |some s=>∃a,v=.ref a/\aAJ C H a s
theorem aAK.tr{H H':Hp}{l:Addr}{ms:List MS}(h:aAK H l ms)(s:Tr H H'):aAK H' l ms:=by
 obtain⟨qs,h1,h2⟩:=h.ex
 exact⟨qs,s _ _ h1 yD,h2.imp λa x z=>z.tr s⟩
theorem aAL.tr{C:Addr}{H H':Hp}{l:Addr}{ms:List MS}(h:aAL C H l ms)(s:Tr H H'):aAL C H' l ms:=by
 obtain⟨qs,h1,h2⟩:=h.ex
 exact⟨qs,s _ _ h1 yD,h2.imp λa x z=>z.tr s⟩
theorem aLL.tr{H H':Hp}{v:V}:∀{o:Option SS},aLL H v o->Tr H H'->aLL H' v o
 |none,h,_=>h
 |some s,⟨a,e,h⟩,t=>⟨a,e,h.tr t⟩
theorem aLM.tr{C:Addr}{H H':Hp}{v:V}:∀{o:Option SS},aLM C H v o->Tr H H'->aLM C H' v o
 |none,h,_=>h
 |some s,⟨a,e,h⟩,t=>⟨a,e,h.tr t⟩
structure aDR(H:Hp)(a:Addr)(W:WS):Prop where
 ex:∃ls st b,H a=some (.lst [.ref ls,st,.int W.lack,.ref b,.int W.wide])/\aAK H ls W.specs/\aLL H st W.store/\H b=some (.lst [.int W.x,.int W.y])
theorem aDR.tr{H H':Hp}{a:Addr}{W:WS}(h:aDR H a W)(s:Tr H H'):aDR H' a W:=by
 obtain⟨ls,st,b,h1,h2,h3,h4⟩:=h.ex
 exact⟨ls,st,b,s _ _ h1 (aDP (by simp)),h2.tr s,h3.tr s,s _ _ h4 (aDP (by simp))⟩
def wFs(lm:Addr)(st:V)(k:Int):List (Str×V):=[("machines",.ref lm),("store",st),("lack",.int k)]
structure aDS(CW CM CS:Addr)(H:Hp)(w:Addr)(W:WS):Prop where
 ex:∃dx lm st,H w=some (.ins CW dx (wFs lm st W.lack))/\aAL CM H lm W.specs/\aLM CS H st W.store
theorem aDS.tr{CW CM CS:Addr}{H H':Hp}{w:Addr}{W:WS}(h:aDS CW CM CS H w W)(s:Tr H H'):aDS CW CM CS H' w W:=by
 obtain⟨dx,lm,st,h1,h2,h3⟩:=h.ex
 exact⟨dx,lm,st,s _ _ h1 (aGb (by simp[wFs])),h2.tr s,h3.tr s⟩
def VS(s:Int×Int):Prop:=Bit s.1/\0<=s.2
def aE4:List MS->List (Int×Int)->List Int->List (Int×Int)
 |m::ms,s::ss,o::os=>o7 m s.1 s.2 o::aE4 ms ss os
 |_,_,_=>[]
theorem aBy:∀{ms:List MS}{ss:List (Int×Int)}{os:List Int},ss.length=ms.length->os.length=ms.length->(aE4 ms ss os).length=ms.length
 |[],_,_,_,_=>by simp[aE4]
 |m::ms,s::ss,o::os,h1,h2=>by
  show(o7 m s.1 s.2 o::aE4 ms ss os).length=_
  rw[yM,aBy (by simpa using h1) (by simpa using h2),yM]
 |_::_,[],_,h,_=>by cases h
 |_::_,_::_,[],_,h=>by cases h
theorem aE5:∀{ms:List MS}{ss:List (Int×Int)}{os:List Int}{j:Nat}{m:MS}{s:Int×Int}{o:Int},ms[j]?=some m->ss[j]?=some s->os[j]?=some o->(aE4 ms ss os)[j]?=some (o7 m s.1 s.2 o)
 |m::ms,s::ss,o::os,0,_,_,_,h1,h2,h3=>by cases h1;cases h2;cases h3;rfl
 |m::ms,s::ss,o::os,j+1,_,_,_,h1,h2,h3=>by
  show(aE4 ms ss os)[j]?=_
  exact aE5 h1 h2 h3
 |[],_,_,_,_,_,_,h,_,_=>by simp at h
 |_::_,[],_,_,_,_,_,_,h,_=>by simp at h
 |_::_,_::_,[],_,_,_,_,_,_,h=>by simp at h
def May(ss:List (Int×Int))(os:List Int):Prop:=∀(j:Nat) (s:Int×Int) (o:Int),ss[j]?=some s->os[j]?=some o->s.1=o\/s.2=0
def aJ3(W:WS)(l:Int):Prop:=match W.store with|none=>l=0|some s=>0<=l/\l<=s.cap
def LvW(W:WS)(l n:Int):Prop:=match W.store with|none=>n=0|some s=>Lv s l n
structure aGU(W:WS)(P:Ps):Prop where
 len:P.1.length=W.specs.length
 vs:∀s∈P.1,VS s
 lev:aJ3 W P.2
def aPh(m:MS)(on out:Int):Prop:=(on=0->out=0)/\(on≠0->m.least<=out/\out<=m.least+aPg m.pieces)
structure aDT(W:WS)(P:Ps)(h:Hr):Prop where
 ons:h.ons.length=W.specs.length
 outs:h.outs.length=W.specs.length
 bits:∀o∈h.ons,Bit o
 may:May P.1 h.ons
 out:∀(j:Nat) m on out,W.specs[j]?=some m->h.ons[j]?=some on->h.outs[j]?=some out->aPh m on out
 lev:LvW W P.2 h.lev
def nxt(W:WS)(P:Ps)(h:Hr):Ps:=(aE4 W.specs P.1 h.ons,h.lev)
theorem LvW.ok{W:WS}{l n:Int}(h:LvW W l n):aJ3 W n:=by
 unfold LvW at h
 unfold aJ3
 cases e:W.store with
 |none=>rw[e] at h;exact h
 |some s=>rw[e] at h;exact⟨h.1,h.2.1⟩
theorem aDT.nxt{W:WS}{P:Ps}{h:Hr}(g:W.Good)(p:aGU W P)(x:aDT W P h):aGU W (nxt W P h):=by
 refine⟨aBy p.len x.ons,λs hs=>?_,x.lev.ok⟩
 obtain⟨j,hj⟩:=Rm9 hs
 have hl:=aBy p.len x.ons
 have hj':j < W.specs.length:=by rw[<-hl];exact(lG.mp hj).1
 have g1:W.specs[j]?=some W.specs[j]:=dF hj'
 have g2:P.1[j]?=some (P.1[j]'(by rw[p.len];exact hj')):=dF _
 have g3:h.ons[j]?=some (h.ons[j]'(by rw[x.ons];exact hj')):=dF _
 replace hj:(aE4 W.specs P.1 h.ons)[j]?=some s:=hj
 rw[aE5 g1 g2 g3] at hj
 cases hj
 exact aGa (g.specs _ (Rk9 hj')) (x.bits _ (iW g3))
def uP(W:WS):Ps->List Hr->Prop
 |_,[]=>True
 |P,h::hs=>aDT W P h/\uP W (nxt W P h) hs
def aN5(W:WS):Ps->List Hr->Ps
 |P,[]=>P
 |P,h::hs=>aN5 W (nxt W P h) hs
theorem uP.pos{W:WS}(g:W.Good):∀{P:Ps}{hs:List Hr},aGU W P->uP W P hs->aGU W (aN5 W P hs)
 |_,[],p,_=>p
 |P,h::hs,p,x=>uP.pos (P:=nxt W P h) (hs:=hs) g (x.1.nxt g p) x.2
theorem uP.take{W:WS}:∀{P:Ps}{hs:List Hr}{i:Nat}{h:Hr},uP W P hs->hs[i]?=some h->uP W P (hs.take i)/\aDT W (aN5 W P (hs.take i)) h
 |P,g::hs,0,h,x,e=>by cases e;exact⟨trivial,x.1⟩
 |P,g::hs,i+1,h,x,e=>by
  have:=uP.take (i:=i) (h:=h) x.2 e
  exact⟨⟨x.1,this.1⟩,this.2⟩
 |_,[],_,_,_,e=>by simp at e
theorem aDU{ns:List Int}{i:Nat}{x:V}(h:(ns.map V.int)[i]?=some x):∃n,ns[i]?=some n/\x=.int n:=by
 rw[qB] at h
 cases hq:ns[i]? with
 |none=>rw[hq] at h;cases h
 |some n=>rw[hq] at h;cases h;exact⟨n,rfl,rfl⟩
theorem wW{H H1 H2:Hp}{p:Addr}(np:H p=none)(s:aU H H1)(k:cE p H1 H2):aU H H2:=λb o e=>k _ _ (s _ _ e) (bQ np e)
theorem RL.take{α:Type}{P:Addr->α->Prop}{as:List Addr}{xs:List α}(h:RL P as xs)(i:Nat):RL P (as.take i) (xs.take i):=by
 refine⟨by rw[uV,uV,h.len],λj a x h1 h2=>?_⟩
 rw[List.getElem?_take] at h1 h2
 split at h1
 ·rename_i hj
  rw[if_pos hj] at h2
  exact h.at_ j a x h1 h2
 ·cases h1
theorem StA.sm{H:Hp}{j:Nat}{p q:Addr}{t:Int×Int}(h1:StA H p t)(h2:StA H q t):SmV H (j+2) (.ref p) (.ref q):=SmV.pair h1 h2
theorem RL.smT{H:Hp}{α:Type}{P:Addr->α->Prop}{j:Nat}{p q:Addr}{as bs:List Addr}{xs:List α}(h1:H p=some (.tup (as.map V.ref)))(h2:H q=some (.tup (bs.map V.ref)))(r1:RL P as xs)(r2:RL P bs xs)(hl:xs.length<=1000000)(f:∀a b x,P a x->P b x->SmV H j (.ref a) (.ref b)):SmV H (j+1) (.ref p) (.ref q):=by
 refine .inr (.inr (.inr (.inr ⟨p,q,_,_,rfl,rfl,.inl ⟨h1,h2⟩,by rw[cD,cD,r1.len,r2.len],by rw[cD,r2.len];exact hl,λi u v hu hv=>?_⟩)))
 rw[qB] at hu hv
 cases ea:as[i]? with
 |none=>rw[ea] at hu;cases hu
 |some a=>
  cases eb:bs[i]? with
  |none=>rw[eb] at hv;cases hv
  |some b=>
   rw[ea] at hu
   rw[eb] at hv
   cases hu
   cases hv
   have li:i < xs.length:=by rw[<-r1.len];exact(lG.mp ea).1
   exact f a b _ (r1.at_ i a _ ea (dF li)) (r2.at_ i b _ eb (dF li))
theorem aBx.sm{H:Hp}{j:Nat}{p q:Addr}{P:Ps}(h1:aBx H p P)(h2:aBx H q P)(hl:P.1.length<=1000000):SmV H (j+4) (.ref p) (.ref q):=by
 obtain⟨t,a1,s1⟩:=h1.ex
 obtain⟨u,a2,s2⟩:=h2.ex
 obtain⟨qs,b1,r1⟩:=s1.ex
 obtain⟨qs',b2,r2⟩:=s2.ex
 refine .inr (.inr (.inr (.inr ⟨p,q,_,_,rfl,rfl,.inl ⟨a1,a2⟩,rfl,by simp,λi x y hx hy=>?_⟩)))
 match i,hx,hy with
 |0,hx,hy=>cases hx;cases hy;exact RL.smT b1 b2 r1 r2 hl λa b x z1 z2=>StA.sm z1 z2
 |1,hx,hy=>cases hx;cases hy;exact SmV.int _
 |_+2,hx,_=>simp at hx
def aB9(K:W.Frag):Sp:=λvs H Q _=>∃(p s:Addr) (m:MS),vs=[.ref p,.ref s]/\bJ H p/\d8 H s m/\m.Good/\
 ∀(t:Addr) (o d:Int) H',H' t=some (.tup [.int o,.int d])->((o=1/\0<=d/\d < m.up)\/(o=0/\0<=d/\d < 60))->bJ H' p->cE p H H'->Q (.ref t) H'
theorem aCa{P:Program}{w:World}{K:PySem.W.Frag}{mg:Str->Option Value}{base:Heap}{a:qA}(tx:Txt K mg a):cR P w K mg base lQ 2 a.mG a.mH ["_law_hand","_law_spec_here"] (aB9 K):=by
 have aS:=dN (P:=P) (w:=w) (base:=base) tx
 refine tx.mX.ok aB1 (λvs H Q E h=>?_) (λcdv A outer s H vs Q E hr h=>?_)
 ·obtain⟨p,s,m,rfl,_⟩:=h
  rfl
 ·obtain⟨p,s,m,rfl ,hh,hs,hg,k⟩:=h
  have hu:=qJ hr
  refine bV (aH (bH (aZ (r:=jY K) (dR hu) (zq1 aS hr tx.aX tx.aV.kp tx.aW (aB (Z.pv 0) (aB aF aG))) aF (bP _)) (aJ (aR (cQ aF (zq1 aS hr tx.aX tx.aV.kp tx.aW (aB (Z.pv 0) (aB (aN (K':=K) (Z.pv 1) aF) aG)))))) aY)
   (aH (bH (aZ (r:=jY K) (dR hu) (zq1 aS hr tx.aX tx.aV.kp tx.aW (aB (Z.pv 0) (aB aF aG))) aF (bP _)) (aJ (aR (cQ aF (zq1 aS hr tx.aX tx.aV.kp tx.aW (aB (Z.pv 0) (aB aF aG)))))) aY)
   (aJ (aR (cQ aF (zq1 aS hr tx.aX tx.aV.kp tx.aW (aB (Z.pv 0) (aB (aN (K':=K) (Z.pv 1) aF) aG)))))))) ?_
  obtain⟨u0,u1⟩:=hg.up
  obtain⟨d0,d1⟩:=hg.down
  refine bK (σ:=[some (.ref p),some (.ref s)]) rfl ?_
  walk_at "w"
  refine⟨p,_,rfl,hh,by decide,by decide,λr1 H1 a1 b1 h1 k1 _=>?_⟩
  have hs1:=hs.keep hh k1
  obtain⟨pl,e1,_⟩:=hs1.ex
  walk_at "w"
  refine cI (λh=>?_) (λh=>?_)
  ·walk_at "w"
   refine⟨p,_,rfl,h1,by omega,by omega,λr2 H2 a2 b2 h2 k2 _=>?_⟩
   walk_at "w"
   intro T nT
   walk_at "w"
   exact k _ _ _ _ aT (.inl ⟨rfl,a2,b2⟩) (h2.same (aU.new nT)) (k1.trans (k2.trans (aU.new nT).keep))
  ·walk_at "w"
   refine⟨p,_,rfl,h1,by decide,by decide,λr2 H2 a2 b2 h2 k2 _=>?_⟩
   have hs2:=hs1.keep h1 k2
   obtain⟨pl2,e2,_⟩:=hs2.ex
   walk_at "w"
   refine cI (λh=>?_) (λh=>?_)
   ·walk_at "w"
    refine⟨p,_,rfl,h2,by decide,by decide,λr3 H3 a3 b3 h3 k3 _=>?_⟩
    walk_at "w"
    intro T nT
    walk_at "w"
    exact k _ _ _ _ aT (.inr ⟨rfl,a3,b3⟩) (h3.same (aU.new nT)) (k1.trans (k2.trans (k3.trans (aU.new nT).keep)))
   ·walk_at "w"
    refine⟨p,_,rfl,h2,by omega,by omega,λr3 H3 a3 b3 h3 k3 _=>?_⟩
    walk_at "w"
    intro T nT
    walk_at "w"
    exact k _ _ _ _ aT (.inr ⟨rfl,a3,by omega⟩) (h3.same (aU.new nT)) (k1.trans (k2.trans (k3.trans (aU.new nT).keep)))
def flt(m:MS):Int->Int->List Int->Nat->V
 |_,_,[],_=>.non
 |o,d,on::r,i=>if o=on\/d=0 then flt m (o7 m o d on).1 (o7 m o d on).2 r (i+1) else .int i
theorem aGV{ns:List Int}{i:Nat}{n:Int}(h:ns[i]?=some n):ns.drop i=n::ns.drop (i+1):=by
 obtain⟨hi,e⟩:=lG.mp h
 rw[List.drop_eq_getElem_cons hi,e]
def aDV(K:W.Frag)(C:Addr):Sp:=λvs H Q _=>∃(q:Addr) (m:MS) (t:Addr) (o d:Int) (p:Addr) (ns:List Int),vs=[.ref q,.ref t,.ref p]/\dW C H q m/\H t=some (.tup [.int o,.int d])/\H p=some (.lst (ns.map V.int))/\
 ∀H',aU H H'->Q (flt m o d ns 0) H'
theorem aDW{P:Program}{w:World}{K:PySem.W.Frag}{mg:Str->Option Value}{base:Heap}{a:qA}(tx:Txt K mg a):cR P w K mg base lQ 3 a.oR a.oS ["machine","state","run"] (aDV K a.bS):=by
 have uO:=zE (P:=P) (w:=w) (base:=base) tx
 have pN:=uN (P:=P) (w:=w) (base:=base) tx
 refine tx.tW.ok mD (λvs H Q E h=>?_) (λcdv A outer s H vs Q E hr h=>?_)
 ·obtain⟨q,m,t,o,d,p,ns,rfl,_⟩:=h
  rfl
 ·obtain⟨q,m,t,o,d,p,ns,rfl ,hm,ht,hp,k⟩:=h
  have hu:=qJ hr
  refine bV (aH (cC PassesOwn.never rfl (tE (K':=K) (by rfl) tx.eY (aB (Z.pv 2) aG)) (cT (K':=K) (n:=2) rfl (bF (aQ (i:=3) mD.nd) (bF (aQ (i:=4) mD.nd) cS))) (aH (bH (fP (d9 (zq1 uO hr tx.xT tx.tV.kp tx.xS (aB (Z.pv 0) (aB (Z.pv 1) (aB (Z.pv 4) aG)))))) (aJ (aR (Z.pv 3))) aY)
   (aJ (aP (i:=1) mD.nd (zq1 pN hr tx.pE tx.lE.kp tx.pD (aB (Z.pv 0) (aB (Z.pv 1) (aB (Z.pv 4) aG))))))))
   (aJ (aR nB))) ?_
  refine bK (σ:=[some (.ref q),some (.ref t),some (.ref p),none,none]) rfl ?_
  walk_at "w"
  refine aI3 (bU.of hp) ?_
  refine aDh (xs:=ns.map V.int) (λi σ' H'=>∃t' o' d' x3 x4,σ'=[some (.ref q),some (.ref t'),some (.ref p),x3,x4]/\H' t'=some (.tup [.int o',.int d'])/\aU H H'/\flt m o' d' (ns.drop i) i=flt m o d ns 0)
   ⟨t,o,d,_,_,rfl,ht,aU.refl _,rfl⟩ (λi σ' H' hi ⟨t',o',d',x3,x4,e,h1,h2,h3⟩=>bU.of (h2 _ _ hp)) (λi x σ' H' T hx z18q nT=>?_) (λσ' H' z19q=>?_)
  ·obtain⟨t',o',d',x3,x4,e,h1,h2,h3⟩:=z18q
   subst e
   rw[qB] at hx
   obtain⟨n,hn,rfl⟩ : ∃n,ns[i]?=some n/\x=.int n:=by
    cases hq:ns[i]? with
    |none=>rw[hq] at hx;cases hx
    |some n=>rw[hq] at hx;cases hx;exact⟨n,rfl,rfl⟩
   rw[aGV hn] at h3
   have sT:=aU.new (o:=.tup [.int (i:Int),.int n]) nT
   refine fB (iY.of aT) rfl ?_
   walk_at "w"
   refine⟨_,_,_,_,_,rfl,sT _ _ h1,?_⟩
   walk_at "w"
   have h3':(if o'=n\/d'=0 then flt m (o7 m o' d' n).1 (o7 m o' d' n).2 (ns.drop (i+1)) (i+1) else .int i)=flt m o d ns 0:=h3
   by_cases hmay:o'=n\/d'=0
   ·rw[if_pos hmay] at h3'
    rw[show(decide (o'=n) || decide (d'=0))=true by rcases hmay with h|h <;> simp[h]]
    walk_at "w"
    refine⟨q,m,t',o',d',n,rfl,hm.same (h2.trans sT),sT _ _ h1,hmay,λT2 H2 s2 nT2 hT2=>?_⟩
    walk_at "w"
    exact⟨T2,_,_,_,_,rfl,hT2,(h2.trans sT).trans s2,h3'⟩
   ·rw[if_neg hmay] at h3'
    rw[show(decide (o'=n) || decide (d'=0))=false by simp only[not_or] at hmay;simp[hmay.1,hmay.2]]
    walk_at "w"
    rw[<-h3'] at k
    exact k _ (h2.trans sT)
  ·obtain⟨t',o',d',x3,x4,e,h1,h2,h3⟩:=z19q
   subst e
   rw[cD,List.drop_length] at h3
   walk_at "w"
   have h3':V.non=flt m o d ns 0:=h3
   rw[h3']
   exact k _ h2
def bgs:Int->List Int->Nat->List Int
 |_,[],_=>[]
 |o,on::r,i=>(if on=1/\o=0 then [(i:Int)] else [])++bgs on r (i+1)
def aHS(m:MS)(o:Int)(ns:List Int):Int:=m.begin_*((bgs o ns 0).length:Int)+m.run*(ns.count 1:Nat)+m.rest*(ns.count 0:Nat)
def aAv(K:W.Frag)(C:Addr):Sp:=λvs H Q _=>∃(q:Addr) (m:MS) (t:Addr) (o d:Int) (p:Addr) (ns:List Int),vs=[.ref q,.ref t,.ref p]/\dW C H q m/\H t=some (.tup [.int o,.int d])/\H p=some (.lst (ns.map V.int))/\
 flt m o d ns 0=.non/\∀H',aU H H'->Q .non H'
theorem aAw{P:Program}{w:World}{K:PySem.W.Frag}{mg:Str->Option Value}{base:Heap}{a:qA}(tx:Txt K mg a):cR P w K mg base lQ 4 a.jL a.jM ["machine","state","run"] (aAv K a.bS):=by
 have aE6:=aDW (P:=P) (w:=w) (base:=base) tx
 refine tx.nS.ok sD (λvs H Q E h=>?_) (λcdv A outer s H vs Q E hr h=>?_)
 ·obtain⟨q,m,t,o,d,p,ns,rfl,_⟩:=h
  rfl
 ·obtain⟨q,m,t,o,d,p,ns,rfl ,hm,ht,hp,hf,k⟩:=h
  have hu:=qJ hr
  refine bV (aH (aP (i:=3) sD.nd (zq1 aE6 hr tx.aAa tx.tW.kp tx.z0 (aB (Z.pv 0) (aB (Z.pv 1) (aB (Z.pv 2) aG)))))
   (aJ (bH (aZ uY (Z.pv 3) nB (bP _)) (aJ tD) aY))) ?_
  refine bK (σ:=[some (.ref q),some (.ref t),some (.ref p),none]) rfl ?_
  walk_at "w"
  refine⟨q,m,t,o,d,p,ns,rfl,hm,ht,hp,λH1 s1=>?_⟩
  rw[hf]
  walk_at "w"
  exact k _ s1
def aCb(K:W.Frag)(C:Addr):Sp:=λvs H Q _=>∃(q:Addr) (m:MS) (t:Addr) (o d:Int) (p:Addr) (ns:List Int),vs=[.ref q,.ref t,.ref p]/\dW C H q m/\H t=some (.tup [.int o,.int d])/\H p=some (.lst (ns.map V.int))/\ns.length<=48/\
 flt m o d ns 0=.non/\∀c H',aU H H'->H c=none->H' c=some (.lst ((bgs o ns 0).map V.int))->Q (.ref c) H'
theorem aCc{P:Program}{w:World}{K:PySem.W.Frag}{mg:Str->Option Value}{base:Heap}{a:qA}(tx:Txt K mg a):cR P w K mg base lQ 5 a.mI a.mJ ["machine","state","run"] (aCb K a.bS):=by
 have aBz:=aAw (P:=P) (w:=w) (base:=base) tx
 refine tx.rN.ok fV (λvs H Q E h=>?_) (λcdv A outer s H vs Q E hr h=>?_)
 ·obtain⟨q,m,t,o,d,p,ns,rfl,_⟩:=h
  rfl
 ·obtain⟨q,m,t,o,d,p,ns,rfl ,hm,ht,hp,hl,hn,k1⟩:=h
  have hu:=qJ hr
  refine bV (aH (cZ (zq1 aBz hr tx.tY tx.nS.kp tx.tX (aB (Z.pv 0) (aB (Z.pv 1) (aB (Z.pv 2) aG)))))
   (aH (aP (i:=3) fV.nd (gQ aG))
   (aH (aP (i:=4) fV.nd (aN (K':=K) (Z.pv 1) aF))
   (aH (cC PassesOwn.never rfl (tE (K':=K) (by rfl) tx.eY (aB (Z.pv 2) aG)) (cT (K':=K) (n:=2) rfl (bF (aQ (i:=5) fV.nd) (bF (aQ (i:=6) fV.nd) cS))) (aH (bH (nM (uZ (aZ (r:=jY K) (dR hu) (Z.pv 6) aF (bP _)) (qO (aZ (r:=jY K) (dR hu) (Z.pv 4) aF (bP _))))) (aJ (cZ (fE (K':=K) (Z.pv 3) (aB (Z.pv 5) aG)))) aY)
   (aJ (aP (i:=4) fV.nd (Z.pv 6)))))
   (aJ (aR (Z.pv 3))))))) ?_
  refine bK (σ:=[some (.ref q),some (.ref t),some (.ref p),none,none,none,none]) rfl ?_
  walk_at "w"
  refine⟨q,m,t,o,d,p,ns,rfl,hm,ht,hp,hn,λH1 s1=>?_⟩
  walk_at "w"
  intro c nc
  obtain⟨H2,i2,s2,g2⟩:=nw _ nc;rw[i2]
  have ht2:=(s1.trans s2) _ _ ht
  have hp2:=(s1.trans s2) _ _ hp
  have cp:c≠p:=λz=>by rw[z] at nc;exact bQ nc (s1 _ _ hp) rfl
  walk_at "w"
  refine aI3 (bU.of hp2) ?_
  refine aDh (xs:=ns.map V.int) (λi σ' H'=>∃(a':Int) (bs:List Int) (x5 x6:Option V),σ'=[some (.ref q),some (.ref t),some (.ref p),some (.ref c),some (.int a'),x5,x6]/\H' c=some (.lst (bs.map V.int))/\bs.length<=i/\bs++bgs a' (ns.drop i) i=bgs o ns 0/\aU H1 H')
   ⟨o,[],_,_,rfl,g2,dQ _,rfl,s2⟩ (λi σ' H' hi ⟨a',bs,x5,x6,e,g,lb,eb,s'⟩=>bU.of (s' _ _ (s1 _ _ hp))) (λi x σ' H' T hx z20q nT=>?_) (λσ' H' z21q=>?_)
  ·obtain⟨a',bs,x5,x6,e,g,lb,eb,s'⟩:=z20q
   subst e
   rw[qB] at hx
   obtain⟨n,hn',rfl⟩:=Qs9.mp hx
   have hi:i < ns.length:=(lG.mp hn').1
   rw[aGV hn'] at eb
   obtain⟨H3,i3,s3,g3⟩:=nw (.tup [.int (i:Int),.int n]) nT;rw[i3]
   refine fB (iY.of g3) rfl ?_
   have g':=s3 _ _ g
   have eb':bs++((if n=1/\a'=0 then [(i:Int)] else [])++bgs n (ns.drop (i+1)) (i+1))=bgs o ns 0:=eb
   walk_at "w"
   refine cI (λh1=>?_) (λh1=>?_)
   ·walk_at "w"
    refine cI (λh2=>?_) (λh2=>?_)
    ·rw[if_pos ⟨h1,h2⟩,<-Sz9] at eb'
     walk_at "w"
     refine j0 (bU.of g') ?_
     walk_at "w"
     refine qN (xs:=bs.map V.int) g' (uU (by rw[cD];omega:(bs.map V.int).length < 1000) (cO (by simp))) ?_
     obtain⟨H4,i4,k4,g4⟩:=wr H3 c (.lst (bs.map V.int ++ [.int (i:Int)]));rw[i4]
     walk_at "w"
     exact⟨n,bs ++ [(i:Int)],_,_,rfl,by rw[g4,iI];rfl,by rw[sO];simp;exact lb,eb',λb o e=>k4 _ _ (s3 _ _ (s' _ _ e)) (bQ nc e)⟩
    ·rw[if_neg (λz=>h2 z.2),List.nil_append] at eb'
     walk_at "w"
     exact⟨n,bs,_,_,rfl,g',by omega,eb',s'.trans s3⟩
   ·rw[if_neg (λz=>h1 z.1),List.nil_append] at eb'
    walk_at "w"
    exact⟨n,bs,_,_,rfl,g',by omega,eb',s'.trans s3⟩
  ·obtain⟨a',bs,x5,x6,e,g,lb,eb,s'⟩:=z21q
   subst e
   rw[cD,List.drop_length] at eb
   rw[show bs++bgs a' [] ns.length=bs from Si9 bs] at eb
   walk_at "w"
   exact k1 c _ (s1.trans s') (s1.free nc) (by rw[<-eb];exact g)
def aE7(K:W.Frag)(C:Addr):Sp:=λvs H Q _=>∃(q:Addr) (m:MS) (t:Addr) (o d:Int) (p:Addr) (ns:List Int),vs=[.ref q,.ref t,.ref p]/\dW C H q m/\m.Good/\H t=some (.tup [.int o,.int d])/\H p=some (.lst (ns.map V.int))/\ns.length<=48/\
 flt m o d ns 0=.non/\∀H',aU H H'->Q (.int (aHS m o ns)) H'
theorem aE8{P:Program}{w:World}{K:PySem.W.Frag}{mg:Str->Option Value}{base:Heap}{a:qA}(tx:Txt K mg a):cR P w K mg base lQ 6 a.rB a.rG ["machine","state","run"] (aE7 K a.bS):=by
 have aDX:=aCc (P:=P) (w:=w) (base:=base) tx
 refine tx.wR.ok zV (λvs H Q E h=>?_) (λcdv A outer s H vs Q E hr h=>?_)
 ·obtain⟨q,m,t,o,d,p,ns,rfl,_⟩:=h
  rfl
 ·obtain⟨q,m,t,o,d,p,ns,rfl ,hm,hg,ht,hp,hl,hn,k1⟩:=h
  have hu:=qJ hr
  refine bV (aH (aP (i:=3) zV.nd (aO (rc:=lK K) cB (by rfl) tx.dX dI (aB (zq1 aDX hr tx.xV tx.rN.kp tx.xU (aB (Z.pv 0) (aB (Z.pv 1) (aB (Z.pv 2) aG)))) aG)))
   (aJ (aR (aM bY (aM bY (aM cJ (iN (K':=K) (Z.pv 0) rfl) (Z.pv 3)) (aM cJ (iN (K':=K) (Z.pv 0) rfl) (xI (K':=K) (Z.pv 2) (aB aF aG)))) (aM cJ (iN (K':=K) (Z.pv 0) rfl) (xI (K':=K) (Z.pv 2) (aB aF aG))))))) ?_
  obtain⟨b0,b1⟩:=hg.begin_
  obtain⟨u0,u1⟩:=hg.run
  obtain⟨r0,r1⟩:=hg.rest
  refine bK (σ:=[some (.ref q),some (.ref t),some (.ref p),none]) rfl ?_
  walk_at "w"
  refine⟨q,m,t,o,d,p,ns,rfl,hm,ht,hp,hl,hn,λc H1 s1 nc gc=>?_⟩
  obtain⟨dx,pl,hq,_⟩:=(hm.same s1).ex
  have hp1:=s1 _ _ hp
  walk_at "w"
  refine wJ hq tx.cX tx.lT rfl ?_
  walk_at "w"
  refine wJ hq tx.cX tx.pM rfl ?_
  walk_at "w"
  refine j0 (bU.of hp1) ?_
  walk_at "w"
  refine aEC (bU.of hp1) ?_
  walk_at "w"
  refine wJ hq tx.cX tx.nW rfl ?_
  walk_at "w"
  refine j0 (bU.of hp1) ?_
  walk_at "w"
  refine aEC (bU.of hp1) ?_
  walk_at "w"
  rw[cD]
  exact k1 _ s1
def Ok(m:MS):Int->Int->List Int->Prop
 |_,_,[]=>True
 |o,d,on::r=>(o=on\/d=0)/\Ok m (o7 m o d on).1 (o7 m o d on).2 r
def ed(m:MS):Int->Int->List Int->Int×Int
 |o,d,[]=>(o,d)
 |o,d,on::r=>ed m (o7 m o d on).1 (o7 m o d on).2 r
def St0(o d:Int):Prop:=Bit o/\0<=d/\d < 60
theorem St0.o7{m:MS}(g:m.Good){o d on:Int}(h:St0 o d)(b:Bit on):St0 (o7 m o d on).1 (o7 m o d on).2:=by
 obtain⟨h0,h1,h2⟩:=h
 refine⟨(aGa g b).1,(aGa g b).2,?_⟩
 have u:=g.up
 have v:=g.down
 unfold My.o7
 split
 ·show max (d - 1) 0 < 60;omega
 ·split
  ·show m.up - 1 < 60;omega
  ·show m.down - 1 < 60;omega
def tP(m:MS)(on:Int)(f:Int->Int->Int)(o d:Int):Int:=if o=on\/d=0 then f (o7 m o d on).1 (o7 m o d on).2 else 0
def tB(m:MS)(f:Int->Int->Int)(o d:Int):Int:=tP m 0 f o d+tP m 1 f o d
def one(_ _:Int):Int:=1
abbrev WP:=(Int×Int)×Int
def iH(k:Int×Int):List Key:=[.inl k.1,.inl k.2]
def enc(ps:List WP):List (List Key×V):=ps.map λp=>(iH p.1,V.int p.2)
theorem uQ{a b:Int×Int}(h:iH a=iH b):a=b:=by
 unfold iH at h
 simp only[List.cons.injEq,Sum.inl.injEq,and_true] at h
 exact Prod.ext h.1 h.2
def kM(ps:List WP)(k:Int×Int):Option Int:=(ps.find? λp=>decide (p.1=k)).map (·.2)
def addW(ps:List WP)(k:Int×Int)(v:Int):List WP:=if ps.any (λp=>decide (p.1=k)) then ps.map (λp=>if p.1=k then (p.1,v) else p) else ps ++ [(k,v)]
theorem rW(ps:List WP)(k:Int×Int):pR (enc ps) (iH k)=(kM ps k).map V.int:=by
 unfold pR kM enc
 induction ps with
 |nil=>rfl
 |cons p r ih=>
  by_cases h:p.1=k
  ·simp[h]
  ·have:iH p.1≠iH k:=λz=>h (uQ z)
   simp only[Rg9,Sr9,this,h,decide_false]
   exact ih
theorem aGW(ps:List WP)(k:Int×Int)(v:Int):putK (enc ps) (iH k) (.int v)=enc (addW ps k v):=by
 unfold putK addW enc
 have e:((ps.map λp:WP=>(iH p.1,V.int p.2)).any λkv=>decide (kv.1=iH k))=ps.any λp=>decide (p.1=k):=by
  rw[List.any_map]
  congr 1
  funext p
  show decide (iH p.1=iH k)=decide (p.1=k)
  exact decide_eq_decide.mpr ⟨uQ,λz=>by rw[z]⟩
 rw[e]
 split
 ·rw[Rp9,Rp9]
  congr 1
  funext p
  show(if iH p.1=iH k then (iH p.1,V.int v) else (iH p.1,V.int p.2))=(iH (if p.1=k then (p.1,v) else p).1,V.int (if p.1=k then (p.1,v) else p).2)
  by_cases h:p.1=k
  ·rw[if_pos h,if_pos (by rw[h])]
  ·rw[if_neg h,if_neg λz=>h (uQ z)]
 ·rw[iI]
  rfl
theorem aJ4:∀(n:Nat) (l:List Nat),l.Nodup->(∀x∈l,x < n)->l.length<=n
 |0,l,_,h=>by
  cases l with
  |nil=>exact dQ _
  |cons x r=>exact absurd (h x (.head _)) (by omega)
 |n+1,l,nd,h=>by
  have:=aJ4 n (l.erase n) (nd.erase n) (λx hx=>by
   have h1:=(nd.mem_erase_iff.mp hx)
   have:=h x h1.2
   have:=h1.1
   omega)
  rw[List.length_erase] at this
  split at this <;> omega
structure aPi(ps:List WP):Prop where
 nd:(ps.map (·.1)).Nodup
 st:∀p∈ps,St0 p.1.1 p.1.2
theorem aPi.len{ps:List WP}(h:aPi ps):ps.length<=120:=by
 have:=aJ4 120 ((ps.map (·.1)).map λk=>(k.1*60+k.2).toNat) (by
  rw[List.Nodup,Ri9]
  refine h.nd.imp_of_mem ?_
  intro a b ha hb hab z
  obtain⟨p,hp,rfl⟩:=o8.mp ha
  obtain⟨q,hq,rfl⟩:=o8.mp hb
  obtain⟨a1,a2,a3⟩:=h.st p hp
  obtain⟨b1,b2,b3⟩:=h.st q hq
  refine hab (Prod.ext ?_ ?_)
  ·rcases a1 with a1|a1 <;> rcases b1 with b1|b1 <;> rw[a1,b1] <;> rw[a1,b1] at z <;> omega
  ·rcases a1 with a1|a1 <;> rcases b1 with b1|b1 <;> rw[a1,b1] at z <;> omega) (λx hx=>by
  obtain⟨k,hk,rfl⟩:=o8.mp hx
  obtain⟨p,hp,rfl⟩:=o8.mp hk
  obtain⟨a1,a2,a3⟩:=h.st p hp
  rcases a1 with a1|a1 <;> rw[a1] <;> omega)
 simpa using this
section
variable{α:Type}
abbrev Wy(α:Type):=Int×α×Int
def uR(f:α->Int):List (Wy α)->Int
 |[]=>0
 |[w]=>w.2.2+f w.2.1
 |w::v::r=>min (w.2.2+f w.2.1) (uR f (v::r))
theorem aCX(f:α->Int):∀{ws:List (Wy α)}{w:Wy α},w∈ws->uR f ws<=w.2.2+f w.2.1
 |[],_,h=>by cases h
 |[w],v,h=>by rw[zJ.mp h];exact Int.le_refl _
 |w::v::r,u,h=>by
  show min _ _<=_
  rcases lW.mp h with rfl|h
  ·omega
  ·have:=aCX f h;omega
theorem aBA(f:α->Int):∀{ws:List (Wy α)},ws≠[]->∃w∈ws,w.2.2+f w.2.1=uR f ws
 |[],h=>absurd rfl h
 |[w],_=>⟨w,.head _,rfl⟩
 |w::v::r,_=>by
  obtain⟨u,hu,e⟩:=aBA f (ws:=v::r) (by simp)
  by_cases h:w.2.2+f w.2.1<=uR f (v::r)
  ·exact⟨w,.head _,by show _=min _ _;omega⟩
  ·exact⟨u,Qt9 _ hu,by show _=min _ _;omega⟩
theorem aHT{f:α->Int}{ws:List (Wy α)}{m:Int}(h1:∃w∈ws,w.2.2+f w.2.1=m)(h2:∀w∈ws,m<=w.2.2+f w.2.1):m=uR f ws:=by
 obtain⟨w,hw,e⟩:=h1
 have a:=aCX f hw
 obtain⟨u,hu,e2⟩:=aBA f (ws:=ws) (λz=>by rw[z] at hw;cases hw)
 have b:=h2 u hu
 omega
def wF(W:Nat->α->List (Wy α)):Nat->Nat->α->Int
 |0,_,_=>0
 |k+1,i,x=>uR (wF W k (i+1)) (W i x)
structure Lay(W:Nat->α->List (Wy α))(n:Nat)(L:Nat->α->Prop):Prop where
 ne:∀i x,i < n->L i x->W i x≠[]
 on:∀i x w,i < n->L i x->w∈W i x->L (i+1) w.2.1
end
inductive PK (α:Type) where
 |ik (f:α->Key) (inj:∀x y,f x=f y->x=y)
 |tk (f:α->List Key) (inj:∀x y,f x=f y->x=y)
def PK.pv{α:Type}:PK α->Hp->V->α->Prop
 |.ik f _,_,v,x=>v=kV (f x)
 |.tk f _,H,v,x=>∃b,v=.ref b/\H b=some (.tup ((f x).map kV))
def PK.da{α:Type}:PK α->Hp->Addr->List α->(α->Int)->Prop
 |.ik f _,H,d,ps,g=>H d=some (.dK (ps.map λx=>(f x,.int (g x))))
 |.tk f _,H,d,ps,g=>H d=some (.dT (ps.map λx=>(f x,.int (g x))))
section
variable{α:Type}{κ:PK α}{H H':Hp}{v:V}{x:α}{d:Addr}{ps:List α}{g g':α->Int}
theorem PK.aAM(h:κ.pv H v x)(s:aU H H'):κ.pv H' v x:=by
 cases κ with
 |ik f i=>exact h
 |tk f i=>obtain⟨b,e,hb⟩:=h;exact⟨b,e,s _ _ hb⟩
theorem PK.yE(h:κ.da H d ps g)(s:aU H H'):κ.da H' d ps g:=by
 cases κ with
 |ik f i=>exact s _ _ h
 |tk f i=>exact s _ _ h
theorem sV{κ':Type}[DecidableEq κ']{f:α->κ'}(inj:∀x y,f x=f y->x=y){g:α->Int}{x:α}:∀{ps:List α},x∈ps->pR (ps.map λx=>(f x,V.int (g x))) (f x)=some (.int (g x))
 |[],h=>by cases h
 |y::r,h=>by
  rw[Rg9]
  by_cases e:f y=f x
  ·rw[lJ (show(f y,V.int (g y)).1=f x from e),inj _ _ e]
  ·rw[i0 (show ¬(f y,V.int (g y)).1=f x from e)]
   rcases lW.mp h with rfl|h
   ·exact absurd rfl e
   ·exact sV inj h
theorem aCY{κ':Type}[DecidableEq κ']{f:α->κ'}(inj:∀x y,f x=f y->x=y){g:α->Int}{x:α}:∀{ps:List α},x∉ps->pR (ps.map λx=>(f x,V.int (g x))) (f x)=none
 |[],_=>rfl
 |y::r,h=>by
  rw[Rg9,i0 (show ¬(f y,V.int (g y)).1=f x from λz=>h (by rw[inj _ _ z];exact .head _))]
  exact aCY inj λz=>h (Qt9 _ z)
theorem PK.get(h:κ.da H d ps g)(hv:κ.pv H v x)(hx:x∈ps):hU H d v (some (.int (g x))):=by
 cases κ with
 |ik f i=>
  have hv':v=kV (f x):=hv
  subst hv'
  have z:=hU.k (k:=f x) (show H d=some (.dK _) from h)
  rw[sV i hx] at z
  exact z
 |tk f i=>
  obtain⟨b,rfl,hb⟩:=hv
  have z:=hU.t (show H d=some (.dT _) from h) hb
  rw[sV i hx] at z
  exact z
theorem aAS{κ':Type}[DecidableEq κ']{f:α->κ'}(inj:∀x y,f x=f y->x=y){g:α->Int}{x:α}{ps:List α}(hx:x∉ps):putK (ps.map λx=>(f x,V.int (g x))) (f x) (.int (g x))=(ps ++ [x]).map λx=>(f x,V.int (g x)):=by
 unfold putK
 rw[xF,aCY inj hx,iI]
 rfl
theorem PK.put(h:κ.da H d ps g)(hv:κ.pv H v x)(hx:x∉ps)(hl:ps.length < 1000000):∃H',aBW H d v (.int (g x)) H'/\κ.da H' d (ps ++ [x]) g/\cE d H H':=by
 have lt:ps.length < sizeLine:=uU hl (cO (by decide))
 cases κ with
 |ik f i=>
  have hv':v=kV (f x):=hv
  subst hv'
  refine⟨_,aBW.k (k:=f x) (show H d=some (.dK _) from h) (by rw[cD];exact lt),?_,cE.upd⟩
  show upd H d _ d=_
  rw[aT,aAS i hx]
 |tk f i=>
  obtain⟨b,rfl,hb⟩:=hv
  refine⟨_,aBW.t (show H d=some (.dT _) from h) hb (by rw[cD];exact lt),?_,cE.upd⟩
  show upd H d _ d=_
  rw[aT,aAS i hx]
theorem PK.new{σ:St}{Q:VK}(κ:PK α)(g:α->Int)(h:∀p H',H p=none->aU H H'->κ.da H' p [] g->Q (.ref p) H'):aA9 σ H Q:=by
 cases κ with
 |ik f i=>exact aHD λp np=>h p _ np (aU.new np) aT
 |tk f i=>exact aHE λp np=>h p _ np (aU.new np) aT
def aCZ(κ:PK α)(H:Hp)(a:Addr)(w:Wy α):Prop:=∃v,H a=some (.tup [.int w.1,v,.int w.2.2])/\κ.pv H v w.2.1
theorem aCZ.same{a:Addr}{w:Wy α}(h:aCZ κ H a w)(s:aU H H'):aCZ κ H' a w:=let ⟨v,e,p⟩:=h;⟨v,s _ _ e,κ.aAM p s⟩
structure aDY(κ:PK α)(H:Hp)(l:Addr)(ws:List (Wy α)):Prop where
 ex:∃as,H l=some (.lst (as.map V.ref))/\RL (aCZ κ H) as ws
structure aGe(κ:PK α)(C:Addr->Sp->Prop)(H:Hp)(f:Addr)(W:Nat->α->List (Wy α))(L:Nat->α->Prop):Prop where
 ex:∃spc,C f spc/\∀(H':Hp) (h:Nat) (v:V) (x:α) (Q:VK),aU H H'->L h x->κ.pv H' v x->(∀l H'',aU H' H''->aDY κ H'' l (W h x)->Q (.ref l) H'')->spc [.int (h:Int),v] H' Q E0
def PVs(κ:PK α)(H:Hp)(vs:List V)(ps:List α):Prop:=vs.length=ps.length/\∀(i:Nat) v x,vs[i]?=some v->ps[i]?=some x->κ.pv H v x
theorem PVs.get{vs:List V}(h:PVs κ H vs ps){i:Nat}{v:V}(e:vs[i]?=some v):∃x,ps[i]?=some x/\κ.pv H v x:=by
 have li:i < ps.length:=by rw[<-h.1];exact(lG.mp e).1
 exact⟨_,dF li,h.2 i v _ e (dF li)⟩
end
theorem cY{α:Type}{l:List α}{i:Nat}{x:α}(h:l[i]?=some x):l.take (i+1)=l.take i ++ [x]:=by rw[Sg9,h];rfl
theorem RL.gt{α:Type}{P:Addr->α->Prop}{as:List Addr}{xs:List α}(h:RL P as xs){i:Nat}{v:V}(hv:(as.map V.ref)[i]?=some v):∃a x,as[i]?=some a/\v=.ref a/\xs[i]?=some x/\P a x:=by
 rw[qB] at hv
 obtain⟨a,e,rfl⟩:=Qs9.mp hv
 have li:i < xs.length:=by rw[<-h.len];exact(lG.mp e).1
 exact⟨a,xs[i],e,rfl,dF li,h.at_ i a _ e (dF li)⟩
structure aPj{α:Type}(κ:PK α)(H:Hp)(a:Addr)(Ls:List (List α)):Prop where
 ex:∃as,H a=some (.lst (as.map V.ref))/\RL (λb ps=>∃us,H b=some (.lst us)/\PVs κ H us ps) as Ls
structure aPk{α:Type}(W:Nat->α->List (Wy α))(Ls:List (List α)):Prop where
 pos:0 < Ls.length
 nd:∀ps∈Ls,ps.Nodup
 few:∀ps∈Ls,ps.length<=10000
 ne:∀(i:Nat) ps x,Ls[i]?=some ps->i+1 < Ls.length->x∈ps->W i x≠[]/\(W i x).length<=10000
 on:∀(i:Nat) ps qs x w,Ls[i]?=some ps->Ls[i+1]?=some qs->x∈ps->w∈W i x->w.2.1∈qs
theorem sU{xs:List V}(h:0 < xs.length):p9 xs (-1)=xs[xs.length - 1]?:=by
 have e:ixN xs.length (-1)=some (xs.length - 1):=by
  unfold ixN
  rw[if_neg (by omega),if_pos (by omega)]
  congr 1
  omega
 unfold p9
 rw[e]
 rfl
theorem PK.aGX{α:Type}{κ:PK α}{H H':Hp}{v:V}{x:α}{p:Addr}{xs:List V}(h:κ.pv H v x)(gp:H p=some (.lst xs))(k:cE p H H'):κ.pv H' v x:=by
 cases κ with
 |ik f i=>exact h
 |tk f i=>
  obtain⟨b,e,hb⟩:=h
  exact⟨b,e,k _ _ hb λz=>by rw[z,gp] at hb;cases hb⟩
theorem fL{as:List Addr}{i:Nat}{a:Addr}(h:as[i]?=some a):(as.map V.ref)[i]?=some (.ref a):=by rw[qB,h];rfl
def On(m:MS)(s s':Int×Int):Prop:=∃on,Bit on/\(s.1=on\/s.2=0)/\s'=o7 m s.1 s.2 on
def Rc(m:MS)(a:Int×Int):Nat->Int×Int->Prop
 |0,s=>s=a
 |n+1,s=>∃q,Rc m a n q/\On m q s
def sLt(a b:Int×Int):Prop:=a.1 < b.1\/(a.1=b.1/\a.2 < b.2)
def St1(m:MS)(s:Int×Int):Prop:=(s.1=1/\0<=s.2/\s.2 < m.up)\/(s.1=0/\0<=s.2/\s.2 < 60)
theorem St1.st0{m:MS}(g:m.Good){s:Int×Int}(h:St1 m s):St0 s.1 s.2:=by
 obtain⟨u0,u1⟩:=g.up
 rcases h with ⟨a,b,c⟩|⟨a,b,c⟩
 ·exact⟨.inr a,b,by omega⟩
 ·exact⟨.inl a,b,c⟩
theorem Rc.st{m:MS}(g:m.Good){a:Int×Int}(h:St1 m a):∀{n:Nat}{s:Int×Int},Rc m a n s->St0 s.1 s.2/\(s.2 < 12\/(s.1=0/\s.2=a.2 - n))
 |0,s,hs=>by
  have hs':s=a:=hs
  subst hs'
  obtain⟨u0,u1⟩:=g.up
  refine⟨h.st0 g,?_⟩
  rcases h with ⟨x,y,z⟩|⟨x,y,z⟩
  ·exact .inl (by omega)
  ·exact .inr ⟨x,by omega⟩
 |n+1,s,hs=>by
  obtain⟨q,hq,on,bon,may,rfl⟩:=hs
  obtain⟨i1,i2⟩:=Rc.st g h hq
  obtain⟨u0,u1⟩:=g.up
  obtain⟨d0,d1⟩:=g.down
  refine⟨i1.o7 g bon,?_⟩
  unfold My.o7
  by_cases e:q.1=on
  ·rw[if_pos e]
   rcases i2 with i2|⟨i2,i3⟩
   ·exact .inl (by show max (q.2 - 1) 0 < 12;omega)
   ·by_cases z:q.2 - 1 < 12
    ·exact .inl (by show max (q.2 - 1) 0 < 12;omega)
    ·refine .inr ⟨by show on=0;omega,?_⟩
     show max (q.2 - 1) 0=a.2 - ((n+1:Nat):Int)
     omega
  ·rw[if_neg e]
   split
   ·exact .inl (by show m.up - 1 < 12;omega)
   ·exact .inl (by show m.down - 1 < 12;omega)
theorem Rc.few{m:MS}(g:m.Good){a:Int×Int}(h:St1 m a){n:Nat}{ks:List (Int×Int)}(nd:ks.Nodup)(hr:∀k∈ks,Rc m a n k):ks.length<=25:=by
 have:=aJ4 25 (ks.map λk=>if k.2 < 12 then (k.1*12+k.2).toNat else 24) (by
  rw[List.Nodup,Ri9]
  refine nd.imp_of_mem ?_
  intro x y hx hy hxy z
  obtain⟨⟨a1,a2,a3⟩,a4⟩:=Rc.st g h (hr x hx)
  obtain⟨⟨b1,b2,b3⟩,b4⟩:=Rc.st g h (hr y hy)
  refine hxy ?_
  by_cases c1:x.2 < 12 <;> by_cases c2:y.2 < 12
  ·rw[if_pos c1,if_pos c2] at z
   refine Prod.ext ?_ ?_
   ·rcases a1 with a1|a1 <;> rcases b1 with b1|b1 <;> rw[a1,b1] <;> rw[a1,b1] at z <;> omega
   ·rcases a1 with a1|a1 <;> rcases b1 with b1|b1 <;> rw[a1,b1] at z <;> omega
  ·rw[if_pos c1,if_neg c2] at z
   rcases a1 with a1|a1 <;> rw[a1] at z <;> omega
  ·rw[if_neg c1,if_pos c2] at z
   rcases b1 with b1|b1 <;> rw[b1] at z <;> omega
  ·rcases a4 with a4|⟨a4,a5⟩
   ·omega
   ·rcases b4 with b4|⟨b4,b5⟩
    ·omega
    ·exact Prod.ext (by omega) (by omega)) (λx hx=>by
  obtain⟨k,hk,rfl⟩:=o8.mp hx
  obtain⟨⟨a1,a2,a3⟩,a4⟩:=Rc.st g h (hr k hk)
  split
  ·rcases a1 with a1|a1 <;> rw[a1] <;> omega
  ·omega)
 simpa using this
structure aHU(m:MS)(a:Int×Int)(Ls:List (List (Int×Int))):Prop where
 at_:∀(i:Nat) ps,Ls[i]?=some ps->ps.Pairwise sLt/\∀s,s∈ps↔Rc m a i s
theorem aBB{ps:List (Int×Int)}(h:ps.Pairwise sLt):ps.Nodup:=h.imp λ{a b} hab z=>by
 subst z
 rcases hab with y|⟨_,y⟩ <;> omega
def gnT(m:MS)(p:Int):Int:=p*m.least+gn p m.pieces
def aN6(m:MS)(s:Int×Int)(on:Int):Int:=aHS m s.1 [on]
def hw(m:MS)(p:Int)(s:Int×Int)(on:Int):Int:=aN6 m s on - on*gnT m p
def wX(s:Int×Int)(on:Int):Bool:=decide (s.1=on) || decide (s.2=0)
def rwy(m:MS)(p:Int)(s:Int×Int):List (Wy (Int×Int)):=(([0,1]:List Int).filter (wX s)).map λon=>(on,o7 m s.1 s.2 on,hw m p s on)
def Wr(m:MS)(ps:List Int)(i:Nat)(s:Int×Int):List (Wy (Int×Int)):=rwy m (ps.getD i 0) s
theorem nX{s:Int×Int}{on:Int}:wX s on=true↔s.1=on\/s.2=0:=by unfold wX;simp
theorem aGY{m:MS}{p:Int}{s:Int×Int}{w:Wy (Int×Int)}:w∈rwy m p s↔∃on,Bit on/\(s.1=on\/s.2=0)/\w=(on,o7 m s.1 s.2 on,hw m p s on):=by
 unfold rwy
 rw[o8]
 constructor
 ·rintro ⟨on,h,rfl⟩
  obtain⟨h1,h2⟩:=So9.mp h
  exact⟨on,by simpa [Bit] using h1,nX.mp h2,rfl⟩
 ·rintro ⟨on,b,h,rfl⟩
  exact⟨on,So9.mpr ⟨by simpa [Bit] using b,nX.mpr h⟩,rfl⟩
theorem aJ5{m:MS}{p:Int}{s:Int×Int}(b:Bit s.1):rwy m p s≠[]:=λz=>by
 have:_∈rwy m p s:=aGY.mpr ⟨s.1,b,.inl rfl,rfl⟩
 rw[z] at this
 cases this
theorem aDZ(m:MS)(p:Int)(s:Int×Int):(rwy m p s).length<=2:=by
 unfold rwy
 rw[cD]
 exact Sx9 ..
theorem aLN{m:MS}(g:m.Good){a:Int×Int}(h:St1 m a)(qs:List Int){Ls:List (List (Int×Int))}(pos:0 < Ls.length)(hl:aHU m a Ls):aPk (Wr m qs) Ls where
 pos:=pos
 nd:=λps hp=>by
  obtain⟨i,hi⟩:=Rm9 hp
  exact aBB (hl.at_ i ps hi).1
 few:=λps hp=>by
  obtain⟨i,hi⟩:=Rm9 hp
  obtain⟨h1,h2⟩:=hl.at_ i ps hi
  exact zK (Rc.few g h (aBB h1) λk hk=>(h2 k).mp hk) (by decide)
 ne:=λi ps x hi _ hx=>by
  have:=((Rc.st g h (((hl.at_ i ps hi).2 x).mp hx)).1).1
  exact⟨aJ5 this,zK (aDZ ..) (by decide)⟩
 on:=λi ps rs x w hi hj hx hw=>by
  obtain⟨on,b,may,rfl⟩:=aGY.mp hw
  exact((hl.at_ (i+1) rs hj).2 _).mpr ⟨x,((hl.at_ i ps hi).2 x).mp hx,on,b,may,rfl⟩
def κS:PK (Int×Int):=.tk iH λ_ _ h=>uQ h
theorem aD0{ps:List WP}{i:Nat}{kv:List Key×V}(h:(enc ps)[i]?=some kv):∃p,ps[i]?=some p/\kv=(iH p.1,V.int p.2):=by
 unfold enc at h
 rw[qB] at h
 obtain⟨p,hp,e⟩:=Qs9.mp h
 exact⟨p,hp,e.symm⟩
theorem g0(ps:List WP):(enc ps).length=ps.length:=by unfold enc;rw[cD]
theorem vM{ps:List WP}{k s:Int×Int}{v:Int}:s∈(addW ps k v).map (·.1)↔s∈ps.map (·.1)\/s=k:=by
 unfold addW
 by_cases h:ps.any (λp=>decide (p.1=k))=true
 ·rw[if_pos h,Rp9]
  have e:((λp:WP=>p.1) ∘ λp:WP=>if p.1=k then (p.1,v) else p)=λp=>p.1:=by
   funext p
   show(if p.1=k then (p.1,v) else p).1=p.1
   split <;> rfl
  rw[e]
  refine⟨.inl,λz=>?_⟩
  rcases z with z|z
  ·exact z
  ·obtain⟨p,hp,e⟩:=Tp9.mp h
   rw[z]
   exact o8.mpr ⟨p,hp,of_decide_eq_true e⟩
 ·rw[if_neg h,iI,Rf9]
  simp
theorem aN7{t:TE}{σ σ':St}{H:Hp}{Q:VK}(e:σ'=σ)(h:t σ H Q):t σ' H Q:=e▸h
theorem aE9(xs:List V)(m:Nat):lP xs none (some (m:Int))=xs.take m:=by
 unfold lP
 rw[HT.xD,HT.aAD,List.drop_zero,Um9]
 by_cases h:m<=xs.length
 ·rw[Nat.min_eq_left h]
 ·rw[Nat.min_eq_right (by omega),Rb9,Sb9 (by omega)]
theorem aFa(xs:List V)(m:Nat):lP xs (some (m:Int)) none=xs.drop m:=by
 unfold lP
 rw[HT.aAD,HT.xD]
 by_cases h:m<=xs.length
 ·rw[Nat.min_eq_left h]
  exact Sb9 (by rw[Sf9];exact dQ _)
 ·rw[Nat.min_eq_right (by omega),List.drop_length,List.drop_of_length_le (by omega)]
  simp
theorem RL.app{α:Type}{P:Addr->α->Prop}{as bs:List Addr}{xs ys:List α}(h:RL P as xs)(h':RL P bs ys):RL P (as++bs) (xs++ys):=by
 refine⟨by rw[sO,sO,h.len,h'.len],λj q u hq hu=>?_⟩
 by_cases hj:j < as.length
 ·rw[Qq9 hj] at hq
  rw[Qq9 (by rw[<-h.len];exact hj)] at hu
  exact h.at_ j q u hq hu
 ·rw[Qz9 (by omega)] at hq
  rw[Qz9 (by rw[<-h.len];omega),<-h.len] at hu
  exact h'.at_ _ q u hq hu
theorem RL.one{α:Type}{P:Addr->α->Prop}{a:Addr}{x:α}(h:P a x):RL P [a] [x]:=⟨rfl,λj q u hq hu=>by
 match j,hq,hu with
 |0,hq,hu=>cases hq;cases hu;exact h
 |_+1,hq,_=>simp at hq⟩
theorem aCd{H:Hp}{ps:List WP}{qs:List Addr}{us:List (List Int)}(nd:(ps.map (·.1)).Nodup)(hT:d7 H qs us)(hp:us.Perm (ps.map λp=>[p.1.1,p.1.2]))(hs:us.Pairwise λa b=>sM b a=false) :
  ∃ks:List (Int×Int),ks.Pairwise sLt/\(∀s,s∈ks↔s∈ps.map (·.1))/\PVs κS H (qs.map V.ref) ks:=by
 have hform:∀u∈us,u=[u.getD 0 0,u.getD 1 0]:=λu hu=>by
  obtain⟨p,_,rfl⟩:=o8.mp (hp.mem_iff.mp hu)
  rfl
 have pk:(us.map λu=>(u.getD 0 0,u.getD 1 0)).Perm (ps.map (·.1)):=by
  have:=hp.map λu=>(u.getD 0 0,u.getD 1 0)
  rw[Rp9] at this
  exact this
 have ndk:=pk.nodup_iff.mpr nd
 refine⟨us.map λu=>(u.getD 0 0,u.getD 1 0),?_,λs=>pk.mem_iff,?_⟩
 ·rw[Ri9]
  have nd':us.Pairwise λa b=>(a.getD 0 0,a.getD 1 0)≠(b.getD 0 0,b.getD 1 0):=Ri9.mp ndk
  refine(hs.and nd').imp_of_mem ?_
  intro a b ha hb ⟨h1,h2⟩
  rw[hform a ha,hform b hb] at h1
  generalize a.getD 0 0=a0 at h1 h2 ⊢
  generalize a.getD 1 0=a1 at h1 h2 ⊢
  generalize b.getD 0 0=b0 at h1 h2 ⊢
  generalize b.getD 1 0=b1 at h1 h2 ⊢
  unfold sLt
  show a0 < b0\/(a0=b0/\a1 < b1)
  by_cases e0:a0=b0
  ·subst e0
   by_cases e1:a1=b1
   ·exact absurd (by rw[e1]) h2
   ·rw[fQ,if_pos rfl,fQ,if_neg (λz=>e1 z.symm)] at h1
    have:=of_decide_eq_false h1
    omega
  ·rw[fQ,if_neg (λz=>e0 z.symm)] at h1
   have:=of_decide_eq_false h1
   omega
 ·refine⟨by rw[cD,cD,hT.len],λi v x h1 h2=>?_⟩
  rw[qB] at h1 h2
  obtain⟨q,e1,rfl⟩:=Qs9.mp h1
  obtain⟨u,e2,rfl⟩:=Qs9.mp h2
  have:=(hT.at_ i q u e1 e2).1
  rw[hform u (iW e2)] at this
  exact⟨q,rfl,this⟩
def aCe(K:W.Frag)(C:Addr):Sp:=λvs H Q _=>∃(q:Addr) (m:MS) (t:Addr) (a:Int×Int),vs=[.ref q,.ref t]/\dW C H q m/\m.Good/\H t=some (.tup [.int a.1,.int a.2])/\St0 a.1 a.2/\
 ∀l H',aU H H'->aDY κS H' l ((([0,1]:List Int).filter (wX a)).map λon=>(on,o7 m a.1 a.2 on,aN6 m a on))->Q (.ref l) H'
theorem aCf{P:Program}{w:World}{K:PySem.W.Frag}{mg:Str->Option Value}{base:Heap}{a:qA}(tx:Txt K mg a):cR P w K mg base lQ 7 a.mK a.mM ["machine","state"] (aCe K a.bS):=by
 have uO:=zE (P:=P) (w:=w) (base:=base) tx
 have aGf:=aE8 (P:=P) (w:=w) (base:=base) tx
 have pN:=uN (P:=P) (w:=w) (base:=base) tx
 refine tx.rO.ok aB2 (λvs H Q E h=>?_) (λcdv A outer s H vs Q E hr h=>?_)
 ·obtain⟨q,m,t,st,rfl,_⟩:=h
  rfl
 ·obtain⟨q,m,t,st,rfl ,hm,hg,ht,hst,k⟩:=h
  have hu:=qJ hr
  refine bV (aJ (aR (cM (k:=1) (idx:=[0,1]) (N:=["on","machine","state"]) (dZ (sc:=aL fF) (NX:=["machine","state"]) rfl rfl rfl (by decide +kernel)) rfl (nP (K':=K) (cQ aF aF)) (λ_ _ _ _=>(aQ (i:=0) (show(["on","machine","state"]:List Str).Nodup by decide +kernel))) (eN (by decide)) (λ_ _ _ _=>(qP (d9 (zq1 uO hr tx.xT tx.tV.kp tx.xS (aB (Z.pv 1) (aB (Z.pv 2) (aB (Z.pv 0) aG))))))) (λ_ _ _ _=>(aGt (Z.pv 0) (zq1 pN hr tx.pE tx.lE.kp tx.pD (aB (Z.pv 1) (aB (Z.pv 2) (aB (Z.pv 0) aG)))) (zq1 aGf hr tx.aBq tx.wR.kp tx.aBp (aB (Z.pv 1) (aB (Z.pv 2) (aB (mC (Z.pv 0)) aG))))))))) ?_
  refine bK (σ:=[some (.ref q),some (.ref t)]) rfl ?_
  walk_at "w"
  intro Tu nTu
  obtain⟨H1,i1,s1,gTu⟩:=nw _ nTu;rw[i1]
  refine aEy (iY.of gTu) ?_
  refine aIK (xs:=([0,1]:List Int).map V.int) (λj us H'=>aU H1 H'/\∃as:List Addr,us=as.map V.ref/\as.length<=j/\RL (aCZ κS H') as (((([0,1]:List Int).take j).filter (wX st)).map λon=>(on,o7 m st.1 st.2 on,aN6 m st on))) ⟨aU.refl _,[],rfl,dQ _,RL.nil⟩ (cO (by simp))
   (λj us H' hj ⟨s',as,e,la,r⟩=>⟨iY.of (s' _ _ gTu),by rw[e,cD];exact la⟩) (λj v us H' hv z22q=>?_) (λus H' z23q=>?_)
  ·obtain⟨s',as,e,la,r⟩:=z22q
   obtain⟨on,eon,rfl⟩:=aDU hv
   have bon:Bit on:=by
    have:=iW eon
    simp at this
    exact this
   have tk:([0,1]:List Int).take (j+1)=([0,1]:List Int).take j ++ [on]:=by rw[Sg9,eon];rfl
   have S':=s1.trans s'
   have ht':=S' _ _ ht
   walk_at "w"
   refine⟨_,t,_,_,on,rfl,ht',?_⟩
   by_cases hmay:st.1=on\/st.2=0
   ·have hmb:wX st on=true:=nX.mpr hmay
    rw[show(decide (st.1=on) || decide (st.2=0))=true from hmb]
    walk_at "w"
    refine⟨q,m,t,_,_,on,rfl,hm.same S',ht',hmay,λT2 H3 s3 nT2 gT2=>?_⟩
    walk_at "w"
    intro lo nlo
    obtain⟨H4,i4,s4,g4⟩:=nw _ nlo;rw[i4]
    walk_at "w"
    refine⟨q,m,t,_,_,lo,[on],rfl,hm.same (S'.trans (s3.trans s4)),hg,(s3.trans s4) _ _ ht',g4,by simp,?_,λH5 s5=>?_⟩
    ·show(if st.1=on\/st.2=0 then _ else _)=_
     rw[if_pos hmay]
     rfl
    walk_at "w"
    intro T nT
    obtain⟨H6,i6,s6,g6⟩:=nw _ nT;rw[i6]
    have s36:=s3.trans (s4.trans (s5.trans s6))
    refine⟨s'.trans s36,as ++ [T],by rw[e,iI];rfl,by rw[sO];simp;omega,?_⟩
    rw[tk,Sc9,iI,Tx9 hmb]
    exact RL.snoc (r.imp λ_ _ z=>z.same s36) ⟨_,g6,T2,rfl,(s4.trans (s5.trans s6)) _ _ gT2⟩
   ·have hmb:wX st on=false:=by cases h:wX st on;rfl;exact absurd (nX.mp h) hmay
    rw[show(decide (st.1=on) || decide (st.2=0))=false from hmb]
    walk_at "w"
    refine⟨s',as,e,by omega,?_⟩
    rw[tk,Sc9,iI,List.filter_cons_of_neg (by rw[hmb];simp)]
    simpa using r
  ·obtain⟨s',as,e,la,r⟩:=z23q
   intro l nl
   obtain⟨H3,i3,s3,g3⟩:=nw _ nl;rw[i3]
   walk_at "w"
   exact k l H3 (s1.trans (s'.trans s3)) ⟨as,by rw[g3,e],r.imp λ_ _ z=>z.same s3⟩
def yF(K:W.Frag)(C:Addr):Sp:=λvs H Q _=>∃(q:Addr) (m:MS) (t:Addr) (a:Int×Int) (p:Int),vs=[.ref q,.ref t,.int p]/\dW C H q m/\m.Good/\H t=some (.tup [.int a.1,.int a.2])/\St0 a.1 a.2/\0<=p/\p<=1000000000001/\
 ∀l H',aU H H'->aDY κS H' l (rwy m p a)->Q (.ref l) H'
theorem aD1{P:Program}{w:World}{K:PySem.W.Frag}{mg:Str->Option Value}{base:Heap}{a:qA}(tx:Txt K mg a):cR P w K mg base lQ 8 a.oU a.oV ["machine","state","price"] (yF K a.bS):=by
 have aBC:=aAu (P:=P) (w:=w) (base:=base) tx
 have aD2:=aCf (P:=P) (w:=w) (base:=base) tx
 refine tx.tZ.ok aDD (λvs H Q E h=>?_) (λcdv A outer s H vs Q E hr h=>?_)
 ·obtain⟨q,m,t,st,pr,rfl,_⟩:=h
  rfl
 ·obtain⟨q,m,t,st,pr,rfl ,hm,hg,ht,hst,p0,p1,k⟩:=h
  have hu:=qJ hr
  refine bV (aJ (aR (cM (k:=3) (idx:=[0,2]) (N:=["on","later","cost","machine","price"]) (dZ (sc:=aL gI) (NX:=["machine","state","price"]) rfl rfl rfl (by decide +kernel)) rfl (bR (K':=K) (zq1 aD2 hr tx.xX tx.rO.kp tx.xW (aB (Z.pv 0) (aB (Z.pv 1) aG)))) (λ_ _ _ _=>(cT (K':=K) (n:=3) rfl (bF (aQ (i:=0) (show(["on","later","cost","machine","price"]:List Str).Nodup by decide +kernel)) (bF (aQ (i:=1) (show(["on","later","cost","machine","price"]:List Str).Nodup by decide +kernel)) (bF (aQ (i:=2) (show(["on","later","cost","machine","price"]:List Str).Nodup by decide +kernel)) cS))))) (qI (cW (by decide) (cW (by decide) (cW (by decide) nJ)))) (λ_ _ _ _=>cK) (λ_ _ _ _=>(aGt (Z.pv 0) (Z.pv 1) (aM eZ (Z.pv 2) (aM cJ (Z.pv 0) (aFK (Z.pv 3) tx.cX tx.m_Machine_gain (aBC) (hr.mono (by decide)) tx.tT .nil bG (aB (Z.pv 4) aG))))))))) ?_
  refine bK (σ:=[some (.ref q),some (.ref t),some (.int pr)]) rfl ?_
  walk_at "w"
  refine⟨q,m,t,st,rfl,hm,hg,ht,hst,λl H1 s1 hw1=>?_⟩
  obtain⟨as,gl,rl⟩:=hw1.ex
  have las:=rl.len
  have lfil:=aDZ m pr st
  unfold rwy at lfil
  rw[cD] at las lfil
  refine iE (bU.of gl) ?_
  refine dP (xs:=as.map V.ref) (λj us H'=>aU H1 H'/\∃bs:List Addr,us=bs.map V.ref/\RL (aCZ κS H') bs ((rwy m pr st).take j)) ⟨aU.refl _,[],rfl,RL.nil⟩ (cO (by rw[cD];omega))
   (λj us H' hj ⟨s',bs,e,r⟩=>⟨bU.of (s' _ _ gl),by rw[e,cD,r.len,uV];omega⟩) (λj v us H' hv z24q=>?_) (λus H' z25q=>?_)
  ·obtain⟨s',bs,e,r⟩:=z24q
   obtain⟨a1,w,ea,rfl,ew,vv,g1,hp⟩:=rl.gt hv
   rw[qB] at ew
   obtain⟨on,eon,rfl⟩:=Qs9.mp ew
   have er:(rwy m pr st)[j]?=some (on,o7 m st.1 st.2 on,hw m pr st on):=by unfold rwy;rw[qB,eon];rfl
   obtain⟨b,rfl,hb⟩:=hp
   have bon:0<=on/\on<=1:=by
    have:=(So9.mp (iW eon)).1
    simp at this
    omega
   obtain⟨bo0,bo1⟩:=bon
   refine fB (iY.of (s' _ _ g1)) rfl ?_
   walk_at "w"
   have hm2:=hm.same (s1.trans s')
   obtain⟨dx,pl,hq,_⟩:=hm2.ex
   refine⟨q,dx,_,rfl,hq,rfl,?_⟩
   walk_at "w"
   refine⟨q,m,pr,rfl,hm2,hg,p0,p1,?_⟩
   walk_at "w"
   intro T nT
   obtain⟨H3,i3,s3,g3⟩:=nw _ nT;rw[i3]
   refine⟨s'.trans s3,bs ++ [T],by rw[e,iI];rfl,?_⟩
   rw[cY er]
   exact RL.snoc (r.imp λ_ _ z=>z.same s3) ⟨_,g3,b,rfl,(s'.trans s3) _ _ hb⟩
  ·obtain⟨s',bs,e,r⟩:=z25q
   intro l2 nl2
   obtain⟨H3,i3,s3,g3⟩:=nw _ nl2;rw[i3]
   walk_at "w"
   rw[cD,las,show(([0,1]:List Int).filter (wX st)).length=(rwy m pr st).length by unfold rwy;rw[cD],Rb9] at r
   exact k l2 H3 (s1.trans (s'.trans s3)) ⟨bs,by rw[g3,e],r.imp λ_ _ z=>z.same s3⟩
theorem aHV{K:W.Frag}{a:qA}{H:Hp}{x q:Addr}{m:MS}{ps:List Int}(C:Addr->Sp->Prop)(f:Addr)(spc:Sp)(hC:C f spc)(hs:dW a.bS H x m)(hg:m.Good)(hq:H q=some (.lst (ps.map V.int)))(ha:∀n∈ps,Am n)
  (h:∀(H':Hp) (h:Nat) (b:Addr) (p:Int) (Q:VK),aU H H'->H' q=some (.lst (ps.map V.int))->p9 (ps.map V.int) (h:Int)=some (.int p)->yF K a.bS [.ref x,.ref b,.int p] H' Q E0->spc [.int (h:Int),.ref b] H' Q E0) :
  aGe κS C H f (Wr m ps) λi y=>i < ps.length/\St0 y.1 y.2:=by
 refine⟨spc,hC,λH' i v y Q s' hL hpv hk=>?_⟩
 obtain⟨b,rfl,hb⟩:=hpv
 obtain⟨hi,hy⟩:=hL
 have ep:ps[i]?=some ps[i]:=dF hi
 obtain⟨a0,a1⟩:=ha _ (Rk9 hi)
 refine h H' i b ps[i] Q s' (s' _ _ hq) (dA (by rw[qB,ep];rfl)) ⟨x,m,b,y,ps[i],rfl,hs.same s',hg,hb,hy,a0,by omega,λl H2 s2 hw=>hk l H2 s2 ?_⟩
 unfold Wr
 rw[Qo9,ep]
 exact hw
def mgT(acc more:List (List Key×V)):List (List Key×V):=more.foldl (λacc kv=>putK acc kv.1 kv.2) acc
theorem aGZ:∀(l acc:List (List Key×V)),(mgT acc l).length<=acc.length+l.length
 |[],acc=>dQ _
 |kv::l,acc=>by
  have h1:=aGZ l (putK acc kv.1 kv.2)
  have h2:=iQ acc kv.1 kv.2
  show(mgT (putK acc kv.1 kv.2) l).length<=_
  rw[yM]
  omega
theorem aJ6{acc:List (List Key×V)}{k:List Key}{v:V}(h:∃q∈acc,q.1=k):(putK acc k v).length=acc.length:=by
 unfold putK
 obtain⟨q,hq,e⟩:=h
 rw[if_pos (Tp9.mpr ⟨q,hq,decide_eq_true e⟩),cD]
theorem aBD{acc:List (List Key×V)}{k:List Key}{v:V}(h:¬∃q∈acc,q.1=k):putK acc k v=acc ++ [(k,v)]:=by
 unfold putK
 rw[if_neg λz=>h (by obtain⟨q,hq,e⟩:=Tp9.mp z;exact⟨q,hq,of_decide_eq_true e⟩)]
theorem aFb:∀{more acc:List (List Key×V)},(mgT acc more).length=acc.length+more.length->mgT acc more=acc++more
 |[],acc,_=>by rw[Si9];rfl
 |p::r,acc,h=>by
  have h':(mgT (putK acc p.1 p.2) r).length=acc.length+(p::r).length:=h
  show mgT (putK acc p.1 p.2) r=_
  have hl:=aGZ r (putK acc p.1 p.2)
  by_cases e:∃q∈acc,q.1=p.1
  ·rw[aJ6 e] at hl
   rw[yM] at h'
   omega
  ·rw[aBD e] at h' ⊢
   rw[aFb (by rw[h',sO,yM,yM,Tw9];omega),Sz9]
   rfl
theorem aJ7:∀{more acc:List (List Key×V)},((acc++more).map (·.1)).Nodup->mgT acc more=acc++more
 |[],acc,_=>by rw[Si9];rfl
 |p::r,acc,h=>by
  have e:¬∃q∈acc,q.1=p.1:=by
   rintro ⟨q,hq,e⟩
   rw[iI,Sn9] at h
   exact h.2.2 q.1 (o8.mpr ⟨q,hq,rfl⟩) p.1 (.head _) e
  show mgT (putK acc p.1 p.2) r=_
  rw[aBD e,aJ7 (by rw[Sz9];exact h),Sz9]
  rfl
def iP(row:List WP):Bool:=decide ((eO (enc row)).length=row.length)
theorem zF{row:List WP}(h:iP row=true):eO (enc row)=enc row:=by
 have z:=aFb (acc:=[]) (more:=enc row) (by show(eO (enc row)).length=_;rw[of_decide_eq_true h,g0];simp)
 exact z
theorem aHW{row:List WP}(h:(row.map (·.1)).Nodup):iP row=true:=by
 have z:eO (enc row)=enc row:=by
  refine aJ7 (acc:=[]) ?_
  show((enc row).map (·.1)).Nodup
  unfold enc
  rw[Rp9]
  refine Ri9.mpr ((Ri9.mp h).imp λ{a b} hab z=>hab ?_)
  exact uQ z
 unfold iP
 rw[z,g0]
 simp
def rX(n:Int)(ws:List (Wy (Int×Int)))(pb:List WP):Bool:=ws.all λw=>match kM pb w.2.1 with|some g=>decide (n<=w.2.2+g)|none=>false
def wY(W:Nat->Int×Int->List (Wy (Int×Int)))(i:Nat)(pa pb:List WP):Bool:=pa.all λp=>rX p.2 (W i p.1) pb
def nZ(W:Nat->Int×Int->List (Wy (Int×Int)))(x:Int×Int)(n:Nat)(rows:List (List WP))(num:Int):Bool:=
 decide (rows.length=n+1) && (rows.all iP && (decide (kM (rows.getD 0 []) x=some num) && (!((rows.getD n []).any λp=>decide (p.2 > 0)) && (List.range n).all λi=>wY W i (rows.getD i []) (rows.getD (i+1) []))))
def aD3(ps:List (Int×Int))(g:Int×Int->Int):List WP:=ps.map λx=>(x,g x)
def zG(H:Hp)(q:Addr)(p:WP):Prop:=∃b,H q=some (.tup [.ref b,.int p.2])/\H b=some (.tup [.int p.1.1,.int p.1.2])
theorem zG.same{H H':Hp}{q:Addr}{p:WP}(h:zG H q p)(s:aU H H'):zG H' q p:=let ⟨b,x,y⟩:=h;⟨b,s _ _ x,s _ _ y⟩
def jU(H:Hp)(e:Addr)(row:List WP):Prop:=∃qs:List Addr,H e=some (.lst (qs.map V.ref))/\RL (zG H) qs row
theorem jU.same{H H':Hp}{e:Addr}{row:List WP}(h:jU H e row)(s:aU H H'):jU H' e row:=let ⟨qs,a,r⟩:=h;⟨qs,s _ _ a,r.imp λ_ _ z=>z.same s⟩
structure vR(H:Hp)(t:Addr)(rows:List (List WP)):Prop where
 ex:∃es:List Addr,H t=some (.lst (es.map V.ref))/\RL (jU H) es rows
theorem vR.same{H H':Hp}{t:Addr}{rows:List (List WP)}(h:vR H t rows)(s:aU H H'):vR H' t rows:=let ⟨es,a,r⟩:=h.ex;⟨es,s _ _ a,r.imp λ_ _ z=>z.same s⟩
theorem vN{H:Hp}{qs:List Addr}{row:List WP}(h:RL (zG H) qs row):aGO H qs (enc row):=
 ⟨by rw[g0];exact h.len,λj q kv h1 h2=>by
  obtain⟨p,e,rfl⟩:=aD0 h2
  exact h.at_ j q p h1 e⟩
def aCg(K:W.Frag):Sp:=λvs H Q _=>∃(n:Int) (l d:Addr) (ws:List (Wy (Int×Int))) (pb:List WP),vs=[.int n,.ref l,.ref d]/\aDY κS H l ws/\H d=some (.dT (enc pb))/\ws.length<=10000/\∀H',aU H H'->Q (.bl (rX n ws pb)) H'
theorem aCh{P:Program}{w:World}{K:PySem.W.Frag}{mg:Str->Option Value}{base:Heap}{a:qA}(tx:Txt K mg a):cR P w K mg base lQ 1 a.mN a.mO ["number","ways","behind"] (aCg K):=by
 refine tx.rP.ok aB3 (λvs H Q E h=>?_) (λcdv A outer s H vs Q E hr h=>?_)
 ·obtain⟨n,l,d,ws,pb,rfl,_⟩:=h
  rfl
 ·obtain⟨n,l,d,ws,pb,rfl ,hw,hd,hlen,k⟩:=h
  have hu:=qJ hr
  refine bV (aJ (aR (aO (rc:=aFI K) (pW rfl) (by rfl) tx.v9 aAW (aB (cM (k:=3) (idx:=[2,0]) (N:=["choice","later","worth","behind","number"]) (dZ (sc:=aL fG) (NX:=["number","ways","behind"]) rfl rfl rfl (by decide +kernel)) rfl (bR (K':=K) (Z.pv 1)) (λ_ _ _ _=>(cT (K':=K) (n:=3) rfl (bF (aQ (i:=0) (show(["choice","later","worth","behind","number"]:List Str).Nodup by decide +kernel)) (bF (aQ (i:=1) (show(["choice","later","worth","behind","number"]:List Str).Nodup by decide +kernel)) (bF (aQ (i:=2) (show(["choice","later","worth","behind","number"]:List Str).Nodup by decide +kernel)) cS))))) (qI (cW (by decide) (cW (by decide) (cW (by decide) nJ)))) (λ_ _ _ _=>cK) (λ_ _ _ _=>(nE (fY (r:=aNL) (aNM hu) (Z.pv 1) (Z.pv 3) (by with_unfolding_all rfl)) (nC (fY aCx (Z.pv 4) (aM bY (Z.pv 2) (lM hu (Z.pv 3) (Z.pv 1))) (bP _)))))) aG)))) ?_
  obtain⟨as,gl,rl⟩:=hw.ex
  have las:=rl.len
  refine bK (σ:=[some (.int n),some (.ref l),some (.ref d)]) rfl ?_
  walk_at "w"
  refine iE (bU.of gl) ?_
  refine dP (xs:=as.map V.ref) (λj us H'=>H'=H/\us=(((ws.take j).map λw=>match kM pb w.2.1 with|some g=>decide (n<=w.2.2+g)|none=>false).map V.bl)) ⟨rfl,rfl⟩ (cO (by rw[cD];omega))
   (λj us H' hj ⟨e0,e1⟩=>⟨by rw[e0];exact bU.of gl,by rw[e1,cD,cD,uV];omega⟩) (λj v us H' hv z26q=>?_) (λus H' z27q=>?_)
  ·obtain⟨e0,e1⟩:=z26q
   subst e0
   obtain⟨a1,w,ea,rfl,ew,vv,g1,hp⟩:=rl.gt hv
   obtain⟨bv,rfl,hp'⟩:=hp
   have hg:=hU.t (k:=iH w.2.1) hd hp'
   rw[rW] at hg
   refine fB (iY.of g1) rfl ?_
   walk_at "w"
   refine aNN hg ?_
   cases eg:kM pb w.2.1 with
   |none=>
    repeat walk_at "gs"
    refine⟨rfl,?_⟩
    rw[e1,cY ew,iI,iI]
    simp[eg]
   |some g=>
    rw[eg] at hg
    repeat walk_at "gs"
    refine⟨d,_,rfl,hg,?_⟩
    walk_at "w"
    refine⟨rfl,?_⟩
    rw[e1,cY ew,iI,iI]
    simp[eg]
  obtain⟨e0,e1⟩:=z27q
  subst e0 e1
  rw[cD,las,Rb9]
  intro l2 n2
  obtain⟨H2,i2,s2,g2⟩:=nw _ n2;rw[i2]
  walk_at "w"
  refine⟨l2,_,rfl,bU.of g2,?_⟩
  walk_at "w"
  have z:=k H2 s2
  unfold rX at z
  rw[List.all_map]
  exact z
def aCi(K:PySem.W.Frag)(C:Addr->Sp->Prop):Sp:=λvs H Q _=>∃(h:Nat) (da db f:Addr) (pa pb:List WP) (W:Nat->Int×Int->List (Wy (Int×Int))) (L:Nat->Int×Int->Prop) (H0:Hp),vs=[.int (h:Int),.ref da,.ref db,.ref f]/\aU H0 H/\H0 da=none/\aGe κS C H0 f W L/\H da=some (.dT (enc pa))/\H db=some (.dT (enc pb))/\da≠db/\pa.length<=10000/\(∀p∈pa,L h p.1/\(W h p.1).length<=10000)/\
 ∀H',aU H H'->Q (.bl (wY W h pa pb)) H'
theorem aCj{P:Program}{w:World}{K:PySem.W.Frag}{mg:Str->Option Value}{base:Heap}{a:qA}(tx:Txt K mg a):cR P w K mg base lQ 10 a.mP a.mQ ["hour","ahead","behind","ways_at"] (aCi K (Clo P w K mg base (8+1))):=by
 have aD4:=aCh (P:=P) (w:=w) (base:=base) tx
 refine tx.rQ.ok aB4 (λvs H Q E h=>?_) (λcdv A outer s H vs Q E hr h=>?_)
 ·obtain⟨h,da,db,f,pa,pb,W,L,H0,rfl,_⟩:=h
  rfl
 ·obtain⟨h,da,db,f,pa,pb,W,L,H0,rfl ,s0,n0,hW,ga,gb,nab,hlen,hL,k⟩:=h
  have hu:=qJ hr
  refine bV (aJ (aR (zU (aO (rc:=aFI K) (pW rfl) (by rfl) tx.v9 aAW (aB (cM (k:=2) (idx:=[2,0,3]) (N:=["place","number","behind","hour","ways_at"]) (dZ (sc:=aL fH) (NX:=["hour","ahead","behind","ways_at"]) rfl rfl rfl (by decide +kernel)) rfl (aEI (Z.pv 1)) (λ_ _ _ _=>(cT (K':=K) (n:=2) rfl (bF (aQ (i:=0) (show(["place","number","behind","hour","ways_at"]:List Str).Nodup by decide +kernel)) (bF (aQ (i:=1) (show(["place","number","behind","hour","ways_at"]:List Str).Nodup by decide +kernel)) cS)))) (qI (cW (by decide) (cW (by decide) nJ))) (λ_ _ _ _=>cK) (λ_ _ _ _=>(zq1 aD4 hr tx.xZ tx.rP.kp tx.xY (aB (Z.pv 1) (aB (aEM (P:=P) (w:=w) (K:=K) (mg:=mg) (base:=base) (i:=4) (k:=8+1) (hr.mono (by decide)) (aB (Z.pv 3) (aB (Z.pv 0) aG))) (aB (Z.pv 2) aG)))))) aG))))) ?_
  obtain⟨spc,hC,hp⟩:=hW.ex
  refine bK (σ:=[some (.int (h:Int)),some (.ref da),some (.ref db),some (.ref f)]) rfl ?_
  walk_at "w"
  refine aO2 ga λo=>?_
  obtain⟨H1,i1,k1,g1⟩:=wr H da _;rw[i1]
  have s01:aU H0 H1:=λb u e=>k1 _ _ (s0 _ _ e) (bQ n0 e)
  have gb1:=k1 _ _ gb (Ne.symm nab)
  refine aEU (kvs:=enc pa) (λj us H'=>aU H1 H'/\us=(((pa.take j).map λp=>rX p.2 (W h p.1) pb).map V.bl)) ⟨aU.refl _,rfl⟩ (cO (by rw[g0];omega))
   (λj us H' hj ⟨s',e⟩=>⟨s' _ _ g1,by rw[e,cD,cD,uV];omega⟩) (λj kv us H' T bT hkv z28q nT hbT=>?_) (λus H' z29q=>?_)
  ·obtain⟨s',e⟩:=z28q
   obtain⟨p,ep,rfl⟩:=aD0 hkv
   obtain⟨l1,l2⟩:=hL p (iW ep)
   obtain⟨H2,i2,s2,g2⟩:=nw _ nT;rw[i2]
   refine fB (iY.of g2) rfl ?_
   walk_at "w"
   refine aJs rfl hC ?_
   walk_at "w"
   have s02:=s'.trans s2
   refine hp H2 h _ p.1 _ (s01.trans s02) l1 ⟨bT,rfl,s2 _ _ hbT⟩ λl H3 s3 hws=>?_
   have s03:=s02.trans s3
   walk_at "w"
   refine⟨p.2,l,db,W h p.1,pb,rfl,hws,s03 _ _ gb1,l2,λH4 s4=>?_⟩
   walk_at "w"
   refine⟨s03.trans s4,?_⟩
   rw[e,cY ep,iI,iI]
   rfl
  ·obtain⟨s',e⟩:=z29q
   subst e
   rw[g0,Rb9]
   intro l2 n2
   obtain⟨H2,i2,s2,g2⟩:=nw _ n2;rw[i2]
   walk_at "w"
   refine⟨l2,_,rfl,bU.of g2,?_⟩
   walk_at "w"
   refine⟨da,enc pa,ga,o,s2 _ _ (s' _ _ g1),?_⟩
   rw[List.all_map]
   refine k _ λb u e=>?_
   by_cases eb:b=da
   ·subst eb
    rw[aT,<-ga]
    exact e
   ·rw[bB eb]
    exact s2 _ _ (s' _ _ (k1 _ _ e eb))
def uS(K:PySem.W.Frag)(C:Addr->Sp->Prop):Sp:=λvs H Q _=>∃(bx:Addr) (x:Int×Int) (n:Nat) (t f:Addr) (num:Int) (rows:List (List WP)) (W:Nat->Int×Int->List (Wy (Int×Int))) (L:Nat->Int×Int->Prop),vs=[.ref bx,.int (n:Int),.ref t,.int num,.ref f]/\H bx=some (.tup [.int x.1,.int x.2])/\vR H t rows/\aGe κS C H f W L/\rows.length<=10000/\n<=10000/\(∀row∈rows,row.length<=1000)/\(∀(i:Nat) row p,rows[i]?=some row->i < n->p∈row->L i p.1/\(W i p.1).length<=10000)/\
 ∀H',aU H H'->Q (.bl (nZ W x n rows num)) H'
theorem aBE{P:Program}{w:World}{K:PySem.W.Frag}{mg:Str->Option Value}{base:Heap}{a:qA}(tx:Txt K mg a):cR P w K mg base lQ 11 a.kR a.kS ["place","hours","table","number","ways_at"] (uS K (Clo P w K mg base (8+1))):=by
 have aD5:=aCj (P:=P) (w:=w) (base:=base) tx
 refine tx.pF.ok tI (λvs H Q E h=>?_) (λcdv A outer s H vs Q E hr h=>?_)
 ·obtain⟨bx,x,n,t,f,num,rows,W,L,rfl,_⟩:=h
  rfl
 ·obtain⟨bx,x,n,t,f,num,rows,W,L,rfl ,hbx,ht,hW,hlen,hn,hrow,hL,k⟩:=h
  have hu:=qJ hr
  refine bV (aH (bH (aZ (r:=yW K) (sZ hu) (aO (rc:=lK K) cB (by rfl) tx.dX dI (aB (Z.pv 2) aG)) (aM bY (Z.pv 1) aF) (bP _)) (aJ (aR cU)) aY)
   (aH (y3 (i:=5) tI.nd rfl (Or.inr rfl) (cM (k:=1) (idx:=[]) (N:=["entries"]) (dZ (sc:=aL cP) (NX:=["place","hours","table","number","ways_at","numbers"]) rfl rfl rfl (by decide +kernel)) rfl (bR (K':=K) (Z.pv 2)) (λ_ _ _ _=>(aQ (i:=0) (show(["entries"]:List Str).Nodup by decide +kernel))) (eN (by decide)) (λ_ _ _ _=>cK) (λ_ _ _ _=>(cH (rc:=y9) (qT rfl hu) (by rfl) tx.rV aAF (aB (Z.pv 0) aG)))))
   (aH (bH (aZ (r:=yW K) (sZ hu) (cM (k:=1) (idx:=[]) (N:=["named"]) (dZ (sc:=aL cP) (NX:=["place","hours","table","number","ways_at","numbers"]) rfl rfl rfl (by decide +kernel)) rfl (bR (K':=K) (Z.pv 5)) (λ_ _ _ _=>(aQ (i:=0) (show(["named"]:List Str).Nodup by decide +kernel))) (eN (by decide)) (λ_ _ _ _=>cK) (λ_ _ _ _=>(aO (rc:=aJQ) aHM (by rfl) tx.dX dI (aB (Z.pv 0) aG)))) (cM (k:=1) (idx:=[]) (N:=["entries"]) (dZ (sc:=aL cP) (NX:=["place","hours","table","number","ways_at","numbers"]) rfl rfl rfl (by decide +kernel)) rfl (bR (K':=K) (Z.pv 2)) (λ_ _ _ _=>(aQ (i:=0) (show(["entries"]:List Str).Nodup by decide +kernel))) (eN (by decide)) (λ_ _ _ _=>cK) (λ_ _ _ _=>(aO (rc:=lK K) cB (by rfl) tx.dX dI (aB (Z.pv 0) aG)))) (bP _)) (aJ (aR cU)) aY)
   (aH (bH (aZ (r:=yW K) (sZ hu) (aEO hu (aN (K':=K) (Z.pv 5) aF) (Z.pv 0)) (Z.pv 3) (bP _)) (aJ (aR cU)) aY)
   (aH (bH (d9 (zU (aO (rc:=aO1 K) (aHv rfl) (by rfl) tx.aCS aM5 (aB (cM (k:=1) (idx:=[]) (N:=["last"]) (dZ (sc:=aL cP) (NX:=["place","hours","table","number","ways_at","numbers"]) rfl rfl rfl (by decide +kernel)) rfl (aEV (aN (K':=K) (Z.pv 5) (Z.pv 1))) (λ_ _ _ _=>(aQ (i:=0) (show(["last"]:List Str).Nodup by decide +kernel))) (eN (by decide)) (λ_ _ _ _=>cK) (λ_ _ _ _=>(fY xA (Z.pv 0) aF (bP _)))) aG)))) (aJ (aR cU)) aY)
   (aJ (aR (aO (rc:=aFI K) (pW rfl) (by rfl) tx.v9 aAW (aB (cM (k:=1) (idx:=[5,4]) (N:=["hour","numbers","ways_at"]) (dZ (sc:=aL cP) (NX:=["place","hours","table","number","ways_at","numbers"]) rfl rfl rfl (by decide +kernel)) rfl (dO (by rfl) tx.fK (aB (Z.pv 1) aG)) (λ_ _ _ _=>(aQ (i:=0) (show(["hour","numbers","ways_at"]:List Str).Nodup by decide +kernel))) (eN (by decide)) (λ_ _ _ _=>cK) (λ_ _ _ _=>(zq1 aD5 hr tx.yA tx.rQ.kp tx.x8 (aB (Z.pv 0) (aB (aN (K':=K) (Z.pv 1) (Z.pv 0)) (aB (aN (K':=K) (Z.pv 1) (aM bY (Z.pv 0) aF)) (aB (Z.pv 2) aG))))))) aG))))))))) ?_
  obtain⟨es,gt,re⟩:=ht.ex
  have les:=re.len
  refine bK (σ:=[some (.ref bx),some (.int (n:Int)),some (.ref t),some (.int num),some (.ref f),none]) rfl ?_
  walk_at "w"
  have out:∀(H':Hp),aU H H'->nZ W x n rows num=false->Q (.bl false) H':=λH' s' e=>by rw[<-e];exact k H' s'
  refine oE (λhne=>?_) (λheq=>?_)
  ·walk_at "w"
   refine out H (aU.refl _) ?_
   unfold nZ
   rw[decide_eq_false (λz=>hne (by rw[cD,les,z];push_cast;rfl)),Rx9]
  have hrl:rows.length=n+1:=by rw[cD,les] at heq;omega
  walk_at "w"
  refine iE (bU.of gt) ?_
  refine dP (xs:=es.map V.ref) (λj us H'=>aU H H'/\∃ds:List Addr,us=ds.map V.ref/\(∀d∈ds,H d=none)/\ds.Nodup/\RL (λd row=>H' d=some (.dT (eO (enc row)))) ds (rows.take j)) ⟨aU.refl _,[],rfl,(λd h=>by cases h),Sy9,RL.nil⟩ (cO (by rw[cD];omega))
   (λj us H' hj ⟨s',ds,e,_,_,r⟩=>⟨bU.of (s' _ _ gt),by rw[e,cD,r.len,uV];omega⟩) (λj v us H' hv z30q=>?_) (λus H1 z31q=>?_)
  ·obtain⟨s',ds,e,nd,dd,r⟩:=z30q
   obtain⟨e1,row,ee,rfl,er,hr⟩:=re.gt hv
   obtain⟨qs,gq,rq⟩:=hr.same s'
   have lq:=rq.len
   have hr1:=hrow row (iW er)
   walk_at "w"
   refine xM gq (vN rq) (by omega) λp np=>?_
   obtain⟨H2,i2,s2,g2⟩:=nw _ np;rw[i2]
   refine⟨s'.trans s2,ds ++ [p],by rw[e,iI];rfl,λd hd=>?_,?_,?_⟩
   ·rcases Rf9.mp hd with z|z
    ·exact nd d z
    ·rw[zJ.mp z];exact s'.free np
   ·rw[Sn9]
    refine⟨dd,by simp,λa ha b hb z=>?_⟩
    rw[zJ.mp hb] at z
    subst z
    obtain⟨j2,ej⟩:=Rm9 ha
    have lj:j2 < (rows.take j).length:=by rw[<-r.len];exact(lG.mp ej).1
    have:=r.at_ j2 a _ ej (dF lj)
    rw[np] at this
    cases this
   ·rw[cY er]
    exact RL.snoc (r.imp λ_ _ z=>s2 _ _ z) g2
  obtain⟨s1,ds,e,nd,dd,r⟩:=z31q
  rw[cD,les,Rb9] at r
  have lds:=r.len
  subst e
  intro la nla
  obtain⟨H2,i2,s2,g2⟩:=nw _ nla;rw[i2]
  have s02:=s1.trans s2
  have r2:RL (λd row=>H2 d=some (.dT (eO (enc row)))) ds rows:=r.imp λ_ _ z=>s2 _ _ z
  walk_at "w"
  refine iE (bU.of g2) ?_
  refine dP (xs:=ds.map V.ref) (λj us H'=>H'=H2/\us=(((rows.take j).map λrow=>((eO (enc row)).length:Int)).map V.int)) ⟨rfl,rfl⟩ (cO (by rw[cD];omega))
   (λj us H' hj ⟨e0,e1⟩=>⟨by rw[e0];exact bU.of g2,by rw[e1,cD,cD,uV];omega⟩) (λj v us H' hv z32q=>?_) (λus H' z33q=>?_)
  ·obtain⟨e0,e1⟩:=z32q
   subst e0
   obtain⟨d1,row,ed,rfl,er,gd⟩:=r2.gt hv
   walk_at "w"
   refine aLF gd ?_
   refine⟨rfl,?_⟩
   rw[e1,cY er,iI,iI]
   rfl
  obtain⟨e0,e1⟩:=z33q
  subst e0 e1
  rw[cD,lds,Rb9]
  intro la3 n3
  obtain⟨H3,i3,s3,g3⟩:=nw _ n3;rw[i3]
  have s03:=s02.trans s3
  walk_at "w"
  refine iE (bU.of (s03 _ _ gt)) ?_
  refine dP (xs:=es.map V.ref) (λj us H'=>H'=H3/\us=(((rows.take j).map λrow=>(row.length:Int)).map V.int)) ⟨rfl,rfl⟩ (cO (by rw[cD];omega))
   (λj us H' hj ⟨e0,e1⟩=>⟨by rw[e0];exact bU.of (s03 _ _ gt),by rw[e1,cD,cD,uV];omega⟩) (λj v us H' hv z34q=>?_) (λus H' z35q=>?_)
  ·obtain⟨e0,e1⟩:=z34q
   subst e0
   obtain⟨e2,row,ee,rfl,er,hr⟩:=re.gt hv
   obtain⟨qs,gq,rq⟩:=hr.same s03
   walk_at "w"
   refine⟨rfl,?_⟩
   rw[e1,cY er,iI,iI,cD,rq.len]
   rfl
  obtain⟨e0,e1⟩:=z35q
  subst e0 e1
  rw[cD,les,Rb9]
  intro la4 n4
  obtain⟨H4,i4,s4,g4⟩:=nw _ n4;rw[i4]
  have s04:=s03.trans s4
  walk_at "w"
  refine aDi (bU.of (s4 _ _ g3)) (bU.of g4) ?_
  walk_at "w"
  refine oE (λhne=>?_) (λheq2=>?_)
  ·walk_at "w"
   refine out H4 s04 ?_
   unfold nZ
   have z:rows.all iP=false:=by
    cases q:rows.all iP with
    |false=>rfl
    |true=>
     refine absurd (Tq9 λrow hr=>?_) hne
     have y:=of_decide_eq_true (Ry9.mp q row hr)
     rw[y]
   rw[z,Rx9,Rh9]
  have hok:∀row∈rows,iP row=true:=λrow hr=>by
   have y:=List.map_inj_left.mp heq2 row hr
   exact decide_eq_true (by omega)
  have hall:rows.all iP=true:=Ry9.mpr hok
  have r4:RL (λd row=>H4 d=some (.dT (enc row))) ds rows:=⟨r2.len,λj d row h1 h2=>by
   have z:=r2.at_ j d row h1 h2
   rw[zF (hok row (iW h2))] at z
   exact(s3.trans s4) _ _ z⟩
  have ga4:=(s3.trans s4) _ _ g2
  have ed0:ds[0]?=some ds[0]:=dF (by omega)
  have er0:rows[0]?=some rows[0]:=dF (by omega)
  have gd0:=r4.at_ 0 _ _ ed0 er0
  have e00:rows.getD 0 []=rows[0]:=by rw[Qo9,er0];rfl
  generalize ds[0]=d0 at ed0 gd0
  generalize rows[0]=row0 at er0 gd0 e00
  have ix0:p9 (ds.map V.ref) 0=some (.ref d0):=dA (j:=0) (fL ed0)
  have hg0:=hU.t (k:=iH x) gd0 (show H4 bx=some (.tup ((iH x).map kV)) from s04 _ _ hbx)
  rw[rW] at hg0
  walk_at "w"
  refine⟨d0,rfl,.inr ⟨_,.inl gd0⟩,?_⟩
  walk_at "w"
  refine⟨_,hg0,?_⟩
  have key:∀(Q2:VK),Q2 (.bl (!decide (kM row0 x=some num))) H4->yW K (((kM row0 x).map V.int).getD .non) (.int num) H4 Q2:=λQ2 q=>by
   cases eg:kM row0 x with
   |none=>
    rw[eg] at q
    exact aIS rfl rfl q
   |some g=>
    rw[eg] at q
    refine aIX ?_
    rw[show decide (g=num)=decide (some g=some num) by rw[Bool.eq_iff_iff];simp]
    exact q
  walk_at "w"
  refine key _ ?_
  walk_at "w"
  refine oE (λhne=>?_) (λheq3=>?_)
  ·walk_at "w"
   refine out H4 s04 ?_
   unfold nZ
   rw[e00,decide_eq_false hne,Rx9,Rh9,Rh9]
  have edn:ds[n]?=some ds[n]:=dF (by omega)
  have ern:rows[n]?=some rows[n]:=dF (by omega)
  have gdn:=r4.at_ n _ _ edn ern
  have enn:rows.getD n []=rows[n]:=by rw[Qo9,ern];rfl
  generalize ds[n]=dn at edn gdn
  generalize rows[n]=rown at ern gdn enn
  have lrn:=hrow rown (iW ern)
  have ixn:p9 (ds.map V.ref) (n:Int)=some (.ref dn):=dA (fL edn)
  walk_at "w"
  refine aPb gdn λo=>?_
  obtain⟨H5,i5,k5,g5⟩:=wr H4 dn _;rw[i5]
  refine aF3 (kvs:=enc rown) (λj us H'=>H'=H5/\us=(((rown.take j).map λp=>decide (p.2 > 0)).map V.bl)) ⟨rfl,rfl⟩ (cO (by rw[g0];omega))
   (λj us H' hj ⟨e0,e1⟩=>⟨by rw[e0];exact g5,by rw[e1,cD,cD,uV];omega⟩) (λj kv us H' hkv z36q=>?_) (λus H' z37q=>?_)
  ·obtain⟨e0,e1⟩:=z36q
   subst e0
   obtain⟨p,ep,rfl⟩:=aD0 hkv
   walk_at "w"
   refine⟨rfl,?_⟩
   rw[e1,cY ep,iI,iI]
   rfl
  obtain⟨e0,e1⟩:=z37q
  subst e0 e1
  rw[g0,Rb9]
  intro la6 n6
  obtain⟨H6,i6,s6,g6⟩:=nw _ n6;rw[i6]
  walk_at "w"
  refine⟨la6,_,rfl,bU.of g6,?_⟩
  walk_at "w"
  refine⟨dn,enc rown,gdn,o,s6 _ _ g5,?_⟩
  generalize hH7:upd H6 dn (.dT (enc rown))=H7
  have s47:aU H4 H7:=λb u e=>by
   rw[<-hH7]
   by_cases eb:b=dn
   ·subst eb
    rw[aT,<-gdn]
    exact e
   ·rw[bB eb]
    exact s6 _ _ (k5 _ _ e eb)
  have s07:=s04.trans s47
  rw[List.any_map]
  cases eany:rown.any (id ∘ λp=>decide (p.2 > 0)) with
  |true=>
   repeat walk_at "gs"
   refine out H7 s07 ?_
   unfold nZ
   rw[enn,show(rown.any λp=>decide (p.2 > 0))=true from eany,Td9,Rx9,Rh9,Rh9,Rh9]
  |false=>
   repeat walk_at "gs"
   have ga7:=s47 _ _ ga4
   have r7:RL (λd row=>H7 d=some (.dT (enc row))) ds rows:=r4.imp λ_ _ z=>s47 _ _ z
   refine⟨by omega,by omega,?_⟩
   rw[Ru9]
   refine aAV (λi us H'=>aU H7 H'/\us=(((List.range i).map λi=>wY W i (rows.getD i []) (rows.getD (i+1) [])).map V.bl)) ⟨aU.refl _,rfl⟩ (cO (by omega)) (λi us H' hi ⟨s',e⟩=>by rw[e,cD,cD,List.length_range];omega) (λi us H' hi z38q=>?_) (λus H' z39q=>?_)
   ·obtain⟨s',e⟩:=z38q
    have ed1:ds[i]?=some ds[i]:=dF (by omega)
    have ed2:ds[i+1]?=some ds[i+1]:=dF (by omega)
    have er1:rows[i]?=some rows[i]:=dF (by omega)
    have er2:rows[i+1]?=some rows[i+1]:=dF (by omega)
    have gd1:=r7.at_ i _ _ ed1 er1
    have gd2:=r7.at_ (i+1) _ _ ed2 er2
    have n12:ds[i]≠ds[i+1]:=λz=>by
     have:=(Ug9 dd).mp z
     omega
    have f1:rows.getD i []=rows[i]:=by rw[Qo9,er1];rfl
    have f2:rows.getD (i+1) []=rows[i+1]:=by rw[Qo9,er2];rfl
    have nd1:=nd ds[i] (Rk9 _)
    generalize ds[i]=dx at ed1 gd1 n12 nd1
    generalize ds[i+1]=dy at ed2 gd2 n12
    generalize rows[i]=rx at er1 gd1 f1
    generalize rows[i+1]=ry at er2 gd2 f2
    have ga':=s' _ _ ga7
    have ix1:p9 (ds.map V.ref) (0+(i:Int))=some (.ref dx):=by rw[show(0+(i:Int))=(i:Int) by omega];exact dA (fL ed1)
    have ix2:p9 (ds.map V.ref) (0+(i:Int)+1)=some (.ref dy):=by
     rw[show(0+(i:Int))+1=((i+1:Nat):Int) by push_cast;omega]
     exact dA (fL ed2)
    walk_at "w"
    refine⟨i,dx,dy,f,rx,ry,W,L,H,by rw[show(0+(i:Int))=(i:Int) by omega],s07.trans s',nd1,hW,s' _ _ gd1,s' _ _ gd2,n12,zK (hrow rx (iW er1)) (by decide),λp hp=>hL i rx p er1 hi hp,λH8 s8=>?_⟩
    walk_at "w"
    refine⟨s'.trans s8,?_⟩
    rw[e,List.range_succ,iI,iI,<-f1,<-f2]
    rfl
   ·obtain⟨s',e⟩:=z39q
    subst e
    intro la8 n8
    obtain⟨H8,i8,s8,g8⟩:=nw _ n8;rw[i8]
    walk_at "w"
    refine⟨la8,_,rfl,bU.of g8,?_⟩
    walk_at "w"
    have z:=k H8 (s07.trans (s'.trans s8))
    unfold nZ at z
    rw[decide_eq_true hrl,hall,e00,decide_eq_true heq3,enn,show(rown.any λp=>decide (p.2 > 0))=false from eany] at z
    rw[List.all_map]
    simpa using z
def tbS(m:MS)(ps:List Int)(Ls:List (List (Int×Int))):List (List WP):=(List.range Ls.length).map λi=>aD3 (Ls.getD i []) (wF (Wr m ps) (Ls.length - 1 - i) i)
theorem yG(m:MS)(ps:List Int)(Ls:List (List (Int×Int))):(tbS m ps Ls).length=Ls.length:=by unfold tbS;rw[cD,List.length_range]
theorem aN8{m:MS}{qs:List Int}{Ls:List (List (Int×Int))}{i:Nat}{ps:List (Int×Int)}(h:Ls[i]?=some ps):(tbS m qs Ls)[i]?=some (aD3 ps (wF (Wr m qs) (Ls.length - 1 - i) i)):=by
 have hi:=(lG.mp h).1
 unfold tbS
 rw[qB,List.getElem?_range hi]
 show some (aD3 (Ls.getD i []) _)=_
 rw[Qo9,h]
 rfl
theorem aJ8{m:MS}{qs:List Int}{Ls:List (List (Int×Int))}{i:Nat}{row:List WP}(h:(tbS m qs Ls)[i]?=some row):∃ps,Ls[i]?=some ps/\row=aD3 ps (wF (Wr m qs) (Ls.length - 1 - i) i):=by
 have li:i < Ls.length:=by rw[<-yG m qs];exact(lG.mp h).1
 have ei:Ls[i]?=some Ls[i]:=dF li
 rw[aN8 ei] at h
 cases h
 exact⟨_,ei,rfl⟩
def aD6(K:W.Frag)(C t:Addr):Sp:=λvs H Q _=>∃(x:Addr) (m:MS) (b:Addr) (a:Int×Int) (q tb:Addr) (ps:List Int) (rows:List (List WP)) (num:Int),vs=[.ref x,.ref b,.ref q,.ref tb,.int num]/\H t=some (.ctb jS jT)/\dW C H x m/\m.Good/\H b=some (.tup [.int a.1,.int a.2])/\H q=some (.lst (ps.map V.int))/\(∀n∈ps,Am n)/\ps.length<=48/\vR H tb rows/\rows.length<=1000/\(∀row∈rows,row.length<=1000/\∀p∈row,St0 p.1.1 p.1.2)/\
 ∀H',aU H H'->Q (.bl (nZ (Wr m ps) a ps.length rows num)) H'
theorem aD7{P:Program}{w:World}{K:PySem.W.Frag}{mg:Str->Option Value}{base:Heap}{a:qA}(tx:Txt K mg a):cR P w K mg base lQ 12 a.oW a.lN ["machine","state","prices","table","number"] (aD6 K a.bS a.lO):=by
 have aBF:=λbase':Heap=>aBE (P:=P) (w:=w) (base:=base') tx
 refine tx.t9.okC tx.uJ aDE (λvs H Q E h=>?_) (λA outer s H vs Q E hr h=>?_)
 ·obtain⟨x,m,b,st,q,tb,ps,rows,num,rfl,_⟩:=h
  rfl
 ·obtain⟨x,m,b,st,q,tb,ps,rows,num,rfl ,gt,hm,hg,hb,hq,ha,hl,htb,hlen,hrow,k⟩:=h
  have hu:=qJ hr
  refine bV (aJ (aR (aEL (psL:=["hour","place"]) (N:=["hour","place","machine","prices"]) (idx:=[0,2]) (sp:=λC=>uS K C) (kc:=8) (aBF) (hr.mono (by decide)) (by rfl) tx.vU tx.pF.kp tx.vT (λ_=>rfl) (dZ (sc:=aL eW) (NX:=["machine","state","prices","table","number"]) rfl rfl rfl (by decide +kernel)) rfl rfl rfl rfl (λ_ _ _ _ us hl=>by obtain⟨_,_,rfl⟩:=ar2 us hl;rfl) (qS (Z.pv 1) (qS (aO (rc:=lK K) cB (by rfl) tx.dX dI (aB (Z.pv 2) aG)) (qS (Z.pv 3) (qS (Z.pv 4) (aFW (N:=["hour","place","machine","prices"]) (n:=2) (idx:=[0,2]) rfl tx.uJ.hd rfl rfl (dZ (sc:=aL eW) (NX:=["machine","state","prices","table","number"]) rfl rfl rfl (by decide +kernel))))))) (λ_ _ _ _ _ _ _ _ hr hu=>(aK (aD1 tx) (hr.mono (by decide)) (by rfl) tx.aAc tx.tZ.kp tx.aAb .nil bG (aB (Z.pv 2) (aB (Z.pv 1) (aB (aN (K':=K) (Z.pv 3) (Z.pv 0)) aG)))))))) ?_
  refine bK (σ:=[some (.ref x),some (.ref b),some (.ref q),some (.ref tb),some (.int num)]) rfl ?_
  walk_at "w"
  refine⟨gt,λf c' H3 Cc s3 hc hC=>?_⟩
  refine⟨b,st,ps.length,tb,f,num,rows,Wr m ps,_,by simp,s3 _ _ hb,htb.same s3,aHV (K:=K) (a:=a) Cc f _ hC (hm.same s3) hg (s3 _ _ hq) ha (λH' h b' p Q s' gq hp hsp=>?_),by omega,by omega,λrow hr=>(hrow row hr).1,λi row p er hi hp=>?_,λH4 s4=>?_⟩
  ·refine⟨s' _ _ hc,rfl,?_⟩
   refine aN7 (σ:=[some (.int (h:Int)),some (.ref b'),some (.ref x),some (.ref q)]) rfl ?_
   walk_at "w"
   exact hsp
  ·exact⟨⟨hi,(hrow row (iW er)).2 p hp⟩,zK (aDZ ..) (by decide)⟩
  ·walk_at "w"
   exact k H4 (s3.trans s4)
def aCk(K:W.Frag):Sp:=λvs H Q _=>∃(p b:Addr) (x y M:Int),vs=[.ref p,.ref b,.int M]/\bJ H p/\H b=some (.lst [.int x,.int y])/\1<=y/\y<=50000000000/\Am M/\
 ∀(r:Int) H',Am r->bJ H' p->cE p H H'->dY p H H'->Q (.int r) H'
theorem aCl{P:Program}{w:World}{K:PySem.W.Frag}{mg:Str->Option Value}{base:Heap}{a:qA}(tx:Txt K mg a):cR P w K mg base lQ 2 a.mR a.mS ["_law_hand","_law_by","_law_most"] (aCk K):=by
 have aS:=dN (P:=P) (w:=w) (base:=base) tx
 refine tx.mY.ok aB5 (λvs H Q E h=>?_) (λcdv A outer s H vs Q E hr h=>?_)
 ·obtain⟨p,b,x,y,M,rfl,_⟩:=h
  rfl
 ·obtain⟨p,b,x,y,M,rfl ,hh,hb,y0,y1,hM,k⟩:=h
  have hu:=qJ hr
  refine bV (aJ (aR (aO (pU rfl) (by rfl) tx.uK yV (aB (aO (jZ rfl) (by rfl) tx.sE wG (aB aF (aB (aM eZ (aM bY (aM cJ (aN (K':=K) (Z.pv 1) aF) (zq1 aS hr tx.aX tx.aV.kp tx.aW (aB (Z.pv 0) (aB aF aG)))) (zq1 aS hr tx.aX tx.aV.kp tx.aW (aB (Z.pv 0) (aB aF aG)))) aF) aG))) (aB (Z.pv 2) aG))))) ?_
  obtain⟨m0,m1⟩:=hM
  have bp:b≠p:=hh.aJX hb (by simp)
  refine bK (σ:=[some (.ref p),some (.ref b),some (.int M)]) rfl ?_
  walk_at "w"
  refine⟨p,_,rfl,hh,by decide,by decide,λr1 H1 a1 b1 h1 k1 q1=>?_⟩
  walk_at "w"
  refine⟨p,_,rfl,h1,by decide,by decide,λr2 H2 a2 b2 h2 k2 q2=>?_⟩
  walk_at "w"
  exact k _ _ ⟨by omega,by omega⟩ h2 (k1.trans k2) (q1.trans q2)
def OV(H:Hp)(v:V):Option (Int×Int)->Prop
 |none=>v=.non
 |some s=>∃T,v=.ref T/\H T=some (.tup [.int s.1,.int s.2])
theorem OV.same{H H':Hp}{v:V}:∀{o:Option (Int×Int)},OV H v o->aU H H'->OV H' v o
 |none,h,_=>h
 |some _,⟨T,e,g⟩,s=>⟨T,e,s _ _ g⟩
def aD8(m:MS)(q:Int×Int)(on:Int):Option (Int×Int):=if q.1=on\/q.2=0 then some (o7 m q.1 q.2 on) else none
def aCm(K:W.Frag):Sp:=λvs H Q _=>∃(s:Addr) (m:MS) (t:Addr) (o d on:Int),vs=[.ref s,.ref t,.int on]/\d8 H s m/\H t=some (.tup [.int o,.int d])/\Bit on/\Bit o/\0<=d/\
 ∀v H',aU H H'->OV H' v (aD8 m (o,d) on)->Q v H'
theorem pO{P:Program}{w:World}{K:PySem.W.Frag}{mg:Str->Option Value}{base:Heap}{a:qA}(tx:Txt K mg a):cR P w K mg base lQ 1 a.mT a.mU ["_law_spec_here","_law_state_here","_law_on"] (aCm K):=by
 refine tx.gZ.ok aB6 (λvs H Q E h=>?_) (λcdv A outer s H vs Q E hr h=>?_)
 ·obtain⟨s,m,t,o,d,on,rfl,_⟩:=h
  rfl
 ·obtain⟨s,m,t,o,d,on,rfl ,hs,ht,hon,ho,hd,kk⟩:=h
  have hu:=qJ hr
  refine bV (aH (bH (aZ (r:=jY K) (dR hu) (Z.pv 2) (aN (K':=K) (Z.pv 1) aF) (bP _)) (aJ (aR (cQ (Z.pv 2) (aO (jZ rfl) (by rfl) tx.sE wG (aB aF (aB (aM eZ (aN (K':=K) (Z.pv 1) aF) aF) aG)))))) aY)
   (aH (bH (aZ xA (aN (K':=K) (Z.pv 1) aF) aF (bP _)) (aJ (aR nB)) aY)
   (aJ (aR (cQ (Z.pv 2) (aM eZ (aN (K':=K) (aAH (aN (K':=K) (Z.pv 0) aF) (aN (K':=K) (Z.pv 0) aF)) (Z.pv 2)) aF)))))) ?_
  have k1:(o=on\/d=0)->∀T H',aU H H'->H T=none->H' T=some (.tup [.int (o7 m o d on).1,.int (o7 m o d on).2])->Q (.ref T) H':=λh T H' s _ g=>kk _ _ s (by unfold aD8;rw[if_pos h];exact⟨T,rfl,g⟩)
  have k2:¬(o=on\/d=0)->Q .non H:=λh=>kk _ _ (aU.refl _) (by unfold aD8;rw[if_neg h];rfl)
  obtain⟨pl,e1,_⟩:=hs.ex
  refine bK (σ:=[some (.ref s),some (.ref t),some (.int on)]) rfl ?_
  walk_at "w"
  refine cI (λh=>?_) (λh=>?_)
  ·have k3:=k1 (.inl h.symm)
   unfold o7 at k3
   rw[if_pos h.symm] at k3
   walk_at "w"
   rw[show max 0 (d - 1)=max (d - 1) 0 by omega]
   intro T nT
   walk_at "w"
   exact k3 _ _ (aU.new nT) nT aT
  ·walk_at "w"
   refine cI (λh1=>?_) (λh1=>?_)
   ·walk_at "w"
    exact k2 (λz=>by rcases z with z|z;exact h z.symm;omega)
   ·have k3:=k1 (.inr (by omega))
    unfold o7 at k3
    rw[if_neg (λz=>h z.symm)] at k3
    walk_at "w"
    intro l nl
    walk_at "w"
    have sl:=aU.new (o:=.lst [.int m.down,.int m.up]) nl
    rcases hon with rfl|rfl
    ·refine aDf (bU.of aT) rfl ?_
     rw[if_neg (by decide)] at k3
     walk_at "w"
     intro T nT
     walk_at "w"
     exact k3 _ _ (sl.trans (aU.new nT)) (sl.free nT) aT
    ·refine aDf (bU.of aT) rfl ?_
     rw[if_pos rfl] at k3
     walk_at "w"
     intro T nT
     walk_at "w"
     exact k3 _ _ (sl.trans (aU.new nT)) (sl.free nT) aT
theorem tS{H H':Hp}{qs:List Addr}{ts:List (List Int)}(h:d7 H qs ts)(s:aU H H'):d7 H' qs ts:=⟨h.len,λj q t x y=>⟨s _ _ (h.at_ j q t x y).1,(h.at_ j q t x y).2⟩⟩
def OVs(H:Hp)(vs:List V)(os:List (Option (Int×Int))):Prop:=vs.length=os.length/\∀(i:Nat) v o,vs[i]?=some v->os[i]?=some o->OV H v o
theorem OVs.same{H H':Hp}{vs:List V}{os:List (Option (Int×Int))}(h:OVs H vs os)(s:aU H H'):OVs H' vs os:=⟨h.1,λi v o x y=>(h.2 i v o x y).same s⟩
theorem OVs.app{H:Hp}{vs us:List V}{os qs:List (Option (Int×Int))}(h:OVs H vs os)(g:OVs H us qs):OVs H (vs++us) (os++qs):=by
 refine⟨by rw[sO,sO,h.1,g.1],λi v o x y=>?_⟩
 by_cases hi:i < vs.length
 ·rw[Qq9 hi] at x
  rw[Qq9 (by rw[<-h.1];exact hi)] at y
  exact h.2 i v o x y
 ·rw[Qz9 (by omega)] at x
  rw[Qz9 (by rw[<-h.1];omega),<-h.1] at y
  exact g.2 _ v o x y
theorem OVs.two{H:Hp}{u v:V}{a b:Option (Int×Int)}(h:OV H u a)(g:OV H v b):OVs H [u,v] [a,b]:=⟨rfl,λi w o x y=>by
 match i,x,y with
 |0,x,y=>cases x;cases y;exact h
 |1,x,y=>cases x;cases y;exact g
 |_+2,x,_=>simp at x⟩
def nx(m:MS)(q:Int×Int):List (Option (Int×Int)):=[aD8 m q 0,aD8 m q 1]
theorem aJ9{m:MS}{ks:List (Int×Int)}{s:Int×Int}:some s∈ks.flatMap (nx m)↔∃q∈ks,On m q s:=by
 rw[List.mem_flatMap]
 have one:∀{q:Int×Int} {on:Int},some s=aD8 m q on↔(q.1=on\/q.2=0)/\s=o7 m q.1 q.2 on:=by
  intro q on
  unfold aD8
  by_cases c:q.1=on\/q.2=0
  ·rw[if_pos c]
   exact⟨λh=>⟨c,Option.some.inj h⟩,λh=>congrArg some h.2⟩
  ·rw[if_neg c]
   exact⟨(λh=>by cases h),λh=>absurd h.1 c⟩
 constructor
 ·rintro ⟨q,hq,h⟩
  refine⟨q,hq,?_⟩
  rcases lW.mp h with h|h
  ·obtain⟨c,e⟩:=one.mp h
   exact⟨0,.inl rfl,c,e⟩
  ·rcases lW.mp h with h|h
   ·obtain⟨c,e⟩:=one.mp h
    exact⟨1,.inr rfl,c,e⟩
   ·cases h
 ·rintro ⟨q,hq,on,b,c,e⟩
  refine⟨q,hq,?_⟩
  rcases b with rfl|rfl
  ·exact lW.mpr (.inl (one.mpr ⟨c,e⟩))
  ·exact lW.mpr (.inr (lW.mpr (.inl (one.mpr ⟨c,e⟩))))
theorem aGg(m:MS):∀ks:List (Int×Int),(ks.flatMap (nx m)).length=2*ks.length
 |[]=>rfl
 |k::ks=>by rw[List.flatMap_cons,sO,aGg m ks,yM];show 2+_=_;omega
def dd:List (List Int)->List (List Int)
 |[]=>[]
 |x::r=>if x∈dd r then dd r else x::dd r
theorem aBG:∀{l:List (List Int)}{x:List Int},x∈dd l↔x∈l
 |[],_=>Iff.rfl
 |y::r,x=>by
  unfold dd
  split
  ·rename_i h
   rw[aBG,lW]
   exact⟨.inr,λz=>by rcases z with z|z;rw[z];exact aBG.mp h;exact z⟩
  ·rw[lW,lW,aBG]
theorem aKa:∀l:List (List Int),(dd l).Nodup
 |[]=>Sy9
 |y::r=>by
  unfold dd
  split
  ·exact aKa r
  ·rename_i h
   exact Rs9.mpr ⟨h,aKa r⟩
def stL(s:Int×Int):List Int:=[s.1,s.2]
theorem aL3{m:MS}(g:m.Good){a:Int×Int}(h:St1 m a){n:Nat}{us:List (List Int)}(nd:us.Nodup)(hr:∀t∈us,∃s,t=stL s/\Rc m a n s):us.length<=25:=by
 have e:us=(us.map λu=>(u.getD 0 0,u.getD 1 0)).map stL:=by
  rw[Rp9]
  conv=>lhs;rw[<-List.map_id us]
  refine Tq9 λu hu=>?_
  obtain⟨s,rfl,_⟩:=hr u hu
  rfl
 have nd2:(us.map λu=>(u.getD 0 0,u.getD 1 0)).Nodup:=by
  rw[List.Nodup,Ri9]
  refine nd.imp_of_mem ?_
  intro x y hx hy hxy z
  obtain⟨s,rfl,_⟩:=hr x hx
  obtain⟨s',rfl,_⟩:=hr y hy
  refine hxy ?_
  injection z with z1 z2
  unfold stL
  rw[show s.1=s'.1 from z1,show s.2=s'.2 from z2]
 have:=Rc.few g h nd2 (n:=n) λk hk=>by
  obtain⟨u,hu,rfl⟩:=o8.mp hk
  obtain⟨s,rfl,hs⟩:=hr u hu
  exact hs
 rw[cD] at this
 exact this
theorem OVs.refs{H:Hp}:∀{vs:List V}{os:List (Option (Int×Int))},OVs H vs os->∃qs:List Addr,vs.filter (λv=>!decide (v=V.non))=qs.map V.ref/\d7 H qs ((os.filterMap id).map stL)
 |[],[],_=>⟨[],rfl,rfl,λj q t h=>by simp at h⟩
 |[],_::_,h=>by have:=h.1;simp at this
 |_::_,[],h=>by have:=h.1;simp at this
 |v::vs,o::os,h=>by
  obtain⟨qs,e1,e2⟩:=OVs.refs (vs:=vs) (os:=os) ⟨by have:=h.1;simpa using this,λi w o x y=>h.2 (i+1) w o x y⟩
  have h0:=h.2 0 v o rfl rfl
  cases o with
  |none=>
   have h0':v=.non:=h0
   subst h0'
   exact⟨qs,e1,e2⟩
  |some s=>
   obtain⟨T,rfl,g⟩:=h0
   refine⟨T::qs,by rw[Tx9 (by simp),e1];rfl,by have:=e2.len;simp[this],λj q t x y=>?_⟩
   cases j with
   |zero=>cases x;cases y;exact⟨g,by unfold stL;simp⟩
   |succ j=>exact e2.at_ j q t x y
theorem aKb{H:Hp}{qs:List Addr}{us ts:List (List Int)}(nd:ts.Nodup)(hf:∀t∈ts,∃s,t=stL s)(hT:d7 H qs us)(hp:us.Perm ts)(hs:us.Pairwise λa b=>sM b a=false) :
  ∃ks:List (Int×Int),ks.Pairwise sLt/\(∀s,s∈ks↔stL s∈ts)/\PVs κS H (qs.map V.ref) ks:=by
 have e:(ts.map λu=>(((u.getD 0 0,u.getD 1 0),0):WP)).map (λp=>[p.1.1,p.1.2])=ts:=by
  rw[Rp9]
  conv=>rhs;rw[<-List.map_id ts]
  refine Tq9 λu hu=>?_
  obtain⟨s,rfl⟩:=hf u hu
  rfl
 have nd2:((ts.map λu=>(((u.getD 0 0,u.getD 1 0),0):WP)).map (·.1)).Nodup:=by
  rw[Rp9,List.Nodup,Ri9]
  refine nd.imp_of_mem ?_
  intro x y hx hy hxy z
  obtain⟨s,rfl⟩:=hf x hx
  obtain⟨s',rfl⟩:=hf y hy
  refine hxy ?_
  have z1:=congrArg Prod.fst z
  have z2:=congrArg Prod.snd z
  unfold stL
  rw[show s.1=s'.1 from z1,show s.2=s'.2 from z2]
 obtain⟨ks,a1,a2,a3⟩:=aCd nd2 hT (by rw[e];exact hp) hs
 refine⟨ks,a1,λs=>?_,a3⟩
 rw[a2,Rp9,o8]
 constructor
 ·rintro ⟨u,hu,e⟩
  obtain⟨s',rfl⟩:=hf u hu
  rw[show s=s' from e.symm]
  exact hu
 ·intro h
  exact⟨stL s,h,rfl⟩
theorem aN9{H:Hp}{m:MS}{a:Int×Int}{n:Nat}{ks:List (Int×Int)}(hk:∀s,s∈ks↔Rc m a n s){t:List Int}:t∈((ks.flatMap (nx m)).filterMap id).map stL↔∃s,t=stL s/\Rc m a (n+1) s:=by
 rw[o8]
 have one:∀s,s∈(ks.flatMap (nx m)).filterMap id↔Rc m a (n+1) s:=λs=>by
  rw[Tt9]
  constructor
  ·rintro ⟨o,ho,e⟩
   have e':o=some s:=e
   rw[e',aJ9] at ho
   obtain⟨q,hq,h⟩:=ho
   exact⟨q,(hk q).mp hq,h⟩
  ·rintro ⟨q,hq,h⟩
   exact⟨some s,aJ9.mpr ⟨q,(hk q).mpr hq,h⟩,rfl⟩
 constructor
 ·rintro ⟨s,hs,e⟩
  exact⟨s,e.symm,(one s).mp hs⟩
 ·rintro ⟨s,e,hs⟩
  exact⟨s,(one s).mpr hs,e.symm⟩
theorem aPF(m:MS)(p:Int)(s:Int×Int):hw m p s 0=m.rest:=by
 show aHS m s.1 [0] - 0*gnT m p=_
 unfold aHS
 rw[show bgs s.1 [0] 0=[] by show(if (0:Int)=1/\s.1=0 then [((0:Nat):Int)] else []) ++ []=[];rw[if_neg (by omega)];rfl]
 simp
theorem aPG(m:MS)(p:Int){s:Int×Int}(b:Bit s.1):hw m p s 1=m.run+m.begin_*(1 - s.1) - gnT m p:=by
 show aHS m s.1 [1] - 1*gnT m p=_
 unfold aHS
 rcases b with b|b
 ·rw[show bgs s.1 [1] 0=[0] by show(if (1:Int)=1/\s.1=0 then [((0:Nat):Int)] else []) ++ []=[0];rw[if_pos ⟨rfl,b⟩];rfl,b]
  simp
  omega
 ·rw[show bgs s.1 [1] 0=[] by show(if (1:Int)=1/\s.1=0 then [((0:Nat):Int)] else []) ++ []=[];rw[if_neg (by omega)];rfl,b]
  simp
def aD9(K:W.Frag):Sp:=λvs H Q _=>∃(s:Addr) (m:MS) (t:Addr) (a:Int×Int) (p on:Int),vs=[.ref s,.ref t,.int p,.int on]/\d8 H s m/\m.Good/\H t=some (.tup [.int a.1,.int a.2])/\Bit a.1/\0<=p/\p<=1000000000001/\Bit on/\
 ∀H',aU H H'->Q (.int (hw m p a on)) H'
theorem yH{P:Program}{w:World}{K:PySem.W.Frag}{mg:Str->Option Value}{base:Heap}{a:qA}(tx:Txt K mg a):cR P w K mg base lQ 2 a.oX a.oY ["_law_spec_here","_law_state_here","_law_price_here","_law_on"] (aD9 K):=by
 have aFc:=aDO (P:=P) (w:=w) (base:=base) tx
 refine tx.o6.ok aDF (λvs H Q E h=>?_) (λcdv A outer s H vs Q E hr h=>?_)
 ·obtain⟨s,m,t,st,pr,on,rfl,_⟩:=h
  rfl
 ·obtain⟨s,m,t,st,pr,on,rfl ,hs,hg,ht,hb,p0,p1,bon,k⟩:=h
  have hu:=qJ hr
  refine bV (aH (bH (aZ (r:=jY K) (dR hu) (Z.pv 3) aF (bP _)) (aJ (aR (aN (K':=K) (Z.pv 0) aF))) aY)
   (aJ (aR (aM eZ (aM bY (aN (K':=K) (Z.pv 0) aF) (aM cJ (aN (K':=K) (Z.pv 0) aF) (aM eZ aF (aN (K':=K) (Z.pv 1) aF)))) (zq1 aFc hr tx.zZ tx.tU.kp tx.zY (aB (Z.pv 0) (aB (Z.pv 2) aG))))))) ?_
  obtain⟨pl,e1,_⟩:=hs.ex
  obtain⟨b0,b1⟩:=hg.begin_
  have bb:0<=st.1/\st.1<=1:=by rcases hb with z|z <;> omega
  obtain⟨bb0,bb1⟩:=bb
  refine bK (σ:=[some (.ref s),some (.ref t),some (.int pr),some (.int on)]) rfl ?_
  walk_at "w"
  rcases bon with rfl|rfl
  ·repeat walk_at "gs"
   rw[aPF] at k
   exact k H (aU.refl _)
  ·repeat walk_at "gs"
   refine⟨s,m,pr,rfl,hs,hg,p0,p1,λH1 s1=>?_⟩
   walk_at "w"
   rw[aPG m pr hb] at k
   exact k H1 s1
theorem aAN{r:Int}{n:Nat}(h0:0<=r)(hn:0 < n):∃j:Nat,j < n/\r % (n:Int)=(j:Int):=by
 have e1:=Tk9 r (b:=(n:Int)) (by omega)
 have e2:=Sw9 r (b:=(n:Int)) (by omega)
 exact⟨(r % (n:Int)).toNat,by omega,by omega⟩
def aBH(K:W.Frag):Sp:=λvs H Q _=>∃(p s b:Addr) (m:MS) (x y:Int) (n:Nat),vs=[.ref p,.ref s,.ref b,.int (n:Int)]/\bJ H p/\d8 H s m/\m.Good/\H b=some (.lst [.int x,.int y])/\1<=y/\y<=50000000000/\n<=48/\
 ∀(q:Addr) (ps:List Int) (H':Hp),H' q=some (.lst (ps.map V.int))->ps.length=n->(∀r∈ps,Am r)->H q=none->bJ H' p->cE p H H'->Q (.ref q) H'
theorem aBI{P:Program}{w:World}{K:PySem.W.Frag}{mg:Str->Option Value}{base:Heap}{a:qA}(tx:Txt K mg a):cR P w K mg base lQ 3 a.kT a.kU ["_law_hand","_law_spec_here","_law_by","_law_hours"] (aBH K):=by
 have aS:=dN (P:=P) (w:=w) (base:=base) tx
 have yI:=aCl (P:=P) (w:=w) (base:=base) tx
 refine tx.pG.ok dE (λvs H Q E h=>?_) (λcdv A outer s H vs Q E hr h=>?_)
 ·obtain⟨p,s,b,m,x,y,n,rfl,_⟩:=h
  rfl
 ·obtain⟨p,s,b,m,x,y,n,rfl ,hh,hs,hg,hb,y0,y1,hn,k⟩:=h
  have hu:=qJ hr
  refine bV (aH (aP (i:=4) dE.nd (gQ aG))
   (aH (aP (i:=5) dE.nd (zq1 yI hr tx.rS tx.mY.kp tx.rR (aB (Z.pv 0) (aB (Z.pv 2) (aB (aM qF aF aF) aG)))))
   (aH (cC PassesOwn.never rfl (dO (by rfl) tx.fK (aB (Z.pv 3) aG)) (aQ (i:=6) dE.nd) (aH (aP (i:=7) dE.nd (zq1 yI hr tx.rS tx.mY.kp tx.rR (aB (Z.pv 0) (aB (Z.pv 2) (aB (aM qF aF aF) aG)))))
   (aH (bH (aZ (r:=jY K) (dR hu) (zq1 aS hr tx.aX tx.aV.kp tx.aW (aB (Z.pv 0) (aB aF aG))) aF (bP _)) (aJ (aP (i:=7) dE.nd (Z.pv 5))) aY)
   (aH (bH (nM (uZ (aZ (r:=aNS K) (aNT hu) (aN (K':=K) (Z.pv 1) aF) (gQ aG) (bP _)) (qO (aZ (r:=jY K) (dR hu) (zq1 aS hr tx.aX tx.aV.kp tx.aW (aB (Z.pv 0) (aB aF aG))) aF (bP _))))) (aJ (aP (i:=7) dE.nd (aO (pU rfl) (by rfl) tx.uK yV (aB (aM qF aF aF) (aB (aM bY (aN (K':=K) (aN (K':=K) (aN (K':=K) (Z.pv 1) aF) (aM iZ (zq1 aS hr tx.aX tx.aV.kp tx.aW (aB (Z.pv 0) (aB aF aG))) (aO (rc:=lK K) cB (by rfl) tx.dX dI (aB (aN (K':=K) (Z.pv 1) aF) aG)))) aF) (zq1 aS hr tx.aX tx.aV.kp tx.aW (aB (Z.pv 0) (aB aF aG)))) aG))))) aY)
   (aH (bH (aZ (r:=jY K) (dR hu) (zq1 aS hr tx.aX tx.aV.kp tx.aW (aB (Z.pv 0) (aB aF aG))) aF (bP _)) (aJ (aP (i:=7) dE.nd (aM qF aF aF))) aY)
   (aJ (cZ (fE (K':=K) (Z.pv 4) (aB (Z.pv 7) aG)))))))))
   (aJ (aR (Z.pv 4)))))) ?_
  have bp:b≠p:=hh.aJX hb (by simp)
  have e12:(10:Int) ^ (12:Int).toNat=1000000000000:=by decide
  refine bK (σ:=[some (.ref p),some (.ref s),some (.ref b),some (.int (n:Int)),none,none,none,none]) rfl ?_
  walk_at "w"
  intro q nq
  obtain⟨H1,i1,s1,g1⟩:=nw _ nq;rw[i1]
  have qp:q≠p:=hh.aJZ nq
  walk_at "w"
  rw[e12]
  refine⟨p,b,x,y,_,rfl,hh.same s1,s1 _ _ hb,y0,y1,⟨by decide,by decide⟩,λbs H2 abs h2 k2 q2=>?_⟩
  have g2:=k2 _ _ g1 qp
  have K2:cE p H H2:=s1.keep.trans k2
  have Q2:dY p H H2:=(dY.of (s1 p)).trans q2
  walk_at "w"
  refine⟨by omega,by omega,?_⟩
  rw[Ru9]
  refine nL (n:=n) (λi σ' H'=>∃(ps:List Int) (z6 z7:Option V),σ'=[some (.ref p),some (.ref s),some (.ref b),some (.int (n:Int)),some (.ref q),some (.int bs),z6,z7]/\H' q=some (.lst (ps.map V.int))/\ps.length=i/\(∀r∈ps,Am r)/\cE p H H'/\dY p H H')
   ⟨[],_,_,rfl,g2,rfl,(λr h=>by cases h),K2,Q2⟩ (λi σ' H3 hi z40q=>?_) (λσ' H3 z41q=>?_)
  ·obtain⟨ps,z6,z7,e,g3,lps,aps,K3,Q3⟩:=z40q
   subst e
   have h3:=hh.of K3 Q3
   walk_at "w"
   rw[e12]
   refine⟨p,b,x,y,_,rfl,h3,K3 _ _ hb bp,y0,y1,⟨by decide,by decide⟩,λpr H4 apr h4 k4 q4=>?_⟩
   have g4:=k4 _ _ g3 qp
   repeat walk_at "st"
   refine xH (λσ' H'=>∃pr:Int,Am pr/\σ'=[some (.ref p),some (.ref s),some (.ref b),some (.int (n:Int)),some (.ref q),some (.int bs),some (.int (0+(i:Int))),some (.int pr)]/\cE p H4 H'/\dY p H4 H') (λN hN=>?_) (λσ' H6 ⟨pr2,apr2,e,k5,q5⟩=>?_)
   ·walk_at "w"
    refine⟨p,_,rfl,h4,by decide,by decide,λr5 H5 a5 b5 h5 k5 q5=>?_⟩
    walk_at "w"
    refine cI (λc=>?_) (λc=>?_)
    ·walk_at "w"
     exact hN _ _ ⟨bs,abs,rfl,k5,q5⟩
    ·walk_at "w"
     exact hN _ _ ⟨pr,apr,rfl,k5,q5⟩
   subst e
   have K5:cE p H H6:=K3.trans (k4.trans k5)
   have Q5:dY p H H6:=Q3.trans (q4.trans q5)
   have g5:=k5 _ _ g4 qp
   have h5:=hh.of K5 Q5
   have hs5:=hs.keep hh K5
   obtain⟨pl,es,hpc⟩:=hs5.ex
   obtain⟨qs,gpl,tpl⟩:=hpc.ex
   refine xH (λσ' H'=>∃pr:Int,Am pr/\σ'=[some (.ref p),some (.ref s),some (.ref b),some (.int (n:Int)),some (.ref q),some (.int bs),some (.int (0+(i:Int))),some (.int pr)]/\cE p H6 H'/\dY p H6 H') (λN hN=>?_) (λσ' H7 ⟨pr3,apr3,e,k7,q7⟩=>?_)
   ·walk_at "w"
    intro l0 nl0
    obtain⟨H7,i7,s7,g7⟩:=nw _ nl0;rw[i7]
    refine aNU (s7 _ _ gpl) g7 ?_
    walk_at "w"
    have h7:=h5.same s7
    cases qs with
    |nil=>
     repeat walk_at "gs"
     exact hN _ _ ⟨pr2,apr2,rfl,s7.keep,dY.of (s7 p)⟩
    |cons q0 qr=>
     have lqs:=tpl.len
     have mpos:0 < m.pieces.length:=by rw[<-lqs];simp
     have lqm:((q0::qr).map V.ref).length=m.pieces.length:=by rw[cD];exact lqs
     have gpp:pl≠p:=λz=>by
      obtain⟨d',c',q',ms',hp',_⟩:=h5.ex
      rw[z,hp'] at gpl
      cases gpl
     repeat walk_at "gs"
     refine⟨p,_,rfl,h7,by decide,by decide,λr8 H8 a8 b8 h8 k8 q8=>?_⟩
     have es8:=k8 _ _ (s7 _ _ es) (h7.aJX (s7 _ _ es) (by simp))
     have gpl8:=k8 _ _ (s7 _ _ gpl) gpp
     have K68:cE p H6 H8:=s7.keep.trans k8
     have Q68:dY p H6 H8:=(dY.of (s7 p)).trans q8
     walk_at "w"
     refine cI (λc=>?_) (λc=>?_)
     ·walk_at "w"
      rw[e12]
      refine⟨p,_,rfl,h8,by decide,by decide,λr9 H9 a9 b9 h9 k9 q9=>?_⟩
      have es9:=k9 _ _ es8 (h8.aJX es8 (by simp))
      have gpl9:=k9 _ _ gpl8 gpp
      obtain⟨jk,hjk,ejk⟩:=aAN (n:=m.pieces.length) a9 mpos
      have eqk:(q0::qr)[jk]?=some ((q0::qr)[jk]'(by rw[lqs];exact hjk)):=dF (by rw[lqs];exact hjk)
      have erk:m.pieces[jk]?=some m.pieces[jk]:=dF hjk
      have gk6:=tpl.at_ jk _ _ eqk erk
      have pk:=hg.pieces.pc m.pieces[jk] (Rk9 hjk)
      generalize (q0::qr)[jk]'(by rw[lqs];exact hjk)=qk at eqk gk6
      generalize m.pieces[jk]=ow at erk gk6 pk
      have ixk:p9 ((q0::qr).map V.ref) (jk:Int)=some (.ref qk):=dA (fL eqk)
      have gk9:H9 qk=some (.tup [.int ow.1,.int ow.2]):=k9 _ _ (k8 _ _ (s7 _ _ gk6) λz=>h7.iX _ (by rw[<-z];exact s7 _ _ gk6)) λz=>h8.iX _ (by rw[<-z];exact k8 _ _ (s7 _ _ gk6) λz=>h7.iX _ (by rw[<-z];exact s7 _ _ gk6))
      have hl0:0 < (m.pieces.length:Int):=by omega
      walk_at "w"
      rw[lqm,ejk]
      walk_at "w"
      refine⟨p,_,rfl,h9,by decide,by decide,λr10 H10 a10 b10 h10 k10 q10=>?_⟩
      obtain⟨_,_,u0,u1⟩:=pk
      walk_at "w"
      exact hN _ _ ⟨_,⟨by omega,by omega⟩,rfl,K68.trans (k9.trans k10),Q68.trans (q9.trans q10)⟩
     ·walk_at "w"
      exact hN _ _ ⟨pr2,apr2,rfl,K68,Q68⟩
   subst e
   have K7:=K5.trans k7
   have Q7:=Q5.trans q7
   have h7:=hh.of K7 Q7
   have g7:=k7 _ _ g5 qp
   refine xH (λσ' H'=>∃pr:Int,Am pr/\σ'=[some (.ref p),some (.ref s),some (.ref b),some (.int (n:Int)),some (.ref q),some (.int bs),some (.int (0+(i:Int))),some (.int pr)]/\cE p H7 H'/\dY p H7 H') (λN hN=>?_) (λσ' H9 ⟨pr4,apr4,e,k8,q8⟩=>?_)
   ·walk_at "w"
    refine⟨p,_,rfl,h7,by decide,by decide,λr8 H8 a8 b8 h8 k8 q8=>?_⟩
    walk_at "w"
    refine cI (λc=>?_) (λc=>?_)
    ·walk_at "w"
     rw[e12]
     walk_at "w"
     exact hN _ _ ⟨_,⟨by decide,by decide⟩,rfl,k8,q8⟩
    ·walk_at "w"
     exact hN _ _ ⟨pr3,apr3,rfl,k8,q8⟩
   subst e
   have K8:=K7.trans k8
   have Q8:=Q7.trans q8
   have g8:=k8 _ _ g7 qp
   walk_at "w"
   refine j0 (bU.of g8) ?_
   walk_at "w"
   refine qN (xs:=ps.map V.int) g8 (uU (by rw[cD];omega:(ps.map V.int).length < 1000) (cO (by decide))) ?_
   obtain⟨H10,i10,k10,g10⟩:=wr H9 q _;rw[i10]
   walk_at "w"
   refine⟨ps ++ [pr4],_,_,rfl,by rw[g10,iI];rfl,by rw[sO,lps];rfl,λr hr=>?_,λd o e nd=>k10 _ _ (K8 _ _ e nd) (bQ nq e),Q8.trans (dY.of λo e=>k10 _ _ e (Ne.symm qp))⟩
   rcases Rf9.mp hr with z|z
   ·exact aps r z
   ·rw[zJ.mp z];exact apr4
  ·obtain⟨ps,z6,z7,e,g3,lps,aps,K3,Q3⟩:=z41q
   subst e
   walk_at "w"
   exact k q ps H3 g3 lps aps nq (hh.of K3 Q3) K3
def aAx(K:W.Frag):Sp:=λvs H Q _=>∃(s:Addr) (m:MS) (t:Addr) (a:Int×Int) (n:Nat),vs=[.ref s,.ref t,.int (n:Int)]/\d8 H s m/\m.Good/\H t=some (.tup [.int a.1,.int a.2])/\St1 m a/\n<=1000/\
 ∀la Ls H',aU H H'->H la=none->aPj κS H' la Ls->aHU m a Ls->Ls.length=n+1->Q (.ref la) H'
theorem aAy{P:Program}{w:World}{K:PySem.W.Frag}{mg:Str->Option Value}{base:Heap}{a:qA}(tx:Txt K mg a):cR P w K mg base lQ 2 a.jN a.jO ["_law_spec_here","_law_state_here","_law_hours"] (aAx K):=by
 have hJ:=pO (P:=P) (w:=w) (base:=base) tx
 refine tx.nU.ok eA (λvs H Q E h=>?_) (λcdv A outer s H vs Q E hr h=>?_)
 ·obtain⟨s,m,t,st,n,rfl,_⟩:=h
  rfl
 ·obtain⟨s,m,t,st,n,rfl ,hs,hg,ht,hst,hn,k⟩:=h
  have hu:=qJ hr
  refine bV (aH (aP (i:=3) eA.nd (mC (mC (Z.pv 1))))
   (aH (cC PassesOwn.never rfl (dO (by rfl) tx.fK (aB (Z.pv 2) aG)) (aQ (i:=4) eA.nd) (aH (aP (i:=5) eA.nd (gQ aG))
   (aH (cC PassesOwn.never rfl (bR (K':=K) (aN (K':=K) (Z.pv 3) (fX nH aF))) (aQ (i:=6) eA.nd) (aJ (aP (i:=5) eA.nd (aM bY (Z.pv 5) (aAH (zq1 hJ hr tx.jQ tx.gZ.kp tx.jP (aB (Z.pv 0) (aB (Z.pv 6) (aB aF aG)))) (zq1 hJ hr tx.jQ tx.gZ.kp tx.jP (aB (Z.pv 0) (aB (Z.pv 6) (aB aF aG)))))))))
   (aJ (cZ (fE (K':=K) (Z.pv 3) (aB (aO (rc:=aFZ w) (aF0 rfl) (by rfl) tx.pZ aHm (aB (cH (rc:=aGM w) (aCN rfl hu) (by rfl) tx.aBr aJG (aB (cM (k:=1) (idx:=[]) (N:=["_law_one"]) (dZ (sc:=aL dS) (NX:=["_law_spec_here","_law_state_here","_law_hours","_law_rows","_law_hour_here","_law_later","_law_one"]) rfl rfl rfl (by decide +kernel)) rfl (bR (K':=K) (Z.pv 5)) (λ_ _ _ _=>(aQ (i:=0) (show(["_law_one"]:List Str).Nodup by decide +kernel))) (eN (by decide)) (λ_ _ _ _=>(qP (aZ uY (Z.pv 0) nB (bP _)))) (λ_ _ _ _=>(Z.pv 0))) aG)) aG)) aG)))))))
   (aJ (aR (Z.pv 3))))) ?_
  refine bK (σ:=[some (.ref s),some (.ref t),some (.int (n:Int)),none,none,none,none]) rfl ?_
  walk_at "w"
  intro l0 nl0
  obtain⟨H1,i1,s1,g1⟩:=nw _ nl0;rw[i1]
  walk_at "w"
  intro la nla
  obtain⟨H4,i4,s4,g4⟩:=nw _ nla;rw[i4]
  have S4:aU H H4:=s1.trans s4
  have nlaH:H la=none:=s1.free nla
  have g14:=s4 _ _ g1
  have ht4:=S4 _ _ ht
  walk_at "w"
  refine⟨by omega,by omega,?_⟩
  refine nL (λi σ' H'=>∃(as:List Addr) (Ls:List (List (Int×Int))) (z4 z5 z6:Option V),σ'=[some (.ref s),some (.ref t),some (.int (n:Int)),some (.ref la),z4,z5,z6]/\aU H H'/\H' la=some (.lst (as.map V.ref))/\RL (λb ps=>∃us,H' b=some (.lst us)/\PVs κS H' us ps/\b≠la) as Ls/\aHU m st Ls/\Ls.length=i+1)
   ⟨[l0],[[st]],_,_,_,rfl,S4,g4,RL.one ⟨_,g14,⟨rfl,λi v x h1 h2=>?_⟩,λz=>?_⟩,⟨λi ps hi=>?_⟩,rfl⟩ (λi σ' H' hi z42q=>?_) (λσ' H' z43q=>?_)
  ·match i,h1,h2 with
   |0,h1,h2=>cases h1;cases h2;exact⟨t,rfl,ht4⟩
   |_+1,h1,_=>simp at h1
  ·rw[z,nla] at g1
   cases g1
  ·match i,hi with
   |0,hi=>cases hi;exact⟨by simp,λs=>by show s∈[st]↔s=st;simp⟩
   |_+1,hi=>simp at hi
  ·obtain⟨as,Ls,z4,z5,z6,e,S',gla,rla,hL,lL⟩:=z42q
   subst e
   have las:=rla.len
   have ea:as[i]?=some as[i]:=dF (by omega)
   have el:Ls[i]?=some Ls[i]:=dF (by omega)
   obtain⟨us,gp,hP,pla⟩:=rla.at_ i _ _ ea el
   obtain⟨hw,hk⟩:=hL.at_ i _ el
   generalize as[i]=p at ea gp pla
   generalize Ls[i]=ks at el hP hw hk
   have ai:p9 (as.map V.ref) (-1)=some (.ref p):=by
    rw[sU (by rw[cD];omega),cD,las,lL,Sv9]
    exact fL ea
   have few:=Rc.few hg hst (aBB hw) λk hk'=>(hk k).mp hk'
   walk_at "w"
   intro lt nlt
   obtain⟨H2,i2,s2,g2⟩:=nw _ nlt;rw[i2]
   have gla2:=s2 _ _ gla
   walk_at "w"
   have hPl:=hP.1
   refine iE (bU.of (s2 _ _ gp)) ?_
   refine qM (xs:=us) (λj σ' H'=>∃(lt:Addr) (vs:List V) (z4 z6:Option V),σ'=[some (.ref s),some (.ref t),some (.int (n:Int)),some (.ref la),z4,some (.ref lt),z6]/\aU H2 H'/\H' lt=some (.lst vs)/\OVs H' vs ((ks.take j).flatMap (nx m)))
    ⟨lt,[],_,_,rfl,aU.refl _,g2,rfl,λi v o h1=>by simp at h1⟩ (λj σ' H' hj ⟨_,_,_,_,_,s3,_⟩=>bU.of (s3 _ _ (s2 _ _ gp))) (λj v σ' H3 hv z44q=>?_) (λσ' H3 z45q=>?_)
   ·obtain⟨lt,vs,z4,z6,e,s3,g3,hO⟩:=z44q
    subst e
    obtain⟨x,hx,T,rfl,gT⟩:=hP.get hv
    have gT3:H3 T=some (.tup [.int x.1,.int x.2]):=(s2.trans s3) _ _ gT
    have S3:=S'.trans (s2.trans s3)
    obtain⟨⟨b1,b2,b3⟩,_⟩:=Rc.st hg hst ((hk x).mp (iW hx))
    walk_at "w"
    refine⟨s,m,T,_,_,0,rfl,hs.same S3,gT3,.inl rfl,b1,b2,λv0 H4 s4 o0=>?_⟩
    walk_at "w"
    refine⟨s,m,T,_,_,1,rfl,hs.same (S3.trans s4),s4 _ _ gT3,.inr rfl,b1,b2,λv1 H5 s5 o1=>?_⟩
    walk_at "w"
    intro l5 nl5
    obtain⟨H6,i6,s6,g6⟩:=nw _ nl5;rw[i6]
    have hl:=hO.1
    rw[aGg,uV] at hl
    walk_at "w"
    refine lZ ((s4.trans (s5.trans s6)) _ _ g3) g6 (cO (by simp;omega)) ?_
    intro l7 nl7
    obtain⟨H8,i8,s8,g8⟩:=nw _ nl7;rw[i8]
    walk_at "w"
    refine⟨l7,_,_,_,rfl,s3.trans (s4.trans (s5.trans (s6.trans s8))),g8,?_⟩
    rw[cY hx,List.flatMap_append]
    exact(hO.same (s4.trans (s5.trans (s6.trans s8)))).app (by rw[List.flatMap_singleton];exact OVs.two (o0.same (s5.trans (s6.trans s8))) (o1.same (s6.trans s8)))
   ·obtain⟨lt,vs,z4,z6,e,s3,g3,hO⟩:=z45q
    subst e
    rw[hPl,Rb9] at hO
    have hl:=hO.1
    rw[aGg] at hl
    have gla3:=s3 _ _ gla2
    walk_at "w"
    refine j0 (bU.of gla3) ?_
    walk_at "w"
    refine iE (bU.of g3) ?_
    refine dP (xs:=vs) (λj us H'=>H'=H3/\us=(vs.take j).filter (λv=>!decide (v=V.non))) ⟨rfl,rfl⟩ (cO (by omega)) (λj us H' hj ⟨e0,e1⟩=>⟨by rw[e0];exact bU.of g3,by rw[e1];exact zK (Sx9 ..) (List.length_take_le ..)⟩) (λj v us H' hv z46q=>?_) (λus H' z47q=>?_)
    ·obtain⟨e0,e1⟩:=z46q
     subst e0
     have hj:j < ((ks.flatMap (nx m))).length:=by rw[<-hO.1];exact(lG.mp hv).1
     have ov:=hO.2 j v _ hv (dF hj)
     have tk:=cY hv
     cases he:(ks.flatMap (nx m))[j] with
     |none=>
      rw[he] at ov
      have ov':v=.non:=ov
      subst ov'
      repeat walk_at "gs"
      refine⟨rfl,?_⟩
      rw[e1,tk,Sc9]
      simp
     |some x=>
      rw[he] at ov
      obtain⟨T,rfl,_⟩:=ov
      repeat walk_at "gs"
      refine⟨rfl,?_⟩
      rw[e1,tk,Sc9]
      simp
    ·obtain⟨e0,e1⟩:=z47q
     subst e0
     rw[Rb9] at e1
     obtain⟨qs,q1,q2⟩:=hO.refs
     rw[q1] at e1
     subst e1
     intro lc nlc
     obtain⟨H4,i4,s4,g4⟩:=nw _ nlc;rw[i4]
     have nl:=λt=>aN9 (H:=H4) (t:=t) hk
     walk_at "w"
     refine aGN (al:=dd (((ks.flatMap (nx m)).filterMap id).map stL)) g4 (tS q2 s4) (λt ht=>aBG.mpr ht) (Nat.lt_of_le_of_lt (aL3 hg hst (n:=i+1) (aKa _) λt ht=>(nl t).mp (aBG.mp ht)) (by decide)) λpS qs' ts' npS hT' nd' mem'=>?_
     obtain⟨H5,i5,s5,g5⟩:=nw _ npS;rw[i5]
     have fewS:=aL3 hg hst (n:=i+1) nd' λt ht=>(nl t).mp ((mem' t).mp ht)
     walk_at "w"
     refine aJN g5 (tS hT' s5) (by omega) λpL qL uL npL hTL hpL hsL=>?_
     obtain⟨H6,i6,s6,g6⟩:=nw _ npL;rw[i6]
     obtain⟨ks',c1,c2,c3⟩:=aKb nd' (λt ht=>by obtain⟨s,e,_⟩:=(nl t).mp ((mem' t).mp ht);exact⟨s,e⟩) hTL hpL hsL
     have s26:=s2.trans (s3.trans (s4.trans (s5.trans s6)))
     have S6:aU H H6:=S'.trans s26
     have gla6:=s26 _ _ gla
     have npla:pL≠la:=λz=>by rw[z,(s2.trans (s3.trans (s4.trans s5))) _ _ gla] at npL;cases npL
     have c2':∀x,x∈ks'↔Rc m st (i+1) x:=λx=>by
      rw[c2,mem',nl]
      exact⟨λ⟨y,e,h⟩=>by
       unfold stL at e
       injection e with e1 e2
       injection e2 with e2
       rw[show x=y from Prod.ext e1 e2];exact h,λh=>⟨x,rfl,h⟩⟩
     walk_at "w"
     refine qN (xs:=as.map V.ref) gla6 (uU (by rw[cD];omega:(as.map V.ref).length < 20000) (cO (by decide))) ?_
     obtain⟨H7,i7,k7,g7⟩:=wr H6 la _;rw[i7]
     walk_at "w"
     have hR:RL (λb ps=>∃us,H7 b=some (.lst us)/\PVs κS H7 us ps/\b≠la) (as ++ [pL]) (Ls ++ [ks']):=by
      refine RL.snoc (rla.imp λb ps ⟨us,a1,a2,a3⟩=>⟨us,k7 _ _ (s26 _ _ a1) a3,⟨a2.1,λi v x h1 h2=>PK.aGX (κS.aAM (a2.2 i v x h1 h2) s26) gla6 k7⟩,a3⟩) ⟨_,k7 _ _ g6 npla,⟨c3.1,λi v x h1 h2=>PK.aGX (κS.aAM (c3.2 i v x h1 h2) s6) gla6 k7⟩,npla⟩
     have hLL:aHU m st (Ls ++ [ks']):=by
      refine⟨λj rs hj=>?_⟩
      by_cases hj2:j < Ls.length
      ·rw[Qq9 hj2] at hj
       exact hL.at_ j rs hj
      ·have hj3:j < (Ls ++ [ks']).length:=(lG.mp hj).1
       rw[sO,Se9] at hj3
       obtain rfl:j=Ls.length:=by omega
       rw[Qz9 (dQ _),Tl9] at hj
       cases hj
       refine⟨c1,λs=>?_⟩
       rw[c2' s,lL]
     exact⟨as ++ [pL],Ls ++ [ks'],_,_,_,rfl,λb o e=>k7 _ _ (S6 _ _ e) (bQ nlaH e),by rw[g7,iI];rfl,hR,hLL,by rw[sO,lL];rfl⟩
  ·obtain⟨as,Ls,z4,z5,z6,e,S',gla,rla,hL,lL⟩:=z43q
   subst e
   walk_at "w"
   exact k la Ls H' S' nlaH ⟨as,gla,rla.imp λb ps ⟨us,a1,a2,_⟩=>⟨us,a1,a2⟩⟩ hL (by omega)
theorem aAi{α:Type}{pn:List α}{i:Nat}{x:α}(nd:pn.Nodup)(ex:pn[i]?=some x):x∉pn.take i:=λz=>by
 obtain⟨j,hj,ej⟩:=List.getElem_of_mem z
 rw[uV] at hj
 rw[List.getElem_take] at ej
 have e2:pn[i]'((lG.mp ex).1)=x:=(lG.mp ex).2
 have:=(Ug9 nd).mp (ej.trans e2.symm)
 omega
def wvs(m:MS)(p:Int)(f:Int×Int->Int)(s:Int×Int)(ons:List Int):List Int:=(ons.filter (wX s)).map λon=>hw m p s on+f (o7 m s.1 s.2 on)
theorem aLO(m:MS)(p:Int)(f:Int×Int->Int)(s:Int×Int):wvs m p f s [0,1]=(rwy m p s).map λw=>w.2.2+f w.2.1:=by
 unfold wvs rwy
 rw[Rp9]
 rfl
theorem aFd{f:Int×Int->Int}{ws:List (Wy (Int×Int))}{mm:Int}(h1:mm∈ws.map λw=>w.2.2+f w.2.1)(h2:∀x∈ws.map (λw=>w.2.2+f w.2.1),mm<=x):mm=uR f ws:=by
 obtain⟨w,hw,e⟩:=o8.mp h1
 exact aHT ⟨w,hw,e⟩ λw hw=>h2 _ (o8.mpr ⟨w,hw,rfl⟩)
theorem aFe{m:MS}{s:Int×Int}{on:Int}(h:wX s on=true):aD8 m s on=some (o7 m s.1 s.2 on):=if_pos (nX.mp h)
theorem aFf{m:MS}{s:Int×Int}{on:Int}(h:wX s on=false):aD8 m s on=none:=if_neg λz=>by rw[nX.mpr z] at h;cases h
structure DsF{α:Type}(κ:PK α)(H H':Hp)(a:Addr)(Ls:List (List α))(F:Nat->α->Int):Prop where
 ex:∃ds:List Addr,H' a=some (.lst (ds.map V.ref))/\ds.length=Ls.length/\(∀(i:Nat) d ps,ds[i]?=some d->Ls[i]?=some ps->κ.da H' d ps (F i))/\ds.Nodup/\∀d∈ds,H d=none
def aBJ(K:W.Frag):Sp:=λvs H Q _=>∃(s:Addr) (m:MS) (t:Addr) (a:Int×Int) (q:Addr) (ps:List Int),vs=[.ref s,.ref t,.ref q]/\d8 H s m/\m.Good/\H t=some (.tup [.int a.1,.int a.2])/\St1 m a/\H q=some (.lst (ps.map V.int))/\(∀n∈ps,Am n)/\ps.length<=48/\
 ∀lt Ls H',aU H H'->H lt=none->aHU m a Ls->Ls.length=ps.length+1->DsF κS H H' lt Ls (λi=>wF (Wr m ps) (ps.length - i) i)->Q (.ref lt) H'
theorem aBK{P:Program}{w:World}{K:PySem.W.Frag}{mg:Str->Option Value}{base:Heap}{a:qA}(tx:Txt K mg a):cR P w K mg base lQ 3 a.kW a.kX ["_law_spec_here","_law_state_here","_law_prices_here"] (aBJ K):=by
 have hJ:=pO (P:=P) (w:=w) (base:=base) tx
 have uT:=yH (P:=P) (w:=w) (base:=base) tx
 have aBL:=aAy (P:=P) (w:=w) (base:=base) tx
 refine tx.lF.ok cG (λvs H Q E h=>?_) (λcdv A outer s H vs Q E hr h=>?_)
 ·obtain⟨s,m,t,st,q,ps,rfl,_⟩:=h
  rfl
 ·obtain⟨s,m,t,st,q,ps,rfl ,hs,hg,ht,hst,hq,ha,hl,k⟩:=h
  have hu:=qJ hr
  refine bV (aH (aP (i:=3) cG.nd (zq1 aBL hr tx.uH tx.nU.kp tx.uG (aB (Z.pv 0) (aB (Z.pv 1) (aB (aO (rc:=lK K) cB (by rfl) tx.dX dI (aB (Z.pv 2) aG)) aG)))))
   (aH (aP (i:=4) cG.nd zT)
   (aH (cC PassesOwn.never rfl (bR (K':=K) (aN (K':=K) (Z.pv 3) (fX nH aF))) (aQ (i:=5) cG.nd) (aJ (aA1 hu (Z.pv 4) (Z.pv 5) aF)))
   (aH (aP (i:=6) cG.nd (mC (Z.pv 4)))
   (aH (cC PassesOwn.never rfl (aDu (by rfl) tx.fK (aB (aM eZ (aO (rc:=lK K) cB (by rfl) tx.dX dI (aB (Z.pv 2) aG)) aF) (aB (fX nH aF) (aB (fX nH aF) aG)))) (aQ (i:=7) cG.nd) (aH (aP (i:=8) cG.nd zT)
   (aH (cC PassesOwn.never rfl (bR (K':=K) (aN (K':=K) (Z.pv 3) (Z.pv 7))) (aQ (i:=5) cG.nd) (aH (aP (i:=9) cG.nd (gQ aG))
   (aH (cC PassesOwn.never rfl (nP (K':=K) (cQ aF aF)) (aQ (i:=10) cG.nd) (aH (aP (i:=11) cG.nd (zq1 hJ hr tx.jQ tx.gZ.kp tx.jP (aB (Z.pv 0) (aB (Z.pv 5) (aB (Z.pv 10) aG)))))
   (aJ (bH (aZ uY (Z.pv 11) nB (bP _)) (aJ (cZ (fE (K':=K) (Z.pv 9) (aB (aM bY (zq1 uT hr tx.uF tx.o6.kp tx.uB (aB (Z.pv 0) (aB (Z.pv 5) (aB (aN (K':=K) (Z.pv 2) (Z.pv 7)) (aB (Z.pv 10) aG))))) (lM hu (aN (K':=K) (Z.pv 6) aF) (Z.pv 11))) aG)))) aY))))
   (aJ (aA1 hu (Z.pv 8) (Z.pv 5) (aO (rc:=aJt K) (aHC rfl) (by rfl) tx.uK yV (aB (Z.pv 9) aG)))))))
   (aJ (aP (i:=6) cG.nd (aM bY (mC (Z.pv 8)) (Z.pv 6)))))))
   (aJ (aR (Z.pv 6)))))))) ?_
  refine bK (σ:=[some (.ref s),some (.ref t),some (.ref q),none,none,none,none,none,none,none,none,none]) rfl ?_
  walk_at "w"
  refine⟨s,m,t,st,ps.length,by rw[cD],hs,hg,ht,hst,by omega,λla Ls H1 s1 nla hL hR lL=>?_⟩
  obtain⟨as,ga,ra⟩:=hL.ex
  have las:=ra.len
  have lok:=aLN hg hst ps (Ls:=Ls) (by omega) hR
  have el:as[ps.length]?=some as[ps.length]:=dF (by omega)
  have ll:Ls[ps.length]?=some Ls[ps.length]:=dF (by omega)
  obtain⟨us,gu,pu⟩:=ra.at_ ps.length _ _ el ll
  generalize as[ps.length]=an at el gu
  generalize Ls[ps.length]=pn at ll pu
  have ndn:=lok.nd pn (iW ll)
  have fwn:=lok.few pn (iW ll)
  have lus:=pu.1
  have ai:p9 (as.map V.ref) (-1)=some (.ref an):=by
   rw[sU (by rw[cD];omega),cD,las,lL,Sv9]
   exact fL el
  walk_at "w"
  refine κS.new (λ_=>0) λbd H2 nbd s2 db=>?_
  have ga2:=s2 _ _ ga
  walk_at "w"
  refine iE (bU.of (s2 _ _ gu)) ?_
  refine qM (xs:=us) (λi σ' H'=>aU H1 H'/\κS.da H' bd (pn.take i) (λ_=>0)/\∃z5,σ'=[some (.ref s),some (.ref t),some (.ref q),some (.ref la),some (.ref bd),z5,none,none,none,none,none,none]) ⟨s2,db,_,rfl⟩
   (λi σ' H' hi ⟨s',_⟩=>bU.of (s' _ _ gu)) (λi v σ' H' hv z48q=>?_) (λσ' H3 z49q=>?_)
  ·obtain⟨s',dw',z5,e⟩:=z48q
   subst e
   obtain⟨x,ex,px⟩:=pu.get hv
   walk_at "w"
   obtain⟨H4,p4,d4,k4⟩:=κS.put dw' (κS.aAM px s') (aAi ndn ex) (by rw[uV];omega)
   refine⟨bd,H4,rfl,p4,?_⟩
   walk_at "w"
   refine⟨λb o e=>k4 _ _ (s' _ _ e) (bQ nbd e),?_,_,rfl⟩
   rw[cY ex]
   exact d4
  ·obtain⟨s3,d3,z5,e⟩:=z49q
   subst e
   rw[lus,Rb9] at d3
   walk_at "w"
   intro lt nlt
   obtain⟨H4,i4,s4,g4⟩:=nw _ nlt;rw[i4]
   have s14:=s3.trans s4
   have hq4:=s14 _ _ (s1 _ _ hq)
   walk_at "w"
   refine⟨_,_,rfl,by rw[cD];omega,?_⟩
   rw[show(((ps.map V.int).length:Int) - 1 - -1).toNat=ps.length by rw[cD];omega]
   refine aLt (n:=ps.length) (λi σ' H'=>aU H1 H'/\∃(lt:Addr) (ds:List Addr) (z5 z7 z8 z9 z10 z11:Option V),σ'=[some (.ref s),some (.ref t),some (.ref q),some (.ref la),some (.ref bd),z5,some (.ref lt),z7,z8,z9,z10,z11]/\H1 lt=none/\H' lt=some (.lst (ds.map V.ref))/\ds.length=i+1/\(ds.Nodup/\∀d∈ds,H1 d=none)/\∀(j:Nat) d rs,ds[j]?=some d->Ls[ps.length - i+j]?=some rs->κS.da H' d rs (wF (Wr m ps) (i - j) (ps.length - i+j)))
    ⟨s14,lt,[bd],_,_,_,_,_,_,rfl,s3.free nlt,g4,rfl,⟨by simp,λd hd=>by rw[zJ.mp hd];exact nbd⟩,λj d rs h1 h2=>?_⟩ (λi σ' H' hi z50q=>?_) (λσ' H' z51q=>?_)
   ·match j,h1 with
    |0,h1=>
     cases h1
     rw[Um9,Ue9,ll] at h2
     cases h2
     exact κS.yE d3 s4
    |j+1,h1=>simp at h1
   ·obtain⟨s',lt,ds,z5,z7,z8,z9,z10,z11,e,nlt,gd,ld,nf,hd⟩:=z50q
    subst e
    obtain⟨h,hh⟩ : ∃h:Nat,h=ps.length - 1 - i:=⟨_,rfl⟩
    have h1':ps.length - i=h+1:=by omega
    have h2':ps.length - (i+1)=h:=by omega
    rw[show(((ps.map V.int).length:Int) - 1 - (i:Int))=((h:Nat):Int) by rw[cD];omega]
    have epr:ps[h]?=some ps[h]:=dF (by omega)
    obtain⟨pr0,pr1⟩:=ha _ (Rk9 (show h < ps.length by omega))
    have egd:ps.getD h 0=ps[h]:=by rw[Qo9,epr];rfl
    generalize ps[h]=pr at epr pr0 pr1 egd
    have ea:as[h]?=some as[h]:=dF (by omega)
    have eL:Ls[h]?=some Ls[h]:=dF (by omega)
    have eL2:Ls[h+1]?=some Ls[h+1]:=dF (by omega)
    obtain⟨vs,gv,pv⟩:=ra.at_ h _ _ ea eL
    have hR1:=hR.at_ h _ eL
    have hR2:=hR.at_ (h+1) _ eL2
    generalize as[h]=ax at ea gv
    generalize Ls[h]=px at eL pv hR1
    generalize Ls[h+1]=qx at eL2 hR2
    have ed:ds[0]?=some ds[0]:=dF (by omega)
    have d0:=hd 0 _ _ ed (by rw[h1',Ue9];exact eL2)
    generalize ds[0]=dx at ed d0
    rw[h1',Ue9,Um9] at d0
    have ix:p9 (as.map V.ref) ((h:Nat):Int)=some (.ref ax):=dA (fL ea)
    have ixp:p9 (ps.map V.int) ((h:Nat):Int)=some (.int pr):=dA (by rw[qB,epr];rfl)
    have ixd:p9 (ds.map V.ref) 0=some (.ref dx):=dA (j:=0) (fL ed)
    have ga':=s' _ _ ga
    have ndx:=lok.nd px (iW eL)
    have fwx:=lok.few px (iW eL)
    have lvs:=pv.1
    walk_at "w"
    refine κS.new (wF (Wr m ps) (i+1) h) λwd H5 nwd s5 dw=>?_
    have ga5:=s5 _ _ ga'
    walk_at "w"
    refine iE (bU.of (s5 _ _ (s' _ _ gv))) ?_
    refine qM (xs:=vs) (λj σ' H6=>aU H' H6/\κS.da H6 wd (px.take j) (wF (Wr m ps) (i+1) h)/\∃(z5 z9 z10 z11:Option V),σ'=[some (.ref s),some (.ref t),some (.ref q),some (.ref la),some (.ref bd),z5,some (.ref lt),some (.int (h:Int)),some (.ref wd),z9,z10,z11])
     ⟨s5,dw,_,_,_,_,rfl⟩ (λj σ' H6 hj ⟨s6,_⟩=>bU.of (s6 _ _ (s' _ _ gv))) (λj v σ' H6 hv z52q=>?_) (λσ' H6 z53q=>?_)
    ·obtain⟨s6,d6,z5,z9,z10,z11,e⟩:=z52q
     subst e
     obtain⟨x,ex,px'⟩:=pv.get hv
     obtain⟨T,rfl,gT⟩:=px'
     have gT6:H6 T=some (.tup [.int x.1,.int x.2]):=s6 _ _ (s' _ _ gT)
     have rcx:=(hR1.2 x).mp (iW ex)
     obtain⟨⟨b1,b2,b3⟩,_⟩:=Rc.st hg hst rcx
     walk_at "w"
     intro lw nlw
     obtain⟨H7,i7,s7,g7⟩:=nw _ nlw;rw[i7]
     walk_at "w"
     intro To nTo
     obtain⟨H8,i8,s8,g8⟩:=nw _ nTo;rw[i8]
     have g78:=s8 _ _ g7
     have Tol:To≠lw:=λz=>by rw[z,g78] at g8;cases g8
     have s68:=s7.trans s8
     walk_at "w"
     refine aEy (iY.of g8) ?_
     refine aDg (xs:=([0,1]:List Int).map V.int) (λj σ' H9=>∃(z10 z11:Option V),σ'=[some (.ref s),some (.ref t),some (.ref q),some (.ref la),some (.ref bd),some (.ref T),some (.ref lt),some (.int (h:Int)),some (.ref wd),some (.ref lw),z10,z11]/\H9 lw=some (.lst ((wvs m pr (wF (Wr m ps) i (h+1)) x (([0,1]:List Int).take j)).map V.int))/\cE lw H8 H9)
      ⟨_,_,rfl,g78,λ_ _ e _=>e⟩ (λj σ' H9 hj ⟨_,_,_,_,k9⟩=>iY.of (k9 _ _ g8 Tol)) (λj v σ' H9 hv z54q=>?_) (λσ' H9 z55q=>?_)
     ·obtain⟨z10,z11,e,g9,k9⟩:=z54q
      subst e
      obtain⟨on,eon,rfl⟩:=aDU hv
      have bon:Bit on:=by
       have:=iW eon
       simp at this
       exact this
      have jl:j < 2:=by have:=(lG.mp eon).1;simpa using this
      have S9:aU H6 H9:=λb o e=>k9 _ _ (s68 _ _ e) (bQ nlw e)
      have S19:=s'.trans (s6.trans S9)
      have tk:([0,1]:List Int).take (j+1)=([0,1]:List Int).take j ++ [on]:=by rw[Sg9,eon];rfl
      have wl:(wvs m pr (wF (Wr m ps) i (h+1)) x (([0,1]:List Int).take j)).length<=2:=by
       unfold wvs
       rw[cD]
       refine zK (Sx9 ..) ?_
       rw[uV]
       exact zK (Nat.min_le_right ..) (by decide)
      have hq9:=S19 _ _ (s1 _ _ hq)
      have gd9:=S9 _ _ (s6 _ _ gd)
      walk_at "w"
      refine⟨s,m,T,_,_,on,rfl,hs.same (s1.trans S19),S9 _ _ gT6,bon,b1,b2,λv0 H10 s10 o0=>?_⟩
      cases hm:wX x on with
      |true=>
       rw[aFe hm] at o0
       obtain⟨T0,rfl,gT0⟩:=o0
       have hin:o7 m x.1 x.2 on∈qx:=(hR2.2 _).mpr ⟨x,rcx,on,bon,nX.mp hm,rfl⟩
       have g910:=s10 _ _ g9
       have gd10:=s10 _ _ gd9
       repeat walk_at "gs"
       refine j0 (bU.of g910) ?_
       walk_at "w"
       refine⟨s,m,T,x,pr,on,rfl,hs.same (s1.trans (S19.trans s10)),hg,(S9.trans s10) _ _ gT6,b1,pr0,by omega,bon,λH11 s11=>?_⟩
       have gd11:=s11 _ _ gd10
       walk_at "w"
       refine⟨dx,_,rfl,κS.get (v:=.ref T0) (κS.yE d0 (s6.trans (S9.trans (s10.trans s11)))) ⟨T0,rfl,s11 _ _ gT0⟩ hin,?_⟩
       walk_at "w"
       refine qN (s11 _ _ g910) (uU (by rw[cD];omega:(List.map V.int (wvs m pr (wF (Wr m ps) i (h+1)) x (([0,1]:List Int).take j))).length < 20000) (cO (by decide))) ?_
       obtain⟨H12,i12,k12,g12⟩:=wr H11 lw _;rw[i12]
       walk_at "w"
       refine⟨_,_,rfl,?_,k9.trans ((s10.trans s11).keep.trans k12)⟩
       rw[g12,tk]
       unfold wvs
       rw[Sc9,iI,iI,Tx9 (by rw[hm])]
       rfl
      |false=>
       rw[aFf hm] at o0
       have o0':v0=.non:=o0
       subst o0'
       repeat walk_at "gs"
       refine⟨_,_,rfl,?_,k9.trans s10.keep⟩
       rw[s10 _ _ g9,tk]
       unfold wvs
       rw[Sc9,List.filter_cons_of_neg (by rw[hm];simp),List.filter_nil,Si9]
     ·obtain⟨z10,z11,e,g9,k9⟩:=z55q
      subst e
      have g9':H9 lw=some (.lst (((rwy m pr x).map λw=>w.2.2+wF (Wr m ps) i (h+1) w.2.1).map V.int)):=by rw[<-aLO];exact g9
      have S9:aU H6 H9:=λb o e=>k9 _ _ (s68 _ _ e) (bQ nlw e)
      walk_at "w"
      refine aLs (bU.of g9') (by simpa using aJ5 b1) λmm hmm hle=>?_
      have emm:mm=wF (Wr m ps) (i+1) h x:=by
       show mm=uR (wF (Wr m ps) i (h+1)) (Wr m ps h x)
       unfold Wr
       rw[egd]
       exact aFd hmm hle
      subst emm
      obtain⟨H10,p10,d10,k10⟩:=κS.put (v:=.ref T) (κS.yE d6 S9) ⟨T,rfl,S9 _ _ gT6⟩ (aAi ndx ex) (by rw[uV];omega)
      walk_at "w"
      refine⟨wd,H10,rfl,p10,?_⟩
      walk_at "w"
      refine⟨λb o e=>k10 _ _ (S9 _ _ (s6 _ _ e)) (bQ nwd e),?_,_,_,_,_,rfl⟩
      rw[cY ex]
      exact d10
    ·obtain⟨s6,d6,z5,z9,z10,z11,e⟩:=z53q
     subst e
     rw[lvs,Rb9] at d6
     walk_at "w"
     intro l7 nl7
     obtain⟨H7,i7,s7,g7⟩:=nw _ nl7;rw[i7]
     walk_at "w"
     refine lZ g7 (s7 _ _ (s6 _ _ gd)) (cO (by simp;omega)) ?_
     intro l8 nl8
     obtain⟨H8,i8,s8,g8⟩:=nw _ nl8;rw[i8]
     have s68:=s7.trans s8
     walk_at "w"
     refine⟨s'.trans (s6.trans s68),l8,wd::ds,_,_,_,_,_,_,rfl,(s'.trans (s6.trans s7)).free nl8,g8,by rw[yM,ld],⟨Rs9.mpr ⟨λz=>?_,nf.1⟩,λd hd'=>?_⟩,λj d rs h1 h2=>?_⟩
     ·obtain⟨j,ej⟩:=Rm9 z
      have lj:j < ds.length:=(lG.mp ej).1
      have z2:H' wd=some _:=hd j wd _ ej (dF (show ps.length - i+j < Ls.length by omega))
      rw[z2] at nwd
      cases nwd
     ·rcases lW.mp hd' with z|z
      ·rw[z];exact s'.free nwd
      ·exact nf.2 d z
     rw[h2'] at h2 ⊢
     cases j with
     |zero=>
      cases h1
      rw[Ue9,eL] at h2
      cases h2
      exact κS.yE d6 s68
     |succ j=>
      have z:=hd j d rs h1 (by rw[h1',show h+1+j=h+(j+1) by omega];exact h2)
      rw[h1',show h+1+j=h+(j+1) by omega] at z
      rw[show i+1 - (j+1)=i - j by omega]
      exact κS.yE z (s6.trans s68)
   ·obtain⟨s',lt,ds,z5,z7,z8,z9,z10,z11,e,nlt,gd,ld,nf,hd⟩:=z51q
    subst e
    walk_at "w"
    refine k lt Ls H' (s1.trans s') (s1.free nlt) hR lL ⟨ds,gd,by omega,λj d rs h1 h2=>?_,nf.1,λd hd'=>s1.free (nf.2 d hd')⟩
    have z:=hd j d rs h1 (by rw[Tl9,Nat.zero_add];exact h2)
    rw[Tl9,Nat.zero_add] at z
    exact z
theorem cN{H:Hp}{p e:Addr}{qs:List Addr}(hh:bJ H p)(g:H e=some (.lst (qs.map V.ref))):e≠p:=λz=>by
 obtain⟨d,c,q,ms,hp,_⟩:=hh.ex
 rw[z,hp] at g
 cases qs with
 |nil=>cases g
 |cons a r=>cases g
theorem vR.keep{H H':Hp}{p t:Addr}{rows:List (List WP)}(h:vR H t rows)(hh:bJ H p)(k:cE p H H'):vR H' t rows:=by
 obtain⟨es,gt,re⟩:=h.ex
 refine⟨es,k _ _ gt (cN hh gt),re.imp λe row ⟨qs,g,rq⟩=>⟨qs,k _ _ g (cN hh g),rq.imp λq p' ⟨b,z1,z2⟩=>⟨b,k _ _ z1 λy=>hh.iX _ (by rw[<-y];exact z1),k _ _ z2 λy=>hh.iX _ (by rw[<-y];exact z2)⟩⟩⟩
theorem bJ.jX{H H':Hp}{p l:Addr}{qs:List Addr}(h:bJ H p)(g:H l=some (.lst (qs.map V.ref)))(k:cE l H H'):bJ H' p:=by
 obtain⟨d,c,q,ms,hp,hq,hne,hqp⟩:=h.ex
 refine⟨⟨d,c,q,ms,k _ _ hp (Ne.symm (cN h g)),k _ _ hq (λz=>?_),hne,hqp⟩⟩
 rw[z,g] at hq
 cases qs with
 |nil=>cases ms with
  |nil=>exact hne rfl
  |cons _ _=>cases hq
 |cons _ _=>cases ms with
  |nil=>cases hq
  |cons _ _=>cases hq
theorem zG.jX{H H':Hp}{q l:Addr}{p:WP}{xs:List V}(h:zG H q p)(g:H l=some (.lst xs))(k:cE l H H'):zG H' q p:=by
 obtain⟨b,z1,z2⟩:=h
 exact⟨b,k _ _ z1 (λy=>by rw[y,g] at z1;cases z1),k _ _ z2 (λy=>by rw[y,g] at z2;cases z2)⟩
theorem jU.jX{H H':Hp}{e l:Addr}{row:List WP}{xs:List V}(h:jU H e row)(ne:e≠l)(g:H l=some (.lst xs))(k:cE l H H'):jU H' e row:=by
 obtain⟨qs,a,r⟩:=h
 exact⟨qs,k _ _ a ne,r.imp λ_ _ z=>z.jX g k⟩
theorem RL.aPH{α:Type}{P:Addr->α->Prop}{as:List Addr}{xs:List α}(h:RL P as xs){j:Nat}{a:Addr}{x:α}(hp:P a x):RL P (as.set j a) (xs.set j x):=by
 refine⟨by rw[Rv9,Rv9];exact h.len,λi b y h1 h2=>?_⟩
 by_cases e:i=j
 ·subst e
  have hi:i < as.length:=by
   have:=(lG.mp h1).1
   rwa[Rv9] at this
  rw[Rt9 hi] at h1
  rw[Rt9 (by rw[<-h.len];exact hi)] at h2
  cases h1
  cases h2
  exact hp
 ·rw[Sa9 (λz=>e z.symm)] at h1 h2
  exact h.at_ i b y h1 h2
theorem nG{H H':Hp}{fs:List Addr}{rows:List (List WP)}{j:Nat}{f:Addr}{xs:List V}{row':List WP}(r:RL (jU H) fs rows)(nd:fs.Nodup)(ef:fs[j]?=some f)(gf:H f=some (.lst xs))(k:cE f H H')(w:jU H' f row'):RL (jU H') fs (rows.set j row'):=by
 refine⟨by rw[Rv9];exact r.len,λi a x h1 h2=>?_⟩
 by_cases e:i=j
 ·subst e
  rw[ef] at h1
  cases h1
  have hi:i < rows.length:=by rw[<-r.len];exact(lG.mp ef).1
  rw[Rt9 hi] at h2
  cases h2
  exact w
 ·rw[Sa9 (λz=>e z.symm)] at h2
  have na:a≠f:=λz=>e (by
   subst z
   obtain⟨i1,e1⟩:=lG.mp h1
   obtain⟨i2,e2⟩:=lG.mp ef
   exact(Ug9 nd).mp (e1.trans e2.symm))
  exact(r.at_ i a x h1 h2).jX na gf k
theorem eG{H H':Hp}{p:Addr}{fs:List Addr}{rows:List (List WP)}(r:RL (jU H) fs rows)(hh:bJ H p)(k:cE p H H'):RL (jU H') fs rows:=
 r.imp λe row ⟨qs,g,rq⟩=>⟨qs,k _ _ g (cN hh g),rq.imp λq p' ⟨b,z1,z2⟩=>⟨b,k _ _ z1 λy=>hh.iX _ (by rw[<-y];exact z1),k _ _ z2 λy=>hh.iX _ (by rw[<-y];exact z2)⟩⟩
theorem RL.tk{α:Type}{P:Addr->α->Prop}{as:List Addr}{xs:List α}(h:RL P as xs)(n:Nat):RL P (as.take n) (xs.take n):=by
 refine⟨by rw[uV,uV,h.len],λj a x h1 h2=>?_⟩
 rw[List.getElem?_take] at h1 h2
 by_cases e:j < n
 ·rw[if_pos e] at h1 h2
  exact h.at_ j a x h1 h2
 ·rw[if_neg e] at h1
  cases h1
theorem RL.dp{α:Type}{P:Addr->α->Prop}{as:List Addr}{xs:List α}(h:RL P as xs)(n:Nat):RL P (as.drop n) (xs.drop n):=by
 refine⟨by rw[Sf9,Sf9,h.len],λj a x h1 h2=>?_⟩
 rw[Ti9] at h1 h2
 exact h.at_ _ a x h1 h2
theorem RL.erase{α:Type}{P:Addr->α->Prop}{as:List Addr}{xs:List α}(h:RL P as xs)(j:Nat):RL P (as.eraseIdx j) (xs.eraseIdx j):=by
 rw[Sh9,Sh9]
 exact RL.app (h.tk j) (h.dp (j+1))
theorem aHX(qs:List Addr)(j:Nat):(qs.eraseIdx j).map V.ref=(qs.map V.ref).eraseIdx j:=by
 rw[Sh9,Sh9,iI,List.map_take,List.map_drop]
structure sF(k:Nat)(rows:List (List WP)):Prop where
 len:rows.length<=10
 row:∀row∈rows,row.length<=k/\∀p∈row,St0 p.1.1 p.1.2
theorem sF.le{k k':Nat}{rows:List (List WP)}(h:sF k rows)(l:k<=k'):sF k' rows:=⟨h.len,λrow hr=>⟨zK (h.row row hr).1 l,(h.row row hr).2⟩⟩
theorem sF.put{k k' j:Nat}{rows:List (List WP)}{row':List WP}(h:sF k rows)(l:k<=k')(hl:row'.length<=k')(hp:∀p∈row',St0 p.1.1 p.1.2):sF k' (rows.set j row'):=⟨by rw[Rv9];exact h.len,λrow hr=>by
 rcases Rz9 hr with z|z
 ·exact(h.le l).row row z
 ·rw[z];exact⟨hl,hp⟩⟩
theorem aHY{H:Hp}{Q:VK}{a:Addr}{y:V}{o:Option V}(g:hU H a y o)(q:Q (.bl !o.isSome) H):aDw y (.ref a) H Q:=⟨a,o,rfl,g,q⟩
theorem aLP{K:W.Frag}{H:Hp}{Q:VK}{p q:Addr}{xs ys:List Int}(h1:iY K H p (xs.map V.int))(h2:iY K H q (ys.map V.int))(h:Q (.bl (decide (xs=ys))) H):jY K (.ref p) (.ref q) H Q:=⟨_,aEz (.inr ⟨h1,h2⟩),h⟩
section
variable{W:Nat->Int×Int->List (Wy (Int×Int))}{x:Int×Int}{n:Nat}{rows:List (List WP)}{num:Int}
theorem aOa(h:rows.length≠n+1):nZ W x n rows num=false:=by unfold nZ;rw[decide_eq_false h];rfl
theorem aOb{row:List WP}(hr:row∈rows)(h:iP row=false):nZ W x n rows num=false:=by
 unfold nZ
 rw[show rows.all iP=false from List.all_eq_false.mpr ⟨row,hr,by rw[h];simp⟩,Rx9,Rh9]
theorem aOc(h:kM (rows.getD 0 []) x≠some num):nZ W x n rows num=false:=by
 unfold nZ
 rw[decide_eq_false h,Rx9,Rh9,Rh9]
theorem aOd(h:((rows.getD n []).any λp=>decide (p.2 > 0))=true):nZ W x n rows num=false:=by
 unfold nZ
 rw[h,Td9,Rx9,Rh9,Rh9,Rh9]
theorem aOe{i:Nat}(hi:i < n)(h:wY W i (rows.getD i []) (rows.getD (i+1) [])=false):nZ W x n rows num=false:=by
 unfold nZ
 rw[show(List.range n).all (λi=>wY W i (rows.getD i []) (rows.getD (i+1) []))=false from List.all_eq_false.mpr ⟨i,Rn9.mpr hi,by rw[h];simp⟩,Rh9,Rh9,Rh9,Rh9]
theorem aPl(h1:rows.length=n+1)(h2:∀row∈rows,iP row=true)(h3:kM (rows.getD 0 []) x=some num)(h4:((rows.getD n []).any λp=>decide (p.2 > 0))=false)(h5:∀i,i < n->wY W i (rows.getD i []) (rows.getD (i+1) [])=true):nZ W x n rows num=true:=by
 unfold nZ
 rw[decide_eq_true h1,Ry9.mpr h2,decide_eq_true h3,h4,Ry9.mpr λi hi=>h5 i (Rn9.mp hi)]
 rfl
end
theorem aLQ{kvs:List (List Key×V)}{k:List Key}{v:V}(h:(kvs.map (·.1)).Nodup):((putK kvs k v).map (·.1)).Nodup:=by
 by_cases e:∃q∈kvs,q.1=k
 ·unfold putK
  obtain⟨q,hq,eq⟩:=e
  rw[if_pos (Tp9.mpr ⟨q,hq,decide_eq_true eq⟩),Rp9]
  rw[show(λx:List Key×V=>x.1) ∘ (λkv:List Key×V=>if kv.1=k then (kv.1,v) else kv)=λx=>x.1 from funext λkv=>by
   show(if kv.1=k then (kv.1,v) else kv).1=kv.1
   split <;> rfl]
  exact h
 ·rw[aBD e,iI,Sn9]
  refine⟨h,by simp,λa ha b hb z=>e ?_⟩
  obtain⟨q,hq,rfl⟩:=o8.mp ha
  exact⟨q,hq,z.trans (zJ.mp hb)⟩
theorem aC1:∀{more acc:List (List Key×V)},(acc.map (·.1)).Nodup->((mgT acc more).map (·.1)).Nodup
 |[],_,h=>h
 |p::r,acc,h=>aC1 (more:=r) (acc:=putK acc p.1 p.2) (aLQ h)
theorem aAj{row:List WP}(h:iP row=true):(row.map (·.1)).Nodup:=by
 have z:((eO (enc row)).map (·.1)).Nodup:=aC1 (acc:=[]) Sy9
 rw[zF h] at z
 unfold enc at z
 rw[Rp9] at z
 exact Ri9.mpr ((Ri9.mp z).imp λ{a b} hab y=>hab (by show iH a.1=iH b.1;rw[y]))
theorem aKc{α:Type}[DecidableEq α]:∀{us ts:List α},us.Nodup->(∀t∈us,t∈ts)->us.length<=ts.length
 |[],_,_,_=>zL _
 |u::us,ts,h,k=>by
  obtain⟨h1,h2⟩:=Rs9.mp h
  have hu:=k u (.head _)
  have:=aKc (us:=us) (ts:=ts.erase u) h2 λt ht=>(List.mem_erase_of_ne (λ(z:t=u)=>h1 (by rw[<-z];exact ht))).mpr (k t (.tail _ ht))
  rw[List.length_erase_of_mem hu] at this
  have:=List.length_pos_of_mem hu
  rw[yM]
  omega
theorem aC2{α:Type}[DecidableEq α]:∀{ts us:List α},us.Nodup->(∀t∈us,t∈ts)->ts.length<=us.length->ts.Nodup
 |[],_,_,_,_=>Sy9
 |t::r,us,h,k,l=>by
  rw[yM] at l
  by_cases e:t∈r
  ·have:=aKc (us:=us) (ts:=r) h λx hx=>by
    rcases lW.mp (k x hx) with z|z
    ·rw[z];exact e
    ·exact z
   omega
  ·refine Rs9.mpr ⟨e,aC2 (us:=us.erase t) (h.erase t) (λx hx=>?_) ?_⟩
   ·have hx':=List.mem_of_mem_erase hx
    rcases lW.mp (k x hx') with z|z
    ·subst z
     exact absurd hx (h.not_mem_erase)
    ·exact z
   ·rw[List.length_erase]
    split <;> omega
theorem aOf{row:List WP}{us:List (List Int)}(h1:us.Nodup)(h2:∀t,t∈us↔t∈row.map λp=>[p.1.1,p.1.2]):(us.length=row.length↔iP row=true):=by
 have inj:∀a b:WP,([a.1.1,a.1.2]:List Int)=[b.1.1,b.1.2]->a.1=b.1:=λa b z=>by
  simp only[List.cons.injEq,and_true] at z
  exact Prod.ext z.1 z.2
 constructor
 ·intro e
  have z:=aC2 (ts:=row.map λp=>[p.1.1,p.1.2]) h1 (λt ht=>(h2 t).mp ht) (by rw[cD];omega)
  refine aHW (Ri9.mpr ((Ri9.mp z).imp λ{a b} hab y=>hab ?_))
  rw[y]
 ·intro e
  have z:(row.map λp=>[p.1.1,p.1.2]).Nodup:=Ri9.mpr ((Ri9.mp (aAj e)).imp λ{a b} hab y=>hab (inj a b y))
  have:=((List.perm_ext_iff_of_nodup h1 z).mpr h2).length_eq
  rw[cD] at this
  exact this
theorem aG0{x:Int×Int}:∀{row:List WP},(row.map (·.1)).Nodup->(row.filter λp=>decide (p.1=x)).map (·.2)=(kM row x).toList
 |[],_=>rfl
 |p::r,h=>by
  obtain⟨h1,h2⟩:=Rs9.mp h
  unfold kM
  rw[Sr9]
  by_cases e:p.1=x
  ·rw[Tg9,if_pos (decide_eq_true e),decide_eq_true e,Rg9,show r.filter (λp=>decide (p.1=x))=[] from Tz9.mpr λq hq z=>h1 (o8.mpr ⟨q,hq,(of_decide_eq_true z).trans e.symm⟩)]
   rfl
  ·rw[Tg9,if_neg (by rw[decide_eq_true_eq];exact e),decide_eq_false e]
   exact aG0 h2
def yJ(m:MS)(pr n:Int)(s:Int×Int)(pb:List WP)(on:Int):Bool:=!wX s on || (match kM pb (o7 m s.1 s.2 on) with|some g=>decide (n<=hw m pr s on+g)|none=>false)
theorem aC3(m:MS)(pr n:Int)(s:Int×Int)(pb:List WP):rX n (rwy m pr s) pb=([0,1]:List Int).all (yJ m pr n s pb):=by
 unfold rX rwy
 rw[List.all_map,List.all_filter]
 rfl
def aBM(K:W.Frag):Sp:=λvs H Q _=>∃(s:Addr) (m:MS) (b:Addr) (st:Int×Int) (q tb:Addr) (ps:List Int) (rows:List (List WP)) (num:Int),vs=[.ref s,.ref b,.ref q,.ref tb,.int num]/\d8 H s m/\m.Good/\H b=some (.tup [.int st.1,.int st.2])/\H q=some (.lst (ps.map V.int))/\(∀n∈ps,Am n)/\ps.length<=48/\vR H tb rows/\rows.length<=60/\(∀row∈rows,row.length < 64/\∀p∈row,St0 p.1.1 p.1.2)/\
 ∀H',aU H H'->Q (.bl (nZ (Wr m ps) st ps.length rows num)) H'
theorem aBN{P:Program}{w:World}{K:PySem.W.Frag}{mg:Str->Option Value}{base:Heap}{a:qA}(tx:Txt K mg a):cR P w K mg base lQ 3 a.kY a.kZ ["_law_spec_here","_law_state_here","_law_prices_here","_law_table","_law_number"] (aBM K):=by
 have hJ:=pO (P:=P) (w:=w) (base:=base) tx
 have uT:=yH (P:=P) (w:=w) (base:=base) tx
 refine tx.pJ.ok cV (λvs H Q E h=>?_) (λcdv A outer s H vs Q E hr h=>?_)
 ·obtain⟨s,m,b,st,q,tb,ps,rows,num,rfl,_⟩:=h
  rfl
 ·obtain⟨s,m,b,st,q,tb,ps,rows,num,rfl ,hs,hg,hb,hq,ha,hl,htb,hlen,hrow,k⟩:=h
  have hu:=qJ hr
  refine bV (aH (bH (aZ (r:=yW K) (sZ hu) (aO (rc:=lK K) cB (by rfl) tx.dX dI (aB (Z.pv 3) aG)) (aM bY (aO (rc:=lK K) cB (by rfl) tx.dX dI (aB (Z.pv 2) aG)) aF) (bP _)) (aJ (aR cU)) aY)
   (aH (cC PassesOwn.never rfl (bR (K':=K) (Z.pv 3)) (aQ (i:=5) cV.nd) (aH (qQ (k:=2) (idx:=[]) (N:=["_law_one","_law_worth"]) (i:=8) cV.nd rfl (Or.inl rfl) (dZ (sc:=aL dB) (NX:=["_law_spec_here","_law_state_here","_law_prices_here","_law_table","_law_number","_law_entries","_law_one","_law_worth","_law_states","_law_hour_here","_law_later","_law_on","_law_behind"]) rfl rfl rfl (by decide +kernel)) rfl (bR (K':=K) (Z.pv 5)) (λ_ _ _ _=>(cT (K':=K) (n:=2) rfl (bF (aQ (i:=0) (show(["_law_one","_law_worth"]:List Str).Nodup by decide +kernel)) (bF (aQ (i:=1) (show(["_law_one","_law_worth"]:List Str).Nodup by decide +kernel)) cS)))) (qI (cW (by decide) (cW (by decide) nJ))) (λ_ _ _ _=>cK) (λ_ _ _ _=>(Z.pv 0)))
   (aJ (bH (aZ (r:=yW K) (sZ hu) (aO (rc:=aJM w) aHK (by rfl) tx.dX dI (aB (cH (rc:=aGM w) (aCN rfl hu) (by rfl) tx.aBr aJG (aB (Z.pv 8) aG)) aG)) (aO (rc:=lK K) cB (by rfl) tx.dX dI (aB (Z.pv 8) aG)) (bP _)) (aJ (aR cU)) aY))))
   (aH (bH (aZ (r:=yW K) (sZ hu) (cM (k:=2) (idx:=[1]) (N:=["_law_one","_law_worth","_law_state_here"]) (dZ (sc:=aL dB) (NX:=["_law_spec_here","_law_state_here","_law_prices_here","_law_table","_law_number","_law_entries","_law_one","_law_worth","_law_states","_law_hour_here","_law_later","_law_on","_law_behind"]) rfl rfl rfl (by decide +kernel)) rfl (bR (K':=K) (aN (K':=K) (Z.pv 3) aF)) (λ_ _ _ _=>(cT (K':=K) (n:=2) rfl (bF (aQ (i:=0) (show(["_law_one","_law_worth","_law_state_here"]:List Str).Nodup by decide +kernel)) (bF (aQ (i:=1) (show(["_law_one","_law_worth","_law_state_here"]:List Str).Nodup by decide +kernel)) cS)))) (qI (cW (by decide) (cW (by decide) nJ))) (λ_ _ _ _=>(qP (aZ (r:=jY K) (dR hu) (Z.pv 0) (Z.pv 2) (bP _)))) (λ_ _ _ _=>(Z.pv 1))) (mC (Z.pv 4)) (bP _)) (aJ (aR cU)) aY)
   (aH (bH (aZ (r:=yW K) (sZ hu) (cM (k:=2) (idx:=[]) (N:=["_law_one","_law_worth"]) (dZ (sc:=aL dB) (NX:=["_law_spec_here","_law_state_here","_law_prices_here","_law_table","_law_number","_law_entries","_law_one","_law_worth","_law_states","_law_hour_here","_law_later","_law_on","_law_behind"]) rfl rfl rfl (by decide +kernel)) rfl (bR (K':=K) (aN (K':=K) (Z.pv 3) (fX nH aF))) (λ_ _ _ _=>(cT (K':=K) (n:=2) rfl (bF (aQ (i:=0) (show(["_law_one","_law_worth"]:List Str).Nodup by decide +kernel)) (bF (aQ (i:=1) (show(["_law_one","_law_worth"]:List Str).Nodup by decide +kernel)) cS)))) (qI (cW (by decide) (cW (by decide) nJ))) (λ_ _ _ _=>(qP (aZ xA (Z.pv 1) aF (bP _)))) (λ_ _ _ _=>(Z.pv 1))) (gQ aG) (bP _)) (aJ (aR cU)) aY)
   (aH (cC PassesOwn.never rfl (dO (by rfl) tx.fK (aB (aO (rc:=lK K) cB (by rfl) tx.dX dI (aB (Z.pv 2) aG)) aG)) (aQ (i:=9) cV.nd) (aH (aP (i:=10) cV.nd (cH (rc:=y9) (qT rfl hu) (by rfl) tx.rV aAF (aB (aN (K':=K) (Z.pv 3) (aM bY (Z.pv 9) aF)) aG)))
   (aJ (cC PassesOwn.never rfl (bR (K':=K) (aN (K':=K) (Z.pv 3) (Z.pv 9))) (cT (K':=K) (n:=2) rfl (bF (aQ (i:=6) cV.nd) (bF (aQ (i:=7) cV.nd) cS))) (aJ (cC PassesOwn.never rfl (nP (K':=K) (cQ aF aF)) (aQ (i:=11) cV.nd) (aH (aP (i:=12) cV.nd (zq1 hJ hr tx.jQ tx.gZ.kp tx.jP (aB (Z.pv 0) (aB (Z.pv 6) (aB (Z.pv 11) aG)))))
   (aJ (bH (aZ uY (Z.pv 12) nB (bP _)) (aH (bH (aZ (r:=aDw) (aHH hu) (Z.pv 12) (Z.pv 10) (by with_unfolding_all rfl)) (aJ (aR cU)) aY)
   (aJ (bH (aZ xA (Z.pv 7) (aM bY (zq1 uT hr tx.uF tx.o6.kp tx.uB (aB (Z.pv 0) (aB (Z.pv 6) (aB (aN (K':=K) (Z.pv 2) (Z.pv 9)) (aB (Z.pv 11) aG))))) (lM hu (Z.pv 10) (Z.pv 12))) (bP _)) (aJ (aR cU)) aY))) aY)))))))))
   (aJ (aR cU))))))) ?_
  obtain⟨es,gt,re⟩:=htb.ex
  have les:=re.len
  have out:∀H',aU H H'->nZ (Wr m ps) st ps.length rows num=false->Q (.bl false) H':=λH' s e=>by
   have:=k H' s
   rwa[e] at this
  refine bK (σ:=[some (.ref s),some (.ref b),some (.ref q),some (.ref tb),some (.int num),none,none,none,none,none,none,none,none]) rfl ?_
  walk_at "w"
  rw[cD,cD,les]
  refine oE (λh1=>?_) (λh1=>?_)
  ·walk_at "w"
   exact out H (aU.refl _) (aOa (by omega))
  have h1':rows.length=ps.length+1:=by omega
  walk_at "w"
  refine iE (bU.of gt) ?_
  refine qM (xs:=es.map V.ref) (λj σ' H'=>aU H H'/\(∀row∈rows.take j,iP row=true)/\∃(z5 z8:Option V),σ'=[some (.ref s),some (.ref b),some (.ref q),some (.ref tb),some (.int num),z5,none,none,z8,none,none,none,none]) ⟨aU.refl _,(λ_ h=>by cases h),_,_,rfl⟩
   (λj σ' H' hj ⟨s',_⟩=>bU.of (s' _ _ gt)) (λj v σ' H1 hv z56q=>?_) (λσ' H1 z57q=>?_)
  ·obtain⟨s1,ok,z5,z8,e⟩:=z56q
   subst e
   obtain⟨e1,row,ee,rfl,er,qs,gq,rq⟩:=re.gt hv
   have lq:=rq.len
   have hr:=hrow row (iW er)
   have gq1:=s1 _ _ gq
   walk_at "w"
   refine iE (bU.of gq1) ?_
   refine dP (xs:=qs.map V.ref) (λj us H'=>H'=H1/\∃bs:List Addr,us=bs.map V.ref/\RL (λb (p:WP)=>H1 b=some (.tup [.int p.1.1,.int p.1.2])) bs (row.take j)) ⟨rfl,[],rfl,RL.nil⟩ (cO (by rw[cD];omega))
    (λj us H' hj ⟨e0,bs,e1,r⟩=>⟨by rw[e0];exact bU.of gq1,by rw[e1,cD,r.len,uV];omega⟩) (λj v us H' hv z58q=>?_) (λus H' z59q=>?_)
   ·obtain⟨e0,bs,e1,r⟩:=z58q
    subst e0
    obtain⟨q1,w,eq1,rfl,ew,b1,y1,y2⟩:=rq.gt hv
    refine fB (iY.of (s1 _ _ y1)) rfl ?_
    walk_at "w"
    refine⟨rfl,bs ++ [b1],by rw[e1,iI];rfl,?_⟩
    rw[cY ew]
    exact RL.snoc r (s1 _ _ y2)
   obtain⟨e0,bs,e1,r⟩:=z59q
   subst e0 e1
   rw[cD,lq,Rb9] at r
   have lbs:=r.len
   intro ls nls
   obtain⟨H2,i2,s2,g2⟩:=nw _ nls;rw[i2]
   have pQ:d7 H2 bs (row.map λp=>[p.1.1,p.1.2]):=⟨by rw[lbs,cD],λj a t ea et=>by
    rw[qB] at et
    obtain⟨p,ep,rfl⟩:=Qs9.mp et
    exact⟨s2 _ _ (r.at_ j a p ea ep),by simp⟩⟩
   walk_at "w"
   refine aGN (al:=row.map λp=>[p.1.1,p.1.2]) g2 pQ (λ_ h=>h) (by rw[cD];exact hr.1) λp qs' us np tu nu mu=>?_
   obtain⟨H3,i3,s3,g3⟩:=nw _ np;rw[i3]
   have lu:=tu.len
   have iff:=aOf nu mu
   have S3:=s1.trans (s2.trans s3)
   walk_at "w"
   refine aLE g3 ?_
   have g23:=s3 _ _ g2
   walk_at "w"
   rw[cD,lbs,lu]
   refine oE (λh2=>?_) (λh2=>?_)
   ·walk_at "w"
    refine out H3 S3 (aOb (iW er) ?_)
    cases ek:iP row with
    |false=>rfl
    |true=>exact absurd (iff.mpr ek) (by omega)
   ·walk_at "w"
    refine⟨S3,λrow' h'=>?_,_,_,rfl⟩
    rw[cY er] at h'
    rcases Rf9.mp h' with z|z
    ·exact ok row' z
    ·rw[zJ.mp z];exact iff.mp (by omega)
  obtain⟨s1,ok,z5,z8,e⟩:=z57q
  subst e
  rw[cD,les,Rb9] at ok
  have e0:es[0]?=some es[0]:=dF (by omega)
  have r0:rows[0]?=some rows[0]:=dF (by omega)
  have eg0:rows.getD 0 []=rows[0]:=by rw[Qo9,r0];rfl
  obtain⟨qs,gq,rq⟩:=re.at_ 0 _ _ e0 r0
  generalize es[0]=f0 at e0 gq
  generalize rows[0]=row0 at r0 rq eg0
  have ix0:p9 (es.map V.ref) 0=some (.ref f0):=dA (j:=0) (fL e0)
  have hr0:=hrow row0 (iW r0)
  have ok0:=aAj (ok row0 (iW r0))
  have lq:=rq.len
  have gt1:=s1 _ _ gt
  have gq1:=s1 _ _ gq
  have hb1:=s1 _ _ hb
  walk_at "w"
  refine iE (bU.of gq1) ?_
  refine dP (xs:=qs.map V.ref) (λj us H'=>H'=H1/\us=(((row0.take j).filter λp=>decide (p.1=st)).map (·.2)).map V.int) ⟨rfl,rfl⟩ (cO (by rw[cD];omega))
   (λj us H' hj ⟨e0,e1⟩=>⟨by rw[e0];exact bU.of gq1,by rw[e1,cD,cD];exact zK (Sx9 ..) (by rw[uV];omega)⟩) (λj v us H' hv z60q=>?_) (λus H' z61q=>?_)
  ·obtain⟨e0,e1⟩:=z60q
   subst e0
   obtain⟨q1,w,eq1,rfl,ew,b1,y1,y2⟩:=rq.gt hv
   refine fB (iY.of (s1 _ _ y1)) rfl ?_
   walk_at "w"
   refine aLP (xs:=[w.1.1,w.1.2]) (ys:=[st.1,st.2]) (iY.of (s1 _ _ y2)) (iY.of hb1) ?_
   walk_at "w"
   refine cI (λh=>?_) (λh=>?_)
   ·have h':w.1=st:=by simp only[List.cons.injEq,and_true] at h;exact Prod.ext h.1 h.2
    walk_at "w"
    refine⟨rfl,?_⟩
    rw[e1,cY ew,Sc9,iI,iI,Tg9,if_pos (decide_eq_true h')]
    rfl
   ·have h':¬w.1=st:=λz=>h (by rw[z])
    walk_at "w"
    refine⟨rfl,?_⟩
    rw[e1,cY ew,Sc9,iI,iI,Tg9,if_neg (by rw[decide_eq_true_eq];exact h')]
    simp
  obtain⟨e0,e1⟩:=z61q
  subst e0 e1
  rw[cD,lq,Rb9,aG0 ok0]
  intro lx nlx
  obtain⟨H2,i2,s2,g2⟩:=nw _ nlx;rw[i2]
  walk_at "w"
  intro ly nly
  obtain⟨H3,i3,s3,g3⟩:=nw _ nly;rw[i3]
  have S3:=s1.trans (s2.trans s3)
  refine aDi (ys:=[num]) (bU.of (s3 _ _ g2)) (bU.of g3) ?_
  walk_at "w"
  refine oE (λh3=>?_) (λh3=>?_)
  ·walk_at "w"
   refine out H3 S3 (aOc ?_)
   rw[eg0]
   intro z
   rw[z] at h3
   exact h3 rfl
  have h3':kM (rows.getD 0 []) st=some num:=by
   rw[eg0]
   cases z:kM row0 st with
   |none=>rw[z] at h3;cases h3
   |some g=>rw[z] at h3;cases h3;rfl
  have en:es[ps.length]?=some es[ps.length]:=dF (by omega)
  have rn:rows[ps.length]?=some rows[ps.length]:=dF (by omega)
  have egn:rows.getD ps.length []=rows[ps.length]:=by rw[Qo9,rn];rfl
  obtain⟨qn,gqn,rqn⟩:=re.at_ ps.length _ _ en rn
  generalize es[ps.length]=fn at en gqn
  generalize rows[ps.length]=rown at rn rqn egn
  have ixn:p9 (es.map V.ref) (-1)=some (.ref fn):=by
   rw[sU (by rw[cD];omega),cD,les,h1',Sv9]
   exact fL en
  have hrn:=hrow rown (iW rn)
  have lqn:=rqn.len
  have gt3:=S3 _ _ gt
  have gqn3:=S3 _ _ gqn
  walk_at "w"
  refine iE (bU.of gqn3) ?_
  refine dP (xs:=qn.map V.ref) (λj us H'=>H'=H3/\us=(((rown.take j).filter λp=>decide (p.2 > 0)).map (·.2)).map V.int) ⟨rfl,rfl⟩ (cO (by rw[cD];omega))
   (λj us H' hj ⟨e0,e1⟩=>⟨by rw[e0];exact bU.of gqn3,by rw[e1,cD,cD];exact zK (Sx9 ..) (by rw[uV];omega)⟩) (λj v us H' hv z62q=>?_) (λus H' z63q=>?_)
  ·obtain⟨e0,e1⟩:=z62q
   subst e0
   obtain⟨q1,w,eq1,rfl,ew,b1,y1,y2⟩:=rqn.gt hv
   refine fB (iY.of (S3 _ _ y1)) rfl ?_
   walk_at "w"
   refine cI (λh=>?_) (λh=>?_)
   ·walk_at "w"
    refine⟨rfl,?_⟩
    rw[e1,cY ew,Sc9,iI,iI,Tg9,if_pos (decide_eq_true h)]
    rfl
   ·walk_at "w"
    refine⟨rfl,?_⟩
    rw[e1,cY ew,Sc9,iI,iI,Tg9,if_neg (by rw[decide_eq_true_eq];exact h)]
    simp
  obtain⟨e0,e1⟩:=z63q
  subst e0 e1
  rw[cD,lqn,Rb9]
  intro lp nlp
  obtain⟨H4,i4,s4,g4⟩:=nw _ nlp;rw[i4]
  walk_at "w"
  intro l0 nl0
  obtain⟨H5,i5,s5,g5⟩:=nw _ nl0;rw[i5]
  have S5:=S3.trans (s4.trans s5)
  refine aDi (ys:=[]) (bU.of (s5 _ _ g4)) (bU.of g5) ?_
  walk_at "w"
  refine oE (λh4=>?_) (λh4=>?_)
  ·walk_at "w"
   refine out H5 S5 (aOd ?_)
   rw[egn]
   cases z:rown.any λp=>decide (p.2 > 0) with
   |true=>rfl
   |false=>exact absurd (by rw[Tz9.mpr (List.any_eq_false.mp z)];rfl) h4
  have h4':((rows.getD ps.length []).any λp=>decide (p.2 > 0))=false:=by
   rw[egn]
   exact List.any_eq_false.mpr (Tz9.mp (List.map_eq_nil_iff.mp h4))
  walk_at "w"
  rw[cD]
  refine⟨by omega,by omega,?_⟩
  rw[Ru9]
  refine nL (n:=ps.length) (λi σ' H'=>aU H5 H'/\(∀i',i' < i->wY (Wr m ps) i' (rows.getD i' []) (rows.getD (i'+1) [])=true)/\∃(z5 z6 z7 z8 z9 z10 z11 z12:Option V),σ'=[some (.ref s),some (.ref b),some (.ref q),some (.ref tb),some (.int num),z5,z6,z7,z8,z9,z10,z11,z12]) ⟨aU.refl _,(λ_ h=>absurd h (Nat.not_lt_zero _)),_,_,_,_,_,_,_,_,rfl⟩
   (λi σ' H6 hi z64q=>?_) (λσ' H6 z65q=>?_)
  ·obtain⟨s6,hk,z5,z6,z7,z8,z9,z10,z11,z12,e⟩:=z64q
   subst e
   have S6:=S5.trans s6
   have ea:es[i]?=some es[i]:=dF (by omega)
   have ra:rows[i]?=some rows[i]:=dF (by omega)
   have eb:es[i+1]?=some es[i+1]:=dF (by omega)
   have rb:rows[i+1]?=some rows[i+1]:=dF (by omega)
   have ega:rows.getD i []=rows[i]:=by rw[Qo9,ra];rfl
   have egb:rows.getD (i+1) []=rows[i+1]:=by rw[Qo9,rb];rfl
   have epr:ps[i]?=some ps[i]:=dF hi
   have egp:ps.getD i 0=ps[i]:=by rw[Qo9,epr];rfl
   have apr:=ha ps[i] (Rk9 hi)
   obtain⟨qa,gqa,rqa⟩:=re.at_ i _ _ ea ra
   obtain⟨qb,gqb,rqb⟩:=re.at_ (i+1) _ _ eb rb
   generalize es[i]=fa at ea gqa
   generalize es[i+1]=fb at eb gqb
   generalize rows[i]=pa at ra rqa ega
   generalize rows[i+1]=pb at rb rqb egb
   generalize ps[i]=pr at epr egp apr
   have W0:∀x,Wr m ps i x=rwy m pr x:=λx=>by unfold Wr;rw[egp]
   have bad:∀H',aU H H'->(∃p∈pa,∃on∈([0,1]:List Int),yJ m pr p.2 p.1 pb on=false)->Q (.bl false) H':=λH' s' ⟨p,hp,on,hon,e⟩=>out H' s' (aOe hi (by
    rw[ega,egb]
    refine List.all_eq_false.mpr ⟨p,hp,?_⟩
    rw[W0,aC3]
    intro z
    rw[Ry9.mp z on hon] at e
    cases e))
   have ixa:p9 (es.map V.ref) (0+(i:Int))=some (.ref fa):=by rw[Int.zero_add];exact dA (fL ea)
   have ixb:p9 (es.map V.ref) (0+(i:Int)+1)=some (.ref fb):=by
    rw[show(0+(i:Int))+1=((i+1:Nat):Int) by push_cast;omega]
    exact dA (fL eb)
   have ixp:p9 (ps.map V.int) (0+(i:Int))=some (.int pr):=by rw[Int.zero_add];exact dA (by rw[qB,epr];rfl)
   have gt6:=S6 _ _ gt
   have lqa:=rqa.len
   have lqb:=rqb.len
   have hra:=hrow pa (iW ra)
   have hrb:=hrow pb (iW rb)
   have hq6:=S6 _ _ hq
   walk_at "w"
   refine xM (S6 _ _ gqb) (vN (rqb.imp λ_ _ z=>z.same S6)) (by omega) λdp ndp=>?_
   rw[zF (ok pb (iW rb))]
   obtain⟨H7,i7,s7,g7⟩:=nw _ ndp;rw[i7]
   have S7:=S6.trans s7
   have gt7:=s7 _ _ gt6
   have gqa7:=S7 _ _ gqa
   have hq7:=s7 _ _ hq6
   walk_at "w"
   refine iE (bU.of gqa7) ?_
   refine qM (xs:=qa.map V.ref) (λj σ' H'=>aU H7 H'/\(∀p∈pa.take j,rX p.2 (rwy m pr p.1) pb=true)/\∃(z6 z7 z11 z12:Option V),σ'=[some (.ref s),some (.ref b),some (.ref q),some (.ref tb),some (.int num),z5,z6,z7,z8,some (.int (0+(i:Int))),some (.ref dp),z11,z12]) ⟨aU.refl _,(λ_ h=>by cases h),_,_,_,_,rfl⟩
    (λj σ' H' hj ⟨s',_⟩=>bU.of (s' _ _ gqa7)) (λj v σ' H8 hv z66q=>?_) (λσ' H8 z67q=>?_)
   ·obtain⟨s8,hp,z6,z7,z11,z12,e⟩:=z66q
    subst e
    obtain⟨q1,w,eq1,rfl,ew,T,y1,y2⟩:=rqa.gt hv
    have S8:=S7.trans s8
    have hw:=hra.2 w (iW ew)
    refine fB (iY.of (S8 _ _ y1)) rfl ?_
    walk_at "w"
    intro To nTo
    obtain⟨H9,i9,s9,g9⟩:=nw _ nTo;rw[i9]
    walk_at "w"
    refine aEy (iY.of g9) ?_
    refine aDg (xs:=([0,1]:List Int).map V.int) (λl σ' H'=>aU H9 H'/\(∀on∈([0,1]:List Int).take l,yJ m pr w.2 w.1 pb on=true)/\∃(z11 z12:Option V),σ'=[some (.ref s),some (.ref b),some (.ref q),some (.ref tb),some (.int num),z5,some (.ref T),some (.int w.2),z8,some (.int (0+(i:Int))),some (.ref dp),z11,z12]) ⟨aU.refl _,(λ_ h=>by cases h),_,_,rfl⟩
     (λl σ' H' hj ⟨s',_⟩=>iY.of (s' _ _ g9)) (λl v σ' H10 hv z68q=>?_) (λσ' H10 z69q=>?_)
    ·obtain⟨s10,ho,z11,z12,e⟩:=z68q
     subst e
     obtain⟨on,eon,rfl⟩:=aDU hv
     have bon:Bit on:=by
      have:=iW eon
      simp at this
      exact this
     have hon:=iW eon
     have s710:=s8.trans (s9.trans s10)
     have S10:=S7.trans s710
     have tk:([0,1]:List Int).take (l+1)=([0,1]:List Int).take l ++ [on]:=by rw[Sg9,eon];rfl
     have step:yJ m pr w.2 w.1 pb on=true->∀on'∈([0,1]:List Int).take (l+1),yJ m pr w.2 w.1 pb on'=true:=λh on' h'=>by
      rw[tk] at h'
      rcases Rf9.mp h' with z|z
      ·exact ho on' z
      ·rw[zJ.mp z];exact h
     walk_at "w"
     refine⟨s,m,T,_,_,on,rfl,hs.same S10,S10 _ _ y2,bon,hw.1,hw.2.1,λv0 H11 s11 o0=>?_⟩
     have S11:=S10.trans s11
     have g711:=(s710.trans s11) _ _ g7
     have hq11:=(s710.trans s11) _ _ hq7
     cases hm:wX w.1 on with
     |true=>
      rw[aFe hm] at o0
      obtain⟨T0,rfl,gT0⟩:=o0
      have hgD:=hU.t (k:=iH (o7 m w.1.1 w.1.2 on)) g711 gT0
      rw[rW] at hgD
      repeat walk_at "gs"
      refine aHY hgD ?_
      cases eg:kM pb (o7 m w.1.1 w.1.2 on) with
      |none=>
       repeat walk_at "gs"
       exact bad H11 S11 ⟨w,iW ew,on,hon,by unfold yJ;rw[hm,eg];rfl⟩
      |some g=>
       rw[eg] at hgD
       repeat walk_at "gs"
       refine⟨s,m,T,w.1,pr,on,rfl,hs.same S11,hg,S11 _ _ y2,hw.1,apr.1,by have:=apr.2;omega,bon,λH12 s12=>?_⟩
       have hgD':=hU.t (k:=iH (o7 m w.1.1 w.1.2 on)) (s12 _ _ g711) (s12 _ _ gT0)
       rw[rW,eg] at hgD'
       repeat walk_at "gs"
       refine⟨dp,_,rfl,hgD',?_⟩
       repeat walk_at "gs"
       refine cI (λhgt=>?_) (λhgt=>?_)
       ·repeat walk_at "gs"
        exact bad H12 (S11.trans s12) ⟨w,iW ew,on,hon,by unfold yJ;rw[hm,eg];exact decide_eq_false (by omega)⟩
       ·repeat walk_at "gs"
        exact⟨s10.trans (s11.trans s12),step (by unfold yJ;rw[hm,eg];exact decide_eq_true (by omega)),_,_,rfl⟩
     |false=>
      rw[aFf hm] at o0
      have o0':v0=.non:=o0
      subst o0'
      repeat walk_at "gs"
      exact⟨s10.trans s11,step (by unfold yJ;rw[hm];rfl),_,_,rfl⟩
    ·obtain⟨s10,ho,z11,z12,e⟩:=z69q
     subst e
     refine⟨s8.trans (s9.trans s10),λp hp'=>?_,_,_,_,_,rfl⟩
     rw[cY ew] at hp'
     rcases Rf9.mp hp' with z|z
     ·exact hp p z
     ·rw[zJ.mp z,aC3]
      exact Ry9.mpr ho
   ·obtain⟨s8,hp,z6,z7,z11,z12,e⟩:=z67q
    subst e
    rw[cD,lqa,Rb9] at hp
    refine⟨s6.trans (s7.trans s8),λi' hi'=>?_,_,_,_,_,_,_,_,_,rfl⟩
    by_cases z:i'=i
    ·subst z
     rw[ega,egb]
     refine Ry9.mpr λp hp'=>?_
     rw[W0]
     exact hp p hp'
    ·exact hk i' (by omega)
  ·obtain⟨s6,hk,z5,z6,z7,z8,z9,z10,z11,z12,e⟩:=z65q
   subst e
   walk_at "w"
   have z:=k H6 (S5.trans s6)
   rw[aPl h1' ok h3' h4' hk] at z
   exact z
structure GR(k:Nat)(c:List WP):Prop where
 ne:c≠[]
 len:c.length<=k
 st:∀p∈c,St0 p.1.1 p.1.2
 nd:(c.map (·.1)).Nodup
theorem GR.le{k k':Nat}{c:List WP}(h:GR k c)(l:k<=k'):GR k' c:=⟨h.ne,zK h.len l,h.st,h.nd⟩
theorem aKd(c:List WP)(x:Int×Int)(v:Int):(addW c x v).length<=c.length+1:=by
 have:=iQ (enc c) (iH x) (.int v)
 rw[aGW,g0,g0] at this
 omega
theorem aLR{c:List WP}{x:Int×Int}{v:Int}(h:(c.map (·.1)).Nodup):((addW c x v).map (·.1)).Nodup:=by
 unfold addW
 split
 ·rw[Rp9,show(λp:WP=>p.1) ∘ (λp:WP=>if p.1=x then (p.1,v) else p)=λp=>p.1 from funext λp=>by
   show(if p.1=x then (p.1,v) else p).1=p.1
   split <;> rfl]
  exact h
 ·rename_i e
  rw[iI,Sn9]
  refine⟨h,by simp,λa ha b hb z=>e ?_⟩
  obtain⟨q,hq,rfl⟩:=o8.mp ha
  exact Tp9.mpr ⟨q,hq,decide_eq_true (z.trans (zJ.mp hb))⟩
def aAz(c c':List WP):List WP:=c'.foldl (λacc p=>addW acc p.1 p.2) c
theorem aBO:∀(c' c:List WP),xN (enc c) (enc c')=enc (aAz c c')
 |[],_=>rfl
 |p::r,c=>by
  show xN (putK (enc c) (iH p.1) (.int p.2)) (enc r)=enc (aAz (addW c p.1 p.2) r)
  rw[aGW]
  exact aBO r _
theorem aG1:∀(c':List WP) {k:Nat}{c:List WP},GR k c->(∀p∈c',St0 p.1.1 p.1.2)->GR (k+c'.length) (aAz c c')/\∀y∈c.map (·.1),y∈(aAz c c').map (·.1)
 |[],_,_,h,_=>⟨h,λ_ z=>z⟩
 |p::r,k,c,h,hs=>by
  have g:GR (k+1) (addW c p.1 p.2):=by
   have l:=aKd c p.1 p.2
   have h0:=h.len
   refine⟨λz=>?_,by omega,λq hq=>?_,aLR h.nd⟩
   ·obtain⟨q,hq⟩:=List.exists_mem_of_ne_nil _ h.ne
    have:q.1∈(addW c p.1 p.2).map (·.1):=vM.mpr (.inl (o8.mpr ⟨q,hq,rfl⟩))
    rw[z] at this
    cases this
   ·rcases vM.mp (o8.mpr ⟨q,hq,rfl⟩) with z|z
    ·obtain⟨q',hq',e⟩:=o8.mp z
     rw[<-e]
     exact h.st q' hq'
    ·rw[z];exact hs p (.head _)
  obtain⟨a,b⟩:=aG1 r g λq hq=>hs q (.tail _ hq)
  refine⟨a.le (by rw[yM];omega),λy hy=>b y (vM.mpr (.inl hy))⟩
theorem aKe{m:MS}(g:m.Good){st:Int×Int}(h:St1 m st){ps:List Int}{Ls:List (List (Int×Int))}(hR:aHU m st Ls):(∀c∈tbS m ps Ls,GR 25 c)/\∀c,(tbS m ps Ls)[0]?=some c->st∈c.map (·.1):=by
 have key:∀(i:Nat) c,(tbS m ps Ls)[i]?=some c->GR 25 c/\∀s,s∈c.map (·.1)↔Rc m st i s:=λi c e=>by
  obtain⟨qs,eq,rfl⟩:=aJ8 e
  obtain⟨a,b⟩:=hR.at_ i qs eq
  have ks:∀f:Int×Int->Int,(aD3 qs f).map (·.1)=qs:=λf=>by unfold aD3;rw[Rp9];exact List.map_id qs
  refine⟨⟨λz=>?_,?_,λp hp=>?_,by rw[ks];exact aBB a⟩,λs=>by rw[ks];exact b s⟩
  ·have hs:∃s,Rc m st i s:=by
    clear e eq a b z
    induction i with
    |zero=>exact⟨st,rfl⟩
    |succ n ih=>
     obtain⟨s,hs⟩:=ih
     exact⟨_,s,hs,s.1,(Rc.st g h hs).1.1,.inl rfl,rfl⟩
   obtain⟨s,hs⟩:=hs
   have:=(b s).mpr hs
   unfold aD3 at z
   rw[List.map_eq_nil_iff.mp z] at this
   cases this
  ·unfold aD3
   rw[cD]
   exact Rc.few g h (aBB a) λk hk=>(b k).mp hk
  ·exact(Rc.st g h ((b p.1).mp (by rw[<-ks];exact o8.mpr ⟨p,hp,rfl⟩))).1
 refine⟨λc hc=>?_,λc e=>((key 0 c e).2 st).mpr rfl⟩
 obtain⟨i,ei⟩:=Rm9 hc
 exact(key i c ei).1
theorem DsF.rows{H H':Hp}{lt:Addr}{m:MS}{ps:List Int}{Ls:List (List (Int×Int))}(h:DsF κS H H' lt Ls (λi=>wF (Wr m ps) (ps.length - i) i))(hl:Ls.length=ps.length+1):∃ds:List Addr,H' lt=some (.lst (ds.map V.ref))/\RL (λd c=>H' d=some (.dT (enc c))) ds (tbS m ps Ls)/\ds.Nodup/\∀d∈ds,H d=none:=by
 obtain⟨ds,a,b,c,d,e⟩:=h.ex
 refine⟨ds,a,⟨by rw[yG];exact b,λj x row ex er=>?_⟩,d,e⟩
 obtain⟨qs,eq,rfl⟩:=aJ8 er
 have z:H' x=some (.dT (qs.map λy=>(iH y,V.int (wF (Wr m ps) (ps.length - j) j y)))):=c j x qs ex eq
 rw[z,hl,Sv9]
 unfold enc aD3
 rw[Rp9]
 rfl
theorem bJ.aKf{H H':Hp}{p d:Addr}{kvs:List (List Key×V)}(h:bJ H p)(g:H d=some (.dT kvs))(k:cE d H H'):bJ H' p:=by
 obtain⟨dd,c,q,ms,hp,hq,hne,hqp⟩:=h.ex
 exact⟨⟨dd,c,q,ms,k _ _ hp (λz=>by rw[z,g] at hp;cases hp),k _ _ hq (λz=>by rw[z,g] at hq;cases hq),hne,hqp⟩⟩
theorem aGh{d:Addr}{o:Obj}{kvs:List (List Key×V)}{σ₀:St}{g:TG}{tt:TT}{te:TE}{R:List V->Hp->Prop}{H:Hp}(Pv:Nat->List V->Hp->Prop)(h0:Pv 0 [] H)(hz:kvs.length<=sizeLine)
  (hl:∀i ys H,i<=kvs.length->Pv i ys H->H d=some (.frz o (.dT kvs))/\ys.length<=i)
  (hs:∀i kv b ys H,kvs[i]?=some kv->H b=some (.tup (kv.1.map kV))->Pv i ys H->g (.ref b) σ₀ H λσ2 H2=>tt σ2 H2 λc H3=>if c=true then te σ2 H3 λy H4=>Pv (i+1) (ys ++ [y]) H4 else Pv (i+1) ys H3)
  (hd:∀ys H,Pv kvs.length ys H->R ys H):lS (Itk d o kvs) σ₀ g tt te R H:=by
 refine⟨λi m ys H=>m=kvs.length - i/\i<=kvs.length/\Pv i ys H,⟨kvs.length,by simp,zL _,h0⟩,?_⟩
 rintro i m ys H ⟨rfl,hi,p⟩
 obtain⟨q,ql⟩:=hl i ys H hi p
 refine⟨by omega,?_⟩
 by_cases hlt:i < kvs.length
 ·refine .inr ⟨⟨q,hlt⟩,Pv (i+1),λys' H' p'=>⟨kvs.length - (i+1),by omega,rfl,hlt,p'⟩,λx H' y=>?_⟩
  obtain⟨e,b,kv,hk,e2,hb⟩:=y
  subst e e2
  exact hs i kv b ys _ hk hb p
 ·have e:i=kvs.length:=by omega
  subst e
  exact .inl ⟨⟨q,dQ _⟩,hd ys H p⟩
theorem aKg{α:Type}{l:List α}{a:α}(h:l.Nodup)(n:a∉l):(l ++ [a]).Nodup:=by
 rw[Sn9]
 exact⟨h,by simp,λx hx y hy z=>by rw[zJ.mp hy] at z;exact n (z▸hx)⟩
theorem RL.rev{α:Type}{P:Addr->α->Prop}{as:List Addr}{xs:List α}(h:RL P as xs):RL P as.reverse xs.reverse:=by
 have hl:=h.len
 refine⟨by rw[Ss9,Ss9,hl],λj a x h1 h2=>?_⟩
 have hj:j < as.length:=by have:=(lG.mp h1).1;simpa using this
 rw[Tm9 hj] at h1
 rw[Tm9 (by omega)] at h2
 exact h.at_ (as.length - 1 - j) a x h1 (by rw[hl];exact h2)
theorem aG2:∀{ps:List WP}{i:Nat}{p:WP},(ps.map (·.1)).Nodup->ps[i]?=some p->kM ps p.1=some p.2
 |[],_,_,_,h=>by simp at h
 |q::r,i,p,nd,h=>by
  rw[Rg9,Rs9] at nd
  cases i with
  |zero=>cases h;unfold kM;simp
  |succ i=>
   have hp:r[i]?=some p:=h
   have ne:¬q.1=p.1:=λz=>nd.1 (o8.mpr ⟨p,iW hp,z.symm⟩)
   have e:kM (q::r) p.1=kM r p.1:=by unfold kM;simp[ne]
   rw[e]
   exact aG2 nd.2 hp
theorem aOg{l:Addr}{xs:List V}{y:V}{H:Hp}{Q:VK}(h:H l=some (.lst (xs ++ [y])))(q:Q y (upd H l (.lst xs))):aKJ (.ref l) [] H Q:=⟨l,_,y,rfl,rfl,h,by simp,by rw[List.dropLast_concat];exact q⟩
def aAA(c:Int)(row:List WP):List WP:=row.map λp=>(p.1,p.2 - c)
theorem aHZ(c:Int)(row:List WP):(aAA c row).map (·.1)=row.map (·.1):=by
 unfold aAA
 rw[Rp9]
 rfl
theorem jU.tr{H H':Hp}{e d lr p:Addr}{row:List WP}{kvs:List (List Key×V)}{xs:List V}(h:jU H e row)(gd:H d=some (.dT kvs))(gl:H lr=some (.lst xs))(hh:bJ H p)(ne:e≠lr)(tr:∀a o,H a=some o->a≠d->a≠lr->a≠p->H' a=some o):jU H' e row:=by
 obtain⟨qs,a,r⟩:=h
 have tup:∀x ys,H x=some (.tup ys)->H' x=some (.tup ys):=λx ys z=>tr x _ z (λy=>by rw[y,gd] at z;cases z) (λy=>by rw[y,gl] at z;cases z) (λy=>by
  obtain⟨zs,e⟩:=hh.isL
  rw[y,e] at z
  cases z)
 exact⟨qs,tr _ _ a (λz=>by rw[z,gd] at a;cases a) ne (cN hh a),r.imp λq p' ⟨b,z1,z2⟩=>⟨b,tup _ _ z1,tup _ _ z2⟩⟩
def aEa(K:W.Frag):Sp:=λvs H Q _=>∃(p s:Addr) (m:MS) (t:Addr) (st:Int×Int) (t2:Addr) (st2:Int×Int) (q:Addr) (ps:List Int),vs=[.ref p,.ref s,.ref t,.ref t2,.ref q]/\bJ H p/\d8 H s m/\m.Good/\H t=some (.tup [.int st.1,.int st.2])/\St1 m st/\H t2=some (.tup [.int st2.1,.int st2.2])/\St1 m st2/\H q=some (.lst (ps.map V.int))/\(∀n∈ps,Am n)/\ps.length<=7/\q≠p/\
 ∀tb rows H',vR H' tb rows->rows.length=ps.length+1->sF 62 rows->(∀row∈rows,row≠[])->st∈(rows.getD 0 []).map (·.1)->bJ H' p->cE p H H'->Q (.ref tb) H'
theorem aEb{P:Program}{w:World}{K:PySem.W.Frag}{mg:Str->Option Value}{base:Heap}{a:qA}(tx:Txt K mg a):cR P w K mg base lQ 4 a.oZ a.o4 ["_law_hand","_law_spec_here","_law_state_here","_law_other","_law_prices_here"] (aEa K):=by
 have aS:=dN (P:=P) (w:=w) (base:=base) tx
 have wA:=aBK (P:=P) (w:=w) (base:=base) tx
 refine tx.uI.ok dM (λvs H Q E h=>?_) (λcdv A outer s H vs Q E hr h=>?_)
 ·obtain⟨p,s,m,t,st,t2,st2,q,ps,rfl,_⟩:=h
  rfl
 ·obtain⟨p,s,m,t,st,t2,st2,q,ps,rfl ,hh,hs,hg,ht,hst,ht2,hst2,hq,ha,hl,qp,k⟩:=h
  have hu:=qJ hr
  refine bV (aH (aP (i:=5) dM.nd (zq1 wA hr tx.pI tx.lF.kp tx.pH (aB (Z.pv 1) (aB (Z.pv 2) (aB (Z.pv 4) aG)))))
   (aH (bH (aZ (r:=jY K) (dR hu) (zq1 aS hr tx.aX tx.aV.kp tx.aW (aB (Z.pv 0) (aB aF aG))) aF (bP _)) (aJ (cC PassesOwn.never rfl (aFL (K':=K) (by rfl) tx.aCV (aB (Z.pv 5) (aB (zq1 wA hr tx.pI tx.lF.kp tx.pH (aB (Z.pv 1) (aB (Z.pv 3) (aB (Z.pv 4) aG)))) aG))) (cT (K':=K) (n:=2) rfl (bF (aQ (i:=6) dM.nd rfl (Or.inr rfl)) (bF (aQ (i:=7) dM.nd) cS))) (aJ (cZ (aF4 hu (Z.pv 6) (Z.pv 7)))))) aY)
   (aH (y3 (i:=8) dM.nd rfl (Or.inr rfl) (aM cJ (zq1 aS hr tx.aX tx.aV.kp tx.aW (aB (Z.pv 0) (aB aF aG))) (zq1 aS hr tx.aX tx.aV.kp tx.aW (aB (Z.pv 0) (aB aF aG)))))
   (aH (aP (i:=9) dM.nd (gQ aG))
   (aH (cC PassesOwn.never rfl (bR (K':=K) (aA0 (K':=K) (Z.pv 5) (fD (fX nH aF)))) (aQ (i:=6) dM.nd rfl (Or.inr rfl)) (aH (cZ (fE (K':=K) (Z.pv 9) (aB (cM (k:=1) (idx:=[8,6]) (N:=["_law_one","_law_less","_law_worths_here"]) (dZ (sc:=aL gK) (NX:=["_law_hand","_law_spec_here","_law_state_here","_law_other","_law_prices_here","_law_tables","_law_worths_here","_law_more","_law_less","_law_rows"]) rfl rfl rfl (by decide +kernel)) rfl (aEK (Z.pv 6)) (λ_ _ _ _=>(aQ (i:=0) (show(["_law_one","_law_less","_law_worths_here"]:List Str).Nodup by decide +kernel))) (eN (by decide)) (λ_ _ _ _=>cK) (λ_ _ _ _=>(cQ (Z.pv 0) (aM eZ (lM hu (Z.pv 2) (Z.pv 0)) (Z.pv 1))))) aG)))
   (aJ (y4 (i:=8) dM.nd rfl (Or.inr rfl) (aM cJ (zq1 aS hr tx.aX tx.aV.kp tx.aW (aB (Z.pv 0) (aB aF aG))) (zq1 aS hr tx.aX tx.aV.kp tx.aW (aB (Z.pv 0) (aB aF aG)))) aC7))))
   (aH (aP (i:=9) dM.nd (aA0 (K':=K) (Z.pv 9) (fD (fX nH aF))))
   (aH (bH (aZ (r:=jY K) (dR hu) (zq1 aS hr tx.aX tx.aV.kp tx.aW (aB (Z.pv 0) (aB aF aG))) aF (bP _)) (aH (cZ (fE (K':=K) (aN (K':=K) (Z.pv 9) aF) (aB (cQ (cQ aF (aM eZ aF (zq1 aS hr tx.aX tx.aV.kp tx.aW (aB (Z.pv 0) (aB aF aG))))) (fX nH (aM qF aF aF))) aG)))
   (aJ (bH (nM (uZ (aZ xA (aO (rc:=lK K) cB (by rfl) tx.dX dI (aB (Z.pv 9) aG)) aF (bP _)) (qO (aZ (r:=jY K) (dR hu) (zq1 aS hr tx.aX tx.aV.kp tx.aW (aB (Z.pv 0) (aB aF aG))) aF (bP _))))) (aH (cZ (aFX (K':=K) (aN (K':=K) (Z.pv 9) aF)))
   (aJ (cZ (fE (K':=K) (aN (K':=K) (Z.pv 9) (fX nH aF)) (aB (cQ (cQ aF aF) (fX nH (zq1 aS hr tx.aX tx.aV.kp tx.aW (aB (Z.pv 0) (aB aF aG))))) aG))))) aY))) aY)
   (aJ (aR (Z.pv 9)))))))))) ?_
  refine bK (σ:=[some (.ref p),some (.ref s),some (.ref t),some (.ref t2),some (.ref q),none,none,none,none,none]) rfl ?_
  walk_at "w"
  refine⟨s,m,t,st,q,ps,rfl,hs,hg,ht,hst,hq,ha,by omega,λlt Ls H1 s1 nlt hR lL hD=>?_⟩
  obtain⟨ds,gl,rd,dn,df⟩:=hD.rows lL
  obtain⟨gr,st0⟩:=aKe hg hst (ps:=ps) hR
  have lds:=rd.len
  rw[yG,lL] at lds
  have h1:=hh.same s1
  repeat walk_at "st"
  refine xH (λσ' H'=>∃(cs:List (List WP)) (z6 z7:Option V),σ'=[some (.ref p),some (.ref s),some (.ref t),some (.ref t2),some (.ref q),some (.ref lt),z6,z7,none,none]/\H' lt=some (.lst (ds.map V.ref))/\RL (λd c=>H' d=some (.dT (enc c))) ds cs/\(∀c∈cs,GR 50 c)/\(∀c,cs[0]?=some c->st∈c.map (·.1))/\bJ H' p/\cE p H H') (λN hN=>?_) ?_
  ·walk_at "w"
   refine⟨p,_,rfl,h1,by decide,by decide,λr2 H2 a2 b2 h2 k2 _=>?_⟩
   have K2:cE p H H2:=s1.keep.trans k2
   have gl2:=k2 _ _ gl (cN h1 gl)
   have rd2:RL (λd c=>H2 d=some (.dT (enc c))) ds (tbS m ps Ls):=rd.imp λd c z=>k2 _ _ z λy=>by
    obtain⟨xs,e⟩:=h1.isL
    rw[y,e] at z
    cases z
   walk_at "w"
   refine cI (λc0=>?_) (λ_=>?_)
   ·have hs2:=(hs.same s1).keep h1 k2
    have ht22:H2 t2=some (.tup [.int st2.1,.int st2.2]):=K2 _ _ ht2 λz=>hh.iX _ (by rw[<-z];exact ht2)
    walk_at "w"
    refine⟨s,m,t2,st2,q,ps,rfl,hs2,hg,ht22,hst2,K2 _ _ hq qp,ha,by omega,λlt2 Ls2 H3 s3 nlt2 hR2 lL2 hD2=>?_⟩
    obtain⟨es,ge,re,en,ef⟩:=hD2.rows lL2
    obtain⟨gr2,_⟩:=aKe hg hst2 (ps:=ps) hR2
    have les:=re.len
    rw[yG,lL2] at les
    have gl3:=s3 _ _ gl2
    have h3:=h2.same s3
    have rd3:RL (λd c=>H3 d=some (.dT (enc c))) ds (tbS m ps Ls):=rd2.imp λ_ _ z=>s3 _ _ z
    have K3:cE p H H3:=K2.trans s3.keep
    have dse:∀d∈ds,d∉es:=λd hd he=>by
     obtain⟨i,hi⟩:=Rm9 hd
     have:=rd2.at_ i d _ hi (dF (by rw[yG,lL,<-lds];exact(lG.mp hi).1))
     rw[ef d he] at this
     cases this
    walk_at "w"
    refine aOY (bU.of gl3) (bU.of ge) ?_
    refine aNE (xs:=ds.map V.ref) (ys:=es.map V.ref) (λi σ' H'=>∃(cs:List (List WP)) (z6 z7:Option V),σ'=[some (.ref p),some (.ref s),some (.ref t),some (.ref t2),some (.ref q),some (.ref lt),z6,z7,none,none]/\H' lt=some (.lst (ds.map V.ref))/\H' lt2=some (.lst (es.map V.ref))/\RL (λd c=>H' d=some (.dT (enc c))) ds cs/\RL (λd c=>H' d=some (.dT (enc c))) es (tbS m ps Ls2)/\(∀j c,cs[j]?=some c->GR (if j < i then 50 else 25) c)/\(∀c,cs[0]?=some c->st∈c.map (·.1))/\bJ H' p/\cE p H H')
     ⟨tbS m ps Ls,_,_,rfl,gl3,ge,rd3,re,(λj c e=>by rw[if_neg (Nat.not_lt_zero _)];exact gr c (iW e)),st0,h3,K3⟩ (λi σ' H' hi ⟨_,_,_,_,z1,z2,_⟩=>⟨bU.of z1,bU.of z2⟩) (λi x y σ' H4 T hx hy z70q nT=>?_) (λσ' H4 z71q=>?_)
    ·obtain⟨cs,z6,z7,e,g1,g2,r1,r2,c1,c2,h4,K4⟩:=z70q
     subst e
     obtain⟨d,c,ed,rfl,ec,gd⟩:=r1.gt hx
     obtain⟨e1,c',ee,rfl,ec',ge1⟩:=r2.gt hy
     obtain⟨H5,i5,s5,g5⟩:=nw (.tup [.ref d,.ref e1]) nT;rw[i5]
     have gd5:=s5 _ _ gd
     have ge5:=s5 _ _ ge1
     have hdm:=iW ed
     have ne:d≠e1:=λz=>dse d hdm (by rw[z];exact iW ee)
     have gc:=c1 i c ec
     rw[if_neg (Sm9 _)] at gc
     have gc':=gr2 c' (iW ec')
     have l1:=gc.len
     have l2:=gc'.len
     refine fB (iY.of g5) rfl ?_
     walk_at "w"
     refine⟨d,rfl,.inr ⟨_,.inl gd5⟩,?_⟩
     walk_at "w"
     refine⟨e1,_,_,rfl,gd5,ge5,ne,(λz=>gc.ne (List.map_eq_nil_iff.mp z)),by rw[g0,g0];omega,?_⟩
     rw[aBO]
     obtain⟨H6,i6,k6,g6⟩:=wr H5 d (.dT (enc (aAz c c')));rw[i6]
     have dH:H d=none:=df d hdm
     obtain⟨ga,gb⟩:=aG1 c' gc gc'.st
     have lcs:=r1.len
     walk_at "w"
     refine⟨cs.set i (aAz c c'),_,_,rfl,k6 _ _ (s5 _ _ g1) (λz=>by rw[z,gd] at g1;cases g1),k6 _ _ (s5 _ _ g2) (λz=>by rw[z,gd] at g2;cases g2),⟨by rw[Rv9];exact r1.len,λj a x h1 h2=>?_⟩,⟨r2.len,λj a x h1 h2=>k6 _ _ (s5 _ _ (r2.at_ j a x h1 h2)) (λz=>dse d hdm (by rw[<-z];exact iW h1))⟩,λj x e=>?_,λx e=>?_,(h4.same s5).aKf gd5 k6,λa o e ne=>k6 _ _ (s5 _ _ (K4 _ _ e ne)) (bQ dH e)⟩
     ·by_cases z:j=i
      ·subst z
       rw[ed] at h1
       cases h1
       rw[Rt9 (lG.mp ec).1] at h2
       cases h2
       exact g6
      ·rw[Sa9 (λy=>z y.symm)] at h2
       refine k6 _ _ (s5 _ _ (r1.at_ j a x h1 h2)) λy=>z ?_
       subst y
       exact(List.getElem?_inj (lG.mp h1).1 dn).mp (h1.trans ed.symm)
     ·by_cases z:j=i
      ·subst z
       rw[Rt9 (lG.mp ec).1] at e
       cases e
       rw[if_pos (Te9 _)]
       exact ga.le (by omega)
      ·rw[Sa9 (λy=>z y.symm)] at e
       refine(c1 j x e).le ?_
       by_cases y:j < i
       ·rw[if_pos y,if_pos (by omega)]
        exact dQ _
       ·rw[if_neg y,if_neg (by omega)]
        exact dQ _
     ·by_cases z:i=0
      ·subst z
       rw[Rt9 (lG.mp ec).1] at e
       cases e
       exact gb _ (c2 c ec)
      ·rw[Sa9 z] at e
       exact c2 x e
    ·obtain⟨cs,z6,z7,e,g1,g2,r1,r2,c1,c2,h4,K4⟩:=z71q
     subst e
     exact hN _ _ ⟨cs,_,_,rfl,g1,r1,(λc hc=>by
      obtain⟨j,ej⟩:=Rm9 hc
      exact(c1 j c ej).le (by split <;> omega)),c2,h4,K4⟩
   ·walk_at "w"
    exact hN _ _ ⟨_,_,_,rfl,gl2,rd2,(λc hc=>(gr c hc).le (by decide)),st0,h2,K2⟩
  rintro σ2 H2 ⟨cs,z6,z7,rfl,gl2,r2,gr2,c2,h2,K2⟩
  have lcs:cs.length=ps.length+1:=by rw[<-r2.len,lds]
  have dNp:∀{H':Hp} {d:Addr} {kvs:List (List Key×V)},bJ H' p->H' d=some (.dT kvs)->d≠p:=λhh g z=>by
   obtain⟨xs,e⟩:=hh.isL
   rw[z,e] at g
   cases g
  walk_at "w"
  refine⟨p,_,rfl,h2,by decide,by decide,λra H3 a3 b3 h3 k3 _=>?_⟩
  have gl3:=k3 _ _ gl2 (cN h2 gl2)
  have r3:RL (λd c=>H3 d=some (.dT (enc c))) ds cs:=r2.imp λd c z=>k3 _ _ z (dNp h2 z)
  walk_at "w"
  refine⟨p,_,rfl,h3,by decide,by decide,λrb H4 a4 b4 h4 k4 _=>?_⟩
  have gl4:=k4 _ _ gl3 (cN h3 gl3)
  have r4:RL (λd c=>H4 d=some (.dT (enc c))) ds cs:=r3.imp λd c z=>k4 _ _ z (dNp h3 z)
  have K4:cE p H H4:=K2.trans (k3.trans k4)
  walk_at "w"
  intro lr nlr
  obtain⟨H5,i5,s5,g5⟩:=nw _ nlr;rw[i5]
  have lrH:H lr=none:=yC K4 h4 nlr
  walk_at "w"
  refine⟨rfl,lt,_,rfl,bU.of (s5 _ _ gl4),λlv nlv=>?_⟩
  obtain⟨H6,i6,s6,g6⟩:=nw _ nlv;rw[i6]
  rw[<-List.map_reverse] at g6
  have s46:=s5.trans s6
  have r6:RL (λd c=>H6 d=some (.dT (enc c))) ds.reverse cs.reverse:=(r4.imp λ_ _ z=>s46 _ _ z).rev
  have dnr:ds.reverse.Nodup:=Ud9.mpr (List.Pairwise.imp (λh=>Ne.symm h) dn)
  have lvr:lv≠lr:=λz=>by rw[z,g5] at nlv;cases nlv
  refine iE (bU.of g6) ?_
  refine qM (xs:=ds.reverse.map V.ref) (λj σ' H'=>∃(less:Int) (es:List Addr) (rws:List (List WP)) (z6:Option V),σ'=[some (.ref p),some (.ref s),some (.ref t),some (.ref t2),some (.ref q),some (.ref lt),z6,z7,some (.int less),some (.ref lr)]/\H' lr=some (.lst (es.map V.ref))/\RL (jU H') es rws/\rws.length=j/\(∀(i:Nat) (row c:List WP),rws[i]?=some row->cs.reverse[i]?=some c->row.map (·.1)=c.map (·.1))/\es.Nodup/\(∀e∈es,H e=none/\e≠lr)/\(∀(i:Nat) (d:Addr) (c:List WP),j<=i->ds.reverse[i]?=some d->cs.reverse[i]?=some c->H' d=some (.dT (enc c)))/\bJ H' p/\cE p H H'/\H' lv=some (.lst (ds.reverse.map V.ref)))
   ⟨_,[],[],_,rfl,s6 _ _ g5,RL.nil,rfl,(λi row c h=>by simp at h),Sy9,(λe h=>by cases h),(λi d c _ h1 h2=>r6.at_ i d c h1 h2),h4.same s46,K4.trans s46.keep,g6⟩ (λj σ' H' hj ⟨_,_,_,_,_,_,_,_,_,_,_,_,_,_,z⟩=>bU.of z) (λj v σ' H7 hv z72q=>?_) (λσ' H7 z73q=>?_)
  ·obtain⟨less,es,rws,z6,e,g1,r1,lw,hk,nd,fr,un,h7,K7,g2⟩:=z72q
   subst e
   rw[qB] at hv
   obtain⟨d,ed,rfl⟩:=Qs9.mp hv
   have lj:j < cs.reverse.length:=by rw[<-r6.len];exact(lG.mp ed).1
   have ec:cs.reverse[j]?=some cs.reverse[j]:=dF lj
   generalize cs.reverse[j]=c at ec
   have gd:=un j d c (dQ _) ed ec
   have gc:=gr2 c (Ui9.mp (iW ec))
   have lc:=gc.len
   have les:es.length<=60:=by rw[r1.len,lw];rw[Ss9] at lj;omega
   have dlr:d≠lr:=λz=>by rw[z,g1] at gd;cases gd
   walk_at "w"
   refine j0 (bU.of g1) ?_
   walk_at "w"
   refine aO3 gd λob=>?_
   obtain⟨J2,j2,k2',u2⟩:=wr H7 d _;rw[j2]
   refine aGh (kvs:=enc c) (λi us J3=>∃as':List Addr,us=as'.map V.ref/\RL (zG J3) as' ((aAA less c).take i)/\J3 d=some (.frz ob (.dT (enc c)))/\aU J2 J3) ⟨[],rfl,RL.nil,u2,aU.refl _⟩ (cO (by rw[g0];omega))
    (λi us J3 hi ⟨as',e1,ra,gf,S3⟩=>⟨gf,by rw[e1,cD,ra.len,uV];omega⟩) (λi kv b us J3 hkv gb z74q=>?_) (λus J3 z75q=>?_)
   ·obtain⟨as',e1,ra,gf,S3⟩:=z74q
    obtain⟨w,ew,rfl⟩:=aD0 hkv
    have gv:hU J3 d (.ref b) (some (.int w.2)):=by
     have z:=hU.f gf (k:=iH w.1) gb
     rwa[rW,aG2 gc.nd ew] at z
    walk_at "w"
    refine⟨d,_,rfl,gv,?_⟩
    walk_at "w"
    intro T4 nT4
    obtain⟨J4,j4,t4,u4⟩:=nw _ nT4;rw[j4]
    refine⟨as' ++ [T4],by rw[e1,iI];rfl,?_,t4 _ _ gf,S3.trans t4⟩
    rw[cY (show(aAA less c)[i]?=some (w.1,w.2 - less) by unfold aAA;rw[qB,ew];rfl)]
    exact RL.snoc (ra.imp λ_ _ z=>z.same t4) ⟨b,u4,t4 _ _ gb⟩
   obtain⟨as',e1,ra,gf,S3⟩:=z75q
   subst e1
   rw[g0,show c.length=(aAA less c).length by unfold aAA;rw[cD],Rb9] at ra
   intro l4 nl4
   obtain⟨J4,j4,t4,u4⟩:=nw _ nl4;rw[j4]
   have s24:=S3.trans t4
   have g14:=s24 _ _ (k2' _ _ g1 (Ne.symm dlr))
   have l4r:l4≠lr:=λz=>by rw[z,S3 _ _ (k2' _ _ g1 (Ne.symm dlr))] at nl4;cases nl4
   have h74:=(h7.aKf gd k2').same s24
   have l4H:H l4=none:=by
    have n3:J3 l4=none:=nl4
    cases z:H l4 with
    |none=>rfl
    |some o=>
     have lp:l4≠p:=((h7.aKf gd k2').same S3).aJZ n3
     have:=S3 _ _ (k2' _ _ (K7 _ _ z lp) (λy=>by rw[y,S3 _ _ u2] at n3;cases n3))
     rw[n3] at this
     cases this
   walk_at "w"
   refine qN (xs:=es.map V.ref) g14 (uU (by rw[cD];omega:(es.map V.ref).length < 20000) (cO (by decide))) ?_
   obtain⟨J5,j5,k5,u5⟩:=wr J4 lr _;rw[j5]
   have h75:=h74.jX g14 k5
   walk_at "w"
   refine aFC rfl ?_
   walk_at "w"
   refine⟨p,_,rfl,h75,by decide,by decide,λrc J6 a6 b6 h76 k6 _=>?_⟩
   walk_at "w"
   refine⟨p,_,rfl,h76,by decide,by decide,λrd' J7 a7 b7 h77 k7 _=>?_⟩
   have tr:∀a o,H7 a=some o->a≠d->a≠lr->a≠p->J7 a=some o:=λa o e n1 n2 n3=>k7 _ _ (k6 _ _ (k5 _ _ (s24 _ _ (k2' _ _ e n1)) n2) n3) n3
   have u57:J7 lr=some (.lst ((es ++ [l4]).map V.ref)):=by
    have:=k7 _ _ (k6 _ _ u5 (cN h75 (qs:=es ++ [l4]) (by rw[u5,iI];rfl))) (cN h76 (qs:=es ++ [l4]) (k6 _ _ (by rw[u5,iI];rfl) (cN h75 (qs:=es ++ [l4]) (by rw[u5,iI];rfl))))
    rw[this,iI]
    rfl
   have w4:jU J7 l4 (aAA less c):=by
    have z5:jU J5 l4 (aAA less c):=⟨as',k5 _ _ u4 l4r,ra.imp λ_ _ z=>(z.same t4).jX g14 k5⟩
    have:=eG (eG (fs:=[l4]) (rows:=[aAA less c]) (RL.snoc RL.nil z5) h75 k6) h76 k7
    exact this.at_ 0 _ _ rfl rfl
   walk_at "w"
   refine⟨_,es ++ [l4],rws ++ [aAA less c],_,rfl,u57,RL.snoc ⟨r1.len,λi a x e1 e2=>(r1.at_ i a x e1 e2).tr gd g1 h7 (fr a (iW e1)).2 tr⟩ w4,by rw[sO,lw];rfl,λi row c' e1 e2=>?_,aKg nd λz=>?_,λe he=>?_,λi d' c' hi e1 e2=>?_,h77,λa o e ne=>?_,tr _ _ g2 (λz=>by rw[z,gd] at g2;cases g2) lvr (cN h7 g2)⟩
   ·by_cases hi:i < rws.length
    ·rw[Qq9 hi] at e1
     exact hk i row c' e1 e2
    ·have hi2:i < (rws ++ [aAA less c]).length:=(lG.mp e1).1
     rw[sO,Se9] at hi2
     have ei:i=rws.length:=by omega
     rw[ei,Qz9 (dQ _),Tl9] at e1
     cases e1
     rw[ei,lw,ec] at e2
     cases e2
     exact aHZ less c
   ·obtain⟨i,ei⟩:=Rm9 z
    have hi:i < rws.length:=by rw[<-r1.len];exact(lG.mp ei).1
    obtain⟨qs,ga,_⟩:=r1.at_ i l4 _ ei (dF hi)
    rw[S3 _ _ (k2' _ _ ga (λy=>by rw[y,gd] at ga;cases ga))] at nl4
    cases nl4
   ·rcases Rf9.mp he with z|z
    ·exact fr e z
    ·rw[zJ.mp z];exact⟨l4H,l4r⟩
   ·have gd':=un i d' c' (by omega) e1 e2
    refine tr _ _ gd' (λz=>?_) (λz=>by rw[z,g1] at gd';cases gd') (dNp h7 gd')
    rw[z] at e1
    have:=(List.getElem?_inj (lG.mp e1).1 dnr).mp (e1.trans ed.symm)
    omega
   ·exact tr _ _ (K7 _ _ e ne) (λz=>by rw[z,df d (Ui9.mp (iW ed))] at e;cases e) (bQ lrH e) ne
  ·obtain⟨less,es,rws,z6,e,g1,r1,lw,hk,nd,fr,un,h7,K7,g2⟩:=z73q
   subst e
   rw[cD,Ss9] at lw
   walk_at "w"
   refine⟨rfl,lr,_,rfl,bU.of g1,λlz nlz=>?_⟩
   obtain⟨H8,i8,s8,g8⟩:=nw _ nlz;rw[i8]
   rw[<-List.map_reverse] at g8
   have r8:RL (jU H8) es.reverse rws.reverse:=(r1.imp λ_ _ z=>z.same s8).rev
   have ndz:es.reverse.Nodup:=Ud9.mpr (List.Pairwise.imp (λh=>Ne.symm h) nd)
   have frz:∀e∈es.reverse,H e=none/\e≠lz:=λe he=>by
    have he':=Ui9.mp he
    refine⟨(fr e he').1,λz=>?_⟩
    obtain⟨i,ei⟩:=Rm9 he'
    have hi:i < rws.length:=by rw[<-r1.len];exact(lG.mp ei).1
    obtain⟨qs,ga,_⟩:=r1.at_ i e _ ei (dF hi)
    rw[z,nlz] at ga
    cases ga
   have hkz:∀(i:Nat) (row c:List WP),rws.reverse[i]?=some row->cs[i]?=some c->row.map (·.1)=c.map (·.1):=λi row c e1 e2=>by
    have hi:i < rws.length:=by have:=(lG.mp e1).1;simpa using this
    rw[Tm9 hi] at e1
    refine hk _ row c e1 ?_
    rw[Tm9 (by omega),show cs.length - 1 - (rws.length - 1 - i)=i by omega]
    exact e2
   have h8:=h7.same s8
   have K8:cE p H H8:=K7.trans s8.keep
   have lR:rws.reverse.length=ps.length+1:=by rw[Ss9];omega
   generalize rws.reverse=R at r8 hkz lR
   generalize es.reverse=fs at g8 r8 ndz frz
   have lfs:=r8.len
   have okR:∀row∈R,row≠[]/\row.length<=50/\∀p∈row,St0 p.1.1 p.1.2:=λrow hr=>by
    obtain⟨i,ei⟩:=Rm9 hr
    have hi:=(lG.mp ei).1
    have ec:cs[i]?=some cs[i]:=dF (by omega)
    have e:=hkz i row _ ei ec
    have gc:=gr2 cs[i] (Rk9 _)
    have el:row.length=cs[i].length:=by have:=congrArg List.length e;simpa using this
    have lc:=gc.len
    refine⟨λz=>gc.ne ?_,by omega,λp hp=>?_⟩
    ·rw[z] at el
     exact List.length_eq_zero_iff.mp el.symm
    ·have:p.1∈cs[i].map (·.1):=by rw[<-e];exact o8.mpr ⟨p,hp,rfl⟩
     obtain⟨p',hp',e'⟩:=o8.mp this
     rw[<-e']
     exact gc.st p' hp'
   have st8:st∈(R.getD 0 []).map (·.1):=by
    have e0:R[0]?=some R[0]:=dF (by omega)
    have ec:cs[0]?=some cs[0]:=dF (by omega)
    rw[Qo9,e0,Tf9,hkz 0 _ _ e0 ec]
    exact c2 _ ec
   walk_at "w"
   refine⟨p,_,rfl,h8,by decide,by decide,λrc H9 a9 b9 h9 k9 _=>?_⟩
   have g9:=k9 _ _ g8 (cN h8 g8)
   have r9:=eG r8 h8 k9
   have K9:=K8.trans k9
   walk_at "w"
   refine cI (λc0=>?_) (λ_=>?_)
   ·have e0:fs[0]?=some fs[0]:=dF (by omega)
    have r0:R[0]?=some R[0]:=dF (by omega)
    have eg0:R.getD 0 []=R[0]:=by rw[Qo9,r0];rfl
    obtain⟨qs,gq,rq⟩:=r9.at_ 0 _ _ e0 r0
    have f0fr:=frz fs[0] (Rk9 _)
    generalize fs[0]=f0 at e0 gq f0fr
    generalize R[0]=row0 at r0 rq eg0
    rw[eg0] at st8
    have ok0:=okR row0 (iW r0)
    have ix0:p9 (fs.map V.ref) 0=some (.ref f0):=dA (j:=0) (fL e0)
    have lq:=rq.len
    have l0:=ok0.2.1
    walk_at "w"
    refine j0 (bU.of gq) ?_
    walk_at "w"
    refine⟨p,_,rfl,h9,by decide,by decide,λre' HA aA bA hA kA _=>?_⟩
    have gqA:=kA _ _ gq (cN h9 gq)
    have gA:=kA _ _ g9 (cN h9 g9)
    have rA:=eG r9 h9 kA
    have rqA:RL (zG HA) qs row0:=by
     obtain⟨qs',g',r'⟩:=rA.at_ 0 f0 row0 e0 r0
     rw[gqA] at g'
     injection g' with g'
     injection g' with g'
     have e:=(Ty9 (λx y h=>by injection h)).mp g'
     subst e
     exact r'
    have KA:=K9.trans kA
    walk_at "w"
    intro T1 nT1
    obtain⟨HB,iB,sB,gB⟩:=nw _ nT1;rw[iB]
    walk_at "w"
    intro T2 nT2
    obtain⟨HC,iC,sC,gC⟩:=nw _ nT2;rw[iC]
    have sAC:=sB.trans sC
    have gqC:=sAC _ _ gqA
    have nT1f:T1≠f0:=λz=>by rw[z,sB _ _ gqA] at gB;cases gB
    have nT2f:T2≠f0:=λz=>by rw[z,gqC] at gC;cases gC
    walk_at "w"
    refine qN (xs:=qs.map V.ref) gqC (uU (by rw[cD];omega:(qs.map V.ref).length < 20000) (cO (by decide))) ?_
    rw[show qs.map V.ref ++ [.ref T2]=(qs ++ [T2]).map V.ref by rw[iI];rfl]
    obtain⟨HD,iD,kD,gD⟩:=wr HC f0 _;rw[iD]
    obtain⟨v,wD⟩ : ∃v,jU HD f0 (row0 ++ [((0,59 - re'),v)]):=⟨_,_,gD,RL.snoc (rqA.imp λ_ _ z=>(z.same sAC).jX gqC kD) ⟨T1,kD _ _ gC nT2f,kD _ _ (sC _ _ gB) nT1f⟩⟩
    have rD:=nG (rA.imp λ_ _ z=>z.same sAC) ndz e0 gqC kD wD
    have gzD:HD lz=some (.lst (fs.map V.ref)):=kD _ _ (sAC _ _ gA) (Ne.symm f0fr.2)
    have hD':=(hA.same sAC).jX gqC kD
    have KD:cE p H HD:=λa o e ne=>kD _ _ (sAC _ _ (KA _ _ e ne)) (bQ f0fr.1 e)
    have end1:∀H',aU HD H'\/(bJ H' p/\cE p HD H')->Q (.ref lz) H':=λH' hor=>by
     have hH:bJ H' p:=hor.elim (λz=>hD'.same z) (λz=>z.1)
     have kH:cE p HD H':=hor.elim (λz=>z.keep) (λz=>z.2)
     refine k lz (R.set 0 (row0 ++ [((0,59 - re'),v)])) H' ⟨fs,kH _ _ gzD (cN hD' gzD),eG rD hD' kH⟩ (by rw[Rv9];exact lR) ⟨by rw[Rv9];omega,λrow hr=>?_⟩ (λrow hr=>?_) ?_ hH (KD.trans kH)
     ·rcases Rz9 hr with z|z
      ·exact⟨by have:=(okR row z).2.1;omega,(okR row z).2.2⟩
      ·rw[z]
       refine⟨by rw[sO,Se9];omega,λp' hp=>?_⟩
       rcases Rf9.mp hp with y|y
       ·exact ok0.2.2 p' y
       ·rw[zJ.mp y];exact⟨.inl rfl,by show 0<=59 - re';omega,by show 59 - re' < 60;omega⟩
     ·rcases Rz9 hr with z|z
      ·exact(okR row z).1
      ·rw[z];simp
     ·rw[Qo9,Rt9 (by omega),Tf9,iI]
      exact List.mem_append_left _ st8
    walk_at "w"
    rw[cD]
    refine cI (λcL=>?_) (λ_=>?_)
    ·walk_at "w"
     refine⟨p,_,rfl,hD',by decide,by decide,λrx HE aE bE hE kE _=>?_⟩
     have gzE:=kE _ _ gzD (cN hD' gzD)
     have gDE:=kE _ _ gD (cN hD' gD)
     have rE:=eG rD hD' kE
     have KE:=KD.trans kE
     walk_at "w"
     refine cI (λc1=>?_) (λ_=>?_)
     ·have el:fs[ps.length]?=some fs[ps.length]:=dF (by omega)
      have rl:R[ps.length]?=some R[ps.length]:=dF (by omega)
      have flfr:=frz fs[ps.length] (Rk9 _)
      have okl:=okR R[ps.length] (Rk9 _)
      generalize fs[ps.length]=fl at el flfr
      generalize R[ps.length]=rowl at rl okl
      have ixl:p9 (fs.map V.ref) (-1)=some (.ref fl):=by
       rw[sU (by rw[cD];omega),cD,lfs,lR,Sv9]
       exact fL el
      have nl0:fl≠f0:=λz=>by
       rw[z] at el
       have:=(List.getElem?_inj (lG.mp el).1 ndz).mp (el.trans e0.symm)
       omega
      have ll:=okl.2.1
      walk_at "w"
      refine j0 (bU.of gDE) ?_
      walk_at "w"
      refine aOg (xs:=qs.map V.ref) (y:=.ref T2) (by rw[gDE,iI];rfl) ?_
      obtain⟨HF,iF,kF,gF⟩:=wr HE f0 _;rw[iF]
      have wF':jU HF f0 row0:=by
       obtain⟨qs',g',r'⟩:=rE.at_ 0 f0 _ e0 (Rt9 (by omega))
       rw[gDE] at g'
       injection g' with g'
       injection g' with g'
       have e:=(Ty9 (λx y h=>by injection h)).mp g'
       subst e
       refine⟨qs,gF,⟨lq,λj a x h1 h2=>?_⟩⟩
       have hj1:=(lG.mp h1).1
       have hj2:=(lG.mp h2).1
       exact(r'.at_ j a x (by rw[Qq9 hj1];exact h1) (by rw[Qq9 hj2];exact h2)).jX gDE kF
      have rF:=nG rE ndz e0 gDE kF wF'
      rw[List.set_set,show R.set 0 row0=R by obtain⟨h,e⟩:=lG.mp r0;rw[<-e];exact List.set_getElem_self h] at rF
      have gzF:=kF _ _ gzE (Ne.symm f0fr.2)
      have hF:=hE.jX gDE kF
      have KF:cE p H HF:=λa o e ne=>kF _ _ (KE _ _ e ne) (bQ f0fr.1 e)
      obtain⟨ql,gql,rql⟩:=rF.at_ ps.length fl rowl el rl
      have lql:=rql.len
      walk_at "w"
      refine j0 (bU.of gql) ?_
      walk_at "w"
      intro T3 nT3
      obtain⟨HG,iG,sG,gG⟩:=nw _ nT3;rw[iG]
      walk_at "w"
      refine⟨p,_,rfl,hF.same sG,by decide,by decide,λry HI aI bI hI kI _=>?_⟩
      have hG:=hF.same sG
      have gT3:=kI _ _ gG (λz=>hG.iX _ (by rw[<-z];exact gG))
      have gqlI:=kI _ _ (sG _ _ gql) (cN hG (sG _ _ gql))
      have rI:=eG (rF.imp λ_ _ z=>z.same sG) hG kI
      have rqlI:RL (zG HI) ql rowl:=rql.imp λq p' ⟨b,z1,z2⟩=>⟨b,kI _ _ (sG _ _ z1) λy=>hG.iX _ (by rw[<-y];exact sG _ _ z1),kI _ _ (sG _ _ z2) λy=>hG.iX _ (by rw[<-y];exact sG _ _ z2)⟩
      have gzI:=kI _ _ (sG _ _ gzF) (cN hG (sG _ _ gzF))
      have KI:cE p H HI:=KF.trans (sG.keep.trans kI)
      walk_at "w"
      intro T4 nT4
      obtain⟨HJ,iJ,sJ,gJ⟩:=nw _ nT4;rw[iJ]
      have gqlJ:=sJ _ _ gqlI
      have n3:T3≠fl:=λz=>by rw[z,gqlI] at gT3;cases gT3
      have n4:T4≠fl:=λz=>by rw[z,gqlJ] at gJ;cases gJ
      walk_at "w"
      refine qN (xs:=ql.map V.ref) gqlJ (uU (by rw[cD];omega:(ql.map V.ref).length < 20000) (cO (by decide))) ?_
      rw[show ql.map V.ref ++ [.ref T4]=(ql ++ [T4]).map V.ref by rw[iI];rfl]
      obtain⟨HL,iL,kL,gL⟩:=wr HJ fl _;rw[iL]
      obtain⟨v2,wL⟩ : ∃v,jU HL fl (rowl ++ [((0,59),v)]):=⟨_,_,gL,RL.snoc (rqlI.imp λ_ _ z=>(z.same sJ).jX gqlJ kL) ⟨T3,kL _ _ gJ n4,kL _ _ (sJ _ _ gT3) n3⟩⟩
      have rL:=nG (rI.imp λ_ _ z=>z.same sJ) ndz el gqlJ kL wL
      walk_at "w"
      refine k lz (R.set ps.length (rowl ++ [((0,59),v2)])) HL ⟨fs,kL _ _ (sJ _ _ gzI) (Ne.symm flfr.2),rL⟩ (by rw[Rv9];exact lR) ⟨by rw[Rv9];omega,λrow hr=>?_⟩ (λrow hr=>?_) ?_ ((hI.same sJ).jX gqlJ kL) (λa o e ne=>kL _ _ (sJ _ _ (KI _ _ e ne)) (bQ flfr.1 e))
      ·rcases Rz9 hr with z|z
       ·exact⟨by have:=(okR row z).2.1;omega,(okR row z).2.2⟩
       ·rw[z]
        refine⟨by rw[sO,Se9];omega,λp' hp=>?_⟩
        rcases Rf9.mp hp with y|y
        ·exact okl.2.2 p' y
        ·rw[zJ.mp y];exact⟨.inl rfl,by show(0:Int)<=59;decide,by show(59:Int) < 60;decide⟩
      ·rcases Rz9 hr with z|z
       ·exact(okR row z).1
       ·rw[z];simp
      ·rw[Qo9,Sa9 (by omega),r0,Tf9]
       exact st8
     ·walk_at "w"
      exact end1 HE (.inr ⟨hE,kE⟩)
    ·walk_at "w"
     exact end1 HD (.inl (aU.refl _))
   ·walk_at "w"
    exact k lz R H9 ⟨fs,g9,r9⟩ lR ⟨by omega,λrow hr=>⟨by have:=(okR row hr).2.1;omega,(okR row hr).2.2⟩⟩ (λrow hr=>(okR row hr).1) st8 h9 K9
def aBP(K:W.Frag):Sp:=λvs H Q _=>∃(p t:Addr) (j:Nat) (rows:List (List WP)),vs=[.ref p,.ref t,.int (j:Int)]/\bJ H p/\vR H t rows/\j < rows.length/\rows.length<=9/\sF 62 rows/\(∀row∈rows,row≠[])/\
 ∀t' rows' H',vR H' t' rows'->sF 63 rows'->bJ H' p->cE p H H'->Q (.ref t') H'
theorem aBQ{P:Program}{w:World}{K:PySem.W.Frag}{mg:Str->Option Value}{base:Heap}{a:qA}(tx:Txt K mg a):cR P w K mg base lQ 2 a.lA a.lB ["_law_hand","_law_rows","_law_at"] (aBP K):=by
 have aS:=dN (P:=P) (w:=w) (base:=base) tx
 refine tx.pK.ok dU (λvs H Q E h=>?_) (λcdv A outer s H vs Q E hr h=>?_)
 ·obtain⟨p,t,j,rows,rfl,_⟩:=h
  rfl
 ·obtain⟨p,t,j,rows,rfl ,hh,ht,hj,hlen,hT,hne,k⟩:=h
  have hu:=qJ hr
  refine bV (aH (qQ (k:=1) (idx:=[]) (N:=["_law_entries"]) (i:=1) dU.nd rfl (Or.inl rfl) (dZ (sc:=aL eF) (NX:=["_law_hand","_law_rows","_law_at","_law_entries","_law_way","_law_spot","_law_one","_law_worth"]) rfl rfl rfl (by decide +kernel)) rfl (bR (K':=K) (Z.pv 1)) (λ_ _ _ _=>(aQ (i:=0) (show(["_law_entries"]:List Str).Nodup by decide +kernel))) (eN (by decide)) (λ_ _ _ _=>cK) (λ_ _ _ _=>(cH (rc:=mB K) iK (by rfl) tx.kK oC (aB (Z.pv 0) aG))))
   (aH (aP (i:=4) dU.nd (zq1 aS hr tx.aX tx.aV.kp tx.aW (aB (Z.pv 0) (aB aF aG))))
   (aH (aP (i:=3) dU.nd (aN (K':=K) (Z.pv 1) (Z.pv 2)))
   (aH (aP (i:=5) dU.nd (aM iZ (zq1 aS hr tx.aX tx.aV.kp tx.aW (aB (Z.pv 0) (aB aF aG))) (aO (rc:=lK K) cB (by rfl) tx.dX dI (aB (Z.pv 3) aG))))
   (aH (vB (aN (K':=K) (Z.pv 3) (Z.pv 5)) (cT (K':=K) (n:=2) rfl (bF (aQ (i:=6) dU.nd) (bF (aQ (i:=7) dU.nd) cS))))
   (aH (bH (aZ (r:=jY K) (dR hu) (Z.pv 4) aF (bP _)) (aJ (aR (aM bY (aM bY (fZ (rs:=aDe K) aFB (Z.pv 1) iM (fD (Z.pv 2))) (mC (cH (rc:=mB K) iK (by rfl) tx.kK oC (aB (Z.pv 3) aG)))) (fZ (rs:=aDe K) aFB (Z.pv 1) (fD (Z.pv 2)) iM)))) aY)
   (aH (bH (aZ (r:=jY K) (dR hu) (Z.pv 4) aF (bP _)) (aJ (aR (aM bY (fZ (rs:=aDe K) aFB (Z.pv 1) iM (fD (Z.pv 2))) (fZ (rs:=aDe K) aFB (Z.pv 1) (fD (aM bY (Z.pv 2) aF)) iM)))) aY)
   (aH (bH (aZ (r:=jY K) (dR hu) (Z.pv 4) aF (bP _)) (aJ (cZ (fE (K':=K) (Z.pv 3) (aB (cQ (Z.pv 6) (aM eZ (Z.pv 7) (zq1 aS hr tx.aX tx.aV.kp tx.aW (aB (Z.pv 0) (aB aF aG))))) aG)))) aY)
   (aH (bH (aZ (r:=jY K) (dR hu) (Z.pv 4) aF (bP _)) (aJ (cZ (aDn (K':=K) (Z.pv 3) (aB (Z.pv 5) aG)))) aY)
   (aH (bH (aZ xA (Z.pv 4) aF (bP _)) (aJ (vB (cQ (Z.pv 6) (aM bY (Z.pv 7) (aN (K':=K) (aGu aF aF (fX nH aF) aF) (aM eZ (Z.pv 4) aF)))) (yZ (Z.pv 3) (Z.pv 5) set_list))) aY)
   (aJ (aR (Z.pv 1))))))))))))) ?_
  obtain⟨es,gt,re⟩:=ht.ex
  have les:=re.len
  refine bK (σ:=[some (.ref p),some (.ref t),some (.int (j:Int)),none,none,none,none,none]) rfl ?_
  walk_at "w"
  refine iE (bU.of gt) ?_
  refine dP (xs:=es.map V.ref) (λj us H6=>aU H H6/\∃fs:List Addr,us=fs.map V.ref/\(∀f∈fs,H f=none)/\fs.Nodup/\RL (jU H6) fs (rows.take j)) ⟨aU.refl _,[],rfl,(λf h=>by cases h),Sy9,RL.nil⟩ (cO (by rw[cD];omega))
   (λj us H6 hj ⟨s6,fs,e,_,_,r⟩=>⟨bU.of (s6 _ _ gt),by rw[e,cD,r.len,uV];omega⟩) (λj v us H6 hv z76q=>?_) (λus H6 z77q=>?_)
  ·obtain⟨s6,fs,e,fn,fd,r⟩:=z76q
   obtain⟨e1,row,ee,rfl,er,qs,gq,rq⟩:=re.gt hv
   walk_at "w"
   refine nK (bU.of (s6 _ _ gq)) ?_
   intro c1 nc1
   obtain⟨H7,i7,s7,g7⟩:=nw _ nc1;rw[i7]
   refine⟨s6.trans s7,fs ++ [c1],by rw[e,iI];rfl,λf hf=>?_,?_,?_⟩
   ·rcases Rf9.mp hf with z|z
    ·exact fn f z
    ·rw[zJ.mp z];exact s6.free nc1
   ·rw[Sn9]
    refine⟨fd,by simp,λa ha' c hc z=>?_⟩
    rw[zJ.mp hc] at z
    subst z
    obtain⟨j2,ej⟩:=Rm9 ha'
    have lj:j2 < (rows.take j).length:=by rw[<-r.len];exact(lG.mp ej).1
    obtain⟨qs2,z2,_⟩:=r.at_ j2 a _ ej (dF lj)
    rw[z2] at nc1
    cases nc1
   ·rw[cY er]
    exact RL.snoc (r.imp λ_ _ z=>z.same s7) ⟨qs,g7,rq.imp λ_ _ z=>z.same (s6.trans s7)⟩
  obtain⟨s6,fs,e,fn,fd,r⟩:=z77q
  rw[cD,les,Rb9] at r
  have lfs:=r.len
  intro t1 nt1
  obtain⟨H1,i1,s1,g1⟩:=nw _ nt1;rw[i1]
  have S1:=s6.trans s1
  have hfs:∀f∈fs,f≠t1:=λf hf z=>by
   obtain⟨i,hi⟩:=Rm9 hf
   have hi':i < rows.length:=by rw[<-lfs];exact(lG.mp hi).1
   obtain⟨qs,g,_⟩:=r.at_ i f _ hi (dF hi')
   rw[z,nt1] at g
   cases g
  have r1:RL (jU H1) fs rows:=r.imp λ_ _ z=>z.same s1
  rw[e] at g1
  walk_at "w"
  refine⟨p,_,rfl,hh.same S1,by decide,by decide,λway H2 w0 w1 h2 k2 _=>?_⟩
  have g2:=k2 _ _ g1 (cN (hh.same S1) g1)
  have r2:=eG r1 (hh.same S1) k2
  have K2:cE p H H2:=S1.keep.trans k2
  have lfm:(fs.map V.ref).length=rows.length:=by rw[cD,lfs]
  have ef:fs[j]?=some fs[j]:=dF (by omega)
  have er:rows[j]?=some rows[j]:=dF hj
  have wj:=r2.at_ j _ _ ef er
  have hfn:=fn fs[j] (Rk9 _)
  have nft:t1≠fs[j]:=Ne.symm (hfs _ (Rk9 _))
  generalize fs[j]=f at ef wj hfn nft
  generalize rows[j]=row at er wj
  obtain⟨qs,gq,rq⟩:=wj
  have rok:=hT.row row (iW er)
  have ix:p9 (fs.map V.ref) (j:Int)=some (.ref f):=dA (fL ef)
  walk_at "w"
  refine⟨p,_,rfl,h2,by decide,by decide,λrb H5 a5 b5 h5 k5 _=>?_⟩
  have lqs:=rq.len
  have rpos:0 < row.length:=Tc9.mpr (hne row (iW er))
  have nfp:f≠p:=cN h2 gq
  obtain⟨jk,hjk,ejk⟩:=aAN (n:=row.length) a5 rpos
  have gq5:=k5 _ _ gq nfp
  have g5:=k5 _ _ g2 (cN h2 g2)
  have r5:=eG r2 h2 k5
  have K5:=K2.trans k5
  have hl1:0 < (row.length:Int):=by omega
  have lqm:(qs.map V.ref).length=row.length:=by rw[cD];exact lqs
  have rq5:RL (zG H5) qs row:=rq.imp λq p' ⟨b,z1,z2⟩=>⟨b,k5 _ _ z1 λy=>h2.iX _ (by rw[<-y];exact z1),k5 _ _ z2 λy=>h2.iX _ (by rw[<-y];exact z2)⟩
  have eqk:qs[jk]?=some (qs[jk]'(by rw[lqs];exact hjk)):=dF (by rw[lqs];exact hjk)
  have erk:row[jk]?=some row[jk]:=dF hjk
  have gk5:=rq5.at_ jk _ _ eqk erk
  generalize qs[jk]'(by rw[lqs];exact hjk)=qk at eqk gk5
  have pk:=rok.2 row[jk] (Rk9 hjk)
  generalize row[jk]=ow at erk gk5 pk
  obtain⟨bk,gk5,gk6⟩:=gk5
  have ixk:p9 (qs.map V.ref) (jk:Int)=some (.ref qk):=dA (fL eqk)
  walk_at "w"
  rw[lqm,ejk]
  refine aDf (bU.of gq5) ixk ?_
  refine fB (iY.of gk5) rfl ?_
  walk_at "w"
  refine cI (λc0=>?_) (λn0=>?_)
  ·walk_at "w"
   refine qK (bU.of g5) λp1 np1=>?_
   rw[aE9,<-List.map_take]
   obtain⟨H4,i4,s4,g4⟩:=nw _ np1;rw[i4]
   have g34:=s4 _ _ g5
   walk_at "w"
   refine nK (bU.of (s4 _ _ gq5)) ?_
   intro c1 nc1
   obtain⟨H6,i6,s6',g6⟩:=nw _ nc1;rw[i6]
   walk_at "w"
   intro p2 np2
   obtain⟨H7,i7,s7,g7⟩:=nw _ np2;rw[i7]
   walk_at "w"
   refine lZ (xs:=(fs.take j).map V.ref) (zs:=[.ref c1]) ((s6'.trans s7) _ _ g4) g7 (cO (by rw[cD,uV];simp;omega)) ?_
   intro p3 np3
   obtain⟨H8,i8,s8,g8⟩:=nw _ np3;rw[i8]
   have s48:=s6'.trans (s7.trans s8)
   walk_at "w"
   refine qK (bU.of (s48 _ _ g34)) λp4 np4=>?_
   rw[aFa,<-List.map_drop]
   obtain⟨H9,i9,s9,g9⟩:=nw _ np4;rw[i9]
   walk_at "w"
   refine lZ (xs:=(fs.take j).map V.ref ++ [.ref c1]) (zs:=(fs.drop j).map V.ref) (s9 _ _ g8) g9 (cO (by rw[sO,cD,cD,uV,Sf9];simp;omega)) ?_
   intro t2 nt2
   obtain⟨HA,iA,sA,gA⟩:=nw _ nt2;rw[iA]
   have s5A:=s4.trans (s48.trans (s9.trans sA))
   walk_at "w"
   refine k t2 ((rows.take j ++ [row])++rows.drop j) HA ⟨(fs.take j ++ [c1])++fs.drop j,by rw[gA,iI,iI];rfl,RL.app (RL.snoc ((r5.tk j).imp λ_ _ z=>z.same s5A) ⟨qs,(s7.trans (s8.trans (s9.trans sA))) _ _ g6,rq5.imp λ_ _ z=>z.same s5A⟩) ((r5.dp j).imp λ_ _ z=>z.same s5A)⟩ ⟨by rw[sO,sO,uV,Sf9];simp;omega,λrow' h'=>?_⟩ (h5.same s5A) (K5.trans s5A.keep)
   rcases Rf9.mp h' with z|z
   ·rcases Rf9.mp z with z|z
    ·exact(hT.le (by decide)).row row' (List.mem_of_mem_take z)
    ·rw[zJ.mp z];exact(hT.le (by decide)).row row (iW er)
   ·exact(hT.le (by decide)).row row' (List.mem_of_mem_drop z)
  walk_at "w"
  refine cI (λc1=>?_) (λn1=>?_)
  ·walk_at "w"
   refine qK (bU.of g5) λp1 np1=>?_
   rw[aE9,<-List.map_take]
   obtain⟨H6,i6,s6',g6⟩:=nw _ np1;rw[i6]
   walk_at "w"
   refine qK (bU.of (s6' _ _ g5)) λp2 np2=>?_
   rw[show(j:Int)+1=((j+1:Nat):Int) by push_cast;rfl,aFa,<-List.map_drop]
   obtain⟨H7,i7,s7,g7⟩:=nw _ np2;rw[i7]
   walk_at "w"
   refine lZ (xs:=(fs.take j).map V.ref) (zs:=(fs.drop (j+1)).map V.ref) (s7 _ _ g6) g7 (cO (by rw[cD,cD,uV,Sf9];omega)) ?_
   intro t2 nt2
   obtain⟨H8,i8,s8,g8⟩:=nw _ nt2;rw[i8]
   have s58:=s6'.trans (s7.trans s8)
   walk_at "w"
   refine k t2 (rows.take j++rows.drop (j+1)) H8 ⟨fs.take j++fs.drop (j+1),by rw[g8,iI],RL.app ((r5.tk j).imp λ_ _ z=>z.same s58) ((r5.dp (j+1)).imp λ_ _ z=>z.same s58)⟩ ⟨by rw[sO,uV,Sf9];omega,λrow' h'=>?_⟩ (h5.same s58) (K5.trans s58.keep)
   rcases Rf9.mp h' with z|z
   ·exact(hT.le (by decide)).row row' (List.mem_of_mem_take z)
   ·exact(hT.le (by decide)).row row' (List.mem_of_mem_drop z)
  walk_at "w"
  refine cI (λc2=>?_) (λn2=>?_)
  ·walk_at "w"
   refine j0 (bU.of gq5) ?_
   walk_at "w"
   refine⟨p,_,rfl,h5,by decide,by decide,λrc H6' a6 b6 h6 k6 _=>?_⟩
   have gq6:=k6 _ _ gq5 nfp
   have g6:=k6 _ _ g5 (cN h5 g5)
   have r6:=eG r5 h5 k6
   have K6:=K5.trans k6
   have gb6:=k6 _ _ gk6 (λy=>h5.iX _ (by rw[<-y];exact gk6))
   have rq6:RL (zG H6') qs row:=rq5.imp λq p' ⟨b,z1,z2⟩=>⟨b,k6 _ _ z1 λy=>h5.iX _ (by rw[<-y];exact z1),k6 _ _ z2 λy=>h5.iX _ (by rw[<-y];exact z2)⟩
   walk_at "w"
   intro T nT
   obtain⟨H7,i7,s7,g7⟩:=nw _ nT;rw[i7]
   have gq7:=s7 _ _ gq6
   have nTf:T≠f:=λz=>by rw[z,gq6] at nT;cases nT
   walk_at "w"
   refine qN gq7 (uU (by rw[lqm];omega:(qs.map V.ref).length < 2000) (cO (by decide))) ?_
   rw[show qs.map V.ref ++ [.ref T]=(qs ++ [T]).map V.ref by rw[iI];rfl]
   obtain⟨H8,i8,k8,g8⟩:=wr H7 f _;rw[i8]
   have w8:jU H8 f (row ++ [(ow.1,ow.2 - rc)]):=⟨_,g8,RL.snoc (rq6.imp λq p z=>(z.same s7).jX gq7 k8) ⟨bk,k8 _ _ g7 nTf,k8 _ _ (s7 _ _ gb6) (λz=>by rw[z,gq6] at gb6;cases gb6)⟩⟩
   walk_at "w"
   refine cI (λz=>absurd z (by omega)) (λ_=>?_)
   walk_at "w"
   refine cI (λz=>absurd z (by omega)) (λ_=>?_)
   walk_at "w"
   refine k t1 _ H8 ⟨fs,k8 _ _ (s7 _ _ g6) nft,nG (r6.imp λ_ _ z=>z.same s7) fd ef gq7 k8 w8⟩ (hT.put (by decide) (by rw[sO];simp;omega) λp' hp=>?_) ((h6.same s7).jX gq7 k8) (λb o e ne=>k8 _ _ (s7 _ _ (K6 _ _ e ne)) (bQ hfn e))
   rcases Rf9.mp hp with z|z
   ·exact rok.2 p' z
   ·rw[zJ.mp z];exact pk
  walk_at "w"
  refine cI (λc3=>?_) (λn3=>?_)
  ·walk_at "w"
   refine j0 (bU.of gq5) ?_
   walk_at "w"
   refine aJh gq5 (fL eqk) (by omega) ?_
   rw[<-aHX]
   obtain⟨H8,i8,k8,g8⟩:=wr H5 f _;rw[i8]
   have w8:jU H8 f (row.eraseIdx jk):=⟨_,g8,RL.erase (rq5.imp λq p z=>z.jX gq5 k8) jk⟩
   walk_at "w"
   refine cI (λz=>absurd z (by omega)) (λ_=>?_)
   walk_at "w"
   refine k t1 _ H8 ⟨fs,k8 _ _ g5 nft,nG r5 fd ef gq5 k8 w8⟩ (hT.put (by decide) (zK (List.length_eraseIdx_le ..) (by omega)) λp' hp=>rok.2 p' (List.mem_of_mem_eraseIdx hp)) (h5.jX gq5 k8) (λb o e ne=>k8 _ _ (K5 _ _ e ne) (bQ hfn e))
  walk_at "w"
  refine cI (λc4=>?_) (λn4=>absurd (show way > 3 by omega) n4)
  walk_at "w"
  intro l4 nl4
  obtain⟨H6,i6,s6',g6⟩:=nw _ nl4;rw[i6]
  obtain⟨dv,edv⟩ : ∃dv:Int,p9 [V.int 1,V.int 1,V.int (-1),V.int 2] (way - 4)=some (V.int dv):=by
   rcases(show way=4\/way=5\/way=6\/way=7 by omega) with rfl|rfl|rfl|rfl
   ·exact⟨1,rfl⟩
   ·exact⟨1,rfl⟩
   ·exact⟨-1,rfl⟩
   ·exact⟨2,rfl⟩
  walk_at "w"
  intro T nT
  obtain⟨H7,i7,s7,g7⟩:=nw _ nT;rw[i7]
  have s57:=s6'.trans s7
  have gq7:=s57 _ _ gq5
  have nTf:T≠f:=λz=>by rw[z,s6' _ _ gq5] at nT;cases nT
  walk_at "w"
  refine aAG (j:=jk) gq7 (aGS (by rw[lqm];exact hjk)) ?_
  rw[<-List.map_set]
  obtain⟨H8,i8,k8,g8⟩:=wr H7 f _;rw[i8]
  have w8:jU H8 f (row.set jk (ow.1,ow.2+dv)):=⟨_,g8,RL.aPH (rq5.imp λq p z=>(z.same s57).jX gq7 k8) ⟨bk,k8 _ _ g7 nTf,k8 _ _ (s57 _ _ gk6) (λz=>by rw[z,gq5] at gk6;cases gk6)⟩⟩
  walk_at "w"
  refine k t1 _ H8 ⟨fs,k8 _ _ (s57 _ _ g5) nft,nG (r5.imp λ_ _ z=>z.same s57) fd ef gq7 k8 w8⟩ (hT.put (by decide) (by rw[Rv9];omega) λp' hp=>?_) ((h5.same s57).jX gq7 k8) (λb o e ne=>k8 _ _ (s57 _ _ (K5 _ _ e ne)) (bQ hfn e))
  rcases Rz9 hp with z|z
  ·exact rok.2 p' z
  ·rw[z];exact pk
theorem aH0{H:Hp}{fs es:List Addr}{rows:List (List WP)}(r:RL (λf e=>∃qs:List Addr,H f=some (.lst (qs.map V.ref))/\H e=some (.lst (qs.map V.ref))) fs es)(re:RL (jU H) es rows):RL (jU H) fs rows:=by
 refine⟨r.len.trans re.len,λj f row ef er=>?_⟩
 have hj:j < es.length:=by rw[<-r.len];exact(lG.mp ef).1
 have ee:=dF hj
 obtain⟨qs,g1,g2⟩:=r.at_ j f _ ef ee
 obtain⟨qs',g3,r3⟩:=re.at_ j _ row ee er
 rw[g2] at g3
 injection g3 with g3
 injection g3 with g3
 have e:=(Ty9 (λx y h=>by injection h)).mp g3
 subst e
 exact⟨qs,g1,r3⟩
def aCn(K:W.Frag)(C t:Addr):Sp:=λvs H Q _=>∃(x s:Addr) (m:MS) (b:Addr) (st:Int×Int) (q tb:Addr) (ps:List Int) (rows:List (List WP)) (num:Int),vs=[.ref x,.ref s,.ref b,.ref q,.ref tb,.int num]/\H t=some (.ctb jS jT)/\dW C H x m/\d8 H s m/\m.Good/\H b=some (.tup [.int st.1,.int st.2])/\H q=some (.lst (ps.map V.int))/\(∀n∈ps,Am n)/\ps.length<=48/\vR H tb rows/\sF 63 rows/\
 ∀H',aU H H'->Q (.bl true) H'
theorem aCo{P:Program}{w:World}{K:PySem.W.Frag}{mg:Str->Option Value}{base:Heap}{a:qA}(tx:Txt K mg a):cR P w K mg base lQ 13 a.mV a.mW ["_law_machine_here","_law_spec_here","_law_state_here","_law_prices_here","_law_rows","_law_number"] (aCn K a.bS a.lO):=by
 have aCp:=aBN (P:=P) (w:=w) (base:=base) tx
 have aFg:=aD7 (P:=P) (w:=w) (base:=base) tx
 refine tx.jR.ok pA (λvs H Q E h=>?_) (λcdv A outer s H vs Q E hr h=>?_)
 ·obtain⟨x,s,m,b,st,q,tb,ps,rows,num,rfl,_⟩:=h
  rfl
 ·obtain⟨x,s,m,b,st,q,tb,ps,rows,num,rfl ,gt,hm,hs,hg,hb,hq,ha,hl,htb,hT,k⟩:=h
  have hu:=qJ hr
  refine bV (aH (qQ (k:=1) (idx:=[]) (N:=["_law_entries"]) (i:=6) pA.nd rfl (Or.inl rfl) (dZ (sc:=aL fJ) (NX:=["_law_machine_here","_law_spec_here","_law_state_here","_law_prices_here","_law_rows","_law_number","_law_handed","_law_found"]) rfl rfl rfl (by decide +kernel)) rfl (bR (K':=K) (Z.pv 4)) (λ_ _ _ _=>(aQ (i:=0) (show(["_law_entries"]:List Str).Nodup by decide +kernel))) (eN (by decide)) (λ_ _ _ _=>cK) (λ_ _ _ _=>(cH (rc:=mB K) iK (by rfl) tx.kK oC (aB (Z.pv 0) aG))))
   (aH (aP (i:=7) pA.nd (zq1 aFg hr tx.aAe tx.t9.kp tx.aAd (aB (Z.pv 0) (aB (Z.pv 2) (aB (cH (rc:=mB K) iK (by rfl) tx.kK oC (aB (Z.pv 3) aG)) (aB (Z.pv 6) (aB (Z.pv 5) aG)))))))
   (aH (bH (nM (aAZ (fP (d9 (aO (rc:=aFE K) pV (by rfl) tx.dC hZ (aB (Z.pv 7) (aB (nO (v:=.ty "bool") (by rfl) tx.wU aGr rfl) aG))))) (yY (aZ (r:=aNP K) (aNQ hu) (Z.pv 6) (Z.pv 4) (bP _))))) (aJ (aR cU)) aY)
   (aJ (aR (fY (r:=jY K) (dR hu) (Z.pv 7) (zq1 aCp hr tx.vY tx.pJ.kp tx.vX (aB (Z.pv 1) (aB (Z.pv 2) (aB (Z.pv 3) (aB (Z.pv 4) (aB (Z.pv 5) aG)))))) (bP _))))))) ?_
  obtain⟨es,gt1,re⟩:=htb.ex
  have les:=re.len
  have hT0:=hT.len
  refine bK (σ:=[some (.ref x),some (.ref s),some (.ref b),some (.ref q),some (.ref tb),some (.int num),none,none]) rfl ?_
  walk_at "w"
  refine iE (bU.of gt1) ?_
  refine dP (xs:=es.map V.ref) (λj us H6=>aU H H6/\∃fs:List Addr,us=fs.map V.ref/\RL (λf e=>∃qs:List Addr,H6 f=some (.lst (qs.map V.ref))/\H6 e=some (.lst (qs.map V.ref))) fs (es.take j)) ⟨aU.refl _,[],rfl,RL.nil⟩ (cO (by rw[cD];omega))
   (λj us H6 hj ⟨s6,fs,e,r⟩=>⟨bU.of (s6 _ _ gt1),by rw[e,cD,r.len,uV];omega⟩) (λj v us H6 hv z78q=>?_) (λus H6 z79q=>?_)
  ·obtain⟨s6,fs,e,r⟩:=z78q
   obtain⟨e1,row,ee,rfl,er,qs,gq,rq⟩:=re.gt hv
   walk_at "w"
   refine nK (bU.of (s6 _ _ gq)) ?_
   intro c1 nc1
   obtain⟨H7,i7,s7,g7⟩:=nw _ nc1;rw[i7]
   refine⟨s6.trans s7,fs ++ [c1],by rw[e,iI];rfl,?_⟩
   rw[cY ee]
   exact RL.snoc (r.imp λ_ _ ⟨qs,z1,z2⟩=>⟨qs,s7 _ _ z1,s7 _ _ z2⟩) ⟨qs,g7,(s6.trans s7) _ _ gq⟩
  obtain⟨s6,fs,e,r⟩:=z79q
  subst e
  rw[cD,Rb9] at r
  have lfs:=r.len
  intro lh nlh
  obtain⟨H7,i7,s7,g7⟩:=nw _ nlh;rw[i7]
  have S7:=s6.trans s7
  have r7:RL (λf e=>∃qs:List Addr,H7 f=some (.lst (qs.map V.ref))/\H7 e=some (.lst (qs.map V.ref))) fs es:=r.imp λ_ _ ⟨qs,z1,z2⟩=>⟨qs,s7 _ _ z1,s7 _ _ z2⟩
  have t7:vR H7 lh rows:=⟨fs,g7,aH0 r7 (re.imp λ_ _ z=>z.same S7)⟩
  walk_at "w"
  refine nK (bU.of (S7 _ _ hq)) ?_
  intro lq nlq
  obtain⟨H8,i8,s8,g8⟩:=nw _ nlq;rw[i8]
  have S8:=S7.trans s8
  walk_at "w"
  refine⟨x,m,b,st,lq,lh,ps,rows,num,rfl,S8 _ _ gt,hm.same S8,hg,S8 _ _ hb,g8,ha,hl,t7.same s8,by omega,λrow hr=>⟨by have:=(hT.row row hr).1;omega,(hT.row row hr).2⟩,λH9 s9=>?_⟩
  have s79:=s8.trans s9
  have S9:=S7.trans s79
  walk_at "w"
  refine aAX (aEY (.bl _)) ?_
  repeat walk_at "gs"
  refine aNR (s79 _ _ g7) (S9 _ _ gt1) lfs (λj a b ha hb=>?_) ?_
  ·obtain⟨qs,z1,z2⟩:=r7.at_ j a b ha hb
   exact⟨qs,s79 _ _ z1,s79 _ _ z2⟩
  repeat walk_at "gs"
  refine⟨s,m,b,st,q,tb,ps,rows,num,rfl,hs.same S9,hg,S9 _ _ hb,S9 _ _ hq,ha,hl,htb.same S9,by omega,λrow hr=>⟨by have:=(hT.row row hr).1;omega,(hT.row row hr).2⟩,λH10 s10=>?_⟩
  repeat walk_at "gs"
  rw[show ∀z:Bool,eqV (.bl z) (.bl z)=true from λz=>by cases z <;> rfl]
  exact k _ (S9.trans s10)
theorem aC4:∀(c' c:List WP) (y:Int×Int),y∈(aAz c c').map (·.1)↔y∈c.map (·.1)\/y∈c'.map (·.1)
 |[],c,y=>by show y∈c.map (·.1)↔_;simp
 |p::r,c,y=>by
  show y∈(aAz (addW c p.1 p.2) r).map (·.1)↔_
  rw[aC4 r,vM,Rg9,lW,or_assoc]
theorem aH1{ps:List WP}{k:Int×Int}(h:k∈ps.map (·.1)):∃v,kM ps k=some v:=by
 obtain⟨p,hp,e⟩:=o8.mp h
 unfold kM
 cases q:ps.find? λp=>decide (p.1=k) with
 |none=>
  rw[List.find?_eq_none] at q
  exact absurd (decide_eq_true e) (q p hp)
 |some x=>exact⟨x.2,rfl⟩
def aEc(K:W.Frag)(t3:Addr):Sp:=λvs H Q _=>∃(a:Addr) (ns:List Int),vs=[.ref a]/\bU K H a (ns.map V.int)/\ns.length<=63/\H t3=some (.ctb jS jT)/\∀H',aU H H'->Q (.bl true) H'
theorem aOh{P:Program}{w:World}{K:PySem.W.Frag}{mg:Str->Option Value}{base:Heap}{a:qA}(tx:Txt K mg a):cR P w K mg base lQ 14 a.aGP a.aGQ ["_law_script"] (aEc K a.lO):=by
 have aS:=dN (P:=P) (w:=w) (base:=base) tx
 have wB:=aBt (P:=P) (w:=w) (base:=base) tx
 have aFh:=aEb (P:=P) (w:=w) (base:=base) tx
 have aBR:=aAs (P:=P) (w:=w) (base:=base) tx
 have aAk:=aDH (P:=P) (w:=w) (base:=base) tx
 have aCq:=aBI (P:=P) (w:=w) (base:=base) tx
 have rY:=aCo (P:=P) (w:=w) (base:=base) tx
 have aFi:=aDM (P:=P) (w:=w) (base:=base) tx
 have aCr:=aBQ (P:=P) (w:=w) (base:=base) tx
 have yK:=aCa (P:=P) (w:=w) (base:=base) tx
 refine tx.aL2.ok eU (λvs H Q E h=>?_) (λcdv A outer s H vs Q E hr h=>?_)
 ·obtain⟨ad,ns,rfl,_⟩:=h
  rfl
 ·obtain⟨ad,ns,rfl ,hS,hl,gt3,k⟩:=h
  have hu:=qJ hr
  refine bV (aH (aP (i:=1) eU.nd (zq1 aAk hr tx.tK tx.o5.kp tx.tJ (aB (Z.pv 0) (aB aF aG))))
   (aH (aP (i:=2) eU.nd (aAH (zq1 wB hr tx.pC tx.lC.kp tx.pB (aB (Z.pv 1) aG)) (zq1 wB hr tx.pC tx.lC.kp tx.pB (aB (Z.pv 1) aG))))
   (aH (cC PassesOwn.never rfl (dO (by rfl) tx.fK (aB (aO (jZ rfl) (by rfl) tx.sE wG (aB aF (aB (aO (pU rfl) (by rfl) tx.uK yV (aB (aO (rc:=lK K) cB (by rfl) tx.dX dI (aB (Z.pv 0) aG)) (aB aF aG))) aG))) aG)) (aQ (i:=3) eU.nd) (aH (aP (i:=1) eU.nd (zq1 aAk hr tx.tK tx.o5.kp tx.tJ (aB (Z.pv 0) (aB (Z.pv 3) aG))))
   (aH (aP (i:=4) eU.nd (zq1 aFi hr tx.zX tx.tN.kp tx.zW (aB (Z.pv 1) (aB (Z.pv 2) (aB aF aG)))))
   (aH (aP (i:=5) eU.nd (zq1 aBR hr tx.tQ tx.nR.kp tx.tO (aB (Z.pv 4) aG)))
   (aH (aP (i:=6) eU.nd (zq1 yK hr tx.rM tx.mX.kp tx.rK (aB (Z.pv 1) (aB (Z.pv 4) aG))))
   (aH (aP (i:=7) eU.nd (zq1 aCq hr tx.vW tx.pG.kp tx.vV (aB (Z.pv 1) (aB (Z.pv 4) (aB (Z.pv 2) (aB (zq1 aS hr tx.aX tx.aV.kp tx.aW (aB (Z.pv 1) (aB aF aG))) aG))))))
   (aH (aP (i:=8) eU.nd (zq1 yK hr tx.rM tx.mX.kp tx.rK (aB (Z.pv 1) (aB (Z.pv 4) aG))))
   (aH (aP (i:=9) eU.nd (zq1 aFh hr tx.aAg tx.uI.kp tx.aAf (aB (Z.pv 1) (aB (Z.pv 4) (aB (Z.pv 6) (aB (Z.pv 8) (aB (Z.pv 7) aG)))))))
   (aH (aP (i:=10) eU.nd (lM hu (cH (rc:=y9) (qT rfl hu) (by rfl) tx.rV aAF (aB (aN (K':=K) (Z.pv 9) aF) aG)) (Z.pv 6)))
   (aH (aP (i:=11) eU.nd (zq1 aCr hr tx.v7 tx.pK.kp tx.vZ (aB (Z.pv 1) (aB (Z.pv 9) (aB (aM iZ (zq1 aS hr tx.aX tx.aV.kp tx.aW (aB (Z.pv 1) (aB aF aG))) (aO (rc:=lK K) cB (by rfl) tx.dX dI (aB (Z.pv 9) aG))) aG)))))
   (aH (aP (i:=12) eU.nd (aN (K':=K) (aDj (aM bY (Z.pv 10) aF) (aM eZ (Z.pv 10) aF) (Z.pv 10)) (zq1 aS hr tx.aX tx.aV.kp tx.aW (aB (Z.pv 1) (aB aF aG)))))
   (aH (cC PassesOwn.never rfl (nP (K':=K) (aLl (cQ (Z.pv 9) (Z.pv 10)) (cQ (Z.pv 11) (Z.pv 10)) (cQ (Z.pv 9) (Z.pv 12)) (cQ (Z.pv 11) (Z.pv 12)) (cQ (Z.pv 9) (Z.pv 10)))) (cT (K':=K) (n:=2) rfl (bF (aQ (i:=13) eU.nd) (bF (aQ (i:=14) eU.nd) cS))) (aJ (bH (fP (d9 (zq1 rY hr tx.nA tx.jR.kp tx.mZ (aB (Z.pv 5) (aB (Z.pv 4) (aB (Z.pv 6) (aB (Z.pv 7) (aB (Z.pv 13) (aB (Z.pv 14) aG))))))))) (aJ (aR cU)) aY)))
   (aH (bH (fP (d9 (zq1 rY hr tx.nA tx.jR.kp tx.mZ (aB (Z.pv 5) (aB (Z.pv 4) (aB (Z.pv 8) (aB (Z.pv 7) (aB (Z.pv 9) (aB (aEJ hu (cH (rc:=y9) (qT rfl hu) (by rfl) tx.rV aAF (aB (aN (K':=K) (Z.pv 9) aF) aG)) (Z.pv 8) (Z.pv 10)) aG))))))))) (aJ (aR cU)) aY)
   (aH (aP (i:=15) eU.nd (cH (rc:=mB K) iK (by rfl) tx.kK oC (aB (Z.pv 7) aG)))
   (aH (cC PassesOwn.never rfl (dO (by rfl) tx.fK (aB (aO (pU rfl) (by rfl) tx.uK yV (aB aF (aB (aO (rc:=lK K) cB (by rfl) tx.dX dI (aB (Z.pv 7) aG)) aG))) aG)) (aQ (i:=16) eU.nd) (aH (aP (i:=17) eU.nd (aM iZ (zq1 aS hr tx.aX tx.aV.kp tx.aW (aB (Z.pv 1) (aB aF aG))) (aO (rc:=lK K) cB (by rfl) tx.dX dI (aB (Z.pv 7) aG))))
   (aJ (vB (aO (pU rfl) (by rfl) tx.uK yV (aB (aM qF aF aF) (aB (aO (jZ rfl) (by rfl) tx.sE wG (aB aF (aB (aM eZ (aM bY (aN (K':=K) (Z.pv 7) (Z.pv 17)) aF) (aM cJ aF (zq1 aS hr tx.aX tx.aV.kp tx.aW (aB (Z.pv 1) (aB aF aG))))) aG))) aG))) (yZ (Z.pv 15) (Z.pv 17) set_list)))))
   (aJ (cC PassesOwn.never rfl (nP (K':=K) (cQ (Z.pv 15) (Z.pv 7))) (aQ (i:=18) eU.nd) (aJ (bH (fP (d9 (zq1 rY hr tx.nA tx.jR.kp tx.mZ (aB (Z.pv 5) (aB (Z.pv 4) (aB (Z.pv 6) (aB (Z.pv 18) (aB (Z.pv 9) (aB (Z.pv 10) aG))))))))) (aJ (aR cU)) aY)))))))))))))))))))
   (aJ (aR cU))))) ?_
  have e12:(10:Int) ^ (12:Int).toNat=1000000000000:=by decide
  refine bK (σ:=[some (.ref ad),none,none,none,none,none,none,none,none,none,none,none,none,none,none,none,none,none,none]) rfl ?_
  walk_at "w"
  refine⟨ad,ns,_,rfl,hS,hl,by omega,λp0 H1 s1 np0 hh0=>?_⟩
  walk_at "w"
  refine⟨p0,rfl,hh0,λx H2 x0 x1 h2 k2 _=>?_⟩
  walk_at "w"
  refine⟨p0,rfl,h2,λy H3 y0 y1 h3 k3 _=>?_⟩
  walk_at "w"
  intro b nb
  obtain⟨H4,i4,s4,gb⟩:=nw _ nb;rw[i4]
  have S4:aU H H4:=(wW np0 s1 (k2.trans k3)).trans s4
  walk_at "w"
  refine⟨by omega,by omega,?_⟩
  refine nL (λi σ' H'=>aU H4 H'/\∃(z1 z3 z4 z5 z6 z7 z8 z9 z10 z11 z12 z13 z14 z15 z16 z17 z18:Option V),σ'=[some (.ref ad),z1,some (.ref b),z3,z4,z5,z6,z7,z8,z9,z10,z11,z12,z13,z14,z15,z16,z17,z18]) ⟨aU.refl _,_,_,_,_,_,_,_,_,_,_,_,_,_,_,_,_,_,rfl⟩ (λi σ' H' hi z80q=>?_) (λσ' H' z81q=>?_)
  ·obtain⟨s0,z1,z3,z4,z5,z6,z7,z8,z9,z10,z11,z12,z13,z14,z15,z16,z17,z18,e⟩:=z80q
   subst e
   have S0:=S4.trans s0
   walk_at "w"
   refine⟨ad,ns,_,rfl,aU.seq S0 hS,hl,by omega,λp H5 s5 np hh=>?_⟩
   have npH4:H4 p=none:=s0.free np
   have S5:aU H4 H5:=s0.trans s5
   have bp:b≠p:=bQ np (s0 _ _ gb)
   have gb5:=S5 _ _ gb
   walk_at "w"
   refine⟨p,b,x,y,3,rfl,hh,gb5,x0,x1,y0,y1,by decide,by decide,λs m H8 hs hg _ _ h8 k8 ns8=>?_⟩
   walk_at "w"
   refine⟨s,m,rfl,hs,hg,λxm H9 hm s9 nxm=>?_⟩
   have hs9:=hs.same s9
   have h9:=h8.same s9
   walk_at "w"
   refine⟨p,s,m,rfl,h9,hs9,hg,λt o d H10 ht hst h10 k10=>?_⟩
   have hs10:=hs9.keep h9 k10
   have hm10:=hm.keep h9 k10
   have gb10:H10 b=some (.lst [.int x,.int y]):=k10 _ _ (s9 _ _ (k8 _ _ gb5 bp)) bp
   walk_at "w"
   refine⟨p,_,rfl,h10,by decide,by decide,λr11 H11 a11 b11 h11 k11 _=>?_⟩
   obtain⟨nh,rfl⟩:=Int.eq_ofNat_of_zero_le a11
   have nh8:nh < 7:=by omega
   have hs11:=hs10.keep h10 k11
   have hm11:=hm10.keep h10 k11
   have gb11:=k11 _ _ gb10 bp
   have ht11:H11 t=some (.tup [.int o,.int d]):=k11 _ _ ht λz=>h10.iX _ (by rw[<-z];exact ht)
   walk_at "w"
   refine⟨p,s,b,m,x,y,nh,rfl,h11,hs11,hg,gb11,y0,y1,by omega,λq ps H12 hq lps aps nq h12 k12=>?_⟩
   have hs12:=hs11.keep h11 k12
   have hm12:=hm11.keep h11 k12
   have ht12:H12 t=some (.tup [.int o,.int d]):=k12 _ _ ht11 λz=>h11.iX _ (by rw[<-z];exact ht11)
   have K12:cE p H5 H12:=k8.trans (s9.keep.trans (k10.trans (k11.trans k12)))
   have qp:q≠p:=h11.aJZ nq
   have st1:St1 m (o,d):=hst
   walk_at "w"
   refine⟨p,s,m,rfl,h12,hs12,hg,λt2 o2 d2 H13 ht2 hst2 h13 k13=>?_⟩
   have st2:St1 m (o2,d2):=hst2
   have hs13:=hs12.keep h12 k13
   have hm13:=hm12.keep h12 k13
   have ht13:H13 t=some (.tup [.int o,.int d]):=k13 _ _ ht12 λz=>h12.iX _ (by rw[<-z];exact ht12)
   have hq13:=k13 _ _ hq qp
   walk_at "w"
   refine⟨p,s,m,t,(o,d),t2,(o2,d2),q,ps,rfl,h13,hs13,hg,ht13,st1,ht2,st2,hq13,aps,by omega,qp,λtb rows H14 htb lrw okw new stw h14 k14=>?_⟩
   have hs14:=hs13.keep h13 k14
   have hm14:=hm13.keep h13 k14
   have ht14:H14 t=some (.tup [.int o,.int d]):=k14 _ _ ht13 λz=>h13.iX _ (by rw[<-z];exact ht13)
   have ht214:H14 t2=some (.tup [.int o2,.int d2]):=k14 _ _ ht2 λz=>h13.iX _ (by rw[<-z];exact ht2)
   have hq14:=k14 _ _ hq13 qp
   have K14:cE p H5 H14:=K12.trans (k13.trans k14)
   obtain⟨es,gt,re⟩:=htb.ex
   have les:=re.len
   have e0:es[0]?=some es[0]:=dF (by omega)
   have r0:rows[0]?=some rows[0]:=dF (by omega)
   have eg0:rows.getD 0 []=rows[0]:=by rw[Qo9,r0];rfl
   obtain⟨qs,gq,rq⟩:=re.at_ 0 _ _ e0 r0
   generalize es[0]=f0 at e0 gq
   generalize rows[0]=row0 at r0 rq eg0
   rw[eg0] at stw
   have l0:=(okw.row row0 (iW r0)).1
   have lq:=rq.len
   have ix0:p9 (es.map V.ref) 0=some (.ref f0):=dA (j:=0) (fL e0)
   walk_at "w"
   refine xM gq (vN rq) (by omega) λdp ndp=>?_
   obtain⟨H15,i15,s15,g15⟩:=nw _ ndp;rw[i15]
   have mg:eO (enc row0)=enc (aAz [] row0):=aBO row0 []
   rw[mg] at g15
   obtain⟨num,hnum⟩ : ∃v,kM (aAz [] row0) (o,d)=some v:=aH1 ((aC4 row0 [] (o,d)).mpr (.inr stw))
   have hgD:=hU.t (k:=iH (o,d)) g15 (s15 _ _ ht14)
   rw[rW,hnum] at hgD
   walk_at "w"
   refine⟨dp,_,rfl,hgD,?_⟩
   have h15:=h14.same s15
   have gt15:=s15 _ _ gt
   have hl0:0 < (rows.length:Int):=by omega
   walk_at "w"
   refine⟨p,_,rfl,h15,by decide,by decide,λr16 H16 a16 b16 h16 k16 _=>?_⟩
   obtain⟨j,hj,ej⟩:=aAN (n:=rows.length) a16 (by omega)
   have gt16:=k16 _ _ gt15 (cN h15 gt15)
   have K1416:cE p H14 H16:=s15.keep.trans k16
   have lem:(es.map V.ref).length=rows.length:=by rw[cD,les]
   walk_at "w"
   refine⟨p,tb,j,rows,by rw[lem,ej],h16,htb.keep h14 K1416,hj,by omega,okw,new,λts rws2 H17 hts ok2 h17 k17=>?_⟩
   have K17:cE p H14 H17:=K1416.trans k17
   walk_at "w"
   intro l3 nl3
   obtain⟨H18,i18,s18,g18⟩:=nw _ nl3;rw[i18]
   have l3p:l3≠p:=h17.aJZ nl3
   have h18:=h17.same s18
   walk_at "w"
   refine⟨p,_,rfl,h18,by decide,by decide,λr19 H19 a19 b19 h19 k19 _=>?_⟩
   have g19:=k19 _ _ g18 l3p
   obtain⟨ot,hot⟩ : ∃v:Int,p9 [V.int (num+1),V.int (num - 1),V.int num] r19=some (.int v):=by
    rcases(show r19=0\/r19=1\/r19=2 by omega) with e|e|e <;> rw[e]
    ·exact⟨_,rfl⟩
    ·exact⟨_,rfl⟩
    ·exact⟨_,rfl⟩
   have K19:cE p H14 H19:=K17.trans (s18.keep.trans k19)
   have htb19:=htb.keep h14 K19
   have hts19:vR H19 ts rws2:=hts.keep h17 (s18.keep.trans k19)
   have hs19:=hs14.keep h14 K19
   have hm19:=hm14.keep h14 K19
   have ht19:H19 t=some (.tup [.int o,.int d]):=K19 _ _ ht14 λz=>h14.iX _ (by rw[<-z];exact ht14)
   have ht219:H19 t2=some (.tup [.int o2,.int d2]):=K19 _ _ ht214 λz=>h14.iX _ (by rw[<-z];exact ht214)
   have hq19:=K19 _ _ hq14 qp
   have S19:aU H4 H19:=wW npH4 S5 (K14.trans K19)
   have gt319:=(S4.trans S19) _ _ gt3
   have okw':sF 63 rows:=okw.le (by decide)
   walk_at "w"
   intro A1 nA1
   obtain⟨J1,j1,u1,v1⟩:=nw _ nA1;rw[j1]
   walk_at "w"
   intro A2 nA2
   obtain⟨J2,j2,u2,v2⟩:=nw _ nA2;rw[j2]
   walk_at "w"
   intro A3 nA3
   obtain⟨J3,j3,u3,v3⟩:=nw _ nA3;rw[j3]
   walk_at "w"
   intro A4 nA4
   obtain⟨J4,j4,u4,v4⟩:=nw _ nA4;rw[j4]
   walk_at "w"
   intro A5 nA5
   obtain⟨J5,j5,u5,v5⟩:=nw _ nA5;rw[j5]
   walk_at "w"
   intro A6 nA6
   obtain⟨J6,j6,u6,v6⟩:=nw _ nA6;rw[j6]
   have t16:=u2.trans (u3.trans (u4.trans (u5.trans u6)))
   have t26:=u3.trans (u4.trans (u5.trans u6))
   have t36:=u4.trans (u5.trans u6)
   have t46:=u5.trans u6
   have t06:=u1.trans t16
   walk_at "w"
   refine aEy (iY.of v6) ?_
   refine aDg (xs:=[.ref A1,.ref A2,.ref A3,.ref A4,.ref A5]) (λl σ' H'=>aU J6 H'/\∃(z13 z14:Option V),σ'=[some (.ref ad),some (.ref p),some (.ref b),some (.int (0+(i:Int))),some (.ref s),some (.ref xm),some (.ref t),some (.ref q),some (.ref t2),some (.ref tb),some (.int num),some (.ref ts),some (.int ot),z13,z14,z15,z16,z17,z18]) ⟨aU.refl _,_,_,rfl⟩
    (λl σ' H' hl' ⟨s',_⟩=>iY.of (s' _ _ v6)) (λl v σ' J7 hv z82q=>?_) (λσ' J7 z83q=>?_)
   ·obtain⟨u7,z13,z14,e⟩:=z82q
    subst e
    obtain⟨A,one,rw',told,rfl,gA,hone,okone⟩ : ∃(A one:Addr) (rw':List (List WP)) (told:Int),v=.ref A/\J7 A=some (.tup [.ref one,.int told])/\vR J7 one rw'/\sF 63 rw':=by
     have a1:=htb19.same (t06.trans u7)
     have a2:=hts19.same (t06.trans u7)
     match l,hv with
     |0,hv=>cases hv;exact⟨A1,tb,_,_,rfl,u7 _ _ (t16 _ _ v1),a1,okw'⟩
     |1,hv=>cases hv;exact⟨A2,ts,_,_,rfl,u7 _ _ (t26 _ _ v2),a2,ok2⟩
     |2,hv=>cases hv;exact⟨A3,tb,_,_,rfl,u7 _ _ (t36 _ _ v3),a1,okw'⟩
     |3,hv=>cases hv;exact⟨A4,ts,_,_,rfl,u7 _ _ (t46 _ _ v4),a2,ok2⟩
     |4,hv=>cases hv;exact⟨A5,tb,_,_,rfl,u7 _ _ (u6 _ _ v5),a1,okw'⟩
    have w7:=t06.trans u7
    refine fB (iY.of gA) rfl ?_
    walk_at "w"
    refine⟨xm,s,m,t,(o,d),q,one,ps,rw',told,rfl,w7 _ _ gt319,hm19.same w7,hs19.same w7,hg,w7 _ _ ht19,w7 _ _ hq19,aps,by omega,hone,okone,λJ8 u8=>?_⟩
    repeat walk_at "gs"
    exact⟨u7.trans u8,_,_,rfl⟩
   obtain⟨u7,z13,z14,e⟩:=z83q
   subst e
   have w7:=t06.trans u7
   have gt7:=w7 _ _ (K19 _ _ gt (cN h14 gt))
   have htb7:=htb19.same w7
   obtain⟨es',gt',re'⟩:=htb7.ex
   rw[gt7] at gt'
   injection gt' with gt'
   injection gt' with gt'
   have ee:=(Ty9 (λx y h=>by injection h)).mp gt'
   subst ee
   obtain⟨qs2,gq2,rq2⟩:=re'.at_ 0 _ _ e0 r0
   have lq2:=rq2.len
   walk_at "w"
   refine xM gq2 (vN rq2) (by omega) λdp2 ndp2=>?_
   obtain⟨J8,j8,u8,v8⟩:=nw _ ndp2;rw[j8]
   rw[mg] at v8
   have w8:=w7.trans u8
   have hgD2:=hU.t (k:=iH (o2,d2)) v8 (w8 _ _ ht219)
   rw[rW] at hgD2
   walk_at "w"
   refine⟨dp2,rfl,.inr ⟨_,.inl v8⟩,?_⟩
   walk_at "w"
   refine⟨_,hgD2,?_⟩
   obtain⟨tn,etn⟩ : ∃v:Int,(Option.map V.int (kM (aAz [] row0) (o2,d2))).getD (V.int num)=.int v:=by
    cases kM (aAz [] row0) (o2,d2) with
    |none=>exact⟨_,rfl⟩
    |some g=>exact⟨_,rfl⟩
   rw[etn]
   walk_at "w"
   refine⟨xm,s,m,t2,(o2,d2),q,tb,ps,rows,tn,rfl,w8 _ _ gt319,hm19.same w8,hs19.same w8,hg,w8 _ _ ht219,w8 _ _ hq19,aps,by omega,htb19.same w8,okw',λJ9 u9=>?_⟩
   have w9:=w8.trans u9
   have hq9:=w9 _ _ hq19
   have h99:=h19.same w9
   repeat walk_at "gs"
   refine nK (bU.of hq9) ?_
   intro ld nld
   obtain⟨JA,jA,uA,vA⟩:=nw _ nld;rw[jA]
   have ldp:ld≠p:=h99.aJZ nld
   walk_at "w"
   rw[cD]
   refine⟨by omega,by omega,?_⟩
   refine nL (λl σ' H'=>∃(dp:List Int) (z16 z17:Option V),σ'=[some (.ref ad),some (.ref p),some (.ref b),some (.int (0+(i:Int))),some (.ref s),some (.ref xm),some (.ref t),some (.ref q),some (.ref t2),some (.ref tb),some (.int num),some (.ref ts),some (.int ot),z13,z14,some (.ref ld),z16,z17,z18]/\H' ld=some (.lst (dp.map V.int))/\dp.length=ps.length/\(∀n∈dp,Am n)/\cE p J9 H'/\dY p J9 H')
    ⟨ps,_,_,rfl,vA,rfl,aps,uA.keep,dY.of λo e=>uA _ _ e⟩ (λl σ' JB hl' z84q=>?_) (λσ' JB z85q=>?_)
   ·obtain⟨dp,z16,z17,e,gd,ldp',adp,KB,QB⟩:=z84q
    subst e
    have hB:=h99.of KB QB
    have pos:0 < ps.length:=by omega
    have hqB:=KB _ _ hq9 qp
    walk_at "w"
    refine⟨p,_,rfl,hB,by decide,by decide,λrC JC aC bC hC kC qC=>?_⟩
    obtain⟨jj,hjj,ejj⟩:=aAN (n:=ps.length) aC pos
    have hl2:0 < (ps.length:Int):=by omega
    have hqC:=kC _ _ hqB qp
    have gdC:=kC _ _ gd ldp
    have epj:ps[jj]?=some ps[jj]:=dF hjj
    have ixj:p9 (ps.map V.int) (jj:Int)=some (.int ps[jj]):=dA (by rw[qB,epj];rfl)
    walk_at "w"
    rw[cD,ejj]
    walk_at "w"
    refine⟨p,_,rfl,hC,by decide,by decide,λrD JD aD bD hD' kD qD=>?_⟩
    have gdD:=kD _ _ gdC ldp
    walk_at "w"
    refine aAG (j:=jj) gdD (aGS (by rw[cD];omega)) ?_
    rw[<-List.map_set,e12]
    obtain⟨JE,jE,kE,vE⟩:=wr JD ld _;rw[jE]
    walk_at "w"
    refine⟨_,_,_,rfl,vE,by rw[Rv9];exact ldp',λn hn=>?_,λa o e ne=>kE _ _ (kD _ _ (kC _ _ (KB _ _ e ne) ne) ne) (bQ nld e),dY.trans QB (dY.trans qC (dY.trans qD (dY.of λo e=>kE _ _ e (Ne.symm ldp))))⟩
    rcases Rz9 hn with z|z
    ·exact adp n z
    ·rw[z];exact⟨by omega,by omega⟩
   obtain⟨dp,z16,z17,e,gd,ldp',adp,KB,QB⟩:=z85q
   subst e
   have hB:=h99.of KB QB
   have hqB:=KB _ _ hq9 qp
   have K19B:cE p H19 JB:=w9.keep.trans KB
   have htbB:=htb19.keep h19 K19B
   have hsB:=hs19.keep h19 K19B
   have hmB:=hm19.keep h19 K19B
   have htB:JB t=some (.tup [.int o,.int d]):=K19B _ _ ht19 λz=>h19.iX _ (by rw[<-z];exact ht19)
   have SB:aU H4 JB:=wW npH4 S5 (K14.trans (K19.trans K19B))
   have gtB:=(S4.trans SB) _ _ gt3
   walk_at "w"
   intro TB nTB
   obtain⟨JC,jC,uC,vC⟩:=nw _ nTB;rw[jC]
   walk_at "w"
   refine aEy (iY.of vC) ?_
   refine aDg (xs:=[.ref ld,.ref q]) (λl σ' H'=>aU JC H'/\∃(z18:Option V),σ'=[some (.ref ad),some (.ref p),some (.ref b),some (.int (0+(i:Int))),some (.ref s),some (.ref xm),some (.ref t),some (.ref q),some (.ref t2),some (.ref tb),some (.int num),some (.ref ts),some (.int ot),z13,z14,some (.ref ld),z16,z17,z18]) ⟨aU.refl _,_,rfl⟩
    (λl σ' H' hl' ⟨s',_⟩=>iY.of (s' _ _ vC)) (λl v σ' JD hv z86q=>?_) (λσ' JD z87q=>?_)
   ·obtain⟨uD,z18,e⟩:=z86q
    subst e
    have wD:=uC.trans uD
    obtain⟨sm,psm,rfl,gsm,asm',lsm⟩ : ∃(sm:Addr) (psm:List Int),v=.ref sm/\JD sm=some (.lst (psm.map V.int))/\(∀n∈psm,Am n)/\psm.length<=48:=by
     match l,hv with
     |0,hv=>cases hv;exact⟨ld,dp,rfl,wD _ _ gd,adp,by omega⟩
     |1,hv=>cases hv;exact⟨q,ps,rfl,wD _ _ hqB,aps,by omega⟩
    walk_at "w"
    refine⟨xm,s,m,t,(o,d),sm,tb,psm,rows,num,rfl,wD _ _ gtB,hmB.same wD,hsB.same wD,hg,wD _ _ htB,gsm,asm',lsm,htbB.same wD,okw',λJE uE=>?_⟩
    repeat walk_at "gs"
    exact⟨uD.trans uE,_,rfl⟩
   ·obtain⟨uD,z18,e⟩:=z87q
    subst e
    exact⟨SB.trans (uC.trans uD),_,_,_,_,_,_,_,_,_,_,_,_,_,_,_,_,_,rfl⟩
  ·obtain⟨s0,z1,z3,z4,z5,z6,z7,z8,z9,z10,z11,z12,z13,z14,z15,z16,z17,z18,e⟩:=z81q
   subst e
   walk_at "w"
   exact k _ (S4.trans s0)
end My
namespace My
open PySem L2 L2.Z
theorem all_mk{l:PySem.W.OpenLaw}{w:World}{K:PySem.W.Frag}{h:Heap}{mg:Str->Option Value}{fa:Addr}(X:K.In h)(G:h.Ns mainGlobals mg)(hfa:mg "law" = some (.ref fa))
  {C0:Addr} {f0:Addr} {od0 an0:Option Addr} {sl0:Array (Option Value)} {oc0 kV0 dc0 pm0 cd0 ct0:Value} {f1:Addr} {od1 an1:Option Addr} {sl1:Array (Option Value)} {oc1 kV1 dc1 pm1 cd1 ct1:Value} {f2:Addr} {od2 an2:Option Addr} {sl2:Array (Option Value)} {oc2 kV2 dc2 pm2 cd2 ct2:Value} {f3:Addr} {od3 an3:Option Addr} {sl3:Array (Option Value)} {oc3 kV3 dc3 pm3 cd3 ct3:Value} {f4:Addr} {od4 an4:Option Addr} {sl4:Array (Option Value)} {oc4 kV4 dc4 pm4 cd4 ct4:Value} {f5:Addr} {od5 an5:Option Addr} {sl5:Array (Option Value)} {oc5 kV5 dc5 pm5 cd5 ct5:Value} {f6:Addr} {od6 an6:Option Addr} {sl6:Array (Option Value)} {oc6 kV6 dc6 pm6 cd6 ct6:Value} {f7:Addr} {od7 an7:Option Addr} {sl7:Array (Option Value)} {oc7 kV7 dc7 pm7 cd7 ct7:Value} {f8:Addr} {od8 an8:Option Addr} {sl8:Array (Option Value)} {oc8 kV8 dc8 pm8 cd8 ct8:Value} {f9:Addr} {od9 an9:Option Addr} {sl9:Array (Option Value)} {oc9 kV9 dc9 pm9 cd9 ct9:Value} {f10:Addr} {od10 an10:Option Addr} {sl10:Array (Option Value)} {oc10 kV10 dc10 pm10 cd10 ct10:Value} {f11:Addr} {od11 an11:Option Addr} {sl11:Array (Option Value)} {oc11 kV11 dc11 pm11 cd11 ct11:Value} {f12:Addr} {od12 an12:Option Addr} {sl12:Array (Option Value)} {oc12 kV12 dc12 pm12 cd12 ct12:Value} {f13:Addr} {od13 an13:Option Addr} {sl13:Array (Option Value)} {oc13 kV13 dc13 pm13 cd13 ct13:Value} {f14:Addr} {od14 an14:Option Addr} {sl14:Array (Option Value)} {oc14 kV14 dc14 pm14 cd14 ct14:Value} {f15:Addr} {od15 an15:Option Addr} {sl15:Array (Option Value)} {oc15 kV15 dc15 pm15 cd15 ct15:Value} {f16:Addr} {od16 an16:Option Addr} {sl16:Array (Option Value)} {oc16 kV16 dc16 pm16 cd16 ct16:Value} {f17:Addr} {od17 an17:Option Addr} {sl17:Array (Option Value)} {oc17 kV17 dc17 pm17 cd17 ct17:Value} {f18:Addr} {od18 an18:Option Addr} {sl18:Array (Option Value)} {oc18 kV18 dc18 pm18 cd18 ct18:Value} {f19:Addr} {od19 an19:Option Addr} {sl19:Array (Option Value)} {oc19 kV19 dc19 pm19 cd19 ct19:Value} {f20:Addr} {od20 an20:Option Addr} {sl20:Array (Option Value)} {oc20 kV20 dc20 pm20 cd20 ct20:Value} {f21:Addr} {od21 an21:Option Addr} {sl21:Array (Option Value)} {oc21 kV21 dc21 pm21 cd21 ct21:Value} {f22:Addr} {od22 an22:Option Addr} {sl22:Array (Option Value)} {oc22 kV22 dc22 pm22 cd22 ct22:Value} {f23:Addr} {od23 an23:Option Addr} {sl23:Array (Option Value)} {oc23 kV23 dc23 pm23 cd23 ct23:Value} {f24:Addr} {od24 an24:Option Addr} {sl24:Array (Option Value)} {oc24 kV24 dc24 pm24 cd24 ct24:Value} {f25:Addr} {od25 an25:Option Addr} {sl25:Array (Option Value)} {oc25 kV25 dc25 pm25 cd25 ct25:Value} {f26:Addr} {od26 an26:Option Addr} {sl26:Array (Option Value)} {oc26 kV26 dc26 pm26 ct26:Value} {kc26 T26:Addr} {tod26:Option Addr} {tvs26:Array Value} {tsl26:Array (Option Value)} {f27:Addr} {od27 an27:Option Addr} {sl27:Array (Option Value)} {oc27 kV27 dc27 pm27 cd27 ct27:Value} {f28:Addr} {od28 an28:Option Addr} {sl28:Array (Option Value)} {oc28 kV28 dc28 pm28 cd28 ct28:Value} {f29:Addr} {od29 an29:Option Addr} {sl29:Array (Option Value)} {oc29 kV29 dc29 pm29 cd29 ct29:Value} {f30:Addr} {od30 an30:Option Addr} {sl30:Array (Option Value)} {oc30 kV30 dc30 pm30 cd30 ct30:Value} {f31:Addr} {od31 an31:Option Addr} {sl31:Array (Option Value)} {oc31 kV31 dc31 pm31 cd31 ct31:Value} {f32:Addr} {od32 an32:Option Addr} {sl32:Array (Option Value)} {oc32 kV32 dc32 pm32 cd32 ct32:Value} {f33:Addr} {od33 an33:Option Addr} {sl33:Array (Option Value)} {oc33 kV33 dc33 pm33 cd33 ct33:Value} {f34:Addr} {od34 an34:Option Addr} {sl34:Array (Option Value)} {oc34 kV34 dc34 pm34 cd34 ct34:Value} {f35:Addr} {od35 an35:Option Addr} {sl35:Array (Option Value)} {oc35 kV35 dc35 pm35 cd35 ct35:Value} {f36:Addr} {od36 an36:Option Addr} {sl36:Array (Option Value)} {oc36 kV36 dc36 pm36 cd36 ct36:Value} {f37:Addr} {od37 an37:Option Addr} {sl37:Array (Option Value)} {oc37 kV37 dc37 pm37 cd37 ct37:Value} {tk_LONGEST_STINT:Tok} {tk_MOST_PIECES:Tok}
  (aC0:PySem.W.nsIn K mainGlobals "Machine" = some (some (.ref C0)))
  (a0:PySem.W.nsIn K mainGlobals "_law_open" = some (some (.ref f0)))
  (l0:K.lookup f0=some ⟨oc0,od0,.func (PySem.W.fnOf "_law_open" "_law_open" (bN gE) (bL gE) (aL gE) .none kV0 dc0 pm0 an0 cd0 ct0),sl0⟩)
  (c0:PySem.W.codeIn K cd0 "_law_open" = true)
  (k0:W.keepIn K (.ref f0)=true)
  (a1:PySem.W.nsIn K mainGlobals "_law_draw" = some (some (.ref f1)))
  (l1:K.lookup f1=some ⟨oc1,od1,.func (PySem.W.fnOf "_law_draw" "_law_draw" (bN iR) (bL iR) (aL iR) .none kV1 dc1 pm1 an1 cd1 ct1),sl1⟩)
  (c1:PySem.W.codeIn K cd1 "_law_draw" = true)
  (k1:W.keepIn K (.ref f1)=true)
  (a2:PySem.W.nsIn K mainGlobals "_law_far" = some (some (.ref f2)))
  (l2:K.lookup f2=some ⟨oc2,od2,.func (PySem.W.fnOf "_law_far" "_law_far" (bN j7) (bL j7) (aL j7) .none kV2 dc2 pm2 an2 cd2 ct2),sl2⟩)
  (c2:PySem.W.codeIn K cd2 "_law_far" = true)
  (k2:W.keepIn K (.ref f2)=true)
  (a3:PySem.W.nsIn K mainGlobals "_law_factor" = some (some (.ref f3)))
  (l3:K.lookup f3=some ⟨oc3,od3,.func (PySem.W.fnOf "_law_factor" "_law_factor" (bN fR) (bL fR) (aL fR) .none kV3 dc3 pm3 an3 cd3 ct3),sl3⟩)
  (c3:PySem.W.codeIn K cd3 "_law_factor" = true)
  (k3:W.keepIn K (.ref f3)=true)
  (a4:PySem.W.nsIn K mainGlobals "is_whole" = some (some (.ref f4)))
  (l4:K.lookup f4=some ⟨oc4,od4,.func (PySem.W.fnOf "is_whole" "is_whole" (bN j9) (bL j9) (aL j9) .none kV4 dc4 pm4 an4 cd4 ct4),sl4⟩)
  (c4:PySem.W.codeIn K cd4 "is_whole" = true)
  (k4:W.keepIn K (.ref f4)=true)
  (a5:PySem.W.nsIn K mainGlobals "is_amount" = some (some (.ref f5)))
  (l5:K.lookup f5=some ⟨oc5,od5,.func (PySem.W.fnOf "is_amount" "is_amount" (bN iS) (bL iS) (aL iS) .none kV5 dc5 pm5 an5 cd5 ct5),sl5⟩)
  (c5:PySem.W.codeIn K cd5 "is_amount" = true)
  (k5:W.keepIn K (.ref f5)=true)
  (a6:PySem.W.nsIn K mainGlobals "is_span" = some (some (.ref f6)))
  (l6:K.lookup f6=some ⟨oc6,od6,.func (PySem.W.fnOf "is_span" "is_span" (bN nF) (bL nF) (aL nF) .none kV6 dc6 pm6 an6 cd6 ct6),sl6⟩)
  (c6:PySem.W.codeIn K cd6 "is_span" = true)
  (k6:W.keepIn K (.ref f6)=true)
  (a7:PySem.W.nsIn K mainGlobals "is_piece" = some (some (.ref f7)))
  (l7:K.lookup f7=some ⟨oc7,od7,.func (PySem.W.fnOf "is_piece" "is_piece" (bN kB) (bL kB) (aL kB) .none kV7 dc7 pm7 an7 cd7 ct7),sl7⟩)
  (c7:PySem.W.codeIn K cd7 "is_piece" = true)
  (k7:W.keepIn K (.ref f7)=true)
  (a8:PySem.W.nsIn K mainGlobals "are_pieces" = some (some (.ref f8)))
  (l8:K.lookup f8=some ⟨oc8,od8,.func (PySem.W.fnOf "are_pieces" "are_pieces" (bN eE) (bL eE) (aL eE) .none kV8 dc8 pm8 an8 cd8 ct8),sl8⟩)
  (c8:PySem.W.codeIn K cd8 "are_pieces" = true)
  (k8:W.keepIn K (.ref f8)=true)
  (a9:PySem.W.findIn K (.ref C0) "__init__" = some (some (.ref f9)))
  (i9:PySem.W.isFn K (.ref f9)=true)
  (l9:K.lookup f9=some ⟨oc9,od9,.func (PySem.W.fnOf "__init__" "Machine.__init__" (bN eQ) (bL eQ) (aL eQ) .none kV9 dc9 pm9 an9 cd9 ct9),sl9⟩)
  (c9:PySem.W.codeIn K cd9 "Machine.__init__" = true)
  (k9:W.keepIn K (.ref f9)=true)
  (a10:PySem.W.nsIn K mainGlobals "_law_spec" = some (some (.ref f10)))
  (l10:K.lookup f10=some ⟨oc10,od10,.func (PySem.W.fnOf "_law_spec" "_law_spec" (bN iT) (bL iT) (aL iT) .none kV10 dc10 pm10 an10 cd10 ct10),sl10⟩)
  (c10:PySem.W.codeIn K cd10 "_law_spec" = true)
  (k10:W.keepIn K (.ref f10)=true)
  (a11:PySem.W.nsIn K mainGlobals "_law_machine" = some (some (.ref f11)))
  (l11:K.lookup f11=some ⟨oc11,od11,.func (PySem.W.fnOf "_law_machine" "_law_machine" (bN eR) (bL eR) (aL eR) .none kV11 dc11 pm11 an11 cd11 ct11),sl11⟩)
  (c11:PySem.W.codeIn K cd11 "_law_machine" = true)
  (k11:W.keepIn K (.ref f11)=true)
  (a12:PySem.W.findIn K (.ref C0) "gain" = some (some (.ref f12)))
  (i12:PySem.W.isFn K (.ref f12)=true)
  (l12:K.lookup f12=some ⟨oc12,od12,.func (PySem.W.fnOf "gain" "Machine.gain" (bN eS) (bL eS) (aL eS) .none kV12 dc12 pm12 an12 cd12 ct12),sl12⟩)
  (c12:PySem.W.codeIn K cd12 "Machine.gain" = true)
  (k12:W.keepIn K (.ref f12)=true)
  (a13:PySem.W.nsIn K mainGlobals "_law_gain" = some (some (.ref f13)))
  (l13:K.lookup f13=some ⟨oc13,od13,.func (PySem.W.fnOf "_law_gain" "_law_gain" (bN gH) (bL gH) (aL gH) .none kV13 dc13 pm13 an13 cd13 ct13),sl13⟩)
  (c13:PySem.W.codeIn K cd13 "_law_gain" = true)
  (k13:W.keepIn K (.ref f13)=true)
  (a14:PySem.W.nsIn K mainGlobals "may_be" = some (some (.ref f14)))
  (l14:K.lookup f14=some ⟨oc14,od14,.func (PySem.W.fnOf "may_be" "may_be" (bN pY) (bL pY) (aL pY) .none kV14 dc14 pm14 an14 cd14 ct14),sl14⟩)
  (c14:PySem.W.codeIn K cd14 "may_be" = true)
  (k14:W.keepIn K (.ref f14)=true)
  (a15:PySem.W.nsIn K mainGlobals "state_after" = some (some (.ref f15)))
  (l15:K.lookup f15=some ⟨oc15,od15,.func (PySem.W.fnOf "state_after" "state_after" (bN fS) (bL fS) (aL fS) .none kV15 dc15 pm15 an15 cd15 ct15),sl15⟩)
  (c15:PySem.W.codeIn K cd15 "state_after" = true)
  (k15:W.keepIn K (.ref f15)=true)
  (a16:PySem.W.nsIn K mainGlobals "_law_state" = some (some (.ref f16)))
  (l16:K.lookup f16=some ⟨oc16,od16,.func (PySem.W.fnOf "_law_state" "_law_state" (bN gR) (bL gR) (aL gR) .none kV16 dc16 pm16 an16 cd16 ct16),sl16⟩)
  (c16:PySem.W.codeIn K cd16 "_law_state" = true)
  (k16:W.keepIn K (.ref f16)=true)
  (a17:PySem.W.nsIn K mainGlobals "run_fault" = some (some (.ref f17)))
  (l17:K.lookup f17=some ⟨oc17,od17,.func (PySem.W.fnOf "run_fault" "run_fault" (bN iU) (bL iU) (aL iU) .none kV17 dc17 pm17 an17 cd17 ct17),sl17⟩)
  (c17:PySem.W.codeIn K cd17 "run_fault" = true)
  (k17:W.keepIn K (.ref f17)=true)
  (a18:PySem.W.nsIn K mainGlobals "refuse_fault" = some (some (.ref f18)))
  (l18:K.lookup f18=some ⟨oc18,od18,.func (PySem.W.fnOf "refuse_fault" "refuse_fault" (bN eT) (bL eT) (aL eT) .none kV18 dc18 pm18 an18 cd18 ct18),sl18⟩)
  (c18:PySem.W.codeIn K cd18 "refuse_fault" = true)
  (k18:W.keepIn K (.ref f18)=true)
  (a19:PySem.W.nsIn K mainGlobals "run_begins" = some (some (.ref f19)))
  (l19:K.lookup f19=some ⟨oc19,od19,.func (PySem.W.fnOf "run_begins" "run_begins" (bN gS) (bL gS) (aL gS) .none kV19 dc19 pm19 an19 cd19 ct19),sl19⟩)
  (c19:PySem.W.codeIn K cd19 "run_begins" = true)
  (k19:W.keepIn K (.ref f19)=true)
  (a20:PySem.W.nsIn K mainGlobals "run_cost" = some (some (.ref f20)))
  (l20:K.lookup f20=some ⟨oc20,od20,.func (PySem.W.fnOf "run_cost" "run_cost" (bN kG) (bL kG) (aL kG) .none kV20 dc20 pm20 an20 cd20 ct20),sl20⟩)
  (c20:PySem.W.codeIn K cd20 "run_cost" = true)
  (k20:W.keepIn K (.ref f20)=true)
  (a21:PySem.W.nsIn K mainGlobals "next_hours" = some (some (.ref f21)))
  (l21:K.lookup f21=some ⟨oc21,od21,.func (PySem.W.fnOf "next_hours" "next_hours" (bN fF) (bL fF) (aL fF) .none kV21 dc21 pm21 an21 cd21 ct21),sl21⟩)
  (c21:PySem.W.codeIn K cd21 "next_hours" = true)
  (k21:W.keepIn K (.ref f21)=true)
  (a22:PySem.W.nsIn K mainGlobals "hour_ways" = some (some (.ref f22)))
  (l22:K.lookup f22=some ⟨oc22,od22,.func (PySem.W.fnOf "hour_ways" "hour_ways" (bN gI) (bL gI) (aL gI) .none kV22 dc22 pm22 an22 cd22 ct22),sl22⟩)
  (c22:PySem.W.codeIn K cd22 "hour_ways" = true)
  (k22:W.keepIn K (.ref f22)=true)
  (a23:PySem.W.nsIn K mainGlobals "is_at_most" = some (some (.ref f23)))
  (l23:K.lookup f23=some ⟨oc23,od23,.func (PySem.W.fnOf "is_at_most" "is_at_most" (bN fG) (bL fG) (aL fG) .none kV23 dc23 pm23 an23 cd23 ct23),sl23⟩)
  (c23:PySem.W.codeIn K cd23 "is_at_most" = true)
  (k23:W.keepIn K (.ref f23)=true)
  (a24:PySem.W.nsIn K mainGlobals "keeps_hour" = some (some (.ref f24)))
  (l24:K.lookup f24=some ⟨oc24,od24,.func (PySem.W.fnOf "keeps_hour" "keeps_hour" (bN fH) (bL fH) (aL fH) .none kV24 dc24 pm24 an24 cd24 ct24),sl24⟩)
  (c24:PySem.W.codeIn K cd24 "keeps_hour" = true)
  (k24:W.keepIn K (.ref f24)=true)
  (a25:PySem.W.nsIn K mainGlobals "shows_least" = some (some (.ref f25)))
  (l25:K.lookup f25=some ⟨oc25,od25,.func (PySem.W.fnOf "shows_least" "shows_least" (bN cP) (bL cP) (aL cP) .none kV25 dc25 pm25 an25 cd25 ct25),sl25⟩)
  (c25:PySem.W.codeIn K cd25 "shows_least" = true)
  (k25:W.keepIn K (.ref f25)=true)
  (a26:PySem.W.nsIn K mainGlobals "shows_run" = some (some (.ref f26)))
  (l26:K.lookup f26=some ⟨oc26,od26,.func (PySem.W.fnOf "shows_run" "shows_run" (bN eW) (bL eW) (aL eW) .none kV26 dc26 pm26 an26 (.ref kc26) ct26),sl26⟩)
  (c26:PySem.W.codeIn K (.ref kc26) "shows_run" = true)
  (tl26:K.lookup kc26=some ⟨.type "code",tod26,.fields tvs26,tsl26⟩)
  (tv26:(tvs26[11]? : Option Value)=some (.ref T26))
  (th26:PySem.W.codeHdIn K kc26 T26=true)
  (k26:W.keepIn K (.ref f26)=true)
  (a27:PySem.W.nsIn K mainGlobals "_law_price" = some (some (.ref f27)))
  (l27:K.lookup f27=some ⟨oc27,od27,.func (PySem.W.fnOf "_law_price" "_law_price" (bN gU) (bL gU) (aL gU) .none kV27 dc27 pm27 an27 cd27 ct27),sl27⟩)
  (c27:PySem.W.codeIn K cd27 "_law_price" = true)
  (k27:W.keepIn K (.ref f27)=true)
  (a28:PySem.W.nsIn K mainGlobals "_law_after" = some (some (.ref f28)))
  (l28:K.lookup f28=some ⟨oc28,od28,.func (PySem.W.fnOf "_law_after" "_law_after" (bN gW) (bL gW) (aL gW) .none kV28 dc28 pm28 an28 cd28 ct28),sl28⟩)
  (c28:PySem.W.codeIn K cd28 "_law_after" = true)
  (k28:W.keepIn K (.ref f28)=true)
  (a29:PySem.W.nsIn K mainGlobals "_law_hour" = some (some (.ref f29)))
  (l29:K.lookup f29=some ⟨oc29,od29,.func (PySem.W.fnOf "_law_hour" "_law_hour" (bN iV) (bL iV) (aL iV) .none kV29 dc29 pm29 an29 cd29 ct29),sl29⟩)
  (c29:PySem.W.codeIn K cd29 "_law_hour" = true)
  (k29:W.keepIn K (.ref f29)=true)
  (a30:PySem.W.nsIn K mainGlobals "_law_prices" = some (some (.ref f30)))
  (l30:K.lookup f30=some ⟨oc30,od30,.func (PySem.W.fnOf "_law_prices" "_law_prices" (bN fT) (bL fT) (aL fT) .none kV30 dc30 pm30 an30 cd30 ct30),sl30⟩)
  (c30:PySem.W.codeIn K cd30 "_law_prices" = true)
  (k30:W.keepIn K (.ref f30)=true)
  (a31:PySem.W.nsIn K mainGlobals "_law_reached" = some (some (.ref f31)))
  (l31:K.lookup f31=some ⟨oc31,od31,.func (PySem.W.fnOf "_law_reached" "_law_reached" (bN dS) (bL dS) (aL dS) .none kV31 dc31 pm31 an31 cd31 ct31),sl31⟩)
  (c31:PySem.W.codeIn K cd31 "_law_reached" = true)
  (k31:W.keepIn K (.ref f31)=true)
  (a32:PySem.W.nsIn K mainGlobals "_law_worths" = some (some (.ref f32)))
  (l32:K.lookup f32=some ⟨oc32,od32,.func (PySem.W.fnOf "_law_worths" "_law_worths" (bN fU) (bL fU) (aL fU) .none kV32 dc32 pm32 an32 cd32 ct32),sl32⟩)
  (c32:PySem.W.codeIn K cd32 "_law_worths" = true)
  (k32:W.keepIn K (.ref f32)=true)
  (a33:PySem.W.nsIn K mainGlobals "_law_let_by" = some (some (.ref f33)))
  (l33:K.lookup f33=some ⟨oc33,od33,.func (PySem.W.fnOf "_law_let_by" "_law_let_by" (bN dB) (bL dB) (aL dB) .none kV33 dc33 pm33 an33 cd33 ct33),sl33⟩)
  (c33:PySem.W.codeIn K cd33 "_law_let_by" = true)
  (k33:W.keepIn K (.ref f33)=true)
  (a34:PySem.W.nsIn K mainGlobals "_law_good" = some (some (.ref f34)))
  (l34:K.lookup f34=some ⟨oc34,od34,.func (PySem.W.fnOf "_law_good" "_law_good" (bN gK) (bL gK) (aL gK) .none kV34 dc34 pm34 an34 cd34 ct34),sl34⟩)
  (c34:PySem.W.codeIn K cd34 "_law_good" = true)
  (k34:W.keepIn K (.ref f34)=true)
  (a35:PySem.W.nsIn K mainGlobals "_law_spoilt" = some (some (.ref f35)))
  (l35:K.lookup f35=some ⟨oc35,od35,.func (PySem.W.fnOf "_law_spoilt" "_law_spoilt" (bN eF) (bL eF) (aL eF) .none kV35 dc35 pm35 an35 cd35 ct35),sl35⟩)
  (c35:PySem.W.codeIn K cd35 "_law_spoilt" = true)
  (k35:W.keepIn K (.ref f35)=true)
  (a36:PySem.W.nsIn K mainGlobals "_law_right" = some (some (.ref f36)))
  (l36:K.lookup f36=some ⟨oc36,od36,.func (PySem.W.fnOf "_law_right" "_law_right" (bN fJ) (bL fJ) (aL fJ) .none kV36 dc36 pm36 an36 cd36 ct36),sl36⟩)
  (c36:PySem.W.codeIn K cd36 "_law_right" = true)
  (k36:W.keepIn K (.ref f36)=true)
  (a37:PySem.W.nsIn K mainGlobals "law" = some (some (.ref f37)))
  (l37:K.lookup f37=some ⟨oc37,od37,.func (PySem.W.fnOf "law" "law" (bN aCO) (bL aCO) (aL aCO) .none kV37 dc37 pm37 an37 cd37 ct37),sl37⟩)
  (c37:PySem.W.codeIn K cd37 "law" = true)
  (k37:W.keepIn K (.ref f37)=true)
  (pg0:PySem.W.plainGet K C0 Str.empty=true)
  (hd0:PySem.W.hasDictIn K C0=true)
  (po0:PySem.W.plainOver K C0=true)
  (sa0:PySem.W.findIn K (.ref C0) "__setattr__" = some (some (.builtin "object.__setattr__")))
  (mk0:PySem.W.makesIn K C0=true)
  (kc0:W.keepIn K (.ref C0)=true)
  (n0_up:PySem.W.findIn K (.ref C0) "up" = some none)
  (n0_down:PySem.W.findIn K (.ref C0) "down" = some none)
  (n0_begin:PySem.W.findIn K (.ref C0) "begin" = some none)
  (n0_run:PySem.W.findIn K (.ref C0) "run" = some none)
  (n0_rest:PySem.W.findIn K (.ref C0) "rest" = some none)
  (n0_least:PySem.W.findIn K (.ref C0) "least" = some none)
  (n0_pieces:PySem.W.findIn K (.ref C0) "pieces" = some none)
  (aCR:PySem.W.nsIn K mainGlobals "abs" = some none)
  (v9:PySem.W.nsIn K mainGlobals "all" = some none)
  (aCS:PySem.W.nsIn K mainGlobals "any" = some none)
  (wU:PySem.W.nsIn K mainGlobals "bool" = some none)
  (rV:PySem.W.nsIn K mainGlobals "dict" = some none)
  (eY:PySem.W.nsIn K mainGlobals "enumerate" = some none)
  (aCT:PySem.W.nsIn K mainGlobals "int" = some none)
  (dC:PySem.W.nsIn K mainGlobals "isinstance" = some none)
  (dX:PySem.W.nsIn K mainGlobals "len" = some none)
  (kK:PySem.W.nsIn K mainGlobals "list" = some none)
  (sE:PySem.W.nsIn K mainGlobals "max" = some none)
  (uK:PySem.W.nsIn K mainGlobals "min" = some none)
  (fK:PySem.W.nsIn K mainGlobals "range" = some none)
  (aBr:PySem.W.nsIn K mainGlobals "set" = some none)
  (pZ:PySem.W.nsIn K mainGlobals "sorted" = some none)
  (aCU:PySem.W.nsIn K mainGlobals "sum" = some none)
  (vL:PySem.W.nsIn K mainGlobals "tuple" = some none)
  (aCV:PySem.W.nsIn K mainGlobals "zip" = some none)
  (eB:PySem.W.nsIn K mainGlobals "LONGEST_STINT" = some (some (.int 12 tk_LONGEST_STINT)))
  (fW:PySem.W.nsIn K mainGlobals "MOST_PIECES" = some (some (.int 4 tk_MOST_PIECES))) :
  (∃c,PySem.W.codeHdIn K c T26=true)/\∃fd:FuncData,(∀(s:Shared) (v:Value),BindsTo s fd ⟨[v],[]⟩ [("_law_script",v)])/\∀base:Heap,K.In base->base.Ns mainGlobals mg->cR l.prog w K mg base lQ 14 fa fd ["_law_script"] (aEc K T26):=by
 have e:=hfa.symm.trans (W.mg_of X G a37)
 cases e
 have F0:=cF (st:=gE) l0 c0 k0
 have b0:=F0.binds (ps:=["_law_script","_law_place"]) λ_ _ _ _ _ _ us hl=>by obtain⟨_,_,rfl⟩:=ar2 us hl;rfl
 have F1:=cF (st:=iR) l1 c1 k1
 have b1:=F1.binds (ps:=["_law_hand","_law_many"]) λ_ _ _ _ _ _ us hl=>by obtain⟨_,_,rfl⟩:=ar2 us hl;rfl
 have F2:=cF (st:=j7) l2 c2 k2
 have b2:=F2.binds (ps:=["_law_hand","_law_bound"]) λ_ _ _ _ _ _ us hl=>by obtain⟨_,_,rfl⟩:=ar2 us hl;rfl
 have F3:=cF (st:=fR) l3 c3 k3
 have b3:=F3.binds (ps:=["_law_hand"]) λ_ _ _ _ _ _ us hl=>by obtain⟨_,rfl⟩:=ar1 us hl;rfl
 have F4:=cF (st:=j9) l4 c4 k4
 have b4:=F4.binds (ps:=["thing"]) λ_ _ _ _ _ _ us hl=>by obtain⟨_,rfl⟩:=ar1 us hl;rfl
 have F5:=cF (st:=iS) l5 c5 k5
 have b5:=F5.binds (ps:=["thing"]) λ_ _ _ _ _ _ us hl=>by obtain⟨_,rfl⟩:=ar1 us hl;rfl
 have F6:=cF (st:=nF) l6 c6 k6
 have b6:=F6.binds (ps:=["thing"]) λ_ _ _ _ _ _ us hl=>by obtain⟨_,rfl⟩:=ar1 us hl;rfl
 have F7:=cF (st:=kB) l7 c7 k7
 have b7:=F7.binds (ps:=["thing"]) λ_ _ _ _ _ _ us hl=>by obtain⟨_,rfl⟩:=ar1 us hl;rfl
 have F8:=cF (st:=eE) l8 c8 k8
 have b8:=F8.binds (ps:=["thing"]) λ_ _ _ _ _ _ us hl=>by obtain⟨_,rfl⟩:=ar1 us hl;rfl
 have F9:=cF (st:=eQ) l9 c9 k9
 have b9:=F9.binds (ps:=["self","up","down","begin","run","rest","least","pieces"]) λ_ _ _ _ _ _ us hl=>by obtain⟨_,_,_,_,_,_,_,_,rfl⟩:=ar8 us hl;rfl
 have F10:=cF (st:=iT) l10 c10 k10
 have b10:=F10.binds (ps:=["_law_hand","_law_by","_law_longest"]) λ_ _ _ _ _ _ us hl=>by obtain⟨_,_,_,rfl⟩:=ar3 us hl;rfl
 have F11:=cF (st:=eR) l11 c11 k11
 have b11:=F11.binds (ps:=["_law_spec_here"]) λ_ _ _ _ _ _ us hl=>by obtain⟨_,rfl⟩:=ar1 us hl;rfl
 have F12:=cF (st:=eS) l12 c12 k12
 have b12:=F12.binds (ps:=["self","price"]) λ_ _ _ _ _ _ us hl=>by obtain⟨_,_,rfl⟩:=ar2 us hl;rfl
 have F13:=cF (st:=gH) l13 c13 k13
 have b13:=F13.binds (ps:=["_law_spec_here","_law_price_here"]) λ_ _ _ _ _ _ us hl=>by obtain⟨_,_,rfl⟩:=ar2 us hl;rfl
 have F14:=cF (st:=pY) l14 c14 k14
 have b14:=F14.binds (ps:=["machine","state","on"]) λ_ _ _ _ _ _ us hl=>by obtain⟨_,_,_,rfl⟩:=ar3 us hl;rfl
 have F15:=cF (st:=fS) l15 c15 k15
 have b15:=F15.binds (ps:=["machine","state","on"]) λ_ _ _ _ _ _ us hl=>by obtain⟨_,_,_,rfl⟩:=ar3 us hl;rfl
 have F16:=cF (st:=gR) l16 c16 k16
 have b16:=F16.binds (ps:=["_law_hand","_law_spec_here"]) λ_ _ _ _ _ _ us hl=>by obtain⟨_,_,rfl⟩:=ar2 us hl;rfl
 have F17:=cF (st:=iU) l17 c17 k17
 have b17:=F17.binds (ps:=["machine","state","run"]) λ_ _ _ _ _ _ us hl=>by obtain⟨_,_,_,rfl⟩:=ar3 us hl;rfl
 have F18:=cF (st:=eT) l18 c18 k18
 have b18:=F18.binds (ps:=["machine","state","run"]) λ_ _ _ _ _ _ us hl=>by obtain⟨_,_,_,rfl⟩:=ar3 us hl;rfl
 have F19:=cF (st:=gS) l19 c19 k19
 have b19:=F19.binds (ps:=["machine","state","run"]) λ_ _ _ _ _ _ us hl=>by obtain⟨_,_,_,rfl⟩:=ar3 us hl;rfl
 have F20:=cF (st:=kG) l20 c20 k20
 have b20:=F20.binds (ps:=["machine","state","run"]) λ_ _ _ _ _ _ us hl=>by obtain⟨_,_,_,rfl⟩:=ar3 us hl;rfl
 have F21:=cF (st:=fF) l21 c21 k21
 have b21:=F21.binds (ps:=["machine","state"]) λ_ _ _ _ _ _ us hl=>by obtain⟨_,_,rfl⟩:=ar2 us hl;rfl
 have F22:=cF (st:=gI) l22 c22 k22
 have b22:=F22.binds (ps:=["machine","state","price"]) λ_ _ _ _ _ _ us hl=>by obtain⟨_,_,_,rfl⟩:=ar3 us hl;rfl
 have F23:=cF (st:=fG) l23 c23 k23
 have b23:=F23.binds (ps:=["number","ways","behind"]) λ_ _ _ _ _ _ us hl=>by obtain⟨_,_,_,rfl⟩:=ar3 us hl;rfl
 have F24:=cF (st:=fH) l24 c24 k24
 have b24:=F24.binds (ps:=["hour","ahead","behind","ways_at"]) λ_ _ _ _ _ _ us hl=>by obtain⟨_,_,_,_,rfl⟩:=ar4 us hl;rfl
 have F25:=cF (st:=cP) l25 c25 k25
 have b25:=F25.binds (ps:=["place","hours","table","number","ways_at"]) λ_ _ _ _ _ _ us hl=>by obtain⟨_,_,_,_,_,rfl⟩:=ar5 us hl;rfl
 have F26:=cF (st:=eW) l26 c26 k26
 have b26:=F26.binds (ps:=["machine","state","prices","table","number"]) λ_ _ _ _ _ _ us hl=>by obtain⟨_,_,_,_,_,rfl⟩:=ar5 us hl;rfl
 have F27:=cF (st:=gU) l27 c27 k27
 have b27:=F27.binds (ps:=["_law_hand","_law_by","_law_most"]) λ_ _ _ _ _ _ us hl=>by obtain⟨_,_,_,rfl⟩:=ar3 us hl;rfl
 have F28:=cF (st:=gW) l28 c28 k28
 have b28:=F28.binds (ps:=["_law_spec_here","_law_state_here","_law_on"]) λ_ _ _ _ _ _ us hl=>by obtain⟨_,_,_,rfl⟩:=ar3 us hl;rfl
 have F29:=cF (st:=iV) l29 c29 k29
 have b29:=F29.binds (ps:=["_law_spec_here","_law_state_here","_law_price_here","_law_on"]) λ_ _ _ _ _ _ us hl=>by obtain⟨_,_,_,_,rfl⟩:=ar4 us hl;rfl
 have F30:=cF (st:=fT) l30 c30 k30
 have b30:=F30.binds (ps:=["_law_hand","_law_spec_here","_law_by","_law_hours"]) λ_ _ _ _ _ _ us hl=>by obtain⟨_,_,_,_,rfl⟩:=ar4 us hl;rfl
 have F31:=cF (st:=dS) l31 c31 k31
 have b31:=F31.binds (ps:=["_law_spec_here","_law_state_here","_law_hours"]) λ_ _ _ _ _ _ us hl=>by obtain⟨_,_,_,rfl⟩:=ar3 us hl;rfl
 have F32:=cF (st:=fU) l32 c32 k32
 have b32:=F32.binds (ps:=["_law_spec_here","_law_state_here","_law_prices_here"]) λ_ _ _ _ _ _ us hl=>by obtain⟨_,_,_,rfl⟩:=ar3 us hl;rfl
 have F33:=cF (st:=dB) l33 c33 k33
 have b33:=F33.binds (ps:=["_law_spec_here","_law_state_here","_law_prices_here","_law_table","_law_number"]) λ_ _ _ _ _ _ us hl=>by obtain⟨_,_,_,_,_,rfl⟩:=ar5 us hl;rfl
 have F34:=cF (st:=gK) l34 c34 k34
 have b34:=F34.binds (ps:=["_law_hand","_law_spec_here","_law_state_here","_law_other","_law_prices_here"]) λ_ _ _ _ _ _ us hl=>by obtain⟨_,_,_,_,_,rfl⟩:=ar5 us hl;rfl
 have F35:=cF (st:=eF) l35 c35 k35
 have b35:=F35.binds (ps:=["_law_hand","_law_rows","_law_at"]) λ_ _ _ _ _ _ us hl=>by obtain⟨_,_,_,rfl⟩:=ar3 us hl;rfl
 have F36:=cF (st:=fJ) l36 c36 k36
 have b36:=F36.binds (ps:=["_law_machine_here","_law_spec_here","_law_state_here","_law_prices_here","_law_rows","_law_number"]) λ_ _ _ _ _ _ us hl=>by obtain⟨_,_,_,_,_,_,rfl⟩:=ar6 us hl;rfl
 have F37:=cF (st:=aCO) l37 c37 k37
 have b37:=F37.binds (ps:=["_law_script"]) λ_ _ _ _ _ _ us hl=>by obtain⟨_,rfl⟩:=ar1 us hl;rfl
 have tx:Txt K mg { oG:=f0,oH:=_,oI:=f1,oJ:=_,qU:=f2,qV:=_,kN:=f3,kO:=_,qW:=f4,qX:=_,oK:=f5,oM:=_,vI:=f6,vJ:=_,qY:=f7,qZ:=_,mE:=f8,mF:=_,jF:=f9,jG:=_,oN:=f10,oO:=_,jH:=f11,jI:=_,jJ:=f12,jK:=_,oP:=f13,oQ:=_,xO:=f14,xP:=_,kP:=f15,kQ:=_,mG:=f16,mH:=_,oR:=f17,oS:=_,jL:=f18,jM:=_,mI:=f19,mJ:=_,rB:=f20,rG:=_,mK:=f21,mM:=_,oU:=f22,oV:=_,mN:=f23,mO:=_,mP:=f24,mQ:=_,kR:=f25,kS:=_,oW:=f26,lN:=_,k_shows_run:=kc26,lO:=T26,mR:=f27,mS:=_,mT:=f28,mU:=_,oX:=f29,oY:=_,kT:=f30,kU:=_,jN:=f31,jO:=_,kW:=f32,kX:=_,kY:=f33,kZ:=_,oZ:=f34,o4:=_,lA:=f35,lB:=_,mV:=f36,mW:=_,aGP:=fa,aGQ:=_,bS:=C0 }:={ o5:=F0,tJ:=b0,tK:=W.mg_of X G a0,aV:=F1,aW:=b1,aX:=W.mg_of X G a1,wM:=F2,aBl:=b2,aBm:=W.mg_of X G a2,lC:=F3,pB:=b3,pC:=W.mg_of X G a3,rH:=F4,wN:=b4,wO:=W.mg_of X G a4,eX:=F5,gM:=b5,gO:=W.mg_of X G a5,vK:=F6,zA:=b6,zB:=W.mg_of X G a6,wQ:=F7,aBn:=b7,aBo:=W.mg_of X G a7,rJ:=F8,xQ:=b8,xR:=W.mg_of X G a8,tL:=F9,tM:=b9,tN:=F10,zW:=b10,zX:=W.mg_of X G a10,nR:=F11,tO:=b11,tQ:=W.mg_of X G a11,tR:=F12,tT:=b12,tU:=F13,zY:=b13,zZ:=W.mg_of X G a13,tV:=F14,xS:=b14,xT:=W.mg_of X G a14,lE:=F15,pD:=b15,pE:=W.mg_of X G a15,mX:=F16,rK:=b16,rM:=W.mg_of X G a16,tW:=F17,z0:=b17,aAa:=W.mg_of X G a17,nS:=F18,tX:=b18,tY:=W.mg_of X G a18,rN:=F19,xU:=b19,xV:=W.mg_of X G a19,wR:=F20,aBp:=b20,aBq:=W.mg_of X G a20,rO:=F21,xW:=b21,xX:=W.mg_of X G a21,tZ:=F22,aAb:=b22,aAc:=W.mg_of X G a22,rP:=F23,xY:=b23,xZ:=W.mg_of X G a23,rQ:=F24,x8:=b24,yA:=W.mg_of X G a24,pF:=F25,vT:=b25,vU:=W.mg_of X G a25,t9:=F26,aAd:=b26,uJ:=⟨rfl,th26⟩,aAe:=W.mg_of X G a26,mY:=F27,rR:=b27,rS:=W.mg_of X G a27,gZ:=F28,jP:=b28,jQ:=W.mg_of X G a28,o6:=F29,uB:=b29,uF:=W.mg_of X G a29,pG:=F30,vV:=b30,vW:=W.mg_of X G a30,nU:=F31,uG:=b31,uH:=W.mg_of X G a31,lF:=F32,pH:=b32,pI:=W.mg_of X G a32,pJ:=F33,vX:=b33,vY:=W.mg_of X G a33,uI:=F34,aAf:=b34,aAg:=W.mg_of X G a34,pK:=F35,vZ:=b35,v7:=W.mg_of X G a35,jR:=F36,mZ:=b36,nA:=W.mg_of X G a36,aL2:=F37,aPc:=b37,aPd:=W.mg_of X G a37,cX:=⟨pg0,hd0,po0,sa0⟩,aCP:=W.mg_of X G aC0,aCQ:=⟨mk0,a9,i9,kc0⟩,m_Machine_gain:=⟨a12,i12,k12⟩,rT:=n0_up,nV:=n0_down,lT:=n0_begin,pM:=n0_run,nW:=n0_rest,lU:=n0_least,kJ:=n0_pieces,aCR:=PySem.W.mg_none_of X G aCR,v9:=PySem.W.mg_none_of X G v9,aCS:=PySem.W.mg_none_of X G aCS,wU:=PySem.W.mg_none_of X G wU,rV:=PySem.W.mg_none_of X G rV,eY:=PySem.W.mg_none_of X G eY,aCT:=PySem.W.mg_none_of X G aCT,dC:=PySem.W.mg_none_of X G dC,dX:=PySem.W.mg_none_of X G dX,kK:=PySem.W.mg_none_of X G kK,sE:=PySem.W.mg_none_of X G sE,uK:=PySem.W.mg_none_of X G uK,fK:=PySem.W.mg_none_of X G fK,aBr:=PySem.W.mg_none_of X G aBr,pZ:=PySem.W.mg_none_of X G pZ,aCU:=PySem.W.mg_none_of X G aCU,vL:=PySem.W.mg_none_of X G vL,aCV:=PySem.W.mg_none_of X G aCV,eB:=⟨_,W.mg_of X G eB⟩,fW:=⟨_,W.mg_of X G fW⟩ }
 exact⟨⟨_,th26⟩,_,λs v=>.of_eq rfl,λbase _ _=>aOh tx⟩
theorem walk{l:PySem.W.OpenLaw}{q:Program}{loose:List Str}{XP:(Str->Option Value)->Heap->Prop}{YP:World->Heap->Prop}{d:DefRec}{K:Params->W.Frag}{T26:Addr}(hn:l.most=some 63)(hdf:d.params.defaults=[])(hI:∀(w:World) (h:Heap),YP w h->(K w.params).In h)
  (F:∀(w:World) (mg:Str->Option Value) (fa:Addr) (h:Heap),(K w.params).In h->h.Ns mainGlobals mg->mg d.name=some (.ref fa)->
   (∃c,PySem.W.codeHdIn (K w.params) c T26=true)/\∃fd:FuncData,(∀(s:Shared) (u:Value),BindsTo s fd ⟨[u],[]⟩ [("_law_script",u)])/\∀base:Heap,(K w.params).In base->base.Ns mainGlobals mg->cR l.prog w (K w.params) mg base lQ 14 fa fd ["_law_script"] (aEc (K w.params) T26))
  (hN:decide ([T26]:List Addr).Nodup=true) (hY:∀(w:World) (h:Heap),YP w h->∀t∈([T26]:List Addr),h.get? t=some { cls:=.none,data:=.fields #[] })
  (hK:∀w:World,(K w.params).lookup T26=none) :
  PySem.W.WalkO q loose XP YP l.row.toRowW d [] (λf vs=>PySem.call f vs):=by
 refine L2.aJq (tabs:=[(T26,jS,jT)]) (n:=63) (k:=14) (x:="_law_script") (sp:=λw=>aEc (K w.params) T26) hn (by decide) hdf ⟨rfl,by decide,by decide⟩ (of_decide_eq_true hN) (λw h Y=>⟨hI w h Y,λt ht=>hY w h Y t.1 ?_⟩) (λw t ht=>?_) (λw mg fa h x1 x2 x3=>?_) (λ_ _ a ns hl hT hS=>?_)
 ·simp only[lW,Sk9,or_false] at ht
  rcases ht with rfl <;> simp
 ·have hk:=hK w
  simp only[lW,Sk9,or_false] at ht
  rcases ht with rfl
  ·exact hk
 ·obtain⟨c26,rest⟩:=F w mg fa h x1 x2 x3
  refine⟨λt ht=>?_,rest⟩
  simp only[lW,Sk9,or_false] at ht
  rcases ht with rfl
  ·exact c26
 ·exact⟨a,ns,rfl,hS,hl,hT (T26,jS,jT) (by simp),λH' s'=>⟨rfl,s'⟩⟩
end My
open PySem PySem.W PyProof.Rows
set_option maxRecDepth 100000 in
theorem PySem.Challenge.cw_stintwise_k46_papers_spoilt_holds : PySem.Challenge.rw_stintwise_k46_papers_spoilt.Holds := by
 w_on;o_law;k_head;(case hw=>w_witness2)
 k_fill
 refine' My.walk (l:=PySem.Challenge.rw_stintwise_k46_papers_spoilt) rfl rfl (λw h Y=>PySem.W.km_in_of Y) ?F ?hN0 ?hY0 ?hK0
 case F=>
  intro w mg fa h KX G hmg
  refine' My.all_mk KX G hmg ?aC0 ?a0 ?l0 ?c0 ?k0 ?a1 ?l1 ?c1 ?k1 ?a2 ?l2 ?c2 ?k2 ?a3 ?l3 ?c3 ?k3 ?a4 ?l4 ?c4 ?k4 ?a5 ?l5 ?c5 ?k5 ?a6 ?l6 ?c6 ?k6 ?a7 ?l7 ?c7 ?k7 ?a8 ?l8 ?c8 ?k8 ?a9 ?i9 ?l9 ?c9 ?k9 ?a10 ?l10 ?c10 ?k10 ?a11 ?l11 ?c11 ?k11 ?a12 ?i12 ?l12 ?c12 ?k12 ?a13 ?l13 ?c13 ?k13 ?a14 ?l14 ?c14 ?k14 ?a15 ?l15 ?c15 ?k15 ?a16 ?l16 ?c16 ?k16 ?a17 ?l17 ?c17 ?k17 ?a18 ?l18 ?c18 ?k18 ?a19 ?l19 ?c19 ?k19 ?a20 ?l20 ?c20 ?k20 ?a21 ?l21 ?c21 ?k21 ?a22 ?l22 ?c22 ?k22 ?a23 ?l23 ?c23 ?k23 ?a24 ?l24 ?c24 ?k24 ?a25 ?l25 ?c25 ?k25 ?a26 ?l26 ?c26 ?tl26 ?tv26 ?th26 ?k26 ?a27 ?l27 ?c27 ?k27 ?a28 ?l28 ?c28 ?k28 ?a29 ?l29 ?c29 ?k29 ?a30 ?l30 ?c30 ?k30 ?a31 ?l31 ?c31 ?k31 ?a32 ?l32 ?c32 ?k32 ?a33 ?l33 ?c33 ?k33 ?a34 ?l34 ?c34 ?k34 ?a35 ?l35 ?c35 ?k35 ?a36 ?l36 ?c36 ?k36 ?a37 ?l37 ?c37 ?k37 ?pg0 ?hd0 ?po0 ?sa0 ?mk0 ?kc0 ?n0_up ?n0_down ?n0_begin ?n0_run ?n0_rest ?n0_least ?n0_pieces ?aCR ?v9 ?aCS ?wU ?rV ?eY ?aCT ?dC ?dX ?kK ?sE ?uK ?fK ?aBr ?pZ ?aCU ?vL ?aCV ?eB ?fW
  (case aC0=>k_is);(case a0=>k_is);(case l0=>k_is);(case c0=>k_is);(case k0=>k_is);(case a1=>k_is);(case l1=>k_is);(case c1=>k_is)
  (case k1=>k_is);(case a2=>k_is);(case l2=>k_is);(case c2=>k_is);(case k2=>k_is);(case a3=>k_is);(case l3=>k_is);(case c3=>k_is)
  (case k3=>k_is);(case a4=>k_is);(case l4=>k_is);(case c4=>k_is);(case k4=>k_is);(case a5=>k_is);(case l5=>k_is);(case c5=>k_is)
  (case k5=>k_is);(case a6=>k_is);(case l6=>k_is);(case c6=>k_is);(case k6=>k_is);(case a7=>k_is);(case l7=>k_is);(case c7=>k_is)
  (case k7=>k_is);(case a8=>k_is);(case l8=>k_is);(case c8=>k_is);(case k8=>k_is);(case a9=>k_is);(case i9=>k_is);(case l9=>k_is)
  (case c9=>k_is);(case k9=>k_is);(case a10=>k_is);(case l10=>k_is);(case c10=>k_is);(case k10=>k_is);(case a11=>k_is);(case l11=>k_is)
  (case c11=>k_is);(case k11=>k_is);(case a12=>k_is);(case i12=>k_is);(case l12=>k_is);(case c12=>k_is);(case k12=>k_is);(case a13=>k_is)
  (case l13=>k_is);(case c13=>k_is);(case k13=>k_is);(case a14=>k_is);(case l14=>k_is);(case c14=>k_is);(case k14=>k_is);(case a15=>k_is)
  (case l15=>k_is);(case c15=>k_is);(case k15=>k_is);(case a16=>k_is);(case l16=>k_is);(case c16=>k_is);(case k16=>k_is);(case a17=>k_is)
  (case l17=>k_is);(case c17=>k_is);(case k17=>k_is);(case a18=>k_is);(case l18=>k_is);(case c18=>k_is);(case k18=>k_is);(case a19=>k_is)
  (case l19=>k_is);(case c19=>k_is);(case k19=>k_is);(case a20=>k_is);(case l20=>k_is);(case c20=>k_is);(case k20=>k_is);(case a21=>k_is)
  (case l21=>k_is);(case c21=>k_is);(case k21=>k_is);(case a22=>k_is);(case l22=>k_is);(case c22=>k_is);(case k22=>k_is);(case a23=>k_is)
  (case l23=>k_is);(case c23=>k_is);(case k23=>k_is);(case a24=>k_is);(case l24=>k_is);(case c24=>k_is);(case k24=>k_is);(case a25=>k_is)
  (case l25=>k_is);(case c25=>k_is);(case k25=>k_is);(case a26=>k_is);(case l26=>k_is);(case c26=>k_is);(case tl26=>k_is);(case tv26=>exact rfl)
  (case th26=>kernel_rfl);(case k26=>k_is);(case a27=>k_is);(case l27=>k_is);(case c27=>k_is);(case k27=>k_is);(case a28=>k_is);(case l28=>k_is)
  (case c28=>k_is);(case k28=>k_is);(case a29=>k_is);(case l29=>k_is);(case c29=>k_is);(case k29=>k_is);(case a30=>k_is);(case l30=>k_is)
  (case c30=>k_is);(case k30=>k_is);(case a31=>k_is);(case l31=>k_is);(case c31=>k_is);(case k31=>k_is);(case a32=>k_is);(case l32=>k_is)
  (case c32=>k_is);(case k32=>k_is);(case a33=>k_is);(case l33=>k_is);(case c33=>k_is);(case k33=>k_is);(case a34=>k_is);(case l34=>k_is)
  (case c34=>k_is);(case k34=>k_is);(case a35=>k_is);(case l35=>k_is);(case c35=>k_is);(case k35=>k_is);(case a36=>k_is);(case l36=>k_is)
  (case c36=>k_is);(case k36=>k_is);(case a37=>k_is);(case l37=>k_is);(case c37=>k_is);(case k37=>k_is);(case pg0=>k_is);(case hd0=>k_is)
  (case po0=>k_is);(case sa0=>k_is);(case mk0=>k_is);(case kc0=>k_is);(case n0_up=>k_is);(case n0_down=>k_is);(case n0_begin=>k_is);(case n0_run=>k_is)
  (case n0_rest=>k_is);(case n0_least=>k_is);(case n0_pieces=>k_is);(case aCR=>k_is);(case v9=>k_is);(case aCS=>k_is);(case wU=>k_is);(case rV=>k_is)
  (case eY=>k_is);(case aCT=>k_is);(case dC=>k_is);(case dX=>k_is);(case kK=>k_is);(case sE=>k_is);(case uK=>k_is);(case fK=>k_is)
  (case aBr=>k_is);(case pZ=>k_is);(case aCU=>k_is);(case vL=>k_is);(case aCV=>k_is);(case eB=>k_is);(case fW=>k_is)
 case hN0=>exact rfl
 case hY0=>exact λw h Y t ht=>PySem.W.km_tabs_of Y t (by revert t;decide)
 case hK0=>intro w;exact(by kernel_rfl)
