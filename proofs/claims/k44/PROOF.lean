import PyProof.Rows.All
import Wide.All
import OpenK.AllK
import Wide.FinOn
import Lean
import PyProof.EqAt
import PyProof.EqKinds
import PyProof.NeKinds
import PyProof.TupleCall
import KE.KDictSum
import KE.KSortTup
import PyProof.SetRoads
import PyProof.Rows.SetFrom
import KE.KLam
import KE.KNestM
import PyProof.DictItems
import PyProof.DictValues
import PyProof.Rows.TupDisplay
import KE.KItemsList
import KE.KDictOf
import PyProof.AttrMissHeap
import PySem.Challenge.RW_stintwise_k44_worths_of_all_states
set_option Elab.async false
set_option linter.all false
set_option maxRecDepth 100000
set_option compiler.extract_closed false
set_option genSizeOf false
structure PySem.W.Fast:Prop where(tw14537543211782778533 tw16441148835188408638 tw8121159052967564650 tw11832722868422977987 tw11708100968024342487 tw819580222156405967 tw5918679445795532647 tw16211729385112972422 tw12690550660215926703 tw5132037678644954162 tw791440874721455699 tw5557560711323026945 tw2817894959701230516 tw16119804084791919999 tw9991856887390183780 tw17728743582117473031 tw905829645434486060 tw17167000910057886416 tw8867455279168870291 tw8495062102104753201 tw4599265457111243981 tw9690467024819364190 tw13204312711251169282 tw6499411435270949365 tw15298211081943296694 tw4467675498555679900 tw8819620819397683527 tw17097763722906803443 tw16297793946822698047 tw7570927877523000182 tw7133131093350422798 tw13539810707565764881 tw8695415004498507446 tw14883045063297383170 tw781663950409680925 tw4851394177285454082 tw5096993345591156304 tw9132818569037306933 tw9185217752728200140 tw8471183810202071190 tw7996934687521809898 tw10193858227508528653 tw5479208438057031256 tw2131091114537454726 tw8090728403580875619 tw4842181417404968220 tw3954482537401712311 tw13964323888201263043 tw2776943728102632395 tw10292752835342827727 tw11348457588384096286 tw10047977448273162401 tw649860952197219665 tw14298536685336071249 tw17848409283607718699 tw15418457106400641722 tw16752669953808101709 tw11365195944071885514 tw3861020038216287028 tw3244786164129289567 tw15503287667824407699 tw13902870961162664516 tw13362754920971215034 tw1239367652261132517 tw1313333006440208211 tw15572276985647424389 tw14516399520631359784 tw1331562856254262003 tw12335448845435631582 tw5152928913613302602 tw574471428853435929 tw14923715755793751788 tw6751036606623170858 tw3801444422007433902 tw9338697448526188367 tw6498019177949670522 tw17908859041604762378 tw3578928492028775755 tw9461661113727842950 tw11244649621502574210 tw16318203569144684595 tw1072854007077016231 tw10715542847009751994 tw1005347709867472573 tw15373566457031776259 tw11372803763036410337 tw5691591528402021327 tw8267172852402727597 tw1837927011467391339 tw9080613137430546460 tw17575433883831845943 tw13532098606690042232 tw12624898625021547604 tw13183421385373293845 tw325852057501693337 tw3982315169944444693 tw17814371036252452903 tw14153458860809840485 tw9503174199789808359 tw12153287586445892762 tw11341700320447042413 tw12223397141057255798 tw413922119128724817 tw988090068101776074 tw1187268369443701300 tw13942195176458480705 tw8049382115836071396 tw17233059091250292947 tw6585681430917566606 tw14528832913017381399 tw17802708781952319482 tw11714392453089220512 tw12498783785532300374 tw9343431619435784778 tw1367614946460562717 tw10401568333921527050 tw4075479322286953828 tw15861030717091062148 tw13605718148222235757 tw4756083483362146403 tw5039767882217725313 tw1269758968852904402 tw2666612358070256185 tw173029025316382436 tw11066452275447250751 tw12646839800047967808 tw15652757178563019525 tw4802292762844713010 tw7434296016702433175 tw457753987066589899 tw18356910061687429226 tw1170106971850294335 tw4135834491231675236 tw10988379854227584360 tw9281591171084717096 tw13334685786042154075 tw17407757763374325760 tw4708182409263613379 tw16444357085457026805 tw12867651562439828289 tw1611653313495118963 tw13871148110153610068 tw3873176955639282227 tw1861470207705451291 tw12036660942583471892 tw10913989746793230570 tw8787335907570030439 tw943490348927651046 tw16036304116856398978 tw15073958172473028810 tw902555727377729567 tw3234063808183059551 tw3058039823432552801 tw16306416353147484465 tw15132555001880421164 tw11351944066510988294 tw3051364781760350946 tw13590484958960927077 tw4993291279388858039 tw18414847493683344689 tw7939415323858422797 tw9881207310562962386 tw7119710359539837913 tw5737913883125530628 tw13525488795711718624 tw7130810435070798630 tw9115388273308481400 tw5235582833083771147 tw7587428079272469439 tw12092782475518216741 tw5032655757987346076 tw11224777168894244362 tw10427891043625278400 tw12158978627260116150 tw9833658103091415068 tw4510700854472005842 tw1652723449358266061 tw1084217300585827756 tw5079894774242569397 tw1072522336310075260 tw299308118786844531 tw7662747728910542312 tw13977636139770625637 tw17688224209134178523 tw7643688192772093882 tw11177753947142657545 tw8004906475205686613 tw7774591832151052005 tw16390888222147448536 tw15567132901221995039 tw13858684170751682082 tw7327520622527616536 tw5826833637644832465 tw3771097011309019981 tw14956325345140688411 tw8331904712291751390 tw8261874042936085024 tw12650045530508496335 tw10451311591988711342 tw6003384363983523762 tw2651748910460489674 tw14128734539521895333 tw1874814287544863454 tw5819743050908359916 tw3110956622604813058 tw2734595596219161101 tw1783476466083393515 tw11066710568418986304 tw903928586659786411 tw406446683580724946 tw16381165652888098379 tw14133286768087721877 tw4537694788286831699 tw15795990076603150853 tw12067259638982373005 tw2780498515595448317 tw15801652324189579046 tw4283254105718965371 tw18317987284046108088 tw16085631073426692617 tw5936130584066189728 tw4795742709130996350 tw17167077401692378160 tw4721504257407443464 tw2625333969278271507 tw13382567353737329619 tw12005727122578081214 tw10050822757317939929 tw5652900632076337796 tw4916264506019961001 tw1708580910247687743 tw8829811295671018891 tw15216400481336534465 tw8013168161335004033 tw14092959429120479681 tw803364535188382094 tw14069397674747209306 tw12343914687809178397 tw15708848669145757820 tw15779211362148152062 tw14646061602813623691 tw4957712555714255180 tw4806291711261193638 tw2264919771139103784 tw666708266350898175 tw3106000702560088960 tw17789144481480983435 tw14643575383198767094 tw6350173788467011018:True)
set_option maxHeartbeats 0
def cG:=@List.getElem?_eq_getElem
def aR:=@PySem.wpAny_bind
def bK:=@List.length_map
def bI:=@PySem.wpAny_pure
def g0:=@List.getElem?_eq_some_iff
def fX:=@PySem.Heap.get?_push_of_some
def iI:=@List.mem_of_getElem?
def hE:=@List.getElem?_map
def iL:=@List.size_toArray
def eB:=@PySem.Heap.lt_size
def mJ:=@PySem.Heap.get?_push_size
def d7:=@Nat.le_refl
def yP:=@List.getD_eq_getElem?_getD
def iJ:=@List.map_append
def yQ:=@Option.map_eq_some_iff
def rT:=@Nat.lt_of_lt_of_le
def gM:=@Nat.ne_of_lt
def uN:=@List.length_append
def u9:=@Bool.false_eq_true
def bV:=@if_neg
def lQ:=@List.mem_cons
def fh:=@List.mem_cons_of_mem
def mD:=@List.mem_map
def xT:=@List.length_take
def yW:=@List.length_cons
def cJ:=@if_pos
def ff:=@List.mem_singleton
def kr:=@List.getElem?_append_left
def fo:=@Bool.false_ne_true
def ma:=@Array.getElem?_eq_getElem
def nu:=@List.getElem?_append_right
def jq:=@Array.getElem?_toList
def fe:=@List.take_length
def zU:=@List.mem_range
def zV:=@decide_eq_true
def jf:=@Array.length_toList
def jc:=@List.mem_cons_self
def jb:=@PySem.wpAny_newObj_type
def iq:=@List.lookup_cons
def eh:=@PySem.wpAny_holding
def ia:=@decide_eq_false
def ja:=@PySem.wpAny_call_entry
def iz:=@Bool.and_eq_true
def zW:=@List.map_map
def iy:=@List.mem_append
def fm:=@List.map_cons
def pf:=@List.getElem?_of_mem
def rf:=@List.mem_append_right
def dz:=@Nat.zero_le
def zm:=@Array.getElem?_eq_some_iff
def fc:=@PySem.sizeLine_eq
def nk:=@Nat.lt_succ_of_lt
def lu:=@List.getElem_mem
def gj:=@Nat.le_trans
def Br:=@PySem.wpAny_typeNameOfWhole_itemiter
def pe:=@Int.toNat_natCast
def pd:=@List.pairwise_map
def nj:=@List.all_eq_true
def xc:=@List.getElem?_eq_none
def ni:=@List.nodup_cons
def je:=@Nat.ne_of_gt
def ko:=@Nat.lt_irrefl
def oz:=@List.append_nil
def zk:=@PySem.Heap.get?_update_self
def Bq:=@PySem.wpAny_typeNameOf_itemiter
def Au:=@List.getElem?_set_self
def As:=@List.take_of_length_le
def Cr:=@Array.getD_eq_getD_getElem?
def vk:=@PySem.wpAny_dictEntries
def Ar:=@List.length_singleton
def xb:=@List.take_add_one
def vj:=@List.find?_cons
def zj:=@of_decide_eq_true
def Bp:=@List.getElem?_set_ne
def ou:=@Nat.sub_self
def Aq:=@List.filter_append
def kb:=@PySem.wpAny_mono
def xa:=@List.mem_filter
def vi:=@Bool.false_and
def vh:=@PySem.Heap.size_push
def vg:=@Bool.and_false
def wz:=@PySem.wpAny_dictEpoch
def Bo:=@List.map_congr_left
def Cq:=@List.mem_iff_getElem?
def Ap:=@PySem.wpAny_setState_of
def Bn:=@Nat.add_sub_cancel
def Ao:=@PySem.Heap.size_update
def FH:=@Array.perm_iff_toList_perm
def D0:=@PySem.Heap.get?_update_other
def DZ:=@Array.getElem?_eq_none
def Bm:=@List.append_assoc
def Bl:=@PySem.Heap.get?_push_ne
def zi:=@PySem.wpAny_fieldsOf
def FG:=@List.pairwise_iff_getElem
def Cp:=@PySem.wpAny_setField_rec
def Bk:=@Nat.lt_succ_self
def Bj:=@List.length_drop
def zh:=@PySem.wpAny_attempt
def FF:=@List.filter_cons_of_pos
def wy:=@Nat.lt_trans
def An:=@PySem.wpAny_setField
def Co:=@List.ext_getElem?
def DY:=@List.filterMap_cons
def Cn:=@List.length_nil
def Bi:=@List.length_set
def DX:=@List.replicate_succ
def DW:=@List.length_pos_iff
def zg:=@Nat.le_of_lt
def DV:=@Int.emod_lt_of_pos
def FE:=@List.length_filter_le
def Bh:=@List.nodup_nil
def FD:=@List.mem_append_left
def Bg:=@Bool.true_and
def Ku:=@List.filter_cons_of_neg
def DU:=@List.getElem_inj
def FC:=@List.getElem?_drop
def DT:=@Int.emod_nonneg
def Kt:=@List.getElem_toArray
def Kq:=@Array.toArray_toList
def Qy:=@List.drop_eq_getElem_cons
def Qx:=@List.getElem?_zip_eq_some
def Qw:=@List.mem_of_find?_eq_some
def FA:=@List.not_mem_nil
def Fz:=@List.any_eq_true
def Kp:=@List.length_reverse
def Kn:=@List.getElem_of_mem
def Qv:=@List.getElem?_take_of_lt
def Cm:=@Nat.sub_zero
def Km:=@List.mem_filterMap
def Fy:=@List.of_mem_zip
def Qu:=@List.getElem?_replicate
def DS:=@Bool.not_true
def Qt:=@Int.eq_ofNat_of_zero_le
def Kl:=@List.pairwise_cons
def Kg:=@List.flatten_cons
def J9:=@Nat.le_of_lt_succ
def J8:=@List.nodup_append
def Qs:=@List.getElem?_toArray
def DR:=@Nat.add_zero
def Qr:=@List.filterMap_append
def J7:=@Option.getD_some
def J0:=@List.map_fst_zip
def JZ:=@List.getElem_map
def Fx:=@Nat.le_of_eq
def Fw:=@Int.zero_add
abbrev ao:=List (PySem.Addr×PySem.Obj)
abbrev ar:=List (Int×Int)
abbrev az:=List (List Int)
abbrev af:=List PySem.Value
abbrev aa:=List Int
abbrev ak:=List PySem.Str
abbrev ah:=List PySem.Addr
abbrev aq:=Option PySem.Value
abbrev aj:=PySem.Value->PySem.Shared->Prop
abbrev ae:=Int×Int
namespace L2
open PySem PySem.Spec PyProof.Rows
abbrev Key:=Sum Int Str
def Dz:Key->Value->Bool
 |.inl k,v=>Value.isInt k v
 |.inr x,v=>Value.isStrOf x v
def aRL(w:World):Key->Int
 |.inl k=>hashInt k
 |.inr x=>hashStr w x
theorem eI:∀{k:Key}{v:Value},Dz k v=true->(∃i t,k=Sum.inl i/\v=Value.int i t)\/(∃x t,k=Sum.inr x/\v=Value.str x t)
 |.inl i,v,h=>by
  obtain⟨t,e⟩:=Value.isInt_shape (k:=i) (v:=v) h;exact .inl ⟨i,t,rfl,e⟩
 |.inr x,v,h=>by
  obtain⟨t,e⟩:=Value.isStrOf_shape (x:=x) (v:=v) h;exact .inr ⟨x,t,rfl,e⟩
theorem aJm(i:Int)(t:Tok):Dz (.inl i) (.int i t)=true:=by simp[Dz,Value.isInt]
theorem aJn(x:Str)(t:Tok):Dz (.inr x) (.str x t)=true:=by simp[Dz,Value.isStrOf]
theorem aOK(a b:Int):decide ((Sum.inl a:Key)=Sum.inl b)=(a == b):=by
 by_cases e:a=b
 ·subst e;simp
 ·have h:¬(Sum.inl a:Key)=Sum.inl b:=λq=>e (Sum.inl.inj q);rw[ia h];exact(beq_eq_false_iff_ne.mpr e).symm
theorem aOL(a b:Str):decide ((Sum.inr a:Key)=Sum.inr b)=decide (a=b):=by
 by_cases e:a=b
 ·subst e;simp
 ·have h:¬(Sum.inr a:Key)=Sum.inr b:=λq=>e (Sum.inr.inj q);rw[ia h,ia e]
theorem aOM(a:Int)(b:Str):decide ((Sum.inl a:Key)=Sum.inr b)=false:=ia (λq=>nomatch q)
theorem aON(a:Str)(b:Int):decide ((Sum.inr a:Key)=Sum.inl b)=false:=ia (λq=>nomatch q)
def cB(prog:Program)(w:World):PySem.KeyKind prog w Key where
 is:=Dz
 hash:=aRL w
 inj:=λv a b ha hb=>by
  rcases eI ha with ⟨i,t,rfl,rfl⟩|⟨x,t,rfl,rfl⟩
  ·rcases eI hb with ⟨j,u,rfl,e⟩|⟨y,u,rfl,e⟩
   ·injection e with e1 _;rw[e1]
   ·exact nomatch e
  ·rcases eI hb with ⟨j,u,rfl,e⟩|⟨y,u,rfl,e⟩
   ·exact nomatch e
   ·injection e with e1 _;rw[e1]
 byValue:=λk v h=>by
  rcases eI h with ⟨i,t,rfl,rfl⟩|⟨x,t,rfl,rfl⟩ <;> rfl
 pyHash:=λhv h=>by
  rcases eI hv with ⟨i,t,rfl,rfl⟩|⟨x,t,rfl,rfl⟩
  ·exact wpAny_pyHash_int h
  ·exact wpAny_pyHash_str h
 eqBool:=λhu hv h=>by
  rcases eI hu with ⟨i,t,rfl,rfl⟩|⟨x,t,rfl,rfl⟩
  ·rcases eI hv with ⟨j,u,rfl,rfl⟩|⟨y,u,rfl,rfl⟩
   ·rw[aOK] at h;exact wpAny_eqBool_int h
   ·rw[aOM] at h;exact SeqAt.EqAt.int_str i t y u _ _ _ _ h
  ·rcases eI hv with ⟨j,u,rfl,rfl⟩|⟨y,u,rfl,rfl⟩
   ·rw[aON] at h;exact SeqAt.EqAt.str_int x t j u _ _ _ _ h
   ·rw[aOL] at h;exact wpAny_eqBool_str h
 «strs»:=λk x t v h=>by
  rcases eI h with ⟨i,u,rfl,e⟩|⟨y,u,rfl,e⟩
  ·exact nomatch e
  ·injection e with e1 _
   subst e1;cases v <;> rfl
theorem aGb(prog:Program)(w:World)(i:Int)(t:Tok):(cB prog w).is (.inl i) (.int i t)=true:=aJm i t
theorem aGc(prog:Program)(w:World)(x:Str)(t:Tok):(cB prog w).is (.inr x) (.str x t)=true:=aJn x t
inductive V where
 |ba|bl (b:Bool)|int (i:Int)|str (x:Str)|Du (b:Array UInt8)|jy (b:UInt64)|ref (a:Addr)|ty (n:String)
 deriving DecidableEq
def RelV:V->Value->Prop
 |.ba,u=>u=Value.none
 |.bl b,u=>u=Value.bool b
 |.int i,u=>∃t,u=Value.int i t
 |.str x,u=>∃t,u=Value.str x t
 |.Du b,u=>∃t,u=Value.bytes b t
 |.jy b,u=>∃t,u=Value.float b t
 |.ref a,u=>u=Value.ref a
 |.ty n,u=>u=Value.type n
abbrev Vals:List V->af->Prop:=Paired RelV
theorem Vals.length{xs:List V}{us:af}(r:Vals xs us):xs.length=us.length:=Paired.length r
theorem Vals.get:∀{xs:List V}{us:af}{i:Nat}{x:V},Vals xs us->xs[i]?=some x->∃u,us[i]?=some u/\RelV x u
 |_,_,_,_,.nil,e=>by simp at e
 |_,_,0,_,.cons r _,e=>by simp at e;subst e;exact⟨_,rfl,r⟩
 |_,_,i+1,x,.cons _ t,e=>by
  obtain⟨u,h1,h2⟩:=Vals.get (i:=i) (x:=x) t (by simpa using e);exact⟨u,by simpa using h1,h2⟩
theorem Vals.set(r:RelV x u):∀{xs:List V}{us:af}(i:Nat),Vals xs us->Vals (xs.set i x) (us.set i u)
 |_,_,_,.nil=>.nil
 |_,_,0,.cons _ t=>.cons r t
 |_,_,i+1,.cons q t=>.cons q (Vals.set r i t)
theorem Vals.append:∀{xs ys:List V}{us ws:af},Vals xs us->Vals ys ws->Vals (xs++ys) (us++ws)
 |_,_,_,_,.nil,s=>s
 |_,_,_,_,.cons r t,s=>.cons r (Vals.append t s)
theorem Vals.take:∀{xs:List V}{us:af}(n:Nat),Vals xs us->Vals (xs.take n) (us.take n)
 |_,_,0,_=>.nil
 |_,_,_+1,.nil=>.nil
 |_,_,n+1,.cons r t=>.cons r (Vals.take n t)
theorem Vals.drop:∀{xs:List V}{us:af}(n:Nat),Vals xs us->Vals (xs.drop n) (us.drop n)
 |_,_,0,r=>r
 |_,_,_+1,.nil=>.nil
 |_,_,n+1,.cons _ t=>Vals.drop n t
def uY:Option V->aq->Prop
 |some v,some u=>RelV v u
 |none,none=>True
 |_,_=>False
def KV{κ:Type}:List (κ×V)->List (κ×Value)->Prop:=Paired λ(p:κ×V) (q:κ×Value)=>p.1=q.1/\RelV p.2 q.2
def kV:Key->V
 |.inl i=>.int i
 |.inr x=>.str x
inductive HO where
 |lst (xs:List V)
 |tup (xs:List V)
 |dK (kvs:List (Key×V))|dT (kvs:List (List Key×V))
 |set (S:Int->Bool) (n:Nat)
 |ins (C dx:Addr) (fs:List (Str×V))
 |own (x:Addr)
 |xd (fs:List (Str×V))
 |met (f x:Addr)
 |Hq (lo hi:Int)
 |bu (o:Obj) (u:HO)
 |qe (ps:Array Value)
 |ext (φ:Heap->Prop)
 |va (q:Str)|gi (pos:Pos) (q:Str)
def Sty:HO->Prop
 |.tup _=>True
 |.va _=>True
 |_=>False
abbrev Hp:=Addr->Option HO
def upd(H:Hp)(a:Addr)(o:HO):Hp:=λb=>if b=a then some o else H b
theorem aP:upd H a o a=some o:=by unfold upd;rw[cJ rfl]
theorem aS{H:Hp}(h:b≠a):upd H a o b=H b:=by unfold upd;rw[bV h]
theorem Fs:upd (upd H a o) a u=upd H a u:=by
 funext b;unfold upd;split <;> rfl
theorem aOq{H:Hp}{a b:Addr}{o u:HO}(h:H a=some o)(h':H b=some u)(d:o≠u):a≠b:=by
 intro e;subst e;rw[h] at h';exact d (Option.some.inj h')
theorem bM{H:Hp}{a b:Addr}{o:HO}(h:H a=some o)(h':H b=none):a≠b:=by
 intro e;subst e;rw[h] at h';cases h'
section
variable(P:Program)(w:World)
def bO(H:Hp)(h:Heap)(a:Addr):HO->Prop
 |.lst xs=>xs.length<=sizeLine/\∃(its:af) (n:Nat),Vals xs its/\h.get? a=some { cls:=.type "list",data:=.seq its.toArray n }
 |.tup xs=>xs.length<=sizeLine/\∃its:af,Vals xs its/\IsTup h a its.toArray
 |.dK kvs=>kvs.length<=sizeLine/\(a == sysModules)=false/\∃vs,KV kvs vs/\h.DictOf (cB P w) a vs
 |.dT kvs=>kvs.length<=sizeLine/\(a == sysModules)=false/\∃xs:List (List Key×Addr×Value),
   Paired (λ(p:List Key×V) (q:List Key×Addr×Value)=>p.1=q.1/\H q.2.1=some (.tup (p.1.map kV))/\RelV p.2 q.2.2) kvs xs/\
   ∃o es ep,h.get? a=some o/\o.ExactDict/\o.data=.dict es ep/\es.toList=xs.map (entryOfKey (tupleKind (cB P w)))/\(xs.map (·.1)).Nodup
 |.set S n=>h.SetOf (intKind P w) a S n
 |.ins C dx fs=>H dx=some (.own a)/\fs.length<=1000/\dx≠a/\h.get? a=some (PySem.W.instObj C dx)/\
   ∃mA,h.Ns1 dx mA/\(∀f,uY (fs.lookup f) (mA f))/\PySem.Within mA (fs.map (·.1))
 |.own _=>∃o,h.get? a=some o
 |.xd fs=>∃mA,h.Ns1 a mA/\∀f,uY (fs.lookup f) (mA f)
 |.Hq lo hi=>∃t u v,h.get? a=some { cls:=.type "range",data:=.fields #[.int lo t,.int hi u,.int 1 v] }
 |.bu o u=>h.get? a=some o/\bO H h a u
 |.qe ps=>h.get? a=some { cls:=.none,data:=.fields ps }
 |.met f x=>h.get? a=some (PySem.W.methodObj (.ref f) (.ref x))
 |.ext φ=>φ h/\(∃o,h.get? a=some o)/\∀h1 h2:Heap,φ h1->(∀o,h1.get? a=some o->h2.get? a=some o)->φ h2
 |.va q=>∃o vs t,h.get? a=some o/\o.data=.fields vs/\vs[1]?=some (.str q t)
 |.gi pos q=>∃ps:Array Value,h.get? a=some { cls:=.none,data:=.fields ps }/\TriplesOk ps.toList/\(codeAmong pos ps.toList=none\/∃c,codeAmong pos ps.toList=some (.ref c)/\H c=some (.va q))
def uO(H:Hp)(h:Heap):Prop:=∀a o,H a=some o->bO P w H h a o
end
section
variable{P:Program}{w:World}{H H':Hp}{h h':Heap}{a:Addr}{o:HO}
theorem bO.lt(x:bO P w H h a o):a < h.objs.size:=by
 cases o with
 |lst xs=>obtain⟨_,_,_,_,e⟩:=x;exact eB e
 |tup xs=>obtain⟨_,_,_,p⟩:=x;exact p.lt
 |dK kvs=>obtain⟨_,_,_,_,o,_,_,e,_⟩:=x;exact eB e
 |dT kvs=>obtain⟨_,_,_,_,o,_,_,e,_⟩:=x;exact eB e
 |set S n=>obtain⟨o,_,_,_,e,_⟩:=x;exact eB e
 |ins C dx fs=>obtain⟨_,_,_,e,_⟩:=x;exact eB e
 |own y=>obtain⟨_,e⟩:=x;exact eB e
 |xd fs=>obtain⟨_,⟨_,_,_,e,_⟩,_⟩:=x;exact eB e
 |Hq lo hi=>obtain⟨_,_,_,e⟩:=x;exact eB e
 |bu ob u=>obtain⟨e,_⟩:=x;exact eB e
 |qe ps=>exact eB (show h.get? a=some _ from x)
 |met f y=>exact eB (show h.get? a=some _ from x)
 |ext φ=>obtain⟨_,⟨_,e⟩,_⟩:=x;exact eB e
 |va q=>obtain⟨_,_,_,e,_⟩:=x;exact eB e
 |gi pos q=>obtain⟨_,e,_⟩:=x;exact eB e
theorem Paired.N4{α β:Type}{F G:α->β->Prop}:∀{l₁:List α}{l₂:List β},Paired F l₁ l₂->(∀a b,F a b->G a b)->Paired G l₁ l₂
 |_,_,.nil,_=>.nil
 |_,_,.cons r t,f=>.cons (f _ _ r) (Paired.N4 t f)
theorem bO.vf(x:bO P w H h a o)(k:∀b u,(b=a\/H b=some (.own a))->h.get? b=some u->h'.get? b=some u)
  (ho:∀b,H b=some (.own a)->H' b=some (.own a)) (ht:∀b u,Sty u->H b=some u->H' b=some u):bO P w H' h' a o:=by
 induction o with
 |lst xs=>obtain⟨z,its,n,r,e⟩:=x;exact⟨z,its,n,r,k _ _ (.inl rfl) e⟩
 |tup xs=>obtain⟨z,its,r,ob,e,c⟩:=x;exact⟨z,its,r,ob,k _ _ (.inl rfl) e,c⟩
 |dK kvs=>obtain⟨z,y,vs,r,ob,es,ep,e,c⟩:=x;exact⟨z,y,vs,r,ob,es,ep,k _ _ (.inl rfl) e,c⟩
 |dT kvs=>
  obtain⟨z,y,xs,r,ob,es,ep,e,c⟩:=x;exact⟨z,y,xs,Paired.N4 r λp q z=>⟨z.1,ht _ _ trivial z.2.1,z.2.2⟩,ob,es,ep,k _ _ (.inl rfl) e,c⟩
 |set S n=>obtain⟨ob,es,ep,t,e,c⟩:=x;exact⟨ob,es,ep,t,k _ _ (.inl rfl) e,c⟩
 |ins C dx fs=>
  obtain⟨d,z,ne,e,mA,⟨od,es,ep,e2,c⟩,r⟩:=x;exact⟨ho _ d,z,ne,k _ _ (.inl rfl) e,mA,⟨od,es,ep,k _ _ (.inr d) e2,c⟩,r⟩
 |own y=>obtain⟨ob,e⟩:=x;exact⟨ob,k _ _ (.inl rfl) e⟩
 |xd fs=>obtain⟨mA,⟨od,es,ep,e,c⟩,r⟩:=x;exact⟨mA,⟨od,es,ep,k _ _ (.inl rfl) e,c⟩,r⟩
 |Hq lo hi=>obtain⟨t,u,v,e⟩:=x;exact⟨t,u,v,k _ _ (.inl rfl) e⟩
 |bu ob u ih=>obtain⟨e,q⟩:=x;exact⟨k _ _ (.inl rfl) e,ih q⟩
 |qe ps=>
  have e:h.get? a=some { cls:=.none,data:=.fields ps }:=x;show h'.get? a=some { cls:=.none,data:=.fields ps };exact k a _ (.inl rfl) e
 |met f y=>
  have e:h.get? a=some (PySem.W.methodObj (.ref f) (.ref y)):=x;show h'.get? a=some (PySem.W.methodObj (.ref f) (.ref y));exact k a _ (.inl rfl) e
 |ext φ=>obtain⟨p,⟨o,e⟩,st⟩:=x;exact⟨st _ _ p λo q=>k _ _ (.inl rfl) q,⟨o,k _ _ (.inl rfl) e⟩,st⟩
 |va q=>obtain⟨o,vs,t,e,r⟩:=x;exact⟨o,vs,t,k _ _ (.inl rfl) e,r⟩
 |gi pos q=>
  obtain⟨ps,e,t,c⟩:=x;refine⟨ps,k _ _ (.inl rfl) e,t,?_⟩;rcases c with c|⟨c,e1,e2⟩
  ·exact .inl c
  ·exact .inr ⟨c,e1,ht _ _ trivial e2⟩
theorem uO.lt(x:uO P w H h)(e:H a=some o):a < h.objs.size:=(x a o e).lt
theorem uO.fresh(x:uO P w H h)(e:h.objs.size<=a):H a=none:=by
 cases q:H a with
 |none=>rfl
 |some u=>exact absurd (rT (x.lt q) e) (ko _)
theorem uO.kept(x:uO P w H h)(k:∀b u,h.get? b=some u->h'.get? b=some u):uO P w H h':=λa o e=>
 (x a o e).vf (λb u _ q=>k b u q) (λ_ q=>q) λ_ _ _ q=>q
theorem uO.laid(x:uO P w H h)(k:∀b u,h.get? b=some u->h'.get? b=some u)(hp:h.objs.size<=a)(new:bO P w (upd H a o) h' a o):uO P w (upd H a o) h':=λb u e=>by
 have hn:=x.fresh hp;by_cases hb:b=a
 ·subst hb;rw[aP] at e;cases e;exact new
 ·rw[aS hb] at e;exact(x b u e).vf (λc v _ q=>k c v q) (λc q=>by rw[aS (bM q hn)];exact q) λc xs _ q=>by rw[aS (bM q hn)];exact q
end
def Rd(H:Hp)(a:Addr)(u:HO):Prop:=H a=some u\/∃o,H a=some (.bu o u)
theorem Rd.of(h:H a=some u):Rd H a u:=.inl h
theorem Rd.ok(r:Rd H a u)(x:uO P w H h):bO P w H h a u:=by
 rcases r with r|⟨o,r⟩
 ·exact x a u r
 ·obtain⟨_,q⟩:=x a _ r;exact q
def FQ:Option HO->Prop
 |some (.lst _)=>True
 |some (.dK _)=>True
 |some (.dT _)=>True
 |some (.set _ _)=>True
 |some (.ins _ _ _)=>True
 |some (.ext _)=>True
 |_=>False
section
variable{P:Program}{w:World}{H:Hp}{h h':Heap}{x e:Addr}{o':HO}
theorem uO.write(ok:uO P w H h)(mu:FQ (H x))(he:e=x\/H e=some (.own x))(k:∀b u,b≠e->h.get? b=some u->h'.get? b=some u)(Dj:∃u,h'.get? e=some u)
  (new:bO P w (upd H x o') h' x o'):uO P w (upd H x o') h':=λb u q=>by
 have Ga:∀c y,H c=some (.own y)->c≠x:=λc y r z=>by subst z;rw[r] at mu;exact mu
 have qM:∀c u,Sty u->H c=some u->c≠x:=λc u y r z=>by
  subst z;rw[r] at mu;cases u <;> first|exact mu|exact y
 by_cases hb:b=x
 ·subst hb;rw[aP] at q;cases q;exact new
 ·rw[aS hb] at q;by_cases yx:b=e
  ·have q':H b=some (.own x):=by
    rcases he with z|z
    ·exact absurd (yx.trans z) hb
    ·rw[yx];exact z
   rw[q] at q';cases q';obtain⟨v,hv⟩:=Dj;exact⟨v,by rw[yx];exact hv⟩
  ·refine(ok b u q).vf (λc v hc r=>k c v ?_ r) (λc r=>by rw[aS (Ga c b r)];exact r) λc xs y r=>by rw[aS (qM c xs y r)];exact r
   rcases hc with rfl|hc
   ·exact yx
   ·rintro rfl;rcases he with z|z
    ·exact Ga c b hc z
    ·rw[hc] at z;cases z;exact hb rfl
end
structure Un(fs ex:ah)(H H':Hp)(h h':Heap):Prop where
 keep:∀b o,h.get? b=some o->H b=none->b∉fs->b∉ex->h'.get? b=some o
 slot:∀b o,h.get? b=some o->H b=none->b∈fs->b∉ex->∃sl,h'.get? b=some { o with slots:=sl }
 free:∀b o,h.get? b=some o->H b=none->b∉ex->H' b=none
 there:∀b o,h.get? b=some o->b∉ex->∃o',h'.get? b=some o'
 rV:∀b xs,H b=some (.tup xs)->H' b=some (.tup xs)
 cv:∀b o u,H b=some (.bu o u)->H' b=some (.bu o u)
 ez:∀b ps,H b=some (.qe ps)->∃more,H' b=some (.qe (ps++more))
section
variable{fs fs' ex Nk:ah}{H H1 H2:Hp}{h h1 h2 h':Heap}{a x e:Addr}{o:HO}
theorem Un.any(u:Un fs ex H H1 h h1)(q:h.get? b=some ob)(n:H b=none)(hx:b∉ex):∃sl,h1.get? b=some { ob with slots:=sl }:=by
 by_cases hb:b∈fs
 ·exact u.slot b ob q n hb hx
 ·exact⟨ob.slots,u.keep b ob q n hb hx⟩
theorem Un.trans(a:Un fs ex H H1 h h1)(b:Un fs ex H1 H2 h1 h2):Un fs ex H H2 h h2 where
 keep:=λc ob q n hc hx=>b.keep c ob (a.keep c ob q n hc hx) (a.free c ob q n hx) hc hx
 slot:=λc ob q n hc hx=>by
  obtain⟨sl,e1⟩:=a.slot c ob q n hc hx;obtain⟨KR,e2⟩:=b.slot c _ e1 (a.free c ob q n hx) hc hx;exact⟨KR,e2⟩
 free:=λc ob q n hx=>by
  obtain⟨o',e1⟩:=a.there c ob q hx;exact b.free c o' e1 (a.free c ob q n hx) hx
 there:=λc ob q hx=>by
  obtain⟨o',e1⟩:=a.there c ob q hx;exact b.there c o' e1 hx
 rV:=λc xs q=>b.rV c xs (a.rV c xs q)
 cv:=λc ob xs q=>b.cv c ob xs (a.cv c ob xs q)
 ez:=λc ps q=>by
  obtain⟨m1,e1⟩:=a.ez c ps q;obtain⟨m2,e2⟩:=b.ez c _ e1;exact⟨m1++m2,by rw[e2,Array.append_assoc]⟩
theorem Un.kept(k:∀b u,h.get? b=some u->h'.get? b=some u):Un fs ex H H h h':=
 ⟨λb ob q _ _ _=>k b ob q,λb ob q _ _ _=>⟨ob.slots,k b ob q⟩,λ_ _ _ n _=>n,λb ob q _=>⟨ob,k b ob q⟩,λ_ _ q=>q,λ_ _ _ q=>q,λ_ ps q=>⟨#[],by rw[q];simp⟩⟩
theorem Un.refl:Un fs ex H H h h:=Un.kept λ_ _ q=>q
theorem Un.laid(k:∀b u,h.get? b=some u->h'.get? b=some u)(hp:h.objs.size<=a)(hn:H a=none):Un fs ex H (upd H a o) h h' where
 keep:=λb u q _ _ _=>k b u q
 slot:=λb u q _ _ _=>⟨u.slots,k b u q⟩
 free:=λb u q n _=>by rw[aS (gM (rT (eB q) hp))];exact n
 there:=λb u q _=>⟨u,k b u q⟩
 rV:=λb xs q=>by rw[aS (bM q hn)];exact q
 cv:=λb u xs q=>by rw[aS (bM q hn)];exact q
 ez:=λb ps q=>⟨#[],by rw[aS (bM q hn),q];simp⟩
theorem Un.write(mu:FQ (H x))(he:e=x\/H e=some (.own x))(k:∀b u,b≠e->h.get? b=some u->h'.get? b=some u)(Dj:∃u,h'.get? e=some u):Un fs ex H (upd H x o) h h':=by
 have hx:∀b,H b=none->b≠x:=λb n z=>by subst z;rw[n] at mu;exact mu
 have hb:∀b,H b=none->b≠e:=λb n z=>by
  subst z;rcases he with r|r
  ·exact hx b n r
  ·rw[n] at r;cases r
 have hm:∀b u,H b=some u->¬FQ (some u)->b≠x:=λb u q nm z=>by subst z;rw[q] at mu;exact nm mu
 refine⟨λb u q n _ _=>k b u (hb b n) q,λb u q n _ _=>⟨u.slots,k b u (hb b n) q⟩,λb u q n _=>by rw[aS (hx b n)];exact n,λb u q _=>?_,
  λb xs q=>by rw[aS (hm b _ q λz=>z)];exact q,λb u xs q=>by rw[aS (hm b _ q λz=>z)];exact q,λb ps q=>⟨#[],by rw[aS (hm b _ q λz=>z),q];simp⟩⟩
 by_cases yx:b=e
 ·subst yx;exact Dj
 ·exact⟨u,k b u yx q⟩
end
def G6(h:Heap)(H:Hp):ah:=(List.range h.objs.size).filter λa=>(H a).isSome
def yR(h:Heap)(H:Hp):Heap:=PySem.W.hideAll h (G6 h H)
theorem aEA(h:Heap)(H:Hp):(yR h H).objs.size=h.objs.size:=PySem.W.hideAll_size _ _
theorem aGd{h:Heap}(e:h.get? b=some o)(n:H b=none):(yR h H).get? b=some o:=
 PySem.W.hideAll_get _ e λhm=>by
  have q:(H b).isSome=true:=(xa.mp hm).2;rw[n] at q;simp at q
theorem aIv{h:Heap}{H:Hp}(e:(yR h H).get? b=some o):h.get? b=some o/\H b=none:=by
 have e':h.get? b=some o:=PySem.W.of_hideAll (G6 h H) e;refine⟨e',?_⟩;cases q:H b with
 |none=>rfl
 |some x=>
  have hm:b∈G6 h H:=xa.mpr ⟨zU.mpr (eB e'),by simp[q]⟩;have z:(yR h H).get? b=none:=PySem.W.hideAll_none (G6 h H) hm;rw[z] at e;cases e
def aMJ(g h:Heap)(L:Addr):ao:=(List.range h.objs.size).filterMap λa=>if a=L\/(g.get? a).isSome=true then none else (h.get? a).map λo=>(a,o)
def rest(g h:Heap)(L d:Addr):ao:=(aMJ g h L).filter λp=>decide (p.1≠d)
structure Mod(K:W.Frag)(mg:Str->aq)(base:Heap):Prop where
 BQ:K.In base
 glob:base.Ns mainGlobals mg
 blt:∃mb,base.Ns builtinsNs mb/\∀x:Str,x≠"__name__"->mb x=bootBuiltins x
 nolimit:base.NoLimit
 bm:∃bm o,mg "__builtins__" = some (.ref bm)/\bm≠builtinsNs/\base.get? bm=some o/\o.cls=.type "module"/\o.dict=some builtinsNs/\o.data=.plain
structure Cx where
 prog:Program
 w:World
 K:W.Frag
 mg:Str->aq
 base:Heap
 A:Around
 N:ak
 s₀:Shared
 qd:Hp
 env:Env
 outer:List Env
 stack:List Env
 ex:ah
 fn:Str->Bool
 calm:Bool
 pn:ao
 xe:aj
def jn(l:List Env):ah:=l.filterMap (·.frame)
abbrev Cx.fs(X:Cx):ah:=jn X.outer
def Bf(sc:Scope)(x:Str):Prop:=sc.names.lookup x=some .local\/sc.names.lookup x=some .cell\/sc.names.lookup x=some .free
def Loc(sc:Scope)(x:Str):Prop:=sc.names.lookup x=some .local\/sc.names.lookup x=some .cell
def Look(env:Env)(h:Heap)(m:Str->aq)(x:Str)(u:Value):Prop:=
 (env.kindOf x=some .local/\m x=some u)\/((env.kindOf x=some .cell\/env.kindOf x=some .free)/\∃c,env.cells.lookup x=some c/\h.IsCell c (some u))
structure Cx.Ok(X:Cx):Prop where
 mod:Mod X.K X.mg X.base
 kind:X.env.scope.kind=.function
 glob:X.env.globals=mainGlobals
 blt:X.env.builtins=builtinsNs
 above:X.s₀.heap.objs.size<=X.env.locals
 inj:∀x y c,X.env.cells.lookup x=some c->X.env.cells.lookup y=some c->x=y
 has:∀x,(X.env.kindOf x=some .cell\/X.env.kindOf x=some .free)->∃c,X.env.cells.lookup x=some c
 A3:∀x c,X.fn x=true->X.env.cells.lookup x=some c->X.s₀.heap.objs.size<=c
 hd:X.calm=true->X.A.handled=none
 frames:X.A.frames=some X.stack
 C6:X.stack=X.outer\/(X.stack=X.env::X.outer/\X.env.frame=some X.env.locals)
 Iy:∀b∈X.ex,b≠X.env.locals/\∀x c,X.env.cells.lookup x=some c->c≠b
 bs:∀b o,X.base.get? b=some o->X.s₀.heap.get? b=some o/\X.qd b=none
 vb:X.base.objs.size<=X.s₀.heap.objs.size
 qa:∀b o,X.base.get? b=some o->b∉X.ex
 ui:∀b∈X.ex,b∉X.fs
 yS:X.s₀.heap.FunFrames X.base X.outer
 zb:∀b∈X.fs,X.qd b=none
structure Inv(X:Cx)(pins:ao)(σ:List (Option V))(H:Hp)(s:Shared):Prop where
 ok:X.Ok
 os:s.os=X.s₀.os
 bare:AllBare s.gens
 base:Un X.fs X.ex X.qd H X.s₀.heap s.heap
 loc:∃m,s.heap.Ns X.env.locals m/\∀(i:Nat) (x:Str) (v:V),X.N[i]?=some x->σ[i]?=some (some v)->Bf X.env.scope x->∃u,RelV v u/\Look X.env s.heap m x u
 cell:∀x c,X.env.cells.lookup x=some c->∃v,s.heap.IsCell c v
 free:H X.env.locals=none
 cj:∀x c,X.env.cells.lookup x=some c->H c=none
 pin:∀p∈X.pn++pins,s.heap.get? p.1=some p.2/\H p.1=none/\p.1≠X.env.locals/\p.1∉X.fs/\∀v,p.2.data≠.cell v
 av:uO X.prog X.w H s.heap
 len:σ.length=X.N.length
section
variable{X:Cx}{pins:ao}{σ:List (Option V)}{H H':Hp}{s:Shared}{h':Heap}
theorem Cx.Ok.aRM(ok:X.Ok)(e:X.base.get? b=some o):b∉X.fs:=λhb=>by
 have:=(ok.yS.mem hb).1;rw[e] at this;cases this
theorem Inv.bs(I:Inv X pins σ H s):∀b o,X.base.get? b=some o->s.heap.get? b=some o/\H b=none:=λb o e=>
 ⟨I.base.keep b o (I.ok.bs b o e).1 (I.ok.bs b o e).2 (I.ok.aRM e) (I.ok.qa b o e),I.base.free b o (I.ok.bs b o e).1 (I.ok.bs b o e).2 (I.ok.qa b o e)⟩
theorem Inv.bk(I:Inv X pins σ H s):∀b o,X.base.get? b=some o->s.heap.get? b=some o:=λb o e=>(I.bs b o e).1
theorem Inv.mod(I:Inv X pins σ H s):Mod X.K X.mg X.base:=I.ok.mod
theorem Inv.uP(I:Inv X pins σ H s):X.K.In s.heap:=I.ok.mod.BQ.keeps I.bk
theorem Inv.fr(I:Inv X pins σ H s):∃m,Fr X.base X.env.locals s.heap m:=
 let ⟨m,hn,_⟩:=I.loc
 ⟨m,hn,I.bk,gj I.ok.vb I.ok.above⟩
theorem Inv.lt(I:Inv X pins σ H s):X.env.locals < s.heap.objs.size:=let ⟨_,hn,_⟩:=I.loc;hn.lt
theorem Inv.sz(I:Inv X pins σ H s):X.s₀.heap.objs.size<=s.heap.objs.size:=gj I.ok.above (zg I.lt)
theorem Inv.aRN(I:Inv X pins σ H s)(h:s.heap.objs.size<=a):a∉X.fs:=λhb=>by
 obtain⟨_,o,ho,_⟩:=I.ok.yS.mem hb;exact absurd (rT (eB ho) (gj I.sz h)) (ko _)
theorem Inv.A2(I:Inv X pins σ H s):∀x c,X.env.cells.lookup x=some c->c≠X.env.locals:=λx c e z=>by
 obtain⟨v,o,ho,hd⟩:=I.cell x c e;obtain⟨m,⟨o',es,ep,vz,AY,_⟩,_⟩:=I.loc;rw[z,vz] at ho;cases ho;rw[AY] at hd;cases hd
theorem Inv.yS(I:Inv X pins σ H s):s.heap.FunFrames X.base X.outer:=by
 have all:∀(l:List Env),(∀b∈jn l,b∈X.fs)->X.s₀.heap.FunFrames X.base l->s.heap.FunFrames X.base l:=by
  intro l;induction l with
  |nil=>intro _ _;trivial
  |cons env r ih=>
   intro hs hl;obtain⟨hk,⟨L,o,hf,hn,ho,hd⟩,hr⟩:=hl;have hL:L∈X.fs:=hs L (by unfold jn;rw[DY,hf];exact jc);obtain⟨sl,e⟩:=I.base.slot L o ho (I.ok.zb L hL) hL λz=>I.ok.ui L z hL;exact⟨hk,⟨L,_,hf,hn,e,hd⟩,ih (λb hb=>hs b (by unfold jn;rw[DY,hf];exact fh _ hb)) hr⟩
 exact all X.outer (λ_ hb=>hb) I.ok.yS
theorem Inv.stack(I:Inv X pins σ H s):s.heap.FunFrames X.base X.stack:=by
 rcases I.ok.C6 with e|⟨e,hf⟩
 ·rw[e];exact I.yS
 ·rw[e];obtain⟨m,hn,_⟩:=I.loc;refine .cons (by rw[I.ok.kind];decide) hf hn ?_ I.yS;exact Heap.get?_none_of_le (gj I.ok.vb I.ok.above)
theorem Inv.Fn(I:Inv X pins σ H s):∀b∈jn X.stack,b∈X.env.locals::X.fs:=λb hb=>by
 rcases I.ok.C6 with e|⟨e,hf⟩
 ·rw[e] at hb;exact fh _ hb
 ·rw[e] at hb;unfold jn at hb;rw[DY,hf] at hb;exact hb
theorem Inv.Pk(I:Inv X pins σ H s):∀b∈jn X.stack,H b=none:=λb hb=>by
 rcases lQ.mp (I.Fn b hb) with e|hb
 ·rw[e];exact I.free
 ·obtain⟨_,o,ho,_⟩:=I.ok.yS.mem hb;exact I.base.free b o ho (I.ok.zb b hb) λz=>I.ok.ui b z hb
theorem Inv.step{g':Array GenState}{t':Nat}{d':Drawn}{ch:ah}(I:Inv X pins σ H s)
  (qi:∀b∈ch,(b∈X.ex\/X.s₀.heap.objs.size<=b)/\b≠X.env.locals/\(∀x c,X.env.cells.lookup x=some c->c≠b)/\∀p∈X.pn++pins,p.1≠b)
  (keep:∀b o,b≠X.env.locals->b∉X.fs->b∉ch->s.heap.get? b=some o->H b=none->h'.get? b=some o)
  (slot:∀b o,b≠X.env.locals->b∈X.fs->b∉ch->s.heap.get? b=some o->H b=none->∃sl,h'.get? b=some { o with slots:=sl }) (free:∀b o,b∉ch->s.heap.get? b=some o->H b=none->H' b=none)
  (there:∀b o,b∉ch->s.heap.get? b=some o->∃o',h'.get? b=some o')
  (rV:∀b xs,H b=some (.tup xs)->H' b=some (.tup xs)) (cv:∀b o u,H b=some (.bu o u)->H' b=some (.bu o u)) (ez:∀b ps,H b=some (.qe ps)->∃more,H' b=some (.qe (ps++more)))
  (ns:∀m,s.heap.Ns X.env.locals m->h'.Ns X.env.locals m) (av:uO X.prog X.w H' h') (hg:AllBare g') :
  Inv X pins σ H' { s with heap:=h',gens:=g',drawn:=d',toks:=t' }:=by
 have neL:∀b o,X.s₀.heap.get? b=some o->b≠X.env.locals:=λb o e=>gM (rT (eB e) I.ok.above);have Hz:∀b o,X.s₀.heap.get? b=some o->b∉X.ex->b∉ch:=λb o e hx hb=>by
  rcases(qi b hb).1 with z|z
  ·exact hx z
  ·exact absurd (rT (eB e) z) (ko _)
 have cellK:∀x c,X.env.cells.lookup x=some c->∀v,s.heap.IsCell c v->h'.IsCell c v:=λx c e v ⟨o,ho,hd⟩=>by
  have Ef:c∉ch:=λz=>(qi c z).2.2.1 x c e rfl;by_cases hc:c∈X.fs
  ·obtain⟨sl,q⟩:=slot c o (I.A2 x c e) hc Ef ho (I.cj x c e);exact⟨_,q,hd⟩
  ·exact⟨o,keep c o (I.A2 x c e) hc Ef ho (I.cj x c e),hd⟩
 refine⟨I.ok,I.os,hg,⟨λb o e n hb hx=>?_,λb o e n hb hx=>?_,λb o e n hx=>?_,λb o e hx=>?_,λb xs e=>rV b xs (I.base.rV b xs e),λb o xs e=>cv b o xs (I.base.cv b o xs e),λb ps e=>?_⟩,?_,λx c e=>?_,?_,λx c e=>?_,λp hp=>?_,av,I.len⟩
 ·exact keep b o (neL b o e) hb (Hz b o e hx) (I.base.keep b o e n hb hx) (I.base.free b o e n hx)
 ·obtain⟨sl,e1⟩:=I.base.slot b o e n hb hx;obtain⟨KR,e2⟩:=slot b _ (neL b o e) hb (Hz b o e hx) e1 (I.base.free b o e n hx);exact⟨KR,e2⟩
 ·obtain⟨o',e1⟩:=I.base.there b o e hx;exact free b o' (Hz b o e hx) e1 (I.base.free b o e n hx)
 ·obtain⟨o',e1⟩:=I.base.there b o e hx;exact there b o' (Hz b o e hx) e1
 ·obtain⟨m1,e1⟩:=I.base.ez b ps e;obtain⟨m2,e2⟩:=ez b _ e1;exact⟨m1++m2,by rw[e2,Array.append_assoc]⟩
 ·obtain⟨m,hn,hl⟩:=I.loc;refine⟨m,ns m hn,λi x v e1 e2 e3=>?_⟩;obtain⟨u,r,l⟩:=hl i x v e1 e2 e3;refine⟨u,r,?_⟩;rcases l with l|⟨k,c,e,z⟩
  ·exact .inl l
  ·exact .inr ⟨k,c,e,cellK x c e _ z⟩
 ·obtain⟨v,z⟩:=I.cell x c e;exact⟨v,cellK x c e v z⟩
 ·obtain⟨m,⟨o,_,_,ho,_⟩,_⟩:=I.loc;exact free _ o (λz=>(qi _ z).2.1 rfl) ho I.free
 ·obtain⟨v,o,ho,hd⟩:=I.cell x c e;exact free c o (λz=>(qi c z).2.2.1 x c e rfl) ho (I.cj x c e)
 ·obtain⟨e,n,ne,nf,d⟩:=I.pin p hp;have Ef:p.1∉ch:=λz=>(qi p.1 z).2.2.2 p hp rfl;exact⟨keep p.1 p.2 ne nf Ef e n,free p.1 p.2 Ef e n,ne,nf,d⟩
theorem Inv.un{t':Nat}(I:Inv X pins σ H s)(u:Un X.fs [] H H' s.heap h')(av:uO X.prog X.w H' h'):Inv X pins σ H' { s with heap:=h',toks:=t' }:=by
 obtain⟨m,⟨o,es,ep,ho,r⟩,_⟩:=id I.loc;obtain⟨sl,hL⟩:=u.any ho I.free (by simp);exact I.step (g':=s.gens) (d':=s.drawn) (ch:=[]) (λ_ z=>nomatch z) (λb o _ hb _ e n=>u.keep b o e n hb (by simp)) (λb o _ hb _ e n=>u.slot b o e n hb (by simp)) (λb o _ e n=>u.free b o e n (by simp)) (λb o _ e=>u.there b o e (by simp)) u.rV u.cv u.ez (λm' hm=>by
  obtain⟨o',es',uy,vz,r'⟩:=hm;rw[ho] at vz;cases vz;exact⟨_,es',uy,hL,r'⟩) av I.bare
theorem Inv.call{t':Nat}{d':Drawn}(I:Inv X pins σ H s)(u:Un (jn X.stack) ch H H' s.heap h')(av:uO X.prog X.w H' h')(hg:AllBare g')(qi:∀b∈ch,(b∈X.ex\/X.s₀.heap.objs.size<=b)/\b≠X.env.locals/\(∀x c,X.env.cells.lookup x=some c->c≠b)/\∀p∈X.pn++pins,p.1≠b) :
  Inv X pins σ H' { s with heap:=h',gens:=g',drawn:=d',toks:=t' }:=by
 obtain⟨m,⟨o,es,ep,ho,r⟩,_⟩:=id I.loc;obtain⟨sl,hL⟩:=u.any ho I.free λz=>(qi _ z).2.1 rfl;exact I.step (ch:=ch) qi (λb o hL hb hc e n=>u.keep b o e n (λz=>(lQ.mp (I.Fn b z)).elim hL hb) hc) (λb o _ _ hc e n=>u.any e n hc) (λb o hc e n=>u.free b o e n hc) (λb o hc e=>u.there b o e hc) u.rV u.cv u.ez (λm' hm=>by
  obtain⟨o',es',uy,vz,r'⟩:=hm;rw[ho] at vz;cases vz;exact⟨_,es',uy,hL,r'⟩) av hg
theorem Inv.turned{t':Nat}{it:Addr}(I:Inv X pins σ H s)(k:∀b o,b≠it->s.heap.get? b=some o->h'.get? b=some o)(hn:H it=none)(hL:it≠X.env.locals)
  (h1:it∈X.ex\/X.s₀.heap.objs.size<=it) (h2:∀x c,X.env.cells.lookup x=some c->c≠it) (h3:∀p∈X.pn++pins,p.1≠it):Inv X pins σ H { s with heap:=h',toks:=t' }:=by
 have Ee:∀b u,H b=some u->b≠it:=λb u e z=>by rw[z,hn] at e;cases e
 refine I.step (g':=s.gens) (d':=s.drawn) (ch:=[it]) (λb hb=>?_) (λb o _ _ hc e _=>k b o (λz=>hc (by simp[z])) e) (λb o _ _ hc e _=>⟨o.slots,k b o (λz=>hc (by simp[z])) e⟩) (λ_ _ _ _ n=>n)
  (λb o hc e=>⟨o,k b o (λz=>hc (by simp[z])) e⟩) (λ_ _ e=>e) (λ_ _ _ e=>e) (λb ps e=>⟨#[],by rw[e];simp⟩) (λm hm=>?_) (λb u e=>?_) I.bare
 ·have e:b=it:=by simpa using hb
  subst e;exact⟨h1,hL,h2,h3⟩
 ·obtain⟨o,es,ep,ho,r⟩:=hm;exact⟨o,es,ep,k _ o (Ne.symm hL) ho,r⟩
 ·refine(I.av b u e).vf (λc v hc q=>k c v ?_ q) (λ_ q=>q) λ_ _ _ q=>q;rcases hc with z|z
  ·rw[z];exact Ee b u e
  ·exact Ee c _ z
theorem Inv.tok(I:Inv X pins σ H s)(t:Nat):Inv X pins σ H { s with toks:=t }:=I.un (h':=s.heap) (t':=t) Un.refl I.av
theorem Inv.kept{t':Nat}(I:Inv X pins σ H s)(k:∀b u,s.heap.get? b=some u->h'.get? b=some u):Inv X pins σ H { s with heap:=h',toks:=t' }:=I.un (Un.kept k) (I.av.kept k)
theorem Inv.laid{t':Nat}(I:Inv X pins σ H s)(k:∀b u,s.heap.get? b=some u->h'.get? b=some u)(hp:s.heap.objs.size<=a)(new:bO X.prog X.w (upd H a o) h' a o) :
  Inv X pins σ (upd H a o) { s with heap:=h',toks:=t' }:=I.un (Un.laid k hp (I.av.fresh hp)) (I.av.laid k hp new)
theorem Inv.write{t':Nat}(I:Inv X pins σ H s)(mu:FQ (H x))(he:e=x\/H e=some (.own x))(k:∀b u,b≠e->s.heap.get? b=some u->h'.get? b=some u)(Dj:∃u,h'.get? e=some u)(new:bO X.prog X.w (upd H x o) h' x o):Inv X pins σ (upd H x o) { s with heap:=h',toks:=t' }:=I.un (Un.write mu he k Dj) (I.av.write mu he k Dj new)
theorem Inv.weak{σ':List (Option V)}(I:Inv X pins σ H s)(hl:σ'.length=σ.length)(w:∀(i:Nat) v,σ'[i]?=some (some v)->σ[i]?=some (some v)):Inv X pins σ' H s:=
 ⟨I.ok,I.os,I.bare,I.base,let ⟨m,hn,L3⟩:=I.loc;⟨m,hn,λi x v e1 e2 e3=>L3 i x v e1 (w i v e2) e3⟩,I.cell,I.free,I.cj,I.pin,I.av,hl.trans I.len⟩
theorem Inv.JQ(I:Inv X pins σ H s)(h:∀p∈jr,s.heap.get? p.1=some p.2/\H p.1=none/\p.1≠X.env.locals/\p.1∉X.fs/\∀v,p.2.data≠.cell v):Inv X jr σ H s:=
 ⟨I.ok,I.os,I.bare,I.base,I.loc,I.cell,I.free,I.cj,λp hp=>(iy.mp hp).elim (λz=>I.pin p (FD _ z)) (h p),I.av,I.len⟩
theorem aGe{N:ak}(hN:N.Nodup){i j:Nat}(a:N[i]?=some x)(b:N[j]?=some x):i=j:=by
 obtain⟨h1,e1⟩:=g0.mp a;obtain⟨h2,e2⟩:=g0.mp b;exact(DU hN).mp (e1.trans e2.symm)
theorem aEB{E:aj}{i:Nat}{Q:Unit->Shared->Prop}(I:Inv X pins σ H s)(hN:X.N.Nodup)(hi:X.N[i]?=some x)(hx:Loc X.env.scope x)(r:RelV v u)(h:∀s',Inv X pins (σ.set i (some v)) H s'->(∃a,Heap.SameBut a s.heap s'.heap/\(a=X.env.locals\/X.env.cells.lookup x=some a))->Q () s')(hf:X.fn x=true\/X.env.scope.names.lookup x=some .local:=by first|exact .inl rfl|exact .inr rfl|assumption):wpAny M A (storeName X.env x u) Q E s:=by
 obtain⟨m,hn,hl⟩:=id I.loc;have Xf:(X.env.scope.kind == .class || (X.env.scope.kind == .module && X.env.locals != X.env.globals))=false:=by rw[I.ok.kind];rfl
 have Gq:i < σ.length:=by rw[I.len];exact(g0.mp hi).1
 have A2:=I.A2;have tracked:∀{a:Addr} {h':Heap},(∃o,s.heap.get? a=some o/\H a=none)->Heap.SameBut a s.heap h'->uO X.prog X.w H h':=λ{a h'} ha hs b ob e=>by
  obtain⟨_,_,df⟩:=ha;refine(I.av b ob e).vf (λc w' hc q=>(hs.2 c ?_).trans q) (λ_ q=>q) λ_ _ _ q=>q;rintro rfl;rcases hc with rfl|hc
  ·rw[df] at e;cases e
  ·rw[df] at hc;cases hc
 rcases hx with hk|hk
 ·refine wpAny_storeName_local hk hn (λh' HR hs=>?_) Xf;obtain⟨oL,_,_,hoL,_⟩:=id hn;refine h _ ⟨I.ok,I.os,I.bare,⟨λb o e n hb hx=>?_,λb o e n hb hx=>?_,I.base.free,λb o e hx=>?_,I.base.rV,I.base.cv,I.base.ez⟩,⟨_,HR,λj y v' e1 e2 e3=>?_⟩,λy c e=>?_,I.free,I.cj,λp hp=>?_,tracked ⟨oL,hoL,I.free⟩ hs,by simpa using I.len⟩ ⟨_,hs,.inl rfl⟩
  ·exact(hs.2 b (gM (rT (eB e) I.ok.above))).trans (I.base.keep b o e n hb hx)
  ·obtain⟨sl,e1⟩:=I.base.slot b o e n hb hx;exact⟨sl,(hs.2 b (gM (rT (eB e) I.ok.above))).trans e1⟩
  ·obtain⟨o',e1⟩:=I.base.there b o e hx;exact⟨o',(hs.2 b (gM (rT (eB e) I.ok.above))).trans e1⟩
  ·by_cases hj:j=i
   ·subst hj;rw[hi] at e1;cases e1;rw[Au Gq] at e2;cases e2;exact⟨u,r,.inl ⟨hk,by simp⟩⟩
   ·rw[Bp (Ne.symm hj)] at e2;obtain⟨u',r',q⟩:=hl j y v' e1 e2 e3;refine⟨u',r',?_⟩;rcases q with ⟨k,e⟩|⟨k,c,e,z⟩
    ·refine .inl ⟨k,?_⟩;have:y≠x:=λe=>hj (aGe hN e1 (e▸hi));simp[this,e]
    ·exact .inr ⟨k,c,e,z.sameBut hs (A2 y c e)⟩
  ·obtain⟨w',z⟩:=I.cell y c e;exact⟨w',z.sameBut hs (A2 y c e)⟩
  ·obtain⟨e,n,ne,nf,d⟩:=I.pin p hp;exact⟨(hs.2 p.1 ne).trans e,n,ne,nf,d⟩
 ·have qh:X.fn x=true:=by
   rcases hf with z|z
   ·exact z
   ·rw[z] at hk;cases hk
  obtain⟨c,hc⟩:=I.ok.has x (.inl hk);obtain⟨w',z⟩:=I.cell x c hc;refine wpAny_storeName_cell I.ok.kind hk hc z (λh' wk hs=>?_);obtain⟨oc,hoc,W0⟩:=id z;refine h { s with heap:=h' } ⟨I.ok,I.os,I.bare,⟨λb o e n hb hx=>?_,λb o e n hb hx=>?_,I.base.free,λb o e hx=>?_,I.base.rV,I.base.cv,I.base.ez⟩,⟨m,hn.sameBut hs (Ne.symm (A2 x c hc)),λj y v' e1 e2 e3=>?_⟩,λy c' e=>?_,I.free,I.cj,λp hp=>?_,tracked ⟨oc,hoc,I.cj x c hc⟩ hs,by simpa using I.len⟩ ⟨c,hs,.inr hc⟩
  ·exact(hs.2 b (gM (rT (eB e) (I.ok.A3 x c qh hc)))).trans (I.base.keep b o e n hb hx)
  ·obtain⟨sl,e1⟩:=I.base.slot b o e n hb hx;exact⟨sl,(hs.2 b (gM (rT (eB e) (I.ok.A3 x c qh hc)))).trans e1⟩
  ·obtain⟨o',e1⟩:=I.base.there b o e hx;exact⟨o',(hs.2 b (gM (rT (eB e) (I.ok.A3 x c qh hc)))).trans e1⟩
  ·by_cases hj:j=i
   ·subst hj;rw[hi] at e1;cases e1;rw[Au Gq] at e2;cases e2;exact⟨u,r,.inr ⟨.inl hk,c,hc,wk⟩⟩
   ·rw[Bp (Ne.symm hj)] at e2;obtain⟨u',r',q⟩:=hl j y v' e1 e2 e3;refine⟨u',r',?_⟩;rcases q with q|⟨k,c',e,z'⟩
    ·exact .inl q
    ·refine .inr ⟨k,c',e,z'.sameBut hs ?_⟩;rintro rfl;exact hj (aGe hN e1 (I.ok.inj _ _ _ e hc▸hi))
  ·by_cases hcc:c'=c
   ·subst hcc;exact⟨_,wk⟩
   ·obtain⟨w2,z2⟩:=I.cell y c' e;exact⟨w2,z2.sameBut hs hcc⟩
  ·obtain⟨e,n,ne,nf,d⟩:=I.pin p hp;refine⟨(hs.2 p.1 ?_).trans e,n,ne,nf,d⟩;intro q;rw[q,hoc] at e;have q':oc=p.2:=Option.some.inj e;exact d w' (by rw[<-q'];exact W0)
theorem PN{E:aj}{i:Nat}{Q:Unit->Shared->Prop}(I:Inv X pins σ H s)(hN:X.N.Nodup)(hi:X.N[i]?=some x)(hx:Loc X.env.scope x)(r:RelV v u)(h:∀s',Inv X pins (σ.set i (some v)) H s'->Q () s')(hf:X.fn x=true\/X.env.scope.names.lookup x=some .local:=by first|exact .inl rfl|exact .inr rfl|assumption):wpAny M A (storeName X.env x u) Q E s:=
 aEB I hN hi hx r (λs' I' _=>h s' I') hf
theorem Inv.aQL{s':Shared}(I:Inv X pins σ H s)(ho:s'.os=s.os)(u:Un (jn X.stack) ch H H' s.heap s'.heap)(av:uO X.prog X.w H' s'.heap)(hg:AllBare s'.gens)(qi:∀b∈ch,(b∈X.ex\/X.s₀.heap.objs.size<=b)/\b≠X.env.locals/\(∀x c,X.env.cells.lookup x=some c->c≠b)/\∀p∈X.pn++pins,p.1≠b):Inv X pins σ H' s':=by
 obtain⟨h',g',d',t',o'⟩:=s';have e:o'=s.os:=ho;subst e;exact I.call (g':=g') (t':=t') (d':=d') u av hg qi
end
abbrev XK:=Value->Option Addr->Hp->Prop
abbrev St:=List (Option V)
abbrev VK:=V->Hp->Prop
abbrev TE:=St->Hp->VK->Prop
abbrev TT:=St->Hp->(Bool->Hp->Prop)->Prop
abbrev TA:=St->Hp->(List V->Hp->Prop)->Prop
structure Ends where
 nx:St->Hp->Prop
 rt:VK
 bk:St->Hp->Prop:=λ_ _=>False
 ct:St->Hp->Prop:=λ_ _=>False
abbrev TS:=Ends->St->Hp->Prop
def EP(X:Cx)(pins:ao)(σ:St)(Q:VK)(u:Value)(s':Shared):Prop:=∃v H',Inv X pins σ H' s'/\RelV v u/\Q v H'
def TP(X:Cx)(pins:ao)(σ:St)(Q:Bool->Hp->Prop)(b:Bool)(s':Shared):Prop:=∃H',Inv X pins σ H' s'/\Q b H'
def AP(X:Cx)(pins:ao)(σ:St)(Q:List V->Hp->Prop)(us:af)(s':Shared):Prop:=∃vs H',Inv X pins σ H' s'/\Vals vs us/\Q vs H'
def SP(X:Cx)(pins:ao)(D:Ends)(f:Flow)(s':Shared):Prop:=
 match f with
 |.next=>∃σ' H',Inv X pins σ' H' s'/\D.nx σ' H'
 |.brk=>∃σ' H',Inv X pins σ' H' s'/\D.bk σ' H'
 |.cont=>∃σ' H',Inv X pins σ' H' s'/\D.ct σ' H'
 |.ret u=>∃v σ' H',Inv X pins σ' H' s'/\RelV v u/\D.rt v H'
def PE(X:Cx)(e:Expr)(t:TE):Prop:=
 ∀(pins:ao) (s:Shared) (σ:St) (H:Hp) (Q:VK),Inv X pins σ H s->t σ H Q->wpAny (model X.prog X.w) X.A (eval e X.env) (EP X pins σ Q) X.xe s
def PT(X:Cx)(e:Expr)(t:TT):Prop:=
 ∀(pins:ao) (s:Shared) (σ:St) (H:Hp) (Q:Bool->Hp->Prop),Inv X pins σ H s->t σ H Q->wpAny (model X.prog X.w) X.A (isTrue e X.env (eval e X.env)) (TP X pins σ Q) X.xe s
def PW(X:Cx)(e:Expr)(t:TT):Prop:=
 ∀(whole:Sem Value) (pins:ao) (s:Shared) (σ:St) (H:Hp) (Q:Bool->Hp->Prop),Inv X pins σ H s->t σ H Q->wpAny (model X.prog X.w) X.A (isTrue e X.env whole) (TP X pins σ Q) X.xe s
theorem PW.pt(h:PW X e t):PT X e t:=h _
def PA(X:Cx)(es:List Expr)(t:TA):Prop:=
 ∀(pos:Pos) (pins:ao) (s:Shared) (σ:St) (H:Hp) (Q:List V->Hp->Prop),Inv X pins σ H s->t σ H Q->wpAny (model X.prog X.w) X.A (spliced (backTo pos (starEach es X.env))) (AP X pins σ Q) X.xe s
def PS(X:Cx)(st:Stmt)(t:TS):Prop:=
 ∀(pins:ao) (s:Shared) (σ:St) (H:Hp) (D:Ends),Inv X pins σ H s->t D σ H->wpAny (model X.prog X.w) X.A (exec st X.env) (SP X pins D) X.xe s
def ph(X:Cx)(st:List Stmt)(t:TS):Prop:=
 ∀(pins:ao) (s:Shared) (σ:St) (H:Hp) (D:Ends),Inv X pins σ H s->t D σ H->wpAny (model X.prog X.w) X.A (execs st X.env) (SP X pins D) X.xe s
theorem dP{α:Type}{t:Sem α}{Q Q':α->Shared->Prop}{E:aj}(h:wpAny M A t Q E s)(hQ:∀a s,Q a s->Q' a s):wpAny M A t Q' E s:=kb h hQ λ_ _ x=>x
section
variable{X:Cx}
def IZ(i:Nat):TE:=λσ H Q=>∃v,σ[i]?=some (some v)/\Q v H
def tC(v:V):TE:=λ_ H Q=>Q v H
theorem OW{i:Nat}(hN:X.N[i]?=some x)(hv:Bf X.env.scope x)(hd:(x == ("__debug__" : Str))=false:=by decide)(ft:(x == ("__classdict__" : Str))=false:=by decide):PE X (.Name x pos) (IZ i):=by
 intro pins s σ H Q I h;obtain⟨v,e,h⟩:=h;obtain⟨m,hn,hl⟩:=I.loc;obtain⟨u,r,l⟩:=hl i x v hN e hv;have fin:EP X pins σ Q u s:=⟨v,H,I,r,h⟩
 rcases l with ⟨hk,hm⟩|⟨hk,c,hc,jt⟩
 ·exact wpAny_Name (wpAny_loadName_local I.ok.kind hk hn hm fin) hd
 ·rcases hk with hk|hk
  ·exact wpAny_Name (wpAny_loadName_cell I.ok.kind hk hc jt fin) hd
  ·exact wpAny_Name (wpAny_loadName_free I.ok.kind hk hc jt fin ft) hd
theorem aOP{i j pos}:PE X (.Constant (.int i) j pos) (tC (.int i)):=λ_ _ _ H _ I h=>wpAny_Constant_int ⟨.int i,H,I.tok _,⟨_,rfl⟩,h⟩
theorem aQM{b j pos}:PE X (.Constant (.bool b) j pos) (tC (.bl b)):=λ_ _ _ H _ I h=>Constant_bool ⟨.bl b,H,I,rfl,h⟩
theorem aOQ{j pos}:PE X (.Constant .none j pos) (tC .ba):=λ_ _ _ H _ I h=>Constant_none ⟨.ba,H,I,rfl,h⟩
def Gl(X:Cx)(x:Str):Prop:=X.env.kindOf x=some .globalImplicit
theorem JP{E:aj}{Q:aj}(I:Inv X pins σ H s)(hg:Gl X x)(hm:X.mg x=some u)(h:Q u s)(hd:(x == ("__debug__" : Str))=false:=by decide):wpAny (model X.prog X.w) X.A (eval (.Name x pos) X.env) Q E s:=
 Calls.Name_function_global I.ok.kind hg (Calls.loadGlobal_global (by rw[I.ok.glob];exact I.mod.glob.keeps I.bk) hm h) hd
theorem rW{E:aj}{Q:aj}(I:Inv X pins σ H s)(hg:Gl X x)(hm:X.mg x=none)(hv:bootBuiltins x=some u)(h:Q u s)(hn:x≠"__name__":=by decide)(hd:(x == ("__debug__" : Str))=false:=by decide):wpAny (model X.prog X.w) X.A (eval (.Name x pos) X.env) Q E s:=by
 obtain⟨mb,h1,h2⟩:=I.mod.blt;exact Calls.Name_function_global I.ok.kind hg (Calls.loadGlobal_builtin (by rw[I.ok.glob];exact I.mod.glob.keeps I.bk) hm (by rw[I.ok.blt];exact h1.keeps I.bk) ((h2 x hn).trans hv) h) hd
theorem aML(hg:Gl X x)(hm:X.mg x=some u)(r:RelV v u)(hd:(x == ("__debug__" : Str))=false:=by decide):PE X (.Name x pos) (tC v):=
 λ_ _ _ H _ I h=>JP I hg hm ⟨v,H,I,r,h⟩ hd
theorem aMM(hg:Gl X x)(hm:X.mg x=none)(hv:bootBuiltins x=some u)(r:RelV v u)(hn:x≠"__name__":=by decide)(hd:(x == ("__debug__" : Str))=false:=by decide):PE X (.Name x pos) (tC v):=
 λ_ _ _ H _ I h=>rW I hg hm hv ⟨v,H,I,r,h⟩ hn hd
variable{a b:Expr}{ta tb:TE}{pos:Pos}
def tB(t:TE):TT:=λσ H Q=>t σ H λx H1=>∃c,x=.bl c/\Q c H1
theorem aOR{e:Expr}(h:PE X e t)(he:∀whole,isTrue e X.env whole=(do let v <-whole;standAt e.pos;holding [v] (truthy v)):=by intro _;rfl):PT X e (tB t):=by
 intro pins s σ H Q I hw;refine isTrue_plain (dP (h pins s σ H _ I hw) λv s1 zq=>?_) (he _);obtain⟨x,H1,I1,r1,q1⟩:=zq;obtain⟨d,rfl,q⟩:=q1;cases r1;exact wpAny_truthy_bool ⟨H1,I1,q⟩
variable{tA G7:TT}{rest:List Expr}
def N3(t u:TT):TT:=λσ H Q=>t σ H λc H1=>if c=true then u σ H1 Q else Q false H1
def KQ(t u:TT):TT:=λσ H Q=>t σ H λc H1=>if c=true then Q true H1 else u σ H1 Q
def N2(t:TT):TT:=λσ H Q=>t σ H λc H1=>Q (!c) H1
theorem aMN(ha:PT X a tA):PW X (.BoolOp .And [a] pos) tA:=by
 intro wh pins s σ H Q I h;refine isTrue_and (dP (ha pins s σ H Q I h) λc s1 e=>?_);cases c with
 |true=>exact isTrue_and_nil e
 |false=>exact e
theorem aOU(ha:PT X a tA):PW X (.BoolOp .Or [a] pos) tA:=by
 intro wh pins s σ H Q I h;refine isTrue_or (dP (ha pins s σ H Q I h) λc s1 e=>?_);cases c with
 |false=>exact isTrue_or_nil e
 |true=>exact e
theorem aOV(ha:PT X a tA)(hb:PW X (.BoolOp .And (b::rest) pos) G7):PW X (.BoolOp .And (a::b::rest) pos) (N3 tA G7):=by
 intro wh pins s σ H Q I h;refine isTrue_and (dP (ha pins s σ H _ I h) λc s1 ⟨H1,I1,q1⟩=>?_);cases c with
 |true=>exact hb wh pins s1 σ H1 Q I1 q1
 |false=>exact⟨H1,I1,q1⟩
theorem aQN(ha:PT X a tA)(hb:PW X (.BoolOp .Or (b::rest) pos) G7):PW X (.BoolOp .Or (a::b::rest) pos) (KQ tA G7):=by
 intro wh pins s σ H Q I h;refine isTrue_or (dP (ha pins s σ H _ I h) λc s1 ⟨H1,I1,q1⟩=>?_);cases c with
 |true=>exact⟨H1,I1,q1⟩
 |false=>exact hb wh pins s1 σ H1 Q I1 q1
theorem aOW(ha:PT X a tA):PT X (.UnaryOp .Not a pos) (N2 tA):=by
 intro pins s σ H Q I h;exact isTrue_not (ha pins s σ H (λc H1=>Q (!c) H1) I h)
def OA(ta tb:TE):TE:=λσ H Q=>ta σ H λx H1=>∃c,x=.bl c/\if c=true then tb σ H1 Q else Q (.bl false) H1
def N1(ta tb:TE):TE:=λσ H Q=>ta σ H λx H1=>∃c,x=.bl c/\if c=true then Q (.bl true) H1 else tb σ H1 Q
def Oz(ta:TE):TE:=λσ H Q=>ta σ H λx H1=>∃c,x=.bl c/\Q (.bl (!c)) H1
theorem aOY{op}(h:PE X a t):PE X (.BoolOp op [a] pos) t:=λpins s σ H Q I hw=>BoolOp_one (h pins s σ H Q I hw)
theorem aOZ(ha:PE X a ta)(hb:PE X (.BoolOp .And (b::rest) pos) tb):PE X (.BoolOp .And (a::b::rest) pos) (OA ta tb):=by
 intro pins s σ H Q I h;refine BoolOp_and (dP (ha pins s σ H _ I h) λv s1 zq=>?_);obtain⟨x,H1,I1,r1,q1⟩:=zq;obtain⟨c,rfl,q1⟩:=q1;cases r1;refine wpAny_truthy_bool ?_;cases c with
 |true=>exact hb pins s1 σ H1 Q I1 q1
 |false=>exact⟨.bl false,H1,I1,rfl,q1⟩
theorem aQO(ha:PE X a ta)(hb:PE X (.BoolOp .Or (b::rest) pos) tb):PE X (.BoolOp .Or (a::b::rest) pos) (N1 ta tb):=by
 intro pins s σ H Q I h;refine BoolOp_or (dP (ha pins s σ H _ I h) λv s1 zq=>?_);obtain⟨x,H1,I1,r1,q1⟩:=zq;obtain⟨c,rfl,q1⟩:=q1;cases r1;refine wpAny_truthy_bool ?_;cases c with
 |false=>exact hb pins s1 σ H1 Q I1 q1
 |true=>exact⟨.bl true,H1,I1,rfl,q1⟩
theorem aO0(ha:PE X a ta):PE X (.UnaryOp .Not a pos) (Oz ta):=by
 intro pins s σ H Q I h;refine UnaryOp_ (dP (ha pins s σ H _ I h) λv s1 zq=>?_);obtain⟨x,H1,I1,r1,q1⟩:=zq;obtain⟨c,rfl,q1⟩:=q1;cases r1;exact not_of (wpAny_truthy_bool ⟨.bl (!c),H1,I1,rfl,q1⟩)
end
def bR(K:W.Frag)(H:Hp)(a:Addr)(xs:List V):Prop:=
 Rd H a (.lst xs)\/
  ∃(o:Obj) (its:Array Value) (n:Nat),K.lookup a=some o/\o.cls=.type "list"/\o.dict=none/\o.data=.seq its n/\its.size<=sizeLine/\Vals xs its.toList
def mE(K:W.Frag)(H:Hp)(a:Addr)(xs:List V):Prop:=
 Rd H a (.tup xs)\/
  ∃(o:Obj) (its:Array Value) (n:Nat),K.lookup a=some o/\o.cls=.type "tuple"/\o.data=.seq its n/\its.size<=sizeLine/\Vals xs its.toList
def aRO:Value->Option V
 |.none=>some .ba
 |.bool b=>some (.bl b)
 |.int i _=>some (.int i)
 |.str x _=>some (.str x)
 |.bytes b _=>some (.Du b)
 |.float b _=>some (.jy b)
 |.ref a=>some (.ref a)
 |.type n=>some (.ty n)
 |_=>none
theorem RelV.abs(r:RelV x u):aRO u=some x:=by
 cases x with
 |ba=>cases r;rfl
 |bl _=>cases r;rfl
 |int _=>obtain⟨t,rfl⟩:=r;rfl
 |str _=>obtain⟨t,rfl⟩:=r;rfl
 |Du _=>obtain⟨t,rfl⟩:=r;rfl
 |jy _=>obtain⟨t,rfl⟩:=r;rfl
 |ref _=>cases r;rfl
 |ty _=>cases r;rfl
theorem RelV.inj(r:RelV x u)(q:RelV y u):x=y:=Option.some.inj (r.abs.symm.trans q.abs)
theorem Vals.inj:∀{xs ys:List V}{us:af},Vals xs us->Vals ys us->xs=ys
 |_,_,_,.nil,.nil=>rfl
 |_,_,_,.cons r t,.cons r' t'=>by rw[r.inj r',Vals.inj t t']
section
variable{X:Cx}{pins:ao}{σ:St}{H:Hp}{s:Shared}{a:Addr}{xs ys:List V}
theorem bR.of{K:W.Frag}(h:H a=some (.lst xs)):bR K H a xs:=.inl (.inl h)
theorem mE.of{K:W.Frag}(h:H a=some (.tup xs)):mE K H a xs:=.inl (.inl h)
theorem Inv.list(I:Inv X pins σ H s)(h:bR X.K H a xs):∃its:af,Vals xs its/\PlainL s.heap a its.toArray/\xs.length<=sizeLine:=by
 rcases h with h|⟨o,its,n,hk,hc,hd,hs,hz,r⟩
 ·obtain⟨z,its,n,r,e⟩:=h.ok I.av;exact⟨its,r,⟨_,n,e,rfl,rfl,rfl⟩,z⟩
 ·refine⟨its.toList,r,⟨o,n,I.uP a o hk,hc,hd,by simpa using hs⟩,?_⟩;have e:=r.length;simp only[jf] at e;lia
theorem Inv.tuple(I:Inv X pins σ H s)(h:mE X.K H a xs):∃its:af,Vals xs its/\IsTup s.heap a its.toArray/\xs.length<=sizeLine:=by
 rcases h with h|⟨o,its,n,hk,hc,hs,hz,r⟩
 ·obtain⟨z,its,r,p⟩:=h.ok I.av;exact⟨its,r,p,z⟩
 ·refine⟨its.toList,r,⟨o,I.uP a o hk,hc,n,by simpa using hs⟩,?_⟩;have e:=r.length;simp only[jf] at e;lia
theorem Inv.PM(I:Inv X pins σ H s)(h:bR X.K H a xs)(h':bR X.K H a ys):xs=ys:=by
 obtain⟨its,r,⟨o,n,e,_,_,d⟩,_⟩:=I.list h;obtain⟨its',r',⟨o',n',e',_,_,d'⟩,_⟩:=I.list h';rw[e] at e';cases e';rw[d] at d';injection d' with d1 _
 have:its=its':=by simpa using congrArg Array.toList d1
 subst this;exact r.inj r'
theorem Inv.aEC(I:Inv X pins σ H s)(h:mE X.K H a xs)(h':mE X.K H a ys):xs=ys:=by
 obtain⟨its,r,⟨o,e,_,n,d⟩,_⟩:=I.tuple h;obtain⟨its',r',⟨o',e',_,n',d'⟩,_⟩:=I.tuple h';rw[e] at e';cases e';rw[d] at d';injection d' with d1 _
 have:its=its':=by simpa using congrArg Array.toList d1
 subst this;exact r.inj r'
end
abbrev Cx.zf(X:Cx)(E:aj):Cx:={ X with xe:=E }
abbrev Cx.C9(X:Cx):Cx:=X.zf λ_ _=>False
theorem Cx.Ok.zf{X:Cx}(ok:X.Ok)(E:aj):(X.zf E).Ok:=
 ⟨ok.mod,ok.kind,ok.glob,ok.blt,ok.above,ok.inj,ok.has,ok.A3,ok.hd,ok.frames,ok.C6,ok.Iy,ok.bs,ok.vb,ok.qa,ok.ui,ok.yS,ok.zb⟩
theorem Cx.Ok.vA{X:Cx}{E:aj}(ok:(X.zf E).Ok):X.Ok:=
 ⟨ok.mod,ok.kind,ok.glob,ok.blt,ok.above,ok.inj,ok.has,ok.A3,ok.hd,ok.frames,ok.C6,ok.Iy,ok.bs,ok.vb,ok.qa,ok.ui,ok.yS,ok.zb⟩
section
variable{X:Cx}{pins:ao}{σ:St}{H:Hp}{s:Shared}{E:aj}
theorem Inv.zf(I:Inv X pins σ H s)(E:aj):Inv (X.zf E) pins σ H s:=⟨I.ok.zf E,I.os,I.bare,I.base,I.loc,I.cell,I.free,I.cj,I.pin,I.av,I.len⟩
theorem Inv.vA(I:Inv (X.zf E) pins σ H s):Inv X pins σ H s:=⟨I.ok.vA,I.os,I.bare,I.base,I.loc,I.cell,I.free,I.cj,I.pin,I.av,I.len⟩
theorem SP.vA(h:SP (X.zf E) pins D f s'):SP X pins D f s':=by
 cases f with
 |next=>obtain⟨σ',H',I,q⟩:=h;exact⟨σ',H',I.vA,q⟩
 |brk=>obtain⟨σ',H',I,q⟩:=h;exact⟨σ',H',I.vA,q⟩
 |cont=>obtain⟨σ',H',I,q⟩:=h;exact⟨σ',H',I.vA,q⟩
 |ret u=>obtain⟨v,σ',H',I,r,q⟩:=h;exact⟨v,σ',H',I.vA,r,q⟩
theorem ph.C9{st:List Stmt}{t:TS}(h:ph X.C9 st t):ph X st t:=λpins s σ H D I hw=>
 kb (h pins s σ H D (I.zf _) hw) (λ_ _ q=>q.vA) λ_ _ z=>False.elim z
end
section
variable{X:Cx}{st:Stmt}{rest:List Stmt}{t u:TS}{e:Expr}{te:TE}{pos:Pos}
def Oy:TS:=λD σ H=>D.nx σ H
def E4(t u:TS):TS:=λD σ H=>t { D with nx:=u D } σ H
theorem aMO:ph X [] Oy:=λ_ _ σ H _ I h=>wpAny_execs_nil ⟨σ,H,I,h⟩
theorem aKl(h1:PS X st t)(h2:ph X rest u):ph X (st::rest) (E4 t u):=by
 intro pins s σ H D I h;refine wpAny_execs_cons (dP (h1 pins s σ H { D with nx:=u D } I h) λf s1 q=>?_);cases f with
 |next=>
  obtain⟨σ',H',I',q⟩:=q;exact h2 pins s1 σ' H' D I' q
 |ret v=>exact q
 |brk=>exact q
 |cont=>exact q
theorem aMP(h1:PS X st t):ph X [st] t:=by
 intro pins s σ H D I h;refine wpAny_execs_cons (dP (h1 pins s σ H D I h) λf s1 q=>?_);cases f with
 |next=>exact wpAny_execs_nil q
 |ret v=>exact q
 |brk=>exact q
 |cont=>exact q
theorem Inv.quiet(I:Inv X pins σ H s):interactive X.env=false:=by simp[interactive,I.ok.kind]
def Ox(te:TE):TS:=λD σ H=>te σ H λ_ H1=>D.nx σ H1
theorem aMQ(he:PE X e te)(hs:swapsWith e none pos.line X.env=pure false:=by rfl):PS X (.Expr e pos) (Ox te):=by
 intro pins s σ H D I h;exact wpAny_Expr_any (dP (he pins s σ H _ I h) λv s1 ⟨x,H1,I1,r1,q1⟩=>⟨σ,H1,I1,q1⟩) I.quiet hs
def N8(te:TE):TS:=λD σ H=>te σ H D.rt
theorem aO2(he:PE X e te):PS X (.Return (some e) pos) (N8 te):=by
 intro pins s σ H D I h;exact wpAny_Return_some (dP (he pins s σ H _ I h) λv s1 ⟨x,H1,I1,r1,q1⟩=>⟨x,σ,H1,I1,r1,q1⟩)
def N7(c:TT)(t u:TS):TS:=λD σ H=>c σ H λb H1=>if b=true then t D σ H1 else u D σ H1
theorem aQP(hc:PT X c tc)(ha:ph X a t)(hb:ph X b u):PS X (.If c a b pos) (N7 tc t u):=by
 intro pins s σ H D I h;refine wpAny_If (dP (hc pins s σ H _ I h) λd s1 ⟨H1,I1,q1⟩=>?_);cases d with
 |true=>exact ha pins s1 σ H1 D I1 q1
 |false=>exact hb pins s1 σ H1 D I1 q1
def aKn:TS:=λ_ _ _=>False
theorem aKo:PS X st aKn:=λ_ _ _ _ _ _ h=>h.elim
end
abbrev TG:=V->St->Hp->(St->Hp->Prop)->Prop
abbrev ub:=List V->St->Hp->(St->Hp->Prop)->Prop
def PG(X:Cx)(target:Expr)(t:TG):Prop:=
 ∀(pins:ao) (s:Shared) (σ:St) (H:Hp) (v:V) (u:Value) (Q:St->Hp->Prop),Inv X pins σ H s->RelV v u->t v σ H Q->
  wpAny (model X.prog X.w) X.A (assign target X.env u) (λ_ s'=>∃σ' H',Inv X pins σ' H' s'/\Q σ' H') X.xe s
def D3(X:Cx)(ts:List Expr)(t:ub):Prop:=
 ∀(pins:ao) (s:Shared) (σ:St) (H:Hp) (vs:List V) (us:af) (Q:St->Hp->Prop),Inv X pins σ H s->Vals vs us->t vs σ H Q->
  wpAny (model X.prog X.w) X.A (assignInOrder ((assignEach ts X.env).map (·.2)) us) (λ_ s'=>∃σ' H',Inv X pins σ' H' s'/\Q σ' H') X.xe s
abbrev N6:=V->V->V->Hp->(Hp->Prop)->Prop
def E3(X:Cx)(t:N6):Prop:=
 ∀(pins:ao) (s:Shared) (σ:St) (H:Hp) (o i v:V) (ov iv u:Value) (Q:Hp->Prop),Inv X pins σ H s->RelV o ov->RelV i iv->RelV v u->t o i v H Q->
  wpAny (model X.prog X.w) X.A (setItem ov iv u) (λ_ s'=>∃H',Inv X pins σ H' s'/\Q H') X.xe s
abbrev Kv:=V->V->Hp->VK->Prop
def FN(X:Cx)(op:Operator)(t:Kv):Prop:=
 ∀(pins:ao) (s:Shared) (σ:St) (H:Hp) (x y:V) (v u:Value) (Q:VK),Inv X pins σ H s->RelV x v->RelV y u->t x y H Q->
  wpAny (model X.prog X.w) X.A (inplaceOp op v u) (EP X pins σ Q) X.xe s
section
variable{X:Cx}{pos:Pos}
def vB(i:Nat):TG:=λv σ H Q=>Q (σ.set i (some v)) H
theorem aMR{i:Nat}(hN:X.N.Nodup)(hi:X.N[i]?=some x)(hx:Loc X.env.scope x)(hf:X.fn x=true\/X.env.scope.names.lookup x=some .local:=by first|exact .inl rfl|exact .inr rfl|assumption):PG X (.Name x pos) (vB i):=by
 intro pins s σ H v u Q I r h;exact wpAny_assign_Name (PN I hN hi hx r (λs' I'=>⟨_,H,I',h⟩) hf)
def IY:ub:=λvs σ H Q=>vs=[]/\Q σ H
def Ji(t:TG)(u:ub):ub:=λvs σ H Q=>∃v r,vs=v::r/\t v σ H λσ' H'=>u r σ' H' Q
theorem aMT:D3 X [] IY:=by
 intro pins s σ H vs us Q I r h;obtain⟨e,h⟩:=h;subst e;cases r;exact assignInOrder_nil ⟨σ,H,I,h⟩
theorem aKq(h1:PG X e t)(h2:D3 X es u)(hs:(assignEach (e::es) X.env).map (·.2)=assign e X.env::(assignEach es X.env).map (·.2):=by rfl):D3 X (e::es) (Ji t u):=by
 intro pins s σ H vs us Q I r h;obtain⟨v,vr,e1,h⟩:=h;subst e1;cases r with
 |cons r rr=>
  rw[hs];refine assignInOrder_cons (dP (h1 pins s σ H _ _ _ I r h) λ_ s1 zq=>?_);obtain⟨σ1,H1,I1,q1⟩:=zq;exact h2 pins s1 σ1 H1 _ _ Q I1 rr q1
def IX(K:W.Frag)(n:Nat)(t:ub):TG:=λv σ H Q=>∃a xs,v=.ref a/\mE K H a xs/\xs.length=n/\t xs σ H Q
theorem aO5{k:Nat}{n:Nat}(hc:X.calm=true)(h:D3 X es t)(hn:(assignEach es X.env).length=n:=by rfl)(bq:(assignEach es X.env).findIdx? (·.1)=none:=by rfl):PG X (.Tuple es k pos) (IX X.K n t):=by
 intro pins s σ H v u Q I r hw;obtain⟨a,xs,e1,hq,hl,hw⟩:=hw;subst e1;cases r;obtain⟨its,rv,ht,hz⟩:=I.tuple hq;refine assign_Tuple_tuple (I.ok.hd hc) ht (by simp[hn,<-hl,rv.length]) bq λh' hx=>?_;have I1:Inv X pins σ H { s with heap:=h' }:=I.kept (t':=s.toks) λb o e=>hx b o (gM (eB e)) e;exact h pins _ σ H xs _ Q I1 (by simpa using rv) hw
def N5(to ti:TE)(t:N6):TG:=λv σ H Q=>to σ H λo H1=>ti σ H1 λi H2=>t o i v H2 λH3=>Q σ H3
theorem aO7(ho:PE X o to)(hi:PE X i ti)(hs:E3 X t)(ha:∀v,assign (.Subscript o i pos) X.env v=(do
   let ov <-holding [v] (eval o X.env)
   let iv <-holding [v,ov] (eval i X.env)
   standAt pos
   holding [v,ov,iv] (setItem ov iv v)
   release [v,ov,iv] []):=by intro _;rfl):PG X (.Subscript o i pos) (N5 to ti t):=by
 intro pins s σ H v u Q I r h;rw[ha];refine aR (eh (dP (ho pins s σ H _ I h) λov s1 zq=>?_));obtain⟨x,H1,I1,r1,q1⟩:=zq;refine aR (eh (dP (hi pins s1 σ H1 _ I1 q1) λiv s2 zq=>?_));obtain⟨y,H2,I2,r2,q2⟩:=zq;refine aR (wpAny_standAt (aR (eh (dP (hs pins s2 σ H2 x y v ov iv u _ I2 r1 r2 r q2) λ_ s3 ⟨H3,I3,q3⟩=>?_))));exact wpAny_release ⟨σ,H3,I3,q3⟩
def A8(te:TE)(g:TG):TS:=λD σ H=>te σ H λx H1=>g x σ H1 D.nx
theorem aO8(he:PE X e te)(hg:PG X tg g)(hs:swapsWithSole [tg] e pos.line X.env=pure false:=by rfl)(hw:swappedStores [tg] e X.env=pure none:=by rfl)(h1:(assignEach [tg] X.env).map (·.2)=[assign tg X.env]:=by rfl):PS X (.Assign [tg] e pos) (A8 te g):=by
 intro pins s σ H D I h;refine wpAny_Assign_stores (dP (he pins s σ H _ I h) λv s1 zq=>?_) hs hw;obtain⟨x,H1,I1,r1,q1⟩:=zq;rw[h1];exact dP (hg pins s1 σ H1 x v _ I1 r1 q1) λ_ s2 q=>q
theorem aO9{i:Nat}(hN:X.N.Nodup)(hi:X.N[i]?=some x)(hx:Loc X.env.scope x)(he:PE X e te)(hs:swapsWith e (some (.Name x pos')) pos.line X.env=pure false:=by rfl)(hf:X.fn x=true\/X.env.scope.names.lookup x=some .local:=by first|exact .inl rfl|exact .inr rfl|assumption) :
  PS X (.Assign [.Name x pos'] e pos) (A8 te (vB i)):=by
 intro pins s σ H D I h;refine wpAny_Assign_Name (dP (he pins s σ H _ I h) λv s1 zq=>?_) hs;obtain⟨y,H1,I1,r1,q1⟩:=zq;exact PN I1 hN hi hx r1 (λs2 I2=>⟨_,H1,I2,q1⟩) hf
def NW(i:Nat)(te:TE)(ti:Kv):TS:=λD σ H=>∃x,σ[i]?=some (some x)/\te σ H λy H1=>ti x y H1 λz H2=>D.nx (σ.set i (some z)) H2
theorem aPb{i:Nat}(hN:X.N.Nodup)(hi:X.N[i]?=some x)(hx:Loc X.env.scope x)(he:PE X e te)(ho:FN X op ti)(hf:X.fn x=true\/X.env.scope.names.lookup x=some .local:=by first|exact .inl rfl|exact .inr rfl|assumption) :
  PS X (.AugAssign (.Name x pos') op e pos) (NW i te ti):=by
 intro pins s σ H D I h;obtain⟨v,e1,h⟩:=h;obtain⟨m,hn,hl⟩:=I.loc;have vis:Bf X.env.scope x:=by rcases hx with k|k;exact .inl k;exact .inr (.inl k)
 obtain⟨u,r,l⟩:=hl i x v hi e1 vis;refine wpAny_AugAssign_Name ?_;have go:wpAny (model X.prog X.w) X.A (eval e X.env) (λw dg=>wpAny (model X.prog X.w) X.A (inplaceOp op u w) (λr fb=>wpAny (model X.prog X.w) X.A (storeName X.env x r) (λ_=>SP X pins D .next) X.xe fb) X.xe dg) X.xe s:=by
  refine dP (he pins s σ H _ I h) λw s1 zq=>?_;obtain⟨y,H1,I1,r1,q1⟩:=zq;refine dP (ho pins s1 σ H1 v y u w _ I1 r r1 q1) λz s2 zq=>?_;obtain⟨zv,H2,I2,r2,q2⟩:=zq;exact PN I2 hN hi hx r2 (λs3 I3=>⟨_,H2,I3,q2⟩) hf
 rcases l with ⟨hk,hm⟩|⟨hk,c,hc,jt⟩
 ·exact wpAny_loadName_local I.ok.kind hk hn hm go
 ·rcases hk with hk|hk
  ·exact wpAny_loadName_cell I.ok.kind hk hc jt go
  ·rcases hx with k|k
   ·have:X.env.scope.names.lookup x=some .free:=hk;rw[k] at this;cases this
   ·have:X.env.scope.names.lookup x=some .free:=hk;rw[k] at this;cases this
def Ow(to ti te:TE)(jh:V->V->Hp->VK->Prop)(zu:Kv)(ke:N6):TS:=λD σ H=>to σ H λo H1=>ti σ H1 λi H2=>jh o i H2 λx H3=>te σ H3 λy H4=>zu x y H4 λz H5=>ke o i z H5 λH6=>D.nx σ H6
def NV(X:Cx)(t:V->V->Hp->VK->Prop):Prop:=
 ∀(pins:ao) (s:Shared) (σ:St) (H:Hp) (o i:V) (ov iv:Value) (Q:VK),Inv X pins σ H s->RelV o ov->RelV i iv->t o i H Q->
  wpAny (model X.prog X.w) X.A (getItem ov iv) (EP X pins σ Q) X.xe s
theorem aMV{jh:V->V->Hp->VK->Prop}(ho:PE X o to)(hi:PE X i ti)(hg:NV X jh)(he:PE X e te)(hp:FN X op zu)(hs:E3 X ke)(ha:∀ov iv new,augStore i ov iv new=(do holding [new,ov,iv] (setItem ov iv new);release [new,ov,iv] [];pure .next):=by intros;rfl):PS X (.AugAssign (.Subscript o i Cz) op e pos) (Ow to ti te jh zu ke):=by
 intro pins s σ H D I h;refine wpAny_AugAssign_SubscriptAny (dP (ho pins s σ H _ I h) λov s1 zq=>?_) ha;obtain⟨x1,H1,I1,r1,q1⟩:=zq;refine dP (hi pins s1 σ H1 _ I1 q1) λiv s2 zq=>?_;obtain⟨x2,H2,I2,r2,q2⟩:=zq;refine dP (hg pins s2 σ H2 x1 x2 ov iv _ I2 r1 r2 q2) λold s3 zq=>?_;obtain⟨x3,H3,I3,r3,q3⟩:=zq;refine dP (he pins s3 σ H3 _ I3 q3) λv s4 zq=>?_;obtain⟨x4,H4,I4,r4,q4⟩:=zq;refine dP (hp pins s4 σ H4 x3 x4 old v _ I4 r3 r4 q4) λnew s5 zq=>?_;obtain⟨x5,H5,I5,r5,q5⟩:=zq;exact dP (hs pins s5 σ H5 x1 x2 x5 ov iv new _ I5 r1 r2 r5 q5) λ_ s6 ⟨H6,I6,q6⟩=>⟨σ,H6,I6,q6⟩
def ipI(f:Int->Int->Int):Kv:=λx y H Q=>∃i j,x=.int i/\y=.int j/\Q (.int (f i j)) H
theorem OU:FN X .Add (ipI λi j=>i+j):=by
 intro pins s σ H x y v u Q I r1 r2 h;obtain⟨i,j,e1,e2,q⟩:=h;subst e1;subst e2;obtain⟨t,rfl⟩:=r1;obtain⟨t',rfl⟩:=r2;exact iadd_int ⟨.int _,H,I.tok _,⟨_,rfl⟩,q⟩
end
structure It where
 go:Nat->Hp->Prop
 sk:Nat->Hp->V->Hp->Prop
 stop:Nat->Hp->Prop
def tw(X:Cx)(pins:ao)(H:Hp)(b:Addr):Prop:=
 H b=none/\b≠X.env.locals/\b∉X.fs/\(b∈X.ex\/X.s₀.heap.objs.size<=b)/\(∀x c,X.env.cells.lookup x=some c->c≠b)/\∀p∈X.pn++pins,p.1≠b
theorem Inv.Ai{s:Shared}(I:Inv X pins σ H s)(hb:s.heap.objs.size<=b)(hn:H' b=none):tw X pins H' b:=by
 refine⟨hn,je (rT I.lt hb),I.aRN hb,.inr (gj I.sz hb),λx c e z=>?_,λp hp z=>?_⟩
 ·obtain⟨v,q⟩:=I.cell x c e;exact absurd (rT q.lt (by rw[z];exact hb)) (ko _)
 ·exact absurd (rT (eB (I.pin p hp).1) (by rw[z];exact hb)) (ko _)
structure Turn(P:Program)(w:World)(K:W.Frag)(tg:Expr)(J:It)(fp:ah)(it:Addr)(tn:Nat->Heap->Prop):Prop where
 mem:it∈fp
 obj:∀i h,tn i h->∀b∈fp,∃o,h.get? b=some o/\∀v,o.data≠.cell v
 keep:∀i h h',tn i h->(∀b∈fp,∀o,h.get? b=some o->h'.get? b=some o)->tn i h'
 item:∀(X:Cx),X.prog=P->X.w=w->X.K=K->X.calm=true->∀(i:Nat) (pins:ao) (s:Shared) (σ:St) (H:Hp) (E:aj),Inv X pins σ H s->(∀b∈fp,tw X pins H b)->tn i s.heap->J.go i H->
  wpAny (model P w) X.A (pyNext (.ref it)) (λr s1=>∃u,r=some u/\
   wpAny (model P w) X.A (letOwnedTupleGo tg (.ref it) u) (λ_ s2=>∃x H',Inv X pins σ H' s2/\RelV x u/\J.sk i H x H'/\tn (i+1) s2.heap/\∀b∈fp,H' b=none) E s1) E s
 done:∀(X:Cx),X.prog=P->X.w=w->X.K=K->X.calm=true->∀(i:Nat) (pins:ao) (s:Shared) (σ:St) (H:Hp) (E:aj),Inv X pins σ H s->(∀b∈fp,tw X pins H b)->tn i s.heap->J.stop i H->
  wpAny (model P w) X.A (pyNext (.ref it)) (λr s1=>r=none/\Inv X pins σ H s1) E s
 self:∀(A:Around) (i:Nat) (s:Shared) (Q:aj) (E:aj),tn i s.heap->Q (.ref it) s->wpAny (model P w) A (pyIter (.ref it)) Q E s
abbrev TI:=St->Hp->(It->Hp->Prop)->Prop
def PIE(X:Cx)(pins:ao)(σ:St)(tg:Expr)(R:It->Hp->Prop)(Ek:Value)(s2:Shared):Prop:=
 ∃(it:Addr) (fp:ah) (tn:Nat->Heap->Prop) (J:It) (H':Hp),Ek=.ref it/\Inv X pins σ H' s2/\Turn X.prog X.w X.K tg J fp it tn/\tn 0 s2.heap/\(∀b∈fp,tw X pins H' b)/\R J H'
def PI(X:Cx)(tg iter:Expr)(wi:TI):Prop:=
 ∀(pins:ao) (s:Shared) (σ:St) (H:Hp) (R:It->Hp->Prop),Inv X pins σ H s->wi σ H R->
  wpAny (model X.prog X.w) X.A (eval iter X.env) (λv s1=>wpAny (model X.prog X.w) X.A (pyIter v) (PIE X pins σ tg R) X.xe s1) X.xe s
theorem DG{E:aj}{s:Shared}{o:Obj}{Q:Unit->Shared->Prop}(ho:s.heap.get? it=some o)(hc:o.cls=.type n)(hd:o.data=.fields vs)(hn:["enumerate","zip","dict_itemiterator","dict_reverseitemiterator","odict_iterator","itertools.zip_longest","itertools.pairwise"].contains n=false)(hQ:Q () s):wpAny M A (letOwnedTupleGo tg (.ref it) u) Q E s:=by
 unfold letOwnedTupleGo;cases tg <;> first
  |exact bI hQ
  |(cases u <;> first
    |exact bI hQ
    |(
      refine aR (wpAny_load ho ?_);rw[hc,hd];show wpAny M A (if (["enumerate","zip","dict_itemiterator","dict_reverseitemiterator","odict_iterator","itertools.zip_longest","itertools.pairwise"].contains n && vs[0]? == some (rawInt _))=true then _ else _) Q E s;rw[bV (by intro h;rw[hn,vi] at h;cases h)];exact bI hQ))
def ud(K:W.Frag)(a:Addr):It:=
 ⟨λi H=>∃xs x,bR K H a xs/\xs[i]?=some x,λi H x H'=>H'=H/\∀xs,bR K H a xs->xs[i]?=some x,λi H=>∃xs,bR K H a xs/\xs.length<=i⟩
def xf(K:W.Frag)(a:Addr):It:=
 ⟨λi H=>∃xs x,mE K H a xs/\xs[i]?=some x,λi H x H'=>H'=H/\∀xs,mE K H a xs->xs[i]?=some x,λi H=>∃xs,mE K H a xs/\xs.length<=i⟩
def rh(lo:Int)(n:Nat):It:=⟨λi _=>i < n,λi H x H'=>H'=H/\x=.int (lo+i),λi _=>n<=i⟩
theorem aJo{P:Program}{w:World}{K:W.Frag}{tg:Expr}(a it:Addr):Turn P w K tg (ud K a) [it] it (λi h=>h.IsListIter it a i) where
 mem:=by simp
 obj:=λi h st b hb=>by
  have e:b=it:=by simpa using hb
  subst e;obtain⟨o,e,c,d⟩:=st;exact⟨o,e,λv z=>by rw[d] at z;cases z⟩
 keep:=λi h h' st k=>st.at λo e=>k it (by simp) o e
 item:=by
  intro X hP hw hK hc i pins s σ H E I hf st hg;subst hP hw hK;obtain⟨xs,x,hq,hx⟩:=hg;obtain⟨its,rv,p,hz⟩:=I.list hq;obtain⟨u,hu,ru⟩:=rv.get hx;obtain⟨f0,f1,f2,f3,f4,f5⟩:=hf it (by simp);refine wpAny_pyNext_list_item st p.isList (x:=u) (by simpa using hu) λh' cn sb=>?_;have I1:Inv X pins σ H { s with heap:=h' }:=I.turned (t':=s.toks) (λb o hb e=>(sb.2 b hb).trans e) f0 f1 f3 f4 f5;obtain⟨o,e,c,d⟩:=id cn;exact⟨u,rfl,DG (s:={ s with heap:=h' }) e c d (by decide) ⟨x,H,I1,ru,⟨rfl,λys hy=>by rw[I.PM hy hq];exact hx⟩,cn,λb hb=>(hf b hb).1⟩⟩
 done:=by
  intro X hP hw hK hc i pins s σ H E I hf st hg;subst hP hw hK;obtain⟨xs,hq,hx⟩:=hg;obtain⟨its,rv,p,hz⟩:=I.list hq;obtain⟨f0,f1,f2,f3,f4,f5⟩:=hf it (by simp);have hl:=rv.length;exact wpAny_pyNext_list_end (I.ok.hd hc) st p.isList (by simp;lia) λh' eb=>⟨rfl,I.turned (t':=s.toks) (λb o hb e=>eb b o hb e) f0 f1 f3 f4 f5⟩
 self:=λ_ _ _ _ _ st h=>wpAny_pyIter_listiter st h
theorem aHl{P:Program}{w:World}{K:W.Frag}{tg:Expr}(a it:Addr):Turn P w K tg (xf K a) [it] it (λi h=>h.IsTupleIter it a i) where
 mem:=by simp
 obj:=λi h st b hb=>by
  have e:b=it:=by simpa using hb
  subst e;obtain⟨o,e,c,d⟩:=st;exact⟨o,e,λv z=>by rw[d] at z;cases z⟩
 keep:=λi h h' st k=>st.at λo e=>k it (by simp) o e
 item:=by
  intro X hP hw hK hc i pins s σ H E I hf st hg;subst hP hw hK;obtain⟨xs,x,hq,hx⟩:=hg;obtain⟨its,rv,p,hz⟩:=I.tuple hq;obtain⟨u,hu,ru⟩:=rv.get hx;obtain⟨f0,f1,f2,f3,f4,f5⟩:=hf it (by simp);refine wpAny_pyNext_tuple_item st (show s.heap.IsTuple a its.toArray from p) (x:=u) (by simpa using hu) λh' cn sb=>?_;have I1:Inv X pins σ H { s with heap:=h' }:=I.turned (t':=s.toks) (λb o hb e=>(sb.2 b hb).trans e) f0 f1 f3 f4 f5;obtain⟨o,e,c,d⟩:=id cn;exact⟨u,rfl,DG (s:={ s with heap:=h' }) e c d (by decide) ⟨x,H,I1,ru,⟨rfl,λys hy=>by rw[I.aEC hy hq];exact hx⟩,cn,λb hb=>(hf b hb).1⟩⟩
 done:=by
  intro X hP hw hK hc i pins s σ H E I hf st hg;subst hP hw hK;obtain⟨xs,hq,hx⟩:=hg;obtain⟨its,rv,p,hz⟩:=I.tuple hq;obtain⟨f0,f1,f2,f3,f4,f5⟩:=hf it (by simp);have hl:=rv.length;exact wpAny_pyNext_tuple_end (I.ok.hd hc) st (show s.heap.IsTuple a its.toArray from p) (by simp;lia) λh' eb=>⟨rfl,I.turned (t':=s.toks) (λb o hb e=>eb b o hb e) f0 f1 f3 f4 f5⟩
 self:=λ_ _ _ _ _ st h=>wpAny_pyIter_tupleiter st h
theorem aHm{P:Program}{w:World}{K:W.Frag}{tg:Expr}(it:Addr)(lo:Int)(n:Nat):Turn P w K tg (rh lo n) [it] it (λi h=>IsRangeIter h it (lo+(i:Nat)*1) ((n:Int) - (i:Nat)) 1) where
 mem:=by simp
 obj:=λi h st b hb=>by
  have e:b=it:=by simpa using hb
  subst e;exact⟨_,st,λv z=>by
   have z':Data.fields _=Data.cell v:=z;cases z'⟩
 keep:=λi h h' st k=>k it (by simp) _ st
 item:=by
  intro X hP hw hK hc i pins s σ H E I hf st hg;subst hP hw hK;obtain⟨f0,f1,f2,f3,f4,f5⟩:=hf it (by simp);have W:=Walks.range (prog:=X.prog) (w:=X.w) (I.ok.hd hc) it lo 1 n;refine W.item i s _ _ hg st λv h' tk hv cn kk=>?_;obtain⟨t,rfl⟩:=hv;have I1:Inv X pins σ H { s with heap:=h',toks:=tk }:=I.turned (λb o hb e=>kk b o (by simpa using hb) e) f0 f1 f3 f4 f5;refine⟨_,rfl,DG (s:={ s with heap:=h',toks:=tk }) (n:="range_iterator") cn rfl rfl (by decide) ⟨.int (lo+i),H,I1,⟨t,?_⟩,⟨rfl,rfl⟩,cn,λb hb=>(hf b hb).1⟩⟩;rw[Int.mul_one]
 done:=by
  intro X hP hw hK hc i pins s σ H E I hf st hg;subst hP hw hK;obtain⟨f0,f1,f2,f3,f4,f5⟩:=hf it (by simp);exact wpAny_pyNext_range_end (I.ok.hd hc) st (by have:n<=i:=hg;lia) λh' eb=>⟨rfl,I.turned (t':=s.toks) (λb o hb e=>eb b o hb e) f0 f1 f3 f4 f5⟩
 self:=λ_ _ _ _ _ st h=>wpAny_pyIter_rangeiter st h
section
variable{X:Cx}{tg:Expr}
def Ov(K:W.Frag)(tl:TE):TI:=λσ H R=>tl σ H λx H1=>∃a,x=.ref a/\(∃xs,bR K H1 a xs)/\R (ud K a) H1
def NU(K:W.Frag)(tl:TE):TI:=λσ H R=>tl σ H λx H1=>∃a,x=.ref a/\(∃xs,mE K H1 a xs)/\R (xf K a) H1
theorem aMW{l:Expr}{tl:TE}(hl:PE X l tl):PI X tg l (Ov X.K tl):=by
 intro pins s σ H R I h;refine dP (hl pins s σ H _ I h) λv s1 zq=>?_;obtain⟨x,H1,I1,r1,q1⟩:=zq;obtain⟨a,e,⟨xs,hq⟩,q⟩:=q1;subst e;cases r1;obtain⟨its,rv,p,hz⟩:=I1.list hq;refine wpAny_pyIter_list p.isList ?_;refine⟨s1.heap.objs.size,[s1.heap.objs.size],_,_,H1,rfl,I1.kept (t':=s1.toks) λb o e=>fX _ e,aJo a _,⟨_,mJ _ rfl,rfl,rfl⟩,λb hb=>?_,q⟩;have e:b=s1.heap.objs.size:=by simpa using hb
 subst e;exact I1.Ai (d7 _) (I1.av.fresh (d7 _))
theorem aPe{l:Expr}{tl:TE}(hl:PE X l tl):PI X tg l (NU X.K tl):=by
 intro pins s σ H R I h;refine dP (hl pins s σ H _ I h) λv s1 zq=>?_;obtain⟨x,H1,I1,r1,q1⟩:=zq;obtain⟨a,e,⟨xs,hq⟩,q⟩:=q1;subst e;cases r1;obtain⟨its,rv,p,hz⟩:=I1.tuple hq;refine wpAny_pyIter_tuple (show s1.heap.IsTuple a its.toArray from p) ?_;refine⟨s1.heap.objs.size,[s1.heap.objs.size],_,_,H1,rfl,I1.kept (t':=s1.toks) λb o e=>fX _ e,aHl a _,⟨_,mJ _ rfl,rfl,rfl⟩,λb hb=>?_,q⟩;have e:b=s1.heap.objs.size:=by simpa using hb
 subst e;exact I1.Ai (d7 _) (I1.av.fresh (d7 _))
theorem aGg{s:Shared}{R:It->Hp->Prop}{E:aj}{lo hi:Int}{t u v:Tok}{tk:Nat}(I:Inv X pins σ H s)(h1:-(2 ^ 62)<=lo)(h2:lo < 2 ^ 62)(h3:-(2 ^ 62)<=hi)(h4:hi < 2 ^ 62)(q:R (rh lo (hi - lo).toNat) H):wpAny (model X.prog X.w) X.A (pyIter (.ref s.heap.objs.size)) (PIE X pins σ tg R) E { s with heap:=s.heap.push { cls:=.type "range",data:=.fields #[.int lo t,.int hi u,.int 1 v] },toks:=tk }:=by
 refine wpAny_pyIter_range (IsRange.new ..) (small_one h1 h2 h3 h4) ?_;have I1:Inv X pins σ H { s with heap:=s.heap.push { cls:=.type "range",data:=.fields #[.int lo t,.int hi u,.int 1 v] },toks:=tk }:=I.kept λb o e=>fX _ e;refine⟨(s.heap.push { cls:=.type "range",data:=.fields #[.int lo t,.int hi u,.int 1 v] }).objs.size,[(s.heap.push { cls:=.type "range",data:=.fields #[.int lo t,.int hi u,.int 1 v] }).objs.size],_,_,H,rfl,
  I1.kept (t':=tk) λb o e=>fX _ e,aHm _ lo (hi - lo).toNat,?_,λb hb=>?_,q⟩
 ·have e1:lo+((0:Nat):Int)*1=lo:=by simp
  have e2:(((hi - lo).toNat:Nat):Int) - ((0:Nat):Int)=Builtin.Range.rangeSize lo hi 1:=by rw[rangeSize_one];split <;> lia
  show IsRangeIter _ _ (lo+((0:Nat):Int)*1) ((((hi - lo).toNat:Nat):Int) - ((0:Nat):Int)) 1;rw[e1,e2];exact mJ _ rfl
 ·have e:b=(s.heap.push { cls:=.type "range",data:=.fields #[.int lo t,.int hi u,.int 1 v] }).objs.size:=by simpa using hb
  subst e;exact I1.Ai (d7 _) (I1.av.fresh (d7 _))
def Jh(ta:TA):TI:=λσ H R=>ta σ H λvs H1=>∃j:Int,vs=[.int j]/\-(2 ^ 62)<=j/\j < 2 ^ 62/\R (rh 0 j.toNat) H1
def Jg(ta:TA):TI:=λσ H R=>ta σ H λvs H1=>∃i j:Int,vs=[.int i,.int j]/\(-(2 ^ 62)<=i/\i < 2 ^ 62/\-(2 ^ 62)<=j/\j < 2 ^ 62)/\R (rh i (j - i).toNat) H1
theorem aJp(hg:Gl X "range")(hm:X.mg "range" = none)(ha:PA X [a] ta)(hs:starEach [a] X.env=[(false,eval a X.env)]:=by rfl):PI X tg (.Call (.Name "range" p) [a] [] pos) (Jh ta):=by
 intro pins s σ H R I h;refine Call_ (rW I hg hm boot_range (PyProof.Rows.callWith_type1 (dP (ha pos pins s σ H _ I h) λus s1 zq=>?_) hs rfl));obtain⟨vs,H1,I1,r1,q1⟩:=zq;obtain⟨j,e,q1,q2,q⟩:=q1;subst e;cases r1 with
 |cons r rr=>
  cases rr;obtain⟨t,rfl⟩:=r;exact call_range_1 (aGg I1 (by lia) (by lia) q1 q2 (by simpa using q))
theorem aJq(hg:Gl X "range")(hm:X.mg "range" = none)(ha:PA X [a,b] ta)(hs:starEach [a,b] X.env=[(false,eval a X.env),(false,eval b X.env)]:=by rfl)(kl:starEach [b] X.env=[(false,eval b X.env)]:=by rfl) :
  PI X tg (.Call (.Name "range" p) [a,b] [] pos) (Jg ta):=by
 intro pins s σ H R I h;refine Call_ (rW I hg hm boot_range (PyProof.Rows.callWith_type1 (dP (ha pos pins s σ H _ I h) λus s1 ⟨vs,H1,I1,r1,q1⟩=>?_) (by rw[hs,kl]) (by rw[kl];rfl)));obtain⟨i,j,e,⟨q1,q2,q3,q4⟩,q⟩:=q1;subst e;cases r1 with
 |cons r rr=>
  cases rr with
  |cons r' rr=>
   cases rr;obtain⟨t,rfl⟩:=r;obtain⟨t',rfl⟩:=r';exact call_range_2 (aGg I1 q1 q2 q3 q4 q)
def NT(wi:TI)(g:TG)(tb:TS):TS:=λD σ H=>wi σ H λJ H1=>∃W:Nat->Nat->St->Hp->Prop,(∃m,W 0 m σ H1)/\∀i m σ H,W i m σ H->
 (J.stop i H/\D.nx σ H)\/(J.go i H/\∃N:St->Hp->Prop,(∀σ' H',N σ' H'->∃m',m' < m/\W (i+1) m' σ' H')/\∀x H',J.sk i H x H'->g x σ H' λσ2 H2=>tb { D with nx:=N,ct:=N,bk:=D.nx } σ2 H2)
def Fm(fp:ah)(h:Heap):ao:=fp.filterMap λb=>(h.get? b).map λo=>(b,o)
theorem rX{h:Heap}(hb:b∈fp)(e:h.get? b=some o):(b,o)∈Fm fp h:=Km.mpr ⟨b,hb,by rw[e];rfl⟩
theorem aJr{h:Heap}{p:Addr×Obj}(hp:p∈Fm fp h):p.1∈fp/\h.get? p.1=some p.2:=by
 obtain⟨b,hb,e⟩:=Km.mp hp;cases q:h.get? b with
 |none=>rw[q] at e;cases e
 |some o=>
  rw[q] at e;have e':(b,o)=p:=Option.some.inj e;subst e';exact⟨hb,q⟩
theorem Inv.pinned{s:Shared}(I:Inv X pins σ H s)(hf:∀b∈fp,tw X pins H b)(ho:∀b∈fp,∃o,s.heap.get? b=some o/\∀v,o.data≠.cell v):Inv X (pins++Fm fp s.heap) σ H s:=
 I.JQ λp hp=>(iy.mp hp).elim (λz=>I.pin p (rf _ z)) λz=>by
  obtain⟨hb,e⟩:=aJr z;obtain⟨f0,f1,f2,_⟩:=hf p.1 hb;obtain⟨o,e',d⟩:=ho p.1 hb;rw[e] at e';cases e';exact⟨e,f0,f1,f2,d⟩
theorem Inv.JT(I:Inv X (pins++pl) σ H s):Inv X pins σ H s:=I.JQ λp hp=>I.pin p (rf _ (FD _ hp))
theorem aPg(hp:PassesOwn (model X.prog X.w) X.A X.env X.xe)(hc:X.calm=true)(hi:PI X tg iter wi)(hg:PG X tg g)(hb:ph X body tb)(hs:∀x,foldedSetIterable iter X.env x=pure x:=by intro _;rfl):PS X (.For tg iter body [] pos) (NT wi g tb):=by
 intro pins s σ H D I h;refine wpAny_For (dP (hi pins s σ H _ I h) λv s1 h1=>dP h1 λEk s2 h2=>?_) hs;obtain⟨it,fp,tn,J,H2,e,I2,T,uk,f2,W,⟨m0,w0⟩,turn⟩:=h2;subst e;have pz:∀{H':Hp},(∀b∈fp,H' b=none)->∀b∈fp,tw X pins H' b:=λhn b hb=>⟨hn b hb,(f2 b hb).2⟩
 refine codeAny_forLoop_any (λn s'=>∃i σ' H',Inv X pins σ' H' s'/\tn i s'.heap/\(∀b∈fp,H' b=none)/\W i n σ' H') ?_ m0 ⟨0,σ,H2,I2,uk,λb hb=>(f2 b hb).1,w0⟩;rintro n s3 ⟨i,σ3,H3,I3,st3,fr3,w3⟩;rcases turn i n σ3 H3 w3 with ⟨stop,qn⟩|⟨go,N,hN,step⟩
 ·refine wpAny_passesOwn hp (dP (T.done X rfl rfl rfl hc i pins s3 σ3 H3 X.xe I3 (pz fr3) st3 stop) λr s4 ⟨hr,I4⟩=>?_);subst hr;exact wpAny_execs_nil ⟨σ3,H3,I4,qn⟩
 ·refine wpAny_passesOwn hp (dP (T.item X rfl rfl rfl hc i pins s3 σ3 H3 X.xe I3 (pz fr3) st3 go) λr s4 ⟨u,hr,h4⟩=>?_);subst hr;refine wpAny_passesOwn hp (dP h4 λ_ s5 zq=>?_);obtain⟨x,H5,I5,r5,y5,BG,MG⟩:=zq;have QP:=I5.pinned (pz MG) (T.obj _ _ BG);refine wpAny_passesOwn hp (dP (hg _ s5 σ3 H5 x u _ QP r5 (step x H5 y5)) λ_ s6 zq=>?_);obtain⟨σ6,H6,I6,q6⟩:=zq;refine wpAny_passesOwn hp (dP (hb _ s6 σ6 H6 _ I6 q6) λf s7 q7=>?_);have again:∀{σ7:St} {H7:Hp},Inv X (pins++Fm fp s5.heap) σ7 H7 s7->N σ7 H7->∃m,m < n/\∃i σ' H',Inv X pins σ' H' s7/\tn i s7.heap/\(∀b∈fp,H' b=none)/\W i m σ' H':=λ{σ7 H7} I7 n7=>by
   obtain⟨m',hm,w7⟩:=hN σ7 H7 n7;refine⟨m',hm,i+1,σ7,H7,I7.JT,T.keep _ _ _ BG λb hb o e=>(I7.pin (b,o) (rf _ (rf _ (rX hb e)))).1,λb hb=>?_,w7⟩;obtain⟨o,e,d⟩:=T.obj _ _ BG b hb;exact(I7.pin (b,o) (rf _ (rf _ (rX hb e)))).2.1
  cases f with
  |next=>obtain⟨σ7,H7,I7,n7⟩:=q7;exact again I7 n7
  |cont=>obtain⟨σ7,H7,I7,n7⟩:=q7;exact again I7 n7
  |brk=>obtain⟨σ7,H7,I7,q7⟩:=q7;exact⟨σ7,H7,I7.JT,q7⟩
  |ret v=>obtain⟨x7,σ7,H7,I7,r7,q7⟩:=q7;exact⟨x7,σ7,H7,I7.JT,r7,q7⟩
end
theorem aKt{K:W.Frag}{a:Addr}{xs:List V}{g:TG}{tb:TS}{D:Ends}{σ:St}{H:Hp}(Pv:Nat->St->Hp->Prop)(h0:Pv 0 σ H)(hl:∀i σ H,i<=xs.length->Pv i σ H->bR K H a xs)
  (hs:∀i x σ H,xs[i]?=some x->Pv i σ H->g x σ H λσ2 H2=>tb { D with nx:=Pv (i+1),ct:=Pv (i+1),bk:=D.nx } σ2 H2) (hd:∀σ H,Pv xs.length σ H->D.nx σ H) :
  ∃W:Nat->Nat->St->Hp->Prop,(∃m,W 0 m σ H)/\∀i m σ H,W i m σ H->
   ((ud K a).stop i H/\D.nx σ H)\/((ud K a).go i H/\∃N:St->Hp->Prop,(∀σ' H',N σ' H'->∃m',m' < m/\W (i+1) m' σ' H')/\∀x H',(ud K a).sk i H x H'->g x σ H' λσ2 H2=>tb { D with nx:=N,ct:=N,bk:=D.nx } σ2 H2):=by
 refine⟨λi m σ H=>m=xs.length - i/\i<=xs.length/\Pv i σ H,⟨xs.length,by simp,dz _,h0⟩,?_⟩;rintro i m σ H ⟨rfl,hi,p⟩;have q:=hl i σ H hi p;by_cases br:i < xs.length
 ·refine .inr ⟨⟨xs,xs[i],q,by simp[br]⟩,Pv (i+1),λσ' H' p'=>⟨xs.length - (i+1),by lia,rfl,br,p'⟩,λx H' y=>?_⟩;obtain⟨e,y⟩:=y;subst e;exact hs i x σ _ (y xs q) p
 ·have e:i=xs.length:=by lia
  subst e;exact .inl ⟨⟨xs,q,d7 _⟩,hd σ H p⟩
theorem aMX{K:W.Frag}{a:Addr}{xs:List V}{g:TG}{tb:TS}{D:Ends}{σ:St}{H:Hp}(Pv:Nat->St->Hp->Prop)(h0:Pv 0 σ H)(hl:∀i σ H,i<=xs.length->Pv i σ H->mE K H a xs)
  (hs:∀i x σ H,xs[i]?=some x->Pv i σ H->g x σ H λσ2 H2=>tb { D with nx:=Pv (i+1),ct:=Pv (i+1),bk:=D.nx } σ2 H2) (hd:∀σ H,Pv xs.length σ H->D.nx σ H) :
  ∃W:Nat->Nat->St->Hp->Prop,(∃m,W 0 m σ H)/\∀i m σ H,W i m σ H->
   ((xf K a).stop i H/\D.nx σ H)\/((xf K a).go i H/\∃N:St->Hp->Prop,(∀σ' H',N σ' H'->∃m',m' < m/\W (i+1) m' σ' H')/\∀x H',(xf K a).sk i H x H'->g x σ H' λσ2 H2=>tb { D with nx:=N,ct:=N,bk:=D.nx } σ2 H2):=by
 refine⟨λi m σ H=>m=xs.length - i/\i<=xs.length/\Pv i σ H,⟨xs.length,by simp,dz _,h0⟩,?_⟩;rintro i m σ H ⟨rfl,hi,p⟩;have q:=hl i σ H hi p;by_cases br:i < xs.length
 ·refine .inr ⟨⟨xs,xs[i],q,by simp[br]⟩,Pv (i+1),λσ' H' p'=>⟨xs.length - (i+1),by lia,rfl,br,p'⟩,λx H' y=>?_⟩;obtain⟨e,y⟩:=y;subst e;exact hs i x σ _ (y xs q) p
 ·have e:i=xs.length:=by lia
  subst e;exact .inl ⟨⟨xs,q,d7 _⟩,hd σ H p⟩
theorem aJs{lo:Int}{n:Nat}{g:TG}{tb:TS}{D:Ends}{σ:St}{H:Hp}(Pv:Nat->St->Hp->Prop)(h0:Pv 0 σ H)
  (hs:∀i σ H,i < n->Pv i σ H->g (.int (lo+i)) σ H λσ2 H2=>tb { D with nx:=Pv (i+1),ct:=Pv (i+1),bk:=D.nx } σ2 H2) (hd:∀σ H,Pv n σ H->D.nx σ H) :
  ∃W:Nat->Nat->St->Hp->Prop,(∃m,W 0 m σ H)/\∀i m σ H,W i m σ H->
   ((rh lo n).stop i H/\D.nx σ H)\/((rh lo n).go i H/\∃N:St->Hp->Prop,(∀σ' H',N σ' H'->∃m',m' < m/\W (i+1) m' σ' H')/\∀x H',(rh lo n).sk i H x H'->g x σ H' λσ2 H2=>tb { D with nx:=N,ct:=N,bk:=D.nx } σ2 H2):=by
 refine⟨λi m σ H=>m=n - i/\i<=n/\Pv i σ H,⟨n,by simp,dz _,h0⟩,?_⟩;rintro i m σ H ⟨rfl,hi,p⟩;by_cases br:i < n
 ·refine .inr ⟨br,Pv (i+1),λσ' H' p'=>⟨n - (i+1),by lia,rfl,br,p'⟩,λx H' y=>?_⟩;obtain⟨e,y⟩:=y;subst e y;exact hs i σ _ br p
 ·have e:i=n:=by lia
  subst e;exact .inl ⟨d7 _,hd σ H p⟩
abbrev R2:=V->V->Hp->VK->Prop
def uZ(X:Cx)(f:Value->Value->Sem Value)(r:R2):Prop:=
 ∀(pins:ao) (s:Shared) (σ:St) (H:Hp) (x y:V) (v u:Value) (Q:VK),Inv X pins σ H s->RelV x v->RelV y u->r x y H Q->
  wpAny (model X.prog X.w) X.A (f v u) (EP X pins σ Q) X.xe s
def Kr(X:Cx)(f:Value->Sem Value)(r:V->Hp->VK->Prop):Prop:=
 ∀(pins:ao) (s:Shared) (σ:St) (H:Hp) (x:V) (v:Value) (Q:VK),Inv X pins σ H s->RelV x v->r x H Q->
  wpAny (model X.prog X.w) X.A (f v) (EP X pins σ Q) X.xe s
def eC(X:Cx)(f:Value)(r:List V->Hp->VK->Prop):Prop:=
 ∀(pins:ao) (s:Shared) (σ:St) (H:Hp) (xs:List V) (us:af) (Q:VK),Inv X pins σ H s->Vals xs us->r xs H Q->
  wpAny (model X.prog X.w) X.A (call f us) (EP X pins σ Q) X.xe s
def zw(r:R2)(ta tb:TE):TE:=λσ H Q=>ta σ H λx H1=>tb σ H1 λy H2=>r x y H2 Q
def KO(r:V->Hp->VK->Prop)(ta:TE):TE:=λσ H Q=>ta σ H λx H1=>r x H1 Q
def rI(C:Int->Int->Prop)(g:Int->Int->V):R2:=λx y H Q=>∃i j,x=.int i/\y=.int j/\C i j/\Q (g i j) H
def yr(g:Int->Int->V):R2:=λx y H Q=>∃i j,x=.int i/\y=.int j/\Q (g i j) H
def rU(g:Int->V):V->Hp->VK->Prop:=λx H Q=>∃i,x=.int i/\Q (g i) H
section
variable{X:Cx}{a b c:Expr}{ta tb tc:TE}{pos:Pos}
theorem NS(ha:PE X a ta)(hb:PE X b tb){R:V->V->Hp->Prop}(I:Inv X pins σ H s)(h:ta σ H λx H1=>tb σ H1 λy H2=>R x y H2){Q:aj}{f:Value->Value->Sem Value}(hf:∀v u s2 x y H2,Inv X pins σ H2 s2->RelV x v->RelV y u->R x y H2->wpAny (model X.prog X.w) X.A (f v u) Q X.xe s2) :
  wpAny (model X.prog X.w) X.A (eval a X.env) (λv au=>wpAny (model X.prog X.w) X.A (eval b X.env) (λu dg=>wpAny (model X.prog X.w) X.A (f v u) Q X.xe dg) X.xe au) X.xe s:=by
 refine dP (ha pins s σ H _ I h) λv s1 zq=>?_;obtain⟨x,H1,I1,r1,q1⟩:=zq;refine dP (hb pins s1 σ H1 _ I1 q1) λu s2 zq=>?_;obtain⟨y,H2,I2,r2,q2⟩:=zq;exact hf v u s2 x y H2 I2 r1 r2 q2
theorem aQQ(ho:uZ X (binaryOp op) r)(ha:PE X a ta)(hb:PE X b tb):PE X (.BinOp a op b pos) (zw r ta tb):=by
 intro pins s σ H Q I h;exact wpAny_BinOp (NS ha hb I h λv u s2 x y H2 I2 rx ry q=>ho pins s2 σ H2 x y v u Q I2 rx ry q)
theorem aQR{r:V->Hp->VK->Prop}(ho:Kr X (unaryOp op) r)(ha:PE X a ta):PE X (.UnaryOp op a pos) (KO r ta):=by
 intro pins s σ H Q I h;exact UnaryOp_ (dP (ha pins s σ H _ I h) λv s1 ⟨x,H1,I1,r1,q1⟩=>ho pins s1 σ H1 x v Q I1 r1 q1)
theorem Hx{f:Value->Value->Sem Value}{C:Int->Int->Prop}{g:Int->Int->Int}
  (rule:∀(i j:Int) (t u:Tok) (s:Shared) (Q:aj) (E:aj),C i j->Q (.int (g i j) s.toks) { s with toks:=s.toks+1 }->wpAny (model X.prog X.w) X.A (f (.int i t) (.int j u)) Q E s) :
  uZ X f (rI C λi j=>.int (g i j)):=by
 intro pins s σ H x y v u Q I rx ry h;obtain⟨i,j,rfl,rfl,hc,q⟩:=h;obtain⟨t,rfl⟩:=rx;obtain⟨t',rfl⟩:=ry;exact rule i j t t' s _ _ hc ⟨.int (g i j),H,I.tok _,⟨_,rfl⟩,q⟩
theorem aQS{f:Value->Value->Sem Value}{g:Int->Int->Int}
  (rule:∀(i j:Int) (t u:Tok) (s:Shared) (Q:aj) (E:aj),Q (.int (g i j) s.toks) { s with toks:=s.toks+1 }->wpAny (model X.prog X.w) X.A (f (.int i t) (.int j u)) Q E s) :
  uZ X f (yr λi j=>.int (g i j)):=by
 intro pins s σ H x y v u Q I rx ry h;obtain⟨i,j,rfl,rfl,q⟩:=h;obtain⟨t,rfl⟩:=rx;obtain⟨t',rfl⟩:=ry;exact rule i j t t' s _ _ ⟨.int (g i j),H,I.tok _,⟨_,rfl⟩,q⟩
theorem IW{f:Value->Value->Sem Value}{g:Int->Int->Bool}
  (rule:∀(i j:Int) (t u:Tok) (s:Shared) (Q:aj) (E:aj),Q (.bool (g i j)) s->wpAny (model X.prog X.w) X.A (f (.int i t) (.int j u)) Q E s) :
  uZ X f (yr λi j=>.bl (g i j)):=by
 intro pins s σ H x y v u Q I rx ry h;obtain⟨i,j,rfl,rfl,q⟩:=h;obtain⟨t,rfl⟩:=rx;obtain⟨t',rfl⟩:=ry;exact rule i j t t' s _ _ ⟨.bl (g i j),H,I,rfl,q⟩
def aRP(i j:Int):Prop:=0 < j/\j < 1073741824
def aRQ(i j:Int):Prop:=0<=j/\j<=1000000/\i.natAbs < 2 ^ 64
def E2(i j:Int):Prop:=(-(2 ^ 64) < i/\i < 2 ^ 64)\/(-(2 ^ 64) < j/\j < 2 ^ 64)
theorem E2.ok{i j:Int}(h:E2 i j):IntMulOk i j:=by
 rcases h with ⟨h1,h2⟩|⟨h1,h2⟩
 ·exact .of_left (intBits_le_64 h1 h2)
 ·exact .of_right (intBits_le_64 h1 h2)
theorem aPi:uZ X (binaryOp .Add) (yr λi j=>.int (i+j)):=aQS λ_ _ _ _ _ _ _ q=>add_int q
theorem hJ:uZ X (binaryOp .Sub) (yr λi j=>.int (i - j)):=aQS λ_ _ _ _ _ _ _ q=>sub_int q
theorem aPj:uZ X (binaryOp .Mult) (rI E2 λi j=>.int (i*j)):=Hx λ_ _ _ _ _ _ _ hc q=>mul_int q hc.ok
theorem Pj:uZ X (binaryOp .FloorDiv) (rI aRP λi j=>.int (i / j)):=Hx λi j _ _ _ _ _ hc q=>by
 have h1:(0:Int) < j:=hc.1;have h2:j < 1073741824:=hc.2;exact floordiv_int (by lia) (by rw[Int.fdiv_eq_ediv_of_nonneg i (by lia)];exact q) (.inl (PyProof.noPylong_small (by lia)))
theorem jT:uZ X (binaryOp .Mod) (rI (λ_ j=>0 < j) λi j=>.int (i % j)):=Hx λi j _ _ _ _ _ hc q=>by
 have h1:(0:Int) < j:=hc;exact mod_int' (by lia) (by rw[Int.fmod_eq_emod_of_nonneg i (by lia)];exact q)
theorem vC:uZ X (binaryOp .Pow) (rI aRQ λi j=>.int (i ^ j.toNat)):=Hx λ_ _ _ _ _ _ _ hc q=>pow_int_small hc.1 hc.2.1 hc.2.2 q
theorem unI{f:Value->Sem Value}{g:Int->Int}
  (rule:∀(i:Int) (t:Tok) (s:Shared) (Q:aj) (E:aj),Q (.int (g i) s.toks) { s with toks:=s.toks+1 }->wpAny (model X.prog X.w) X.A (f (.int i t)) Q E s) :
  Kr X f (rU λi=>.int (g i)):=by
 intro pins s σ H x v Q I rx h;obtain⟨i,rfl,q⟩:=h;obtain⟨t,rfl⟩:=rx;exact rule i t s _ _ ⟨.int (g i),H,I.tok _,⟨_,rfl⟩,q⟩
theorem vD:Kr X (unaryOp .USub) (rU λi=>.int (-i)):=unI λ_ _ _ _ _ q=>neg_int q
theorem aQT:uZ X (compareOp .Lt) (yr λi j=>.bl (decide (i < j))):=IW λ_ _ _ _ _ _ _ q=>lt_int q
theorem DF:uZ X (compareOp .LtE) (yr λi j=>.bl (decide (i<=j))):=IW λ_ _ _ _ _ _ _ q=>le_int q
theorem E9:uZ X (compareOp .Gt) (yr λi j=>.bl (decide (j < i))):=IW λ_ _ _ _ _ _ _ q=>gt_int q
theorem aOr:uZ X (compareOp .GtE) (yr λi j=>.bl (decide (j<=i))):=IW λ_ _ _ _ _ _ _ q=>ge_int q
theorem uZ.or{f:Value->Value->Sem Value}{r':R2}(h:uZ X f r)(h':uZ X f r'):uZ X f (λx y H Q=>r x y H Q\/r' x y H Q):=by
 intro pins s σ H x y v u Q I rx ry q;rcases q with q|q
 ·exact h pins s σ H x y v u Q I rx ry q
 ·exact h' pins s σ H x y v u Q I rx ry q
theorem bN(b:Expr)(h:op≠.In:=by decide)(h2:op≠.NotIn:=by decide):behindInMarks op b=false:=by
 have e1:(op == CmpOp.In)=false:=by cases op <;> first|rfl|exact absurd rfl h
 have e2:(op == CmpOp.NotIn)=false:=by cases op <;> first|rfl|exact absurd rfl h2
 cases b <;> simp[behindInMarks,e1,e2]
theorem aMZ(ho:uZ X (compareOp op) r)(ha:PE X a ta)(hb:PE X b tb)(hm:behindInMarks op b=false):PE X (.Compare a [op] [b] pos) (zw r ta tb):=by
 intro pins s σ H Q I h;exact wpAny_Compare1 (NS ha hb I h λv u s2 x y H2 I2 rx ry q=>ho pins s2 σ H2 x y v u Q I2 rx ry q) hm
def Ou(t:TE):TT:=λσ H Q=>t σ H λx H'=>∃k,x=.bl k/\Q k H'
theorem aM0(ho:uZ X (compareOp op) r)(ha:PE X a ta)(hb:PE X b tb)(hm:behindInMarks op b=false):PT X (.Compare a [op] [b] pos) (Ou (zw r ta tb)):=by
 intro pins s σ H Q I h;refine wpAny_isTrue_Compare1 (dP (ha pins s σ H _ I h) λv s1 ⟨x,H1,I1,r1,q1⟩=>dP (hb pins s1 σ H1 _ I1 q1) λu s2 ⟨y,H2,I2,r2,q2⟩=>
  dP (ho pins s2 σ H2 x y v u _ I2 r1 r2 q2) λc s3 ⟨z,H3,I3,r3,k,e,q3⟩=>?_) hm
 subst e;cases r3;exact wpAny_truthy_bool ⟨H3,I3,q3⟩
def OT(r r':R2)(ta tb tc:TE):TE:=λσ H Q=>ta σ H λx H1=>tb σ H1 λy H2=>r x y H2 λz H3=>∃k,z=.bl k/\
 (if k=true then tc σ H3 λw' H4=>r' y w' H4 Q else Q (.bl false) H3)
theorem aKw(ho:uZ X (compareOp op) r)(vz:uZ X (compareOp Eb) r')(ha:PE X a ta)(hb:PE X b tb)(hc:PE X c tc)(hm:lastMarks [op,Eb] [b,c]=false:=by with_unfolding_all rfl):PE X (.Compare a [op,Eb] [b,c] pos) (OT r r' ta tb tc):=by
 intro pins s σ H Q I h;refine Compare_chain (dP (ha pins s σ H _ I h) λv s1 ⟨x,H1,I1,r1,q1⟩=>chain_link (dP (hb pins s1 σ H1 _ I1 q1) λu s2 ⟨y,H2,I2,r2,q2⟩=>
  dP (ho pins s2 σ H2 x y v u _ I2 r1 r2 q2) λd s3 ⟨z,H3,I3,r3,k,e,q3⟩=>?_)) hm
 subst e;cases r3;refine wpAny_truthy_bool ?_;cases k with
 |false=>exact ite_ff ⟨.bl false,H3,I3,rfl,q3⟩
 |true=>exact ite_tt (chain_last (dP (hc pins s3 σ H3 _ I3 q3) λw' s4 ⟨z',H4,I4,r4,q4⟩=>vz pins s4 σ H4 y z' u w' Q I4 r2 r4 q4))
theorem DK:(sizeLine:Nat) < 2 ^ 63:=by rw[fc];decide
theorem vals1(r:Vals [x] us):∃u,us=[u]/\RelV x u:=by
 cases r with
 |cons r1 r2=>cases r2;exact⟨_,rfl,r1⟩
theorem vals2(r:Vals [x,y] us):∃u w',us=[u,w']/\RelV x u/\RelV y w':=by
 cases r with
 |cons r1 r2=>
  cases r2 with
  |cons r3 r4=>cases r4;exact⟨_,_,rfl,r1,r3⟩
theorem aKx:eC X (.builtin "abs") (λxs H Q=>∃i,xs=[.int i]/\Q (.int (if i < 0 then -i else i)) H):=by
 intro pins s σ H xs us Q I r h;obtain⟨i,rfl,q⟩:=h;obtain⟨u,rfl,t,rfl⟩:=vals1 r;exact call_abs_int λu tk=>⟨.int (if i < 0 then -i else i),H,I.tok _,⟨_,rfl⟩,q⟩
theorem aJt(hc:X.calm=true):eC X (.builtin "max") (λxs H Q=>∃i j,xs=[.int i,.int j]/\Q (.int (if j > i then j else i)) H):=by
 intro pins s σ H xs us Q I r h;obtain⟨i,j,rfl,q⟩:=h;obtain⟨u,w',rfl,⟨t,rfl⟩,⟨t',rfl⟩⟩:=vals2 r;refine max_two_ints (I.ok.hd hc) λh' tk k=>⟨_,H,I.kept k,?_,q⟩
 by_cases hj:j > i
 ·rw[cJ hj,cJ hj];exact⟨_,rfl⟩
 ·rw[bV hj,bV hj];exact⟨_,rfl⟩
theorem aJu(hc:X.calm=true):eC X (.builtin "min") (λxs H Q=>∃i j,xs=[.int i,.int j]/\Q (.int (if j < i then j else i)) H):=by
 intro pins s σ H xs us Q I r h;obtain⟨i,j,rfl,q⟩:=h;obtain⟨u,w',rfl,⟨t,rfl⟩,⟨t',rfl⟩⟩:=vals2 r;refine min_two_ints (I.ok.hd hc) λh' tk k=>⟨_,H,I.kept k,?_,q⟩
 by_cases hj:j < i
 ·rw[cJ hj,cJ hj];exact⟨_,rfl⟩
 ·rw[bV hj,bV hj];exact⟨_,rfl⟩
def aQU(K:W.Frag)(x:V)(H:Hp)(n:Nat):Prop:=
 match x with
 |.str y=>y.length<=sizeLine/\n=y.length
 |.Du y=>y.size<=sizeLine/\n=y.size
 |.ref p=>(∃xs,bR K H p xs/\n=xs.length)\/∃xs,mE K H p xs/\n=xs.length
 |_=>False
theorem aKy:eC X (.builtin "len") (λxs H Q=>∃x n,xs=[x]/\aQU X.K x H n/\Q (.int n) H):=by
 intro pins s σ H xs us Q I r h;obtain⟨x,n,rfl,e,q⟩:=h;obtain⟨u,rfl,rx⟩:=vals1 r;have hl:=DK;have hs:sizeLine=16777216:=fc;cases x with
 |str y=>
  obtain⟨t,rfl⟩:=rx;obtain⟨hy,e'⟩ : y.length<=sizeLine/\n=y.length:=e;subst e';exact len_str (by lia) ⟨.int _,H,I.tok _,⟨_,rfl⟩,q⟩
 |Du y=>
  obtain⟨t,rfl⟩:=rx;obtain⟨hy,e'⟩ : y.size<=sizeLine/\n=y.size:=e;subst e';exact PySem.W.len_bytes (by lia) ⟨.int _,H,I.tok _,⟨_,rfl⟩,q⟩
 |ref p=>
  cases rx;have e':(∃xs,bR X.K H p xs/\n=xs.length)\/∃xs,mE X.K H p xs/\n=xs.length:=e;rcases e' with ⟨xs,hx,e'⟩|⟨xs,hx,e'⟩
  ·subst e';obtain⟨its,r',pl,hz⟩:=I.list hx;have hlen:=r'.length;exact Calls.call_len_list pl.isList (by simp only[iL];lia) ⟨.int xs.length,H,I.tok _,⟨_,by simp only[iL];rw[hlen]⟩,q⟩
  ·subst e';obtain⟨its,r',pl,hz⟩:=I.tuple hx;have hlen:=r'.length;exact len_tuple pl (by simp only[iL];lia) ⟨.int xs.length,H,I.tok _,⟨_,by simp only[iL];rw[hlen]⟩,q⟩
 |_=>exact(show False from e).elim
end
structure Ca(h:Heap)(x dx C:Addr)(mA:Str->aq):Prop where
 obj:h.get? x=some (PySem.W.instObj C dx)
 ns:h.Ns1 dx mA
 ne:dx≠x
theorem aJv{h:Heap}{mA:Str->aq}(n:h.Ns1 dx mA):∃od,h.get? dx=some od/\∀name,PySem.W.lookIn name od=some (mA name):=by
 obtain⟨o,es,ep,ho,hd,hk,_,hm⟩:=n;refine⟨o,ho,λname=>?_⟩;have e:=hm name;unfold nsFind findBy at e;rw[<-Array.find?_toList] at e;unfold PySem.W.lookIn;rw[hd];dsimp only;split
 ·rename_i y q;rw[q] at e;exact congrArg some e
 ·rename_i q;rw[q] at e;have a:es.toList.any (·.refKey)=false:=by
   rw[List.any_eq_false];intro y hy;obtain⟨z,t,W3⟩:=hk y (Array.mem_toList_iff.mp hy);simp[DictEntry.refKey,W3]
  have a':¬es.toList.any (·.refKey)=true:=by rw[a];exact fo
  rw[bV a'];exact congrArg some e
theorem Ca.look{mA:Str->aq}(I:Ca h x dx C mA):∃od,PySem.W.InstAt h x (PySem.W.instObj C dx) C (some od)/\∀name,PySem.W.lookIn name od=some (mA name):=
 let ⟨od,ho,hl⟩:=aJv I.ns
 ⟨od,⟨I.obj,rfl,rfl,ho⟩,hl⟩
section
variable{prog:Program}{w:World}{A:Around}{E:aj}{s:Shared}{K:W.Frag}{x dx C f:Addr}{mA:Str->aq}{name:Str}{v:Value}
theorem get_map{expr:Bool}{Q:aj}(X:K.In s.heap)(I:Ca s.heap x dx C mA)(hg:PySem.W.plainGet K C name=true)(hh:PySem.W.hasDictIn K C=true)
  (ha:W.findIn K (.ref C) name=some none) (hv:mA name=some v) (Ac:PySem.W.handedIn v=true) (h:Q v { s with toks:=s.toks+1 }) :
  wpAny (model prog w) A (getAttr (.ref x) name expr) Q E s:=by
 obtain⟨od,J,hl⟩:=I.look;exact PySem.W.get_value X J (PySem.W.plainGet_of hg).1 (PySem.W.findObj_own hh ha rfl (by rw[hl,hv])) Ac h
theorem aKz{pl:Sem Bool}{Q:Value×af->Shared->Prop}(X:K.In s.heap)(I:Ca s.heap x dx C mA)(hg:PySem.W.plainGet K C name=true)
  (hf:W.findIn K (.ref C) name=some (some (.ref f))) (ht:PySem.W.isFn K (.ref f)=true) (hv:mA name=none) (h:Q (.ref f,[.ref x]) s) :
  wpAny (model prog w) A (getMethod (.ref x) name pl) Q E s:=by
 obtain⟨od,J,hl⟩:=I.look;exact PySem.W.method_fn X J (PySem.W.plainGet_of hg).1 (PySem.W.plainGet_of hg).2 hf (beq_iff_eq.mp ht) (by show(PySem.W.lookIn name od).map (·.isSome)=some false;rw[hl,hv];rfl) h
theorem aM1{ns:ak}{Q:Unit->Shared->Prop}(X:K.In s.heap)(I:Ca s.heap x dx C mA)
  (hs:PySem.W.findIn K (.ref C) "__setattr__" = some (some (.builtin "object.__setattr__"))) (hp:PySem.W.plainOver K C=true) (ht:PySem.W.takerIn K C name=some none) (hh:PySem.W.hasDictIn K C=true)
  (hw:PySem.Within mA ns) (hsz:ns.length<=sizeLine)
  (h:∀h',Ca h' x dx C (λy=>if y=name then some v else mA y)->Heap.SameBut dx s.heap h'->Q () { s with heap:=h',toks:=s.toks+2 }) :
  wpAny (model prog w) A (setAttr (.ref x) name v) Q E s:=by
 obtain⟨od,J,hl⟩:=I.look;refine PySem.W.set_plain X J hs (PySem.W.osa_open (s:={ s with toks:=s.toks+1 }) (r:=none) X J hp ht λb=>?_);obtain⟨cd,hc,AY⟩:=PySem.W.any_some hh;have hx:s.heap.get? x=some ⟨.ref C,some dx,.plain,#[]⟩:=I.obj;refine aR (bI (aR (aR (wpAny_loadPart hx (aR (PySem.W.Looks.here (s:={ s with toks:=s.toks+1 }) (PySem.W.looks_clsIn X hc) ?_))))));rw[AY];refine bI (a:=some dx) (aR (bI (aR ?_)));refine wpAny_nsSet1 (s:={ s with toks:=s.toks+1 }) I.ns λh' ur kl=>?_;obtain⟨oD,esD,epD,hoD,hdD,hcD⟩:=ur.count (PySem.Within.cons name v hw);refine aR (wpAny_lookBehind hoD (by rw[hdD];exact pastItsLine_dict (gj hcD (by rw[yW];lia))) ?_);exact bI (h _ ⟨(kl.2 _ (Ne.symm I.ne)).trans I.obj,ur,I.ne⟩ kl)
theorem aKA{R:Result->Shared->Prop}(X:K.In s.heap)(hm:PySem.W.makesIn K C=true)(hi:PySem.W.findIn K (.ref C) "__init__" = some (some (.ref f)))(hf:PySem.W.typeIn K (.ref f)=some (.type "function"))(h:codeAny (model prog w) (A.under (.builtin "type.__call__" ⟨.ref C::vs,kw⟩)) (.call (.ref f) ⟨.ref (s.heap.objs.size+1)::vs,kw⟩) (PySem.W.InitBack (s.heap.objs.size+1) R)
   { s with heap:=(s.heap.push PySem.W.emptyDict).push (PySem.W.instObj C s.heap.objs.size) }) :
  codeAny (model prog w) A (.call (.ref C) ⟨vs,kw⟩) R s:=by
 obtain⟨hh,g,d,t,os⟩:=s;exact PySem.W.make_core (PySem.W.makes_of X hm) (PySem.W.looks_findIn X hi) (λself=>PySem.W.bind_fn X self hf) (.inl rfl) h
end
def rY(f:Str)(v:V):List (Str×V)->List (Str×V)
 |[]=>[(f,v)]
 |(g,x)::r=>if g=f then (g,v)::r else (g,x)::rY f v r
theorem aBQ(f g:Str)(v:V):∀fs:List (Str×V),(rY f v fs).lookup g=if g=f then some v else fs.lookup g
 |[]=>by
  show List.lookup g [(f,v)]=_;by_cases h:g=f
  ·have hb:(g == f)=true:=beq_iff_eq.mpr h;simp only[List.lookup,hb,cJ h]
  ·have hb:(g == f)=false:=beq_eq_false_iff_ne.mpr h;simp only[List.lookup,hb,bV h]
 |(k,x)::r=>by
  have ih:=aBQ f g v r;rw[show rY f v ((k,x)::r)=(if k=f then (k,v)::r else (k,x)::rY f v r) from rfl];by_cases hk:k=f
  ·rw[cJ hk];by_cases h:g=k
   ·have hb:(g == k)=true:=beq_iff_eq.mpr h;simp only[List.lookup,hb,cJ (h.trans hk)]
   ·have hb:(g == k)=false:=beq_eq_false_iff_ne.mpr h;simp only[List.lookup,hb,bV (λe:g=f=>h (e.trans hk.symm))]
  ·rw[bV hk];by_cases h:g=k
   ·have hb:(g == k)=true:=beq_iff_eq.mpr h;simp only[List.lookup,hb,bV (λe:g=f=>hk (h.symm.trans e))]
   ·have hb:(g == k)=false:=beq_eq_false_iff_ne.mpr h;simp only[List.lookup,hb];exact ih
theorem PV(f:Str)(v:V):∀fs:List (Str×V),f∈(rY f v fs).map (·.1)/\∀g,g∈fs.map (·.1)->g∈(rY f v fs).map (·.1)
 |[]=>⟨by simp[rY],λg h=>by simp at h⟩
 |(k,x)::r=>by
  obtain⟨i1,i2⟩:=PV f v r;rw[show rY f v ((k,x)::r)=(if k=f then (k,v)::r else (k,x)::rY f v r) from rfl];by_cases hk:k=f
  ·rw[cJ hk];subst hk;exact⟨by simp,λg h=>by simpa using h⟩
  ·rw[bV hk];refine⟨?_,λg h=>?_⟩
   ·rw[fm];exact fh _ i1
   ·rw[fm] at h ⊢;rcases lQ.mp h with e|e
    ·exact lQ.mpr (.inl e)
    ·exact fh _ (i2 g e)
theorem aBR(f:Str)(v:V):∀fs:List (Str×V),(rY f v fs).length<=fs.length+1
 |[]=>by simp[rY]
 |(k,x)::r=>by
  have ih:=aBR f v r;rw[show rY f v ((k,x)::r)=(if k=f then (k,v)::r else (k,x)::rY f v r) from rfl];by_cases hk:k=f
  ·rw[cJ hk,yW,yW];lia
  ·rw[bV hk,yW,yW];lia
theorem uY.some_of(r:uY (some v) o):∃u,o=some u/\RelV v u:=by
 cases o with
 |none=>exact(show False from r).elim
 |some u=>exact⟨u,rfl,r⟩
theorem uY.none_of(r:uY none o):o=none:=by
 cases o with
 |none=>rfl
 |some u=>exact(show False from r).elim
theorem aJw(r:RelV v u):PySem.W.handedIn u=true:=by
 cases v with
 |ba=>cases (show u=Value.none from r);rfl
 |bl b=>cases (show u=Value.bool b from r);rfl
 |int i=>obtain⟨t,e⟩:=(show ∃t,u=Value.int i t from r);cases e;rfl
 |str x=>obtain⟨t,e⟩:=(show ∃t,u=Value.str x t from r);cases e;rfl
 |Du b=>obtain⟨t,e⟩:=(show ∃t,u=Value.bytes b t from r);cases e;rfl
 |jy b=>obtain⟨t,e⟩:=(show ∃t,u=Value.float b t from r);cases e;rfl
 |ref a=>cases (show u=Value.ref a from r);rfl
 |ty n=>cases (show u=Value.type n from r);rfl
section
variable{P:Program}{w:World}{H H':Hp}{h h':Heap}{a C dx:Addr}{fs fs':List (Str×V)}
theorem mK(av:uO P w H h)(e:H a=some (.ins C dx fs)):∃mA,Ca h a dx C mA/\(∀f,uY (fs.lookup f) (mA f))/\PySem.Within mA (fs.map (·.1))/\fs.length<=1000/\H dx=some (.own a):=by
 obtain⟨d,z,ne,ob,mA,n,r,q⟩:=(show bO P w H h a (.ins C dx fs) from av a _ e)
 exact⟨mA,⟨ob,n,ne⟩,r,q,z,d⟩
end
structure me(K:W.Frag)(C:Addr):Prop where
 pg:PySem.W.plainGet K C Str.empty=true
 hd:PySem.W.hasDictIn K C=true
 po:PySem.W.plainOver K C=true
 sa:PySem.W.findIn K (.ref C) "__setattr__" = some (some (.builtin "object.__setattr__"))
theorem me.get{K:W.Frag}{C:Addr}(c:me K C)(f:Str):PySem.W.plainGet K C f=true:=c.pg
def fE(K:W.Frag)(C:Addr)(f:Str):Prop:=W.findIn K (.ref C) f=some none
theorem fE.aQV{K:W.Frag}{C:Addr}{f:Str}(n:fE K C f):PySem.W.takerIn K C f=some none:=by
 unfold PySem.W.takerIn;rw[show W.findIn K (.ref C) f=some none from n];rfl
structure Meth(K:W.Frag)(C:Addr)(m:Str)(f:Addr):Prop where
 at_:W.findIn K (.ref C) m=some (some (.ref f))
 fn:PySem.W.isFn K (.ref f)=true
 kp:W.keepIn K (.ref f)=true
section
variable{X:Cx}{pins:ao}{σ:St}{H:Hp}{s:Shared}{a C dx:Addr}{fs:List (Str×V)}{f:Str}{v:V}{A:Around}{E:aj}
theorem aHp{b:Bool}{Q:aj}(I:Inv X pins σ H s)(e:H a=some (.ins C dx fs))(c:me X.K C)(n:fE X.K C f)(l:fs.lookup f=some v)
  (h:∀u s',Inv X pins σ H s'->RelV v u->Q u s'):wpAny (model X.prog X.w) A (getAttr (.ref a) f b) Q E s:=by
 obtain⟨mA,O,r,_,_,_⟩:=mK I.av e;obtain⟨u,hu,ru⟩:=uY.some_of (v:=v) (o:=mA f) (by rw[<-l];exact r f);exact get_map I.uP O (c.get f) c.hd n hu (aJw ru) (h u _ (I.tok _) ru)
theorem aHq{pl:Sem Bool}{Q:Value×af->Shared->Prop}(I:Inv X pins σ H s)(e:H a=some (.ins C dx fs))(c:me X.K C)(k:Meth X.K C m g)(l:fs.lookup m=none)(h:Q (.ref g,[.ref a]) s):wpAny (model X.prog X.w) A (getMethod (.ref a) m pl) Q E s:=by
 obtain⟨mA,O,r,_,_,_⟩:=mK I.av e;have hn:mA m=none:=uY.none_of (by rw[<-l];exact r m);exact aKz I.uP O (c.get m) k.at_ k.fn hn h
theorem aHr{Q:Unit->Shared->Prop}(I:Inv X pins σ H s)(e:H a=some (.ins C dx fs))(c:me X.K C)(n:fE X.K C f)(hl:fs.length < 1000)(ry:RelV y u)(h:∀s',Inv X pins σ (upd H a (.ins C dx (rY f y fs))) s'->Q () s'):wpAny (model X.prog X.w) A (setAttr (.ref a) f u) Q E s:=by
 obtain⟨mA,O,r,wi,_,ho⟩:=mK I.av e;have hz:(fs.map (·.1)).length<=sizeLine:=by rw[bK,fc];lia
 refine aM1 I.uP O c.sa c.po n.aQV c.hd wi hz λh' O' sb=>h _ ?_;have hd:∃o,h'.get? dx=some o:=let ⟨o,_,_,e',_⟩:=O'.ns;⟨o,e'⟩
 refine I.write (x:=a) (e:=dx) (by rw[e];exact True.intro) (.inr ho) (λb q hb z=>(sb.2 b hb).trans z) hd ?_;refine⟨by rw[aS O.ne];exact ho,?_,O.ne,O'.obj,_,O'.ns,λg=>?_,λg hg=>?_⟩
 ·have:=aBR f y fs;lia
 ·show uY ((rY f y fs).lookup g) (if g=f then some u else mA g);rw[aBQ];by_cases q:g=f
  ·rw[cJ q,cJ q];exact ry
  ·rw[bV q,bV q];exact r g
 ·by_cases q:g=f
  ·rw[q];exact(PV f y fs).1
  ·refine(PV f y fs).2 g (wi g λz=>hg ?_);show(if g=f then some u else mA g)=none;rw[bV q];exact z
theorem Inv.made(I:Inv X pins σ H s):Inv X pins σ (upd (upd H s.heap.objs.size (.own (s.heap.objs.size+1))) (s.heap.objs.size+1) (.ins C s.heap.objs.size []))
  { s with heap:=(s.heap.push PySem.W.emptyDict).push (PySem.W.instObj C s.heap.objs.size) }:=by
 have e1:(s.heap.push PySem.W.emptyDict).get? s.heap.objs.size=some PySem.W.emptyDict:=mJ s.heap rfl;have e2:((s.heap.push PySem.W.emptyDict).push (PySem.W.instObj C s.heap.objs.size)).get? (s.heap.objs.size+1)=some (PySem.W.instObj C s.heap.objs.size):=by
  have:=mJ (s.heap.push PySem.W.emptyDict) (o:=PySem.W.instObj C s.heap.objs.size) rfl
  rwa[vh] at this
 have e3:(s.heap.push PySem.W.emptyDict).Ns s.heap.objs.size (λ_=>none):=⟨PySem.W.emptyDict,#[],_,e1,rfl,(λe he=>absurd he (by simp)),λ_=>rfl⟩
 have I1:=I.laid (a:=s.heap.objs.size) (o:=.own (s.heap.objs.size+1)) (h':=s.heap.push PySem.W.emptyDict) (t':=s.toks) (λb u q=>fX _ q) (d7 _) ⟨_,e1⟩;refine I1.laid (a:=s.heap.objs.size+1) (o:=.ins C s.heap.objs.size []) (t':=s.toks) (λb u q=>fX _ q) (Fx (vh _ _)) ?_;have ne:s.heap.objs.size≠s.heap.objs.size+1:=gM (Bk _);refine⟨by rw[aS ne,aP],dz _,ne,e2,λ_=>none,(Heap.Ns1.of_empty e3).at λo q=>fX _ q,λ_=>True.intro,λy hy=>absurd rfl hy⟩
theorem aM2{Q:aj}(hb:attributeBase e f env (eval e env)=eval e env)(h:wpAny (model prog w) A (eval e env) (λo au=>wpAny (model prog w) A (getAttr o f true) Q E au) E s):wpAny (model prog w) A (eval (.Attribute e f pos) env) Q E s:=
 Attribute_any_ h (by rw[arm_eval_Attribute,hb])
end
def NR(K:W.Frag)(ta:TE)(f:Str):TE:=λσ H Q=>ta σ H λx H1=>∃a C dx fs v,x=.ref a/\H1 a=some (.ins C dx fs)/\me K C/\fE K C f/\fs.lookup f=some v/\Q v H1
def NQ(K:W.Frag)(ta tv:TE)(f:Str):TS:=λD σ H=>tv σ H λy H1=>ta σ H1 λx H2=>∃a C dx fs,x=.ref a/\H2 a=some (.ins C dx fs)/\me K C/\fE K C f/\fs.length < 1000/\
 D.nx σ (upd H2 a (.ins C dx (rY f y fs)))
section
variable{X:Cx}{o e value:Expr}{f:Str}{pos pos' Cz:Pos}{ta tv:TE}
theorem aPm(he:PE X e ta)(hb:attributeBase e f X.env (eval e X.env)=eval e X.env):PE X (.Attribute e f pos) (NR X.K ta f):=by
 intro pins s σ H Q I h;refine aM2 hb (dP (he pins s σ H _ I h) λu s1 zq=>?_);obtain⟨x,H1,I1,rx,a,C,dx,fs,v,ex,ea,c,n,l,q⟩:=zq;subst ex;obtain rfl:u=Value.ref a:=rx;exact aHp I1 ea c n l λu' s2 I2 ru=>⟨v,H1,I2,ru,q⟩
theorem aPn(ha:PE X o ta)(hv:PE X value tv)(hs:swapsWith value (some (.Attribute o f pos')) pos.line X.env=pure false):PS X (.Assign [.Attribute o f pos'] value pos) (NQ X.K ta tv f):=by
 intro pins s σ H D I h;refine plainObj_wpAny_Assign_Attribute (dP (hv pins s σ H _ I h) λu s1 ⟨y,H1,I1,ry,q⟩=>dP (ha pins s1 σ H1 _ I1 q) λov s2 zq=>?_) hs;obtain⟨x,H2,I2,rx,a,C,dx,fs,ex,ea,c,n,l,q2⟩:=zq;subst ex;obtain rfl:ov=Value.ref a:=rx;exact aHr I2 ea c n l ry λs3 I3=>⟨σ,_,I3,q2⟩
end
section
variable{X:Cx}{pins:ao}{σ:St}{H:Hp}{s:Shared}{A:Around}{E:aj}{Q:aj}{c:Value}{b:Bool}
inductive vE (K:W.Frag) (H:Hp):V->Value->Prop where
 |ba:vE K H .ba (.type "NoneType")
 |bl (x:Bool):vE K H (.bl x) (.type "bool")
 |int (i:Int):vE K H (.int i) (.type "int")
 |str (x:Str):vE K H (.str x) (.type "str")
 |jy (x:UInt64):vE K H (.jy x) (.type "float")
 |lst {a:Addr} {xs:List V} (e:H a=some (.lst xs)):vE K H (.ref a) (.type "list")
 |bu {a:Addr} {o:Obj} {xs:List V} (e:H a=some (.bu o (.lst xs))):vE K H (.ref a) (.type "list")
 |tup {a:Addr} {xs:List V} (e:H a=some (.tup xs)):vE K H (.ref a) (.type "tuple")
 |dK {a:Addr} {kvs:List (Key×V)} (e:H a=some (.dK kvs)):vE K H (.ref a) (.type "dict")
 |dT {a:Addr} {kvs:List (List Key×V)} (e:H a=some (.dT kvs)):vE K H (.ref a) (.type "dict")
 |ins {a C dx:Addr} {fs:List (Str×V)} (e:H a=some (.ins C dx fs)) (cl:me K C) (ha:PySem.W.findIn K (.ref C) "__class__" = some (some (.builtin "object.__class__")))
   (hn:PySem.W.specialIn K (.builtin "object.__class__") "__get__" = some (some (.builtin "getset_descriptor.__get__"))) (HM:PySem.W.takesIn K (.builtin "object.__class__")=some true)
   (hm:PySem.W.mroIn K C (.type "object")=some true):vE K H (.ref a) (.ref C)
theorem aEF(I:Inv X pins σ H s)(rx:RelV x u)(ty:vE X.K H x t)(e:PySem.W.kitOne X.K t c=some b)(h:∀tk,Q (.bool b) { s with toks:=tk }) :
  wpAny (model X.prog X.w) A (call (.builtin "isinstance") [u,c]) Q E s:=by
 cases ty with
 |ba=>cases (show u=Value.none from rx);exact PySem.W.kia_one PySem.W.kitx_none I.uP True.intro e (λz=>nomatch z) h
 |bl y=>cases (show u=Value.bool y from rx);exact PySem.W.kia_one PySem.W.kitx_bool I.uP True.intro e (λz=>nomatch z) h
 |int i=>obtain⟨t,q⟩:=(show ∃t,u=Value.int i t from rx);cases q;exact PySem.W.kia_one PySem.W.kitx_int I.uP True.intro e (λz=>nomatch z) h
 |str y=>obtain⟨t,q⟩:=(show ∃t,u=Value.str y t from rx);cases q;exact PySem.W.kia_one PySem.W.kitx_str I.uP True.intro e (λz=>nomatch z) h
 |jy y=>obtain⟨t,q⟩:=(show ∃t,u=Value.float y t from rx);cases q;exact PySem.W.kia_one PySem.W.kitx_float I.uP True.intro e (λz=>nomatch z) h
 |@lst a xs ea=>
  cases (show u=Value.ref a from rx);obtain⟨_,_,n,_,h1⟩:=(show bO X.prog X.w H s.heap a (.lst xs) from I.av a _ ea)
  exact PySem.W.kia_one PySem.W.kitx_list I.uP ⟨_,h1,rfl⟩ e (λz=>nomatch z) h
 |@bu a ob xs ea=>
  cases (show u=Value.ref a from rx);obtain⟨_,_,_,n,_,h1⟩:=(show bO X.prog X.w H s.heap a (.bu ob (.lst xs)) from I.av a _ ea)
  exact PySem.W.kia_one PySem.W.kitx_list I.uP ⟨_,h1,rfl⟩ e (λz=>nomatch z) h
 |@tup a xs ea=>
  cases (show u=Value.ref a from rx);obtain⟨_,_,_,p⟩:=(show bO X.prog X.w H s.heap a (.tup xs) from I.av a _ ea)
  obtain⟨o,h1,h2,_⟩:=p;exact PySem.W.kia_one PySem.W.kitx_tuple I.uP ⟨o,h1,h2⟩ e (λz=>nomatch z) h
 |@dK a kvs ea=>
  cases (show u=Value.ref a from rx);obtain⟨_,_,vs,_,p⟩:=(show bO X.prog X.w H s.heap a (.dK kvs) from I.av a _ ea)
  obtain⟨o,es,ep,h1,h2,_⟩:=p;exact PySem.W.kia_one PySem.W.kitx_dict I.uP ⟨o,h1,h2.1⟩ e (λz=>nomatch z) h
 |@dT a kvs ea=>
  cases (show u=Value.ref a from rx);obtain⟨_,_,xs,_,o,es,ep,h1,h2,_⟩:=(show bO X.prog X.w H s.heap a (.dT kvs) from I.av a _ ea)
  exact PySem.W.kia_one PySem.W.kitx_dict I.uP ⟨o,h1,h2.1⟩ e (λz=>nomatch z) h
 |@ins a C dx fs ea cl ha hn HM hm=>
  cases (show u=Value.ref a from rx);obtain⟨mA,O,_⟩:=mK I.av ea;obtain⟨od,J,_⟩:=O.look;exact PySem.W.kia_one (PySem.W.kitx_own (cl.get _) cl.hd ha hn HM hm) I.uP J e (λz=>nomatch z) h
end
structure eS(k:Nat)(A:Around):Prop where
 hd:A.handled=none
 dp:A.depth+3*k+5 < recursionLimit
 un:A.units+16*k+200 < cLine
theorem eS.mono{j k:Nat}(r:eS k A)(h:j<=k):eS j A:=⟨r.hd,by have:=r.dp;lia,by have:=r.un;lia⟩
theorem eS.deeper{k:Nat}{A:Around}(r:eS (k+1) A)(env:Env):eS k (A.deeper env):=
 ⟨r.hd,by have:=r.dp;show A.depth+1+3*k+5 < _;lia,by have:=r.un;show A.units+3+16*k+200 < _;lia⟩
theorem aHs{A:Around}:(A.under (.builtin "type.__call__" ⟨.ref C::us,kw⟩)).depth=A.depth+1:=by
 first|rfl|simp[Around.under,Code.weight,Code.isCreation,Code.isGuard,Code.isCaller,Code.frames,Code.isFrame,guardIds]
theorem aHt{A:Around}:(A.under (.builtin "type.__call__" ⟨.ref C::us,kw⟩)).units=A.units+1:=by
 first|rfl|simp[Around.under,Code.cUnits,Code.frames,Code.isFrame]
theorem eS.make{k:Nat}{A:Around}(r:eS (k+1) A)(C:Addr)(us:af)(kw:List (Str×Value)):eS k (A.under (.builtin "type.__call__" ⟨.ref C::us,kw⟩)):=
 ⟨r.hd,by have:=r.dp;rw[aHs];lia,by have:=r.un;rw[aHt];lia⟩
theorem eS.depth{k:Nat}{A:Around}(r:eS k A):A.depth < recursionLimit:=by have:=r.dp;lia
theorem eS.units{k:Nat}{A:Around}(r:eS k A):A.units+64 < cLine:=by have:=r.un;lia
def rZ:TA:=λ_ H Q=>Q [] H
def cD(ta:TE)(tr:TA):TA:=λσ H Q=>ta σ H λx H1=>tr σ H1 λxs H2=>Q (x::xs) H2
section
variable{X:Cx}{e:Expr}{es:List Expr}{te:TE}{t:TA}{pos:Pos}
theorem vF:PA X [] rZ:=λ_ _ _ _ H Q I h=>Calls.spliced_nil ⟨[],H,I,.nil,h⟩
theorem aM3(ha:PE X e te)(hr:PA X es t)(hs:starEach (e::es) X.env=(false,eval e X.env)::starEach es X.env:=by rfl):PA X (e::es) (cD te t):=by
 intro pos pins s σ H Q I h;rw[hs];show wpAny _ _ (spliced ((false,eval e X.env)::backTo pos (starEach es X.env))) _ _ s;refine Calls.spliced_cons (dP (ha pins s σ H _ I h) λu s1 zq=>?_);obtain⟨x,H1,I1,r1,q1⟩:=zq;exact dP (hr pos pins s1 σ H1 _ I1 q1) λus s2 ⟨xs,H2,I2,r2,q2⟩=>⟨x::xs,H2,I2,.cons r1 r2,q2⟩
def Dv(t:TA):TE:=λσ H Q=>t σ H λxs H1=>xs.length<=sizeLine/\∀p,H1 p=none->Q (.ref p) (upd H1 p (.tup xs))
def tu(t:TA):TE:=λσ H Q=>t σ H λxs H1=>xs.length<=sizeLine/\∀p,H1 p=none->Q (.ref p) (upd H1 p (.lst xs))
theorem aKB{x1}(h:PA X es t):PE X (.Tuple es x1 pos) (Dv t):=by
 intro pins s σ H Q I hq;refine wpAny_Tuple_spliced (dP (h pos pins s σ H _ I hq) λus s1 zq=>?_);obtain⟨xs,H1,I1,r,z,q⟩:=zq;refine⟨by rw[<-r.length];exact z,?_⟩;have hf:H1 s1.heap.objs.size=none:=I1.av.fresh (d7 _);refine⟨.ref s1.heap.objs.size,upd H1 s1.heap.objs.size (.tup xs),I1.laid (t':=s1.toks) (λb u e=>fX _ e) (d7 _) ?_,rfl,q _ hf⟩;exact⟨z,us,r,⟨_,mJ _ rfl,rfl,_,rfl⟩⟩
theorem DJ(h:PA X es t):PE X (.List es pos) (tu t):=by
 intro pins s σ H Q I hq;refine wpAny_List_spliced (dP (h pos pins s σ H _ I hq) λus s1 zq=>?_);obtain⟨xs,H1,I1,r,z,q⟩:=zq;refine⟨by rw[<-r.length];exact z,?_⟩;have hf:H1 s1.heap.objs.size=none:=I1.av.fresh (d7 _);refine⟨.ref s1.heap.objs.size,upd H1 s1.heap.objs.size (.lst xs),I1.laid (t':=s1.toks) (λb u e=>fX _ e) (d7 _) ?_,rfl,q _ hf⟩;exact⟨z,us,0,r,mJ _ rfl⟩
end
abbrev Sp:=List V->Hp->VK->XK->Prop
abbrev rj:=List Env->Hp->Shared->XK->aj
structure ze(P:Program)(w:World)(K:W.Frag)(mg:Str->aq)(base:Heap)(A:Around)(outer:List Env)(s:Shared)(H:Hp):Prop where
 frames:A.frames=some outer
 mod:Mod K mg base
 bs:∀b o,base.get? b=some o->s.heap.get? b=some o/\H b=none
 vb:base.objs.size<=s.heap.objs.size
 yS:s.heap.FunFrames base outer
 zb:∀b∈jn outer,H b=none
 av:uO P w H s.heap
 bare:AllBare s.gens
def CE(outer:List Env)(P:Program)(w:World)(H:Hp)(s:Shared)(Q:VK)(u:Value)(s':Shared):Prop:=
 ∃v H',s'.os=s.os/\AllBare s'.gens/\Un (jn outer) [] H H' s.heap s'.heap/\uO P w H' s'.heap/\RelV v u/\Q v H'
def CR(CX:rj)(outer:List Env)(P:Program)(w:World)(H:Hp)(s:Shared)(Q:VK)(E:XK)(r:Result)(s':Shared):Prop:=
 match r with
 |.ok (.ret u)=>CE outer P w H s Q u s'
 |.ok _=>False
 |.error e=>CX outer H s E e s'
structure cE(P:Program)(w:World)(K:W.Frag)(mg:Str->aq)(base:Heap)(CX:rj)(k:Nat)(f:Addr)(fd:FuncData)(ps:ak)(sp:Sp):Prop where
 len:∀vs H Q E,sp vs H Q E->vs.length=ps.length
 run:∀(A:Around) (outer:List Env) (s:Shared) (H:Hp) (args:Args) (us:af) (vs:List V) (Q:VK) (E:XK),eS k A->ze P w K mg base A outer s H->BindsTo s fd args (ps.zip us)->Vals vs us->sp vs H Q E->
  codeAny (model P w) A (.call (.ref f) args) (CR CX outer P w H s Q E) s
theorem cE.imp{P:Program}{w:World}{K:W.Frag}{mg:Str->aq}{base:Heap}{CX:rj}{k:Nat}{f:Addr}{fd:FuncData}{ps:ak}{sp sp':Sp}(F:cE P w K mg base CX k f fd ps sp)
  (h:∀vs H Q E,sp' vs H Q E->sp vs H Q E):cE P w K mg base CX k f fd ps sp':=
 ⟨λvs H Q E q=>F.len vs H Q E (h _ _ _ _ q),λA outer s H args us vs Q E hr he hb hv hs=>F.run A outer s H args us vs Q E hr he hb hv (h _ _ _ _ hs)⟩
theorem ze.make{P:Program}{w:World}{K:W.Frag}{mg:Str->aq}{base:Heap}{A:Around}{outer:List Env}{s:Shared}{H:Hp}(e:ze P w K mg base A outer s H)(C:Addr)(us:af)(kw:List (Str×Value)) :
  ze P w K mg base (A.under (.builtin "type.__call__" ⟨.ref C::us,kw⟩)) outer s H:=⟨by first|exact e.frames|(simpa [Around.under,Code.envs,Code.isFrame,pushEnvs] using e.frames),e.mod,e.bs,e.vb,e.yS,e.zb,e.av,e.bare⟩
section
variable{X:Cx}{pins:ao}{σ:St}{H:Hp}{s s':Shared}
theorem Inv.E5(I:Inv X pins σ H s):ze X.prog X.w X.K X.mg X.base X.A X.stack s H:=
 ⟨I.ok.frames,I.ok.mod,I.bs,gj I.ok.vb I.sz,I.stack,I.Pk,I.av,I.bare⟩
theorem Inv.after(I:Inv X pins σ H s)(h:CE X.stack X.prog X.w H s Q u s'):EP X pins σ Q u s':=by
 obtain⟨v,H',os,bare,un,av,r,q⟩:=h;obtain⟨hh,g,d,t,os'⟩:=s';obtain rfl:os'=s.os:=os;exact⟨v,H',I.call (h':=hh) (g':=g) (d':=d) (t':=t) (ch:=[]) un av bare (λb z=>absurd z (by simp)),r,q⟩
end
def Dy(sp:Sp)(de:List V)(E:XK)(t:TA):TE:=λσ H Q=>t σ H λvs H1=>sp (vs++de) H1 Q E
def Jf(C:Addr)(m:Str)(sp:Sp)(de:List V)(E:XK)(ta:TE)(t:TA):TE:=λσ H Q=>ta σ H λx H1=>∃a dx fs,x=.ref a/\H1 a=some (.ins C dx fs)/\fs.lookup m=none/\
 t σ H1 λvs H2=>sp (x::(vs++de)) H2 Q E
def E8(C:Addr)(sp:Sp)(de:List V)(E:XK)(t:TA):TE:=λσ H Q=>t σ H λvs H1=>∀x dx,H1 x=none->H1 dx=none->dx≠x->
 sp (.ref x::(vs++de)) (upd (upd H1 dx (.own x)) x (.ins C dx [])) (λv H2=>v=.ba/\Q (.ref x) H2) E
def Binds(K:W.Frag)(fd:FuncData)(ps:ak)(ds:af):Prop:=
 ∀(s:Shared) (us:af),K.In s.heap->(us++ds).length=ps.length->BindsTo s fd ⟨us,[]⟩ (ps.zip (us++ds))
theorem Binds.all{K:W.Frag}{fd:FuncData}{ps:ak}(h:∀us:af,us.length=ps.length->bindArgs fd ⟨us,[]⟩=pure (ps.zip us)):Binds K fd ps []:=λs us _ hl=>by
 rw[oz] at hl ⊢;exact .of_eq (h us hl)
def Passes(CX:rj)(X:Cx)(E:XK):Prop:=∀(pins:ao) (σ:St) (H:Hp) (s:Shared) (e:Value) (s':Shared),Inv X pins σ H s->CX X.stack H s E e s'->X.xe e s'
section
variable{X:Cx}{CX:rj}{k:Nat}{f C:Addr}{fd:FuncData}{ps:ak}{sp:Sp}{de:List V}{ds:af}{E:XK}{x m:Str}{p pos apos:Pos}{e o:Expr}{es:List Expr}{ta:TE}{t:TA}
theorem aKD(F:cE X.prog X.w X.K X.mg X.base CX k f fd ps sp)(hr:eS k X.A)(hb:Binds X.K fd ps ds)(hd:Vals de ds)(hx:Passes CX X E)(I:Inv X pins σ H s)(r:Vals vs us)(h:sp (vs++de) H Q E):wpAny (model X.prog X.w) X.A (call (.ref f) us) (EP X pins σ Q) X.xe s:=by
 have r2:Vals (vs++de) (us++ds):=r.append hd;have hl:(us++ds).length=ps.length:=by rw[<-r2.length];exact F.len _ _ _ _ h
 refine wpAny_call (codeAny_mono (F.run X.A X.stack s H ⟨us,[]⟩ (us++ds) (vs++de) Q E hr I.E5 (hb s us I.uP hl) r2 h) λr s' hq=>?_);cases r with
 |error e=>exact hx pins σ H s e s' I hq
 |ok fl=>
  cases fl with
  |ret u=>exact I.after hq
  |next=>exact False.elim hq
  |brk=>exact False.elim hq
  |cont=>exact False.elim hq
theorem aM4(F:cE X.prog X.w X.K X.mg X.base CX k f fd ps sp)(hr:eS k X.A)(hg:Gl X x)(hm:X.mg x=some (.ref f))(hk:W.keepIn X.K (.ref f)=true)(hb:Binds X.K fd ps ds)(hd:Vals de ds)(hx:Passes CX X E)
  (ha:PA X (e::es) t) (dv:(x == ("__debug__" : Str))=false:=by decide) (he:starEach (e::es) X.env=(false,eval e X.env)::starEach es X.env:=by rfl) (oi:(backTo pos (starEach es X.env)).any (·.1)=false:=by rfl) :
  PE X (.Call (.Name x p) (e::es) [] pos) (Dy sp de E t):=by
 intro pins s σ H Q I h;refine wpAny_Call_Name_kw (JP I hg hm ?_ dv);refine PySem.W.callWith_K (h₀:=X.base) I.ok.mod.BQ hk (dP (ha pos pins s σ H _ I h) λus s1 zq=>?_) he oi;obtain⟨vs,H1,I1,r,q⟩:=zq;refine⟨I1.uP,?_⟩;exact aKD F hr hb hd hx I1 r q
theorem aM5{pl:Sem Bool}(he:PE X o ta)(c:me X.K C)(hm:Meth X.K C m f)(F:cE X.prog X.w X.K X.mg X.base CX k f fd ps sp)(hr:eS k X.A)(hb:Binds X.K fd ps ds)(hd:Vals de ds)(hx:Passes CX X E)(ha:PA X (e::es) t)
  (bq:starEach (e::es) X.env=(false,eval e X.env)::starEach es X.env:=by rfl) (oi:(backTo pos (starEach es X.env)).any (·.1)=false:=by rfl)
  (ht:eval (.Call (.Attribute o m apos) (e::es) [] pos) X.env=(do
   let ov <-eval o X.env
   standAt apos.atName
   let (f,first) <-holding [ov] (getMethod ov m pl)
   callWith pos f first (backTo pos (starEach (e::es) X.env)) (backToKw pos (keywordEach [] X.env))):=by rfl) :
  PE X (.Call (.Attribute o m apos) (e::es) [] pos) (Jf C m sp de E ta t):=by
 intro pins s σ H Q I h;refine PySem.W.methodCall_KW (pl:=pl) (dP (he pins s σ H _ I h) λu s1 zq=>?_) ht;obtain⟨x,H1,I1,rx,a,dx,fs,ex,ea,l,q⟩:=zq;subst ex;obtain rfl:u=Value.ref a:=rx;refine aHq I1 ea c hm l ?_;refine PySem.W.callWith_K (first:=[.ref a]) (h₀:=X.base) I.ok.mod.BQ hm.kp (dP (ha pos pins s1 σ H1 _ I1 q) λus s2 zq=>?_) bq oi;obtain⟨vs,H2,I2,r,q2⟩:=zq;refine⟨I2.uP,?_⟩;exact aKD (us:=.ref a::us) (vs:=.ref a::vs) F hr hb hd hx I2 (.cons rfl r) q2
structure Mk(K:W.Frag)(C f:Addr):Prop where
 makes:PySem.W.makesIn K C=true
 init:PySem.W.findIn K (.ref C) "__init__" = some (some (.ref f))
 fn:PySem.W.isFn K (.ref f)=true
 kp:W.keepIn K (.ref C)=true
theorem aKE{H:Hp}{Q:VK}(M:Mk X.K C f)(F:cE X.prog X.w X.K X.mg X.base CX k f fd ps sp)(hr:eS (k+1) X.A)(hb:Binds X.K fd ps ds)(hd:Vals de ds)(hx:Passes CX X E)(I:Inv X pins σ H s)(r:Vals vs us)(h:∀x dx,H x=none->H dx=none->dx≠x->sp (.ref x::(vs++de)) (upd (upd H dx (.own x)) x (.ins C dx [])) (λv H2=>v=.ba/\Q (.ref x) H2) E) :
  wpAny (model X.prog X.w) X.A (call (.ref C) us) (EP X pins σ Q) X.xe s:=by
 have hq:=h (s.heap.objs.size+1) s.heap.objs.size (I.av.fresh (Nat.le_succ _)) (I.av.fresh (d7 _)) (gM (Bk _));have I2:=Inv.made (C:=C) I;have r2:Vals (V.ref (s.heap.objs.size+1)::(vs++de)) (Value.ref (s.heap.objs.size+1)::(us++ds)):=.cons rfl (r.append hd);have hl:(Value.ref (s.heap.objs.size+1)::us++ds).length=ps.length:=by
  have e:=r2.length;rw[F.len _ _ _ _ hq] at e;exact e.symm
 refine wpAny_call (aKA (f:=f) I.uP M.makes M.init (beq_iff_eq.mp M.fn) (codeAny_mono (F.run _ X.stack _ _ ⟨Value.ref (s.heap.objs.size+1)::us,[]⟩ (Value.ref (s.heap.objs.size+1)::(us++ds)) _ _ E (hr.make C us [])
  (I2.E5.make C us []) (hb _ (Value.ref (s.heap.objs.size+1)::us) I2.uP hl) r2 hq) λr s' BS=>?_))
 cases r with
 |error e=>exact hx pins σ _ _ e s' I2 BS
 |ok fl=>
  cases fl with
  |ret u=>
   obtain⟨v,H',I3,rv,ev,q3⟩:=I2.after BS;subst ev;exact⟨rv,⟨V.ref (s.heap.objs.size+1),H',I3,rfl,q3⟩⟩
  |next=>exact False.elim BS
  |brk=>exact False.elim BS
  |cont=>exact False.elim BS
theorem aM6(M:Mk X.K C f)(F:cE X.prog X.w X.K X.mg X.base CX k f fd ps sp)(hr:eS (k+1) X.A)(hg:Gl X x)(hm:X.mg x=some (.ref C))(hb:Binds X.K fd ps ds)(hd:Vals de ds)(hx:Passes CX X E)
  (ha:PA X (e::es) t) (dv:(x == ("__debug__" : Str))=false:=by decide) (he:starEach (e::es) X.env=(false,eval e X.env)::starEach es X.env:=by rfl) (oi:(backTo pos (starEach es X.env)).any (·.1)=false:=by rfl) :
  PE X (.Call (.Name x p) (e::es) [] pos) (E8 C sp de E t):=by
 intro pins s σ H Q I h;refine wpAny_Call_Name_kw (JP I hg hm ?_ dv);refine PySem.W.callWith_K (h₀:=X.base) I.ok.mod.BQ M.kp (dP (ha pos pins s σ H _ I h) λus s1 zq=>?_) he oi;obtain⟨vs,H1,I1,r,q⟩:=zq;refine⟨I1.uP,?_⟩;exact aKE M F hr hb hd hx I1 r q
end
def PK(X:Cx)(kws:List Keyword)(t:TA):Prop:=
 ∀(pos:Pos) (pins:ao) (s:Shared) (σ:St) (H:Hp) (Q:List V->Hp->Prop),Inv X pins σ H s->t σ H Q->wpAny (model X.prog X.w) X.A (evalAll ((backToKw pos (keywordEach kws X.env)).map (·.2))) (AP X pins σ Q) X.xe s
structure bC(N P:ak)(sc:Scope):Prop where
 kind:sc.kind=.function:=by exact rfl
 co:sc.isCoroutine=false:=by exact rfl
 gen:sc.isGenerator=false:=by exact rfl
 nd:N.Nodup:=by decide +kernel
 pre:N.take P.length=P:=by exact rfl
 par:∀x∈P,sc.names.lookup x=some .local\/sc.names.lookup x=some .cell:=by decide +kernel
 CV:∀y∈sc.names,y.2≠.free:=by decide +kernel
theorem aEG{kindOf:Str->Option NameKind}:∀{binds:List (Str×Value)}{m:Str->aq},(∀v,(x,v)∉binds)->bindL kindOf binds m x=m x
 |[],_,_=>rfl
 |(n,v)::r,m,h=>by
  unfold bindL;rw[aEG λw hw=>h w (fh _ hw)];split
  ·have:x≠n:=by rintro rfl;exact h v jc
   simp[this]
  ·rfl
theorem aEH{kindOf:Str->Option NameKind}:∀{binds:List (Str×Value)}{m:Str->aq},(∀v,(x,v)∉binds)->bindC kindOf binds m x=m x
 |[],_,_=>rfl
 |(n,v)::r,m,h=>by
  unfold bindC;rw[aEH λw hw=>h w (fh _ hw)];split
  ·rfl
  ·have:x≠n:=by rintro rfl;exact h v jc
   simp[this]
theorem aEI{kindOf:Str->Option NameKind}:∀{P:ak}{vs:af}{i:Nat}{m:Str->aq},P.Nodup->P[i]?=some x->vs[i]?=some v->kindOf x=some .local->
  bindL kindOf (P.zip vs) m x=some v
 |[],_,_,_,_,h,_,_=>by simp at h
 |_::_,[],_,_,_,_,h,_=>by simp at h
 |p::P,w::vs,0,m,nd,h1,h2,hk=>by
  simp at h1 h2;subst h1;subst h2;show bindL kindOf ((p,w)::P.zip vs) m p=_;unfold bindL;rw[aEG λv hv=>(ni.mp nd).1 (Fy hv).1,cJ hk];simp
 |p::P,w::vs,i+1,m,nd,h1,h2,hk=>by
  show bindL kindOf ((p,w)::P.zip vs) m x=_;unfold bindL;exact aEI (i:=i) (ni.mp nd).2 (by simpa using h1) (by simpa using h2) hk
theorem aEJ{kindOf:Str->Option NameKind}:∀{P:ak}{vs:af}{i:Nat}{m:Str->aq},P.Nodup->P[i]?=some x->vs[i]?=some v->kindOf x≠some .local->
  bindC kindOf (P.zip vs) m x=some v
 |[],_,_,_,_,h,_,_=>by simp at h
 |_::_,[],_,_,_,_,h,_=>by simp at h
 |p::P,w::vs,0,m,nd,h1,h2,hk=>by
  simp at h1 h2;subst h1;subst h2;show bindC kindOf ((p,w)::P.zip vs) m p=_;unfold bindC;rw[aEH λv hv=>(ni.mp nd).1 (Fy hv).1,bV hk];simp
 |p::P,w::vs,i+1,m,nd,h1,h2,hk=>by
  show bindC kindOf ((p,w)::P.zip vs) m x=_;unfold bindC;exact aEJ (i:=i) (ni.mp nd).2 (by simpa using h1) (by simpa using h2) hk
def start(N:ak)(vs:List V):St:=vs.map some++List.replicate (N.length - vs.length) none
def B9(CX:rj)(P:Program)(w:World)(K:W.Frag)(mg:Str->aq)(base:Heap)(N:ak)(qual:Str)(scope:Scope)(f:Addr)(cd:Value)(A:Around)(outer:List Env)(s:Shared)(H:Hp)(E:XK):Cx where
 prog:=P
 w:=w
 K:=K
 mg:=mg
 base:=base
 A:=A.deeper (envOfC qual scope s.heap.objs.size f cd)
 N:=N
 s₀:=s
 qd:=H
 env:=envOfC qual scope s.heap.objs.size f cd
 outer:=outer
 stack:=envOfC qual scope s.heap.objs.size f cd::outer
 ex:=[]
 calm:=true
 fn:=λ_=>true
 pn:=[]
 xe:=λe s'=>wpAny (model P w) (A.deeper (envOfC qual scope s.heap.objs.size f cd)) (leaving (envOfC qual scope s.heap.objs.size f cd) e) (λ_ K0=>CX outer H s E e K0) (λe' K0=>CX outer H s E e' K0) s'
theorem aGk{sc:Scope}{n:Nat}(h:sc.names.lookup x=some .cell):∃c,(cellsFrom n sc.names []).lookup x=some c:=by
 have q:=PySem.W.cellsFrom_some sc.names n [] (.inl h);exact Option.isSome_iff_exists.mp q
theorem aJy{CX:rj}{P:Program}{w:World}{K:W.Frag}{mg:Str->aq}{base:Heap}{N ps:ak}{qual:Str}{scope:Scope}{f:Addr}{cd:Value}{A:Around}{outer:List Env}{s s1:Shared}{H:Hp}{E:XK}{us:af}{vs:List V}
  (S:bC N ps scope) (hd:A.handled=none) (e0:ze P w K mg base A outer s H) (hl:vs.length=ps.length) (r:Vals vs us)
  (x:InCallC s s.heap.objs.size (bindL (envOfC qual scope s.heap.objs.size f cd).kindOf (ps.zip us) λ_=>none) (cellsFrom (s.heap.objs.size+1) scope.names []) (bindC (envOfC qual scope s.heap.objs.size f cd).kindOf (ps.zip us) λ_=>none) s1) :
  Inv (B9 CX P w K mg base N qual scope f cd A outer s H E) [] (start N vs) H s1:=by
 have oi:ps.length<=N.length:=by have:=congrArg List.length S.pre;rw[xT] at this;lia
 obtain⟨h1,tk,rfl,hk⟩:=x.done;have vt:∀b:Addr,b∉(B9 CX P w K mg base N qual scope f cd A outer s H E).ex:=λb z=>absurd (show b∈([]:ah) from z) (by simp);refine⟨⟨e0.mod,S.kind,rfl,rfl,d7 _,λy z c h1 h2=>?_,λy hy=>?_,λy c _ h=>?_,λ_=>hd,Around.frames_deeper e0.frames,.inr ⟨rfl,rfl⟩,λb z=>absurd z (vt b),e0.bs,e0.vb,λb _ _=>vt b,λb z=>absurd z (vt b),e0.yS,e0.zb⟩,
  rfl,e0.bare,Un.kept hk,⟨_,x.toInCall.ns,λi y v h1 h2 h3=>?_⟩,λy c h=>⟨_,x.cell y c h⟩,e0.av.fresh (d7 _),λy c h=>?_,λp hp=>absurd (show p∈([]:ao) from hp) (by simp),e0.av.kept hk,?_⟩
 ·exact name_of_addr x.apart (PySem.mem_of_lookup h1) (PySem.mem_of_lookup h2)
 ·have hy:scope.names.lookup y=some .cell\/scope.names.lookup y=some .free:=hy;rcases hy with hy|hy
  ·exact aGk hy
  ·exact absurd rfl (S.CV _ (PySem.mem_of_lookup hy))
 ·exact zg (x.above y c (PySem.mem_of_lookup h))
 ·have hi:i < vs.length:=by
   unfold start at h2;by_cases hi:i < vs.length
   ·exact hi
   ·rw[nu (by simpa using hi)] at h2;rw[Qu] at h2;split at h2 <;> cases h2
  have ha:vs[i]?=some v:=by
   unfold start at h2;rw[kr (by simpa using hi),hE] at h2;cases e:vs[i]? with
   |none=>rw[e] at h2;cases h2
   |some a=>rw[e] at h2;cases h2;rfl
  obtain⟨u,hu,rv⟩:=r.get ha;have hp:ps[i]?=some y:=by
   rw[<-S.pre,Qv (by lia)];exact h1
  have HA:ps.Nodup:=by rw[<-S.pre];exact S.nd.sublist (List.take_sublist _ _)
  refine⟨u,rv,?_⟩;rcases S.par y (iI hp) with k|k
  ·exact .inl ⟨k,aEI HA hp hu k⟩
  ·obtain⟨c,e⟩:=aGk (n:=s.heap.objs.size+1) k;refine .inr ⟨.inl k,c,e,?_⟩;have q:=x.cell y c e;rw[aEJ HA hp hu (by show scope.names.lookup y≠_;rw[k];decide)] at q;exact q
 ·exact e0.av.fresh (zg (x.above y c (PySem.mem_of_lookup h)))
 ·unfold start;show _=N.length;rw[uN,bK,List.length_replicate];lia
theorem aOs{CX:rj}{P:Program}{w:World}{K:W.Frag}{mg:Str->aq}{base:Heap}{k:Nat}{f:Addr}{name qual:Str}{params:Arguments}{body:List Stmt}{scope:Scope}{dV kV doc pm bh ct oc:Value}{an od:Option Addr}
  {nz:Array (aq)} {N ps:ak} {sp:Sp} (lk:K.lookup f=some ⟨oc,od,.func (W.fnOf name qual params body scope dV kV doc pm an bh ct),nz⟩) (ft:W.codeIn K bh qual=true) (S:bC N ps scope)
  (len:∀vs H Q E,sp vs H Q E->vs.length=ps.length)
  (cw:∀(A:Around) (outer:List Env) (s:Shared) (H:Hp) (vs:List V) (Q:VK) (E:XK),eS k (A.deeper (envOfC qual scope s.heap.objs.size f bh))->sp vs H Q E->
   ∃t,ph (B9 CX P w K mg base N qual scope f bh A outer s H E) body t/\t { nx:=λ_ H'=>Q .ba H',rt:=Q } (start N vs) H) :
  cE P w K mg base CX (k+1) f (W.fnOf name qual params body scope dV kV doc pm an bh ct) ps sp:=by
 refine⟨len,λA outer s H args us vs Q E hr e0 hb r gh=>?_⟩;have hl:=len _ _ _ _ gh;have KX:K.In s.heap:=e0.mod.BQ.keeps λb o e=>(e0.bs b o e).1;have lim:s.heap.NoLimit:=e0.mod.nolimit.keeps λb o e=>(e0.bs b o e).1;have rn:∀y∈ps.zip us,scope.names.lookup y.1=some .local\/(scope.names.lookup y.1=some .cell/\((cellsFrom (s.heap.objs.size+1) scope.names []).lookup y.1).isSome=true):=λ⟨n,v⟩ hy=>by
  rcases S.par n (Fy hy).1 with q|q
  ·exact .inl q
  ·exact .inr ⟨q,PySem.W.cellsFrom_some _ _ _ (.inl q)⟩
 refine codeAny_call_function hr.depth (KX _ _ lk) rfl S.co S.gen rfl (PySem.W.codeRec_of KX ft) (hb _ _ _ _ ?_)
 refine wpAny_newFunctionEnv_cells S.kind rn λenv he s1 x=>?_;subst he;refine⟨lim.keeps x.toInCall.keep,codeAny_func ?_⟩;obtain⟨t,ht,hq⟩:=cw A outer s H vs Q E (hr.deeper _) gh;have I:Inv (B9 CX P w K mg base N qual scope f bh A outer s H E) [] (start N vs) H s1:=aJy S hr.hd e0 hl r x;refine kb (ht [] s1 (start N vs) H _ I hq) (λfl s' hs=>?_) λe s' hs=>hs;have fin:∀{σ':St} {H':Hp} {v:V} {u:Value},Inv (B9 CX P w K mg base N qual scope f bh A outer s H E) [] σ' H' s'->RelV v u->Q v H'->CE outer P w H s Q u s':=
  λ{σ' H' v u} J rv q=>⟨v,H',J.os,J.bare,J.base,J.av,rv,q⟩
 cases fl with
 |ret u=>
  obtain⟨v,σ',H',J,rv,q⟩:=hs;exact fin J rv q
 |next=>
  obtain⟨σ',H',J,q⟩:=hs;exact fin (v:=V.ba) (u:=Value.none) J rfl q
 |brk=>
  obtain⟨_,_,_,q⟩:=hs;exact False.elim q
 |cont=>
  obtain⟨_,_,_,q⟩:=hs;exact False.elim q
section
variable{X:Cx}{x:Str}{p pos:Pos}{e:Expr}{es:List Expr}{t:TA}{id T:String}{r:List V->Hp->VK->Prop}
def BF(r:List V->Hp->VK->Prop)(t:TA):TE:=λσ H Q=>t σ H λvs H1=>r vs H1 Q
theorem aKF(hc:eC X (.builtin id) r)(hg:Gl X x)(hm:X.mg x=none)(hv:bootBuiltins x=some (.builtin id))(ha:PA X (e::es) t)(hn:x≠"__name__":=by decide)(dv:(x == ("__debug__" : Str))=false:=by decide)
  (he:starEach (e::es) X.env=(false,eval e X.env)::starEach es X.env:=by rfl) (oi:(backTo pos (starEach es X.env)).any (·.1)=false:=by rfl):PE X (.Call (.Name x p) (e::es) [] pos) (BF r t):=by
 intro pins s σ H Q I h;refine wpAny_Call_Name_kw (rW I hg hm hv ?_ hn dv);exact PyProof.Rows.callWith_builtin1 (dP (ha pos pins s σ H _ I h) λus s1 ⟨vs,H1,I1,r1,q1⟩=>hc pins s1 σ H1 vs us Q I1 r1 q1) he oi
theorem aJz(hc:eC X (.type T) r)(hg:Gl X x)(hm:X.mg x=none)(hv:bootBuiltins x=some (.type T))(ha:PA X (e::es) t)(hn:x≠"__name__":=by decide)(dv:(x == ("__debug__" : Str))=false:=by decide)
  (he:starEach (e::es) X.env=(false,eval e X.env)::starEach es X.env:=by rfl) (oi:(backTo pos (starEach es X.env)).any (·.1)=false:=by rfl):PE X (.Call (.Name x p) (e::es) [] pos) (BF r t):=by
 intro pins s σ H Q I h;refine wpAny_Call_Name_kw (rW I hg hm hv ?_ hn dv);exact PyProof.Rows.callWith_type1 (dP (ha pos pins s σ H _ I h) λus s1 ⟨vs,H1,I1,r1,q1⟩=>hc pins s1 σ H1 vs us Q I1 r1 q1) he oi
end
end L2
namespace HT
open PySem PyProof.Rows
def lexLt:aa->aa->Bool
 |[],[]=>false
 |[],_::_=>true
 |_::_,[]=>false
 |x::xs,y::ys=>if x=y then lexLt xs ys else decide (x < y)
theorem aCU(x y:Int)(xs ys:aa):lexLt (x::xs) (y::ys)=if x=y then lexLt xs ys else decide (x < y):=rfl
theorem aD2:lexLt [] []=false:=rfl
theorem aCV(y:Int)(ys:aa):lexLt [] (y::ys)=true:=rfl
theorem aCW(x:Int)(xs:aa):lexLt (x::xs) []=false:=rfl
theorem aKG(A:Around)(s:Shared)(a:Int)(t:Tok)(c:Int)(u:Tok):∃e,SeqAt.EqAt A s (.int a t) (.int c u) e/\(e=true↔a=c):=
 ⟨(a == c),SeqAt.EqAt.int_int a t c u,by simp⟩
theorem aKH(A:Around)(s:Shared)(a:Int)(t:Tok)(c:Int)(u:Tok)(prog:Program)(w:World)(E:aj)(Q:aj)(h:Q (.bool (decide (a < c))) s) :
  wpAny (model prog w) A (richCompare .Lt (.int a t) (.int c u)) Q E s:=
 (PyProof.Rows.lt_int h:wpAny (model prog w) A (compareOp .Lt (.int a t) (.int c u)) Q E s)
section
open PySem.SeqAt
open PySem.AutoSeq1 (wpAny_loadPart')
open PySem.MeetsSeq PySem.MeetsSeq2 PySem.MeetsSeq3
theorem aD3(l b:Addr)(items ck:Array Value)(n n2:Nat)(dd EV:Option Addr)(sl D6:Array (aq))(ns ms:aa)(hi:IntsAre items.toList ns)(hj:IntsAre ck.toList ms) :
  Meets (Builtin.«tuple.__lt__» ⟨[.ref l,.ref b],[]⟩)
   (λ_ R s=>s.heap.get? l=some { cls:=.type "tuple",dict:=dd,data:=.seq items n,slots:=sl }/\s.heap.get? b=some { cls:=.type "tuple",dict:=EV,data:=.seq ck n2,slots:=D6 }/\
    R (.ok (.ret (.bool (lexLt ns ms)))) s):=
 .of_wp λprog w A R s h=>by
  obtain⟨hp,g,d,tk,os⟩:=s;obtain⟨hl,hb,h⟩:=h;have f2:=AutoSeq1.sub_tuple_tuple;have z1:items.size=ns.length:=by rw[<-hi.length];simp
  have z2:ck.size=ms.length:=by rw[<-hj.length];simp
  wp_walk using wpAny_loadPart' hl,wpAny_loadPart' hb,wpAny_forIn_list _ (λrest b s'=>b.1=none/\s'=⟨hp,g,d,tk,os⟩/\∃(vs ws:af) (C8 mr:aa),rest=vs.zip ws/\
   IntsAre vs C8/\IntsAre ws mr/\C8.length+ck.size=mr.length+items.size/\R (.ok (.ret (.bool (lexLt C8 mr)))) ⟨hp,g,d,tk,os⟩) _
  case turn=>
   rintro ⟨y,x⟩ rest b s' ⟨jx,rfl,vs,ws,C8,mr,hz,LJ,HK,hlen,hR⟩;cases LJ with
   |nil=>rw[List.zip_nil_left] at hz;cases hz
   |cons a t WV=>
    cases HK with
    |nil=>rw[List.zip_nil_right] at hz;cases hz
    |cons c u WU=>
     rw[List.zip_cons_cons] at hz;injection hz with hyx GV
     injection hyx with hy hx
     subst hy hx;rw[aCU] at hR;simp only[yW] at hlen;obtain⟨e,he,Gr⟩:=aKG A.in1 ⟨hp,g,d,tk,os⟩ a t c u;refine aR (he prog w _ _ ?_);cases e with
     |true=>
      rw[cJ (Gr.mp rfl)] at hR
      wp_walk
      exact⟨rfl,rfl,_,_,_,_,GV,WV,WU,by lia,hR⟩
     |false=>
      rw[bV (λq=>absurd (Gr.mpr q) fo)] at hR;have hri:=aKH A.in1 ⟨hp,g,d,tk,os⟩ a t c u prog w
      wp_walk using hri
      exact⟨_,rfl,by simpa using hR⟩
  case fin=>
   rintro ⟨b1,b2⟩ s' ⟨jx,rfl,vs,ws,C8,mr,hz,LJ,HK,hlen,hR⟩;simp only at jx;subst jx;have hv:lexLt C8 mr=decide (items.size < ck.size):=by
    cases LJ with
    |nil=>
     cases HK with
     |nil=>
      simp only[Cn] at hlen;rw[aD2];exact(ia (by lia)).symm
     |cons c u hw=>
      simp only[Cn,yW] at hlen;rw[aCV];exact(zV (by lia)).symm
    |cons a t hv=>
     cases HK with
     |nil=>
      simp only[Cn,yW] at hlen;rw[aCW];exact(ia (by lia)).symm
     |cons c u hw=>
      rw[List.zip_cons_cons] at hz;cases hz
   rw[hv] at hR
   wp_walk
   exact⟨_,rfl,by simpa [Builtin.Tuple.tupleCompareSizes] using hR⟩
  case h=>
   exact⟨rfl,rfl,items.toList,ck.toList,ns,ms,rfl,hi,hj,by lia,h⟩
end
section
variable{prog:Program}{w:World}{A:Around}{E:aj}{s:Shared}
theorem aHv{items ck:Array Value}{ns ms:aa}{Q:aj}(hl:IsTup s.heap l items)(hb:IsTup s.heap b ck)(hi:IntsAre items.toList ns)(hj:IntsAre ck.toList ms)(hu:A.units < cLine)(h:Q (.bool (lexLt ns ms)) s):wpAny (model prog w) A (compareOp .Lt (.ref l) (.ref b)) Q E s:=by
 obtain⟨⟨cls,dd,data,sl⟩,ho,hc,n,hd⟩:=id hl;obtain⟨⟨a0x,EV,data2,D6⟩,ho2,wg,n2,hd2⟩:=id hb;simp only at hc hd wg hd2;subst hc hd wg hd2;exact richCompare_meets_room (op:=.Lt) ⟨_,ho,rfl⟩ ⟨_,ho2,rfl⟩ PySem.F.slot_tuple_lt PySem.F.entry_tuple_lt (PySem.F.args_tuple_lt_2 _ _) (aD3 l b items ck n n2 dd EV sl D6 ns ms hi hj)
  ⟨ho,ho2,show Value.bool (lexLt ns ms)≠Value.notImplemented/\Q (.bool (lexLt ns ms)) s from⟨(λx=>nomatch x),h⟩⟩ hu
def kY(n d:Nat):Option Int->Nat
 |none=>d
 |some v=>if v < 0 then (v+(n:Int)).toNat else min v.toNat n
theorem aGl(n d:Nat):kY n d none=d:=rfl
theorem aIA(n d k:Nat):kY n d (some (k:Int))=min k n:=by
 show(if (k:Int) < 0 then ((k:Int)+(n:Int)).toNat else min (k:Int).toNat n)=min k n;rw[bV (by lia),pe]
theorem aPo(n d:Nat)(hd:d<=n)(o:Option Int):kY n d o<=n:=by
 cases o with
 |none=>exact hd
 |some v=>
  show(if v < 0 then (v+(n:Int)).toNat else min v.toNat n)<=n;by_cases hv:v < 0
  ·rw[cJ hv];lia
  ·rw[bV hv];exact Nat.min_le_right _ _
theorem aIB(v:Int)(n d:Nat):(if v < 0 then max (v+(n:Int)) 0 else min v (n:Int))=((kY n d (some v):Nat):Int):=by
 show(if v < 0 then max (v+(n:Int)) 0 else min v (n:Int))=(((if v < 0 then (v+(n:Int)).toNat else min v.toNat n):Nat):Int)
 by_cases hv:v < 0
 ·simp only[cJ hv];lia
 ·simp only[bV hv];lia
theorem aHw(lo hi:Option Int)(n:Nat):Builtin.Slice.sliceAdjust lo hi 1 (n:Int)=(((kY n 0 lo:Nat):Int),((kY n n hi:Nat):Int)):=by
 have h1:¬((1:Int) < 0):=by lia
 unfold Builtin.Slice.sliceAdjust;simp only[h1,if_false];refine Prod.ext ?_ ?_
 ·cases lo with
  |none=>rfl
  |some v=>exact aIB v n 0
 ·cases hi with
  |none=>rfl
  |some v=>exact aIB v n n
theorem aHx(i j:Nat):Builtin.Slice.slicePlaces (i:Int) (j:Int) 1=j - i:=by
 unfold Builtin.Slice.slicePlaces;have h1:(1:Int) > 0:=by lia
 simp only[h1,if_true,Int.ediv_one];split <;> lia
theorem aCX{o:Option Int}{Q:Option Int->Shared->Prop}(p:IsPart v o)(h:Q o s):wpAny (model prog w) A (Builtin.Slice.slicePartIndex v) Q E s:=by
 cases p with
 |none=>exact slicePart_none h
 |int i t=>exact slicePart_int h
theorem aBy{lo hi:Option Int}{n:Nat}{Q:Int×Int×Nat->Shared->Prop}(hs:s.heap.IsSliceOf sl vl vu .none)(pl:IsPart vl lo)(pu:IsPart vu hi)(h:Q (((kY n 0 lo:Nat):Int),1,kY n n hi - kY n 0 lo) s):wpAny (model prog w) A (Builtin.Slice.sliceApplied (.ref sl) (pure (n:Int))) Q E s:=by
 obtain⟨os,Er,hcs,mx⟩:=id hs;unfold Builtin.Slice.sliceApplied Builtin.Slice.sliceFields;refine aR (aR (wpAny_field Er mx (x:=vl) rfl (aR (wpAny_field Er mx (x:=vu) rfl (aR (wpAny_field Er mx (x:=.none) rfl (bI ?_)))))));refine aR (slicePart_none ?_);show wpAny _ _ (if ((1:Int) == 0)=true then _ else _) _ _ s;rw[bV (by decide)];refine aR (aCX pl (aR (aCX pu (aR (bI ?_)))));show wpAny _ _ (match Builtin.Slice.sliceAdjust lo hi 1 (n:Int) with|(lo,hi)=>pure (lo,(1:Int),Builtin.Slice.slicePlaces lo hi 1)) _ _ s;rw[aHw lo hi n];show wpAny _ _ (pure (((kY n 0 lo:Nat):Int),(1:Int),Builtin.Slice.slicePlaces ((kY n 0 lo:Nat):Int) ((kY n n hi:Nat):Int) 1)) _ _ s;rw[aHx];exact bI h
theorem aKI(xs:Array Value)(i k:Nat):((List.range k).filterMap λ(m:Nat)=>xs[((i:Int)+(m:Int)*1).toNat]?).toArray=((xs.toList.drop i).take k).toArray:=by
 have e:(λ(m:Nat)=>xs[((i:Int)+(m:Int)*1).toNat]?)=λm=>xs[i+m]?:=by
  funext m
  have:((i:Int)+(m:Int)*1).toNat=i+m:=by lia
  rw[this]
 rw[e];have:=pick_run xs i k;rw[List.filterMap_map] at this;have e2:((λx=>xs[x]?) ∘ λx=>i+x)=λm=>xs[i+m]?:=rfl;rw[e2] at this;rw[this]
theorem aAy{items:Array Value}{lo hi:Option Int}{Q:aj}(ht:IsTup s.heap t items)(hs:s.heap.IsSliceOf sl vl vu .none)(pl:IsPart vl lo)(pu:IsPart vu hi)(hw:¬(kY items.size 0 lo=0/\kY items.size items.size hi=items.size))(h:Q (.ref s.heap.objs.size) { s with heap:=s.heap.push { cls:=.type "tuple",data:=.seq ((items.toList.drop (kY items.size 0 lo)).take (kY items.size items.size hi - kY items.size 0 lo)).toArray } })(hsz:items.size<=sizeLine):wpAny (model prog w) A (getItem (.ref t) (.ref sl)) Q E s:=by
 have rk:sizeOk (.seq ((items.toList.drop (kY items.size 0 lo)).take (kY items.size items.size hi - kY items.size 0 lo)).toArray):=by
  show((items.toList.drop (kY items.size 0 lo)).take (kY items.size items.size hi - kY items.size 0 lo)).toArray.size<=sizeLine;rw[iL,xT,Bj,jf];lia
 have hj:kY items.size items.size hi<=items.size:=aPo _ _ (d7 _) hi;obtain⟨os,Er,hcs,mx⟩:=id hs;have hTs:s.TypeIs (.ref sl) "slice":=⟨os,Er,hcs⟩
 unfold getItem;try with_reducible refine eh ?_
 first|refine aR (bI ?_)|skip
 refine aR (wpAny_sequenceKey ht.typeIs (by decide) ?_);refine aR (wpAny_callSpecial?_slot (name:=Str.ofString "__getitem__") ht.typeIs PyProof.Rows.slot_tuple_getitem
  (ja PyProof.Rows.slot_tuple_getitem ht.typeIs entry_tuple_getitem ?_ (args_tuple_getitem _ _)))
 show wpAny _ _ (Builtin.Tuple.tupleItemsOf (.ref t) >>= _) _ _ s;refine aR (tupleItemsOf_ ht ?_);refine aR (wpAny_typeOf hTs ?_);rw[cJ (by decide)];refine aR (aBy hs pl pu ?_);have LU:¬((((kY items.size 0 lo:Nat):Int) == 0 && (1:Int) == 1 && (kY items.size items.size hi - kY items.size 0 lo) == items.size)=true):=by
  intro q;rw[iz,iz] at q;have q1:((kY items.size 0 lo:Nat):Int)=0:=eq_of_beq q.1.1;have q2:kY items.size items.size hi - kY items.size 0 lo=items.size:=eq_of_beq q.2;exact hw ⟨by lia,by lia⟩
 show wpAny _ _ (if (((kY items.size 0 lo:Nat):Int) == 0 && (1:Int) == 1 && (kY items.size items.size hi - kY items.size 0 lo) == items.size)=true then _ else _) _ _ s;rw[bV LU,aKI];first
  |exact aR (m:=Builtin.Tuple.tupleExact _) (jb (bI ⟨_,rfl,bI h⟩) rk)
  |exact aR (m:=Builtin.Tuple.tupleExact _) (jb (aR (bI (bI ⟨_,rfl,bI h⟩))) rk)
  |exact aR (aR (m:=Builtin.Tuple.tupleExact _) (jb (bI (bI ⟨_,rfl,bI h⟩)) rk))
  |exact aR (aR (m:=Builtin.Tuple.tupleExact _) (jb (bI ⟨_,rfl,bI h⟩) rk))
end
end HT
namespace L2
open PySem PySem.Spec PyProof.Rows
abbrev TO:=St->Hp->(Option Int->Hp->Prop)->Prop
def PO(X:Cx)(e:Option Expr)(t:TO):Prop:=
 ∀(pins:ao) (s:Shared) (σ:St) (H:Hp) (Q:Option Int->Hp->Prop),Inv X pins σ H s->t σ H Q->
  wpAny (model X.prog X.w) X.A (evalPart e X.env) (λu s'=>∃o H',Inv X pins σ H' s'/\IsPart u o/\Q o H') X.xe s
def Ph:TO:=λ_ H Q=>Q none H
def OF(t:TE):TO:=λσ H Q=>t σ H λx H1=>∃i,x=.int i/\Q (some i) H1
theorem intsAre_of{ns:aa}:∀{us:af},Vals (ns.map V.int) us->IntsAre us ns:=by
 induction ns with
 |nil=>intro us r;rw[List.map_nil] at r;cases r;exact .nil
 |cons n ns ih=>
  intro us r;rw[fm] at r;cases r with
  |cons r1 r2=>
   obtain⟨t,e⟩:=r1;subst e;exact .cons n t (ih r2)
section
variable{X:Cx}{e:Expr}{te:TE}{lo hi:Option Expr}{tl th:TO}{pos p2:Pos}
theorem aM7:PO X none Ph:=by
 intro pins s σ H Q I h;rw[evalPart_none];exact bI ⟨none,H,I,.none,h⟩
theorem aM8(h:PE X e te):PO X (some e) (OF te):=by
 intro pins s σ H Q I hw;rw[evalPart_some];refine dP (h pins s σ H _ I hw) λu s1 zq=>?_;obtain⟨x,H1,I1,r1,q1⟩:=zq;obtain⟨i,rfl,q⟩:=q1;obtain⟨t,rfl⟩:=r1;exact⟨some i,H1,I1,.int i t,q⟩
def Av(X:Cx)(r:V->Option Int->Option Int->Hp->VK->Prop):Prop:=
 ∀(pins:ao) (s:Shared) (σ:St) (H:Hp) (x:V) (v vl vu:Value) (lo hi:Option Int) (sl:Addr) (Q:VK),Inv X pins σ H s->RelV x v->s.heap.IsSliceOf sl vl vu .none->IsPart vl lo->IsPart vu hi->r x lo hi H Q->
  ∃T id,typeLookup (.type T) "__getitem__" = pure (some (.builtin id))/\s.TypeIs v T/\wpAny (model X.prog X.w) X.A (getItem v (.ref sl)) (EP X pins σ Q) X.xe s
theorem Av.or{r r':V->Option Int->Option Int->Hp->VK->Prop}(h:Av X r)(h':Av X r'):Av X (λx lo hi H Q=>r x lo hi H Q\/r' x lo hi H Q):=by
 intro pins s σ H x v vl vu lo hi sl Q I rx hs pl pu q;rcases q with q|q
 ·exact h pins s σ H x v vl vu lo hi sl Q I rx hs pl pu q
 ·exact h' pins s σ H x v vl vu lo hi sl Q I rx hs pl pu q
def KP(r:V->Option Int->Option Int->Hp->VK->Prop)(te:TE)(tl th:TO):TE:=λσ H Q=>te σ H λx H1=>tl σ H1 λl H2=>th σ H2 λu H3=>r x l u H3 Q
theorem aKK{r:V->Option Int->Option Int->Hp->VK->Prop}(hr:Av X r)(he:PE X e te)(hl:PO X lo tl)(hu:PO X hi th):PE X (.Subscript e (.Slice lo hi none p2) pos) (KP r te tl th):=by
 intro pins s σ H Q I h;refine Subscript_ (dP (he pins s σ H _ I h) λv s1 zq=>?_);obtain⟨x,H1,I1,r1,q1⟩:=zq;refine wpAny_Slice (dP (hl pins s1 σ H1 _ I1 q1) λvl s2 ⟨l,H2,I2,pl,q2⟩=>dP (hu pins s2 σ H2 _ I2 q2) λvu s3 zq=>?_);obtain⟨u,H3,I3,pu,q3⟩:=zq;rw[evalPart_none];refine bI ?_;have I4:Inv X pins σ H3 { s3 with heap:=s3.heap.push { cls:=.type "slice",data:=.fields #[vl,vu,.none] } }:=I3.kept (t':=s3.toks) λb ob q=>fX _ q;obtain⟨T,id,hT,ht,hg⟩:=hr pins { s3 with heap:=s3.heap.push { cls:=.type "slice",data:=.fields #[vl,vu,.none] } } σ H3 x v vl vu l u s3.heap.objs.size Q I4 r1 (Heap.IsSliceOf.new ..) pl pu q3;show wpAny (model X.prog X.w) X.A (subscriptTail e (.Slice lo hi none p2) v (.ref s3.heap.objs.size)) (EP X pins σ Q) X.xe { s3 with heap:=s3.heap.push { cls:=.type "slice",data:=.fields #[vl,vu,.none] } };exact tail_any (ops:=[.ref s3.heap.objs.size,v]) ht hT hg (by with_unfolding_all rfl)
def qN(xs:List V)(lo hi:Option Int):List V:=(xs.drop (HT.kY xs.length 0 lo)).take (HT.kY xs.length xs.length hi - HT.kY xs.length 0 lo)
theorem eZ(xs:List V)(lo hi:Option Int):(qN xs lo hi).length<=xs.length:=by
 unfold qN;rw[xT,Bj];lia
def aQW(K:W.Frag):V->Option Int->Option Int->Hp->VK->Prop:=λx lo hi H Q=>∃a xs,x=.ref a/\mE K H a xs/\
 ¬(HT.kY xs.length 0 lo=0/\HT.kY xs.length xs.length hi=xs.length)/\∀p,H p=none->Q (.ref p) (upd H p (.tup (qN xs lo hi)))
theorem aPp:Av X (aQW X.K):=by
 intro pins s σ H x v vl vu lo hi sl Q I rx hs pl pu h;obtain⟨a,xs,rfl,hx,hw,q⟩:=h;cases rx;obtain⟨its,r,ht,hz⟩:=I.tuple hx;have hlen:its.toArray.size=xs.length:=by rw[iL];exact r.length.symm
 refine⟨"tuple",_,PyProof.Rows.slot_tuple_getitem.lookup,ht.typeIs,?_⟩;refine HT.aAy ht hs pl pu (by rw[hlen];exact hw) ?_ (by rw[hlen];exact hz);rw[hlen];refine⟨.ref s.heap.objs.size,_,I.laid (t':=s.toks) (o:=.tup (qN xs lo hi)) (λb ob q=>fX _ q) (d7 _) ?_,rfl,q _ (I.av.fresh (d7 _))⟩;exact⟨gj (eZ xs lo hi) hz,_,(r.drop (HT.kY xs.length 0 lo)).take (HT.kY xs.length xs.length hi - HT.kY xs.length 0 lo),IsTup.new _ _⟩
end
def qg(n:Nat)(i:Int):Option Nat:=if 0<=i then (if i < n then some i.toNat else none) else if -(n:Int)<=i then some (i+n).toNat else none
def pC{α:Type}(xs:List α)(i:Int):Option α:=(qg xs.length i).bind λj=>xs[j]?
theorem aIC{n:Nat}{i:Int}{j:Nat}(h:qg n i=some j):seqIndex? i n=some j/\j < n/\-(n:Int)<=i/\i < n:=by
 unfold qg at h;by_cases h0:0<=i
 ·rw[cJ h0] at h;by_cases h1:i < n
  ·rw[cJ h1] at h;have e:i.toNat=j:=Option.some.inj h;exact⟨by rw[seqIndex_of h0 h1,e],by lia,by lia,h1⟩
  ·rw[bV h1] at h;cases h
 ·rw[bV h0] at h;by_cases h1:-(n:Int)<=i
  ·rw[cJ h1] at h;have e:(i+n).toNat=j:=Option.some.inj h;exact⟨by rw[seqIndex_neg (by lia) h1,e],by lia,h1,by lia⟩
  ·rw[bV h1] at h;cases h
theorem Pg{α:Type}{xs:List α}{i:Int}{v:α}(h:pC xs i=some v):∃j,seqIndex? i xs.length=some j/\xs[j]?=some v/\j < xs.length/\-(xs.length:Int)<=i/\i < xs.length:=by
 unfold pC at h;cases e:qg xs.length i with
 |none=>rw[e] at h;cases h
 |some j=>
  rw[e] at h;obtain⟨h1,h2,h3,h4⟩:=aIC e;exact⟨j,h1,h,h2,h3,h4⟩
theorem cO{α:Type}{xs:List α}{j:Nat}{v:α}(h:xs[j]?=some v):pC xs (j:Int)=some v:=by
 have hj:j < xs.length:=(g0.mp h).1;have e:qg xs.length (j:Int)=some j:=by
  unfold qg;rw[cJ (by lia),cJ (by lia)];simp
 unfold pC;rw[e];exact h
theorem vG{α:Type}(xs:List α)(v:α):pC (xs ++ [v]) (-1)=some v:=by
 have hl:(xs ++ [v]).length=xs.length+1:=by simp
 have e:qg (xs ++ [v]).length (-1)=some xs.length:=by
  unfold qg;rw[hl,bV (by decide),cJ (by lia)];congr 1;lia
 unfold pC;rw[e];show(xs ++ [v])[xs.length]?=some v;simp
def aID(b:Expr):Prop:=∀o i,subscripted b false o i=operate [o,i] (getItem o i)
def Aw(X:Cx)(r:R2):Prop:=
 ∀(value slice:Expr) (pins:ao) (s:Shared) (σ:St) (H:Hp) (x y:V) (v u:Value) (Q:VK),Inv X pins σ H s->RelV x v->RelV y u->r x y H Q->
  subscripted slice false v u=operate [v,u] (getItem v u)->wpAny (model X.prog X.w) X.A (subscriptTail value slice v u) (EP X pins σ Q) X.xe s
def QK(X:Cx)(id:String)(r:V->List V->Hp->VK->Prop):Prop:=
 ∀(pins:ao) (s:Shared) (σ:St) (H:Hp) (x:V) (xs:List V) (v:Value) (us:af) (Q:VK),Inv X pins σ H s->RelV x v->Vals xs us->r x xs H Q->
  wpAny (model X.prog X.w) X.A (call (.builtin id) (v::us)) (EP X pins σ Q) X.xe s
section
variable{X:Cx}{a b:Expr}{ta tb:TE}{pos:Pos}
theorem Aw.or{r':R2}(h:Aw X r)(h':Aw X r'):Aw X (λx y H Q=>r x y H Q\/r' x y H Q):=by
 intro value slice pins s σ H x y v u Q I rx ry q hs;rcases q with q|q
 ·exact h value slice pins s σ H x y v u Q I rx ry q hs
 ·exact h' value slice pins s σ H x y v u Q I rx ry q hs
theorem aQX(hr:Aw X r)(ha:PE X a ta)(hb:PE X b tb)(hs:aID b):PE X (.Subscript a b pos) (zw r ta tb):=by
 intro pins s σ H Q I h;exact Subscript_ (NS ha hb I h λv u s2 x y H2 I2 rx ry q=>hr a b pins s2 σ H2 x y v u Q I2 rx ry q (hs _ _))
def aQY(K:W.Frag):R2:=λx y H Q=>∃p xs i v,x=.ref p/\y=.int i/\bR K H p xs/\pC xs i=some v/\Q v H
def aQZ(K:W.Frag):R2:=λx y H Q=>∃p xs i v,x=.ref p/\y=.int i/\mE K H p xs/\pC xs i=some v/\Q v H
def aQ0:R2:=λx y H Q=>∃z i c,x=.str z/\y=.int i/\z.length<=sizeLine/\pC z.cps.toList i=some c/\Q (.str ⟨#[c]⟩) H
theorem aM9:Aw X (aQY X.K):=by
 intro value slice pins s σ H x y v u Q I rx ry h hs;obtain⟨p,xs,i,z,rfl,rfl,hq,he,q⟩:=h;cases rx;obtain⟨t,rfl⟩:=ry;obtain⟨its,r,pl,hz⟩:=I.list hq;obtain⟨j,h1,h2,h3,h4,h5⟩:=Pg he;obtain⟨w,ew,ny⟩:=r.get h2;have hl:=r.length;have hn:=DK;have fin:EP X pins σ Q w s:=⟨z,H,I,ny,q⟩
 by_cases h0:0<=i
 ·have hj:i.toNat=j:=by
   rw[seqIndex_of h0 h5] at h1;exact Option.some.inj h1
  exact item_listR pl.isList h0 (by lia) (by rw[hj];simpa using ew) fin hs
 ·have hj:(i+(its.toArray.size:Int)).toNat=j:=by
   rw[seqIndex_neg (by lia) h4] at h1;rw[iL,<-hl];exact Option.some.inj h1
  exact subscriptTail_builtinR (x:=w) pl.isList.typeIs slot_list_getitem.lookup
   (wpAny_getItem_list_neg (Q:=λr s'=>r=w/\EP X pins σ Q r s') pl.isList (by lia) (by rw[iL] <;> lia) (by lia) (by rw[hj];simpa using ew) ⟨rfl,fin⟩) hs
theorem aPq:Aw X (aQZ X.K):=by
 intro value slice pins s σ H x y v u Q I rx ry h hs;obtain⟨p,xs,i,z,rfl,rfl,hq,he,q⟩:=h;cases rx;obtain⟨t,rfl⟩:=ry;obtain⟨its,r,pl,hz⟩:=I.tuple hq;obtain⟨j,h1,h2,h3,h4,h5⟩:=Pg he;obtain⟨w,ew,ny⟩:=r.get h2;have hl:=r.length;have hn:=DK;have fin:EP X pins σ Q w s:=⟨z,H,I,ny,q⟩
 exact subscriptTail_builtinR (x:=w) pl.typeIs slot_tuple_getitem.lookup
  (getItem_tuple (j:=j) (Q:=λr s'=>r=w/\EP X pins σ Q r s') pl (by lia) (by lia) (by rw[iL,<-hl];exact h1) (by simpa using ew) ⟨rfl,fin⟩) hs
theorem aPr:Aw X aQ0:=by
 intro value slice pins s σ H x y v u Q I rx ry h hs;obtain⟨z,i,c,rfl,rfl,hz,he,q⟩:=h;obtain⟨t,rfl⟩:=rx;obtain⟨t',rfl⟩:=ry;obtain⟨j,h1,h2,h3,h4,h5⟩:=Pg he;have hl:z.cps.toList.length=z.length:=by simp[Str.length]
 rw[hl] at h1 h4 h5;have hn:=DK;exact tail_any (typeIs_str s z t) slot_str_getitem.lookup (getItem_str (c:=c) (by
  have e1:decide (i < -(2 ^ 63:Int))=false:=ia (by lia);have e2:decide (i ≥ 2 ^ 63)=false:=ia (by lia);rw[e1,e2,Bool.or_false]) (by rw[h1];simpa using h2) ⟨.str ⟨#[c]⟩,H,I.tok _,⟨_,rfl⟩,q⟩) hs
def Hs(K:W.Frag):R2:=λx y H Q=>aQY K x y H Q\/aQZ K x y H Q\/aQ0 x y H Q
theorem aPs:Aw X (Hs X.K):=aM9.or (aPq.or aPr)
theorem aHy(its:af)(n j:Nat)(u:Value):Obj.mapSeq (·.setIfInBounds j u) { cls:=.type "list",data:=.seq its.toArray n } = { cls:=.type "list",data:=.seq (its.set j u).toArray n }:=by
 simp[Obj.mapSeq]
theorem Inv.lst{pins:ao}{σ:St}{H:Hp}{s:Shared}{p:Addr}{xs:List V}(I:Inv X pins σ H s)(h:H p=some (.lst xs)) :
  ∃(its:af) (n:Nat),Vals xs its/\s.heap.get? p=some { cls:=.type "list",data:=.seq its.toArray n }/\xs.length<=sizeLine:=by
 obtain⟨z,its,n,r,e⟩:=I.av p _ h;exact⟨its,n,r,e,z⟩
theorem Inv.aPt{s:Shared}{ys:List V}{its its':af}{n n':Nat}{f:Obj->Obj}(I:Inv X pins σ H s)(h:H p=some (.lst xs))(ho:s.heap.get? p=some { cls:=.type "list",data:=.seq its.toArray n })(hf:f { cls:=.type "list",data:=.seq its.toArray n } = { cls:=.type "list",data:=.seq its'.toArray n' })(r:Vals ys its')(hz:ys.length<=sizeLine)(t:Nat) :
  Inv X pins σ (upd H p (.lst ys)) { s with heap:=s.heap.update p f,toks:=t }:=by
 have e:(s.heap.update p f).get? p=some { cls:=.type "list",data:=.seq its'.toArray n' }:=by
  rw[zk f ho (by rw[hf] <;> rfl),hf]
 refine I.write (x:=p) (e:=p) (by rw[h];trivial) (.inl rfl) (λb u hb q=>(D0 _ _ (Ne.symm hb)).trans q) ⟨_,e⟩ ?_;exact⟨hz,its',n',r,e⟩
def aOt:V->V->V->Hp->(Hp->Prop)->Prop:=λo i v H Q=>∃p xs k j,o=.ref p/\i=.int k/\H p=some (.lst xs)/\qg xs.length k=some j/\Q (upd H p (.lst (xs.set j v)))
theorem set_list:E3 X aOt:=by
 intro pins s σ H o i v ov iv u Q I ro ri rv h;obtain⟨p,xs,k,j,rfl,rfl,hp,hj,q⟩:=h;cases ro;obtain⟨t,rfl⟩:=ri;obtain⟨its,n,r,ho,hz⟩:=I.lst hp;obtain⟨h1,h2,h3,h4⟩:=aIC hj;have hl:=r.length;have hn:=DK;have I':Inv X pins σ (upd H p (.lst (xs.set j v))) { s with heap:=s.heap.update p (Obj.mapSeq (·.setIfInBounds j u)) }:=
  I.aPt hp ho (aHy its n j u) (r.set rv j) (by rw[Bi];exact hz) s.toks
 by_cases h0:0<=k
 ·have hk:k.toNat=j:=by
   rw[seqIndex_of h0 h4] at h1;exact Option.some.inj h1
  exact PySem.W.ki_setAt ho h0 (by lia) (by rw[iL,<-hl];exact h4) (by rw[hk];exact⟨_,I',q⟩)
 ·have hk:(k+(its.toArray.size:Int)).toNat=j:=by
   rw[seqIndex_neg (by lia) h3] at h1;rw[iL,<-hl];exact Option.some.inj h1
  exact PySem.W.ki_setBack ho (by lia) (by rw[iL,<-hl];exact h3) (by lia) (by rw[hk];exact⟨_,I',q⟩)
theorem aFg(lo hi:Option Int)(n:Nat):(sliceBounds lo hi none n).1=((HT.kY n 0 lo:Nat):Int)/\(sliceBounds lo hi none n).2.1=((HT.kY n n hi:Nat):Int)/\(sliceBounds lo hi none n).2.2=1:=by
 refine⟨?_,?_,rfl⟩
 ·cases lo with
  |none=>simp[sliceBounds,HT.kY]
  |some i=>
   simp only[sliceBounds,HT.kY,Option.getD_none,show(1:Int) > 0 by decide,if_true];by_cases h:i < 0
   ·simp only[h,if_true] <;> lia
   ·simp only[h,if_false] <;> lia
 ·cases hi with
  |none=>simp[sliceBounds,HT.kY]
  |some i=>
   simp only[sliceBounds,HT.kY,Option.getD_none,show(1:Int) > 0 by decide,if_true];by_cases h:i < 0
   ·simp only[h,if_true] <;> lia
   ·simp only[h,if_false] <;> lia
theorem aD4(its:af)(lo hi:Option Int):slicePick its.toArray lo hi none=((its.drop (HT.kY its.length 0 lo)).take (HT.kY its.length its.length hi - HT.kY its.length 0 lo)).toArray:=by
 obtain⟨h1,h2,h3⟩:=aFg lo hi its.toArray.size;unfold slicePick;rw[h1,h2,h3];simp only[sliceRange_one,pick_run,iL] <;> rfl
def aQ1(K:W.Frag):V->Option Int->Option Int->Hp->VK->Prop:=λx lo hi H Q=>∃a xs,x=.ref a/\bR K H a xs/\∀p,H p=none->Q (.ref p) (upd H p (.lst (qN xs lo hi)))
theorem aNa:Av X (aQ1 X.K):=by
 intro pins s σ H x v vl vu lo hi sl Q I rx hs pl pu h;obtain⟨a,xs,rfl,hx,q⟩:=h;cases rx;obtain⟨its,r,ht,hz⟩:=I.list hx;have hlen:=r.length;refine⟨"list",_,slot_list_getitem.lookup,ht.isList.typeIs,?_⟩;refine wpAny_getItem_list_slice ht.isList hs pl pu .none (by simp) ?_ (by rw[iL] <;> lia);rw[aD4,<-hlen];refine⟨.ref s.heap.objs.size,_,I.laid (t':=s.toks) (o:=.lst (qN xs lo hi)) (λb ob q=>fX _ q) (d7 _) ?_,rfl,q _ (I.av.fresh (d7 _))⟩;exact⟨gj (eZ xs lo hi) hz,_,0,(r.drop (HT.kY xs.length 0 lo)).take (HT.kY xs.length xs.length hi - HT.kY xs.length 0 lo),mJ _ rfl⟩
def kZ:V->Bool
 |.ba=>true
 |.bl _=>true
 |.int _=>true
 |.str _=>true
 |_=>false
def eqV:V->V->Bool
 |.ba,.ba=>true
 |.bl a,.bl b=>a == b
 |.bl a,.int b=>(if a then 1 else 0) == b
 |.int a,.bl b=>a == (if b then 1 else 0)
 |.int a,.int b=>a == b
 |.str a,.str b=>a == b
 |_,_=>false
theorem aKL(ry:RelV y u)(rx:RelV x v)(fy:kZ y=true)(fx:kZ x=true):SeqAt.EqAt A s u v (eqV y x):=by
 cases y with
 |ba=>
  cases ry;cases x with
  |ba=>cases rx;exact SeqAt.EqAt.same _
  |bl b=>cases rx;exact SeqAt.EqAt.none_bool b
  |int b=>obtain⟨t,rfl⟩:=rx;exact SeqAt.EqAt.none_int b t
  |str b=>obtain⟨t,rfl⟩:=rx;exact SeqAt.EqAt.none_str b t
  |_=>exact absurd (show false=true from fx) fo
 |bl a=>
  cases ry;cases x with
  |ba=>cases rx;exact SeqAt.EqAt.bool_none a
  |bl b=>cases rx;exact SeqAt.EqAt.bool_bool a b
  |int b=>obtain⟨t,rfl⟩:=rx;exact SeqAt.EqAt.bool_int a b t
  |str b=>obtain⟨t,rfl⟩:=rx;exact SeqAt.EqAt.bool_str a b t
  |_=>exact absurd (show false=true from fx) fo
 |int a=>
  obtain⟨t',rfl⟩:=ry;cases x with
  |ba=>cases rx;exact SeqAt.EqAt.int_none a t'
  |bl b=>cases rx;exact SeqAt.EqAt.int_bool a t' b
  |int b=>obtain⟨t,rfl⟩:=rx;exact SeqAt.EqAt.int_int a t' b t
  |str b=>obtain⟨t,rfl⟩:=rx;exact SeqAt.EqAt.int_str a t' b t
  |_=>exact absurd (show false=true from fx) fo
 |str a=>
  obtain⟨t',rfl⟩:=ry;cases x with
  |ba=>cases rx;exact SeqAt.EqAt.str_none a t'
  |bl b=>cases rx;exact SeqAt.EqAt.str_bool a t' b
  |int b=>obtain⟨t,rfl⟩:=rx;exact SeqAt.EqAt.str_int a t' b t
  |str b=>obtain⟨t,rfl⟩:=rx;exact SeqAt.EqAt.str_str a t' b t
  |_=>exact absurd (show false=true from fx) fo
 |_=>exact absurd (show false=true from fy) fo
theorem aFh:eC X (.type "list") (λxs H Q=>∃p ys,xs=[.ref p]/\(bR X.K H p ys\/mE X.K H p ys)/\∀l,H l=none->Q (.ref l) (upd H l (.lst ys))):=by
 intro pins s σ H xs us Q I r h;obtain⟨p,ys,rfl,hq,q⟩:=h;obtain⟨u,rfl,rx⟩:=vals1 r;cases rx;have fin:∀(its:af),Vals ys its->ys.length<=sizeLine->∀(h':Heap) (c':Nat),(∀b o',s.heap.get? b=some o'->h'.get? b=some o')->
   h'.get? s.heap.objs.size=some { cls:=.type "list",dict:=none,data:=.seq its.toArray c',slots:=#[] }->EP X pins σ Q (.ref s.heap.objs.size) { s with heap:=h' }:=λits r' hz h' c' kp e=>
  ⟨.ref s.heap.objs.size,_,I.laid (t':=s.toks) kp (d7 _) (show bO X.prog X.w _ h' _ (.lst ys) from⟨hz,its,c',r',e⟩),rfl,q _ (I.av.fresh (d7 _))⟩
 rcases hq with hq|hq
 ·obtain⟨its,r',pl,hz⟩:=I.list hq;have hlen:=r'.length;obtain⟨o,ho,hc,n,hd⟩:=pl.isList;exact call_list_seq p (.inl rfl) ho hc hd (λh' c' kp e=>fin its r' hz h' c' kp e) (by simp only[iL] <;> lia)
 ·obtain⟨its,r',pl,hz⟩:=I.tuple hq;have hlen:=r'.length;obtain⟨o,ho,hc,n,hd⟩:=pl;exact call_list_seq p (.inr rfl) ho hc hd (λh' c' kp e=>fin its r' hz h' c' kp e) (by simp only[iL] <;> lia)
def C4(K:W.Frag)(T:String)(x:V)(H:Hp):Prop:=match x with
 |.str _=>T = "str"
 |.int _=>T = "int"
 |.ref p=>(T = "list"/\∃xs,bR K H p xs)\/(T = "tuple"/\∃o,K.lookup p=some o/\o.cls=.type "tuple"/\o.dict=none)\/
   (T = "dict"/\((∃kvs,H p=some (.dK kvs))\/∃kvs,H p=some (.dT kvs)))\/(T = "set"/\∃S n,H p=some (.set S n))
 |_=>False
theorem aKM{s:Shared}(I:Inv X pins σ H s)(r:RelV x v)(ty:C4 X.K T x H) :
  s.TypeIs v T/\∀a,v=.ref a->∃ob,s.heap.get? a=some ob/\ob.dict=none:=by
 cases x with
 |str z=>
  obtain⟨t,rfl⟩:=r;cases (show T = "str" from ty);exact⟨typeIs_str s z t,λ_ e=>nomatch e⟩
 |int i=>
  obtain⟨t,rfl⟩:=r;cases (show T = "int" from ty);exact⟨typeIs_int s i t,λ_ e=>nomatch e⟩
 |ref p=>
  cases r;rcases ty with ⟨rfl,xs,hq⟩|⟨rfl,o,hk,hc,hd⟩|⟨rfl,hk⟩|⟨rfl,S,n,hk⟩
  ·obtain⟨its,_,pl,_⟩:=I.list hq;refine⟨pl.isList.typeIs,λa e=>?_⟩;cases e;obtain⟨o,n,e,c,hd,_⟩:=pl;exact⟨o,e,hd⟩
  ·refine⟨⟨o,I.uP p o hk,hc⟩,λa e=>?_⟩;cases e;exact⟨o,I.uP _ o hk,hd⟩
  ·have z:∃o,s.heap.get? p=some o/\o.ExactDict:=by
    rcases hk with ⟨kvs,hk⟩|⟨kvs,hk⟩
    ·obtain⟨_,_,_,_,o,_,_,e,ex,_⟩:=I.av p _ hk;exact⟨o,e,ex⟩
    ·obtain⟨_,_,_,_,o,_,_,e,ex,_⟩:=I.av p _ hk;exact⟨o,e,ex⟩
   obtain⟨o,e,ex⟩:=z;refine⟨⟨o,e,ex.1⟩,λa e2=>?_⟩;cases e2;exact⟨o,e,ex.2.1⟩
  ·obtain⟨o,_,_,_,e,ex,_⟩:=I.av p _ hk;refine⟨⟨o,e,ex.1⟩,λa e2=>?_⟩;cases e2;exact⟨o,e,ex.2.1⟩
 |_=>exact False.elim ty
def IS(K:W.Frag)(T:String)(r:V->List V->Hp->VK->Prop)(to:TE):TE:=λσ H Q=>to σ H λx H1=>C4 K T x H1/\r x [] H1 Q
def C5(K:W.Frag)(T:String)(r:V->List V->Hp->VK->Prop)(to:TE)(t:TA):TE:=λσ H Q=>to σ H λx H1=>C4 K T x H1/\t σ H1 λxs H2=>r x xs H2 Q
variable{o e:Expr}{es:List Expr}{to:TE}{t:TA}{name:Str}{apos aw:Pos}{T id:String}{r:V->List V->Hp->VK->Prop}
theorem aPu(pa:PlainAttrs T)(slot:Slot T name id)(LK:typeOf (.builtin id)=pure (.type "method_descriptor"))(hm:QK X id r)(ho:PE X o to)
  (bg:attributeBase o name X.env (eval o X.env)=eval o X.env:=by rfl) (bc:(apos.endLine == aw.line)=true:=by rfl):PE X (.Call (.Attribute o name apos) [] [] aw) (IS X.K T r to):=by
 intro pins s σ H Q I h;refine wpAny_Call_method0_late bg bc (dP (ho pins s σ H _ I h) λv s1 zq=>?_);obtain⟨x,H1,I1,r1,ty,q1⟩:=zq;obtain⟨h1,h2⟩:=aKM I1 r1 ty;exact⟨T,id,pa,slot,LK,h1,h2,Calls.callWith_builtin rfl (PySem.evalArgs_none (hm pins s1 σ H1 x [] v [] Q I1 r1 .nil q1))⟩
theorem aOu(pa:PlainAttrs T)(slot:Slot T name id)(LK:typeOf (.builtin id)=pure (.type "method_descriptor"))(hm:QK X id r)(ho:PE X o to)(ha:PA X (e::es) t)
  (bg:attributeBase o name X.env (eval o X.env)=eval o X.env:=by rfl)
  (W8:((backTo aw (starEach (e::es) X.env)).all (λx=>!x.1) && (backToKw aw (keywordEach [] X.env)).all (λx=>x.1.isSome)
   && decide ((e::es).length+([]:List Keyword).length+(if ([]:List Keyword).isEmpty then 0 else 1) < 30))=true:=by rfl)
  (bc:(apos.endLine == aw.line)=true:=by rfl) (hs:starEach (e::es) X.env=(false,eval e X.env)::starEach es X.env:=by rfl) (CZ:(backTo aw (starEach es X.env)).any (·.1)=false:=by rfl) :
  PE X (.Call (.Attribute o name apos) (e::es) [] aw) (C5 X.K T r to t):=by
 intro pins s σ H Q I h;refine wpAny_Call_method_late bg W8 bc rfl (dP (ho pins s σ H _ I h) λv s1 zq=>?_);obtain⟨x,H1,I1,r1,ty,q1⟩:=zq;obtain⟨h1,h2⟩:=aKM I1 r1 ty;refine⟨T,id,pa,slot,LK,h1,h2,?_⟩;have hA:=ha aw pins s1 σ H1 _ I1 q1;rw[hs] at hA ⊢;refine Calls.callWith_builtin (by show(false || (backTo aw (starEach es X.env)).any (·.1))=false;rw[CZ] <;> rfl) (Calls.evalArgs_plain ?_);exact dP hA λus s2 ⟨vs,H2,I2,r2,q2⟩=>hm pins s2 σ H2 x vs v us Q I2 r1 r2 q2
end
def MtM(X:Cx)(id:String)(r:V->List V->Hp->VK->Prop):Prop:=
 ∀(pins:ao) (s:Shared) (σ:St) (H:Hp) (x:V) (xs:List V) (v:Value) (us:af) (Q:VK),Inv X pins σ H s->RelV x v->Vals xs us->r x xs H Q->
  wpAny (model X.prog X.w) X.A (call (.builtin id) (v::us)) (EP X pins σ Q) X.xe s
theorem Vals.one:∀{x:V}{us:af},Vals [x] us->∃u,us=[u]/\RelV x u
 |_,_,.cons r .nil=>⟨_,rfl,r⟩
theorem Vals.zero:∀{us:af},Vals [] us->us=[]
 |_,.nil=>rfl
theorem Vals.rep(h:Vals xs us):∀k:Nat,Vals (List.replicate k xs).flatten (List.replicate k us).flatten
 |0=>.nil
 |k+1=>by
  rw[DX,DX,Kg,Kg];exact Vals.append h (Vals.rep h k)
theorem foldl_rep(its:af):∀(k:Nat) (acc:af),
  List.foldl (λx1 x2=>x1++x2) acc.toArray (List.replicate k its.toArray)=(acc++(List.replicate k its).flatten).toArray
 |0,acc=>by simp
 |k+1,acc=>by
  have e:acc.toArray++its.toArray=(acc++its).toArray:=by simp
  have e2:(acc++its)++(List.replicate k its).flatten=acc++(List.replicate (k+1) its).flatten:=by
   rw[DX,Kg,Bm]
  rw[<-e2,<-foldl_rep its k (acc++its),<-e,DX,List.foldl_cons]
section
variable{X:Cx}{pins:ao}{σ:St}{H:Hp}{s:Shared}{l b:Addr}{xs ys zs:List V}
theorem Inv.aQ2{its its':af}{n:Nat}{f:Array Value->Array Value}{t':Nat}(I:Inv X pins σ H s)(hH:H l=some (.lst xs))
  (e:s.heap.get? l=some { cls:=.type "list",data:=.seq its.toArray n }) (hf:f its.toArray=its'.toArray) (hv:Vals ys its') (hz:ys.length<=sizeLine) :
  Inv X pins σ (upd H l (.lst ys)) { s with heap:=s.heap.update l (Obj.mapSeq f),toks:=t' }:=by
 have q:=PySem.IsL.update e f;rw[hf] at q;refine I.write (x:=l) (e:=l) (by rw[hH];exact trivial) (.inl rfl) (λb' u hb hu=>(D0 s.heap (Obj.mapSeq f) (Ne.symm hb)).trans hu) ⟨_,q⟩ ?_;exact⟨hz,its',_,hv,q⟩
theorem Inv.aQ3{t':Nat}(I:Inv X pins σ H s)(hv:Vals ys its)(hz:ys.length<=sizeLine) :
  Inv X pins σ (upd H s.heap.objs.size (.lst ys)) { s with heap:=s.heap.push { cls:=.type "list",data:=.seq its.toArray },toks:=t' }:=
 I.laid (λ_ _ q=>fX _ q) (d7 _) ⟨hz,its,0,hv,mJ _ rfl⟩
theorem Inv.fresh(I:Inv X pins σ H s):H s.heap.objs.size=none:=I.av.fresh (d7 _)
theorem Inv.A7(I:Inv X pins σ H s)(hH:H l=some (.lst xs)):xs.length<=sizeLine/\∃(its:af) (n:Nat),Vals xs its/\xs.length=its.length/\s.heap.get? l=some { cls:=.type "list",data:=.seq its.toArray n }:=by
 obtain⟨z,its,n,r,e⟩:=I.av l _ hH;exact⟨z,its,n,r,r.length,e⟩
theorem aKN{n:Nat}(h:n<=sizeLine):Builtin.List.listTooLong n=false:=by
 unfold Builtin.List.listTooLong;exact ia (by lia)
end
section
variable{X:Cx}
def JO:V->List V->Hp->VK->Prop:=λx vs H Q=>∃l xs y,x=.ref l/\vs=[y]/\H l=some (.lst xs)/\xs.length < sizeLine/\Q .ba (upd H l (.lst (xs ++ [y])))
theorem aJA:MtM X "list.append" JO:=by
 intro pins s σ H x vs v us Q I rx rv h;obtain⟨l,xs,y,rfl,rfl,hH,hz,q⟩:=h;cases rx;obtain⟨u,rfl,ru⟩:=rv.one;obtain⟨z,its,n,r,hl,e⟩:=I.A7 hH;refine call_meets F.slot_list_append ⟨_,e,rfl⟩ F.entry_list_append (F.args_list_append_2 _ _) (PySem.list_append l its.toArray n u (by rw[iL];lia)) ⟨e,?_⟩;refine⟨.ba,_,I.aQ2 (its':=its ++ [u]) hH e (by simp) (r.append (.cons ru .nil)) ?_,rfl,q⟩;rw[uN,Ar];lia
def Jy:V->List V->Hp->VK->Prop:=λx vs H Q=>∃l xs,x=.ref l/\vs=[]/\H l=some (.lst xs)/\Q .ba (upd H l (.lst []))
theorem aKO:MtM X "list.clear" Jy:=by
 intro pins s σ H x vs v us Q I rx rv h;obtain⟨l,xs,rfl,rfl,hH,q⟩:=h;cases rx;have hus:=rv.zero;subst hus;obtain⟨z,its,n,r,hl,e⟩:=I.A7 hH;refine call_meets F.slot_list_clear ⟨_,e,rfl⟩ F.entry_list_clear (F.args_list_clear_1 _) (AutoSeq1.list_clear_list_0 l its.toArray n (by rw[iL];lia)) ⟨e,?_⟩;exact⟨.ba,_,I.aQ2 (its':=[]) (ys:=[]) hH e rfl .nil (dz _),rfl,q⟩
def aQ4:R2:=λx y H Q=>∃l b xs zs,x=.ref l/\y=.ref b/\H l=some (.lst xs)/\H b=some (.lst zs)/\xs.length+zs.length<=sizeLine/\∀p,H p=none->Q (.ref p) (upd H p (.lst (xs++zs)))
theorem aPv:uZ X (binaryOp .Add) aQ4:=by
 intro pins s σ H x y v u Q I rx ry h;obtain⟨l,b,xs,zs,rfl,rfl,hH,hB,hz,q⟩:=h;cases rx;cases ry;obtain⟨z,its,n,r,hl,e⟩:=I.A7 hH;obtain⟨z2,CD,n2,r2,hl2,e2⟩:=I.A7 hB;refine PySem.P.add_list e e2 ?_ (by rw[iL,iL];lia);have ea:its.toArray++CD.toArray=(its++CD).toArray:=by simp
 rw[ea];exact⟨.ref _,_,I.aQ3 (t':=s.toks) (r.append r2) (by rw[uN];lia),rfl,q _ I.fresh⟩
def aQ5:R2:=λx y H Q=>∃l k xs,x=.ref l/\y=.int k/\H l=some (.lst xs)/\-(2 ^ 63)<=k/\k < 2 ^ 63/\xs.length*k.toNat<=sizeLine/\
 ∀p,H p=none->Q (.ref p) (upd H p (.lst (List.replicate k.toNat xs).flatten))
theorem len_rep{α:Type}(xs:List α)(k:Nat):(List.replicate k xs).flatten.length=k*xs.length:=by
 induction k with
 |zero=>simp
 |succ k ih=>rw[DX,Kg,uN,ih,Nat.succ_mul,Nat.add_comm]
theorem aPw:uZ X (binaryOp .Mult) aQ5:=by
 intro pins s σ H x y v u Q I rx ry h;obtain⟨l,k,xs,rfl,rfl,hH,h1,h2,hz,q⟩:=h;cases rx;obtain⟨t,rfl⟩:=ry;obtain⟨z,its,n,r,hl,e⟩:=I.A7 hH;have hlen:its.toArray.size*k.toNat<=sizeLine:=by rw[iL,<-hl];exact hz
 have Xh:¬its.toArray.size*k.toNat > (2 ^ 63 - 1) / 8:=by
  have:(sizeLine:Nat)<=(2 ^ 63 - 1) / 8:=by decide
  lia
 have W7:¬(!Builtin.List.listFitsIndex k)=true:=by
  rw[fitsIndex_both h1 h2];exact fo
 have GW:¬Builtin.List.listTooLong (its.toArray.size*k.toNat)=true:=by
  rw[aKN hlen];exact fo
 have AG:List.foldl (λx1 x2=>x1++x2) #[] (List.replicate (if its.toArray.isEmpty=true then 0 else k.toNat) its.toArray)=(List.replicate k.toNat its).flatten.toArray:=by
  have f0:∀m:Nat,List.foldl (λx1 x2=>x1++x2) #[] (List.replicate m its.toArray)=(List.replicate m its).flatten.toArray:=λm=>by
   have:=foldl_rep its m [];rw[List.nil_append] at this;exact this
  rw[f0];cases its with
  |nil=>simp
  |cons a r'=>rw[bV (by simp)]
 refine wpAny_binaryOp_repeat_ref (T:="list") (U:="int") (by decide) ⟨_,e,rfl⟩ (λs'=>typeIs_int s' k t) noFill_list_mul F.fills_int_mul F.slot_int_rmul repeat_list F.slot_int_index.lookup
  (call_meets F.slot_int_rmul (typeIs_int s k t) F.entry_int_rmul (F.args_int_rmul_2 _ _) (int___rmul___int_list k t l its.toArray n)
   ⟨e,rfl,⟨_,e,rfl⟩,call_meets F.slot_list_mul ⟨_,e,rfl⟩ F.entry_list_mul (F.args_list_mul_2 _ _) (AutoListH.list___mul___list_int_3 l its.toArray n k t W7 Xh GW) ⟨e,?_⟩⟩)
 rw[AG];exact⟨.ref _,_,I.aQ3 (t':=s.toks) (r.rep k.toNat) (by rw[len_rep,Nat.mul_comm];exact hz),rfl,q _ I.fresh⟩
end
section
variable{κ:Type}[DecidableEq κ]
def rJ(kvs:List (κ×V))(k:κ):Option V:=(kvs.find? λkv=>decide (kv.1=k)).map (·.2)
def putK(kvs:List (κ×V))(k:κ)(v:V):List (κ×V):=
 if (kvs.any λkv=>decide (kv.1=k))=true then kvs.map (λkv=>if kv.1=k then (kv.1,v) else kv) else kvs ++ [(k,v)]
def aOv(kvs:List (κ×V))(k:κ):List (κ×V):=kvs.filter λkv=>decide (kv.1≠k)
theorem lA{p:κ×V}(e:p.1=k):rJ (p::r) k=some p.2:=by simp[rJ,vj,e]
theorem iM{p:κ×V}(e:¬p.1=k):rJ (p::r) k=rJ r k:=by simp[rJ,vj,e]
theorem JS(k:κ):∀kvs:List (κ×V),(kvs.any λkv=>decide (kv.1=k))=(rJ kvs k).isSome
 |[]=>rfl
 |p::r=>by
  rw[List.any_cons];by_cases e:p.1=k
  ·simp only[lA e,zV e,Bool.true_or,Option.isSome_some]
  ·rw[iM e,ia e,Bool.false_or];exact JS k r
theorem vH(k j:κ)(y:V):∀kvs:List (κ×V),rJ (kvs.map λkv=>if kv.1=k then (kv.1,y) else kv) j=(rJ kvs j).map λx=>if j=k then y else x
 |[]=>rfl
 |p::r=>by
  have ih:=vH k j y r;rw[fm];by_cases h:p.1=k
  ·rw[cJ h];by_cases e:p.1=j
   ·rw[lA (p:=(p.1,y)) e,lA e,Option.map_some,cJ (e.symm.trans h)]
   ·rw[iM (p:=(p.1,y)) e,iM e,ih]
  ·rw[bV h];by_cases e:p.1=j
   ·rw[lA (p:=p) e,lA e,Option.map_some,bV (λz=>h (e.trans z))]
   ·rw[iM (p:=p) e,iM e,ih]
theorem lB(kvs:List (κ×V))(k:κ)(v:V):(putK kvs k v).length<=kvs.length+1:=by
 unfold putK;split
 ·rw[bK];lia
 ·rw[uN,yW,Cn];lia
theorem PL{kvs:List (κ×V)}{k:κ}(v:V)(h:rJ kvs k=none):putK kvs k v=kvs ++ [(k,v)]:=by
 unfold putK;rw[JS,h];exact bV (by decide)
theorem uY.PU{o:Option V}{u:aq}(r:uY o u):o.isSome=u.isSome:=by
 cases o with
 |none=>cases u with
  |none=>rfl
  |some _=>exact(show False from r).elim
 |some _=>cases u with
  |none=>exact(show False from r).elim
  |some _=>rfl
theorem uY.getD{o:Option V}{u:aq}(r:uY o u)(rd:RelV d d'):RelV (o.getD d) (u.getD d'):=by
 cases o with
 |none=>cases u with
  |none=>exact rd
  |some _=>exact(show False from r).elim
 |some _=>cases u with
  |none=>exact(show False from r).elim
  |some _=>exact r
theorem KV.val(r:KV kvs vs)(k:κ):uY (rJ kvs k) (valueAt vs k):=by
 unfold KV at r;induction r with
 |nil=>exact True.intro
 |@cons p q ps qs h t ih=>
  obtain⟨h1,h2⟩:=h;by_cases e:p.1=k
  ·have e':q.1=k:=h1.symm.trans e;have b:valueAt (q::qs) k=some q.2:=by simp[valueAt,vj,e']
   rw[lA e,b];exact h2
  ·have e':¬q.1=k:=λz=>e (h1.trans z);have b:valueAt (q::qs) k=valueAt qs k:=by simp[valueAt,vj,e']
   rw[iM e,b];exact ih
theorem KV.any{kvs:List (κ×V)}{vs:List (κ×Value)}(r:KV kvs vs)(k:κ):(kvs.any λkv=>decide (kv.1=k))=vs.any λkv=>decide (kv.1=k):=by
 unfold KV at r;induction r with
 |nil=>rfl
 |cons h t ih=>rw[List.any_cons,List.any_cons,ih,h.1]
theorem KV.NO{kvs:List (κ×V)}{vs:List (κ×Value)}(r:KV kvs vs)(k:κ)(ry:RelV y u) :
  KV (kvs.map λkv=>if kv.1=k then (kv.1,y) else kv) (vs.map λkv=>if kv.1=k then (kv.1,u) else kv):=by
 unfold KV at r ⊢;induction r with
 |nil=>exact .nil
 |@cons p q ps qs h t ih=>
  rw[fm,fm];refine .cons ?_ ih;obtain⟨h1,h2⟩:=h;by_cases e:p.1=k
  ·rw[cJ e,cJ (h1.symm.trans e)];exact⟨h1,ry⟩
  ·rw[bV e,bV (λz=>e (h1.trans z))];exact⟨h1,h2⟩
theorem KV.put(r:KV kvs vs)(k:κ)(ry:RelV y u):KV (putK kvs k y) (stored vs k u):=by
 unfold putK stored;rw[r.any k];by_cases e:(vs.any λkv=>decide (kv.1=k))=true
 ·rw[cJ e,cJ e];exact r.NO k ry
 ·rw[bV e,bV e];exact Paired.snoc r ⟨rfl,ry⟩
theorem KV.drop(r:KV kvs vs)(k:κ):KV (aOv kvs k) (without vs k):=by
 unfold KV at r ⊢;unfold aOv without;induction r with
 |nil=>exact .nil
 |@cons p q ps qs h t ih=>
  obtain⟨h1,h2⟩:=h;rw[List.filter_cons,List.filter_cons];by_cases e:p.1=k
  ·have a:¬decide (p.1≠k)=true:=by simp[e]
   have b:¬decide (q.1≠k)=true:=by simp[h1.symm.trans e]
   rw[bV a,bV b];exact ih
  ·have e':¬q.1=k:=λz=>e (h1.trans z);have a:decide (p.1≠k)=true:=by simp[e]
   have b:decide (q.1≠k)=true:=by simp[e']
   rw[cJ a,cJ b];exact .cons ⟨h1,h2⟩ ih
theorem KV.length{kvs:List (κ×V)}{vs:List (κ×Value)}(r:KV kvs vs):kvs.length=vs.length:=Paired.length r
end
theorem DE(r:RelV (kV k) u):(cB P w).is k u=true:=by
 cases k with
 |inl i=>obtain⟨t,e⟩:=(show ∃t,u=Value.int i t from r);subst e;exact aGb P w i t
 |inr x=>obtain⟨t,e⟩:=(show ∃t,u=Value.str x t from r);subst e;exact aGc P w x t
theorem aEL:∀{ks:List Key}{us:af},Vals (ks.map kV) us->ItemsAre (cB P w) ks us
 |[],_,r=>by rw[List.map_nil] at r;cases r;exact .nil
 |k::ks,_,r=>by
  rw[fm] at r;cases r with
  |cons h t=>exact .cons (DE h) (aEL t)
abbrev KT(H:Hp):List (List Key×V)->List (List Key×Addr×Value)->Prop:=Paired λp q=>p.1=q.1/\H q.2.1=some (.tup (p.1.map kV))/\RelV p.2 q.2.2
theorem KT.val(r:KT H kvs xs)(k:List Key):uY (rJ kvs k) ((atKey xs k).map (·.2)):=by
 induction r with
 |nil=>exact True.intro
 |@cons p q ps qs h t ih=>
  obtain⟨h1,_,h2⟩:=h;by_cases e:p.1=k
  ·have e':q.1=k:=h1.symm.trans e;have b:atKey (q::qs) k=some q.2:=by simp[atKey,vj,e']
   rw[lA e,b];exact h2
  ·have e':¬q.1=k:=λz=>e (h1.trans z);have b:atKey (q::qs) k=atKey qs k:=by simp[atKey,vj,e']
   rw[iM e,b];exact ih
theorem KT.NO{kvs:List (List Key×V)}{xs:List (List Key×Addr×Value)}(r:KT H kvs xs)(k:List Key)(ry:RelV y u) :
  KT H (kvs.map λkv=>if kv.1=k then (kv.1,y) else kv) (xs.map (putAt k u)):=by
 induction r with
 |nil=>exact .nil
 |@cons p q ps qs h t ih=>
  rw[fm,fm];refine .cons ?_ ih;obtain⟨h1,h2,h3⟩:=h;unfold putAt;by_cases e:p.1=k
  ·rw[cJ e,cJ (h1.symm.trans e)];exact⟨h1,h2,ry⟩
  ·rw[bV e,bV (λz=>e (h1.trans z))];exact⟨h1,h2,h3⟩
theorem KT.put(r:KT H kvs xs)(k:List Key)(hb:H b=some (.tup (k.map kV)))(ry:RelV y u) :
  KT H (putK kvs k y) (storedH xs k b u):=by
 have e:(kvs.any λkv=>decide (kv.1=k))=(atKey xs k).isSome:=by
  rw[JS,(r.val k).PU,Option.isSome_map]
 unfold putK storedH;rw[e];by_cases q:(atKey xs k).isSome=true
 ·rw[cJ q,cJ q];exact r.NO k ry
 ·rw[bV q,bV q];exact Paired.snoc r ⟨rfl,hb,ry⟩
theorem KT.keeps{H H':Hp}(r:KT H kvs xs)(ht:∀b ys,H b=some (.tup ys)->H' b=some (.tup ys)):KT H' kvs xs:=
 Paired.N4 r λ_ _ z=>⟨z.1,ht _ _ z.2.1,z.2.2⟩
section
variable{P:Program}{w:World}{H:Hp}{h:Heap}{a:Addr}
theorem OE(ok:uO P w H h)(e:Rd H a u):bO P w H h a u:=e.ok ok
theorem Be{kvs:List (Key×V)}(ok:uO P w H h)(e:Rd H a (.dK kvs)):kvs.length<=sizeLine/\(a == sysModules)=false/\∃vs,KV kvs vs/\h.DictOf (cB P w) a vs:=
 show bO P w H h a (.dK kvs) from OE ok e
theorem aQ6{kvs:List (Key×V)}(ok:uO P w H h)(e:H a=some (.dK kvs)):kvs.length<=sizeLine/\(a == sysModules)=false/\∃vs,KV kvs vs/\h.DictOf (cB P w) a vs:=Be ok (.inl e)
theorem vI{ks:List Key}(ok:uO P w H h)(e:H a=some (.tup (ks.map kV))):(tupleKind (cB P w)).is h ks a:=by
 obtain⟨_,its,r,o,h1,h2,n,h3⟩:=(show bO P w H h a (.tup (ks.map kV)) from ok a _ e)
 exact⟨o,its.toArray,n,h1,h2,h3,by simpa using aEL r⟩
theorem Cf{kvs:List (List Key×V)}(ok:uO P w H h)(e:Rd H a (.dT kvs)):kvs.length<=sizeLine/\(a == sysModules)=false/\
  ∃xs,KT H kvs xs/\h.DictOfH (tupleKind (cB P w)) a xs:=by
 obtain⟨z,y,xs,r,o,es,ep,h1,h2,h3,h4,h5⟩:=(show bO P w H h a (.dT kvs) from OE ok e)
 refine⟨z,y,xs,r,o,es,ep,h1,h2,h3,h4,λx hx=>?_,h5⟩;have all:∀{l:List (List Key×V)} {m:List (List Key×Addr×Value)},KT H l m->∀x∈m,(tupleKind (cB P w)).is h x.1 x.2.1:=by
  intro l m q;induction q with
  |nil=>intro x hx;exact nomatch hx
  |@cons p q ps qs hq t ih=>
   intro x hx;rcases lQ.mp hx with e|hx
   ·subst e;exact vI ok (by rw[<-hq.1];exact hq.2.1)
   ·exact ih x hx
 exact all r x hx
theorem aOw{kvs:List (List Key×V)}(ok:uO P w H h)(e:H a=some (.dT kvs)):kvs.length<=sizeLine/\(a == sysModules)=false/\
  ∃xs,KT H kvs xs/\h.DictOfH (tupleKind (cB P w)) a xs:=Cf ok (.inl e)
end
def jU(H:Hp)(a:Addr)(y:V)(r:Option V):Prop:=
 (∃kvs k,Rd H a (.dK kvs)/\y=kV k/\r=rJ kvs k)\/∃kvs k b,Rd H a (.dT kvs)/\y=.ref b/\H b=some (.tup (k.map kV))/\r=rJ kvs k
def wx(H:Hp)(a:Addr)(y v:V)(H':Hp):Prop:=
 (∃kvs k,H a=some (.dK kvs)/\y=kV k/\kvs.length < sizeLine/\H'=upd H a (.dK (putK kvs k v)))\/
 ∃kvs k b,H a=some (.dT kvs)/\y=.ref b/\H b=some (.tup (k.map kV))/\kvs.length < sizeLine/\H'=upd H a (.dT (putK kvs k v))
theorem jU.k{H:Hp}{a:Addr}{kvs:List (Key×V)}{k:Key}(e:H a=some (.dK kvs)):jU H a (kV k) (rJ kvs k):=.inl ⟨kvs,k,.inl e,rfl,rfl⟩
theorem jU.t{k:List Key}(e:H a=some (.dT kvs))(eb:H b=some (.tup (k.map kV))):jU H a (.ref b) (rJ kvs k):=.inr ⟨kvs,k,b,.inl e,rfl,eb,rfl⟩
theorem wx.k{H:Hp}{a:Addr}{kvs:List (Key×V)}{k:Key}{v:V}(e:H a=some (.dK kvs))(hl:kvs.length < sizeLine):wx H a (kV k) v (upd H a (.dK (putK kvs k v))):=.inl ⟨kvs,k,e,rfl,hl,rfl⟩
theorem wx.t{kvs:List (List Key×V)}{k:List Key}(e:H a=some (.dT kvs))(eb:H b=some (.tup (k.map kV)))(hl:kvs.length < sizeLine) :
  wx H a (.ref b) v (upd H a (.dT (putK kvs k v))):=.inr ⟨kvs,k,b,e,rfl,eb,hl,rfl⟩
section
variable{X:Cx}{pins:ao}{σ:St}{H:Hp}{s:Shared}{a:Addr}{y v:V}{u r:Value}{o:Option V}{A:Around}{E:aj}
theorem Inv.big(I:Inv X pins σ H s):sysModules < s.heap.objs.size:=by
 have h:mainGlobals < s.heap.objs.size:=(I.mod.glob.keeps I.bk).lt;exact wy (by decide) h
theorem aJB{Q:aj}(hu:A.units+1 < cLine)(I:Inv X pins σ H s)(g:jU H a y (some v))(ry:RelV y u)(h:∀w' s',Inv X pins σ H s'->RelV v w'->Q w' s') :
  wpAny (model X.prog X.w) A (getItem (.ref a) u) Q E s:=by
 rcases g with ⟨kvs,k,e,ey,l⟩|⟨kvs,k,b,e,ey,eb,l⟩
 ·subst ey;obtain⟨z,hd,vs,rel,dd⟩:=Be I.av e;obtain⟨w',hw,ny⟩:=uY.some_of (v:=v) (o:=valueAt vs k) (by rw[l];exact rel.val k);exact wpAny_getItem_of (DE ry) dd.mapOf hw (h w' _ (I.tok _) ny)
 ·subst ey;cases (show u=Value.ref b from ry);obtain⟨z,hd,xs,rel,dd⟩:=Cf I.av e;obtain⟨w',hw,ny⟩:=uY.some_of (v:=v) (o:=(atKey xs k).map (·.2)) (by rw[l];exact rel.val k);obtain⟨p,hp,LR⟩:=yQ.mp hw;refine wpAny_getItem_heap (tupleKind_room_in1 hu) (vI I.av eb) dd hp ?_;rw[LR];exact h w' _ (I.tok _) ny
theorem aRR{Q:aj}(hu:A.units+1 < cLine)(I:Inv X pins σ H s)(g:jU H a y o)(ry:RelV y u)(h:∀s',Inv X pins σ H s'->Q (.bool o.isSome) s') :
  wpAny (model X.prog X.w) A (compareOp .In u (.ref a)) Q E s:=by
 rcases g with ⟨kvs,k,e,ey,l⟩|⟨kvs,k,b,e,ey,eb,l⟩
 ·subst ey;obtain⟨z,hd,vs,rel,dd⟩:=Be I.av e;refine wpAny_in_of (DE ry) hd dd.mapOf ?_;rw[<-(rel.val k).PU,<-l];exact h _ (I.tok _)
 ·subst ey;cases (show u=Value.ref b from ry);obtain⟨z,hd,xs,rel,dd⟩:=Cf I.av e;refine wpAny_in_heap (tupleKind_room_in1 hu) (vI I.av eb) hd dd ?_;have q:=(rel.val k).PU;rw[Option.isSome_map] at q;rw[<-q,<-l];exact h _ (I.tok _)
theorem Pf{h':Heap}{t':Nat}(I:Inv X pins σ H s)(mu:FQ (H a))(hs:Heap.SameBut a s.heap h')(he:∃q,h'.get? a=some q)(new:bO X.prog X.w (upd H a ob) h' a ob) :
  Inv X pins σ (upd H a ob) { s with heap:=h',toks:=t' }:=
 I.write (x:=a) (e:=a) mu (.inl rfl) (λb q hb z=>(hs.2 b hb).trans z) he new
theorem aPy{h':Heap}{kvs:List (Key×V)}(z:kvs.length<=sizeLine)(hd:(a == sysModules)=false)(rel:KV kvs vs)(dd:h'.DictOf (cB P w) a vs) :
  bO P w H' h' a (.dK kvs):=⟨z,hd,vs,rel,dd⟩
theorem aJC{H':Hp}{Q:Unit->Shared->Prop}(hu:A.units+1 < cLine)(I:Inv X pins σ H s)(g:wx H a y v H')(ry:RelV y u)(rv:RelV v r)(h:∀s',Inv X pins σ H' s'->Q () s') :
  wpAny (model X.prog X.w) A (setItem (.ref a) u r) Q E s:=by
 rcases g with ⟨kvs,k,e,ey,l,eH⟩|⟨kvs,k,b,e,ey,eb,l,eH⟩
 ·subst ey eH;obtain⟨z,hd,vs,rel,dd⟩:=aQ6 I.av e;have hz:vs.length<=sizeLine:=by rw[<-rel.length];exact z
  have hl:(putK kvs k v).length<=sizeLine:=by have:=lB kvs k v;lia
  refine wpAny_setItem_pairs (hsz:=hz) (DE ry) dd λh' Dt hs=>h _ ?_;have he:∃q,h'.get? a=some q:=let ⟨q,_,_,hq,_⟩:=Dt;⟨q,hq⟩
  exact Pf I (by rw[e];exact True.intro) hs he (aPy hl hd (rel.put k rv) Dt)
 ·subst ey eH;cases (show u=Value.ref b from ry);obtain⟨z,hd,xs,rel,dd⟩:=aOw I.av e;have hz:xs.length<=sizeLine:=by rw[<-Paired.length rel];exact z
  have hl:(putK kvs k v).length<=sizeLine:=by have:=lB kvs k v;lia
  refine wpAny_setItem_heap (hsz:=hz) (tupleKind_room_in1 hu) (vI I.av eb) dd λh' Dt hs=>h _ ?_;obtain⟨q,es,ep,hq,h2,h3,h4,_,h5⟩:=Dt;refine Pf I (by rw[e];exact True.intro) hs ⟨q,hq⟩ ⟨hl,hd,_,(rel.put k eb rv).keeps λc ys ec=>?_,q,es,ep,hq,h2,h3,h4,h5⟩;rw[aS (aOq ec e (λz=>nomatch z))];exact ec
end
def NN(i:Expr):Prop:=∀ov iv,subscripted i false ov iv=operate [ov,iv] (getItem ov iv)
theorem aNc{prog:Program}{w:World}{A:Around}{E:aj}{s:Shared}{env:Env}{value slice:Expr}{pos:Pos}{T id:String}{Q:aj}
  (hl:typeLookup (.type T) "__getitem__" = pure (some (.builtin id))) (hs:NN slice)
  (h:wpAny (model prog w) A (eval value env) (λo au=>wpAny (model prog w) A (eval slice env) (λi dg=>dg.TypeIs o T/\wpAny (model prog w) A (getItem o i) Q E dg) E au) E s) :
  wpAny (model prog w) A (eval (.Subscript value slice pos) env) Q E s:=by
 refine Subscript_ (kb h (λo au h₁=>kb h₁ (λi dg xp=>?_) λ_ _ x=>x) λ_ _ x=>x);obtain⟨hT,xp⟩:=xp;unfold subscriptTail;refine aR ?_;rw[getitemInPython_of_ne hT.not_modules];refine aR (wpAny_specialOf hT hl ?_);have fin:wpAny (model prog w) A (subscripted slice false o i) (λr fb=>wpAny (model prog w) A (letTemporaryGo value o r >>= λ_=>pure r) Q E fb) E dg:=by
  rw[hs o i];exact wpAny_operating (kb xp (λr fb AA=>aR (wpAny_letTemporaryGo (bI AA))) λ_ _ x=>x)
 first
  |exact bI (aR fin)
  |exact aR (bI (aR fin))
  |exact aR fin
theorem aGn{s:Shared}(I:Inv X pins σ H s)(g:jU H a y o):s.TypeIs (.ref a) "dict":=by
 rcases g with ⟨kvs,k,e,_,_⟩|⟨kvs,k,b,e,_,_,_⟩
 ·obtain⟨_,_,vs,_,dd⟩:=Be I.av e;exact dd.typeIs
 ·obtain⟨_,_,xs,_,dd⟩:=Cf I.av e;exact dd.typeIs
def OD(td ty:TE):TE:=λσ H Q=>td σ H λx H1=>ty σ H1 λy H2=>∃a v,x=.ref a/\jU H2 a y (some v)/\Q v H2
def OC(td ty tv:TE):TS:=λD σ H=>tv σ H λv H1=>td σ H1 λx H2=>ty σ H2 λy H3=>∃a H4,x=.ref a/\wx H3 a y v H4/\D.nx σ H4
section
variable{X:Cx}{o i e value:Expr}{pos pos' Cz:Pos}{td ty tv:TE}
theorem aNd(hu:X.A.units+1 < cLine)(ho:PE X o td)(hi:PE X i ty)(hs:NN i):PE X (.Subscript o i pos) (OD td ty):=by
 intro pins s σ H Q I h;refine aNc PySem.F.slot_dict_getitem.lookup hs (dP (ho pins s σ H _ I h) λu s1 ⟨x,H1,I1,rx,q1⟩=>dP (hi pins s1 σ H1 _ I1 q1) λiv s2 zq=>?_);obtain⟨y,H2,I2,ry,a,v,ex,g,q2⟩:=zq;subst ex;obtain rfl:u=Value.ref a:=rx;exact⟨aGn I2 g,aJB hu I2 g ry λw' s3 I3 ny=>⟨v,H2,I3,ny,q2⟩⟩
theorem aNe(hu:X.A.units+1 < cLine)(ho:PE X o td)(hi:PE X i ty)(hv:PE X value tv)(hs:swapsWith value (some (.Subscript o i pos')) pos.line X.env=pure false) :
  PS X (.Assign [.Subscript o i pos'] value pos) (OC td ty tv):=by
 intro pins s σ H D I h;refine wpAny_Assign_Subscript (dP (hv pins s σ H _ I h) λr s1 ⟨v,H1,I1,rv,q1⟩=>dP (ho pins s1 σ H1 _ I1 q1) λu s2 ⟨x,H2,I2,rx,q2⟩=>dP (hi pins s2 σ H2 _ I2 q2) λiv s3 zq=>?_) hs;obtain⟨y,H3,I3,ry,a,H4,ex,g,q3⟩:=zq;subst ex;obtain rfl:u=Value.ref a:=rx;exact aJC hu I3 g ry rv λs4 I4=>⟨σ,H4,I4,q3⟩
end
theorem aKS(h:Heap)(hb:sysModules < h.objs.size):bO P w H (h.push { cls:=.type "dict",data:=.dict #[] }) h.objs.size (.dK []):=
 ⟨dz _,beq_eq_false_iff_ne.mpr (Ne.symm (gM hb)),[],.nil,Heap.DictOf.new h⟩
theorem aGo(h:Heap)(hb:sysModules < h.objs.size):bO P w H (h.push { cls:=.type "dict",data:=.dict #[] }) h.objs.size (.dT []):=
 ⟨dz _,beq_eq_false_iff_ne.mpr (Ne.symm (gM hb)),[],.nil,_,#[],0,mJ _ rfl,⟨rfl,rfl,rfl⟩,rfl,rfl,Bh⟩
def aPA:TE:=λ_ H Q=>∀p,H p=none->Q (.ref p) (upd H p (.dK []))
def aPB:TE:=λ_ H Q=>∀p,H p=none->Q (.ref p) (upd H p (.dT []))
section
variable{X:Cx}{pos:Pos}
theorem aKT:PE X (.Dict [] [] pos) aPA:=λpins s σ H Q I h=>
 wpAny_Dict_empty ⟨.ref s.heap.objs.size,_,I.laid (a:=s.heap.objs.size) (o:=.dK []) (t':=s.toks) (λ_ _ q=>fX _ q) (d7 _) (aKS s.heap I.big),rfl,h _ (I.av.fresh (d7 _))⟩
theorem aKU:PE X (.Dict [] [] pos) aPB:=λpins s σ H Q I h=>
 wpAny_Dict_empty ⟨.ref s.heap.objs.size,_,I.laid (a:=s.heap.objs.size) (o:=.dT []) (t':=s.toks) (λ_ _ q=>fX _ q) (d7 _) (aGo s.heap I.big),rfl,h _ (I.av.fresh (d7 _))⟩
end
structure M1(X:Cx)(o:Expr)(m:Str)(apos:Pos)(e:Expr)(aw:Pos):Prop where
 base:attributeBase o m X.env (eval o X.env)=eval o X.env
 yT:((backTo aw (starEach [e] X.env)).all (λx=>!x.1) && (backToKw aw (keywordEach [] X.env)).all (λx=>x.1.isSome)
  && decide (([e]:List Expr).length+([]:List Keyword).length+(if ([]:List Keyword).isEmpty then 0 else 1) < 30))=true
 line:(apos.endLine == aw.line)=true
 trees:backTo aw (starEach [e] X.env)=[(false,eval e X.env)]
structure M2(X:Cx)(o:Expr)(m:Str)(apos:Pos)(e f:Expr)(aw:Pos):Prop where
 base:attributeBase o m X.env (eval o X.env)=eval o X.env
 yT:((backTo aw (starEach [e,f] X.env)).all (λx=>!x.1) && (backToKw aw (keywordEach [] X.env)).all (λx=>x.1.isSome)
  && decide (([e,f]:List Expr).length+([]:List Keyword).length+(if ([]:List Keyword).isEmpty then 0 else 1) < 30))=true
 line:(apos.endLine == aw.line)=true
 trees:backTo aw (starEach [e,f] X.env)=[(false,eval e X.env),(false,eval f X.env)]
def Bt(H:Hp)(a:Addr):Prop:=(∃kvs,Rd H a (.dK kvs))\/∃kvs,Rd H a (.dT kvs)
theorem aKV{s:Shared}(I:Inv X pins σ H s)(d:Bt H a) :
  s.TypeIs (.ref a) "dict"/\(∀b,Value.ref a=.ref b->∃ob,s.heap.get? b=some ob/\ob.dict=none)/\(a == sysModules)=false:=by
 rcases d with ⟨kvs,e⟩|⟨kvs,e⟩
 ·obtain⟨_,hd,vs,_,dd⟩:=Be I.av e;refine⟨dd.typeIs,λb q=>?_,hd⟩;cases q;obtain⟨ob,_,_,h1,h2,_⟩:=dd;exact⟨ob,h1,h2.2.1⟩
 ·obtain⟨_,hd,xs,_,dd⟩:=Cf I.av e;refine⟨dd.typeIs,λb q=>?_,hd⟩;cases q;obtain⟨ob,_,_,h1,h2,_⟩:=dd;exact⟨ob,h1,h2.2.1⟩
section
variable{X:Cx}{pins:ao}{σ:St}{H:Hp}{s:Shared}{a:Addr}{y d:V}{u r:Value}{o:Option V}{A:Around}{E:aj}
theorem aPC{Q:aj}(hu:A.units+1 < cLine)(I:Inv X pins σ H s)(g:jU H a y o)(ry:RelV y u)(h:∀w' s',Inv X pins σ H s'->RelV (o.getD .ba) w'->Q w' s') :
  wpAny (model X.prog X.w) A (call (.builtin "dict.get") [.ref a,u]) Q E s:=by
 rcases g with ⟨kvs,k,e,ey,l⟩|⟨kvs,k,b,e,ey,eb,l⟩
 ·subst ey;obtain⟨z,hd,vs,rel,dd⟩:=Be I.av e;refine call_meetsIn PySem.F.slot_dict_get dd.typeIs PySem.F.entry_dict_get (PySem.F.args_dict_get_2 _ _) (meets_dict_get (cB X.prog X.w) a (DE ry) hd) ⟨_,dd.mapOf,h _ _ (I.tok _) ?_⟩;rw[l];exact(rel.val k).getD rfl
 ·subst ey;cases (show u=Value.ref b from ry);obtain⟨z,hd,xs,rel,dd⟩:=Cf I.av e;refine call_meetsIn PySem.F.slot_dict_get dd.typeIs PySem.F.entry_dict_get (PySem.F.args_dict_get_2 _ _) (meetsH_dict_get (tupleKind (cB X.prog X.w)) a b hd) ⟨tupleKind_room_in1 hu,k,xs,vI I.av eb,dd,h _ _ (I.tok _) ?_⟩;rw[l];exact(rel.val k).getD rfl
theorem aPD{Q:aj}(hu:A.units+1 < cLine)(I:Inv X pins σ H s)(g:jU H a y o)(ry:RelV y u)(rd:RelV d r)(h:∀w' s',Inv X pins σ H s'->RelV (o.getD d) w'->Q w' s') :
  wpAny (model X.prog X.w) A (call (.builtin "dict.get") [.ref a,u,r]) Q E s:=by
 rcases g with ⟨kvs,k,e,ey,l⟩|⟨kvs,k,b,e,ey,eb,l⟩
 ·subst ey;obtain⟨z,hd,vs,rel,dd⟩:=Be I.av e;refine call_meetsIn PySem.F.slot_dict_get dd.typeIs PySem.F.entry_dict_get (PySem.F.args_dict_get_3 _ _ _) (meets_dict_get_default (cB X.prog X.w) a (DE ry) hd r) ⟨_,dd.mapOf,h _ _ (I.tok _) ?_⟩;rw[l];exact(rel.val k).getD rd
 ·subst ey;cases (show u=Value.ref b from ry);obtain⟨z,hd,xs,rel,dd⟩:=Cf I.av e;refine call_meetsIn PySem.F.slot_dict_get dd.typeIs PySem.F.entry_dict_get (PySem.F.args_dict_get_3 _ _ _) (meetsH_dict_get_default (tupleKind (cB X.prog X.w)) a b hd r) ⟨tupleKind_room_in1 hu,k,xs,vI I.av eb,dd,h _ _ (I.tok _) ?_⟩;rw[l];exact(rel.val k).getD rd
end
def OS(td ty:TE):TE:=λσ H Q=>td σ H λx H1=>∃a,x=.ref a/\Bt H1 a/\ty σ H1 λy H2=>∃o,jU H2 a y o/\Q (o.getD .ba) H2
def O6(td ty tx:TE):TE:=λσ H Q=>td σ H λx H1=>∃a,x=.ref a/\Bt H1 a/\ty σ H1 λy H2=>tx σ H2 λz H3=>∃o,jU H3 a y o/\Q (o.getD z) H3
section
variable{X:Cx}{o e f:Expr}{apos aw:Pos}{td ty tx:TE}
theorem aKW(hu:X.A.units+1 < cLine)(ho:PE X o td)(he:PE X e ty)(m:M1 X o "get" apos e aw):PE X (.Call (.Attribute o "get" apos) [e] [] aw) (OS td ty):=by
 intro pins s σ H Q I h;refine wpAny_Call_method m.base m.yT m.line PySem.F.plainAttrs_dict PySem.F.slot_dict_get PySem.F.type_dict_get (dP (ho pins s σ H _ I h) λu s1 zq=>?_);obtain⟨x,H1,I1,rx,a,ex,d,q1⟩:=zq;subst ex;obtain rfl:u=Value.ref a:=rx;obtain⟨t1,t2,_⟩:=aKV I1 d;refine⟨t1,t2,?_⟩;rw[m.trees];refine Calls.callWith_builtin rfl (Calls.evalArgs_plain (Calls.spliced_cons (dP (he pins s1 σ H1 _ I1 q1) λiv s2 ⟨y,H2,I2,ry,ov,g,q2⟩=>Calls.spliced_nil ?_)));exact aPC hu I2 g ry λw' s3 I3 ny=>⟨_,H2,I3,ny,q2⟩
theorem aKX(hu:X.A.units+1 < cLine)(ho:PE X o td)(he:PE X e ty)(hf:PE X f tx)(m:M2 X o "get" apos e f aw):PE X (.Call (.Attribute o "get" apos) [e,f] [] aw) (O6 td ty tx):=by
 intro pins s σ H Q I h;refine wpAny_Call_method m.base m.yT m.line PySem.F.plainAttrs_dict PySem.F.slot_dict_get PySem.F.type_dict_get (dP (ho pins s σ H _ I h) λu s1 zq=>?_);obtain⟨x,H1,I1,rx,a,ex,d,q1⟩:=zq;subst ex;obtain rfl:u=Value.ref a:=rx;obtain⟨t1,t2,_⟩:=aKV I1 d;refine⟨t1,t2,?_⟩;rw[m.trees];refine Calls.callWith_builtin rfl (Calls.evalArgs_plain (Calls.spliced_cons (dP (he pins s1 σ H1 _ I1 q1) λiv s2 ⟨y,H2,I2,ry,q2⟩=>
  Calls.spliced_cons (dP (hf pins s2 σ H2 _ I2 q2) λfv s3 ⟨z,H3,I3,rz,ov,g,q3⟩=>Calls.spliced_nil ?_))))
 exact aPD hu I3 g ry rz λw' s4 I4 ny=>⟨_,H3,I4,ny,q3⟩
end
end L2
namespace Att
open PySem PySem.W PySem.Calls PyProof.Rows
theorem aCq:∀(ns:aa) (vs:af),WellAll P h vs (ns.map WData.int)->IntsAre vs ns:=by
 intro ns;induction ns with
 |nil=>
  intro vs w;rw[List.map_nil] at w;cases w;exact .nil
 |cons n ns ih=>
  intro vs w;rw[fm] at w;cases w with
  |cons a b=>
   cases a;exact .cons _ _ (ih _ b)
theorem aJD{l:OpenLaw}{n:Nat}(hn:l.most=some n){h:Heap}(mj:l.row.toRowW.claim.pre args=true)(LG:WellAll P h vals args) :
  ∃a vs ns,vals=[Value.ref a]/\args=[WData.list (ns.map WData.int)]/\h.get? a=some { cls:=.type "list",data:=.seq vs.toArray }/\IntsAre vs ns/\ns.length<=n:=by
 have hsh:WShape.hasAll [] args [.list .int]=true:=(pre_splitW mj).1;have hc:l.pre.holds [] { args:=args } = true:=(pre_splitW mj).2;obtain⟨d,r,rfl,h1,h2⟩:=hasAllW_cons hsh;obtain rfl:=hasAllW_nil h2;obtain⟨xs,rfl,h3⟩:=hasW_list h1;obtain⟨ns,rfl⟩:=items_int h3;have hlen:ns.length<=n:=by
  unfold OpenLaw.pre at hc;have h4:(WTm.not (.lt (.lit (.int (n:Int))) (.len (.arg 0)))).holds [] { args:=[.list (ns.map .int)] } = true:=by
   have h4:=(holds_andW hc).1;rw[hn] at h4;exact h4
  have h5:=condW_of h4 (w_not (w_lt w_lit (w_len_list (w_arg rfl))));rw[bK] at h5;refine Nat.le_of_not_lt λq=>?_;have q':(n:Int) < ((ns.length:Nat):Int):=by lia
  first
   |(rw[zV q'] at h5;exact absurd h5 (by decide))
   |(simp at h5;lia)
 cases LG with
 |cons w1 w2=>
  cases w2;cases w1 with
  |list ho fi=>exact⟨_,_,ns,rfl,rfl,ho,aCq ns _ fi,hlen⟩
theorem aJE(l:OpenLaw)(args:List WData):l.row.toRowW.claim.post args (.bool true) args=true:=
 postW_of (r:=l.row.toRowW) (X:=(true == true))
  (show WShape.has [] (.bool true) .bool=true by first|rfl|decide|simp[WShape.has,WShape.arms,WShape.armsAll])
  (show(WTm.eq .res (.lit (.bool true))).value [] { args:=args,res:=some (.bool true),after:=args } = some (.bool (true == true)) from w_eq_bool (w_res rfl) w_lit) rfl
theorem aGp{l:OpenLaw}{n:Nat}{XP:(Str->aq)->Heap->Prop}{YP:World->Heap->Prop}{d:DefRec}(hn:l.most=some n)(Ez:d.params.defaults=[])(call:∀(w:World) (s₀ au:Shared) (mg mb:Str->aq) (fa:Addr) (o:Obj) (pm cd doc:Value) (a:Addr) (vs:af) (ns:aa),
   Ground q loose [] XP w s₀ mg mb au.heap->YP w au.heap->
   au.heap.get? fa=some o->o.data=.func (docDef d.name d.params d.body d.scope pm cd doc)->au.heap.CodeRec cd d.name->mg d.name=some (.ref fa)->
   au.heap.get? a=some { cls:=.type "list",data:=.seq vs.toArray }->IntsAre vs ns->ns.length<=n->au.gens = #[]->
   codeAny (model l.prog w) callerA (.call (.ref fa) ⟨[.ref a],[]⟩) (λr s'=>r=.ok (.ret (.bool true))/\OldK au.heap s'.heap/\s'.os=au.os/\AllBare s'.gens) au) :
  WalkO q loose XP YP l.row.toRowW d [] (λf vs=>PySem.call f vs):=by
 intro w s₀ au mg mb G Y fa o pm cd doc dV kV ho hd ft hD Et hg args vals as mj a0q hrd LG hlo;obtain rfl:dV=.none:=Dflts.none hD Ez;obtain rfl:kV=.none:=Dflts.noKw hD;obtain⟨a,vs,ns,rfl,rfl,CK,hints,hlen⟩:=aJD hn mj LG;refine enter_call (codeAny_mono (call w s₀ au mg mb fa o pm cd doc a vs ns G Y ho (fd_plain hd) ft Et CK hints hlen hg) λr s' hq=>?_);obtain⟨rfl,h2,h3,h4⟩:=hq;exact⟨.inl ⟨.bool true,.bool true,[],rfl,λ_=>rfl,.bool true,aJE l _,λ_=>⟨List.Pairwise.nil,λ_ hm=>(nomatch hm)⟩⟩,h2,h3,h4⟩
end Att
namespace L2
open PySem PySem.Spec PyProof.Rows
theorem P6:∀{vs:af}{ns:aa},IntsAre vs ns->Vals (ns.map V.int) vs
 |_,_,.nil=>.nil
 |_,_,.cons n t h=>.cons ⟨t,rfl⟩ (P6 h)
def aQ7(H:Hp):Prop:=∀b,H b=none\/∃o xs,H b=some (.bu o (.lst xs))
theorem aQ8{K:PySem.W.Frag}{mg mb:Str->aq}{CX:rj}{k:Nat}{sp:Sp}{au:Shared}{vs:af}{ns:aa}(KX:K.In au.heap)(Ae:au.heap.Ns mainGlobals mg)(hb:au.heap.Ns builtinsNs mb)(Mg:∀x:Str,x≠"__name__"->mb x=bootBuiltins x)(CL:au.heap.NoLimit)(Mf:∃bm o,mg "__builtins__" = some (.ref bm)/\bm≠builtinsNs/\au.heap.get? bm=some o/\o.cls=.type "module"/\o.dict=some builtinsNs/\o.data=.plain)(hg:au.gens = #[])(ha:au.heap.get? a=some { cls:=.type "list",data:=.seq vs.toArray })(hi:IntsAre vs ns)(hl:ns.length<=sizeLine)(hr:eS k callerA)(F:∀base:Heap,K.In base->base.Ns mainGlobals mg->cE P w K mg base CX k fa fd [x] sp)(iu:∀(s:Shared) (u:Value),BindsTo s fd ⟨[u],[]⟩ [(x,u)])(gh:∀H:Hp,aQ7 H->bR K H a (ns.map V.int)->sp [.ref a] H (λv _=>v=.bl true) λ_ _ _=>False)(hCX:∀H e s',CX [] H au (λ_ _ _=>False) e s'->False) :
  codeAny (model P w) callerA (.call (.ref fa) ⟨[.ref a],[]⟩) (λr s'=>r=.ok (.ret (.bool true))/\OldK au.heap s'.heap/\s'.os=au.os/\AllBare s'.gens) au:=by
 have rv:=P6 hi;have xj:=hi.length;have core:∀H:Hp,aQ7 H->bR K H a (ns.map V.int)->uO P w H au.heap->(∀b,H b≠none->b=a)->(H a≠none->K.lookup a=none)->
   codeAny (model P w) callerA (.call (.ref fa) ⟨[.ref a],[]⟩) (λr s'=>r=.ok (.ret (.bool true))/\OldK au.heap s'.heap/\s'.os=au.os/\AllBare s'.gens) au:=by
  intro H hO hS av hA hK;have cu:∀{b:Addr} {o:Obj},au.heap.get? b=some o->H b=none->(yR au.heap H).get? b=some o:=λe n=>aGd e n;have vt:∀{b:Addr} {o:Obj} {es:Array DictEntry} {ep:Nat},au.heap.get? b=some o->o.data=.dict es ep->H b=none:=λ{b o es ep} e d=>by
   cases q:H b with
   |none=>rfl
   |some u=>
    have e':b=a:=hA b (by rw[q];simp);subst e';rw[ha] at e;cases e;have d':Data.seq vs.toArray _=Data.dict es ep:=d;cases d'
  have Ab:∀{b:Addr} {m:Str->aq},au.heap.Ns b m->(yR au.heap H).Ns b m:=λ{b m} ⟨o,es,ep,e,d,r⟩=>⟨o,es,ep,cu e (vt e d),d,r⟩
  have EF:K.In (yR au.heap H):=λb o e=>cu (KX b o e) (by
   cases q:H b with
   |none=>rfl
   |some u=>
    have e':b=a:=hA b (by rw[q];simp);subst e';rw[hK (by rw[q];simp)] at e;cases e)
  have CP:∃bm o,mg "__builtins__" = some (.ref bm)/\bm≠builtinsNs/\(yR au.heap H).get? bm=some o/\o.cls=.type "module"/\o.dict=some builtinsNs/\o.data=.plain:=by
   obtain⟨bm,ob,b1,b2,b3,b4,b5,b6⟩:=Mf;refine⟨bm,ob,b1,b2,cu b3 ?_,b4,b5,b6⟩;cases q:H bm with
   |none=>rfl
   |some u=>
    have e':bm=a:=hA bm (by rw[q];simp);rw[e',ha] at b3;cases b3;exact absurd (show Value.type "list" = Value.type "module" from b4) (by decide)
  have hM:Mod K mg (yR au.heap H):=⟨EF,Ab Ae,⟨mb,Ab hb,Mg⟩,(let ⟨mc,h1,h2⟩:=CL;⟨mc,Ab h1,h2⟩),CP⟩
  have e0:ze P w K mg (yR au.heap H) callerA [] au H:=⟨rfl,hM,λb o e=>aIv e,Fx (aEA _ _),trivial,λb hb=>absurd (show b∈([]:ah) from hb) (by simp),av,.of_eq hg⟩
  refine codeAny_mono ((F _ EF (Ab Ae)).run callerA [] au H ⟨[.ref a],[]⟩ [.ref a] [.ref a] _ _ hr e0 (iu au (.ref a)) (.cons rfl .nil) (gh H hO hS)) λr s' h=>?_;cases r with
  |error e=>exact(hCX H e s' h).elim
  |ok fl=>
   cases fl with
   |next=>exact False.elim h
   |brk=>exact False.elim h
   |cont=>exact False.elim h
   |ret u=>
    obtain⟨v,H',os,bare,un,AF,r',q⟩:=h;have q':v=.bl true:=q;subst q';obtain rfl:u=Value.bool true:=r';refine⟨rfl,OldK.of_keep λb o e=>?_,os,bare⟩;cases q:H b with
    |none=>exact un.keep b o e q (by intro z;exact absurd (show b∈([]:ah) from z) (by simp)) (by simp)
    |some u=>
     rcases hO b with z|⟨ob,xs,z⟩
     ·rw[q] at z;cases z
     ·have z2:=un.cv b ob _ z;obtain⟨e1,_⟩:=av b _ z;obtain⟨e2,_⟩:=AF b _ z2;rw[e] at e1;cases e1;exact e2
 cases hk:K.lookup a with
 |some o=>
  have e:=KX a o hk;rw[ha] at e;cases e;refine core (λ_=>none) (λ_=>.inl rfl) (.inr ⟨_,vs.toArray,_,hk,rfl,rfl,rfl,by rw[iL,xj];exact hl,by simpa using rv⟩) (λb u z=>by have z':(none:Option HO)=some u:=z;cases z') (λb z=>absurd rfl z) λz=>absurd rfl z
 |none=>
  refine core (λb=>if b=a then some (.bu { cls:=.type "list",data:=.seq vs.toArray } (.lst (ns.map V.int))) else none) (λb=>?_) (.inl (.inr ⟨{ cls:=.type "list",data:=.seq vs.toArray },cJ rfl⟩)) (λb u z=>?_) (λb z=>?_) λ_=>hk
  ·by_cases hb:b=a
   ·exact .inr ⟨_,_,cJ hb⟩
   ·exact .inl (bV hb)
  ·by_cases hb:b=a
   ·have z':=(cJ hb).symm.trans z;cases z';subst hb;exact⟨ha,by rw[bK];exact hl,vs,_,rv,ha⟩
   ·have z':=(bV hb).symm.trans z;cases z'
  ·by_cases hb:b=a
   ·exact hb
   ·exact absurd (bV hb) z
def inClass(s:Stmt)(j:Nat):Stmt:=match s with
 |.ClassDef _ _ _ body _ _ _ _ _ _ _=>body.getD j (.Pass ⟨0,0,0,0⟩)
 |_=>.Pass ⟨0,0,0,0⟩
def pD(s:Stmt):Arguments:=match s with
 |.FunctionDef _ a _ _ _ _ _ _ _ _=>a
 |_=>{ posonlyargs:=[],args:=[],vararg:=none,kwonlyargs:=[],kw_defaults:=[],kwarg:=none,defaults:=[] }
def j0(s:Stmt):List Stmt:=match s with
 |.FunctionDef _ _ b _ _ _ _ _ _ _=>b
 |_=>[]
def aL(s:Stmt):Scope:=match s with
 |.FunctionDef _ _ _ _ _ _ sc _ _ _=>sc
 |_=>{ kind:=.function,names:=[],isGenerator:=false,isCoroutine:=false }
abbrev hU:rj:=λ_ _ _ _ _ _=>False
abbrev E0:XK:=λ_ _ _=>False
theorem aV:Passes hU X E0:=λ_ _ _ _ _ _ _ h=>h.elim
structure jQ(K:W.Frag)(x qual:Str)(st:Stmt)(f:Addr)(fd:FuncData):Prop where
 ex:∃(oc:Value) (od:Option Addr) (kV doc pm:Value) (an:Option Addr) (bh ct:Value) (nz:Array (aq)),
  fd=W.fnOf x qual (pD st) (j0 st) (aL st) .none kV doc pm an bh ct/\K.lookup f=some ⟨oc,od,.func fd,nz⟩/\W.codeIn K bh qual=true
 kp:W.keepIn K (.ref f)=true
section
variable{P:Program}{w:World}{K:W.Frag}{mg:Str->aq}{base:Heap}
theorem jQ.ok{x qual:Str}{st:Stmt}{f:Addr}{fd:FuncData}{N ps:ak}{k:Nat}{sp:Sp}(F:jQ K x qual st f fd)(S:bC N ps (aL st))(len:∀vs H Q E,sp vs H Q E->vs.length=ps.length)
  (cw:∀(bh:Value) (A:Around) (outer:List Env) (s:Shared) (H:Hp) (vs:List V) (Q:VK) (E:XK),eS k (A.deeper (envOfC qual (aL st) s.heap.objs.size f bh))->sp vs H Q E->
   ∃t,ph (B9 hU P w K mg base N qual (aL st) f bh A outer s H E).C9 (j0 st) t/\t { nx:=λ_ H'=>Q .ba H',rt:=Q } (start N vs) H):cE P w K mg base hU (k+1) f fd ps sp:=by
 obtain⟨oc,od,kV,doc,pm,an,bh,ct,nz,rfl,lk,ft⟩:=F.ex;refine aOs lk ft S len λA outer s H vs Q E hr gh=>?_;obtain⟨t,h,q⟩:=cw bh A outer s H vs Q E hr gh;exact⟨t,h.C9,q⟩
theorem jQ.binds{x qual:Str}{st:Stmt}{f:Addr}{fd:FuncData}{ps:ak}(F:jQ K x qual st f fd)
  (h:∀(kV doc pm:Value) (an:Option Addr) (bh ct:Value) (us:af),us.length=ps.length->bindArgs (W.fnOf x qual (pD st) (j0 st) (aL st) .none kV doc pm an bh ct) ⟨us,[]⟩=pure (ps.zip us)):Binds K fd ps []:=by
 obtain⟨oc,od,kV,doc,pm,an,bh,ct,nz,rfl,lk,ft⟩:=F.ex;exact .all (h kV doc pm an bh ct)
theorem Jx{x qual:Str}{st:Stmt}{f:Addr}{oc:Value}{od an:Option Addr}{nz:Array (aq)}{kV doc pm bh ct:Value}(l:K.lookup f=some ⟨oc,od,.func (W.fnOf x qual (pD st) (j0 st) (aL st) .none kV doc pm an bh ct),nz⟩)
  (c:W.codeIn K bh qual=true) (k:W.keepIn K (.ref f)=true):jQ K x qual st f (W.fnOf x qual (pD st) (j0 st) (aL st) .none kV doc pm an bh ct):=⟨⟨oc,od,kV,doc,pm,an,bh,ct,nz,rfl,l,c⟩,k⟩
end
section
variable{X:Cx}
theorem pv(i:Nat)(hN:X.N[i]?=some x:=by rfl)(hv:Bf X.env.scope x:=by first|exact Or.inl rfl|exact Or.inr (Or.inl rfl)|exact Or.inr (Or.inr rfl))(hd:(x == ("__debug__" : Str))=false:=by decide)(ft:(x == ("__classdict__" : Str))=false:=by decide):PE X (.Name x pos) (IZ i):=OW hN hv hd ft
end
theorem IQ{A B:Prop}(h:B):if false=true then A else B:=by
 rw[bV fo];exact h
theorem IP{A B:Prop}(h:A):if true=true then A else B:=by
 rw[cJ rfl];exact h
def aO(H H':Hp):Prop:=∀b o,H b=some o->H' b=some o
theorem aO.refl(H:Hp):aO H H:=λ_ _ h=>h
theorem aO.trans(a:aO H H1)(b:aO H1 H2):aO H H2:=λc o h=>b c o (a c o h)
theorem aO.free(e:aO H H')(h:H' l=Option.none):H l=Option.none:=by
 cases q:H l with
 |none=>rfl
 |some o=>
  rw[e l o q] at h;cases h
theorem aO.seq{K:W.Frag}{H H':Hp}{a:Addr}{xs:List V}(e:aO H H')(h:bR K H a xs):bR K H' a xs:=by
 rcases h with (h|⟨o,h⟩)|h
 ·exact .inl (.inl (e _ _ h))
 ·exact .inl (.inr ⟨o,e _ _ h⟩)
 ·exact .inr h
section
variable{prog:Program}{w:World}{A:Around}{R:Result->Shared->Prop}{s:Shared}
theorem aGq(I:Nat->Shared->Prop)(turn:∀n s,I n s->wpAny (model prog w) A (pyNext it) (λr au=>match r with
   |none=>R (.ok .next) au
   |some v=>wpAny (model prog w) A (letOwnedTupleGo target it v) (λ_ By=>wpAny (model prog w) A (assign target env v) (λ_ dg=>
     wpAny (model prog w) A (forIn ifs true λc r=>if r=true then do let ok <-isTrue c env (eval c env);pure (ForInStep.yield ok) else pure (ForInStep.yield r)) (λok fb=>
      if ok=true then wpAny (model prog w) A (eval elt env) (λx Ax=>
       wpAny (model prog w) A (call (.builtin "list.append") [acc,x]) (λ_ FW=>∃m,m < n/\I m FW) (notedBy (model prog w) A env λe s'=>R (.error e) s') Ax) (notedBy (model prog w) A env λe s'=>R (.error e) s') fb
      else ∃m,m < n/\I m fb) (notedBy (model prog w) A env λe s'=>R (.error e) s') dg) (notedBy (model prog w) A env λe s'=>R (.error e) s') By) (notedBy (model prog w) A env λe s'=>R (.error e) s') au)
   (notedBy (model prog w) A env λe s'=>R (.error e) s') s) (n:Nat) (h:I n s) :
  codeAny (model prog w) A (.compLoop (.ListComp elt [⟨target,iter,ifs,0⟩] scope pos) 0 it acc env) R s:=by
 refine codeAny_loop rfl I (λn s hI=>?_) n h;show wpAny _ A ((compTurn (.ListComp elt [⟨target,iter,ifs,0⟩] scope pos) 0 it acc env).onRaise (λx=>do noteFrame x env;theTreesLotGoes x)) _ _ s;refine wpAny_noted ?_;rw[compTurn_list];refine aR (wpAny_standAt (aR (kb (turn n s hI) (λr au h₁=>?_) λ_ _ h'=>h')));cases r with
 |none=>exact bI h₁
 |some v=>
  refine aR (kb h₁ (λ_ By GU=>?_) λ_ _ h'=>h');refine aR (kb GU (λ_ dg xp=>aR (kb xp (λok fb AA=>?_) λ_ _ h'=>h')) λ_ _ h'=>h');cases ok with
  |false=>exact bI ⟨rfl,AA⟩
  |true=>
   exact aR (aR (kb AA (λx Ax WT=>aR (kb WT (λ_ FW WR=>bI (bI ⟨rfl,WR⟩)) λ_ _ h'=>h')) λ_ _ h'=>h'))
end
def lC(env:Env):List (Str×NameKind)->List (Str×Addr)->List (Str×Addr)
 |[],cs=>cs
 |(n,k)::r,cs=>lC env r (if (k == NameKind.free)=true then (n,(env.cells.lookup n).getD 0)::cs else cs)
theorem sA{scope:Scope}{env:Env}(h:∀x∈scope.names,x.2=.free->∃c,env.cells.lookup x.1=some c):closureFor scope env=pure (lC env scope.names []):=by
 simp only[closureFor];generalize ([]:List (Str×Addr))=cs;revert h cs;generalize scope.names=names;intro h;induction names with
 |nil=>intro cs;rfl
 |cons x r ih=>
  intro cs;obtain⟨n,k⟩:=x;have ih:=ih λy hy=>h y (fh _ hy);rw[List.forIn_cons];by_cases hk:k=.free
  ·subst hk;obtain⟨c,hc⟩:=h (n,.free) jc rfl;have wk:env.cells.lookup n=some c:=hc;have e:lC env ((n,NameKind.free)::r) cs=lC env r ((n,c)::cs):=by
    show lC env r (if (NameKind.free == NameKind.free)=true then (n,(env.cells.lookup n).getD 0)::cs else cs)=_;rw[wk];rfl
   rw[e,<-ih];simp only[cellOf,wk,beq_self_eq_true,if_true];rfl
  ·have hb:(k == NameKind.free)=false:=by simpa using hk
   have e:lC env ((n,k)::r) cs=lC env r cs:=by
    show lC env r (if (k == NameKind.free)=true then (n,(env.cells.lookup n).getD 0)::cs else cs)=_;rw[hb];rfl
   rw[e,<-ih];simp only[hb,u9,if_false];rfl
theorem JY{env:Env}:∀(names:List (Str×NameKind)) (cs:List (Str×Addr)),(∀y∈names,y.2=.free->∃c,env.cells.lookup y.1=some c)->(x,c)∈lC env names cs->(x,c)∈cs\/env.cells.lookup x=some c
 |[],cs,_,h=>.inl h
 |(n,k)::r,cs,hf,h=>by
  have h':(x,c)∈lC env r (if (k == NameKind.free)=true then (n,(env.cells.lookup n).getD 0)::cs else cs):=h;rcases JY r _ (λy hy=>hf y (fh _ hy)) h' with q|q
  ·by_cases hk:(k == NameKind.free)=true
   ·rw[cJ hk] at q;rcases lQ.mp q with e|q
    ·cases e;obtain⟨c,hc⟩:=hf (x,k) jc (by simpa using hk);have wk:env.cells.lookup x=some c:=hc;rw[wk];exact .inr rfl
    ·exact .inl q
   ·rw[bV hk] at q;exact .inl q
  ·exact .inr q
theorem aGr:∀(names:List (Str×NameKind)) (cs:List (Str×Addr)),p∈cs->p∈lC env names cs
 |[],_,h=>h
 |(n,k)::r,cs,h=>by
  show p∈lC env r (if (k == NameKind.free)=true then (n,(env.cells.lookup n).getD 0)::cs else cs);refine aGr r _ ?_;split
  ·exact fh _ h
  ·exact h
theorem aGs{env:Env}:∀(names:List (Str×NameKind)) (cs:List (Str×Addr)),(x,NameKind.free)∈names->env.cells.lookup x=some c->(x,c)∈lC env names cs
 |[],_,h,_=>by cases h
 |(n,k)::r,cs,h,hc=>by
  show(x,c)∈lC env r (if (k == NameKind.free)=true then (n,(env.cells.lookup n).getD 0)::cs else cs);rcases lQ.mp h with e|h
  ·cases e;refine aGr r _ ?_;rw[cJ (by simp),hc];exact jc
  ·exact aGs r _ h hc
theorem yX:∀{l:List (Str×Addr)},(x,c)∈l->(∀d,(x,d)∈l->d=c)->l.lookup x=some c
 |[],h,_=>by cases h
 |(n,d)::r,h,u=>by
  rw[iq];by_cases e:x=n
  ·subst e;rw[beq_self_eq_true];rw[u d jc]
  ·rw[show(x == n)=false by simpa using e];rcases lQ.mp h with q|q
   ·cases q;exact absurd rfl e
   ·exact yX q λd hd=>u d (fh _ hd)
theorem vJ{env:Env}(hf:∀y∈names,y.2=.free->∃c,env.cells.lookup y.1=some c)(hx:(x,NameKind.free)∈names)(hc:env.cells.lookup x=some c):(lC env names []).lookup x=some c:=
 yX (aGs names [] hx hc) λd hd=>by
  rcases JY names [] hf hd with q|q
  ·cases q
  ·rw[hc] at q;exact(Option.some.inj q).symm
theorem mM{env:Env}(hf:∀y∈names,y.2=.free->∃c,env.cells.lookup y.1=some c)(h:(lC env names []).lookup x=some c):env.cells.lookup x=some c:=by
 rcases JY names [] hf (PySem.mem_of_lookup h) with q|q
 ·cases q
 ·exact q
def tq(X:Cx)(scope:Scope)(N:ak)(fp:ah)(C:Addr)(s:Shared)(H:Hp):Cx where
 prog:=X.prog
 w:=X.w
 K:=X.K
 mg:=X.mg
 base:=X.base
 A:=X.A
 N:=N
 s₀:=s
 qd:=H
 env:=compEnvC scope (lC X.env scope.names []) C X.env
 outer:=X.stack
 stack:=X.stack
 ex:=fp
 fn:=λ_=>false
 calm:=X.calm
 pn:=[]
 xe:=λ_ _=>False
theorem uO.OB{P:Program}{w:World}{H:Hp}{h:Heap}{a:Addr}{o:HO}(x:uO P w H h)(hn:H a=none)(new:bO P w (upd H a o) h a o):uO P w (upd H a o) h:=λb u e=>by
 by_cases hb:b=a
 ·subst hb;rw[aP] at e;cases e;exact new
 ·rw[aS hb] at e;exact(x b u e).vf (λc v _ q=>q) (λc q=>by rw[aS (bM q hn)];exact q) λc xs _ q=>by rw[aS (bM q hn)];exact q
theorem Un.OB{fs ex:ah}{H H1:Hp}{h h1:Heap}{a:Addr}{o:HO}(u:Un fs ex H H1 h h1)(hs:h.objs.size<=a)(hn:H1 a=none):Un fs ex H (upd H1 a o) h h1 where
 keep:=u.keep
 slot:=u.slot
 free:=λb ob q n hx=>by rw[aS (gM (rT (eB q) hs))];exact u.free b ob q n hx
 there:=u.there
 rV:=λb xs q=>by rw[aS (bM (u.rV b xs q) hn)];exact u.rV b xs q
 cv:=λb ob xs q=>by rw[aS (bM (u.cv b ob xs q) hn)];exact u.cv b ob xs q
 ez:=λb ps q=>by
  obtain⟨m,e⟩:=u.ez b ps q;exact⟨m,by rw[aS (bM e hn)];exact e⟩
theorem gJ{env:Env}:∀{names:List (Str×NameKind)}{x:Str},names.lookup x=some .free->
  (names.map λ(n,k)=>if (k == NameKind.free && env.scope.kind == .function && env.kindOf n == some .cell) then (n,NameKind.cell) else (n,k)).lookup x=some .cell\/
  (names.map λ(n,k)=>if (k == NameKind.free && env.scope.kind == .function && env.kindOf n == some .cell) then (n,NameKind.cell) else (n,k)).lookup x=some .free
 |[],_,h=>by simp at h
 |(n,k)::r,x,h=>by
  have ih:=@gJ env r x;show List.lookup x ((if (k == NameKind.free && env.scope.kind == .function && env.kindOf n == some .cell)=true then (n,NameKind.cell) else (n,k))::_)=_\/List.lookup x ((if (k == NameKind.free && env.scope.kind == .function && env.kindOf n == some .cell)=true then (n,NameKind.cell) else (n,k))::_)=_;cases hx:x == n with
  |true=>
   simp only[iq,hx] at h;cases h;by_cases hc:(NameKind.free == NameKind.free && env.scope.kind == .function && env.kindOf n == some .cell)=true
   ·rw[cJ hc];simp only[iq,hx];exact .inl trivial
   ·rw[bV hc];simp only[iq,hx];exact .inr trivial
  |false=>
   simp only[iq,hx] at h;by_cases hc:(k == NameKind.free && env.scope.kind == .function && env.kindOf n == some .cell)=true
   ·rw[cJ hc];simp only[iq,hx];exact ih h
   ·rw[bV hc];simp only[iq,hx];exact ih h
theorem aAB{env:Env}{ow:Option Str}:∀{names:List (Str×NameKind)}{x:Str},(∀z∈names,z.2=.cell->ow=some z.1)->
  ((names.map λ(n,k)=>if (k == NameKind.free && env.scope.kind == .function && env.kindOf n == some .cell) then (n,NameKind.cell) else (n,k)).lookup x=some .cell\/
  (names.map λ(n,k)=>if (k == NameKind.free && env.scope.kind == .function && env.kindOf n == some .cell) then (n,NameKind.cell) else (n,k)).lookup x=some .free)->ow=some x\/(x,NameKind.free)∈names
 |[],_,_,h=>by simp at h
 |(n,k)::r,x,hc,h=>by
  have ih:=@aAB env ow r x λz hz=>hc z (fh _ hz);have h':List.lookup x ((if (k == NameKind.free && env.scope.kind == .function && env.kindOf n == some .cell)=true then (n,NameKind.cell) else (n,k))::_)=_\/List.lookup x ((if (k == NameKind.free && env.scope.kind == .function && env.kindOf n == some .cell)=true then (n,NameKind.cell) else (n,k))::_)=_:=h;cases hx:x == n with
  |true=>
   have e:x=n:=by simpa using hx
   subst e;by_cases hq:(k == NameKind.free && env.scope.kind == .function && env.kindOf x == some .cell)=true
   ·have hk:(k == NameKind.free)=true:=by
     rw[Bool.and_assoc] at hq;exact(iz _ _▸hq).1
    rw[show k=NameKind.free by simpa using hk];exact .inr jc
   ·rw[bV hq] at h';simp only[iq,hx] at h';rcases h' with z|z
    ·cases z;exact .inl (hc _ jc rfl)
    ·cases z;exact .inr jc
  |false=>
   have go:_->ow=some x\/(x,NameKind.free)∈(n,k)::r:=λq=>(ih q).imp id (fh _);by_cases hq:(k == NameKind.free && env.scope.kind == .function && env.kindOf n == some .cell)=true
   ·rw[cJ hq] at h';simp only[iq,hx] at h';exact go h'
   ·rw[bV hq] at h';simp only[iq,hx] at h';exact go h'
structure eJ(X:Cx)(scope:Scope)(N:ak)(k:Nat)(idx:List Nat):Prop where
 kind:scope.kind=.function
 cq:∀y∈scope.names,y.2≠.cell
 names:∀y∈scope.names,y.2=.local->scope.names.lookup y.1=some .local
 free:∀y∈scope.names,y.2=.free->X.env.kindOf y.1=some .cell\/X.env.kindOf y.1=some .free
 nd:N.Nodup
 len:N.length=k+idx.length
 di:∀(i:Nat) (x:Str),(N.drop k)[i]?=some x->∃j:Nat,idx[i]?=some j/\X.N[j]?=some x/\scope.names.lookup x=some .free
def uz(k:Nat)(idx:List Nat)(σ:St):St:=List.replicate k none++idx.map λj=>(σ[j]?).join
def AU(ow:Option Str)(a:Addr):List (Str×Addr):=match ow with|none=>[]|some y=>[(y,a)]
def pow(ow:Option Str)(h:Heap):Heap:=match ow with|none=>h|some _=>h.push { cls:=.type "cell",data:=.cell none }
def jo(X:Cx)(ow:Option Str)(scope:Scope)(N:ak)(fp:ah)(C:Addr)(s:Shared)(H:Hp):Cx:=
 { tq X scope N fp C s H with env:=compEnvC scope (AU ow (C+1)++lC X.env scope.names []) C X.env,fn:=λx=>match ow with|none=>false|some y=>x == y }
structure lE(X:Cx)(ow:Option Str)(scope:Scope)(N:ak)(k:Nat)(idx:List Nat):Prop where
 kind:scope.kind=.function
 cf:∀n acc,cellsFrom n scope.names acc=AU ow n++acc
 pc:∀h,pushCells h scope.names=pow ow h
 cq:∀z∈scope.names,z.2=.cell->ow=some z.1
 names:∀z∈scope.names,z.2=.local->scope.names.lookup z.1=some .local
 free:∀z∈scope.names,z.2=.free->ow≠some z.1/\(X.env.kindOf z.1=some .cell\/X.env.kindOf z.1=some .free)
 nd:N.Nodup
 len:N.length=k+idx.length
 di:∀(i:Nat) (x:Str),(N.drop k)[i]?=some x->∃j:Nat,idx[i]?=some j/\X.N[j]?=some x/\scope.names.lookup x=some .free
theorem PR:∀{names:List (Str×NameKind)},(∀y∈names,y.2≠.cell)->(∀n acc,cellsFrom n names acc=acc)/\∀h,pushCells h names=h
 |[],_=>⟨λ_ _=>rfl,λ_=>rfl⟩
 |(x,k)::r,h=>by
  have ih:=PR λy hy=>h y (fh _ hy);have hk:¬(k == NameKind.cell)=true:=by simpa using h _ jc
  refine⟨λn acc=>?_,λhp=>?_⟩
  ·unfold cellsFrom;rw[bV hk];exact ih.1 n acc
  ·unfold pushCells;rw[bV hk];exact ih.2 hp
theorem eJ.EU{k:Nat}{idx:List Nat}(S:eJ X scope N k idx):lE X none scope N k idx:=
 ⟨S.kind,(PR S.cq).1,(PR S.cq).2,λz hz e=>absurd e (S.cq z hz),S.names,λz hz e=>⟨nofun,S.free z hz e⟩,S.nd,S.len,S.di⟩
theorem Bd{cl:List (Str×Addr)}(h:(AU ow a++cl).lookup x=some c):(ow=some x/\c=a)\/(ow≠some x/\cl.lookup x=some c):=by
 cases ow with
 |none=>exact .inr ⟨nofun,h⟩
 |some y=>
  have h':((y,a)::cl).lookup x=some c:=h;rw[iq] at h';cases e:x == y with
  |true=>rw[e] at h';cases h';exact .inl ⟨by rw[beq_iff_eq.mp e],rfl⟩
  |false=>rw[e] at h';exact .inr ⟨λz=>by cases z;simp at e,h'⟩
theorem aGt{cl:List (Str×Addr)}(h:ow≠some x):(AU ow a++cl).lookup x=cl.lookup x:=by
 cases ow with
 |none=>rfl
 |some y=>
  show((y,a)::cl).lookup x=_;rw[iq,show(x == y)=false from beq_eq_false_iff_ne.mpr λz=>h (by rw[z])]
theorem aKZ:(AU (some y) a++cl).lookup y=some a:=by
 show((y,a)::cl).lookup y=_;rw[iq,show(y == y)=true by simp]
theorem Pe{h:Heap}(e:h.get? b=some o):(pow ow h).get? b=some o:=by
 cases ow with
 |none=>exact e
 |some y=>exact fX _ e
theorem aPE{h:Heap}(e:a=h.objs.size):(pow (some y) h).get? a=some { cls:=.type "cell",data:=.cell none }:=by
 rw[e];exact mJ _ rfl
theorem aD5{E:aj}{s:Shared}{scope:Scope}{Q:Env->Shared->Prop}(cf:∀n acc,cellsFrom n scope.names acc=AU ow n++acc)(pc:∀h,pushCells h scope.names=pow ow h)(hQ:Q (newEnv scope s.heap.objs.size globals (AU ow (s.heap.objs.size+1)++cl) qual none .none (some env) builtinsNs) { s with heap:=pow ow (s.heap.push { cls:=.type "dict",data:=.dict #[] }) }) :
  wpAny M A (newFunctionEnv scope globals cl [] qual none .none (some env)) Q E s:=by
 simp only[newFunctionEnv,Option.isSome_some,if_true];refine aR (wpAny_alloc ?_);refine aR (wpAny_layCells _ (λname kind cells=>by cases hkc:kind == NameKind.cell <;> simp[hkc]) _ _ _ _ ?_);rw[cf,pc,show({ s with heap:=s.heap.push { cls:=.type "dict",data:=.dict #[] } }:Shared).heap.objs.size=s.heap.objs.size+1 from vh ..];rw[List.forIn_nil];exact aR (bI (bI hQ))
section
variable{X:Cx}{pins:ao}{σ:St}{H:Hp}{s:Shared}{ow:Option Str}{scope:Scope}{N:ak}{k:Nat}{idx:List Nat}{fp:ah}
theorem lE.cells(S:lE X ow scope N k idx)(I:Inv X pins σ H s):∀z∈scope.names,z.2=.free->∃c,X.env.cells.lookup z.1=some c:=λz hz h=>I.ok.has z.1 (S.free z hz h).2
theorem aJF{h₁:Heap}{tk:Nat}{oD:Obj}{m:Str->aq}(S:lE X ow scope N k idx)(I:Inv X pins σ H s)(hf:∀b∈fp,tw X pins H b)(ho:∀b∈fp,∃o,s.heap.get? b=some o)(hC:s.heap.objs.size<=C)(hD:s.heap.objs.size<=D)(Dl:D≠C)(hn:h₁.Ns C m)(old:∀b o,s.heap.get? b=some o->h₁.get? b=some o)(eD:h₁.get? D=some oD)(dD:∀v,oD.data≠.cell v)(ec:∀y,ow=some y->h₁.get? (C+1)=some { cls:=.type "cell",data:=.cell none }) :
  Inv (jo X ow scope N fp C s H) [(D,oD)] (uz k idx σ) H { s with heap:=h₁,toks:=tk }:=by
 have my:=S.cells I;have FZ:∀{x:Str} {c:Addr},(lC X.env scope.names []).lookup x=some c->c < s.heap.objs.size:=λ{x c} e=>by
  obtain⟨v,q⟩:=I.cell x c (mM my e);exact q.lt
 have wo:s.heap.objs.size < C+1:=Nat.lt_succ_of_le hC;have nst:∀b,s.heap.objs.size<=b->b∉jn X.stack:=λb hb z=>by
  obtain⟨_,o,e,_⟩:=I.stack.mem z;exact absurd (rT (eB e) hb) (ko _)
 refine⟨⟨I.ok.mod,S.kind,I.ok.glob,I.ok.blt,hC,λx x2 c h1 h2=>?_,λx hx=>?_,λx c z e=>?_,I.ok.hd,I.ok.frames,.inl rfl,λb hb=>⟨?_,λx c e=>?_⟩,I.bs,
  gj I.ok.vb I.sz,λb o e hb=>?_,λb hb z=>?_,I.stack,I.Pk⟩,rfl,I.bare,Un.kept old,⟨m,hn,λi x v h1 h2 h3=>?_⟩,λx c e=>?_,I.av.fresh hC,λx c e=>?_,λp hp=>?_,I.av.kept old,?_⟩
 ·rcases Bd h1 with ⟨a1,a2⟩|⟨a1,a2⟩ <;> rcases Bd h2 with ⟨b1,b2⟩|⟨b1,b2⟩
  ·cases a1.symm.trans b1;rfl
  ·have:=FZ b2;rw[a2] at this;exact absurd (wy this wo) (ko _)
  ·have:=FZ a2;rw[b2] at this;exact absurd (wy this wo) (ko _)
  ·exact I.ok.inj x x2 c (mM my a2) (mM my b2)
 ·rcases aAB S.cq hx with q|q
  ·cases q;exact⟨C+1,aKZ⟩
  ·obtain⟨c,e⟩:=my _ q rfl;exact⟨c,(aGt (S.free _ q rfl).1).trans (vJ my q e)⟩
 ·rcases Bd e with ⟨a1,a2⟩|⟨a1,a2⟩
  ·rw[a2];exact zg wo
  ·cases ow with
   |none=>cases z
   |some y=>
    have z':(x == y)=true:=z;exact absurd (by rw[beq_iff_eq.mp z']) a1
 ·obtain⟨o,e⟩:=ho b hb;exact gM (rT (eB e) hC)
 ·rcases Bd e with ⟨a1,a2⟩|⟨a1,a2⟩
  ·obtain⟨o,q⟩:=ho b hb;have:=eB q;intro z;rw[a2] at z;rw[<-z] at this;exact absurd (wy this wo) (ko _)
  ·exact(hf b hb).2.2.2.2.1 x c (mM my a2)
 ·rcases(hf b hb).2.2.2.1 with z|z
  ·exact I.ok.qa b o e z
  ·exact absurd (rT (eB (I.ok.bs b o e).1) z) (ko _)
 ·rcases lQ.mp (I.Fn b z) with q|q
  ·exact(hf b hb).2.1 q
  ·exact(hf b hb).2.2.1 q
 ·have hi:k<=i:=by
   by_cases hi:i < k
   ·unfold uz at h2;rw[kr (by simpa using hi),Qu,cJ hi] at h2;cases h2
   ·lia
  obtain⟨j,rfl⟩ : ∃j,i=k+j:=⟨i - k,by lia⟩
  have oj:N[k+j]?=some x:=h1;obtain⟨l,e1,e2,e3⟩:=S.di j x (by rw[FC];exact oj);have uw:σ[l]?=some (some v):=by
   unfold uz at h2;rw[nu (by simp),hE] at h2;simp only[List.length_replicate,Nat.add_sub_cancel_left,e1,Option.map_some,Option.some.injEq] at h2;cases q:σ[l]? with
   |none=>rw[q] at h2;cases h2
   |some z=>rw[q] at h2;exact congrArg some h2
  obtain⟨m0,hn0,hl⟩:=I.loc;have df:(x,NameKind.free)∈scope.names:=PySem.mem_of_lookup e3;have hk:=(S.free _ df rfl).2;obtain⟨u,r,l⟩:=hl l x v e2 uw (by rcases hk with z|z;exact .inr (.inl z);exact .inr (.inr z));refine⟨u,r,.inr ⟨gJ e3,?_⟩⟩;rcases l with ⟨z,_⟩|⟨_,c,e,o,q,d⟩
  ·rcases hk with w|w
   ·rw[w] at z;cases z
   ·rw[w] at z;cases z
  ·exact⟨c,(aGt (S.free _ df rfl).1).trans (vJ my df e),o,old c o q,d⟩
 ·rcases Bd e with ⟨a1,a2⟩|⟨a1,a2⟩
  ·rw[a2];exact⟨none,_,ec _ a1,rfl⟩
  ·obtain⟨v,o,q,d⟩:=I.cell x c (mM my a2);exact⟨v,o,old c o q,d⟩
 ·rcases Bd e with ⟨a1,a2⟩|⟨a1,a2⟩
  ·rw[a2];exact I.av.fresh (zg wo)
  ·exact I.cj x c (mM my a2)
 ·have Ad:p∈([]:ao) ++ [(D,oD)]:=hp;have e:p=(D,oD):=by simpa using Ad
  subst e;exact⟨eD,I.av.fresh hD,Dl,nst D hD,dD⟩
 ·unfold uz;show _=N.length;rw[S.len];simp
theorem aNh{s':Shared}{ys:List V}{its:af}{n:Nat}(I:Inv X pins σ H s)(hf:∀b∈fp,tw X pins H b)(J:Inv (jo X ow scope N fp C s H) jr σ' H' s')(hC:s.heap.objs.size<=C)(hD:s.heap.objs.size<=D)(Dl:D≠C)(hDn:H' D=none)(eD:s'.heap.get? D=some { cls:=.type "list",data:=.seq its.toArray n })(r:Vals ys its)(hz:ys.length<=sizeLine) :
  Inv X pins σ (upd H' D (.lst ys)) s'/\tw X pins (upd H' D (.lst ys)) C:=by
 have hk:uO X.prog X.w (upd H' D (.lst ys)) s'.heap:=uO.OB J.av hDn ⟨hz,its,n,r,eD⟩;have u:Un (jn X.stack) fp H (upd H' D (.lst ys)) s.heap s'.heap:=Un.OB J.base hD hDn;refine⟨I.aQL J.os u hk J.bare λb hb=>⟨(hf b hb).2.2.2.1,(hf b hb).2.1,(hf b hb).2.2.2.2.1,(hf b hb).2.2.2.2.2⟩,I.Ai hC ?_⟩;rw[aS Dl.symm];exact J.free
theorem eJ.cells(S:eJ X scope N k idx)(I:Inv X pins σ H s):∀y∈scope.names,y.2=.free->∃c,X.env.cells.lookup y.1=some c:=S.EU.cells I
end
def lR(J:It)(σ₀:St)(g:TG)(tt:TT)(te:TE)(R:List V->Hp->Prop)(H1:Hp):Prop:=
 ∃W:Nat->Nat->List V->Hp->Prop,(∃m,W 0 m [] H1)/\∀i m ys H,W i m ys H->ys.length<=sizeLine/\
  ((J.stop i H/\R ys H)\/(J.go i H/\∃N:List V->Hp->Prop,(∀AQ H',N AQ H'->∃m',m' < m/\W (i+1) m' AQ H')/\
   ∀x H',J.sk i H x H'->g x σ₀ H' λσ2 H2=>tt σ2 H2 λb H3=>if b=true then te σ2 H3 λy H4=>N (ys ++ [y]) H4 else N ys H3))
def Cg(wi:TI)(k:Nat)(idx:List Nat)(g:TG)(tt:TT)(te:TE):TE:=λσ H Q=>wi σ H λJ H1=>lR J (uz k idx σ) g tt te (λys H'=>∀p,H' p=none->Q (.ref p) (upd H' p (.lst ys))) H1
def Ct(X:Cx)(ifs:List Expr)(t:TT):Prop:=
 ∀(pins:ao) (s:Shared) (σ:St) (H:Hp) (Q:Bool->Hp->Prop),Inv X pins σ H s->t σ H Q->
  wpAny (model X.prog X.w) X.A (forIn ifs true λc r=>if r=true then do let ok <-isTrue c X.env (eval c X.env);pure (ForInStep.yield ok) else pure (ForInStep.yield r)) (TP X pins σ Q) X.xe s
def NZ:TT:=λ_ H Q=>Q true H
theorem aNi:Ct X [] NZ:=λ_ _ _ H _ I h=>wpAny_tests_nil ⟨H,I,h⟩
theorem aNj(h:PT X c t):Ct X [c] t:=λpins s σ H Q I q=>wpAny_tests_one (h pins s σ H Q I q)
def Cy(k:Nat)(σ' σ:St):Prop:=σ'.length=σ.length/\∀i,k<=i->σ'[i]?=σ[i]?
theorem Cy.set{k i:Nat}{σ:St}(h:Cy k σ σb)(hi:i < k):Cy k (σ.set i v) σb:=⟨by rw[Bi];exact h.1,λj hj=>by rw[Bp (by lia)];exact h.2 j hj⟩
def Own(k:Nat)(g:TG):Prop:=∀x σ H (Q:St->Hp->Prop) (σb:St),Cy k σ σb->g x σ H Q->g x σ H λσ' H'=>Cy k σ' σb/\Q σ' H'
def IM(k:Nat)(g:ub):Prop:=∀xs σ H (Q:St->Hp->Prop) (σb:St),Cy k σ σb->g xs σ H Q->g xs σ H λσ' H'=>Cy k σ' σb/\Q σ' H'
theorem cV{k i:Nat}(h:i < k):Own k (vB i):=λ_ _ _ _ _ a q=>⟨a.set h,q⟩
theorem oC{k:Nat}:IM k IY:=λ_ _ _ _ _ a ⟨e,q⟩=>⟨e,a,q⟩
theorem cR{k i:Nat}(h:i < k)(hu:IM k u):IM k (Ji (vB i) u):=λ_ _ _ Q σb a ⟨v,r,e,q⟩=>⟨v,r,e,hu r _ _ Q σb (a.set h) q⟩
theorem sC{K:W.Frag}{n k:Nat}{u:ub}(hu:IM k u):Own k (IX K n u):=λ_ _ _ Q σb a ⟨l,xs,e,h1,h2,q⟩=>⟨l,xs,e,h1,h2,hu xs _ _ Q σb a q⟩
theorem aK0(its:af)(u:Value)(n:Nat):({ cls:=.type "list",data:=.seq (its.toArray.push u) n }:Obj)={ cls:=.type "list",data:=.seq (its ++ [u]).toArray n }:=by
 rw[List.push_toArray]
section
variable{X:Cx}{pins:ao}{σ:St}{H:Hp}{s:Shared}{ow:Option Str}{scope:Scope}{N:ak}{k:Nat}{idx:List Nat}{fp:ah}
theorem vK{tn:Nat->Heap->Prop}{R:List V->Hp->Prop}{E:aj}{RR:Value->Addr->Result->Shared->Prop}(S:lE X ow scope N k idx)(hc:X.calm=true)(I:Inv X pins σ H s)(T:Turn X.prog X.w X.K target J fp it tn)(st:tn 0 s.heap)(hf:∀b∈fp,tw X pins H b)(hg:∀C,PG (jo X ow scope N fp C s H) target g)(ho:Own k g)(ht:∀C,Ct (jo X ow scope N fp C s H) ifs tt)(he:∀C,PE (jo X ow scope N fp C s H) elt te)(hw:lR J (uz k idx σ) g tt te R H)(hRR:∀D C s' m ys H',s'.heap.Ns C m->Inv X pins σ (upd H' D (.lst ys)) s'->tw X pins (upd H' D (.lst ys)) C->H' D=none->R ys H'->RR (.ref D) C (.ok .next) s') :
  wpAny (model X.prog X.w) X.A (newList []) (λacc fb=>wpAny (model X.prog X.w) X.A (newFunctionEnv scope X.env.globals (lC X.env scope.names []) [] X.env.qual none .none (some X.env)) (λGy Ax=>
   codeAny (model X.prog X.w) X.A (.compStart (.ListComp elt [⟨target,iter,ifs,0⟩] scope pos) 0 (.ref it) acc { Gy with scope:=relabel scope X.env }) (RR acc Gy.locals) Ax) E fb) E s:=by
 refine jb (aD5 S.cf S.pc ?_);dsimp only;generalize Mn:s.heap.push { cls:=.type "list",dict:=none,data:=.seq ([]:af).toArray } = H2;have wo:H2.objs.size=s.heap.objs.size+1:=by rw[<-Mn,vh]
 have Dl:s.heap.objs.size≠H2.objs.size:=by rw[wo];exact gM (Bk _)
 have Gv:s.heap.objs.size<=H2.objs.size:=by rw[wo];exact Nat.le_succ _
 have below:∀b,b < s.heap.objs.size->b≠H2.objs.size:=λb hb=>by rw[wo];exact gM (nk hb)
 generalize AX:pow ow (H2.push { cls:=.type "dict",data:=.dict #[] })=h₁;have C1:h₁.Ns H2.objs.size (λ_=>none):=AX▸(Heap.Ns.new H2 (.type "dict")).keeps λb o e=>Pe e;have old:∀b o,s.heap.get? b=some o->h₁.get? b=some o:=λb o e=>AX▸Pe (fX _ (Mn▸fX _ e));have fz:h₁.get? s.heap.objs.size=some { cls:=.type "list",data:=.seq ([]:af).toArray 0 }:=AX▸Pe (fX _ (Mn▸mJ _ rfl));have jt:∀y,ow=some y->h₁.get? (H2.objs.size+1)=some { cls:=.type "cell",data:=.cell none }:=λy e=>by
  subst e;rw[<-AX];exact aPE (vh ..).symm
 have Bz:tn 0 h₁:=T.keep _ _ _ st λb _ o e=>old b o e;obtain⟨W,⟨m0,w0⟩,turn⟩:=hw;have Iq:∀b∈fp,b < s.heap.objs.size:=λb hb=>by
  obtain⟨o,e,_⟩:=T.obj _ _ st b hb;exact eB e
 have pz:∀{H':Hp} {pl:ao},(∀b∈fp,H' b=none)->(∀p∈pl,s.heap.objs.size<=p.1)->∀b∈fp,tw (jo X ow scope N fp H2.objs.size s H) pl H' b:=λ{H' pl} hn hp b hb=>by
  refine⟨hn b hb,below b (Iq b hb),λz=>?_,.inl hb,λx c e=>by
   rcases Bd e with ⟨a1,a2⟩|⟨a1,a2⟩
   ·have:=Iq b hb;intro z;rw[a2] at z;rw[<-z,wo] at this;exact absurd (wy this (nk (Bk _))) (ko _)
   ·exact(hf b hb).2.2.2.2.1 x c (mM (S.cells I) a2),λp q z=>?_⟩
  ·have z':b∈jn X.stack:=z;rcases lQ.mp (I.Fn b z') with q|q
   ·exact(hf b hb).2.1 q
   ·exact(hf b hb).2.2.1 q
  ·have q':p∈([]:ao)++pl:=q;have h1:=hp p (by simpa using q');rw[z] at h1;exact absurd (rT (Iq b hb) h1) (ko _)
 have loop:∀fb:Shared,fb={ s with heap:=h₁ }->
   codeAny (model X.prog X.w) X.A (.compLoop (.ListComp elt [⟨target,iter,ifs,0⟩] scope pos) 0 (.ref it) (.ref s.heap.objs.size) (compEnvC scope (AU ow (H2.objs.size+1)++lC X.env scope.names []) H2.objs.size X.env))
    (RR (.ref s.heap.objs.size) H2.objs.size) fb:=by
  rintro fb rfl;refine aGq (λn s'=>∃i ys its H' nn,Inv (jo X ow scope N fp H2.objs.size s H) [(s.heap.objs.size,{ cls:=.type "list",data:=.seq its.toArray nn })] (uz k idx σ) H' s'/\tn i s'.heap/\(∀b∈fp,H' b=none)/\Vals ys its/\W i n ys H') ?_ m0
   ⟨0,[],[],H,0,aJF S I hf (λb hb=>let ⟨o,e,_⟩:=T.obj _ _ st b hb;⟨o,e⟩) Gv (d7 _) Dl C1 old fz (λv z=>by cases z) jt,Bz,λb hb=>(hf b hb).1,.nil,w0⟩
  rintro n s' ⟨i,ys,its,H',nn,I',cn,fr',rv,w'⟩;obtain⟨hz,alt⟩:=turn i n ys H' w';have pl:∀p∈[((s.heap.objs.size:Addr),({ cls:=.type "list",data:=.seq its.toArray nn }:Obj))],s.heap.objs.size<=p.1:=λp hp=>by
   have e:p=((s.heap.objs.size:Addr),({ cls:=.type "list",data:=.seq its.toArray nn }:Obj)):=by simpa using hp
   rw[e];exact d7 _
  rcases alt with ⟨stop,q⟩|⟨go,Nx,hN,step⟩
  ·refine dP (T.done (jo X ow scope N fp H2.objs.size s H) rfl rfl rfl hc i _ s' _ H' _ I' (pz fr' pl) cn stop) λr s4 ⟨hr,I4⟩=>?_;subst hr;obtain⟨eD,nD,_⟩:=I4.pin _ (rf _ jc);obtain⟨a1,a2⟩:=aNh I hf I4 Gv (d7 _) Dl nD eD rv hz;obtain⟨m4,hn4,_⟩:=I4.loc;exact hRR _ _ s4 m4 ys H' hn4 a1 a2 nD q
  ·refine dP (T.item (jo X ow scope N fp H2.objs.size s H) rfl rfl rfl hc i _ s' _ H' _ I' (pz fr' pl) cn go) λr s4 ⟨u,hr,h4⟩=>?_;subst hr;refine dP h4 λ_ s5 zq=>?_;obtain⟨x,H5,I5,r5,y5,BG,MG⟩:=zq;have QP:=I5.pinned (pz MG pl) (T.obj _ _ BG);have Lh:∀{α:Type} {t:Sem α} {Q:α->Shared->Prop} {E':aj} {sx:Shared},wpAny (model X.prog X.w) X.A t Q (λ_ _=>False) sx->wpAny (model X.prog X.w) X.A t Q E' sx:=λh=>kb h (λ_ _ q=>q) λ_ _ z=>z.elim;refine Lh (dP (hg _ _ s5 _ H5 x u _ QP r5 (ho x _ H5 _ _ ⟨rfl,λ_ _=>rfl⟩ (step x H5 y5))) λ_ s6 ⟨σ6,H6,I6,ag,q6⟩=>?_);have back:∀{H7:Hp} {s7:Shared},Inv (jo X ow scope N fp H2.objs.size s H) ([((s.heap.objs.size:Addr),({ cls:=.type "list",data:=.seq its.toArray nn }:Obj))] ++ Fm fp s5.heap) σ6 H7 s7->
     Inv (jo X ow scope N fp H2.objs.size s H) [((s.heap.objs.size:Addr),({ cls:=.type "list",data:=.seq its.toArray nn }:Obj))] (uz k idx σ) H7 s7/\tn (i+1) s7.heap/\∀b∈fp,H7 b=none:=λ{H7 s7} I7=>by
    refine⟨I7.JT.weak (by rw[ag.1]) λj v e=>?_,T.keep _ _ _ BG λb hb o e=>(I7.pin (b,o) (rf _ (rf _ (rX hb e)))).1,λb hb=>?_⟩
    ·have hj:k<=j:=by
      by_cases hj:j < k
      ·unfold uz at e;rw[kr (by simpa using hj),Qu,cJ hj] at e;cases e
      ·lia
     rw[ag.2 j hj];exact e
    ·obtain⟨o,e,d⟩:=T.obj _ _ BG b hb;exact(I7.pin (b,o) (rf _ (rf _ (rX hb e)))).2.1
   refine Lh (dP (ht _ _ s6 σ6 H6 _ I6 q6) λb s7 ⟨H7,I7,q7⟩=>?_);cases b with
   |false=>
    rw[bV fo] at q7 ⊢;obtain⟨m',hm,w7⟩:=hN _ _ q7;obtain⟨b1,b2,b3⟩:=back I7;exact⟨m',hm,i+1,ys,its,H7,nn,b1,b2,b3,rv,w7⟩
   |true=>
    rw[cJ rfl] at q7 ⊢;refine Lh (dP (he _ _ s7 σ6 H7 _ I7 q7) λyv s8 zq=>?_);obtain⟨z,H8,I8,r8,q8⟩:=zq;obtain⟨m',hm,w8⟩:=hN _ _ q8;obtain⟨b1,b2,b3⟩:=back I8;obtain⟨eD,nD,neD,nfD,_⟩:=b1.pin _ (rf _ jc);have xj:=rv.length;refine append_at (hsz:=by rw[iL,<-xj];exact hz) eD λh9 Df hD9=>?_;have IF:Inv (jo X ow scope N fp H2.objs.size s H) [] (uz k idx σ) H8 s8:=b1.JQ λp hp=>by cases hp
    have I9:Inv (jo X ow scope N fp H2.objs.size s H) [] (uz k idx σ) H8 { s8 with heap:=h9 }:=IF.turned (t':=s8.toks) (λb o hb e=>(Df.2 b hb).trans e) nD neD (.inr (d7 _)) (λx c e z=>by
     rcases Bd e with ⟨a1,a2⟩|⟨a1,a2⟩
     ·rw[a2,wo] at z;exact absurd z (je (nk (Bk _)))
     ·obtain⟨v,q⟩:=I.cell x c (mM (S.cells I) a2);exact absurd (rT q.lt (by rw[z];exact d7 _)) (ko _)) (λp hp=>by
     have Ad:p∈([]:ao) ++ []:=hp;simp at Ad)
    refine⟨m',hm,i+1,ys ++ [z],its ++ [yv],H8,nn+1,I9.JQ λp hp=>?_,T.keep _ _ _ b2 λb hb o e=>(Df.2 b (gM (Iq b hb))).trans e,b3,rv.append (.cons r8 .nil),w8⟩;have e:p=((s.heap.objs.size:Addr),({ cls:=.type "list",data:=.seq (its ++ [yv]).toArray (nn+1) }:Obj)):=by simpa using hp
    subst e;exact⟨by rw[<-aK0];exact hD9,nD,neD,nfD,λv z=>by cases z⟩
 exact codeAny_compStart_list (loop _ rfl) (T.self _ 0 _ _ _ Bz (loop _ rfl))
theorem aNl(k:Nat)(idx:List Nat)(S:eJ X scope N k idx)(hc:X.calm=true)(hi:PI X target iter wi)(hg:∀fp C s H,PG (tq X scope N fp C s H) target g)(ho:Own k g)(ht:∀fp C s H,Ct (tq X scope N fp C s H) ifs tt)(he:∀fp C s H,PE (tq X scope N fp C s H) elt te)(hs:∀x,foldedSetIterable iter X.env x=pure x:=by intro _;rfl):PE X (.ListComp elt [⟨target,iter,ifs,0⟩] scope pos) (Cg wi k idx g tt te):=by
 intro pins s σ H Q I h;rw[eval_ListComp];refine wpAny_comprehension_free (use:=none) rfl hs (sA (S.EU.cells I)) S.kind S.names (dP (hi pins s σ H _ I h) λv s1 h1=>dP h1 λEk s2 h2=>?_);obtain⟨it,fp,tn,J,H2,e,I2,T,uk,f2,w2⟩:=h2;subst e;refine vK (RR:=λacc C=>compPost (model X.prog X.w) X.A X.xe none (EP X pins σ Q) acc C) S.EU hc I2 T uk f2 (λC=>hg fp C s2 H2) ho (λC=>ht fp C s2 H2) (λC=>he fp C s2 H2) w2 λD C s' m ys H' hn I' fC hD q=>?_;refine⟨m,hn,λh'' xr=>⟨.ref D,_,I'.turned (t':=s'.toks) (λb o hb e=>(xr.2 b hb).trans e) fC.1 fC.2.1 fC.2.2.2.1 fC.2.2.2.2.1 fC.2.2.2.2.2,rfl,q D hD⟩⟩
theorem aNm(k:Nat)(idx:List Nat){i:Nat}{mf:Pos}(hN:X.N.Nodup)(L7:X.N[i]?=some x)(hx:Loc X.env.scope x)(S:eJ X scope N k idx)(hc:X.calm=true)(hi:PI X target iter wi)(hg:∀fp C s H,PG (tq X scope N fp C s H) target g)(ho:Own k g)(ht:∀fp C s H,Ct (tq X scope N fp C s H) ifs tt)(he:∀fp C s H,PE (tq X scope N fp C s H) elt te)(LN:swapsWith (.ListComp elt [⟨target,iter,ifs,0⟩] scope pos) (some (.Name x pos')) mf.line X.env=pure true:=by rfl)(hs:∀x,foldedSetIterable iter X.env x=pure x:=by intro _;rfl)(qh:X.fn x=true\/X.env.scope.names.lookup x=some .local:=by first|exact .inl rfl|exact .inr rfl|assumption) :
  PS X (.Assign [.Name x pos'] (.ListComp elt [⟨target,iter,ifs,0⟩] scope pos) mf) (A8 (Cg wi k idx g tt te) (vB i)):=by
 intro pins s σ H D I h;rw[exec_Assign_Name_used _ _ _ _ LN];refine aR (wpAny_standAt (aR ?_));show wpAny _ X.A (do let _ <-comprehension (.ListComp elt [⟨target,iter,ifs,0⟩] scope pos) scope X.env _ (newList []) false (eval iter X.env) (some (assign (.Name x pos') X.env))) _ _ s;refine aR (kb (wpAny_comprehension_free (use:=some (assign (.Name x pos') X.env)) (Q:=λ_ s'=>SP X pins D .next s') rfl hs (sA (S.EU.cells I)) S.kind S.names
  (dP (hi pins s σ H _ I h) λv s1 h1=>dP h1 λEk s2 h2=>?_)) (λ_ s' hq=>bI (bI hq)) λ_ _ e=>e)
 obtain⟨it,fp,tn,J,H2,e,I2,T,uk,f2,w2⟩:=h2;subst e;refine vK (RR:=λacc C=>compPost (model X.prog X.w) X.A X.xe (some (assign (.Name x pos') X.env)) (λ_ s'=>SP X pins D .next s') acc C) S.EU hc I2 T uk f2 (λC=>hg fp C s2 H2) ho (λC=>ht fp C s2 H2) (λC=>he fp C s2 H2) w2 λD' C s' m ys H' hn I' fC hD q=>?_;show wpAny _ X.A (assign (.Name x pos') X.env (.ref D')) _ _ s';refine wpAny_assign_Name (aEB I' hN L7 hx (show RelV (.ref D') (.ref D') from rfl) (λs3 I3 ⟨a,sb,ha⟩=>?_) qh);have hCa:C≠a:=by
  rcases ha with z|z
  ·rw[z];exact fC.2.1
  ·exact(fC.2.2.2.2.1 x a z).symm
 refine⟨m,hn.sameBut sb hCa,λh'' xr=>⟨_,_,I3.turned (t':=s3.toks) (λb o hb e=>(xr.2 b hb).trans e) fC.1 fC.2.1 fC.2.2.2.1 fC.2.2.2.2.1 fC.2.2.2.2.2,q D' hD⟩⟩
end
theorem cM{K:W.Frag}{a:Addr}{xs:List V}{σ₀:St}{g:TG}{tt:TT}{te:TE}{R:List V->Hp->Prop}{H:Hp}(Pv:Nat->List V->Hp->Prop)(h0:Pv 0 [] H)(hz:xs.length<=sizeLine)
  (hl:∀i ys H,i<=xs.length->Pv i ys H->bR K H a xs/\ys.length<=i)
  (hs:∀i x ys H,xs[i]?=some x->Pv i ys H->g x σ₀ H λσ2 H2=>tt σ2 H2 λb H3=>if b=true then te σ2 H3 λy H4=>Pv (i+1) (ys ++ [y]) H4 else Pv (i+1) ys H3)
  (hd:∀ys H,Pv xs.length ys H->R ys H):lR (ud K a) σ₀ g tt te R H:=by
 refine⟨λi m ys H=>m=xs.length - i/\i<=xs.length/\Pv i ys H,⟨xs.length,by simp,dz _,h0⟩,?_⟩;rintro i m ys H ⟨rfl,hi,p⟩;obtain⟨q,ql⟩:=hl i ys H hi p;refine⟨by lia,?_⟩;by_cases br:i < xs.length
 ·refine .inr ⟨⟨xs,xs[i],q,by simp[br]⟩,Pv (i+1),λAQ H' p'=>⟨xs.length - (i+1),by lia,rfl,br,p'⟩,λx H' y=>?_⟩;obtain⟨e,y⟩:=y;subst e;exact hs i x ys _ (y xs q) p
 ·have e:i=xs.length:=by lia
  subst e;exact .inl ⟨⟨xs,q,d7 _⟩,hd ys H p⟩
theorem aK1{K:W.Frag}{a:Addr}{xs:List V}{σ₀:St}{g:TG}{tt:TT}{te:TE}{R:List V->Hp->Prop}{H:Hp}(Pv:Nat->List V->Hp->Prop)(h0:Pv 0 [] H)(hz:xs.length<=sizeLine)
  (hl:∀i ys H,i<=xs.length->Pv i ys H->mE K H a xs/\ys.length<=i)
  (hs:∀i x ys H,xs[i]?=some x->Pv i ys H->g x σ₀ H λσ2 H2=>tt σ2 H2 λb H3=>if b=true then te σ2 H3 λy H4=>Pv (i+1) (ys ++ [y]) H4 else Pv (i+1) ys H3)
  (hd:∀ys H,Pv xs.length ys H->R ys H):lR (xf K a) σ₀ g tt te R H:=by
 refine⟨λi m ys H=>m=xs.length - i/\i<=xs.length/\Pv i ys H,⟨xs.length,by simp,dz _,h0⟩,?_⟩;rintro i m ys H ⟨rfl,hi,p⟩;obtain⟨q,ql⟩:=hl i ys H hi p;refine⟨by lia,?_⟩;by_cases br:i < xs.length
 ·refine .inr ⟨⟨xs,xs[i],q,by simp[br]⟩,Pv (i+1),λAQ H' p'=>⟨xs.length - (i+1),by lia,rfl,br,p'⟩,λx H' y=>?_⟩;obtain⟨e,y⟩:=y;subst e;exact hs i x ys _ (y xs q) p
 ·have e:i=xs.length:=by lia
  subst e;exact .inl ⟨⟨xs,q,d7 _⟩,hd ys H p⟩
theorem sD{lo:Int}{n:Nat}{g:TG}{R:List V->Hp->Prop}(Pv:Nat->List V->Hp->Prop)(h0:Pv 0 [] H)(hz:n<=sizeLine)(hl:∀i ys H,i<=n->Pv i ys H->ys.length<=i)(hs:∀i ys H,i < n->Pv i ys H->g (.int (lo+i)) σ₀ H λσ2 H2=>tt σ2 H2 λb H3=>if b=true then te σ2 H3 λy H4=>Pv (i+1) (ys ++ [y]) H4 else Pv (i+1) ys H3)(hd:∀ys H,Pv n ys H->R ys H):lR (rh lo n) σ₀ g tt te R H:=by
 refine⟨λi m ys H=>m=n - i/\i<=n/\Pv i ys H,⟨n,by simp,dz _,h0⟩,?_⟩;rintro i m ys H ⟨rfl,hi,p⟩;have ql:=hl i ys H hi p;refine⟨by lia,?_⟩;by_cases br:i < n
 ·refine .inr ⟨br,Pv (i+1),λAQ H' p'=>⟨n - (i+1),by lia,rfl,br,p'⟩,λx H' y=>?_⟩;obtain⟨e,y⟩:=y;subst e y;exact hs i ys _ br p
 ·have e:i=n:=by lia
  subst e;exact .inl ⟨d7 _,hd ys H p⟩
theorem O5:bootBuiltins "int" = some (.type "int"):=by decide +kernel
theorem Ft:bootBuiltins "bool" = some (.type "bool"):=by decide +kernel
theorem aK2:bootBuiltins "str" = some (.type "str"):=by decide +kernel
theorem mN:bootBuiltins "list" = some (.type "list"):=by decide +kernel
theorem JX:bootBuiltins "tuple" = some (.type "tuple"):=by decide +kernel
theorem aNn:bootBuiltins "dict" = some (.type "dict"):=by decide +kernel
theorem dH:bootBuiltins "len" = some (.builtin "len"):=by decide +kernel
theorem aPG:bootBuiltins "abs" = some (.builtin "abs"):=by decide +kernel
theorem DP:bootBuiltins "max" = some (.builtin "max"):=by decide +kernel
theorem zX:bootBuiltins "min" = some (.builtin "min"):=by decide +kernel
theorem aPH:bootBuiltins "sum" = some (.builtin "sum"):=by decide +kernel
theorem DO:bootBuiltins "all" = some (.builtin "all"):=by decide +kernel
theorem aPI:bootBuiltins "any" = some (.builtin "any"):=by decide +kernel
theorem xU:bootBuiltins "sorted" = some (.builtin "sorted"):=by decide +kernel
theorem bP:bootBuiltins "isinstance" = some (.builtin "isinstance"):=by decide +kernel
section
variable{X:Cx}
def OG:R2:=λx y H Q=>yr (λi j=>.int (i+j)) x y H Q\/aQ4 x y H Q
theorem bX:uZ X (binaryOp .Add) OG:=aPi.or aPv
def aOx:R2:=λx y H Q=>rI E2 (λi j=>.int (i*j)) x y H Q\/aQ5 x y H Q
theorem cT:uZ X (binaryOp .Mult) aOx:=aPj.or aPw
def E6(K:W.Frag):V->Option Int->Option Int->Hp->VK->Prop:=λx lo hi H Q=>aQ1 K x lo hi H Q\/aQW K x lo hi H Q
theorem NY:Av X (E6 X.K):=aNa.or aPp
def Bu(K:W.Frag)(H:Hp):Nat->V->V->Bool->Prop
 |0,x,y,b=>kZ x=true/\kZ y=true/\b=eqV x y
 |n+1,x,y,b=>(kZ x=true/\kZ y=true/\b=eqV x y)\/
  ∃(p q:Addr) (xs ys:List V) (e:Nat->Bool),x=.ref p/\y=.ref q/\((bR K H p xs/\bR K H q ys)\/(mE K H p xs/\mE K H q ys))/\
   (∀(j:Nat) u v,xs[j]?=some u->ys[j]?=some v->Bu K H n u v (e j))/\b=(xs.length == ys.length && (List.range xs.length).all e)
theorem aGu(h:kZ x=true):eqV x x=true:=by
 cases x with
 |ba=>rfl
 |bl b=>cases b <;> rfl
 |int i=>exact beq_self_eq_true i
 |str z=>exact beq_self_eq_true z
 |_=>exact absurd (show false=true from h) fo
theorem aGv(I:Inv X pins σ H s):∀{n:Nat}{x:V}{b:Bool},Bu X.K H n x x b->b=true
 |0,x,b,⟨h,_,e⟩=>by rw[e];exact aGu h
 |n+1,x,b,h=>by
  rcases h with ⟨h,_,e⟩|⟨p,q,xs,ys,e,e1,e2,hs,he,eb⟩
  ·rw[e];exact aGu h
  ·subst e1;cases e2;have exy:xs=ys:=by
    rcases hs with ⟨h1,h2⟩|⟨h1,h2⟩
    ·exact I.PM h1 h2
    ·exact I.aEC h1 h2
   subst exy;rw[eb,beq_self_eq_true,Bg,nj];intro j hj;have wc:j < xs.length:=zU.mp hj;exact aGv I (he j xs[j] xs[j] (cG wc) (cG wc))
theorem aK5(I:Inv X pins σ H s):∀{n:Nat}{A:Around}{x y:V}{u v:Value}{b:Bool},A.units+n < cLine->RelV x u->RelV y v->Bu X.K H n x y b->SeqAt.EqAt A s u v b
 |0,A,x,y,u,v,b,_,rx,ry,⟨h1,h2,e⟩=>by rw[e];exact aKL rx ry h1 h2
 |n+1,A,x,y,u,v,b,hu,rx,ry,h=>by
  rcases id h with ⟨h1,h2,e⟩|⟨p,q,xs,ys,e,e1,e2,hs,he,eb⟩
  ·rw[e];exact aKL rx ry h1 h2
  ·subst e1 e2;cases rx;cases ry;by_cases hpq:p=q
   ·subst hpq;rw[aGv I h];exact SeqAt.EqAt.same _
   ·refine SeqAt.EqAt.of_refs hpq ?_;have items:∀{us vs:af},Vals xs us->Vals ys vs->∀j (h1:j < us.toArray.size) (h2:j < vs.toArray.size),SeqAt.EqAt A.in1 s us.toArray[j] vs.toArray[j] (e j):=λ{us vs} r1 r2 j h1 h2=>by
     have l1:=r1.length;have l2:=r2.length;rw[iL] at h1 h2;have g1:xs[j]?=some xs[j]:=cG (by lia);have g2:ys[j]?=some ys[j]:=cG (by lia);obtain⟨u',eu,ru⟩:=r1.get g1;obtain⟨v',ev,rv⟩:=r2.get g2;have Nl:us.toArray[j]=u':=by
      rw[Kt];exact Option.some.inj ((cG h1).symm.trans eu)
     have EM:vs.toArray[j]=v':=by
      rw[Kt];exact Option.some.inj ((cG h2).symm.trans ev)
     rw[Nl,EM];exact aK5 I (n:=n) (by show A.units+1+n < cLine;lia) ru rv (he j _ _ g1 g2)
    rcases hs with ⟨h1,h2⟩|⟨h1,h2⟩
    ·obtain⟨us,r1,p1,_⟩:=I.list h1;obtain⟨vs,r2,p2,_⟩:=I.list h2;have l1:=r1.length;have l2:=r2.length;by_cases hl:xs.length=ys.length
     ·rw[eb,hl,beq_self_eq_true,Bg,<-hl,show xs.length=us.toArray.size by rw[iL];exact l1];exact SeqAt.RcAt.lists p1.isList p2.isList (by rw[iL,iL];lia) (by lia) (items r1 r2)
     ·rw[eb,show(xs.length == ys.length)=false by simpa using hl,vi];exact SeqAt.RcAt.lists_lengths p1.isList p2.isList (by rw[iL,iL];simp;lia) (by lia)
    ·obtain⟨us,r1,p1,_⟩:=I.tuple h1;obtain⟨vs,r2,p2,_⟩:=I.tuple h2;have l1:=r1.length;have l2:=r2.length;have q:=SeqAt.RcAt.tuples (s:=s) (A:=A) (l:=p) (b:=q) (e:=e) p1 p2 (by lia) (items r1 r2);rw[iL,iL,<-l1,<-l2] at q;by_cases hl:xs.length=ys.length
     ·rw[eb,hl,beq_self_eq_true,Bg];rw[hl,Nat.min_self,beq_self_eq_true,Bool.and_true] at q;exact q
     ·have hb:(xs.length == ys.length)=false:=by simpa using hl
      rw[eb,hb,vi];rw[hb,vg] at q;exact q
def iN(K:W.Frag):R2:=λx y H Q=>∃b,Bu K H 8 x y b/\Q (.bl b) H
def ve(K:W.Frag):R2:=λx y H Q=>∃b,Bu K H 8 x y b/\Q (.bl (!b)) H
theorem xV{n:Nat}{A:Around}{xs ys:List V}{us vs:af}{e:Nat->Bool}(I:Inv X pins σ H s)(hu:A.units+1+n < cLine)(he:∀(j:Nat) u v,xs[j]?=some u->ys[j]?=some v->Bu X.K H n u v (e j))(r1:Vals xs us)(r2:Vals ys vs):∀j (h1:j < us.toArray.size) (h2:j < vs.toArray.size),SeqAt.EqAt A.in1 s us.toArray[j] vs.toArray[j] (e j):=λj h1 h2=>by
 have l1:=r1.length;have l2:=r2.length;rw[iL] at h1 h2;have g1:xs[j]?=some xs[j]:=cG (by lia);have g2:ys[j]?=some ys[j]:=cG (by lia);obtain⟨u',eu,ru⟩:=r1.get g1;obtain⟨v',ev,rv⟩:=r2.get g2;have Nl:us.toArray[j]=u':=by
  rw[Kt];exact Option.some.inj ((cG h1).symm.trans eu)
 have EM:vs.toArray[j]=v':=by
  rw[Kt];exact Option.some.inj ((cG h2).symm.trans ev)
 rw[Nl,EM];exact aK5 I (n:=n) (by show A.units+1+n < cLine;lia) ru rv (he j _ _ g1 g2)
theorem aPK(ry:RelV y u)(rx:RelV x v)(fy:kZ y=true)(fx:kZ x=true):SeqAt.RcAt A s u v (eqV y x):=by
 cases y with
 |ba=>
  cases ry;cases x with
  |ba=>cases rx;exact SeqAt.RcAt.none_none
  |bl b=>cases rx;exact SeqAt.RcAt.none_bool b
  |int b=>obtain⟨t,rfl⟩:=rx;exact SeqAt.RcAt.none_int b t
  |str b=>obtain⟨t,rfl⟩:=rx;exact SeqAt.RcAt.none_str b t
  |_=>exact absurd (show false=true from fx) fo
 |bl a=>
  cases ry;cases x with
  |ba=>cases rx;exact SeqAt.RcAt.bool_none a
  |bl b=>cases rx;exact SeqAt.RcAt.bool_bool a b
  |int b=>obtain⟨t,rfl⟩:=rx;exact SeqAt.RcAt.bool_int a b t
  |str b=>obtain⟨t,rfl⟩:=rx;exact SeqAt.RcAt.bool_str a b t
  |_=>exact absurd (show false=true from fx) fo
 |int a=>
  obtain⟨t',rfl⟩:=ry;cases x with
  |ba=>cases rx;exact SeqAt.RcAt.int_none a t'
  |bl b=>cases rx;exact SeqAt.RcAt.int_bool a t' b
  |int b=>obtain⟨t,rfl⟩:=rx;exact SeqAt.RcAt.int_int a t' b t
  |str b=>obtain⟨t,rfl⟩:=rx;exact SeqAt.RcAt.int_str a t' b t
  |_=>exact absurd (show false=true from fx) fo
 |str a=>
  obtain⟨t',rfl⟩:=ry;cases x with
  |ba=>cases rx;exact SeqAt.RcAt.str_none a t'
  |bl b=>cases rx;exact SeqAt.RcAt.str_bool a t' b
  |int b=>obtain⟨t,rfl⟩:=rx;exact SeqAt.RcAt.str_int a t' b t
  |str b=>obtain⟨t,rfl⟩:=rx;exact SeqAt.RcAt.str_str a t' b t
  |_=>exact absurd (show false=true from fx) fo
 |_=>exact absurd (show false=true from fy) fo
theorem aK6(ry:RelV y u)(rx:RelV x v)(fy:kZ y=true)(fx:kZ x=true):SeqAt.RcNeAt A s u v (!eqV y x):=by
 cases y with
 |ba=>
  cases ry;cases x with
  |ba=>cases rx;exact SeqAt.RcNeAt.none_none
  |bl b=>cases rx;exact SeqAt.RcNeAt.none_bool b
  |int b=>obtain⟨t,rfl⟩:=rx;exact SeqAt.RcNeAt.none_int b t
  |str b=>obtain⟨t,rfl⟩:=rx;exact SeqAt.RcNeAt.none_str b t
  |_=>exact absurd (show false=true from fx) fo
 |bl a=>
  cases ry;cases x with
  |ba=>cases rx;exact SeqAt.RcNeAt.bool_none a
  |bl b=>cases rx;exact SeqAt.RcNeAt.bool_bool a b
  |int b=>obtain⟨t,rfl⟩:=rx;exact SeqAt.RcNeAt.bool_int a b t
  |str b=>obtain⟨t,rfl⟩:=rx;exact SeqAt.RcNeAt.bool_str a b t
  |_=>exact absurd (show false=true from fx) fo
 |int a=>
  obtain⟨t',rfl⟩:=ry;cases x with
  |ba=>cases rx;exact SeqAt.RcNeAt.int_none a t'
  |bl b=>cases rx;exact SeqAt.RcNeAt.int_bool a t' b
  |int b=>obtain⟨t,rfl⟩:=rx;exact SeqAt.RcNeAt.int_int a t' b t
  |str b=>obtain⟨t,rfl⟩:=rx;exact SeqAt.RcNeAt.int_str a t' b t
  |_=>exact absurd (show false=true from fx) fo
 |str a=>
  obtain⟨t',rfl⟩:=ry;cases x with
  |ba=>cases rx;exact SeqAt.RcNeAt.str_none a t'
  |bl b=>cases rx;exact SeqAt.RcNeAt.str_bool a t' b
  |int b=>obtain⟨t,rfl⟩:=rx;exact SeqAt.RcNeAt.str_int a t' b t
  |str b=>obtain⟨t,rfl⟩:=rx;exact SeqAt.RcNeAt.str_str a t' b t
  |_=>exact absurd (show false=true from fx) fo
 |_=>exact absurd (show false=true from fy) fo
theorem dR(hu:X.A.units+9 < cLine):uZ X (compareOp .Eq) (iN X.K):=by
 intro pins s σ H x y v u Q I rx ry h;obtain⟨b,h,q⟩:=h;have fin:EP X pins σ Q (.bool b) s:=⟨.bl b,H,I,rfl,q⟩
 rcases h with ⟨h1,h2,e⟩|⟨p,l,xs,ys,e,e1,e2,hs,he,eb⟩
 ·exact aPK rx ry h1 h2 X.prog X.w X.xe _ (by rw[<-e];exact fin)
 ·subst e1 e2;cases rx;cases ry;rcases hs with ⟨h1,h2⟩|⟨h1,h2⟩
  ·obtain⟨us,r1,p1,_⟩:=I.list h1;obtain⟨vs,r2,p2,_⟩:=I.list h2;have l1:=r1.length;have l2:=r2.length;by_cases hl:xs.length=ys.length
   ·refine SeqAt.RcAt.lists p1.isList p2.isList (by rw[iL,iL];lia) (by lia) (xV I (n:=7) (A:=X.A) (by lia) he r1 r2) X.prog X.w X.xe _ ?_;rw[iL,<-l1];rw[eb,hl,beq_self_eq_true,Bg,<-hl] at fin;exact fin
   ·refine SeqAt.RcAt.lists_lengths p1.isList p2.isList (by rw[iL,iL];simp;lia) (by lia) X.prog X.w X.xe _ ?_;rw[eb,show(xs.length == ys.length)=false by simpa using hl,vi] at fin;exact fin
  ·obtain⟨us,r1,p1,_⟩:=I.tuple h1;obtain⟨vs,r2,p2,_⟩:=I.tuple h2;have l1:=r1.length;have l2:=r2.length;refine SeqAt.RcAt.tuples p1 p2 (by lia) (xV I (n:=7) (A:=X.A) (by lia) he r1 r2) X.prog X.w X.xe _ ?_;rw[iL,iL,<-l1,<-l2];rw[eb] at fin;by_cases hl:xs.length=ys.length
   ·rw[hl,beq_self_eq_true,Bg] at fin;rw[hl,Nat.min_self,beq_self_eq_true,Bool.and_true];exact fin
   ·have hb:(xs.length == ys.length)=false:=by simpa using hl
    rw[hb,vi] at fin;rw[hb,vg];exact fin
theorem zY(hu:X.A.units+9 < cLine):uZ X (compareOp .NotEq) (ve X.K):=by
 intro pins s σ H x y v u Q I rx ry h;obtain⟨b,h,q⟩:=h;have fin:EP X pins σ Q (.bool (!b)) s:=⟨.bl (!b),H,I,rfl,q⟩
 rcases h with ⟨h1,h2,e⟩|⟨p,l,xs,ys,e,e1,e2,hs,he,eb⟩
 ·exact aK6 rx ry h1 h2 X.prog X.w X.xe _ (by rw[<-e];exact fin)
 ·subst e1 e2;cases rx;cases ry;rcases hs with ⟨h1,h2⟩|⟨h1,h2⟩
  ·obtain⟨us,r1,p1,_⟩:=I.list h1;obtain⟨vs,r2,p2,_⟩:=I.list h2;have l1:=r1.length;have l2:=r2.length;by_cases hl:xs.length=ys.length
   ·refine SeqAt.RcNeAt.lists p1.isList p2.isList (by rw[iL,iL];lia) (by lia) (xV I (n:=7) (A:=X.A) (by lia) he r1 r2) X.prog X.w X.xe _ ?_;rw[iL,<-l1];rw[eb,hl,beq_self_eq_true,Bg,<-hl] at fin;exact fin
   ·refine SeqAt.RcNeAt.lists_lengths p1.isList p2.isList (by rw[iL,iL];simp;lia) (by lia) X.prog X.w X.xe _ ?_;rw[eb,show(xs.length == ys.length)=false by simpa using hl,vi] at fin;exact fin
  ·obtain⟨us,r1,p1,_⟩:=I.tuple h1;obtain⟨vs,r2,p2,_⟩:=I.tuple h2;have l1:=r1.length;have l2:=r2.length;refine SeqAt.RcNeAt.tuples p1 p2 (by lia) (xV I (n:=7) (A:=X.A) (by lia) he r1 r2) X.prog X.w X.xe _ ?_;rw[iL,iL,<-l1,<-l2];rw[eb] at fin;by_cases hl:xs.length=ys.length
   ·rw[hl,beq_self_eq_true,Bg] at fin;rw[hl,Nat.min_self,beq_self_eq_true,Bool.and_true];exact fin
   ·have hb:(xs.length == ys.length)=false:=by simpa using hl
    rw[hb,vi] at fin;rw[hb,vg];exact fin
def Bs(K:W.Frag)(H:Hp)(x:V)(c:V)(b:Bool):Prop:=∃t,vE K H x t/\((∃T,c=.ty T/\PySem.W.kitOne K t (.type T)=some b)\/(∃C,c=.ref C/\PySem.W.kitOne K t (.ref C)=some b))
theorem aK7:eC X (.builtin "isinstance") (λxs H Q=>∃x c b,xs=[x,c]/\Bs X.K H x c b/\Q (.bl b) H):=by
 intro pins s σ H xs us Q I r h;obtain⟨x,c,b,rfl,⟨t,ty,hc⟩,q⟩:=h;obtain⟨u,w',rfl,rx,ry⟩:=vals2 r;rcases hc with ⟨T,rfl,e⟩|⟨C,rfl,e⟩
 ·cases ry;exact aEF I rx ty e λtk=>⟨.bl b,H,I.tok _,rfl,q⟩
 ·cases ry;exact aEF I rx ty e λtk=>⟨.bl b,H,I.tok _,rfl,q⟩
def gIx(K:W.Frag):V->V->Hp->VK->Prop:=λx y H Q=>∃p xs i v,x=.ref p/\y=.int i/\bR K H p xs/\0<=i/\xs[i.toNat]?=some v/\Q v H
theorem aPL:NV X (gIx X.K):=by
 intro pins s σ H x y v u Q I rx ry h;obtain⟨p,xs,i,z,rfl,rfl,hq,h0,he,q⟩:=h;cases rx;obtain⟨t,rfl⟩:=ry;obtain⟨its,r,pl,hz⟩:=I.list hq;obtain⟨w,ew,ny⟩:=r.get he;have hl:=r.length;have hn:=DK;have hi:i.toNat < xs.length:=(g0.mp he).1;exact wpAny_getItem_list pl.isList h0 (by lia) (by simpa using ew) ⟨z,H,I,ny,q⟩
theorem lT{k:Nat}{A:Around}(hr:eS k A):A.units+9 < cLine:=by have:=hr.un;lia
end
section
variable{σ:St}{H:Hp}{nx bk ct:St->Hp->Prop}{rt:VK}{Q:VK}{QT:Bool->Hp->Prop}{QA:List V->Hp->Prop}{QG:St->Hp->Prop}
theorem aW{t:TS}{D:Ends}{σ σ':St}(e:σ'=σ)(h:t D σ H):t D σ' H:=e▸h
theorem aPM{u:TS}(h:t ⟨u ⟨nx,rt,bk,ct⟩,rt,bk,ct⟩ σ H):E4 t u ⟨nx,rt,bk,ct⟩ σ H:=h
theorem aNo(h:nx σ H):Oy ⟨nx,rt,bk,ct⟩ σ H:=h
theorem aPN(h:te σ H λx H1=>g x σ H1 nx):A8 te g ⟨nx,rt,bk,ct⟩ σ H:=h
theorem aNp(h:te σ H λ_ H1=>nx σ H1):Ox te ⟨nx,rt,bk,ct⟩ σ H:=h
theorem aPO(h:te σ H rt):N8 te ⟨nx,rt,bk,ct⟩ σ H:=h
theorem aPP(h:c σ H λb H1=>if b=true then t ⟨nx,rt,bk,ct⟩ σ H1 else u ⟨nx,rt,bk,ct⟩ σ H1):N7 c t u ⟨nx,rt,bk,ct⟩ σ H:=h
theorem aK8{i:Nat}(e:σ[i]?=some (some x))(h:te σ H λy H1=>ti x y H1 λz H2=>nx (σ.set i (some z)) H2):NW i te ti ⟨nx,rt,bk,ct⟩ σ H:=⟨x,e,h⟩
theorem aNq{jh:V->V->Hp->VK->Prop}(h:to σ H λo H1=>ti σ H1 λi H2=>jh o i H2 λx H3=>te σ H3 λy H4=>zu x y H4 λz H5=>ke o i z H5 λH6=>nx σ H6):Ow to ti te jh zu ke ⟨nx,rt,bk,ct⟩ σ H:=h
theorem aPQ{g:TG}(h:wi σ H λJ H1=>∃W:Nat->Nat->St->Hp->Prop,(∃m,W 0 m σ H1)/\∀i m σ H,W i m σ H->
 (J.stop i H/\nx σ H)\/(J.go i H/\∃N:St->Hp->Prop,(∀σ' H',N σ' H'->∃m',m' < m/\W (i+1) m' σ' H')/\∀x H',J.sk i H x H'->g x σ H' λσ2 H2=>tb ⟨N,rt,nx,N⟩ σ2 H2)):NT wi g tb ⟨nx,rt,bk,ct⟩ σ H:=h
theorem aK9{i:Nat}(e:σ.set i (some v)=σ')(h:QG σ' H):vB i v σ H QG:=by unfold vB;rw[e];exact h
theorem gW{K:W.Frag}{n:Nat}{t:ub}{a:Addr}{xs:List V}(h1:mE K H a xs)(h2:xs.length=n)(h:t xs σ H QG):IX K n t (.ref a) σ H QG:=⟨a,xs,rfl,h1,h2,h⟩
theorem aNr(h:QG σ H):IY [] σ H QG:=⟨rfl,h⟩
theorem aLa(h:t v σ H λσ' H'=>u r σ' H' QG):Ji t u (v::r) σ H QG:=⟨v,r,rfl,h⟩
theorem aNs(h:to σ H λo H1=>ti σ H1 λi H2=>t o i v H2 λH3=>QG σ H3):N5 to ti t v σ H QG:=h
theorem xW{xs:List V}{k:Int}{j:Nat}{QH:Hp->Prop}(h1:H p=some (.lst xs))(h2:qg xs.length k=some j)(h:QH (upd H p (.lst (xs.set j v)))):aOt (.ref p) (.int k) v H QH:=⟨p,xs,k,j,rfl,rfl,h1,h2,h⟩
theorem aPR{K:W.Frag}{p:Addr}{xs:List V}{i:Int}{v:V}(h1:bR K H p xs)(h0:0<=i)(h2:xs[i.toNat]?=some v)(h:Q v H):gIx K (.ref p) (.int i) H Q:=⟨p,xs,i,v,rfl,rfl,h1,h0,h2,h⟩
theorem aPS{f:Int->Int->Int}{i j:Int}(h:Q (.int (f i j)) H):ipI f (.int i) (.int j) H Q:=⟨i,j,rfl,rfl,h⟩
theorem aPT{i:Nat}(e:σ[i]?=some (some v))(h:Q v H):IZ i σ H Q:=⟨v,e,h⟩
theorem aRS(h:Q v H):tC v σ H Q:=h
theorem aQ9(h:ta σ H λx H1=>tb σ H1 λy H2=>r x y H2 Q):zw r ta tb σ H Q:=h
theorem aRa{r:V->Hp->VK->Prop}(h:ta σ H λx H1=>r x H1 Q):KO r ta σ H Q:=h
theorem aPU{g:Int->Int->V}{i j:Int}(h:Q (g i j) H):yr g (.int i) (.int j) H Q:=⟨i,j,rfl,rfl,h⟩
theorem aRb{C:Int->Int->Prop}{g:Int->Int->V}{i j:Int}(c:C i j)(h:Q (g i j) H):rI C g (.int i) (.int j) H Q:=⟨i,j,rfl,rfl,c,h⟩
theorem aRc{g:Int->V}{i:Int}(h:Q (g i) H):rU g (.int i) H Q:=⟨i,rfl,h⟩
theorem aNt{i j:Int}(h:Q (.int (i+j)) H):OG (.int i) (.int j) H Q:=.inl ⟨i,j,rfl,rfl,h⟩
theorem xX{xs zs:List V}(h1:H l=some (.lst xs))(h2:H b=some (.lst zs))(hz:xs.length+zs.length<=sizeLine)(h:∀p,H p=none->Q (.ref p) (upd H p (.lst (xs++zs)))):OG (.ref l) (.ref b) H Q:=.inr ⟨l,b,xs,zs,rfl,rfl,h1,h2,hz,h⟩
theorem aNu{i j:Int}(c:E2 i j)(h:Q (.int (i*j)) H):aOx (.int i) (.int j) H Q:=.inl ⟨i,j,rfl,rfl,c,h⟩
theorem aPV{K:W.Frag}{x y:V}(h1:kZ x=true)(h2:kZ y=true)(h:Q (.bl (eqV x y)) H):iN K x y H Q:=⟨_,.inl ⟨h1,h2,rfl⟩,h⟩
theorem aLb{K:W.Frag}{x y:V}(h1:kZ x=true)(h2:kZ y=true)(h:Q (.bl (!eqV x y)) H):ve K x y H Q:=⟨_,.inl ⟨h1,h2,rfl⟩,h⟩
theorem Jw{K:W.Frag}{p:Addr}{xs:List V}{i:Int}{v:V}(h1:bR K H p xs)(h2:pC xs i=some v)(h:Q v H):Hs K (.ref p) (.int i) H Q:=.inl ⟨p,xs,i,v,rfl,rfl,h1,h2,h⟩
theorem aPW{K:W.Frag}{p:Addr}{xs:List V}{i:Int}{v:V}(h1:mE K H p xs)(h2:pC xs i=some v)(h:Q v H):Hs K (.ref p) (.int i) H Q:=.inr (.inl ⟨p,xs,i,v,rfl,rfl,h1,h2,h⟩)
theorem aRd{r:V->Option Int->Option Int->Hp->VK->Prop}(h:te σ H λx H1=>tl σ H1 λl H2=>th σ H2 λu H3=>r x l u H3 Q):KP r te tl th σ H Q:=h
theorem aJG{QO:Option Int->Hp->Prop}(h:QO none H):Ph σ H QO:=h
theorem aNv{QO:Option Int->Hp->Prop}(h:t σ H λx H1=>∃i,x=.int i/\QO (some i) H1):OF t σ H QO:=h
theorem Fo{K:W.Frag}{a:Addr}{xs:List V}{lo hi:Option Int}(h1:bR K H a xs)(h:∀p,H p=none->Q (.ref p) (upd H p (.lst (qN xs lo hi)))):E6 K (.ref a) lo hi H Q:=.inl ⟨a,xs,rfl,h1,h⟩
theorem aNw(h:ta σ H λx H1=>∃c,x=.bl c/\if c=true then tb σ H1 Q else Q (.bl false) H1):OA ta tb σ H Q:=h
theorem aPX(h:ta σ H λx H1=>∃c,x=.bl c/\if c=true then Q (.bl true) H1 else tb σ H1 Q):N1 ta tb σ H Q:=h
theorem aNx(h:ta σ H λx H1=>∃c,x=.bl c/\Q (.bl (!c)) H1):Oz ta σ H Q:=h
theorem aLc(h:ta σ H λx H1=>tb σ H1 λy H2=>r x y H2 λz H3=>∃k,z=.bl k/\(if k=true then tc σ H3 λw' H4=>r' y w' H4 Q else Q (.bl false) H3)):OT r r' ta tb tc σ H Q:=h
theorem aNy(h:t σ H λx H'=>∃k,x=.bl k/\QT k H'):Ou t σ H QT:=h
theorem aRe(h:t σ H λx H'=>∃k,x=.bl k/\QT k H'):tB t σ H QT:=h
theorem aPY(h:t σ H λc H1=>if c=true then u σ H1 QT else QT false H1):N3 t u σ H QT:=h
theorem aRf(h:t σ H λc H1=>if c=true then QT true H1 else u σ H1 QT):KQ t u σ H QT:=h
theorem aPZ(h:t σ H λc H1=>QT (!c) H1):N2 t σ H QT:=h
theorem aP0(h:QT true H):NZ σ H QT:=h
theorem aRg{b:Bool}{P:Bool->Prop}(h:P b):∃k,V.bl b=V.bl k/\P k:=⟨b,rfl,h⟩
theorem aNz{i:Int}{P:Int->Prop}(h:P i):∃k,V.int i=V.int k/\P k:=⟨i,rfl,h⟩
theorem aRh{i:Int}{P:Int->Prop}(h:P i):∃k,[V.int i]=[V.int k]/\P k:=⟨i,rfl,h⟩
theorem aRi{i j:Int}{P:Int->Int->Prop}(h:P i j):∃k l,[V.int i,V.int j]=[V.int k,V.int l]/\P k l:=⟨i,j,rfl,h⟩
theorem aP1(h:QA [] H):rZ σ H QA:=h
theorem aNA(h:ta σ H λx H1=>tr σ H1 λxs H2=>QA (x::xs) H2):cD ta tr σ H QA:=h
theorem aP2(h:t σ H λxs H1=>xs.length<=sizeLine/\∀p,H1 p=none->Q (.ref p) (upd H1 p (.tup xs))):Dv t σ H Q:=h
theorem aP3(h:t σ H λxs H1=>xs.length<=sizeLine/\∀p,H1 p=none->Q (.ref p) (upd H1 p (.lst xs))):tu t σ H Q:=h
theorem aNB(h:t σ H λvs H1=>sp vs H1 Q E):Dy sp [] E t σ H Q:=by
 unfold Dy;simpa only [oz] using h
theorem aRj{r:List V->Hp->VK->Prop}(h:t σ H λvs H1=>r vs H1 Q):BF r t σ H Q:=h
theorem aNC{k:Nat}{idx:List Nat}(h:wi σ H λJ H1=>lR J (uz k idx σ) g tt te (λys H'=>∀p,H' p=none->Q (.ref p) (upd H' p (.lst ys))) H1):Cg wi k idx g tt te σ H Q:=h
theorem aLd{R:It->Hp->Prop}(h:ta σ H λvs H1=>∃j:Int,vs=[.int j]/\-(2 ^ 62)<=j/\j < 2 ^ 62/\R (rh 0 j.toNat) H1):Jh ta σ H R:=h
theorem aLe{R:It->Hp->Prop}(h:ta σ H λvs H1=>∃i j:Int,vs=[.int i,.int j]/\(-(2 ^ 62)<=i/\i < 2 ^ 62/\-(2 ^ 62)<=j/\j < 2 ^ 62)/\R (rh i (j - i).toNat) H1):Jg ta σ H R:=h
theorem aP4{K:W.Frag}{ta:TE}{f:Str}(h:ta σ H λx H1=>∃a C dx fs v,x=.ref a/\H1 a=some (.ins C dx fs)/\me K C/\fE K C f/\fs.lookup f=some v/\Q v H1):NR K ta f σ H Q:=h
theorem aND{n:Nat}{P:Prop}(h1:n<=sizeLine)(h:P):n<=sizeLine/\P:=⟨h1,h⟩
theorem bZ{n:Nat}(h:n<=16777216):n<=sizeLine:=by rw[fc];exact h
end
section
variable{A B:Prop}{c:Prop}[Decidable c]
theorem dA(h1:c->A)(h2:¬c->B):if decide c=true then A else B:=by
 by_cases h:c
 ·rw[cJ (zV h)];exact h1 h
 ·rw[bV (by simpa using h)];exact h2 h
theorem JN(h1:¬c->A)(h2:c->B):if (!decide c)=true then A else B:=by
 by_cases h:c
 ·rw[bV (by simpa using h)];exact h2 h
 ·rw[cJ (by simpa using h)];exact h1 h
theorem xY{b:Bool}(h1:b=true->A)(h2:b=false->B):if b=true then A else B:=by
 cases b
 ·exact IQ (h2 rfl)
 ·exact IP (h1 rfl)
end
def aOy(sc:Scope)(NX:ak)(scope:Scope)(N:ak)(k:Nat)(idx:List Nat):Bool:=
 scope.names.all (λy=>!(y.2 == .cell)) && scope.names.all (λy=>!(y.2 == .local) || scope.names.lookup y.1 == some .local) &&
 scope.names.all (λy=>!(y.2 == .free) || (sc.names.lookup y.1 == some .cell || sc.names.lookup y.1 == some .free)) &&
 decide N.Nodup && decide (N.length=k+idx.length) && (List.range idx.length).all λi=>
  match (N.drop k)[i]?,idx[i]? with
  |some x,some j=>decide (NX[j]?=some x) && scope.names.lookup x == some .free
  |_,_=>false
theorem cU{X:Cx}{scope:Scope}{k:Nat}{idx:List Nat}(LO:X.env.scope=sc)(hN:X.N=NX)(hk:scope.kind=.function)(h:aOy sc NX scope N k idx=true):eJ X scope N k idx:=by
 unfold aOy at h;simp only[iz,decide_eq_true_eq] at h;obtain⟨⟨⟨⟨⟨h1,h2⟩,h3⟩,h4⟩,h5⟩,h6⟩:=h;rw[nj] at h1 h2 h3 h6;refine⟨hk,λy hy e=>?_,λy hy e=>?_,λy hy e=>?_,h4,h5,λi x e=>?_⟩
 ·have:=h1 y hy;rw[e] at this;simp at this
 ·have:=h2 y hy;rw[e] at this;simpa using this
 ·have:=h3 y hy;rw[e] at this;show X.env.scope.names.lookup y.1=_\/X.env.scope.names.lookup y.1=_;rw[LO];simpa using this
 ·have hi:i < (N.drop k).length:=(g0.mp e).1;have jv:i < idx.length:=by rw[Bj] at hi;lia
  have q:=h6 i (zU.mpr jv);rw[e,cG jv] at q;simp only[iz,decide_eq_true_eq] at q;exact⟨idx[i],cG jv,by rw[hN];exact q.1,by simpa using q.2⟩
theorem bJ{H:Hp}{a b:Addr}{o:HO}(h':H b=none)(h:H a=some o):a≠b:=bM h h'
theorem aO.at(e:aO H H')(h:H b=some o):H' b=some o:=e b o h
def bY(p:Addr)(H H':Hp):Prop:=∀b o,H b=some o->b≠p->H' b=some o
theorem bY.at(e:bY p H H')(h:H b=some o)(n:b≠p):H' b=some o:=e b o h n
theorem aO.new(h:H p=none):aO H (upd H p o):=λb u e=>by rw[aS (bM e h)];exact e
theorem bY.upd:bY p H (upd H p o):=λb u e n=>by rw[aS n];exact e
theorem bY.trans(a:bY p H H1)(b:bY p H1 H2):bY p H H2:=λc o h n=>b c o (a c o h n) n
theorem aO.keep(a:aO H H'):bY p H H':=λc o h _=>a c o h
section
variable{σ:St}{H:Hp}{nx bk ct:St->Hp->Prop}{rt:VK}
theorem sE{t u:TS}(J:St->Hp->Prop)(h1:∀N:St->Hp->Prop,(∀σ' H',J σ' H'->N σ' H')->t ⟨N,rt,bk,ct⟩ σ H)(h2:∀σ' H',J σ' H'->u ⟨nx,rt,bk,ct⟩ σ' H'):E4 t u ⟨nx,rt,bk,ct⟩ σ H:=h1 _ h2
end
theorem aEM{K:W.Frag}{a:Addr}{xs:List V}{σ₀:St}{g:TG}{tt:TT}{te:TE}{R:List V->Hp->Prop}{H:Hp}(f:V->V)(hS:bR K H a xs)(hz:xs.length<=sizeLine)
  (hs:∀x (N:V->Hp->Prop) (N':Hp->Prop),x∈xs->N (f x) H->g x σ₀ H λσ2 H2=>tt σ2 H2 λb H3=>if b=true then te σ2 H3 λy H4=>N y H4 else N' H3)
  (hd:R (xs.map f) H):lR (ud K a) σ₀ g tt te R H:=by
 refine cM (λi ys H'=>H'=H/\ys=(xs.take i).map f) ⟨rfl,by simp⟩ hz (λi ys H' hi z1q=>?_) (λi x ys H' hx z2q=>?_) (λys H' z3q=>?_)
 ·obtain⟨e1,e2⟩:=z1q;subst e1 e2;exact⟨hS,by simp;lia⟩
 ·obtain⟨e1,e2⟩:=z2q;subst e1 e2;refine hs x (λy H4=>H4=H'/\(xs.take i).map f ++ [y]=(xs.take (i+1)).map f) (λH3=>H3=H'/\(xs.take i).map f=(xs.take (i+1)).map f) (iI hx) ⟨rfl,?_⟩;rw[xb,hx,iJ];rfl
 ·obtain⟨e1,e2⟩:=z3q;subst e1 e2;rw[fe];exact hd
theorem aHC{lo:Int}{n:Nat}{g:TG}{R:List V->Hp->Prop}(f:Nat->V)(hz:n<=sizeLine)(hs:∀i (N:V->Hp->Prop) (N':Hp->Prop),i < n->N (f i) H->g (.int (lo+i)) σ₀ H λσ2 H2=>tt σ2 H2 λb H3=>if b=true then te σ2 H3 λy H4=>N y H4 else N' H3)(hd:R ((List.range n).map f) H):lR (rh lo n) σ₀ g tt te R H:=by
 refine sD (λi ys H'=>H'=H/\ys=(List.range i).map f) ⟨rfl,by simp⟩ hz (λi ys H' hi z4q=>?_) (λi ys H' hi z5q=>?_) (λys H' z6q=>?_)
 ·obtain⟨e1,e2⟩:=z4q;subst e1 e2;simp
 ·obtain⟨e1,e2⟩:=z5q;subst e1 e2;refine hs i (λy H4=>H4=H'/\(List.range i).map f ++ [y]=(List.range (i+1)).map f) (λH3=>H3=H'/\(List.range i).map f=(List.range (i+1)).map f) hi ⟨rfl,?_⟩;rw[List.range_succ,iJ];rfl
 ·obtain⟨e1,e2⟩:=z6q;subst e1 e2;exact hd
theorem aNE{X:Cx}{n:Int}(hg:Gl X x)(hm:∃t,X.mg x=some (.int n t))(hd:(x == ("__debug__" : Str))=false:=by decide):PE X (.Name x pos) (tC (.int n)):=by
 obtain⟨t,hm⟩:=hm;exact aML (v:=.int n) hg hm ⟨t,rfl⟩ hd
section
variable{X:Cx}{K:W.Frag}{H:Hp}{Q:VK}
def jR(K:W.Frag):List V->Hp->VK->Prop:=λxs H Q=>∃x n,xs=[x]/\aQU K x H n/\Q (.int n) H
theorem bS:eC X (.builtin "len") (jR X.K):=aKy
theorem aNF{xs:List V}(h:bR K H p xs)(q:Q (.int xs.length) H):jR K [.ref p] H Q:=⟨_,_,rfl,.inl ⟨_,h,rfl⟩,q⟩
theorem aNG{xs:List V}(h:mE K H p xs)(q:Q (.int xs.length) H):jR K [.ref p] H Q:=⟨_,_,rfl,.inr ⟨_,h,rfl⟩,q⟩
def aRk:List V->Hp->VK->Prop:=λxs H Q=>∃i,xs=[.int i]/\Q (.int (if i < 0 then -i else i)) H
theorem aJH:eC X (.builtin "abs") aRk:=aKx
theorem aP5{i:Int}(h:Q (.int (if i < 0 then -i else i)) H):aRk [.int i] H Q:=⟨i,rfl,h⟩
def aRl:List V->Hp->VK->Prop:=λxs H Q=>∃i j,xs=[.int i,.int j]/\Q (.int (if j > i then j else i)) H
theorem oA(hc:X.calm=true):eC X (.builtin "max") aRl:=aJt hc
theorem aP6{i j:Int}(h:Q (.int (max i j)) H):aRl [.int i,.int j] H Q:=⟨i,j,rfl,by
 rw[show(if j > i then j else i)=max i j by split <;> lia];exact h⟩
def aRm:List V->Hp->VK->Prop:=λxs H Q=>∃i j,xs=[.int i,.int j]/\Q (.int (if j < i then j else i)) H
theorem P5(hc:X.calm=true):eC X (.builtin "min") aRm:=aJu hc
theorem aP7{i j:Int}(h:Q (.int (min i j)) H):aRm [.int i,.int j] H Q:=⟨i,j,rfl,by
 rw[show(if j < i then j else i)=min i j by split <;> lia];exact h⟩
def u7(K:W.Frag):List V->Hp->VK->Prop:=λxs H Q=>∃x c b,xs=[x,c]/\Bs K H x c b/\Q (.bl b) H
theorem cX:eC X (.builtin "isinstance") (u7 X.K):=aK7
theorem dB{b:Bool}(h1:Bs K H x c b)(h:Q (.bl b) H):u7 K [x,c] H Q:=⟨x,c,b,rfl,h1,h⟩
def xZ(K:W.Frag):List V->Hp->VK->Prop:=λxs H Q=>∃p ys,xs=[.ref p]/\(bR K H p ys\/mE K H p ys)/\∀l,H l=none->Q (.ref l) (upd H l (.lst ys))
theorem sF:eC X (.type "list") (xZ X.K):=aFh
theorem JW(h1:bR K H p ys)(h:∀l,H l=none->Q (.ref l) (upd H l (.lst ys))):xZ K [.ref p] H Q:=⟨p,ys,rfl,.inl h1,h⟩
end
theorem aNH{K:W.Frag}{H:Hp}{p q:Addr}{xs:List V}(h1:bR K H p xs)(h2:bR K H q []):Bu K H 8 (.ref p) (.ref q) xs.isEmpty:=
 .inr ⟨p,q,xs,[],λ_=>true,rfl,rfl,.inl ⟨h1,h2⟩,λj u v _ e=>by simp at e,by cases xs <;> simp⟩
theorem aLf{xs:List V}{n:Nat}(h:xs.length<=n):qN xs none (some (n:Int))=xs:=by
 unfold qN;rw[HT.aGl,HT.aIA,Nat.min_eq_right h,List.drop_zero,Cm,fe]
section
variable{σ:St}{H:Hp}{nx:St->Hp->Prop}{rt:VK}{g:TG}{tb:TS}{Q:VK}
theorem iO{lo:Int}{n:Nat}(Pv:Nat->St->Hp->Prop)(h0:Pv 0 σ H)
  (hs:∀i σ H,i < n->Pv i σ H->g (.int (lo+i)) σ H λσ2 H2=>tb ⟨Pv (i+1),rt,nx,Pv (i+1)⟩ σ2 H2) (hd:∀σ H,Pv n σ H->nx σ H) :
  ∃W:Nat->Nat->St->Hp->Prop,(∃m,W 0 m σ H)/\∀i m σ H,W i m σ H->
   ((rh lo n).stop i H/\nx σ H)\/((rh lo n).go i H/\∃N:St->Hp->Prop,(∀σ' H',N σ' H'->∃m',m' < m/\W (i+1) m' σ' H')/\∀x H',(rh lo n).sk i H x H'->g x σ H' λσ2 H2=>tb ⟨N,rt,nx,N⟩ σ2 H2):=
 aJs (D:=⟨nx,rt,λ_ _=>False,λ_ _=>False⟩) Pv h0 hs hd
theorem sG{K:W.Frag}{a:Addr}{xs:List V}(Pv:Nat->St->Hp->Prop)(h0:Pv 0 σ H)(hl:∀i σ H,i<=xs.length->Pv i σ H->bR K H a xs)
  (hs:∀i x σ H,xs[i]?=some x->Pv i σ H->g x σ H λσ2 H2=>tb ⟨Pv (i+1),rt,nx,Pv (i+1)⟩ σ2 H2) (hd:∀σ H,Pv xs.length σ H->nx σ H) :
  ∃W:Nat->Nat->St->Hp->Prop,(∃m,W 0 m σ H)/\∀i m σ H,W i m σ H->
   ((ud K a).stop i H/\nx σ H)\/((ud K a).go i H/\∃N:St->Hp->Prop,(∀σ' H',N σ' H'->∃m',m' < m/\W (i+1) m' σ' H')/\∀x H',(ud K a).sk i H x H'->g x σ H' λσ2 H2=>tb ⟨N,rt,nx,N⟩ σ2 H2):=
 aKt (D:=⟨nx,rt,λ_ _=>False,λ_ _=>False⟩) Pv h0 hl hs hd
theorem O4{K:W.Frag}{a:Addr}{xs:List V}(Pv:Nat->St->Hp->Prop)(h0:Pv 0 σ H)(hl:∀i σ H,i<=xs.length->Pv i σ H->mE K H a xs)
  (hs:∀i x σ H,xs[i]?=some x->Pv i σ H->g x σ H λσ2 H2=>tb ⟨Pv (i+1),rt,nx,Pv (i+1)⟩ σ2 H2) (hd:∀σ H,Pv xs.length σ H->nx σ H) :
  ∃W:Nat->Nat->St->Hp->Prop,(∃m,W 0 m σ H)/\∀i m σ H,W i m σ H->
   ((xf K a).stop i H/\nx σ H)\/((xf K a).go i H/\∃N:St->Hp->Prop,(∀σ' H',N σ' H'->∃m',m' < m/\W (i+1) m' σ' H')/\∀x H',(xf K a).sk i H x H'->g x σ H' λσ2 H2=>tb ⟨N,rt,nx,N⟩ σ2 H2):=
 aMX (D:=⟨nx,rt,λ_ _=>False,λ_ _=>False⟩) Pv h0 hl hs hd
theorem aP8{K:W.Frag}{i j:Int}(h:Q (.bl (decide (i=j))) H):iN K (.int i) (.int j) H Q:=⟨_,.inl ⟨rfl,rfl,rfl⟩,h⟩
theorem aLg{K:W.Frag}{i j:Int}(h:Q (.bl (!decide (i=j))) H):ve K (.int i) (.int j) H Q:=⟨_,.inl ⟨rfl,rfl,rfl⟩,h⟩
end
def noStar:Expr->Bool
 |.Starred _ _=>false
 |_=>true
theorem cC(h:noStar e=true):starEach (e::es) env=(false,eval e env)::starEach es env:=by
 cases e <;> first|rfl|exact absurd h fo
theorem iP:∀{es:List Expr},es.all noStar=true->(backTo pos (starEach es env)).any (·.1)=false
 |[],_=>rfl
 |e::es,h=>by
  rw[List.all_cons,iz] at h;rw[cC h.1];have ih:=iP (env:=env) (pos:=pos) h.2;unfold backTo at ih ⊢;rw[fm,List.any_cons];rw[ih];rfl
section
variable{X:Cx}{CX:rj}{k:Nat}{f C:Addr}{fd:FuncData}{ps:ak}{sp:Sp}{de:List V}{ds:af}{E:XK}{x m:Str}{p pos apos:Pos}{e o:Expr}{es:List Expr}{ta te:TE}{t:TA}
theorem oE(ha:PE X e te)(hr:PA X es t)(hs:noStar e=true:=by rfl):PA X (e::es) (cD te t):=aM3 ha hr (cC hs)
theorem gK{es:List Expr}(h:(e::es).all noStar=true):noStar e=true/\es.all noStar=true:=by
 rw[List.all_cons,iz] at h;exact h
theorem aLh(F:cE X.prog X.w X.K X.mg X.base CX k f fd ps sp)(hr:eS k X.A)(hg:Gl X x)(hm:X.mg x=some (.ref f))(hk:W.keepIn X.K (.ref f)=true)(hb:Binds X.K fd ps ds)(hd:Vals de ds)(hx:Passes CX X E)
  (ha:PA X (e::es) t) (hn:(e::es).all noStar=true:=by rfl) (dv:(x == ("__debug__" : Str))=false:=by decide):PE X (.Call (.Name x p) (e::es) [] pos) (Dy sp de E t):=
 aM4 F hr hg hm hk hb hd hx ha dv (cC (gK hn).1) (iP (gK hn).2)
theorem aLi(M:Mk X.K C f)(F:cE X.prog X.w X.K X.mg X.base CX k f fd ps sp)(hr:eS (k+1) X.A)(hg:Gl X x)(hm:X.mg x=some (.ref C))(hb:Binds X.K fd ps ds)(hd:Vals de ds)(hx:Passes CX X E)
  (ha:PA X (e::es) t) (hn:(e::es).all noStar=true:=by rfl) (dv:(x == ("__debug__" : Str))=false:=by decide):PE X (.Call (.Name x p) (e::es) [] pos) (E8 C sp de E t):=
 aM6 M F hr hg hm hb hd hx ha dv (cC (gK hn).1) (iP (gK hn).2)
variable{id T:String}{r:List V->Hp->VK->Prop}
theorem aJI(hc:eC X (.builtin id) r)(hg:Gl X x)(hm:X.mg x=none)(hv:bootBuiltins x=some (.builtin id))(ha:PA X (e::es) t)(hn:(e::es).all noStar=true:=by rfl)(bj:x≠"__name__":=by decide)(dv:(x == ("__debug__" : Str))=false:=by decide) :
  PE X (.Call (.Name x p) (e::es) [] pos) (BF r t):=aKF hc hg hm hv ha bj dv (cC (gK hn).1) (iP (gK hn).2)
theorem aHE(hc:eC X (.type T) r)(hg:Gl X x)(hm:X.mg x=none)(hv:bootBuiltins x=some (.type T))(ha:PA X (e::es) t)(hn:(e::es).all noStar=true:=by rfl)(bj:x≠"__name__":=by decide)(dv:(x == ("__debug__" : Str))=false:=by decide) :
  PE X (.Call (.Name x p) (e::es) [] pos) (BF r t):=aJz hc hg hm hv ha bj dv (cC (gK hn).1) (iP (gK hn).2)
variable{tg a b:Expr}
theorem aHF(hg:Gl X "range")(hm:X.mg "range" = none)(ha:PA X [a] t)(hn:noStar a=true:=by rfl):PI X tg (.Call (.Name "range" p) [a] [] pos) (Jh t):=aJp hg hm ha (cC hn)
theorem aHG(hg:Gl X "range")(hm:X.mg "range" = none)(ha:PA X [a,b] t)(hn:noStar a=true:=by rfl)(ur:noStar b=true:=by rfl):PI X tg (.Call (.Name "range" p) [a,b] [] pos) (Jg t):=
 aJq hg hm ha (by rw[cC hn,cC ur];rfl) (cC ur)
end
section
variable{X:Cx}{pos:Pos}{x1:Nat}{e1 e2 e3 e4 e5 e6 e7 e8:Expr}{t1 t2 t3 t4 t5 t6 t7 t8:TE}
theorem aRT(h1:PE X e1 t1)(n1:noStar e1=true:=by rfl):PE X (.List [e1] pos) (tu (cD t1 rZ)):=DJ (oE h1 vF n1)
theorem aRU(h1:PE X e1 t1)(h2:PE X e2 t2)(n1:noStar e1=true:=by rfl)(n2:noStar e2=true:=by rfl):PE X (.List [e1,e2] pos) (tu (cD t1 (cD t2 rZ))):=DJ (oE h1 (oE h2 vF n2) n1)
theorem aRV{k1}(h1:PE X e1 t1)(h2:PE X e2 t2)(n1:noStar e1=true:=by rfl)(n2:noStar e2=true:=by rfl):PE X (.Tuple [e1,e2] k1 pos) (Dv (cD t1 (cD t2 rZ))):=aKB (oE h1 (oE h2 vF n2) n1)
theorem aRW(h1:PE X e1 t1)(h2:PE X e2 t2)(h3:PE X e3 t3)(n1:noStar e1=true:=by rfl)(n2:noStar e2=true:=by rfl)(n3:noStar e3=true:=by rfl):PE X (.List [e1,e2,e3] pos) (tu (cD t1 (cD t2 (cD t3 rZ)))):=DJ (oE h1 (oE h2 (oE h3 vF n3) n2) n1)
theorem aRX{k1}(h1:PE X e1 t1)(h2:PE X e2 t2)(h3:PE X e3 t3)(n1:noStar e1=true:=by rfl)(n2:noStar e2=true:=by rfl)(n3:noStar e3=true:=by rfl):PE X (.Tuple [e1,e2,e3] k1 pos) (Dv (cD t1 (cD t2 (cD t3 rZ)))):=aKB (oE h1 (oE h2 (oE h3 vF n3) n2) n1)
theorem aRY(h1:PE X e1 t1)(h2:PE X e2 t2)(h3:PE X e3 t3)(h4:PE X e4 t4)(n1:noStar e1=true:=by rfl)(n2:noStar e2=true:=by rfl)(n3:noStar e3=true:=by rfl)(n4:noStar e4=true:=by rfl):PE X (.List [e1,e2,e3,e4] pos) (tu (cD t1 (cD t2 (cD t3 (cD t4 rZ))))):=DJ (oE h1 (oE h2 (oE h3 (oE h4 vF n4) n3) n2) n1)
theorem aRZ(h1:PE X e1 t1)(h2:PE X e2 t2)(h3:PE X e3 t3)(h4:PE X e4 t4)(h5:PE X e5 t5)(h6:PE X e6 t6)(h7:PE X e7 t7)(n1:noStar e1=true:=by rfl)(n2:noStar e2=true:=by rfl)(n3:noStar e3=true:=by rfl)(n4:noStar e4=true:=by rfl)(n5:noStar e5=true:=by rfl)(n6:noStar e6=true:=by rfl)(n7:noStar e7=true:=by rfl):PE X (.List [e1,e2,e3,e4,e5,e6,e7] pos) (tu (cD t1 (cD t2 (cD t3 (cD t4 (cD t5 (cD t6 (cD t7 rZ)))))))):=DJ (oE h1 (oE h2 (oE h3 (oE h4 (oE h5 (oE h6 (oE h7 vF n7) n6) n5) n4) n3) n2) n1)
end
section
variable{X:Cx}{pins:ao}{σ:St}{H:Hp}{s:Shared}{h':Heap}
theorem Inv.aEN{t':Nat}{ch:ah}{T:Addr}{o:HO}(I:Inv X pins σ H s)(k:∀b u,b∉ch->s.heap.get? b=some u->h'.get? b=some u)
  (qi:∀b∈ch,tw X pins H b) (hT:s.heap.objs.size<=T) (new:bO X.prog X.w (upd H T o) h' T o):Inv X pins σ (upd H T o) { s with heap:=h',toks:=t' }:=by
 have hn:H T=none:=I.av.fresh hT;have Ee:∀b u,H b=some u->b∉ch:=λb u e z=>by rw[(qi b z).1] at e;cases e
 have neT:∀b u,H b=some u->b≠T:=λb u e=>bM e hn;refine I.step (g':=s.gens) (d':=s.drawn) (ch:=ch) (λb hb=>?_) (λb u _ _ hc e _=>k b u hc e) (λb u _ _ hc e _=>⟨u.slots,k b u hc e⟩) (λb u hc e n=>?_)
  (λb u hc e=>⟨u,k b u hc e⟩) (λb xs e=>?_) (λb u v e=>?_) (λb ps e=>⟨#[],?_⟩) (λm hm=>?_) (λb u e=>?_) I.bare
 ·obtain⟨f0,f1,f2,f3,f4,f5⟩:=qi b hb;exact⟨f3,f1,f4,f5⟩
 ·rw[aS (gM (rT (eB e) hT))];exact n
 ·rw[aS (neT _ _ e)];exact e
 ·rw[aS (neT _ _ e)];exact e
 ·rw[aS (neT _ _ e),e];simp
 ·obtain⟨u,es,ep,ho,r⟩:=hm;exact⟨u,es,ep,k _ u (λz=>(qi _ z).2.1 rfl) ho,r⟩
 ·by_cases hb:b=T
  ·subst hb;rw[aP] at e;cases e;exact new
  ·rw[aS hb] at e;refine(I.av b u e).vf (λc v hc q=>k c v ?_ q) (λc q=>by rw[aS (bM q hn)];exact q) λc xs _ q=>by rw[aS (bM q hn)];exact q
   rcases hc with z|z
   ·rw[z];exact Ee b u e
   ·exact Ee c _ z
end
def Cv(K:W.Frag)(a:Addr):It:=
 ⟨λi H=>∃xs x,bR K H a xs/\xs[i]?=some x,λi H x H'=>∃T v,H T=none/\x=.ref T/\H'=upd H T (.tup [.int i,v])/\∀xs,bR K H a xs->xs[i]?=some v,λi H=>∃xs,bR K H a xs/\xs.length<=i⟩
theorem aJJ{P:Program}{w:World}{K:W.Frag}{elts:List Expr}{x1:Nat}{tp:Pos}(a e it:Addr)(hei:e≠it) :
  Turn P w K (.Tuple elts x1 tp) (Cv K a) [e,it] e (λi h=>(∃old,IsEnum h e it ((i:Nat):Int) old)/\h.IsListIter it a i) where
 mem:=by simp
 obj:=λi h st b hb=>by
  obtain⟨⟨old,he⟩,st⟩:=st;rcases lQ.mp hb with z|hb
  ·subst z;exact⟨_,he,λv z=>by cases z⟩
  ·have z:b=it:=by simpa using hb
   subst z;obtain⟨o,e,c,d⟩:=st;exact⟨o,e,λv z=>by rw[d] at z;cases z⟩
 keep:=λi h h' st k=>by
  obtain⟨⟨old,he⟩,st⟩:=st;exact⟨⟨old,k e (by simp) _ he⟩,st.at λo q=>k it (by simp) o q⟩
 item:=by
  intro X hP hw hK hc i pins s σ H E I hf st hg;subst hP hw hK;obtain⟨⟨old,he⟩,st⟩:=st;obtain⟨xs,x,hq,hx⟩:=hg;obtain⟨its,rv,p,hz⟩:=I.list hq;obtain⟨u,hu,ru⟩:=rv.get hx;have Gs:e < s.heap.objs.size:=eB he;have AI:it < s.heap.objs.size:=by obtain⟨_,z,_⟩:=id st;exact eB z
  refine wpAny_pyNext_enum_item he st p.isList (x:=u) (by simpa using hu) hei λh1 ho xt hT hsz hk=>?_;refine⟨_,rfl,wpAny_letOwnedTupleGo_enum ho λh2 Mb kl=>?_⟩
  replace kl:Heap.SameBut e h1 h2:=kl
  have B0:h2.IsTuple s.heap.objs.size #[.int i s.toks,u]:=⟨_,(kl.2 _ (je Gs)).trans hT,rfl,_,rfl⟩
  have kk:∀b o,b∉[e,it]->s.heap.get? b=some o->h2.get? b=some o:=λb o hb q=>by
   have n1:b≠e:=λz=>hb (by simp[z]);have n2:b≠it:=λz=>hb (by simp[z]);exact(kl.2 b n1).trans (hk b o n1 n2 q)
  have I2:Inv X pins σ (upd H s.heap.objs.size (.tup [.int i,x])) { s with heap:=h2,toks:=s.toks+1 }:=
   I.aEN kk hf (d7 _) (show bO X.prog X.w _ h2 _ (.tup [.int i,x]) from⟨bZ (by simp),[.int i s.toks,u],.cons ⟨_,rfl⟩ (.cons ru .nil),B0⟩)
  have uu:H s.heap.objs.size=none:=I.av.fresh (d7 _);refine⟨.ref s.heap.objs.size,_,I2,rfl,⟨_,x,uu,rfl,rfl,λys hy=>by rw[I.PM hy hq];exact hx⟩,⟨⟨u,?_⟩,?_⟩,λb hb=>?_⟩
  ·have e1:((i+1:Nat):Int)=(i:Int)+1:=by push_cast;rfl
   rw[e1];exact Mb
  ·exact xt.at λo q=>(kl.2 it hei.symm).trans q
  ·have br:b < s.heap.objs.size:=by
    rcases lQ.mp hb with z|hb
    ·rw[z];exact Gs
    ·rw[show b=it by simpa using hb];exact AI
   rw[aS (gM br)];exact(hf b hb).1
 done:=by
  intro X hP hw hK hc i pins s σ H E I hf st hg;subst hP hw hK;obtain⟨⟨old,he⟩,st⟩:=st;obtain⟨xs,hq,hx⟩:=hg;obtain⟨its,rv,p,hz⟩:=I.list hq;obtain⟨f0,f1,f2,f3,f4,f5⟩:=hf it (by simp);have hl:=rv.length;exact wpAny_pyNext_enum_end (I.ok.hd hc) he st p.isList (by simp;lia) λh' eb=>⟨rfl,I.turned (t':=s.toks) (λb o hb e=>eb b o hb e) f0 f1 f3 f4 f5⟩
 self:=λ_ _ _ _ _ st h=>by
  obtain⟨⟨old,he⟩,st⟩:=st;exact wpAny_pyIter_enum he h
section
variable{X:Cx}{elts:List Expr}{x1:Nat}{tp:Pos}
def Oj(K:W.Frag)(ta:TA):TI:=λσ H R=>ta σ H λvs H1=>∃a,vs=[.ref a]/\(∃xs,bR K H1 a xs)/\R (Cv K a) H1
theorem aNI{a:Expr}{ta:TA}{p pos:Pos}(hg:Gl X "enumerate")(hm:X.mg "enumerate" = none)(ha:PA X [a] ta)(hn:noStar a=true:=by rfl):PI X (.Tuple elts x1 tp) (.Call (.Name "enumerate" p) [a] [] pos) (Oj X.K ta):=by
 intro pins s σ H R I h;refine Call_ (rW I hg hm boot_enumerate (PyProof.Rows.callWith_type1 (dP (ha pos pins s σ H _ I h) λus s1 zq=>?_) (cC hn) rfl));obtain⟨vs,H1,I1,r1,q1⟩:=zq;obtain⟨l,e,⟨xs,hq⟩,q⟩:=q1;subst e;obtain⟨u,rfl,ru⟩:=vals1 r1;cases ru;obtain⟨its,rv,pl,hz⟩:=I1.list hq;refine call_enumerate_list pl.isList λh' he hit hsz hk=>?_;refine wpAny_pyIter_enum he ?_;refine⟨s1.heap.objs.size+1,[s1.heap.objs.size+1,s1.heap.objs.size],_,_,H1,rfl,I1.kept (t':=s1.toks) hk,aJJ l _ _ (Nat.succ_ne_self _),⟨⟨_,he⟩,hit⟩,λb hb=>?_,q⟩;have hle:s1.heap.objs.size<=b:=by
  rcases lQ.mp hb with z|hb
  ·rw[z];exact Nat.le_succ _
  ·rw[show b=s1.heap.objs.size by simpa using hb];exact d7 _
 exact I1.Ai hle (I1.av.fresh hle)
end
section
variable{σ:St}{H:Hp}{nx:St->Hp->Prop}{rt:VK}{g:TG}{tb:TS}{Q:VK}{K:W.Frag}
def EnQ(K:W.Frag)(R:It->Hp->Prop):List V->Hp->Prop:=λvs H1=>∃a,vs=[.ref a]/\(∃xs,bR K H1 a xs)/\R (Cv K a) H1
def LiQ(K:W.Frag)(R:It->Hp->Prop):V->Hp->Prop:=λx H1=>∃a,x=.ref a/\(∃xs,bR K H1 a xs)/\R (ud K a) H1
def TiQ(K:W.Frag)(R:It->Hp->Prop):V->Hp->Prop:=λx H1=>∃a,x=.ref a/\(∃xs,mE K H1 a xs)/\R (xf K a) H1
theorem aLk{R:It->Hp->Prop}(h:ta σ H (EnQ K R)):Oj K ta σ H R:=h
theorem aJK{R:It->Hp->Prop}(h:tl σ H (LiQ K R)):Ov K tl σ H R:=h
theorem aLl{R:It->Hp->Prop}(h:tl σ H (TiQ K R)):NU K tl σ H R:=h
theorem Oi{R:It->Hp->Prop}(h1:bR K H a xs)(h:R (Cv K a) H):EnQ K R [.ref a] H:=⟨a,rfl,⟨xs,h1⟩,h⟩
theorem fA{R:It->Hp->Prop}(h1:bR K H a xs)(h:R (ud K a) H):LiQ K R (.ref a) H:=⟨a,rfl,⟨xs,h1⟩,h⟩
theorem Jl{R:It->Hp->Prop}(h1:mE K H a xs)(h:R (xf K a) H):TiQ K R (.ref a) H:=⟨a,rfl,⟨xs,h1⟩,h⟩
theorem Pd{xs:List V}(Pv:Nat->St->Hp->Prop)(h0:Pv 0 σ H)(hl:∀i σ H,i<=xs.length->Pv i σ H->bR K H a xs)(hs:∀i x σ H T,xs[i]?=some x->Pv i σ H->H T=none->g (.ref T) σ (upd H T (.tup [.int i,x])) λσ2 H2=>tb ⟨Pv (i+1),rt,nx,Pv (i+1)⟩ σ2 H2)(hd:∀σ H,Pv xs.length σ H->nx σ H) :
  ∃W:Nat->Nat->St->Hp->Prop,(∃m,W 0 m σ H)/\∀i m σ H,W i m σ H->
   ((Cv K a).stop i H/\nx σ H)\/((Cv K a).go i H/\∃N:St->Hp->Prop,(∀σ' H',N σ' H'->∃m',m' < m/\W (i+1) m' σ' H')/\∀x H',(Cv K a).sk i H x H'->g x σ H' λσ2 H2=>tb ⟨N,rt,nx,N⟩ σ2 H2):=by
 refine⟨λi m σ H=>m=xs.length - i/\i<=xs.length/\Pv i σ H,⟨xs.length,by simp,dz _,h0⟩,?_⟩;rintro i m σ H ⟨rfl,hi,p⟩;have q:=hl i σ H hi p;by_cases br:i < xs.length
 ·refine .inr ⟨⟨xs,xs[i],q,by simp[br]⟩,Pv (i+1),λσ' H' p'=>⟨xs.length - (i+1),by lia,rfl,br,p'⟩,λx H' y=>?_⟩;obtain⟨T,v,hT,e1,e2,y⟩:=y;subst e1 e2;exact hs i v σ H T (y xs q) p hT
 ·have e:i=xs.length:=by lia
  subst e;exact .inl ⟨⟨xs,q,d7 _⟩,hd σ H p⟩
end
section
variable{X:Cx}
theorem zZ:∀{bs:List Bool}{us:af},Vals (bs.map V.bl) us->us=bs.map Value.bool
 |[],_,.nil=>rfl
 |b::bs,_,.cons r t=>by cases r;rw[zZ t];rfl
def A6(K:W.Frag):List V->Hp->VK->Prop:=λxs H Q=>∃(p:Addr) (bs:List Bool),xs=[.ref p]/\bR K H p (bs.map V.bl)/\Q (.bl (bs.all id)) H
theorem oB(hc:X.calm=true):eC X (.builtin "all") (A6 X.K):=by
 intro pins s σ H xs us Q I r h;obtain⟨p,bs,rfl,hq,q⟩:=h;obtain⟨u,rfl,rx⟩:=vals1 r;cases rx;obtain⟨its,r',pl,hz⟩:=I.list hq;have e:=zZ r';subst e;have hl:=pl.isList;have br:p < s.heap.objs.size:=by obtain⟨_,e,_⟩:=id hl;exact eB e
 refine call_all_walk (wpAny_pyIter_list hl ?_);refine⟨s.heap.objs.size,[s.heap.objs.size,p],[s.heap.objs.size],(bs.map Value.bool).toArray.size,_,_,λi=>(bs[i]?).getD true,rfl,Walks.list (A:=X.A.in1) (I.ok.hd hc) _ p (gM br) (bs.map Value.bool).toArray,
  ⟨⟨_,mJ _ rfl,rfl,rfl⟩,hl.push _⟩,λi v s' Q' E' hP hQ=>?_,λh' tk hk=>?_⟩
 ·have wm:(bs.map Value.bool)[i]?=some v:=by simpa using hP
  rw[hE] at wm;cases hb:bs[i]? with
  |none=>rw[hb] at wm;cases wm
  |some b=>
   rw[hb] at wm;cases wm;simp only[hb,J7] at hQ;exact wpAny_truthy_bool hQ
 ·have e:((List.range (bs.map Value.bool).toArray.size).all λi=>(bs[i]?).getD true)=bs.all id:=by
   rw[iL,bK];exact LSm.range_all bs
  rw[e];exact⟨.bl _,H,I.kept (t':=tk) (LSm.kept_iter hk),rfl,q⟩
end
section
variable{X:Cx}{o e:Expr}{to:TE}{t:TA}{apos aw:Pos}
theorem aP9(ho:PE X o to)(ha:PA X [e] t)(hn:noStar e=true:=by rfl)(bg:attributeBase o "append" X.env (eval o X.env)=eval o X.env:=by rfl)(bc:(apos.endLine == aw.line)=true:=by rfl) :
  PE X (.Call (.Attribute o "append" apos) [e] [] aw) (C5 X.K "list" JO to t):=
 aOu PySem.F.plainAttrs_list PySem.F.slot_list_append PySem.F.type_list_append aJA ho ha bg (by rw[cC hn];rfl) bc (cC hn) (by rfl)
end
section
variable{K:W.Frag}{σ:St}{H:Hp}{Q:VK}
theorem aRn{r:V->List V->Hp->VK->Prop}{t:TA}(h:to σ H λx H1=>C4 K T x H1/\t σ H1 λxs H2=>r x xs H2 Q):C5 K T r to t σ H Q:=h
theorem hV{P:Prop}(h:bR K H p xs)(q:P):C4 K "list" (.ref p) H/\P:=⟨.inl ⟨rfl,xs,h⟩,q⟩
theorem lU{xs:List V}(h:H l=some (.lst xs))(hz:xs.length < sizeLine)(q:Q .ba (upd H l (.lst (xs ++ [y])))):JO (.ref l) [y] H Q:=⟨l,xs,y,rfl,rfl,h,hz,q⟩
theorem aQa:∀(xs ys:aa),(xs.length == ys.length && (List.range xs.length).all λj=>decide (xs[j]?=ys[j]?))=decide (xs=ys):=by
 intro xs ys;rw[Bool.eq_iff_iff];simp only[iz,beq_iff_eq,nj,zU,decide_eq_true_eq];constructor
 ·rintro ⟨hl,h⟩;apply Co;intro i;by_cases hi:i < xs.length
  ·exact h i hi
  ·rw[xc (by lia),xc (by lia)]
 ·rintro rfl;exact⟨rfl,λ_ _=>rfl⟩
theorem aGx{n:Nat}{xs ys:aa}(h:(bR K H p (xs.map V.int)/\bR K H q (ys.map V.int))\/(mE K H p (xs.map V.int)/\mE K H q (ys.map V.int))):Bu K H (n+1) (.ref p) (.ref q) (decide (xs=ys)):=by
 refine .inr ⟨p,q,xs.map V.int,ys.map V.int,λj=>decide (xs[j]?=ys[j]?),rfl,rfl,h,λj u v hu hv=>?_,?_⟩
 ·rw[hE] at hu hv;cases hx:xs[j]? with
  |none=>rw[hx] at hu;cases hu
  |some a=>
   cases hy:ys[j]? with
   |none=>rw[hy] at hv;cases hv
   |some b=>
    rw[hx] at hu;rw[hy] at hv;cases hu;cases hv;have z:kZ (.int a)=true/\kZ (.int b)=true/\(λj=>decide (xs[j]?=ys[j]?)) j=eqV (.int a) (.int b):=by
     refine⟨rfl,rfl,?_⟩;show decide (xs[j]?=ys[j]?)=decide (a=b);rw[hx,hy];simp
    cases n with
    |zero=>exact z
    |succ n=>exact .inl z
 ·rw[bK,bK];exact(aQa xs ys).symm
theorem aNJ{xs ys:aa}(h1:bR K H p (xs.map V.int))(h2:bR K H q (ys.map V.int))(h:Q (.bl (decide (xs=ys))) H):iN K (.ref p) (.ref q) H Q:=⟨_,aGx (.inl ⟨h1,h2⟩),h⟩
theorem aIF{xs ys:aa}(h1:bR K H p (xs.map V.int))(h2:bR K H q (ys.map V.int))(h:Q (.bl (!decide (xs=ys))) H):ve K (.ref p) (.ref q) H Q:=⟨_,aGx (.inl ⟨h1,h2⟩),h⟩
end
section
variable{K:W.Frag}{σ:St}{H:Hp}{Q:VK}{nx bk ct:St->Hp->Prop}{rt:VK}
theorem aRo{A B:Prop}(h:B):if (!true)=true then A else B:=IQ h
theorem aRp{A B:Prop}(h:A):if (!false)=true then A else B:=IP h
theorem aRq{A B:Prop}{b:Bool}(e:b=false)(h:B):if b=true then A else B:=by rw[e];exact IQ h
theorem aRr{A B:Prop}{b:Bool}(e:b=true)(h:A):if b=true then A else B:=by rw[e];exact IP h
theorem aNK{sp:Sp}(h:t σ H λvs H1=>∀x dx,H1 x=none->H1 dx=none->dx≠x->sp (.ref x::vs) (upd (upd H1 dx (.own x)) x (.ins C dx [])) (λv H2=>v=.ba/\Q (.ref x) H2) E):E8 C sp [] E t σ H Q:=by
 unfold E8;simpa only [oz] using h
theorem aNL{t:TA}(h:ta σ H λx H1=>∃a dx fs,x=.ref a/\H1 a=some (.ins C dx fs)/\fs.lookup m=none/\t σ H1 λvs H2=>sp (x::vs) H2 Q E):Jf C m sp [] E ta t σ H Q:=by
 unfold Jf;simpa only [oz] using h
theorem aNM(h:tv σ H λy H1=>ta σ H1 λx H2=>∃a C dx fs,x=.ref a/\H2 a=some (.ins C dx fs)/\me K C/\fE K C f/\fs.length < 1000/\nx σ (upd H2 a (.ins C dx (rY f y fs)))):NQ K ta tv f ⟨nx,rt,bk,ct⟩ σ H:=h
theorem z0{fs:List (Str×V)}{P:Hp->Prop}(h1:H a=some (.ins C dx fs))(c:me K C)(n:fE K C f)(hl:fs.length < 1000)(e:rY f y fs=fs')(h:P (upd H a (.ins C dx fs'))) :
  ∃a' C dx fs,V.ref a=V.ref a'/\H a'=some (.ins C dx fs)/\me K C/\fE K C f/\fs.length < 1000/\P (upd H a' (.ins C dx (rY f y fs))):=⟨a,C,dx,fs,rfl,h1,c,n,hl,by rw[e];exact h⟩
theorem Ck{fs:List (Str×V)}{P:V->Prop}(h1:H a=some (.ins C dx fs))(c:me K C)(n:fE K C f)(l:fs.lookup f=some v)(h:P v) :
  ∃a' C dx fs v,V.ref a=V.ref a'/\H a'=some (.ins C dx fs)/\me K C/\fE K C f/\fs.lookup f=some v/\P v:=⟨a,C,dx,fs,v,rfl,h1,c,n,l,h⟩
theorem aGy:∀{xs:List V},(∀x∈xs,x=.bl true)->xs=(List.replicate xs.length true).map V.bl
 |[],_=>rfl
 |x::xs,h=>by
  rw[yW,DX,fm,<-aGy (λy hy=>h y (fh _ hy)),h x (jc ..)]
theorem JM(h1:bR K H p xs)(h2:∀x∈xs,x=.bl true)(h:Q (.bl true) H):A6 K [.ref p] H Q:=by
 refine⟨p,List.replicate xs.length true,rfl,?_,?_⟩
 ·rw[<-aGy h2];exact h1
 ·rw[show(List.replicate xs.length true).all id=true by simp];exact h
end
section
variable{X:Cx}{pins:ao}{σ:St}{H:Hp}{s:Shared}{A:Around}{E:aj}{Q:aj}{b:Bool}
theorem aHH{its:af}{nn:Nat}(I:Inv X pins σ H s)(rx:RelV x u)(ty:vE X.K H x t)(ki:s.heap.get? tp=some ⟨.type "tuple",dd,.seq its.toArray nn,sl⟩)(e:PySem.W.kitAny X.K t its=some b)(h:∀tk,Q (.bool b) { s with toks:=tk }) :
  wpAny (model X.prog X.w) A (call (.builtin "isinstance") [u,.ref tp]) Q E s:=by
 cases ty with
 |ba=>cases (show u=Value.none from rx);exact PySem.W.kia_tup PySem.W.kitx_none I.uP True.intro ki e (λz=>nomatch z) h
 |bl y=>cases (show u=Value.bool y from rx);exact PySem.W.kia_tup PySem.W.kitx_bool I.uP True.intro ki e (λz=>nomatch z) h
 |int i=>obtain⟨t,q⟩:=(show ∃t,u=Value.int i t from rx);cases q;exact PySem.W.kia_tup PySem.W.kitx_int I.uP True.intro ki e (λz=>nomatch z) h
 |str y=>obtain⟨t,q⟩:=(show ∃t,u=Value.str y t from rx);cases q;exact PySem.W.kia_tup PySem.W.kitx_str I.uP True.intro ki e (λz=>nomatch z) h
 |jy y=>obtain⟨t,q⟩:=(show ∃t,u=Value.float y t from rx);cases q;exact PySem.W.kia_tup PySem.W.kitx_float I.uP True.intro ki e (λz=>nomatch z) h
 |@lst a xs ea=>
  cases (show u=Value.ref a from rx);obtain⟨_,_,n,_,h1⟩:=(show bO X.prog X.w H s.heap a (.lst xs) from I.av a _ ea)
  exact PySem.W.kia_tup PySem.W.kitx_list I.uP ⟨_,h1,rfl⟩ ki e (λz=>nomatch z) h
 |@bu a ob xs ea=>
  cases (show u=Value.ref a from rx);obtain⟨_,_,_,n,_,h1⟩:=(show bO X.prog X.w H s.heap a (.bu ob (.lst xs)) from I.av a _ ea)
  exact PySem.W.kia_tup PySem.W.kitx_list I.uP ⟨_,h1,rfl⟩ ki e (λz=>nomatch z) h
 |@tup a xs ea=>
  cases (show u=Value.ref a from rx);obtain⟨_,_,_,p⟩:=(show bO X.prog X.w H s.heap a (.tup xs) from I.av a _ ea)
  obtain⟨o,h1,h2,_⟩:=p;exact PySem.W.kia_tup PySem.W.kitx_tuple I.uP ⟨o,h1,h2⟩ ki e (λz=>nomatch z) h
 |@dK a kvs ea=>
  cases (show u=Value.ref a from rx);obtain⟨_,_,vs,_,p⟩:=(show bO X.prog X.w H s.heap a (.dK kvs) from I.av a _ ea)
  obtain⟨o,es,ep,h1,h2,_⟩:=p;exact PySem.W.kia_tup PySem.W.kitx_dict I.uP ⟨o,h1,h2.1⟩ ki e (λz=>nomatch z) h
 |@dT a kvs ea=>
  cases (show u=Value.ref a from rx);obtain⟨_,_,xs,_,o,es,ep,h1,h2,_⟩:=(show bO X.prog X.w H s.heap a (.dT kvs) from I.av a _ ea)
  exact PySem.W.kia_tup PySem.W.kitx_dict I.uP ⟨o,h1,h2.1⟩ ki e (λz=>nomatch z) h
 |@ins a C dx fs ea cl ha hn HM hm=>
  cases (show u=Value.ref a from rx);obtain⟨mA,O,_⟩:=mK I.av ea;obtain⟨od,J,_⟩:=O.look;exact PySem.W.kia_tup (PySem.W.kitx_own (cl.get _) cl.hd ha hn HM hm) I.uP J ki e (λz=>nomatch z) h
end
section
variable{X:Cx}{K:W.Frag}{H:Hp}{Q:VK}
theorem aC5:∀{Ts:List String}{us:af},Vals (Ts.map V.ty) us->us=Ts.map Value.type
 |[],_,.nil=>rfl
 |T::Ts,_,.cons r t=>by cases r;rw[aC5 t];rfl
def Oh(K:W.Frag):List V->Hp->VK->Prop:=λxs H Q=>∃(x:V) (p:Addr) (Ts:List String) (t:Value) (b:Bool),xs=[x,.ref p]/\H p=some (.tup (Ts.map V.ty))/\vE K H x t/\PySem.W.kitAny K t (Ts.map Value.type)=some b/\Q (.bl b) H
theorem aJL:eC X (.builtin "isinstance") (Oh X.K):=by
 intro pins s σ H xs us Q I r h;obtain⟨x,p,Ts,t,b,rfl,hp,ty,e,q⟩:=h;obtain⟨u,w',rfl,rx,ry⟩:=vals2 r;cases ry;obtain⟨hz,its,rv,⟨o,ho,hc,n,hd⟩⟩:=(show bO X.prog X.w H s.heap p (.tup (Ts.map V.ty)) from I.av p _ hp)
 have ei:=aC5 rv;subst ei;obtain⟨oc,od,Lc,nz⟩:=o
 replace hc:oc=.type "tuple":=hc
 replace hd:Lc=.seq (Ts.map Value.type).toArray n:=hd
 subst hc hd;exact aHH I rx ty ho e λtk=>⟨.bl b,H,I.tok _,rfl,q⟩
theorem x8{Ts:List String}{b:Bool}(hp:H p=some (.tup (Ts.map V.ty)))(ty:vE K H x t)(e:PySem.W.kitAny K t (Ts.map Value.type)=some b)(h:Q (.bl b) H):Oh K [x,.ref p] H Q:=⟨x,p,Ts,t,b,rfl,hp,ty,e,h⟩
def HJ:V->V->Option Bool
 |.ba,.ba=>some true
 |.bl a,.bl b=>some (a == b)
 |.bl _,.ba=>some false
 |.int _,.ba=>some false
 |.str _,.ba=>some false
 |.ref _,.ba=>some false
 |_,_=>none
def rIs:R2:=λx y H Q=>∃b,HJ x y=some b/\Q (.bl b) H
def aLo:R2:=λx y H Q=>∃b,HJ x y=some b/\Q (.bl (!b)) H
theorem O3:uZ X (compareOp .Is) rIs:=by
 intro pins s σ H x y v u Q I rx ry h;obtain⟨b,e,q⟩:=h;have fin:EP X pins σ Q (.bool b) s:=⟨.bl b,H,I,rfl,q⟩
 cases x with
 |ba=>cases y with
  |ba=>cases e;cases rx;cases ry;exact is_none_gen fin
  |_=>cases e
 |bl a=>cases y with
  |bl c=>cases e;cases rx;cases ry;exact is_bool fin
  |ba=>cases e;cases rx;cases ry;exact is_none_gen fin
  |_=>cases e
 |int i=>cases y with
  |ba=>cases e;obtain⟨t,rfl⟩:=rx;cases ry;exact is_none_gen fin
  |_=>cases e
 |str i=>cases y with
  |ba=>cases e;obtain⟨t,rfl⟩:=rx;cases ry;exact is_none_gen fin
  |_=>cases e
 |ref i=>cases y with
  |ba=>cases e;cases rx;cases ry;exact is_none_gen fin
  |_=>cases e
 |_=>cases y <;> cases e
theorem rK:uZ X (compareOp .IsNot) aLo:=by
 intro pins s σ H x y v u Q I rx ry h;obtain⟨b,e,q⟩:=h;have fin:EP X pins σ Q (.bool (!b)) s:=⟨.bl (!b),H,I,rfl,q⟩
 cases x with
 |ba=>cases y with
  |ba=>cases e;cases rx;cases ry;exact isnot_none_gen fin
  |_=>cases e
 |bl a=>cases y with
  |bl c=>cases e;cases rx;cases ry;exact isnot_bool fin
  |ba=>cases e;cases rx;cases ry;exact isnot_none_gen fin
  |_=>cases e
 |int i=>cases y with
  |ba=>cases e;obtain⟨t,rfl⟩:=rx;cases ry;exact isnot_none_gen fin
  |_=>cases e
 |str i=>cases y with
  |ba=>cases e;obtain⟨t,rfl⟩:=rx;cases ry;exact isnot_none_gen fin
  |_=>cases e
 |ref i=>cases y with
  |ba=>cases e;cases rx;cases ry;exact isnot_none_gen fin
  |_=>cases e
 |_=>cases y <;> cases e
theorem aRs{b:Bool}(e:HJ x y=some b)(h:Q (.bl b) H):rIs x y H Q:=⟨b,e,h⟩
theorem aLp{b:Bool}(e:HJ x y=some b)(h:Q (.bl (!b)) H):aLo x y H Q:=⟨b,e,h⟩
end
section
variable{X:Cx}
def NJ(K:W.Frag):List V->Hp->VK->Prop:=λxs H Q=>∃(p:Addr) (ns:aa),xs=[.ref p]/\bR K H p (ns.map V.int)/\Q (.int (List.sum ns)) H
theorem aJM(hc:X.calm=true):eC X (.builtin "sum") (NJ X.K):=by
 intro pins s σ H xs us Q I r h;obtain⟨p,ns,rfl,hq,q⟩:=h;obtain⟨u,rfl,rx⟩:=vals1 r;cases rx;obtain⟨its,r',pl,hz⟩:=I.list hq;have hi:=intsAre_of r';obtain⟨xs,hx⟩:=hi.allInts.items;have L3:s.heap.IsList p (intItems xs):=hx▸pl.isList;refine sum_intListG (I.ok.hd hc) L3 λh' tk t' hk=>?_;have e1:ns=xs.toList.map (·.1):=by
  rw[<-nums_intItems,<-hx];exact(show numsOf its.toArray.toList=ns from hi.numsOf).symm
 have e2:preSum (numAt xs) xs.size=ns.sum:=by
  rw[preSum_eq,As (by simp),e1]
 rw[e2];exact⟨.int _,H,I.kept (t':=tk) hk,⟨t',rfl⟩,q⟩
theorem aQc{K:W.Frag}{H:Hp}{Q:VK}{p:Addr}{ns:aa}(h1:bR K H p (ns.map V.int))(h:Q (.int (List.sum ns)) H):NJ K [.ref p] H Q:=⟨p,ns,rfl,h1,h⟩
end
section
variable{prog:Program}{w:World}{A:Around}{E:aj}
theorem aOz{items:Array Value}(bj:t≠it):∀(n i:Nat) (s:Shared) (Q:af->Shared->Prop),s.heap.IsListIter it t i->s.heap.IsList t items->i+n<=items.size->
  (∀h',h'.IsListIter it t (i+n)->Heap.SameBut it s.heap h'->Q ((items.toList.drop i).take n) { s with heap:=h' })->wpAny (model prog w) A (draw (.ref it) n) Q E s
 |0,i,s,Q,hit,_,_,hQ=>by
  show wpAny (model prog w) A (pure ([]:af)) Q E s;have q:=hQ s.heap hit (Heap.SameBut.refl ..);rw[List.take_zero] at q;exact bI q
 |n+1,i,s,Q,hit,ht,hle,hQ=>by
  have hi:i < items.size:=by lia
  show wpAny (model prog w) A (pyNext (.ref it) >>= _) Q E s;refine aR (wpAny_pyNext_list_item hit ht (x:=items[i]) (by simp[hi]) λh1 xt yp=>?_);refine aR (eh (aOz bj n (i+1) _ _ xt (ht.at λo e=>(yp.2 t bj).trans e) (by lia) λh2 W4 yo=>bI ?_));have hd:items.toList.drop i=items[i] :: items.toList.drop (i+1):=by simp[Qy,hi]
  have q:=hQ h2 (by rw[show i+(n+1)=i+1+n by lia];exact W4) (yp.trans yo);rw[hd,List.take_succ_cons] at q;exact q
theorem aNN{s:Shared}{items:Array Value}{targets:List (Bool×(Value->Sem Unit))}{Q:Unit->Shared->Prop}(hh:A.handled=none)(ht:s.heap.IsList t items)(hn:targets.length=items.size)(bq:targets.findIdx? (·.1)=none)(h:∀h',Heap.ExtBut s.heap.objs.size s.heap h'->wpAny (model prog w) A (assignInOrder (targets.map (·.2)) items.toList) Q E { s with heap:=h' }) :
  wpAny (model prog w) A (unpack (.ref t) targets) Q E s:=by
 have br:t≠s.heap.objs.size:=by obtain⟨o,ho,_⟩:=id ht;exact gM (eB ho)
 unfold unpack;rw[hn,bq];refine aR (eh ?_);unfold unpackItems;refine aR ?_;unfold notIterableAtAll;refine aR (wpAny_specialOf ht.typeIs slot_list_iter.lookup (bI ?_));simp only[u9,if_false];refine aR (eh (wpAny_pyIter_list ht ?_));refine aR (eh (aOz br items.size 0 _ _ ⟨_,mJ _ rfl,rfl,rfl⟩ (ht.push _) (by lia) λh1 xt yp=>?_));rw[show List.take items.size (List.drop 0 items.toList)=items.toList by rw[List.drop_zero];exact As (by simp),bV (by simp)];refine aR (eh (wpAny_pyNext_list_end hh xt ((ht.push _).at λo e=>(yp.2 t br).trans e) (by simp) λh2 eb=>?_));simp only[Option.isSome_none,u9,if_false];exact bI (h h2 λb o hb e=>eb b o hb (yp.extBut b o hb (fX _ e)))
end
section
variable{X:Cx}{pos:Pos}
def Og(K:W.Frag)(n:Nat)(t:ub):TG:=λv σ H Q=>∃a xs,v=.ref a/\bR K H a xs/\xs.length=n/\t xs σ H Q
theorem aNO{k:Nat}{n:Nat}(hc:X.calm=true)(h:D3 X es t)(hn:(assignEach es X.env).length=n:=by rfl)(bq:(assignEach es X.env).findIdx? (·.1)=none:=by rfl):PG X (.Tuple es k pos) (Og X.K n t):=by
 intro pins s σ H v u Q I r hw;obtain⟨a,xs,e1,hq,hl,hw⟩:=hw;subst e1;cases r;obtain⟨its,rv,ht,hz⟩:=I.list hq;rw[assign_Tuple];refine aR (wpAny_standAt (aNN (I.ok.hd hc) ht.isList (by simp[hn,<-hl,rv.length]) bq λh' hx=>?_));have I1:Inv X pins σ H { s with heap:=h' }:=I.kept (t':=s.toks) λb o e=>hx b o (gM (eB e)) e;exact h pins _ σ H xs _ Q I1 (by simpa using rv) hw
theorem aLr{K:W.Frag}{σ:St}{H:Hp}{QG:St->Hp->Prop}{n:Nat}{t:ub}{a:Addr}{xs:List V}(h1:bR K H a xs)(h2:xs.length=n)(h:t xs σ H QG):Og K n t (.ref a) σ H QG:=⟨a,xs,rfl,h1,h2,h⟩
end
end L2
namespace L2.Z
open PySem PySem.Spec PyProof.Rows L2
structure QE(X:Cx)(e:Expr)(t:TE):Prop where
 h:PE X e t
structure QT(X:Cx)(e:Expr)(t:TT):Prop where
 h:PT X e t
structure QW(X:Cx)(e:Expr)(t:TT):Prop where
 h:PW X e t
structure QA(X:Cx)(es:List Expr)(t:TA):Prop where
 h:PA X es t
structure QS(X:Cx)(st:Stmt)(t:TS):Prop where
 h:PS X st t
structure zp(X:Cx)(st:List Stmt)(t:TS):Prop where
 h:ph X st t
structure QG(X:Cx)(tg:Expr)(g:TG):Prop where
 h:PG X tg g
structure FL(X:Cx)(tg:List Expr)(g:ub):Prop where
 h:D3 X tg g
structure QI(X:Cx)(tg it:Expr)(w:TI):Prop where
 h:PI X tg it w
structure FK(X:Cx)(ifs:List Expr)(t:TT):Prop where
 h:Ct X ifs t
structure QO(X:Cx)(o:Option Expr)(t:TO):Prop where
 h:PO X o t
section
variable{X:Cx}{CX:rj}{k:Nat}{f C:Addr}{fd:FuncData}{ps:ak}{sp:Sp}{de:List V}{ds:af}{E:XK}{x m:Str}{p pos apos p2 mf:Pos}{a b c e o:Expr}{es rest:List Expr}{ta tb tc te to ti:TE}{t:TA}{tA tB tt:TT}{id T:String}{r r':R2}{rc:List V->Hp->VK->Prop}{st:Stmt}{ym FX:List Stmt}{ts us:TS}{g:TG}{gs:ub}{wi:TI}{tg iter:Expr}
theorem QW.pt{e:Expr}{t:TT}(q:QW X e t):QT X e t:=⟨q.h.pt⟩
theorem gO{e:Expr}{t:TT}(q:QW X e t):QT X e t:=⟨q.h.pt⟩
theorem aB(i:Nat)(hN:X.N[i]?=some x:=by rfl)(hv:Bf X.env.scope x:=by first|exact Or.inl rfl|exact Or.inr (Or.inl rfl)|exact Or.inr (Or.inr rfl))(hd:(x == ("__debug__" : Str))=false:=by decide)
  (ft:(x == ("__classdict__" : Str))=false:=by decide):QE X (.Name x pos) (IZ i):=⟨OW hN hv hd ft⟩
theorem aD{i j}:QE X (.Constant (.int i) j pos) (tC (.int i)):=⟨L2.aOP⟩
theorem dI{b j}:QE X (.Constant (.bool b) j pos) (tC (.bl b)):=⟨L2.aQM⟩
theorem iF{j}:QE X (.Constant .none j pos) (tC .ba):=⟨L2.aOQ⟩
theorem aC6{n:Int}(hg:Gl X x)(hm:∃t,X.mg x=some (.int n t))(hd:(x == ("__debug__" : Str))=false:=by decide):QE X (.Name x pos) (tC (.int n)):=⟨L2.aNE hg hm hd⟩
theorem cF(hg:Gl X x)(hm:X.mg x=none)(hv:bootBuiltins x=some u)(r:RelV v u)(hn:x≠"__name__":=by decide)(hd:(x == ("__debug__" : Str))=false:=by decide):QE X (.Name x pos) (tC v):=⟨L2.aMM hg hm hv r hn hd⟩
theorem aK(ho:uZ X (binaryOp op) r)(ha:QE X a ta)(hb:QE X b tb):QE X (.BinOp a op b pos) (zw r ta tb):=⟨L2.aQQ ho ha.h hb.h⟩
theorem lF{ru:V->Hp->VK->Prop}(ho:Kr X (unaryOp op) ru)(ha:QE X a ta):QE X (.UnaryOp op a pos) (KO ru ta):=⟨L2.aQR ho ha.h⟩
theorem aJN(ha:QE X a ta):QE X (.UnaryOp .Not a pos) (Oz ta):=⟨L2.aO0 ha.h⟩
theorem eU{op}(h:QE X a ta):QE X (.BoolOp op [a] pos) ta:=⟨L2.aOY h.h⟩
theorem eF(ha:QE X a ta)(hb:QE X (.BoolOp .And (b::rest) pos) tb):QE X (.BoolOp .And (a::b::rest) pos) (OA ta tb):=⟨L2.aOZ ha.h hb.h⟩
theorem aLs(ha:QE X a ta)(hb:QE X (.BoolOp .Or (b::rest) pos) tb):QE X (.BoolOp .Or (a::b::rest) pos) (N1 ta tb):=⟨L2.aQO ha.h hb.h⟩
theorem cP(ho:uZ X (compareOp op) r)(ha:QE X a ta)(hb:QE X b tb)(hm:behindInMarks op b=false):QE X (.Compare a [op] [b] pos) (zw r ta tb):=⟨L2.aMZ ho ha.h hb.h hm⟩
theorem aY(ho:uZ X (compareOp op) r)(ha:QE X a ta)(hb:QE X b tb)(hm:behindInMarks op b=false):QT X (.Compare a [op] [b] pos) (Ou (zw r ta tb)):=⟨L2.aM0 ho ha.h hb.h hm⟩
theorem aBU(ho:uZ X (compareOp op) r)(vz:uZ X (compareOp Eb) r')(ha:QE X a ta)(hb:QE X b tb)(hc:QE X c tc)(hm:lastMarks [op,Eb] [b,c]=false:=by with_unfolding_all rfl):QE X (.Compare a [op,Eb] [b,c] pos) (OT r r' ta tb tc):=⟨L2.aKw ho vz ha.h hb.h hc.h hm⟩
theorem cK(h:QE X e te)(he:∀whole,isTrue e X.env whole=(do let v <-whole;standAt e.pos;holding [v] (truthy v)):=by intro _;rfl):QT X e (L2.tB te):=⟨L2.aOR h.h he⟩
theorem eV(ha:QT X a tA):QT X (.UnaryOp .Not a pos) (N2 tA):=⟨L2.aOW ha.h⟩
theorem oF(ha:QT X a tA):QW X (.BoolOp .And [a] pos) tA:=⟨L2.aMN ha.h⟩
theorem rL(ha:QT X a tA):QW X (.BoolOp .Or [a] pos) tA:=⟨L2.aOU ha.h⟩
theorem rM(ha:QT X a tA)(hb:QW X (.BoolOp .And (b::rest) pos) tB):QW X (.BoolOp .And (a::b::rest) pos) (N3 tA tB):=⟨L2.aOV ha.h hb.h⟩
theorem vL(ha:QT X a tA)(hb:QW X (.BoolOp .Or (b::rest) pos) tB):QW X (.BoolOp .Or (a::b::rest) pos) (KQ tA tB):=⟨L2.aQN ha.h hb.h⟩
theorem aC:QA X [] rZ:=⟨L2.vF⟩
theorem aA(ha:QE X e te)(hr:QA X es t)(hs:noStar e=true:=by rfl):QA X (e::es) (cD te t):=⟨L2.oE ha.h hr.h hs⟩
theorem aF(F:cE X.prog X.w X.K X.mg X.base CX k f fd ps sp)(hr:eS k X.A)(hg:Gl X x)(hm:X.mg x=some (.ref f))(hk:W.keepIn X.K (.ref f)=true)(hb:Binds X.K fd ps ds)(hd:Vals de ds)(hx:Passes CX X E)
  (ha:QA X (e::es) t) (hn:(e::es).all noStar=true:=by rfl) (dv:(x == ("__debug__" : Str))=false:=by decide):QE X (.Call (.Name x p) (e::es) [] pos) (Dy sp de E t):=⟨L2.aLh F hr hg hm hk hb hd hx ha.h hn dv⟩
theorem ay{j:Nat}(F:cE X.prog X.w X.K X.mg X.base hU k f fd ps sp)(hr:eS j X.A)(hm:X.mg x=some (.ref f))(hk:W.keepIn X.K (.ref f)=true)(hb:Binds X.K fd ps [])(ha:QA X (e::es) t)(hj:k<=j:=by decide)(hg:Gl X x:=by rfl)(hn:(e::es).all noStar=true:=by rfl)(dv:(x == ("__debug__" : Str))=false:=by decide):QE X (.Call (.Name x p) (e::es) [] pos) (Dy sp [] E0 t):=aF F (hr.mono hj) hg hm hk hb .nil aV ha hn dv
theorem aGz(M:Mk X.K C f)(F:cE X.prog X.w X.K X.mg X.base CX k f fd ps sp)(hr:eS (k+1) X.A)(hg:Gl X x)(hm:X.mg x=some (.ref C))(hb:Binds X.K fd ps ds)(hd:Vals de ds)(hx:Passes CX X E)
  (ha:QA X (e::es) t) (hn:(e::es).all noStar=true:=by rfl) (dv:(x == ("__debug__" : Str))=false:=by decide):QE X (.Call (.Name x p) (e::es) [] pos) (E8 C sp de E t):=⟨L2.aLi M F hr hg hm hb hd hx ha.h hn dv⟩
theorem aH(hc:eC X (.builtin id) rc)(hg:Gl X x)(hm:X.mg x=none)(hv:bootBuiltins x=some (.builtin id))(ha:QA X (e::es) t)(hn:(e::es).all noStar=true:=by rfl)(bj:x≠"__name__":=by decide)(dv:(x == ("__debug__" : Str))=false:=by decide) :
  QE X (.Call (.Name x p) (e::es) [] pos) (BF rc t):=⟨L2.aJI hc hg hm hv ha.h hn bj dv⟩
theorem fM(hc:eC X (.type T) rc)(hg:Gl X x)(hm:X.mg x=none)(hv:bootBuiltins x=some (.type T))(ha:QA X (e::es) t)(hn:(e::es).all noStar=true:=by rfl)(bj:x≠"__name__":=by decide)(dv:(x == ("__debug__" : Str))=false:=by decide) :
  QE X (.Call (.Name x p) (e::es) [] pos) (BF rc t):=⟨L2.aHE hc hg hm hv ha.h hn bj dv⟩
theorem Qo:QO X none Ph:=⟨L2.aM7⟩
theorem Qn(h:QE X e te):QO X (some e) (OF te):=⟨L2.aM8 h.h⟩
theorem vM{rs:V->Option Int->Option Int->Hp->VK->Prop}{lo hi:Option Expr}{tl th:TO}(hr:Av X rs)(he:QE X e te)(hl:QO X lo tl)(hu:QO X hi th):QE X (.Subscript e (.Slice lo hi none p2) pos) (KP rs te tl th):=⟨L2.aKK hr he.h hl.h hu.h⟩
theorem eW(h:QA X es t):QE X (.List es pos) (tu t):=⟨L2.DJ h.h⟩
theorem cN(hg:Gl X "range")(hm:X.mg "range" = none)(ha:QA X [a] t)(hn:noStar a=true:=by rfl):QI X tg (.Call (.Name "range" p) [a] [] pos) (Jh t):=⟨L2.aHF hg hm ha.h hn⟩
theorem aD6(hg:Gl X "range")(hm:X.mg "range" = none)(ha:QA X [a,b] t)(hn:noStar a=true:=by rfl)(ur:noStar b=true:=by rfl):QI X tg (.Call (.Name "range" p) [a,b] [] pos) (Jg t):=⟨L2.aHG hg hm ha.h hn ur⟩
theorem aM{i:Nat}(hN:X.N.Nodup)(hi:X.N[i]?=some x:=by rfl)(hx:Loc X.env.scope x:=by exact Or.inl rfl)(hf:X.fn x=true\/X.env.scope.names.lookup x=some .local:=by first|exact .inl rfl|exact .inr rfl|assumption):QG X (.Name x pos) (vB i):=⟨L2.aMR hN hi hx hf⟩
theorem dC:FL X [] IY:=⟨L2.aMT⟩
theorem bB{e:Expr}{es:List Expr}{t:TG}{u:ub}(h1:QG X e t)(h2:FL X es u)(hs:(assignEach (e::es) X.env).map (·.2)=assign e X.env::(assignEach es X.env).map (·.2):=by rfl):FL X (e::es) (Ji t u):=⟨L2.aKq h1.h h2.h hs⟩
theorem P4(ho:QE X o to)(hi:QE X i ti)(hs:E3 X ke)(ha:∀v,assign (.Subscript o i pos) X.env v=(do
   let ov <-holding [v] (eval o X.env)
   let iv <-holding [v,ov] (eval i X.env)
   standAt pos
   holding [v,ov,iv] (setItem ov iv v)
   release [v,ov,iv] []):=by intro _;rfl):QG X (.Subscript o i pos) (N5 to ti ke):=⟨L2.aO7 ho.h hi.h hs ha⟩
theorem bQ:FK X [] NZ:=⟨L2.aNi⟩
theorem sI(h:QT X c tt):FK X [c] tt:=⟨L2.aNj h.h⟩
theorem bE(q:zp X ym ts)(h:ts D σ H):∃t,ph X ym t/\t D σ H:=⟨ts,q.h,h⟩
theorem imp{KN:TS}(q:zp X ym ts)(h:∀D σ H,KN D σ H->ts D σ H):zp X ym KN:=⟨λpins s σ H D I z=>q.h pins s σ H D I (h D σ H z)⟩
theorem aU:zp X [] Oy:=⟨L2.aMO⟩
theorem aE(h1:QS X st ts)(h2:zp X ym us):zp X (st::ym) (E4 ts us):=⟨L2.aKl h1.h h2.h⟩
theorem aG(h1:QS X st ts):zp X [st] ts:=⟨L2.aMP h1.h⟩
theorem vN:QS X st aKn:=⟨L2.aKo⟩
theorem cW(he:QE X e te)(hs:swapsWith e none pos.line X.env=pure false:=by rfl):QS X (.Expr e pos) (Ox te):=⟨L2.aMQ he.h hs⟩
theorem aN(he:QE X e te):QS X (.Return (some e) pos) (N8 te):=⟨L2.aO2 he.h⟩
theorem bD(hc:QT X c tt)(ha:zp X ym ts)(hb:zp X FX us):QS X (.If c ym FX pos) (N7 tt ts us):=⟨L2.aQP hc.h ha.h hb.h⟩
theorem yA{i:Nat}(hN:X.N.Nodup)(hi:X.N[i]?=some x)(hx:Loc X.env.scope x)(he:QE X e te)(hs:swapsWith e (some (.Name x pos')) pos.line X.env=pure false:=by rfl)(hf:X.fn x=true\/X.env.scope.names.lookup x=some .local:=by first|exact .inl rfl|exact .inr rfl|assumption) :
  QS X (.Assign [.Name x pos'] e pos) (A8 te (vB i)):=⟨L2.aO9 hN hi hx he.h hs hf⟩
theorem aI{i:Nat}(hN:X.N.Nodup)(he:QE X e te)(hi:X.N[i]?=some x:=by rfl)(hx:Loc X.env.scope x:=by exact Or.inl rfl)(hs:swapsWith e (some (.Name x pos')) pos.line X.env=pure false:=by rfl)(hf:X.fn x=true\/X.env.scope.names.lookup x=some .local:=by first|exact .inl rfl|exact .inr rfl|assumption) :
  QS X (.Assign [.Name x pos'] e pos) (A8 te (vB i)):=yA hN hi hx he hs hf
theorem yB(he:QE X e te)(hg:QG X tg g)(hs:swapsWithSole [tg] e pos.line X.env=pure false:=by rfl)(hw:swappedStores [tg] e X.env=pure none:=by rfl)
  (h1:(assignEach [tg] X.env).map (·.2)=[assign tg X.env]:=by rfl):QS X (.Assign [tg] e pos) (A8 te g):=⟨L2.aO8 he.h hg.h hs hw h1⟩
theorem aEO{i:Nat}(hN:X.N.Nodup)(hi:X.N[i]?=some x)(hx:Loc X.env.scope x)(he:QE X e te)(ho:FN X op zu)(hf:X.fn x=true\/X.env.scope.names.lookup x=some .local:=by first|exact .inl rfl|exact .inr rfl|assumption) :
  QS X (.AugAssign (.Name x pos') op e pos) (NW i te zu):=⟨L2.aPb hN hi hx he.h ho hf⟩
theorem aHJ{jh:V->V->Hp->VK->Prop}(ho:QE X o to)(hi:QE X i ti)(hg:NV X jh)(he:QE X e te)(hp:FN X op zu)(hs:E3 X ke)(ha:∀ov iv new,augStore i ov iv new=(do holding [new,ov,iv] (setItem ov iv new);release [new,ov,iv] [];pure .next):=by intros;rfl):QS X (.AugAssign (.Subscript o i Cz) op e pos) (Ow to ti te jh zu ke):=⟨L2.aMV ho.h hi.h hg he.h hp hs ha⟩
theorem bU(hp:PassesOwn (model X.prog X.w) X.A X.env X.xe)(hc:X.calm=true)(hi:QI X tg iter wi)(hg:QG X tg g)(hb:zp X ym ts)
  (hs:∀x,foldedSetIterable iter X.env x=pure x:=by intro _;rfl):QS X (.For tg iter ym [] pos) (NT wi g ts):=⟨L2.aPg hp hc hi.h hg.h hb.h hs⟩
variable{scope:Scope}{elt target:Expr}{ifs:List Expr}{N:ak}
theorem bW{k:Nat}{idx:List Nat}(S:eJ X scope N k idx)(hc:X.calm=true)(hi:QI X target iter wi)(hg:∀fp C s H,QG (tq X scope N fp C s H) target g)(ho:Own k g)(ht:∀fp C s H,FK (tq X scope N fp C s H) ifs tt)(he:∀fp C s H,QE (tq X scope N fp C s H) elt te)(hs:∀x,foldedSetIterable iter X.env x=pure x:=by intro _;rfl):QE X (.ListComp elt [⟨target,iter,ifs,0⟩] scope pos) (Cg wi k idx g tt te):=
 ⟨L2.aNl k idx S hc hi.h (λfp C s H=>(hg fp C s H).h) ho (λfp C s H=>(ht fp C s H).h) (λfp C s H=>(he fp C s H).h) hs⟩
theorem sJ{k:Nat}{idx:List Nat}{i:Nat}(hN:X.N.Nodup)(L7:X.N[i]?=some x)(hx:Loc X.env.scope x)(S:eJ X scope N k idx)(hc:X.calm=true)(hi:QI X target iter wi)(hg:∀fp C s H,QG (tq X scope N fp C s H) target g)(ho:Own k g)(ht:∀fp C s H,FK (tq X scope N fp C s H) ifs tt)(he:∀fp C s H,QE (tq X scope N fp C s H) elt te)(LN:swapsWith (.ListComp elt [⟨target,iter,ifs,0⟩] scope pos) (some (.Name x pos')) mf.line X.env=pure true:=by rfl)(hs:∀x,foldedSetIterable iter X.env x=pure x:=by intro _;rfl)(qh:X.fn x=true\/X.env.scope.names.lookup x=some .local:=by first|exact .inl rfl|exact .inr rfl|assumption) :
  QS X (.Assign [.Name x pos'] (.ListComp elt [⟨target,iter,ifs,0⟩] scope pos) mf) (A8 (Cg wi k idx g tt te) (vB i)):=
 ⟨L2.aNm k idx hN L7 hx S hc hi.h (λfp C s H=>(hg fp C s H).h) ho (λfp C s H=>(ht fp C s H).h) (λfp C s H=>(he fp C s H).h) LN hs qh⟩
variable{x1:Nat}{e1 e2 e3 e4 e5 e6 e7 e8:Expr}{t1 t2 t3 t4 t5 t6 t7 t8:TE}
theorem j7(h1:QE X e1 t1)(n1:noStar e1=true:=by rfl):QE X (.List [e1] pos) (tu (cD t1 rZ)):=⟨L2.aRT h1.h n1⟩
theorem yC(h1:QE X e1 t1)(h2:QE X e2 t2)(n1:noStar e1=true:=by rfl)(n2:noStar e2=true:=by rfl):QE X (.List [e1,e2] pos) (tu (cD t1 (cD t2 rZ))):=⟨L2.aRU h1.h h2.h n1 n2⟩
theorem dF{k1}(h1:QE X e1 t1)(h2:QE X e2 t2)(n1:noStar e1=true:=by rfl)(n2:noStar e2=true:=by rfl):QE X (.Tuple [e1,e2] k1 pos) (Dv (cD t1 (cD t2 rZ))):=⟨L2.aRV h1.h h2.h n1 n2⟩
theorem aIG(h1:QE X e1 t1)(h2:QE X e2 t2)(h3:QE X e3 t3)(n1:noStar e1=true:=by rfl)(n2:noStar e2=true:=by rfl)(n3:noStar e3=true:=by rfl):QE X (.List [e1,e2,e3] pos) (tu (cD t1 (cD t2 (cD t3 rZ)))):=⟨L2.aRW h1.h h2.h h3.h n1 n2 n3⟩
theorem aIH{k1}(h1:QE X e1 t1)(h2:QE X e2 t2)(h3:QE X e3 t3)(n1:noStar e1=true:=by rfl)(n2:noStar e2=true:=by rfl)(n3:noStar e3=true:=by rfl):QE X (.Tuple [e1,e2,e3] k1 pos) (Dv (cD t1 (cD t2 (cD t3 rZ)))):=⟨L2.aRX h1.h h2.h h3.h n1 n2 n3⟩
theorem aII(h1:QE X e1 t1)(h2:QE X e2 t2)(h3:QE X e3 t3)(h4:QE X e4 t4)(n1:noStar e1=true:=by rfl)(n2:noStar e2=true:=by rfl)(n3:noStar e3=true:=by rfl)(n4:noStar e4=true:=by rfl):QE X (.List [e1,e2,e3,e4] pos) (tu (cD t1 (cD t2 (cD t3 (cD t4 rZ))))):=⟨L2.aRY h1.h h2.h h3.h h4.h n1 n2 n3 n4⟩
theorem aNP(h1:QE X e1 t1)(h2:QE X e2 t2)(h3:QE X e3 t3)(h4:QE X e4 t4)(h5:QE X e5 t5)(h6:QE X e6 t6)(h7:QE X e7 t7)(n1:noStar e1=true:=by rfl)(n2:noStar e2=true:=by rfl)(n3:noStar e3=true:=by rfl)(n4:noStar e4=true:=by rfl)(n5:noStar e5=true:=by rfl)(n6:noStar e6=true:=by rfl)(n7:noStar e7=true:=by rfl):QE X (.List [e1,e2,e3,e4,e5,e6,e7] pos) (tu (cD t1 (cD t2 (cD t3 (cD t4 (cD t5 (cD t6 (cD t7 rZ)))))))):=⟨L2.aRZ h1.h h2.h h3.h h4.h h5.h h6.h h7.h n1 n2 n3 n4 n5 n6 n7⟩
end
section
variable{X:Cx}{CX:rj}{k:Nat}{f C:Addr}{fd:FuncData}{ps:ak}{sp:Sp}{de:List V}{ds:af}{E:XK}{x m:Str}{p pos apos p2 mf aw tp:Pos}{a b c e o st:Expr}{es rest elts:List Expr}{ta tb tc te to ti:TE}{t:TA}{x1:Nat}{ts:TO}
theorem aHK{pl:Sem Bool}(he:QE X o ta)(c:me X.K C)(hm:Meth X.K C m f)(F:cE X.prog X.w X.K X.mg X.base CX k f fd ps sp)(hr:eS k X.A)(hb:Binds X.K fd ps ds)(hd:Vals de ds)(hx:Passes CX X E)(ha:QA X (e::es) t)
  (hn:(e::es).all noStar=true:=by rfl)
  (ht:eval (.Call (.Attribute o m apos) (e::es) [] pos) X.env=(do
   let ov <-eval o X.env
   standAt apos.atName
   let (f,first) <-holding [ov] (getMethod ov m pl)
   callWith pos f first (backTo pos (starEach (e::es) X.env)) (backToKw pos (keywordEach [] X.env))):=by rfl) :
  QE X (.Call (.Attribute o m apos) (e::es) [] pos) (Jf C m sp de E ta t):=⟨L2.aM5 he.h c hm F hr hb hd hx ha.h (cC (gK hn).1) (iP (gK hn).2) ht⟩
end
section
variable{X:Cx}{K':W.Frag}{x m n:Str}{p pos apos p2 mf aw tp pos':Pos}{a b c e o st iter tg:Expr}{es rest elts:List Expr}{ta tb tc te to ti:TE}{t:TA}{x1:Nat}{ts:TO}
theorem aJ(ha:QE X a ta)(hb:QE X b tb)(hs:aID b:=by exact λ_ _=>rfl)(hK:X.K=K':=by rfl):QE X (.Subscript a b pos) (zw (Hs K') ta tb):=by subst hK;exact⟨L2.aQX aPs ha.h hb.h hs⟩
theorem bF(hl:QE X e te)(hK:X.K=K':=by rfl):QI X tg e (Ov K' te):=by subst hK;exact⟨L2.aMW hl.h⟩
theorem sL(hl:QE X e te)(hK:X.K=K':=by rfl):QI X tg e (NU K' te):=by subst hK;exact⟨L2.aPe hl.h⟩
theorem vO(hg:Gl X "enumerate")(hm:X.mg "enumerate" = none)(ha:QA X [a] t)(hn:noStar a=true:=by rfl)(hK:X.K=K':=by rfl):QI X (.Tuple elts x1 tp) (.Call (.Name "enumerate" p) [a] [] pos) (Oj K' t):=by subst hK;exact⟨L2.aNI hg hm ha.h hn⟩
theorem dS{k1 n:Nat}(hc:X.calm=true)(h:FL X es gs)(hn:(assignEach es X.env).length=n:=by rfl)(bq:(assignEach es X.env).findIdx? (·.1)=none:=by rfl)(hK:X.K=K':=by rfl):QG X (.Tuple es k1 pos) (IX K' n gs):=by subst hK;exact⟨L2.aO5 hc h.h hn bq⟩
theorem aGA{k1 n:Nat}(hc:X.calm=true)(h:FL X es gs)(hn:(assignEach es X.env).length=n:=by rfl)(bq:(assignEach es X.env).findIdx? (·.1)=none:=by rfl)(hK:X.K=K':=by rfl):QG X (.Tuple es k1 pos) (Og K' n gs):=by subst hK;exact⟨L2.aNO hc h.h hn bq⟩
theorem hX(he:QE X e ta)(hb:attributeBase e n X.env (eval e X.env)=eval e X.env)(hK:X.K=K':=by rfl):QE X (.Attribute e n pos) (NR K' ta n):=by subst hK;exact⟨L2.aPm he.h hb⟩
theorem hZ(ha:QE X o ta)(hv:QE X e te)(hs:swapsWith e (some (.Attribute o n pos')) pos.line X.env=pure false)(hK:X.K=K':=by rfl):QS X (.Assign [.Attribute o n pos'] e pos) (NQ K' ta te n):=by subst hK;exact⟨L2.aPn ha.h hv.h hs⟩
theorem dU(ho:QE X o to)(ha:QA X [e] t)(hn:noStar e=true:=by rfl)(bg:attributeBase o "append" X.env (eval o X.env)=eval o X.env:=by rfl)(bc:(apos.endLine == aw.line)=true:=by rfl)(hK:X.K=K':=by rfl) :
  QE X (.Call (.Attribute o "append" apos) [e] [] aw) (C5 K' "list" JO to t):=by subst hK;exact⟨L2.aP9 ho.h ha.h hn bg bc⟩
end
end L2.Z
namespace L2
open PySem
def D1(h:Heap)(k:Bool)(it src:Addr)(i:Nat):Prop:=if k=true then h.IsListIter it src i else h.IsTupleIter it src i
def IU(h:Heap)(k:Bool)(src:Addr)(items:Array Value):Prop:=if k=true then h.IsList src items else h.IsTuple src items
theorem D1.at{h h':Heap}{k:Bool}{i:Nat}(x:D1 h k it src i)(e:∀o,h.get? it=some o->h'.get? it=some o):D1 h' k it src i:=by
 cases k with
 |true=>obtain⟨o,ho,r⟩:=(show h.IsListIter it src i from x);exact(show h'.IsListIter it src i from⟨o,e o ho,r⟩)
 |false=>obtain⟨o,ho,r⟩:=(show h.IsTupleIter it src i from x);exact(show h'.IsTupleIter it src i from⟨o,e o ho,r⟩)
theorem IU.at{h h':Heap}{k:Bool}(x:IU h k src items)(e:∀o,h.get? src=some o->h'.get? src=some o):IU h' k src items:=by
 cases k with
 |true=>obtain⟨o,ho,r⟩:=(show h.IsList src items from x);exact(show h'.IsList src items from⟨o,e o ho,r⟩)
 |false=>obtain⟨o,ho,r⟩:=(show h.IsTuple src items from x);exact(show h'.IsTuple src items from⟨o,e o ho,r⟩)
theorem D1.obj{h:Heap}{k:Bool}{i:Nat}(x:D1 h k it src i):∃o vs,h.get? it=some o/\o.data=.fields vs:=by
 cases k with
 |true=>obtain⟨o,ho,_,r⟩:=(show h.IsListIter it src i from x);exact⟨o,_,ho,r⟩
 |false=>obtain⟨o,ho,_,r⟩:=(show h.IsTupleIter it src i from x);exact⟨o,_,ho,r⟩
abbrev ZS:=Bool×Addr×Addr
abbrev aLt(h:Heap)(T:Addr)(vs:Array Value):Prop:=h.get? T=some { cls:=.type "tuple",data:=.seq vs }
def ZSt(z TI TO:Addr)(L:List ZS)(i:Nat)(h:Heap):Prop:=
 IsZip h z TI TO .none/\aLt h TI (L.map λt=>Value.ref t.2.1).toArray/\(∃arr,aLt h TO arr/\arr.size=L.length)/\∀t∈L,D1 h t.1 t.2.1 t.2.2 i
end L2
namespace L2
open PySem PySem.Spec PyProof.Rows
def Src(H:Hp)(k:Bool)(a:Addr)(xs:List V):Prop:=H a=some (if k=true then .lst xs else .tup xs)
theorem Src.inj{k:Bool}(h:Src H k a xs)(h':Src H k a ys):xs=ys:=by
 unfold Src at h h';rw[h] at h';cases k with
 |true=>injection h' with e;injection e
 |false=>injection h' with e;injection e
theorem Src.lst{H:Hp}{a:Addr}{xs:List V}(h:H a=some (.lst xs)):Src H true a xs:=h
theorem Src.tup{H:Hp}{a:Addr}{xs:List V}(h:H a=some (.tup xs)):Src H false a xs:=h
theorem Inv.src{s:Shared}{k:Bool}{xs:List V}(I:Inv X pins σ H s)(h:Src H k a xs):∃its:af,Vals xs its/\IU s.heap k a its.toArray/\xs.length<=sizeLine:=by
 cases k with
 |true=>
  obtain⟨its,r,p,z⟩:=I.list (bR.of h);exact⟨its,r,p.isList,z⟩
 |false=>
  obtain⟨its,r,p,z⟩:=I.tuple (mE.of h);exact⟨its,r,p,z⟩
abbrev zFp(z TI TO:Addr)(L:List ZS):ah:=z::TI::TO::L.map (·.2.1)
theorem ZSt.obj{z TI TO:Addr}{L:List ZS}{i:Nat}{h:Heap}(st:ZSt z TI TO L i h):∀b∈zFp z TI TO L,∃o,h.get? b=some o/\∀v,o.data≠.cell v:=λb hb=>by
 obtain⟨hz,hTI,⟨arr,hTO,_⟩,hit⟩:=st;simp only[zFp,lQ] at hb;rcases hb with rfl|rfl|rfl|hb
 ·exact⟨_,hz,λv z=>by cases z⟩
 ·exact⟨_,hTI,λv z=>by cases z⟩
 ·exact⟨_,hTO,λv z=>by cases z⟩
 ·obtain⟨t,ht,rfl⟩:=mD.mp hb;obtain⟨o,vs,e,d⟩:=(hit t ht).obj;exact⟨o,e,λv z=>by rw[d] at z;cases z⟩
end L2
namespace L2.Z
open PySem PySem.Spec PyProof.Rows L2
end L2.Z
namespace L2
open PySem PySem.Spec PyProof.Rows
theorem nw(o:HO)(n:H p=none):∃H2,upd H p o=H2/\aO H H2/\H2 p=some o:=⟨_,rfl,aO.new n,aP⟩
theorem wr(H:Hp)(p:Addr)(o:HO):∃H2,upd H p o=H2/\bY p H H2/\H2 p=some o:=⟨_,rfl,bY.upd,aP⟩
def Nx(N:St->Hp->Prop)(σ:St)(H:Hp):Prop:=N σ H
structure Tail(N b:St->Hp->Prop):Prop where
 h:∀σ H,b σ H->N σ H
theorem aNR{nx bk ct:St->Hp->Prop}{t u:TS}(h:∀N,Tail N (u ⟨nx,rt,bk,ct⟩)->t ⟨Nx N,rt,bk,ct⟩ σ H):E4 t u ⟨nx,rt,bk,ct⟩ σ H:=h _ ⟨λ_ _ h=>h⟩
theorem aRt{N b:St->Hp->Prop}(t:Tail N b)(h:b σ H):Nx N σ H:=t.h _ _ h
theorem bO.obj{h:Heap}(x:bO P w H h a o):∃u,h.get? a=some u:=by
 cases o with
 |lst xs=>obtain⟨_,_,_,_,e⟩:=x;exact⟨_,e⟩
 |tup xs=>obtain⟨_,_,_,u,e,_⟩:=x;exact⟨u,e⟩
 |dK kvs=>obtain⟨_,_,_,_,u,_,_,e,_⟩:=x;exact⟨u,e⟩
 |dT kvs=>obtain⟨_,_,_,_,u,_,_,e,_⟩:=x;exact⟨u,e⟩
 |set S n=>obtain⟨u,_,_,_,e,_⟩:=x;exact⟨u,e⟩
 |ins C dx fs=>obtain⟨_,_,_,e,_⟩:=x;exact⟨_,e⟩
 |own y=>exact x
 |xd fs=>obtain⟨_,⟨u,_,_,e,_⟩,_⟩:=x;exact⟨u,e⟩
 |Hq lo hi=>obtain⟨_,_,_,e⟩:=x;exact⟨_,e⟩
 |bu ob u=>exact⟨_,x.1⟩
 |qe ps=>exact⟨_,x⟩
 |met f y=>exact⟨_,x⟩
 |ext φ=>exact x.2.1
 |va q=>obtain⟨o,_,_,e,_⟩:=x;exact⟨o,e⟩
 |gi pos q=>obtain⟨_,e,_⟩:=x;exact⟨_,e⟩
theorem Inv.Of{X:Cx}{s:Shared}{h':Heap}{t':Nat}(I:Inv X pins σ H s)(k:∀b u,s.heap.get? b=some u->h'.get? b=some u)(bj:∀b u,s.heap.get? b=some u->b≠a)(new:bO X.prog X.w (upd H a o) h' a o):H a=none/\Inv X pins σ (upd H a o) { s with heap:=h',toks:=t' }:=by
 have hn:H a=none:=by
  cases e:H a with
  |none=>rfl
  |some u=>
   obtain⟨ob,z⟩:=(I.av a u e).obj;exact absurd rfl (bj a ob z)
 refine⟨hn,I.un ⟨λb u q _ _ _=>k b u q,λb u q _ _ _=>⟨u.slots,k b u q⟩,λb u q n _=>?_,λb u q _=>⟨u,k b u q⟩,λb xs q=>?_,λb u xs q=>?_,λb ps q=>⟨#[],?_⟩⟩ λb u e=>?_⟩
 ·rw[aS (bj b u q)];exact n
 ·rw[aS (bM q hn)];exact q
 ·rw[aS (bM q hn)];exact q
 ·rw[aS (bM q hn),q];simp
 ·by_cases hb:b=a
  ·subst hb;rw[aP] at e;cases e;exact new
  ·rw[aS hb] at e;exact(I.av b u e).vf (λc v _ q=>k c v q) (λc q=>by rw[aS (bM q hn)];exact q) λc xs _ q=>by rw[aS (bM q hn)];exact q
section
variable{X:Cx}{o e:Expr}{to:TE}{apos aw:Pos}
theorem aLv(ho:PE X o to)(bg:attributeBase o "clear" X.env (eval o X.env)=eval o X.env:=by rfl)(bc:(apos.endLine == aw.line)=true:=by rfl) :
  PE X (.Call (.Attribute o "clear" apos) [] [] aw) (IS X.K "list" Jy to):=
 aPu PySem.F.plainAttrs_list PySem.F.slot_list_clear PySem.F.type_list_clear aKO ho bg bc
end
section
variable{K:W.Frag}{σ:St}{H:Hp}{Q:VK}
theorem aQd{r:V->List V->Hp->VK->Prop}(h:to σ H λx H1=>C4 K T x H1/\r x [] H1 Q):IS K T r to σ H Q:=h
theorem aLw(h:H l=some (.lst xs))(q:Q .ba (upd H l (.lst []))):Jy (.ref l) [] H Q:=⟨l,xs,rfl,rfl,h,q⟩
end
end L2
namespace L2.Z
open PySem PySem.Spec PyProof.Rows
section
variable{X:Cx}{K':W.Frag}{tg o i value l:Expr}{to td ty tv tl:TE}{pos pos' apos aw:Pos}
theorem aFo(ho:QE X o to)(bg:attributeBase o "clear" X.env (eval o X.env)=eval o X.env:=by rfl)(bc:(apos.endLine == aw.line)=true:=by rfl)(hK:X.K=K':=by rfl) :
  QE X (.Call (.Attribute o "clear" apos) [] [] aw) (IS K' "list" Jy to):=by subst hK;exact⟨L2.aLv ho.h bg bc⟩
theorem oG(hu:X.A.units+9 < cLine)(ho:QE X o td)(hi:QE X i ty)(hv:QE X value tv)(hs:swapsWith value (some (.Subscript o i pos')) pos.line X.env=pure false:=by rfl) :
  QS X (.Assign [.Subscript o i pos'] value pos) (OC td ty tv):=⟨L2.aNe (by lia) ho.h hi.h hv.h hs⟩
end
end L2.Z
namespace L2
open PySem PySem.Spec PyProof.Rows
section
variable{σ:St}{H:Hp}{Q:VK}{nx bk ct:St->Hp->Prop}{rt:VK}
theorem aNS(h:tv σ H λv H1=>td σ H1 λx H2=>ty σ H2 λy H3=>∃a H4,x=.ref a/\wx H3 a y v H4/\nx σ H4):OC td ty tv ⟨nx,rt,bk,ct⟩ σ H:=h
end
section
variable{prog:Program}{w:World}{A:Around}{E:aj}{s:Shared}{K:W.Frag}{x C:Addr}{o:Obj}{name:Str}{v:Value}
open PySem.Builtin PySem.Builtin.ObjectAttr in
end
def aR0(C:Addr)(od:Option Addr)(e:Addr):HO:=.ext λh=>∃o vs,h.get? e=some o/\o.cls=.ref C/\o.dict=od/\o.data=.fields vs/\(od≠none->vs[2]?=some .none)
def DN(H:Hp)(od:Option Addr):Prop:=∀dx,od=some dx->∃fs,H dx=some (.xd fs)
theorem DN.none:DN H none:=λ_ z=>nomatch z
theorem DN.some(h:H dx=some (.xd fs)):DN H (some dx):=λ_ z=>by cases z;exact⟨fs,h⟩
theorem DN.there{h:Heap}(av:uO P w H h)(d:DN H od):∀dx,od=Option.some dx->∃o,h.get? dx=Option.some o:=λdx z=>by
 obtain⟨fs,e⟩:=d dx z;exact(av dx _ e).obj
abbrev TW:=St->Hp->Addr->Prop
structure aQe(X:Cx)(pins:ao)(T:Addr):Prop where
 up:X.s₀.heap.objs.size<=T
 loc:T≠X.env.locals
 cell:∀x c,X.env.cells.lookup x=some c->c≠T
 pin:∀p∈X.pn++pins,p.1≠T
structure aR1(X:Cx)(pins:ao)(H:Hp)(h:Heap)(e:Addr):Prop where
 ex:∃(C:Addr) (od:Option Addr) (oe:Obj) (vs:Array Value) (T:Addr) (oT:Obj) (ts:Array Value),H e=some (aR0 C od e)/\h.get? e=some oe/\oe.data=.fields vs/\vs[1]?=some (.ref T)/\T≠e/\aQe X pins T/\H T=none/\h.get? T=some oT/\oT.data=.fields ts/\3 < ts.size
def aQf(X:Cx)(pins:ao)(W:TW)(ev:Value)(s':Shared):Prop:=∃(e:Addr) (σ:St) (H':Hp),ev=.ref e/\Inv X pins σ H' s'/\aR1 X pins H' s'.heap e/\W σ H' e
def Cx.tr(X:Cx)(pins:ao)(W:TW):Cx:={ X with pn:=X.pn++pins,xe:=aQf X pins W }
def Cx.mw(X:Cx)(e:Addr):Cx:={ X with A:=X.A.mark (some (.ref e)),calm:=false,xe:=λ_ _=>False }
section
variable{X:Cx}{pins jr:ao}{σ:St}{H:Hp}{s:Shared}{W:TW}{e:Addr}
theorem Cx.Ok.tr(ok:X.Ok):(X.tr pins W).Ok:=⟨ok.mod,ok.kind,ok.glob,ok.blt,ok.above,ok.inj,ok.has,ok.A3,ok.hd,ok.frames,ok.C6,ok.Iy,ok.bs,ok.vb,ok.qa,ok.ui,ok.yS,ok.zb⟩
theorem Cx.Ok.mw(ok:X.Ok):(X.mw e).Ok:=⟨ok.mod,ok.kind,ok.glob,ok.blt,ok.above,ok.inj,ok.has,ok.A3,(λz=>Bool.noConfusion z),ok.frames,ok.C6,ok.Iy,ok.bs,ok.vb,ok.qa,ok.ui,ok.yS,ok.zb⟩
theorem Inv.tr(I:Inv X pins σ H s):Inv (X.tr pins W) [] σ H s:=⟨I.ok.tr,I.os,I.bare,I.base,I.loc,I.cell,I.free,I.cj,λp hp=>I.pin p (by rw[oz] at hp;exact hp),I.av,I.len⟩
theorem Inv.mw(I:Inv X pins σ H s):Inv (X.mw e) pins σ H s:=⟨I.ok.mw,I.os,I.bare,I.base,I.loc,I.cell,I.free,I.cj,I.pin,I.av,I.len⟩
end
abbrev TH:=Ends->St->Hp->Addr->Prop
structure DD(k:Nat)(A:Around):Prop where
 dp:A.depth+3*k+5 < recursionLimit
 un:A.units+16*k+200 < cLine
theorem eS.h{k:Nat}(r:eS k A):DD k A:=⟨r.dp,r.un⟩
theorem DD.mark{k:Nat}{A:Around}(r:DD k A)(o:aq):DD k (A.mark o):=⟨r.dp,r.un⟩
theorem DD.calm{k:Nat}(r:DD k A):eS k { A with handled:=none }:=⟨rfl,r.dp,r.un⟩
end L2
namespace L2.Z
open PySem PySem.Spec PyProof.Rows L2
end L2.Z
namespace L2
open PySem PySem.Spec PyProof.Rows
section
variable{X:Cx}
def aRu(K:W.Frag):List V->Hp->VK->Prop:=λxs H Q=>∃(p:Addr) (bs:List Bool),xs=[.ref p]/\bR K H p (bs.map V.bl)/\Q (.bl (bs.any id)) H
theorem aJO(hc:X.calm=true):eC X (.builtin "any") (aRu X.K):=by
 intro pins s σ H xs us Q I r h;obtain⟨p,bs,rfl,hq,q⟩:=h;obtain⟨u,rfl,rx⟩:=vals1 r;cases rx;obtain⟨its,r',pl,hz⟩:=I.list hq;have e:=zZ r';subst e;have hl:=pl.isList;have br:p < s.heap.objs.size:=by obtain⟨_,e,_⟩:=id hl;exact eB e
 refine call_any_walk (wpAny_pyIter_list hl ?_);refine⟨s.heap.objs.size,[s.heap.objs.size,p],[s.heap.objs.size],(bs.map Value.bool).toArray.size,_,_,λi=>(bs[i]?).getD false,rfl,Walks.list (A:=X.A.in1) (I.ok.hd hc) _ p (gM br) (bs.map Value.bool).toArray,
  ⟨⟨_,mJ _ rfl,rfl,rfl⟩,hl.push _⟩,λi v s' Q' E' hP hQ=>?_,λh' tk hk=>?_⟩
 ·have wm:(bs.map Value.bool)[i]?=some v:=by simpa using hP
  rw[hE] at wm;cases hb:bs[i]? with
  |none=>rw[hb] at wm;cases wm
  |some b=>
   rw[hb] at wm;cases wm;simp only[hb,J7] at hQ;exact wpAny_truthy_bool hQ
 ·have e:((List.range (bs.map Value.bool).toArray.size).any λi=>(bs[i]?).getD false)=bs.any id:=by
   rw[iL,bK];exact LSm.range_any bs
  rw[e];exact⟨.bl _,H,I.kept (t':=tk) (LSm.kept_iter hk),rfl,q⟩
end
section
variable{X:Cx}{o e:Expr}{to:TE}{t:TA}{apos aw:Pos}
theorem aIJ:∀{ns:aa}{us:af},Vals (ns.map V.int) us->IntsAre us ns
 |[],_,.nil=>.nil
 |n::ns,_,.cons r t=>by
  obtain⟨k,rfl⟩:=(show ∃k,_=Value.int n k from r)
  exact .cons n k (aIJ t)
def Jv(K:W.Frag):V->List V->Hp->VK->Prop:=λx vs H Q=>∃(l:Addr) (ns:aa) (k:Int),x=.ref l/\vs=[.int k]/\bR K H l (ns.map V.int)/\Q (.int (ns.count k:Nat)) H
theorem aLx:QK X "list.count" (Jv X.K):=by
 intro pins s σ H x vs v us Q I rx rv h;obtain⟨l,ns,k,rfl,rfl,hS,q⟩:=h;cases rx;obtain⟨u,rfl,ru⟩:=rv.one;obtain⟨tk,rfl⟩:=(show ∃tk,u=Value.int k tk from ru)
 obtain⟨its,r,pl,hz⟩:=I.list hS;exact count_list_ints pl.isList (aIJ r) ⟨.int (ns.count k:Nat),H,I.tok _,⟨_,rfl⟩,q⟩
theorem aLy(ho:PE X o to)(ha:PA X [e] t)(hn:noStar e=true:=by rfl)(bg:attributeBase o "count" X.env (eval o X.env)=eval o X.env:=by rfl)(bc:(apos.endLine == aw.line)=true:=by rfl) :
  PE X (.Call (.Attribute o "count" apos) [e] [] aw) (C5 X.K "list" (Jv X.K) to t):=
 aOu PySem.F.plainAttrs_list PySem.F.slot_list_count PySem.F.type_list_count aLx ho ha bg (by rw[cC hn];rfl) bc (cC hn) (by rfl)
theorem aGB{K:W.Frag}{H:Hp}{Q:VK}{l:Addr}{ns:aa}{k:Int}(h:bR K H l (ns.map V.int))(q:Q (.int (ns.count k:Nat)) H):Jv K (.ref l) [.int k] H Q:=⟨l,ns,k,rfl,rfl,h,q⟩
end
end L2
namespace L2.Z
open PySem PySem.Spec PyProof.Rows L2
theorem aAF{X:Cx}{apos aw:Pos}(ho:QE X o to)(ha:QA X [e] t)(hn:noStar e=true:=by rfl)(bg:attributeBase o "count" X.env (eval o X.env)=eval o X.env:=by rfl)(bc:(apos.endLine == aw.line)=true:=by rfl)(hK:X.K=K':=by rfl) :
  QE X (.Call (.Attribute o "count" apos) [e] [] aw) (C5 K' "list" (Jv K') to t):=by subst hK;exact⟨L2.aLy ho.h ha.h hn bg bc⟩
end L2.Z
namespace L2
open PySem PySem.W PyProof.Rows
section
variable{O:KeyOrd}{key:Nat->O.α}{N:Nat}{cmp:Nat->Nat->(Bool->Shared->Prop)->Shared->Prop}{s:Shared}
def kq(key:Nat->O.α)(p:Array Nat)(i:Nat):O.α:=key (p.getD i 0)
def Up(key:Nat->O.α)(p:Array Nat)(k:Nat):Prop:=∀i j,i<=j->j < k->O.kle (kq key p i) (kq key p j)
def Dn(key:Nat->O.α)(p:Array Nat)(k:Nat):Prop:=∀i j,i<=j->j < k->O.kle (kq key p j) (kq key p i)
def Row(N:Nat)(p:Array Nat):Prop:=p.Perm (List.toArray (List.range N))
theorem Fc{p q:Array Nat}{i j:Nat}(h:p[i]?=q[j]?):kq key p i=kq key q j:=by
 unfold kq;rw[Cr,Cr,h]
theorem aLz{p:Array Nat}{a d:Nat}(ha:a < p.size)(hd:d<=a)(k:Nat):kq key (bubble p a d) k=if k=a - d then kq key p a else if a - d < k/\k<=a then kq key p (k - 1) else kq key p k:=by
 have e:=getElem?_bubble ha d hd k;split
 ·rename_i h;rw[cJ h] at e;exact Fc e
 ·rename_i h;rw[bV h] at e;split
  ·rename_i g;rw[cJ g] at e;exact Fc e
  ·rename_i g;rw[bV g] at e;exact Fc e
theorem Ju{p:Array Nat}{i j:Nat}(hj:j<=p.size)(k:Nat):kq key (kas_rev p i j) k=if i<=k/\k < j then kq key p (i+j - 1 - k) else kq key p k:=by
 have e:=getElem?_mirror_all (i:=i) hj k;split
 ·rename_i h;rw[cJ h] at e;exact Fc e
 ·rename_i h;rw[bV h] at e;exact Fc e
theorem Row.size{p:Array Nat}(h:Row N p):p.size=N:=by
 have:=h.size_eq;rw[this];simp
theorem Row.lt{p:Array Nat}(h:Row N p)(hN:0 < N)(i:Nat):p.getD i 0 < N:=by
 by_cases hi:i < p.size
 ·have e:p.getD i 0=p[i]:=by simp[Array.getD,hi]
  have m:p[i]∈p.toList:=by simp
  have m2:=(FH.mp h).mem_iff.mp m;rw[e];simpa using m2
 ·have e:p.getD i 0=0:=by simp[Array.getD,hi]
  rw[e];exact hN
theorem Row.rev{p:Array Nat}(h:Row N p)(i j:Nat):Row N (kas_rev p i j):=(mirror_perm p i j _).trans h
theorem Row.bub{p:Array Nat}(h:Row N p)(i j:Nat):Row N (bubble p i j):=(bubble_perm p i j).trans h
theorem Up.more{p:Array Nat}{m:Nat}(h:Up key p m)(e:O.kle (kq key p (m - 1)) (kq key p m)):Up key p (m+1):=λi j we hj=>by
 by_cases hm:j < m
 ·exact h i j we hm
 ·have ej:j=m:=by lia
  subst ej;by_cases hi:i=j
  ·subst hi;exact KeyOrd.kle_refl _
  ·exact KeyOrd.kle_trans (h i (j - 1) (by lia) (by lia)) e
theorem Dn.more{p:Array Nat}{m:Nat}(h:Dn key p m)(e:O.kle (kq key p m) (kq key p (m - 1))):Dn key p (m+1):=λi j we hj=>by
 by_cases hm:j < m
 ·exact h i j we hm
 ·have ej:j=m:=by lia
  subst ej;by_cases hi:i=j
  ·subst hi;exact KeyOrd.kle_refl _
  ·exact KeyOrd.kle_trans e (h i (j - 1) (by lia) (by lia))
def uf(key:Nat->O.α)(N:Nat)(cmp:Nat->Nat->(Bool->Shared->Prop)->Shared->Prop)(s:Shared):Prop:=∀i j (C:Bool->Shared->Prop),i < N->j < N->C (O.blt (key i) (key j)) s->cmp i j C s
theorem uf.ask{α:Type}(hc:uf key N cmp s)(hN:0 < N){p:Array Nat}(hp:Row N p){i j:Nat}{k:Bool->KasT α}{Q:α->Shared->Prop}(h1:O.klt (kq key p i) (kq key p j)->(k true).kasWp cmp Q s)(h2:O.kle (kq key p j) (kq key p i)->(k false).kasWp cmp Q s) :
  (KasT.ask (p.getD i 0) (p.getD j 0) k).kasWp cmp Q s:=by
 refine hc _ _ _ (hp.lt hN i) (hp.lt hN j) ?_;cases e:O.blt (key (p.getD i 0)) (key (p.getD j 0)) with
 |true=>exact h1 e
 |false=>exact h2 e
theorem O2(hc:uf key N cmp s)(hN:0 < N){p:Array Nat}(hp:Row N p){Q:Nat->Shared->Prop}:∀{f m:Nat},f=N - m->1<=m->m<=N->Up key p m->
  (∀r,m<=r->r<=N->Up key p r->(r < N->O.klt (kq key p r) (kq key p (r - 1)))->Q r s)->(kas_asc p f m).kasWp cmp Q s
 |0,m,hf,h1,hm,hu,h=>h m (d7 _) hm hu (λz=>by lia)
 |f+1,m,hf,h1,hm,hu,h=>by
  refine hc.ask hN hp (λz=>?_) (λz=>?_)
  ·rw[cJ rfl];exact h m (d7 _) hm hu λ_=>z
  ·rw[bV (by decide)];exact O2 hc hN hp (by lia) (by lia) (by lia) (hu.more z) λr a b c d=>h r (by lia) b c d
def KD(key:Nat->O.α)(p:Array Nat)(n q:Nat):Prop:=∀i,n - (q+1)<=i->i < n->kq key p i=kq key p (n - 1)
theorem KD.same{p:Array Nat}{n q:Nat}(h:KD key p n q)(hz:n<=p.size)(k:Nat):kq key (kas_rev p (n - (q+1)) n) k=kq key p k:=by
 rw[Ju hz];split
 ·rename_i g;rw[h k g.1 g.2];exact h _ (by lia) (by lia)
 ·rfl
theorem JL(hc:uf key N cmp s)(hN:0 < N){Q:Array Nat×Nat×Nat->Shared->Prop}:∀{f n q:Nat}{p:Array Nat},Row N p->f=N - n->1<=n->n<=N->q+1<=n->Dn key p n->KD key p n q->
  (∀p' n' q',Row N p'->1<=n'->n'<=N->q'+1<=n'->Dn key p' n'->KD key p' n' q'->Q (p',n',q') s)->(kas_desc f p n q).kasWp cmp Q s
 |0,n,q,p,hp,hf,h1,hn,hq,hd,hb,h=>h p n q hp h1 hn hq hd hb
 |f+1,n,q,p,hp,hf,h1,hn,hq,hd,hb,h=>by
  have hz:n<=p.size:=by rw[hp.size];exact hn
  refine hc.ask hN hp (λz=>?_) (λz=>?_)
  ·rw[cJ rfl];have AY:Dn key p (n+1):=hd.more (KeyOrd.kle_of_klt z);split
   ·have e:=hb.same hz;refine JL hc hN (hp.rev _ _) (by lia) (by lia) (by lia) (by lia) (λi j a b=>?_) (λi a b=>?_) h
    ·rw[e,e];exact AY i j a b
    ·have:i=n:=by lia
     subst this;rfl
   ·refine JL hc hN hp (by lia) (by lia) (by lia) (by lia) AY (λi a b=>?_) h;have:i=n:=by lia
    subst this;rfl
  ·rw[bV (by decide)];refine hc.ask hN hp (λy=>?_) (λy=>?_)
   ·rw[cJ rfl];exact h p n q hp h1 hn hq hd hb
   ·rw[bV (by decide)];have e:kq key p (n - 1)=kq key p n:=KeyOrd.kle_antisymm z y;refine JL hc hN hp (by lia) (by lia) (by lia) (by lia) (hd.more y) (λi a b=>?_) h;show kq key p i=kq key p n;by_cases hi:i < n
    ·rw[hb i (by lia) hi,e]
    ·have:i=n:=by lia
     subst this;rfl
theorem aIK(hc:uf key N cmp s)(hN:0 < N){n:Nat}{p:Array Nat}{Q:Nat×Array Nat->Shared->Prop}(hp:Row N p)(h1:1<=n)(hn:n<=N)(hd:Dn key p n)(h:∀m p',Row N p'->1<=m->m<=N->Up key p' m->Q (m,p') s):(kas_tail3 n N p).kasWp cmp Q s:=by
 have hz:n<=p.size:=by rw[hp.size];exact hn
 unfold kas_tail3;rw[KasT.kasWp_bind];refine O2 hc hN (hp.rev 0 n) rfl h1 hn (λi j a b=>?_) λr a b c _=>h r _ (hp.rev 0 n) (by lia) b c;rw[Ju hz,Ju hz,cJ ⟨dz _,by lia⟩,cJ ⟨dz _,b⟩];exact hd _ _ (by lia) (by lia)
theorem aBV(hc:uf key N cmp s)(hN:0 < N){n:Nat}{p:Array Nat}{Q:Nat×Array Nat->Shared->Prop}(hp:Row N p)(h1:1<=n)(hn:n < N)(hd:Dn key p n)(hl:O.klt (kq key p n) (kq key p (n - 1)))(h:∀m p',Row N p'->1<=m->m<=N->Up key p' m->Q (m,p') s) :
  (kas_descPart n N p).kasWp cmp Q s:=by
 unfold kas_descPart;rw[KasT.kasWp_bind];refine JL hc hN hp rfl (by lia) (by lia) (by lia) (hd.more (KeyOrd.kle_of_klt hl)) (λi a b=>by have:i=n:=(by lia);subst this;rfl) λp' n' q' r1 r2 r3 r4 r5 r6=>?_;have hz:n'<=p'.size:=by rw[r1.size];exact r3
 split
 ·refine aIK hc hN (r1.rev _ _) r2 r3 (λi j a b=>?_) h;have e:=r6.same hz;show O.kle (kq key (kas_rev p' (n' - (q'+1)) n') j) (kq key (kas_rev p' (n' - (q'+1)) n') i);rw[e,e];exact r5 i j a b
 ·exact aIK hc hN r1 r2 r3 r5 h
theorem aLA(hc:uf key N cmp s)(hN:0 < N){p:Array Nat}{Q:Nat×Array Nat->Shared->Prop}(hp:Row N p)(h:∀m p',Row N p'->1<=m->m<=N->Up key p' m->Q (m,p') s):(kas_count N p).kasWp cmp Q s:=by
 unfold kas_count;rw[KasT.kasWp_bind];refine O2 hc hN hp rfl (d7 _) hN (λi j a b=>by have:i=j:=(by lia);subst this;exact KeyOrd.kle_refl _) λn a b c d=>?_;have hz:n<=p.size:=by rw[hp.size];exact b
 split
 ·exact h n p hp a b c
 ·rename_i ne;have nN:n < N:=by
   have:n≠N:=λz=>ne (by simp[z]);lia
  split
  ·refine hc.ask hN hp (λz=>?_) (λz=>?_)
   ·rw[cJ rfl];exact h n p hp a b c
   ·rw[bV (by decide)];have all:∀i,i < n->kq key p i=kq key p 0:=λi hi=>KeyOrd.kle_antisymm (KeyOrd.kle_trans (c i (n - 1) (by lia) (by lia)) z) (c 0 i (by lia) hi);have e:∀k,kq key (kas_rev p 0 n) k=kq key p k:=λk=>by
     rw[Ju hz];split
     ·rw[all _ (by lia),all k (by lia)]
     ·rfl
    refine aBV hc hN (hp.rev 0 n) a nN (λi j x y=>?_) ?_ h
    ·rw[e,e,all i (by lia),all j y];exact KeyOrd.kle_refl _
    ·rw[e,e];exact d nN
  ·have n1:n=1:=by lia
   subst n1;exact aBV hc hN hp (d7 _) nN (λi j x y=>by have:i=j:=(by lia);subst this;exact KeyOrd.kle_refl _) (d nN) h
theorem PQ(hc:uf key N cmp s)(hN:0 < N){p:Array Nat}(hp:Row N p){k:Nat}(hu:Up key p k){Q:Nat->Shared->Prop}:∀{f l r:Nat},l<=r->r<=k->r - l<=f->
  (∀i,i < l->O.kle (kq key p i) (kq key p k))->(∀i,r<=i->i < k->O.klt (kq key p k) (kq key p i))->
  (∀m,m<=k->(∀i,i < m->O.kle (kq key p i) (kq key p k))->(∀i,m<=i->i < k->O.klt (kq key p k) (kq key p i))->Q m s)->(kas_place p k f l r).kasWp cmp Q s
 |0,l,r,hlr,hrk,hf,ha,hb,h=>h l (by lia) ha λi x y=>hb i (by lia) y
 |f+1,l,r,hlr,hrk,hf,ha,hb,h=>by
  unfold kas_place;by_cases g:l ≥ r
  ·rw[cJ g];exact h l (by lia) ha λi x y=>hb i (by lia) y
  ·rw[bV g];refine hc.ask hN hp (λz=>?_) (λz=>?_)
   ·rw[cJ rfl];refine PQ hc hN hp hu (by lia) (by lia) (by lia) ha (λi x y=>?_) h;exact KeyOrd.klt_of_klt_of_kle z (hu _ i x y)
   ·rw[bV (by decide)];refine PQ hc hN hp hu (by lia) (by lia) (by lia) (λi x=>?_) hb h;exact KeyOrd.kle_trans (hu i _ (by lia) (by lia)) z
theorem aLB(hc:uf key N cmp s)(hN:0 < N){Q:Array Nat->Shared->Prop}:∀{f k:Nat}{p:Array Nat},Row N p->f=N - k->k<=N->Up key p k->(∀p',Row N p'->Up key p' N->Q p' s)->(kas_bin f p k).kasWp cmp Q s
 |0,k,p,hp,hf,hk,hu,h=>h p hp (by have:k=N:=(by lia);subst this;exact hu)
 |f+1,k,p,hp,hf,hk,hu,h=>by
  unfold kas_bin;rw[KasT.kasWp_bind];refine PQ hc hN hp hu (dz _) (d7 _) (by lia) (λi x=>by lia) (λi x y=>by lia) λm hm ha hb=>?_;have kz:k < p.size:=by rw[hp.size];lia
  refine aLB hc hN (hp.bub k (k - m)) (by lia) (by lia) (λi j we hj=>?_) h;have em:k - (k - m)=m:=by lia
  rw[aLz kz (by lia),aLz kz (by lia),em];by_cases i1:i=m
  ·rw[cJ i1];by_cases j1:j=m
   ·rw[cJ j1];exact KeyOrd.kle_refl _
   ·rw[bV j1,cJ (by lia)];exact KeyOrd.kle_of_klt (hb _ (by lia) (by lia))
  ·rw[bV i1];by_cases i2:m < i/\i<=k
   ·rw[cJ i2,bV (by lia),cJ (by lia)];exact hu _ _ (by lia) (by lia)
   ·rw[bV i2];by_cases j1:j=m
    ·rw[cJ j1];exact ha i (by lia)
    ·rw[bV j1];by_cases j2:m < j/\j<=k
     ·rw[cJ j2];exact hu _ _ (by lia) (by lia)
     ·rw[bV j2];exact hu _ _ (by lia) (by lia)
theorem aIL(hc:uf key N cmp s)(hN:0 < N){Q:Array Nat->Shared->Prop}(h:∀p,Row N p->Up key p N->Q p s):(kas_sort N).kasWp cmp Q s:=by
 unfold kas_sort;rw[KasT.kasWp_bind];refine aLA hc hN (Array.Perm.refl _) λm p hp h1 hm hu=>?_;split
 ·rename_i z;have e:max m 1=m:=by lia
  show(kas_bin (N - max m 1) p (max m 1)).kasWp cmp Q s;rw[e];exact aLB hc hN hp rfl hm hu h
 ·rename_i z;have z':¬m < N:=z;have e:m=N:=by lia
  subst e;exact h p hp hu
end
def gL:aa->aa->Bool
 |[],[]=>false
 |[],_::_=>true
 |_::_,[]=>false
 |a::as,b::bs=>if a=b then gL as bs else decide (a < b)
theorem cS(a b:Int)(as bs:aa):gL (a::as) (b::bs)=if a=b then gL as bs else decide (a < b):=rfl
theorem aBW:∀as:aa,gL as as=false
 |[]=>rfl
 |a::as=>by rw[cS,cJ rfl];exact aBW as
theorem aC8:∀as bs cs:aa,gL as bs=true->gL bs cs=true->gL as cs=true
 |[],[],_,h,_=>by cases h
 |[],_::_,[],_,h=>by cases h
 |[],_::_,_::_,_,_=>rfl
 |_::_,[],_,h,_=>by cases h
 |_::_,_::_,[],_,h=>by cases h
 |a::as,b::bs,c::cs,h1,h2=>by
  rw[cS] at h1 h2 ⊢;by_cases e1:a=b
  ·subst e1;rw[cJ rfl] at h1;by_cases e2:a=c
   ·rw[cJ e2] at h2 ⊢;exact aC8 as bs cs h1 h2
   ·rw[bV e2] at h2 ⊢;exact h2
  ·rw[bV e1] at h1;have l1:=zj h1;by_cases e2:b=c
   ·subst e2;rw[bV e1];exact h1
   ·rw[bV e2] at h2;have l2:=zj h2;rw[bV (by lia)];exact zV (by lia)
theorem aGD:∀as bs cs:aa,gL as cs=true->gL as bs=true\/gL bs cs=true
 |[],[],_,h=>.inr h
 |[],_::_,_,_=>.inl rfl
 |_::_,_,[],h=>by cases h
 |_::_,[],_::_,_=>.inr rfl
 |a::as,b::bs,c::cs,h=>by
  rw[cS] at h;rw[cS,cS];by_cases e1:a=b
  ·subst e1;rw[cJ rfl];by_cases e2:a=c
   ·rw[cJ e2] at h ⊢;exact aGD as bs cs h
   ·rw[bV e2] at h ⊢;exact .inr h
  ·rw[bV e1];by_cases e2:b=c
   ·subst e2;rw[bV e1] at h;exact .inl h
   ·rw[bV e2];by_cases l:a < b
    ·exact .inl (zV l)
    ·refine .inr (zV ?_);by_cases e3:a=c
     ·lia
     ·rw[bV e3] at h;have:=zj h;lia
theorem Qm:∀as bs:aa,gL as bs=false->gL bs as=false->as=bs
 |[],[],_,_=>rfl
 |[],_::_,h,_=>by cases h
 |_::_,[],_,h=>by cases h
 |a::as,b::bs,h1,h2=>by
  rw[cS] at h1 h2;by_cases e:a=b
  ·subst e;rw[cJ rfl] at h1 h2;rw[Qm as bs h1 h2]
  ·rw[bV e] at h1;rw[bV (Ne.symm e)] at h2;have:=of_decide_eq_false h1;have:=of_decide_eq_false h2;lia
def vP:KeyOrd:=⟨aa,gL,aBW,aC8,aGD,Qm⟩
theorem iQ:∀{ns:aa}{its:af},Vals (ns.map V.int) its->IntsAre its ns
 |[],_,r=>by cases r;exact .nil
 |n::ns,_,r=>by
  cases r with
  |cons h t=>
   obtain⟨u,rfl⟩:=h;exact .cons n u (iQ t)
inductive yU (h:Heap):af->az->Prop
 |nil:yU h [] []
 |cons {x:Addr} {o:Obj} {xs:Array Value} {k:Nat} {t:aa} {vs:af} {ts:az} (e:h.get? x=some o) (c:o.cls=.type "tuple") (d:o.data=.seq xs k) (i:IntsAre xs.toList t) (ne:t≠[]) (r:yU h vs ts):yU h (.ref x::vs) (t::ts)
theorem yU.length{vs:af}{ts:az}(r:yU h vs ts):vs.length=ts.length:=by
 induction r with
 |nil=>rfl
 |cons _ _ _ _ _ _ ih=>rw[yW,yW,ih]
theorem yU.at_{h:Heap}{vs:af}{ts:az}(r:yU h vs ts):∀{j:Nat},j < vs.length->∃x o xs k,vs.getD j Value.none=.ref x/\h.get? x=some o/\o.data=.seq xs k/\IntsAre xs.toList (ts.getD j []):=by
 induction r with
 |nil=>intro j hj;simp at hj
 |cons e c d i ne r ih=>
  intro j hj;cases j with
  |zero=>exact⟨_,_,_,_,rfl,e,d,i⟩
  |succ j=>exact ih (by simpa using hj)
theorem yU.keeps{h h':Heap}{ts:az}(r:yU h vs ts)(k:∀(b:Addr) (o:Obj),o.cls=.type "tuple"->h.get? b=some o->h'.get? b=some o):yU h' vs ts:=by
 induction r with
 |nil=>exact .nil
 |cons e c d i ne _ ih=>exact .cons (k _ _ c e) c d i ne ih
theorem yU.aQg{vs:af}{ts:az}(r:yU h vs ts):∃fs:af,KatTups h vs fs/\fs.length=vs.length/\∀v∈fs,∃n u,v=Value.int n u:=by
 induction r with
 |nil=>exact⟨[],.nil,rfl,λv z=>by cases z⟩
 |@cons x o xs k t vs ts e c d i ne _ ih=>
  obtain⟨fs,a1,a2,a3⟩:=ih;obtain⟨n,u,hx⟩ : ∃n u,xs[0]?=some (Value.int n u):=by
   rw[<-jq];generalize xs.toList=l at i;cases i with
   |nil=>exact absurd rfl ne
   |cons n u _=>exact⟨n,u,rfl⟩
  refine⟨.int n u::fs,.cons e c d hx a1,by rw[yW,yW,a2],λv z=>?_⟩;rcases lQ.mp z with z|z
  ·exact⟨n,u,z⟩
  ·exact a3 v z
section
variable{prog:Program}{w:World}{A:Around}{E:aj}{s:Shared}
theorem aGE{Q:Bool->Shared->Prop}:∀{xs ys:af}{as bs:aa}{i:Nat}{fin:Bool},IntsAre xs as->IntsAre ys bs->fin=decide (as.length < bs.length)->Q (gL as bs) s->KatLex prog w A true fin Q (xs.zip ys) i s
 |_,_,_,_,i,fin,.nil,.nil,hf,h=>kat_nil (by rw[hf];exact h)
 |_,_,_,_,i,fin,.nil,.cons _ _ _,hf,h=>kat_nil (by rw[hf];exact h)
 |_,_,_,_,i,fin,.cons _ _ _,.nil,hf,h=>kat_nil (by rw[hf];exact h)
 |_,_,_,_,i,fin,.cons a t r,.cons b u q,hf,h=>by
  refine kat_cons (wpAny_eqBool_int ?_);rw[cS] at h;by_cases e:a=b
  ·rw[cJ e] at h;rw[show(a == b)=true by simp[e]];refine kat_yes (aGE r q ?_ h);rw[hf,yW,yW];congr 1;apply propext;constructor <;> intro z <;> lia
  ·rw[bV e] at h;rw[show(a == b)=false by simp[e]];refine kat_no ?_;cases i with
   |zero=>exact oneLt_int h
   |succ i=>
    rw[show(true && (i+1 == 0))=false by simp];exact kat_one _ _ (PyProof.Rows.lt_int h)
theorem aLC{ts:az}(r:yU s.heap vs ts):uf (O:=vP) (λi=>ts.getD i []) vs.length (kas_ask prog w A (tuples' true) vs) s:=λi j C hi hj h=>by
 obtain⟨x,ox,xs,n,e1,g1,d1,i1⟩:=r.at_ hi;obtain⟨y,oy,ys,k,e2,g2,d2,i2⟩:=r.at_ hj;unfold kas_ask;rw[e1,e2];refine kat_lt g1 d1 g2 d2 (aGE i1 i2 ?_ h);rw[<-i1.length,<-i2.length,jf,jf]
def eX(vs:af)(p:Array Nat):Array Value:=List.toArray (p.toList.map λi=>vs.getD i Value.none)
theorem aEQ{vs:af}{ts:az}{n:Nat}{P:PySem.Fin->Shared->Prop}(ho:s.heap.get? a=some (seqObj "list" vs.toArray n))(hT:yU s.heap vs ts)(kn:vs.length < 64)(h:∀p,Row vs.length p->Up (O:=vP) (λi=>ts.getD i []) p vs.length->P (.done (.ret .none)) { s with heap:=sortedHeap s.heap a vs (eX vs p) }) :
  wpAny (model prog w) A (Builtin.«list.sort» ⟨[.ref a],[]⟩) P E s:=by
 rw[list_sort_plain];have la:=eB ho;refine aR (listItems_at ho rfl (aR (listUpdate_at ho rfl ?_)));obtain⟨e1,g1⟩ : ∃e,(s.heap.update a (Obj.mapSeq λ_=>#[])).get? a=some (seqObj "list" #[] e):=⟨_,get?_update_seq ho λ_=>#[]⟩
 refine aR (seqEpoch_at g1 rfl (aR (wpAny_newTuple (aR (wpAny_newList (eh ?_))))));generalize BZ:((s.heap.update a (Obj.mapSeq λ_=>#[])).push (seqObj "tuple" vs.toArray 0)).push (seqObj "list" #[] 0)=h6;have yb:∀b o,b≠a->s.heap.get? b=some o->h6.get? b=some o:=λb o nb e=>by
  have lb:=eB e;rw[<-BZ,Bl _ _ _ (gM (by rw[size_push',Ao];exact nk lb)),Bl _ _ _ (gM (by rw[Ao];exact lb)),Heap.get?_update_ne _ _ _ _ nb];exact e
 have g6:h6.get? a=some (seqObj "list" #[] e1):=by
  rw[<-BZ,Bl _ _ _ (gM (by rw[size_push',Ao];exact nk la)),Bl _ _ _ (gM (by rw[Ao];exact la))];exact g1
 have fin:∀p,Row vs.length p->Up (O:=vP) (λi=>ts.getD i []) p vs.length->P (.done (.ret .none)) { s with heap:=h6.update a (Obj.mapSeq λ_=>eX vs p) }:=λp r u=>by
  rw[<-BZ];exact h p r u
 have T6:yU h6 vs ts:=hT.keeps λb o c e=>yb b o (λz=>by rw[z,ho] at e;cases e;exact absurd c (show ¬Value.type "list" = Value.type "tuple" by decide)) e;show wpAny (model prog w) A _ P E { s with heap:=h6 };have LI:vs.toArray.size=vs.length:=iL;dsimp only;by_cases small:vs.toArray.size < 2
 ·rw[cJ small,cJ small];refine aR (bI ?_);rw[StateT.run_pure];refine aR (bI ?_);have ev:((vs.toArray.zip vs.toArray).map λx=>x.2)=eX vs (List.toArray (List.range vs.length)):=by
   unfold eX
   match vs,LI,small with
   |[],_,_=>simp
   |[v],_,_=>simp
   |_::_::_,_,z=>simp at z;lia
  refine aR (seqEpoch_at g6 rfl (aR (listUpdate_at g6 rfl ?_ (hsz2:=?_))))
  ·simp only[bne_self_eq_false,u9,if_false];refine bI ?_;show P (.done (.ret .none)) { s with heap:=h6.update a (Obj.mapSeq λ_=>(vs.toArray.zip vs.toArray).map λx=>x.2) };rw[ev];exact fin _ (Array.Perm.refl _) λi j x y=>by
    have z:i=j:=by lia
    subst z;exact KeyOrd.kle_refl _
  ·show((vs.toArray.zip vs.toArray).map λx=>x.2).size<=_;rw[ev,eX,iL,bK,fc];simp;lia
 ·rw[bV small,bV small];obtain⟨fs,f1,f2,f3⟩:=T6.aQg;refine aR (kat_kind (s:={ s with heap:=h6 }) (T:=.type "int") f1 (by lia) (λv hv=>?_) rfl ?_)
  ·obtain⟨m,u,rfl⟩:=f3 v hv;exact Looks.now
  rw[show(Value.type "int" != Value.type "tuple")=true by decide];refine aR (kb (kat_run (ks:=vs) (vs:=vs) (prog:=prog) (w:=w) (A:=A) (E:=E) (s:={ s with heap:=h6 }) (Q:=λcn s'=>s'={ s with heap:=h6 }/\∃p,p.size=vs.length/\arrOf cn=p.map (kas_item (vs.toArray.zip vs.toArray))/\failedOf cn=none/\Row vs.length p/\Up (O:=vP) (λi=>ts.getD i []) p vs.length)
   (G:=λp s'=>s'={ s with heap:=h6 }/\Row vs.length p/\Up (O:=vP) (λi=>ts.getD i []) p vs.length) rfl (by lia) kn (λp cn s' hz Af hf hG=>⟨hG.1,p,hz,Af,hf,hG.2.1,hG.2.2⟩) (aIL (aLC (s:={ s with heap:=h6 }) T6) (by lia) λp r u=>⟨rfl,r,u⟩)) ?_ λ_ _ e=>e)
  rintro ⟨_,cn⟩ s' ⟨rfl,p,hz,Af,hf,hr,hu⟩;dsimp only at Af hf ⊢;have eo:=kat_snds (ks:=vs) (vs:=vs) rfl Af;refine aR (seqEpoch_at g6 rfl (aR (listUpdate_at g6 rfl ?_ (hsz2:=?_))))
  ·rw[hf];simp only[bne_self_eq_false,u9,if_false];refine bI ?_;show P (.done (.ret .none)) { s with heap:=h6.update a (Obj.mapSeq λ_=>(arrOf cn).map (·.2)) };rw[eo];exact fin p hr hu
  ·show((arrOf cn).map (·.2)).size<=_;rw[eo,iL,bK,jf,hz,fc];lia
end
end L2
namespace L2
open PySem PySem.Spec PySem.W PyProof.Rows
theorem range_getD{α:Type}(d:α)(l:List α):(List.range l.length).map (λi=>l.getD i d)=l:=by
 apply List.ext_getElem
 ·simp
 ·intro i h1 h2;simp[yP,cG h2]
theorem JK:∀{qs:ah}{its:af},Vals (qs.map V.ref) its->its=qs.map Value.ref
 |[],_,r=>by cases r;rfl
 |q::qs,_,r=>by
  cases r with
  |cons h t=>
   cases h;rw[JK t];rfl
theorem oH:∀(qs:ah),Vals (qs.map V.ref) (qs.map Value.ref)
 |[]=>.nil
 |q::qs=>.cons rfl (oH qs)
structure dW(H:Hp)(qs:ah)(ts:az):Prop where
 len:qs.length=ts.length
 at_:∀(j:Nat) q t,qs[j]?=some q->ts[j]?=some t->H q=some (.tup (t.map V.int))/\t≠[]
theorem dW.tail{t:aa}{ts:az}(h:dW H (q::qs) (t::ts)):dW H qs ts:=⟨by have:=h.len;simpa using this,λj a b x y=>h.at_ (j+1) a b x y⟩
theorem dW.rV{s:Shared}(I:Inv X pins σ H s):∀{qs:ah}{ts:az},dW H qs ts->yU s.heap (qs.map Value.ref) ts
 |[],[],_=>.nil
 |[],_::_,h=>by have:=h.len;simp at this
 |_::_,[],h=>by have:=h.len;simp at this
 |q::qs,t::ts,h=>by
  obtain⟨e,ne⟩:=h.at_ 0 q t rfl rfl;obtain⟨_,its,r,o,g1,g2,n,g3⟩:=(show bO X.prog X.w H s.heap q (.tup (t.map V.int)) from I.av q _ e)
  exact .cons g1 g2 g3 (by simpa using iQ r) ne (dW.rV I h.tail)
end L2
namespace L2
open PySem PySem.Spec PyProof.Rows
section
variable{prog:Program}{w:World}{A:Around}{E:aj}{s:Shared}{es:Array DictEntry}{d it vw:Addr}{i ep:Nat}
def Raw(h:Heap)(d:Addr)(es:Array DictEntry)(ep:Nat):Prop:=∃o,h.get? d=some o/\o.cls=.type "dict"/\o.data=.dict es ep
theorem Raw.ty(m:Raw s.heap d es ep):s.TypeIs (.ref d) "dict":=let ⟨o,a,b,_⟩:=m;⟨o,a,b⟩
theorem Raw.keep{h h':Heap}(m:Raw h d es ep)(k:∀o,h.get? d=some o->h'.get? d=some o):Raw h' d es ep:=let ⟨o,a,r⟩:=m;⟨o,k o a,r⟩
theorem aER(d:Addr)(lo:(d == sysModules)=false):MeetsIn prog w (Builtin.«dict.items» ⟨[.ref d],[]⟩) (λ_ R s=>s.TypeIs (.ref d) "dict"/\
  R (.ok (.ret (.ref s.heap.objs.size))) { s with heap:=s.heap.push { cls:=.type "dict_items",data:=.fields #[.ref d] } }):=
 .of_wp λA R s ⟨ty,h⟩=>by
  unfold Builtin.«dict.items»;with_reducible refine aR ?_;unfold Builtin.Dict.noArgs
  refine aR (wpAny_notOrdered_dict ty (show wpAny _ _ (pure d) _ _ s from bI ?_));show wpAny _ _ (Builtin.Dict.showsAll d >>= _) _ _ s;unfold Builtin.Dict.showsAll;rw[bV (λz=>fo (lo.symm.trans z))];refine aR (bI ?_);exact aR (jb (bI (show _ from⟨_,rfl,h⟩)))
theorem aHM(d:Addr)(lo:(d == sysModules)=false):MeetsIn prog w (Builtin.«dict.values» ⟨[.ref d],[]⟩) (λ_ R s=>s.TypeIs (.ref d) "dict"/\
  R (.ok (.ret (.ref s.heap.objs.size))) { s with heap:=s.heap.push { cls:=.type "dict_values",data:=.fields #[.ref d] } }):=
 .of_wp λA R s ⟨ty,h⟩=>by
  refine aR (show _ from ?_);unfold Builtin.Dict.noArgs;refine aR (wpAny_notOrdered_dict ty (show wpAny _ _ (pure d) _ _ s from bI ?_));show wpAny _ _ (Builtin.Dict.showsAll d >>= _) _ _ s;unfold Builtin.Dict.showsAll;rw[bV (λz=>fo (lo.symm.trans z))];refine aR (bI ?_);exact aR (jb (bI (show _ from⟨_,rfl,h⟩)))
theorem yY{Q:aj}(hv:s.heap.IsItemsView vw d)(hm:Raw s.heap d es ep)
  (hQ:Q (.ref s.heap.objs.size) { s with heap:=s.heap.push { cls:=.type "dict_itemiterator",data:=.fields #[.none,.bool false,.ref d,.int 0 0,.int es.size 0,.int ep 0,.none,.none] } }) :
  wpAny (model prog w) A (pyIter (.ref vw)) Q E s:=by
 obtain⟨ov,a1,a2,a3⟩:=id hv;obtain⟨o,b1,b2,b3⟩:=id hm;refine wpAny_pyIter_slot hv.typeIs F.slot_dict_items_iter (ja F.slot_dict_items_iter hv.typeIs F.entry_dict_items_iter (show _ from ?_) (F.args_dict_items_iter_1 _));unfold Builtin.«dict_items.__iter__»;refine aR (bI ?_);with_reducible refine aR ?_
 unfold Builtin.Dict_items.dictOf;refine aR (wpAny_field a1 a3 (x:=.ref d) rfl (bI ?_));with_reducible refine aR ?_
 unfold Builtin.Dict_items.newIterator;refine aR (vk b1 b3 (aR (wz b1 b3 ?_)));have own:Builtin.Dict_items.ownsTuple "dict_itemiterator" = true:=rfl;simp only[own,if_true];refine jb (bI ⟨_,rfl,"dict_itemiterator",_,⟨_,mJ _ rfl,rfl⟩,F.slot_dict_itemiterator_next.lookup,(show _ from ?_)⟩)
  (by simp only[sizeOk,Builtin.Dict_items.ownedTupleFields,iL,uN,yW,Cn,fc];decide)
 simpa [Builtin.Dict_items.ownedTupleFields,rawInt] using hQ
theorem aC9{Q:aj}(hv:s.heap.IsValuesView vw d)(hm:Raw s.heap d es ep)
  (hQ:Q (.ref s.heap.objs.size) { s with heap:=s.heap.push { cls:=.type "dict_valueiterator",data:=.fields #[.ref d,.int 0 0,.int es.size 0,.int ep 0] } }) :
  wpAny (model prog w) A (pyIter (.ref vw)) Q E s:=by
 obtain⟨ov,a1,a2,a3⟩:=id hv;obtain⟨o,b1,b2,b3⟩:=id hm;refine wpAny_pyIter_slot hv.typeIs F.slot_dict_values_iter (ja F.slot_dict_values_iter hv.typeIs F.entry_dict_values_iter (show _ from ?_) (F.args_dict_values_iter_1 _));unfold Builtin.«dict_values.__iter__»;refine aR (bI ?_);with_reducible refine aR ?_
 unfold Builtin.Dict_items.dictOf;refine aR (wpAny_field a1 a3 (x:=.ref d) rfl (bI ?_));with_reducible refine aR ?_
 unfold Builtin.Dict_items.newIterator;refine aR (vk b1 b3 (aR (wz b1 b3 ?_)));have own:Builtin.Dict_items.ownsTuple "dict_valueiterator" = false:=rfl;simp only[own,u9,if_false];refine jb (bI ⟨_,rfl,"dict_valueiterator",_,⟨_,mJ _ rfl,rfl⟩,F.slot_dict_valueiterator_next.lookup,(show _ from ?_)⟩);simpa [rawInt] using hQ
theorem aAG{Q:aj}(lo:(d == sysModules)=false)(hm:Raw s.heap d es ep)
  (hQ:Q (.ref s.heap.objs.size) { s with heap:=s.heap.push { cls:=.type "dict_keyiterator",data:=.fields #[.ref d,.int 0 0,.int es.size 0,.int ep 0] } }) :
  wpAny (model prog w) A (pyIter (.ref d)) Q E s:=by
 obtain⟨o,b1,b2,b3⟩:=id hm;refine wpAny_pyIter_slot hm.ty F.slot_dict_iter (ja F.slot_dict_iter hm.ty F.entry_dict_iter (show _ from ?_) (F.args_dict_iter_1 _));unfold Builtin.«dict.__iter__»;with_reducible refine aR ?_;unfold Builtin.Dict.dictSlotNone
 refine aR (wpAny_notOrdered_dict hm.ty (show wpAny _ _ (pure (Value.ref d)) _ _ s from bI ?_));show wpAny _ _ (Builtin.Dict.showsAll d >>= _) _ _ s;unfold Builtin.Dict.showsAll;rw[bV (λz=>fo (lo.symm.trans z))];refine aR (bI ?_);refine aR (vk b1 b3 (aR (wz b1 b3 ?_)));refine aR (jb (bI ⟨_,rfl,"dict_keyiterator",_,⟨_,mJ _ rfl,rfl⟩,F.slot_dict_keyiterator_next.lookup,(show _ from ?_)⟩));simpa [rawInt] using hQ
def ku(T:String)(h:Heap)(it d:Addr)(i n ep:Nat):Prop:=∃o,h.get? it=some o/\o.cls=.type T/\o.data=.fields #[.ref d,.int i 0,.int n 0,.int ep 0]
theorem ku.ty{n:Nat}(x:ku T s.heap it d i n ep):s.TypeIs (.ref it) T:=let ⟨o,a,b,_⟩:=x;⟨o,a,b⟩
theorem ku.keep{n:Nat}{h h':Heap}(m:ku T h it d i n ep)(k:∀o,h.get? it=some o->h'.get? it=some o):ku T h' it d i n ep:=let ⟨o,a,r⟩:=m;⟨o,k o a,r⟩
theorem ku.turn{n:Nat}{h:Heap}{o:Obj}(a:h.get? it=some o)(b:o.cls=.type T)(c:o.data=.fields #[.ref d,.int i 0,.int n 0,.int ep 0]) :
  ku T (h.update it (Obj.mapFields (·.setIfInBounds 1 (rawInt ((i:Int)+1))))) it d (i+1) n ep:=
 ⟨_,zk _ a (Obj.isFreed_of_fields (Obj.data_mapFields c _)),(Obj.cls_mapFields ..).trans b,by rw[Obj.data_mapFields c];simp[rawInt]⟩
theorem aD7{Q:aq->Shared->Prop}{e:DictEntry}(hit:ku "dict_valueiterator" s.heap it d i es.size ep)(hm:Raw s.heap d es ep)(hx:es[i]?=some e)
  (hQ:∀h',ku "dict_valueiterator" h' it d (i+1) es.size ep->Heap.SameBut it s.heap h'->Q (some e.val) { s with heap:=h' }):wpAny (model prog w) A (pyNext (.ref it)) Q E s:=by
 obtain⟨o,a1,a2,a3⟩:=id hit;obtain⟨od,b1,b2,b3⟩:=id hm;have ty:=hit.ty;unfold pyNext;refine aR (zh (wpAny_callSpecial?_slot (name:=Str.ofString "__next__") ty F.slot_dict_valueiterator_next
  (ja F.slot_dict_valueiterator_next ty F.entry_dict_valueiterator_next (show _ from ?_) (F.args_dict_valueiterator_next_1 _))))
 refine aR (bI ?_);refine aR (show _ from ?_);refine aR (show _ from ?_);first|refine aR (wpAny_typeNameOfWhole_valiter ty (show _ from bI ?_))|refine aR (wpAny_typeNameOf_valiter ty (show _ from bI ?_))
 refine aR (zi a1 a3 (show _ from ?_));have own:Builtin.Dict_items.ownsTuple "dict_valueiterator" = false:=rfl;simp only[own,if_false,u9];show wpAny _ _ (if (Value.ref d == Value.none)=true then _ else _) _ _ s;rw[bV (show ¬((Value.ref d == Value.none)=true) from λz=>nomatch z)];refine aR (bI ?_);refine aR (vk b1 b3 (show _ from ?_));rw[bV (show _ from by simp)];refine aR (bI ?_);refine aR (wz b1 b3 (show _ from ?_));rw[bV (show _ from by simp)];refine bI (show _ from ?_);have il:i < es.size:=(zm.mp hx).1;have ee:es[i]=e:=(zm.mp hx).2;simp only[show ¬((i:Int) < 0) by lia,if_false,pe,hx];refine aR (show _ from ?_);first|refine aR (wpAny_typeNameOfWhole_valiter ty (show _ from bI ?_))|refine aR (wpAny_typeNameOf_valiter ty (show _ from bI ?_))
 refine aR (wpAny_isOneOf_valiter ty (show _ from ?_));show wpAny _ _ (setField (.ref it) 1 (rawInt ((i:Int)+1)) >>= _) _ _ s;refine aR (An a1 a3 (show _ by simp) (show _ from ?_));have t2:=ku.turn a1 a2 a3;refine aR (eh (show _ from ?_));refine aR (wpAny_isOneOf_valiter (s:={ s with heap:=s.heap.update it (Obj.mapFields (·.setIfInBounds 1 (rawInt ((i:Int)+1)))) }) t2.ty (show _ from ?_));refine aR (wpAny_isOneOf_valiter (s:={ s with heap:=s.heap.update it (Obj.mapFields (·.setIfInBounds 1 (rawInt ((i:Int)+1)))) }) t2.ty (show _ from ?_));exact bI (bI ⟨_,rfl,bI (hQ _ t2 (Heap.SameBut.update ..))⟩)
theorem aBX{Q:aq->Shared->Prop}{e:DictEntry}(hit:ku "dict_keyiterator" s.heap it d i es.size ep)(hm:Raw s.heap d es ep)(hx:es[i]?=some e)
  (hQ:∀h',ku "dict_keyiterator" h' it d (i+1) es.size ep->Heap.SameBut it s.heap h'->Q (some e.key) { s with heap:=h' }):wpAny (model prog w) A (pyNext (.ref it)) Q E s:=by
 obtain⟨o,a1,a2,a3⟩:=id hit;obtain⟨od,b1,b2,b3⟩:=id hm;have ty:=hit.ty;unfold pyNext;refine aR (zh (wpAny_callSpecial?_slot (name:=Str.ofString "__next__") ty F.slot_dict_keyiterator_next
  (ja F.slot_dict_keyiterator_next ty F.entry_dict_keyiterator_next (show _ from ?_) (F.args_dict_keyiterator_next_1 _))))
 refine aR (bI ?_);refine aR (show _ from ?_);refine aR (show _ from ?_);first|refine aR (wpAny_typeNameOfWhole_keyiter ty (show _ from bI ?_))|refine aR (wpAny_typeNameOf_keyiter ty (show _ from bI ?_))
 refine aR (zi a1 a3 (show _ from ?_));have own:Builtin.Dict_items.ownsTuple "dict_keyiterator" = false:=rfl;simp only[own,if_false,u9];show wpAny _ _ (if (Value.ref d == Value.none)=true then _ else _) _ _ s;rw[bV (show ¬((Value.ref d == Value.none)=true) from λz=>nomatch z)];refine aR (bI ?_);refine aR (vk b1 b3 (show _ from ?_));rw[bV (show _ from by simp)];refine aR (bI ?_);refine aR (wz b1 b3 (show _ from ?_));rw[bV (show _ from by simp)];refine bI (show _ from ?_);have il:i < es.size:=(zm.mp hx).1;have ee:es[i]=e:=(zm.mp hx).2;simp only[show ¬((i:Int) < 0) by lia,if_false,pe,hx];refine aR (show _ from ?_);first|refine aR (wpAny_typeNameOfWhole_keyiter ty (show _ from bI ?_))|refine aR (wpAny_typeNameOf_keyiter ty (show _ from bI ?_))
 refine aR (wpAny_isOneOf_keyiter ty (show _ from ?_));show wpAny _ _ (setField (.ref it) 1 (rawInt ((i:Int)+1)) >>= _) _ _ s;refine aR (An a1 a3 (show _ by simp) (show _ from ?_));have t2:=ku.turn a1 a2 a3;refine aR (eh (show _ from ?_));refine aR (wpAny_isOneOf_keyiter (s:={ s with heap:=s.heap.update it (Obj.mapFields (·.setIfInBounds 1 (rawInt ((i:Int)+1)))) }) t2.ty (show _ from ?_));exact bI (bI ⟨_,rfl,bI (hQ _ t2 (Heap.SameBut.update ..))⟩)
theorem aFr{Q:aq->Shared->Prop}(hh:A.handled=none)(hit:ku "dict_valueiterator" s.heap it d i es.size ep)(hm:Raw s.heap d es ep)(hx:es.size<=i)
  (hQ:∀h',Heap.ExtBut it s.heap h'->Q none { s with heap:=h' }):wpAny (model prog w) A (pyNext (.ref it)) Q E s:=by
 obtain⟨o,a1,a2,a3⟩:=id hit;obtain⟨od,b1,b2,b3⟩:=id hm;have ty:=hit.ty;unfold pyNext;refine aR (zh (wpAny_callSpecial?_slot (name:=Str.ofString "__next__") ty F.slot_dict_valueiterator_next
  (ja F.slot_dict_valueiterator_next ty F.entry_dict_valueiterator_next (show _ from ?_) (F.args_dict_valueiterator_next_1 _))))
 refine aR (bI ?_);refine aR (show _ from ?_);refine aR (show _ from ?_);first|refine aR (wpAny_typeNameOfWhole_valiter ty (show _ from bI ?_))|refine aR (wpAny_typeNameOf_valiter ty (show _ from bI ?_))
 refine aR (zi a1 a3 (show _ from ?_));have own:Builtin.Dict_items.ownsTuple "dict_valueiterator" = false:=rfl;simp only[own,if_false,u9];show wpAny _ _ (if (Value.ref d == Value.none)=true then _ else _) _ _ s;rw[bV (show ¬((Value.ref d == Value.none)=true) from λz=>nomatch z)];refine aR (bI ?_);refine aR (vk b1 b3 (show _ from ?_));rw[bV (show _ from by simp)];refine aR (bI ?_);refine aR (wz b1 b3 (show _ from ?_));rw[bV (show _ from by simp)];refine bI (show _ from ?_);simp only[show ¬((i:Int) < 0) by lia,if_false,pe,DZ hx];refine aR (show _ from ?_);first|refine aR (wpAny_typeNameOfWhole_valiter ty (show _ from bI ?_))|refine aR (wpAny_typeNameOf_valiter ty (show _ from bI ?_))
 show wpAny _ _ (setField (.ref it) 0 Value.none >>= _) _ _ s;refine aR (An a1 a3 (show _ by simp) (show _ from ?_));show wpAny _ _ (newExc (.type "StopIteration") [] >>= _) _ _ _;refine aR (show _ from ?_);simp only[newExc,newTuple];refine aR (jb (show _ from ?_) (by size_fits));refine aR (m:=firstArgMember _ _) (wpAny_of_eq (a:=Value.none) (show _ by first|rfl|(simp only[firstArgMember];rfl)) (show _ from ?_));refine jb (show _ from ?_) (by size_fits);simp only[raiseNew];refine aR (wpAny_handled (show _ from ?_));rw[show A.in1.handled=none from hh];refine aR (bI (wpAny_throw ?_));refine aR (wpAny_isInstance (T:="StopIteration") (b:=true) ⟨_,mJ _ rfl,rfl⟩ isSubtype_stop (show _ from ?_));exact bI (hQ _ (show _ from((Heap.SameBut.update ..).extBut.push _).push _))
theorem aDa{Q:aq->Shared->Prop}(hh:A.handled=none)(hit:ku "dict_keyiterator" s.heap it d i es.size ep)(hm:Raw s.heap d es ep)(hx:es.size<=i)
  (hQ:∀h',Heap.ExtBut it s.heap h'->Q none { s with heap:=h' }):wpAny (model prog w) A (pyNext (.ref it)) Q E s:=by
 obtain⟨o,a1,a2,a3⟩:=id hit;obtain⟨od,b1,b2,b3⟩:=id hm;have ty:=hit.ty;unfold pyNext;refine aR (zh (wpAny_callSpecial?_slot (name:=Str.ofString "__next__") ty F.slot_dict_keyiterator_next
  (ja F.slot_dict_keyiterator_next ty F.entry_dict_keyiterator_next (show _ from ?_) (F.args_dict_keyiterator_next_1 _))))
 refine aR (bI ?_);refine aR (show _ from ?_);refine aR (show _ from ?_);first|refine aR (wpAny_typeNameOfWhole_keyiter ty (show _ from bI ?_))|refine aR (wpAny_typeNameOf_keyiter ty (show _ from bI ?_))
 refine aR (zi a1 a3 (show _ from ?_));have own:Builtin.Dict_items.ownsTuple "dict_keyiterator" = false:=rfl;simp only[own,if_false,u9];show wpAny _ _ (if (Value.ref d == Value.none)=true then _ else _) _ _ s;rw[bV (show ¬((Value.ref d == Value.none)=true) from λz=>nomatch z)];refine aR (bI ?_);refine aR (vk b1 b3 (show _ from ?_));rw[bV (show _ from by simp)];refine aR (bI ?_);refine aR (wz b1 b3 (show _ from ?_));rw[bV (show _ from by simp)];refine bI (show _ from ?_);simp only[show ¬((i:Int) < 0) by lia,if_false,pe,DZ hx];refine aR (show _ from ?_);first|refine aR (wpAny_typeNameOfWhole_keyiter ty (show _ from bI ?_))|refine aR (wpAny_typeNameOf_keyiter ty (show _ from bI ?_))
 show wpAny _ _ (setField (.ref it) 0 Value.none >>= _) _ _ s;refine aR (An a1 a3 (show _ by simp) (show _ from ?_));show wpAny _ _ (newExc (.type "StopIteration") [] >>= _) _ _ _;refine aR (show _ from ?_);simp only[newExc,newTuple];refine aR (jb (show _ from ?_) (by size_fits));refine aR (m:=firstArgMember _ _) (wpAny_of_eq (a:=Value.none) (show _ by first|rfl|(simp only[firstArgMember];rfl)) (show _ from ?_));refine jb (show _ from ?_) (by size_fits);simp only[raiseNew];refine aR (wpAny_handled (show _ from ?_));rw[show A.in1.handled=none from hh];refine aR (bI (wpAny_throw ?_));refine aR (wpAny_isInstance (T:="StopIteration") (b:=true) ⟨_,mJ _ rfl,rfl⟩ isSubtype_stop (show _ from ?_));exact bI (hQ _ (show _ from((Heap.SameBut.update ..).extBut.push _).push _))
theorem aAH{Q:aq->Shared->Prop}{e:DictEntry}(hit:IsItemIter s.heap it d i es.size ep ok ov)(hm:Raw s.heap d es ep)(hx:es[i]?=some e)(hQ:∀h',IsItemIterOut h' it d (i+1) es.size ep e.key e.val s.heap.objs.size->h'.get? s.heap.objs.size=some { cls:=.type "tuple",data:=.seq #[e.key,e.val] }->
   h'.objs.size=s.heap.objs.size+1->(∀b o,b≠it->s.heap.get? b=some o->h'.get? b=some o)->Q (some (.ref s.heap.objs.size)) { s with heap:=h' }) :
  wpAny (model prog w) A (pyNext (.ref it)) Q E s:=by
 obtain⟨hp,g,dr,tk,os⟩:=s;obtain⟨od,b1,b2,b3⟩:=id hm;have ty:Shared.TypeIs ⟨hp,g,dr,tk,os⟩ (.ref it) "dict_itemiterator":=⟨_,hit,rfl⟩
 unfold pyNext;refine aR (zh (wpAny_callSpecial?_slot (name:=Str.ofString "__next__") ty F.slot_dict_itemiterator_next
  (ja F.slot_dict_itemiterator_next ty F.entry_dict_itemiterator_next (show _ from ?_) (F.args_dict_itemiterator_next_1 _))))
 refine aR (bI ?_);refine aR (show _ from ?_);refine aR (show _ from ?_);first|refine aR (Br ty (show _ from bI ?_))|refine aR (Bq ty (show _ from bI ?_))
 refine aR (zi hit rfl (show _ from ?_));have own:Builtin.Dict_items.ownsTuple "dict_itemiterator" = true:=rfl;simp only[own,if_true];show wpAny _ _ (if (Value.ref d == Value.none)=true then _ else _) _ _ _;rw[bV (show ¬((Value.ref d == Value.none)=true) from λz=>nomatch z)];refine aR (bI ?_);refine aR (vk b1 b3 (show _ from ?_));rw[bV (show _ from by simp)];refine aR (bI ?_);refine aR (wz b1 b3 (show _ from ?_));rw[bV (show _ from by simp)];refine bI (show _ from ?_);simp only[show ¬((i:Int) < 0) by lia,if_false,pe,hx];refine aR (show _ from ?_);first|refine aR (Br ty (show _ from bI ?_))|refine aR (Bq ty (show _ from bI ?_))
 refine aR (wpAny_isOneOf_itemiter ty (show _ from ?_));show wpAny _ _ (setField (.ref it) 3 (rawInt ((i:Int)+1)) >>= _) _ _ _;refine aR (Cp hit (show _ by simp) λj1 c1 d1=>(show _ from ?_))
 replace d1:Heap.SameBut it hp j1:=d1
 replace c1:IsItemIter j1 it d (i+1) es.size ep ok ov:=by
  unfold IsItemIter;rw[show((i+1:Nat):Int)=(i:Int)+1 by lia];simpa [rawInt] using c1
 have BE:Shared.TypeIs ⟨j1,g,dr,tk,os⟩ (.ref it) "dict_itemiterator":=⟨_,c1,rfl⟩
 refine aR (eh (show _ from ?_));refine aR (wpAny_isOneOf_itemiter BE (aR (wpAny_isOneOf_itemiter BE (show _ from ?_))));show wpAny _ _ (Builtin.Dict_items.pairFromOwner (.ref it) 6 e.key e.val) _ _ ⟨j1,g,dr,tk,os⟩;unfold Builtin.Dict_items.pairFromOwner;refine aR (wpAny_newTuple (show _ from ?_));have c2:IsItemIter (j1.push { cls:=.type "tuple",data:=.seq #[e.key,e.val] }) it d (i+1) es.size ep ok ov:=fX _ c1;generalize dk:j1.push { cls:=.type "tuple",data:=.seq #[e.key,e.val] } = j2 at c2;have z1:j1.objs.size=hp.objs.size:=d1.1;have il:it < hp.objs.size:=eB hit;have t2:j2.get? hp.objs.size=some { cls:=.type "tuple",data:=.seq #[e.key,e.val] }:=by rw[<-dk,<-z1];exact mJ _ rfl
 have z2:j2.objs.size=hp.objs.size+1:=by rw[<-dk,vh,z1]
 have k2:∀b o,b≠it->hp.get? b=some o->j2.get? b=some o:=λb o hb q=>by rw[<-dk];exact fX _ (d1.extBut b o hb q)
 show wpAny _ _ (Builtin.Dict_items.ownedTupleIsFree (.ref it) >>= _) _ _ ⟨j2,g,dr,tk,os⟩;rw[z1];clear dk c1 d1 BE z1 j1;refine aR (show _ from ?_);unfold Builtin.Dict_items.ownedTupleIsFree;refine aR (wpAny_field c2 rfl (x:=.none) rfl (show _ from bI ?_));simp only[if_true];refine aR (wpAny_field c2 rfl (x:=ok) rfl (aR (wpAny_field c2 rfl (x:=ov) rfl (show _ from ?_))));refine aR (Cp c2 (show _ by simp) λj3 c3 d3=>(show _ from ?_))
 replace d3:Heap.SameBut it j2 j3:=d3;replace c3:IsItemIter j3 it d (i+1) es.size ep e.key ov:=c3
 refine aR (Cp c3 (show _ by simp) λj4 c4 d4=>(show _ from ?_))
 replace d4:Heap.SameBut it j3 j4:=d4;replace c4:IsItemIter j4 it d (i+1) es.size ep e.key e.val:=c4
 refine aR (Cp c4 (show _ by simp) λj5 c5 d5=>(show _ from ?_))
 replace d5:Heap.SameBut it j4 j5:=d5;replace c5:IsItemIterOut j5 it d (i+1) es.size ep e.key e.val hp.objs.size:=c5
 refine aR (Cp c5 (show _ by simp) λj6 c6 d6=>(show _ from ?_))
 replace d6:Heap.SameBut it j5 j6:=d6;replace c6:IsItemIterOut j6 it d (i+1) es.size ep e.key e.val hp.objs.size:=c6
 have up:∀b o,b≠it->j2.get? b=some o->j6.get? b=some o:=λb o hb q=>d6.extBut b o hb (d5.extBut b o hb (d4.extBut b o hb (d3.extBut b o hb q)));refine aR (wpAny_letGo (bI (bI ⟨_,rfl,bI (hQ j6 c6 (up _ _ (je il) t2) ?_ λb o hb q=>up b o hb (k2 b o hb q))⟩)));show j6.objs.size=_;rw[d6.1,d5.1,d4.1,d3.1,z2]
theorem aBY{Q:aq->Shared->Prop}(hh:A.handled=none)(hit:IsItemIter s.heap it d i es.size ep ok ov)(hm:Raw s.heap d es ep)(hx:es.size<=i)(hQ:∀h',Heap.ExtBut it s.heap h'->Q none { s with heap:=h' }):wpAny (model prog w) A (pyNext (.ref it)) Q E s:=by
 obtain⟨od,b1,b2,b3⟩:=id hm;have ty:s.TypeIs (.ref it) "dict_itemiterator":=⟨_,hit,rfl⟩
 unfold pyNext;refine aR (zh (wpAny_callSpecial?_slot (name:=Str.ofString "__next__") ty F.slot_dict_itemiterator_next
  (ja F.slot_dict_itemiterator_next ty F.entry_dict_itemiterator_next (show _ from ?_) (F.args_dict_itemiterator_next_1 _))))
 refine aR (bI ?_);refine aR (show _ from ?_);refine aR (show _ from ?_);first|refine aR (Br ty (show _ from bI ?_))|refine aR (Bq ty (show _ from bI ?_))
 refine aR (zi hit rfl (show _ from ?_));have own:Builtin.Dict_items.ownsTuple "dict_itemiterator" = true:=rfl;simp only[own,if_true];show wpAny _ _ (if (Value.ref d == Value.none)=true then _ else _) _ _ _;rw[bV (show ¬((Value.ref d == Value.none)=true) from λz=>nomatch z)];refine aR (bI ?_);refine aR (vk b1 b3 (show _ from ?_));rw[bV (show _ from by simp)];refine aR (bI ?_);refine aR (wz b1 b3 (show _ from ?_));rw[bV (show _ from by simp)];refine bI (show _ from ?_);simp only[show ¬((i:Int) < 0) by lia,if_false,pe,DZ hx];refine aR (show _ from ?_);first|refine aR (Br ty (show _ from bI ?_))|refine aR (Bq ty (show _ from bI ?_))
 show wpAny _ _ (setField (.ref it) 2 Value.none >>= _) _ _ s;refine aR (An hit rfl (show _ by simp) (show _ from ?_));show wpAny _ _ (newExc (.type "StopIteration") [] >>= _) _ _ _;refine aR (show _ from ?_);simp only[newExc,newTuple];refine aR (jb (show _ from ?_) (by size_fits));refine aR (m:=firstArgMember _ _) (wpAny_of_eq (a:=Value.none) (show _ by first|rfl|(simp only[firstArgMember];rfl)) (show _ from ?_));refine jb (show _ from ?_) (by size_fits);simp only[raiseNew];refine aR (wpAny_handled (show _ from ?_));rw[show A.in1.handled=none from hh];refine aR (bI (wpAny_throw ?_));refine aR (wpAny_isInstance (T:="StopIteration") (b:=true) ⟨_,mJ _ rfl,rfl⟩ isSubtype_stop (show _ from ?_));exact bI (hQ _ (show _ from((Heap.SameBut.update ..).extBut.push _).push _))
end
section
variable{X:Cx}{pins:ao}{σ:St}{H:Hp}{s:Shared}
theorem Inv.Pc(I:Inv X pins σ H s)(e:H d=some (.dT kvs))(ho:s.heap.get? d=some o):Inv X pins σ (upd H d (.bu o (.dT kvs))) s:=by
 have nd:∀b u,H b=some u->u≠.dT kvs->b≠d:=λb u q n z=>by rw[z,e] at q;exact n (Option.some.inj q).symm
 refine I.step (h':=s.heap) (g':=s.gens) (d':=s.drawn) (t':=s.toks) (ch:=[]) (λ_ z=>nomatch z) (λb u _ _ _ q _=>q) (λb u _ _ _ q _=>⟨u.slots,q⟩) (λb u _ _ n=>?_)
  (λb u _ q=>⟨u,q⟩) (λb xs q=>?_) (λb u v q=>?_) (λb ps q=>⟨#[],?_⟩) (λm hm=>hm) (λb u q=>?_) I.bare
 ·rw[aS (λz=>by rw[z,e] at n;cases n)];exact n
 ·rw[aS (nd _ _ q (λz=>by cases z))];exact q
 ·rw[aS (nd _ _ q (λz=>by cases z))];exact q
 ·rw[aS (nd _ _ q (λz=>by cases z)),q];simp
 ·have st:∀c v,H c=some v->bO X.prog X.w H s.heap c v->bO X.prog X.w (upd H d (.bu o (.dT kvs))) s.heap c v:=λc v _ z=>
   z.vf (λ_ _ _ z=>z) (λc z=>by rw[aS (nd _ _ z (λy=>by cases y))];exact z) λc xs t z=>by rw[aS (nd _ _ z (λy=>by subst y;exact t))];exact z
  by_cases hb:b=d
  ·subst hb;rw[aP] at q;cases q;exact⟨ho,st b _ e (I.av b _ e)⟩
  ·rw[aS hb] at q;exact st b u q (I.av b u q)
end
theorem Cj{H:Hp}:∀{kvs:List (List Key×V)}{xs:List (List Key×Addr×Value)},KT H kvs xs->∀{i:Nat}{p:List Key×V},kvs[i]?=some p->∃q,xs[i]?=some q/\H q.2.1=some (.tup (p.1.map kV))/\RelV p.2 q.2.2
 |[],_,r,i,p,h=>by simp at h
 |a::as,_,r,i,p,h=>by
  cases r with
  |cons x t=>
   cases i with
   |zero=>cases h;exact⟨_,rfl,x.2⟩
   |succ i=>exact Cj t (i:=i) h
theorem qO{h:Heap}{kvs:List (List Key×V)}(x:bO P w H h d (.dT kvs)):(d == sysModules)=false/\∃(o:Obj) (es:Array DictEntry) (ep:Nat) (xs:List (List Key×Addr×Value)),
  h.get? d=some o/\o.ExactDict/\o.data=.dict es ep/\KT H kvs xs/\es.toList=xs.map (entryOfKey (tupleKind (cB P w)))/\es.size=kvs.length:=by
 obtain⟨z,y,xs,r,o,es,ep,h1,h2,h3,h4,h5⟩:=x;refine⟨y,o,es,ep,xs,h1,h2,h3,r,h4,?_⟩;rw[size_of_entries h4];exact(Paired.length r).symm
def Cu(d:Addr)(o:Obj)(kvs:List (List Key×V)):It:=
 ⟨λi H=>H d=some (.bu o (.dT kvs))/\i < kvs.length,λi H x H'=>∃T b kv,H T=none/\x=.ref T/\kvs[i]?=some kv/\H b=some (.tup (kv.1.map kV))/\H'=upd H T (.tup [.ref b,kv.2]),λi H=>H d=some (.bu o (.dT kvs))/\kvs.length<=i⟩
theorem aCs:entryFor table "dict_itemiterator.__iter__" = some Builtin.«dict_keyiterator.__iter__»:=PySem.entryFor_alias (id':="dict_keyiterator.__iter__") (by kernel_rfl) rfl (by decide +kernel) (show _ by kernel_rfl)
theorem aHN{P:Program}{w:World}{K:PySem.W.Frag}{elts:List Expr}{x1:Nat}{tp:Pos}(d it:Addr)(o:Obj)(kvs:List (List Key×V))(es:Array DictEntry)(ep:Nat)(AZ:o.cls=.type "dict")(tj:o.data=.dict es ep)(hn:es.size=kvs.length) :
  Turn P w K (.Tuple elts x1 tp) (Cu d o kvs) [it] it (λi h=>∃ok ov,IsItemIter h it d i es.size ep ok ov) where
 mem:=by simp
 obj:=λi h st b hb=>by
  obtain⟨ok,ov,he⟩:=st;have z:b=it:=by simpa using hb
  subst z;exact⟨_,he,λv z=>by cases z⟩
 keep:=λi h h' st k=>by
  obtain⟨ok,ov,he⟩:=st;exact⟨ok,ov,k it (by simp) _ he⟩
 item:=by
  intro X hP hw hK hc i pins s σ H E I hf st hg;subst hP hw hK;obtain⟨ok,ov,he⟩:=st;obtain⟨hd,hi⟩:=hg;have hO:bO X.prog X.w H s.heap d (.bu o (.dT kvs)):=I.av d _ hd;obtain⟨ho,hO⟩:=hO;obtain⟨lo,o',es',uy,xs,g1,g2,g3,rel,g4,g5⟩:=qO hO;have eo:o'=o:=Option.some.inj (g1.symm.trans ho);subst eo;have ee:es'=es/\uy=ep:=by rw[tj] at g3;injection g3 with a b;exact⟨a.symm,b.symm⟩
  obtain⟨e1,e2⟩:=ee;subst e1 e2;have raw:Raw s.heap d es' uy:=⟨o',ho,AZ,tj⟩
  have hx:kvs[i]?=some kvs[i]:=cG hi;obtain⟨q,hq,hb,rv⟩:=Cj rel hx;have hex:es'[i]?=some (entryOfKey (tupleKind (cB X.prog X.w)) q):=by rw[entry_at g4,hq];rfl
  have AI:it < s.heap.objs.size:=eB he;refine aAH he raw hex λh1 uw hT hsz hk=>?_;refine⟨_,rfl,wpAny_letOwnedTupleGo_items uw λh2 Mb kl=>?_⟩
  replace kl:Heap.SameBut it h1 h2:=kl
  have B0:h2.IsTuple s.heap.objs.size #[.ref q.2.1,q.2.2]:=⟨_,(kl.2 _ (je AI)).trans hT,rfl,_,rfl⟩
  have kk:∀b o,b∉[it]->s.heap.get? b=some o->h2.get? b=some o:=λb o hb q=>by
   have n1:b≠it:=λz=>hb (by simp[z]);exact(kl.2 b n1).trans (hk b o n1 q)
  have I2:Inv X pins σ (upd H s.heap.objs.size (.tup [.ref q.2.1,kvs[i].2])) { s with heap:=h2,toks:=s.toks }:=
   I.aEN kk hf (d7 _) (show bO X.prog X.w _ h2 _ (.tup [.ref q.2.1,kvs[i].2]) from⟨bZ (by simp),[.ref q.2.1,q.2.2],.cons rfl (.cons rv .nil),B0⟩)
  have uu:H s.heap.objs.size=none:=I.av.fresh (d7 _);refine⟨.ref s.heap.objs.size,_,I2,rfl,⟨_,q.2.1,kvs[i],uu,rfl,hx,hb,rfl⟩,⟨_,_,Mb⟩,λb hb=>?_⟩;have z:b=it:=by simpa using hb
  subst z;rw[aS (gM AI)];exact(hf b (by simp)).1
 done:=by
  intro X hP hw hK hc i pins s σ H E I hf st hg;subst hP hw hK;obtain⟨ok,ov,he⟩:=st;obtain⟨hd,hi⟩:=hg;have hO:bO X.prog X.w H s.heap d (.bu o (.dT kvs)):=I.av d _ hd;obtain⟨f0,f1,f2,f3,f4,f5⟩:=hf it (by simp);exact aBY (I.ok.hd hc) he ⟨o,hO.1,AZ,tj⟩ (by lia) λh' eb=>⟨rfl,I.turned (t':=s.toks) (λb o hb e=>eb b o hb e) f0 f1 f3 f4 f5⟩
 self:=λ_ _ _ _ _ st h=>by
  obtain⟨ok,ov,he⟩:=st;refine wpAny_pyIter_slot ⟨_,he,rfl⟩ F.slot_dict_itemiterator_iter (ja F.slot_dict_itemiterator_iter ⟨_,he,rfl⟩ aCs ?_ (F.args_dict_itemiterator_iter_1 _));exact bI ⟨_,rfl,"dict_itemiterator",_,⟨_,he,rfl⟩,F.slot_dict_itemiterator_next.lookup,h⟩
section
variable{X:Cx}{elts:List Expr}{x1:Nat}{tp:Pos}
def QN(R:It->Hp->Prop):V->Hp->Prop:=λx H1=>∃d kvs,x=.ref d/\H1 d=some (.dT kvs)/\∀o,R (Cu d o kvs) (upd H1 d (.bu o (.dT kvs)))
def O1(td:TE):TI:=λσ H R=>td σ H (QN R)
theorem aLD{o:Expr}{td:TE}{apos aw:Pos}(ho:PE X o td)(bg:attributeBase o "items" X.env (eval o X.env)=eval o X.env:=by rfl)(bc:(apos.endLine == aw.line)=true:=by rfl) :
  PI X (.Tuple elts x1 tp) (.Call (.Attribute o "items" apos) [] [] aw) (O1 td):=by
 intro pins s σ H R I h;refine wpAny_Call_method (T:="dict") (id:="dict.items") bg rfl bc PySem.F.plainAttrs_dict PySem.F.slot_dict_items PySem.F.type_dict_items (dP (ho pins s σ H _ I h) λv s1 zq=>?_);obtain⟨x,H1,I1,r1,q1⟩:=zq;obtain⟨d,kvs,e,hd,q⟩:=q1;subst e;cases r1;obtain⟨lo,ob,es,ep,xs,g1,g2,g3,rel,g4,g5⟩:=qO (show bO X.prog X.w H1 s1.heap d (.dT kvs) from I1.av d _ hd);have raw:Raw s1.heap d es ep:=⟨ob,g1,g2.1,g3⟩
 refine⟨raw.ty,λb z=>by cases z;exact⟨ob,g1,g2.2.1⟩,?_⟩;refine method_meetsIn PySem.F.slot_dict_items PySem.F.entry_dict_items rfl (PySem.evalArgs_none ⟨rfl,raw.ty,PySem.F.args_dict_items_1 _,_,aER d lo,raw.ty,?_⟩);have I2:=I1.Pc hd g1;show wpAny _ _ (pyIter (.ref s1.heap.objs.size)) _ _ _;refine yY (s:={ s1 with heap:=s1.heap.push { cls:=.type "dict_items",data:=.fields #[.ref d] } }) ⟨_,mJ _ rfl,rfl,rfl⟩ (raw.keep λo e=>fX _ e) ?_;have hk:∀b u,s1.heap.get? b=some u->((s1.heap.push { cls:=.type "dict_items",data:=.fields #[.ref d] }).push { cls:=.type "dict_itemiterator",data:=.fields #[.none,.bool false,.ref d,.int 0 0,.int es.size 0,.int ep 0,.none,.none] }).get? b=some u:=
  λb u e=>fX _ (fX _ e)
 refine⟨_,[(s1.heap.push { cls:=.type "dict_items",data:=.fields #[.ref d] }).objs.size],_,_,_,rfl,I2.kept (t':=s1.toks) hk,aHN d _ ob kvs es ep g2.1 g3 g5,⟨_,_,mJ _ rfl⟩,λb hb=>?_,q ob⟩;have e:b=(s1.heap.push { cls:=.type "dict_items",data:=.fields #[.ref d] }).objs.size:=by simpa using hb
 have hle:s1.heap.objs.size<=b:=by rw[e,vh];exact Nat.le_succ _
 exact I2.Ai hle (I2.av.fresh hle)
end
section
variable{σ:St}{H:Hp}{nx:St->Hp->Prop}{rt:VK}{g:TG}{tb:TS}
theorem aJP{R:It->Hp->Prop}(h:td σ H (QN R)):O1 td σ H R:=h
theorem aOA{R:It->Hp->Prop}(h1:H d=some (.dT kvs))(h:∀o,R (Cu d o kvs) (upd H d (.bu o (.dT kvs)))):QN R (.ref d) H:=⟨d,kvs,rfl,h1,h⟩
theorem aLE{kvs:List (List Key×V)}(Pv:Nat->St->Hp->Prop)(h0:Pv 0 σ H)(hl:∀i σ H,i<=kvs.length->Pv i σ H->H d=some (.bu o (.dT kvs)))(hs:∀i kv σ H T b,kvs[i]?=some kv->Pv i σ H->H T=none->H b=some (.tup (kv.1.map kV))->g (.ref T) σ (upd H T (.tup [.ref b,kv.2])) λσ2 H2=>tb ⟨Pv (i+1),rt,nx,Pv (i+1)⟩ σ2 H2)(hd:∀σ H,Pv kvs.length σ H->nx σ H) :
  ∃W:Nat->Nat->St->Hp->Prop,(∃m,W 0 m σ H)/\∀i m σ H,W i m σ H->
   ((Cu d o kvs).stop i H/\nx σ H)\/((Cu d o kvs).go i H/\∃N:St->Hp->Prop,(∀σ' H',N σ' H'->∃m',m' < m/\W (i+1) m' σ' H')/\∀x H',(Cu d o kvs).sk i H x H'->g x σ H' λσ2 H2=>tb ⟨N,rt,nx,N⟩ σ2 H2):=by
 refine⟨λi m σ H=>m=kvs.length - i/\i<=kvs.length/\Pv i σ H,⟨kvs.length,by simp,dz _,h0⟩,?_⟩;rintro i m σ H ⟨rfl,hi,p⟩;have q:=hl i σ H hi p;by_cases br:i < kvs.length
 ·refine .inr ⟨⟨q,br⟩,Pv (i+1),λσ' H' p'=>⟨kvs.length - (i+1),by lia,rfl,br,p'⟩,λx H' y=>?_⟩;obtain⟨T,b,kv,hT,e1,hk,hb,e2⟩:=y;subst e1 e2;exact hs i kv σ H T b hk p hT hb
 ·have e:i=kvs.length:=by lia
  subst e;exact .inl ⟨⟨q,d7 _⟩,hd σ H p⟩
end
section
variable{X:Cx}{ek ev:Expr}{tk tv:TE}{pos:Pos}
theorem aJQ{A:Around}{E:aj}{kvs:List (List Key×V)}{k:List Key}{Q:Unit->Shared->Prop}(hu:A.units < cLine)(I:Inv X pins σ H s)(e:H a=some (.dT kvs))(eb:H b=some (.tup (k.map kV)))(l:kvs.length < sizeLine)(rv:RelV v r)(h:∀s',Inv X pins σ (upd H a (.dT (putK kvs k v))) s'->Q () s') :
  wpAny (model X.prog X.w) A (dictSet a (.ref b) r) Q E s:=by
 obtain⟨z,hd,xs,rel,dd⟩:=aOw I.av e;have hz:xs.length<=sizeLine:=by rw[<-Paired.length rel];exact z
 have hl:(putK kvs k v).length<=sizeLine:=by have:=lB kvs k v;lia
 refine wpAny_dictSet_heap (hsz:=hz) hu (vI I.av eb) dd λh' Dt hs=>h _ ?_;obtain⟨q,es,ep,hq,h2,h3,h4,_,h5⟩:=Dt;refine Pf I (by rw[e];exact True.intro) hs ⟨q,hq⟩ ⟨hl,hd,_,(rel.put k eb rv).keeps λc ys ec=>?_,q,es,ep,hq,h2,h3,h4,h5⟩;rw[aS (aOq ec e (λz=>nomatch z))];exact ec
def O0(tk tv:TE):TE:=λσ H Q=>∀d,H d=none->tk σ (upd H d (.dT [])) λy H1=>tv σ H1 λv H2=>∃b k,y=.ref b/\H2 b=some (.tup (k.map kV))/\H2 d=some (.dT [])/\Q (.ref d) (upd H2 d (.dT [(k,v)]))
theorem aLF(hu:X.A.units < cLine)(hk:PE X ek tk)(hv:PE X ev tv):PE X (.Dict [some ek] [ev] pos) (O0 tk tv):=by
 intro pins s σ H Q I h;have hn:H s.heap.objs.size=none:=I.av.fresh (d7 _);have I0:Inv X pins σ (upd H s.heap.objs.size (.dT [])) { s with heap:=s.heap.push { cls:=.type "dict",data:=.dict #[] } }:=I.laid (a:=s.heap.objs.size) (o:=.dT []) (t':=s.toks) (λ_ _ q=>fX _ q) (d7 _) (aGo s.heap I.big);refine wpAny_Dict_any rfl rfl (by simp) (by simp) ?_;refine pairTrees_cons_walk (dP (hk pins _ σ _ _ I0 (h _ hn)) λu s1 ⟨y,H1,I1,r1,q1⟩=>dP (hv pins s1 σ H1 _ I1 q1) λv s2 ⟨x,H2,I2,r2,q2⟩=>pairTrees_nil_walk ?_);obtain⟨b,k,e,eb,ed,q⟩:=q2;subst e;cases r1;unfold storeAll;simp only[List.forIn_cons,List.forIn_nil];refine aR (aR (aJQ hu I2 ed eb (by rw[fc];decide) r2 λs3 I3=>?_));exact bI (bI ⟨.ref _,_,I3,rfl,q⟩)
end
end L2
namespace L2
section
variable{σ:St}{H:Hp}{Q:VK}
theorem aLG{tk:TE}(h:∀d,H d=none->tk σ (upd H d (.dT [])) λy H1=>tv σ H1 λv H2=>∃b k,y=.ref b/\H2 b=some (.tup (k.map kV))/\H2 d=some (.dT [])/\Q (.ref d) (upd H2 d (.dT [(k,v)]))):O0 tk tv σ H Q:=h
theorem aLH{ty:TE}(h:td σ H λx H1=>∃a,x=.ref a/\Bt H1 a/\ty σ H1 λy H2=>tx σ H2 λz H3=>∃o,jU H3 a y o/\Q (o.getD z) H3):O6 td ty tx σ H Q:=h
end
end L2
namespace L2.Z
open PySem PySem.Spec PyProof.Rows L2
section
variable{X:Cx}{o e f ek ev:Expr}{td ty tx tk tv:TE}{pos apos aw tp:Pos}{elts:List Expr}{x1:Nat}
theorem aBZ(ho:QE X o td)(bg:attributeBase o "items" X.env (eval o X.env)=eval o X.env:=by rfl)(bc:(apos.endLine == aw.line)=true:=by rfl) :
  QI X (.Tuple elts x1 tp) (.Call (.Attribute o "items" apos) [] [] aw) (O1 td):=⟨L2.aLD ho.h bg bc⟩
theorem aGF(hu:X.A.units+9 < cLine)(hk:QE X ek tk)(hv:QE X ev tv):QE X (.Dict [some ek] [ev] pos) (O0 tk tv):=⟨L2.aLF (by lia) hk.h hv.h⟩
theorem aGG(hu:X.A.units+9 < cLine)(ho:QE X o td)(he:QE X e ty)(hf:QE X f tx)(base:attributeBase o "get" X.env (eval o X.env)=eval o X.env:=by rfl)
  (yT:((backTo aw (starEach [e,f] X.env)).all (λx=>!x.1) && (backToKw aw (keywordEach [] X.env)).all (λx=>x.1.isSome)
   && decide (([e,f]:List Expr).length+([]:List Keyword).length+(if ([]:List Keyword).isEmpty then 0 else 1) < 30))=true:=by rfl)
  (line:(apos.endLine == aw.line)=true:=by rfl) (trees:backTo aw (starEach [e,f] X.env)=[(false,eval e X.env),(false,eval f X.env)]:=by rfl) :
  QE X (.Call (.Attribute o "get" apos) [e,f] [] aw) (O6 td ty tx):=⟨L2.aKX (by lia) ho.h he.h hf.h ⟨base,yT,line,trees⟩⟩
end
end L2.Z
namespace L2
open PySem PySem.Spec PyProof.Rows
def KA(d:Addr)(o:Obj)(kvs:List (List Key×V)):It:=
 ⟨λi H=>H d=some (.bu o (.dT kvs))/\i < kvs.length,λi H x H'=>H'=H/\∃b kv,kvs[i]?=some kv/\x=.ref b/\H b=some (.tup (kv.1.map kV)),λi H=>H d=some (.bu o (.dT kvs))/\kvs.length<=i⟩
theorem aHQ{P:Program}{w:World}{K:PySem.W.Frag}{tg:Expr}(d it:Addr)(o:Obj)(kvs:List (List Key×V))(es:Array DictEntry)(ep:Nat)(AZ:o.cls=.type "dict")(tj:o.data=.dict es ep)(hn:es.size=kvs.length) :
  Turn P w K tg (KA d o kvs) [it] it (λi h=>ku "dict_keyiterator" h it d i es.size ep) where
 mem:=by simp
 obj:=λi h st b hb=>by
  have z:b=it:=by simpa using hb
  subst z;obtain⟨u,e,c,q⟩:=st;exact⟨u,e,λv z=>by rw[q] at z;cases z⟩
 keep:=λi h h' st k=>st.keep λu e=>k it (by simp) u e
 item:=by
  intro X hP hw hK hc i pins s σ H E I hf st hg;subst hP hw hK;obtain⟨hd,hi⟩:=hg;have hO:bO X.prog X.w H s.heap d (.bu o (.dT kvs)):=I.av d _ hd;obtain⟨ho,hO⟩:=hO;obtain⟨lo,o',es',uy,xs,g1,g2,g3,rel,g4,g5⟩:=qO hO;have eo:o'=o:=Option.some.inj (g1.symm.trans ho);subst eo;have ee:es'=es/\uy=ep:=by rw[tj] at g3;injection g3 with a b;exact⟨a.symm,b.symm⟩
  obtain⟨e1,e2⟩:=ee;subst e1 e2;have raw:Raw s.heap d es' uy:=⟨o',ho,AZ,tj⟩
  have hx:kvs[i]?=some kvs[i]:=cG hi;obtain⟨q,hq,hb,rv⟩:=Cj rel hx;have hex:es'[i]?=some (entryOfKey (tupleKind (cB X.prog X.w)) q):=by rw[entry_at g4,hq];rfl
  obtain⟨f0,f1,f2,f3,f4,f5⟩:=hf it (by simp);refine aBX st raw hex λh' cn sb=>?_;have I1:Inv X pins σ H { s with heap:=h' }:=I.turned (t':=s.toks) (λb u hb e=>(sb.2 b hb).trans e) f0 f1 f3 f4 f5;obtain⟨u,e',c',d'⟩:=id cn;exact⟨_,rfl,DG (s:={ s with heap:=h' }) e' c' d' (by decide) ⟨.ref q.2.1,H,I1,rfl,⟨rfl,q.2.1,kvs[i],hx,rfl,hb⟩,cn,λb hb=>(hf b hb).1⟩⟩
 done:=by
  intro X hP hw hK hc i pins s σ H E I hf st hg;subst hP hw hK;obtain⟨hd,hi⟩:=hg;have hO:bO X.prog X.w H s.heap d (.bu o (.dT kvs)):=I.av d _ hd;obtain⟨f0,f1,f2,f3,f4,f5⟩:=hf it (by simp);exact aDa (I.ok.hd hc) st ⟨o,hO.1,AZ,tj⟩ (by lia) λh' eb=>⟨rfl,I.turned (t':=s.toks) (λb o hb e=>eb b o hb e) f0 f1 f3 f4 f5⟩
 self:=λ_ _ _ _ _ st h=>wpAny_pyIter_keyiter st h
section
variable{X:Cx}{tg:Expr}
def QU(R:It->Hp->Prop):V->Hp->Prop:=λx H1=>∃d kvs,x=.ref d/\H1 d=some (.dT kvs)/\∀o,R (KA d o kvs) (upd H1 d (.bu o (.dT kvs)))
def OZ(tl:TE):TI:=λσ H R=>tl σ H (QU R)
theorem aLI{l:Expr}{tl:TE}(hl:PE X l tl):PI X tg l (OZ tl):=by
 intro pins s σ H R I h;refine dP (hl pins s σ H _ I h) λv s1 zq=>?_;obtain⟨x,H1,I1,r1,q1⟩:=zq;obtain⟨d,kvs,e,hd,q⟩:=q1;subst e;cases r1;obtain⟨lo,ob,es,ep,xs,g1,g2,g3,rel,g4,g5⟩:=qO (show bO X.prog X.w H1 s1.heap d (.dT kvs) from I1.av d _ hd);have raw:Raw s1.heap d es ep:=⟨ob,g1,g2.1,g3⟩
 have I2:=I1.Pc hd g1;refine aAG lo raw ?_;refine⟨s1.heap.objs.size,[s1.heap.objs.size],_,_,_,rfl,I2.kept (t':=s1.toks) λb u e=>fX _ e,aHQ d _ ob kvs es ep g2.1 g3 g5,⟨_,mJ _ rfl,rfl,rfl⟩,λb hb=>?_,q ob⟩;have e:b=s1.heap.objs.size:=by simpa using hb
 subst e;exact I2.Ai (d7 _) (I2.av.fresh (d7 _))
end
section
variable{σ:St}{H:Hp}{Q:VK}{nx:St->Hp->Prop}{rt:VK}{g:TG}{tb:TS}
theorem aJR{R:It->Hp->Prop}(h:tl σ H (QU R)):OZ tl σ H R:=h
theorem aRv{R:It->Hp->Prop}(h1:H d=some (.dT kvs))(h:∀o,R (KA d o kvs) (upd H d (.bu o (.dT kvs)))):QU R (.ref d) H:=⟨d,kvs,rfl,h1,h⟩
theorem aLJ(h:td σ H λx H1=>ty σ H1 λy H2=>∃a v,x=.ref a/\jU H2 a y (some v)/\Q v H2):OD td ty σ H Q:=h
theorem jU.f{k:List Key}(e:H a=some (.bu o (.dT kvs)))(eb:H b=some (.tup (k.map kV))):jU H a (.ref b) (rJ kvs k):=.inr ⟨kvs,k,b,.inr ⟨o,e⟩,rfl,eb,rfl⟩
end
end L2
namespace L2.Z
open PySem PySem.Spec PyProof.Rows L2
section
variable{X:Cx}{o i l tg:Expr}{td ty tl:TE}{pos:Pos}
theorem aGH(hl:QE X l tl):QI X tg l (OZ tl):=⟨L2.aLI hl.h⟩
theorem eM(hu:X.A.units+9 < cLine)(ho:QE X o td)(hi:QE X i ty)(hs:NN i:=by intro _ _;rfl):QE X (.Subscript o i pos) (OD td ty):=⟨L2.aNd (by lia) ho.h hi.h hs⟩
end
end L2.Z
namespace L2
open PySem PySem.Spec PyProof.Rows
section
open PySem.SeqAt
open PySem.AutoSeq1 (wpAny_loadPart')
open PySem.MeetsSeq PySem.MeetsSeq2 PySem.MeetsSeq3
end
structure xg(P:Program)(w:World)(K:W.Frag)(mg:Str->aq)(base:Heap)(k:Nat)(f:Addr)(sp:Sp):Prop where
 ex:∃(o:Obj) (fd:FuncData) (ps:ak),base.get? f=some o/\o.data=.func fd/\cE P w K mg base hU k f fd ps sp/\∀(s:Shared) (us:af),us.length=ps.length->BindsTo s fd ⟨us,[]⟩ (ps.zip us)
abbrev DC(q:Str)(params:Arguments)(body:Expr)(scope:Scope)(cl:List (Str×Addr))(pm cd ct:Value):FuncData:=
  { name := "<lambda>", qualname := q, params, body := .expr body, scope, globals := mainGlobals, closure := cl, defaults := .none, kwdefaults := .none, doc := .none, pyModule := pm, annotations := none, code := cd, closureTuple := ct, builtins := builtinsNs }
abbrev vQ(q:Str)(scope:Scope)(L f:Addr)(cd:Value)(cl:List (Str×Addr)):Env:=
 { scope:=scope,locals:=L,globals:=mainGlobals,cells:=cl,qual:=q ++ ".<locals>.",func:=some f,code:=cd,frame:=some L,builtins:=builtinsNs }
def EW(P:Program)(w:World)(K:W.Frag)(mg:Str->aq)(base:Heap)(N:ak)(q:Str)(scope:Scope)(f:Addr)(cd:Value)(cl:List (Str×Addr))(A:Around)(outer:List Env)(s:Shared)(H:Hp):Cx where
 prog:=P
 w:=w
 K:=K
 mg:=mg
 base:=base
 A:=A.deeper (vQ q scope s.heap.objs.size f cd cl)
 N:=N
 s₀:=s
 qd:=H
 env:=vQ q scope s.heap.objs.size f cd cl
 outer:=outer
 stack:=vQ q scope s.heap.objs.size f cd cl::outer
 ex:=[]
 calm:=true
 fn:=λ_=>false
 pn:=[]
 xe:=λ_ _=>False
structure NI(base:Heap)(scope:Scope)(N ps:ak)(cl:List (Str×Addr))(di:St):Prop where
 kind:scope.kind=.function
 co:scope.isCoroutine=false
 gen:scope.isGenerator=false
 cq:∀y∈scope.names,y.2≠.cell
 pre:N.take ps.length=ps
 nd:N.Nodup
 len:N.length=ps.length+di.length
 par:∀x∈ps,scope.names.lookup x=some .local
 inj:∀x y c,cl.lookup x=some c->cl.lookup y=some c->x=y
 has:∀x,scope.names.lookup x=some .free->∃c,cl.lookup x=some c
 all:∀x c,cl.lookup x=some c->∃o v,base.get? c=some o/\o.data=.cell v
 di:∀(i:Nat) x v,(N.drop ps.length)[i]?=some x->di[i]?=some (some v)->scope.names.lookup x=some .free/\∃u c o,RelV v u/\cl.lookup x=some c/\base.get? c=some o/\o.data=.cell (some u)
theorem aIM:∀{l:List (Str×Value)},(l.map (·.1)).Nodup->(x,v)∈l->l.lookup x=some v
 |[],_,h=>by cases h
 |(y,u)::r,nd,h=>by
  rw[iq];rcases lQ.mp h with e|h'
  ·cases e;rw[beq_self_eq_true]
  ·have ne:x≠y:=λz=>by
    subst z;exact(ni.mp nd).1 (mD.mpr ⟨(x,v),h',rfl⟩)
   rw[beq_eq_false_iff_ne.mpr ne];exact aIM (ni.mp nd).2 h'
theorem aNT:∀{P:ak}{us:af}{i:Nat},P.Nodup->P[i]?=some x->us[i]?=some v->P.length=us.length->(P.zip us).reverse.lookup x=some v:=by
 intro P us i nd h1 h2 hl;have hm:(x,v)∈(P.zip us).reverse:=by
  rw[List.mem_reverse];refine iI (i:=i) ?_;rw[Qx];exact⟨h1,h2⟩
 refine aIM ?_ hm;rw[List.map_reverse,J0 (Fx hl)];exact List.pairwise_reverse.mpr (nd.imp λh=>Ne.symm h)
def Jk(c:Addr)(q:Str)(n:Nat)(tl:TE)(di:St):Sp:=λws H Q _=>H c=some (.va q)/\ws.length=n/\tl (ws.map some++di) H Q
theorem aHS{P:Program}{w:World}{K:W.Frag}{mg:Str->aq}{base:Heap}{N ps:ak}{q:Str}{scope:Scope}{f:Addr}{cd:Value}{cl:List (Str×Addr)}{di:St}{A:Around}{outer:List Env}{s:Shared}{H:Hp}{us:af}{vs:List V}{h':Heap}{tk:Nat}
  (S:NI base scope N ps cl di) (hd:A.handled=none) (e0:ze P w K mg base A outer s H) (hl:vs.length=ps.length) (r:Vals vs us)
  (Ae:h'.Ns s.heap.objs.size λx=>(ps.zip us).reverse.lookup x) (hk:∀b o,s.heap.get? b=some o->h'.get? b=some o) :
  Inv (EW P w K mg base N q scope f cd cl A outer s H) [] (vs.map some++di) H { s with heap:=h',toks:=tk }:=by
 have vt:∀b:Addr,b∉(EW P w K mg base N q scope f cd cl A outer s H).ex:=λb z=>absurd (show b∈([]:ah) from z) (by simp);refine⟨⟨e0.mod,S.kind,rfl,rfl,d7 _,S.inj,λy hy=>?_,λy c z _=>(by cases z),λ_=>hd,Around.frames_deeper e0.frames,.inr ⟨rfl,rfl⟩,λb z=>absurd z (vt b),e0.bs,e0.vb,λb _ _=>vt b,λb z=>absurd z (vt b),e0.yS,e0.zb⟩,
  rfl,e0.bare,Un.kept hk,⟨_,Ae,λi y v h1 h2 h3=>?_⟩,λy c h=>?_,e0.av.fresh (d7 _),λy c h=>?_,λp hp=>absurd (show p∈([]:ao) from hp) (by simp),e0.av.kept hk,?_⟩
 ·have hy:scope.names.lookup y=some .cell\/scope.names.lookup y=some .free:=hy;rcases hy with hy|hy
  ·exact absurd rfl (S.cq _ (PySem.mem_of_lookup hy))
  ·exact S.has y hy
 ·have oj:N[i]?=some y:=h1;by_cases hi:i < ps.length
  ·rw[kr (by rw[bK];lia),hE] at h2;obtain⟨v',Ac,e⟩:=yQ.mp h2;cases e;obtain⟨u,hu,rv⟩:=r.get Ac;have hp:ps[i]?=some y:=by rw[<-S.pre,Qv hi];exact oj
   have HA:ps.Nodup:=by rw[<-S.pre];exact S.nd.sublist (List.take_sublist _ _)
   refine⟨u,rv,.inl ⟨S.par y (iI hp),?_⟩⟩;exact aNT HA hp hu (by rw[<-hl];exact r.length)
  ·obtain⟨j,rfl⟩ : ∃j,i=ps.length+j:=⟨i - ps.length,by lia⟩
   rw[nu (by rw[bK];lia),bK,hl,Nat.add_sub_cancel_left] at h2;obtain⟨hf,u,c,o,rv,ec,eo,ed⟩:=S.di j y v (by rw[FC];exact oj) h2;exact⟨u,rv,.inr ⟨.inr hf,c,ec,o,hk _ _ (e0.bs c o eo).1,ed⟩⟩
 ·obtain⟨o,v,eo,ed⟩:=S.all y c h;exact⟨v,o,hk _ _ (e0.bs c o eo).1,ed⟩
 ·obtain⟨o,v,eo,ed⟩:=S.all y c h;exact(e0.bs c o eo).2
 ·show _=N.length;rw[uN,bK,hl,S.len]
theorem aQi{P:Program}{w:World}{K:W.Frag}{mg:Str->aq}{base:Heap}{k:Nat}{f c:Addr}{q:Str}{params:Arguments}{body:Expr}{scope:Scope}{cl:List (Str×Addr)}{pm ct:Value}{N ps:ak}{di:St}{tl:TE}{o:Obj}
  (hf:base.get? f=some o) (ho:o.data=.func (DC q params body scope cl pm (.ref c) ct)) (S:NI base scope N ps cl di)
  (cw:∀(A:Around) (outer:List Env) (s:Shared) (H:Hp),eS k (A.deeper (vQ q scope s.heap.objs.size f (.ref c) cl))->PE (EW P w K mg base N q scope f (.ref c) cl A outer s H) body tl) :
  cE P w K mg base hU (k+1) f (DC q params body scope cl pm (.ref c) ct) ps (Jk c q ps.length tl di):=by
 refine⟨λvs H Q E h=>h.2.1,λA outer s H args us vs Q E hr e0 hb r gh=>?_⟩;obtain⟨Xe,hl,hq⟩:=gh;have lim:s.heap.NoLimit:=e0.mod.nolimit.keeps λb o e=>(e0.bs b o e).1;have ft:s.heap.CodeRec (.ref c) q:=by
  obtain⟨oc,vc,t,z1,z2,z3⟩:=e0.av c _ Xe;exact⟨c,oc,vc,t,rfl,z1,z2,z3⟩
 refine PySem.W.kla_callFunE hr.depth (e0.bs f _ hf).1 ho S.co S.gen rfl ft (hb _ _ _ _ ?_);refine wpAny_newFunctionEnv S.cq (λy hy=>?_) (λh₁ Ae hsb=>⟨lim.fresh _ hsb,?_⟩) S.kind
 ·obtain⟨n,v⟩:=y;exact S.par n (Fy hy).1
 show codeAny _ _ (.expr body (vQ q scope s.heap.objs.size f (.ref c) cl)) _ _;have GY:∀b o,s.heap.get? b=some o->h₁.get? b=some o:=λb o e=>hsb.extBut b o (gM (eB e)) (fX _ e);refine PySem.W.kla_codeExpr ?_;have I:=aHS (tk:=s.toks+(ps.zip us).length) (q:=q) (f:=f) (cd:=.ref c) S hr.hd e0 hl r Ae GY;refine kb (cw A outer s H (hr.deeper _) [] _ _ H _ I hq) (λu s' hs=>?_) λe s' hs=>hs.elim;obtain⟨v,H',J,rv,z⟩:=hs;exact⟨v,H',J.os,J.bare,J.base,J.av,rv,z⟩
def Ah(base h:Heap)(Z:ah):Heap:=PySem.W.hideAll h ((List.range h.objs.size).filter λa=>!((base.get? a).isSome || Z.contains a))
theorem vR{base h:Heap}(e:h.get? b=some o)(z:(∃u,base.get? b=some u)\/b∈Z):(Ah base h Z).get? b=some o:=by
 refine PySem.W.hideAll_get _ e λhm=>?_;have q:=(xa.mp hm).2;rcases z with ⟨u,z⟩|z
 ·rw[z] at q;simp at q
 ·rw[show Z.contains b=true from List.elem_iff.mpr z] at q;simp at q
theorem aIO{base h:Heap}(e:(Ah base h Z).get? b=some o):h.get? b=some o/\((∃u,base.get? b=some u)\/b∈Z):=by
 have e':h.get? b=some o:=PySem.W.of_hideAll _ e;refine⟨e',?_⟩;cases q1:base.get? b with
 |some u=>exact .inl ⟨u,rfl⟩
 |none=>
  cases q2:Z.contains b with
  |true=>exact .inr (List.elem_iff.mp q2)
  |false=>
   have hm:b∈(List.range h.objs.size).filter λa=>!((base.get? a).isSome || Z.contains a):=xa.mpr ⟨zU.mpr (eB e'),by rw[q1,q2];rfl⟩;have z:(Ah base h Z).get? b=none:=PySem.W.hideAll_none _ hm;rw[z] at e;cases e
theorem Mod.keeps{K:W.Frag}{mg:Str->aq}{base bo:Heap}(M:Mod K mg base)(k:∀b o,base.get? b=some o->bo.get? b=some o):Mod K mg bo:=
 ⟨M.BQ.keeps k,M.glob.keeps k,(let ⟨mb,h1,h2⟩:=M.blt;⟨mb,h1.keeps k,h2⟩),M.nolimit.keeps k,let ⟨bm,o,e1,e2,e3,r⟩:=M.bm;⟨bm,o,e1,e2,k _ _ e3,r⟩⟩
theorem aHT{h:Heap}(hl:h.FunFrames base l)(hz:∀b∈jn l,b∉Z):h.FunFrames (Ah base h Z) l:=by
 induction l with
 |nil=>trivial
 |cons env rest ih=>
  obtain⟨hk,⟨L,o,hf,hn,ho,hd⟩,hr⟩:=hl;have hL:L∈jn (env::rest):=by unfold jn;rw[DY,hf];exact jc
  refine⟨hk,⟨L,o,hf,?_,ho,hd⟩,ih hr λb hb=>hz b (by unfold jn;rw[DY,hf];exact fh _ hb)⟩;cases q:(Ah base h Z).get? L with
  |none=>rfl
  |some u=>
   rcases(aIO q).2 with ⟨v,z⟩|z
   ·rw[hn] at z;cases z
   ·exact absurd z (hz L hL)
section
variable{X:Cx}{pins:ao}{σ:St}{H:Hp}{s:Shared}{c Pt:Addr}{q:Str}{params:Arguments}{body:Expr}{scope:Scope}{pos cg:Pos}{cl:List (Str×Addr)}
theorem aLK{Q:aj}(I:Inv X pins σ H s)(js:X.env.code=.ref c)(hC:PySem.W.codeHdIn X.K c Pt=true)(hT:H Pt=some (.gi pos q))(hq:X.env.qual ++ "<lambda>" = q)(xu:defaultsOf params X.env=([],[]))(my:closureFor scope X.env=pure cl)
  (h:∀(f c':Addr) (pm ct:Value) (o:Obj) (H':Hp) (s':Shared),Inv X pins σ H' s'->aO H H'->s'.heap.get? f=some o->o.data=.func (DC q params body scope cl pm (.ref c') ct)->H' f=none->H' c'=some (.va q)->s.heap.objs.size<=f->Q (.ref f) s') :
  wpAny (model X.prog X.w) X.A (eval (.Lambda params body scope pos) X.env) Q X.xe s:=by
 obtain⟨ps,eP,ht,hc⟩:=I.av Pt _ hT;have hg:s.heap.Ns mainGlobals X.mg:=I.mod.glob.keeps I.bk;have hgP:mainGlobals≠Pt:=λz=>by
  obtain⟨o,es,ep,e,hd,_⟩:=hg;rw[z,eP] at e;cases e;cases hd
 have hb:s.heap.BuiltinsAt X.mg Pt:=by
  obtain⟨bm,o,e1,e2,e3,e4,e5,e6⟩:=I.mod.bm;have ET:=I.bk _ _ e3;refine⟨bm,o,e1,e2,λz=>?_,λz=>?_,ET,e4,e5,e6⟩
  ·obtain⟨o',es,ep,e,hd,_⟩:=hg;rw[z,e] at ET;cases ET;rw[hd] at e6;cases e6
  ·rw[z,eP] at ET;cases ET;cases e4
 have hCd:PySem.W.CodeHd s.heap c Pt:=PySem.W.codeHd_of_K I.uP hC;refine PySem.W.kla_eval xu ?_;rw[hq];rcases hc with hn|⟨c',hs,ft⟩
 ·refine PySem.W.kla_makeFunction (mg:=X.mg) (P:=Pt) (c:=c) (ps:=ps) my I.ok.glob hg js hCd eP ht hn hgP hb λc' IE h' tk hx HV br WY HN=>?_;have BV:H c'=none:=I.av.fresh HV;have Eo:∀b o,b≠Pt->s.heap.get? b=some o->(h'.push (PySem.W.kla_obj "<lambda>" q params body scope cl ((X.mg "__name__").getD .none) c' IE)).get? b=some o:=λb o n e=>fX _ (hx b o n e);have np:∀b,H b=none->b≠Pt:=λb n z=>by rw[z,hT] at n;cases n
  have ncP:c'≠Pt:=np c' BV;refine h h'.objs.size c' _ IE _ (upd H c' (.va q)) _ (I.step (h':=h'.push _) (g':=s.gens) (d':=s.drawn) (t':=tk) (ch:=[]) (λ_ z=>nomatch z) (λb o _ _ _ e n=>Eo b o (np b n) e) (λb o _ _ _ e n=>⟨o.slots,Eo b o (np b n) e⟩)
   (λb o _ e n=>by rw[aS (gM (rT (eB e) HV))];exact n) (λb o _ e=>?_) (λb xs e=>by rw[aS (bM e BV)];exact e) (λb o u e=>by rw[aS (bM e BV)];exact e)
   (λb ps e=>⟨#[],by rw[aS (bM e BV),e];simp⟩) (λm hm=>hm.extBut (b:=Pt) Eo (np _ I.free)) (λb u e=>?_) I.bare) (aO.new BV) (mJ _ rfl) rfl ?_ aP (gj HV (zg br))
  ·by_cases EA:b=Pt
   ·subst EA;exact⟨_,fX _ HN⟩
   ·exact⟨o,Eo b o EA e⟩
  ·by_cases hbc:b=c'
   ·subst hbc;rw[aP] at e;cases e;obtain⟨c2,oc,vs,t,z1,z2,z3,z4⟩:=WY;cases z1;exact⟨oc,vs,t,fX _ z2,z3,z4⟩
   ·rw[aS hbc] at e;by_cases EA:b=Pt
    ·subst EA;rw[hT] at e;cases e;refine⟨_,fX _ HN,?_,.inr ⟨c',?_,aP⟩⟩
     ·rw[Array.toList_append];exact TriplesOk_snoc _ _ _ _ ht
     ·rw[Array.toList_append];exact codeAmong_snoc _ ht hn
    ·refine(I.av b u e).vf (λd v hd z=>Eo d v ?_ z) (λd z=>by rw[aS (bM z BV)];exact z) λd xs _ z=>by rw[aS (bM z BV)];exact z
     rcases hd with z|z
     ·rw[z];exact EA
     ·intro y;rw[y,hT] at z;cases z
  ·rw[aS (je br)];exact I.av.fresh (gj HV (zg br))
 ·refine PySem.W.kla_makeFunctionHit (mg:=X.mg) (P:=Pt) (c:=c) (ps:=ps) my I.ok.glob hg js hCd eP ht hs hb λIE h' tk hk hsz=>?_;exact h h'.objs.size c' _ IE _ H _ (I.kept λb u e=>fX _ (hk b u e)) (aO.refl _) (mJ _ rfl) rfl (I.av.fresh hsz) ft hsz
def FO(X:Cx)(es:List Expr)(params:Arguments)(body:Expr)(scope:Scope)(cg:Pos)(Pt:Addr)(q:Str)(cl:List (Str×Addr))(t:TA):Prop:=
 ∀(pos:Pos) (pins:ao) (s:Shared) (σ:St) (H:Hp) (Q:List V->Hp->Prop),Inv X pins σ H s->t σ H (λvs H1=>H1 Pt=some (.gi cg q)/\Q vs H1)->
  wpAny (model X.prog X.w) X.A (spliced (backTo pos (starEach es X.env))) (λus s'=>∃(vs:List V) (yl:af) (f c':Addr) (pm ct:Value) (o:Obj) (H1 H2:Hp),us=yl ++ [.ref f]/\Vals vs yl/\Inv X pins σ H2 s'/\aO H1 H2/\
   s'.heap.get? f=some o/\o.data=.func (DC q params body scope cl pm (.ref c') ct)/\H2 f=none/\H2 c'=some (.va q)/\f∉jn X.stack/\Q vs H1) X.xe s
theorem aLL(js:X.env.code=.ref c)(hC:PySem.W.codeHdIn X.K c Pt=true)(hq:X.env.qual ++ "<lambda>" = q)(xu:defaultsOf params X.env=([],[])){n:Nat}{idx:List Nat}(S:eJ X scope N n idx) :
  FO X [.Lambda params body scope cg] params body scope cg Pt q (lC X.env scope.names []) rZ:=by
 intro pos pins s σ H Q I h;obtain⟨hT,hQ⟩:=h;show wpAny _ _ (spliced ((false,eval (.Lambda params body scope cg) X.env)::backTo pos (starEach [] X.env))) _ _ s;refine Calls.spliced_cons (aLK I js hC hT hq xu (sA (S.cells I)) λf c' pm ct o H' s' I' sm e1 e2 e3 e4 e5=>?_);refine Calls.spliced_nil ⟨[],[],f,c',pm,ct,o,H,H',rfl,.nil,I',sm,e1,e2,e3,e4,λz=>?_,hQ⟩;obtain⟨_,o',e,_⟩:=I.stack.mem z;exact absurd (rT (eB e) e5) (ko _)
theorem aLM(ha:PE X e te)(hr:FO X es params body scope cg Pt q cl t)(hs:starEach (e::es) X.env=(false,eval e X.env)::starEach es X.env:=by rfl) :
  FO X (e::es) params body scope cg Pt q cl (cD te t):=by
 intro pos pins s σ H Q I h;rw[hs];show wpAny _ _ (spliced ((false,eval e X.env)::backTo pos (starEach es X.env))) _ _ s;refine Calls.spliced_cons (dP (ha pins s σ H _ I h) λu s1 zq=>?_);obtain⟨x,H1,I1,r1,q1⟩:=zq;refine dP (hr pos pins s1 σ H1 (λvs H2=>Q (x::vs) H2) I1 q1) λus s2 zq=>?_;obtain⟨vs,yl,f,c',pm,ct,o,H2,H3,e0,r,I3,sm,e1,e2,e3,e4,e5,hQ⟩:=zq;exact⟨x::vs,u::yl,f,c',pm,ct,o,H2,H3,by rw[e0];rfl,.cons r1 r,I3,sm,e1,e2,e3,e4,e5,hQ⟩
def OY(Pt:Addr)(cg:Pos)(q:Str)(sp:(Addr->Sp->Prop)->Sp)(n:Nat)(tl:TE)(idx:List Nat)(t:TA):TE:=λσ H Q=>t σ H λvs H1=>H1 Pt=some (.gi cg q)/\
 ∀(f c':Addr) (H2:Hp) (C:Addr->Sp->Prop),aO H1 H2->H2 c'=some (.va q)->C f (Jk c' q n tl (idx.map λj=>(σ[j]?).join))->sp C (vs ++ [.ref f]) H2 Q E0
theorem aLN{f:Addr}{fd:FuncData}{ps psL N:ak}{idx:List Nat}{sp:(Addr->Sp->Prop)->Sp}{k kc:Nat}{x:Str}{p:Pos}{e:Expr}{es:List Expr}{t:TA}{tl:TE}
  (F:∀bo:Heap,cE X.prog X.w X.K X.mg bo hU k f fd ps (sp (xg X.prog X.w X.K X.mg bo (kc+1)))) (hr:eS k X.A) (hg:Gl X x) (hm:X.mg x=some (.ref f)) (hk:W.keepIn X.K (.ref f)=true) (hb:Binds X.K fd ps [])
  (qh:∀y,X.fn y=true) (S:eJ X scope N psL.length idx) (mj:N.take psL.length=psL) (CJ:psL.all (λx=>scope.names.lookup x == some .local)=true) (Me:scope.isCoroutine=false) (CO:scope.isGenerator=false)
  (iu:∀(cl:List (Str×Addr)) (pm cd ct:Value) (us:af),us.length=psL.length->bindArgs (DC q params body scope cl pm cd ct) ⟨us,[]⟩=pure (psL.zip us))
  (ha:FO X (e::es) params body scope cg Pt q (lC X.env scope.names []) t)
  (cw:∀(bo:Heap) (f' c':Addr) (cl:List (Str×Addr)) (A:Around) (outer:List Env) (s:Shared) (H:Hp),eS kc (A.deeper (vQ q scope s.heap.objs.size f' (.ref c') cl))->PE (EW X.prog X.w X.K X.mg bo N q scope f' (.ref c') cl A outer s H) body tl)
  (dv:(x == ("__debug__" : Str))=false:=by decide) (he:starEach (e::es) X.env=(false,eval e X.env)::starEach es X.env:=by rfl) (oi:(backTo pos (starEach es X.env)).any (·.1)=false:=by rfl) :
  PE X (.Call (.Name x p) (e::es) [] pos) (OY Pt cg q sp psL.length tl idx t):=by
 intro pins s σ H Q I h;refine wpAny_Call_Name_kw (JP I hg hm ?_ dv);refine PySem.W.callWith_K (h₀:=X.base) I.ok.mod.BQ hk (dP (ha pos pins s σ H _ I h) λus s1 zq=>?_) he oi;obtain⟨vs,yl,fl,c',pm,ct,o,H1,H2,e0,r,I2,sm,e1,e2,e3,e4,e5,hQ⟩:=zq;refine⟨I2.uP,?_⟩;subst e0;generalize my:lC X.env scope.names []=cl at *
 have AK:=S.cells I2;have NA:∀{y:Str} {d:Addr},cl.lookup y=some d->X.env.cells.lookup y=some d:=λ{y d} z=>mM AK (by rw[my];exact z)
 have Ly:∀{y:Str} {d:Addr},(y,NameKind.free)∈scope.names->X.env.cells.lookup y=some d->cl.lookup y=some d:=λ{y d} h1 h2=>by rw[<-my];exact vJ AK h1 h2
 have inZ:∀{y:Str} {d:Addr},cl.lookup y=some d->d∈fl::cl.map (·.2):=λ{y d} z=>fh _ (mD.mpr ⟨(y,d),PySem.mem_of_lookup z,rfl⟩)
 have Gb:∀d,d∈cl.map (·.2)->∃y,X.env.cells.lookup y=some d:=λd z=>by
  obtain⟨⟨y,d'⟩,hm,e⟩:=mD.mp z;have e':d'=d:=e;subst e';rw[<-my] at hm;rcases JY _ _ AK hm with q|q
  ·cases q
  ·exact⟨y,q⟩
 have GS:∀b u,X.base.get? b=some u->(Ah X.base s1.heap (fl::cl.map (·.2))).get? b=some u:=λb u z=>vR (I2.bk b u z) (.inl ⟨u,z⟩);have GP:∀b∈jn X.stack,b∉fl::cl.map (·.2):=λb hb z=>by
  rcases lQ.mp z with rfl|z
  ·exact e5 hb
  ·obtain⟨y,hy⟩:=Gb b z;rcases lQ.mp (I2.Fn b hb) with q|q
   ·exact I2.A2 y b hy q
   ·obtain⟨_,ob,eo,_⟩:=I2.ok.yS.mem q;exact absurd (rT (eB eo) (I2.ok.A3 y b (qh y) hy)) (ko _)
 have E5:ze X.prog X.w X.K X.mg (Ah X.base s1.heap (fl::cl.map (·.2))) X.A X.stack s1 H2:=by
  refine⟨I2.ok.frames,I2.ok.mod.keeps GS,λb u z=>?_,Fx (PySem.W.hideAll_size _ _),aHT I2.stack GP,I2.Pk,I2.av,I2.bare⟩;obtain⟨z1,z2⟩:=aIO z;refine⟨z1,?_⟩;rcases z2 with ⟨u',z2⟩|z2
  ·exact(I2.bs b u' z2).2
  ·rcases lQ.mp z2 with rfl|z2
   ·exact e3
   ·obtain⟨y,hy⟩:=Gb b z2;exact I2.cj y b hy
 have Zp:NI (Ah X.base s1.heap (fl::cl.map (·.2))) scope N psL cl (idx.map λj=>(σ[j]?).join):=by
  refine⟨S.kind,Me,CO,S.cq,mj,S.nd,by rw[bK];exact S.len,λy hy=>?_,λy z d h1 h2=>I2.ok.inj y z d (NA h1) (NA h2),λy hy=>?_,λy d hy=>?_,λi y v h1 h2=>?_⟩
  ·have:=nj.mp CJ y hy;simpa using this
  ·have Gi:=PySem.mem_of_lookup hy;obtain⟨d,hd⟩:=AK _ Gi rfl;exact⟨d,Ly Gi hd⟩
  ·obtain⟨v,oc,eo,ed⟩:=I2.cell y d (NA hy);exact⟨oc,v,vR eo (.inr (inZ hy)),ed⟩
  ·obtain⟨j,z1,z2,z3⟩:=S.di i y h1;refine⟨z3,?_⟩;rw[hE,z1] at h2;have HZ:(σ[j]?).join=some v:=Option.some.inj h2;have uw:σ[j]?=some (some v):=by
    cases qj:σ[j]? with
    |none=>rw[qj] at HZ;cases HZ
    |some w=>rw[qj] at HZ;rw[show w=some v from HZ]
   have df:=PySem.mem_of_lookup z3;have rn:=S.free _ df rfl;obtain⟨m0,hn0,HS⟩:=I2.loc;obtain⟨u,ru,l⟩:=HS j y v z2 uw (by rcases rn with z|z;exact .inr (.inl z);exact .inr (.inr z));rcases l with ⟨z,_⟩|⟨_,d,ed,oc,eo,dd⟩
   ·rcases rn with w|w
    ·rw[w] at z;cases z
    ·rw[w] at z;cases z
   ·exact⟨u,d,oc,ru,Ly df ed,vR eo (.inr (inZ (Ly df ed))),dd⟩
 have V7:=aQi (P:=X.prog) (w:=X.w) (K:=X.K) (mg:=X.mg) (N:=N) (ps:=psL) (vR e1 (.inr jc)) e2 Zp (cw _ fl c' cl);have hC:xg X.prog X.w X.K X.mg (Ah X.base s1.heap (fl::cl.map (·.2))) (kc+1) fl (Jk c' q psL.length tl (idx.map λj=>(σ[j]?).join)):=
  ⟨o,_,psL,vR e1 (.inr jc),e2,V7,λs us hl=>.of_eq (iu cl pm (.ref c') ct us hl)⟩
 have gh:=hQ fl c' H2 _ sm e4 hC;have r2:Vals (vs ++ [.ref fl]) (yl ++ [.ref fl]):=r.append (.cons rfl .nil);have hl:(yl ++ [Value.ref fl]).length=ps.length:=by rw[<-r2.length];exact(F _).len _ _ _ _ gh
 have jx:=hb s1 (yl ++ [.ref fl]) I2.uP (by rw[oz];exact hl);rw[oz] at jx;refine wpAny_call (codeAny_mono ((F _).run X.A X.stack s1 H2 ⟨yl ++ [.ref fl],[]⟩ (yl ++ [.ref fl]) (vs ++ [.ref fl]) Q E0 hr E5 jx r2 gh) λr s' hq=>?_);cases r with
 |error e=>exact False.elim hq
 |ok fl=>
  cases fl with
  |ret u=>exact I2.after hq
  |next=>exact False.elim hq
  |brk=>exact False.elim hq
  |cont=>exact False.elim hq
def Jt(C:Addr->Sp->Prop)(i:Nat)(t:TA):TE:=λσ H Q=>∃f sp,σ[i]?=some (some (.ref f))/\C f sp/\t σ H λvs H1=>sp vs H1 Q E0
theorem PC{i k:Nat}(hN:X.N[i]?=some x)(hv:Bf X.env.scope x)(hr:eS k X.A)(ha:PA X (e::es) t)(hd:(x == ("__debug__" : Str))=false:=by decide)(ft:(x == ("__classdict__" : Str))=false:=by decide)(he:starEach (e::es) X.env=(false,eval e X.env)::starEach es X.env:=by rfl)(oi:(backTo pos (starEach es X.env)).any (·.1)=false:=by rfl) :
  PE X (.Call (.Name x p) (e::es) [] pos) (Jt (xg X.prog X.w X.K X.mg X.base k) i t):=by
 intro pins s σ H Q I h;obtain⟨f,sp,ei,hC,ht⟩:=h;obtain⟨o,fd,ps,ef,ed,F,hb⟩:=hC.ex;refine wpAny_Call_Name_kw (dP (OW hN hv hd ft pins s σ H (λv H'=>v=.ref f/\H'=H) I ⟨_,ei,rfl,rfl⟩) λu s0 ⟨v,H0,I0,rv,hvf,hH0⟩=>?_);subst hvf hH0;obtain rfl:u=Value.ref f:=rv;have dt:∀{jr σ' H' s'},Inv X jr σ' H' s'->W.Frag.In [(f,o)] s'.heap:=λ{jr σ' H' s'} J a u z=>by
  rw[iq] at z;split at z
  ·rename_i hb;cases z;rw[eq_of_beq hb];exact J.bk _ _ ef
  ·cases z
 have BW:W.keepIn [(f,o)] (.ref f)=true:=by
  obtain⟨oc,od,Lc,nz⟩:=o;have:Lc=.func fd:=ed;subst this;have z:List.lookup f [(f,({ cls:=oc,dict:=od,data:=.func fd,slots:=nz }:Obj))]=some { cls:=oc,dict:=od,data:=.func fd,slots:=nz }:=by rw[iq,beq_self_eq_true]
  unfold W.keepIn;dsimp only;rw[z]
 refine PySem.W.callWith_K (h₀:=s0.heap) (dt I0) BW (dP (ha pos pins s0 σ H0 _ I0 ht) λus s1 zq=>?_) he oi;obtain⟨vs,H1,I1,r,q⟩:=zq;refine⟨dt I1,?_⟩;have hl:us.length=ps.length:=by rw[<-r.length];exact F.len _ _ _ _ q
 refine wpAny_call (codeAny_mono (F.run X.A X.stack s1 H1 ⟨us,[]⟩ us vs Q E0 hr I1.E5 (hb s1 us hl) r q) λr s' hq=>?_);cases r with
 |error e=>exact False.elim hq
 |ok fl=>
  cases fl with
  |ret u=>exact I1.after hq
  |next=>exact False.elim hq
  |brk=>exact False.elim hq
  |cont=>exact False.elim hq
end
structure IT(K:W.Frag)(fd:FuncData)(c Pt:Addr):Prop where
 code:fd.code=.ref c
 hd:PySem.W.codeHdIn K c Pt=true
theorem jQ.Lb{P:Program}{w:World}{K:W.Frag}{mg:Str->aq}{base:Heap}{x qual:Str}{st:Stmt}{f c Pt:Addr}{fd:FuncData}{N ps:ak}{k:Nat}{sp:Sp}(F:jQ K x qual st f fd)(hc:IT K fd c Pt)(S:bC N ps (aL st))(len:∀vs H Q E,sp vs H Q E->vs.length=ps.length)
  (cw:∀(A:Around) (outer:List Env) (s:Shared) (H:Hp) (vs:List V) (Q:VK) (E:XK),eS k (A.deeper (envOfC qual (aL st) s.heap.objs.size f (.ref c)))->sp vs H Q E->
   ∃t,ph (B9 hU P w K mg base N qual (aL st) f (.ref c) A outer s H E).C9 (j0 st) t/\t { nx:=λ_ H'=>Q .ba H',rt:=Q } (start N vs) H):cE P w K mg base hU (k+1) f fd ps sp:=by
 obtain⟨oc,od,kV,doc,pm,an,bh,ct,nz,rfl,lk,ft⟩:=F.ex;obtain rfl:bh=.ref c:=hc.code;refine aOs lk ft S len λA outer s H vs Q E hr gh=>?_;obtain⟨t,h,q⟩:=cw A outer s H vs Q E hr gh;exact⟨t,h.C9,q⟩
theorem aET{β:Type}{p:β}:∀{l:List (Addr×β)},l.lookup b=some p->(b,p)∈l
 |[],h=>by cases h
 |(d,x)::r,h=>by
  rw[iq] at h;cases hb:b == d with
  |true=>rw[hb] at h;cases h;rw[eq_of_beq hb];exact .head _
  |false=>rw[hb] at h;exact .tail _ (aET h)
theorem aJS{K:PySem.W.Frag}{mg mb:Str->aq}{k:Nat}{sp:Sp}{au:Shared}{vs:af}{ns:aa}{tabs:List (Addr×Pos×Str)}(KX:K.In au.heap)(Ae:au.heap.Ns mainGlobals mg)(hb:au.heap.Ns builtinsNs mb)(Mg:∀x:Str,x≠"__name__"->mb x=bootBuiltins x)(CL:au.heap.NoLimit)(Mf:∃bm o,mg "__builtins__" = some (.ref bm)/\bm≠builtinsNs/\au.heap.get? bm=some o/\o.cls=.type "module"/\o.dict=some builtinsNs/\o.data=.plain)(hg:au.gens = #[])(ha:au.heap.get? a=some { cls:=.type "list",data:=.seq vs.toArray })(hi:IntsAre vs ns)(hl:ns.length<=sizeLine)(hr:eS k callerA)(hT:∀t∈tabs,au.heap.get? t.1=some { cls:=.none,data:=.fields #[] }/\K.lookup t.1=none/\∃c,PySem.W.codeHdIn K c t.1=true)(mw:(tabs.map (·.1)).Nodup)(F:∀base:Heap,K.In base->base.Ns mainGlobals mg->cE P w K mg base hU k fa fd [x] sp)(iu:∀(s:Shared) (u:Value),BindsTo s fd ⟨[u],[]⟩ [(x,u)])(gh:∀H:Hp,(∀t∈tabs,H t.1=some (.gi t.2.1 t.2.2))->bR K H a (ns.map V.int)->sp [.ref a] H (λv H'=>v=.bl true/\aO H H') λ_ _ _=>False) :
  codeAny (model P w) callerA (.call (.ref fa) ⟨[.ref a],[]⟩) (λr s'=>r=.ok (.ret (.bool true))/\OldK au.heap s'.heap/\s'.os=au.os/\AllBare s'.gens) au:=by
 have rv:=P6 hi;have xj:=hi.length;have core:∀H:Hp,bR K H a (ns.map V.int)->uO P w H au.heap->(∀t∈tabs,H t.1=some (.gi t.2.1 t.2.2))->(∀b u,H b=some u->(b=a/\K.lookup a=none/\∃o xs,u=.bu o (.lst xs))\/∃t∈tabs,b=t.1/\u=.gi t.2.1 t.2.2)->
   codeAny (model P w) callerA (.call (.ref fa) ⟨[.ref a],[]⟩) (λr s'=>r=.ok (.ret (.bool true))/\OldK au.heap s'.heap/\s'.os=au.os/\AllBare s'.gens) au:=by
  intro H hS av hTH hA;have cu:∀{b:Addr} {o:Obj},au.heap.get? b=some o->H b=none->(yR au.heap H).get? b=some o:=λe n=>aGd e n;have vt:∀{b:Addr} {o:Obj} {es:Array DictEntry} {ep:Nat},au.heap.get? b=some o->o.data=.dict es ep->H b=none:=λ{b o es ep} e d=>by
   cases q:H b with
   |none=>rfl
   |some u=>
    rcases hA b u q with ⟨e',_⟩|⟨t,ht,e',_⟩
    ·subst e';rw[ha] at e;cases e;have d':Data.seq vs.toArray _=Data.dict es ep:=d;cases d'
    ·rw[e',(hT t ht).1] at e;cases e;have d':Data.fields _=Data.dict es ep:=d;cases d'
  have Ab:∀{b:Addr} {m:Str->aq},au.heap.Ns b m->(yR au.heap H).Ns b m:=λ{b m} ⟨o,es,ep,e,d,r⟩=>⟨o,es,ep,cu e (vt e d),d,r⟩
  have EF:K.In (yR au.heap H):=λb o e=>cu (KX b o e) (by
   cases q:H b with
   |none=>rfl
   |some u=>
    rcases hA b u q with ⟨e',hn,_⟩|⟨t,ht,e',_⟩
    ·rw[e',hn] at e;cases e
    ·rw[e',(hT t ht).2.1] at e;cases e)
  have CP:∃bm o,mg "__builtins__" = some (.ref bm)/\bm≠builtinsNs/\(yR au.heap H).get? bm=some o/\o.cls=.type "module"/\o.dict=some builtinsNs/\o.data=.plain:=by
   obtain⟨bm,ob,b1,b2,b3,b4,b5,b6⟩:=Mf;refine⟨bm,ob,b1,b2,cu b3 ?_,b4,b5,b6⟩;cases q:H bm with
   |none=>rfl
   |some u=>
    rcases hA bm u q with ⟨e',_⟩|⟨t,ht,e',_⟩
    ·rw[e',ha] at b3;cases b3;exact absurd (show Value.type "list" = Value.type "module" from b4) (by decide)
    ·rw[e',(hT t ht).1] at b3;cases b3;exact absurd (show Value.none=Value.type "module" from b4) (by decide)
  have hM:Mod K mg (yR au.heap H):=⟨EF,Ab Ae,⟨mb,Ab hb,Mg⟩,(let ⟨mc,h1,h2⟩:=CL;⟨mc,Ab h1,h2⟩),CP⟩
  have e0:ze P w K mg (yR au.heap H) callerA [] au H:=⟨rfl,hM,λb o e=>aIv e,Fx (aEA _ _),trivial,λb hb=>absurd (show b∈([]:ah) from hb) (by simp),av,.of_eq hg⟩
  refine codeAny_mono ((F _ EF (Ab Ae)).run callerA [] au H ⟨[.ref a],[]⟩ [.ref a] [.ref a] _ _ hr e0 (iu au (.ref a)) (.cons rfl .nil) (gh H hTH hS)) λr s' h=>?_;cases r with
  |error e=>exact False.elim h
  |ok fl=>
   cases fl with
   |next=>exact False.elim h
   |brk=>exact False.elim h
   |cont=>exact False.elim h
   |ret u=>
    obtain⟨v,H',os,bare,un,AF,r',q,sm⟩:=h;have q':v=.bl true:=q;subst q';obtain rfl:u=Value.bool true:=r';have key:∀b o,au.heap.get? b=some o->s'.heap.get? b=some o\/∃c ps,PySem.W.codeHdIn K c b=true/\o={ cls:=.none,data:=.fields #[] }/\s'.heap.get? b=some { cls:=.none,data:=.fields ps }:=λb o e=>by
     cases q:H b with
     |none=>exact .inl (un.keep b o e q (by intro z;exact absurd (show b∈([]:ah) from z) (by simp)) (by simp))
     |some u=>
      rcases hA b u q with ⟨_,_,ob,xs,rfl⟩|⟨t,ht,e',rfl⟩
      ·have z2:=un.cv b ob _ q;obtain⟨e1,_⟩:=av b _ q;obtain⟨e2,_⟩:=AF b _ z2;rw[e] at e1;cases e1;exact .inl e2
      ·obtain⟨ps,z,_⟩:=AF b _ (sm b _ q);obtain⟨h1,_,c,hc⟩:=hT t ht;rw[<-e'] at h1 hc;rw[e] at h1;exact .inr ⟨c,ps,hc,Option.some.inj h1,z⟩
    refine⟨rfl,⟨λb o e=>?_,λb o e=>?_⟩,os,bare⟩
    ·rcases key b o e with z|⟨c,ps,hc,rfl,z⟩
     ·exact .inl z
     ·refine .inr (.inl ⟨?_,rfl,#[],ps,rfl,?_⟩)
      ·obtain⟨oc,vs,_,_,_,_,_,_,_,f1,f2,f3,f4,_⟩:=PySem.W.codeHd_of_K KX hc;exact⟨c,oc,vs,f1,f2,f3,f4⟩
      ·rw[z];simp
    ·rcases key b o e with z|⟨c,ps,hc,rfl,z⟩
     ·exact⟨_,z⟩
     ·exact⟨_,z⟩
 have lkT:∀t∈tabs,tabs.lookup t.1=some t.2:=by
  clear hT gh core;induction tabs with
  |nil=>intro t h;cases h
  |cons q r ih=>
   intro t ht;rw[iq];rcases lQ.mp ht with rfl|ht
   ·rw[beq_self_eq_true]
   ·have ne:t.1≠q.1:=λz=>(ni.mp mw).1 (mD.mpr ⟨t,ht,z⟩);rw[beq_eq_false_iff_ne.mpr ne];exact ih (ni.mp mw).2 t ht
 have Ay:∀{b:Addr} {p:Pos×Str},tabs.lookup b=some p->(b,p)∈tabs:=λ{b p} h=>aET h
 have naT:∀t∈tabs,t.1≠a:=λt ht z=>by
  have:=(hT t ht).1;rw[z,ha] at this;cases this
 have okT:∀(H:Hp) (t:Addr×Pos×Str),t∈tabs->bO P w H au.heap t.1 (.gi t.2.1 t.2.2):=λH t ht=>⟨#[],(hT t ht).1,trivial,.inl rfl⟩
 cases hk:K.lookup a with
 |some o=>
  have e:=KX a o hk;rw[ha] at e;cases e;refine core (λb=>(tabs.lookup b).map λp=>.gi p.1 p.2) (.inr ⟨_,vs.toArray,_,hk,rfl,rfl,rfl,by rw[iL,xj];exact hl,by simpa using rv⟩) (λb u z=>?_) (λt ht=>?_) λb u z=>?_
  ·obtain⟨p,hp,rfl⟩:=yQ.mp z;exact okT _ _ (Ay hp)
  ·show(tabs.lookup t.1).map _=_;rw[lkT t ht];rfl
  ·obtain⟨p,hp,rfl⟩:=yQ.mp z;exact .inr ⟨_,Ay hp,rfl,rfl⟩
 |none=>
  refine core (λb=>if b=a then some (.bu { cls:=.type "list",data:=.seq vs.toArray } (.lst (ns.map V.int))) else (tabs.lookup b).map λp=>.gi p.1 p.2) (.inl (.inr ⟨{ cls:=.type "list",data:=.seq vs.toArray },cJ rfl⟩)) (λb u z=>?_) (λt ht=>?_) λb u z=>?_
  ·by_cases hb:b=a
   ·have z':=(cJ hb).symm.trans z;cases z';subst hb;exact⟨ha,by rw[bK];exact hl,vs,_,rv,ha⟩
   ·have z':=(bV hb).symm.trans z;obtain⟨p,hp,rfl⟩:=yQ.mp z';exact okT _ _ (Ay hp)
  ·show(if t.1=a then _ else (tabs.lookup t.1).map _)=_;rw[bV (naT t ht),lkT t ht];rfl
  ·by_cases hb:b=a
   ·have z':=(cJ hb).symm.trans z;cases z';exact .inl ⟨hb,hk,_,_,rfl⟩
   ·have z':=(bV hb).symm.trans z;obtain⟨p,hp,rfl⟩:=yQ.mp z';exact .inr ⟨_,Ay hp,rfl,rfl⟩
theorem aLO{l:PySem.W.OpenLaw}{n k:Nat}{XP:(Str->aq)->Heap->Prop}{YP:World->Heap->Prop}{d:DefRec}{K:Params->W.Frag}{sp:World->Sp}{tabs:List (Addr×Pos×Str)}(hn:l.most=some n)(ur:n<=sizeLine)(Ez:d.params.defaults=[])(hr:eS k callerA)(mw:(tabs.map (·.1)).Nodup)(hY:∀(w:World) (h:Heap),YP w h->(K w.params).In h/\∀t∈tabs,h.get? t.1=some { cls:=.none,data:=.fields #[] })(hK:∀(w:World),∀t∈tabs,(K w.params).lookup t.1=none)(F:∀(w:World) (mg:Str->aq) (fa:Addr) (h:Heap),(K w.params).In h->h.Ns mainGlobals mg->mg d.name=some (.ref fa)->(∀t∈tabs,∃c,PySem.W.codeHdIn (K w.params) c t.1=true)/\
   ∃fd:FuncData,(∀(s:Shared) (u:Value),BindsTo s fd ⟨[u],[]⟩ [(x,u)])/\
    ∀base:Heap,(K w.params).In base->base.Ns mainGlobals mg->cE l.prog w (K w.params) mg base hU k fa fd [x] (sp w)) (gh:∀(w:World) (H:Hp) (a:Addr) (ns:aa),ns.length<=n->(∀t∈tabs,H t.1=some (.gi t.2.1 t.2.2))->bR (K w.params) H a (ns.map V.int)->sp w [.ref a] H (λv H'=>v=.bl true/\aO H H') λ_ _ _=>False) :
  PySem.W.WalkO q loose XP YP l.row.toRowW d [] (λf vs=>PySem.call f vs):=by
 refine Att.aGp hn Ez λw s₀ au mg mb fa o pm cd doc a vs ns G Y ho hd ft Et CK hints hlen hg=>?_;obtain⟨KX,hT⟩:=hY w _ Y;obtain⟨Xg,fd,hb,hF⟩:=F w mg fa _ KX G.T.g Et;exact aJS KX G.T.g G.T.b G.T.builtins G.T.nolimit G.T.bmain hg CK hints (gj hlen ur) hr (λt ht=>⟨hT t ht,hK w t ht,Xg t ht⟩) mw hF hb (λH hO hS=>gh w H a ns hlen hO hS)
section
variable{X:Cx}{σ:St}{H:Hp}{Q:VK}
theorem aLP{sp:(Addr->Sp->Prop)->Sp}{n:Nat}{idx:List Nat}(h:t σ H λvs H1=>H1 Pt=some (.gi cg q)/\
  ∀(f c':Addr) (H2:Hp) (C:Addr->Sp->Prop),aO H1 H2->H2 c'=some (.va q)->C f (Jk c' q n tl (idx.map λj=>(σ[j]?).join))->sp C (vs ++ [.ref f]) H2 Q E0):OY Pt cg q sp n tl idx t σ H Q:=h
theorem PB{C:Addr->Sp->Prop}{i:Nat}(e:σ[i]?=some (some (.ref f)))(hC:C f sp)(h:t σ H λvs H1=>sp vs H1 Q E0):Jt C i t σ H Q:=⟨f,sp,e,hC,h⟩
end
end L2
namespace L2.Z
open PySem PySem.Spec PyProof.Rows L2
section
variable{X:Cx}{c Pt:Addr}{q:Str}{params:Arguments}{body:Expr}{scope:Scope}{pos cg:Pos}{cl:List (Str×Addr)}
structure Kx(X:Cx)(es:List Expr)(params:Arguments)(body:Expr)(scope:Scope)(cg:Pos)(Pt:Addr)(q:Str)(cl:List (Str×Addr))(t:TA):Prop where
 h:FO X es params body scope cg Pt q cl t
theorem Ql(js:X.env.code=.ref c)(hC:PySem.W.codeHdIn X.K c Pt=true)(hq:X.env.qual ++ "<lambda>" = q)(xu:defaultsOf params X.env=([],[])){n:Nat}{idx:List Nat}(S:eJ X scope N n idx) :
  Kx X [.Lambda params body scope cg] params body scope cg Pt q (lC X.env scope.names []) rZ:=⟨aLL js hC hq xu S⟩
theorem iA(ha:QE X e te)(hr:Kx X es params body scope cg Pt q cl t)(hn:noStar e=true:=by rfl):Kx X (e::es) params body scope cg Pt q cl (cD te t):=
 ⟨aLM ha.h hr.h (cC hn)⟩
theorem vS{psL N:ak}{idx:List Nat}{sp:(Addr->Sp->Prop)->Sp}{k kc:Nat}(F:∀bo:Heap,cE X.prog X.w X.K X.mg bo hU k f fd ps (sp (xg X.prog X.w X.K X.mg bo (kc+1))))(hr:eS k X.A)(hg:Gl X x)(hm:X.mg x=some (.ref f))(hk:PySem.W.keepIn X.K (.ref f)=true)(hb:Binds X.K fd ps [])(qh:∀y,X.fn y=true)(S:eJ X scope N psL.length idx)(mj:N.take psL.length=psL)(CJ:psL.all (λx=>scope.names.lookup x == some .local)=true)(Me:scope.isCoroutine=false)(CO:scope.isGenerator=false)(iu:∀(cl:List (Str×Addr)) (pm cd ct:Value) (us:af),us.length=psL.length->bindArgs (DC q params body scope cl pm cd ct) ⟨us,[]⟩=pure (psL.zip us))(ha:Kx X (e::es) params body scope cg Pt q (lC X.env scope.names []) t)(cw:∀(bo:Heap) (f' c':Addr) (cl:List (Str×Addr)) (A:Around) (outer:List Env) (s:Shared) (H:Hp),eS kc (A.deeper (vQ q scope s.heap.objs.size f' (.ref c') cl))->(A.deeper (vQ q scope s.heap.objs.size f' (.ref c') cl)).units+9 < cLine->QE (EW X.prog X.w X.K X.mg bo N q scope f' (.ref c') cl A outer s H) body tl)(hn:(e::es).all noStar=true:=by rfl)(dv:(x == ("__debug__" : Str))=false:=by decide) :
  QE X (.Call (.Name x p) (e::es) [] pos) (OY Pt cg q sp psL.length tl idx t):=
 ⟨L2.aLN F hr hg hm hk hb qh S mj CJ Me CO iu ha.h (λbo f' c' cl A outer s H hr'=>(cw bo f' c' cl A outer s H hr' (lT hr')).h) dv (cC (gK hn).1) (iP (gK hn).2)⟩
theorem PC{i k:Nat}(hr:eS k X.A)(ha:QA X (e::es) t)(hN:X.N[i]?=some x:=by rfl)(hv:Bf X.env.scope x:=by first|exact Or.inl rfl|exact Or.inr (Or.inl rfl)|exact Or.inr (Or.inr rfl))(hn:(e::es).all noStar=true:=by rfl)(hd:(x == ("__debug__" : Str))=false:=by decide)(ft:(x == ("__classdict__" : Str))=false:=by decide) :
  QE X (.Call (.Name x p) (e::es) [] pos) (Jt (xg X.prog X.w X.K X.mg X.base k) i t):=⟨L2.PC hN hv hr ha.h hd ft (cC (gK hn).1) (iP (gK hn).2)⟩
end
end L2.Z
namespace PySem
set_option maxRecDepth 100000
namespace F
theorem aHV:typeLookup (.type "list_reverseiterator") "__len__" = pure none:=by rw[typeLookup_type,builtinLookup_eq_fast];kernel_rfl
theorem aLQ:typeLookup (.type "list_reverseiterator") "__length_hint__" = pure (some (.builtin "list_reverseiterator.__length_hint__")):=by rw[typeLookup_type,builtinLookup_eq_fast];kernel_rfl
end F
section
variable{prog:Program}{w:World}{A:Around}{E:aj}{s:Shared}
theorem aDd{i:Int}{Q:Bool->Shared->Prop}(hit:s.heap.IsRevIter it l i)(h:Q false s):wpAny (model prog w) A (Builtin.List.listLengthHint (.ref it)) Q E s:=by
 unfold Builtin.List.listLengthHint;refine aR (wpAny_specialOf hit.typeIs F.aHV ?_);show wpAny _ A (specialOf (Value.ref it) (Str.ofString "__length_hint__") >>= _) _ _ _;refine aR (wpAny_specialOf hit.typeIs F.aLQ ?_);generalize Ex:("list_reverseiterator.__length_hint__" : String)=LD
 wp_delta
 rw[show splitId LD=some ("list_reverseiterator","__length_hint__") from by subst Ex;decide +kernel];subst Ex;refine aR (wpAny_isInstance (T:="list_reverseiterator") (b:=true) hit.typeIs (by rw[isSubtype_type];kernel_rfl) ?_);exact wpAny_ite_split (λz=>absurd z (by decide)) λ_=>wpAny_ite_split (λ_=>wpAny_ite_split (λz=>absurd z (by decide +kernel)) λ_=>bI h) λz=>absurd (by decide +kernel) z
theorem aBG{R:Result->Shared->Prop}{items:Array Value}(hh:A.handled=none)(hit:s.heap.IsRevIter it l ((items.size:Int) - 1))(hl:s.heap.IsList l items)(bj:l≠it)(hlen:items.size<=sizeLine)(S:Addr)(res:Value)(c₀:Nat)(hS:s.heap.get? S=some { cls:=.type "list",data:=.seq #[] c₀ })(hSl:S≠l)(ED:S≠it)(hR:∀h' tk bz c',(∀b o,b≠S->b≠it->s.heap.get? b=some o->h'.get? b=some o)->h'.get? S=some { cls:=.type "list",dict:=none,data:=.seq bz c',slots:=#[] }->
   ItemsOf (λi v=>items[items.size - 1 - i]?=some v) bz items.size->R (.ok (.ret res)) { s with heap:=h',toks:=tk }) :
  wpAny (model prog w) A.in1 (Builtin.List.listExtendWith (.ref S) (.ref it) res) (λfin s'=>match fin with|.done f=>R (.ok f) s'|.again k=>k.quiet=true/\codeAny (model prog w) A k R s') (λe s'=>R (.error e) s') s:=by
 have hSf:S∉[it,l]:=by simp[ED,hSl]
 have W:=(Walks.listRev (prog:=prog) (w:=w) (A:=A.in1) hh it l bj items).toS;unfold Builtin.List.listExtendWith;refine aR (wpAny_typeOf (T:="list_reverseiterator") hit.typeIs ?_);have h1:Builtin.List.listSameRef (.ref S) (.ref it)=false:=by simp[Builtin.List.listSameRef,ED]
 have h2:(Value.type "list_reverseiterator" == Value.type "list")=false:=by decide
 have h3:(Value.type "list_reverseiterator" == Value.type "tuple")=false:=by decide
 simp only[h1,h2,h3,u9,Bool.or_false,if_false];refine aR (wpAny_pyIter_revIter hit (aR (eh (aDd hit ?_))));refine wpAny_ite_split (λz=>by cases z) (λ_=>bI ⟨plainId_quiet F.plain_extend_loop _,?_⟩);refine codeAny_extend_loopS W hlen S hSf res items.size 0 _ #[] c₀ rfl (dz _) ⟨dz _,?_,hl⟩ hS (ItemsOf.nil _) λs' bz c' hm Dk fz=>?_
 ·rw[show(items.size:Int) - 1 - ((0:Nat):Int)=(items.size:Int) - 1 by lia];exact hit
 ·rw[Moved.eq_with hm];exact hR s'.heap s'.toks bz c' (λb o hb hi e=>hm.heap b o (by simp[hb,hi]) e) Dk fz
theorem aD8{Q:aj}{items:Array Value}(hh:A.handled=none)(hit:s.heap.IsRevIter it l ((items.size:Int) - 1))(hl:s.heap.IsList l items)(bj:l≠it)(hlen:items.size<=sizeLine)(hQ:∀h' tk bz c',(∀b o,b≠it->s.heap.get? b=some o->h'.get? b=some o)->
   h'.get? s.heap.objs.size=some { cls:=.type "list",dict:=none,data:=.seq bz c',slots:=#[] }->ItemsOf (λi v=>items[items.size - 1 - i]?=some v) bz items.size->Q (.ref s.heap.objs.size) { s with heap:=h',toks:=tk }) :
  wpAny (model prog w) A (call (.type "list") [.ref it]) Q E s:=by
 have lit:it < s.heap.objs.size:=let ⟨_,e,_⟩:=hit;eB e
 have ll:l < s.heap.objs.size:=let ⟨_,e,_⟩:=hl;eB e
 have hS:(s.heap.push { cls:=.type "list",data:=.seq #[] }).get? s.heap.objs.size=some { cls:=.type "list",data:=.seq #[] }:=by exact mJ _ rfl
 have GZ:=zk (Obj.mapSeq λ_=>(#[]:Array Value)) hS rfl;have old:∀b o,s.heap.get? b=some o->((s.heap.push { cls:=.type "list",data:=.seq #[] }).update s.heap.objs.size (Obj.mapSeq λ_=>(#[]:Array Value))).get? b=some o:=
  λb o e=>(D0 _ _ (je (eB e))).trans (fX _ e)
 refine callType_codes (Q₁:=λx t=>x=.ref s.heap.objs.size/\t={ s with heap:=s.heap.push { cls:=.type "list",data:=.seq #[] } }) F.called_list (F.typeCall_list_1 _) F.entry_list_init (code_list_new _ ⟨rfl,rfl⟩) ?_;rintro x t ⟨rfl,rfl⟩;refine⟨⟨_,hS,rfl⟩,F.args_list_init_2 _ _,?_⟩;show wpAny _ _ (Builtin.List.listItems (.ref s.heap.objs.size) >>= λold=>Builtin.List.listUpdate (.ref s.heap.objs.size) (λ_=>#[]) >>= λ_=>letGo old.toList.reverse >>= λ_=>Builtin.List.listExtendWith (.ref s.heap.objs.size) (.ref it) .none) _ _ _;refine aR (wpAny_listItems hS rfl ?_);show wpAny _ _ (updateSeq s.heap.objs.size (λ_=>#[]) >>= λ_=>letGo (#[]:Array Value).toList.reverse >>= λ_=>Builtin.List.listExtendWith (.ref s.heap.objs.size) (.ref it) .none) _ _ _;refine aR (wpAny_updateSeq hS rfl (aR (wpAny_letGo (aBG (A:=A.in1) hh (hit.at λo e=>old _ _ e) (hl.at λo e=>old _ _ e) bj hlen s.heap.objs.size .none _ GZ (je ll) (je lit) λh' tk bz c' hk Dk fz=>?_))))
 exact⟨rfl,hQ h' tk bz c' (λb o hb e=>hk b o (gM (eB e)) hb (old b o e)) Dk fz⟩
end
end PySem
namespace L2
open PySem PySem.Spec PyProof.Rows
section
variable{X:Cx}
def Pz(t:TA):TE:=λσ H Q=>t σ H λvs H1=>∃l xs,vs=[.ref l]/\H1 l=some (.lst xs)/\∀q,H1 q=none->Q (.ref q) (upd H1 q (.lst xs.reverse))
theorem aLR{xs:List V}{us:af}(r:Vals xs us):Vals xs.reverse us.reverse:=by
 induction r with
 |nil=>exact .nil
 |cons h t ih=>
  simp only[List.reverse_cons];exact ih.append (.cons h .nil)
theorem aHW(hc:X.calm=true)(Ma:Gl X "list")(LY:X.mg "list" = none)(L9:Gl X "reversed")(Di:X.mg "reversed" = none)(he:PA X [e] t)(hn:noStar e=true:=by rfl) :
  PE X (.Call (.Name "list" p1) [.Call (.Name "reversed" p2) [e] [] FY] [] TX) (Pz t):=by
 intro pins s σ H Q I h;refine Call_ (rW I Ma LY mN (PyProof.Rows.callWith_type1 (Calls.spliced_cons ?_) rfl rfl));refine Call_ (rW I L9 Di boot_reversed (PyProof.Rows.callWith_type1 (dP (he FY pins s σ H _ I h) λus s1 zq=>?_) (cC hn) rfl));obtain⟨vs,H1,I1,r1,l,xs,ex,hl,q⟩:=zq;subst ex;obtain⟨u,rfl,ru⟩:=vals1 r1;obtain rfl:u=Value.ref l:=ru;obtain⟨hz,its,n,rv,eo⟩:=I1.av l _ hl;have GX:s1.heap.IsList l its.toArray:=⟨_,eo,rfl,n,rfl⟩
 refine call_reversed_list GX (Calls.spliced_nil ?_);have hll:l < s1.heap.objs.size:=eB eo;refine aD8 (it:=s1.heap.objs.size) (l:=l) (items:=its.toArray) (I.ok.hd hc) ⟨_,mJ _ rfl,rfl,rfl⟩ ⟨_,fX _ eo,rfl,n,rfl⟩ (gM hll) (by rw[iL,<-rv.length];exact hz) λh' tk bz c' hk hS ha=>?_;have Xp:bz.toList=its.reverse:=by
  obtain⟨h1,h2⟩:=ha;refine Co λi=>?_;by_cases hi:i < bz.size
  ·have e1:bz[i]?=some bz[i]:=ma hi;have e2:=h2 i _ e1;rw[jq,e1,List.getElem?_reverse (by rw[h1,iL] at hi;exact hi)];rw[<-e2,iL,Qs]
  ·rw[xc (by rw[jf];lia),xc (by rw[Kp];rw[h1,iL] at hi;lia)]
 have hv:Vals xs.reverse bz.toList:=by rw[Xp];exact aLR rv
 have sz:s1.heap.objs.size<=(s1.heap.push (revObj l ((its.toArray.size:Int) - 1))).objs.size:=by rw[vh];lia
 exact⟨.ref _,_,I1.laid (t':=tk) (o:=.lst xs.reverse) (λb u e=>hk b u (gM (eB e)) (fX _ e)) sz ⟨by rw[Kp];exact hz,bz.toList,c',hv,hS⟩,rfl,q _ (I1.av.fresh sz)⟩
def DB(K:W.Frag):List V->Hp->VK->Prop:=λvs H Q=>∃(p:Addr) (ns:aa),vs=[.ref p]/\bR K H p (ns.map V.int)/\ns≠[]/\∀m,m∈ns->(∀x∈ns,m<=x)->Q (.int m) H
theorem yD(hc:X.calm=true):eC X (.builtin "min") (DB X.K):=by
 intro pins s σ H vs us Q I r h;obtain⟨p,ns,rfl,hq,bj,q⟩:=h;obtain⟨u,rfl,rx⟩:=vals1 r;cases rx;obtain⟨its,r',pl,hz⟩:=I.list hq;have hi:=intsAre_of r';obtain⟨xs,hx⟩:=hi.allInts.items;have e1:ns=xs.toList.map (·.1):=by rw[<-nums_intItems,<-hx];exact(show numsOf its.toArray.toList=ns from hi.numsOf).symm
 have hsz:0 < xs.size:=by
  have z:=DW.mpr bj;rw[e1,bK,jf] at z;exact z
 refine min_intList (I.ok.hd hc) (hx▸pl.isList:s.heap.IsList p (intItems xs)) hsz λv h' tk hv hk=>?_;obtain⟨t,rfl⟩:=intItems_at hv;obtain⟨h1,h2⟩:=argBest_lt (numAt xs) (xs.size - 1);refine⟨.int _,H,I.kept (t':=tk) hk,⟨t,rfl⟩,q _ ?_ λx De=>?_⟩
 ·rw[e1,numAt_eq];exact getD_mem (by rw[bK,jf];lia)
 ·rw[e1] at De;obtain⟨j,hj,rfl⟩:=mem_getD De;rw[bK,jf] at hj;rw[<-numAt_eq];exact h2 j (by lia)
theorem JJ{K:W.Frag}{H:Hp}{Q:VK}{p:Addr}{ns:aa}(h1:bR K H p (ns.map V.int))(bj:ns≠[])(h:∀m,m∈ns->(∀x∈ns,m<=x)->Q (.int m) H):DB K [.ref p] H Q:=⟨p,ns,rfl,h1,bj,h⟩
def Fe:TE:=λ_ H Q=>(∀p,H p=none->Q (.ref p) (upd H p (.dK [])))\/∀p,H p=none->Q (.ref p) (upd H p (.dT []))
theorem aLS:PE X (.Dict [] [] pos) Fe:=by
 intro pins s σ H Q I h;rcases h with h|h
 ·exact aKT pins s σ H Q I h
 ·exact aKU pins s σ H Q I h
theorem aJT{H:Hp}{Q:VK}(h:∀p,H p=none->Q (.ref p) (upd H p (.dK []))):Fe σ H Q:=.inl h
theorem aEV{H:Hp}{Q:VK}(h:∀p,H p=none->Q (.ref p) (upd H p (.dT []))):Fe σ H Q:=.inr h
def D4(hi:Int)(n:Nat):It:=⟨λi _=>i < n,λi H x H'=>H'=H/\x=.int (hi - i),λi _=>n<=i⟩
theorem aJU{P:Program}{w:World}{K:W.Frag}{tg:Expr}(it:Addr)(hi:Int)(n:Nat):Turn P w K tg (D4 hi n) [it] it (λi h=>IsRangeIter h it (hi+(i:Nat) * -1) ((n:Int) - (i:Nat)) (-1)) where
 mem:=by simp
 obj:=λi h st b hb=>by
  have e:b=it:=by simpa using hb
  rw[e];exact⟨_,st,λv z=>by
   have z':Data.fields _=Data.cell v:=z;cases z'⟩
 keep:=λi h h' st k=>k it (by simp) _ st
 item:=by
  intro X hP hw hK hc i pins s σ H E I hf st hg;subst hP hw hK;obtain⟨f0,f1,f2,f3,f4,f5⟩:=hf it (by simp);refine(Walks.range (prog:=X.prog) (w:=X.w) (I.ok.hd hc) it hi (-1) n).item i s _ _ hg st λv h' tk hv cn kk=>?_;obtain⟨t,rfl⟩:=hv;refine⟨_,rfl,DG (s:={ s with heap:=h',toks:=tk }) (n:="range_iterator") cn rfl rfl (by decide) ⟨.int (hi - i),H,I.turned (λb o hb e=>kk b o (by simpa using hb) e) f0 f1 f3 f4 f5,⟨t,?_⟩,⟨rfl,rfl⟩,cn,λb hb=>(hf b hb).1⟩⟩;congr 1;lia
 done:=by
  intro X hP hw hK hc i pins s σ H E I hf st hg;subst hP hw hK;obtain⟨f0,f1,f2,f3,f4,f5⟩:=hf it (by simp);exact wpAny_pyNext_range_end (I.ok.hd hc) st (by have:n<=i:=hg;lia) λh' eb=>⟨rfl,I.turned (t':=s.toks) (λb o hb e=>eb b o hb e) f0 f1 f3 f4 f5⟩
 self:=λ_ _ _ _ _ st h=>wpAny_pyIter_rangeiter st h
theorem aEW(a b:Int):Builtin.Range.rangeSize a b (-1)=(((a - b).toNat:Nat):Int):=by
 unfold Builtin.Range.rangeSize;rw[bV (by decide)];split
 ·rw[show -(-1:Int)=1 from rfl,Int.ediv_one];lia
 ·lia
theorem small_down{a b:Int}(h1:-(2 ^ 62)<=a)(h2:a < 2 ^ 62)(h3:-(2 ^ 62)<=b)(h4:b < 2 ^ 62):Builtin.Range.small a b (-1)=true:=by
 unfold Builtin.Range.small;simp only[aEW,Builtin.Range.rangeFitsLong,iz,Bool.or_eq_true,decide_eq_true_eq,beq_iff_eq];rw[bV (by decide)];simp only[iz,decide_eq_true_eq];lia
def Oq(ta:TA):TI:=λσ H R=>ta σ H λvs H1=>∃i j:Int,vs=[.int i,.int j,.int (-1)]/\(-(2 ^ 62)<=i/\i < 2 ^ 62/\-(2 ^ 62)<=j/\j < 2 ^ 62)/\R (D4 i (i - j).toNat) H1
theorem aJV(hg:Gl X "range")(hm:X.mg "range" = none)(ha:PA X [a,b,c] ta)(hn:[a,b,c].all noStar=true:=by rfl):PI X tg (.Call (.Name "range" p) [a,b,c] [] pos) (Oq ta):=by
 intro pins s σ H R I h;refine Call_ (rW I hg hm boot_range (PyProof.Rows.callWith_type1 (dP (ha pos pins s σ H _ I h) λus s1 zq=>?_) (cC (gK hn).1) (iP (gK hn).2)));obtain⟨vs,H1,I1,r1,i,j,e,⟨q1,q2,q3,q4⟩,q⟩:=zq;subst e;obtain⟨u1,us1,rfl,⟨t1,rfl⟩,r2⟩ : ∃u G4,us=u::G4/\RelV (.int i) u/\Vals [.int j,.int (-1)] G4:=by cases r1 with|cons h t=>exact⟨_,_,rfl,h,t⟩
 obtain⟨u2,u3,rfl,⟨t2,rfl⟩,⟨t3,rfl⟩⟩:=vals2 r2;refine call_range_3 (by decide) ?_ (.inl (PyProof.noPylong_small (by decide)));refine wpAny_pyIter_range (IsRange.new ..) (small_down q1 q2 q3 q4) ?_;have I2:Inv X pins σ H1 { s1 with heap:=s1.heap.push { cls:=.type "range",data:=.fields #[.int i t1,.int j t2,.int (-1) t3] } }:=I1.kept (t':=s1.toks) λb o e=>fX _ e;refine⟨_,[_],_,_,H1,rfl,I2.kept (t':=s1.toks) λb o e=>fX _ e,aJU _ i (i - j).toNat,?_,λb hb=>?_,q⟩
 ·show IsRangeIter _ _ (i+((0:Nat):Int) * -1) ((((i - j).toNat:Nat):Int) - ((0:Nat):Int)) (-1);rw[show i+((0:Nat):Int) * -1=i by lia,show(((i - j).toNat:Nat):Int) - ((0:Nat):Int)=Builtin.Range.rangeSize i j (-1) by rw[aEW];lia];exact mJ _ rfl
 ·have e:b=(s1.heap.push { cls:=.type "range",data:=.fields #[.int i t1,.int j t2,.int (-1) t3] }).objs.size:=by simpa using hb
  subst e;exact I2.Ai (d7 _) (I2.av.fresh (d7 _))
theorem aLU{R:It->Hp->Prop}(h:ta σ H λvs H1=>∃i j:Int,vs=[.int i,.int j,.int (-1)]/\(-(2 ^ 62)<=i/\i < 2 ^ 62/\-(2 ^ 62)<=j/\j < 2 ^ 62)/\R (D4 i (i - j).toNat) H1):Oq ta σ H R:=h
theorem aIP{hi:Int}{n:Nat}{σ:St}{H:Hp}{nx:St->Hp->Prop}{rt:VK}{g:TG}{tb:TS}(Pv:Nat->St->Hp->Prop)(h0:Pv 0 σ H)
  (hs:∀i σ H,i < n->Pv i σ H->g (.int (hi - i)) σ H λσ2 H2=>tb ⟨Pv (i+1),rt,nx,Pv (i+1)⟩ σ2 H2) (hd:∀σ H,Pv n σ H->nx σ H) :
  ∃W:Nat->Nat->St->Hp->Prop,(∃m,W 0 m σ H)/\∀i m σ H,W i m σ H->
   ((D4 hi n).stop i H/\nx σ H)\/((D4 hi n).go i H/\∃N:St->Hp->Prop,(∀σ' H',N σ' H'->∃m',m' < m/\W (i+1) m' σ' H')/\∀x H',(D4 hi n).sk i H x H'->g x σ H' λσ2 H2=>tb ⟨N,rt,nx,N⟩ σ2 H2):=by
 refine⟨λi m σ H=>m=n - i/\i<=n/\Pv i σ H,⟨n,by lia,dz _,h0⟩,?_⟩;rintro i m σ H ⟨rfl,jw,p⟩;by_cases h:i < n
 ·refine .inr ⟨h,Pv (i+1),λσ' H' p'=>⟨n - (i+1),by lia,rfl,h,p'⟩,?_⟩;rintro x H' ⟨rfl,rfl⟩;exact hs i σ H' h p
 ·have e:i=n:=by lia
  subst e;exact .inl ⟨d7 _,hd σ H p⟩
end
end L2
namespace L2.Z
open PySem PySem.Spec PyProof.Rows L2
section
variable{X:Cx}{tg:Expr}
theorem aD9(hc:X.calm=true)(Ma:Gl X "list")(LY:X.mg "list" = none)(L9:Gl X "reversed")(Di:X.mg "reversed" = none)(he:QA X [e] t)(hn:noStar e=true:=by rfl) :
  QE X (.Call (.Name "list" p1) [.Call (.Name "reversed" p2) [e] [] FY] [] TX) (Pz t):=⟨L2.aHW hc Ma LY L9 Di he.h hn⟩
theorem lG:QE X (.Dict [] [] pos) Fe:=⟨L2.aLS⟩
theorem aAI(hg:Gl X "range")(hm:X.mg "range" = none)(ha:QA X [a,b,c] ta)(hn:[a,b,c].all noStar=true:=by rfl):QI X tg (.Call (.Name "range" p) [a,b,c] [] pos) (Oq ta):=⟨L2.aJV hg hm ha.h hn⟩
theorem vT{P:Program}{w:World}{K:W.Frag}{mg:Str->aq}{base:Heap}{i k:Nat}{x:Str}{p pos:Pos}{e:Expr}{es:List Expr}{t:TA}(hr:eS k X.A)(ha:QA X (e::es) t)(hP:X.prog=P:=by rfl)(hw:X.w=w:=by rfl)(hK:X.K=K:=by rfl)(hg:X.mg=mg:=by rfl)(hB:X.base=base:=by rfl)
  (hN:X.N[i]?=some x:=by rfl) (hv:Bf X.env.scope x:=by first|exact Or.inl rfl|exact Or.inr (Or.inl rfl)|exact Or.inr (Or.inr rfl))
  (hn:(e::es).all noStar=true:=by rfl) (hd:(x == ("__debug__" : Str))=false:=by decide) (ft:(x == ("__classdict__" : Str))=false:=by decide) :
  QE X (.Call (.Name x p) (e::es) [] pos) (Jt (xg P w K mg base k) i t):=by
 subst hP hw hK hg hB;exact PC hr ha hN hv hn hd ft
end
end L2.Z
namespace L2
open PySem
section
variable{σ:St}{H:Hp}{Q:VK}
theorem aHX(h:t σ H λvs H1=>∃l xs,vs=[.ref l]/\H1 l=some (.lst xs)/\∀q,H1 q=none->Q (.ref q) (upd H1 q (.lst xs.reverse))):Pz t σ H Q:=h
end
end L2
namespace L2
open PySem PySem.Spec PySem.W PyProof.Rows
theorem Inv.more{X:Cx}{H H':Hp}{s:Shared}{h':Heap}{t':Nat}(I:Inv X pins σ H s)(k:∀b u,s.heap.get? b=some u->h'.get? b=some u)(hs:aO H H')(hn:∀b u,H' b=some u->H b=some u\/(s.heap.get? b=none/\bO X.prog X.w H' h' b u)):Inv X pins σ H' { s with heap:=h',toks:=t' }:=by
 refine I.un ⟨λb u q _ _ _=>k b u q,λb u q _ _ _=>⟨u.slots,k b u q⟩,λb u q n _=>?_,λb u q _=>⟨u,k b u q⟩,λb xs q=>hs _ _ q,λb u xs q=>hs _ _ q,λb ps q=>⟨#[],by rw[hs _ _ q];simp⟩⟩ λb u e=>?_
 ·cases e:H' b with
  |none=>rfl
  |some v=>
   rcases hn b v e with z|⟨z,_⟩
   ·rw[n] at z;cases z
   ·rw[z] at q;cases q
 ·rcases hn b u e with z|z
  ·exact(I.av b u z).vf (λc v _ q=>k c v q) (λc q=>hs _ _ q) λc xs _ q=>hs _ _ q
  ·exact z.2
section
variable{X:Cx}{o:Expr}{td:TE}{apos aw:Pos}
def Dw(b d:Addr):Heap->Prop:=λh=>h.IsItemsView b d
theorem aRw{h:Heap}(ok:uO P w H h)(x:Bt H d):(d == sysModules)=false/\∃(o:Obj) (es:Array DictEntry) (ep:Nat),h.get? d=some o/\o.ExactDict/\o.data=.dict es ep:=by
 rcases x with ⟨kvs,x⟩|⟨kvs,x⟩
 ·obtain⟨_,y,vs,_,o,es,ep,h1,h2,h3,_⟩:=Be ok x;exact⟨y,o,es,ep,h1,h2,h3⟩
 ·obtain⟨y,o,es,ep,_,h1,h2,h3,_⟩:=qO (OE ok x);exact⟨y,o,es,ep,h1,h2,h3⟩
def Oo(td:TE):TE:=λσ H Q=>td σ H λx H1=>∃d,x=.ref d/\Bt H1 d/\∀b,H1 b=none->Q (.ref b) (upd H1 b (.ext (Dw b d)))
theorem aNV(ho:PE X o td)(bg:attributeBase o "items" X.env (eval o X.env)=eval o X.env:=by rfl)(bc:(apos.endLine == aw.line)=true:=by rfl):PE X (.Call (.Attribute o "items" apos) [] [] aw) (Oo td):=by
 intro pins s σ H Q I h;refine wpAny_Call_method (T:="dict") (id:="dict.items") bg rfl bc PySem.F.plainAttrs_dict PySem.F.slot_dict_items PySem.F.type_dict_items (dP (ho pins s σ H _ I h) λv s1 zq=>?_);obtain⟨x,H1,I1,r1,q1⟩:=zq;obtain⟨d,e,hd,q⟩:=q1;subst e;cases r1;obtain⟨lo,ob,es,ep,g1,g2,g3⟩:=aRw I1.av hd;have raw:Raw s1.heap d es ep:=⟨ob,g1,g2.1,g3⟩
 refine⟨raw.ty,λb z=>by cases z;exact⟨ob,g1,g2.2.1⟩,?_⟩;refine method_meetsIn PySem.F.slot_dict_items PySem.F.entry_dict_items rfl (PySem.evalArgs_none ⟨rfl,raw.ty,PySem.F.args_dict_items_1 _,_,aER d lo,raw.ty,?_⟩);have hn:H1 s1.heap.objs.size=none:=I1.av.fresh (d7 _);refine⟨.ref s1.heap.objs.size,_,I1.laid (a:=s1.heap.objs.size) (o:=.ext (Dw s1.heap.objs.size d)) (t':=s1.toks) (λ_ _ q=>fX _ q) (d7 _) ⟨⟨_,mJ _ rfl,rfl,rfl⟩,⟨_,mJ _ rfl⟩,λh1 h2 z k=>?_⟩,rfl,q _ hn⟩;obtain⟨o',a,r⟩:=z;exact⟨o',k o' a,r⟩
end
section
variable{σ:St}{H:Hp}{Q:VK}{nx:St->Hp->Prop}{rt:VK}{g:TG}{tb:TS}
theorem aNW(h:td σ H λx H1=>∃d,x=.ref d/\Bt H1 d/\∀b,H1 b=none->Q (.ref b) (upd H1 b (.ext (Dw b d)))):Oo td σ H Q:=h
end
theorem aFv:typeLookup (.type "list") "keys" = pure none:=by rw[typeLookup_type,builtinLookup_eq_fast];kernel_rfl
theorem aNX{A:Around}{E:aj}{s:Shared}{k:Nat}{Q:aq->Shared->Prop}(hA:A.handled=none)(hx:s.heap.get? a=some { cls:=.type "list",data:=.seq xs k })(h:∀(h':Heap) (tk:Nat),(∀b u,s.heap.get? b=some u->h'.get? b=some u)->Q none { s with heap:=h',toks:=tk }) :
  wpAny (model prog w) A (getAttr? (.ref a) "keys") Q E s:=by
 obtain⟨hp,g,d,tk,os⟩:=s;have ty:∀vo,(⟨hp,g,d,vo,os⟩ : Shared).TypeIs (.ref a) "list":=λ_=>⟨_,hx,rfl⟩
 have f1:=sub_AttributeError;have f3:=F.slot_list_getattribute.lookup;have f4:=F.slot_list_getattribute.bind (.ref a);have f5:=am_list_getattr_none;unfold getAttr? getAttrBy? getAttrBy;repeat (any_goals (first|assumption|exact ty _|((with_reducible show wpAny _ _ (call (Value.builtin "list.__getattribute__") _ _) _ _ _);refine call_meets F.slot_list_getattribute (ty _) am_entry_list_getattribute (F.args_list_getattribute_2 _ _) (meets_getattribute_miss_list a xs k #[] "keys" _ aFv (by decide +kernel)) ⟨hx,hA,λh' vo e gone=>?_⟩)|wp_step))
 obtain⟨t',u',he⟩:=gone.there;show wpAny _ _ (getattributeRaised _ _ _ _ _ _ _) _ _ _;unfold getattributeRaised;repeat (any_goals (first|assumption|wp_step))
 exact h _ _ gone.keeps
theorem vU:entryFor table "dict.update.loop" = some Builtin.«dict.update.loop»:=entryFor_of_tree (by kernel_rfl)
theorem iR:plainId "dict.update.loop" = true:=by decide +kernel
section
variable{prog:Program}{w:World}{A:Around}{s:Shared}{R:Result->Shared->Prop}{D I l:Addr}{items:Array Value}{ps:List (Key×Value)}
theorem aGI{E:aj}{o:Obj}{n:Nat}{Q:Option (Array Value)->Shared->Prop}(h1:s.heap.get? a=some o)(h2:o.data=.seq xs n)(h:Q (some xs) s):wpAny (model prog w) A (seqItems? (.ref a)) Q E s:=by
 unfold seqItems?;refine aR (wpAny_load h1 ?_);rw[h2];exact bI h
end
section
variable{X:Cx}
def NH:R2:=λy x H Q=>∃a o,x=.ref a/\jU H a y o/\Q (.bl o.isSome) H
theorem aQk(hu:X.A.units+9 < cLine):uZ X (compareOp .In) NH:=by
 intro pins s σ H x y u v Q I rx ry h;obtain⟨a,o,e,g,q⟩:=h;subst e;cases ry;exact aRR (by lia) I g rx λs' I'=>⟨.bl o.isSome,H,I',rfl,q⟩
end
section
variable{σ:St}{H:Hp}{Q:VK}
theorem aLW{ty:TE}(h:td σ H λx H1=>∃a,x=.ref a/\Bt H1 a/\ty σ H1 λy H2=>∃o,jU H2 a y o/\Q (o.getD .ba) H2):OS td ty σ H Q:=h
theorem aQl{o:Option V}(g:jU H a y o)(q:Q (.bl o.isSome) H):NH y (.ref a) H Q:=⟨a,o,rfl,g,q⟩
end
end L2
namespace L2.Z
open PySem PySem.Spec PyProof.Rows L2
section
variable{X:Cx}{o e tg:Expr}{td ty t:TE}{pos apos aw tp:Pos}{elts:List Expr}{x1:Nat}
theorem aHY(ho:QE X o td)(bg:attributeBase o "items" X.env (eval o X.env)=eval o X.env:=by rfl)(bc:(apos.endLine == aw.line)=true:=by rfl) :
  QE X (.Call (.Attribute o "items" apos) [] [] aw) (Oo td):=⟨L2.aNV ho.h bg bc⟩
theorem aGJ(hu:X.A.units+9 < cLine)(ho:QE X o td)(he:QE X e ty)(base:attributeBase o "get" X.env (eval o X.env)=eval o X.env:=by rfl)
  (yT:((backTo aw (starEach [e] X.env)).all (λx=>!x.1) && (backToKw aw (keywordEach [] X.env)).all (λx=>x.1.isSome)
   && decide (([e]:List Expr).length+([]:List Keyword).length+(if ([]:List Keyword).isEmpty then 0 else 1) < 30))=true:=by rfl)
  (line:(apos.endLine == aw.line)=true:=by rfl) (trees:backTo aw (starEach [e] X.env)=[(false,eval e X.env)]:=by rfl) :
  QE X (.Call (.Attribute o "get" apos) [e] [] aw) (OS td ty):=⟨L2.aKW (by lia) ho.h he.h ⟨base,yT,line,trees⟩⟩
end
end L2.Z
namespace L2
open PySem PySem.Spec PyProof.Rows
end L2
namespace L2
open PySem PySem.Spec PySem.W PyProof.Rows
theorem aJX{A:Around}(hh:A.handled=none)(I d:Addr)(bj:d≠I)(es:Array DictEntry)(ep:Nat) :
  Walks prog w A I [I,d] [I] es.size (λi v=>∃e,es[i]?=some e/\v=e.key) (λi h=>ku "dict_keyiterator" h I d i es.size ep/\Raw h d es ep) where
 sub:=λb hb=>lQ.mpr (.inl (by simpa using hb))
 frame:=λ_ _ _ st hk=>⟨st.1.keep λo e=>hk I (by simp) o e,st.2.keep λo e=>hk d (by simp) o e⟩
 item:=λi s Q E hi st hQ=>by
  have hx:es[i]?=some es[i]:=ma hi;refine aBX st.1 st.2 hx λh' a b=>hQ es[i].key h' s.toks ⟨_,hx,rfl⟩ ⟨a,st.2.keep λo e=>b.extBut d o bj e⟩ λb' o hb e=>b.extBut b' o (λz=>hb (ff.mpr z)) e
 done:=λs Q E st hQ=>aDa hh st.1 st.2 (d7 _) λh' z=>hQ h' s.toks λb o hb e=>z b o (λy=>hb (ff.mpr y)) e
 self:=λ_ _ _ _ st hQ=>wpAny_pyIter_keyiter st.1 hQ
theorem aJY{es:Array DictEntry}{ep:Nat}(lo:(d == sysModules)=false):KdlSrc prog w "dict" d d es.size (λi v=>∃e,es[i]?=some e/\v=e.key) (λh=>Raw h d es ep) where
 type:=λ_ hm=>hm.ty
 there:=λ_ hm=>let ⟨_,e,_⟩:=hm;⟨eB e,eB e⟩
 keep:=λ_ _ hm hk=>hm.keep λo e=>hk d (.inl rfl) o e
 notList:=by decide
 notTuple:=by decide
 hint:=λ_ _ _ _ hm hq=>kdl_hint_dict hm.ty hq
 iter:=λ_ _ hh hm=>⟨_,_,(λ_ _ hq=>aAG lo hm hq),aJX hh _ d (gM (let ⟨_,e,_⟩:=hm;eB e)) es ep,⟨⟨_,mJ _ rfl,rfl,rfl⟩,hm.keep λo e=>fX _ e⟩⟩
section
variable{X:Cx}
def OX:List V->Hp->VK->Prop:=λxs H Q=>∃(d:Addr) (kvs:List (List Key×V)) (ts:az),xs=[.ref d]/\H d=some (.dT kvs)/\kvs.map (·.1)=ts.map (λt=>t.map Sum.inl)/\(∀t∈ts,t≠[])/\ts.length < 64/\
 ∀(p:Addr) (qs:ah) (us:az),H p=none->dW H qs us->us.Perm ts->us.Pairwise (λa b=>gL b a=false)->Q (.ref p) (upd H p (.lst (qs.map V.ref)))
theorem aFw(hc:X.calm=true):eC X (.builtin "sorted") OX:=by
 intro pins s σ H xs us Q I r h;obtain⟨d,kvs,ts,rfl,hd,ek,bj,Xi,q⟩:=h;obtain⟨u,rfl,ru⟩:=vals1 r;cases ru;obtain⟨lo,ob,es,ep,ys,g1,g2,g3,rel,g4,g5⟩:=qO (show bO X.prog X.w H s.heap d (.dT kvs) from I.av d _ hd);have raw:Raw s.heap d es ep:=⟨ob,g1,g2.1,g3⟩
 have L5:kvs.length=ts.length:=by have:=congrArg List.length ek;simpa using this
 have LF:ys.length=kvs.length:=(Paired.length rel).symm;have ht:dW H (ys.map (·.2.1)) ts:=by
  refine⟨by rw[bK,LF,L5],λj a t x y=>?_⟩;have hj:j < kvs.length:=by rw[L5];exact(g0.mp y).1
  obtain⟨p,hp,hb,_⟩:=Cj rel (cG hj);rw[hE,hp] at x;cases x;refine⟨?_,bj t (iI y)⟩;have e3:(kvs.map (·.1))[j]?=some kvs[j].1:=by rw[hE,cG hj];rfl
  rw[ek,hE,y] at e3;have e4:t.map Sum.inl=kvs[j].1:=Option.some.inj e3;rw[hb,<-e4,zW];rfl
 have hv:((ys.map (·.2.1)).map Value.ref).length=ts.length:=by rw[bK];exact ht.len
 refine Calls.call_function_entry kind_sorted plain_sorted entry_sorted (args_sorted1 (.ref d)) ?_
 unfold Builtin.«sorted»;refine aR (m:=checkCount "sorted" 1 1 _) (bI (aR (PySem.W.kdu_collect (A:=X.A.in1) (aJY (es:=es) (ep:=ep) lo) (I.ok.hd hc) raw (by rw[fc];lia) λh1 tk acc k0 fz=>?_)));have ea:acc.toList=(ys.map (·.2.1)).map Value.ref:=by
  refine Co λj=>?_;by_cases hj:j < kvs.length
  ·have hja:j < acc.size:=by rw[fz.1,g5];exact hj
   have e1:acc[j]?=some acc[j]:=ma hja;obtain⟨e,he,ev⟩:=fz.2 j _ e1;obtain⟨p,hp,hb,_⟩:=Cj rel (cG hj);rw[entry_at g4,hp] at he;cases he;rw[jq,e1,ev,hE,hE,hp];rfl
  ·rw[xc (by rw[jf,fz.1,g5];lia),xc (by rw[bK,bK,LF];lia)]
 rw[ea];generalize hqs:ys.map (·.2.1)=qs at ht hv ea;have hq:=ht.len;have kn:qs.length < 64:=by lia
 refine aR (wpAny_newList ?_ (by rw[hv,fc];lia));have k1:∀b o,s.heap.get? b=some o->(h1.push (seqObj "list" (qs.map Value.ref).toArray 0)).get? b=some o:=λb o g=>fX _ (k0 b o g);have gD:(h1.push (seqObj "list" (qs.map Value.ref).toArray 0)).get? h1.objs.size=some (seqObj "list" (qs.map Value.ref).toArray 0):=mJ _ rfl;refine aR (eh (ja (s:={ s with heap:=h1.push (seqObj "list" (qs.map Value.ref).toArray 0),toks:=tk }) slot_list_sort ⟨_,gD,rfl⟩ entry_list_sort (aEQ gD ((ht.rV I).keeps λb o _ g=>k1 b o g) (by rw[hv,<-hq];exact kn) λp hr hu=>⟨_,rfl,?_⟩) (args_list_sort (.ref h1.objs.size))));rw[hv,<-hq] at hr hu;have pl:p.toList.Perm (List.range qs.length):=by simpa using FH.mp hr
 have ir:p.toList.length=qs.length:=by have:=pl.length_eq;simpa using this
 have eo:(eX (qs.map Value.ref) p).toList=(p.toList.map λi=>qs.getD i 0).map Value.ref:=by
  unfold eX;show p.toList.map (λi=>(qs.map Value.ref).getD i Value.none)=_;rw[zW];refine Bo λi hi=>?_;have li:i < qs.length:=zU.mp (pl.mem_iff.mp hi);show(qs.map Value.ref).getD i Value.none=Value.ref (qs.getD i 0);simp[yP,cG li]
 refine bI ⟨_,rfl,?_⟩;obtain⟨c,wg⟩:=sortedHeap_at (out:=eX (qs.map Value.ref) p) gD;have T':dW H (p.toList.map λi=>qs.getD i 0) (p.toList.map λi=>ts.getD i []):=by
  refine⟨by rw[bK,bK],λj a b x y=>?_⟩;rw[hE] at x y;obtain⟨i,e1,e2⟩:=yQ.mp x;rw[e1] at y;have li:i < qs.length:=zU.mp (pl.mem_iff.mp (iI e1));refine ht.at_ i a b ?_ ?_
  ·rw[<-e2];simp[yP,cG li]
  ·cases y;simp[yP,cG (show i < ts.length by lia)]
 obtain⟨hn,I2⟩:=I.Of (t':=tk) (h':=sortedHeap (h1.push (seqObj "list" (qs.map Value.ref).toArray 0)) h1.objs.size (qs.map Value.ref) (eX (qs.map Value.ref) p)) (a:=h1.objs.size) (o:=.lst ((p.toList.map λi=>qs.getD i 0).map V.ref)) (λb ob g=>by
   have lb:b < h1.objs.size:=eB (k0 b ob g);rw[sortedHeap_old (gM lb) (by rw[size_push'];exact nk lb)];exact k1 b ob g) (λb ob g=>gM (eB (k0 b ob g)))
  ⟨by rw[bK,bK,ir,fc];lia,(p.toList.map λi=>qs.getD i 0).map Value.ref,c,oH _,by rw[<-eo,Kq];exact wg⟩
 refine⟨.ref h1.objs.size,_,I2,rfl,q _ _ _ hn T' ?_ ?_⟩
 ·have:=pl.map (λi=>ts.getD i []);rw[hq,range_getD] at this;exact this
 ·rw[FG];intro i j hi hj we;rw[bK,ir] at hi hj;have key:∀k (hk:k < p.toList.length),(p.toList.map λi=>ts.getD i [])[k]'(by rw[bK];exact hk)=kq (O:=vP) (λi=>ts.getD i []) p k:=λk hk=>by
   rw[JZ];unfold kq;have:p.getD k 0=p.toList[k]:=by
    have ky:k < p.size:=by simpa using hk
    simp[Array.getD,ky]
   rw[this]
  rw[key i (by lia),key j (by lia)];exact hu i j (by lia) hj
end
section
variable{H:Hp}{Q:VK}
theorem aLX{kvs:List (List Key×V)}{ts:az}(h:H d=some (.dT kvs))(e:kvs.map (·.1)=ts.map (λt=>t.map Sum.inl))(bj:∀t∈ts,t≠[])(hl:ts.length < 64)(q:∀(p:Addr) (qs:ah) (us:az),H p=none->dW H qs us->us.Perm ts->us.Pairwise (λa b=>gL b a=false)->Q (.ref p) (upd H p (.lst (qs.map V.ref)))):OX [.ref d] H Q:=⟨d,kvs,ts,rfl,h,e,bj,hl,q⟩
end
end L2
namespace L2
open PySem PySem.Spec PyProof.Rows
section
variable{X:Cx}
def NG(K:W.Frag):R2:=λx y H Q=>∃(a b:Addr) (xs:List V),x=.ref a/\y=.ref b/\bR K H a xs/\bR K H b []/\Q (.bl (!xs.isEmpty)) H
theorem aQn(hu:X.A.units+9 < cLine):uZ X (compareOp .NotEq) (NG X.K):=by
 intro pins s σ H x y v u Q I rx ry h;obtain⟨a,b,xs,rfl,rfl,h1,h2,q⟩:=h;cases rx;cases ry;have fin:EP X pins σ Q (.bool (!xs.isEmpty)) s:=⟨.bl (!xs.isEmpty),H,I,rfl,q⟩
 obtain⟨us,r1,p1,_⟩:=I.list h1;obtain⟨vs,r2,p2,_⟩:=I.list h2;cases r2;cases xs with
 |nil=>
  cases r1;refine SeqAt.RcNeAt.lists (e:=λ_=>true) p1.isList p2.isList rfl (by lia) (λj h1 h2=>by simp at h1) X.prog X.w X.xe _ ?_;exact fin
 |cons z zs=>
  cases r1 with
  |cons hz ht=>exact SeqAt.RcNeAt.lists_lengths p1.isList p2.isList (by simp) (by lia) X.prog X.w X.xe _ fin
end
section
variable{K:W.Frag}{H:Hp}{Q:VK}
theorem aQo{xs:List V}(h1:H a=some (.lst xs))(h2:H b=some (.lst []))(h:Q (.bl (!xs.isEmpty)) H):NG K (.ref a) (.ref b) H Q:=⟨a,b,xs,rfl,rfl,bR.of h1,bR.of h2,h⟩
end
end L2
namespace L2
open PySem PySem.Spec PySem.W PyProof.Rows
end L2
namespace L2.Z
open PySem PySem.Spec PyProof.Rows
end L2.Z
namespace L2
open PySem
namespace ST
theorem least{P:Nat->Prop}:∀{n:Nat},P n->∃m,m<=n/\P m/\∀k,k < m->¬P k:=by
 intro n;induction n using Nat.strongRecOn with
 |_ n ih=>
  intro h;by_cases hx:∃k,k < n/\P k
  ·obtain⟨k,hk,pk⟩:=hx;obtain⟨m,a,b,c⟩:=ih k hk pk;exact⟨m,by lia,b,c⟩
  ·exact⟨n,d7 _,h,λk hk pk=>hx ⟨k,hk,pk⟩⟩
theorem Jj{α:Type}[DecidableEq α]:∀{l l':List α},l.Nodup->(∀x∈l,x∈l')->l.length<=l'.length
 |[],_,_,_=>dz _
 |a::l,l',hn,hs=>by
  rw[ni] at hn;have ha:=hs a jc;have:=Jj (l':=l'.erase a) hn.2 (λx hx=>(List.mem_erase_of_ne (λ(e:x=a)=>hn.1 (e▸hx))).mpr (hs x (fh _ hx)));rw[List.length_erase_of_mem ha] at this;have:0 < l'.length:=List.length_pos_of_mem ha;simp only[yW];lia
def ru(M i:Nat):Nat:=SetTable.runEnd M i - i
theorem aRx(M i:Nat):ru M i<=9:=by unfold ru SetTable.runEnd;split <;> lia
theorem Om{M i:Nat}(h:i<=M):i+ru M i<=M:=by unfold ru SetTable.runEnd;split <;> lia
def lp(M:Nat)(h:Int):Nat->Nat×Nat
 |0=>(SetTable.bits h % (M+1),SetTable.bits h)
 |k+1=>SetTable.leap M (lp M h k).1 (lp M h k).2
theorem Ol(M:Nat)(h:Int):∀k,(lp M h k).1<=M
 |0=>J9 (Nat.mod_lt _ (Nat.succ_pos _))
 |k+1=>J9 (Nat.mod_lt _ (Nat.succ_pos _))
theorem aNY(h:Int):SetTable.bits h < 2 ^ 64:=by unfold SetTable.bits;lia
theorem aL0(M:Nat)(h:Int):∀k,(lp M h k).2=SetTable.bits h / 32 ^ k
 |0=>by simp[lp]
 |k+1=>by
  show(lp M h k).2 / 32=_;rw[aL0 M h k,Nat.div_div_eq_div_mul,Nat.pow_succ]
theorem aQp(M:Nat)(h:Int)(k:Nat):(lp M h (13+k)).2=0:=by
 rw[aL0];apply Nat.div_eq_of_lt;have h1:=aNY h;have h2:32 ^ 13<=32 ^ (13+k):=Nat.pow_le_pow_right (by decide) (by lia);have h3:(2:Nat) ^ 64<=32 ^ 13:=by decide
 lia
def it(M:Nat):Nat->Nat->Nat
 |0,i=>i
 |k+1,i=>(it M k i*5+1) % (M+1)
theorem Js(M a i:Nat):∀b,it M (a+b) i=it M b (it M a i)
 |0=>rfl
 |b+1=>by
  show(it M (a+b) i*5+1) % (M+1)=_;rw[Js M a i b];rfl
theorem aOB(M:Nat)(h:Int):∀k,(lp M h (13+k)).1=it M k (lp M h 13).1
 |0=>rfl
 |k+1=>by
  show((lp M h (13+k)).1*5+1+(lp M h (13+k)).2 / 32) % (M+1)=_;rw[aQp,aOB M h k];rfl
def zr(M:Nat):Prop:=M=7\/M=31\/M=127
def Hw(M:Nat):Nat->Nat->List Nat
 |0,_=>[]
 |n+1,i=>i::Hw M n ((i*5+1) % (M+1))
theorem aIR{M:Nat}:∀{n k e:Nat},e∈Hw M n (it M k 0)->∃j,j < n/\it M (k+j) 0=e
 |0,_,_,h=>by cases h
 |n+1,k,e,h=>by
  rcases lQ.mp h with h|h
  ·exact⟨0,Nat.succ_pos _,h.symm⟩
  ·obtain⟨j,a,b⟩:=aIR (n:=n) (k:=k+1) h;exact⟨j+1,by lia,by rw[<-b];congr 1;lia⟩
theorem aR2{M:Nat}(hM:zr M):(∀e,e<=M->∃k,k < M+1/\it M k 0=e)/\it M (M+1) 0=0:=by
 have key:∀M,(List.range (M+1)).all (λe=>(Hw M (M+1) 0).contains e)=true->∀e,e<=M->∃k,k < M+1/\it M k 0=e:=λM h e he=>by
  have:=nj.mp h e (zU.mpr (by lia));obtain⟨j,a,b⟩:=aIR (k:=0) (by show e∈Hw M (M+1) 0;simpa using this);exact⟨j,a,by simpa using b⟩
 rcases hM with rfl|rfl|rfl
 ·exact⟨key _ (by decide +kernel),by decide +kernel⟩
 ·exact⟨key _ (by decide +kernel),by decide +kernel⟩
 ·exact⟨key _ (by decide +kernel),by decide +kernel⟩
theorem cov{M i e:Nat}(hM:zr M)(hi:i<=M)(he:e<=M):∃k,k < M+1/\it M k i=e:=by
 obtain⟨c,z⟩:=aR2 hM;obtain⟨a,ha,rfl⟩:=c i hi;obtain⟨b,hb,rfl⟩:=c e he;by_cases uv:a<=b
 ·exact⟨b - a,by lia,by rw[<-Js];congr 1;lia⟩
 ·refine⟨b+(M+1) - a,by lia,?_⟩;rw[<-Js,show a+(b+(M+1) - a)=(M+1)+b by lia,Js,z]
theorem cover{M e:Nat}(hM:zr M)(he:e<=M)(h:Int):∃k,k<=13+M/\(lp M h k).1=e:=by
 obtain⟨k,hk,e1⟩:=cov hM (Ol M h 13) he;exact⟨13+k,by lia,by rw[aOB];exact e1⟩
def yn(M:Nat)(p:SetTable.Probe):SetTable.Probe:=
 if p.more > 0 then { p with j:=p.j+1,more:=p.more - 1 } else
 let (i,perturb):=SetTable.leap M p.i p.perturb
 { p with j:=i,more:=SetTable.runEnd M i - i,i,perturb }
def R(M:Nat)(h:Int)(k:Nat):SetTable.Probe:={ j:=(lp M h k).1,more:=ru M (lp M h k).1,i:=(lp M h k).1,perturb:=(lp M h k).2,dummy:=none }
def pt(M:Nat)(h:Int):Nat->SetTable.Probe
 |0=>R M h 0
 |n+1=>yn M (pt M h n)
theorem aL1(t:SetTable)(h:Int):t.probeStart h=pt t.mask h 0:=rfl
def pj(M:Nat)(h:Int)(n:Nat):Nat:=(pt M h n).j
theorem Ot(M:Nat)(h:Int):∀n,(pt M h n).dummy=none
 |0=>rfl
 |n+1=>by
  show(yn M (pt M h n)).dummy=none;unfold yn;split
  ·exact Ot M h n
  ·exact Ot M h n
theorem aOC(M:Nat)(h:Int):∀n,(pt M h n).j+(pt M h n).more<=M
 |0=>Om (Ol M h 0)
 |n+1=>by
  have ih:=aOC M h n;show(yn M (pt M h n)).j+(yn M (pt M h n)).more<=M;unfold yn;split
  ·dsimp only;lia
  ·exact Om (J9 (Nat.mod_lt _ (Nat.succ_pos _)))
theorem aOD(M:Nat)(h:Int)(n:Nat):pj M h n<=M:=by have:=aOC M h n;unfold pj;lia
theorem Jr{M:Nat}{h:Int}{k n:Nat}(e:pt M h n=R M h k):∀d,d<=ru M (lp M h k).1->pt M h (n+d)={ R M h k with j:=(lp M h k).1+d,more:=ru M (lp M h k).1 - d }
 |0,_=>e
 |d+1,hd=>by
  show yn M (pt M h (n+d))=_;rw[Jr e d (by lia)];unfold yn;rw[cJ (by dsimp only;lia)];rfl
theorem aIS{M:Nat}{h:Int}{k n:Nat}(e:pt M h n=R M h k):pt M h (n+ru M (lp M h k).1+1)=R M h (k+1):=by
 show yn M (pt M h (n+ru M (lp M h k).1))=_;rw[Jr e _ (d7 _)];unfold yn;rw[bV (by dsimp only;lia)];rfl
theorem aL3(M:Nat)(h:Int):∀k,∃n,n<=10*k/\pt M h n=R M h k
 |0=>⟨0,d7 _,rfl⟩
 |k+1=>by
  obtain⟨n,a,b⟩:=aL3 M h k;have:=aRx M (lp M h k).1;exact⟨_,by lia,aIS b⟩
def Cw(oc:Nat->Prop)(M:Nat)(h:Int)(n:Nat):Prop:=¬oc (pj M h n)/\∀m,m < n->oc (pj M h m)
def D2(oc:Nat->Prop)(M:Nat)(h:Int)(j:Nat):Prop:=∃n,pj M h n=j/\∀m,m < n->oc (pj M h m)
theorem D2.mono{oc Ec:Nat->Prop}{M:Nat}{h:Int}{j:Nat}(x:D2 oc M h j)(hm:∀i,oc i->Ec i):D2 Ec M h j:=let ⟨n,a,b⟩:=x;⟨n,a,λm hm'=>hm _ (b m hm')⟩
theorem aQq{oc:Nat->Prop}{M e:Nat}(hM:zr M)(he:e<=M)(ne:¬oc e)(h:Int):∃n,n<=10*(13+M)/\Cw oc M h n:=by
 obtain⟨k,hk,ek⟩:=cover hM he h;obtain⟨n,hn,en⟩:=aL3 M h k;obtain⟨m,a,b,c⟩:=least (P:=λn=>¬oc (pj M h n)) (n:=n) (by show ¬oc (pt M h n).j;rw[en];show ¬oc (lp M h k).1;rw[ek];exact ne);exact⟨m,by lia,b,λk' ky=>Classical.byContradiction λz=>c k' ky z⟩
def zo(xs:Array Nat):Prop:=∀i k,i < k->k < xs.size->xs.getD i 0 < xs.getD k 0
theorem aQr{xs:Array Nat}{i:Nat}(hi:i < xs.size)(d:Nat):xs.getD i d=xs.getD i 0:=by simp[Array.getD,hi]
def Cut(xs:Array Nat)(j r:Nat):Prop:=r<=xs.size/\(∀i,i < r->xs.getD i 0 < j)/\∀i,r<=i->i < xs.size->j<=xs.getD i 0
theorem Py{xs:Array Nat}{j:Nat}(hr:zo xs):∀f lo hi,hi - lo<=f->lo<=hi->hi<=xs.size->(∀i,i < lo->xs.getD i 0 < j)->(∀i,hi<=i->i < xs.size->j<=xs.getD i 0)->Cut xs j (SetTable.below.go xs j f lo hi)
 |0,lo,hi,hf,h1,h2,h3,h4=>by
  have e:lo=hi:=by lia
  subst e;exact⟨h2,h3,h4⟩
 |f+1,lo,hi,hf,h1,h2,h3,h4=>by
  unfold SetTable.below.go;split
  ·rename_i br;have hm:(lo+hi) / 2 < xs.size:=by lia
   dsimp only;rw[aQr hm];by_cases hl:xs.getD ((lo+hi) / 2) 0 < j
   ·rw[cJ hl];refine Py hr f ((lo+hi) / 2+1) hi (by lia) (by lia) h2 (λi jw=>?_) h4;by_cases z:i=(lo+hi) / 2
    ·rw[z];exact hl
    ·exact wy (hr i ((lo+hi) / 2) (by lia) hm) hl
   ·rw[bV hl];refine Py hr f lo ((lo+hi) / 2) (by lia) (by lia) (by lia) h3 (λi jw hs=>?_);by_cases z:i=(lo+hi) / 2
    ·rw[z];lia
    ·have:=hr ((lo+hi) / 2) i (by lia) hs;lia
  ·have e:lo=hi:=by lia
   subst e;exact⟨h2,h3,h4⟩
theorem yE{xs:Array Nat}(hr:zo xs)(j:Nat):Cut xs j (SetTable.below xs j):=
 Py hr _ _ _ (by lia) (by lia) (d7 _) (λi hi=>by lia) (λi a b=>by lia)
theorem DA{xs:Array Nat}{i j:Nat}(h:xs[i]?=some j):i < xs.size/\xs.getD i 0=j:=by
 obtain⟨a,b⟩:=zm.mp h;exact⟨a,by simp[Array.getD,a,b]⟩
theorem below_at{xs:Array Nat}(hr:zo xs){i j:Nat}(h:xs[i]?=some j):SetTable.below xs j=i:=by
 obtain⟨a,b⟩:=DA h;obtain⟨c1,c2,c3⟩:=yE hr j;rcases Nat.lt_trichotomy (SetTable.below xs j) i with z|z|z
 ·have h1:=c3 _ (d7 _) (by lia);have h2:=hr _ _ z a;lia
 ·exact z
 ·have:=c2 i z;lia
theorem P2{t:SetTable}(hr:zo t.place){i j:Nat}(h:t.place[i]?=some j):t.slot j=.live i:=by
 unfold SetTable.slot;dsimp only;rw[below_at hr h,h];simp
theorem aIT(j:Nat):SetTable.has #[] j=false:=by simp[SetTable.has]
theorem aH0{t:SetTable}(hd:t.dummies = #[]){j:Nat}(h:j∉t.place.toList):t.slot j=.empty:=by
 unfold SetTable.slot;dsimp only;rw[hd,aIT];have:(t.place[SetTable.below t.place j]? == some j)=false:=by
  rw[beq_eq_false_iff_ne];intro z;exact h (by rw[<-Array.mem_def];exact Array.mem_of_getElem? z)
 rw[this];rfl
theorem aGK{t:SetTable}(hd:t.dummies = #[])(hr:zo t.place){h:Int}{ha:Nat->Int}{N:Nat}(F:Cw (·∈t.place.toList) t.mask h N):∀f m,m<=N->N < f+m->
  (SetTable.probe.go t ha h f (pt t.mask h m)=some (.empty (pj t.mask h N) none)/\∀n i,m<=n->n < N->t.place[i]?=some (pj t.mask h n)->ha i≠h)\/
  ∃n i,m<=n/\n < N/\t.place[i]?=some (pj t.mask h n)/\ha i=h/\SetTable.probe.go t ha h f (pt t.mask h m)=some (.candidate (pj t.mask h n) i (pt t.mask h (n+1)))/\∀n' i',m<=n'->n' < n->t.place[i']?=some (pj t.mask h n')->ha i'≠h
 |0,m,h1,h2=>by lia
 |f+1,m,h1,h2=>by
  by_cases e:m=N
  ·subst e;left;refine⟨?_,λn i a b=>by lia⟩;unfold SetTable.probe.go;rw[show(pt t.mask h m).j=pj t.mask h m from rfl,aH0 hd F.1,Ot]
  ·have hm:m < N:=by lia
   have dt:=F.2 m hm;obtain⟨i,hi⟩:=Cq.mp dt;rw[jq] at hi;have hs:=P2 hr hi;by_cases hh:ha i=h
   ·right;refine⟨m,i,d7 _,hm,hi,hh,?_,λn' i' a b=>by lia⟩;unfold SetTable.probe.go;rw[show(pt t.mask h m).j=pj t.mask h m from rfl,hs];simp only[hh,beq_self_eq_true,if_true];rfl
   ·have eg:SetTable.probe.go t ha h (f+1) (pt t.mask h m)=SetTable.probe.go t ha h f (pt t.mask h (m+1)):=by
     rw[SetTable.probe.go.eq_2];rw[show(pt t.mask h m).j=pj t.mask h m from rfl,hs];simp only[beq_iff_eq,hh,if_false];rfl
    rw[eg];have no:∀n i',m<=n->¬m+1<=n->t.place[i']?=some (pj t.mask h n)->ha i'≠h:=λn i' a b z=>by
     have en:n=m:=by lia
     subst en;have:i'=i:=by rw[<-below_at hr z,below_at hr hi]
     rw[this];exact hh
    rcases aGK hd hr F f (m+1) (by lia) (by lia) with ⟨a,b⟩|⟨n,i2,a,b,c,d,e',g⟩
    ·exact .inl ⟨a,λn i' x y z=>if w:m+1<=n then b n i' w y z else no n i' x w z⟩
    ·exact .inr ⟨n,i2,by lia,b,c,d,e',λn' i' x y z=>if w:m+1<=n' then g n' i' w y z else no n' i' x w z⟩
theorem mK{α:Type}{xs:Array α}{p:Nat}(hp:p<=xs.size)(x:α)(i:Nat):(SetTable.insertAt xs p x)[i]?=if i < p then xs[i]? else if i=p then some x else xs[i - 1]?:=by
 have e:(SetTable.insertAt xs p x).toList=xs.toList.take p++x::xs.toList.drop p:=by
  simp[SetTable.insertAt,List.extract_eq_take_drop,As]
 rw[<-jq,e];have hl:(xs.toList.take p).length=p:=by simp;lia
 split
 ·rename_i h;rw[kr (by lia),Qv h,jq]
 ·rename_i h;rw[nu (by lia),hl];split
  ·rename_i h2;rw[h2];simp
  ·rename_i h2;rw[show i - p=(i - 1 - p)+1 by lia,List.getElem?_cons_succ,FC,jq,show p+(i - 1 - p)=i - 1 by lia]
theorem Px{α:Type}{xs:Array α}{p:Nat}(hp:p<=xs.size)(x:α):(SetTable.insertAt xs p x).size=xs.size+1:=by
 simp[SetTable.insertAt];lia
theorem aIU{α:Type}{xs:Array α}{p:Nat}(hp:p<=xs.size)(x y:α):y∈(SetTable.insertAt xs p x).toList↔y=x\/y∈xs.toList:=by
 have e:(SetTable.insertAt xs p x).toList=xs.toList.take p++x::xs.toList.drop p:=by
  simp[SetTable.insertAt,List.extract_eq_take_drop,As]
 rw[e,iy,lQ];conv=>rhs;rw[<-List.take_append_drop p xs.toList,iy]
 constructor
 ·rintro (h|h|h)
  ·exact .inr (.inl h)
  ·exact .inl h
  ·exact .inr (.inr h)
 ·rintro (h|h|h)
  ·exact .inr (.inl h)
  ·exact .inl h
  ·exact .inr (.inr h)
theorem aIV{xs:Array Nat}:zo xs↔∀(i k a b:Nat),i < k->xs[i]?=some a->xs[k]?=some b->a < b:=by
 constructor
 ·intro h i k a b BY ha hb;obtain⟨a1,a2⟩:=DA ha;obtain⟨b1,b2⟩:=DA hb;have:=h i k BY b1;lia
 ·intro h i k BY hk;have:=h i k _ _ BY (ma (by lia:i < xs.size)) (ma hk);simpa [Array.getD,hk,(by lia:i < xs.size)] using this
theorem aIW{xs:Array Nat}{j:Nat}:j∈xs.toList↔∃i:Nat,xs[i]?=some j:=by
 rw[Cq];simp only[jq]
theorem aNZ{xs:Array Nat}{j:Nat}(hr:zo xs)(hj:j∉xs.toList):zo (SetTable.insertAt xs (SetTable.below xs j) j):=by
 obtain⟨c1,c2,c3⟩:=yE hr j;rw[aIV] at hr ⊢;intro i k a b BY ha hb;rw[mK c1] at ha hb;have lo:∀i a,i < SetTable.below xs j->xs[i]?=some a->a < j:=λi a h z=>by have:=c2 i h;rw[(DA z).2] at this;exact this
 have hi:∀i a,SetTable.below xs j<=i->xs[i]?=some a->j < a:=λi a h z=>by
  have h1:=c3 i h (DA z).1;rw[(DA z).2] at h1;have:a≠j:=λe=>hj (aIW.mpr ⟨i,by rw[<-e];exact z⟩);lia
 split at ha
 ·rename_i h1;split at hb
  ·exact hr i k a b BY ha hb
  ·split at hb
   ·cases hb;exact lo i a h1 ha
   ·exact hr i (k - 1) a b (by lia) ha hb
 ·split at ha
  ·rename_i h2;cases ha;split at hb
   ·lia
   ·split at hb
    ·lia
    ·exact hi _ _ (by lia) hb
  ·split at hb
   ·lia
   ·split at hb
    ·lia
    ·exact hr (i - 1) (k - 1) a b (by lia) ha hb
structure Tab(t:SetTable)(es:Array (Int×Value)):Prop where
 dm:t.dummies = #[]
 sz:t.place.size=es.size
 zz:zo t.place
 top:∀j∈t.place.toList,j<=t.mask
 Dc:zr t.mask
 room:t.place.size<=t.mask
 K6:∀(i j:Nat) (e:Int×Value),t.place[i]?=some j->es[i]?=some e->D2 (·∈t.place.toList) t.mask e.1 j
theorem Tab.hole{t:SetTable}{es:Array (Int×Value)}(T:Tab t es):∃e,e<=t.mask/\e∉t.place.toList:=by
 apply Classical.byContradiction;intro hx;have h1:=Jj (l:=List.range (t.mask+1)) (l':=t.place.toList) List.nodup_range (λx hm=>Classical.byContradiction λz=>hx ⟨x,by have:=zU.mp hm;lia,z⟩);rw[List.length_range,jf] at h1;have:=T.room;lia
theorem Tab.fits{t:SetTable}{es:Array (Int×Value)}(T:Tab t es):t.fits es.size=true:=by
 unfold SetTable.fits SetTable.fill;rw[T.dm];have:=T.room;simp[T.sz];rw[<-T.sz];exact this
theorem Tab.first{t:SetTable}{es:Array (Int×Value)}(T:Tab t es)(h:Int):∃n,n<=10*(13+t.mask)/\Cw (·∈t.place.toList) t.mask h n:=by
 obtain⟨e,a,b⟩:=T.hole;exact aQq T.Dc a b h
theorem Tab.put{t:SetTable}{es:Array (Int×Value)}(T:Tab t es){h:Int}{N:Nat}(F:Cw (·∈t.place.toList) t.mask h N)(hz:es.size+1<=t.mask)(x:Value) :
  (t.put (pj t.mask h N)).1={ t with place:=SetTable.insertAt t.place (SetTable.below t.place (pj t.mask h N)) (pj t.mask h N) }/\(t.put (pj t.mask h N)).2=SetTable.below t.place (pj t.mask h N)/\
  Tab { t with place:=SetTable.insertAt t.place (SetTable.below t.place (pj t.mask h N)) (pj t.mask h N) } (SetTable.insertAt es (SetTable.below t.place (pj t.mask h N)) (h,x)):=by
 obtain⟨c1,c2,c3⟩:=yE T.zz (pj t.mask h N);have c1':SetTable.below t.place (pj t.mask h N)<=es.size:=by rw[<-T.sz];exact c1
 refine⟨?_,rfl,?_⟩
 ·unfold SetTable.put;dsimp only;rw[T.dm,aIT];rfl
 ·refine⟨T.dm,by dsimp only;rw[Px c1,Px c1',T.sz],aNZ T.zz F.1,λj hj=>?_,T.Dc,by dsimp only;rw[Px c1,T.sz];exact hz,λi j e hi he=>?_⟩
  ·rcases(aIU c1 _ _).mp hj with rfl|hj
   ·exact aOD ..
   ·exact T.top j hj
  ·dsimp only at hi ⊢;rw[mK c1] at hi;rw[mK c1'] at he;have up:∀i,i∈t.place.toList->i∈(SetTable.insertAt t.place (SetTable.below t.place (pj t.mask h N)) (pj t.mask h N)).toList:=λi hi=>(aIU c1 _ _).mpr (.inr hi);split at hi
   ·rename_i q;rw[cJ q] at he;exact(T.K6 i j e hi he).mono up
   ·rename_i q;rw[bV q] at he;split at hi
    ·rename_i q2;rw[cJ q2] at he;cases hi;cases he;exact⟨N,rfl,λm hm=>up _ (F.2 m hm)⟩
    ·rename_i q2;rw[bV q2] at he;exact(T.K6 _ j e hi he).mono up
theorem Tab.on{t:SetTable}{es:Array (Int×Value)}(T:Tab t es){h:Int}{N:Nat}(F:Cw (·∈t.place.toList) t.mask h N){i:Nat}(hi:es[i]?=some (h,y)):∃n,n < N/\t.place[i]?=some (pj t.mask h n):=by
 have hl:i < t.place.size:=by rw[T.sz];exact(zm.mp hi).1
 have hp:t.place[i]?=some t.place[i]:=ma hl;obtain⟨n,a,b⟩:=T.K6 i _ _ hp hi;have dt:pj t.mask h n∈t.place.toList:=aIW.mpr ⟨i,by rw[hp];exact congrArg some a.symm⟩;refine⟨n,?_,by rw[hp];exact congrArg some a.symm⟩;rcases Nat.lt_trichotomy n N with z|z|z
 ·exact z
 ·rw[z] at dt;exact absurd dt F.1
 ·exact absurd (b N z) F.1
def oc(ow:Array (Option Nat))(j:Nat):Prop:=∃i,ow[j]?=some (some i)
theorem aIX{ow:Array (Option Nat)}{M:Nat}{h:Int}{K:Nat}(hs:ow.size=M+1)(hK:¬oc ow (lp M h K).1):∀f k n,pt M h n=R M h k->(∀m,m < n->oc ow (pj M h m))->k<=K->K < f+k->
  ∃N,SetTable.layClean.free M ow f (lp M h k).1 (lp M h k).2=some (pj M h N)/\Cw (oc ow) M h N
 |0,k,n,e,ho,h1,h2=>by lia
 |f+1,k,n,e,ho,h1,h2=>by
  have LC:∀d,d<=ru M (lp M h k).1->((ow.getD ((lp M h k).1+d) (some 0)).isNone=true↔¬oc ow (pj M h (n+d))):=λd hd=>by
   have ej:pj M h (n+d)=(lp M h k).1+d:=by unfold pj;rw[Jr e d hd]
   rw[ej];have hl:(lp M h k).1+d < ow.size:=by have:=Om (Ol M h k);lia
   have e2:ow[(lp M h k).1+d]?=some ow[(lp M h k).1+d]:=ma hl;have e3:ow.getD ((lp M h k).1+d) (some 0)=ow[(lp M h k).1+d]:=by simp[Array.getD,hl]
   rw[e3];unfold oc;rw[e2];cases ow[(lp M h k).1+d] <;> simp
  have er:SetTable.runEnd M (lp M h k).1+1 - (lp M h k).1=ru M (lp M h k).1+1:=by unfold ru SetTable.runEnd;split <;> lia
  unfold SetTable.layClean.free;rw[er];split
  ·rename_i d hd;have hp:=List.find?_some hd;have hm:=Qw hd;have HX:d<=ru M (lp M h k).1:=by have:=zU.mp hm;lia
   refine⟨n+d,?_,(LC d HX).mp hp,λm hm=>?_⟩
   ·unfold pj;rw[Jr e d HX]
   ·by_cases z:m < n
    ·exact ho m z
    ·have z2:m - n < d:=by lia
     apply Classical.byContradiction;intro q;rw[show m=n+(m - n) by lia] at q;have:=(LC (m - n) (by lia)).mpr q;obtain⟨_,as,bs,e1,e2⟩:=List.find?_eq_some_iff_append.mp hd;have ed:as.length=d:=by
      have h3:(List.range (ru M (lp M h k).1+1))[as.length]?=some d:=by rw[e1];simp
      rw[List.getElem?_range (by have:=congrArg List.length e1;simp at this;lia)] at h3;exact Option.some.inj h3
     have h4:as[m - n]?=some (m - n):=by
      have h3:(List.range (ru M (lp M h k).1+1))[m - n]?=some (m - n):=List.getElem?_range (by lia);rw[e1,kr (by lia)] at h3;exact h3
     have h5:=e2 _ (iI h4);rw[this] at h5;simp at h5
  ·rename_i hd;have all:∀d,d<=ru M (lp M h k).1->oc ow (pj M h (n+d)):=λd HX=>by
    have:=List.find?_eq_none.mp hd d (zU.mpr (by lia));exact Classical.byContradiction λz=>this ((LC d HX).mpr z)
   have hkK:k≠K:=λz=>by
    subst z;have:=all 0 (dz _);rw[DR] at this;unfold pj at this;rw[e] at this;exact hK this
   exact aIX hs hK f (k+1) (n+ru M (lp M h k).1+1) (aIS e) (λm hm=>if z:m < n then ho m z else by
    have:=all (m - n) (by lia);rw[show n+(m - n)=m by lia] at this;exact this) (by lia) (by lia)
structure Lay(M:Nat)(hs:aa)(ow:Array (Option Nat))(k:Nat):Prop where
 sz:ow.size=M+1
 at_:∀(j i:Nat),ow[j]?=some (some i)->i < k/\∃h,hs[i]?=some h/\D2 (oc ow) M h j
 all:∀i,i < k->∃j:Nat,ow[j]?=some (some i)
 inj:∀(j j' i:Nat),ow[j]?=some (some i)->ow[j']?=some (some i)->j=j'
theorem Lay.hole{M:Nat}{hs:aa}{ow:Array (Option Nat)}{k:Nat}(L:Lay M hs ow k)(hk:k<=M):∃e,e<=M/\¬oc ow e:=by
 apply Classical.byContradiction;intro hx;have full:∀e,e<=M->oc ow e:=λe he=>Classical.byContradiction λz=>hx ⟨e,he,z⟩;have nd:((List.range (M+1)).map λj=>(ow.getD j none).getD 0).Nodup:=by
  unfold List.Nodup;rw[pd];refine List.Pairwise.imp_of_mem ?_ List.pairwise_lt_range;intro a b ha hb uv z;obtain⟨i,hi⟩:=full a (by have:=zU.mp ha;lia);obtain⟨i',jw⟩:=full b (by have:=zU.mp hb;lia);rw[Cr,Cr,hi,jw] at z;have z2:i=i':=z;subst z2;have:=L.inj a b i hi jw;lia
 have:=Jj (l':=List.range k) nd (λx hx=>by
  obtain⟨j,hj,rfl⟩:=mD.mp hx;obtain⟨i,hi⟩:=full j (by have:=zU.mp hj;lia);rw[Cr,hi];exact zU.mpr (L.at_ j i hi).1)
 simp at this;lia
theorem aL4{M:Nat}{hs:aa}{ow:Array (Option Nat)}{k:Nat}(hM:zr M)(L:Lay M hs ow k)(hk:k<=M){h:Int}(hh:hs[k]?=some h) :
  ∃j,SetTable.layClean.free M ow (SetTable.turns M) (SetTable.bits h % (M+1)) (SetTable.bits h)=some j/\Lay M hs (ow.setIfInBounds j (some k)) (k+1):=by
 obtain⟨e,he,ne⟩:=L.hole hk;obtain⟨K,hK,eK⟩:=cover hM he h;obtain⟨N,fN,F⟩:=aIX (K:=K) L.sz (by rw[eK];exact ne) (SetTable.turns M) 0 0 rfl (λm hm=>by lia) (dz _) (by unfold SetTable.turns;lia);have jl:pj M h N < ow.size:=by have:=aOD M h N;have:=L.sz;lia
 have un:∀j,(ow.setIfInBounds (pj M h N) (some k))[j]?=if pj M h N=j then some (some k) else ow[j]?:=λj=>by
  rw[Array.getElem?_setIfInBounds];split <;> first|rfl|rw[cJ jl]|(split <;> first|rfl|lia)
 have up:∀j,oc ow j->oc (ow.setIfInBounds (pj M h N) (some k)) j:=λj ⟨i,hi⟩=>by
  unfold oc;rw[un];split
  ·exact⟨k,rfl⟩
  ·exact⟨i,hi⟩
 refine⟨pj M h N,fN,by simp[L.sz],λj i hi=>?_,λi hi=>?_,λj j' i hi jw=>?_⟩
 ·rw[un] at hi;split at hi
  ·rename_i z;cases hi;exact⟨Bk _,h,hh,⟨N,z,λm hm=>up _ (F.2 m hm)⟩⟩
  ·obtain⟨a,h',b,c⟩:=L.at_ j i hi;exact⟨by lia,h',b,c.mono up⟩
 ·by_cases z:i=k
  ·exact⟨pj M h N,by rw[un,cJ rfl,z]⟩
  ·obtain⟨j,hj⟩:=L.all i (by lia);exact⟨j,by rw[un,bV (λq=>F.1 ⟨i,by rw[q];exact hj⟩)];exact hj⟩
 ·rw[un] at hi jw;split at hi
  ·rename_i z;split at jw
   ·rename_i z';rw[<-z,z']
   ·cases hi;have:=(L.at_ _ _ jw).1;lia
  ·split at jw
   ·cases jw;have:=(L.at_ _ _ hi).1;lia
   ·exact L.inj _ _ _ hi jw
theorem aIY{M:Nat}{hs:aa}(hM:zr M)(hz:hs.length<=M):∀(r:aa) (ow:Array (Option Nat)) (k:Nat),hs.drop k=r->Lay M hs ow k->∃ow',List.foldl (λ(acc:Option (Array (Option Nat)×Nat)) (h:Int)=>do
   let (owner,k) <-acc
   let j <-SetTable.layClean.free M owner (SetTable.turns M) (SetTable.bits h % (M+1)) (SetTable.bits h)
   pure (owner.setIfInBounds j (some k),k+1)) (some (ow,k)) r=some (ow',hs.length)/\Lay M hs ow' hs.length
 |[],ow,k,e,L=>by
  have h1:hs.length<=k:=by have:=congrArg List.length e;simp at this;lia
  have h2:k<=hs.length:=Classical.byContradiction λz=>by
   obtain⟨j,hj⟩:=L.all hs.length (by lia);obtain⟨_,h,b,_⟩:=L.at_ j _ hj;rw[xc (d7 _)] at b;cases b
  have e2:k=hs.length:=by lia
  subst e2;exact⟨ow,rfl,L⟩
 |h::r,ow,k,e,L=>by
  have hk:k < hs.length:=Classical.byContradiction λz=>by rw[List.drop_eq_nil_of_le (by lia)] at e;cases e
  have hh:hs[k]?=some h:=by
   have:(hs.drop k)[0]?=some h:=by rw[e];rfl
   rw[FC] at this;exact this
  obtain⟨j,fj,L'⟩:=aL4 hM L (by lia) hh;rw[List.foldl_cons];have:(do
   let (owner,k) <-some (ow,k)
   let j <-SetTable.layClean.free M owner (SetTable.turns M) (SetTable.bits h % (M+1)) (SetTable.bits h)
   pure (owner.setIfInBounds j (some k),k+1):Option (Array (Option Nat)×Nat))=some (ow.setIfInBounds j (some k),k+1):=by
   show(SetTable.layClean.free M ow (SetTable.turns M) (SetTable.bits h % (M+1)) (SetTable.bits h)).bind _=_;rw[fj];rfl
  rw[this];exact aIY hM hz r _ (k+1) (by rw[<-List.drop_drop,e];rfl) L'
theorem aN0{M:Nat}{hs:Array Int}(hM:zr M)(hz:hs.size<=M)(fg mv:Nat)(led plain:Bool):∃(pl od:Array Nat),SetTable.laid M fg mv led plain hs=some ({ mask:=M,place:=pl,dummies:=#[],finger:=fg,led:=led,moves:=mv,plain:=plain },od)/\
  od.toList.Perm (List.range hs.size)/\zo pl/\(∀j∈pl.toList,j<=M)/\pl.size=od.size/\∀(i j k:Nat),pl[i]?=some j->od[i]?=some k->∃h,hs[k]?=some h/\D2 (·∈pl.toList) M h j:=by
 have nor:∀(j i:Nat),¬(Array.replicate (M+1) (none:Option Nat))[j]?=some (some i):=λj i hi=>by
  rw[Array.getElem?_replicate] at hi;split at hi <;> cases hi
 obtain⟨ow,e,L⟩:=aIY (hs:=hs.toList) hM (by simpa using hz) hs.toList (Array.replicate (M+1) none) 0 rfl ⟨by simp,λj i hi=>absurd hi (nor j i),λi hi=>by lia,λj j' i hi=>absurd hi (nor j i)⟩;have e1:SetTable.layClean M hs=some ow:=by
  unfold SetTable.layClean;rw[<-Array.foldl_toList,e];rfl
 generalize LZ:((List.range (M+1)).filterMap λj=>(ow.getD j none).map (j,·))=lv;have mem:∀j i,(j,i)∈lv↔ow[j]?=some (some i):=λj i=>by
  rw[<-LZ,Km];constructor
  ·rintro ⟨a,ha,b⟩;rw[Cr] at b;cases h:ow[a]? with
   |none=>rw[h] at b;cases b
   |some o=>
    rw[h] at b;cases o with
    |none=>cases b
    |some x=>cases b;exact h
  ·intro h;refine⟨j,zU.mpr ?_,?_⟩
   ·have:=(zm.mp h).1;rw[L.sz] at this;exact this
   ·rw[Cr,h];rfl
 have pw:lv.Pairwise λa b=>a.1 < b.1:=by
  rw[<-LZ];refine List.Pairwise.filterMap _ ?_ List.pairwise_lt_range;intro a a' h b hb b' jx;obtain⟨_,_,rfl⟩:=yQ.mp hb;obtain⟨_,_,rfl⟩:=yQ.mp jx;exact h
 refine⟨(lv.map (·.1)).toArray,(lv.map (·.2)).toArray,?_,?_,?_,?_,by simp,?_⟩
 ·unfold SetTable.laid;rw[e1];show some _=some _;rw[LZ]
 ·have nd:(lv.map (·.2)).Nodup:=by
   unfold List.Nodup;rw[pd];refine List.Pairwise.imp_of_mem ?_ pw;intro a b ha hb uv z;have:=L.inj a.1 b.1 a.2 ((mem _ _).mp ha) (by rw[z];exact(mem _ _).mp hb);lia
  show(lv.map (·.2)).Perm _;refine(List.perm_ext_iff_of_nodup nd List.nodup_range).mpr λk=>?_;rw[mD,zU];constructor
  ·rintro ⟨⟨j,i⟩,h,rfl⟩;have:=(L.at_ j i ((mem _ _).mp h)).1;simpa using this
  ·intro hk;obtain⟨j,hj⟩:=L.all k (by simpa using hk);exact⟨(j,k),(mem _ _).mpr hj,rfl⟩
 ·rw[aIV];intro i k a b BY ha hb;have p2:(lv.map (·.1)).Pairwise (·< ·):=by rw[pd];exact pw
  rw[Qs] at ha hb;obtain⟨h1,h2⟩:=g0.mp ha;obtain⟨h3,h4⟩:=g0.mp hb;have:=FG.mp p2 i k h1 h3 BY;rw[h2,h4] at this;exact this
 ·intro j hj;obtain⟨⟨j',i⟩,h,rfl⟩:=mD.mp hj;have:=(zm.mp ((mem _ _).mp h)).1;rw[L.sz] at this;exact J9 this
 ·intro i j k hj hk;rw[Qs,hE] at hj hk;obtain⟨⟨j',k'⟩,e5,rfl⟩:=yQ.mp hj;rw[e5] at hk;cases hk;obtain⟨_,h,e6,e7⟩:=L.at_ j' k' ((mem _ _).mp (iI e5));refine⟨h,by rw[<-jq];exact e6,e7.mono λq ⟨z,hz⟩=>?_⟩;exact mD.mpr ⟨(q,z),(mem _ _).mpr hz,rfl⟩
theorem aJZ{t:SetTable}{es:Array (Int×Value)}{W:Nat}(hM:zr (SetTable.sizeAbove W - 1))(hz:es.size<=SetTable.sizeAbove W - 1) :
  ∃(pl od:Array Nat),t.relaid (es.map (·.1)) W=some ({ mask:=SetTable.sizeAbove W - 1,place:=pl,dummies:=#[],finger:=t.finger,led:=t.led,moves:=t.movedTo (SetTable.sizeAbove W - 1),plain:=t.plain },od)/\
  (od.filterMap (es[·]?)).toList.Perm es.toList/\Tab { mask:=SetTable.sizeAbove W - 1,place:=pl,dummies:=#[],finger:=t.finger,led:=t.led,moves:=t.movedTo (SetTable.sizeAbove W - 1),plain:=t.plain } (od.filterMap (es[·]?)):=by
 obtain⟨pl,od,e1,e2,e3,e4,e5,e6⟩:=aN0 (hs:=es.map (·.1)) hM (by simpa using hz) t.finger (t.movedTo (SetTable.sizeAbove W - 1)) t.led t.plain;rw[Array.size_map] at e2;have ef:(List.range es.size).filterMap (λi=>es[i]?)=es.toList:=by
  refine Co λn=>?_;have:∀m,m<=es.size->(List.range m).filterMap (λi=>es[i]?)=es.toList.take m:=λm=>by
   induction m with
   |zero=>intro _;rfl
   |succ m ih=>
    intro hm;rw[List.range_succ,Qr,ih (by lia),List.take_succ,jq,ma (show m < es.size by lia)];simp[List.filterMap,ma (show m < es.size by lia)]
  rw[this es.size (d7 _),As (by simp)]
 have pm:(od.filterMap (es[·]?)).toList.Perm es.toList:=by
  rw[Array.toList_filterMap,<-ef];exact e2.filterMap _
 have each:∀k∈od.toList,∃e,es[k]?=some e:=λk hk=>by
  have:=zU.mp (e2.mem_iff.mp hk);exact⟨_,ma this⟩
 have ix:∀(l:List Nat),(∀k∈l,∃e,es[k]?=some e)->∀(i:Nat) (e:Int×Value),(l.filterMap (es[·]?))[i]?=some e->∃k,l[i]?=some k/\es[k]?=some e:=λl=>by
  induction l with
  |nil=>intro _ i e h;simp at h
  |cons a l ih=>
   intro ha i e h;obtain⟨x,hx⟩:=ha a jc;rw[List.filterMap_cons_some hx] at h;cases i with
   |zero=>cases h;exact⟨a,rfl,hx⟩
   |succ i=>exact ih (λk hk=>ha k (fh _ hk)) i e h
 have sz:(od.filterMap (es[·]?)).size=es.size:=by have:=pm.length_eq;rw[jf,jf] at this;exact this
 have so:od.size=es.size:=by have:=e2.length_eq;simpa using this
 refine⟨pl,od,e1,pm,rfl,by dsimp only;rw[e5,sz,so],e3,e4,hM,by dsimp only;rw[e5,so];exact hz,λi j e hi he=>?_⟩;rw[<-jq,Array.toList_filterMap] at he;obtain⟨k,hk,ek⟩:=ix od.toList each i e he;obtain⟨h,h1,h2⟩:=e6 i j k hi (by rw[<-jq];exact hk);rw[Array.getElem?_map,ek] at h1;cases h1;exact h2
end ST
end L2
namespace L2
open PySem PySem.Spec PySem.W PyProof.Rows
section
variable{prog:Program}{w:World}{K:Type}[DecidableEq K]{A:Around}{E:aj}{s:Shared}
structure DM(kd:HeapKind prog w K):Prop where
 dh:∀{h h':Heap} {k:K} {b:Addr},kd.is h k b->(∀(b:Addr) (o:Obj),o.cls=.type "tuple"->h.get? b=some o->h'.get? b=some o)->kd.is h' k b
 BC:∀{A:Around} {E:aj} {s:Shared} {k:K} {b:Addr} {Q:Bool->Shared->Prop},kd.is s.heap k b->Q true s->wpAny (model prog w) A (hashByValue 8 (.ref b)) Q E s
 xy:∀{A:Around} {E:aj} {s:Shared} {k:K} {b:Addr} {Q:Bool->Shared->Prop},kd.is s.heap k b->Q false s->wpAny (model prog w) A (ofAClassStatement 8 (.ref b)) Q E s
theorem aL5(b:Addr)(es:Array (Int×Value)):byScan (.ref b) es=false:=by simp[byScan,Value.scannable]
theorem aN1{kd:HeapKind prog w K}(S:DM kd)(hb:kd.is s.heap k b){Q:Bool->Shared->Prop}(hQ:Q false s):∀{l:af},(∀y∈l,∃k' b',y=.ref b'/\kd.is s.heap k' b')->wpAny (model prog w) A (searchCouldBeSeen (.ref b) l) Q E s:=by
 intro l hl;unfold searchCouldBeSeen;refine aR (wpAny_forIn_list _ (λrest r s'=>r.1=none/\s'=s/\∀y∈rest,∃k' b',y=.ref b'/\kd.is s.heap k' b') _ ?_ ?_ _ _ ⟨rfl,rfl,hl⟩)
 ·rintro y rest r s' ⟨hr,rfl,fi⟩;obtain⟨k',b',rfl,jx⟩:=fi y jc;dsimp only;by_cases hv:((b == b') || (carriedByValue (Value.ref b) && carriedByValue (Value.ref b')))=true
  ·rw[cJ hv];exact bI ⟨rfl,rfl,λu yw=>fi u (fh _ yw)⟩
  ·rw[bV hv];refine aR (kd.quiet hb ?_);simp only[DS,u9,if_false];refine aR (kd.quiet jx ?_);simp only[DS,u9,if_false];refine aR (S.xy hb ?_);simp only[u9,if_false];refine aR (S.xy jx ?_);simp only[u9,if_false];exact bI ⟨rfl,rfl,λu yw=>fi u (fh _ yw)⟩
 ·rintro ⟨r1,r2⟩ s' ⟨hr,rfl,_⟩;simp only at hr;subst hr;exact bI hQ
theorem aEY{kd:HeapKind prog w K}(S:DM kd)(hu:kd.room A){o:Obj}{es:Array (Int×Value)}{ep:Nat}{t:SetTable}(ho:s.heap.get? a=some o)(hd:o.data=.set es ep t)(T:ST.Tab t es)(hb:kd.is s.heap k b)(ER:∀(i:Nat) e,es[i]?=some e->∃k' b',e=(kd.hash k',Value.ref b')/\kd.is s.heap k' b'){N:Nat}(F:ST.Cw (·∈t.place.toList) t.mask (kd.hash k) N)(hN:N<=10*(13+t.mask)){Q:SetFound->Shared->Prop}(yes:∀(i:Nat) b',es[i]?=some (kd.hash k,.ref b')->kd.is s.heap k b'->Q (.there none) s)(no:(∀(i:Nat) k' b',es[i]?=some (kd.hash k',.ref b')->kd.is s.heap k' b'->k'≠k)->Q (.free (ST.pj t.mask (kd.hash k) N) false) s) :
  ∀f m (xx:Option SetTable.Probe),m<=N->N < f+m->xx.getD (t.probeStart (kd.hash k))=ST.pt t.mask (kd.hash k) m->(∀n (i:Nat) k' b',n < m->t.place[i]?=some (ST.pj t.mask (kd.hash k) n)->es[i]?=some (kd.hash k',.ref b')->kd.is s.heap k' b'->k'≠k)->
   wpAny (model prog w) A (setSearchFrom a (.ref b) (kd.hash k) true f xx) Q E s
 |0,m,_,h1,h2,_,_=>by lia
 |f+1,m,xx,h1,h2,bq,yx=>by
  unfold setSearchFrom;refine aR (Ap ho hd T.fits ?_);dsimp only;have gw:t.gaveWay=false:=by
   unfold SetTable.gaveWay;rcases T.Dc with z|z|z <;> rw[z] <;> rfl
  rw[gw];simp only[u9,if_false];rw[bq];rcases ST.aGK (ha:=λi=>(es[i]?.map (·.1)).getD 0) T.dm T.zz F (10*SetTable.turns t.mask) m h1 (by unfold SetTable.turns;lia) with ⟨e1,e2⟩|⟨n,i,e1,e2,e3,e4,e5,e6⟩
  ·split
   ·rename_i met heq;obtain rfl:=Option.some.inj (e1.symm.trans heq);dsimp only;refine bI (no λi k' b' hi hk wa=>?_);subst wa;obtain⟨n,n1,n2⟩:=T.on F hi;by_cases hm:n < m
    ·exact yx n i k' b' hm n2 hi hk rfl
    ·refine e2 n i (by lia) n1 n2 ?_;rw[hi];rfl
   ·rename_i heq;exact(heq _ e1).elim
  ·split
   ·rename_i met heq;obtain rfl:=Option.some.inj (e5.symm.trans heq);dsimp only;have il:i < es.size:=by rw[<-T.sz];exact(zm.mp e3).1
    obtain⟨k',b',ee,ky⟩:=ER i _ (ma il);have hi:es[i]?=some (kd.hash k',.ref b'):=by rw[ma il,ee]
    rw[hi] at e4;have e4':kd.hash k'=kd.hash k:=e4;have sm:t.sameMemory t.moves t.mask=some true:=by unfold SetTable.sameMemory;simp
    have vq:k'≠k->wpAny (model prog w) A (setSearchFrom a (.ref b) (kd.hash k) true f (some (ST.pt t.mask (kd.hash k) (n+1)))) Q E s:=λwa=>
     aEY S hu ho hd T hb ER F hN yes no f (n+1) (some _) (by lia) (by lia) rfl λn' i' k2 b2 x1 x2 x3 x4=>by
      by_cases z1:n' < m
      ·exact yx n' i' k2 b2 z1 x2 x3 x4
      ·by_cases z2:n' < n
       ·intro z3;subst z3;exact e6 n' i' (by lia) z2 x2 (by rw[x3];rfl)
       ·have z3:n'=n:=by lia
        subst z3;have z4:i'=i:=by rw[<-ST.below_at T.zz x2,ST.below_at T.zz e3]
        subst z4;rw[hi] at x3;injection x3 with x3
        injection x3 with _ x5
        injection x5 with x5
        subst x5;rw[kd.inj x4 ky];exact wa
    split
    ·refine aR (aN1 S hb ?_ ?_)
     ·simp only[u9,if_false];rw[hi];dsimp only;refine aR (eh (kd.eqBool hu ky hb ?_));refine aR (Ap ho hd T.fits ?_);dsimp only;by_cases wa:k'=k
      ·subst wa;simp only[decide_true,Bool.and_self,if_true];exact bI (yes i b' hi ky)
      ·rw[ia wa];simp only[vg,u9,if_false];rw[sm];dsimp only;simp only[if_true];rw[ST.P2 T.zz e3];dsimp only;rw[hi];dsimp only;refine aR (wpAny_isSame_ref_self ?_);refine aR (bI ?_);simp only[if_true];exact vq wa
     ·intro y hy;obtain⟨e,he,rfl⟩:=mD.mp hy;rw[Array.toList_filter] at he;obtain⟨q,hq⟩:=Cq.mp (xa.mp he).1;rw[jq] at hq;obtain⟨k',b',rfl,jx⟩:=ER q e hq;exact⟨k',b',rfl,jx⟩
    ·rw[hi];dsimp only;refine aR (eh (kd.eqBool hu ky hb ?_));refine aR (Ap ho hd T.fits ?_);dsimp only;by_cases wa:k'=k
     ·subst wa;simp only[decide_true,Bool.and_self,if_true];exact bI (yes i b' hi ky)
     ·rw[ia wa];simp only[vg,u9,if_false];rw[sm];dsimp only;simp only[if_true];rw[ST.P2 T.zz e3];dsimp only;rw[hi];dsimp only;refine aR (wpAny_isSame_ref_self ?_);refine aR (bI ?_);simp only[if_true];exact vq wa
   ·rename_i heq;exact(heq _ e5).elim
theorem Pw{α β:Type}{f:α->β}{l l':List β}(p:l.Perm l'):∀{ps:List α},l'=ps.map f->∃qs:List α,qs.Perm ps/\l=qs.map f:=by
 induction p with
 |nil=>intro ps e;cases ps with
  |nil=>exact⟨[],.nil,rfl⟩
  |cons a ps=>cases e
 |cons x _ ih=>intro ps e;cases ps with
  |nil=>cases e
  |cons a ps=>
   rw[fm] at e;injection e with e1 e2
   obtain⟨qs,a1,a2⟩:=ih e2;exact⟨a::qs,a1.cons _,by rw[fm,<-e1,<-a2]⟩
 |swap x y l=>intro ps e;match ps,e with
  |[],e=>cases e
  |[_],e=>simp at e
  |a::b::ps,e=>
   simp only[fm] at e;injection e with e1 e2
   injection e2 with e2 e3
   exact⟨b::a::ps,List.Perm.swap ..,by simp[e1,e2,e3]⟩
 |trans _ _ ih1 ih2=>
  intro ps e;obtain⟨qs,a1,a2⟩:=ih2 e;obtain⟨rs,b1,b2⟩:=ih1 a2;exact⟨rs,b1.trans a1,b2⟩
def wu(kd:HeapKind prog w K)(bt:Bool)(h:Heap)(a:Addr)(ps:List (K×Addr)):Prop:=∃o es ep t,h.get? a=some o/\o.ExactSet/\o.data=.set es ep t/\ST.Tab t es/\es.size*5 < t.mask*3/\t.plain=true/\t.led=bt/\
 es.toList=ps.map (λp=>(kd.hash p.1,Value.ref p.2))/\(∀p∈ps,kd.is h p.1 p.2)/\(ps.map (·.1)).Nodup
theorem wu.keep{kd:HeapKind prog w K}{bt:Bool}{h h':Heap}(x:wu kd bt h a ps)(k1:∀o,h.get? a=some o->h'.get? a=some o)(k2:∀p∈ps,kd.is h p.1 p.2->kd.is h' p.1 p.2):wu kd bt h' a ps:=by
 obtain⟨o,es,ep,t,ho,r1,r2,r3,r4,r5,r6,r7,r8,r9⟩:=x;exact⟨o,es,ep,t,k1 o ho,r1,r2,r3,r4,r5,r6,r7,λp hp=>k2 p hp (r8 p hp),r9⟩
theorem aIZ{h:Heap}{o:Obj}{es es':Array (Int×Value)}{ep:Nat}(ho:h.get? a=some o)(hd:o.data=.set es ep t):(h.update a (Obj.putSet es' t')).get? a=some { o with data:=.set es' (ep+1) t' }:=by
 have:=zk (Obj.putSet es' t') ho (by rw[putSet_of es' t' hd];rfl);rw[putSet_of es' t' hd] at this;exact this
theorem aQs{kd:HeapKind prog w K}(S:DM kd)(hu:kd.room A){bt:Bool}{ps:List (K×Addr)}(hS:wu kd bt s.heap a ps)(hb:kd.is s.heap k b)(hl:ps.length < 64){Q:Bool->Shared->Prop}(h:∀h' ic r,Heap.SameBut a s.heap h'->wu kd bt h' a ic->ic.Perm (if k∈ps.map (·.1) then ps else (k,b)::ps)->Q r { s with heap:=h' }) :
  wpAny (model prog w) A (setAddHashed a (.ref b) (kd.hash k)) Q E s:=by
 obtain⟨o,es,ep,t,ho,hex,hd,T,di,pl,ld,ee,HW,nd⟩:=id hS;have sz:es.size=ps.length:=by have:=congrArg List.length ee;simpa using this
 have ER:∀(i:Nat) e,es[i]?=some e->∃k' b',e=(kd.hash k',Value.ref b')/\kd.is s.heap k' b':=λi e he=>by
  rw[<-jq,ee,hE] at he;obtain⟨p,hp,rfl⟩:=yQ.mp he;exact⟨p.1,p.2,rfl,HW p (iI hp)⟩
 obtain⟨N,hN,F⟩:=T.first (kd.hash k);have mL:t.mask<=127:=by rcases T.Dc with z|z|z <;> lia
 unfold setAddHashed;refine eh ?_;unfold setAddHashedIn;refine aR (Ap ho hd T.fits ?_);dsimp only;rw[aL5];simp only[u9,if_false];unfold setSearch;refine aR (aEY S hu ho hd T hb ER F hN (λi b' hi hk=>?_) (λLU=>?_) 100000 0 none (dz _) (by lia) (ST.aL1 t _) (λn i k' b' z=>by lia))
 ·refine bI ?_;have hm:k∈ps.map (·.1):=by
   rw[<-jq,ee,hE] at hi;obtain⟨p,hp,e⟩:=yQ.mp hi;injection e with _ e2
   injection e2 with e2
   have BU:=HW p (iI hp);rw[e2] at BU;exact mD.mpr ⟨p,iI hp,kd.inj BU hk⟩
  have:=h s.heap ps false (Heap.SameBut.refl a s.heap) hS (by rw[cJ hm]);exact this
 ·dsimp only;have hm:k∉ps.map (·.1):=λhm=>by
   obtain⟨p,hp,e⟩:=mD.mp hm;obtain⟨i,hi⟩:=Cq.mp hp;refine LU i p.1 p.2 ?_ (HW p hp) e;rw[<-jq,ee,hE,hi];rfl
  rw[bV hm] at h;refine aR (Ap ho hd T.fits ?_);dsimp only;have hz:es.size+1<=t.mask:=by rcases T.Dc with z|z|z <;> rw[z] at di ⊢ <;> lia
  obtain⟨p1,p2,T1⟩:=T.put F hz (.ref b);rw[p1,p2];generalize oi:SetTable.insertAt t.place (SetTable.below t.place (ST.pj t.mask (kd.hash k) N)) (ST.pj t.mask (kd.hash k) N)=Aa at T1;generalize hes:SetTable.insertAt es (SetTable.below t.place (ST.pj t.mask (kd.hash k) N)) (kd.hash k,Value.ref b)=jz at T1;have Hu:jz.toList.Perm (((k,b)::ps).map λp=>(kd.hash p.1,Value.ref p.2)):=by
   rw[<-hes];refine(SetTable.insertAt_perm _ _ _).trans ?_;rw[Array.toList_push,ee,fm];exact List.perm_append_singleton ..
  obtain⟨ps1,q1,q2⟩:=Pw Hu rfl;have D5:jz.size=ps.length+1:=by have:=Hu.length_eq;simpa using this
  have isk:∀{h':Heap},(∀b o,b≠a->s.heap.get? b=some o->h'.get? b=some o)->∀{qs:List (K×Addr)},qs.Perm ((k,b)::ps)->(∀p∈qs,kd.is h' p.1 p.2)/\(qs.map (·.1)).Nodup:=λhk qs pq=>by
   refine⟨λp hp=>S.dh ?_ λb o c e=>hk b o (λz=>by rw[z,ho] at e;cases e;rw[hex.1] at c;exact absurd c (by decide)) e,?_⟩
   ·rcases lQ.mp (pq.mem_iff.mp hp) with rfl|hp
    ·exact hb
    ·exact HW p hp
   ·refine((pq.map (·.1)).nodup_iff).mpr ?_;rw[fm];exact ni.mpr ⟨hm,nd⟩
  rw[cJ pl];refine aR (S.BC hb ?_);simp only[if_true];refine aR (wpAny_storeSet_of ho hd ?_ (by rw[D5,fc];lia));have g1:=aIZ (es':=jz) (t':={ t with place:=Aa }) ho hd;have yp:=Heap.SameBut.update s.heap a (Obj.putSet jz { t with place:=Aa });generalize AX:s.heap.update a (Obj.putSet jz { t with place:=Aa })=h1 at g1 yp;have kp1:∀b o,b≠a->s.heap.get? b=some o->h1.get? b=some o:=λb o hn e=>(yp.2 b hn).trans e;have tf:({ t with place:=Aa }:SetTable).tooFull=decide ((ps.length+1)*5 ≥ t.mask*3):=by
   unfold SetTable.tooFull SetTable.fill;have:Aa.size=jz.size:=T1.sz;dsimp only;rw[this,D5,T.dm];rfl
  rw[tf];by_cases full:(ps.length+1)*5 ≥ t.mask*3
  ·rw[zV full];simp only[Bool.not_false,Bool.and_self,if_true];have cs:(t.mask=7/\ps.length=4)\/(t.mask=31/\ps.length=18):=by
    rw[sz] at di;rcases T.Dc with z|z|z <;> rw[z] at di full
    ·exact .inl ⟨z,by lia⟩
    ·exact .inr ⟨z,by lia⟩
    ·lia
   have ms:ST.zr (SetTable.sizeAbove (SetTable.grown (es.size+1)) - 1)/\jz.size*5 < (SetTable.sizeAbove (SetTable.grown (es.size+1)) - 1)*3/\¬SetTable.sizeAbove (SetTable.grown (es.size+1)) > sizeLine:=by
    rw[sz,D5];rcases cs with ⟨_,z⟩|⟨_,z⟩ <;> rw[z]
    ·exact⟨.inr (.inl (by decide)),by decide,by rw[fc];decide⟩
    ·exact⟨.inr (.inr (by decide)),by decide,by rw[fc];decide⟩
   generalize hW:SetTable.grown (es.size+1)=W at ms;obtain⟨La,od,r1,r2,T2⟩:=ST.aJZ (t:={ t with place:=Aa }) (es:=jz) ms.1 (by lia);unfold setRelay;refine aR (aR (Ap (s:={ s with heap:=h1 }) g1 rfl T1.fits ?_));dsimp only;rw[bV ms.2.2];have er:∀{Q':(Array (Int×Value)×SetTable)->Shared->Prop},Q' (od.filterMap (jz[·]?),_) { s with heap:=h1 }->wpAny (model prog w) A (do
     let some (t,order):=({ t with place:=Aa }:SetTable).relaid (jz.map (·.1)) W|unsupported "internal:set-table-without-room"
     let es':=order.filterMap (jz[·]?)
     if es'.size != jz.size then unsupported "internal:set-table-lost-an-element"
     pure (es',t)) Q' E { s with heap:=h1 }:=λ{Q'} hq=>by
    rw[r1];dsimp only;have:((od.filterMap (jz[·]?)).size != jz.size)=false:=by
     have:=r2.length_eq;rw[jf,jf] at this;simp[this]
    rw[this];simp only[u9,if_false];exact bI hq
   refine aR (er ?_);obtain⟨BN,u1,u2⟩:=Pw r2 q2;have sz2:(od.filterMap (jz[·]?)).size=jz.size:=by have:=r2.length_eq;rw[jf,jf] at this;exact this
   refine wpAny_storeSet_of (s:={ s with heap:=h1 }) g1 rfl ?_ (by rw[sz2,D5,fc];lia);refine bI ?_;have g2:=aIZ (es':=od.filterMap (jz[·]?)) (t':={ mask:=SetTable.sizeAbove W - 1,place:=La,dummies:=#[],finger:=t.finger,led:=t.led,moves:=({ t with place:=Aa }:SetTable).movedTo (SetTable.sizeAbove W - 1),plain:=t.plain }) g1 rfl;have yo:=yp.trans (Heap.SameBut.update h1 a (Obj.putSet (od.filterMap (jz[·]?)) { mask:=SetTable.sizeAbove W - 1,place:=La,dummies:=#[],finger:=t.finger,led:=t.led,moves:=({ t with place:=Aa }:SetTable).movedTo (SetTable.sizeAbove W - 1),plain:=t.plain }));obtain⟨i1,i2⟩:=isk (λb o hn e=>(yo.2 b hn).trans e) (u1.trans q1);exact h _ BN true yo ⟨_,_,_,_,g2,hex,rfl,T2,by rw[sz2];exact ms.2.1,pl,ld,u2,i1,i2⟩ (u1.trans q1)
  ·rw[ia full];simp only[Bool.not_false,Bg,vg,u9,if_false];obtain⟨i1,i2⟩:=isk kp1 q1;exact bI (h h1 ps1 true yp ⟨_,jz,ep+1,_,g1,hex,rfl,T1,by rw[D5];dsimp only;lia,pl,ld,q2,i1,i2⟩ q1)
end
theorem aGL:Manifest.owners.lookup (String.ofList "rotareti_tes".toList.reverse)=some Manifest.sig_set_iterator:=by kernel_rfl
theorem yF:Slot "set_iterator" "__next__" "set_iterator.__next__":=
 .of (owner:="set_iterator") (n:="__next__") (by rw[typeLookup_type];rw[builtinLookup_eq_fast];kernel_rfl) (by decide +kernel) (by decide +kernel) (by decide +kernel) (by first|exact Or.inl (by decide +kernel)|exact Or.inr (by decide +kernel)) (by rw[isSubtype_type];kernel_rfl)
theorem aGM:entryFor table "set_iterator.__next__" = some Builtin.«set_iterator.__next__»:=by refine entryFor_of_tree ?_;kernel_rfl
theorem aI0(a:Value):argsOk "set_iterator.__next__" ⟨[a],[]⟩:=by
 unfold argsOk;rw[signature?_of (id:="set_iterator.__next__") (n:="__txen__".toList) (o:="rotareti_tes".toList) (by kernel_rfl) aGL];kernel_rfl
theorem aQt:bootBuiltins "set" = some (.type "set"):=by decide +kernel
theorem aN2:entryFor table "set.__iter__" = some Builtin.«frozenset.__iter__»:=by
 refine entryFor_alias (id':="frozenset.__iter__") ?_ rfl (by decide +kernel) ?_ <;> kernel_rfl
theorem aN3:entryFor table "set_iterator.__iter__" = some Builtin.«dict_keyiterator.__iter__»:=by
 refine entryFor_alias (id':="dict_keyiterator.__iter__") ?_ rfl (by decide +kernel) ?_ <;> kernel_rfl
theorem aGN:Slot "set_iterator" "__iter__" "set_iterator.__iter__":=
 .of (owner:="set_iterator") (n:="__iter__") (by rw[typeLookup_type];rw[builtinLookup_eq_fast];kernel_rfl) (by decide +kernel) (by decide +kernel) (by decide +kernel) (by first|exact Or.inl (by decide +kernel)|exact Or.inr (by decide +kernel)) (by rw[isSubtype_type];kernel_rfl)
theorem aL6(a:Value):argsOk "set_iterator.__iter__" ⟨[a],[]⟩:=by
 unfold argsOk;rw[signature?_of (id:="set_iterator.__iter__") (n:="__reti__".toList) (o:="rotareti_tes".toList) (by kernel_rfl) aGL];kernel_rfl
theorem aI1{α:Type}(f:Nat->Nat):∀(n k:Nat) (l:List α) (out:Array α),l.length=n->(pickOrder.go f n k l out).toList.Perm (out.toList++l)
 |0,k,l,out,h=>by
  have:l=[]:=List.eq_nil_of_length_eq_zero h;subst this;unfold pickOrder.go;simp
 |n+1,k,l,out,h=>by
  have hl:f k % l.length < l.length:=Nat.mod_lt _ (by lia);unfold pickOrder.go;rw[cG hl];dsimp only;refine(aI1 f n (k+1) _ _ (by rw[List.length_eraseIdx_of_lt hl,h];rfl)).trans ?_;rw[Array.toList_push,Bm];refine List.Perm.append_left _ ?_;rw[List.eraseIdx_eq_take_drop_succ];conv=>rhs;rw[<-List.take_append_drop (f k % l.length) l,Qy hl]
  rw[List.singleton_append];exact List.perm_middle.symm
theorem aJ0{α:Type}(f:Nat->Nat)(xs:Array α):(pickOrder f xs).toList.Perm xs.toList:=by
 have:=aI1 f xs.size 0 xs.toList #[] (by simp);simpa [pickOrder] using this
section
variable{prog:Program}{w:World}{A:Around}{E:aj}{s:Shared}
def oJ(w:World):Bool:=w.params.followText "set-order"
theorem Pb{Q:Bool->Shared->Prop}(h:Q (oJ w) s):wpAny (model prog w) A setsByText Q E s:=by
 unfold setsByText;exact aR (wpAny_askSetting (bI h))
structure qu(w:World)(h:Heap)(a:Addr)(es:Array (Int×Value))(ep:Nat)(t:SetTable):Prop where
 at_:∃o,h.get? a=some o/\o.ExactSet/\o.data=.set es ep t
 tab:ST.Tab t es
 pl:t.plain=true
 ld:t.led = !oJ w
theorem qu.ty{es ep t}(m:qu w s.heap a es ep t):s.TypeIs (.ref a) "set":=let ⟨o,x,y,_⟩:=m.at_;⟨o,x,y.1⟩
theorem qu.keep{h h':Heap}{es ep t}(m:qu w h a es ep t)(k:∀o,h.get? a=some o->h'.get? a=some o):qu w h' a es ep t:=⟨let ⟨o,x,r⟩:=m.at_;⟨o,k o x,r⟩,m.tab,m.pl,m.ld⟩
def vd(w:World)(a:Addr)(es:Array (Int×Value))(ep:Nat):Array (Int×Value):=if oJ w then pickOrder (w.params.setOrder a ep) es else es
theorem aEZ(w:World)(a:Addr)(es:Array (Int×Value))(ep:Nat):(vd w a es ep).toList.Perm es.toList:=by
 unfold vd;split
 ·exact aJ0 _ _
 ·exact .rfl
theorem yG(w:World)(a:Addr)(es:Array (Int×Value))(ep:Nat):(vd w a es ep).size=es.size:=by have:=(aEZ w a es ep).length_eq;simpa using this
def nv(w:World)(t:SetTable)(i:Nat):Nat:=if oJ w then 0 else if i=0 then 0 else t.place.getD (i - 1) 0+1
def vm(w:World)(h:Heap)(it a:Addr)(t:SetTable)(i n ep:Nat):Prop:=∃o,h.get? it=some o/\o.cls=.type "set_iterator"/\o.data=.fields #[.int (nv w t i) 0,.int i 0,.ref a,.int n 0,.int ep 0]
theorem aL7{es ep t}(m:qu w s.heap a es ep t){Q:Bool->Shared->Prop}(h:Q false s):wpAny (model prog w) A (setDrawn a) Q E s:=by
 obtain⟨o,o1,o2,o3⟩:=m.at_;unfold setDrawn;refine aR (Ap o1 o3 m.tab.fits (aR (Pb ?_)));refine bI ?_;have e:∀b:Bool,(!b && (!t.plain && decide (es.size > 1)))=false:=λb=>by rw[m.pl];simp
 have:=e (oJ w);show Q (!oJ w && (!t.plain && decide (es.size > 1))) s;rw[this];exact h
theorem aL8{es ep t}(m:qu w s.heap a es ep t){Q:aj}(h:Q (.ref s.heap.objs.size) { s with heap:=s.heap.push { cls:=.type "set_iterator",data:=.fields #[.int 0 0,.int 0 0,.ref a,.int es.size 0,.int ep 0] } }) :
  wpAny (model prog w) A (pyIter (.ref a)) Q E s:=by
 obtain⟨o,o1,o2,o3⟩:=m.at_;refine wpAny_pyIter_slot m.ty F.slot_set_iter (ja F.slot_set_iter m.ty aN2 (show _ from ?_) (F.args_set_iter_1 _));unfold Builtin.«frozenset.__iter__» Builtin.Frozenset.slot0 slotArgs Builtin.Frozenset.sizeOf;refine aR (aR (bI (bI ?_)));refine aR (aR (wpAny_setEntries_of o1 o3 m.tab.fits (bI ?_)));refine aR (aL7 m ?_);simp only[u9,if_false];refine aR (bI (aR (wpAny_setEpoch_of o1 o3 m.tab.fits ?_)));unfold newFields;refine aR (jb (bI ⟨_,rfl,"set_iterator",_,⟨_,mJ _ rfl,rfl⟩,yF.lookup,(show _ from ?_)⟩));simpa [rawInt] using h
theorem vm.ty{i n ep:Nat}(x:vm w s.heap it a t i n ep):s.TypeIs (.ref it) "set_iterator":=let ⟨o,p,q,_⟩:=x;⟨o,p,q⟩
theorem vm.keep{h h':Heap}{i n ep:Nat}(m:vm w h it a t i n ep)(k:∀o,h.get? it=some o->h'.get? it=some o):vm w h' it a t i n ep:=let ⟨o,x,r⟩:=m;⟨o,k o x,r⟩
theorem aN4{t:SetTable}{es:Array (Int×Value)}(T:ST.Tab t es)(bt:oJ w=false){i:Nat}(hi:i<=es.size):SetTable.below t.place (nv w t i)=i:=by
 have hz:=T.sz;obtain⟨c1,c2,c3⟩:=ST.yE T.zz (nv w t i);unfold nv at c1 c2 c3 ⊢;rw[bt] at c1 c2 c3 ⊢;simp only[u9,if_false] at c1 c2 c3 ⊢;by_cases z:i=0
 ·rw[cJ z] at c1 c2 c3 ⊢;rw[z];apply Classical.byContradiction;intro q;have:=c2 0 (by lia);lia
 ·rw[bV z] at c1 c2 c3 ⊢;rcases Nat.lt_trichotomy (SetTable.below t.place (t.place.getD (i - 1) 0+1)) i with q|q|q
  ·have:=c3 (i - 1) (by lia) (by lia);lia
  ·exact q
  ·have h1:=c2 i q;have h2:=T.zz (i - 1) i (by lia) (by lia);lia
theorem aL9{es ep t}(m:qu w s.heap a es ep t){i:Nat}(hi:i<=es.size){Q:Option (Value×Nat)->Shared->Prop}(h:Q ((vd w a es ep)[i]?.map λe=>(e.2,nv w t (i+1))) s):wpAny (model prog w) A (setNext a (nv w t i) i ep) Q E s:=by
 obtain⟨o,o1,o2,o3⟩:=m.at_;unfold setNext;refine aR (Ap o1 o3 m.tab.fits (aR (Pb ?_)));by_cases bt:oJ w=true
 ·rw[cJ bt];simp only[bne_self_eq_false,u9,if_false];unfold setWalk;refine aR (aR (Ap o1 o3 m.tab.fits (aR (Pb ?_))));rw[cJ bt];refine aR (wpAny_askSetting (bI ?_));refine bI ?_;unfold vd nv at h;rw[cJ bt,cJ bt] at h;unfold nv;rw[cJ bt];exact h
 ·have bf:oJ w=false:=by simpa using bt
  rw[bV bt];have dn:(!t.plain && decide (es.size > 1))=false:=by rw[m.pl];rfl
  refine(show wpAny (model prog w) A (if (!t.plain && decide (es.size > 1))=true then unsupported _ else _) Q E s from ?_);rw[dn];simp only[u9,if_false];have ml:wpAny (model prog w) A (do if !t.led && !es.isEmpty then unsupported "set:maker-not-led") (λ_ s'=>s'=s) E s:=by
   rw[m.ld,bf];simp only[Bool.not_false,DS,vi,u9,if_false];exact bI rfl
  refine aR (kb ml (λ_ s' e=>?_) λ_ _ e=>e);subst e;rw[aN4 m.tab bf hi];refine bI ?_;have eo:vd w a es ep=es:=by unfold vd;rw[bV bt]
  rw[eo] at h;by_cases z:i < es.size
  ·have z2:i < t.place.size:=by rw[m.tab.sz];exact z
   rw[ma z] at h ⊢;rw[ma z2];have e2:nv w t (i+1)=t.place[i] + 1:=by unfold nv;rw[bV bt,bV (by lia)];simp[Array.getD,z2]
   rw[e2] at h;exact h
  ·rw[DZ (by lia)] at h ⊢;exact h
theorem vm.turn{h:Heap}{i n ep:Nat}{o:Obj}(g1:h.get? it=some o)(g2:o.cls=.type "set_iterator")(g3:o.data=.fields #[.int (nv w t i) 0,.int i 0,.ref a,.int n 0,.int ep 0]) :
  vm w ((h.update it (Obj.mapFields (·.setIfInBounds 0 (rawInt (nv w t (i+1)))))).update it (Obj.mapFields (·.setIfInBounds 1 (rawInt ((i:Int)+1))))) it a t (i+1) n ep:=by
 have e1:=zk (Obj.mapFields (·.setIfInBounds 0 (rawInt (nv w t (i+1))))) g1 (Obj.isFreed_of_fields (Obj.data_mapFields g3 _));have e2:=zk (Obj.mapFields (·.setIfInBounds 1 (rawInt ((i:Int)+1)))) e1 (Obj.isFreed_of_fields (Obj.data_mapFields (Obj.data_mapFields g3 _) _));exact⟨_,e2,((Obj.cls_mapFields ..).trans (Obj.cls_mapFields ..)).trans g2,by rw[Obj.data_mapFields (Obj.data_mapFields g3 _)];simp[rawInt]⟩
theorem aMa{es ep t}{i:Nat}{e:Int×Value}(x:vm w s.heap it a t i es.size ep)(m:qu w s.heap a es ep t)(he:(vd w a es ep)[i]?=some e){Q:aq->Shared->Prop}(hQ:∀h',vm w h' it a t (i+1) es.size ep->Heap.SameBut it s.heap h'->Q (some e.2) { s with heap:=h' }):wpAny (model prog w) A (pyNext (.ref it)) Q E s:=by
 obtain⟨o,g1,g2,g3⟩:=id x;obtain⟨so,o1,o2,o3⟩:=m.at_;have il:i < es.size:=by rw[<-yG w a es ep];exact(zm.mp he).1
 unfold pyNext;refine aR (zh (wpAny_callSpecial?_slot (name:=Str.ofString "__next__") x.ty yF (ja yF x.ty aGM (show _ from ?_) (aI0 _))));unfold Builtin.«set_iterator.__next__» slotArgs;refine aR (bI ?_);refine aR (zi g1 g3 ?_);dsimp only;refine aR (wpAny_setEntries_of o1 o3 m.tab.fits ?_);rw[bV (by simp)];simp only[pe];refine aR (aL9 m (by lia) ?_);rw[he];dsimp only [Option.map];refine aR (An g1 g3 (by simp) ?_);have e1:=zk (Obj.mapFields (·.setIfInBounds 0 (rawInt (nv w t (i+1))))) g1 (Obj.isFreed_of_fields (Obj.data_mapFields g3 _));refine aR (An (s:={ s with heap:=_ }) e1 (Obj.data_mapFields g3 _) (by simp) ?_);exact bI ⟨_,rfl,bI (hQ _ (vm.turn g1 g2 g3) ((Heap.SameBut.update ..).trans (Heap.SameBut.update ..)))⟩
theorem aN5{es ep t}(hh:A.handled=none)(x:vm w s.heap it a t es.size es.size ep)(m:qu w s.heap a es ep t){Q:aq->Shared->Prop}(hQ:∀h',Heap.ExtBut it s.heap h'->Q none { s with heap:=h' }):wpAny (model prog w) A (pyNext (.ref it)) Q E s:=by
 obtain⟨o,g1,g2,g3⟩:=id x;obtain⟨so,o1,o2,o3⟩:=m.at_;unfold pyNext;refine aR (zh (wpAny_callSpecial?_slot (name:=Str.ofString "__next__") x.ty yF (ja yF x.ty aGM (show _ from ?_) (aI0 _))));unfold Builtin.«set_iterator.__next__» slotArgs;refine aR (bI ?_);refine aR (zi g1 g3 ?_);dsimp only;refine aR (wpAny_setEntries_of o1 o3 m.tab.fits ?_);rw[bV (by simp)];simp only[pe];refine aR (aL9 m (d7 _) ?_);rw[DZ (by rw[yG];lia)];dsimp only [Option.map];refine aR (An g1 g3 (by simp) ?_);refine aR (show _ from ?_);simp only[newExc,newTuple];refine aR (jb (show _ from ?_) (by size_fits));refine aR (m:=firstArgMember _ _) (wpAny_of_eq (a:=Value.none) (by first|rfl|(simp only[firstArgMember];rfl)) ?_);refine jb ?_ (by size_fits);simp only[raiseNew];refine aR (wpAny_handled ?_);rw[show A.in1.handled=none from hh];refine aR (bI (wpAny_throw ?_));refine aR (wpAny_isInstance (T:="StopIteration") (b:=true) ⟨_,mJ _ rfl,rfl⟩ isSubtype_stop ?_)
 exact bI (hQ _ (((Heap.SameBut.update ..).extBut.push _).push _))
theorem aQu(hh:A.handled=none)(bj:a≠I){es:Array (Int×Value)}{ep:Nat} :
  Walks prog w A I [I,a] [I] es.size (λi v=>∃e,(vd w a es ep)[i]?=some e/\v=e.2) (λi h=>vm w h I a t i es.size ep/\qu w h a es ep t) where
 sub:=λb hb=>lQ.mpr (.inl (by simpa using hb))
 frame:=λ_ _ _ st hk=>⟨st.1.keep λo e=>hk I (by simp) o e,st.2.keep λo e=>hk a (by simp) o e⟩
 item:=λi s Q E hi st hQ=>by
  have hx:=ma (xs:=vd w a es ep) (i:=i) (by rw[yG];exact hi);exact aMa st.1 st.2 hx λh' p q=>hQ _ h' s.toks ⟨_,hx,rfl⟩ ⟨p,st.2.keep λo e=>q.extBut a o bj e⟩ λb' o hb e=>q.extBut b' o (λz=>hb (ff.mpr z)) e
 done:=λs Q E st hQ=>aN5 hh st.1 st.2 λh' z=>hQ h' s.toks λb o hb e=>z b o (λy=>hb (ff.mpr y)) e
 self:=λ_ _ _ _ st hQ=>by
  refine wpAny_pyIter_slot st.1.ty aGN (ja aGN st.1.ty aN3 ?_ (aL6 _));show wpAny _ _ (ret (.ref I)) _ _ _;exact bI ⟨_,rfl,"set_iterator",_,st.1.ty,yF.lookup,hQ⟩
end
section
variable{prog:Program}{w:World}{K:Type}[DecidableEq K]{A:Around}{E:aj}{s:Shared}
theorem aQv{kd:HeapKind prog w K}(S:DM kd)(hr:kd.room A.in1)(hh:A.in1.handled=none){bt:Bool}{I l a:Addr}(n1:l≠I)(n2:a≠I)(n3:a≠l){items:Array Value}{its:List (K×Addr)}(hi:items.toList=its.map λp=>Value.ref p.2){all:List K}(ha:∀p∈its,p.1∈all)(kn:all.length < 64)
  {R:Result->Shared->Prop} {h₀:Heap} {s₀:Shared} (hR:∀h' tk ps,(∀b o,b≠a->b≠I->h₀.get? b=some o->h'.get? b=some o)->wu kd bt h' a ps->(∀p∈ps,p∈its)->(∀k,k∈ps.map (·.1)↔k∈its.map (·.1))->R (.ok (.ret .none)) { s₀ with heap:=h',toks:=tk }) :
  ∀(k i:Nat) (h:Heap) (tk:Nat) (ps:List (K×Addr)),items.size - i=k->i<=items.size->h.IsListIter I l i->h.IsList l items->(∀p∈its,kd.is h p.1 p.2)->(∀b o,b≠a->b≠I->h₀.get? b=some o->h.get? b=some o)->
   wu kd bt h a ps->(∀p∈ps,p∈its)->(∀k,k∈ps.map (·.1)↔k∈(its.take i).map (·.1))->codeAny (model prog w) A (.builtin "set.update.loop" ⟨[.ref a,.ref I],[]⟩) R { s₀ with heap:=h,toks:=tk }:=by
 have zl:items.size=its.length:=by have:=congrArg List.length hi;simpa using this
 have ya:∀{h h':Heap} {i:Nat},h.IsListIter I l i->(∀b o,b∉[I]->h.get? b=some o->h'.get? b=some o)->∀(b:Addr) (o:Obj),o.cls=.type "tuple"->h.get? b=some o->h'.get? b=some o:=λ⟨o',g,c,_⟩ hk b o hc e=>hk b o (λz=>by
  rw[ff.mp z,g] at e;cases e;rw[c] at hc;exact absurd hc (by decide)) e
 intro k;induction k with
 |zero=>
  intro i h tk ps hk hle st sl HU uu hS dt L4;have ei:i=items.size:=by lia
  subst ei;refine codeAny_builtin F.entry_set_update_loop ?_;rw[Around.under_plainId F.plain_set_update_loop _];refine(show wpAny _ A.in1 (pyNext (.ref I) >>= _) _ _ _ from aR ((Walks.list hh I l n1 items).done { s₀ with heap:=h,toks:=tk } _ _ ⟨st,sl⟩ λh' vo hm=>?_));refine(show wpAny _ A.in1 (ret Value.none) _ _ _ from bI (hR h' vo ps (λb o x1 x2 e=>hm b o (by simpa using x2) (uu b o x1 x2 e)) (hS.keep (λo e=>hm a o (by simpa using n2) e) λp hp e=>S.dh e (ya st hm)) dt λk=>?_));rw[L4,zl,fe]
 |succ k ih=>
  intro i h tk ps hk hle st sl HU uu hS dt L4;have br:i < items.size:=by lia
  refine codeAny_builtin F.entry_set_update_loop ?_;rw[Around.under_plainId F.plain_set_update_loop _];refine(show wpAny _ A.in1 (pyNext (.ref I) >>= _) _ _ _ from aR ((Walks.list hh I l n1 items).item i { s₀ with heap:=h,toks:=tk } _ _ br ⟨st,sl⟩ λv h' vo hv cn hm=>?_));have L8:i < its.length:=by lia
  have ev:v=.ref its[i].2:=by
   rw[<-jq,hi,hE,cG L8] at hv;exact(Option.some.inj hv).symm
  subst ev;have mi:its[i]∈its:=lu L8;have CN:∀p∈its,kd.is h' p.1 p.2:=λp hp=>S.dh (HU p hp) (ya st hm);have Dk:wu kd bt h' a ps:=hS.keep (λo e=>hm a o (by simpa using n2) e) λp hp e=>S.dh e (ya st hm);have lp:ps.length < 64:=by
   obtain⟨_,_,_,_,_,_,_,_,_,_,_,_,_,nd⟩:=hS;have:=ST.Jj nd (λx hx=>by obtain⟨p,hp,rfl⟩:=mD.mp hx;exact ha p (dt p hp));rw[bK] at this;lia
  refine(show wpAny _ A.in1 (holding [Value.ref its[i].2] (setAdd a (.ref its[i].2)) >>= _) _ _ _ from aR (eh ?_));unfold setAdd;refine eh (aR (kd.pyHash (s:={ s₀ with heap:=h',toks:=vo }) hr (CN _ mi) ?_));refine aQs (s:={ s₀ with heap:=h',toks:=vo+kd.draws its[i].1 }) S hr Dk (CN _ mi) lp λh2 BN r sb S2 pp=>?_;obtain⟨so,sx,sy⟩ : ∃o,h'.get? a=some o/\o.cls=.type "set":=by obtain⟨o,_,_,_,x,y,_⟩:=Dk;exact⟨o,x,y.1⟩
  have W5:∀p∈its,kd.is h2 p.1 p.2:=λp hp=>S.dh (CN p hp) λb o c e=>(sb.2 b (λz=>by
   rw[z,sx] at e;cases e;rw[sy] at c;exact absurd c (by decide))).trans e
  refine bI ⟨plainId_quiet F.plain_set_update_loop _,ih (i+1) h2 _ BN (by lia) br ?_ ?_ W5 (λb o x1 x2 e=>(sb.2 b x1).trans (hm b o (by simpa using x2) (uu b o x1 x2 e))) S2 (λp hp=>?_) λk'=>?_⟩
  ·obtain⟨o,x,y⟩:=cn.1;exact⟨o,(sb.2 I (Ne.symm n2)).trans x,y⟩
  ·obtain⟨o,x,y⟩:=cn.2;exact⟨o,(sb.2 l (Ne.symm n3)).trans x,y⟩
  ·have:=pp.mem_iff.mp hp;split at this
   ·exact dt p this
   ·rcases lQ.mp this with e|e
    ·rw[e];exact mi
    ·exact dt p e
  ·have e1:(its.take (i+1)).map (·.1)=(its.take i).map (·.1) ++ [its[i].1]:=by rw[List.take_succ,cG L8,iJ];rfl
   rw[e1,iy,ff,<-L4 k',(pp.map (·.1)).mem_iff];split
   ·rename_i z;constructor
    ·exact .inl
    ·rintro (x|x)
     ·exact x
     ·rw[x];exact z
   ·rw[fm,lQ];exact Or.comm
theorem aN6(kd:HeapKind prog w K)(led:Bool){h:Heap}(g:h.get? a=some { cls:=.type "set",dict:=none,data:=.set #[] 0 (.fresh 0 0 led) }):wu kd led h a []:=
 ⟨_,#[],0,_,g,⟨rfl,rfl,rfl⟩,rfl,⟨rfl,rfl,λi k _ hk=>by simp[SetTable.fresh] at hk,λj hj=>by simp[SetTable.fresh] at hj,.inl rfl,by simp[SetTable.fresh],λi j e hi=>by simp[SetTable.fresh] at hi⟩,by simp[SetTable.fresh],rfl,rfl,rfl,(λp hp=>absurd hp FA),Bh⟩
theorem aRy(a:Value){Q₁:aj}(hq:Q₁ (.ref s.heap.objs.size) { s with heap:=s.heap.push { cls:=.type "set",dict:=none,data:=.set #[] 0 (.fresh 0 0 (!oJ w)) } }) :
  codeAny (model prog w) A (.call (.builtin "set.__new__") ⟨[.type "set",a],[]⟩) (wants Q₁ E) s:=by
 refine codeAny_of_tree (show wpAny _ A.in1 (do checkBuiltinCall "set.__new__" ⟨[.type "set",a],[]⟩;again (.builtin "set.__new__" ⟨[.type "set",a],[]⟩)) _ _ s from ?_);refine aR (wpAny_of_eq (F.newCall_set_1 a) (bI ⟨plainId_quiet F.plain_set_new _,codeAny_builtin F.entry_set_new (show _ from ?_)⟩));rw[Around.under_plainId F.plain_set_new _];unfold Builtin.«set.__new__»;unfold Builtin.Frozenset.newClass;have a0p:=sub_set_self;obtain⟨hp,g,d,tk,os⟩:=s;dsimp only
 wp_walk
 refine wpAny_askSetting (show _ from bI ?_);dsimp only;simp only[newObj];refine aR (wpAny_alloc (show _ from bI ?_));exact bI hq
theorem aQw{kd:HeapKind prog w K}(S:DM kd)(hr:∀A':Around,A'.units<=A.units+8->kd.room A')(hh:A.handled=none){l:Addr}{items:Array Value}(hl:s.heap.IsList l items){its:List (K×Addr)}(hi:items.toList=its.map λp=>Value.ref p.2)(HU:∀p∈its,kd.is s.heap p.1 p.2){all:List K}(ha:∀p∈its,p.1∈all)(kn:all.length < 64)
  {Q:aj} (h:∀h' tk ps,(∀b o,s.heap.get? b=some o->h'.get? b=some o)->wu kd (!oJ w) h' s.heap.objs.size ps->(∀p∈ps,p∈its)->(∀k,k∈ps.map (·.1)↔k∈its.map (·.1))->Q (.ref s.heap.objs.size) { s with heap:=h',toks:=tk }) :
  wpAny (model prog w) A (call (.type "set") [.ref l]) Q E s:=by
 obtain⟨c0,tl0,m0⟩:=F.called_set.mro;have m1:=F.called_set.made;have m2:=F.called_set.sub;refine wpAny_call (codeAny_of_tree (show wpAny _ _ (callAny (.type "set") _) _ _ _ from ?_));refine bI ⟨Code.quiet_builtin _ (by decide +kernel),codeAny_builtin F.entry_type_call (show _ from ?_)⟩;rw[Around.under_plain (weight_type_call_type "set" [Value.ref l] []) rfl];have m3:=F.called_set.notType;have m4:=F.called_set.canCreate;have m5:=F.typeCall_set_1 (.ref l);repeat (any_goals (first|wp_step|assumption))
 generalize ho:({ cls:=.type "set",dict:=none,data:=.set #[] 0 (.fresh 0 0 (!oJ w)) }:Obj)=ob;refine codeAny_mono (aRy (.ref l) (E:=E) (Q₁:=λu au=>u=.ref s.heap.objs.size/\au={ s with heap:=s.heap.push ob }) ⟨rfl,by rw[<-ho]⟩) λr au HQ=>?_;have gN:(s.heap.push ob).get? s.heap.objs.size=some ob:=mJ _ (by rw[<-ho];rfl);cases r with
 |error e=>exact HQ
 |ok fl=>
  cases fl with
  |ret obj=>
   obtain⟨rfl,rfl⟩:=HQ;have hT:Shared.TypeIs { s with heap:=s.heap.push ob } (.ref s.heap.objs.size) "set":=⟨_,gN,by rw[<-ho]⟩
   have m6:=F.called_set.init.lookup;have m7:=F.called_set.init.bind (.ref s.heap.objs.size);repeat (any_goals (first|wp_step|assumption))
   refine codeAny_mono (codeAny_call_builtin (R:=wants (λr dg=>r=.none/\∃h' tk ps,dg={ s with heap:=h',toks:=tk }/\(∀b o,s.heap.get? b=some o->h'.get? b=some o)/\wu kd (!oJ w) h' s.heap.objs.size ps/\(∀p∈ps,p∈its)/\(∀k,k∈ps.map (·.1)↔k∈its.map (·.1))) E) F.called_set.init.plain F.entry_set_init (check_set_init_1 hT ?_)) λTU dg yc=>?_
   ·obtain⟨ol,g1,g2,nl,g3⟩:=id hl;obtain⟨oc,od,oda,nz⟩:=ol;dsimp only at g2 g3;subst g2;subst g3;have g4:(s.heap.push ob).get? l=some { cls:=.type "list",dict:=od,data:=.seq items nl,slots:=nz }:=fX _ g1;have m8:=F.sub_list_set;have m9:=F.sub_list_frozenset;have ne:(Value.type "list" == Value.type "dict")=false:=by decide
    have L1:(s.heap.push ob).IsList l items:=⟨_,g4,rfl,nl,rfl⟩
    subst ho;unfold Builtin.«set.__init__»;unfold noKeywords;unfold Builtin.Frozenset.updateFrom;generalize hPI:pyIter=PI
    wp_walk
    subst hPI;refine wpAny_pyIter_list L1 (aR (wpAny_runValue (show _ from ?_)));have ll:l < s.heap.objs.size:=eB g1;have zI:(s.heap.push { cls:=.type "set",dict:=none,data:=.set #[] 0 (.fresh 0 0 (!oJ w)) }).objs.size=s.heap.objs.size+1:=vh ..;refine aQv (kd:=kd) (bt:=!oJ w) (s₀:=s) (h₀:=s.heap) S (hr _ (by simp)) (by simp[hh]) (items:=items) (its:=its) (by rw[zI];exact gM (nk ll)) (by rw[zI];exact gM (Bk _)) (je ll) hi ha kn (λh' tk ps x1 x2 x3 x4=>?_) (items.size - 0) 0 _ s.toks [] (by lia) (dz _) ⟨_,mJ _ rfl,rfl,rfl⟩ (L1.push _) (λp hp=>S.dh (HU p hp) λb o _ e=>fX _ (fX _ e)) (λb o _ _ e=>fX _ (fX _ e)) (aN6 kd _ (fX _ gN)) (λp hp=>absurd hp FA) (λk=>by simp);refine bI (show wpAny _ _ (ret Value.none) _ _ _ from bI ⟨rfl,h',tk,ps,rfl,λb o e=>x1 b o (gM (eB e)) (by rw[zI];exact gM (nk (eB e))) e,x2,x3,x4⟩)
   ·cases TU with
    |error e=>exact yc
    |ok G1=>
     cases G1 with
     |ret r=>
      obtain⟨rfl,h',tk,ps,rfl,x1,x2,x3,x4⟩:=yc;repeat (any_goals (first|wp_step|assumption))
      exact h _ _ _ x1 x2 x3 x4
     |_=>exact yc.elim
  |_=>exact HQ.elim
end
section
variable{prog:Program}{w:World}{A:Around}{E:aj}{s:Shared}
theorem aQx{Q:Bool->Shared->Prop}(hT:s.TypeIs (.ref r) "set")(h:Q false s):wpAny (model prog w) A (Builtin.List.listLengthHint (.ref r)) Q E s:=by
 unfold Builtin.List.listLengthHint;refine aR (wpAny_specialOf hT F.slot_set_len.lookup (show _ from ?_));generalize Ex:("set.__len__" : String)=LD
 wp_delta
 rw[show splitId LD=some ("set","__len__") by subst Ex;decide +kernel];subst Ex;refine aR (wpAny_isInstance (T:="set") (b:=true) hT (by rw[isSubtype_type];kernel_rfl) (show _ from ?_));refine wpAny_ite_split (λz=>absurd z (by decide)) (λ_=>(show _ from ?_));refine wpAny_ite_split (λ_=>(show _ from ?_)) (λz=>absurd (by decide +kernel) z);exact aR (wpAny_typeOf hT (bI h))
theorem aRz{es:Array (Int×Value)}{ep:Nat}:KdlSrc prog w "set" a a es.size (λi v=>∃e,(vd w a es ep)[i]?=some e/\v=e.2) (λh=>qu w h a es ep t) where
 type:=λ_ hm=>hm.ty
 there:=λ_ hm=>let ⟨_,e,_⟩:=hm.at_;⟨eB e,eB e⟩
 keep:=λ_ _ hm hk=>hm.keep λo e=>hk a (.inl rfl) o e
 notList:=by decide
 notTuple:=by decide
 hint:=λ_ _ _ _ hm hq=>aQx hm.ty hq
 iter:=λ_ _ hh hm=>⟨_,_,(λ_ _ hq=>aL8 hm hq),aQu hh (gM (let ⟨_,e,_⟩:=hm.at_;eB e)),⟨⟨_,mJ _ rfl,rfl,by simp[nv]⟩,hm.keep λo e=>fX _ e⟩⟩
theorem aRA:DM (tupleKind (intKind prog w)) where
 dh:=λ⟨o,its,n,a,b,c⟩ k=>⟨o,its,n,k _ o b a,b,c⟩
 BC:=by
  intro A E s k b Q hk h;have hT:=IsTupleKey.typeIs hk;obtain⟨o,items,n,ho,_,hd,hi⟩:=hk;unfold hashByValue;refine aR (wpAny_specialOf hT F.slot_tuple_hash.lookup (show _ from ?_));dsimp only;refine aR (wpAny_seqItems ho hd ?_);rw[J7,<-Array.forIn_toList];refine aR (wpAny_forIn_list _ (λrest r s'=>r.1=none/\s'=s/\∀v∈rest,∃n t,v=Value.int n t) _ ?_ ?_ _ _ ⟨rfl,rfl,?_⟩)
  ·rintro v rest r s' ⟨hr,rfl,fi⟩;obtain⟨n,t,rfl⟩:=fi v jc;refine aR (show wpAny _ _ (pure true) _ _ _ from bI ?_);simp only[DS,u9,if_false];exact bI ⟨rfl,rfl,λu yw=>fi u (fh _ yw)⟩
  ·rintro ⟨r1,r2⟩ s' ⟨hr,rfl,_⟩;dsimp only at hr;subst hr;exact bI h
  ·clear ho hd;generalize items.toList=l at hi;induction hi with
   |nil=>intro v hv;cases hv
   |cons h1 _ ih=>
    intro v hv;rcases lQ.mp hv with e|hv
    ·obtain⟨t,e2⟩:=Value.isInt_shape h1;exact⟨_,t,e.trans e2⟩
    ·exact ih v hv
 xy:=by
  intro A E s k b Q hk h;have hT:=IsTupleKey.typeIs hk;obtain⟨o,items,n,ho,_,hd,hi⟩:=hk;unfold ofAClassStatement;refine aR (wpAny_typeOf hT ?_);dsimp only;rw[cJ (by decide)];refine aR (bI ?_);simp only[DS,u9,if_false];refine aR (wpAny_seqItems ho hd ?_);dsimp only;rw[<-Array.forIn_toList];refine aR (wpAny_forIn_list _ (λrest r s'=>r.1=none/\s'=s/\∀v∈rest,∃n t,v=Value.int n t) _ ?_ ?_ _ _ ⟨rfl,rfl,?_⟩)
  ·rintro v rest r s' ⟨hr,rfl,fi⟩;obtain⟨n,t,rfl⟩:=fi v jc;refine aR (show wpAny _ _ (pure false) _ _ _ from bI ?_);simp only[u9,if_false];exact bI ⟨rfl,rfl,λu yw=>fi u (fh _ yw)⟩
  ·rintro ⟨r1,r2⟩ s' ⟨hr,rfl,_⟩;dsimp only at hr;subst hr;exact bI h
  ·clear ho hd;generalize items.toList=l at hi;induction hi with
   |nil=>intro v hv;cases hv
   |cons h1 _ ih=>
    intro v hv;rcases lQ.mp hv with e|hv
    ·obtain⟨t,e2⟩:=Value.isInt_shape h1;exact⟨_,t,e.trans e2⟩
    ·exact ih v hv
end
theorem aDk:∀{vs:af}{ns:aa},IntsAre vs ns->ItemsAre (intKind prog w) ns vs
 |_,_,.nil=>.nil
 |_,_,.cons n t r=>.cons (intKind_is _ _ _ _) (aDk r)
def Cd(w:World)(b:Addr)(qs:ah):Heap->Prop:=λh=>∃es ep t,qu w h b es ep t/\es.toList.map (·.2)=qs.map Value.ref
section
variable{X:Cx}
def Od(w:World):List V->Hp->VK->Prop:=λxs H Q=>∃(l:Addr) (qs:ah) (ts al:az),xs=[.ref l]/\H l=some (.lst (qs.map V.ref))/\dW H qs ts/\(∀t∈ts,t∈al)/\al.length < 64/\
 ∀(p:Addr) (mq:ah) (us:az),H p=none->dW H mq us->us.Nodup->(∀t,t∈us↔t∈ts)->Q (.ref p) (upd H p (.ext (Cd w p mq)))
theorem aJ1(hc:X.calm=true)(hu:X.A.units+9 < cLine):eC X (.type "set") (Od X.w):=by
 intro pins s σ H xs us Q I r h;obtain⟨l,qs,ts,al,rfl,hl,ht,Mh,kn,q⟩:=h;obtain⟨u,rfl,ru⟩:=vals1 r;cases ru;obtain⟨z,its,n,rv,hlen,e⟩:=I.A7 hl;obtain rfl:=JK rv;have hq:=ht.len;have mz:∀p∈ts.zip qs,∃j:Nat,ts[j]?=some p.1/\qs[j]?=some p.2:=λp hp=>by
  obtain⟨j,hj⟩:=Cq.mp hp;obtain⟨a,b⟩:=Qx.mp hj;exact⟨j,a,b⟩
 have zq:(ts.zip qs).map (λp=>Value.ref p.2)=qs.map Value.ref:=by
  rw[<-List.map_snd_zip (l₁:=ts) (l₂:=qs) (by lia),zW];congr 1;rw[List.map_snd_zip (by lia)]
 have zt:(ts.zip qs).map (·.1)=ts:=J0 (by lia);refine aQw (kd:=tupleKind (intKind X.prog X.w)) aRA (λA' hA=>show A'.units < cLine by lia) (I.ok.hd hc) ⟨_,e,rfl,_,rfl⟩ (its:=ts.zip qs) zq.symm (λp hp=>?_) (all:=al) (λp hp=>Mh _ (Fy hp).1) kn λh' tk ps k1 S1 k2 k3=>?_
 ·obtain⟨j,a,b⟩:=mz p hp;obtain⟨x,ne⟩:=ht.at_ j _ _ b a;obtain⟨_,its,r,o,g1,g2,n,g3⟩:=(show bO X.prog X.w H s.heap p.2 (.tup (p.1.map V.int)) from I.av p.2 _ x)
  exact⟨o,_,n,g1,g2,g3,aDk (by simpa using iQ r)⟩
 ·obtain⟨o,es,ep,t,g1,g2,g3,T,di,pl,ld,ee,_,nd⟩:=S1;have raw:qu X.w h' s.heap.objs.size es ep t:=⟨⟨o,g1,g2,g3⟩,T,pl,ld⟩
  have em:es.toList.map (·.2)=(ps.map (·.2)).map Value.ref:=by rw[ee,zW,zW];rfl
  refine⟨.ref s.heap.objs.size,_,I.laid (a:=s.heap.objs.size) (o:=.ext (Cd X.w s.heap.objs.size (ps.map (·.2)))) (t':=tk) (λb u q=>k1 b u q) (d7 _) ⟨⟨es,ep,t,raw,em⟩,⟨_,g1⟩,λh1 h2 z k=>?_⟩,rfl,q _ _ (ps.map (·.1)) (I.av.fresh (d7 _)) ⟨by simp,λj a b x y=>?_⟩ nd λt=>by rw[k3,zt]⟩
  ·obtain⟨es,ep,t,r,m⟩:=z;exact⟨es,ep,t,r.keep k,m⟩
  ·rw[hE] at x y;obtain⟨p,hp,e1⟩:=yQ.mp x;rw[hp] at y;cases y;obtain⟨j,a1,b1⟩:=mz p (k2 p (iI hp));rw[<-e1];exact ht.at_ j _ _ b1 a1
def Pa(w:World):List V->Hp->VK->Prop:=λxs H Q=>∃(b:Addr) (rs:ah) (ts:az),xs=[.ref b]/\H b=some (.ext (Cd w b rs))/\dW H rs ts/\ts.length < 64/\
 ∀(p:Addr) (qs:ah) (us:az),H p=none->dW H qs us->us.Perm ts->us.Pairwise (λa b=>gL b a=false)->Q (.ref p) (upd H p (.lst (qs.map V.ref)))
theorem aH3(hc:X.calm=true):eC X (.builtin "sorted") (Pa X.w):=by
 intro pins s σ H xs us Q I r h;obtain⟨b,rs,G5,rfl,hb,ht0,Xi,q⟩:=h;obtain⟨u,rfl,ru⟩:=vals1 r;cases ru;obtain⟨es,ep,t,raw,em⟩ : Cd X.w b rs s.heap:=(show bO X.prog X.w H s.heap b (.ext (Cd X.w b rs)) from I.av b _ hb).1;have hz:es.size=rs.length:=by have:=congrArg List.length em;simpa using this
 have hr0:=ht0.len;refine Calls.call_function_entry kind_sorted plain_sorted entry_sorted (args_sorted1 (.ref b)) ?_
 unfold Builtin.«sorted»;refine aR (m:=checkCount "sorted" 1 1 _) (bI (aR (PySem.W.kdu_collect (A:=X.A.in1) (aRz (a:=b) (es:=es) (ep:=ep) (t:=t)) (I.ok.hd hc) raw (by rw[fc];lia) λh1 tk acc k0 fz=>?_)));obtain⟨qs,ts,ht,ea,Hv⟩ : ∃(qs:ah) (ts:az),dW H qs ts/\acc.toList=qs.map Value.ref/\ts.Perm G5:=by
  have p1:((vd X.w b es ep).toList.map (·.2)).Perm ((rs.zip G5).map λp=>Value.ref p.1):=by
   have:(rs.zip G5).map (λp=>Value.ref p.1)=es.toList.map (·.2):=by
    rw[em,<-J0 (l₁:=rs) (l₂:=G5) (by lia),zW];congr 1;rw[J0 (by lia)]
   rw[this];exact(aEZ X.w b es ep).map _
  obtain⟨zs,z1,z2⟩:=Pw p1 rfl;refine⟨zs.map (·.1),zs.map (·.2),⟨by simp,λj a t' x y=>?_⟩,?_,?_⟩
  ·rw[hE] at x y;obtain⟨p,hp,e1⟩:=yQ.mp x;rw[hp] at y;cases y;obtain⟨i,hi⟩:=Cq.mp (z1.mem_iff.mp (iI hp));obtain⟨a1,b1⟩:=Qx.mp hi;rw[<-e1];exact ht0.at_ i _ _ a1 b1
  ·rw[zW];refine Eq.trans ?_ z2;refine Co λj=>?_;by_cases hj:j < acc.size
   ·have e1:acc[j]?=some acc[j]:=ma hj;obtain⟨e,he,ev⟩:=fz.2 j _ e1;rw[jq,e1,ev,hE,jq,he];rfl
   ·rw[xc (by simpa using hj),xc (by rw[bK,jf,yG,<-fz.1];lia)]
  ·have:=z1.map (·.2);rw[List.map_snd_zip (by lia)] at this;exact this
 have hq:=ht.len;have HL:=Hv.length_eq;have hv:(qs.map Value.ref).length=qs.length:=bK ..;rw[ea];have kn:qs.length < 64:=by lia
 refine aR (wpAny_newList ?_ (by rw[hv,fc];lia));have k1:∀b o,s.heap.get? b=some o->(h1.push (seqObj "list" (qs.map Value.ref).toArray 0)).get? b=some o:=λb o g=>fX _ (k0 b o g);have gD:(h1.push (seqObj "list" (qs.map Value.ref).toArray 0)).get? h1.objs.size=some (seqObj "list" (qs.map Value.ref).toArray 0):=mJ _ rfl;refine aR (eh (ja (s:={ s with heap:=h1.push (seqObj "list" (qs.map Value.ref).toArray 0),toks:=tk }) slot_list_sort ⟨_,gD,rfl⟩ entry_list_sort (aEQ gD ((ht.rV I).keeps λb o _ g=>k1 b o g) (by rw[hv];exact kn) λp hr hu=>⟨_,rfl,?_⟩) (args_list_sort (.ref h1.objs.size))));rw[hv] at hr hu;have pl:p.toList.Perm (List.range qs.length):=by simpa using FH.mp hr
 have ir:p.toList.length=qs.length:=by have:=pl.length_eq;simpa using this
 have eo:(eX (qs.map Value.ref) p).toList=(p.toList.map λi=>qs.getD i 0).map Value.ref:=by
  unfold eX;show p.toList.map (λi=>(qs.map Value.ref).getD i Value.none)=_;rw[zW];refine Bo λi hi=>?_;have li:i < qs.length:=zU.mp (pl.mem_iff.mp hi);show(qs.map Value.ref).getD i Value.none=Value.ref (qs.getD i 0);simp[yP,cG li]
 refine bI ⟨_,rfl,?_⟩;obtain⟨c,wg⟩:=sortedHeap_at (out:=eX (qs.map Value.ref) p) gD;have T':dW H (p.toList.map λi=>qs.getD i 0) (p.toList.map λi=>ts.getD i []):=by
  refine⟨by rw[bK,bK],λj a b x y=>?_⟩;rw[hE] at x y;obtain⟨i,e1,e2⟩:=yQ.mp x;rw[e1] at y;have li:i < qs.length:=zU.mp (pl.mem_iff.mp (iI e1));refine ht.at_ i a b ?_ ?_
  ·rw[<-e2];simp[yP,cG li]
  ·cases y;simp[yP,cG (show i < ts.length by lia)]
 obtain⟨hn,I2⟩:=I.Of (t':=tk) (h':=sortedHeap (h1.push (seqObj "list" (qs.map Value.ref).toArray 0)) h1.objs.size (qs.map Value.ref) (eX (qs.map Value.ref) p)) (a:=h1.objs.size) (o:=.lst ((p.toList.map λi=>qs.getD i 0).map V.ref)) (λb ob g=>by
   have lb:b < h1.objs.size:=eB (k0 b ob g);rw[sortedHeap_old (gM lb) (by rw[size_push'];exact nk lb)];exact k1 b ob g) (λb ob g=>gM (eB (k0 b ob g)))
  ⟨by rw[bK,bK,ir,fc];lia,(p.toList.map λi=>qs.getD i 0).map Value.ref,c,oH _,by rw[<-eo,Kq];exact wg⟩
 refine⟨.ref h1.objs.size,_,I2,rfl,q _ _ _ hn T' ?_ ?_⟩
 ·have:=pl.map (λi=>ts.getD i []);rw[hq,range_getD] at this;exact this.trans Hv
 ·rw[FG];intro i j hi hj we;rw[bK,ir] at hi hj;have key:∀k (hk:k < p.toList.length),(p.toList.map λi=>ts.getD i [])[k]'(by rw[bK];exact hk)=kq (O:=vP) (λi=>ts.getD i []) p k:=λk hk=>by
   rw[JZ];unfold kq;have:p.getD k 0=p.toList[k]:=by
    have ky:k < p.size:=by simpa using hk
    simp[Array.getD,ky]
   rw[this]
  rw[key i (by lia),key j (by lia)];exact hu i j (by lia) hj
end
section
variable{w:World}{H:Hp}{Q:VK}
theorem aN7{qs:ah}{ts al:az}(h1:H l=some (.lst (qs.map V.ref)))(h2:dW H qs ts)(h3:∀t∈ts,t∈al)(h4:al.length < 64)(h:∀(p:Addr) (mq:ah) (us:az),H p=none->dW H mq us->us.Nodup->(∀t,t∈us↔t∈ts)->Q (.ref p) (upd H p (.ext (Cd w p mq)))):Od w [.ref l] H Q:=⟨l,qs,ts,al,rfl,h1,h2,h3,h4,h⟩
theorem aMc{ts:az}(h1:H b=some (.ext (Cd w b rs)))(h2:dW H rs ts)(h3:ts.length < 64)(h:∀(p:Addr) (qs:ah) (us:az),H p=none->dW H qs us->us.Perm ts->us.Pairwise (λa b=>gL b a=false)->Q (.ref p) (upd H p (.lst (qs.map V.ref)))):Pa w [.ref b] H Q:=⟨b,rs,ts,rfl,h1,h2,h3,h⟩
end
section
variable{prog:Program}{w:World}{A:Around}{E:aj}{s:Shared}{it d:Addr}{es:Array DictEntry}{ep i:Nat}
def BO(e:DictEntry):Obj:={ cls:=.type "tuple",data:=.seq #[e.key,e.val] }
theorem aGO{f:Bool}{Q:aq->Shared->Prop}(hit:KdxIt s.heap it d i es.size ep ok ov a f)(ha:s.heap.get? a=some oa)(EB:a≠it)(hm:Raw s.heap d es ep)(hx:es[i]?=some e)(hQ:∀h',KdxIt h' it d (i+1) es.size ep ok ov a true->h'.get? s.heap.objs.size=some (BO e)->h'.objs.size=s.heap.objs.size+1->(∀b o,b≠it->s.heap.get? b=some o->h'.get? b=some o)->Q (some (.ref s.heap.objs.size)) { s with heap:=h' }) :
  wpAny (model prog w) A (pyNext (.ref it)) Q E s:=by
 obtain⟨hp,g,dr,tk,os⟩:=s;obtain⟨od,b1,b2,b3⟩:=id hm;have ty:Shared.TypeIs ⟨hp,g,dr,tk,os⟩ (.ref it) "dict_itemiterator":=⟨_,hit,rfl⟩
 unfold pyNext;refine aR (zh (wpAny_callSpecial?_slot (name:=Str.ofString "__next__") ty F.slot_dict_itemiterator_next
  (ja F.slot_dict_itemiterator_next ty F.entry_dict_itemiterator_next (show _ from ?_) (F.args_dict_itemiterator_next_1 _))))
 refine aR (bI ?_);refine aR (show _ from ?_);refine aR (show _ from ?_);first|refine aR (Br ty (show _ from bI ?_))|refine aR (Bq ty (show _ from bI ?_))
 refine aR (zi hit rfl (show _ from ?_));have own:Builtin.Dict_items.ownsTuple "dict_itemiterator" = true:=rfl;simp only[own,if_true];show wpAny _ _ (if (Value.ref d == Value.none)=true then _ else _) _ _ _;rw[bV (show ¬((Value.ref d == Value.none)=true) from λz=>nomatch z)];refine aR (bI ?_);refine aR (vk b1 b3 (show _ from ?_));rw[bV (show _ from by simp)];refine aR (bI ?_);refine aR (wz b1 b3 (show _ from ?_));rw[bV (show _ from by simp)];refine bI (show _ from ?_);simp only[show ¬((i:Int) < 0) by lia,if_false,pe,hx];refine aR (show _ from ?_);first|refine aR (Br ty (show _ from bI ?_))|refine aR (Bq ty (show _ from bI ?_))
 refine aR (wpAny_isOneOf_itemiter ty (show _ from ?_));show wpAny _ _ (setField (.ref it) 3 (rawInt ((i:Int)+1)) >>= _) _ _ _;refine aR (Cp hit (show _ by simp) λj1 c1 d1=>(show _ from ?_))
 replace d1:Heap.SameBut it hp j1:=d1
 replace c1:KdxIt j1 it d (i+1) es.size ep ok ov a f:=by
  unfold KdxIt;rw[show((i+1:Nat):Int)=(i:Int)+1 by lia];simpa [rawInt] using c1
 have BE:Shared.TypeIs ⟨j1,g,dr,tk,os⟩ (.ref it) "dict_itemiterator":=⟨_,c1,rfl⟩
 refine aR (eh (show _ from ?_));refine aR (wpAny_isOneOf_itemiter BE (aR (wpAny_isOneOf_itemiter BE (show _ from ?_))));show wpAny _ _ (Builtin.Dict_items.pairFromOwner (.ref it) 6 e.key e.val) _ _ ⟨j1,g,dr,tk,os⟩;unfold Builtin.Dict_items.pairFromOwner;refine aR (wpAny_newTuple (show _ from ?_));have c2:KdxIt (j1.push (BO e)) it d (i+1) es.size ep ok ov a f:=fX _ c1;generalize dk:j1.push (BO e)=j2 at c2;have z1:j1.objs.size=hp.objs.size:=d1.1;have il:it < hp.objs.size:=eB hit;have t2:j2.get? hp.objs.size=some (BO e):=by rw[<-dk,<-z1];exact mJ _ rfl
 have z2:j2.objs.size=hp.objs.size+1:=by rw[<-dk,vh,z1]
 have k2:∀b o,b≠it->hp.get? b=some o->j2.get? b=some o:=λb o hb q=>by rw[<-dk];exact fX _ (d1.extBut b o hb q)
 show wpAny _ _ (Builtin.Dict_items.ownedTupleIsFree (.ref it) >>= _) _ _ ⟨j1.push (BO e),g,dr,tk,os⟩;rw[dk,z1];clear dk c1 d1 BE z1 j1;have a2:j2.get? a=some oa:=k2 a oa EB ha;refine aR (show _ from ?_);unfold Builtin.Dict_items.ownedTupleIsFree;refine aR (wpAny_field c2 rfl (x:=rawInt a) rfl (show _ from ?_));show wpAny _ _ (loadIfAlive ((a:Int).toNat) >>= _) _ _ _;rw[pe];refine aR (kdx_alive a2 (show _ from ?_));simp only[Option.isNone_some,u9,if_false];refine aR (wpAny_field c2 rfl (x:=.bool f) rfl (show _ from ?_));have fin:∀j3:Heap,KdxIt j3 it d (i+1) es.size ep ok ov a true->Heap.SameBut it j2 j3->Q (some (.ref hp.objs.size)) ⟨j3,g,dr,tk,os⟩:=λj3 c3 d3=>
  hQ j3 c3 (d3.extBut _ _ (je il) t2) (show j3.objs.size=hp.objs.size+1 by rw[d3.1,z2]) λb o hb q=>d3.extBut b o hb (k2 b o hb q)
 cases f with
 |true=>
  rw[bV (show ¬((Value.bool true != Value.bool true)=true) from λz=>nomatch z)];refine bI (show _ from ?_);simp only[u9,if_false];exact bI (bI ⟨_,rfl,bI (fin j2 c2 (Heap.SameBut.refl _ _))⟩)
 |false=>
  rw[cJ (show(Value.bool false != Value.bool true)=true by rfl)];refine aR (Cp c2 (show _ by simp) λj3 c3 d3=>(show _ from ?_))
  replace d3:Heap.SameBut it j2 j3:=d3;replace c3:KdxIt j3 it d (i+1) es.size ep ok ov a true:=c3
  refine bI (show _ from ?_);simp only[u9,if_false];exact bI (bI ⟨_,rfl,bI (fin j3 c3 d3)⟩)
theorem aH4{f:Bool}{Q:aq->Shared->Prop}(hh:A.handled=none)(hit:KdxIt s.heap it d i es.size ep ok ov a f)(hm:Raw s.heap d es ep)(hx:es.size<=i)(hQ:∀h',Heap.ExtBut it s.heap h'->Q none { s with heap:=h' }):wpAny (model prog w) A (pyNext (.ref it)) Q E s:=by
 obtain⟨od,b1,b2,b3⟩:=id hm;have ty:s.TypeIs (.ref it) "dict_itemiterator":=⟨_,hit,rfl⟩
 unfold pyNext;refine aR (zh (wpAny_callSpecial?_slot (name:=Str.ofString "__next__") ty F.slot_dict_itemiterator_next
  (ja F.slot_dict_itemiterator_next ty F.entry_dict_itemiterator_next (show _ from ?_) (F.args_dict_itemiterator_next_1 _))))
 refine aR (bI ?_);refine aR (show _ from ?_);refine aR (show _ from ?_);first|refine aR (Br ty (show _ from bI ?_))|refine aR (Bq ty (show _ from bI ?_))
 refine aR (zi hit rfl (show _ from ?_));have own:Builtin.Dict_items.ownsTuple "dict_itemiterator" = true:=rfl;simp only[own,if_true];show wpAny _ _ (if (Value.ref d == Value.none)=true then _ else _) _ _ _;rw[bV (show ¬((Value.ref d == Value.none)=true) from λz=>nomatch z)];refine aR (bI ?_);refine aR (vk b1 b3 (show _ from ?_));rw[bV (show _ from by simp)];refine aR (bI ?_);refine aR (wz b1 b3 (show _ from ?_));rw[bV (show _ from by simp)];refine bI (show _ from ?_);simp only[show ¬((i:Int) < 0) by lia,if_false,pe,DZ hx];refine aR (show _ from ?_);first|refine aR (Br ty (show _ from bI ?_))|refine aR (Bq ty (show _ from bI ?_))
 show wpAny _ _ (setField (.ref it) 2 Value.none >>= _) _ _ s;refine aR (An hit rfl (show _ by simp) (show _ from ?_));show wpAny _ _ (newExc (.type "StopIteration") [] >>= _) _ _ _;refine aR (show _ from ?_);simp only[newExc,newTuple];refine aR (jb (show _ from ?_) (by size_fits));refine aR (m:=firstArgMember _ _) (wpAny_of_eq (a:=Value.none) (show _ by first|rfl|(simp only[firstArgMember];rfl)) (show _ from ?_));refine jb (show _ from ?_) (by size_fits);simp only[raiseNew];refine aR (wpAny_handled (show _ from ?_));rw[show A.in1.handled=none from hh];refine aR (bI (wpAny_throw ?_));refine aR (wpAny_isInstance (T:="StopIteration") (b:=true) ⟨_,mJ _ rfl,rfl⟩ isSubtype_stop (show _ from ?_));exact bI (hQ _ (show _ from((Heap.SameBut.update ..).extBut.push _).push _))
theorem aJ2{Q:aq->Shared->Prop}(bq:KdxSt s.heap it d S i es.size ep)(hS:S < s.heap.objs.size)(hm:Raw s.heap d es ep)(hx:es[i]?=some e)(hQ:∀h',KdxSt h' it d S (i+1) es.size ep->h'.get? s.heap.objs.size=some (BO e)->h'.objs.size=s.heap.objs.size+1->(∀b o,b≠it->s.heap.get? b=some o->h'.get? b=some o)->Q (some (.ref s.heap.objs.size)) { s with heap:=h' }) :
  wpAny (model prog w) A (pyNext (.ref it)) Q E s:=by
 rcases bq with ⟨rfl,ok,ov,hit⟩|⟨ok,ov,a,f,oa,hit,ha,EB,haS⟩
 ·exact aAH hit hm hx λh' c t z k=>hQ h' (.inr ⟨e.key,e.val,_,false,_,c,t,je (eB hit),je hS⟩) t z k
 ·exact aGO hit ha EB hm hx λh' c t z k=>hQ h' (.inr ⟨ok,ov,a,true,oa,c,k a oa EB ha,EB,haS⟩) t z k
theorem aJ3{Q:aq->Shared->Prop}(hh:A.handled=none)(bq:KdxSt s.heap it d S i es.size ep)(hm:Raw s.heap d es ep)(hx:es.size<=i)(hQ:∀h',Heap.ExtBut it s.heap h'->Q none { s with heap:=h' }):wpAny (model prog w) A (pyNext (.ref it)) Q E s:=by
 rcases bq with ⟨rfl,ok,ov,hit⟩|⟨ok,ov,a,f,oa,hit,_,_,_⟩
 ·exact aBY hh hit hm hx hQ
 ·exact aH4 hh hit hm hx hQ
structure Cb(es:Array DictEntry)(lo:Addr)(h:Heap)(as:ah):Prop where
 rise:as.Pairwise (·< ·)
 above:∀a∈as,lo < a
 at_:∀(j:Nat) (a:Addr),as[j]?=some a->∃e,es[j]?=some e/\h.get? a=some (BO e)
theorem Cb.there{lo:Addr}{h:Heap}{as:ah}(g:Cb es lo h as){a:Addr}(ha:a∈as):a < h.objs.size:=by
 obtain⟨j,hj⟩:=Cq.mp ha;obtain⟨_,_,e⟩:=g.at_ j a hj;exact eB e
theorem aJ4(hh:A.handled=none)(ED:S < I)(HY:d≠S)(hId:d≠I)(hn:es.size<=sizeLine)(res:Value){h₁:Heap}{R:Result->Shared->Prop}(hR:∀h' tk acc c as,(∀b o,b≠S->b≠I->h₁.get? b=some o->h'.get? b=some o)->h'.get? S=some { cls:=.type "list",dict:=none,data:=.seq acc c,slots:=#[] }->as.length=es.size->Cb es I h' as->acc.toList=as.map Value.ref->R (.ok (.ret res)) { s with heap:=h',toks:=tk }) :
  ∀(k i:Nat) (h:Heap) (tk c:Nat) (acc:Array Value) (as:ah),es.size - i=k->i<=es.size->KdxSt h I d S i es.size ep->Raw h d es ep->(∀b o,b≠S->b≠I->h₁.get? b=some o->h.get? b=some o)->h.get? S=some { cls:=.type "list",dict:=none,data:=.seq acc c,slots:=#[] }->acc.toList=as.map Value.ref->as.length=i->Cb es I h as->I < h.objs.size->
   codeAny (model prog w) A (.builtin "list.extend.loop" ⟨[.ref S,.ref I,res],[]⟩) R { s with heap:=h,toks:=tk }:=by
 have ne:S≠I:=gM ED;intro k;induction k with
 |zero=>
  intro i h tk c acc as hk hi st hD kp gS ea el hG lI;refine codeAny_builtin PySem.F.entry_extend_loop (show _ from ?_);rw[Around.under_plainId PySem.F.plain_extend_loop _];refine(show wpAny _ A.in1 (pyNext (.ref I) >>= _) _ _ _ from aR (aJ3 (s:={ s with heap:=h,toks:=tk }) (A:=A.in1) hh st hD (by lia) λh' he=>?_));refine bI (hR h' tk acc c as (λb o h1 h2 e=>he b o h2 (kp b o h1 h2 e)) (he S _ ne gS) (by lia) ⟨hG.rise,hG.above,λj a hj=>?_⟩ ea);obtain⟨e,e1,e2⟩:=hG.at_ j a hj;exact⟨e,e1,he a _ (je (hG.above a (iI hj))) e2⟩
 |succ k ih=>
  intro i h tk c acc as hk hi st hD kp gS ea el hG lI;have br:i < es.size:=by lia
  have hx:es[i]?=some es[i]:=ma br;have hsz:acc.size=i:=by rw[<-jf,ea,bK,el]
  refine codeAny_builtin PySem.F.entry_extend_loop (show _ from ?_);rw[Around.under_plainId PySem.F.plain_extend_loop _];refine(show wpAny _ A.in1 (pyNext (.ref I) >>= _) _ _ _ from aR (aJ2 (s:={ s with heap:=h,toks:=tk }) (S:=S) st (eB gS) hD hx λh' cn ht hz BW=>?_));dsimp only at ht hz BW ⊢;have za:=BW S _ ne gS;have up:∀b o,b≠S->h'.get? b=some o->(h'.update S (Obj.mapSeq (·.push (Value.ref h.objs.size)))).get? b=some o:=λb o hb e=>(D0 _ _ (Ne.symm hb)).trans e;have lS:S < h.objs.size:=eB gS;refine(show wpAny _ A.in1 (updateSeq S (·.push (Value.ref h.objs.size)) >>= _) _ _ _ from aR ?_);refine wpAny_updateSeq za rfl (bI ⟨plainId_quiet PySem.F.plain_extend_loop _,ih (i+1) _ tk _ (acc.push (Value.ref h.objs.size)) (as ++ [h.objs.size]) (by lia) br (cn.keep up (Ne.symm ne)) (hD.keep λo e=>up d o HY (BW d o hId e)) (λb o h1 h2 e=>up b o h1 (BW b o h2 (kp b o h1 h2 e)))
   (zk _ za rfl) (by rw[Array.toList_push,ea,iJ];rfl) (by rw[uN,el];rfl) ⟨List.pairwise_append.mpr ⟨hG.rise,List.pairwise_singleton _ _,λa ha b hb=>?_⟩,λa ha=>?_,λj b hj=>?_⟩ ?_⟩) (by rw[hsz];lia) (by show(acc.push (Value.ref h.objs.size)).size<=sizeLine+1;rw[Array.size_push,hsz];lia)
  ·rw[ff.mp hb];exact hG.there ha
  ·rcases iy.mp ha with z|z
   ·exact hG.above a z
   ·rw[ff.mp z];exact lI
  ·by_cases dk:j < as.length
   ·rw[kr dk] at hj;obtain⟨e,e1,e2⟩:=hG.at_ j b hj;have hb:=hG.above b (iI hj);exact⟨e,e1,up b _ (je (wy ED hb)) (BW b _ (je hb) e2)⟩
   ·have BX:j < (as ++ [h.objs.size]).length:=(g0.mp hj).1;rw[uN,Ar] at BX;obtain rfl:j=as.length:=by lia
    rw[nu (d7 _),ou] at hj;cases hj;exact⟨_,by rw[el];exact hx,up _ _ (je lS) ht⟩
  ·exact wy lI (eB (up _ _ (je lS) ht))
theorem aGP{R:Result->Shared->Prop}(hh:A.handled=none)(hv:s.heap.IsItemsView r d)(hm:Raw s.heap d es ep)(hn:es.size<=sizeLine)(S:Addr)(hSr:S≠r)(HY:d≠S)(res:Value)(c₀:Nat)(hS:s.heap.get? S=some { cls:=.type "list",data:=.seq #[] c₀ })(hR:∀h' tk acc c as,(∀b o,b≠S->s.heap.get? b=some o->h'.get? b=some o)->h'.get? S=some { cls:=.type "list",dict:=none,data:=.seq acc c,slots:=#[] }->as.length=es.size->Cb es s.heap.objs.size h' as->acc.toList=as.map Value.ref->R (.ok (.ret res)) { s with heap:=h',toks:=tk }) :
  wpAny (model prog w) A.in1 (Builtin.List.listExtendWith (.ref S) (.ref r) res) (λfin s'=>match fin with|.done f=>R (.ok f) s'|.again c'=>c'.quiet=true/\codeAny (model prog w) A c' R s') (λe s'=>R (.error e) s') s:=by
 have lS:S < s.heap.objs.size:=eB hS;have ld:d < s.heap.objs.size:=let ⟨_,ho,_⟩:=hm;eB ho
 generalize LS:({ cls:=.type "dict_itemiterator",data:=.fields #[.none,.bool false,.ref d,.int 0 0,.int es.size 0,.int ep 0,.none,.none] }:Obj)=oI;have key:∀(h:Heap) (c₁ tk:Nat),(∀b o,b≠S->(s.heap.push oI).get? b=some o->h.get? b=some o)->h.get? S=some { cls:=.type "list",data:=.seq #[] c₁ }->codeAny (model prog w) A (.builtin "list.extend.loop" ⟨[.ref S,.ref s.heap.objs.size,res],[]⟩) R { s with heap:=h,toks:=tk }:=by
  intro h c₁ tk hk gS;have gI:h.get? s.heap.objs.size=some oI:=hk s.heap.objs.size _ (je lS) (mJ _ (by rw[<-LS];rfl));refine aJ4 (es:=es) (ep:=ep) (s:=s) (h₁:=s.heap) hh lS HY (gM ld) hn res (λh' vo acc c as k' za el hG ea=>hR h' vo acc c as (λb o hb e=>k' b o hb (gM (eB e)) e) za el hG ea) es.size 0 h tk c₁ #[] [] (Cm _) (dz _) (.inl ⟨rfl,.none,.none,?_⟩) (hm.keep λo e=>hk d o HY (fX _ e)) (λb o hb _ e=>hk b o hb (fX _ e)) gS rfl rfl ⟨List.Pairwise.nil,(λ_ z=>nomatch z),(λj a z=>by simp at z)⟩ (eB gI);rw[<-LS] at gI;exact gI
 unfold Builtin.List.listExtendWith;refine aR (wpAny_typeOf (T:="dict_items") hv.typeIs (show _ from ?_));have q1:Builtin.List.listSameRef (.ref S) (.ref r)=false:=by simp[Builtin.List.listSameRef,hSr]
 have q2:(Value.type "dict_items" == Value.type "list")=false:=by decide
 have q3:(Value.type "dict_items" == Value.type "tuple")=false:=by decide
 simp only[q1,q2,q3,Bool.or_false,u9,if_false];refine aR (yY hv hm ?_);rw[LS];have gS:=fX oI hS;refine aR (eh (kdx_hint (let ⟨o,ho,hc,_⟩:=hv;⟨o,fX _ ho,hc⟩) (show _ from ?_)));refine wpAny_ite_split (λ_=>(show _ from ?_)) (λ_=>bI ⟨plainId_quiet PySem.F.plain_extend_loop _,key _ c₀ _ (λb o _ e=>e) gS⟩);refine aR (wpAny_rule (aR (show wpAny _ _ (updateSeq S (·.push .none) >>= λ_=>updateSeq S (·.pop)) _ _ _ from aR (wpAny_updateSeq gS rfl ?_))));have gS2:=zk (Obj.mapSeq (·.push Value.none)) gS rfl;refine wpAny_updateSeq (hz:=by seq_fits) gS2 rfl (show _ from ?_);have gS3:=zk (Obj.mapSeq (·.pop)) gS2 rfl;exact bI ⟨plainId_quiet PySem.F.plain_extend_loop _,key _ _ _ (λb o hb e=>(D0 _ _ (Ne.symm hb)).trans ((D0 _ _ (Ne.symm hb)).trans e)) gS3⟩
theorem aFA{R:af->Shared->Prop}(hh:A.handled=none)(hv:s.heap.IsItemsView r d)(hm:Raw s.heap d es ep)(hn:es.size<=sizeLine)(h:∀(h':Heap) (tk:Nat) (as:ah),(∀b o,s.heap.get? b=some o->h'.get? b=some o)->as.length=es.size->Cb es s.heap.objs.size h' as->R (as.map Value.ref) { s with heap:=h',toks:=tk }) :
  wpAny (model prog w) A (collect (.ref r)) R E s:=by
 have hr:r < s.heap.objs.size:=let ⟨_,ho,_⟩:=hv;eB ho
 have hd:d < s.heap.objs.size:=let ⟨_,ho,_⟩:=hm;eB ho
 unfold collect;refine aR (wpAny_runValue (codeAny_builtin entry_proto_collect' (show _ from ?_)));rw[Around.under_plainId PySem.F.plain_proto_collect _];refine(show wpAny _ A.in1 (newList [] >>= λl=>again (.builtin "list.__iadd__" ⟨[l,.ref r],[]⟩)) _ _ s from aR (jb (show _ from ?_)));refine bI ⟨plainId_quiet PySem.F.plain_list_iadd _,codeAny_builtin entry_list_iadd' (show _ from ?_)⟩;rw[Around.under_plainId PySem.F.plain_list_iadd _];have gS:(s.heap.push { cls:=.type "list",data:=.seq ([]:af).toArray }).get? s.heap.objs.size=some { cls:=.type "list",data:=.seq #[] }:=mJ _ rfl;refine(show wpAny _ A.in1 (Builtin.List.listExtendWith (.ref s.heap.objs.size) (.ref r) (.ref s.heap.objs.size)) _ _ _ from ?_);have key:=aGP (prog:=prog) (w:=w) (A:=A) (s:={ s with heap:=s.heap.push { cls:=.type "list",data:=.seq ([]:af).toArray } }) (es:=es) (ep:=ep)
  (R:=λ(q:Result) (s':Shared)=>∃(h':Heap) (tk:Nat) (bz:Array Value) (c':Nat) (as:ah),q=.ok (.ret (.ref s.heap.objs.size))/\s'={ s with heap:=h',toks:=tk }/\(∀b o,s.heap.get? b=some o->h'.get? b=some o)/\h'.get? s.heap.objs.size=some { cls:=.type "list",dict:=none,data:=.seq bz c',slots:=#[] }/\as.length=es.size/\Cb es s.heap.objs.size h' as/\bz.toList=as.map Value.ref)
  hh (let ⟨o,ho,x⟩:=hv;⟨o,fX _ ho,x⟩) (hm.keep λo e=>fX _ e) hn s.heap.objs.size (je hr) (gM hd) (.ref s.heap.objs.size) 0 gS
  (λh' tk bz c' as k' za el hG ea=>⟨h',tk,bz,c',as,rfl,rfl,λb o e=>k' b o (gM (eB e)) (fX _ e),za,el,⟨hG.rise,λa ha=>wy (show s.heap.objs.size < (s.heap.push _).objs.size by rw[vh];exact Bk _) (hG.above a ha),hG.at_⟩,ea⟩)
 refine kb key (λfin s' x=>?_) λe s' x=>?_
 ·cases fin with
  |done f=>
   obtain⟨h',tk,bz,c',as,e,rfl,k',za,el,hG,ea⟩:=x;cases e;refine(show wpAny _ A (load s.heap.objs.size >>= _) _ _ _ from aR (wpAny_load za (bI (show R bz.toList _ from ?_))));rw[ea];exact h h' tk as k' el hG
  |again c₁=>
   refine⟨x.1,codeAny_mono x.2 λq dg y=>?_⟩;obtain⟨h',tk,bz,c',as,rfl,rfl,k',za,el,hG,ea⟩:=y;refine(show wpAny _ A (load s.heap.objs.size >>= _) _ _ _ from aR (wpAny_load za (bI (show R bz.toList _ from ?_))));rw[ea];exact h h' tk as k' el hG
 ·obtain⟨_,_,_,_,_,z,_⟩:=x;cases z
end
theorem Pu:∀{vs:af}{ns:aa},IntsAre vs ns->ItemsAre (intKind prog w) ns vs
 |_,_,.nil=>.nil
 |_,_,.cons n t r=>.cons (intKind_is _ _ _ _) (Pu r)
theorem aI2:∀as bs:aa,HT.lexLt as bs=gL as bs
 |[],[]=>rfl
 |[],_::_=>rfl
 |_::_,[]=>rfl
 |a::as,b::bs=>by rw[HT.aCU,cS,aI2 as bs]
theorem aE0{x y:Int}:∀{as bs:aa},as.length=bs.length->gL (as ++ [x]) (bs ++ [y])=if as=bs then decide (x < y) else gL as bs
 |[],[],_=>by
  show gL [x] [y]=_;rw[cS,cJ rfl];by_cases e:x=y
  ·rw[cJ e,e];simp[gL]
  ·rw[bV e]
 |[],_::_,h=>by simp at h
 |_::_,[],h=>by simp at h
 |a::as,b::bs,h=>by
  rw[List.cons_append,List.cons_append,cS,cS];by_cases e:a=b
  ·rw[cJ e,cJ e,aE0 (by simpa using h)];by_cases e2:as=bs
   ·rw[cJ e2,cJ (by rw[e,e2])]
   ·rw[bV e2,bV λz=>e2 (List.cons.inj z).2]
  ·rw[bV e,bV e,bV λz=>e (List.cons.inj z).1]
def NP(h:Heap)(v:Value)(r:aa×Int):Prop:=∃x o c u n oc its m,v=.ref x/\h.get? x=some o/\o.cls=.type "tuple"/\o.data=.seq #[.ref c,.int r.2 u] n/\h.get? c=some oc/\oc.cls=.type "tuple"/\oc.data=.seq its m/\IntsAre its.toList r.1
theorem NP.keeps{h h':Heap}{r:aa×Int}(x:NP h v r)(k:∀(b:Addr) (o:Obj),o.cls=.type "tuple"->h.get? b=some o->h'.get? b=some o):NP h' v r:=by
 obtain⟨x,o,c,u,n,oc,its,m,e,a1,a2,a3,b1,b2,b3,i⟩:=x;exact⟨x,o,c,u,n,oc,its,m,e,k _ _ a2 a1,a2,a3,k _ _ b2 b1,b2,b3,i⟩
structure FP(h:Heap)(L:Nat)(vs:af)(rs:List (aa×Int)):Prop where
 len:vs.length=rs.length
 at_:∀(j:Nat) v r,vs[j]?=some v->rs[j]?=some r->NP h v r/\r.1.length=L
def lV(r:aa×Int):aa:=r.1 ++ [r.2]
section
variable{prog:Program}{w:World}{A:Around}{E:aj}{s:Shared}
theorem aN8{L:Nat}{rs:List (aa×Int)}(hu:A.units < cLine)(r:FP s.heap L vs rs):uf (O:=vP) (λi=>(rs.map lV).getD i []) vs.length (kas_ask prog w A (tuples' false) vs) s:=λi j C hi hj h=>by
 have hl:=r.len;have e1:vs[i]?=some vs[i]:=cG hi;have e2:vs[j]?=some vs[j]:=cG hj;have e3:rs[i]?=some rs[i]:=cG (by lia);have e4:rs[j]?=some rs[j]:=cG (by lia);obtain⟨⟨x,o,c,u,n,oc,its,m,ev,a1,a2,a3,b1,b2,b3,i1⟩,l1⟩:=r.at_ i _ _ e1 e3;obtain⟨⟨y,o',c',u',n',Ec,its',m',EM,Qq,a2',a3',IF,b2',b3',i2⟩,l2⟩:=r.at_ j _ _ e2 e4;unfold kas_ask;rw[show vs.getD i Value.none=.ref x by rw[yP,e1,ev];rfl,show vs.getD j Value.none=.ref y by rw[yP,e2,EM];rfl];have hb:vP.blt ((rs.map lV).getD i []) ((rs.map lV).getD j [])=if rs[i].1=rs[j].1 then decide (rs[i].2 < rs[j].2) else gL rs[i].1 rs[j].1:=by
  rw[yP,yP,hE,hE,e3,e4];exact aE0 (by rw[l1,l2])
 rw[hb] at h;refine kat_lt a1 a3 Qq a3' ?_;show KatLex prog w A false _ C ((Value.ref c,Value.ref c')::(Value.int rs[i].2 u,Value.int rs[j].2 u') :: []) 0 s;refine kat_cons (wpAny_eqBool_tuple (knd:=intKind prog w) hu ⟨oc,its,m,b1,b2,b3,Pu i1⟩ ⟨Ec,its',m',IF,b2',b3',Pu i2⟩ ?_);by_cases e:rs[i].1=rs[j].1
 ·rw[zV e];rw[cJ e] at h;refine kat_yes (kat_cons (wpAny_eqBool_int ?_));by_cases e5:rs[i].2=rs[j].2
  ·rw[show(rs[i].2 == rs[j].2)=true by simp[e5]];refine kat_yes (kat_nil ?_);rw[e5,ia (by lia)] at h;exact h
  ·rw[show(rs[i].2 == rs[j].2)=false by simp[e5]];exact kat_no (kat_one _ _ (PyProof.Rows.lt_int h))
 ·rw[ia e];rw[bV e] at h;refine kat_no (kat_one _ _ (HT.aHv (ns:=rs[i].1) (ms:=rs[j].1) ⟨oc,b1,b2,m,b3⟩ ⟨Ec,IF,b2',m',b3'⟩ i1 i2 hu ?_));rw[aI2];exact h
theorem aMd{vs fs:af}{ts:az}{n:Nat}{P:PySem.Fin->Shared->Prop}(ho:s.heap.get? a=some (seqObj "list" vs.toArray n))(kn:vs.length < 64)(hF:∀h6:Heap,(∀b o,b≠a->s.heap.get? b=some o->h6.get? b=some o)->KatTups h6 vs fs/\fs.length=vs.length/\(∀v∈fs,Looks (model prog w) h6 (typeOf v) T)/\uf (O:=vP) (λi=>ts.getD i []) vs.length (kas_ask prog w A (tuples' (T != Value.type "tuple")) vs) { s with heap:=h6 })(B0:(T == T)=true)(h:∀p,Row vs.length p->Up (O:=vP) (λi=>ts.getD i []) p vs.length->P (.done (.ret .none)) { s with heap:=sortedHeap s.heap a vs (eX vs p) }) :
  wpAny (model prog w) A (Builtin.«list.sort» ⟨[.ref a],[]⟩) P E s:=by
 rw[list_sort_plain];have la:=eB ho;refine aR (listItems_at ho rfl (aR (listUpdate_at ho rfl ?_)));obtain⟨e1,g1⟩ : ∃e,(s.heap.update a (Obj.mapSeq λ_=>#[])).get? a=some (seqObj "list" #[] e):=⟨_,get?_update_seq ho λ_=>#[]⟩
 refine aR (seqEpoch_at g1 rfl (aR (wpAny_newTuple (aR (wpAny_newList (eh ?_))))));generalize BZ:((s.heap.update a (Obj.mapSeq λ_=>#[])).push (seqObj "tuple" vs.toArray 0)).push (seqObj "list" #[] 0)=h6;have yb:∀b o,b≠a->s.heap.get? b=some o->h6.get? b=some o:=λb o nb e=>by
  have lb:=eB e;rw[<-BZ,Bl _ _ _ (gM (by rw[size_push',Ao];exact nk lb)),Bl _ _ _ (gM (by rw[Ao];exact lb)),Heap.get?_update_ne _ _ _ _ nb];exact e
 have g6:h6.get? a=some (seqObj "list" #[] e1):=by
  rw[<-BZ,Bl _ _ _ (gM (by rw[size_push',Ao];exact nk la)),Bl _ _ _ (gM (by rw[Ao];exact la))];exact g1
 have fin:∀p,Row vs.length p->Up (O:=vP) (λi=>ts.getD i []) p vs.length->P (.done (.ret .none)) { s with heap:=h6.update a (Obj.mapSeq λ_=>eX vs p) }:=λp r u=>by
  rw[<-BZ];exact h p r u
 obtain⟨f1,f2,f3,T6⟩:=hF h6 yb;show wpAny (model prog w) A _ P E { s with heap:=h6 };have LI:vs.toArray.size=vs.length:=iL;dsimp only;by_cases small:vs.toArray.size < 2
 ·rw[cJ small,cJ small];refine aR (bI ?_);rw[StateT.run_pure];refine aR (bI ?_);have ev:((vs.toArray.zip vs.toArray).map λx=>x.2)=eX vs (List.toArray (List.range vs.length)):=by
   unfold eX
   match vs,LI,small with
   |[],_,_=>simp
   |[v],_,_=>simp
   |_::_::_,_,z=>simp at z;lia
  refine aR (seqEpoch_at g6 rfl (aR (listUpdate_at g6 rfl ?_ (hsz2:=?_))))
  ·simp only[bne_self_eq_false,u9,if_false];refine bI ?_;show P (.done (.ret .none)) { s with heap:=h6.update a (Obj.mapSeq λ_=>(vs.toArray.zip vs.toArray).map λx=>x.2) };rw[ev];exact fin _ (Array.Perm.refl _) λi j x y=>by
    have z:i=j:=by lia
    subst z;exact KeyOrd.kle_refl _
  ·show((vs.toArray.zip vs.toArray).map λx=>x.2).size<=_;rw[ev,eX,iL,bK,fc];simp;lia
 ·rw[bV small,bV small];refine aR (kat_kind (s:={ s with heap:=h6 }) (T:=T) f1 (by lia) f3 B0 ?_);refine aR (kb (kat_run (ks:=vs) (vs:=vs) (prog:=prog) (w:=w) (A:=A) (E:=E) (s:={ s with heap:=h6 }) (Q:=λcn s'=>s'={ s with heap:=h6 }/\∃p,p.size=vs.length/\arrOf cn=p.map (kas_item (vs.toArray.zip vs.toArray))/\failedOf cn=none/\Row vs.length p/\Up (O:=vP) (λi=>ts.getD i []) p vs.length)
   (G:=λp s'=>s'={ s with heap:=h6 }/\Row vs.length p/\Up (O:=vP) (λi=>ts.getD i []) p vs.length) rfl (by lia) kn (λp cn s' hz Af hf hG=>⟨hG.1,p,hz,Af,hf,hG.2.1,hG.2.2⟩) (aIL T6 (by lia) λp r u=>⟨rfl,r,u⟩)) ?_ λ_ _ e=>e)
  rintro ⟨_,cn⟩ s' ⟨rfl,p,hz,Af,hf,hr,hu⟩;dsimp only at Af hf ⊢;have eo:=kat_snds (ks:=vs) (vs:=vs) rfl Af;refine aR (seqEpoch_at g6 rfl (aR (listUpdate_at g6 rfl ?_ (hsz2:=?_))))
  ·rw[hf];simp only[bne_self_eq_false,u9,if_false];refine bI ?_;show P (.done (.ret .none)) { s with heap:=h6.update a (Obj.mapSeq λ_=>(arrOf cn).map (·.2)) };rw[eo];exact fin p hr hu
  ·show((arrOf cn).map (·.2)).size<=_;rw[eo,iL,bK,jf,hz,fc];lia
theorem aGQ{L:Nat}{vs:af}{rs:List (aa×Int)}{n:Nat}{P:PySem.Fin->Shared->Prop}(hu:A.units < cLine)(ho:s.heap.get? a=some (seqObj "list" vs.toArray n))(hN:FP s.heap L vs rs)(kn:vs.length < 64)(h:∀p,Row vs.length p->Up (O:=vP) (λi=>(rs.map lV).getD i []) p vs.length->P (.done (.ret .none)) { s with heap:=sortedHeap s.heap a vs (eX vs p) }) :
  wpAny (model prog w) A (Builtin.«list.sort» ⟨[.ref a],[]⟩) P E s:=by
 have fst:∀{vs:af} {rs:List (aa×Int)} {h:Heap},FP h L vs rs->∃fs:af,fs.length=vs.length/\∀h',(∀(b:Addr) (o:Obj),o.cls=.type "tuple"->h.get? b=some o->h'.get? b=some o)->KatTups h' vs fs/\∀v∈fs,Looks (model prog w) h' (typeOf v) (.type "tuple"):=by
  intro vs;induction vs with
  |nil=>intro rs h hN;exact⟨[],rfl,λh' _=>⟨.nil,λv z=>by cases z⟩⟩
  |cons v vs ih=>
   intro rs h hN;cases rs with
   |nil=>have:=hN.len;simp at this
   |cons r rs=>
    obtain⟨fs,f1,f2⟩:=ih (rs:=rs) (h:=h) ⟨by have:=hN.len;simpa using this,λj v r x y=>hN.at_ (j+1) v r x y⟩;obtain⟨⟨x,o,c,u,n,oc,its,m,rfl,a1,a2,a3,b1,b2,b3,i1⟩,_⟩:=hN.at_ 0 v r rfl rfl;refine⟨.ref c::fs,by rw[yW,yW,f1],λh' k=>?_⟩;obtain⟨g1,g2⟩:=f2 h' k;refine⟨.cons (k _ _ a2 a1) a2 a3 rfl g1,λv z=>?_⟩;rcases lQ.mp z with z|z
    ·rw[z,<-b2];exact(Looks.ld (k _ _ b2 b1)).andThen .now
    ·exact g2 v z
 obtain⟨fs,f1,f2⟩:=fst hN;have kp:∀h6:Heap,(∀b o,b≠a->s.heap.get? b=some o->h6.get? b=some o)->∀(b:Addr) (o:Obj),o.cls=.type "tuple"->s.heap.get? b=some o->h6.get? b=some o:=λh6 k b o c e=>k b o (λz=>by rw[z,ho] at e;cases e;exact absurd c (show ¬Value.type "list" = Value.type "tuple" by decide)) e;refine aMd (fs:=fs) (T:=.type "tuple") (ts:=rs.map lV) ho kn (λh6 k=>?_) rfl h;obtain⟨g1,g2⟩:=f2 h6 (kp h6 k);exact⟨g1,f1,g2,aN8 (s:={ s with heap:=h6 }) hu ⟨hN.len,λj v r x y=>⟨(hN.at_ j v r x y).1.keeps (kp h6 k),(hN.at_ j v r x y).2⟩⟩⟩
end
def zd(H:Hp):ah->List (List V)->Hp
 |a::as,p::ps=>upd (zd H as ps) a (.tup p)
 |_,_=>H
theorem aGR{H:Hp}:∀{as:ah}{ps:List (List V)}{b:Addr},b∉as->zd H as ps b=H b
 |[],_,_,_=>rfl
 |_::_,[],_,_=>rfl
 |a::as,p::ps,b,h=>by
  show upd (zd H as ps) a _ b=_;rw[aS (λz=>h (by simp[z]))];exact aGR (λz=>h (by simp[z]))
theorem aI3:∀{as:ah}{ps:List (List V)}{j:Nat}{a:Addr}{p:List V},as.Nodup->as[j]?=some a->ps[j]?=some p->zd H as ps a=some (.tup p)
 |[],_,j,_,_,_,h,_=>by simp at h
 |_::_,[],j,_,_,_,_,h=>by simp at h
 |a::as,p::ps,0,_,_,_,h1,h2=>by cases h1;cases h2;exact aP
 |a::as,p::ps,j+1,b,q,hn,h1,h2=>by
  have oj:as[j]?=some b:=h1;have hb:b∈as:=iI oj;show upd (zd H as ps) a _ b=_;rw[aS (λz=>(ni.mp hn).1 (by rw[<-z];exact hb))];exact aI3 (ni.mp hn).2 oj h2
theorem aI4{H:Hp}:∀{as:ah}{ps:List (List V)}{b:Addr}{u:HO},as.Nodup->zd H as ps b=some u->H b=some u\/∃(j:Nat) (p:List V),as[j]?=some b/\ps[j]?=some p/\u=.tup p
 |[],_,_,_,_,h=>.inl h
 |_::_,[],_,_,_,h=>.inl h
 |a::as,p::ps,b,u,hn,h=>by
  by_cases e:b=a
  ·subst e;have h':upd (zd H as ps) b (.tup p) b=some u:=h;rw[aP] at h';cases h';exact .inr ⟨0,p,rfl,rfl,rfl⟩
  ·have h':upd (zd H as ps) a (.tup p) b=some u:=h;rw[aS e] at h';rcases aI4 (ni.mp hn).2 h' with z|⟨j,q,z⟩
   ·exact .inl z
   ·exact .inr ⟨j+1,q,z⟩
def IV(H:Hp)(q:Addr)(r:aa×Int):Prop:=∃b,H q=some (.tup [.ref b,.int r.2])/\H b=some (.tup (r.1.map V.int))
def dN(rs:List (aa×Int)):HO:=.dT (rs.map λr=>(r.1.map Sum.inl,V.int r.2))
section
variable{X:Cx}
def O9:List V->Hp->VK->Prop:=λxs H Q=>∃(b d:Addr) (L:Nat) (rs:List (aa×Int)),xs=[.ref b]/\H b=some (.ext (Dw b d))/\H d=some (dN rs)/\rs.length < 64/\(∀r∈rs,r.1.length=L)/\
 ∀(p:Addr) (qs:ah) (zs:List (aa×Int)) (H':Hp),aO H H'->H p=none->(∀q∈qs,H q=none)->H' p=some (.lst (qs.map V.ref))->qs.length=zs.length->(∀(j:Nat) q r,qs[j]?=some q->zs[j]?=some r->IV H' q r)->zs.Perm rs->zs.Pairwise (λa b=>gL (lV b) (lV a)=false)->Q (.ref p) H'
theorem aFB(hc:X.calm=true)(hu:X.A.units+9 < cLine):eC X (.builtin "sorted") O9:=by
 intro pins s σ H xs us Q I r h;obtain⟨b,d,L,rs,rfl,hb,hd,kn,hL,q⟩:=h;obtain⟨u,rfl,ru⟩:=vals1 r;cases ru;obtain⟨lo,ob,es,ep,ys,g1,g2,g3,rel,g4,g5⟩:=qO (show bO X.prog X.w H s.heap d (dN rs) from I.av d _ hd);have raw:Raw s.heap d es ep:=⟨ob,g1,g2.1,g3⟩
 have hv:s.heap.IsItemsView b d:=(show bO X.prog X.w H s.heap b (.ext (Dw b d)) from I.av b _ hb).1;have LF:ys.length=rs.length:=by have:=(Paired.length rel).symm;simpa using this
 rw[bK] at g5;refine Calls.call_function_entry kind_sorted plain_sorted entry_sorted (args_sorted1 (.ref b)) ?_
 unfold Builtin.«sorted»;refine aR (m:=checkCount "sorted" 1 1 _) (bI (aR (aFA (A:=X.A.in1) (I.ok.hd hc) hv raw (by rw[g5,fc];lia) λh' tk as hk Mh hG=>?_)));have AJ:as.length=rs.length:=by rw[Mh,g5]
 have HP:(as.map Value.ref).length=rs.length:=by rw[bK,AJ]
 have mw:as.Nodup:=hG.rise.imp (λ{a b} h=>gM h);have uv:∀a∈as,s.heap.objs.size<=a:=λa ha=>zg (hG.above a ha);have hpr:∀(j:Nat) (a:Addr),as[j]?=some a->∃c t r,rs[j]?=some r/\H c=some (.tup (r.1.map V.int))/\h'.get? a=some { cls:=.type "tuple",data:=.seq #[Value.ref c,Value.int r.2 t] }:=λj a ha=>by
  obtain⟨e,e1,e2⟩:=hG.at_ j a ha;have hj:j < rs.length:=by rw[<-AJ];exact(g0.mp ha).1
  obtain⟨y,hy,jx,Ac⟩:=Cj rel (i:=j) (p:=((rs[j].1.map Sum.inl,V.int rs[j].2):List Key×V)) (by rw[hE,cG hj];rfl);rw[<-jq,g4,hE,hy] at e1;cases e1;obtain⟨t,et⟩:=Ac;refine⟨y.2.1,t,rs[j],cG hj,?_,?_⟩
  ·rw[jx,zW];rfl
  ·rw[e2];show some ({ cls:=.type "tuple",data:=.seq #[Value.ref y.2.1,y.2.2] }:Obj)=_;rw[et]
 have Ml:∀h2:Heap,(∀b o,h'.get? b=some o->h2.get? b=some o)->FP h2 L (as.map Value.ref) rs:=λh2 k2=>by
  refine⟨HP,λj v r x y=>?_⟩;rw[hE] at x;obtain⟨a,ea,rfl⟩:=yQ.mp x;obtain⟨c,t,r',er,wk,ho⟩:=hpr j a ea;rw[y] at er;cases er;obtain⟨_,its,rr,o,f1,f2,n,f3⟩:=(show bO X.prog X.w H s.heap c (.tup (r.1.map V.int)) from I.av c _ wk)
  exact⟨⟨a,_,c,t,_,o,_,n,rfl,k2 _ _ ho,rfl,rfl,k2 _ _ (hk _ _ f1),f2,f3,by simpa using iQ rr⟩,hL r (iI y)⟩
 refine aR (wpAny_newList ?_ (by rw[HP,fc];lia));have gD:(h'.push (seqObj "list" (as.map Value.ref).toArray 0)).get? h'.objs.size=some (seqObj "list" (as.map Value.ref).toArray 0):=mJ _ rfl;refine aR (eh (ja (s:={ s with heap:=h'.push (seqObj "list" (as.map Value.ref).toArray 0),toks:=tk }) slot_list_sort ⟨_,gD,rfl⟩ entry_list_sort (aGQ (by show X.A.units+1+1 < cLine;lia) gD (Ml _ λb o e=>fX _ e) (by rw[HP];exact kn) λp hr yw=>⟨_,rfl,?_⟩) (args_list_sort (.ref h'.objs.size))));rw[HP] at hr yw;have pl:p.toList.Perm (List.range rs.length):=by simpa using FH.mp hr
 have ir:p.toList.length=rs.length:=by have:=pl.length_eq;simpa using this
 have eo:(eX (as.map Value.ref) p).toList=(p.toList.map λi=>as.getD i 0).map Value.ref:=by
  unfold eX;show p.toList.map (λi=>(as.map Value.ref).getD i Value.none)=_;rw[zW];refine Bo λi hi=>?_;have li:i < as.length:=by rw[AJ];exact zU.mp (pl.mem_iff.mp hi)
  show(as.map Value.ref).getD i Value.none=Value.ref (as.getD i 0);simp[yP,cG li]
 refine bI ⟨_,rfl,?_⟩;obtain⟨c,wg⟩:=sortedHeap_at (out:=eX (as.map Value.ref) p) gD;generalize hhF:sortedHeap (h'.push (seqObj "list" (as.map Value.ref).toArray 0)) h'.objs.size (as.map Value.ref) (eX (as.map Value.ref) p)=hF at wg;have kF:∀b o,h'.get? b=some o->hF.get? b=some o:=λb o e=>by
  have br:=eB e;rw[<-hhF,sortedHeap_old (gM br) (by rw[size_push'];exact nk br)];exact fX _ e
 have W2:∀a∈as,a < h'.objs.size:=λa ha=>hG.there ha;have LV:s.heap.get? h'.objs.size=none:=by
  cases e:s.heap.get? h'.objs.size with
  |none=>rfl
  |some o2=>exact absurd (eB (hk _ o2 e)) (ko _)
 have LW:∀a∈as,s.heap.get? a=none:=λa ha=>by
  cases e:s.heap.get? a with
  |none=>rfl
  |some o2=>exact absurd (rT (eB e) (uv a ha)) (ko _)
 have uu:∀a,s.heap.get? a=none->H a=none:=λa z=>by
  cases e:H a with
  |none=>rfl
  |some u=>
   obtain⟨ob,y⟩:=(I.av a u e).obj;rw[z] at y;cases y
 have hna:h'.objs.size∉as:=λz=>absurd (W2 _ z) (ko _);obtain⟨tl,tl1,tl2⟩ : ∃tl:List (List V),tl.length=as.length/\∀(j:Nat) a t,as[j]?=some a->tl[j]?=some t->∃c r,rs[j]?=some r/\H c=some (.tup (r.1.map V.int))/\t=[.ref c,.int r.2]/\∃u,h'.get? a=some { cls:=.type "tuple",data:=.seq #[Value.ref c,Value.int r.2 u] }:=by
  have key:∀(l:ah),(∀(j:Nat) a,l[j]?=some a->∃t:List V,∃c r,(∃i:Nat,as[i]?=some a/\rs[i]?=some r)/\H c=some (.tup (r.1.map V.int))/\t=[.ref c,.int r.2]/\∃u,h'.get? a=some { cls:=.type "tuple",data:=.seq #[Value.ref c,Value.int r.2 u] })->∃tl:List (List V),tl.length=l.length/\∀(j:Nat) a t,l[j]?=some a->tl[j]?=some t->∃c r,(∃i:Nat,as[i]?=some a/\rs[i]?=some r)/\H c=some (.tup (r.1.map V.int))/\t=[.ref c,.int r.2]/\∃u,h'.get? a=some { cls:=.type "tuple",data:=.seq #[Value.ref c,Value.int r.2 u] }:=by
   intro l;induction l with
   |nil=>intro _;exact⟨[],rfl,λj a t h=>by simp at h⟩
   |cons a l ih=>
    intro hl;obtain⟨t,ht⟩:=hl 0 a rfl;obtain⟨tl,e1,e2⟩:=ih λj b hb=>hl (j+1) b hb;refine⟨t::tl,by rw[yW,yW,e1],λj b t' x y=>?_⟩;cases j with
    |zero=>cases x;cases y;exact ht
    |succ j=>exact e2 j b t' x y
  obtain⟨tl,e1,e2⟩:=key as λj a ha=>by
   obtain⟨c,t,r,er,wk,ho⟩:=hpr j a ha;exact⟨_,c,r,⟨j,ha,er⟩,wk,rfl,t,ho⟩
  refine⟨tl,e1,λj a t x y=>?_⟩;obtain⟨c,r,⟨i,i1,i2⟩,r1,r2,r3⟩:=e2 j a t x y;have ij:i=j:=(List.getElem?_inj (g0.mp i1).1 mw).mp (i1.trans x.symm);subst ij;exact⟨c,r,i2,r1,r2,r3⟩
 let H1:=zd H as tl
 let H2:=upd H1 h'.objs.size (.lst ((p.toList.map λi=>as.getD i 0).map V.ref))
 have s1:aO H H1:=λa u e=>by
  show zd H as tl a=_;rw[aGR λz=>by rw[uu a (LW a z)] at e;cases e];exact e
 have s2:aO H H2:=λa u e=>by
  show upd H1 _ _ a=_;rw[aS (λz=>by rw[z,uu _ LV] at e;cases e)];exact s1 a u e
 have I2:Inv X pins σ H2 { s with heap:=hF,toks:=tk }:=I.more (λb u e=>kF b u (hk b u e)) s2 λa u e=>by
  by_cases ea:a=h'.objs.size
  ·subst ea;have e':upd H1 h'.objs.size _ h'.objs.size=some u:=e;rw[aP] at e';cases e';exact .inr ⟨LV,by rw[bK,bK,ir,fc];lia,(p.toList.map λi=>as.getD i 0).map Value.ref,c,oH _,by rw[<-eo,Kq];exact wg⟩
  ·have e':upd H1 h'.objs.size _ a=some u:=e;rw[aS ea] at e';rcases aI4 mw e' with z|⟨j,pp,z1,z2,rfl⟩
   ·exact .inl z
   ·obtain⟨c',r',f1,f2,rfl,t,f3⟩:=tl2 j a pp z1 z2;exact .inr ⟨LW a (iI z1),bZ (by simp),[.ref c',.int r'.2 t],.cons rfl (.cons ⟨t,rfl⟩ .nil),_,kF _ _ f3,rfl,_,rfl⟩
 refine⟨.ref h'.objs.size,H2,I2,rfl,q _ _ (p.toList.map λi=>rs.getD i ([],0)) H2 s2 (uu _ LV) (λa ha=>?_) aP (by rw[bK,bK]) (λj a r x y=>?_) ?_ ?_⟩
 ·obtain⟨i,hi,e⟩:=mD.mp ha;have li:i < as.length:=by rw[AJ];exact zU.mp (pl.mem_iff.mp hi)
  rw[<-e];simp only[yP,cG li,J7];exact uu _ (LW _ (lu li))
 ·rw[hE] at x y;obtain⟨i,e1,e2⟩:=yQ.mp x;rw[e1] at y;have li:i < rs.length:=zU.mp (pl.mem_iff.mp (iI e1));have ea:as[i]?=some a:=by rw[<-e2];simp[yP,cG (show i < as.length by lia)]
  have er:rs[i]?=some r:=by
   cases y;simp[yP,cG li]
  have et:tl[i]?=some tl[i]:=cG (by lia);obtain⟨c',r',f1,f2,f4,t,f3⟩:=tl2 i a _ ea et;rw[er] at f1;cases f1;refine⟨c',?_,s2 _ _ f2⟩;show upd H1 _ _ a=_;rw[aS (λz=>hna (by rw[<-z];exact iI ea)),<-f4];exact aI3 mw ea et
 ·have:=pl.map (λi=>rs.getD i ([],0));rw[range_getD] at this;exact this
 ·rw[FG];intro i j hi hj we;rw[bK,ir] at hi hj;have key:∀k (hk:k < p.toList.length),lV ((p.toList.map λi=>rs.getD i ([],0))[k]'(by rw[bK];exact hk))=kq (O:=vP) (λi=>(rs.map lV).getD i []) p k:=λk hk=>by
   rw[JZ];unfold kq;have e1:p.getD k 0=p.toList[k]:=by
    have ky:k < p.size:=by simpa using hk
    simp[Array.getD,ky]
   have li:p.toList[k] < rs.length:=zU.mp (pl.mem_iff.mp (lu hk));rw[e1];show lV (rs.getD p.toList[k] ([],0))=(rs.map lV).getD p.toList[k] [];rw[yP,yP,hE,cG li];rfl
  rw[key i (by lia),key j (by lia)];exact yw i j (by lia) hj
theorem aMe{H:Hp}{Q:VK}{L:Nat}{rs:List (aa×Int)}(h1:H b=some (.ext (Dw b d)))(h2:H d=some (dN rs))(h3:rs.length < 64)(h4:∀r∈rs,r.1.length=L)(h:∀(p:Addr) (qs:ah) (zs:List (aa×Int)) (H':Hp),aO H H'->H p=none->(∀q∈qs,H q=none)->H' p=some (.lst (qs.map V.ref))->qs.length=zs.length->(∀(j:Nat) q r,qs[j]?=some q->zs[j]?=some r->IV H' q r)->zs.Perm rs->zs.Pairwise (λa b=>gL (lV b) (lV a)=false)->Q (.ref p) H'):O9 [.ref b] H Q:=⟨b,d,L,rs,rfl,h1,h2,h3,h4,h⟩
end
def fP(kvs:List (List Key×V)):List (List Key×V):=kvs.foldl (λacc kv=>putK acc kv.1 kv.2) []
theorem aGS(kvs:List (List Key×V))(kv:List Key×V):fP (kvs ++ [kv])=putK (fP kvs) kv.1 kv.2:=by unfold fP;rw[List.foldl_append];rfl
theorem aDm:∀kvs:List (List Key×V),(fP kvs).length<=kvs.length:=λkvs=>by
 have key:∀(l acc:List (List Key×V)),(l.foldl (λacc kv=>putK acc kv.1 kv.2) acc).length<=acc.length+l.length:=λl=>by
  induction l with
  |nil=>intro acc;exact d7 _
  |cons kv l ih=>
   intro acc;have:=ih (putK acc kv.1 kv.2);have:=lB acc kv.1 kv.2;simp only[List.foldl_cons,yW];lia
 have:=key kvs [];simpa [fP] using this
structure Jq(H:Hp)(qs:ah)(kvs:List (List Key×V)):Prop where
 len:qs.length=kvs.length
 at_:∀(j:Nat) q kv,qs[j]?=some q->kvs[j]?=some kv->∃b,H q=some (.tup [.ref b,kv.2])/\H b=some (.tup (kv.1.map kV))
section
variable{X:Cx}
theorem yH{h h':Heap}(m:h.DictOfH (tupleKind (cB P w)) D xs)(k1:∀o,h.get? D=some o->h'.get? D=some o)(k2:∀(b:Addr) (o:Obj),o.cls=.type "tuple"->h.get? b=some o->h'.get? b=some o):h'.DictOfH (tupleKind (cB P w)) D xs:=by
 obtain⟨o,es,ep,h1,h2,h3,h4,h5,h6⟩:=m;refine⟨o,es,ep,k1 o h1,h2,h3,h4,λx hx=>?_,h6⟩;obtain⟨o',its,n,a,b,c⟩:=h5 x hx;exact⟨o',its,n,k2 _ _ b a,b,c⟩
theorem aJ5{s:Shared}{A:Around}{R:Result->Shared->Prop}{qs:ah}{kvs:List (List Key×V)}(J:Inv X pins σ H s)(hh:A.handled=none)(hu:A.in1.units < cLine)(nD:s.heap.get? D=none)(nI:s.heap.get? I=none)(Lu:D≠I)(nDl:D≠l)(nlI:l≠I)(hK:Jq H qs kvs)(hsz:kvs.length<=sizeLine)(hR:∀h' tk xs,KT H (fP kvs) xs->h'.DictOfH (tupleKind (cB X.prog X.w)) D xs->(∀b o,b≠D->b≠I->s.heap.get? b=some o->h'.get? b=some o)->R (.ok (.ret .none)) { s with heap:=h',toks:=tk }) :
  ∀(k i:Nat) (h:Heap) (tk:Nat) (xs:List (List Key×Addr×Value)),qs.length - i=k->i<=qs.length->h.IsListIter I l i->h.IsList l (qs.map Value.ref).toArray->KT H (fP (kvs.take i)) xs->h.DictOfH (tupleKind (cB X.prog X.w)) D xs->(∀b o,b≠D->b≠I->s.heap.get? b=some o->h.get? b=some o)->
   codeAny (model X.prog X.w) A (.builtin "dict.update.loop" ⟨[.ref D,.ref I,rawInt i,.none],[]⟩) R { s with heap:=h,toks:=tk }:=by
 have HS:=hK.len;have tupI:∀{h:Heap} {i:Nat},h.IsListIter I l i->∀(b:Addr) (o:Obj),o.cls=.type "tuple"->h.get? b=some o->b≠I:=λ⟨o',g,c,_⟩ b o hc e z=>by
  rw[z,g] at e;cases e;rw[c] at hc;exact absurd hc (by decide)
 have a0j:∀{h:Heap} {xs:List (List Key×Addr×Value)},h.DictOfH (tupleKind (cB X.prog X.w)) D xs->∀(b:Addr) (o:Obj),o.cls=.type "tuple"->h.get? b=some o->b≠D:=λ⟨o',es,ep,g,c,_⟩ b o hc e z=>by
  rw[z,g] at e;cases e;rw[c.1] at hc;exact absurd hc (by decide)
 intro k;induction k with
 |zero=>
  intro i h tk xs hk hi it hl rel hd fr;have e:i=qs.length:=by lia
  subst e;refine codeAny_builtin vU ?_;rw[Around.under_plainId iR _];refine(show wpAny _ A.in1 (pyNext (.ref I) >>= _) _ _ _ from aR (wpAny_pyNext_list_end (s:={ s with heap:=h,toks:=tk }) (A:=A.in1) hh it hl (by simp) λh' he=>?_));refine aR (bI (bI ?_));rw[As (by lia)] at rel;exact hR h' tk xs rel (yH hd (λo e=>he D o Lu e) λb o c e=>he b o (tupI it b o c e) e) λb o a1 a2 q=>he b o a2 (fr b o a1 a2 q)
 |succ k ih=>
  intro i h tk xs hk hi it hl rel hd fr;have il:i < qs.length:=by lia
  have eq1:qs[i]?=some qs[i]:=cG il;have Nr:kvs[i]?=some kvs[i]:=cG (by lia);obtain⟨b,gq,gb⟩:=hK.at_ i _ _ eq1 Nr;generalize qs[i]=T at eq1 gq;generalize kvs[i]=kv at Nr gq gb;obtain⟨_,its,rr,oT,hoT,hcT,nT,hdT⟩:=(show bO X.prog X.w H s.heap T (.tup [.ref b,kv.2]) from J.av T _ gq)
  obtain⟨u1,v,rfl,ru1,rv⟩:=vals2 rr;cases ru1;refine codeAny_builtin vU ?_;rw[Around.under_plainId iR _];refine(show wpAny _ A.in1 (pyNext (.ref I) >>= _) _ _ _ from aR (wpAny_pyNext_list_item (s:={ s with heap:=h,toks:=tk }) it hl (x:=.ref T) (by simp[eq1]) λh' it' sb=>?_));have up:∀(b:Addr) (o:Obj),s.heap.get? b=some o->h'.get? b=some o:=λb o e=>sb.extBut b o (λz=>by rw[z,nI] at e;cases e) (fr b o (λz=>by rw[z,nD] at e;cases e) (λz=>by rw[z,nI] at e;cases e) e);have AY:=yH hd (λo e=>sb.extBut D o Lu e) λb o c e=>sb.extBut b o (tupI it b o c e) e;have key:(tupleKind (cB X.prog X.w)).is h' kv.1 b:=by
   obtain⟨o',its',n',a1,a2,a3⟩:=vI J.av gb;exact⟨o',its',n',up _ _ a1,a2,a3⟩
  have xl:xs.length<=sizeLine:=by
   have h1:=Paired.length rel;have h2:=aDm (kvs.take i);rw[xT] at h2;lia
  refine aR (eh (aR (wpAny_tryCatch ?_)));unfold Builtin.Dict.pairItems;refine aR (wpAny_typeOf (T:="tuple") ⟨oT,up _ _ hoT,hcT⟩ ?_);rw[cJ (by decide)];refine aR (aGI (up _ _ hoT) hdT (bI ?_));refine(show wpAny _ A.in1 (holding [Value.ref b,v] (dictSet D (.ref b) v)) _ _ _ from eh (wpAny_dictSet_heap (s:={ s with heap:=h',toks:=tk }) (knd:=tupleKind (cB X.prog X.w)) hu key AY (λh2 hd2 yo=>?_) xl));refine bI ⟨plainId_quiet iR _,?_⟩;rw[show rawInt ((i:Int)+1)=rawInt ((i+1:Nat):Int) by rw[Int.natCast_succ]]
  replace yo:Heap.SameBut D h' h2:=yo
  have tk1:kvs.take (i+1)=kvs.take i ++ [kv]:=by rw[xb,Nr];rfl
  exact ih (i+1) h2 _ _ (by lia) il (it'.extBut yo.extBut (Ne.symm Lu)) ((hl.extBut sb.extBut nlI).extBut yo.extBut (Ne.symm nDl)) (by rw[tk1,aGS];exact rel.put kv.1 gb rv) hd2 λb o a1 a2 q=>yo.extBut b o a1 (sb.extBut b o a2 (fr b o a1 a2 q))
def O8:List V->Hp->VK->Prop:=λxs H Q=>∃(l:Addr) (qs:ah) (kvs:List (List Key×V)),xs=[.ref l]/\H l=some (.lst (qs.map V.ref))/\Jq H qs kvs/\qs.length<=1000/\∀p,H p=none->Q (.ref p) (upd H p (.dT (fP kvs)))
theorem aH8(hc:X.calm=true)(hu:X.A.units+9 < cLine):eC X (.type "dict") O8:=by
 intro pins s σ H xs us Q I r h;obtain⟨l,qs,kvs,rfl,hl,hp,hz,q⟩:=h;obtain⟨u,rfl,ru⟩:=vals1 r;cases ru;obtain⟨z,its,n,rv,hlen,e⟩:=I.A7 hl;obtain rfl:=JK rv;have L5:=hp.len;have big:sizeLine ≥ 1000:=by rw[fc];decide
 refine callType_codes (Q₁:=λobj au=>obj=.ref s.heap.objs.size/\au={ s with heap:=s.heap.push { cls:=.type "dict",data:=.dict #[] } }) F.kt_called_dict (F.kt_typeCall_dict_1 _) F.entry_dict_init (kt_code_dict_new _ ⟨rfl,rfl⟩) ?_;rintro obj au ⟨rfl,rfl⟩;have AG:(s.heap.push { cls:=.type "dict",data:=.dict #[] }).DictOfH (tupleKind (cB X.prog X.w)) s.heap.objs.size []:=Heap.DictOfH.new s.heap;have ty:Shared.TypeIs { s with heap:=s.heap.push { cls:=.type "dict",data:=.dict #[] } } (.ref s.heap.objs.size) "dict":=AG.typeIs;refine⟨ty,F.args_dict_init_2 _ _,?_⟩;unfold Builtin.«dict.__init__»;refine aR ?_;unfold Builtin.Dict.selfAndRest;refine aR (wpAny_notOrdered_dict ty ?_);refine(show wpAny _ _ (pure (s.heap.objs.size,[Value.ref l])) _ _ _ from bI ?_);refine(show wpAny _ _ (Builtin.Dict.updateFrom "dict.__init__" s.heap.objs.size (.ref l) [] .none) _ _ _ from ?_);unfold Builtin.Dict.updateFrom
 have e':(s.heap.push { cls:=.type "dict",data:=.dict #[] }).get? l=some { cls:=.type "list",data:=.seq (qs.map Value.ref).toArray n }:=fX _ e;refine aR (wpAny_typeOf (T:="list") ⟨_,e',rfl⟩ ?_);rw[cJ (by decide)];refine aR (aNX (show X.A.in1.in1.handled=none from I.ok.hd hc) e' λh1 tk k1=>?_);simp only[Option.isNone_none,if_true];refine aR (wpAny_rule ?_);have g1:h1.IsList l (qs.map Value.ref).toArray:=⟨_,k1 _ _ e',rfl,_,rfl⟩
 have d1:h1.DictOfH (tupleKind (cB X.prog X.w)) s.heap.objs.size []:=yH AG (λo e=>k1 _ _ e) λb o _ e=>k1 _ _ e;refine aR (wpAny_pyIter_list (s:={ s with heap:=h1,toks:=tk }) g1 ?_);refine bI ⟨plainId_quiet iR _,?_⟩;have lD:s.heap.objs.size < h1.objs.size:=by obtain⟨o,es,ep,a,r⟩:=d1;exact eB a
 have ll:l < s.heap.objs.size:=eB e;have k2:∀b o,s.heap.get? b=some o->(h1.push { cls:=.type "list_iterator",data:=.fields #[.ref l,.int 0 0] }).get? b=some o:=λb o q=>fX _ (k1 b o (fX _ q));have nn:∀a,s.heap.objs.size<=a->s.heap.get? a=none:=λa h=>by
  cases z:s.heap.get? a with
  |none=>rfl
  |some o=>exact absurd (eB z) (Nat.not_lt.mpr h)
 refine aJ5 (s:=s) (A:=X.A.in1) I (show X.A.in1.handled=none from I.ok.hd hc) (by show X.A.units+1+1 < cLine;lia) (D:=s.heap.objs.size) (I:=h1.objs.size) (l:=l) (qs:=qs) (kvs:=kvs) (nn _ (d7 _)) (nn _ (zg lD)) (gM lD) (je ll) (gM (wy ll lD)) hp (by lia)
  (λh' vo xs rel dd fr=>?_) _ 0 _ tk [] rfl (dz _) ⟨_,mJ _ rfl,rfl,rfl⟩ (g1.push _) .nil (yH d1 (λo e=>fX _ e) λb o _ e=>fX _ e) (λb o _ _ q=>k2 b o q)
 have hm:(fP kvs).length<=sizeLine:=by have:=aDm kvs;lia
 obtain⟨o,es,ep,oj,uw,A0,h4',_,h6'⟩:=dd;have hn:H s.heap.objs.size=none:=I.av.fresh (d7 _);refine⟨rfl,.ref s.heap.objs.size,_,I.laid (a:=s.heap.objs.size) (o:=.dT (fP kvs)) (t':=vo) (λb u q=>?_) (d7 _) ⟨hm,beq_eq_false_iff_ne.mpr (Ne.symm (gM I.big)),xs,rel.keeps λc ys ec=>?_,o,es,ep,oj,uw,A0,h4',h6'⟩,rfl,q _ hn⟩
 ·have lb:=eB q;exact fr b u (gM lb) (gM (wy lb lD)) q
 ·rw[aS (λz=>by rw[z,hn] at ec;cases ec)];exact ec
theorem aMf{H:Hp}{Q:VK}{qs:ah}(h1:H l=some (.lst (qs.map V.ref)))(h2:Jq H qs kvs)(h3:qs.length<=1000)(h:∀p,H p=none->Q (.ref p) (upd H p (.dT (fP kvs)))):O8 [.ref l] H Q:=⟨l,qs,kvs,rfl,h1,h2,h3,h⟩
end
def Kz(d:Addr)(o:Obj)(kvs:List (List Key×V)):It:=
 ⟨λi H=>H d=some (.bu o (.dT kvs))/\i < kvs.length,λi H x H'=>H'=H/\∃kv,kvs[i]?=some kv/\x=kv.2,λi H=>H d=some (.bu o (.dT kvs))/\kvs.length<=i⟩
theorem aFC{P:Program}{w:World}{K:PySem.W.Frag}{tg:Expr}(d it:Addr)(o:Obj)(kvs:List (List Key×V))(es:Array DictEntry)(ep:Nat)(AZ:o.cls=.type "dict")(tj:o.data=.dict es ep)(hn:es.size=kvs.length) :
  Turn P w K tg (Kz d o kvs) [it] it (λi h=>ku "dict_valueiterator" h it d i es.size ep) where
 mem:=by simp
 obj:=λi h st b hb=>by
  have z:b=it:=by simpa using hb
  subst z;obtain⟨u,e,c,q⟩:=st;exact⟨u,e,λv z=>by rw[q] at z;cases z⟩
 keep:=λi h h' st k=>st.keep λu e=>k it (by simp) u e
 item:=by
  intro X hP hw hK hc i pins s σ H E I hf st hg;subst hP hw hK;obtain⟨hd,hi⟩:=hg;have hO:bO X.prog X.w H s.heap d (.bu o (.dT kvs)):=I.av d _ hd;obtain⟨ho,hO⟩:=hO;obtain⟨lo,o',es',uy,xs,g1,g2,g3,rel,g4,g5⟩:=qO hO;have eo:o'=o:=Option.some.inj (g1.symm.trans ho);subst eo;have ee:es'=es/\uy=ep:=by rw[tj] at g3;injection g3 with a b;exact⟨a.symm,b.symm⟩
  obtain⟨e1,e2⟩:=ee;subst e1 e2;have raw:Raw s.heap d es' uy:=⟨o',ho,AZ,tj⟩
  have hx:kvs[i]?=some kvs[i]:=cG hi;obtain⟨q,hq,hb,rv⟩:=Cj rel hx;have hex:es'[i]?=some (entryOfKey (tupleKind (cB X.prog X.w)) q):=by rw[entry_at g4,hq];rfl
  obtain⟨f0,f1,f2,f3,f4,f5⟩:=hf it (by simp);refine aD7 st raw hex λh' cn sb=>?_;have I1:Inv X pins σ H { s with heap:=h' }:=I.turned (t':=s.toks) (λb u hb e=>(sb.2 b hb).trans e) f0 f1 f3 f4 f5;obtain⟨u,e',c',d'⟩:=id cn;exact⟨_,rfl,DG (s:={ s with heap:=h' }) e' c' d' (by decide) ⟨kvs[i].2,H,I1,rv,⟨rfl,kvs[i],hx,rfl⟩,cn,λb hb=>(hf b hb).1⟩⟩
 done:=by
  intro X hP hw hK hc i pins s σ H E I hf st hg;subst hP hw hK;obtain⟨hd,hi⟩:=hg;have hO:bO X.prog X.w H s.heap d (.bu o (.dT kvs)):=I.av d _ hd;obtain⟨f0,f1,f2,f3,f4,f5⟩:=hf it (by simp);exact aFr (I.ok.hd hc) st ⟨o,hO.1,AZ,tj⟩ (by lia) λh' eb=>⟨rfl,I.turned (t':=s.toks) (λb o hb e=>eb b o hb e) f0 f1 f3 f4 f5⟩
 self:=λ_ _ _ _ _ st h=>wpAny_pyIter_valiter st h
section
variable{X:Cx}{tg:Expr}
def QM(R:It->Hp->Prop):V->Hp->Prop:=λx H1=>∃d kvs,x=.ref d/\H1 d=some (.dT kvs)/\∀o,R (Kz d o kvs) (upd H1 d (.bu o (.dT kvs)))
def O7(td:TE):TI:=λσ H R=>td σ H (QM R)
theorem aMg{o:Expr}{td:TE}{apos aw:Pos}(ho:PE X o td)(bg:attributeBase o "values" X.env (eval o X.env)=eval o X.env:=by rfl)(bc:(apos.endLine == aw.line)=true:=by rfl) :
  PI X tg (.Call (.Attribute o "values" apos) [] [] aw) (O7 td):=by
 intro pins s σ H R I h;refine wpAny_Call_method (T:="dict") (id:="dict.values") bg rfl bc PySem.F.plainAttrs_dict PySem.F.slot_dict_values PySem.F.type_dict_values (dP (ho pins s σ H _ I h) λv s1 zq=>?_);obtain⟨x,H1,I1,r1,q1⟩:=zq;obtain⟨d,kvs,e,hd,q⟩:=q1;subst e;cases r1;obtain⟨lo,ob,es,ep,xs,g1,g2,g3,rel,g4,g5⟩:=qO (show bO X.prog X.w H1 s1.heap d (.dT kvs) from I1.av d _ hd);have raw:Raw s1.heap d es ep:=⟨ob,g1,g2.1,g3⟩
 refine⟨raw.ty,λb z=>by cases z;exact⟨ob,g1,g2.2.1⟩,?_⟩;refine method_meetsIn PySem.F.slot_dict_values PySem.F.entry_dict_values rfl (PySem.evalArgs_none ⟨rfl,raw.ty,PySem.F.args_dict_values_1 _,_,aHM d lo,raw.ty,?_⟩);have I2:=I1.Pc hd g1;show wpAny _ _ (pyIter (.ref s1.heap.objs.size)) _ _ _;refine aC9 (s:={ s1 with heap:=s1.heap.push { cls:=.type "dict_values",data:=.fields #[.ref d] } }) ⟨_,mJ _ rfl,rfl,rfl⟩ (raw.keep λo e=>fX _ e) ?_;have hk:∀b u,s1.heap.get? b=some u->((s1.heap.push { cls:=.type "dict_values",data:=.fields #[.ref d] }).push { cls:=.type "dict_valueiterator",data:=.fields #[.ref d,.int 0 0,.int es.size 0,.int ep 0] }).get? b=some u:=
  λb u e=>fX _ (fX _ e)
 refine⟨_,[(s1.heap.push { cls:=.type "dict_values",data:=.fields #[.ref d] }).objs.size],_,_,_,rfl,I2.kept (t':=s1.toks) hk,aFC d _ ob kvs es ep g2.1 g3 g5,⟨_,mJ _ rfl,rfl,rfl⟩,λb hb=>?_,q ob⟩;have e:b=(s1.heap.push { cls:=.type "dict_values",data:=.fields #[.ref d] }).objs.size:=by simpa using hb
 have hle:s1.heap.objs.size<=b:=by rw[e,vh];exact Nat.le_succ _
 exact I2.Ai hle (I2.av.fresh hle)
theorem Inv.aRB(I:Inv X pins σ H s)(e:H d=some (.bu o (.dT kvs)))(h0:∀o u,X.qd d≠some (.bu o u)):Inv X pins σ (upd H d (.dT kvs)) s:=by
 have nd:∀b u,H b=some u->u≠.bu o (.dT kvs)->b≠d:=λb u q n z=>by rw[z,e] at q;exact n (Option.some.inj q).symm
 have nn:∀b,H b=none->b≠d:=λb q z=>by rw[z,e] at q;cases q
 obtain⟨a1,a2,a3,a4,a5,a6,a7,a8,a9,Fv,DQ⟩:=I;refine⟨a1,a2,a3,⟨a4.keep,a4.slot,λb u q n hx=>?_,a4.there,λb xs q=>?_,λb u v q=>?_,λb ps q=>?_⟩,a5,a6,?_,λx c q=>?_,λp hp=>?_,λb u q=>?_,DQ⟩
 ·have:=a4.free b u q n hx;rw[aS (nn b this)];exact this
 ·have:=a4.rV b xs q;rw[aS (nd b _ this (λz=>by cases z))];exact this
 ·have:=a4.cv b u v q;rw[aS (λz=>h0 u v (by rw[<-z];exact q))];exact this
 ·obtain⟨more,this⟩:=a4.ez b ps q;exact⟨more,by rw[aS (nd b _ this (λz=>by cases z))];exact this⟩
 ·rw[aS (nn _ a7)];exact a7
 ·rw[aS (nn _ (a8 x c q))];exact a8 x c q
 ·obtain⟨b1,b2,b3⟩:=a9 p hp;exact⟨b1,by rw[aS (nn _ b2)];exact b2,b3⟩
 ·have st:∀c v,bO X.prog X.w H s.heap c v->bO X.prog X.w (upd H d (.dT kvs)) s.heap c v:=λc v z=>
   z.vf (λ_ _ _ z=>z) (λc z=>by rw[aS (nd _ _ z (λy=>by cases y))];exact z) λc xs t z=>by rw[aS (nd _ _ z (λy=>by subst y;exact t))];exact z
  by_cases hb:b=d
  ·subst hb;rw[aP] at q;cases q;exact st b _ (Fv b _ e).2
  ·rw[aS hb] at q;exact st b u (Fv b u q)
def OR(t:TE):TE:=λσ H Q=>t σ H λv H'=>∃d kvs,H d=some (.dT kvs)/\∃o,H' d=some (.bu o (.dT kvs))/\Q v (upd H' d (.dT kvs))
theorem aMh(he:PE X e t):PE X e (OR t):=by
 intro pins s σ H Q I h;refine dP (he pins s σ H _ I h) λv s1 zq=>?_;obtain⟨x,H1,I1,r1,d,kvs,hd,o,q1,q2⟩:=zq;exact⟨x,_,I1.aRB q1 (λo u z=>by have y:=I.base.cv d o u z;rw[hd] at y;cases y),r1,q2⟩
def Oc:List V->Hp->VK->Prop:=λxs H Q=>∃a kvs,xs=[V.ref a]/\H a=some (.dT kvs)/\Q (.int kvs.length) H
theorem aJ6:eC X (.builtin "len") Oc:=by
 intro pins s σ H xs us Q I r h;obtain⟨a,kvs,rfl,ha,q⟩:=h;obtain⟨u,rfl,ru⟩:=vals1 r;cases ru;have hO:=show bO X.prog X.w H s.heap a (.dT kvs) from I.av a _ ha
 have hz:=hO.1;obtain⟨lo,ob,es,ep,xs,g1,g2,g3,rel,g4,g5⟩:=qO hO;have ty:s.TypeIs (.ref a) "dict":=⟨ob,g1,g2.1⟩
 have fit:¬((kvs.length:Nat):Int) ≥ 2 ^ 63:=by rw[fc] at hz;lia
 refine Calls.call_function_entry kind_len plain_len entry_len (args_len1 _) ?_
 unfold Builtin.«len»;refine aR (m:=oneArg "len" _) (bI ?_);refine aR (m:=callSpecial? (.ref a) (Str.ofString "__len__")) (wpAny_callSpecial?_slot (name:=Str.ofString "__len__") ty PySem.F.slot_dict_len (ja PySem.F.slot_dict_len ty PySem.F.entry_dict_len (show _ from ?_) (PySem.F.args_dict_len_1 _)));refine(show wpAny _ _ (dictSize a >>= _) _ _ s from ?_);unfold dictSize;refine aR (aR (vk g1 g3 (bI (show wpAny _ _ (Builtin.Dict.pendingCount a >>= _) _ _ s from aR (wpAny_pendingCount_other lo (wpAny_ret_mkInt ?_))))));rw[DR,g5];refine(show wpAny _ _ _ _ _ { s with toks:=s.toks+1 } from aR (eh (bI (aR (wpAny_letGo ?_)))));refine(show wpAny _ _ (if ((kvs.length:Nat):Int) < 0 then _ else _) _ _ _ from ?_);rw[bV (by lia)];refine(show wpAny _ _ (if ((kvs.length:Nat):Int) ≥ 2 ^ 63 then _ else _) _ _ _ from ?_);rw[bV fit];exact aR (wpAny_mkInt (bI ⟨_,rfl,.int kvs.length,H,I.tok _,⟨_,rfl⟩,q⟩))
end
section
variable{σ:St}{H:Hp}{Q:VK}
theorem aJ7{R:It->Hp->Prop}(h:td σ H (QM R)):O7 td σ H R:=h
theorem aRC{R:It->Hp->Prop}(h1:H d=some (.dT kvs))(h:∀o,R (Kz d o kvs) (upd H d (.bu o (.dT kvs)))):QM R (.ref d) H:=⟨d,kvs,rfl,h1,h⟩
theorem aMj(h:t σ H λv H'=>∃d kvs,H d=some (.dT kvs)/\∃o,H' d=some (.bu o (.dT kvs))/\Q v (upd H' d (.dT kvs))):OR t σ H Q:=h
theorem aOa{kvs:List (List Key×V)}(e:H a=some (.dT kvs))(q:Q (.int kvs.length) H):Oc [.ref a] H Q:=⟨a,kvs,rfl,e,q⟩
end
theorem aIb{kvs:List (List Key×V)}{g:TG}{R:List V->Hp->Prop}{H:Hp}(Pv:Nat->List V->Hp->Prop)(h0:Pv 0 [] H)(hz:kvs.length<=sizeLine)(hl:∀i ys H,i<=kvs.length->Pv i ys H->H d=some (.bu o (.dT kvs))/\ys.length<=i)(hs:∀i kv ys H,kvs[i]?=some kv->Pv i ys H->g kv.2 σ₀ H λσ2 H2=>tt σ2 H2 λc H3=>if c=true then te σ2 H3 λy H4=>Pv (i+1) (ys ++ [y]) H4 else Pv (i+1) ys H3)(hd:∀ys H,Pv kvs.length ys H->R ys H):lR (Kz d o kvs) σ₀ g tt te R H:=by
 refine⟨λi m ys H=>m=kvs.length - i/\i<=kvs.length/\Pv i ys H,⟨kvs.length,by simp,dz _,h0⟩,?_⟩;rintro i m ys H ⟨rfl,hi,p⟩;obtain⟨q,ql⟩:=hl i ys H hi p;refine⟨by lia,?_⟩;by_cases br:i < kvs.length
 ·refine .inr ⟨⟨q,br⟩,Pv (i+1),λAQ H' p'=>⟨kvs.length - (i+1),by lia,rfl,br,p'⟩,λx H' y=>?_⟩;obtain⟨e,kv,hk,e2⟩:=y;subst e e2;exact hs i kv ys _ hk p
 ·have:i=kvs.length:=by lia
  subst this;exact .inl ⟨⟨q,d7 _⟩,hd ys H p⟩
theorem aGT{kvs:List (List Key×V)}{g:TG}{R:List V->Hp->Prop}{H:Hp}(Pv:Nat->List V->Hp->Prop)(h0:Pv 0 [] H)(hz:kvs.length<=sizeLine)(hl:∀i ys H,i<=kvs.length->Pv i ys H->H d=some (.bu o (.dT kvs))/\ys.length<=i)(hs:∀i kv ys H T b,kvs[i]?=some kv->Pv i ys H->H T=none->H b=some (.tup (kv.1.map kV))->g (.ref T) σ₀ (upd H T (.tup [.ref b,kv.2])) λσ2 H2=>tt σ2 H2 λc H3=>if c=true then te σ2 H3 λy H4=>Pv (i+1) (ys ++ [y]) H4 else Pv (i+1) ys H3)(hd:∀ys H,Pv kvs.length ys H->R ys H):lR (Cu d o kvs) σ₀ g tt te R H:=by
 refine⟨λi m ys H=>m=kvs.length - i/\i<=kvs.length/\Pv i ys H,⟨kvs.length,by simp,dz _,h0⟩,?_⟩;rintro i m ys H ⟨rfl,hi,p⟩;obtain⟨q,ql⟩:=hl i ys H hi p;refine⟨by lia,?_⟩;by_cases br:i < kvs.length
 ·refine .inr ⟨⟨q,br⟩,Pv (i+1),λAQ H' p'=>⟨kvs.length - (i+1),by lia,rfl,br,p'⟩,λx H' y=>?_⟩;obtain⟨T,b,kv,hT,e,hk,hb,e2⟩:=y;subst e e2;exact hs i kv ys _ T b hk p hT hb
 ·have:i=kvs.length:=by lia
  subst this;exact .inl ⟨⟨q,d7 _⟩,hd ys H p⟩
end L2
namespace L2.Z
open PySem PySem.Spec PyProof.Rows L2
section
variable{X:Cx}{o e tg:Expr}{td t:TE}{apos aw:Pos}
theorem aGU(ho:QE X o td)(bg:attributeBase o "values" X.env (eval o X.env)=eval o X.env:=by rfl)(bc:(apos.endLine == aw.line)=true:=by rfl) :
  QI X tg (.Call (.Attribute o "values" apos) [] [] aw) (O7 td):=⟨L2.aMg ho.h bg bc⟩
theorem vV(he:QE X e t):QE X e (OR t):=⟨L2.aMh he.h⟩
end
end L2.Z
namespace L2
open PySem PySem.Spec PySem.W PyProof.Rows
section
variable{X:Cx}
structure Fb(H:Hp)(qs:ah)(rs:List (aa×Int)):Prop where
 len:qs.length=rs.length
 at_:∀(j:Nat) q r,qs[j]?=some q->rs[j]?=some r->IV H q r
def OQ:List V->Hp->VK->Prop:=λxs H Q=>∃(l:Addr) (qs:ah) (L:Nat) (rs:List (aa×Int)),xs=[.ref l]/\H l=some (.lst (qs.map V.ref))/\Fb H qs rs/\(∀r∈rs,r.1.length=L)/\qs.length < 64/\
 ∀(p:Addr) (mq:ah) (BM:List (aa×Int)),H p=none->Fb H mq BM->BM.Perm rs->BM.Pairwise (λa b=>gL (lV b) (lV a)=false)->Q (.ref p) (upd H p (.lst (mq.map V.ref)))
theorem aFD(hu:X.A.units+9 < cLine):eC X (.builtin "sorted") OQ:=by
 intro pins s σ H xs us Q I r h;obtain⟨l,qs,L,rs,rfl,hl,ht,hL,kn,q⟩:=h;obtain⟨u,rfl,ru⟩:=vals1 r;cases ru;obtain⟨z,its,n,rv,hlen,e⟩:=I.A7 hl;obtain rfl:=JK rv;have hq:=ht.len;have hv:(qs.map Value.ref).length=qs.length:=bK ..;refine Calls.call_function_entry kind_sorted plain_sorted entry_sorted (args_sorted1 (.ref l)) ?_
 unfold Builtin.«sorted»;refine aR (m:=checkCount "sorted" 1 1 _) (bI (aR (collect_list (vs:=qs.map Value.ref) ⟨_,e,rfl,_,rfl⟩ (aR (wpAny_newList ?_ (by rw[hv,fc];lia))) (by rw[hv,fc];lia))));generalize AX:(s.heap.push (seqObj "list" #[] 0)).update s.heap.objs.size (Obj.mapSeq (·++ (qs.map Value.ref).toArray))=h1;have z1:h1.objs.size=s.heap.objs.size+1:=by rw[<-AX,Ao,size_push']
 have k1:∀b o,s.heap.get? b=some o->(h1.push (seqObj "list" (qs.map Value.ref).toArray 0)).get? b=some o:=λb o g=>by
  have lb:=eB g;refine fX _ ?_;rw[<-AX,Heap.get?_update_ne _ _ _ _ (gM lb)];exact fX _ g
 have gD:(h1.push (seqObj "list" (qs.map Value.ref).toArray 0)).get? h1.objs.size=some (seqObj "list" (qs.map Value.ref).toArray 0):=mJ _ rfl;have Ml:FP (h1.push (seqObj "list" (qs.map Value.ref).toArray 0)) L (qs.map Value.ref) rs:=by
  refine⟨hv.trans hq,λj v r x y=>?_⟩;rw[hE] at x;obtain⟨a,ea,rfl⟩:=yQ.mp x;obtain⟨b,g1,g2⟩:=ht.at_ j a r ea y;obtain⟨_,its,rr,o,f1,f2,n,f3⟩:=(show bO X.prog X.w H s.heap b (.tup (r.1.map V.int)) from I.av b _ g2)
  obtain⟨_,CD,rr2,o2,f4,f5,n2,f6⟩:=(show bO X.prog X.w H s.heap a (.tup [.ref b,.int r.2]) from I.av a _ g1)
  obtain⟨v1,v2,rfl,e1,u,e2⟩:=vals2 rr2;cases e1;subst e2;exact⟨⟨a,o2,b,u,n2,o,_,n,rfl,k1 _ _ f4,f5,f6,k1 _ _ f1,f2,f3,by simpa using iQ rr⟩,hL r (iI y)⟩
 refine aR (eh (ja (s:={ s with heap:=h1.push (seqObj "list" (qs.map Value.ref).toArray 0) }) slot_list_sort ⟨_,gD,rfl⟩ entry_list_sort (aGQ (by show X.A.units+1+1 < cLine;lia) gD Ml (by rw[hv];exact kn) λp hr hu=>⟨_,rfl,?_⟩) (args_list_sort (.ref h1.objs.size))));rw[hv] at hr hu;have pl:p.toList.Perm (List.range qs.length):=by simpa using FH.mp hr
 have ir:p.toList.length=qs.length:=by have:=pl.length_eq;simpa using this
 have eo:(eX (qs.map Value.ref) p).toList=(p.toList.map λi=>qs.getD i 0).map Value.ref:=by
  unfold eX;show p.toList.map (λi=>(qs.map Value.ref).getD i Value.none)=_;rw[zW];refine Bo λi hi=>?_;have li:i < qs.length:=zU.mp (pl.mem_iff.mp hi);show(qs.map Value.ref).getD i Value.none=Value.ref (qs.getD i 0);simp[yP,cG li]
 refine bI ⟨_,rfl,?_⟩;obtain⟨c,wg⟩:=sortedHeap_at (out:=eX (qs.map Value.ref) p) gD;have T':Fb H (p.toList.map λi=>qs.getD i 0) (p.toList.map λi=>rs.getD i ([],0)):=by
  refine⟨by rw[bK,bK],λj a b x y=>?_⟩;rw[hE] at x y;obtain⟨i,e1,e2⟩:=yQ.mp x;rw[e1] at y;have li:i < qs.length:=zU.mp (pl.mem_iff.mp (iI e1));refine ht.at_ i a b ?_ ?_
  ·rw[<-e2];simp[yP,cG li]
  ·cases y;simp[yP,cG (show i < rs.length by lia)]
 obtain⟨hn,I2⟩:=I.Of (t':=s.toks) (h':=sortedHeap (h1.push (seqObj "list" (qs.map Value.ref).toArray 0)) h1.objs.size (qs.map Value.ref) (eX (qs.map Value.ref) p)) (a:=h1.objs.size) (o:=.lst ((p.toList.map λi=>qs.getD i 0).map V.ref)) (λb ob g=>by
   have lb:b < h1.objs.size:=by rw[z1];exact nk (eB g)
   rw[sortedHeap_old (gM lb) (by rw[size_push'];exact nk lb)];exact k1 b ob g) (λb ob g=>gM (by rw[z1];exact nk (eB g)))
  ⟨by rw[bK,bK,ir,fc];lia,(p.toList.map λi=>qs.getD i 0).map Value.ref,c,oH _,by rw[<-eo,Kq];exact wg⟩
 refine⟨.ref h1.objs.size,_,I2,rfl,q _ _ _ hn T' ?_ ?_⟩
 ·have:=pl.map (λi=>rs.getD i ([],0));rw[hq,range_getD] at this;exact this
 ·rw[FG];intro i j hi hj we;rw[bK,ir] at hi hj;have key:∀k (hk:k < p.toList.length),lV ((p.toList.map λi=>rs.getD i ([],0))[k]'(by rw[bK];exact hk))=kq (O:=vP) (λi=>(rs.map lV).getD i []) p k:=λk hk=>by
   rw[JZ];unfold kq;have e1:p.getD k 0=p.toList[k]:=by
    have ky:k < p.size:=by simpa using hk
    simp[Array.getD,ky]
   have li:p.toList[k] < rs.length:=by rw[<-hq];exact zU.mp (pl.mem_iff.mp (lu hk))
   rw[e1];show lV (rs.getD p.toList[k] ([],0))=(rs.map lV).getD p.toList[k] [];rw[yP,yP,hE,cG li];rfl
  rw[key i (by lia),key j (by lia)];exact hu i j (by lia) hj
theorem aMk{H:Hp}{Q:VK}{qs:ah}{L:Nat}{rs:List (aa×Int)}(h1:H l=some (.lst (qs.map V.ref)))(h2:Fb H qs rs)(h4:∀r∈rs,r.1.length=L)(h3:qs.length < 64)(h:∀(p:Addr) (mq:ah) (BM:List (aa×Int)),H p=none->Fb H mq BM->BM.Perm rs->BM.Pairwise (λa b=>gL (lV b) (lV a)=false)->Q (.ref p) (upd H p (.lst (mq.map V.ref)))):OQ [.ref l] H Q:=⟨l,qs,L,rs,rfl,h1,h2,h4,h3,h⟩
end
end L2
namespace L2
open PySem PySem.Spec PyProof.Rows
section
variable{X:Cx}{pins:ao}{σ:St}{H:Hp}{s:Shared}{y:Str}{scope:Scope}{N:ak}{k:Nat}{idx:List Nat}{fp:ah}
theorem aMl(k:Nat)(idx:List Nat)(S:lE X (some y) scope N k idx)(hc:X.calm=true)(hi:PI X target iter wi)(hg:∀fp C s H,PG (jo X (some y) scope N fp C s H) target g)(ho:Own k g)(ht:∀fp C s H,Ct (jo X (some y) scope N fp C s H) ifs tt)(he:∀fp C s H,PE (jo X (some y) scope N fp C s H) elt te)(hs:∀x,foldedSetIterable iter X.env x=pure x:=by intro _;rfl):PE X (.ListComp elt [⟨target,iter,ifs,0⟩] scope pos) (Cg wi k idx g tt te):=by
 intro pins s σ H Q I h;rw[eval_ListComp];refine wpAny_comprehension_free (use:=none) rfl hs (sA (S.cells I)) S.kind S.names (dP (hi pins s σ H _ I h) λv s1 h1=>dP h1 λEk s2 h2=>?_);obtain⟨it,fp,tn,J,H2,e,I2,T,uk,f2,w2⟩:=h2;subst e;refine vK (RR:=λacc C=>compPost (model X.prog X.w) X.A X.xe none (EP X pins σ Q) acc C) S hc I2 T uk f2 (λC=>hg fp C s2 H2) ho (λC=>ht fp C s2 H2) (λC=>he fp C s2 H2) w2 λD C s' m ys H' hn I' fC hD q=>?_;refine⟨m,hn,λh'' xr=>⟨.ref D,_,I'.turned (t':=s'.toks) (λb o hb e=>(xr.2 b hb).trans e) fC.1 fC.2.1 fC.2.2.2.1 fC.2.2.2.2.1 fC.2.2.2.2.2,rfl,q D hD⟩⟩
end
theorem mF{env:Env}:∀{names:List (Str×NameKind)}{x:Str},names.lookup x=some .cell->
  (names.map λ(n,k)=>if (k == NameKind.free && env.scope.kind == .function && env.kindOf n == some .cell) then (n,NameKind.cell) else (n,k)).lookup x=some .cell
 |[],_,h=>by simp at h
 |(n,k)::r,x,h=>by
  have ih:=@mF env r x;show List.lookup x ((if (k == NameKind.free && env.scope.kind == .function && env.kindOf n == some .cell)=true then (n,NameKind.cell) else (n,k))::_)=_;cases hx:x == n with
  |true=>
   simp only[iq,hx] at h;cases h;simp[iq,hx]
  |false=>
   simp only[iq,hx] at h;by_cases hc:(k == NameKind.free && env.scope.kind == .function && env.kindOf n == some .cell)=true
   ·rw[cJ hc];simp only[iq,hx];exact ih h
   ·rw[bV hc];simp only[iq,hx];exact ih h
def aMm(BH:Scope)(NX:ak)(scope:Scope)(N:ak)(k:Nat)(idx:List Nat):Bool:=
 scope.names.all (λy=>(match y.2 with|.cell=>false|.free=>(decide (BH.names.lookup y.1=some .free) || decide (BH.names.lookup y.1=some .cell))|.local=>decide (scope.names.lookup y.1=some .local)|_=>true)) && decide N.Nodup && decide (N.length=k+idx.length) && (List.range idx.length).all λi=>match (N.drop k)[i]?,idx[i]? with
  |some x,some j=>decide (NX[j]?=some x) && scope.names.lookup x == some .free
  |_,_=>false
theorem aOb{X0:Cx}{y0:Str}{BH:Scope}{N0:ak}{fp:ah}{C:Addr}{s:Shared}{H:Hp}{scope:Scope}{N:ak}{k:Nat}{idx:List Nat}(hk:scope.kind=.function)(h:aMm BH N0 scope N k idx=true):eJ (jo X0 (some y0) BH N0 fp C s H) scope N k idx:=by
 unfold aMm at h;simp only[iz,decide_eq_true_eq] at h;obtain⟨⟨⟨h1,h4⟩,h5⟩,h6⟩:=h;rw[nj] at h1 h6;refine⟨hk,λy hy e=>?_,λy hy e=>?_,λy hy e=>?_,h4,h5,λi x e=>?_⟩
 ·have:=h1 y hy;rw[e] at this;cases this
 ·have:=h1 y hy;rw[e] at this;simpa using this
 ·have:=h1 y hy;rw[e] at this;have q:BH.names.lookup y.1=some .free\/BH.names.lookup y.1=some .cell:=by simpa using this
  rcases q with q|q
  ·exact gJ q
  ·exact .inl (mF q)
 ·have hi:i < (N.drop k).length:=(g0.mp e).1;have jv:i < idx.length:=by rw[Bj] at hi;lia
  have q:=h6 i (zU.mpr jv);rw[e,cG jv] at q;simp only[iz,decide_eq_true_eq] at q;exact⟨idx[i],cG jv,q.1,by simpa using q.2⟩
def aOE(sc:Scope)(NX:ak)(y:Str)(scope:Scope)(N:ak)(k:Nat)(idx:List Nat):Bool:=
 scope.names.all (λz=>!(z.2 == .cell) || z.1 == y) && scope.names.all (λz=>!(z.2 == .local) || scope.names.lookup z.1 == some .local) &&
 scope.names.all (λz=>!(z.2 == .free) || (!(z.1 == y) && (sc.names.lookup z.1 == some .cell || sc.names.lookup z.1 == some .free))) &&
 decide N.Nodup && decide (N.length=k+idx.length) && (List.range idx.length).all λi=>
  match (N.drop k)[i]?,idx[i]? with
  |some x,some j=>decide (NX[j]?=some x) && scope.names.lookup x == some .free
  |_,_=>false
theorem aQy{X:Cx}{y:Str}{scope:Scope}{N:ak}{k:Nat}{idx:List Nat}{sc:Scope}{NX:ak}(LO:X.env.scope=sc)(hN:X.N=NX)(hk:scope.kind=.function)(cf:∀n acc,cellsFrom n scope.names acc=(y,n)::acc)
  (pc:∀h,pushCells h scope.names=h.push { cls:=.type "cell",data:=.cell none }) (h:aOE sc NX y scope N k idx=true):lE X (some y) scope N k idx:=by
 unfold aOE at h;simp only[iz,decide_eq_true_eq] at h;obtain⟨⟨⟨⟨⟨h1,h2⟩,h3⟩,h4⟩,h5⟩,h6⟩:=h;rw[nj] at h1 h2 h3 h6;refine⟨hk,cf,pc,λz hz e=>?_,λz hz e=>?_,λz hz e=>?_,h4,h5,λi x e=>?_⟩
 ·have:=h1 z hz;rw[e] at this;have q:z.1=y:=by simpa using this
  rw[q]
 ·have:=h2 z hz;rw[e] at this;simpa using this
 ·have:=h3 z hz;rw[e] at this;show some y≠some z.1/\(X.env.scope.names.lookup z.1=_\/X.env.scope.names.lookup z.1=_)
  rw[LO];refine⟨λw=>?_,?_⟩
  ·rw[Option.some.inj w] at this;simp at this
  ·simp at this;exact this.2
 ·have hi:i < (N.drop k).length:=(g0.mp e).1;have jv:i < idx.length:=by rw[Bj] at hi;lia
  have q:=h6 i (zU.mpr jv);rw[e,cG jv] at q;simp only[iz,decide_eq_true_eq] at q;exact⟨idx[i],cG jv,by rw[hN];exact q.1,by simpa using q.2⟩
end L2
namespace L2.Z
open PySem PySem.Spec PyProof.Rows L2
section
variable{X:Cx}{y x:Str}{scope:Scope}{elt target iter:Expr}{ifs:List Expr}{N:ak}{pos pos' mf:Pos}{wi:TI}{g:TG}{tt:TT}{te:TE}
theorem aGW{k:Nat}{idx:List Nat}{N:ak}(S:lE X (some y) scope N k idx)(hc:X.calm=true)(hi:QI X target iter wi)
  (hg:∀fp C s H,QG (jo X (some y) scope N fp C s H) target g) (ho:Own k g) (ht:∀fp C s H,FK (jo X (some y) scope N fp C s H) ifs tt) (he:∀fp C s H,QE (jo X (some y) scope N fp C s H) elt te)
  (hs:∀x,foldedSetIterable iter X.env x=pure x:=by intro _;rfl):QE X (.ListComp elt [⟨target,iter,ifs,0⟩] scope pos) (Cg wi k idx g tt te):=
 ⟨L2.aMl k idx S hc hi.h (λfp C s H=>(hg fp C s H).h) ho (λfp C s H=>(ht fp C s H).h) (λfp C s H=>(he fp C s H).h) hs⟩
end
end L2.Z
local macro_rules | `(tactic| walk_at "ne") => `(tactic| first
  | assumption
  | (refine Ne.symm ?_; assumption)
  | exact L2.bJ (by assumption) (by walk_at "hp")
  | exact Ne.symm (L2.bJ (by assumption) (by walk_at "hp")))
local macro_rules | `(tactic| walk_at "hp") => `(tactic| first
  | assumption
  | exact L2.aP
  | (refine Eq.trans (L2.aS (by walk_at "ne")) ?_; walk_at "hp")
  | (refine L2.aO.at (by assumption) ?_; walk_at "hp")
  | (refine L2.bY.at (by assumption) ?_ (by walk_at "ne"); walk_at "hp"))
local macro_rules | `(tactic| walk_at "sq") => `(tactic| first
  | assumption
  | exact L2.bR.of (by walk_at "hp")
  | exact L2.mE.of (by walk_at "hp")
  | exact L2.aO.seq (by assumption) (by walk_at "sq"))
local macro_rules | `(tactic| walk_at "cnd") => `(tactic| first
  | lia
  | decide
  | (simp only [List.length_map]; lia)
  | (refine ⟨?_, ?_⟩ <;> first | lia | decide)
  | (refine Or.inl ⟨?_, ?_⟩ <;> first | lia | decide)
  | (refine Or.inr ⟨?_, ?_⟩ <;> first | lia | decide)
  | (refine ⟨?_, ?_, ?_⟩ <;> first | lia | decide))
local macro_rules | `(tactic| walk_at "sz") => `(tactic| (refine L2.bZ ?_; first | decide | (simp only [List.length_cons, List.length_nil, List.length_append]; lia) | lia))
local macro_rules | `(tactic| walk_at "rd") => `(tactic| (with_reducible first
  | refine L2.aNo ?_
  | refine L2.a0c ?_
  | refine L2.aPN ?_
  | refine L2.aNp ?_
  | refine L2.aPO ?_
  | refine L2.KH ?_
  | refine L2.G3 ?_
  | refine L2.KL ?_
  | refine L2.aPP ?_
  | refine L2.aNq ?_
  | refine L2.aPQ ?_
  | refine L2.aNr ?_
  | refine L2.aLa ?_
  | refine L2.aNs ?_
  | refine L2.aJP ?_
  | refine L2.aNW ?_
  | refine L2.aMj ?_
  | refine L2.aJ7 ?_
  | refine L2.KG ?_
  | refine L2.aLW ?_
  | refine L2.aJR ?_
  | refine L2.aLJ ?_
  | refine L2.aLG ?_
  | refine L2.aLH ?_
  | refine L2.aPS ?_
  | refine L2.aRS ?_
  | refine L2.aQ9 ?_
  | refine L2.aRa ?_
  | refine L2.aPU ?_
  | refine L2.aRc ?_
  | refine L2.aNt ?_
  | refine L2.aRd ?_
  | refine L2.aJG ?_
  | refine L2.aNv ?_
  | refine L2.G2 ?_
  | refine L2.a0a ?_
  | refine L2.a0b ?_
  | refine L2.aNw ?_
  | refine L2.aPX ?_
  | refine L2.aNx ?_
  | refine L2.a0d ?_
  | refine L2.aLc ?_
  | refine L2.aNy ?_
  | refine L2.aRe ?_
  | refine L2.aPY ?_
  | refine L2.aRf ?_
  | refine L2.aPZ ?_
  | refine L2.aP0 ?_
  | refine L2.aRg ?_
  | refine L2.aNz ?_
  | refine L2.aRh ?_
  | refine L2.aRi ?_
  | refine L2.a0e ?_
  | refine L2.aP1 ?_
  | refine L2.aNA ?_
  | refine L2.aP2 ?_
  | refine L2.aP3 ?_
  | refine L2.aNB ?_
  | refine L2.aRj ?_
  | refine L2.aNC ?_
  | refine L2.aJK ?_
  | refine L2.aLl ?_
  | refine L2.aLd ?_
  | refine L2.aLe ?_
  | refine L2.aP4 ?_
  | refine L2.IP ?_
  | refine L2.IQ ?_
  | refine L2.aRo ?_
  | refine L2.aRp ?_
  | refine L2.aRn ?_
  | refine L2.aLk ?_
  | refine L2.Z9 ?_
  | refine L2.aNK ?_
  | refine L2.aNL ?_
  | refine L2.aNM ?_
  | refine L2.aNS ?_
  | refine L2.aQd ?_
  | refine L2.aLP ?_
  | refine L2.aHX ?_
  | refine L2.aLU ?_))
local macro_rules | `(tactic| walk_at "st") => `(tactic| first
  | walk_at "rd"
  | ((with_reducible refine L2.aRt (b := ?b) ?t ?_); (case t => assumption))
  | ((with_reducible refine L2.aPT (v := ?v) ?e ?_); (case e => rfl))
  | ((with_reducible refine L2.aK9 (σ' := ?s) ?e ?_); (case e => first | (simp only [List.set_cons_zero, List.set_cons_succ]; rfl) | rfl))
  | ((with_reducible refine L2.aRb ?c ?_); (case c => walk_at "cnd"))
  | ((with_reducible refine L2.aNu ?c ?_); (case c => walk_at "cnd"))
  | ((with_reducible refine L2.Jw (xs := ?xs) (v := ?v) ?a ?b ?_); (case a => walk_at "sq"); (case b => first | rfl | assumption))
  | ((with_reducible refine L2.aPW (xs := ?xs) (v := ?v) ?a ?b ?_); (case a => walk_at "sq"); (case b => first | rfl | assumption))
  | (with_reducible refine L2.aP5 ?_)
  | (with_reducible refine L2.aP6 ?_)
  | (with_reducible refine L2.aP7 ?_)
  | (with_reducible refine L2.KI ?_)
  | (with_reducible refine L2.KJ ?_)
  | ((with_reducible refine L2.aNF (xs := ?xs) ?a ?_); (case a => walk_at "sq"))
  | ((with_reducible refine L2.aNG (xs := ?xs) ?a ?_); (case a => walk_at "sq"))
  | (with_reducible refine L2.aP8 ?_)
  | (with_reducible refine L2.aLg ?_)
  | ((with_reducible refine L2.aPV ?a ?b ?_); (case a => rfl); (case b => rfl))
  | ((with_reducible refine L2.aLb ?a ?b ?_); (case a => rfl); (case b => rfl))
  | ((with_reducible refine L2.aRs (b := ?b) ?e ?_); (case e => rfl))
  | ((with_reducible refine L2.aLp (b := ?b) ?e ?_); (case e => rfl))
  | ((with_reducible refine L2.aND ?c ?_); (case c => walk_at "sz")))
local macro_rules | `(tactic| walk_at "go") => `(tactic| first
  | (with_reducible refine L2.aNR (fun _ _ => ?_))
  | walk_at "st")
local macro_rules | `(tactic| walk_at "w") => `(tactic| repeat walk_at "go")
local macro_rules | `(tactic| walk_at "l") => `(tactic| (intro vs H Q E h; first | (cases h; subst_vars; rfl) | (repeat (first | (obtain ⟨e, _⟩ := h; subst e; rfl) | obtain ⟨_, h⟩ := h))))
local macro_rules | `(tactic| walk_at "gs") => `(tactic| first
  | walk_at "go"
  | ((with_reducible refine L2.aRq ?e ?_); (case e => rfl))
  | ((with_reducible refine L2.aRr ?e ?_); (case e => rfl)))
namespace My
open PySem L2 L2.Z
abbrev fv:List Str:=["machine","state","run"]
abbrev kf:List Str:=["machine","state","prices"]
abbrev pS:List Str:=["_law_spec_here","_law_state_here","_law_prices_here","_law_tables","_law_run","_law_hour_here","_law_ways","_law_on","_law_behind","_law_least"]
abbrev aaa:List Str:=["_law_script","_law_hand","_law_by","_law_place","_law_spec_here","_law_machine_here","_law_state_here","_law_hours","_law_prices_here","_law_tables","_law_due","_law_beside","_law_bare","_law_held","_law_turn","_law_handed","_law_found","_law_run","_law_paper","_law_others"]
abbrev aba:List Str:=["place","hours","table","number","ways_at","numbers"]
abbrev aca:List Str:=["machine","state","prices","table","number"]
abbrev ada:List Str:=["_law_spec_here","_law_state_here","_law_price_here","_law_on"]
abbrev aea:List Str:=["_law_spec_here","_law_state_here","_law_prices_here","_law_tables"]
abbrev afa:List Str:=["machine","state","on"]
abbrev aga:List Str:=["thing"]
abbrev aha:List Str:=["_law_spec_here","_law_state_here","_law_on"]
abbrev aia:List Str:=["_law_spec_here","_law_price_here"]
abbrev aja:List Str:=["self","up","down","begin","run","rest","least","pieces"]
abbrev aka:List Str:=["hour","place","machine","prices"]
abbrev ala:List Str:=["hour","ahead","behind","ways_at"]
abbrev ama:List Str:=["_law_spec_here","_law_state_here","_law_prices_here"]
abbrev ana:List Str:=["_law_hand","_law_spec_here","_law_by","_law_hours"]
abbrev aoa:List Str:=["_law_hand","_law_machine_here","_law_paper","_law_state_here","_law_prices_here","_law_due","_law_number","_law_entries","_law_rows","_law_spot"]
abbrev apa:List Str:=["_law_spec_here","_law_state_here","_law_hours"]
abbrev aqa:List Str:=["ways","behind"]
abbrev ara:List Str:=["_law_hand","_law_machine_here","_law_paper"]
abbrev asa:List Str:=["_law_hand","_law_by","_law_most"]
abbrev ata:List Str:=["place","hours","table","number","ways_at"]
abbrev aua:List Str:=["choice","later","worth","behind","number"]
abbrev ava:List Str:=["machine","state","price"]
abbrev awa:List Str:=["number","ways","behind"]
abbrev axa:List Str:=["_law_hand","_law_spec_here"]
abbrev aya:List Str:=["on","later","cost","machine","price"]
abbrev aza:List Str:=["_law_hand","_law_by","_law_longest"]
abbrev aAa:List Str:=["_law_found","_law_due","_law_entries","_law_several"]
abbrev aEa:List Str:=["_law_one","_law_due"]
abbrev aIa:List Str:=["places","hour","behind","ways_at"]
abbrev aJa:List Str:=["_law_spec_here","_law_state_here","_law_hours","_law_rows","_law_hour_here","_law_later","_law_one"]
abbrev aPa:List Str:=["choice","later","worth","behind"]
abbrev aSa:List Str:=["_law_amount","_law_rate","_law_price_here"]
abbrev aTa:List Str:=["machine","state"]
abbrev aUa:List Str:=["place","number","behind","hour","ways_at"]
abbrev aVa:List Str:=["machine","state","prices","worths","run"]
abbrev aWa:List Str:=["place","worths","ways_at"]
abbrev aXa:List Str:=["_law_script","_law_place"]
abbrev aYa:List Str:=["machine","state","hours"]
abbrev aZa:List Str:=["_law_hand","_law_bound"]
abbrev a1a:List Str:=["machine","state","prices","layers"]
abbrev a2a:List Str:=["_law_worth","_law_on","_law_least"]
abbrev a3a:List Str:=["_law_entries"]
abbrev a4a:List Str:=["_law_hand","_law_many"]
abbrev a5a:List Str:=["_law_found","_law_due"]
abbrev a6a:List Str:=["_law_tables"]
abbrev a7a:List Str:=["_law_script"]
abbrev a8a:List Str:=["_law_spec_here"]
abbrev a9a:List Str:=["_law_script","_law_place","_law_cells","_law_at","_law_digits"]
abbrev baa:List Str:=["layers","ways_at"]
abbrev bba:List Str:=["machine","ways"]
abbrev bca:List Str:=["_law_worth","_law_on"]
abbrev bda:List Str:=["_law_hand"]
abbrev bea:List Str:=["self","price"]
abbrev bfa:List Str:=["worths"]
abbrev bga:List Str:=["_law_k","_law_due","_law_one"]
abbrev bha:List Str:=["_law_one","_law_worths_here"]
abbrev bia:List Str:=["hour","place"]
abbrev bja:List Str:=["entries"]
abbrev bka:List Str:=["hour","numbers","ways_at"]
def top(i:Nat):Stmt:=PySem.Challenge.pw_stintwise_k44_worths_of_all_states.main.body.getD i (.Pass ⟨0,0,0,0⟩)
abbrev pE:Stmt:=top 44
abbrev vW:Stmt:=top 45
abbrev Qk:Stmt:=top 46
abbrev qP:Stmt:=top 47
abbrev Qj:Stmt:=top 16
abbrev vX:Stmt:=top 17
abbrev P1:Stmt:=top 37
abbrev Qi:Stmt:=top 38
abbrev iS:Stmt:=top 39
abbrev oK:Stmt:=inClass (top 40) 0
abbrev vY:Stmt:=top 48
abbrev oM:Stmt:=top 49
abbrev pF:Stmt:=top 55
abbrev oN:Stmt:=inClass (top 40) 3
abbrev pG:Stmt:=top 53
abbrev Pr:Stmt:=top 19
abbrev qQ:Stmt:=top 20
abbrev sM:Stmt:=top 50
abbrev vZ:Stmt:=top 24
abbrev oO:Stmt:=top 25
abbrev sN:Stmt:=top 26
abbrev Qh:Stmt:=top 27
abbrev sO:Stmt:=top 2
abbrev oP:Stmt:=top 3
abbrev jV:Stmt:=top 4
abbrev mO:Stmt:=top 5
abbrev v3:Stmt:=top 6
abbrev qR:Stmt:=top 21
abbrev jW:Stmt:=top 22
abbrev mP:Stmt:=top 28
abbrev pH:Stmt:=top 30
abbrev cH:Stmt:=top 31
abbrev dJ:Stmt:=top 32
abbrev mQ:Stmt:=top 8
abbrev mR:Stmt:=top 9
abbrev dZ:Stmt:=top 10
abbrev sP:Stmt:=top 7
abbrev sQ:Stmt:=top 33
abbrev fB:Stmt:=top 42
abbrev sR:Stmt:=top 51
abbrev sS:Stmt:=top 52
abbrev v5:Stmt:=top 56
abbrev iT:Stmt:=top 58
abbrev qS:Stmt:=top 59
abbrev iU:Stmt:=top 60
abbrev qT:Stmt:=top 57
abbrev j8:Stmt:=top 62
abbrev j9:Stmt:=top 61
abbrev iV:Stmt:=top 63
abbrev Jp:Stmt:=top 64
theorem fY:bC a9a aXa (aL pE):={}
theorem fZ:bC ["_law_hand","_law_many","_law_got","_law_cell","_law_number"] a4a (aL vW):={}
theorem pI:bC ["_law_hand","_law_bound","_law_total","_law_k"] aZa (aL Qk):={}
theorem aDo:bC bda bda (aL qP):={}
theorem aGX:bC aga aga (aL Qj):={}
theorem aFE:bC aga aga (aL vX):={}
theorem aIe:bC aga aga (aL P1):={}
theorem aGY:bC aga aga (aL Qi):={}
theorem aEb:bC aga aga (aL iS):={}
theorem fK:bC ["self","up","down","begin","run","rest","least","pieces","spans","costs","at","fits"] aja (aL oK):={}
theorem dX:bC ["_law_hand","_law_by","_law_longest","_law_up","_law_down","_law_costs","_law_least","_law_rate","_law_pieces","_law_k"] aza (aL vY):={}
theorem aCu:bC a8a a8a (aL oM):={}
theorem aFF:bC aEa aEa (aL pF):={}
theorem fL:bC ["self","price","worth","amount","rate"] bea (aL oN):={}
theorem aFG:bC aia aia (aL pG):={}
theorem aJ8:bC afa afa (aL Pr):={}
theorem aDp:bC afa afa (aL qQ):={}
theorem aEc:bC axa axa (aL sM):={}
theorem mS:bC ["machine","state","run","hour","on"] fv (aL vZ):={}
theorem uQ:bC ["machine","state","run","fault"] fv (aL oO):={}
theorem fO:bC ["machine","state","run","begins","ahead","hour","on"] fv (aL sN):={}
theorem aB0:bC ["machine","state","run","begins"] fv (aL Qh):={}
theorem aGZ:bC aqa aqa (aL sO):={}
theorem lW:bC ["places","hour","behind","ways_at","worths","place"] aIa (aL oP):={}
theorem dQ:bC ["layers","ways_at","behind","place","worths","hour"] baa (aL jV):={}
theorem yZ:bC ["ways","behind","least"] aqa (aL mO):={}
theorem iW:bC ["place","worths","ways_at","row","hour","way"] aWa (aL v3):={}
theorem eY:bC ["machine","ways","later","state","many","on","behind"] bba (aL qR):={}
theorem eN:bC ["machine","state","hours","ways","layers","hour"] aYa (aL jW):={}
theorem aEd:bC aTa aTa (aL mP):={}
theorem aFH:bC ava ava (aL pH):={}
theorem mG:bC a1a kf (aL cH):={}
theorem lX:bC aVa kf (aL dJ):={}
theorem aEe:bC awa awa (aL mQ):={}
theorem aEf:bC ala ala (aL mR):={}
theorem v7:bC aba ata (aL dZ):={}
theorem aG0:bC bfa bfa (aL sP):={}
theorem aEg:bC kf kf (aL sQ):={}
theorem aFI:bC aca aca (aL fB):={}
theorem aEh:bC asa asa (aL sR):={}
theorem aEi:bC aha aha (aL sS):={}
theorem aFJ:bC ada ada (aL v5):={}
theorem eG:bC aJa apa (aL iT):={}
theorem cA:bC ["_law_spec_here","_law_state_here","_law_prices_here","_law_reached_here","_law_later","_law_one","_law_tables","_law_hour_here","_law_worths_here","_law_ways","_law_on","_law_behind"] ama (aL qS):={}
theorem dG:bC pS aea (aL iU):={}
theorem dM:bC ["_law_hand","_law_spec_here","_law_by","_law_hours","_law_prices_here","_law_base","_law_hour_here","_law_price_here"] ana (aL qT):={}
theorem aDq:bC a6a a6a (aL j8):={}
theorem dO:bC aoa ara (aL j9):={}
theorem qU:bC aAa a5a (aL iV):={}
theorem eE:bC aaa a7a (aL Jp):={}
theorem AN{n:Nat}:∀{us:af},us.length=n+1->∃a r,us=a::r/\r.length=n
 |a::r,h=>⟨a,r,rfl,Nat.succ.inj h⟩
theorem ar1(us:af)(h:us.length=1):∃a0,us=[a0]:=by obtain⟨a,r,rfl,g⟩:=AN h;cases List.eq_nil_of_length_eq_zero g;exact⟨a,rfl⟩
theorem EX(us:af)(h:us.length=2):∃a0 a1,us=[a0,a1]:=by obtain⟨a0,r,rfl,g⟩:=AN h;obtain⟨a1,rfl⟩:=ar1 r g;exact⟨a0,a1,rfl⟩
theorem ar3(us:af)(h:us.length=3):∃a0 a1 a2,us=[a0,a1,a2]:=by obtain⟨a0,r,rfl,g⟩:=AN h;obtain⟨a1,a2,rfl⟩:=EX r g;exact⟨a0,a1,a2,rfl⟩
theorem ar4(us:af)(h:us.length=4):∃a0 a1 a2 a3,us=[a0,a1,a2,a3]:=by obtain⟨a0,r,rfl,g⟩:=AN h;obtain⟨a1,a2,a3,rfl⟩:=ar3 r g;exact⟨a0,a1,a2,a3,rfl⟩
theorem ar5(us:af)(h:us.length=5):∃a0 a1 a2 a3 a4,us=[a0,a1,a2,a3,a4]:=by obtain⟨a0,r,rfl,g⟩:=AN h;obtain⟨a1,a2,a3,a4,rfl⟩:=ar4 r g;exact⟨a0,a1,a2,a3,a4,rfl⟩
theorem ar6(us:af)(h:us.length=6):∃a0 a1 a2 a3 a4 a5,us=[a0,a1,a2,a3,a4,a5]:=by obtain⟨a0,r,rfl,g⟩:=AN h;obtain⟨a1,a2,a3,a4,a5,rfl⟩:=ar5 r g;exact⟨a0,a1,a2,a3,a4,a5,rfl⟩
theorem ar7(us:af)(h:us.length=7):∃a0 a1 a2 a3 a4 a5 a6,us=[a0,a1,a2,a3,a4,a5,a6]:=by obtain⟨a0,r,rfl,g⟩:=AN h;obtain⟨a1,a2,a3,a4,a5,a6,rfl⟩:=ar6 r g;exact⟨a0,a1,a2,a3,a4,a5,a6,rfl⟩
theorem ar8(us:af)(h:us.length=8):∃a0 a1 a2 a3 a4 a5 a6 a7,us=[a0,a1,a2,a3,a4,a5,a6,a7]:=by obtain⟨a0,r,rfl,g⟩:=AN h;obtain⟨a1,a2,a3,a4,a5,a6,a7,rfl⟩:=ar7 r g;exact⟨a0,a1,a2,a3,a4,a5,a6,a7,rfl⟩
set_option genInjectivity false in
set_option genSizeOf false in
structure Adr where
 pJ:Addr
 pK:FuncData
 pM:Addr
 pN:FuncData
 sU:Addr
 sV:FuncData
 kA:Addr
 kB:FuncData
 sW:Addr
 sX:FuncData
 pO:Addr
 pP:FuncData
 yI:Addr
 yJ:FuncData
 sY:Addr
 sZ:FuncData
 mT:Addr
 mU:FuncData
 iX:Addr
 iY:FuncData
 pQ:Addr
 pR:FuncData
 iZ:Addr
 i0:FuncData
 pT:Addr
 pU:FuncData
 jA:Addr
 jB:FuncData
 pV:Addr
 pW:FuncData
 JV:Addr
 JU:FuncData
 kC:Addr
 kD:FuncData
 mV:Addr
 mW:FuncData
 pX:Addr
 pY:FuncData
 jC:Addr
 jD:FuncData
 mX:Addr
 mY:FuncData
 tD:Addr
 tE:FuncData
 tF:Addr
 tG:FuncData
 jE:Addr
 jF:FuncData
 gA:Addr
 gB:FuncData
 mZ:Addr
 nA:FuncData
 pZ:Addr
 p9:FuncData
 kE:Addr
 kG:FuncData
 gC:Addr
 gE:FuncData
 nB:Addr
 nC:FuncData
 qA:Addr
 qB:FuncData
 fF:Addr
 d8:FuncData
 jG:Addr
 fT:FuncData
 nE:Addr
 nF:FuncData
 nG:Addr
 nH:FuncData
 kH:Addr
 kI:FuncData
 tH:Addr
 tI:FuncData
 nJ:Addr
 nK:FuncData
 qC:Addr
 lH:FuncData
 nM:Addr
 nO:FuncData
 nP:Addr
 nQ:FuncData
 qD:Addr
 qE:FuncData
 jH:Addr
 jI:FuncData
 kJ:Addr
 kK:FuncData
 nR:Addr
 nS:FuncData
 kL:Addr
 kM:FuncData
 kN:Addr
 kO:FuncData
 kP:Addr
 kQ:FuncData
 nU:Addr
 nV:FuncData
 Jo:Addr
 Jn:FuncData
 cb:Addr
 dE:Addr
 cy:Addr
 jJ:Addr
 fq:Addr
 lJ:Addr
 bH:Addr
structure Txt(K:W.Frag)(mg:Str->aq)(a:Adr):Prop where
 qF:jQ K "_law_open" "_law_open" pE a.pJ a.pK
 v8:Binds K a.pK aXa []
 v9:mg "_law_open" = some (.ref a.pJ)
 aX:jQ K "_law_draw" "_law_draw" vW a.pM a.pN
 aZ:Binds K a.pN a4a []
 bA:mg "_law_draw" = some (.ref a.pM)
 Qg:jQ K "_law_far" "_law_far" Qk a.sU a.sV
 aDr:Binds K a.sV aZa []
 aDs:mg "_law_far" = some (.ref a.sU)
 kR:jQ K "_law_factor" "_law_factor" qP a.kA a.kB
 qV:Binds K a.kB bda []
 qW:mg "_law_factor" = some (.ref a.kA)
 tJ:jQ K "is_whole" "is_whole" Qj a.sW a.sX
 Qf:Binds K a.sX aga []
 Qe:mg "is_whole" = some (.ref a.sW)
 fD:jQ K "is_amount" "is_amount" vX a.pO a.pP
 fU:Binds K a.pP aga []
 fV:mg "is_amount" = some (.ref a.pO)
 yK:jQ K "is_span" "is_span" P1 a.yI a.yJ
 P0:Binds K a.yJ aga []
 PZ:mg "is_span" = some (.ref a.yI)
 Qd:jQ K "is_piece" "is_piece" Qi a.sY a.sZ
 aDt:Binds K a.sZ aga []
 aDu:mg "is_piece" = some (.ref a.sY)
 tK:jQ K "are_pieces" "are_pieces" iS a.mT a.mU
 aAM:Binds K a.mU aga []
 aAN:mg "are_pieces" = some (.ref a.mT)
 wA:jQ K "__init__" "Machine.__init__" oK a.iX a.iY
 wB:Binds K a.iY aja []
 wC:jQ K "_law_spec" "_law_spec" vY a.pQ a.pR
 aB1:Binds K a.pR aza []
 aB2:mg "_law_spec" = some (.ref a.pQ)
 oQ:jQ K "_law_machine" "_law_machine" oM a.iZ a.i0
 wD:Binds K a.i0 a8a []
 wG:mg "_law_machine" = some (.ref a.iZ)
 iG:jQ K "_law_same" "_law_same" pF a.pT a.pU
 lM:Binds K a.pU aEa []
 lN:mg "_law_same" = some (.ref a.pT)
 wH:jQ K "gain" "Machine.gain" oN a.jA a.jB
 wI:Binds K a.jB bea []
 wJ:jQ K "_law_gain" "_law_gain" pG a.pV a.pW
 aB3:Binds K a.pW aia []
 aB4:mg "_law_gain" = some (.ref a.pV)
 rN:jQ K "may_be" "may_be" Pr a.JV a.JU
 wK:Binds K a.JU afa []
 wL:mg "may_be" = some (.ref a.JV)
 gP:jQ K "state_after" "state_after" qQ a.kC a.kD
 kS:Binds K a.kD afa []
 kT:mg "state_after" = some (.ref a.kC)
 nW:jQ K "_law_state" "_law_state" sM a.mV a.mW
 tL:Binds K a.mW axa []
 tM:mg "_law_state" = some (.ref a.mV)
 wM:jQ K "run_fault" "run_fault" vZ a.pX a.pY
 aB5:Binds K a.pY fv []
 aB6:mg "run_fault" = some (.ref a.pX)
 oR:jQ K "refuse_fault" "refuse_fault" oO a.jC a.jD
 wN:Binds K a.jD fv []
 wO:mg "refuse_fault" = some (.ref a.jC)
 tN:jQ K "run_begins" "run_begins" sN a.mX a.mY
 aAO:Binds K a.mY fv []
 aAP:mg "run_begins" = some (.ref a.mX)
 Qc:jQ K "run_cost" "run_cost" Qh a.tD a.tE
 aDv:Binds K a.tE fv []
 aDw:mg "run_cost" = some (.ref a.tD)
 tO:jQ K "least_of" "least_of" sO a.tF a.tG
 Qb:Binds K a.tG aqa []
 Qa:mg "least_of" = some (.ref a.tF)
 oS:jQ K "worths_ahead" "worths_ahead" oP a.jE a.jF
 wQ:Binds K a.jF aIa []
 wR:mg "worths_ahead" = some (.ref a.jE)
 jX:jQ K "worths_by_hour" "worths_by_hour" jV a.gA a.gB
 rO:Binds K a.gB baa []
 rP:mg "worths_by_hour" = some (.ref a.gA)
 tQ:jQ K "first_best" "first_best" mO a.mZ a.nA
 aAQ:Binds K a.nA aqa []
 aAR:mg "first_best" = some (.ref a.mZ)
 wU:jQ K "first_row" "first_row" v3 a.pZ a.p9
 aB7:Binds K a.p9 aWa []
 aB8:mg "first_row" = some (.ref a.pZ)
 qX:jQ K "ways_one_on" "ways_one_on" qR a.kE a.kG
 y3:Binds K a.kG bba []
 y4:mg "ways_one_on" = some (.ref a.kE)
 jY:jQ K "states_by_hour" "states_by_hour" jW a.gC a.gE
 rQ:Binds K a.gE aYa []
 rR:mg "states_by_hour" = some (.ref a.gC)
 tR:jQ K "next_hours" "next_hours" mP a.nB a.nC
 aAS:Binds K a.nC aTa []
 aAT:mg "next_hours" = some (.ref a.nB)
 lO:jQ K "hour_ways" "hour_ways" pH a.qA a.qB
 qG:Binds K a.qB ava []
 qH:mg "hour_ways" = some (.ref a.qA)
 fG:jQ K "worths_of_states" "worths_of_states" cH a.fF a.d8
 iB:Binds K a.d8 kf []
 iC:mg "worths_of_states" = some (.ref a.fF)
 oU:jQ K "cheapest_run" "cheapest_run" dJ a.jG a.fT
 wV:Binds K a.fT kf []
 wW:mg "cheapest_run" = some (.ref a.jG)
 tT:jQ K "is_at_most" "is_at_most" mQ a.nE a.nF
 aAU:Binds K a.nF awa []
 aAV:mg "is_at_most" = some (.ref a.nE)
 tU:jQ K "keeps_hour" "keeps_hour" mR a.nG a.nH
 aAW:Binds K a.nH ala []
 aAX:mg "keeps_hour" = some (.ref a.nG)
 qY:jQ K "shows_least" "shows_least" dZ a.kH a.kI
 y6:Binds K a.kI ata []
 y7:mg "shows_least" = some (.ref a.kH)
 P9:jQ K "table_of" "table_of" sP a.tH a.tI
 aDx:Binds K a.tI bfa []
 aDy:mg "table_of" = some (.ref a.tH)
 nX:jQ K "run_worths" "run_worths" sQ a.nJ a.nK
 tV:Binds K a.nK kf []
 tW:mg "run_worths" = some (.ref a.nJ)
 qI:jQ K "shows_run" "shows_run" fB a.qC a.lH
 wX:Binds K a.lH aca []
 wY:mg "shows_run" = some (.ref a.qC)
 nY:jQ K "_law_price" "_law_price" sR a.nM a.nO
 tX:Binds K a.nO asa []
 tY:mg "_law_price" = some (.ref a.nM)
 fH:jQ K "_law_after" "_law_after" sS a.nP a.nQ
 gF:Binds K a.nQ aha []
 gG:mg "_law_after" = some (.ref a.nP)
 qJ:jQ K "_law_hour" "_law_hour" v5 a.qD a.qE
 wZ:Binds K a.qE ada []
 w4:mg "_law_hour" = some (.ref a.qD)
 oV:jQ K "_law_reached" "_law_reached" iT a.jH a.jI
 w6:Binds K a.jI apa []
 w9:mg "_law_reached" = some (.ref a.jH)
 kU:jQ K "_law_worths" "_law_worths" qS a.kJ a.kK
 qZ:Binds K a.kK ama []
 rA:mg "_law_worths" = some (.ref a.kJ)
 tZ:jQ K "_law_first" "_law_first" iU a.nR a.nS
 aAY:Binds K a.nS aea []
 aAZ:mg "_law_first" = some (.ref a.nR)
 rB:jQ K "_law_prices" "_law_prices" qT a.kL a.kM
 y8:Binds K a.kM ana []
 y9:mg "_law_prices" = some (.ref a.kL)
 kW:jQ K "_law_sorted" "_law_sorted" j8 a.kN a.kO
 rC:Binds K a.kO a6a []
 rD:mg "_law_sorted" = some (.ref a.kN)
 rE:jQ K "_law_papers" "_law_papers" j9 a.kP a.kQ
 zA:Binds K a.kQ ara []
 zB:mg "_law_papers" = some (.ref a.kP)
 t9:jQ K "_law_apart" "_law_apart" iV a.nU a.nV
 aA0:Binds K a.nV a5a []
 aA1:mg "_law_apart" = some (.ref a.nU)
 aOF:jQ K "law" "law" Jp a.Jo a.Jn
 aRD:Binds K a.Jn a7a []
 aRE:mg "law" = some (.ref a.Jo)
 cY:me K a.bH
 aE1:mg "Machine" = some (.ref a.bH)
 aE2:Mk K a.bH a.iX
 cx:Meth K a.bH "gain" a.jA
 uA:fE K a.bH "up"
 oW:fE K a.bH "down"
 lY:fE K a.bH "begin"
 rF:fE K a.bH "run"
 oX:fE K a.bH "rest"
 lZ:fE K a.bH "least"
 jZ:fE K a.bH "pieces"
 iD:IT K a.d8 a.cb a.dE
 oY:IT K a.fT a.cy a.jJ
 xA:IT K a.lH a.fq a.lJ
 Jm:mg "abs" = none
 Al:mg "all" = none
 Je:mg "any" = none
 xC:mg "bool" = none
 JC:mg "dict" = none
 iH:mg "enumerate" = none
 DI:mg "int" = none
 bL:mg "isinstance" = none
 eO:mg "len" = none
 mB:mg "list" = none
 Ak:mg "max" = none
 zC:mg "min" = none
 eQ:mg "range" = none
 uB:mg "reversed" = none
 Jd:mg "set" = none
 oZ:mg "sorted" = none
 Fd:mg "str" = none
 Jc:mg "sum" = none
 uC:mg "tuple" = none
 gX:∃t,mg "LONGEST_STINT" = some (.int 12 t)
 kX:∃t,mg "MOST_PIECES" = some (.int 4 t)
abbrev cZ:Pos:=⟨120,34,120,93⟩
abbrev c8:Str:=(("worths_of_states" : Str) ++ ".<locals>.") ++ "<lambda>"
abbrev gY:Pos:=⟨123,35,123,94⟩
abbrev gZ:Str:=(("cheapest_run" : Str) ++ ".<locals>.") ++ "<lambda>"
abbrev jK:Pos:=⟨174,58,174,117⟩
abbrev jL:Str:=(("shows_run" : Str) ++ ".<locals>.") ++ "<lambda>"
inductive Th (H:Hp):V->String->Prop where
 |ba:Th H .ba "NoneType"
 |bl (b:Bool):Th H (.bl b) "bool"
 |int (i:Int):Th H (.int i) "int"
 |str (x:Str):Th H (.str x) "str"
 |lst {p:Addr} {xs:List V} (e:H p=some (.lst xs)):Th H (.ref p) "list"
 |tup {p:Addr} {xs:List V} (e:H p=some (.tup xs)):Th H (.ref p) "tuple"
 |dK {p:Addr} {kvs:List (Key×V)} (e:H p=some (.dK kvs)):Th H (.ref p) "dict"
theorem Th.ty{K:W.Frag}{H:Hp}{v:V}{T:String}(h:Th H v T):vE K H v (.type T):=by
 cases h with
 |ba=>exact .ba
 |bl b=>exact .bl b
 |int i=>exact .int i
 |str x=>exact .str x
 |lst e=>exact .lst e
 |tup e=>exact .tup e
 |dK e=>exact .dK e
theorem Th.keep(h:Th H v T)(n:∀b,v=.ref b->b≠p)(k:bY p H H'):Th H' v T:=by
 cases h with
 |ba=>exact .ba
 |bl b=>exact .bl b
 |int i=>exact .int i
 |str x=>exact .str x
 |lst e=>exact .lst (k _ _ e (n _ rfl))
 |tup e=>exact .tup (k _ _ e (n _ rfl))
 |dK e=>exact .dK (k _ _ e (n _ rfl))
theorem Fu(h:Th H v T):Bs K H v (.ty "int") (T == "int" || T == "bool"):=by
 refine⟨_,h.ty,.inl ⟨_,rfl,?_⟩⟩;cases h <;> rfl
theorem gQ(h:Th H v T):Bs K H v (.ty "bool") (T == "bool"):=by
 refine⟨_,h.ty,.inl ⟨_,rfl,?_⟩⟩;cases h <;> rfl
def B8:V->Bool
 |.int i=>decide (0<=i) && decide (i<=10 ^ 12)
 |_=>false
structure bG(H:Hp)(p:Addr):Prop where
 ex:∃(d c:Int) (q:Addr) (ms:aa),H p=some (.lst [.int d,.int c,.ref q])/\H q=some (.lst (ms.map V.int))/\ms≠[]/\q≠p
def fR(p:Addr)(H H':Hp):Prop:=∀(d c:Int) (q:Addr),H p=some (.lst [.int d,.int c,.ref q])->∃d' c':Int,H' p=some (.lst [.int d',.int c',.ref q])
theorem fR.trans(a:fR p H H1)(b:fR p H1 H2):fR p H H2:=λd c q e=>by
 obtain⟨d',c',e'⟩:=a d c q e;exact b d' c' q e'
theorem fR.of{H H':Hp}(s:∀o,H p=some o->H' p=some o):fR p H H':=λd c q e=>⟨d,c,s _ e⟩
theorem bG.of(h:bG H p)(k:bY p H H')(s:fR p H H'):bG H' p:=by
 obtain⟨d,c,q,ms,hp,hq,bj,oh⟩:=h.ex;obtain⟨d',c',e⟩:=s d c q hp;exact⟨⟨d',c',q,ms,e,k _ _ hq oh,bj,oh⟩⟩
theorem bG.same(h:bG H p)(s:aO H H'):bG H' p:=by
 obtain⟨d,c,q,ms,hp,hq,bj,oh⟩:=h.ex;exact⟨⟨d,c,q,ms,s _ _ hp,s _ _ hq,bj,oh⟩⟩
theorem xD(h:Th H v T):Bs K H v (.ty "list") (T == "list"):=by
 refine⟨_,h.ty,.inl ⟨_,rfl,?_⟩⟩;cases h <;> rfl
theorem Po(h:Th H v T):Bs K H v (.ty "str") (T == "str"):=by
 refine⟨_,h.ty,.inl ⟨_,rfl,?_⟩⟩;cases h <;> rfl
theorem rS(h:Th H v T):Bs K H v (.ty "tuple") (T == "tuple"):=by
 refine⟨_,h.ty,.inl ⟨_,rfl,?_⟩⟩;cases h <;> rfl
theorem aMn{ms:aa}{c:Int}(h:ms≠[]):∃m,m∈ms/\pC (ms.map V.int) (c % ((ms.map V.int).length:Int))=some (.int m):=by
 have hl:0 < ms.length:=DW.mpr h;have e1:=DT c (b:=((ms.map V.int).length:Int)) (by rw[bK];lia);have e2:=DV c (b:=((ms.map V.int).length:Int)) (by rw[bK];lia);obtain⟨j,hj⟩ : ∃j:Nat,c % ((ms.map V.int).length:Int)=(j:Int):=⟨_,(Int.toNat_of_nonneg e1).symm⟩
 rw[hj] at e2 ⊢;rw[bK] at e2;have hjl:j < ms.length:=by lia
 exact⟨ms[j],lu hjl,cO (by rw[hE,cG hjl];rfl)⟩
theorem aJd(ms:aa)(lo hi:Option Int):∃r:aa,qN (ms.map V.int) lo hi=r.map V.int/\r.length=(qN (ms.map V.int) lo hi).length:=by
 unfold qN;rw[<-List.map_drop,<-List.map_take];exact⟨_,rfl,by simp⟩
theorem rot{ms:aa}{i:Int}(h0:0<=i)(h1:i < ms.length):∃mr:aa,qN (ms.map V.int) (some i) none++qN (ms.map V.int) none (some i)=mr.map V.int/\mr≠[]/\mr.length<=ms.length+ms.length:=by
 obtain⟨r1,e1,l1⟩:=aJd ms (some i) none;obtain⟨r2,e2,l2⟩:=aJd ms none (some i);have b1:=eZ (ms.map V.int) (some i) none;have b2:=eZ (ms.map V.int) none (some i);rw[bK] at b1 b2;refine⟨r1++r2,by rw[e1,e2,iJ],λz=>?_,by rw[uN];lia⟩;have z1:r1=[]:=(List.append_eq_nil_iff.mp z).1;obtain⟨j,rfl⟩:=Qt h0;have hj:j < ms.length:=by lia
 rw[z1,Cn] at l1;have l3:(qN (ms.map V.int) (some (j:Int)) none).length=ms.length - j:=by
  unfold qN;rw[HT.aIA,HT.aGl,xT,Bj,bK,Nat.min_eq_left (zg hj)];lia
 rw[l3] at l1;lia
inductive aA5  (K:W.Frag) (vs:List V) (H:Hp) (Q:VK) (E:XK):Prop
 |mk:∀(a:Addr) (ns:aa) (i:Int),(vs=[.ref a,.int i])->(bR K H a (ns.map V.int))->(ns.length<=63)->(0<=i)->(∀p H',aO H H'->H p=none->bG H' p->Q (.ref p) H')->aA5 K vs H Q E
theorem aFM(tx:Txt K mg a):cE P w K mg base hU 1 a.pJ a.pK aXa (aA5 K):=by
 refine tx.qF.ok fY (by walk_at "l") λbh A outer s H vs Q E hr h=>?_;obtain⟨a,ns,i,rfl ,hS,hl,h0,k⟩:=h;have hu:=lT hr;refine bE (aE (sJ (k:=1) (idx:=[]) (N:=["_law_cell"]) (i:=2) fY.nd rfl (Or.inl rfl) (cU (sc:=aL pE) (NX:=a9a) rfl rfl rfl (by decide +kernel)) rfl (bF (K':=K) (vM (rs:=E6 K) NY (aB 0) Qo (Qn aD))) (λ_ _ _ _=>(aM (i:=0) (show(["_law_cell"]:ak).Nodup by decide +kernel))) (cV (by decide)) (λ_ _ _ _=>bQ) (λ_ _ _ _=>(aH aJH (by rfl) tx.Jm aPG (aA (aB 0) aC))))
  (aE (bD (aY (r:=iN K) (dR hu) (aB 2) (eW aC) (bN _)) (aG (aI (i:=2) fY.nd (j7 aD))) aU)
  (aE (aI (i:=3) fY.nd (aK jT (aB 1) (aH (rc:=jR K) bS (by rfl) tx.eO dH (aA (aB 2) aC))))
  (aE (aI (i:=4) fY.nd aD)
  (aE (bD (gO (rM (aY aOr (aJ (K':=K) (aB 2) (aB 3)) (aK vC aD aD) (bN _)) (oF (aY aQT (aB 1) (aH (rc:=jR K) bS (by rfl) tx.eO dH (aA (aB 2) aC)) (bN _))))) (aG (aI (i:=4) fY.nd (aJ (K':=K) (aB 2) (aB 3)))) aU)
  (aG (aN (aIG (aB 4) (aK bX aD (aK cT aD (aB 1))) (aK bX (vM (rs:=E6 K) NY (aB 2) (Qn (aB 3)) Qo) (vM (rs:=E6 K) NY (aB 2) Qo (Qn (aB 3)))))))))))) ?_
 refine aW (σ:=[some (.ref a),some (.int i),none,none,none]) rfl ?_;refine aPM ?_;walk_at "w";refine Fo hS ?_;intro p1 n1;walk_at "w";rw[show qN (ns.map V.int) none (some 63)=ns.map V.int from aLf (n:=63) (by rw[bK];exact hl)];refine fA (bR.of aP) ?_;refine aEM (λv=>match v with|.int i=>.int (if i < 0 then -i else i)|v=>v) (bR.of aP) (bZ (by rw[bK];lia)) (λx N N' hx hN=>?_) ?_
 ·obtain⟨y,hy,rfl⟩:=mD.mp hx;walk_at "w";exact hN
 ·intro p2 n2;repeat walk_at "st"
  have s2:aO H (upd (upd H p1 (.lst (ns.map V.int))) p2 (.lst ((ns.map V.int).map λv=>match v with|.int i=>.int (if i < 0 then -i else i)|v=>v))):=(aO.new n1).trans (aO.new n2);rw[zW] at s2 ⊢;generalize hm:ns.map ((λv=>match v with|V.int i=>V.int (if i < 0 then -i else i)|v=>v) ∘ V.int)=xs at s2 ⊢;obtain⟨ms,rfl⟩ : ∃ms:aa,xs=ms.map V.int:=⟨ns.map λi=>if i < 0 then -i else i,by rw[<-hm,zW];rfl⟩
  have lm:ms.length<=63:=by
   have:=congrArg List.length hm;simp only[bK] at this;lia
  refine sE (λσ' H'=>∃(c:Addr) (ms:aa),σ'=[some (.ref a),some (.int i),some (.ref c),none,none]/\aO H H'/\H' c=some (.lst (ms.map V.int))/\ms≠[]/\ms.length<=63) (λN hN=>?_) ?_
  ·walk_at "w";intro p3 n3;walk_at "w";refine⟨_,aNH (bR.of (by walk_at "hp")) (bR.of aP),?_⟩;walk_at "w";refine xY (λh=>?_) (λh=>?_)
   ·walk_at "w";intro p4 n4;walk_at "w";exact hN _ _ ⟨p4,[0],rfl,(s2.trans (aO.new n3)).trans (aO.new n4),aP,by simp,by simp⟩
   ·walk_at "w";refine hN _ _ ⟨p2,ms,rfl,s2.trans (aO.new n3),by walk_at "hp",?_,lm⟩;rintro rfl;simp at h
  ·rintro σ' H' ⟨c,ms,rfl,sH,hc,bj,lm⟩;have hl:0 < ms.length:=DW.mpr bj;obtain⟨m,_,hm⟩:=aMn (c:=i) bj;have e1:=DT i (b:=((ms.map V.int).length:Int)) (by rw[bK];lia);have e2:=DV i (b:=((ms.map V.int).length:Int)) (by rw[bK];lia);obtain⟨mr,em,en,el⟩:=rot (ms:=ms) e1 (by rw[bK] at e2 ⊢;exact e2);walk_at "w";refine dA (λh=>?_) (λh=>?_)
   ·walk_at "w";refine dA (λh=>?_) (λh=>?_);all_goals
     walk_at "w";refine Fo (bR.of hc) ?_;intro p5 n5;walk_at "w";refine Fo (bR.of (by walk_at "hp")) ?_;intro p6 n6;walk_at "w";refine xX (by walk_at "hp") (by walk_at "hp") (bZ (by have:=eZ (ms.map V.int) (some (i % ((ms.map V.int).length:Int))) none;have:=eZ (ms.map V.int) none (some (i % ((ms.map V.int).length:Int)));simp only[bK] at *;lia)) ?_;intro p7 n7;walk_at "w";rw[em];walk_at "w";intro p8 n8;walk_at "w";have s8:=((aO.new (o:=.lst (qN (ms.map V.int) (some (i % ((ms.map V.int).length:Int))) none)) n5).trans (aO.new (o:=.lst (qN (ms.map V.int) none (some (i % ((ms.map V.int).length:Int))))) n6)).trans (aO.new (o:=.lst (mr.map V.int)) n7);refine k _ _ (sH.trans (s8.trans (aO.new n8))) ((sH.trans s8).free n8) ⟨⟨_,_,_,mr,aP,by walk_at "hp",en,?_⟩⟩;exact bJ n8 aP
   ·walk_at "w";refine Fo (bR.of hc) ?_;intro p5 n5;walk_at "w";refine Fo (bR.of (by walk_at "hp")) ?_;intro p6 n6;walk_at "w";refine xX (by walk_at "hp") (by walk_at "hp") (bZ (by have:=eZ (ms.map V.int) (some (i % ((ms.map V.int).length:Int))) none;have:=eZ (ms.map V.int) none (some (i % ((ms.map V.int).length:Int)));simp only[bK] at *;lia)) ?_;intro p7 n7;walk_at "w";rw[em];walk_at "w";intro p8 n8;walk_at "w";have s8:=((aO.new (o:=.lst (qN (ms.map V.int) (some (i % ((ms.map V.int).length:Int))) none)) n5).trans (aO.new (o:=.lst (qN (ms.map V.int) none (some (i % ((ms.map V.int).length:Int))))) n6)).trans (aO.new (o:=.lst (mr.map V.int)) n7);refine k _ _ (sH.trans (s8.trans (aO.new n8))) ((sH.trans s8).free n8) ⟨⟨_,_,_,mr,aP,by walk_at "hp",en,?_⟩⟩;exact bJ n8 aP
inductive aA6  (K:W.Frag) (vs:List V) (H:Hp) (Q:VK) (E:XK):Prop
 |mk:∀(p:Addr) (n:Int),(vs=[.ref p,.int n])->bG H p->(0 < n)->(n < 1073741824)->(∀(r:Int) H',0<=r->r < n->bG H' p->bY p H H'->fR p H H'->Q (.int r) H')->aA6 K vs H Q E
theorem eR(tx:Txt K mg a):cE P w K mg base hU 1 a.pM a.pN a4a (aA6 K):=by
 refine tx.aX.ok fZ (by walk_at "l") λbh A outer s H vs Q E hr h=>?_;obtain⟨p,n,rfl ,hh,h0,h1,k⟩:=h;have hu:=lT hr;refine bE (aE (bD (aY E9 (aJ (K':=K) (aB 0) aD) aD (bN _)) (aE (aI (i:=2) fZ.nd (aK jT (aJ (K':=K) (aB 0) aD) (aB 1)))
  (aE (yB (aK Pj (aJ (K':=K) (aB 0) aD) (aB 1)) (P4 (aB 0) aD set_list))
  (aG (aN (aB 2))))) aU)
  (aE (aHJ (aB 0) aD aPL aD OU set_list)
  (aE (aI (i:=3) fZ.nd (aK jT (aJ (K':=K) (aJ (K':=K) (aB 0) aD) (aK jT (aJ (K':=K) (aB 0) aD) (aH (rc:=jR K) bS (by rfl) tx.eO dH (aA (aJ (K':=K) (aB 0) aD) aC)))) aD))
  (aE (aI (i:=4) fZ.nd (aK jT (aK bX (aK bX (aK cT (aB 3) aD) (aK cT (aJ (K':=K) (aB 0) aD) aD)) aD) aD))
  (aE (aI (i:=4) fZ.nd (aK jT (aK bX (aK cT (aB 4) (aB 4)) (aJ (K':=K) (aB 0) aD)) aD))
  (aE (aI (i:=4) fZ.nd (aK jT (aK bX (aK cT (aB 4) aD) aD) aD))
  (aG (aN (aK jT (aK Pj (aK jT (aK cT (aB 4) (aB 4)) aD) aD) (aB 1)))))))))) ?_
 obtain⟨d,c,q,ms,hp,hq,bj,oh⟩:=hh.ex;refine aW (σ:=[some (.ref p),some (.int n),none,none,none]) rfl ?_;walk_at "w";refine dA (λhd=>?_) (λhd=>?_)
 ·walk_at "w";refine xW hp rfl ?_;walk_at "w";refine k _ _ (DT _ (by lia)) (DV _ h0) ⟨⟨_,c,q,ms,aP,by walk_at "hp",bj,oh⟩⟩ bY.upd (λd0 c0 q0 e0=>by rw[hp] at e0;cases e0;exact⟨_,_,aP⟩)
 ·walk_at "w";refine aPR (bR.of hp) (by decide) rfl ?_;walk_at "w";refine xW hp rfl ?_;obtain⟨m,_,hm⟩:=aMn (c:=c+1) bj;have hlen:0 < ((ms.map V.int).length:Int):=by rw[bK];have:=DW.mpr bj;lia
  walk_at "w";have BS:(upd H p (.lst [.int d,.int (c+1),.ref q])) q=some (.lst (ms.map V.int)):=by walk_at "hp"
  walk_at "w";exact k _ _ (DT _ (by lia)) (DV _ h0) ⟨⟨d,c+1,q,ms,aP,BS,bj,oh⟩⟩ bY.upd (λd0 c0 q0 e0=>by rw[hp] at e0;cases e0;exact⟨_,_,aP⟩)
inductive aB9  (K:W.Frag) (vs:List V) (H:Hp) (Q:VK) (E:XK):Prop
 |mk:∀(p:Addr) (b:Int),(vs=[.ref p,.int b])->bG H p->(0 < b)->(∀(r:Int) H',0<=r->r < b->bG H' p->bY p H H'->fR p H H'->Q (.int r) H')->aB9 K vs H Q E
theorem aG2(tx:Txt K mg a):cE P w K mg base hU 2 a.sU a.sV aZa (aB9 K):=by
 have aT:=eR (P:=P) (w:=w) (base:=base) tx;refine tx.Qg.ok pI (by walk_at "l") λbh A outer s H vs Q E hr h=>?_;obtain⟨p,b,rfl ,hh,h0,k⟩:=h;have hu:=lT hr;refine bE (aE (aI (i:=2) pI.nd aD)
  (aE (bU PassesOwn.never rfl (cN (by rfl) tx.eQ (aA aD aC)) (aM (i:=3) pI.nd) (aG (aI (i:=2) pI.nd (aK bX (aK cT (aB 2) aD) (ay aT hr tx.bA tx.aX.kp tx.aZ (aA (aB 0) (aA aD aC)))))))
  (aG (aN (aK jT (aB 2) (aB 1)))))) ?_
 refine aW (σ:=[some (.ref p),some (.int b),none,none]) rfl ?_;walk_at "w";refine⟨by decide,by decide,?_⟩;refine iO (n:=11) (λi σ' H'=>∃(t:Int) (x:Option V),σ'=[some (.ref p),some (.int b),some (.int t),x]/\bG H' p/\bY p H H'/\fR p H H') ⟨0,none,rfl,hh,λ_ _ e _=>e,fR.of λ_ e=>e⟩ (λi σ' H' hi z7q=>?_) (λσ' H' z8q=>?_)
 ·obtain⟨t,x,e,h',kp,sq⟩:=z7q;subst e;walk_at "w";refine⟨p,_,rfl,h',by decide,by decide,λr H2 r0 r1 h2 k2 q2=>?_⟩;walk_at "w";exact⟨_,_,rfl,h2,kp.trans k2,sq.trans q2⟩
 ·obtain⟨t,x,e,h',kp,sq⟩:=z8q;subst e;walk_at "w";exact k _ _ (DT _ (by lia)) (DV _ h0) h' kp sq
inductive xE  (K:W.Frag) (vs:List V) (H:Hp) (Q:VK) (E:XK):Prop
 |mk:∀(p:Addr),(vs=[.ref p])->bG H p->(∀(r:Int) H',1<=r->r<=50000000000->bG H' p->bY p H H'->fR p H H'->Q (.int r) H')->xE K vs H Q E
theorem aDz(tx:Txt K mg a):cE P w K mg base hU 3 a.kA a.kB bda (xE K):=by
 have aT:=eR (P:=P) (w:=w) (base:=base) tx;have aIf:=aG2 (P:=P) (w:=w) (base:=base) tx;refine tx.kR.ok aDo (by walk_at "l") λbh A outer s H vs Q E hr h=>?_;obtain⟨p,rfl ,hh,k⟩:=h;have hu:=lT hr;refine bE (aE (bD (aY E9 (ay aT hr tx.bA tx.aX.kp tx.aZ (aA (aB 0) (aA aD aC))) aD (bN _)) (aG (aN aD)) aU)
  (aG (aN (aK bX aD (ay aIf hr tx.aDs tx.Qg.kp tx.aDr (aA (aB 0) (aA (aK cT aD (aK vC aD aD)) aC))))))) ?_
 refine aW (σ:=[some (.ref p)]) rfl ?_;walk_at "w";refine⟨p,_,rfl,hh,by decide,by decide,λr1 H1 a1 b1 h1 k1 q1=>?_⟩;walk_at "w";refine dA (λh=>?_) (λh=>?_)
 ·walk_at "w";exact k _ _ (by decide) (by decide) h1 k1 q1
 ·walk_at "w";refine⟨p,_,rfl,h1,by decide,λr2 H2 a2 b2 h2 k2 q2=>?_⟩;have b3:r2 < 50000000000:=b2;walk_at "w";exact k _ _ (by lia) (by lia) h2 (k1.trans k2) (q1.trans q2)
structure MS where
 up:Int
 down:Int
 begin_:Int
 run:Int
 rest:Int
 least:Int
 pieces:ar
def Am(i:Int):Prop:=0<=i/\i<=1000000000000
structure aMo(ps:ar):Prop where
 len:ps.length<=4
 pc:∀t∈ps,1<=t.1/\Am t.1/\Am t.2
 up:∀(j:Nat) t u,ps[j]?=some t->ps[j+1]?=some u->t.2<=u.2
structure MS.Good(m:MS):Prop where
 up:1<=m.up/\m.up<=12
 down:1<=m.down/\m.down<=12
 begin_:Am m.begin_
 run:Am m.run
 rest:Am m.rest
 least:Am m.least
 pieces:aMo m.pieces
structure xF(H:Hp)(qs:ah)(ps:ar):Prop where
 len:qs.length=ps.length
 at_:∀(j:Nat) q t,qs[j]?=some q->ps[j]?=some t->H q=some (.tup [.int t.1,.int t.2])
structure yV(H:Hp)(p:Addr)(ps:ar):Prop where
 ex:∃qs,H p=some (.lst (qs.map V.ref))/\xF H qs ps
structure d9(H:Hp)(s:Addr)(m:MS):Prop where
 ex:∃pl,H s=some (.lst [.int m.up,.int m.down,.int m.begin_,.int m.run,.int m.rest,.int m.least,.ref pl])/\yV H pl m.pieces
def yt(m:MS)(pl:Addr):List (Str×V):=[("up",.int m.up),("down",.int m.down),("begin",.int m.begin_),("run",.int m.run),("rest",.int m.rest),("least",.int m.least),("pieces",.ref pl)]
structure cQ(C:Addr)(H:Hp)(a:Addr)(m:MS):Prop where
 ex:∃dx pl,H a=some (.ins C dx (yt m pl))/\yV H pl m.pieces
theorem xF.at2{H:Hp}{ps:ar}(h:xF H qs ps)(hq:q∈qs):∃t∈ps,H q=some (.tup [.int t.1,.int t.2]):=by
 obtain⟨j,hj,rfl⟩:=Kn hq;have dk:j < ps.length:=by rw[<-h.len];exact hj
 exact⟨ps[j],lu dk,h.at_ j _ _ (cG hj) (cG dk)⟩
theorem xF.same{ps:ar}(h:xF H qs ps)(s:aO H H'):xF H' qs ps:=⟨h.len,λj q t h1 h2=>s _ _ (h.at_ j q t h1 h2)⟩
theorem yV.same{ps:ar}(h:yV H p ps)(s:aO H H'):yV H' p ps:=by
 obtain⟨qs,h1,h2⟩:=h.ex;exact⟨qs,s _ _ h1,h2.same s⟩
theorem d9.same(h:d9 H p m)(s:aO H H'):d9 H' p m:=by
 obtain⟨pl,h1,h2⟩:=h.ex;exact⟨pl,s _ _ h1,h2.same s⟩
theorem cQ.same(h:cQ C H p m)(s:aO H H'):cQ C H' p m:=by
 obtain⟨dx,pl,h1,h2⟩:=h.ex;exact⟨dx,pl,s _ _ h1,h2.same s⟩
theorem xF.keep{H:Hp}{ps:ar}(h:xF H qs ps)(hp:∀xs,H p≠some (.tup xs))(s:bY p H H'):xF H' qs ps:=
 ⟨h.len,λj q t h1 h2=>by
  have e:=h.at_ j q t h1 h2;exact s _ _ e (λz=>hp _ (z▸e))⟩
theorem bG.qM(h:bG H p)(xs:List V):H p≠some (.tup xs):=λz=>by
 obtain⟨d,c,q,ms,hp,_⟩:=h.ex;rw[hp] at z;cases z
theorem yV.keep{ps:ar}(h:yV H a ps)(hh:bG H p)(s:bY p H H'):yV H' a ps:=by
 obtain⟨qs,h1,h2⟩:=h.ex;obtain⟨d,c,q,ms,hp,_⟩:=id hh.ex;refine⟨qs,s _ _ h1 (λz=>?_),h2.keep hh.qM s⟩;rw[z,hp] at h1;cases qs with
 |nil=>cases h1
 |cons x xs=>cases h1
theorem d9.keep(h:d9 H a m)(hh:bG H p)(s:bY p H H'):d9 H' a m:=by
 obtain⟨pl,h1,h2⟩:=h.ex;obtain⟨d,c,q,ms,hp,_⟩:=id hh.ex;refine⟨pl,s _ _ h1 (λz=>?_),h2.keep hh s⟩;rw[z,hp] at h1;cases h1
theorem cQ.keep(h:cQ C H a m)(hh:bG H p)(s:bY p H H'):cQ C H' a m:=by
 obtain⟨dx,pl,h1,h2⟩:=h.ex;obtain⟨d,c,q,ms,hp,_⟩:=id hh.ex;refine⟨dx,pl,s _ _ h1 (λz=>?_),h2.keep hh s⟩;rw[z,hp] at h1;cases h1
theorem DL{i:Int}(h:Am i):B8 (.int i)=true:=by
 obtain⟨h1,h2⟩:=h;have h3:i<=10 ^ 12:=h2;show(decide (0<=i) && decide (i<=10 ^ 12))=true;rw[zV h1,zV h3];rfl
inductive aCa  (K:W.Frag) (vs:List V) (H:Hp) (Q:VK) (E:XK):Prop
 |mk:∀v T,(vs=[v])->Th H v T->(Q (.bl (T == "int")) H)->aCa K vs H Q E
theorem aCb(tx:Txt K mg a):cE P w K mg base hU 1 a.sW a.sX aga (aCa K):=by
 refine tx.tJ.ok aGX (by walk_at "l") λbh A outer s H vs Q E hr h=>?_;obtain⟨v,T,rfl ,ht,k⟩:=h;have hu:=lT hr;refine bE (aG (aN (eF (aH (rc:=u7 K) cX (by rfl) tx.bL bP (aA (aB 0) (aA (cF (v:=.ty "int") (by rfl) tx.DI O5 rfl) aC))) (eU (aJN (aH (rc:=u7 K) cX (by rfl) tx.bL bP (aA (aB 0) (aA (cF (v:=.ty "bool") (by rfl) tx.xC Ft rfl) aC)))))))) ?_;refine aW (σ:=[some v]) rfl ?_;walk_at "w";refine dB (Fu ht) ?_;walk_at "w";refine xY (λh=>?_) (λh=>?_)
 ·walk_at "w";refine dB (gQ ht) ?_;walk_at "w";have e:(!(T == "bool"))=(T == "int"):=by cases ht <;> first|rfl|cases h
  rw[e];exact k
 ·have e:(T == "int")=false:=by cases ht <;> first|rfl|cases h
  rw[e] at k;exact k
inductive aA7  (K:W.Frag) (vs:List V) (H:Hp) (Q:VK) (E:XK):Prop
 |mk:∀v T,(vs=[v])->Th H v T->(Q (.bl (B8 v)) H)->aA7 K vs H Q E
theorem aA8(tx:Txt K mg a):cE P w K mg base hU 2 a.pO a.pP aga (aA7 K):=by
 have P8:=aCb (P:=P) (w:=w) (base:=base) tx;refine tx.fD.ok aFE (by walk_at "l") λbh A outer s H vs Q E hr h=>?_;obtain⟨v,T,rfl ,ht,k⟩:=h;have hu:=lT hr;refine bE (aG (aN (eF (ay P8 hr tx.Qe tx.tJ.kp tx.Qf (aA (aB 0) aC)) (eU (aBU DF DF aD (aB 0) (aK vC aD aD)))))) ?_;refine aW (σ:=[some v]) rfl ?_;walk_at "w";refine⟨v,T,rfl,ht,?_⟩;walk_at "w";refine xY (λh=>?_) (λh=>?_)
 ·cases ht with
  |int i=>
   walk_at "w";refine dA (λh1=>?_) (λh1=>?_)
   ·walk_at "w";have e:B8 (.int i)=decide (i<=10 ^ (12:Int).toNat):=by simp[B8,h1]
    rw[<-e];exact k
   ·have e:B8 (.int i)=false:=by simp[B8,h1]
    rw[e] at k;exact k
  |_=>cases h
 ·have e:B8 v=false:=by cases ht <;> first|rfl|cases h
  rw[e] at k;exact k
inductive aDA  (K:W.Frag) (vs:List V) (H:Hp) (Q:VK) (E:XK):Prop
 |mk:∀(i:Int),(vs=[.int i])->(1<=i)->(i<=12)->(Q (.bl true) H)->aDA K vs H Q E
theorem aIg(tx:Txt K mg a):cE P w K mg base hU 2 a.yI a.yJ aga (aDA K):=by
 have P8:=aCb (P:=P) (w:=w) (base:=base) tx;refine tx.yK.ok aIe (by walk_at "l") λbh A outer s H vs Q E hr h=>?_;obtain⟨i,rfl ,h1,h2,k⟩:=h;have hu:=lT hr;refine bE (aG (aN (eF (ay P8 hr tx.Qe tx.tJ.kp tx.Qf (aA (aB 0) aC)) (eU (aBU DF DF aD (aB 0) (aC6 (n:=12) (by rfl) tx.gX)))))) ?_;refine aW (σ:=[some (.int i)]) rfl ?_;walk_at "w";refine⟨_,_,rfl,.int i,?_⟩;walk_at "w";refine xY (λ_=>?_) (λh=>by simp at h);walk_at "w";refine dA (λ_=>?_) (λh=>absurd h1 h);walk_at "w";rw[zV h2];exact k
inductive aCc  (K:W.Frag) (vs:List V) (H:Hp) (Q:VK) (E:XK):Prop
 |mk:∀(q:Addr) (x y:Int),(vs=[.ref q])->(H q=some (.tup [.int x,.int y]))->(1<=x)->Am x->Am y->(Q (.bl true) H)->aCc K vs H Q E
theorem aG3(tx:Txt K mg a):cE P w K mg base hU 3 a.sY a.sZ aga (aCc K):=by
 have fW:=aA8 (P:=P) (w:=w) (base:=base) tx;refine tx.Qd.ok aGY (by walk_at "l") λbh A outer s H vs Q E hr h=>?_;obtain⟨q,x,y,rfl ,hq,h1,h2,h3,k⟩:=h;have hu:=lT hr;refine bE (aE (bD (gO (vL (eV (cK (aH (rc:=u7 K) cX (by rfl) tx.bL bP (aA (aB 0) (aA (cF (v:=.ty "tuple") (by rfl) tx.uC JX rfl) aC))))) (rL (aY (r:=ve K) (zY hu) (aH (rc:=jR K) bS (by rfl) tx.eO dH (aA (aB 0) aC)) aD (bN _))))) (aG (aN dI)) aU)
  (aG (aN (eF (ay fW hr tx.fV tx.fD.kp tx.fU (aA (aJ (K':=K) (aB 0) aD) aC)) (eF (cP aOr (aJ (K':=K) (aB 0) aD) aD (bN _)) (eU (ay fW hr tx.fV tx.fD.kp tx.fU (aA (aJ (K':=K) (aB 0) aD) aC)))))))) ?_
 refine aW (σ:=[some (.ref q)]) rfl ?_;walk_at "w";refine dB (rS (.tup hq)) ?_;walk_at "w";refine xY (λh=>by simp at h) (λ_=>?_);walk_at "w";refine JN (λh=>absurd rfl h) (λ_=>?_);walk_at "w";refine⟨_,_,rfl,.int x,?_⟩;rw[DL h2];walk_at "w";refine dA (λ_=>?_) (λh=>absurd h1 h);walk_at "w";refine⟨_,_,rfl,.int y,?_⟩;rw[DL h3];exact k
inductive zD  (K:W.Frag) (vs:List V) (H:Hp) (Q:VK) (E:XK):Prop
 |mk:∀(p:Addr) (ps:ar),(vs=[.ref p])->yV H p ps->aMo ps->(∀H',aO H H'->Q (.bl true) H')->zD K vs H Q E
theorem aEj(tx:Txt K mg a):cE P w K mg base hU 4 a.mT a.mU aga (zD K):=by
 have aIh:=aG3 (P:=P) (w:=w) (base:=base) tx;refine tx.tK.ok aEb (by walk_at "l") λbh A outer s H vs Q E hr h=>?_;obtain⟨p,ps,rfl ,hp,hg,k⟩:=h;have hu:=lT hr;refine bE (aE (bD (gO (vL (eV (cK (aH (rc:=u7 K) cX (by rfl) tx.bL bP (aA (aB 0) (aA (cF (v:=.ty "list") (by rfl) tx.mB mN rfl) aC))))) (rL (aY E9 (aH (rc:=jR K) bS (by rfl) tx.eO dH (aA (aB 0) aC)) (aC6 (n:=4) (by rfl) tx.kX) (bN _))))) (aG (aN dI)) aU)
  (aE (bD (eV (cK (aH (rc:=A6 K) (oB rfl) (by rfl) tx.Al DO (aA (bW (k:=1) (idx:=[]) (N:=["piece"]) (cU (sc:=aL iS) (NX:=aga) rfl rfl rfl (by decide +kernel)) rfl (bF (K':=K) (aB 0)) (λ_ _ _ _=>(aM (i:=0) (show(["piece"]:ak).Nodup by decide +kernel))) (cV (by decide)) (λ_ _ _ _=>bQ) (λ_ _ _ _=>(ay aIh hr tx.aDu tx.Qd.kp tx.aDt (aA (aB 0) aC)))) aC)))) (aG (aN dI)) aU)
  (aG (aN (aH (rc:=A6 K) (oB rfl) (by rfl) tx.Al DO (aA (bW (k:=1) (idx:=[0]) (N:=["at","thing"]) (cU (sc:=aL iS) (NX:=aga) rfl rfl rfl (by decide +kernel)) rfl (aD6 (by rfl) tx.eQ (aA aD (aA (aH (rc:=jR K) bS (by rfl) tx.eO dH (aA (aB 0) aC)) aC))) (λ_ _ _ _=>(aM (i:=0) (show(["at","thing"]:ak).Nodup by decide +kernel))) (cV (by decide)) (λ_ _ _ _=>bQ) (λ_ _ _ _=>(cP DF (aJ (K':=K) (aJ (K':=K) (aB 1) (aK hJ (aB 0) aD)) aD) (aJ (K':=K) (aJ (K':=K) (aB 1) (aB 0)) aD) (bN _)))) aC)))))) ?_
 obtain⟨qs,h1,h2⟩:=hp.ex;have hl:=hg.len;have LP:qs.length<=4:=by rw[h2.len];exact hl
 refine aW (σ:=[some (.ref p)]) rfl ?_;walk_at "w";refine dB (xD (.lst h1)) ?_;walk_at "w";refine xY (λh=>by simp at h) (λ_=>?_);walk_at "w";refine dA (λh=>by rw[bK] at h;lia) (λ_=>?_);walk_at "w";refine fA (bR.of h1) ?_;refine aEM (λ_=>.bl true) (bR.of h1) (bZ (by rw[bK];lia)) (λx N N' hxm hN=>?_) ?_
 ·obtain⟨q,hq,rfl⟩:=mD.mp hxm;obtain⟨t,ht,e⟩:=h2.at2 hq;obtain⟨g1,g2,g3⟩:=hg.pc t ht;walk_at "w";exact⟨q,t.1,t.2,rfl,e,g1,g2,g3,hN⟩
 ·intro l1 n1;walk_at "w";refine JM (bR.of aP) (λx hx=>by obtain⟨_,_,rfl⟩:=mD.mp hx;rfl) ?_;walk_at "w";have oj:=aO.new (o:=.lst ((qs.map V.ref).map λ_=>V.bl true)) n1 _ _ h1;have uw:=h2.same (aO.new (o:=.lst ((qs.map V.ref).map λ_=>V.bl true)) n1);walk_at "w";refine⟨⟨by lia,by lia,by lia,by rw[bK];lia⟩,?_⟩;rw[bK];refine aHC (λ_=>.bl true) (bZ (by lia)) (λi N N' hi hN=>?_) ?_
  ·have i1:i < qs.length:=by lia
   have i2:i+1 < qs.length:=by lia
   have j1:i < ps.length:=by rw[<-h2.len];exact i1
   have j2:i+1 < ps.length:=by rw[<-h2.len];exact i2
   have e1:pC (qs.map V.ref) (1+(i:Int) - 1)=some (.ref qs[i]):=by
    rw[show 1+(i:Int) - 1=(i:Int) by lia];exact cO (by rw[hE,cG i1];rfl)
   have e2:pC (qs.map V.ref) (1+(i:Int))=some (.ref qs[i+1]):=by
    rw[show 1+(i:Int)=((i+1:Nat):Int) by lia];exact cO (by rw[hE,cG i2];rfl)
   have t1:=uw.at_ i _ _ (cG i1) (cG j1);have t2:=uw.at_ (i+1) _ _ (cG i2) (cG j2);have t3:=hg.up i _ _ (cG j1) (cG j2);walk_at "w";rw[zV t3];exact hN
  ·intro l2 n2;walk_at "w";refine JM (bR.of aP) (λx hx=>by obtain⟨_,_,rfl⟩:=mD.mp hx;rfl) ?_;exact k _ ((aO.new n1).trans (aO.new n2))
inductive uR  (K:W.Frag) (C:Addr) (vs:List V) (H:Hp) (Q:VK) (E:XK):Prop
 |mk:∀(x dx pl:Addr) (m:MS),(vs=[.ref x,.int m.up,.int m.down,.int m.begin_,.int m.run,.int m.rest,.int m.least,.ref pl])->(H x=some (.ins C dx []))->yV H pl m.pieces->m.Good->(∀H',cQ C H' x m->bY x H H'->Q .ba H')->uR K C vs H Q E
theorem aCv(tx:Txt K mg a):cE P w K mg base hU 5 a.iX a.iY aja (uR K a.bH):=by
 have aFN:=aEj (P:=P) (w:=w) (base:=base) tx;have fW:=aA8 (P:=P) (w:=w) (base:=base) tx;have aE4:=aIg (P:=P) (w:=w) (base:=base) tx;refine tx.wA.ok fK (by walk_at "l") λbh A outer s H vs Q E hr h=>?_;obtain⟨x,dx,pl,m,rfl ,hx,hp,hg,k⟩:=h;have hu:=lT hr;refine bE (aE (aI (i:=8) fK.nd (yC (ay aE4 hr tx.PZ tx.yK.kp tx.P0 (aA (aB 1) aC)) (ay aE4 hr tx.PZ tx.yK.kp tx.P0 (aA (aB 2) aC))))
  (aE (aI (i:=9) fK.nd (aII (ay fW hr tx.fV tx.fD.kp tx.fU (aA (aB 3) aC)) (ay fW hr tx.fV tx.fD.kp tx.fU (aA (aB 4) aC)) (ay fW hr tx.fV tx.fD.kp tx.fU (aA (aB 5) aC)) (ay fW hr tx.fV tx.fD.kp tx.fU (aA (aB 6) aC))))
  (aE (bU PassesOwn.never rfl (vO (K':=K) (by rfl) tx.iH (aA (aK bX (aK bX (aB 8) (aB 9)) (j7 (ay aFN hr tx.aAN tx.tK.kp tx.aAM (aA (aB 7) aC)))) aC)) (dS (K':=K) (n:=2) rfl (bB (aM (i:=10) fK.nd) (bB (aM (i:=11) fK.nd) dC))) (aG (bD (eV (cK (aB 11))) (aG vN) aU)))
  (aE (hZ (K':=K) (aB 0) (aB 1) rfl)
  (aE (hZ (K':=K) (aB 0) (aB 2) rfl)
  (aE (hZ (K':=K) (aB 0) (aB 3) rfl)
  (aE (hZ (K':=K) (aB 0) (aB 4) rfl)
  (aE (hZ (K':=K) (aB 0) (aB 5) rfl)
  (aE (hZ (K':=K) (aB 0) (aB 6) rfl)
  (aG (hZ (K':=K) (aB 0) (fM (rc:=xZ K) sF (by rfl) tx.mB mN (aA (aB 7) aC)) rfl))))))))))) ?_
 refine aW (σ:=[some (.ref x),some (.int m.up),some (.int m.down),some (.int m.begin_),some (.int m.run),some (.int m.rest),some (.int m.least),some (.ref pl),none,none,none,none]) rfl ?_;walk_at "w";refine⟨_,rfl,hg.up.1,hg.up.2,?_⟩;walk_at "w";refine⟨_,rfl,hg.down.1,hg.down.2,?_⟩;walk_at "w";intro l1 n1;walk_at "w";refine⟨_,_,rfl,.int _,?_⟩;rw[DL hg.begin_];walk_at "w";refine⟨_,_,rfl,.int _,?_⟩;rw[DL hg.run];walk_at "w";refine⟨_,_,rfl,.int _,?_⟩;rw[DL hg.rest];walk_at "w";refine⟨_,_,rfl,.int _,?_⟩;rw[DL hg.least];walk_at "w";intro l2 n2;walk_at "w";refine xX (xs:=[.bl true,.bl true]) (zs:=[.bl true,.bl true,.bl true,.bl true]) (by walk_at "hp") aP (bZ (by simp)) ?_;intro l3 n3;walk_at "w";have s3:aO H (upd (upd (upd H l1 (.lst [.bl true,.bl true])) l2 (.lst [.bl true,.bl true,.bl true,.bl true])) l3 (.lst ([.bl true,.bl true] ++ [.bl true,.bl true,.bl true,.bl true]))):=((aO.new n1).trans (aO.new n2)).trans (aO.new n3)
 refine⟨pl,m.pieces,rfl,hp.same s3,hg.pieces,λH4 s4=>?_⟩;walk_at "w";intro l5 n5;walk_at "w";refine xX (xs:=[.bl true,.bl true] ++ [.bl true,.bl true,.bl true,.bl true]) (zs:=[.bl true]) (aO.new n5 _ _ (s4 _ _ aP)) aP (bZ (by simp)) ?_;intro l6 n6;walk_at "w";have s6:aO H (upd (upd H4 l5 (.lst [.bl true])) l6 (.lst (([.bl true,.bl true] ++ [.bl true,.bl true,.bl true,.bl true]) ++ [.bl true]))):=(s3.trans s4).trans ((aO.new n5).trans (aO.new n6));generalize hH6:upd (upd H4 l5 (.lst [.bl true])) l6 (.lst (([.bl true,.bl true] ++ [.bl true,.bl true,.bl true,.bl true]) ++ [.bl true]))=H6 at s6 ⊢;have e6:H6 l6=some (.lst [.bl true,.bl true,.bl true,.bl true,.bl true,.bl true,.bl true]):=by rw[<-hH6,aP];rfl
 refine Oi (bR.of e6) ?_;refine Pd (xs:=[.bl true,.bl true,.bl true,.bl true,.bl true,.bl true,.bl true]) (λi σ' H'=>∃y z,σ'=[some (.ref x),some (.int m.up),some (.int m.down),some (.int m.begin_),some (.int m.run),some (.int m.rest),some (.int m.least),some (.ref pl),some (.ref l1),some (.ref l2),y,z]/\aO H6 H')
  ⟨_,_,rfl,aO.refl _⟩ (λi σ' H' hi ⟨y,z,e,s⟩=>bR.of (s _ _ e6)) (λi v σ' H' T hv z9q nT=>?_) (λσ' H' SG=>?_)
 ·obtain⟨y,z,e,s⟩:=z9q;subst e;have ev:v=.bl true:=by
   have:=iI hv;simpa using this
  subst ev;refine gW (mE.of aP) rfl ?_;walk_at "w";exact⟨_,_,rfl,s.trans (aO.new nT)⟩
 ·obtain⟨y,z,e,s⟩:=SG;subst e;have sH:aO H H':=s6.trans s;have De:=sH _ _ hx;have Ad:=hp.same sH;obtain⟨qs,p1,p2⟩:=Ad.ex;walk_at "w";refine z0 (fs':=[("up",.int m.up)]) De tx.cY tx.uA (by simp[yt]) rfl ?_;walk_at "w";refine z0 (fs':=[("up",.int m.up),("down",.int m.down)]) aP tx.cY tx.oW (by simp[yt]) rfl ?_;rw[Fs];walk_at "w";refine z0 (fs':=[("up",.int m.up),("down",.int m.down),("begin",.int m.begin_)]) aP tx.cY tx.lY (by simp[yt]) rfl ?_;rw[Fs];walk_at "w";refine z0 (fs':=[("up",.int m.up),("down",.int m.down),("begin",.int m.begin_),("run",.int m.run)]) aP tx.cY tx.rF (by simp[yt]) rfl ?_;rw[Fs];walk_at "w";refine z0 (fs':=[("up",.int m.up),("down",.int m.down),("begin",.int m.begin_),("run",.int m.run),("rest",.int m.rest)]) aP tx.cY tx.oX (by simp[yt]) rfl ?_;rw[Fs];walk_at "w";refine z0 (fs':=[("up",.int m.up),("down",.int m.down),("begin",.int m.begin_),("run",.int m.run),("rest",.int m.rest),("least",.int m.least)]) aP tx.cY tx.lZ (by simp[yt]) rfl ?_
  rw[Fs];walk_at "w";have px:pl≠x:=λz=>by rw[z,De] at p1;cases p1
  refine JW (ys:=qs.map V.ref) (bR.of (by rw[aS px];exact p1)) ?_;intro l9 n9;walk_at "w";have x9:x≠l9:=bJ n9 aP;walk_at "w";refine z0 (fs':=yt m l9) (by rw[aS x9];exact aP) tx.cY tx.jZ (by simp[yt]) rfl ?_;walk_at "w";refine k _ ⟨dx,l9,aP,qs,?_,p2.len,λj q t h1 h2=>?_⟩ (λb o e nb=>?_)
  ·rw[aS (Ne.symm x9),aP]
  ·have e:=p2.at_ j q t h1 h2;have qx:q≠x:=λz=>by rw[z,De] at e;cases e
   have q9:q≠l9:=bJ n9 (by rw[aS qx];exact e);rw[aS qx,aS q9,aS qx];exact e
  ·have e1:=sH _ _ e;have b9:b≠l9:=bJ n9 (by rw[aS nb];exact e1);rw[aS nb,aS b9,aS nb];exact e1
structure Cs(ps:ar)(r:Int):Prop where
 pc:∀t∈ps,1<=t.1/\Am t.1/\Am t.2
 up:∀(j:Nat) t u,ps[j]?=some t->ps[j+1]?=some u->t.2<=u.2
 top:∀t∈ps,t.2<=r
theorem Cs.nil{r:Int}:Cs [] r:=⟨λ_ h=>by simp at h,λj t u h=>by simp at h,λ_ h=>by simp at h⟩
theorem Cs.snoc{ps:ar}{r r' a:Int}(w:Cs ps r)(hr:r<=r')(h1:1<=a)(h2:Am a)(h3:Am r'):Cs (ps ++ [(a,r')]) r':=by
 refine⟨λt h=>?_,λj t u ht hu=>?_,λt h=>?_⟩
 ·rcases iy.mp h with h|h
  ·exact w.pc t h
  ·rw[ff.mp h];exact⟨h1,h2,h3⟩
 ·have dk:j+1 < (ps ++ [(a,r')]).length:=(g0.mp hu).1;rw[uN,Ar] at dk;have hj:j < ps.length:=by lia
  rw[kr hj] at ht;by_cases BX:j+1 < ps.length
  ·rw[kr BX] at hu;exact w.up j t u ht hu
  ·rw[nu (by lia),show j+1 - ps.length=0 by lia] at hu;cases hu;exact Int.le_trans (w.top t (iI ht)) hr
 ·rcases iy.mp h with h|h
  ·exact Int.le_trans (w.top t h) hr
  ·rw[ff.mp h];exact Int.le_refl _
theorem xF.snoc{ss:ar}{t:ae}(h:xF H qs ss)(hl:H l=some (.lst xs))(k:bY l H H3)(hT:H3 T=some (.tup [.int t.1,.int t.2])):xF H3 (qs ++ [T]) (ss ++ [t]):=by
 refine⟨by rw[uN,uN,h.len];rfl,λj q u hq hu=>?_⟩;by_cases hj:j < qs.length
 ·rw[kr hj] at hq;rw[kr (by rw[<-h.len];exact hj)] at hu;have e:=h.at_ j q u hq hu;refine k q _ e λz=>?_;rw[z,hl] at e;cases e
 ·have dk:j < (qs ++ [T]).length:=(g0.mp hq).1;rw[uN,Ar] at dk;have e:j=qs.length:=by lia
  subst e;rw[nu (d7 _),ou] at hq;rw[h.len,nu (d7 _),ou] at hu;cases hq;cases hu;exact hT
theorem bG.aRF{qs:ah}(h:bG H p)(e:H c=some (.lst (qs.map V.ref))):c≠p:=λz=>by
 obtain⟨d,cc,q,ms,hp,_⟩:=h.ex;rw[z,hp] at e;cases qs with
 |nil=>cases e
 |cons x xs=>cases e
theorem bG.E1{xs:List V}(h:bG H p)(e:H c=some (.lst xs))(hl:xs.length≠3):c≠p:=λz=>by
 obtain⟨d,cc,q,ms,hp,_⟩:=h.ex;rw[z,hp] at e;cases e;exact hl rfl
theorem bG.HI{H:Hp}(h:bG H p):∃xs,H p=some (.lst xs):=by
 obtain⟨d,cc,q,ms,hp,_⟩:=h.ex;exact⟨_,hp⟩
theorem PJ(k:bY p H H')(hh:bG H' p)(n:H' c=none):H c=none:=by
 cases hc:H c with
 |none=>rfl
 |some v=>
  obtain⟨xs,e⟩:=hh.HI;exact absurd rfl (bJ n (k c v hc (λz=>bJ n e z.symm)))
theorem EZ{x r n B:Int}(x0:1<=x)(x1:x<=50000000000)(a:0<=r)(c:r < n)(h:50000000000*(n - 1)<=B):0<=x*r/\x*r<=B:=
 ⟨Int.mul_nonneg (by lia) a,Int.le_trans (Int.mul_le_mul x1 (show r<=n - 1 by lia) a (by lia)) h⟩
theorem aRG{x u n B:Int}(x0:1<=x)(x1:x<=50000000000)(a:0<=u)(c:u < n)(h:50000000000*n<=B):x<=x*(1+u)/\x*(1+u)<=B:=
 ⟨by have:=Int.mul_le_mul_of_nonneg_left (show 1<=1+u by lia) (show 0<=x by lia);rw[Int.mul_one] at this;exact this,Int.le_trans (Int.mul_le_mul x1 (show 1+u<=n by lia) (by lia) (by lia)) h⟩
theorem up1{r n:Int}(a:0<=r)(c:r < n)(n1:n<=12):(1<=1+r/\1+r<=12)/\1+r<=n:=by lia
theorem IG{z:Int}(h:0<=z/\z<=250000000000):Am z:=⟨h.1,by have:=h.2;lia⟩
theorem Ho{cz z:Int}{i:Nat}(f5:0<=cz)(f6:cz<=(i:Int)*100000000000)(g:0<=z/\z<=100000000000)(i4:i<=3):cz<=cz+z/\Am (cz+z)/\0<=cz+z/\cz+z<=((i+1:Nat):Int)*100000000000:=⟨by lia,⟨by lia,by lia⟩,by lia,by lia⟩
theorem xB{x z:Int}(x0:1<=x)(g:x<=z/\z<=150000000000):1<=z/\Am z:=⟨by lia,⟨by lia,by lia⟩⟩
inductive aA9  (K:W.Frag) (vs:List V) (H:Hp) (Q:VK) (E:XK):Prop
 |mk:∀(p b:Addr) (x y n:Int),(vs=[.ref p,.ref b,.int n])->bG H p->(H b=some (.lst [.int x,.int y]))->(1<=x)->(x<=50000000000)->(1<=y)->(y<=50000000000)->(1<=n)->(n<=12)->(∀(s:Addr) (m:MS) H',d9 H' s m->m.Good->m.up<=n->m.down<=n->bG H' p->bY p H H'->H s=none->Q (.ref s) H')->aA9 K vs H Q E
theorem aFO(tx:Txt K mg a):cE P w K mg base hU 2 a.pQ a.pR aza (aA9 K):=by
 have aT:=eR (P:=P) (w:=w) (base:=base) tx;refine tx.wC.ok dX (by walk_at "l") λbh A outer s H vs Q E hr h=>?_;obtain⟨p,b,x,y,n,rfl ,hh,hb,x0,x1,y0,y1,n0,n1,k⟩:=h;have hu:=lT hr;refine bE (aE (aI (i:=3) dX.nd (aK bX aD (ay aT hr tx.bA tx.aX.kp tx.aZ (aA (aB 0) (aA (aB 2) aC)))))
  (aE (aI (i:=4) dX.nd (aK bX aD (ay aT hr tx.bA tx.aX.kp tx.aZ (aA (aB 0) (aA (aB 2) aC)))))
  (aE (aI (i:=5) dX.nd (aIG (aK cT (aJ (K':=K) (aB 1) aD) (ay aT hr tx.bA tx.aX.kp tx.aZ (aA (aB 0) (aA aD aC)))) (aK cT (aJ (K':=K) (aB 1) aD) (ay aT hr tx.bA tx.aX.kp tx.aZ (aA (aB 0) (aA aD aC)))) (aK cT (aJ (K':=K) (aB 1) aD) (ay aT hr tx.bA tx.aX.kp tx.aZ (aA (aB 0) (aA aD aC))))))
  (aE (aI (i:=6) dX.nd (aK cT (aJ (K':=K) (aB 1) aD) (ay aT hr tx.bA tx.aX.kp tx.aZ (aA (aB 0) (aA aD aC)))))
  (aE (aI (i:=7) dX.nd aD)
  (aE (aI (i:=8) dX.nd (eW aC))
  (aE (bU PassesOwn.never rfl (cN (by rfl) tx.eQ (aA (ay aT hr tx.bA tx.aX.kp tx.aZ (aA (aB 0) (aA aD aC))) aC)) (aM (i:=9) dX.nd) (aE (aEO (i:=7) dX.nd rfl (Or.inl rfl) (aK cT (aJ (K':=K) (aB 1) aD) (ay aT hr tx.bA tx.aX.kp tx.aZ (aA (aB 0) (aA aD aC)))) OU)
  (aG (cW (dU (K':=K) (aB 8) (aA (dF (aK cT (aJ (K':=K) (aB 1) aD) (aK bX aD (ay aT hr tx.bA tx.aX.kp tx.aZ (aA (aB 0) (aA aD aC))))) (aB 7)) aC))))))
  (aG (aN (aNP (aB 3) (aB 4) (aJ (K':=K) (aB 5) aD) (aJ (K':=K) (aB 5) aD) (aJ (K':=K) (aB 5) aD) (aB 6) (aB 8))))))))))) ?_
 have bp:b≠p:=hh.E1 hb (by simp);refine aW (σ:=[some (.ref p),some (.ref b),some (.int n),none,none,none,none,none,none,none]) rfl ?_;walk_at "w";refine⟨p,_,rfl,hh,by lia,by lia,λr1 H1 a1 c1 h1 k1 _=>?_⟩;have hb1:=k1 _ _ hb bp;walk_at "w";refine⟨p,_,rfl,h1,by lia,by lia,λr2 H2 a2 c2 h2 k2 _=>?_⟩;have hb2:=k2 _ _ hb1 bp;walk_at "w";refine⟨p,_,rfl,h2,by decide,by decide,λr3 H3 a3 c3 h3 k3 _=>?_⟩;have hb3:=k3 _ _ hb2 bp;walk_at "w";refine⟨p,_,rfl,h3,by decide,by decide,λr4 H4 a4 c4 h4 k4 _=>?_⟩;have hb4:=k4 _ _ hb3 bp;walk_at "w";refine⟨p,_,rfl,h4,by decide,by decide,λr5 H5 a5 c5 h5 k5 _=>?_⟩;have hb5:=k5 _ _ hb4 bp;walk_at "w";intro l6 n6;walk_at "w";have hb6:=aO.new (o:=.lst [.int (y*r3),.int (y*r4),.int (y*r5)]) n6 _ _ hb5;have h6:=h5.same (aO.new (o:=.lst [.int (y*r3),.int (y*r4),.int (y*r5)]) n6);walk_at "w";refine⟨p,_,rfl,h6,by decide,by decide,λr7 H7 a7 c7 h7 k7 _=>?_⟩;have hb7:=k7 _ _ hb6 bp
 have HH:l6≠p:=λz=>by obtain⟨_,e⟩:=h5.HI;exact bJ n6 e z.symm
 have e7:H7 l6=some (.lst [.int (y*r3),.int (y*r4),.int (y*r5)]):=k7 _ _ aP HH;have kk7:bY p H H7:=k1.trans (k2.trans (k3.trans (k4.trans (k5.trans ((aO.new n6).keep.trans k7)))));have g3:0<=y*r3/\y*r3<=250000000000:=EZ y0 y1 a3 c3 (by decide);have g4:0<=y*r4/\y*r4<=250000000000:=EZ y0 y1 a4 c4 (by decide);have g5:0<=y*r5/\y*r5<=250000000000:=EZ y0 y1 a5 c5 (by decide);have g7:0<=x*r7/\x*r7<=250000000000:=EZ x0 x1 a7 c7 (by decide);walk_at "w";intro l8 n8;walk_at "w";have h8:=h7.same (aO.new (o:=.lst []) n8);walk_at "w";refine⟨p,_,rfl,h8,by decide,by decide,λr9 H9 a9 c9 h9 k9 _=>?_⟩;have l8p:l8≠p:=λz=>by obtain⟨_,e⟩:=h7.HI;exact bJ n8 e z.symm
 have e9:H9 l8=some (.lst []):=k9 _ _ aP l8p;have hb9:=k9 _ _ (aO.new n8 _ _ hb7) bp;have e69:H9 l6=some (.lst [.int (y*r3),.int (y*r4),.int (y*r5)]):=k9 _ _ (aO.new n8 _ _ e7) HH;have kk9:bY p H H9:=kk7.trans ((aO.new n8).keep.trans k9);have n8H:H l8=none:=PJ kk7 h7 n8;have n6H:H l6=none:=PJ (k1.trans (k2.trans (k3.trans (k4.trans k5)))) h5 n6;walk_at "w";refine⟨by lia,by lia,?_⟩;refine iO (λi σ' H'=>∃qs ps cz x9,σ'=[some (.ref p),some (.ref b),some (.int n),some (.int (1+r1)),some (.int (1+r2)),some (.ref l6),some (.int (x*r7)),some (.int cz),some (.ref l8),x9]/\H' l8=some (.lst (qs.map V.ref))/\xF H' qs ps/\ps.length=i/\Cs ps cz/\
   0<=cz/\cz<=(i:Int)*100000000000/\bG H' p/\bY p H H'/\H' b=some (.lst [.int x,.int y])/\H' l6=some (.lst [.int (y*r3),.int (y*r4),.int (y*r5)]))
  ⟨[],[],0,_,rfl,e9,⟨rfl,λj q t h=>by simp at h⟩,rfl,Cs.nil,by lia,by lia,h9,kk9,hb9,e69⟩
  (λi σ' H' hi SF=>?_) (λσ' H' SE=>?_)
 ·obtain⟨qs,ps,cz,x9,e,f1,f2,f3,f4,f5,f6,f7,f8,f9,f0⟩:=SF;subst e;have i4:i<=3:=by lia
  walk_at "w";refine aK8 rfl ?_;walk_at "w";refine⟨p,_,rfl,f7,by decide,by decide,λu1 J1 v1 w1 q1 t1 _=>?_⟩;have g1:0<=y*u1/\y*u1<=100000000000:=EZ y0 y1 v1 w1 (by decide);have LA:l8≠p:=f7.aRF f1;have d1:=t1 _ _ f1 LA;have d2:=f2.keep f7.qM t1;have d3:=t1 _ _ f9 bp;have d4:=t1 _ _ f0 HH;walk_at "w";refine hV (bR.of d1) ?_;walk_at "w";refine⟨p,_,rfl,q1,by decide,by decide,λu2 J2 v2 w2 q2 t2 _=>?_⟩;have g2:x<=x*(1+u2)/\x*(1+u2)<=150000000000:=aRG x0 x1 v2 w2 (by decide);have Ds:=t2 _ _ d1 LA;have EV:=d2.keep q1.qM t2;have ID:=t2 _ _ d3 bp;have IC:=t2 _ _ d4 HH;walk_at "w";intro T nT;walk_at "w";refine lU (xs:=qs.map V.ref) (aO.new nT _ _ Ds) (rT (by rw[bK,f2.len];lia:(qs.map V.ref).length < 1000) (bZ (by simp))) ?_;walk_at "w";have hT8:T≠l8:=Ne.symm (bJ nT Ds);have kz:bY l8 J2 (upd (upd J2 T (.tup [.int (x*(1+u2)),.int (cz+y*u1)])) l8 (.lst (qs.map V.ref ++ [.ref T]))):=(aO.new nT).keep.trans bY.upd
  refine⟨qs ++ [T],ps ++ [(x*(1+u2),cz+y*u1)],_,_,rfl,?_,EV.snoc Ds kz (by rw[aS hT8,aP]),by rw[uN,f3];rfl,f4.snoc (Ho f5 f6 g1 i4).1 (xB x0 g2).1 (xB x0 g2).2 (Ho f5 f6 g1 i4).2.1,(Ho f5 f6 g1 i4).2.2.1,(Ho f5 f6 g1 i4).2.2.2,?_,λc o hc Md=>?_,?_,?_⟩
  ·rw[aP,iJ];rfl
  ·obtain⟨dd,cc,q,ms,hp,hq,bj,oh⟩:=q2.ex;refine⟨⟨dd,cc,q,ms,kz _ _ hp (Ne.symm LA),kz _ _ hq (λz=>?_),bj,oh⟩⟩;rw[z,Ds] at hq;cases qs with
   |nil=>cases ms with
    |nil=>exact bj rfl
    |cons _ _=>cases hq
   |cons _ _=>cases ms with
    |nil=>exact bj rfl
    |cons _ _=>cases hq
  ·exact kz _ _ (t2 _ _ (t1 _ _ (f8 _ _ hc Md) Md) Md) (bJ n8H hc)
  ·exact kz _ _ ID (λz=>by rw[z,Ds] at ID;cases qs with
    |nil=>cases ID
    |cons _ _=>cases ID)
  ·exact kz _ _ IC (λz=>by rw[z,Ds] at IC;cases qs with
    |nil=>cases IC
    |cons _ _=>cases IC)
 ·obtain⟨qs,ps,cz,x9,e,f1,f2,f3,f4,f5,f6,f7,f8,f9,f0⟩:=SE;subst e;walk_at "w";intro s ns;walk_at "w";have hr9:r9.toNat<=4:=by lia
  refine k s ⟨1+r1,1+r2,y*r3,y*r4,y*r5,x*r7,ps⟩ _ ⟨l8,aP,qs,aO.new ns _ _ f1,f2.same (aO.new ns)⟩ ⟨(up1 a1 c1 n1).1,(up1 a2 c2 n1).1,IG g3,IG g4,IG g5,IG g7,⟨by show ps.length<=4;lia,f4.pc,f4.up⟩⟩ (up1 a1 c1 n1).2 (up1 a2 c2 n1).2 (f7.same (aO.new ns)) (f8.trans (aO.new ns).keep) (PJ f8 f7 ns)
inductive uS  (K:W.Frag) (C:Addr) (vs:List V) (H:Hp) (Q:VK) (E:XK):Prop
 |mk:∀(s:Addr) (m:MS),(vs=[.ref s])->d9 H s m->m.Good->(∀x H',cQ C H' x m->aO H H'->H x=none->Q (.ref x) H')->uS K C vs H Q E
theorem aCw(tx:Txt K mg a):cE P w K mg base hU 7 a.iZ a.i0 a8a (uS K a.bH):=by
 have aDC:=aCv (P:=P) (w:=w) (base:=base) tx;refine tx.oQ.ok aCu (by walk_at "l") λbh A outer s H vs Q E hr h=>?_;obtain⟨s,m,rfl ,hs,hg,k⟩:=h;have hu:=lT hr;refine bE (aG (aN (aGz tx.aE2 (aDC) (hr.mono (by decide)) (by rfl) tx.aE1 tx.wB .nil aV (aA (aJ (K':=K) (aB 0) aD) (aA (aJ (K':=K) (aB 0) aD) (aA (aJ (K':=K) (aB 0) aD) (aA (aJ (K':=K) (aB 0) aD) (aA (aJ (K':=K) (aB 0) aD) (aA (aJ (K':=K) (aB 0) aD) (aA (fM (rc:=xZ K) sF (by rfl) tx.mB mN (aA (aJ (K':=K) (aB 0) aD) aC)) aC)))))))))) ?_;obtain⟨pl,h1,h2⟩:=hs.ex;obtain⟨qs,h3,h4⟩:=h2.ex;refine aW (σ:=[some (.ref s)]) rfl ?_;walk_at "w";refine JW (bR.of h3) ?_;intro l n;walk_at "w";intro x dx nx nd hd;have sx:aO H (upd (upd (upd H l (.lst (qs.map V.ref))) dx (.own x)) x (.ins a.bH dx [])):=λb o e=>by
  have e1:=aO.new (o:=.lst (qs.map V.ref)) n _ _ e;rw[aS (bJ nx e1),aS (bJ nd e1)];exact e1
 have lx:l≠x:=bJ nx aP;have ld:l≠dx:=bJ nd aP;refine⟨x,dx,l,m,rfl,aP,⟨qs,by rw[aS lx,aS ld,aP],h4.same sx⟩,hg,λH' hM kx=>⟨rfl,?_⟩⟩;have nxH:H x=none:=(aO.new n).free nx;exact k x H' hM (λb o e=>kx _ _ (sx _ _ e) (bJ nxH e)) nxH
theorem bG.IL(hh:bG H p)(n:H c=none):c≠p:=λz=>by
 obtain⟨xs,e⟩:=hh.HI;exact bJ n e z.symm
def uD(H:Hp):Nat->V->V->Prop
 |0,_,_=>False
 |j+1,x,y=>(∃i,x=.int i/\y=.int i)\/(∃b,x=.bl b/\y=.bl b)\/(x=.ba/\y=.ba)\/(∃s,x=.str s/\y=.str s)\/
  ∃(p q:Addr) (xs ys:List V),x=.ref p/\y=.ref q/\((H p=some (.tup xs)/\H q=some (.tup ys))\/(H p=some (.lst xs)/\H q=some (.lst ys)))/\xs.length=ys.length/\ys.length<=1000000/\∀(i:Nat) u v,xs[i]?=some u->ys[i]?=some v->uD H j u v
theorem uD.same(s:aO H H'):∀{j:Nat}{x y:V},uD H j x y->uD H' j x y
 |0,_,_,h=>h
 |j+1,x,y,h=>by
  rcases h with h|h|h|h|⟨p,q,xs,ys,e1,e2,e3,e4,e5,e6⟩
  ·exact .inl h
  ·exact .inr (.inl h)
  ·exact .inr (.inr (.inl h))
  ·exact .inr (.inr (.inr (.inl h)))
  ·refine .inr (.inr (.inr (.inr ⟨p,q,xs,ys,e1,e2,?_,e4,e5,λi u v hu hv=>uD.same s (e6 i u v hu hv)⟩)));rcases e3 with ⟨a,b⟩|⟨a,b⟩
   ·exact .inl ⟨s _ _ a,s _ _ b⟩
   ·exact .inr ⟨s _ _ a,s _ _ b⟩
theorem uD.int{j:Nat}(i:Int):uD H (j+1) (.int i) (.int i):=.inl ⟨i,rfl,rfl⟩
theorem uD.pair{j:Nat}{x y:Int}(h1:H p=some (.tup [.int x,.int y]))(h2:H q=some (.tup [.int x,.int y])):uD H (j+2) (.ref p) (.ref q):=by
 refine .inr (.inr (.inr (.inr ⟨p,q,_,_,rfl,rfl,.inl ⟨h1,h2⟩,rfl,by simp,λi u v hu hv=>?_⟩)));rw[hu] at hv;cases hv
 match i,hu with
 |0,hu=>cases hu;exact uD.int x
 |1,hu=>cases hu;exact uD.int y
 |_+2,hu=>simp at hu
inductive uE  (K:W.Frag) (j:Nat) (vs:List V) (H:Hp) (Q:VK) (E:XK):Prop
 |mk:∀(x y:V),(vs=[x,y])->uD H j x y->(∀H',aO H H'->Q (.bl true) H')->uE K j vs H Q E
theorem xG(h:uE K 0 vs H Q E):False:=by
 obtain⟨_,_,_,h,_⟩:=h;exact h
theorem aBa(tx:Txt K mg a):(j:Nat)->cE P w K mg base hU (j+1) a.pT a.pU aEa (uE K j)
 |0=>⟨λvs H Q E h=>(xG h).elim,λA outer s H args us vs Q E _ _ _ _ h=>(xG h).elim⟩
 |j+1=>by
  have lP:=aBa (P:=P) (w:=w) (base:=base) tx j;refine tx.iG.ok aFF (by walk_at "l") λbh A outer s H vs Q E hr h=>?_;obtain⟨x,y,rfl ,hs,k⟩:=h;have hu:=lT hr;refine bE (aE (bD (cK (aH (rc:=Oh K) aJL (by rfl) tx.bL bP (aA (aB 1) (aA (dF (cF (v:=.ty "list") (by rfl) tx.mB mN rfl) (cF (v:=.ty "tuple") (by rfl) tx.uC JX rfl)) aC)))) (aE (bD (gO (vL (aY (r:=ve K) (zY hu) (aH (rc:=u7 K) cX (by rfl) tx.bL bP (aA (aB 0) (aA (cF (v:=.ty "list") (by rfl) tx.mB mN rfl) aC))) (aH (rc:=u7 K) cX (by rfl) tx.bL bP (aA (aB 1) (aA (cF (v:=.ty "list") (by rfl) tx.mB mN rfl) aC))) (bN _)) (rL (aY (r:=ve K) (zY hu) (aH (rc:=u7 K) cX (by rfl) tx.bL bP (aA (aB 0) (aA (cF (v:=.ty "tuple") (by rfl) tx.uC JX rfl) aC))) (aH (rc:=u7 K) cX (by rfl) tx.bL bP (aA (aB 1) (aA (cF (v:=.ty "tuple") (by rfl) tx.uC JX rfl) aC))) (bN _))))) (aG (aN dI)) aU)
   (aG (aN (eF (cP (r:=iN K) (dR hu) (aH (rc:=jR K) bS (by rfl) tx.eO dH (aA (aB 0) aC)) (aH (rc:=jR K) bS (by rfl) tx.eO dH (aA (aB 1) aC)) (bN _)) (eU (aH (rc:=A6 K) (oB rfl) (by rfl) tx.Al DO (aA (bW (k:=1) (idx:=[1,0]) (N:=bga) (cU (sc:=aL pF) (NX:=aEa) rfl rfl rfl (by decide +kernel)) rfl (cN (by rfl) tx.eQ (aA (aH (rc:=jR K) bS (by rfl) tx.eO dH (aA (aB 1) aC)) aC)) (λ_ _ _ _=>(aM (i:=0) (show(bga:ak).Nodup by decide +kernel))) (cV (by decide)) (λ_ _ _ _=>bQ) (λ_ _ _ _=>(aF (lP) (hr.mono (by lia)) (by rfl) tx.lN tx.iG.kp tx.lM .nil aV (aA (aJ (K':=K) (aB 2) (aB 0)) (aA (aJ (K':=K) (aB 1) (aB 0)) aC))))) aC))))))) aU)
   (aE (bD (gO (vL (cK (aH (rc:=u7 K) cX (by rfl) tx.bL bP (aA (aB 0) (aA (cF (v:=.ty "bool") (by rfl) tx.xC Ft rfl) aC)))) (rL (cK (aH (rc:=u7 K) cX (by rfl) tx.bL bP (aA (aB 1) (aA (cF (v:=.ty "bool") (by rfl) tx.xC Ft rfl) aC))))))) (aG (aN (eF (aH (rc:=u7 K) cX (by rfl) tx.bL bP (aA (aB 0) (aA (cF (v:=.ty "bool") (by rfl) tx.xC Ft rfl) aC))) (eF (aH (rc:=u7 K) cX (by rfl) tx.bL bP (aA (aB 1) (aA (cF (v:=.ty "bool") (by rfl) tx.xC Ft rfl) aC))) (eU (cP (r:=iN K) (dR hu) (aB 0) (aB 1) (bN _))))))) aU)
   (aE (bD (cK (aH (rc:=u7 K) cX (by rfl) tx.bL bP (aA (aB 1) (aA (cF (v:=.ty "int") (by rfl) tx.DI O5 rfl) aC)))) (aG (aN (eF (aH (rc:=u7 K) cX (by rfl) tx.bL bP (aA (aB 0) (aA (cF (v:=.ty "int") (by rfl) tx.DI O5 rfl) aC))) (eU (cP (r:=iN K) (dR hu) (aB 0) (aB 1) (bN _)))))) aU)
   (aE (bD (cK (aH (rc:=u7 K) cX (by rfl) tx.bL bP (aA (aB 1) (aA (cF (v:=.ty "str") (by rfl) tx.Fd aK2 rfl) aC)))) (aG (aN (eF (aH (rc:=u7 K) cX (by rfl) tx.bL bP (aA (aB 0) (aA (cF (v:=.ty "str") (by rfl) tx.Fd aK2 rfl) aC))) (eU (cP (r:=iN K) (dR hu) (aB 0) (aB 1) (bN _)))))) aU)
   (aG (aN (eF (cP O3 (aB 0) iF (bN _)) (eU (cP O3 (aB 1) iF (bN _)))))))))) ?_
  refine aW (σ:=[some x,some y]) rfl ?_;repeat walk_at "gs"
  intro T nT;repeat walk_at "gs"
  rcases hs with ⟨i,rfl,rfl⟩|⟨b,rfl,rfl⟩|⟨rfl,rfl⟩|⟨z,rfl,rfl⟩|⟨p,q,xs,ys,rfl,rfl,e3,e4,e5,e6⟩
  ·refine x8 (Ts:=["list","tuple"]) aP (.int i) rfl ?_;repeat walk_at "gs"
   refine dB (gQ (.int i)) ?_;repeat walk_at "gs"
   refine dB (gQ (.int i)) ?_;repeat walk_at "gs"
   refine dB (Fu (.int i)) ?_;repeat walk_at "gs"
   refine dB (Fu (.int i)) ?_;repeat walk_at "gs"
   rw[zV rfl];exact k _ (aO.new nT)
  ·refine x8 (Ts:=["list","tuple"]) aP (.bl b) rfl ?_;repeat walk_at "gs"
   refine dB (gQ (.bl b)) ?_;repeat walk_at "gs"
   refine dB (gQ (.bl b)) ?_;repeat walk_at "gs"
   refine dB (gQ (.bl b)) ?_;repeat walk_at "gs"
   rw[show eqV (.bl b) (.bl b)=true by cases b <;> rfl];exact k _ (aO.new nT)
  ·refine x8 (Ts:=["list","tuple"]) aP .ba rfl ?_;repeat walk_at "gs"
   refine dB (gQ .ba) ?_;repeat walk_at "gs"
   refine dB (gQ .ba) ?_;repeat walk_at "gs"
   refine dB (Fu .ba) ?_;repeat walk_at "gs"
   refine dB (Po .ba) ?_;repeat walk_at "gs"
   exact k _ (aO.new nT)
  ·refine x8 (Ts:=["list","tuple"]) aP (.str z) rfl ?_;repeat walk_at "gs"
   refine dB (gQ (.str z)) ?_;repeat walk_at "gs"
   refine dB (gQ (.str z)) ?_;repeat walk_at "gs"
   refine dB (Fu (.str z)) ?_;repeat walk_at "gs"
   refine dB (Po (.str z)) ?_;repeat walk_at "gs"
   refine dB (Po (.str z)) ?_;repeat walk_at "gs"
   rw[show eqV (.str z) (.str z)=true from beq_self_eq_true z];exact k _ (aO.new nT)
  ·have sT:=aO.new (o:=.tup [.ty "list",.ty "tuple"]) nT;have hb:∃L:List V->Bool,True:=⟨λ_=>true,trivial⟩
   rcases e3 with ⟨a1,a2⟩|⟨a1,a2⟩
   ·have c1:=sT _ _ a1;have c2:=sT _ _ a2;generalize Mo:upd H T (.tup [.ty "list",.ty "tuple"])=H1 at c1 c2 sT ⊢;have eT:H1 T=some (.tup [.ty "list",.ty "tuple"]):=by rw[<-Mo];exact aP
    refine x8 (Ts:=["list","tuple"]) eT (.tup c2) rfl ?_;repeat walk_at "gs"
    refine dB (xD (.tup c1)) ?_;repeat walk_at "gs"
    refine dB (xD (.tup c2)) ?_;repeat walk_at "gs"
    refine dB (rS (.tup c1)) ?_;repeat walk_at "gs"
    refine dB (rS (.tup c2)) ?_;repeat walk_at "gs"
    refine dA (λ_=>?_) (λh=>absurd (by rw[e4]) h);repeat walk_at "gs"
    refine⟨by lia,by lia,?_⟩;refine sD (λi zs H'=>aO H1 H'/\zs.length=i/\∀z∈zs,z=.bl true) ⟨aO.refl _,rfl,λz h=>by simp at h⟩ (bZ (by lia)) (λi zs H' hi ⟨_,h,_⟩=>by lia) (λi zs H' hi SD=>?_) (λzs H' SA=>?_)
    ·obtain⟨s1,h1,h2⟩:=SD;have jv:i < ys.length:=by lia
     have Ey:i < xs.length:=by lia
     have g1:pC xs (0+(i:Int))=some xs[i]:=by rw[Fw];exact cO (cG Ey)
     have g2:pC ys (0+(i:Int))=some ys[i]:=by rw[Fw];exact cO (cG jv)
     have d1:=s1 _ _ c1;have d2:=s1 _ _ c2;repeat walk_at "gs"
     refine⟨_,_,rfl,uD.same (sT.trans s1) (e6 i _ _ (cG Ey) (cG jv)),λH2 s2=>?_⟩;refine⟨s1.trans s2,by rw[uN,h1];rfl,λz hz=>?_⟩;rcases iy.mp hz with h|h
     ·exact h2 z h
     ·exact ff.mp h
    ·obtain⟨s1,h1,h2⟩:=SA;intro L nL;repeat walk_at "gs"
     refine JM (bR.of aP) h2 ?_;exact k _ ((sT.trans s1).trans (aO.new nL))
   ·have c1:=sT _ _ a1;have c2:=sT _ _ a2;generalize Mo:upd H T (.tup [.ty "list",.ty "tuple"])=H1 at c1 c2 sT ⊢;have eT:H1 T=some (.tup [.ty "list",.ty "tuple"]):=by rw[<-Mo];exact aP
    refine x8 (Ts:=["list","tuple"]) eT (.lst c2) rfl ?_;repeat walk_at "gs"
    refine dB (xD (.lst c1)) ?_;repeat walk_at "gs"
    refine dB (xD (.lst c2)) ?_;repeat walk_at "gs"
    refine dB (rS (.lst c1)) ?_;repeat walk_at "gs"
    refine dB (rS (.lst c2)) ?_;repeat walk_at "gs"
    refine dA (λ_=>?_) (λh=>absurd (by rw[e4]) h);repeat walk_at "gs"
    refine⟨by lia,by lia,?_⟩;refine sD (λi zs H'=>aO H1 H'/\zs.length=i/\∀z∈zs,z=.bl true) ⟨aO.refl _,rfl,λz h=>by simp at h⟩ (bZ (by lia)) (λi zs H' hi ⟨_,h,_⟩=>by lia) (λi zs H' hi Sz=>?_) (λzs H' Sy=>?_)
    ·obtain⟨s1,h1,h2⟩:=Sz;have jv:i < ys.length:=by lia
     have Ey:i < xs.length:=by lia
     have g1:pC xs (0+(i:Int))=some xs[i]:=by rw[Fw];exact cO (cG Ey)
     have g2:pC ys (0+(i:Int))=some ys[i]:=by rw[Fw];exact cO (cG jv)
     have d1:=s1 _ _ c1;have d2:=s1 _ _ c2;repeat walk_at "gs"
     refine⟨_,_,rfl,uD.same (sT.trans s1) (e6 i _ _ (cG Ey) (cG jv)),λH2 s2=>?_⟩;refine⟨s1.trans s2,by rw[uN,h1];rfl,λz hz=>?_⟩;rcases iy.mp hz with h|h
     ·exact h2 z h
     ·exact ff.mp h
    ·obtain⟨s1,h1,h2⟩:=Sy;intro L nL;repeat walk_at "gs"
     refine JM (bR.of aP) h2 ?_;exact k _ ((sT.trans s1).trans (aO.new nL))
def aRH:ar->Int
 |[]=>0
 |t::ps=>t.1+aRH ps
def gn(p:Int):ar->Int
 |[]=>0
 |t::ps=>t.1*max (p - t.2) 0+gn p ps
def Up:ar->Prop
 |[]=>True
 |t::ps=>1<=t.1/\(∀u∈ps,t.2<=u.2)/\Up ps
theorem aMr{p:Int}:∀(a:ar) (t:ae),gn p (a ++ [t])=gn p a+t.1*max (p - t.2) 0
 |[],t=>by show t.1*max (p - t.2) 0+0=0+t.1*max (p - t.2) 0;lia
 |u::a,t=>by
  show u.1*max (p - u.2) 0+gn p (a ++ [t])=u.1*max (p - u.2) 0+gn p a+t.1*max (p - t.2) 0;rw[aMr a t];lia
theorem aMs{p:Int}:∀(ps:ar),List.sum (ps.filterMap λt=>some (max 0 (p - t.2)*t.1))=gn p ps
 |[]=>rfl
 |t::ps=>by
  rw[DY];show List.sum (max 0 (p - t.2)*t.1::_)=t.1*max (p - t.2) 0+gn p ps;rw[List.sum_cons,aMs ps,Int.mul_comm,show max 0 (p - t.2)=max (p - t.2) 0 by lia]
theorem aMt{H:Hp}{qs:ah}{ps:ar}{g:TG}{R:List V->Hp->Prop}(f:ae->Option Int)(h1:H pl=some (.lst (qs.map V.ref)))(h2:xF H qs ps)(hz:ps.length<=4)(hs:∀q t (N:V->Hp->Prop) (N':Hp->Prop),t∈ps->H q=some (.tup [.int t.1,.int t.2])->(∀y,f t=some y->N (.int y) H)->(f t=none->N' H)->g (.ref q) σ₀ H λσ2 H2=>tt σ2 H2 λb H3=>if b=true then te σ2 H3 λy H4=>N y H4 else N' H3)(hd:R ((ps.filterMap f).map V.int) H):lR (ud K pl) σ₀ g tt te R H:=by
 have LP:qs.length<=4:=by rw[h2.len];exact hz
 refine cM (xs:=qs.map V.ref) (λi ys H'=>H'=H/\ys=((ps.take i).filterMap f).map V.int) ⟨rfl,by simp⟩ (bZ (by rw[bK];lia)) (λi ys H' hi Sx=>?_) (λi x ys H' hx Sw=>?_) (λys H' Sv=>?_)
 ·obtain⟨e1,e2⟩:=Sx;subst e1 e2;refine⟨bR.of h1,?_⟩;rw[bK];exact gj (List.length_filterMap_le ..) (by rw[xT];lia)
 ·obtain⟨e1,e2⟩:=Sw;subst e1 e2;rw[hE] at hx;cases hq:qs[i]? with
  |none=>rw[hq] at hx;cases hx
  |some q=>
   rw[hq] at hx;cases hx;have li:i < ps.length:=by rw[<-h2.len];exact(g0.mp hq).1
   have ht:ps[i]?=some ps[i]:=cG li;have e:=h2.at_ i q _ hq ht;have hm:=lu li;generalize ps[i]=t at ht e hm;refine hs q t (λy H4=>H4=H'/\((ps.take i).filterMap f).map V.int ++ [y]=((ps.take (i+1)).filterMap f).map V.int) (λH3=>H3=H'/\((ps.take i).filterMap f).map V.int=((ps.take (i+1)).filterMap f).map V.int) hm e (λy hy=>⟨rfl,?_⟩) (λhy=>⟨rfl,?_⟩)
   ·rw[xb,ht,Qr,iJ];simp[hy]
   ·rw[xb,ht,Qr,iJ];simp[hy]
 ·obtain⟨e1,e2⟩:=Sv;subst e1 e2;rw[bK,h2.len,fe];exact hd
inductive uT  (K:W.Frag) (C:Addr) (vs:List V) (H:Hp) (Q:VK) (E:XK):Prop
 |mk:∀(x:Addr) (m:MS) (pr:Int),(vs=[.ref x,.int pr])->cQ C H x m->m.Good->(0<=pr)->(pr<=1000000000001)->(Q (.int (pr*m.least+gn pr m.pieces)) H)->uT K C vs H Q E
theorem aCx(tx:Txt K mg a):cE P w K mg base hU 1 a.jA a.jB bea (uT K a.bH):=by
 refine tx.wH.ok fL (by walk_at "l") λbh A outer s H vs Q E hr h=>?_;obtain⟨x,m,pr,rfl ,hm,hg,p0,p1,k⟩:=h;have hu:=lT hr;refine bE (aE (aI (i:=2) fL.nd (aK cT (aB 1) (hX (K':=K) (aB 0) rfl)))
  (aE (bU PassesOwn.never rfl (bF (K':=K) (hX (K':=K) (aB 0) rfl)) (dS (K':=K) (n:=2) rfl (bB (aM (i:=3) fL.nd) (bB (aM (i:=4) fL.nd) dC))) (aG (aEO (i:=2) fL.nd rfl (Or.inl rfl) (aK cT (aB 3) (aH (oA rfl) (by rfl) tx.Ak DP (aA (aK hJ (aB 1) (aB 4)) (aA aD aC)))) OU)))
  (aG (aN (aB 2))))) ?_
 obtain⟨dx,pl,hx,hp⟩:=hm.ex;obtain⟨qs,h1,h2⟩:=hp.ex;refine aW (σ:=[some (.ref x),some (.int pr),none,none,none]) rfl ?_;walk_at "w";refine Ck hx tx.cY tx.lZ rfl ?_;walk_at "w";refine Ck hx tx.cY tx.jZ rfl ?_;refine fA (bR.of h1) ?_;refine sG (xs:=qs.map V.ref) (λi σ' H'=>H'=H/\∃y z,σ'=[some (.ref x),some (.int pr),some (.int (pr*m.least+gn pr (m.pieces.take i))),y,z]) ⟨rfl,_,_,by rw[show gn pr (m.pieces.take 0)=0 by simp[gn],Int.add_zero]⟩ (λi σ' H' hi ⟨e1,y,z,e⟩=>by subst e1;exact bR.of h1) (λi v σ' H' hv Su=>?_) (λσ' H' Ss=>?_)
 ·obtain⟨e1,y,z,e⟩:=Su;subst e1 e;rw[hE] at hv;cases hq:qs[i]? with
  |none=>rw[hq] at hv;cases hv
  |some q=>
   rw[hq] at hv;cases hv;have li:i < m.pieces.length:=by rw[<-h2.len];exact(g0.mp hq).1
   have ht:m.pieces[i]?=some m.pieces[i]:=cG li;have e:=h2.at_ i q _ hq ht;obtain⟨z1,⟨z2,z3⟩,z4,z5⟩:=hg.pieces.pc _ (lu li);generalize m.pieces[i]=t at ht e z1 z2 z3 z4 z5;refine gW (mE.of e) rfl ?_;walk_at "w";refine aK8 rfl ?_;walk_at "w";refine⟨rfl,some (.int t.1),some (.int t.2),?_⟩;rw[xb,ht];show _=[some (V.ref x),some (V.int pr),some (V.int (pr*m.least+gn pr (m.pieces.take i ++ [t]))),_,_]
   rw[aMr,Int.add_assoc];rfl
 ·obtain⟨e1,y,z,e⟩:=Ss;subst e1 e;walk_at "w";rw[bK,h2.len,fe];exact k
inductive aBb  (K:W.Frag) (vs:List V) (H:Hp) (Q:VK) (E:XK):Prop
 |mk:∀(s:Addr) (m:MS) (pr:Int),(vs=[.ref s,.int pr])->d9 H s m->m.Good->(0<=pr)->(pr<=1000000000001)->(∀H',aO H H'->Q (.int (pr*m.least+gn pr m.pieces)) H')->aBb K vs H Q E
theorem aFP(tx:Txt K mg a):cE P w K mg base hU 1 a.pV a.pW aia (aBb K):=by
 refine tx.wJ.ok aFG (by walk_at "l") λbh A outer s H vs Q E hr h=>?_;obtain⟨s,m,pr,rfl ,hs,hg,p0,p1,k⟩:=h;have hu:=lT hr;refine bE (aG (aN (aK bX (aK cT (aB 1) (aJ (K':=K) (aB 0) aD)) (aH (rc:=NJ K) (aJM rfl) (by rfl) tx.Jc aPH (aA (bW (k:=2) (idx:=[1]) (N:=aSa) (cU (sc:=aL pG) (NX:=aia) rfl rfl rfl (by decide +kernel)) rfl (bF (K':=K) (aJ (K':=K) (aB 0) aD)) (λ_ _ _ _=>(dS (K':=K) (n:=2) rfl (bB (aM (i:=0) (show(aSa:ak).Nodup by decide +kernel)) (bB (aM (i:=1) (show(aSa:ak).Nodup by decide +kernel)) dC)))) (sC (cR (by decide) (cR (by decide) oC))) (λ_ _ _ _=>bQ) (λ_ _ _ _=>(aK cT (aH (oA rfl) (by rfl) tx.Ak DP (aA aD (aA (aK hJ (aB 2) (aB 1)) aC))) (aB 0)))) aC))))) ?_;obtain⟨pl,hx,hp⟩:=hs.ex;obtain⟨qs,h1,h2⟩:=hp.ex;refine aW (σ:=[some (.ref s),some (.int pr)]) rfl ?_;walk_at "w";refine fA (bR.of h1) ?_;refine aMt (λt=>some (max 0 (pr - t.2)*t.1)) h1 h2 hg.pieces.len (λq t N N' hm hq hN hN'=>?_) ?_
 ·obtain⟨z1,⟨z2,z3⟩,z4,z5⟩:=hg.pieces.pc _ hm;refine gW (mE.of hq) rfl ?_;walk_at "w";exact hN _ rfl
 intro l1 n1;walk_at "w";refine aQc (bR.of aP) ?_;rw[aMs];walk_at "w";exact k _ (aO.new n1)
inductive aE5  (K:W.Frag) (vs:List V) (H:Hp) (Q:VK) (E:XK):Prop
 |mk:∀(v:V) (t:Addr) (o d on:Int),(vs=[v,.ref t,.int on])->(H t=some (.tup [.int o,.int d]))->(Q (.bl (decide (o=on) || decide (d=0))) H)->aE5 K vs H Q E
theorem yL(tx:Txt K mg a):cE P w K mg base hU 1 a.JV a.JU afa (aE5 K):=by
 refine tx.rN.ok aJ8 (by walk_at "l") λbh A outer s H vs Q E hr h=>?_;obtain⟨v,t,o,d,on,rfl ,ht,k⟩:=h;have hu:=lT hr;refine bE (aG (aN (aLs (cP (r:=iN K) (dR hu) (aJ (K':=K) (aB 1) aD) (aB 2) (bN _)) (eU (cP (r:=iN K) (dR hu) (aJ (K':=K) (aB 1) aD) aD (bN _)))))) ?_;refine aW (σ:=[some v,some (.ref t),some (.int on)]) rfl ?_;walk_at "w";refine dA (λh=>?_) (λh=>?_)
 ·rw[zV h,Bool.true_or] at k;exact k
 ·rw[ia h,Bool.false_or] at k;walk_at "w";exact k
def pB(m:MS)(o d on:Int):ae:=if o=on then (on,max (d - 1) 0) else if on=1 then (1,m.up - 1) else (0,m.down - 1)
inductive xH  (K:W.Frag) (C:Addr) (vs:List V) (H:Hp) (Q:VK) (E:XK):Prop
 |mk:∀(q:Addr) (m:MS) (t:Addr) (o d on:Int),(vs=[.ref q,.ref t,.int on])->cQ C H q m->(H t=some (.tup [.int o,.int d]))->((o=on\/d=0))->(∀T H',aO H H'->H T=none->H' T=some (.tup [.int (pB m o d on).1,.int (pB m o d on).2])->Q (.ref T) H')->xH K C vs H Q E
theorem o5(tx:Txt K mg a):cE P w K mg base hU 2 a.kC a.kD afa (xH K a.bH):=by
 have o6:=yL (P:=P) (w:=w) (base:=base) tx;refine tx.gP.ok aDp (by walk_at "l") λbh A outer s H vs Q E hr h=>?_;obtain⟨q,m,t,o,d,on,rfl ,hm,ht,cm,k⟩:=h;have hu:=lT hr;refine bE (aE (bD (eV (cK (ay o6 hr tx.wL tx.rN.kp tx.wK (aA (aB 0) (aA (aB 1) (aA (aB 2) aC)))))) (aG vN) aU)
  (aE (bD (aY (r:=iN K) (dR hu) (aJ (K':=K) (aB 1) aD) (aB 2) (bN _)) (aG (aN (dF (aB 2) (aH (oA rfl) (by rfl) tx.Ak DP (aA (aK hJ (aJ (K':=K) (aB 1) aD) aD) (aA aD aC)))))) aU)
  (aE (bD (aY (r:=iN K) (dR hu) (aB 2) aD (bN _)) (aG (aN (dF aD (aK hJ (hX (K':=K) (aB 0) rfl) aD)))) aU)
  (aG (aN (dF aD (aK hJ (hX (K':=K) (aB 0) rfl) aD))))))) ?_
 obtain⟨dx,pl,hq,_⟩:=hm.ex;refine aW (σ:=[some (.ref q),some (.ref t),some (.int on)]) rfl ?_;walk_at "w";refine⟨_,_,_,_,_,rfl,ht,?_⟩;walk_at "w";rw[show(decide (o=on) || decide (d=0))=true by rcases cm with h|h <;> simp[h]];walk_at "w";unfold pB at k;refine dA (λh=>?_) (λh=>?_)
 ·rw[cJ h] at k;walk_at "w";intro T nT;walk_at "w";exact k _ _ (aO.new nT) nT aP
 ·rw[bV h] at k;walk_at "w";refine dA (λh1=>?_) (λh1=>?_)
  ·rw[cJ h1] at k;walk_at "w";refine Ck hq tx.cY tx.uA rfl ?_;walk_at "w";intro T nT;walk_at "w";exact k _ _ (aO.new nT) nT aP
  ·rw[bV h1] at k;walk_at "w";refine Ck hq tx.cY tx.oW rfl ?_;walk_at "w";intro T nT;walk_at "w";exact k _ _ (aO.new nT) nT aP
def jg(o:Int):Prop:=o=0\/o=1
theorem OP{m:MS}(hg:m.Good){o d on:Int}(ho:jg on):jg (pB m o d on).1/\0<=(pB m o d on).2:=by
 obtain⟨u0,u1⟩:=hg.up;obtain⟨d0,d1⟩:=hg.down;unfold pB;split
 ·exact⟨ho,by show 0<=max (d - 1) 0;lia⟩
 ·split
  ·exact⟨.inr rfl,by show 0<=m.up - 1;lia⟩
  ·exact⟨.inl rfl,by show 0<=m.down - 1;lia⟩
theorem aOd{n j:Nat}(h:j < n):qg n (j:Int)=some j:=by
 unfold qg;simp;lia
structure RL{α:Type}(P:Addr->α->Prop)(as:ah)(xs:List α):Prop where
 len:as.length=xs.length
 at_:∀(j:Nat) a x,as[j]?=some a->xs[j]?=some x->P a x
theorem RL.nil{α:Type}{P:Addr->α->Prop}:RL P [] []:=⟨rfl,λj a x h=>by simp at h⟩
theorem RL.imp{α:Type}{P P':Addr->α->Prop}{xs:List α}(h:RL P as xs)(f:∀a x,P a x->P' a x):RL P' as xs:=⟨h.len,λj a x h1 h2=>f a x (h.at_ j a x h1 h2)⟩
theorem RL.snoc{α:Type}{P:Addr->α->Prop}{xs:List α}(h:RL P as xs){x:α}(hp:P a x):RL P (as ++ [a]) (xs ++ [x]):=by
 refine⟨by rw[uN,uN,h.len];rfl,λj q u hq hu=>?_⟩;by_cases hj:j < as.length
 ·rw[kr hj] at hq;rw[kr (by rw[<-h.len];exact hj)] at hu;exact h.at_ j q u hq hu
 ·have dk:j < (as ++ [a]).length:=(g0.mp hq).1;rw[uN,Ar] at dk;have e:j=as.length:=by lia
  subst e;rw[nu (d7 _),ou] at hq;rw[h.len,nu (d7 _),ou] at hu;cases hq;cases hu;exact hp
def Fl(o:HO):Prop:=(∃(d c:Int) (q:Addr),o=.lst [.int d,.int c,.ref q])\/∃(C dx:Addr),o=.ins C dx []
def Tr(H H':Hp):Prop:=∀b o,H b=some o->¬Fl o->H' b=some o
theorem Tr.trans(a:Tr H H1)(b:Tr H1 H2):Tr H H2:=λc o e n=>b c o (a c o e n) n
theorem _root_.L2.aO.tr(s:aO H H'):Tr H H':=λb o e _=>s b o e
theorem bG.tr(hh:bG H p)(k:bY p H H'):Tr H H':=λb o e n=>k b o e λz=>by
 obtain⟨d,c,q,ms,hp,_⟩:=hh.ex;rw[z,hp] at e;cases e;exact n (.inl ⟨d,c,q,rfl⟩)
def Tk(H H':Hp):Prop:=∀b xs,H b=some (.tup xs)->H' b=some (.tup xs)
theorem Tk.trans(a:Tk H H1)(b:Tk H1 H2):Tk H H2:=λc o e=>b c o (a c o e)
theorem aQz:¬Fl (.tup xs):=λz=>by rcases z with ⟨_,_,_,e⟩|⟨_,_,e⟩ <;> cases e
theorem OO(h:fs≠[]):¬Fl (.ins C dx fs):=λz=>by
 rcases z with ⟨_,_,_,e⟩|⟨_,_,e⟩
 ·cases e
 ·cases e;exact h rfl
theorem JB{xs:List V}(h:xs.length≠3):¬Fl (.lst xs):=λz=>by
 rcases z with ⟨_,_,_,e⟩|⟨_,_,e⟩
 ·cases e;exact h rfl
 ·cases e
theorem Fq{qs:ah}:¬Fl (.lst (qs.map V.ref)):=λz=>by
 rcases z with ⟨_,_,_,e⟩|⟨_,_,e⟩
 ·cases qs with
  |nil=>cases e
  |cons x xs=>cases e
 ·cases e
theorem Tr.tk(s:Tr H H'):Tk H H':=λb xs e=>s b _ e aQz
theorem _root_.L2.aO.tk(s:aO H H'):Tk H H':=λb xs e=>s b _ e
def del(l:Addr)(H:Hp):Hp:=λb=>if b=l then none else H b
theorem ON{H:Hp}(n:b≠l):del l H b=H b:=by unfold del;rw[bV n]
theorem aQA:aO (del l H) H:=λb o e=>by
 unfold del at e;split at e
 ·cases e
 ·exact e
theorem aOG:del l H l=none:=by unfold del;rw[cJ rfl]
theorem o7(e:H b=some o)(n:b≠l):del l H b=some o:=by rw[ON n];exact e
theorem Tr.del(s:Tr H H'):Tr (del l H) (del l H'):=λb o e n=>by
 by_cases hb:b=l
 ·subst hb;rw[aOG] at e;cases e
 ·rw[ON hb] at e ⊢;exact s b o e n
theorem xF.tr{ps:ar}(h:xF H qs ps)(s:Tk H H'):xF H' qs ps:=⟨h.len,λj q t h1 h2=>s _ _ (h.at_ j q t h1 h2)⟩
theorem yV.tr{ps:ar}(h:yV H p ps)(s:Tr H H'):yV H' p ps:=by
 obtain⟨qs,h1,h2⟩:=h.ex;exact⟨qs,s _ _ h1 Fq,h2.tr s.tk⟩
theorem d9.tr(h:d9 H p m)(s:Tr H H'):d9 H' p m:=by
 obtain⟨pl,h1,h2⟩:=h.ex;exact⟨pl,s _ _ h1 (JB (by simp)),h2.tr s⟩
theorem cQ.tr(h:cQ C H p m)(s:Tr H H'):cQ C H' p m:=by
 obtain⟨dx,pl,h1,h2⟩:=h.ex;exact⟨dx,pl,s _ _ h1 (OO (by simp[yt])),h2.tr s⟩
structure SS where
 di:Int
 into:Int
 out:Int
 takes:Int
 gives:Int
structure SS.Good(s:SS):Prop where
 di:0<=s.di/\s.di<=8
 into:0<=s.into/\s.into<=8
 out:0<=s.out/\s.out<=8
 takes:Am s.takes
 gives:Am s.gives
def Lv(s:SS)(l n:Int):Prop:=0<=n/\n<=s.di/\l - s.out<=n/\n<=l+s.into
instance (s:SS) (l n:Int):Decidable (Lv s l n):=by unfold Lv;infer_instance
def dr(s:SS)(l n:Int):Int:=(if l < n then s.takes else s.gives)*(n - l)
def pw(s:SS):Int->aa->aa->Int
 |l,p::ps,n::ns=>p*dr s l n+pw s n ps ns
 |_,_,_=>0
def sFs(s:SS):List (Str×V):=[("cap",.int s.di),("into",.int s.into),("out",.int s.out),("takes",.int s.takes),("gives",.int s.gives)]
structure JA(H:Hp)(a:Addr)(s:SS):Prop where
 at_:H a=some (.lst [.int s.di,.int s.into,.int s.out,.int s.takes,.int s.gives])
structure JI(C:Addr)(H:Hp)(x:Addr)(s:SS):Prop where
 ex:∃dx,H x=some (.ins C dx (sFs s))
theorem JA.tr(h:JA H a s)(e:Tr H H'):JA H' a s:=⟨e _ _ h.at_ (JB (by simp))⟩
theorem JI.tr(h:JI C H a s)(e:Tr H H'):JI C H' a s:=by
 obtain⟨dx,q⟩:=h.ex;exact⟨dx,e _ _ q (OO (by simp[sFs]))⟩
def FI(H:Hp)(q:Addr)(t:ae):Prop:=H q=some (.tup [.int t.1,.int t.2])
structure Jb(H:Hp)(t:Addr)(ss:ar):Prop where
 ex:∃qs,H t=some (.tup (qs.map V.ref))/\RL (FI H) qs ss
abbrev Ps:=ar×Int
structure Ce(H:Hp)(a:Addr)(P:Ps):Prop where
 ex:∃t,H a=some (.tup [.ref t,.int P.2])/\Jb H t P.1
structure Hr where
 jj:aa
 outs:aa
 Dd:Int
structure IK(H:Hp)(a:Addr)(h:Hr):Prop where
 ex:∃t u,H a=some (.tup [.ref t,.ref u,.int h.Dd])/\H t=some (.tup (h.jj.map V.int))/\H u=some (.tup (h.outs.map V.int))
structure OM(H:Hp)(a:Addr)(hs:List Hr):Prop where
 ex:∃qs,H a=some (.lst (qs.map V.ref))/\RL (IK H) qs hs
structure OL(H:Hp)(a:Addr)(hs:List Ps):Prop where
 ex:∃qs,H a=some (.lst (qs.map V.ref))/\RL (Ce H) qs hs
theorem Jb.tk{ss:ar}(h:Jb H t ss)(s:Tk H H'):Jb H' t ss:=by
 obtain⟨qs,h1,h2⟩:=h.ex;exact⟨qs,s _ _ h1,h2.imp λa x z=>s _ _ z⟩
theorem Ce.tk(h:Ce H a P)(s:Tk H H'):Ce H' a P:=by
 obtain⟨t,h1,h2⟩:=h.ex;exact⟨t,s _ _ h1,h2.tk s⟩
theorem IK.tk(x:IK H a h)(s:Tk H H'):IK H' a h:=by
 obtain⟨t,u,h1,h2,h3⟩:=x.ex;exact⟨t,u,s _ _ h1,s _ _ h2,s _ _ h3⟩
theorem OM.tr(x:OM H a hs)(s:Tr H H'):OM H' a hs:=by
 obtain⟨qs,h1,h2⟩:=x.ex;exact⟨qs,s _ _ h1 Fq,h2.imp λa x z=>z.tk s.tk⟩
theorem OL.tr(x:OL H a hs)(s:Tr H H'):OL H' a hs:=by
 obtain⟨qs,h1,h2⟩:=x.ex;exact⟨qs,s _ _ h1 Fq,h2.imp λa x z=>z.tk s.tk⟩
structure WS where
 specs:List MS
 store:Option SS
 Az:Int
 x:Int
 y:Int
 wide:Int
structure WS.Good(W:WS):Prop where
 specs:∀m∈W.specs,m.Good
 len:W.specs.length<=6
 store:∀s,W.store=some s->s.Good
 Az:Am W.Az
 x:1<=W.x/\W.x<=50000000000
 y:1<=W.y/\W.y<=50000000000
 wide:W.wide=0\/W.wide=1
structure JH(H:Hp)(l:Addr)(ms:List MS):Prop where
 ex:∃qs,H l=some (.lst (qs.map V.ref))/\RL (d9 H) qs ms
structure JG(C:Addr)(H:Hp)(l:Addr)(ms:List MS):Prop where
 ex:∃qs,H l=some (.lst (qs.map V.ref))/\RL (cQ C H) qs ms
def IJ(H:Hp)(v:V):Option SS->Prop
 |none=>v=.ba
 |some s=>∃a,v=.ref a/\JA H a s
def II(C:Addr)(H:Hp)(v:V):Option SS->Prop
 |none=>v=.ba
 |some s=>∃a,v=.ref a/\JI C H a s
theorem JH.tr(h:JH H l ms)(s:Tr H H'):JH H' l ms:=by
 obtain⟨qs,h1,h2⟩:=h.ex;exact⟨qs,s _ _ h1 Fq,h2.imp λa x z=>z.tr s⟩
theorem JG.tr(h:JG C H l ms)(s:Tr H H'):JG C H' l ms:=by
 obtain⟨qs,h1,h2⟩:=h.ex;exact⟨qs,s _ _ h1 Fq,h2.imp λa x z=>z.tr s⟩
theorem IJ.tr:∀{o:Option SS},IJ H v o->Tr H H'->IJ H' v o
 |none,h,_=>h
 |some s,⟨a,e,h⟩,t=>⟨a,e,h.tr t⟩
theorem II.tr:∀{o:Option SS},II C H v o->Tr H H'->II C H' v o
 |none,h,_=>h
 |some s,⟨a,e,h⟩,t=>⟨a,e,h.tr t⟩
structure Pn(H:Hp)(a:Addr)(W:WS):Prop where
 ex:∃ls st b,H a=some (.lst [.ref ls,st,.int W.Az,.ref b,.int W.wide])/\JH H ls W.specs/\IJ H st W.store/\H b=some (.lst [.int W.x,.int W.y])
theorem Pn.tr(h:Pn H a W)(s:Tr H H'):Pn H' a W:=by
 obtain⟨ls,st,b,h1,h2,h3,h4⟩:=h.ex;exact⟨ls,st,b,s _ _ h1 (JB (by simp)),h2.tr s,h3.tr s,s _ _ h4 (JB (by simp))⟩
def wFs(lm:Addr)(st:V)(k:Int):List (Str×V):=[("machines",.ref lm),("store",st),("lack",.int k)]
structure Pm(CW CM CS:Addr)(H:Hp)(w:Addr)(W:WS):Prop where
 ex:∃dx lm st,H w=some (.ins CW dx (wFs lm st W.Az))/\JG CM H lm W.specs/\II CS H st W.store
theorem Pm.tr(h:Pm CW CM CS H w W)(s:Tr H H'):Pm CW CM CS H' w W:=by
 obtain⟨dx,lm,st,h1,h2,h3⟩:=h.ex;exact⟨dx,lm,st,s _ _ h1 (OO (by simp[wFs])),h2.tr s,h3.tr s⟩
def VS(s:ae):Prop:=jg s.1/\0<=s.2
def A9:List MS->ar->aa->ar
 |m::ms,s::ss,o::os=>pB m s.1 s.2 o::A9 ms ss os
 |_,_,_=>[]
theorem PH:∀{ms:List MS}{ss:ar}{os:aa},ss.length=ms.length->os.length=ms.length->(A9 ms ss os).length=ms.length
 |[],_,_,_,_=>by simp[A9]
 |m::ms,s::ss,o::os,h1,h2=>by
  show(pB m s.1 s.2 o::A9 ms ss os).length=_;rw[yW,PH (by simpa using h1) (by simpa using h2),yW]
 |_::_,[],_,h,_=>by cases h
 |_::_,_::_,[],_,h=>by cases h
theorem aG5:∀{ms:List MS}{ss:ar}{os:aa}{j:Nat}{m:MS}{s:ae}{o:Int},ms[j]?=some m->ss[j]?=some s->os[j]?=some o->(A9 ms ss os)[j]?=some (pB m s.1 s.2 o)
 |m::ms,s::ss,o::os,0,_,_,_,h1,h2,h3=>by cases h1;cases h2;cases h3;rfl
 |m::ms,s::ss,o::os,j+1,_,_,_,h1,h2,h3=>by
  show(A9 ms ss os)[j]?=_;exact aG5 h1 h2 h3
 |[],_,_,_,_,_,_,h,_,_=>by simp at h
 |_::_,[],_,_,_,_,_,_,h,_=>by simp at h
 |_::_,_::_,[],_,_,_,_,_,_,h=>by simp at h
def May(ss:ar)(os:aa):Prop:=∀(j:Nat) (s:ae) (o:Int),ss[j]?=some s->os[j]?=some o->s.1=o\/s.2=0
def Ob(W:WS)(l:Int):Prop:=match W.store with|none=>l=0|some s=>0<=l/\l<=s.di
def Ky(W:WS)(l n:Int):Prop:=match W.store with|none=>n=0|some s=>Lv s l n
structure Ja(W:WS)(P:Ps):Prop where
 len:P.1.length=W.specs.length
 vs:∀s∈P.1,VS s
 Dd:Ob W P.2
def aRI(m:MS)(on out:Int):Prop:=(on=0->out=0)/\(on≠0->m.least<=out/\out<=m.least+aRH m.pieces)
structure Jz(W:WS)(P:Ps)(h:Hr):Prop where
 jj:h.jj.length=W.specs.length
 outs:h.outs.length=W.specs.length
 bits:∀o∈h.jj,jg o
 may:May P.1 h.jj
 out:∀(j:Nat) m on out,W.specs[j]?=some m->h.jj[j]?=some on->h.outs[j]?=some out->aRI m on out
 Dd:Ky W P.2 h.Dd
def vq(W:WS)(P:Ps)(h:Hr):Ps:=(A9 W.specs P.1 h.jj,h.Dd)
theorem Ky.ok{l n:Int}(h:Ky W l n):Ob W n:=by
 unfold Ky at h;unfold Ob;cases e:W.store with
 |none=>rw[e] at h;exact h
 |some s=>rw[e] at h;exact⟨h.1,h.2.1⟩
theorem Jz.vq{W:WS}(g:W.Good)(p:Ja W P)(x:Jz W P h):Ja W (vq W P h):=by
 refine⟨PH p.len x.jj,λs hs=>?_,x.Dd.ok⟩;obtain⟨j,hj⟩:=pf hs;have hl:=PH p.len x.jj;have wc:j < W.specs.length:=by rw[<-hl];exact(g0.mp hj).1
 have g1:W.specs[j]?=some W.specs[j]:=cG wc;have g2:P.1[j]?=some (P.1[j]'(by rw[p.len];exact wc)):=cG _;have g3:h.jj[j]?=some (h.jj[j]'(by rw[x.jj];exact wc)):=cG _
 replace hj:(A9 W.specs P.1 h.jj)[j]?=some s:=hj
 rw[aG5 g1 g2 g3] at hj;cases hj;exact OP (g.specs _ (lu wc)) (x.bits _ (iI g3))
def xI(W:WS):Ps->List Hr->Prop
 |_,[]=>True
 |P,h::hs=>Jz W P h/\xI W (vq W P h) hs
def NM(W:WS):Ps->List Hr->Ps
 |P,[]=>P
 |P,h::hs=>NM W (vq W P h) hs
theorem xI.pos{W:WS}(g:W.Good):∀{P:Ps}{hs:List Hr},Ja W P->xI W P hs->Ja W (NM W P hs)
 |_,[],p,_=>p
 |P,h::hs,p,x=>xI.pos (P:=vq W P h) (hs:=hs) g (x.1.vq g p) x.2
theorem xI.take:∀{P:Ps}{hs:List Hr}{i:Nat}{h:Hr},xI W P hs->hs[i]?=some h->xI W P (hs.take i)/\Jz W (NM W P (hs.take i)) h
 |P,g::hs,0,h,x,e=>by cases e;exact⟨trivial,x.1⟩
 |P,g::hs,i+1,h,x,e=>by
  have:=xI.take (i:=i) (h:=h) x.2 e;exact⟨⟨x.1,this.1⟩,this.2⟩
 |_,[],_,_,_,e=>by simp at e
theorem take_snoc{α:Type}{l:List α}{i:Nat}{x:α}(h:l[i]?=some x):l.take (i+1)=l.take i ++ [x]:=by
 rw[xb,h];rfl
theorem RL.get{α:Type}{P:Addr->α->Prop}{as:ah}{xs:List α}(h:RL P as xs){i:Nat}(hv:(as.map V.ref)[i]?=some v):∃a x,as[i]?=some a/\v=.ref a/\xs[i]?=some x/\P a x:=by
 rw[hE] at hv;cases hq:as[i]? with
 |none=>rw[hq] at hv;cases hv
 |some a=>
  rw[hq] at hv;cases hv;have li:i < xs.length:=by rw[<-h.len];exact(g0.mp hq).1
  have hx:xs[i]?=some xs[i]:=cG li;exact⟨a,xs[i],rfl,rfl,hx,h.at_ i a _ hq hx⟩
theorem RL.ix{α:Type}{P:Addr->α->Prop}{as:ah}{xs:List α}(h:RL P as xs){i:Nat}(hi:i < xs.length):∃a,as[i]?=some a/\P a xs[i]:=by
 have li:i < as.length:=by rw[h.len];exact hi
 have ha:as[i]?=some as[i]:=cG li;exact⟨as[i],ha,h.at_ i _ _ ha (cG hi)⟩
theorem yM{ns:aa}{i:Nat}(h:(ns.map V.int)[i]?=some x):∃n,ns[i]?=some n/\x=.int n:=by
 rw[hE] at h;cases hq:ns[i]? with
 |none=>rw[hq] at h;cases h
 |some n=>rw[hq] at h;cases h;exact⟨n,rfl,rfl⟩
theorem eA(np:H p=none)(s:aO H H1)(k:bY p H1 H2):aO H H2:=λb o e=>k _ _ (s _ _ e) (bJ np e)
theorem RL.take{α:Type}{P:Addr->α->Prop}{as:ah}{xs:List α}(h:RL P as xs)(i:Nat):RL P (as.take i) (xs.take i):=by
 refine⟨by rw[xT,xT,h.len],λj a x h1 h2=>?_⟩;rw[List.getElem?_take] at h1 h2;split at h1
 ·rename_i hj;rw[cJ hj] at h2;exact h.at_ j a x h1 h2
 ·cases h1
theorem RL.drop{α:Type}{P:Addr->α->Prop}{as:ah}{xs:List α}(h:RL P as xs)(i:Nat):RL P (as.drop i) (xs.drop i):=by
 refine⟨by rw[Bj,Bj,h.len],λj a x h1 h2=>?_⟩;rw[FC] at h1 h2;exact h.at_ _ a x h1 h2
theorem FI.sm{j:Nat}{t:ae}(h1:FI H p t)(h2:FI H q t):uD H (j+2) (.ref p) (.ref q):=uD.pair h1 h2
theorem RL.smT{α:Type}{P:Addr->α->Prop}{j:Nat}{as bs:ah}{xs:List α}(h1:H p=some (.tup (as.map V.ref)))(h2:H q=some (.tup (bs.map V.ref)))(r1:RL P as xs)(r2:RL P bs xs)(hl:xs.length<=1000000)(f:∀a b x,P a x->P b x->uD H j (.ref a) (.ref b)):uD H (j+1) (.ref p) (.ref q):=by
 refine .inr (.inr (.inr (.inr ⟨p,q,_,_,rfl,rfl,.inl ⟨h1,h2⟩,by rw[bK,bK,r1.len,r2.len],by rw[bK,r2.len];exact hl,λi u v hu hv=>?_⟩)));rw[hE] at hu hv;cases ea:as[i]? with
 |none=>rw[ea] at hu;cases hu
 |some a=>
  cases eb:bs[i]? with
  |none=>rw[eb] at hv;cases hv
  |some b=>
   rw[ea] at hu;rw[eb] at hv;cases hu;cases hv;have li:i < xs.length:=by rw[<-r1.len];exact(g0.mp ea).1
   exact f a b _ (r1.at_ i a _ ea (cG li)) (r2.at_ i b _ eb (cG li))
theorem Ce.sm{j:Nat}{P:Ps}(h1:Ce H p P)(h2:Ce H q P)(hl:P.1.length<=1000000):uD H (j+4) (.ref p) (.ref q):=by
 obtain⟨t,a1,s1⟩:=h1.ex;obtain⟨u,a2,s2⟩:=h2.ex;obtain⟨qs,b1,r1⟩:=s1.ex;obtain⟨mq,b2,r2⟩:=s2.ex;refine .inr (.inr (.inr (.inr ⟨p,q,_,_,rfl,rfl,.inl ⟨a1,a2⟩,rfl,by simp,λi x y hx hy=>?_⟩)))
 match i,hx,hy with
 |0,hx,hy=>cases hx;cases hy;exact RL.smT b1 b2 r1 r2 hl λa b x z1 z2=>FI.sm z1 z2
 |1,hx,hy=>cases hx;cases hy;exact uD.int _
 |_+2,hx,_=>simp at hx
inductive zE  (K:W.Frag) (vs:List V) (H:Hp) (Q:VK) (E:XK):Prop
 |mk:∀(p s:Addr) (m:MS),(vs=[.ref p,.ref s])->bG H p->d9 H s m->m.Good->(∀(t:Addr) (o d:Int) H',H' t=some (.tup [.int o,.int d])->((o=1/\0<=d/\d < m.up)\/(o=0/\0<=d/\d < 60))->bG H' p->bY p H H'->Q (.ref t) H')->zE K vs H Q E
theorem aEk(tx:Txt K mg a):cE P w K mg base hU 2 a.mV a.mW axa (zE K):=by
 have aT:=eR (P:=P) (w:=w) (base:=base) tx;refine tx.nW.ok aEc (by walk_at "l") λbh A outer s H vs Q E hr h=>?_;obtain⟨p,s,m,rfl ,hh,hs,hg,k⟩:=h;have hu:=lT hr;refine bE (aE (bD (aY (r:=iN K) (dR hu) (ay aT hr tx.bA tx.aX.kp tx.aZ (aA (aB 0) (aA aD aC))) aD (bN _)) (aG (aN (dF aD (ay aT hr tx.bA tx.aX.kp tx.aZ (aA (aB 0) (aA (aJ (K':=K) (aB 1) aD) aC)))))) aU)
  (aE (bD (aY (r:=iN K) (dR hu) (ay aT hr tx.bA tx.aX.kp tx.aZ (aA (aB 0) (aA aD aC))) aD (bN _)) (aG (aN (dF aD (ay aT hr tx.bA tx.aX.kp tx.aZ (aA (aB 0) (aA aD aC)))))) aU)
  (aG (aN (dF aD (ay aT hr tx.bA tx.aX.kp tx.aZ (aA (aB 0) (aA (aJ (K':=K) (aB 1) aD) aC)))))))) ?_
 obtain⟨u0,u1⟩:=hg.up;obtain⟨d0,d1⟩:=hg.down;refine aW (σ:=[some (.ref p),some (.ref s)]) rfl ?_;walk_at "w";refine⟨p,_,rfl,hh,by decide,by decide,λr1 H1 a1 b1 h1 k1 _=>?_⟩;have hs1:=hs.keep hh k1;obtain⟨pl,e1,_⟩:=hs1.ex;walk_at "w";refine dA (λh=>?_) (λh=>?_)
 ·walk_at "w";refine⟨p,_,rfl,h1,by lia,by lia,λr2 H2 a2 b2 h2 k2 _=>?_⟩;walk_at "w";intro T nT;walk_at "w";exact k _ _ _ _ aP (.inl ⟨rfl,a2,b2⟩) (h2.same (aO.new nT)) (k1.trans (k2.trans (aO.new nT).keep))
 ·walk_at "w";refine⟨p,_,rfl,h1,by decide,by decide,λr2 H2 a2 b2 h2 k2 _=>?_⟩;have kl:=hs1.keep h1 k2;obtain⟨La,e2,_⟩:=kl.ex;walk_at "w";refine dA (λh=>?_) (λh=>?_)
  ·walk_at "w";refine⟨p,_,rfl,h2,by decide,by decide,λr3 H3 a3 b3 h3 k3 _=>?_⟩;walk_at "w";intro T nT;walk_at "w";exact k _ _ _ _ aP (.inr ⟨rfl,a3,b3⟩) (h3.same (aO.new nT)) (k1.trans (k2.trans (k3.trans (aO.new nT).keep)))
  ·walk_at "w";refine⟨p,_,rfl,h2,by lia,by lia,λr3 H3 a3 b3 h3 k3 _=>?_⟩;walk_at "w";intro T nT;walk_at "w";exact k _ _ _ _ aP (.inr ⟨rfl,a3,by lia⟩) (h3.same (aO.new nT)) (k1.trans (k2.trans (k3.trans (aO.new nT).keep)))
def jy(m:MS):Int->Int->aa->Nat->V
 |_,_,[],_=>.ba
 |o,d,on::r,i=>if o=on\/d=0 then jy m (pB m o d on).1 (pB m o d on).2 r (i+1) else .int i
theorem aJg{ns:aa}{i:Nat}{n:Int}(h:ns[i]?=some n):ns.drop i=n::ns.drop (i+1):=by
 obtain⟨hi,e⟩:=g0.mp h;rw[Qy hi,e]
inductive aBd  (K:W.Frag) (C:Addr) (vs:List V) (H:Hp) (Q:VK) (E:XK):Prop
 |mk:∀(q:Addr) (m:MS) (t:Addr) (o d:Int) (p:Addr) (ns:aa),(vs=[.ref q,.ref t,.ref p])->cQ C H q m->(H t=some (.tup [.int o,.int d]))->(H p=some (.lst (ns.map V.int)))->(∀H',aO H H'->Q (jy m o d ns 0) H')->aBd K C vs H Q E
theorem aFV(tx:Txt K mg a):cE P w K mg base hU 3 a.pX a.pY fv (aBd K a.bH):=by
 have o6:=yL (P:=P) (w:=w) (base:=base) tx;have gR:=o5 (P:=P) (w:=w) (base:=base) tx;refine tx.wM.ok mS (by walk_at "l") λbh A outer s H vs Q E hr h=>?_;obtain⟨q,m,t,o,d,p,ns,rfl ,hm,ht,hp,k⟩:=h;have hu:=lT hr;refine bE (aE (bU PassesOwn.never rfl (vO (K':=K) (by rfl) tx.iH (aA (aB 2) aC)) (dS (K':=K) (n:=2) rfl (bB (aM (i:=3) mS.nd) (bB (aM (i:=4) mS.nd) dC))) (aE (bD (eV (cK (ay o6 hr tx.wL tx.rN.kp tx.wK (aA (aB 0) (aA (aB 1) (aA (aB 4) aC)))))) (aG (aN (aB 3))) aU)
  (aG (aI (i:=1) mS.nd (ay gR hr tx.kT tx.gP.kp tx.kS (aA (aB 0) (aA (aB 1) (aA (aB 4) aC))))))))
  (aG (aN iF))) ?_
 refine aW (σ:=[some (.ref q),some (.ref t),some (.ref p),none,none]) rfl ?_;walk_at "w";refine Oi (bR.of hp) ?_;refine Pd (xs:=ns.map V.int) (λi σ' H'=>∃t' o' d' x3 x4,σ'=[some (.ref q),some (.ref t'),some (.ref p),x3,x4]/\H' t'=some (.tup [.int o',.int d'])/\aO H H'/\jy m o' d' (ns.drop i) i=jy m o d ns 0)
  ⟨t,o,d,_,_,rfl,ht,aO.refl _,rfl⟩ (λi σ' H' hi ⟨t',o',d',x3,x4,e,h1,h2,h3⟩=>bR.of (h2 _ _ hp)) (λi x σ' H' T hx Sr nT=>?_) (λσ' H' Sq=>?_)
 ·obtain⟨t',o',d',x3,x4,e,h1,h2,h3⟩:=Sr;subst e;rw[hE] at hx;obtain⟨n,hn,rfl⟩ : ∃n,ns[i]?=some n/\x=.int n:=by
   cases hq:ns[i]? with
   |none=>rw[hq] at hx;cases hx
   |some n=>rw[hq] at hx;cases hx;exact⟨n,rfl,rfl⟩
  rw[aJg hn] at h3;have sT:=aO.new (o:=.tup [.int (i:Int),.int n]) nT;refine gW (mE.of aP) rfl ?_;walk_at "w";refine⟨_,_,_,_,_,rfl,sT _ _ h1,?_⟩;walk_at "w";have A0:(if o'=n\/d'=0 then jy m (pB m o' d' n).1 (pB m o' d' n).2 (ns.drop (i+1)) (i+1) else .int i)=jy m o d ns 0:=h3;by_cases cm:o'=n\/d'=0
  ·rw[cJ cm] at A0;rw[show(decide (o'=n) || decide (d'=0))=true by rcases cm with h|h <;> simp[h]];walk_at "w";refine⟨q,m,t',o',d',n,rfl,hm.same (h2.trans sT),sT _ _ h1,cm,λT2 H2 s2 HD B0=>?_⟩;walk_at "w";exact⟨T2,_,_,_,_,rfl,B0,(h2.trans sT).trans s2,A0⟩
  ·rw[bV cm] at A0;rw[show(decide (o'=n) || decide (d'=0))=false by simp only[not_or] at cm;simp[cm.1,cm.2]];walk_at "w";rw[<-A0] at k;exact k _ (h2.trans sT)
 ·obtain⟨t',o',d',x3,x4,e,h1,h2,h3⟩:=Sq;subst e;rw[bK,List.drop_length] at h3;walk_at "w";have A0:V.ba=jy m o d ns 0:=h3;rw[A0];exact k _ h2
def wt:Int->aa->Nat->aa
 |_,[],_=>[]
 |o,on::r,i=>(if on=1/\o=0 then [(i:Int)] else [])++wt on r (i+1)
def Dx(m:MS)(o:Int)(ns:aa):Int:=m.begin_*((wt o ns 0).length:Int)+m.run*(ns.count 1:Nat)+m.rest*(ns.count 0:Nat)
inductive uU  (K:W.Frag) (C:Addr) (vs:List V) (H:Hp) (Q:VK) (E:XK):Prop
 |mk:∀(q:Addr) (m:MS) (t:Addr) (o d:Int) (p:Addr) (ns:aa),(vs=[.ref q,.ref t,.ref p])->cQ C H q m->(H t=some (.tup [.int o,.int d]))->(H p=some (.lst (ns.map V.int)))->(jy m o d ns 0=.ba)->(∀H',aO H H'->Q .ba H')->uU K C vs H Q E
theorem aCy(tx:Txt K mg a):cE P w K mg base hU 4 a.jC a.jD fv (uU K a.bH):=by
 have aG6:=aFV (P:=P) (w:=w) (base:=base) tx;refine tx.oR.ok uQ (by walk_at "l") λbh A outer s H vs Q E hr h=>?_;obtain⟨q,m,t,o,d,p,ns,rfl ,hm,ht,hp,hf,k⟩:=h;have hu:=lT hr;refine bE (aE (aI (i:=3) uQ.nd (ay aG6 hr tx.aB6 tx.wM.kp tx.aB5 (aA (aB 0) (aA (aB 1) (aA (aB 2) aC)))))
  (aG (bD (aY rK (aB 3) iF (bN _)) (aG vN) aU))) ?_
 refine aW (σ:=[some (.ref q),some (.ref t),some (.ref p),none]) rfl ?_;walk_at "w";refine⟨q,m,t,o,d,p,ns,rfl,hm,ht,hp,λH1 s1=>?_⟩;rw[hf];walk_at "w";exact k _ s1
inductive zF  (K:W.Frag) (C:Addr) (vs:List V) (H:Hp) (Q:VK) (E:XK):Prop
 |mk:∀(q:Addr) (m:MS) (t:Addr) (o d:Int) (p:Addr) (ns:aa),(vs=[.ref q,.ref t,.ref p])->cQ C H q m->(H t=some (.tup [.int o,.int d]))->(H p=some (.lst (ns.map V.int)))->(ns.length<=48)->(jy m o d ns 0=.ba)->(∀c H',aO H H'->H c=none->H' c=some (.lst ((wt o ns 0).map V.int))->Q (.ref c) H')->zF K C vs H Q E
theorem aEm(tx:Txt K mg a):cE P w K mg base hU 5 a.mX a.mY fv (zF K a.bH):=by
 have aDG:=aCy (P:=P) (w:=w) (base:=base) tx;refine tx.tN.ok fO (by walk_at "l") λbh A outer s H vs Q E hr h=>?_;obtain⟨q,m,t,o,d,p,ns,rfl ,hm,ht,hp,hl,hn,k1⟩:=h;have hu:=lT hr;refine bE (aE (cW (ay aDG hr tx.wO tx.oR.kp tx.wN (aA (aB 0) (aA (aB 1) (aA (aB 2) aC)))))
  (aE (aI (i:=3) fO.nd (eW aC))
  (aE (aI (i:=4) fO.nd (aJ (K':=K) (aB 1) aD))
  (aE (bU PassesOwn.never rfl (vO (K':=K) (by rfl) tx.iH (aA (aB 2) aC)) (dS (K':=K) (n:=2) rfl (bB (aM (i:=5) fO.nd) (bB (aM (i:=6) fO.nd) dC))) (aE (bD (gO (rM (aY (r:=iN K) (dR hu) (aB 6) aD (bN _)) (oF (aY (r:=iN K) (dR hu) (aB 4) aD (bN _))))) (aG (cW (dU (K':=K) (aB 3) (aA (aB 5) aC)))) aU)
  (aG (aI (i:=4) fO.nd (aB 6)))))
  (aG (aN (aB 3))))))) ?_
 refine aW (σ:=[some (.ref q),some (.ref t),some (.ref p),none,none,none,none]) rfl ?_;walk_at "w";refine⟨q,m,t,o,d,p,ns,rfl,hm,ht,hp,hn,λH1 s1=>?_⟩;walk_at "w";intro c nc;obtain⟨H2,i2,s2,g2⟩:=nw _ nc;rw[i2];have LM:=(s1.trans s2) _ _ ht;have LR:=(s1.trans s2) _ _ hp;have cp:c≠p:=λz=>by rw[z] at nc;exact bJ nc (s1 _ _ hp) rfl
 walk_at "w";refine Oi (bR.of LR) ?_;refine Pd (xs:=ns.map V.int) (λi σ' H'=>∃(a':Int) (bs:aa) (x5 x6:Option V),σ'=[some (.ref q),some (.ref t),some (.ref p),some (.ref c),some (.int a'),x5,x6]/\H' c=some (.lst (bs.map V.int))/\bs.length<=i/\bs++wt a' (ns.drop i) i=wt o ns 0/\aO H1 H')
  ⟨o,[],_,_,rfl,g2,d7 _,rfl,s2⟩ (λi σ' H' hi ⟨a',bs,x5,x6,e,g,lb,eb,s'⟩=>bR.of (s' _ _ (s1 _ _ hp))) (λi x σ' H' T hx So nT=>?_) (λσ' H' Sn=>?_)
 ·obtain⟨a',bs,x5,x6,e,g,lb,eb,s'⟩:=So;subst e;rw[hE] at hx;obtain⟨n,HR,rfl⟩:=yQ.mp hx;have hi:i < ns.length:=(g0.mp HR).1;rw[aJg HR] at eb;obtain⟨H3,i3,s3,g3⟩:=nw (.tup [.int (i:Int),.int n]) nT;rw[i3];refine gW (mE.of g3) rfl ?_;have g':=s3 _ _ g;have Dr:bs++((if n=1/\a'=0 then [(i:Int)] else [])++wt n (ns.drop (i+1)) (i+1))=wt o ns 0:=eb;walk_at "w";refine dA (λh1=>?_) (λh1=>?_)
  ·walk_at "w";refine dA (λh2=>?_) (λh2=>?_)
   ·rw[cJ ⟨h1,h2⟩,<-Bm] at Dr;walk_at "w";refine hV (bR.of g') ?_;walk_at "w";refine lU (xs:=bs.map V.int) g' (rT (by rw[bK];lia:(bs.map V.int).length < 1000) (bZ (by simp))) ?_;obtain⟨H4,i4,k4,g4⟩:=wr H3 c (.lst (bs.map V.int ++ [.int (i:Int)]));rw[i4];walk_at "w";exact⟨n,bs ++ [(i:Int)],_,_,rfl,by rw[g4,iJ];rfl,by rw[uN];simp;exact lb,Dr,λb o e=>k4 _ _ (s3 _ _ (s' _ _ e)) (bJ nc e)⟩
   ·rw[bV (λz=>h2 z.2),List.nil_append] at Dr;walk_at "w";exact⟨n,bs,_,_,rfl,g',by lia,Dr,s'.trans s3⟩
  ·rw[bV (λz=>h1 z.1),List.nil_append] at Dr;walk_at "w";exact⟨n,bs,_,_,rfl,g',by lia,Dr,s'.trans s3⟩
 ·obtain⟨a',bs,x5,x6,e,g,lb,eb,s'⟩:=Sn;subst e;rw[bK,List.drop_length] at eb;rw[show bs++wt a' [] ns.length=bs from oz bs] at eb;walk_at "w";exact k1 c _ (s1.trans s') (s1.free nc) (by rw[<-eb];exact g)
inductive aCd  (K:W.Frag) (C:Addr) (vs:List V) (H:Hp) (Q:VK) (E:XK):Prop
 |mk:∀(q:Addr) (m:MS) (t:Addr) (o d:Int) (p:Addr) (ns:aa),(vs=[.ref q,.ref t,.ref p])->cQ C H q m->m.Good->(H t=some (.tup [.int o,.int d]))->(H p=some (.lst (ns.map V.int)))->(ns.length<=48)->(jy m o d ns 0=.ba)->(∀H',aO H H'->Q (.int (Dx m o ns)) H')->aCd K C vs H Q E
theorem aG7(tx:Txt K mg a):cE P w K mg base hU 6 a.tD a.tE fv (aCd K a.bH):=by
 have aFW:=aEm (P:=P) (w:=w) (base:=base) tx;refine tx.Qc.ok aB0 (by walk_at "l") λbh A outer s H vs Q E hr h=>?_;obtain⟨q,m,t,o,d,p,ns,rfl ,hm,hg,ht,hp,hl,hn,k1⟩:=h;have hu:=lT hr;refine bE (aE (aI (i:=3) aB0.nd (aH (rc:=jR K) bS (by rfl) tx.eO dH (aA (ay aFW hr tx.aAP tx.tN.kp tx.aAO (aA (aB 0) (aA (aB 1) (aA (aB 2) aC)))) aC)))
  (aG (aN (aK bX (aK bX (aK cT (hX (K':=K) (aB 0) rfl) (aB 3)) (aK cT (hX (K':=K) (aB 0) rfl) (aAF (K':=K) (aB 2) (aA aD aC)))) (aK cT (hX (K':=K) (aB 0) rfl) (aAF (K':=K) (aB 2) (aA aD aC))))))) ?_
 obtain⟨b0,b1⟩:=hg.begin_;obtain⟨u0,u1⟩:=hg.run;obtain⟨r0,r1⟩:=hg.rest;refine aW (σ:=[some (.ref q),some (.ref t),some (.ref p),none]) rfl ?_;walk_at "w";refine⟨q,m,t,o,d,p,ns,rfl,hm,ht,hp,hl,hn,λc H1 s1 nc gc=>?_⟩;obtain⟨dx,pl,hq,_⟩:=(hm.same s1).ex;have BU:=s1 _ _ hp;walk_at "w";refine Ck hq tx.cY tx.lY rfl ?_;walk_at "w";refine Ck hq tx.cY tx.rF rfl ?_;walk_at "w";refine hV (bR.of BU) ?_;walk_at "w";refine aGB (bR.of BU) ?_;walk_at "w";refine Ck hq tx.cY tx.oX rfl ?_;walk_at "w";refine hV (bR.of BU) ?_;walk_at "w";refine aGB (bR.of BU) ?_;walk_at "w";rw[bK];exact k1 _ s1
def Ok(m:MS):Int->Int->aa->Prop
 |_,_,[]=>True
 |o,d,on::r=>(o=on\/d=0)/\Ok m (pB m o d on).1 (pB m o d on).2 r
def ed(m:MS):Int->Int->aa->ae
 |o,d,[]=>(o,d)
 |o,d,on::r=>ed m (pB m o d on).1 (pB m o d on).2 r
def qz(o d:Int):Prop:=jg o/\0<=d/\d < 60
theorem qz.pB{m:MS}(g:m.Good){o d on:Int}(h:qz o d)(b:jg on):qz (pB m o d on).1 (pB m o d on).2:=by
 obtain⟨h0,h1,h2⟩:=h;refine⟨(OP g b).1,(OP g b).2,?_⟩;have u:=g.up;have v:=g.down;unfold My.pB;split
 ·show max (d - 1) 0 < 60;lia
 ·split
  ·show m.up - 1 < 60;lia
  ·show m.down - 1 < 60;lia
def tP(m:MS)(on:Int)(f:Int->Int->Int)(o d:Int):Int:=if o=on\/d=0 then f (pB m o d on).1 (pB m o d on).2 else 0
def tB(m:MS)(f:Int->Int->Int)(o d:Int):Int:=tP m 0 f o d+tP m 1 f o d
def one(_ _:Int):Int:=1
abbrev WP:=(ae)×Int
def jS(k:ae):List Key:=[.inl k.1,.inl k.2]
def enc(ps:List WP):List (List Key×V):=ps.map λp=>(jS p.1,V.int p.2)
theorem xJ{a b:ae}(h:jS a=jS b):a=b:=by
 unfold jS at h;simp only[List.cons.injEq,Sum.inl.injEq,and_true] at h;exact Prod.ext h.1 h.2
def gU(ps:List WP)(k:ae):Option Int:=(ps.find? λp=>decide (p.1=k)).map (·.2)
def addW(ps:List WP)(k:ae)(v:Int):List WP:=if ps.any (λp=>decide (p.1=k)) then ps.map (λp=>if p.1=k then (p.1,v) else p) else ps ++ [(k,v)]
theorem JF(ps:List WP)(k:ae):rJ (enc ps) (jS k)=(gU ps k).map V.int:=by
 unfold rJ gU enc;induction ps with
 |nil=>rfl
 |cons p r ih=>
  by_cases h:p.1=k
  ·simp[h]
  ·have:jS p.1≠jS k:=λz=>h (xJ z);simp only[fm,vj,this,h,decide_false];exact ih
theorem aOh(ps:List WP)(k:ae)(v:Int):putK (enc ps) (jS k) (.int v)=enc (addW ps k v):=by
 unfold putK addW enc;have e:((ps.map λp:WP=>(jS p.1,V.int p.2)).any λkv=>decide (kv.1=jS k))=ps.any λp=>decide (p.1=k):=by
  rw[List.any_map];congr 1;funext p
  show decide (jS p.1=jS k)=decide (p.1=k);exact decide_eq_decide.mpr ⟨xJ,λz=>by rw[z]⟩
 rw[e];split
 ·rw[zW,zW];congr 1;funext p
  show(if jS p.1=jS k then (jS p.1,V.int v) else (jS p.1,V.int p.2))=(jS (if p.1=k then (p.1,v) else p).1,V.int (if p.1=k then (p.1,v) else p).2)
  by_cases h:p.1=k
  ·rw[cJ h,cJ (by rw[h])]
  ·rw[bV h,bV λz=>h (xJ z)]
 ·rw[iJ];rfl
def wsum(f:Int->Int->Int)(ps:List WP):Int:=List.sum (ps.map λp=>p.2*f p.1.1 p.1.2)
theorem aE6(f:Int->Int->Int)(p:WP)(ps:List WP):wsum f (p::ps)=p.2*f p.1.1 p.1.2+wsum f ps:=rfl
theorem aMv(f:Int->Int->Int)(ps qs:List WP):wsum f (ps++qs)=wsum f ps+wsum f qs:=by
 unfold wsum;rw[iJ,List.sum_append]
theorem aOi{ps:List WP}{k:ae}{c:Int}(nd:(ps.map (·.1)).Nodup):((addW ps k ((gU ps k).getD 0+c)).map (·.1)).Nodup/\(∀p∈addW ps k ((gU ps k).getD 0+c),p.1=k\/∃q∈ps,q.1=p.1)/\∀f,wsum f (addW ps k ((gU ps k).getD 0+c))=wsum f ps+c*f k.1 k.2:=by
 unfold addW;by_cases h:ps.any (λp=>decide (p.1=k))=true
 ·rw[cJ h];refine⟨?_,λp hp=>?_,λf=>?_⟩
  ·rw[zW];have e:((λp:WP=>p.1) ∘ λp:WP=>if p.1=k then (p.1,(gU ps k).getD 0+c) else p)=λp=>p.1:=by
    funext p
    show(if p.1=k then (p.1,(gU ps k).getD 0+c) else p).1=p.1;split <;> rfl
   rw[e];exact nd
  ·obtain⟨q,hq,rfl⟩:=mD.mp hp;refine .inr ⟨q,hq,?_⟩;split <;> rfl
  ·have key:∀(qs:List WP),(qs.map (·.1)).Nodup->qs.any (λp=>decide (p.1=k))=true->∀v,(gU qs k).getD 0+c=v->wsum f (qs.map λp=>if p.1=k then (p.1,v) else p)=wsum f qs+c*f k.1 k.2:=by
    intro qs;induction qs with
    |nil=>intro _ z;cases z
    |cons p r ih=>
     intro nd h v hv;rw[fm,ni] at nd;rw[fm,aE6,aE6];by_cases hp:p.1=k
     ·have hn:∀q∈r,¬q.1=k:=λq hq z=>nd.1 (mD.mpr ⟨q,hq,by rw[z,hp]⟩);have e1:(r.map λp=>if p.1=k then (p.1,v) else p)=r:=by
       conv=>rhs;rw[<-List.map_id r]
       exact Bo λq hq=>bV (hn q hq)
      have e2:gU (p::r) k=some p.2:=by unfold gU;simp[hp]
      rw[e2] at hv;rw[e1,cJ hp,<-hv,hp];show(p.2+c)*f k.1 k.2+wsum f r=_;rw[Int.add_mul];lia
     ·have h':r.any (λp=>decide (p.1=k))=true:=by simpa [hp] using h
      have e2:gU (p::r) k=gU r k:=by unfold gU;simp[hp]
      rw[e2] at hv;rw[bV hp,ih nd.2 h' v hv];lia
   exact key ps nd h _ rfl
 ·have hn:gU ps k=none:=by
   unfold gU;rw[Option.map_eq_none_iff,List.find?_eq_none];intro p hp z;exact h (Fz.mpr ⟨p,hp,z⟩)
  rw[bV h,hn];refine⟨?_,λp hp=>?_,λf=>?_⟩
  ·rw[iJ,J8];refine⟨nd,by simp,λa ha b hb=>?_⟩;rw[fm,List.map_nil,ff] at hb;rintro rfl;obtain⟨q,hq,e⟩:=mD.mp ha;exact h (Fz.mpr ⟨q,hq,by simpa using e.trans hb⟩)
  ·rcases iy.mp hp with z|z
   ·exact .inr ⟨p,z,rfl⟩
   ·rw[ff.mp z];exact .inl rfl
  ·rw[aMv];show _+((0+c)*f k.1 k.2+0)=_;rw[Fw,Int.add_zero]
theorem Oa:∀(n:Nat) (l:List Nat),l.Nodup->(∀x∈l,x < n)->l.length<=n
 |0,l,_,h=>by
  cases l with
  |nil=>exact d7 _
  |cons x r=>exact absurd (h x (.head _)) (by lia)
 |n+1,l,nd,h=>by
  have:=Oa n (l.erase n) (nd.erase n) (λx hx=>by
   have h1:=(nd.mem_erase_iff.mp hx)
   have:=h x h1.2;have:=h1.1;lia)
  rw[List.length_erase] at this;split at this <;> lia
structure zc(ps:List WP):Prop where
 nd:(ps.map (·.1)).Nodup
 st:∀p∈ps,qz p.1.1 p.1.2
theorem zc.len{ps:List WP}(h:zc ps):ps.length<=120:=by
 have:=Oa 120 ((ps.map (·.1)).map λk=>(k.1*60+k.2).toNat) (by
  rw[List.Nodup,pd];refine h.nd.imp_of_mem ?_;intro a b ha hb uv z;obtain⟨p,hp,rfl⟩:=mD.mp ha;obtain⟨q,hq,rfl⟩:=mD.mp hb;obtain⟨a1,a2,a3⟩:=h.st p hp;obtain⟨b1,b2,b3⟩:=h.st q hq;refine uv (Prod.ext ?_ ?_)
  ·rcases a1 with a1|a1 <;> rcases b1 with b1|b1 <;> rw[a1,b1] <;> rw[a1,b1] at z <;> lia
  ·rcases a1 with a1|a1 <;> rcases b1 with b1|b1 <;> rw[a1,b1] at z <;> lia) (λx hx=>by
  obtain⟨k,hk,rfl⟩:=mD.mp hx;obtain⟨p,hp,rfl⟩:=mD.mp hk;obtain⟨a1,a2,a3⟩:=h.st p hp;rcases a1 with a1|a1 <;> rw[a1] <;> lia)
 simpa using this
theorem zc.add(h:zc ps){k:ae}(hk:qz k.1 k.2)(c:Int):zc (addW ps k ((gU ps k).getD 0+c)):=by
 obtain⟨h1,h2,_⟩:=aOi (k:=k) (c:=c) h.nd;refine⟨h1,λp hp=>?_⟩;rcases h2 p hp with z|⟨q,hq,z⟩
 ·rw[z];exact hk
 ·rw[<-z];exact h.st q hq
section
variable{α:Type}
abbrev Wy(α:Type):=Int×α×Int
def dY(f:α->Int):List (Wy α)->Int
 |[]=>0
 |[w]=>w.2.2+f w.2.1
 |w::v::r=>min (w.2.2+f w.2.1) (dY f (v::r))
theorem PY(f:α->Int):∀{ws:List (Wy α)}{w:Wy α},w∈ws->dY f ws<=w.2.2+f w.2.1
 |[],_,h=>by cases h
 |[w],v,h=>by rw[ff.mp h];exact Int.le_refl _
 |w::v::r,u,h=>by
  show min _ _<=_;rcases lQ.mp h with rfl|h
  ·lia
  ·have:=PY f h;lia
theorem o8(f:α->Int):∀{ws:List (Wy α)},ws≠[]->∃w∈ws,w.2.2+f w.2.1=dY f ws
 |[],h=>absurd rfl h
 |[w],_=>⟨w,.head _,rfl⟩
 |w::v::r,_=>by
  obtain⟨u,hu,e⟩:=o8 f (ws:=v::r) (by simp);by_cases h:w.2.2+f w.2.1<=dY f (v::r)
  ·exact⟨w,.head _,by show _=min _ _;lia⟩
  ·exact⟨u,fh _ hu,by show _=min _ _;lia⟩
theorem aE7{f:α->Int}{m:Int}(h1:∃w∈ws,w.2.2+f w.2.1=m)(h2:∀w∈ws,m<=w.2.2+f w.2.1):m=dY f ws:=by
 obtain⟨w,hw,e⟩:=h1;have a:=PY f hw;obtain⟨u,hu,e2⟩:=o8 f (ws:=ws) (λz=>by rw[z] at hw;cases hw);have b:=h2 u hu;lia
def wF(W:Nat->α->List (Wy α)):Nat->Nat->α->Int
 |0,_,_=>0
 |k+1,i,x=>dY (wF W k (i+1)) (W i x)
def mC(f:α->Int)(ws:List (Wy α)):Option (Wy α):=ws.find? λw=>decide (w.2.2+f w.2.1=dY f ws)
theorem aCe(f:α->Int)(h:ws≠[]):∃w,mC f ws=some w/\w∈ws/\w.2.2+f w.2.1=dY f ws:=by
 obtain⟨u,hu,e⟩:=o8 f h;cases q:mC f ws with
 |none=>
  unfold mC at q;rw[List.find?_eq_none] at q;exact absurd (zV e) (q u hu)
 |some w=>
  unfold mC at q;exact⟨w,rfl,Qw q,zj (List.find?_some (p:=λw:Wy α=>decide (w.2.2+f w.2.1=dY f ws)) q)⟩
def oq(W:Nat->α->List (Wy α)):Nat->Nat->α->aa
 |0,_,_=>[]
 |k+1,i,x=>match mC (wF W k (i+1)) (W i x) with
  |none=>[]
  |some w=>w.1::oq W k (i+1) w.2.1
def IH(W:Nat->α->List (Wy α)):Nat->α->aa->Option Int
 |_,_,[]=>some 0
 |i,x,c::r=>match (W i x).find? λw=>decide (w.1=c) with
  |none=>none
  |some w=>(IH W (i+1) w.2.1 r).map (w.2.2 + ·)
structure Lay(W:Nat->α->List (Wy α))(n:Nat)(L:Nat->α->Prop):Prop where
 ne:∀i x,i < n->L i x->W i x≠[]
 on:∀i x w,i < n->L i x->w∈W i x->L (i+1) w.2.1
def EY(ws:List (Wy α)):Prop:=ws.Pairwise λa b=>a.1 < b.1
theorem aKa{ws:List (Wy α)}(h:EY ws){w:Wy α}(hw:w∈ws):(ws.find? λv=>decide (v.1=w.1))=some w:=by
 induction ws with
 |nil=>cases hw
 |cons a r ih=>
  obtain⟨h1,h2⟩:=Kl.mp h;rw[vj];rcases lQ.mp hw with rfl|hw
  ·simp
  ·have:=h1 w hw;rw[ia (by lia)];exact ih h2 hw
theorem aJh{W:Nat->α->List (Wy α)}{n:Nat}{L:Nat->α->Prop}(hl:Lay W n L)(hr:∀i x,EY (W i x)):∀(k i:Nat) (x:α),i+k<=n->L i x->IH W i x (oq W k i x)=some (wF W k i x)/\(oq W k i x).length=k
 |0,_,_,_,_=>⟨rfl,rfl⟩
 |k+1,i,x,hk,hx=>by
  obtain⟨w,e1,e2,e3⟩:=aCe (wF W k (i+1)) (hl.ne i x (by lia) hx);obtain⟨h1,h2⟩:=aJh hl hr k (i+1) w.2.1 (by lia) (hl.on i x w (by lia) hx e2);have e:oq W (k+1) i x=w.1::oq W k (i+1) w.2.1:=by
   show(match mC (wF W k (i+1)) (W i x) with|none=>[]|some w=>w.1::oq W k (i+1) w.2.1)=_;rw[e1]
  rw[e];refine⟨?_,by rw[yW,h2]⟩;unfold IH;rw[aKa (hr i x) e2];show Option.map (w.2.2 + ·) (IH W (i+1) w.2.1 (oq W k (i+1) w.2.1))=_;rw[h1];show some (w.2.2+wF W k (i+1) w.2.1)=some (dY (wF W k (i+1)) (W i x));rw[e3]
theorem aIn{ws:List (Wy α)}(h:EY ws){p:Wy α->Bool}{w v:Wy α}(hw:ws.find? p=some w)(hv:v∈ws)(pv:p v=true):w.1<=v.1:=by
 induction ws with
 |nil=>cases hv
 |cons a r ih=>
  obtain⟨h1,h2⟩:=Kl.mp h;rw[vj] at hw;cases ha:p a with
  |true=>
   rw[ha] at hw;cases hw;rcases lQ.mp hv with rfl|hv
   ·exact Int.le_refl _
   ·exact Int.le_of_lt (h1 v hv)
  |false=>
   rw[ha] at hw;rcases lQ.mp hv with rfl|hv
   ·rw[pv] at ha;cases ha
   ·exact ih h2 hw hv
theorem aJi{β:Type}{p:β->Bool}:∀{l:List β}{j:Nat}{w:β},l[j]?=some w->(∀x∈l.take j,p x=false)->p w=true->l.find? p=some w
 |[],_,_,h,_,_=>by simp at h
 |a::r,0,w,h,_,hp=>by
  cases h;rw[vj,hp]
 |a::r,j+1,w,h,hn,hp=>by
  rw[vj,hn a (by rw[List.take_succ_cons];exact .head _)];exact aJi (l:=r) (j:=j) h (λx hx=>hn x (by rw[List.take_succ_cons];exact fh _ hx)) hp
end
inductive PK (α:Type) where
 |ik (f:α->Key) (inj:∀x y,f x=f y->x=y)
 |tk (f:α->List Key) (inj:∀x y,f x=f y->x=y)
def PK.pv{α:Type}:PK α->Hp->V->α->Prop
 |.ik f _,_,v,x=>v=kV (f x)
 |.tk f _,H,v,x=>∃b,v=.ref b/\H b=some (.tup ((f x).map kV))
def PK.da{α:Type}:PK α->Hp->Addr->List α->(α->Int)->Prop
 |.ik f _,H,d,ps,g=>H d=some (.dK (ps.map λx=>(f x,.int (g x))))
 |.tk f _,H,d,ps,g=>H d=some (.dT (ps.map λx=>(f x,.int (g x))))
section
variable{α:Type}{κ:PK α}{H H':Hp}{v:V}{x:α}{d:Addr}{ps:List α}{g g':α->Int}
theorem PK.jM(h:κ.pv H v x)(s:aO H H'):κ.pv H' v x:=by
 cases κ with
 |ik f i=>exact h
 |tk f i=>obtain⟨b,e,hb⟩:=h;exact⟨b,e,s _ _ hb⟩
theorem PK.fS(h:κ.da H d ps g)(s:aO H H'):κ.da H' d ps g:=by
 cases κ with
 |ik f i=>exact s _ _ h
 |tk f i=>exact s _ _ h
theorem vH{κ':Type}[DecidableEq κ']{f:α->κ'}(inj:∀x y,f x=f y->x=y){g:α->Int}:∀{ps:List α},x∈ps->rJ (ps.map λx=>(f x,V.int (g x))) (f x)=some (.int (g x))
 |[],h=>by cases h
 |y::r,h=>by
  rw[fm];by_cases e:f y=f x
  ·rw[lA (show(f y,V.int (g y)).1=f x from e),inj _ _ e]
  ·rw[iM (show ¬(f y,V.int (g y)).1=f x from e)];rcases lQ.mp h with rfl|h
   ·exact absurd rfl e
   ·exact vH inj h
theorem aE8{κ':Type}[DecidableEq κ']{f:α->κ'}(inj:∀x y,f x=f y->x=y){g:α->Int}:∀{ps:List α},x∉ps->rJ (ps.map λx=>(f x,V.int (g x))) (f x)=none
 |[],_=>rfl
 |y::r,h=>by
  rw[fm,iM (show ¬(f y,V.int (g y)).1=f x from λz=>h (by rw[inj _ _ z];exact .head _))];exact aE8 inj λz=>h (fh _ z)
theorem PK.get(h:κ.da H d ps g)(hv:κ.pv H v x)(hx:x∈ps):jU H d v (some (.int (g x))):=by
 cases κ with
 |ik f i=>
  have Ac:v=kV (f x):=hv;subst Ac;have z:=jU.k (k:=f x) (show H d=some (.dK _) from h);rw[vH i hx] at z;exact z
 |tk f i=>
  obtain⟨b,rfl,hb⟩:=hv;have z:=jU.t (show H d=some (.dT _) from h) hb;rw[vH i hx] at z;exact z
theorem PL{κ':Type}[DecidableEq κ']{f:α->κ'}(inj:∀x y,f x=f y->x=y){g:α->Int}{x:α}{ps:List α}(hx:x∉ps):putK (ps.map λx=>(f x,V.int (g x))) (f x) (.int (g x))=(ps ++ [x]).map λx=>(f x,V.int (g x)):=by
 unfold putK;rw[JS,aE8 inj hx,iJ];rfl
theorem PK.put(h:κ.da H d ps g)(hv:κ.pv H v x)(hx:x∉ps)(hl:ps.length < 1000000):∃H',wx H d v (.int (g x)) H'/\κ.da H' d (ps ++ [x]) g/\bY d H H':=by
 have lt:ps.length < sizeLine:=rT hl (bZ (by decide));cases κ with
 |ik f i=>
  have Ac:v=kV (f x):=hv;subst Ac;refine⟨_,wx.k (k:=f x) (show H d=some (.dK _) from h) (by rw[bK];exact lt),?_,bY.upd⟩;show upd H d _ d=_;rw[aP,PL i hx]
 |tk f i=>
  obtain⟨b,rfl,hb⟩:=hv;refine⟨_,wx.t (show H d=some (.dT _) from h) hb (by rw[bK];exact lt),?_,bY.upd⟩;show upd H d _ d=_;rw[aP,PL i hx]
theorem PK.new{Q:VK}(κ:PK α)(g:α->Int)(h:∀p H',H p=none->aO H H'->κ.da H' p [] g->Q (.ref p) H'):Fe σ H Q:=by
 cases κ with
 |ik f i=>exact aJT λp np=>h p _ np (aO.new np) aP
 |tk f i=>exact aEV λp np=>h p _ np (aO.new np) aP
theorem PK.aMy(h:κ.da H d ps g)(e:H d=some (.lst xs)):False:=by
 cases κ with
 |ik f i=>have h':H d=some (.dK _):=h;rw[e] at h';cases h'
 |tk f i=>have h':H d=some (.dT _):=h;rw[e] at h';cases h'
def Bc(κ:PK α)(H:Hp)(a:Addr)(w:Wy α):Prop:=∃v,H a=some (.tup [.int w.1,v,.int w.2.2])/\κ.pv H v w.2.1
theorem Bc.same(h:Bc κ H a w)(s:aO H H'):Bc κ H' a w:=let ⟨v,e,p⟩:=h;⟨v,s _ _ e,κ.jM p s⟩
structure uF(κ:PK α)(H:Hp)(l:Addr)(ws:List (Wy α)):Prop where
 ex:∃as,H l=some (.lst (as.map V.ref))/\RL (Bc κ H) as ws
theorem uF.same(h:uF κ H l ws)(s:aO H H'):uF κ H' l ws:=let ⟨as,e,r⟩:=h.ex;⟨as,s _ _ e,r.imp λ_ _ z=>z.same s⟩
structure uG(κ:PK α)(C:Addr->Sp->Prop)(H:Hp)(f:Addr)(W:Nat->α->List (Wy α))(L:Nat->α->Prop):Prop where
 ex:∃vp,C f vp/\∀(H':Hp) (h:Nat) (v:V) (x:α) (Q:VK),aO H H'->L h x->κ.pv H' v x->(∀l QR,aO H' QR->uF κ QR l (W h x)->Q (.ref l) QR)->vp [.int (h:Int),v] H' Q E0
theorem uG.same{C:Addr->Sp->Prop}{W:Nat->α->List (Wy α)}{L:Nat->α->Prop}(h:uG κ C H f W L)(s:aO H H'):uG κ C H' f W L:=
 let ⟨vp,c,p⟩:=h.ex;⟨vp,c,λH2 a v x Q s2=>p H2 a v x Q (s.trans s2)⟩
def uc(κ:PK α)(H:Hp)(vs:List V)(ps:List α):Prop:=vs.length=ps.length/\∀(i:Nat) v x,vs[i]?=some v->ps[i]?=some x->κ.pv H v x
theorem uc.same(h:uc κ H vs ps)(s:aO H H'):uc κ H' vs ps:=⟨h.1,λi v x h1 h2=>κ.jM (h.2 i v x h1 h2) s⟩
theorem uc.get{vs:List V}(h:uc κ H vs ps){i:Nat}(e:vs[i]?=some v):∃x,ps[i]?=some x/\κ.pv H v x:=by
 have li:i < ps.length:=by rw[<-h.1];exact(g0.mp e).1
 exact⟨_,cG li,h.2 i v _ e (cG li)⟩
end
theorem cL{α:Type}{l:List α}{i:Nat}{x:α}(h:l[i]?=some x):l.take (i+1)=l.take i ++ [x]:=by rw[xb,h];rfl
theorem RL.gt{α:Type}{P:Addr->α->Prop}{as:ah}{xs:List α}(h:RL P as xs){i:Nat}(hv:(as.map V.ref)[i]?=some v):∃a x,as[i]?=some a/\v=.ref a/\xs[i]?=some x/\P a x:=by
 rw[hE] at hv;obtain⟨a,e,rfl⟩:=yQ.mp hv;have li:i < xs.length:=by rw[<-h.len];exact(g0.mp e).1
 exact⟨a,xs[i],e,rfl,cG li,h.at_ i a _ e (cG li)⟩
inductive aCg  (K:W.Frag) (vs:List V) (H:Hp) (Q:VK) (E:XK):Prop
 |mk:∀(α:Type) (κ:PK α) (l d:Addr) (ws:List (Wy α)) (ps:List α) (g:α->Int),(vs=[.ref l,.ref d])->uF κ H l ws->κ.da H d ps g->(ws≠[])->(ws.length<=10000)->((∀w∈ws,w.2.1∈ps))->(∀H',aO H H'->Q (.int (dY g ws)) H')->aCg K vs H Q E
theorem aCh(tx:Txt K mg a):cE P w K mg base hU 1 a.tF a.tG aqa (aCg K):=by
 refine tx.tO.ok aGZ (by walk_at "l") λbh A outer s H vs Q E hr h=>?_;obtain⟨α,κ,l,d,ws,ps,g,rfl ,hw,hd,bj,hlen,dt,k⟩:=h;have hu:=lT hr;refine bE (aG (aN (aH (rc:=DB K) (yD rfl) (by rfl) tx.zC zX (aA (bW (k:=3) (idx:=[1]) (N:=aPa) (cU (sc:=aL sO) (NX:=aqa) rfl rfl rfl (by decide +kernel)) rfl (bF (K':=K) (aB 0)) (λ_ _ _ _=>(dS (K':=K) (n:=3) rfl (bB (aM (i:=0) (show(aPa:ak).Nodup by decide +kernel)) (bB (aM (i:=1) (show(aPa:ak).Nodup by decide +kernel)) (bB (aM (i:=2) (show(aPa:ak).Nodup by decide +kernel)) dC))))) (sC (cR (by decide) (cR (by decide) (cR (by decide) oC)))) (λ_ _ _ _=>bQ) (λ_ _ _ _=>(aK bX (aB 2) (eM hu (aB 3) (aB 1))))) aC)))) ?_;obtain⟨as,gl,rl⟩:=hw.ex;have ie:=rl.len;refine aW (σ:=[some (.ref l),some (.ref d)]) rfl ?_;walk_at "w";refine fA (bR.of gl) ?_;refine cM (xs:=as.map V.ref) (λj us H'=>H'=H/\us=(((ws.take j).map λw=>w.2.2+g w.2.1).map V.int)) ⟨rfl,rfl⟩ (bZ (by rw[bK];lia))
  (λj us H' hj ⟨e0,e1⟩=>⟨by rw[e0];exact bR.of gl,by rw[e1,bK,bK,xT];lia⟩) (λj v us H' hv Sm=>?_) (λus H' Sl=>?_)
 ·obtain⟨e0,e1⟩:=Sm;subst e0;obtain⟨a1,w,ea,rfl,ew,vv,g1,hp⟩:=rl.gt hv;refine gW (mE.of g1) rfl ?_;walk_at "w";refine⟨d,_,rfl,κ.get hd hp (dt w (iI ew)),?_⟩;walk_at "w";refine⟨rfl,?_⟩;rw[e1,cL ew,iJ,iJ];rfl
 obtain⟨e0,e1⟩:=Sl;subst e0 e1;rw[bK,ie,fe];intro l2 n2;obtain⟨H2,i2,s2,g2⟩:=nw _ n2;rw[i2];walk_at "w";refine JJ (bR.of g2) (by simpa using bj) λm hm hle=>?_;have e:m=dY g ws:=aE7 (by
  obtain⟨w,hw,e⟩:=mD.mp hm;exact⟨w,hw,e⟩) λw hw=>hle _ (mD.mpr ⟨w,hw,rfl⟩)
 rw[e];exact k H2 s2
inductive uV  (K:W.Frag) (C:Addr->Sp->Prop) (vs:List V) (H:Hp) (Q:VK) (E:XK):Prop
 |mk:∀(α:Type) (κ:PK α) (lp d f:Addr) (h:Nat) (us:List V) (ps bs:List α) (g:α->Int) (W:Nat->α->List (Wy α)) (L:Nat->α->Prop),(vs=[.ref lp,.int (h:Int),.ref d,.ref f])->(H lp=some (.lst us))->uc κ H us ps->ps.Nodup->(ps.length<=10000)->κ.da H d bs g->uG κ C H f W L->((∀x∈ps,L h x/\W h x≠[]/\(W h x).length<=10000/\∀w∈W h x,w.2.1∈bs))->(∀q H',aO H H'->H q=none->κ.da H' q ps (λx=>dY g (W h x))->Q (.ref q) H')->uV K C vs H Q E
theorem aCz(tx:Txt K mg a):cE P w K mg base hU 10 a.jE a.jF aIa (uV K (xg P w K mg base (8+1))):=by
 have P7:=aCh (P:=P) (w:=w) (base:=base) tx;refine tx.oS.ok lW (by walk_at "l") λbh A outer s H vs Q E hr h=>?_;obtain⟨α,κ,lp,d,f,h,us,ps,bs,g,W,L,rfl ,gl,Dh,mw,hlen,hd,hW,Es,k⟩:=h;have hu:=lT hr;refine bE (aE (aI (i:=4) lW.nd lG)
  (aE (bU PassesOwn.never rfl (bF (K':=K) (aB 0)) (aM (i:=5) lW.nd) (aG (oG hu (aB 4) (aB 5) (ay P7 hr tx.Qa tx.tO.kp tx.Qb (aA (vT (P:=P) (w:=w) (K:=K) (mg:=mg) (base:=base) (i:=3) (k:=8+1) (hr.mono (by decide)) (aA (aB 1) (aA (aB 5) aC))) (aA (aB 2) aC))))))
  (aG (aN (aB 4))))) ?_
 obtain⟨vp,hC,hp⟩:=hW.ex;have Eg:=Dh.1;refine aW (σ:=[some (.ref lp),some (.int (h:Int)),some (.ref d),some (.ref f),none,none]) rfl ?_;walk_at "w";refine κ.new (λx=>dY g (W h x)) λwd H1 Hy s1 dw=>?_;walk_at "w";refine fA (bR.of (s1 _ _ gl)) ?_;refine sG (xs:=us) (λi σ' H'=>aO H H'/\κ.da H' wd (ps.take i) (λx=>dY g (W h x))/\∃z,σ'=[some (.ref lp),some (.int (h:Int)),some (.ref d),some (.ref f),some (.ref wd),z]) ⟨s1,dw,_,rfl⟩
  (λi σ' H' hi ⟨s',_⟩=>bR.of (s' _ _ gl)) (λi v σ' H' hv Sj=>?_) (λσ' H' Si=>?_)
 ·obtain⟨s',A1,z,e⟩:=Sj;subst e;obtain⟨x,ex,px⟩:=Dh.get hv;obtain⟨o1,o2,o3,o4⟩:=Es x (iI ex);walk_at "w";refine PB rfl hC ?_;walk_at "w";refine hp H' h v x _ s' o1 (κ.jM px s') λl H2 s2 Ep=>?_;have BL:=s'.trans s2;walk_at "w";refine⟨α,κ,l,d,W h x,bs,g,rfl,Ep,κ.fS hd BL,o2,o3,o4,λH3 s3=>?_⟩;have gg:=BL.trans s3;walk_at "w";have nx:x∉ps.take i:=λz=>by
   have hi:i < ps.length:=(g0.mp ex).1;obtain⟨j,hj,ej⟩:=Kn z;rw[xT] at hj;rw[List.getElem_take] at ej;have e2:ps[i]=x:=(g0.mp ex).2;have:=(DU mw).mp (ej.trans e2.symm);lia
  obtain⟨H4,p4,d4,k4⟩:=κ.put (κ.fS A1 (s2.trans s3)) (κ.jM px gg) nx (by rw[xT];lia);refine⟨wd,H4,rfl,p4,?_⟩;walk_at "w";refine⟨λb o e=>k4 _ _ (gg _ _ e) (bJ Hy e),?_,_,rfl⟩;rw[cL ex];exact d4
 ·obtain⟨s',A1,z,e⟩:=Si;subst e;walk_at "w";rw[Eg,fe] at A1;exact k wd H' s' Hy A1
structure DH{α:Type}(κ:PK α)(H:Hp)(a:Addr)(Ls:List (List α)):Prop where
 ex:∃as,H a=some (.lst (as.map V.ref))/\RL (λb ps=>∃us,H b=some (.lst us)/\uc κ H us ps) as Ls
theorem DH.same{α:Type}{κ:PK α}{Ls:List (List α)}(h:DH κ H a Ls)(s:aO H H'):DH κ H' a Ls:=
 let ⟨as,e,r⟩:=h.ex;⟨as,s _ _ e,r.imp λ_ _ ⟨us,e,p⟩=>⟨us,s _ _ e,p.same s⟩⟩
structure qt{α:Type}(κ:PK α)(H:Hp)(a:Addr)(Ls:List (List α))(F:Nat->α->Int):Prop where
 ex:∃ds:ah,H a=some (.lst (ds.map V.ref))/\ds.length=Ls.length/\∀(i:Nat) d ps,ds[i]?=some d->Ls[i]?=some ps->κ.da H d ps (F i)
theorem qt.same{α:Type}{κ:PK α}{Ls:List (List α)}{F:Nat->α->Int}(h:qt κ H a Ls F)(s:aO H H'):qt κ H' a Ls F:=
 let ⟨ds,e,l,r⟩:=h.ex;⟨ds,s _ _ e,l,λi d ps h1 h2=>κ.fS (r i d ps h1 h2) s⟩
structure N9{α:Type}(W:Nat->α->List (Wy α))(Ls:List (List α)):Prop where
 pos:0 < Ls.length
 nd:∀ps∈Ls,ps.Nodup
 yT:∀ps∈Ls,ps.length<=10000
 ne:∀(i:Nat) ps x,Ls[i]?=some ps->i+1 < Ls.length->x∈ps->W i x≠[]/\(W i x).length<=10000
 on:∀(i:Nat) ps qs x w,Ls[i]?=some ps->Ls[i+1]?=some qs->x∈ps->w∈W i x->w.2.1∈qs
theorem vG{xs:List V}(h:0 < xs.length):pC xs (-1)=xs[xs.length - 1]?:=by
 have e:qg xs.length (-1)=some (xs.length - 1):=by
  unfold qg;rw[bV (by lia),cJ (by lia)];congr 1;lia
 unfold pC;rw[e];rfl
theorem PK.aJj{α:Type}{κ:PK α}{ps:List α}{g:α->Int}(h:κ.da H d ps g)(n:d≠p)(k:bY p H H'):κ.da H' d ps g:=by
 cases κ with
 |ik f i=>exact k _ _ h n
 |tk f i=>exact k _ _ h n
theorem PK.Fp{α:Type}{κ:PK α}{x:α}(h:κ.pv H v x)(gp:H p=some (.lst xs))(k:bY p H H'):κ.pv H' v x:=by
 cases κ with
 |ik f i=>exact h
 |tk f i=>
  obtain⟨b,e,hb⟩:=h;exact⟨b,e,k _ _ hb λz=>by rw[z,gp] at hb;cases hb⟩
theorem fQ{as:ah}{i:Nat}(h:as[i]?=some a):(as.map V.ref)[i]?=some (.ref a):=by rw[hE,h];rfl
inductive jN  (K:W.Frag) (C:Addr->Sp->Prop) (vs:List V) (H:Hp) (Q:VK) (E:XK):Prop
 |mk:∀(α:Type) (κ:PK α) (la f:Addr) (Ls:List (List α)) (W:Nat->α->List (Wy α)) (L:Nat->α->Prop),(vs=[.ref la,.ref f])->DH κ H la Ls->N9 W Ls->(Ls.length<=10000)->uG κ C H f W L->((∀(i:Nat) ps x,Ls[i]?=some ps->i+1 < Ls.length->x∈ps->L i x))->(∀q H',aO H H'->H q=none->qt κ H' q Ls (λi=>wF W (Ls.length - 1 - i) i)->Q (.ref q) H')->jN K C vs H Q E
theorem aBg(tx:Txt K mg a):cE P w K mg base hU 11 a.gA a.gB baa (jN K (xg P w K mg base (8+1))):=by
 have aDH:=aCz (P:=P) (w:=w) (base:=base) tx;refine tx.jX.ok dQ (by walk_at "l") λbh A outer s H vs Q E hr h=>?_;obtain⟨α,κ,la,f,Ls,W,L,rfl ,L0,av,hlen,hW,hL,k⟩:=h;have hu:=lT hr;refine bE (aE (aI (i:=2) dQ.nd lG)
  (aE (bU PassesOwn.never rfl (bF (K':=K) (aJ (K':=K) (aB 0) (lF vD aD))) (aM (i:=3) dQ.nd) (aG (oG hu (aB 2) (aB 3) aD)))
  (aE (aI (i:=4) dQ.nd (j7 (aB 2)))
  (aE (bU PassesOwn.never rfl (aAI (by rfl) tx.eQ (aA (aK hJ (aH (rc:=jR K) bS (by rfl) tx.eO dH (aA (aB 0) aC)) aD) (aA (lF vD aD) (aA (lF vD aD) aC)))) (aM (i:=5) dQ.nd) (aE (aI (i:=2) dQ.nd (ay aDH hr tx.wR tx.oS.kp tx.wQ (aA (aJ (K':=K) (aB 0) (aB 5)) (aA (aB 5) (aA (aB 2) (aA (aB 1) aC))))))
  (aG (cW (dU (K':=K) (aB 4) (aA (aB 2) aC))))))
  (aG (aN (aD9 rfl (by rfl) tx.mB (by rfl) tx.uB (aA (aB 4) aC)))))))) ?_
 obtain⟨as,ga,ra⟩:=L0.ex;have ie:=ra.len;have pos:=av.pos;obtain⟨n,hn⟩ : ∃n,Ls.length=n+1:=⟨Ls.length - 1,by lia⟩
 have el:as[n]?=some as[n]:=cG (by lia);have ll:Ls[n]?=some Ls[n]:=cG (by lia);obtain⟨us,gu,pu⟩:=ra.at_ n _ _ el ll;generalize as[n]=an at el gu;generalize Ls[n]=pn at ll pu;have lpn:=av.yT pn (iI ll);have Lm:=av.nd pn (iI ll);have Eg:=pu.1;have ai:pC (as.map V.ref) (-1)=some (.ref an):=by
  rw[vG (by rw[bK];lia),bK,ie,hn,Bn];exact fQ el
 refine aW (σ:=[some (.ref la),some (.ref f),none,none,none,none]) rfl ?_;walk_at "w";refine κ.new (λ_=>0) λbd H1 Lo s1 db=>?_;have ga1:=s1 _ _ ga;walk_at "w";refine fA (bR.of (s1 _ _ gu)) ?_;refine sG (xs:=us) (λi σ' H'=>aO H H'/\κ.da H' bd (pn.take i) (λ_=>0)/\∃z,σ'=[some (.ref la),some (.ref f),some (.ref bd),z,none,none]) ⟨s1,db,_,rfl⟩
  (λi σ' H' hi ⟨s',_⟩=>bR.of (s' _ _ gu)) (λi v σ' H' hv Sh=>?_) (λσ' H2 Sg=>?_)
 ·obtain⟨s',A1,z,e⟩:=Sh;subst e;obtain⟨x,ex,px⟩:=pu.get hv;walk_at "w";have nx:x∉pn.take i:=λz=>by
   obtain⟨j,hj,ej⟩:=Kn z;rw[xT] at hj;rw[List.getElem_take] at ej;have e2:pn[i]'((g0.mp ex).1)=x:=(g0.mp ex).2;have:=(DU Lm).mp (ej.trans e2.symm);lia
  obtain⟨H4,p4,d4,k4⟩:=κ.put A1 (κ.jM px s') nx (by rw[xT];lia);refine⟨bd,H4,rfl,p4,?_⟩;walk_at "w";refine⟨λb o e=>k4 _ _ (s' _ _ e) (bJ Lo e),?_,_,rfl⟩;rw[cL ex];exact d4
 ·obtain⟨s2,d2,z,e⟩:=Sg;subst e;rw[Eg,fe] at d2;have ga2:=s2 _ _ ga;walk_at "w";intro lw sv;obtain⟨H3,i3,s3,g3⟩:=nw _ sv;rw[i3];have gg:=s2.trans s3;have ga3:=gg _ _ ga;have nlH:H lw=none:=s2.free sv;walk_at "w";refine⟨_,_,rfl,by rw[bK,ie];lia,?_⟩;rw[show(((as.map V.ref).length:Int) - 2 - -1).toNat=n by rw[bK,ie,hn];lia];refine aIP (n:=n) (λi σ' H'=>aO H H'/\(∃ds:ah,H' lw=some (.lst (ds.map V.ref))/\ds.length=i+1/\(∃d,ds[i]?=some d/\σ'[2]?=some (some (.ref d)))/\∀(j:Nat) d ps,ds[j]?=some d->Ls[n - j]?=some ps->κ.da H' d ps (wF W j (n - j)))/\∃b z5,σ'=[some (.ref la),some (.ref f),some (.ref b),z,some (.ref lw),z5])
   ⟨gg,⟨[bd],g3,rfl,⟨bd,rfl,rfl⟩,λj d ps h1 h2=>?_⟩,_,_,rfl⟩ (λi σ' H' hi Sf=>?_) (λσ' H' Se=>?_)
  ·match j,h1 with
   |0,h1=>
    cases h1;rw[Cm,ll] at h2;cases h2;exact κ.fS d2 s3
   |j+1,h1=>simp at h1
  ·obtain⟨s',⟨ds,gd,ld,⟨d,ed,e2⟩,hd⟩,b,z5,e⟩:=Sf;subst e;have e2':some (some (V.ref b))=some (some (.ref d)):=e2;cases e2';have hh:(((as.map V.ref).length:Int) - 2 - (i:Int))=((n - 1 - i:Nat):Int):=by rw[bK,ie,hn];lia
   rw[hh];have ea:as[n - 1 - i]?=some as[n - 1 - i]:=cG (by lia);have eL:Ls[n - 1 - i]?=some Ls[n - 1 - i]:=cG (by lia);have oo:Ls[n - i]?=some Ls[n - i]:=cG (by lia);obtain⟨G4,gu',pu'⟩:=ra.at_ _ _ _ ea eL;generalize as[n - 1 - i]=ax at ea gu';generalize Ls[n - 1 - i]=px at eL pu';have db':=hd i d _ ed oo;generalize Ls[n - i]=qx at oo db';have MA:=s' _ _ ga;have ix:pC (as.map V.ref) ((n - 1 - i:Nat):Int)=some (.ref ax):=cO (fQ ea);walk_at "w";have e1:n - 1 - i+1=n - i:=by lia
   refine⟨α,κ,ax,d,f,n - 1 - i,G4,px,qx,wF W i (n - i),W,L,rfl,s' _ _ gu',pu'.same s',av.nd px (iI eL),av.yT px (iI eL),db',hW.same s',λx hx=>?_,λq H4 s4 nq dq=>?_⟩
   ·obtain⟨n1,n2⟩:=av.ne _ px x eL (by lia) hx;exact⟨hL _ px x eL (by lia) hx,n1,n2,λw hw=>av.on _ px qx x w eL (by rw[e1];exact oo) hx hw⟩
   have Im:=s4 _ _ gd;walk_at "w";refine hV (bR.of Im) ?_;walk_at "w";refine lU (xs:=ds.map V.ref) Im (rT (by rw[bK];lia:(ds.map V.ref).length < 20000) (bZ (by decide))) ?_;obtain⟨H5,i5,k5,g5⟩:=wr H4 lw _;rw[i5];walk_at "w";refine⟨λb o e=>k5 _ _ (s4 _ _ (s' _ _ e)) (bJ nlH e),⟨ds ++ [q],by rw[g5,iJ];rfl,by rw[uN,ld];rfl,⟨q,by rw[nu (by lia),ld,ou];rfl,rfl⟩,λj d ps h1 h2=>?_⟩,_,_,rfl⟩;by_cases hj:j < i+1
   ·rw[kr (by lia)] at h1;have z:=κ.fS (hd j d ps h1 h2) s4;exact κ.aJj z (λy=>κ.aMy z (by rw[y];exact Im)) k5
   ·have dk:j < (ds ++ [q]).length:=(g0.mp h1).1;rw[uN,Ar] at dk;obtain rfl:j=i+1:=by lia
    rw[nu (by lia),ld,ou] at h1;cases h1;rw[show n - (i+1)=n - 1 - i by lia,eL] at h2;cases h2;have z:=κ.aJj dq (λy=>κ.aMy dq (by rw[y];exact Im)) k5;have ee:(λx=>dY (wF W i (n - i)) (W (n - 1 - i) x))=wF W (i+1) (n - (i+1)):=by
     rw[show n - (i+1)=n - 1 - i by lia];funext x
     show _=dY (wF W i (n - 1 - i+1)) (W (n - 1 - i) x);rw[e1]
    rw[<-ee];exact z
  ·obtain⟨s',⟨ds,gd,ld,⟨d,ed,e2⟩,hd⟩,b,z5,e⟩:=Se;subst e;walk_at "w";refine⟨lw,_,rfl,gd,λq nq=>?_⟩;obtain⟨H5,i5,s5,g5⟩:=nw _ nq;rw[i5];walk_at "w";refine k q H5 (s'.trans s5) (s'.free nq) ⟨⟨ds.reverse,by rw[g5,List.map_reverse],by rw[Kp,ld,hn],λi d ps h1 h2=>?_⟩⟩;have hi:i < ds.length:=by rw[<-Kp];exact(g0.mp h1).1
   rw[List.getElem?_reverse hi] at h1;have z:=hd _ d ps h1 (by rw[show n - (ds.length - 1 - i)=i by lia];exact h2);rw[show n - (ds.length - 1 - i)=i by lia,show ds.length - 1 - i=Ls.length - 1 - i by lia] at z;exact κ.fS z s5
inductive zG  (K:W.Frag) (vs:List V) (H:Hp) (Q:VK) (E:XK):Prop
 |mk:∀(α:Type) (κ:PK α) (l d:Addr) (ws:List (Wy α)) (ps:List α) (g:α->Int),(vs=[.ref l,.ref d])->uF κ H l ws->κ.da H d ps g->(ws≠[])->(ws.length<=10000)->((∀w∈ws,w.2.1∈ps))->(∀a w H',aO H H'->mC g ws=some w->Bc κ H' a w->Q (.ref a) H')->zG K vs H Q E
theorem aEo(tx:Txt K mg a):cE P w K mg base hU 2 a.mZ a.nA aqa (zG K):=by
 have P7:=aCh (P:=P) (w:=w) (base:=base) tx;refine tx.tQ.ok yZ (by walk_at "l") λbh A outer s H vs Q E hr h=>?_;obtain⟨α,κ,l,d,ws,ps,g,rfl ,hw,hd,bj,hlen,dt,k⟩:=h;have hu:=lT hr;refine bE (aE (yA (i:=2) yZ.nd rfl (Or.inr rfl) (ay P7 hr tx.Qa tx.tO.kp tx.Qb (aA (aB 0) (aA (aB 1) aC))))
  (aG (aN (aJ (K':=K) (bW (k:=1) (idx:=[1,2]) (N:=["way","behind","least"]) (cU (sc:=aL mO) (NX:=["ways","behind","least"]) rfl rfl rfl (by decide +kernel)) rfl (bF (K':=K) (aB 0)) (λ_ _ _ _=>(aM (i:=0) (show(["way","behind","least"]:ak).Nodup by decide +kernel))) (cV (by decide)) (λ_ _ _ _=>(sI (aY (r:=iN K) (dR hu) (aK bX (aJ (K':=K) (aB 0) aD) (eM hu (aB 1) (aJ (K':=K) (aB 0) aD))) (aB 2) (bN _)))) (λ_ _ _ _=>(aB 0))) aD)))) ?_
 refine aW (σ:=[some (.ref l),some (.ref d),none]) rfl ?_;walk_at "w";refine⟨α,κ,l,d,ws,ps,g,rfl,hw,hd,bj,hlen,dt,λH1 s1=>?_⟩;obtain⟨as,gl,rl⟩:=(hw.same s1).ex;have ie:=rl.len;have hd1:=κ.fS hd s1;walk_at "w";refine fA (bR.of gl) ?_;refine cM (xs:=as.map V.ref) (λj us H'=>H'=H1/\us.length<=j/\(us=[]->∀w∈ws.take j,¬w.2.2+g w.2.1=dY g ws)/\∀u,us[0]?=some u->∃a w,u=.ref a/\mC g ws=some w/\Bc κ H1 a w) ⟨rfl,d7 _,(λ_ w hw=>by simp at hw),(λu hu=>by simp at hu)⟩ (bZ (by rw[bK];lia))
  (λj us H' hj ⟨e0,e1,_⟩=>⟨by rw[e0];exact bR.of gl,e1⟩) (λj v us H' hv Sd=>?_) (λus H' Sa=>?_)
 ·obtain⟨e0,e1,e2,e3⟩:=Sd;subst e0;obtain⟨a1,w,ea,rfl,ew,vv,g1,hp⟩:=rl.gt hv;walk_at "w";refine⟨d,_,rfl,κ.get hd1 hp (dt w (iI ew)),?_⟩;walk_at "w";refine dA (λh=>?_) (λh=>?_)
  ·walk_at "w";refine⟨rfl,by rw[uN,Ar];lia,(λz=>by simp at z),λu hu=>?_⟩;cases us with
   |nil=>
    cases hu;refine⟨a1,w,rfl,?_,vv,g1,hp⟩;unfold mC;exact aJi ew (λx hx=>ia (e2 rfl x hx)) (zV h)
   |cons y r=>exact e3 u hu
  ·walk_at "w";refine⟨rfl,by lia,λz x hx=>?_,e3⟩;rw[cL ew] at hx;rcases iy.mp hx with q|q
   ·exact e2 z x q
   ·rw[ff.mp q];exact h
 obtain⟨e0,e1,e2,e3⟩:=Sa;subst e0;rw[bK,ie,fe] at e2;obtain⟨w0,hw0,LH⟩:=o8 g bj;cases us with
 |nil=>exact absurd LH (e2 rfl w0 hw0)
 |cons u0 r=>
  obtain⟨a1,w,rfl,f1,hA⟩:=e3 u0 rfl;intro l2 n2;obtain⟨H2,i2,s2,g2⟩:=nw _ n2;rw[i2];have ix:pC (V.ref a1::r) 0=some (.ref a1):=cO (j:=0) rfl;walk_at "w";exact k a1 w H2 (s1.trans s2) f1 (hA.same s2)
inductive uH  (K:W.Frag) (C:Addr->Sp->Prop) (vs:List V) (H:Hp) (Q:VK) (E:XK):Prop
 |mk:∀(α:Type) (κ:PK α) (v:V) (x:α) (p0:List α) (lw f:Addr) (Ls:List (List α)) (W:Nat->α->List (Wy α)) (L:Nat->α->Prop),(vs=[v,.ref lw,.ref f])->κ.pv H v x->(qt κ H lw Ls (λi=>wF W (Ls.length - 1 - i) i))->(Ls[0]?=some p0)->(x∈p0)->N9 W Ls->(Ls.length<=10000)->uG κ C H f W L->((∀(i:Nat) ps x,Ls[i]?=some ps->i+1 < Ls.length->x∈ps->L i x))->(∀q H',aO H H'->H q=none->H' q=some (.lst ((oq W (Ls.length - 1) 0 x).map V.int))->Q (.ref q) H')->uH K C vs H Q E
theorem aFX(tx:Txt K mg a):cE P w K mg base hU 10 a.pZ a.p9 aWa (uH K (xg P w K mg base (8+1))):=by
 have aFY:=aEo (P:=P) (w:=w) (base:=base) tx;refine tx.wU.ok iW (by walk_at "l") λbh A outer s H vs Q E hr h=>?_;obtain⟨α,κ,v,x,p0,lw,f,Ls,W,L,rfl ,hv,mx,hp0,hx0,av,hlen,hW,hL,k⟩:=h;have hu:=lT hr;refine bE (aE (aI (i:=3) iW.nd (eW aC))
  (aE (bU PassesOwn.never rfl (cN (by rfl) tx.eQ (aA (aK hJ (aH (rc:=jR K) bS (by rfl) tx.eO dH (aA (aB 1) aC)) aD) aC)) (aM (i:=4) iW.nd) (aE (aI (i:=5) iW.nd (ay aFY hr tx.aAR tx.tQ.kp tx.aAQ (aA (vT (P:=P) (w:=w) (K:=K) (mg:=mg) (base:=base) (i:=2) (k:=8+1) (hr.mono (by decide)) (aA (aB 4) (aA (aB 0) aC))) (aA (aJ (K':=K) (aB 1) (aK bX (aB 4) aD)) aC))))
  (aE (cW (dU (K':=K) (aB 3) (aA (aJ (K':=K) (aB 5) aD) aC)))
  (aG (aI (i:=0) iW.nd (aJ (K':=K) (aB 5) aD))))))
  (aG (aN (aB 3))))) ?_
 obtain⟨ds,tm,uo,Xd⟩:=mx.ex;obtain⟨vp,hC,hp⟩:=hW.ex;have pos:=av.pos;obtain⟨n,hn⟩ : ∃n,Ls.length=n+1:=⟨Ls.length - 1,by lia⟩
 refine aW (σ:=[some v,some (.ref lw),some (.ref f),none,none,none]) rfl ?_;walk_at "w";intro lr BP;obtain⟨H1,i1,s1,g1⟩:=nw _ BP;rw[i1];have a0v:=s1 _ _ tm;walk_at "w";refine⟨by rw[bK];lia,by rw[bK];lia,?_⟩;rw[show(((ds.map V.ref).length:Int) - 1).toNat=n by rw[bK,uo,hn];lia];refine iO (n:=n) (λi σ' H'=>aO H H'/\∃(row:aa) (u:V) (y:α) (ps:List α) (z4 z5:Option V),σ'=[some u,some (.ref lw),some (.ref f),some (.ref lr),z4,z5]/\H' lr=some (.lst (row.map V.int))/\row.length=i/\κ.pv H' u y/\Ls[i]?=some ps/\y∈ps/\row++oq W (n - i) i y=oq W n 0 x)
  ⟨s1,[],v,x,p0,_,_,rfl,g1,rfl,κ.jM hv s1,hp0,hx0,rfl⟩ (λi σ' H' hi R9=>?_) (λσ' H' R8=>?_)
 ·obtain⟨s',row,u,y,ps,z4,z5,e,gr,Eh,py,EO,hy,bw⟩:=R9;subst e;have eq:Ls[i+1]?=some Ls[i+1]:=cG (by lia);have ed:ds[i+1]?=some ds[i+1]:=cG (by lia);have Mc:=Xd (i+1) _ _ ed eq;generalize ds[i+1]=dx at ed Mc;generalize Ls[i+1]=qs at eq Mc;obtain⟨n1,n2⟩:=av.ne i ps y EO (by lia) hy;have Xm:=s' _ _ tm;have ix:pC (ds.map V.ref) ((0+(i:Int))+1)=some (.ref dx):=by
   rw[show(0+(i:Int))+1=((i+1:Nat):Int) by push_cast;lia];exact cO (fQ ed)
  walk_at "w";refine PB rfl hC ?_;walk_at "w";rw[show(0+(i:Int))=(i:Int) by lia];refine hp H' i u y _ s' (hL i ps y EO (by lia) hy) py λl H2 s2 Ep=>?_;have a0u:=s2 _ _ Xm;have ix2:pC (ds.map V.ref) ((i:Int)+1)=some (.ref dx):=by rw[<-ix,show(0+(i:Int))=(i:Int) by lia]
  walk_at "w";refine⟨α,κ,l,dx,W i y,qs,_,rfl,Ep,κ.fS Mc (s'.trans s2),n1,n2,λw hw=>av.on i ps qs y w EO eq hy hw,λa w H3 s3 fw hA=>?_⟩;obtain⟨vv,ga,Dh⟩:=hA;have Ic:=(s2.trans s3) _ _ gr;have hwm:w∈W i y:=by
   unfold mC at fw;exact Qw fw
  walk_at "w";refine hV (bR.of Ic) ?_;walk_at "w";refine lU (xs:=row.map V.int) Ic (rT (by rw[bK];lia:(row.map V.int).length < 20000) (bZ (by decide))) ?_;obtain⟨H4,i4,k4,g4⟩:=wr H3 lr _;rw[i4];have na:a≠lr:=λz=>by rw[z,Ic] at ga;cases ga
  have ga4:=k4 _ _ ga na;have WZ:κ.pv H4 vv w.2.1:=κ.Fp Dh Ic k4;walk_at "w";refine⟨λb o e=>k4 _ _ ((s'.trans (s2.trans s3)) _ _ e) (bJ BP e),row ++ [w.1],vv,w.2.1,qs,_,_,rfl,by rw[g4,iJ];rfl,by rw[uN,Eh];rfl,WZ,eq,av.on i ps qs y w EO eq hy hwm,?_⟩;rw[<-bw,Bm];congr 1;obtain⟨m,hm⟩ : ∃m,n - i=m+1:=⟨n - i - 1,by lia⟩
  rw[hm,show n - (i+1)=m by lia];have fw':mC (wF W m (i+1)) (W i y)=some w:=by rw[<-fw,show Ls.length - 1 - (i+1)=m by lia]
  show _=(match mC (wF W m (i+1)) (W i y) with|none=>[]|some w=>w.1::oq W m (i+1) w.2.1)
  rw[fw'];rfl
 ·obtain⟨s',row,u,y,ps,z4,z5,e,gr,Eh,py,EO,hy,bw⟩:=R8;subst e;walk_at "w";rw[ou,show oq W 0 n y=[] from rfl,oz] at bw;refine k lr H' s' BP ?_;rw[gr,bw,hn,Bn]
def On(m:MS)(s s':ae):Prop:=∃on,jg on/\(s.1=on\/s.2=0)/\s'=pB m s.1 s.2 on
def Rc(m:MS)(a:ae):Nat->ae->Prop
 |0,s=>s=a
 |n+1,s=>∃q,Rc m a n q/\On m q s
def su(a b:ae):Prop:=a.1 < b.1\/(a.1=b.1/\a.2 < b.2)
def fu(m:MS)(s:ae):Prop:=(s.1=1/\0<=s.2/\s.2 < m.up)\/(s.1=0/\0<=s.2/\s.2 < 60)
theorem fu.st0{m:MS}(g:m.Good){s:ae}(h:fu m s):qz s.1 s.2:=by
 obtain⟨u0,u1⟩:=g.up;rcases h with ⟨a,b,c⟩|⟨a,b,c⟩
 ·exact⟨.inr a,b,by lia⟩
 ·exact⟨.inl a,b,c⟩
theorem Rc.st{m:MS}(g:m.Good){a:ae}(h:fu m a):∀{n:Nat}{s:ae},Rc m a n s->qz s.1 s.2/\(s.2 < 12\/(s.1=0/\s.2=a.2 - n))
 |0,s,hs=>by
  have hs':s=a:=hs;subst hs';obtain⟨u0,u1⟩:=g.up;refine⟨h.st0 g,?_⟩;rcases h with ⟨x,y,z⟩|⟨x,y,z⟩
  ·exact .inl (by lia)
  ·exact .inr ⟨x,by lia⟩
 |n+1,s,hs=>by
  obtain⟨q,hq,on,ka,may,rfl⟩:=hs;obtain⟨i1,i2⟩:=Rc.st g h hq;obtain⟨u0,u1⟩:=g.up;obtain⟨d0,d1⟩:=g.down;refine⟨i1.pB g ka,?_⟩;unfold My.pB;by_cases e:q.1=on
  ·rw[cJ e];rcases i2 with i2|⟨i2,i3⟩
   ·exact .inl (by show max (q.2 - 1) 0 < 12;lia)
   ·by_cases z:q.2 - 1 < 12
    ·exact .inl (by show max (q.2 - 1) 0 < 12;lia)
    ·refine .inr ⟨by show on=0;lia,?_⟩;show max (q.2 - 1) 0=a.2 - ((n+1:Nat):Int)
     lia
  ·rw[bV e];split
   ·exact .inl (by show m.up - 1 < 12;lia)
   ·exact .inl (by show m.down - 1 < 12;lia)
theorem aQC{x1 x2 y1 y2:Int}(a1:x1=0\/x1=1)(b1:y1=0\/y1=1)(a2:0<=x2)(b2:0<=y2)(c1:x2 < 12)(c2:y2 < 12)(z:(x1*12+x2).toNat=(y1*12+y2).toNat):x1=y1/\x2=y2:=by
 rcases a1 with rfl|rfl <;> rcases b1 with rfl|rfl <;> lia
theorem OK{x1 x2:Int}(a1:x1=0\/x1=1)(a2:0<=x2)(c1:x2 < 12):(x1*12+x2).toNat < 24:=by
 rcases a1 with rfl|rfl <;> lia
theorem aQD{x1 x2 y1 y2 d:Int}(c1:¬x2 < 12)(c2:¬y2 < 12)(a:x2 < 12\/(x1=0/\x2=d))(b:y2 < 12\/(y1=0/\y2=d)):x1=y1/\x2=y2:=by lia
theorem Rc.yT{m:MS}(g:m.Good){a:ae}(h:fu m a){n:Nat}{ks:ar}(nd:ks.Nodup)(hr:∀k∈ks,Rc m a n k):ks.length<=25:=by
 have:=Oa 25 (ks.map λk=>if k.2 < 12 then (k.1*12+k.2).toNat else 24) (by
  rw[List.Nodup,pd];refine nd.imp_of_mem ?_;intro x y hx hy En z;obtain⟨⟨a1,a2,a3⟩,a4⟩:=Rc.st g h (hr x hx);obtain⟨⟨b1,b2,b3⟩,b4⟩:=Rc.st g h (hr y hy);refine En ?_;by_cases c1:x.2 < 12 <;> by_cases c2:y.2 < 12
  ·rw[cJ c1,cJ c2] at z;obtain⟨u,v⟩:=aQC a1 b1 a2 b2 c1 c2 z;exact Prod.ext u v
  ·rw[cJ c1,bV c2] at z;exact absurd z (gM (OK a1 a2 c1))
  ·rw[bV c1,cJ c2] at z;exact absurd z.symm (gM (OK b1 b2 c2))
  ·obtain⟨u,v⟩:=aQD c1 c2 a4 b4;exact Prod.ext u v) (λx hx=>by
  obtain⟨k,hk,rfl⟩:=mD.mp hx;obtain⟨⟨a1,a2,a3⟩,a4⟩:=Rc.st g h (hr k hk);split
  ·rename_i c;exact nk (OK a1 a2 c)
  ·decide)
 simpa using this
structure rG(m:MS)(a:ae)(Ls:List (ar)):Prop where
 at_:∀(i:Nat) ps,Ls[i]?=some ps->ps.Pairwise su/\∀s,s∈ps↔Rc m a i s
theorem Ci{ps:ar}(h:ps.Pairwise su):ps.Nodup:=h.imp λ{a b} uv z=>by
 subst z;rcases uv with y|⟨_,y⟩ <;> lia
theorem aG8:∀{ps qs:ar},ps.Pairwise su->qs.Pairwise su->(∀s,s∈ps↔s∈qs)->ps=qs
 |[],[],_,_,_=>rfl
 |[],q::qs,_,_,h=>by have:=(h q).mpr (.head _);cases this
 |p::ps,[],_,_,h=>by have:=(h p).mp (.head _);cases this
 |p::ps,q::qs,h1,h2,h=>by
  obtain⟨a1,a2⟩:=Kl.mp h1;obtain⟨b1,b2⟩:=Kl.mp h2;have e:p=q:=by
   rcases lQ.mp ((h p).mp (.head _)) with z|z
   ·exact z
   ·rcases lQ.mp ((h q).mpr (.head _)) with y|y
    ·exact y.symm
    ·have x1:=b1 p z;have x2:=a1 q y;unfold su at x1 x2;lia
  subst e;congr 1;refine aG8 a2 b2 λs=>⟨λhs=>?_,λhs=>?_⟩
  ·rcases lQ.mp ((h s).mp (fh _ hs)) with z|z
   ·subst z;have:=a1 s hs;unfold su at this;lia
   ·exact z
  ·rcases lQ.mp ((h s).mpr (fh _ hs)) with z|z
   ·subst z;have:=b1 s hs;unfold su at this;lia
   ·exact z
def Ii(m:MS)(p:Int):Int:=p*m.least+gn p m.pieces
def NL(m:MS)(s:ae)(on:Int):Int:=Dx m s.1 [on]
def hw(m:MS)(p:Int)(s:ae)(on:Int):Int:=NL m s on - on*Ii m p
def xK(s:ae)(on:Int):Bool:=decide (s.1=on) || decide (s.2=0)
def dj(m:MS)(p:Int)(s:ae):List (Wy (ae)):=(([0,1]:aa).filter (xK s)).map λon=>(on,pB m s.1 s.2 on,hw m p s on)
def Wr(m:MS)(ps:aa)(i:Nat)(s:ae):List (Wy (ae)):=dj m (ps.getD i 0) s
theorem jO{s:ae}{on:Int}:xK s on=true↔s.1=on\/s.2=0:=by unfold xK;simp
theorem yN{p:Int}{s:ae}{w:Wy (ae)}:w∈dj m p s↔∃on,jg on/\(s.1=on\/s.2=0)/\w=(on,pB m s.1 s.2 on,hw m p s on):=by
 unfold dj;rw[mD];constructor
 ·rintro ⟨on,h,rfl⟩;obtain⟨h1,h2⟩:=xa.mp h;exact⟨on,by simpa [jg] using h1,jO.mp h2,rfl⟩
 ·rintro ⟨on,b,h,rfl⟩;exact⟨on,xa.mpr ⟨by simpa [jg] using b,jO.mpr h⟩,rfl⟩
theorem Fj{p:Int}{s:ae}(b:jg s.1):dj m p s≠[]:=λz=>by
 have:_∈dj m p s:=yN.mpr ⟨s.1,b,.inl rfl,rfl⟩;rw[z] at this;cases this
theorem JE(m:MS)(p:Int)(s:ae):(dj m p s).length<=2:=by
 unfold dj;rw[bK];exact FE ..
theorem aG9(m:MS)(p:Int)(s:ae):EY (dj m p s):=by
 unfold EY dj;rw[pd];exact List.Pairwise.filter _ (by simp)
theorem Pl{m:MS}(g:m.Good){a:ae}(h:fu m a)(qs:aa){Ls:List (ar)}(pos:0 < Ls.length)(hl:rG m a Ls):N9 (Wr m qs) Ls where
 pos:=pos
 nd:=λps hp=>by
  obtain⟨i,hi⟩:=pf hp;exact Ci (hl.at_ i ps hi).1
 yT:=λps hp=>by
  obtain⟨i,hi⟩:=pf hp;obtain⟨h1,h2⟩:=hl.at_ i ps hi;exact gj (Rc.yT g h (Ci h1) λk hk=>(h2 k).mp hk) (by decide)
 ne:=λi ps x hi _ hx=>by
  have:=((Rc.st g h (((hl.at_ i ps hi).2 x).mp hx)).1).1;exact⟨Fj this,gj (JE ..) (by decide)⟩
 on:=λi ps rs x w hi hj hx hw=>by
  obtain⟨on,b,may,rfl⟩:=yN.mp hw;exact((hl.at_ (i+1) rs hj).2 _).mpr ⟨x,((hl.at_ i ps hi).2 x).mp hx,on,b,may,rfl⟩
theorem aOk{m:MS}(g:m.Good){a:ae}(h:fu m a)(qs:aa)(n:Nat):Lay (Wr m qs) n (Rc m a) where
 ne:=λi x _ hx=>Fj ((Rc.st g h hx).1).1
 on:=λi x w _ hx hw=>by
  obtain⟨on,b,may,rfl⟩:=yN.mp hw;exact⟨x,hx,on,b,may,rfl⟩
def C7(m:MS)(qs:aa)(a:ae):Int:=wF (Wr m qs) qs.length 0 a
def D9(m:MS)(qs:aa)(a:ae):aa:=oq (Wr m qs) qs.length 0 a
def κS:PK (ae):=.tk jS λ_ _ h=>xJ h
theorem cQ.aR3(h:cQ C H q m)(e:H w=some (.dT kvs)):cQ C (del w H) q m:=by
 obtain⟨dx,pl,h1,h2⟩:=h.ex;obtain⟨qs,h3,h4⟩:=h2.ex;refine⟨dx,pl,o7 h1 (λz=>by rw[z,e] at h1;cases h1),qs,o7 h3 (λz=>by rw[z,e] at h3;cases h3),h4.len,λj a t h5 h6=>?_⟩;have h7:=h4.at_ j a t h5 h6;exact o7 h7 (λz=>by rw[z,e] at h7;cases h7)
theorem aOl(x:Option Int):(x.map V.int).getD (.int 0)=.int (x.getD 0):=by cases x <;> rfl
theorem Fi{ps:List WP}{i:Nat}(h:(enc ps)[i]?=some kv):∃p,ps[i]?=some p/\kv=(jS p.1,V.int p.2):=by
 unfold enc at h;rw[hE] at h;obtain⟨p,hp,e⟩:=yQ.mp h;exact⟨p,hp,e.symm⟩
theorem jP(ps:List WP):(enc ps).length=ps.length:=by unfold enc;rw[bK]
theorem aKb{ps:List WP}{k s:ae}{v:Int}:s∈(addW ps k v).map (·.1)↔s∈ps.map (·.1)\/s=k:=by
 unfold addW;by_cases h:ps.any (λp=>decide (p.1=k))=true
 ·rw[cJ h,zW];have e:((λp:WP=>p.1) ∘ λp:WP=>if p.1=k then (p.1,v) else p)=λp=>p.1:=by
   funext p
   show(if p.1=k then (p.1,v) else p).1=p.1;split <;> rfl
  rw[e];refine⟨.inl,λz=>?_⟩;rcases z with z|z
  ·exact z
  ·obtain⟨p,hp,e⟩:=Fz.mp h;rw[z];exact mD.mpr ⟨p,hp,zj e⟩
 ·rw[bV h,iJ,iy];simp
inductive xM  (K:W.Frag) (C:Addr) (vs:List V) (H:Hp) (Q:VK) (E:XK):Prop
 |mk:∀(q:Addr) (m:MS) (w:Addr) (ps:List WP),(vs=[.ref q,.ref w])->cQ C H q m->m.Good->(H w=some (.dT (enc ps)))->zc ps->(∀w' ic H',aO (del w H) H'->H w'=none->H' w'=some (.dT (enc ic))->zc ic->(∀s,s∈ic.map (·.1)↔∃q∈ps.map (·.1),On m q s)->Q (.ref w') H')->xM K C vs H Q E
theorem aDK(tx:Txt K mg a):cE P w K mg base hU 3 a.kE a.kG bba (xM K a.bH):=by
 have o6:=yL (P:=P) (w:=w) (base:=base) tx;have gR:=o5 (P:=P) (w:=w) (base:=base) tx;refine tx.qX.ok eY (by walk_at "l") λbh A outer s H vs Q E hr h=>?_;obtain⟨q,m,w,ps,rfl ,hm,hg,gw,hW,k⟩:=h;have hu:=lT hr;refine bE (aE (aI (i:=2) eY.nd lG)
  (aE (bU PassesOwn.never rfl (aBZ (aB 1)) (dS (K':=K) (n:=2) rfl (bB (aM (i:=3) eY.nd) (bB (aM (i:=4) eY.nd) dC))) (aG (bU PassesOwn.never rfl (sL (K':=K) (dF aD aD)) (aM (i:=5) eY.nd) (aG (bD (cK (ay o6 hr tx.wL tx.rN.kp tx.wK (aA (aB 0) (aA (aB 3) (aA (aB 5) aC))))) (aE (aI (i:=6) eY.nd (ay gR hr tx.kT tx.gP.kp tx.kS (aA (aB 0) (aA (aB 3) (aA (aB 5) aC)))))
  (aG (oG hu (aB 2) (aB 6) (aK bX (aGG hu (aB 2) (aB 6) aD) (aB 4))))) aU)))))
  (aG (aN (aB 2))))) ?_
 have hmD:=hm.aR3 gw;refine aW (σ:=[some (.ref q),some (.ref w),none,none,none,none,none]) rfl ?_;walk_at "w";refine aEV ?_;intro l nl;obtain⟨H1,i1,s1,g1⟩:=nw _ nl;rw[i1];have gw1:=s1 _ _ gw;have lw:l≠w:=λz=>by rw[z,gw] at nl;cases nl
 have nlD:del w H l=none:=by rw[ON lw];exact nl
 walk_at "w";refine aOA gw1 λob=>?_;obtain⟨H2,i2,k2,g2⟩:=wr H1 w _;rw[i2];have om:=k2 _ _ g1 lw;have S2:aO (del w H) H2:=λb o e=>k2 _ _ (s1 _ _ (aQA _ _ e)) (λz=>by rw[z,aOG] at e;cases e);refine aLE (kvs:=enc ps) (λi σ' H'=>∃(ic:List WP) (z3 z4 z5 z6:Option V),σ'=[some (.ref q),some (.ref w),some (.ref l),z3,z4,z5,z6]/\H' l=some (.dT (enc ic))/\zc ic/\(∀s,s∈ic.map (·.1)↔∃q∈(ps.take i).map (·.1),On m q s)/\aO (del w H) H'/\H' w=some (.bu ob (.dT (enc ps))))
  ⟨[],_,_,_,_,rfl,om,⟨Bh,λp hp=>by cases hp⟩,λs=>⟨(λh=>by cases h),(λ⟨q,h,_⟩=>by simp at h)⟩,S2,g2⟩ (λi σ' H' hi ⟨_,_,_,_,_,_,_,_,_,_,h⟩=>h) (λi kv σ' H' T b hk R7 nT gb=>?_) (λσ' H' R6=>?_)
 ·obtain⟨ic,z3,z4,z5,z6,e,gl,Mj,hs,S',gw'⟩:=R7;subst e;obtain⟨p,ep,rfl⟩:=Fi hk;have bq:=hW.st p (iI ep);have gb0:H' b=some (.tup [.int p.1.1,.int p.1.2]):=gb;obtain⟨H3,i3,s3,gT⟩:=nw _ nT;rw[i3];refine gW (mE.of gT) rfl ?_;walk_at "w";intro Tu Lp;obtain⟨H4,i4,s4,B3⟩:=nw _ Lp;rw[i4];have Mu:=(s3.trans s4) _ _ gl;have Mz:=(s3.trans s4) _ _ gb0;have gw4:=(s3.trans s4) _ _ gw';have S4:=S'.trans (s3.trans s4);have Tul:Tu≠l:=λz=>by rw[z,Mu] at B3;cases B3
  have bl:b≠l:=λz=>by rw[z,Mu] at Mz;cases Mz
  walk_at "w";refine Jl (mE.of B3) ?_;refine O4 (xs:=([0,1]:aa).map V.int) (λj σ' H'=>∃(ic:List WP) (z5 z6:Option V),σ'=[some (.ref q),some (.ref w),some (.ref l),some (.ref b),some (.int p.2),z5,z6]/\H' l=some (.dT (enc ic))/\zc ic/\(∀s,s∈ic.map (·.1)↔(∃q∈(ps.take i).map (·.1),On m q s)\/∃on∈([0,1]:aa).take j,(p.1.1=on\/p.1.2=0)/\s=pB m p.1.1 p.1.2 on)/\aO (del w H) H'/\bY l H4 H')
   ⟨ic,_,_,rfl,Mu,Mj,λs=>by rw[hs s];simp,S4,λ_ _ e _=>e⟩ (λj σ' H' hj ⟨_,_,_,_,_,_,_,_,h⟩=>mE.of (h _ _ B3 Tul)) (λj v σ' H5 hv R5=>?_) (λσ' H5 R4=>?_)
  ·obtain⟨ic,z5,z6,e,Ik,EC,Dg,S5,k5⟩:=R5;subst e;obtain⟨on,lg,rfl⟩:=yM hv;have ka:jg on:=by
    have:=iI lg;simp at this;exact this
   have gb5:=k5 _ _ Mz bl;have tk:([0,1]:aa).take (j+1)=([0,1]:aa).take j ++ [on]:=by rw[xb,lg];rfl
   walk_at "w";refine⟨_,b,_,_,on,rfl,gb5,?_⟩;by_cases cm:p.1.1=on\/p.1.2=0
   ·rw[show(decide (p.1.1=on) || decide (p.1.2=0))=true by simpa using cm];walk_at "w";refine⟨q,m,b,_,_,on,rfl,hmD.same S5,gb5,cm,λT2 H6 s6 HD MC=>?_⟩;have Mt:=s6 _ _ Ik;have gk:H6 T2=some (.tup ((jS (pB m p.1.1 p.1.2 on)).map kV)):=MC;have hle:=EC.len;walk_at "w";refine⟨l,rfl,.inr ⟨_,.inl Mt⟩,?_⟩;walk_at "w";refine⟨_,jU.t Mt gk,?_⟩;rw[JF,aOl];walk_at "w";refine⟨l,_,rfl,wx.t Mt gk (rT (by rw[jP];lia:(enc ic).length < 1000) (bZ (by decide))),?_⟩;rw[aOh];obtain⟨H7,i7,k7,g7⟩:=wr H6 l _;rw[i7];walk_at "w";refine⟨_,_,_,rfl,g7,EC.add (bq.pB hg ka) p.2,λs=>?_,λb o e=>k7 _ _ ((S5.trans s6) _ _ e) (bJ nlD e),k5.trans (s6.keep.trans k7)⟩;rw[aKb,Dg s,tk];constructor
    ·rintro ((h|⟨um,h1,h2⟩)|h)
     ·exact .inl h
     ·exact .inr ⟨um,FD _ h1,h2⟩
     ·exact .inr ⟨on,rf _ (.head _),cm,h⟩
    ·rintro (h|⟨um,h1,h2,h3⟩)
     ·exact .inl (.inl h)
     ·rcases iy.mp h1 with z|z
      ·exact .inl (.inr ⟨um,z,h2,h3⟩)
      ·rw[ff.mp z] at h3;exact .inr h3
   ·rw[show(decide (p.1.1=on) || decide (p.1.2=0))=false by simpa using cm];walk_at "w";refine⟨ic,_,_,rfl,Ik,EC,λs=>?_,S5,k5⟩;rw[Dg s,tk];constructor
    ·rintro (h|⟨um,h1,h2⟩)
     ·exact .inl h
     ·exact .inr ⟨um,FD _ h1,h2⟩
    ·rintro (h|⟨um,h1,h2,h3⟩)
     ·exact .inl h
     ·rcases iy.mp h1 with z|z
      ·exact .inr ⟨um,z,h2,h3⟩
      ·rw[ff.mp z] at h2;exact absurd h2 cm
  ·obtain⟨ic,z5,z6,e,Ik,EC,Dg,S5,k5⟩:=R4;subst e;refine⟨ic,_,_,_,_,rfl,Ik,EC,λs=>?_,S5,k5 _ _ gw4 (Ne.symm lw)⟩;rw[Dg s,take_snoc ep,iJ];constructor
   ·rintro (⟨q,h1,h2⟩|⟨um,h1,h2,h3⟩)
    ·exact⟨q,FD _ h1,h2⟩
    ·exact⟨p.1,rf _ (.head _),um,by simpa [jg] using h1,h2,h3⟩
   ·rintro ⟨q,h1,um,b1,h2,h3⟩;rcases iy.mp h1 with z|z
    ·exact .inl ⟨q,z,um,b1,h2,h3⟩
    ·rw[show q=p.1 by simpa using z] at h2 h3;exact .inr ⟨um,by rcases b1 with rfl|rfl <;> simp,h2,h3⟩
 ·obtain⟨ic,z3,z4,z5,z6,e,gl,Mj,hs,S',gw'⟩:=R6;subst e;walk_at "w";refine k l ic H' S' nl gl Mj λs=>?_;rw[hs s,jP,fe]
theorem OJ{t:TE}{σ σ':St}{H:Hp}{Q:VK}(e:σ'=σ)(h:t σ H Q):t σ' H Q:=e▸h
theorem RL.one{α:Type}{P:Addr->α->Prop}{x:α}(h:P a x):RL P [a] [x]:=⟨rfl,λj q u hq hu=>by
 match j,hq,hu with
 |0,hq,hu=>cases hq;cases hu;exact h
 |_+1,hq,_=>simp at hq⟩
theorem aMA(ps:List WP):(enc ps).map (·.1)=(ps.map λp=>[p.1.1,p.1.2]).map λt=>t.map Sum.inl:=by
 unfold enc;rw[zW,zW];rfl
theorem zH{ps:List WP}{qs:ah}{us:az}(nd:(ps.map (·.1)).Nodup)(hT:dW H qs us)(hp:us.Perm (ps.map λp=>[p.1.1,p.1.2]))(hs:us.Pairwise λa b=>gL b a=false) :
  ∃ks:ar,ks.Pairwise su/\(∀s,s∈ks↔s∈ps.map (·.1))/\uc κS H (qs.map V.ref) ks:=by
 have yd:∀u∈us,u=[u.getD 0 0,u.getD 1 0]:=λu hu=>by
  obtain⟨p,_,rfl⟩:=mD.mp (hp.mem_iff.mp hu);rfl
 have pk:(us.map λu=>(u.getD 0 0,u.getD 1 0)).Perm (ps.map (·.1)):=by
  have:=hp.map λu=>(u.getD 0 0,u.getD 1 0)
  rw[zW] at this;exact this
 have ndk:=pk.nodup_iff.mpr nd;refine⟨us.map λu=>(u.getD 0 0,u.getD 1 0),?_,λs=>pk.mem_iff,?_⟩
 ·rw[pd];have HB:us.Pairwise λa b=>(a.getD 0 0,a.getD 1 0)≠(b.getD 0 0,b.getD 1 0):=pd.mp ndk;refine(hs.and HB).imp_of_mem ?_;intro a b ha hb ⟨h1,h2⟩;rw[yd a ha,yd b hb] at h1;generalize a.getD 0 0=a0 at h1 h2 ⊢;generalize a.getD 1 0=a1 at h1 h2 ⊢;generalize b.getD 0 0=b0 at h1 h2 ⊢;generalize b.getD 1 0=b1 at h1 h2 ⊢;unfold su;show a0 < b0\/(a0=b0/\a1 < b1)
  by_cases e0:a0=b0
  ·subst e0;by_cases e1:a1=b1
   ·exact absurd (by rw[e1]) h2
   ·rw[cS,cJ rfl,cS,bV (λz=>e1 z.symm)] at h1;have:=of_decide_eq_false h1;lia
  ·rw[cS,bV (λz=>e0 z.symm)] at h1;have:=of_decide_eq_false h1;lia
 ·refine⟨by rw[bK,bK,hT.len],λi v x h1 h2=>?_⟩;rw[hE] at h1 h2;obtain⟨q,e1,rfl⟩:=yQ.mp h1;obtain⟨u,e2,rfl⟩:=yQ.mp h2;have:=(hT.at_ i q u e1 e2).1;rw[yd u (iI e2)] at this;exact⟨q,rfl,this⟩
inductive qK  (K:W.Frag) (C:Addr) (vs:List V) (H:Hp) (Q:VK) (E:XK):Prop
 |mk:∀(q:Addr) (m:MS) (t:Addr) (a:ae) (n:Nat),(vs=[.ref q,.ref t,.int (n:Int)])->cQ C H q m->m.Good->(H t=some (.tup [.int a.1,.int a.2]))->fu m a->(n<=1000)->(∀la Ls H',aO H H'->H la=none->DH κS H' la Ls->rG m a Ls->Ls.length=n+1->Q (.ref la) H')->qK K C vs H Q E
theorem aBh(tx:Txt K mg a):cE P w K mg base hU 4 a.gC a.gE aYa (qK K a.bH):=by
 have aEp:=aDK (P:=P) (w:=w) (base:=base) tx;refine tx.jY.ok eN (by walk_at "l") λbh A outer s H vs Q E hr h=>?_;obtain⟨q,m,t,st,n,rfl ,hm,hg,ht,bq,hn,k⟩:=h;have hu:=lT hr;refine bE (aE (aI (i:=3) eN.nd (aGF hu (aB 1) aD))
  (aE (aI (i:=4) eN.nd (j7 (j7 (aB 1))))
  (aE (bU PassesOwn.never rfl (cN (by rfl) tx.eQ (aA (aB 2) aC)) (aM (i:=5) eN.nd) (aE (aI (i:=3) eN.nd (ay aEp hr tx.y4 tx.qX.kp tx.y3 (aA (aB 0) (aA (aB 3) aC))))
  (aG (cW (dU (K':=K) (aB 4) (aA (aH (rc:=OX) (aFw rfl) (by rfl) tx.oZ xU (aA (aB 3) aC)) aC))))))
  (aG (aN (aB 4)))))) ?_
 refine aW (σ:=[some (.ref q),some (.ref t),some (.int (n:Int)),none,none,none]) rfl ?_;walk_at "w";intro w Le;obtain⟨H1,i1,s1,g1⟩:=nw _ Le;rw[i1];have ht1:=s1 _ _ ht;walk_at "w";refine⟨t,jS st,rfl,ht1,g1,?_⟩;obtain⟨H2,i2,k2,g2⟩:=wr H1 w _;rw[i2];have S2:aO H H2:=λb o e=>k2 _ _ (s1 _ _ e) (bJ Le e);walk_at "w";intro l0 Ed;obtain⟨H3,i3,s3,g3⟩:=nw _ Ed;rw[i3];walk_at "w";intro la vx;obtain⟨H4,i4,s4,g4⟩:=nw _ vx;rw[i4];have S4:aO H H4:=S2.trans (s3.trans s4);have xi:H la=none:=(S2.trans s3).free vx;have MD:=(s3.trans s4) _ _ g2;have g34:=s4 _ _ g3;have LL:=S4 _ _ ht;have wla:w≠la:=λz=>by rw[z,g4] at MD;cases MD
 walk_at "w";refine⟨by lia,by lia,?_⟩;refine iO (λi σ' H'=>∃(w:Addr) (ps:List WP) (as:ah) (Ls:List (ar)) (z5:Option V),σ'=[some (.ref q),some (.ref t),some (.int (n:Int)),some (.ref w),some (.ref la),z5]/\H w=none/\H' w=some (.dT (enc ps))/\zc ps/\(∀s,s∈ps.map (·.1)↔Rc m st i s)/\aO H H'/\H' la=some (.lst (as.map V.ref))/\RL (λb ps=>∃us,H' b=some (.lst us)/\uc κS H' us ps/\b≠la) as Ls/\rG m st Ls/\Ls.length=i+1)
  ⟨w,[(st,1)],[l0],[[st]],_,rfl,Le,MD,⟨by simp,λp hp=>by rw[ff.mp hp];exact bq.st0 hg⟩,?_,S4,g4,RL.one ⟨_,g34,⟨rfl,λi v x h1 h2=>?_⟩,λz=>?_⟩,⟨λi ps hi=>?_⟩,rfl⟩ (λi σ' H' hi R3=>?_) (λσ' H' R1=>?_)
 ·intro s;show s∈[st]↔s=st;simp
 ·match i,h1,h2 with
  |0,h1,h2=>cases h1;cases h2;exact⟨t,rfl,LL⟩
  |_+1,h1,_=>simp at h1
 ·rw[z,vx] at g3;cases g3
 ·match i,hi with
  |0,hi=>cases hi;exact⟨by simp,λs=>by show s∈[st]↔s=st;simp⟩
  |_+1,hi=>simp at hi
 ·obtain⟨w',ps,as,Ls,z5,e,nw',gw,hW,hk,S',wq,yq,hL,lL⟩:=R3;subst e;walk_at "w";refine⟨q,m,w',ps,rfl,hm.same S',hg,gw,hW,λw2 BN H5 s5 nw2 Ib Mi hk2=>?_⟩;have S5:aO H H5:=λb o e=>s5 _ _ (o7 (S' _ _ e) (bJ nw' e));have ug:H5 la=some (.lst (as.map V.ref)):=s5 _ _ (o7 wq λz=>by rw[z,gw] at wq;cases wq);have L6:∀s,s∈BN.map (·.1)↔Rc m st (i+1) s:=λs=>by
   rw[hk2 s];exact⟨λ⟨p,h1,h2⟩=>⟨p,(hk p).mp h1,h2⟩,λ⟨p,h1,h2⟩=>⟨p,(hk p).mpr h1,h2⟩⟩
  have yT:=Rc.yT hg bq Mi.nd λk hk=>(L6 k).mp hk;rw[bK] at yT;have ie:=yq.len;walk_at "w";refine hV (bR.of ug) ?_;walk_at "w";refine aLX Ib (aMA BN) (λt ht=>by obtain⟨p,_,rfl⟩:=mD.mp ht;simp) (by rw[bK];lia) λp qs us np hT hp hs=>?_;obtain⟨ks,k1,k2',k3⟩:=zH Mi.nd hT hp hs;obtain⟨H6,i6,s6,g6⟩:=nw _ np;rw[i6];have xh:p≠la:=λz=>by rw[z,ug] at np;cases np
  walk_at "w";refine lU (xs:=as.map V.ref) (s6 _ _ ug) (rT (by rw[bK];lia:(as.map V.ref).length < 20000) (bZ (by decide))) ?_;obtain⟨H7,i7,k7,g7⟩:=wr H6 la _;rw[i7];have SH:w2≠la:=λz=>by rw[z,ug] at Ib;cases Ib
  walk_at "w";have hR:RL (λb ps=>∃us,H7 b=some (.lst us)/\uc κS H7 us ps/\b≠la) (as ++ [p]) (Ls ++ [ks]):=by
   refine RL.snoc (yq.imp λb ps zq=>?_) ⟨_,k7 _ _ g6 xh,⟨k3.1,λi v x h1 h2=>PK.Fp (κS.jM (k3.2 i v x h1 h2) s6) (s6 _ _ ug) k7⟩,xh⟩;obtain⟨us,a1,a2,a3⟩:=zq;have Qq:H5 b=some (.lst us):=s5 _ _ (o7 a1 λz=>by rw[z,gw] at a1;cases a1);refine⟨us,k7 _ _ (s6 _ _ Qq) a3,⟨a2.1,λi v x h1 h2=>?_⟩,a3⟩;obtain⟨b',e',jx⟩:=a2.2 i v x h1 h2;exact PK.Fp (κS.jM (H:=H5) ⟨b',e',s5 _ _ (o7 jx λz=>by rw[z,gw] at jx;cases jx)⟩ s6) (s6 _ _ ug) k7
  have Mm:rG m st (Ls ++ [ks]):=by
   refine⟨λj rs hj=>?_⟩;by_cases dk:j < Ls.length
   ·rw[kr dk] at hj;exact hL.at_ j rs hj
   ·have BX:j < (Ls ++ [ks]).length:=(g0.mp hj).1;rw[uN,Ar] at BX;obtain rfl:j=Ls.length:=by lia
    rw[nu (d7 _),ou] at hj;cases hj;refine⟨k1,λs=>?_⟩;rw[k2' s,L6 s,lL]
  exact⟨w2,BN,as ++ [p],Ls ++ [ks],_,rfl,S'.free nw2,k7 _ _ (s6 _ _ Ib) SH,Mi,L6,λb o e=>k7 _ _ (s6 _ _ (S5 _ _ e)) (bJ xi e),by rw[g7,iJ];rfl,hR,Mm,by rw[uN,lL];rfl⟩
 ·obtain⟨w',ps,as,Ls,z5,e,nw',gw,hW,hk,S',wq,yq,hL,lL⟩:=R1;subst e;walk_at "w";exact k la Ls H' S' xi ⟨as,wq,yq.imp λb ps ⟨us,a1,a2,_⟩=>⟨us,a1,a2⟩⟩ hL (by lia)
inductive zJ  (K:W.Frag) (C:Addr) (vs:List V) (H:Hp) (Q:VK) (E:XK):Prop
 |mk:∀(q:Addr) (m:MS) (t:Addr) (a:ae),(vs=[.ref q,.ref t])->cQ C H q m->m.Good->(H t=some (.tup [.int a.1,.int a.2]))->qz a.1 a.2->(∀l H',aO H H'->uF κS H' l ((([0,1]:aa).filter (xK a)).map λon=>(on,pB m a.1 a.2 on,NL m a on))->Q (.ref l) H')->zJ K C vs H Q E
theorem aEq(tx:Txt K mg a):cE P w K mg base hU 7 a.nB a.nC aTa (zJ K a.bH):=by
 have o6:=yL (P:=P) (w:=w) (base:=base) tx;have aIq:=aG7 (P:=P) (w:=w) (base:=base) tx;have gR:=o5 (P:=P) (w:=w) (base:=base) tx;refine tx.tR.ok aEd (by walk_at "l") λbh A outer s H vs Q E hr h=>?_;obtain⟨q,m,t,st,rfl ,hm,hg,ht,bq,k⟩:=h;have hu:=lT hr;refine bE (aG (aN (bW (k:=1) (idx:=[0,1]) (N:=["on","machine","state"]) (cU (sc:=aL mP) (NX:=aTa) rfl rfl rfl (by decide +kernel)) rfl (sL (K':=K) (dF aD aD)) (λ_ _ _ _=>(aM (i:=0) (show(["on","machine","state"]:ak).Nodup by decide +kernel))) (cV (by decide)) (λ_ _ _ _=>(sI (cK (ay o6 hr tx.wL tx.rN.kp tx.wK (aA (aB 1) (aA (aB 2) (aA (aB 0) aC))))))) (λ_ _ _ _=>(aIH (aB 0) (ay gR hr tx.kT tx.gP.kp tx.kS (aA (aB 1) (aA (aB 2) (aA (aB 0) aC)))) (ay aIq hr tx.aDw tx.Qc.kp tx.aDv (aA (aB 1) (aA (aB 2) (aA (j7 (aB 0)) aC))))))))) ?_;refine aW (σ:=[some (.ref q),some (.ref t)]) rfl ?_;walk_at "w";intro Tu Lp;obtain⟨H1,i1,s1,B3⟩:=nw _ Lp;rw[i1];refine Jl (mE.of B3) ?_
 refine aK1 (xs:=([0,1]:aa).map V.int) (λj us H'=>aO H1 H'/\∃as:ah,us=as.map V.ref/\as.length<=j/\RL (Bc κS H') as (((([0,1]:aa).take j).filter (xK st)).map λon=>(on,pB m st.1 st.2 on,NL m st on))) ⟨aO.refl _,[],rfl,d7 _,RL.nil⟩ (bZ (by simp))
  (λj us H' hj ⟨s',as,e,la,r⟩=>⟨mE.of (s' _ _ B3),by rw[e,bK];exact la⟩) (λj v us H' hv R0=>?_) (λus H' RZ=>?_)
 ·obtain⟨s',as,e,la,r⟩:=R0;obtain⟨on,lg,rfl⟩:=yM hv;have ka:jg on:=by
   have:=iI lg;simp at this;exact this
  have tk:([0,1]:aa).take (j+1)=([0,1]:aa).take j ++ [on]:=by rw[xb,lg];rfl
  have S':=s1.trans s';have uq:=S' _ _ ht;walk_at "w";refine⟨_,t,_,_,on,rfl,uq,?_⟩;by_cases cm:st.1=on\/st.2=0
  ·have Eu:xK st on=true:=jO.mpr cm;rw[show(decide (st.1=on) || decide (st.2=0))=true from Eu];walk_at "w";refine⟨q,m,t,_,_,on,rfl,hm.same S',uq,cm,λT2 H3 s3 HD MC=>?_⟩;walk_at "w";intro lo nlo;obtain⟨H4,i4,s4,g4⟩:=nw _ nlo;rw[i4];walk_at "w";refine⟨q,m,t,_,_,lo,[on],rfl,hm.same (S'.trans (s3.trans s4)),hg,(s3.trans s4) _ _ uq,g4,by simp,?_,λH5 s5=>?_⟩
   ·show(if st.1=on\/st.2=0 then _ else _)=_;rw[cJ cm];rfl
   walk_at "w";intro T nT;obtain⟨H6,i6,s6,g6⟩:=nw _ nT;rw[i6];have s36:=s3.trans (s4.trans (s5.trans s6));refine⟨s'.trans s36,as ++ [T],by rw[e,iJ];rfl,by rw[uN];simp;lia,?_⟩;rw[tk,Aq,iJ,FF Eu];exact RL.snoc (r.imp λ_ _ z=>z.same s36) ⟨_,g6,T2,rfl,(s4.trans (s5.trans s6)) _ _ MC⟩
  ·have Eu:xK st on=false:=by cases h:xK st on;rfl;exact absurd (jO.mp h) cm
   rw[show(decide (st.1=on) || decide (st.2=0))=false from Eu];walk_at "w";refine⟨s',as,e,by lia,?_⟩;rw[tk,Aq,iJ,Ku (by rw[Eu];simp)];simpa using r
 ·obtain⟨s',as,e,la,r⟩:=RZ;intro l nl;obtain⟨H3,i3,s3,g3⟩:=nw _ nl;rw[i3];walk_at "w";exact k l H3 (s1.trans (s'.trans s3)) ⟨as,by rw[g3,e],r.imp λ_ _ z=>z.same s3⟩
inductive uI  (K:W.Frag) (C:Addr) (vs:List V) (H:Hp) (Q:VK) (E:XK):Prop
 |mk:∀(q:Addr) (m:MS) (t:Addr) (a:ae) (p:Int),(vs=[.ref q,.ref t,.int p])->cQ C H q m->m.Good->(H t=some (.tup [.int a.1,.int a.2]))->qz a.1 a.2->(0<=p)->(p<=1000000000001)->(∀l H',aO H H'->uF κS H' l (dj m p a)->Q (.ref l) H')->uI K C vs H Q E
theorem uJ(tx:Txt K mg a):cE P w K mg base hU 8 a.qA a.qB ava (uI K a.bH):=by
 have aDL:=aCx (P:=P) (w:=w) (base:=base) tx;have aF0:=aEq (P:=P) (w:=w) (base:=base) tx;refine tx.lO.ok aFH (by walk_at "l") λbh A outer s H vs Q E hr h=>?_;obtain⟨q,m,t,st,pr,rfl ,hm,hg,ht,bq,p0,p1,k⟩:=h;have hu:=lT hr;refine bE (aG (aN (bW (k:=3) (idx:=[0,2]) (N:=aya) (cU (sc:=aL pH) (NX:=ava) rfl rfl rfl (by decide +kernel)) rfl (bF (K':=K) (ay aF0 hr tx.aAT tx.tR.kp tx.aAS (aA (aB 0) (aA (aB 1) aC)))) (λ_ _ _ _=>(dS (K':=K) (n:=3) rfl (bB (aM (i:=0) (show(aya:ak).Nodup by decide +kernel)) (bB (aM (i:=1) (show(aya:ak).Nodup by decide +kernel)) (bB (aM (i:=2) (show(aya:ak).Nodup by decide +kernel)) dC))))) (sC (cR (by decide) (cR (by decide) (cR (by decide) oC)))) (λ_ _ _ _=>bQ) (λ_ _ _ _=>(aIH (aB 0) (aB 1) (aK hJ (aB 2) (aK cT (aB 0) (aHK (aB 3) tx.cY tx.cx (aDL) (hr.mono (by decide)) tx.wI .nil aV (aA (aB 4) aC))))))))) ?_;refine aW (σ:=[some (.ref q),some (.ref t),some (.int pr)]) rfl ?_
 walk_at "w";refine⟨q,m,t,st,rfl,hm,hg,ht,bq,λl H1 s1 LH=>?_⟩;obtain⟨as,gl,rl⟩:=LH.ex;have ie:=rl.len;have Ge:=JE m pr st;unfold dj at Ge;rw[bK] at ie Ge;refine fA (bR.of gl) ?_;refine cM (xs:=as.map V.ref) (λj us H'=>aO H1 H'/\∃bs:ah,us=bs.map V.ref/\RL (Bc κS H') bs ((dj m pr st).take j)) ⟨aO.refl _,[],rfl,RL.nil⟩ (bZ (by rw[bK];lia))
  (λj us H' hj ⟨s',bs,e,r⟩=>⟨bR.of (s' _ _ gl),by rw[e,bK,r.len,xT];lia⟩) (λj v us H' hv RY=>?_) (λus H' RX=>?_)
 ·obtain⟨s',bs,e,r⟩:=RY;obtain⟨a1,w,ea,rfl,ew,vv,g1,hp⟩:=rl.gt hv;rw[hE] at ew;obtain⟨on,lg,rfl⟩:=yQ.mp ew;have er:(dj m pr st)[j]?=some (on,pB m st.1 st.2 on,hw m pr st on):=by unfold dj;rw[hE,lg];rfl
  obtain⟨b,rfl,hb⟩:=hp;have ka:0<=on/\on<=1:=by
   have:=(xa.mp (iI lg)).1;simp at this;lia
  obtain⟨bo0,bo1⟩:=ka;refine gW (mE.of (s' _ _ g1)) rfl ?_;walk_at "w";have Di:=hm.same (s1.trans s');obtain⟨dx,pl,hq,_⟩:=Di.ex;refine⟨q,dx,_,rfl,hq,rfl,?_⟩;walk_at "w";refine⟨q,m,pr,rfl,Di,hg,p0,p1,?_⟩;walk_at "w";intro T nT;obtain⟨H3,i3,s3,g3⟩:=nw _ nT;rw[i3];refine⟨s'.trans s3,bs ++ [T],by rw[e,iJ];rfl,?_⟩;rw[cL er];exact RL.snoc (r.imp λ_ _ z=>z.same s3) ⟨_,g3,b,rfl,(s'.trans s3) _ _ hb⟩
 ·obtain⟨s',bs,e,r⟩:=RX;intro l2 Ll;obtain⟨H3,i3,s3,g3⟩:=nw _ Ll;rw[i3];walk_at "w";rw[bK,ie,show(([0,1]:aa).filter (xK st)).length=(dj m pr st).length by unfold dj;rw[bK],fe] at r;exact k l2 H3 (s1.trans (s'.trans s3)) ⟨bs,by rw[g3,e],r.imp λ_ _ z=>z.same s3⟩
theorem PX{a:Adr}{m:MS}{ps:aa}(C:Addr->Sp->Prop)(f:Addr)(vp:Sp)(hC:C f vp)(hs:cQ a.bH H x m)(hg:m.Good)(hq:H q=some (.lst (ps.map V.int)))(ha:∀n∈ps,Am n)(h:∀(H':Hp) (h:Nat) (b:Addr) (p:Int) (Q:VK),aO H H'->H' q=some (.lst (ps.map V.int))->pC (ps.map V.int) (h:Int)=some (.int p)->uI K a.bH [.ref x,.ref b,.int p] H' Q E0->vp [.int (h:Int),.ref b] H' Q E0) :
  uG κS C H f (Wr m ps) λi y=>i < ps.length/\qz y.1 y.2:=by
 refine⟨vp,hC,λH' i v y Q s' hL Dh hk=>?_⟩;obtain⟨b,rfl,hb⟩:=Dh;obtain⟨hi,hy⟩:=hL;have ep:ps[i]?=some ps[i]:=cG hi;obtain⟨a0,a1⟩:=ha _ (lu hi);refine h H' i b ps[i] Q s' (s' _ _ hq) (cO (by rw[hE,ep];rfl)) ⟨x,m,b,y,ps[i],rfl,hs.same s',hg,hb,hy,a0,by lia,λl H2 s2 hw=>hk l H2 s2 ?_⟩;unfold Wr;rw[yP,ep];exact hw
inductive mH  (K:W.Frag) (C t:Addr) (vs:List V) (H:Hp) (Q:VK) (E:XK):Prop
 |mk:∀(x:Addr) (m:MS) (b:Addr) (a:ae) (q:Addr) (ps:aa),(vs=[.ref x,.ref b,.ref q])->(H t=some (.gi cZ c8))->cQ C H x m->m.Good->(H b=some (.tup [.int a.1,.int a.2]))->fu m a->(H q=some (.lst (ps.map V.int)))->((∀n∈ps,Am n))->(ps.length<=48)->(∀r Ls H',aO H H'->H r=none->rG m a Ls->Ls.length=ps.length+1->qt κS H' r Ls (λi=>wF (Wr m ps) (Ls.length - 1 - i) i)->Q (.ref r) H')->mH K C t vs H Q E
theorem mI(tx:Txt K mg a):cE P w K mg base hU 12 a.fF a.d8 kf (mH K a.bH a.dE):=by
 have aBP:=aBh (P:=P) (w:=w) (base:=base) tx;have aBi:=λbo:Heap=>aBg (P:=P) (w:=w) (base:=bo) tx;refine tx.fG.Lb tx.iD mG (λvs H Q E h=>?_) (λA outer s H vs Q E hr h=>?_)
 ·obtain⟨x,m,b,st,q,ps,rfl,_⟩:=h;rfl
 ·obtain⟨x,m,b,st,q,ps,rfl ,gt,hm,hg,hb,bq,hq,ha,hl,k⟩:=h;have hu:=lT hr;refine bE (aE (aI (i:=3) mG.nd (ay aBP hr tx.rR tx.jY.kp tx.rQ (aA (aB 0) (aA (aB 1) (aA (aH (rc:=jR K) bS (by rfl) tx.eO dH (aA (aB 2) aC)) aC)))))
   (aG (aN (vS (psL:=bia) (N:=aka) (idx:=[0,2]) (sp:=λC=>jN K C) (kc:=8) (aBi) (hr.mono (by decide)) (by rfl) tx.rP tx.jX.kp tx.rO (λ_=>rfl) (cU (sc:=aL cH) (NX:=a1a) rfl rfl rfl (by decide +kernel)) rfl rfl rfl rfl (λ_ _ _ _ us hl=>by obtain⟨_,_,rfl⟩:=EX us hl;rfl) (iA (aB 3) (Ql (N:=aka) (n:=2) (idx:=[0,2]) rfl tx.iD.hd rfl rfl (cU (sc:=aL cH) (NX:=a1a) rfl rfl rfl (by decide +kernel)))) (λ_ _ _ _ _ _ _ _ hr hu=>(aF (uJ tx) (hr.mono (by decide)) (by rfl) tx.qH tx.lO.kp tx.qG .nil aV (aA (aB 2) (aA (aB 1) (aA (aJ (K':=K) (aB 3) (aB 0)) aC))))))))) ?_
  refine aW (σ:=[some (.ref x),some (.ref b),some (.ref q),none]) rfl ?_;walk_at "w";refine⟨x,m,b,st,ps.length,by rw[bK],hm,hg,hb,bq,by lia,λla Ls H1 s1 vx L0 hL lL=>?_⟩;walk_at "w";refine⟨s1 _ _ gt,λf c' H3 Cc s3 hc hC=>?_⟩;have gg:=s1.trans s3;refine⟨ae,κS,la,f,Ls,Wr m ps,_,rfl,L0.same s3,Pl hg bq ps (by lia) hL,by lia,PX (K:=K) (a:=a) Cc f _ hC (hm.same gg) hg (gg _ _ hq) ha (λH' h b' p Q s' gq hp gh=>?_),λi qs y e1 e2 hy=>?_,λr H4 s4 nr hd=>?_⟩
  ·refine⟨s' _ _ hc,rfl,?_⟩;refine OJ (σ:=[some (.int (h:Int)),some (.ref b'),some (.ref x),some (.ref q)]) rfl ?_;walk_at "w";exact gh
  ·exact⟨by lia,(Rc.st hg bq (((hL.at_ i qs e1).2 y).mp hy)).1⟩
  ·exact k r Ls H4 (gg.trans s4) (gg.free nr) hL lL hd
inductive uW  (K:W.Frag) (C t1 t2:Addr) (vs:List V) (H:Hp) (Q:VK) (E:XK):Prop
 |mk:∀(x:Addr) (m:MS) (b:Addr) (a:ae) (q:Addr) (ps:aa),(vs=[.ref x,.ref b,.ref q])->(H t1=some (.gi cZ c8))->(H t2=some (.gi gY gZ))->cQ C H x m->m.Good->(H b=some (.tup [.int a.1,.int a.2]))->fu m a->(H q=some (.lst (ps.map V.int)))->((∀n∈ps,Am n))->(ps.length<=48)->(∀T r H',aO H H'->H r=none->H' T=some (.tup [.int (C7 m ps a),.ref r])->H' r=some (.lst ((D9 m ps a).map V.int))->Q (.ref T) H')->uW K C t1 t2 vs H Q E
theorem aCA(tx:Txt K mg a):cE P w K mg base hU 13 a.jG a.fT kf (uW K a.bH a.dE a.jJ):=by
 have iE:=mI (P:=P) (w:=w) (base:=base) tx;have aF1:=λbo:Heap=>aFX (P:=P) (w:=w) (base:=bo) tx;refine tx.oU.Lb tx.oY lX (λvs H Q E h=>?_) (λA outer s H vs Q E hr h=>?_)
 ·obtain⟨x,m,b,st,q,ps,rfl,_⟩:=h;rfl
 ·obtain⟨x,m,b,st,q,ps,rfl ,EH,Mq,hm,hg,hb,bq,hq,ha,hl,k⟩:=h;have hu:=lT hr;refine bE (aE (aI (i:=3) lX.nd (ay iE hr tx.iC tx.fG.kp tx.iB (aA (aB 0) (aA (aB 1) (aA (aB 2) aC)))))
   (aE (aI (i:=4) lX.nd (vS (psL:=bia) (N:=aka) (idx:=[0,2]) (sp:=λC=>uH K C) (kc:=8) (aF1) (hr.mono (by decide)) (by rfl) tx.aB8 tx.wU.kp tx.aB7 (λ_=>rfl) (cU (sc:=aL dJ) (NX:=aVa) rfl rfl rfl (by decide +kernel)) rfl rfl rfl rfl (λ_ _ _ _ us hl=>by obtain⟨_,_,rfl⟩:=EX us hl;rfl) (iA (aB 1) (iA (aB 3) (Ql (N:=aka) (n:=2) (idx:=[0,2]) rfl tx.oY.hd rfl rfl (cU (sc:=aL dJ) (NX:=aVa) rfl rfl rfl (by decide +kernel))))) (λ_ _ _ _ _ _ _ _ hr hu=>(aF (uJ tx) (hr.mono (by decide)) (by rfl) tx.qH tx.lO.kp tx.qG .nil aV (aA (aB 2) (aA (aB 1) (aA (aJ (K':=K) (aB 3) (aB 0)) aC)))))))
   (aG (aN (dF (eM hu (aJ (K':=K) (aB 3) aD) (aB 1)) (aB 4)))))) ?_
  refine aW (σ:=[some (.ref x),some (.ref b),some (.ref q),none,none]) rfl ?_;walk_at "w";refine⟨x,m,b,st,q,ps,rfl,EH,hm,hg,hb,bq,hq,ha,hl,λlw Ls H1 s1 sv hL lL hd=>?_⟩;walk_at "w";refine⟨s1 _ _ Mq,λf c' H3 Cc s3 hc hC=>?_⟩;have gg:=s1.trans s3;have Dq:Ls[0]?=some Ls[0]:=cG (by lia);have El:st∈Ls[0]:=((hL.at_ 0 _ Dq).2 st).mpr rfl;refine⟨ae,κS,.ref b,st,Ls[0],lw,f,Ls,Wr m ps,_,rfl,⟨b,rfl,gg _ _ hb⟩,hd.same s3,Dq,El,Pl hg bq ps (by lia) hL,by lia,PX (K:=K) (a:=a) Cc f _ hC (hm.same gg) hg (gg _ _ hq) ha (λH' h b' p Q s' gq hp gh=>?_),λi qs y e1 e2 hy=>?_,λr H4 s4 nr gr=>?_⟩
  ·refine⟨s' _ _ hc,rfl,?_⟩;refine OJ (σ:=[some (.int (h:Int)),some (.ref b'),some (.ref x),some (.ref q)]) rfl ?_;walk_at "w";exact gh
  ·exact⟨by lia,(Rc.st hg bq (((hL.at_ i qs e1).2 y).mp hy)).1⟩
  ·have BK:=gg.trans s4;obtain⟨ds,tm,uo,mx⟩:=(hd.same (s3.trans s4)).ex;have ed:ds[0]?=some ds[0]:=cG (by lia);have h0:=mx 0 _ _ ed Dq;generalize ds[0]=d0 at ed h0;have ix:pC (ds.map V.ref) 0=some (.ref d0):=cO (j:=0) (fQ ed);walk_at "w";refine⟨d0,_,rfl,κS.get (v:=.ref b) (x:=st) h0 ⟨b,rfl,BK _ _ hb⟩ El,?_⟩;walk_at "w";intro T nT;obtain⟨H5,i5,s5,g5⟩:=nw _ nT;rw[i5];walk_at "w";have e1:Ls.length - 1=ps.length:=by lia
   rw[e1] at gr;rw[Cm,e1] at g5;exact k T r H5 (BK.trans s5) (gg.free nr) g5 (s5 _ _ gr)
def AW(acc more:List (List Key×V)):List (List Key×V):=more.foldl (λacc kv=>putK acc kv.1 kv.2) acc
theorem aJk:∀(l acc:List (List Key×V)),(AW acc l).length<=acc.length+l.length
 |[],acc=>d7 _
 |kv::l,acc=>by
  have h1:=aJk l (putK acc kv.1 kv.2);have h2:=lB acc kv.1 kv.2;show(AW (putK acc kv.1 kv.2) l).length<=_;rw[yW];lia
theorem aMB{acc:List (List Key×V)}(h:∃q∈acc,q.1=k):(putK acc k v).length=acc.length:=by
 unfold putK;obtain⟨q,hq,e⟩:=h;rw[cJ (Fz.mpr ⟨q,hq,zV e⟩),bK]
theorem aHa{acc:List (List Key×V)}{k:List Key}{v:V}(h:¬∃q∈acc,q.1=k):putK acc k v=acc ++ [(k,v)]:=by
 unfold putK;rw[bV λz=>h (by obtain⟨q,hq,e⟩:=Fz.mp z;exact⟨q,hq,zj e⟩)]
theorem aHb:∀{more acc:List (List Key×V)},(AW acc more).length=acc.length+more.length->AW acc more=acc++more
 |[],acc,_=>by rw[oz];rfl
 |p::r,acc,h=>by
  have h':(AW (putK acc p.1 p.2) r).length=acc.length+(p::r).length:=h;show AW (putK acc p.1 p.2) r=_;have hl:=aJk r (putK acc p.1 p.2);by_cases e:∃q∈acc,q.1=p.1
  ·rw[aMB e] at hl;rw[yW] at h';lia
  ·rw[aHa e] at h' ⊢;rw[aHb (by rw[h',uN,yW,yW,Cn];lia),Bm];rfl
theorem aMC:∀{more acc:List (List Key×V)},((acc++more).map (·.1)).Nodup->AW acc more=acc++more
 |[],acc,_=>by rw[oz];rfl
 |p::r,acc,h=>by
  have e:¬∃q∈acc,q.1=p.1:=by
   rintro ⟨q,hq,e⟩;rw[iJ,J8] at h;exact h.2.2 q.1 (mD.mpr ⟨q,hq,rfl⟩) p.1 (.head _) e
  show AW (putK acc p.1 p.2) r=_;rw[aHa e,aMC (by rw[Bm];exact h),Bm];rfl
def xN(row:List WP):Bool:=decide ((fP (enc row)).length=row.length)
theorem aKc(h:xN row=true):fP (enc row)=enc row:=by
 have z:=aHb (acc:=[]) (more:=enc row) (by show(fP (enc row)).length=_;rw[zj h,jP];simp);exact z
theorem aKd{row:List WP}(h:(row.map (·.1)).Nodup):xN row=true:=by
 have z:fP (enc row)=enc row:=by
  refine aMC (acc:=[]) ?_;show((enc row).map (·.1)).Nodup;unfold enc;rw[zW];refine pd.mpr ((pd.mp h).imp λ{a b} uv z=>uv ?_);exact xJ z
 unfold xN;rw[z,jP];simp
def JD(n:Int)(ws:List (Wy (ae)))(pb:List WP):Bool:=ws.all λw=>match gU pb w.2.1 with|some g=>decide (n<=w.2.2+g)|none=>false
def OI(W:Nat->ae->List (Wy (ae)))(i:Nat)(pa pb:List WP):Bool:=pa.all λp=>JD p.2 (W i p.1) pb
def qq(W:Nat->ae->List (Wy (ae)))(x:ae)(n:Nat)(rows:List (List WP))(num:Int):Bool:=
 decide (rows.length=n+1) && (rows.all xN && (decide (gU (rows.getD 0 []) x=some num) && (!((rows.getD n []).any λp=>decide (p.2 > 0)) && (List.range n).all λi=>OI W i (rows.getD i []) (rows.getD (i+1) []))))
def o9(ps:ar)(g:ae->Int):List WP:=ps.map λx=>(x,g x)
theorem PF{ps:ar}{g:ae->Int}{x:ae}:x∈ps->gU (o9 ps g) x=some (g x):=by
 intro h;unfold gU o9;induction ps with
 |nil=>cases h
 |cons y r ih=>
  rw[fm,vj];by_cases e:y=x
  ·subst e;rw[zV (show(y,g y).1=y from rfl)];rfl
  ·rw[ia (show ¬(y,g y).1=x from e)];rcases lQ.mp h with z|z
   ·exact absurd z.symm e
   ·exact ih z
def qo(H:Hp)(q:Addr)(p:WP):Prop:=∃b,H q=some (.tup [.ref b,.int p.2])/\H b=some (.tup [.int p.1.1,.int p.1.2])
theorem qo.same(h:qo H q p)(s:aO H H'):qo H' q p:=let ⟨b,x,y⟩:=h;⟨b,s _ _ x,s _ _ y⟩
def iK(H:Hp)(e:Addr)(row:List WP):Prop:=∃qs:ah,H e=some (.lst (qs.map V.ref))/\RL (qo H) qs row
theorem iK.same(h:iK H e row)(s:aO H H'):iK H' e row:=let ⟨qs,a,r⟩:=h;⟨qs,s _ _ a,r.imp λ_ _ z=>z.same s⟩
structure qm(H:Hp)(t:Addr)(rows:List (List WP)):Prop where
 ex:∃es:ah,H t=some (.lst (es.map V.ref))/\RL (iK H) es rows
theorem qm.same(h:qm H t rows)(s:aO H H'):qm H' t rows:=let ⟨es,a,r⟩:=h.ex;⟨es,s _ _ a,r.imp λ_ _ z=>z.same s⟩
theorem aKe(h:RL (qo H) qs row):Jq H qs (enc row):=
 ⟨by rw[jP];exact h.len,λj q kv h1 h2=>by
  obtain⟨p,e,rfl⟩:=Fi h2;exact h.at_ j q p h1 e⟩
inductive zK  (K:W.Frag) (vs:List V) (H:Hp) (Q:VK) (E:XK):Prop
 |mk:∀(n:Int) (l d:Addr) (ws:List (Wy (ae))) (pb:List WP),(vs=[.int n,.ref l,.ref d])->uF κS H l ws->(H d=some (.dT (enc pb)))->(ws.length<=10000)->(∀H',aO H H'->Q (.bl (JD n ws pb)) H')->zK K vs H Q E
theorem aEr(tx:Txt K mg a):cE P w K mg base hU 1 a.nE a.nF awa (zK K):=by
 refine tx.tT.ok aEe (by walk_at "l") λbh A outer s H vs Q E hr h=>?_;obtain⟨n,l,d,ws,pb,rfl ,hw,hd,hlen,k⟩:=h;have hu:=lT hr;refine bE (aG (aN (aH (rc:=A6 K) (oB rfl) (by rfl) tx.Al DO (aA (bW (k:=3) (idx:=[2,0]) (N:=aua) (cU (sc:=aL mQ) (NX:=awa) rfl rfl rfl (by decide +kernel)) rfl (bF (K':=K) (aB 1)) (λ_ _ _ _=>(dS (K':=K) (n:=3) rfl (bB (aM (i:=0) (show(aua:ak).Nodup by decide +kernel)) (bB (aM (i:=1) (show(aua:ak).Nodup by decide +kernel)) (bB (aM (i:=2) (show(aua:ak).Nodup by decide +kernel)) dC))))) (sC (cR (by decide) (cR (by decide) (cR (by decide) oC)))) (λ_ _ _ _=>bQ) (λ_ _ _ _=>(eF (cP (r:=NH) (aQk hu) (aB 1) (aB 3) (by with_unfolding_all rfl)) (eU (cP DF (aB 4) (aK bX (aB 2) (eM hu (aB 3) (aB 1))) (bN _)))))) aC)))) ?_;obtain⟨as,gl,rl⟩:=hw.ex;have ie:=rl.len;refine aW (σ:=[some (.int n),some (.ref l),some (.ref d)]) rfl ?_;walk_at "w";refine fA (bR.of gl) ?_;refine cM (xs:=as.map V.ref) (λj us H'=>H'=H/\us=(((ws.take j).map λw=>match gU pb w.2.1 with|some g=>decide (n<=w.2.2+g)|none=>false).map V.bl)) ⟨rfl,rfl⟩ (bZ (by rw[bK];lia))
  (λj us H' hj ⟨e0,e1⟩=>⟨by rw[e0];exact bR.of gl,by rw[e1,bK,bK,xT];lia⟩) (λj v us H' hv RW=>?_) (λus H' RV=>?_)
 ·obtain⟨e0,e1⟩:=RW;subst e0;obtain⟨a1,w,ea,rfl,ew,vv,g1,hp⟩:=rl.gt hv;obtain⟨bv,rfl,Ad⟩:=hp;have hg:=jU.t (k:=jS w.2.1) hd Ad;rw[JF] at hg;refine gW (mE.of g1) rfl ?_;walk_at "w";refine aQl hg ?_;cases eg:gU pb w.2.1 with
  |none=>
   repeat walk_at "gs"
   refine⟨rfl,?_⟩;rw[e1,cL ew,iJ,iJ];simp[eg]
  |some g=>
   rw[eg] at hg;repeat walk_at "gs"
   refine⟨d,_,rfl,hg,?_⟩;walk_at "w";refine⟨rfl,?_⟩;rw[e1,cL ew,iJ,iJ];simp[eg]
 obtain⟨e0,e1⟩:=RV;subst e0 e1;rw[bK,ie,fe];intro l2 n2;obtain⟨H2,i2,s2,g2⟩:=nw _ n2;rw[i2];walk_at "w";refine⟨l2,_,rfl,bR.of g2,?_⟩;walk_at "w";have z:=k H2 s2;unfold JD at z;rw[List.all_map];exact z
inductive zL  (K:W.Frag) (C:Addr->Sp->Prop) (vs:List V) (H:Hp) (Q:VK) (E:XK):Prop
 |mk:∀(h:Nat) (da db f:Addr) (pa pb:List WP) (W:Nat->ae->List (Wy (ae))) (L:Nat->ae->Prop) (H0:Hp),(vs=[.int (h:Int),.ref da,.ref db,.ref f])->aO H0 H->(H0 da=none)->uG κS C H0 f W L->(H da=some (.dT (enc pa)))->(H db=some (.dT (enc pb)))->(da≠db)->(pa.length<=10000)->((∀p∈pa,L h p.1/\(W h p.1).length<=10000))->(∀H',aO H H'->Q (.bl (OI W h pa pb)) H')->zL K C vs H Q E
theorem aEs(tx:Txt K mg a):cE P w K mg base hU 10 a.nG a.nH ala (zL K (xg P w K mg base (8+1))):=by
 have aF2:=aEr (P:=P) (w:=w) (base:=base) tx;refine tx.tU.ok aEf (by walk_at "l") λbh A outer s H vs Q E hr h=>?_;obtain⟨h,da,db,f,pa,pb,W,L,H0,rfl ,s0,n0,hW,ga,gb,nab,hlen,hL,k⟩:=h;have hu:=lT hr;refine bE (aG (aN (vV (aH (rc:=A6 K) (oB rfl) (by rfl) tx.Al DO (aA (bW (k:=2) (idx:=[2,0,3]) (N:=aUa) (cU (sc:=aL mR) (NX:=ala) rfl rfl rfl (by decide +kernel)) rfl (aBZ (aB 1)) (λ_ _ _ _=>(dS (K':=K) (n:=2) rfl (bB (aM (i:=0) (show(aUa:ak).Nodup by decide +kernel)) (bB (aM (i:=1) (show(aUa:ak).Nodup by decide +kernel)) dC)))) (sC (cR (by decide) (cR (by decide) oC))) (λ_ _ _ _=>bQ) (λ_ _ _ _=>(ay aF2 hr tx.aAV tx.tT.kp tx.aAU (aA (aB 1) (aA (vT (P:=P) (w:=w) (K:=K) (mg:=mg) (base:=base) (i:=4) (k:=8+1) (hr.mono (by decide)) (aA (aB 3) (aA (aB 0) aC))) (aA (aB 2) aC)))))) aC))))) ?_;obtain⟨vp,hC,hp⟩:=hW.ex;refine aW (σ:=[some (.int (h:Int)),some (.ref da),some (.ref db),some (.ref f)]) rfl ?_;walk_at "w"
 refine aOA ga λo=>?_;obtain⟨H1,i1,k1,g1⟩:=wr H da _;rw[i1];have s01:aO H0 H1:=λb u e=>k1 _ _ (s0 _ _ e) (bJ n0 e);have gb1:=k1 _ _ gb (Ne.symm nab);refine aGT (kvs:=enc pa) (λj us H'=>aO H1 H'/\us=(((pa.take j).map λp=>JD p.2 (W h p.1) pb).map V.bl)) ⟨aO.refl _,rfl⟩ (bZ (by rw[jP];lia))
  (λj us H' hj ⟨s',e⟩=>⟨s' _ _ g1,by rw[e,bK,bK,xT];lia⟩) (λj kv us H' T bT Ew RU nT hbT=>?_) (λus H' RT=>?_)
 ·obtain⟨s',e⟩:=RU;obtain⟨p,ep,rfl⟩:=Fi Ew;obtain⟨l1,l2⟩:=hL p (iI ep);obtain⟨H2,i2,s2,g2⟩:=nw _ nT;rw[i2];refine gW (mE.of g2) rfl ?_;walk_at "w";refine PB rfl hC ?_;walk_at "w";have BL:=s'.trans s2;refine hp H2 h _ p.1 _ (s01.trans BL) l1 ⟨bT,rfl,s2 _ _ hbT⟩ λl H3 s3 Ep=>?_;have gg:=BL.trans s3;walk_at "w";refine⟨p.2,l,db,W h p.1,pb,rfl,Ep,gg _ _ gb1,l2,λH4 s4=>?_⟩;walk_at "w";refine⟨gg.trans s4,?_⟩;rw[e,cL ep,iJ,iJ];rfl
 ·obtain⟨s',e⟩:=RT;subst e;rw[jP,fe];intro l2 n2;obtain⟨H2,i2,s2,g2⟩:=nw _ n2;rw[i2];walk_at "w";refine⟨l2,_,rfl,bR.of g2,?_⟩;walk_at "w";refine⟨da,enc pa,ga,o,s2 _ _ (s' _ _ g1),?_⟩;rw[List.all_map];refine k _ λb u e=>?_;by_cases eb:b=da
  ·subst eb;rw[aP,<-ga];exact e
  ·rw[aS eb];exact s2 _ _ (s' _ _ (k1 _ _ e eb))
inductive pA  (K:W.Frag) (C:Addr->Sp->Prop) (vs:List V) (H:Hp) (Q:VK) (E:XK):Prop
 |mk:∀(bx:Addr) (x:ae) (n:Nat) (t f:Addr) (num:Int) (rows:List (List WP)) (W:Nat->ae->List (Wy (ae))) (L:Nat->ae->Prop),(vs=[.ref bx,.int (n:Int),.ref t,.int num,.ref f])->(H bx=some (.tup [.int x.1,.int x.2]))->qm H t rows->uG κS C H f W L->(rows.length<=10000)->(n<=10000)->((∀row∈rows,row.length<=1000))->((∀(i:Nat) row p,rows[i]?=some row->i < n->p∈row->L i p.1/\(W i p.1).length<=10000))->(∀H',aO H H'->Q (.bl (qq W x n rows num)) H')->pA K C vs H Q E
theorem aDN(tx:Txt K mg a):cE P w K mg base hU 11 a.kH a.kI ata (pA K (xg P w K mg base (8+1))):=by
 have aF3:=aEs (P:=P) (w:=w) (base:=base) tx;refine tx.qY.ok v7 (by walk_at "l") λbh A outer s H vs Q E hr h=>?_;obtain⟨bx,x,n,t,f,num,rows,W,L,rfl ,hbx,ht,hW,hlen,hn,bw,hL,k⟩:=h;have hu:=lT hr;refine bE (aE (bD (aY (r:=ve K) (zY hu) (aH (rc:=jR K) bS (by rfl) tx.eO dH (aA (aB 2) aC)) (aK bX (aB 1) aD) (bN _)) (aG (aN dI)) aU)
  (aE (yA (i:=5) v7.nd rfl (Or.inr rfl) (bW (k:=1) (idx:=[]) (N:=bja) (cU (sc:=aL dZ) (NX:=aba) rfl rfl rfl (by decide +kernel)) rfl (bF (K':=K) (aB 2)) (λ_ _ _ _=>(aM (i:=0) (show(bja:ak).Nodup by decide +kernel))) (cV (by decide)) (λ_ _ _ _=>bQ) (λ_ _ _ _=>(fM (rc:=O8) (aH8 rfl hu) (by rfl) tx.JC aNn (aA (aB 0) aC)))))
  (aE (bD (aY (r:=ve K) (zY hu) (bW (k:=1) (idx:=[]) (N:=["named"]) (cU (sc:=aL dZ) (NX:=aba) rfl rfl rfl (by decide +kernel)) rfl (bF (K':=K) (aB 5)) (λ_ _ _ _=>(aM (i:=0) (show(["named"]:ak).Nodup by decide +kernel))) (cV (by decide)) (λ_ _ _ _=>bQ) (λ_ _ _ _=>(aH (rc:=Oc) aJ6 (by rfl) tx.eO dH (aA (aB 0) aC)))) (bW (k:=1) (idx:=[]) (N:=bja) (cU (sc:=aL dZ) (NX:=aba) rfl rfl rfl (by decide +kernel)) rfl (bF (K':=K) (aB 2)) (λ_ _ _ _=>(aM (i:=0) (show(bja:ak).Nodup by decide +kernel))) (cV (by decide)) (λ_ _ _ _=>bQ) (λ_ _ _ _=>(aH (rc:=jR K) bS (by rfl) tx.eO dH (aA (aB 0) aC)))) (bN _)) (aG (aN dI)) aU)
  (aE (bD (aY (r:=ve K) (zY hu) (aGJ hu (aJ (K':=K) (aB 5) aD) (aB 0)) (aB 3) (bN _)) (aG (aN dI)) aU)
  (aE (bD (cK (vV (aH (rc:=aRu K) (aJO rfl) (by rfl) tx.Je aPI (aA (bW (k:=1) (idx:=[]) (N:=["last"]) (cU (sc:=aL dZ) (NX:=aba) rfl rfl rfl (by decide +kernel)) rfl (aGU (aJ (K':=K) (aB 5) (aB 1))) (λ_ _ _ _=>(aM (i:=0) (show(["last"]:ak).Nodup by decide +kernel))) (cV (by decide)) (λ_ _ _ _=>bQ) (λ_ _ _ _=>(cP E9 (aB 0) aD (bN _)))) aC)))) (aG (aN dI)) aU)
  (aG (aN (aH (rc:=A6 K) (oB rfl) (by rfl) tx.Al DO (aA (bW (k:=1) (idx:=[5,4]) (N:=bka) (cU (sc:=aL dZ) (NX:=aba) rfl rfl rfl (by decide +kernel)) rfl (cN (by rfl) tx.eQ (aA (aB 1) aC)) (λ_ _ _ _=>(aM (i:=0) (show(bka:ak).Nodup by decide +kernel))) (cV (by decide)) (λ_ _ _ _=>bQ) (λ_ _ _ _=>(ay aF3 hr tx.aAX tx.tU.kp tx.aAW (aA (aB 0) (aA (aJ (K':=K) (aB 1) (aB 0)) (aA (aJ (K':=K) (aB 1) (aK bX (aB 0) aD)) (aA (aB 2) aC))))))) aC))))))))) ?_
 obtain⟨es,gt,re⟩:=ht.ex;have vy:=re.len;refine aW (σ:=[some (.ref bx),some (.int (n:Int)),some (.ref t),some (.int num),some (.ref f),none]) rfl ?_;walk_at "w";have out:∀(H':Hp),aO H H'->qq W x n rows num=false->Q (.bl false) H':=λH' s' e=>by rw[<-e];exact k H' s'
 refine JN (λbj=>?_) (λheq=>?_)
 ·walk_at "w";refine out H (aO.refl _) ?_;unfold qq;rw[ia (λz=>bj (by rw[bK,vy,z];push_cast;rfl)),vi]
 have hrl:rows.length=n+1:=by rw[bK,vy] at heq;lia
 walk_at "w";refine fA (bR.of gt) ?_;refine cM (xs:=es.map V.ref) (λj us H'=>aO H H'/\∃ds:ah,us=ds.map V.ref/\(∀d∈ds,H d=none)/\ds.Nodup/\RL (λd row=>H' d=some (.dT (fP (enc row)))) ds (rows.take j)) ⟨aO.refl _,[],rfl,(λd h=>by cases h),Bh,RL.nil⟩ (bZ (by rw[bK];lia))
  (λj us H' hj ⟨s',ds,e,_,_,r⟩=>⟨bR.of (s' _ _ gt),by rw[e,bK,r.len,xT];lia⟩) (λj v us H' hv RS=>?_) (λus H1 RQ=>?_)
 ·obtain⟨s',ds,e,nd,dd,r⟩:=RS;obtain⟨e1,row,ee,rfl,er,hr⟩:=re.gt hv;obtain⟨qs,gq,rq⟩:=hr.same s';have lq:=rq.len;have HQ:=bw row (iI er);walk_at "w";refine aMf gq (aKe rq) (by lia) λp np=>?_;obtain⟨H2,i2,s2,g2⟩:=nw _ np;rw[i2];refine⟨s'.trans s2,ds ++ [p],by rw[e,iJ];rfl,λd hd=>?_,?_,?_⟩
  ·rcases iy.mp hd with z|z
   ·exact nd d z
   ·rw[ff.mp z];exact s'.free np
  ·rw[J8];refine⟨dd,by simp,λa ha b hb z=>?_⟩;rw[ff.mp hb] at z;subst z;obtain⟨j2,ej⟩:=pf ha;have lj:j2 < (rows.take j).length:=by rw[<-r.len];exact(g0.mp ej).1
   have:=r.at_ j2 a _ ej (cG lj);rw[np] at this;cases this
  ·rw[cL er];exact RL.snoc (r.imp λ_ _ z=>s2 _ _ z) g2
 obtain⟨s1,ds,e,nd,dd,r⟩:=RQ;rw[bK,vy,fe] at r;have uo:=r.len;subst e;intro la vx;obtain⟨H2,i2,s2,g2⟩:=nw _ vx;rw[i2];have BL:=s1.trans s2;have r2:RL (λd row=>H2 d=some (.dT (fP (enc row)))) ds rows:=r.imp λ_ _ z=>s2 _ _ z;walk_at "w";refine fA (bR.of g2) ?_;refine cM (xs:=ds.map V.ref) (λj us H'=>H'=H2/\us=(((rows.take j).map λrow=>((fP (enc row)).length:Int)).map V.int)) ⟨rfl,rfl⟩ (bZ (by rw[bK];lia))
  (λj us H' hj ⟨e0,e1⟩=>⟨by rw[e0];exact bR.of g2,by rw[e1,bK,bK,xT];lia⟩) (λj v us H' hv RP=>?_) (λus H' RO=>?_)
 ·obtain⟨e0,e1⟩:=RP;subst e0;obtain⟨d1,row,ed,rfl,er,gd⟩:=r2.gt hv;walk_at "w";refine aOa gd ?_;refine⟨rfl,?_⟩;rw[e1,cL er,iJ,iJ];rfl
 obtain⟨e0,e1⟩:=RO;subst e0 e1;rw[bK,uo,fe];intro la3 n3;obtain⟨H3,i3,s3,g3⟩:=nw _ n3;rw[i3];have gg:=BL.trans s3;walk_at "w";refine fA (bR.of (gg _ _ gt)) ?_;refine cM (xs:=es.map V.ref) (λj us H'=>H'=H3/\us=(((rows.take j).map λrow=>(row.length:Int)).map V.int)) ⟨rfl,rfl⟩ (bZ (by rw[bK];lia))
  (λj us H' hj ⟨e0,e1⟩=>⟨by rw[e0];exact bR.of (gg _ _ gt),by rw[e1,bK,bK,xT];lia⟩) (λj v us H' hv RN=>?_) (λus H' RM=>?_)
 ·obtain⟨e0,e1⟩:=RN;subst e0;obtain⟨e2,row,ee,rfl,er,hr⟩:=re.gt hv;obtain⟨qs,gq,rq⟩:=hr.same gg;walk_at "w";refine⟨rfl,?_⟩;rw[e1,cL er,iJ,iJ,bK,rq.len];rfl
 obtain⟨e0,e1⟩:=RM;subst e0 e1;rw[bK,vy,fe];intro la4 n4;obtain⟨H4,i4,s4,g4⟩:=nw _ n4;rw[i4];have BK:=gg.trans s4;walk_at "w";refine aIF (bR.of (s4 _ _ g3)) (bR.of g4) ?_;walk_at "w";refine JN (λbj=>?_) (λXa=>?_)
 ·walk_at "w";refine out H4 BK ?_;unfold qq;have z:rows.all xN=false:=by
   cases q:rows.all xN with
   |false=>rfl
   |true=>
    refine absurd (Bo λrow hr=>?_) bj;have y:=zj (nj.mp q row hr);rw[y]
  rw[z,vi,vg]
 have av:∀row∈rows,xN row=true:=λrow hr=>by
  have y:=List.map_inj_left.mp Xa row hr;exact zV (by lia)
 have fi:rows.all xN=true:=nj.mpr av;have r4:RL (λd row=>H4 d=some (.dT (enc row))) ds rows:=⟨r2.len,λj d row h1 h2=>by
  have z:=r2.at_ j d row h1 h2;rw[aKc (av row (iI h2))] at z;exact(s3.trans s4) _ _ z⟩
 have ga4:=(s3.trans s4) _ _ g2;have Ny:ds[0]?=some ds[0]:=cG (by lia);have Nn:rows[0]?=some rows[0]:=cG (by lia);have Io:=r4.at_ 0 _ _ Ny Nn;have Nz:rows.getD 0 []=rows[0]:=by rw[yP,Nn];rfl
 generalize ds[0]=d0 at Ny Io;generalize rows[0]=CA at Nn Io Nz;have ix0:pC (ds.map V.ref) 0=some (.ref d0):=cO (j:=0) (fQ Ny);have ip:=jU.t (k:=jS x) Io (show H4 bx=some (.tup ((jS x).map kV)) from BK _ _ hbx);rw[JF] at ip;walk_at "w";refine⟨d0,rfl,.inr ⟨_,.inl Io⟩,?_⟩;walk_at "w";refine⟨_,ip,?_⟩;have key:∀(Q2:VK),Q2 (.bl (!decide (gU CA x=some num))) H4->ve K (((gU CA x).map V.int).getD .ba) (.int num) H4 Q2:=λQ2 q=>by
  cases eg:gU CA x with
  |none=>
   rw[eg] at q;exact aLb rfl rfl q
  |some g=>
   rw[eg] at q;refine aLg ?_;rw[show decide (g=num)=decide (some g=some num) by rw[Bool.eq_iff_iff];simp];exact q
 walk_at "w";refine key _ ?_;walk_at "w";refine JN (λbj=>?_) (λW9=>?_)
 ·walk_at "w";refine out H4 BK ?_;unfold qq;rw[Nz,ia bj,vi,vg,vg]
 have Nu:ds[n]?=some ds[n]:=cG (by lia);have IA:rows[n]?=some rows[n]:=cG (by lia);have EI:=r4.at_ n _ _ Nu IA;have Np:rows.getD n []=rows[n]:=by rw[yP,IA];rfl
 generalize ds[n]=dn at Nu EI;generalize rows[n]=mh at IA EI Np;have lrn:=bw mh (iI IA);have ixn:pC (ds.map V.ref) (n:Int)=some (.ref dn):=cO (fQ Nu);walk_at "w";refine aRC EI λo=>?_;obtain⟨H5,i5,k5,g5⟩:=wr H4 dn _;rw[i5];refine aIb (kvs:=enc mh) (λj us H'=>H'=H5/\us=(((mh.take j).map λp=>decide (p.2 > 0)).map V.bl)) ⟨rfl,rfl⟩ (bZ (by rw[jP];lia))
  (λj us H' hj ⟨e0,e1⟩=>⟨by rw[e0];exact g5,by rw[e1,bK,bK,xT];lia⟩) (λj kv us H' Ew RK=>?_) (λus H' RJ=>?_)
 ·obtain⟨e0,e1⟩:=RK;subst e0;obtain⟨p,ep,rfl⟩:=Fi Ew;walk_at "w";refine⟨rfl,?_⟩;rw[e1,cL ep,iJ,iJ];rfl
 obtain⟨e0,e1⟩:=RJ;subst e0 e1;rw[jP,fe];intro la6 n6;obtain⟨H6,i6,s6,g6⟩:=nw _ n6;rw[i6];walk_at "w";refine⟨la6,_,rfl,bR.of g6,?_⟩;walk_at "w";refine⟨dn,enc mh,EI,o,s6 _ _ g5,?_⟩;generalize hH7:upd H6 dn (.dT (enc mh))=H7;have KW:aO H4 H7:=λb u e=>by
  rw[<-hH7];by_cases eb:b=dn
  ·subst eb;rw[aP,<-EI];exact e
  ·rw[aS eb];exact s6 _ _ (k5 _ _ e eb)
 have KZ:=BK.trans KW;rw[List.any_map];cases Gx:mh.any (id ∘ λp=>decide (p.2 > 0)) with
 |true=>
  repeat walk_at "gs"
  refine out H7 KZ ?_;unfold qq;rw[Np,show(mh.any λp=>decide (p.2 > 0))=true from Gx,DS,vi,vg,vg,vg]
 |false=>
  repeat walk_at "gs"
  have ga7:=KW _ _ ga4;have r7:RL (λd row=>H7 d=some (.dT (enc row))) ds rows:=r4.imp λ_ _ z=>KW _ _ z;refine⟨by lia,by lia,?_⟩;rw[pe];refine sD (λi us H'=>aO H7 H'/\us=(((List.range i).map λi=>OI W i (rows.getD i []) (rows.getD (i+1) [])).map V.bl)) ⟨aO.refl _,rfl⟩ (bZ (by lia)) (λi us H' hi ⟨s',e⟩=>by rw[e,bK,bK,List.length_range];lia) (λi us H' hi RI=>?_) (λus H' RH=>?_)
  ·obtain⟨s',e⟩:=RI;have Nw:ds[i]?=some ds[i]:=cG (by lia);have Nv:ds[i+1]?=some ds[i+1]:=cG (by lia);have EN:rows[i]?=some rows[i]:=cG (by lia);have Nm:rows[i+1]?=some rows[i+1]:=cG (by lia);have B2:=r7.at_ i _ _ Nw EN;have Dm:=r7.at_ (i+1) _ _ Nv Nm;have Lw:ds[i]≠ds[i+1]:=λz=>by
    have:=(DU dd).mp z;lia
   have f1:rows.getD i []=rows[i]:=by rw[yP,EN];rfl
   have f2:rows.getD (i+1) []=rows[i+1]:=by rw[yP,Nm];rfl
   have nd1:=nd ds[i] (lu _);generalize ds[i]=dx at Nw B2 Lw nd1;generalize ds[i+1]=dy at Nv Dm Lw;generalize rows[i]=rx at EN B2 f1;generalize rows[i+1]=ry at Nm Dm f2;have MA:=s' _ _ ga7;have ix1:pC (ds.map V.ref) (0+(i:Int))=some (.ref dx):=by rw[show(0+(i:Int))=(i:Int) by lia];exact cO (fQ Nw)
   have ix2:pC (ds.map V.ref) (0+(i:Int)+1)=some (.ref dy):=by
    rw[show(0+(i:Int))+1=((i+1:Nat):Int) by push_cast;lia];exact cO (fQ Nv)
   walk_at "w";refine⟨i,dx,dy,f,rx,ry,W,L,H,by rw[show(0+(i:Int))=(i:Int) by lia],KZ.trans s',nd1,hW,s' _ _ B2,s' _ _ Dm,Lw,gj (bw rx (iI EN)) (by decide),λp hp=>hL i rx p EN hi hp,λH8 s8=>?_⟩;walk_at "w";refine⟨s'.trans s8,?_⟩;rw[e,List.range_succ,iJ,iJ,<-f1,<-f2];rfl
  ·obtain⟨s',e⟩:=RH;subst e;intro la8 n8;obtain⟨H8,i8,s8,g8⟩:=nw _ n8;rw[i8];walk_at "w";refine⟨la8,_,rfl,bR.of g8,?_⟩;walk_at "w";have z:=k H8 (KZ.trans (s'.trans s8));unfold qq at z;rw[zV hrl,fi,Nz,zV W9,Np,show(mh.any λp=>decide (p.2 > 0))=false from Gx] at z;rw[List.all_map];simpa using z
theorem aMD{qs:ah}{zs:List (aa×Int)}{row:List WP}(e:zs=row.map λp=>([p.1.1,p.1.2],p.2))(hl:qs.length=zs.length)(h:∀(j:Nat) q r,qs[j]?=some q->zs[j]?=some r->IV H q r):RL (qo H) qs row:=by
 subst e;refine⟨by rw[hl,bK],λj q p h1 h2=>?_⟩;obtain⟨b,x,y⟩:=h j q ([p.1.1,p.1.2],p.2) h1 (by rw[hE,h2];rfl);exact⟨b,x,y⟩
theorem aQF(row:List WP):HO.dT (enc row)=dN (row.map λp=>([p.1.1,p.1.2],p.2)):=by
 unfold dN enc;rw[zW];rfl
theorem aOH{row:List WP}{zs:List (aa×Int)}(h:row.Pairwise λa b=>su a.1 b.1)(h1:zs.Perm (row.map λp=>([p.1.1,p.1.2],p.2)))(h2:zs.Pairwise λa b=>gL (lV b) (lV a)=false):zs=row.map λp=>([p.1.1,p.1.2],p.2):=by
 refine List.Perm.eq_of_pairwise (le:=λa b=>gL (lV b) (lV a)=false) (λa b ha hb x y=>?_) h2 ?_ h1
 ·obtain⟨p,_,e1⟩:=mD.mp (h1.mem_iff.mp ha);obtain⟨q,_,e2⟩:=mD.mp hb;subst e1;subst e2;have z:=Qm _ _ y x;have z':[p.1.1,p.1.2,p.2]=[q.1.1,q.1.2,q.2]:=z;simp only[List.cons.injEq,and_true] at z';obtain⟨z1,z2,z3⟩:=z';rw[z1,z2,z3]
 ·refine pd.mpr (h.imp λ{a b} uv=>?_);show gL [b.1.1,b.1.2,b.2] [a.1.1,a.1.2,a.2]=false;rcases uv with z|⟨z1,z2⟩
  ·rw[cS,bV (by lia)];exact ia (by lia)
  ·rw[cS,cJ z1.symm,cS,bV (by lia)];exact ia (by lia)
def yO(m:MS)(ps:aa)(Ls:List (ar)):List (List WP):=(List.range Ls.length).map λi=>o9 (Ls.getD i []) (wF (Wr m ps) (Ls.length - 1 - i) i)
theorem uK(m:MS)(ps:aa)(Ls:List (ar)):(yO m ps Ls).length=Ls.length:=by unfold yO;rw[bK,List.length_range]
theorem Fh{qs:aa}{Ls:List (ar)}{i:Nat}{ps:ar}(h:Ls[i]?=some ps):(yO m qs Ls)[i]?=some (o9 ps (wF (Wr m qs) (Ls.length - 1 - i) i)):=by
 have hi:=(g0.mp h).1;unfold yO;rw[hE,List.getElem?_range hi];show some (o9 (Ls.getD i []) _)=_;rw[yP,h];rfl
theorem aME{qs:aa}{Ls:List (ar)}{i:Nat}(h:(yO m qs Ls)[i]?=some row):∃ps,Ls[i]?=some ps/\row=o9 ps (wF (Wr m qs) (Ls.length - 1 - i) i):=by
 have li:i < Ls.length:=by rw[<-uK m qs];exact(g0.mp h).1
 have ei:Ls[i]?=some Ls[i]:=cG li;rw[Fh ei] at h;cases h;exact⟨_,ei,rfl⟩
theorem Pq{α:Type}{l:List α}{a:α}(h:l.Nodup)(n:a∉l):(l ++ [a]).Nodup:=by
 rw[J8];exact⟨h,by simp,λx hx y hy z=>by rw[ff.mp hy] at z;exact n (z▸hx)⟩
structure A5(H H':Hp)(t:Addr)(rows:List (List WP)):Prop where
 ex:∃es:ah,H' t=some (.lst (es.map V.ref))/\RL (iK H') es rows/\es.Nodup/\∀e∈es,H e=none
theorem A5.qe(h:A5 H H' t rows):qm H' t rows:=let ⟨es,a,r,_⟩:=h.ex;⟨es,a,r⟩
theorem A5.back(h:A5 H1 H' t rows)(s:aO H H1):A5 H H' t rows:=by
 obtain⟨es,a,r,n,f⟩:=h.ex;exact⟨es,a,r,n,λe he=>s.free (f e he)⟩
inductive aCi  (K:W.Frag) (vs:List V) (H:Hp) (Q:VK) (E:XK):Prop
 |mk:∀(lw:Addr) (m:MS) (ps:aa) (a:ae) (Ls:List (ar)),(vs=[.ref lw])->m.Good->fu m a->rG m a Ls->(Ls.length<=1000)->(qt κS H lw Ls (λi=>wF (Wr m ps) (Ls.length - 1 - i) i))->(∀t H',aO H H'->H t=none->A5 H H' t (yO m ps Ls)->Q (.ref t) H')->aCi K vs H Q E
theorem aHd(tx:Txt K mg a):cE P w K mg base hU 1 a.tH a.tI bfa (aCi K):=by
 refine tx.P9.ok aG0 (by walk_at "l") λbh A outer s H vs Q E hr h=>?_;obtain⟨lw,m,ps,st,Ls,rfl ,hg,bq,hR,hlen,hd,k⟩:=h;have hu:=lT hr;refine bE (aG (aN (bW (k:=1) (idx:=[]) (N:=["named"]) (cU (sc:=aL sP) (NX:=bfa) rfl rfl rfl (by decide +kernel)) rfl (bF (K':=K) (aB 0)) (λ_ _ _ _=>(aM (i:=0) (show(["named"]:ak).Nodup by decide +kernel))) (cV (by decide)) (λ_ _ _ _=>bQ) (λ_ _ _ _=>(aH (rc:=O9) (aFB rfl hu) (by rfl) tx.oZ xU (aA (aHY (aB 0)) aC)))))) ?_;obtain⟨ds,tm,uo,mx⟩:=hd.ex;refine aW (σ:=[some (.ref lw)]) rfl ?_;walk_at "w";refine fA (bR.of tm) ?_;refine cM (xs:=ds.map V.ref) (λj us H'=>aO H H'/\∃es:ah,us=es.map V.ref/\RL (iK H') es ((yO m ps Ls).take j)/\es.Nodup/\∀e∈es,H e=none) ⟨aO.refl _,[],rfl,RL.nil,Bh,(λ_ h=>by cases h)⟩ (bZ (by rw[bK];lia))
  (λj us H' hj ⟨s',es,e,r,_⟩=>⟨bR.of (s' _ _ tm),by rw[e,bK,r.len,xT];lia⟩) (λj v us H' hv RG=>?_) (λus H' RF=>?_)
 ·obtain⟨s',es,e,r,nd,fr⟩:=RG;rw[hE] at hv;obtain⟨d,ed,rfl⟩:=yQ.mp hv;have lj:j < Ls.length:=by rw[<-uo];exact(g0.mp ed).1
  have eL:Ls[j]?=some Ls[j]:=cG lj;have gd:=mx j d _ ed eL;obtain⟨r2,r3⟩:=hR.at_ j _ eL;have er:=Fh (m:=m) (qs:=ps) eL;generalize Ls[j]=pj at eL gd r2 r3 er;have yT:=Rc.yT hg bq (Ci r2) λk hk=>(r3 k).mp hk;have Dp:H d=some (.dT (enc (o9 pj (wF (Wr m ps) (Ls.length - 1 - j) j)))):=by
   rw[show H d=some (.dT (pj.map λx=>(jS x,V.int (wF (Wr m ps) (Ls.length - 1 - j) j x)))) from gd];unfold enc o9;rw[zW];rfl
  have rp:(o9 pj (wF (Wr m ps) (Ls.length - 1 - j) j)).Pairwise λa b=>su a.1 b.1:=by
   unfold o9;exact pd.mpr r2
  generalize bw:o9 pj (wF (Wr m ps) (Ls.length - 1 - j) j)=row at Dp rp er;have rl:row.length<=25:=by rw[<-bw];unfold o9;rw[bK];exact yT
  walk_at "w";refine⟨d,rfl,.inr ⟨_,.inl (s' _ _ Dp)⟩,λb nb=>?_⟩;obtain⟨H2,i2,s2,g2⟩:=nw _ nb;rw[i2];have Dm:=s2 _ _ (s' _ _ Dp);rw[aQF] at Dm;walk_at "w";refine aMe (L:=2) g2 Dm (by rw[bK];lia) (λr hr=>by obtain⟨p,_,rfl⟩:=mD.mp hr;rfl) λp qs zs H3 s3 np nq gp LP hN hp hs=>?_;have rw3:=aMD (aOH rp hp hs) LP hN;refine⟨s'.trans (s2.trans s3),es ++ [p],by rw[e,iJ];rfl,?_,Pq nd λz=>?_,λx hx=>?_⟩
  ·rw[cL er];exact RL.snoc (r.imp λ_ _ z=>z.same (s2.trans s3)) ⟨qs,gp,rw3⟩
  ·obtain⟨i,ei⟩:=pf z;have hi:i < ((yO m ps Ls).take j).length:=by rw[<-r.len];exact(g0.mp ei).1
   obtain⟨_,g,_⟩:=r.at_ i p _ ei (cG hi);rw[s2 _ _ g] at np;cases np
  ·rcases iy.mp hx with z|z
   ·exact fr x z
   ·rw[ff.mp z];exact(s'.trans s2).free np
 ·obtain⟨s',es,e,r,nd,fr⟩:=RF;intro t nt;obtain⟨H2,i2,s2,g2⟩:=nw _ nt;rw[i2];walk_at "w";rw[bK,uo,As (by rw[uK];exact d7 _)] at r;exact k t H2 (s'.trans s2) (s'.free nt) ⟨es,by rw[g2,e],r.imp λ_ _ z=>z.same s2,nd,fr⟩
inductive zM  (K:W.Frag) (C t:Addr) (vs:List V) (H:Hp) (Q:VK) (E:XK):Prop
 |mk:∀(x:Addr) (m:MS) (b:Addr) (a:ae) (q:Addr) (ps:aa),(vs=[.ref x,.ref b,.ref q])->(H t=some (.gi cZ c8))->cQ C H x m->m.Good->(H b=some (.tup [.int a.1,.int a.2]))->fu m a->(H q=some (.lst (ps.map V.int)))->((∀n∈ps,Am n))->(ps.length<=48)->(∀r Ls H',aO H H'->H r=none->rG m a Ls->Ls.length=ps.length+1->A5 H H' r (yO m ps Ls)->Q (.ref r) H')->zM K C t vs H Q E
theorem aEt(tx:Txt K mg a):cE P w K mg base hU 13 a.nJ a.nK kf (zM K a.bH a.dE):=by
 have aIs:=aHd (P:=P) (w:=w) (base:=base) tx;have iE:=mI (P:=P) (w:=w) (base:=base) tx;refine tx.nX.ok aEg (by walk_at "l") λbh A outer s H vs Q E hr h=>?_;obtain⟨x,m,b,st,q,ps,rfl ,gt,hm,hg,hb,bq,hq,ha,hl,k⟩:=h;have hu:=lT hr;refine bE (aG (aN (ay aIs hr tx.aDy tx.P9.kp tx.aDx (aA (ay iE hr tx.iC tx.fG.kp tx.iB (aA (aB 0) (aA (aB 1) (aA (aB 2) aC)))) aC)))) ?_;refine aW (σ:=[some (.ref x),some (.ref b),some (.ref q)]) rfl ?_;walk_at "w";refine⟨x,m,b,st,q,ps,rfl,gt,hm,hg,hb,bq,hq,ha,hl,λlw Ls H1 s1 sv hL lL hd=>?_⟩;walk_at "w";refine⟨lw,m,ps,st,Ls,rfl,hg,bq,hL,by lia,hd,λt H2 s2 nt ht=>?_⟩;walk_at "w";exact k t Ls H2 (s1.trans s2) (s1.free nt) hL lL (ht.back s1)
inductive aBm  (K:W.Frag) (C t:Addr) (vs:List V) (H:Hp) (Q:VK) (E:XK):Prop
 |mk:∀(x:Addr) (m:MS) (b:Addr) (a:ae) (q tb:Addr) (ps:aa) (rows:List (List WP)) (num:Int),(vs=[.ref x,.ref b,.ref q,.ref tb,.int num])->(H t=some (.gi jK jL))->cQ C H x m->m.Good->(H b=some (.tup [.int a.1,.int a.2]))->(H q=some (.lst (ps.map V.int)))->((∀n∈ps,Am n))->(ps.length<=48)->qm H tb rows->(rows.length<=1000)->((∀row∈rows,row.length<=1000/\∀p∈row,qz p.1.1 p.1.2))->(∀H',aO H H'->Q (.bl (qq (Wr m ps) a ps.length rows num)) H')->aBm K C t vs H Q E
theorem aF5(tx:Txt K mg a):cE P w K mg base hU 12 a.qC a.lH aca (aBm K a.bH a.lJ):=by
 have aDP:=λbo:Heap=>aDN (P:=P) (w:=w) (base:=bo) tx;refine tx.qI.Lb tx.xA aFI (λvs H Q E h=>?_) (λA outer s H vs Q E hr h=>?_)
 ·obtain⟨x,m,b,st,q,tb,ps,rows,num,rfl,_⟩:=h;rfl
 ·obtain⟨x,m,b,st,q,tb,ps,rows,num,rfl ,gt,hm,hg,hb,hq,ha,hl,HN,hlen,bw,k⟩:=h;have hu:=lT hr;refine bE (aG (aN (vS (psL:=bia) (N:=aka) (idx:=[0,2]) (sp:=λC=>pA K C) (kc:=8) (aDP) (hr.mono (by decide)) (by rfl) tx.y7 tx.qY.kp tx.y6 (λ_=>rfl) (cU (sc:=aL fB) (NX:=aca) rfl rfl rfl (by decide +kernel)) rfl rfl rfl rfl (λ_ _ _ _ us hl=>by obtain⟨_,_,rfl⟩:=EX us hl;rfl) (iA (aB 1) (iA (aH (rc:=jR K) bS (by rfl) tx.eO dH (aA (aB 2) aC)) (iA (aB 3) (iA (aB 4) (Ql (N:=aka) (n:=2) (idx:=[0,2]) rfl tx.xA.hd rfl rfl (cU (sc:=aL fB) (NX:=aca) rfl rfl rfl (by decide +kernel))))))) (λ_ _ _ _ _ _ _ _ hr hu=>(aF (uJ tx) (hr.mono (by decide)) (by rfl) tx.qH tx.lO.kp tx.qG .nil aV (aA (aB 2) (aA (aB 1) (aA (aJ (K':=K) (aB 3) (aB 0)) aC)))))))) ?_;refine aW (σ:=[some (.ref x),some (.ref b),some (.ref q),some (.ref tb),some (.int num)]) rfl ?_;walk_at "w";refine⟨gt,λf c' H3 Cc s3 hc hC=>?_⟩;refine⟨b,st,ps.length,tb,f,num,rows,Wr m ps,_,by simp,s3 _ _ hb,HN.same s3,PX (K:=K) (a:=a) Cc f _ hC (hm.same s3) hg (s3 _ _ hq) ha (λH' h b' p Q s' gq hp gh=>?_),by lia,by lia,λrow hr=>(bw row hr).1,λi row p er hi hp=>?_,λH4 s4=>?_⟩
  ·refine⟨s' _ _ hc,rfl,?_⟩;refine OJ (σ:=[some (.int (h:Int)),some (.ref b'),some (.ref x),some (.ref q)]) rfl ?_;walk_at "w";exact gh
  ·exact⟨⟨hi,(bw row (iI er)).2 p hp⟩,gj (JE ..) (by decide)⟩
  ·walk_at "w";exact k H4 (s3.trans s4)
inductive zN  (K:W.Frag) (vs:List V) (H:Hp) (Q:VK) (E:XK):Prop
 |mk:∀(p b:Addr) (x y M:Int),(vs=[.ref p,.ref b,.int M])->bG H p->(H b=some (.lst [.int x,.int y]))->(1<=y)->(y<=50000000000)->Am M->(∀(r:Int) H',Am r->bG H' p->bY p H H'->fR p H H'->Q (.int r) H')->zN K vs H Q E
theorem aEu(tx:Txt K mg a):cE P w K mg base hU 2 a.nM a.nO asa (zN K):=by
 have aT:=eR (P:=P) (w:=w) (base:=base) tx;refine tx.nY.ok aEh (by walk_at "l") λbh A outer s H vs Q E hr h=>?_;obtain⟨p,b,x,y,M,rfl ,hh,hb,y0,y1,hM,k⟩:=h;have hu:=lT hr;refine bE (aG (aN (aH (P5 rfl) (by rfl) tx.zC zX (aA (aH (oA rfl) (by rfl) tx.Ak DP (aA aD (aA (aK hJ (aK bX (aK cT (aJ (K':=K) (aB 1) aD) (ay aT hr tx.bA tx.aX.kp tx.aZ (aA (aB 0) (aA aD aC)))) (ay aT hr tx.bA tx.aX.kp tx.aZ (aA (aB 0) (aA aD aC)))) aD) aC))) (aA (aB 2) aC))))) ?_;obtain⟨m0,m1⟩:=hM;have bp:b≠p:=hh.E1 hb (by simp);refine aW (σ:=[some (.ref p),some (.ref b),some (.int M)]) rfl ?_;walk_at "w";refine⟨p,_,rfl,hh,by decide,by decide,λr1 H1 a1 b1 h1 k1 q1=>?_⟩;walk_at "w";refine⟨p,_,rfl,h1,by decide,by decide,λr2 H2 a2 b2 h2 k2 q2=>?_⟩;walk_at "w";exact k _ _ ⟨by lia,by lia⟩ h2 (k1.trans k2) (q1.trans q2)
theorem yV.aRJ{ps:ar}(h:yV H a ps)(hs:d9 H s m)(k:bY s H H'):yV H' a ps:=by
 obtain⟨qs,h1,h2⟩:=h.ex;obtain⟨pl,g1,_⟩:=hs.ex;refine⟨qs,k _ _ h1 (λz=>?_),h2.keep (λxs z=>by rw[g1] at z;cases z) k⟩;rw[z,g1] at h1;cases qs with
 |nil=>cases h1
 |cons q r=>cases h1
def OV(H:Hp)(v:V):Option (ae)->Prop
 |none=>v=.ba
 |some s=>∃T,v=.ref T/\H T=some (.tup [.int s.1,.int s.2])
theorem OV.same:∀{o:Option (ae)},OV H v o->aO H H'->OV H' v o
 |none,h,_=>h
 |some _,⟨T,e,g⟩,s=>⟨T,e,s _ _ g⟩
def Aj(m:MS)(q:ae)(on:Int):Option (ae):=if q.1=on\/q.2=0 then some (pB m q.1 q.2 on) else none
inductive zO  (K:W.Frag) (vs:List V) (H:Hp) (Q:VK) (E:XK):Prop
 |mk:∀(s:Addr) (m:MS) (t:Addr) (o d on:Int),(vs=[.ref s,.ref t,.int on])->d9 H s m->(H t=some (.tup [.int o,.int d]))->jg on->jg o->(0<=d)->(∀v H',aO H H'->OV H' v (Aj m (o,d) on)->Q v H')->zO K vs H Q E
theorem rH(tx:Txt K mg a):cE P w K mg base hU 1 a.nP a.nQ aha (zO K):=by
 refine tx.fH.ok aEi (by walk_at "l") λbh A outer s H vs Q E hr h=>?_;obtain⟨s,m,t,o,d,on,rfl ,hs,ht,Es,ho,hd,kk⟩:=h;have hu:=lT hr;refine bE (aE (bD (aY (r:=iN K) (dR hu) (aB 2) (aJ (K':=K) (aB 1) aD) (bN _)) (aG (aN (dF (aB 2) (aH (oA rfl) (by rfl) tx.Ak DP (aA aD (aA (aK hJ (aJ (K':=K) (aB 1) aD) aD) aC)))))) aU)
  (aE (bD (aY E9 (aJ (K':=K) (aB 1) aD) aD (bN _)) (aG (aN iF)) aU)
  (aG (aN (dF (aB 2) (aK hJ (aJ (K':=K) (yC (aJ (K':=K) (aB 0) aD) (aJ (K':=K) (aB 0) aD)) (aB 2)) aD)))))) ?_
 have k1:(o=on\/d=0)->∀T H',aO H H'->H T=none->H' T=some (.tup [.int (pB m o d on).1,.int (pB m o d on).2])->Q (.ref T) H':=λh T H' s _ g=>kk _ _ s (by unfold Aj;rw[cJ h];exact⟨T,rfl,g⟩);have k2:¬(o=on\/d=0)->Q .ba H:=λh=>kk _ _ (aO.refl _) (by unfold Aj;rw[bV h];rfl);obtain⟨pl,e1,_⟩:=hs.ex;refine aW (σ:=[some (.ref s),some (.ref t),some (.int on)]) rfl ?_;walk_at "w";refine dA (λh=>?_) (λh=>?_)
 ·have k3:=k1 (.inl h.symm);unfold pB at k3;rw[cJ h.symm] at k3;walk_at "w";rw[show max 0 (d - 1)=max (d - 1) 0 by lia];intro T nT;walk_at "w";exact k3 _ _ (aO.new nT) nT aP
 ·walk_at "w";refine dA (λh1=>?_) (λh1=>?_)
  ·walk_at "w";exact k2 (λz=>by rcases z with z|z;exact h z.symm;lia)
  ·have k3:=k1 (.inr (by lia));unfold pB at k3;rw[bV (λz=>h z.symm)] at k3;walk_at "w";intro l nl;walk_at "w";have sl:=aO.new (o:=.lst [.int m.down,.int m.up]) nl;rcases Es with rfl|rfl
   ·refine Jw (bR.of aP) rfl ?_;rw[bV (by decide)] at k3;walk_at "w";intro T nT;walk_at "w";exact k3 _ _ (sl.trans (aO.new nT)) (sl.free nT) aP
   ·refine Jw (bR.of aP) rfl ?_;rw[cJ rfl] at k3;walk_at "w";intro T nT;walk_at "w";exact k3 _ _ (sl.trans (aO.new nT)) (sl.free nT) aP
theorem tS{ts:az}(h:dW H qs ts)(s:aO H H'):dW H' qs ts:=⟨h.len,λj q t x y=>⟨s _ _ (h.at_ j q t x y).1,(h.at_ j q t x y).2⟩⟩
def rg(H:Hp)(vs:List V)(os:List (Option (ae))):Prop:=vs.length=os.length/\∀(i:Nat) v o,vs[i]?=some v->os[i]?=some o->OV H v o
theorem rg.same{os:List (Option (ae))}(h:rg H vs os)(s:aO H H'):rg H' vs os:=⟨h.1,λi v o x y=>(h.2 i v o x y).same s⟩
theorem rg.app{os qs:List (Option (ae))}(h:rg H vs os)(g:rg H us qs):rg H (vs++us) (os++qs):=by
 refine⟨by rw[uN,uN,h.1,g.1],λi v o x y=>?_⟩;by_cases hi:i < vs.length
 ·rw[kr hi] at x;rw[kr (by rw[<-h.1];exact hi)] at y;exact h.2 i v o x y
 ·rw[nu (by lia)] at x;rw[nu (by rw[<-h.1];lia),<-h.1] at y;exact g.2 _ v o x y
theorem rg.two{a b:Option (ae)}(h:OV H u a)(g:OV H v b):rg H [u,v] [a,b]:=⟨rfl,λi w o x y=>by
 match i,x,y with
 |0,x,y=>cases x;cases y;exact h
 |1,x,y=>cases x;cases y;exact g
 |_+2,x,_=>simp at x⟩
def nx(m:MS)(q:ae):List (Option (ae)):=[Aj m q 0,Aj m q 1]
theorem aMF{ks:ar}{s:ae}:some s∈ks.flatMap (nx m)↔∃q∈ks,On m q s:=by
 rw[List.mem_flatMap];have one:∀{q:ae} {on:Int},some s=Aj m q on↔(q.1=on\/q.2=0)/\s=pB m q.1 q.2 on:=by
  intro q on;unfold Aj;by_cases c:q.1=on\/q.2=0
  ·rw[cJ c];exact⟨λh=>⟨c,Option.some.inj h⟩,λh=>congrArg some h.2⟩
  ·rw[bV c];exact⟨(λh=>by cases h),λh=>absurd h.1 c⟩
 constructor
 ·rintro ⟨q,hq,h⟩;refine⟨q,hq,?_⟩;rcases lQ.mp h with h|h
  ·obtain⟨c,e⟩:=one.mp h;exact⟨0,.inl rfl,c,e⟩
  ·rcases lQ.mp h with h|h
   ·obtain⟨c,e⟩:=one.mp h;exact⟨1,.inr rfl,c,e⟩
   ·cases h
 ·rintro ⟨q,hq,on,b,c,e⟩;refine⟨q,hq,?_⟩;rcases b with rfl|rfl
  ·exact lQ.mpr (.inl (one.mpr ⟨c,e⟩))
  ·exact lQ.mpr (.inr (lQ.mpr (.inl (one.mpr ⟨c,e⟩))))
theorem OH(m:MS):∀ks:ar,(ks.flatMap (nx m)).length=2*ks.length
 |[]=>rfl
 |k::ks=>by rw[List.flatMap_cons,uN,OH m ks,yW];show 2+_=_;lia
def dd:az->az
 |[]=>[]
 |x::r=>if x∈dd r then dd r else x::dd r
theorem Fg:∀{l:az}{x:aa},x∈dd l↔x∈l
 |[],_=>Iff.rfl
 |y::r,x=>by
  unfold dd;split
  ·rename_i h;rw[Fg,lQ];exact⟨.inr,λz=>by rcases z with z|z;rw[z];exact Fg.mp h;exact z⟩
  ·rw[lQ,lQ,Fg]
theorem Oe:∀l:az,(dd l).Nodup
 |[]=>Bh
 |y::r=>by
  unfold dd;split
  ·exact Oe r
  ·rename_i h;exact ni.mpr ⟨h,Oe r⟩
def sr(s:ae):aa:=[s.1,s.2]
theorem aOI{m:MS}(g:m.Good){a:ae}(h:fu m a){n:Nat}{us:az}(nd:us.Nodup)(hr:∀t∈us,∃s,t=sr s/\Rc m a n s):us.length<=25:=by
 have e:us=(us.map λu=>(u.getD 0 0,u.getD 1 0)).map sr:=by
  rw[zW];conv=>lhs;rw[<-List.map_id us]
  refine Bo λu hu=>?_;obtain⟨s,rfl,_⟩:=hr u hu;rfl
 have Ln:(us.map λu=>(u.getD 0 0,u.getD 1 0)).Nodup:=by
  rw[List.Nodup,pd];refine nd.imp_of_mem ?_;intro x y hx hy En z;obtain⟨s,rfl,_⟩:=hr x hx;obtain⟨s',rfl,_⟩:=hr y hy;refine En ?_;injection z with z1 z2
  unfold sr;rw[show s.1=s'.1 from z1,show s.2=s'.2 from z2]
 have:=Rc.yT g h Ln (n:=n) λk hk=>by
  obtain⟨u,hu,rfl⟩:=mD.mp hk;obtain⟨s,rfl,hs⟩:=hr u hu;exact hs
 rw[bK] at this;exact this
theorem rg.refs:∀{vs:List V}{os:List (Option (ae))},rg H vs os->∃qs:ah,vs.filter (λv=>!decide (v=V.ba))=qs.map V.ref/\dW H qs ((os.filterMap id).map sr)
 |[],[],_=>⟨[],rfl,rfl,λj q t h=>by simp at h⟩
 |[],_::_,h=>by have:=h.1;simp at this
 |_::_,[],h=>by have:=h.1;simp at this
 |v::vs,o::os,h=>by
  obtain⟨qs,e1,e2⟩:=rg.refs (vs:=vs) (os:=os) ⟨by have:=h.1;simpa using this,λi w o x y=>h.2 (i+1) w o x y⟩;have h0:=h.2 0 v o rfl rfl;cases o with
  |none=>
   have h0':v=.ba:=h0;subst h0';exact⟨qs,e1,e2⟩
  |some s=>
   obtain⟨T,rfl,g⟩:=h0;refine⟨T::qs,by rw[FF (by simp),e1];rfl,by have:=e2.len;simp[this],λj q t x y=>?_⟩;cases j with
   |zero=>cases x;cases y;exact⟨g,by unfold sr;simp⟩
   |succ j=>exact e2.at_ j q t x y
theorem aMH{qs:ah}{us ts:az}(nd:ts.Nodup)(hf:∀t∈ts,∃s,t=sr s)(hT:dW H qs us)(hp:us.Perm ts)(hs:us.Pairwise λa b=>gL b a=false) :
  ∃ks:ar,ks.Pairwise su/\(∀s,s∈ks↔sr s∈ts)/\uc κS H (qs.map V.ref) ks:=by
 have e:(ts.map λu=>(((u.getD 0 0,u.getD 1 0),0):WP)).map (λp=>[p.1.1,p.1.2])=ts:=by
  rw[zW];conv=>rhs;rw[<-List.map_id ts]
  refine Bo λu hu=>?_;obtain⟨s,rfl⟩:=hf u hu;rfl
 have Ln:((ts.map λu=>(((u.getD 0 0,u.getD 1 0),0):WP)).map (·.1)).Nodup:=by
  rw[zW,List.Nodup,pd];refine nd.imp_of_mem ?_;intro x y hx hy En z;obtain⟨s,rfl⟩:=hf x hx;obtain⟨s',rfl⟩:=hf y hy;refine En ?_;have z1:=congrArg Prod.fst z;have z2:=congrArg Prod.snd z;unfold sr;rw[show s.1=s'.1 from z1,show s.2=s'.2 from z2]
 obtain⟨ks,a1,a2,a3⟩:=zH Ln hT (by rw[e];exact hp) hs;refine⟨ks,a1,λs=>?_,a3⟩;rw[a2,zW,mD];constructor
 ·rintro ⟨u,hu,e⟩;obtain⟨s',rfl⟩:=hf u hu;rw[show s=s' from e.symm];exact hu
 ·intro h;exact⟨sr s,h,rfl⟩
theorem aQG{H:Hp}{a:ae}{n:Nat}{ks:ar}(hk:∀s,s∈ks↔Rc m a n s){t:aa}:t∈((ks.flatMap (nx m)).filterMap id).map sr↔∃s,t=sr s/\Rc m a (n+1) s:=by
 rw[mD];have one:∀s,s∈(ks.flatMap (nx m)).filterMap id↔Rc m a (n+1) s:=λs=>by
  rw[Km];constructor
  ·rintro ⟨o,ho,e⟩;have e':o=some s:=e;rw[e',aMF] at ho;obtain⟨q,hq,h⟩:=ho;exact⟨q,(hk q).mp hq,h⟩
  ·rintro ⟨q,hq,h⟩;exact⟨some s,aMF.mpr ⟨q,(hk q).mpr hq,h⟩,rfl⟩
 constructor
 ·rintro ⟨s,hs,e⟩;exact⟨s,e.symm,(one s).mp hs⟩
 ·rintro ⟨s,e,hs⟩;exact⟨s,(one s).mpr hs,e.symm⟩
theorem aR4(m:MS)(p:Int)(s:ae):hw m p s 0=m.rest:=by
 show Dx m s.1 [0] - 0*Ii m p=_;unfold Dx;rw[show wt s.1 [0] 0=[] by show(if (0:Int)=1/\s.1=0 then [((0:Nat):Int)] else []) ++ []=[];rw[bV (by lia)];rfl];simp
theorem aR5(m:MS)(p:Int){s:ae}(b:jg s.1):hw m p s 1=m.run+m.begin_*(1 - s.1) - Ii m p:=by
 show Dx m s.1 [1] - 1*Ii m p=_;unfold Dx;rcases b with b|b
 ·rw[show wt s.1 [1] 0=[0] by show(if (1:Int)=1/\s.1=0 then [((0:Nat):Int)] else []) ++ []=[0];rw[cJ ⟨rfl,b⟩];rfl,b];simp;lia
 ·rw[show wt s.1 [1] 0=[] by show(if (1:Int)=1/\s.1=0 then [((0:Nat):Int)] else []) ++ []=[];rw[bV (by lia)];rfl,b];simp
inductive aBn  (K:W.Frag) (vs:List V) (H:Hp) (Q:VK) (E:XK):Prop
 |mk:∀(s:Addr) (m:MS) (t:Addr) (a:ae) (p on:Int),(vs=[.ref s,.ref t,.int p,.int on])->d9 H s m->m.Good->(H t=some (.tup [.int a.1,.int a.2]))->jg a.1->(0<=p)->(p<=1000000000001)->jg on->(∀H',aO H H'->Q (.int (hw m p a on)) H')->aBn K vs H Q E
theorem aBo(tx:Txt K mg a):cE P w K mg base hU 2 a.qD a.qE ada (aBn K):=by
 have aHe:=aFP (P:=P) (w:=w) (base:=base) tx;refine tx.qJ.ok aFJ (by walk_at "l") λbh A outer s H vs Q E hr h=>?_;obtain⟨s,m,t,st,pr,on,rfl ,hs,hg,ht,hb,p0,p1,ka,k⟩:=h;have hu:=lT hr;refine bE (aE (bD (aY (r:=iN K) (dR hu) (aB 3) aD (bN _)) (aG (aN (aJ (K':=K) (aB 0) aD))) aU)
  (aG (aN (aK hJ (aK bX (aJ (K':=K) (aB 0) aD) (aK cT (aJ (K':=K) (aB 0) aD) (aK hJ aD (aJ (K':=K) (aB 1) aD)))) (ay aHe hr tx.aB4 tx.wJ.kp tx.aB3 (aA (aB 0) (aA (aB 2) aC))))))) ?_
 obtain⟨pl,e1,_⟩:=hs.ex;obtain⟨b0,b1⟩:=hg.begin_;have bb:0<=st.1/\st.1<=1:=by rcases hb with z|z <;> lia
 obtain⟨bb0,bb1⟩:=bb;refine aW (σ:=[some (.ref s),some (.ref t),some (.int pr),some (.int on)]) rfl ?_;walk_at "w";rcases ka with rfl|rfl
 ·repeat walk_at "gs"
  rw[aR4] at k;exact k H (aO.refl _)
 ·repeat walk_at "gs"
  refine⟨s,m,pr,rfl,hs,hg,p0,p1,λH1 s1=>?_⟩;walk_at "w";rw[aR5 m pr hb] at k;exact k H1 s1
inductive uX  (K:W.Frag) (vs:List V) (H:Hp) (Q:VK) (E:XK):Prop
 |mk:∀(s:Addr) (m:MS) (t:Addr) (a:ae) (n:Nat),(vs=[.ref s,.ref t,.int (n:Int)])->d9 H s m->m.Good->(H t=some (.tup [.int a.1,.int a.2]))->fu m a->(n<=1000)->(∀la Ls H',aO H H'->H la=none->DH κS H' la Ls->rG m a Ls->Ls.length=n+1->Q (.ref la) H')->uX K vs H Q E
theorem aCB(tx:Txt K mg a):cE P w K mg base hU 2 a.jH a.jI apa (uX K):=by
 have fJ:=rH (P:=P) (w:=w) (base:=base) tx;refine tx.oV.ok eG (by walk_at "l") λbh A outer s H vs Q E hr h=>?_;obtain⟨s,m,t,st,n,rfl ,hs,hg,ht,bq,hn,k⟩:=h;have hu:=lT hr;refine bE (aE (aI (i:=3) eG.nd (j7 (j7 (aB 1))))
  (aE (bU PassesOwn.never rfl (cN (by rfl) tx.eQ (aA (aB 2) aC)) (aM (i:=4) eG.nd) (aE (aI (i:=5) eG.nd (eW aC))
  (aE (bU PassesOwn.never rfl (bF (K':=K) (aJ (K':=K) (aB 3) (lF vD aD))) (aM (i:=6) eG.nd) (aG (aI (i:=5) eG.nd (aK bX (aB 5) (yC (ay fJ hr tx.gG tx.fH.kp tx.gF (aA (aB 0) (aA (aB 6) (aA aD aC)))) (ay fJ hr tx.gG tx.fH.kp tx.gF (aA (aB 0) (aA (aB 6) (aA aD aC)))))))))
  (aG (cW (dU (K':=K) (aB 3) (aA (aH (rc:=Pa w) (aH3 rfl) (by rfl) tx.oZ xU (aA (fM (rc:=Od w) (aJ1 rfl hu) (by rfl) tx.Jd aQt (aA (bW (k:=1) (idx:=[]) (N:=["_law_one"]) (cU (sc:=aL iT) (NX:=aJa) rfl rfl rfl (by decide +kernel)) rfl (bF (K':=K) (aB 5)) (λ_ _ _ _=>(aM (i:=0) (show(["_law_one"]:ak).Nodup by decide +kernel))) (cV (by decide)) (λ_ _ _ _=>(sI (aY rK (aB 0) iF (bN _)))) (λ_ _ _ _=>(aB 0))) aC)) aC)) aC)))))))
  (aG (aN (aB 3))))) ?_
 refine aW (σ:=[some (.ref s),some (.ref t),some (.int (n:Int)),none,none,none,none]) rfl ?_;walk_at "w";intro l0 Ed;obtain⟨H1,i1,s1,g1⟩:=nw _ Ed;rw[i1];walk_at "w";intro la vx;obtain⟨H4,i4,s4,g4⟩:=nw _ vx;rw[i4];have S4:aO H H4:=s1.trans s4;have xi:H la=none:=s1.free vx;have ME:=s4 _ _ g1;have LL:=S4 _ _ ht;walk_at "w";refine⟨by lia,by lia,?_⟩;refine iO (λi σ' H'=>∃(as:ah) (Ls:List (ar)) (z4 z5 z6:Option V),σ'=[some (.ref s),some (.ref t),some (.int (n:Int)),some (.ref la),z4,z5,z6]/\aO H H'/\H' la=some (.lst (as.map V.ref))/\RL (λb ps=>∃us,H' b=some (.lst us)/\uc κS H' us ps/\b≠la) as Ls/\rG m st Ls/\Ls.length=i+1)
  ⟨[l0],[[st]],_,_,_,rfl,S4,g4,RL.one ⟨_,ME,⟨rfl,λi v x h1 h2=>?_⟩,λz=>?_⟩,⟨λi ps hi=>?_⟩,rfl⟩ (λi σ' H' hi RE=>?_) (λσ' H' RD=>?_)
 ·match i,h1,h2 with
  |0,h1,h2=>cases h1;cases h2;exact⟨t,rfl,LL⟩
  |_+1,h1,_=>simp at h1
 ·rw[z,vx] at g1;cases g1
 ·match i,hi with
  |0,hi=>cases hi;exact⟨by simp,λs=>by show s∈[st]↔s=st;simp⟩
  |_+1,hi=>simp at hi
 ·obtain⟨as,Ls,z4,z5,z6,e,S',wq,yq,hL,lL⟩:=RE;subst e;have ie:=yq.len;have ea:as[i]?=some as[i]:=cG (by lia);have el:Ls[i]?=some Ls[i]:=cG (by lia);obtain⟨us,gp,hP,pla⟩:=yq.at_ i _ _ ea el;obtain⟨hw,hk⟩:=hL.at_ i _ el;generalize as[i]=p at ea gp pla;generalize Ls[i]=ks at el hP hw hk;have ai:pC (as.map V.ref) (-1)=some (.ref p):=by
   rw[vG (by rw[bK];lia),bK,ie,lL,Bn];exact fQ ea
  have yT:=Rc.yT hg bq (Ci hw) λk ky=>(hk k).mp ky;walk_at "w";intro lt AV;obtain⟨H2,i2,s2,g2⟩:=nw _ AV;rw[i2];have Xl:=s2 _ _ wq;walk_at "w";have hPl:=hP.1;refine fA (bR.of (s2 _ _ gp)) ?_;refine sG (xs:=us) (λj σ' H'=>∃(lt:Addr) (vs:List V) (z4 z6:Option V),σ'=[some (.ref s),some (.ref t),some (.int (n:Int)),some (.ref la),z4,some (.ref lt),z6]/\aO H2 H'/\H' lt=some (.lst vs)/\rg H' vs ((ks.take j).flatMap (nx m)))
   ⟨lt,[],_,_,rfl,aO.refl _,g2,rfl,λi v o h1=>by simp at h1⟩ (λj σ' H' hj ⟨_,_,_,_,_,s3,_⟩=>bR.of (s3 _ _ (s2 _ _ gp))) (λj v σ' H3 hv RC=>?_) (λσ' H3 RB=>?_)
  ·obtain⟨lt,vs,z4,z6,e,s3,g3,hO⟩:=RC;subst e;obtain⟨x,hx,T,rfl,gT⟩:=hP.get hv;have gT3:H3 T=some (.tup [.int x.1,.int x.2]):=(s2.trans s3) _ _ gT;have S3:=S'.trans (s2.trans s3);obtain⟨⟨b1,b2,b3⟩,_⟩:=Rc.st hg bq ((hk x).mp (iI hx));walk_at "w";refine⟨s,m,T,_,_,0,rfl,hs.same S3,gT3,.inl rfl,b1,b2,λv0 H4 s4 o0=>?_⟩;walk_at "w";refine⟨s,m,T,_,_,1,rfl,hs.same (S3.trans s4),s4 _ _ gT3,.inr rfl,b1,b2,λv1 H5 s5 o1=>?_⟩;walk_at "w";intro l5 nl5;obtain⟨H6,i6,s6,g6⟩:=nw _ nl5;rw[i6];have hl:=hO.1;rw[OH,xT] at hl;walk_at "w";refine xX ((s4.trans (s5.trans s6)) _ _ g3) g6 (bZ (by simp;lia)) ?_;intro l7 Lk;obtain⟨H8,i8,s8,g8⟩:=nw _ Lk;rw[i8];walk_at "w";refine⟨l7,_,_,_,rfl,s3.trans (s4.trans (s5.trans (s6.trans s8))),g8,?_⟩;rw[cL hx,List.flatMap_append];exact(hO.same (s4.trans (s5.trans (s6.trans s8)))).app (by rw[List.flatMap_singleton];exact rg.two (o0.same (s5.trans (s6.trans s8))) (o1.same (s6.trans s8)))
  ·obtain⟨lt,vs,z4,z6,e,s3,g3,hO⟩:=RB;subst e;rw[hPl,fe] at hO;have hl:=hO.1;rw[OH] at hl;have Xk:=s3 _ _ Xl;walk_at "w";refine hV (bR.of Xk) ?_;walk_at "w";refine fA (bR.of g3) ?_;refine cM (xs:=vs) (λj us H'=>H'=H3/\us=(vs.take j).filter (λv=>!decide (v=V.ba))) ⟨rfl,rfl⟩ (bZ (by lia)) (λj us H' hj ⟨e0,e1⟩=>⟨by rw[e0];exact bR.of g3,by rw[e1];exact gj (FE ..) (List.length_take_le ..)⟩) (λj v us H' hv RA=>?_) (λus H' Rz=>?_)
   ·obtain⟨e0,e1⟩:=RA;subst e0;have hj:j < ((ks.flatMap (nx m))).length:=by rw[<-hO.1];exact(g0.mp hv).1
    have ov:=hO.2 j v _ hv (cG hj);have tk:=cL hv;cases he:(ks.flatMap (nx m))[j] with
    |none=>
     rw[he] at ov;have ov':v=.ba:=ov;subst ov';repeat walk_at "gs"
     refine⟨rfl,?_⟩;rw[e1,tk,Aq];simp
    |some x=>
     rw[he] at ov;obtain⟨T,rfl,_⟩:=ov;repeat walk_at "gs"
     refine⟨rfl,?_⟩;rw[e1,tk,Aq];simp
   ·obtain⟨e0,e1⟩:=Rz;subst e0;rw[fe] at e1;obtain⟨qs,q1,q2⟩:=hO.refs;rw[q1] at e1;subst e1;intro lc nlc;obtain⟨H4,i4,s4,g4⟩:=nw _ nlc;rw[i4];have nl:=λt=>aQG (H:=H4) (t:=t) hk;walk_at "w";refine aN7 (al:=dd (((ks.flatMap (nx m)).filterMap id).map sr)) g4 (tS q2 s4) (λt ht=>Fg.mpr ht) (Nat.lt_of_le_of_lt (aOI hg bq (n:=i+1) (Oe _) λt ht=>(nl t).mp (Fg.mp ht)) (by decide)) λpS mq KN npS hT' HB CC=>?_;obtain⟨H5,i5,s5,g5⟩:=nw _ npS;rw[i5];have a0w:=aOI hg bq (n:=i+1) HB λt ht=>(nl t).mp ((CC t).mp ht);walk_at "w";refine aMc g5 (tS hT' s5) (by lia) λpL qL uL Lg hTL hpL hsL=>?_;obtain⟨H6,i6,s6,g6⟩:=nw _ Lg;rw[i6];obtain⟨Ei,c1,c2,c3⟩:=aMH HB (λt ht=>by obtain⟨s,e,_⟩:=(nl t).mp ((CC t).mp ht);exact⟨s,e⟩) hTL hpL hsL;have Hn:=s2.trans (s3.trans (s4.trans (s5.trans s6)));have S6:aO H H6:=S'.trans Hn;have CQ:=Hn _ _ wq;have xh:pL≠la:=λz=>by rw[z,(s2.trans (s3.trans (s4.trans s5))) _ _ wq] at Lg;cases Lg
    have c2':∀x,x∈Ei↔Rc m st (i+1) x:=λx=>by
     rw[c2,CC,nl];exact⟨λ⟨y,e,h⟩=>by
      unfold sr at e;injection e with e1 e2
      injection e2 with e2
      rw[show x=y from Prod.ext e1 e2];exact h,λh=>⟨x,rfl,h⟩⟩
    walk_at "w";refine lU (xs:=as.map V.ref) CQ (rT (by rw[bK];lia:(as.map V.ref).length < 20000) (bZ (by decide))) ?_;obtain⟨H7,i7,k7,g7⟩:=wr H6 la _;rw[i7];walk_at "w";have hR:RL (λb ps=>∃us,H7 b=some (.lst us)/\uc κS H7 us ps/\b≠la) (as ++ [pL]) (Ls ++ [Ei]):=by
     refine RL.snoc (yq.imp λb ps ⟨us,a1,a2,a3⟩=>⟨us,k7 _ _ (Hn _ _ a1) a3,⟨a2.1,λi v x h1 h2=>PK.Fp (κS.jM (a2.2 i v x h1 h2) Hn) CQ k7⟩,a3⟩) ⟨_,k7 _ _ g6 xh,⟨c3.1,λi v x h1 h2=>PK.Fp (κS.jM (c3.2 i v x h1 h2) s6) CQ k7⟩,xh⟩
    have Mm:rG m st (Ls ++ [Ei]):=by
     refine⟨λj rs hj=>?_⟩;by_cases dk:j < Ls.length
     ·rw[kr dk] at hj;exact hL.at_ j rs hj
     ·have BX:j < (Ls ++ [Ei]).length:=(g0.mp hj).1;rw[uN,Ar] at BX;obtain rfl:j=Ls.length:=by lia
      rw[nu (d7 _),ou] at hj;cases hj;refine⟨c1,λs=>?_⟩;rw[c2' s,lL]
    exact⟨as ++ [pL],Ls ++ [Ei],_,_,_,rfl,λb o e=>k7 _ _ (S6 _ _ e) (bJ xi e),by rw[g7,iJ];rfl,hR,Mm,by rw[uN,lL];rfl⟩
 ·obtain⟨as,Ls,z4,z5,z6,e,S',wq,yq,hL,lL⟩:=RD;subst e;walk_at "w";exact k la Ls H' S' xi ⟨as,wq,yq.imp λb ps ⟨us,a1,a2,_⟩=>⟨us,a1,a2⟩⟩ hL (by lia)
theorem aCj{α:Type}{pn:List α}{i:Nat}{x:α}(nd:pn.Nodup)(ex:pn[i]?=some x):x∉pn.take i:=λz=>by
 obtain⟨j,hj,ej⟩:=Kn z;rw[xT] at hj;rw[List.getElem_take] at ej;have e2:pn[i]'((g0.mp ex).1)=x:=(g0.mp ex).2;have:=(DU nd).mp (ej.trans e2.symm);lia
def AR(m:MS)(p:Int)(f:ae->Int)(s:ae)(jj:aa):aa:=(jj.filter (xK s)).map λon=>hw m p s on+f (pB m s.1 s.2 on)
theorem aOm(m:MS)(p:Int)(f:ae->Int)(s:ae):AR m p f s [0,1]=(dj m p s).map λw=>w.2.2+f w.2.1:=by
 unfold AR dj;rw[zW];rfl
theorem aCk{f:ae->Int}{ws:List (Wy (ae))}{mm:Int}(h1:mm∈ws.map λw=>w.2.2+f w.2.1)(h2:∀x∈ws.map (λw=>w.2.2+f w.2.1),mm<=x):mm=dY f ws:=by
 obtain⟨w,hw,e⟩:=mD.mp h1;exact aE7 ⟨w,hw,e⟩ λw hw=>h2 _ (mD.mpr ⟨w,hw,rfl⟩)
theorem PD{s:ae}{on:Int}(h:xK s on=true):Aj m s on=some (pB m s.1 s.2 on):=cJ (jO.mp h)
theorem aHf{s:ae}{on:Int}(h:xK s on=false):Aj m s on=none:=bV λz=>by rw[jO.mpr z] at h;cases h
inductive xO  (K:W.Frag) (vs:List V) (H:Hp) (Q:VK) (E:XK):Prop
 |mk:∀(s:Addr) (m:MS) (t:Addr) (a:ae) (q:Addr) (ps:aa),(vs=[.ref s,.ref t,.ref q])->d9 H s m->m.Good->(H t=some (.tup [.int a.1,.int a.2]))->fu m a->(H q=some (.lst (ps.map V.int)))->((∀n∈ps,Am n))->(ps.length<=48)->(∀lt Ls H',aO H H'->H lt=none->rG m a Ls->Ls.length=ps.length+1->qt κS H' lt Ls (λi=>wF (Wr m ps) (ps.length - i) i)->Q (.ref lt) H')->xO K vs H Q E
theorem aDS(tx:Txt K mg a):cE P w K mg base hU 3 a.kJ a.kK ama (xO K):=by
 have fJ:=rH (P:=P) (w:=w) (base:=base) tx;have xP:=aBo (P:=P) (w:=w) (base:=base) tx;have aDT:=aCB (P:=P) (w:=w) (base:=base) tx;refine tx.kU.ok cA (by walk_at "l") λbh A outer s H vs Q E hr h=>?_;obtain⟨s,m,t,st,q,ps,rfl ,hs,hg,ht,bq,hq,ha,hl,k⟩:=h;have hu:=lT hr;refine bE (aE (aI (i:=3) cA.nd (ay aDT hr tx.w9 tx.oV.kp tx.w6 (aA (aB 0) (aA (aB 1) (aA (aH (rc:=jR K) bS (by rfl) tx.eO dH (aA (aB 2) aC)) aC)))))
  (aE (aI (i:=4) cA.nd lG)
  (aE (bU PassesOwn.never rfl (bF (K':=K) (aJ (K':=K) (aB 3) (lF vD aD))) (aM (i:=5) cA.nd) (aG (oG hu (aB 4) (aB 5) aD)))
  (aE (aI (i:=6) cA.nd (j7 (aB 4)))
  (aE (bU PassesOwn.never rfl (aAI (by rfl) tx.eQ (aA (aK hJ (aH (rc:=jR K) bS (by rfl) tx.eO dH (aA (aB 2) aC)) aD) (aA (lF vD aD) (aA (lF vD aD) aC)))) (aM (i:=7) cA.nd) (aE (aI (i:=8) cA.nd lG)
  (aE (bU PassesOwn.never rfl (bF (K':=K) (aJ (K':=K) (aB 3) (aB 7))) (aM (i:=5) cA.nd) (aE (aI (i:=9) cA.nd (eW aC))
  (aE (bU PassesOwn.never rfl (sL (K':=K) (dF aD aD)) (aM (i:=10) cA.nd) (aE (aI (i:=11) cA.nd (ay fJ hr tx.gG tx.fH.kp tx.gF (aA (aB 0) (aA (aB 5) (aA (aB 10) aC)))))
  (aG (bD (aY rK (aB 11) iF (bN _)) (aG (cW (dU (K':=K) (aB 9) (aA (aK bX (ay xP hr tx.w4 tx.qJ.kp tx.wZ (aA (aB 0) (aA (aB 5) (aA (aJ (K':=K) (aB 2) (aB 7)) (aA (aB 10) aC))))) (eM hu (aJ (K':=K) (aB 6) aD) (aB 11))) aC)))) aU))))
  (aG (oG hu (aB 8) (aB 5) (aH (rc:=DB K) (yD rfl) (by rfl) tx.zC zX (aA (aB 9) aC)))))))
  (aG (aI (i:=6) cA.nd (aK bX (j7 (aB 8)) (aB 6)))))))
  (aG (aN (aB 6)))))))) ?_
 refine aW (σ:=[some (.ref s),some (.ref t),some (.ref q),none,none,none,none,none,none,none,none,none]) rfl ?_;walk_at "w";refine⟨s,m,t,st,ps.length,by rw[bK],hs,hg,ht,bq,by lia,λla Ls H1 s1 vx hL hR lL=>?_⟩;obtain⟨as,ga,ra⟩:=hL.ex;have ie:=ra.len;have HG:=Pl hg bq ps (Ls:=Ls) (by lia) hR;have el:as[ps.length]?=some as[ps.length]:=cG (by lia);have ll:Ls[ps.length]?=some Ls[ps.length]:=cG (by lia);obtain⟨us,gu,pu⟩:=ra.at_ ps.length _ _ el ll;generalize as[ps.length]=an at el gu;generalize Ls[ps.length]=pn at ll pu;have Lm:=HG.nd pn (iI ll);have fwn:=HG.yT pn (iI ll);have Eg:=pu.1;have ai:pC (as.map V.ref) (-1)=some (.ref an):=by
  rw[vG (by rw[bK];lia),bK,ie,lL,Bn];exact fQ el
 walk_at "w";refine κS.new (λ_=>0) λbd H2 Lo s2 db=>?_;have ga2:=s2 _ _ ga;walk_at "w";refine fA (bR.of (s2 _ _ gu)) ?_;refine sG (xs:=us) (λi σ' H'=>aO H1 H'/\κS.da H' bd (pn.take i) (λ_=>0)/\∃z5,σ'=[some (.ref s),some (.ref t),some (.ref q),some (.ref la),some (.ref bd),z5,none,none,none,none,none,none]) ⟨s2,db,_,rfl⟩
  (λi σ' H' hi ⟨s',_⟩=>bR.of (s' _ _ gu)) (λi v σ' H' hv Ry=>?_) (λσ' H3 Rx=>?_)
 ·obtain⟨s',A1,z5,e⟩:=Ry;subst e;obtain⟨x,ex,px⟩:=pu.get hv;walk_at "w";obtain⟨H4,p4,d4,k4⟩:=κS.put A1 (κS.jM px s') (aCj Lm ex) (by rw[xT];lia);refine⟨bd,H4,rfl,p4,?_⟩;walk_at "w";refine⟨λb o e=>k4 _ _ (s' _ _ e) (bJ Lo e),?_,_,rfl⟩;rw[cL ex];exact d4
 ·obtain⟨s3,d3,z5,e⟩:=Rx;subst e;rw[Eg,fe] at d3;walk_at "w";intro lt AV;obtain⟨H4,i4,s4,g4⟩:=nw _ AV;rw[i4];have D8:=s3.trans s4;have hq4:=D8 _ _ (s1 _ _ hq);walk_at "w";refine⟨_,_,rfl,by rw[bK];lia,?_⟩;rw[show(((ps.map V.int).length:Int) - 1 - -1).toNat=ps.length by rw[bK];lia];refine aIP (n:=ps.length) (λi σ' H'=>aO H1 H'/\∃(lt:Addr) (ds:ah) (z5 z7 z8 z9 kh kg:Option V),σ'=[some (.ref s),some (.ref t),some (.ref q),some (.ref la),some (.ref bd),z5,some (.ref lt),z7,z8,z9,kh,kg]/\H1 lt=none/\H' lt=some (.lst (ds.map V.ref))/\ds.length=i+1/\∀(j:Nat) d rs,ds[j]?=some d->Ls[ps.length - i+j]?=some rs->κS.da H' d rs (wF (Wr m ps) (i - j) (ps.length - i+j)))
   ⟨D8,lt,[bd],_,_,_,_,_,_,rfl,s3.free AV,g4,rfl,λj d rs h1 h2=>?_⟩ (λi σ' H' hi Rw=>?_) (λσ' H' Rv=>?_)
  ·match j,h1 with
   |0,h1=>
    cases h1;rw[Cm,DR,ll] at h2;cases h2;exact κS.fS d3 s4
   |j+1,h1=>simp at h1
  ·obtain⟨s',lt,ds,z5,z7,z8,z9,kh,kg,e,AV,gd,ld,hd⟩:=Rw;subst e;obtain⟨h,hh⟩ : ∃h:Nat,h=ps.length - 1 - i:=⟨_,rfl⟩
   have oj:ps.length - i=h+1:=by lia
   have uw:ps.length - (i+1)=h:=by lia
   rw[show(((ps.map V.int).length:Int) - 1 - (i:Int))=((h:Nat):Int) by rw[bK];lia];have B6:ps[h]?=some ps[h]:=cG (by lia);obtain⟨Ea,K9⟩:=ha _ (lu (show h < ps.length by lia));have ES:ps.getD h 0=ps[h]:=by rw[yP,B6];rfl
   generalize ps[h]=pr at B6 Ea K9 ES;have ea:as[h]?=some as[h]:=cG (by lia);have eL:Ls[h]?=some Ls[h]:=cG (by lia);have oo:Ls[h+1]?=some Ls[h+1]:=cG (by lia);obtain⟨vs,gv,pv⟩:=ra.at_ h _ _ ea eL;have hR1:=hR.at_ h _ eL;have EE:=hR.at_ (h+1) _ oo;generalize as[h]=ax at ea gv;generalize Ls[h]=px at eL pv hR1;generalize Ls[h+1]=qx at oo EE;have ed:ds[0]?=some ds[0]:=cG (by lia);have d0:=hd 0 _ _ ed (by rw[oj,DR];exact oo);generalize ds[0]=dx at ed d0;rw[oj,DR,Cm] at d0;have ix:pC (as.map V.ref) ((h:Nat):Int)=some (.ref ax):=cO (fQ ea);have ixp:pC (ps.map V.int) ((h:Nat):Int)=some (.int pr):=cO (by rw[hE,B6];rfl);have ixd:pC (ds.map V.ref) 0=some (.ref dx):=cO (j:=0) (fQ ed);have MA:=s' _ _ ga;have ndx:=HG.nd px (iI eL);have fwx:=HG.yT px (iI eL);have lvs:=pv.1;walk_at "w";refine κS.new (wF (Wr m ps) (i+1) h) λwd H5 Hy s5 dw=>?_;have ga5:=s5 _ _ MA;walk_at "w";refine fA (bR.of (s5 _ _ (s' _ _ gv))) ?_
   refine sG (xs:=vs) (λj σ' H6=>aO H' H6/\κS.da H6 wd (px.take j) (wF (Wr m ps) (i+1) h)/\∃(z5 z9 kh kg:Option V),σ'=[some (.ref s),some (.ref t),some (.ref q),some (.ref la),some (.ref bd),z5,some (.ref lt),some (.int (h:Int)),some (.ref wd),z9,kh,kg])
    ⟨s5,dw,_,_,_,_,rfl⟩ (λj σ' H6 hj ⟨s6,_⟩=>bR.of (s6 _ _ (s' _ _ gv))) (λj v σ' H6 hv Ru=>?_) (λσ' H6 Rt=>?_)
   ·obtain⟨s6,d6,z5,z9,kh,kg,e⟩:=Ru;subst e;obtain⟨x,ex,px'⟩:=pv.get hv;obtain⟨T,rfl,gT⟩:=px';have MB:H6 T=some (.tup [.int x.1,.int x.2]):=s6 _ _ (s' _ _ gT);have rcx:=(hR1.2 x).mp (iI ex);obtain⟨⟨b1,b2,b3⟩,_⟩:=Rc.st hg bq rcx;walk_at "w";intro lw sv;obtain⟨H7,i7,s7,g7⟩:=nw _ sv;rw[i7];walk_at "w";intro To Lq;obtain⟨H8,i8,s8,g8⟩:=nw _ Lq;rw[i8];have EL:=s8 _ _ g7;have Qz:To≠lw:=λz=>by rw[z,EL] at g8;cases g8
    have zx:=s7.trans s8;walk_at "w";refine Jl (mE.of g8) ?_;refine O4 (xs:=([0,1]:aa).map V.int) (λj σ' H9=>∃(kh kg:Option V),σ'=[some (.ref s),some (.ref t),some (.ref q),some (.ref la),some (.ref bd),some (.ref T),some (.ref lt),some (.int (h:Int)),some (.ref wd),some (.ref lw),kh,kg]/\H9 lw=some (.lst ((AR m pr (wF (Wr m ps) i (h+1)) x (([0,1]:aa).take j)).map V.int))/\bY lw H8 H9)
     ⟨_,_,rfl,EL,λ_ _ e _=>e⟩ (λj σ' H9 hj ⟨_,_,_,_,k9⟩=>mE.of (k9 _ _ g8 Qz)) (λj v σ' H9 hv Rr=>?_) (λσ' H9 Rq=>?_)
    ·obtain⟨kh,kg,e,g9,k9⟩:=Rr;subst e;obtain⟨on,lg,rfl⟩:=yM hv;have ka:jg on:=by
      have:=iI lg;simp at this;exact this
     have jl:j < 2:=by have:=(g0.mp lg).1;simpa using this
     have S9:aO H6 H9:=λb o e=>k9 _ _ (zx _ _ e) (bJ sv e);have QD:=s'.trans (s6.trans S9);have tk:([0,1]:aa).take (j+1)=([0,1]:aa).take j ++ [on]:=by rw[xb,lg];rfl
     have wl:(AR m pr (wF (Wr m ps) i (h+1)) x (([0,1]:aa).take j)).length<=2:=by
      unfold AR;rw[bK];refine gj (FE ..) ?_;rw[xT];exact gj (Nat.min_le_right ..) (by decide)
     have hq9:=QD _ _ (s1 _ _ hq);have Mx:=S9 _ _ (s6 _ _ gd);walk_at "w";refine⟨s,m,T,_,_,on,rfl,hs.same (s1.trans QD),S9 _ _ MB,ka,b1,b2,λv0 md ju o0=>?_⟩;cases hm:xK x on with
     |true=>
      rw[PD hm] at o0;obtain⟨T0,rfl,EJ⟩:=o0;have dt:pB m x.1 x.2 on∈qx:=(EE.2 _).mpr ⟨x,rcx,on,ka,jO.mp hm,rfl⟩;have xw:=ju _ _ g9;have CT:=ju _ _ Mx;repeat walk_at "gs"
      refine hV (bR.of xw) ?_;walk_at "w";refine⟨s,m,T,x,pr,on,rfl,hs.same (s1.trans (QD.trans ju)),hg,(S9.trans ju) _ _ MB,b1,Ea,by lia,ka,λue mn=>?_⟩;have Xn:=mn _ _ CT;walk_at "w";refine⟨dx,_,rfl,κS.get (v:=.ref T0) (κS.fS d0 (s6.trans (S9.trans (ju.trans mn)))) ⟨T0,rfl,mn _ _ EJ⟩ dt,?_⟩;walk_at "w";refine lU (mn _ _ xw) (rT (by rw[bK];lia:(List.map V.int (AR m pr (wF (Wr m ps) i (h+1)) x (([0,1]:aa).take j))).length < 20000) (bZ (by decide))) ?_;obtain⟨jd,i12,jm,om⟩:=wr ue lw _;rw[i12];walk_at "w";refine⟨_,_,rfl,?_,k9.trans ((ju.trans mn).keep.trans jm)⟩;rw[om,tk];unfold AR;rw[Aq,iJ,iJ,FF (by rw[hm])];rfl
     |false=>
      rw[aHf hm] at o0;have Ld:v0=.ba:=o0;subst Ld;repeat walk_at "gs"
      refine⟨_,_,rfl,?_,k9.trans ju.keep⟩;rw[ju _ _ g9,tk];unfold AR;rw[Aq,Ku (by rw[hm];simp),List.filter_nil,oz]
    ·obtain⟨kh,kg,e,g9,k9⟩:=Rq;subst e;have g9':H9 lw=some (.lst (((dj m pr x).map λw=>w.2.2+wF (Wr m ps) i (h+1) w.2.1).map V.int)):=by rw[<-aOm];exact g9
     have S9:aO H6 H9:=λb o e=>k9 _ _ (zx _ _ e) (bJ sv e);walk_at "w";refine JJ (bR.of g9') (by simpa using Fj b1) λmm LX hle=>?_;have Nq:mm=wF (Wr m ps) (i+1) h x:=by
      show mm=dY (wF (Wr m ps) i (h+1)) (Wr m ps h x);unfold Wr;rw[ES];exact aCk LX hle
     subst Nq;obtain⟨md,p10,d10,og⟩:=κS.put (v:=.ref T) (κS.fS d6 S9) ⟨T,rfl,S9 _ _ MB⟩ (aCj ndx ex) (by rw[xT];lia);walk_at "w";refine⟨wd,md,rfl,p10,?_⟩;walk_at "w";refine⟨λb o e=>og _ _ (S9 _ _ (s6 _ _ e)) (bJ Hy e),?_,_,_,_,_,rfl⟩;rw[cL ex];exact d10
   ·obtain⟨s6,d6,z5,z9,kh,kg,e⟩:=Rt;subst e;rw[lvs,fe] at d6;walk_at "w";intro l7 Lk;obtain⟨H7,i7,s7,g7⟩:=nw _ Lk;rw[i7];walk_at "w";refine xX g7 (s7 _ _ (s6 _ _ gd)) (bZ (by simp;lia)) ?_;intro l8 nl8;obtain⟨H8,i8,s8,g8⟩:=nw _ nl8;rw[i8];have zx:=s7.trans s8;walk_at "w";refine⟨s'.trans (s6.trans zx),l8,wd::ds,_,_,_,_,_,_,rfl,(s'.trans (s6.trans s7)).free nl8,g8,by rw[yW,ld],λj d rs h1 h2=>?_⟩;rw[uw] at h2 ⊢;cases j with
    |zero=>
     cases h1;rw[DR,eL] at h2;cases h2;exact κS.fS d6 zx
    |succ j=>
     have z:=hd j d rs h1 (by rw[oj,show h+1+j=h+(j+1) by lia];exact h2);rw[oj,show h+1+j=h+(j+1) by lia] at z;rw[show i+1 - (j+1)=i - j by lia];exact κS.fS z (s6.trans zx)
  ·obtain⟨s',lt,ds,z5,z7,z8,z9,kh,kg,e,AV,gd,ld,hd⟩:=Rv;subst e;walk_at "w";refine k lt Ls H' (s1.trans s') (s1.free AV) hR lL ⟨ds,gd,by lia,λj d rs h1 h2=>?_⟩;have z:=hd j d rs h1 (by rw[ou,Nat.zero_add];exact h2);rw[ou,Nat.zero_add] at z;exact z
theorem gH{qs:ah}(hh:bG H p)(g:H e=some (.lst (qs.map V.ref))):e≠p:=λz=>by
 obtain⟨d,c,q,ms,hp,_⟩:=hh.ex;rw[z,hp] at g;cases qs with
 |nil=>cases g
 |cons a r=>cases g
theorem qm.keep(h:qm H t rows)(hh:bG H p)(k:bY p H H'):qm H' t rows:=by
 obtain⟨es,gt,re⟩:=h.ex;refine⟨es,k _ _ gt (gH hh gt),re.imp λe row ⟨qs,g,rq⟩=>⟨qs,k _ _ g (gH hh g),rq.imp λq p' ⟨b,z1,z2⟩=>⟨b,k _ _ z1 λy=>hh.qM _ (by rw[<-y];exact z1),k _ _ z2 λy=>hh.qM _ (by rw[<-y];exact z2)⟩⟩⟩
theorem bG.Bb{qs:ah}(h:bG H p)(g:H l=some (.lst (qs.map V.ref)))(k:bY l H H'):bG H' p:=by
 obtain⟨d,c,q,ms,hp,hq,bj,oh⟩:=h.ex;refine⟨⟨d,c,q,ms,k _ _ hp (Ne.symm (gH h g)),k _ _ hq (λz=>?_),bj,oh⟩⟩;rw[z,g] at hq;cases qs with
 |nil=>cases ms with
  |nil=>exact bj rfl
  |cons _ _=>cases hq
 |cons _ _=>cases ms with
  |nil=>cases hq
  |cons _ _=>cases hq
theorem qo.Bb(h:qo H q p)(g:H l=some (.lst xs))(k:bY l H H'):qo H' q p:=by
 obtain⟨b,z1,z2⟩:=h;exact⟨b,k _ _ z1 (λy=>by rw[y,g] at z1;cases z1),k _ _ z2 (λy=>by rw[y,g] at z2;cases z2)⟩
theorem iK.Bb(h:iK H e row)(ne:e≠l)(g:H l=some (.lst xs))(k:bY l H H'):iK H' e row:=by
 obtain⟨qs,a,r⟩:=h;exact⟨qs,k _ _ a ne,r.imp λ_ _ z=>z.Bb g k⟩
structure Ba(m:MS)(st:ae)(n:Nat)(rows:List (List WP)):Prop where
 len:rows.length=n+1
 at_:∀(i:Nat) row,rows[i]?=some row->(row.map (·.1)).Nodup/\∀s,s∈row.map (·.1)↔Rc m st i s
theorem Rc.some{m:MS}(g:m.Good){a:ae}(h:fu m a):∀n:Nat,∃s,Rc m a n s
 |0=>⟨a,rfl⟩
 |n+1=>by
  obtain⟨s,hs⟩:=Rc.some g h n;exact⟨_,s,hs,s.1,(Rc.st g h hs).1.1,.inl rfl,rfl⟩
theorem Ba.yT{m:MS}{st:ae}{n:Nat}{rows:List (List WP)}(T:Ba m st n rows)(g:m.Good)(h:fu m st){i:Nat}{row:List WP}(e:rows[i]?=some row):row.length<=25/\row≠[]/\∀p∈row,qz p.1.1 p.1.2:=by
 obtain⟨a,b⟩:=T.at_ i row e;refine⟨?_,λz=>?_,λp hp=>(Rc.st g h ((b p.1).mp (mD.mpr ⟨p,hp,rfl⟩))).1⟩
 ·have:=Rc.yT g h a λk hk=>(b k).mp hk;rw[bK] at this;exact this
 ·obtain⟨s,hs⟩:=Rc.some g h i;have:=(b s).mpr hs;rw[z] at this;cases this
theorem Ba.row{m:MS}{st:ae}{n:Nat}(T:Ba m st n rows)(g:m.Good)(h:fu m st){row:List WP}(e:row∈rows):row.length<=1000/\∀p∈row,qz p.1.1 p.1.2:=by
 obtain⟨i,ei⟩:=pf e;have:=T.yT g h ei;exact⟨by lia,this.2.2⟩
theorem aFa(ps:ar)(f:ae->Int):(o9 ps f).map (·.1)=ps:=by
 unfold o9;rw[zW];exact List.map_id ps
theorem JR{st:ae}{ps:aa}{Ls:List (ar)}(hR:rG m st Ls)(hl:Ls.length=ps.length+1):Ba m st ps.length (yO m ps Ls):=by
 refine⟨by rw[uK,hl],λi row e=>?_⟩;obtain⟨qs,eq,rfl⟩:=aME e;obtain⟨a,b⟩:=hR.at_ i qs eq;rw[aFa];exact⟨Ci a,b⟩
theorem aKf{m:MS}(g:m.Good){st:ae}(h:fu m st){ps:aa}{Ls:List (ar)}(hR:rG m st Ls)(hl:Ls.length=ps.length+1):qq (Wr m ps) st ps.length (yO m ps Ls) (C7 m ps st)=true/\gU ((yO m ps Ls).getD 0 []) st=some (C7 m ps st):=by
 have at_:∀i,i<=ps.length->∃qs,Ls[i]?=some qs:=λi hi=>⟨Ls[i]'(by lia),cG (by lia)⟩
 have gD:∀i qs,Ls[i]?=some qs->(yO m ps Ls).getD i []=o9 qs (wF (Wr m ps) (ps.length - i) i):=λi qs e=>by
  rw[yP,Fh e,hl,Bn];rfl
 have T:=JR hR hl;have w0:gU ((yO m ps Ls).getD 0 []) st=some (C7 m ps st):=by
  obtain⟨qs,e⟩:=at_ 0 (dz _);rw[gD 0 qs e,PF (((hR.at_ 0 qs e).2 st).mpr rfl)];rfl
 refine⟨?_,w0⟩;unfold qq;rw[iz,iz,iz,iz];refine⟨zV T.len,nj.mpr λrow bw=>?_,zV w0,?_,nj.mpr λi hi=>?_⟩
 ·obtain⟨i,ei⟩:=pf bw;exact aKd (T.at_ i row ei).1
 ·obtain⟨qs,e⟩:=at_ ps.length (d7 _);rw[gD _ qs e,ou,Bool.not_eq_true',List.any_eq_false];intro p hp;obtain⟨y,_,rfl⟩:=mD.mp hp;show ¬decide ((0:Int) > 0)=true;decide
 ·have li:i < ps.length:=zU.mp hi;obtain⟨qs,e⟩:=at_ i (by lia);obtain⟨rs,e2⟩:=at_ (i+1) (by lia);rw[gD i qs e,gD (i+1) rs e2];refine nj.mpr λp hp=>?_;obtain⟨y,hy,rfl⟩:=mD.mp hp;refine nj.mpr λw hw=>?_;have dt:w.2.1∈rs:=by
   obtain⟨on,b,may,rfl⟩:=yN.mp hw;exact((hR.at_ (i+1) rs e2).2 _).mpr ⟨y,((hR.at_ i qs e).2 y).mp hy,on,b,may,rfl⟩
  rw[PF dt];refine zV ?_;obtain⟨k,hk⟩ : ∃k,ps.length - i=k+1:=⟨ps.length - i - 1,by lia⟩
  rw[hk,show ps.length - (i+1)=k by lia];exact PY (wF (Wr m ps) k (i+1)) hw
theorem RL.aR6{α:Type}{P:Addr->α->Prop}{as:ah}{xs:List α}(h:RL P as xs){j:Nat}{x:α}(hp:P a x):RL P (as.set j a) (xs.set j x):=by
 refine⟨by rw[Bi,Bi];exact h.len,λi b y h1 h2=>?_⟩;by_cases e:i=j
 ·subst e;have hi:i < as.length:=by
   have:=(g0.mp h1).1
   rwa[Bi] at this
  rw[Au hi] at h1;rw[Au (by rw[<-h.len];exact hi)] at h2;cases h1;cases h2;exact hp
 ·rw[Bp (λz=>e z.symm)] at h1 h2;exact h.at_ i b y h1 h2
theorem aKg{fs:ah}{rows:List (List WP)}{j:Nat}(r:RL (iK H) fs rows)(nd:fs.Nodup)(ef:fs[j]?=some f)(gf:H f=some (.lst xs))(k:bY f H H')(w:iK H' f CB):RL (iK H') fs (rows.set j CB):=by
 refine⟨by rw[Bi];exact r.len,λi a x h1 h2=>?_⟩;by_cases e:i=j
 ·subst e;rw[ef] at h1;cases h1;have hi:i < rows.length:=by rw[<-r.len];exact(g0.mp ef).1
  rw[Au hi] at h2;cases h2;exact w
 ·rw[Bp (λz=>e z.symm)] at h2;have na:a≠f:=λz=>e (by
   subst z;obtain⟨i1,e1⟩:=g0.mp h1;obtain⟨i2,e2⟩:=g0.mp ef;exact(DU nd).mp (e1.trans e2.symm))
  exact(r.at_ i a x h1 h2).Bb na gf k
theorem uM(r:RL (iK H) fs rows)(hh:bG H p)(k:bY p H H'):RL (iK H') fs rows:=
 r.imp λe row ⟨qs,g,rq⟩=>⟨qs,k _ _ g (gH hh g),rq.imp λq p' ⟨b,z1,z2⟩=>⟨b,k _ _ z1 λy=>hh.qM _ (by rw[<-y];exact z1),k _ _ z2 λy=>hh.qM _ (by rw[<-y];exact z2)⟩⟩
theorem Ba.put{st:ae}{n:Nat}{rows:List (List WP)}(T:Ba m st n rows){j k:Nat}{row:List WP}{w:WP}{v:Int}(er:rows[j]?=some row)(ew:row[k]?=some w):Ba m st n (rows.set j (row.set k (w.1,v))):=by
 refine⟨by rw[Bi];exact T.len,λi CB e=>?_⟩;by_cases z:i=j
 ·subst z;rw[Au (g0.mp er).1] at e;cases e;have:(row.set k (w.1,v)).map (·.1)=row.map (·.1):=by
   rw[List.map_set];refine Co λi=>?_;by_cases y:k=i
   ·subst y;rw[Au (by rw[bK];exact(g0.mp ew).1),hE,ew];rfl
   ·rw[Bp y]
  rw[this];exact T.at_ i row er
 ·rw[Bp (λy=>z y.symm)] at e;exact T.at_ i CB e
def NK(H:Hp)(b:Addr)(w:ae):Prop:=H b=some (.tup [.int w.1,.int w.2])
def BD(m:MS)(p:Int)(f:ae->Int)(s:ae)(jj:aa):ar:=(jj.filter (xK s)).map λon=>(hw m p s on+f (pB m s.1 s.2 on),on)
theorem aOn(m:MS)(p:Int)(f:ae->Int)(s:ae):BD m p f s [0,1]=(dj m p s).map λw=>(w.2.2+f w.2.1,w.1):=by
 unfold BD dj;rw[zW];rfl
theorem aHg(m:MS)(p:Int)(f:ae->Int)(s:ae)(jj:aa)(on:Int):BD m p f s (jj ++ [on])=BD m p f s jj++if xK s on=true then [(hw m p s on+f (pB m s.1 s.2 on),on)] else []:=by
 unfold BD;rw[Aq,iJ];congr 1;cases h:xK s on
 ·rw[Ku (by rw[h];simp)];rfl
 ·rw[FF (by rw[h])];rfl
inductive zP  (K:W.Frag) (vs:List V) (H:Hp) (Q:VK) (E:XK):Prop
 |mk:∀(s:Addr) (m:MS) (t:Addr) (a:ae) (q:Addr) (ps:aa) (lt:Addr) (Ls:List (ar)),(vs=[.ref s,.ref t,.ref q,.ref lt])->d9 H s m->m.Good->(H t=some (.tup [.int a.1,.int a.2]))->fu m a->(H q=some (.lst (ps.map V.int)))->((∀n∈ps,Am n))->(ps.length<=48)->rG m a Ls->(Ls.length=ps.length+1)->(qt κS H lt Ls (λi=>wF (Wr m ps) (ps.length - i) i))->(∀r H',aO H H'->H r=none->H' r=some (.lst ((D9 m ps a).map V.int))->Q (.ref r) H')->zP K vs H Q E
theorem aEv(tx:Txt K mg a):cE P w K mg base hU 3 a.nR a.nS aea (zP K):=by
 have fJ:=rH (P:=P) (w:=w) (base:=base) tx;have xP:=aBo (P:=P) (w:=w) (base:=base) tx;refine tx.tZ.ok dG (by walk_at "l") λbh A outer s H vs Q E hr h=>?_;obtain⟨s,m,t,st,q,ps,lt,Ls,rfl ,hs,hg,ht,bq,hq,ha,hl,hR,lL,hD,k⟩:=h;have hu:=lT hr;refine bE (aE (aI (i:=4) dG.nd (eW aC))
  (aE (bU PassesOwn.never rfl (cN (by rfl) tx.eQ (aA (aH (rc:=jR K) bS (by rfl) tx.eO dH (aA (aB 2) aC)) aC)) (aM (i:=5) dG.nd) (aE (aI (i:=6) dG.nd (eW aC))
  (aE (bU PassesOwn.never rfl (sL (K':=K) (dF aD aD)) (aM (i:=7) dG.nd) (aE (aI (i:=8) dG.nd (ay fJ hr tx.gG tx.fH.kp tx.gF (aA (aB 0) (aA (aB 1) (aA (aB 7) aC)))))
  (aG (bD (aY rK (aB 8) iF (bN _)) (aG (cW (dU (K':=K) (aB 6) (aA (dF (aK bX (ay xP hr tx.w4 tx.qJ.kp tx.wZ (aA (aB 0) (aA (aB 1) (aA (aJ (K':=K) (aB 2) (aB 5)) (aA (aB 7) aC))))) (eM hu (aJ (K':=K) (aB 3) (aK bX (aB 5) aD)) (aB 8))) (aB 7)) aC)))) aU))))
  (aE (yA (i:=9) dG.nd rfl (Or.inr rfl) (aH (rc:=DB K) (yD rfl) (by rfl) tx.zC zX (aA (bW (k:=2) (idx:=[]) (N:=bca) (cU (sc:=aL iU) (NX:=pS) rfl rfl rfl (by decide +kernel)) rfl (bF (K':=K) (aB 6)) (λ_ _ _ _=>(dS (K':=K) (n:=2) rfl (bB (aM (i:=0) (show(bca:ak).Nodup by decide +kernel)) (bB (aM (i:=1) (show(bca:ak).Nodup by decide +kernel)) dC)))) (sC (cR (by decide) (cR (by decide) oC))) (λ_ _ _ _=>bQ) (λ_ _ _ _=>(aB 0))) aC)))
  (aE (aI (i:=7) dG.nd (aH (rc:=DB K) (yD rfl) (by rfl) tx.zC zX (aA (bW (k:=2) (idx:=[9]) (N:=a2a) (cU (sc:=aL iU) (NX:=pS) rfl rfl rfl (by decide +kernel)) rfl (bF (K':=K) (aB 6)) (λ_ _ _ _=>(dS (K':=K) (n:=2) rfl (bB (aM (i:=0) (show(a2a:ak).Nodup by decide +kernel)) (bB (aM (i:=1) (show(a2a:ak).Nodup by decide +kernel)) dC)))) (sC (cR (by decide) (cR (by decide) oC))) (λ_ _ _ _=>(sI (aY (r:=iN K) (dR hu) (aB 0) (aB 2) (bN _)))) (λ_ _ _ _=>(aB 1))) aC)))
  (aE (cW (dU (K':=K) (aB 4) (aA (aB 7) aC)))
  (aG (aI (i:=1) dG.nd (ay fJ hr tx.gG tx.fH.kp tx.gF (aA (aB 0) (aA (aB 1) (aA (aB 7) aC))))))))))))
  (aG (aN (aB 4))))) ?_
 obtain⟨ds,tm,uo,mx⟩:=hD.ex;refine aW (σ:=[some (.ref s),some (.ref t),some (.ref q),some (.ref lt),none,none,none,none,none,none]) rfl ?_;walk_at "w";intro lr BP;obtain⟨H1,i1,s1,g1⟩:=nw _ BP;rw[i1];have hq1:=s1 _ _ hq;walk_at "w";refine⟨by rw[bK];lia,by rw[bK];lia,?_⟩;rw[bK,pe];refine iO (n:=ps.length) (λi σ' H'=>aO H H'/\∃(t':Addr) (x:ae) (row:aa) (z5 z6 z7 z8 z9:Option V),σ'=[some (.ref s),some (.ref t'),some (.ref q),some (.ref lt),some (.ref lr),z5,z6,z7,z8,z9]/\H' t'=some (.tup [.int x.1,.int x.2])/\Rc m st i x/\H' lr=some (.lst (row.map V.int))/\row.length=i/\row++oq (Wr m ps) (ps.length - i) i x=D9 m ps st)
  ⟨s1,t,st,[],_,_,_,_,_,rfl,s1 _ _ ht,rfl,g1,rfl,rfl⟩ (λi σ' H' hi Rp=>?_) (λσ' H' Ro=>?_)
 ·obtain⟨s',t',x,row,z5,z6,z7,z8,z9,e,uq,hx,gr,Eh,bw⟩:=Rp;subst e;obtain⟨⟨b1,b2,b3⟩,_⟩:=Rc.st hg bq hx;obtain⟨n,hn⟩ : ∃n,ps.length - i=n+1:=⟨ps.length - i - 1,by lia⟩
  have ur:ps.length - (i+1)=n:=by lia
  have B6:ps[i]?=some ps[i]:=cG hi;obtain⟨Ea,K9⟩:=ha _ (lu hi);have ES:ps.getD i 0=ps[i]:=by rw[yP,B6];rfl
  generalize ps[i]=pr at B6 Ea K9 ES;have oo:Ls[i+1]?=some Ls[i+1]:=cG (by lia);have EE:=hR.at_ (i+1) _ oo;have ed:ds[i+1]?=some ds[i+1]:=cG (by lia);have d0:=mx (i+1) _ _ ed oo;generalize Ls[i+1]=qx at oo EE d0;generalize ds[i+1]=dx at ed d0;rw[ur] at d0;have ixd:pC (ds.map V.ref) (0+(i:Int)+1)=some (.ref dx):=by
   rw[show(0+(i:Int))+1=((i+1:Nat):Int) by push_cast;lia];exact cO (fQ ed)
  have ixp:pC (ps.map V.int) (0+(i:Int))=some (.int pr):=by rw[show(0+(i:Int))=(i:Int) by lia];exact cO (by rw[hE,B6];rfl)
  have hW:Wr m ps i x=dj m pr x:=by unfold Wr;rw[ES]
  walk_at "w";intro lw sv;obtain⟨H7,i7,s7,g7⟩:=nw _ sv;rw[i7];walk_at "w";intro To Lq;obtain⟨H8,i8,s8,g8⟩:=nw _ Lq;rw[i8];have EL:=s8 _ _ g7;have Qz:To≠lw:=λz=>by rw[z,EL] at g8;cases g8
  have zx:=s7.trans s8;walk_at "w";refine Jl (mE.of g8) ?_;refine O4 (xs:=([0,1]:aa).map V.int) (λj σ' H9=>∃(bs:ah) (z7 z8 z9:Option V),σ'=[some (.ref s),some (.ref t'),some (.ref q),some (.ref lt),some (.ref lr),some (.int (0+(i:Int))),some (.ref lw),z7,z8,z9]/\H9 lw=some (.lst (bs.map V.ref))/\RL (NK H9) bs (BD m pr (wF (Wr m ps) n (i+1)) x (([0,1]:aa).take j))/\bY lw H8 H9)
   ⟨[],_,_,_,rfl,EL,RL.nil,λ_ _ e _=>e⟩ (λj σ' H9 hj ⟨_,_,_,_,_,_,_,k9⟩=>mE.of (k9 _ _ g8 Qz)) (λj v σ' H9 hv Rn=>?_) (λσ' H9 Rm=>?_)
  ·obtain⟨bs,z7,z8,z9,e,g9,r9,k9⟩:=Rn;subst e;obtain⟨on,lg,rfl⟩:=yM hv;have ka:jg on:=by
    have:=iI lg;simp at this;exact this
   have S9:aO H' H9:=λb o e=>k9 _ _ (zx _ _ e) (bJ sv e);have FJ:=s'.trans S9;have tk:([0,1]:aa).take (j+1)=([0,1]:aa).take j ++ [on]:=by rw[xb,lg];rfl
   have wl:bs.length<=2:=by
    rw[r9.len];unfold BD;rw[bK];refine gj (FE ..) ?_;rw[xT];exact gj (Nat.min_le_right ..) (by decide)
   have hq9:=FJ _ _ hq;have Mx:=FJ _ _ tm;walk_at "w";refine⟨s,m,t',_,_,on,rfl,hs.same FJ,S9 _ _ uq,ka,b1,b2,λv0 md ju o0=>?_⟩;cases hm:xK x on with
   |true=>
    rw[PD hm] at o0;obtain⟨T0,rfl,EJ⟩:=o0;have dt:pB m x.1 x.2 on∈qx:=(EE.2 _).mpr ⟨x,hx,on,ka,jO.mp hm,rfl⟩;have xw:=ju _ _ g9;have CT:=ju _ _ Mx;repeat walk_at "gs"
    refine hV (bR.of xw) ?_;walk_at "w";refine⟨s,m,t',x,pr,on,rfl,hs.same (FJ.trans ju),hg,(S9.trans ju) _ _ uq,b1,Ea,by lia,ka,λue mn=>?_⟩;have Xn:=mn _ _ CT;walk_at "w";refine⟨dx,_,rfl,κS.get (v:=.ref T0) (κS.fS d0 (FJ.trans (ju.trans mn))) ⟨T0,rfl,mn _ _ EJ⟩ dt,?_⟩;walk_at "w";intro T1 Lr;obtain⟨jd,i12,BJ,om⟩:=nw _ Lr;rw[i12];have EK:=(mn.trans BJ) _ _ xw;walk_at "w";refine lU (xs:=bs.map V.ref) EK (rT (by rw[bK];lia:(bs.map V.ref).length < 20000) (bZ (by decide))) ?_;obtain⟨KC,Em,Ej,MF⟩:=wr jd lw _;rw[Em];have T1l:T1≠lw:=λz=>by rw[z,EK] at om;cases om
    walk_at "w";refine⟨bs ++ [T1],_,_,_,rfl,by rw[MF,iJ];rfl,?_,k9.trans ((ju.trans (mn.trans BJ)).keep.trans Ej)⟩;rw[tk,aHg,hm,cJ rfl];exact RL.snoc (r9.imp λb w z=>Ej _ _ ((ju.trans (mn.trans BJ)) _ _ z) (λy=>by have z':H9 b=some (.tup [.int w.1,.int w.2]):=z;rw[y,g9] at z';cases z')) (Ej _ _ om T1l)
   |false=>
    rw[aHf hm] at o0;have Ld:v0=.ba:=o0;subst Ld;repeat walk_at "gs"
    refine⟨bs,_,_,_,rfl,ju _ _ g9,?_,k9.trans ju.keep⟩;rw[tk,aHg,hm,bV (by decide),oz];exact r9.imp λb w z=>ju _ _ z
  ·obtain⟨bs,z7,z8,z9,e,g9,r9,k9⟩:=Rm;subst e;have Ht:RL (NK H9) bs ((dj m pr x).map λw=>(w.2.2+wF (Wr m ps) n (i+1) w.2.1,w.1)):=by rw[<-aOn];exact r9
   have lb:bs.length<=2:=by rw[Ht.len,bK];exact JE ..
   have S9:aO H' H9:=λb o e=>k9 _ _ (zx _ _ e) (bJ sv e);have Lz:=Ht.len;rw[bK] at Lz;walk_at "w";refine fA (bR.of g9) ?_;refine cM (xs:=bs.map V.ref) (λj us md=>md=H9/\us=(((dj m pr x).take j).map λw=>w.2.2+wF (Wr m ps) n (i+1) w.2.1).map V.int) ⟨rfl,rfl⟩ (bZ (by rw[bK];lia))
    (λj us md hj ⟨e0,e1⟩=>⟨by rw[e0];exact bR.of g9,by rw[e1,bK,bK,xT];lia⟩) (λj v us md hv Rl=>?_) (λus md Rk=>?_)
   ·obtain⟨e0,e1⟩:=Rl;subst e0;obtain⟨b,w,eb,rfl,ew,gb⟩:=Ht.get hv;rw[hE] at ew;obtain⟨w',Iz,rfl⟩:=yQ.mp ew;refine gW (mE.of gb) rfl ?_;walk_at "w";refine⟨rfl,?_⟩;rw[e1,cL Iz,iJ,iJ];rfl
   obtain⟨e0,e1⟩:=Rk;subst e0 e1;rw[bK,Lz,fe];intro l1 nl1;obtain⟨ue,i11,mn,g11⟩:=nw _ nl1;rw[i11];have ne:=Fj (m:=m) (p:=pr) b1;walk_at "w";refine JJ (bR.of g11) (by simpa using ne) λmm LX hle=>?_;have Nq:mm=dY (wF (Wr m ps) n (i+1)) (dj m pr x):=aCk LX hle;subst Nq;have EK:=mn _ _ g9;have r11:=Ht.imp λb w (z:NK md b w)=>mn _ _ z;walk_at "w";refine fA (bR.of EK) ?_;refine cM (xs:=bs.map V.ref) (λj us jd=>jd=ue/\us=((((dj m pr x).take j).filter λw=>decide (w.2.2+wF (Wr m ps) n (i+1) w.2.1=dY (wF (Wr m ps) n (i+1)) (dj m pr x))).map λw=>w.1).map V.int) ⟨rfl,rfl⟩ (bZ (by rw[bK];lia))
    (λj us jd hj ⟨e0,e1⟩=>⟨by rw[e0];exact bR.of EK,by rw[e1,bK,bK];exact gj (FE ..) (List.length_take_le ..)⟩) (λj v us jd hv Rj=>?_) (λus jd Ri=>?_)
   ·obtain⟨e0,e1⟩:=Rj;subst e0;obtain⟨b,w,eb,rfl,ew,gb⟩:=r11.get hv;rw[hE] at ew;obtain⟨w',Iz,rfl⟩:=yQ.mp ew;refine gW (mE.of gb) rfl ?_;walk_at "w";refine dA (λh=>?_) (λh=>?_)
    ·walk_at "w";refine⟨rfl,?_⟩;rw[e1,cL Iz,Aq,FF (by simpa using h),iJ,iJ];rfl
    ·walk_at "w";refine⟨rfl,?_⟩;rw[e1,cL Iz,Aq,Ku (by simpa using h),List.filter_nil,oz]
   obtain⟨e0,e1⟩:=Ri;subst e0 e1;rw[bK,Lz,fe];intro l2 Ll;obtain⟨KC,Em,KY,MF⟩:=nw _ Ll;rw[Em];obtain⟨w,f1,f2,f3⟩:=aCe (wF (Wr m ps) n (i+1)) ne;walk_at "w";refine JJ (bR.of MF) (λz=>?_) λon Es hle=>?_
   ·have:w∈(dj m pr x).filter λw=>decide (w.2.2+wF (Wr m ps) n (i+1) w.2.1=dY (wF (Wr m ps) n (i+1)) (dj m pr x)):=xa.mpr ⟨f2,zV f3⟩;rw[List.map_eq_nil_iff,List.filter_eq_nil_iff] at z;exact z w f2 (zV f3)
   have lg:on=w.1:=by
    obtain⟨v,hv,rfl⟩:=mD.mp Es;obtain⟨v1,v2⟩:=xa.mp hv;have a1:=aIn (aG9 m pr x) f1 v1 v2;have a2:=hle w.1 (mD.mpr ⟨w,xa.mpr ⟨f2,zV f3⟩,rfl⟩);lia
   subst lg;obtain⟨on,ka,may,rfl⟩:=yN.mp f2;have QJ:=S9.trans (mn.trans KY);have Gw:=QJ _ _ gr;walk_at "w";refine hV (bR.of Gw) ?_;walk_at "w";refine lU (xs:=row.map V.int) Gw (rT (by rw[bK];lia:(row.map V.int).length < 20000) (bZ (by decide))) ?_;obtain⟨QQ,i14,k14,ME⟩:=wr KC lr _;rw[i14];have S14:aO H QQ:=λb o e=>k14 _ _ ((s'.trans QJ) _ _ e) (bJ BP e);have WW:QQ t'=some (.tup [.int x.1,.int x.2]):=k14 _ _ (QJ _ _ uq) (λz=>by rw[z,gr] at uq;cases uq);walk_at "w";refine⟨s,m,t',_,_,on,rfl,hs.same S14,WW,ka,b1,b2,λv0 FR s15 o0=>?_⟩;rw[PD (jO.mpr may)] at o0;obtain⟨T0,rfl,EJ⟩:=o0;walk_at "w";refine⟨S14.trans s15,T0,_,row ++ [on],_,_,_,_,_,rfl,EJ,⟨x,hx,on,ka,may,rfl⟩,?_,by rw[uN,Eh];rfl,?_⟩
   ·rw[s15 _ _ ME,iJ];rfl
   ·rw[<-bw,hn,ur,Bm];congr 1;conv=>rhs;unfold oq
    rw[hW,f1];rfl
 ·obtain⟨s',t',x,row,z5,z6,z7,z8,z9,e,uq,hx,gr,Eh,bw⟩:=Ro;subst e;walk_at "w";rw[ou] at bw;have e2:row=D9 m ps st:=by rw[<-bw];show row=row ++ [];rw[oz]
  rw[e2] at gr;exact k lr H' s' BP gr
theorem Pp{r:Int}{n:Nat}(h0:0<=r)(hn:0 < n):∃j:Nat,j < n/\r % (n:Int)=(j:Int):=by
 have e1:=DT r (b:=(n:Int)) (by lia);have e2:=DV r (b:=(n:Int)) (by lia);exact⟨(r % (n:Int)).toNat,by lia,by lia⟩
inductive xQ  (K:W.Frag) (vs:List V) (H:Hp) (Q:VK) (E:XK):Prop
 |mk:∀(p s b:Addr) (m:MS) (x y:Int) (n:Nat),(vs=[.ref p,.ref s,.ref b,.int (n:Int)])->bG H p->d9 H s m->m.Good->(H b=some (.lst [.int x,.int y]))->(1<=y)->(y<=50000000000)->(n<=48)->(∀(q:Addr) (ps:aa) (H':Hp),H' q=some (.lst (ps.map V.int))->ps.length=n->(∀r∈ps,Am r)->H q=none->bG H' p->bY p H H'->Q (.ref q) H')->xQ K vs H Q E
theorem aDU(tx:Txt K mg a):cE P w K mg base hU 3 a.kL a.kM ana (xQ K):=by
 have aT:=eR (P:=P) (w:=w) (base:=base) tx;have aBq:=aEu (P:=P) (w:=w) (base:=base) tx;refine tx.rB.ok dM (by walk_at "l") λbh A outer s H vs Q E hr h=>?_;obtain⟨p,s,b,m,x,y,n,rfl ,hh,hs,hg,hb,y0,y1,hn,k⟩:=h;have hu:=lT hr;refine bE (aE (aI (i:=4) dM.nd (eW aC))
  (aE (aI (i:=5) dM.nd (ay aBq hr tx.tY tx.nY.kp tx.tX (aA (aB 0) (aA (aB 2) (aA (aK vC aD aD) aC)))))
  (aE (bU PassesOwn.never rfl (cN (by rfl) tx.eQ (aA (aB 3) aC)) (aM (i:=6) dM.nd) (aE (aI (i:=7) dM.nd (ay aBq hr tx.tY tx.nY.kp tx.tX (aA (aB 0) (aA (aB 2) (aA (aK vC aD aD) aC)))))
  (aE (bD (aY (r:=iN K) (dR hu) (ay aT hr tx.bA tx.aX.kp tx.aZ (aA (aB 0) (aA aD aC))) aD (bN _)) (aG (aI (i:=7) dM.nd (aB 5))) aU)
  (aE (bD (gO (rM (aY (r:=NG K) (aQn hu) (aJ (K':=K) (aB 1) aD) (eW aC) (bN _)) (oF (aY (r:=iN K) (dR hu) (ay aT hr tx.bA tx.aX.kp tx.aZ (aA (aB 0) (aA aD aC))) aD (bN _))))) (aG (aI (i:=7) dM.nd (aH (P5 rfl) (by rfl) tx.zC zX (aA (aK vC aD aD) (aA (aK bX (aJ (K':=K) (aJ (K':=K) (aJ (K':=K) (aB 1) aD) (aK jT (ay aT hr tx.bA tx.aX.kp tx.aZ (aA (aB 0) (aA aD aC))) (aH (rc:=jR K) bS (by rfl) tx.eO dH (aA (aJ (K':=K) (aB 1) aD) aC)))) aD) (ay aT hr tx.bA tx.aX.kp tx.aZ (aA (aB 0) (aA aD aC)))) aC))))) aU)
  (aE (bD (aY (r:=iN K) (dR hu) (ay aT hr tx.bA tx.aX.kp tx.aZ (aA (aB 0) (aA aD aC))) aD (bN _)) (aG (aI (i:=7) dM.nd (aK vC aD aD))) aU)
  (aG (cW (dU (K':=K) (aB 4) (aA (aB 7) aC)))))))))
  (aG (aN (aB 4)))))) ?_
 have bp:b≠p:=hh.E1 hb (by simp);have IB:(10:Int) ^ (12:Int).toNat=1000000000000:=by decide
 refine aW (σ:=[some (.ref p),some (.ref s),some (.ref b),some (.int (n:Int)),none,none,none,none]) rfl ?_;walk_at "w";intro q nq;obtain⟨H1,i1,s1,g1⟩:=nw _ nq;rw[i1];have qp:q≠p:=hh.IL nq;walk_at "w";rw[IB];refine⟨p,b,x,y,_,rfl,hh.same s1,s1 _ _ hb,y0,y1,⟨by decide,by decide⟩,λbs H2 abs h2 k2 q2=>?_⟩;have g2:=k2 _ _ g1 qp;have K2:bY p H H2:=s1.keep.trans k2;have Q2:fR p H H2:=(fR.of (s1 p)).trans q2;walk_at "w";refine⟨by lia,by lia,?_⟩;rw[pe];refine iO (n:=n) (λi σ' H'=>∃(ps:aa) (z6 z7:Option V),σ'=[some (.ref p),some (.ref s),some (.ref b),some (.int (n:Int)),some (.ref q),some (.int bs),z6,z7]/\H' q=some (.lst (ps.map V.int))/\ps.length=i/\(∀r∈ps,Am r)/\bY p H H'/\fR p H H')
  ⟨[],_,_,rfl,g2,rfl,(λr h=>by cases h),K2,Q2⟩ (λi σ' H3 hi Rh=>?_) (λσ' H3 Rg=>?_)
 ·obtain⟨ps,z6,z7,e,g3,HF,Ag,K3,Q3⟩:=Rh;subst e;have h3:=hh.of K3 Q3;walk_at "w";rw[IB];refine⟨p,b,x,y,_,rfl,h3,K3 _ _ hb bp,y0,y1,⟨by decide,by decide⟩,λpr H4 apr h4 k4 q4=>?_⟩;have g4:=k4 _ _ g3 qp;repeat walk_at "st"
  refine sE (λσ' H'=>∃pr:Int,Am pr/\σ'=[some (.ref p),some (.ref s),some (.ref b),some (.int (n:Int)),some (.ref q),some (.int bs),some (.int (0+(i:Int))),some (.int pr)]/\bY p H4 H'/\fR p H4 H') (λN hN=>?_) (λσ' H6 ⟨pr2,Gz,e,k5,q5⟩=>?_)
  ·walk_at "w";refine⟨p,_,rfl,h4,by decide,by decide,λr5 H5 a5 b5 h5 k5 q5=>?_⟩;walk_at "w";refine dA (λc=>?_) (λc=>?_)
   ·walk_at "w";exact hN _ _ ⟨bs,abs,rfl,k5,q5⟩
   ·walk_at "w";exact hN _ _ ⟨pr,apr,rfl,k5,q5⟩
  subst e;have K5:bY p H H6:=K3.trans (k4.trans k5);have Q5:fR p H H6:=Q3.trans (q4.trans q5);have g5:=k5 _ _ g4 qp;have h5:=hh.of K5 Q5;have Dg:=hs.keep hh K5;obtain⟨pl,es,LQ⟩:=Dg.ex;obtain⟨qs,Ih,tpl⟩:=LQ.ex;refine sE (λσ' H'=>∃pr:Int,Am pr/\σ'=[some (.ref p),some (.ref s),some (.ref b),some (.int (n:Int)),some (.ref q),some (.int bs),some (.int (0+(i:Int))),some (.int pr)]/\bY p H6 H'/\fR p H6 H') (λN hN=>?_) (λσ' H7 ⟨pr3,Zs,e,k7,q7⟩=>?_)
  ·walk_at "w";intro l0 Ed;obtain⟨H7,i7,s7,g7⟩:=nw _ Ed;rw[i7];refine aQo (s7 _ _ Ih) g7 ?_;walk_at "w";have h7:=h5.same s7;cases qs with
   |nil=>
    repeat walk_at "gs"
    exact hN _ _ ⟨pr2,Gz,rfl,s7.keep,fR.of (s7 p)⟩
   |cons q0 qr=>
    have yu:=tpl.len;have V6:0 < m.pieces.length:=by rw[<-yu];simp
    have HE:((q0::qr).map V.ref).length=m.pieces.length:=by rw[bK];exact yu
    have Ig:pl≠p:=λz=>by
     obtain⟨d',c',q',mr,Ad,_⟩:=h5.ex;rw[z,Ad] at Ih;cases Ih
    repeat walk_at "gs"
    refine⟨p,_,rfl,h7,by decide,by decide,λr8 H8 a8 b8 h8 k8 q8=>?_⟩;have es8:=k8 _ _ (s7 _ _ es) (h7.E1 (s7 _ _ es) (by simp));have Xj:=k8 _ _ (s7 _ _ Ih) Ig;have K68:bY p H6 H8:=s7.keep.trans k8;have Q68:fR p H6 H8:=(fR.of (s7 p)).trans q8;walk_at "w";refine dA (λc=>?_) (λc=>?_)
    ·walk_at "w";rw[IB];refine⟨p,_,rfl,h8,by decide,by decide,λr9 H9 a9 b9 h9 k9 q9=>?_⟩;have es9:=k9 _ _ es8 (h8.E1 es8 (by simp));have a0s:=k9 _ _ Xj Ig;obtain⟨jk,wb,Nt⟩:=Pp (n:=m.pieces.length) a9 V6;have B5:(q0::qr)[jk]?=some ((q0::qr)[jk]'(by rw[yu];exact wb)):=cG (by rw[yu];exact wb);have B4:m.pieces[jk]?=some m.pieces[jk]:=cG wb;have yz:=tpl.at_ jk _ _ B5 B4;have pk:=hg.pieces.pc m.pieces[jk] (lu wb);generalize (q0::qr)[jk]'(by rw[yu];exact wb)=qk at B5 yz;generalize m.pieces[jk]=ow at B4 yz pk;have ixk:pC ((q0::qr).map V.ref) (jk:Int)=some (.ref qk):=cO (fQ B5);have gk9:H9 qk=some (.tup [.int ow.1,.int ow.2]):=k9 _ _ (k8 _ _ (s7 _ _ yz) λz=>h7.qM _ (by rw[<-z];exact s7 _ _ yz)) λz=>h8.qM _ (by rw[<-z];exact k8 _ _ (s7 _ _ yz) λz=>h7.qM _ (by rw[<-z];exact s7 _ _ yz));have HS:0 < (m.pieces.length:Int):=by lia
     walk_at "w";rw[HE,Nt];walk_at "w";refine⟨p,_,rfl,h9,by decide,by decide,λr10 md Fv b10 yy og q10=>?_⟩;obtain⟨_,_,u0,u1⟩:=pk;walk_at "w";exact hN _ _ ⟨_,⟨by lia,by lia⟩,rfl,K68.trans (k9.trans og),Q68.trans (q9.trans q10)⟩
    ·walk_at "w";exact hN _ _ ⟨pr2,Gz,rfl,K68,Q68⟩
  subst e;have K7:=K5.trans k7;have Q7:=Q5.trans q7;have h7:=hh.of K7 Q7;have g7:=k7 _ _ g5 qp;refine sE (λσ' H'=>∃pr:Int,Am pr/\σ'=[some (.ref p),some (.ref s),some (.ref b),some (.int (n:Int)),some (.ref q),some (.int bs),some (.int (0+(i:Int))),some (.int pr)]/\bY p H7 H'/\fR p H7 H') (λN hN=>?_) (λσ' H9 ⟨pr4,Zr,e,k8,q8⟩=>?_)
  ·walk_at "w";refine⟨p,_,rfl,h7,by decide,by decide,λr8 H8 a8 b8 h8 k8 q8=>?_⟩;walk_at "w";refine dA (λc=>?_) (λc=>?_)
   ·walk_at "w";rw[IB];walk_at "w";exact hN _ _ ⟨_,⟨by decide,by decide⟩,rfl,k8,q8⟩
   ·walk_at "w";exact hN _ _ ⟨pr3,Zs,rfl,k8,q8⟩
  subst e;have K8:=K7.trans k8;have Q8:=Q7.trans q8;have g8:=k8 _ _ g7 qp;walk_at "w";refine hV (bR.of g8) ?_;walk_at "w";refine lU (xs:=ps.map V.int) g8 (rT (by rw[bK];lia:(ps.map V.int).length < 1000) (bZ (by decide))) ?_;obtain⟨md,i10,og,g10⟩:=wr H9 q _;rw[i10];walk_at "w";refine⟨ps ++ [pr4],_,_,rfl,by rw[g10,iJ];rfl,by rw[uN,HF];rfl,λr hr=>?_,λd o e nd=>og _ _ (K8 _ _ e nd) (bJ nq e),Q8.trans (fR.of λo e=>og _ _ e (Ne.symm qp))⟩;rcases iy.mp hr with z|z
  ·exact Ag r z
  ·rw[ff.mp z];exact Zr
 ·obtain⟨ps,z6,z7,e,g3,HF,Ag,K3,Q3⟩:=Rg;subst e;walk_at "w";exact k q ps H3 g3 HF Ag nq (hh.of K3 Q3) K3
theorem aIu{kvs:List (List Key×V)}{g:TG}{R:List V->Hp->Prop}{H:Hp}(Pv:Nat->List V->Hp->Prop)(h0:Pv 0 [] H)(hz:kvs.length<=sizeLine)(hl:∀i ys H,i<=kvs.length->Pv i ys H->H d=some (.bu o (.dT kvs))/\ys.length<=i)(hs:∀i kv b ys H,kvs[i]?=some kv->H b=some (.tup (kv.1.map kV))->Pv i ys H->g (.ref b) σ₀ H λσ2 H2=>tt σ2 H2 λc H3=>if c=true then te σ2 H3 λy H4=>Pv (i+1) (ys ++ [y]) H4 else Pv (i+1) ys H3)(hd:∀ys H,Pv kvs.length ys H->R ys H):lR (KA d o kvs) σ₀ g tt te R H:=by
 refine⟨λi m ys H=>m=kvs.length - i/\i<=kvs.length/\Pv i ys H,⟨kvs.length,by simp,dz _,h0⟩,?_⟩;rintro i m ys H ⟨rfl,hi,p⟩;obtain⟨q,ql⟩:=hl i ys H hi p;refine⟨by lia,?_⟩;by_cases br:i < kvs.length
 ·refine .inr ⟨⟨q,br⟩,Pv (i+1),λAQ H' p'=>⟨kvs.length - (i+1),by lia,rfl,br,p'⟩,λx H' y=>?_⟩;obtain⟨e,b,kv,hk,e2,hb⟩:=y;subst e e2;exact hs i kv b ys _ hk hb p
 ·have e:i=kvs.length:=by lia
  subst e;exact .inl ⟨⟨q,d7 _⟩,hd ys H p⟩
theorem aJl:∀{ps:List WP}{i:Nat}{p:WP},(ps.map (·.1)).Nodup->ps[i]?=some p->gU ps p.1=some p.2
 |[],_,_,_,h=>by simp at h
 |q::r,i,p,nd,h=>by
  rw[fm,ni] at nd;cases i with
  |zero=>cases h;unfold gU;simp
  |succ i=>
   have hp:r[i]?=some p:=h;have ne:¬q.1=p.1:=λz=>nd.1 (mD.mpr ⟨p,iI hp,z.symm⟩);have e:gU (q::r) p.1=gU r p.1:=by unfold gU;simp[ne]
   rw[e];exact aJl nd.2 hp
theorem iK.aRK(h:iK H e row)(g:H d=some (.bu o u))(k:bY d H H'):iK H' e row:=by
 obtain⟨qs,a,r⟩:=h;exact⟨qs,k _ _ a (λz=>by rw[z,g] at a;cases a),r.imp λq p ⟨b,z1,z2⟩=>⟨b,k _ _ z1 (λz=>by rw[z,g] at z1;cases z1),k _ _ z2 (λz=>by rw[z,g] at z2;cases z2)⟩⟩
inductive xR  (K:W.Frag) (vs:List V) (H:Hp) (Q:VK) (E:XK):Prop
 |mk:∀(lw:Addr) (m:MS) (ps:aa) (a:ae) (Ls:List (ar)),(vs=[.ref lw])->m.Good->fu m a->rG m a Ls->(Ls.length=ps.length+1)->(ps.length<=48)->(qt κS H lw Ls (λi=>wF (Wr m ps) (ps.length - i) i))->(∀t H',aO H H'->H t=none->A5 H H' t (yO m ps Ls)->Q (.ref t) H')->xR K vs H Q E
theorem aDV(tx:Txt K mg a):cE P w K mg base hU 1 a.kN a.kO a6a (xR K):=by
 refine tx.kW.ok aDq (by walk_at "l") λbh A outer s H vs Q E hr h=>?_;obtain⟨lw,m,ps,st,Ls,rfl ,hg,bq,hR,lL,hlen,hd,k⟩:=h;have hu:=lT hr;refine bE (aG (aN (aGW (k:=1) (idx:=[]) (N:=["_law_worths_here"]) (aQy (y:="_law_worths_here") (sc:=aL j8) (NX:=a6a) rfl rfl rfl (λ_ _=>rfl) (λ_=>rfl) (by decide +kernel)) rfl (bF (K':=K) (aB 0)) (λ_ _ _ _=>(aM (i:=0) (show(["_law_worths_here"]:ak).Nodup by decide +kernel) rfl (Or.inr rfl))) (cV (by decide)) (λ_ _ _ _=>bQ) (λ_ _ _ _=>(vV (aH (rc:=OQ) (aFD hu) (by rfl) tx.oZ xU (aA (bW (k:=1) (idx:=[0]) (N:=bha) (aOb rfl (by decide +kernel)) rfl (aGH (aB 0)) (λ_ _ _ _=>(aM (i:=0) (show(bha:ak).Nodup by decide +kernel))) (cV (by decide)) (λ_ _ _ _=>bQ) (λ_ _ _ _=>(dF (aB 0) (eM hu (aB 1) (aB 0))))) aC))))))) ?_;obtain⟨ds,tm,uo,mx⟩:=hd.ex;refine aW (σ:=[some (.ref lw)]) rfl ?_;walk_at "w";refine fA (bR.of tm) ?_;refine cM (xs:=ds.map V.ref) (λj us H'=>aO H H'/\∃es:ah,us=es.map V.ref/\RL (iK H') es ((yO m ps Ls).take j)/\es.Nodup/\∀e∈es,H e=none) ⟨aO.refl _,[],rfl,RL.nil,Bh,(λ_ h=>by cases h)⟩ (bZ (by rw[bK];lia))
  (λj us H' hj ⟨s',es,e,r,_⟩=>⟨bR.of (s' _ _ tm),by rw[e,bK,r.len,xT];lia⟩) (λj v us H' hv Rf=>?_) (λus H' Rb=>?_)
 ·obtain⟨s',es,e,r,nd,fr⟩:=Rf;rw[hE] at hv;obtain⟨d,ed,rfl⟩:=yQ.mp hv;have lj:j < Ls.length:=by rw[<-uo];exact(g0.mp ed).1
  have eL:Ls[j]?=some Ls[j]:=cG lj;have gd:=mx j d _ ed eL;obtain⟨r2,r3⟩:=hR.at_ j _ eL;have er:=Fh (m:=m) (qs:=ps) eL;rw[lL,Bn] at er;generalize Ls[j]=pj at eL gd r2 r3 er;have yT:=Rc.yT hg bq (Ci r2) λk hk=>(r3 k).mp hk;have Dp:H d=some (.dT (enc (o9 pj (wF (Wr m ps) (ps.length - j) j)))):=by
   rw[show H d=some (.dT (pj.map λx=>(jS x,V.int (wF (Wr m ps) (ps.length - j) j x)))) from gd];unfold enc o9;rw[zW];rfl
  have rp:(o9 pj (wF (Wr m ps) (ps.length - j) j)).Pairwise λa b=>su a.1 b.1:=by
   unfold o9;exact pd.mpr r2
  have rnd:((o9 pj (wF (Wr m ps) (ps.length - j) j)).map (·.1)).Nodup:=by rw[aFa];exact Ci r2
  generalize bw:o9 pj (wF (Wr m ps) (ps.length - j) j)=row at Dp rp er rnd;have rl:row.length<=25:=by rw[<-bw];unfold o9;rw[bK];exact yT
  have B2:=s' _ _ Dp;walk_at "w";refine aRv B2 λob=>?_;obtain⟨J2,j2,k2,u2⟩:=wr H' d _;rw[j2];refine aIu (kvs:=enc row) (λi us J3=>∃A4:ah,us=A4.map V.ref/\RL (qo J3) A4 (row.take i)/\J3 d=some (.bu ob (.dT (enc row)))/\aO J2 J3) ⟨[],rfl,RL.nil,u2,aO.refl _⟩ (bZ (by rw[jP];lia))
   (λi us J3 hi ⟨A4,e1,ra,gf,S3⟩=>⟨gf,by rw[e1,bK,ra.len,xT];lia⟩) (λi kv b us J3 Ew gb Ra=>?_) (λus J3 Q9=>?_)
  ·obtain⟨A4,e1,ra,gf,S3⟩:=Ra;obtain⟨w,ew,rfl⟩:=Fi Ew;have gv:jU J3 d (.ref b) (some (.int w.2)):=by
    have z:=jU.f gf (k:=jS w.1) gb
    rwa[JF,aJl rnd ew] at z
   walk_at "w";refine⟨d,_,rfl,gv,?_⟩;walk_at "w";intro T4 nT4;obtain⟨J4,j4,t4,u4⟩:=nw _ nT4;rw[j4];refine⟨A4 ++ [T4],by rw[e1,iJ];rfl,?_,t4 _ _ gf,S3.trans t4⟩;rw[cL ew];exact RL.snoc (ra.imp λ_ _ z=>z.same t4) ⟨b,u4,t4 _ _ gb⟩
  obtain⟨A4,e1,ra,gf,S3⟩:=Q9;subst e1;rw[jP,fe] at ra;intro l4 nl4;obtain⟨J4,j4,t4,u4⟩:=nw _ nl4;rw[j4];have ra4:RL (qo J4) A4 row:=ra.imp λ_ _ z=>z.same t4;have ie:=ra4.len;walk_at "w";refine aMk (qs:=A4) (rs:=row.map λp=>([p.1.1,p.1.2],p.2)) (L:=2) u4 ⟨by rw[bK];exact ie,λi q r eq er'=>?_⟩ (λr hr=>by obtain⟨p,_,rfl⟩:=mD.mp hr;rfl) (by lia) λp mq zs np hN hp hs=>?_
  ·rw[hE] at er';obtain⟨w,ew,rfl⟩:=yQ.mp er';exact ra4.at_ i q w eq ew
  obtain⟨J5,j5,t5,u5⟩:=nw _ np;rw[j5];have gf5:=t5 _ _ (t4 _ _ gf);have w5:iK J5 p row:=iK.same ⟨mq,u5,(aMD (aOH rp hp hs) hN.len hN.at_).imp λ_ _ z=>z.same t5⟩ (aO.refl _);refine⟨d,enc row,B2,ob,gf5,?_⟩;obtain⟨J6,j6,k6,u6⟩:=wr J5 d _;rw[j6];have s6:aO H' J6:=λb u eb=>by
   by_cases z:b=d
   ·subst z;rw[B2] at eb;rw[u6,eb]
   ·exact k6 _ _ (t5 _ _ (t4 _ _ (S3 _ _ (k2 _ _ eb z)))) z
  have npH:H' p=none:=by
   cases z:H' p with
   |none=>rfl
   |some o=>
    by_cases y:p=d
    ·rw[y,t4 _ _ gf] at np;cases np
    ·rw[t4 _ _ (S3 _ _ (k2 _ _ z y))] at np;cases np
  refine⟨s'.trans s6,es ++ [p],by rw[e,iJ];rfl,?_,Pq nd λz=>?_,λx hx=>?_⟩
  ·rw[cL er];exact RL.snoc (r.imp λ_ _ z=>z.same s6) (w5.aRK gf5 k6)
  ·obtain⟨i,ei⟩:=pf z;have hi:i < ((yO m ps Ls).take j).length:=by rw[<-r.len];exact(g0.mp ei).1
   obtain⟨_,g,_⟩:=r.at_ i p _ ei (cG hi);rw[npH] at g;cases g
  ·rcases iy.mp hx with z|z
   ·exact fr x z
   ·rw[ff.mp z];exact s'.free npH
 ·obtain⟨s',es,e,r,nd,fr⟩:=Rb;intro t nt;obtain⟨H2,i2,s2,g2⟩:=nw _ nt;rw[i2];walk_at "w";rw[bK,uo,As (by rw[uK];exact d7 _)] at r;exact k t H2 (s'.trans s2) (s'.free nt) ⟨es,by rw[g2,e],r.imp λ_ _ z=>z.same s2,nd,fr⟩
theorem aF8{α:Type}{l:List α}{k:Nat}{w v:α}(h:l[k]?=some w):v∈l.set k v:=iI (Au (g0.mp h).1)
theorem aQI{m:MS}(g:m.Good){st:ae}(h:fu m st){ps:aa}{Ls:List (ar)}(hR:rG m st Ls)(hl:Ls.length=ps.length+1){j k:Nat}{row:List WP}{w:WP}(er:(yO m ps Ls)[j]?=some row)(ew:row[k]?=some w)(num:Int) :
  qq (Wr m ps) st ps.length ((yO m ps Ls).set j (row.set k (w.1,w.2+1))) num=false:=by
 cases q:qq (Wr m ps) st ps.length ((yO m ps Ls).set j (row.set k (w.1,w.2+1))) num with
 |false=>rfl
 |true=>
  exfalso;unfold qq at q;rw[iz,iz,iz,iz] at q;obtain⟨_,_,_,q4,q5⟩:=q;have hj:=(g0.mp er).1;have own:((yO m ps Ls).set j (row.set k (w.1,w.2+1))).getD j []=row.set k (w.1,w.2+1):=by
   rw[yP,Au hj];rfl
  have dt:=aF8 (v:=(w.1,w.2+1)) ew;obtain⟨qs,eL,bw⟩:=aME er;rw[hl,Bn] at bw;have hw:w∈row:=iI ew;rw[bw] at hw;obtain⟨x,hx,hwx⟩:=mD.mp hw;have e1:w.1=x:=by rw[<-hwx]
  have e2:w.2=wF (Wr m ps) (ps.length - j) j x:=by rw[<-hwx]
  by_cases hn:j=ps.length
  ·rw[<-hn,own,Bool.not_eq_true',List.any_eq_false] at q4;refine q4 _ dt (zV ?_);show w.2+1 > 0;rw[e2,hn,ou];show(0:Int)+1 > 0;decide
  ·have dk:j < ps.length:=by rw[uK] at hj;lia
   have q6:=nj.mp q5 j (zU.mpr dk);rw[own] at q6;have q7:=nj.mp q6 _ dt;have oo:Ls[j+1]?=some (Ls[j+1]'(by lia)):=cG (by lia);generalize Ls[j+1]'(by lia)=rs at oo;have vq:((yO m ps Ls).set j (row.set k (w.1,w.2+1))).getD (j+1) []=o9 rs (wF (Wr m ps) (ps.length - (j+1)) (j+1)):=by
    rw[yP,Bp (by lia),Fh oo,hl,Bn];rfl
   have rx:=((hR.at_ j qs eL).2 x).mp hx;obtain⟨⟨b1,_,_⟩,_⟩:=Rc.st g h rx;obtain⟨kk,hk⟩ : ∃kk,ps.length - j=kk+1:=⟨ps.length - j - 1,by lia⟩
   obtain⟨w',hw',le⟩:=o8 (wF (Wr m ps) kk (j+1)) (ws:=Wr m ps j x) (Fj b1);rw[vq,e1] at q7;have q8:=nj.mp q7 w' hw';have W6:w'.2.1∈rs:=by
    obtain⟨on,b,may,rfl⟩:=yN.mp hw';exact((hR.at_ (j+1) rs oo).2 _).mpr ⟨x,rx,on,b,may,rfl⟩
   rw[PF W6,show ps.length - (j+1)=kk by lia] at q8;have q9:w.2+1<=w'.2.2+wF (Wr m ps) kk (j+1) w'.2.1:=zj q8;rw[hk] at e2;have e3:w.2=dY (wF (Wr m ps) kk (j+1)) (Wr m ps j x):=e2;lia
inductive xS  (K:W.Frag) (C t:Addr) (vs:List V) (H:Hp) (Q:VK) (E:XK):Prop
 |mk:∀(p x pp b q du:Addr) (m:MS) (st:ae) (ps:aa) (Ls:List (ar)),(vs=[.ref p,.ref x,.ref pp])->bG H p->(H t=some (.gi jK jL))->cQ C H x m->m.Good->(H pp=some (.lst [.ref b,.ref q,.ref du,.int (C7 m ps st)]))->(H b=some (.tup [.int st.1,.int st.2]))->fu m st->(H q=some (.lst (ps.map V.int)))->(q≠p)->((∀n∈ps,Am n))->(ps.length<=48)->rG m st Ls->(Ls.length=ps.length+1)->(qm H du (yO m ps Ls))->(∀H',bG H' p->bY p H H'->Q (.bl true) H')->xS K C t vs H Q E
theorem aDW(tx:Txt K mg a):cE P w K mg base hU 13 a.kP a.kQ ara (xS K a.bH a.lJ):=by
 have aT:=eR (P:=P) (w:=w) (base:=base) tx;have aCn:=aF5 (P:=P) (w:=w) (base:=base) tx;refine tx.rE.ok dO (by walk_at "l") λbh A outer s H vs Q E hr h=>?_;obtain⟨p,x,pp,b,q,du,m,st,ps,Ls,rfl ,hh,gt,hm,hg,gp,gb,bq,gq0,nqp,ha,hl,hR,lL,hT,k⟩:=h;have hu:=lT hr;refine bE (aE (yB (aB 2) (aGA (K':=K) (n:=4) rfl (bB (aM (i:=3) dO.nd) (bB (aM (i:=4) dO.nd) (bB (aM (i:=5) dO.nd) (bB (aM (i:=6) dO.nd) dC))))))
  (aE (sJ (k:=1) (idx:=[]) (N:=a3a) (i:=8) dO.nd rfl (Or.inl rfl) (cU (sc:=aL j9) (NX:=aoa) rfl rfl rfl (by decide +kernel)) rfl (bF (K':=K) (aB 5)) (λ_ _ _ _=>(aM (i:=0) (show(a3a:ak).Nodup by decide +kernel))) (cV (by decide)) (λ_ _ _ _=>bQ) (λ_ _ _ _=>(fM (rc:=xZ K) sF (by rfl) tx.mB mN (aA (aB 0) aC))))
  (aE (bD (aY rK (ay aCn hr tx.wY tx.qI.kp tx.wX (aA (aB 1) (aA (aB 3) (aA (aB 4) (aA (aB 8) (aA (aB 6) aC)))))) dI (bN _)) (aG (aN dI)) aU)
  (aE (aI (i:=7) dO.nd (aJ (K':=K) (aB 8) (aK jT (ay aT hr tx.bA tx.aX.kp tx.aZ (aA (aB 0) (aA aD aC))) (aH (rc:=jR K) bS (by rfl) tx.eO dH (aA (aB 8) aC)))))
  (aE (aI (i:=9) dO.nd (aK jT (ay aT hr tx.bA tx.aX.kp tx.aZ (aA (aB 0) (aA aD aC))) (aH (rc:=jR K) bS (by rfl) tx.eO dH (aA (aB 7) aC))))
  (aE (yB (dF (aJ (K':=K) (aJ (K':=K) (aB 7) (aB 9)) aD) (aK bX (aJ (K':=K) (aJ (K':=K) (aB 7) (aB 9)) aD) aD)) (P4 (aB 7) (aB 9) set_list))
  (aG (aN (cP O3 (ay aCn hr tx.wY tx.qI.kp tx.wX (aA (aB 1) (aA (aB 3) (aA (aB 4) (aA (aB 8) (aA (aB 6) aC)))))) dI (bN _)))))))))) ?_
 obtain⟨es,gd,re⟩:=hT.ex;have G:=JR hR lL;have vy:=re.len;have G0:=G.len;have BA:∀row∈yO m ps Ls,row.length<=1000/\∀p∈row,qz p.1.1 p.1.2:=λrow hr=>G.row hg bq hr;obtain⟨shw,_⟩:=aKf hg bq hR lL;have up:∀{j k:Nat} {row:List WP} {w:WP},(yO m ps Ls)[j]?=some row->row[k]?=some w->qq (Wr m ps) st ps.length ((yO m ps Ls).set j (row.set k (w.1,w.2+1))) (C7 m ps st)=false:=λh1 h2=>aQI hg bq hR lL h1 h2 _;generalize yO m ps Ls=rows at hT re vy G G0 BA shw up;refine aW (σ:=[some (.ref p),some (.ref x),some (.ref pp),none,none,none,none,none,none,none]) rfl ?_;walk_at "w";refine aLr (bR.of gp) rfl ?_;walk_at "w";refine fA (bR.of gd) ?_;refine cM (xs:=es.map V.ref) (λj us H6=>aO H H6/\∃fs:ah,us=fs.map V.ref/\RL (iK H6) fs (rows.take j)/\fs.Nodup/\∀f∈fs,H f=none) ⟨aO.refl _,[],rfl,RL.nil,Bh,(λ_ h=>by cases h)⟩ (bZ (by rw[bK];lia))
  (λj us H6 hj ⟨s6,fs,e,r,_⟩=>⟨bR.of (s6 _ _ gd),by rw[e,bK,r.len,xT];lia⟩) (λj v us H6 hv Q6=>?_) (λus H6 Q4=>?_)
 ·obtain⟨s6,fs,e,r,fd,fn⟩:=Q6;obtain⟨e1,row,ee,rfl,er,qs,gq,rq⟩:=re.gt hv;walk_at "w";refine JW (bR.of (s6 _ _ gq)) ?_;intro c1 HC;obtain⟨H7,i7,s7,g7⟩:=nw _ HC;rw[i7];refine⟨s6.trans s7,fs ++ [c1],by rw[e,iJ];rfl,?_,Pq fd λz=>?_,λf hf=>?_⟩
  ·rw[cL er];exact RL.snoc (r.imp λ_ _ z=>z.same s7) ⟨qs,g7,rq.imp λ_ _ z=>z.same (s6.trans s7)⟩
  ·obtain⟨j2,ej⟩:=pf z;have lj:j2 < (rows.take j).length:=by rw[<-r.len];exact(g0.mp ej).1
   obtain⟨qs2,z2,_⟩:=r.at_ j2 c1 _ ej (cG lj);rw[z2] at HC;cases HC
  ·rcases iy.mp hf with z|z
   ·exact fn f z
   ·rw[ff.mp z];exact s6.free HC
 obtain⟨s6,fs,e,r,fd,fn⟩:=Q4;subst e;rw[bK,vy,fe] at r;have lfs:=r.len;intro t1 Lf;obtain⟨H1,i1,s1,g1⟩:=nw _ Lf;rw[i1];have S1:=s6.trans s1;have a0n:H t1=none:=s6.free Lf;have hfs:∀f∈fs,f≠t1:=λf hf z=>by
  obtain⟨i,hi⟩:=pf hf;have jw:i < rows.length:=by rw[<-lfs];exact(g0.mp hi).1
  obtain⟨qs,g,_⟩:=r.at_ i f _ hi (cG jw);rw[z,Lf] at g;cases g
 have r1:RL (iK H1) fs rows:=r.imp λ_ _ z=>z.same s1;walk_at "w";refine⟨x,m,b,st,q,t1,ps,rows,_,rfl,S1 _ _ gt,hm.same S1,hg,S1 _ _ gb,S1 _ _ gq0,ha,hl,⟨fs,g1,r1⟩,by lia,BA,λH2 s2=>?_⟩;rw[shw];have S2:=S1.trans s2;repeat walk_at "gs"
 have h2:=hh.same S2;have g2:=s2 _ _ g1;have r2:RL (iK H2) fs rows:=r1.imp λ_ _ z=>z.same s2;refine⟨p,_,rfl,h2,by decide,by decide,λra H4 a4 b4 h4 k4 _=>?_⟩;have g4:=k4 _ _ g2 (gH h2 g2);have r4:=uM r2 h2 k4;have K4:bY p H H4:=S2.keep.trans k4;obtain⟨j,hj,ej⟩:=Pp (n:=rows.length) a4 (by lia);have HS:0 < (rows.length:Int):=by lia
 have lfm:(fs.map V.ref).length=rows.length:=by rw[bK,lfs]
 have ef:fs[j]?=some fs[j]:=cG (by lia);have er:rows[j]?=some rows[j]:=cG hj;have wj:=r4.at_ j _ _ ef er;have qh:=fn fs[j] (lu _);have nft:t1≠fs[j]:=Ne.symm (hfs _ (lu _));generalize fs[j]=f at ef wj qh nft;generalize rows[j]=row at er wj;obtain⟨qs,gq,rq⟩:=wj;have Xo:=G.yT hg bq er;have ix:pC (fs.map V.ref) (j:Int)=some (.ref f):=cO (fQ ef);walk_at "w";rw[lfm,ej];refine Jw (bR.of g4) ix ?_;walk_at "w";refine⟨p,_,rfl,h4,by decide,by decide,λrb H5 a5 b5 h5 k5 _=>?_⟩;have yu:=rq.len;have TV:0 < row.length:=DW.mpr Xo.2.1;have nfp:f≠p:=gH h4 gq;obtain⟨jk,wb,Nt⟩:=Pp (n:=row.length) a5 TV;have Mr:=k5 _ _ gq nfp;have g5:=k5 _ _ g4 (gH h4 g4);have r5:=uM r4 h4 k5;have K5:=K4.trans k5;have L1:0 < (row.length:Int):=by lia
 have HE:(qs.map V.ref).length=row.length:=by rw[bK];exact yu
 have rq5:RL (qo H5) qs row:=rq.imp λq p' ⟨b,z1,z2⟩=>⟨b,k5 _ _ z1 λy=>h4.qM _ (by rw[<-y];exact z1),k5 _ _ z2 λy=>h4.qM _ (by rw[<-y];exact z2)⟩
 have B5:qs[jk]?=some (qs[jk]'(by rw[yu];exact wb)):=cG (by rw[yu];exact wb);have B4:row[jk]?=some row[jk]:=cG wb;have Il:=rq5.at_ jk _ _ B5 B4;generalize qs[jk]'(by rw[yu];exact wb)=qk at B5 Il;generalize row[jk]=ow at B4 Il;obtain⟨bk,Il,yz⟩:=Il;have ixk:pC (qs.map V.ref) (jk:Int)=some (.ref qk):=cO (fQ B5);walk_at "w";rw[HE,Nt];walk_at "w";intro T nT;obtain⟨H7,i7,s7,g7⟩:=nw _ nT;rw[i7];have Ie:=s7 _ _ Mr;have nTf:T≠f:=λz=>by rw[z,Mr] at nT;cases nT
 walk_at "w";refine xW (j:=jk) Ie (aOd (by rw[HE];exact wb)) ?_;rw[<-List.map_set];obtain⟨H8,i8,k8,g8⟩:=wr H7 f _;rw[i8];have w8:iK H8 f (row.set jk (ow.1,ow.2+1)):=⟨_,g8,RL.aR6 (rq5.imp λq p z=>(z.same s7).Bb Ie k8) ⟨bk,k8 _ _ g7 nTf,k8 _ _ (s7 _ _ yz) (λz=>by rw[z,Mr] at yz;cases yz)⟩⟩
 have r8:=aKg (r5.imp λ_ _ z=>z.same s7) fd ef Ie k8 w8;have h8:bG H8 p:=(h5.same s7).Bb Ie k8;have K8:bY p H H8:=λb o e ne=>k8 _ _ (s7 _ _ (K5 _ _ e ne)) (bJ qh e);have G8:=G.put (v:=ow.2+1) er B4;have np:∀{a:Addr} {xs:List V},H a=some (.tup xs)->a≠p:=λ{a xs} e y=>hh.qM _ (by rw[<-y];exact e)
 walk_at "w";refine⟨x,m,b,st,q,t1,ps,_,_,rfl,K8 _ _ gt (λz=>by obtain⟨_,_,_,_,hp,_⟩:=hh.ex;rw[z,hp] at gt;cases gt),hm.keep hh K8,hg,K8 _ _ gb (np gb),K8 _ _ gq0 nqp,ha,hl,⟨fs,k8 _ _ (s7 _ _ g5) nft,r8⟩,by rw[Bi];lia,λrow hr=>G8.row hg bq hr,λH9 s9=>?_⟩;rw[up er B4];repeat walk_at "gs"
 exact k _ (h8.same s9) (K8.trans s9.keep)
inductive zQ  (K:W.Frag) (vs:List V) (H:Hp) (Q:VK) (E:XK):Prop
 |mk:∀(f du:Addr) (es B7:ah) (rows:List (List WP)),(vs=[.ref f,.ref du])->(H f=some (.lst (es.map V.ref)))->(RL (iK H) es rows)->es.Nodup->(H du=some (.lst (B7.map V.ref)))->(RL (iK H) B7 rows)->((∀e∈es,e∉B7/\e≠f/\e≠du))->(rows≠[])->(rows.length<=49)->((∀row∈rows,row.length<=25))->(∀H',(∀a o,H a=some o->a∉es->H' a=some o)->Q (.bl true) H')->zQ K vs H Q E
theorem aEw(tx:Txt K mg a):cE P w K mg base hU 1 a.nU a.nV a5a (zQ K):=by
 refine tx.t9.ok qU (by walk_at "l") λbh A outer s H vs Q E hr h=>?_;obtain⟨f,du,es,B7,rows,rfl ,gf,re,nd,gd,rd,ap,ne,hl,hrw,k⟩:=h;have hu:=lT hr;refine bE (aE (bU PassesOwn.never rfl (bF (K':=K) (aB 0)) (aM (i:=2) qU.nd) (aG (cW (dU (K':=K) (aB 2) (aA (dF (dF aD aD) aD) aC)))))
  (aE (sJ (k:=1) (idx:=[]) (N:=a3a) (i:=3) qU.nd rfl (Or.inl rfl) (cU (sc:=aL iV) (NX:=aAa) rfl rfl rfl (by decide +kernel)) rfl (bF (K':=K) (aB 0)) (λ_ _ _ _=>(aM (i:=0) (show(a3a:ak).Nodup by decide +kernel))) (cV (by decide)) (λ_ _ _ _=>bQ) (λ_ _ _ _=>(aH (rc:=jR K) bS (by rfl) tx.eO dH (aA (aB 0) aC))))
  (aE (cW (aFo (K':=K) (aJ (K':=K) (aB 0) (lF vD aD))))
  (aG (aN (cP (r:=iN K) (dR hu) (aB 3) (bW (k:=1) (idx:=[]) (N:=a3a) (cU (sc:=aL iV) (NX:=aAa) rfl rfl rfl (by decide +kernel)) rfl (bF (K':=K) (aB 1)) (λ_ _ _ _=>(aM (i:=0) (show(a3a:ak).Nodup by decide +kernel))) (cV (by decide)) (λ_ _ _ _=>bQ) (λ_ _ _ _=>(aK bX (aH (rc:=jR K) bS (by rfl) tx.eO dH (aA (aB 0) aC)) aD))) (bN _))))))) ?_
 refine aW (σ:=[some (.ref f),some (.ref du),none,none]) rfl ?_;walk_at "w";refine fA (bR.of gf) ?_;refine sG (xs:=es.map V.ref) (λj σ' H'=>∃(z2:Option V),σ'=[some (.ref f),some (.ref du),z2,none]/\(∀a o,H a=some o->a∉es->H' a=some o)/\∀(i:Nat) e row,es[i]?=some e->rows[i]?=some row->∃xs:List V,H' e=some (.lst xs)/\xs.length=row.length+if i < j then 1 else 0)
  ⟨_,rfl,λ_ _ e _=>e,λi e row h1 h2=>?_⟩ (λj σ' H' hj ⟨_,_,kp,_⟩=>bR.of (kp _ _ gf λz=>(ap _ z).2.1 rfl)) (λj v σ' H' hv Q1=>?_) (λσ' H' Q0=>?_)
 ·obtain⟨qs,g,r⟩:=re.at_ i e row h1 h2;exact⟨_,g,by rw[bK,r.len];simp⟩
 ·obtain⟨z2,e,kp,hx⟩:=Q1;subst e;rw[hE] at hv;obtain⟨e,ee,rfl⟩:=yQ.mp hv;have lj:j < rows.length:=by rw[<-re.len];exact(g0.mp ee).1
  obtain⟨xs,gx,lx⟩:=hx j e _ ee (cG lj);have lr:=hrw _ (lu lj);walk_at "w";refine hV (bR.of gx) ?_;walk_at "w";intro T1 Lr;obtain⟨H1,i1,s1,g1⟩:=nw _ Lr;rw[i1];walk_at "w";intro T2 HD;obtain⟨H2,i2,s2,g2⟩:=nw _ HD;rw[i2];have BJ:=s1.trans s2;have Ia:=BJ _ _ gx;walk_at "w";refine lU (xs:=xs) Ia (rT (by rw[lx];split <;> lia:xs.length < 20000) (bZ (by decide))) ?_;obtain⟨H3,i3,k3,g3⟩:=wr H2 e _;rw[i3];refine⟨_,rfl,λa o ha na=>k3 _ _ (BJ _ _ (kp a o ha na)) (λz=>na (by rw[z];exact iI ee)),λi e' row h1 h2=>?_⟩;by_cases we:i=j
  ·subst we;rw[ee] at h1;cases h1;rw[cG lj] at h2;cases h2;refine⟨_,g3,?_⟩;rw[uN,lx];simp
  ·obtain⟨ys,gy,ly⟩:=hx i e' row h1 h2;refine⟨ys,k3 _ _ (BJ _ _ gy) (λz=>we ?_),?_⟩
   ·rw[z] at h1;exact(List.getElem?_inj (g0.mp h1).1 nd).mp (h1.trans ee.symm)
   ·rw[ly];by_cases h3:i < j
    ·rw[cJ h3,cJ (by lia)]
    ·rw[bV h3,bV (by lia)]
 ·obtain⟨z2,e,kp,hx⟩:=Q0;subst e;have vy:=re.len;have Mv:=kp _ _ gf λz=>(ap _ z).2.1 rfl;walk_at "w";refine fA (bR.of Mv) ?_;refine cM (xs:=es.map V.ref) (λj us J=>aO H' J/\us=((rows.take j).map λrow=>((row.length+1:Nat):Int)).map V.int) ⟨aO.refl _,rfl⟩ (bZ (by rw[bK];lia))
   (λj us J hj ⟨s',e⟩=>⟨bR.of (s' _ _ Mv),by rw[e,bK,bK,xT];lia⟩) (λj v us J hv QZ=>?_) (λus J QY=>?_)
  ·obtain⟨s',e⟩:=QZ;rw[hE] at hv;obtain⟨e1,ee,rfl⟩:=yQ.mp hv;have lj:j < rows.length:=by rw[<-vy];exact(g0.mp ee).1
   obtain⟨xs,gx,lx⟩:=hx j e1 _ ee (cG lj);rw[cJ (by rw[bK];lia)] at lx;have gxs:=s' _ _ gx;walk_at "w";refine⟨s',?_⟩;rw[e,cL (cG lj),iJ,iJ,lx];rfl
  obtain⟨s',e⟩:=QY;subst e;rw[bK,vy,fe];intro ls Lj;obtain⟨H2,i2,s2,g2⟩:=nw _ Lj;rw[i2];have S2:=s'.trans s2;have pos:0 < rows.length:=DW.mpr ne;have el:es[rows.length - 1]?=some (es[rows.length - 1]'(by lia)):=cG (by lia);generalize es[rows.length - 1]'(by lia)=eL at el;obtain⟨xs,gx,lx⟩:=hx _ eL _ el (cG (by lia));have ai:pC (es.map V.ref) (-1)=some (.ref eL):=by
   rw[vG (by rw[bK];lia),bK,vy];exact fQ el
  have gf2:=S2 _ _ Mv;have Ia:=S2 _ _ gx;walk_at "w";refine hV (bR.of Ia) ?_;refine aLw Ia ?_;obtain⟨H3,i3,k3,g3⟩:=wr H2 eL _;rw[i3];have inE:eL∈es:=iI el;have LB:∀a o,H a=some o->a∉es->H3 a=some o:=λa o ha na=>k3 _ _ (S2 _ _ (kp a o ha na)) (λz=>na (by rw[z];exact inE));have gd3:=LB _ _ gd λz=>(ap _ z).2.2 rfl;have nl:ls≠eL:=λz=>by rw[z,s' _ _ gx] at Lj;cases Lj
  have g23:=k3 _ _ g2 nl;have ldu:=rd.len;walk_at "w";refine fA (bR.of gd3) ?_;refine cM (xs:=B7.map V.ref) (λj us J=>aO H3 J/\us=((rows.take j).map λrow=>((row.length+1:Nat):Int)).map V.int) ⟨aO.refl _,rfl⟩ (bZ (by rw[bK];lia))
   (λj us J hj ⟨s',e⟩=>⟨bR.of (s' _ _ gd3),by rw[e,bK,bK,xT];lia⟩) (λj v us J hv QX=>?_) (λus J QV=>?_)
  ·obtain⟨s4,e⟩:=QX;obtain⟨e1,row,ee,rfl,er,qs,gq,rq⟩:=rd.gt hv;have gq3:=LB _ _ gq λz=>(ap _ z).1 (iI ee);have gq4:=s4 _ _ gq3;walk_at "w";refine⟨s4,?_⟩;rw[e,cL er,iJ,iJ,bK,rq.len];rfl
  obtain⟨s4,e⟩:=QV;subst e;rw[bK,ldu,fe];intro lz Li;obtain⟨H4,i4,s5,g4⟩:=nw _ Li;rw[i4];walk_at "w";refine aNJ (bR.of (s5 _ _ (s4 _ _ g23))) (bR.of g4) ?_;rw[zV rfl];exact k _ λa o ha na=>s5 _ _ (s4 _ _ (LB a o ha na))
theorem uD.lpj{j:Nat}{m:Int}{ns:aa}(h1:H p=some (.tup [.int m,.ref r]))(h2:H q=some (.tup [.int m,.ref u]))(g1:H r=some (.lst (ns.map V.int)))(g2:H u=some (.lst (ns.map V.int)))(hl:ns.length<=1000):uD H (j+3) (.ref p) (.ref q):=by
 refine .inr (.inr (.inr (.inr ⟨p,q,_,_,rfl,rfl,.inl ⟨h1,h2⟩,rfl,by simp,λi u v hu hv=>?_⟩)))
 match i,hu,hv with
 |0,hu,hv=>cases hu;cases hv;exact uD.int m
 |1,hu,hv=>
  cases hu;cases hv;refine .inr (.inr (.inr (.inr ⟨_,_,_,_,rfl,rfl,.inr ⟨g1,g2⟩,rfl,by rw[bK];lia,λi u v hu hv=>?_⟩)));rw[hu] at hv;cases hv;obtain⟨n,_,rfl⟩:=yM hu;exact uD.int n
 |_+2,hu,_=>simp at hu
theorem uD.rl{j:Nat}{α:Type}{P Q:Addr->α->Prop}{as bs:ah}{xs:List α}(ga:H a=some (.lst (as.map V.ref)))(gb:H b=some (.lst (bs.map V.ref)))(ra:RL P as xs)(rb:RL Q bs xs)(hl:xs.length<=1000)(h:∀u v x,x∈xs->P u x->Q v x->uD H j (.ref u) (.ref v)):uD H (j+1) (.ref a) (.ref b):=by
 have l1:=ra.len;have l2:=rb.len;refine .inr (.inr (.inr (.inr ⟨a,b,_,_,rfl,rfl,.inr ⟨ga,gb⟩,by rw[bK,bK,l1,l2],by rw[bK];lia,λi u v hu hv=>?_⟩)));obtain⟨u',x,_,rfl,ex,pu⟩:=ra.gt hu;obtain⟨v',x',_,rfl,Nk,pv⟩:=rb.gt hv;rw[ex] at Nk;cases Nk;exact h u' v' x (iI ex) pu pv
theorem uD.rw{j:Nat}(h1:qo H a w)(h2:qo H b w):uD H (j+3) (.ref a) (.ref b):=by
 obtain⟨u,x1,x2⟩:=h1;obtain⟨v,y1,y2⟩:=h2;refine .inr (.inr (.inr (.inr ⟨a,b,_,_,rfl,rfl,.inl ⟨x1,y1⟩,rfl,by simp,λi u v hu hv=>?_⟩)))
 match i,hu,hv with
 |0,hu,hv=>cases hu;cases hv;exact uD.pair x2 y2
 |1,hu,hv=>cases hu;cases hv;exact uD.int _
 |_+2,hu,_=>simp at hu
theorem uD.tb{j:Nat}{rows:List (List WP)}(h1:qm H a rows)(h2:qm H b rows)(hl:rows.length<=1000)(hr:∀row∈rows,row.length<=1000):uD H (j+5) (.ref a) (.ref b):=by
 obtain⟨es,g1,r1⟩:=h1.ex;obtain⟨fs,g2,r2⟩:=h2.ex;exact uD.rl g1 g2 r1 r2 hl λu v row dt ⟨qs,x1,x2⟩ ⟨mq,y1,y2⟩=>uD.rl x1 y1 x2 y2 (hr row dt) λ_ _ _ _ z1 z2=>uD.rw z1 z2
theorem aOo{es:ah}(g:H t=some (.lst (es.map V.ref)))(r:RL (iK H) es rows)(he:e∈es):e≠t:=λz=>by
 subst z;obtain⟨i,ei⟩:=pf he;have hi:i < rows.length:=by rw[<-r.len];exact(g0.mp ei).1
 obtain⟨qs,g2,r2⟩:=r.at_ i e _ ei (cG hi);rw[g] at g2;injection g2 with g2
 injection g2 with g2
 have eq:es=qs:=(List.map_inj_right (λa b h=>by injection h)).mp g2;have hj:i < (rows[i]).length:=by rw[<-r2.len,<-eq];exact(g0.mp ei).1
 obtain⟨b,x1,_⟩:=r2.at_ i e _ (by rw[<-eq];exact ei) (cG hj);rw[g] at x1;cases x1
theorem bG.aQJ(h:bG H p)(hs:d9 H s m)(k:bY s H H'):bG H' p:=by
 obtain⟨d,c,q,ms,hp,hq,bj,oh⟩:=h.ex;obtain⟨pl,g1,_⟩:=hs.ex;refine⟨⟨d,c,q,ms,k _ _ hp (λz=>by rw[z,g1] at hp;cases hp),k _ _ hq (λz=>?_),bj,oh⟩⟩;rw[z,g1] at hq;injection hq with hq
 injection hq with hq
 have e:(ms.map V.int)[6]?=some (.ref pl):=by rw[<-hq];rfl
 obtain⟨n,_,y⟩:=yM e;cases y
theorem rG.uniq{a:ae}{Ls Ks:List (ar)}(h:rG m a Ls)(g:rG m a Ks)(e:Ls.length=Ks.length):Ls=Ks:=by
 apply Co λi=>?_;by_cases hi:i < Ls.length
 ·have e1:Ls[i]?=some Ls[i]:=cG hi;have e2:Ks[i]?=some (Ks[i]'(by lia)):=cG (by lia);obtain⟨p1,m1⟩:=h.at_ i _ e1;obtain⟨p2,m2⟩:=g.at_ i _ e2;rw[e1,e2,aG8 p1 p2 λs=>(m1 s).trans (m2 s).symm]
 ·rw[xc (by lia),xc (by lia)]
theorem qt.E7{Ls:List (ar)}{F:Nat->ae->Int}(h:qt κS H lt Ls F)(hh:bG H p)(k:bY p H H'):qt κS H' lt Ls F:=by
 obtain⟨ds,g,l,hd⟩:=h.ex;refine⟨ds,k _ _ g (gH hh g),l,λj d ps a b=>?_⟩;have z:H d=some (.dT (ps.map λx=>(jS x,V.int (F j x)))):=hd j d ps a b;exact k _ _ z λy=>by
  obtain⟨_,_,_,_,hp,_⟩:=hh.ex;rw[y,hp] at z;cases z
theorem aMI{H H':Hp}(h:bG H p)(r:RL (iK H) es rows)(kp:∀a o,H a=some o->a∉es->H' a=some o):bG H' p:=by
 obtain⟨d,c,q,ms,hp,hq,bj,oh⟩:=h.ex;have ro:∀e∈es,∃qs:ah,H e=some (.lst (qs.map V.ref)):=λe he=>by
  obtain⟨i,ei⟩:=pf he;have hi:i < rows.length:=by rw[<-r.len];exact(g0.mp ei).1
  obtain⟨qs,g2,_⟩:=r.at_ i e _ ei (cG hi);exact⟨qs,g2⟩
 refine⟨⟨d,c,q,ms,kp _ _ hp λz=>?_,kp _ _ hq λz=>?_,bj,oh⟩⟩
 ·obtain⟨qs,g⟩:=ro _ z;exact gH h g rfl
 ·obtain⟨qs,g⟩:=ro _ z;rw[hq] at g;injection g with g
  injection g with g
  cases ms with
  |nil=>exact bj rfl
  |cons n r=>
   cases qs with
   |nil=>cases g
   |cons q r=>cases g
theorem aOp{m:MS}(g:m.Good){a:ae}(h:fu m a)(ps:aa):(D9 m ps a).length=ps.length:=(aJh (aOk g h ps ps.length) (λ_ _=>aG9 _ _ _) ps.length 0 a (by lia) rfl).2
def ua(H:Hp)(l t:Addr)(rows:List (List WP)):Prop:=∃es:ah,H t=some (.lst (es.map V.ref))/\RL (iK H) es rows/\l∉es/\t≠l
theorem ua.qe(h:ua H l t rows):qm H t rows:=let ⟨es,a,b,_⟩:=h;⟨es,a,b⟩
theorem ua.same(h:ua H l t rows)(s:aO H H'):ua H' l t rows:=let ⟨es,a,b,c⟩:=h;⟨es,s _ _ a,b.imp λ_ _ z=>z.same s,c⟩
theorem ua.E7(h:ua H l t rows)(hh:bG H p)(k:bY p H H'):ua H' l t rows:=let ⟨es,a,b,c⟩:=h;⟨es,k _ _ a (gH hh a),uM b hh k,c⟩
theorem ua.aOJ(h:ua H l t rows)(g:H l=some (.lst xs))(k:bY l H H'):ua H' l t rows:=by
 obtain⟨es,a,b,c,d⟩:=h;refine⟨es,k _ _ a d,⟨b.len,λi e row h1 h2=>(b.at_ i e row h1 h2).Bb (λz=>c (by rw[<-z];exact iI h1)) g k⟩,c,d⟩
inductive Ff  (K:W.Frag) (t1 t2 t3:Addr) (vs:List V) (H:Hp) (Q:VK) (E:XK):Prop
 |mk:∀(a:Addr) (ns:aa),(vs=[.ref a])->(bR K H a (ns.map V.int))->(ns.length<=63)->(H t1=some (.gi cZ c8))->(H t2=some (.gi gY gZ))->(H t3=some (.gi jK jL))->(∀H',aO H H'->Q (.bl true) H')->Ff K t1 t2 t3 vs H Q E
theorem aQK(tx:Txt K mg a):cE P w K mg base hU 14 a.Jo a.Jn a7a (Ff K a.dE a.jJ a.lJ):=by
 have aF9:=aEw (P:=P) (w:=w) (base:=base) tx;have aT:=eR (P:=P) (w:=w) (base:=base) tx;have zR:=aDz (P:=P) (w:=w) (base:=base) tx;have aGa:=aEv (P:=P) (w:=w) (base:=base) tx;have aDY:=aCw (P:=P) (w:=w) (base:=base) tx;have aCo:=aFM (P:=P) (w:=w) (base:=base) tx;have aEx:=aDW (P:=P) (w:=w) (base:=base) tx;have aEy:=aDU (P:=P) (w:=w) (base:=base) tx;have lP:=aBa (P:=P) (w:=w) (base:=base) tx 6;have zS:=aDV (P:=P) (w:=w) (base:=base) tx;have aHi:=aFO (P:=P) (w:=w) (base:=base) tx;have aBr:=aEk (P:=P) (w:=w) (base:=base) tx;have zT:=aDS (P:=P) (w:=w) (base:=base) tx;have aDZ:=aCA (P:=P) (w:=w) (base:=base) tx;have aBs:=aEt (P:=P) (w:=w) (base:=base) tx;refine tx.aOF.ok eE (by walk_at "l") λbh A outer s H vs Q E hr h=>?_;obtain⟨ad,ns,rfl ,hS,hl,EH,Mq,gt3,k⟩:=h;have hu:=lT hr;refine bE (aE (aI (i:=1) eE.nd (ay aCo hr tx.v9 tx.qF.kp tx.v8 (aA (aB 0) (aA aD aC))))
  (aE (aI (i:=2) eE.nd (yC (ay zR hr tx.qW tx.kR.kp tx.qV (aA (aB 1) aC)) (ay zR hr tx.qW tx.kR.kp tx.qV (aA (aB 1) aC))))
  (aE (bU PassesOwn.never rfl (cN (by rfl) tx.eQ (aA (aH (oA rfl) (by rfl) tx.Ak DP (aA aD (aA (aH (P5 rfl) (by rfl) tx.zC zX (aA (aH (rc:=jR K) bS (by rfl) tx.eO dH (aA (aB 0) aC)) (aA aD aC))) aC))) aC)) (aM (i:=3) eE.nd) (aE (aI (i:=1) eE.nd (ay aCo hr tx.v9 tx.qF.kp tx.v8 (aA (aB 0) (aA (aB 3) aC))))
  (aE (aI (i:=4) eE.nd (ay aHi hr tx.aB2 tx.wC.kp tx.aB1 (aA (aB 1) (aA (aB 2) (aA (aJ (K':=K) (yC aD aD) (aK Pj (ay aT hr tx.bA tx.aX.kp tx.aZ (aA (aB 1) (aA aD aC))) aD)) aC)))))
  (aE (bD (aY (r:=iN K) (dR hu) (ay aT hr tx.bA tx.aX.kp tx.aZ (aA (aB 1) (aA aD aC))) aD (bN _)) (aG (yB (aK vC aD aD) (P4 (aB 4) (aK bX aD (ay aT hr tx.bA tx.aX.kp tx.aZ (aA (aB 1) (aA aD aC)))) set_list))) aU)
  (aE (aI (i:=5) eE.nd (ay aDY hr tx.wG tx.oQ.kp tx.wD (aA (aB 4) aC)))
  (aE (aI (i:=6) eE.nd (ay aBr hr tx.tM tx.nW.kp tx.tL (aA (aB 1) (aA (aB 4) aC))))
  (aE (aI (i:=7) eE.nd (ay aT hr tx.bA tx.aX.kp tx.aZ (aA (aB 1) (aA aD aC))))
  (aE (bD (gO (rM (aY (r:=iN K) (dR hu) (aB 3) aD (bN _)) (oF (aY (r:=iN K) (dR hu) (ay aT hr tx.bA tx.aX.kp tx.aZ (aA (aB 1) (aA aD aC))) aD (bN _))))) (aG (aI (i:=7) eE.nd (ay aT hr tx.bA tx.aX.kp tx.aZ (aA (aB 1) (aA aD aC))))) aU)
  (aE (aI (i:=8) eE.nd (ay aEy hr tx.y9 tx.rB.kp tx.y8 (aA (aB 1) (aA (aB 4) (aA (aB 2) (aA (aB 7) aC))))))
  (aE (aI (i:=9) eE.nd (ay zT hr tx.rA tx.kU.kp tx.qZ (aA (aB 4) (aA (aB 6) (aA (aB 8) aC)))))
  (aE (aI (i:=10) eE.nd (ay zS hr tx.rD tx.kW.kp tx.rC (aA (aB 9) aC)))
  (aE (aI (i:=11) eE.nd (ay aBr hr tx.tM tx.nW.kp tx.tL (aA (aB 1) (aA (aB 4) aC))))
  (aE (sJ (k:=1) (idx:=[]) (N:=["_law_price_here"]) (i:=12) eE.nd rfl (Or.inl rfl) (cU (sc:=aL Jp) (NX:=aaa) rfl rfl rfl (by decide +kernel)) rfl (bF (K':=K) (aB 8)) (λ_ _ _ _=>(aM (i:=0) (show(["_law_price_here"]:ak).Nodup by decide +kernel))) (cV (by decide)) (λ_ _ _ _=>bQ) (λ_ _ _ _=>aD))
  (aE (aI (i:=13) eE.nd (eW aC))
  (aE (bU PassesOwn.never rfl (cN (by rfl) tx.eQ (aA aD aC)) (aM (i:=14) eE.nd) (aE (aI (i:=15) eE.nd (fM (rc:=xZ K) sF (by rfl) tx.mB mN (aA (aB 8) aC)))
  (aE (aI (i:=16) eE.nd (ay aBs hr tx.tW tx.nX.kp tx.tV (aA (aB 5) (aA (aB 6) (aA (aB 15) aC)))))
  (aE (bD (gO (vL (eV (cK (ay lP hr tx.lN tx.iG.kp tx.lM (aA (aB 16) (aA (aB 10) aC))))) (rL (aY (r:=ve K) (zY hu) (aB 15) (aB 8) (bN _))))) (aG (aN dI)) aU)
  (aE (aI (i:=17) eE.nd (ay aGa hr tx.aAZ tx.tZ.kp tx.aAY (aA (aB 4) (aA (aB 6) (aA (aB 8) (aA (aB 9) aC))))))
  (aE (bD (eV (cK (ay lP hr tx.lN tx.iG.kp tx.lM (aA (ay aDZ hr tx.wW tx.oU.kp tx.wV (aA (aB 5) (aA (aB 6) (aA (aB 15) aC)))) (aA (dF (eM hu (aJ (K':=K) (aB 9) aD) (aB 6)) (aB 17)) aC))))) (aG (aN dI)) aU)
  (aE (aI (i:=18) eE.nd (aII (aB 6) (aB 8) (aB 10) (eM hu (aJ (K':=K) (aB 9) aD) (aB 6))))
  (aE (bD (gO (rM (aY (r:=iN K) (dR hu) (aB 14) aD (bN _)) (oF (eV (cK (ay aEx hr tx.zB tx.rE.kp tx.zA (aA (aB 1) (aA (aB 5) (aA (aB 18) aC))))))))) (aG (aN dI)) aU)
  (aE (bD (eV (cK (ay aF9 hr tx.aA1 tx.t9.kp tx.aA0 (aA (aB 16) (aA (aB 10) aC))))) (aG (aN dI)) aU)
  (aG (cW (dU (K':=K) (aB 13) (aA (ay aBs hr tx.tW tx.nX.kp tx.tV (aA (aB 5) (aA (aB 11) (aA (aB 12) aC)))) aC)))))))))))))
  (aE (aI (i:=19) eE.nd (ay zS hr tx.rD tx.kW.kp tx.rC (aA (ay zT hr tx.rA tx.kU.kp tx.qZ (aA (aB 4) (aA (aB 11) (aA (aB 12) aC)))) aC)))
  (aG (bD (eV (cK (ay lP hr tx.lN tx.iG.kp tx.lM (aA (aB 13) (aA (yC (aB 19) (aB 19)) aC))))) (aG (aN dI)) aU))))))))))))))))))
  (aG (aN dI))))) ?_
 have QB:Am (10 ^ (12:Int).toNat):=⟨by decide,by decide⟩
 refine aW (σ:=[some (.ref ad),none,none,none,none,none,none,none,none,none,none,none,none,none,none,none,none,none,none,none]) rfl ?_;walk_at "w";refine⟨ad,ns,_,rfl,hS,hl,by lia,λp0 H1 s1 np0 hh0=>?_⟩;walk_at "w";refine⟨p0,rfl,hh0,λx H2 x0 x1 h2 k2 _=>?_⟩;walk_at "w";refine⟨p0,rfl,h2,λy H3 y0 y1 h3 k3 _=>?_⟩;walk_at "w";intro b nb;obtain⟨H4,i4,s4,gb⟩:=nw _ nb;rw[i4];have S4:aO H H4:=(eA np0 s1 (k2.trans k3)).trans s4;walk_at "w";refine⟨by lia,by lia,?_⟩;refine iO (λi σ' H'=>aO H4 H'/\∃(z1 z3 z4 z5 z6 z7 z8 z9 kh kg C3 C2 yk yj yi yh yg AO:Option V),σ'=[some (.ref ad),z1,some (.ref b),z3,z4,z5,z6,z7,z8,z9,kh,kg,C3,C2,yk,yj,yi,yh,yg,AO]) ⟨aO.refl _,_,_,_,_,_,_,_,_,_,_,_,_,_,_,_,_,_,_,rfl⟩ (λi σ' H' hi GG=>?_) (λσ' H' GF=>?_)
 ·obtain⟨s0,z1,z3,z4,z5,z6,z7,z8,z9,kh,kg,C3,C2,yk,yj,yi,yh,yg,AO,e⟩:=GG;subst e;have S0:=S4.trans s0;walk_at "w";refine⟨ad,ns,_,rfl,aO.seq S0 hS,hl,by lia,λp H5 s5 np hh=>?_⟩;have ji:H4 p=none:=s0.free np;have S5:aO H4 H5:=s0.trans s5;have bp:b≠p:=bJ np (s0 _ _ gb);walk_at "w";intro l3 nl3;obtain⟨H6,i6,s6,g6⟩:=nw _ nl3;rw[i6];have l3p:l3≠p:=hh.IL nl3;walk_at "w";refine⟨p,_,rfl,hh.same s6,by decide,by decide,λr7 H7 a7 b7 h7 k7 _=>?_⟩;have g7:=k7 _ _ g6 l3p;obtain⟨n,hn,n0,n1⟩ : ∃n:Int,pC [V.int 3,.int 12] (r7 / 3)=some (.int n)/\1<=n/\n<=12:=by
   have:r7 / 3=0\/r7 / 3=1:=by lia
   rcases this with e|e <;> rw[e]
   ·exact⟨3,rfl,by decide,by decide⟩
   ·exact⟨12,rfl,by decide,by decide⟩
  have K7:bY p H5 H7:=s6.keep.trans k7;have gb7:H7 b=some (.lst [.int x,.int y]):=K7 _ _ (S5 _ _ gb) bp;walk_at "w";refine⟨p,b,x,y,n,rfl,h7,gb7,x0,x1,y0,y1,n0,n1,λs m0 H8 hs ip _ _ h8 k8 ns8=>?_⟩;have Ip:=k8 _ _ gb7 bp;have S8:aO H4 H8:=eA ji S5 (K7.trans k8);have ns4:H4 s=none:=by
   cases z:H4 s with
   |none=>rfl
   |some o=>rw[(eA ji S5 K7) _ _ z] at ns8;cases ns8
  repeat walk_at "st"
  refine sE (λσ' H'=>∃m:MS,σ'=[some (.ref ad),some (.ref p),some (.ref b),some (.int (0+(i:Int))),some (.ref s),z5,z6,z7,z8,z9,kh,kg,C3,C2,yk,yj,yi,yh,yg,AO]/\d9 H' s m/\m.Good/\bG H' p/\H' b=some (.lst [.int x,.int y])/\aO H4 H') (λN hN=>?_) ?_
  ·walk_at "w";refine⟨p,_,rfl,h8,by decide,by decide,λr md _ _ yy og _=>?_⟩;have xq:=hs.keep h8 og;have xv:=og _ _ Ip bp;have Kw:aO H4 md:=eA ji S8 og;walk_at "w";refine dA (λ_=>?_) (λ_=>?_)
   ·walk_at "w";refine⟨p,_,rfl,yy,by decide,by decide,λr' ue DQ NF ux qf _=>?_⟩;have qc:=xq.keep yy qf;have uh:=qf _ _ xv bp;have S11:aO H4 ue:=eA ji Kw qf;obtain⟨pl,hx,LQ⟩:=qc.ex;walk_at "w";have nb:b≠s:=λz=>by rw[z,hx] at uh;cases uh
    have fin:∀(jd:Hp) (m':MS),m'.Good->m'.pieces=m0.pieces->bY s ue jd->jd s=some (.lst [.int m'.up,.int m'.down,.int m'.begin_,.int m'.run,.int m'.rest,.int m'.least,.ref pl])->N [some (.ref ad),some (.ref p),some (.ref b),some (.int (0+(i:Int))),some (.ref s),z5,z6,z7,z8,z9,kh,kg,C3,C2,yk,yj,yi,yh,yg,AO] jd:=λjd m' gm em jm om=>
     hN _ _ ⟨m',rfl,⟨pl,om,by rw[em];exact LQ.aRJ qc jm⟩,gm,ux.aQJ qc jm,jm _ _ uh nb,λa o e=>jm _ _ (S11 _ _ e) (bJ ns4 e)⟩
    have h3:r'=0\/r'=1\/r'=2:=by lia
    rcases h3 with rfl|rfl|rfl
    ·refine xW (j:=2) hx rfl ?_;obtain⟨jd,i12,jm,om⟩:=wr ue s (.lst ([V.int m0.up,.int m0.down,.int m0.begin_,.int m0.run,.int m0.rest,.int m0.least,.ref pl].set 2 (.int (10 ^ (12:Int).toNat))));rw[i12];exact fin jd { m0 with begin_:=10 ^ (12:Int).toNat } ⟨ip.up,ip.down,QB,ip.run,ip.rest,ip.least,ip.pieces⟩ rfl jm om
    ·refine xW (j:=3) hx rfl ?_;obtain⟨jd,i12,jm,om⟩:=wr ue s (.lst ([V.int m0.up,.int m0.down,.int m0.begin_,.int m0.run,.int m0.rest,.int m0.least,.ref pl].set 3 (.int (10 ^ (12:Int).toNat))));rw[i12];exact fin jd { m0 with run:=10 ^ (12:Int).toNat } ⟨ip.up,ip.down,ip.begin_,QB,ip.rest,ip.least,ip.pieces⟩ rfl jm om
    ·refine xW (j:=4) hx rfl ?_;obtain⟨jd,i12,jm,om⟩:=wr ue s (.lst ([V.int m0.up,.int m0.down,.int m0.begin_,.int m0.run,.int m0.rest,.int m0.least,.ref pl].set 4 (.int (10 ^ (12:Int).toNat))));rw[i12];exact fin jd { m0 with rest:=10 ^ (12:Int).toNat } ⟨ip.up,ip.down,ip.begin_,ip.run,QB,ip.least,ip.pieces⟩ rfl jm om
   ·walk_at "w";exact hN _ _ ⟨m0,rfl,xq,ip,yy,xv,Kw⟩
  clear hs ip;rintro σ' H8 ⟨m,rfl,hs,hg,h8,Ip,S8⟩;walk_at "w";refine⟨s,m,rfl,hs,hg,λxm H9 hm s9 nxm=>?_⟩;have Df:=hs.same s9;have h9:=h8.same s9;walk_at "w";refine⟨p,s,m,rfl,h9,Df,hg,λt o d md ht bq yy og=>?_⟩;have xq:=Df.keep h9 og;have Gp:=hm.keep h9 og;have xv:md b=some (.lst [.int x,.int y]):=og _ _ (s9 _ _ Ip) bp;have Kw:aO H4 md:=eA ji (S8.trans s9) og;have AS:fu m (o,d):=bq;walk_at "w";refine⟨p,_,rfl,yy,by decide,by decide,λr11 ue DQ NF ux qf _=>?_⟩;obtain⟨n11,rfl⟩:=Qt DQ;repeat walk_at "st"
  refine sE (λσ' H'=>∃nh:Nat,nh<=48/\σ'=[some (.ref ad),some (.ref p),some (.ref b),some (.int (0+(i:Int))),some (.ref s),some (.ref xm),some (.ref t),some (.int (nh:Int)),z8,z9,kh,kg,C3,C2,yk,yj,yi,yh,yg,AO]/\bG H' p/\bY p md H') (λN hN=>?_) ?_
  ·walk_at "w";refine dA (λ_=>?_) (λ_=>?_)
   ·walk_at "w";refine⟨p,_,rfl,ux,by decide,by decide,λr12 jd a12 b12 EG jm _=>?_⟩;walk_at "w";refine dA (λ_=>?_) (λ_=>?_)
    ·walk_at "w";refine⟨p,_,rfl,EG,by decide,by decide,λr13 KC Qp b13 h13 Ej _=>?_⟩;obtain⟨n13,rfl⟩:=Qt Qp;walk_at "w";exact hN _ _ ⟨n13,by lia,rfl,h13,qf.trans (jm.trans Ej)⟩
    ·walk_at "w";exact hN _ _ ⟨n11,by lia,rfl,EG,qf.trans jm⟩
   ·walk_at "w";exact hN _ _ ⟨n11,by lia,rfl,ux,qf⟩
  clear ux qf;rintro σ' ue ⟨nh,hnh,rfl,ux,qf⟩;have qc:=xq.keep yy qf;have Gn:=Gp.keep yy qf;have uh:=qf _ _ xv bp;have CG:ue t=some (.tup [.int o,.int d]):=qf _ _ ht λz=>yy.qM _ (by rw[<-z];exact ht);walk_at "w";refine⟨p,s,b,m,x,y,nh,rfl,ux,qc,hg,uh,y0,y1,by lia,λq ps jd hq HF Ag nq EG jm=>?_⟩;have CI:=qc.keep ux jm;have Gm:=Gn.keep ux jm;have AB:jd t=some (.tup [.int o,.int d]):=jm _ _ CG λz=>ux.qM _ (by rw[<-z];exact CG);have S12:aO H4 jd:=eA ji Kw (qf.trans jm);have qp:q≠p:=ux.IL nq;walk_at "w";refine⟨s,m,t,(o,d),q,ps,rfl,CI,hg,AB,AS,hq,Ag,by lia,λlt Ls KC KY AV hR lL hD=>?_⟩;walk_at "w";refine⟨lt,m,ps,(o,d),Ls,rfl,hg,AS,hR,lL,by lia,hD,λdu QQ D8 ndu hdu=>?_⟩;have BI:=KY.trans D8;have B1:=EG.same BI;have CH:=CI.same BI;have Gk:=Gm.same BI;walk_at "w";refine⟨p,s,m,rfl,B1,CH,hg,λt2 o2 d2 FR LM WX Mp BR=>?_⟩;have uk:fu m (o2,d2):=WX;have Gh:=CH.keep B1 BR;have Gj:=Gk.keep B1 BR;have Gf:FR t=some (.tup [.int o,.int d]):=BR _ _ (BI _ _ AB) λz=>B1.qM _ (by rw[<-z];exact BI _ _ AB)
  have AE:=BR _ _ (BI _ _ hq) qp;have BB:qm FR du (yO m ps Ls):=hdu.qe.keep B1 BR;have S15:aO H4 FR:=eA ji (S12.trans BI) BR;walk_at "w";have ie:(ps.map λ_=>(0:Int)).length=ps.length:=bK _;refine fA (bR.of AE) ?_;refine cM (xs:=ps.map V.int) (λj us H'=>H'=FR/\us=((ps.map λ_=>(0:Int)).take j).map V.int) ⟨rfl,rfl⟩ (bZ (by rw[bK];lia))
   (λj us H' hj ⟨e0,e1⟩=>⟨by rw[e0];exact bR.of AE,by rw[e1,bK,xT];lia⟩) (λj v us H' hv GD=>?_) (λus H' GC=>?_)
  ·obtain⟨e0,e1⟩:=GD;subst e0;have hj:j < ps.length:=by have:=(g0.mp hv).1;rwa[bK] at this
   walk_at "w";refine⟨rfl,?_⟩;rw[e1,cL (show(ps.map λ_=>(0:Int))[j]?=some 0 by rw[hE,cG hj];rfl),iJ];rfl
  obtain⟨e0,e1⟩:=GC;subst e0 e1;rw[bK,As (by rw[ie];exact d7 _)];have abs:∀n∈ps.map (λ_=>(0:Int)),Am n:=λn hn=>by
   obtain⟨_,_,rfl⟩:=mD.mp hn;exact⟨by decide,by decide⟩
  generalize ps.map (λ_=>(0:Int))=bs at ie abs;intro lb nlb;obtain⟨vn,i16,zy,g16⟩:=nw _ nlb;rw[i16];have ng:=Mp.same zy;have Gg:=Gh.same zy;have AH:=Gj.same zy;have qb:=zy _ _ Gf;have rm:=zy _ _ LM;have AD:=zy _ _ AE;have sj:=BB.same zy;have Gu:qt κS vn lt Ls (λi=>wF (Wr m ps) (ps.length - i) i):=((hD.same D8).E7 B1 BR).same zy;have QF:aO H4 vn:=S15.trans zy;have lbp:lb≠p:=Mp.IL nlb;have Gd:∀row∈yO m ps Ls,row.length<=25:=λrow hr=>by
   obtain⟨i,ei⟩:=pf hr;exact((JR hR lL).yT hg AS ei).1
  have ltb:=uK m ps Ls;clear Mp Gh Gj Gf LM AE BB S15 B1 CH Gk CI Gm AB S12 qc Gn CG EG ux xq Gp Df h9 hs h8 Ip xv uh hq yy hdu hD;walk_at "w";intro lh nlh;obtain⟨H17,i17,s17,g17⟩:=nw _ nlh;rw[i17];walk_at "w";refine⟨by decide,by decide,?_⟩;refine iO (n:=2) (λj σ' H'=>∃(ts:ah) (yk yj yi yh yg:Option V),σ'=[some (.ref ad),some (.ref p),some (.ref b),some (.int (0+(i:Int))),some (.ref s),some (.ref xm),some (.ref t),some (.int (nh:Int)),some (.ref q),some (.ref lt),some (.ref du),some (.ref t2),some (.ref lb),some (.ref lh),yk,yj,yi,yh,yg,AO]/\bG H' p/\bY p vn H'/\H' lh=some (.lst (ts.map V.ref))/\ts.length=j/\∀t∈ts,∃Ks,rG m (o2,d2) Ks/\Ks.length=bs.length+1/\ua H' lh t (yO m bs Ks))
   ⟨[],_,_,_,_,_,rfl,ng.same s17,s17.keep,g17,rfl,(λ_ h=>by cases h)⟩ (λj σ' Ha hj GB=>?_) (λσ' Ha GA=>?_)
  ·obtain⟨ts,yk,yj,yi,yh,yg,e,ha,Ka,gl,Lx,HL⟩:=GB;subst e;walk_at "w";refine JW (bR.of (Ka _ _ AD qp)) ?_;intro lq nlq;obtain⟨Hb,ib,sb,gq⟩:=nw _ nlq;rw[ib];have Kb:bY p vn Hb:=Ka.trans sb.keep;have hb:=ha.same sb;have Sb:aO H Hb:=S4.trans (eA ji QF Kb);have ki:t≠p:=λz=>ng.qM _ (by rw[<-z];exact qb);have CF:t2≠p:=λz=>ng.qM _ (by rw[<-z];exact rm);walk_at "w";refine⟨xm,m,t,(o,d),lq,ps,rfl,Sb _ _ EH,AH.keep ng Kb,hg,Kb _ _ qb ki,AS,gq,Ag,by lia,λf Ls' Hc sc nf hR' lL' hF=>?_⟩;cases hR'.uniq hR (by rw[lL',lL]);have Kc:bY p vn Hc:=Kb.trans sc.keep;have Xc:=sj.keep ng Kc;walk_at "w";refine⟨_,_,rfl,uD.tb hF.qe Xc (by lia) (λrow hr=>by have:=Gd row hr;lia),λHd sd=>?_⟩;repeat walk_at "gs"
   have Kd:bY p vn Hd:=Kc.trans sd.keep;refine aIF (bR.of ((sc.trans sd) _ _ gq)) (bR.of (Kd _ _ AD qp)) ?_;rw[zV rfl];repeat walk_at "gs"
   refine⟨s,m,t,(o,d),q,ps,lt,Ls,rfl,Gg.keep ng Kd,hg,Kd _ _ qb ki,AS,Kd _ _ AD qp,Ag,by lia,hR,lL,Gu.E7 ng Kd,λr1 He se nr1 gr1=>?_⟩;have Ke:bY p vn He:=Kd.trans se.keep;have QC:aO Hb He:=sc.trans (sd.trans se);have She:aO H He:=Sb.trans QC;walk_at "w";refine⟨xm,m,t,(o,d),lq,ps,rfl,She _ _ EH,She _ _ Mq,AH.keep ng Ke,hg,Ke _ _ qb ki,AS,QC _ _ gq,Ag,by lia,λT r Hf sf nr gT gr=>?_⟩;have Kf:bY p vn Hf:=Ke.trans sf.keep;have hDf:=Gu.E7 ng Kf;obtain⟨ds,tm,uo,mx⟩:=hDf.ex;have Dq:Ls[0]?=some Ls[0]:=cG (by lia);have El:(o,d)∈Ls[0]:=((hR.at_ 0 _ Dq).2 (o,d)).mpr rfl;have ed:ds[0]?=some ds[0]:=cG (by lia);have d0:=mx 0 _ _ ed Dq;generalize ds[0]=dx at ed d0;rw[Cm] at d0;have ixd:pC (ds.map V.ref) 0=some (.ref dx):=cO (j:=0) (fQ ed);have gD0:=κS.get (v:=.ref t) (x:=(o,d)) d0 ⟨t,rfl,Kf _ _ qb ki⟩ El;walk_at "w";refine⟨dx,_,rfl,gD0,?_⟩;walk_at "w";intro Td nTd;obtain⟨Hg,ig,sg,gTd⟩:=nw _ nTd;rw[ig];have lr:=aOp hg AS ps
   walk_at "w";refine⟨_,_,rfl,uD.lpj (sg _ _ gT) gTd (sg _ _ gr) (sg _ _ (sf _ _ gr1)) (by lia),λHh sh=>?_⟩;have D7:=sg.trans sh;have Kh:bY p vn Hh:=Kf.trans D7.keep;have a0t:=D7 _ _ tm;repeat walk_at "gs"
   refine⟨dx,_,rfl,κS.get (v:=.ref t) (x:=(o,d)) (D7 _ _ d0) ⟨t,rfl,Kh _ _ qb ki⟩ El,?_⟩;walk_at "w";intro pp npp;obtain⟨Hi,ii,si,Ig⟩:=nw _ npp;rw[ii];have G9:aO Hb Hi:=QC.trans (sf.trans (D7.trans si));have Ki:bY p vn Hi:=Kb.trans G9.keep;have jw:=hb.same G9;obtain⟨es,gf,re,nd,fr⟩:=hF.ex;have KS:aO Hc Hi:=sd.trans (se.trans (sf.trans (D7.trans si)));repeat walk_at "st"
   refine sE (λσ' H'=>σ'=[some (.ref ad),some (.ref p),some (.ref b),some (.int (0+(i:Int))),some (.ref s),some (.ref xm),some (.ref t),some (.int (nh:Int)),some (.ref q),some (.ref lt),some (.ref du),some (.ref t2),some (.ref lb),some (.ref lh),some (.int (0+(j:Int))),some (.ref lq),some (.ref f),some (.ref r1),some (.ref pp),AO]/\bG H' p/\bY p Hi H') (λN hN=>?_) ?_
   ·walk_at "w";refine dA (λ_=>?_) (λ_=>?_)
    ·walk_at "w";refine⟨p,xm,pp,t,q,du,m,(o,d),ps,Ls,rfl,jw,(Sb.trans G9) _ _ gt3,AH.keep ng Ki,hg,Ig,Ki _ _ qb ki,AS,Ki _ _ AD qp,qp,Ag,by lia,hR,lL,sj.keep ng Ki,λHj wc kj=>?_⟩;repeat walk_at "gs"
     exact hN _ _ ⟨rfl,wc,kj⟩
    ·walk_at "w";exact hN _ _ ⟨rfl,jw,aO.keep (aO.refl _)⟩
   rintro σ' Hj ⟨rfl,wc,kj⟩;have Kj:bY p vn Hj:=Ki.trans kj;have Kbj:bY p Hb Hj:=G9.keep.trans kj;have Xb:=sj.keep ng Kj;obtain⟨B7,gdj,rdj⟩:=Xb.ex;have K1:RL (iK Hj) es (yO m ps Ls):=uM (re.imp λ_ _ z=>z.same KS) jw kj;have gfj:=kj _ _ (KS _ _ gf) (gH jw (KS _ _ gf));have old:∀e∈es,∀o,Hb e=some o->False:=λe he o z=>by rw[fr e he] at z;cases z
   obtain⟨CU,Mw,rdb⟩:=(sj.keep ng Kb).ex;have eqd:CU=B7:=by
    have:=Kbj _ _ Mw (gH hb Mw);rw[gdj] at this;injection this with this
    injection this with this
    exact((List.map_inj_right (λa b h=>by injection h)).mp this).symm
   subst eqd;have ap:∀e∈es,e∉CU/\e≠f/\e≠du:=λe he=>⟨λz=>by
    obtain⟨i,ei⟩:=pf z;have jv:i < (yO m ps Ls).length:=by rw[<-rdb.len];exact(g0.mp ei).1
    obtain⟨qs,g2,_⟩:=rdb.at_ i e _ ei (cG jv);exact old e he _ g2,aOo gfj K1 he,λz=>old e he _ ((congrArg Hb z).trans Mw)⟩
   walk_at "w";refine⟨f,du,es,CU,yO m ps Ls,rfl,gfj,K1,nd,gdj,rdj,ap,λz=>by rw[z] at ltb;simp at ltb;lia,by lia,Gd,λHk kp=>?_⟩;have hk:=aMI wc K1 kp;have QL:bY p Hb Hk:=λa o e n=>kp _ _ (Kbj _ _ e n) λz=>old a z _ e;have Kk:bY p vn Hk:=Kb.trans QL;have Ms:=QL _ _ (sb _ _ gl) (gH hb (sb _ _ gl));have Sk:aO H Hk:=S4.trans (eA ji QF Kk);repeat walk_at "gs"
   refine hV (bR.of Ms) ?_;walk_at "w";refine⟨xm,m,t2,(o2,d2),lb,bs,rfl,Sk _ _ EH,AH.keep ng Kk,hg,Kk _ _ rm CF,uk,Kk _ _ g16 lbp,abs,by lia,λf2 Ks Hl sl nf2 hK lK hF2=>?_⟩;have Ij:=sl _ _ Ms;walk_at "w";refine lU (xs:=ts.map V.ref) Ij (rT (by rw[bK];lia:(ts.map V.ref).length < 20000) (bZ (by decide))) ?_;obtain⟨Hm,im,km,gm⟩:=wr Hl lh _;rw[im];have lhk:∀a,Hk a=none->a≠lh:=λa n z=>by rw[z,Ms] at n;cases n
   obtain⟨es2,ge2,re2,_,fr2⟩:=hF2.ex;walk_at "w";refine⟨ts ++ [f2],_,_,_,_,_,rfl,(hk.same sl).Bb Ij km,λa o e n=>km _ _ (sl _ _ (Kk _ _ e n)) (bJ nlh e),by rw[gm,iJ];rfl,by rw[uN,Lx];rfl,λt' uq=>?_⟩;rcases iy.mp uq with z|z
   ·obtain⟨Ks',a1,a2,a3⟩:=HL t' z;exact⟨Ks',a1,a2,(((a3.same sb).E7 hb QL).same sl).aOJ Ij km⟩
   ·rw[ff.mp z];exact⟨Ks,hK,lK,ua.aOJ ⟨es2,ge2,re2,λy=>lhk lh (fr2 lh y) rfl,lhk f2 nf2⟩ Ij km⟩
  ·obtain⟨ts,yk,yj,yi,yh,yg,e,ha,Ka,gl,Lx,HL⟩:=GA;subst e;have CF:t2≠p:=λz=>ng.qM _ (by rw[<-z];exact rm);walk_at "w";refine⟨s,m,t2,(o2,d2),lb,bs,rfl,Gg.keep ng Ka,hg,Ka _ _ rm CF,uk,Ka _ _ g16 lbp,abs,by lia,λlw Ko Hb sb sv hK lK hDb=>?_⟩;walk_at "w";refine⟨lw,m,bs,(o2,d2),Ko,rfl,hg,uk,hK,lK,by lia,hDb,λot Hc sc not hot=>?_⟩;have sac:=sb.trans sc;walk_at "w";intro lz Li;obtain⟨Hd,id',sd,gz⟩:=nw _ Li;rw[id'];have KU:=sac.trans sd;have lko:=uK m bs Ko;have GR:∀row∈yO m bs Ko,row.length<=1000:=λrow hr=>by
    obtain⟨i,ei⟩:=pf hr;have:=((JR hK lK).yT hg uk ei).1;lia
   walk_at "w";refine⟨_,_,rfl,.inr (.inr (.inr (.inr ⟨lh,lz,_,_,rfl,rfl,.inr ⟨KU _ _ gl,gz⟩,by rw[bK,Lx];rfl,by simp,λi u v hu hv=>?_⟩))),λHe se=>?_⟩
   ·rw[hE] at hu;obtain⟨t',et,rfl⟩:=yQ.mp hu;obtain⟨Ks,a1,a2,a3⟩:=HL t' (iI et);cases a1.uniq hK (by rw[a2,lK]);have ev:v=.ref ot:=by
     match i,hv with
     |0,hv=>cases hv;rfl
     |1,hv=>cases hv;rfl
     |_+2,hv=>simp at hv
    rw[ev];exact uD.tb (j:=0) (a3.qe.same KU) (hot.qe.same sd) (by lia) GR
   repeat walk_at "gs"
   exact⟨eA ji QF (Ka.trans (KU.trans se).keep),_,_,_,_,_,_,_,_,_,_,_,_,_,_,_,_,_,_,rfl⟩
 ·obtain⟨s0,z1,z3,z4,z5,z6,z7,z8,z9,kh,kg,C3,C2,yk,yj,yi,yh,yg,AO,e⟩:=GF;subst e;walk_at "w";exact k H' (S4.trans s0)
local macro_rules | `(tactic| walk_at "b1") => `(tactic| (intro _ _ _ _ _ _ us hl; obtain ⟨_, e⟩ := ar1 us hl; subst e; rfl))
local macro_rules | `(tactic| walk_at "b2") => `(tactic| (intro _ _ _ _ _ _ us hl; obtain ⟨_, _, e⟩ := EX us hl; subst e; rfl))
local macro_rules | `(tactic| walk_at "b3") => `(tactic| (intro _ _ _ _ _ _ us hl; obtain ⟨_, _, _, e⟩ := ar3 us hl; subst e; rfl))
local macro_rules | `(tactic| walk_at "b4") => `(tactic| (intro _ _ _ _ _ _ us hl; obtain ⟨_, _, _, _, e⟩ := ar4 us hl; subst e; rfl))
local macro_rules | `(tactic| walk_at "b5") => `(tactic| (intro _ _ _ _ _ _ us hl; obtain ⟨_, _, _, _, _, e⟩ := ar5 us hl; subst e; rfl))
local macro_rules | `(tactic| walk_at "b8") => `(tactic| (intro _ _ _ _ _ _ us hl; obtain ⟨_, _, _, _, _, _, _, _, e⟩ := ar8 us hl; subst e; rfl))
def nZ(K:W.Frag)(f:Addr)(x q:Str)(st:Stmt)(oc:Value)(od:Option Addr)(kV dc pm:Value)(an:Option Addr)(cd ct:Value)(sl:Array (aq)):Prop:=K.lookup f=some ⟨oc,od,.func (W.fnOf x q (pD st) (j0 st) (aL st) .none kV dc pm an cd ct),sl⟩/\W.codeIn K cd q=true/\W.keepIn K (.ref f)=true
def aQ(K:W.Frag)(x:Str)(f:Addr):Prop:=W.nsIn K mainGlobals x=some (some (.ref f))
def cI{K:W.Frag}{f:Addr}{x q:Str}{st:Stmt}{oc:Value}{od:Option Addr}{kV dc pm:Value}{an:Option Addr}{cd ct:Value}{sl:Array (aq)}(l:nZ K f x q st oc od kV dc pm an cd ct sl):=Jx (st:=st) l.1 l.2.1 l.2.2
theorem all_mk{l:W.OpenLaw}{w:World}{K:W.Frag}{h:Heap}{mg:Str->aq}{fa:Addr}(X:K.In h)(G:h.Ns mainGlobals mg)(hfa:mg "law" = some (.ref fa))
  {C0 f0 f1 f2 f3 f4 f5 f6 f7 f8 f9 Nj Ni Nh Iw Ng Nf Nd Nc Nb Na M9 M8 M7 M6 M5 M4 M3 M0 MZ MY MX Iv Iu MW MV MU MT MR Ir MQ MP MO MN MM ML MK MJ MI MH f49:Addr} {od0 an0 od1 an1 od2 an2 od3 an3 od4 an4 od5 an5 od6 an6 od7 an7 od8 an8 od9 an9 Vp Z8 Vo Z7 Vn Z6 Vm Z5 Vl Z4 Vk Z3 Vj Z2 Vi Z1 Vh Z0 Vg ZZ Vf ZY Ve ZX Vd ZW Vc ZV Vb ZU Va ZT U9 ZR U8 ZQ U7 ZP U6 ZO U5 ZN U4 ZM U3 ZL U2 ZK U1 ZJ U0 ZI UZ ZH UY ZG UX ZF UW ZE UU ZD UT ZC US ZA UR Zz UQ Zy UP Zx UO Zw UN Zv UM Zu UL Zt:Option Addr} {sl0 sl1 D6 sl3 sl4 sl5 sl6 sl7 sl8 sl9 TR TQ TN TM TL TK TJ TF TC TB Tz Tx Tw Tv Tt Tq Tp Tn Tj Ti Tg Tf Te Tc Tb Ta S7 SY SX SW SV SU SR SQ SO SN SM SK SJ SI:Array (aq)} {oc0 kV0 dc0 Hv cd0 ct0 oc1 kV1 dc1 Hu cd1 ct1 oc2 kV2 dc2 pm2 cd2 ct2 oc3 kV3 dc3 pm3 cd3 ct3 oc4 kV4 dc4 pm4 cd4 ct4 oc5 kV5 dc5 pm5 cd5 ct5 oc6 kV6 dc6 pm6 cd6 ct6 oc7 kV7 dc7 pm7 cd7 ct7 oc8 kV8 dc8 pm8 cd8 ct8 oc9 kV9 dc9 pm9 cd9 ct9 V5 WQ X8 UK Zo YM V4 WO X7 UJ Zn YL V3 WN X6 UI Zm YK V2 WM X5 UH Zl YJ V1 WL X4 UG Zk YI V0 WK X3 UE Zj YH VZ WJ X2 UD Zi YG VY WI X1 UC Zh YF VX WH XZ UB Zg YE VW WG XY UA Zf YD VV WE XX Uz Ze YC VU WD XW Uy Zd YB VT WC XU Ux Zc YA VR WB XT Uw Zb Yz VQ WA XS Uv Za Yy VP Wz XR Uu Y9 Yx VO Wx XQ Ut Y8 Yw VN Ww XO Us Y7 Yv VM Wv XN Ur Y6 Yu VL Wu XM Uq Y5 Yt VJ Wt XJ Uo Y4 Ys VG Wo XG Uk Y3 Yp VF Wn XF Uj Y2 Yo VE Wm XE Ui Y1 Yn VD Wl XD Uh Y0 Ym VC Wk XC Ug YZ Yl VA Wi XA Ud YY Yj Vz Wh Xz Uc YX Yi Vy Wg Xy Ub YW Yh Vx Wf Xx Ua YV Yg Vw We Xw T9 YU Yf Vv Wd Xv T8 YT Ye Vu Wc Xu T7 YS Yd Vt Wb Xt T5 YR Yc Vs Wa Xs T3 YQ Yb Vr V9 Xr TZ YO Ya Vq V8 Xq TY YN X9:Value} {VI Ws XI Um Yr:Value} {xo qy:Addr} {GN:Option Addr} {Bx:Array Value} {GJ:Array (aq)} {VH Wq XH Ul Yq:Value} {xn qw:Addr} {GL:Option Addr} {Bw:Array Value} {GI:Array (aq)} {VB Wj XB Ue Yk:Value} {xk qv:Addr} {GK:Option Addr} {Bv:Array Value} {GH:Array (aq)} {fk:Tok} {iw:Tok}
  (aC0:W.nsIn K mainGlobals "Machine" = some (some (.ref C0)))
  (a0:aQ K "_law_open" f0)
  (l0:nZ K f0 "_law_open" "_law_open" pE oc0 od0 kV0 dc0 Hv an0 cd0 ct0 sl0)
  (a1:aQ K "_law_draw" f1)
  (l1:nZ K f1 "_law_draw" "_law_draw" vW oc1 od1 kV1 dc1 Hu an1 cd1 ct1 sl1)
  (a2:aQ K "_law_far" f2)
  (l2:nZ K f2 "_law_far" "_law_far" Qk oc2 od2 kV2 dc2 pm2 an2 cd2 ct2 D6)
  (a3:aQ K "_law_factor" f3)
  (l3:nZ K f3 "_law_factor" "_law_factor" qP oc3 od3 kV3 dc3 pm3 an3 cd3 ct3 sl3)
  (a4:aQ K "is_whole" f4)
  (l4:nZ K f4 "is_whole" "is_whole" Qj oc4 od4 kV4 dc4 pm4 an4 cd4 ct4 sl4)
  (a5:aQ K "is_amount" f5)
  (l5:nZ K f5 "is_amount" "is_amount" vX oc5 od5 kV5 dc5 pm5 an5 cd5 ct5 sl5)
  (a6:aQ K "is_span" f6)
  (l6:nZ K f6 "is_span" "is_span" P1 oc6 od6 kV6 dc6 pm6 an6 cd6 ct6 sl6)
  (a7:aQ K "is_piece" f7)
  (l7:nZ K f7 "is_piece" "is_piece" Qi oc7 od7 kV7 dc7 pm7 an7 cd7 ct7 sl7)
  (a8:aQ K "are_pieces" f8)
  (l8:nZ K f8 "are_pieces" "are_pieces" iS oc8 od8 kV8 dc8 pm8 an8 cd8 ct8 sl8)
  (a9:W.findIn K (.ref C0) "__init__" = some (some (.ref f9)))
  (i9:W.isFn K (.ref f9)=true)
  (l9:nZ K f9 "__init__" "Machine.__init__" oK oc9 od9 kV9 dc9 pm9 an9 cd9 ct9 sl9)
  (Fv:aQ K "_law_spec" Nj)
  (l10:nZ K Nj "_law_spec" "_law_spec" vY V5 Vp WQ X8 UK Z8 Zo YM TR)
  (DQ:aQ K "_law_machine" Ni)
  (l11:nZ K Ni "_law_machine" "_law_machine" oM V4 Vo WO X7 UJ Z7 Zn YL TQ)
  (a12:aQ K "_law_same" Nh)
  (l12:nZ K Nh "_law_same" "_law_same" pF V3 Vn WN X6 UI Z6 Zm YK TN)
  (Qp:W.findIn K (.ref C0) "gain" = some (some (.ref Iw)))
  (Em:W.isFn K (.ref Iw)=true)
  (l13:nZ K Iw "gain" "Machine.gain" oN V2 Vm WM X5 UH Z5 Zl YJ TM)
  (a14:aQ K "_law_gain" Ng)
  (l14:nZ K Ng "_law_gain" "_law_gain" pG V1 Vl WL X4 UG Z4 Zk YI TL)
  (a15:aQ K "may_be" Nf)
  (l15:nZ K Nf "may_be" "may_be" Pr V0 Vk WK X3 UE Z3 Zj YH TK)
  (a16:aQ K "state_after" Nd)
  (l16:nZ K Nd "state_after" "state_after" qQ VZ Vj WJ X2 UD Z2 Zi YG TJ)
  (a17:aQ K "_law_state" Nc)
  (l17:nZ K Nc "_law_state" "_law_state" sM VY Vi WI X1 UC Z1 Zh YF TF)
  (a18:aQ K "run_fault" Nb)
  (l18:nZ K Nb "run_fault" "run_fault" vZ VX Vh WH XZ UB Z0 Zg YE TC)
  (a19:aQ K "refuse_fault" Na)
  (l19:nZ K Na "refuse_fault" "refuse_fault" oO VW Vg WG XY UA ZZ Zf YD TB)
  (a20:aQ K "run_begins" M9)
  (l20:nZ K M9 "run_begins" "run_begins" sN VV Vf WE XX Uz ZY Ze YC Tz)
  (a21:aQ K "run_cost" M8)
  (l21:nZ K M8 "run_cost" "run_cost" Qh VU Ve WD XW Uy ZX Zd YB Tx)
  (a22:aQ K "least_of" M7)
  (l22:nZ K M7 "least_of" "least_of" sO VT Vd WC XU Ux ZW Zc YA Tw)
  (a23:aQ K "worths_ahead" M6)
  (l23:nZ K M6 "worths_ahead" "worths_ahead" oP VR Vc WB XT Uw ZV Zb Yz Tv)
  (a24:aQ K "worths_by_hour" M5)
  (l24:nZ K M5 "worths_by_hour" "worths_by_hour" jV VQ Vb WA XS Uv ZU Za Yy Tt)
  (a25:aQ K "first_best" M4)
  (l25:nZ K M4 "first_best" "first_best" mO VP Va Wz XR Uu ZT Y9 Yx Tq)
  (a26:aQ K "first_row" M3)
  (l26:nZ K M3 "first_row" "first_row" v3 VO U9 Wx XQ Ut ZR Y8 Yw Tp)
  (a27:aQ K "ways_one_on" M0)
  (l27:nZ K M0 "ways_one_on" "ways_one_on" qR VN U8 Ww XO Us ZQ Y7 Yv Tn)
  (a28:aQ K "states_by_hour" MZ)
  (l28:nZ K MZ "states_by_hour" "states_by_hour" jW VM U7 Wv XN Ur ZP Y6 Yu Tj)
  (a29:aQ K "next_hours" MY)
  (l29:nZ K MY "next_hours" "next_hours" mP VL U6 Wu XM Uq ZO Y5 Yt Ti)
  (a30:aQ K "hour_ways" MX)
  (l30:nZ K MX "hour_ways" "hour_ways" pH VJ U5 Wt XJ Uo ZN Y4 Ys Tg)
  (a31:aQ K "worths_of_states" Iv)
  (l31:K.lookup Iv=some ⟨VI,U4,.func (W.fnOf "worths_of_states" "worths_of_states" (pD cH) (j0 cH) (aL cH) .none Ws XI Um ZM (.ref xo) Yr),Tf⟩)
  (ND:W.codeIn K (.ref xo) "worths_of_states" = true)
  (a0m:K.lookup xo=some ⟨.type "code",GN,.fields Bx,GJ⟩)
  (a0i:(Bx[11]? : aq)=some (.ref qy))
  (FV:W.codeHdIn K xo qy=true)
  (k31:W.keepIn K (.ref Iv)=true)
  (a32:aQ K "cheapest_run" Iu)
  (l32:K.lookup Iu=some ⟨VH,U3,.func (W.fnOf "cheapest_run" "cheapest_run" (pD dJ) (j0 dJ) (aL dJ) .none Wq XH Ul ZL (.ref xn) Yq),Te⟩)
  (NC:W.codeIn K (.ref xn) "cheapest_run" = true)
  (a0l:K.lookup xn=some ⟨.type "code",GL,.fields Bw,GI⟩)
  (a0h:(Bw[11]? : aq)=some (.ref qw))
  (FU:W.codeHdIn K xn qw=true)
  (k32:W.keepIn K (.ref Iu)=true)
  (a33:aQ K "is_at_most" MW)
  (l33:nZ K MW "is_at_most" "is_at_most" mQ VG U2 Wo XG Uk ZK Y3 Yp Tc)
  (a34:aQ K "keeps_hour" MV)
  (l34:nZ K MV "keeps_hour" "keeps_hour" mR VF U1 Wn XF Uj ZJ Y2 Yo Tb)
  (a35:aQ K "shows_least" MU)
  (l35:nZ K MU "shows_least" "shows_least" dZ VE U0 Wm XE Ui ZI Y1 Yn Ta)
  (a36:aQ K "table_of" MT)
  (l36:nZ K MT "table_of" "table_of" sP VD UZ Wl XD Uh ZH Y0 Ym S7)
  (a37:aQ K "run_worths" MR)
  (l37:nZ K MR "run_worths" "run_worths" sQ VC UY Wk XC Ug ZG YZ Yl SY)
  (a38:aQ K "shows_run" Ir)
  (l38:K.lookup Ir=some ⟨VB,UX,.func (W.fnOf "shows_run" "shows_run" (pD fB) (j0 fB) (aL fB) .none Wj XB Ue ZF (.ref xk) Yk),SX⟩)
  (NB:W.codeIn K (.ref xk) "shows_run" = true)
  (a0k:K.lookup xk=some ⟨.type "code",GK,.fields Bv,GH⟩)
  (a0g:(Bv[11]? : aq)=some (.ref qv))
  (FT:W.codeHdIn K xk qv=true)
  (k38:W.keepIn K (.ref Ir)=true)
  (a39:aQ K "_law_price" MQ)
  (l39:nZ K MQ "_law_price" "_law_price" sR VA UW Wi XA Ud ZE YY Yj SW)
  (a40:aQ K "_law_after" MP)
  (l40:nZ K MP "_law_after" "_law_after" sS Vz UU Wh Xz Uc ZD YX Yi SV)
  (a41:aQ K "_law_hour" MO)
  (l41:nZ K MO "_law_hour" "_law_hour" v5 Vy UT Wg Xy Ub ZC YW Yh SU)
  (a42:aQ K "_law_reached" MN)
  (l42:nZ K MN "_law_reached" "_law_reached" iT Vx US Wf Xx Ua ZA YV Yg SR)
  (a43:aQ K "_law_worths" MM)
  (l43:nZ K MM "_law_worths" "_law_worths" qS Vw UR We Xw T9 Zz YU Yf SQ)
  (a44:aQ K "_law_first" ML)
  (l44:nZ K ML "_law_first" "_law_first" iU Vv UQ Wd Xv T8 Zy YT Ye SO)
  (a45:aQ K "_law_prices" MK)
  (l45:nZ K MK "_law_prices" "_law_prices" qT Vu UP Wc Xu T7 Zx YS Yd SN)
  (a46:aQ K "_law_sorted" MJ)
  (l46:nZ K MJ "_law_sorted" "_law_sorted" j8 Vt UO Wb Xt T5 Zw YR Yc SM)
  (a47:aQ K "_law_papers" MI)
  (l47:nZ K MI "_law_papers" "_law_papers" j9 Vs UN Wa Xs T3 Zv YQ Yb SK)
  (a48:aQ K "_law_apart" MH)
  (l48:nZ K MH "_law_apart" "_law_apart" iV Vr UM V9 Xr TZ Zu YO Ya SJ)
  (a49:aQ K "law" f49)
  (l49:nZ K f49 "law" "law" Jp Vq UL V8 Xq TY Zt YN X9 SI)
  (pg0:W.plainGet K C0 Str.empty=true)
  (tj:W.hasDictIn K C0=true)
  (po0:W.plainOver K C0=true)
  (sa0:W.findIn K (.ref C0) "__setattr__" = some (some (.builtin "object.__setattr__")))
  (mk0:W.makesIn K C0=true)
  (kc0:W.keepIn K (.ref C0)=true)
  (GQ:W.findIn K (.ref C0) "up" = some none)
  (AM:W.findIn K (.ref C0) "down" = some none)
  (yf:W.findIn K (.ref C0) "begin" = some none)
  (CY:W.findIn K (.ref C0) "run" = some none)
  (AL:W.findIn K (.ref C0) "rest" = some none)
  (ye:W.findIn K (.ref C0) "least" = some none)
  (uj:W.findIn K (.ref C0) "pieces" = some none)
  (Jm:W.nsIn K mainGlobals "abs" = some none)
  (Al:W.nsIn K mainGlobals "all" = some none)
  (Je:W.nsIn K mainGlobals "any" = some none)
  (xC:W.nsIn K mainGlobals "bool" = some none)
  (JC:W.nsIn K mainGlobals "dict" = some none)
  (iH:W.nsIn K mainGlobals "enumerate" = some none)
  (DI:W.nsIn K mainGlobals "int" = some none)
  (bL:W.nsIn K mainGlobals "isinstance" = some none)
  (eO:W.nsIn K mainGlobals "len" = some none)
  (mB:W.nsIn K mainGlobals "list" = some none)
  (Ak:W.nsIn K mainGlobals "max" = some none)
  (zC:W.nsIn K mainGlobals "min" = some none)
  (eQ:W.nsIn K mainGlobals "range" = some none)
  (uB:W.nsIn K mainGlobals "reversed" = some none)
  (Jd:W.nsIn K mainGlobals "set" = some none)
  (oZ:W.nsIn K mainGlobals "sorted" = some none)
  (Fd:W.nsIn K mainGlobals "str" = some none)
  (Jc:W.nsIn K mainGlobals "sum" = some none)
  (uC:W.nsIn K mainGlobals "tuple" = some none)
  (gX:W.nsIn K mainGlobals "LONGEST_STINT" = some (some (.int 12 fk)))
  (kX:W.nsIn K mainGlobals "MOST_PIECES" = some (some (.int 4 iw))) :
  (∃c,W.codeHdIn K c qy=true)/\(∃c,W.codeHdIn K c qw=true)/\(∃c,W.codeHdIn K c qv=true)/\∃fd:FuncData,(∀(s:Shared) (v:Value),BindsTo s fd ⟨[v],[]⟩ [("_law_script",v)])/\∀base:Heap,K.In base->base.Ns mainGlobals mg->cE l.prog w K mg base hU 14 fa fd a7a (Ff K qy qw qv):=by
 have e:=hfa.symm.trans (W.mg_of X G a49);cases e;have F0:=cI l0;have b0:=F0.binds (ps:=aXa) (by walk_at "b2");have F1:=cI l1;have b1:=F1.binds (ps:=a4a) (by walk_at "b2");have F2:=cI l2;have b2:=F2.binds (ps:=aZa) (by walk_at "b2");have F3:=cI l3;have b3:=F3.binds (ps:=bda) (by walk_at "b1");have F4:=cI l4;have b4:=F4.binds (ps:=aga) (by walk_at "b1");have F5:=cI l5;have b5:=F5.binds (ps:=aga) (by walk_at "b1");have F6:=cI l6;have b6:=F6.binds (ps:=aga) (by walk_at "b1");have F7:=cI l7;have b7:=F7.binds (ps:=aga) (by walk_at "b1");have F8:=cI l8;have b8:=F8.binds (ps:=aga) (by walk_at "b1");have F9:=cI l9;have b9:=F9.binds (ps:=aja) (by walk_at "b8");have F10:=cI l10;have b10:=F10.binds (ps:=aza) (by walk_at "b3");have F11:=cI l11;have NF:=F11.binds (ps:=a8a) (by walk_at "b1");have F12:=cI l12;have b12:=F12.binds (ps:=aEa) (by walk_at "b2");have F13:=cI l13;have b13:=F13.binds (ps:=bea) (by walk_at "b2")
 have F14:=cI l14;have b14:=F14.binds (ps:=aia) (by walk_at "b2");have F15:=cI l15;have b15:=F15.binds (ps:=afa) (by walk_at "b3");have F16:=cI l16;have b16:=F16.binds (ps:=afa) (by walk_at "b3");have F17:=cI l17;have b17:=F17.binds (ps:=axa) (by walk_at "b2");have F18:=cI l18;have b18:=F18.binds (ps:=fv) (by walk_at "b3");have F19:=cI l19;have b19:=F19.binds (ps:=fv) (by walk_at "b3");have F20:=cI l20;have b20:=F20.binds (ps:=fv) (by walk_at "b3");have F21:=cI l21;have b21:=F21.binds (ps:=fv) (by walk_at "b3");have F22:=cI l22;have b22:=F22.binds (ps:=aqa) (by walk_at "b2");have F23:=cI l23;have b23:=F23.binds (ps:=aIa) (by walk_at "b4");have F24:=cI l24;have b24:=F24.binds (ps:=baa) (by walk_at "b2");have F25:=cI l25;have b25:=F25.binds (ps:=aqa) (by walk_at "b2");have F26:=cI l26;have b26:=F26.binds (ps:=aWa) (by walk_at "b3");have F27:=cI l27;have b27:=F27.binds (ps:=bba) (by walk_at "b2")
 have F28:=cI l28;have b28:=F28.binds (ps:=aYa) (by walk_at "b3");have F29:=cI l29;have b29:=F29.binds (ps:=aTa) (by walk_at "b2");have F30:=cI l30;have b30:=F30.binds (ps:=ava) (by walk_at "b3");have F31:=Jx (st:=cH) l31 ND k31;have b31:=F31.binds (ps:=kf) (by walk_at "b3");have F32:=Jx (st:=dJ) l32 NC k32;have b32:=F32.binds (ps:=kf) (by walk_at "b3");have F33:=cI l33;have b33:=F33.binds (ps:=awa) (by walk_at "b3");have F34:=cI l34;have b34:=F34.binds (ps:=ala) (by walk_at "b4");have F35:=cI l35;have b35:=F35.binds (ps:=ata) (by walk_at "b5");have F36:=cI l36;have b36:=F36.binds (ps:=bfa) (by walk_at "b1");have F37:=cI l37;have b37:=F37.binds (ps:=kf) (by walk_at "b3");have F38:=Jx (st:=fB) l38 NB k38;have b38:=F38.binds (ps:=aca) (by walk_at "b5");have F39:=cI l39;have b39:=F39.binds (ps:=asa) (by walk_at "b3");have F40:=cI l40;have b40:=F40.binds (ps:=aha) (by walk_at "b3");have F41:=cI l41
 have b41:=F41.binds (ps:=ada) (by walk_at "b4");have F42:=cI l42;have b42:=F42.binds (ps:=apa) (by walk_at "b3");have F43:=cI l43;have b43:=F43.binds (ps:=ama) (by walk_at "b3");have F44:=cI l44;have b44:=F44.binds (ps:=aea) (by walk_at "b4");have F45:=cI l45;have b45:=F45.binds (ps:=ana) (by walk_at "b4");have F46:=cI l46;have b46:=F46.binds (ps:=a6a) (by walk_at "b1");have F47:=cI l47;have b47:=F47.binds (ps:=ara) (by walk_at "b3");have F48:=cI l48;have b48:=F48.binds (ps:=a5a) (by walk_at "b2");have F49:=cI l49;have b49:=F49.binds (ps:=a7a) (by walk_at "b1");have tx:Txt K mg { pJ:=f0,pK:=_,pM:=f1,pN:=_,sU:=f2,sV:=_,kA:=f3,kB:=_,sW:=f4,sX:=_,pO:=f5,pP:=_,yI:=f6,yJ:=_,sY:=f7,sZ:=_,mT:=f8,mU:=_,iX:=f9,iY:=_,pQ:=Nj,pR:=_,iZ:=Ni,i0:=_,pT:=Nh,pU:=_,jA:=Iw,jB:=_,pV:=Ng,pW:=_,JV:=Nf,JU:=_,kC:=Nd,kD:=_,mV:=Nc,mW:=_,pX:=Nb,pY:=_,jC:=Na,jD:=_,mX:=M9,mY:=_,tD:=M8,tE:=_,tF:=M7,tG:=_,jE:=M6,jF:=_,gA:=M5,gB:=_,mZ:=M4,nA:=_,pZ:=M3,p9:=_,kE:=M0,kG:=_,gC:=MZ,gE:=_,nB:=MY,nC:=_,qA:=MX,qB:=_,fF:=Iv,d8:=_,cb:=xo,dE:=qy,jG:=Iu,fT:=_,cy:=xn,jJ:=qw,nE:=MW,nF:=_,nG:=MV,nH:=_,kH:=MU,kI:=_,tH:=MT,tI:=_,nJ:=MR,nK:=_,qC:=Ir,lH:=_,fq:=xk,lJ:=qv,nM:=MQ,nO:=_,nP:=MP,nQ:=_,qD:=MO,qE:=_,jH:=MN,jI:=_,kJ:=MM,kK:=_,nR:=ML,nS:=_,kL:=MK,kM:=_,kN:=MJ,kO:=_,kP:=MI,kQ:=_,nU:=MH,nV:=_,Jo:=fa,Jn:=_,bH:=C0 }:={ qF:=F0,v8:=b0,v9:=W.mg_of X G a0,aX:=F1,aZ:=b1,bA:=W.mg_of X G a1,Qg:=F2,aDr:=b2,aDs:=W.mg_of X G a2,kR:=F3,qV:=b3,qW:=W.mg_of X G a3,tJ:=F4,Qf:=b4,Qe:=W.mg_of X G a4,fD:=F5,fU:=b5,fV:=W.mg_of X G a5,yK:=F6,P0:=b6,PZ:=W.mg_of X G a6,Qd:=F7,aDt:=b7,aDu:=W.mg_of X G a7,tK:=F8,aAM:=b8,aAN:=W.mg_of X G a8,wA:=F9,wB:=b9,wC:=F10,aB1:=b10,aB2:=W.mg_of X G Fv,oQ:=F11,wD:=NF,wG:=W.mg_of X G DQ,iG:=F12,lM:=b12,lN:=W.mg_of X G a12,wH:=F13,wI:=b13,wJ:=F14,aB3:=b14,aB4:=W.mg_of X G a14,rN:=F15,wK:=b15,wL:=W.mg_of X G a15,gP:=F16,kS:=b16,kT:=W.mg_of X G a16,nW:=F17,tL:=b17,tM:=W.mg_of X G a17,wM:=F18,aB5:=b18,aB6:=W.mg_of X G a18,oR:=F19,wN:=b19,wO:=W.mg_of X G a19,tN:=F20,aAO:=b20,aAP:=W.mg_of X G a20,Qc:=F21,aDv:=b21,aDw:=W.mg_of X G a21,tO:=F22,Qb:=b22,Qa:=W.mg_of X G a22,oS:=F23,wQ:=b23,wR:=W.mg_of X G a23,jX:=F24,rO:=b24,rP:=W.mg_of X G a24,tQ:=F25,aAQ:=b25,aAR:=W.mg_of X G a25,wU:=F26,aB7:=b26,aB8:=W.mg_of X G a26,qX:=F27,y3:=b27,y4:=W.mg_of X G a27,jY:=F28,rQ:=b28,rR:=W.mg_of X G a28,tR:=F29,aAS:=b29,aAT:=W.mg_of X G a29,lO:=F30,qG:=b30,qH:=W.mg_of X G a30,fG:=F31,iB:=b31,iD:=⟨rfl,FV⟩,iC:=W.mg_of X G a31,oU:=F32,wV:=b32,oY:=⟨rfl,FU⟩,wW:=W.mg_of X G a32,tT:=F33,aAU:=b33,aAV:=W.mg_of X G a33,tU:=F34,aAW:=b34,aAX:=W.mg_of X G a34,qY:=F35,y6:=b35,y7:=W.mg_of X G a35,P9:=F36,aDx:=b36,aDy:=W.mg_of X G a36,nX:=F37,tV:=b37,tW:=W.mg_of X G a37,qI:=F38,wX:=b38,xA:=⟨rfl,FT⟩,wY:=W.mg_of X G a38,nY:=F39,tX:=b39,tY:=W.mg_of X G a39,fH:=F40,gF:=b40,gG:=W.mg_of X G a40,qJ:=F41,wZ:=b41,w4:=W.mg_of X G a41,oV:=F42,w6:=b42,w9:=W.mg_of X G a42,kU:=F43,qZ:=b43,rA:=W.mg_of X G a43,tZ:=F44,aAY:=b44,aAZ:=W.mg_of X G a44,rB:=F45,y8:=b45,y9:=W.mg_of X G a45,kW:=F46,rC:=b46,rD:=W.mg_of X G a46,rE:=F47,zA:=b47,zB:=W.mg_of X G a47,t9:=F48,aA0:=b48,aA1:=W.mg_of X G a48,aOF:=F49,aRD:=b49,aRE:=W.mg_of X G a49,cY:=⟨pg0,tj,po0,sa0⟩,aE1:=W.mg_of X G aC0,aE2:=⟨mk0,a9,i9,kc0⟩,cx:=⟨Qp,Em,l13.2.2⟩,uA:=GQ,oW:=AM,lY:=yf,rF:=CY,oX:=AL,lZ:=ye,jZ:=uj,Jm:=W.mg_none_of X G Jm,Al:=W.mg_none_of X G Al,Je:=W.mg_none_of X G Je,xC:=W.mg_none_of X G xC,JC:=W.mg_none_of X G JC,iH:=W.mg_none_of X G iH,DI:=W.mg_none_of X G DI,bL:=W.mg_none_of X G bL,eO:=W.mg_none_of X G eO,mB:=W.mg_none_of X G mB,Ak:=W.mg_none_of X G Ak,zC:=W.mg_none_of X G zC,eQ:=W.mg_none_of X G eQ,uB:=W.mg_none_of X G uB,Jd:=W.mg_none_of X G Jd,oZ:=W.mg_none_of X G oZ,Fd:=W.mg_none_of X G Fd,Jc:=W.mg_none_of X G Jc,uC:=W.mg_none_of X G uC,gX:=⟨_,W.mg_of X G gX⟩,kX:=⟨_,W.mg_of X G kX⟩ }
 exact⟨⟨_,FV⟩,⟨_,FU⟩,⟨_,FT⟩,_,λs v=>.of_eq rfl,λbase _ _=>aQK tx⟩
theorem walk{l:W.OpenLaw}{q:Program}{loose:ak}{XP:(Str->aq)->Heap->Prop}{YP:World->Heap->Prop}{d:DefRec}{K:Params->W.Frag}{qy qw qv:Addr}(hn:l.most=some 63)(Ez:d.params.defaults=[])(hI:∀(w:World) (h:Heap),YP w h->(K w.params).In h)
  (F:∀(w:World) (mg:Str->aq) (fa:Addr) (h:Heap),(K w.params).In h->h.Ns mainGlobals mg->mg d.name=some (.ref fa)->
   (∃c,W.codeHdIn (K w.params) c qy=true)/\(∃c,W.codeHdIn (K w.params) c qw=true)/\(∃c,W.codeHdIn (K w.params) c qv=true)/\∃fd:FuncData,(∀(s:Shared) (u:Value),BindsTo s fd ⟨[u],[]⟩ [("_law_script",u)])/\∀base:Heap,(K w.params).In base->base.Ns mainGlobals mg->cE l.prog w (K w.params) mg base hU 14 fa fd a7a (Ff (K w.params) qy qw qv))
  (hN:decide ([qy,qw,qv]:ah).Nodup=true) (hY:∀(w:World) (h:Heap),YP w h->∀t∈([qy,qw,qv]:ah),h.get? t=some { cls:=.none,data:=.fields #[] })
  (hK:∀w:World,(K w.params).lookup qy=none/\(K w.params).lookup qw=none/\(K w.params).lookup qv=none) :
  W.WalkO q loose XP YP l.row.toRowW d [] (λf vs=>PySem.call f vs):=by
 refine L2.aLO (tabs:=[(qy,cZ,c8),(qw,gY,gZ),(qv,jK,jL)]) (n:=63) (k:=14) (x:="_law_script") (sp:=λw=>Ff (K w.params) qy qw qv) hn (by decide) Ez ⟨rfl,by decide,by decide⟩ (zj hN) (λw h Y=>⟨hI w h Y,λt ht=>hY w h Y t.1 ?_⟩) (λw t ht=>?_) (λw mg fa h x1 x2 x3=>?_) (λ_ _ a ns hl hT hS=>?_)
 ·simp only[lQ,FA,or_false] at ht;rcases ht with rfl|rfl|rfl <;> simp
 ·have hk:=hK w;simp only[lQ,FA,or_false] at ht;rcases ht with rfl|rfl|rfl
  ·exact hk.1
  ·exact hk.2.1
  ·exact hk.2.2
 ·obtain⟨ND,NC,NB,rest⟩:=F w mg fa h x1 x2 x3;refine⟨λt ht=>?_,rest⟩;simp only[lQ,FA,or_false] at ht;rcases ht with rfl|rfl|rfl
  ·exact ND
  ·exact NC
  ·exact NB
 ·exact⟨a,ns,rfl,hS,hl,hT (qy,cZ,c8) (by simp),hT (qw,gY,gZ) (by simp),hT (qv,jK,jL) (by simp),λH' s'=>⟨rfl,s'⟩⟩
end My
open PySem PySem.W PyProof.Rows
set_option maxRecDepth 100000 in
theorem PySem.Challenge.cw_stintwise_k44_worths_of_all_states_holds : PySem.Challenge.rw_stintwise_k44_worths_of_all_states.Holds := by
 w_on;o_law;k_head;(case hw=>w_witness2)
 k_fill
 refine' My.walk (l:=PySem.Challenge.rw_stintwise_k44_worths_of_all_states) rfl rfl (λw h Y=>PySem.W.km_in_of Y) ?F ?hN0 ?hY0 ?hK0
 case F=>
  intro w mg fa h KX G Et;refine' My.all_mk KX G Et ?_ ?_ ?_ ?_ ?_ ?_ ?_ ?_ ?_ ?_ ?_ ?_ ?_ ?_ ?_ ?_ ?_ ?_ ?_ ?_ ?_ ?_ ?_ ?_ ?_ ?_ ?_ ?_ ?_ ?_ ?_ ?_ ?_ ?_ ?_ ?_ ?_ ?_ ?_ ?_ ?_ ?_ ?_ ?_ ?_ ?_ ?_ ?_ ?_ ?_ ?_ ?_ ?_ ?_ ?_ ?_ ?_ ?_ ?_ ?_ ?_ ?_ ?_ ?_ ?_ ?_ ?_ ?_ ?_ ?_ ?_ ?_ ?_ ?_ ?_ ?_ ?_ ?_ ?_ ?_ ?_ ?_ ?_ ?_ ?_ ?_ ?_ ?_ ?_ ?_ ?_ ?_ ?_ ?_ ?_ ?_ ?_ ?_ ?_ ?_ ?_ ?_ ?_ ?_ ?_ ?_ ?_ ?_ ?_ ?_ ?_ ?_ ?_ ?_ ?_ ?_ ?_ ?_ ?_ ?_ ?_ ?_ ?_ ?_ ?_ ?_ ?_ ?_ ?_ ?_ ?_ ?_ ?_ ?_ ?_ ?_ ?_ ?_ ?_ ?_ ?_ ?_ ?_ ?_ ?_ ?_ ?_ ?_ ?_ ?_ ?_ ?_;any_goals first|k_is|(unfold My.aQ;k_is)|(unfold My.nZ;refine' ⟨?_,?_,?_⟩ <;> k_is)|exact rfl|kernel_rfl
 case hN0=>exact rfl
 case hY0=>exact λw h Y t ht=>PySem.W.km_tabs_of Y t (by revert t;decide)
 case hK0=>intro w;exact⟨by kernel_rfl,by kernel_rfl,by kernel_rfl⟩
