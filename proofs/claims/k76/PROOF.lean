import PyProof.Rows.All
import Wide.All
import OpenK.AllK
import Wide.FinOn
import Lean
import PyProof.EqAt
import PyProof.EqKinds
import PyProof.NeKinds
import PyProof.TupleCall
import KE.KDictSum
import KE.KSortTup
import KE.KLam
import KE.KNestM
import PyProof.DictItems
import PyProof.DictValues
import PyProof.Rows.TupDisplay
import KE.KItemsList
import KE.KDictOf
import PyProof.AttrMissHeap
import PySem.Challenge.RW_stintwise_k76_prices_climbed
set_option Elab.async false
set_option linter.all false
set_option maxRecDepth 100000
set_option compiler.extract_closed false
set_option genSizeOf false
structure PySem.W.Fast:Prop where(tw6541938073759256882 tw92343763735324487 tw15806972433344943498 tw14220028000414861508 tw13274616307016801122 tw930410455657041115 tw4325100156359466393 tw11334946963729074716 tw1316465194082224214 tw9406162659224929463 tw10933003746837207053 tw14865850713502541406 tw10873931965577520075 tw5926435156510025534 tw7813262956819437023 tw1700274840794322898 tw4912458285609290749 tw8576971859994564601 tw5308009016985979925 tw5336107106712630470 tw1495383227727716628 tw7390875734928017886 tw15776901529548081273 tw16763700097624993148 tw10550487878436675457 tw295390957305409979 tw10025414012136001957 tw9210116927385869710 tw13165472064556230086 tw10072274097364575315 tw2356442362966424838 tw7818903988814962374 tw14718211987989453871 tw8028761381292500259 tw15321305138546257933 tw9004283972252980476 tw5331597221718565785 tw6064648250202522136 tw2088161439441224860 tw3726622830419243926 tw9884268561080638982 tw16508733534758675883 tw11968572992760815452 tw7248618499127819549 tw13898454753469617964 tw11180515922408429851 tw15551977158293280446 tw8132547601599718354 tw11339227479273240386 tw17568606206213795322 tw12587309708746323453 tw7330712283078982961 tw13690309244377356727 tw18251075707815294279 tw1181310806149981797 tw1496128277116484631 tw12059513253217811105 tw18428908461211085357 tw6253615527827744609 tw11872726253463529479 tw5472577876993876363 tw13902996099578337346 tw16444146248695178511 tw196037699787468345 tw7835253128134509623 tw1286835946229030580 tw4296908943967367210 tw8107531707279346270 tw16718277999560935770 tw17083203034540675159 tw17000314848184096858 tw12336034604841513 tw1758926273159469953 tw5018160243296282777 tw6701238247586717965 tw18387795550137165175 tw12150135917366318637 tw180542233804068184 tw17477041359197389910 tw2285868284607850938 tw2433672273488404539 tw9029646171994689809 tw1682181343102006041 tw15540102587812707717 tw7722725301387097093 tw10667037057383087994 tw450784279317610386 tw2997494880992311900 tw1426059775229561921 tw17423482792653020568 tw9456196923416528808 tw3044940226150099491 tw16164013125518114149 tw5026624756024402279 tw3006547871923509367 tw9173828738882458482 tw14740804449519795498 tw6106344971748351000 tw15660006541950831970 tw13731947707695600917 tw17451982013929950441 tw5659749817491675347 tw7405348903141611067 tw6257454395815892146 tw7479165100657929682 tw1204875209081822396 tw8823407166700521216 tw5538938724286749473 tw17959750316011630392 tw16746775114230164470 tw15907644725653791108 tw4162894919463436907 tw15778806508596140375 tw9425576429659451389 tw4254808835847605467 tw11693705677309583828 tw12345785880734034642 tw4486505513104732293 tw2589543828826804325 tw9214634715468904912 tw1173242961492671822 tw16491947126788990145 tw926167977451410539 tw8073168340145114794 tw1782850396340068916 tw13611611343133111646 tw15982854423436234767 tw4654801930140991725 tw12071693017201877349 tw9687432568142692806 tw11031131363787480924 tw10514602002325413418 tw646262199135086652 tw3972339635423989369 tw18054917367054370410 tw17736444039458427632 tw3183603027524387201 tw5403206334720044613 tw13619103783116166878 tw15933455142987597916 tw15074073377453019321 tw4085873803779768469 tw7998110391962513301 tw13398007631505232392 tw8502662176477214318 tw5187725077512992094 tw1040659962622326113 tw10365076663407170265 tw6117150394534901671 tw7321341685329465964 tw12320969205151242023 tw469300578489582236 tw8133050069961880300 tw5167303550778726820 tw15535391243550266683 tw11297716345321835391 tw1686202723522919881 tw9249184728110662538 tw3282234352222766914 tw2316735872027971944 tw5799862074794870075 tw8847380874760074915 tw5321698523594994028 tw13974518443685542824 tw4497837794199611469 tw15380136156910361733 tw2746302498646207443 tw8297063113710065668 tw345636585741698720 tw32581171708019960 tw17201000581525919873 tw1463313002406237227 tw15545527777970369563 tw6958349317852425931 tw11375062620995704174 tw7524980149691654632 tw103326850846237531 tw2988683871021620826 tw8839002002334890657 tw17650816449591568346 tw15658433734986793926 tw1359605310871277879 tw12810985581104216519 tw18391448793844363311 tw5926756867148509213 tw17940419188298934992 tw16585326479590901374 tw16865516200563906175 tw14237791541878854822 tw17578591613622674129 tw10263623190848115106 tw13095849946267963849 tw16105167462770280114 tw9625081264097015884 tw4172733879553570185 tw13791360950307213653 tw16167595539548401103 tw14950726680167788835 tw1338006123869007449 tw11880693958537009106 tw10473424587807191063 tw2395419708558007635 tw12612182441992292117 tw6910657215081203194 tw921228754156230691 tw16416680723647864094 tw837691746631684191 tw4371380958104668081 tw2274982038121075114 tw13280372470519550385 tw6358930996848950769 tw9013642482984317039 tw3987764471040615764 tw2078346831843302193 tw15820317514202258579 tw4842254178527196830 tw15500290564760988442 tw17354108813868893484 tw1637068237827038205 tw17699776105615266867 tw8768823946395871760 tw8590484948184986163 tw1791829546429957535 tw6595804103255112207 tw12239816291563774308 tw15432294024757816597 tw13652279380078728286 tw14287884210408576736 tw2548752274505658212 tw16036046770575958963 tw16071862235755317769 tw4680539748892505876 tw6668094413958312490 tw13933469758208391376 tw5142653216037579685 tw7093594189569480940 tw955261473754498341 tw17685565996375245440 tw13521292855692421614 tw9499246361307798715 tw5825493597245662207 tw9404212973560111378 tw14044219671700500088 tw2572485996079297955 tw424538999395536095 tw98543594989980907 tw15037173871524992922 tw3028067482007021890 tw1661107593042200367 tw7810912090497008533 tw12107998134576860028 tw3907180465792629718 tw1803573467172089686 tw13286494028067988659 tw12600500738918973411 tw17410540998238390155 tw13677088978685923363 tw2745279567690796019 tw13641647982832127337 tw17116112229393783037 tw16591065790449482608 tw7956099034003312633 tw4090353313131917205 tw11403825130466884159 tw12760292730200477746 tw5000371989788545074 tw16245255907366881713 tw9672596439260652395 tw13165307464186678198 tw6426777383068519497 tw4433349368071411180 tw4289623567819280920 tw18094065599056390827 tw14289515142471717223 tw4711509910674083832 tw14557505591879157843 tw11432124746058334595 tw8982038020209280393 tw13900780166722904068 tw5793700212744775527 tw8352959424275572519 tw7104652475624959809 tw2400297916627982056 tw18352213612435089649 tw6876596593905650997 tw2186901737236605000 tw9729762681921263467 tw370280504796106258 tw488729786612263717 tw3419857598182136909 tw12396628729585777226 tw3469396528973154408 tw1099605639462949482 tw1482139390601119910 tw14439509477726076770 tw12937026001735315370 tw915366153207617565 tw1856645552419175269 tw13873423106064264802 tw9789311588844594889 tw2828010221402257330 tw4684269946765559425 tw2246640978769738103 tw17766147525229175860 tw3188773853799199981 tw16467909822680910747 tw12334911309753025850 tw10864471725429486284 tw9070734986408030005 tw18070876464126595182 tw15689928279116484915 tw14122375109325067888 tw13449286050217190452 tw294441278263200065 tw1477314149752902126 tw6532411189770896569 tw15126785614814282680 tw762316590475453147 tw6821772263702647645 tw12596658417031545341 tw17607222682368535212 tw1674327607047792846 tw3265330317912231679 tw15050754266984485048 tw980959440266233671 tw8252530289216294023:True)
set_option maxHeartbeats 0
def bO:=@List.length_map
def eQ:=@List.getElem?_eq_getElem
def fR:=@PySem.Heap.get?_push_of_some
def bM:=@PySem.wpAny_bind
def mT:=@List.getElem?_eq_some_iff
def jE:=@List.length_append
def kB:=@List.size_toArray
def eR:=@Nat.le_refl
def eE:=@PySem.wpAny_pure
def pM:=@List.mem_of_getElem?
def jF:=@List.map_append
def lB:=@List.getElem?_map
def qI:=@PySem.Heap.get?_push_size
def jQ:=@List.mem_map
def jX:=@PySem.Heap.lt_size
def uJ:=@Nat.lt_of_lt_of_le
def rA:=@List.take_length
def mw:=@Option.map_eq_some_iff
def md:=@List.mem_cons_of_mem
def cU:=@if_neg
def pN:=@List.mem_cons
def qi:=@List.getD_eq_getElem?_getD
def jy:=@List.mem_singleton
def lz:=@Bool.false_ne_true
def rq:=@List.getElem?_append_left
def yF:=@List.length_take
def ug:=@List.getElem?_append_right
def dO:=@if_pos
def rV:=@Nat.ne_of_lt
def pz:=@List.mem_cons_self
def yG:=@List.map_cons
def uf:=@List.mem_append_right
def nz:=@List.mem_append
def mv:=@decide_eq_true
def qh:=@List.length_cons
def ur:=@List.getElem?_of_mem
def mf:=@Nat.le_trans
def ud:=@of_decide_eq_true
def su:=@List.lookup_cons
def vb:=@PySem.wpAny_newObj_type
def rp:=@PySem.Heap.size_push
def uc:=@decide_eq_false
def ub:=@List.append_nil
def yu:=@Array.length_toList
def nv:=@Nat.zero_le
def uq:=@List.find?_cons
def A0:=@List.take_of_length_le
def wk:=@PySem.wpAny_call_entry
def va:=@List.nodup_cons
def AZ:=@List.length_singleton
def qg:=@List.map_map
def ua:=@Nat.lt_irrefl
def xp:=@Bool.and_eq_true
def xn:=@List.not_mem_nil
def zr:=@Int.toNat_natCast
def Bx:=@List.mem_append_left
def tw:=@Int.le_trans
def yt:=@List.mem_filter
def CJ:=@List.getElem?_eq_none
def sr:=@Int.le_refl
def Bw:=@PySem.wpAny_setField_rec
def AY:=@List.getElem_mem
def zp:=@List.mem_range
def uz:=@PySem.sizeLine_eq
def xl:=@Nat.ne_of_gt
def xk:=@List.map_nil
def uo:=@PySem.wpAny_mono
def CI:=@List.take_add_one
def Ie:=@List.drop_eq_getElem_cons
def Ic:=@List.mem_of_find?_eq_some
def MY:=@PySem.wpAny_typeNameOfWhole_itemiter
def yr:=@Nat.sub_self
def D9:=@Bool.false_eq_true
def Ib:=@Int.eq_ofNat_of_zero_le
def AX:=@List.sum_cons
def D8:=@Nat.lt_succ_of_lt
def F8:=@List.filterMap_cons
def F7:=@List.replicate_succ
def F5:=@List.map_eq_nil_iff
def D7:=@List.all_eq_true
def D6:=@List.any_eq_true
def D5:=@List.mem_flatMap
def Bu:=@PySem.wpAny_holding
def HZ:=@PySem.Heap.get?_update_self
def AW:=@Int.add_zero
def AV:=@Nat.zero_add
def MT:=@PySem.wpAny_typeNameOf_itemiter
def MR:=@List.getElem?_take_of_lt
def D4:=@List.length_set
def F3:=@List.append_assoc
def F2:=@PySem.wpAny_dictEntries
def HY:=@List.length_pos_iff
def F1:=@Nat.lt_succ_self
def F0:=@List.length_drop
def D3:=@Bool.false_and
def HX:=@Int.emod_lt_of_pos
def CH:=@Nat.le_of_lt
def FZ:=@PySem.wpAny_dictEpoch
def FY:=@Nat.min_eq_left
def CG:=@Int.zero_add
def D1:=@Bool.true_and
def HW:=@List.pairwise_map
def HV:=@List.flatMap_cons
def MQ:=@List.getElem?_set_ne
def MP:=@List.getElem_toArray
def RX:=@Array.getElem?_eq_getElem
def HU:=@List.drop_length
def HS:=@List.flatMap_nil
def CF:=@Int.mul_one
def MO:=@List.map_congr_left
def MN:=@List.getElem?_range
def MM:=@List.length_reverse
def ML:=@List.flatMap_append
def D0:=@Int.mul_zero
def RW:=@List.getElem?_replicate
def MK:=@List.length_nil
def RV:=@List.length_eq_zero_iff
def FX:=@PySem.wpAny_attempt
def HR:=@Int.emod_nonneg
def HQ:=@List.sum_append
def RU:=@List.getElem?_set_self
def RT:=@PySem.Heap.get?_update_other
def MI:=@List.flatten_cons
def MH:=@List.length_range
def MG:=@PySem.Heap.get?_push_ne
def HP:=@PySem.wpAny_setField
def HN:=@Int.mul_nonneg
def FW:=@Nat.le_of_eq
def RS:=@List.length_replicate
def RQ:=@Array.getElem?_toList
def MF:=@PySem.Heap.size_update
def ME:=@List.of_mem_zip
def HM:=@Nat.lt_trans
def HL:=@Nat.sub_zero
def HK:=@Int.mul_comm
abbrev ar:=List (PySem.Addr×PySem.Obj)
abbrev ay:=List (Int×Int)
abbrev cv:=List (List Int)
abbrev ah:=List PySem.Value
abbrev ae:=List Int
abbrev aj:=List PySem.Str
abbrev ao:=List PySem.Addr
abbrev aw:=Option PySem.Value
abbrev ak:=PySem.Value->PySem.Shared->Prop
abbrev au:=Int×Int
namespace L2
open PySem PySem.Spec PyProof.Rows
abbrev Key:=Sum Int Str
def DU:Key->Value->Bool
 |.inl k,v=>Value.isInt k v
 |.inr x,v=>Value.isStrOf x v
def aSw(w:World):Key->Int
 |.inl k=>hashInt k
 |.inr x=>hashStr w x
theorem eV:∀{k:Key}{v:Value},DU k v=true->(∃i t,k=Sum.inl i/\v=Value.int i t)\/(∃x t,k=Sum.inr x/\v=Value.str x t)
 |.inl i,v,h=>by
  obtain⟨t,e⟩:=Value.isInt_shape (k:=i) (v:=v) h;exact .inl ⟨i,t,rfl,e⟩
 |.inr x,v,h=>by
  obtain⟨t,e⟩:=Value.isStrOf_shape (x:=x) (v:=v) h;exact .inr ⟨x,t,rfl,e⟩
theorem aKi(i:Int)(t:Tok):DU (.inl i) (.int i t)=true:=by simp[DU,Value.isInt]
theorem aKj(x:Str)(t:Tok):DU (.inr x) (.str x t)=true:=by simp[DU,Value.isStrOf]
theorem aPB(a b:Int):decide ((Sum.inl a:Key)=Sum.inl b)=(a == b):=by
 by_cases e:a=b
 ·subst e;simp
 ·have h:¬(Sum.inl a:Key)=Sum.inl b:=λq=>e (Sum.inl.inj q);rw[uc h];exact(beq_eq_false_iff_ne.mpr e).symm
theorem aPC(a b:Str):decide ((Sum.inr a:Key)=Sum.inr b)=decide (a=b):=by
 by_cases e:a=b
 ·subst e;simp
 ·have h:¬(Sum.inr a:Key)=Sum.inr b:=λq=>e (Sum.inr.inj q);rw[uc h,uc e]
theorem aPD(a:Int)(b:Str):decide ((Sum.inl a:Key)=Sum.inr b)=false:=uc (λq=>nomatch q)
theorem aPE(a:Str)(b:Int):decide ((Sum.inr a:Key)=Sum.inl b)=false:=uc (λq=>nomatch q)
def fJ(prog:Program)(w:World):PySem.KeyKind prog w Key where
 is:=DU
 hash:=aSw w
 inj:=λv a b ha hb=>by
  rcases eV ha with ⟨i,t,rfl,rfl⟩|⟨x,t,rfl,rfl⟩
  ·rcases eV hb with ⟨j,u,rfl,e⟩|⟨y,u,rfl,e⟩
   ·injection e with e1 _;rw[e1]
   ·exact nomatch e
  ·rcases eV hb with ⟨j,u,rfl,e⟩|⟨y,u,rfl,e⟩
   ·exact nomatch e
   ·injection e with e1 _;rw[e1]
 byValue:=λk v h=>by
  rcases eV h with ⟨i,t,rfl,rfl⟩|⟨x,t,rfl,rfl⟩ <;> rfl
 pyHash:=λhv h=>by
  rcases eV hv with ⟨i,t,rfl,rfl⟩|⟨x,t,rfl,rfl⟩
  ·exact wpAny_pyHash_int h
  ·exact wpAny_pyHash_str h
 eqBool:=λhu hv h=>by
  rcases eV hu with ⟨i,t,rfl,rfl⟩|⟨x,t,rfl,rfl⟩
  ·rcases eV hv with ⟨j,u,rfl,rfl⟩|⟨y,u,rfl,rfl⟩
   ·rw[aPB] at h;exact wpAny_eqBool_int h
   ·rw[aPD] at h;exact SeqAt.EqAt.int_str i t y u _ _ _ _ h
  ·rcases eV hv with ⟨j,u,rfl,rfl⟩|⟨y,u,rfl,rfl⟩
   ·rw[aPE] at h;exact SeqAt.EqAt.str_int x t j u _ _ _ _ h
   ·rw[aPC] at h;exact wpAny_eqBool_str h
 «strs»:=λk x t v h=>by
  rcases eV h with ⟨i,u,rfl,e⟩|⟨y,u,rfl,e⟩
  ·exact nomatch e
  ·injection e with e1 _
   subst e1;cases v <;> rfl
theorem aHb(prog:Program)(w:World)(i:Int)(t:Tok):(fJ prog w).is (.inl i) (.int i t)=true:=aKi i t
theorem aHc(prog:Program)(w:World)(x:Str)(t:Tok):(fJ prog w).is (.inr x) (.str x t)=true:=aKj x t
inductive V where
 |br|bl (b:Bool)|int (i:Int)|str (x:Str)|Fi (b:Array UInt8)|rj (b:UInt64)|ref (a:Addr)|ty (n:String)
 deriving DecidableEq
def RelV:V->Value->Prop
 |.br,u=>u=Value.none
 |.bl b,u=>u=Value.bool b
 |.int i,u=>∃t,u=Value.int i t
 |.str x,u=>∃t,u=Value.str x t
 |.Fi b,u=>∃t,u=Value.bytes b t
 |.rj b,u=>∃t,u=Value.float b t
 |.ref a,u=>u=Value.ref a
 |.ty n,u=>u=Value.type n
abbrev Vals:List V->ah->Prop:=Paired RelV
theorem Vals.length{xs:List V}{us:ah}(r:Vals xs us):xs.length=us.length:=Paired.length r
theorem Vals.get:∀{xs:List V}{us:ah}{i:Nat}{x:V},Vals xs us->xs[i]?=some x->∃u,us[i]?=some u/\RelV x u
 |_,_,_,_,.nil,e=>by simp at e
 |_,_,0,_,.cons r _,e=>by simp at e;subst e;exact⟨_,rfl,r⟩
 |_,_,i+1,x,.cons _ t,e=>by
  obtain⟨u,h1,h2⟩:=Vals.get (i:=i) (x:=x) t (by simpa using e);exact⟨u,by simpa using h1,h2⟩
theorem Vals.set(r:RelV x u):∀{xs:List V}{us:ah}(i:Nat),Vals xs us->Vals (xs.set i x) (us.set i u)
 |_,_,_,.nil=>.nil
 |_,_,0,.cons _ t=>.cons r t
 |_,_,i+1,.cons q t=>.cons q (Vals.set r i t)
theorem Vals.append:∀{xs ys:List V}{us ws:ah},Vals xs us->Vals ys ws->Vals (xs++ys) (us++ws)
 |_,_,_,_,.nil,s=>s
 |_,_,_,_,.cons r t,s=>.cons r (Vals.append t s)
theorem Vals.take:∀{xs:List V}{us:ah}(n:Nat),Vals xs us->Vals (xs.take n) (us.take n)
 |_,_,0,_=>.nil
 |_,_,_+1,.nil=>.nil
 |_,_,n+1,.cons r t=>.cons r (Vals.take n t)
theorem Vals.drop:∀{xs:List V}{us:ah}(n:Nat),Vals xs us->Vals (xs.drop n) (us.drop n)
 |_,_,0,r=>r
 |_,_,_+1,.nil=>.nil
 |_,_,n+1,.cons _ t=>Vals.drop n t
def uK:Option V->aw->Prop
 |some v,some u=>RelV v u
 |none,none=>True
 |_,_=>False
def KV{κ:Type}:List (κ×V)->List (κ×Value)->Prop:=Paired λ(p:κ×V) (q:κ×Value)=>p.1=q.1/\RelV p.2 q.2
def kV:Key->V
 |.inl i=>.int i
 |.inr x=>.str x
inductive HO where
 |lst (xs:List V)
 |tup (xs:List V)
 |dK (kvs:List (Key×V))|dT (kvs:List (List Key×V))
 |set (S:Int->Bool) (n:Nat)
 |ins (C dx:Addr) (fs:List (Str×V))
 |own (x:Addr)
 |xd (fs:List (Str×V))
 |met (f x:Addr)
 |Au (lo hi:Int)
 |cx (o:Obj) (u:HO)
 |BX (ps:Array Value)
 |ext (φ:Heap->Prop)
 |yp (q:Str)|ig (pos:Pos) (q:Str)
def Sty:HO->Prop
 |.tup _=>True
 |.yp _=>True
 |_=>False
abbrev Hp:=Addr->Option HO
def upd(H:Hp)(a:Addr)(o:HO):Hp:=λb=>if b=a then some o else H b
theorem aP:upd H a o a=some o:=by unfold upd;rw[dO rfl]
theorem aV{H:Hp}(h:b≠a):upd H a o b=H b:=by unfold upd;rw[cU h]
theorem iZ:upd (upd H a o) a u=upd H a u:=by
 funext b;unfold upd;split <;> rfl
theorem ZC{H:Hp}{a b:Addr}{o u:HO}(h:H a=some o)(h':H b=some u)(d:o≠u):a≠b:=by
 intro e;subst e;rw[h] at h';exact d (Option.some.inj h')
theorem bQ{H:Hp}{a b:Addr}{o:HO}(h:H a=some o)(h':H b=none):a≠b:=by
 intro e;subst e;rw[h] at h';cases h'
section
variable(P:Program)(w:World)
def bW(H:Hp)(h:Heap)(a:Addr):HO->Prop
 |.lst xs=>xs.length<=sizeLine/\∃(its:ah) (n:Nat),Vals xs its/\h.get? a=some { cls:=.type "list",data:=.seq its.toArray n }
 |.tup xs=>xs.length<=sizeLine/\∃its:ah,Vals xs its/\IsTup h a its.toArray
 |.dK kvs=>kvs.length<=sizeLine/\(a == sysModules)=false/\∃vs,KV kvs vs/\h.DictOf (fJ P w) a vs
 |.dT kvs=>kvs.length<=sizeLine/\(a == sysModules)=false/\∃xs:List (List Key×Addr×Value),
   Paired (λ(p:List Key×V) (q:List Key×Addr×Value)=>p.1=q.1/\H q.2.1=some (.tup (p.1.map kV))/\RelV p.2 q.2.2) kvs xs/\
   ∃o es ep,h.get? a=some o/\o.ExactDict/\o.data=.dict es ep/\es.toList=xs.map (entryOfKey (tupleKind (fJ P w)))/\(xs.map (·.1)).Nodup
 |.set S n=>h.SetOf (intKind P w) a S n
 |.ins C dx fs=>H dx=some (.own a)/\fs.length<=1000/\dx≠a/\h.get? a=some (PySem.W.instObj C dx)/\
   ∃mA,h.Ns1 dx mA/\(∀f,uK (fs.lookup f) (mA f))/\PySem.Within mA (fs.map (·.1))
 |.own _=>∃o,h.get? a=some o
 |.xd fs=>∃mA,h.Ns1 a mA/\∀f,uK (fs.lookup f) (mA f)
 |.Au lo hi=>∃t u v,h.get? a=some { cls:=.type "range",data:=.fields #[.int lo t,.int hi u,.int 1 v] }
 |.cx o u=>h.get? a=some o/\bW H h a u
 |.BX ps=>h.get? a=some { cls:=.none,data:=.fields ps }
 |.met f x=>h.get? a=some (PySem.W.methodObj (.ref f) (.ref x))
 |.ext φ=>φ h/\(∃o,h.get? a=some o)/\∀h1 h2:Heap,φ h1->(∀o,h1.get? a=some o->h2.get? a=some o)->φ h2
 |.yp q=>∃o vs t,h.get? a=some o/\o.data=.fields vs/\vs[1]?=some (.str q t)
 |.ig pos q=>∃ps:Array Value,h.get? a=some { cls:=.none,data:=.fields ps }/\TriplesOk ps.toList/\(codeAmong pos ps.toList=none\/∃c,codeAmong pos ps.toList=some (.ref c)/\H c=some (.yp q))
def uL(H:Hp)(h:Heap):Prop:=∀a o,H a=some o->bW P w H h a o
end
section
variable{P:Program}{w:World}{H H':Hp}{h h':Heap}{a:Addr}{o:HO}
theorem bW.lt(x:bW P w H h a o):a < h.objs.size:=by
 cases o with
 |lst xs=>obtain⟨_,_,_,_,e⟩:=x;exact jX e
 |tup xs=>obtain⟨_,_,_,p⟩:=x;exact p.lt
 |dK kvs=>obtain⟨_,_,_,_,o,_,_,e,_⟩:=x;exact jX e
 |dT kvs=>obtain⟨_,_,_,_,o,_,_,e,_⟩:=x;exact jX e
 |set S n=>obtain⟨o,_,_,_,e,_⟩:=x;exact jX e
 |ins C dx fs=>obtain⟨_,_,_,e,_⟩:=x;exact jX e
 |own y=>obtain⟨_,e⟩:=x;exact jX e
 |xd fs=>obtain⟨_,⟨_,_,_,e,_⟩,_⟩:=x;exact jX e
 |Au lo hi=>obtain⟨_,_,_,e⟩:=x;exact jX e
 |cx ob u=>obtain⟨e,_⟩:=x;exact jX e
 |BX ps=>exact jX (show h.get? a=some _ from x)
 |met f y=>exact jX (show h.get? a=some _ from x)
 |ext φ=>obtain⟨_,⟨_,e⟩,_⟩:=x;exact jX e
 |yp q=>obtain⟨_,_,_,e,_⟩:=x;exact jX e
 |ig pos q=>obtain⟨_,e,_⟩:=x;exact jX e
theorem Paired.PJ{α β:Type}{F G:α->β->Prop}:∀{IH:List α}{IG:List β},Paired F IH IG->(∀a b,F a b->G a b)->Paired G IH IG
 |_,_,.nil,_=>.nil
 |_,_,.cons r t,f=>.cons (f _ _ r) (Paired.PJ t f)
theorem bW.oI(x:bW P w H h a o)(k:∀b u,(b=a\/H b=some (.own a))->h.get? b=some u->h'.get? b=some u)
  (ho:∀b,H b=some (.own a)->H' b=some (.own a)) (ht:∀b u,Sty u->H b=some u->H' b=some u):bW P w H' h' a o:=by
 induction o with
 |lst xs=>obtain⟨z,its,n,r,e⟩:=x;exact⟨z,its,n,r,k _ _ (.inl rfl) e⟩
 |tup xs=>obtain⟨z,its,r,ob,e,c⟩:=x;exact⟨z,its,r,ob,k _ _ (.inl rfl) e,c⟩
 |dK kvs=>obtain⟨z,y,vs,r,ob,es,ep,e,c⟩:=x;exact⟨z,y,vs,r,ob,es,ep,k _ _ (.inl rfl) e,c⟩
 |dT kvs=>
  obtain⟨z,y,xs,r,ob,es,ep,e,c⟩:=x;exact⟨z,y,xs,Paired.PJ r λp q z=>⟨z.1,ht _ _ trivial z.2.1,z.2.2⟩,ob,es,ep,k _ _ (.inl rfl) e,c⟩
 |set S n=>obtain⟨ob,es,ep,t,e,c⟩:=x;exact⟨ob,es,ep,t,k _ _ (.inl rfl) e,c⟩
 |ins C dx fs=>
  obtain⟨d,z,ne,e,mA,⟨od,es,ep,e2,c⟩,r⟩:=x;exact⟨ho _ d,z,ne,k _ _ (.inl rfl) e,mA,⟨od,es,ep,k _ _ (.inr d) e2,c⟩,r⟩
 |own y=>obtain⟨ob,e⟩:=x;exact⟨ob,k _ _ (.inl rfl) e⟩
 |xd fs=>obtain⟨mA,⟨od,es,ep,e,c⟩,r⟩:=x;exact⟨mA,⟨od,es,ep,k _ _ (.inl rfl) e,c⟩,r⟩
 |Au lo hi=>obtain⟨t,u,v,e⟩:=x;exact⟨t,u,v,k _ _ (.inl rfl) e⟩
 |cx ob u ih=>obtain⟨e,q⟩:=x;exact⟨k _ _ (.inl rfl) e,ih q⟩
 |BX ps=>
  have e:h.get? a=some { cls:=.none,data:=.fields ps }:=x;show h'.get? a=some { cls:=.none,data:=.fields ps };exact k a _ (.inl rfl) e
 |met f y=>
  have e:h.get? a=some (PySem.W.methodObj (.ref f) (.ref y)):=x;show h'.get? a=some (PySem.W.methodObj (.ref f) (.ref y));exact k a _ (.inl rfl) e
 |ext φ=>obtain⟨p,⟨o,e⟩,st⟩:=x;exact⟨st _ _ p λo q=>k _ _ (.inl rfl) q,⟨o,k _ _ (.inl rfl) e⟩,st⟩
 |yp q=>obtain⟨o,vs,t,e,r⟩:=x;exact⟨o,vs,t,k _ _ (.inl rfl) e,r⟩
 |ig pos q=>
  obtain⟨ps,e,t,c⟩:=x;refine⟨ps,k _ _ (.inl rfl) e,t,?_⟩;rcases c with c|⟨c,e1,e2⟩
  ·exact .inl c
  ·exact .inr ⟨c,e1,ht _ _ trivial e2⟩
theorem uL.lt(x:uL P w H h)(e:H a=some o):a < h.objs.size:=(x a o e).lt
theorem uL.fresh(x:uL P w H h)(e:h.objs.size<=a):H a=none:=by
 cases q:H a with
 |none=>rfl
 |some u=>exact absurd (uJ (x.lt q) e) (ua _)
theorem uL.kept(x:uL P w H h)(k:∀b u,h.get? b=some u->h'.get? b=some u):uL P w H h':=λa o e=>
 (x a o e).oI (λb u _ q=>k b u q) (λ_ q=>q) λ_ _ _ q=>q
theorem uL.laid(x:uL P w H h)(k:∀b u,h.get? b=some u->h'.get? b=some u)(hp:h.objs.size<=a)(new:bW P w (upd H a o) h' a o):uL P w (upd H a o) h':=λb u e=>by
 have hn:=x.fresh hp;by_cases hb:b=a
 ·subst hb;rw[aP] at e;cases e;exact new
 ·rw[aV hb] at e;exact(x b u e).oI (λc v _ q=>k c v q) (λc q=>by rw[aV (bQ q hn)];exact q) λc xs _ q=>by rw[aV (bQ q hn)];exact q
end
def Rd(H:Hp)(a:Addr)(u:HO):Prop:=H a=some u\/∃o,H a=some (.cx o u)
theorem Rd.of(h:H a=some u):Rd H a u:=.inl h
theorem Rd.ok(r:Rd H a u)(x:uL P w H h):bW P w H h a u:=by
 rcases r with r|⟨o,r⟩
 ·exact x a u r
 ·obtain⟨_,q⟩:=x a _ r;exact q
def Ii:Option HO->Prop
 |some (.lst _)=>True
 |some (.dK _)=>True
 |some (.dT _)=>True
 |some (.set _ _)=>True
 |some (.ins _ _ _)=>True
 |some (.ext _)=>True
 |_=>False
section
variable{P:Program}{w:World}{H:Hp}{h h':Heap}{x e:Addr}{o':HO}
theorem uL.write(ok:uL P w H h)(mu:Ii (H x))(he:e=x\/H e=some (.own x))(k:∀b u,b≠e->h.get? b=some u->h'.get? b=some u)(E5:∃u,h'.get? e=some u)
  (new:bW P w (upd H x o') h' x o'):uL P w (upd H x o') h':=λb u q=>by
 have IC:∀c y,H c=some (.own y)->c≠x:=λc y r z=>by subst z;rw[r] at mu;exact mu
 have Hf:∀c u,Sty u->H c=some u->c≠x:=λc u y r z=>by
  subst z;rw[r] at mu;cases u <;> first|exact mu|exact y
 by_cases hb:b=x
 ·subst hb;rw[aP] at q;cases q;exact new
 ·rw[aV hb] at q;by_cases AE:b=e
  ·have q':H b=some (.own x):=by
    rcases he with z|z
    ·exact absurd (AE.trans z) hb
    ·rw[AE];exact z
   rw[q] at q';cases q';obtain⟨v,hv⟩:=E5;exact⟨v,by rw[AE];exact hv⟩
  ·refine(ok b u q).oI (λc v hc r=>k c v ?_ r) (λc r=>by rw[aV (IC c b r)];exact r) λc xs y r=>by rw[aV (Hf c xs y r)];exact r
   rcases hc with rfl|hc
   ·exact AE
   ·rintro rfl;rcases he with z|z
    ·exact IC c b hc z
    ·rw[hc] at z;cases z;exact hb rfl
end
structure Un(fs ex:ao)(H H':Hp)(h h':Heap):Prop where
 keep:∀b o,h.get? b=some o->H b=none->b∉fs->b∉ex->h'.get? b=some o
 slot:∀b o,h.get? b=some o->H b=none->b∈fs->b∉ex->∃sl,h'.get? b=some { o with slots:=sl }
 free:∀b o,h.get? b=some o->H b=none->b∉ex->H' b=none
 there:∀b o,h.get? b=some o->b∉ex->∃o',h'.get? b=some o'
 rW:∀b xs,H b=some (.tup xs)->H' b=some (.tup xs)
 fk:∀b o u,H b=some (.cx o u)->H' b=some (.cx o u)
 jq:∀b ps,H b=some (.BX ps)->∃more,H' b=some (.BX (ps++more))
section
variable{fs fs' ex ex':ao}{H H1 H2:Hp}{h h1 h2 h':Heap}{a x e:Addr}{o:HO}
theorem Un.any(u:Un fs ex H H1 h h1)(q:h.get? b=some ob)(n:H b=none)(hx:b∉ex):∃sl,h1.get? b=some { ob with slots:=sl }:=by
 by_cases hb:b∈fs
 ·exact u.slot b ob q n hb hx
 ·exact⟨ob.slots,u.keep b ob q n hb hx⟩
theorem Un.trans(a:Un fs ex H H1 h h1)(b:Un fs ex H1 H2 h1 h2):Un fs ex H H2 h h2 where
 keep:=λc ob q n hc hx=>b.keep c ob (a.keep c ob q n hc hx) (a.free c ob q n hx) hc hx
 slot:=λc ob q n hc hx=>by
  obtain⟨sl,e1⟩:=a.slot c ob q n hc hx;obtain⟨Nj,e2⟩:=b.slot c _ e1 (a.free c ob q n hx) hc hx;exact⟨Nj,e2⟩
 free:=λc ob q n hx=>by
  obtain⟨o',e1⟩:=a.there c ob q hx;exact b.free c o' e1 (a.free c ob q n hx) hx
 there:=λc ob q hx=>by
  obtain⟨o',e1⟩:=a.there c ob q hx;exact b.there c o' e1 hx
 rW:=λc xs q=>b.rW c xs (a.rW c xs q)
 fk:=λc ob xs q=>b.fk c ob xs (a.fk c ob xs q)
 jq:=λc ps q=>by
  obtain⟨m1,e1⟩:=a.jq c ps q;obtain⟨m2,e2⟩:=b.jq c _ e1;exact⟨m1++m2,by rw[e2,Array.append_assoc]⟩
theorem Un.kept(k:∀b u,h.get? b=some u->h'.get? b=some u):Un fs ex H H h h':=
 ⟨λb ob q _ _ _=>k b ob q,λb ob q _ _ _=>⟨ob.slots,k b ob q⟩,λ_ _ _ n _=>n,λb ob q _=>⟨ob,k b ob q⟩,λ_ _ q=>q,λ_ _ _ q=>q,λ_ ps q=>⟨#[],by rw[q];simp⟩⟩
theorem Un.refl:Un fs ex H H h h:=Un.kept λ_ _ q=>q
theorem Un.laid(k:∀b u,h.get? b=some u->h'.get? b=some u)(hp:h.objs.size<=a)(hn:H a=none):Un fs ex H (upd H a o) h h' where
 keep:=λb u q _ _ _=>k b u q
 slot:=λb u q _ _ _=>⟨u.slots,k b u q⟩
 free:=λb u q n _=>by rw[aV (rV (uJ (jX q) hp))];exact n
 there:=λb u q _=>⟨u,k b u q⟩
 rW:=λb xs q=>by rw[aV (bQ q hn)];exact q
 fk:=λb u xs q=>by rw[aV (bQ q hn)];exact q
 jq:=λb ps q=>⟨#[],by rw[aV (bQ q hn),q];simp⟩
theorem Un.write(mu:Ii (H x))(he:e=x\/H e=some (.own x))(k:∀b u,b≠e->h.get? b=some u->h'.get? b=some u)(E5:∃u,h'.get? e=some u):Un fs ex H (upd H x o) h h':=by
 have hx:∀b,H b=none->b≠x:=λb n z=>by subst z;rw[n] at mu;exact mu
 have hb:∀b,H b=none->b≠e:=λb n z=>by
  subst z;rcases he with r|r
  ·exact hx b n r
  ·rw[n] at r;cases r
 have hm:∀b u,H b=some u->¬Ii (some u)->b≠x:=λb u q nm z=>by subst z;rw[q] at mu;exact nm mu
 refine⟨λb u q n _ _=>k b u (hb b n) q,λb u q n _ _=>⟨u.slots,k b u (hb b n) q⟩,λb u q n _=>by rw[aV (hx b n)];exact n,λb u q _=>?_,
  λb xs q=>by rw[aV (hm b _ q λz=>z)];exact q,λb u xs q=>by rw[aV (hm b _ q λz=>z)];exact q,λb ps q=>⟨#[],by rw[aV (hm b _ q λz=>z),q];simp⟩⟩
 by_cases AE:b=e
 ·subst AE;exact E5
 ·exact⟨u,k b u AE q⟩
end
def J6(h:Heap)(H:Hp):ao:=(List.range h.objs.size).filter λa=>(H a).isSome
def xW(h:Heap)(H:Hp):Heap:=PySem.W.hideAll h (J6 h H)
theorem aFu(h:Heap)(H:Hp):(xW h H).objs.size=h.objs.size:=PySem.W.hideAll_size _ _
theorem aHd{h:Heap}(e:h.get? b=some o)(n:H b=none):(xW h H).get? b=some o:=
 PySem.W.hideAll_get _ e λhm=>by
  have q:(H b).isSome=true:=(yt.mp hm).2;rw[n] at q;simp at q
theorem aJD{h:Heap}{H:Hp}(e:(xW h H).get? b=some o):h.get? b=some o/\H b=none:=by
 have e':h.get? b=some o:=PySem.W.of_hideAll (J6 h H) e;refine⟨e',?_⟩;cases q:H b with
 |none=>rfl
 |some x=>
  have hm:b∈J6 h H:=yt.mpr ⟨zp.mpr (jX e'),by simp[q]⟩;have z:(xW h H).get? b=none:=PySem.W.hideAll_none (J6 h H) hm;rw[z] at e;cases e
def aNy(g h:Heap)(L:Addr):ar:=(List.range h.objs.size).filterMap λa=>if a=L\/(g.get? a).isSome=true then none else (h.get? a).map λo=>(a,o)
def rest(g h:Heap)(L d:Addr):ar:=(aNy g h L).filter λp=>decide (p.1≠d)
structure Mod(K:W.Frag)(mg:Str->aw)(base:Heap):Prop where
 Dq:K.In base
 glob:base.Ns mainGlobals mg
 blt:∃mb,base.Ns builtinsNs mb/\∀x:Str,x≠"__name__"->mb x=bootBuiltins x
 nolimit:base.NoLimit
 bm:∃bm o,mg "__builtins__" = some (.ref bm)/\bm≠builtinsNs/\base.get? bm=some o/\o.cls=.type "module"/\o.dict=some builtinsNs/\o.data=.plain
structure Cx where
 prog:Program
 w:World
 K:W.Frag
 mg:Str->aw
 base:Heap
 A:Around
 N:aj
 dj:Shared
 ui:Hp
 env:Env
 outer:List Env
 stack:List Env
 ex:ao
 fn:Str->Bool
 calm:Bool
 pn:ar
 xe:ak
def nj(l:List Env):ao:=l.filterMap (·.frame)
abbrev Cx.fs(X:Cx):ao:=nj X.outer
def DZ(sc:Scope)(x:Str):Prop:=sc.names.lookup x=some .local\/sc.names.lookup x=some .cell\/sc.names.lookup x=some .free
def Loc(sc:Scope)(x:Str):Prop:=sc.names.lookup x=some .local\/sc.names.lookup x=some .cell
def Look(env:Env)(h:Heap)(m:Str->aw)(x:Str)(u:Value):Prop:=
 (env.kindOf x=some .local/\m x=some u)\/((env.kindOf x=some .cell\/env.kindOf x=some .free)/\∃c,env.cells.lookup x=some c/\h.IsCell c (some u))
structure Cx.Ok(X:Cx):Prop where
 mod:Mod X.K X.mg X.base
 kind:X.env.scope.kind=.function
 glob:X.env.globals=mainGlobals
 blt:X.env.builtins=builtinsNs
 above:X.dj.heap.objs.size<=X.env.locals
 inj:∀x y c,X.env.cells.lookup x=some c->X.env.cells.lookup y=some c->x=y
 has:∀x,(X.env.kindOf x=some .cell\/X.env.kindOf x=some .free)->∃c,X.env.cells.lookup x=some c
 Ck:∀x c,X.fn x=true->X.env.cells.lookup x=some c->X.dj.heap.objs.size<=c
 hd:X.calm=true->X.A.handled=none
 frames:X.A.frames=some X.stack
 B0:X.stack=X.outer\/(X.stack=X.env::X.outer/\X.env.frame=some X.env.locals)
 Ly:∀b∈X.ex,b≠X.env.locals/\∀x c,X.env.cells.lookup x=some c->c≠b
 bs:∀b o,X.base.get? b=some o->X.dj.heap.get? b=some o/\X.ui b=none
 zk:X.base.objs.size<=X.dj.heap.objs.size
 vh:∀b o,X.base.get? b=some o->b∉X.ex
 xy:∀b∈X.ex,b∉X.fs
 xX:X.dj.heap.FunFrames X.base X.outer
 AJ:∀b∈X.fs,X.ui b=none
structure Inv(X:Cx)(pins:ar)(U:List (Option V))(H:Hp)(s:Shared):Prop where
 ok:X.Ok
 os:s.os=X.dj.os
 bare:AllBare s.gens
 base:Un X.fs X.ex X.ui H X.dj.heap s.heap
 loc:∃m,s.heap.Ns X.env.locals m/\∀(i:Nat) (x:Str) (v:V),X.N[i]?=some x->U[i]?=some (some v)->DZ X.env.scope x->∃u,RelV v u/\Look X.env s.heap m x u
 cell:∀x c,X.env.cells.lookup x=some c->∃v,s.heap.IsCell c v
 free:H X.env.locals=none
 fe:∀x c,X.env.cells.lookup x=some c->H c=none
 pin:∀p∈X.pn++pins,s.heap.get? p.1=some p.2/\H p.1=none/\p.1≠X.env.locals/\p.1∉X.fs/\∀v,p.2.data≠.cell v
 bc:uL X.prog X.w H s.heap
 len:U.length=X.N.length
section
variable{X:Cx}{pins:ar}{U:List (Option V)}{H H':Hp}{s:Shared}{h':Heap}
theorem Cx.Ok.aSx(ok:X.Ok)(e:X.base.get? b=some o):b∉X.fs:=λhb=>by
 have:=(ok.xX.mem hb).1;rw[e] at this;cases this
theorem Inv.bs(I:Inv X pins U H s):∀b o,X.base.get? b=some o->s.heap.get? b=some o/\H b=none:=λb o e=>
 ⟨I.base.keep b o (I.ok.bs b o e).1 (I.ok.bs b o e).2 (I.ok.aSx e) (I.ok.vh b o e),I.base.free b o (I.ok.bs b o e).1 (I.ok.bs b o e).2 (I.ok.vh b o e)⟩
theorem Inv.bk(I:Inv X pins U H s):∀b o,X.base.get? b=some o->s.heap.get? b=some o:=λb o e=>(I.bs b o e).1
theorem Inv.mod(I:Inv X pins U H s):Mod X.K X.mg X.base:=I.ok.mod
theorem Inv.rX(I:Inv X pins U H s):X.K.In s.heap:=I.ok.mod.Dq.keeps I.bk
theorem Inv.lt(I:Inv X pins U H s):X.env.locals < s.heap.objs.size:=let ⟨_,hn,_⟩:=I.loc;hn.lt
theorem Inv.sz(I:Inv X pins U H s):X.dj.heap.objs.size<=s.heap.objs.size:=mf I.ok.above (CH I.lt)
theorem Inv.aSy(I:Inv X pins U H s)(h:s.heap.objs.size<=a):a∉X.fs:=λhb=>by
 obtain⟨_,o,ho,_⟩:=I.ok.xX.mem hb;exact absurd (uJ (jX ho) (mf I.sz h)) (ua _)
theorem Inv.Cj(I:Inv X pins U H s):∀x c,X.env.cells.lookup x=some c->c≠X.env.locals:=λx c e z=>by
 obtain⟨v,o,ho,hd⟩:=I.cell x c e;obtain⟨m,⟨o',es,ep,zd,E6,_⟩,_⟩:=I.loc;rw[z,zd] at ho;cases ho;rw[E6] at hd;cases hd
theorem Inv.xX(I:Inv X pins U H s):s.heap.FunFrames X.base X.outer:=by
 have all:∀(l:List Env),(∀b∈nj l,b∈X.fs)->X.dj.heap.FunFrames X.base l->s.heap.FunFrames X.base l:=by
  intro l;induction l with
  |nil=>intro _ _;trivial
  |cons env r ih=>
   intro hs hl;obtain⟨hk,⟨L,o,hf,hn,ho,hd⟩,hr⟩:=hl;have hL:L∈X.fs:=hs L (by unfold nj;rw[F8,hf];exact pz);obtain⟨sl,e⟩:=I.base.slot L o ho (I.ok.AJ L hL) hL λz=>I.ok.xy L z hL;exact⟨hk,⟨L,_,hf,hn,e,hd⟩,ih (λb hb=>hs b (by unfold nj;rw[F8,hf];exact md _ hb)) hr⟩
 exact all X.outer (λ_ hb=>hb) I.ok.xX
theorem Inv.stack(I:Inv X pins U H s):s.heap.FunFrames X.base X.stack:=by
 rcases I.ok.B0 with e|⟨e,hf⟩
 ·rw[e];exact I.xX
 ·rw[e];obtain⟨m,hn,_⟩:=I.loc;refine .cons (by rw[I.ok.kind];decide) hf hn ?_ I.xX;exact Heap.get?_none_of_le (mf I.ok.zk I.ok.above)
theorem Inv.Hu(I:Inv X pins U H s):∀b∈nj X.stack,b∈X.env.locals::X.fs:=λb hb=>by
 rcases I.ok.B0 with e|⟨e,hf⟩
 ·rw[e] at hb;exact md _ hb
 ·rw[e] at hb;unfold nj at hb;rw[F8,hf] at hb;exact hb
theorem Inv.Mw(I:Inv X pins U H s):∀b∈nj X.stack,H b=none:=λb hb=>by
 rcases pN.mp (I.Hu b hb) with e|hb
 ·rw[e];exact I.free
 ·obtain⟨_,o,ho,_⟩:=I.ok.xX.mem hb;exact I.base.free b o ho (I.ok.AJ b hb) λz=>I.ok.xy b z hb
theorem Inv.step{g':Array GenState}{t':Nat}{d':Drawn}{ch:ao}(I:Inv X pins U H s)
  (si:∀b∈ch,(b∈X.ex\/X.dj.heap.objs.size<=b)/\b≠X.env.locals/\(∀x c,X.env.cells.lookup x=some c->c≠b)/\∀p∈X.pn++pins,p.1≠b)
  (keep:∀b o,b≠X.env.locals->b∉X.fs->b∉ch->s.heap.get? b=some o->H b=none->h'.get? b=some o)
  (slot:∀b o,b≠X.env.locals->b∈X.fs->b∉ch->s.heap.get? b=some o->H b=none->∃sl,h'.get? b=some { o with slots:=sl }) (free:∀b o,b∉ch->s.heap.get? b=some o->H b=none->H' b=none)
  (there:∀b o,b∉ch->s.heap.get? b=some o->∃o',h'.get? b=some o')
  (rW:∀b xs,H b=some (.tup xs)->H' b=some (.tup xs)) (fk:∀b o u,H b=some (.cx o u)->H' b=some (.cx o u)) (jq:∀b ps,H b=some (.BX ps)->∃more,H' b=some (.BX (ps++more)))
  (ns:∀m,s.heap.Ns X.env.locals m->h'.Ns X.env.locals m) (bc:uL X.prog X.w H' h') (hg:AllBare g') :
  Inv X pins U H' { s with heap:=h',gens:=g',drawn:=d',toks:=t' }:=by
 have WR:∀b o,X.dj.heap.get? b=some o->b≠X.env.locals:=λb o e=>rV (uJ (jX e) I.ok.above);have Kp:∀b o,X.dj.heap.get? b=some o->b∉X.ex->b∉ch:=λb o e hx hb=>by
  rcases(si b hb).1 with z|z
  ·exact hx z
  ·exact absurd (uJ (jX e) z) (ua _)
 have cellK:∀x c,X.env.cells.lookup x=some c->∀v,s.heap.IsCell c v->h'.IsCell c v:=λx c e v ⟨o,ho,hd⟩=>by
  have Gy:c∉ch:=λz=>(si c z).2.2.1 x c e rfl;by_cases hc:c∈X.fs
  ·obtain⟨sl,q⟩:=slot c o (I.Cj x c e) hc Gy ho (I.fe x c e);exact⟨_,q,hd⟩
  ·exact⟨o,keep c o (I.Cj x c e) hc Gy ho (I.fe x c e),hd⟩
 refine⟨I.ok,I.os,hg,⟨λb o e n hb hx=>?_,λb o e n hb hx=>?_,λb o e n hx=>?_,λb o e hx=>?_,λb xs e=>rW b xs (I.base.rW b xs e),λb o xs e=>fk b o xs (I.base.fk b o xs e),λb ps e=>?_⟩,?_,λx c e=>?_,?_,λx c e=>?_,λp hp=>?_,bc,I.len⟩
 ·exact keep b o (WR b o e) hb (Kp b o e hx) (I.base.keep b o e n hb hx) (I.base.free b o e n hx)
 ·obtain⟨sl,e1⟩:=I.base.slot b o e n hb hx;obtain⟨Nj,e2⟩:=slot b _ (WR b o e) hb (Kp b o e hx) e1 (I.base.free b o e n hx);exact⟨Nj,e2⟩
 ·obtain⟨o',e1⟩:=I.base.there b o e hx;exact free b o' (Kp b o e hx) e1 (I.base.free b o e n hx)
 ·obtain⟨o',e1⟩:=I.base.there b o e hx;exact there b o' (Kp b o e hx) e1
 ·obtain⟨m1,e1⟩:=I.base.jq b ps e;obtain⟨m2,e2⟩:=jq b _ e1;exact⟨m1++m2,by rw[e2,Array.append_assoc]⟩
 ·obtain⟨m,hn,hl⟩:=I.loc;refine⟨m,ns m hn,λi x v e1 e2 e3=>?_⟩;obtain⟨u,r,l⟩:=hl i x v e1 e2 e3;refine⟨u,r,?_⟩;rcases l with l|⟨k,c,e,z⟩
  ·exact .inl l
  ·exact .inr ⟨k,c,e,cellK x c e _ z⟩
 ·obtain⟨v,z⟩:=I.cell x c e;exact⟨v,cellK x c e v z⟩
 ·obtain⟨m,⟨o,_,_,ho,_⟩,_⟩:=I.loc;exact free _ o (λz=>(si _ z).2.1 rfl) ho I.free
 ·obtain⟨v,o,ho,hd⟩:=I.cell x c e;exact free c o (λz=>(si c z).2.2.1 x c e rfl) ho (I.fe x c e)
 ·obtain⟨e,n,ne,nf,d⟩:=I.pin p hp;have Gy:p.1∉ch:=λz=>(si p.1 z).2.2.2 p hp rfl;exact⟨keep p.1 p.2 ne nf Gy e n,free p.1 p.2 Gy e n,ne,nf,d⟩
theorem Inv.un{t':Nat}(I:Inv X pins U H s)(u:Un X.fs [] H H' s.heap h')(bc:uL X.prog X.w H' h'):Inv X pins U H' { s with heap:=h',toks:=t' }:=by
 obtain⟨m,⟨o,es,ep,ho,r⟩,_⟩:=id I.loc;obtain⟨sl,hL⟩:=u.any ho I.free (by simp);exact I.step (g':=s.gens) (d':=s.drawn) (ch:=[]) (λ_ z=>nomatch z) (λb o _ hb _ e n=>u.keep b o e n hb (by simp)) (λb o _ hb _ e n=>u.slot b o e n hb (by simp)) (λb o _ e n=>u.free b o e n (by simp)) (λb o _ e=>u.there b o e (by simp)) u.rW u.fk u.jq (λm' hm=>by
  obtain⟨o',AK,Bk,zd,r'⟩:=hm;rw[ho] at zd;cases zd;exact⟨_,AK,Bk,hL,r'⟩) bc I.bare
theorem Inv.call{t':Nat}{d':Drawn}(I:Inv X pins U H s)(u:Un (nj X.stack) ch H H' s.heap h')(bc:uL X.prog X.w H' h')(hg:AllBare g')(si:∀b∈ch,(b∈X.ex\/X.dj.heap.objs.size<=b)/\b≠X.env.locals/\(∀x c,X.env.cells.lookup x=some c->c≠b)/\∀p∈X.pn++pins,p.1≠b) :
  Inv X pins U H' { s with heap:=h',gens:=g',drawn:=d',toks:=t' }:=by
 obtain⟨m,⟨o,es,ep,ho,r⟩,_⟩:=id I.loc;obtain⟨sl,hL⟩:=u.any ho I.free λz=>(si _ z).2.1 rfl;exact I.step (ch:=ch) si (λb o hL hb hc e n=>u.keep b o e n (λz=>(pN.mp (I.Hu b z)).elim hL hb) hc) (λb o _ _ hc e n=>u.any e n hc) (λb o hc e n=>u.free b o e n hc) (λb o hc e=>u.there b o e hc) u.rW u.fk u.jq (λm' hm=>by
  obtain⟨o',AK,Bk,zd,r'⟩:=hm;rw[ho] at zd;cases zd;exact⟨_,AK,Bk,hL,r'⟩) bc hg
theorem Inv.turned{t':Nat}{it:Addr}(I:Inv X pins U H s)(k:∀b o,b≠it->s.heap.get? b=some o->h'.get? b=some o)(hn:H it=none)(hL:it≠X.env.locals)
  (h1:it∈X.ex\/X.dj.heap.objs.size<=it) (h2:∀x c,X.env.cells.lookup x=some c->c≠it) (h3:∀p∈X.pn++pins,p.1≠it):Inv X pins U H { s with heap:=h',toks:=t' }:=by
 have B7:∀b u,H b=some u->b≠it:=λb u e z=>by rw[z,hn] at e;cases e
 refine I.step (g':=s.gens) (d':=s.drawn) (ch:=[it]) (λb hb=>?_) (λb o _ _ hc e _=>k b o (λz=>hc (by simp[z])) e) (λb o _ _ hc e _=>⟨o.slots,k b o (λz=>hc (by simp[z])) e⟩) (λ_ _ _ _ n=>n)
  (λb o hc e=>⟨o,k b o (λz=>hc (by simp[z])) e⟩) (λ_ _ e=>e) (λ_ _ _ e=>e) (λb ps e=>⟨#[],by rw[e];simp⟩) (λm hm=>?_) (λb u e=>?_) I.bare
 ·have e:b=it:=by simpa using hb
  subst e;exact⟨h1,hL,h2,h3⟩
 ·obtain⟨o,es,ep,ho,r⟩:=hm;exact⟨o,es,ep,k _ o (Ne.symm hL) ho,r⟩
 ·refine(I.bc b u e).oI (λc v hc q=>k c v ?_ q) (λ_ q=>q) λ_ _ _ q=>q;rcases hc with z|z
  ·rw[z];exact B7 b u e
  ·exact B7 c _ z
theorem Inv.tok(I:Inv X pins U H s)(t:Nat):Inv X pins U H { s with toks:=t }:=I.un (h':=s.heap) (t':=t) Un.refl I.bc
theorem Inv.kept{t':Nat}(I:Inv X pins U H s)(k:∀b u,s.heap.get? b=some u->h'.get? b=some u):Inv X pins U H { s with heap:=h',toks:=t' }:=I.un (Un.kept k) (I.bc.kept k)
theorem Inv.laid{t':Nat}(I:Inv X pins U H s)(k:∀b u,s.heap.get? b=some u->h'.get? b=some u)(hp:s.heap.objs.size<=a)(new:bW X.prog X.w (upd H a o) h' a o) :
  Inv X pins U (upd H a o) { s with heap:=h',toks:=t' }:=I.un (Un.laid k hp (I.bc.fresh hp)) (I.bc.laid k hp new)
theorem Inv.write{t':Nat}(I:Inv X pins U H s)(mu:Ii (H x))(he:e=x\/H e=some (.own x))(k:∀b u,b≠e->s.heap.get? b=some u->h'.get? b=some u)(E5:∃u,h'.get? e=some u)(new:bW X.prog X.w (upd H x o) h' x o):Inv X pins U (upd H x o) { s with heap:=h',toks:=t' }:=I.un (Un.write mu he k E5) (I.bc.write mu he k E5 new)
theorem Inv.weak{U':List (Option V)}(I:Inv X pins U H s)(hl:U'.length=U.length)(w:∀(i:Nat) v,U'[i]?=some (some v)->U[i]?=some (some v)):Inv X pins U' H s:=
 ⟨I.ok,I.os,I.bare,I.base,let ⟨m,hn,Ov⟩:=I.loc;⟨m,hn,λi x v e1 e2 e3=>Ov i x v e1 (w i v e2) e3⟩,I.cell,I.free,I.fe,I.pin,I.bc,hl.trans I.len⟩
theorem Inv.Mv(I:Inv X pins U H s)(h:∀p∈qu,s.heap.get? p.1=some p.2/\H p.1=none/\p.1≠X.env.locals/\p.1∉X.fs/\∀v,p.2.data≠.cell v):Inv X qu U H s:=
 ⟨I.ok,I.os,I.bare,I.base,I.loc,I.cell,I.free,I.fe,λp hp=>(nz.mp hp).elim (λz=>I.pin p (Bx _ z)) (h p),I.bc,I.len⟩
theorem aHe{N:aj}(hN:N.Nodup){i j:Nat}(a:N[i]?=some x)(b:N[j]?=some x):i=j:=by
 obtain⟨h1,e1⟩:=mT.mp a;obtain⟨h2,e2⟩:=mT.mp b;exact(List.getElem_inj hN).mp (e1.trans e2.symm)
theorem aFv{E:ak}{i:Nat}{Q:Unit->Shared->Prop}(I:Inv X pins U H s)(hN:X.N.Nodup)(hi:X.N[i]?=some x)(hx:Loc X.env.scope x)(r:RelV v u)(h:∀s',Inv X pins (U.set i (some v)) H s'->(∃a,Heap.SameBut a s.heap s'.heap/\(a=X.env.locals\/X.env.cells.lookup x=some a))->Q () s')(hf:X.fn x=true\/X.env.scope.names.lookup x=some .local:=by first|exact .inl rfl|exact .inr rfl|assumption):wpAny M A (storeName X.env x u) Q E s:=by
 obtain⟨m,hn,hl⟩:=id I.loc;have Vv:(X.env.scope.kind == .class || (X.env.scope.kind == .module && X.env.locals != X.env.globals))=false:=by rw[I.ok.kind];rfl
 have IS:i < U.length:=by rw[I.len];exact(mT.mp hi).1
 have Cj:=I.Cj;have tracked:∀{a:Addr} {h':Heap},(∃o,s.heap.get? a=some o/\H a=none)->Heap.SameBut a s.heap h'->uL X.prog X.w H h':=λ{a h'} ha hs b ob e=>by
  obtain⟨_,_,jl⟩:=ha;refine(I.bc b ob e).oI (λc w' hc q=>(hs.2 c ?_).trans q) (λ_ q=>q) λ_ _ _ q=>q;rintro rfl;rcases hc with rfl|hc
  ·rw[jl] at e;cases e
  ·rw[jl] at hc;cases hc
 rcases hx with hk|hk
 ·refine wpAny_storeName_local hk hn (λh' E3 hs=>?_) Vv;obtain⟨oL,_,_,hoL,_⟩:=id hn;refine h _ ⟨I.ok,I.os,I.bare,⟨λb o e n hb hx=>?_,λb o e n hb hx=>?_,I.base.free,λb o e hx=>?_,I.base.rW,I.base.fk,I.base.jq⟩,⟨_,E3,λj y v' e1 e2 e3=>?_⟩,λy c e=>?_,I.free,I.fe,λp hp=>?_,tracked ⟨oL,hoL,I.free⟩ hs,by simpa using I.len⟩ ⟨_,hs,.inl rfl⟩
  ·exact(hs.2 b (rV (uJ (jX e) I.ok.above))).trans (I.base.keep b o e n hb hx)
  ·obtain⟨sl,e1⟩:=I.base.slot b o e n hb hx;exact⟨sl,(hs.2 b (rV (uJ (jX e) I.ok.above))).trans e1⟩
  ·obtain⟨o',e1⟩:=I.base.there b o e hx;exact⟨o',(hs.2 b (rV (uJ (jX e) I.ok.above))).trans e1⟩
  ·by_cases hj:j=i
   ·subst hj;rw[hi] at e1;cases e1;rw[RU IS] at e2;cases e2;exact⟨u,r,.inl ⟨hk,by simp⟩⟩
   ·rw[MQ (Ne.symm hj)] at e2;obtain⟨u',r',q⟩:=hl j y v' e1 e2 e3;refine⟨u',r',?_⟩;rcases q with ⟨k,e⟩|⟨k,c,e,z⟩
    ·refine .inl ⟨k,?_⟩;have:y≠x:=λe=>hj (aHe hN e1 (e▸hi));simp[this,e]
    ·exact .inr ⟨k,c,e,z.sameBut hs (Cj y c e)⟩
  ·obtain⟨w',z⟩:=I.cell y c e;exact⟨w',z.sameBut hs (Cj y c e)⟩
  ·obtain⟨e,n,ne,nf,d⟩:=I.pin p hp;exact⟨(hs.2 p.1 ne).trans e,n,ne,nf,d⟩
 ·have ze:X.fn x=true:=by
   rcases hf with z|z
   ·exact z
   ·rw[z] at hk;cases hk
  obtain⟨c,hc⟩:=I.ok.has x (.inl hk);obtain⟨w',z⟩:=I.cell x c hc;refine wpAny_storeName_cell I.ok.kind hk hc z (λh' DC hs=>?_);obtain⟨oc,Xq,Vm⟩:=id z;refine h { s with heap:=h' } ⟨I.ok,I.os,I.bare,⟨λb o e n hb hx=>?_,λb o e n hb hx=>?_,I.base.free,λb o e hx=>?_,I.base.rW,I.base.fk,I.base.jq⟩,⟨m,hn.sameBut hs (Ne.symm (Cj x c hc)),λj y v' e1 e2 e3=>?_⟩,λy c' e=>?_,I.free,I.fe,λp hp=>?_,tracked ⟨oc,Xq,I.fe x c hc⟩ hs,by simpa using I.len⟩ ⟨c,hs,.inr hc⟩
  ·exact(hs.2 b (rV (uJ (jX e) (I.ok.Ck x c ze hc)))).trans (I.base.keep b o e n hb hx)
  ·obtain⟨sl,e1⟩:=I.base.slot b o e n hb hx;exact⟨sl,(hs.2 b (rV (uJ (jX e) (I.ok.Ck x c ze hc)))).trans e1⟩
  ·obtain⟨o',e1⟩:=I.base.there b o e hx;exact⟨o',(hs.2 b (rV (uJ (jX e) (I.ok.Ck x c ze hc)))).trans e1⟩
  ·by_cases hj:j=i
   ·subst hj;rw[hi] at e1;cases e1;rw[RU IS] at e2;cases e2;exact⟨u,r,.inr ⟨.inl hk,c,hc,DC⟩⟩
   ·rw[MQ (Ne.symm hj)] at e2;obtain⟨u',r',q⟩:=hl j y v' e1 e2 e3;refine⟨u',r',?_⟩;rcases q with q|⟨k,c',e,z'⟩
    ·exact .inl q
    ·refine .inr ⟨k,c',e,z'.sameBut hs ?_⟩;rintro rfl;exact hj (aHe hN e1 (I.ok.inj _ _ _ e hc▸hi))
  ·by_cases XA:c'=c
   ·subst XA;exact⟨_,DC⟩
   ·obtain⟨w2,z2⟩:=I.cell y c' e;exact⟨w2,z2.sameBut hs XA⟩
  ·obtain⟨e,n,ne,nf,d⟩:=I.pin p hp;refine⟨(hs.2 p.1 ?_).trans e,n,ne,nf,d⟩;intro q;rw[q,Xq] at e;have q':oc=p.2:=Option.some.inj e;exact d w' (by rw[<-q'];exact Vm)
theorem uP{E:ak}{i:Nat}{Q:Unit->Shared->Prop}(I:Inv X pins U H s)(hN:X.N.Nodup)(hi:X.N[i]?=some x)(hx:Loc X.env.scope x)(r:RelV v u)(h:∀s',Inv X pins (U.set i (some v)) H s'->Q () s')(hf:X.fn x=true\/X.env.scope.names.lookup x=some .local:=by first|exact .inl rfl|exact .inr rfl|assumption):wpAny M A (storeName X.env x u) Q E s:=
 aFv I hN hi hx r (λs' I' _=>h s' I') hf
theorem Inv.aRA{s':Shared}(I:Inv X pins U H s)(ho:s'.os=s.os)(u:Un (nj X.stack) ch H H' s.heap s'.heap)(bc:uL X.prog X.w H' s'.heap)(hg:AllBare s'.gens)(si:∀b∈ch,(b∈X.ex\/X.dj.heap.objs.size<=b)/\b≠X.env.locals/\(∀x c,X.env.cells.lookup x=some c->c≠b)/\∀p∈X.pn++pins,p.1≠b):Inv X pins U H' s':=by
 obtain⟨h',g',d',t',o'⟩:=s';have e:o'=s.os:=ho;subst e;exact I.call (g':=g') (t':=t') (d':=d') u bc hg si
end
abbrev XK:=Value->Option Addr->Hp->Prop
abbrev St:=List (Option V)
abbrev VK:=V->Hp->Prop
abbrev TE:=St->Hp->VK->Prop
abbrev TT:=St->Hp->(Bool->Hp->Prop)->Prop
abbrev TA:=St->Hp->(List V->Hp->Prop)->Prop
structure Ends where
 nx:St->Hp->Prop
 rt:VK
 bk:St->Hp->Prop:=λ_ _=>False
 ct:St->Hp->Prop:=λ_ _=>False
abbrev TS:=Ends->St->Hp->Prop
def EP(X:Cx)(pins:ar)(U:St)(Q:VK)(u:Value)(s':Shared):Prop:=∃v H',Inv X pins U H' s'/\RelV v u/\Q v H'
def TP(X:Cx)(pins:ar)(U:St)(Q:Bool->Hp->Prop)(b:Bool)(s':Shared):Prop:=∃H',Inv X pins U H' s'/\Q b H'
def AP(X:Cx)(pins:ar)(U:St)(Q:List V->Hp->Prop)(us:ah)(s':Shared):Prop:=∃vs H',Inv X pins U H' s'/\Vals vs us/\Q vs H'
def SP(X:Cx)(pins:ar)(D:Ends)(f:Flow)(s':Shared):Prop:=
 match f with
 |.next=>∃U' H',Inv X pins U' H' s'/\D.nx U' H'
 |.brk=>∃U' H',Inv X pins U' H' s'/\D.bk U' H'
 |.cont=>∃U' H',Inv X pins U' H' s'/\D.ct U' H'
 |.ret u=>∃v U' H',Inv X pins U' H' s'/\RelV v u/\D.rt v H'
def PE(X:Cx)(e:Expr)(t:TE):Prop:=
 ∀(pins:ar) (s:Shared) (U:St) (H:Hp) (Q:VK),Inv X pins U H s->t U H Q->wpAny (model X.prog X.w) X.A (eval e X.env) (EP X pins U Q) X.xe s
def PT(X:Cx)(e:Expr)(t:TT):Prop:=
 ∀(pins:ar) (s:Shared) (U:St) (H:Hp) (Q:Bool->Hp->Prop),Inv X pins U H s->t U H Q->wpAny (model X.prog X.w) X.A (isTrue e X.env (eval e X.env)) (TP X pins U Q) X.xe s
def PW(X:Cx)(e:Expr)(t:TT):Prop:=
 ∀(whole:Sem Value) (pins:ar) (s:Shared) (U:St) (H:Hp) (Q:Bool->Hp->Prop),Inv X pins U H s->t U H Q->wpAny (model X.prog X.w) X.A (isTrue e X.env whole) (TP X pins U Q) X.xe s
theorem PW.pt(h:PW X e t):PT X e t:=h _
def PA(X:Cx)(es:List Expr)(t:TA):Prop:=
 ∀(pos:Pos) (pins:ar) (s:Shared) (U:St) (H:Hp) (Q:List V->Hp->Prop),Inv X pins U H s->t U H Q->wpAny (model X.prog X.w) X.A (spliced (backTo pos (starEach es X.env))) (AP X pins U Q) X.xe s
def PS(X:Cx)(st:Stmt)(t:TS):Prop:=
 ∀(pins:ar) (s:Shared) (U:St) (H:Hp) (D:Ends),Inv X pins U H s->t D U H->wpAny (model X.prog X.w) X.A (exec st X.env) (SP X pins D) X.xe s
def uu(X:Cx)(st:List Stmt)(t:TS):Prop:=
 ∀(pins:ar) (s:Shared) (U:St) (H:Hp) (D:Ends),Inv X pins U H s->t D U H->wpAny (model X.prog X.w) X.A (execs st X.env) (SP X pins D) X.xe s
theorem eG{α:Type}{t:Sem α}{Q Q':α->Shared->Prop}{E:ak}(h:wpAny M A t Q E s)(hQ:∀a s,Q a s->Q' a s):wpAny M A t Q' E s:=uo h hQ λ_ _ x=>x
section
variable{X:Cx}
def PH(i:Nat):TE:=λU H Q=>∃v,U[i]?=some (some v)/\Q v H
def tC(v:V):TE:=λ_ H Q=>Q v H
theorem Z2{i:Nat}(hN:X.N[i]?=some x)(hv:DZ X.env.scope x)(hd:(x == ("__debug__" : Str))=false:=by decide)(oh:(x == ("__classdict__" : Str))=false:=by decide):PE X (.Name x pos) (PH i):=by
 intro pins s U H Q I h;obtain⟨v,e,h⟩:=h;obtain⟨m,hn,hl⟩:=I.loc;obtain⟨u,r,l⟩:=hl i x v hN e hv;have fin:EP X pins U Q u s:=⟨v,H,I,r,h⟩
 rcases l with ⟨hk,hm⟩|⟨hk,c,hc,qy⟩
 ·exact wpAny_Name (wpAny_loadName_local I.ok.kind hk hn hm fin) hd
 ·rcases hk with hk|hk
  ·exact wpAny_Name (wpAny_loadName_cell I.ok.kind hk hc qy fin) hd
  ·exact wpAny_Name (wpAny_loadName_free I.ok.kind hk hc qy fin oh) hd
theorem aPH{i j pos}:PE X (.Constant (.int i) j pos) (tC (.int i)):=λ_ _ _ H _ I h=>wpAny_Constant_int ⟨.int i,H,I.tok _,⟨_,rfl⟩,h⟩
theorem aRB{b j pos}:PE X (.Constant (.bool b) j pos) (tC (.bl b)):=λ_ _ _ H _ I h=>Constant_bool ⟨.bl b,H,I,rfl,h⟩
theorem aPI{j pos}:PE X (.Constant .none j pos) (tC .br):=λ_ _ _ H _ I h=>Constant_none ⟨.br,H,I,rfl,h⟩
def Gl(X:Cx)(x:Str):Prop:=X.env.kindOf x=some .globalImplicit
theorem Mu{E:ak}{Q:ak}(I:Inv X pins U H s)(hg:Gl X x)(hm:X.mg x=some u)(h:Q u s)(hd:(x == ("__debug__" : Str))=false:=by decide):wpAny (model X.prog X.w) X.A (eval (.Name x pos) X.env) Q E s:=
 Calls.Name_function_global I.ok.kind hg (Calls.loadGlobal_global (by rw[I.ok.glob];exact I.mod.glob.keeps I.bk) hm h) hd
theorem oJ{E:ak}{Q:ak}(I:Inv X pins U H s)(hg:Gl X x)(hm:X.mg x=none)(hv:bootBuiltins x=some u)(h:Q u s)(hn:x≠"__name__":=by decide)(hd:(x == ("__debug__" : Str))=false:=by decide):wpAny (model X.prog X.w) X.A (eval (.Name x pos) X.env) Q E s:=by
 obtain⟨mb,h1,h2⟩:=I.mod.blt;exact Calls.Name_function_global I.ok.kind hg (Calls.loadGlobal_builtin (by rw[I.ok.glob];exact I.mod.glob.keeps I.bk) hm (by rw[I.ok.blt];exact h1.keeps I.bk) ((h2 x hn).trans hv) h) hd
theorem aJE(hg:Gl X x)(hm:X.mg x=some u)(r:RelV v u)(hd:(x == ("__debug__" : Str))=false:=by decide):PE X (.Name x pos) (tC v):=
 λ_ _ _ H _ I h=>Mu I hg hm ⟨v,H,I,r,h⟩ hd
theorem aNz(hg:Gl X x)(hm:X.mg x=none)(hv:bootBuiltins x=some u)(r:RelV v u)(hn:x≠"__name__":=by decide)(hd:(x == ("__debug__" : Str))=false:=by decide):PE X (.Name x pos) (tC v):=
 λ_ _ _ H _ I h=>oJ I hg hm hv ⟨v,H,I,r,h⟩ hn hd
variable{a b:Expr}{ta tb:TE}{pos:Pos}
def tB(t:TE):TT:=λU H Q=>t U H λx H1=>∃c,x=.bl c/\Q c H1
theorem aPJ{e:Expr}(h:PE X e t)(he:∀whole,isTrue e X.env whole=(do let v <-whole;standAt e.pos;holding [v] (truthy v)):=by intro _;rfl):PT X e (tB t):=by
 intro pins s U H Q I hw;refine isTrue_plain (eG (h pins s U H _ I hw) λv s1 zq=>?_) (he _);obtain⟨x,H1,I1,r1,q1⟩:=zq;obtain⟨d,rfl,q⟩:=q1;cases r1;exact wpAny_truthy_bool ⟨H1,I1,q⟩
variable{tA J7:TT}{rest:List Expr}
def PF(t u:TT):TT:=λU H Q=>t U H λc H1=>if c=true then u U H1 Q else Q false H1
def Nh(t u:TT):TT:=λU H Q=>t U H λc H1=>if c=true then Q true H1 else u U H1 Q
def PD(t:TT):TT:=λU H Q=>t U H λc H1=>Q (!c) H1
theorem aNA(ha:PT X a tA):PW X (.BoolOp .And [a] pos) tA:=by
 intro wh pins s U H Q I h;refine isTrue_and (eG (ha pins s U H Q I h) λc s1 e=>?_);cases c with
 |true=>exact isTrue_and_nil e
 |false=>exact e
theorem aPM(ha:PT X a tA):PW X (.BoolOp .Or [a] pos) tA:=by
 intro wh pins s U H Q I h;refine isTrue_or (eG (ha pins s U H Q I h) λc s1 e=>?_);cases c with
 |false=>exact isTrue_or_nil e
 |true=>exact e
theorem aPN(ha:PT X a tA)(hb:PW X (.BoolOp .And (b::rest) pos) J7):PW X (.BoolOp .And (a::b::rest) pos) (PF tA J7):=by
 intro wh pins s U H Q I h;refine isTrue_and (eG (ha pins s U H _ I h) λc s1 ⟨H1,I1,q1⟩=>?_);cases c with
 |true=>exact hb wh pins s1 U H1 Q I1 q1
 |false=>exact⟨H1,I1,q1⟩
theorem aRC(ha:PT X a tA)(hb:PW X (.BoolOp .Or (b::rest) pos) J7):PW X (.BoolOp .Or (a::b::rest) pos) (Nh tA J7):=by
 intro wh pins s U H Q I h;refine isTrue_or (eG (ha pins s U H _ I h) λc s1 ⟨H1,I1,q1⟩=>?_);cases c with
 |true=>exact⟨H1,I1,q1⟩
 |false=>exact hb wh pins s1 U H1 Q I1 q1
theorem aPO(ha:PT X a tA):PT X (.UnaryOp .Not a pos) (PD tA):=by
 intro pins s U H Q I h;exact isTrue_not (ha pins s U H (λc H1=>Q (!c) H1) I h)
def Qe(ta tb:TE):TE:=λU H Q=>ta U H λx H1=>∃c,x=.bl c/\if c=true then tb U H1 Q else Q (.bl false) H1
def PC(ta tb:TE):TE:=λU H Q=>ta U H λx H1=>∃c,x=.bl c/\if c=true then Q (.bl true) H1 else tb U H1 Q
def Qd(ta:TE):TE:=λU H Q=>ta U H λx H1=>∃c,x=.bl c/\Q (.bl (!c)) H1
theorem aPQ{op}(h:PE X a t):PE X (.BoolOp op [a] pos) t:=λpins s U H Q I hw=>BoolOp_one (h pins s U H Q I hw)
theorem aPR(ha:PE X a ta)(hb:PE X (.BoolOp .And (b::rest) pos) tb):PE X (.BoolOp .And (a::b::rest) pos) (Qe ta tb):=by
 intro pins s U H Q I h;refine BoolOp_and (eG (ha pins s U H _ I h) λv s1 zq=>?_);obtain⟨x,H1,I1,r1,q1⟩:=zq;obtain⟨c,rfl,q1⟩:=q1;cases r1;refine wpAny_truthy_bool ?_;cases c with
 |true=>exact hb pins s1 U H1 Q I1 q1
 |false=>exact⟨.bl false,H1,I1,rfl,q1⟩
theorem aRD(ha:PE X a ta)(hb:PE X (.BoolOp .Or (b::rest) pos) tb):PE X (.BoolOp .Or (a::b::rest) pos) (PC ta tb):=by
 intro pins s U H Q I h;refine BoolOp_or (eG (ha pins s U H _ I h) λv s1 zq=>?_);obtain⟨x,H1,I1,r1,q1⟩:=zq;obtain⟨c,rfl,q1⟩:=q1;cases r1;refine wpAny_truthy_bool ?_;cases c with
 |false=>exact hb pins s1 U H1 Q I1 q1
 |true=>exact⟨.bl true,H1,I1,rfl,q1⟩
theorem aPS(ha:PE X a ta):PE X (.UnaryOp .Not a pos) (Qd ta):=by
 intro pins s U H Q I h;refine UnaryOp_ (eG (ha pins s U H _ I h) λv s1 zq=>?_);obtain⟨x,H1,I1,r1,q1⟩:=zq;obtain⟨c,rfl,q1⟩:=q1;cases r1;exact not_of (wpAny_truthy_bool ⟨.bl (!c),H1,I1,rfl,q1⟩)
def Ni(t:TT)(ta tb:TE):TE:=λU H Q=>t U H λc H1=>if c=true then ta U H1 Q else tb U H1 Q
theorem aLp{c:Expr}(hc:PT X c tA)(ha:PE X a ta)(hb:PE X b tb):PE X (.IfExp c a b pos) (Ni tA ta tb):=by
 intro pins s U H Q I h;refine wpAny_IfExp (eG (hc pins s U H _ I h) λd s1 ⟨H1,I1,q1⟩=>?_);cases d with
 |true=>exact ha pins s1 U H1 Q I1 q1
 |false=>exact hb pins s1 U H1 Q I1 q1
end
def bP(K:W.Frag)(H:Hp)(a:Addr)(xs:List V):Prop:=
 Rd H a (.lst xs)\/
  ∃(o:Obj) (its:Array Value) (n:Nat),K.lookup a=some o/\o.cls=.type "list"/\o.dict=none/\o.data=.seq its n/\its.size<=sizeLine/\Vals xs its.toList
def iF(K:W.Frag)(H:Hp)(a:Addr)(xs:List V):Prop:=
 Rd H a (.tup xs)\/
  ∃(o:Obj) (its:Array Value) (n:Nat),K.lookup a=some o/\o.cls=.type "tuple"/\o.data=.seq its n/\its.size<=sizeLine/\Vals xs its.toList
def aSz:Value->Option V
 |.none=>some .br
 |.bool b=>some (.bl b)
 |.int i _=>some (.int i)
 |.str x _=>some (.str x)
 |.bytes b _=>some (.Fi b)
 |.float b _=>some (.rj b)
 |.ref a=>some (.ref a)
 |.type n=>some (.ty n)
 |_=>none
theorem RelV.abs(r:RelV x u):aSz u=some x:=by
 cases x with
 |br=>cases r;rfl
 |bl _=>cases r;rfl
 |int _=>obtain⟨t,rfl⟩:=r;rfl
 |str _=>obtain⟨t,rfl⟩:=r;rfl
 |Fi _=>obtain⟨t,rfl⟩:=r;rfl
 |rj _=>obtain⟨t,rfl⟩:=r;rfl
 |ref _=>cases r;rfl
 |ty _=>cases r;rfl
theorem RelV.inj(r:RelV x u)(q:RelV y u):x=y:=Option.some.inj (r.abs.symm.trans q.abs)
theorem Vals.inj:∀{xs ys:List V}{us:ah},Vals xs us->Vals ys us->xs=ys
 |_,_,_,.nil,.nil=>rfl
 |_,_,_,.cons r t,.cons r' t'=>by rw[r.inj r',Vals.inj t t']
section
variable{X:Cx}{pins:ar}{U:St}{H:Hp}{s:Shared}{a:Addr}{xs ys:List V}
theorem bP.of{K:W.Frag}(h:H a=some (.lst xs)):bP K H a xs:=.inl (.inl h)
theorem iF.of{K:W.Frag}(h:H a=some (.tup xs)):iF K H a xs:=.inl (.inl h)
theorem Inv.list(I:Inv X pins U H s)(h:bP X.K H a xs):∃its:ah,Vals xs its/\PlainL s.heap a its.toArray/\xs.length<=sizeLine:=by
 rcases h with h|⟨o,its,n,hk,hc,hd,hs,hz,r⟩
 ·obtain⟨z,its,n,r,e⟩:=h.ok I.bc;exact⟨its,r,⟨_,n,e,rfl,rfl,rfl⟩,z⟩
 ·refine⟨its.toList,r,⟨o,n,I.rX a o hk,hc,hd,by simpa using hs⟩,?_⟩;have e:=r.length;simp only[yu] at e;lia
theorem Inv.tuple(I:Inv X pins U H s)(h:iF X.K H a xs):∃its:ah,Vals xs its/\IsTup s.heap a its.toArray/\xs.length<=sizeLine:=by
 rcases h with h|⟨o,its,n,hk,hc,hs,hz,r⟩
 ·obtain⟨z,its,r,p⟩:=h.ok I.bc;exact⟨its,r,p,z⟩
 ·refine⟨its.toList,r,⟨o,I.rX a o hk,hc,n,by simpa using hs⟩,?_⟩;have e:=r.length;simp only[yu] at e;lia
theorem Inv.Rr(I:Inv X pins U H s)(h:bP X.K H a xs)(h':bP X.K H a ys):xs=ys:=by
 obtain⟨its,r,⟨o,n,e,_,_,d⟩,_⟩:=I.list h;obtain⟨its',r',⟨o',n',e',_,_,d'⟩,_⟩:=I.list h';rw[e] at e';cases e';rw[d] at d';injection d' with d1 _
 have:its=its':=by simpa using congrArg Array.toList d1
 subst this;exact r.inj r'
theorem Inv.aFw(I:Inv X pins U H s)(h:iF X.K H a xs)(h':iF X.K H a ys):xs=ys:=by
 obtain⟨its,r,⟨o,e,_,n,d⟩,_⟩:=I.tuple h;obtain⟨its',r',⟨o',e',_,n',d'⟩,_⟩:=I.tuple h';rw[e] at e';cases e';rw[d] at d';injection d' with d1 _
 have:its=its':=by simpa using congrArg Array.toList d1
 subst this;exact r.inj r'
end
abbrev Cx.AS(X:Cx)(E:ak):Cx:={ X with xe:=E }
abbrev Cx.EN(X:Cx):Cx:=X.AS λ_ _=>False
theorem Cx.Ok.AS{X:Cx}(ok:X.Ok)(E:ak):(X.AS E).Ok:=
 ⟨ok.mod,ok.kind,ok.glob,ok.blt,ok.above,ok.inj,ok.has,ok.Ck,ok.hd,ok.frames,ok.B0,ok.Ly,ok.bs,ok.zk,ok.vh,ok.xy,ok.xX,ok.AJ⟩
theorem Cx.Ok.uQ{X:Cx}{E:ak}(ok:(X.AS E).Ok):X.Ok:=
 ⟨ok.mod,ok.kind,ok.glob,ok.blt,ok.above,ok.inj,ok.has,ok.Ck,ok.hd,ok.frames,ok.B0,ok.Ly,ok.bs,ok.zk,ok.vh,ok.xy,ok.xX,ok.AJ⟩
section
variable{X:Cx}{pins:ar}{U:St}{H:Hp}{s:Shared}{E:ak}
theorem Inv.AS(I:Inv X pins U H s)(E:ak):Inv (X.AS E) pins U H s:=⟨I.ok.AS E,I.os,I.bare,I.base,I.loc,I.cell,I.free,I.fe,I.pin,I.bc,I.len⟩
theorem Inv.uQ(I:Inv (X.AS E) pins U H s):Inv X pins U H s:=⟨I.ok.uQ,I.os,I.bare,I.base,I.loc,I.cell,I.free,I.fe,I.pin,I.bc,I.len⟩
theorem SP.uQ(h:SP (X.AS E) pins D f s'):SP X pins D f s':=by
 cases f with
 |next=>obtain⟨U',H',I,q⟩:=h;exact⟨U',H',I.uQ,q⟩
 |brk=>obtain⟨U',H',I,q⟩:=h;exact⟨U',H',I.uQ,q⟩
 |cont=>obtain⟨U',H',I,q⟩:=h;exact⟨U',H',I.uQ,q⟩
 |ret u=>obtain⟨v,U',H',I,r,q⟩:=h;exact⟨v,U',H',I.uQ,r,q⟩
theorem uu.EN{st:List Stmt}{t:TS}(h:uu X.EN st t):uu X st t:=λpins s U H D I hw=>
 uo (h pins s U H D (I.AS _) hw) (λ_ _ q=>q.uQ) λ_ _ z=>False.elim z
end
section
variable{X:Cx}{st:Stmt}{rest:List Stmt}{t u:TS}{e:Expr}{te:TE}{pos:Pos}
def Qc:TS:=λD U H=>D.nx U H
def He(t u:TS):TS:=λD U H=>t { D with nx:=u D } U H
theorem aNB:uu X [] Qc:=λ_ _ U H _ I h=>wpAny_execs_nil ⟨U,H,I,h⟩
theorem aLs(h1:PS X st t)(h2:uu X rest u):uu X (st::rest) (He t u):=by
 intro pins s U H D I h;refine wpAny_execs_cons (eG (h1 pins s U H { D with nx:=u D } I h) λf s1 q=>?_);cases f with
 |next=>
  obtain⟨U',H',I',q⟩:=q;exact h2 pins s1 U' H' D I' q
 |ret v=>exact q
 |brk=>exact q
 |cont=>exact q
theorem aNC(h1:PS X st t):uu X [st] t:=by
 intro pins s U H D I h;refine wpAny_execs_cons (eG (h1 pins s U H D I h) λf s1 q=>?_);cases f with
 |next=>exact wpAny_execs_nil q
 |ret v=>exact q
 |brk=>exact q
 |cont=>exact q
def QJ:TS:=λD U H=>D.bk U H
theorem aLt:PS X (.Break pos) QJ:=λ_ _ U H _ I h=>wpAny_Break ⟨U,H,I,h⟩
theorem Inv.quiet(I:Inv X pins U H s):interactive X.env=false:=by simp[interactive,I.ok.kind]
def Qb(te:TE):TS:=λD U H=>te U H λ_ H1=>D.nx U H1
theorem aND(he:PE X e te)(hs:swapsWith e none pos.line X.env=pure false:=by rfl):PS X (.Expr e pos) (Qb te):=by
 intro pins s U H D I h;exact wpAny_Expr_any (eG (he pins s U H _ I h) λv s1 ⟨x,H1,I1,r1,q1⟩=>⟨U,H1,I1,q1⟩) I.quiet hs
def PB(te:TE):TS:=λD U H=>te U H D.rt
theorem aPU(he:PE X e te):PS X (.Return (some e) pos) (PB te):=by
 intro pins s U H D I h;exact wpAny_Return_some (eG (he pins s U H _ I h) λv s1 ⟨x,H1,I1,r1,q1⟩=>⟨x,U,H1,I1,r1,q1⟩)
def Py(c:TT)(t u:TS):TS:=λD U H=>c U H λb H1=>if b=true then t D U H1 else u D U H1
theorem aRE(hc:PT X c tc)(ha:uu X a t)(hb:uu X b u):PS X (.If c a b pos) (Py tc t u):=by
 intro pins s U H D I h;refine wpAny_If (eG (hc pins s U H _ I h) λd s1 ⟨H1,I1,q1⟩=>?_);cases d with
 |true=>exact ha pins s1 U H1 D I1 q1
 |false=>exact hb pins s1 U H1 D I1 q1
def Z1:TS:=λ_ _ _=>False
theorem aLw:PS X st Z1:=λ_ _ _ _ _ _ h=>h.elim
end
abbrev TG:=V->St->Hp->(St->Hp->Prop)->Prop
abbrev zm:=List V->St->Hp->(St->Hp->Prop)->Prop
def PG(X:Cx)(target:Expr)(t:TG):Prop:=
 ∀(pins:ar) (s:Shared) (U:St) (H:Hp) (v:V) (u:Value) (Q:St->Hp->Prop),Inv X pins U H s->RelV v u->t v U H Q->
  wpAny (model X.prog X.w) X.A (assign target X.env u) (λ_ s'=>∃U' H',Inv X pins U' H' s'/\Q U' H') X.xe s
def Ig(X:Cx)(ts:List Expr)(t:zm):Prop:=
 ∀(pins:ar) (s:Shared) (U:St) (H:Hp) (vs:List V) (us:ah) (Q:St->Hp->Prop),Inv X pins U H s->Vals vs us->t vs U H Q->
  wpAny (model X.prog X.w) X.A (assignInOrder ((assignEach ts X.env).map (·.2)) us) (λ_ s'=>∃U' H',Inv X pins U' H' s'/\Q U' H') X.xe s
abbrev Pw:=V->V->V->Hp->(Hp->Prop)->Prop
def Hd(X:Cx)(t:Pw):Prop:=
 ∀(pins:ar) (s:Shared) (U:St) (H:Hp) (o i v:V) (ov iv u:Value) (Q:Hp->Prop),Inv X pins U H s->RelV o ov->RelV i iv->RelV v u->t o i v H Q->
  wpAny (model X.prog X.w) X.A (setItem ov iv u) (λ_ s'=>∃H',Inv X pins U H' s'/\Q H') X.xe s
abbrev MU:=V->V->Hp->VK->Prop
def Ga(X:Cx)(op:Operator)(t:MU):Prop:=
 ∀(pins:ar) (s:Shared) (U:St) (H:Hp) (x y:V) (v u:Value) (Q:VK),Inv X pins U H s->RelV x v->RelV y u->t x y H Q->
  wpAny (model X.prog X.w) X.A (inplaceOp op v u) (EP X pins U Q) X.xe s
section
variable{X:Cx}{pos:Pos}
def uR(i:Nat):TG:=λv U H Q=>Q (U.set i (some v)) H
theorem aNE{i:Nat}(hN:X.N.Nodup)(hi:X.N[i]?=some x)(hx:Loc X.env.scope x)(hf:X.fn x=true\/X.env.scope.names.lookup x=some .local:=by first|exact .inl rfl|exact .inr rfl|assumption):PG X (.Name x pos) (uR i):=by
 intro pins s U H v u Q I r h;exact wpAny_assign_Name (uP I hN hi hx r (λs' I'=>⟨_,H,I',h⟩) hf)
def LO:zm:=λvs U H Q=>vs=[]/\Q U H
def L3(t:TG)(u:zm):zm:=λvs U H Q=>∃v r,vs=v::r/\t v U H λU' H'=>u r U' H' Q
theorem aNG:Ig X [] LO:=by
 intro pins s U H vs us Q I r h;obtain⟨e,h⟩:=h;subst e;cases r;exact assignInOrder_nil ⟨U,H,I,h⟩
theorem aLy(h1:PG X e t)(h2:Ig X es u)(hs:(assignEach (e::es) X.env).map (·.2)=assign e X.env::(assignEach es X.env).map (·.2):=by rfl):Ig X (e::es) (L3 t u):=by
 intro pins s U H vs us Q I r h;obtain⟨v,vr,e1,h⟩:=h;subst e1;cases r with
 |cons r rr=>
  rw[hs];refine assignInOrder_cons (eG (h1 pins s U H _ _ _ I r h) λ_ s1 zq=>?_);obtain⟨σ1,H1,I1,q1⟩:=zq;exact h2 pins s1 σ1 H1 _ _ Q I1 rr q1
def LN(K:W.Frag)(n:Nat)(t:zm):TG:=λv U H Q=>∃a xs,v=.ref a/\iF K H a xs/\xs.length=n/\t xs U H Q
theorem aPX{k:Nat}{n:Nat}(hc:X.calm=true)(h:Ig X es t)(hn:(assignEach es X.env).length=n:=by rfl)(di:(assignEach es X.env).findIdx? (·.1)=none:=by rfl):PG X (.Tuple es k pos) (LN X.K n t):=by
 intro pins s U H v u Q I r hw;obtain⟨a,xs,e1,hq,hl,hw⟩:=hw;subst e1;cases r;obtain⟨its,rv,ht,hz⟩:=I.tuple hq;refine assign_Tuple_tuple (I.ok.hd hc) ht (by simp[hn,<-hl,rv.length]) di λh' hx=>?_;have I1:Inv X pins U H { s with heap:=h' }:=I.kept (t':=s.toks) λb o e=>hx b o (rV (jX e)) e;exact h pins _ U H xs _ Q I1 (by simpa using rv) hw
def Pu(to ti:TE)(t:Pw):TG:=λv U H Q=>to U H λo H1=>ti U H1 λi H2=>t o i v H2 λH3=>Q U H3
theorem aPZ(ho:PE X o to)(hi:PE X i ti)(hs:Hd X t)(ha:∀v,assign (.Subscript o i pos) X.env v=(do
   let ov <-holding [v] (eval o X.env)
   let iv <-holding [v,ov] (eval i X.env)
   standAt pos
   holding [v,ov,iv] (setItem ov iv v)
   release [v,ov,iv] []):=by intro _;rfl):PG X (.Subscript o i pos) (Pu to ti t):=by
 intro pins s U H v u Q I r h;rw[ha];refine bM (Bu (eG (ho pins s U H _ I h) λov s1 zq=>?_));obtain⟨x,H1,I1,r1,q1⟩:=zq;refine bM (Bu (eG (hi pins s1 U H1 _ I1 q1) λiv s2 zq=>?_));obtain⟨y,H2,I2,r2,q2⟩:=zq;refine bM (wpAny_standAt (bM (Bu (eG (hs pins s2 U H2 x y v ov iv u _ I2 r1 r2 r q2) λ_ s3 ⟨H3,I3,q3⟩=>?_))));exact wpAny_release ⟨U,H3,I3,q3⟩
def Ct(te:TE)(g:TG):TS:=λD U H=>te U H λx H1=>g x U H1 D.nx
theorem aP0(he:PE X e te)(hg:PG X tg g)(hs:swapsWithSole [tg] e pos.line X.env=pure false:=by rfl)(hw:swappedStores [tg] e X.env=pure none:=by rfl)(h1:(assignEach [tg] X.env).map (·.2)=[assign tg X.env]:=by rfl):PS X (.Assign [tg] e pos) (Ct te g):=by
 intro pins s U H D I h;refine wpAny_Assign_stores (eG (he pins s U H _ I h) λv s1 zq=>?_) hs hw;obtain⟨x,H1,I1,r1,q1⟩:=zq;rw[h1];exact eG (hg pins s1 U H1 x v _ I1 r1 q1) λ_ s2 q=>q
theorem aP1{i:Nat}(hN:X.N.Nodup)(hi:X.N[i]?=some x)(hx:Loc X.env.scope x)(he:PE X e te)(hs:swapsWith e (some (.Name x pos')) pos.line X.env=pure false:=by rfl)(hf:X.fn x=true\/X.env.scope.names.lookup x=some .local:=by first|exact .inl rfl|exact .inr rfl|assumption) :
  PS X (.Assign [.Name x pos'] e pos) (Ct te (uR i)):=by
 intro pins s U H D I h;refine wpAny_Assign_Name (eG (he pins s U H _ I h) λv s1 zq=>?_) hs;obtain⟨y,H1,I1,r1,q1⟩:=zq;exact uP I1 hN hi hx r1 (λs2 I2=>⟨_,H1,I2,q1⟩) hf
def PR(i j:Nat)(ta:TA):TS:=λD U H=>ta U H λvs H1=>∃v w,vs=[v,w]/\D.nx ((U.set i (some v)).set j (some w)) H1
theorem aP3{i j:Nat}{x y:Str}{a b:Expr}{ta:TA}{px py pt:Pos}{kt k2 Dj}(hc:X.calm=true)(hN:X.N.Nodup)(hi:X.N[i]?=some x)(hj:X.N[j]?=some y)(Bc:i≠j)
  (hx:X.env.scope.names.lookup x=some .local) (hy:X.env.scope.names.lookup y=some .local) (ha:PA X [a,b] ta)
  (hw:swappedStores [.Tuple [.Name x px,.Name y py] kt pt] (.Tuple [a,b] k2 Dj) X.env=pure (some [x,y]))
  (hs:swapsWithSole [.Tuple [.Name x px,.Name y py] kt pt] (.Tuple [a,b] k2 Dj) pos.line X.env=pure false:=by rfl) :
  PS X (.Assign [.Tuple [.Name x px,.Name y py] kt pt] (.Tuple [a,b] k2 Dj) pos) (PR i j ta):=by
 intro pins s U H D I h;rw[exec_Assign_arm];refine bM (wpAny_standAt ?_);rw[hs];refine bM (eE ?_);rw[cU (by decide)];refine bM (Tuple_ (eG (ha _ pins s U H _ I h) λus s1 zq=>?_));obtain⟨vs,H1,I1,r1,q1⟩:=zq;obtain⟨v,w,e1,q1⟩:=q1;subst e1;obtain⟨u1,u2,rfl,rv,tj⟩ : ∃u1 u2,us=[u1,u2]/\RelV v u1/\RelV w u2:=by
  cases r1 with
  |cons p q=>
   cases q with
   |cons p' q'=>
    cases q';exact⟨_,_,rfl,p,p'⟩
 refine vb ?_ (by show 2<=sizeLine;decide);have I2:Inv X pins U H1 { s1 with heap:=s1.heap.push { cls:=.type "tuple",data:=.seq [u1,u2].toArray } }:=I1.kept (t':=s1.toks) λb o e=>fR _ e;rw[hw];refine bM (eE ?_);show wpAny (model X.prog X.w) X.A (do rule "assign.swapped-stores";let items <-unpackItems (.ref s1.heap.objs.size) 2 none;assignInOrder [λv=>bindName X.env y v,λv=>bindName X.env x v] items.reverse;pure Flow.next) _ _ _;refine bM (wpAny_rule (bM (unpackItems_tuple (items:=#[u1,u2]) (I.ok.hd hc) (IsTup.new s1.heap _) λh' qf=>?_)));have I3:=I2.kept (h':=h') (t':=s1.toks) λb o e=>qf b o (rV (jX e)) e;show wpAny _ _ (assignInOrder [λv=>bindName X.env y v,λv=>bindName X.env x v] [u2,u1] >>= λ_=>pure Flow.next) _ _ _;refine bM (assignInOrder_cons (wpAny_bindName (uP I3 hN hj (.inl hy) tj (λs2 I4=>?_) (.inr hy))));refine assignInOrder_cons (wpAny_bindName (uP I4 hN hi (.inl hx) rv (λs3 I5=>assignInOrder_nil (eE ?_)) (.inr hx)))
 rw[List.set_comm _ _ (Ne.symm Bc)] at I5;exact⟨_,H1,I5,q1⟩
def PQ(i:Nat)(te:TE)(ti:MU):TS:=λD U H=>∃x,U[i]?=some (some x)/\te U H λy H1=>ti x y H1 λz H2=>D.nx (U.set i (some z)) H2
theorem aP5{i:Nat}(hN:X.N.Nodup)(hi:X.N[i]?=some x)(hx:Loc X.env.scope x)(he:PE X e te)(ho:Ga X op ti)(hf:X.fn x=true\/X.env.scope.names.lookup x=some .local:=by first|exact .inl rfl|exact .inr rfl|assumption) :
  PS X (.AugAssign (.Name x pos') op e pos) (PQ i te ti):=by
 intro pins s U H D I h;obtain⟨v,e1,h⟩:=h;obtain⟨m,hn,hl⟩:=I.loc;have vis:DZ X.env.scope x:=by rcases hx with k|k;exact .inl k;exact .inr (.inl k)
 obtain⟨u,r,l⟩:=hl i x v hi e1 vis;refine wpAny_AugAssign_Name ?_;have go:wpAny (model X.prog X.w) X.A (eval e X.env) (λw oj=>wpAny (model X.prog X.w) X.A (inplaceOp op u w) (λr ka=>wpAny (model X.prog X.w) X.A (storeName X.env x r) (λ_=>SP X pins D .next) X.xe ka) X.xe oj) X.xe s:=by
  refine eG (he pins s U H _ I h) λw s1 zq=>?_;obtain⟨y,H1,I1,r1,q1⟩:=zq;refine eG (ho pins s1 U H1 v y u w _ I1 r r1 q1) λz s2 zq=>?_;obtain⟨zv,H2,I2,r2,q2⟩:=zq;exact uP I2 hN hi hx r2 (λs3 I3=>⟨_,H2,I3,q2⟩) hf
 rcases l with ⟨hk,hm⟩|⟨hk,c,hc,qy⟩
 ·exact wpAny_loadName_local I.ok.kind hk hn hm go
 ·rcases hk with hk|hk
  ·exact wpAny_loadName_cell I.ok.kind hk hc qy go
  ·rcases hx with k|k
   ·have:X.env.scope.names.lookup x=some .free:=hk;rw[k] at this;cases this
   ·have:X.env.scope.names.lookup x=some .free:=hk;rw[k] at this;cases this
def Qa(to ti te:TE)(qb:V->V->Hp->VK->Prop)(A2:MU)(sd:Pw):TS:=λD U H=>to U H λo H1=>ti U H1 λi H2=>qb o i H2 λx H3=>te U H3 λy H4=>A2 x y H4 λz H5=>sd o i z H5 λH6=>D.nx U H6
def PN(X:Cx)(t:V->V->Hp->VK->Prop):Prop:=
 ∀(pins:ar) (s:Shared) (U:St) (H:Hp) (o i:V) (ov iv:Value) (Q:VK),Inv X pins U H s->RelV o ov->RelV i iv->t o i H Q->
  wpAny (model X.prog X.w) X.A (getItem ov iv) (EP X pins U Q) X.xe s
theorem aNI{qb:V->V->Hp->VK->Prop}(ho:PE X o to)(hi:PE X i ti)(hg:PN X qb)(he:PE X e te)(hp:Ga X op A2)(hs:Hd X sd)(ha:∀ov iv new,augStore i ov iv new=(do holding [new,ov,iv] (setItem ov iv new);release [new,ov,iv] [];pure .next):=by intros;rfl):PS X (.AugAssign (.Subscript o i Ef) op e pos) (Qa to ti te qb A2 sd):=by
 intro pins s U H D I h;refine wpAny_AugAssign_SubscriptAny (eG (ho pins s U H _ I h) λov s1 zq=>?_) ha;obtain⟨x1,H1,I1,r1,q1⟩:=zq;refine eG (hi pins s1 U H1 _ I1 q1) λiv s2 zq=>?_;obtain⟨x2,H2,I2,r2,q2⟩:=zq;refine eG (hg pins s2 U H2 x1 x2 ov iv _ I2 r1 r2 q2) λold s3 zq=>?_;obtain⟨x3,H3,I3,r3,q3⟩:=zq;refine eG (he pins s3 U H3 _ I3 q3) λv s4 zq=>?_;obtain⟨x4,H4,I4,r4,q4⟩:=zq;refine eG (hp pins s4 U H4 x3 x4 old v _ I4 r3 r4 q4) λnew s5 zq=>?_;obtain⟨x5,H5,I5,r5,q5⟩:=zq;exact eG (hs pins s5 U H5 x1 x2 x5 ov iv new _ I5 r1 r2 r5 q5) λ_ s6 ⟨H6,I6,q6⟩=>⟨U,H6,I6,q6⟩
def N0(f:Int->Int->Int):MU:=λx y H Q=>∃i j,x=.int i/\y=.int j/\Q (.int (f i j)) H
theorem Hy:Ga X .Add (N0 λi j=>i+j):=by
 intro pins s U H x y v u Q I r1 r2 h;obtain⟨i,j,e1,e2,q⟩:=h;subst e1;subst e2;obtain⟨t,rfl⟩:=r1;obtain⟨t',rfl⟩:=r2;exact iadd_int ⟨.int _,H,I.tok _,⟨_,rfl⟩,q⟩
theorem Z6:Ga X .Sub (N0 λi j=>i - j):=by
 intro pins s U H x y v u Q I r1 r2 h;obtain⟨i,j,e1,e2,q⟩:=h;subst e1;subst e2;obtain⟨t,rfl⟩:=r1;obtain⟨t',rfl⟩:=r2;exact isub_int ⟨.int _,H,I.tok _,⟨_,rfl⟩,q⟩
def Z5(c:TT)(tb:TS):TS:=λD U H=>∃W:Nat->St->Hp->Prop,(∃m,W m U H)/\∀m U H,W m U H->
 c U H λb H1=>if b=true then ∃N:St->Hp->Prop,(∀U' H',N U' H'->∃m',m' < m/\W m' U' H')/\tb { D with nx:=N,ct:=N,bk:=D.nx } U H1 else D.nx U H1
theorem aLC{c:Expr}{body:List Stmt}{tc:TT}{tb:TS}(hp:PassesOwn (model X.prog X.w) X.A X.env X.xe)(hc:PT X c tc)(hb:uu X body tb):PS X (.While c body [] pos) (Z5 tc tb):=by
 intro pins s U H D I h;obtain⟨W,⟨m0,w0⟩,turn⟩:=h;refine wpAny_While (codeAny_whileLoop (λn s'=>∃U' H',Inv X pins U' H' s'/\W n U' H') ?_ m0 ⟨U,H,I,w0⟩);rintro n s1 ⟨σ1,H1,I1,w1⟩;refine wpAny_passesOwn hp (eG (hc pins s1 σ1 H1 _ I1 (turn n σ1 H1 w1)) λb s2 ⟨H2,I2,q2⟩=>?_);cases b with
 |true=>
  obtain⟨N,hN,q2⟩:=q2;rw[dO rfl];refine wpAny_passesOwn hp (eG (hb pins s2 σ1 H2 _ I2 q2) λf s3 q3=>?_);cases f with
  |next=>
   obtain⟨σ3,H3,I3,n3⟩:=q3;obtain⟨m',hm,w3⟩:=hN σ3 H3 n3;exact⟨m',hm,σ3,H3,I3,w3⟩
  |cont=>
   obtain⟨σ3,H3,I3,n3⟩:=q3;obtain⟨m',hm,w3⟩:=hN σ3 H3 n3;exact⟨m',hm,σ3,H3,I3,w3⟩
  |brk=>exact q3
  |ret v=>exact q3
 |false=>
  rw[cU lz];exact wpAny_execs_nil ⟨σ1,H2,I2,q2⟩
end
structure It where
 go:Nat->Hp->Prop
 tf:Nat->Hp->V->Hp->Prop
 stop:Nat->Hp->Prop
def wa(X:Cx)(pins:ar)(H:Hp)(b:Addr):Prop:=
 H b=none/\b≠X.env.locals/\b∉X.fs/\(b∈X.ex\/X.dj.heap.objs.size<=b)/\(∀x c,X.env.cells.lookup x=some c->c≠b)/\∀p∈X.pn++pins,p.1≠b
theorem Inv.AR{s:Shared}(I:Inv X pins U H s)(hb:s.heap.objs.size<=b)(hn:H' b=none):wa X pins H' b:=by
 refine⟨hn,xl (uJ I.lt hb),I.aSy hb,.inr (mf I.sz hb),λx c e z=>?_,λp hp z=>?_⟩
 ·obtain⟨v,q⟩:=I.cell x c e;exact absurd (uJ q.lt (by rw[z];exact hb)) (ua _)
 ·exact absurd (uJ (jX (I.pin p hp).1) (by rw[z];exact hb)) (ua _)
structure Turn(P:Program)(w:World)(K:W.Frag)(tg:Expr)(J:It)(fp:ao)(it:Addr)(tn:Nat->Heap->Prop):Prop where
 mem:it∈fp
 obj:∀i h,tn i h->∀b∈fp,∃o,h.get? b=some o/\∀v,o.data≠.cell v
 keep:∀i h h',tn i h->(∀b∈fp,∀o,h.get? b=some o->h'.get? b=some o)->tn i h'
 item:∀(X:Cx),X.prog=P->X.w=w->X.K=K->X.calm=true->∀(i:Nat) (pins:ar) (s:Shared) (U:St) (H:Hp) (E:ak),Inv X pins U H s->(∀b∈fp,wa X pins H b)->tn i s.heap->J.go i H->
  wpAny (model P w) X.A (pyNext (.ref it)) (λr s1=>∃u,r=some u/\
   wpAny (model P w) X.A (letOwnedTupleGo tg (.ref it) u) (λ_ s2=>∃x H',Inv X pins U H' s2/\RelV x u/\J.tf i H x H'/\tn (i+1) s2.heap/\∀b∈fp,H' b=none) E s1) E s
 done:∀(X:Cx),X.prog=P->X.w=w->X.K=K->X.calm=true->∀(i:Nat) (pins:ar) (s:Shared) (U:St) (H:Hp) (E:ak),Inv X pins U H s->(∀b∈fp,wa X pins H b)->tn i s.heap->J.stop i H->
  wpAny (model P w) X.A (pyNext (.ref it)) (λr s1=>r=none/\Inv X pins U H s1) E s
 self:∀(A:Around) (i:Nat) (s:Shared) (Q:ak) (E:ak),tn i s.heap->Q (.ref it) s->wpAny (model P w) A (pyIter (.ref it)) Q E s
abbrev TI:=St->Hp->(It->Hp->Prop)->Prop
def PIE(X:Cx)(pins:ar)(U:St)(tg:Expr)(R:It->Hp->Prop)(Ku:Value)(s2:Shared):Prop:=
 ∃(it:Addr) (fp:ao) (tn:Nat->Heap->Prop) (J:It) (H':Hp),Ku=.ref it/\Inv X pins U H' s2/\Turn X.prog X.w X.K tg J fp it tn/\tn 0 s2.heap/\(∀b∈fp,wa X pins H' b)/\R J H'
def PI(X:Cx)(tg iter:Expr)(wi:TI):Prop:=
 ∀(pins:ar) (s:Shared) (U:St) (H:Hp) (R:It->Hp->Prop),Inv X pins U H s->wi U H R->
  wpAny (model X.prog X.w) X.A (eval iter X.env) (λv s1=>wpAny (model X.prog X.w) X.A (pyIter v) (PIE X pins U tg R) X.xe s1) X.xe s
theorem LZ{E:ak}{s:Shared}{o:Obj}{Q:Unit->Shared->Prop}(ho:s.heap.get? it=some o)(hc:o.cls=.type n)(hd:o.data=.fields vs)(hn:["enumerate","zip","dict_itemiterator","dict_reverseitemiterator","odict_iterator","itertools.zip_longest","itertools.pairwise"].contains n=false)(hQ:Q () s):wpAny M A (letOwnedTupleGo tg (.ref it) u) Q E s:=by
 unfold letOwnedTupleGo;cases tg <;> first
  |exact eE hQ
  |(cases u <;> first
    |exact eE hQ
    |(
      refine bM (wpAny_load ho ?_);rw[hc,hd];show wpAny M A (if (["enumerate","zip","dict_itemiterator","dict_reverseitemiterator","odict_iterator","itertools.zip_longest","itertools.pairwise"].contains n && vs[0]? == some (rawInt _))=true then _ else _) Q E s;rw[cU (by intro h;rw[hn,D3] at h;cases h)];exact eE hQ))
def xr(K:W.Frag)(a:Addr):It:=
 ⟨λi H=>∃xs x,bP K H a xs/\xs[i]?=some x,λi H x H'=>H'=H/\∀xs,bP K H a xs->xs[i]?=some x,λi H=>∃xs,bP K H a xs/\xs.length<=i⟩
def zu(K:W.Frag)(a:Addr):It:=
 ⟨λi H=>∃xs x,iF K H a xs/\xs[i]?=some x,λi H x H'=>H'=H/\∀xs,iF K H a xs->xs[i]?=some x,λi H=>∃xs,iF K H a xs/\xs.length<=i⟩
def wm(lo:Int)(n:Nat):It:=⟨λi _=>i < n,λi H x H'=>H'=H/\x=.int (lo+i),λi _=>n<=i⟩
theorem aKk{P:Program}{w:World}{K:W.Frag}{tg:Expr}(a it:Addr):Turn P w K tg (xr K a) [it] it (λi h=>h.IsListIter it a i) where
 mem:=by simp
 obj:=λi h st b hb=>by
  have e:b=it:=by simpa using hb
  subst e;obtain⟨o,e,c,d⟩:=st;exact⟨o,e,λv z=>by rw[d] at z;cases z⟩
 keep:=λi h h' st k=>st.at λo e=>k it (by simp) o e
 item:=by
  intro X hP hw hK hc i pins s U H E I hf st hg;subst hP hw hK;obtain⟨xs,x,hq,hx⟩:=hg;obtain⟨its,rv,p,hz⟩:=I.list hq;obtain⟨u,hu,ru⟩:=rv.get hx;obtain⟨f0,f1,f2,f3,f4,f5⟩:=hf it (by simp);refine wpAny_pyNext_list_item st p.isList (x:=u) (by simpa using hu) λh' jk sb=>?_;have I1:Inv X pins U H { s with heap:=h' }:=I.turned (t':=s.toks) (λb o hb e=>(sb.2 b hb).trans e) f0 f1 f3 f4 f5;obtain⟨o,e,c,d⟩:=id jk;exact⟨u,rfl,LZ (s:={ s with heap:=h' }) e c d (by decide) ⟨x,H,I1,ru,⟨rfl,λys hy=>by rw[I.Rr hy hq];exact hx⟩,jk,λb hb=>(hf b hb).1⟩⟩
 done:=by
  intro X hP hw hK hc i pins s U H E I hf st hg;subst hP hw hK;obtain⟨xs,hq,hx⟩:=hg;obtain⟨its,rv,p,hz⟩:=I.list hq;obtain⟨f0,f1,f2,f3,f4,f5⟩:=hf it (by simp);have hl:=rv.length;exact wpAny_pyNext_list_end (I.ok.hd hc) st p.isList (by simp;lia) λh' eb=>⟨rfl,I.turned (t':=s.toks) (λb o hb e=>eb b o hb e) f0 f1 f3 f4 f5⟩
 self:=λ_ _ _ _ _ st h=>wpAny_pyIter_listiter st h
theorem aIx{P:Program}{w:World}{K:W.Frag}{tg:Expr}(a it:Addr):Turn P w K tg (zu K a) [it] it (λi h=>h.IsTupleIter it a i) where
 mem:=by simp
 obj:=λi h st b hb=>by
  have e:b=it:=by simpa using hb
  subst e;obtain⟨o,e,c,d⟩:=st;exact⟨o,e,λv z=>by rw[d] at z;cases z⟩
 keep:=λi h h' st k=>st.at λo e=>k it (by simp) o e
 item:=by
  intro X hP hw hK hc i pins s U H E I hf st hg;subst hP hw hK;obtain⟨xs,x,hq,hx⟩:=hg;obtain⟨its,rv,p,hz⟩:=I.tuple hq;obtain⟨u,hu,ru⟩:=rv.get hx;obtain⟨f0,f1,f2,f3,f4,f5⟩:=hf it (by simp);refine wpAny_pyNext_tuple_item st (show s.heap.IsTuple a its.toArray from p) (x:=u) (by simpa using hu) λh' jk sb=>?_;have I1:Inv X pins U H { s with heap:=h' }:=I.turned (t':=s.toks) (λb o hb e=>(sb.2 b hb).trans e) f0 f1 f3 f4 f5;obtain⟨o,e,c,d⟩:=id jk;exact⟨u,rfl,LZ (s:={ s with heap:=h' }) e c d (by decide) ⟨x,H,I1,ru,⟨rfl,λys hy=>by rw[I.aFw hy hq];exact hx⟩,jk,λb hb=>(hf b hb).1⟩⟩
 done:=by
  intro X hP hw hK hc i pins s U H E I hf st hg;subst hP hw hK;obtain⟨xs,hq,hx⟩:=hg;obtain⟨its,rv,p,hz⟩:=I.tuple hq;obtain⟨f0,f1,f2,f3,f4,f5⟩:=hf it (by simp);have hl:=rv.length;exact wpAny_pyNext_tuple_end (I.ok.hd hc) st (show s.heap.IsTuple a its.toArray from p) (by simp;lia) λh' eb=>⟨rfl,I.turned (t':=s.toks) (λb o hb e=>eb b o hb e) f0 f1 f3 f4 f5⟩
 self:=λ_ _ _ _ _ st h=>wpAny_pyIter_tupleiter st h
theorem aIy{P:Program}{w:World}{K:W.Frag}{tg:Expr}(it:Addr)(lo:Int)(n:Nat):Turn P w K tg (wm lo n) [it] it (λi h=>IsRangeIter h it (lo+(i:Nat)*1) ((n:Int) - (i:Nat)) 1) where
 mem:=by simp
 obj:=λi h st b hb=>by
  have e:b=it:=by simpa using hb
  subst e;exact⟨_,st,λv z=>by
   have z':Data.fields _=Data.cell v:=z;cases z'⟩
 keep:=λi h h' st k=>k it (by simp) _ st
 item:=by
  intro X hP hw hK hc i pins s U H E I hf st hg;subst hP hw hK;obtain⟨f0,f1,f2,f3,f4,f5⟩:=hf it (by simp);have W:=Walks.range (prog:=X.prog) (w:=X.w) (I.ok.hd hc) it lo 1 n;refine W.item i s _ _ hg st λv h' tk hv jk kk=>?_;obtain⟨t,rfl⟩:=hv;have I1:Inv X pins U H { s with heap:=h',toks:=tk }:=I.turned (λb o hb e=>kk b o (by simpa using hb) e) f0 f1 f3 f4 f5;refine⟨_,rfl,LZ (s:={ s with heap:=h',toks:=tk }) (n:="range_iterator") jk rfl rfl (by decide) ⟨.int (lo+i),H,I1,⟨t,?_⟩,⟨rfl,rfl⟩,jk,λb hb=>(hf b hb).1⟩⟩;rw[CF]
 done:=by
  intro X hP hw hK hc i pins s U H E I hf st hg;subst hP hw hK;obtain⟨f0,f1,f2,f3,f4,f5⟩:=hf it (by simp);exact wpAny_pyNext_range_end (I.ok.hd hc) st (by have:n<=i:=hg;lia) λh' eb=>⟨rfl,I.turned (t':=s.toks) (λb o hb e=>eb b o hb e) f0 f1 f3 f4 f5⟩
 self:=λ_ _ _ _ _ st h=>wpAny_pyIter_rangeiter st h
section
variable{X:Cx}{tg:Expr}
def Ql(K:W.Frag)(tl:TE):TI:=λU H R=>tl U H λx H1=>∃a,x=.ref a/\(∃xs,bP K H1 a xs)/\R (xr K a) H1
def PM(K:W.Frag)(tl:TE):TI:=λU H R=>tl U H λx H1=>∃a,x=.ref a/\(∃xs,iF K H1 a xs)/\R (zu K a) H1
theorem aNJ{l:Expr}{tl:TE}(hl:PE X l tl):PI X tg l (Ql X.K tl):=by
 intro pins s U H R I h;refine eG (hl pins s U H _ I h) λv s1 zq=>?_;obtain⟨x,H1,I1,r1,q1⟩:=zq;obtain⟨a,e,⟨xs,hq⟩,q⟩:=q1;subst e;cases r1;obtain⟨its,rv,p,hz⟩:=I1.list hq;refine wpAny_pyIter_list p.isList ?_;refine⟨s1.heap.objs.size,[s1.heap.objs.size],_,_,H1,rfl,I1.kept (t':=s1.toks) λb o e=>fR _ e,aKk a _,⟨_,qI _ rfl,rfl,rfl⟩,λb hb=>?_,q⟩;have e:b=s1.heap.objs.size:=by simpa using hb
 subst e;exact I1.AR (eR _) (I1.bc.fresh (eR _))
theorem aP8{l:Expr}{tl:TE}(hl:PE X l tl):PI X tg l (PM X.K tl):=by
 intro pins s U H R I h;refine eG (hl pins s U H _ I h) λv s1 zq=>?_;obtain⟨x,H1,I1,r1,q1⟩:=zq;obtain⟨a,e,⟨xs,hq⟩,q⟩:=q1;subst e;cases r1;obtain⟨its,rv,p,hz⟩:=I1.tuple hq;refine wpAny_pyIter_tuple (show s1.heap.IsTuple a its.toArray from p) ?_;refine⟨s1.heap.objs.size,[s1.heap.objs.size],_,_,H1,rfl,I1.kept (t':=s1.toks) λb o e=>fR _ e,aIx a _,⟨_,qI _ rfl,rfl,rfl⟩,λb hb=>?_,q⟩;have e:b=s1.heap.objs.size:=by simpa using hb
 subst e;exact I1.AR (eR _) (I1.bc.fresh (eR _))
theorem aHg{s:Shared}{R:It->Hp->Prop}{E:ak}{lo hi:Int}{t u v:Tok}{tk:Nat}(I:Inv X pins U H s)(h1:-(2 ^ 62)<=lo)(h2:lo < 2 ^ 62)(h3:-(2 ^ 62)<=hi)(h4:hi < 2 ^ 62)(q:R (wm lo (hi - lo).toNat) H):wpAny (model X.prog X.w) X.A (pyIter (.ref s.heap.objs.size)) (PIE X pins U tg R) E { s with heap:=s.heap.push { cls:=.type "range",data:=.fields #[.int lo t,.int hi u,.int 1 v] },toks:=tk }:=by
 refine wpAny_pyIter_range (IsRange.new ..) (small_one h1 h2 h3 h4) ?_;have I1:Inv X pins U H { s with heap:=s.heap.push { cls:=.type "range",data:=.fields #[.int lo t,.int hi u,.int 1 v] },toks:=tk }:=I.kept λb o e=>fR _ e;refine⟨(s.heap.push { cls:=.type "range",data:=.fields #[.int lo t,.int hi u,.int 1 v] }).objs.size,[(s.heap.push { cls:=.type "range",data:=.fields #[.int lo t,.int hi u,.int 1 v] }).objs.size],_,_,H,rfl,
  I1.kept (t':=tk) λb o e=>fR _ e,aIy _ lo (hi - lo).toNat,?_,λb hb=>?_,q⟩
 ·have e1:lo+((0:Nat):Int)*1=lo:=by simp
  have e2:(((hi - lo).toNat:Nat):Int) - ((0:Nat):Int)=Builtin.Range.rangeSize lo hi 1:=by rw[rangeSize_one];split <;> lia
  show IsRangeIter _ _ (lo+((0:Nat):Int)*1) ((((hi - lo).toNat:Nat):Int) - ((0:Nat):Int)) 1;rw[e1,e2];exact qI _ rfl
 ·have e:b=(s.heap.push { cls:=.type "range",data:=.fields #[.int lo t,.int hi u,.int 1 v] }).objs.size:=by simpa using hb
  subst e;exact I1.AR (eR _) (I1.bc.fresh (eR _))
def LY(ta:TA):TI:=λU H R=>ta U H λvs H1=>∃j:Int,vs=[.int j]/\-(2 ^ 62)<=j/\j < 2 ^ 62/\R (wm 0 j.toNat) H1
def LX(ta:TA):TI:=λU H R=>ta U H λvs H1=>∃i j:Int,vs=[.int i,.int j]/\(-(2 ^ 62)<=i/\i < 2 ^ 62/\-(2 ^ 62)<=j/\j < 2 ^ 62)/\R (wm i (j - i).toNat) H1
theorem aKl(hg:Gl X "range")(hm:X.mg "range" = none)(ha:PA X [a] ta)(hs:starEach [a] X.env=[(false,eval a X.env)]:=by rfl):PI X tg (.Call (.Name "range" p) [a] [] pos) (LY ta):=by
 intro pins s U H R I h;refine Call_ (oJ I hg hm boot_range (PyProof.Rows.callWith_type1 (eG (ha pos pins s U H _ I h) λus s1 zq=>?_) hs rfl));obtain⟨vs,H1,I1,r1,q1⟩:=zq;obtain⟨j,e,q1,q2,q⟩:=q1;subst e;cases r1 with
 |cons r rr=>
  cases rr;obtain⟨t,rfl⟩:=r;exact call_range_1 (aHg I1 (by lia) (by lia) q1 q2 (by simpa using q))
theorem aKm(hg:Gl X "range")(hm:X.mg "range" = none)(ha:PA X [a,b] ta)(hs:starEach [a,b] X.env=[(false,eval a X.env),(false,eval b X.env)]:=by rfl)(fc:starEach [b] X.env=[(false,eval b X.env)]:=by rfl) :
  PI X tg (.Call (.Name "range" p) [a,b] [] pos) (LX ta):=by
 intro pins s U H R I h;refine Call_ (oJ I hg hm boot_range (PyProof.Rows.callWith_type1 (eG (ha pos pins s U H _ I h) λus s1 ⟨vs,H1,I1,r1,q1⟩=>?_) (by rw[hs,fc]) (by rw[fc];rfl)));obtain⟨i,j,e,⟨q1,q2,q3,q4⟩,q⟩:=q1;subst e;cases r1 with
 |cons r rr=>
  cases rr with
  |cons r' rr=>
   cases rr;obtain⟨t,rfl⟩:=r;obtain⟨t',rfl⟩:=r';exact call_range_2 (aHg I1 q1 q2 q3 q4 q)
def PL(wi:TI)(g:TG)(tb:TS):TS:=λD U H=>wi U H λJ H1=>∃W:Nat->Nat->St->Hp->Prop,(∃m,W 0 m U H1)/\∀i m U H,W i m U H->
 (J.stop i H/\D.nx U H)\/(J.go i H/\∃N:St->Hp->Prop,(∀U' H',N U' H'->∃m',m' < m/\W (i+1) m' U' H')/\∀x H',J.tf i H x H'->g x U H' λσ2 H2=>tb { D with nx:=N,ct:=N,bk:=D.nx } σ2 H2)
def Hx(fp:ao)(h:Heap):ar:=fp.filterMap λb=>(h.get? b).map λo=>(b,o)
theorem rY{h:Heap}(hb:b∈fp)(e:h.get? b=some o):(b,o)∈Hx fp h:=List.mem_filterMap.mpr ⟨b,hb,by rw[e];rfl⟩
theorem aKn{h:Heap}{p:Addr×Obj}(hp:p∈Hx fp h):p.1∈fp/\h.get? p.1=some p.2:=by
 obtain⟨b,hb,e⟩:=List.mem_filterMap.mp hp;cases q:h.get? b with
 |none=>rw[q] at e;cases e
 |some o=>
  rw[q] at e;have e':(b,o)=p:=Option.some.inj e;subst e';exact⟨hb,q⟩
theorem Inv.pinned{s:Shared}(I:Inv X pins U H s)(hf:∀b∈fp,wa X pins H b)(ho:∀b∈fp,∃o,s.heap.get? b=some o/\∀v,o.data≠.cell v):Inv X (pins++Hx fp s.heap) U H s:=
 I.Mv λp hp=>(nz.mp hp).elim (λz=>I.pin p (uf _ z)) λz=>by
  obtain⟨hb,e⟩:=aKn z;obtain⟨f0,f1,f2,_⟩:=hf p.1 hb;obtain⟨o,e',d⟩:=ho p.1 hb;rw[e] at e';cases e';exact⟨e,f0,f1,f2,d⟩
theorem Inv.MC(I:Inv X (pins++pl) U H s):Inv X pins U H s:=I.Mv λp hp=>I.pin p (uf _ (Bx _ hp))
theorem aQa(hp:PassesOwn (model X.prog X.w) X.A X.env X.xe)(hc:X.calm=true)(hi:PI X tg iter wi)(hg:PG X tg g)(hb:uu X body tb)(hs:∀x,foldedSetIterable iter X.env x=pure x:=by intro _;rfl):PS X (.For tg iter body [] pos) (PL wi g tb):=by
 intro pins s U H D I h;refine wpAny_For (eG (hi pins s U H _ I h) λv s1 h1=>eG h1 λKu s2 h2=>?_) hs;obtain⟨it,fp,tn,J,H2,e,I2,T,Gi,f2,W,⟨m0,w0⟩,turn⟩:=h2;subst e;have ve:∀{H':Hp},(∀b∈fp,H' b=none)->∀b∈fp,wa X pins H' b:=λhn b hb=>⟨hn b hb,(f2 b hb).2⟩
 refine codeAny_forLoop_any (λn s'=>∃i U' H',Inv X pins U' H' s'/\tn i s'.heap/\(∀b∈fp,H' b=none)/\W i n U' H') ?_ m0 ⟨0,U,H2,I2,Gi,λb hb=>(f2 b hb).1,w0⟩;rintro n s3 ⟨i,σ3,H3,I3,Wq,X1,w3⟩;rcases turn i n σ3 H3 w3 with ⟨stop,qn⟩|⟨go,N,hN,step⟩
 ·refine wpAny_passesOwn hp (eG (T.done X rfl rfl rfl hc i pins s3 σ3 H3 X.xe I3 (ve X1) Wq stop) λr s4 ⟨hr,I4⟩=>?_);subst hr;exact wpAny_execs_nil ⟨σ3,H3,I4,qn⟩
 ·refine wpAny_passesOwn hp (eG (T.item X rfl rfl rfl hc i pins s3 σ3 H3 X.xe I3 (ve X1) Wq go) λr s4 ⟨u,hr,h4⟩=>?_);subst hr;refine wpAny_passesOwn hp (eG h4 λ_ s5 zq=>?_);obtain⟨x,H5,I5,r5,y5,Dd,OY⟩:=zq;have R5:=I5.pinned (ve OY) (T.obj _ _ Dd);refine wpAny_passesOwn hp (eG (hg _ s5 σ3 H5 x u _ R5 r5 (step x H5 y5)) λ_ s6 zq=>?_);obtain⟨σ6,H6,I6,q6⟩:=zq;refine wpAny_passesOwn hp (eG (hb _ s6 σ6 H6 _ I6 q6) λf s7 q7=>?_);have again:∀{σ7:St} {H7:Hp},Inv X (pins++Hx fp s5.heap) σ7 H7 s7->N σ7 H7->∃m,m < n/\∃i U' H',Inv X pins U' H' s7/\tn i s7.heap/\(∀b∈fp,H' b=none)/\W i m U' H':=λ{σ7 H7} I7 n7=>by
   obtain⟨m',hm,w7⟩:=hN σ7 H7 n7;refine⟨m',hm,i+1,σ7,H7,I7.MC,T.keep _ _ _ Dd λb hb o e=>(I7.pin (b,o) (uf _ (uf _ (rY hb e)))).1,λb hb=>?_,w7⟩;obtain⟨o,e,d⟩:=T.obj _ _ Dd b hb;exact(I7.pin (b,o) (uf _ (uf _ (rY hb e)))).2.1
  cases f with
  |next=>obtain⟨σ7,H7,I7,n7⟩:=q7;exact again I7 n7
  |cont=>obtain⟨σ7,H7,I7,n7⟩:=q7;exact again I7 n7
  |brk=>obtain⟨σ7,H7,I7,q7⟩:=q7;exact⟨σ7,H7,I7.MC,q7⟩
  |ret v=>obtain⟨x7,σ7,H7,I7,r7,q7⟩:=q7;exact⟨x7,σ7,H7,I7.MC,r7,q7⟩
end
theorem aLE{K:W.Frag}{a:Addr}{xs:List V}{g:TG}{tb:TS}{D:Ends}{U:St}{H:Hp}(Pv:Nat->St->Hp->Prop)(h0:Pv 0 U H)(hl:∀i U H,i<=xs.length->Pv i U H->bP K H a xs)
  (hs:∀i x U H,xs[i]?=some x->Pv i U H->g x U H λσ2 H2=>tb { D with nx:=Pv (i+1),ct:=Pv (i+1),bk:=D.nx } σ2 H2) (hd:∀U H,Pv xs.length U H->D.nx U H) :
  ∃W:Nat->Nat->St->Hp->Prop,(∃m,W 0 m U H)/\∀i m U H,W i m U H->
   ((xr K a).stop i H/\D.nx U H)\/((xr K a).go i H/\∃N:St->Hp->Prop,(∀U' H',N U' H'->∃m',m' < m/\W (i+1) m' U' H')/\∀x H',(xr K a).tf i H x H'->g x U H' λσ2 H2=>tb { D with nx:=N,ct:=N,bk:=D.nx } σ2 H2):=by
 refine⟨λi m U H=>m=xs.length - i/\i<=xs.length/\Pv i U H,⟨xs.length,by simp,nv _,h0⟩,?_⟩;rintro i m U H ⟨rfl,hi,p⟩;have q:=hl i U H hi p;by_cases fi:i < xs.length
 ·refine .inr ⟨⟨xs,xs[i],q,by simp[fi]⟩,Pv (i+1),λU' H' p'=>⟨xs.length - (i+1),by lia,rfl,fi,p'⟩,λx H' y=>?_⟩;obtain⟨e,y⟩:=y;subst e;exact hs i x U _ (y xs q) p
 ·have e:i=xs.length:=by lia
  subst e;exact .inl ⟨⟨xs,q,eR _⟩,hd U H p⟩
theorem aNK{K:W.Frag}{a:Addr}{xs:List V}{g:TG}{tb:TS}{D:Ends}{U:St}{H:Hp}(Pv:Nat->St->Hp->Prop)(h0:Pv 0 U H)(hl:∀i U H,i<=xs.length->Pv i U H->iF K H a xs)
  (hs:∀i x U H,xs[i]?=some x->Pv i U H->g x U H λσ2 H2=>tb { D with nx:=Pv (i+1),ct:=Pv (i+1),bk:=D.nx } σ2 H2) (hd:∀U H,Pv xs.length U H->D.nx U H) :
  ∃W:Nat->Nat->St->Hp->Prop,(∃m,W 0 m U H)/\∀i m U H,W i m U H->
   ((zu K a).stop i H/\D.nx U H)\/((zu K a).go i H/\∃N:St->Hp->Prop,(∀U' H',N U' H'->∃m',m' < m/\W (i+1) m' U' H')/\∀x H',(zu K a).tf i H x H'->g x U H' λσ2 H2=>tb { D with nx:=N,ct:=N,bk:=D.nx } σ2 H2):=by
 refine⟨λi m U H=>m=xs.length - i/\i<=xs.length/\Pv i U H,⟨xs.length,by simp,nv _,h0⟩,?_⟩;rintro i m U H ⟨rfl,hi,p⟩;have q:=hl i U H hi p;by_cases fi:i < xs.length
 ·refine .inr ⟨⟨xs,xs[i],q,by simp[fi]⟩,Pv (i+1),λU' H' p'=>⟨xs.length - (i+1),by lia,rfl,fi,p'⟩,λx H' y=>?_⟩;obtain⟨e,y⟩:=y;subst e;exact hs i x U _ (y xs q) p
 ·have e:i=xs.length:=by lia
  subst e;exact .inl ⟨⟨xs,q,eR _⟩,hd U H p⟩
theorem aKo{lo:Int}{n:Nat}{g:TG}{tb:TS}{D:Ends}{U:St}{H:Hp}(Pv:Nat->St->Hp->Prop)(h0:Pv 0 U H)
  (hs:∀i U H,i < n->Pv i U H->g (.int (lo+i)) U H λσ2 H2=>tb { D with nx:=Pv (i+1),ct:=Pv (i+1),bk:=D.nx } σ2 H2) (hd:∀U H,Pv n U H->D.nx U H) :
  ∃W:Nat->Nat->St->Hp->Prop,(∃m,W 0 m U H)/\∀i m U H,W i m U H->
   ((wm lo n).stop i H/\D.nx U H)\/((wm lo n).go i H/\∃N:St->Hp->Prop,(∀U' H',N U' H'->∃m',m' < m/\W (i+1) m' U' H')/\∀x H',(wm lo n).tf i H x H'->g x U H' λσ2 H2=>tb { D with nx:=N,ct:=N,bk:=D.nx } σ2 H2):=by
 refine⟨λi m U H=>m=n - i/\i<=n/\Pv i U H,⟨n,by simp,nv _,h0⟩,?_⟩;rintro i m U H ⟨rfl,hi,p⟩;by_cases fi:i < n
 ·refine .inr ⟨fi,Pv (i+1),λU' H' p'=>⟨n - (i+1),by lia,rfl,fi,p'⟩,λx H' y=>?_⟩;obtain⟨e,y⟩:=y;subst e y;exact hs i U _ fi p
 ·have e:i=n:=by lia
  subst e;exact .inl ⟨eR _,hd U H p⟩
abbrev R2:=V->V->Hp->VK->Prop
def uM(X:Cx)(f:Value->Value->Sem Value)(r:R2):Prop:=
 ∀(pins:ar) (s:Shared) (U:St) (H:Hp) (x y:V) (v u:Value) (Q:VK),Inv X pins U H s->RelV x v->RelV y u->r x y H Q->
  wpAny (model X.prog X.w) X.A (f v u) (EP X pins U Q) X.xe s
def MJ(X:Cx)(f:Value->Sem Value)(r:V->Hp->VK->Prop):Prop:=
 ∀(pins:ar) (s:Shared) (U:St) (H:Hp) (x:V) (v:Value) (Q:VK),Inv X pins U H s->RelV x v->r x H Q->
  wpAny (model X.prog X.w) X.A (f v) (EP X pins U Q) X.xe s
def fK(X:Cx)(f:Value)(r:List V->Hp->VK->Prop):Prop:=
 ∀(pins:ar) (s:Shared) (U:St) (H:Hp) (xs:List V) (us:ah) (Q:VK),Inv X pins U H s->Vals xs us->r xs H Q->
  wpAny (model X.prog X.w) X.A (call f us) (EP X pins U Q) X.xe s
def A3(r:R2)(ta tb:TE):TE:=λU H Q=>ta U H λx H1=>tb U H1 λy H2=>r x y H2 Q
def Nf(r:V->Hp->VK->Prop)(ta:TE):TE:=λU H Q=>ta U H λx H1=>r x H1 Q
def rI(C:Int->Int->Prop)(g:Int->Int->V):R2:=λx y H Q=>∃i j,x=.int i/\y=.int j/\C i j/\Q (g i j) H
def Av(g:Int->Int->V):R2:=λx y H Q=>∃i j,x=.int i/\y=.int j/\Q (g i j) H
def rU(g:Int->V):V->Hp->VK->Prop:=λx H Q=>∃i,x=.int i/\Q (g i) H
section
variable{X:Cx}{a b c:Expr}{ta tb tc:TE}{pos:Pos}
theorem Po(ha:PE X a ta)(hb:PE X b tb){R:V->V->Hp->Prop}(I:Inv X pins U H s)(h:ta U H λx H1=>tb U H1 λy H2=>R x y H2){Q:ak}{f:Value->Value->Sem Value}(hf:∀v u s2 x y H2,Inv X pins U H2 s2->RelV x v->RelV y u->R x y H2->wpAny (model X.prog X.w) X.A (f v u) Q X.xe s2) :
  wpAny (model X.prog X.w) X.A (eval a X.env) (λv az=>wpAny (model X.prog X.w) X.A (eval b X.env) (λu oj=>wpAny (model X.prog X.w) X.A (f v u) Q X.xe oj) X.xe az) X.xe s:=by
 refine eG (ha pins s U H _ I h) λv s1 zq=>?_;obtain⟨x,H1,I1,r1,q1⟩:=zq;refine eG (hb pins s1 U H1 _ I1 q1) λu s2 zq=>?_;obtain⟨y,H2,I2,r2,q2⟩:=zq;exact hf v u s2 x y H2 I2 r1 r2 q2
theorem aRF(ho:uM X (binaryOp op) r)(ha:PE X a ta)(hb:PE X b tb):PE X (.BinOp a op b pos) (A3 r ta tb):=by
 intro pins s U H Q I h;exact wpAny_BinOp (Po ha hb I h λv u s2 x y H2 I2 rx ry q=>ho pins s2 U H2 x y v u Q I2 rx ry q)
theorem aRG{r:V->Hp->VK->Prop}(ho:MJ X (unaryOp op) r)(ha:PE X a ta):PE X (.UnaryOp op a pos) (Nf r ta):=by
 intro pins s U H Q I h;exact UnaryOp_ (eG (ha pins s U H _ I h) λv s1 ⟨x,H1,I1,r1,q1⟩=>ho pins s1 U H1 x v Q I1 r1 q1)
theorem Kn{f:Value->Value->Sem Value}{C:Int->Int->Prop}{g:Int->Int->Int}
  (rule:∀(i j:Int) (t u:Tok) (s:Shared) (Q:ak) (E:ak),C i j->Q (.int (g i j) s.toks) { s with toks:=s.toks+1 }->wpAny (model X.prog X.w) X.A (f (.int i t) (.int j u)) Q E s) :
  uM X f (rI C λi j=>.int (g i j)):=by
 intro pins s U H x y v u Q I rx ry h;obtain⟨i,j,rfl,rfl,hc,q⟩:=h;obtain⟨t,rfl⟩:=rx;obtain⟨t',rfl⟩:=ry;exact rule i j t t' s _ _ hc ⟨.int (g i j),H,I.tok _,⟨_,rfl⟩,q⟩
theorem Zf{f:Value->Value->Sem Value}{g:Int->Int->Int}
  (rule:∀(i j:Int) (t u:Tok) (s:Shared) (Q:ak) (E:ak),Q (.int (g i j) s.toks) { s with toks:=s.toks+1 }->wpAny (model X.prog X.w) X.A (f (.int i t) (.int j u)) Q E s) :
  uM X f (Av λi j=>.int (g i j)):=by
 intro pins s U H x y v u Q I rx ry h;obtain⟨i,j,rfl,rfl,q⟩:=h;obtain⟨t,rfl⟩:=rx;obtain⟨t',rfl⟩:=ry;exact rule i j t t' s _ _ ⟨.int (g i j),H,I.tok _,⟨_,rfl⟩,q⟩
theorem LL{f:Value->Value->Sem Value}{g:Int->Int->Bool}
  (rule:∀(i j:Int) (t u:Tok) (s:Shared) (Q:ak) (E:ak),Q (.bool (g i j)) s->wpAny (model X.prog X.w) X.A (f (.int i t) (.int j u)) Q E s) :
  uM X f (Av λi j=>.bl (g i j)):=by
 intro pins s U H x y v u Q I rx ry h;obtain⟨i,j,rfl,rfl,q⟩:=h;obtain⟨t,rfl⟩:=rx;obtain⟨t',rfl⟩:=ry;exact rule i j t t' s _ _ ⟨.bl (g i j),H,I,rfl,q⟩
def aSA(i j:Int):Prop:=0 < j/\j < 1073741824
def aSB(i j:Int):Prop:=0<=j/\j<=1000000/\i.natAbs < 2 ^ 64
def Hh(i j:Int):Prop:=(-(2 ^ 64) < i/\i < 2 ^ 64)\/(-(2 ^ 64) < j/\j < 2 ^ 64)
theorem Hh.ok{i j:Int}(h:Hh i j):IntMulOk i j:=by
 rcases h with ⟨h1,h2⟩|⟨h1,h2⟩
 ·exact .of_left (intBits_le_64 h1 h2)
 ·exact .of_right (intBits_le_64 h1 h2)
theorem aQc:uM X (binaryOp .Add) (Av λi j=>.int (i+j)):=Zf λ_ _ _ _ _ _ _ q=>add_int q
theorem jR:uM X (binaryOp .Sub) (Av λi j=>.int (i - j)):=Zf λ_ _ _ _ _ _ _ q=>sub_int q
theorem aQd:uM X (binaryOp .Mult) (rI Hh λi j=>.int (i*j)):=Kn λ_ _ _ _ _ _ _ hc q=>mul_int q hc.ok
theorem HH:uM X (binaryOp .FloorDiv) (rI aSA λi j=>.int (i / j)):=Kn λi j _ _ _ _ _ hc q=>by
 have h1:(0:Int) < j:=hc.1;have h2:j < 1073741824:=hc.2;exact floordiv_int (by lia) (by rw[Int.fdiv_eq_ediv_of_nonneg i (by lia)];exact q) (.inl (PyProof.noPylong_small (by lia)))
theorem qJ:uM X (binaryOp .Mod) (rI (λ_ j=>0 < j) λi j=>.int (i % j)):=Kn λi j _ _ _ _ _ hc q=>by
 have h1:(0:Int) < j:=hc;exact mod_int' (by lia) (by rw[Int.fmod_eq_emod_of_nonneg i (by lia)];exact q)
theorem Hw:uM X (binaryOp .Pow) (rI aSB λi j=>.int (i ^ j.toNat)):=Kn λ_ _ _ _ _ _ _ hc q=>pow_int_small hc.1 hc.2.1 hc.2.2 q
theorem unI{f:Value->Sem Value}{g:Int->Int}
  (rule:∀(i:Int) (t:Tok) (s:Shared) (Q:ak) (E:ak),Q (.int (g i) s.toks) { s with toks:=s.toks+1 }->wpAny (model X.prog X.w) X.A (f (.int i t)) Q E s) :
  MJ X f (rU λi=>.int (g i)):=by
 intro pins s U H x v Q I rx h;obtain⟨i,rfl,q⟩:=h;obtain⟨t,rfl⟩:=rx;exact rule i t s _ _ ⟨.int (g i),H,I.tok _,⟨_,rfl⟩,q⟩
theorem uS:MJ X (unaryOp .USub) (rU λi=>.int (-i)):=unI λ_ _ _ _ _ q=>neg_int q
theorem Hl:uM X (compareOp .Lt) (Av λi j=>.bl (decide (i < j))):=LL λ_ _ _ _ _ _ _ q=>lt_int q
theorem Cz:uM X (compareOp .LtE) (Av λi j=>.bl (decide (i<=j))):=LL λ_ _ _ _ _ _ _ q=>le_int q
theorem rB:uM X (compareOp .Gt) (Av λi j=>.bl (decide (j < i))):=LL λ_ _ _ _ _ _ _ q=>gt_int q
theorem Zz:uM X (compareOp .GtE) (Av λi j=>.bl (decide (j<=i))):=LL λ_ _ _ _ _ _ _ q=>ge_int q
theorem uM.or{f:Value->Value->Sem Value}{r':R2}(h:uM X f r)(h':uM X f r'):uM X f (λx y H Q=>r x y H Q\/r' x y H Q):=by
 intro pins s U H x y v u Q I rx ry q;rcases q with q|q
 ·exact h pins s U H x y v u Q I rx ry q
 ·exact h' pins s U H x y v u Q I rx ry q
theorem bD(b:Expr)(h:op≠.In:=by decide)(h2:op≠.NotIn:=by decide):behindInMarks op b=false:=by
 have e1:(op == CmpOp.In)=false:=by cases op <;> first|rfl|exact absurd rfl h
 have e2:(op == CmpOp.NotIn)=false:=by cases op <;> first|rfl|exact absurd rfl h2
 cases b <;> simp[behindInMarks,e1,e2]
theorem aNM(ho:uM X (compareOp op) r)(ha:PE X a ta)(hb:PE X b tb)(hm:behindInMarks op b=false):PE X (.Compare a [op] [b] pos) (A3 r ta tb):=by
 intro pins s U H Q I h;exact wpAny_Compare1 (Po ha hb I h λv u s2 x y H2 I2 rx ry q=>ho pins s2 U H2 x y v u Q I2 rx ry q) hm
def Qk(t:TE):TT:=λU H Q=>t U H λx H'=>∃k,x=.bl k/\Q k H'
theorem aNN(ho:uM X (compareOp op) r)(ha:PE X a ta)(hb:PE X b tb)(hm:behindInMarks op b=false):PT X (.Compare a [op] [b] pos) (Qk (A3 r ta tb)):=by
 intro pins s U H Q I h;refine wpAny_isTrue_Compare1 (eG (ha pins s U H _ I h) λv s1 ⟨x,H1,I1,r1,q1⟩=>eG (hb pins s1 U H1 _ I1 q1) λu s2 ⟨y,H2,I2,r2,q2⟩=>
  eG (ho pins s2 U H2 x y v u _ I2 r1 r2 q2) λc s3 ⟨z,H3,I3,r3,k,e,q3⟩=>?_) hm
 subst e;cases r3;exact wpAny_truthy_bool ⟨H3,I3,q3⟩
def QF(r r':R2)(ta tb tc:TE):TE:=λU H Q=>ta U H λx H1=>tb U H1 λy H2=>r x y H2 λz H3=>∃k,z=.bl k/\
 (if k=true then tc U H3 λw' H4=>r' y w' H4 Q else Q (.bl false) H3)
theorem aLH(ho:uM X (compareOp op) r)(zd:uM X (compareOp Gu) r')(ha:PE X a ta)(hb:PE X b tb)(hc:PE X c tc)(hm:lastMarks [op,Gu] [b,c]=false:=by with_unfolding_all rfl):PE X (.Compare a [op,Gu] [b,c] pos) (QF r r' ta tb tc):=by
 intro pins s U H Q I h;refine Compare_chain (eG (ha pins s U H _ I h) λv s1 ⟨x,H1,I1,r1,q1⟩=>chain_link (eG (hb pins s1 U H1 _ I1 q1) λu s2 ⟨y,H2,I2,r2,q2⟩=>
  eG (ho pins s2 U H2 x y v u _ I2 r1 r2 q2) λd s3 ⟨z,H3,I3,r3,k,e,q3⟩=>?_)) hm
 subst e;cases r3;refine wpAny_truthy_bool ?_;cases k with
 |false=>exact ite_ff ⟨.bl false,H3,I3,rfl,q3⟩
 |true=>exact ite_tt (chain_last (eG (hc pins s3 U H3 _ I3 q3) λw' s4 ⟨z',H4,I4,r4,q4⟩=>zd pins s4 U H4 y z' u w' Q I4 r2 r4 q4))
theorem FR:(sizeLine:Nat) < 2 ^ 63:=by rw[uz];decide
theorem vals1(r:Vals [x] us):∃u,us=[u]/\RelV x u:=by
 cases r with
 |cons r1 r2=>cases r2;exact⟨_,rfl,r1⟩
theorem vals2(r:Vals [x,y] us):∃u w',us=[u,w']/\RelV x u/\RelV y w':=by
 cases r with
 |cons r1 r2=>
  cases r2 with
  |cons r3 r4=>cases r4;exact⟨_,_,rfl,r1,r3⟩
theorem aLI:fK X (.builtin "abs") (λxs H Q=>∃i,xs=[.int i]/\Q (.int (if i < 0 then -i else i)) H):=by
 intro pins s U H xs us Q I r h;obtain⟨i,rfl,q⟩:=h;obtain⟨u,rfl,t,rfl⟩:=vals1 r;exact call_abs_int λu tk=>⟨.int (if i < 0 then -i else i),H,I.tok _,⟨_,rfl⟩,q⟩
theorem aKp(hc:X.calm=true):fK X (.builtin "max") (λxs H Q=>∃i j,xs=[.int i,.int j]/\Q (.int (if j > i then j else i)) H):=by
 intro pins s U H xs us Q I r h;obtain⟨i,j,rfl,q⟩:=h;obtain⟨u,w',rfl,⟨t,rfl⟩,⟨t',rfl⟩⟩:=vals2 r;refine max_two_ints (I.ok.hd hc) λh' tk k=>⟨_,H,I.kept k,?_,q⟩
 by_cases hj:j > i
 ·rw[dO hj,dO hj];exact⟨_,rfl⟩
 ·rw[cU hj,cU hj];exact⟨_,rfl⟩
theorem aKq(hc:X.calm=true):fK X (.builtin "min") (λxs H Q=>∃i j,xs=[.int i,.int j]/\Q (.int (if j < i then j else i)) H):=by
 intro pins s U H xs us Q I r h;obtain⟨i,j,rfl,q⟩:=h;obtain⟨u,w',rfl,⟨t,rfl⟩,⟨t',rfl⟩⟩:=vals2 r;refine min_two_ints (I.ok.hd hc) λh' tk k=>⟨_,H,I.kept k,?_,q⟩
 by_cases hj:j < i
 ·rw[dO hj,dO hj];exact⟨_,rfl⟩
 ·rw[cU hj,cU hj];exact⟨_,rfl⟩
theorem aKr:fK X (.type "int") (λxs H Q=>(∃i,xs=[.int i]/\Q (.int i) H)\/∃k,xs=[.bl k]/\Q (.int (if k then 1 else 0)) H):=by
 intro pins s U H xs us Q I r h;rcases h with ⟨i,rfl,q⟩|⟨k,rfl,q⟩
 ·obtain⟨u,rfl,t,rfl⟩:=vals1 r;exact call_int_int ⟨.int i,H,I,⟨_,rfl⟩,q⟩
 ·obtain⟨u,rfl,r1⟩:=vals1 r;cases r1;exact call_int_bool ⟨.int (if k then 1 else 0),H,I.tok _,⟨_,rfl⟩,q⟩
def Ze(K:W.Frag)(x:V)(H:Hp)(n:Nat):Prop:=
 match x with
 |.str y=>y.length<=sizeLine/\n=y.length
 |.Fi y=>y.size<=sizeLine/\n=y.size
 |.ref p=>(∃xs,bP K H p xs/\n=xs.length)\/∃xs,iF K H p xs/\n=xs.length
 |_=>False
theorem aLJ:fK X (.builtin "len") (λxs H Q=>∃x n,xs=[x]/\Ze X.K x H n/\Q (.int n) H):=by
 intro pins s U H xs us Q I r h;obtain⟨x,n,rfl,e,q⟩:=h;obtain⟨u,rfl,rx⟩:=vals1 r;have hl:=FR;have hs:sizeLine=16777216:=uz;cases x with
 |str y=>
  obtain⟨t,rfl⟩:=rx;obtain⟨hy,e'⟩ : y.length<=sizeLine/\n=y.length:=e;subst e';exact len_str (by lia) ⟨.int _,H,I.tok _,⟨_,rfl⟩,q⟩
 |Fi y=>
  obtain⟨t,rfl⟩:=rx;obtain⟨hy,e'⟩ : y.size<=sizeLine/\n=y.size:=e;subst e';exact PySem.W.len_bytes (by lia) ⟨.int _,H,I.tok _,⟨_,rfl⟩,q⟩
 |ref p=>
  cases rx;have e':(∃xs,bP X.K H p xs/\n=xs.length)\/∃xs,iF X.K H p xs/\n=xs.length:=e;rcases e' with ⟨xs,hx,e'⟩|⟨xs,hx,e'⟩
  ·subst e';obtain⟨its,r',pl,hz⟩:=I.list hx;have hlen:=r'.length;exact Calls.call_len_list pl.isList (by simp only[kB];lia) ⟨.int xs.length,H,I.tok _,⟨_,by simp only[kB];rw[hlen]⟩,q⟩
  ·subst e';obtain⟨its,r',pl,hz⟩:=I.tuple hx;have hlen:=r'.length;exact len_tuple pl (by simp only[kB];lia) ⟨.int xs.length,H,I.tok _,⟨_,by simp only[kB];rw[hlen]⟩,q⟩
 |_=>exact(show False from e).elim
end
structure DR(h:Heap)(x dx C:Addr)(mA:Str->aw):Prop where
 obj:h.get? x=some (PySem.W.instObj C dx)
 ns:h.Ns1 dx mA
 ne:dx≠x
theorem aKs{h:Heap}{mA:Str->aw}(n:h.Ns1 dx mA):∃od,h.get? dx=some od/\∀name,PySem.W.lookIn name od=some (mA name):=by
 obtain⟨o,es,ep,ho,hd,hk,_,hm⟩:=n;refine⟨o,ho,λname=>?_⟩;have e:=hm name;unfold nsFind findBy at e;rw[<-Array.find?_toList] at e;unfold PySem.W.lookIn;rw[hd];dsimp only;split
 ·rename_i y q;rw[q] at e;exact congrArg some e
 ·rename_i q;rw[q] at e;have a:es.toList.any (·.refKey)=false:=by
   rw[List.any_eq_false];intro y hy;obtain⟨z,t,Vp⟩:=hk y (Array.mem_toList_iff.mp hy);simp[DictEntry.refKey,Vp]
  have a':¬es.toList.any (·.refKey)=true:=by rw[a];exact lz
  rw[cU a'];exact congrArg some e
theorem DR.look{mA:Str->aw}(I:DR h x dx C mA):∃od,PySem.W.InstAt h x (PySem.W.instObj C dx) C (some od)/\∀name,PySem.W.lookIn name od=some (mA name):=
 let ⟨od,ho,hl⟩:=aKs I.ns
 ⟨od,⟨I.obj,rfl,rfl,ho⟩,hl⟩
section
variable{prog:Program}{w:World}{A:Around}{E:ak}{s:Shared}{K:W.Frag}{x dx C f:Addr}{mA:Str->aw}{name:Str}{v:Value}
theorem get_map{expr:Bool}{Q:ak}(X:K.In s.heap)(I:DR s.heap x dx C mA)(hg:PySem.W.plainGet K C name=true)(hh:PySem.W.hasDictIn K C=true)
  (ha:W.findIn K (.ref C) name=some none) (hv:mA name=some v) (rf:PySem.W.handedIn v=true) (h:Q v { s with toks:=s.toks+1 }) :
  wpAny (model prog w) A (getAttr (.ref x) name expr) Q E s:=by
 obtain⟨od,J,hl⟩:=I.look;exact PySem.W.get_value X J (PySem.W.plainGet_of hg).1 (PySem.W.findObj_own hh ha rfl (by rw[hl,hv])) rf h
theorem aLK{pl:Sem Bool}{Q:Value×ah->Shared->Prop}(X:K.In s.heap)(I:DR s.heap x dx C mA)(hg:PySem.W.plainGet K C name=true)
  (hf:W.findIn K (.ref C) name=some (some (.ref f))) (ht:PySem.W.isFn K (.ref f)=true) (hv:mA name=none) (h:Q (.ref f,[.ref x]) s) :
  wpAny (model prog w) A (getMethod (.ref x) name pl) Q E s:=by
 obtain⟨od,J,hl⟩:=I.look;exact PySem.W.method_fn X J (PySem.W.plainGet_of hg).1 (PySem.W.plainGet_of hg).2 hf (beq_iff_eq.mp ht) (by show(PySem.W.lookIn name od).map (·.isSome)=some false;rw[hl,hv];rfl) h
theorem aNO{ns:aj}{Q:Unit->Shared->Prop}(X:K.In s.heap)(I:DR s.heap x dx C mA)
  (hs:PySem.W.findIn K (.ref C) "__setattr__" = some (some (.builtin "object.__setattr__"))) (hp:PySem.W.plainOver K C=true) (ht:PySem.W.takerIn K C name=some none) (hh:PySem.W.hasDictIn K C=true)
  (hw:PySem.Within mA ns) (hsz:ns.length<=sizeLine)
  (h:∀h',DR h' x dx C (λy=>if y=name then some v else mA y)->Heap.SameBut dx s.heap h'->Q () { s with heap:=h',toks:=s.toks+2 }) :
  wpAny (model prog w) A (setAttr (.ref x) name v) Q E s:=by
 obtain⟨od,J,hl⟩:=I.look;refine PySem.W.set_plain X J hs (PySem.W.osa_open (s:={ s with toks:=s.toks+1 }) (r:=none) X J hp ht λb=>?_);obtain⟨cd,hc,E6⟩:=PySem.W.any_some hh;have hx:s.heap.get? x=some ⟨.ref C,some dx,.plain,#[]⟩:=I.obj;refine bM (eE (bM (bM (wpAny_loadPart hx (bM (PySem.W.Looks.here (s:={ s with toks:=s.toks+1 }) (PySem.W.looks_clsIn X hc) ?_))))));rw[E6];refine eE (a:=some dx) (bM (eE (bM ?_)));refine wpAny_nsSet1 (s:={ s with toks:=s.toks+1 }) I.ns λh' tq fc=>?_;obtain⟨oD,esD,epD,hoD,hdD,hcD⟩:=tq.count (PySem.Within.cons name v hw);refine bM (wpAny_lookBehind hoD (by rw[hdD];exact pastItsLine_dict (mf hcD (by rw[qh];lia))) ?_);exact eE (h _ ⟨(fc.2 _ (Ne.symm I.ne)).trans I.obj,tq,I.ne⟩ fc)
theorem aLL{R:Result->Shared->Prop}(X:K.In s.heap)(hm:PySem.W.makesIn K C=true)(hi:PySem.W.findIn K (.ref C) "__init__" = some (some (.ref f)))(hf:PySem.W.typeIn K (.ref f)=some (.type "function"))(h:codeAny (model prog w) (A.under (.builtin "type.__call__" ⟨.ref C::vs,kw⟩)) (.call (.ref f) ⟨.ref (s.heap.objs.size+1)::vs,kw⟩) (PySem.W.InitBack (s.heap.objs.size+1) R)
   { s with heap:=(s.heap.push PySem.W.emptyDict).push (PySem.W.instObj C s.heap.objs.size) }) :
  codeAny (model prog w) A (.call (.ref C) ⟨vs,kw⟩) R s:=by
 obtain⟨hh,g,d,t,os⟩:=s;exact PySem.W.make_core (PySem.W.makes_of X hm) (PySem.W.looks_findIn X hi) (λself=>PySem.W.bind_fn X self hf) (.inl rfl) h
end
def rZ(f:Str)(v:V):List (Str×V)->List (Str×V)
 |[]=>[(f,v)]
 |(g,x)::r=>if g=f then (g,v)::r else (g,x)::rZ f v r
theorem aCc(f g:Str)(v:V):∀fs:List (Str×V),(rZ f v fs).lookup g=if g=f then some v else fs.lookup g
 |[]=>by
  show List.lookup g [(f,v)]=_;by_cases h:g=f
  ·have hb:(g == f)=true:=beq_iff_eq.mpr h;simp only[List.lookup,hb,dO h]
  ·have hb:(g == f)=false:=beq_eq_false_iff_ne.mpr h;simp only[List.lookup,hb,cU h]
 |(k,x)::r=>by
  have ih:=aCc f g v r;rw[show rZ f v ((k,x)::r)=(if k=f then (k,v)::r else (k,x)::rZ f v r) from rfl];by_cases hk:k=f
  ·rw[dO hk];by_cases h:g=k
   ·have hb:(g == k)=true:=beq_iff_eq.mpr h;simp only[List.lookup,hb,dO (h.trans hk)]
   ·have hb:(g == k)=false:=beq_eq_false_iff_ne.mpr h;simp only[List.lookup,hb,cU (λe:g=f=>h (e.trans hk.symm))]
  ·rw[cU hk];by_cases h:g=k
   ·have hb:(g == k)=true:=beq_iff_eq.mpr h;simp only[List.lookup,hb,cU (λe:g=f=>hk (h.symm.trans e))]
   ·have hb:(g == k)=false:=beq_eq_false_iff_ne.mpr h;simp only[List.lookup,hb];exact ih
theorem RC(f:Str)(v:V):∀fs:List (Str×V),f∈(rZ f v fs).map (·.1)/\∀g,g∈fs.map (·.1)->g∈(rZ f v fs).map (·.1)
 |[]=>⟨by simp[rZ],λg h=>by simp at h⟩
 |(k,x)::r=>by
  obtain⟨i1,i2⟩:=RC f v r;rw[show rZ f v ((k,x)::r)=(if k=f then (k,v)::r else (k,x)::rZ f v r) from rfl];by_cases hk:k=f
  ·rw[dO hk];subst hk;exact⟨by simp,λg h=>by simpa using h⟩
  ·rw[cU hk];refine⟨?_,λg h=>?_⟩
   ·rw[yG];exact md _ i1
   ·rw[yG] at h ⊢;rcases pN.mp h with e|e
    ·exact pN.mpr (.inl e)
    ·exact md _ (i2 g e)
theorem aCd(f:Str)(v:V):∀fs:List (Str×V),(rZ f v fs).length<=fs.length+1
 |[]=>by simp[rZ]
 |(k,x)::r=>by
  have ih:=aCd f v r;rw[show rZ f v ((k,x)::r)=(if k=f then (k,v)::r else (k,x)::rZ f v r) from rfl];by_cases hk:k=f
  ·rw[dO hk,qh,qh];lia
  ·rw[cU hk,qh,qh];lia
theorem uK.some_of(r:uK (some v) o):∃u,o=some u/\RelV v u:=by
 cases o with
 |none=>exact(show False from r).elim
 |some u=>exact⟨u,rfl,r⟩
theorem uK.none_of(r:uK none o):o=none:=by
 cases o with
 |none=>rfl
 |some u=>exact(show False from r).elim
theorem aKt(r:RelV v u):PySem.W.handedIn u=true:=by
 cases v with
 |br=>cases (show u=Value.none from r);rfl
 |bl b=>cases (show u=Value.bool b from r);rfl
 |int i=>obtain⟨t,e⟩:=(show ∃t,u=Value.int i t from r);cases e;rfl
 |str x=>obtain⟨t,e⟩:=(show ∃t,u=Value.str x t from r);cases e;rfl
 |Fi b=>obtain⟨t,e⟩:=(show ∃t,u=Value.bytes b t from r);cases e;rfl
 |rj b=>obtain⟨t,e⟩:=(show ∃t,u=Value.float b t from r);cases e;rfl
 |ref a=>cases (show u=Value.ref a from r);rfl
 |ty n=>cases (show u=Value.type n from r);rfl
section
variable{P:Program}{w:World}{H H':Hp}{h h':Heap}{a C dx:Addr}{fs fs':List (Str×V)}
theorem HG(bc:uL P w H h)(e:H a=some (.ins C dx fs)):∃mA,DR h a dx C mA/\(∀f,uK (fs.lookup f) (mA f))/\PySem.Within mA (fs.map (·.1))/\fs.length<=1000/\H dx=some (.own a):=by
 obtain⟨d,z,ne,ob,mA,n,r,q⟩:=(show bW P w H h a (.ins C dx fs) from bc a _ e)
 exact⟨mA,⟨ob,n,ne⟩,r,q,z,d⟩
end
structure oi(K:W.Frag)(C:Addr):Prop where
 pg:PySem.W.plainGet K C Str.empty=true
 hd:PySem.W.hasDictIn K C=true
 po:PySem.W.plainOver K C=true
 sa:PySem.W.findIn K (.ref C) "__setattr__" = some (some (.builtin "object.__setattr__"))
theorem oi.get{K:W.Frag}{C:Addr}(c:oi K C)(f:Str):PySem.W.plainGet K C f=true:=c.pg
def dQ(K:W.Frag)(C:Addr)(f:Str):Prop:=W.findIn K (.ref C) f=some none
theorem dQ.aRJ{K:W.Frag}{C:Addr}{f:Str}(n:dQ K C f):PySem.W.takerIn K C f=some none:=by
 unfold PySem.W.takerIn;rw[show W.findIn K (.ref C) f=some none from n];rfl
structure Meth(K:W.Frag)(C:Addr)(m:Str)(f:Addr):Prop where
 at_:W.findIn K (.ref C) m=some (some (.ref f))
 fn:PySem.W.isFn K (.ref f)=true
 kp:W.keepIn K (.ref f)=true
section
variable{X:Cx}{pins:ar}{U:St}{H:Hp}{s:Shared}{a C dx:Addr}{fs:List (Str×V)}{f:Str}{v:V}{A:Around}{E:ak}
theorem aIB{b:Bool}{Q:ak}(I:Inv X pins U H s)(e:H a=some (.ins C dx fs))(c:oi X.K C)(n:dQ X.K C f)(l:fs.lookup f=some v)
  (h:∀u s',Inv X pins U H s'->RelV v u->Q u s'):wpAny (model X.prog X.w) A (getAttr (.ref a) f b) Q E s:=by
 obtain⟨mA,O,r,_,_,_⟩:=HG I.bc e;obtain⟨u,hu,ru⟩:=uK.some_of (v:=v) (o:=mA f) (by rw[<-l];exact r f);exact get_map I.rX O (c.get f) c.hd n hu (aKt ru) (h u _ (I.tok _) ru)
theorem aDE{pl:Sem Bool}{Q:Value×ah->Shared->Prop}(I:Inv X pins U H s)(e:H a=some (.ins C dx fs))(c:oi X.K C)(k:Meth X.K C m g)(l:fs.lookup m=none)(h:Q (.ref g,[.ref a]) s):wpAny (model X.prog X.w) A (getMethod (.ref a) m pl) Q E s:=by
 obtain⟨mA,O,r,_,_,_⟩:=HG I.bc e;have hn:mA m=none:=uK.none_of (by rw[<-l];exact r m);exact aLK I.rX O (c.get m) k.at_ k.fn hn h
theorem aIC{Q:Unit->Shared->Prop}(I:Inv X pins U H s)(e:H a=some (.ins C dx fs))(c:oi X.K C)(n:dQ X.K C f)(hl:fs.length < 1000)(ry:RelV y u)(h:∀s',Inv X pins U (upd H a (.ins C dx (rZ f y fs))) s'->Q () s'):wpAny (model X.prog X.w) A (setAttr (.ref a) f u) Q E s:=by
 obtain⟨mA,O,r,wi,_,ho⟩:=HG I.bc e;have hz:(fs.map (·.1)).length<=sizeLine:=by rw[bO,uz];lia
 refine aNO I.rX O c.sa c.po n.aRJ c.hd wi hz λh' O' sb=>h _ ?_;have hd:∃o,h'.get? dx=some o:=let ⟨o,_,_,e',_⟩:=O'.ns;⟨o,e'⟩
 refine I.write (x:=a) (e:=dx) (by rw[e];exact True.intro) (.inr ho) (λb q hb z=>(sb.2 b hb).trans z) hd ?_;refine⟨by rw[aV O.ne];exact ho,?_,O.ne,O'.obj,_,O'.ns,λg=>?_,λg hg=>?_⟩
 ·have:=aCd f y fs;lia
 ·show uK ((rZ f y fs).lookup g) (if g=f then some u else mA g);rw[aCc];by_cases q:g=f
  ·rw[dO q,dO q];exact ry
  ·rw[cU q,cU q];exact r g
 ·by_cases q:g=f
  ·rw[q];exact(RC f y fs).1
  ·refine(RC f y fs).2 g (wi g λz=>hg ?_);show(if g=f then some u else mA g)=none;rw[cU q];exact z
theorem Inv.made(I:Inv X pins U H s):Inv X pins U (upd (upd H s.heap.objs.size (.own (s.heap.objs.size+1))) (s.heap.objs.size+1) (.ins C s.heap.objs.size []))
  { s with heap:=(s.heap.push PySem.W.emptyDict).push (PySem.W.instObj C s.heap.objs.size) }:=by
 have e1:(s.heap.push PySem.W.emptyDict).get? s.heap.objs.size=some PySem.W.emptyDict:=qI s.heap rfl;have e2:((s.heap.push PySem.W.emptyDict).push (PySem.W.instObj C s.heap.objs.size)).get? (s.heap.objs.size+1)=some (PySem.W.instObj C s.heap.objs.size):=by
  have:=qI (s.heap.push PySem.W.emptyDict) (o:=PySem.W.instObj C s.heap.objs.size) rfl
  rwa[rp] at this
 have e3:(s.heap.push PySem.W.emptyDict).Ns s.heap.objs.size (λ_=>none):=⟨PySem.W.emptyDict,#[],_,e1,rfl,(λe he=>absurd he (by simp)),λ_=>rfl⟩
 have I1:=I.laid (a:=s.heap.objs.size) (o:=.own (s.heap.objs.size+1)) (h':=s.heap.push PySem.W.emptyDict) (t':=s.toks) (λb u q=>fR _ q) (eR _) ⟨_,e1⟩;refine I1.laid (a:=s.heap.objs.size+1) (o:=.ins C s.heap.objs.size []) (t':=s.toks) (λb u q=>fR _ q) (FW (rp _ _)) ?_;have ne:s.heap.objs.size≠s.heap.objs.size+1:=rV (F1 _);refine⟨by rw[aV ne,aP],nv _,ne,e2,λ_=>none,(Heap.Ns1.of_empty e3).at λo q=>fR _ q,λ_=>True.intro,λy hy=>absurd rfl hy⟩
theorem aNP{Q:ak}(hb:attributeBase e f env (eval e env)=eval e env)(h:wpAny (model prog w) A (eval e env) (λo az=>wpAny (model prog w) A (getAttr o f true) Q E az) E s):wpAny (model prog w) A (eval (.Attribute e f pos) env) Q E s:=
 Attribute_any_ h (by rw[arm_eval_Attribute,hb])
end
def Pn(K:W.Frag)(ta:TE)(f:Str):TE:=λU H Q=>ta U H λx H1=>∃a C dx fs v,x=.ref a/\H1 a=some (.ins C dx fs)/\oi K C/\dQ K C f/\fs.lookup f=some v/\Q v H1
def Pm(K:W.Frag)(ta tv:TE)(f:Str):TS:=λD U H=>tv U H λy H1=>ta U H1 λx H2=>∃a C dx fs,x=.ref a/\H2 a=some (.ins C dx fs)/\oi K C/\dQ K C f/\fs.length < 1000/\
 D.nx U (upd H2 a (.ins C dx (rZ f y fs)))
section
variable{X:Cx}{o e value:Expr}{f:Str}{pos pos' Ef:Pos}{ta tv:TE}
theorem aQg(he:PE X e ta)(hb:attributeBase e f X.env (eval e X.env)=eval e X.env):PE X (.Attribute e f pos) (Pn X.K ta f):=by
 intro pins s U H Q I h;refine aNP hb (eG (he pins s U H _ I h) λu s1 zq=>?_);obtain⟨x,H1,I1,rx,a,C,dx,fs,v,ex,ea,c,n,l,q⟩:=zq;subst ex;obtain rfl:u=Value.ref a:=rx;exact aIB I1 ea c n l λu' s2 I2 ru=>⟨v,H1,I2,ru,q⟩
theorem aQh(ha:PE X o ta)(hv:PE X value tv)(hs:swapsWith value (some (.Attribute o f pos')) pos.line X.env=pure false):PS X (.Assign [.Attribute o f pos'] value pos) (Pm X.K ta tv f):=by
 intro pins s U H D I h;refine plainObj_wpAny_Assign_Attribute (eG (hv pins s U H _ I h) λu s1 ⟨y,H1,I1,ry,q⟩=>eG (ha pins s1 U H1 _ I1 q) λov s2 zq=>?_) hs;obtain⟨x,H2,I2,rx,a,C,dx,fs,ex,ea,c,n,l,q2⟩:=zq;subst ex;obtain rfl:ov=Value.ref a:=rx;exact aIC I2 ea c n l ry λs3 I3=>⟨U,_,I3,q2⟩
end
section
variable{X:Cx}{pins:ar}{U:St}{H:Hp}{s:Shared}{A:Around}{E:ak}{Q:ak}{c:Value}{b:Bool}
inductive uT (K:W.Frag) (H:Hp):V->Value->Prop where
 |br:uT K H .br (.type "NoneType")
 |bl (x:Bool):uT K H (.bl x) (.type "bool")
 |int (i:Int):uT K H (.int i) (.type "int")
 |str (x:Str):uT K H (.str x) (.type "str")
 |rj (x:UInt64):uT K H (.rj x) (.type "float")
 |lst {a:Addr} {xs:List V} (e:H a=some (.lst xs)):uT K H (.ref a) (.type "list")
 |cx {a:Addr} {o:Obj} {xs:List V} (e:H a=some (.cx o (.lst xs))):uT K H (.ref a) (.type "list")
 |tup {a:Addr} {xs:List V} (e:H a=some (.tup xs)):uT K H (.ref a) (.type "tuple")
 |dK {a:Addr} {kvs:List (Key×V)} (e:H a=some (.dK kvs)):uT K H (.ref a) (.type "dict")
 |dT {a:Addr} {kvs:List (List Key×V)} (e:H a=some (.dT kvs)):uT K H (.ref a) (.type "dict")
 |ins {a C dx:Addr} {fs:List (Str×V)} (e:H a=some (.ins C dx fs)) (cl:oi K C) (ha:PySem.W.findIn K (.ref C) "__class__" = some (some (.builtin "object.__class__")))
   (hn:PySem.W.specialIn K (.builtin "object.__class__") "__get__" = some (some (.builtin "getset_descriptor.__get__"))) (E1:PySem.W.takesIn K (.builtin "object.__class__")=some true)
   (hm:PySem.W.mroIn K C (.type "object")=some true):uT K H (.ref a) (.ref C)
theorem aFx(I:Inv X pins U H s)(rx:RelV x u)(ty:uT X.K H x t)(e:PySem.W.kitOne X.K t c=some b)(h:∀tk,Q (.bool b) { s with toks:=tk }) :
  wpAny (model X.prog X.w) A (call (.builtin "isinstance") [u,c]) Q E s:=by
 cases ty with
 |br=>cases (show u=Value.none from rx);exact PySem.W.kia_one PySem.W.kitx_none I.rX True.intro e (λz=>nomatch z) h
 |bl y=>cases (show u=Value.bool y from rx);exact PySem.W.kia_one PySem.W.kitx_bool I.rX True.intro e (λz=>nomatch z) h
 |int i=>obtain⟨t,q⟩:=(show ∃t,u=Value.int i t from rx);cases q;exact PySem.W.kia_one PySem.W.kitx_int I.rX True.intro e (λz=>nomatch z) h
 |str y=>obtain⟨t,q⟩:=(show ∃t,u=Value.str y t from rx);cases q;exact PySem.W.kia_one PySem.W.kitx_str I.rX True.intro e (λz=>nomatch z) h
 |rj y=>obtain⟨t,q⟩:=(show ∃t,u=Value.float y t from rx);cases q;exact PySem.W.kia_one PySem.W.kitx_float I.rX True.intro e (λz=>nomatch z) h
 |@lst a xs ea=>
  cases (show u=Value.ref a from rx);obtain⟨_,_,n,_,h1⟩:=(show bW X.prog X.w H s.heap a (.lst xs) from I.bc a _ ea)
  exact PySem.W.kia_one PySem.W.kitx_list I.rX ⟨_,h1,rfl⟩ e (λz=>nomatch z) h
 |@cx a ob xs ea=>
  cases (show u=Value.ref a from rx);obtain⟨_,_,_,n,_,h1⟩:=(show bW X.prog X.w H s.heap a (.cx ob (.lst xs)) from I.bc a _ ea)
  exact PySem.W.kia_one PySem.W.kitx_list I.rX ⟨_,h1,rfl⟩ e (λz=>nomatch z) h
 |@tup a xs ea=>
  cases (show u=Value.ref a from rx);obtain⟨_,_,_,p⟩:=(show bW X.prog X.w H s.heap a (.tup xs) from I.bc a _ ea)
  obtain⟨o,h1,h2,_⟩:=p;exact PySem.W.kia_one PySem.W.kitx_tuple I.rX ⟨o,h1,h2⟩ e (λz=>nomatch z) h
 |@dK a kvs ea=>
  cases (show u=Value.ref a from rx);obtain⟨_,_,vs,_,p⟩:=(show bW X.prog X.w H s.heap a (.dK kvs) from I.bc a _ ea)
  obtain⟨o,es,ep,h1,h2,_⟩:=p;exact PySem.W.kia_one PySem.W.kitx_dict I.rX ⟨o,h1,h2.1⟩ e (λz=>nomatch z) h
 |@dT a kvs ea=>
  cases (show u=Value.ref a from rx);obtain⟨_,_,xs,_,o,es,ep,h1,h2,_⟩:=(show bW X.prog X.w H s.heap a (.dT kvs) from I.bc a _ ea)
  exact PySem.W.kia_one PySem.W.kitx_dict I.rX ⟨o,h1,h2.1⟩ e (λz=>nomatch z) h
 |@ins a C dx fs ea cl ha hn E1 hm=>
  cases (show u=Value.ref a from rx);obtain⟨mA,O,_⟩:=HG I.bc ea;obtain⟨od,J,_⟩:=O.look;exact PySem.W.kia_one (PySem.W.kitx_own (cl.get _) cl.hd ha hn E1 hm) I.rX J e (λz=>nomatch z) h
end
structure fL(k:Nat)(A:Around):Prop where
 hd:A.handled=none
 dp:A.depth+3*k+5 < recursionLimit
 un:A.units+16*k+200 < cLine
theorem fL.mono{j k:Nat}(r:fL k A)(h:j<=k):fL j A:=⟨r.hd,by have:=r.dp;lia,by have:=r.un;lia⟩
theorem fL.deeper{k:Nat}{A:Around}(r:fL (k+1) A)(env:Env):fL k (A.deeper env):=
 ⟨r.hd,by have:=r.dp;show A.depth+1+3*k+5 < _;lia,by have:=r.un;show A.units+3+16*k+200 < _;lia⟩
theorem aID{A:Around}:(A.under (.builtin "type.__call__" ⟨.ref C::us,kw⟩)).depth=A.depth+1:=by
 first|rfl|simp[Around.under,Code.weight,Code.isCreation,Code.isGuard,Code.isCaller,Code.frames,Code.isFrame,guardIds]
theorem aIE{A:Around}:(A.under (.builtin "type.__call__" ⟨.ref C::us,kw⟩)).units=A.units+1:=by
 first|rfl|simp[Around.under,Code.cUnits,Code.frames,Code.isFrame]
theorem fL.make{k:Nat}{A:Around}(r:fL (k+1) A)(C:Addr)(us:ah)(kw:List (Str×Value)):fL k (A.under (.builtin "type.__call__" ⟨.ref C::us,kw⟩)):=
 ⟨r.hd,by have:=r.dp;rw[aID];lia,by have:=r.un;rw[aIE];lia⟩
theorem fL.depth{k:Nat}{A:Around}(r:fL k A):A.depth < recursionLimit:=by have:=r.dp;lia
theorem fL.units{k:Nat}{A:Around}(r:fL k A):A.units+64 < cLine:=by have:=r.un;lia
def mU:TA:=λ_ H Q=>Q [] H
def bY(ta:TE)(tr:TA):TA:=λU H Q=>ta U H λx H1=>tr U H1 λxs H2=>Q (x::xs) H2
section
variable{X:Cx}{e:Expr}{es:List Expr}{te:TE}{t:TA}{pos:Pos}
theorem qK:PA X [] mU:=λ_ _ _ _ H Q I h=>Calls.spliced_nil ⟨[],H,I,.nil,h⟩
theorem aNQ(ha:PE X e te)(hr:PA X es t)(hs:starEach (e::es) X.env=(false,eval e X.env)::starEach es X.env:=by rfl):PA X (e::es) (bY te t):=by
 intro pos pins s U H Q I h;rw[hs];show wpAny _ _ (spliced ((false,eval e X.env)::backTo pos (starEach es X.env))) _ _ s;refine Calls.spliced_cons (eG (ha pins s U H _ I h) λu s1 zq=>?_);obtain⟨x,H1,I1,r1,q1⟩:=zq;exact eG (hr pos pins s1 U H1 _ I1 q1) λus s2 ⟨xs,H2,I2,r2,q2⟩=>⟨x::xs,H2,I2,.cons r1 r2,q2⟩
def Cs(t:TA):TE:=λU H Q=>t U H λxs H1=>xs.length<=sizeLine/\∀p,H1 p=none->Q (.ref p) (upd H1 p (.tup xs))
def zS(t:TA):TE:=λU H Q=>t U H λxs H1=>xs.length<=sizeLine/\∀p,H1 p=none->Q (.ref p) (upd H1 p (.lst xs))
theorem QR{x1}(h:PA X es t):PE X (.Tuple es x1 pos) (Cs t):=by
 intro pins s U H Q I hq;refine wpAny_Tuple_spliced (eG (h pos pins s U H _ I hq) λus s1 zq=>?_);obtain⟨xs,H1,I1,r,z,q⟩:=zq;refine⟨by rw[<-r.length];exact z,?_⟩;have hf:H1 s1.heap.objs.size=none:=I1.bc.fresh (eR _);refine⟨.ref s1.heap.objs.size,upd H1 s1.heap.objs.size (.tup xs),I1.laid (t':=s1.toks) (λb u e=>fR _ e) (eR _) ?_,rfl,q _ hf⟩;exact⟨z,us,r,⟨_,qI _ rfl,rfl,_,rfl⟩⟩
theorem zT(h:PA X es t):PE X (.List es pos) (zS t):=by
 intro pins s U H Q I hq;refine wpAny_List_spliced (eG (h pos pins s U H _ I hq) λus s1 zq=>?_);obtain⟨xs,H1,I1,r,z,q⟩:=zq;refine⟨by rw[<-r.length];exact z,?_⟩;have hf:H1 s1.heap.objs.size=none:=I1.bc.fresh (eR _);refine⟨.ref s1.heap.objs.size,upd H1 s1.heap.objs.size (.lst xs),I1.laid (t':=s1.toks) (λb u e=>fR _ e) (eR _) ?_,rfl,q _ hf⟩;exact⟨z,us,0,r,qI _ rfl⟩
end
abbrev Sp:=List V->Hp->VK->XK->Prop
abbrev wo:=List Env->Hp->Shared->XK->ak
structure AQ(P:Program)(w:World)(K:W.Frag)(mg:Str->aw)(base:Heap)(A:Around)(outer:List Env)(s:Shared)(H:Hp):Prop where
 frames:A.frames=some outer
 mod:Mod K mg base
 bs:∀b o,base.get? b=some o->s.heap.get? b=some o/\H b=none
 zk:base.objs.size<=s.heap.objs.size
 xX:s.heap.FunFrames base outer
 AJ:∀b∈nj outer,H b=none
 bc:uL P w H s.heap
 bare:AllBare s.gens
def CE(outer:List Env)(P:Program)(w:World)(H:Hp)(s:Shared)(Q:VK)(u:Value)(s':Shared):Prop:=
 ∃v H',s'.os=s.os/\AllBare s'.gens/\Un (nj outer) [] H H' s.heap s'.heap/\uL P w H' s'.heap/\RelV v u/\Q v H'
def CR(CX:wo)(outer:List Env)(P:Program)(w:World)(H:Hp)(s:Shared)(Q:VK)(E:XK)(r:Result)(s':Shared):Prop:=
 match r with
 |.ok (.ret u)=>CE outer P w H s Q u s'
 |.ok _=>False
 |.error e=>CX outer H s E e s'
structure bT(P:Program)(w:World)(K:W.Frag)(mg:Str->aw)(base:Heap)(CX:wo)(k:Nat)(f:Addr)(fd:FuncData)(ps:aj)(sp:Sp):Prop where
 len:∀vs H Q E,sp vs H Q E->vs.length=ps.length
 run:∀(A:Around) (outer:List Env) (s:Shared) (H:Hp) (args:Args) (us:ah) (vs:List V) (Q:VK) (E:XK),fL k A->AQ P w K mg base A outer s H->BindsTo s fd args (ps.zip us)->Vals vs us->sp vs H Q E->
  codeAny (model P w) A (.call (.ref f) args) (CR CX outer P w H s Q E) s
theorem bT.imp{P:Program}{w:World}{K:W.Frag}{mg:Str->aw}{base:Heap}{CX:wo}{k:Nat}{f:Addr}{fd:FuncData}{ps:aj}{sp Wt:Sp}(F:bT P w K mg base CX k f fd ps sp)
  (h:∀vs H Q E,Wt vs H Q E->sp vs H Q E):bT P w K mg base CX k f fd ps Wt:=
 ⟨λvs H Q E q=>F.len vs H Q E (h _ _ _ _ q),λA outer s H args us vs Q E hr he hb hv hs=>F.run A outer s H args us vs Q E hr he hb hv (h _ _ _ _ hs)⟩
theorem AQ.make{P:Program}{w:World}{K:W.Frag}{mg:Str->aw}{base:Heap}{A:Around}{outer:List Env}{s:Shared}{H:Hp}(e:AQ P w K mg base A outer s H)(C:Addr)(us:ah)(kw:List (Str×Value)) :
  AQ P w K mg base (A.under (.builtin "type.__call__" ⟨.ref C::us,kw⟩)) outer s H:=⟨by first|exact e.frames|(simpa [Around.under,Code.envs,Code.isFrame,pushEnvs] using e.frames),e.mod,e.bs,e.zk,e.xX,e.AJ,e.bc,e.bare⟩
section
variable{X:Cx}{pins:ar}{U:St}{H:Hp}{s s':Shared}
theorem Inv.Hg(I:Inv X pins U H s):AQ X.prog X.w X.K X.mg X.base X.A X.stack s H:=
 ⟨I.ok.frames,I.ok.mod,I.bs,mf I.ok.zk I.sz,I.stack,I.Mw,I.bc,I.bare⟩
theorem Inv.after(I:Inv X pins U H s)(h:CE X.stack X.prog X.w H s Q u s'):EP X pins U Q u s':=by
 obtain⟨v,H',os,bare,un,bc,r,q⟩:=h;obtain⟨hh,g,d,t,os'⟩:=s';obtain rfl:os'=s.os:=os;exact⟨v,H',I.call (h':=hh) (g':=g) (d':=d) (t':=t) (ch:=[]) un bc bare (λb z=>absurd z (by simp)),r,q⟩
end
def Fs(sp:Sp)(ie:List V)(E:XK)(t:TA):TE:=λU H Q=>t U H λvs H1=>sp (vs++ie) H1 Q E
def Ft(C:Addr)(m:Str)(sp:Sp)(ie:List V)(E:XK)(ta:TE)(t:TA):TE:=λU H Q=>ta U H λx H1=>∃a dx fs,x=.ref a/\H1 a=some (.ins C dx fs)/\fs.lookup m=none/\
 t U H1 λvs H2=>sp (x::(vs++ie)) H2 Q E
def Hk(C:Addr)(sp:Sp)(ie:List V)(E:XK)(t:TA):TE:=λU H Q=>t U H λvs H1=>∀x dx,H1 x=none->H1 dx=none->dx≠x->
 sp (.ref x::(vs++ie)) (upd (upd H1 dx (.own x)) x (.ins C dx [])) (λv H2=>v=.br/\Q (.ref x) H2) E
def Binds(K:W.Frag)(fd:FuncData)(ps:aj)(ds:ah):Prop:=
 ∀(s:Shared) (us:ah),K.In s.heap->(us++ds).length=ps.length->BindsTo s fd ⟨us,[]⟩ (ps.zip (us++ds))
theorem Binds.all{K:W.Frag}{fd:FuncData}{ps:aj}(h:∀us:ah,us.length=ps.length->bindArgs fd ⟨us,[]⟩=pure (ps.zip us)):Binds K fd ps []:=λs us _ hl=>by
 rw[ub] at hl ⊢;exact .of_eq (h us hl)
def Passes(CX:wo)(X:Cx)(E:XK):Prop:=∀(pins:ar) (U:St) (H:Hp) (s:Shared) (e:Value) (s':Shared),Inv X pins U H s->CX X.stack H s E e s'->X.xe e s'
section
variable{X:Cx}{CX:wo}{k:Nat}{f C:Addr}{fd:FuncData}{ps:aj}{sp:Sp}{ie:List V}{ds:ah}{E:XK}{x m:Str}{p pos apos:Pos}{e o:Expr}{es:List Expr}{ta:TE}{t:TA}
theorem QQ(F:bT X.prog X.w X.K X.mg X.base CX k f fd ps sp)(hr:fL k X.A)(hb:Binds X.K fd ps ds)(hd:Vals ie ds)(hx:Passes CX X E)(I:Inv X pins U H s)(r:Vals vs us)(h:sp (vs++ie) H Q E):wpAny (model X.prog X.w) X.A (call (.ref f) us) (EP X pins U Q) X.xe s:=by
 have r2:Vals (vs++ie) (us++ds):=r.append hd;have hl:(us++ds).length=ps.length:=by rw[<-r2.length];exact F.len _ _ _ _ h
 refine wpAny_call (codeAny_mono (F.run X.A X.stack s H ⟨us,[]⟩ (us++ds) (vs++ie) Q E hr I.Hg (hb s us I.rX hl) r2 h) λr s' hq=>?_);cases r with
 |error e=>exact hx pins U H s e s' I hq
 |ok fl=>
  cases fl with
  |ret u=>exact I.after hq
  |next=>exact False.elim hq
  |brk=>exact False.elim hq
  |cont=>exact False.elim hq
theorem aNR(F:bT X.prog X.w X.K X.mg X.base CX k f fd ps sp)(hr:fL k X.A)(hg:Gl X x)(hm:X.mg x=some (.ref f))(hk:W.keepIn X.K (.ref f)=true)(hb:Binds X.K fd ps ds)(hd:Vals ie ds)(hx:Passes CX X E)
  (ha:PA X (e::es) t) (jz:(x == ("__debug__" : Str))=false:=by decide) (he:starEach (e::es) X.env=(false,eval e X.env)::starEach es X.env:=by rfl) (vn:(backTo pos (starEach es X.env)).any (·.1)=false:=by rfl) :
  PE X (.Call (.Name x p) (e::es) [] pos) (Fs sp ie E t):=by
 intro pins s U H Q I h;refine wpAny_Call_Name_kw (Mu I hg hm ?_ jz);refine PySem.W.callWith_K (h₀:=X.base) I.ok.mod.Dq hk (eG (ha pos pins s U H _ I h) λus s1 zq=>?_) he vn;obtain⟨vs,H1,I1,r,q⟩:=zq;refine⟨I1.rX,?_⟩;exact QQ F hr hb hd hx I1 r q
theorem aNS{pl:Sem Bool}(he:PE X o ta)(c:oi X.K C)(hm:Meth X.K C m f)(F:bT X.prog X.w X.K X.mg X.base CX k f fd ps sp)(hr:fL k X.A)(hb:Binds X.K fd ps ds)(hd:Vals ie ds)(hx:Passes CX X E)(ha:PA X (e::es) t)
  (di:starEach (e::es) X.env=(false,eval e X.env)::starEach es X.env:=by rfl) (vn:(backTo pos (starEach es X.env)).any (·.1)=false:=by rfl)
  (ht:eval (.Call (.Attribute o m apos) (e::es) [] pos) X.env=(do
   let ov <-eval o X.env
   standAt apos.atName
   let (f,first) <-holding [ov] (getMethod ov m pl)
   callWith pos f first (backTo pos (starEach (e::es) X.env)) (backToKw pos (keywordEach [] X.env))):=by rfl) :
  PE X (.Call (.Attribute o m apos) (e::es) [] pos) (Ft C m sp ie E ta t):=by
 intro pins s U H Q I h;refine PySem.W.methodCall_KW (pl:=pl) (eG (he pins s U H _ I h) λu s1 zq=>?_) ht;obtain⟨x,H1,I1,rx,a,dx,fs,ex,ea,l,q⟩:=zq;subst ex;obtain rfl:u=Value.ref a:=rx;refine aDE I1 ea c hm l ?_;refine PySem.W.callWith_K (first:=[.ref a]) (h₀:=X.base) I.ok.mod.Dq hm.kp (eG (ha pos pins s1 U H1 _ I1 q) λus s2 zq=>?_) di vn;obtain⟨vs,H2,I2,r,q2⟩:=zq;refine⟨I2.rX,?_⟩;exact QQ (us:=.ref a::us) (vs:=.ref a::vs) F hr hb hd hx I2 (.cons rfl r) q2
theorem aLN{pl:Sem Bool}(he:PE X o ta)(c:oi X.K C)(hm:Meth X.K C m f)(F:bT X.prog X.w X.K X.mg X.base CX k f fd ps sp)(hr:fL k X.A)(hb:Binds X.K fd ps ds)(hd:Vals ie ds)(hx:Passes CX X E)
  (ht:eval (.Call (.Attribute o m apos) [] [] pos) X.env=(do
   let ov <-eval o X.env
   standAt apos.atName
   let (f,first) <-holding [ov] (getMethod ov m pl)
   callWith pos f first (backTo pos (starEach [] X.env)) (backToKw pos (keywordEach [] X.env))):=by rfl) :
  PE X (.Call (.Attribute o m apos) [] [] pos) (Ft C m sp ie E ta mU):=by
 intro pins s U H Q I h;refine PySem.W.methodCall_KW (pl:=pl) (eG (he pins s U H _ I h) λu s1 zq=>?_) ht;obtain⟨x,H1,I1,rx,a,dx,fs,ex,ea,l,q⟩:=zq;subst ex;obtain rfl:u=Value.ref a:=rx;refine aDE I1 ea c hm l ?_;exact PySem.W.callWith_K0 (first:=[.ref a]) I1.rX hm.kp (QQ (us:=[.ref a]) (vs:=[.ref a]) F hr hb hd hx I1 (.cons rfl .nil) q)
structure Mk(K:W.Frag)(C f:Addr):Prop where
 makes:PySem.W.makesIn K C=true
 init:PySem.W.findIn K (.ref C) "__init__" = some (some (.ref f))
 fn:PySem.W.isFn K (.ref f)=true
 kp:W.keepIn K (.ref C)=true
theorem aLO{H:Hp}{Q:VK}(M:Mk X.K C f)(F:bT X.prog X.w X.K X.mg X.base CX k f fd ps sp)(hr:fL (k+1) X.A)(hb:Binds X.K fd ps ds)(hd:Vals ie ds)(hx:Passes CX X E)(I:Inv X pins U H s)(r:Vals vs us)(h:∀x dx,H x=none->H dx=none->dx≠x->sp (.ref x::(vs++ie)) (upd (upd H dx (.own x)) x (.ins C dx [])) (λv H2=>v=.br/\Q (.ref x) H2) E) :
  wpAny (model X.prog X.w) X.A (call (.ref C) us) (EP X pins U Q) X.xe s:=by
 have hq:=h (s.heap.objs.size+1) s.heap.objs.size (I.bc.fresh (Nat.le_succ _)) (I.bc.fresh (eR _)) (rV (F1 _));have I2:=Inv.made (C:=C) I;have r2:Vals (V.ref (s.heap.objs.size+1)::(vs++ie)) (Value.ref (s.heap.objs.size+1)::(us++ds)):=.cons rfl (r.append hd);have hl:(Value.ref (s.heap.objs.size+1)::us++ds).length=ps.length:=by
  have e:=r2.length;rw[F.len _ _ _ _ hq] at e;exact e.symm
 refine wpAny_call (aLL (f:=f) I.rX M.makes M.init (beq_iff_eq.mp M.fn) (codeAny_mono (F.run _ X.stack _ _ ⟨Value.ref (s.heap.objs.size+1)::us,[]⟩ (Value.ref (s.heap.objs.size+1)::(us++ds)) _ _ E (hr.make C us [])
  (I2.Hg.make C us []) (hb _ (Value.ref (s.heap.objs.size+1)::us) I2.rX hl) r2 hq) λr s' qa=>?_))
 cases r with
 |error e=>exact hx pins U _ _ e s' I2 qa
 |ok fl=>
  cases fl with
  |ret u=>
   obtain⟨v,H',I3,rv,ev,q3⟩:=I2.after qa;subst ev;exact⟨rv,⟨V.ref (s.heap.objs.size+1),H',I3,rfl,q3⟩⟩
  |next=>exact False.elim qa
  |brk=>exact False.elim qa
  |cont=>exact False.elim qa
theorem aNT(M:Mk X.K C f)(F:bT X.prog X.w X.K X.mg X.base CX k f fd ps sp)(hr:fL (k+1) X.A)(hg:Gl X x)(hm:X.mg x=some (.ref C))(hb:Binds X.K fd ps ds)(hd:Vals ie ds)(hx:Passes CX X E)
  (ha:PA X (e::es) t) (jz:(x == ("__debug__" : Str))=false:=by decide) (he:starEach (e::es) X.env=(false,eval e X.env)::starEach es X.env:=by rfl) (vn:(backTo pos (starEach es X.env)).any (·.1)=false:=by rfl) :
  PE X (.Call (.Name x p) (e::es) [] pos) (Hk C sp ie E t):=by
 intro pins s U H Q I h;refine wpAny_Call_Name_kw (Mu I hg hm ?_ jz);refine PySem.W.callWith_K (h₀:=X.base) I.ok.mod.Dq M.kp (eG (ha pos pins s U H _ I h) λus s1 zq=>?_) he vn;obtain⟨vs,H1,I1,r,q⟩:=zq;refine⟨I1.rX,?_⟩;exact aLO M F hr hb hd hx I1 r q
end
def PK(X:Cx)(W3:List Keyword)(t:TA):Prop:=
 ∀(pos:Pos) (pins:ar) (s:Shared) (U:St) (H:Hp) (Q:List V->Hp->Prop),Inv X pins U H s->t U H Q->wpAny (model X.prog X.w) X.A (evalAll ((backToKw pos (keywordEach W3 X.env)).map (·.2))) (AP X pins U Q) X.xe s
structure aX(N P:aj)(sc:Scope):Prop where
 kind:sc.kind=.function:=by exact rfl
 co:sc.isCoroutine=false:=by exact rfl
 gen:sc.isGenerator=false:=by exact rfl
 nd:N.Nodup:=by decide +kernel
 pre:N.take P.length=P:=by exact rfl
 par:∀x∈P,sc.names.lookup x=some .local\/sc.names.lookup x=some .cell:=by decide +kernel
 EA:∀y∈sc.names,y.2≠.free:=by decide +kernel
theorem aFz{kindOf:Str->Option NameKind}:∀{binds:List (Str×Value)}{m:Str->aw},(∀v,(x,v)∉binds)->bindL kindOf binds m x=m x
 |[],_,_=>rfl
 |(n,v)::r,m,h=>by
  unfold bindL;rw[aFz λw hw=>h w (md _ hw)];split
  ·have:x≠n:=by rintro rfl;exact h v pz
   simp[this]
  ·rfl
theorem aFA{kindOf:Str->Option NameKind}:∀{binds:List (Str×Value)}{m:Str->aw},(∀v,(x,v)∉binds)->bindC kindOf binds m x=m x
 |[],_,_=>rfl
 |(n,v)::r,m,h=>by
  unfold bindC;rw[aFA λw hw=>h w (md _ hw)];split
  ·rfl
  ·have:x≠n:=by rintro rfl;exact h v pz
   simp[this]
theorem aFB{kindOf:Str->Option NameKind}:∀{P:aj}{vs:ah}{i:Nat}{m:Str->aw},P.Nodup->P[i]?=some x->vs[i]?=some v->kindOf x=some .local->
  bindL kindOf (P.zip vs) m x=some v
 |[],_,_,_,_,h,_,_=>by simp at h
 |_::_,[],_,_,_,_,h,_=>by simp at h
 |p::P,w::vs,0,m,nd,h1,h2,hk=>by
  simp at h1 h2;subst h1;subst h2;show bindL kindOf ((p,w)::P.zip vs) m p=_;unfold bindL;rw[aFz λv hv=>(va.mp nd).1 (ME hv).1,dO hk];simp
 |p::P,w::vs,i+1,m,nd,h1,h2,hk=>by
  show bindL kindOf ((p,w)::P.zip vs) m x=_;unfold bindL;exact aFB (i:=i) (va.mp nd).2 (by simpa using h1) (by simpa using h2) hk
theorem aFC{kindOf:Str->Option NameKind}:∀{P:aj}{vs:ah}{i:Nat}{m:Str->aw},P.Nodup->P[i]?=some x->vs[i]?=some v->kindOf x≠some .local->
  bindC kindOf (P.zip vs) m x=some v
 |[],_,_,_,_,h,_,_=>by simp at h
 |_::_,[],_,_,_,_,h,_=>by simp at h
 |p::P,w::vs,0,m,nd,h1,h2,hk=>by
  simp at h1 h2;subst h1;subst h2;show bindC kindOf ((p,w)::P.zip vs) m p=_;unfold bindC;rw[aFA λv hv=>(va.mp nd).1 (ME hv).1,cU hk];simp
 |p::P,w::vs,i+1,m,nd,h1,h2,hk=>by
  show bindC kindOf ((p,w)::P.zip vs) m x=_;unfold bindC;exact aFC (i:=i) (va.mp nd).2 (by simpa using h1) (by simpa using h2) hk
def start(N:aj)(vs:List V):St:=vs.map some++List.replicate (N.length - vs.length) none
def DQ(CX:wo)(P:Program)(w:World)(K:W.Frag)(mg:Str->aw)(base:Heap)(N:aj)(qual:Str)(scope:Scope)(f:Addr)(cd:Value)(A:Around)(outer:List Env)(s:Shared)(H:Hp)(E:XK):Cx where
 prog:=P
 w:=w
 K:=K
 mg:=mg
 base:=base
 A:=A.deeper (envOfC qual scope s.heap.objs.size f cd)
 N:=N
 dj:=s
 ui:=H
 env:=envOfC qual scope s.heap.objs.size f cd
 outer:=outer
 stack:=envOfC qual scope s.heap.objs.size f cd::outer
 ex:=[]
 calm:=true
 fn:=λ_=>true
 pn:=[]
 xe:=λe s'=>wpAny (model P w) (A.deeper (envOfC qual scope s.heap.objs.size f cd)) (leaving (envOfC qual scope s.heap.objs.size f cd) e) (λ_ Nr=>CX outer H s E e Nr) (λe' Nr=>CX outer H s E e' Nr) s'
theorem aHl{sc:Scope}{n:Nat}(h:sc.names.lookup x=some .cell):∃c,(cellsFrom n sc.names []).lookup x=some c:=by
 have q:=PySem.W.cellsFrom_some sc.names n [] (.inl h);exact Option.isSome_iff_exists.mp q
theorem aKu{CX:wo}{P:Program}{w:World}{K:W.Frag}{mg:Str->aw}{base:Heap}{N ps:aj}{qual:Str}{scope:Scope}{f:Addr}{cd:Value}{A:Around}{outer:List Env}{s s1:Shared}{H:Hp}{E:XK}{us:ah}{vs:List V}
  (S:aX N ps scope) (hd:A.handled=none) (e0:AQ P w K mg base A outer s H) (hl:vs.length=ps.length) (r:Vals vs us)
  (x:InCallC s s.heap.objs.size (bindL (envOfC qual scope s.heap.objs.size f cd).kindOf (ps.zip us) λ_=>none) (cellsFrom (s.heap.objs.size+1) scope.names []) (bindC (envOfC qual scope s.heap.objs.size f cd).kindOf (ps.zip us) λ_=>none) s1) :
  Inv (DQ CX P w K mg base N qual scope f cd A outer s H E) [] (start N vs) H s1:=by
 have vn:ps.length<=N.length:=by have:=congrArg List.length S.pre;rw[yF] at this;lia
 obtain⟨h1,tk,rfl,hk⟩:=x.done;have yz:∀b:Addr,b∉(DQ CX P w K mg base N qual scope f cd A outer s H E).ex:=λb z=>absurd (show b∈([]:ao) from z) (by simp);refine⟨⟨e0.mod,S.kind,rfl,rfl,eR _,λy z c h1 h2=>?_,λy hy=>?_,λy c _ h=>?_,λ_=>hd,Around.frames_deeper e0.frames,.inr ⟨rfl,rfl⟩,λb z=>absurd z (yz b),e0.bs,e0.zk,λb _ _=>yz b,λb z=>absurd z (yz b),e0.xX,e0.AJ⟩,
  rfl,e0.bare,Un.kept hk,⟨_,x.toInCall.ns,λi y v h1 h2 h3=>?_⟩,λy c h=>⟨_,x.cell y c h⟩,e0.bc.fresh (eR _),λy c h=>?_,λp hp=>absurd (show p∈([]:ar) from hp) (by simp),e0.bc.kept hk,?_⟩
 ·exact name_of_addr x.apart (PySem.mem_of_lookup h1) (PySem.mem_of_lookup h2)
 ·have hy:scope.names.lookup y=some .cell\/scope.names.lookup y=some .free:=hy;rcases hy with hy|hy
  ·exact aHl hy
  ·exact absurd rfl (S.EA _ (PySem.mem_of_lookup hy))
 ·exact CH (x.above y c (PySem.mem_of_lookup h))
 ·have hi:i < vs.length:=by
   unfold start at h2;by_cases hi:i < vs.length
   ·exact hi
   ·rw[ug (by simpa using hi)] at h2;rw[RW] at h2;split at h2 <;> cases h2
  have ha:vs[i]?=some v:=by
   unfold start at h2;rw[rq (by simpa using hi),lB] at h2;cases e:vs[i]? with
   |none=>rw[e] at h2;cases h2
   |some a=>rw[e] at h2;cases h2;rfl
  obtain⟨u,hu,rv⟩:=r.get ha;have hp:ps[i]?=some y:=by
   rw[<-S.pre,MR (by lia)];exact h1
  have Kq:ps.Nodup:=by rw[<-S.pre];exact S.nd.sublist (List.take_sublist _ _)
  refine⟨u,rv,?_⟩;rcases S.par y (pM hp) with k|k
  ·exact .inl ⟨k,aFB Kq hp hu k⟩
  ·obtain⟨c,e⟩:=aHl (n:=s.heap.objs.size+1) k;refine .inr ⟨.inl k,c,e,?_⟩;have q:=x.cell y c e;rw[aFC Kq hp hu (by show scope.names.lookup y≠_;rw[k];decide)] at q;exact q
 ·exact e0.bc.fresh (CH (x.above y c (PySem.mem_of_lookup h)))
 ·unfold start;show _=N.length;rw[jE,bO,RS];lia
theorem Zy{CX:wo}{P:Program}{w:World}{K:W.Frag}{mg:Str->aw}{base:Heap}{k:Nat}{f:Addr}{name qual:Str}{params:Arguments}{body:List Stmt}{scope:Scope}{dV kV doc pm bo ct oc:Value}{an od:Option Addr}
  {wy:Array (aw)} {N ps:aj} {sp:Sp} (lk:K.lookup f=some ⟨oc,od,.func (W.fnOf name qual params body scope dV kV doc pm an bo ct),wy⟩) (oh:W.codeIn K bo qual=true) (S:aX N ps scope)
  (len:∀vs H Q E,sp vs H Q E->vs.length=ps.length)
  (ip:∀(A:Around) (outer:List Env) (s:Shared) (H:Hp) (vs:List V) (Q:VK) (E:XK),fL k (A.deeper (envOfC qual scope s.heap.objs.size f bo))->sp vs H Q E->
   ∃t,uu (DQ CX P w K mg base N qual scope f bo A outer s H E) body t/\t { nx:=λ_ H'=>Q .br H',rt:=Q } (start N vs) H) :
  bT P w K mg base CX (k+1) f (W.fnOf name qual params body scope dV kV doc pm an bo ct) ps sp:=by
 refine⟨len,λA outer s H args us vs Q E hr e0 hb r ic=>?_⟩;have hl:=len _ _ _ _ ic;have KX:K.In s.heap:=e0.mod.Dq.keeps λb o e=>(e0.bs b o e).1;have lim:s.heap.NoLimit:=e0.mod.nolimit.keeps λb o e=>(e0.bs b o e).1;have wu:∀y∈ps.zip us,scope.names.lookup y.1=some .local\/(scope.names.lookup y.1=some .cell/\((cellsFrom (s.heap.objs.size+1) scope.names []).lookup y.1).isSome=true):=λ⟨n,v⟩ hy=>by
  rcases S.par n (ME hy).1 with q|q
  ·exact .inl q
  ·exact .inr ⟨q,PySem.W.cellsFrom_some _ _ _ (.inl q)⟩
 refine codeAny_call_function hr.depth (KX _ _ lk) rfl S.co S.gen rfl (PySem.W.codeRec_of KX oh) (hb _ _ _ _ ?_)
 refine wpAny_newFunctionEnv_cells S.kind wu λenv he s1 x=>?_;subst he;refine⟨lim.keeps x.toInCall.keep,codeAny_func ?_⟩;obtain⟨t,ht,hq⟩:=ip A outer s H vs Q E (hr.deeper _) ic;have I:Inv (DQ CX P w K mg base N qual scope f bo A outer s H E) [] (start N vs) H s1:=aKu S hr.hd e0 hl r x;refine uo (ht [] s1 (start N vs) H _ I hq) (λfl s' hs=>?_) λe s' hs=>hs;have fin:∀{U':St} {H':Hp} {v:V} {u:Value},Inv (DQ CX P w K mg base N qual scope f bo A outer s H E) [] U' H' s'->RelV v u->Q v H'->CE outer P w H s Q u s':=
  λ{U' H' v u} J rv q=>⟨v,H',J.os,J.bare,J.base,J.bc,rv,q⟩
 cases fl with
 |ret u=>
  obtain⟨v,U',H',J,rv,q⟩:=hs;exact fin J rv q
 |next=>
  obtain⟨U',H',J,q⟩:=hs;exact fin (v:=V.br) (u:=Value.none) J rfl q
 |brk=>
  obtain⟨_,_,_,q⟩:=hs;exact False.elim q
 |cont=>
  obtain⟨_,_,_,q⟩:=hs;exact False.elim q
section
variable{X:Cx}{x:Str}{p pos:Pos}{e:Expr}{es:List Expr}{t:TA}{id T:String}{r:List V->Hp->VK->Prop}
def Dc(r:List V->Hp->VK->Prop)(t:TA):TE:=λU H Q=>t U H λvs H1=>r vs H1 Q
theorem aLP(hc:fK X (.builtin id) r)(hg:Gl X x)(hm:X.mg x=none)(hv:bootBuiltins x=some (.builtin id))(ha:PA X (e::es) t)(hn:x≠"__name__":=by decide)(jz:(x == ("__debug__" : Str))=false:=by decide)
  (he:starEach (e::es) X.env=(false,eval e X.env)::starEach es X.env:=by rfl) (vn:(backTo pos (starEach es X.env)).any (·.1)=false:=by rfl):PE X (.Call (.Name x p) (e::es) [] pos) (Dc r t):=by
 intro pins s U H Q I h;refine wpAny_Call_Name_kw (oJ I hg hm hv ?_ hn jz);exact PyProof.Rows.callWith_builtin1 (eG (ha pos pins s U H _ I h) λus s1 ⟨vs,H1,I1,r1,q1⟩=>hc pins s1 U H1 vs us Q I1 r1 q1) he vn
theorem aKv(hc:fK X (.type T) r)(hg:Gl X x)(hm:X.mg x=none)(hv:bootBuiltins x=some (.type T))(ha:PA X (e::es) t)(hn:x≠"__name__":=by decide)(jz:(x == ("__debug__" : Str))=false:=by decide)
  (he:starEach (e::es) X.env=(false,eval e X.env)::starEach es X.env:=by rfl) (vn:(backTo pos (starEach es X.env)).any (·.1)=false:=by rfl):PE X (.Call (.Name x p) (e::es) [] pos) (Dc r t):=by
 intro pins s U H Q I h;refine wpAny_Call_Name_kw (oJ I hg hm hv ?_ hn jz);exact PyProof.Rows.callWith_type1 (eG (ha pos pins s U H _ I h) λus s1 ⟨vs,H1,I1,r1,q1⟩=>hc pins s1 U H1 vs us Q I1 r1 q1) he vn
end
end L2
namespace HT
open PySem PyProof.Rows
section
open PySem.SeqAt
open PySem.AutoSeq1 (wpAny_loadPart')
open PySem.MeetsSeq PySem.MeetsSeq2 PySem.MeetsSeq3
end
section
variable{prog:Program}{w:World}{A:Around}{E:ak}{s:Shared}
theorem aNU{t b:Addr}{vs ws:ah}{Q:ak}(ht:IsTup s.heap t vs.toArray)(hb:IsTup s.heap b ws.toArray)(hv:vs≠[])
  (h1:ws=[]->Q (.ref t) s) (h2:ws≠[]->Q (.ref s.heap.objs.size) { s with heap:=s.heap.push { cls:=.type "tuple",data:=.seq (vs++ws).toArray } })
  (hsz:vs.length+ws.length<=sizeLine):wpAny (model prog w) A (binaryOp .Add (.ref t) (.ref b)) Q E s:=by
 obtain⟨⟨cls,dd,data,sl⟩,ho,hc,n,hd⟩:=id ht;obtain⟨⟨a0C,LC,data2,Wu⟩,KJ,GR,n2,hd2⟩:=id hb;simp only at hc hd GR hd2;subst hc hd GR hd2;have e:vs.toArray++ws.toArray=(vs++ws).toArray:=by simp
 by_cases hw:ws=[]
 ·exact concat_meets ⟨_,ho,rfl⟩ ⟨_,KJ,rfl⟩ noFill_tuple_add seq_tuple_add PySem.F.slot_tuple_add PySem.F.entry_tuple_add (PySem.F.args_tuple_add_2 _ _)
   (tuple_addW1 t b vs.toArray ws.toArray n n2 dd LC sl Wu (by simpa using hv) (by simp[hw])) ⟨ho,KJ,h1 hw⟩
 ·refine concat_meets ⟨_,ho,rfl⟩ ⟨_,KJ,rfl⟩ noFill_tuple_add seq_tuple_add PySem.F.slot_tuple_add PySem.F.entry_tuple_add (PySem.F.args_tuple_add_2 _ _)
   (tuple_addW2 t b vs.toArray ws.toArray n n2 dd LC sl Wu (by simpa using hv) (by simpa using hw) (by rw[kB,kB];exact hsz)) ⟨ho,KJ,?_⟩
  rw[e];exact h2 hw
def mC(n d:Nat):Option Int->Nat
 |none=>d
 |some v=>if v < 0 then (v+(n:Int)).toNat else min v.toNat n
theorem Rq(n d:Nat):mC n d none=d:=rfl
theorem Q5(n d k:Nat):mC n d (some (k:Int))=min k n:=by
 show(if (k:Int) < 0 then ((k:Int)+(n:Int)).toNat else min (k:Int).toNat n)=min k n;rw[cU (by lia),zr]
theorem aQi(n d:Nat)(hd:d<=n)(o:Option Int):mC n d o<=n:=by
 cases o with
 |none=>exact hd
 |some v=>
  show(if v < 0 then (v+(n:Int)).toNat else min v.toNat n)<=n;by_cases hv:v < 0
  ·rw[dO hv];lia
  ·rw[cU hv];exact Nat.min_le_right _ _
theorem aJJ(v:Int)(n d:Nat):(if v < 0 then max (v+(n:Int)) 0 else min v (n:Int))=((mC n d (some v):Nat):Int):=by
 show(if v < 0 then max (v+(n:Int)) 0 else min v (n:Int))=(((if v < 0 then (v+(n:Int)).toNat else min v.toNat n):Nat):Int)
 by_cases hv:v < 0
 ·simp only[dO hv];lia
 ·simp only[cU hv];lia
theorem aII(lo hi:Option Int)(n:Nat):Builtin.Slice.sliceAdjust lo hi 1 (n:Int)=(((mC n 0 lo:Nat):Int),((mC n n hi:Nat):Int)):=by
 have h1:¬((1:Int) < 0):=by lia
 unfold Builtin.Slice.sliceAdjust;simp only[h1,if_false];refine Prod.ext ?_ ?_
 ·cases lo with
  |none=>rfl
  |some v=>exact aJJ v n 0
 ·cases hi with
  |none=>rfl
  |some v=>exact aJJ v n n
theorem aIJ(i j:Nat):Builtin.Slice.slicePlaces (i:Int) (j:Int) 1=j - i:=by
 unfold Builtin.Slice.slicePlaces;have h1:(1:Int) > 0:=by lia
 simp only[h1,if_true,Int.ediv_one];split <;> lia
theorem aDG{o:Option Int}{Q:Option Int->Shared->Prop}(p:IsPart v o)(h:Q o s):wpAny (model prog w) A (Builtin.Slice.slicePartIndex v) Q E s:=by
 cases p with
 |none=>exact slicePart_none h
 |int i t=>exact slicePart_int h
theorem aBG{lo hi:Option Int}{n:Nat}{Q:Int×Int×Nat->Shared->Prop}(hs:s.heap.IsSliceOf sl vl vu .none)(pl:IsPart vl lo)(pu:IsPart vu hi)(h:Q (((mC n 0 lo:Nat):Int),1,mC n n hi - mC n 0 lo) s):wpAny (model prog w) A (Builtin.Slice.sliceApplied (.ref sl) (pure (n:Int))) Q E s:=by
 obtain⟨os,GG,Xy,vp⟩:=id hs;unfold Builtin.Slice.sliceApplied Builtin.Slice.sliceFields;refine bM (bM (wpAny_field GG vp (x:=vl) rfl (bM (wpAny_field GG vp (x:=vu) rfl (bM (wpAny_field GG vp (x:=.none) rfl (eE ?_)))))));refine bM (slicePart_none ?_);show wpAny _ _ (if ((1:Int) == 0)=true then _ else _) _ _ s;rw[cU (by decide)];refine bM (aDG pl (bM (aDG pu (bM (eE ?_)))));show wpAny _ _ (match Builtin.Slice.sliceAdjust lo hi 1 (n:Int) with|(lo,hi)=>pure (lo,(1:Int),Builtin.Slice.slicePlaces lo hi 1)) _ _ s;rw[aII lo hi n];show wpAny _ _ (pure (((mC n 0 lo:Nat):Int),(1:Int),Builtin.Slice.slicePlaces ((mC n 0 lo:Nat):Int) ((mC n n hi:Nat):Int) 1)) _ _ s;rw[aIJ];exact eE h
theorem aLQ(xs:Array Value)(i k:Nat):((List.range k).filterMap λ(m:Nat)=>xs[((i:Int)+(m:Int)*1).toNat]?).toArray=((xs.toList.drop i).take k).toArray:=by
 have e:(λ(m:Nat)=>xs[((i:Int)+(m:Int)*1).toNat]?)=λm=>xs[i+m]?:=by
  funext m
  have:((i:Int)+(m:Int)*1).toNat=i+m:=by lia
  rw[this]
 rw[e];have:=pick_run xs i k;rw[List.filterMap_map] at this;have e2:((λx=>xs[x]?) ∘ λx=>i+x)=λm=>xs[i+m]?:=rfl;rw[e2] at this;rw[this]
theorem aAu{items:Array Value}{lo hi:Option Int}{Q:ak}(ht:IsTup s.heap t items)(hs:s.heap.IsSliceOf sl vl vu .none)(pl:IsPart vl lo)(pu:IsPart vu hi)(hw:¬(mC items.size 0 lo=0/\mC items.size items.size hi=items.size))(h:Q (.ref s.heap.objs.size) { s with heap:=s.heap.push { cls:=.type "tuple",data:=.seq ((items.toList.drop (mC items.size 0 lo)).take (mC items.size items.size hi - mC items.size 0 lo)).toArray } })(hsz:items.size<=sizeLine):wpAny (model prog w) A (getItem (.ref t) (.ref sl)) Q E s:=by
 have wt:sizeOk (.seq ((items.toList.drop (mC items.size 0 lo)).take (mC items.size items.size hi - mC items.size 0 lo)).toArray):=by
  show((items.toList.drop (mC items.size 0 lo)).take (mC items.size items.size hi - mC items.size 0 lo)).toArray.size<=sizeLine;rw[kB,yF,F0,yu];lia
 have hj:mC items.size items.size hi<=items.size:=aQi _ _ (eR _) hi;obtain⟨os,GG,Xy,vp⟩:=id hs;have hTs:s.TypeIs (.ref sl) "slice":=⟨os,GG,Xy⟩
 unfold getItem;try with_reducible refine Bu ?_
 first|refine bM (eE ?_)|skip
 refine bM (wpAny_sequenceKey ht.typeIs (by decide) ?_);refine bM (wpAny_callSpecial?_slot (name:=Str.ofString "__getitem__") ht.typeIs PyProof.Rows.slot_tuple_getitem
  (wk PyProof.Rows.slot_tuple_getitem ht.typeIs entry_tuple_getitem ?_ (args_tuple_getitem _ _)))
 show wpAny _ _ (Builtin.Tuple.tupleItemsOf (.ref t) >>= _) _ _ s;refine bM (tupleItemsOf_ ht ?_);refine bM (wpAny_typeOf hTs ?_);rw[dO (by decide)];refine bM (aBG hs pl pu ?_);have hno:¬((((mC items.size 0 lo:Nat):Int) == 0 && (1:Int) == 1 && (mC items.size items.size hi - mC items.size 0 lo) == items.size)=true):=by
  intro q;rw[xp,xp] at q;have q1:((mC items.size 0 lo:Nat):Int)=0:=eq_of_beq q.1.1;have q2:mC items.size items.size hi - mC items.size 0 lo=items.size:=eq_of_beq q.2;exact hw ⟨by lia,by lia⟩
 show wpAny _ _ (if (((mC items.size 0 lo:Nat):Int) == 0 && (1:Int) == 1 && (mC items.size items.size hi - mC items.size 0 lo) == items.size)=true then _ else _) _ _ s;rw[cU hno,aLQ];first
  |exact bM (m:=Builtin.Tuple.tupleExact _) (vb (eE ⟨_,rfl,eE h⟩) wt)
  |exact bM (m:=Builtin.Tuple.tupleExact _) (vb (bM (eE (eE ⟨_,rfl,eE h⟩))) wt)
  |exact bM (bM (m:=Builtin.Tuple.tupleExact _) (vb (eE (eE ⟨_,rfl,eE h⟩)) wt))
  |exact bM (bM (m:=Builtin.Tuple.tupleExact _) (vb (eE ⟨_,rfl,eE h⟩) wt))
end
end HT
namespace L2
open PySem PySem.Spec PyProof.Rows
abbrev TO:=St->Hp->(Option Int->Hp->Prop)->Prop
def PO(X:Cx)(e:Option Expr)(t:TO):Prop:=
 ∀(pins:ar) (s:Shared) (U:St) (H:Hp) (Q:Option Int->Hp->Prop),Inv X pins U H s->t U H Q->
  wpAny (model X.prog X.w) X.A (evalPart e X.env) (λu s'=>∃o H',Inv X pins U H' s'/\IsPart u o/\Q o H') X.xe s
def Q4:TO:=λ_ H Q=>Q none H
def Qj(t:TE):TO:=λU H Q=>t U H λx H1=>∃i,x=.int i/\Q (some i) H1
theorem intsAre_of{ns:ae}:∀{us:ah},Vals (ns.map V.int) us->IntsAre us ns:=by
 induction ns with
 |nil=>intro us r;rw[xk] at r;cases r;exact .nil
 |cons n ns ih=>
  intro us r;rw[yG] at r;cases r with
  |cons r1 r2=>
   obtain⟨t,e⟩:=r1;subst e;exact .cons n t (ih r2)
section
variable{X:Cx}{e:Expr}{te:TE}{lo hi:Option Expr}{tl th:TO}{pos p2:Pos}
theorem aNV:PO X none Q4:=by
 intro pins s U H Q I h;rw[evalPart_none];exact eE ⟨none,H,I,.none,h⟩
theorem aNW(h:PE X e te):PO X (some e) (Qj te):=by
 intro pins s U H Q I hw;rw[evalPart_some];refine eG (h pins s U H _ I hw) λu s1 zq=>?_;obtain⟨x,H1,I1,r1,q1⟩:=zq;obtain⟨i,rfl,q⟩:=q1;obtain⟨t,rfl⟩:=r1;exact⟨some i,H1,I1,.int i t,q⟩
def Bv(X:Cx)(r:V->Option Int->Option Int->Hp->VK->Prop):Prop:=
 ∀(pins:ar) (s:Shared) (U:St) (H:Hp) (x:V) (v vl vu:Value) (lo hi:Option Int) (sl:Addr) (Q:VK),Inv X pins U H s->RelV x v->s.heap.IsSliceOf sl vl vu .none->IsPart vl lo->IsPart vu hi->r x lo hi H Q->
  ∃T id,typeLookup (.type T) "__getitem__" = pure (some (.builtin id))/\s.TypeIs v T/\wpAny (model X.prog X.w) X.A (getItem v (.ref sl)) (EP X pins U Q) X.xe s
theorem Bv.or{r r':V->Option Int->Option Int->Hp->VK->Prop}(h:Bv X r)(h':Bv X r'):Bv X (λx lo hi H Q=>r x lo hi H Q\/r' x lo hi H Q):=by
 intro pins s U H x v vl vu lo hi sl Q I rx hs pl pu q;rcases q with q|q
 ·exact h pins s U H x v vl vu lo hi sl Q I rx hs pl pu q
 ·exact h' pins s U H x v vl vu lo hi sl Q I rx hs pl pu q
def Ng(r:V->Option Int->Option Int->Hp->VK->Prop)(te:TE)(tl th:TO):TE:=λU H Q=>te U H λx H1=>tl U H1 λl H2=>th U H2 λu H3=>r x l u H3 Q
theorem aLS{r:V->Option Int->Option Int->Hp->VK->Prop}(hr:Bv X r)(he:PE X e te)(hl:PO X lo tl)(hu:PO X hi th):PE X (.Subscript e (.Slice lo hi none p2) pos) (Ng r te tl th):=by
 intro pins s U H Q I h;refine Subscript_ (eG (he pins s U H _ I h) λv s1 zq=>?_);obtain⟨x,H1,I1,r1,q1⟩:=zq;refine wpAny_Slice (eG (hl pins s1 U H1 _ I1 q1) λvl s2 ⟨l,H2,I2,pl,q2⟩=>eG (hu pins s2 U H2 _ I2 q2) λvu s3 zq=>?_);obtain⟨u,H3,I3,pu,q3⟩:=zq;rw[evalPart_none];refine eE ?_;have I4:Inv X pins U H3 { s3 with heap:=s3.heap.push { cls:=.type "slice",data:=.fields #[vl,vu,.none] } }:=I3.kept (t':=s3.toks) λb ob q=>fR _ q;obtain⟨T,id,hT,ht,hg⟩:=hr pins { s3 with heap:=s3.heap.push { cls:=.type "slice",data:=.fields #[vl,vu,.none] } } U H3 x v vl vu l u s3.heap.objs.size Q I4 r1 (Heap.IsSliceOf.new ..) pl pu q3;show wpAny (model X.prog X.w) X.A (subscriptTail e (.Slice lo hi none p2) v (.ref s3.heap.objs.size)) (EP X pins U Q) X.xe { s3 with heap:=s3.heap.push { cls:=.type "slice",data:=.fields #[vl,vu,.none] } };exact tail_any (ops:=[.ref s3.heap.objs.size,v]) ht hT hg (by with_unfolding_all rfl)
def nM(xs:List V)(lo hi:Option Int):List V:=(xs.drop (HT.mC xs.length 0 lo)).take (HT.mC xs.length xs.length hi - HT.mC xs.length 0 lo)
theorem gE(xs:List V)(lo hi:Option Int):(nM xs lo hi).length<=xs.length:=by
 unfold nM;rw[yF,F0];lia
def Zd(K:W.Frag):V->Option Int->Option Int->Hp->VK->Prop:=λx lo hi H Q=>∃a xs,x=.ref a/\iF K H a xs/\
 ¬(HT.mC xs.length 0 lo=0/\HT.mC xs.length xs.length hi=xs.length)/\∀p,H p=none->Q (.ref p) (upd H p (.tup (nM xs lo hi)))
theorem aQj:Bv X (Zd X.K):=by
 intro pins s U H x v vl vu lo hi sl Q I rx hs pl pu h;obtain⟨a,xs,rfl,hx,hw,q⟩:=h;cases rx;obtain⟨its,r,ht,hz⟩:=I.tuple hx;have hlen:its.toArray.size=xs.length:=by rw[kB];exact r.length.symm
 refine⟨"tuple",_,PyProof.Rows.slot_tuple_getitem.lookup,ht.typeIs,?_⟩;refine HT.aAu ht hs pl pu (by rw[hlen];exact hw) ?_ (by rw[hlen];exact hz);rw[hlen];refine⟨.ref s.heap.objs.size,_,I.laid (t':=s.toks) (o:=.tup (nM xs lo hi)) (λb ob q=>fR _ q) (eR _) ?_,rfl,q _ (I.bc.fresh (eR _))⟩;exact⟨mf (gE xs lo hi) hz,_,(r.drop (HT.mC xs.length 0 lo)).take (HT.mC xs.length xs.length hi - HT.mC xs.length 0 lo),IsTup.new _ _⟩
def Qi(K:W.Frag):R2:=λx y H Q=>∃a b xs ys,x=.ref a/\y=.ref b/\iF K H a xs/\iF K H b ys/\xs≠[]/\xs.length+ys.length<=sizeLine/\
 (ys=[]->Q (.ref a) H)/\(ys≠[]->∀p,H p=none->Q (.ref p) (upd H p (.tup (xs++ys))))
theorem Vals.Q3{xs:List V}{us:ah}(r:Vals xs us):us=[]↔xs=[]:=by
 cases r with
 |nil=>simp
 |cons _ _=>simp
theorem aNX:uM X (binaryOp .Add) (Qi X.K):=by
 intro pins s U H x y v u Q I rx ry h;obtain⟨a,b,xs,ys,rfl,rfl,ha,hb,hx,hz,q1,q2⟩:=h;cases rx;cases ry;obtain⟨its,r1,p1,_⟩:=I.tuple ha;obtain⟨qc,r2,p2,_⟩:=I.tuple hb;refine HT.aNU p1 p2 (λz=>hx (r1.Q3.mp z)) (λz=>⟨.ref a,H,I,rfl,q1 (r2.Q3.mp z)⟩) (λz=>?_) (by rw[<-r1.length,<-r2.length];exact hz);refine⟨.ref s.heap.objs.size,_,I.laid (t':=s.toks) (o:=.tup (xs++ys)) (λb ob q=>fR _ q) (eR _) ?_,rfl,q2 (λw=>z (r2.Q3.mpr w)) _ (I.bc.fresh (eR _))⟩;exact⟨by rw[jE];exact hz,_,r1.append r2,IsTup.new _ _⟩
end
def rb(n:Nat)(i:Int):Option Nat:=if 0<=i then (if i < n then some i.toNat else none) else if -(n:Int)<=i then some (i+n).toNat else none
def pP{α:Type}(xs:List α)(i:Int):Option α:=(rb xs.length i).bind λj=>xs[j]?
theorem aJK{n:Nat}{i:Int}{j:Nat}(h:rb n i=some j):seqIndex? i n=some j/\j < n/\-(n:Int)<=i/\i < n:=by
 unfold rb at h;by_cases h0:0<=i
 ·rw[dO h0] at h;by_cases h1:i < n
  ·rw[dO h1] at h;have e:i.toNat=j:=Option.some.inj h;exact⟨by rw[seqIndex_of h0 h1,e],by lia,by lia,h1⟩
  ·rw[cU h1] at h;cases h
 ·rw[cU h0] at h;by_cases h1:-(n:Int)<=i
  ·rw[dO h1] at h;have e:(i+n).toNat=j:=Option.some.inj h;exact⟨by rw[seqIndex_neg (by lia) h1,e],by lia,h1,by lia⟩
  ·rw[cU h1] at h;cases h
theorem Q2{α:Type}{xs:List α}{i:Int}{v:α}(h:pP xs i=some v):∃j,seqIndex? i xs.length=some j/\xs[j]?=some v/\j < xs.length/\-(xs.length:Int)<=i/\i < xs.length:=by
 unfold pP at h;cases e:rb xs.length i with
 |none=>rw[e] at h;cases h
 |some j=>
  rw[e] at h;obtain⟨h1,h2,h3,h4⟩:=aJK e;exact⟨j,h1,h,h2,h3,h4⟩
theorem eB{α:Type}{xs:List α}{j:Nat}{v:α}(h:xs[j]?=some v):pP xs (j:Int)=some v:=by
 have hj:j < xs.length:=(mT.mp h).1;have e:rb xs.length (j:Int)=some j:=by
  unfold rb;rw[dO (by lia),dO (by lia)];simp
 unfold pP;rw[e];exact h
theorem Rp{α:Type}(xs:List α)(v:α):pP (xs ++ [v]) (-1)=some v:=by
 have hl:(xs ++ [v]).length=xs.length+1:=by simp
 have e:rb (xs ++ [v]).length (-1)=some xs.length:=by
  unfold rb;rw[hl,cU (by decide),dO (by lia)];congr 1;lia
 unfold pP;rw[e];show(xs ++ [v])[xs.length]?=some v;simp
def aJL(b:Expr):Prop:=∀o i,subscripted b false o i=operate [o,i] (getItem o i)
def By(X:Cx)(r:R2):Prop:=
 ∀(value slice:Expr) (pins:ar) (s:Shared) (U:St) (H:Hp) (x y:V) (v u:Value) (Q:VK),Inv X pins U H s->RelV x v->RelV y u->r x y H Q->
  subscripted slice false v u=operate [v,u] (getItem v u)->wpAny (model X.prog X.w) X.A (subscriptTail value slice v u) (EP X pins U Q) X.xe s
def MtR(X:Cx)(id:String)(r:V->List V->Hp->VK->Prop):Prop:=
 ∀(pins:ar) (s:Shared) (U:St) (H:Hp) (x:V) (xs:List V) (v:Value) (us:ah) (Q:VK),Inv X pins U H s->RelV x v->Vals xs us->r x xs H Q->
  wpAny (model X.prog X.w) X.A (call (.builtin id) (v::us)) (EP X pins U Q) X.xe s
section
variable{X:Cx}{a b:Expr}{ta tb:TE}{pos:Pos}
theorem By.or{r':R2}(h:By X r)(h':By X r'):By X (λx y H Q=>r x y H Q\/r' x y H Q):=by
 intro value slice pins s U H x y v u Q I rx ry q hs;rcases q with q|q
 ·exact h value slice pins s U H x y v u Q I rx ry q hs
 ·exact h' value slice pins s U H x y v u Q I rx ry q hs
theorem aRL(hr:By X r)(ha:PE X a ta)(hb:PE X b tb)(hs:aJL b):PE X (.Subscript a b pos) (A3 r ta tb):=by
 intro pins s U H Q I h;exact Subscript_ (Po ha hb I h λv u s2 x y H2 I2 rx ry q=>hr a b pins s2 U H2 x y v u Q I2 rx ry q (hs _ _))
def Zc(K:W.Frag):R2:=λx y H Q=>∃p xs i v,x=.ref p/\y=.int i/\bP K H p xs/\pP xs i=some v/\Q v H
def Zb(K:W.Frag):R2:=λx y H Q=>∃p xs i v,x=.ref p/\y=.int i/\iF K H p xs/\pP xs i=some v/\Q v H
def Za:R2:=λx y H Q=>∃z i c,x=.str z/\y=.int i/\z.length<=sizeLine/\pP z.cps.toList i=some c/\Q (.str ⟨#[c]⟩) H
theorem aNY:By X (Zc X.K):=by
 intro value slice pins s U H x y v u Q I rx ry h hs;obtain⟨p,xs,i,z,rfl,rfl,hq,he,q⟩:=h;cases rx;obtain⟨t,rfl⟩:=ry;obtain⟨its,r,pl,hz⟩:=I.list hq;obtain⟨j,h1,h2,h3,h4,h5⟩:=Q2 he;obtain⟨w,ew,tj⟩:=r.get h2;have hl:=r.length;have hn:=FR;have fin:EP X pins U Q w s:=⟨z,H,I,tj,q⟩
 by_cases h0:0<=i
 ·have hj:i.toNat=j:=by
   rw[seqIndex_of h0 h5] at h1;exact Option.some.inj h1
  exact item_listR pl.isList h0 (by lia) (by rw[hj];simpa using ew) fin hs
 ·have hj:(i+(its.toArray.size:Int)).toNat=j:=by
   rw[seqIndex_neg (by lia) h4] at h1;rw[kB,<-hl];exact Option.some.inj h1
  exact subscriptTail_builtinR (x:=w) pl.isList.typeIs slot_list_getitem.lookup
   (wpAny_getItem_list_neg (Q:=λr s'=>r=w/\EP X pins U Q r s') pl.isList (by lia) (by rw[kB] <;> lia) (by lia) (by rw[hj];simpa using ew) ⟨rfl,fin⟩) hs
theorem aQk:By X (Zb X.K):=by
 intro value slice pins s U H x y v u Q I rx ry h hs;obtain⟨p,xs,i,z,rfl,rfl,hq,he,q⟩:=h;cases rx;obtain⟨t,rfl⟩:=ry;obtain⟨its,r,pl,hz⟩:=I.tuple hq;obtain⟨j,h1,h2,h3,h4,h5⟩:=Q2 he;obtain⟨w,ew,tj⟩:=r.get h2;have hl:=r.length;have hn:=FR;have fin:EP X pins U Q w s:=⟨z,H,I,tj,q⟩
 exact subscriptTail_builtinR (x:=w) pl.typeIs slot_tuple_getitem.lookup
  (getItem_tuple (j:=j) (Q:=λr s'=>r=w/\EP X pins U Q r s') pl (by lia) (by lia) (by rw[kB,<-hl];exact h1) (by simpa using ew) ⟨rfl,fin⟩) hs
theorem aQl:By X Za:=by
 intro value slice pins s U H x y v u Q I rx ry h hs;obtain⟨z,i,c,rfl,rfl,hz,he,q⟩:=h;obtain⟨t,rfl⟩:=rx;obtain⟨t',rfl⟩:=ry;obtain⟨j,h1,h2,h3,h4,h5⟩:=Q2 he;have hl:z.cps.toList.length=z.length:=by simp[Str.length]
 rw[hl] at h1 h4 h5;have hn:=FR;exact tail_any (typeIs_str s z t) slot_str_getitem.lookup (getItem_str (c:=c) (by
  have e1:decide (i < -(2 ^ 63:Int))=false:=uc (by lia);have e2:decide (i ≥ 2 ^ 63)=false:=uc (by lia);rw[e1,e2,Bool.or_false]) (by rw[h1];simpa using h2) ⟨.str ⟨#[c]⟩,H,I.tok _,⟨_,rfl⟩,q⟩) hs
def Kh(K:W.Frag):R2:=λx y H Q=>Zc K x y H Q\/Zb K x y H Q\/Za x y H Q
theorem aQm:By X (Kh X.K):=aNY.or (aQk.or aQl)
theorem aIK(its:ah)(n j:Nat)(u:Value):Obj.mapSeq (·.setIfInBounds j u) { cls:=.type "list",data:=.seq its.toArray n } = { cls:=.type "list",data:=.seq (its.set j u).toArray n }:=by
 simp[Obj.mapSeq]
theorem Inv.lst{pins:ar}{U:St}{H:Hp}{s:Shared}{p:Addr}{xs:List V}(I:Inv X pins U H s)(h:H p=some (.lst xs)) :
  ∃(its:ah) (n:Nat),Vals xs its/\s.heap.get? p=some { cls:=.type "list",data:=.seq its.toArray n }/\xs.length<=sizeLine:=by
 obtain⟨z,its,n,r,e⟩:=I.bc p _ h;exact⟨its,n,r,e,z⟩
theorem Inv.aQn{s:Shared}{ys:List V}{its its':ah}{n n':Nat}{f:Obj->Obj}(I:Inv X pins U H s)(h:H p=some (.lst xs))(ho:s.heap.get? p=some { cls:=.type "list",data:=.seq its.toArray n })(hf:f { cls:=.type "list",data:=.seq its.toArray n } = { cls:=.type "list",data:=.seq its'.toArray n' })(r:Vals ys its')(hz:ys.length<=sizeLine)(t:Nat) :
  Inv X pins U (upd H p (.lst ys)) { s with heap:=s.heap.update p f,toks:=t }:=by
 have e:(s.heap.update p f).get? p=some { cls:=.type "list",data:=.seq its'.toArray n' }:=by
  rw[HZ f ho (by rw[hf] <;> rfl),hf]
 refine I.write (x:=p) (e:=p) (by rw[h];trivial) (.inl rfl) (λb u hb q=>(RT _ _ (Ne.symm hb)).trans q) ⟨_,e⟩ ?_;exact⟨hz,its',n',r,e⟩
def Zx:V->V->V->Hp->(Hp->Prop)->Prop:=λo i v H Q=>∃p xs k j,o=.ref p/\i=.int k/\H p=some (.lst xs)/\rb xs.length k=some j/\Q (upd H p (.lst (xs.set j v)))
theorem set_list:Hd X Zx:=by
 intro pins s U H o i v ov iv u Q I ro ri rv h;obtain⟨p,xs,k,j,rfl,rfl,hp,hj,q⟩:=h;cases ro;obtain⟨t,rfl⟩:=ri;obtain⟨its,n,r,ho,hz⟩:=I.lst hp;obtain⟨h1,h2,h3,h4⟩:=aJK hj;have hl:=r.length;have hn:=FR;have I':Inv X pins U (upd H p (.lst (xs.set j v))) { s with heap:=s.heap.update p (Obj.mapSeq (·.setIfInBounds j u)) }:=
  I.aQn hp ho (aIK its n j u) (r.set rv j) (by rw[D4];exact hz) s.toks
 by_cases h0:0<=k
 ·have hk:k.toNat=j:=by
   rw[seqIndex_of h0 h4] at h1;exact Option.some.inj h1
  exact PySem.W.ki_setAt ho h0 (by lia) (by rw[kB,<-hl];exact h4) (by rw[hk];exact⟨_,I',q⟩)
 ·have hk:(k+(its.toArray.size:Int)).toNat=j:=by
   rw[seqIndex_neg (by lia) h3] at h1;rw[kB,<-hl];exact Option.some.inj h1
  exact PySem.W.ki_setBack ho (by lia) (by rw[kB,<-hl];exact h3) (by lia) (by rw[hk];exact⟨_,I',q⟩)
theorem aGg(lo hi:Option Int)(n:Nat):(sliceBounds lo hi none n).1=((HT.mC n 0 lo:Nat):Int)/\(sliceBounds lo hi none n).2.1=((HT.mC n n hi:Nat):Int)/\(sliceBounds lo hi none n).2.2=1:=by
 refine⟨?_,?_,rfl⟩
 ·cases lo with
  |none=>simp[sliceBounds,HT.mC]
  |some i=>
   simp only[sliceBounds,HT.mC,Option.getD_none,show(1:Int) > 0 by decide,if_true];by_cases h:i < 0
   ·simp only[h,if_true] <;> lia
   ·simp only[h,if_false] <;> lia
 ·cases hi with
  |none=>simp[sliceBounds,HT.mC]
  |some i=>
   simp only[sliceBounds,HT.mC,Option.getD_none,show(1:Int) > 0 by decide,if_true];by_cases h:i < 0
   ·simp only[h,if_true] <;> lia
   ·simp only[h,if_false] <;> lia
theorem aEW(its:ah)(lo hi:Option Int):slicePick its.toArray lo hi none=((its.drop (HT.mC its.length 0 lo)).take (HT.mC its.length its.length hi - HT.mC its.length 0 lo)).toArray:=by
 obtain⟨h1,h2,h3⟩:=aGg lo hi its.toArray.size;unfold slicePick;rw[h1,h2,h3];simp only[sliceRange_one,pick_run,kB] <;> rfl
def Y9(K:W.Frag):V->Option Int->Option Int->Hp->VK->Prop:=λx lo hi H Q=>∃a xs,x=.ref a/\bP K H a xs/\∀p,H p=none->Q (.ref p) (upd H p (.lst (nM xs lo hi)))
theorem aNZ:Bv X (Y9 X.K):=by
 intro pins s U H x v vl vu lo hi sl Q I rx hs pl pu h;obtain⟨a,xs,rfl,hx,q⟩:=h;cases rx;obtain⟨its,r,ht,hz⟩:=I.list hx;have hlen:=r.length;refine⟨"list",_,slot_list_getitem.lookup,ht.isList.typeIs,?_⟩;refine wpAny_getItem_list_slice ht.isList hs pl pu .none (by simp) ?_ (by rw[kB] <;> lia);rw[aEW,<-hlen];refine⟨.ref s.heap.objs.size,_,I.laid (t':=s.toks) (o:=.lst (nM xs lo hi)) (λb ob q=>fR _ q) (eR _) ?_,rfl,q _ (I.bc.fresh (eR _))⟩;exact⟨mf (gE xs lo hi) hz,_,0,(r.drop (HT.mC xs.length 0 lo)).take (HT.mC xs.length xs.length hi - HT.mC xs.length 0 lo),qI _ rfl⟩
def mD:V->Bool
 |.br=>true
 |.bl _=>true
 |.int _=>true
 |.str _=>true
 |_=>false
def eqV:V->V->Bool
 |.br,.br=>true
 |.bl a,.bl b=>a == b
 |.bl a,.int b=>(if a then 1 else 0) == b
 |.int a,.bl b=>a == (if b then 1 else 0)
 |.int a,.int b=>a == b
 |.str a,.str b=>a == b
 |_,_=>false
theorem Z4(ry:RelV y u)(rx:RelV x v)(fy:mD y=true)(fx:mD x=true):SeqAt.EqAt A s u v (eqV y x):=by
 cases y with
 |br=>
  cases ry;cases x with
  |br=>cases rx;exact SeqAt.EqAt.same _
  |bl b=>cases rx;exact SeqAt.EqAt.none_bool b
  |int b=>obtain⟨t,rfl⟩:=rx;exact SeqAt.EqAt.none_int b t
  |str b=>obtain⟨t,rfl⟩:=rx;exact SeqAt.EqAt.none_str b t
  |_=>exact absurd (show false=true from fx) lz
 |bl a=>
  cases ry;cases x with
  |br=>cases rx;exact SeqAt.EqAt.bool_none a
  |bl b=>cases rx;exact SeqAt.EqAt.bool_bool a b
  |int b=>obtain⟨t,rfl⟩:=rx;exact SeqAt.EqAt.bool_int a b t
  |str b=>obtain⟨t,rfl⟩:=rx;exact SeqAt.EqAt.bool_str a b t
  |_=>exact absurd (show false=true from fx) lz
 |int a=>
  obtain⟨t',rfl⟩:=ry;cases x with
  |br=>cases rx;exact SeqAt.EqAt.int_none a t'
  |bl b=>cases rx;exact SeqAt.EqAt.int_bool a t' b
  |int b=>obtain⟨t,rfl⟩:=rx;exact SeqAt.EqAt.int_int a t' b t
  |str b=>obtain⟨t,rfl⟩:=rx;exact SeqAt.EqAt.int_str a t' b t
  |_=>exact absurd (show false=true from fx) lz
 |str a=>
  obtain⟨t',rfl⟩:=ry;cases x with
  |br=>cases rx;exact SeqAt.EqAt.str_none a t'
  |bl b=>cases rx;exact SeqAt.EqAt.str_bool a t' b
  |int b=>obtain⟨t,rfl⟩:=rx;exact SeqAt.EqAt.str_int a t' b t
  |str b=>obtain⟨t,rfl⟩:=rx;exact SeqAt.EqAt.str_str a t' b t
  |_=>exact absurd (show false=true from fx) lz
 |_=>exact absurd (show false=true from fy) lz
theorem aGh:fK X (.type "list") (λxs H Q=>∃p ys,xs=[.ref p]/\(bP X.K H p ys\/iF X.K H p ys)/\∀l,H l=none->Q (.ref l) (upd H l (.lst ys))):=by
 intro pins s U H xs us Q I r h;obtain⟨p,ys,rfl,hq,q⟩:=h;obtain⟨u,rfl,rx⟩:=vals1 r;cases rx;have fin:∀(its:ah),Vals ys its->ys.length<=sizeLine->∀(h':Heap) (c':Nat),(∀b o',s.heap.get? b=some o'->h'.get? b=some o')->
   h'.get? s.heap.objs.size=some { cls:=.type "list",dict:=none,data:=.seq its.toArray c',slots:=#[] }->EP X pins U Q (.ref s.heap.objs.size) { s with heap:=h' }:=λits r' hz h' c' kp e=>
  ⟨.ref s.heap.objs.size,_,I.laid (t':=s.toks) kp (eR _) (show bW X.prog X.w _ h' _ (.lst ys) from⟨hz,its,c',r',e⟩),rfl,q _ (I.bc.fresh (eR _))⟩
 rcases hq with hq|hq
 ·obtain⟨its,r',pl,hz⟩:=I.list hq;have hlen:=r'.length;obtain⟨o,ho,hc,n,hd⟩:=pl.isList;exact call_list_seq p (.inl rfl) ho hc hd (λh' c' kp e=>fin its r' hz h' c' kp e) (by simp only[kB] <;> lia)
 ·obtain⟨its,r',pl,hz⟩:=I.tuple hq;have hlen:=r'.length;obtain⟨o,ho,hc,n,hd⟩:=pl;exact call_list_seq p (.inr rfl) ho hc hd (λh' c' kp e=>fin its r' hz h' c' kp e) (by simp only[kB] <;> lia)
theorem aEX:fK X (.type "tuple") (λxs H Q=>∃p ys,xs=[.ref p]/\((bP X.K H p ys/\∀l,H l=none->Q (.ref l) (upd H l (.tup ys)))\/(iF X.K H p ys/\Q (.ref p) H))):=by
 intro pins s U H xs us Q I r h;obtain⟨p,ys,rfl,h⟩:=h;obtain⟨u,rfl,rx⟩:=vals1 r;cases rx;rcases h with ⟨hq,q⟩|⟨hq,q⟩
 ·obtain⟨its,r',pl,hz⟩:=I.list hq;have hlen:=r'.length;refine call_tuple_list pl.isList (λh' kp=>?_) (by simp only[kB] <;> lia);have I1:Inv X pins U H { s with heap:=h' }:=I.kept (t':=s.toks) kp;have I2:Inv X pins U (upd H h'.objs.size (.tup ys)) { s with heap:=h'.push { cls:=.type "tuple",data:=.seq its.toArray } }:=
   I1.laid (t':=s.toks) (λb o e=>fR _ e) (eR _) (show bW X.prog X.w _ _ _ (.tup ys) from⟨hz,its,r',IsTup.new _ _⟩)
  exact⟨.ref h'.objs.size,_,I2,rfl,q _ (I1.bc.fresh (eR _))⟩
 ·obtain⟨its,r',pl,hz⟩:=I.tuple hq;exact call_tuple_same pl ⟨.ref p,H,I,rfl,q⟩
def J5(K:W.Frag)(T:String)(x:V)(H:Hp):Prop:=match x with
 |.str _=>T = "str"
 |.int _=>T = "int"
 |.ref p=>(T = "list"/\∃xs,bP K H p xs)\/(T = "tuple"/\∃o,K.lookup p=some o/\o.cls=.type "tuple"/\o.dict=none)\/
   (T = "dict"/\((∃kvs,H p=some (.dK kvs))\/∃kvs,H p=some (.dT kvs)))\/(T = "set"/\∃S n,H p=some (.set S n))
 |_=>False
theorem aQo{s:Shared}(I:Inv X pins U H s)(r:RelV x v)(ty:J5 X.K T x H) :
  s.TypeIs v T/\∀a,v=.ref a->∃ob,s.heap.get? a=some ob/\ob.dict=none:=by
 cases x with
 |str z=>
  obtain⟨t,rfl⟩:=r;cases (show T = "str" from ty);exact⟨typeIs_str s z t,λ_ e=>nomatch e⟩
 |int i=>
  obtain⟨t,rfl⟩:=r;cases (show T = "int" from ty);exact⟨typeIs_int s i t,λ_ e=>nomatch e⟩
 |ref p=>
  cases r;rcases ty with ⟨rfl,xs,hq⟩|⟨rfl,o,hk,hc,hd⟩|⟨rfl,hk⟩|⟨rfl,S,n,hk⟩
  ·obtain⟨its,_,pl,_⟩:=I.list hq;refine⟨pl.isList.typeIs,λa e=>?_⟩;cases e;obtain⟨o,n,e,c,hd,_⟩:=pl;exact⟨o,e,hd⟩
  ·refine⟨⟨o,I.rX p o hk,hc⟩,λa e=>?_⟩;cases e;exact⟨o,I.rX _ o hk,hd⟩
  ·have z:∃o,s.heap.get? p=some o/\o.ExactDict:=by
    rcases hk with ⟨kvs,hk⟩|⟨kvs,hk⟩
    ·obtain⟨_,_,_,_,o,_,_,e,ex,_⟩:=I.bc p _ hk;exact⟨o,e,ex⟩
    ·obtain⟨_,_,_,_,o,_,_,e,ex,_⟩:=I.bc p _ hk;exact⟨o,e,ex⟩
   obtain⟨o,e,ex⟩:=z;refine⟨⟨o,e,ex.1⟩,λa e2=>?_⟩;cases e2;exact⟨o,e,ex.2.1⟩
  ·obtain⟨o,_,_,_,e,ex,_⟩:=I.bc p _ hk;refine⟨⟨o,e,ex.1⟩,λa e2=>?_⟩;cases e2;exact⟨o,e,ex.2.1⟩
 |_=>exact False.elim ty
def BY(K:W.Frag)(T:String)(r:V->List V->Hp->VK->Prop)(to:TE)(t:TA):TE:=λU H Q=>to U H λx H1=>J5 K T x H1/\t U H1 λxs H2=>r x xs H2 Q
variable{o e:Expr}{es:List Expr}{to:TE}{t:TA}{name:Str}{apos bh:Pos}{T id:String}{r:V->List V->Hp->VK->Prop}
theorem Qh(pa:PlainAttrs T)(slot:Slot T name id)(hty:typeOf (.builtin id)=pure (.type "method_descriptor"))(hm:MtR X id r)(ho:PE X o to)(ha:PA X (e::es) t)
  (bu:attributeBase o name X.env (eval o X.env)=eval o X.env:=by rfl)
  (Es:((backTo bh (starEach (e::es) X.env)).all (λx=>!x.1) && (backToKw bh (keywordEach [] X.env)).all (λx=>x.1.isSome)
   && decide ((e::es).length+([]:List Keyword).length+(if ([]:List Keyword).isEmpty then 0 else 1) < 30))=true:=by rfl)
  (bt:(apos.endLine == bh.line)=true:=by rfl) (hs:starEach (e::es) X.env=(false,eval e X.env)::starEach es X.env:=by rfl) (EE:(backTo bh (starEach es X.env)).any (·.1)=false:=by rfl) :
  PE X (.Call (.Attribute o name apos) (e::es) [] bh) (BY X.K T r to t):=by
 intro pins s U H Q I h;refine wpAny_Call_method_late bu Es bt rfl (eG (ho pins s U H _ I h) λv s1 zq=>?_);obtain⟨x,H1,I1,r1,ty,q1⟩:=zq;obtain⟨h1,h2⟩:=aQo I1 r1 ty;refine⟨T,id,pa,slot,hty,h1,h2,?_⟩;have hA:=ha bh pins s1 U H1 _ I1 q1;rw[hs] at hA ⊢;refine Calls.callWith_builtin (by show(false || (backTo bh (starEach es X.env)).any (·.1))=false;rw[EE] <;> rfl) (Calls.evalArgs_plain ?_);exact eG hA λus s2 ⟨vs,H2,I2,r2,q2⟩=>hm pins s2 U H2 x vs v us Q I2 r1 r2 q2
end
def MtM(X:Cx)(id:String)(r:V->List V->Hp->VK->Prop):Prop:=
 ∀(pins:ar) (s:Shared) (U:St) (H:Hp) (x:V) (xs:List V) (v:Value) (us:ah) (Q:VK),Inv X pins U H s->RelV x v->Vals xs us->r x xs H Q->
  wpAny (model X.prog X.w) X.A (call (.builtin id) (v::us)) (EP X pins U Q) X.xe s
theorem Vals.one:∀{x:V}{us:ah},Vals [x] us->∃u,us=[u]/\RelV x u
 |_,_,.cons r .nil=>⟨_,rfl,r⟩
theorem Vals.dropLast{xs:List V}{us:ah}(h:Vals xs us):Vals xs.dropLast us.dropLast:=by
 induction h with
 |nil=>exact .nil
 |cons r t ih=>
  cases t with
  |nil=>exact .nil
  |cons q t'=>exact .cons r ih
theorem Vals.rep(h:Vals xs us):∀k:Nat,Vals (List.replicate k xs).flatten (List.replicate k us).flatten
 |0=>.nil
 |k+1=>by
  rw[F7,F7,MI,MI];exact Vals.append h (Vals.rep h k)
theorem foldl_rep(its:ah):∀(k:Nat) (acc:ah),
  List.foldl (λx1 x2=>x1++x2) acc.toArray (List.replicate k its.toArray)=(acc++(List.replicate k its).flatten).toArray
 |0,acc=>by simp
 |k+1,acc=>by
  have e:acc.toArray++its.toArray=(acc++its).toArray:=by simp
  have e2:(acc++its)++(List.replicate k its).flatten=acc++(List.replicate (k+1) its).flatten:=by
   rw[F7,MI,F3]
  rw[<-e2,<-foldl_rep its k (acc++its),<-e,F7,List.foldl_cons]
section
variable{X:Cx}{pins:ar}{U:St}{H:Hp}{s:Shared}{l b:Addr}{xs ys zs:List V}
theorem Inv.Y8{its its':ah}{n:Nat}{f:Array Value->Array Value}{t':Nat}(I:Inv X pins U H s)(hH:H l=some (.lst xs))
  (e:s.heap.get? l=some { cls:=.type "list",data:=.seq its.toArray n }) (hf:f its.toArray=its'.toArray) (hv:Vals ys its') (hz:ys.length<=sizeLine) :
  Inv X pins U (upd H l (.lst ys)) { s with heap:=s.heap.update l (Obj.mapSeq f),toks:=t' }:=by
 have q:=PySem.IsL.update e f;rw[hf] at q;refine I.write (x:=l) (e:=l) (by rw[hH];exact trivial) (.inl rfl) (λb' u hb hu=>(RT s.heap (Obj.mapSeq f) (Ne.symm hb)).trans hu) ⟨_,q⟩ ?_;exact⟨hz,its',_,hv,q⟩
theorem Inv.Y7{t':Nat}(I:Inv X pins U H s)(hv:Vals ys its)(hz:ys.length<=sizeLine) :
  Inv X pins U (upd H s.heap.objs.size (.lst ys)) { s with heap:=s.heap.push { cls:=.type "list",data:=.seq its.toArray },toks:=t' }:=
 I.laid (λ_ _ q=>fR _ q) (eR _) ⟨hz,its,0,hv,qI _ rfl⟩
theorem Inv.fresh(I:Inv X pins U H s):H s.heap.objs.size=none:=I.bc.fresh (eR _)
theorem Inv.Fm(I:Inv X pins U H s)(hH:H l=some (.lst xs)):xs.length<=sizeLine/\∃(its:ah) (n:Nat),Vals xs its/\xs.length=its.length/\s.heap.get? l=some { cls:=.type "list",data:=.seq its.toArray n }:=by
 obtain⟨z,its,n,r,e⟩:=I.bc l _ hH;exact⟨z,its,n,r,r.length,e⟩
theorem aHm{n:Nat}(h:n<=sizeLine):Builtin.List.listTooLong n=false:=by
 unfold Builtin.List.listTooLong;exact uc (by lia)
end
section
variable{X:Cx}
def Mt:V->List V->Hp->VK->Prop:=λx vs H Q=>∃l xs y,x=.ref l/\vs=[y]/\H l=some (.lst xs)/\xs.length < sizeLine/\Q .br (upd H l (.lst (xs ++ [y])))
theorem aKx:MtM X "list.append" Mt:=by
 intro pins s U H x vs v us Q I rx rv h;obtain⟨l,xs,y,rfl,rfl,hH,hz,q⟩:=h;cases rx;obtain⟨u,rfl,ru⟩:=rv.one;obtain⟨z,its,n,r,hl,e⟩:=I.Fm hH;refine call_meets F.slot_list_append ⟨_,e,rfl⟩ F.entry_list_append (F.args_list_append_2 _ _) (PySem.list_append l its.toArray n u (by rw[kB];lia)) ⟨e,?_⟩;refine⟨.br,_,I.Y8 (its':=its ++ [u]) hH e (by simp) (r.append (.cons ru .nil)) ?_,rfl,q⟩;rw[jE,AZ];lia
def Ms:V->List V->Hp->VK->Prop:=λx vs H Q=>∃l b xs zs,x=.ref l/\vs=[.ref b]/\H l=some (.lst xs)/\H b=some (.lst zs)/\xs.length+zs.length<=sizeLine/\Q .br (upd H l (.lst (xs++zs)))
theorem aKy:MtM X "list.extend" Ms:=by
 intro pins s U H x vs v us Q I rx rv h;obtain⟨l,b,xs,zs,rfl,rfl,hH,hB,hz,q⟩:=h;cases rx;obtain⟨u,rfl,ru⟩:=rv.one;cases ru;obtain⟨z,its,n,r,hl,e⟩:=I.Fm hH;obtain⟨z2,qc,n2,r2,GK,e2⟩:=I.Fm hB;have hsz:its.toArray.size+qc.toArray.size<=sizeLine:=by rw[kB,kB];lia
 have Ak:¬(!its.toArray.isEmpty && Builtin.List.listTooLong (its.toArray.size+qc.toArray.size))=true:=by
  rw[aHm hsz,Bool.and_false];exact lz
 refine call_meets F.slot_list_extend ⟨_,e,rfl⟩ F.entry_list_extend (F.args_list_extend_2 _ _)
  (AutoSeq1.list_extend_list_list_0 l its.toArray n b qc.toArray n2 Ak (by rw[kB];lia) (by lia)) ⟨e,e2,?_⟩
 refine⟨.br,_,I.Y8 (its':=its++qc) hH e (by simp) (r.append r2) ?_,rfl,q⟩;rw[jE];lia
def Y6:R2:=λx y H Q=>∃l b xs zs,x=.ref l/\y=.ref b/\H l=some (.lst xs)/\H b=some (.lst zs)/\xs.length+zs.length<=sizeLine/\∀p,H p=none->Q (.ref p) (upd H p (.lst (xs++zs)))
theorem aQp:uM X (binaryOp .Add) Y6:=by
 intro pins s U H x y v u Q I rx ry h;obtain⟨l,b,xs,zs,rfl,rfl,hH,hB,hz,q⟩:=h;cases rx;cases ry;obtain⟨z,its,n,r,hl,e⟩:=I.Fm hH;obtain⟨z2,qc,n2,r2,GK,e2⟩:=I.Fm hB;refine PySem.P.add_list e e2 ?_ (by rw[kB,kB];lia);have ea:its.toArray++qc.toArray=(its++qc).toArray:=by simp
 rw[ea];exact⟨.ref _,_,I.Y7 (t':=s.toks) (r.append r2) (by rw[jE];lia),rfl,q _ I.fresh⟩
def Y5:R2:=λx y H Q=>∃l k xs,x=.ref l/\y=.int k/\H l=some (.lst xs)/\-(2 ^ 63)<=k/\k < 2 ^ 63/\xs.length*k.toNat<=sizeLine/\
 ∀p,H p=none->Q (.ref p) (upd H p (.lst (List.replicate k.toNat xs).flatten))
theorem len_rep{α:Type}(xs:List α)(k:Nat):(List.replicate k xs).flatten.length=k*xs.length:=by
 induction k with
 |zero=>simp
 |succ k ih=>rw[F7,MI,jE,ih,Nat.succ_mul,Nat.add_comm]
theorem aQq:uM X (binaryOp .Mult) Y5:=by
 intro pins s U H x y v u Q I rx ry h;obtain⟨l,k,xs,rfl,rfl,hH,h1,h2,hz,q⟩:=h;cases rx;obtain⟨t,rfl⟩:=ry;obtain⟨z,its,n,r,hl,e⟩:=I.Fm hH;have hlen:its.toArray.size*k.toNat<=sizeLine:=by rw[kB,<-hl];exact hz
 have Vx:¬its.toArray.size*k.toNat > (2 ^ 63 - 1) / 8:=by
  have:(sizeLine:Nat)<=(2 ^ 63 - 1) / 8:=by decide
  lia
 have Vr:¬(!Builtin.List.listFitsIndex k)=true:=by
  rw[fitsIndex_both h1 h2];exact lz
 have Ak:¬Builtin.List.listTooLong (its.toArray.size*k.toNat)=true:=by
  rw[aHm hlen];exact lz
 have Vn:List.foldl (λx1 x2=>x1++x2) #[] (List.replicate (if its.toArray.isEmpty=true then 0 else k.toNat) its.toArray)=(List.replicate k.toNat its).flatten.toArray:=by
  have f0:∀m:Nat,List.foldl (λx1 x2=>x1++x2) #[] (List.replicate m its.toArray)=(List.replicate m its).flatten.toArray:=λm=>by
   have:=foldl_rep its m [];rw[List.nil_append] at this;exact this
  rw[f0];cases its with
  |nil=>simp
  |cons a r'=>rw[cU (by simp)]
 refine wpAny_binaryOp_repeat_ref (T:="list") (U:="int") (by decide) ⟨_,e,rfl⟩ (λs'=>typeIs_int s' k t) noFill_list_mul F.fills_int_mul F.slot_int_rmul repeat_list F.slot_int_index.lookup
  (call_meets F.slot_int_rmul (typeIs_int s k t) F.entry_int_rmul (F.args_int_rmul_2 _ _) (int___rmul___int_list k t l its.toArray n)
   ⟨e,rfl,⟨_,e,rfl⟩,call_meets F.slot_list_mul ⟨_,e,rfl⟩ F.entry_list_mul (F.args_list_mul_2 _ _) (AutoListH.list___mul___list_int_3 l its.toArray n k t Vr Vx Ak) ⟨e,?_⟩⟩)
 rw[Vn];exact⟨.ref _,_,I.Y7 (t':=s.toks) (r.rep k.toNat) (by rw[len_rep,Nat.mul_comm];exact hz),rfl,q _ I.fresh⟩
end
section
variable{κ:Type}[DecidableEq κ]
def qL(kvs:List (κ×V))(k:κ):Option V:=(kvs.find? λkv=>decide (kv.1=k)).map (·.2)
def putK(kvs:List (κ×V))(k:κ)(v:V):List (κ×V):=
 if (kvs.any λkv=>decide (kv.1=k))=true then kvs.map (λkv=>if kv.1=k then (kv.1,v) else kv) else kvs ++ [(k,v)]
theorem kC{p:κ×V}(e:p.1=k):qL (p::r) k=some p.2:=by simp[qL,uq,e]
theorem jG{p:κ×V}(e:¬p.1=k):qL (p::r) k=qL r k:=by simp[qL,uq,e]
theorem MB(k:κ):∀kvs:List (κ×V),(kvs.any λkv=>decide (kv.1=k))=(qL kvs k).isSome
 |[]=>rfl
 |p::r=>by
  rw[List.any_cons];by_cases e:p.1=k
  ·simp only[kC e,mv e,Bool.true_or,Option.isSome_some]
  ·rw[jG e,uc e,Bool.false_or];exact MB k r
theorem uU(k j:κ)(y:V):∀kvs:List (κ×V),qL (kvs.map λkv=>if kv.1=k then (kv.1,y) else kv) j=(qL kvs j).map λx=>if j=k then y else x
 |[]=>rfl
 |p::r=>by
  have ih:=uU k j y r;rw[yG];by_cases h:p.1=k
  ·rw[dO h];by_cases e:p.1=j
   ·rw[kC (p:=(p.1,y)) e,kC e,Option.map_some,dO (e.symm.trans h)]
   ·rw[jG (p:=(p.1,y)) e,jG e,ih]
  ·rw[cU h];by_cases e:p.1=j
   ·rw[kC (p:=p) e,kC e,Option.map_some,cU (λz=>h (e.trans z))]
   ·rw[jG (p:=p) e,jG e,ih]
theorem pQ(kvs:List (κ×V))(k:κ)(v:V):(putK kvs k v).length<=kvs.length+1:=by
 unfold putK;split
 ·rw[bO];lia
 ·rw[jE,qh,MK];lia
theorem Ro{kvs:List (κ×V)}{k:κ}(v:V)(h:qL kvs k=none):putK kvs k v=kvs ++ [(k,v)]:=by
 unfold putK;rw[MB,h];exact cU (by decide)
theorem uK.RB{o:Option V}{u:aw}(r:uK o u):o.isSome=u.isSome:=by
 cases o with
 |none=>cases u with
  |none=>rfl
  |some _=>exact(show False from r).elim
 |some _=>cases u with
  |none=>exact(show False from r).elim
  |some _=>rfl
theorem uK.getD{o:Option V}{u:aw}(r:uK o u)(rd:RelV d d'):RelV (o.getD d) (u.getD d'):=by
 cases o with
 |none=>cases u with
  |none=>exact rd
  |some _=>exact(show False from r).elim
 |some _=>cases u with
  |none=>exact(show False from r).elim
  |some _=>exact r
theorem KV.val(r:KV kvs vs)(k:κ):uK (qL kvs k) (valueAt vs k):=by
 unfold KV at r;induction r with
 |nil=>exact True.intro
 |@cons p q ps qs h t ih=>
  obtain⟨h1,h2⟩:=h;by_cases e:p.1=k
  ·have e':q.1=k:=h1.symm.trans e;have b:valueAt (q::qs) k=some q.2:=by simp[valueAt,uq,e']
   rw[kC e,b];exact h2
  ·have e':¬q.1=k:=λz=>e (h1.trans z);have b:valueAt (q::qs) k=valueAt qs k:=by simp[valueAt,uq,e']
   rw[jG e,b];exact ih
theorem KV.any{kvs:List (κ×V)}{vs:List (κ×Value)}(r:KV kvs vs)(k:κ):(kvs.any λkv=>decide (kv.1=k))=vs.any λkv=>decide (kv.1=k):=by
 unfold KV at r;induction r with
 |nil=>rfl
 |cons h t ih=>rw[List.any_cons,List.any_cons,ih,h.1]
theorem KV.Pl{kvs:List (κ×V)}{vs:List (κ×Value)}(r:KV kvs vs)(k:κ)(ry:RelV y u) :
  KV (kvs.map λkv=>if kv.1=k then (kv.1,y) else kv) (vs.map λkv=>if kv.1=k then (kv.1,u) else kv):=by
 unfold KV at r ⊢;induction r with
 |nil=>exact .nil
 |@cons p q ps qs h t ih=>
  rw[yG,yG];refine .cons ?_ ih;obtain⟨h1,h2⟩:=h;by_cases e:p.1=k
  ·rw[dO e,dO (h1.symm.trans e)];exact⟨h1,ry⟩
  ·rw[cU e,cU (λz=>e (h1.trans z))];exact⟨h1,h2⟩
theorem KV.put(r:KV kvs vs)(k:κ)(ry:RelV y u):KV (putK kvs k y) (stored vs k u):=by
 unfold putK stored;rw[r.any k];by_cases e:(vs.any λkv=>decide (kv.1=k))=true
 ·rw[dO e,dO e];exact r.Pl k ry
 ·rw[cU e,cU e];exact Paired.snoc r ⟨rfl,ry⟩
theorem KV.length{kvs:List (κ×V)}{vs:List (κ×Value)}(r:KV kvs vs):kvs.length=vs.length:=Paired.length r
end
theorem FD(r:RelV (kV k) u):(fJ P w).is k u=true:=by
 cases k with
 |inl i=>obtain⟨t,e⟩:=(show ∃t,u=Value.int i t from r);subst e;exact aHb P w i t
 |inr x=>obtain⟨t,e⟩:=(show ∃t,u=Value.str x t from r);subst e;exact aHc P w x t
theorem aFE:∀{ks:List Key}{us:ah},Vals (ks.map kV) us->ItemsAre (fJ P w) ks us
 |[],_,r=>by rw[xk] at r;cases r;exact .nil
 |k::ks,_,r=>by
  rw[yG] at r;cases r with
  |cons h t=>exact .cons (FD h) (aFE t)
abbrev KT(H:Hp):List (List Key×V)->List (List Key×Addr×Value)->Prop:=Paired λp q=>p.1=q.1/\H q.2.1=some (.tup (p.1.map kV))/\RelV p.2 q.2.2
theorem KT.val(r:KT H kvs xs)(k:List Key):uK (qL kvs k) ((atKey xs k).map (·.2)):=by
 induction r with
 |nil=>exact True.intro
 |@cons p q ps qs h t ih=>
  obtain⟨h1,_,h2⟩:=h;by_cases e:p.1=k
  ·have e':q.1=k:=h1.symm.trans e;have b:atKey (q::qs) k=some q.2:=by simp[atKey,uq,e']
   rw[kC e,b];exact h2
  ·have e':¬q.1=k:=λz=>e (h1.trans z);have b:atKey (q::qs) k=atKey qs k:=by simp[atKey,uq,e']
   rw[jG e,b];exact ih
theorem KT.Pl{kvs:List (List Key×V)}{xs:List (List Key×Addr×Value)}(r:KT H kvs xs)(k:List Key)(ry:RelV y u) :
  KT H (kvs.map λkv=>if kv.1=k then (kv.1,y) else kv) (xs.map (putAt k u)):=by
 induction r with
 |nil=>exact .nil
 |@cons p q ps qs h t ih=>
  rw[yG,yG];refine .cons ?_ ih;obtain⟨h1,h2,h3⟩:=h;unfold putAt;by_cases e:p.1=k
  ·rw[dO e,dO (h1.symm.trans e)];exact⟨h1,h2,ry⟩
  ·rw[cU e,cU (λz=>e (h1.trans z))];exact⟨h1,h2,h3⟩
theorem KT.put(r:KT H kvs xs)(k:List Key)(hb:H b=some (.tup (k.map kV)))(ry:RelV y u) :
  KT H (putK kvs k y) (storedH xs k b u):=by
 have e:(kvs.any λkv=>decide (kv.1=k))=(atKey xs k).isSome:=by
  rw[MB,(r.val k).RB,Option.isSome_map]
 unfold putK storedH;rw[e];by_cases q:(atKey xs k).isSome=true
 ·rw[dO q,dO q];exact r.Pl k ry
 ·rw[cU q,cU q];exact Paired.snoc r ⟨rfl,hb,ry⟩
theorem KT.keeps{H H':Hp}(r:KT H kvs xs)(ht:∀b ys,H b=some (.tup ys)->H' b=some (.tup ys)):KT H' kvs xs:=
 Paired.PJ r λ_ _ z=>⟨z.1,ht _ _ z.2.1,z.2.2⟩
section
variable{P:Program}{w:World}{H:Hp}{h:Heap}{a:Addr}
theorem Zw(ok:uL P w H h)(e:Rd H a u):bW P w H h a u:=e.ok ok
theorem FC{kvs:List (Key×V)}(ok:uL P w H h)(e:Rd H a (.dK kvs)):kvs.length<=sizeLine/\(a == sysModules)=false/\∃vs,KV kvs vs/\h.DictOf (fJ P w) a vs:=
 show bW P w H h a (.dK kvs) from Zw ok e
theorem Zv{kvs:List (Key×V)}(ok:uL P w H h)(e:H a=some (.dK kvs)):kvs.length<=sizeLine/\(a == sysModules)=false/\∃vs,KV kvs vs/\h.DictOf (fJ P w) a vs:=FC ok (.inl e)
theorem FQ{ks:List Key}(ok:uL P w H h)(e:H a=some (.tup (ks.map kV))):(tupleKind (fJ P w)).is h ks a:=by
 obtain⟨_,its,r,o,h1,h2,n,h3⟩:=(show bW P w H h a (.tup (ks.map kV)) from ok a _ e)
 exact⟨o,its.toArray,n,h1,h2,h3,by simpa using aFE r⟩
theorem FA{kvs:List (List Key×V)}(ok:uL P w H h)(e:Rd H a (.dT kvs)):kvs.length<=sizeLine/\(a == sysModules)=false/\
  ∃xs,KT H kvs xs/\h.DictOfH (tupleKind (fJ P w)) a xs:=by
 obtain⟨z,y,xs,r,o,es,ep,h1,h2,h3,h4,h5⟩:=(show bW P w H h a (.dT kvs) from Zw ok e)
 refine⟨z,y,xs,r,o,es,ep,h1,h2,h3,h4,λx hx=>?_,h5⟩;have all:∀{l:List (List Key×V)} {m:List (List Key×Addr×Value)},KT H l m->∀x∈m,(tupleKind (fJ P w)).is h x.1 x.2.1:=by
  intro l m q;induction q with
  |nil=>intro x hx;exact nomatch hx
  |@cons p q ps qs hq t ih=>
   intro x hx;rcases pN.mp hx with e|hx
   ·subst e;exact FQ ok (by rw[<-hq.1];exact hq.2.1)
   ·exact ih x hx
 exact all r x hx
theorem Zu{kvs:List (List Key×V)}(ok:uL P w H h)(e:H a=some (.dT kvs)):kvs.length<=sizeLine/\(a == sysModules)=false/\
  ∃xs,KT H kvs xs/\h.DictOfH (tupleKind (fJ P w)) a xs:=FA ok (.inl e)
end
def rC(H:Hp)(a:Addr)(y:V)(r:Option V):Prop:=
 (∃kvs k,Rd H a (.dK kvs)/\y=kV k/\r=qL kvs k)\/∃kvs k b,Rd H a (.dT kvs)/\y=.ref b/\H b=some (.tup (k.map kV))/\r=qL kvs k
def vz(H:Hp)(a:Addr)(y v:V)(H':Hp):Prop:=
 (∃kvs k,H a=some (.dK kvs)/\y=kV k/\kvs.length < sizeLine/\H'=upd H a (.dK (putK kvs k v)))\/
 ∃kvs k b,H a=some (.dT kvs)/\y=.ref b/\H b=some (.tup (k.map kV))/\kvs.length < sizeLine/\H'=upd H a (.dT (putK kvs k v))
theorem rC.k{H:Hp}{a:Addr}{kvs:List (Key×V)}{k:Key}(e:H a=some (.dK kvs)):rC H a (kV k) (qL kvs k):=.inl ⟨kvs,k,.inl e,rfl,rfl⟩
theorem rC.t{k:List Key}(e:H a=some (.dT kvs))(eb:H b=some (.tup (k.map kV))):rC H a (.ref b) (qL kvs k):=.inr ⟨kvs,k,b,.inl e,rfl,eb,rfl⟩
theorem vz.k{H:Hp}{a:Addr}{kvs:List (Key×V)}{k:Key}{v:V}(e:H a=some (.dK kvs))(hl:kvs.length < sizeLine):vz H a (kV k) v (upd H a (.dK (putK kvs k v))):=.inl ⟨kvs,k,e,rfl,hl,rfl⟩
theorem vz.t{kvs:List (List Key×V)}{k:List Key}(e:H a=some (.dT kvs))(eb:H b=some (.tup (k.map kV)))(hl:kvs.length < sizeLine) :
  vz H a (.ref b) v (upd H a (.dT (putK kvs k v))):=.inr ⟨kvs,k,b,e,rfl,eb,hl,rfl⟩
section
variable{X:Cx}{pins:ar}{U:St}{H:Hp}{s:Shared}{a:Addr}{y v:V}{u r:Value}{o:Option V}{A:Around}{E:ak}
theorem Inv.big(I:Inv X pins U H s):sysModules < s.heap.objs.size:=by
 have h:mainGlobals < s.heap.objs.size:=(I.mod.glob.keeps I.bk).lt;exact HM (by decide) h
theorem aKz{Q:ak}(hu:A.units+1 < cLine)(I:Inv X pins U H s)(g:rC H a y (some v))(ry:RelV y u)(h:∀w' s',Inv X pins U H s'->RelV v w'->Q w' s') :
  wpAny (model X.prog X.w) A (getItem (.ref a) u) Q E s:=by
 rcases g with ⟨kvs,k,e,ey,l⟩|⟨kvs,k,b,e,ey,eb,l⟩
 ·subst ey;obtain⟨z,hd,vs,rel,dd⟩:=FC I.bc e;obtain⟨w',hw,tj⟩:=uK.some_of (v:=v) (o:=valueAt vs k) (by rw[l];exact rel.val k);exact wpAny_getItem_of (FD ry) dd.mapOf hw (h w' _ (I.tok _) tj)
 ·subst ey;cases (show u=Value.ref b from ry);obtain⟨z,hd,xs,rel,dd⟩:=FA I.bc e;obtain⟨w',hw,tj⟩:=uK.some_of (v:=v) (o:=(atKey xs k).map (·.2)) (by rw[l];exact rel.val k);obtain⟨p,hp,Oj⟩:=mw.mp hw;refine wpAny_getItem_heap (tupleKind_room_in1 hu) (FQ I.bc eb) dd hp ?_;rw[Oj];exact h w' _ (I.tok _) tj
theorem aN0{Q:ak}(hu:A.units+1 < cLine)(I:Inv X pins U H s)(g:rC H a y o)(ry:RelV y u)(h:∀s',Inv X pins U H s'->Q (.bool (!o.isSome)) s') :
  wpAny (model X.prog X.w) A (compareOp .NotIn u (.ref a)) Q E s:=by
 rcases g with ⟨kvs,k,e,ey,l⟩|⟨kvs,k,b,e,ey,eb,l⟩
 ·subst ey;obtain⟨z,hd,vs,rel,dd⟩:=FC I.bc e;refine wpAny_notIn_of (FD ry) hd dd.mapOf ?_;rw[<-(rel.val k).RB,<-l];exact h _ (I.tok _)
 ·subst ey;cases (show u=Value.ref b from ry);obtain⟨z,hd,xs,rel,dd⟩:=FA I.bc e;refine wpAny_notIn_heap (tupleKind_room_in1 hu) (FQ I.bc eb) hd dd ?_;have q:=(rel.val k).RB;rw[Option.isSome_map] at q;rw[<-q,<-l];exact h _ (I.tok _)
theorem Mr{h':Heap}{t':Nat}(I:Inv X pins U H s)(mu:Ii (H a))(hs:Heap.SameBut a s.heap h')(he:∃q,h'.get? a=some q)(new:bW X.prog X.w (upd H a ob) h' a ob) :
  Inv X pins U (upd H a ob) { s with heap:=h',toks:=t' }:=
 I.write (x:=a) (e:=a) mu (.inl rfl) (λb q hb z=>(hs.2 b hb).trans z) he new
theorem Z3{h':Heap}{kvs:List (Key×V)}(z:kvs.length<=sizeLine)(hd:(a == sysModules)=false)(rel:KV kvs vs)(dd:h'.DictOf (fJ P w) a vs) :
  bW P w H' h' a (.dK kvs):=⟨z,hd,vs,rel,dd⟩
theorem aKA{H':Hp}{Q:Unit->Shared->Prop}(hu:A.units+1 < cLine)(I:Inv X pins U H s)(g:vz H a y v H')(ry:RelV y u)(rv:RelV v r)(h:∀s',Inv X pins U H' s'->Q () s') :
  wpAny (model X.prog X.w) A (setItem (.ref a) u r) Q E s:=by
 rcases g with ⟨kvs,k,e,ey,l,eH⟩|⟨kvs,k,b,e,ey,eb,l,eH⟩
 ·subst ey eH;obtain⟨z,hd,vs,rel,dd⟩:=Zv I.bc e;have hz:vs.length<=sizeLine:=by rw[<-rel.length];exact z
  have hl:(putK kvs k v).length<=sizeLine:=by have:=pQ kvs k v;lia
  refine wpAny_setItem_pairs (hsz:=hz) (FD ry) dd λh' Bl hs=>h _ ?_;have he:∃q,h'.get? a=some q:=let ⟨q,_,_,hq,_⟩:=Bl;⟨q,hq⟩
  exact Mr I (by rw[e];exact True.intro) hs he (Z3 hl hd (rel.put k rv) Bl)
 ·subst ey eH;cases (show u=Value.ref b from ry);obtain⟨z,hd,xs,rel,dd⟩:=Zu I.bc e;have hz:xs.length<=sizeLine:=by rw[<-Paired.length rel];exact z
  have hl:(putK kvs k v).length<=sizeLine:=by have:=pQ kvs k v;lia
  refine wpAny_setItem_heap (hsz:=hz) (tupleKind_room_in1 hu) (FQ I.bc eb) dd λh' Bl hs=>h _ ?_;obtain⟨q,es,ep,hq,h2,h3,h4,_,h5⟩:=Bl;refine Mr I (by rw[e];exact True.intro) hs ⟨q,hq⟩ ⟨hl,hd,_,(rel.put k eb rv).keeps λc ys ec=>?_,q,es,ep,hq,h2,h3,h4,h5⟩;rw[aV (ZC ec e (λz=>nomatch z))];exact ec
end
def Pk(i:Expr):Prop:=∀ov iv,subscripted i false ov iv=operate [ov,iv] (getItem ov iv)
theorem aN1{prog:Program}{w:World}{A:Around}{E:ak}{s:Shared}{env:Env}{value slice:Expr}{pos:Pos}{T id:String}{Q:ak}
  (hl:typeLookup (.type T) "__getitem__" = pure (some (.builtin id))) (hs:Pk slice)
  (h:wpAny (model prog w) A (eval value env) (λo az=>wpAny (model prog w) A (eval slice env) (λi oj=>oj.TypeIs o T/\wpAny (model prog w) A (getItem o i) Q E oj) E az) E s) :
  wpAny (model prog w) A (eval (.Subscript value slice pos) env) Q E s:=by
 refine Subscript_ (uo h (λo az fb=>uo fb (λi oj Af=>?_) λ_ _ x=>x) λ_ _ x=>x);obtain⟨hT,Af⟩:=Af;unfold subscriptTail;refine bM ?_;rw[getitemInPython_of_ne hT.not_modules];refine bM (wpAny_specialOf hT hl ?_);have fin:wpAny (model prog w) A (subscripted slice false o i) (λr ka=>wpAny (model prog w) A (letTemporaryGo value o r >>= λ_=>pure r) Q E ka) E oj:=by
  rw[hs o i];exact wpAny_operating (uo Af (λr ka BH=>bM (wpAny_letTemporaryGo (eE BH))) λ_ _ x=>x)
 first
  |exact eE (bM fin)
  |exact bM (eE (bM fin))
  |exact bM fin
theorem aHn{s:Shared}(I:Inv X pins U H s)(g:rC H a y o):s.TypeIs (.ref a) "dict":=by
 rcases g with ⟨kvs,k,e,_,_⟩|⟨kvs,k,b,e,_,_,_⟩
 ·obtain⟨_,_,vs,_,dd⟩:=FC I.bc e;exact dd.typeIs
 ·obtain⟨_,_,xs,_,dd⟩:=FA I.bc e;exact dd.typeIs
def Qg(td ty:TE):TE:=λU H Q=>td U H λx H1=>ty U H1 λy H2=>∃a v,x=.ref a/\rC H2 a y (some v)/\Q v H2
def Qf(td ty tv:TE):TS:=λD U H=>tv U H λv H1=>td U H1 λx H2=>ty U H2 λy H3=>∃a H4,x=.ref a/\vz H3 a y v H4/\D.nx U H4
section
variable{X:Cx}{o i e value:Expr}{pos pos' Ef:Pos}{td ty tv:TE}
theorem aN2(hu:X.A.units+1 < cLine)(ho:PE X o td)(hi:PE X i ty)(hs:Pk i):PE X (.Subscript o i pos) (Qg td ty):=by
 intro pins s U H Q I h;refine aN1 PySem.F.slot_dict_getitem.lookup hs (eG (ho pins s U H _ I h) λu s1 ⟨x,H1,I1,rx,q1⟩=>eG (hi pins s1 U H1 _ I1 q1) λiv s2 zq=>?_);obtain⟨y,H2,I2,ry,a,v,ex,g,q2⟩:=zq;subst ex;obtain rfl:u=Value.ref a:=rx;exact⟨aHn I2 g,aKz hu I2 g ry λw' s3 I3 tj=>⟨v,H2,I3,tj,q2⟩⟩
theorem aN3(hu:X.A.units+1 < cLine)(ho:PE X o td)(hi:PE X i ty)(hv:PE X value tv)(hs:swapsWith value (some (.Subscript o i pos')) pos.line X.env=pure false) :
  PS X (.Assign [.Subscript o i pos'] value pos) (Qf td ty tv):=by
 intro pins s U H D I h;refine wpAny_Assign_Subscript (eG (hv pins s U H _ I h) λr s1 ⟨v,H1,I1,rv,q1⟩=>eG (ho pins s1 U H1 _ I1 q1) λu s2 ⟨x,H2,I2,rx,q2⟩=>eG (hi pins s2 U H2 _ I2 q2) λiv s3 zq=>?_) hs;obtain⟨y,H3,I3,ry,a,H4,ex,g,q3⟩:=zq;subst ex;obtain rfl:u=Value.ref a:=rx;exact aKA hu I3 g ry rv λs4 I4=>⟨U,H4,I4,q3⟩
end
theorem aHo(h:Heap)(hb:sysModules < h.objs.size):bW P w H (h.push { cls:=.type "dict",data:=.dict #[] }) h.objs.size (.dK []):=
 ⟨nv _,beq_eq_false_iff_ne.mpr (Ne.symm (rV hb)),[],.nil,Heap.DictOf.new h⟩
theorem aHp(h:Heap)(hb:sysModules < h.objs.size):bW P w H (h.push { cls:=.type "dict",data:=.dict #[] }) h.objs.size (.dT []):=
 ⟨nv _,beq_eq_false_iff_ne.mpr (Ne.symm (rV hb)),[],.nil,_,#[],0,qI _ rfl,⟨rfl,rfl,rfl⟩,rfl,rfl,List.nodup_nil⟩
def aQt:TE:=λ_ H Q=>∀p,H p=none->Q (.ref p) (upd H p (.dK []))
def aQu:TE:=λ_ H Q=>∀p,H p=none->Q (.ref p) (upd H p (.dT []))
section
variable{X:Cx}{pos:Pos}
theorem aLZ:PE X (.Dict [] [] pos) aQt:=λpins s U H Q I h=>
 wpAny_Dict_empty ⟨.ref s.heap.objs.size,_,I.laid (a:=s.heap.objs.size) (o:=.dK []) (t':=s.toks) (λ_ _ q=>fR _ q) (eR _) (aHo s.heap I.big),rfl,h _ (I.bc.fresh (eR _))⟩
theorem aL0:PE X (.Dict [] [] pos) aQu:=λpins s U H Q I h=>
 wpAny_Dict_empty ⟨.ref s.heap.objs.size,_,I.laid (a:=s.heap.objs.size) (o:=.dT []) (t':=s.toks) (λ_ _ q=>fR _ q) (eR _) (aHp s.heap I.big),rfl,h _ (I.bc.fresh (eR _))⟩
end
structure M1(X:Cx)(o:Expr)(m:Str)(apos:Pos)(e:Expr)(bh:Pos):Prop where
 base:attributeBase o m X.env (eval o X.env)=eval o X.env
 yH:((backTo bh (starEach [e] X.env)).all (λx=>!x.1) && (backToKw bh (keywordEach [] X.env)).all (λx=>x.1.isSome)
  && decide (([e]:List Expr).length+([]:List Keyword).length+(if ([]:List Keyword).isEmpty then 0 else 1) < 30))=true
 line:(apos.endLine == bh.line)=true
 trees:backTo bh (starEach [e] X.env)=[(false,eval e X.env)]
structure M2(X:Cx)(o:Expr)(m:Str)(apos:Pos)(e f:Expr)(bh:Pos):Prop where
 base:attributeBase o m X.env (eval o X.env)=eval o X.env
 yH:((backTo bh (starEach [e,f] X.env)).all (λx=>!x.1) && (backToKw bh (keywordEach [] X.env)).all (λx=>x.1.isSome)
  && decide (([e,f]:List Expr).length+([]:List Keyword).length+(if ([]:List Keyword).isEmpty then 0 else 1) < 30))=true
 line:(apos.endLine == bh.line)=true
 trees:backTo bh (starEach [e,f] X.env)=[(false,eval e X.env),(false,eval f X.env)]
def M7(H:Hp)(a:Addr):Prop:=(∃kvs,Rd H a (.dK kvs))\/∃kvs,Rd H a (.dT kvs)
theorem aQv{s:Shared}(I:Inv X pins U H s)(d:M7 H a) :
  s.TypeIs (.ref a) "dict"/\(∀b,Value.ref a=.ref b->∃ob,s.heap.get? b=some ob/\ob.dict=none)/\(a == sysModules)=false:=by
 rcases d with ⟨kvs,e⟩|⟨kvs,e⟩
 ·obtain⟨_,hd,vs,_,dd⟩:=FC I.bc e;refine⟨dd.typeIs,λb q=>?_,hd⟩;cases q;obtain⟨ob,_,_,h1,h2,_⟩:=dd;exact⟨ob,h1,h2.2.1⟩
 ·obtain⟨_,hd,xs,_,dd⟩:=FA I.bc e;refine⟨dd.typeIs,λb q=>?_,hd⟩;cases q;obtain⟨ob,_,_,h1,h2,_⟩:=dd;exact⟨ob,h1,h2.2.1⟩
section
variable{X:Cx}{pins:ar}{U:St}{H:Hp}{s:Shared}{a:Addr}{y d:V}{u r:Value}{o:Option V}{A:Around}{E:ak}
theorem aQw{Q:ak}(hu:A.units+1 < cLine)(I:Inv X pins U H s)(g:rC H a y o)(ry:RelV y u)(rd:RelV d r)(h:∀w' s',Inv X pins U H s'->RelV (o.getD d) w'->Q w' s') :
  wpAny (model X.prog X.w) A (call (.builtin "dict.get") [.ref a,u,r]) Q E s:=by
 rcases g with ⟨kvs,k,e,ey,l⟩|⟨kvs,k,b,e,ey,eb,l⟩
 ·subst ey;obtain⟨z,hd,vs,rel,dd⟩:=FC I.bc e;refine call_meetsIn PySem.F.slot_dict_get dd.typeIs PySem.F.entry_dict_get (PySem.F.args_dict_get_3 _ _ _) (meets_dict_get_default (fJ X.prog X.w) a (FD ry) hd r) ⟨_,dd.mapOf,h _ _ (I.tok _) ?_⟩;rw[l];exact(rel.val k).getD rd
 ·subst ey;cases (show u=Value.ref b from ry);obtain⟨z,hd,xs,rel,dd⟩:=FA I.bc e;refine call_meetsIn PySem.F.slot_dict_get dd.typeIs PySem.F.entry_dict_get (PySem.F.args_dict_get_3 _ _ _) (meetsH_dict_get_default (tupleKind (fJ X.prog X.w)) a b hd r) ⟨tupleKind_room_in1 hu,k,xs,FQ I.bc eb,dd,h _ _ (I.tok _) ?_⟩;rw[l];exact(rel.val k).getD rd
end
def QP(td ty tx:TE):TE:=λU H Q=>td U H λx H1=>∃a,x=.ref a/\M7 H1 a/\ty U H1 λy H2=>tx U H2 λz H3=>∃o,rC H3 a y o/\Q (o.getD z) H3
section
variable{X:Cx}{o e f:Expr}{apos bh:Pos}{td ty tx:TE}
theorem aL1(hu:X.A.units+1 < cLine)(ho:PE X o td)(he:PE X e ty)(hf:PE X f tx)(m:M2 X o "get" apos e f bh):PE X (.Call (.Attribute o "get" apos) [e,f] [] bh) (QP td ty tx):=by
 intro pins s U H Q I h;refine wpAny_Call_method m.base m.yH m.line PySem.F.plainAttrs_dict PySem.F.slot_dict_get PySem.F.type_dict_get (eG (ho pins s U H _ I h) λu s1 zq=>?_);obtain⟨x,H1,I1,rx,a,ex,d,q1⟩:=zq;subst ex;obtain rfl:u=Value.ref a:=rx;obtain⟨t1,t2,_⟩:=aQv I1 d;refine⟨t1,t2,?_⟩;rw[m.trees];refine Calls.callWith_builtin rfl (Calls.evalArgs_plain (Calls.spliced_cons (eG (he pins s1 U H1 _ I1 q1) λiv s2 ⟨y,H2,I2,ry,q2⟩=>
  Calls.spliced_cons (eG (hf pins s2 U H2 _ I2 q2) λfv s3 ⟨z,H3,I3,rz,ov,g,q3⟩=>Calls.spliced_nil ?_))))
 exact aQw hu I3 g ry rz λw' s4 I4 tj=>⟨_,H3,I4,tj,q3⟩
end
end L2
namespace Att
open PySem PySem.W PySem.Calls PyProof.Rows
theorem aC5:∀(ns:ae) (vs:ah),WellAll P h vs (ns.map WData.int)->IntsAre vs ns:=by
 intro ns;induction ns with
 |nil=>
  intro vs w;rw[xk] at w;cases w;exact .nil
 |cons n ns ih=>
  intro vs w;rw[yG] at w;cases w with
  |cons a b=>
   cases a;exact .cons _ _ (ih _ b)
theorem aKB{l:OpenLaw}{n:Nat}(hn:l.most=some n){h:Heap}(uh:l.row.toRowW.claim.pre args=true)(N6:WellAll P h vals args) :
  ∃a vs ns,vals=[Value.ref a]/\args=[WData.list (ns.map WData.int)]/\h.get? a=some { cls:=.type "list",data:=.seq vs.toArray }/\IntsAre vs ns/\ns.length<=n:=by
 have hsh:WShape.hasAll [] args [.list .int]=true:=(pre_splitW uh).1;have hc:l.pre.holds [] { args:=args } = true:=(pre_splitW uh).2;obtain⟨d,r,rfl,h1,h2⟩:=hasAllW_cons hsh;obtain rfl:=hasAllW_nil h2;obtain⟨xs,rfl,h3⟩:=hasW_list h1;obtain⟨ns,rfl⟩:=items_int h3;have hlen:ns.length<=n:=by
  unfold OpenLaw.pre at hc;have h4:(WTm.not (.lt (.lit (.int (n:Int))) (.len (.arg 0)))).holds [] { args:=[.list (ns.map .int)] } = true:=by
   have h4:=(holds_andW hc).1;rw[hn] at h4;exact h4
  have h5:=condW_of h4 (w_not (w_lt w_lit (w_len_list (w_arg rfl))));rw[bO] at h5;refine Nat.le_of_not_lt λq=>?_;have q':(n:Int) < ((ns.length:Nat):Int):=by lia
  first
   |(rw[mv q'] at h5;exact absurd h5 (by decide))
   |(simp at h5;lia)
 cases N6 with
 |cons w1 w2=>
  cases w2;cases w1 with
  |list ho ia=>exact⟨_,_,ns,rfl,rfl,ho,aC5 ns _ ia,hlen⟩
theorem aKC(l:OpenLaw)(args:List WData):l.row.toRowW.claim.post args (.bool true) args=true:=
 postW_of (r:=l.row.toRowW) (X:=(true == true))
  (show WShape.has [] (.bool true) .bool=true by first|rfl|decide|simp[WShape.has,WShape.arms,WShape.armsAll])
  (show(WTm.eq .res (.lit (.bool true))).value [] { args:=args,res:=some (.bool true),after:=args } = some (.bool (true == true)) from w_eq_bool (w_res rfl) w_lit) rfl
theorem aHq{l:OpenLaw}{n:Nat}{XP:(Str->aw)->Heap->Prop}{YP:World->Heap->Prop}{d:DefRec}(hn:l.most=some n)(GQ:d.params.defaults=[])(call:∀(w:World) (dj az:Shared) (mg mb:Str->aw) (fa:Addr) (o:Obj) (pm cd doc:Value) (a:Addr) (vs:ah) (ns:ae),
   Ground q loose [] XP w dj mg mb az.heap->YP w az.heap->
   az.heap.get? fa=some o->o.data=.func (docDef d.name d.params d.body d.scope pm cd doc)->az.heap.CodeRec cd d.name->mg d.name=some (.ref fa)->
   az.heap.get? a=some { cls:=.type "list",data:=.seq vs.toArray }->IntsAre vs ns->ns.length<=n->az.gens = #[]->
   codeAny (model l.prog w) callerA (.call (.ref fa) ⟨[.ref a],[]⟩) (λr s'=>r=.ok (.ret (.bool true))/\OldK az.heap s'.heap/\s'.os=az.os/\AllBare s'.gens) az) :
  WalkO q loose XP YP l.row.toRowW d [] (λf vs=>PySem.call f vs):=by
 intro w dj az mg mb G Y fa o pm cd doc dV kV ho hd oh hD GH hg args vals as uh a0s hrd N6 hlo;obtain rfl:dV=.none:=Dflts.none hD GQ;obtain rfl:kV=.none:=Dflts.noKw hD;obtain⟨a,vs,ns,rfl,rfl,En,hints,hlen⟩:=aKB hn uh N6;refine enter_call (codeAny_mono (call w dj az mg mb fa o pm cd doc a vs ns G Y ho (fd_plain hd) oh GH En hints hlen hg) λr s' hq=>?_);obtain⟨rfl,h2,h3,h4⟩:=hq;exact⟨.inl ⟨.bool true,.bool true,[],rfl,λ_=>rfl,.bool true,aKC l _,λ_=>⟨List.Pairwise.nil,λ_ hm=>(nomatch hm)⟩⟩,h2,h3,h4⟩
end Att
namespace L2
open PySem PySem.Spec PyProof.Rows
theorem RA:∀{vs:ah}{ns:ae},IntsAre vs ns->Vals (ns.map V.int) vs
 |_,_,.nil=>.nil
 |_,_,.cons n t h=>.cons ⟨t,rfl⟩ (RA h)
def Y4(H:Hp):Prop:=∀b,H b=none\/∃o xs,H b=some (.cx o (.lst xs))
theorem aRV{K:PySem.W.Frag}{mg mb:Str->aw}{CX:wo}{k:Nat}{sp:Sp}{az:Shared}{vs:ah}{ns:ae}(KX:K.In az.heap)(Ba:az.heap.Ns mainGlobals mg)(hb:az.heap.Ns builtinsNs mb)(yj:∀x:Str,x≠"__name__"->mb x=bootBuiltins x)(Eo:az.heap.NoLimit)(OD:∃bm o,mg "__builtins__" = some (.ref bm)/\bm≠builtinsNs/\az.heap.get? bm=some o/\o.cls=.type "module"/\o.dict=some builtinsNs/\o.data=.plain)(hg:az.gens = #[])(ha:az.heap.get? a=some { cls:=.type "list",data:=.seq vs.toArray })(hi:IntsAre vs ns)(hl:ns.length<=sizeLine)(hr:fL k callerA)(F:∀base:Heap,K.In base->base.Ns mainGlobals mg->bT P w K mg base CX k fa fd [x] sp)(oo:∀(s:Shared) (u:Value),BindsTo s fd ⟨[u],[]⟩ [(x,u)])(ic:∀H:Hp,Y4 H->bP K H a (ns.map V.int)->sp [.ref a] H (λv _=>v=.bl true) λ_ _ _=>False)(hCX:∀H e s',CX [] H az (λ_ _ _=>False) e s'->False) :
  codeAny (model P w) callerA (.call (.ref fa) ⟨[.ref a],[]⟩) (λr s'=>r=.ok (.ret (.bool true))/\OldK az.heap s'.heap/\s'.os=az.os/\AllBare s'.gens) az:=by
 have rv:=RA hi;have zy:=hi.length;have core:∀H:Hp,Y4 H->bP K H a (ns.map V.int)->uL P w H az.heap->(∀b,H b≠none->b=a)->(H a≠none->K.lookup a=none)->
   codeAny (model P w) callerA (.call (.ref fa) ⟨[.ref a],[]⟩) (λr s'=>r=.ok (.ret (.bool true))/\OldK az.heap s'.heap/\s'.os=az.os/\AllBare s'.gens) az:=by
  intro H hO hS bc hA hK;have fz:∀{b:Addr} {o:Obj},az.heap.get? b=some o->H b=none->(xW az.heap H).get? b=some o:=λe n=>aHd e n;have yz:∀{b:Addr} {o:Obj} {es:Array DictEntry} {ep:Nat},az.heap.get? b=some o->o.data=.dict es ep->H b=none:=λ{b o es ep} e d=>by
   cases q:H b with
   |none=>rfl
   |some u=>
    have e':b=a:=hA b (by rw[q];simp);subst e';rw[ha] at e;cases e;have d':Data.seq vs.toArray _=Data.dict es ep:=d;cases d'
  have A8:∀{b:Addr} {m:Str->aw},az.heap.Ns b m->(xW az.heap H).Ns b m:=λ{b m} ⟨o,es,ep,e,d,r⟩=>⟨o,es,ep,fz e (yz e d),d,r⟩
  have GY:K.In (xW az.heap H):=λb o e=>fz (KX b o e) (by
   cases q:H b with
   |none=>rfl
   |some u=>
    have e':b=a:=hA b (by rw[q];simp);subst e';rw[hK (by rw[q];simp)] at e;cases e)
  have Et:∃bm o,mg "__builtins__" = some (.ref bm)/\bm≠builtinsNs/\(xW az.heap H).get? bm=some o/\o.cls=.type "module"/\o.dict=some builtinsNs/\o.data=.plain:=by
   obtain⟨bm,ob,b1,b2,b3,b4,b5,b6⟩:=OD;refine⟨bm,ob,b1,b2,fz b3 ?_,b4,b5,b6⟩;cases q:H bm with
   |none=>rfl
   |some u=>
    have e':bm=a:=hA bm (by rw[q];simp);rw[e',ha] at b3;cases b3;exact absurd (show Value.type "list" = Value.type "module" from b4) (by decide)
  have hM:Mod K mg (xW az.heap H):=⟨GY,A8 Ba,⟨mb,A8 hb,yj⟩,(let ⟨mc,h1,h2⟩:=Eo;⟨mc,A8 h1,h2⟩),Et⟩
  have e0:AQ P w K mg (xW az.heap H) callerA [] az H:=⟨rfl,hM,λb o e=>aJD e,FW (aFu _ _),trivial,λb hb=>absurd (show b∈([]:ao) from hb) (by simp),bc,.of_eq hg⟩
  refine codeAny_mono ((F _ GY (A8 Ba)).run callerA [] az H ⟨[.ref a],[]⟩ [.ref a] [.ref a] _ _ hr e0 (oo az (.ref a)) (.cons rfl .nil) (ic H hO hS)) λr s' h=>?_;cases r with
  |error e=>exact(hCX H e s' h).elim
  |ok fl=>
   cases fl with
   |next=>exact False.elim h
   |brk=>exact False.elim h
   |cont=>exact False.elim h
   |ret u=>
    obtain⟨v,H',os,bare,un,BL,r',q⟩:=h;have q':v=.bl true:=q;subst q';obtain rfl:u=Value.bool true:=r';refine⟨rfl,OldK.of_keep λb o e=>?_,os,bare⟩;cases q:H b with
    |none=>exact un.keep b o e q (by intro z;exact absurd (show b∈([]:ao) from z) (by simp)) (by simp)
    |some u=>
     rcases hO b with z|⟨ob,xs,z⟩
     ·rw[q] at z;cases z
     ·have z2:=un.fk b ob _ z;obtain⟨e1,_⟩:=bc b _ z;obtain⟨e2,_⟩:=BL b _ z2;rw[e] at e1;cases e1;exact e2
 cases hk:K.lookup a with
 |some o=>
  have e:=KX a o hk;rw[ha] at e;cases e;refine core (λ_=>none) (λ_=>.inl rfl) (.inr ⟨_,vs.toArray,_,hk,rfl,rfl,rfl,by rw[kB,zy];exact hl,by simpa using rv⟩) (λb u z=>by have z':(none:Option HO)=some u:=z;cases z') (λb z=>absurd rfl z) λz=>absurd rfl z
 |none=>
  refine core (λb=>if b=a then some (.cx { cls:=.type "list",data:=.seq vs.toArray } (.lst (ns.map V.int))) else none) (λb=>?_) (.inl (.inr ⟨{ cls:=.type "list",data:=.seq vs.toArray },dO rfl⟩)) (λb u z=>?_) (λb z=>?_) λ_=>hk
  ·by_cases hb:b=a
   ·exact .inr ⟨_,_,dO hb⟩
   ·exact .inl (cU hb)
  ·by_cases hb:b=a
   ·have z':=(dO hb).symm.trans z;cases z';subst hb;exact⟨ha,by rw[bO];exact hl,vs,_,rv,ha⟩
   ·have z':=(cU hb).symm.trans z;cases z'
  ·by_cases hb:b=a
   ·exact hb
   ·exact absurd (cU hb) z
def inClass(s:Stmt)(j:Nat):Stmt:=match s with
 |.ClassDef _ _ _ body _ _ _ _ _ _ _=>body.getD j (.Pass ⟨0,0,0,0⟩)
 |_=>.Pass ⟨0,0,0,0⟩
def jL(s:Stmt):Arguments:=match s with
 |.FunctionDef _ a _ _ _ _ _ _ _ _=>a
 |_=>{ posonlyargs:=[],args:=[],vararg:=none,kwonlyargs:=[],kw_defaults:=[],kwarg:=none,defaults:=[] }
def iB(s:Stmt):List Stmt:=match s with
 |.FunctionDef _ _ b _ _ _ _ _ _ _=>b
 |_=>[]
def aJ(s:Stmt):Scope:=match s with
 |.FunctionDef _ _ _ _ _ _ sc _ _ _=>sc
 |_=>{ kind:=.function,names:=[],isGenerator:=false,isCoroutine:=false }
abbrev fS:wo:=λ_ _ _ _ _ _=>False
abbrev E0:XK:=λ_ _ _=>False
theorem aT:Passes fS X E0:=λ_ _ _ _ _ _ _ h=>h.elim
structure BB(K:W.Frag)(x qual:Str)(st:Stmt)(f:Addr)(fd:FuncData):Prop where
 ex:∃(oc:Value) (od:Option Addr) (kV doc pm:Value) (an:Option Addr) (bo ct:Value) (wy:Array (aw)),
  fd=W.fnOf x qual (jL st) (iB st) (aJ st) .none kV doc pm an bo ct/\K.lookup f=some ⟨oc,od,.func fd,wy⟩/\W.codeIn K bo qual=true
 kp:W.keepIn K (.ref f)=true
structure FB(K:W.Frag)(x q:Str)(st:Stmt)(f:Addr)(d:FuncData)(ps:aj):Prop where
 F:BB K x q st f d
 b:Binds K d ps []
structure FG(K:W.Frag)(mg:Str->aw)(x:Str)(st:Stmt)(f:Addr)(d:FuncData)(ps:aj):Prop where
 F:BB K x x st f d
 b:Binds K d ps []
 g:mg x=some (.ref f)
section
variable{P:Program}{w:World}{K:W.Frag}{mg:Str->aw}{base:Heap}
theorem BB.ok{x qual:Str}{st:Stmt}{f:Addr}{fd:FuncData}{N ps:aj}{k:Nat}{sp:Sp}(F:BB K x qual st f fd)(S:aX N ps (aJ st))(len:∀vs H Q E,sp vs H Q E->vs.length=ps.length)
  (ip:∀(bo:Value) (A:Around) (outer:List Env) (s:Shared) (H:Hp) (vs:List V) (Q:VK) (E:XK),fL k (A.deeper (envOfC qual (aJ st) s.heap.objs.size f bo))->sp vs H Q E->
   ∃t,uu (DQ fS P w K mg base N qual (aJ st) f bo A outer s H E).EN (iB st) t/\t { nx:=λ_ H'=>Q .br H',rt:=Q } (start N vs) H):bT P w K mg base fS (k+1) f fd ps sp:=by
 obtain⟨oc,od,kV,doc,pm,an,bo,ct,wy,rfl,lk,oh⟩:=F.ex;refine Zy lk oh S len λA outer s H vs Q E hr ic=>?_;obtain⟨t,h,q⟩:=ip bo A outer s H vs Q E hr ic;exact⟨t,h.EN,q⟩
theorem BB.binds{x qual:Str}{st:Stmt}{f:Addr}{fd:FuncData}{ps:aj}(F:BB K x qual st f fd)
  (h:∀(kV doc pm:Value) (an:Option Addr) (bo ct:Value) (us:ah),us.length=ps.length->bindArgs (W.fnOf x qual (jL st) (iB st) (aJ st) .none kV doc pm an bo ct) ⟨us,[]⟩=pure (ps.zip us)):Binds K fd ps []:=by
 obtain⟨oc,od,kV,doc,pm,an,bo,ct,wy,rfl,lk,oh⟩:=F.ex;exact .all (h kV doc pm an bo ct)
theorem FP{x qual:Str}{st:Stmt}{f:Addr}{oc:Value}{od an:Option Addr}{wy:Array (aw)}{kV doc pm bo ct:Value}(l:K.lookup f=some ⟨oc,od,.func (W.fnOf x qual (jL st) (iB st) (aJ st) .none kV doc pm an bo ct),wy⟩)
  (c:W.codeIn K bo qual=true) (k:W.keepIn K (.ref f)=true):BB K x qual st f (W.fnOf x qual (jL st) (iB st) (aJ st) .none kV doc pm an bo ct):=⟨⟨oc,od,kV,doc,pm,an,bo,ct,wy,rfl,l,c⟩,k⟩
end
theorem LR{A B:Prop}(h:B):if false=true then A else B:=by
 rw[cU lz];exact h
theorem LQ{A B:Prop}(h:A):if true=true then A else B:=by
 rw[dO rfl];exact h
def aO(H H':Hp):Prop:=∀b o,H b=some o->H' b=some o
theorem aO.refl(H:Hp):aO H H:=λ_ _ h=>h
theorem aO.trans(a:aO H H1)(b:aO H1 H2):aO H H2:=λc o h=>b c o (a c o h)
theorem aO.free(e:aO H H')(h:H' l=Option.none):H l=Option.none:=by
 cases q:H l with
 |none=>rfl
 |some o=>
  rw[e l o q] at h;cases h
theorem aO.seq{K:W.Frag}{H H':Hp}{a:Addr}{xs:List V}(e:aO H H')(h:bP K H a xs):bP K H' a xs:=by
 rcases h with (h|⟨o,h⟩)|h
 ·exact .inl (.inl (e _ _ h))
 ·exact .inl (.inr ⟨o,e _ _ h⟩)
 ·exact .inr h
section
variable{prog:Program}{w:World}{A:Around}{R:Result->Shared->Prop}{s:Shared}
theorem aHr(I:Nat->Shared->Prop)(turn:∀n s,I n s->wpAny (model prog w) A (pyNext it) (λr az=>match r with
   |none=>R (.ok .next) az
   |some v=>wpAny (model prog w) A (letOwnedTupleGo target it v) (λ_ CV=>wpAny (model prog w) A (assign target env v) (λ_ oj=>
     wpAny (model prog w) A (forIn ifs true λc r=>if r=true then do let ok <-isTrue c env (eval c env);pure (ForInStep.yield ok) else pure (ForInStep.yield r)) (λok ka=>
      if ok=true then wpAny (model prog w) A (eval elt env) (λx BD=>
       wpAny (model prog w) A (call (.builtin "list.append") [acc,x]) (λ_ Iu=>∃m,m < n/\I m Iu) (notedBy (model prog w) A env λe s'=>R (.error e) s') BD) (notedBy (model prog w) A env λe s'=>R (.error e) s') ka
      else ∃m,m < n/\I m ka) (notedBy (model prog w) A env λe s'=>R (.error e) s') oj) (notedBy (model prog w) A env λe s'=>R (.error e) s') CV) (notedBy (model prog w) A env λe s'=>R (.error e) s') az)
   (notedBy (model prog w) A env λe s'=>R (.error e) s') s) (n:Nat) (h:I n s) :
  codeAny (model prog w) A (.compLoop (.ListComp elt [⟨target,iter,ifs,0⟩] scope pos) 0 it acc env) R s:=by
 refine codeAny_loop rfl I (λn s hI=>?_) n h;show wpAny _ A ((compTurn (.ListComp elt [⟨target,iter,ifs,0⟩] scope pos) 0 it acc env).onRaise (λx=>do noteFrame x env;theTreesLotGoes x)) _ _ s;refine wpAny_noted ?_;rw[compTurn_list];refine bM (wpAny_standAt (bM (uo (turn n s hI) (λr az fb=>?_) λ_ _ h'=>h')));cases r with
 |none=>exact eE fb
 |some v=>
  refine bM (uo fb (λ_ CV JQ=>?_) λ_ _ h'=>h');refine bM (uo JQ (λ_ oj Af=>bM (uo Af (λok ka BH=>?_) λ_ _ h'=>h')) λ_ _ h'=>h');cases ok with
  |false=>exact eE ⟨rfl,BH⟩
  |true=>
   exact bM (bM (uo BH (λx BD Vd=>bM (uo Vd (λ_ Iu Vc=>eE (eE ⟨rfl,Vc⟩)) λ_ _ h'=>h')) λ_ _ h'=>h'))
end
def mE(env:Env):List (Str×NameKind)->List (Str×Addr)->List (Str×Addr)
 |[],cs=>cs
 |(n,k)::r,cs=>mE env r (if (k == NameKind.free)=true then (n,(env.cells.lookup n).getD 0)::cs else cs)
theorem zU{scope:Scope}{env:Env}(h:∀x∈scope.names,x.2=.free->∃c,env.cells.lookup x.1=some c):closureFor scope env=pure (mE env scope.names []):=by
 simp only[closureFor];generalize ([]:List (Str×Addr))=cs;revert h cs;generalize scope.names=names;intro h;induction names with
 |nil=>intro cs;rfl
 |cons x r ih=>
  intro cs;obtain⟨n,k⟩:=x;have ih:=ih λy hy=>h y (md _ hy);rw[List.forIn_cons];by_cases hk:k=.free
  ·subst hk;obtain⟨c,hc⟩:=h (n,.free) pz rfl;have DC:env.cells.lookup n=some c:=hc;have e:mE env ((n,NameKind.free)::r) cs=mE env r ((n,c)::cs):=by
    show mE env r (if (NameKind.free == NameKind.free)=true then (n,(env.cells.lookup n).getD 0)::cs else cs)=_;rw[DC];rfl
   rw[e,<-ih];simp only[cellOf,DC,beq_self_eq_true,if_true];rfl
  ·have hb:(k == NameKind.free)=false:=by simpa using hk
   have e:mE env ((n,k)::r) cs=mE env r cs:=by
    show mE env r (if (k == NameKind.free)=true then (n,(env.cells.lookup n).getD 0)::cs else cs)=_;rw[hb];rfl
   rw[e,<-ih];simp only[hb,D9,if_false];rfl
theorem MA{env:Env}:∀(names:List (Str×NameKind)) (cs:List (Str×Addr)),(∀y∈names,y.2=.free->∃c,env.cells.lookup y.1=some c)->(x,c)∈mE env names cs->(x,c)∈cs\/env.cells.lookup x=some c
 |[],cs,_,h=>.inl h
 |(n,k)::r,cs,hf,h=>by
  have h':(x,c)∈mE env r (if (k == NameKind.free)=true then (n,(env.cells.lookup n).getD 0)::cs else cs):=h;rcases MA r _ (λy hy=>hf y (md _ hy)) h' with q|q
  ·by_cases hk:(k == NameKind.free)=true
   ·rw[dO hk] at q;rcases pN.mp q with e|q
    ·cases e;obtain⟨c,hc⟩:=hf (x,k) pz (by simpa using hk);have DC:env.cells.lookup x=some c:=hc;rw[DC];exact .inr rfl
    ·exact .inl q
   ·rw[cU hk] at q;exact .inl q
  ·exact .inr q
theorem aHs:∀(names:List (Str×NameKind)) (cs:List (Str×Addr)),p∈cs->p∈mE env names cs
 |[],_,h=>h
 |(n,k)::r,cs,h=>by
  show p∈mE env r (if (k == NameKind.free)=true then (n,(env.cells.lookup n).getD 0)::cs else cs);refine aHs r _ ?_;split
  ·exact md _ h
  ·exact h
theorem aHt{env:Env}:∀(names:List (Str×NameKind)) (cs:List (Str×Addr)),(x,NameKind.free)∈names->env.cells.lookup x=some c->(x,c)∈mE env names cs
 |[],_,h,_=>by cases h
 |(n,k)::r,cs,h,hc=>by
  show(x,c)∈mE env r (if (k == NameKind.free)=true then (n,(env.cells.lookup n).getD 0)::cs else cs);rcases pN.mp h with e|h
  ·cases e;refine aHs r _ ?_;rw[dO (by simp),hc];exact pz
  ·exact aHt r _ h hc
theorem yI:∀{l:List (Str×Addr)},(x,c)∈l->(∀d,(x,d)∈l->d=c)->l.lookup x=some c
 |[],h,_=>by cases h
 |(n,d)::r,h,u=>by
  rw[su];by_cases e:x=n
  ·subst e;rw[beq_self_eq_true];rw[u d pz]
  ·rw[show(x == n)=false by simpa using e];rcases pN.mp h with q|q
   ·cases q;exact absurd rfl e
   ·exact yI q λd hd=>u d (md _ hd)
theorem uV{env:Env}(hf:∀y∈names,y.2=.free->∃c,env.cells.lookup y.1=some c)(hx:(x,NameKind.free)∈names)(hc:env.cells.lookup x=some c):(mE env names []).lookup x=some c:=
 yI (aHt names [] hx hc) λd hd=>by
  rcases MA names [] hf hd with q|q
  ·cases q
  ·rw[hc] at q;exact(Option.some.inj q).symm
theorem nO{env:Env}(hf:∀y∈names,y.2=.free->∃c,env.cells.lookup y.1=some c)(h:(mE env names []).lookup x=some c):env.cells.lookup x=some c:=by
 rcases MA names [] hf (PySem.mem_of_lookup h) with q|q
 ·cases q
 ·exact q
def xi(X:Cx)(scope:Scope)(N:aj)(fp:ao)(C:Addr)(s:Shared)(H:Hp):Cx where
 prog:=X.prog
 w:=X.w
 K:=X.K
 mg:=X.mg
 base:=X.base
 A:=X.A
 N:=N
 dj:=s
 ui:=H
 env:=compEnvC scope (mE X.env scope.names []) C X.env
 outer:=X.stack
 stack:=X.stack
 ex:=fp
 fn:=λ_=>false
 calm:=X.calm
 pn:=[]
 xe:=λ_ _=>False
theorem uL.Qn{P:Program}{w:World}{H:Hp}{h:Heap}{a:Addr}{o:HO}(x:uL P w H h)(hn:H a=none)(new:bW P w (upd H a o) h a o):uL P w (upd H a o) h:=λb u e=>by
 by_cases hb:b=a
 ·subst hb;rw[aP] at e;cases e;exact new
 ·rw[aV hb] at e;exact(x b u e).oI (λc v _ q=>q) (λc q=>by rw[aV (bQ q hn)];exact q) λc xs _ q=>by rw[aV (bQ q hn)];exact q
theorem Un.Qn{fs ex:ao}{H H1:Hp}{h h1:Heap}{a:Addr}{o:HO}(u:Un fs ex H H1 h h1)(hs:h.objs.size<=a)(hn:H1 a=none):Un fs ex H (upd H1 a o) h h1 where
 keep:=u.keep
 slot:=u.slot
 free:=λb ob q n hx=>by rw[aV (rV (uJ (jX q) hs))];exact u.free b ob q n hx
 there:=u.there
 rW:=λb xs q=>by rw[aV (bQ (u.rW b xs q) hn)];exact u.rW b xs q
 fk:=λb ob xs q=>by rw[aV (bQ (u.fk b ob xs q) hn)];exact u.fk b ob xs q
 jq:=λb ps q=>by
  obtain⟨m,e⟩:=u.jq b ps q;exact⟨m,by rw[aV (bQ e hn)];exact e⟩
theorem nB{env:Env}:∀{names:List (Str×NameKind)}{x:Str},names.lookup x=some .free->
  (names.map λ(n,k)=>if (k == NameKind.free && env.scope.kind == .function && env.kindOf n == some .cell) then (n,NameKind.cell) else (n,k)).lookup x=some .cell\/
  (names.map λ(n,k)=>if (k == NameKind.free && env.scope.kind == .function && env.kindOf n == some .cell) then (n,NameKind.cell) else (n,k)).lookup x=some .free
 |[],_,h=>by simp at h
 |(n,k)::r,x,h=>by
  have ih:=@nB env r x;show List.lookup x ((if (k == NameKind.free && env.scope.kind == .function && env.kindOf n == some .cell)=true then (n,NameKind.cell) else (n,k))::_)=_\/List.lookup x ((if (k == NameKind.free && env.scope.kind == .function && env.kindOf n == some .cell)=true then (n,NameKind.cell) else (n,k))::_)=_;cases hx:x == n with
  |true=>
   simp only[su,hx] at h;cases h;by_cases hc:(NameKind.free == NameKind.free && env.scope.kind == .function && env.kindOf n == some .cell)=true
   ·rw[dO hc];simp only[su,hx];exact .inl trivial
   ·rw[cU hc];simp only[su,hx];exact .inr trivial
  |false=>
   simp only[su,hx] at h;by_cases hc:(k == NameKind.free && env.scope.kind == .function && env.kindOf n == some .cell)=true
   ·rw[dO hc];simp only[su,hx];exact ih h
   ·rw[cU hc];simp only[su,hx];exact ih h
theorem aAy{env:Env}{ow:Option Str}:∀{names:List (Str×NameKind)}{x:Str},(∀z∈names,z.2=.cell->ow=some z.1)->
  ((names.map λ(n,k)=>if (k == NameKind.free && env.scope.kind == .function && env.kindOf n == some .cell) then (n,NameKind.cell) else (n,k)).lookup x=some .cell\/
  (names.map λ(n,k)=>if (k == NameKind.free && env.scope.kind == .function && env.kindOf n == some .cell) then (n,NameKind.cell) else (n,k)).lookup x=some .free)->ow=some x\/(x,NameKind.free)∈names
 |[],_,_,h=>by simp at h
 |(n,k)::r,x,hc,h=>by
  have ih:=@aAy env ow r x λz hz=>hc z (md _ hz);have h':List.lookup x ((if (k == NameKind.free && env.scope.kind == .function && env.kindOf n == some .cell)=true then (n,NameKind.cell) else (n,k))::_)=_\/List.lookup x ((if (k == NameKind.free && env.scope.kind == .function && env.kindOf n == some .cell)=true then (n,NameKind.cell) else (n,k))::_)=_:=h;cases hx:x == n with
  |true=>
   have e:x=n:=by simpa using hx
   subst e;by_cases hq:(k == NameKind.free && env.scope.kind == .function && env.kindOf x == some .cell)=true
   ·have hk:(k == NameKind.free)=true:=by
     rw[Bool.and_assoc] at hq;exact(xp _ _▸hq).1
    rw[show k=NameKind.free by simpa using hk];exact .inr pz
   ·rw[cU hq] at h';simp only[su,hx] at h';rcases h' with z|z
    ·cases z;exact .inl (hc _ pz rfl)
    ·cases z;exact .inr pz
  |false=>
   have go:_->ow=some x\/(x,NameKind.free)∈(n,k)::r:=λq=>(ih q).imp id (md _);by_cases hq:(k == NameKind.free && env.scope.kind == .function && env.kindOf n == some .cell)=true
   ·rw[dO hq] at h';simp only[su,hx] at h';exact go h'
   ·rw[cU hq] at h';simp only[su,hx] at h';exact go h'
structure fX(X:Cx)(scope:Scope)(N:aj)(k:Nat)(idx:List Nat):Prop where
 kind:scope.kind=.function
 fu:∀y∈scope.names,y.2≠.cell
 names:∀y∈scope.names,y.2=.local->scope.names.lookup y.1=some .local
 free:∀y∈scope.names,y.2=.free->X.env.kindOf y.1=some .cell\/X.env.kindOf y.1=some .free
 nd:N.Nodup
 len:N.length=k+idx.length
 cm:∀(i:Nat) (x:Str),(N.drop k)[i]?=some x->∃j:Nat,idx[i]?=some j/\X.N[j]?=some x/\scope.names.lookup x=some .free
def yo(k:Nat)(idx:List Nat)(U:St):St:=List.replicate k none++idx.map λj=>(U[j]?).join
def B6(ow:Option Str)(a:Addr):List (Str×Addr):=match ow with|none=>[]|some y=>[(y,a)]
def pow(ow:Option Str)(h:Heap):Heap:=match ow with|none=>h|some _=>h.push { cls:=.type "cell",data:=.cell none }
def xh(X:Cx)(ow:Option Str)(scope:Scope)(N:aj)(fp:ao)(C:Addr)(s:Shared)(H:Hp):Cx:=
 { xi X scope N fp C s H with env:=compEnvC scope (B6 ow (C+1)++mE X.env scope.names []) C X.env,fn:=λx=>match ow with|none=>false|some y=>x == y }
structure uW(X:Cx)(ow:Option Str)(scope:Scope)(N:aj)(k:Nat)(idx:List Nat):Prop where
 kind:scope.kind=.function
 cf:∀n acc,cellsFrom n scope.names acc=B6 ow n++acc
 pc:∀h,pushCells h scope.names=pow ow h
 fu:∀z∈scope.names,z.2=.cell->ow=some z.1
 names:∀z∈scope.names,z.2=.local->scope.names.lookup z.1=some .local
 free:∀z∈scope.names,z.2=.free->ow≠some z.1/\(X.env.kindOf z.1=some .cell\/X.env.kindOf z.1=some .free)
 nd:N.Nodup
 len:N.length=k+idx.length
 cm:∀(i:Nat) (x:Str),(N.drop k)[i]?=some x->∃j:Nat,idx[i]?=some j/\X.N[j]?=some x/\scope.names.lookup x=some .free
theorem Rn:∀{names:List (Str×NameKind)},(∀y∈names,y.2≠.cell)->(∀n acc,cellsFrom n names acc=acc)/\∀h,pushCells h names=h
 |[],_=>⟨λ_ _=>rfl,λ_=>rfl⟩
 |(x,k)::r,h=>by
  have ih:=Rn λy hy=>h y (md _ hy);have hk:¬(k == NameKind.cell)=true:=by simpa using h _ pz
  refine⟨λn acc=>?_,λhp=>?_⟩
  ·unfold cellsFrom;rw[cU hk];exact ih.1 n acc
  ·unfold pushCells;rw[cU hk];exact ih.2 hp
theorem fX.G7{k:Nat}{idx:List Nat}(S:fX X scope N k idx):uW X none scope N k idx:=
 ⟨S.kind,(Rn S.fu).1,(Rn S.fu).2,λz hz e=>absurd e (S.fu z hz),S.names,λz hz e=>⟨nofun,S.free z hz e⟩,S.nd,S.len,S.cm⟩
theorem Cy{cl:List (Str×Addr)}(h:(B6 ow a++cl).lookup x=some c):(ow=some x/\c=a)\/(ow≠some x/\cl.lookup x=some c):=by
 cases ow with
 |none=>exact .inr ⟨nofun,h⟩
 |some y=>
  have h':((y,a)::cl).lookup x=some c:=h;rw[su] at h';cases e:x == y with
  |true=>rw[e] at h';cases h';exact .inl ⟨by rw[beq_iff_eq.mp e],rfl⟩
  |false=>rw[e] at h';exact .inr ⟨λz=>by cases z;simp at e,h'⟩
theorem aHu{cl:List (Str×Addr)}(h:ow≠some x):(B6 ow a++cl).lookup x=cl.lookup x:=by
 cases ow with
 |none=>rfl
 |some y=>
  show((y,a)::cl).lookup x=_;rw[su,show(x == y)=false from beq_eq_false_iff_ne.mpr λz=>h (by rw[z])]
theorem aL3:(B6 (some y) a++cl).lookup y=some a:=by
 show((y,a)::cl).lookup y=_;rw[su,show(y == y)=true by simp]
theorem Q1{h:Heap}(e:h.get? b=some o):(pow ow h).get? b=some o:=by
 cases ow with
 |none=>exact e
 |some y=>exact fR _ e
theorem aQx{h:Heap}(e:a=h.objs.size):(pow (some y) h).get? a=some { cls:=.type "cell",data:=.cell none }:=by
 rw[e];exact qI _ rfl
theorem aEY{E:ak}{s:Shared}{scope:Scope}{Q:Env->Shared->Prop}(cf:∀n acc,cellsFrom n scope.names acc=B6 ow n++acc)(pc:∀h,pushCells h scope.names=pow ow h)(hQ:Q (newEnv scope s.heap.objs.size globals (B6 ow (s.heap.objs.size+1)++cl) qual none .none (some env) builtinsNs) { s with heap:=pow ow (s.heap.push { cls:=.type "dict",data:=.dict #[] }) }) :
  wpAny M A (newFunctionEnv scope globals cl [] qual none .none (some env)) Q E s:=by
 simp only[newFunctionEnv,Option.isSome_some,if_true];refine bM (wpAny_alloc ?_);refine bM (wpAny_layCells _ (λname kind cells=>by cases hkc:kind == NameKind.cell <;> simp[hkc]) _ _ _ _ ?_);rw[cf,pc,show({ s with heap:=s.heap.push { cls:=.type "dict",data:=.dict #[] } }:Shared).heap.objs.size=s.heap.objs.size+1 from rp ..];rw[List.forIn_nil];exact bM (eE (eE hQ))
section
variable{X:Cx}{pins:ar}{U:St}{H:Hp}{s:Shared}{ow:Option Str}{scope:Scope}{N:aj}{k:Nat}{idx:List Nat}{fp:ao}
theorem uW.cells(S:uW X ow scope N k idx)(I:Inv X pins U H s):∀z∈scope.names,z.2=.free->∃c,X.env.cells.lookup z.1=some c:=λz hz h=>I.ok.has z.1 (S.free z hz h).2
theorem aKD{fb:Heap}{tk:Nat}{oD:Obj}{m:Str->aw}(S:uW X ow scope N k idx)(I:Inv X pins U H s)(hf:∀b∈fp,wa X pins H b)(ho:∀b∈fp,∃o,s.heap.get? b=some o)(hC:s.heap.objs.size<=C)(hD:s.heap.objs.size<=D)(E8:D≠C)(hn:fb.Ns C m)(old:∀b o,s.heap.get? b=some o->fb.get? b=some o)(eD:fb.get? D=some oD)(dD:∀v,oD.data≠.cell v)(ec:∀y,ow=some y->fb.get? (C+1)=some { cls:=.type "cell",data:=.cell none }) :
  Inv (xh X ow scope N fp C s H) [(D,oD)] (yo k idx U) H { s with heap:=fb,toks:=tk }:=by
 have sh:=S.cells I;have IA:∀{x:Str} {c:Addr},(mE X.env scope.names []).lookup x=some c->c < s.heap.objs.size:=λ{x c} e=>by
  obtain⟨v,q⟩:=I.cell x c (nO sh e);exact q.lt
 have zg:s.heap.objs.size < C+1:=Nat.lt_succ_of_le hC;have nst:∀b,s.heap.objs.size<=b->b∉nj X.stack:=λb hb z=>by
  obtain⟨_,o,e,_⟩:=I.stack.mem z;exact absurd (uJ (jX e) hb) (ua _)
 refine⟨⟨I.ok.mod,S.kind,I.ok.glob,I.ok.blt,hC,λx x2 c h1 h2=>?_,λx hx=>?_,λx c z e=>?_,I.ok.hd,I.ok.frames,.inl rfl,λb hb=>⟨?_,λx c e=>?_⟩,I.bs,
  mf I.ok.zk I.sz,λb o e hb=>?_,λb hb z=>?_,I.stack,I.Mw⟩,rfl,I.bare,Un.kept old,⟨m,hn,λi x v h1 h2 h3=>?_⟩,λx c e=>?_,I.bc.fresh hC,λx c e=>?_,λp hp=>?_,I.bc.kept old,?_⟩
 ·rcases Cy h1 with ⟨a1,a2⟩|⟨a1,a2⟩ <;> rcases Cy h2 with ⟨b1,b2⟩|⟨b1,b2⟩
  ·cases a1.symm.trans b1;rfl
  ·have:=IA b2;rw[a2] at this;exact absurd (HM this zg) (ua _)
  ·have:=IA a2;rw[b2] at this;exact absurd (HM this zg) (ua _)
  ·exact I.ok.inj x x2 c (nO sh a2) (nO sh b2)
 ·rcases aAy S.fu hx with q|q
  ·cases q;exact⟨C+1,aL3⟩
  ·obtain⟨c,e⟩:=sh _ q rfl;exact⟨c,(aHu (S.free _ q rfl).1).trans (uV sh q e)⟩
 ·rcases Cy e with ⟨a1,a2⟩|⟨a1,a2⟩
  ·rw[a2];exact CH zg
  ·cases ow with
   |none=>cases z
   |some y=>
    have z':(x == y)=true:=z;exact absurd (by rw[beq_iff_eq.mp z']) a1
 ·obtain⟨o,e⟩:=ho b hb;exact rV (uJ (jX e) hC)
 ·rcases Cy e with ⟨a1,a2⟩|⟨a1,a2⟩
  ·obtain⟨o,q⟩:=ho b hb;have:=jX q;intro z;rw[a2] at z;rw[<-z] at this;exact absurd (HM this zg) (ua _)
  ·exact(hf b hb).2.2.2.2.1 x c (nO sh a2)
 ·rcases(hf b hb).2.2.2.1 with z|z
  ·exact I.ok.vh b o e z
  ·exact absurd (uJ (jX (I.ok.bs b o e).1) z) (ua _)
 ·rcases pN.mp (I.Hu b z) with q|q
  ·exact(hf b hb).2.1 q
  ·exact(hf b hb).2.2.1 q
 ·have hi:k<=i:=by
   by_cases hi:i < k
   ·unfold yo at h2;rw[rq (by simpa using hi),RW,dO hi] at h2;cases h2
   ·lia
  obtain⟨j,rfl⟩ : ∃j,i=k+j:=⟨i - k,by lia⟩
  have Bi:N[k+j]?=some x:=h1;obtain⟨l,e1,e2,e3⟩:=S.cm j x (by rw[List.getElem?_drop];exact Bi);have vq:U[l]?=some (some v):=by
   unfold yo at h2;rw[ug (by simp),lB] at h2;simp only[RS,Nat.add_sub_cancel_left,e1,Option.map_some,Option.some.injEq] at h2;cases q:U[l]? with
   |none=>rw[q] at h2;cases h2
   |some z=>rw[q] at h2;exact congrArg some h2
  obtain⟨m0,hn0,hl⟩:=I.loc;have jl:(x,NameKind.free)∈scope.names:=PySem.mem_of_lookup e3;have hk:=(S.free _ jl rfl).2;obtain⟨u,r,l⟩:=hl l x v e2 vq (by rcases hk with z|z;exact .inr (.inl z);exact .inr (.inr z));refine⟨u,r,.inr ⟨nB e3,?_⟩⟩;rcases l with ⟨z,_⟩|⟨_,c,e,o,q,d⟩
  ·rcases hk with w|w
   ·rw[w] at z;cases z
   ·rw[w] at z;cases z
  ·exact⟨c,(aHu (S.free _ jl rfl).1).trans (uV sh jl e),o,old c o q,d⟩
 ·rcases Cy e with ⟨a1,a2⟩|⟨a1,a2⟩
  ·rw[a2];exact⟨none,_,ec _ a1,rfl⟩
  ·obtain⟨v,o,q,d⟩:=I.cell x c (nO sh a2);exact⟨v,o,old c o q,d⟩
 ·rcases Cy e with ⟨a1,a2⟩|⟨a1,a2⟩
  ·rw[a2];exact I.bc.fresh (CH zg)
  ·exact I.fe x c (nO sh a2)
 ·have xc:p∈([]:ar) ++ [(D,oD)]:=hp;have e:p=(D,oD):=by simpa using xc
  subst e;exact⟨eD,I.bc.fresh hD,E8,nst D hD,dD⟩
 ·unfold yo;show _=N.length;rw[S.len];simp
theorem aN6{s':Shared}{ys:List V}{its:ah}{n:Nat}(I:Inv X pins U H s)(hf:∀b∈fp,wa X pins H b)(J:Inv (xh X ow scope N fp C s H) qu U' H' s')(hC:s.heap.objs.size<=C)(hD:s.heap.objs.size<=D)(E8:D≠C)(XI:H' D=none)(eD:s'.heap.get? D=some { cls:=.type "list",data:=.seq its.toArray n })(r:Vals ys its)(hz:ys.length<=sizeLine) :
  Inv X pins U (upd H' D (.lst ys)) s'/\wa X pins (upd H' D (.lst ys)) C:=by
 have hk:uL X.prog X.w (upd H' D (.lst ys)) s'.heap:=uL.Qn J.bc XI ⟨hz,its,n,r,eD⟩;have u:Un (nj X.stack) fp H (upd H' D (.lst ys)) s.heap s'.heap:=Un.Qn J.base hD XI;refine⟨I.aRA J.os u hk J.bare λb hb=>⟨(hf b hb).2.2.2.1,(hf b hb).2.1,(hf b hb).2.2.2.2.1,(hf b hb).2.2.2.2.2⟩,I.AR hC ?_⟩;rw[aV E8.symm];exact J.free
theorem fX.cells(S:fX X scope N k idx)(I:Inv X pins U H s):∀y∈scope.names,y.2=.free->∃c,X.env.cells.lookup y.1=some c:=S.G7.cells I
end
def mV(J:It)(σ₀:St)(g:TG)(tt:TT)(te:TE)(R:List V->Hp->Prop)(H1:Hp):Prop:=
 ∃W:Nat->Nat->List V->Hp->Prop,(∃m,W 0 m [] H1)/\∀i m ys H,W i m ys H->ys.length<=sizeLine/\
  ((J.stop i H/\R ys H)\/(J.go i H/\∃N:List V->Hp->Prop,(∀EH H',N EH H'->∃m',m' < m/\W (i+1) m' EH H')/\
   ∀x H',J.tf i H x H'->g x σ₀ H' λσ2 H2=>tt σ2 H2 λb H3=>if b=true then te σ2 H3 λy H4=>N (ys ++ [y]) H4 else N ys H3))
def Hj(wi:TI)(k:Nat)(idx:List Nat)(g:TG)(tt:TT)(te:TE):TE:=λU H Q=>wi U H λJ H1=>mV J (yo k idx U) g tt te (λys H'=>∀p,H' p=none->Q (.ref p) (upd H' p (.lst ys))) H1
def F9(X:Cx)(ifs:List Expr)(t:TT):Prop:=
 ∀(pins:ar) (s:Shared) (U:St) (H:Hp) (Q:Bool->Hp->Prop),Inv X pins U H s->t U H Q->
  wpAny (model X.prog X.w) X.A (forIn ifs true λc r=>if r=true then do let ok <-isTrue c X.env (eval c X.env);pure (ForInStep.yield ok) else pure (ForInStep.yield r)) (TP X pins U Q) X.xe s
def Pj:TT:=λ_ H Q=>Q true H
theorem aN7:F9 X [] Pj:=λ_ _ _ H _ I h=>wpAny_tests_nil ⟨H,I,h⟩
theorem aN8(h:PT X c t):F9 X [c] t:=λpins s U H Q I q=>wpAny_tests_one (h pins s U H Q I q)
def Ee(k:Nat)(U' U:St):Prop:=U'.length=U.length/\∀i,k<=i->U'[i]?=U[i]?
theorem Ee.set{k i:Nat}{U:St}(h:Ee k U σb)(hi:i < k):Ee k (U.set i v) σb:=⟨by rw[D4];exact h.1,λj hj=>by rw[MQ (by lia)];exact h.2 j hj⟩
def Own(k:Nat)(g:TG):Prop:=∀x U H (Q:St->Hp->Prop) (σb:St),Ee k U σb->g x U H Q->g x U H λU' H'=>Ee k U' σb/\Q U' H'
def LP(k:Nat)(g:zm):Prop:=∀xs U H (Q:St->Hp->Prop) (σb:St),Ee k U σb->g xs U H Q->g xs U H λU' H'=>Ee k U' σb/\Q U' H'
theorem cX{k i:Nat}(h:i < k):Own k (uR i):=λ_ _ _ _ _ a q=>⟨a.set h,q⟩
theorem kD{k:Nat}:LP k LO:=λ_ _ _ _ _ a ⟨e,q⟩=>⟨e,a,q⟩
theorem cR{k i:Nat}(h:i < k)(hu:LP k u):LP k (L3 (uR i) u):=λ_ _ _ Q σb a ⟨v,r,e,q⟩=>⟨v,r,e,hu r _ _ Q σb (a.set h) q⟩
theorem nP{K:W.Frag}{n k:Nat}{u:zm}(hu:LP k u):Own k (LN K n u):=λ_ _ _ Q σb a ⟨l,xs,e,h1,h2,q⟩=>⟨l,xs,e,h1,h2,hu xs _ _ Q σb a q⟩
theorem aL4(its:ah)(u:Value)(n:Nat):({ cls:=.type "list",data:=.seq (its.toArray.push u) n }:Obj)={ cls:=.type "list",data:=.seq (its ++ [u]).toArray n }:=by
 rw[List.push_toArray]
section
variable{X:Cx}{pins:ar}{U:St}{H:Hp}{s:Shared}{ow:Option Str}{scope:Scope}{N:aj}{k:Nat}{idx:List Nat}{fp:ao}
theorem aCf{tn:Nat->Heap->Prop}{R:List V->Hp->Prop}{E:ak}{RR:Value->Addr->Result->Shared->Prop}(S:uW X ow scope N k idx)(hc:X.calm=true)(I:Inv X pins U H s)(T:Turn X.prog X.w X.K target J fp it tn)(st:tn 0 s.heap)(hf:∀b∈fp,wa X pins H b)(hg:∀C,PG (xh X ow scope N fp C s H) target g)(ho:Own k g)(ht:∀C,F9 (xh X ow scope N fp C s H) ifs tt)(he:∀C,PE (xh X ow scope N fp C s H) elt te)(hw:mV J (yo k idx U) g tt te R H)(hRR:∀D C s' m ys H',s'.heap.Ns C m->Inv X pins U (upd H' D (.lst ys)) s'->wa X pins (upd H' D (.lst ys)) C->H' D=none->R ys H'->RR (.ref D) C (.ok .next) s') :
  wpAny (model X.prog X.w) X.A (newList []) (λacc ka=>wpAny (model X.prog X.w) X.A (newFunctionEnv scope X.env.globals (mE X.env scope.names []) [] X.env.qual none .none (some X.env)) (λIZ BD=>
   codeAny (model X.prog X.w) X.A (.compStart (.ListComp elt [⟨target,iter,ifs,0⟩] scope pos) 0 (.ref it) acc { IZ with scope:=relabel scope X.env }) (RR acc IZ.locals) BD) E ka) E s:=by
 refine vb (aEY S.cf S.pc ?_);dsimp only;generalize OP:s.heap.push { cls:=.type "list",dict:=none,data:=.seq ([]:ah).toArray } = H2;have zg:H2.objs.size=s.heap.objs.size+1:=by rw[<-OP,rp]
 have E8:s.heap.objs.size≠H2.objs.size:=by rw[zg];exact rV (F1 _)
 have IW:s.heap.objs.size<=H2.objs.size:=by rw[zg];exact Nat.le_succ _
 have below:∀b,b < s.heap.objs.size->b≠H2.objs.size:=λb hb=>by rw[zg];exact rV (D8 hb)
 generalize KP:pow ow (H2.push { cls:=.type "dict",data:=.dict #[] })=fb;have EF:fb.Ns H2.objs.size (λ_=>none):=KP▸(Heap.Ns.new H2 (.type "dict")).keeps λb o e=>Q1 e;have old:∀b o,s.heap.get? b=some o->fb.get? b=some o:=λb o e=>KP▸Q1 (fR _ (OP▸fR _ e));have se:fb.get? s.heap.objs.size=some { cls:=.type "list",data:=.seq ([]:ah).toArray 0 }:=KP▸Q1 (fR _ (OP▸qI _ rfl));have qy:∀y,ow=some y->fb.get? (H2.objs.size+1)=some { cls:=.type "cell",data:=.cell none }:=λy e=>by
  subst e;rw[<-KP];exact aQx (rp ..).symm
 have CY:tn 0 fb:=T.keep _ _ _ st λb _ o e=>old b o e;obtain⟨W,⟨m0,w0⟩,turn⟩:=hw;have Ld:∀b∈fp,b < s.heap.objs.size:=λb hb=>by
  obtain⟨o,e,_⟩:=T.obj _ _ st b hb;exact jX e
 have ve:∀{H':Hp} {pl:ar},(∀b∈fp,H' b=none)->(∀p∈pl,s.heap.objs.size<=p.1)->∀b∈fp,wa (xh X ow scope N fp H2.objs.size s H) pl H' b:=λ{H' pl} hn hp b hb=>by
  refine⟨hn b hb,below b (Ld b hb),λz=>?_,.inl hb,λx c e=>by
   rcases Cy e with ⟨a1,a2⟩|⟨a1,a2⟩
   ·have:=Ld b hb;intro z;rw[a2] at z;rw[<-z,zg] at this;exact absurd (HM this (D8 (F1 _))) (ua _)
   ·exact(hf b hb).2.2.2.2.1 x c (nO (S.cells I) a2),λp q z=>?_⟩
  ·have z':b∈nj X.stack:=z;rcases pN.mp (I.Hu b z') with q|q
   ·exact(hf b hb).2.1 q
   ·exact(hf b hb).2.2.1 q
  ·have q':p∈([]:ar)++pl:=q;have h1:=hp p (by simpa using q');rw[z] at h1;exact absurd (uJ (Ld b hb) h1) (ua _)
 have loop:∀ka:Shared,ka={ s with heap:=fb }->
   codeAny (model X.prog X.w) X.A (.compLoop (.ListComp elt [⟨target,iter,ifs,0⟩] scope pos) 0 (.ref it) (.ref s.heap.objs.size) (compEnvC scope (B6 ow (H2.objs.size+1)++mE X.env scope.names []) H2.objs.size X.env))
    (RR (.ref s.heap.objs.size) H2.objs.size) ka:=by
  rintro ka rfl;refine aHr (λn s'=>∃i ys its H' nn,Inv (xh X ow scope N fp H2.objs.size s H) [(s.heap.objs.size,{ cls:=.type "list",data:=.seq its.toArray nn })] (yo k idx U) H' s'/\tn i s'.heap/\(∀b∈fp,H' b=none)/\Vals ys its/\W i n ys H') ?_ m0
   ⟨0,[],[],H,0,aKD S I hf (λb hb=>let ⟨o,e,_⟩:=T.obj _ _ st b hb;⟨o,e⟩) IW (eR _) E8 EF old se (λv z=>by cases z) qy,CY,λb hb=>(hf b hb).1,.nil,w0⟩
  rintro n s' ⟨i,ys,its,H',nn,I',jk,X2,rv,w'⟩;obtain⟨hz,alt⟩:=turn i n ys H' w';have pl:∀p∈[((s.heap.objs.size:Addr),({ cls:=.type "list",data:=.seq its.toArray nn }:Obj))],s.heap.objs.size<=p.1:=λp hp=>by
   have e:p=((s.heap.objs.size:Addr),({ cls:=.type "list",data:=.seq its.toArray nn }:Obj)):=by simpa using hp
   rw[e];exact eR _
  rcases alt with ⟨stop,q⟩|⟨go,Nx,hN,step⟩
  ·refine eG (T.done (xh X ow scope N fp H2.objs.size s H) rfl rfl rfl hc i _ s' _ H' _ I' (ve X2 pl) jk stop) λr s4 ⟨hr,I4⟩=>?_;subst hr;obtain⟨eD,nD,_⟩:=I4.pin _ (uf _ pz);obtain⟨a1,a2⟩:=aN6 I hf I4 IW (eR _) E8 nD eD rv hz;obtain⟨m4,hn4,_⟩:=I4.loc;exact hRR _ _ s4 m4 ys H' hn4 a1 a2 nD q
  ·refine eG (T.item (xh X ow scope N fp H2.objs.size s H) rfl rfl rfl hc i _ s' _ H' _ I' (ve X2 pl) jk go) λr s4 ⟨u,hr,h4⟩=>?_;subst hr;refine eG h4 λ_ s5 zq=>?_;obtain⟨x,H5,I5,r5,y5,Dd,OY⟩:=zq;have R5:=I5.pinned (ve OY pl) (T.obj _ _ Dd);have NC:∀{α:Type} {t:Sem α} {Q:α->Shared->Prop} {E':ak} {sx:Shared},wpAny (model X.prog X.w) X.A t Q (λ_ _=>False) sx->wpAny (model X.prog X.w) X.A t Q E' sx:=λh=>uo h (λ_ _ q=>q) λ_ _ z=>z.elim;refine NC (eG (hg _ _ s5 _ H5 x u _ R5 r5 (ho x _ H5 _ _ ⟨rfl,λ_ _=>rfl⟩ (step x H5 y5))) λ_ s6 ⟨σ6,H6,I6,ag,q6⟩=>?_);have back:∀{H7:Hp} {s7:Shared},Inv (xh X ow scope N fp H2.objs.size s H) ([((s.heap.objs.size:Addr),({ cls:=.type "list",data:=.seq its.toArray nn }:Obj))] ++ Hx fp s5.heap) σ6 H7 s7->
     Inv (xh X ow scope N fp H2.objs.size s H) [((s.heap.objs.size:Addr),({ cls:=.type "list",data:=.seq its.toArray nn }:Obj))] (yo k idx U) H7 s7/\tn (i+1) s7.heap/\∀b∈fp,H7 b=none:=λ{H7 s7} I7=>by
    refine⟨I7.MC.weak (by rw[ag.1]) λj v e=>?_,T.keep _ _ _ Dd λb hb o e=>(I7.pin (b,o) (uf _ (uf _ (rY hb e)))).1,λb hb=>?_⟩
    ·have hj:k<=j:=by
      by_cases hj:j < k
      ·unfold yo at e;rw[rq (by simpa using hj),RW,dO hj] at e;cases e
      ·lia
     rw[ag.2 j hj];exact e
    ·obtain⟨o,e,d⟩:=T.obj _ _ Dd b hb;exact(I7.pin (b,o) (uf _ (uf _ (rY hb e)))).2.1
   refine NC (eG (ht _ _ s6 σ6 H6 _ I6 q6) λb s7 ⟨H7,I7,q7⟩=>?_);cases b with
   |false=>
    rw[cU lz] at q7 ⊢;obtain⟨m',hm,w7⟩:=hN _ _ q7;obtain⟨b1,b2,b3⟩:=back I7;exact⟨m',hm,i+1,ys,its,H7,nn,b1,b2,b3,rv,w7⟩
   |true=>
    rw[dO rfl] at q7 ⊢;refine NC (eG (he _ _ s7 σ6 H7 _ I7 q7) λyv s8 zq=>?_);obtain⟨z,H8,I8,r8,q8⟩:=zq;obtain⟨m',hm,w8⟩:=hN _ _ q8;obtain⟨b1,b2,b3⟩:=back I8;obtain⟨eD,nD,WT,nfD,_⟩:=b1.pin _ (uf _ pz);have zy:=rv.length;refine append_at (hsz:=by rw[kB,<-zy];exact hz) eD λh9 Xl hD9=>?_;have b1':Inv (xh X ow scope N fp H2.objs.size s H) [] (yo k idx U) H8 s8:=b1.Mv λp hp=>by cases hp
    have I9:Inv (xh X ow scope N fp H2.objs.size s H) [] (yo k idx U) H8 { s8 with heap:=h9 }:=b1'.turned (t':=s8.toks) (λb o hb e=>(Xl.2 b hb).trans e) nD WT (.inr (eR _)) (λx c e z=>by
     rcases Cy e with ⟨a1,a2⟩|⟨a1,a2⟩
     ·rw[a2,zg] at z;exact absurd z (xl (D8 (F1 _)))
     ·obtain⟨v,q⟩:=I.cell x c (nO (S.cells I) a2);exact absurd (uJ q.lt (by rw[z];exact eR _)) (ua _)) (λp hp=>by
     have xc:p∈([]:ar) ++ []:=hp;simp at xc)
    refine⟨m',hm,i+1,ys ++ [z],its ++ [yv],H8,nn+1,I9.Mv λp hp=>?_,T.keep _ _ _ b2 λb hb o e=>(Xl.2 b (rV (Ld b hb))).trans e,b3,rv.append (.cons r8 .nil),w8⟩;have e:p=((s.heap.objs.size:Addr),({ cls:=.type "list",data:=.seq (its ++ [yv]).toArray (nn+1) }:Obj)):=by simpa using hp
    subst e;exact⟨by rw[<-aL4];exact hD9,nD,WT,nfD,λv z=>by cases z⟩
 exact codeAny_compStart_list (loop _ rfl) (T.self _ 0 _ _ _ CY (loop _ rfl))
theorem aOa(k:Nat)(idx:List Nat)(S:fX X scope N k idx)(hc:X.calm=true)(hi:PI X target iter wi)(hg:∀fp C s H,PG (xi X scope N fp C s H) target g)(ho:Own k g)(ht:∀fp C s H,F9 (xi X scope N fp C s H) ifs tt)(he:∀fp C s H,PE (xi X scope N fp C s H) elt te)(hs:∀x,foldedSetIterable iter X.env x=pure x:=by intro _;rfl):PE X (.ListComp elt [⟨target,iter,ifs,0⟩] scope pos) (Hj wi k idx g tt te):=by
 intro pins s U H Q I h;rw[eval_ListComp];refine wpAny_comprehension_free (use:=none) rfl hs (zU (S.G7.cells I)) S.kind S.names (eG (hi pins s U H _ I h) λv s1 h1=>eG h1 λKu s2 h2=>?_);obtain⟨it,fp,tn,J,H2,e,I2,T,Gi,f2,w2⟩:=h2;subst e;refine aCf (RR:=λacc C=>compPost (model X.prog X.w) X.A X.xe none (EP X pins U Q) acc C) S.G7 hc I2 T Gi f2 (λC=>hg fp C s2 H2) ho (λC=>ht fp C s2 H2) (λC=>he fp C s2 H2) w2 λD C s' m ys H' hn I' fC hD q=>?_;refine⟨m,hn,λh'' El=>⟨.ref D,_,I'.turned (t':=s'.toks) (λb o hb e=>(El.2 b hb).trans e) fC.1 fC.2.1 fC.2.2.2.1 fC.2.2.2.2.1 fC.2.2.2.2.2,rfl,q D hD⟩⟩
theorem aOb(k:Nat)(idx:List Nat){i:Nat}{vf:Pos}(hN:X.N.Nodup)(KO:X.N[i]?=some x)(hx:Loc X.env.scope x)(S:fX X scope N k idx)(hc:X.calm=true)(hi:PI X target iter wi)(hg:∀fp C s H,PG (xi X scope N fp C s H) target g)(ho:Own k g)(ht:∀fp C s H,F9 (xi X scope N fp C s H) ifs tt)(he:∀fp C s H,PE (xi X scope N fp C s H) elt te)(Oc:swapsWith (.ListComp elt [⟨target,iter,ifs,0⟩] scope pos) (some (.Name x pos')) vf.line X.env=pure true:=by rfl)(hs:∀x,foldedSetIterable iter X.env x=pure x:=by intro _;rfl)(ze:X.fn x=true\/X.env.scope.names.lookup x=some .local:=by first|exact .inl rfl|exact .inr rfl|assumption) :
  PS X (.Assign [.Name x pos'] (.ListComp elt [⟨target,iter,ifs,0⟩] scope pos) vf) (Ct (Hj wi k idx g tt te) (uR i)):=by
 intro pins s U H D I h;rw[exec_Assign_Name_used _ _ _ _ Oc];refine bM (wpAny_standAt (bM ?_));show wpAny _ X.A (do let _ <-comprehension (.ListComp elt [⟨target,iter,ifs,0⟩] scope pos) scope X.env _ (newList []) false (eval iter X.env) (some (assign (.Name x pos') X.env))) _ _ s;refine bM (uo (wpAny_comprehension_free (use:=some (assign (.Name x pos') X.env)) (Q:=λ_ s'=>SP X pins D .next s') rfl hs (zU (S.G7.cells I)) S.kind S.names
  (eG (hi pins s U H _ I h) λv s1 h1=>eG h1 λKu s2 h2=>?_)) (λ_ s' hq=>eE (eE hq)) λ_ _ e=>e)
 obtain⟨it,fp,tn,J,H2,e,I2,T,Gi,f2,w2⟩:=h2;subst e;refine aCf (RR:=λacc C=>compPost (model X.prog X.w) X.A X.xe (some (assign (.Name x pos') X.env)) (λ_ s'=>SP X pins D .next s') acc C) S.G7 hc I2 T Gi f2 (λC=>hg fp C s2 H2) ho (λC=>ht fp C s2 H2) (λC=>he fp C s2 H2) w2 λD' C s' m ys H' hn I' fC hD q=>?_;show wpAny _ X.A (assign (.Name x pos') X.env (.ref D')) _ _ s';refine wpAny_assign_Name (aFv I' hN KO hx (show RelV (.ref D') (.ref D') from rfl) (λs3 I3 ⟨a,sb,ha⟩=>?_) ze);have hCa:C≠a:=by
  rcases ha with z|z
  ·rw[z];exact fC.2.1
  ·exact(fC.2.2.2.2.1 x a z).symm
 refine⟨m,hn.sameBut sb hCa,λh'' El=>⟨_,_,I3.turned (t':=s3.toks) (λb o hb e=>(El.2 b hb).trans e) fC.1 fC.2.1 fC.2.2.2.1 fC.2.2.2.2.1 fC.2.2.2.2.2,q D' hD⟩⟩
end
theorem dP{K:W.Frag}{a:Addr}{xs:List V}{σ₀:St}{g:TG}{tt:TT}{te:TE}{R:List V->Hp->Prop}{H:Hp}(Pv:Nat->List V->Hp->Prop)(h0:Pv 0 [] H)(hz:xs.length<=sizeLine)
  (hl:∀i ys H,i<=xs.length->Pv i ys H->bP K H a xs/\ys.length<=i)
  (hs:∀i x ys H,xs[i]?=some x->Pv i ys H->g x σ₀ H λσ2 H2=>tt σ2 H2 λb H3=>if b=true then te σ2 H3 λy H4=>Pv (i+1) (ys ++ [y]) H4 else Pv (i+1) ys H3)
  (hd:∀ys H,Pv xs.length ys H->R ys H):mV (xr K a) σ₀ g tt te R H:=by
 refine⟨λi m ys H=>m=xs.length - i/\i<=xs.length/\Pv i ys H,⟨xs.length,by simp,nv _,h0⟩,?_⟩;rintro i m ys H ⟨rfl,hi,p⟩;obtain⟨q,ql⟩:=hl i ys H hi p;refine⟨by lia,?_⟩;by_cases fi:i < xs.length
 ·refine .inr ⟨⟨xs,xs[i],q,by simp[fi]⟩,Pv (i+1),λEH H' p'=>⟨xs.length - (i+1),by lia,rfl,fi,p'⟩,λx H' y=>?_⟩;obtain⟨e,y⟩:=y;subst e;exact hs i x ys _ (y xs q) p
 ·have e:i=xs.length:=by lia
  subst e;exact .inl ⟨⟨xs,q,eR _⟩,hd ys H p⟩
theorem aL5{K:W.Frag}{a:Addr}{xs:List V}{σ₀:St}{g:TG}{tt:TT}{te:TE}{R:List V->Hp->Prop}{H:Hp}(Pv:Nat->List V->Hp->Prop)(h0:Pv 0 [] H)(hz:xs.length<=sizeLine)
  (hl:∀i ys H,i<=xs.length->Pv i ys H->iF K H a xs/\ys.length<=i)
  (hs:∀i x ys H,xs[i]?=some x->Pv i ys H->g x σ₀ H λσ2 H2=>tt σ2 H2 λb H3=>if b=true then te σ2 H3 λy H4=>Pv (i+1) (ys ++ [y]) H4 else Pv (i+1) ys H3)
  (hd:∀ys H,Pv xs.length ys H->R ys H):mV (zu K a) σ₀ g tt te R H:=by
 refine⟨λi m ys H=>m=xs.length - i/\i<=xs.length/\Pv i ys H,⟨xs.length,by simp,nv _,h0⟩,?_⟩;rintro i m ys H ⟨rfl,hi,p⟩;obtain⟨q,ql⟩:=hl i ys H hi p;refine⟨by lia,?_⟩;by_cases fi:i < xs.length
 ·refine .inr ⟨⟨xs,xs[i],q,by simp[fi]⟩,Pv (i+1),λEH H' p'=>⟨xs.length - (i+1),by lia,rfl,fi,p'⟩,λx H' y=>?_⟩;obtain⟨e,y⟩:=y;subst e;exact hs i x ys _ (y xs q) p
 ·have e:i=xs.length:=by lia
  subst e;exact .inl ⟨⟨xs,q,eR _⟩,hd ys H p⟩
theorem iG{lo:Int}{n:Nat}{g:TG}{R:List V->Hp->Prop}(Pv:Nat->List V->Hp->Prop)(h0:Pv 0 [] H)(hz:n<=sizeLine)(hl:∀i ys H,i<=n->Pv i ys H->ys.length<=i)(hs:∀i ys H,i < n->Pv i ys H->g (.int (lo+i)) σ₀ H λσ2 H2=>tt σ2 H2 λb H3=>if b=true then te σ2 H3 λy H4=>Pv (i+1) (ys ++ [y]) H4 else Pv (i+1) ys H3)(hd:∀ys H,Pv n ys H->R ys H):mV (wm lo n) σ₀ g tt te R H:=by
 refine⟨λi m ys H=>m=n - i/\i<=n/\Pv i ys H,⟨n,by simp,nv _,h0⟩,?_⟩;rintro i m ys H ⟨rfl,hi,p⟩;have ql:=hl i ys H hi p;refine⟨by lia,?_⟩;by_cases fi:i < n
 ·refine .inr ⟨fi,Pv (i+1),λEH H' p'=>⟨n - (i+1),by lia,rfl,fi,p'⟩,λx H' y=>?_⟩;obtain⟨e,y⟩:=y;subst e y;exact hs i ys _ fi p
 ·have e:i=n:=by lia
  subst e;exact .inl ⟨eR _,hd ys H p⟩
theorem FO:bootBuiltins "int" = some (.type "int"):=by decide +kernel
theorem xK:bootBuiltins "bool" = some (.type "bool"):=by decide +kernel
theorem Z8:bootBuiltins "str" = some (.type "str"):=by decide +kernel
theorem fB:bootBuiltins "list" = some (.type "list"):=by decide +kernel
theorem uX:bootBuiltins "tuple" = some (.type "tuple"):=by decide +kernel
theorem aL7:bootBuiltins "range" = some (.type "range"):=by decide +kernel
theorem fT:bootBuiltins "len" = some (.builtin "len"):=by decide +kernel
theorem aQz:bootBuiltins "abs" = some (.builtin "abs"):=by decide +kernel
theorem FN:bootBuiltins "max" = some (.builtin "max"):=by decide +kernel
theorem sA:bootBuiltins "min" = some (.builtin "min"):=by decide +kernel
theorem QN:bootBuiltins "sum" = some (.builtin "sum"):=by decide +kernel
theorem Mf:bootBuiltins "all" = some (.builtin "all"):=by decide +kernel
theorem aKE:bootBuiltins "sorted" = some (.builtin "sorted"):=by decide +kernel
theorem bK:bootBuiltins "isinstance" = some (.builtin "isinstance"):=by decide +kernel
section
variable{X:Cx}
def Qm:R2:=λx y H Q=>Av (λi j=>.int (i+j)) x y H Q\/Y6 x y H Q
theorem bJ:uM X (binaryOp .Add) Qm:=aQc.or aQp
def Zt:R2:=λx y H Q=>rI Hh (λi j=>.int (i*j)) x y H Q\/Y5 x y H Q
theorem cC:uM X (binaryOp .Mult) Zt:=aQd.or aQq
def Cr(K:W.Frag):V->Option Int->Option Int->Hp->VK->Prop:=λx lo hi H Q=>Y9 K x lo hi H Q\/Zd K x lo hi H Q
theorem Fq:Bv X (Cr X.K):=aNZ.or aQj
def vd(K:W.Frag)(H:Hp):Nat->V->V->Bool->Prop
 |0,x,y,b=>mD x=true/\mD y=true/\b=eqV x y
 |n+1,x,y,b=>(mD x=true/\mD y=true/\b=eqV x y)\/
  ∃(p q:Addr) (xs ys:List V) (e:Nat->Bool),x=.ref p/\y=.ref q/\((bP K H p xs/\bP K H q ys)\/(iF K H p xs/\iF K H q ys))/\
   (∀(j:Nat) u v,xs[j]?=some u->ys[j]?=some v->vd K H n u v (e j))/\b=(xs.length == ys.length && (List.range xs.length).all e)
theorem aHx(h:mD x=true):eqV x x=true:=by
 cases x with
 |br=>rfl
 |bl b=>cases b <;> rfl
 |int i=>exact beq_self_eq_true i
 |str z=>exact beq_self_eq_true z
 |_=>exact absurd (show false=true from h) lz
theorem aHy(I:Inv X pins U H s):∀{n:Nat}{x:V}{b:Bool},vd X.K H n x x b->b=true
 |0,x,b,⟨h,_,e⟩=>by rw[e];exact aHx h
 |n+1,x,b,h=>by
  rcases h with ⟨h,_,e⟩|⟨p,q,xs,ys,e,e1,e2,hs,he,eb⟩
  ·rw[e];exact aHx h
  ·subst e1;cases e2;have exy:xs=ys:=by
    rcases hs with ⟨h1,h2⟩|⟨h1,h2⟩
    ·exact I.Rr h1 h2
    ·exact I.aFw h1 h2
   subst exy;rw[eb,beq_self_eq_true,D1,D7];intro j hj;have Bb:j < xs.length:=zp.mp hj;exact aHy I (he j xs[j] xs[j] (eQ Bb) (eQ Bb))
theorem Z7(I:Inv X pins U H s):∀{n:Nat}{A:Around}{x y:V}{u v:Value}{b:Bool},A.units+n < cLine->RelV x u->RelV y v->vd X.K H n x y b->SeqAt.EqAt A s u v b
 |0,A,x,y,u,v,b,_,rx,ry,⟨h1,h2,e⟩=>by rw[e];exact Z4 rx ry h1 h2
 |n+1,A,x,y,u,v,b,hu,rx,ry,h=>by
  rcases id h with ⟨h1,h2,e⟩|⟨p,q,xs,ys,e,e1,e2,hs,he,eb⟩
  ·rw[e];exact Z4 rx ry h1 h2
  ·subst e1 e2;cases rx;cases ry;by_cases Xo:p=q
   ·subst Xo;rw[aHy I h];exact SeqAt.EqAt.same _
   ·refine SeqAt.EqAt.of_refs Xo ?_;have items:∀{us vs:ah},Vals xs us->Vals ys vs->∀j (h1:j < us.toArray.size) (h2:j < vs.toArray.size),SeqAt.EqAt A.in1 s us.toArray[j] vs.toArray[j] (e j):=λ{us vs} r1 r2 j h1 h2=>by
     have l1:=r1.length;have l2:=r2.length;rw[kB] at h1 h2;have g1:xs[j]?=some xs[j]:=eQ (by lia);have g2:ys[j]?=some ys[j]:=eQ (by lia);obtain⟨u',eu,ru⟩:=r1.get g1;obtain⟨v',ev,rv⟩:=r2.get g2;have O0:us.toArray[j]=u':=by
      rw[MP];exact Option.some.inj ((eQ h1).symm.trans eu)
     have OZ:vs.toArray[j]=v':=by
      rw[MP];exact Option.some.inj ((eQ h2).symm.trans ev)
     rw[O0,OZ];exact Z7 I (n:=n) (by show A.units+1+n < cLine;lia) ru rv (he j _ _ g1 g2)
    rcases hs with ⟨h1,h2⟩|⟨h1,h2⟩
    ·obtain⟨us,r1,p1,_⟩:=I.list h1;obtain⟨vs,r2,p2,_⟩:=I.list h2;have l1:=r1.length;have l2:=r2.length;by_cases hl:xs.length=ys.length
     ·rw[eb,hl,beq_self_eq_true,D1,<-hl,show xs.length=us.toArray.size by rw[kB];exact l1];exact SeqAt.RcAt.lists p1.isList p2.isList (by rw[kB,kB];lia) (by lia) (items r1 r2)
     ·rw[eb,show(xs.length == ys.length)=false by simpa using hl,D3];exact SeqAt.RcAt.lists_lengths p1.isList p2.isList (by rw[kB,kB];simp;lia) (by lia)
    ·obtain⟨us,r1,p1,_⟩:=I.tuple h1;obtain⟨vs,r2,p2,_⟩:=I.tuple h2;have l1:=r1.length;have l2:=r2.length;have q:=SeqAt.RcAt.tuples (s:=s) (A:=A) (l:=p) (b:=q) (e:=e) p1 p2 (by lia) (items r1 r2);rw[kB,kB,<-l1,<-l2] at q;by_cases hl:xs.length=ys.length
     ·rw[eb,hl,beq_self_eq_true,D1];rw[hl,Nat.min_self,beq_self_eq_true,Bool.and_true] at q;exact q
     ·have hb:(xs.length == ys.length)=false:=by simpa using hl
      rw[eb,hb,D3];rw[hb,Bool.and_false] at q;exact q
def iH(K:W.Frag):R2:=λx y H Q=>∃b,vd K H 8 x y b/\Q (.bl b) H
def Bn(K:W.Frag):R2:=λx y H Q=>∃b,vd K H 8 x y b/\Q (.bl (!b)) H
theorem xM{n:Nat}{A:Around}{xs ys:List V}{us vs:ah}{e:Nat->Bool}(I:Inv X pins U H s)(hu:A.units+1+n < cLine)(he:∀(j:Nat) u v,xs[j]?=some u->ys[j]?=some v->vd X.K H n u v (e j))(r1:Vals xs us)(r2:Vals ys vs):∀j (h1:j < us.toArray.size) (h2:j < vs.toArray.size),SeqAt.EqAt A.in1 s us.toArray[j] vs.toArray[j] (e j):=λj h1 h2=>by
 have l1:=r1.length;have l2:=r2.length;rw[kB] at h1 h2;have g1:xs[j]?=some xs[j]:=eQ (by lia);have g2:ys[j]?=some ys[j]:=eQ (by lia);obtain⟨u',eu,ru⟩:=r1.get g1;obtain⟨v',ev,rv⟩:=r2.get g2;have O0:us.toArray[j]=u':=by
  rw[MP];exact Option.some.inj ((eQ h1).symm.trans eu)
 have OZ:vs.toArray[j]=v':=by
  rw[MP];exact Option.some.inj ((eQ h2).symm.trans ev)
 rw[O0,OZ];exact Z7 I (n:=n) (by show A.units+1+n < cLine;lia) ru rv (he j _ _ g1 g2)
theorem aQA(ry:RelV y u)(rx:RelV x v)(fy:mD y=true)(fx:mD x=true):SeqAt.RcAt A s u v (eqV y x):=by
 cases y with
 |br=>
  cases ry;cases x with
  |br=>cases rx;exact SeqAt.RcAt.none_none
  |bl b=>cases rx;exact SeqAt.RcAt.none_bool b
  |int b=>obtain⟨t,rfl⟩:=rx;exact SeqAt.RcAt.none_int b t
  |str b=>obtain⟨t,rfl⟩:=rx;exact SeqAt.RcAt.none_str b t
  |_=>exact absurd (show false=true from fx) lz
 |bl a=>
  cases ry;cases x with
  |br=>cases rx;exact SeqAt.RcAt.bool_none a
  |bl b=>cases rx;exact SeqAt.RcAt.bool_bool a b
  |int b=>obtain⟨t,rfl⟩:=rx;exact SeqAt.RcAt.bool_int a b t
  |str b=>obtain⟨t,rfl⟩:=rx;exact SeqAt.RcAt.bool_str a b t
  |_=>exact absurd (show false=true from fx) lz
 |int a=>
  obtain⟨t',rfl⟩:=ry;cases x with
  |br=>cases rx;exact SeqAt.RcAt.int_none a t'
  |bl b=>cases rx;exact SeqAt.RcAt.int_bool a t' b
  |int b=>obtain⟨t,rfl⟩:=rx;exact SeqAt.RcAt.int_int a t' b t
  |str b=>obtain⟨t,rfl⟩:=rx;exact SeqAt.RcAt.int_str a t' b t
  |_=>exact absurd (show false=true from fx) lz
 |str a=>
  obtain⟨t',rfl⟩:=ry;cases x with
  |br=>cases rx;exact SeqAt.RcAt.str_none a t'
  |bl b=>cases rx;exact SeqAt.RcAt.str_bool a t' b
  |int b=>obtain⟨t,rfl⟩:=rx;exact SeqAt.RcAt.str_int a t' b t
  |str b=>obtain⟨t,rfl⟩:=rx;exact SeqAt.RcAt.str_str a t' b t
  |_=>exact absurd (show false=true from fx) lz
 |_=>exact absurd (show false=true from fy) lz
theorem aMa(ry:RelV y u)(rx:RelV x v)(fy:mD y=true)(fx:mD x=true):SeqAt.RcNeAt A s u v (!eqV y x):=by
 cases y with
 |br=>
  cases ry;cases x with
  |br=>cases rx;exact SeqAt.RcNeAt.none_none
  |bl b=>cases rx;exact SeqAt.RcNeAt.none_bool b
  |int b=>obtain⟨t,rfl⟩:=rx;exact SeqAt.RcNeAt.none_int b t
  |str b=>obtain⟨t,rfl⟩:=rx;exact SeqAt.RcNeAt.none_str b t
  |_=>exact absurd (show false=true from fx) lz
 |bl a=>
  cases ry;cases x with
  |br=>cases rx;exact SeqAt.RcNeAt.bool_none a
  |bl b=>cases rx;exact SeqAt.RcNeAt.bool_bool a b
  |int b=>obtain⟨t,rfl⟩:=rx;exact SeqAt.RcNeAt.bool_int a b t
  |str b=>obtain⟨t,rfl⟩:=rx;exact SeqAt.RcNeAt.bool_str a b t
  |_=>exact absurd (show false=true from fx) lz
 |int a=>
  obtain⟨t',rfl⟩:=ry;cases x with
  |br=>cases rx;exact SeqAt.RcNeAt.int_none a t'
  |bl b=>cases rx;exact SeqAt.RcNeAt.int_bool a t' b
  |int b=>obtain⟨t,rfl⟩:=rx;exact SeqAt.RcNeAt.int_int a t' b t
  |str b=>obtain⟨t,rfl⟩:=rx;exact SeqAt.RcNeAt.int_str a t' b t
  |_=>exact absurd (show false=true from fx) lz
 |str a=>
  obtain⟨t',rfl⟩:=ry;cases x with
  |br=>cases rx;exact SeqAt.RcNeAt.str_none a t'
  |bl b=>cases rx;exact SeqAt.RcNeAt.str_bool a t' b
  |int b=>obtain⟨t,rfl⟩:=rx;exact SeqAt.RcNeAt.str_int a t' b t
  |str b=>obtain⟨t,rfl⟩:=rx;exact SeqAt.RcNeAt.str_str a t' b t
  |_=>exact absurd (show false=true from fx) lz
 |_=>exact absurd (show false=true from fy) lz
theorem dJ(hu:X.A.units+9 < cLine):uM X (compareOp .Eq) (iH X.K):=by
 intro pins s U H x y v u Q I rx ry h;obtain⟨b,h,q⟩:=h;have fin:EP X pins U Q (.bool b) s:=⟨.bl b,H,I,rfl,q⟩
 rcases h with ⟨h1,h2,e⟩|⟨p,l,xs,ys,e,e1,e2,hs,he,eb⟩
 ·exact aQA rx ry h1 h2 X.prog X.w X.xe _ (by rw[<-e];exact fin)
 ·subst e1 e2;cases rx;cases ry;rcases hs with ⟨h1,h2⟩|⟨h1,h2⟩
  ·obtain⟨us,r1,p1,_⟩:=I.list h1;obtain⟨vs,r2,p2,_⟩:=I.list h2;have l1:=r1.length;have l2:=r2.length;by_cases hl:xs.length=ys.length
   ·refine SeqAt.RcAt.lists p1.isList p2.isList (by rw[kB,kB];lia) (by lia) (xM I (n:=7) (A:=X.A) (by lia) he r1 r2) X.prog X.w X.xe _ ?_;rw[kB,<-l1];rw[eb,hl,beq_self_eq_true,D1,<-hl] at fin;exact fin
   ·refine SeqAt.RcAt.lists_lengths p1.isList p2.isList (by rw[kB,kB];simp;lia) (by lia) X.prog X.w X.xe _ ?_;rw[eb,show(xs.length == ys.length)=false by simpa using hl,D3] at fin;exact fin
  ·obtain⟨us,r1,p1,_⟩:=I.tuple h1;obtain⟨vs,r2,p2,_⟩:=I.tuple h2;have l1:=r1.length;have l2:=r2.length;refine SeqAt.RcAt.tuples p1 p2 (by lia) (xM I (n:=7) (A:=X.A) (by lia) he r1 r2) X.prog X.w X.xe _ ?_;rw[kB,kB,<-l1,<-l2];rw[eb] at fin;by_cases hl:xs.length=ys.length
   ·rw[hl,beq_self_eq_true,D1] at fin;rw[hl,Nat.min_self,beq_self_eq_true,Bool.and_true];exact fin
   ·have hb:(xs.length == ys.length)=false:=by simpa using hl
    rw[hb,D3] at fin;rw[hb,Bool.and_false];exact fin
theorem FL(hu:X.A.units+9 < cLine):uM X (compareOp .NotEq) (Bn X.K):=by
 intro pins s U H x y v u Q I rx ry h;obtain⟨b,h,q⟩:=h;have fin:EP X pins U Q (.bool (!b)) s:=⟨.bl (!b),H,I,rfl,q⟩
 rcases h with ⟨h1,h2,e⟩|⟨p,l,xs,ys,e,e1,e2,hs,he,eb⟩
 ·exact aMa rx ry h1 h2 X.prog X.w X.xe _ (by rw[<-e];exact fin)
 ·subst e1 e2;cases rx;cases ry;rcases hs with ⟨h1,h2⟩|⟨h1,h2⟩
  ·obtain⟨us,r1,p1,_⟩:=I.list h1;obtain⟨vs,r2,p2,_⟩:=I.list h2;have l1:=r1.length;have l2:=r2.length;by_cases hl:xs.length=ys.length
   ·refine SeqAt.RcNeAt.lists p1.isList p2.isList (by rw[kB,kB];lia) (by lia) (xM I (n:=7) (A:=X.A) (by lia) he r1 r2) X.prog X.w X.xe _ ?_;rw[kB,<-l1];rw[eb,hl,beq_self_eq_true,D1,<-hl] at fin;exact fin
   ·refine SeqAt.RcNeAt.lists_lengths p1.isList p2.isList (by rw[kB,kB];simp;lia) (by lia) X.prog X.w X.xe _ ?_;rw[eb,show(xs.length == ys.length)=false by simpa using hl,D3] at fin;exact fin
  ·obtain⟨us,r1,p1,_⟩:=I.tuple h1;obtain⟨vs,r2,p2,_⟩:=I.tuple h2;have l1:=r1.length;have l2:=r2.length;refine SeqAt.RcNeAt.tuples p1 p2 (by lia) (xM I (n:=7) (A:=X.A) (by lia) he r1 r2) X.prog X.w X.xe _ ?_;rw[kB,kB,<-l1,<-l2];rw[eb] at fin;by_cases hl:xs.length=ys.length
   ·rw[hl,beq_self_eq_true,D1] at fin;rw[hl,Nat.min_self,beq_self_eq_true,Bool.and_true];exact fin
   ·have hb:(xs.length == ys.length)=false:=by simpa using hl
    rw[hb,D3] at fin;rw[hb,Bool.and_false];exact fin
def Bz(K:W.Frag)(H:Hp)(x:V)(c:V)(b:Bool):Prop:=∃t,uT K H x t/\((∃T,c=.ty T/\PySem.W.kitOne K t (.type T)=some b)\/(∃C,c=.ref C/\PySem.W.kitOne K t (.ref C)=some b))
theorem aMb:fK X (.builtin "isinstance") (λxs H Q=>∃x c b,xs=[x,c]/\Bz X.K H x c b/\Q (.bl b) H):=by
 intro pins s U H xs us Q I r h;obtain⟨x,c,b,rfl,⟨t,ty,hc⟩,q⟩:=h;obtain⟨u,w',rfl,rx,ry⟩:=vals2 r;rcases hc with ⟨T,rfl,e⟩|⟨C,rfl,e⟩
 ·cases ry;exact aFx I rx ty e λtk=>⟨.bl b,H,I.tok _,rfl,q⟩
 ·cases ry;exact aFx I rx ty e λtk=>⟨.bl b,H,I.tok _,rfl,q⟩
def XY(K:W.Frag):V->V->Hp->VK->Prop:=λx y H Q=>∃p xs i v,x=.ref p/\y=.int i/\bP K H p xs/\0<=i/\xs[i.toNat]?=some v/\Q v H
theorem aQB:PN X (XY X.K):=by
 intro pins s U H x y v u Q I rx ry h;obtain⟨p,xs,i,z,rfl,rfl,hq,h0,he,q⟩:=h;cases rx;obtain⟨t,rfl⟩:=ry;obtain⟨its,r,pl,hz⟩:=I.list hq;obtain⟨w,ew,tj⟩:=r.get he;have hl:=r.length;have hn:=FR;have hi:i.toNat < xs.length:=(mT.mp he).1;exact wpAny_getItem_list pl.isList h0 (by lia) (by simpa using ew) ⟨z,H,I,tj,q⟩
theorem gZ{k:Nat}{A:Around}(hr:fL k A):A.units+9 < cLine:=by have:=hr.un;lia
end
section
variable{U:St}{H:Hp}{nx bk ct:St->Hp->Prop}{rt:VK}{Q:VK}{QT:Bool->Hp->Prop}{QA:List V->Hp->Prop}{QG:St->Hp->Prop}
theorem aU{t:TS}{D:Ends}{U U':St}(e:U'=U)(h:t D U H):t D U' H:=e▸h
theorem Me{u:TS}(h:t ⟨u ⟨nx,rt,bk,ct⟩,rt,bk,ct⟩ U H):He t u ⟨nx,rt,bk,ct⟩ U H:=h
theorem aOc(h:nx U H):Qc ⟨nx,rt,bk,ct⟩ U H:=h
theorem aQC(h:te U H λx H1=>g x U H1 nx):Ct te g ⟨nx,rt,bk,ct⟩ U H:=h
theorem aOd(h:te U H λ_ H1=>nx U H1):Qb te ⟨nx,rt,bk,ct⟩ U H:=h
theorem aQD(h:te U H rt):PB te ⟨nx,rt,bk,ct⟩ U H:=h
theorem aMc(h:bk U H):QJ ⟨nx,rt,bk,ct⟩ U H:=h
theorem aQE(h:c U H λb H1=>if b=true then t ⟨nx,rt,bk,ct⟩ U H1 else u ⟨nx,rt,bk,ct⟩ U H1):Py c t u ⟨nx,rt,bk,ct⟩ U H:=h
theorem aQF{i j:Nat}{ta:TA}(h:ta U H λvs H1=>∃v w,vs=[v,w]/\nx ((U.set i (some v)).set j (some w)) H1):PR i j ta ⟨nx,rt,bk,ct⟩ U H:=h
theorem FK{i:Nat}(e:U[i]?=some (some x))(h:te U H λy H1=>ti x y H1 λz H2=>nx (U.set i (some z)) H2):PQ i te ti ⟨nx,rt,bk,ct⟩ U H:=⟨x,e,h⟩
theorem aOe{qb:V->V->Hp->VK->Prop}(h:to U H λo H1=>ti U H1 λi H2=>qb o i H2 λx H3=>te U H3 λy H4=>A2 x y H4 λz H5=>sd o i z H5 λH6=>nx U H6):Qa to ti te qb A2 sd ⟨nx,rt,bk,ct⟩ U H:=h
theorem aQG{g:TG}(h:wi U H λJ H1=>∃W:Nat->Nat->St->Hp->Prop,(∃m,W 0 m U H1)/\∀i m U H,W i m U H->
 (J.stop i H/\nx U H)\/(J.go i H/\∃N:St->Hp->Prop,(∀U' H',N U' H'->∃m',m' < m/\W (i+1) m' U' H')/\∀x H',J.tf i H x H'->g x U H' λσ2 H2=>tb ⟨N,rt,nx,N⟩ σ2 H2)):PL wi g tb ⟨nx,rt,bk,ct⟩ U H:=h
theorem aMd{i:Nat}(e:U.set i (some v)=U')(h:QG U' H):uR i v U H QG:=by unfold uR;rw[e];exact h
theorem dH{K:W.Frag}{n:Nat}{t:zm}{a:Addr}{xs:List V}(h1:iF K H a xs)(h2:xs.length=n)(h:t xs U H QG):LN K n t (.ref a) U H QG:=⟨a,xs,rfl,h1,h2,h⟩
theorem aOf(h:QG U H):LO [] U H QG:=⟨rfl,h⟩
theorem aMe(h:t v U H λU' H'=>u r U' H' QG):L3 t u (v::r) U H QG:=⟨v,r,rfl,h⟩
theorem aOg(h:to U H λo H1=>ti U H1 λi H2=>t o i v H2 λH3=>QG U H3):Pu to ti t v U H QG:=h
theorem sC{xs:List V}{k:Int}{j:Nat}{QH:Hp->Prop}(h1:H p=some (.lst xs))(h2:rb xs.length k=some j)(h:QH (upd H p (.lst (xs.set j v)))):Zx (.ref p) (.int k) v H QH:=⟨p,xs,k,j,rfl,rfl,h1,h2,h⟩
theorem aQH{K:W.Frag}{p:Addr}{xs:List V}{i:Int}{v:V}(h1:bP K H p xs)(h0:0<=i)(h2:xs[i.toNat]?=some v)(h:Q v H):XY K (.ref p) (.int i) H Q:=⟨p,xs,i,v,rfl,rfl,h1,h0,h2,h⟩
theorem aQI{f:Int->Int->Int}{i j:Int}(h:Q (.int (f i j)) H):N0 f (.int i) (.int j) H Q:=⟨i,j,rfl,rfl,h⟩
theorem aQJ{i:Nat}(e:U[i]?=some (some v))(h:Q v H):PH i U H Q:=⟨v,e,h⟩
theorem aSC(h:Q v H):tC v U H Q:=h
theorem aRW(h:ta U H λx H1=>tb U H1 λy H2=>r x y H2 Q):A3 r ta tb U H Q:=h
theorem aRX{r:V->Hp->VK->Prop}(h:ta U H λx H1=>r x H1 Q):Nf r ta U H Q:=h
theorem aQK{g:Int->Int->V}{i j:Int}(h:Q (g i j) H):Av g (.int i) (.int j) H Q:=⟨i,j,rfl,rfl,h⟩
theorem aRY{C:Int->Int->Prop}{g:Int->Int->V}{i j:Int}(c:C i j)(h:Q (g i j) H):rI C g (.int i) (.int j) H Q:=⟨i,j,rfl,rfl,c,h⟩
theorem aRZ{g:Int->V}{i:Int}(h:Q (g i) H):rU g (.int i) H Q:=⟨i,rfl,h⟩
theorem aOh{i j:Int}(h:Q (.int (i+j)) H):Qm (.int i) (.int j) H Q:=.inl ⟨i,j,rfl,rfl,h⟩
theorem sD{xs zs:List V}(h1:H l=some (.lst xs))(h2:H b=some (.lst zs))(hz:xs.length+zs.length<=sizeLine)(h:∀p,H p=none->Q (.ref p) (upd H p (.lst (xs++zs)))):Qm (.ref l) (.ref b) H Q:=.inr ⟨l,b,xs,zs,rfl,rfl,h1,h2,hz,h⟩
theorem aOi{i j:Int}(c:Hh i j)(h:Q (.int (i*j)) H):Zt (.int i) (.int j) H Q:=.inl ⟨i,j,rfl,rfl,c,h⟩
theorem aQL{K:W.Frag}{x y:V}(h1:mD x=true)(h2:mD y=true)(h:Q (.bl (eqV x y)) H):iH K x y H Q:=⟨_,.inl ⟨h1,h2,rfl⟩,h⟩
theorem aQM{K:W.Frag}{x y:V}(h1:mD x=true)(h2:mD y=true)(h:Q (.bl (!eqV x y)) H):Bn K x y H Q:=⟨_,.inl ⟨h1,h2,rfl⟩,h⟩
theorem QM{K:W.Frag}{p:Addr}{xs:List V}{i:Int}{v:V}(h1:bP K H p xs)(h2:pP xs i=some v)(h:Q v H):Kh K (.ref p) (.int i) H Q:=.inl ⟨p,xs,i,v,rfl,rfl,h1,h2,h⟩
theorem aQN{K:W.Frag}{p:Addr}{xs:List V}{i:Int}{v:V}(h1:iF K H p xs)(h2:pP xs i=some v)(h:Q v H):Kh K (.ref p) (.int i) H Q:=.inr (.inl ⟨p,xs,i,v,rfl,rfl,h1,h2,h⟩)
theorem aR0{r:V->Option Int->Option Int->Hp->VK->Prop}(h:te U H λx H1=>tl U H1 λl H2=>th U H2 λu H3=>r x l u H3 Q):Ng r te tl th U H Q:=h
theorem aKG{QO:Option Int->Hp->Prop}(h:QO none H):Q4 U H QO:=h
theorem aOj{QO:Option Int->Hp->Prop}(h:t U H λx H1=>∃i,x=.int i/\QO (some i) H1):Qj t U H QO:=h
theorem uY{K:W.Frag}{a:Addr}{xs:List V}{lo hi:Option Int}(h1:bP K H a xs)(h:∀p,H p=none->Q (.ref p) (upd H p (.lst (nM xs lo hi)))):Cr K (.ref a) lo hi H Q:=.inl ⟨a,xs,rfl,h1,h⟩
theorem aOk(h:ta U H λx H1=>∃c,x=.bl c/\if c=true then tb U H1 Q else Q (.bl false) H1):Qe ta tb U H Q:=h
theorem aQO(h:ta U H λx H1=>∃c,x=.bl c/\if c=true then Q (.bl true) H1 else tb U H1 Q):PC ta tb U H Q:=h
theorem aOl(h:ta U H λx H1=>∃c,x=.bl c/\Q (.bl (!c)) H1):Qd ta U H Q:=h
theorem aQP{t:TT}{ta tb:TE}(h:t U H λc H1=>if c=true then ta U H1 Q else tb U H1 Q):Ni t ta tb U H Q:=h
theorem aMf(h:ta U H λx H1=>tb U H1 λy H2=>r x y H2 λz H3=>∃k,z=.bl k/\(if k=true then tc U H3 λw' H4=>r' y w' H4 Q else Q (.bl false) H3)):QF r r' ta tb tc U H Q:=h
theorem aOm(h:t U H λx H'=>∃k,x=.bl k/\QT k H'):Qk t U H QT:=h
theorem aR1(h:t U H λx H'=>∃k,x=.bl k/\QT k H'):tB t U H QT:=h
theorem aQQ(h:t U H λc H1=>if c=true then u U H1 QT else QT false H1):PF t u U H QT:=h
theorem aR2(h:t U H λc H1=>if c=true then QT true H1 else u U H1 QT):Nh t u U H QT:=h
theorem aQR(h:t U H λc H1=>QT (!c) H1):PD t U H QT:=h
theorem aQS(h:QT true H):Pj U H QT:=h
theorem aR3{b:Bool}{P:Bool->Prop}(h:P b):∃k,V.bl b=V.bl k/\P k:=⟨b,rfl,h⟩
theorem aOn{i:Int}{P:Int->Prop}(h:P i):∃k,V.int i=V.int k/\P k:=⟨i,rfl,h⟩
theorem aR4{i:Int}{P:Int->Prop}(h:P i):∃k,[V.int i]=[V.int k]/\P k:=⟨i,rfl,h⟩
theorem aR5{i j:Int}{P:Int->Int->Prop}(h:P i j):∃k l,[V.int i,V.int j]=[V.int k,V.int l]/\P k l:=⟨i,j,rfl,h⟩
theorem aQT(h:QA [] H):mU U H QA:=h
theorem aOo(h:ta U H λx H1=>tr U H1 λxs H2=>QA (x::xs) H2):bY ta tr U H QA:=h
theorem aQU(h:t U H λxs H1=>xs.length<=sizeLine/\∀p,H1 p=none->Q (.ref p) (upd H1 p (.tup xs))):Cs t U H Q:=h
theorem aQV(h:t U H λxs H1=>xs.length<=sizeLine/\∀p,H1 p=none->Q (.ref p) (upd H1 p (.lst xs))):zS t U H Q:=h
theorem aOp(h:t U H λvs H1=>sp vs H1 Q E):Fs sp [] E t U H Q:=by
 unfold Fs;simpa only [ub] using h
theorem aR6{r:List V->Hp->VK->Prop}(h:t U H λvs H1=>r vs H1 Q):Dc r t U H Q:=h
theorem aOq{k:Nat}{idx:List Nat}(h:wi U H λJ H1=>mV J (yo k idx U) g tt te (λys H'=>∀p,H' p=none->Q (.ref p) (upd H' p (.lst ys))) H1):Hj wi k idx g tt te U H Q:=h
theorem aMg{R:It->Hp->Prop}(h:ta U H λvs H1=>∃j:Int,vs=[.int j]/\-(2 ^ 62)<=j/\j < 2 ^ 62/\R (wm 0 j.toNat) H1):LY ta U H R:=h
theorem aMh{R:It->Hp->Prop}(h:ta U H λvs H1=>∃i j:Int,vs=[.int i,.int j]/\(-(2 ^ 62)<=i/\i < 2 ^ 62/\-(2 ^ 62)<=j/\j < 2 ^ 62)/\R (wm i (j - i).toNat) H1):LX ta U H R:=h
theorem aQW{K:W.Frag}{ta:TE}{f:Str}(h:ta U H λx H1=>∃a C dx fs v,x=.ref a/\H1 a=some (.ins C dx fs)/\oi K C/\dQ K C f/\fs.lookup f=some v/\Q v H1):Pn K ta f U H Q:=h
theorem aOr{n:Nat}{P:Prop}(h1:n<=sizeLine)(h:P):n<=sizeLine/\P:=⟨h1,h⟩
theorem cA{n:Nat}(h:n<=16777216):n<=sizeLine:=by rw[uz];exact h
end
section
variable{A B:Prop}{c:Prop}[Decidable c]
theorem cE(h1:c->A)(h2:¬c->B):if decide c=true then A else B:=by
 by_cases h:c
 ·rw[dO (mv h)];exact h1 h
 ·rw[cU (by simpa using h)];exact h2 h
theorem aOs(h1:¬c->A)(h2:c->B):if (!decide c)=true then A else B:=by
 by_cases h:c
 ·rw[cU (by simpa using h)];exact h2 h
 ·rw[dO (by simpa using h)];exact h1 h
theorem kE{b:Bool}(h1:b=true->A)(h2:b=false->B):if b=true then A else B:=by
 cases b
 ·exact LR (h2 rfl)
 ·exact LQ (h1 rfl)
end
def Zs(sc:Scope)(NX:aj)(scope:Scope)(N:aj)(k:Nat)(idx:List Nat):Bool:=
 scope.names.all (λy=>!(y.2 == .cell)) && scope.names.all (λy=>!(y.2 == .local) || scope.names.lookup y.1 == some .local) &&
 scope.names.all (λy=>!(y.2 == .free) || (sc.names.lookup y.1 == some .cell || sc.names.lookup y.1 == some .free)) &&
 decide N.Nodup && decide (N.length=k+idx.length) && (List.range idx.length).all λi=>
  match (N.drop k)[i]?,idx[i]? with
  |some x,some j=>decide (NX[j]?=some x) && scope.names.lookup x == some .free
  |_,_=>false
theorem cF{X:Cx}{scope:Scope}{k:Nat}{idx:List Nat}(hsc:X.env.scope=sc)(hN:X.N=NX)(hk:scope.kind=.function)(h:Zs sc NX scope N k idx=true):fX X scope N k idx:=by
 unfold Zs at h;simp only[xp,decide_eq_true_eq] at h;obtain⟨⟨⟨⟨⟨h1,h2⟩,h3⟩,h4⟩,h5⟩,h6⟩:=h;rw[D7] at h1 h2 h3 h6;refine⟨hk,λy hy e=>?_,λy hy e=>?_,λy hy e=>?_,h4,h5,λi x e=>?_⟩
 ·have:=h1 y hy;rw[e] at this;simp at this
 ·have:=h2 y hy;rw[e] at this;simpa using this
 ·have:=h3 y hy;rw[e] at this;show X.env.scope.names.lookup y.1=_\/X.env.scope.names.lookup y.1=_;rw[hsc];simpa using this
 ·have hi:i < (N.drop k).length:=(mT.mp e).1;have Bd:i < idx.length:=by rw[F0] at hi;lia
  have q:=h6 i (zp.mpr Bd);rw[e,eQ Bd] at q;simp only[xp,decide_eq_true_eq] at q;exact⟨idx[i],eQ Bd,by rw[hN];exact q.1,by simpa using q.2⟩
theorem bE{H:Hp}{a b:Addr}{o:HO}(h':H b=none)(h:H a=some o):a≠b:=bQ h h'
theorem aO.at(e:aO H H')(h:H b=some o):H' b=some o:=e b o h
def bX(p:Addr)(H H':Hp):Prop:=∀b o,H b=some o->b≠p->H' b=some o
theorem bX.at(e:bX p H H')(h:H b=some o)(n:b≠p):H' b=some o:=e b o h n
theorem aO.new(h:H p=none):aO H (upd H p o):=λb u e=>by rw[aV (bQ e h)];exact e
theorem bX.upd:bX p H (upd H p o):=λb u e n=>by rw[aV n];exact e
theorem bX.trans(a:bX p H H1)(b:bX p H1 H2):bX p H H2:=λc o h n=>b c o (a c o h n) n
theorem aO.keep(a:aO H H'):bX p H H':=λc o h _=>a c o h
section
variable{U:St}{H:Hp}{nx bk ct:St->Hp->Prop}{rt:VK}
theorem fU{t u:TS}(J:St->Hp->Prop)(h1:∀N:St->Hp->Prop,(∀U' H',J U' H'->N U' H')->t ⟨N,rt,bk,ct⟩ U H)(h2:∀U' H',J U' H'->u ⟨nx,rt,bk,ct⟩ U' H'):He t u ⟨nx,rt,bk,ct⟩ U H:=h1 _ h2
end
theorem Rz{K:W.Frag}{a:Addr}{xs:List V}{σ₀:St}{g:TG}{tt:TT}{te:TE}{R:List V->Hp->Prop}{H:Hp}(f:V->V)(hS:bP K H a xs)(hz:xs.length<=sizeLine)
  (hs:∀x (N:V->Hp->Prop) (N':Hp->Prop),x∈xs->N (f x) H->g x σ₀ H λσ2 H2=>tt σ2 H2 λb H3=>if b=true then te σ2 H3 λy H4=>N y H4 else N' H3)
  (hd:R (xs.map f) H):mV (xr K a) σ₀ g tt te R H:=by
 refine dP (λi ys H'=>H'=H/\ys=(xs.take i).map f) ⟨rfl,by simp⟩ hz (λi ys H' hi z1q=>?_) (λi x ys H' hx z2q=>?_) (λys H' z3q=>?_)
 ·obtain⟨e1,e2⟩:=z1q;subst e1 e2;exact⟨hS,by simp;lia⟩
 ·obtain⟨e1,e2⟩:=z2q;subst e1 e2;refine hs x (λy H4=>H4=H'/\(xs.take i).map f ++ [y]=(xs.take (i+1)).map f) (λH3=>H3=H'/\(xs.take i).map f=(xs.take (i+1)).map f) (pM hx) ⟨rfl,?_⟩;rw[CI,hx,jF];rfl
 ·obtain⟨e1,e2⟩:=z3q;subst e1 e2;rw[rA];exact hd
theorem aIO{lo:Int}{n:Nat}{g:TG}{R:List V->Hp->Prop}(f:Nat->V)(hz:n<=sizeLine)(hs:∀i (N:V->Hp->Prop) (N':Hp->Prop),i < n->N (f i) H->g (.int (lo+i)) σ₀ H λσ2 H2=>tt σ2 H2 λb H3=>if b=true then te σ2 H3 λy H4=>N y H4 else N' H3)(hd:R ((List.range n).map f) H):mV (wm lo n) σ₀ g tt te R H:=by
 refine iG (λi ys H'=>H'=H/\ys=(List.range i).map f) ⟨rfl,by simp⟩ hz (λi ys H' hi z4q=>?_) (λi ys H' hi z5q=>?_) (λys H' z6q=>?_)
 ·obtain⟨e1,e2⟩:=z4q;subst e1 e2;simp
 ·obtain⟨e1,e2⟩:=z5q;subst e1 e2;refine hs i (λy H4=>H4=H'/\(List.range i).map f ++ [y]=(List.range (i+1)).map f) (λH3=>H3=H'/\(List.range i).map f=(List.range (i+1)).map f) hi ⟨rfl,?_⟩;rw[List.range_succ,jF];rfl
 ·obtain⟨e1,e2⟩:=z6q;subst e1 e2;exact hd
theorem aOt{X:Cx}{n:Int}(hg:Gl X x)(hm:∃t,X.mg x=some (.int n t))(hd:(x == ("__debug__" : Str))=false:=by decide):PE X (.Name x pos) (tC (.int n)):=by
 obtain⟨t,hm⟩:=hm;exact aJE (v:=.int n) hg hm ⟨t,rfl⟩ hd
section
variable{X:Cx}{K:W.Frag}{H:Hp}{Q:VK}
def nQ(K:W.Frag):List V->Hp->VK->Prop:=λxs H Q=>∃x n,xs=[x]/\Ze K x H n/\Q (.int n) H
theorem cV:fK X (.builtin "len") (nQ X.K):=aLJ
theorem aOu{xs:List V}(h:bP K H p xs)(q:Q (.int xs.length) H):nQ K [.ref p] H Q:=⟨_,_,rfl,.inl ⟨_,h,rfl⟩,q⟩
theorem aOv{xs:List V}(h:iF K H p xs)(q:Q (.int xs.length) H):nQ K [.ref p] H Q:=⟨_,_,rfl,.inr ⟨_,h,rfl⟩,q⟩
def Zi:List V->Hp->VK->Prop:=λxs H Q=>∃i,xs=[.int i]/\Q (.int (if i < 0 then -i else i)) H
theorem aKH:fK X (.builtin "abs") Zi:=aLI
theorem aQX{i:Int}(h:Q (.int (if i < 0 then -i else i)) H):Zi [.int i] H Q:=⟨i,rfl,h⟩
def Zh:List V->Hp->VK->Prop:=λxs H Q=>∃i j,xs=[.int i,.int j]/\Q (.int (if j > i then j else i)) H
theorem oE(hc:X.calm=true):fK X (.builtin "max") Zh:=aKp hc
theorem aQY{i j:Int}(h:Q (.int (max i j)) H):Zh [.int i,.int j] H Q:=⟨i,j,rfl,by
 rw[show(if j > i then j else i)=max i j by split <;> lia];exact h⟩
def Zg:List V->Hp->VK->Prop:=λxs H Q=>∃i j,xs=[.int i,.int j]/\Q (.int (if j < i then j else i)) H
theorem lC(hc:X.calm=true):fK X (.builtin "min") Zg:=aKq hc
theorem aQZ{i j:Int}(h:Q (.int (min i j)) H):Zg [.int i,.int j] H Q:=⟨i,j,rfl,by
 rw[show(if j < i then j else i)=min i j by split <;> lia];exact h⟩
def Zr:List V->Hp->VK->Prop:=λxs H Q=>(∃i,xs=[.int i]/\Q (.int i) H)\/∃k,xs=[.bl k]/\Q (.int (if k then 1 else 0)) H
theorem Ry:fK X (.type "int") Zr:=aKr
theorem aOw{b:Bool}(h:Q (.int (if b then 1 else 0)) H):Zr [.bl b] H Q:=.inr ⟨b,rfl,h⟩
def pO(K:W.Frag):List V->Hp->VK->Prop:=λxs H Q=>∃x c b,xs=[x,c]/\Bz K H x c b/\Q (.bl b) H
theorem dA:fK X (.builtin "isinstance") (pO X.K):=aMb
theorem dG{b:Bool}(h1:Bz K H x c b)(h:Q (.bl b) H):pO K [x,c] H Q:=⟨x,c,b,rfl,h1,h⟩
def jA(K:W.Frag):List V->Hp->VK->Prop:=λxs H Q=>∃p ys,xs=[.ref p]/\(bP K H p ys\/iF K H p ys)/\∀l,H l=none->Q (.ref l) (upd H l (.lst ys))
theorem eW:fK X (.type "list") (jA X.K):=aGh
theorem iI(h1:bP K H p ys)(h:∀l,H l=none->Q (.ref l) (upd H l (.lst ys))):jA K [.ref p] H Q:=⟨p,ys,rfl,.inl h1,h⟩
end
theorem Q0{K:W.Frag}{H:Hp}{p q:Addr}{xs:List V}(h1:bP K H p xs)(h2:bP K H q []):vd K H 8 (.ref p) (.ref q) xs.isEmpty:=
 .inr ⟨p,q,xs,[],λ_=>true,rfl,rfl,.inl ⟨h1,h2⟩,λj u v _ e=>by simp at e,by cases xs <;> simp⟩
theorem aMi{xs:List V}{n:Nat}(h:xs.length<=n):nM xs none (some (n:Int))=xs:=by
 unfold nM;rw[HT.Rq,HT.Q5,Nat.min_eq_right h,List.drop_zero,HL,rA]
section
variable{U:St}{H:Hp}{nx:St->Hp->Prop}{rt:VK}{g:TG}{tb:TS}{Q:VK}
theorem mF{lo:Int}{n:Nat}(Pv:Nat->St->Hp->Prop)(h0:Pv 0 U H)
  (hs:∀i U H,i < n->Pv i U H->g (.int (lo+i)) U H λσ2 H2=>tb ⟨Pv (i+1),rt,nx,Pv (i+1)⟩ σ2 H2) (hd:∀U H,Pv n U H->nx U H) :
  ∃W:Nat->Nat->St->Hp->Prop,(∃m,W 0 m U H)/\∀i m U H,W i m U H->
   ((wm lo n).stop i H/\nx U H)\/((wm lo n).go i H/\∃N:St->Hp->Prop,(∀U' H',N U' H'->∃m',m' < m/\W (i+1) m' U' H')/\∀x H',(wm lo n).tf i H x H'->g x U H' λσ2 H2=>tb ⟨N,rt,nx,N⟩ σ2 H2):=
 aKo (D:=⟨nx,rt,λ_ _=>False,λ_ _=>False⟩) Pv h0 hs hd
theorem jM{K:W.Frag}{a:Addr}{xs:List V}(Pv:Nat->St->Hp->Prop)(h0:Pv 0 U H)(hl:∀i U H,i<=xs.length->Pv i U H->bP K H a xs)
  (hs:∀i x U H,xs[i]?=some x->Pv i U H->g x U H λσ2 H2=>tb ⟨Pv (i+1),rt,nx,Pv (i+1)⟩ σ2 H2) (hd:∀U H,Pv xs.length U H->nx U H) :
  ∃W:Nat->Nat->St->Hp->Prop,(∃m,W 0 m U H)/\∀i m U H,W i m U H->
   ((xr K a).stop i H/\nx U H)\/((xr K a).go i H/\∃N:St->Hp->Prop,(∀U' H',N U' H'->∃m',m' < m/\W (i+1) m' U' H')/\∀x H',(xr K a).tf i H x H'->g x U H' λσ2 H2=>tb ⟨N,rt,nx,N⟩ σ2 H2):=
 aLE (D:=⟨nx,rt,λ_ _=>False,λ_ _=>False⟩) Pv h0 hl hs hd
theorem aQ0{K:W.Frag}{a:Addr}{xs:List V}(Pv:Nat->St->Hp->Prop)(h0:Pv 0 U H)(hl:∀i U H,i<=xs.length->Pv i U H->iF K H a xs)
  (hs:∀i x U H,xs[i]?=some x->Pv i U H->g x U H λσ2 H2=>tb ⟨Pv (i+1),rt,nx,Pv (i+1)⟩ σ2 H2) (hd:∀U H,Pv xs.length U H->nx U H) :
  ∃W:Nat->Nat->St->Hp->Prop,(∃m,W 0 m U H)/\∀i m U H,W i m U H->
   ((zu K a).stop i H/\nx U H)\/((zu K a).go i H/\∃N:St->Hp->Prop,(∀U' H',N U' H'->∃m',m' < m/\W (i+1) m' U' H')/\∀x H',(zu K a).tf i H x H'->g x U H' λσ2 H2=>tb ⟨N,rt,nx,N⟩ σ2 H2):=
 aNK (D:=⟨nx,rt,λ_ _=>False,λ_ _=>False⟩) Pv h0 hl hs hd
theorem aQ1{K:W.Frag}{i j:Int}(h:Q (.bl (decide (i=j))) H):iH K (.int i) (.int j) H Q:=⟨_,.inl ⟨rfl,rfl,rfl⟩,h⟩
theorem aQ2{K:W.Frag}{i j:Int}(h:Q (.bl (!decide (i=j))) H):Bn K (.int i) (.int j) H Q:=⟨_,.inl ⟨rfl,rfl,rfl⟩,h⟩
end
def noStar:Expr->Bool
 |.Starred _ _=>false
 |_=>true
theorem bU(h:noStar e=true):starEach (e::es) env=(false,eval e env)::starEach es env:=by
 cases e <;> first|rfl|exact absurd h lz
theorem kF:∀{es:List Expr},es.all noStar=true->(backTo pos (starEach es env)).any (·.1)=false
 |[],_=>rfl
 |e::es,h=>by
  rw[List.all_cons,xp] at h;rw[bU h.1];have ih:=kF (env:=env) (pos:=pos) h.2;unfold backTo at ih ⊢;rw[yG,List.any_cons];rw[ih];rfl
section
variable{X:Cx}{CX:wo}{k:Nat}{f C:Addr}{fd:FuncData}{ps:aj}{sp:Sp}{ie:List V}{ds:ah}{E:XK}{x m:Str}{p pos apos:Pos}{e o:Expr}{es:List Expr}{ta te:TE}{t:TA}
theorem kG(ha:PE X e te)(hr:PA X es t)(hs:noStar e=true:=by rfl):PA X (e::es) (bY te t):=aNQ ha hr (bU hs)
theorem jD{es:List Expr}(h:(e::es).all noStar=true):noStar e=true/\es.all noStar=true:=by
 rw[List.all_cons,xp] at h;exact h
theorem aMj(F:bT X.prog X.w X.K X.mg X.base CX k f fd ps sp)(hr:fL k X.A)(hg:Gl X x)(hm:X.mg x=some (.ref f))(hk:W.keepIn X.K (.ref f)=true)(hb:Binds X.K fd ps ds)(hd:Vals ie ds)(hx:Passes CX X E)
  (ha:PA X (e::es) t) (hn:(e::es).all noStar=true:=by rfl) (jz:(x == ("__debug__" : Str))=false:=by decide):PE X (.Call (.Name x p) (e::es) [] pos) (Fs sp ie E t):=
 aNR F hr hg hm hk hb hd hx ha jz (bU (jD hn).1) (kF (jD hn).2)
theorem aMk(M:Mk X.K C f)(F:bT X.prog X.w X.K X.mg X.base CX k f fd ps sp)(hr:fL (k+1) X.A)(hg:Gl X x)(hm:X.mg x=some (.ref C))(hb:Binds X.K fd ps ds)(hd:Vals ie ds)(hx:Passes CX X E)
  (ha:PA X (e::es) t) (hn:(e::es).all noStar=true:=by rfl) (jz:(x == ("__debug__" : Str))=false:=by decide):PE X (.Call (.Name x p) (e::es) [] pos) (Hk C sp ie E t):=
 aNT M F hr hg hm hb hd hx ha jz (bU (jD hn).1) (kF (jD hn).2)
variable{id T:String}{r:List V->Hp->VK->Prop}
theorem aKI(hc:fK X (.builtin id) r)(hg:Gl X x)(hm:X.mg x=none)(hv:bootBuiltins x=some (.builtin id))(ha:PA X (e::es) t)(hn:(e::es).all noStar=true:=by rfl)(cj:x≠"__name__":=by decide)(jz:(x == ("__debug__" : Str))=false:=by decide) :
  PE X (.Call (.Name x p) (e::es) [] pos) (Dc r t):=aLP hc hg hm hv ha cj jz (bU (jD hn).1) (kF (jD hn).2)
theorem aIP(hc:fK X (.type T) r)(hg:Gl X x)(hm:X.mg x=none)(hv:bootBuiltins x=some (.type T))(ha:PA X (e::es) t)(hn:(e::es).all noStar=true:=by rfl)(cj:x≠"__name__":=by decide)(jz:(x == ("__debug__" : Str))=false:=by decide) :
  PE X (.Call (.Name x p) (e::es) [] pos) (Dc r t):=aKv hc hg hm hv ha cj jz (bU (jD hn).1) (kF (jD hn).2)
variable{tg a b:Expr}
theorem aIQ(hg:Gl X "range")(hm:X.mg "range" = none)(ha:PA X [a] t)(hn:noStar a=true:=by rfl):PI X tg (.Call (.Name "range" p) [a] [] pos) (LY t):=aKl hg hm ha (bU hn)
theorem aIR(hg:Gl X "range")(hm:X.mg "range" = none)(ha:PA X [a,b] t)(hn:noStar a=true:=by rfl)(tq:noStar b=true:=by rfl):PI X tg (.Call (.Name "range" p) [a,b] [] pos) (LX t):=
 aKm hg hm ha (by rw[bU hn,bU tq];rfl) (bU tq)
end
section
variable{X:Cx}{pos:Pos}{x1:Nat}{e1 e2 e3 e4 e5 e6 e7 e8:Expr}{t1 t2 t3 t4 t5 t6 t7 t8:TE}
theorem aSD(h1:PE X e1 t1)(n1:noStar e1=true:=by rfl):PE X (.List [e1] pos) (zS (bY t1 mU)):=zT (kG h1 qK n1)
theorem aSE{k1}(h1:PE X e1 t1)(n1:noStar e1=true:=by rfl):PE X (.Tuple [e1] k1 pos) (Cs (bY t1 mU)):=QR (kG h1 qK n1)
theorem aSF(h1:PE X e1 t1)(h2:PE X e2 t2)(n1:noStar e1=true:=by rfl)(n2:noStar e2=true:=by rfl):PE X (.List [e1,e2] pos) (zS (bY t1 (bY t2 mU))):=zT (kG h1 (kG h2 qK n2) n1)
theorem aSG{k1}(h1:PE X e1 t1)(h2:PE X e2 t2)(n1:noStar e1=true:=by rfl)(n2:noStar e2=true:=by rfl):PE X (.Tuple [e1,e2] k1 pos) (Cs (bY t1 (bY t2 mU))):=QR (kG h1 (kG h2 qK n2) n1)
theorem aSH(h1:PE X e1 t1)(h2:PE X e2 t2)(h3:PE X e3 t3)(n1:noStar e1=true:=by rfl)(n2:noStar e2=true:=by rfl)(n3:noStar e3=true:=by rfl):PE X (.List [e1,e2,e3] pos) (zS (bY t1 (bY t2 (bY t3 mU)))):=zT (kG h1 (kG h2 (kG h3 qK n3) n2) n1)
theorem aSI{k1}(h1:PE X e1 t1)(h2:PE X e2 t2)(h3:PE X e3 t3)(n1:noStar e1=true:=by rfl)(n2:noStar e2=true:=by rfl)(n3:noStar e3=true:=by rfl):PE X (.Tuple [e1,e2,e3] k1 pos) (Cs (bY t1 (bY t2 (bY t3 mU)))):=QR (kG h1 (kG h2 (kG h3 qK n3) n2) n1)
theorem aSJ(h1:PE X e1 t1)(h2:PE X e2 t2)(h3:PE X e3 t3)(h4:PE X e4 t4)(n1:noStar e1=true:=by rfl)(n2:noStar e2=true:=by rfl)(n3:noStar e3=true:=by rfl)(n4:noStar e4=true:=by rfl):PE X (.List [e1,e2,e3,e4] pos) (zS (bY t1 (bY t2 (bY t3 (bY t4 mU))))):=zT (kG h1 (kG h2 (kG h3 (kG h4 qK n4) n3) n2) n1)
theorem aSK(h1:PE X e1 t1)(h2:PE X e2 t2)(h3:PE X e3 t3)(h4:PE X e4 t4)(h5:PE X e5 t5)(n1:noStar e1=true:=by rfl)(n2:noStar e2=true:=by rfl)(n3:noStar e3=true:=by rfl)(n4:noStar e4=true:=by rfl)(n5:noStar e5=true:=by rfl):PE X (.List [e1,e2,e3,e4,e5] pos) (zS (bY t1 (bY t2 (bY t3 (bY t4 (bY t5 mU)))))):=zT (kG h1 (kG h2 (kG h3 (kG h4 (kG h5 qK n5) n4) n3) n2) n1)
theorem aSL(h1:PE X e1 t1)(h2:PE X e2 t2)(h3:PE X e3 t3)(h4:PE X e4 t4)(h5:PE X e5 t5)(h6:PE X e6 t6)(h7:PE X e7 t7)(n1:noStar e1=true:=by rfl)(n2:noStar e2=true:=by rfl)(n3:noStar e3=true:=by rfl)(n4:noStar e4=true:=by rfl)(n5:noStar e5=true:=by rfl)(n6:noStar e6=true:=by rfl)(n7:noStar e7=true:=by rfl):PE X (.List [e1,e2,e3,e4,e5,e6,e7] pos) (zS (bY t1 (bY t2 (bY t3 (bY t4 (bY t5 (bY t6 (bY t7 mU)))))))):=zT (kG h1 (kG h2 (kG h3 (kG h4 (kG h5 (kG h6 (kG h7 qK n7) n6) n5) n4) n3) n2) n1)
end
section
variable{X:Cx}{pins:ar}{U:St}{H:Hp}{s:Shared}{h':Heap}
theorem Inv.xN{t':Nat}{ch:ao}{T:Addr}{o:HO}(I:Inv X pins U H s)(k:∀b u,b∉ch->s.heap.get? b=some u->h'.get? b=some u)
  (si:∀b∈ch,wa X pins H b) (hT:s.heap.objs.size<=T) (new:bW X.prog X.w (upd H T o) h' T o):Inv X pins U (upd H T o) { s with heap:=h',toks:=t' }:=by
 have hn:H T=none:=I.bc.fresh hT;have B7:∀b u,H b=some u->b∉ch:=λb u e z=>by rw[(si b z).1] at e;cases e
 have neT:∀b u,H b=some u->b≠T:=λb u e=>bQ e hn;refine I.step (g':=s.gens) (d':=s.drawn) (ch:=ch) (λb hb=>?_) (λb u _ _ hc e _=>k b u hc e) (λb u _ _ hc e _=>⟨u.slots,k b u hc e⟩) (λb u hc e n=>?_)
  (λb u hc e=>⟨u,k b u hc e⟩) (λb xs e=>?_) (λb u v e=>?_) (λb ps e=>⟨#[],?_⟩) (λm hm=>?_) (λb u e=>?_) I.bare
 ·obtain⟨f0,f1,f2,f3,f4,f5⟩:=si b hb;exact⟨f3,f1,f4,f5⟩
 ·rw[aV (rV (uJ (jX e) hT))];exact n
 ·rw[aV (neT _ _ e)];exact e
 ·rw[aV (neT _ _ e)];exact e
 ·rw[aV (neT _ _ e),e];simp
 ·obtain⟨u,es,ep,ho,r⟩:=hm;exact⟨u,es,ep,k _ u (λz=>(si _ z).2.1 rfl) ho,r⟩
 ·by_cases hb:b=T
  ·subst hb;rw[aP] at e;cases e;exact new
  ·rw[aV hb] at e;refine(I.bc b u e).oI (λc v hc q=>k c v ?_ q) (λc q=>by rw[aV (bQ q hn)];exact q) λc xs _ q=>by rw[aV (bQ q hn)];exact q
   rcases hc with z|z
   ·rw[z];exact B7 b u e
   ·exact B7 c _ z
end
def Ed(K:W.Frag)(a:Addr):It:=
 ⟨λi H=>∃xs x,bP K H a xs/\xs[i]?=some x,λi H x H'=>∃T v,H T=none/\x=.ref T/\H'=upd H T (.tup [.int i,v])/\∀xs,bP K H a xs->xs[i]?=some v,λi H=>∃xs,bP K H a xs/\xs.length<=i⟩
theorem aKJ{P:Program}{w:World}{K:W.Frag}{elts:List Expr}{x1:Nat}{tp:Pos}(a e it:Addr)(Xw:e≠it) :
  Turn P w K (.Tuple elts x1 tp) (Ed K a) [e,it] e (λi h=>(∃old,IsEnum h e it ((i:Nat):Int) old)/\h.IsListIter it a i) where
 mem:=by simp
 obj:=λi h st b hb=>by
  obtain⟨⟨old,he⟩,st⟩:=st;rcases pN.mp hb with z|hb
  ·subst z;exact⟨_,he,λv z=>by cases z⟩
  ·have z:b=it:=by simpa using hb
   subst z;obtain⟨o,e,c,d⟩:=st;exact⟨o,e,λv z=>by rw[d] at z;cases z⟩
 keep:=λi h h' st k=>by
  obtain⟨⟨old,he⟩,st⟩:=st;exact⟨⟨old,k e (by simp) _ he⟩,st.at λo q=>k it (by simp) o q⟩
 item:=by
  intro X hP hw hK hc i pins s U H E I hf st hg;subst hP hw hK;obtain⟨⟨old,he⟩,st⟩:=st;obtain⟨xs,x,hq,hx⟩:=hg;obtain⟨its,rv,p,hz⟩:=I.list hq;obtain⟨u,hu,ru⟩:=rv.get hx;have IT:e < s.heap.objs.size:=jX he;have vi:it < s.heap.objs.size:=by obtain⟨_,z,_⟩:=id st;exact jX z
  refine wpAny_pyNext_enum_item he st p.isList (x:=u) (by simpa using hu) Xw λh1 ho Vq hT hsz hk=>?_;refine⟨_,rfl,wpAny_letOwnedTupleGo_enum ho λh2 GP fc=>?_⟩
  replace fc:Heap.SameBut e h1 h2:=fc
  have yl:h2.IsTuple s.heap.objs.size #[.int i s.toks,u]:=⟨_,(fc.2 _ (xl IT)).trans hT,rfl,_,rfl⟩
  have kk:∀b o,b∉[e,it]->s.heap.get? b=some o->h2.get? b=some o:=λb o hb q=>by
   have n1:b≠e:=λz=>hb (by simp[z]);have n2:b≠it:=λz=>hb (by simp[z]);exact(fc.2 b n1).trans (hk b o n1 n2 q)
  have I2:Inv X pins U (upd H s.heap.objs.size (.tup [.int i,x])) { s with heap:=h2,toks:=s.toks+1 }:=
   I.xN kk hf (eR _) (show bW X.prog X.w _ h2 _ (.tup [.int i,x]) from⟨cA (by simp),[.int i s.toks,u],.cons ⟨_,rfl⟩ (.cons ru .nil),yl⟩)
  have DA:H s.heap.objs.size=none:=I.bc.fresh (eR _);refine⟨.ref s.heap.objs.size,_,I2,rfl,⟨_,x,DA,rfl,rfl,λys hy=>by rw[I.Rr hy hq];exact hx⟩,⟨⟨u,?_⟩,?_⟩,λb hb=>?_⟩
  ·have e1:((i+1:Nat):Int)=(i:Int)+1:=by push_cast;rfl
   rw[e1];exact GP
  ·exact Vq.at λo q=>(fc.2 it Xw.symm).trans q
  ·have fi:b < s.heap.objs.size:=by
    rcases pN.mp hb with z|hb
    ·rw[z];exact IT
    ·rw[show b=it by simpa using hb];exact vi
   rw[aV (rV fi)];exact(hf b hb).1
 done:=by
  intro X hP hw hK hc i pins s U H E I hf st hg;subst hP hw hK;obtain⟨⟨old,he⟩,st⟩:=st;obtain⟨xs,hq,hx⟩:=hg;obtain⟨its,rv,p,hz⟩:=I.list hq;obtain⟨f0,f1,f2,f3,f4,f5⟩:=hf it (by simp);have hl:=rv.length;exact wpAny_pyNext_enum_end (I.ok.hd hc) he st p.isList (by simp;lia) λh' eb=>⟨rfl,I.turned (t':=s.toks) (λb o hb e=>eb b o hb e) f0 f1 f3 f4 f5⟩
 self:=λ_ _ _ _ _ st h=>by
  obtain⟨⟨old,he⟩,st⟩:=st;exact wpAny_pyIter_enum he h
section
variable{X:Cx}{elts:List Expr}{x1:Nat}{tp:Pos}
def P4(K:W.Frag)(ta:TA):TI:=λU H R=>ta U H λvs H1=>∃a,vs=[.ref a]/\(∃xs,bP K H1 a xs)/\R (Ed K a) H1
theorem aOx{a:Expr}{ta:TA}{p pos:Pos}(hg:Gl X "enumerate")(hm:X.mg "enumerate" = none)(ha:PA X [a] ta)(hn:noStar a=true:=by rfl):PI X (.Tuple elts x1 tp) (.Call (.Name "enumerate" p) [a] [] pos) (P4 X.K ta):=by
 intro pins s U H R I h;refine Call_ (oJ I hg hm boot_enumerate (PyProof.Rows.callWith_type1 (eG (ha pos pins s U H _ I h) λus s1 zq=>?_) (bU hn) rfl));obtain⟨vs,H1,I1,r1,q1⟩:=zq;obtain⟨l,e,⟨xs,hq⟩,q⟩:=q1;subst e;obtain⟨u,rfl,ru⟩:=vals1 r1;cases ru;obtain⟨its,rv,pl,hz⟩:=I1.list hq;refine call_enumerate_list pl.isList λh' he hit hsz hk=>?_;refine wpAny_pyIter_enum he ?_;refine⟨s1.heap.objs.size+1,[s1.heap.objs.size+1,s1.heap.objs.size],_,_,H1,rfl,I1.kept (t':=s1.toks) hk,aKJ l _ _ (Nat.succ_ne_self _),⟨⟨_,he⟩,hit⟩,λb hb=>?_,q⟩;have hle:s1.heap.objs.size<=b:=by
  rcases pN.mp hb with z|hb
  ·rw[z];exact Nat.le_succ _
  ·rw[show b=s1.heap.objs.size by simpa using hb];exact eR _
 exact I1.AR hle (I1.bc.fresh hle)
end
section
variable{U:St}{H:Hp}{nx:St->Hp->Prop}{rt:VK}{g:TG}{tb:TS}{Q:VK}{K:W.Frag}
def EnQ(K:W.Frag)(R:It->Hp->Prop):List V->Hp->Prop:=λvs H1=>∃a,vs=[.ref a]/\(∃xs,bP K H1 a xs)/\R (Ed K a) H1
def LiQ(K:W.Frag)(R:It->Hp->Prop):V->Hp->Prop:=λx H1=>∃a,x=.ref a/\(∃xs,bP K H1 a xs)/\R (xr K a) H1
def TiQ(K:W.Frag)(R:It->Hp->Prop):V->Hp->Prop:=λx H1=>∃a,x=.ref a/\(∃xs,iF K H1 a xs)/\R (zu K a) H1
theorem aMm{R:It->Hp->Prop}(h:ta U H (EnQ K R)):P4 K ta U H R:=h
theorem aKK{R:It->Hp->Prop}(h:tl U H (LiQ K R)):Ql K tl U H R:=h
theorem aMn{R:It->Hp->Prop}(h:tl U H (TiQ K R)):PM K tl U H R:=h
theorem Fz{R:It->Hp->Prop}(h1:bP K H a xs)(h:R (Ed K a) H):EnQ K R [.ref a] H:=⟨a,rfl,⟨xs,h1⟩,h⟩
theorem eY{R:It->Hp->Prop}(h1:bP K H a xs)(h:R (xr K a) H):LiQ K R (.ref a) H:=⟨a,rfl,⟨xs,h1⟩,h⟩
theorem Zq{R:It->Hp->Prop}(h1:iF K H a xs)(h:R (zu K a) H):TiQ K R (.ref a) H:=⟨a,rfl,⟨xs,h1⟩,h⟩
theorem xO{xs:List V}(Pv:Nat->St->Hp->Prop)(h0:Pv 0 U H)(hl:∀i U H,i<=xs.length->Pv i U H->bP K H a xs)(hs:∀i x U H T,xs[i]?=some x->Pv i U H->H T=none->g (.ref T) U (upd H T (.tup [.int i,x])) λσ2 H2=>tb ⟨Pv (i+1),rt,nx,Pv (i+1)⟩ σ2 H2)(hd:∀U H,Pv xs.length U H->nx U H) :
  ∃W:Nat->Nat->St->Hp->Prop,(∃m,W 0 m U H)/\∀i m U H,W i m U H->
   ((Ed K a).stop i H/\nx U H)\/((Ed K a).go i H/\∃N:St->Hp->Prop,(∀U' H',N U' H'->∃m',m' < m/\W (i+1) m' U' H')/\∀x H',(Ed K a).tf i H x H'->g x U H' λσ2 H2=>tb ⟨N,rt,nx,N⟩ σ2 H2):=by
 refine⟨λi m U H=>m=xs.length - i/\i<=xs.length/\Pv i U H,⟨xs.length,by simp,nv _,h0⟩,?_⟩;rintro i m U H ⟨rfl,hi,p⟩;have q:=hl i U H hi p;by_cases fi:i < xs.length
 ·refine .inr ⟨⟨xs,xs[i],q,by simp[fi]⟩,Pv (i+1),λU' H' p'=>⟨xs.length - (i+1),by lia,rfl,fi,p'⟩,λx H' y=>?_⟩;obtain⟨T,v,hT,e1,e2,y⟩:=y;subst e1 e2;exact hs i v U H T (y xs q) p hT
 ·have e:i=xs.length:=by lia
  subst e;exact .inl ⟨⟨xs,q,eR _⟩,hd U H p⟩
end
section
variable{X:Cx}
theorem aDK:∀{bs:List Bool}{us:ah},Vals (bs.map V.bl) us->us=bs.map Value.bool
 |[],_,.nil=>rfl
 |b::bs,_,.cons r t=>by cases r;rw[aDK t];rfl
def Fp(K:W.Frag):List V->Hp->VK->Prop:=λxs H Q=>∃(p:Addr) (bs:List Bool),xs=[.ref p]/\bP K H p (bs.map V.bl)/\Q (.bl (bs.all id)) H
theorem xP(hc:X.calm=true):fK X (.builtin "all") (Fp X.K):=by
 intro pins s U H xs us Q I r h;obtain⟨p,bs,rfl,hq,q⟩:=h;obtain⟨u,rfl,rx⟩:=vals1 r;cases rx;obtain⟨its,r',pl,hz⟩:=I.list hq;have e:=aDK r';subst e;have hl:=pl.isList;have fi:p < s.heap.objs.size:=by obtain⟨_,e,_⟩:=id hl;exact jX e
 refine call_all_walk (wpAny_pyIter_list hl ?_);refine⟨s.heap.objs.size,[s.heap.objs.size,p],[s.heap.objs.size],(bs.map Value.bool).toArray.size,_,_,λi=>(bs[i]?).getD true,rfl,Walks.list (A:=X.A.in1) (I.ok.hd hc) _ p (rV fi) (bs.map Value.bool).toArray,
  ⟨⟨_,qI _ rfl,rfl,rfl⟩,hl.push _⟩,λi v s' Q' E' hP hQ=>?_,λh' tk hk=>?_⟩
 ·have GW:(bs.map Value.bool)[i]?=some v:=by simpa using hP
  rw[lB] at GW;cases hb:bs[i]? with
  |none=>rw[hb] at GW;cases GW
  |some b=>
   rw[hb] at GW;cases GW;simp only[hb,Option.getD_some] at hQ;exact wpAny_truthy_bool hQ
 ·have e:((List.range (bs.map Value.bool).toArray.size).all λi=>(bs[i]?).getD true)=bs.all id:=by
   rw[kB,bO];exact LSm.range_all bs
  rw[e];exact⟨.bl _,H,I.kept (t':=tk) (LSm.kept_iter hk),rfl,q⟩
end
section
variable{X:Cx}{o e:Expr}{to:TE}{t:TA}{apos bh:Pos}
theorem aQ3(ho:PE X o to)(ha:PA X [e] t)(hn:noStar e=true:=by rfl)(bu:attributeBase o "append" X.env (eval o X.env)=eval o X.env:=by rfl)(bt:(apos.endLine == bh.line)=true:=by rfl) :
  PE X (.Call (.Attribute o "append" apos) [e] [] bh) (BY X.K "list" Mt to t):=
 Qh PySem.F.plainAttrs_list PySem.F.slot_list_append PySem.F.type_list_append aKx ho ha bu (by rw[bU hn];rfl) bt (bU hn) (by rfl)
end
section
variable{K:W.Frag}{U:St}{H:Hp}{Q:VK}
theorem aSa{r:V->List V->Hp->VK->Prop}{t:TA}(h:to U H λx H1=>J5 K T x H1/\t U H1 λxs H2=>r x xs H2 Q):BY K T r to t U H Q:=h
theorem mW{P:Prop}(h:bP K H p xs)(q:P):J5 K "list" (.ref p) H/\P:=⟨.inl ⟨rfl,xs,h⟩,q⟩
theorem sE{xs:List V}(h:H l=some (.lst xs))(hz:xs.length < sizeLine)(q:Q .br (upd H l (.lst (xs ++ [y])))):Mt (.ref l) [y] H Q:=⟨l,xs,y,rfl,rfl,h,hz,q⟩
theorem aQ4:∀(xs ys:ae),(xs.length == ys.length && (List.range xs.length).all λj=>decide (xs[j]?=ys[j]?))=decide (xs=ys):=by
 intro xs ys;rw[Bool.eq_iff_iff];simp only[xp,beq_iff_eq,D7,zp,decide_eq_true_eq];constructor
 ·rintro ⟨hl,h⟩;apply List.ext_getElem?;intro i;by_cases hi:i < xs.length
  ·exact h i hi
  ·rw[CJ (by lia),CJ (by lia)]
 ·rintro rfl;exact⟨rfl,λ_ _=>rfl⟩
theorem Rm{n:Nat}{xs ys:ae}(h:(bP K H p (xs.map V.int)/\bP K H q (ys.map V.int))\/(iF K H p (xs.map V.int)/\iF K H q (ys.map V.int))):vd K H (n+1) (.ref p) (.ref q) (decide (xs=ys)):=by
 refine .inr ⟨p,q,xs.map V.int,ys.map V.int,λj=>decide (xs[j]?=ys[j]?),rfl,rfl,h,λj u v hu hv=>?_,?_⟩
 ·rw[lB] at hu hv;cases hx:xs[j]? with
  |none=>rw[hx] at hu;cases hu
  |some a=>
   cases hy:ys[j]? with
   |none=>rw[hy] at hv;cases hv
   |some b=>
    rw[hx] at hu;rw[hy] at hv;cases hu;cases hv;have z:mD (.int a)=true/\mD (.int b)=true/\(λj=>decide (xs[j]?=ys[j]?)) j=eqV (.int a) (.int b):=by
     refine⟨rfl,rfl,?_⟩;show decide (xs[j]?=ys[j]?)=decide (a=b);rw[hx,hy];simp
    cases n with
    |zero=>exact z
    |succ n=>exact .inl z
 ·rw[bO,bO];exact(aQ4 xs ys).symm
theorem QZ{xs ys:ae}(h1:bP K H p (xs.map V.int))(h2:bP K H q (ys.map V.int))(h:Q (.bl (decide (xs=ys))) H):iH K (.ref p) (.ref q) H Q:=⟨_,Rm (.inl ⟨h1,h2⟩),h⟩
end
section
variable{K:W.Frag}{U:St}{H:Hp}{Q:VK}{nx bk ct:St->Hp->Prop}{rt:VK}
theorem aSb{A B:Prop}(h:B):if (!true)=true then A else B:=LR h
theorem aSc{A B:Prop}(h:A):if (!false)=true then A else B:=LQ h
theorem aSd{A B:Prop}{b:Bool}(e:b=false)(h:B):if b=true then A else B:=by rw[e];exact LR h
theorem aSe{A B:Prop}{b:Bool}(e:b=true)(h:A):if b=true then A else B:=by rw[e];exact LQ h
theorem aOy{sp:Sp}(h:t U H λvs H1=>∀x dx,H1 x=none->H1 dx=none->dx≠x->sp (.ref x::vs) (upd (upd H1 dx (.own x)) x (.ins C dx [])) (λv H2=>v=.br/\Q (.ref x) H2) E):Hk C sp [] E t U H Q:=by
 unfold Hk;simpa only [ub] using h
theorem aOz{t:TA}(h:ta U H λx H1=>∃a dx fs,x=.ref a/\H1 a=some (.ins C dx fs)/\fs.lookup m=none/\t U H1 λvs H2=>sp (x::vs) H2 Q E):Ft C m sp [] E ta t U H Q:=by
 unfold Ft;simpa only [ub] using h
theorem aOA(h:tv U H λy H1=>ta U H1 λx H2=>∃a C dx fs,x=.ref a/\H2 a=some (.ins C dx fs)/\oi K C/\dQ K C f/\fs.length < 1000/\nx U (upd H2 a (.ins C dx (rZ f y fs)))):Pm K ta tv f ⟨nx,rt,bk,ct⟩ U H:=h
theorem iJ{fs:List (Str×V)}{P:Hp->Prop}(h1:H a=some (.ins C dx fs))(c:oi K C)(n:dQ K C f)(hl:fs.length < 1000)(e:rZ f y fs=fs')(h:P (upd H a (.ins C dx fs'))) :
  ∃a' C dx fs,V.ref a=V.ref a'/\H a'=some (.ins C dx fs)/\oi K C/\dQ K C f/\fs.length < 1000/\P (upd H a' (.ins C dx (rZ f y fs))):=⟨a,C,dx,fs,rfl,h1,c,n,hl,by rw[e];exact h⟩
theorem dM{fs:List (Str×V)}{P:V->Prop}(h1:H a=some (.ins C dx fs))(c:oi K C)(n:dQ K C f)(l:fs.lookup f=some v)(h:P v) :
  ∃a' C dx fs v,V.ref a=V.ref a'/\H a'=some (.ins C dx fs)/\oi K C/\dQ K C f/\fs.lookup f=some v/\P v:=⟨a,C,dx,fs,v,rfl,h1,c,n,l,h⟩
theorem aOB{a b:Addr}{xs ys:List V}(h1:iF K H a xs)(h2:iF K H b ys)(hx:xs≠[])(hy:ys≠[])(hz:xs.length+ys.length<=sizeLine)(h:∀p,H p=none->Q (.ref p) (upd H p (.tup (xs++ys)))):Qi K (.ref a) (.ref b) H Q:=
 ⟨a,b,xs,ys,rfl,rfl,h1,h2,hx,hz,λz=>absurd z hy,λ_=>h⟩
theorem aHz:∀{xs:List V},(∀x∈xs,x=.bl true)->xs=(List.replicate xs.length true).map V.bl
 |[],_=>rfl
 |x::xs,h=>by
  rw[qh,F7,yG,<-aHz (λy hy=>h y (md _ hy)),h x (pz ..)]
theorem HF(h1:bP K H p xs)(h2:∀x∈xs,x=.bl true)(h:Q (.bl true) H):Fp K [.ref p] H Q:=by
 refine⟨p,List.replicate xs.length true,rfl,?_,?_⟩
 ·rw[<-aHz h2];exact h1
 ·rw[show(List.replicate xs.length true).all id=true by simp];exact h
end
section
variable{X:Cx}{pins:ar}{U:St}{H:Hp}{s:Shared}{A:Around}{E:ak}{Q:ak}{b:Bool}
theorem aIS{its:ah}{nn:Nat}(I:Inv X pins U H s)(rx:RelV x u)(ty:uT X.K H x t)(zb:s.heap.get? tp=some ⟨.type "tuple",dd,.seq its.toArray nn,sl⟩)(e:PySem.W.kitAny X.K t its=some b)(h:∀tk,Q (.bool b) { s with toks:=tk }) :
  wpAny (model X.prog X.w) A (call (.builtin "isinstance") [u,.ref tp]) Q E s:=by
 cases ty with
 |br=>cases (show u=Value.none from rx);exact PySem.W.kia_tup PySem.W.kitx_none I.rX True.intro zb e (λz=>nomatch z) h
 |bl y=>cases (show u=Value.bool y from rx);exact PySem.W.kia_tup PySem.W.kitx_bool I.rX True.intro zb e (λz=>nomatch z) h
 |int i=>obtain⟨t,q⟩:=(show ∃t,u=Value.int i t from rx);cases q;exact PySem.W.kia_tup PySem.W.kitx_int I.rX True.intro zb e (λz=>nomatch z) h
 |str y=>obtain⟨t,q⟩:=(show ∃t,u=Value.str y t from rx);cases q;exact PySem.W.kia_tup PySem.W.kitx_str I.rX True.intro zb e (λz=>nomatch z) h
 |rj y=>obtain⟨t,q⟩:=(show ∃t,u=Value.float y t from rx);cases q;exact PySem.W.kia_tup PySem.W.kitx_float I.rX True.intro zb e (λz=>nomatch z) h
 |@lst a xs ea=>
  cases (show u=Value.ref a from rx);obtain⟨_,_,n,_,h1⟩:=(show bW X.prog X.w H s.heap a (.lst xs) from I.bc a _ ea)
  exact PySem.W.kia_tup PySem.W.kitx_list I.rX ⟨_,h1,rfl⟩ zb e (λz=>nomatch z) h
 |@cx a ob xs ea=>
  cases (show u=Value.ref a from rx);obtain⟨_,_,_,n,_,h1⟩:=(show bW X.prog X.w H s.heap a (.cx ob (.lst xs)) from I.bc a _ ea)
  exact PySem.W.kia_tup PySem.W.kitx_list I.rX ⟨_,h1,rfl⟩ zb e (λz=>nomatch z) h
 |@tup a xs ea=>
  cases (show u=Value.ref a from rx);obtain⟨_,_,_,p⟩:=(show bW X.prog X.w H s.heap a (.tup xs) from I.bc a _ ea)
  obtain⟨o,h1,h2,_⟩:=p;exact PySem.W.kia_tup PySem.W.kitx_tuple I.rX ⟨o,h1,h2⟩ zb e (λz=>nomatch z) h
 |@dK a kvs ea=>
  cases (show u=Value.ref a from rx);obtain⟨_,_,vs,_,p⟩:=(show bW X.prog X.w H s.heap a (.dK kvs) from I.bc a _ ea)
  obtain⟨o,es,ep,h1,h2,_⟩:=p;exact PySem.W.kia_tup PySem.W.kitx_dict I.rX ⟨o,h1,h2.1⟩ zb e (λz=>nomatch z) h
 |@dT a kvs ea=>
  cases (show u=Value.ref a from rx);obtain⟨_,_,xs,_,o,es,ep,h1,h2,_⟩:=(show bW X.prog X.w H s.heap a (.dT kvs) from I.bc a _ ea)
  exact PySem.W.kia_tup PySem.W.kitx_dict I.rX ⟨o,h1,h2.1⟩ zb e (λz=>nomatch z) h
 |@ins a C dx fs ea cl ha hn E1 hm=>
  cases (show u=Value.ref a from rx);obtain⟨mA,O,_⟩:=HG I.bc ea;obtain⟨od,J,_⟩:=O.look;exact PySem.W.kia_tup (PySem.W.kitx_own (cl.get _) cl.hd ha hn E1 hm) I.rX J zb e (λz=>nomatch z) h
end
section
variable{X:Cx}{K:W.Frag}{H:Hp}{Q:VK}
theorem aDM:∀{Ts:List String}{us:ah},Vals (Ts.map V.ty) us->us=Ts.map Value.type
 |[],_,.nil=>rfl
 |T::Ts,_,.cons r t=>by cases r;rw[aDM t];rfl
def P1(K:W.Frag):List V->Hp->VK->Prop:=λxs H Q=>∃(x:V) (p:Addr) (Ts:List String) (t:Value) (b:Bool),xs=[x,.ref p]/\H p=some (.tup (Ts.map V.ty))/\uT K H x t/\PySem.W.kitAny K t (Ts.map Value.type)=some b/\Q (.bl b) H
theorem aKM:fK X (.builtin "isinstance") (P1 X.K):=by
 intro pins s U H xs us Q I r h;obtain⟨x,p,Ts,t,b,rfl,hp,ty,e,q⟩:=h;obtain⟨u,w',rfl,rx,ry⟩:=vals2 r;cases ry;obtain⟨hz,its,rv,⟨o,ho,hc,n,hd⟩⟩:=(show bW X.prog X.w H s.heap p (.tup (Ts.map V.ty)) from I.bc p _ hp)
 have ei:=aDM rv;subst ei;obtain⟨oc,od,Ny,wy⟩:=o
 replace hc:oc=.type "tuple":=hc
 replace hd:Ny=.seq (Ts.map Value.type).toArray n:=hd
 subst hc hd;exact aIS I rx ty ho e λtk=>⟨.bl b,H,I.tok _,rfl,q⟩
theorem xQ{Ts:List String}{b:Bool}(hp:H p=some (.tup (Ts.map V.ty)))(ty:uT K H x t)(e:PySem.W.kitAny K t (Ts.map Value.type)=some b)(h:Q (.bl b) H):P1 K [x,.ref p] H Q:=⟨x,p,Ts,t,b,rfl,hp,ty,e,h⟩
def Kx:V->V->Option Bool
 |.br,.br=>some true
 |.bl a,.bl b=>some (a == b)
 |.bl _,.br=>some false
 |.int _,.br=>some false
 |.str _,.br=>some false
 |.ref _,.br=>some false
 |_,_=>none
def WE:R2:=λx y H Q=>∃b,Kx x y=some b/\Q (.bl b) H
def ZR:R2:=λx y H Q=>∃b,Kx x y=some b/\Q (.bl (!b)) H
theorem FJ:uM X (compareOp .Is) WE:=by
 intro pins s U H x y v u Q I rx ry h;obtain⟨b,e,q⟩:=h;have fin:EP X pins U Q (.bool b) s:=⟨.bl b,H,I,rfl,q⟩
 cases x with
 |br=>cases y with
  |br=>cases e;cases rx;cases ry;exact is_none_gen fin
  |_=>cases e
 |bl a=>cases y with
  |bl c=>cases e;cases rx;cases ry;exact is_bool fin
  |br=>cases e;cases rx;cases ry;exact is_none_gen fin
  |_=>cases e
 |int i=>cases y with
  |br=>cases e;obtain⟨t,rfl⟩:=rx;cases ry;exact is_none_gen fin
  |_=>cases e
 |str i=>cases y with
  |br=>cases e;obtain⟨t,rfl⟩:=rx;cases ry;exact is_none_gen fin
  |_=>cases e
 |ref i=>cases y with
  |br=>cases e;cases rx;cases ry;exact is_none_gen fin
  |_=>cases e
 |_=>cases y <;> cases e
theorem Rx:uM X (compareOp .IsNot) ZR:=by
 intro pins s U H x y v u Q I rx ry h;obtain⟨b,e,q⟩:=h;have fin:EP X pins U Q (.bool (!b)) s:=⟨.bl (!b),H,I,rfl,q⟩
 cases x with
 |br=>cases y with
  |br=>cases e;cases rx;cases ry;exact isnot_none_gen fin
  |_=>cases e
 |bl a=>cases y with
  |bl c=>cases e;cases rx;cases ry;exact isnot_bool fin
  |br=>cases e;cases rx;cases ry;exact isnot_none_gen fin
  |_=>cases e
 |int i=>cases y with
  |br=>cases e;obtain⟨t,rfl⟩:=rx;cases ry;exact isnot_none_gen fin
  |_=>cases e
 |str i=>cases y with
  |br=>cases e;obtain⟨t,rfl⟩:=rx;cases ry;exact isnot_none_gen fin
  |_=>cases e
 |ref i=>cases y with
  |br=>cases e;cases rx;cases ry;exact isnot_none_gen fin
  |_=>cases e
 |_=>cases y <;> cases e
theorem aSf{b:Bool}(e:Kx x y=some b)(h:Q (.bl b) H):WE x y H Q:=⟨b,e,h⟩
theorem aMq{b:Bool}(e:Kx x y=some b)(h:Q (.bl (!b)) H):ZR x y H Q:=⟨b,e,h⟩
end
section
variable{X:Cx}
def Hb(K:W.Frag):List V->Hp->VK->Prop:=λxs H Q=>∃(p:Addr) (ns:ae),xs=[.ref p]/\bP K H p (ns.map V.int)/\Q (.int (List.sum ns)) H
theorem Rw(hc:X.calm=true):fK X (.builtin "sum") (Hb X.K):=by
 intro pins s U H xs us Q I r h;obtain⟨p,ns,rfl,hq,q⟩:=h;obtain⟨u,rfl,rx⟩:=vals1 r;cases rx;obtain⟨its,r',pl,hz⟩:=I.list hq;have hi:=intsAre_of r';obtain⟨xs,hx⟩:=hi.allInts.items;have Ov:s.heap.IsList p (intItems xs):=hx▸pl.isList;refine sum_intListG (I.ok.hd hc) Ov λh' tk t' hk=>?_;have e1:ns=xs.toList.map (·.1):=by
  rw[<-nums_intItems,<-hx];exact(show numsOf its.toArray.toList=ns from hi.numsOf).symm
 have e2:preSum (numAt xs) xs.size=ns.sum:=by
  rw[preSum_eq,A0 (by simp),e1]
 rw[e2];exact⟨.int _,H,I.kept (t':=tk) hk,⟨t',rfl⟩,q⟩
theorem QL{K:W.Frag}{H:Hp}{Q:VK}{p:Addr}{ns:ae}(h1:bP K H p (ns.map V.int))(h:Q (.int (List.sum ns)) H):Hb K [.ref p] H Q:=⟨p,ns,rfl,h1,h⟩
def Pr:List V->Hp->VK->Prop:=λxs H Q=>∃i j:Int,xs=[.int i,.int j]/\∀p,H p=none->Q (.ref p) (upd H p (.Au i j))
theorem aKN:fK X (.type "range") Pr:=by
 intro pins s U H xs us Q I r h;obtain⟨i,j,rfl,q⟩:=h;obtain⟨u,w',rfl,rx,ry⟩:=vals2 r;obtain⟨t,rfl⟩:=rx;obtain⟨t',rfl⟩:=ry;refine call_range_2 ?_;exact⟨.ref s.heap.objs.size,_,I.laid (t':=s.toks+1) (o:=.Au i j) (λb ob q=>fR _ q) (eR _) ⟨_,_,_,qI _ rfl⟩,rfl,q _ (I.bc.fresh (eR _))⟩
theorem aQ6{H:Hp}{Q:VK}{i j:Int}(h:∀p,H p=none->Q (.ref p) (upd H p (.Au i j))):Pr [.int i,.int j] H Q:=⟨i,j,rfl,h⟩
def qe(lo:Int)(n:Nat):ae:=(List.range n).map λ(k:Nat)=>lo+(k:Int)
def QK:List V->Hp->VK->Prop:=λxs H Q=>∃(p:Addr) (lo hi:Int),xs=[.ref p]/\H p=some (.Au lo hi)/\-(2 ^ 62)<=lo/\lo < 2 ^ 62/\-(2 ^ 62)<=hi/\hi < 2 ^ 62/\(hi - lo).toNat<=2 ^ 24/\
 ∀l,H l=none->Q (.ref l) (upd H l (.lst ((qe lo (hi - lo).toNat).map V.int)))
theorem aIV{a:Int}:∀(n:Nat) (its:ah),its.length=n->(∀(i:Nat) v,its[i]?=some v->∃t,v=Value.int (a+(i:Int)) t)->Vals ((qe a n).map V.int) its:=by
 intro n;induction n generalizing a with
 |zero=>
  intro its hl _;rw[RV.mp hl];exact .nil
 |succ n ih=>
  intro its hl h;cases its with
  |nil=>cases hl
  |cons v its=>
   have e:qe a (n+1)=a::qe (a+1) n:=by
    unfold qe;rw[List.range_succ_eq_map,yG,qg];congr 1
    ·simp
    ·apply MO;intro k _;show a+((k+1:Nat):Int)=a+1+(k:Int)
     push_cast;lia
   rw[e,yG];obtain⟨t,ht⟩:=h 0 v rfl;refine .cons ⟨t,by rw[ht];simp⟩ (ih its (by simpa using hl) λi w hw=>?_);obtain⟨t',GF⟩:=h (i+1) w (by simpa using hw);exact⟨t',by rw[GF];congr 1;push_cast;lia⟩
theorem aIW(hc:X.calm=true):fK X (.type "list") QK:=by
 intro pins s U H xs us Q I r h;obtain⟨p,lo,hi,rfl,hp,b1,b2,b3,b4,hz,q⟩:=h;obtain⟨u,rfl,rx⟩:=vals1 r;cases rx;obtain⟨t,t',t'',hr⟩:=(show bW X.prog X.w H s.heap p (.Au lo hi) from I.bc p _ hp)
 refine call_list_range (n:=(hi - lo).toNat) (I.ok.hd hc) hr (small_one b1 b2 b3 b4) (by rw[rangeSize_one];split <;> lia) hz λh' tk ft c' hk hS ha=>?_;have hv:Vals ((qe lo (hi - lo).toNat).map V.int) ft.toList:=aIV _ _ (by simpa using ha.1) λi v hv=>by
  obtain⟨t,ht⟩:=ha.2 i v (by simpa using hv);exact⟨t,by rw[ht,CF]⟩
 have hl:((qe lo (hi - lo).toNat).map V.int).length<=sizeLine:=by
  unfold qe;rw[bO,bO,MH];exact cA hz
 exact⟨.ref s.heap.objs.size,_,I.laid (t':=tk) (o:=.lst ((qe lo (hi - lo).toNat).map V.int)) hk (eR _) ⟨hl,ft.toList,c',hv,hS⟩,rfl,q _ (I.bc.fresh (eR _))⟩
theorem aMs{H:Hp}{Q:VK}{p:Addr}{lo hi:Int}(hp:H p=some (.Au lo hi))(h1:-(2 ^ 62)<=lo/\lo < 2 ^ 62/\-(2 ^ 62)<=hi/\hi < 2 ^ 62)(hz:(hi - lo).toNat<=2 ^ 24)(h:∀l,H l=none->Q (.ref l) (upd H l (.lst ((qe lo (hi - lo).toNat).map V.int)))):QK [.ref p] H Q:=
 ⟨p,lo,hi,rfl,hp,h1.1,h1.2.1,h1.2.2.1,h1.2.2.2,hz,h⟩
end
section
variable{X:Cx}{pins:ar}{U:St}{H:Hp}{s:Shared}{h':Heap}
theorem Inv.aKO{t':Nat}{ch:ao}(I:Inv X pins U H s)(k:∀b u,b∉ch->s.heap.get? b=some u->h'.get? b=some u)
  (si:∀b∈ch,wa X pins H b):Inv X pins U H { s with heap:=h',toks:=t' }:=by
 have B7:∀b u,H b=some u->b∉ch:=λb u e z=>by rw[(si b z).1] at e;cases e
 refine I.step (g':=s.gens) (d':=s.drawn) (ch:=ch) (λb hb=>?_) (λb u _ _ hc e _=>k b u hc e) (λb u _ _ hc e _=>⟨u.slots,k b u hc e⟩) (λb u hc e n=>n)
  (λb u hc e=>⟨u,k b u hc e⟩) (λb xs e=>e) (λb u v e=>e) (λb ps e=>⟨#[],by rw[e];simp⟩) (λm hm=>?_) (λb u e=>?_) I.bare
 ·obtain⟨f0,f1,f2,f3,f4,f5⟩:=si b hb;exact⟨f3,f1,f4,f5⟩
 ·obtain⟨u,es,ep,ho,r⟩:=hm;exact⟨u,es,ep,k _ u (λz=>(si _ z).2.1 rfl) ho,r⟩
 ·refine(I.bc b u e).oI (λc v hc q=>k c v ?_ q) (λc q=>q) λc xs _ q=>q;rcases hc with z|z
  ·rw[z];exact B7 b u e
  ·exact B7 c _ z
end
section
variable{X:Cx}{elts:List Expr}{x1:Nat}{tp:Pos}
theorem ZQ:bootBuiltins "zip" = some (.type "zip"):=by decide +kernel
end
section
variable{X:Cx}{e:Expr}{te:TE}
theorem aJM{K:W.Frag}{H:Hp}{p q a b c d:Addr}{xs ys:ae}(h1:H p=some (.lst [.ref a,.ref b]))(h2:H q=some (.lst [.ref c,.ref d]))(ha:H a=some (.lst (xs.map V.int)))(hc:H c=some (.lst (xs.map V.int)))
  (hb:H b=some (.lst (ys.map V.int))) (hd:H d=some (.lst (ys.map V.int))):vd K H 8 (.ref p) (.ref q) true:=by
 refine .inr ⟨p,q,[.ref a,.ref b],[.ref c,.ref d],λ_=>true,rfl,rfl,.inl ⟨bP.of h1,bP.of h2⟩,λj u v hu hv=>?_,rfl⟩
 match j,hu,hv with
 |0,hu,hv=>
  cases hu;cases hv;have z:=Rm (K:=K) (n:=6) (.inl ⟨bP.of ha,bP.of hc⟩)
  rwa[mv rfl] at z
 |1,hu,hv=>
  cases hu;cases hv;have z:=Rm (K:=K) (n:=6) (.inl ⟨bP.of hb,bP.of hd⟩)
  rwa[mv rfl] at z
 |_+2,hu,hv=>simp at hu
end
end L2
namespace L2.Z
open PySem PySem.Spec PyProof.Rows L2
structure QE(X:Cx)(e:Expr)(t:TE):Prop where
 h:PE X e t
structure QT(X:Cx)(e:Expr)(t:TT):Prop where
 h:PT X e t
structure QW(X:Cx)(e:Expr)(t:TT):Prop where
 h:PW X e t
structure QA(X:Cx)(es:List Expr)(t:TA):Prop where
 h:PA X es t
structure QS(X:Cx)(st:Stmt)(t:TS):Prop where
 h:PS X st t
structure zt(X:Cx)(st:List Stmt)(t:TS):Prop where
 h:uu X st t
structure QG(X:Cx)(tg:Expr)(g:TG):Prop where
 h:PG X tg g
structure M3(X:Cx)(tg:List Expr)(g:zm):Prop where
 h:Ig X tg g
structure QI(X:Cx)(tg it:Expr)(w:TI):Prop where
 h:PI X tg it w
structure MZ(X:Cx)(ifs:List Expr)(t:TT):Prop where
 h:F9 X ifs t
structure QO(X:Cx)(o:Option Expr)(t:TO):Prop where
 h:PO X o t
section
variable{X:Cx}{CX:wo}{k:Nat}{f C:Addr}{fd:FuncData}{ps:aj}{sp:Sp}{ie:List V}{ds:ah}{E:XK}{x m:Str}{p pos apos p2 vf:Pos}{a b c e o:Expr}{es rest:List Expr}{ta tb tc te to ti:TE}{t:TA}{tA tB tt:TT}{id T:String}{r r':R2}{rc:List V->Hp->VK->Prop}{st:Stmt}{wx Iv:List Stmt}{ts us:TS}{g:TG}{gs:zm}{wi:TI}{tg iter:Expr}
theorem eJ{e:Expr}{t:TT}(q:QW X e t):QT X e t:=⟨q.h.pt⟩
theorem aB(i:Nat)(hN:X.N[i]?=some x:=by rfl)(hv:DZ X.env.scope x:=by first|exact Or.inl rfl|exact Or.inr (Or.inl rfl)|exact Or.inr (Or.inr rfl))(hd:(x == ("__debug__" : Str))=false:=by decide)
  (oh:(x == ("__classdict__" : Str))=false:=by decide):QE X (.Name x pos) (PH i):=⟨Z2 hN hv hd oh⟩
theorem aD{i j}:QE X (.Constant (.int i) j pos) (tC (.int i)):=⟨L2.aPH⟩
theorem fM{b j}:QE X (.Constant (.bool b) j pos) (tC (.bl b)):=⟨L2.aRB⟩
theorem fD{j}:QE X (.Constant .none j pos) (tC .br):=⟨L2.aPI⟩
theorem aDN{v:V}{u:Value}(hg:Gl X x)(hm:X.mg x=some u)(r:RelV v u)(hd:(x == ("__debug__" : Str))=false:=by decide):QE X (.Name x pos) (tC v):=⟨L2.aJE hg hm r hd⟩
theorem sF{n:Int}(hg:Gl X x)(hm:∃t,X.mg x=some (.int n t))(hd:(x == ("__debug__" : Str))=false:=by decide):QE X (.Name x pos) (tC (.int n)):=⟨L2.aOt hg hm hd⟩
theorem cM(hg:Gl X x)(hm:X.mg x=none)(hv:bootBuiltins x=some u)(r:RelV v u)(hn:x≠"__name__":=by decide)(hd:(x == ("__debug__" : Str))=false:=by decide):QE X (.Name x pos) (tC v):=⟨L2.aNz hg hm hv r hn hd⟩
theorem aL(ho:uM X (binaryOp op) r)(ha:QE X a ta)(hb:QE X b tb):QE X (.BinOp a op b pos) (A3 r ta tb):=⟨L2.aRF ho ha.h hb.h⟩
theorem mG{ru:V->Hp->VK->Prop}(ho:MJ X (unaryOp op) ru)(ha:QE X a ta):QE X (.UnaryOp op a pos) (Nf ru ta):=⟨L2.aRG ho ha.h⟩
theorem aKP(ha:QE X a ta):QE X (.UnaryOp .Not a pos) (Qd ta):=⟨L2.aPS ha.h⟩
theorem fE{op}(h:QE X a ta):QE X (.BoolOp op [a] pos) ta:=⟨L2.aPQ h.h⟩
theorem fF(ha:QE X a ta)(hb:QE X (.BoolOp .And (b::rest) pos) tb):QE X (.BoolOp .And (a::b::rest) pos) (Qe ta tb):=⟨L2.aPR ha.h hb.h⟩
theorem aHA(ha:QE X a ta)(hb:QE X (.BoolOp .Or (b::rest) pos) tb):QE X (.BoolOp .Or (a::b::rest) pos) (PC ta tb):=⟨L2.aRD ha.h hb.h⟩
theorem uZ(hc:QT X c tA)(ha:QE X a ta)(hb:QE X b tb):QE X (.IfExp c a b pos) (Ni tA ta tb):=⟨L2.aLp hc.h ha.h hb.h⟩
theorem dB(ho:uM X (compareOp op) r)(ha:QE X a ta)(hb:QE X b tb)(hm:behindInMarks op b=false):QE X (.Compare a [op] [b] pos) (A3 r ta tb):=⟨L2.aNM ho ha.h hb.h hm⟩
theorem aW(ho:uM X (compareOp op) r)(ha:QE X a ta)(hb:QE X b tb)(hm:behindInMarks op b=false):QT X (.Compare a [op] [b] pos) (Qk (A3 r ta tb)):=⟨L2.aNN ho ha.h hb.h hm⟩
theorem u9(ho:uM X (compareOp op) r)(zd:uM X (compareOp Gu) r')(ha:QE X a ta)(hb:QE X b tb)(hc:QE X c tc)(hm:lastMarks [op,Gu] [b,c]=false:=by with_unfolding_all rfl):QE X (.Compare a [op,Gu] [b,c] pos) (QF r r' ta tb tc):=⟨L2.aLH ho zd ha.h hb.h hc.h hm⟩
theorem cN(h:QE X e te)(he:∀whole,isTrue e X.env whole=(do let v <-whole;standAt e.pos;holding [v] (truthy v)):=by intro _;rfl):QT X e (L2.tB te):=⟨L2.aPJ h.h he⟩
theorem eF(ha:QT X a tA):QT X (.UnaryOp .Not a pos) (PD tA):=⟨L2.aPO ha.h⟩
theorem gH(ha:QT X a tA):QW X (.BoolOp .And [a] pos) tA:=⟨L2.aNA ha.h⟩
theorem jY(ha:QT X a tA):QW X (.BoolOp .Or [a] pos) tA:=⟨L2.aPM ha.h⟩
theorem hJ(ha:QT X a tA)(hb:QW X (.BoolOp .And (b::rest) pos) tB):QW X (.BoolOp .And (a::b::rest) pos) (PF tA tB):=⟨L2.aPN ha.h hb.h⟩
theorem jH(ha:QT X a tA)(hb:QW X (.BoolOp .Or (b::rest) pos) tB):QW X (.BoolOp .Or (a::b::rest) pos) (Nh tA tB):=⟨L2.aRC ha.h hb.h⟩
theorem aC:QA X [] mU:=⟨L2.qK⟩
theorem aA(ha:QE X e te)(hr:QA X es t)(hs:noStar e=true:=by rfl):QA X (e::es) (bY te t):=⟨L2.kG ha.h hr.h hs⟩
theorem aF(F:bT X.prog X.w X.K X.mg X.base CX k f fd ps sp)(hr:fL k X.A)(hg:Gl X x)(hm:X.mg x=some (.ref f))(hk:W.keepIn X.K (.ref f)=true)(hb:Binds X.K fd ps ds)(hd:Vals ie ds)(hx:Passes CX X E)
  (ha:QA X (e::es) t) (hn:(e::es).all noStar=true:=by rfl) (jz:(x == ("__debug__" : Str))=false:=by decide):QE X (.Call (.Name x p) (e::es) [] pos) (Fs sp ie E t):=⟨L2.aMj F hr hg hm hk hb hd hx ha.h hn jz⟩
theorem bg{j:Nat}{st:Stmt}(F:bT X.prog X.w X.K X.mg X.base fS k f fd ps sp)(hr:fL j X.A)(Y:FG X.K X.mg x st f fd ps)(ha:QA X (e::es) t)(hj:k<=j:=by decide)(hg:Gl X x:=by rfl)(hn:(e::es).all noStar=true:=by rfl)(jz:(x == ("__debug__" : Str))=false:=by decide):QE X (.Call (.Name x p) (e::es) [] pos) (Fs sp [] E0 t):=aF F (hr.mono hj) hg Y.g Y.F.kp Y.b .nil aT ha hn jz
theorem mH(M:Mk X.K C f)(F:bT X.prog X.w X.K X.mg X.base CX k f fd ps sp)(hr:fL (k+1) X.A)(hg:Gl X x)(hm:X.mg x=some (.ref C))(hb:Binds X.K fd ps ds)(hd:Vals ie ds)(hx:Passes CX X E)
  (ha:QA X (e::es) t) (hn:(e::es).all noStar=true:=by rfl) (jz:(x == ("__debug__" : Str))=false:=by decide):QE X (.Call (.Name x p) (e::es) [] pos) (Hk C sp ie E t):=⟨L2.aMk M F hr hg hm hb hd hx ha.h hn jz⟩
theorem aN(hc:fK X (.builtin id) rc)(hg:Gl X x)(hm:X.mg x=none)(hv:bootBuiltins x=some (.builtin id))(ha:QA X (e::es) t)(hn:(e::es).all noStar=true:=by rfl)(cj:x≠"__name__":=by decide)(jz:(x == ("__debug__" : Str))=false:=by decide) :
  QE X (.Call (.Name x p) (e::es) [] pos) (Dc rc t):=⟨L2.aKI hc hg hm hv ha.h hn cj jz⟩
theorem bV(hc:fK X (.type T) rc)(hg:Gl X x)(hm:X.mg x=none)(hv:bootBuiltins x=some (.type T))(ha:QA X (e::es) t)(hn:(e::es).all noStar=true:=by rfl)(cj:x≠"__name__":=by decide)(jz:(x == ("__debug__" : Str))=false:=by decide) :
  QE X (.Call (.Name x p) (e::es) [] pos) (Dc rc t):=⟨L2.aIP hc hg hm hv ha.h hn cj jz⟩
theorem lE:QO X none Q4:=⟨L2.aNV⟩
theorem lF(h:QE X e te):QO X (some e) (Qj te):=⟨L2.aNW h.h⟩
theorem jZ{rs:V->Option Int->Option Int->Hp->VK->Prop}{lo hi:Option Expr}{tl th:TO}(hr:Bv X rs)(he:QE X e te)(hl:QO X lo tl)(hu:QO X hi th):QE X (.Subscript e (.Slice lo hi none p2) pos) (Ng rs te tl th):=⟨L2.aLS hr he.h hl.h hu.h⟩
theorem j0(h:QA X es t):QE X (.List es pos) (zS t):=⟨L2.zT h.h⟩
theorem cO(hg:Gl X "range")(hm:X.mg "range" = none)(ha:QA X [a] t)(hn:noStar a=true:=by rfl):QI X tg (.Call (.Name "range" p) [a] [] pos) (LY t):=⟨L2.aIQ hg hm ha.h hn⟩
theorem aEZ(hg:Gl X "range")(hm:X.mg "range" = none)(ha:QA X [a,b] t)(hn:noStar a=true:=by rfl)(tq:noStar b=true:=by rfl):QI X tg (.Call (.Name "range" p) [a,b] [] pos) (LX t):=⟨L2.aIR hg hm ha.h hn tq⟩
theorem aK{i:Nat}(hN:X.N.Nodup)(hi:X.N[i]?=some x:=by rfl)(hx:Loc X.env.scope x:=by exact Or.inl rfl)(hf:X.fn x=true\/X.env.scope.names.lookup x=some .local:=by first|exact .inl rfl|exact .inr rfl|assumption):QG X (.Name x pos) (uR i):=⟨L2.aNE hN hi hx hf⟩
theorem bR:M3 X [] LO:=⟨L2.aNG⟩
theorem aR{e:Expr}{es:List Expr}{t:TG}{u:zm}(h1:QG X e t)(h2:M3 X es u)(hs:(assignEach (e::es) X.env).map (·.2)=assign e X.env::(assignEach es X.env).map (·.2):=by rfl):M3 X (e::es) (L3 t u):=⟨L2.aLy h1.h h2.h hs⟩
theorem oF(ho:QE X o to)(hi:QE X i ti)(hs:Hd X sd)(ha:∀v,assign (.Subscript o i pos) X.env v=(do
   let ov <-holding [v] (eval o X.env)
   let iv <-holding [v,ov] (eval i X.env)
   standAt pos
   holding [v,ov,iv] (setItem ov iv v)
   release [v,ov,iv] []):=by intro _;rfl):QG X (.Subscript o i pos) (Pu to ti sd):=⟨L2.aPZ ho.h hi.h hs ha⟩
theorem bH:MZ X [] Pj:=⟨L2.aN7⟩
theorem aDO(h:QT X c tt):MZ X [c] tt:=⟨L2.aN8 h.h⟩
theorem aZ(q:zt X wx ts)(h:ts D U H):∃t,uu X wx t/\t D U H:=⟨ts,q.h,h⟩
theorem imp{Nd:TS}(q:zt X wx ts)(h:∀D U H,Nd D U H->ts D U H):zt X wx Nd:=⟨λpins s U H D I z=>q.h pins s U H D I (h D U H z)⟩
theorem bA:zt X [] Qc:=⟨L2.aNB⟩
theorem aE(h1:QS X st ts)(h2:zt X wx us):zt X (st::wx) (He ts us):=⟨L2.aLs h1.h h2.h⟩
theorem aG(h1:QS X st ts):zt X [st] ts:=⟨L2.aNC h1.h⟩
theorem aHB:QS X (.Break pos) QJ:=⟨L2.aLt⟩
theorem mI:QS X st Z1:=⟨L2.aLw⟩
theorem eZ(he:QE X e te)(hs:swapsWith e none pos.line X.env=pure false:=by rfl):QS X (.Expr e pos) (Qb te):=⟨L2.aND he.h hs⟩
theorem aM(he:QE X e te):QS X (.Return (some e) pos) (PB te):=⟨L2.aPU he.h⟩
theorem bB(hc:QT X c tt)(ha:zt X wx ts)(hb:zt X Iv us):QS X (.If c wx Iv pos) (Py tt ts us):=⟨L2.aRE hc.h ha.h hb.h⟩
theorem oG{i:Nat}(hN:X.N.Nodup)(hi:X.N[i]?=some x)(hx:Loc X.env.scope x)(he:QE X e te)(hs:swapsWith e (some (.Name x pos')) pos.line X.env=pure false:=by rfl)(hf:X.fn x=true\/X.env.scope.names.lookup x=some .local:=by first|exact .inl rfl|exact .inr rfl|assumption) :
  QS X (.Assign [.Name x pos'] e pos) (Ct te (uR i)):=⟨L2.aP1 hN hi hx he.h hs hf⟩
theorem aI{i:Nat}(hN:X.N.Nodup)(he:QE X e te)(hi:X.N[i]?=some x:=by rfl)(hx:Loc X.env.scope x:=by exact Or.inl rfl)(hs:swapsWith e (some (.Name x pos')) pos.line X.env=pure false:=by rfl)(hf:X.fn x=true\/X.env.scope.names.lookup x=some .local:=by first|exact .inl rfl|exact .inr rfl|assumption) :
  QS X (.Assign [.Name x pos'] e pos) (Ct te (uR i)):=oG hN hi hx he hs hf
theorem lG(he:QE X e te)(hg:QG X tg g)(hs:swapsWithSole [tg] e pos.line X.env=pure false:=by rfl)(hw:swappedStores [tg] e X.env=pure none:=by rfl)
  (h1:(assignEach [tg] X.env).map (·.2)=[assign tg X.env]:=by rfl):QS X (.Assign [tg] e pos) (Ct te g):=⟨L2.aP0 he.h hg.h hs hw h1⟩
theorem oH{i:Nat}(hN:X.N.Nodup)(hi:X.N[i]?=some x)(hx:Loc X.env.scope x)(he:QE X e te)(ho:Ga X op A2)(hf:X.fn x=true\/X.env.scope.names.lookup x=some .local:=by first|exact .inl rfl|exact .inr rfl|assumption) :
  QS X (.AugAssign (.Name x pos') op e pos) (PQ i te A2):=⟨L2.aP5 hN hi hx he.h ho hf⟩
theorem aIX{qb:V->V->Hp->VK->Prop}(ho:QE X o to)(hi:QE X i ti)(hg:PN X qb)(he:QE X e te)(hp:Ga X op A2)(hs:Hd X sd)(ha:∀ov iv new,augStore i ov iv new=(do holding [new,ov,iv] (setItem ov iv new);release [new,ov,iv] [];pure .next):=by intros;rfl):QS X (.AugAssign (.Subscript o i Ef) op e pos) (Qa to ti te qb A2 sd):=⟨L2.aNI ho.h hi.h hg he.h hp hs ha⟩
theorem bN(hp:PassesOwn (model X.prog X.w) X.A X.env X.xe)(hc:X.calm=true)(hi:QI X tg iter wi)(hg:QG X tg g)(hb:zt X wx ts)
  (hs:∀x,foldedSetIterable iter X.env x=pure x:=by intro _;rfl):QS X (.For tg iter wx [] pos) (PL wi g ts):=⟨L2.aQa hp hc hi.h hg.h hb.h hs⟩
variable{scope:Scope}{elt target:Expr}{ifs:List Expr}{N:aj}
theorem cG{k:Nat}{idx:List Nat}(S:fX X scope N k idx)(hc:X.calm=true)(hi:QI X target iter wi)(hg:∀fp C s H,QG (xi X scope N fp C s H) target g)(ho:Own k g)(ht:∀fp C s H,MZ (xi X scope N fp C s H) ifs tt)(he:∀fp C s H,QE (xi X scope N fp C s H) elt te)(hs:∀x,foldedSetIterable iter X.env x=pure x:=by intro _;rfl):QE X (.ListComp elt [⟨target,iter,ifs,0⟩] scope pos) (Hj wi k idx g tt te):=
 ⟨L2.aOa k idx S hc hi.h (λfp C s H=>(hg fp C s H).h) ho (λfp C s H=>(ht fp C s H).h) (λfp C s H=>(he fp C s H).h) hs⟩
theorem eO{k:Nat}{idx:List Nat}{i:Nat}(hN:X.N.Nodup)(KO:X.N[i]?=some x)(hx:Loc X.env.scope x)(S:fX X scope N k idx)(hc:X.calm=true)(hi:QI X target iter wi)(hg:∀fp C s H,QG (xi X scope N fp C s H) target g)(ho:Own k g)(ht:∀fp C s H,MZ (xi X scope N fp C s H) ifs tt)(he:∀fp C s H,QE (xi X scope N fp C s H) elt te)(Oc:swapsWith (.ListComp elt [⟨target,iter,ifs,0⟩] scope pos) (some (.Name x pos')) vf.line X.env=pure true:=by rfl)(hs:∀x,foldedSetIterable iter X.env x=pure x:=by intro _;rfl)(ze:X.fn x=true\/X.env.scope.names.lookup x=some .local:=by first|exact .inl rfl|exact .inr rfl|assumption) :
  QS X (.Assign [.Name x pos'] (.ListComp elt [⟨target,iter,ifs,0⟩] scope pos) vf) (Ct (Hj wi k idx g tt te) (uR i)):=
 ⟨L2.aOb k idx hN KO hx S hc hi.h (λfp C s H=>(hg fp C s H).h) ho (λfp C s H=>(ht fp C s H).h) (λfp C s H=>(he fp C s H).h) Oc hs ze⟩
variable{x1:Nat}{e1 e2 e3 e4 e5 e6 e7 e8:Expr}{t1 t2 t3 t4 t5 t6 t7 t8:TE}
theorem pR(h1:QE X e1 t1)(n1:noStar e1=true:=by rfl):QE X (.List [e1] pos) (zS (bY t1 mU)):=⟨L2.aSD h1.h n1⟩
theorem aOC{k1}(h1:QE X e1 t1)(n1:noStar e1=true:=by rfl):QE X (.Tuple [e1] k1 pos) (Cs (bY t1 mU)):=⟨L2.aSE h1.h n1⟩
theorem nR(h1:QE X e1 t1)(h2:QE X e2 t2)(n1:noStar e1=true:=by rfl)(n2:noStar e2=true:=by rfl):QE X (.List [e1,e2] pos) (zS (bY t1 (bY t2 mU))):=⟨L2.aSF h1.h h2.h n1 n2⟩
theorem fN{k1}(h1:QE X e1 t1)(h2:QE X e2 t2)(n1:noStar e1=true:=by rfl)(n2:noStar e2=true:=by rfl):QE X (.Tuple [e1,e2] k1 pos) (Cs (bY t1 (bY t2 mU))):=⟨L2.aSG h1.h h2.h n1 n2⟩
theorem xR(h1:QE X e1 t1)(h2:QE X e2 t2)(h3:QE X e3 t3)(n1:noStar e1=true:=by rfl)(n2:noStar e2=true:=by rfl)(n3:noStar e3=true:=by rfl):QE X (.List [e1,e2,e3] pos) (zS (bY t1 (bY t2 (bY t3 mU)))):=⟨L2.aSH h1.h h2.h h3.h n1 n2 n3⟩
theorem kH{k1}(h1:QE X e1 t1)(h2:QE X e2 t2)(h3:QE X e3 t3)(n1:noStar e1=true:=by rfl)(n2:noStar e2=true:=by rfl)(n3:noStar e3=true:=by rfl):QE X (.Tuple [e1,e2,e3] k1 pos) (Cs (bY t1 (bY t2 (bY t3 mU)))):=⟨L2.aSI h1.h h2.h h3.h n1 n2 n3⟩
theorem aOD(h1:QE X e1 t1)(h2:QE X e2 t2)(h3:QE X e3 t3)(h4:QE X e4 t4)(n1:noStar e1=true:=by rfl)(n2:noStar e2=true:=by rfl)(n3:noStar e3=true:=by rfl)(n4:noStar e4=true:=by rfl):QE X (.List [e1,e2,e3,e4] pos) (zS (bY t1 (bY t2 (bY t3 (bY t4 mU))))):=⟨L2.aSJ h1.h h2.h h3.h h4.h n1 n2 n3 n4⟩
theorem aJN(h1:QE X e1 t1)(h2:QE X e2 t2)(h3:QE X e3 t3)(h4:QE X e4 t4)(h5:QE X e5 t5)(n1:noStar e1=true:=by rfl)(n2:noStar e2=true:=by rfl)(n3:noStar e3=true:=by rfl)(n4:noStar e4=true:=by rfl)(n5:noStar e5=true:=by rfl):QE X (.List [e1,e2,e3,e4,e5] pos) (zS (bY t1 (bY t2 (bY t3 (bY t4 (bY t5 mU)))))):=⟨L2.aSK h1.h h2.h h3.h h4.h h5.h n1 n2 n3 n4 n5⟩
theorem aOE(h1:QE X e1 t1)(h2:QE X e2 t2)(h3:QE X e3 t3)(h4:QE X e4 t4)(h5:QE X e5 t5)(h6:QE X e6 t6)(h7:QE X e7 t7)(n1:noStar e1=true:=by rfl)(n2:noStar e2=true:=by rfl)(n3:noStar e3=true:=by rfl)(n4:noStar e4=true:=by rfl)(n5:noStar e5=true:=by rfl)(n6:noStar e6=true:=by rfl)(n7:noStar e7=true:=by rfl):QE X (.List [e1,e2,e3,e4,e5,e6,e7] pos) (zS (bY t1 (bY t2 (bY t3 (bY t4 (bY t5 (bY t6 (bY t7 mU)))))))):=⟨L2.aSL h1.h h2.h h3.h h4.h h5.h h6.h h7.h n1 n2 n3 n4 n5 n6 n7⟩
end
section
variable{X:Cx}{CX:wo}{k:Nat}{f C:Addr}{fd:FuncData}{ps:aj}{sp:Sp}{ie:List V}{ds:ah}{E:XK}{x m:Str}{p pos apos p2 vf bh tp:Pos}{a b c e o st:Expr}{es rest elts:List Expr}{ta tb tc te to ti:TE}{t:TA}{x1:Nat}{ts:TO}
theorem iK{pl:Sem Bool}(he:QE X o ta)(c:oi X.K C)(hm:Meth X.K C m f)(F:bT X.prog X.w X.K X.mg X.base CX k f fd ps sp)(hr:fL k X.A)(hb:Binds X.K fd ps ds)(hd:Vals ie ds)(hx:Passes CX X E)(ha:QA X (e::es) t)
  (hn:(e::es).all noStar=true:=by rfl)
  (ht:eval (.Call (.Attribute o m apos) (e::es) [] pos) X.env=(do
   let ov <-eval o X.env
   standAt apos.atName
   let (f,first) <-holding [ov] (getMethod ov m pl)
   callWith pos f first (backTo pos (starEach (e::es) X.env)) (backToKw pos (keywordEach [] X.env))):=by rfl) :
  QE X (.Call (.Attribute o m apos) (e::es) [] pos) (Ft C m sp ie E ta t):=⟨L2.aNS he.h c hm F hr hb hd hx ha.h (bU (jD hn).1) (kF (jD hn).2) ht⟩
theorem vA{pl:Sem Bool}(he:QE X o ta)(c:oi X.K C)(hm:Meth X.K C m f)(F:bT X.prog X.w X.K X.mg X.base CX k f fd ps sp)(hr:fL k X.A)(hb:Binds X.K fd ps ds)(hd:Vals ie ds)(hx:Passes CX X E)
  (ht:eval (.Call (.Attribute o m apos) [] [] pos) X.env=(do
   let ov <-eval o X.env
   standAt apos.atName
   let (f,first) <-holding [ov] (getMethod ov m pl)
   callWith pos f first (backTo pos (starEach [] X.env)) (backToKw pos (keywordEach [] X.env))):=by rfl) :
  QE X (.Call (.Attribute o m apos) [] [] pos) (Ft C m sp ie E ta mU):=⟨L2.aLN he.h c hm F hr hb hd hx ht⟩
theorem aCg{wx:List Stmt}{tt:TT}{ts:TS}(hp:PassesOwn (model X.prog X.w) X.A X.env X.xe)(hc:QT X c tt)(hb:zt X wx ts):QS X (.While c wx [] pos) (Z5 tt ts):=⟨L2.aLC hp hc.h hb.h⟩
end
section
variable{X:Cx}{Y:W.Frag}{x m n:Str}{p pos apos p2 vf bh tp pos':Pos}{a b c e o st iter tg:Expr}{es rest elts:List Expr}{ta tb tc te to ti:TE}{t:TA}{x1:Nat}{ts:TO}
theorem aH(ha:QE X a ta)(hb:QE X b tb)(hs:aJL b:=by exact λ_ _=>rfl)(hK:X.K=Y:=by rfl):QE X (.Subscript a b pos) (A3 (Kh Y) ta tb):=by subst hK;exact⟨L2.aRL aQm ha.h hb.h hs⟩
theorem bC(hl:QE X e te)(hK:X.K=Y:=by rfl):QI X tg e (Ql Y te):=by subst hK;exact⟨L2.aNJ hl.h⟩
theorem aDP(hl:QE X e te)(hK:X.K=Y:=by rfl):QI X tg e (PM Y te):=by subst hK;exact⟨L2.aP8 hl.h⟩
theorem j7(hg:Gl X "enumerate")(hm:X.mg "enumerate" = none)(ha:QA X [a] t)(hn:noStar a=true:=by rfl)(hK:X.K=Y:=by rfl):QI X (.Tuple elts x1 tp) (.Call (.Name "enumerate" p) [a] [] pos) (P4 Y t):=by subst hK;exact⟨L2.aOx hg hm ha.h hn⟩
theorem bS{k1 n:Nat}(hc:X.calm=true)(h:M3 X es gs)(hn:(assignEach es X.env).length=n:=by rfl)(di:(assignEach es X.env).findIdx? (·.1)=none:=by rfl)(hK:X.K=Y:=by rfl):QG X (.Tuple es k1 pos) (LN Y n gs):=by subst hK;exact⟨L2.aPX hc h.h hn di⟩
theorem bI(he:QE X e ta)(hb:attributeBase e n X.env (eval e X.env)=eval e X.env)(hK:X.K=Y:=by rfl):QE X (.Attribute e n pos) (Pn Y ta n):=by subst hK;exact⟨L2.aQg he.h hb⟩
theorem dC(ha:QE X o ta)(hv:QE X e te)(hs:swapsWith e (some (.Attribute o n pos')) pos.line X.env=pure false)(hK:X.K=Y:=by rfl):QS X (.Assign [.Attribute o n pos'] e pos) (Pm Y ta te n):=by subst hK;exact⟨L2.aQh ha.h hv.h hs⟩
theorem gI(ho:QE X o to)(ha:QA X [e] t)(hn:noStar e=true:=by rfl)(bu:attributeBase o "append" X.env (eval o X.env)=eval o X.env:=by rfl)(bt:(apos.endLine == bh.line)=true:=by rfl)(hK:X.K=Y:=by rfl) :
  QE X (.Call (.Attribute o "append" apos) [e] [] bh) (BY Y "list" Mt to t):=by subst hK;exact⟨L2.aQ3 ho.h ha.h hn bu bt⟩
end
end L2.Z
namespace L2
open PySem
section
variable{prog:Program}{w:World}{A:Around}{E:ak}{s:Shared}
theorem aAA{it t:Addr}{i:Nat}{items}{x:Value}{Q:ak}(hit:s.heap.IsTupleIter it t i)
  (ht:s.heap.IsTuple t items) (hx:items[i]?=some x)
  (hQ:∀h',h'.IsTupleIter it t (i+1)->Heap.SameBut it s.heap h'->Q x { s with heap:=h' }) :
  wpAny (model prog w) A (Builtin.SmallTypes.nextOf (.ref it)) Q E s:=by
 obtain⟨o,ho,hc,hd⟩:=id hit;obtain⟨ol,Om,_,nl,OA⟩:=ht;unfold Builtin.SmallTypes.nextOf;refine bM (wpAny_callSpecial?_slot (name:=Str.ofString "__next__") hit.typeIs F.slot_tuple_iterator_next
  (wk F.slot_tuple_iterator_next hit.typeIs F.entry_tuple_iterator_next ?_ (F.args_tuple_iterator_next_1 _)))
 show wpAny _ _ (field (.ref it) 0 >>= _) _ _ s;refine bM (wpAny_field ho hd (x:=.ref t) rfl ?_);show wpAny _ _ (if (Value.ref t == Value.none)=true then _ else _) _ _ s;rw[cU (show ¬((Value.ref t == Value.none)=true) from lz)];show wpAny _ _ (field (.ref it) 1 >>= _) _ _ s;refine bM (wpAny_field ho hd (x:=.int i 0) rfl ?_);show wpAny _ _ (seqItems? (.ref t) >>= _) _ _ s;refine bM (wpAny_seqItems Om OA ?_);simp only[zr,hx];refine bM (HP ho hd (by simp) (eE ⟨x,rfl,eE (hQ _ ?_ (Heap.SameBut.update ..))⟩));exact⟨_,HZ _ ho (Obj.isFreed_of_fields (Obj.data_mapFields hd _)),(Obj.cls_mapFields ..).trans hc,by
  rw[Obj.data_mapFields hd];simp[rawInt]⟩
theorem aBU{it t:Addr}{i:Nat}{items}{Q:ak}(hh:A.handled=none)
  (hit:s.heap.IsTupleIter it t i) (ht:s.heap.IsTuple t items) (hx:items[i]?=none)
  (hE:∀h' e,Heap.ExtBut it s.heap h'->(∃o,h'.get? e=some o/\o.cls=.type "StopIteration")->E (.ref e) { s with heap:=h' }) :
  wpAny (model prog w) A (Builtin.SmallTypes.nextOf (.ref it)) Q E s:=by
 obtain⟨o,ho,hc,hd⟩:=id hit;obtain⟨ol,Om,_,nl,OA⟩:=ht;unfold Builtin.SmallTypes.nextOf;refine bM (wpAny_callSpecial?_slot (name:=Str.ofString "__next__") hit.typeIs F.slot_tuple_iterator_next
  (wk F.slot_tuple_iterator_next hit.typeIs F.entry_tuple_iterator_next ?_ (F.args_tuple_iterator_next_1 _)))
 show wpAny _ _ (field (.ref it) 0 >>= _) _ _ s;refine bM (wpAny_field ho hd (x:=.ref t) rfl ?_);show wpAny _ _ (if (Value.ref t == Value.none)=true then _ else _) _ _ s;rw[cU (show ¬((Value.ref t == Value.none)=true) from lz)];show wpAny _ _ (field (.ref it) 1 >>= _) _ _ s;refine bM (wpAny_field ho hd (x:=.int i 0) rfl ?_);show wpAny _ _ (seqItems? (.ref t) >>= _) _ _ s;refine bM (wpAny_seqItems Om OA ?_);simp only[zr,hx];refine bM (wpAny_rule (bM (HP ho hd (by simp) ?_)));show wpAny _ _ (newExc (.type "StopIteration") [] >>= _) _ _ _;refine bM ?_;simp only[newExc,newTuple];refine bM (vb ?_ (by size_fits));refine bM (m:=firstArgMember _ _) (wpAny_of_eq (a:=Value.none) (by first|rfl|(simp only[firstArgMember];rfl)) ?_);refine vb ?_ (by size_fits);simp only[raiseNew];refine bM (wpAny_handled ?_);first|rw[show A.in1.handled=none from hh]|rw[hh]
 refine bM (eE (wpAny_throw ?_));exact hE _ _ (((Heap.SameBut.update ..).extBut.push _).push _) ⟨_,qI _ rfl,rfl⟩
end
def rm(h:Heap)(k:Bool)(it src:Addr)(i:Nat):Prop:=if k=true then h.IsListIter it src i else h.IsTupleIter it src i
def kI(h:Heap)(k:Bool)(src:Addr)(items:Array Value):Prop:=if k=true then h.IsList src items else h.IsTuple src items
theorem rm.at{h h':Heap}{k:Bool}{i:Nat}(x:rm h k it src i)(e:∀o,h.get? it=some o->h'.get? it=some o):rm h' k it src i:=by
 cases k with
 |true=>obtain⟨o,ho,r⟩:=(show h.IsListIter it src i from x);exact(show h'.IsListIter it src i from⟨o,e o ho,r⟩)
 |false=>obtain⟨o,ho,r⟩:=(show h.IsTupleIter it src i from x);exact(show h'.IsTupleIter it src i from⟨o,e o ho,r⟩)
theorem kI.at{h h':Heap}{k:Bool}(x:kI h k src items)(e:∀o,h.get? src=some o->h'.get? src=some o):kI h' k src items:=by
 cases k with
 |true=>obtain⟨o,ho,r⟩:=(show h.IsList src items from x);exact(show h'.IsList src items from⟨o,e o ho,r⟩)
 |false=>obtain⟨o,ho,r⟩:=(show h.IsTuple src items from x);exact(show h'.IsTuple src items from⟨o,e o ho,r⟩)
theorem rm.obj{h:Heap}{k:Bool}{i:Nat}(x:rm h k it src i):∃o vs,h.get? it=some o/\o.data=.fields vs:=by
 cases k with
 |true=>obtain⟨o,ho,_,r⟩:=(show h.IsListIter it src i from x);exact⟨o,_,ho,r⟩
 |false=>obtain⟨o,ho,_,r⟩:=(show h.IsTupleIter it src i from x);exact⟨o,_,ho,r⟩
section
variable{prog:Program}{w:World}{A:Around}{E:ak}{s:Shared}
theorem aHC{k:Bool}{it src:Addr}{i:Nat}{items:Array Value}{x:Value}{Q:ak}(hit:rm s.heap k it src i)(hs:kI s.heap k src items)(hx:items[i]?=some x)
  (hQ:∀h',rm h' k it src (i+1)->Heap.SameBut it s.heap h'->Q x { s with heap:=h' }):wpAny (model prog w) A (Builtin.SmallTypes.nextOf (.ref it)) Q E s:=by
 cases k with
 |true=>exact wpAny_nextOf_list_item hit hs hx hQ
 |false=>exact aAA hit hs hx hQ
theorem aIY{k:Bool}{it src:Addr}{i:Nat}{items:Array Value}{Q:ak}(hh:A.handled=none)(hit:rm s.heap k it src i)(hs:kI s.heap k src items)(hx:items[i]?=none)
  (hE:∀h' e,Heap.ExtBut it s.heap h'->(∃o,h'.get? e=some o/\o.cls=.type "StopIteration")->E (.ref e) { s with heap:=h' }):wpAny (model prog w) A (Builtin.SmallTypes.nextOf (.ref it)) Q E s:=by
 cases k with
 |true=>exact wpAny_nextOf_list_end hh hit hs hx hE
 |false=>exact aBU hh hit hs hx hE
end
abbrev ZS:=Bool×Addr×Addr
structure ZA(z TI TO:Addr)(L:List ZS):Prop where
 TIz:TI≠z
 TOz:TO≠z
 TITO:TI≠TO
 it:∀t∈L,t.2.1≠z/\t.2.1≠TI/\t.2.1≠TO
 nd:(L.map (·.2.1)).Nodup
abbrev oK(h:Heap)(T:Addr)(vs:Array Value):Prop:=h.get? T=some { cls:=.type "tuple",data:=.seq vs }
def Pq(z TO:Addr)(L:List ZS):Prop:=∀t∈L,t.2.2≠z/\t.2.2≠TO/\∀u∈L,t.2.2≠u.2.1
theorem ZP:∀{l:ao},l.Nodup->∀{i j:Nat}{a:Addr},l[i]?=some a->l[j]?=some a->i=j
 |[],_,_,_,_,h,_=>by simp at h
 |b::l,n,0,0,_,_,_=>rfl
 |b::l,n,0,j+1,a,h1,h2=>by
  simp at h1 h2;subst h1;exact absurd (pM h2) (va.mp n).1
 |b::l,n,i+1,0,a,h1,h2=>by
  simp at h1 h2;subst h2;exact absurd (pM h1) (va.mp n).1
 |b::l,n,i+1,j+1,a,h1,h2=>by
  simp at h1 h2;rw[ZP (va.mp n).2 h1 h2]
section
variable{prog:Program}{w:World}{A:Around}{E:ak}{s:Shared}
theorem aSM{T:Addr}{arr:Array Value}{x:Value}{j:Nat}{Q:Unit->Shared->Prop}(hT:oK s.heap T arr)(hz:arr.size<=1000)
  (h:∀h',oK h' T (arr.setIfInBounds j x)->Heap.SameBut T s.heap h'->Q () { s with heap:=h' }):wpAny (model prog w) A (updateSeq T (·.setIfInBounds j x)) Q E s:=by
 refine wpAny_updateSeq hT rfl (h _ ?_ (Heap.SameBut.update ..)) (by rw[uz];lia) (by rw[Array.size_setIfInBounds,uz];lia);show(s.heap.update T _).get? T=_;rw[HZ _ hT rfl];simp[Obj.mapSeq]
structure Pp(z TI TO:Addr)(L:List ZS)(k:Nat)(xs:Nat->Value)(h₀:Heap)(j:Nat)(h:Heap):Prop where
 zz:IsZip h z TI TO .ellipsis
 to:∃arr:Array Value,oK h TO arr/\arr.size=L.length/\∀i,i < j->arr[i]?=some (xs i)
 it:∀i t,L[i]?=some t->rm h t.1 t.2.1 t.2.2 (if i < j then k+1 else k)
 off:∀c o,c≠z->c≠TO->(∀t∈L,c≠t.2.1)->h₀.get? c=some o->h.get? c=some o
 sz:h.objs.size=h₀.objs.size
theorem aHD{z TI TO:Addr}{L:List ZS}{k:Nat}{items:Nat->Array Value}{xs:Nat->Value}{arr:Array Value}{Q:ak}(hh:A.handled=none)(D:ZA z TI TO L)(S:Pq z TO L)(cj:L≠[])(hlen:L.length<=1000)
  (hz:IsZip s.heap z TI TO .none) (AG:oK s.heap TI (L.map λt=>Value.ref t.2.1).toArray) (Bf:oK s.heap TO arr) (Ai:arr.size=L.length)
  (hit:∀t∈L,rm s.heap t.1 t.2.1 t.2.2 k) (Vf:∀i t,L[i]?=some t->kI s.heap t.1 t.2.2 (items i))
  (hx:∀i,i < L.length->∀x,(items i)[k]?=some x->x=xs i)
  (hQ:(∀i,i < L.length->(items i)[k]?=some (xs i))->∀h' om,IsZip h' z TI TO (rawInt s.heap.objs.size)->oK h' TO om->om.size=L.length->(∀i,i < L.length->om[i]?=some (xs i))->(∀t∈L,rm h' t.1 t.2.1 t.2.2 (k+1))->oK h' s.heap.objs.size om->h'.objs.size=s.heap.objs.size+1->
   (∀c o,c≠z->c≠TO->(∀t∈L,c≠t.2.1)->s.heap.get? c=some o->h'.get? c=some o)->Q (.ref s.heap.objs.size) { s with heap:=h' })
  (hE:(∃i,i < L.length/\(items i)[k]?=none)->∀h' e,(∀c o,c≠z->c≠TO->(∀t∈L,c≠t.2.1)->s.heap.get? c=some o->h'.get? c=some o)->(∃o,h'.get? e=some o/\o.cls=.type "StopIteration")->E (.ref e) { s with heap:=h' }) :
  wpAny (model prog w) A (Builtin.«zip.__next__» ⟨[.ref z],[]⟩) (λfin s'=>∃v,fin=.done (.ret v)/\Q v s') E s:=by
 show wpAny _ _ (field (.ref z) 2 >>= _) _ _ _;refine bM (wpAny_field hz rfl (x:=.bool false) rfl ?_);show wpAny _ _ (field (.ref z) 3 >>= _) _ _ _;refine bM (wpAny_field hz rfl (x:=.ref TI) rfl ?_);refine bM (wpAny_seqItems AG rfl ?_);have Vs:(L.map λt=>Value.ref t.2.1).toArray.isEmpty=false:=by
  cases L with
  |nil=>exact absurd rfl cj
  |cons t L=>rfl
 simp only[Vs,D9,if_false];show wpAny _ _ (Builtin.SmallTypes.ownedTupleIsFree (.ref z) >>= _) _ _ _;refine bM ?_;unfold Builtin.SmallTypes.ownedTupleIsFree;refine bM (wpAny_field hz rfl (x:=.none) rfl (eE ?_));simp only[if_true];refine bM (wpAny_rule ?_);refine bM (wpAny_field hz rfl (x:=.ref TO) rfl ?_);refine bM (Bw hz (by simp) λfb Aj qv=>?_)
 replace Aj:IsZip fb z TI TO .ellipsis:=Aj
 replace qv:Heap.SameBut z s.heap fb:=qv
 refine bM ?_;refine wpAny_forIn_list _ (λrest b s'=>b=((none,()):Option Fin×Unit)/\∃j,rest=((L.map λt=>Value.ref t.2.1).zipIdx).drop j/\j<=L.length/\(∀i,i < j->(items i)[k]?=some (xs i))/\Pp z TI TO L k xs s.heap j s'.heap/\s'={ s with heap:=s'.heap }) _ ?turn ?fin _ _ ⟨rfl,0,rfl,nv _,λi hi=>absurd hi (Nat.not_lt_zero _),?start,rfl⟩
 case start=>
  exact⟨Aj,⟨arr,qv.extBut _ _ D.TOz Bf,Ai,λi hi=>absurd hi (Nat.not_lt_zero _)⟩,λi t ht=>by
   rw[cU (Nat.not_lt_zero _)];exact(hit t (pM ht)).at λo e=>qv.extBut _ _ (D.it t (pM ht)).1 e,λc o c1 _ _ e=>qv.extBut _ _ c1 e,qv.1⟩
 case turn=>
  rintro x rest b s' ⟨rfl,j,er,hj,N5,M,es⟩;have Ou:((L.map λt=>Value.ref t.2.1).zipIdx).length=L.length:=by simp
  have Dx:j < ((L.map λt=>Value.ref t.2.1).zipIdx).length:=by
   apply Nat.lt_of_not_le;intro h;rw[List.drop_eq_nil_of_le h] at er;cases er
  rw[Ie Dx] at er;injection er with e1 e2
  have Dy:j < L.length:=by rw[<-Ou];exact Dx
  have ht:L[j]?=some L[j]:=eQ Dy;have nk:=AY Dy;have e3:((L.map λt=>Value.ref t.2.1).zipIdx)[j]=(Value.ref L[j].2.1,j):=by simp
  rw[e3] at e1;generalize L[j]=t at ht nk e1;subst e1 e2;obtain⟨h',g',d',t',o'⟩:=s';injection es with _ e4 e5 e6 e7
  subst e4 e5 e6 e7
  replace M:Pp z TI TO L k xs s.heap j h':=M
  have Ep:=M.it j t ht;rw[cU (ua _)] at Ep;have Xj:kI h' t.1 t.2.2 (items j):=(Vf j t ht).at λo e=>M.off _ o (S t nk).1 (S t nk).2.1 (S t nk).2.2 e;refine bM (wpAny_onRaise ?_);show wpAny _ _ (Builtin.SmallTypes.nextOf (.ref t.2.1) >>= _) _ _ _;cases GC:(items j)[k]? with
  |none=>
   refine bM (aIY (s:=⟨h',s.gens,s.drawn,s.toks,s.os⟩) hh Ep Xj GC λh2 e eb he=>?_)
   replace eb:Heap.ExtBut t.2.1 h' h2:=eb
   obtain⟨oe,Oo,Xz⟩:=he;have Kz:IsZip h2 z TI TO .ellipsis:=eb _ _ (Ne.symm (D.it t nk).1) M.zz;have hez:e≠z:=λq=>by subst q;rw[Kz] at Oo;cases Oo;simp at Xz
   refine Bw Kz (by simp) λh3 _ E2=>hE ⟨j,Dy,GC⟩ h3 e (λc o c1 c2 c3 q=>E2.extBut _ _ c1 (eb _ _ (c3 t nk) (M.off c o c1 c2 c3 q))) ⟨oe,E2.extBut _ _ hez Oo,Xz⟩
  |some x=>
   have ex:=hx j Dy x GC;subst ex;refine bM (aHC (s:=⟨h',s.gens,s.drawn,s.toks,s.os⟩) Ep Xj GC λh2 NZ Df=>eE ?_)
   replace Df:Heap.SameBut t.2.1 h' h2:=Df
   obtain⟨ya,BM,GV,N9⟩:=M.to;have IU:oK h2 TO ya:=Df.extBut _ _ (Ne.symm (D.it t nk).2.2) BM;refine bM (wpAny_seqItems IU rfl ?_);refine bM (aSM (s:=⟨h2,s.gens,s.drawn,s.toks,s.os⟩) IU (by lia) λh3 VB De=>?_)
   replace De:Heap.SameBut TO h2 h3:=De
   refine bM (wpAny_letGo (eE ?_));refine⟨rfl,j+1,rfl,Dy,λi hi=>?_,⟨?_,⟨_,VB,?_,λi hi=>?_⟩,λi u hu=>?_,λc o c1 c2 c3 q=>?_,?_⟩,rfl⟩
   ·by_cases e:i=j
    ·subst e;exact GC
    ·exact N5 i (by lia)
   ·exact De.extBut _ _ (Ne.symm D.TOz) (Df.extBut _ _ (Ne.symm (D.it t nk).1) M.zz)
   ·rw[Array.size_setIfInBounds];exact GV
   ·by_cases e:i=j
    ·subst e;rw[Array.getElem?_setIfInBounds_self_of_lt (by lia)]
    ·rw[Array.getElem?_setIfInBounds_ne (Ne.symm e)];exact N9 i (by lia)
   ·have mu:=pM hu;have nT:u.2.1≠TO:=(D.it u mu).2.2;by_cases e:i=j
    ·subst e;rw[ht] at hu;cases hu;rw[dO (F1 _)];exact NZ.at λo q=>De.extBut _ _ nT q
    ·have ne:u.2.1≠t.2.1:=λq=>by
      have n:=D.nd;have q1:(L.map (·.2.1))[i]?=some u.2.1:=by rw[lB,hu];rfl
      have q2:(L.map (·.2.1))[j]?=some u.2.1:=by rw[lB,ht,q];rfl
      exact e (ZP n q1 q2)
     have:=M.it i u hu;rw[show(if i < j+1 then k+1 else k)=if i < j then k+1 else k by split <;> split <;> lia];exact this.at λo q=>De.extBut _ _ nT (Df.extBut _ _ ne q)
   ·exact De.extBut _ _ c2 (Df.extBut _ _ (c3 t nk) (M.off c o c1 c2 c3 q))
   ·show h3.objs.size=_;rw[De.1,Df.1];exact M.sz
 case fin=>
  rintro b s' ⟨rfl,j,er,hj,N5,M,es⟩;have Dy:j=L.length:=by
   have:((L.map λt=>Value.ref t.2.1).zipIdx).length<=j:=List.drop_eq_nil_iff.mp er.symm;simp at this;lia
  subst Dy;obtain⟨h',g',d',t',o'⟩:=s';injection es with _ e4 e5 e6 e7
  subst e4 e5 e6 e7
  replace M:Pp z TI TO L k xs s.heap L.length h':=M
  obtain⟨ya,BM,GV,N9⟩:=M.to;show wpAny _ _ (seqItems? (.ref TO) >>= _) _ _ _;refine bM (wpAny_seqItems BM rfl ?_);refine bM (wpAny_newTuple ?_ (by rw[yu,uz];lia));have IK:z < h'.objs.size:=jX M.zz;show wpAny _ _ (Builtin.SmallTypes.ownedTupleHandOut (.ref z) (.ref h'.objs.size) >>= _) _ _ _;refine bM ?_;unfold Builtin.SmallTypes.ownedTupleHandOut;have hz6:IsZip (h'.push { cls:=.type "tuple",data:=.seq ya.toList.toArray }) z TI TO .ellipsis:=fR _ M.zz;refine bM (Bw hz6 (by simp) λh7 N4 Oe=>?_)
  replace N4:IsZip h7 z TI TO (rawInt h'.objs.size):=N4
  refine Bw N4 (by simp) λh8 Ky Od=>?_
  replace Ky:IsZip h8 z TI TO (rawInt h'.objs.size):=Ky
  have up:∀c o,c≠z->h'.get? c=some o->h8.get? c=some o:=λc o c1 e=>Od.extBut _ _ c1 (Oe.extBut _ _ c1 (fR _ e));have KS:oK h8 h'.objs.size ya:=Od.extBut _ _ (xl IK) (Oe.extBut _ _ (xl IK) (by
   have:=qI h' (o:={ cls:=.type "tuple",data:=.seq ya.toList.toArray }) rfl;simpa using this))
  have Xd:h8.objs.size=h'.objs.size+1:=by rw[Od.1,Oe.1,rp]
  rw[M.sz] at Ky KS Xd;refine eE ⟨_,rfl,?_⟩;show Q (.ref h'.objs.size) _;rw[M.sz];refine hQ (λi hi=>N5 i hi) h8 ya Ky (up _ _ D.TOz BM) GV N9 (λt ht=>?_) KS Xd λc o c1 c2 c3 e=>up c o c1 (M.off c o c1 c2 c3 e);obtain⟨i,hi⟩:=ur ht;have:=M.it i t hi;rw[dO (mT.mp hi).1] at this;exact this.at λo e=>up _ o (D.it t ht).1 e
end
def HJ(z TI TO:Addr)(L:List ZS)(i:Nat)(h:Heap):Prop:=
 IsZip h z TI TO .none/\oK h TI (L.map λt=>Value.ref t.2.1).toArray/\(∃arr,oK h TO arr/\arr.size=L.length)/\∀t∈L,rm h t.1 t.2.1 t.2.2 i
abbrev pS(k:Bool)(src:Addr):Obj:={ cls:=.type (if k=true then "list_iterator" else "tuple_iterator"),data:=.fields #[.ref src,.int 0 0] }
theorem rm.new{h:Heap}{k:Bool}{it src:Addr}(e:h.get? it=some (pS k src)):rm h k it src 0:=by
 cases k with
 |true=>exact(show h.IsListIter it src 0 from⟨_,e,rfl,rfl⟩)
 |false=>exact(show h.IsTupleIter it src 0 from⟨_,e,rfl,rfl⟩)
section
variable{prog:Program}{w:World}{A:Around}{E:ak}{s:Shared}
theorem oM{k:Bool}{src:Addr}{items:Array Value}{Q:ak}(h:kI s.heap k src items)(hQ:Q (.ref s.heap.objs.size) { s with heap:=s.heap.push (pS k src) }):wpAny (model prog w) A (pyIter (.ref src)) Q E s:=by
 cases k with
 |true=>exact wpAny_pyIter_list h hQ
 |false=>exact wpAny_pyIter_tuple h hQ
end
theorem aDQ(a b c:Value):checkTypeCall "zip" ⟨[a,b,c],[]⟩=pure ():=by kernel_rfl
theorem aE0(a b c:Value):checkBuiltinCall "zip.__new__" ⟨[.type "zip",a,b,c],[]⟩=pure ():=by kernel_rfl
theorem zV(a b c d:Value):argsOk "object.__init__" ⟨[a,b,c,d],[]⟩:=by
 unfold argsOk;rw[signature?_of (id:="object.__init__") (n:=['_','_','t','i','n','i','_','_']) (o:=['t','c','e','j','b','o']) (by kernel_rfl) F.owner_object];kernel_rfl
abbrev C5(h:Heap)(t:Bool×Addr):Heap:=h.push (pS t.1 t.2)
abbrev BW(h:Heap)(t u:Bool×Addr):Heap:=(C5 h t).push (pS u.1 u.2)
abbrev J0(h:Heap)(t u v:Bool×Addr):Heap:=(BW h t u).push (pS v.1 v.2)
abbrev JZ(h:Heap)(t u:Bool×Addr):Heap:=(BW h t u).push { cls:=.type "tuple",data:=.seq #[.ref h.objs.size,.ref (C5 h t).objs.size] }
abbrev JY(h:Heap)(t u:Bool×Addr):Heap:=(JZ h t u).push { cls:=.type "tuple",data:=.seq #[.none,.none] }
abbrev EG(h:Heap)(t u:Bool×Addr):Heap:=(JY h t u).push { cls:=.type "zip",data:=.fields #[.none,.bool false,.bool false,.ref (BW h t u).objs.size,.ref (JZ h t u).objs.size] }
abbrev JX(h:Heap)(t u v:Bool×Addr):Heap:=(J0 h t u v).push { cls:=.type "tuple",data:=.seq #[.ref h.objs.size,.ref (C5 h t).objs.size,.ref (BW h t u).objs.size] }
abbrev JW(h:Heap)(t u v:Bool×Addr):Heap:=(JX h t u v).push { cls:=.type "tuple",data:=.seq #[.none,.none,.none] }
abbrev C4(h:Heap)(t u v:Bool×Addr):Heap:=(JW h t u v).push { cls:=.type "zip",data:=.fields #[.none,.bool false,.bool false,.ref (J0 h t u v).objs.size,.ref (JX h t u v).objs.size] }
theorem aHE(t u:Bool×Addr)(xs ys:Array Value) :
  Meets (Builtin.«zip.__new__» ⟨[.type "zip",.ref t.2,.ref u.2],[]⟩) (λ_ R s=>kI s.heap t.1 t.2 xs/\kI s.heap u.1 u.2 ys/\
   R (.ok (.ret (.ref (JY s.heap t u).objs.size))) { s with heap:=EG s.heap t u }):=
 .of_wp λprog w A R s h=>by
  obtain⟨hp,g,d,tk,os⟩:=s;obtain⟨KN,GK,h⟩:=h;have Ve:=sub_zip;have xf:kI (Shared.heap ⟨hp,g,d,tk,os⟩) t.1 t.2 xs:=KN;have Bg:kI (Shared.heap ⟨hp.push (pS t.1 t.2),g,d,tk,os⟩) u.1 u.2 ys:=kI.at GK λo e=>fR _ e
  wp_walk using oM xf,oM Bg
  exact⟨_,rfl,h⟩
theorem aHF(t u v:Bool×Addr)(xs ys zs:Array Value) :
  Meets (Builtin.«zip.__new__» ⟨[.type "zip",.ref t.2,.ref u.2,.ref v.2],[]⟩) (λ_ R s=>kI s.heap t.1 t.2 xs/\kI s.heap u.1 u.2 ys/\kI s.heap v.1 v.2 zs/\
   R (.ok (.ret (.ref (JW s.heap t u v).objs.size))) { s with heap:=C4 s.heap t u v }):=
 .of_wp λprog w A R s h=>by
  obtain⟨hp,g,d,tk,os⟩:=s;obtain⟨KN,GK,hl3,h⟩:=h;have Ve:=sub_zip;have xf:kI (Shared.heap ⟨hp,g,d,tk,os⟩) t.1 t.2 xs:=KN;have Bg:kI (Shared.heap ⟨hp.push (pS t.1 t.2),g,d,tk,os⟩) u.1 u.2 ys:=kI.at GK λo e=>fR _ e;have hL3:kI (Shared.heap ⟨(hp.push (pS t.1 t.2)).push (pS u.1 u.2),g,d,tk,os⟩) v.1 v.2 zs:=kI.at hl3 λo e=>fR _ (fR _ e)
  wp_walk using oM xf,oM Bg,oM hL3
  exact⟨_,rfl,h⟩
section
variable{prog:Program}{w:World}{A:Around}{E:ak}{s:Shared}
theorem aIZ{t u:Bool×Addr}{xs ys:Array Value}{Q:ak}(h1:kI s.heap t.1 t.2 xs)(h2:kI s.heap u.1 u.2 ys)
  (h:∀h',HJ (s.heap.objs.size+4) (s.heap.objs.size+2) (s.heap.objs.size+3) [(t.1,s.heap.objs.size,t.2),(u.1,s.heap.objs.size+1,u.2)] 0 h'->(∀c o,s.heap.get? c=some o->h'.get? c=some o)->Q (.ref (s.heap.objs.size+4)) { s with heap:=h' }) :
  wpAny (model prog w) A (call (.type "zip") [.ref t.2,.ref u.2]) Q E s:=by
 refine callType_new F.called_zip (by decide) (F.typeCall_zip_2 _ _) (F.newCall_zip_2 _ _) (λobj=>F.args_object_init_3 obj _ _) F.entry_zip_new
  (aHE t u xs ys) ⟨h1,h2,?_⟩
 have z1:(C5 s.heap t).objs.size=s.heap.objs.size+1:=rp ..;have z2:(BW s.heap t u).objs.size=s.heap.objs.size+2:=by rw[rp,z1]
 have z3:(JZ s.heap t u).objs.size=s.heap.objs.size+3:=by rw[rp,z2]
 have z4:(JY s.heap t u).objs.size=s.heap.objs.size+4:=by rw[rp,z3]
 have g5:(EG s.heap t u).get? (JY s.heap t u).objs.size=some _:=qI _ rfl;have g4:(EG s.heap t u).get? (JZ s.heap t u).objs.size=some _:=fR _ (qI _ rfl);have g3:(EG s.heap t u).get? (BW s.heap t u).objs.size=some _:=fR _ (fR _ (qI _ rfl));have g2:(EG s.heap t u).get? (C5 s.heap t).objs.size=some (pS u.1 u.2):=fR _ (fR _ (fR _ (qI _ rfl)));have g1:(EG s.heap t u).get? s.heap.objs.size=some (pS t.1 t.2):=fR _ (fR _ (fR _ (fR _ (qI _ rfl))));show _/\_;rw[z2,z3,z4] at g5;rw[z1,z2] at g3;rw[z3] at g4;rw[z1] at g2;rw[z4];refine⟨⟨_,g5,rfl⟩,h _ ⟨g5,g3,⟨_,g4,rfl⟩,λx hx=>?_⟩ λc o x=>
  fR _ (fR _ (fR _ (fR _ (fR _ x))))⟩
 simp only[pN,xn,or_false] at hx;rcases hx with rfl|rfl
 ·exact rm.new g1
 ·exact rm.new g2
theorem aI0{t u v:Bool×Addr}{xs ys zs:Array Value}{Q:ak}(h1:kI s.heap t.1 t.2 xs)(h2:kI s.heap u.1 u.2 ys)(h3:kI s.heap v.1 v.2 zs)
  (h:∀h',HJ (s.heap.objs.size+5) (s.heap.objs.size+3) (s.heap.objs.size+4) [(t.1,s.heap.objs.size,t.2),(u.1,s.heap.objs.size+1,u.2),(v.1,s.heap.objs.size+2,v.2)] 0 h'->(∀c o,s.heap.get? c=some o->h'.get? c=some o)->Q (.ref (s.heap.objs.size+5)) { s with heap:=h' }) :
  wpAny (model prog w) A (call (.type "zip") [.ref t.2,.ref u.2,.ref v.2]) Q E s:=by
 refine callType_new F.called_zip (by decide) (aDQ _ _ _) (aE0 _ _ _) (λobj=>zV obj _ _ _) F.entry_zip_new
  (aHF t u v xs ys zs) ⟨h1,h2,h3,?_⟩
 have z1:(C5 s.heap t).objs.size=s.heap.objs.size+1:=rp ..;have z2:(BW s.heap t u).objs.size=s.heap.objs.size+2:=by rw[rp,z1]
 have z3:(J0 s.heap t u v).objs.size=s.heap.objs.size+3:=by rw[rp,z2]
 have z4:(JX s.heap t u v).objs.size=s.heap.objs.size+4:=by rw[rp,z3]
 have z5:(JW s.heap t u v).objs.size=s.heap.objs.size+5:=by rw[rp,z4]
 have g6:(C4 s.heap t u v).get? (JW s.heap t u v).objs.size=some _:=qI _ rfl;have g5:(C4 s.heap t u v).get? (JX s.heap t u v).objs.size=some _:=fR _ (qI _ rfl);have g4:(C4 s.heap t u v).get? (J0 s.heap t u v).objs.size=some _:=fR _ (fR _ (qI _ rfl));have g3:(C4 s.heap t u v).get? (BW s.heap t u).objs.size=some (pS v.1 v.2):=fR _ (fR _ (fR _ (qI _ rfl)));have g2:(C4 s.heap t u v).get? (C5 s.heap t).objs.size=some (pS u.1 u.2):=fR _ (fR _ (fR _ (fR _ (qI _ rfl))));have g1:(C4 s.heap t u v).get? s.heap.objs.size=some (pS t.1 t.2):=fR _ (fR _ (fR _ (fR _ (fR _ (qI _ rfl)))));show _/\_;rw[z3,z4,z5] at g6;rw[z1,z2,z3] at g4;rw[z4] at g5;rw[z2] at g3;rw[z1] at g2;rw[z5];refine⟨⟨_,g6,rfl⟩,h _ ⟨g6,g4,⟨_,g5,rfl⟩,λx hx=>?_⟩ λc o x=>
  fR _ (fR _ (fR _ (fR _ (fR _ (fR _ x)))))⟩
 simp only[pN,xn,or_false] at hx;rcases hx with rfl|rfl|rfl
 ·exact rm.new g1
 ·exact rm.new g2
 ·exact rm.new g3
end
theorem qM{n a b:Nat}(h:a≠b):@Ne Addr (n+a) (n+b):=λe=>h (Nat.add_left_cancel e)
theorem za2(n:Nat)(t u:Bool×Addr):ZA (n+4) (n+2) (n+3) [(t.1,n,t.2),(u.1,n+1,u.2)]:=by
 refine⟨qM (by decide),qM (by decide),qM (by decide),λx hx=>?_,?_⟩
 ·simp only[pN,xn,or_false] at hx;rcases hx with rfl|rfl
  ·exact⟨qM (a:=0) (by decide),qM (a:=0) (by decide),qM (a:=0) (by decide)⟩
  ·exact⟨qM (by decide),qM (by decide),qM (by decide)⟩
 ·simp
theorem za3(n:Nat)(t u v:Bool×Addr):ZA (n+5) (n+3) (n+4) [(t.1,n,t.2),(u.1,n+1,u.2),(v.1,n+2,v.2)]:=by
 refine⟨qM (by decide),qM (by decide),qM (by decide),λx hx=>?_,?_⟩
 ·simp only[pN,xn,or_false] at hx;rcases hx with rfl|rfl|rfl
  ·exact⟨qM (a:=0) (by decide),qM (a:=0) (by decide),qM (a:=0) (by decide)⟩
  ·exact⟨qM (by decide),qM (by decide),qM (by decide)⟩
  ·exact⟨qM (by decide),qM (by decide),qM (by decide)⟩
 ·simp
end L2
namespace L2
open PySem PySem.Spec PyProof.Rows
def Src(H:Hp)(k:Bool)(a:Addr)(xs:List V):Prop:=H a=some (if k=true then .lst xs else .tup xs)
theorem Src.inj{k:Bool}(h:Src H k a xs)(h':Src H k a ys):xs=ys:=by
 unfold Src at h h';rw[h] at h';cases k with
 |true=>injection h' with e;injection e
 |false=>injection h' with e;injection e
theorem Src.lst{H:Hp}{a:Addr}{xs:List V}(h:H a=some (.lst xs)):Src H true a xs:=h
theorem Src.tup{H:Hp}{a:Addr}{xs:List V}(h:H a=some (.tup xs)):Src H false a xs:=h
theorem Inv.src{s:Shared}{k:Bool}{xs:List V}(I:Inv X pins U H s)(h:Src H k a xs):∃its:ah,Vals xs its/\kI s.heap k a its.toArray/\xs.length<=sizeLine:=by
 cases k with
 |true=>
  obtain⟨its,r,p,z⟩:=I.list (bP.of h);exact⟨its,r,p.isList,z⟩
 |false=>
  obtain⟨its,r,p,z⟩:=I.tuple (iF.of h);exact⟨its,r,p,z⟩
theorem aCh:∀{xs:List V}{us:ah},xs.length=us.length->(∀(j:Nat) (x:V) (u:Value),xs[j]?=some x->us[j]?=some u->RelV x u)->Vals xs us
 |[],[],_,_=>.nil
 |x::xs,u::us,h,f=>.cons (f 0 x u rfl rfl) (aCh (by simpa using h) λj y v h1 h2=>f (j+1) y v (by simpa using h1) (by simpa using h2))
 |[],_::_,h,_=>by cases h
 |_::_,[],h,_=>by cases h
def xu(L:List (Bool×Addr)):It:=
 ⟨λi H=>∀t∈L,∃xs x,Src H t.1 t.2 xs/\xs[i]?=some x,
  λi H v H'=>∃T vs,H T=none/\v=.ref T/\H'=upd H T (.tup vs)/\vs.length=L.length/\∀(j:Nat) (t:Bool×Addr) (xs:List V),L[j]?=some t->Src H t.1 t.2 xs->∃x,xs[i]?=some x/\vs[j]?=some x,
  λi H=>(∀t∈L,∃xs,Src H t.1 t.2 xs)/\∃t∈L,∃xs,Src H t.1 t.2 xs/\xs.length<=i⟩
def zL(L:List ZS):List (Bool×Addr):=L.map λt=>(t.1,t.2.2)
theorem ZO{L:List ZS}{t:ZS}(h:t∈L):(t.1,t.2.2)∈zL L:=jQ.mpr ⟨t,h,rfl⟩
theorem aQ9{L:List ZS}{j:Nat}{t:Bool×Addr}(h:(zL L)[j]?=some t):∃u,L[j]?=some u/\t=(u.1,u.2.2):=by
 unfold zL at h;rw[lB] at h;cases e:L[j]? with
 |none=>rw[e] at h;cases h
 |some u=>rw[e] at h;cases h;exact⟨u,rfl,rfl⟩
abbrev ni(z TI TO:Addr)(L:List ZS):ao:=z::TI::TO::L.map (·.2.1)
theorem Hv{z TI TO:Addr}{L:List ZS}{t:ZS}(h:t∈L):t.2.1∈ni z TI TO L:=by
 simp only[ni,pN];exact .inr (.inr (.inr (jQ.mpr ⟨t,h,rfl⟩)))
theorem HJ.obj{z TI TO:Addr}{L:List ZS}{i:Nat}{h:Heap}(st:HJ z TI TO L i h):∀b∈ni z TI TO L,∃o,h.get? b=some o/\∀v,o.data≠.cell v:=λb hb=>by
 obtain⟨hz,AG,⟨arr,Bf,_⟩,hit⟩:=st;simp only[ni,pN] at hb;rcases hb with rfl|rfl|rfl|hb
 ·exact⟨_,hz,λv z=>by cases z⟩
 ·exact⟨_,AG,λv z=>by cases z⟩
 ·exact⟨_,Bf,λv z=>by cases z⟩
 ·obtain⟨t,ht,rfl⟩:=jQ.mp hb;obtain⟨o,vs,e,d⟩:=(hit t ht).obj;exact⟨o,e,λv z=>by rw[d] at z;cases z⟩
theorem aFI{P:Program}{w:World}{K:W.Frag}{elts:List Expr}{x1:Nat}{tp:Pos}(L:List ZS)(z TI TO:Addr)(D:ZA z TI TO L)(cj:L≠[])(hlen:L.length<=1000) :
  Turn P w K (.Tuple elts x1 tp) (xu (zL L)) (ni z TI TO L) z (HJ z TI TO L) where
 mem:=by simp[ni]
 obj:=λi h st=>st.obj
 keep:=λi h h' st k=>by
  obtain⟨hz,AG,⟨arr,Bf,ha⟩,hit⟩:=st;exact⟨k z (by simp[ni]) _ hz,k TI (by simp[ni]) _ AG,⟨arr,k TO (by simp[ni]) _ Bf,ha⟩,λt ht=>(hit t ht).at λo q=>k _ (Hv ht) o q⟩
 item:=by
  intro X hP hw hK hc i pins s U H E I hf st hg;subst hP hw hK;have ET:∀b∈ni z TI TO L,b < s.heap.objs.size:=λb hb=>by obtain⟨o,e,_⟩:=st.obj b hb;exact jX e
  obtain⟨hz,AG,⟨arr,Bf,Ai⟩,hit⟩:=st;have key:∀j:Nat,∃r:ah×Value×V,∀t,L[j]?=some t->kI s.heap t.1 t.2.2 r.1.toArray/\(∀xs,Src H t.1 t.2.2 xs->xs[i]?=some r.2.2)/\r.1[i]?=some r.2.1/\RelV r.2.2 r.2.1/\t.2.2∉ni z TI TO L:=λj=>by
   cases e:L[j]? with
   |none=>exact⟨([],.none,.br),λt h=>by cases h⟩
   |some t=>
    obtain⟨xs,x,hs,hx⟩:=hg _ (ZO (pM e));obtain⟨its,r,src,_⟩:=I.src hs;obtain⟨u,hu,ru⟩:=r.get hx;refine⟨(its,u,x),λt' h=>?_⟩;cases h;refine⟨src,λys hy=>by rw[hy.inj hs];exact hx,hu,ru,λhm=>?_⟩;have:=(hf _ hm).1;unfold Src at hs;rw[show H t.2.2=some (if t.1=true then .lst xs else .tup xs) from hs] at this;cases this
  obtain⟨f,AD⟩:=Classical.axiomOfChoice key;have S:Pq z TO L:=λt ht=>by
   obtain⟨j,hj⟩:=ur ht;have n:=(AD j t hj).2.2.2.2;refine⟨λe=>n (by rw[e];simp[ni]),λe=>n (by rw[e];simp[ni]),λu hu e=>n (by rw[e];exact Hv hu)⟩
  have N1:∀j,j < L.length->∃t,L[j]?=some t:=λj hj=>⟨_,eQ hj⟩
  unfold pyNext;have hT:s.TypeIs (.ref z) "zip":=⟨_,hz,rfl⟩
  refine bM (FX (wpAny_callSpecial?_slot (name:=Str.ofString "__next__") hT F.slot_zip_next
   (wk F.slot_zip_next hT F.entry_zip_next (aHD (items:=λj=>(f j).1.toArray) (xs:=λj=>(f j).2.1) (I.ok.hd hc) D S cj hlen hz AG Bf Ai hit (λj t hj=>(AD j t hj).1) (λj hj x hx=>?_)
    (λ_ h1 om a1 a2 a3 a4 a5 a6 a7 hk=>eE ⟨_,rfl,wpAny_letOwnedTupleGo_zip a1 λg2 Kz fc=>?_⟩) (λhE=>?_)) (F.args_zip_next_1 _))))
  ·obtain⟨t,ht⟩:=N1 j hj;have e:=(AD j t ht).2.2.1;have qf:(f j).1[i]?=some x:=by simpa using hx
   rw[e] at qf;exact(Option.some.inj qf).symm
  ·replace fc:Heap.SameBut z h1 g2:=fc
   have yl:g2.IsTuple s.heap.objs.size om:=⟨_,(fc.2 _ (xl (ET z (by simp[ni])))).trans a6,rfl,_,rfl⟩
   have kk:∀b o,b∉ni z TI TO L->s.heap.get? b=some o->g2.get? b=some o:=λb o hb q=>by
    have n1:b≠z:=λe=>hb (by rw[e];simp[ni]);exact(fc.2 b n1).trans (hk b o n1 (λe=>hb (by rw[e];simp[ni])) (λt ht e=>hb (by rw[e];exact Hv ht)) q)
   have rv:Vals ((List.range L.length).map λj=>(f j).2.2) om.toList:=by
    refine aCh (by simp[a3]) λj x u hx hu=>?_;rw[lB] at hx;by_cases hj:j < L.length
    ·rw[MN hj] at hx;cases hx;obtain⟨t,ht⟩:=N1 j hj;have e:=a4 j hj;have Xh:om[j]?=some u:=by simpa using hu
     rw[e] at Xh;cases Xh;exact(AD j t ht).2.2.2.1
    ·rw[CJ (by simpa using hj)] at hx;cases hx
   have I2:Inv X pins U (upd H s.heap.objs.size (.tup ((List.range L.length).map λj=>(f j).2.2))) { s with heap:=g2 }:=
    I.xN (t':=s.toks) kk hf (eR _) (show bW X.prog X.w _ g2 _ (.tup _) from⟨cA (by simp;lia),om.toList,rv,by simpa using show IsTup g2 s.heap.objs.size om from yl⟩)
   have DA:H s.heap.objs.size=none:=I.bc.fresh (eR _);refine⟨.ref s.heap.objs.size,_,I2,rfl,⟨_,_,DA,rfl,rfl,by simp[zL],λj t xs hj hs=>?_⟩,⟨Kz,?_,⟨om,fc.extBut _ _ D.TOz a2,a3⟩,λt ht=>(a5 t ht).at λo q=>(fc.2 _ (D.it t ht).1).trans q⟩,λb hb=>?_⟩
   ·obtain⟨u,hu,rfl⟩:=aQ9 hj;have Dx:j < L.length:=(mT.mp hu).1;refine⟨(f j).2.2,(AD j u hu).2.1 xs hs,?_⟩;rw[lB,MN Dx];rfl
   ·exact fc.extBut _ _ D.TIz (hk _ _ D.TIz D.TITO (λt ht=>Ne.symm (D.it t ht).2.1) AG)
   ·rw[aV (rV (ET b hb))];exact(hf b hb).1
  ·exfalso;obtain⟨j,hj,e⟩:=hE;obtain⟨t,ht⟩:=N1 j hj;have e':(f j).1[i]?=none:=by simpa using e
   rw[(AD j t ht).2.2.1] at e';cases e'
 done:=by
  intro X hP hw hK hc i pins s U H E I hf st hg;subst hP hw hK;obtain⟨hz,AG,⟨arr,Bf,Ai⟩,hit⟩:=st;obtain⟨ia,t0,ht0,xs0,KD,Xr⟩:=hg;have key:∀j:Nat,∃r:ah,∀t,L[j]?=some t->kI s.heap t.1 t.2.2 r.toArray/\(∀xs,Src H t.1 t.2.2 xs->xs.length=r.length)/\t.2.2∉ni z TI TO L:=λj=>by
   cases e:L[j]? with
   |none=>exact⟨[],λt h=>by cases h⟩
   |some t=>
    obtain⟨xs,hs⟩:=ia _ (ZO (pM e));obtain⟨its,r,src,_⟩:=I.src hs;refine⟨its,λt' h=>?_⟩;cases h;refine⟨src,λys hy=>by rw[hy.inj hs];exact r.length,λhm=>?_⟩;have:=(hf _ hm).1;unfold Src at hs;rw[show H t.2.2=some (if t.1=true then .lst xs else .tup xs) from hs] at this;cases this
  obtain⟨f,AD⟩:=Classical.axiomOfChoice key;have S:Pq z TO L:=λt ht=>by
   obtain⟨j,hj⟩:=ur ht;have n:=(AD j t hj).2.2;refine⟨λe=>n (by rw[e];simp[ni]),λe=>n (by rw[e];simp[ni]),λu hu e=>n (by rw[e];exact Hv hu)⟩
  unfold pyNext;have hT:s.TypeIs (.ref z) "zip":=⟨_,hz,rfl⟩
  refine bM (FX (wpAny_callSpecial?_slot (name:=Str.ofString "__next__") hT F.slot_zip_next
   (wk F.slot_zip_next hT F.entry_zip_next (aHD (items:=λj=>(f j).toArray) (xs:=λj=>((f j)[i]?).getD .none) (I.ok.hd hc) D S cj hlen hz AG Bf Ai hit (λj t hj=>(AD j t hj).1) (λj hj x hx=>?_)
    (λJU=>?_) (λhE h1 e hk he=>?_)) (F.args_zip_next_1 _))))
  ·have qf:(f j)[i]?=some x:=by simpa using hx
   rw[qf];rfl
  ·exfalso;obtain⟨u,hu,rfl⟩:=jQ.mp ht0;obtain⟨j,hj⟩:=ur hu;have e1:=(AD j u hj).2.1 xs0 KD;have e2:=JU j (mT.mp hj).1;have e3:(f j)[i]?=some (((f j)[i]?).getD .none):=by simpa using e2
   rw[CJ (by lia)] at e3;cases e3
  ·obtain⟨o,ho,sh⟩:=he;refine bM (wpAny_isInstance (T:="StopIteration") (b:=true) ⟨o,ho,sh⟩ isSubtype_stop ?_);refine eE ⟨rfl,I.aKO (t':=s.toks) (ch:=ni z TI TO L) (λb o hb q=>?_) hf⟩;exact hk b o (λe=>hb (by rw[e];simp[ni])) (λe=>hb (by rw[e];simp[ni])) (λt ht e=>hb (by rw[e];exact Hv ht)) q
 self:=λ_ _ _ _ _ st h=>wpAny_pyIter_zip st.1 h
section
variable{X:Cx}{elts:List Expr}{x1:Nat}{tp:Pos}{k1 k2 k3:Bool}
def Ph(k1 k2:Bool)(R:It->Hp->Prop):List V->Hp->Prop:=λvs H1=>∃a b xs ys,vs=[.ref a,.ref b]/\Src H1 k1 a xs/\Src H1 k2 b ys/\R (xu [(k1,a),(k2,b)]) H1
def P0(k1 k2:Bool)(ta:TA):TI:=λU H R=>ta U H (Ph k1 k2 R)
def Pg(k1 k2 k3:Bool)(R:It->Hp->Prop):List V->Hp->Prop:=λvs H1=>∃a b c xs ys zs,vs=[.ref a,.ref b,.ref c]/\Src H1 k1 a xs/\Src H1 k2 b ys/\Src H1 k3 c zs/\R (xu [(k1,a),(k2,b),(k3,c)]) H1
def PZ(k1 k2 k3:Bool)(ta:TA):TI:=λU H R=>ta U H (Pg k1 k2 k3 R)
theorem vals3{x y z:V}{us:ah}(r:Vals [x,y,z] us):∃u v w,us=[u,v,w]/\RelV x u/\RelV y v/\RelV z w:=by
 cases r with
 |cons r1 r=>
  cases r with
  |cons r2 r=>
   cases r with
   |cons r3 r=>
    cases r;exact⟨_,_,_,rfl,r1,r2,r3⟩
theorem aOF{a b:Expr}{ta:TA}{p pos:Pos}(hg:Gl X "zip")(hm:X.mg "zip" = none)(ha:PA X [a,b] ta)(hn:noStar a=true:=by rfl)(tq:noStar b=true:=by rfl):PI X (.Tuple elts x1 tp) (.Call (.Name "zip" p) [a,b] [] pos) (P0 k1 k2 ta):=by
 intro pins s U H R I h;have fc:starEach [b] X.env=[(false,eval b X.env)]:=bU tq;have hs:starEach [a,b] X.env=[(false,eval a X.env),(false,eval b X.env)]:=by rw[bU hn,fc]
 refine Call_ (oJ I hg hm ZQ (PyProof.Rows.callWith_type1 (eG (ha pos pins s U H _ I h) λus s1 ⟨vs,H1,I1,r1,q1⟩=>?_) (by rw[hs,fc]) (by rw[fc];rfl)));obtain⟨l1,l2,xs,ys,e,Ds,Oi,q⟩:=q1;subst e;obtain⟨u,v,rfl,ru,rv⟩:=vals2 r1;cases ru;cases rv;obtain⟨its,_,pl,_⟩:=I1.src Ds;obtain⟨qc,_,Kl,_⟩:=I1.src Oi;refine aIZ (t:=(k1,l1)) (u:=(k2,l2)) pl Kl λh' st hk=>?_;refine wpAny_pyIter_zip st.1 ?_;refine⟨_,_,_,_,H1,rfl,I1.kept (t':=s1.toks) hk,aFI _ _ _ _ (za2 s1.heap.objs.size (k1,l1) (k2,l2)) (by simp) (by simp),st,λb hb=>?_,q⟩;have hle:s1.heap.objs.size<=b:=by
  simp only[ni,yG,xk,pN,xn,or_false] at hb;rcases hb with rfl|rfl|rfl|rfl|rfl <;> first|exact Nat.le_add_right _ _|exact eR _
 exact I1.AR hle (I1.bc.fresh hle)
theorem aOG{a b c:Expr}{ta:TA}{p pos:Pos}(hg:Gl X "zip")(hm:X.mg "zip" = none)(ha:PA X [a,b,c] ta)(hn:noStar a=true:=by rfl)(tq:noStar b=true:=by rfl)(Oq:noStar c=true:=by rfl):PI X (.Tuple elts x1 tp) (.Call (.Name "zip" p) [a,b,c] [] pos) (PZ k1 k2 k3 ta):=by
 intro pins s U H R I h;have E2:starEach [c] X.env=[(false,eval c X.env)]:=bU Oq;have fc:starEach [b,c] X.env=[(false,eval b X.env),(false,eval c X.env)]:=by rw[bU tq,E2]
 have hs:starEach [a,b,c] X.env=[(false,eval a X.env),(false,eval b X.env),(false,eval c X.env)]:=by rw[bU hn,fc]
 refine Call_ (oJ I hg hm ZQ (PyProof.Rows.callWith_type1 (eG (ha pos pins s U H _ I h) λus s1 ⟨vs,H1,I1,r1,q1⟩=>?_) (by rw[hs,fc]) (by rw[fc];rfl)));obtain⟨l1,l2,l3,xs,ys,zs,e,Ds,Oi,Oh,q⟩:=q1;subst e;obtain⟨u,v,w,rfl,ru,rv,tj⟩:=vals3 r1;cases ru;cases rv;cases tj;obtain⟨its,_,pl,_⟩:=I1.src Ds;obtain⟨qc,_,Kl,_⟩:=I1.src Oi;obtain⟨a0r,_,pl3,_⟩:=I1.src Oh;refine aI0 (t:=(k1,l1)) (u:=(k2,l2)) (v:=(k3,l3)) pl Kl pl3 λh' st hk=>?_;refine wpAny_pyIter_zip st.1 ?_;refine⟨_,_,_,_,H1,rfl,I1.kept (t':=s1.toks) hk,aFI _ _ _ _ (za3 s1.heap.objs.size (k1,l1) (k2,l2) (k3,l3)) (by simp) (by simp),st,λb hb=>?_,q⟩;have hle:s1.heap.objs.size<=b:=by
  simp only[ni,yG,xk,pN,xn,or_false] at hb;rcases hb with rfl|rfl|rfl|rfl|rfl|rfl <;> first|exact Nat.le_add_right _ _|exact eR _
 exact I1.AR hle (I1.bc.fresh hle)
end
section
variable{U:St}{H:Hp}{nx:St->Hp->Prop}{rt:VK}{g:TG}{tb:TS}{Q:VK}{k1 k2 k3:Bool}{a b c:Addr}{xs ys zs:List V}{n:Nat}
theorem aMy{ta:TA}{R:It->Hp->Prop}(h:ta U H (Ph k1 k2 R)):P0 k1 k2 ta U H R:=h
theorem aMz{ta:TA}{R:It->Hp->Prop}(h:ta U H (Pg k1 k2 k3 R)):PZ k1 k2 k3 ta U H R:=h
theorem Md{R:It->Hp->Prop}(h1:Src H k1 a xs)(h2:Src H k2 b ys)(h:R (xu [(k1,a),(k2,b)]) H):Ph k1 k2 R [.ref a,.ref b] H:=⟨a,b,xs,ys,rfl,h1,h2,h⟩
theorem aRc{R:It->Hp->Prop}(h1:Src H k1 a xs)(h2:Src H k2 b ys)(h3:Src H k3 c zs)(h:R (xu [(k1,a),(k2,b),(k3,c)]) H):Pg k1 k2 k3 R [.ref a,.ref b,.ref c] H:=⟨a,b,c,xs,ys,zs,rfl,h1,h2,h3,h⟩
theorem aOH{i:Nat}(h1:Src H k1 a xs)(h2:Src H k2 b ys){x y:V}(e1:xs[i]?=some x)(e2:ys[i]?=some y):(xu [(k1,a),(k2,b)]).go i H:=λt ht=>by
 simp only[pN,xn,or_false] at ht;rcases ht with rfl|rfl
 ·exact⟨xs,x,h1,e1⟩
 ·exact⟨ys,y,h2,e2⟩
theorem aMA{i:Nat}(h1:Src H k1 a xs)(h2:Src H k2 b ys){v:V}{H':Hp}(h:(xu [(k1,a),(k2,b)]).tf i H v H'):∃T x y,H T=none/\v=.ref T/\H'=upd H T (.tup [x,y])/\xs[i]?=some x/\ys[i]?=some y:=by
 obtain⟨T,vs,nT,e1,e2,hl,hv⟩:=h;obtain⟨x,hx,v0⟩:=hv 0 _ xs rfl h1;obtain⟨y,hy,v1⟩:=hv 1 _ ys rfl h2
 match vs,hl with
 |[p,q],_=>cases v0;cases v1;exact⟨T,_,_,nT,e1,e2,hx,hy⟩
theorem aKQ{i:Nat}(h1:Src H k1 a xs)(h2:Src H k2 b ys)(hm:xs.length<=i\/ys.length<=i):(xu [(k1,a),(k2,b)]).stop i H:=by
 refine⟨λt ht=>?_,?_⟩
 ·simp only[pN,xn,or_false] at ht;rcases ht with rfl|rfl
  ·exact⟨xs,h1⟩
  ·exact⟨ys,h2⟩
 ·rcases hm with h|h
  ·exact⟨(k1,a),by simp,xs,h1,h⟩
  ·exact⟨(k2,b),by simp,ys,h2,h⟩
theorem aOI{i:Nat}(h1:Src H k1 a xs)(h2:Src H k2 b ys)(h3:Src H k3 c zs){x y z:V}(e1:xs[i]?=some x)(e2:ys[i]?=some y)(e3:zs[i]?=some z):(xu [(k1,a),(k2,b),(k3,c)]).go i H:=λt ht=>by
 simp only[pN,xn,or_false] at ht;rcases ht with rfl|rfl|rfl
 ·exact⟨xs,x,h1,e1⟩
 ·exact⟨ys,y,h2,e2⟩
 ·exact⟨zs,z,h3,e3⟩
theorem aMB{i:Nat}(h1:Src H k1 a xs)(h2:Src H k2 b ys)(h3:Src H k3 c zs){v:V}{H':Hp}(h:(xu [(k1,a),(k2,b),(k3,c)]).tf i H v H'):∃T x y z,H T=none/\v=.ref T/\H'=upd H T (.tup [x,y,z])/\xs[i]?=some x/\ys[i]?=some y/\zs[i]?=some z:=by
 obtain⟨T,vs,nT,e1,e2,hl,hv⟩:=h;obtain⟨x,hx,v0⟩:=hv 0 _ xs rfl h1;obtain⟨y,hy,v1⟩:=hv 1 _ ys rfl h2;obtain⟨z,hz,v2⟩:=hv 2 _ zs rfl h3
 match vs,hl with
 |[p,q,r],_=>cases v0;cases v1;cases v2;exact⟨T,_,_,_,nT,e1,e2,hx,hy,hz⟩
theorem aKR{i:Nat}(h1:Src H k1 a xs)(h2:Src H k2 b ys)(h3:Src H k3 c zs)(hm:xs.length<=i\/ys.length<=i\/zs.length<=i):(xu [(k1,a),(k2,b),(k3,c)]).stop i H:=by
 refine⟨λt ht=>?_,?_⟩
 ·simp only[pN,xn,or_false] at ht;rcases ht with rfl|rfl|rfl
  ·exact⟨xs,h1⟩
  ·exact⟨ys,h2⟩
  ·exact⟨zs,h3⟩
 ·rcases hm with h|h|h
  ·exact⟨(k1,a),by simp,xs,h1,h⟩
  ·exact⟨(k2,b),by simp,ys,h2,h⟩
  ·exact⟨(k3,c),by simp,zs,h3,h⟩
end
section
variable{σ₀:St}{g:TG}{tt:TT}{te:TE}{R:List V->Hp->Prop}{H:Hp}{k1 k2 k3:Bool}{a b c:Addr}{xs ys zs:List V}{n:Nat}
theorem xS(n1:n<=xs.length)(n2:n<=ys.length)(nm:xs.length=n\/ys.length=n)(hz:n<=sizeLine)(Pv:Nat->List V->Hp->Prop)(h0:Pv 0 [] H)
  (hl:∀i us H,i<=n->Pv i us H->(Src H k1 a xs/\Src H k2 b ys)/\us.length<=i)
  (hs:∀i x y us H T,xs[i]?=some x->ys[i]?=some y->Pv i us H->H T=none->g (.ref T) σ₀ (upd H T (.tup [x,y])) λσ2 H2=>tt σ2 H2 λb H3=>if b=true then te σ2 H3 λy H4=>Pv (i+1) (us ++ [y]) H4 else Pv (i+1) us H3)
  (hd:∀us H,Pv n us H->R us H):mV (xu [(k1,a),(k2,b)]) σ₀ g tt te R H:=by
 refine⟨λi m us H=>m=n - i/\i<=n/\Pv i us H,⟨n,by simp,nv _,h0⟩,?_⟩;rintro i m us H ⟨rfl,hi,p⟩;obtain⟨⟨q1,q2⟩,ql⟩:=hl i us H hi p;refine⟨by lia,?_⟩;by_cases fi:i < n
 ·refine .inr ⟨aOH q1 q2 (eQ (show i < xs.length by lia)) (eQ (show i < ys.length by lia)),Pv (i+1),λEI H' p'=>⟨n - (i+1),by lia,rfl,fi,p'⟩,λx H' y=>?_⟩;obtain⟨T,u,v,hT,e1,e2,y1,y2⟩:=aMA q1 q2 y;subst e1 e2;exact hs i u v us H T y1 y2 p hT
 ·have e:i=n:=by lia
  subst e;exact .inl ⟨aKQ q1 q2 (by lia),hd us H p⟩
theorem aKS(n1:n<=xs.length)(n2:n<=ys.length)(n3:n<=zs.length)(nm:xs.length=n\/ys.length=n\/zs.length=n)(hz:n<=sizeLine)(Pv:Nat->List V->Hp->Prop)(h0:Pv 0 [] H)
  (hl:∀i us H,i<=n->Pv i us H->(Src H k1 a xs/\Src H k2 b ys/\Src H k3 c zs)/\us.length<=i)
  (hs:∀i x y z us H T,xs[i]?=some x->ys[i]?=some y->zs[i]?=some z->Pv i us H->H T=none->g (.ref T) σ₀ (upd H T (.tup [x,y,z])) λσ2 H2=>tt σ2 H2 λb H3=>if b=true then te σ2 H3 λy H4=>Pv (i+1) (us ++ [y]) H4 else Pv (i+1) us H3)
  (hd:∀us H,Pv n us H->R us H):mV (xu [(k1,a),(k2,b),(k3,c)]) σ₀ g tt te R H:=by
 refine⟨λi m us H=>m=n - i/\i<=n/\Pv i us H,⟨n,by simp,nv _,h0⟩,?_⟩;rintro i m us H ⟨rfl,hi,p⟩;obtain⟨⟨q1,q2,q3⟩,ql⟩:=hl i us H hi p;refine⟨by lia,?_⟩;by_cases fi:i < n
 ·refine .inr ⟨aOI q1 q2 q3 (eQ (show i < xs.length by lia)) (eQ (show i < ys.length by lia)) (eQ (show i < zs.length by lia)),Pv (i+1),λEI H' p'=>⟨n - (i+1),by lia,rfl,fi,p'⟩,λx H' y=>?_⟩;obtain⟨T,u,v,w,hT,e1,e2,y1,y2,y3⟩:=aMB q1 q2 q3 y;subst e1 e2;exact hs i u v w us H T y1 y2 y3 p hT
 ·have e:i=n:=by lia
  subst e;exact .inl ⟨aKR q1 q2 q3 (by lia),hd us H p⟩
end
section
variable{X:Cx}
def QY(K:W.Frag):List V->Hp->VK->Prop:=λxs H Q=>∃p ys,xs=[.ref p]/\((bP K H p ys/\∀l,H l=none->Q (.ref l) (upd H l (.tup ys)))\/(iF K H p ys/\Q (.ref p) H))
theorem aKT:fK X (.type "tuple") (QY X.K):=aEX
theorem aOJ{K:W.Frag}{H:Hp}{Q:VK}{p:Addr}{ys:List V}(h1:bP K H p ys)(h:∀l,H l=none->Q (.ref l) (upd H l (.tup ys))):QY K [.ref p] H Q:=⟨p,ys,rfl,.inl ⟨h1,h⟩⟩
structure M6(K:W.Frag)(C:Addr):Prop where
 ha:PySem.W.findIn K (.ref C) "__class__" = some (some (.builtin "object.__class__"))
 hn:PySem.W.specialIn K (.builtin "object.__class__") "__get__" = some (some (.builtin "getset_descriptor.__get__"))
 E1:PySem.W.takesIn K (.builtin "object.__class__")=some true
 hm:PySem.W.mroIn K C (.type "object")=some true
theorem aJO{K:W.Frag}{H:Hp}{a C dx:Addr}{fs:List (Str×V)}(i:M6 K C)(c:oi K C)(e:H a=some (.ins C dx fs)):Bz K H (.ref a) (.ref C) true:=
 ⟨.ref C,.ins e c i.ha i.hn i.E1 i.hm,.inr ⟨C,rfl,by unfold PySem.W.kitOne;rw[dO (by simp)]⟩⟩
end
end L2
namespace L2.Z
open PySem PySem.Spec PyProof.Rows L2
section
variable{X:Cx}{p pos tp:Pos}{a b c:Expr}{elts:List Expr}{t:TA}{x1:Nat}{k1 k2 k3:Bool}
theorem sG(hg:Gl X "zip")(hm:X.mg "zip" = none)(ha:QA X [a,b] t)(hn:noStar a=true:=by rfl)(tq:noStar b=true:=by rfl):QI X (.Tuple elts x1 tp) (.Call (.Name "zip" p) [a,b] [] pos) (P0 k1 k2 t):=⟨L2.aOF hg hm ha.h hn tq⟩
theorem aI2(hg:Gl X "zip")(hm:X.mg "zip" = none)(ha:QA X [a,b,c] t)(hn:noStar a=true:=by rfl)(tq:noStar b=true:=by rfl)(Oq:noStar c=true:=by rfl):QI X (.Tuple elts x1 tp) (.Call (.Name "zip" p) [a,b,c] [] pos) (PZ k1 k2 k3 t):=⟨L2.aOG hg hm ha.h hn tq Oq⟩
theorem aKU{i j:Nat}{x y:Str}{px py pt:Pos}{kt k2 Dj}(hc:X.calm=true)(hN:X.N.Nodup)(hi:X.N[i]?=some x)(hj:X.N[j]?=some y)(Bc:i≠j)
  (hx:X.env.scope.names.lookup x=some .local) (hy:X.env.scope.names.lookup y=some .local) (ha:QA X [a,b] t)
  (hw:swappedStores [.Tuple [.Name x px,.Name y py] kt pt] (.Tuple [a,b] k2 Dj) X.env=pure (some [x,y]):=by rfl)
  (hs:swapsWithSole [.Tuple [.Name x px,.Name y py] kt pt] (.Tuple [a,b] k2 Dj) pos.line X.env=pure false:=by rfl) :
  QS X (.Assign [.Tuple [.Name x px,.Name y py] kt pt] (.Tuple [a,b] k2 Dj) pos) (PR i j t):=⟨L2.aP3 hc hN hi hj Bc hx hy ha.h hw hs⟩
end
end L2.Z
namespace L2
open PySem PySem.Spec PyProof.Rows
theorem nw(o:HO)(n:H p=none):∃H2,upd H p o=H2/\aO H H2/\H2 p=some o:=⟨_,rfl,aO.new n,aP⟩
theorem wr(H:Hp)(p:Addr)(o:HO):∃H2,upd H p o=H2/\bX p H H2/\H2 p=some o:=⟨_,rfl,bX.upd,aP⟩
theorem Ko{H:Hp}{x dx C:Addr}(nx:H x=none)(nd:H dx=none)(hd:dx≠x):∃H2,upd (upd H dx (.own x)) x (.ins C dx [])=H2/\aO H H2/\H2 x=some (.ins C dx []):=
 ⟨_,rfl,λb o e=>by rw[aV (bE nx e),aV (bE nd e)];exact e,aP⟩
def Nx(N:St->Hp->Prop)(U:St)(H:Hp):Prop:=N U H
structure Tail(N b:St->Hp->Prop):Prop where
 h:∀U H,b U H->N U H
theorem aOK{nx bk ct:St->Hp->Prop}{t u:TS}(h:∀N,Tail N (u ⟨nx,rt,bk,ct⟩)->t ⟨Nx N,rt,bk,ct⟩ U H):He t u ⟨nx,rt,bk,ct⟩ U H:=h _ ⟨λ_ _ h=>h⟩
theorem aSg{N b:St->Hp->Prop}(t:Tail N b)(h:b U H):Nx N U H:=t.h _ _ h
section
variable{X:Cx}{pins:ar}{U:St}{H:Hp}{s:Shared}
theorem Inv.freeze{d:Addr}{kvs:List (Key×V)}{o:Obj}(I:Inv X pins U H s)(e:H d=some (.dK kvs))(ho:s.heap.get? d=some o):Inv X pins U (upd H d (.cx o (.dK kvs))) s:=by
 have nd:∀b u,H b=some u->u≠.dK kvs->b≠d:=λb u q n z=>by rw[z,e] at q;exact n (Option.some.inj q).symm
 refine I.step (h':=s.heap) (g':=s.gens) (d':=s.drawn) (t':=s.toks) (ch:=[]) (λ_ z=>nomatch z) (λb u _ _ _ q _=>q) (λb u _ _ _ q _=>⟨u.slots,q⟩) (λb u _ _ n=>?_)
  (λb u _ q=>⟨u,q⟩) (λb xs q=>?_) (λb u v q=>?_) (λb ps q=>⟨#[],?_⟩) (λm hm=>hm) (λb u q=>?_) I.bare
 ·rw[aV (λz=>by rw[z,e] at n;cases n)];exact n
 ·rw[aV (nd _ _ q (λz=>by cases z))];exact q
 ·rw[aV (nd _ _ q (λz=>by cases z))];exact q
 ·rw[aV (nd _ _ q (λz=>by cases z)),q];simp
 ·by_cases hb:b=d
  ·subst hb;rw[aP] at q;cases q;exact⟨ho,I.bc b _ e⟩
  ·rw[aV hb] at q;exact(I.bc b u q).oI (λ_ _ _ z=>z) (λc z=>by rw[aV (nd _ _ z (λy=>by cases y))];exact z) λc xs t z=>by rw[aV (nd _ _ z (λy=>by subst y;exact t))];exact z
end
theorem bW.obj{h:Heap}(x:bW P w H h a o):∃u,h.get? a=some u:=by
 cases o with
 |lst xs=>obtain⟨_,_,_,_,e⟩:=x;exact⟨_,e⟩
 |tup xs=>obtain⟨_,_,_,u,e,_⟩:=x;exact⟨u,e⟩
 |dK kvs=>obtain⟨_,_,_,_,u,_,_,e,_⟩:=x;exact⟨u,e⟩
 |dT kvs=>obtain⟨_,_,_,_,u,_,_,e,_⟩:=x;exact⟨u,e⟩
 |set S n=>obtain⟨u,_,_,_,e,_⟩:=x;exact⟨u,e⟩
 |ins C dx fs=>obtain⟨_,_,_,e,_⟩:=x;exact⟨_,e⟩
 |own y=>exact x
 |xd fs=>obtain⟨_,⟨u,_,_,e,_⟩,_⟩:=x;exact⟨u,e⟩
 |Au lo hi=>obtain⟨_,_,_,e⟩:=x;exact⟨_,e⟩
 |cx ob u=>exact⟨_,x.1⟩
 |BX ps=>exact⟨_,x⟩
 |met f y=>exact⟨_,x⟩
 |ext φ=>exact x.2.1
 |yp q=>obtain⟨o,_,_,e,_⟩:=x;exact⟨o,e⟩
 |ig pos q=>obtain⟨_,e,_⟩:=x;exact⟨_,e⟩
theorem Inv.aSh{X:Cx}{s:Shared}{h':Heap}{t':Nat}(I:Inv X pins U H s)(k:∀b u,s.heap.get? b=some u->h'.get? b=some u)(cj:∀b u,s.heap.get? b=some u->b≠a)(new:bW X.prog X.w (upd H a o) h' a o):H a=none/\Inv X pins U (upd H a o) { s with heap:=h',toks:=t' }:=by
 have hn:H a=none:=by
  cases e:H a with
  |none=>rfl
  |some u=>
   obtain⟨ob,z⟩:=(I.bc a u e).obj;exact absurd rfl (cj a ob z)
 refine⟨hn,I.un ⟨λb u q _ _ _=>k b u q,λb u q _ _ _=>⟨u.slots,k b u q⟩,λb u q n _=>?_,λb u q _=>⟨u,k b u q⟩,λb xs q=>?_,λb u xs q=>?_,λb ps q=>⟨#[],?_⟩⟩ λb u e=>?_⟩
 ·rw[aV (cj b u q)];exact n
 ·rw[aV (bQ q hn)];exact q
 ·rw[aV (bQ q hn)];exact q
 ·rw[aV (bQ q hn),q];simp
 ·by_cases hb:b=a
  ·subst hb;rw[aP] at e;cases e;exact new
  ·rw[aV hb] at e;exact(I.bc b u e).oI (λc v _ q=>k c v q) (λc q=>by rw[aV (bQ q hn)];exact q) λc xs _ q=>by rw[aV (bQ q hn)];exact q
end L2
namespace L2.Z
open PySem PySem.Spec PyProof.Rows
section
variable{X:Cx}{Y:W.Frag}{tg o i value l:Expr}{to td ty tv tl:TE}{pos pos' apos bh:Pos}
theorem jS(hu:X.A.units+9 < cLine)(ho:QE X o td)(hi:QE X i ty)(hv:QE X value tv)(hs:swapsWith value (some (.Subscript o i pos')) pos.line X.env=pure false:=by rfl) :
  QS X (.Assign [.Subscript o i pos'] value pos) (Qf td ty tv):=⟨L2.aN3 (by lia) ho.h hi.h hv.h hs⟩
end
end L2.Z
namespace L2
open PySem PySem.Spec PyProof.Rows
section
variable{U:St}{H:Hp}{Q:VK}{nx bk ct:St->Hp->Prop}{rt:VK}
theorem aOL(h:tv U H λv H1=>td U H1 λx H2=>ty U H2 λy H3=>∃a H4,x=.ref a/\vz H3 a y v H4/\nx U H4):Qf td ty tv ⟨nx,rt,bk,ct⟩ U H:=h
end
section
variable{prog:Program}{w:World}{A:Around}{E:ak}{s:Shared}{K:W.Frag}{x C:Addr}{o:Obj}{name:Str}{v:Value}
open PySem.Builtin PySem.Builtin.ObjectAttr in
end
structure Lft(fs:ao)(e:Addr)(oe:Obj)(h h':Heap):Prop where
 keep:∀b o,b∉fs->b≠e->h.get? b=some o->h'.get? b=some o
 slot:∀b o,b∈fs->h.get? b=some o->∃sl,h'.get? b=some { o with slots:=sl }
 err:∃vs T oT ts,h'.get? e=some { oe with data:=.fields vs }/\vs[1]?=some (.ref T)/\T≠e/\h.objs.size<=T/\h'.get? T=some oT/\oT.data=.fields ts/\ts[3]?=some .none
 ctx:∀Wm vs,oe.data=.fields Wm->h'.get? e=some { oe with data:=.fields vs }->vs[2]?=Wm[2]?
def Hc(C:Addr)(od:Option Addr)(e:Addr):HO:=.ext λh=>∃o vs,h.get? e=some o/\o.cls=.ref C/\o.dict=od/\o.data=.fields vs/\(od≠none->vs[2]?=some .none)
theorem aOM{P:Program}{w:World}{H:Hp}{h:Heap}{C e:Addr}{od:Option Addr}{o:Obj}{vs:Array Value}(h1:h.get? e=some o)(h2:o.cls=.ref C)(h3:o.dict=od)(h4:o.data=.fields vs)(h5:od≠none->vs[2]?=some .none):bW P w H h e (Hc C od e):=
 ⟨⟨o,vs,h1,h2,h3,h4,h5⟩,⟨o,h1⟩,λ_ _ z k=>let ⟨o,vs,a,b,c,d⟩:=z;⟨o,vs,k o a,b,c,d⟩⟩
theorem aON{P:Program}{w:World}{H:Hp}{h:Heap}{C e:Addr}{od:Option Addr}(x:bW P w H h e (Hc C od e)):∃o vs,h.get? e=some o/\o.cls=.ref C/\o.dict=od/\o.data=.fields vs:=by
 obtain⟨o,vs,a,b,c,d,_⟩:=x.1;exact⟨o,vs,a,b,c,d⟩
theorem aOO{P:Program}{w:World}{H:Hp}{h:Heap}{C e:Addr}{od:Option Addr}{o:Obj}{vs:Array Value}(x:bW P w H h e (Hc C od e))(h1:h.get? e=some o)(h4:o.data=.fields vs)(n:od≠none):vs[2]?=some .none:=by
 obtain⟨o',vs',a,b,c,d,f⟩:=x.1;rw[h1] at a;cases a;rw[h4] at d;cases d;exact f n
section
variable{X:Cx}{pins:ar}{U:St}{H:Hp}{s:Shared}{h':Heap}{C e:Addr}{od:Option Addr}{oe:Obj}
theorem Inv.left(I:Inv X pins U H s)(he:H e=some (Hc C od e))(ho:s.heap.get? e=some oe)(lf:Lft (nj X.stack) e oe s.heap h'):Inv X pins U H { s with heap:=h' }:=by
 obtain⟨o,vs,q1,q2,q3,q4⟩:=aON (I.bc e _ he);rw[ho] at q1;cases q1;have B0:=I.Mw;obtain⟨vs2,T,oT,ts,r1,_⟩:=lf.err;have tr:∀b u,H b=some u->b∉nj X.stack:=λb u z hb=>by rw[B0 b hb] at z;cases z
 refine I.call (g':=s.gens) (d':=s.drawn) (t':=s.toks) (ch:=[]) ⟨λb o z n hb _=>lf.keep b o hb (λq=>by rw[q,he] at n;cases n) z,λb o z n hb _=>lf.slot b o hb z,λb o z n _=>n,λb o z _=>?_,λ_ _ z=>z,λ_ _ _ z=>z,λb ps z=>⟨#[],by rw[z];simp⟩⟩ (λa u z=>?_) I.bare (λb z=>nomatch z)
 ·by_cases hb:b∈nj X.stack
  ·obtain⟨sl,q⟩:=lf.slot b o hb z;exact⟨_,q⟩
  ·by_cases AE:b=e
   ·subst AE;exact⟨_,r1⟩
   ·exact⟨o,lf.keep b o hb AE z⟩
 ·by_cases XD:a=e
  ·subst XD;rw[he] at z;cases z;exact aOM r1 q2 q3 rfl λn=>(lf.ctx _ _ q4 r1).trans (aOO (I.bc _ _ he) ho q4 n)
  ·refine(I.bc a u z).oI (λb v hb q=>?_) (λ_ q=>q) λ_ _ _ q=>q;rcases hb with rfl|hb
   ·exact lf.keep _ v (tr _ _ z) XD q
   ·exact lf.keep _ v (tr _ _ hb) (λy=>by rw[y,he] at hb;cases hb) q
end
def FI(H:Hp)(od:Option Addr):Prop:=∀dx,od=some dx->∃fs,H dx=some (.xd fs)
theorem FI.none:FI H none:=λ_ z=>nomatch z
theorem FI.some(h:H dx=some (.xd fs)):FI H (some dx):=λ_ z=>by cases z;exact⟨fs,h⟩
theorem FI.there{h:Heap}(bc:uL P w H h)(d:FI H od):∀dx,od=Option.some dx->∃o,h.get? dx=Option.some o:=λdx z=>by
 obtain⟨fs,e⟩:=d dx z;exact(bc dx _ e).obj
abbrev TW:=St->Hp->Addr->Prop
structure aRd(X:Cx)(pins:ar)(T:Addr):Prop where
 up:X.dj.heap.objs.size<=T
 loc:T≠X.env.locals
 cell:∀x c,X.env.cells.lookup x=some c->c≠T
 pin:∀p∈X.pn++pins,p.1≠T
structure aSN(X:Cx)(pins:ar)(H:Hp)(h:Heap)(e:Addr):Prop where
 ex:∃(C:Addr) (od:Option Addr) (oe:Obj) (vs:Array Value) (T:Addr) (oT:Obj) (ts:Array Value),H e=some (Hc C od e)/\h.get? e=some oe/\oe.data=.fields vs/\vs[1]?=some (.ref T)/\T≠e/\aRd X pins T/\H T=none/\h.get? T=some oT/\oT.data=.fields ts/\3 < ts.size
def aRe(X:Cx)(pins:ar)(W:TW)(ev:Value)(s':Shared):Prop:=∃(e:Addr) (U:St) (H':Hp),ev=.ref e/\Inv X pins U H' s'/\aSN X pins H' s'.heap e/\W U H' e
def Cx.tr(X:Cx)(pins:ar)(W:TW):Cx:={ X with pn:=X.pn++pins,xe:=aRe X pins W }
def Cx.yi(X:Cx)(e:Addr):Cx:={ X with A:=X.A.mark (some (.ref e)),calm:=false,xe:=λ_ _=>False }
section
variable{X:Cx}{pins qu:ar}{U:St}{H:Hp}{s:Shared}{W:TW}{e:Addr}
theorem Cx.Ok.tr(ok:X.Ok):(X.tr pins W).Ok:=⟨ok.mod,ok.kind,ok.glob,ok.blt,ok.above,ok.inj,ok.has,ok.Ck,ok.hd,ok.frames,ok.B0,ok.Ly,ok.bs,ok.zk,ok.vh,ok.xy,ok.xX,ok.AJ⟩
theorem Cx.Ok.yi(ok:X.Ok):(X.yi e).Ok:=⟨ok.mod,ok.kind,ok.glob,ok.blt,ok.above,ok.inj,ok.has,ok.Ck,(λz=>Bool.noConfusion z),ok.frames,ok.B0,ok.Ly,ok.bs,ok.zk,ok.vh,ok.xy,ok.xX,ok.AJ⟩
theorem Inv.tr(I:Inv X pins U H s):Inv (X.tr pins W) [] U H s:=⟨I.ok.tr,I.os,I.bare,I.base,I.loc,I.cell,I.free,I.fe,λp hp=>I.pin p (by rw[ub] at hp;exact hp),I.bc,I.len⟩
theorem Inv.yi(I:Inv X pins U H s):Inv (X.yi e) pins U H s:=⟨I.ok.yi,I.os,I.bare,I.base,I.loc,I.cell,I.free,I.fe,I.pin,I.bc,I.len⟩
end
abbrev TH:=Ends->St->Hp->Addr->Prop
structure Fy(k:Nat)(A:Around):Prop where
 dp:A.depth+3*k+5 < recursionLimit
 un:A.units+16*k+200 < cLine
theorem fL.h{k:Nat}(r:fL k A):Fy k A:=⟨r.dp,r.un⟩
theorem Fy.mark{k:Nat}{A:Around}(r:Fy k A)(o:aw):Fy k (A.mark o):=⟨r.dp,r.un⟩
theorem Fy.calm{k:Nat}(r:Fy k A):fL k { A with handled:=none }:=⟨rfl,r.dp,r.un⟩
end L2
namespace L2.Z
open PySem PySem.Spec PyProof.Rows L2
end L2.Z
namespace L2
open PySem PySem.Spec PyProof.Rows
section
variable{X:Cx}{o e:Expr}{to:TE}{t:TA}{apos bh:Pos}
theorem aJP:∀{ns:ae}{us:ah},Vals (ns.map V.int) us->IntsAre us ns
 |[],_,.nil=>.nil
 |n::ns,_,.cons r t=>by
  obtain⟨k,rfl⟩:=(show ∃k,_=Value.int n k from r)
  exact .cons n k (aJP t)
def Mc(K:W.Frag):V->List V->Hp->VK->Prop:=λx vs H Q=>∃(l:Addr) (ns:ae) (k:Int),x=.ref l/\vs=[.int k]/\bP K H l (ns.map V.int)/\Q (.int (ns.count k:Nat)) H
theorem aMD:MtR X "list.count" (Mc X.K):=by
 intro pins s U H x vs v us Q I rx rv h;obtain⟨l,ns,k,rfl,rfl,hS,q⟩:=h;cases rx;obtain⟨u,rfl,ru⟩:=rv.one;obtain⟨tk,rfl⟩:=(show ∃tk,u=Value.int k tk from ru)
 obtain⟨its,r,pl,hz⟩:=I.list hS;exact count_list_ints pl.isList (aJP r) ⟨.int (ns.count k:Nat),H,I.tok _,⟨_,rfl⟩,q⟩
theorem aME(ho:PE X o to)(ha:PA X [e] t)(hn:noStar e=true:=by rfl)(bu:attributeBase o "count" X.env (eval o X.env)=eval o X.env:=by rfl)(bt:(apos.endLine == bh.line)=true:=by rfl) :
  PE X (.Call (.Attribute o "count" apos) [e] [] bh) (BY X.K "list" (Mc X.K) to t):=
 Qh PySem.F.plainAttrs_list PySem.F.slot_list_count PySem.F.type_list_count aMD ho ha bu (by rw[bU hn];rfl) bt (bU hn) (by rfl)
theorem aHG{K:W.Frag}{H:Hp}{Q:VK}{l:Addr}{ns:ae}{k:Int}(h:bP K H l (ns.map V.int))(q:Q (.int (ns.count k:Nat)) H):Mc K (.ref l) [.int k] H Q:=⟨l,ns,k,rfl,rfl,h,q⟩
end
end L2
namespace L2.Z
open PySem PySem.Spec PyProof.Rows L2
theorem aAB{X:Cx}{apos bh:Pos}(ho:QE X o to)(ha:QA X [e] t)(hn:noStar e=true:=by rfl)(bu:attributeBase o "count" X.env (eval o X.env)=eval o X.env:=by rfl)(bt:(apos.endLine == bh.line)=true:=by rfl)(hK:X.K=Y:=by rfl) :
  QE X (.Call (.Attribute o "count" apos) [e] [] bh) (BY Y "list" (Mc Y) to t):=by subst hK;exact⟨L2.aME ho.h ha.h hn bu bt⟩
end L2.Z
namespace L2
open PySem PySem.W PyProof.Rows
section
variable{O:KeyOrd}{key:Nat->O.α}{N:Nat}{cmp:Nat->Nat->(Bool->Shared->Prop)->Shared->Prop}{s:Shared}
def kq(key:Nat->O.α)(p:Array Nat)(i:Nat):O.α:=key (p.getD i 0)
def Up(key:Nat->O.α)(p:Array Nat)(k:Nat):Prop:=∀i j,i<=j->j < k->O.kle (kq key p i) (kq key p j)
def Dn(key:Nat->O.α)(p:Array Nat)(k:Nat):Prop:=∀i j,i<=j->j < k->O.kle (kq key p j) (kq key p i)
def Row(N:Nat)(p:Array Nat):Prop:=p.Perm (List.toArray (List.range N))
theorem Ho{p q:Array Nat}{i j:Nat}(h:p[i]?=q[j]?):kq key p i=kq key q j:=by
 unfold kq;rw[Array.getD_eq_getD_getElem?,Array.getD_eq_getD_getElem?,h]
theorem ZV{p:Array Nat}{a d:Nat}(ha:a < p.size)(hd:d<=a)(k:Nat):kq key (bubble p a d) k=if k=a - d then kq key p a else if a - d < k/\k<=a then kq key p (k - 1) else kq key p k:=by
 have e:=getElem?_bubble ha d hd k;split
 ·rename_i h;rw[dO h] at e;exact Ho e
 ·rename_i h;rw[cU h] at e;split
  ·rename_i g;rw[dO g] at e;exact Ho e
  ·rename_i g;rw[cU g] at e;exact Ho e
theorem Mb{p:Array Nat}{i j:Nat}(hj:j<=p.size)(k:Nat):kq key (kas_rev p i j) k=if i<=k/\k < j then kq key p (i+j - 1 - k) else kq key p k:=by
 have e:=getElem?_mirror_all (i:=i) hj k;split
 ·rename_i h;rw[dO h] at e;exact Ho e
 ·rename_i h;rw[cU h] at e;exact Ho e
theorem Row.size{p:Array Nat}(h:Row N p):p.size=N:=by
 have:=h.size_eq;rw[this];simp
theorem Row.lt{p:Array Nat}(h:Row N p)(hN:0 < N)(i:Nat):p.getD i 0 < N:=by
 by_cases hi:i < p.size
 ·have e:p.getD i 0=p[i]:=by simp[Array.getD,hi]
  have m:p[i]∈p.toList:=by simp
  have m2:=(Array.perm_iff_toList_perm.mp h).mem_iff.mp m;rw[e];simpa using m2
 ·have e:p.getD i 0=0:=by simp[Array.getD,hi]
  rw[e];exact hN
theorem Row.rev{p:Array Nat}(h:Row N p)(i j:Nat):Row N (kas_rev p i j):=(mirror_perm p i j _).trans h
theorem Row.bub{p:Array Nat}(h:Row N p)(i j:Nat):Row N (bubble p i j):=(bubble_perm p i j).trans h
theorem Up.more{p:Array Nat}{m:Nat}(h:Up key p m)(e:O.kle (kq key p (m - 1)) (kq key p m)):Up key p (m+1):=λi j Bc hj=>by
 by_cases hm:j < m
 ·exact h i j Bc hm
 ·have ej:j=m:=by lia
  subst ej;by_cases hi:i=j
  ·subst hi;exact KeyOrd.kle_refl _
  ·exact KeyOrd.kle_trans (h i (j - 1) (by lia) (by lia)) e
theorem Dn.more{p:Array Nat}{m:Nat}(h:Dn key p m)(e:O.kle (kq key p m) (kq key p (m - 1))):Dn key p (m+1):=λi j Bc hj=>by
 by_cases hm:j < m
 ·exact h i j Bc hm
 ·have ej:j=m:=by lia
  subst ej;by_cases hi:i=j
  ·subst hi;exact KeyOrd.kle_refl _
  ·exact KeyOrd.kle_trans e (h i (j - 1) (by lia) (by lia))
def zw(key:Nat->O.α)(N:Nat)(cmp:Nat->Nat->(Bool->Shared->Prop)->Shared->Prop)(s:Shared):Prop:=∀i j (C:Bool->Shared->Prop),i < N->j < N->C (O.blt (key i) (key j)) s->cmp i j C s
theorem zw.ask{α:Type}(hc:zw key N cmp s)(hN:0 < N){p:Array Nat}(hp:Row N p){i j:Nat}{k:Bool->KasT α}{Q:α->Shared->Prop}(h1:O.klt (kq key p i) (kq key p j)->(k true).kasWp cmp Q s)(h2:O.kle (kq key p j) (kq key p i)->(k false).kasWp cmp Q s) :
  (KasT.ask (p.getD i 0) (p.getD j 0) k).kasWp cmp Q s:=by
 refine hc _ _ _ (hp.lt hN i) (hp.lt hN j) ?_;cases e:O.blt (key (p.getD i 0)) (key (p.getD j 0)) with
 |true=>exact h1 e
 |false=>exact h2 e
theorem QX(hc:zw key N cmp s)(hN:0 < N){p:Array Nat}(hp:Row N p){Q:Nat->Shared->Prop}:∀{f m:Nat},f=N - m->1<=m->m<=N->Up key p m->
  (∀r,m<=r->r<=N->Up key p r->(r < N->O.klt (kq key p r) (kq key p (r - 1)))->Q r s)->(kas_asc p f m).kasWp cmp Q s
 |0,m,hf,h1,hm,hu,h=>h m (eR _) hm hu (λz=>by lia)
 |f+1,m,hf,h1,hm,hu,h=>by
  refine hc.ask hN hp (λz=>?_) (λz=>?_)
  ·rw[dO rfl];exact h m (eR _) hm hu λ_=>z
  ·rw[cU (by decide)];exact QX hc hN hp (by lia) (by lia) (by lia) (hu.more z) λr a b c d=>h r (by lia) b c d
def M9(key:Nat->O.α)(p:Array Nat)(n q:Nat):Prop:=∀i,n - (q+1)<=i->i < n->kq key p i=kq key p (n - 1)
theorem M9.same{p:Array Nat}{n q:Nat}(h:M9 key p n q)(hz:n<=p.size)(k:Nat):kq key (kas_rev p (n - (q+1)) n) k=kq key p k:=by
 rw[Mb hz];split
 ·rename_i g;rw[h k g.1 g.2];exact h _ (by lia) (by lia)
 ·rfl
theorem Mq(hc:zw key N cmp s)(hN:0 < N){Q:Array Nat×Nat×Nat->Shared->Prop}:∀{f n q:Nat}{p:Array Nat},Row N p->f=N - n->1<=n->n<=N->q+1<=n->Dn key p n->M9 key p n q->
  (∀p' n' q',Row N p'->1<=n'->n'<=N->q'+1<=n'->Dn key p' n'->M9 key p' n' q'->Q (p',n',q') s)->(kas_desc f p n q).kasWp cmp Q s
 |0,n,q,p,hp,hf,h1,hn,hq,hd,hb,h=>h p n q hp h1 hn hq hd hb
 |f+1,n,q,p,hp,hf,h1,hn,hq,hd,hb,h=>by
  have hz:n<=p.size:=by rw[hp.size];exact hn
  refine hc.ask hN hp (λz=>?_) (λz=>?_)
  ·rw[dO rfl];have E6:Dn key p (n+1):=hd.more (KeyOrd.kle_of_klt z);split
   ·have e:=hb.same hz;refine Mq hc hN (hp.rev _ _) (by lia) (by lia) (by lia) (by lia) (λi j a b=>?_) (λi a b=>?_) h
    ·rw[e,e];exact E6 i j a b
    ·have:i=n:=by lia
     subst this;rfl
   ·refine Mq hc hN hp (by lia) (by lia) (by lia) (by lia) E6 (λi a b=>?_) h;have:i=n:=by lia
    subst this;rfl
  ·rw[cU (by decide)];refine hc.ask hN hp (λy=>?_) (λy=>?_)
   ·rw[dO rfl];exact h p n q hp h1 hn hq hd hb
   ·rw[cU (by decide)];have e:kq key p (n - 1)=kq key p n:=KeyOrd.kle_antisymm z y;refine Mq hc hN hp (by lia) (by lia) (by lia) (by lia) (hd.more y) (λi a b=>?_) h;show kq key p i=kq key p n;by_cases hi:i < n
    ·rw[hb i (by lia) hi,e]
    ·have:i=n:=by lia
     subst this;rfl
theorem aJQ(hc:zw key N cmp s)(hN:0 < N){n:Nat}{p:Array Nat}{Q:Nat×Array Nat->Shared->Prop}(hp:Row N p)(h1:1<=n)(hn:n<=N)(hd:Dn key p n)(h:∀m p',Row N p'->1<=m->m<=N->Up key p' m->Q (m,p') s):(kas_tail3 n N p).kasWp cmp Q s:=by
 have hz:n<=p.size:=by rw[hp.size];exact hn
 unfold kas_tail3;rw[KasT.kasWp_bind];refine QX hc hN (hp.rev 0 n) rfl h1 hn (λi j a b=>?_) λr a b c _=>h r _ (hp.rev 0 n) (by lia) b c;rw[Mb hz,Mb hz,dO ⟨nv _,by lia⟩,dO ⟨nv _,b⟩];exact hd _ _ (by lia) (by lia)
theorem aCi(hc:zw key N cmp s)(hN:0 < N){n:Nat}{p:Array Nat}{Q:Nat×Array Nat->Shared->Prop}(hp:Row N p)(h1:1<=n)(hn:n < N)(hd:Dn key p n)(hl:O.klt (kq key p n) (kq key p (n - 1)))(h:∀m p',Row N p'->1<=m->m<=N->Up key p' m->Q (m,p') s) :
  (kas_descPart n N p).kasWp cmp Q s:=by
 unfold kas_descPart;rw[KasT.kasWp_bind];refine Mq hc hN hp rfl (by lia) (by lia) (by lia) (hd.more (KeyOrd.kle_of_klt hl)) (λi a b=>by have:i=n:=(by lia);subst this;rfl) λp' n' q' r1 r2 r3 r4 r5 r6=>?_;have hz:n'<=p'.size:=by rw[r1.size];exact r3
 split
 ·refine aJQ hc hN (r1.rev _ _) r2 r3 (λi j a b=>?_) h;have e:=r6.same hz;show O.kle (kq key (kas_rev p' (n' - (q'+1)) n') j) (kq key (kas_rev p' (n' - (q'+1)) n') i);rw[e,e];exact r5 i j a b
 ·exact aJQ hc hN r1 r2 r3 r5 h
theorem aMG(hc:zw key N cmp s)(hN:0 < N){p:Array Nat}{Q:Nat×Array Nat->Shared->Prop}(hp:Row N p)(h:∀m p',Row N p'->1<=m->m<=N->Up key p' m->Q (m,p') s):(kas_count N p).kasWp cmp Q s:=by
 unfold kas_count;rw[KasT.kasWp_bind];refine QX hc hN hp rfl (eR _) hN (λi j a b=>by have:i=j:=(by lia);subst this;exact KeyOrd.kle_refl _) λn a b c d=>?_;have hz:n<=p.size:=by rw[hp.size];exact b
 split
 ·exact h n p hp a b c
 ·rename_i ne;have nN:n < N:=by
   have:n≠N:=λz=>ne (by simp[z]);lia
  split
  ·refine hc.ask hN hp (λz=>?_) (λz=>?_)
   ·rw[dO rfl];exact h n p hp a b c
   ·rw[cU (by decide)];have all:∀i,i < n->kq key p i=kq key p 0:=λi hi=>KeyOrd.kle_antisymm (KeyOrd.kle_trans (c i (n - 1) (by lia) (by lia)) z) (c 0 i (by lia) hi);have e:∀k,kq key (kas_rev p 0 n) k=kq key p k:=λk=>by
     rw[Mb hz];split
     ·rw[all _ (by lia),all k (by lia)]
     ·rfl
    refine aCi hc hN (hp.rev 0 n) a nN (λi j x y=>?_) ?_ h
    ·rw[e,e,all i (by lia),all j y];exact KeyOrd.kle_refl _
    ·rw[e,e];exact d nN
  ·have n1:n=1:=by lia
   subst n1;exact aCi hc hN hp (eR _) nN (λi j x y=>by have:i=j:=(by lia);subst this;exact KeyOrd.kle_refl _) (d nN) h
theorem Rl(hc:zw key N cmp s)(hN:0 < N){p:Array Nat}(hp:Row N p){k:Nat}(hu:Up key p k){Q:Nat->Shared->Prop}:∀{f l r:Nat},l<=r->r<=k->r - l<=f->
  (∀i,i < l->O.kle (kq key p i) (kq key p k))->(∀i,r<=i->i < k->O.klt (kq key p k) (kq key p i))->
  (∀m,m<=k->(∀i,i < m->O.kle (kq key p i) (kq key p k))->(∀i,m<=i->i < k->O.klt (kq key p k) (kq key p i))->Q m s)->(kas_place p k f l r).kasWp cmp Q s
 |0,l,r,hlr,hrk,hf,ha,hb,h=>h l (by lia) ha λi x y=>hb i (by lia) y
 |f+1,l,r,hlr,hrk,hf,ha,hb,h=>by
  unfold kas_place;by_cases g:l ≥ r
  ·rw[dO g];exact h l (by lia) ha λi x y=>hb i (by lia) y
  ·rw[cU g];refine hc.ask hN hp (λz=>?_) (λz=>?_)
   ·rw[dO rfl];refine Rl hc hN hp hu (by lia) (by lia) (by lia) ha (λi x y=>?_) h;exact KeyOrd.klt_of_klt_of_kle z (hu _ i x y)
   ·rw[cU (by decide)];refine Rl hc hN hp hu (by lia) (by lia) (by lia) (λi x=>?_) hb h;exact KeyOrd.kle_trans (hu i _ (by lia) (by lia)) z
theorem ZU(hc:zw key N cmp s)(hN:0 < N){Q:Array Nat->Shared->Prop}:∀{f k:Nat}{p:Array Nat},Row N p->f=N - k->k<=N->Up key p k->(∀p',Row N p'->Up key p' N->Q p' s)->(kas_bin f p k).kasWp cmp Q s
 |0,k,p,hp,hf,hk,hu,h=>h p hp (by have:k=N:=(by lia);subst this;exact hu)
 |f+1,k,p,hp,hf,hk,hu,h=>by
  unfold kas_bin;rw[KasT.kasWp_bind];refine Rl hc hN hp hu (nv _) (eR _) (by lia) (λi x=>by lia) (λi x y=>by lia) λm hm ha hb=>?_;have kz:k < p.size:=by rw[hp.size];lia
  refine ZU hc hN (hp.bub k (k - m)) (by lia) (by lia) (λi j Bc hj=>?_) h;have em:k - (k - m)=m:=by lia
  rw[ZV kz (by lia),ZV kz (by lia),em];by_cases i1:i=m
  ·rw[dO i1];by_cases j1:j=m
   ·rw[dO j1];exact KeyOrd.kle_refl _
   ·rw[cU j1,dO (by lia)];exact KeyOrd.kle_of_klt (hb _ (by lia) (by lia))
  ·rw[cU i1];by_cases i2:m < i/\i<=k
   ·rw[dO i2,cU (by lia),dO (by lia)];exact hu _ _ (by lia) (by lia)
   ·rw[cU i2];by_cases j1:j=m
    ·rw[dO j1];exact ha i (by lia)
    ·rw[cU j1];by_cases j2:m < j/\j<=k
     ·rw[dO j2];exact hu _ _ (by lia) (by lia)
     ·rw[cU j2];exact hu _ _ (by lia) (by lia)
theorem aOP(hc:zw key N cmp s)(hN:0 < N){Q:Array Nat->Shared->Prop}(h:∀p,Row N p->Up key p N->Q p s):(kas_sort N).kasWp cmp Q s:=by
 unfold kas_sort;rw[KasT.kasWp_bind];refine aMG hc hN (Array.Perm.refl _) λm p hp h1 hm hu=>?_;split
 ·rename_i z;have e:max m 1=m:=by lia
  show(kas_bin (N - max m 1) p (max m 1)).kasWp cmp Q s;rw[e];exact ZU hc hN hp rfl hm hu h
 ·rename_i z;have z':¬m < N:=z;have e:m=N:=by lia
  subst e;exact h p hp hu
end
def vB:ae->ae->Bool
 |[],[]=>false
 |[],_::_=>true
 |_::_,[]=>false
 |a::as,b::bs=>if a=b then vB as bs else decide (a < b)
theorem hU(a b:Int)(as bs:ae):vB (a::as) (b::bs)=if a=b then vB as bs else decide (a < b):=rfl
theorem aCj:∀as:ae,vB as as=false
 |[]=>rfl
 |a::as=>by rw[hU,dO rfl];exact aCj as
theorem aDT:∀as bs cs:ae,vB as bs=true->vB bs cs=true->vB as cs=true
 |[],[],_,h,_=>by cases h
 |[],_::_,[],_,h=>by cases h
 |[],_::_,_::_,_,_=>rfl
 |_::_,[],_,h,_=>by cases h
 |_::_,_::_,[],_,h=>by cases h
 |a::as,b::bs,c::cs,h1,h2=>by
  rw[hU] at h1 h2 ⊢;by_cases e1:a=b
  ·subst e1;rw[dO rfl] at h1;by_cases e2:a=c
   ·rw[dO e2] at h2 ⊢;exact aDT as bs cs h1 h2
   ·rw[cU e2] at h2 ⊢;exact h2
  ·rw[cU e1] at h1;have l1:=ud h1;by_cases e2:b=c
   ·subst e2;rw[cU e1];exact h1
   ·rw[cU e2] at h2;have l2:=ud h2;rw[cU (by lia)];exact mv (by lia)
theorem aHI:∀as bs cs:ae,vB as cs=true->vB as bs=true\/vB bs cs=true
 |[],[],_,h=>.inr h
 |[],_::_,_,_=>.inl rfl
 |_::_,_,[],h=>by cases h
 |_::_,[],_::_,_=>.inr rfl
 |a::as,b::bs,c::cs,h=>by
  rw[hU] at h;rw[hU,hU];by_cases e1:a=b
  ·subst e1;rw[dO rfl];by_cases e2:a=c
   ·rw[dO e2] at h ⊢;exact aHI as bs cs h
   ·rw[cU e2] at h ⊢;exact .inr h
  ·rw[cU e1];by_cases e2:b=c
   ·subst e2;rw[cU e1] at h;exact .inl h
   ·rw[cU e2];by_cases l:a < b
    ·exact .inl (mv l)
    ·refine .inr (mv ?_);by_cases e3:a=c
     ·lia
     ·rw[cU e3] at h;have:=ud h;lia
theorem aDU:∀as bs:ae,vB as bs=false->vB bs as=false->as=bs
 |[],[],_,_=>rfl
 |[],_::_,h,_=>by cases h
 |_::_,[],_,h=>by cases h
 |a::as,b::bs,h1,h2=>by
  rw[hU] at h1 h2;by_cases e:a=b
  ·subst e;rw[dO rfl] at h1 h2;rw[aDU as bs h1 h2]
  ·rw[cU e] at h1;rw[cU (Ne.symm e)] at h2;have:=of_decide_eq_false h1;have:=of_decide_eq_false h2;lia
def Fo:KeyOrd:=⟨ae,vB,aCj,aDT,aHI,aDU⟩
theorem aAC:∀{ns:ae}{its:ah},Vals (ns.map V.int) its->IntsAre its ns
 |[],_,r=>by cases r;exact .nil
 |n::ns,_,r=>by
  cases r with
  |cons h t=>
   obtain⟨u,rfl⟩:=h;exact .cons n u (aAC t)
inductive xY (h:Heap):ah->cv->Prop
 |nil:xY h [] []
 |cons {x:Addr} {o:Obj} {xs:Array Value} {k:Nat} {t:ae} {vs:ah} {ts:cv} (e:h.get? x=some o) (c:o.cls=.type "tuple") (d:o.data=.seq xs k) (i:IntsAre xs.toList t) (ne:t≠[]) (r:xY h vs ts):xY h (.ref x::vs) (t::ts)
theorem xY.length{vs:ah}{ts:cv}(r:xY h vs ts):vs.length=ts.length:=by
 induction r with
 |nil=>rfl
 |cons _ _ _ _ _ _ ih=>rw[qh,qh,ih]
theorem xY.at_{h:Heap}{vs:ah}{ts:cv}(r:xY h vs ts):∀{j:Nat},j < vs.length->∃x o xs k,vs.getD j Value.none=.ref x/\h.get? x=some o/\o.data=.seq xs k/\IntsAre xs.toList (ts.getD j []):=by
 induction r with
 |nil=>intro j hj;simp at hj
 |cons e c d i ne r ih=>
  intro j hj;cases j with
  |zero=>exact⟨_,_,_,_,rfl,e,d,i⟩
  |succ j=>exact ih (by simpa using hj)
theorem xY.keeps{h h':Heap}{ts:cv}(r:xY h vs ts)(k:∀(b:Addr) (o:Obj),o.cls=.type "tuple"->h.get? b=some o->h'.get? b=some o):xY h' vs ts:=by
 induction r with
 |nil=>exact .nil
 |cons e c d i ne _ ih=>exact .cons (k _ _ c e) c d i ne ih
theorem xY.aRf{vs:ah}{ts:cv}(r:xY h vs ts):∃fs:ah,KatTups h vs fs/\fs.length=vs.length/\∀v∈fs,∃n u,v=Value.int n u:=by
 induction r with
 |nil=>exact⟨[],.nil,rfl,λv z=>by cases z⟩
 |@cons x o xs k t vs ts e c d i ne _ ih=>
  obtain⟨fs,a1,a2,a3⟩:=ih;obtain⟨n,u,hx⟩ : ∃n u,xs[0]?=some (Value.int n u):=by
   rw[<-RQ];generalize xs.toList=l at i;cases i with
   |nil=>exact absurd rfl ne
   |cons n u _=>exact⟨n,u,rfl⟩
  refine⟨.int n u::fs,.cons e c d hx a1,by rw[qh,qh,a2],λv z=>?_⟩;rcases pN.mp z with z|z
  ·exact⟨n,u,z⟩
  ·exact a3 v z
section
variable{prog:Program}{w:World}{A:Around}{E:ak}{s:Shared}
theorem aHJ{Q:Bool->Shared->Prop}:∀{xs ys:ah}{as bs:ae}{i:Nat}{fin:Bool},IntsAre xs as->IntsAre ys bs->fin=decide (as.length < bs.length)->Q (vB as bs) s->KatLex prog w A true fin Q (xs.zip ys) i s
 |_,_,_,_,i,fin,.nil,.nil,hf,h=>kat_nil (by rw[hf];exact h)
 |_,_,_,_,i,fin,.nil,.cons _ _ _,hf,h=>kat_nil (by rw[hf];exact h)
 |_,_,_,_,i,fin,.cons _ _ _,.nil,hf,h=>kat_nil (by rw[hf];exact h)
 |_,_,_,_,i,fin,.cons a t r,.cons b u q,hf,h=>by
  refine kat_cons (wpAny_eqBool_int ?_);rw[hU] at h;by_cases e:a=b
  ·rw[dO e] at h;rw[show(a == b)=true by simp[e]];refine kat_yes (aHJ r q ?_ h);rw[hf,qh,qh];congr 1;apply propext;constructor <;> intro z <;> lia
  ·rw[cU e] at h;rw[show(a == b)=false by simp[e]];refine kat_no ?_;cases i with
   |zero=>exact oneLt_int h
   |succ i=>
    rw[show(true && (i+1 == 0))=false by simp];exact kat_one _ _ (PyProof.Rows.lt_int h)
theorem aMI{ts:cv}(r:xY s.heap vs ts):zw (O:=Fo) (λi=>ts.getD i []) vs.length (kas_ask prog w A (tuples' true) vs) s:=λi j C hi hj h=>by
 obtain⟨x,ox,xs,n,e1,g1,d1,i1⟩:=r.at_ hi;obtain⟨y,oy,ys,k,e2,g2,d2,i2⟩:=r.at_ hj;unfold kas_ask;rw[e1,e2];refine kat_lt g1 d1 g2 d2 (aHJ i1 i2 ?_ h);rw[<-i1.length,<-i2.length,yu,yu]
def Bt(vs:ah)(p:Array Nat):Array Value:=List.toArray (p.toList.map λi=>vs.getD i Value.none)
theorem aKW{vs:ah}{ts:cv}{n:Nat}{P:PySem.Fin->Shared->Prop}(ho:s.heap.get? a=some (seqObj "list" vs.toArray n))(hT:xY s.heap vs ts)(OR:vs.length < 64)(h:∀p,Row vs.length p->Up (O:=Fo) (λi=>ts.getD i []) p vs.length->P (.done (.ret .none)) { s with heap:=sortedHeap s.heap a vs (Bt vs p) }) :
  wpAny (model prog w) A (Builtin.«list.sort» ⟨[.ref a],[]⟩) P E s:=by
 rw[list_sort_plain];have la:=jX ho;refine bM (listItems_at ho rfl (bM (listUpdate_at ho rfl ?_)));obtain⟨e1,g1⟩ : ∃e,(s.heap.update a (Obj.mapSeq λ_=>#[])).get? a=some (seqObj "list" #[] e):=⟨_,get?_update_seq ho λ_=>#[]⟩
 refine bM (seqEpoch_at g1 rfl (bM (wpAny_newTuple (bM (wpAny_newList (Bu ?_))))));generalize Ox:((s.heap.update a (Obj.mapSeq λ_=>#[])).push (seqObj "tuple" vs.toArray 0)).push (seqObj "list" #[] 0)=h6;have JP:∀b o,b≠a->s.heap.get? b=some o->h6.get? b=some o:=λb o nb e=>by
  have lb:=jX e;rw[<-Ox,MG _ _ _ (rV (by rw[size_push',MF];exact D8 lb)),MG _ _ _ (rV (by rw[MF];exact lb)),Heap.get?_update_ne _ _ _ _ nb];exact e
 have g6:h6.get? a=some (seqObj "list" #[] e1):=by
  rw[<-Ox,MG _ _ _ (rV (by rw[size_push',MF];exact D8 la)),MG _ _ _ (rV (by rw[MF];exact la))];exact g1
 have fin:∀p,Row vs.length p->Up (O:=Fo) (λi=>ts.getD i []) p vs.length->P (.done (.ret .none)) { s with heap:=h6.update a (Obj.mapSeq λ_=>Bt vs p) }:=λp r u=>by
  rw[<-Ox];exact h p r u
 have T6:xY h6 vs ts:=hT.keeps λb o c e=>JP b o (λz=>by rw[z,ho] at e;cases e;exact absurd c (show ¬Value.type "list" = Value.type "tuple" by decide)) e;show wpAny (model prog w) A _ P E { s with heap:=h6 };have hvz:vs.toArray.size=vs.length:=kB;dsimp only;by_cases small:vs.toArray.size < 2
 ·rw[dO small,dO small];refine bM (eE ?_);rw[StateT.run_pure];refine bM (eE ?_);have ev:((vs.toArray.zip vs.toArray).map λx=>x.2)=Bt vs (List.toArray (List.range vs.length)):=by
   unfold Bt
   match vs,hvz,small with
   |[],_,_=>simp
   |[v],_,_=>simp
   |_::_::_,_,z=>simp at z;lia
  refine bM (seqEpoch_at g6 rfl (bM (listUpdate_at g6 rfl ?_ (hsz2:=?_))))
  ·simp only[bne_self_eq_false,D9,if_false];refine eE ?_;show P (.done (.ret .none)) { s with heap:=h6.update a (Obj.mapSeq λ_=>(vs.toArray.zip vs.toArray).map λx=>x.2) };rw[ev];exact fin _ (Array.Perm.refl _) λi j x y=>by
    have z:i=j:=by lia
    subst z;exact KeyOrd.kle_refl _
  ·show((vs.toArray.zip vs.toArray).map λx=>x.2).size<=_;rw[ev,Bt,kB,bO,uz];simp;lia
 ·rw[cU small,cU small];obtain⟨fs,f1,f2,f3⟩:=T6.aRf;refine bM (kat_kind (s:={ s with heap:=h6 }) (T:=.type "int") f1 (by lia) (λv hv=>?_) rfl ?_)
  ·obtain⟨m,u,rfl⟩:=f3 v hv;exact Looks.now
  rw[show(Value.type "int" != Value.type "tuple")=true by decide];refine bM (uo (kat_run (ks:=vs) (vs:=vs) (prog:=prog) (w:=w) (A:=A) (E:=E) (s:={ s with heap:=h6 }) (Q:=λjk s'=>s'={ s with heap:=h6 }/\∃p,p.size=vs.length/\arrOf jk=p.map (kas_item (vs.toArray.zip vs.toArray))/\failedOf jk=none/\Row vs.length p/\Up (O:=Fo) (λi=>ts.getD i []) p vs.length)
   (G:=λp s'=>s'={ s with heap:=h6 }/\Row vs.length p/\Up (O:=Fo) (λi=>ts.getD i []) p vs.length) rfl (by lia) OR (λp jk s' hz KR hf hG=>⟨hG.1,p,hz,KR,hf,hG.2.1,hG.2.2⟩) (aOP (aMI (s:={ s with heap:=h6 }) T6) (by lia) λp r u=>⟨rfl,r,u⟩)) ?_ λ_ _ e=>e)
  rintro ⟨_,jk⟩ s' ⟨rfl,p,hz,KR,hf,hr,hu⟩;dsimp only at KR hf ⊢;have eo:=kat_snds (ks:=vs) (vs:=vs) rfl KR;refine bM (seqEpoch_at g6 rfl (bM (listUpdate_at g6 rfl ?_ (hsz2:=?_))))
  ·rw[hf];simp only[bne_self_eq_false,D9,if_false];refine eE ?_;show P (.done (.ret .none)) { s with heap:=h6.update a (Obj.mapSeq λ_=>(arrOf jk).map (·.2)) };rw[eo];exact fin p hr hu
  ·show((arrOf jk).map (·.2)).size<=_;rw[eo,kB,bO,yu,hz,uz];lia
end
end L2
namespace L2
open PySem PySem.Spec PySem.W PyProof.Rows
theorem range_getD{α:Type}(d:α)(l:List α):(List.range l.length).map (λi=>l.getD i d)=l:=by
 apply List.ext_getElem
 ·simp
 ·intro i h1 h2;simp[qi,eQ h2]
theorem aDV:∀(qs:ao),Vals (qs.map V.ref) (qs.map Value.ref)
 |[]=>.nil
 |q::qs=>.cons rfl (aDV qs)
structure oN(H:Hp)(qs:ao)(ts:cv):Prop where
 len:qs.length=ts.length
 at_:∀(j:Nat) q t,qs[j]?=some q->ts[j]?=some t->H q=some (.tup (t.map V.int))/\t≠[]
theorem oN.tail{t:ae}{ts:cv}(h:oN H (q::qs) (t::ts)):oN H qs ts:=⟨by have:=h.len;simpa using this,λj a b x y=>h.at_ (j+1) a b x y⟩
theorem oN.rW{s:Shared}(I:Inv X pins U H s):∀{qs:ao}{ts:cv},oN H qs ts->xY s.heap (qs.map Value.ref) ts
 |[],[],_=>.nil
 |[],_::_,h=>by have:=h.len;simp at this
 |_::_,[],h=>by have:=h.len;simp at this
 |q::qs,t::ts,h=>by
  obtain⟨e,ne⟩:=h.at_ 0 q t rfl rfl;obtain⟨_,its,r,o,g1,g2,n,g3⟩:=(show bW X.prog X.w H s.heap q (.tup (t.map V.int)) from I.bc q _ e)
  exact .cons g1 g2 g3 (by simpa using aAC r) ne (oN.rW I h.tail)
end L2
namespace L2
open PySem PySem.Spec PyProof.Rows
section
variable{prog:Program}{w:World}{A:Around}{E:ak}{s:Shared}{es:Array DictEntry}{d it vw:Addr}{i ep:Nat}
def Raw(h:Heap)(d:Addr)(es:Array DictEntry)(ep:Nat):Prop:=∃o,h.get? d=some o/\o.cls=.type "dict"/\o.data=.dict es ep
theorem Raw.ty(m:Raw s.heap d es ep):s.TypeIs (.ref d) "dict":=let ⟨o,a,b,_⟩:=m;⟨o,a,b⟩
theorem Raw.keep{h h':Heap}(m:Raw h d es ep)(k:∀o,h.get? d=some o->h'.get? d=some o):Raw h' d es ep:=let ⟨o,a,r⟩:=m;⟨o,k o a,r⟩
theorem aFK(d:Addr)(lo:(d == sysModules)=false):MeetsIn prog w (Builtin.«dict.items» ⟨[.ref d],[]⟩) (λ_ R s=>s.TypeIs (.ref d) "dict"/\
  R (.ok (.ret (.ref s.heap.objs.size))) { s with heap:=s.heap.push { cls:=.type "dict_items",data:=.fields #[.ref d] } }):=
 .of_wp λA R s ⟨ty,h⟩=>by
  unfold Builtin.«dict.items»;with_reducible refine bM ?_;unfold Builtin.Dict.noArgs
  refine bM (wpAny_notOrdered_dict ty (show wpAny _ _ (pure d) _ _ s from eE ?_));show wpAny _ _ (Builtin.Dict.showsAll d >>= _) _ _ s;unfold Builtin.Dict.showsAll;rw[cU (λz=>lz (lo.symm.trans z))];refine bM (eE ?_);exact bM (vb (eE (show _ from⟨_,rfl,h⟩)))
theorem yJ{Q:ak}(hv:s.heap.IsItemsView vw d)(hm:Raw s.heap d es ep)
  (hQ:Q (.ref s.heap.objs.size) { s with heap:=s.heap.push { cls:=.type "dict_itemiterator",data:=.fields #[.none,.bool false,.ref d,.int 0 0,.int es.size 0,.int ep 0,.none,.none] } }) :
  wpAny (model prog w) A (pyIter (.ref vw)) Q E s:=by
 obtain⟨ov,a1,a2,a3⟩:=id hv;obtain⟨o,b1,b2,b3⟩:=id hm;refine wpAny_pyIter_slot hv.typeIs F.slot_dict_items_iter (wk F.slot_dict_items_iter hv.typeIs F.entry_dict_items_iter (show _ from ?_) (F.args_dict_items_iter_1 _));unfold Builtin.«dict_items.__iter__»;refine bM (eE ?_);with_reducible refine bM ?_
 unfold Builtin.Dict_items.dictOf;refine bM (wpAny_field a1 a3 (x:=.ref d) rfl (eE ?_));with_reducible refine bM ?_
 unfold Builtin.Dict_items.newIterator;refine bM (F2 b1 b3 (bM (FZ b1 b3 ?_)));have own:Builtin.Dict_items.ownsTuple "dict_itemiterator" = true:=rfl;simp only[own,if_true];refine vb (eE ⟨_,rfl,"dict_itemiterator",_,⟨_,qI _ rfl,rfl⟩,F.slot_dict_itemiterator_next.lookup,(show _ from ?_)⟩)
  (by simp only[sizeOk,Builtin.Dict_items.ownedTupleFields,kB,jE,qh,MK,uz];decide)
 simpa [Builtin.Dict_items.ownedTupleFields,rawInt] using hQ
theorem aGr{Q:ak}(lo:(d == sysModules)=false)(hm:Raw s.heap d es ep)
  (hQ:Q (.ref s.heap.objs.size) { s with heap:=s.heap.push { cls:=.type "dict_keyiterator",data:=.fields #[.ref d,.int 0 0,.int es.size 0,.int ep 0] } }) :
  wpAny (model prog w) A (pyIter (.ref d)) Q E s:=by
 obtain⟨o,b1,b2,b3⟩:=id hm;refine wpAny_pyIter_slot hm.ty F.slot_dict_iter (wk F.slot_dict_iter hm.ty F.entry_dict_iter (show _ from ?_) (F.args_dict_iter_1 _));unfold Builtin.«dict.__iter__»;with_reducible refine bM ?_;unfold Builtin.Dict.dictSlotNone
 refine bM (wpAny_notOrdered_dict hm.ty (show wpAny _ _ (pure (Value.ref d)) _ _ s from eE ?_));show wpAny _ _ (Builtin.Dict.showsAll d >>= _) _ _ s;unfold Builtin.Dict.showsAll;rw[cU (λz=>lz (lo.symm.trans z))];refine bM (eE ?_);refine bM (F2 b1 b3 (bM (FZ b1 b3 ?_)));refine bM (vb (eE ⟨_,rfl,"dict_keyiterator",_,⟨_,qI _ rfl,rfl⟩,F.slot_dict_keyiterator_next.lookup,(show _ from ?_)⟩));simpa [rawInt] using hQ
def yw(T:String)(h:Heap)(it d:Addr)(i n ep:Nat):Prop:=∃o,h.get? it=some o/\o.cls=.type T/\o.data=.fields #[.ref d,.int i 0,.int n 0,.int ep 0]
theorem yw.ty{n:Nat}(x:yw T s.heap it d i n ep):s.TypeIs (.ref it) T:=let ⟨o,a,b,_⟩:=x;⟨o,a,b⟩
theorem yw.keep{n:Nat}{h h':Heap}(m:yw T h it d i n ep)(k:∀o,h.get? it=some o->h'.get? it=some o):yw T h' it d i n ep:=let ⟨o,a,r⟩:=m;⟨o,k o a,r⟩
theorem yw.turn{n:Nat}{h:Heap}{o:Obj}(a:h.get? it=some o)(b:o.cls=.type T)(c:o.data=.fields #[.ref d,.int i 0,.int n 0,.int ep 0]) :
  yw T (h.update it (Obj.mapFields (·.setIfInBounds 1 (rawInt ((i:Int)+1))))) it d (i+1) n ep:=
 ⟨_,HZ _ a (Obj.isFreed_of_fields (Obj.data_mapFields c _)),(Obj.cls_mapFields ..).trans b,by rw[Obj.data_mapFields c];simp[rawInt]⟩
theorem aHK{Q:aw->Shared->Prop}{e:DictEntry}(hit:yw "dict_keyiterator" s.heap it d i es.size ep)(hm:Raw s.heap d es ep)(hx:es[i]?=some e)
  (hQ:∀h',yw "dict_keyiterator" h' it d (i+1) es.size ep->Heap.SameBut it s.heap h'->Q (some e.key) { s with heap:=h' }):wpAny (model prog w) A (pyNext (.ref it)) Q E s:=by
 obtain⟨o,a1,a2,a3⟩:=id hit;obtain⟨od,b1,b2,b3⟩:=id hm;have ty:=hit.ty;unfold pyNext;refine bM (FX (wpAny_callSpecial?_slot (name:=Str.ofString "__next__") ty F.slot_dict_keyiterator_next
  (wk F.slot_dict_keyiterator_next ty F.entry_dict_keyiterator_next (show _ from ?_) (F.args_dict_keyiterator_next_1 _))))
 refine bM (eE ?_);refine bM (show _ from ?_);refine bM (show _ from ?_);first|refine bM (wpAny_typeNameOfWhole_keyiter ty (show _ from eE ?_))|refine bM (wpAny_typeNameOf_keyiter ty (show _ from eE ?_))
 refine bM (wpAny_fieldsOf a1 a3 (show _ from ?_));have own:Builtin.Dict_items.ownsTuple "dict_keyiterator" = false:=rfl;simp only[own,if_false,D9];show wpAny _ _ (if (Value.ref d == Value.none)=true then _ else _) _ _ s;rw[cU (show ¬((Value.ref d == Value.none)=true) from λz=>nomatch z)];refine bM (eE ?_);refine bM (F2 b1 b3 (show _ from ?_));rw[cU (show _ from by simp)];refine bM (eE ?_);refine bM (FZ b1 b3 (show _ from ?_));rw[cU (show _ from by simp)];refine eE (show _ from ?_);have il:i < es.size:=(Array.getElem?_eq_some_iff.mp hx).1;have ee:es[i]=e:=(Array.getElem?_eq_some_iff.mp hx).2;simp only[show ¬((i:Int) < 0) by lia,if_false,zr,hx];refine bM (show _ from ?_);first|refine bM (wpAny_typeNameOfWhole_keyiter ty (show _ from eE ?_))|refine bM (wpAny_typeNameOf_keyiter ty (show _ from eE ?_))
 refine bM (wpAny_isOneOf_keyiter ty (show _ from ?_));show wpAny _ _ (setField (.ref it) 1 (rawInt ((i:Int)+1)) >>= _) _ _ s;refine bM (HP a1 a3 (show _ by simp) (show _ from ?_));have t2:=yw.turn a1 a2 a3;refine bM (Bu (show _ from ?_));refine bM (wpAny_isOneOf_keyiter (s:={ s with heap:=s.heap.update it (Obj.mapFields (·.setIfInBounds 1 (rawInt ((i:Int)+1)))) }) t2.ty (show _ from ?_));exact eE (eE ⟨_,rfl,eE (hQ _ t2 (Heap.SameBut.update ..))⟩)
theorem aI4{Q:aw->Shared->Prop}(hh:A.handled=none)(hit:yw "dict_keyiterator" s.heap it d i es.size ep)(hm:Raw s.heap d es ep)(hx:es.size<=i)
  (hQ:∀h',Heap.ExtBut it s.heap h'->Q none { s with heap:=h' }):wpAny (model prog w) A (pyNext (.ref it)) Q E s:=by
 obtain⟨o,a1,a2,a3⟩:=id hit;obtain⟨od,b1,b2,b3⟩:=id hm;have ty:=hit.ty;unfold pyNext;refine bM (FX (wpAny_callSpecial?_slot (name:=Str.ofString "__next__") ty F.slot_dict_keyiterator_next
  (wk F.slot_dict_keyiterator_next ty F.entry_dict_keyiterator_next (show _ from ?_) (F.args_dict_keyiterator_next_1 _))))
 refine bM (eE ?_);refine bM (show _ from ?_);refine bM (show _ from ?_);first|refine bM (wpAny_typeNameOfWhole_keyiter ty (show _ from eE ?_))|refine bM (wpAny_typeNameOf_keyiter ty (show _ from eE ?_))
 refine bM (wpAny_fieldsOf a1 a3 (show _ from ?_));have own:Builtin.Dict_items.ownsTuple "dict_keyiterator" = false:=rfl;simp only[own,if_false,D9];show wpAny _ _ (if (Value.ref d == Value.none)=true then _ else _) _ _ s;rw[cU (show ¬((Value.ref d == Value.none)=true) from λz=>nomatch z)];refine bM (eE ?_);refine bM (F2 b1 b3 (show _ from ?_));rw[cU (show _ from by simp)];refine bM (eE ?_);refine bM (FZ b1 b3 (show _ from ?_));rw[cU (show _ from by simp)];refine eE (show _ from ?_);simp only[show ¬((i:Int) < 0) by lia,if_false,zr,Array.getElem?_eq_none hx];refine bM (show _ from ?_);first|refine bM (wpAny_typeNameOfWhole_keyiter ty (show _ from eE ?_))|refine bM (wpAny_typeNameOf_keyiter ty (show _ from eE ?_))
 show wpAny _ _ (setField (.ref it) 0 Value.none >>= _) _ _ s;refine bM (HP a1 a3 (show _ by simp) (show _ from ?_));show wpAny _ _ (newExc (.type "StopIteration") [] >>= _) _ _ _;refine bM (show _ from ?_);simp only[newExc,newTuple];refine bM (vb (show _ from ?_) (by size_fits));refine bM (m:=firstArgMember _ _) (wpAny_of_eq (a:=Value.none) (show _ by first|rfl|(simp only[firstArgMember];rfl)) (show _ from ?_));refine vb (show _ from ?_) (by size_fits);simp only[raiseNew];refine bM (wpAny_handled (show _ from ?_));rw[show A.in1.handled=none from hh];refine bM (eE (wpAny_throw ?_));refine bM (wpAny_isInstance (T:="StopIteration") (b:=true) ⟨_,qI _ rfl,rfl⟩ isSubtype_stop (show _ from ?_));exact eE (hQ _ (show _ from((Heap.SameBut.update ..).extBut.push _).push _))
theorem aAE{Q:aw->Shared->Prop}{e:DictEntry}(hit:IsItemIter s.heap it d i es.size ep ok ov)(hm:Raw s.heap d es ep)(hx:es[i]?=some e)(hQ:∀h',IsItemIterOut h' it d (i+1) es.size ep e.key e.val s.heap.objs.size->h'.get? s.heap.objs.size=some { cls:=.type "tuple",data:=.seq #[e.key,e.val] }->
   h'.objs.size=s.heap.objs.size+1->(∀b o,b≠it->s.heap.get? b=some o->h'.get? b=some o)->Q (some (.ref s.heap.objs.size)) { s with heap:=h' }) :
  wpAny (model prog w) A (pyNext (.ref it)) Q E s:=by
 obtain⟨hp,g,dr,tk,os⟩:=s;obtain⟨od,b1,b2,b3⟩:=id hm;have ty:Shared.TypeIs ⟨hp,g,dr,tk,os⟩ (.ref it) "dict_itemiterator":=⟨_,hit,rfl⟩
 unfold pyNext;refine bM (FX (wpAny_callSpecial?_slot (name:=Str.ofString "__next__") ty F.slot_dict_itemiterator_next
  (wk F.slot_dict_itemiterator_next ty F.entry_dict_itemiterator_next (show _ from ?_) (F.args_dict_itemiterator_next_1 _))))
 refine bM (eE ?_);refine bM (show _ from ?_);refine bM (show _ from ?_);first|refine bM (MY ty (show _ from eE ?_))|refine bM (MT ty (show _ from eE ?_))
 refine bM (wpAny_fieldsOf hit rfl (show _ from ?_));have own:Builtin.Dict_items.ownsTuple "dict_itemiterator" = true:=rfl;simp only[own,if_true];show wpAny _ _ (if (Value.ref d == Value.none)=true then _ else _) _ _ _;rw[cU (show ¬((Value.ref d == Value.none)=true) from λz=>nomatch z)];refine bM (eE ?_);refine bM (F2 b1 b3 (show _ from ?_));rw[cU (show _ from by simp)];refine bM (eE ?_);refine bM (FZ b1 b3 (show _ from ?_));rw[cU (show _ from by simp)];refine eE (show _ from ?_);simp only[show ¬((i:Int) < 0) by lia,if_false,zr,hx];refine bM (show _ from ?_);first|refine bM (MY ty (show _ from eE ?_))|refine bM (MT ty (show _ from eE ?_))
 refine bM (wpAny_isOneOf_itemiter ty (show _ from ?_));show wpAny _ _ (setField (.ref it) 3 (rawInt ((i:Int)+1)) >>= _) _ _ _;refine bM (Bw hit (show _ by simp) λj1 c1 d1=>(show _ from ?_))
 replace d1:Heap.SameBut it hp j1:=d1
 replace c1:IsItemIter j1 it d (i+1) es.size ep ok ov:=by
  unfold IsItemIter;rw[show((i+1:Nat):Int)=(i:Int)+1 by lia];simpa [rawInt] using c1
 have Nc:Shared.TypeIs ⟨j1,g,dr,tk,os⟩ (.ref it) "dict_itemiterator":=⟨_,c1,rfl⟩
 refine bM (Bu (show _ from ?_));refine bM (wpAny_isOneOf_itemiter Nc (bM (wpAny_isOneOf_itemiter Nc (show _ from ?_))));show wpAny _ _ (Builtin.Dict_items.pairFromOwner (.ref it) 6 e.key e.val) _ _ ⟨j1,g,dr,tk,os⟩;unfold Builtin.Dict_items.pairFromOwner;refine bM (wpAny_newTuple (show _ from ?_));have c2:IsItemIter (j1.push { cls:=.type "tuple",data:=.seq #[e.key,e.val] }) it d (i+1) es.size ep ok ov:=fR _ c1;generalize rg:j1.push { cls:=.type "tuple",data:=.seq #[e.key,e.val] } = j2 at c2;have z1:j1.objs.size=hp.objs.size:=d1.1;have il:it < hp.objs.size:=jX hit;have t2:j2.get? hp.objs.size=some { cls:=.type "tuple",data:=.seq #[e.key,e.val] }:=by rw[<-rg,<-z1];exact qI _ rfl
 have z2:j2.objs.size=hp.objs.size+1:=by rw[<-rg,rp,z1]
 have k2:∀b o,b≠it->hp.get? b=some o->j2.get? b=some o:=λb o hb q=>by rw[<-rg];exact fR _ (d1.extBut b o hb q)
 show wpAny _ _ (Builtin.Dict_items.ownedTupleIsFree (.ref it) >>= _) _ _ ⟨j2,g,dr,tk,os⟩;rw[z1];clear rg c1 d1 Nc z1 j1;refine bM (show _ from ?_);unfold Builtin.Dict_items.ownedTupleIsFree;refine bM (wpAny_field c2 rfl (x:=.none) rfl (show _ from eE ?_));simp only[if_true];refine bM (wpAny_field c2 rfl (x:=ok) rfl (bM (wpAny_field c2 rfl (x:=ov) rfl (show _ from ?_))));refine bM (Bw c2 (show _ by simp) λj3 c3 d3=>(show _ from ?_))
 replace d3:Heap.SameBut it j2 j3:=d3;replace c3:IsItemIter j3 it d (i+1) es.size ep e.key ov:=c3
 refine bM (Bw c3 (show _ by simp) λj4 c4 d4=>(show _ from ?_))
 replace d4:Heap.SameBut it j3 j4:=d4;replace c4:IsItemIter j4 it d (i+1) es.size ep e.key e.val:=c4
 refine bM (Bw c4 (show _ by simp) λj5 c5 d5=>(show _ from ?_))
 replace d5:Heap.SameBut it j4 j5:=d5;replace c5:IsItemIterOut j5 it d (i+1) es.size ep e.key e.val hp.objs.size:=c5
 refine bM (Bw c5 (show _ by simp) λj6 c6 d6=>(show _ from ?_))
 replace d6:Heap.SameBut it j5 j6:=d6;replace c6:IsItemIterOut j6 it d (i+1) es.size ep e.key e.val hp.objs.size:=c6
 have up:∀b o,b≠it->j2.get? b=some o->j6.get? b=some o:=λb o hb q=>d6.extBut b o hb (d5.extBut b o hb (d4.extBut b o hb (d3.extBut b o hb q)));refine bM (wpAny_letGo (eE (eE ⟨_,rfl,eE (hQ j6 c6 (up _ _ (xl il) t2) ?_ λb o hb q=>up b o hb (k2 b o hb q))⟩)));show j6.objs.size=_;rw[d6.1,d5.1,d4.1,d3.1,z2]
theorem aCk{Q:aw->Shared->Prop}(hh:A.handled=none)(hit:IsItemIter s.heap it d i es.size ep ok ov)(hm:Raw s.heap d es ep)(hx:es.size<=i)(hQ:∀h',Heap.ExtBut it s.heap h'->Q none { s with heap:=h' }):wpAny (model prog w) A (pyNext (.ref it)) Q E s:=by
 obtain⟨od,b1,b2,b3⟩:=id hm;have ty:s.TypeIs (.ref it) "dict_itemiterator":=⟨_,hit,rfl⟩
 unfold pyNext;refine bM (FX (wpAny_callSpecial?_slot (name:=Str.ofString "__next__") ty F.slot_dict_itemiterator_next
  (wk F.slot_dict_itemiterator_next ty F.entry_dict_itemiterator_next (show _ from ?_) (F.args_dict_itemiterator_next_1 _))))
 refine bM (eE ?_);refine bM (show _ from ?_);refine bM (show _ from ?_);first|refine bM (MY ty (show _ from eE ?_))|refine bM (MT ty (show _ from eE ?_))
 refine bM (wpAny_fieldsOf hit rfl (show _ from ?_));have own:Builtin.Dict_items.ownsTuple "dict_itemiterator" = true:=rfl;simp only[own,if_true];show wpAny _ _ (if (Value.ref d == Value.none)=true then _ else _) _ _ _;rw[cU (show ¬((Value.ref d == Value.none)=true) from λz=>nomatch z)];refine bM (eE ?_);refine bM (F2 b1 b3 (show _ from ?_));rw[cU (show _ from by simp)];refine bM (eE ?_);refine bM (FZ b1 b3 (show _ from ?_));rw[cU (show _ from by simp)];refine eE (show _ from ?_);simp only[show ¬((i:Int) < 0) by lia,if_false,zr,Array.getElem?_eq_none hx];refine bM (show _ from ?_);first|refine bM (MY ty (show _ from eE ?_))|refine bM (MT ty (show _ from eE ?_))
 show wpAny _ _ (setField (.ref it) 2 Value.none >>= _) _ _ s;refine bM (HP hit rfl (show _ by simp) (show _ from ?_));show wpAny _ _ (newExc (.type "StopIteration") [] >>= _) _ _ _;refine bM (show _ from ?_);simp only[newExc,newTuple];refine bM (vb (show _ from ?_) (by size_fits));refine bM (m:=firstArgMember _ _) (wpAny_of_eq (a:=Value.none) (show _ by first|rfl|(simp only[firstArgMember];rfl)) (show _ from ?_));refine vb (show _ from ?_) (by size_fits);simp only[raiseNew];refine bM (wpAny_handled (show _ from ?_));rw[show A.in1.handled=none from hh];refine bM (eE (wpAny_throw ?_));refine bM (wpAny_isInstance (T:="StopIteration") (b:=true) ⟨_,qI _ rfl,rfl⟩ isSubtype_stop (show _ from ?_));exact eE (hQ _ (show _ from((Heap.SameBut.update ..).extBut.push _).push _))
end
section
variable{X:Cx}{pins:ar}{U:St}{H:Hp}{s:Shared}
theorem Inv.aOQ(I:Inv X pins U H s)(e:H d=some (.dT kvs))(ho:s.heap.get? d=some o):Inv X pins U (upd H d (.cx o (.dT kvs))) s:=by
 have nd:∀b u,H b=some u->u≠.dT kvs->b≠d:=λb u q n z=>by rw[z,e] at q;exact n (Option.some.inj q).symm
 refine I.step (h':=s.heap) (g':=s.gens) (d':=s.drawn) (t':=s.toks) (ch:=[]) (λ_ z=>nomatch z) (λb u _ _ _ q _=>q) (λb u _ _ _ q _=>⟨u.slots,q⟩) (λb u _ _ n=>?_)
  (λb u _ q=>⟨u,q⟩) (λb xs q=>?_) (λb u v q=>?_) (λb ps q=>⟨#[],?_⟩) (λm hm=>hm) (λb u q=>?_) I.bare
 ·rw[aV (λz=>by rw[z,e] at n;cases n)];exact n
 ·rw[aV (nd _ _ q (λz=>by cases z))];exact q
 ·rw[aV (nd _ _ q (λz=>by cases z))];exact q
 ·rw[aV (nd _ _ q (λz=>by cases z)),q];simp
 ·have st:∀c v,H c=some v->bW X.prog X.w H s.heap c v->bW X.prog X.w (upd H d (.cx o (.dT kvs))) s.heap c v:=λc v _ z=>
   z.oI (λ_ _ _ z=>z) (λc z=>by rw[aV (nd _ _ z (λy=>by cases y))];exact z) λc xs t z=>by rw[aV (nd _ _ z (λy=>by subst y;exact t))];exact z
  by_cases hb:b=d
  ·subst hb;rw[aP] at q;cases q;exact⟨ho,st b _ e (I.bc b _ e)⟩
  ·rw[aV hb] at q;exact st b u q (I.bc b u q)
end
theorem Ma{H:Hp}:∀{kvs:List (List Key×V)}{xs:List (List Key×Addr×Value)},KT H kvs xs->∀{i:Nat}{p:List Key×V},kvs[i]?=some p->∃q,xs[i]?=some q/\H q.2.1=some (.tup (p.1.map kV))/\RelV p.2 q.2.2
 |[],_,r,i,p,h=>by simp at h
 |a::as,_,r,i,p,h=>by
  cases r with
  |cons x t=>
   cases i with
   |zero=>cases h;exact⟨_,rfl,x.2⟩
   |succ i=>exact Ma t (i:=i) h
theorem QV{h:Heap}{kvs:List (List Key×V)}(x:bW P w H h d (.dT kvs)):(d == sysModules)=false/\∃(o:Obj) (es:Array DictEntry) (ep:Nat) (xs:List (List Key×Addr×Value)),
  h.get? d=some o/\o.ExactDict/\o.data=.dict es ep/\KT H kvs xs/\es.toList=xs.map (entryOfKey (tupleKind (fJ P w)))/\es.size=kvs.length:=by
 obtain⟨z,y,xs,r,o,es,ep,h1,h2,h3,h4,h5⟩:=x;refine⟨y,o,es,ep,xs,h1,h2,h3,r,h4,?_⟩;rw[size_of_entries h4];exact(Paired.length r).symm
def Ec(d:Addr)(o:Obj)(kvs:List (List Key×V)):It:=
 ⟨λi H=>H d=some (.cx o (.dT kvs))/\i < kvs.length,λi H x H'=>∃T b kv,H T=none/\x=.ref T/\kvs[i]?=some kv/\H b=some (.tup (kv.1.map kV))/\H'=upd H T (.tup [.ref b,kv.2]),λi H=>H d=some (.cx o (.dT kvs))/\kvs.length<=i⟩
theorem tL:entryFor table "dict_itemiterator.__iter__" = some Builtin.«dict_keyiterator.__iter__»:=PySem.entryFor_alias (id':="dict_keyiterator.__iter__") (by kernel_rfl) rfl (by decide +kernel) (show _ by kernel_rfl)
theorem aI6{P:Program}{w:World}{K:PySem.W.Frag}{elts:List Expr}{x1:Nat}{tp:Pos}(d it:Addr)(o:Obj)(kvs:List (List Key×V))(es:Array DictEntry)(ep:Nat)(GS:o.cls=.type "dict")(Be:o.data=.dict es ep)(hn:es.size=kvs.length) :
  Turn P w K (.Tuple elts x1 tp) (Ec d o kvs) [it] it (λi h=>∃ok ov,IsItemIter h it d i es.size ep ok ov) where
 mem:=by simp
 obj:=λi h st b hb=>by
  obtain⟨ok,ov,he⟩:=st;have z:b=it:=by simpa using hb
  subst z;exact⟨_,he,λv z=>by cases z⟩
 keep:=λi h h' st k=>by
  obtain⟨ok,ov,he⟩:=st;exact⟨ok,ov,k it (by simp) _ he⟩
 item:=by
  intro X hP hw hK hc i pins s U H E I hf st hg;subst hP hw hK;obtain⟨ok,ov,he⟩:=st;obtain⟨hd,hi⟩:=hg;have hO:bW X.prog X.w H s.heap d (.cx o (.dT kvs)):=I.bc d _ hd;obtain⟨ho,hO⟩:=hO;obtain⟨lo,o',AK,Bk,xs,g1,g2,g3,rel,g4,g5⟩:=QV hO;have eo:o'=o:=Option.some.inj (g1.symm.trans ho);subst eo;have ee:AK=es/\Bk=ep:=by rw[Be] at g3;injection g3 with a b;exact⟨a.symm,b.symm⟩
  obtain⟨e1,e2⟩:=ee;subst e1 e2;have raw:Raw s.heap d AK Bk:=⟨o',ho,GS,Be⟩
  have hx:kvs[i]?=some kvs[i]:=eQ hi;obtain⟨q,hq,hb,rv⟩:=Ma rel hx;have hex:AK[i]?=some (entryOfKey (tupleKind (fJ X.prog X.w)) q):=by rw[entry_at g4,hq];rfl
  have vi:it < s.heap.objs.size:=jX he;refine aAE he raw hex λh1 vq hT hsz hk=>?_;refine⟨_,rfl,wpAny_letOwnedTupleGo_items vq λh2 GP fc=>?_⟩
  replace fc:Heap.SameBut it h1 h2:=fc
  have yl:h2.IsTuple s.heap.objs.size #[.ref q.2.1,q.2.2]:=⟨_,(fc.2 _ (xl vi)).trans hT,rfl,_,rfl⟩
  have kk:∀b o,b∉[it]->s.heap.get? b=some o->h2.get? b=some o:=λb o hb q=>by
   have n1:b≠it:=λz=>hb (by simp[z]);exact(fc.2 b n1).trans (hk b o n1 q)
  have I2:Inv X pins U (upd H s.heap.objs.size (.tup [.ref q.2.1,kvs[i].2])) { s with heap:=h2,toks:=s.toks }:=
   I.xN kk hf (eR _) (show bW X.prog X.w _ h2 _ (.tup [.ref q.2.1,kvs[i].2]) from⟨cA (by simp),[.ref q.2.1,q.2.2],.cons rfl (.cons rv .nil),yl⟩)
  have DA:H s.heap.objs.size=none:=I.bc.fresh (eR _);refine⟨.ref s.heap.objs.size,_,I2,rfl,⟨_,q.2.1,kvs[i],DA,rfl,hx,hb,rfl⟩,⟨_,_,GP⟩,λb hb=>?_⟩;have z:b=it:=by simpa using hb
  subst z;rw[aV (rV vi)];exact(hf b (by simp)).1
 done:=by
  intro X hP hw hK hc i pins s U H E I hf st hg;subst hP hw hK;obtain⟨ok,ov,he⟩:=st;obtain⟨hd,hi⟩:=hg;have hO:bW X.prog X.w H s.heap d (.cx o (.dT kvs)):=I.bc d _ hd;obtain⟨f0,f1,f2,f3,f4,f5⟩:=hf it (by simp);exact aCk (I.ok.hd hc) he ⟨o,hO.1,GS,Be⟩ (by lia) λh' eb=>⟨rfl,I.turned (t':=s.toks) (λb o hb e=>eb b o hb e) f0 f1 f3 f4 f5⟩
 self:=λ_ _ _ _ _ st h=>by
  obtain⟨ok,ov,he⟩:=st;refine wpAny_pyIter_slot ⟨_,he,rfl⟩ F.slot_dict_itemiterator_iter (wk F.slot_dict_itemiterator_iter ⟨_,he,rfl⟩ tL ?_ (F.args_dict_itemiterator_iter_1 _));exact eE ⟨_,rfl,"dict_itemiterator",_,⟨_,he,rfl⟩,F.slot_dict_itemiterator_next.lookup,h⟩
section
variable{X:Cx}{elts:List Expr}{x1:Nat}{tp:Pos}
def R3(R:It->Hp->Prop):V->Hp->Prop:=λx H1=>∃d kvs,x=.ref d/\H1 d=some (.dT kvs)/\∀o,R (Ec d o kvs) (upd H1 d (.cx o (.dT kvs)))
def L9(td:TE):TI:=λU H R=>td U H (R3 R)
theorem aHL{o:Expr}{td:TE}{apos bh:Pos}(ho:PE X o td)(bu:attributeBase o "items" X.env (eval o X.env)=eval o X.env:=by rfl)(bt:(apos.endLine == bh.line)=true:=by rfl) :
  PI X (.Tuple elts x1 tp) (.Call (.Attribute o "items" apos) [] [] bh) (L9 td):=by
 intro pins s U H R I h;refine wpAny_Call_method (T:="dict") (id:="dict.items") bu rfl bt PySem.F.plainAttrs_dict PySem.F.slot_dict_items PySem.F.type_dict_items (eG (ho pins s U H _ I h) λv s1 zq=>?_);obtain⟨x,H1,I1,r1,q1⟩:=zq;obtain⟨d,kvs,e,hd,q⟩:=q1;subst e;cases r1;obtain⟨lo,ob,es,ep,xs,g1,g2,g3,rel,g4,g5⟩:=QV (show bW X.prog X.w H1 s1.heap d (.dT kvs) from I1.bc d _ hd);have raw:Raw s1.heap d es ep:=⟨ob,g1,g2.1,g3⟩
 refine⟨raw.ty,λb z=>by cases z;exact⟨ob,g1,g2.2.1⟩,?_⟩;refine method_meetsIn PySem.F.slot_dict_items PySem.F.entry_dict_items rfl (PySem.evalArgs_none ⟨rfl,raw.ty,PySem.F.args_dict_items_1 _,_,aFK d lo,raw.ty,?_⟩);have I2:=I1.aOQ hd g1;show wpAny _ _ (pyIter (.ref s1.heap.objs.size)) _ _ _;refine yJ (s:={ s1 with heap:=s1.heap.push { cls:=.type "dict_items",data:=.fields #[.ref d] } }) ⟨_,qI _ rfl,rfl,rfl⟩ (raw.keep λo e=>fR _ e) ?_;have hk:∀b u,s1.heap.get? b=some u->((s1.heap.push { cls:=.type "dict_items",data:=.fields #[.ref d] }).push { cls:=.type "dict_itemiterator",data:=.fields #[.none,.bool false,.ref d,.int 0 0,.int es.size 0,.int ep 0,.none,.none] }).get? b=some u:=
  λb u e=>fR _ (fR _ e)
 refine⟨_,[(s1.heap.push { cls:=.type "dict_items",data:=.fields #[.ref d] }).objs.size],_,_,_,rfl,I2.kept (t':=s1.toks) hk,aI6 d _ ob kvs es ep g2.1 g3 g5,⟨_,_,qI _ rfl⟩,λb hb=>?_,q ob⟩;have e:b=(s1.heap.push { cls:=.type "dict_items",data:=.fields #[.ref d] }).objs.size:=by simpa using hb
 have hle:s1.heap.objs.size<=b:=by rw[e,rp];exact Nat.le_succ _
 exact I2.AR hle (I2.bc.fresh hle)
end
section
variable{U:St}{H:Hp}{nx:St->Hp->Prop}{rt:VK}{g:TG}{tb:TS}
theorem aKX{R:It->Hp->Prop}(h:td U H (R3 R)):L9 td U H R:=h
theorem aSi{R:It->Hp->Prop}(h1:H d=some (.dT kvs))(h:∀o,R (Ec d o kvs) (upd H d (.cx o (.dT kvs)))):R3 R (.ref d) H:=⟨d,kvs,rfl,h1,h⟩
theorem vC{kvs:List (List Key×V)}(Pv:Nat->St->Hp->Prop)(h0:Pv 0 U H)(hl:∀i U H,i<=kvs.length->Pv i U H->H d=some (.cx o (.dT kvs)))(hs:∀i kv U H T b,kvs[i]?=some kv->Pv i U H->H T=none->H b=some (.tup (kv.1.map kV))->g (.ref T) U (upd H T (.tup [.ref b,kv.2])) λσ2 H2=>tb ⟨Pv (i+1),rt,nx,Pv (i+1)⟩ σ2 H2)(hd:∀U H,Pv kvs.length U H->nx U H) :
  ∃W:Nat->Nat->St->Hp->Prop,(∃m,W 0 m U H)/\∀i m U H,W i m U H->
   ((Ec d o kvs).stop i H/\nx U H)\/((Ec d o kvs).go i H/\∃N:St->Hp->Prop,(∀U' H',N U' H'->∃m',m' < m/\W (i+1) m' U' H')/\∀x H',(Ec d o kvs).tf i H x H'->g x U H' λσ2 H2=>tb ⟨N,rt,nx,N⟩ σ2 H2):=by
 refine⟨λi m U H=>m=kvs.length - i/\i<=kvs.length/\Pv i U H,⟨kvs.length,by simp,nv _,h0⟩,?_⟩;rintro i m U H ⟨rfl,hi,p⟩;have q:=hl i U H hi p;by_cases fi:i < kvs.length
 ·refine .inr ⟨⟨q,fi⟩,Pv (i+1),λU' H' p'=>⟨kvs.length - (i+1),by lia,rfl,fi,p'⟩,λx H' y=>?_⟩;obtain⟨T,b,kv,hT,e1,hk,hb,e2⟩:=y;subst e1 e2;exact hs i kv U H T b hk p hT hb
 ·have e:i=kvs.length:=by lia
  subst e;exact .inl ⟨⟨q,eR _⟩,hd U H p⟩
end
section
variable{X:Cx}{ek ev:Expr}{tk tv:TE}{pos:Pos}
theorem aKY{A:Around}{E:ak}{kvs:List (List Key×V)}{k:List Key}{Q:Unit->Shared->Prop}(hu:A.units < cLine)(I:Inv X pins U H s)(e:H a=some (.dT kvs))(eb:H b=some (.tup (k.map kV)))(l:kvs.length < sizeLine)(rv:RelV v r)(h:∀s',Inv X pins U (upd H a (.dT (putK kvs k v))) s'->Q () s') :
  wpAny (model X.prog X.w) A (dictSet a (.ref b) r) Q E s:=by
 obtain⟨z,hd,xs,rel,dd⟩:=Zu I.bc e;have hz:xs.length<=sizeLine:=by rw[<-Paired.length rel];exact z
 have hl:(putK kvs k v).length<=sizeLine:=by have:=pQ kvs k v;lia
 refine wpAny_dictSet_heap (hsz:=hz) hu (FQ I.bc eb) dd λh' Bl hs=>h _ ?_;obtain⟨q,es,ep,hq,h2,h3,h4,_,h5⟩:=Bl;refine Mr I (by rw[e];exact True.intro) hs ⟨q,hq⟩ ⟨hl,hd,_,(rel.put k eb rv).keeps λc ys ec=>?_,q,es,ep,hq,h2,h3,h4,h5⟩;rw[aV (ZC ec e (λz=>nomatch z))];exact ec
def L8(tk tv:TE):TE:=λU H Q=>∀d,H d=none->tk U (upd H d (.dT [])) λy H1=>tv U H1 λv H2=>∃b k,y=.ref b/\H2 b=some (.tup (k.map kV))/\H2 d=some (.dT [])/\Q (.ref d) (upd H2 d (.dT [(k,v)]))
theorem aHM(hu:X.A.units < cLine)(hk:PE X ek tk)(hv:PE X ev tv):PE X (.Dict [some ek] [ev] pos) (L8 tk tv):=by
 intro pins s U H Q I h;have hn:H s.heap.objs.size=none:=I.bc.fresh (eR _);have I0:Inv X pins U (upd H s.heap.objs.size (.dT [])) { s with heap:=s.heap.push { cls:=.type "dict",data:=.dict #[] } }:=I.laid (a:=s.heap.objs.size) (o:=.dT []) (t':=s.toks) (λ_ _ q=>fR _ q) (eR _) (aHp s.heap I.big);refine wpAny_Dict_any rfl rfl (by simp) (by simp) ?_;refine pairTrees_cons_walk (eG (hk pins _ U _ _ I0 (h _ hn)) λu s1 ⟨y,H1,I1,r1,q1⟩=>eG (hv pins s1 U H1 _ I1 q1) λv s2 ⟨x,H2,I2,r2,q2⟩=>pairTrees_nil_walk ?_);obtain⟨b,k,e,eb,ed,q⟩:=q2;subst e;cases r1;unfold storeAll;simp only[List.forIn_cons,List.forIn_nil];refine bM (bM (aKY hu I2 ed eb (by rw[uz];decide) r2 λs3 I3=>?_));exact eE (eE ⟨.ref _,_,I3,rfl,q⟩)
end
end L2
namespace L2
section
variable{U:St}{H:Hp}{Q:VK}
theorem aMJ{tk:TE}(h:∀d,H d=none->tk U (upd H d (.dT [])) λy H1=>tv U H1 λv H2=>∃b k,y=.ref b/\H2 b=some (.tup (k.map kV))/\H2 d=some (.dT [])/\Q (.ref d) (upd H2 d (.dT [(k,v)]))):L8 tk tv U H Q:=h
theorem aMK{ty:TE}(h:td U H λx H1=>∃a,x=.ref a/\M7 H1 a/\ty U H1 λy H2=>tx U H2 λz H3=>∃o,rC H3 a y o/\Q (o.getD z) H3):QP td ty tx U H Q:=h
end
end L2
namespace L2.Z
open PySem PySem.Spec PyProof.Rows L2
section
variable{X:Cx}{o e f ek ev:Expr}{td ty tx tk tv:TE}{pos apos bh tp:Pos}{elts:List Expr}{x1:Nat}
theorem aHN(ho:QE X o td)(bu:attributeBase o "items" X.env (eval o X.env)=eval o X.env:=by rfl)(bt:(apos.endLine == bh.line)=true:=by rfl) :
  QI X (.Tuple elts x1 tp) (.Call (.Attribute o "items" apos) [] [] bh) (L9 td):=⟨L2.aHL ho.h bu bt⟩
theorem aHO(hu:X.A.units+9 < cLine)(hk:QE X ek tk)(hv:QE X ev tv):QE X (.Dict [some ek] [ev] pos) (L8 tk tv):=⟨L2.aHM (by lia) hk.h hv.h⟩
theorem vD(hu:X.A.units+9 < cLine)(ho:QE X o td)(he:QE X e ty)(hf:QE X f tx)(base:attributeBase o "get" X.env (eval o X.env)=eval o X.env:=by rfl)
  (yH:((backTo bh (starEach [e,f] X.env)).all (λx=>!x.1) && (backToKw bh (keywordEach [] X.env)).all (λx=>x.1.isSome)
   && decide (([e,f]:List Expr).length+([]:List Keyword).length+(if ([]:List Keyword).isEmpty then 0 else 1) < 30))=true:=by rfl)
  (line:(apos.endLine == bh.line)=true:=by rfl) (trees:backTo bh (starEach [e,f] X.env)=[(false,eval e X.env),(false,eval f X.env)]:=by rfl) :
  QE X (.Call (.Attribute o "get" apos) [e,f] [] bh) (QP td ty tx):=⟨L2.aL1 (by lia) ho.h he.h hf.h ⟨base,yH,line,trees⟩⟩
end
end L2.Z
namespace L2
open PySem PySem.Spec PyProof.Rows
section
variable{U:St}{H:Hp}{Q:VK}{nx:St->Hp->Prop}{rt:VK}{g:TG}{tb:TS}
theorem aML(h:td U H λx H1=>ty U H1 λy H2=>∃a v,x=.ref a/\rC H2 a y (some v)/\Q v H2):Qg td ty U H Q:=h
theorem rC.f{k:List Key}(e:H a=some (.cx o (.dT kvs)))(eb:H b=some (.tup (k.map kV))):rC H a (.ref b) (qL kvs k):=.inr ⟨kvs,k,b,.inr ⟨o,e⟩,rfl,eb,rfl⟩
end
end L2
namespace L2.Z
open PySem PySem.Spec PyProof.Rows L2
section
variable{X:Cx}{o i l tg:Expr}{td ty tl:TE}{pos:Pos}
theorem iL(hu:X.A.units+9 < cLine)(ho:QE X o td)(hi:QE X i ty)(hs:Pk i:=by intro _ _;rfl):QE X (.Subscript o i pos) (Qg td ty):=⟨L2.aN2 (by lia) ho.h hi.h hs⟩
end
end L2.Z
namespace L2
open PySem PySem.Spec PyProof.Rows
section
open PySem.SeqAt
open PySem.AutoSeq1 (wpAny_loadPart')
open PySem.MeetsSeq PySem.MeetsSeq2 PySem.MeetsSeq3
end
structure BC(P:Program)(w:World)(K:W.Frag)(mg:Str->aw)(base:Heap)(k:Nat)(f:Addr)(sp:Sp):Prop where
 ex:∃(o:Obj) (fd:FuncData) (ps:aj),base.get? f=some o/\o.data=.func fd/\bT P w K mg base fS k f fd ps sp/\∀(s:Shared) (us:ah),us.length=ps.length->BindsTo s fd ⟨us,[]⟩ (ps.zip us)
abbrev Fx(q:Str)(params:Arguments)(body:Expr)(scope:Scope)(cl:List (Str×Addr))(pm cd ct:Value):FuncData:=
  { name := "<lambda>", qualname := q, params, body := .expr body, scope, globals := mainGlobals, closure := cl, defaults := .none, kwdefaults := .none, doc := .none, pyModule := pm, annotations := none, code := cd, closureTuple := ct, builtins := builtinsNs }
abbrev vE(q:Str)(scope:Scope)(L f:Addr)(cd:Value)(cl:List (Str×Addr)):Env:=
 { scope:=scope,locals:=L,globals:=mainGlobals,cells:=cl,qual:=q ++ ".<locals>.",func:=some f,code:=cd,frame:=some L,builtins:=builtinsNs }
def G8(P:Program)(w:World)(K:W.Frag)(mg:Str->aw)(base:Heap)(N:aj)(q:Str)(scope:Scope)(f:Addr)(cd:Value)(cl:List (Str×Addr))(A:Around)(outer:List Env)(s:Shared)(H:Hp):Cx where
 prog:=P
 w:=w
 K:=K
 mg:=mg
 base:=base
 A:=A.deeper (vE q scope s.heap.objs.size f cd cl)
 N:=N
 dj:=s
 ui:=H
 env:=vE q scope s.heap.objs.size f cd cl
 outer:=outer
 stack:=vE q scope s.heap.objs.size f cd cl::outer
 ex:=[]
 calm:=true
 fn:=λ_=>false
 pn:=[]
 xe:=λ_ _=>False
structure Pf(base:Heap)(scope:Scope)(N ps:aj)(cl:List (Str×Addr))(cm:St):Prop where
 kind:scope.kind=.function
 co:scope.isCoroutine=false
 gen:scope.isGenerator=false
 fu:∀y∈scope.names,y.2≠.cell
 pre:N.take ps.length=ps
 nd:N.Nodup
 len:N.length=ps.length+cm.length
 par:∀x∈ps,scope.names.lookup x=some .local
 inj:∀x y c,cl.lookup x=some c->cl.lookup y=some c->x=y
 has:∀x,scope.names.lookup x=some .free->∃c,cl.lookup x=some c
 all:∀x c,cl.lookup x=some c->∃o v,base.get? c=some o/\o.data=.cell v
 cm:∀(i:Nat) x v,(N.drop ps.length)[i]?=some x->cm[i]?=some (some v)->scope.names.lookup x=some .free/\∃u c o,RelV v u/\cl.lookup x=some c/\base.get? c=some o/\o.data=.cell (some u)
theorem aJR:∀{l:List (Str×Value)},(l.map (·.1)).Nodup->(x,v)∈l->l.lookup x=some v
 |[],_,h=>by cases h
 |(y,u)::r,nd,h=>by
  rw[su];rcases pN.mp h with e|h'
  ·cases e;rw[beq_self_eq_true]
  ·have ne:x≠y:=λz=>by
    subst z;exact(va.mp nd).1 (jQ.mpr ⟨(x,v),h',rfl⟩)
   rw[beq_eq_false_iff_ne.mpr ne];exact aJR (va.mp nd).2 h'
theorem aOR:∀{P:aj}{us:ah}{i:Nat},P.Nodup->P[i]?=some x->us[i]?=some v->P.length=us.length->(P.zip us).reverse.lookup x=some v:=by
 intro P us i nd h1 h2 hl;have hm:(x,v)∈(P.zip us).reverse:=by
  rw[List.mem_reverse];refine pM (i:=i) ?_;rw[List.getElem?_zip_eq_some];exact⟨h1,h2⟩
 refine aJR ?_ hm;rw[List.map_reverse,List.map_fst_zip (FW hl)];exact List.pairwise_reverse.mpr (nd.imp λh=>Ne.symm h)
def LW(c:Addr)(q:Str)(n:Nat)(tl:TE)(cm:St):Sp:=λws H Q _=>H c=some (.yp q)/\ws.length=n/\tl (ws.map some++cm) H Q
theorem aI7{P:Program}{w:World}{K:W.Frag}{mg:Str->aw}{base:Heap}{N ps:aj}{q:Str}{scope:Scope}{f:Addr}{cd:Value}{cl:List (Str×Addr)}{cm:St}{A:Around}{outer:List Env}{s:Shared}{H:Hp}{us:ah}{vs:List V}{h':Heap}{tk:Nat}
  (S:Pf base scope N ps cl cm) (hd:A.handled=none) (e0:AQ P w K mg base A outer s H) (hl:vs.length=ps.length) (r:Vals vs us)
  (Ba:h'.Ns s.heap.objs.size λx=>(ps.zip us).reverse.lookup x) (hk:∀b o,s.heap.get? b=some o->h'.get? b=some o) :
  Inv (G8 P w K mg base N q scope f cd cl A outer s H) [] (vs.map some++cm) H { s with heap:=h',toks:=tk }:=by
 have yz:∀b:Addr,b∉(G8 P w K mg base N q scope f cd cl A outer s H).ex:=λb z=>absurd (show b∈([]:ao) from z) (by simp);refine⟨⟨e0.mod,S.kind,rfl,rfl,eR _,S.inj,λy hy=>?_,λy c z _=>(by cases z),λ_=>hd,Around.frames_deeper e0.frames,.inr ⟨rfl,rfl⟩,λb z=>absurd z (yz b),e0.bs,e0.zk,λb _ _=>yz b,λb z=>absurd z (yz b),e0.xX,e0.AJ⟩,
  rfl,e0.bare,Un.kept hk,⟨_,Ba,λi y v h1 h2 h3=>?_⟩,λy c h=>?_,e0.bc.fresh (eR _),λy c h=>?_,λp hp=>absurd (show p∈([]:ar) from hp) (by simp),e0.bc.kept hk,?_⟩
 ·have hy:scope.names.lookup y=some .cell\/scope.names.lookup y=some .free:=hy;rcases hy with hy|hy
  ·exact absurd rfl (S.fu _ (PySem.mem_of_lookup hy))
  ·exact S.has y hy
 ·have Bi:N[i]?=some y:=h1;by_cases hi:i < ps.length
  ·rw[rq (by rw[bO];lia),lB] at h2;obtain⟨v',rf,e⟩:=mw.mp h2;cases e;obtain⟨u,hu,rv⟩:=r.get rf;have hp:ps[i]?=some y:=by rw[<-S.pre,MR hi];exact Bi
   have Kq:ps.Nodup:=by rw[<-S.pre];exact S.nd.sublist (List.take_sublist _ _)
   refine⟨u,rv,.inl ⟨S.par y (pM hp),?_⟩⟩;exact aOR Kq hp hu (by rw[<-hl];exact r.length)
  ·obtain⟨j,rfl⟩ : ∃j,i=ps.length+j:=⟨i - ps.length,by lia⟩
   rw[ug (by rw[bO];lia),bO,hl,Nat.add_sub_cancel_left] at h2;obtain⟨hf,u,c,o,rv,ec,eo,ed⟩:=S.cm j y v (by rw[List.getElem?_drop];exact Bi) h2;exact⟨u,rv,.inr ⟨.inr hf,c,ec,o,hk _ _ (e0.bs c o eo).1,ed⟩⟩
 ·obtain⟨o,v,eo,ed⟩:=S.all y c h;exact⟨v,o,hk _ _ (e0.bs c o eo).1,ed⟩
 ·obtain⟨o,v,eo,ed⟩:=S.all y c h;exact(e0.bs c o eo).2
 ·show _=N.length;rw[jE,bO,hl,S.len]
theorem aRh{P:Program}{w:World}{K:W.Frag}{mg:Str->aw}{base:Heap}{k:Nat}{f c:Addr}{q:Str}{params:Arguments}{body:Expr}{scope:Scope}{cl:List (Str×Addr)}{pm ct:Value}{N ps:aj}{cm:St}{tl:TE}{o:Obj}
  (hf:base.get? f=some o) (ho:o.data=.func (Fx q params body scope cl pm (.ref c) ct)) (S:Pf base scope N ps cl cm)
  (ip:∀(A:Around) (outer:List Env) (s:Shared) (H:Hp),fL k (A.deeper (vE q scope s.heap.objs.size f (.ref c) cl))->PE (G8 P w K mg base N q scope f (.ref c) cl A outer s H) body tl) :
  bT P w K mg base fS (k+1) f (Fx q params body scope cl pm (.ref c) ct) ps (LW c q ps.length tl cm):=by
 refine⟨λvs H Q E h=>h.2.1,λA outer s H args us vs Q E hr e0 hb r ic=>?_⟩;obtain⟨Vu,hl,hq⟩:=ic;have lim:s.heap.NoLimit:=e0.mod.nolimit.keeps λb o e=>(e0.bs b o e).1;have oh:s.heap.CodeRec (.ref c) q:=by
  obtain⟨oc,vc,t,z1,z2,z3⟩:=e0.bc c _ Vu;exact⟨c,oc,vc,t,rfl,z1,z2,z3⟩
 refine PySem.W.kla_callFunE hr.depth (e0.bs f _ hf).1 ho S.co S.gen rfl oh (hb _ _ _ _ ?_);refine wpAny_newFunctionEnv S.fu (λy hy=>?_) (λfb Ba Xk=>⟨lim.fresh _ Xk,?_⟩) S.kind
 ·obtain⟨n,v⟩:=y;exact S.par n (ME hy).1
 show codeAny _ _ (.expr body (vE q scope s.heap.objs.size f (.ref c) cl)) _ _;have JS:∀b o,s.heap.get? b=some o->fb.get? b=some o:=λb o e=>Xk.extBut b o (rV (jX e)) (fR _ e);refine PySem.W.kla_codeExpr ?_;have I:=aI7 (tk:=s.toks+(ps.zip us).length) (q:=q) (f:=f) (cd:=.ref c) S hr.hd e0 hl r Ba JS;refine uo (ip A outer s H (hr.deeper _) [] _ _ H _ I hq) (λu s' hs=>?_) λe s' hs=>hs.elim;obtain⟨v,H',J,rv,z⟩:=hs;exact⟨v,H',J.os,J.bare,J.base,J.bc,rv,z⟩
def Bm(base h:Heap)(Z:ao):Heap:=PySem.W.hideAll h ((List.range h.objs.size).filter λa=>!((base.get? a).isSome || Z.contains a))
theorem vF{base h:Heap}(e:h.get? b=some o)(z:(∃u,base.get? b=some u)\/b∈Z):(Bm base h Z).get? b=some o:=by
 refine PySem.W.hideAll_get _ e λhm=>?_;have q:=(yt.mp hm).2;rcases z with ⟨u,z⟩|z
 ·rw[z] at q;simp at q
 ·rw[show Z.contains b=true from List.elem_iff.mpr z] at q;simp at q
theorem aJT{base h:Heap}(e:(Bm base h Z).get? b=some o):h.get? b=some o/\((∃u,base.get? b=some u)\/b∈Z):=by
 have e':h.get? b=some o:=PySem.W.of_hideAll _ e;refine⟨e',?_⟩;cases q1:base.get? b with
 |some u=>exact .inl ⟨u,rfl⟩
 |none=>
  cases q2:Z.contains b with
  |true=>exact .inr (List.elem_iff.mp q2)
  |false=>
   have hm:b∈(List.range h.objs.size).filter λa=>!((base.get? a).isSome || Z.contains a):=yt.mpr ⟨zp.mpr (jX e'),by rw[q1,q2];rfl⟩;have z:(Bm base h Z).get? b=none:=PySem.W.hideAll_none _ hm;rw[z] at e;cases e
theorem Mod.keeps{K:W.Frag}{mg:Str->aw}{base bz:Heap}(M:Mod K mg base)(k:∀b o,base.get? b=some o->bz.get? b=some o):Mod K mg bz:=
 ⟨M.Dq.keeps k,M.glob.keeps k,(let ⟨mb,h1,h2⟩:=M.blt;⟨mb,h1.keeps k,h2⟩),M.nolimit.keeps k,let ⟨bm,o,e1,e2,e3,r⟩:=M.bm;⟨bm,o,e1,e2,k _ _ e3,r⟩⟩
theorem aI8{h:Heap}(hl:h.FunFrames base l)(hz:∀b∈nj l,b∉Z):h.FunFrames (Bm base h Z) l:=by
 induction l with
 |nil=>trivial
 |cons env rest ih=>
  obtain⟨hk,⟨L,o,hf,hn,ho,hd⟩,hr⟩:=hl;have hL:L∈nj (env::rest):=by unfold nj;rw[F8,hf];exact pz
  refine⟨hk,⟨L,o,hf,?_,ho,hd⟩,ih hr λb hb=>hz b (by unfold nj;rw[F8,hf];exact md _ hb)⟩;cases q:(Bm base h Z).get? L with
  |none=>rfl
  |some u=>
   rcases(aJT q).2 with ⟨v,z⟩|z
   ·rw[hn] at z;cases z
   ·exact absurd z (hz L hL)
section
variable{X:Cx}{pins:ar}{U:St}{H:Hp}{s:Shared}{c Pt:Addr}{q:Str}{params:Arguments}{body:Expr}{scope:Scope}{pos eg:Pos}{cl:List (Str×Addr)}
theorem aMM{Q:ak}(I:Inv X pins U H s)(qw:X.env.code=.ref c)(hC:PySem.W.codeHdIn X.K c Pt=true)(hT:H Pt=some (.ig pos q))(hq:X.env.qual ++ "<lambda>" = q)(Ah:defaultsOf params X.env=([],[]))(sh:closureFor scope X.env=pure cl)
  (h:∀(f c':Addr) (pm ct:Value) (o:Obj) (H':Hp) (s':Shared),Inv X pins U H' s'->aO H H'->s'.heap.get? f=some o->o.data=.func (Fx q params body scope cl pm (.ref c') ct)->H' f=none->H' c'=some (.yp q)->s.heap.objs.size<=f->Q (.ref f) s') :
  wpAny (model X.prog X.w) X.A (eval (.Lambda params body scope pos) X.env) Q X.xe s:=by
 obtain⟨ps,eP,ht,hc⟩:=I.bc Pt _ hT;have hg:s.heap.Ns mainGlobals X.mg:=I.mod.glob.keeps I.bk;have hgP:mainGlobals≠Pt:=λz=>by
  obtain⟨o,es,ep,e,hd,_⟩:=hg;rw[z,eP] at e;cases e;cases hd
 have hb:s.heap.BuiltinsAt X.mg Pt:=by
  obtain⟨bm,o,e1,e2,e3,e4,e5,e6⟩:=I.mod.bm;have G6:=I.bk _ _ e3;refine⟨bm,o,e1,e2,λz=>?_,λz=>?_,G6,e4,e5,e6⟩
  ·obtain⟨o',es,ep,e,hd,_⟩:=hg;rw[z,e] at G6;cases G6;rw[hd] at e6;cases e6
  ·rw[z,eP] at G6;cases G6;cases e4
 have XJ:PySem.W.CodeHd s.heap c Pt:=PySem.W.codeHd_of_K I.rX hC;refine PySem.W.kla_eval Ah ?_;rw[hq];rcases hc with hn|⟨c',hs,oh⟩
 ·refine PySem.W.kla_makeFunction (mg:=X.mg) (P:=Pt) (c:=c) (ps:=ps) sh I.ok.glob hg qw XJ eP ht hn hgP hb λc' LD h' tk hx Dz fi Vh Xi=>?_;have Du:H c'=none:=I.bc.fresh Dz;have GD:∀b o,b≠Pt->s.heap.get? b=some o->(h'.push (PySem.W.kla_obj "<lambda>" q params body scope cl ((X.mg "__name__").getD .none) c' LD)).get? b=some o:=λb o n e=>fR _ (hx b o n e);have np:∀b,H b=none->b≠Pt:=λb n z=>by rw[z,hT] at n;cases n
  have ncP:c'≠Pt:=np c' Du;refine h h'.objs.size c' _ LD _ (upd H c' (.yp q)) _ (I.step (h':=h'.push _) (g':=s.gens) (d':=s.drawn) (t':=tk) (ch:=[]) (λ_ z=>nomatch z) (λb o _ _ _ e n=>GD b o (np b n) e) (λb o _ _ _ e n=>⟨o.slots,GD b o (np b n) e⟩)
   (λb o _ e n=>by rw[aV (rV (uJ (jX e) Dz))];exact n) (λb o _ e=>?_) (λb xs e=>by rw[aV (bQ e Du)];exact e) (λb o u e=>by rw[aV (bQ e Du)];exact e)
   (λb ps e=>⟨#[],by rw[aV (bQ e Du),e];simp⟩) (λm hm=>hm.extBut (b:=Pt) GD (np _ I.free)) (λb u e=>?_) I.bare) (aO.new Du) (qI _ rfl) rfl ?_ aP (mf Dz (CH fi))
  ·by_cases GU:b=Pt
   ·subst GU;exact⟨_,fR _ Xi⟩
   ·exact⟨o,GD b o GU e⟩
  ·by_cases XB:b=c'
   ·subst XB;rw[aP] at e;cases e;obtain⟨c2,oc,vs,t,z1,z2,z3,z4⟩:=Vh;cases z1;exact⟨oc,vs,t,fR _ z2,z3,z4⟩
   ·rw[aV XB] at e;by_cases GU:b=Pt
    ·subst GU;rw[hT] at e;cases e;refine⟨_,fR _ Xi,?_,.inr ⟨c',?_,aP⟩⟩
     ·rw[Array.toList_append];exact TriplesOk_snoc _ _ _ _ ht
     ·rw[Array.toList_append];exact codeAmong_snoc _ ht hn
    ·refine(I.bc b u e).oI (λd v hd z=>GD d v ?_ z) (λd z=>by rw[aV (bQ z Du)];exact z) λd xs _ z=>by rw[aV (bQ z Du)];exact z
     rcases hd with z|z
     ·rw[z];exact GU
     ·intro y;rw[y,hT] at z;cases z
  ·rw[aV (xl fi)];exact I.bc.fresh (mf Dz (CH fi))
 ·refine PySem.W.kla_makeFunctionHit (mg:=X.mg) (P:=Pt) (c:=c) (ps:=ps) sh I.ok.glob hg qw XJ eP ht hs hb λLD h' tk hk hsz=>?_;exact h h'.objs.size c' _ LD _ H _ (I.kept λb u e=>fR _ (hk b u e)) (aO.refl _) (qI _ rfl) rfl (I.bc.fresh hsz) oh hsz
def Ih(X:Cx)(es:List Expr)(params:Arguments)(body:Expr)(scope:Scope)(eg:Pos)(Pt:Addr)(q:Str)(cl:List (Str×Addr))(t:TA):Prop:=
 ∀(pos:Pos) (pins:ar) (s:Shared) (U:St) (H:Hp) (Q:List V->Hp->Prop),Inv X pins U H s->t U H (λvs H1=>H1 Pt=some (.ig eg q)/\Q vs H1)->
  wpAny (model X.prog X.w) X.A (spliced (backTo pos (starEach es X.env))) (λus s'=>∃(vs:List V) (As:ah) (f c':Addr) (pm ct:Value) (o:Obj) (H1 H2:Hp),us=As ++ [.ref f]/\Vals vs As/\Inv X pins U H2 s'/\aO H1 H2/\
   s'.heap.get? f=some o/\o.data=.func (Fx q params body scope cl pm (.ref c') ct)/\H2 f=none/\H2 c'=some (.yp q)/\f∉nj X.stack/\Q vs H1) X.xe s
theorem aMN(qw:X.env.code=.ref c)(hC:PySem.W.codeHdIn X.K c Pt=true)(hq:X.env.qual ++ "<lambda>" = q)(Ah:defaultsOf params X.env=([],[])){n:Nat}{idx:List Nat}(S:fX X scope N n idx) :
  Ih X [.Lambda params body scope eg] params body scope eg Pt q (mE X.env scope.names []) mU:=by
 intro pos pins s U H Q I h;obtain⟨hT,hQ⟩:=h;show wpAny _ _ (spliced ((false,eval (.Lambda params body scope eg) X.env)::backTo pos (starEach [] X.env))) _ _ s;refine Calls.spliced_cons (aMM I qw hC hT hq Ah (zU (S.cells I)) λf c' pm ct o H' s' I' sm e1 e2 e3 e4 e5=>?_);refine Calls.spliced_nil ⟨[],[],f,c',pm,ct,o,H,H',rfl,.nil,I',sm,e1,e2,e3,e4,λz=>?_,hQ⟩;obtain⟨_,o',e,_⟩:=I.stack.mem z;exact absurd (uJ (jX e) e5) (ua _)
theorem aMO(ha:PE X e te)(hr:Ih X es params body scope eg Pt q cl t)(hs:starEach (e::es) X.env=(false,eval e X.env)::starEach es X.env:=by rfl) :
  Ih X (e::es) params body scope eg Pt q cl (bY te t):=by
 intro pos pins s U H Q I h;rw[hs];show wpAny _ _ (spliced ((false,eval e X.env)::backTo pos (starEach es X.env))) _ _ s;refine Calls.spliced_cons (eG (ha pins s U H _ I h) λu s1 zq=>?_);obtain⟨x,H1,I1,r1,q1⟩:=zq;refine eG (hr pos pins s1 U H1 (λvs H2=>Q (x::vs) H2) I1 q1) λus s2 zq=>?_;obtain⟨vs,As,f,c',pm,ct,o,H2,H3,e0,r,I3,sm,e1,e2,e3,e4,e5,hQ⟩:=zq;exact⟨x::vs,u::As,f,c',pm,ct,o,H2,H3,by rw[e0];rfl,.cons r1 r,I3,sm,e1,e2,e3,e4,e5,hQ⟩
def QU(Pt:Addr)(eg:Pos)(q:Str)(sp:(Addr->Sp->Prop)->Sp)(n:Nat)(tl:TE)(idx:List Nat)(t:TA):TE:=λU H Q=>t U H λvs H1=>H1 Pt=some (.ig eg q)/\
 ∀(f c':Addr) (H2:Hp) (C:Addr->Sp->Prop),aO H1 H2->H2 c'=some (.yp q)->C f (LW c' q n tl (idx.map λj=>(U[j]?).join))->sp C (vs ++ [.ref f]) H2 Q E0
theorem aMP{f:Addr}{fd:FuncData}{ps psL N:aj}{idx:List Nat}{sp:(Addr->Sp->Prop)->Sp}{k kc:Nat}{x:Str}{p:Pos}{e:Expr}{es:List Expr}{t:TA}{tl:TE}
  (F:∀bz:Heap,bT X.prog X.w X.K X.mg bz fS k f fd ps (sp (BC X.prog X.w X.K X.mg bz (kc+1)))) (hr:fL k X.A) (hg:Gl X x) (hm:X.mg x=some (.ref f)) (hk:W.keepIn X.K (.ref f)=true) (hb:Binds X.K fd ps [])
  (ze:∀y,X.fn y=true) (S:fX X scope N psL.length idx) (uh:N.take psL.length=psL) (Em:psL.all (λx=>scope.names.lookup x == some .local)=true) (OC:scope.isCoroutine=false) (Er:scope.isGenerator=false)
  (oo:∀(cl:List (Str×Addr)) (pm cd ct:Value) (us:ah),us.length=psL.length->bindArgs (Fx q params body scope cl pm cd ct) ⟨us,[]⟩=pure (psL.zip us))
  (ha:Ih X (e::es) params body scope eg Pt q (mE X.env scope.names []) t)
  (ip:∀(bz:Heap) (f' c':Addr) (cl:List (Str×Addr)) (A:Around) (outer:List Env) (s:Shared) (H:Hp),fL kc (A.deeper (vE q scope s.heap.objs.size f' (.ref c') cl))->PE (G8 X.prog X.w X.K X.mg bz N q scope f' (.ref c') cl A outer s H) body tl)
  (jz:(x == ("__debug__" : Str))=false:=by decide) (he:starEach (e::es) X.env=(false,eval e X.env)::starEach es X.env:=by rfl) (vn:(backTo pos (starEach es X.env)).any (·.1)=false:=by rfl) :
  PE X (.Call (.Name x p) (e::es) [] pos) (QU Pt eg q sp psL.length tl idx t):=by
 intro pins s U H Q I h;refine wpAny_Call_Name_kw (Mu I hg hm ?_ jz);refine PySem.W.callWith_K (h₀:=X.base) I.ok.mod.Dq hk (eG (ha pos pins s U H _ I h) λus s1 zq=>?_) he vn;obtain⟨vs,As,fl,c',pm,ct,o,H1,H2,e0,r,I2,sm,e1,e2,e3,e4,e5,hQ⟩:=zq;refine⟨I2.rX,?_⟩;subst e0;generalize sh:mE X.env scope.names []=cl at *
 have BN:=S.cells I2;have O5:∀{y:Str} {d:Addr},cl.lookup y=some d->X.env.cells.lookup y=some d:=λ{y d} z=>nO BN (by rw[sh];exact z)
 have NQ:∀{y:Str} {d:Addr},(y,NameKind.free)∈scope.names->X.env.cells.lookup y=some d->cl.lookup y=some d:=λ{y d} h1 h2=>by rw[<-sh];exact uV BN h1 h2
 have Xb:∀{y:Str} {d:Addr},cl.lookup y=some d->d∈fl::cl.map (·.2):=λ{y d} z=>md _ (jQ.mpr ⟨(y,d),PySem.mem_of_lookup z,rfl⟩)
 have IF:∀d,d∈cl.map (·.2)->∃y,X.env.cells.lookup y=some d:=λd z=>by
  obtain⟨⟨y,d'⟩,hm,e⟩:=jQ.mp z;have e':d'=d:=e;subst e';rw[<-sh] at hm;rcases MA _ _ BN hm with q|q
  ·cases q
  ·exact⟨y,q⟩
 have JO:∀b u,X.base.get? b=some u->(Bm X.base s1.heap (fl::cl.map (·.2))).get? b=some u:=λb u z=>vF (I2.bk b u z) (.inl ⟨u,z⟩);have JM:∀b∈nj X.stack,b∉fl::cl.map (·.2):=λb hb z=>by
  rcases pN.mp z with rfl|z
  ·exact e5 hb
  ·obtain⟨y,hy⟩:=IF b z;rcases pN.mp (I2.Hu b hb) with q|q
   ·exact I2.Cj y b hy q
   ·obtain⟨_,ob,eo,_⟩:=I2.ok.xX.mem q;exact absurd (uJ (jX eo) (I2.ok.Ck y b (ze y) hy)) (ua _)
 have Hg:AQ X.prog X.w X.K X.mg (Bm X.base s1.heap (fl::cl.map (·.2))) X.A X.stack s1 H2:=by
  refine⟨I2.ok.frames,I2.ok.mod.keeps JO,λb u z=>?_,FW (PySem.W.hideAll_size _ _),aI8 I2.stack JM,I2.Mw,I2.bc,I2.bare⟩;obtain⟨z1,z2⟩:=aJT z;refine⟨z1,?_⟩;rcases z2 with ⟨u',z2⟩|z2
  ·exact(I2.bs b u' z2).2
  ·rcases pN.mp z2 with rfl|z2
   ·exact e3
   ·obtain⟨y,hy⟩:=IF b z2;exact I2.fe y b hy
 have V4:Pf (Bm X.base s1.heap (fl::cl.map (·.2))) scope N psL cl (idx.map λj=>(U[j]?).join):=by
  refine⟨S.kind,OC,Er,S.fu,uh,S.nd,by rw[bO];exact S.len,λy hy=>?_,λy z d h1 h2=>I2.ok.inj y z d (O5 h1) (O5 h2),λy hy=>?_,λy d hy=>?_,λi y v h1 h2=>?_⟩
  ·have:=D7.mp Em y hy;simpa using this
  ·have nk:=PySem.mem_of_lookup hy;obtain⟨d,hd⟩:=BN _ nk rfl;exact⟨d,NQ nk hd⟩
  ·obtain⟨v,oc,eo,ed⟩:=I2.cell y d (O5 hy);exact⟨oc,v,vF eo (.inr (Xb hy)),ed⟩
  ·obtain⟨j,z1,z2,z3⟩:=S.cm i y h1;refine⟨z3,?_⟩;rw[lB,z1] at h2;have KU:(U[j]?).join=some v:=Option.some.inj h2;have vq:U[j]?=some (some v):=by
    cases qj:U[j]? with
    |none=>rw[qj] at KU;cases KU
    |some w=>rw[qj] at KU;rw[show w=some v from KU]
   have jl:=PySem.mem_of_lookup z3;have wu:=S.free _ jl rfl;obtain⟨m0,hn0,Xr⟩:=I2.loc;obtain⟨u,ru,l⟩:=Xr j y v z2 vq (by rcases wu with z|z;exact .inr (.inl z);exact .inr (.inr z));rcases l with ⟨z,_⟩|⟨_,d,ed,oc,eo,dd⟩
   ·rcases wu with w|w
    ·rw[w] at z;cases z
    ·rw[w] at z;cases z
   ·exact⟨u,d,oc,ru,NQ jl ed,vF eo (.inr (Xb (NQ jl ed))),dd⟩
 have U4:=aRh (P:=X.prog) (w:=X.w) (K:=X.K) (mg:=X.mg) (N:=N) (ps:=psL) (vF e1 (.inr pz)) e2 V4 (ip _ fl c' cl);have hC:BC X.prog X.w X.K X.mg (Bm X.base s1.heap (fl::cl.map (·.2))) (kc+1) fl (LW c' q psL.length tl (idx.map λj=>(U[j]?).join)):=
  ⟨o,_,psL,vF e1 (.inr pz),e2,U4,λs us hl=>.of_eq (oo cl pm (.ref c') ct us hl)⟩
 have ic:=hQ fl c' H2 _ sm e4 hC;have r2:Vals (vs ++ [.ref fl]) (As ++ [.ref fl]):=r.append (.cons rfl .nil);have hl:(As ++ [Value.ref fl]).length=ps.length:=by rw[<-r2.length];exact(F _).len _ _ _ _ ic
 have yk:=hb s1 (As ++ [.ref fl]) I2.rX (by rw[ub];exact hl);rw[ub] at yk;refine wpAny_call (codeAny_mono ((F _).run X.A X.stack s1 H2 ⟨As ++ [.ref fl],[]⟩ (As ++ [.ref fl]) (vs ++ [.ref fl]) Q E0 hr Hg yk r2 ic) λr s' hq=>?_);cases r with
 |error e=>exact False.elim hq
 |ok fl=>
  cases fl with
  |ret u=>exact I2.after hq
  |next=>exact False.elim hq
  |brk=>exact False.elim hq
  |cont=>exact False.elim hq
def L7(C:Addr->Sp->Prop)(i:Nat)(t:TA):TE:=λU H Q=>∃f sp,U[i]?=some (some (.ref f))/\C f sp/\t U H λvs H1=>sp vs H1 Q E0
theorem Rk{i k:Nat}(hN:X.N[i]?=some x)(hv:DZ X.env.scope x)(hr:fL k X.A)(ha:PA X (e::es) t)(hd:(x == ("__debug__" : Str))=false:=by decide)(oh:(x == ("__classdict__" : Str))=false:=by decide)(he:starEach (e::es) X.env=(false,eval e X.env)::starEach es X.env:=by rfl)(vn:(backTo pos (starEach es X.env)).any (·.1)=false:=by rfl) :
  PE X (.Call (.Name x p) (e::es) [] pos) (L7 (BC X.prog X.w X.K X.mg X.base k) i t):=by
 intro pins s U H Q I h;obtain⟨f,sp,ei,hC,ht⟩:=h;obtain⟨o,fd,ps,ef,ed,F,hb⟩:=hC.ex;refine wpAny_Call_Name_kw (eG (Z2 hN hv hd oh pins s U H (λv H'=>v=.ref f/\H'=H) I ⟨_,ei,rfl,rfl⟩) λu s0 ⟨v,H0,I0,rv,hvf,hH0⟩=>?_);subst hvf hH0;obtain rfl:u=Value.ref f:=rv;have tu:∀{qu U' H' s'},Inv X qu U' H' s'->W.Frag.In [(f,o)] s'.heap:=λ{qu U' H' s'} J a u z=>by
  rw[su] at z;split at z
  ·rename_i hb;cases z;rw[eq_of_beq hb];exact J.bk _ _ ef
  ·cases z
 have hkp:W.keepIn [(f,o)] (.ref f)=true:=by
  obtain⟨oc,od,Ny,wy⟩:=o;have:Ny=.func fd:=ed;subst this;have z:List.lookup f [(f,({ cls:=oc,dict:=od,data:=.func fd,slots:=wy }:Obj))]=some { cls:=oc,dict:=od,data:=.func fd,slots:=wy }:=by rw[su,beq_self_eq_true]
  unfold W.keepIn;dsimp only;rw[z]
 refine PySem.W.callWith_K (h₀:=s0.heap) (tu I0) hkp (eG (ha pos pins s0 U H0 _ I0 ht) λus s1 zq=>?_) he vn;obtain⟨vs,H1,I1,r,q⟩:=zq;refine⟨tu I1,?_⟩;have hl:us.length=ps.length:=by rw[<-r.length];exact F.len _ _ _ _ q
 refine wpAny_call (codeAny_mono (F.run X.A X.stack s1 H1 ⟨us,[]⟩ us vs Q E0 hr I1.Hg (hb s1 us hl) r q) λr s' hq=>?_);cases r with
 |error e=>exact False.elim hq
 |ok fl=>
  cases fl with
  |ret u=>exact I1.after hq
  |next=>exact False.elim hq
  |brk=>exact False.elim hq
  |cont=>exact False.elim hq
end
structure Fn(K:W.Frag)(fd:FuncData)(c Pt:Addr):Prop where
 code:fd.code=.ref c
 hd:PySem.W.codeHdIn K c Pt=true
theorem BB.Gv{P:Program}{w:World}{K:W.Frag}{mg:Str->aw}{base:Heap}{x qual:Str}{st:Stmt}{f c Pt:Addr}{fd:FuncData}{N ps:aj}{k:Nat}{sp:Sp}(F:BB K x qual st f fd)(hc:Fn K fd c Pt)(S:aX N ps (aJ st))(len:∀vs H Q E,sp vs H Q E->vs.length=ps.length)
  (ip:∀(A:Around) (outer:List Env) (s:Shared) (H:Hp) (vs:List V) (Q:VK) (E:XK),fL k (A.deeper (envOfC qual (aJ st) s.heap.objs.size f (.ref c)))->sp vs H Q E->
   ∃t,uu (DQ fS P w K mg base N qual (aJ st) f (.ref c) A outer s H E).EN (iB st) t/\t { nx:=λ_ H'=>Q .br H',rt:=Q } (start N vs) H):bT P w K mg base fS (k+1) f fd ps sp:=by
 obtain⟨oc,od,kV,doc,pm,an,bo,ct,wy,rfl,lk,oh⟩:=F.ex;obtain rfl:bo=.ref c:=hc.code;refine Zy lk oh S len λA outer s H vs Q E hr ic=>?_;obtain⟨t,h,q⟩:=ip A outer s H vs Q E hr ic;exact⟨t,h.EN,q⟩
theorem aFM{β:Type}{p:β}:∀{l:List (Addr×β)},l.lookup b=some p->(b,p)∈l
 |[],h=>by cases h
 |(d,x)::r,h=>by
  rw[su] at h;cases hb:b == d with
  |true=>rw[hb] at h;cases h;rw[eq_of_beq hb];exact .head _
  |false=>rw[hb] at h;exact .tail _ (aFM h)
theorem aK0{K:PySem.W.Frag}{mg mb:Str->aw}{k:Nat}{sp:Sp}{az:Shared}{vs:ah}{ns:ae}{tabs:List (Addr×Pos×Str)}(KX:K.In az.heap)(Ba:az.heap.Ns mainGlobals mg)(hb:az.heap.Ns builtinsNs mb)(yj:∀x:Str,x≠"__name__"->mb x=bootBuiltins x)(Eo:az.heap.NoLimit)(OD:∃bm o,mg "__builtins__" = some (.ref bm)/\bm≠builtinsNs/\az.heap.get? bm=some o/\o.cls=.type "module"/\o.dict=some builtinsNs/\o.data=.plain)(hg:az.gens = #[])(ha:az.heap.get? a=some { cls:=.type "list",data:=.seq vs.toArray })(hi:IntsAre vs ns)(hl:ns.length<=sizeLine)(hr:fL k callerA)(hT:∀t∈tabs,az.heap.get? t.1=some { cls:=.none,data:=.fields #[] }/\K.lookup t.1=none/\∃c,PySem.W.codeHdIn K c t.1=true)(yi:(tabs.map (·.1)).Nodup)(F:∀base:Heap,K.In base->base.Ns mainGlobals mg->bT P w K mg base fS k fa fd [x] sp)(oo:∀(s:Shared) (u:Value),BindsTo s fd ⟨[u],[]⟩ [(x,u)])(ic:∀H:Hp,(∀t∈tabs,H t.1=some (.ig t.2.1 t.2.2))->bP K H a (ns.map V.int)->sp [.ref a] H (λv H'=>v=.bl true/\aO H H') λ_ _ _=>False) :
  codeAny (model P w) callerA (.call (.ref fa) ⟨[.ref a],[]⟩) (λr s'=>r=.ok (.ret (.bool true))/\OldK az.heap s'.heap/\s'.os=az.os/\AllBare s'.gens) az:=by
 have rv:=RA hi;have zy:=hi.length;have core:∀H:Hp,bP K H a (ns.map V.int)->uL P w H az.heap->(∀t∈tabs,H t.1=some (.ig t.2.1 t.2.2))->(∀b u,H b=some u->(b=a/\K.lookup a=none/\∃o xs,u=.cx o (.lst xs))\/∃t∈tabs,b=t.1/\u=.ig t.2.1 t.2.2)->
   codeAny (model P w) callerA (.call (.ref fa) ⟨[.ref a],[]⟩) (λr s'=>r=.ok (.ret (.bool true))/\OldK az.heap s'.heap/\s'.os=az.os/\AllBare s'.gens) az:=by
  intro H hS bc hTH hA;have fz:∀{b:Addr} {o:Obj},az.heap.get? b=some o->H b=none->(xW az.heap H).get? b=some o:=λe n=>aHd e n;have yz:∀{b:Addr} {o:Obj} {es:Array DictEntry} {ep:Nat},az.heap.get? b=some o->o.data=.dict es ep->H b=none:=λ{b o es ep} e d=>by
   cases q:H b with
   |none=>rfl
   |some u=>
    rcases hA b u q with ⟨e',_⟩|⟨t,ht,e',_⟩
    ·subst e';rw[ha] at e;cases e;have d':Data.seq vs.toArray _=Data.dict es ep:=d;cases d'
    ·rw[e',(hT t ht).1] at e;cases e;have d':Data.fields _=Data.dict es ep:=d;cases d'
  have A8:∀{b:Addr} {m:Str->aw},az.heap.Ns b m->(xW az.heap H).Ns b m:=λ{b m} ⟨o,es,ep,e,d,r⟩=>⟨o,es,ep,fz e (yz e d),d,r⟩
  have GY:K.In (xW az.heap H):=λb o e=>fz (KX b o e) (by
   cases q:H b with
   |none=>rfl
   |some u=>
    rcases hA b u q with ⟨e',hn,_⟩|⟨t,ht,e',_⟩
    ·rw[e',hn] at e;cases e
    ·rw[e',(hT t ht).2.1] at e;cases e)
  have Et:∃bm o,mg "__builtins__" = some (.ref bm)/\bm≠builtinsNs/\(xW az.heap H).get? bm=some o/\o.cls=.type "module"/\o.dict=some builtinsNs/\o.data=.plain:=by
   obtain⟨bm,ob,b1,b2,b3,b4,b5,b6⟩:=OD;refine⟨bm,ob,b1,b2,fz b3 ?_,b4,b5,b6⟩;cases q:H bm with
   |none=>rfl
   |some u=>
    rcases hA bm u q with ⟨e',_⟩|⟨t,ht,e',_⟩
    ·rw[e',ha] at b3;cases b3;exact absurd (show Value.type "list" = Value.type "module" from b4) (by decide)
    ·rw[e',(hT t ht).1] at b3;cases b3;exact absurd (show Value.none=Value.type "module" from b4) (by decide)
  have hM:Mod K mg (xW az.heap H):=⟨GY,A8 Ba,⟨mb,A8 hb,yj⟩,(let ⟨mc,h1,h2⟩:=Eo;⟨mc,A8 h1,h2⟩),Et⟩
  have e0:AQ P w K mg (xW az.heap H) callerA [] az H:=⟨rfl,hM,λb o e=>aJD e,FW (aFu _ _),trivial,λb hb=>absurd (show b∈([]:ao) from hb) (by simp),bc,.of_eq hg⟩
  refine codeAny_mono ((F _ GY (A8 Ba)).run callerA [] az H ⟨[.ref a],[]⟩ [.ref a] [.ref a] _ _ hr e0 (oo az (.ref a)) (.cons rfl .nil) (ic H hTH hS)) λr s' h=>?_;cases r with
  |error e=>exact False.elim h
  |ok fl=>
   cases fl with
   |next=>exact False.elim h
   |brk=>exact False.elim h
   |cont=>exact False.elim h
   |ret u=>
    obtain⟨v,H',os,bare,un,BL,r',q,sm⟩:=h;have q':v=.bl true:=q;subst q';obtain rfl:u=Value.bool true:=r';have key:∀b o,az.heap.get? b=some o->s'.heap.get? b=some o\/∃c ps,PySem.W.codeHdIn K c b=true/\o={ cls:=.none,data:=.fields #[] }/\s'.heap.get? b=some { cls:=.none,data:=.fields ps }:=λb o e=>by
     cases q:H b with
     |none=>exact .inl (un.keep b o e q (by intro z;exact absurd (show b∈([]:ao) from z) (by simp)) (by simp))
     |some u=>
      rcases hA b u q with ⟨_,_,ob,xs,rfl⟩|⟨t,ht,e',rfl⟩
      ·have z2:=un.fk b ob _ q;obtain⟨e1,_⟩:=bc b _ q;obtain⟨e2,_⟩:=BL b _ z2;rw[e] at e1;cases e1;exact .inl e2
      ·obtain⟨ps,z,_⟩:=BL b _ (sm b _ q);obtain⟨h1,_,c,hc⟩:=hT t ht;rw[<-e'] at h1 hc;rw[e] at h1;exact .inr ⟨c,ps,hc,Option.some.inj h1,z⟩
    refine⟨rfl,⟨λb o e=>?_,λb o e=>?_⟩,os,bare⟩
    ·rcases key b o e with z|⟨c,ps,hc,rfl,z⟩
     ·exact .inl z
     ·refine .inr (.inl ⟨?_,rfl,#[],ps,rfl,?_⟩)
      ·obtain⟨oc,vs,_,_,_,_,_,_,_,f1,f2,f3,f4,_⟩:=PySem.W.codeHd_of_K KX hc;exact⟨c,oc,vs,f1,f2,f3,f4⟩
      ·rw[z];simp
    ·rcases key b o e with z|⟨c,ps,hc,rfl,z⟩
     ·exact⟨_,z⟩
     ·exact⟨_,z⟩
 have WY:∀t∈tabs,tabs.lookup t.1=some t.2:=by
  clear hT ic core;induction tabs with
  |nil=>intro t h;cases h
  |cons q r ih=>
   intro t ht;rw[su];rcases pN.mp ht with rfl|ht
   ·rw[beq_self_eq_true]
   ·have ne:t.1≠q.1:=λz=>(va.mp yi).1 (jQ.mpr ⟨t,ht,z⟩);rw[beq_eq_false_iff_ne.mpr ne];exact ih (va.mp yi).2 t ht
 have BF:∀{b:Addr} {p:Pos×Str},tabs.lookup b=some p->(b,p)∈tabs:=λ{b p} h=>aFM h
 have naT:∀t∈tabs,t.1≠a:=λt ht z=>by
  have:=(hT t ht).1;rw[z,ha] at this;cases this
 have WK:∀(H:Hp) (t:Addr×Pos×Str),t∈tabs->bW P w H az.heap t.1 (.ig t.2.1 t.2.2):=λH t ht=>⟨#[],(hT t ht).1,trivial,.inl rfl⟩
 cases hk:K.lookup a with
 |some o=>
  have e:=KX a o hk;rw[ha] at e;cases e;refine core (λb=>(tabs.lookup b).map λp=>.ig p.1 p.2) (.inr ⟨_,vs.toArray,_,hk,rfl,rfl,rfl,by rw[kB,zy];exact hl,by simpa using rv⟩) (λb u z=>?_) (λt ht=>?_) λb u z=>?_
  ·obtain⟨p,hp,rfl⟩:=mw.mp z;exact WK _ _ (BF hp)
  ·show(tabs.lookup t.1).map _=_;rw[WY t ht];rfl
  ·obtain⟨p,hp,rfl⟩:=mw.mp z;exact .inr ⟨_,BF hp,rfl,rfl⟩
 |none=>
  refine core (λb=>if b=a then some (.cx { cls:=.type "list",data:=.seq vs.toArray } (.lst (ns.map V.int))) else (tabs.lookup b).map λp=>.ig p.1 p.2) (.inl (.inr ⟨{ cls:=.type "list",data:=.seq vs.toArray },dO rfl⟩)) (λb u z=>?_) (λt ht=>?_) λb u z=>?_
  ·by_cases hb:b=a
   ·have z':=(dO hb).symm.trans z;cases z';subst hb;exact⟨ha,by rw[bO];exact hl,vs,_,rv,ha⟩
   ·have z':=(cU hb).symm.trans z;obtain⟨p,hp,rfl⟩:=mw.mp z';exact WK _ _ (BF hp)
  ·show(if t.1=a then _ else (tabs.lookup t.1).map _)=_;rw[cU (naT t ht),WY t ht];rfl
  ·by_cases hb:b=a
   ·have z':=(dO hb).symm.trans z;cases z';exact .inl ⟨hb,hk,_,_,rfl⟩
   ·have z':=(cU hb).symm.trans z;obtain⟨p,hp,rfl⟩:=mw.mp z';exact .inr ⟨_,BF hp,rfl,rfl⟩
theorem aMQ{l:PySem.W.OpenLaw}{n k:Nat}{XP:(Str->aw)->Heap->Prop}{YP:World->Heap->Prop}{d:DefRec}{K:Params->W.Frag}{sp:World->Sp}{tabs:List (Addr×Pos×Str)}(hn:l.most=some n)(tq:n<=sizeLine)(GQ:d.params.defaults=[])(hr:fL k callerA)(yi:(tabs.map (·.1)).Nodup)(hY:∀(w:World) (h:Heap),YP w h->(K w.params).In h/\∀t∈tabs,h.get? t.1=some { cls:=.none,data:=.fields #[] })(hK:∀(w:World),∀t∈tabs,(K w.params).lookup t.1=none)(F:∀(w:World) (mg:Str->aw) (fa:Addr) (h:Heap),(K w.params).In h->h.Ns mainGlobals mg->mg d.name=some (.ref fa)->(∀t∈tabs,∃c,PySem.W.codeHdIn (K w.params) c t.1=true)/\
   ∃fd:FuncData,(∀(s:Shared) (u:Value),BindsTo s fd ⟨[u],[]⟩ [(x,u)])/\
    ∀base:Heap,(K w.params).In base->base.Ns mainGlobals mg->bT l.prog w (K w.params) mg base fS k fa fd [x] (sp w)) (ic:∀(w:World) (H:Hp) (a:Addr) (ns:ae),ns.length<=n->(∀t∈tabs,H t.1=some (.ig t.2.1 t.2.2))->bP (K w.params) H a (ns.map V.int)->sp w [.ref a] H (λv H'=>v=.bl true/\aO H H') λ_ _ _=>False) :
  PySem.W.WalkO q loose XP YP l.row.toRowW d [] (λf vs=>PySem.call f vs):=by
 refine Att.aHq hn GQ λw dj az mg mb fa o pm cd doc a vs ns G Y ho hd oh GH En hints hlen hg=>?_;obtain⟨KX,hT⟩:=hY w _ Y;obtain⟨Vw,fd,hb,hF⟩:=F w mg fa _ KX G.T.g GH;exact aK0 KX G.T.g G.T.b G.T.builtins G.T.nolimit G.T.bmain hg En hints (mf hlen tq) hr (λt ht=>⟨hT t ht,hK w t ht,Vw t ht⟩) yi hF hb (λH hO hS=>ic w H a ns hlen hO hS)
section
variable{X:Cx}{U:St}{H:Hp}{Q:VK}
theorem aMR{sp:(Addr->Sp->Prop)->Sp}{n:Nat}{idx:List Nat}(h:t U H λvs H1=>H1 Pt=some (.ig eg q)/\
  ∀(f c':Addr) (H2:Hp) (C:Addr->Sp->Prop),aO H1 H2->H2 c'=some (.yp q)->C f (LW c' q n tl (idx.map λj=>(U[j]?).join))->sp C (vs ++ [.ref f]) H2 Q E0):QU Pt eg q sp n tl idx t U H Q:=h
theorem aHP{C:Addr->Sp->Prop}{i:Nat}(e:U[i]?=some (some (.ref f)))(hC:C f sp)(h:t U H λvs H1=>sp vs H1 Q E0):L7 C i t U H Q:=⟨f,sp,e,hC,h⟩
end
end L2
namespace L2.Z
open PySem PySem.Spec PyProof.Rows L2
section
variable{X:Cx}{c Pt:Addr}{q:Str}{params:Arguments}{body:Expr}{scope:Scope}{pos eg:Pos}{cl:List (Str×Addr)}
structure M4(X:Cx)(es:List Expr)(params:Arguments)(body:Expr)(scope:Scope)(eg:Pos)(Pt:Addr)(q:Str)(cl:List (Str×Addr))(t:TA):Prop where
 h:Ih X es params body scope eg Pt q cl t
theorem oO(qw:X.env.code=.ref c)(hC:PySem.W.codeHdIn X.K c Pt=true)(hq:X.env.qual ++ "<lambda>" = q)(Ah:defaultsOf params X.env=([],[])){n:Nat}{idx:List Nat}(S:fX X scope N n idx) :
  M4 X [.Lambda params body scope eg] params body scope eg Pt q (mE X.env scope.names []) mU:=⟨aMN qw hC hq Ah S⟩
theorem jT(ha:QE X e te)(hr:M4 X es params body scope eg Pt q cl t)(hn:noStar e=true:=by rfl):M4 X (e::es) params body scope eg Pt q cl (bY te t):=
 ⟨aMO ha.h hr.h (bU hn)⟩
theorem mJ{psL N:aj}{idx:List Nat}{sp:(Addr->Sp->Prop)->Sp}{k kc:Nat}(F:∀bz:Heap,bT X.prog X.w X.K X.mg bz fS k f fd ps (sp (BC X.prog X.w X.K X.mg bz (kc+1))))(hr:fL k X.A)(hg:Gl X x)(hm:X.mg x=some (.ref f))(hk:PySem.W.keepIn X.K (.ref f)=true)(hb:Binds X.K fd ps [])(ze:∀y,X.fn y=true)(S:fX X scope N psL.length idx)(uh:N.take psL.length=psL)(Em:psL.all (λx=>scope.names.lookup x == some .local)=true)(OC:scope.isCoroutine=false)(Er:scope.isGenerator=false)(oo:∀(cl:List (Str×Addr)) (pm cd ct:Value) (us:ah),us.length=psL.length->bindArgs (Fx q params body scope cl pm cd ct) ⟨us,[]⟩=pure (psL.zip us))(ha:M4 X (e::es) params body scope eg Pt q (mE X.env scope.names []) t)(ip:∀(bz:Heap) (f' c':Addr) (cl:List (Str×Addr)) (A:Around) (outer:List Env) (s:Shared) (H:Hp),fL kc (A.deeper (vE q scope s.heap.objs.size f' (.ref c') cl))->(A.deeper (vE q scope s.heap.objs.size f' (.ref c') cl)).units+9 < cLine->QE (G8 X.prog X.w X.K X.mg bz N q scope f' (.ref c') cl A outer s H) body tl)(hn:(e::es).all noStar=true:=by rfl)(jz:(x == ("__debug__" : Str))=false:=by decide) :
  QE X (.Call (.Name x p) (e::es) [] pos) (QU Pt eg q sp psL.length tl idx t):=
 ⟨L2.aMP F hr hg hm hk hb ze S uh Em OC Er oo ha.h (λbz f' c' cl A outer s H Xm=>(ip bz f' c' cl A outer s H Xm (gZ Xm)).h) jz (bU (jD hn).1) (kF (jD hn).2)⟩
theorem Rk{i k:Nat}(hr:fL k X.A)(ha:QA X (e::es) t)(hN:X.N[i]?=some x:=by rfl)(hv:DZ X.env.scope x:=by first|exact Or.inl rfl|exact Or.inr (Or.inl rfl)|exact Or.inr (Or.inr rfl))(hn:(e::es).all noStar=true:=by rfl)(hd:(x == ("__debug__" : Str))=false:=by decide)(oh:(x == ("__classdict__" : Str))=false:=by decide) :
  QE X (.Call (.Name x p) (e::es) [] pos) (L7 (BC X.prog X.w X.K X.mg X.base k) i t):=⟨L2.Rk hN hv hr ha.h hd oh (bU (jD hn).1) (kF (jD hn).2)⟩
end
end L2.Z
namespace PySem
set_option maxRecDepth 100000
namespace F
theorem aJa:typeLookup (.type "list_reverseiterator") "__len__" = pure none:=by rw[typeLookup_type,builtinLookup_eq_fast];kernel_rfl
theorem aMS:typeLookup (.type "list_reverseiterator") "__length_hint__" = pure (some (.builtin "list_reverseiterator.__length_hint__")):=by rw[typeLookup_type,builtinLookup_eq_fast];kernel_rfl
end F
section
variable{prog:Program}{w:World}{A:Around}{E:ak}{s:Shared}
theorem aDX{i:Int}{Q:Bool->Shared->Prop}(hit:s.heap.IsRevIter it l i)(h:Q false s):wpAny (model prog w) A (Builtin.List.listLengthHint (.ref it)) Q E s:=by
 unfold Builtin.List.listLengthHint;refine bM (wpAny_specialOf hit.typeIs F.aJa ?_);show wpAny _ A (specialOf (Value.ref it) (Str.ofString "__length_hint__") >>= _) _ _ _;refine bM (wpAny_specialOf hit.typeIs F.aMS ?_);generalize Xv:("list_reverseiterator.__length_hint__" : String)=id0
 wp_delta
 rw[show splitId id0=some ("list_reverseiterator","__length_hint__") from by subst Xv;decide +kernel];subst Xv;refine bM (wpAny_isInstance (T:="list_reverseiterator") (b:=true) hit.typeIs (by rw[isSubtype_type];kernel_rfl) ?_);exact wpAny_ite_split (λz=>absurd z (by decide)) λ_=>wpAny_ite_split (λ_=>wpAny_ite_split (λz=>absurd z (by decide +kernel)) λ_=>eE h) λz=>absurd (by decide +kernel) z
theorem aBW{R:Result->Shared->Prop}{items:Array Value}(hh:A.handled=none)(hit:s.heap.IsRevIter it l ((items.size:Int) - 1))(hl:s.heap.IsList l items)(cj:l≠it)(hlen:items.size<=sizeLine)(S:Addr)(res:Value)(c₀:Nat)(hS:s.heap.get? S=some { cls:=.type "list",data:=.seq #[] c₀ })(hSl:S≠l)(XG:S≠it)(hR:∀h' tk ft c',(∀b o,b≠S->b≠it->s.heap.get? b=some o->h'.get? b=some o)->h'.get? S=some { cls:=.type "list",dict:=none,data:=.seq ft c',slots:=#[] }->
   ItemsOf (λi v=>items[items.size - 1 - i]?=some v) ft items.size->R (.ok (.ret res)) { s with heap:=h',toks:=tk }) :
  wpAny (model prog w) A.in1 (Builtin.List.listExtendWith (.ref S) (.ref it) res) (λfin s'=>match fin with|.done f=>R (.ok f) s'|.again k=>k.quiet=true/\codeAny (model prog w) A k R s') (λe s'=>R (.error e) s') s:=by
 have hSf:S∉[it,l]:=by simp[XG,hSl]
 have W:=(Walks.listRev (prog:=prog) (w:=w) (A:=A.in1) hh it l cj items).toS;unfold Builtin.List.listExtendWith;refine bM (wpAny_typeOf (T:="list_reverseiterator") hit.typeIs ?_);have h1:Builtin.List.listSameRef (.ref S) (.ref it)=false:=by simp[Builtin.List.listSameRef,XG]
 have h2:(Value.type "list_reverseiterator" == Value.type "list")=false:=by decide
 have h3:(Value.type "list_reverseiterator" == Value.type "tuple")=false:=by decide
 simp only[h1,h2,h3,D9,Bool.or_false,if_false];refine bM (wpAny_pyIter_revIter hit (bM (Bu (aDX hit ?_))));refine wpAny_ite_split (λz=>by cases z) (λ_=>eE ⟨plainId_quiet F.plain_extend_loop _,?_⟩);refine codeAny_extend_loopS W hlen S hSf res items.size 0 _ #[] c₀ rfl (nv _) ⟨nv _,?_,hl⟩ hS (ItemsOf.nil _) λs' ft c' hm ON se=>?_
 ·rw[show(items.size:Int) - 1 - ((0:Nat):Int)=(items.size:Int) - 1 by lia];exact hit
 ·rw[Moved.eq_with hm];exact hR s'.heap s'.toks ft c' (λb o hb hi e=>hm.heap b o (by simp[hb,hi]) e) ON se
theorem aE1{Q:ak}{items:Array Value}(hh:A.handled=none)(hit:s.heap.IsRevIter it l ((items.size:Int) - 1))(hl:s.heap.IsList l items)(cj:l≠it)(hlen:items.size<=sizeLine)(hQ:∀h' tk ft c',(∀b o,b≠it->s.heap.get? b=some o->h'.get? b=some o)->
   h'.get? s.heap.objs.size=some { cls:=.type "list",dict:=none,data:=.seq ft c',slots:=#[] }->ItemsOf (λi v=>items[items.size - 1 - i]?=some v) ft items.size->Q (.ref s.heap.objs.size) { s with heap:=h',toks:=tk }) :
  wpAny (model prog w) A (call (.type "list") [.ref it]) Q E s:=by
 have lit:it < s.heap.objs.size:=let ⟨_,e,_⟩:=hit;jX e
 have ll:l < s.heap.objs.size:=let ⟨_,e,_⟩:=hl;jX e
 have hS:(s.heap.push { cls:=.type "list",data:=.seq #[] }).get? s.heap.objs.size=some { cls:=.type "list",data:=.seq #[] }:=by exact qI _ rfl
 have JV:=HZ (Obj.mapSeq λ_=>(#[]:Array Value)) hS rfl;have old:∀b o,s.heap.get? b=some o->((s.heap.push { cls:=.type "list",data:=.seq #[] }).update s.heap.objs.size (Obj.mapSeq λ_=>(#[]:Array Value))).get? b=some o:=
  λb o e=>(RT _ _ (xl (jX e))).trans (fR _ e)
 refine callType_codes (Q₁:=λx t=>x=.ref s.heap.objs.size/\t={ s with heap:=s.heap.push { cls:=.type "list",data:=.seq #[] } }) F.called_list (F.typeCall_list_1 _) F.entry_list_init (code_list_new _ ⟨rfl,rfl⟩) ?_;rintro x t ⟨rfl,rfl⟩;refine⟨⟨_,hS,rfl⟩,F.args_list_init_2 _ _,?_⟩;show wpAny _ _ (Builtin.List.listItems (.ref s.heap.objs.size) >>= λold=>Builtin.List.listUpdate (.ref s.heap.objs.size) (λ_=>#[]) >>= λ_=>letGo old.toList.reverse >>= λ_=>Builtin.List.listExtendWith (.ref s.heap.objs.size) (.ref it) .none) _ _ _;refine bM (wpAny_listItems hS rfl ?_);show wpAny _ _ (updateSeq s.heap.objs.size (λ_=>#[]) >>= λ_=>letGo (#[]:Array Value).toList.reverse >>= λ_=>Builtin.List.listExtendWith (.ref s.heap.objs.size) (.ref it) .none) _ _ _;refine bM (wpAny_updateSeq hS rfl (bM (wpAny_letGo (aBW (A:=A.in1) hh (hit.at λo e=>old _ _ e) (hl.at λo e=>old _ _ e) cj hlen s.heap.objs.size .none _ JV (xl ll) (xl lit) λh' tk ft c' hk ON se=>?_))))
 exact⟨rfl,hQ h' tk ft c' (λb o hb e=>hk b o (rV (jX e)) hb (old b o e)) ON se⟩
end
end PySem
namespace L2
open PySem PySem.Spec PyProof.Rows
section
variable{X:Cx}
def Rj(t:TA):TE:=λU H Q=>t U H λvs H1=>∃l xs,vs=[.ref l]/\H1 l=some (.lst xs)/\∀q,H1 q=none->Q (.ref q) (upd H1 q (.lst xs.reverse))
theorem aMT{xs:List V}{us:ah}(r:Vals xs us):Vals xs.reverse us.reverse:=by
 induction r with
 |nil=>exact .nil
 |cons h t ih=>
  simp only[List.reverse_cons];exact ih.append (.cons h .nil)
theorem aJb(hc:X.calm=true)(Oz:Gl X "list")(Dv:X.mg "list" = none)(Oy:Gl X "reversed")(E4:X.mg "reversed" = none)(he:PA X [e] t)(hn:noStar e=true:=by rfl) :
  PE X (.Call (.Name "list" p1) [.Call (.Name "reversed" p2) [e] [] Iy] [] UE) (Rj t):=by
 intro pins s U H Q I h;refine Call_ (oJ I Oz Dv fB (PyProof.Rows.callWith_type1 (Calls.spliced_cons ?_) rfl rfl));refine Call_ (oJ I Oy E4 boot_reversed (PyProof.Rows.callWith_type1 (eG (he Iy pins s U H _ I h) λus s1 zq=>?_) (bU hn) rfl));obtain⟨vs,H1,I1,r1,l,xs,ex,hl,q⟩:=zq;subst ex;obtain⟨u,rfl,ru⟩:=vals1 r1;obtain rfl:u=Value.ref l:=ru;obtain⟨hz,its,n,rv,eo⟩:=I1.bc l _ hl;have JR:s1.heap.IsList l its.toArray:=⟨_,eo,rfl,n,rfl⟩
 refine call_reversed_list JR (Calls.spliced_nil ?_);have Ou:l < s1.heap.objs.size:=jX eo;refine aE1 (it:=s1.heap.objs.size) (l:=l) (items:=its.toArray) (I.ok.hd hc) ⟨_,qI _ rfl,rfl,rfl⟩ ⟨_,fR _ eo,rfl,n,rfl⟩ (rV Ou) (by rw[kB,<-rv.length];exact hz) λh' tk ft c' hk hS ha=>?_;have VP:ft.toList=its.reverse:=by
  obtain⟨h1,h2⟩:=ha;refine List.ext_getElem? λi=>?_;by_cases hi:i < ft.size
  ·have e1:ft[i]?=some ft[i]:=RX hi;have e2:=h2 i _ e1;rw[RQ,e1,List.getElem?_reverse (by rw[h1,kB] at hi;exact hi)];rw[<-e2,kB,List.getElem?_toArray]
  ·rw[CJ (by rw[yu];lia),CJ (by rw[MM];rw[h1,kB] at hi;lia)]
 have hv:Vals xs.reverse ft.toList:=by rw[VP];exact aMT rv
 have sz:s1.heap.objs.size<=(s1.heap.push (revObj l ((its.toArray.size:Int) - 1))).objs.size:=by rw[rp];lia
 exact⟨.ref _,_,I1.laid (t':=tk) (o:=.lst xs.reverse) (λb u e=>hk b u (rV (jX e)) (fR _ e)) sz ⟨by rw[MM];exact hz,ft.toList,c',hv,hS⟩,rfl,q _ (I1.bc.fresh sz)⟩
def LV(K:W.Frag):List V->Hp->VK->Prop:=λvs H Q=>∃(p:Addr) (ns:ae),vs=[.ref p]/\bP K H p (ns.map V.int)/\ns≠[]/\∀m,m∈ns->(∀x∈ns,m<=x)->Q (.int m) H
theorem aFN(hc:X.calm=true):fK X (.builtin "min") (LV X.K):=by
 intro pins s U H vs us Q I r h;obtain⟨p,ns,rfl,hq,cj,q⟩:=h;obtain⟨u,rfl,rx⟩:=vals1 r;cases rx;obtain⟨its,r',pl,hz⟩:=I.list hq;have hi:=intsAre_of r';obtain⟨xs,hx⟩:=hi.allInts.items;have e1:ns=xs.toList.map (·.1):=by rw[<-nums_intItems,<-hx];exact(show numsOf its.toArray.toList=ns from hi.numsOf).symm
 have hsz:0 < xs.size:=by
  have z:=HY.mpr cj;rw[e1,bO,yu] at z;exact z
 refine min_intList (I.ok.hd hc) (hx▸pl.isList:s.heap.IsList p (intItems xs)) hsz λv h' tk hv hk=>?_;obtain⟨t,rfl⟩:=intItems_at hv;obtain⟨h1,h2⟩:=argBest_lt (numAt xs) (xs.size - 1);refine⟨.int _,H,I.kept (t':=tk) hk,⟨t,rfl⟩,q _ ?_ λx qf=>?_⟩
 ·rw[e1,numAt_eq];exact getD_mem (by rw[bO,yu];lia)
 ·rw[e1] at qf;obtain⟨j,hj,rfl⟩:=mem_getD qf;rw[bO,yu] at hj;rw[<-numAt_eq];exact h2 j (by lia)
theorem aJV{K:W.Frag}{H:Hp}{Q:VK}{p:Addr}{ns:ae}(h1:bP K H p (ns.map V.int))(cj:ns≠[])(h:∀m,m∈ns->(∀x∈ns,m<=x)->Q (.int m) H):LV K [.ref p] H Q:=⟨p,ns,rfl,h1,cj,h⟩
def FH:TE:=λ_ H Q=>(∀p,H p=none->Q (.ref p) (upd H p (.dK [])))\/∀p,H p=none->Q (.ref p) (upd H p (.dT []))
theorem aMU:PE X (.Dict [] [] pos) FH:=by
 intro pins s U H Q I h;rcases h with h|h
 ·exact aLZ pins s U H Q I h
 ·exact aL0 pins s U H Q I h
theorem aFO{H:Hp}{Q:VK}(h:∀p,H p=none->Q (.ref p) (upd H p (.dK []))):FH U H Q:=.inl h
theorem Rv{H:Hp}{Q:VK}(h:∀p,H p=none->Q (.ref p) (upd H p (.dT []))):FH U H Q:=.inr h
def Ge(hi:Int)(n:Nat):It:=⟨λi _=>i < n,λi H x H'=>H'=H/\x=.int (hi - i),λi _=>n<=i⟩
theorem aK1{P:Program}{w:World}{K:W.Frag}{tg:Expr}(it:Addr)(hi:Int)(n:Nat):Turn P w K tg (Ge hi n) [it] it (λi h=>IsRangeIter h it (hi+(i:Nat) * -1) ((n:Int) - (i:Nat)) (-1)) where
 mem:=by simp
 obj:=λi h st b hb=>by
  have e:b=it:=by simpa using hb
  rw[e];exact⟨_,st,λv z=>by
   have z':Data.fields _=Data.cell v:=z;cases z'⟩
 keep:=λi h h' st k=>k it (by simp) _ st
 item:=by
  intro X hP hw hK hc i pins s U H E I hf st hg;subst hP hw hK;obtain⟨f0,f1,f2,f3,f4,f5⟩:=hf it (by simp);refine(Walks.range (prog:=X.prog) (w:=X.w) (I.ok.hd hc) it hi (-1) n).item i s _ _ hg st λv h' tk hv jk kk=>?_;obtain⟨t,rfl⟩:=hv;refine⟨_,rfl,LZ (s:={ s with heap:=h',toks:=tk }) (n:="range_iterator") jk rfl rfl (by decide) ⟨.int (hi - i),H,I.turned (λb o hb e=>kk b o (by simpa using hb) e) f0 f1 f3 f4 f5,⟨t,?_⟩,⟨rfl,rfl⟩,jk,λb hb=>(hf b hb).1⟩⟩;congr 1;lia
 done:=by
  intro X hP hw hK hc i pins s U H E I hf st hg;subst hP hw hK;obtain⟨f0,f1,f2,f3,f4,f5⟩:=hf it (by simp);exact wpAny_pyNext_range_end (I.ok.hd hc) st (by have:n<=i:=hg;lia) λh' eb=>⟨rfl,I.turned (t':=s.toks) (λb o hb e=>eb b o hb e) f0 f1 f3 f4 f5⟩
 self:=λ_ _ _ _ _ st h=>wpAny_pyIter_rangeiter st h
theorem aFP(a b:Int):Builtin.Range.rangeSize a b (-1)=(((a - b).toNat:Nat):Int):=by
 unfold Builtin.Range.rangeSize;rw[cU (by decide)];split
 ·rw[show -(-1:Int)=1 from rfl,Int.ediv_one];lia
 ·lia
theorem small_down{a b:Int}(h1:-(2 ^ 62)<=a)(h2:a < 2 ^ 62)(h3:-(2 ^ 62)<=b)(h4:b < 2 ^ 62):Builtin.Range.small a b (-1)=true:=by
 unfold Builtin.Range.small;simp only[aFP,Builtin.Range.rangeFitsLong,xp,Bool.or_eq_true,decide_eq_true_eq,beq_iff_eq];rw[cU (by decide)];simp only[xp,decide_eq_true_eq];lia
def P6(ta:TA):TI:=λU H R=>ta U H λvs H1=>∃i j:Int,vs=[.int i,.int j,.int (-1)]/\(-(2 ^ 62)<=i/\i < 2 ^ 62/\-(2 ^ 62)<=j/\j < 2 ^ 62)/\R (Ge i (i - j).toNat) H1
theorem aK2(hg:Gl X "range")(hm:X.mg "range" = none)(ha:PA X [a,b,c] ta)(hn:[a,b,c].all noStar=true:=by rfl):PI X tg (.Call (.Name "range" p) [a,b,c] [] pos) (P6 ta):=by
 intro pins s U H R I h;refine Call_ (oJ I hg hm boot_range (PyProof.Rows.callWith_type1 (eG (ha pos pins s U H _ I h) λus s1 zq=>?_) (bU (jD hn).1) (kF (jD hn).2)));obtain⟨vs,H1,I1,r1,i,j,e,⟨q1,q2,q3,q4⟩,q⟩:=zq;subst e;obtain⟨u1,us1,rfl,⟨t1,rfl⟩,r2⟩ : ∃u EI,us=u::EI/\RelV (.int i) u/\Vals [.int j,.int (-1)] EI:=by cases r1 with|cons h t=>exact⟨_,_,rfl,h,t⟩
 obtain⟨u2,u3,rfl,⟨t2,rfl⟩,⟨t3,rfl⟩⟩:=vals2 r2;refine call_range_3 (by decide) ?_ (.inl (PyProof.noPylong_small (by decide)));refine wpAny_pyIter_range (IsRange.new ..) (small_down q1 q2 q3 q4) ?_;have I2:Inv X pins U H1 { s1 with heap:=s1.heap.push { cls:=.type "range",data:=.fields #[.int i t1,.int j t2,.int (-1) t3] } }:=I1.kept (t':=s1.toks) λb o e=>fR _ e;refine⟨_,[_],_,_,H1,rfl,I2.kept (t':=s1.toks) λb o e=>fR _ e,aK1 _ i (i - j).toNat,?_,λb hb=>?_,q⟩
 ·show IsRangeIter _ _ (i+((0:Nat):Int) * -1) ((((i - j).toNat:Nat):Int) - ((0:Nat):Int)) (-1);rw[show i+((0:Nat):Int) * -1=i by lia,show(((i - j).toNat:Nat):Int) - ((0:Nat):Int)=Builtin.Range.rangeSize i j (-1) by rw[aFP];lia];exact qI _ rfl
 ·have e:b=(s1.heap.push { cls:=.type "range",data:=.fields #[.int i t1,.int j t2,.int (-1) t3] }).objs.size:=by simpa using hb
  subst e;exact I2.AR (eR _) (I2.bc.fresh (eR _))
theorem aMW{R:It->Hp->Prop}(h:ta U H λvs H1=>∃i j:Int,vs=[.int i,.int j,.int (-1)]/\(-(2 ^ 62)<=i/\i < 2 ^ 62/\-(2 ^ 62)<=j/\j < 2 ^ 62)/\R (Ge i (i - j).toNat) H1):P6 ta U H R:=h
theorem aOS{hi:Int}{n:Nat}{U:St}{H:Hp}{nx:St->Hp->Prop}{rt:VK}{g:TG}{tb:TS}(Pv:Nat->St->Hp->Prop)(h0:Pv 0 U H)
  (hs:∀i U H,i < n->Pv i U H->g (.int (hi - i)) U H λσ2 H2=>tb ⟨Pv (i+1),rt,nx,Pv (i+1)⟩ σ2 H2) (hd:∀U H,Pv n U H->nx U H) :
  ∃W:Nat->Nat->St->Hp->Prop,(∃m,W 0 m U H)/\∀i m U H,W i m U H->
   ((Ge hi n).stop i H/\nx U H)\/((Ge hi n).go i H/\∃N:St->Hp->Prop,(∀U' H',N U' H'->∃m',m' < m/\W (i+1) m' U' H')/\∀x H',(Ge hi n).tf i H x H'->g x U H' λσ2 H2=>tb ⟨N,rt,nx,N⟩ σ2 H2):=by
 refine⟨λi m U H=>m=n - i/\i<=n/\Pv i U H,⟨n,by lia,nv _,h0⟩,?_⟩;rintro i m U H ⟨rfl,Cd,p⟩;by_cases h:i < n
 ·refine .inr ⟨h,Pv (i+1),λU' H' p'=>⟨n - (i+1),by lia,rfl,h,p'⟩,?_⟩;rintro x H' ⟨rfl,rfl⟩;exact hs i U H' h p
 ·have e:i=n:=by lia
  subst e;exact .inl ⟨eR _,hd U H p⟩
end
end L2
namespace L2.Z
open PySem PySem.Spec PyProof.Rows L2
section
variable{X:Cx}{tg:Expr}
theorem aE2(hc:X.calm=true)(Oz:Gl X "list")(Dv:X.mg "list" = none)(Oy:Gl X "reversed")(E4:X.mg "reversed" = none)(he:QA X [e] t)(hn:noStar e=true:=by rfl) :
  QE X (.Call (.Name "list" p1) [.Call (.Name "reversed" p2) [e] [] Iy] [] UE) (Rj t):=⟨L2.aJb hc Oz Dv Oy E4 he.h hn⟩
theorem iM:QE X (.Dict [] [] pos) FH:=⟨L2.aMU⟩
theorem aGx(hg:Gl X "range")(hm:X.mg "range" = none)(ha:QA X [a,b,c] ta)(hn:[a,b,c].all noStar=true:=by rfl):QI X tg (.Call (.Name "range" p) [a,b,c] [] pos) (P6 ta):=⟨L2.aK2 hg hm ha.h hn⟩
theorem aCl{P:Program}{w:World}{K:W.Frag}{mg:Str->aw}{base:Heap}{i k:Nat}{x:Str}{p pos:Pos}{e:Expr}{es:List Expr}{t:TA}(hr:fL k X.A)(ha:QA X (e::es) t)(hP:X.prog=P:=by rfl)(hw:X.w=w:=by rfl)(hK:X.K=K:=by rfl)(hg:X.mg=mg:=by rfl)(hB:X.base=base:=by rfl)
  (hN:X.N[i]?=some x:=by rfl) (hv:DZ X.env.scope x:=by first|exact Or.inl rfl|exact Or.inr (Or.inl rfl)|exact Or.inr (Or.inr rfl))
  (hn:(e::es).all noStar=true:=by rfl) (hd:(x == ("__debug__" : Str))=false:=by decide) (oh:(x == ("__classdict__" : Str))=false:=by decide) :
  QE X (.Call (.Name x p) (e::es) [] pos) (L7 (BC P w K mg base k) i t):=by
 subst hP hw hK hg hB;exact Rk hr ha hN hv hn hd oh
end
end L2.Z
namespace L2
open PySem
section
variable{U:St}{H:Hp}{Q:VK}
theorem aJc(h:t U H λvs H1=>∃l xs,vs=[.ref l]/\H1 l=some (.lst xs)/\∀q,H1 q=none->Q (.ref q) (upd H1 q (.lst xs.reverse))):Rj t U H Q:=h
end
end L2
namespace L2
open PySem PySem.Spec PySem.W PyProof.Rows
section
variable{X:Cx}{pins:ar}{U:St}{H:Hp}{s:Shared}
theorem Zp:∀{kvs:List (Key×V)}{vs:List (Key×Value)},KV kvs vs->∀{i:Nat}{p:Key×V},kvs[i]?=some p->∃q,vs[i]?=some q/\p.1=q.1/\RelV p.2 q.2
 |[],_,r,i,p,h=>by simp at h
 |a::as,_,r,i,p,h=>by
  cases r with
  |cons x t=>
   cases i with
   |zero=>cases h;exact⟨_,rfl,x⟩
   |succ i=>exact Zp t (i:=i) h
theorem ZT{P:Program}{w:World}{H:Hp}{h:Heap}{d:Addr}{kvs:List (Key×V)}(x:bW P w H h d (.dK kvs)):(d == sysModules)=false/\∃(o:Obj) (es:Array DictEntry) (ep:Nat),h.get? d=some o/\o.ExactDict/\o.data=.dict es ep/\es.size=kvs.length/\
  ∀(i:Nat) (p:Key×V),kvs[i]?=some p->∃e,es[i]?=some e/\RelV (kV p.1) e.key/\RelV p.2 e.val:=by
 obtain⟨z,y,vs,r,o,es,ep,h1,h2,h3,h4,h5,h6⟩:=x;have hz:es.size=vs.length:=by rw[<-h5.length];simp
 have hl:kvs.length=vs.length:=Paired.length r;refine⟨y,o,es,ep,h1,h2,h3,by lia,λi p hp=>?_⟩;obtain⟨q,e1,e2,e3⟩:=Zp r hp;have il:i < es.size:=by rw[hz];exact(mT.mp e1).1
 obtain⟨a,b⟩:=h5.get? (e:=es[i]) (by simp[il]) e1;refine⟨es[i],by simp[il],?_,by rw[b];exact e3⟩;have e8:DU q.1 es[i].key=true:=a;rw[e2];rcases eV e8 with ⟨n,t,e7,e9⟩|⟨x,t,e7,e9⟩
 ·rw[e7,e9];exact⟨t,rfl⟩
 ·rw[e7,e9];exact⟨t,rfl⟩
end
def CK(d:Addr)(o:Obj)(kvs:List (Key×V)):It:=
 ⟨λi H=>H d=some (.cx o (.dK kvs))/\i < kvs.length,λi H x H'=>∃T kv,H T=none/\x=.ref T/\kvs[i]?=some kv/\H'=upd H T (.tup [kV kv.1,kv.2]),λi H=>H d=some (.cx o (.dK kvs))/\kvs.length<=i⟩
theorem aHQ{P:Program}{w:World}{K:PySem.W.Frag}{elts:List Expr}{x1:Nat}{tp:Pos}(d it:Addr)(o:Obj)(kvs:List (Key×V))(es:Array DictEntry)(ep:Nat)(GS:o.cls=.type "dict")(Be:o.data=.dict es ep)(hn:es.size=kvs.length) :
  Turn P w K (.Tuple elts x1 tp) (CK d o kvs) [it] it (λi h=>∃ok ov,IsItemIter h it d i es.size ep ok ov) where
 mem:=by simp
 obj:=λi h st b hb=>by
  obtain⟨ok,ov,he⟩:=st;have z:b=it:=by simpa using hb
  subst z;exact⟨_,he,λv z=>by cases z⟩
 keep:=λi h h' st k=>by
  obtain⟨ok,ov,he⟩:=st;exact⟨ok,ov,k it (by simp) _ he⟩
 item:=by
  intro X hP hw hK hc i pins s U H E I hf st hg;subst hP hw hK;obtain⟨ok,ov,he⟩:=st;obtain⟨hd,hi⟩:=hg;have hO:bW X.prog X.w H s.heap d (.cx o (.dK kvs)):=I.bc d _ hd;obtain⟨ho,hO⟩:=hO;obtain⟨lo,o',AK,Bk,g1,g2,g3,g5,row⟩:=ZT hO;have eo:o'=o:=Option.some.inj (g1.symm.trans ho);subst eo;have ee:AK=es/\Bk=ep:=by rw[Be] at g3;injection g3 with a b;exact⟨a.symm,b.symm⟩
  obtain⟨e1,e2⟩:=ee;subst e1 e2;have raw:Raw s.heap d AK Bk:=⟨o',ho,GS,Be⟩
  have hx:kvs[i]?=some kvs[i]:=eQ hi;obtain⟨e,hex,rk,rv⟩:=row i _ hx;have vi:it < s.heap.objs.size:=jX he;refine aAE he raw hex λh1 vq hT hsz hk=>?_;refine⟨_,rfl,wpAny_letOwnedTupleGo_items vq λh2 GP fc=>?_⟩
  replace fc:Heap.SameBut it h1 h2:=fc
  have yl:h2.IsTuple s.heap.objs.size #[e.key,e.val]:=⟨_,(fc.2 _ (xl vi)).trans hT,rfl,_,rfl⟩
  have kk:∀b o,b∉[it]->s.heap.get? b=some o->h2.get? b=some o:=λb o hb q=>by
   have n1:b≠it:=λz=>hb (by simp[z]);exact(fc.2 b n1).trans (hk b o n1 q)
  have I2:Inv X pins U (upd H s.heap.objs.size (.tup [kV kvs[i].1,kvs[i].2])) { s with heap:=h2,toks:=s.toks }:=
   I.xN kk hf (eR _) (show bW X.prog X.w _ h2 _ (.tup [kV kvs[i].1,kvs[i].2]) from⟨cA (by simp),[e.key,e.val],.cons rk (.cons rv .nil),yl⟩)
  have DA:H s.heap.objs.size=none:=I.bc.fresh (eR _);refine⟨.ref s.heap.objs.size,_,I2,rfl,⟨_,kvs[i],DA,rfl,hx,rfl⟩,⟨_,_,GP⟩,λb hb=>?_⟩;have z:b=it:=by simpa using hb
  subst z;rw[aV (rV vi)];exact(hf b (by simp)).1
 done:=by
  intro X hP hw hK hc i pins s U H E I hf st hg;subst hP hw hK;obtain⟨ok,ov,he⟩:=st;obtain⟨hd,hi⟩:=hg;have hO:bW X.prog X.w H s.heap d (.cx o (.dK kvs)):=I.bc d _ hd;obtain⟨f0,f1,f2,f3,f4,f5⟩:=hf it (by simp);exact aCk (I.ok.hd hc) he ⟨o,hO.1,GS,Be⟩ (by lia) λh' eb=>⟨rfl,I.turned (t':=s.toks) (λb o hb e=>eb b o hb e) f0 f1 f3 f4 f5⟩
 self:=λ_ _ _ _ _ st h=>by
  obtain⟨ok,ov,he⟩:=st;refine wpAny_pyIter_slot ⟨_,he,rfl⟩ F.slot_dict_itemiterator_iter (wk F.slot_dict_itemiterator_iter ⟨_,he,rfl⟩ tL ?_ (F.args_dict_itemiterator_iter_1 _));exact eE ⟨_,rfl,"dict_itemiterator",_,⟨_,he,rfl⟩,F.slot_dict_itemiterator_next.lookup,h⟩
section
variable{X:Cx}{elts:List Expr}{x1:Nat}{tp:Pos}{tg:Expr}
def R4(R:It->Hp->Prop):V->Hp->Prop:=λx H1=>∃d kvs,x=.ref d/\H1 d=some (.dK kvs)/\∀o,R (CK d o kvs) (upd H1 d (.cx o (.dK kvs)))
def Mp(td:TE):TI:=λU H R=>td U H (R4 R)
theorem aFQ{o:Expr}{td:TE}{apos bh:Pos}(ho:PE X o td)(bu:attributeBase o "items" X.env (eval o X.env)=eval o X.env:=by rfl)(bt:(apos.endLine == bh.line)=true:=by rfl) :
  PI X (.Tuple elts x1 tp) (.Call (.Attribute o "items" apos) [] [] bh) (Mp td):=by
 intro pins s U H R I h;refine wpAny_Call_method (T:="dict") (id:="dict.items") bu rfl bt PySem.F.plainAttrs_dict PySem.F.slot_dict_items PySem.F.type_dict_items (eG (ho pins s U H _ I h) λv s1 zq=>?_);obtain⟨x,H1,I1,r1,q1⟩:=zq;obtain⟨d,kvs,e,hd,q⟩:=q1;subst e;cases r1;obtain⟨lo,ob,es,ep,g1,g2,g3,g5,row⟩:=ZT (show bW X.prog X.w H1 s1.heap d (.dK kvs) from I1.bc d _ hd);have raw:Raw s1.heap d es ep:=⟨ob,g1,g2.1,g3⟩
 refine⟨raw.ty,λb z=>by cases z;exact⟨ob,g1,g2.2.1⟩,?_⟩;refine method_meetsIn PySem.F.slot_dict_items PySem.F.entry_dict_items rfl (PySem.evalArgs_none ⟨rfl,raw.ty,PySem.F.args_dict_items_1 _,_,aFK d lo,raw.ty,?_⟩);have I2:=I1.freeze hd g1;show wpAny _ _ (pyIter (.ref s1.heap.objs.size)) _ _ _;refine yJ (s:={ s1 with heap:=s1.heap.push { cls:=.type "dict_items",data:=.fields #[.ref d] } }) ⟨_,qI _ rfl,rfl,rfl⟩ (raw.keep λo e=>fR _ e) ?_;have hk:∀b u,s1.heap.get? b=some u->((s1.heap.push { cls:=.type "dict_items",data:=.fields #[.ref d] }).push { cls:=.type "dict_itemiterator",data:=.fields #[.none,.bool false,.ref d,.int 0 0,.int es.size 0,.int ep 0,.none,.none] }).get? b=some u:=
  λb u e=>fR _ (fR _ e)
 refine⟨_,[(s1.heap.push { cls:=.type "dict_items",data:=.fields #[.ref d] }).objs.size],_,_,_,rfl,I2.kept (t':=s1.toks) hk,aHQ d _ ob kvs es ep g2.1 g3 g5,⟨_,_,qI _ rfl⟩,λb hb=>?_,q ob⟩;have e:b=(s1.heap.push { cls:=.type "dict_items",data:=.fields #[.ref d] }).objs.size:=by simpa using hb
 have hle:s1.heap.objs.size<=b:=by rw[e,rp];exact Nat.le_succ _
 exact I2.AR hle (I2.bc.fresh hle)
theorem Inv.Y3{X:Cx}{pins:ar}{U:St}{H:Hp}{s:Shared}{d:Addr}{o:Obj}{kvs:List (Key×V)}(I:Inv X pins U H s)(e:H d=some (.cx o (.dK kvs)))(h0:∀o u,X.ui d≠some (.cx o u)):Inv X pins U (upd H d (.dK kvs)) s:=by
 have nd:∀b u,H b=some u->u≠.cx o (.dK kvs)->b≠d:=λb u q n z=>by rw[z,e] at q;exact n (Option.some.inj q).symm
 have nn:∀b,H b=none->b≠d:=λb q z=>by rw[z,e] at q;cases q
 obtain⟨a1,a2,a3,a4,a5,a6,a7,a8,a9,DY,HI⟩:=I;refine⟨a1,a2,a3,⟨a4.keep,a4.slot,λb u q n hx=>?_,a4.there,λb xs q=>?_,λb u v q=>?_,λb ps q=>?_⟩,a5,a6,?_,λx c q=>?_,λp hp=>?_,λb u q=>?_,HI⟩
 ·have:=a4.free b u q n hx;rw[aV (nn b this)];exact this
 ·have:=a4.rW b xs q;rw[aV (nd b _ this (λz=>by cases z))];exact this
 ·have:=a4.fk b u v q;rw[aV (λz=>h0 u v (by rw[<-z];exact q))];exact this
 ·obtain⟨more,this⟩:=a4.jq b ps q;exact⟨more,by rw[aV (nd b _ this (λz=>by cases z))];exact this⟩
 ·rw[aV (nn _ a7)];exact a7
 ·rw[aV (nn _ (a8 x c q))];exact a8 x c q
 ·obtain⟨b1,b2,b3⟩:=a9 p hp;exact⟨b1,by rw[aV (nn _ b2)];exact b2,b3⟩
 ·have st:∀c v,bW X.prog X.w H s.heap c v->bW X.prog X.w (upd H d (.dK kvs)) s.heap c v:=λc v z=>
   z.oI (λ_ _ _ z=>z) (λc z=>by rw[aV (nd _ _ z (λy=>by cases y))];exact z) λc xs t z=>by rw[aV (nd _ _ z (λy=>by subst y;exact t))];exact z
  by_cases hb:b=d
  ·subst hb;rw[aP] at q;cases q;exact st b _ (DY b _ e).2
  ·rw[aV hb] at q;exact st b u (DY b u q)
def P5(t:TE):TE:=λU H Q=>t U H λv H'=>∃d kvs,H d=some (.dK kvs)/\∃o,H' d=some (.cx o (.dK kvs))/\Q v (upd H' d (.dK kvs))
theorem aOT{e:Expr}{t:TE}(he:PE X e t):PE X e (P5 t):=by
 intro pins s U H Q I h;refine eG (he pins s U H _ I h) λv s1 zq=>?_;obtain⟨x,H1,I1,r1,d,kvs,hd,o,q1,q2⟩:=zq;exact⟨x,_,I1.Y3 q1 (λo u z=>by have y:=I.base.fk d o u z;rw[hd] at y;cases y),r1,q2⟩
end
section
variable{U:St}{H:Hp}{Q:VK}{nx:St->Hp->Prop}{rt:VK}{g:TG}{tb:TS}
theorem aJd{td:TE}{R:It->Hp->Prop}(h:td U H (R4 R)):Mp td U H R:=h
theorem aSk{d:Addr}{kvs:List (Key×V)}{R:It->Hp->Prop}(h1:H d=some (.dK kvs))(h:∀o,R (CK d o kvs) (upd H d (.cx o (.dK kvs)))):R4 R (.ref d) H:=⟨d,kvs,rfl,h1,h⟩
theorem aOU{t:TE}(h:t U H λv H'=>∃d kvs,H d=some (.dK kvs)/\∃o,H' d=some (.cx o (.dK kvs))/\Q v (upd H' d (.dK kvs))):P5 t U H Q:=h
end
section
variable{X:Cx}
def aJW:R2:=λy x H Q=>∃a o,x=.ref a/\rC H a y o/\Q (.bl (!o.isSome)) H
theorem aK3(hu:X.A.units+9 < cLine):uM X (compareOp .NotIn) aJW:=by
 intro pins s U H x y u v Q I rx ry h;obtain⟨a,o,e,g,q⟩:=h;subst e;cases ry;exact aN0 (by lia) I g rx λs' I'=>⟨.bl (!o.isSome),H,I',rfl,q⟩
end
end L2
namespace L2.Z
open PySem PySem.Spec PyProof.Rows L2
section
variable{X:Cx}{o e tg:Expr}{td ty t:TE}{pos apos bh tp:Pos}{elts:List Expr}{x1:Nat}
theorem aGy(ho:QE X o td)(bu:attributeBase o "items" X.env (eval o X.env)=eval o X.env:=by rfl)(bt:(apos.endLine == bh.line)=true:=by rfl) :
  QI X (.Tuple elts x1 tp) (.Call (.Attribute o "items" apos) [] [] bh) (Mp td):=⟨L2.aFQ ho.h bu bt⟩
theorem aJe(he:QE X e t):QE X e (P5 t):=⟨L2.aOT he.h⟩
end
end L2.Z
namespace L2
open PySem PySem.Spec PyProof.Rows
theorem aHR{d:Addr}{o:Obj}{kvs:List (Key×V)}{σ₀:St}{g:TG}{tt:TT}{te:TE}{R:List V->Hp->Prop}{H:Hp}(Pv:Nat->List V->Hp->Prop)(h0:Pv 0 [] H)(hz:kvs.length<=sizeLine)
  (hl:∀i ys H,i<=kvs.length->Pv i ys H->H d=some (.cx o (.dK kvs))/\ys.length<=i)
  (hs:∀i kv ys H T,kvs[i]?=some kv->Pv i ys H->H T=none->g (.ref T) σ₀ (upd H T (.tup [kV kv.1,kv.2])) λσ2 H2=>tt σ2 H2 λb H3=>if b=true then te σ2 H3 λy H4=>Pv (i+1) (ys ++ [y]) H4 else Pv (i+1) ys H3)
  (hd:∀ys H,Pv kvs.length ys H->R ys H):mV (CK d o kvs) σ₀ g tt te R H:=by
 refine⟨λi m ys H=>m=kvs.length - i/\i<=kvs.length/\Pv i ys H,⟨kvs.length,by simp,nv _,h0⟩,?_⟩;rintro i m ys H ⟨rfl,hi,p⟩;obtain⟨q,ql⟩:=hl i ys H hi p;refine⟨by lia,?_⟩;by_cases fi:i < kvs.length
 ·refine .inr ⟨⟨q,fi⟩,Pv (i+1),λEH H' p'=>⟨kvs.length - (i+1),by lia,rfl,fi,p'⟩,λx H' y=>?_⟩;obtain⟨T,kv,nT,e1,hk,e2⟩:=y;subst e1 e2;exact hs i kv ys H T hk p nT
 ·have e:i=kvs.length:=by lia
  subst e;exact .inl ⟨⟨q,eR _⟩,hd ys H p⟩
end L2
namespace L2
open PySem PySem.Spec PySem.W PyProof.Rows
theorem aK4{A:Around}(hh:A.handled=none)(I d:Addr)(cj:d≠I)(es:Array DictEntry)(ep:Nat) :
  Walks prog w A I [I,d] [I] es.size (λi v=>∃e,es[i]?=some e/\v=e.key) (λi h=>yw "dict_keyiterator" h I d i es.size ep/\Raw h d es ep) where
 sub:=λb hb=>pN.mpr (.inl (by simpa using hb))
 frame:=λ_ _ _ st hk=>⟨st.1.keep λo e=>hk I (by simp) o e,st.2.keep λo e=>hk d (by simp) o e⟩
 item:=λi s Q E hi st hQ=>by
  have hx:es[i]?=some es[i]:=RX hi;refine aHK st.1 st.2 hx λh' a b=>hQ es[i].key h' s.toks ⟨_,hx,rfl⟩ ⟨a,st.2.keep λo e=>b.extBut d o cj e⟩ λb' o hb e=>b.extBut b' o (λz=>hb (jy.mpr z)) e
 done:=λs Q E st hQ=>aI4 hh st.1 st.2 (eR _) λh' z=>hQ h' s.toks λb o hb e=>z b o (λy=>hb (jy.mpr y)) e
 self:=λ_ _ _ _ st hQ=>wpAny_pyIter_keyiter st.1 hQ
theorem aK5{es:Array DictEntry}{ep:Nat}(lo:(d == sysModules)=false):KdlSrc prog w "dict" d d es.size (λi v=>∃e,es[i]?=some e/\v=e.key) (λh=>Raw h d es ep) where
 type:=λ_ hm=>hm.ty
 there:=λ_ hm=>let ⟨_,e,_⟩:=hm;⟨jX e,jX e⟩
 keep:=λ_ _ hm hk=>hm.keep λo e=>hk d (.inl rfl) o e
 notList:=by decide
 notTuple:=by decide
 hint:=λ_ _ _ _ hm hq=>kdl_hint_dict hm.ty hq
 iter:=λ_ _ hh hm=>⟨_,_,(λ_ _ hq=>aGr lo hm hq),aK4 hh _ d (rV (let ⟨_,e,_⟩:=hm;jX e)) es ep,⟨⟨_,qI _ rfl,rfl,rfl⟩,hm.keep λo e=>fR _ e⟩⟩
section
variable{X:Cx}
def Qz:List V->Hp->VK->Prop:=λxs H Q=>∃(d:Addr) (kvs:List (List Key×V)) (ts:cv),xs=[.ref d]/\H d=some (.dT kvs)/\kvs.map (·.1)=ts.map (λt=>t.map Sum.inl)/\(∀t∈ts,t≠[])/\ts.length < 64/\
 ∀(p:Addr) (qs:ao) (us:cv),H p=none->oN H qs us->us.Perm ts->us.Pairwise (λa b=>vB b a=false)->Q (.ref p) (upd H p (.lst (qs.map V.ref)))
theorem aGz(hc:X.calm=true):fK X (.builtin "sorted") Qz:=by
 intro pins s U H xs us Q I r h;obtain⟨d,kvs,ts,rfl,hd,ek,cj,a0u,q⟩:=h;obtain⟨u,rfl,ru⟩:=vals1 r;cases ru;obtain⟨lo,ob,es,ep,ys,g1,g2,g3,rel,g4,g5⟩:=QV (show bW X.prog X.w H s.heap d (.dT kvs) from I.bc d _ hd);have raw:Raw s.heap d es ep:=⟨ob,g1,g2.1,g3⟩
 have Xt:kvs.length=ts.length:=by have:=congrArg List.length ek;simpa using this
 have Xe:ys.length=kvs.length:=(Paired.length rel).symm;have ht:oN H (ys.map (·.2.1)) ts:=by
  refine⟨by rw[bO,Xe,Xt],λj a t x y=>?_⟩;have hj:j < kvs.length:=by rw[Xt];exact(mT.mp y).1
  obtain⟨p,hp,hb,_⟩:=Ma rel (eQ hj);rw[lB,hp] at x;cases x;refine⟨?_,cj t (pM y)⟩;have e3:(kvs.map (·.1))[j]?=some kvs[j].1:=by rw[lB,eQ hj];rfl
  rw[ek,lB,y] at e3;have e4:t.map Sum.inl=kvs[j].1:=Option.some.inj e3;rw[hb,<-e4,qg];rfl
 have hv:((ys.map (·.2.1)).map Value.ref).length=ts.length:=by rw[bO];exact ht.len
 refine Calls.call_function_entry kind_sorted plain_sorted entry_sorted (args_sorted1 (.ref d)) ?_
 unfold Builtin.«sorted»;refine bM (m:=checkCount "sorted" 1 1 _) (eE (bM (PySem.W.kdu_collect (A:=X.A.in1) (aK5 (es:=es) (ep:=ep) lo) (I.ok.hd hc) raw (by rw[uz];lia) λh1 tk acc k0 se=>?_)));have ea:acc.toList=(ys.map (·.2.1)).map Value.ref:=by
  refine List.ext_getElem? λj=>?_;by_cases hj:j < kvs.length
  ·have hja:j < acc.size:=by rw[se.1,g5];exact hj
   have e1:acc[j]?=some acc[j]:=RX hja;obtain⟨e,he,ev⟩:=se.2 j _ e1;obtain⟨p,hp,hb,_⟩:=Ma rel (eQ hj);rw[entry_at g4,hp] at he;cases he;rw[RQ,e1,ev,lB,lB,hp];rfl
  ·rw[CJ (by rw[yu,se.1,g5];lia),CJ (by rw[bO,bO,Xe];lia)]
 rw[ea];generalize A9:ys.map (·.2.1)=qs at ht hv ea;have hq:=ht.len;have OR:qs.length < 64:=by lia
 refine bM (wpAny_newList ?_ (by rw[hv,uz];lia));have k1:∀b o,s.heap.get? b=some o->(h1.push (seqObj "list" (qs.map Value.ref).toArray 0)).get? b=some o:=λb o g=>fR _ (k0 b o g);have gD:(h1.push (seqObj "list" (qs.map Value.ref).toArray 0)).get? h1.objs.size=some (seqObj "list" (qs.map Value.ref).toArray 0):=qI _ rfl;refine bM (Bu (wk (s:={ s with heap:=h1.push (seqObj "list" (qs.map Value.ref).toArray 0),toks:=tk }) slot_list_sort ⟨_,gD,rfl⟩ entry_list_sort (aKW gD ((ht.rW I).keeps λb o _ g=>k1 b o g) (by rw[hv,<-hq];exact OR) λp hr hu=>⟨_,rfl,?_⟩) (args_list_sort (.ref h1.objs.size))));rw[hv,<-hq] at hr hu;have pl:p.toList.Perm (List.range qs.length):=by simpa using Array.perm_iff_toList_perm.mp hr
 have Iz:p.toList.length=qs.length:=by have:=pl.length_eq;simpa using this
 have eo:(Bt (qs.map Value.ref) p).toList=(p.toList.map λi=>qs.getD i 0).map Value.ref:=by
  unfold Bt;show p.toList.map (λi=>(qs.map Value.ref).getD i Value.none)=_;rw[qg];refine MO λi hi=>?_;have li:i < qs.length:=zp.mp (pl.mem_iff.mp hi);show(qs.map Value.ref).getD i Value.none=Value.ref (qs.getD i 0);simp[qi,eQ li]
 refine eE ⟨_,rfl,?_⟩;obtain⟨c,GR⟩:=sortedHeap_at (out:=Bt (qs.map Value.ref) p) gD;have T':oN H (p.toList.map λi=>qs.getD i 0) (p.toList.map λi=>ts.getD i []):=by
  refine⟨by rw[bO,bO],λj a b x y=>?_⟩;rw[lB] at x y;obtain⟨i,e1,e2⟩:=mw.mp x;rw[e1] at y;have li:i < qs.length:=zp.mp (pl.mem_iff.mp (pM e1));refine ht.at_ i a b ?_ ?_
  ·rw[<-e2];simp[qi,eQ li]
  ·cases y;simp[qi,eQ (show i < ts.length by lia)]
 obtain⟨hn,I2⟩:=I.aSh (t':=tk) (h':=sortedHeap (h1.push (seqObj "list" (qs.map Value.ref).toArray 0)) h1.objs.size (qs.map Value.ref) (Bt (qs.map Value.ref) p)) (a:=h1.objs.size) (o:=.lst ((p.toList.map λi=>qs.getD i 0).map V.ref)) (λb ob g=>by
   have lb:b < h1.objs.size:=jX (k0 b ob g);rw[sortedHeap_old (rV lb) (by rw[size_push'];exact D8 lb)];exact k1 b ob g) (λb ob g=>rV (jX (k0 b ob g)))
  ⟨by rw[bO,bO,Iz,uz];lia,(p.toList.map λi=>qs.getD i 0).map Value.ref,c,aDV _,by rw[<-eo,Array.toArray_toList];exact GR⟩
 refine⟨.ref h1.objs.size,_,I2,rfl,q _ _ _ hn T' ?_ ?_⟩
 ·have:=pl.map (λi=>ts.getD i []);rw[hq,range_getD] at this;exact this
 ·rw[List.pairwise_iff_getElem];intro i j hi hj Bc;rw[bO,Iz] at hi hj;have key:∀k (hk:k < p.toList.length),(p.toList.map λi=>ts.getD i [])[k]'(by rw[bO];exact hk)=kq (O:=Fo) (λi=>ts.getD i []) p k:=λk hk=>by
   rw[List.getElem_map];unfold kq;have:p.getD k 0=p.toList[k]:=by
    have hk':k < p.size:=by simpa using hk
    simp[Array.getD,hk']
   rw[this]
  rw[key i (by lia),key j (by lia)];exact hu i j (by lia) hj
end
section
variable{H:Hp}{Q:VK}
theorem aMZ{kvs:List (List Key×V)}{ts:cv}(h:H d=some (.dT kvs))(e:kvs.map (·.1)=ts.map (λt=>t.map Sum.inl))(cj:∀t∈ts,t≠[])(hl:ts.length < 64)(q:∀(p:Addr) (qs:ao) (us:cv),H p=none->oN H qs us->us.Perm ts->us.Pairwise (λa b=>vB b a=false)->Q (.ref p) (upd H p (.lst (qs.map V.ref)))):Qz [.ref d] H Q:=⟨d,kvs,ts,rfl,h,e,cj,hl,q⟩
end
section
variable{X:Cx}{ek ev:Expr}{tk tv:TE}{pos:Pos}
theorem aJg{pins:ar}{U:St}{H:Hp}{s:Shared}{a:Addr}{v:V}{r u:Value}{A:Around}{E:ak}{kvs:List (Key×V)}{k:Key}{Q:Unit->Shared->Prop}(I:Inv X pins U H s)(e:H a=some (.dK kvs))(ru:RelV (kV k) u)(l:kvs.length < sizeLine)(rv:RelV v r)(h:∀s',Inv X pins U (upd H a (.dK (putK kvs k v))) s'->Q () s') :
  wpAny (model X.prog X.w) A (dictSet a u r) Q E s:=by
 obtain⟨z,hd,vs,rel,dd⟩:=Zv I.bc e;have hz:vs.length<=sizeLine:=by rw[<-rel.length];exact z
 have hl:(putK kvs k v).length<=sizeLine:=by have:=pQ kvs k v;lia
 refine wpAny_dictSet_pairs (hsz:=hz) (FD ru) dd λh' Bl hs=>h _ ?_;have he:∃q,h'.get? a=some q:=let ⟨q,_,_,hq,_⟩:=Bl;⟨q,hq⟩
 exact Mr I (by rw[e];exact True.intro) hs he (Z3 hl hd (rel.put k rv) Bl)
def aJX(tk tv:TE):TE:=λU H Q=>∀d,H d=none->tk U (upd H d (.dK [])) λy H1=>tv U H1 λv H2=>∃k,y=kV k/\H2 d=some (.dK [])/\Q (.ref d) (upd H2 d (.dK [(k,v)]))
theorem aK6(hk:PE X ek tk)(hv:PE X ev tv):PE X (.Dict [some ek] [ev] pos) (aJX tk tv):=by
 intro pins s U H Q I h;have hn:H s.heap.objs.size=none:=I.bc.fresh (eR _);have I0:Inv X pins U (upd H s.heap.objs.size (.dK [])) { s with heap:=s.heap.push { cls:=.type "dict",data:=.dict #[] } }:=I.laid (a:=s.heap.objs.size) (o:=.dK []) (t':=s.toks) (λ_ _ q=>fR _ q) (eR _) (aHo s.heap I.big);refine wpAny_Dict_any rfl rfl (by simp) (by simp) ?_;refine pairTrees_cons_walk (eG (hk pins _ U _ _ I0 (h _ hn)) λu s1 ⟨y,H1,I1,r1,q1⟩=>eG (hv pins s1 U H1 _ I1 q1) λv s2 ⟨x,H2,I2,r2,q2⟩=>pairTrees_nil_walk ?_);obtain⟨k,e,ed,q⟩:=q2;subst e;unfold storeAll;simp only[List.forIn_cons,List.forIn_nil];refine bM (bM (aJg I2 ed r1 (by rw[uz];decide) r2 λs3 I3=>?_));exact eE (eE ⟨.ref _,_,I3,rfl,q⟩)
end
end L2
namespace L2.Z
open PySem PySem.Spec PyProof.Rows
end L2.Z
namespace L2
open PySem PySem.Spec PyProof.Rows
section
variable{X:Cx}{o e:Expr}{to:TE}{t:TA}{apos bh:Pos}
theorem aK7(ho:PE X o to)(ha:PA X [e] t)(hn:noStar e=true:=by rfl)(bu:attributeBase o "extend" X.env (eval o X.env)=eval o X.env:=by rfl)(bt:(apos.endLine == bh.line)=true:=by rfl) :
  PE X (.Call (.Attribute o "extend" apos) [e] [] bh) (BY X.K "list" Ms to t):=
 Qh PySem.F.plainAttrs_list PySem.F.slot_list_extend PySem.F.type_list_extend aKy ho ha bu (by rw[bU hn];rfl) bt (bU hn) (by rfl)
end
section
variable{H:Hp}{Q:VK}
theorem aK8{l b:Addr}{xs ys:List V}(h:H l=some (.lst xs))(h2:H b=some (.lst ys))(hz:xs.length+ys.length<=sizeLine)(q:Q .br (upd H l (.lst (xs++ys)))):Ms (.ref l) [.ref b] H Q:=⟨l,b,xs,ys,rfl,rfl,h,h2,hz,q⟩
end
end L2
namespace L2.Z
open PySem PySem.Spec PyProof.Rows L2
section
variable{X:Cx}{Y:W.Frag}{o e:Expr}{to:TE}{t:TA}{apos bh:Pos}
theorem aE3(ho:QE X o to)(ha:QA X [e] t)(hn:noStar e=true:=by rfl)(bu:attributeBase o "extend" X.env (eval o X.env)=eval o X.env:=by rfl)(bt:(apos.endLine == bh.line)=true:=by rfl)(hK:X.K=Y:=by rfl) :
  QE X (.Call (.Attribute o "extend" apos) [e] [] bh) (BY Y "list" Ms to t):=by subst hK;exact⟨L2.aK7 ho.h ha.h hn bu bt⟩
end
end L2.Z
namespace L2
open PySem PySem.Spec PySem.W PyProof.Rows
section
variable{prog:Program}{w:World}{A:Around}{E:ak}{s:Shared}{it d:Addr}{es:Array DictEntry}{ep i:Nat}
def prO(e:DictEntry):Obj:={ cls:=.type "tuple",data:=.seq #[e.key,e.val] }
structure Y2(es:Array DictEntry)(lo:Addr)(h:Heap)(as:ao):Prop where
 rise:as.Pairwise (·< ·)
 above:∀a∈as,lo < a
 at_:∀(j:Nat) (a:Addr),as[j]?=some a->∃e,es[j]?=some e/\h.get? a=some (prO e)
theorem Y2.there{lo:Addr}{h:Heap}{as:ao}(g:Y2 es lo h as){a:Addr}(ha:a∈as):a < h.objs.size:=by
 obtain⟨j,hj⟩:=List.mem_iff_getElem?.mp ha;obtain⟨_,_,e⟩:=g.at_ j a hj;exact jX e
end
section
variable{X:Cx}{tg:Expr}
theorem Inv.aSm(I:Inv X pins U H s)(e:H d=some (.cx o (.dT kvs)))(h0:∀o u,X.ui d≠some (.cx o u)):Inv X pins U (upd H d (.dT kvs)) s:=by
 have nd:∀b u,H b=some u->u≠.cx o (.dT kvs)->b≠d:=λb u q n z=>by rw[z,e] at q;exact n (Option.some.inj q).symm
 have nn:∀b,H b=none->b≠d:=λb q z=>by rw[z,e] at q;cases q
 obtain⟨a1,a2,a3,a4,a5,a6,a7,a8,a9,DY,HI⟩:=I;refine⟨a1,a2,a3,⟨a4.keep,a4.slot,λb u q n hx=>?_,a4.there,λb xs q=>?_,λb u v q=>?_,λb ps q=>?_⟩,a5,a6,?_,λx c q=>?_,λp hp=>?_,λb u q=>?_,HI⟩
 ·have:=a4.free b u q n hx;rw[aV (nn b this)];exact this
 ·have:=a4.rW b xs q;rw[aV (nd b _ this (λz=>by cases z))];exact this
 ·have:=a4.fk b u v q;rw[aV (λz=>h0 u v (by rw[<-z];exact q))];exact this
 ·obtain⟨more,this⟩:=a4.jq b ps q;exact⟨more,by rw[aV (nd b _ this (λz=>by cases z))];exact this⟩
 ·rw[aV (nn _ a7)];exact a7
 ·rw[aV (nn _ (a8 x c q))];exact a8 x c q
 ·obtain⟨b1,b2,b3⟩:=a9 p hp;exact⟨b1,by rw[aV (nn _ b2)];exact b2,b3⟩
 ·have st:∀c v,bW X.prog X.w H s.heap c v->bW X.prog X.w (upd H d (.dT kvs)) s.heap c v:=λc v z=>
   z.oI (λ_ _ _ z=>z) (λc z=>by rw[aV (nd _ _ z (λy=>by cases y))];exact z) λc xs t z=>by rw[aV (nd _ _ z (λy=>by subst y;exact t))];exact z
  by_cases hb:b=d
  ·subst hb;rw[aP] at q;cases q;exact st b _ (DY b _ e).2
  ·rw[aV hb] at q;exact st b u (DY b u q)
end
end L2
namespace L2.Z
open PySem PySem.Spec PyProof.Rows L2
end L2.Z
namespace L2
open PySem PySem.Spec PySem.W PyProof.Rows
section
variable{X:Cx}{elts:List Expr}{x1:Nat}{tp:Pos}
def Q9(td:TE):TI:=λU H R=>L9 td U H R\/Mp td U H R
theorem aK9{o:Expr}{td:TE}{apos bh:Pos}(ho:PE X o td)(bu:attributeBase o "items" X.env (eval o X.env)=eval o X.env:=by rfl)(bt:(apos.endLine == bh.line)=true:=by rfl) :
  PI X (.Tuple elts x1 tp) (.Call (.Attribute o "items" apos) [] [] bh) (Q9 td):=by
 intro pins s U H R I h;rcases h with h|h
 ·exact aHL ho bu bt pins s U H R I h
 ·exact aFQ ho bu bt pins s U H R I h
def Q8(tk tv:TE):TE:=λU H Q=>L8 tk tv U H Q\/aJX tk tv U H Q
theorem aLa{ek ev:Expr}{tk tv:TE}{pos:Pos}(hu:X.A.units < cLine)(hk:PE X ek tk)(hv:PE X ev tv):PE X (.Dict [some ek] [ev] pos) (Q8 tk tv):=by
 intro pins s U H Q I h;rcases h with h|h
 ·exact aHM hu hk hv pins s U H Q I h
 ·exact aK6 hk hv pins s U H Q I h
def AU(u:HO):Prop:=(∃kvs,u=.dK kvs)\/∃kvs,u=.dT kvs
def Qy(t:TE):TE:=λU H Q=>t U H λv H'=>∃d u,AU u/\H d=some u/\∃o,H' d=some (.cx o u)/\Q v (upd H' d u)
theorem aM0{e:Expr}{t:TE}(he:PE X e t):PE X e (Qy t):=by
 intro pins s U H Q I h;refine eG (he pins s U H _ I h) λv s1 zq=>?_;obtain⟨x,H1,I1,r1,d,u,hu,hd,o,q1,q2⟩:=zq;rcases hu with ⟨kvs,rfl⟩|⟨kvs,rfl⟩
 ·exact⟨x,_,I1.Y3 q1 (λo u z=>by have y:=I.base.fk d o u z;rw[hd] at y;cases y),r1,q2⟩
 ·exact⟨x,_,I1.aSm q1 (λo u z=>by have y:=I.base.fk d o u z;rw[hd] at y;cases y),r1,q2⟩
end
section
variable{U:St}{H:Hp}{Q:VK}{nx:St->Hp->Prop}{rt:VK}{g:TG}{tb:TS}
theorem aM1{t:TE}(h:t U H λv H'=>∃d u,AU u/\H d=some u/\∃o,H' d=some (.cx o u)/\Q v (upd H' d u)):Qy t U H Q:=h
theorem aLb{d:Addr}{o:Obj}{kvs:List (Key×V)}(Pv:Nat->St->Hp->Prop)(h0:Pv 0 U H)(hl:∀i U H,i<=kvs.length->Pv i U H->H d=some (.cx o (.dK kvs)))
  (hs:∀i kv U H T,kvs[i]?=some kv->Pv i U H->H T=none->g (.ref T) U (upd H T (.tup [kV kv.1,kv.2])) λσ2 H2=>tb ⟨Pv (i+1),rt,nx,Pv (i+1)⟩ σ2 H2) (hd:∀U H,Pv kvs.length U H->nx U H) :
  ∃W:Nat->Nat->St->Hp->Prop,(∃m,W 0 m U H)/\∀i m U H,W i m U H->
   ((CK d o kvs).stop i H/\nx U H)\/((CK d o kvs).go i H/\∃N:St->Hp->Prop,(∀U' H',N U' H'->∃m',m' < m/\W (i+1) m' U' H')/\∀x H',(CK d o kvs).tf i H x H'->g x U H' λσ2 H2=>tb ⟨N,rt,nx,N⟩ σ2 H2):=by
 refine⟨λi m U H=>m=kvs.length - i/\i<=kvs.length/\Pv i U H,⟨kvs.length,by simp,nv _,h0⟩,?_⟩;rintro i m U H ⟨rfl,hi,p⟩;have q:=hl i U H hi p;by_cases fi:i < kvs.length
 ·refine .inr ⟨⟨q,fi⟩,Pv (i+1),λU' H' p'=>⟨kvs.length - (i+1),by lia,rfl,fi,p'⟩,λx H' y=>?_⟩;obtain⟨T,kv,hT,e1,hk,e2⟩:=y;subst e1 e2;exact hs i kv U H T hk p hT
 ·have e:i=kvs.length:=by lia
  subst e;exact .inl ⟨⟨q,eR _⟩,hd U H p⟩
end
end L2
namespace L2.Z
open PySem PySem.Spec PyProof.Rows L2
section
variable{X:Cx}{o e ek ev:Expr}{td tk tv t:TE}{pos apos bh tp:Pos}{elts:List Expr}{x1:Nat}
theorem aAF(ho:QE X o td)(bu:attributeBase o "items" X.env (eval o X.env)=eval o X.env:=by rfl)(bt:(apos.endLine == bh.line)=true:=by rfl) :
  QI X (.Tuple elts x1 tp) (.Call (.Attribute o "items" apos) [] [] bh) (Q9 td):=⟨L2.aK9 ho.h bu bt⟩
theorem aGC(hu:X.A.units+9 < cLine)(hk:QE X ek tk)(hv:QE X ev tv):QE X (.Dict [some ek] [ev] pos) (Q8 tk tv):=⟨L2.aLa (by lia) hk.h hv.h⟩
theorem aCm(he:QE X e t):QE X e (Qy t):=⟨L2.aM0 he.h⟩
end
end L2.Z
local macro_rules |`(tactic|walk_at "ne")=>`(tactic|first
 |assumption
 |(refine Ne.symm ?_; assumption)
 |exact L2.bE (by assumption) (by walk_at "hp")
 |exact Ne.symm (L2.bE (by assumption) (by walk_at "hp")))
local macro_rules |`(tactic|walk_at "hp")=>`(tactic|first
 |assumption
 |exact L2.aP
 |(refine Eq.trans (L2.aV (by walk_at "ne")) ?_; walk_at "hp")
 |(refine L2.aO.at (by assumption) ?_; walk_at "hp")
 |(refine L2.bX.at (by assumption) ?_ (by walk_at "ne"); walk_at "hp"))
local macro_rules |`(tactic|walk_at "sq")=>`(tactic|first
 |assumption
 |exact L2.bP.of (by walk_at "hp")
 |exact L2.iF.of (by walk_at "hp")
 |exact L2.aO.seq (by assumption) (by walk_at "sq"))
local macro_rules |`(tactic|walk_at "cnd")=>`(tactic|first
 |lia
 |decide
 |(simp only [List.length_map]; lia)
 |(refine ⟨?_, ?_⟩ <;> first | lia | decide)
 |(refine Or.inl ⟨?_, ?_⟩ <;> first | lia | decide)
 |(refine Or.inr ⟨?_, ?_⟩ <;> first | lia | decide)
 |(refine ⟨?_, ?_, ?_⟩ <;> first | lia | decide))
local macro_rules |`(tactic|walk_at "sz")=>`(tactic|(refine L2.cA ?_; first | decide | (simp only [List.length_cons, List.length_nil, List.length_append]; lia) | lia))
local macro_rules |`(tactic|walk_at "rd")=>`(tactic|(with_reducible first
 |refine L2.aOc ?_
 |refine L2.aQF ?_
 |refine L2.aQC ?_
 |refine L2.aOd ?_
 |refine L2.aQD ?_
 |refine L2.aMc ?_
 |refine L2.aQE ?_
 |refine L2.aOe ?_
 |refine L2.aQG ?_
 |refine L2.aOf ?_
 |refine L2.aMe ?_
 |refine L2.aOg ?_
 |refine L2.aKX ?_
 |refine L2.aJd ?_
 |refine L2.aOU ?_
 |refine L2.aM1 ?_
 |refine L2.aML ?_
 |refine L2.aMJ ?_
 |refine L2.aMK ?_
 |refine L2.aQI ?_
 |refine L2.aSC ?_
 |refine L2.aRW ?_
 |refine L2.aRX ?_
 |refine L2.aQK ?_
 |refine L2.aRZ ?_
 |refine L2.aOh ?_
 |refine L2.aR0 ?_
 |refine L2.aKG ?_
 |refine L2.aOj ?_
 |refine L2.aOk ?_
 |refine L2.aQO ?_
 |refine L2.aOl ?_
 |refine L2.aQP ?_
 |refine L2.aMf ?_
 |refine L2.aOm ?_
 |refine L2.aR1 ?_
 |refine L2.aQQ ?_
 |refine L2.aR2 ?_
 |refine L2.aQR ?_
 |refine L2.aQS ?_
 |refine L2.aR3 ?_
 |refine L2.aOn ?_
 |refine L2.aR4 ?_
 |refine L2.aR5 ?_
 |refine L2.aQT ?_
 |refine L2.aOo ?_
 |refine L2.aQU ?_
 |refine L2.aQV ?_
 |refine L2.aOp ?_
 |refine L2.aR6 ?_
 |refine L2.aOq ?_
 |refine L2.aKK ?_
 |refine L2.aMn ?_
 |refine L2.aMg ?_
 |refine L2.aMh ?_
 |refine L2.aQW ?_
 |refine L2.LQ ?_
 |refine L2.LR ?_
 |refine L2.aSb ?_
 |refine L2.aSc ?_
 |refine L2.aSa ?_
 |refine L2.aMm ?_
 |refine L2.aMy ?_
 |refine L2.aMz ?_
 |refine L2.aQ6 ?_
 |refine L2.aOy ?_
 |refine L2.aOz ?_
 |refine L2.aOA ?_
 |refine L2.aOL ?_
 |refine L2.aMR ?_
 |refine L2.aJc ?_
 |refine L2.aMW ?_))
local macro_rules |`(tactic|walk_at "st")=>`(tactic|first
 |walk_at "rd"
 |((with_reducible refine L2.aSg (b := ?b) ?t ?_); (case t => assumption))
 |((with_reducible refine L2.aQJ (v := ?v) ?e ?_); (case e => rfl))
 |((with_reducible refine L2.aMd (U' := ?s) ?e ?_); (case e => first | (simp only [List.set_cons_zero, List.set_cons_succ]; rfl) | rfl))
 |((with_reducible refine L2.aRY ?c ?_); (case c => walk_at "cnd"))
 |((with_reducible refine L2.aOi ?c ?_); (case c => walk_at "cnd"))
 |((with_reducible refine L2.QM (xs := ?xs) (v := ?v) ?a ?b ?_); (case a => walk_at "sq"); (case b => first | rfl | assumption))
 |((with_reducible refine L2.aQN (xs := ?xs) (v := ?v) ?a ?b ?_); (case a => walk_at "sq"); (case b => first | rfl | assumption))
 |(with_reducible refine L2.aQX ?_)
 |(with_reducible refine L2.aQY ?_)
 |(with_reducible refine L2.aQZ ?_)
 |(with_reducible refine L2.Na ?_)
 |(with_reducible refine L2.aOw ?_)
 |((with_reducible refine L2.aOu (xs := ?xs) ?a ?_); (case a => walk_at "sq"))
 |((with_reducible refine L2.aOv (xs := ?xs) ?a ?_); (case a => walk_at "sq"))
 |(with_reducible refine L2.aQ1 ?_)
 |(with_reducible refine L2.aQ2 ?_)
 |((with_reducible refine L2.aQL ?a ?b ?_); (case a => rfl); (case b => rfl))
 |((with_reducible refine L2.aQM ?a ?b ?_); (case a => rfl); (case b => rfl))
 |((with_reducible refine L2.aSf (b := ?b) ?e ?_); (case e => rfl))
 |((with_reducible refine L2.aMq (b := ?b) ?e ?_); (case e => rfl))
 |((with_reducible refine L2.aOr ?c ?_); (case c => walk_at "sz")))
local macro_rules |`(tactic|walk_at "go")=>`(tactic|first
 |(with_reducible refine L2.aOK (fun _ _ => ?_))
 |walk_at "st")
local macro_rules |`(tactic|rfl')=>`(tactic|repeat walk_at "go")
local macro_rules |`(tactic|walk_at "l")=>`(tactic|(intro vs H Q E h; first | (cases h; subst_vars; rfl) | (repeat (first | (obtain ⟨e, _⟩ := h; subst e; rfl) | obtain ⟨_, h⟩ := h))))
local macro_rules |`(tactic|walk_at "gs")=>`(tactic|first
 |walk_at "go"
 |((with_reducible refine L2.aSd ?e ?_); (case e => rfl))
 |((with_reducible refine L2.aSe ?e ?_); (case e => rfl)))
namespace My
open PySem L2 L2.Z
abbrev A'(a:Addr):Option V:=some (.ref a)
abbrev B'(a:Int):Option V:=some (.int a)
abbrev aa:List Str:=["_law_script","_law_place","_law_hand","_law_spec_here","_law_hours","_law_long","_law_wants","_law_position_here","_law_prices_here","_law_works_here","_law_rounds","_law_due_here","_law_others","_law_between","_law_other"]
abbrev ba:List Str:=["machine","state","run"]
abbrev fv:List Str:=["works","position","prices"]
abbrev gz:List Str:=["machine","state","prices"]
abbrev kf:List Str:=["thing"]
abbrev ue:List Str:=["_law_works_here","_law_position_here","_law_wants","_law_prices_here","_law_rounds"]
abbrev aaa:List Str:=["machine","state","hours"]
abbrev aba:List Str:=["works","lones","wants","prices","ends","heads","raised","hour","want","price"]
abbrev aca:List Str:=["_law_hand","_law_by","_law_lack","_law_hours"]
abbrev ada:List Str:=["_law_hand","_law_spec_here"]
abbrev aea:List Str:=["machine","state","on"]
abbrev afa:List Str:=["_law_works_here","_law_asked","_law_wants","_law_due_here"]
abbrev aga:List Str:=["store","level","prices"]
abbrev aha:List Str:=["self","up","down","begin","run","rest","least","pieces"]
abbrev aia:List Str:=["_law_hand","_law_by"]
abbrev aja:List Str:=["store","level","hours"]
abbrev aka:List Str:=["machine","state"]
abbrev ala:List Str:=["works","position","wants","prices","hour","lones","heads","price","tails"]
abbrev ama:List Str:=["ways","behind"]
abbrev ana:List Str:=["works","position","wants","prices","rounds"]
abbrev aoa:List Str:=["_law_hand","_law_by","_law_most"]
abbrev apa:List Str:=["_law_one","_law_due_here"]
abbrev aqa:List Str:=["_law_spec_here"]
abbrev ara:List Str:=["works","position","wants","prices","hour"]
abbrev asa:List Str:=["machine","state","price"]
abbrev ata:List Str:=["self","cap","into","out","takes","gives"]
abbrev aua:List Str:=["store","level","price"]
abbrev ava:List Str:=["lones","heads","price"]
abbrev awa:List Str:=["works","want","lones","heads","tails"]
abbrev axa:List Str:=["on","later","cost","machine","price"]
abbrev aya:List Str:=["self","place","price"]
abbrev aza:List Str:=["_law_hand","_law_by","_law_longest"]
abbrev aAa:List Str:=["works","position","wants","prices"]
abbrev aCa:List Str:=["places","hour","behind","ways_at"]
abbrev aRa:List Str:=["_law_hand","_law_most","_law_by","_law_wide","_law_many","_law_specs","_law_store_here","_law_lack"]
abbrev aTa:List Str:=["store","level","prices","layers"]
abbrev aUa:List Str:=["hour","place","machine","prices"]
abbrev aVa:List Str:=["choice","later","worth","behind"]
abbrev aWa:List Str:=["works","lones","wants","prices"]
abbrev aXa:List Str:=["self","machines","store","lack"]
abbrev aYa:List Str:=["hour","place","prices","store"]
abbrev aZa:List Str:=["self","prices"]
abbrev a1a:List Str:=["drawn","later","cost","price"]
abbrev a2a:List Str:=["self","layers","ways"]
abbrev a3a:List Str:=["machine","state","prices","worths","run"]
abbrev a4a:List Str:=["store","level","prices","worths","path"]
abbrev a5a:List Str:=["works","position","hours"]
abbrev a6a:List Str:=["place","worths","ways_at"]
abbrev a7a:List Str:=["_law_script","_law_place"]
abbrev a8a:List Str:=["store","level","hours","ways","place"]
abbrev a9a:List Str:=["want","by_drawn","price"]
abbrev baa:List Str:=["lack","want","by_drawn"]
abbrev bba:List Str:=["_law_hand","_law_bound"]
abbrev bca:List Str:=["machine","state","prices","layers"]
abbrev bda:List Str:=["store","level","later"]
abbrev bea:List Str:=["self","ahead","behind"]
abbrev bfa:List Str:=["_law_hand","_law_most"]
abbrev bga:List Str:=["_law_hand","_law_many"]
abbrev bha:List Str:=["self","ahead","price"]
abbrev bia:List Str:=["_law_script"]
abbrev bja:List Str:=["_law_script","_law_place","_law_cells","_law_at","_law_digits"]
abbrev bka:List Str:=["store","level"]
abbrev bla:List Str:=["self"]
abbrev bma:List Str:=["lone","head","tail"]
abbrev bna:List Str:=["hour","place"]
abbrev boa:List Str:=["works","position","wants","prices","wanted","machines"]
abbrev bpa:List Str:=["layers","ways_at"]
abbrev bqa:List Str:=["_law_spec_here","_law_machines","_law_store_here"]
abbrev bra:List Str:=["works","want","lones","heads","tails","by_drawn"]
abbrev bsa:List Str:=["machine","ways"]
abbrev bta:List Str:=["drawn","worth","price"]
abbrev bua:List Str:=["self","output"]
abbrev bva:List Str:=["machine"]
abbrev bwa:List Str:=["_law_hour","_law_by","_law_hand","_law_lack"]
abbrev bxa:List Str:=["machine","state","ways","on","later","cost"]
abbrev bya:List Str:=["_law_hand"]
abbrev bza:List Str:=["want","by_drawn","price","bound","worths"]
abbrev bAa:List Str:=["self","price"]
abbrev bBa:List Str:=["lone","head","price"]
abbrev bCa:List Str:=["_law_k","_law_by","_law_hand","_law_wide"]
abbrev bDa:List Str:=["_law_hand","_law_spec_here","_law_states"]
abbrev bEa:List Str:=["_law_k","_law_hand","_law_spec_here"]
abbrev bFa:List Str:=["_law_k","_law_due_here","_law_one"]
abbrev bGa:List Str:=["works","position","hours","lones"]
abbrev bHa:List Str:=["_law_price_here","_law_spec_here"]
abbrev bIa:List Str:=["output","cost","later","machine"]
abbrev bJa:List Str:=["later","level","price","store"]
abbrev bKa:List Str:=["hour","place","prices","self"]
abbrev bLa:List Str:=["price","want"]
def top(i:Nat):Stmt:=PySem.Challenge.pw_stintwise_k76_prices_climbed.main.body.getD i (.Pass ⟨0,0,0,0⟩)
abbrev pT:Stmt:=top 71
abbrev vG:Stmt:=top 72
abbrev zW:Stmt:=top 73
abbrev qN:Stmt:=top 74
abbrev zX:Stmt:=top 12
abbrev vH:Stmt:=top 13
abbrev Ru:Stmt:=top 43
abbrev zY:Stmt:=top 44
abbrev kJ:Stmt:=top 45
abbrev oP:Stmt:=inClass (top 46) 0
abbrev vI:Stmt:=top 75
abbrev oQ:Stmt:=top 76
abbrev oR:Stmt:=inClass (top 46) 3
abbrev Ri:Stmt:=top 15
abbrev qO:Stmt:=top 16
abbrev sI:Stmt:=top 77
abbrev pU:Stmt:=top 90
abbrev zZ:Stmt:=top 31
abbrev sJ:Stmt:=inClass (top 32) 0
abbrev vJ:Stmt:=top 20
abbrev oS:Stmt:=top 21
abbrev sL:Stmt:=top 22
abbrev z0:Stmt:=top 23
abbrev sM:Stmt:=top 2
abbrev oU:Stmt:=top 3
abbrev lH:Stmt:=top 4
abbrev nS:Stmt:=top 5
abbrev vK:Stmt:=top 6
abbrev qP:Stmt:=top 17
abbrev kK:Stmt:=top 49
abbrev sN:Stmt:=inClass (top 50) 0
abbrev sO:Stmt:=top 78
abbrev iC:Stmt:=top 84
abbrev nU:Stmt:=top 85
abbrev jN:Stmt:=top 86
abbrev oV:Stmt:=top 33
abbrev qQ:Stmt:=top 34
abbrev RO:Stmt:=top 35
abbrev nV:Stmt:=top 37
abbrev cS:Stmt:=top 38
abbrev dZ:Stmt:=top 39
abbrev lI:Stmt:=top 18
abbrev nW:Stmt:=top 24
abbrev pV:Stmt:=top 26
abbrev dE:Stmt:=top 27
abbrev eK:Stmt:=top 28
abbrev sP:Stmt:=top 79
abbrev fV:Stmt:=top 52
abbrev lJ:Stmt:=top 53
abbrev lP:Stmt:=top 54
abbrev vL:Stmt:=top 80
abbrev lQ:Stmt:=top 89
abbrev kL:Stmt:=inClass (top 46) 1
abbrev kM:Stmt:=inClass (top 46) 2
abbrev vM:Stmt:=inClass (top 56) 0
abbrev gJ:Stmt:=inClass (top 56) 1
abbrev cP:Stmt:=inClass (top 56) 2
abbrev gK:Stmt:=inClass (top 56) 3
abbrev iN:Stmt:=inClass (top 56) 4
abbrev gL:Stmt:=inClass (top 56) 5
abbrev sQ:Stmt:=top 57
abbrev iD:Stmt:=top 58
abbrev oW:Stmt:=top 59
abbrev kN:Stmt:=top 60
abbrev sR:Stmt:=top 61
abbrev sS:Stmt:=top 63
abbrev sU:Stmt:=top 64
abbrev kO:Stmt:=top 66
abbrev nX:Stmt:=top 65
abbrev iO:Stmt:=top 67
abbrev hV:Stmt:=top 68
abbrev RG:Stmt:=top 69
abbrev RN:Stmt:=top 91
abbrev sV:Stmt:=top 92
abbrev Hn:Stmt:=top 93
theorem jB:aX bja a7a (aJ pT):={}
theorem jC:aX ["_law_hand","_law_many","_law_got","_law_cell","_law_number"] bga (aJ vG):={}
theorem pW:aX ["_law_hand","_law_bound","_law_total","_law_k"] bba (aJ zW):={}
theorem aD0:aX bya bya (aJ qN):={}
theorem aHT:aX kf kf (aJ zX):={}
theorem aGD:aX kf kf (aJ vH):={}
theorem aJi:aX kf kf (aJ Ru):={}
theorem aHU:aX kf kf (aJ zY):={}
theorem aE5:aX kf kf (aJ kJ):={}
theorem gS:aX ["self","up","down","begin","run","rest","least","pieces","spans","costs","at","fits"] aha (aJ oP):={}
theorem eS:aX ["_law_hand","_law_by","_law_longest","_law_up","_law_down","_law_costs","_law_least","_law_rate","_law_pieces","_law_k"] aza (aJ vI):={}
theorem aC6:aX aqa aqa (aJ oQ):={}
theorem gU:aX ["self","price","worth","amount","rate"] bAa (aJ oR):={}
theorem aLc:aX aea aea (aJ Ri):={}
theorem aD1:aX aea aea (aJ qO):={}
theorem aE6:aX ada ada (aJ sI):={}
theorem aGE:aX apa apa (aJ pU):={}
theorem aHV:aX kf kf (aJ zZ):={}
theorem lR:aX ["self","cap","into","out","takes","gives","depths","at","fits"] ata (aJ sJ):={}
theorem nY:aX ["machine","state","run","hour","on"] ba (aJ vJ):={}
theorem tM:aX ["machine","state","run","fault"] ba (aJ oS):={}
theorem hX:aX ["machine","state","run","begins","ahead","hour","on"] ba (aJ sL):={}
theorem aCn:aX ["machine","state","run","begins"] ba (aJ z0):={}
theorem aHW:aX ama ama (aJ sM):={}
theorem mX:aX ["places","hour","behind","ways_at","worths","place"] aCa (aJ oU):={}
theorem eN:aX ["layers","ways_at","behind","place","worths","hour"] bpa (aJ lH):={}
theorem yK:aX ["ways","behind","least"] ama (aJ nS):={}
theorem kP:aX ["place","worths","ways_at","row","hour","way"] a6a (aJ vK):={}
theorem fY:aX ["machine","ways","later","state","many","on","behind"] bsa (aJ qP):={}
theorem aC7:aX kf kf (aJ kK):={}
theorem lS:aX ["self","machines","store","lack","is_store","at","fits"] aXa (aJ sN):={}
theorem lT:aX ["_law_hand","_law_by","_law_gives","_law_takes"] aia (aJ sO):={}
theorem cT:aX aRa bfa (aJ iC):={}
theorem lU:aX bqa aqa (aJ nU):={}
theorem rD:aX bDa ada (aJ jN):={}
theorem mY:aX ["store","level","hours","lowest","highest"] aja (aJ oV):={}
theorem aD2:aX bka bka (aJ qQ):={}
theorem aCo:aX ["store","level","later","each"] bda (aJ RO):={}
theorem aE7:aX aua aua (aJ nV):={}
theorem nC:aX aTa aga (aJ cS):={}
theorem lK:aX a4a aga (aJ dZ):={}
theorem fO:aX ["machine","state","hours","ways","layers","hour"] aaa (aJ lI):={}
theorem aE8:aX aka aka (aJ nW):={}
theorem aGF:aX asa asa (aJ pV):={}
theorem nE:aX bca gz (aJ dE):={}
theorem mZ:aX a3a gz (aJ eK):={}
theorem aE9:aX aoa aoa (aJ sP):={}
theorem vN:aX fv fv (aJ fV):={}
theorem aAG:aX fv fv (aJ lJ):={}
theorem oX:aX boa aAa (aJ lP):={}
theorem aGG:aX aia aia (aJ vL):={}
theorem aD3:aX aca aca (aJ lQ):={}
theorem aC8:aX bla bla (aJ kL):={}
theorem dF:aX ["self","output","wanted","cost","amount","rate","taken"] bua (aJ kM):={}
theorem aGH:aX a2a a2a (aJ vM):={}
theorem xZ:aX aya aya (aJ gJ):={}
theorem uN:aX aZa aZa (aJ cP):={}
theorem rE:aX bla bla (aJ gK):={}
theorem cW:aX ["self","ahead","price","behind","place","worth","drawn","later","own"] bha (aJ iN):={}
theorem bZ:aX ["self","ahead","behind","worths","place","worth","drawn","later","cost","whole"] bea (aJ gL):={}
theorem lV:aX ["machine","corners","amount","rate"] bva (aJ sQ):={}
theorem fA:aX bxa aka (aJ iD):={}
theorem gW:aX ["machine","state","hours","layers","ways","layer","place"] aaa (aJ oW):={}
theorem qR:aX a8a aja (aJ kN):={}
theorem aCp:aX bGa a5a (aJ sR):={}
theorem pX:aX bza a9a (aJ sS):={}
theorem hZ:aX ["lack","want","by_drawn","low","high","middle"] baa (aJ sU):={}
theorem aC9:aX ava ava (aJ kO):={}
theorem yL:aX bra awa (aJ nX):={}
theorem fG:aX ala ara (aJ iO):={}
theorem eM:aX aba aWa (aJ hV):={}
theorem iP:aX ["works","position","wants","prices","rounds","lones","still","raised"] ana (aJ RG):={}
theorem iQ:aX ["_law_works_here","_law_position_here","_law_wants","_law_prices_here","_law_rounds","_law_some","_law_still","_law_turn","_law_ahead","_law_hour"] ue (aJ RN):={}
theorem iA:aX ["_law_works_here","_law_asked","_law_wants","_law_due_here","_law_position_here","_law_prices_here","_law_rounds","_law_handed","_law_told"] afa (aJ sV):={}
theorem iR:aX aa bia (aJ Hn):={}
theorem BV{n:Nat}:∀{us:ah},us.length=n+1->∃a r,us=a::r/\r.length=n
 |a::r,h=>⟨a,r,rfl,Nat.succ.inj h⟩
theorem Y0(us:ah)(h:us.length=1):∃a0,us=[a0]:=by obtain⟨a,r,rfl,g⟩:=BV h;cases List.eq_nil_of_length_eq_zero g;exact⟨a,rfl⟩
theorem DM(us:ah)(h:us.length=2):∃a0 a1,us=[a0,a1]:=by obtain⟨a0,r,rfl,g⟩:=BV h;obtain⟨a1,rfl⟩:=Y0 r g;exact⟨a0,a1,rfl⟩
theorem YZ(us:ah)(h:us.length=3):∃a0 a1 a2,us=[a0,a1,a2]:=by obtain⟨a0,r,rfl,g⟩:=BV h;obtain⟨a1,a2,rfl⟩:=DM r g;exact⟨a0,a1,a2,rfl⟩
theorem YY(us:ah)(h:us.length=4):∃a0 a1 a2 a3,us=[a0,a1,a2,a3]:=by obtain⟨a0,r,rfl,g⟩:=BV h;obtain⟨a1,a2,a3,rfl⟩:=YZ r g;exact⟨a0,a1,a2,a3,rfl⟩
theorem YX(us:ah)(h:us.length=5):∃a0 a1 a2 a3 a4,us=[a0,a1,a2,a3,a4]:=by obtain⟨a0,r,rfl,g⟩:=BV h;obtain⟨a1,a2,a3,a4,rfl⟩:=YY r g;exact⟨a0,a1,a2,a3,a4,rfl⟩
theorem YW(us:ah)(h:us.length=6):∃a0 a1 a2 a3 a4 a5,us=[a0,a1,a2,a3,a4,a5]:=by obtain⟨a0,r,rfl,g⟩:=BV h;obtain⟨a1,a2,a3,a4,a5,rfl⟩:=YX r g;exact⟨a0,a1,a2,a3,a4,a5,rfl⟩
theorem ar7(us:ah)(h:us.length=7):∃a0 a1 a2 a3 a4 a5 a6,us=[a0,a1,a2,a3,a4,a5,a6]:=by obtain⟨a0,r,rfl,g⟩:=BV h;obtain⟨a1,a2,a3,a4,a5,a6,rfl⟩:=YW r g;exact⟨a0,a1,a2,a3,a4,a5,a6,rfl⟩
theorem ar8(us:ah)(h:us.length=8):∃a0 a1 a2 a3 a4 a5 a6 a7,us=[a0,a1,a2,a3,a4,a5,a6,a7]:=by obtain⟨a0,r,rfl,g⟩:=BV h;obtain⟨a1,a2,a3,a4,a5,a6,a7,rfl⟩:=ar7 r g;exact⟨a0,a1,a2,a3,a4,a5,a6,a7,rfl⟩
set_option genInjectivity false in
set_option genSizeOf false in
structure Sa where
 aCq:Addr
 aCr:FuncData
 aCs:Addr
 aCt:FuncData
 aD4:Addr
 aD5:FuncData
 yM:Addr
 yN:FuncData
 aD6:Addr
 aD7:FuncData
 aCu:Addr
 aCv:FuncData
 aFR:Addr
 aFS:FuncData
 aD8:Addr
 aD9:FuncData
 aAH:Addr
 aAI:FuncData
 oY:Addr
 vO:FuncData
 aCw:Addr
 aCx:FuncData
 vP:Addr
 vQ:FuncData
 oZ:Addr
 vR:FuncData
 aHX:Addr
 aHY:FuncData
 yO:Addr
 yP:FuncData
 aAJ:Addr
 aAK:FuncData
 aCy:Addr
 aCz:FuncData
 aEa:Addr
 aEb:FuncData
 sW:Addr
 aAL:FuncData
 aCA:Addr
 aCB:FuncData
 vS:Addr
 vT:FuncData
 aAM:Addr
 aAN:FuncData
 aEc:Addr
 aEd:FuncData
 aEe:Addr
 aEf:FuncData
 vU:Addr
 vV:FuncData
 rF:Addr
 rG:FuncData
 aAO:Addr
 aAP:FuncData
 aCC:Addr
 aCD:FuncData
 yQ:Addr
 yR:FuncData
 vW:Addr
 vX:FuncData
 sX:Addr
 aAQ:FuncData
 aAR:Addr
 aAS:FuncData
 pY:Addr
 pZ:FuncData
 aAT:Addr
 aAU:FuncData
 tN:Addr
 tO:FuncData
 vY:Addr
 vZ:FuncData
 yS:Addr
 yT:FuncData
 aEg:Addr
 aEh:FuncData
 aAV:Addr
 aAW:FuncData
 o5:Addr
 jU:FuncData
 tQ:Addr
 m3:FuncData
 rH:Addr
 rJ:FuncData
 aAX:Addr
 aAY:FuncData
 aCE:Addr
 aCF:FuncData
 o6:Addr
 jV:FuncData
 v8:Addr
 o7:FuncData
 aAZ:Addr
 aA0:FuncData
 nF:Addr
 nG:FuncData
 rK:Addr
 rL:FuncData
 yU:Addr
 yV:FuncData
 aCG:Addr
 aCH:FuncData
 yW:Addr
 yX:FuncData
 o8:Addr
 v9:FuncData
 kQ:Addr
 p9:FuncData
 wA:Addr
 aCI:FuncData
 jW:Addr
 o9:FuncData
 iS:Addr
 iT:FuncData
 gM:Addr
 kR:FuncData
 iU:Addr
 mK:FuncData
 gN:Addr
 kS:FuncData
 aA1:Addr
 aA2:FuncData
 qA:Addr
 qB:FuncData
 wB:Addr
 wC:FuncData
 aA3:Addr
 aA4:FuncData
 aEi:Addr
 aEj:FuncData
 aEk:Addr
 aEm:FuncData
 aA5:Addr
 aA6:FuncData
 wD:Addr
 wG:FuncData
 aA7:Addr
 aA8:FuncData
 wH:Addr
 wI:FuncData
 yY:Addr
 yZ:FuncData
 aFT:Addr
 aFU:FuncData
 aEn:Addr
 aEo:FuncData
 aA9:Addr
 aBa:FuncData
 Zo:Addr
 Zn:FuncData
 jx:Addr
 cH:Addr
 nt:Addr
 dI:Addr
 jw:Addr
 cI:Addr
 pf:Addr
 dR:Addr
 jh:Addr
 cQ:Addr
 cZ:Addr
 aY:Addr
 cJ:Addr
 eC:Addr
structure Txt(K:W.Frag)(mg:Str->aw)(a:Sa):Prop where
 ng:FG K mg "_law_open" pT a.aCq a.aCr a7a
 af:FG K mg "_law_draw" vG a.aCs a.aCt bga
 ou:FG K mg "_law_far" zW a.aD4 a.aD5 bba
 fo:FG K mg "_law_factor" qN a.yM a.yN bya
 gg:FG K mg "is_whole" zX a.aD6 a.aD7 kf
 bq:FG K mg "is_amount" vH a.aCu a.aCv kf
 mi:FG K mg "is_span" Ru a.aFR a.aFS kf
 ot:FG K mg "is_piece" zY a.aD8 a.aD9 kf
 km:FG K mg "are_pieces" kJ a.aAH a.aAI kf
 je:FB K "__init__" "Machine.__init__" oP a.oY a.vO aha
 mz:FG K mg "_law_spec" vI a.aCw a.aCx aza
 jc:FG K mg "_law_machine" oQ a.vP a.vQ aqa
 jf:FB K "gain" "Machine.gain" oR a.oZ a.vR bAa
 iq:FG K mg "may_be" Ri a.aHX a.aHY aea
 cz:FG K mg "state_after" qO a.yO a.yP aea
 kr:FG K mg "_law_state" sI a.aAJ a.aAK ada
 df:FG K mg "_law_same" pU a.aCy a.aCz apa
 gi:FG K mg "is_depth" zZ a.aEa a.aEb kf
 lg:FB K "__init__" "Store.__init__" sJ a.sW a.aAL ata
 mx:FG K mg "run_fault" vJ a.aCA a.aCB ba
 iw:FG K mg "refuse_fault" oS a.vS a.vT ba
 ke:FG K mg "run_begins" sL a.aAM a.aAN ba
 oq:FG K mg "run_cost" z0 a.aEc a.aEd ba
 js:FG K mg "least_of" sM a.aEe a.aEf ama
 iu:FG K mg "worths_ahead" oU a.vU a.vV aCa
 bf:FG K mg "worths_by_hour" lH a.rF a.rG bpa
 ki:FG K mg "first_best" nS a.aAO a.aAP ama
 cb:FG K mg "first_row" vK a.aCC a.aCD a6a
 jm:FG K mg "ways_one_on" qP a.yQ a.yR bsa
 jb:FG K mg "are_machines" kK a.vW a.vX kf
 ky:FB K "__init__" "Works.__init__" sN a.sX a.aAQ aXa
 ko:FG K mg "_law_store" sO a.aAR a.aAS aia
 fg:FG K mg "_law_works_spec" iC a.pY a.pZ bfa
 kn:FG K mg "_law_works" nU a.aAT a.aAU aqa
 dk:FG K mg "_law_position" jN a.tN a.tO ada
 cn:FG K mg "levels_after" oV a.vY a.vZ aja
 fm:FG K mg "levels_from" qQ a.yS a.yT bka
 jt:FG K mg "drawn_by" RO a.aEg a.aEh bda
 bw:FG K mg "level_ways" nV a.aAV a.aAW aua
 dy:FG K mg "worths_of_levels" cS a.o5 a.jU aga
 gy:FG K mg "cheapest_path" dZ a.tQ a.m3 aga
 cy:FG K mg "states_by_hour" lI a.rH a.rJ aaa
 gj:FG K mg "next_hours" nW a.aAX a.aAY aka
 b8:FG K mg "hour_ways" pV a.aCE a.aCF asa
 dv:FG K mg "worths_of_states" dE a.o6 a.jV gz
 ja:FG K mg "cheapest_run" eK a.v8 a.o7 gz
 ku:FG K mg "_law_price" sP a.aAZ a.aA0 aoa
 dm:FG K mg "least_of_machines" fV a.nF a.nG fv
 fq:FG K mg "least_of_store" lJ a.rK a.rL fv
 de:FG K mg "price_bound" lP a.yU a.yV aAa
 my:FG K mg "_law_want" vL a.aCG a.aCH aia
 jo:FG K mg "_law_prices" lQ a.yW a.yX aca
 jd:FB K "most" "Machine.most" kL a.o8 a.v9 bla
 fh:FB K "cost_at" "Machine.cost_at" kM a.kQ a.p9 bua
 ir:FB K "__init__" "Lone.__init__" vM a.wA a.aCI a2a
 ck:FB K "priced_ways" "Lone.priced_ways" gJ a.jW a.o9 aya
 cg:FB K "worths_to_end" "Lone.worths_to_end" cP a.iS a.iT aZa
 bx:FB K "worths_at_first" "Lone.worths_at_first" gK a.gM a.kR bla
 dg:FB K "worths_behind" "Lone.worths_behind" iN a.iU a.mK bha
 cq:FB K "worths_by_drawn" "Lone.worths_by_drawn" gL a.gN a.kS bea
 kl:FG K mg "corners_of" sQ a.aA1 a.aA2 bva
 ff:FG K mg "ways_of_machine" iD a.qA a.qB aka
 iz:FG K mg "lone_machine" oW a.wB a.wC aaa
 kg:FG K mg "lone_store" kN a.aA3 a.aA4 aja
 jr:FG K mg "lones_of" sR a.aEi a.aEj a5a
 ju:FG K mg "bound_at" sS a.aEk a.aEm a9a
 kh:FG K mg "least_best" sU a.aA5 a.aA6 baa
 du:FG K mg "heads_behind" kO a.wD a.wG ava
 gv:FG K mg "best_price" nX a.aA7 a.aA8 awa
 iy:FG K mg "raised_price" iO a.wH a.wI ara
 jn:FG K mg "raised_once" hV a.yY a.yZ aWa
 mj:FG K mg "climbed" RG a.aFT a.aFU ana
 jv:FG K mg "_law_due" RN a.aEn a.aEo ue
 dt:FG K mg "_law_right" sV a.aA9 a.aBa afa
 JA:FG K mg "law" Hn a.Zo a.Zn bia
 kT:oi K a.cZ
 Z0:mg "Lone" = some (.ref a.cZ)
 ZZ:Mk K a.cZ a.wA
 dz:Meth K a.cZ "priced_ways" a.jW
 dh:Meth K a.cZ "worths_to_end" a.iS
 cu:Meth K a.cZ "worths_at_first" a.gM
 jg:Meth K a.cZ "worths_behind" a.iU
 gx:Meth K a.cZ "worths_by_drawn" a.gN
 qS:dQ K a.cZ "layers"
 wJ:dQ K a.cZ "ways"
 cB:oi K a.aY
 aFV:mg "Machine" = some (.ref a.aY)
 aLd:Mk K a.aY a.oY
 pe:Meth K a.aY "gain" a.oZ
 pd:Meth K a.aY "most" a.o8
 lu:Meth K a.aY "cost_at" a.kQ
 aBb:dQ K a.aY "up"
 wK:dQ K a.aY "down"
 tR:dQ K a.aY "begin"
 y4:dQ K a.aY "run"
 wL:dQ K a.aY "rest"
 fH:dQ K a.aY "least"
 fZ:dQ K a.aY "pieces"
 yd:M6 K a.aY
 jO:oi K a.cJ
 aJY:mg "Store" = some (.ref a.cJ)
 aOV:Mk K a.cJ a.sW
 wM:dQ K a.cJ "cap"
 aBc:dQ K a.cJ "into"
 aCJ:dQ K a.cJ "out"
 y6:dQ K a.cJ "takes"
 y7:dQ K a.cJ "gives"
 BU:M6 K a.cJ
 lW:oi K a.eC
 aOW:mg "Works" = some (.ref a.eC)
 aOX:Mk K a.eC a.sX
 lM:dQ K a.eC "machines"
 jI:dQ K a.eC "store"
 aBd:dQ K a.eC "lack"
 Nb:M6 K a.eC
 pA:Fn K a.jU a.jx a.cH
 tS:Fn K a.m3 a.nt a.dI
 pB:Fn K a.jV a.jw a.cI
 wN:Fn K a.o7 a.pf a.dR
 mL:Fn K a.iT a.jh a.cQ
 P9:mg "abs" = none
 Fv:mg "all" = none
 wO:mg "bool" = none
 gF:mg "enumerate" = none
 CD:mg "int" = none
 bL:mg "isinstance" = none
 iV:mg "len" = none
 gA:mg "list" = none
 CC:mg "max" = none
 wQ:mg "min" = none
 eU:mg "range" = none
 RM:mg "reversed" = none
 Rg:mg "sorted" = none
 LU:mg "str" = none
 Hm:mg "sum" = none
 sY:mg "tuple" = none
 DS:mg "zip" = none
 qT:∃t,mg "MOST_LEVELS" = some (.int 8 t)
 m5:∃t,mg "LONGEST_STINT" = some (.int 12 t)
 qU:∃t,mg "MOST_PIECES" = some (.int 4 t)
 m6:∃t,mg "MOST_MACHINES" = some (.int 6 t)
abbrev dU:Pos:=⟨138,34,138,92⟩
abbrev dW:Str:=(("worths_of_levels" : Str) ++ ".<locals>.") ++ "<lambda>"
abbrev gB:Pos:=⟨141,36,141,94⟩
abbrev gC:Str:=(("cheapest_path" : Str) ++ ".<locals>.") ++ "<lambda>"
abbrev dX:Pos:=⟨103,34,103,93⟩
abbrev dY:Str:=(("worths_of_states" : Str) ++ ".<locals>.") ++ "<lambda>"
abbrev gX:Pos:=⟨106,35,106,94⟩
abbrev gY:Str:=(("cheapest_run" : Str) ++ ".<locals>.") ++ "<lambda>"
abbrev cK:Pos:=⟨232,43,232,100⟩
abbrev cL:Str:=(("Lone.worths_to_end" : Str) ++ ".<locals>.") ++ "<lambda>"
inductive Th (H:Hp):V->String->Prop where
 |br:Th H .br "NoneType"
 |bl (b:Bool):Th H (.bl b) "bool"
 |int (i:Int):Th H (.int i) "int"
 |str (x:Str):Th H (.str x) "str"
 |lst {p:Addr} {xs:List V} (e:H p=some (.lst xs)):Th H (.ref p) "list"
 |tup {p:Addr} {xs:List V} (e:H p=some (.tup xs)):Th H (.ref p) "tuple"
 |dK {p:Addr} {kvs:List (Key×V)} (e:H p=some (.dK kvs)):Th H (.ref p) "dict"
theorem Th.ty{K:W.Frag}{H:Hp}{v:V}{T:String}(h:Th H v T):uT K H v (.type T):=by
 cases h with
 |br=>exact .br
 |bl b=>exact .bl b
 |int i=>exact .int i
 |str x=>exact .str x
 |lst e=>exact .lst e
 |tup e=>exact .tup e
 |dK e=>exact .dK e
theorem Th.keep(h:Th H v T)(n:∀b,v=.ref b->b≠p)(k:bX p H H'):Th H' v T:=by
 cases h with
 |br=>exact .br
 |bl b=>exact .bl b
 |int i=>exact .int i
 |str x=>exact .str x
 |lst e=>exact .lst (k _ _ e (n _ rfl))
 |tup e=>exact .tup (k _ _ e (n _ rfl))
 |dK e=>exact .dK (k _ _ e (n _ rfl))
theorem HD(h:Th H v T):Bz K H v (.ty "int") (T == "int" || T == "bool"):=by
 refine⟨_,h.ty,.inl ⟨_,rfl,?_⟩⟩;cases h <;> rfl
theorem iW(h:Th H v T):Bz K H v (.ty "bool") (T == "bool"):=by
 refine⟨_,h.ty,.inl ⟨_,rfl,?_⟩⟩;cases h <;> rfl
def DN:V->Bool
 |.int i=>decide (0<=i) && decide (i<=10 ^ 12)
 |_=>false
structure bG(H:Hp)(p:Addr):Prop where
 ex:∃(d c:Int) (q:Addr) (ms:ae),H p=some (.lst [.int d,.int c,.ref q])/\H q=some (.lst (ms.map V.int))/\ms≠[]/\q≠p
def mM(p:Addr)(H H':Hp):Prop:=∀(d c:Int) (q:Addr),H p=some (.lst [.int d,.int c,.ref q])->∃d' c':Int,H' p=some (.lst [.int d',.int c',.ref q])
theorem mM.trans(a:mM p H H1)(b:mM p H1 H2):mM p H H2:=λd c q e=>by
 obtain⟨d',c',e'⟩:=a d c q e;exact b d' c' q e'
theorem mM.of{H H':Hp}(s:∀o,H p=some o->H' p=some o):mM p H H':=λd c q e=>⟨d,c,s _ e⟩
theorem bG.of(h:bG H p)(k:bX p H H')(s:mM p H H'):bG H' p:=by
 obtain⟨d,c,q,ms,hp,hq,cj,zc⟩:=h.ex;obtain⟨d',c',e⟩:=s d c q hp;exact⟨⟨d',c',q,ms,e,k _ _ hq zc,cj,zc⟩⟩
theorem bG.same(h:bG H p)(s:aO H H'):bG H' p:=by
 obtain⟨d,c,q,ms,hp,hq,cj,zc⟩:=h.ex;exact⟨⟨d,c,q,ms,s _ _ hp,s _ _ hq,cj,zc⟩⟩
theorem rM(h:Th H v T):Bz K H v (.ty "list") (T == "list"):=by
 refine⟨_,h.ty,.inl ⟨_,rfl,?_⟩⟩;cases h <;> rfl
theorem Q7(h:Th H v T):Bz K H v (.ty "str") (T == "str"):=by
 refine⟨_,h.ty,.inl ⟨_,rfl,?_⟩⟩;cases h <;> rfl
theorem rN(h:Th H v T):Bz K H v (.ty "tuple") (T == "tuple"):=by
 refine⟨_,h.ty,.inl ⟨_,rfl,?_⟩⟩;cases h <;> rfl
theorem ZY{ms:ae}{c:Int}(h:ms≠[]):∃m,m∈ms/\pP (ms.map V.int) (c % ((ms.map V.int).length:Int))=some (.int m):=by
 have hl:0 < ms.length:=HY.mpr h;have e1:=HR c (b:=((ms.map V.int).length:Int)) (by rw[bO];lia);have e2:=HX c (b:=((ms.map V.int).length:Int)) (by rw[bO];lia);obtain⟨j,hj⟩ : ∃j:Nat,c % ((ms.map V.int).length:Int)=(j:Int):=⟨_,(Int.toNat_of_nonneg e1).symm⟩
 rw[hj] at e2 ⊢;rw[bO] at e2;have Dx:j < ms.length:=by lia
 exact⟨ms[j],AY Dx,eB (by rw[lB,eQ Dx];rfl)⟩
theorem aJ0(ms:ae)(lo hi:Option Int):∃r:ae,nM (ms.map V.int) lo hi=r.map V.int/\r.length=(nM (ms.map V.int) lo hi).length:=by
 unfold nM;rw[<-List.map_drop,<-List.map_take];exact⟨_,rfl,by simp⟩
theorem rot{ms:ae}{i:Int}(h0:0<=i)(h1:i < ms.length):∃B8:ae,nM (ms.map V.int) (some i) none++nM (ms.map V.int) none (some i)=B8.map V.int/\B8≠[]/\B8.length<=ms.length+ms.length:=by
 obtain⟨r1,e1,l1⟩:=aJ0 ms (some i) none;obtain⟨r2,e2,l2⟩:=aJ0 ms none (some i);have b1:=gE (ms.map V.int) (some i) none;have b2:=gE (ms.map V.int) none (some i);rw[bO] at b1 b2;refine⟨r1++r2,by rw[e1,e2,jF],λz=>?_,by rw[jE];lia⟩;have z1:r1=[]:=(List.append_eq_nil_iff.mp z).1;obtain⟨j,rfl⟩:=Ib h0;have hj:j < ms.length:=by lia
 rw[z1,MK] at l1;have l3:(nM (ms.map V.int) (some (j:Int)) none).length=ms.length - j:=by
  unfold nM;rw[HT.Q5,HT.Rq,yF,F0,bO,FY (CH hj)];lia
 rw[l3] at l1;lia
inductive aBf  (K:W.Frag) (vs:List V) (H:Hp) (Q:VK) (E:XK):Prop
 |mk:∀(a:Addr) (ns:ae) (i:Int),(vs=[.ref a,.int i])->(bP K H a (ns.map V.int))->(ns.length<=63)->(0<=i)->(∀p H',aO H H'->H p=none->bG H' p->Q (.ref p) H')->aBf K vs H Q E
theorem aGJ(tx:Txt K mg a):bT P w K mg base fS 1 a.aCq a.aCr a7a (aBf K):=by
 refine tx.ng.F.ok jB (by walk_at "l") λbo A outer s H vs Q E hr h=>?_;obtain⟨a,ns,i,rfl ,hS,hl,h0,k⟩:=h;have hu:=gZ hr;refine aZ (aE (eO (k:=1) (idx:=[]) (N:=["_law_cell"]) (i:=2) jB.nd rfl (Or.inl rfl) (cF (sc:=aJ pT) (NX:=bja) rfl rfl rfl (by decide +kernel)) rfl (bC (Y:=K) (jZ (rs:=Cr K) Fq (aB 0) lE (lF aD))) (λ_ _ _ _=>(aK (i:=0) (show(["_law_cell"]:aj).Nodup by decide +kernel))) (cX (by decide)) (λ_ _ _ _=>bH) (λ_ _ _ _=>(aN aKH (by rfl) tx.P9 aQz (aA (aB 0) aC))))
  (aE (bB (aW (r:=iH K) (dJ hu) (aB 2) (j0 aC) (bD _)) (aG (aI (i:=2) jB.nd (pR aD))) bA)
  (aE (aI (i:=3) jB.nd (aL qJ (aB 1) (aN (rc:=nQ K) cV (by rfl) tx.iV fT (aA (aB 2) aC))))
  (aE (aI (i:=4) jB.nd aD)
  (aE (bB (eJ (hJ (aW Zz (aH (Y:=K) (aB 2) (aB 3)) (aL Hw aD aD) (bD _)) (gH (aW Hl (aB 1) (aN (rc:=nQ K) cV (by rfl) tx.iV fT (aA (aB 2) aC)) (bD _))))) (aG (aI (i:=4) jB.nd (aH (Y:=K) (aB 2) (aB 3)))) bA)
  (aG (aM (xR (aB 4) (aL bJ aD (aL cC aD (aB 1))) (aL bJ (jZ (rs:=Cr K) Fq (aB 2) (lF (aB 3)) lE) (jZ (rs:=Cr K) Fq (aB 2) lE (lF (aB 3)))))))))))) ?_
 refine aU (U:=[A' a,B' i,none,none,none]) rfl ?_;refine Me ?_;rfl';refine uY hS ?_;intro p1 n1;rfl';rw[show nM (ns.map V.int) none (some 63)=ns.map V.int from aMi (n:=63) (by rw[bO];exact hl)];refine eY (bP.of aP) ?_;refine Rz (λv=>match v with|.int i=>.int (if i < 0 then -i else i)|v=>v) (bP.of aP) (cA (by rw[bO];lia)) (λx N N' hx hN=>?_) ?_
 ·obtain⟨y,hy,rfl⟩:=jQ.mp hx;rfl';exact hN
 ·intro p2 n2;repeat walk_at "st"
  have s2:aO H (upd (upd H p1 (.lst (ns.map V.int))) p2 (.lst ((ns.map V.int).map λv=>match v with|.int i=>.int (if i < 0 then -i else i)|v=>v))):=(aO.new n1).trans (aO.new n2);rw[qg] at s2 ⊢;generalize hm:ns.map ((λv=>match v with|V.int i=>V.int (if i < 0 then -i else i)|v=>v) ∘ V.int)=xs at s2 ⊢;obtain⟨ms,rfl⟩ : ∃ms:ae,xs=ms.map V.int:=⟨ns.map λi=>if i < 0 then -i else i,by rw[<-hm,qg];rfl⟩
  have lm:ms.length<=63:=by
   have:=congrArg List.length hm;simp only[bO] at this;lia
  refine fU (λU' H'=>∃(c:Addr) (ms:ae),U'=[A' a,B' i,A' c,none,none]/\aO H H'/\H' c=some (.lst (ms.map V.int))/\ms≠[]/\ms.length<=63) (λN hN=>?_) ?_
  ·rfl';intro p3 n3;rfl';refine⟨_,Q0 (bP.of (by walk_at "hp")) (bP.of aP),?_⟩;rfl';refine kE (λh=>?_) (λh=>?_)
   ·rfl';intro p4 n4;rfl';exact hN _ _ ⟨p4,[0],rfl,(s2.trans (aO.new n3)).trans (aO.new n4),aP,by simp,by simp⟩
   ·rfl';refine hN _ _ ⟨p2,ms,rfl,s2.trans (aO.new n3),by walk_at "hp",?_,lm⟩;rintro rfl;simp at h
  ·rintro U' H' ⟨c,ms,rfl,sH,hc,cj,lm⟩;have hl:0 < ms.length:=HY.mpr cj;obtain⟨m,_,hm⟩:=ZY (c:=i) cj;have e1:=HR i (b:=((ms.map V.int).length:Int)) (by rw[bO];lia);have e2:=HX i (b:=((ms.map V.int).length:Int)) (by rw[bO];lia);obtain⟨B8,em,en,el⟩:=rot (ms:=ms) e1 (by rw[bO] at e2 ⊢;exact e2);rfl';refine cE (λh=>?_) (λh=>?_)
   ·rfl';refine cE (λh=>?_) (λh=>?_);all_goals
     rfl';refine uY (bP.of hc) ?_;intro p5 n5;rfl';refine uY (bP.of (by walk_at "hp")) ?_;intro p6 n6;rfl';refine sD (by walk_at "hp") (by walk_at "hp") (cA (by have:=gE (ms.map V.int) (some (i % ((ms.map V.int).length:Int))) none;have:=gE (ms.map V.int) none (some (i % ((ms.map V.int).length:Int)));simp only[bO] at *;lia)) ?_;intro p7 n7;rfl';rw[em];rfl';intro p8 n8;rfl';have s8:=((aO.new (o:=.lst (nM (ms.map V.int) (some (i % ((ms.map V.int).length:Int))) none)) n5).trans (aO.new (o:=.lst (nM (ms.map V.int) none (some (i % ((ms.map V.int).length:Int))))) n6)).trans (aO.new (o:=.lst (B8.map V.int)) n7);refine k _ _ (sH.trans (s8.trans (aO.new n8))) ((sH.trans s8).free n8) ⟨⟨_,_,_,B8,aP,by walk_at "hp",en,?_⟩⟩;exact bE n8 aP
   ·rfl';refine uY (bP.of hc) ?_;intro p5 n5;rfl';refine uY (bP.of (by walk_at "hp")) ?_;intro p6 n6;rfl';refine sD (by walk_at "hp") (by walk_at "hp") (cA (by have:=gE (ms.map V.int) (some (i % ((ms.map V.int).length:Int))) none;have:=gE (ms.map V.int) none (some (i % ((ms.map V.int).length:Int)));simp only[bO] at *;lia)) ?_;intro p7 n7;rfl';rw[em];rfl';intro p8 n8;rfl';have s8:=((aO.new (o:=.lst (nM (ms.map V.int) (some (i % ((ms.map V.int).length:Int))) none)) n5).trans (aO.new (o:=.lst (nM (ms.map V.int) none (some (i % ((ms.map V.int).length:Int))))) n6)).trans (aO.new (o:=.lst (B8.map V.int)) n7);refine k _ _ (sH.trans (s8.trans (aO.new n8))) ((sH.trans s8).free n8) ⟨⟨_,_,_,B8,aP,by walk_at "hp",en,?_⟩⟩;exact bE n8 aP
inductive aBg  (K:W.Frag) (vs:List V) (H:Hp) (Q:VK) (E:XK):Prop
 |mk:∀(p:Addr) (n:Int),(vs=[.ref p,.int n])->bG H p->(0 < n)->(n < 1073741824)->(∀(r:Int) H',0<=r->r < n->bG H' p->bX p H H'->mM p H H'->Q (.int r) H')->aBg K vs H Q E
theorem eI(tx:Txt K mg a):bT P w K mg base fS 1 a.aCs a.aCt bga (aBg K):=by
 refine tx.af.F.ok jC (by walk_at "l") λbo A outer s H vs Q E hr h=>?_;obtain⟨p,n,rfl ,hh,h0,h1,k⟩:=h;have hu:=gZ hr;refine aZ (aE (bB (aW rB (aH (Y:=K) (aB 0) aD) aD (bD _)) (aE (aI (i:=2) jC.nd (aL qJ (aH (Y:=K) (aB 0) aD) (aB 1)))
  (aE (lG (aL HH (aH (Y:=K) (aB 0) aD) (aB 1)) (oF (aB 0) aD set_list))
  (aG (aM (aB 2))))) bA)
  (aE (aIX (aB 0) aD aQB aD Hy set_list)
  (aE (aI (i:=3) jC.nd (aL qJ (aH (Y:=K) (aH (Y:=K) (aB 0) aD) (aL qJ (aH (Y:=K) (aB 0) aD) (aN (rc:=nQ K) cV (by rfl) tx.iV fT (aA (aH (Y:=K) (aB 0) aD) aC)))) aD))
  (aE (aI (i:=4) jC.nd (aL qJ (aL bJ (aL bJ (aL cC (aB 3) aD) (aL cC (aH (Y:=K) (aB 0) aD) aD)) aD) aD))
  (aE (aI (i:=4) jC.nd (aL qJ (aL bJ (aL cC (aB 4) (aB 4)) (aH (Y:=K) (aB 0) aD)) aD))
  (aE (aI (i:=4) jC.nd (aL qJ (aL bJ (aL cC (aB 4) aD) aD) aD))
  (aG (aM (aL qJ (aL HH (aL qJ (aL cC (aB 4) (aB 4)) aD) aD) (aB 1)))))))))) ?_
 obtain⟨d,c,q,ms,hp,hq,cj,zc⟩:=hh.ex;refine aU (U:=[A' p,B' n,none,none,none]) rfl ?_;rfl';refine cE (λhd=>?_) (λhd=>?_)
 ·rfl';refine sC hp rfl ?_;rfl';refine k _ _ (HR _ (by lia)) (HX _ h0) ⟨⟨_,c,q,ms,aP,by walk_at "hp",cj,zc⟩⟩ bX.upd (λd0 c0 q0 e0=>by rw[hp] at e0;cases e0;exact⟨_,_,aP⟩)
 ·rfl';refine aQH (bP.of hp) (by decide) rfl ?_;rfl';refine sC hp rfl ?_;obtain⟨m,_,hm⟩:=ZY (c:=c+1) cj;have hlen:0 < ((ms.map V.int).length:Int):=by rw[bO];have:=HY.mpr cj;lia
  rfl';have qa:(upd H p (.lst [.int d,.int (c+1),.ref q])) q=some (.lst (ms.map V.int)):=by walk_at "hp"
  rfl';exact k _ _ (HR _ (by lia)) (HX _ h0) ⟨⟨d,c+1,q,ms,aP,qa,cj,zc⟩⟩ bX.upd (λd0 c0 q0 e0=>by rw[hp] at e0;cases e0;exact⟨_,_,aP⟩)
inductive aCM  (K:W.Frag) (vs:List V) (H:Hp) (Q:VK) (E:XK):Prop
 |mk:∀(p:Addr) (b:Int),(vs=[.ref p,.int b])->bG H p->(0 < b)->(∀(r:Int) H',0<=r->r < b->bG H' p->bX p H H'->mM p H H'->Q (.int r) H')->aCM K vs H Q E
theorem aH0(tx:Txt K mg a):bT P w K mg base fS 2 a.aD4 a.aD5 bba (aCM K):=by
 have aS:=eI (P:=P) (w:=w) (base:=base) tx;refine tx.ou.F.ok pW (by walk_at "l") λbo A outer s H vs Q E hr h=>?_;obtain⟨p,b,rfl ,hh,h0,k⟩:=h;have hu:=gZ hr;refine aZ (aE (aI (i:=2) pW.nd aD)
  (aE (bN PassesOwn.never rfl (cO (by rfl) tx.eU (aA aD aC)) (aK (i:=3) pW.nd) (aG (aI (i:=2) pW.nd (aL bJ (aL cC (aB 2) aD) (bg aS hr tx.af (aA (aB 0) (aA aD aC)))))))
  (aG (aM (aL qJ (aB 2) (aB 1)))))) ?_
 refine aU (U:=[A' p,B' b,none,none]) rfl ?_;rfl';refine⟨by decide,by decide,?_⟩;refine mF (n:=11) (λi U' H'=>∃(t:Int) (x:Option V),U'=[A' p,B' b,B' t,x]/\bG H' p/\bX p H H'/\mM p H H') ⟨0,none,rfl,hh,λ_ _ e _=>e,mM.of λ_ e=>e⟩ (λi U' H' hi z7q=>?_) (λU' H' z8q=>?_)
 ·obtain⟨t,x,e,h',kp,sq⟩:=z7q;subst e;rfl';refine⟨p,_,rfl,h',by decide,by decide,λr H2 r0 r1 h2 k2 q2=>?_⟩;rfl';exact⟨_,_,rfl,h2,kp.trans k2,sq.trans q2⟩
 ·obtain⟨t,x,e,h',kp,sq⟩:=z8q;subst e;rfl';exact k _ _ (HR _ (by lia)) (HX _ h0) h' kp sq
inductive wR  (K:W.Frag) (vs:List V) (H:Hp) (Q:VK) (E:XK):Prop
 |mk:∀(p:Addr),(vs=[.ref p])->bG H p->(∀(r:Int) H',1<=r->r<=50000000000->bG H' p->bX p H H'->mM p H H'->Q (.int r) H')->wR K vs H Q E
theorem aEr(tx:Txt K mg a):bT P w K mg base fS 3 a.yM a.yN bya (wR K):=by
 have aS:=eI (P:=P) (w:=w) (base:=base) tx;have aJj:=aH0 (P:=P) (w:=w) (base:=base) tx;refine tx.fo.F.ok aD0 (by walk_at "l") λbo A outer s H vs Q E hr h=>?_;obtain⟨p,rfl ,hh,k⟩:=h;have hu:=gZ hr;refine aZ (aE (bB (aW rB (bg aS hr tx.af (aA (aB 0) (aA aD aC))) aD (bD _)) (aG (aM aD)) bA)
  (aG (aM (aL bJ aD (bg aJj hr tx.ou (aA (aB 0) (aA (aL cC aD (aL Hw aD aD)) aC))))))) ?_
 refine aU (U:=[A' p]) rfl ?_;rfl';refine⟨p,_,rfl,hh,by decide,by decide,λr1 H1 a1 b1 h1 k1 q1=>?_⟩;rfl';refine cE (λh=>?_) (λh=>?_)
 ·rfl';exact k _ _ (by decide) (by decide) h1 k1 q1
 ·rfl';refine⟨p,_,rfl,h1,by decide,λr2 H2 a2 b2 h2 k2 q2=>?_⟩;have b3:r2 < 50000000000:=b2;rfl';exact k _ _ (by lia) (by lia) h2 (k1.trans k2) (q1.trans q2)
structure MS where
 up:Int
 down:Int
 begin_:Int
 run:Int
 rest:Int
 least:Int
 pieces:ay
def Am(i:Int):Prop:=0<=i/\i<=1000000000000
structure Mi(ps:ay):Prop where
 len:ps.length<=4
 pc:∀t∈ps,1<=t.1/\Am t.1/\Am t.2
 up:∀(j:Nat) t u,ps[j]?=some t->ps[j+1]?=some u->t.2<=u.2
structure MS.Good(m:MS):Prop where
 up:1<=m.up/\m.up<=12
 down:1<=m.down/\m.down<=12
 begin_:Am m.begin_
 run:Am m.run
 rest:Am m.rest
 least:Am m.least
 pieces:Mi m.pieces
structure wU(H:Hp)(qs:ao)(ps:ay):Prop where
 len:qs.length=ps.length
 at_:∀(j:Nat) q t,qs[j]?=some q->ps[j]?=some t->H q=some (.tup [.int t.1,.int t.2])
structure yA(H:Hp)(p:Addr)(ps:ay):Prop where
 ex:∃qs,H p=some (.lst (qs.map V.ref))/\wU H qs ps
structure dS(H:Hp)(s:Addr)(m:MS):Prop where
 ex:∃pl,H s=some (.lst [.int m.up,.int m.down,.int m.begin_,.int m.run,.int m.rest,.int m.least,.ref pl])/\yA H pl m.pieces
def Ax(m:MS)(pl:Addr):List (Str×V):=[("up",.int m.up),("down",.int m.down),("begin",.int m.begin_),("run",.int m.run),("rest",.int m.rest),("least",.int m.least),("pieces",.ref pl)]
structure c8(C:Addr)(H:Hp)(a:Addr)(m:MS):Prop where
 ex:∃dx pl,H a=some (.ins C dx (Ax m pl))/\yA H pl m.pieces
theorem wU.at2{H:Hp}{ps:ay}(h:wU H qs ps)(hq:q∈qs):∃t∈ps,H q=some (.tup [.int t.1,.int t.2]):=by
 obtain⟨j,hj,rfl⟩:=List.getElem_of_mem hq;have rg:j < ps.length:=by rw[<-h.len];exact hj
 exact⟨ps[j],AY rg,h.at_ j _ _ (eQ hj) (eQ rg)⟩
theorem wU.same{ps:ay}(h:wU H qs ps)(s:aO H H'):wU H' qs ps:=⟨h.len,λj q t h1 h2=>s _ _ (h.at_ j q t h1 h2)⟩
theorem yA.same{ps:ay}(h:yA H p ps)(s:aO H H'):yA H' p ps:=by
 obtain⟨qs,h1,h2⟩:=h.ex;exact⟨qs,s _ _ h1,h2.same s⟩
theorem dS.same(h:dS H p m)(s:aO H H'):dS H' p m:=by
 obtain⟨pl,h1,h2⟩:=h.ex;exact⟨pl,s _ _ h1,h2.same s⟩
theorem c8.same(h:c8 C H p m)(s:aO H H'):c8 C H' p m:=by
 obtain⟨dx,pl,h1,h2⟩:=h.ex;exact⟨dx,pl,s _ _ h1,h2.same s⟩
theorem wU.keep{H:Hp}{ps:ay}(h:wU H qs ps)(hp:∀xs,H p≠some (.tup xs))(s:bX p H H'):wU H' qs ps:=
 ⟨h.len,λj q t h1 h2=>by
  have e:=h.at_ j q t h1 h2;exact s _ _ e (λz=>hp _ (z▸e))⟩
theorem bG.Hf(h:bG H p)(xs:List V):H p≠some (.tup xs):=λz=>by
 obtain⟨d,c,q,ms,hp,_⟩:=h.ex;rw[hp] at z;cases z
theorem yA.keep{ps:ay}(h:yA H a ps)(hh:bG H p)(s:bX p H H'):yA H' a ps:=by
 obtain⟨qs,h1,h2⟩:=h.ex;obtain⟨d,c,q,ms,hp,_⟩:=id hh.ex;refine⟨qs,s _ _ h1 (λz=>?_),h2.keep hh.Hf s⟩;rw[z,hp] at h1;cases qs with
 |nil=>cases h1
 |cons x xs=>cases h1
theorem dS.keep(h:dS H a m)(hh:bG H p)(s:bX p H H'):dS H' a m:=by
 obtain⟨pl,h1,h2⟩:=h.ex;obtain⟨d,c,q,ms,hp,_⟩:=id hh.ex;refine⟨pl,s _ _ h1 (λz=>?_),h2.keep hh s⟩;rw[z,hp] at h1;cases h1
theorem c8.keep(h:c8 C H a m)(hh:bG H p)(s:bX p H H'):c8 C H' a m:=by
 obtain⟨dx,pl,h1,h2⟩:=h.ex;obtain⟨d,c,q,ms,hp,_⟩:=id hh.ex;refine⟨dx,pl,s _ _ h1 (λz=>?_),h2.keep hh s⟩;rw[z,hp] at h1;cases h1
theorem sZ{i:Int}(h:Am i):DN (.int i)=true:=by
 obtain⟨h1,h2⟩:=h;have h3:i<=10 ^ 12:=h2;show(decide (0<=i) && decide (i<=10 ^ 12))=true;rw[mv h1,mv h3];rfl
inductive aCN  (K:W.Frag) (vs:List V) (H:Hp) (Q:VK) (E:XK):Prop
 |mk:∀v T,(vs=[v])->Th H v T->(Q (.bl (T == "int")) H)->aCN K vs H Q E
theorem wV(tx:Txt K mg a):bT P w K mg base fS 1 a.aD6 a.aD7 kf (aCN K):=by
 refine tx.gg.F.ok aHT (by walk_at "l") λbo A outer s H vs Q E hr h=>?_;obtain⟨v,T,rfl ,ht,k⟩:=h;have hu:=gZ hr;refine aZ (aG (aM (fF (aN (rc:=pO K) dA (by rfl) tx.bL bK (aA (aB 0) (aA (cM (v:=.ty "int") (by rfl) tx.CD FO rfl) aC))) (fE (aKP (aN (rc:=pO K) dA (by rfl) tx.bL bK (aA (aB 0) (aA (cM (v:=.ty "bool") (by rfl) tx.wO xK rfl) aC)))))))) ?_;refine aU (U:=[some v]) rfl ?_;rfl';refine dG (HD ht) ?_;rfl';refine kE (λh=>?_) (λh=>?_)
 ·rfl';refine dG (iW ht) ?_;rfl';have e:(!(T == "bool"))=(T == "int"):=by cases ht <;> first|rfl|cases h
  rw[e];exact k
 ·have e:(T == "int")=false:=by cases ht <;> first|rfl|cases h
  rw[e] at k;exact k
inductive aBh  (K:W.Frag) (vs:List V) (H:Hp) (Q:VK) (E:XK):Prop
 |mk:∀v T,(vs=[v])->Th H v T->(Q (.bl (DN v)) H)->aBh K vs H Q E
theorem nZ(tx:Txt K mg a):bT P w K mg base fS 2 a.aCu a.aCv kf (aBh K):=by
 have pC:=wV (P:=P) (w:=w) (base:=base) tx;refine tx.bq.F.ok aGD (by walk_at "l") λbo A outer s H vs Q E hr h=>?_;obtain⟨v,T,rfl ,ht,k⟩:=h;have hu:=gZ hr;refine aZ (aG (aM (fF (bg pC hr tx.gg (aA (aB 0) aC)) (fE (u9 Cz Cz aD (aB 0) (aL Hw aD aD)))))) ?_;refine aU (U:=[some v]) rfl ?_;rfl';refine⟨v,T,rfl,ht,?_⟩;rfl';refine kE (λh=>?_) (λh=>?_)
 ·cases ht with
  |int i=>
   rfl';refine cE (λh1=>?_) (λh1=>?_)
   ·rfl';have e:DN (.int i)=decide (i<=10 ^ (12:Int).toNat):=by simp[DN,h1]
    rw[<-e];exact k
   ·have e:DN (.int i)=false:=by simp[DN,h1]
    rw[e] at k;exact k
  |_=>cases h
 ·have e:DN v=false:=by cases ht <;> first|rfl|cases h
  rw[e] at k;exact k
inductive aEs  (K:W.Frag) (vs:List V) (H:Hp) (Q:VK) (E:XK):Prop
 |mk:∀(i:Int),(vs=[.int i])->(1<=i)->(i<=12)->(Q (.bl true) H)->aEs K vs H Q E
theorem aJk(tx:Txt K mg a):bT P w K mg base fS 2 a.aFR a.aFS kf (aEs K):=by
 have pC:=wV (P:=P) (w:=w) (base:=base) tx;refine tx.mi.F.ok aJi (by walk_at "l") λbo A outer s H vs Q E hr h=>?_;obtain⟨i,rfl ,h1,h2,k⟩:=h;have hu:=gZ hr;refine aZ (aG (aM (fF (bg pC hr tx.gg (aA (aB 0) aC)) (fE (u9 Cz Cz aD (aB 0) (sF (n:=12) (by rfl) tx.m5)))))) ?_;refine aU (U:=[B' i]) rfl ?_;rfl';refine⟨_,_,rfl,.int i,?_⟩;rfl';refine kE (λ_=>?_) (λh=>by simp at h);rfl';refine cE (λ_=>?_) (λh=>absurd h1 h);rfl';rw[mv h2];exact k
inductive aCO  (K:W.Frag) (vs:List V) (H:Hp) (Q:VK) (E:XK):Prop
 |mk:∀(q:Addr) (x y:Int),(vs=[.ref q])->(H q=some (.tup [.int x,.int y]))->(1<=x)->Am x->Am y->(Q (.bl true) H)->aCO K vs H Q E
theorem aH1(tx:Txt K mg a):bT P w K mg base fS 3 a.aD8 a.aD9 kf (aCO K):=by
 have eA:=nZ (P:=P) (w:=w) (base:=base) tx;refine tx.ot.F.ok aHU (by walk_at "l") λbo A outer s H vs Q E hr h=>?_;obtain⟨q,x,y,rfl ,hq,h1,h2,h3,k⟩:=h;have hu:=gZ hr;refine aZ (aE (bB (eJ (jH (eF (cN (aN (rc:=pO K) dA (by rfl) tx.bL bK (aA (aB 0) (aA (cM (v:=.ty "tuple") (by rfl) tx.sY uX rfl) aC))))) (jY (aW (r:=Bn K) (FL hu) (aN (rc:=nQ K) cV (by rfl) tx.iV fT (aA (aB 0) aC)) aD (bD _))))) (aG (aM fM)) bA)
  (aG (aM (fF (bg eA hr tx.bq (aA (aH (Y:=K) (aB 0) aD) aC)) (fF (dB Zz (aH (Y:=K) (aB 0) aD) aD (bD _)) (fE (bg eA hr tx.bq (aA (aH (Y:=K) (aB 0) aD) aC)))))))) ?_
 refine aU (U:=[A' q]) rfl ?_;rfl';refine dG (rN (.tup hq)) ?_;rfl';refine kE (λh=>by simp at h) (λ_=>?_);rfl';refine aOs (λh=>absurd rfl h) (λ_=>?_);rfl';refine⟨_,_,rfl,.int x,?_⟩;rw[sZ h2];rfl';refine cE (λ_=>?_) (λh=>absurd h1 h);rfl';refine⟨_,_,rfl,.int y,?_⟩;rw[sZ h3];exact k
inductive y8  (K:W.Frag) (vs:List V) (H:Hp) (Q:VK) (E:XK):Prop
 |mk:∀(p:Addr) (ps:ay),(vs=[.ref p])->yA H p ps->Mi ps->(∀H',aO H H'->Q (.bl true) H')->y8 K vs H Q E
theorem aFa(tx:Txt K mg a):bT P w K mg base fS 4 a.aAH a.aAI kf (y8 K):=by
 have aJl:=aH1 (P:=P) (w:=w) (base:=base) tx;refine tx.km.F.ok aE5 (by walk_at "l") λbo A outer s H vs Q E hr h=>?_;obtain⟨p,ps,rfl ,hp,hg,k⟩:=h;have hu:=gZ hr;refine aZ (aE (bB (eJ (jH (eF (cN (aN (rc:=pO K) dA (by rfl) tx.bL bK (aA (aB 0) (aA (cM (v:=.ty "list") (by rfl) tx.gA fB rfl) aC))))) (jY (aW rB (aN (rc:=nQ K) cV (by rfl) tx.iV fT (aA (aB 0) aC)) (sF (n:=4) (by rfl) tx.qU) (bD _))))) (aG (aM fM)) bA)
  (aE (bB (eF (cN (aN (rc:=Fp K) (xP rfl) (by rfl) tx.Fv Mf (aA (cG (k:=1) (idx:=[]) (N:=["piece"]) (cF (sc:=aJ kJ) (NX:=kf) rfl rfl rfl (by decide +kernel)) rfl (bC (Y:=K) (aB 0)) (λ_ _ _ _=>(aK (i:=0) (show(["piece"]:aj).Nodup by decide +kernel))) (cX (by decide)) (λ_ _ _ _=>bH) (λ_ _ _ _=>(bg aJl hr tx.ot (aA (aB 0) aC)))) aC)))) (aG (aM fM)) bA)
  (aG (aM (aN (rc:=Fp K) (xP rfl) (by rfl) tx.Fv Mf (aA (cG (k:=1) (idx:=[0]) (N:=["at","thing"]) (cF (sc:=aJ kJ) (NX:=kf) rfl rfl rfl (by decide +kernel)) rfl (aEZ (by rfl) tx.eU (aA aD (aA (aN (rc:=nQ K) cV (by rfl) tx.iV fT (aA (aB 0) aC)) aC))) (λ_ _ _ _=>(aK (i:=0) (show(["at","thing"]:aj).Nodup by decide +kernel))) (cX (by decide)) (λ_ _ _ _=>bH) (λ_ _ _ _=>(dB Cz (aH (Y:=K) (aH (Y:=K) (aB 1) (aL jR (aB 0) aD)) aD) (aH (Y:=K) (aH (Y:=K) (aB 1) (aB 0)) aD) (bD _)))) aC)))))) ?_
 obtain⟨qs,h1,h2⟩:=hp.ex;have hl:=hg.len;have Xn:qs.length<=4:=by rw[h2.len];exact hl
 refine aU (U:=[A' p]) rfl ?_;rfl';refine dG (rM (.lst h1)) ?_;rfl';refine kE (λh=>by simp at h) (λ_=>?_);rfl';refine cE (λh=>by rw[bO] at h;lia) (λ_=>?_);rfl';refine eY (bP.of h1) ?_;refine Rz (λ_=>.bl true) (bP.of h1) (cA (by rw[bO];lia)) (λx N N' GB hN=>?_) ?_
 ·obtain⟨q,hq,rfl⟩:=jQ.mp GB;obtain⟨t,ht,e⟩:=h2.at2 hq;obtain⟨g1,g2,g3⟩:=hg.pc t ht;rfl';exact⟨q,t.1,t.2,rfl,e,g1,g2,g3,hN⟩
 ·intro l1 n1;rfl';refine HF (bP.of aP) (λx hx=>by obtain⟨_,_,rfl⟩:=jQ.mp hx;rfl) ?_;rfl';have Bi:=aO.new (o:=.lst ((qs.map V.ref).map λ_=>V.bl true)) n1 _ _ h1;have vq:=h2.same (aO.new (o:=.lst ((qs.map V.ref).map λ_=>V.bl true)) n1);rfl';refine⟨⟨by lia,by lia,by lia,by rw[bO];lia⟩,?_⟩;rw[bO];refine aIO (λ_=>.bl true) (cA (by lia)) (λi N N' hi hN=>?_) ?_
  ·have i1:i < qs.length:=by lia
   have i2:i+1 < qs.length:=by lia
   have j1:i < ps.length:=by rw[<-h2.len];exact i1
   have j2:i+1 < ps.length:=by rw[<-h2.len];exact i2
   have e1:pP (qs.map V.ref) (1+(i:Int) - 1)=some (.ref qs[i]):=by
    rw[show 1+(i:Int) - 1=(i:Int) by lia];exact eB (by rw[lB,eQ i1];rfl)
   have e2:pP (qs.map V.ref) (1+(i:Int))=some (.ref qs[i+1]):=by
    rw[show 1+(i:Int)=((i+1:Nat):Int) by lia];exact eB (by rw[lB,eQ i2];rfl)
   have t1:=vq.at_ i _ _ (eQ i1) (eQ j1);have t2:=vq.at_ (i+1) _ _ (eQ i2) (eQ j2);have t3:=hg.up i _ _ (eQ j1) (eQ j2);rfl';rw[mv t3];exact hN
  ·intro l2 n2;rfl';refine HF (bP.of aP) (λx hx=>by obtain⟨_,_,rfl⟩:=jQ.mp hx;rfl) ?_;exact k _ ((aO.new n1).trans (aO.new n2))
inductive tT  (K:W.Frag) (C:Addr) (vs:List V) (H:Hp) (Q:VK) (E:XK):Prop
 |mk:∀(x dx pl:Addr) (m:MS),(vs=[.ref x,.int m.up,.int m.down,.int m.begin_,.int m.run,.int m.rest,.int m.least,.ref pl])->(H x=some (.ins C dx []))->yA H pl m.pieces->m.Good->(∀H',c8 C H' x m->bX x H H'->Q .br H')->tT K C vs H Q E
theorem aDa(tx:Txt K mg a):bT P w K mg base fS 5 a.oY a.vO aha (tT K a.aY):=by
 have aGL:=aFa (P:=P) (w:=w) (base:=base) tx;have eA:=nZ (P:=P) (w:=w) (base:=base) tx;have aFX:=aJk (P:=P) (w:=w) (base:=base) tx;refine tx.je.F.ok gS (by walk_at "l") λbo A outer s H vs Q E hr h=>?_;obtain⟨x,dx,pl,m,rfl ,hx,hp,hg,k⟩:=h;have hu:=gZ hr;refine aZ (aE (aI (i:=8) gS.nd (nR (bg aFX hr tx.mi (aA (aB 1) aC)) (bg aFX hr tx.mi (aA (aB 2) aC))))
  (aE (aI (i:=9) gS.nd (aOD (bg eA hr tx.bq (aA (aB 3) aC)) (bg eA hr tx.bq (aA (aB 4) aC)) (bg eA hr tx.bq (aA (aB 5) aC)) (bg eA hr tx.bq (aA (aB 6) aC))))
  (aE (bN PassesOwn.never rfl (j7 (Y:=K) (by rfl) tx.gF (aA (aL bJ (aL bJ (aB 8) (aB 9)) (pR (bg aGL hr tx.km (aA (aB 7) aC)))) aC)) (bS (Y:=K) (n:=2) rfl (aR (aK (i:=10) gS.nd) (aR (aK (i:=11) gS.nd) bR))) (aG (bB (eF (cN (aB 11))) (aG mI) bA)))
  (aE (dC (Y:=K) (aB 0) (aB 1) rfl)
  (aE (dC (Y:=K) (aB 0) (aB 2) rfl)
  (aE (dC (Y:=K) (aB 0) (aB 3) rfl)
  (aE (dC (Y:=K) (aB 0) (aB 4) rfl)
  (aE (dC (Y:=K) (aB 0) (aB 5) rfl)
  (aE (dC (Y:=K) (aB 0) (aB 6) rfl)
  (aG (dC (Y:=K) (aB 0) (bV (rc:=jA K) eW (by rfl) tx.gA fB (aA (aB 7) aC)) rfl))))))))))) ?_
 refine aU (U:=[A' x,B' m.up,B' m.down,B' m.begin_,B' m.run,B' m.rest,B' m.least,A' pl,none,none,none,none]) rfl ?_;rfl';refine⟨_,rfl,hg.up.1,hg.up.2,?_⟩;rfl';refine⟨_,rfl,hg.down.1,hg.down.2,?_⟩;rfl';intro l1 n1;rfl';refine⟨_,_,rfl,.int _,?_⟩;rw[sZ hg.begin_];rfl';refine⟨_,_,rfl,.int _,?_⟩;rw[sZ hg.run];rfl';refine⟨_,_,rfl,.int _,?_⟩;rw[sZ hg.rest];rfl';refine⟨_,_,rfl,.int _,?_⟩;rw[sZ hg.least];rfl';intro l2 n2;rfl';refine sD (xs:=[.bl true,.bl true]) (zs:=[.bl true,.bl true,.bl true,.bl true]) (by walk_at "hp") aP (cA (by simp)) ?_;intro l3 n3;rfl';have s3:aO H (upd (upd (upd H l1 (.lst [.bl true,.bl true])) l2 (.lst [.bl true,.bl true,.bl true,.bl true])) l3 (.lst ([.bl true,.bl true] ++ [.bl true,.bl true,.bl true,.bl true]))):=((aO.new n1).trans (aO.new n2)).trans (aO.new n3)
 refine⟨pl,m.pieces,rfl,hp.same s3,hg.pieces,λH4 s4=>?_⟩;rfl';intro l5 n5;rfl';refine sD (xs:=[.bl true,.bl true] ++ [.bl true,.bl true,.bl true,.bl true]) (zs:=[.bl true]) (aO.new n5 _ _ (s4 _ _ aP)) aP (cA (by simp)) ?_;intro l6 n6;rfl';have s6:aO H (upd (upd H4 l5 (.lst [.bl true])) l6 (.lst (([.bl true,.bl true] ++ [.bl true,.bl true,.bl true,.bl true]) ++ [.bl true]))):=(s3.trans s4).trans ((aO.new n5).trans (aO.new n6));generalize hH6:upd (upd H4 l5 (.lst [.bl true])) l6 (.lst (([.bl true,.bl true] ++ [.bl true,.bl true,.bl true,.bl true]) ++ [.bl true]))=H6 at s6 ⊢;have e6:H6 l6=some (.lst [.bl true,.bl true,.bl true,.bl true,.bl true,.bl true,.bl true]):=by rw[<-hH6,aP];rfl
 refine Fz (bP.of e6) ?_;refine xO (xs:=[.bl true,.bl true,.bl true,.bl true,.bl true,.bl true,.bl true]) (λi U' H'=>∃y z,U'=[A' x,B' m.up,B' m.down,B' m.begin_,B' m.run,B' m.rest,B' m.least,A' pl,A' l1,A' l2,y,z]/\aO H6 H')
  ⟨_,_,rfl,aO.refl _⟩ (λi U' H' hi ⟨y,z,e,s⟩=>bP.of (s _ _ e6)) (λi v U' H' T hv z9q nT=>?_) (λU' H' Ur=>?_)
 ·obtain⟨y,z,e,s⟩:=z9q;subst e;have ev:v=.bl true:=by
   have:=pM hv;simpa using this
  subst ev;refine dH (iF.of aP) rfl ?_;rfl';exact⟨_,_,rfl,s.trans (aO.new nT)⟩
 ·obtain⟨y,z,e,s⟩:=Ur;subst e;have sH:aO H H':=s6.trans s;have qf:=sH _ _ hx;have xc:=hp.same sH;obtain⟨qs,p1,p2⟩:=xc.ex;rfl';refine iJ (fs':=[("up",.int m.up)]) qf tx.cB tx.aBb (by simp[Ax]) rfl ?_;rfl';refine iJ (fs':=[("up",.int m.up),("down",.int m.down)]) aP tx.cB tx.wK (by simp[Ax]) rfl ?_;rw[iZ];rfl';refine iJ (fs':=[("up",.int m.up),("down",.int m.down),("begin",.int m.begin_)]) aP tx.cB tx.tR (by simp[Ax]) rfl ?_;rw[iZ];rfl';refine iJ (fs':=[("up",.int m.up),("down",.int m.down),("begin",.int m.begin_),("run",.int m.run)]) aP tx.cB tx.y4 (by simp[Ax]) rfl ?_;rw[iZ];rfl';refine iJ (fs':=[("up",.int m.up),("down",.int m.down),("begin",.int m.begin_),("run",.int m.run),("rest",.int m.rest)]) aP tx.cB tx.wL (by simp[Ax]) rfl ?_;rw[iZ];rfl';refine iJ (fs':=[("up",.int m.up),("down",.int m.down),("begin",.int m.begin_),("run",.int m.run),("rest",.int m.rest),("least",.int m.least)]) aP tx.cB tx.fH (by simp[Ax]) rfl ?_
  rw[iZ];rfl';have px:pl≠x:=λz=>by rw[z,qf] at p1;cases p1
  refine iI (ys:=qs.map V.ref) (bP.of (by rw[aV px];exact p1)) ?_;intro l9 n9;rfl';have x9:x≠l9:=bE n9 aP;rfl';refine iJ (fs':=Ax m l9) (by rw[aV x9];exact aP) tx.cB tx.fZ (by simp[Ax]) rfl ?_;rfl';refine k _ ⟨dx,l9,aP,qs,?_,p2.len,λj q t h1 h2=>?_⟩ (λb o e nb=>?_)
  ·rw[aV (Ne.symm x9),aP]
  ·have e:=p2.at_ j q t h1 h2;have qx:q≠x:=λz=>by rw[z,qf] at e;cases e
   have q9:q≠l9:=bE n9 (by rw[aV qx];exact e);rw[aV qx,aV q9,aV qx];exact e
  ·have e1:=sH _ _ e;have b9:b≠l9:=bE n9 (by rw[aV nb];exact e1);rw[aV nb,aV b9,aV nb];exact e1
structure Eb(ps:ay)(r:Int):Prop where
 pc:∀t∈ps,1<=t.1/\Am t.1/\Am t.2
 up:∀(j:Nat) t u,ps[j]?=some t->ps[j+1]?=some u->t.2<=u.2
 top:∀t∈ps,t.2<=r
theorem Eb.nil{r:Int}:Eb [] r:=⟨λ_ h=>by simp at h,λj t u h=>by simp at h,λ_ h=>by simp at h⟩
theorem Eb.snoc{ps:ay}{r r' a:Int}(w:Eb ps r)(hr:r<=r')(h1:1<=a)(h2:Am a)(h3:Am r'):Eb (ps ++ [(a,r')]) r':=by
 refine⟨λt h=>?_,λj t u ht hu=>?_,λt h=>?_⟩
 ·rcases nz.mp h with h|h
  ·exact w.pc t h
  ·rw[jy.mp h];exact⟨h1,h2,h3⟩
 ·have rg:j+1 < (ps ++ [(a,r')]).length:=(mT.mp hu).1;rw[jE,AZ] at rg;have hj:j < ps.length:=by lia
  rw[rq hj] at ht;by_cases GL:j+1 < ps.length
  ·rw[rq GL] at hu;exact w.up j t u ht hu
  ·rw[ug (by lia),show j+1 - ps.length=0 by lia] at hu;cases hu;exact tw (w.top t (pM ht)) hr
 ·rcases nz.mp h with h|h
  ·exact tw (w.top t h) hr
  ·rw[jy.mp h];exact sr _
theorem wU.snoc{ss:ay}{t:au}(h:wU H qs ss)(hl:H l=some (.lst xs))(k:bX l H H3)(hT:H3 T=some (.tup [.int t.1,.int t.2])):wU H3 (qs ++ [T]) (ss ++ [t]):=by
 refine⟨by rw[jE,jE,h.len];rfl,λj q u hq hu=>?_⟩;by_cases hj:j < qs.length
 ·rw[rq hj] at hq;rw[rq (by rw[<-h.len];exact hj)] at hu;have e:=h.at_ j q u hq hu;refine k q _ e λz=>?_;rw[z,hl] at e;cases e
 ·have rg:j < (qs ++ [T]).length:=(mT.mp hq).1;rw[jE,AZ] at rg;have e:j=qs.length:=by lia
  subst e;rw[ug (eR _),yr] at hq;rw[h.len,ug (eR _),yr] at hu;cases hq;cases hu;exact hT
theorem bG.P8{qs:ao}(h:bG H p)(e:H c=some (.lst (qs.map V.ref))):c≠p:=λz=>by
 obtain⟨d,cc,q,ms,hp,_⟩:=h.ex;rw[z,hp] at e;cases qs with
 |nil=>cases e
 |cons x xs=>cases e
theorem bG.Cw{xs:List V}(h:bG H p)(e:H c=some (.lst xs))(hl:xs.length≠3):c≠p:=λz=>by
 obtain⟨d,cc,q,ms,hp,_⟩:=h.ex;rw[z,hp] at e;cases e;exact hl rfl
theorem bG.Kw{H:Hp}(h:bG H p):∃xs,H p=some (.lst xs):=by
 obtain⟨d,cc,q,ms,hp,_⟩:=h.ex;exact⟨_,hp⟩
theorem mN(k:bX p H H')(hh:bG H' p)(n:H' c=none):H c=none:=by
 cases hc:H c with
 |none=>rfl
 |some v=>
  obtain⟨xs,e⟩:=hh.Kw;exact absurd rfl (bE n (k c v hc (λz=>bE n e z.symm)))
theorem Cv{x r n B:Int}(x0:1<=x)(x1:x<=50000000000)(a:0<=r)(c:r < n)(h:50000000000*(n - 1)<=B):0<=x*r/\x*r<=B:=
 ⟨HN (by lia) a,tw (Int.mul_le_mul x1 (show r<=n - 1 by lia) a (by lia)) h⟩
theorem aSn{x u n B:Int}(x0:1<=x)(x1:x<=50000000000)(a:0<=u)(c:u < n)(h:50000000000*n<=B):x<=x*(1+u)/\x*(1+u)<=B:=
 ⟨by have:=Int.mul_le_mul_of_nonneg_left (show 1<=1+u by lia) (show 0<=x by lia);rw[CF] at this;exact this,tw (Int.mul_le_mul x1 (show 1+u<=n by lia) (by lia) (by lia)) h⟩
theorem up1{r n:Int}(a:0<=r)(c:r < n)(n1:n<=12):(1<=1+r/\1+r<=12)/\1+r<=n:=by lia
theorem LF{z:Int}(h:0<=z/\z<=250000000000):Am z:=⟨h.1,by have:=h.2;lia⟩
theorem Ke{ji z:Int}{i:Nat}(f5:0<=ji)(f6:ji<=(i:Int)*100000000000)(g:0<=z/\z<=100000000000)(i4:i<=3):ji<=ji+z/\Am (ji+z)/\0<=ji+z/\ji+z<=((i+1:Nat):Int)*100000000000:=⟨by lia,⟨by lia,by lia⟩,by lia,by lia⟩
theorem xB{x z:Int}(x0:1<=x)(g:x<=z/\z<=150000000000):1<=z/\Am z:=⟨by lia,⟨by lia,by lia⟩⟩
inductive aBi  (K:W.Frag) (vs:List V) (H:Hp) (Q:VK) (E:XK):Prop
 |mk:∀(p b:Addr) (x y n:Int),(vs=[.ref p,.ref b,.int n])->bG H p->(H b=some (.lst [.int x,.int y]))->(1<=x)->(x<=50000000000)->(1<=y)->(y<=50000000000)->(1<=n)->(n<=12)->(∀(s:Addr) (m:MS) H',dS H' s m->m.Good->m.up<=n->m.down<=n->bG H' p->bX p H H'->H s=none->Q (.ref s) H')->aBi K vs H Q E
theorem aGM(tx:Txt K mg a):bT P w K mg base fS 2 a.aCw a.aCx aza (aBi K):=by
 have aS:=eI (P:=P) (w:=w) (base:=base) tx;refine tx.mz.F.ok eS (by walk_at "l") λbo A outer s H vs Q E hr h=>?_;obtain⟨p,b,x,y,n,rfl ,hh,hb,x0,x1,y0,y1,n0,n1,k⟩:=h;have hu:=gZ hr;refine aZ (aE (aI (i:=3) eS.nd (aL bJ aD (bg aS hr tx.af (aA (aB 0) (aA (aB 2) aC)))))
  (aE (aI (i:=4) eS.nd (aL bJ aD (bg aS hr tx.af (aA (aB 0) (aA (aB 2) aC)))))
  (aE (aI (i:=5) eS.nd (xR (aL cC (aH (Y:=K) (aB 1) aD) (bg aS hr tx.af (aA (aB 0) (aA aD aC)))) (aL cC (aH (Y:=K) (aB 1) aD) (bg aS hr tx.af (aA (aB 0) (aA aD aC)))) (aL cC (aH (Y:=K) (aB 1) aD) (bg aS hr tx.af (aA (aB 0) (aA aD aC))))))
  (aE (aI (i:=6) eS.nd (aL cC (aH (Y:=K) (aB 1) aD) (bg aS hr tx.af (aA (aB 0) (aA aD aC)))))
  (aE (aI (i:=7) eS.nd aD)
  (aE (aI (i:=8) eS.nd (j0 aC))
  (aE (bN PassesOwn.never rfl (cO (by rfl) tx.eU (aA (bg aS hr tx.af (aA (aB 0) (aA aD aC))) aC)) (aK (i:=9) eS.nd) (aE (oH (i:=7) eS.nd rfl (Or.inl rfl) (aL cC (aH (Y:=K) (aB 1) aD) (bg aS hr tx.af (aA (aB 0) (aA aD aC)))) Hy)
  (aG (eZ (gI (Y:=K) (aB 8) (aA (fN (aL cC (aH (Y:=K) (aB 1) aD) (aL bJ aD (bg aS hr tx.af (aA (aB 0) (aA aD aC))))) (aB 7)) aC))))))
  (aG (aM (aOE (aB 3) (aB 4) (aH (Y:=K) (aB 5) aD) (aH (Y:=K) (aB 5) aD) (aH (Y:=K) (aB 5) aD) (aB 6) (aB 8))))))))))) ?_
 have bp:b≠p:=hh.Cw hb (by simp);refine aU (U:=[A' p,A' b,B' n,none,none,none,none,none,none,none]) rfl ?_;rfl';refine⟨p,_,rfl,hh,by lia,by lia,λr1 H1 a1 c1 h1 k1 _=>?_⟩;have OJ:=k1 _ _ hb bp;rfl';refine⟨p,_,rfl,h1,by lia,by lia,λr2 H2 a2 c2 h2 k2 _=>?_⟩;have XC:=k2 _ _ OJ bp;rfl';refine⟨p,_,rfl,h2,by decide,by decide,λr3 H3 a3 c3 h3 k3 _=>?_⟩;have OI:=k3 _ _ XC bp;rfl';refine⟨p,_,rfl,h3,by decide,by decide,λr4 H4 a4 c4 h4 k4 _=>?_⟩;have OH:=k4 _ _ OI bp;rfl';refine⟨p,_,rfl,h4,by decide,by decide,λr5 H5 a5 c5 h5 k5 _=>?_⟩;have OG:=k5 _ _ OH bp;rfl';intro l6 n6;rfl';have OF:=aO.new (o:=.lst [.int (y*r3),.int (y*r4),.int (y*r5)]) n6 _ _ OG;have h6:=h5.same (aO.new (o:=.lst [.int (y*r3),.int (y*r4),.int (y*r5)]) n6);rfl';refine⟨p,_,rfl,h6,by decide,by decide,λr7 H7 a7 c7 h7 k7 _=>?_⟩;have OE:=k7 _ _ OF bp;have Kt:l6≠p:=λz=>by obtain⟨_,e⟩:=h5.Kw;exact bE n6 e z.symm
 have e7:H7 l6=some (.lst [.int (y*r3),.int (y*r4),.int (y*r5)]):=k7 _ _ aP Kt;have W4:bX p H H7:=k1.trans (k2.trans (k3.trans (k4.trans (k5.trans ((aO.new n6).keep.trans k7)))));have g3:0<=y*r3/\y*r3<=250000000000:=Cv y0 y1 a3 c3 (by decide);have g4:0<=y*r4/\y*r4<=250000000000:=Cv y0 y1 a4 c4 (by decide);have g5:0<=y*r5/\y*r5<=250000000000:=Cv y0 y1 a5 c5 (by decide);have g7:0<=x*r7/\x*r7<=250000000000:=Cv x0 x1 a7 c7 (by decide);rfl';intro l8 n8;rfl';have h8:=h7.same (aO.new (o:=.lst []) n8);rfl';refine⟨p,_,rfl,h8,by decide,by decide,λr9 H9 a9 c9 h9 k9 _=>?_⟩;have l8p:l8≠p:=λz=>by obtain⟨_,e⟩:=h7.Kw;exact bE n8 e z.symm
 have e9:H9 l8=some (.lst []):=k9 _ _ aP l8p;have AF:=k9 _ _ (aO.new n8 _ _ OE) bp;have e69:H9 l6=some (.lst [.int (y*r3),.int (y*r4),.int (y*r5)]):=k9 _ _ (aO.new n8 _ _ e7) Kt;have kk9:bX p H H9:=W4.trans ((aO.new n8).keep.trans k9);have n8H:H l8=none:=mN W4 h7 n8;have n6H:H l6=none:=mN (k1.trans (k2.trans (k3.trans (k4.trans k5)))) h5 n6;rfl';refine⟨by lia,by lia,?_⟩;refine mF (λi U' H'=>∃qs ps ji x9,U'=[A' p,A' b,B' n,B' (1+r1),B' (1+r2),A' l6,B' (x*r7),B' ji,A' l8,x9]/\H' l8=some (.lst (qs.map V.ref))/\wU H' qs ps/\ps.length=i/\Eb ps ji/\
   0<=ji/\ji<=(i:Int)*100000000000/\bG H' p/\bX p H H'/\H' b=some (.lst [.int x,.int y])/\H' l6=some (.lst [.int (y*r3),.int (y*r4),.int (y*r5)]))
  ⟨[],[],0,_,rfl,e9,⟨rfl,λj q t h=>by simp at h⟩,rfl,Eb.nil,by lia,by lia,h9,kk9,AF,e69⟩
  (λi U' H' hi Uq=>?_) (λU' H' Uo=>?_)
 ·obtain⟨qs,ps,ji,x9,e,f1,f2,f3,f4,f5,f6,f7,f8,f9,f0⟩:=Uq;subst e;have i4:i<=3:=by lia
  rfl';refine FK rfl ?_;rfl';refine⟨p,_,rfl,f7,by decide,by decide,λu1 J1 v1 w1 q1 t1 _=>?_⟩;have g1:0<=y*u1/\y*u1<=100000000000:=Cv y0 y1 v1 w1 (by decide);have NR:l8≠p:=f7.P8 f1;have d1:=t1 _ _ f1 NR;have d2:=f2.keep f7.Hf t1;have d3:=t1 _ _ f9 bp;have d4:=t1 _ _ f0 Kt;rfl';refine mW (bP.of d1) ?_;rfl';refine⟨p,_,rfl,q1,by decide,by decide,λu2 J2 v2 w2 q2 t2 _=>?_⟩;have g2:x<=x*(1+u2)/\x*(1+u2)<=150000000000:=aSn x0 x1 v2 w2 (by decide);have Fh:=t2 _ _ d1 NR;have LC:=d2.keep q1.Hf t2;have LB:=t2 _ _ d3 bp;have LA:=t2 _ _ d4 Kt;rfl';intro T nT;rfl';refine sE (xs:=qs.map V.ref) (aO.new nT _ _ Fh) (uJ (by rw[bO,f2.len];lia:(qs.map V.ref).length < 1000) (cA (by simp))) ?_;rfl';have KS:T≠l8:=Ne.symm (bE nT Fh);have kz:bX l8 J2 (upd (upd J2 T (.tup [.int (x*(1+u2)),.int (ji+y*u1)])) l8 (.lst (qs.map V.ref ++ [.ref T]))):=(aO.new nT).keep.trans bX.upd
  refine⟨qs ++ [T],ps ++ [(x*(1+u2),ji+y*u1)],_,_,rfl,?_,LC.snoc Fh kz (by rw[aV KS,aP]),by rw[jE,f3];rfl,f4.snoc (Ke f5 f6 g1 i4).1 (xB x0 g2).1 (xB x0 g2).2 (Ke f5 f6 g1 i4).2.1,(Ke f5 f6 g1 i4).2.2.1,(Ke f5 f6 g1 i4).2.2.2,?_,λc o hc OB=>?_,?_,?_⟩
  ·rw[aP,jF];rfl
  ·obtain⟨dd,cc,q,ms,hp,hq,cj,zc⟩:=q2.ex;refine⟨⟨dd,cc,q,ms,kz _ _ hp (Ne.symm NR),kz _ _ hq (λz=>?_),cj,zc⟩⟩;rw[z,Fh] at hq;cases qs with
   |nil=>cases ms with
    |nil=>exact cj rfl
    |cons _ _=>cases hq
   |cons _ _=>cases ms with
    |nil=>exact cj rfl
    |cons _ _=>cases hq
  ·exact kz _ _ (t2 _ _ (t1 _ _ (f8 _ _ hc OB) OB) OB) (bE n8H hc)
  ·exact kz _ _ LB (λz=>by rw[z,Fh] at LB;cases qs with
    |nil=>cases LB
    |cons _ _=>cases LB)
  ·exact kz _ _ LA (λz=>by rw[z,Fh] at LA;cases qs with
    |nil=>cases LA
    |cons _ _=>cases LA)
 ·obtain⟨qs,ps,ji,x9,e,f1,f2,f3,f4,f5,f6,f7,f8,f9,f0⟩:=Uo;subst e;rfl';intro s ns;rfl';have KG:r9.toNat<=4:=by lia
  refine k s ⟨1+r1,1+r2,y*r3,y*r4,y*r5,x*r7,ps⟩ _ ⟨l8,aP,qs,aO.new ns _ _ f1,f2.same (aO.new ns)⟩ ⟨(up1 a1 c1 n1).1,(up1 a2 c2 n1).1,LF g3,LF g4,LF g5,LF g7,⟨by show ps.length<=4;lia,f4.pc,f4.up⟩⟩ (up1 a1 c1 n1).2 (up1 a2 c2 n1).2 (f7.same (aO.new ns)) (f8.trans (aO.new ns).keep) (mN f8 f7 ns)
inductive tU  (K:W.Frag) (C:Addr) (vs:List V) (H:Hp) (Q:VK) (E:XK):Prop
 |mk:∀(s:Addr) (m:MS),(vs=[.ref s])->dS H s m->m.Good->(∀x H',c8 C H' x m->aO H H'->H x=none->Q (.ref x) H')->tU K C vs H Q E
theorem aDb(tx:Txt K mg a):bT P w K mg base fS 7 a.vP a.vQ aqa (tU K a.aY):=by
 have aEt:=aDa (P:=P) (w:=w) (base:=base) tx;refine tx.jc.F.ok aC6 (by walk_at "l") λbo A outer s H vs Q E hr h=>?_;obtain⟨s,m,rfl ,hs,hg,k⟩:=h;have hu:=gZ hr;refine aZ (aG (aM (mH tx.aLd (aEt) (hr.mono (by decide)) (by rfl) tx.aFV tx.je.b .nil aT (aA (aH (Y:=K) (aB 0) aD) (aA (aH (Y:=K) (aB 0) aD) (aA (aH (Y:=K) (aB 0) aD) (aA (aH (Y:=K) (aB 0) aD) (aA (aH (Y:=K) (aB 0) aD) (aA (aH (Y:=K) (aB 0) aD) (aA (bV (rc:=jA K) eW (by rfl) tx.gA fB (aA (aH (Y:=K) (aB 0) aD) aC)) aC)))))))))) ?_;obtain⟨pl,h1,h2⟩:=hs.ex;obtain⟨qs,h3,h4⟩:=h2.ex;refine aU (U:=[A' s]) rfl ?_;rfl';refine iI (bP.of h3) ?_;intro l n;rfl';intro x dx nx nd hd;have sx:aO H (upd (upd (upd H l (.lst (qs.map V.ref))) dx (.own x)) x (.ins a.aY dx [])):=λb o e=>by
  have e1:=aO.new (o:=.lst (qs.map V.ref)) n _ _ e;rw[aV (bE nx e1),aV (bE nd e1)];exact e1
 have lx:l≠x:=bE nx aP;have ld:l≠dx:=bE nd aP;refine⟨x,dx,l,m,rfl,aP,⟨qs,by rw[aV lx,aV ld,aP],h4.same sx⟩,hg,λH' hM kx=>⟨rfl,?_⟩⟩;have WL:H x=none:=(aO.new n).free nx;exact k x H' hM (λb o e=>kx _ _ (sx _ _ e) (bE WL e)) WL
theorem bG.Pe(hh:bG H p)(n:H c=none):c≠p:=λz=>by
 obtain⟨xs,e⟩:=hh.Kw;exact bE n e z.symm
def qV:ay->Int
 |[]=>0
 |t::ps=>t.1+qV ps
def cst:ay->Int->Int
 |[],_=>0
 |t::ps,left=>max 0 (min left t.1)*t.2+cst ps (left - max 0 (min left t.1))
def gn(p:Int):ay->Int
 |[]=>0
 |t::ps=>t.1*max (p - t.2) 0+gn p ps
def qz(p:Int):ay->Int
 |[]=>0
 |t::ps=>(if t.2 < p then t.1 else 0)+qz p ps
def Bj(p:Int):ay->Int
 |[]=>0
 |t::ps=>(if t.2=p then t.1 else 0)+Bj p ps
def Up:ay->Prop
 |[]=>True
 |t::ps=>1<=t.1/\(∀u∈ps,t.2<=u.2)/\Up ps
theorem Zm{p:Int}:∀{ps:ay},Up ps->0<=gn p ps
 |[],_=>sr _
 |t::ps,h=>by
  have:=Zm (p:=p) h.2.2;have h1:0<=t.1*max (p - t.2) 0:=HN (by have:=h.1;lia) (by lia);show 0<=t.1*max (p - t.2) 0+gn p ps;lia
theorem L6{p:Int}:∀{ps:ay},Up ps->0<=qz p ps/\0<=Bj p ps/\qz p ps+Bj p ps<=qV ps
 |[],_=>⟨sr _,sr _,sr _⟩
 |t::ps,h=>by
  have:=L6 (p:=p) h.2.2;have h0:=h.1;show 0<=(if t.2 < p then t.1 else 0)+qz p ps/\0<=(if t.2=p then t.1 else 0)+Bj p ps/\((if t.2 < p then t.1 else 0)+qz p ps)+((if t.2=p then t.1 else 0)+Bj p ps)<=t.1+qV ps;split <;> split <;> lia
theorem Mo{p:Int}:∀{ps:ay},(∀u∈ps,p<=u.2)->gn p ps=0/\qz p ps=0
 |[],_=>⟨rfl,rfl⟩
 |t::ps,h=>by
  have ih:=Mo (p:=p) (ps:=ps) (λu hu=>h u (md _ hu));have h1:=h t (pz ..);constructor
  ·show t.1*max (p - t.2) 0+gn p ps=0;rw[show max (p - t.2) 0=0 by lia,D0,ih.1];rfl
  ·show(if t.2 < p then t.1 else 0)+qz p ps=0;rw[cU (by lia),ih.2];rfl
theorem P7{p:Int}:∀{ps:ay},(∀u∈ps,p < u.2)->Bj p ps=0
 |[],_=>rfl
 |t::ps,h=>by
  have ih:=P7 (p:=p) (ps:=ps) (λu hu=>h u (md _ hu));have h1:=h t (pz ..);show(if t.2=p then t.1 else 0)+Bj p ps=0;rw[cU (by lia),ih];rfl
theorem aH4:∀(ps:ay),cst ps 0=0
 |[]=>rfl
 |t::ps=>by
  show max 0 (min 0 t.1)*t.2+cst ps (0 - max 0 (min 0 t.1))=0;rw[show max 0 (min 0 t.1)=0 by lia,Int.zero_mul,Int.sub_zero,aH4 ps];rfl
theorem best{p:Int}:∀{ps:ay}{left:Int},Up ps->0<=left->left<=qV ps->
  p*left - cst ps left<=gn p ps/\(p*left - cst ps left=gn p ps↔qz p ps<=left/\left<=qz p ps+Bj p ps)
 |[],left,_,h0,h1=>by
  have e:left=0:=by have:left<=0:=h1;lia
  subst e;show p*0 - 0<=0/\(p*0 - 0=0↔(0:Int)<=0/\(0:Int)<=0+0)
  simp
 |t::ps,left,h,h0,h1=>by
  obtain⟨a,r⟩:=t;obtain⟨ha,hr,Oa⟩:=h
  replace ha:1<=a:=ha
  replace hr:∀u∈ps,r<=u.2:=hr
  replace h1:left<=a+qV ps:=h1
  have gp:=Zm (p:=p) Oa;have lp:=L6 (p:=p) Oa;show p*left - (max 0 (min left a)*r+cst ps (left - max 0 (min left a)))<=a*max (p - r) 0+gn p ps/\
   (p*left - (max 0 (min left a)*r+cst ps (left - max 0 (min left a)))=a*max (p - r) 0+gn p ps↔(if r < p then a else 0)+qz p ps<=left/\left<=((if r < p then a else 0)+qz p ps)+((if r=p then a else 0)+Bj p ps))
  by_cases Cb:left < a
  ·rw[show max 0 (min left a)=left by lia,Int.sub_self,aH4,AW,show p*left - left*r=left*(p - r) by rw[HK p left,<-Int.mul_sub]];by_cases h2:r < p
   ·have e1:left*(p - r) < a*(p - r):=Int.mul_lt_mul_of_pos_right Cb (by lia);rw[show max (p - r) 0=p - r by lia,dO h2,cU (by lia)];lia
   ·have hz:=Mo (p:=p) (ps:=ps) (λu hu=>by have:=hr u hu;lia);rw[show max (p - r) 0=0 by lia,D0,hz.1,hz.2,cU h2];by_cases h3:r=p
    ·rw[dO h3,show p - r=0 by lia,D0];lia
    ·rw[cU h3,P7 (p:=p) (ps:=ps) (λu hu=>by have:=hr u hu;lia)];by_cases h4:left=0
     ·subst h4;simp
     ·have e1:left*(p - r) < 0:=Int.mul_neg_of_pos_of_neg (by lia) (by lia);lia
  ·have ih:=best (p:=p) (ps:=ps) (left:=left - a) Oa (by lia) (by lia);rw[show max 0 (min left a)=a by lia];have e0:p*left - (a*r+cst ps (left - a))=a*(p - r)+(p*(left - a) - cst ps (left - a)):=by
    rw[Int.mul_sub,Int.mul_sub,HK a p];lia
   rw[e0];by_cases h2:r < p
   ·rw[show max (p - r) 0=p - r by lia,dO h2,cU (by lia)];generalize a*(p - r)=w;obtain⟨i1,i2⟩:=ih;refine⟨by lia,?_⟩;constructor
    ·intro h;have:=i2.mp (by lia);lia
    ·intro h;have:=i2.mpr (by lia);lia
   ·have hz:=Mo (p:=p) (ps:=ps) (λu hu=>by have:=hr u hu;lia);rw[hz.1,hz.2] at ih;obtain⟨i1,i2⟩:=ih;rw[show max (p - r) 0=0 by lia,D0,hz.1,hz.2,cU h2];by_cases h3:r=p
    ·rw[dO h3,show p - r=0 by lia,D0];refine⟨by lia,?_⟩;constructor
     ·intro h;have:=i2.mp (by lia);lia
     ·intro h;have:=i2.mpr (by lia);lia
    ·have e1:a*(p - r) < 0:=Int.mul_neg_of_pos_of_neg (by lia) (by lia);rw[cU h3,P7 (p:=p) (ps:=ps) (λu hu=>by have:=hr u hu;lia)];lia
theorem Zl:∀{ps:ay},(∀t∈ps,1<=t.1)->(∀(j:Nat) t u,ps[j]?=some t->ps[j+1]?=some u->t.2<=u.2)->Up ps
 |[],_,_=>trivial
 |t::ps,h1,h2=>by
  have hu:Up ps:=Zl (λu hu=>h1 u (md _ hu)) (λj t u a b=>h2 (j+1) t u a b);refine⟨h1 t (pz ..),?_,hu⟩;cases ps with
  |nil=>intro u hu;cases hu
  |cons v ps=>
   have hv:t.2<=v.2:=h2 0 t v rfl rfl;intro u hm;rcases pN.mp hm with rfl|hm
   ·exact hv
   ·exact tw hv (hu.2.1 u hm)
theorem Mi.Wn{ps:ay}(h:Mi ps):Up ps:=Zl (λt ht=>(h.pc t ht).1) h.up
theorem ZX{p:Int}:∀(a:ay) (t:au),gn p (a ++ [t])=gn p a+t.1*max (p - t.2) 0
 |[],t=>by show t.1*max (p - t.2) 0+0=0+t.1*max (p - t.2) 0;lia
 |u::a,t=>by
  show u.1*max (p - u.2) 0+gn p (a ++ [t])=u.1*max (p - u.2) 0+gn p a+t.1*max (p - t.2) 0;rw[ZX a t];lia
theorem ZW:∀(ps:ay),List.sum (ps.filterMap λt=>some t.1)=qV ps
 |[]=>rfl
 |t::ps=>by
  rw[F8];show List.sum (t.1::_)=t.1+qV ps;rw[AX,ZW ps]
theorem aNa{H:Hp}{qs:ao}{ps:ay}{g:TG}{R:List V->Hp->Prop}(f:au->Option Int)(h1:H pl=some (.lst (qs.map V.ref)))(h2:wU H qs ps)(hz:ps.length<=4)(hs:∀q t (N:V->Hp->Prop) (N':Hp->Prop),t∈ps->H q=some (.tup [.int t.1,.int t.2])->(∀y,f t=some y->N (.int y) H)->(f t=none->N' H)->g (.ref q) σ₀ H λσ2 H2=>tt σ2 H2 λb H3=>if b=true then te σ2 H3 λy H4=>N y H4 else N' H3)(hd:R ((ps.filterMap f).map V.int) H):mV (xr K pl) σ₀ g tt te R H:=by
 have Xn:qs.length<=4:=by rw[h2.len];exact hz
 refine dP (xs:=qs.map V.ref) (λi ys H'=>H'=H/\ys=((ps.take i).filterMap f).map V.int) ⟨rfl,by simp⟩ (cA (by rw[bO];lia)) (λi ys H' hi Um=>?_) (λi x ys H' hx Ul=>?_) (λys H' Uk=>?_)
 ·obtain⟨e1,e2⟩:=Um;subst e1 e2;refine⟨bP.of h1,?_⟩;rw[bO];exact mf (List.length_filterMap_le ..) (by rw[yF];lia)
 ·obtain⟨e1,e2⟩:=Ul;subst e1 e2;rw[lB] at hx;cases hq:qs[i]? with
  |none=>rw[hq] at hx;cases hx
  |some q=>
   rw[hq] at hx;cases hx;have li:i < ps.length:=by rw[<-h2.len];exact(mT.mp hq).1
   have ht:ps[i]?=some ps[i]:=eQ li;have e:=h2.at_ i q _ hq ht;have hm:=AY li;generalize ps[i]=t at ht e hm;refine hs q t (λy H4=>H4=H'/\((ps.take i).filterMap f).map V.int ++ [y]=((ps.take (i+1)).filterMap f).map V.int) (λH3=>H3=H'/\((ps.take i).filterMap f).map V.int=((ps.take (i+1)).filterMap f).map V.int) hm e (λy hy=>⟨rfl,?_⟩) (λhy=>⟨rfl,?_⟩)
   ·rw[CI,ht,List.filterMap_append,jF];simp[hy]
   ·rw[CI,ht,List.filterMap_append,jF];simp[hy]
 ·obtain⟨e1,e2⟩:=Uk;subst e1 e2;rw[bO,h2.len,rA];exact hd
inductive tV  (K:W.Frag) (C:Addr) (vs:List V) (H:Hp) (Q:VK) (E:XK):Prop
 |mk:∀(x:Addr) (m:MS) (pr:Int),(vs=[.ref x,.int pr])->c8 C H x m->m.Good->(0<=pr)->(pr<=1000000000001)->(Q (.int (pr*m.least+gn pr m.pieces)) H)->tV K C vs H Q E
theorem aDc(tx:Txt K mg a):bT P w K mg base fS 1 a.oZ a.vR bAa (tV K a.aY):=by
 refine tx.jf.F.ok gU (by walk_at "l") λbo A outer s H vs Q E hr h=>?_;obtain⟨x,m,pr,rfl ,hm,hg,p0,p1,k⟩:=h;have hu:=gZ hr;refine aZ (aE (aI (i:=2) gU.nd (aL cC (aB 1) (bI (Y:=K) (aB 0) rfl)))
  (aE (bN PassesOwn.never rfl (bC (Y:=K) (bI (Y:=K) (aB 0) rfl)) (bS (Y:=K) (n:=2) rfl (aR (aK (i:=3) gU.nd) (aR (aK (i:=4) gU.nd) bR))) (aG (oH (i:=2) gU.nd rfl (Or.inl rfl) (aL cC (aB 3) (aN (oE rfl) (by rfl) tx.CC FN (aA (aL jR (aB 1) (aB 4)) (aA aD aC)))) Hy)))
  (aG (aM (aB 2))))) ?_
 obtain⟨dx,pl,hx,hp⟩:=hm.ex;obtain⟨qs,h1,h2⟩:=hp.ex;refine aU (U:=[A' x,B' pr,none,none,none]) rfl ?_;rfl';refine dM hx tx.cB tx.fH rfl ?_;rfl';refine dM hx tx.cB tx.fZ rfl ?_;refine eY (bP.of h1) ?_;refine jM (xs:=qs.map V.ref) (λi U' H'=>H'=H/\∃y z,U'=[A' x,B' pr,B' (pr*m.least+gn pr (m.pieces.take i)),y,z]) ⟨rfl,_,_,by rw[show gn pr (m.pieces.take 0)=0 by simp[gn],AW]⟩ (λi U' H' hi ⟨e1,y,z,e⟩=>by subst e1;exact bP.of h1) (λi v U' H' hv Uj=>?_) (λU' H' Ui=>?_)
 ·obtain⟨e1,y,z,e⟩:=Uj;subst e1 e;rw[lB] at hv;cases hq:qs[i]? with
  |none=>rw[hq] at hv;cases hv
  |some q=>
   rw[hq] at hv;cases hv;have li:i < m.pieces.length:=by rw[<-h2.len];exact(mT.mp hq).1
   have ht:m.pieces[i]?=some m.pieces[i]:=eQ li;have e:=h2.at_ i q _ hq ht;obtain⟨z1,⟨z2,z3⟩,z4,z5⟩:=hg.pieces.pc _ (AY li);generalize m.pieces[i]=t at ht e z1 z2 z3 z4 z5;refine dH (iF.of e) rfl ?_;rfl';refine FK rfl ?_;rfl';refine⟨rfl,B' t.1,B' t.2,?_⟩;rw[CI,ht];show _=[some (V.ref x),some (V.int pr),some (V.int (pr*m.least+gn pr (m.pieces.take i ++ [t]))),_,_]
   rw[ZX,Int.add_assoc];rfl
 ·obtain⟨e1,y,z,e⟩:=Ui;subst e1 e;rfl';rw[bO,h2.len,rA];exact k
inductive aFY  (K:W.Frag) (vs:List V) (H:Hp) (Q:VK) (E:XK):Prop
 |mk:∀(v:V) (t:Addr) (o d on:Int),(vs=[v,.ref t,.int on])->(H t=some (.tup [.int o,.int d]))->(Q (.bl (decide (o=on) || decide (d=0))) H)->aFY K vs H Q E
theorem xT(tx:Txt K mg a):bT P w K mg base fS 1 a.aHX a.aHY aea (aFY K):=by
 refine tx.iq.F.ok aLc (by walk_at "l") λbo A outer s H vs Q E hr h=>?_;obtain⟨v,t,o,d,on,rfl ,ht,k⟩:=h;have hu:=gZ hr;refine aZ (aG (aM (aHA (dB (r:=iH K) (dJ hu) (aH (Y:=K) (aB 1) aD) (aB 2) (bD _)) (fE (dB (r:=iH K) (dJ hu) (aH (Y:=K) (aB 1) aD) aD (bD _)))))) ?_;refine aU (U:=[some v,A' t,B' on]) rfl ?_;rfl';refine cE (λh=>?_) (λh=>?_)
 ·rw[mv h,Bool.true_or] at k;exact k
 ·rw[uc h,Bool.false_or] at k;rfl';exact k
def qC(m:MS)(o d on:Int):au:=if o=on then (on,max (d - 1) 0) else if on=1 then (1,m.up - 1) else (0,m.down - 1)
inductive wW  (K:W.Frag) (C:Addr) (vs:List V) (H:Hp) (Q:VK) (E:XK):Prop
 |mk:∀(q:Addr) (m:MS) (t:Addr) (o d on:Int),(vs=[.ref q,.ref t,.int on])->c8 C H q m->(H t=some (.tup [.int o,.int d]))->((o=on\/d=0))->(∀T H',aO H H'->H T=none->H' T=some (.tup [.int (qC m o d on).1,.int (qC m o d on).2])->Q (.ref T) H')->wW K C vs H Q E
theorem pD(tx:Txt K mg a):bT P w K mg base fS 2 a.yO a.yP aea (wW K a.aY):=by
 have pE:=xT (P:=P) (w:=w) (base:=base) tx;refine tx.cz.F.ok aD1 (by walk_at "l") λbo A outer s H vs Q E hr h=>?_;obtain⟨q,m,t,o,d,on,rfl ,hm,ht,fj,k⟩:=h;have hu:=gZ hr;refine aZ (aE (bB (eF (cN (bg pE hr tx.iq (aA (aB 0) (aA (aB 1) (aA (aB 2) aC)))))) (aG mI) bA)
  (aE (bB (aW (r:=iH K) (dJ hu) (aH (Y:=K) (aB 1) aD) (aB 2) (bD _)) (aG (aM (fN (aB 2) (aN (oE rfl) (by rfl) tx.CC FN (aA (aL jR (aH (Y:=K) (aB 1) aD) aD) (aA aD aC)))))) bA)
  (aE (bB (aW (r:=iH K) (dJ hu) (aB 2) aD (bD _)) (aG (aM (fN aD (aL jR (bI (Y:=K) (aB 0) rfl) aD)))) bA)
  (aG (aM (fN aD (aL jR (bI (Y:=K) (aB 0) rfl) aD))))))) ?_
 obtain⟨dx,pl,hq,_⟩:=hm.ex;refine aU (U:=[A' q,A' t,B' on]) rfl ?_;rfl';refine⟨_,_,_,_,_,rfl,ht,?_⟩;rfl';rw[show(decide (o=on) || decide (d=0))=true by rcases fj with h|h <;> simp[h]];rfl';unfold qC at k;refine cE (λh=>?_) (λh=>?_)
 ·rw[dO h] at k;rfl';intro T nT;rfl';exact k _ _ (aO.new nT) nT aP
 ·rw[cU h] at k;rfl';refine cE (λh1=>?_) (λh1=>?_)
  ·rw[dO h1] at k;rfl';refine dM hq tx.cB tx.aBb rfl ?_;rfl';intro T nT;rfl';exact k _ _ (aO.new nT) nT aP
  ·rw[cU h1] at k;rfl';refine dM hq tx.cB tx.wK rfl ?_;rfl';intro T nT;rfl';exact k _ _ (aO.new nT) nT aP
def qt(o:Int):Prop:=o=0\/o=1
theorem Qx{m:MS}(hg:m.Good){o d on:Int}(ho:qt on):qt (qC m o d on).1/\0<=(qC m o d on).2:=by
 obtain⟨u0,u1⟩:=hg.up;obtain⟨d0,d1⟩:=hg.down;unfold qC;split
 ·exact⟨ho,by show 0<=max (d - 1) 0;lia⟩
 ·split
  ·exact⟨.inr rfl,by show 0<=m.up - 1;lia⟩
  ·exact⟨.inl rfl,by show 0<=m.down - 1;lia⟩
theorem aOY{n j:Nat}(h:j < n):rb n (j:Int)=some j:=by
 unfold rb;simp;lia
inductive y9  (K:W.Frag) (vs:List V) (H:Hp) (Q:VK) (E:XK):Prop
 |mk:∀(p s:Addr) (m:MS),(vs=[.ref p,.ref s])->bG H p->dS H s m->m.Good->(∀(t:Addr) (o d:Int) H',H' t=some (.tup [.int o,.int d])->((o=1/\0<=d/\d < m.up)\/(o=0/\0<=d/\d < 60))->bG H' p->bX p H H'->Q (.ref t) H')->y9 K vs H Q E
theorem aFb(tx:Txt K mg a):bT P w K mg base fS 2 a.aAJ a.aAK ada (y9 K):=by
 have aS:=eI (P:=P) (w:=w) (base:=base) tx;refine tx.kr.F.ok aE6 (by walk_at "l") λbo A outer s H vs Q E hr h=>?_;obtain⟨p,s,m,rfl ,hh,hs,hg,k⟩:=h;have hu:=gZ hr;refine aZ (aE (bB (aW (r:=iH K) (dJ hu) (bg aS hr tx.af (aA (aB 0) (aA aD aC))) aD (bD _)) (aG (aM (fN aD (bg aS hr tx.af (aA (aB 0) (aA (aH (Y:=K) (aB 1) aD) aC)))))) bA)
  (aE (bB (aW (r:=iH K) (dJ hu) (bg aS hr tx.af (aA (aB 0) (aA aD aC))) aD (bD _)) (aG (aM (fN aD (bg aS hr tx.af (aA (aB 0) (aA aD aC)))))) bA)
  (aG (aM (fN aD (bg aS hr tx.af (aA (aB 0) (aA (aH (Y:=K) (aB 1) aD) aC)))))))) ?_
 obtain⟨u0,u1⟩:=hg.up;obtain⟨d0,d1⟩:=hg.down;refine aU (U:=[A' p,A' s]) rfl ?_;rfl';refine⟨p,_,rfl,hh,by decide,by decide,λr1 H1 a1 b1 h1 k1 _=>?_⟩;have Of:=hs.keep hh k1;obtain⟨pl,e1,_⟩:=Of.ex;rfl';refine cE (λh=>?_) (λh=>?_)
 ·rfl';refine⟨p,_,rfl,h1,by lia,by lia,λr2 H2 a2 b2 h2 k2 _=>?_⟩;rfl';intro T nT;rfl';exact k _ _ _ _ aP (.inl ⟨rfl,a2,b2⟩) (h2.same (aO.new nT)) (k1.trans (k2.trans (aO.new nT).keep))
 ·rfl';refine⟨p,_,rfl,h1,by decide,by decide,λr2 H2 a2 b2 h2 k2 _=>?_⟩;have fc:=Of.keep h1 k2;obtain⟨Kl,e2,_⟩:=fc.ex;rfl';refine cE (λh=>?_) (λh=>?_)
  ·rfl';refine⟨p,_,rfl,h2,by decide,by decide,λr3 H3 a3 b3 h3 k3 _=>?_⟩;rfl';intro T nT;rfl';exact k _ _ _ _ aP (.inr ⟨rfl,a3,b3⟩) (h3.same (aO.new nT)) (k1.trans (k2.trans (k3.trans (aO.new nT).keep)))
  ·rfl';refine⟨p,_,rfl,h2,by lia,by lia,λr3 H3 a3 b3 h3 k3 _=>?_⟩;rfl';intro T nT;rfl';exact k _ _ _ _ aP (.inr ⟨rfl,a3,by lia⟩) (h3.same (aO.new nT)) (k1.trans (k2.trans (k3.trans (aO.new nT).keep)))
structure RL{α:Type}(P:Addr->α->Prop)(as:ao)(xs:List α):Prop where
 len:as.length=xs.length
 at_:∀(j:Nat) a x,as[j]?=some a->xs[j]?=some x->P a x
theorem RL.nil{α:Type}{P:Addr->α->Prop}:RL P [] []:=⟨rfl,λj a x h=>by simp at h⟩
theorem RL.imp{α:Type}{P P':Addr->α->Prop}{xs:List α}(h:RL P as xs)(f:∀a x,P a x->P' a x):RL P' as xs:=⟨h.len,λj a x h1 h2=>f a x (h.at_ j a x h1 h2)⟩
theorem RL.snoc{α:Type}{P:Addr->α->Prop}{xs:List α}(h:RL P as xs){x:α}(hp:P a x):RL P (as ++ [a]) (xs ++ [x]):=by
 refine⟨by rw[jE,jE,h.len];rfl,λj q u hq hu=>?_⟩;by_cases hj:j < as.length
 ·rw[rq hj] at hq;rw[rq (by rw[<-h.len];exact hj)] at hu;exact h.at_ j q u hq hu
 ·have rg:j < (as ++ [a]).length:=(mT.mp hq).1;rw[jE,AZ] at rg;have e:j=as.length:=by lia
  subst e;rw[ug (eR _),yr] at hq;rw[h.len,ug (eR _),yr] at hu;cases hq;cases hu;exact hp
def sk(H:Hp):Nat->V->V->Prop
 |0,_,_=>False
 |j+1,x,y=>(∃i,x=.int i/\y=.int i)\/(∃b,x=.bl b/\y=.bl b)\/(x=.br/\y=.br)\/(∃s,x=.str s/\y=.str s)\/
  ∃(p q:Addr) (xs ys:List V),x=.ref p/\y=.ref q/\((H p=some (.tup xs)/\H q=some (.tup ys))\/(H p=some (.lst xs)/\H q=some (.lst ys)))/\xs.length=ys.length/\ys.length<=1000000/\∀(i:Nat) u v,xs[i]?=some u->ys[i]?=some v->sk H j u v
theorem sk.same(s:aO H H'):∀{j:Nat}{x y:V},sk H j x y->sk H' j x y
 |0,_,_,h=>h
 |j+1,x,y,h=>by
  rcases h with h|h|h|h|⟨p,q,xs,ys,e1,e2,e3,e4,e5,e6⟩
  ·exact .inl h
  ·exact .inr (.inl h)
  ·exact .inr (.inr (.inl h))
  ·exact .inr (.inr (.inr (.inl h)))
  ·refine .inr (.inr (.inr (.inr ⟨p,q,xs,ys,e1,e2,?_,e4,e5,λi u v hu hv=>sk.same s (e6 i u v hu hv)⟩)));rcases e3 with ⟨a,b⟩|⟨a,b⟩
   ·exact .inl ⟨s _ _ a,s _ _ b⟩
   ·exact .inr ⟨s _ _ a,s _ _ b⟩
theorem sk.int{j:Nat}(i:Int):sk H (j+1) (.int i) (.int i):=.inl ⟨i,rfl,rfl⟩
inductive tD  (K:W.Frag) (j:Nat) (vs:List V) (H:Hp) (Q:VK) (E:XK):Prop
 |mk:∀(x y:V),(vs=[x,y])->sk H j x y->(∀H',aO H H'->Q (.bl true) H')->tD K j vs H Q E
theorem wX(h:tD K 0 vs H Q E):False:=by
 obtain⟨_,_,_,h,_⟩:=h;exact h
theorem aBj(tx:Txt K mg a):(j:Nat)->bT P w K mg base fS (j+1) a.aCy a.aCz apa (tD K j)
 |0=>⟨λvs H Q E h=>(wX h).elim,λA outer s H args us vs Q E _ _ _ _ h=>(wX h).elim⟩
 |j+1=>by
  have wY:=aBj (P:=P) (w:=w) (base:=base) tx j;refine tx.df.F.ok aGE (by walk_at "l") λbo A outer s H vs Q E hr h=>?_;obtain⟨x,y,rfl ,hs,k⟩:=h;have hu:=gZ hr;refine aZ (aE (bB (cN (aN (rc:=P1 K) aKM (by rfl) tx.bL bK (aA (aB 1) (aA (fN (cM (v:=.ty "list") (by rfl) tx.gA fB rfl) (cM (v:=.ty "tuple") (by rfl) tx.sY uX rfl)) aC)))) (aE (bB (eJ (jH (aW (r:=Bn K) (FL hu) (aN (rc:=pO K) dA (by rfl) tx.bL bK (aA (aB 0) (aA (cM (v:=.ty "list") (by rfl) tx.gA fB rfl) aC))) (aN (rc:=pO K) dA (by rfl) tx.bL bK (aA (aB 1) (aA (cM (v:=.ty "list") (by rfl) tx.gA fB rfl) aC))) (bD _)) (jY (aW (r:=Bn K) (FL hu) (aN (rc:=pO K) dA (by rfl) tx.bL bK (aA (aB 0) (aA (cM (v:=.ty "tuple") (by rfl) tx.sY uX rfl) aC))) (aN (rc:=pO K) dA (by rfl) tx.bL bK (aA (aB 1) (aA (cM (v:=.ty "tuple") (by rfl) tx.sY uX rfl) aC))) (bD _))))) (aG (aM fM)) bA)
   (aG (aM (fF (dB (r:=iH K) (dJ hu) (aN (rc:=nQ K) cV (by rfl) tx.iV fT (aA (aB 0) aC)) (aN (rc:=nQ K) cV (by rfl) tx.iV fT (aA (aB 1) aC)) (bD _)) (fE (aN (rc:=Fp K) (xP rfl) (by rfl) tx.Fv Mf (aA (cG (k:=1) (idx:=[1,0]) (N:=bFa) (cF (sc:=aJ pU) (NX:=apa) rfl rfl rfl (by decide +kernel)) rfl (cO (by rfl) tx.eU (aA (aN (rc:=nQ K) cV (by rfl) tx.iV fT (aA (aB 1) aC)) aC)) (λ_ _ _ _=>(aK (i:=0) (show(bFa:aj).Nodup by decide +kernel))) (cX (by decide)) (λ_ _ _ _=>bH) (λ_ _ _ _=>(aF (wY) (hr.mono (by lia)) (by rfl) tx.df.g tx.df.F.kp tx.df.b .nil aT (aA (aH (Y:=K) (aB 2) (aB 0)) (aA (aH (Y:=K) (aB 1) (aB 0)) aC))))) aC))))))) bA)
   (aE (bB (eJ (jH (cN (aN (rc:=pO K) dA (by rfl) tx.bL bK (aA (aB 0) (aA (cM (v:=.ty "bool") (by rfl) tx.wO xK rfl) aC)))) (jY (cN (aN (rc:=pO K) dA (by rfl) tx.bL bK (aA (aB 1) (aA (cM (v:=.ty "bool") (by rfl) tx.wO xK rfl) aC))))))) (aG (aM (fF (aN (rc:=pO K) dA (by rfl) tx.bL bK (aA (aB 0) (aA (cM (v:=.ty "bool") (by rfl) tx.wO xK rfl) aC))) (fF (aN (rc:=pO K) dA (by rfl) tx.bL bK (aA (aB 1) (aA (cM (v:=.ty "bool") (by rfl) tx.wO xK rfl) aC))) (fE (dB (r:=iH K) (dJ hu) (aB 0) (aB 1) (bD _))))))) bA)
   (aE (bB (cN (aN (rc:=pO K) dA (by rfl) tx.bL bK (aA (aB 1) (aA (cM (v:=.ty "int") (by rfl) tx.CD FO rfl) aC)))) (aG (aM (fF (aN (rc:=pO K) dA (by rfl) tx.bL bK (aA (aB 0) (aA (cM (v:=.ty "int") (by rfl) tx.CD FO rfl) aC))) (fE (dB (r:=iH K) (dJ hu) (aB 0) (aB 1) (bD _)))))) bA)
   (aE (bB (cN (aN (rc:=pO K) dA (by rfl) tx.bL bK (aA (aB 1) (aA (cM (v:=.ty "str") (by rfl) tx.LU Z8 rfl) aC)))) (aG (aM (fF (aN (rc:=pO K) dA (by rfl) tx.bL bK (aA (aB 0) (aA (cM (v:=.ty "str") (by rfl) tx.LU Z8 rfl) aC))) (fE (dB (r:=iH K) (dJ hu) (aB 0) (aB 1) (bD _)))))) bA)
   (aG (aM (fF (dB FJ (aB 0) fD (bD _)) (fE (dB FJ (aB 1) fD (bD _)))))))))) ?_
  refine aU (U:=[some x,some y]) rfl ?_;repeat walk_at "gs"
  intro T nT;repeat walk_at "gs"
  rcases hs with ⟨i,rfl,rfl⟩|⟨b,rfl,rfl⟩|⟨rfl,rfl⟩|⟨z,rfl,rfl⟩|⟨p,q,xs,ys,rfl,rfl,e3,e4,e5,e6⟩
  ·refine xQ (Ts:=["list","tuple"]) aP (.int i) rfl ?_;repeat walk_at "gs"
   refine dG (iW (.int i)) ?_;repeat walk_at "gs"
   refine dG (iW (.int i)) ?_;repeat walk_at "gs"
   refine dG (HD (.int i)) ?_;repeat walk_at "gs"
   refine dG (HD (.int i)) ?_;repeat walk_at "gs"
   rw[mv rfl];exact k _ (aO.new nT)
  ·refine xQ (Ts:=["list","tuple"]) aP (.bl b) rfl ?_;repeat walk_at "gs"
   refine dG (iW (.bl b)) ?_;repeat walk_at "gs"
   refine dG (iW (.bl b)) ?_;repeat walk_at "gs"
   refine dG (iW (.bl b)) ?_;repeat walk_at "gs"
   rw[show eqV (.bl b) (.bl b)=true by cases b <;> rfl];exact k _ (aO.new nT)
  ·refine xQ (Ts:=["list","tuple"]) aP .br rfl ?_;repeat walk_at "gs"
   refine dG (iW .br) ?_;repeat walk_at "gs"
   refine dG (iW .br) ?_;repeat walk_at "gs"
   refine dG (HD .br) ?_;repeat walk_at "gs"
   refine dG (Q7 .br) ?_;repeat walk_at "gs"
   exact k _ (aO.new nT)
  ·refine xQ (Ts:=["list","tuple"]) aP (.str z) rfl ?_;repeat walk_at "gs"
   refine dG (iW (.str z)) ?_;repeat walk_at "gs"
   refine dG (iW (.str z)) ?_;repeat walk_at "gs"
   refine dG (HD (.str z)) ?_;repeat walk_at "gs"
   refine dG (Q7 (.str z)) ?_;repeat walk_at "gs"
   refine dG (Q7 (.str z)) ?_;repeat walk_at "gs"
   rw[show eqV (.str z) (.str z)=true from beq_self_eq_true z];exact k _ (aO.new nT)
  ·have sT:=aO.new (o:=.tup [.ty "list",.ty "tuple"]) nT;have hb:∃L:List V->Bool,True:=⟨λ_=>true,trivial⟩
   rcases e3 with ⟨a1,a2⟩|⟨a1,a2⟩
   ·have c1:=sT _ _ a1;have c2:=sT _ _ a2;generalize OQ:upd H T (.tup [.ty "list",.ty "tuple"])=H1 at c1 c2 sT ⊢;have eT:H1 T=some (.tup [.ty "list",.ty "tuple"]):=by rw[<-OQ];exact aP
    refine xQ (Ts:=["list","tuple"]) eT (.tup c2) rfl ?_;repeat walk_at "gs"
    refine dG (rM (.tup c1)) ?_;repeat walk_at "gs"
    refine dG (rM (.tup c2)) ?_;repeat walk_at "gs"
    refine dG (rN (.tup c1)) ?_;repeat walk_at "gs"
    refine dG (rN (.tup c2)) ?_;repeat walk_at "gs"
    refine cE (λ_=>?_) (λh=>absurd (by rw[e4]) h);repeat walk_at "gs"
    refine⟨by lia,by lia,?_⟩;refine iG (λi zs H'=>aO H1 H'/\zs.length=i/\∀z∈zs,z=.bl true) ⟨aO.refl _,rfl,λz h=>by simp at h⟩ (cA (by lia)) (λi zs H' hi ⟨_,h,_⟩=>by lia) (λi zs H' hi Uh=>?_) (λzs H' Ug=>?_)
    ·obtain⟨s1,h1,h2⟩:=Uh;have Bd:i < ys.length:=by lia
     have GN:i < xs.length:=by lia
     have g1:pP xs (0+(i:Int))=some xs[i]:=by rw[CG];exact eB (eQ GN)
     have g2:pP ys (0+(i:Int))=some ys[i]:=by rw[CG];exact eB (eQ Bd)
     have d1:=s1 _ _ c1;have d2:=s1 _ _ c2;repeat walk_at "gs"
     refine⟨_,_,rfl,sk.same (sT.trans s1) (e6 i _ _ (eQ GN) (eQ Bd)),λH2 s2=>?_⟩;refine⟨s1.trans s2,by rw[jE,h1];rfl,λz hz=>?_⟩;rcases nz.mp hz with h|h
     ·exact h2 z h
     ·exact jy.mp h
    ·obtain⟨s1,h1,h2⟩:=Ug;intro L nL;repeat walk_at "gs"
     refine HF (bP.of aP) h2 ?_;exact k _ ((sT.trans s1).trans (aO.new nL))
   ·have c1:=sT _ _ a1;have c2:=sT _ _ a2;generalize OQ:upd H T (.tup [.ty "list",.ty "tuple"])=H1 at c1 c2 sT ⊢;have eT:H1 T=some (.tup [.ty "list",.ty "tuple"]):=by rw[<-OQ];exact aP
    refine xQ (Ts:=["list","tuple"]) eT (.lst c2) rfl ?_;repeat walk_at "gs"
    refine dG (rM (.lst c1)) ?_;repeat walk_at "gs"
    refine dG (rM (.lst c2)) ?_;repeat walk_at "gs"
    refine dG (rN (.lst c1)) ?_;repeat walk_at "gs"
    refine dG (rN (.lst c2)) ?_;repeat walk_at "gs"
    refine cE (λ_=>?_) (λh=>absurd (by rw[e4]) h);repeat walk_at "gs"
    refine⟨by lia,by lia,?_⟩;refine iG (λi zs H'=>aO H1 H'/\zs.length=i/\∀z∈zs,z=.bl true) ⟨aO.refl _,rfl,λz h=>by simp at h⟩ (cA (by lia)) (λi zs H' hi ⟨_,h,_⟩=>by lia) (λi zs H' hi Ue=>?_) (λzs H' Ud=>?_)
    ·obtain⟨s1,h1,h2⟩:=Ue;have Bd:i < ys.length:=by lia
     have GN:i < xs.length:=by lia
     have g1:pP xs (0+(i:Int))=some xs[i]:=by rw[CG];exact eB (eQ GN)
     have g2:pP ys (0+(i:Int))=some ys[i]:=by rw[CG];exact eB (eQ Bd)
     have d1:=s1 _ _ c1;have d2:=s1 _ _ c2;repeat walk_at "gs"
     refine⟨_,_,rfl,sk.same (sT.trans s1) (e6 i _ _ (eQ GN) (eQ Bd)),λH2 s2=>?_⟩;refine⟨s1.trans s2,by rw[jE,h1];rfl,λz hz=>?_⟩;rcases nz.mp hz with h|h
     ·exact h2 z h
     ·exact jy.mp h
    ·obtain⟨s1,h1,h2⟩:=Ud;intro L nL;repeat walk_at "gs"
     refine HF (bP.of aP) h2 ?_;exact k _ ((sT.trans s1).trans (aO.new nL))
def FV(o:HO):Prop:=(∃(d c:Int) (q:Addr),o=.lst [.int d,.int c,.ref q])\/∃(C dx:Addr),o=.ins C dx []
def Tr(H H':Hp):Prop:=∀b o,H b=some o->¬FV o->H' b=some o
theorem Tr.trans(a:Tr H H1)(b:Tr H1 H2):Tr H H2:=λc o e n=>b c o (a c o e n) n
theorem _root_.L2.aO.tr(s:aO H H'):Tr H H':=λb o e _=>s b o e
theorem bG.tr(hh:bG H p)(k:bX p H H'):Tr H H':=λb o e n=>k b o e λz=>by
 obtain⟨d,c,q,ms,hp,_⟩:=hh.ex;rw[z,hp] at e;cases e;exact n (.inl ⟨d,c,q,rfl⟩)
theorem ZN(hx:H x=some (.ins C dx []))(k:bX x H H'):Tr H H':=λb o e n=>k b o e λz=>by
 rw[z,hx] at e;cases e;exact n (.inr ⟨C,dx,rfl⟩)
def Tk(H H':Hp):Prop:=∀b xs,H b=some (.tup xs)->H' b=some (.tup xs)
theorem Tk.trans(a:Tk H H1)(b:Tk H1 H2):Tk H H2:=λc o e=>b c o (a c o e)
theorem Hq:¬FV (.tup xs):=λz=>by rcases z with ⟨_,_,_,e⟩|⟨_,_,e⟩ <;> cases e
theorem Qw(h:fs≠[]):¬FV (.ins C dx fs):=λz=>by
 rcases z with ⟨_,_,_,e⟩|⟨_,_,e⟩
 ·cases e
 ·cases e;exact h rfl
theorem pF{xs:List V}(h:xs.length≠3):¬FV (.lst xs):=λz=>by
 rcases z with ⟨_,_,_,e⟩|⟨_,_,e⟩
 ·cases e;exact h rfl
 ·cases e
theorem xU{qs:ao}:¬FV (.lst (qs.map V.ref)):=λz=>by
 rcases z with ⟨_,_,_,e⟩|⟨_,_,e⟩
 ·cases qs with
  |nil=>cases e
  |cons x xs=>cases e
 ·cases e
theorem HC{ns:ae}:¬FV (.lst (ns.map V.int)):=λz=>by
 rcases z with ⟨d,c,q,e⟩|⟨_,_,e⟩
 ·injection e with e
  have h:=congrArg (λl=>l[2]?) e
  replace h:(ns.map V.int)[2]?=some (.ref q):=h
  rw[lB] at h;cases hq:ns[2]? with
  |none=>rw[hq] at h;cases h
  |some n=>rw[hq] at h;cases h
 ·cases e
theorem Tr.tk(s:Tr H H'):Tk H H':=λb xs e=>s b _ e Hq
theorem _root_.L2.aO.tk(s:aO H H'):Tk H H':=λb xs e=>s b _ e
def del(l:Addr)(H:Hp):Hp:=λb=>if b=l then none else H b
theorem DX{H:Hp}(n:b≠l):del l H b=H b:=by unfold del;rw[cU n]
theorem wZ:aO (del l H) H:=λb o e=>by
 unfold del at e;split at e
 ·cases e
 ·exact e
theorem Fu:del l H l=none:=by unfold del;rw[dO rfl]
theorem mO(e:H b=some o)(n:b≠l):del l H b=some o:=by rw[DX n];exact e
theorem Tr.del(s:Tr H H'):Tr (del l H) (del l H'):=λb o e n=>by
 by_cases hb:b=l
 ·subst hb;rw[Fu] at e;cases e
 ·rw[DX hb] at e ⊢;exact s b o e n
theorem aJ2:del l (upd H l o)=del l H:=by
 funext b
 by_cases hb:b=l
 ·subst hb;rw[Fu,Fu]
 ·rw[DX hb,DX hb,aV hb]
theorem wU.tr{ps:ay}(h:wU H qs ps)(s:Tk H H'):wU H' qs ps:=⟨h.len,λj q t h1 h2=>s _ _ (h.at_ j q t h1 h2)⟩
theorem yA.tr{ps:ay}(h:yA H p ps)(s:Tr H H'):yA H' p ps:=by
 obtain⟨qs,h1,h2⟩:=h.ex;exact⟨qs,s _ _ h1 xU,h2.tr s.tk⟩
theorem dS.tr(h:dS H p m)(s:Tr H H'):dS H' p m:=by
 obtain⟨pl,h1,h2⟩:=h.ex;exact⟨pl,s _ _ h1 (pF (by simp)),h2.tr s⟩
theorem c8.tr(h:c8 C H p m)(s:Tr H H'):c8 C H' p m:=by
 obtain⟨dx,pl,h1,h2⟩:=h.ex;exact⟨dx,pl,s _ _ h1 (Qw (by simp[Ax])),h2.tr s⟩
structure SS where
 cm:Int
 into:Int
 out:Int
 takes:Int
 gives:Int
structure SS.Good(s:SS):Prop where
 cm:0<=s.cm/\s.cm<=8
 into:0<=s.into/\s.into<=8
 out:0<=s.out/\s.out<=8
 takes:Am s.takes
 gives:Am s.gives
def Lv(s:SS)(l n:Int):Prop:=0<=n/\n<=s.cm/\l - s.out<=n/\n<=l+s.into
instance (s:SS) (l n:Int):Decidable (Lv s l n):=by unfold Lv;infer_instance
def dr(s:SS)(l n:Int):Int:=(if l < n then s.takes else s.gives)*(n - l)
theorem aOZ{lo n:Int}{k:Nat}:n∈qe lo k↔lo<=n/\n < lo+(k:Int):=by
 unfold qe;rw[jQ];constructor
 ·rintro ⟨j,hj,rfl⟩;have:=zp.mp hj;lia
 ·rintro ⟨h1,h2⟩;exact⟨(n - lo).toNat,zp.mpr (by lia),by lia⟩
theorem aO0(lo:Int)(k:Nat):(qe lo k).length=k:=by
 unfold qe;rw[bO,MH]
def Nk(s:SS):List (Str×V):=[("cap",.int s.cm),("into",.int s.into),("out",.int s.out),("takes",.int s.takes),("gives",.int s.gives)]
structure Mh(H:Hp)(a:Addr)(s:SS):Prop where
 at_:H a=some (.lst [.int s.cm,.int s.into,.int s.out,.int s.takes,.int s.gives])
structure fW(C:Addr)(H:Hp)(x:Addr)(s:SS):Prop where
 ex:∃dx,H x=some (.ins C dx (Nk s))
theorem fW.same(h:fW C H a s)(e:aO H H'):fW C H' a s:=by
 obtain⟨dx,q⟩:=h.ex;exact⟨dx,e _ _ q⟩
inductive aCP  (K:W.Frag) (vs:List V) (H:Hp) (Q:VK) (E:XK):Prop
 |mk:∀(i:Int),(vs=[.int i])->(0<=i)->(i<=8)->(Q (.bl true) H)->aCP K vs H Q E
theorem aH5(tx:Txt K mg a):bT P w K mg base fS 2 a.aEa a.aEb kf (aCP K):=by
 have pC:=wV (P:=P) (w:=w) (base:=base) tx;refine tx.gi.F.ok aHV (by walk_at "l") λbo A outer s H vs Q E hr h=>?_;obtain⟨i,rfl ,h1,h2,k⟩:=h;have hu:=gZ hr;refine aZ (aG (aM (fF (bg pC hr tx.gg (aA (aB 0) aC)) (fE (u9 Cz Cz aD (aB 0) (sF (n:=8) (by rfl) tx.qT)))))) ?_;refine aU (U:=[B' i]) rfl ?_;rfl';refine⟨_,_,rfl,.int i,?_⟩;rfl';refine kE (λ_=>?_) (λh=>by simp at h);rfl';refine cE (λ_=>?_) (λh=>absurd h1 h);rfl';rw[mv h2];exact k
inductive zA  (K:W.Frag) (C:Addr) (vs:List V) (H:Hp) (Q:VK) (E:XK):Prop
 |mk:∀(x dx:Addr) (s:SS),(vs=[.ref x,.int s.cm,.int s.into,.int s.out,.int s.takes,.int s.gives])->(H x=some (.ins C dx []))->s.Good->(∀H',fW C H' x s->bX x H H'->Q .br H')->zA K C vs H Q E
theorem aFc(tx:Txt K mg a):bT P w K mg base fS 3 a.sW a.aAL ata (zA K a.cJ):=by
 have eA:=nZ (P:=P) (w:=w) (base:=base) tx;have RK:=aH5 (P:=P) (w:=w) (base:=base) tx;refine tx.lg.F.ok lR (by walk_at "l") λbo A outer s H vs Q E hr h=>?_;obtain⟨x,dx,ss,rfl ,hx,hg,k⟩:=h;have hu:=gZ hr;refine aZ (aE (aI (i:=6) lR.nd (xR (bg RK hr tx.gi (aA (aB 1) aC)) (bg RK hr tx.gi (aA (aB 2) aC)) (bg RK hr tx.gi (aA (aB 3) aC))))
  (aE (bN PassesOwn.never rfl (j7 (Y:=K) (by rfl) tx.gF (aA (aL bJ (aB 6) (nR (bg eA hr tx.bq (aA (aB 4) aC)) (bg eA hr tx.bq (aA (aB 5) aC)))) aC)) (bS (Y:=K) (n:=2) rfl (aR (aK (i:=7) lR.nd) (aR (aK (i:=8) lR.nd) bR))) (aG (bB (eF (cN (aB 8))) (aG mI) bA)))
  (aE (dC (Y:=K) (aB 0) (aB 1) rfl)
  (aE (dC (Y:=K) (aB 0) (aB 2) rfl)
  (aE (dC (Y:=K) (aB 0) (aB 3) rfl)
  (aE (dC (Y:=K) (aB 0) (aB 4) rfl)
  (aG (dC (Y:=K) (aB 0) (aB 5) rfl)))))))) ?_
 refine aU (U:=[A' x,B' ss.cm,B' ss.into,B' ss.out,B' ss.takes,B' ss.gives,none,none,none]) rfl ?_;rfl';refine⟨_,rfl,hg.cm.1,hg.cm.2,?_⟩;rfl';refine⟨_,rfl,hg.into.1,hg.into.2,?_⟩;rfl';refine⟨_,rfl,hg.out.1,hg.out.2,?_⟩;rfl';intro l1 n1;rfl';refine⟨_,_,rfl,.int _,?_⟩;rw[sZ hg.takes];rfl';refine⟨_,_,rfl,.int _,?_⟩;rw[sZ hg.gives];rfl';intro l2 n2;rfl';refine sD (xs:=[.bl true,.bl true,.bl true]) (zs:=[.bl true,.bl true]) (aO.new n2 _ _ aP) aP (cA (by simp)) ?_;intro l3 n3;have s3:aO H (upd (upd (upd H l1 (.lst [.bl true,.bl true,.bl true])) l2 (.lst [.bl true,.bl true])) l3 (.lst ([.bl true,.bl true,.bl true] ++ [.bl true,.bl true]))):=((aO.new n1).trans (aO.new n2)).trans (aO.new n3);have e3:(upd (upd (upd H l1 (.lst [.bl true,.bl true,.bl true])) l2 (.lst [.bl true,.bl true])) l3 (.lst ([.bl true,.bl true,.bl true] ++ [.bl true,.bl true]))) l3=some (.lst [.bl true,.bl true,.bl true,.bl true,.bl true]):=aP
 generalize upd (upd (upd H l1 (.lst [.bl true,.bl true,.bl true])) l2 (.lst [.bl true,.bl true])) l3 (.lst ([.bl true,.bl true,.bl true] ++ [.bl true,.bl true]))=H3 at s3 e3 ⊢;rfl';refine Fz (bP.of e3) ?_;refine xO (xs:=[.bl true,.bl true,.bl true,.bl true,.bl true]) (λi U' H'=>∃y z,U'=[A' x,B' ss.cm,B' ss.into,B' ss.out,B' ss.takes,B' ss.gives,A' l1,y,z]/\aO H3 H')
  ⟨_,_,rfl,aO.refl _⟩ (λi U' H' hi ⟨y,z,e,s⟩=>bP.of (s _ _ e3)) (λi v U' H' T hv Uc nT=>?_) (λU' H' Ub=>?_)
 ·obtain⟨y,z,e,s⟩:=Uc;subst e;have ev:v=.bl true:=by
   have:=pM hv;simpa using this
  subst ev;refine dH (iF.of aP) rfl ?_;rfl';exact⟨_,_,rfl,s.trans (aO.new nT)⟩
 ·obtain⟨y,z,e,s⟩:=Ub;subst e;have sH:aO H H':=s3.trans s;have qf:=sH _ _ hx;rfl';refine iJ (fs':=[("cap",.int ss.cm)]) qf tx.jO tx.wM (by simp) rfl ?_;rfl';refine iJ (fs':=[("cap",.int ss.cm),("into",.int ss.into)]) aP tx.jO tx.aBc (by simp) rfl ?_;rw[iZ];rfl';refine iJ (fs':=[("cap",.int ss.cm),("into",.int ss.into),("out",.int ss.out)]) aP tx.jO tx.aCJ (by simp) rfl ?_;rw[iZ];rfl';refine iJ (fs':=[("cap",.int ss.cm),("into",.int ss.into),("out",.int ss.out),("takes",.int ss.takes)]) aP tx.jO tx.y6 (by simp) rfl ?_;rw[iZ];rfl';refine iJ (fs':=Nk ss) aP tx.jO tx.y7 (by simp) rfl ?_;rw[iZ];rfl';exact k _ ⟨dx,aP⟩ (sH.keep.trans bX.upd)
theorem Mh.tr(h:Mh H a s)(e:Tr H H'):Mh H' a s:=⟨e _ _ h.at_ (pF (by simp))⟩
theorem fW.tr(h:fW C H a s)(e:Tr H H'):fW C H' a s:=by
 obtain⟨dx,q⟩:=h.ex;exact⟨dx,e _ _ q (Qw (by simp[Nk]))⟩
def MX(H:Hp)(q:Addr)(t:au):Prop:=H q=some (.tup [.int t.1,.int t.2])
structure L5(H:Hp)(t:Addr)(ss:ay):Prop where
 ex:∃qs,H t=some (.tup (qs.map V.ref))/\RL (MX H) qs ss
abbrev Ps:=ay×Int
structure tW(H:Hp)(a:Addr)(P:Ps):Prop where
 ex:∃t,H a=some (.tup [.ref t,.int P.2])/\L5 H t P.1
structure Hr where
 wz:ae
 outs:ae
 Az:Int
structure LK(H:Hp)(a:Addr)(h:Hr):Prop where
 ex:∃t u,H a=some (.tup [.ref t,.ref u,.int h.Az])/\H t=some (.tup (h.wz.map V.int))/\H u=some (.tup (h.outs.map V.int))
structure Qv(H:Hp)(a:Addr)(hs:List Hr):Prop where
 ex:∃qs,H a=some (.lst (qs.map V.ref))/\RL (LK H) qs hs
structure Qu(H:Hp)(a:Addr)(hs:List Ps):Prop where
 ex:∃qs,H a=some (.lst (qs.map V.ref))/\RL (tW H) qs hs
theorem L5.tk{ss:ay}(h:L5 H t ss)(s:Tk H H'):L5 H' t ss:=by
 obtain⟨qs,h1,h2⟩:=h.ex;exact⟨qs,s _ _ h1,h2.imp λa x z=>s _ _ z⟩
theorem tW.tk(h:tW H a P)(s:Tk H H'):tW H' a P:=by
 obtain⟨t,h1,h2⟩:=h.ex;exact⟨t,s _ _ h1,h2.tk s⟩
theorem LK.tk(x:LK H a h)(s:Tk H H'):LK H' a h:=by
 obtain⟨t,u,h1,h2,h3⟩:=x.ex;exact⟨t,u,s _ _ h1,s _ _ h2,s _ _ h3⟩
theorem Qv.tr(x:Qv H a hs)(s:Tr H H'):Qv H' a hs:=by
 obtain⟨qs,h1,h2⟩:=x.ex;exact⟨qs,s _ _ h1 xU,h2.imp λa x z=>z.tk s.tk⟩
theorem Qu.tr(x:Qu H a hs)(s:Tr H H'):Qu H' a hs:=by
 obtain⟨qs,h1,h2⟩:=x.ex;exact⟨qs,s _ _ h1 xU,h2.imp λa x z=>z.tk s.tk⟩
structure WS where
 specs:List MS
 store:Option SS
 bj:Int
 x:Int
 y:Int
 wide:Int
structure WS.Good(W:WS):Prop where
 specs:∀m∈W.specs,m.Good
 len:W.specs.length<=6
 store:∀s,W.store=some s->s.Good
 bj:Am W.bj
 x:1<=W.x/\W.x<=50000000000
 y:1<=W.y/\W.y<=50000000000
 wide:W.wide=0\/W.wide=1
structure tE(H:Hp)(l:Addr)(ms:List MS):Prop where
 ex:∃qs,H l=some (.lst (qs.map V.ref))/\RL (dS H) qs ms
structure qD(C:Addr)(H:Hp)(l:Addr)(ms:List MS):Prop where
 ex:∃qs,H l=some (.lst (qs.map V.ref))/\RL (c8 C H) qs ms
def Bq(H:Hp)(v:V):Option SS->Prop
 |none=>v=.br
 |some s=>∃a,v=.ref a/\Mh H a s
def Fl(C:Addr)(H:Hp)(v:V):Option SS->Prop
 |none=>v=.br
 |some s=>∃a,v=.ref a/\fW C H a s
theorem tE.tr(h:tE H l ms)(s:Tr H H'):tE H' l ms:=by
 obtain⟨qs,h1,h2⟩:=h.ex;exact⟨qs,s _ _ h1 xU,h2.imp λa x z=>z.tr s⟩
theorem qD.tr(h:qD C H l ms)(s:Tr H H'):qD C H' l ms:=by
 obtain⟨qs,h1,h2⟩:=h.ex;exact⟨qs,s _ _ h1 xU,h2.imp λa x z=>z.tr s⟩
theorem Bq.tr:∀{o:Option SS},Bq H v o->Tr H H'->Bq H' v o
 |none,h,_=>h
 |some s,⟨a,e,h⟩,t=>⟨a,e,h.tr t⟩
theorem Fl.tr:∀{o:Option SS},Fl C H v o->Tr H H'->Fl C H' v o
 |none,h,_=>h
 |some s,⟨a,e,h⟩,t=>⟨a,e,h.tr t⟩
structure jP(H:Hp)(a:Addr)(W:WS):Prop where
 ex:∃ls st b,H a=some (.lst [.ref ls,st,.int W.bj,.ref b,.int W.wide])/\tE H ls W.specs/\Bq H st W.store/\H b=some (.lst [.int W.x,.int W.y])
theorem jP.tr(h:jP H a W)(s:Tr H H'):jP H' a W:=by
 obtain⟨ls,st,b,h1,h2,h3,h4⟩:=h.ex;exact⟨ls,st,b,s _ _ h1 (pF (by simp)),h2.tr s,h3.tr s,s _ _ h4 (pF (by simp))⟩
def Gh(lm:Addr)(st:V)(k:Int):List (Str×V):=[("machines",.ref lm),("store",st),("lack",.int k)]
structure gO(CW CM CS:Addr)(H:Hp)(w:Addr)(W:WS):Prop where
 ex:∃dx lm st,H w=some (.ins CW dx (Gh lm st W.bj))/\qD CM H lm W.specs/\Fl CS H st W.store
theorem gO.tr(h:gO CW CM CS H w W)(s:Tr H H'):gO CW CM CS H' w W:=by
 obtain⟨dx,lm,st,h1,h2,h3⟩:=h.ex;exact⟨dx,lm,st,s _ _ h1 (Qw (by simp[Gh])),h2.tr s,h3.tr s⟩
def VS(s:au):Prop:=qt s.1/\0<=s.2
def Cu:List MS->ay->ae->ay
 |m::ms,s::ss,o::os=>qC m s.1 s.2 o::Cu ms ss os
 |_,_,_=>[]
theorem Rf:∀{ms:List MS}{ss:ay}{os:ae},ss.length=ms.length->os.length=ms.length->(Cu ms ss os).length=ms.length
 |[],_,_,_,_=>by simp[Cu]
 |m::ms,s::ss,o::os,h1,h2=>by
  show(qC m s.1 s.2 o::Cu ms ss os).length=_;rw[qh,Rf (by simpa using h1) (by simpa using h2),qh]
 |_::_,[],_,h,_=>by cases h
 |_::_,_::_,[],_,h=>by cases h
theorem aH7:∀{ms:List MS}{ss:ay}{os:ae}{j:Nat}{m:MS}{s:au}{o:Int},ms[j]?=some m->ss[j]?=some s->os[j]?=some o->(Cu ms ss os)[j]?=some (qC m s.1 s.2 o)
 |m::ms,s::ss,o::os,0,_,_,_,h1,h2,h3=>by cases h1;cases h2;cases h3;rfl
 |m::ms,s::ss,o::os,j+1,_,_,_,h1,h2,h3=>by
  show(Cu ms ss os)[j]?=_;exact aH7 h1 h2 h3
 |[],_,_,_,_,_,_,h,_,_=>by simp at h
 |_::_,[],_,_,_,_,_,_,h,_=>by simp at h
 |_::_,_::_,[],_,_,_,_,_,_,h=>by simp at h
def May(ss:ay)(os:ae):Prop:=∀(j:Nat) (s:au) (o:Int),ss[j]?=some s->os[j]?=some o->s.1=o\/s.2=0
def CB(W:WS)(l:Int):Prop:=match W.store with|none=>l=0|some s=>0<=l/\l<=s.cm
def M5(W:WS)(l n:Int):Prop:=match W.store with|none=>n=0|some s=>Lv s l n
structure FF(W:WS)(P:Ps):Prop where
 len:P.1.length=W.specs.length
 vs:∀s∈P.1,VS s
 Az:CB W P.2
def aSo(m:MS)(on out:Int):Prop:=(on=0->out=0)/\(on≠0->m.least<=out/\out<=m.least+qV m.pieces)
structure Mg(W:WS)(P:Ps)(h:Hr):Prop where
 wz:h.wz.length=W.specs.length
 outs:h.outs.length=W.specs.length
 bits:∀o∈h.wz,qt o
 may:May P.1 h.wz
 out:∀(j:Nat) m on out,W.specs[j]?=some m->h.wz[j]?=some on->h.outs[j]?=some out->aSo m on out
 Az:M5 W P.2 h.Az
def EL(W:WS)(P:Ps)(h:Hr):Ps:=(Cu W.specs P.1 h.wz,h.Az)
theorem M5.ok{l n:Int}(h:M5 W l n):CB W n:=by
 unfold M5 at h;unfold CB;cases e:W.store with
 |none=>rw[e] at h;exact h
 |some s=>rw[e] at h;exact⟨h.1,h.2.1⟩
theorem Mg.EL{W:WS}(g:W.Good)(p:FF W P)(x:Mg W P h):FF W (EL W P h):=by
 refine⟨Rf p.len x.wz,λs hs=>?_,x.Az.ok⟩;obtain⟨j,hj⟩:=ur hs;have hl:=Rf p.len x.wz;have Bb:j < W.specs.length:=by rw[<-hl];exact(mT.mp hj).1
 have g1:W.specs[j]?=some W.specs[j]:=eQ Bb;have g2:P.1[j]?=some (P.1[j]'(by rw[p.len];exact Bb)):=eQ _;have g3:h.wz[j]?=some (h.wz[j]'(by rw[x.wz];exact Bb)):=eQ _
 replace hj:(Cu W.specs P.1 h.wz)[j]?=some s:=hj
 rw[aH7 g1 g2 g3] at hj;cases hj;exact Qx (g.specs _ (AY Bb)) (x.bits _ (pM g3))
def w4(W:WS):Ps->List Hr->Prop
 |_,[]=>True
 |P,h::hs=>Mg W P h/\w4 W (EL W P h) hs
def Pd(W:WS):Ps->List Hr->Ps
 |P,[]=>P
 |P,h::hs=>Pd W (EL W P h) hs
theorem w4.pos{W:WS}(g:W.Good):∀{P:Ps}{hs:List Hr},FF W P->w4 W P hs->FF W (Pd W P hs)
 |_,[],p,_=>p
 |P,h::hs,p,x=>w4.pos (P:=EL W P h) (hs:=hs) g (x.1.EL g p) x.2
theorem w4.take:∀{P:Ps}{hs:List Hr}{i:Nat}{h:Hr},w4 W P hs->hs[i]?=some h->w4 W P (hs.take i)/\Mg W (Pd W P (hs.take i)) h
 |P,g::hs,0,h,x,e=>by cases e;exact⟨trivial,x.1⟩
 |P,g::hs,i+1,h,x,e=>by
  have:=w4.take (i:=i) (h:=h) x.2 e;exact⟨⟨x.1,this.1⟩,this.2⟩
 |_,[],_,_,_,e=>by simp at e
theorem take_snoc{α:Type}{l:List α}{i:Nat}{x:α}(h:l[i]?=some x):l.take (i+1)=l.take i ++ [x]:=by
 rw[CI,h];rfl
theorem RL.get{α:Type}{P:Addr->α->Prop}{as:ao}{xs:List α}(h:RL P as xs){i:Nat}(hv:(as.map V.ref)[i]?=some v):∃a x,as[i]?=some a/\v=.ref a/\xs[i]?=some x/\P a x:=by
 rw[lB] at hv;cases hq:as[i]? with
 |none=>rw[hq] at hv;cases hv
 |some a=>
  rw[hq] at hv;cases hv;have li:i < xs.length:=by rw[<-h.len];exact(mT.mp hq).1
  have hx:xs[i]?=some xs[i]:=eQ li;exact⟨a,xs[i],rfl,rfl,hx,h.at_ i a _ hq hx⟩
theorem RL.ix{α:Type}{P:Addr->α->Prop}{as:ao}{xs:List α}(h:RL P as xs){i:Nat}(hi:i < xs.length):∃a,as[i]?=some a/\P a xs[i]:=by
 have li:i < as.length:=by rw[h.len];exact hi
 have ha:as[i]?=some as[i]:=eQ li;exact⟨as[i],ha,h.at_ i _ _ ha (eQ hi)⟩
theorem aO2{as:ao}{i:Nat}(h:as[i]?=some a):pP (as.map V.ref) (i:Int)=some (.ref a):=eB (by rw[lB,h];rfl)
theorem kU{ns:ae}{i:Nat}(h:(ns.map V.int)[i]?=some x):∃n,ns[i]?=some n/\x=.int n:=by
 rw[lB] at h;cases hq:ns[i]? with
 |none=>rw[hq] at h;cases h
 |some n=>rw[hq] at h;cases h;exact⟨n,rfl,rfl⟩
theorem aEw(np:H p=none)(s:aO H H1)(k:bX p H1 H2):aO H H2:=λb o e=>k _ _ (s _ _ e) (bE np e)
theorem RL.take{α:Type}{P:Addr->α->Prop}{as:ao}{xs:List α}(h:RL P as xs)(i:Nat):RL P (as.take i) (xs.take i):=by
 refine⟨by rw[yF,yF,h.len],λj a x h1 h2=>?_⟩;rw[List.getElem?_take] at h1 h2;split at h1
 ·rename_i hj;rw[dO hj] at h2;exact h.at_ j a x h1 h2
 ·cases h1
def rj(m:MS):Int->Int->ae->Nat->V
 |_,_,[],_=>.br
 |o,d,on::r,i=>if o=on\/d=0 then rj m (qC m o d on).1 (qC m o d on).2 r (i+1) else .int i
theorem aJ4{ns:ae}{i:Nat}{n:Int}(h:ns[i]?=some n):ns.drop i=n::ns.drop (i+1):=by
 obtain⟨hi,e⟩:=mT.mp h;rw[Ie hi,e]
inductive aBl  (K:W.Frag) (C:Addr) (vs:List V) (H:Hp) (Q:VK) (E:XK):Prop
 |mk:∀(q:Addr) (m:MS) (t:Addr) (o d:Int) (p:Addr) (ns:ae),(vs=[.ref q,.ref t,.ref p])->c8 C H q m->(H t=some (.tup [.int o,.int d]))->(H p=some (.lst (ns.map V.int)))->(∀H',aO H H'->Q (rj m o d ns 0) H')->aBl K C vs H Q E
theorem aGQ(tx:Txt K mg a):bT P w K mg base fS 3 a.aCA a.aCB ba (aBl K a.aY):=by
 have pE:=xT (P:=P) (w:=w) (base:=base) tx;have jJ:=pD (P:=P) (w:=w) (base:=base) tx;refine tx.mx.F.ok nY (by walk_at "l") λbo A outer s H vs Q E hr h=>?_;obtain⟨q,m,t,o,d,p,ns,rfl ,hm,ht,hp,k⟩:=h;have hu:=gZ hr;refine aZ (aE (bN PassesOwn.never rfl (j7 (Y:=K) (by rfl) tx.gF (aA (aB 2) aC)) (bS (Y:=K) (n:=2) rfl (aR (aK (i:=3) nY.nd) (aR (aK (i:=4) nY.nd) bR))) (aE (bB (eF (cN (bg pE hr tx.iq (aA (aB 0) (aA (aB 1) (aA (aB 4) aC)))))) (aG (aM (aB 3))) bA)
  (aG (aI (i:=1) nY.nd (bg jJ hr tx.cz (aA (aB 0) (aA (aB 1) (aA (aB 4) aC))))))))
  (aG (aM fD))) ?_
 refine aU (U:=[A' q,A' t,A' p,none,none]) rfl ?_;rfl';refine Fz (bP.of hp) ?_;refine xO (xs:=ns.map V.int) (λi U' H'=>∃t' o' d' x3 x4,U'=[A' q,A' t',A' p,x3,x4]/\H' t'=some (.tup [.int o',.int d'])/\aO H H'/\rj m o' d' (ns.drop i) i=rj m o d ns 0)
  ⟨t,o,d,_,_,rfl,ht,aO.refl _,rfl⟩ (λi U' H' hi ⟨t',o',d',x3,x4,e,h1,h2,h3⟩=>bP.of (h2 _ _ hp)) (λi x U' H' T hx Ua nT=>?_) (λU' H' T4=>?_)
 ·obtain⟨t',o',d',x3,x4,e,h1,h2,h3⟩:=Ua;subst e;rw[lB] at hx;obtain⟨n,hn,rfl⟩ : ∃n,ns[i]?=some n/\x=.int n:=by
   cases hq:ns[i]? with
   |none=>rw[hq] at hx;cases hx
   |some n=>rw[hq] at hx;cases hx;exact⟨n,rfl,rfl⟩
  rw[aJ4 hn] at h3;have sT:=aO.new (o:=.tup [.int (i:Int),.int n]) nT;refine dH (iF.of aP) rfl ?_;rfl';refine⟨_,_,_,_,_,rfl,sT _ _ h1,?_⟩;rfl';have E9:(if o'=n\/d'=0 then rj m (qC m o' d' n).1 (qC m o' d' n).2 (ns.drop (i+1)) (i+1) else .int i)=rj m o d ns 0:=h3;by_cases fj:o'=n\/d'=0
  ·rw[dO fj] at E9;rw[show(decide (o'=n) || decide (d'=0))=true by rcases fj with h|h <;> simp[h]];rfl';refine⟨q,m,t',o',d',n,rfl,hm.same (h2.trans sT),sT _ _ h1,fj,λT2 H2 s2 Kr yl=>?_⟩;rfl';exact⟨T2,_,_,_,_,rfl,yl,(h2.trans sT).trans s2,E9⟩
  ·rw[cU fj] at E9;rw[show(decide (o'=n) || decide (d'=0))=false by simp only[not_or] at fj;simp[fj.1,fj.2]];rfl';rw[<-E9] at k;exact k _ (h2.trans sT)
 ·obtain⟨t',o',d',x3,x4,e,h1,h2,h3⟩:=T4;subst e;rw[bO,HU] at h3;rfl';have E9:V.br=rj m o d ns 0:=h3;rw[E9];exact k _ h2
def Cn:Int->ae->Nat->ae
 |_,[],_=>[]
 |o,on::r,i=>(if on=1/\o=0 then [(i:Int)] else [])++Cn on r (i+1)
def Y1(m:MS)(o:Int)(ns:ae):Int:=m.begin_*((Cn o ns 0).length:Int)+m.run*(ns.count 1:Nat)+m.rest*(ns.count 0:Nat)
inductive tX  (K:W.Frag) (C:Addr) (vs:List V) (H:Hp) (Q:VK) (E:XK):Prop
 |mk:∀(q:Addr) (m:MS) (t:Addr) (o d:Int) (p:Addr) (ns:ae),(vs=[.ref q,.ref t,.ref p])->c8 C H q m->(H t=some (.tup [.int o,.int d]))->(H p=some (.lst (ns.map V.int)))->(rj m o d ns 0=.br)->(∀H',aO H H'->Q .br H')->tX K C vs H Q E
theorem aDd(tx:Txt K mg a):bT P w K mg base fS 4 a.vS a.vT ba (tX K a.aY):=by
 have aH8:=aGQ (P:=P) (w:=w) (base:=base) tx;refine tx.iw.F.ok tM (by walk_at "l") λbo A outer s H vs Q E hr h=>?_;obtain⟨q,m,t,o,d,p,ns,rfl ,hm,ht,hp,hf,k⟩:=h;have hu:=gZ hr;refine aZ (aE (aI (i:=3) tM.nd (bg aH8 hr tx.mx (aA (aB 0) (aA (aB 1) (aA (aB 2) aC)))))
  (aG (bB (aW Rx (aB 3) fD (bD _)) (aG mI) bA))) ?_
 refine aU (U:=[A' q,A' t,A' p,none]) rfl ?_;rfl';refine⟨q,m,t,o,d,p,ns,rfl,hm,ht,hp,λH1 s1=>?_⟩;rw[hf];rfl';exact k _ s1
inductive zB  (K:W.Frag) (C:Addr) (vs:List V) (H:Hp) (Q:VK) (E:XK):Prop
 |mk:∀(q:Addr) (m:MS) (t:Addr) (o d:Int) (p:Addr) (ns:ae),(vs=[.ref q,.ref t,.ref p])->c8 C H q m->(H t=some (.tup [.int o,.int d]))->(H p=some (.lst (ns.map V.int)))->(ns.length<=48)->(rj m o d ns 0=.br)->(∀c H',aO H H'->H c=none->H' c=some (.lst ((Cn o ns 0).map V.int))->Q (.ref c) H')->zB K C vs H Q E
theorem aFd(tx:Txt K mg a):bT P w K mg base fS 5 a.aAM a.aAN ba (zB K a.aY):=by
 have aEx:=aDd (P:=P) (w:=w) (base:=base) tx;refine tx.ke.F.ok hX (by walk_at "l") λbo A outer s H vs Q E hr h=>?_;obtain⟨q,m,t,o,d,p,ns,rfl ,hm,ht,hp,hl,hn,k1⟩:=h;have hu:=gZ hr;refine aZ (aE (eZ (bg aEx hr tx.iw (aA (aB 0) (aA (aB 1) (aA (aB 2) aC)))))
  (aE (aI (i:=3) hX.nd (j0 aC))
  (aE (aI (i:=4) hX.nd (aH (Y:=K) (aB 1) aD))
  (aE (bN PassesOwn.never rfl (j7 (Y:=K) (by rfl) tx.gF (aA (aB 2) aC)) (bS (Y:=K) (n:=2) rfl (aR (aK (i:=5) hX.nd) (aR (aK (i:=6) hX.nd) bR))) (aE (bB (eJ (hJ (aW (r:=iH K) (dJ hu) (aB 6) aD (bD _)) (gH (aW (r:=iH K) (dJ hu) (aB 4) aD (bD _))))) (aG (eZ (gI (Y:=K) (aB 3) (aA (aB 5) aC)))) bA)
  (aG (aI (i:=4) hX.nd (aB 6)))))
  (aG (aM (aB 3))))))) ?_
 refine aU (U:=[A' q,A' t,A' p,none,none,none,none]) rfl ?_;rfl';refine⟨q,m,t,o,d,p,ns,rfl,hm,ht,hp,hn,λH1 s1=>?_⟩;rfl';intro c nc;obtain⟨H2,i2,s2,g2⟩:=nw _ nc;rw[i2];have ht2:=(s1.trans s2) _ _ ht;have Oj:=(s1.trans s2) _ _ hp;have cp:c≠p:=λz=>by rw[z] at nc;exact bE nc (s1 _ _ hp) rfl
 rfl';refine Fz (bP.of Oj) ?_;refine xO (xs:=ns.map V.int) (λi U' H'=>∃(a':Int) (bs:ae) (x5 x6:Option V),U'=[A' q,A' t,A' p,A' c,B' a',x5,x6]/\H' c=some (.lst (bs.map V.int))/\bs.length<=i/\bs++Cn a' (ns.drop i) i=Cn o ns 0/\aO H1 H')
  ⟨o,[],_,_,rfl,g2,eR _,rfl,s2⟩ (λi U' H' hi ⟨a',bs,x5,x6,e,g,lb,eb,s'⟩=>bP.of (s' _ _ (s1 _ _ hp))) (λi x U' H' T hx TZ nT=>?_) (λU' H' TY=>?_)
 ·obtain⟨a',bs,x5,x6,e,g,lb,eb,s'⟩:=TZ;subst e;rw[lB] at hx;obtain⟨n,E3,rfl⟩:=mw.mp hx;have hi:i < ns.length:=(mT.mp E3).1;rw[aJ4 E3] at eb;obtain⟨H3,i3,s3,g3⟩:=nw (.tup [.int (i:Int),.int n]) nT;rw[i3];refine dH (iF.of g3) rfl ?_;have g':=s3 _ _ g;have Ff:bs++((if n=1/\a'=0 then [(i:Int)] else [])++Cn n (ns.drop (i+1)) (i+1))=Cn o ns 0:=eb;rfl';refine cE (λh1=>?_) (λh1=>?_)
  ·rfl';refine cE (λh2=>?_) (λh2=>?_)
   ·rw[dO ⟨h1,h2⟩,<-F3] at Ff;rfl';refine mW (bP.of g') ?_;rfl';refine sE (xs:=bs.map V.int) g' (uJ (by rw[bO];lia:(bs.map V.int).length < 1000) (cA (by simp))) ?_;obtain⟨H4,i4,k4,g4⟩:=wr H3 c (.lst (bs.map V.int ++ [.int (i:Int)]));rw[i4];rfl';exact⟨n,bs ++ [(i:Int)],_,_,rfl,by rw[g4,jF];rfl,by rw[jE];simp;exact lb,Ff,λb o e=>k4 _ _ (s3 _ _ (s' _ _ e)) (bE nc e)⟩
   ·rw[cU (λz=>h2 z.2),List.nil_append] at Ff;rfl';exact⟨n,bs,_,_,rfl,g',by lia,Ff,s'.trans s3⟩
  ·rw[cU (λz=>h1 z.1),List.nil_append] at Ff;rfl';exact⟨n,bs,_,_,rfl,g',by lia,Ff,s'.trans s3⟩
 ·obtain⟨a',bs,x5,x6,e,g,lb,eb,s'⟩:=TY;subst e;rw[bO,HU] at eb;rw[show bs++Cn a' [] ns.length=bs from ub bs] at eb;rfl';exact k1 c _ (s1.trans s') (s1.free nc) (by rw[<-eb];exact g)
inductive aCR  (K:W.Frag) (C:Addr) (vs:List V) (H:Hp) (Q:VK) (E:XK):Prop
 |mk:∀(q:Addr) (m:MS) (t:Addr) (o d:Int) (p:Addr) (ns:ae),(vs=[.ref q,.ref t,.ref p])->c8 C H q m->m.Good->(H t=some (.tup [.int o,.int d]))->(H p=some (.lst (ns.map V.int)))->(ns.length<=48)->(rj m o d ns 0=.br)->(∀H',aO H H'->Q (.int (Y1 m o ns)) H')->aCR K C vs H Q E
theorem aH9(tx:Txt K mg a):bT P w K mg base fS 6 a.aEc a.aEd ba (aCR K a.aY):=by
 have aGR:=aFd (P:=P) (w:=w) (base:=base) tx;refine tx.oq.F.ok aCn (by walk_at "l") λbo A outer s H vs Q E hr h=>?_;obtain⟨q,m,t,o,d,p,ns,rfl ,hm,hg,ht,hp,hl,hn,k1⟩:=h;have hu:=gZ hr;refine aZ (aE (aI (i:=3) aCn.nd (aN (rc:=nQ K) cV (by rfl) tx.iV fT (aA (bg aGR hr tx.ke (aA (aB 0) (aA (aB 1) (aA (aB 2) aC)))) aC)))
  (aG (aM (aL bJ (aL bJ (aL cC (bI (Y:=K) (aB 0) rfl) (aB 3)) (aL cC (bI (Y:=K) (aB 0) rfl) (aAB (Y:=K) (aB 2) (aA aD aC)))) (aL cC (bI (Y:=K) (aB 0) rfl) (aAB (Y:=K) (aB 2) (aA aD aC))))))) ?_
 obtain⟨b0,b1⟩:=hg.begin_;obtain⟨u0,u1⟩:=hg.run;obtain⟨r0,r1⟩:=hg.rest;refine aU (U:=[A' q,A' t,A' p,none]) rfl ?_;rfl';refine⟨q,m,t,o,d,p,ns,rfl,hm,ht,hp,hl,hn,λc H1 s1 nc gc=>?_⟩;obtain⟨dx,pl,hq,_⟩:=(hm.same s1).ex;have KI:=s1 _ _ hp;rfl';refine dM hq tx.cB tx.tR rfl ?_;rfl';refine dM hq tx.cB tx.y4 rfl ?_;rfl';refine mW (bP.of KI) ?_;rfl';refine aHG (bP.of KI) ?_;rfl';refine dM hq tx.cB tx.wL rfl ?_;rfl';refine mW (bP.of KI) ?_;rfl';refine aHG (bP.of KI) ?_;rfl';rw[bO];exact k1 _ s1
def Ok(m:MS):Int->Int->ae->Prop
 |_,_,[]=>True
 |o,d,on::r=>(o=on\/d=0)/\Ok m (qC m o d on).1 (qC m o d on).2 r
def ed(m:MS):Int->Int->ae->au
 |o,d,[]=>(o,d)
 |o,d,on::r=>ed m (qC m o d on).1 (qC m o d on).2 r
def zo(o d:Int):Prop:=qt o/\0<=d/\d < 60
theorem zo.qC{m:MS}(g:m.Good){o d on:Int}(h:zo o d)(b:qt on):zo (qC m o d on).1 (qC m o d on).2:=by
 obtain⟨h0,h1,h2⟩:=h;refine⟨(Qx g b).1,(Qx g b).2,?_⟩;have u:=g.up;have v:=g.down;unfold My.qC;split
 ·show max (d - 1) 0 < 60;lia
 ·split
  ·show m.up - 1 < 60;lia
  ·show m.down - 1 < 60;lia
def tP(m:MS)(on:Int)(f:Int->Int->Int)(o d:Int):Int:=if o=on\/d=0 then f (qC m o d on).1 (qC m o d on).2 else 0
def tB(m:MS)(f:Int->Int->Int)(o d:Int):Int:=tP m 0 f o d+tP m 1 f o d
def one(_ _:Int):Int:=1
abbrev WP:=(au)×Int
def qW(k:au):List Key:=[.inl k.1,.inl k.2]
def enc(ps:List WP):List (List Key×V):=ps.map λp=>(qW p.1,V.int p.2)
theorem Mz{a b:au}(h:qW a=qW b):a=b:=by
 unfold qW at h;simp only[List.cons.injEq,Sum.inl.injEq,and_true] at h;exact Prod.ext h.1 h.2
def yB(ps:List WP)(k:au):Option Int:=(ps.find? λp=>decide (p.1=k)).map (·.2)
def addW(ps:List WP)(k:au)(v:Int):List WP:=if ps.any (λp=>decide (p.1=k)) then ps.map (λp=>if p.1=k then (p.1,v) else p) else ps ++ [(k,v)]
theorem aO3(ps:List WP)(k:au):qL (enc ps) (qW k)=(yB ps k).map V.int:=by
 unfold qL yB enc;induction ps with
 |nil=>rfl
 |cons p r ih=>
  by_cases h:p.1=k
  ·simp[h]
  ·have:qW p.1≠qW k:=λz=>h (Mz z);simp only[yG,uq,this,h,decide_false];exact ih
theorem aO4(ps:List WP)(k:au)(v:Int):putK (enc ps) (qW k) (.int v)=enc (addW ps k v):=by
 unfold putK addW enc;have e:((ps.map λp:WP=>(qW p.1,V.int p.2)).any λkv=>decide (kv.1=qW k))=ps.any λp=>decide (p.1=k):=by
  rw[List.any_map];congr 1;funext p
  show decide (qW p.1=qW k)=decide (p.1=k);exact decide_eq_decide.mpr ⟨Mz,λz=>by rw[z]⟩
 rw[e];split
 ·rw[qg,qg];congr 1;funext p
  show(if qW p.1=qW k then (qW p.1,V.int v) else (qW p.1,V.int p.2))=(qW (if p.1=k then (p.1,v) else p).1,V.int (if p.1=k then (p.1,v) else p).2)
  by_cases h:p.1=k
  ·rw[dO h,dO (by rw[h])]
  ·rw[cU h,cU λz=>h (Mz z)]
 ·rw[jF];rfl
def wsum(f:Int->Int->Int)(ps:List WP):Int:=List.sum (ps.map λp=>p.2*f p.1.1 p.1.2)
theorem aF1(f:Int->Int->Int)(p:WP)(ps:List WP):wsum f (p::ps)=p.2*f p.1.1 p.1.2+wsum f ps:=rfl
theorem aNc(f:Int->Int->Int)(ps qs:List WP):wsum f (ps++qs)=wsum f ps+wsum f qs:=by
 unfold wsum;rw[jF,HQ]
theorem aO5{ps:List WP}{k:au}{c:Int}(nd:(ps.map (·.1)).Nodup):((addW ps k ((yB ps k).getD 0+c)).map (·.1)).Nodup/\(∀p∈addW ps k ((yB ps k).getD 0+c),p.1=k\/∃q∈ps,q.1=p.1)/\∀f,wsum f (addW ps k ((yB ps k).getD 0+c))=wsum f ps+c*f k.1 k.2:=by
 unfold addW;by_cases h:ps.any (λp=>decide (p.1=k))=true
 ·rw[dO h];refine⟨?_,λp hp=>?_,λf=>?_⟩
  ·rw[qg];have e:((λp:WP=>p.1) ∘ λp:WP=>if p.1=k then (p.1,(yB ps k).getD 0+c) else p)=λp=>p.1:=by
    funext p
    show(if p.1=k then (p.1,(yB ps k).getD 0+c) else p).1=p.1;split <;> rfl
   rw[e];exact nd
  ·obtain⟨q,hq,rfl⟩:=jQ.mp hp;refine .inr ⟨q,hq,?_⟩;split <;> rfl
  ·have key:∀(qs:List WP),(qs.map (·.1)).Nodup->qs.any (λp=>decide (p.1=k))=true->∀v,(yB qs k).getD 0+c=v->wsum f (qs.map λp=>if p.1=k then (p.1,v) else p)=wsum f qs+c*f k.1 k.2:=by
    intro qs;induction qs with
    |nil=>intro _ z;cases z
    |cons p r ih=>
     intro nd h v hv;rw[yG,va] at nd;rw[yG,aF1,aF1];by_cases hp:p.1=k
     ·have hn:∀q∈r,¬q.1=k:=λq hq z=>nd.1 (jQ.mpr ⟨q,hq,by rw[z,hp]⟩);have e1:(r.map λp=>if p.1=k then (p.1,v) else p)=r:=by
       conv=>rhs;rw[<-List.map_id r]
       exact MO λq hq=>cU (hn q hq)
      have e2:yB (p::r) k=some p.2:=by unfold yB;simp[hp]
      rw[e2] at hv;rw[e1,dO hp,<-hv,hp];show(p.2+c)*f k.1 k.2+wsum f r=_;rw[Int.add_mul];lia
     ·have h':r.any (λp=>decide (p.1=k))=true:=by simpa [hp] using h
      have e2:yB (p::r) k=yB r k:=by unfold yB;simp[hp]
      rw[e2] at hv;rw[cU hp,ih nd.2 h' v hv];lia
   exact key ps nd h _ rfl
 ·have hn:yB ps k=none:=by
   unfold yB;rw[Option.map_eq_none_iff,List.find?_eq_none];intro p hp z;exact h (D6.mpr ⟨p,hp,z⟩)
  rw[cU h,hn];refine⟨?_,λp hp=>?_,λf=>?_⟩
  ·rw[jF,List.nodup_append];refine⟨nd,by simp,λa ha b hb=>?_⟩;rw[yG,xk,jy] at hb;rintro rfl;obtain⟨q,hq,e⟩:=jQ.mp ha;exact h (D6.mpr ⟨q,hq,by simpa using e.trans hb⟩)
  ·rcases nz.mp hp with z|z
   ·exact .inr ⟨p,z,rfl⟩
   ·rw[jy.mp z];exact .inl rfl
  ·rw[aNc];show _+((0+c)*f k.1 k.2+0)=_;rw[CG,AW]
theorem PY:∀(n:Nat) (l:List Nat),l.Nodup->(∀x∈l,x < n)->l.length<=n
 |0,l,_,h=>by
  cases l with
  |nil=>exact eR _
  |cons x r=>exact absurd (h x (.head _)) (by lia)
 |n+1,l,nd,h=>by
  have:=PY n (l.erase n) (nd.erase n) (λx hx=>by
   have h1:=(nd.mem_erase_iff.mp hx)
   have:=h x h1.2;have:=h1.1;lia)
  rw[List.length_erase] at this;split at this <;> lia
structure AO(ps:List WP):Prop where
 nd:(ps.map (·.1)).Nodup
 st:∀p∈ps,zo p.1.1 p.1.2
theorem AO.len{ps:List WP}(h:AO ps):ps.length<=120:=by
 have:=PY 120 ((ps.map (·.1)).map λk=>(k.1*60+k.2).toNat) (by
  rw[List.Nodup,HW];refine h.nd.imp_of_mem ?_;intro a b ha hb OK z;obtain⟨p,hp,rfl⟩:=jQ.mp ha;obtain⟨q,hq,rfl⟩:=jQ.mp hb;obtain⟨a1,a2,a3⟩:=h.st p hp;obtain⟨b1,b2,b3⟩:=h.st q hq;refine OK (Prod.ext ?_ ?_)
  ·rcases a1 with a1|a1 <;> rcases b1 with b1|b1 <;> rw[a1,b1] <;> rw[a1,b1] at z <;> lia
  ·rcases a1 with a1|a1 <;> rcases b1 with b1|b1 <;> rw[a1,b1] at z <;> lia) (λx hx=>by
  obtain⟨k,hk,rfl⟩:=jQ.mp hx;obtain⟨p,hp,rfl⟩:=jQ.mp hk;obtain⟨a1,a2,a3⟩:=h.st p hp;rcases a1 with a1|a1 <;> rw[a1] <;> lia)
 simpa using this
theorem AO.add(h:AO ps){k:au}(hk:zo k.1 k.2)(c:Int):AO (addW ps k ((yB ps k).getD 0+c)):=by
 obtain⟨h1,h2,_⟩:=aO5 (k:=k) (c:=c) h.nd;refine⟨h1,λp hp=>?_⟩;rcases h2 p hp with z|⟨q,hq,z⟩
 ·rw[z];exact hk
 ·rw[<-z];exact h.st q hq
section
variable{α:Type}
abbrev Wy(α:Type):=Int×α×Int
def dN(f:α->Int):List (Wy α)->Int
 |[]=>0
 |[w]=>w.2.2+f w.2.1
 |w::v::r=>min (w.2.2+f w.2.1) (dN f (v::r))
theorem rO(f:α->Int):∀{ws:List (Wy α)}{w:Wy α},w∈ws->dN f ws<=w.2.2+f w.2.1
 |[],_,h=>by cases h
 |[w],v,h=>by rw[jy.mp h];exact sr _
 |w::v::r,u,h=>by
  show min _ _<=_;rcases pN.mp h with rfl|h
  ·lia
  ·have:=rO f h;lia
theorem lN(f:α->Int):∀{ws:List (Wy α)},ws≠[]->∃w∈ws,w.2.2+f w.2.1=dN f ws
 |[],h=>absurd rfl h
 |[w],_=>⟨w,.head _,rfl⟩
 |w::v::r,_=>by
  obtain⟨u,hu,e⟩:=lN f (ws:=v::r) (by simp);by_cases h:w.2.2+f w.2.1<=dN f (v::r)
  ·exact⟨w,.head _,by show _=min _ _;lia⟩
  ·exact⟨u,md _ hu,by show _=min _ _;lia⟩
theorem aF2{f:α->Int}{m:Int}(h1:∃w∈ws,w.2.2+f w.2.1=m)(h2:∀w∈ws,m<=w.2.2+f w.2.1):m=dN f ws:=by
 obtain⟨w,hw,e⟩:=h1;have a:=rO f hw;obtain⟨u,hu,e2⟩:=lN f (ws:=ws) (λz=>by rw[z] at hw;cases hw);have b:=h2 u hu;lia
def wF(W:Nat->α->List (Wy α)):Nat->Nat->α->Int
 |0,_,_=>0
 |k+1,i,x=>dN (wF W k (i+1)) (W i x)
def m7(f:α->Int)(ws:List (Wy α)):Option (Wy α):=ws.find? λw=>decide (w.2.2+f w.2.1=dN f ws)
theorem aIa(f:α->Int)(h:ws≠[]):∃w,m7 f ws=some w/\w∈ws/\w.2.2+f w.2.1=dN f ws:=by
 obtain⟨u,hu,e⟩:=lN f h;cases q:m7 f ws with
 |none=>
  unfold m7 at q;rw[List.find?_eq_none] at q;exact absurd (mv e) (q u hu)
 |some w=>
  unfold m7 at q;exact⟨w,rfl,Ic q,ud (List.find?_some (p:=λw:Wy α=>decide (w.2.2+f w.2.1=dN f ws)) q)⟩
def vy(W:Nat->α->List (Wy α)):Nat->Nat->α->ae
 |0,_,_=>[]
 |k+1,i,x=>match m7 (wF W k (i+1)) (W i x) with
  |none=>[]
  |some w=>w.1::vy W k (i+1) w.2.1
def Cq(W:Nat->α->List (Wy α)):Nat->α->ae->Option Int
 |_,_,[]=>some 0
 |i,x,c::r=>match (W i x).find? λw=>decide (w.1=c) with
  |none=>none
  |some w=>(Cq W (i+1) w.2.1 r).map (w.2.2 + ·)
structure Lay(W:Nat->α->List (Wy α))(n:Nat)(L:Nat->α->Prop):Prop where
 ne:∀i x,i < n->L i x->W i x≠[]
 on:∀i x w,i < n->L i x->w∈W i x->L (i+1) w.2.1
theorem Zk{W:Nat->α->List (Wy α)}:∀{row:ae}{i:Nat}{x:α}{v:Int},Cq W i x row=some v->wF W row.length i x<=v
 |[],_,_,v,h=>by cases h;exact sr _
 |c::r,i,x,v,h=>by
  unfold Cq at h;cases q:(W i x).find? λw=>decide (w.1=c) with
  |none=>rw[q] at h;cases h
  |some w=>
   rw[q] at h;obtain⟨u,hu,rfl⟩:=mw.mp h;have a:=Zk hu;have b:=rO (wF W r.length (i+1)) (Ic q);show dN (wF W r.length (i+1)) (W i x)<=w.2.2+u;lia
def LJ(ws:List (Wy α)):Prop:=ws.Pairwise λa b=>a.1 < b.1
theorem aF3{ws:List (Wy α)}(h:LJ ws){w:Wy α}(hw:w∈ws):(ws.find? λv=>decide (v.1=w.1))=some w:=by
 induction ws with
 |nil=>cases hw
 |cons a r ih=>
  obtain⟨h1,h2⟩:=List.pairwise_cons.mp h;rw[uq];rcases pN.mp hw with rfl|hw
  ·simp
  ·have:=h1 w hw;rw[uc (by lia)];exact ih h2 hw
theorem aJ5{W:Nat->α->List (Wy α)}{n:Nat}{L:Nat->α->Prop}(hl:Lay W n L)(hr:∀i x,LJ (W i x)):∀(k i:Nat) (x:α),i+k<=n->L i x->Cq W i x (vy W k i x)=some (wF W k i x)/\(vy W k i x).length=k
 |0,_,_,_,_=>⟨rfl,rfl⟩
 |k+1,i,x,hk,hx=>by
  obtain⟨w,e1,e2,e3⟩:=aIa (wF W k (i+1)) (hl.ne i x (by lia) hx);obtain⟨h1,h2⟩:=aJ5 hl hr k (i+1) w.2.1 (by lia) (hl.on i x w (by lia) hx e2);have e:vy W (k+1) i x=w.1::vy W k (i+1) w.2.1:=by
   show(match m7 (wF W k (i+1)) (W i x) with|none=>[]|some w=>w.1::vy W k (i+1) w.2.1)=_;rw[e1]
  rw[e];refine⟨?_,by rw[qh,h2]⟩;unfold Cq;rw[aF3 (hr i x) e2];show Option.map (w.2.2 + ·) (Cq W (i+1) w.2.1 (vy W k (i+1) w.2.1))=_;rw[h1];show some (w.2.2+wF W k (i+1) w.2.1)=some (dN (wF W k (i+1)) (W i x));rw[e3]
theorem aJ6{β:Type}{p:β->Bool}:∀{l:List β}{j:Nat}{w:β},l[j]?=some w->(∀x∈l.take j,p x=false)->p w=true->l.find? p=some w
 |[],_,_,h,_,_=>by simp at h
 |a::r,0,w,h,_,hp=>by
  cases h;rw[uq,hp]
 |a::r,j+1,w,h,hn,hp=>by
  rw[uq,hn a (by rw[List.take_succ_cons];exact .head _)];exact aJ6 (l:=r) (j:=j) h (λx hx=>hn x (by rw[List.take_succ_cons];exact md _ hx)) hp
end
inductive PK (α:Type) where
 |ik (f:α->Key) (inj:∀x y,f x=f y->x=y)
 |tk (f:α->List Key) (inj:∀x y,f x=f y->x=y)
def PK.pv{α:Type}:PK α->Hp->V->α->Prop
 |.ik f _,_,v,x=>v=kV (f x)
 |.tk f _,H,v,x=>∃b,v=.ref b/\H b=some (.tup ((f x).map kV))
def PK.da{α:Type}:PK α->Hp->Addr->List α->(α->Int)->Prop
 |.ik f _,H,d,ps,g=>H d=some (.dK (ps.map λx=>(f x,.int (g x))))
 |.tk f _,H,d,ps,g=>H d=some (.dT (ps.map λx=>(f x,.int (g x))))
section
variable{α:Type}{κ:PK α}{H H':Hp}{v:V}{x:α}{d:Addr}{ps:List α}{g g':α->Int}
theorem PK.iE(h:κ.pv H v x)(s:aO H H'):κ.pv H' v x:=by
 cases κ with
 |ik f i=>exact h
 |tk f i=>obtain⟨b,e,hb⟩:=h;exact⟨b,e,s _ _ hb⟩
theorem PK.oA(h:κ.da H d ps g)(s:aO H H'):κ.da H' d ps g:=by
 cases κ with
 |ik f i=>exact s _ _ h
 |tk f i=>exact s _ _ h
theorem uU{κ':Type}[DecidableEq κ']{f:α->κ'}(inj:∀x y,f x=f y->x=y){g:α->Int}:∀{ps:List α},x∈ps->qL (ps.map λx=>(f x,V.int (g x))) (f x)=some (.int (g x))
 |[],h=>by cases h
 |y::r,h=>by
  rw[yG];by_cases e:f y=f x
  ·rw[kC (show(f y,V.int (g y)).1=f x from e),inj _ _ e]
  ·rw[jG (show ¬(f y,V.int (g y)).1=f x from e)];rcases pN.mp h with rfl|h
   ·exact absurd rfl e
   ·exact uU inj h
theorem aF4{κ':Type}[DecidableEq κ']{f:α->κ'}(inj:∀x y,f x=f y->x=y){g:α->Int}:∀{ps:List α},x∉ps->qL (ps.map λx=>(f x,V.int (g x))) (f x)=none
 |[],_=>rfl
 |y::r,h=>by
  rw[yG,jG (show ¬(f y,V.int (g y)).1=f x from λz=>h (by rw[inj _ _ z];exact .head _))];exact aF4 inj λz=>h (md _ z)
theorem PK.get(h:κ.da H d ps g)(hv:κ.pv H v x)(hx:x∈ps):rC H d v (some (.int (g x))):=by
 cases κ with
 |ik f i=>
  have rf:v=kV (f x):=hv;subst rf;have z:=rC.k (k:=f x) (show H d=some (.dK _) from h);rw[uU i hx] at z;exact z
 |tk f i=>
  obtain⟨b,rfl,hb⟩:=hv;have z:=rC.t (show H d=some (.dT _) from h) hb;rw[uU i hx] at z;exact z
theorem Ro{κ':Type}[DecidableEq κ']{f:α->κ'}(inj:∀x y,f x=f y->x=y){g:α->Int}{x:α}{ps:List α}(hx:x∉ps):putK (ps.map λx=>(f x,V.int (g x))) (f x) (.int (g x))=(ps ++ [x]).map λx=>(f x,V.int (g x)):=by
 unfold putK;rw[MB,aF4 inj hx,jF];rfl
theorem PK.put(h:κ.da H d ps g)(hv:κ.pv H v x)(hx:x∉ps)(hl:ps.length < 1000000):∃H',vz H d v (.int (g x)) H'/\κ.da H' d (ps ++ [x]) g/\bX d H H':=by
 have lt:ps.length < sizeLine:=uJ hl (cA (by decide));cases κ with
 |ik f i=>
  have rf:v=kV (f x):=hv;subst rf;refine⟨_,vz.k (k:=f x) (show H d=some (.dK _) from h) (by rw[bO];exact lt),?_,bX.upd⟩;show upd H d _ d=_;rw[aP,Ro i hx]
 |tk f i=>
  obtain⟨b,rfl,hb⟩:=hv;refine⟨_,vz.t (show H d=some (.dT _) from h) hb (by rw[bO];exact lt),?_,bX.upd⟩;show upd H d _ d=_;rw[aP,Ro i hx]
theorem PK.new{Q:VK}(κ:PK α)(g:α->Int)(h:∀p H',H p=none->aO H H'->κ.da H' p [] g->Q (.ref p) H'):FH U H Q:=by
 cases κ with
 |ik f i=>exact aFO λp np=>h p _ np (aO.new np) aP
 |tk f i=>exact Rv λp np=>h p _ np (aO.new np) aP
theorem PK.ZM(h:κ.da H d ps g)(e:H d=some (.lst xs)):False:=by
 cases κ with
 |ik f i=>have h':H d=some (.dK _):=h;rw[e] at h';cases h'
 |tk f i=>have h':H d=some (.dT _):=h;rw[e] at h';cases h'
def mP(κ:PK α)(H:Hp)(a:Addr)(w:Wy α):Prop:=∃v,H a=some (.tup [.int w.1,v,.int w.2.2])/\κ.pv H v w.2.1
theorem mP.same(h:mP κ H a w)(s:aO H H'):mP κ H' a w:=let ⟨v,e,p⟩:=h;⟨v,s _ _ e,κ.iE p s⟩
structure gQ(κ:PK α)(H:Hp)(l:Addr)(ws:List (Wy α)):Prop where
 ex:∃as,H l=some (.lst (as.map V.ref))/\RL (mP κ H) as ws
theorem gQ.same(h:gQ κ H l ws)(s:aO H H'):gQ κ H' l ws:=let ⟨as,e,r⟩:=h.ex;⟨as,s _ _ e,r.imp λ_ _ z=>z.same s⟩
structure w5(κ:PK α)(C:Addr->Sp->Prop)(H:Hp)(f:Addr)(W:Nat->α->List (Wy α))(L:Nat->α->Prop):Prop where
 ex:∃vk,C f vk/\∀(H':Hp) (h:Nat) (v:V) (x:α) (Q:VK),aO H H'->L h x->κ.pv H' v x->(∀l R8,aO H' R8->gQ κ R8 l (W h x)->Q (.ref l) R8)->vk [.int (h:Int),v] H' Q E0
theorem w5.same{C:Addr->Sp->Prop}{W:Nat->α->List (Wy α)}{L:Nat->α->Prop}(h:w5 κ C H f W L)(s:aO H H'):w5 κ C H' f W L:=
 let ⟨vk,c,p⟩:=h.ex;⟨vk,c,λH2 a v x Q s2=>p H2 a v x Q (s.trans s2)⟩
def xq(κ:PK α)(H:Hp)(vs:List V)(ps:List α):Prop:=vs.length=ps.length/\∀(i:Nat) v x,vs[i]?=some v->ps[i]?=some x->κ.pv H v x
theorem xq.same(h:xq κ H vs ps)(s:aO H H'):xq κ H' vs ps:=⟨h.1,λi v x h1 h2=>κ.iE (h.2 i v x h1 h2) s⟩
theorem xq.get{vs:List V}(h:xq κ H vs ps){i:Nat}(e:vs[i]?=some v):∃x,ps[i]?=some x/\κ.pv H v x:=by
 have li:i < ps.length:=by rw[<-h.1];exact(mT.mp e).1
 exact⟨_,eQ li,h.2 i v _ e (eQ li)⟩
end
theorem cY{α:Type}{l:List α}{i:Nat}{x:α}(h:l[i]?=some x):l.take (i+1)=l.take i ++ [x]:=by rw[CI,h];rfl
theorem RL.gt{α:Type}{P:Addr->α->Prop}{as:ao}{xs:List α}(h:RL P as xs){i:Nat}(hv:(as.map V.ref)[i]?=some v):∃a x,as[i]?=some a/\v=.ref a/\xs[i]?=some x/\P a x:=by
 rw[lB] at hv;obtain⟨a,e,rfl⟩:=mw.mp hv;have li:i < xs.length:=by rw[<-h.len];exact(mT.mp e).1
 exact⟨a,xs[i],e,rfl,eQ li,h.at_ i a _ e (eQ li)⟩
inductive aCS  (K:W.Frag) (vs:List V) (H:Hp) (Q:VK) (E:XK):Prop
 |mk:∀(α:Type) (κ:PK α) (l d:Addr) (ws:List (Wy α)) (ps:List α) (g:α->Int),(vs=[.ref l,.ref d])->gQ κ H l ws->κ.da H d ps g->(ws≠[])->(ws.length<=10000)->((∀w∈ws,w.2.1∈ps))->(∀H',aO H H'->Q (.int (dN g ws)) H')->aCS K vs H Q E
theorem aCT(tx:Txt K mg a):bT P w K mg base fS 1 a.aEe a.aEf ama (aCS K):=by
 refine tx.js.F.ok aHW (by walk_at "l") λbo A outer s H vs Q E hr h=>?_;obtain⟨α,κ,l,d,ws,ps,g,rfl ,hw,hd,cj,hlen,tu,k⟩:=h;have hu:=gZ hr;refine aZ (aG (aM (aN (rc:=LV K) (aFN rfl) (by rfl) tx.wQ sA (aA (cG (k:=3) (idx:=[1]) (N:=aVa) (cF (sc:=aJ sM) (NX:=ama) rfl rfl rfl (by decide +kernel)) rfl (bC (Y:=K) (aB 0)) (λ_ _ _ _=>(bS (Y:=K) (n:=3) rfl (aR (aK (i:=0) (show(aVa:aj).Nodup by decide +kernel)) (aR (aK (i:=1) (show(aVa:aj).Nodup by decide +kernel)) (aR (aK (i:=2) (show(aVa:aj).Nodup by decide +kernel)) bR))))) (nP (cR (by decide) (cR (by decide) (cR (by decide) kD)))) (λ_ _ _ _=>bH) (λ_ _ _ _=>(aL bJ (aB 2) (iL hu (aB 3) (aB 1))))) aC)))) ?_;obtain⟨as,gl,rl⟩:=hw.ex;have og:=rl.len;refine aU (U:=[A' l,A' d]) rfl ?_;rfl';refine eY (bP.of gl) ?_;refine dP (xs:=as.map V.ref) (λj us H'=>H'=H/\us=(((ws.take j).map λw=>w.2.2+g w.2.1).map V.int)) ⟨rfl,rfl⟩ (cA (by rw[bO];lia))
  (λj us H' hj ⟨e0,e1⟩=>⟨by rw[e0];exact bP.of gl,by rw[e1,bO,bO,yF];lia⟩) (λj v us H' hv TX=>?_) (λus H' TV=>?_)
 ·obtain⟨e0,e1⟩:=TX;subst e0;obtain⟨a1,w,ea,rfl,ew,vv,g1,hp⟩:=rl.gt hv;refine dH (iF.of g1) rfl ?_;rfl';refine⟨d,_,rfl,κ.get hd hp (tu w (pM ew)),?_⟩;rfl';refine⟨rfl,?_⟩;rw[e1,cY ew,jF,jF];rfl
 obtain⟨e0,e1⟩:=TV;subst e0 e1;rw[bO,og,rA];intro l2 n2;obtain⟨H2,i2,s2,g2⟩:=nw _ n2;rw[i2];rfl';refine aJV (bP.of g2) (by simpa using cj) λm hm hle=>?_;have e:m=dN g ws:=aF2 (by
  obtain⟨w,hw,e⟩:=jQ.mp hm;exact⟨w,hw,e⟩) λw hw=>hle _ (jQ.mpr ⟨w,hw,rfl⟩)
 rw[e];exact k H2 s2
inductive tY  (K:W.Frag) (C:Addr->Sp->Prop) (vs:List V) (H:Hp) (Q:VK) (E:XK):Prop
 |mk:∀(α:Type) (κ:PK α) (lp d f:Addr) (h:Nat) (us:List V) (ps bs:List α) (g:α->Int) (W:Nat->α->List (Wy α)) (L:Nat->α->Prop),(vs=[.ref lp,.int (h:Int),.ref d,.ref f])->(H lp=some (.lst us))->xq κ H us ps->ps.Nodup->(ps.length<=10000)->κ.da H d bs g->w5 κ C H f W L->((∀x∈ps,L h x/\W h x≠[]/\(W h x).length<=10000/\∀w∈W h x,w.2.1∈bs))->(∀q H',aO H H'->H q=none->κ.da H' q ps (λx=>dN g (W h x))->Q (.ref q) H')->tY K C vs H Q E
theorem aDe(tx:Txt K mg a):bT P w K mg base fS 10 a.vU a.vV aCa (tY K (BC P w K mg base (8+1))):=by
 have RJ:=aCT (P:=P) (w:=w) (base:=base) tx;refine tx.iu.F.ok mX (by walk_at "l") λbo A outer s H vs Q E hr h=>?_;obtain⟨α,κ,lp,d,f,h,us,ps,bs,g,W,L,rfl ,gl,pq,yi,hlen,hd,hW,Ol,k⟩:=h;have hu:=gZ hr;refine aZ (aE (aI (i:=4) mX.nd iM)
  (aE (bN PassesOwn.never rfl (bC (Y:=K) (aB 0)) (aK (i:=5) mX.nd) (aG (jS hu (aB 4) (aB 5) (bg RJ hr tx.js (aA (aCl (P:=P) (w:=w) (K:=K) (mg:=mg) (base:=base) (i:=3) (k:=8+1) (hr.mono (by decide)) (aA (aB 1) (aA (aB 5) aC))) (aA (aB 2) aC))))))
  (aG (aM (aB 4))))) ?_
 obtain⟨vk,hC,hp⟩:=hW.ex;have Gz:=pq.1;refine aU (U:=[A' lp,B' (h:Int),A' d,A' f,none,none]) rfl ?_;rfl';refine κ.new (λx=>dN g (W h x)) λwd H1 EM s1 dw=>?_;rfl';refine eY (bP.of (s1 _ _ gl)) ?_;refine jM (xs:=us) (λi U' H'=>aO H H'/\κ.da H' wd (ps.take i) (λx=>dN g (W h x))/\∃z,U'=[A' lp,B' (h:Int),A' d,A' f,A' wd,z]) ⟨s1,dw,_,rfl⟩
  (λi U' H' hi ⟨s',_⟩=>bP.of (s' _ _ gl)) (λi v U' H' hv TU=>?_) (λU' H' TR=>?_)
 ·obtain⟨s',Fg,z,e⟩:=TU;subst e;obtain⟨x,ex,px⟩:=pq.get hv;obtain⟨o1,o2,o3,o4⟩:=Ol x (pM ex);rfl';refine aHP rfl hC ?_;rfl';refine hp H' h v x _ s' o1 (κ.iE px s') λl H2 s2 sg=>?_;have Gn:=s'.trans s2;rfl';refine⟨α,κ,l,d,W h x,bs,g,rfl,sg,κ.oA hd Gn,o2,o3,o4,λH3 s3=>?_⟩;have ib:=Gn.trans s3;rfl';have nx:x∉ps.take i:=λz=>by
   have hi:i < ps.length:=(mT.mp ex).1;obtain⟨j,hj,ej⟩:=List.getElem_of_mem z;rw[yF] at hj;rw[List.getElem_take] at ej;have e2:ps[i]=x:=(mT.mp ex).2;have:=(List.getElem_inj yi).mp (ej.trans e2.symm);lia
  obtain⟨H4,p4,d4,k4⟩:=κ.put (κ.oA Fg (s2.trans s3)) (κ.iE px ib) nx (by rw[yF];lia);refine⟨wd,H4,rfl,p4,?_⟩;rfl';refine⟨λb o e=>k4 _ _ (ib _ _ e) (bE EM e),?_,_,rfl⟩;rw[cY ex];exact d4
 ·obtain⟨s',Fg,z,e⟩:=TR;subst e;rfl';rw[Gz,rA] at Fg;exact k wd H' s' EM Fg
structure FE{α:Type}(κ:PK α)(H:Hp)(a:Addr)(Ls:List (List α)):Prop where
 ex:∃as,H a=some (.lst (as.map V.ref))/\RL (λb ps=>∃us,H b=some (.lst us)/\xq κ H us ps) as Ls
theorem FE.same{α:Type}{κ:PK α}{Ls:List (List α)}(h:FE κ H a Ls)(s:aO H H'):FE κ H' a Ls:=
 let ⟨as,e,r⟩:=h.ex;⟨as,s _ _ e,r.imp λ_ _ ⟨us,e,p⟩=>⟨us,s _ _ e,p.same s⟩⟩
structure Bp{α:Type}(κ:PK α)(H:Hp)(a:Addr)(Ls:List (List α))(F:Nat->α->Int):Prop where
 ex:∃ds:ao,H a=some (.lst (ds.map V.ref))/\ds.length=Ls.length/\∀(i:Nat) d ps,ds[i]?=some d->Ls[i]?=some ps->κ.da H d ps (F i)
theorem Bp.same{α:Type}{κ:PK α}{Ls:List (List α)}{F:Nat->α->Int}(h:Bp κ H a Ls F)(s:aO H H'):Bp κ H' a Ls F:=
 let ⟨ds,e,l,r⟩:=h.ex;⟨ds,s _ _ e,l,λi d ps h1 h2=>κ.oA (r i d ps h1 h2) s⟩
structure Hi{α:Type}(W:Nat->α->List (Wy α))(Ls:List (List α)):Prop where
 pos:0 < Ls.length
 nd:∀ps∈Ls,ps.Nodup
 yH:∀ps∈Ls,ps.length<=10000
 ne:∀(i:Nat) ps x,Ls[i]?=some ps->i+1 < Ls.length->x∈ps->W i x≠[]/\(W i x).length<=10000
 on:∀(i:Nat) ps qs x w,Ls[i]?=some ps->Ls[i+1]?=some qs->x∈ps->w∈W i x->w.2.1∈qs
theorem Rp{xs:List V}(h:0 < xs.length):pP xs (-1)=xs[xs.length - 1]?:=by
 have e:rb xs.length (-1)=some (xs.length - 1):=by
  unfold rb;rw[cU (by lia),dO (by lia)];congr 1;lia
 unfold pP;rw[e];rfl
theorem PK.aJ7{α:Type}{κ:PK α}{ps:List α}{g:α->Int}(h:κ.da H d ps g)(n:d≠p)(k:bX p H H'):κ.da H' d ps g:=by
 cases κ with
 |ik f i=>exact k _ _ h n
 |tk f i=>exact k _ _ h n
theorem PK.HB{α:Type}{κ:PK α}{x:α}(h:κ.pv H v x)(gp:H p=some (.lst xs))(k:bX p H H'):κ.pv H' v x:=by
 cases κ with
 |ik f i=>exact h
 |tk f i=>
  obtain⟨b,e,hb⟩:=h;exact⟨b,e,k _ _ hb λz=>by rw[z,gp] at hb;cases hb⟩
theorem DW{as:ao}{i:Nat}(h:as[i]?=some a):(as.map V.ref)[i]?=some (.ref a):=by rw[lB,h];rfl
inductive fP  (K:W.Frag) (C:Addr->Sp->Prop) (vs:List V) (H:Hp) (Q:VK) (E:XK):Prop
 |mk:∀(α:Type) (κ:PK α) (la f:Addr) (Ls:List (List α)) (W:Nat->α->List (Wy α)) (L:Nat->α->Prop),(vs=[.ref la,.ref f])->FE κ H la Ls->Hi W Ls->(Ls.length<=10000)->w5 κ C H f W L->((∀(i:Nat) ps x,Ls[i]?=some ps->i+1 < Ls.length->x∈ps->L i x))->(∀q H',aO H H'->H q=none->Bp κ H' q Ls (λi=>wF W (Ls.length - 1 - i) i)->Q (.ref q) H')->fP K C vs H Q E
theorem kW(tx:Txt K mg a):bT P w K mg base fS 11 a.rF a.rG bpa (fP K (BC P w K mg base (8+1))):=by
 have aEy:=aDe (P:=P) (w:=w) (base:=base) tx;refine tx.bf.F.ok eN (by walk_at "l") λbo A outer s H vs Q E hr h=>?_;obtain⟨α,κ,la,f,Ls,W,L,rfl ,Cb,bc,hlen,hW,hL,k⟩:=h;have hu:=gZ hr;refine aZ (aE (aI (i:=2) eN.nd iM)
  (aE (bN PassesOwn.never rfl (bC (Y:=K) (aH (Y:=K) (aB 0) (mG uS aD))) (aK (i:=3) eN.nd) (aG (jS hu (aB 2) (aB 3) aD)))
  (aE (aI (i:=4) eN.nd (pR (aB 2)))
  (aE (bN PassesOwn.never rfl (aGx (by rfl) tx.eU (aA (aL jR (aN (rc:=nQ K) cV (by rfl) tx.iV fT (aA (aB 0) aC)) aD) (aA (mG uS aD) (aA (mG uS aD) aC)))) (aK (i:=5) eN.nd) (aE (aI (i:=2) eN.nd (bg aEy hr tx.iu (aA (aH (Y:=K) (aB 0) (aB 5)) (aA (aB 5) (aA (aB 2) (aA (aB 1) aC))))))
  (aG (eZ (gI (Y:=K) (aB 4) (aA (aB 2) aC))))))
  (aG (aM (aE2 rfl (by rfl) tx.gA (by rfl) tx.RM (aA (aB 4) aC)))))))) ?_
 obtain⟨as,ga,ra⟩:=Cb.ex;have og:=ra.len;have pos:=bc.pos;obtain⟨n,hn⟩ : ∃n,Ls.length=n+1:=⟨Ls.length - 1,by lia⟩
 have el:as[n]?=some as[n]:=eQ (by lia);have ll:Ls[n]?=some Ls[n]:=eQ (by lia);obtain⟨us,gu,pu⟩:=ra.at_ n _ _ el ll;generalize as[n]=an at el gu;generalize Ls[n]=pn at ll pu;have lpn:=bc.yH pn (pM ll);have ndn:=bc.nd pn (pM ll);have Gz:=pu.1;have ai:pP (as.map V.ref) (-1)=some (.ref an):=by
  rw[Rp (by rw[bO];lia),bO,og,hn,Nat.add_sub_cancel];exact DW el
 refine aU (U:=[A' la,A' f,none,none,none,none]) rfl ?_;rfl';refine κ.new (λ_=>0) λbd H1 nbd s1 db=>?_;have ga1:=s1 _ _ ga;rfl';refine eY (bP.of (s1 _ _ gu)) ?_;refine jM (xs:=us) (λi U' H'=>aO H H'/\κ.da H' bd (pn.take i) (λ_=>0)/\∃z,U'=[A' la,A' f,A' bd,z,none,none]) ⟨s1,db,_,rfl⟩
  (λi U' H' hi ⟨s',_⟩=>bP.of (s' _ _ gu)) (λi v U' H' hv TQ=>?_) (λU' H2 TN=>?_)
 ·obtain⟨s',Fg,z,e⟩:=TQ;subst e;obtain⟨x,ex,px⟩:=pu.get hv;rfl';have nx:x∉pn.take i:=λz=>by
   obtain⟨j,hj,ej⟩:=List.getElem_of_mem z;rw[yF] at hj;rw[List.getElem_take] at ej;have e2:pn[i]'((mT.mp ex).1)=x:=(mT.mp ex).2;have:=(List.getElem_inj ndn).mp (ej.trans e2.symm);lia
  obtain⟨H4,p4,d4,k4⟩:=κ.put Fg (κ.iE px s') nx (by rw[yF];lia);refine⟨bd,H4,rfl,p4,?_⟩;rfl';refine⟨λb o e=>k4 _ _ (s' _ _ e) (bE nbd e),?_,_,rfl⟩;rw[cY ex];exact d4
 ·obtain⟨s2,d2,z,e⟩:=TN;subst e;rw[Gz,rA] at d2;have ga2:=s2 _ _ ga;rfl';intro lw EO;obtain⟨H3,i3,s3,g3⟩:=nw _ EO;rw[i3];have ib:=s2.trans s3;have XX:=ib _ _ ga;have ER:H lw=none:=s2.free EO;rfl';refine⟨_,_,rfl,by rw[bO,og];lia,?_⟩;rw[show(((as.map V.ref).length:Int) - 2 - -1).toNat=n by rw[bO,og,hn];lia];refine aOS (n:=n) (λi U' H'=>aO H H'/\(∃ds:ao,H' lw=some (.lst (ds.map V.ref))/\ds.length=i+1/\(∃d,ds[i]?=some d/\U'[2]?=some (some (.ref d)))/\∀(j:Nat) d ps,ds[j]?=some d->Ls[n - j]?=some ps->κ.da H' d ps (wF W j (n - j)))/\∃b z5,U'=[A' la,A' f,A' b,z,A' lw,z5])
   ⟨ib,⟨[bd],g3,rfl,⟨bd,rfl,rfl⟩,λj d ps h1 h2=>?_⟩,_,_,rfl⟩ (λi U' H' hi TM=>?_) (λU' H' TL=>?_)
  ·match j,h1 with
   |0,h1=>
    cases h1;rw[HL,ll] at h2;cases h2;exact κ.oA d2 s3
   |j+1,h1=>simp at h1
  ·obtain⟨s',⟨ds,gd,ld,⟨d,ed,e2⟩,hd⟩,b,z5,e⟩:=TM;subst e;have Ci:some (some (V.ref b))=some (some (.ref d)):=e2;cases Ci;have hh:(((as.map V.ref).length:Int) - 2 - (i:Int))=((n - 1 - i:Nat):Int):=by rw[bO,og,hn];lia
   rw[hh];have ea:as[n - 1 - i]?=some as[n - 1 - i]:=eQ (by lia);have eL:Ls[n - 1 - i]?=some Ls[n - 1 - i]:=eQ (by lia);have O4:Ls[n - i]?=some Ls[n - i]:=eQ (by lia);obtain⟨EI,XQ,WI⟩:=ra.at_ _ _ _ ea eL;generalize as[n - 1 - i]=ax at ea XQ;generalize Ls[n - 1 - i]=px at eL WI;have YU:=hd i d _ ed O4;generalize Ls[n - i]=qx at O4 YU;have K1:=s' _ _ ga;have ix:pP (as.map V.ref) ((n - 1 - i:Nat):Int)=some (.ref ax):=eB (DW ea);rfl';have e1:n - 1 - i+1=n - i:=by lia
   refine⟨α,κ,ax,d,f,n - 1 - i,EI,px,qx,wF W i (n - i),W,L,rfl,s' _ _ XQ,WI.same s',bc.nd px (pM eL),bc.yH px (pM eL),YU,hW.same s',λx hx=>?_,λq H4 s4 nq dq=>?_⟩
   ·obtain⟨n1,n2⟩:=bc.ne _ px x eL (by lia) hx;exact⟨hL _ px x eL (by lia) hx,n1,n2,λw hw=>bc.on _ px qx x w eL (by rw[e1];exact O4) hx hw⟩
   have zi:=s4 _ _ gd;rfl';refine mW (bP.of zi) ?_;rfl';refine sE (xs:=ds.map V.ref) zi (uJ (by rw[bO];lia:(ds.map V.ref).length < 20000) (cA (by decide))) ?_;obtain⟨H5,i5,k5,g5⟩:=wr H4 lw _;rw[i5];rfl';refine⟨λb o e=>k5 _ _ (s4 _ _ (s' _ _ e)) (bE ER e),⟨ds ++ [q],by rw[g5,jF];rfl,by rw[jE,ld];rfl,⟨q,by rw[ug (by lia),ld,yr];rfl,rfl⟩,λj d ps h1 h2=>?_⟩,_,_,rfl⟩;by_cases hj:j < i+1
   ·rw[rq (by lia)] at h1;have z:=κ.oA (hd j d ps h1 h2) s4;exact κ.aJ7 z (λy=>κ.ZM z (by rw[y];exact zi)) k5
   ·have rg:j < (ds ++ [q]).length:=(mT.mp h1).1;rw[jE,AZ] at rg;obtain rfl:j=i+1:=by lia
    rw[ug (by lia),ld,yr] at h1;cases h1;rw[show n - (i+1)=n - 1 - i by lia,eL] at h2;cases h2;have z:=κ.aJ7 dq (λy=>κ.ZM dq (by rw[y];exact zi)) k5;have ee:(λx=>dN (wF W i (n - i)) (W (n - 1 - i) x))=wF W (i+1) (n - (i+1)):=by
     rw[show n - (i+1)=n - 1 - i by lia];funext x
     show _=dN (wF W i (n - 1 - i+1)) (W (n - 1 - i) x);rw[e1]
    rw[<-ee];exact z
  ·obtain⟨s',⟨ds,gd,ld,⟨d,ed,e2⟩,hd⟩,b,z5,e⟩:=TL;subst e;rfl';refine⟨lw,_,rfl,gd,λq nq=>?_⟩;obtain⟨H5,i5,s5,g5⟩:=nw _ nq;rw[i5];rfl';refine k q H5 (s'.trans s5) (s'.free nq) ⟨⟨ds.reverse,by rw[g5,List.map_reverse],by rw[MM,ld,hn],λi d ps h1 h2=>?_⟩⟩;have hi:i < ds.length:=by rw[<-MM];exact(mT.mp h1).1
   rw[List.getElem?_reverse hi] at h1;have z:=hd _ d ps h1 (by rw[show n - (ds.length - 1 - i)=i by lia];exact h2);rw[show n - (ds.length - 1 - i)=i by lia,show ds.length - 1 - i=Ls.length - 1 - i by lia] at z;exact κ.oA z s5
inductive zC  (K:W.Frag) (vs:List V) (H:Hp) (Q:VK) (E:XK):Prop
 |mk:∀(α:Type) (κ:PK α) (l d:Addr) (ws:List (Wy α)) (ps:List α) (g:α->Int),(vs=[.ref l,.ref d])->gQ κ H l ws->κ.da H d ps g->(ws≠[])->(ws.length<=10000)->((∀w∈ws,w.2.1∈ps))->(∀a w H',aO H H'->m7 g ws=some w->mP κ H' a w->Q (.ref a) H')->zC K vs H Q E
theorem aFf(tx:Txt K mg a):bT P w K mg base fS 2 a.aAO a.aAP ama (zC K):=by
 have RJ:=aCT (P:=P) (w:=w) (base:=base) tx;refine tx.ki.F.ok yK (by walk_at "l") λbo A outer s H vs Q E hr h=>?_;obtain⟨α,κ,l,d,ws,ps,g,rfl ,hw,hd,cj,hlen,tu,k⟩:=h;have hu:=gZ hr;refine aZ (aE (oG (i:=2) yK.nd rfl (Or.inr rfl) (bg RJ hr tx.js (aA (aB 0) (aA (aB 1) aC))))
  (aG (aM (aH (Y:=K) (cG (k:=1) (idx:=[1,2]) (N:=["way","behind","least"]) (cF (sc:=aJ nS) (NX:=["ways","behind","least"]) rfl rfl rfl (by decide +kernel)) rfl (bC (Y:=K) (aB 0)) (λ_ _ _ _=>(aK (i:=0) (show(["way","behind","least"]:aj).Nodup by decide +kernel))) (cX (by decide)) (λ_ _ _ _=>(aDO (aW (r:=iH K) (dJ hu) (aL bJ (aH (Y:=K) (aB 0) aD) (iL hu (aB 1) (aH (Y:=K) (aB 0) aD))) (aB 2) (bD _)))) (λ_ _ _ _=>(aB 0))) aD)))) ?_
 refine aU (U:=[A' l,A' d,none]) rfl ?_;rfl';refine⟨α,κ,l,d,ws,ps,g,rfl,hw,hd,cj,hlen,tu,λH1 s1=>?_⟩;obtain⟨as,gl,rl⟩:=(hw.same s1).ex;have og:=rl.len;have DB:=κ.oA hd s1;rfl';refine eY (bP.of gl) ?_;refine dP (xs:=as.map V.ref) (λj us H'=>H'=H1/\us.length<=j/\(us=[]->∀w∈ws.take j,¬w.2.2+g w.2.1=dN g ws)/\∀u,us[0]?=some u->∃a w,u=.ref a/\m7 g ws=some w/\mP κ H1 a w) ⟨rfl,eR _,(λ_ w hw=>by simp at hw),(λu hu=>by simp at hu)⟩ (cA (by rw[bO];lia))
  (λj us H' hj ⟨e0,e1,_⟩=>⟨by rw[e0];exact bP.of gl,e1⟩) (λj v us H' hv TK=>?_) (λus H' TJ=>?_)
 ·obtain⟨e0,e1,e2,e3⟩:=TK;subst e0;obtain⟨a1,w,ea,rfl,ew,vv,g1,hp⟩:=rl.gt hv;rfl';refine⟨d,_,rfl,κ.get DB hp (tu w (pM ew)),?_⟩;rfl';refine cE (λh=>?_) (λh=>?_)
  ·rfl';refine⟨rfl,by rw[jE,AZ];lia,(λz=>by simp at z),λu hu=>?_⟩;cases us with
   |nil=>
    cases hu;refine⟨a1,w,rfl,?_,vv,g1,hp⟩;unfold m7;exact aJ6 ew (λx hx=>uc (e2 rfl x hx)) (mv h)
   |cons y r=>exact e3 u hu
  ·rfl';refine⟨rfl,by lia,λz x hx=>?_,e3⟩;rw[cY ew] at hx;rcases nz.mp hx with q|q
   ·exact e2 z x q
   ·rw[jy.mp q];exact h
 obtain⟨e0,e1,e2,e3⟩:=TJ;subst e0;rw[bO,og,rA] at e2;obtain⟨w0,hw0,Dr⟩:=lN g cj;cases us with
 |nil=>exact absurd Dr (e2 rfl w0 hw0)
 |cons u0 r=>
  obtain⟨a1,w,rfl,f1,hA⟩:=e3 u0 rfl;intro l2 n2;obtain⟨H2,i2,s2,g2⟩:=nw _ n2;rw[i2];have ix:pP (V.ref a1::r) 0=some (.ref a1):=eB (j:=0) rfl;rfl';exact k a1 w H2 (s1.trans s2) f1 (hA.same s2)
inductive oB  (K:W.Frag) (C:Addr->Sp->Prop) (vs:List V) (H:Hp) (Q:VK) (E:XK):Prop
 |mk:∀(α:Type) (κ:PK α) (v:V) (x:α) (p0:List α) (lw f:Addr) (Ls:List (List α)) (W:Nat->α->List (Wy α)) (L:Nat->α->Prop),(vs=[v,.ref lw,.ref f])->κ.pv H v x->(Bp κ H lw Ls (λi=>wF W (Ls.length - 1 - i) i))->(Ls[0]?=some p0)->(x∈p0)->Hi W Ls->(Ls.length<=10000)->w5 κ C H f W L->((∀(i:Nat) ps x,Ls[i]?=some ps->i+1 < Ls.length->x∈ps->L i x))->(∀q H',aO H H'->H q=none->H' q=some (.lst ((vy W (Ls.length - 1) 0 x).map V.int))->Q (.ref q) H')->oB K C vs H Q E
theorem aBp(tx:Txt K mg a):bT P w K mg base fS 10 a.aCC a.aCD a6a (oB K (BC P w K mg base (8+1))):=by
 have aGT:=aFf (P:=P) (w:=w) (base:=base) tx;refine tx.cb.F.ok kP (by walk_at "l") λbo A outer s H vs Q E hr h=>?_;obtain⟨α,κ,v,x,p0,lw,f,Ls,W,L,rfl ,hv,vp,hp0,hx0,bc,hlen,hW,hL,k⟩:=h;have hu:=gZ hr;refine aZ (aE (aI (i:=3) kP.nd (j0 aC))
  (aE (bN PassesOwn.never rfl (cO (by rfl) tx.eU (aA (aL jR (aN (rc:=nQ K) cV (by rfl) tx.iV fT (aA (aB 1) aC)) aD) aC)) (aK (i:=4) kP.nd) (aE (aI (i:=5) kP.nd (bg aGT hr tx.ki (aA (aCl (P:=P) (w:=w) (K:=K) (mg:=mg) (base:=base) (i:=2) (k:=8+1) (hr.mono (by decide)) (aA (aB 4) (aA (aB 0) aC))) (aA (aH (Y:=K) (aB 1) (aL bJ (aB 4) aD)) aC))))
  (aE (eZ (gI (Y:=K) (aB 3) (aA (aH (Y:=K) (aB 5) aD) aC)))
  (aG (aI (i:=0) kP.nd (aH (Y:=K) (aB 5) aD))))))
  (aG (aM (aB 3))))) ?_
 obtain⟨ds,Fe,EX,Vt⟩:=vp.ex;obtain⟨vk,hC,hp⟩:=hW.ex;have pos:=bc.pos;obtain⟨n,hn⟩ : ∃n,Ls.length=n+1:=⟨Ls.length - 1,by lia⟩
 refine aU (U:=[some v,A' lw,A' f,none,none,none]) rfl ?_;rfl';intro lr Dk;obtain⟨H1,i1,s1,g1⟩:=nw _ Dk;rw[i1];have a0x:=s1 _ _ Fe;rfl';refine⟨by rw[bO];lia,by rw[bO];lia,?_⟩;rw[show(((ds.map V.ref).length:Int) - 1).toNat=n by rw[bO,EX,hn];lia];refine mF (n:=n) (λi U' H'=>aO H H'/\∃(row:ae) (u:V) (y:α) (ps:List α) (z4 z5:Option V),U'=[some u,A' lw,A' f,A' lr,z4,z5]/\H' lr=some (.lst (row.map V.int))/\row.length=i/\κ.pv H' u y/\Ls[i]?=some ps/\y∈ps/\row++vy W (n - i) i y=vy W n 0 x)
  ⟨s1,[],v,x,p0,_,_,rfl,g1,rfl,κ.iE hv s1,hp0,hx0,rfl⟩ (λi U' H' hi TF=>?_) (λU' H' TC=>?_)
 ·obtain⟨s',row,u,y,ps,z4,z5,e,gr,WW,py,AL,hy,BJ⟩:=TF;subst e;have eq:Ls[i+1]?=some Ls[i+1]:=eQ (by lia);have ed:ds[i+1]?=some ds[i+1]:=eQ (by lia);have zf:=Vt (i+1) _ _ ed eq;generalize ds[i+1]=dx at ed zf;generalize Ls[i+1]=qs at eq zf;obtain⟨n1,n2⟩:=bc.ne i ps y AL (by lia) hy;have VI:=s' _ _ Fe;have ix:pP (ds.map V.ref) ((0+(i:Int))+1)=some (.ref dx):=by
   rw[show(0+(i:Int))+1=((i+1:Nat):Int) by push_cast;lia];exact eB (DW ed)
  rfl';refine aHP rfl hC ?_;rfl';rw[show(0+(i:Int))=(i:Int) by lia];refine hp H' i u y _ s' (hL i ps y AL (by lia) hy) py λl H2 s2 sg=>?_;have a0w:=s2 _ _ VI;have ix2:pP (ds.map V.ref) ((i:Int)+1)=some (.ref dx):=by rw[<-ix,show(0+(i:Int))=(i:Int) by lia]
  rfl';refine⟨α,κ,l,dx,W i y,qs,_,rfl,sg,κ.oA zf (s'.trans s2),n1,n2,λw hw=>bc.on i ps qs y w AL eq hy hw,λa w H3 s3 fw hA=>?_⟩;obtain⟨vv,ga,pq⟩:=hA;have KW:=(s2.trans s3) _ _ gr;have hwm:w∈W i y:=by
   unfold m7 at fw;exact Ic fw
  rfl';refine mW (bP.of KW) ?_;rfl';refine sE (xs:=row.map V.int) KW (uJ (by rw[bO];lia:(row.map V.int).length < 20000) (cA (by decide))) ?_;obtain⟨H4,i4,k4,g4⟩:=wr H3 lr _;rw[i4];have na:a≠lr:=λz=>by rw[z,KW] at ga;cases ga
  have ga4:=k4 _ _ ga na;have Vj:κ.pv H4 vv w.2.1:=κ.HB pq KW k4;rfl';refine⟨λb o e=>k4 _ _ ((s'.trans (s2.trans s3)) _ _ e) (bE Dk e),row ++ [w.1],vv,w.2.1,qs,_,_,rfl,by rw[g4,jF];rfl,by rw[jE,WW];rfl,Vj,eq,bc.on i ps qs y w AL eq hy hwm,?_⟩;rw[<-BJ,F3];congr 1;obtain⟨m,hm⟩ : ∃m,n - i=m+1:=⟨n - i - 1,by lia⟩
  rw[hm,show n - (i+1)=m by lia];have fw':m7 (wF W m (i+1)) (W i y)=some w:=by rw[<-fw,show Ls.length - 1 - (i+1)=m by lia]
  show _=(match m7 (wF W m (i+1)) (W i y) with|none=>[]|some w=>w.1::vy W m (i+1) w.2.1)
  rw[fw'];rfl
 ·obtain⟨s',row,u,y,ps,z4,z5,e,gr,WW,py,AL,hy,BJ⟩:=TC;subst e;rfl';rw[yr,show vy W 0 n y=[] from rfl,ub] at BJ;refine k lr H' s' Dk ?_;rw[gr,BJ,hn,Nat.add_sub_cancel]
def On(m:MS)(s s':au):Prop:=∃on,qt on/\(s.1=on\/s.2=0)/\s'=qC m s.1 s.2 on
def Rc(m:MS)(a:au):Nat->au->Prop
 |0,s=>s=a
 |n+1,s=>∃q,Rc m a n q/\On m q s
def A4(a b:au):Prop:=a.1 < b.1\/(a.1=b.1/\a.2 < b.2)
def xj(m:MS)(s:au):Prop:=(s.1=1/\0<=s.2/\s.2 < m.up)\/(s.1=0/\0<=s.2/\s.2 < 60)
theorem xj.Ws{m:MS}(g:m.Good){s:au}(h:xj m s):zo s.1 s.2:=by
 obtain⟨u0,u1⟩:=g.up;rcases h with ⟨a,b,c⟩|⟨a,b,c⟩
 ·exact⟨.inr a,b,by lia⟩
 ·exact⟨.inl a,b,c⟩
theorem Rc.st{m:MS}(g:m.Good){a:au}(h:xj m a):∀{n:Nat}{s:au},Rc m a n s->zo s.1 s.2/\(s.2 < 12\/(s.1=0/\s.2=a.2 - n))
 |0,s,hs=>by
  have xb:s=a:=hs;subst xb;obtain⟨u0,u1⟩:=g.up;refine⟨h.Ws g,?_⟩;rcases h with ⟨x,y,z⟩|⟨x,y,z⟩
  ·exact .inl (by lia)
  ·exact .inr ⟨x,by lia⟩
 |n+1,s,hs=>by
  obtain⟨q,hq,on,Cm,may,rfl⟩:=hs;obtain⟨i1,i2⟩:=Rc.st g h hq;obtain⟨u0,u1⟩:=g.up;obtain⟨d0,d1⟩:=g.down;refine⟨i1.qC g Cm,?_⟩;unfold My.qC;by_cases e:q.1=on
  ·rw[dO e];rcases i2 with i2|⟨i2,i3⟩
   ·exact .inl (by show max (q.2 - 1) 0 < 12;lia)
   ·by_cases z:q.2 - 1 < 12
    ·exact .inl (by show max (q.2 - 1) 0 < 12;lia)
    ·refine .inr ⟨by show on=0;lia,?_⟩;show max (q.2 - 1) 0=a.2 - ((n+1:Nat):Int)
     lia
  ·rw[cU e];split
   ·exact .inl (by show m.up - 1 < 12;lia)
   ·exact .inl (by show m.down - 1 < 12;lia)
theorem aRk{x1 x2 y1 y2:Int}(a1:x1=0\/x1=1)(b1:y1=0\/y1=1)(a2:0<=x2)(b2:0<=y2)(c1:x2 < 12)(c2:y2 < 12)(z:(x1*12+x2).toNat=(y1*12+y2).toNat):x1=y1/\x2=y2:=by
 rcases a1 with rfl|rfl <;> rcases b1 with rfl|rfl <;> lia
theorem Qt{x1 x2:Int}(a1:x1=0\/x1=1)(a2:0<=x2)(c1:x2 < 12):(x1*12+x2).toNat < 24:=by
 rcases a1 with rfl|rfl <;> lia
theorem aRl{x1 x2 y1 y2 d:Int}(c1:¬x2 < 12)(c2:¬y2 < 12)(a:x2 < 12\/(x1=0/\x2=d))(b:y2 < 12\/(y1=0/\y2=d)):x1=y1/\x2=y2:=by lia
theorem Rc.yH{m:MS}(g:m.Good){a:au}(h:xj m a){n:Nat}{ks:ay}(nd:ks.Nodup)(hr:∀k∈ks,Rc m a n k):ks.length<=25:=by
 have:=PY 25 (ks.map λk=>if k.2 < 12 then (k.1*12+k.2).toNat else 24) (by
  rw[List.Nodup,HW];refine nd.imp_of_mem ?_;intro x y hx hy hxy z;obtain⟨⟨a1,a2,a3⟩,a4⟩:=Rc.st g h (hr x hx);obtain⟨⟨b1,b2,b3⟩,b4⟩:=Rc.st g h (hr y hy);refine hxy ?_;by_cases c1:x.2 < 12 <;> by_cases c2:y.2 < 12
  ·rw[dO c1,dO c2] at z;obtain⟨u,v⟩:=aRk a1 b1 a2 b2 c1 c2 z;exact Prod.ext u v
  ·rw[dO c1,cU c2] at z;exact absurd z (rV (Qt a1 a2 c1))
  ·rw[cU c1,dO c2] at z;exact absurd z.symm (rV (Qt b1 b2 c2))
  ·obtain⟨u,v⟩:=aRl c1 c2 a4 b4;exact Prod.ext u v) (λx hx=>by
  obtain⟨k,hk,rfl⟩:=jQ.mp hx;obtain⟨⟨a1,a2,a3⟩,a4⟩:=Rc.st g h (hr k hk);split
  ·rename_i c;exact D8 (Qt a1 a2 c)
  ·decide)
 simpa using this
structure Fj(m:MS)(a:au)(Ls:List (ay)):Prop where
 at_:∀(i:Nat) ps,Ls[i]?=some ps->ps.Pairwise A4/\∀s,s∈ps↔Rc m a i s
theorem Qs{ps:ay}(h:ps.Pairwise A4):ps.Nodup:=h.imp λ{a b} OK z=>by
 subst z;rcases OK with y|⟨_,y⟩ <;> lia
theorem aIe:∀{ps qs:ay},ps.Pairwise A4->qs.Pairwise A4->(∀s,s∈ps↔s∈qs)->ps=qs
 |[],[],_,_,_=>rfl
 |[],q::qs,_,_,h=>by have:=(h q).mpr (.head _);cases this
 |p::ps,[],_,_,h=>by have:=(h p).mp (.head _);cases this
 |p::ps,q::qs,h1,h2,h=>by
  obtain⟨a1,a2⟩:=List.pairwise_cons.mp h1;obtain⟨b1,b2⟩:=List.pairwise_cons.mp h2;have e:p=q:=by
   rcases pN.mp ((h p).mp (.head _)) with z|z
   ·exact z
   ·rcases pN.mp ((h q).mpr (.head _)) with y|y
    ·exact y.symm
    ·have x1:=b1 p z;have x2:=a1 q y;unfold A4 at x1 x2;lia
  subst e;congr 1;refine aIe a2 b2 λs=>⟨λhs=>?_,λhs=>?_⟩
  ·rcases pN.mp ((h s).mp (md _ hs)) with z|z
   ·subst z;have:=a1 s hs;unfold A4 at this;lia
   ·exact z
  ·rcases pN.mp ((h s).mpr (md _ hs)) with z|z
   ·subst z;have:=b1 s hs;unfold A4 at this;lia
   ·exact z
def DG(m:MS)(p:Int):Int:=p*m.least+gn p m.pieces
def vx(m:MS)(s:au)(on:Int):Int:=Y1 m s.1 [on]
def hw(m:MS)(p:Int)(s:au)(on:Int):Int:=vx m s on - on*DG m p
def vt(s:au)(on:Int):Bool:=decide (s.1=on) || decide (s.2=0)
def vm(m:MS)(p:Int)(s:au):List (Wy (au)):=(([0,1]:ae).filter (vt s)).map λon=>(on,qC m s.1 s.2 on,hw m p s on)
def Wr(m:MS)(ps:ae)(i:Nat)(s:au):List (Wy (au)):=vm m (ps.getD i 0) s
theorem mQ{s:au}{on:Int}:vt s on=true↔s.1=on\/s.2=0:=by unfold vt;simp
theorem Mn{p:Int}{s:au}{w:Wy (au)}:w∈vm m p s↔∃on,qt on/\(s.1=on\/s.2=0)/\w=(on,qC m s.1 s.2 on,hw m p s on):=by
 unfold vm;rw[jQ];constructor
 ·rintro ⟨on,h,rfl⟩;obtain⟨h1,h2⟩:=yt.mp h;exact⟨on,by simpa [qt] using h1,mQ.mp h2,rfl⟩
 ·rintro ⟨on,b,h,rfl⟩;exact⟨on,yt.mpr ⟨by simpa [qt] using b,mQ.mpr h⟩,rfl⟩
theorem aRm{p:Int}{s:au}(b:qt s.1):vm m p s≠[]:=λz=>by
 have:_∈vm m p s:=Mn.mpr ⟨s.1,b,.inl rfl,rfl⟩;rw[z] at this;cases this
theorem aJ8(m:MS)(p:Int)(s:au):(vm m p s).length<=2:=by
 unfold vm;rw[bO];exact List.length_filter_le ..
theorem Q6{m:MS}(g:m.Good){a:au}(h:xj m a)(qs:ae){Ls:List (ay)}(pos:0 < Ls.length)(hl:Fj m a Ls):Hi (Wr m qs) Ls where
 pos:=pos
 nd:=λps hp=>by
  obtain⟨i,hi⟩:=ur hp;exact Qs (hl.at_ i ps hi).1
 yH:=λps hp=>by
  obtain⟨i,hi⟩:=ur hp;obtain⟨h1,h2⟩:=hl.at_ i ps hi;exact mf (Rc.yH g h (Qs h1) λk hk=>(h2 k).mp hk) (by decide)
 ne:=λi ps x hi _ hx=>by
  have:=((Rc.st g h (((hl.at_ i ps hi).2 x).mp hx)).1).1;exact⟨aRm this,mf (aJ8 ..) (by decide)⟩
 on:=λi ps rs x w hi hj hx hw=>by
  obtain⟨on,b,may,rfl⟩:=Mn.mp hw;exact((hl.at_ (i+1) rs hj).2 _).mpr ⟨x,((hl.at_ i ps hi).2 x).mp hx,on,b,may,rfl⟩
def Gp(m:MS)(qs:ae)(a:au):Int:=wF (Wr m qs) qs.length 0 a
def rrF(m:MS)(qs:ae)(a:au):ae:=vy (Wr m qs) qs.length 0 a
def κS:PK (au):=.tk qW λ_ _ h=>Mz h
theorem c8.aSO(h:c8 C H q m)(e:H w=some (.dT kvs)):c8 C (del w H) q m:=by
 obtain⟨dx,pl,h1,h2⟩:=h.ex;obtain⟨qs,h3,h4⟩:=h2.ex;refine⟨dx,pl,mO h1 (λz=>by rw[z,e] at h1;cases h1),qs,mO h3 (λz=>by rw[z,e] at h3;cases h3),h4.len,λj a t h5 h6=>?_⟩;have h7:=h4.at_ j a t h5 h6;exact mO h7 (λz=>by rw[z,e] at h7;cases h7)
theorem aO7(x:Option Int):(x.map V.int).getD (.int 0)=.int (x.getD 0):=by cases x <;> rfl
theorem aRn{ps:List WP}{i:Nat}(h:(enc ps)[i]?=some kv):∃p,ps[i]?=some p/\kv=(qW p.1,V.int p.2):=by
 unfold enc at h;rw[lB] at h;obtain⟨p,hp,e⟩:=mw.mp h;exact⟨p,hp,e.symm⟩
theorem aJ9(ps:List WP):(enc ps).length=ps.length:=by unfold enc;rw[bO]
theorem aLg{ps:List WP}{k s:au}{v:Int}:s∈(addW ps k v).map (·.1)↔s∈ps.map (·.1)\/s=k:=by
 unfold addW;by_cases h:ps.any (λp=>decide (p.1=k))=true
 ·rw[dO h,qg];have e:((λp:WP=>p.1) ∘ λp:WP=>if p.1=k then (p.1,v) else p)=λp=>p.1:=by
   funext p
   show(if p.1=k then (p.1,v) else p).1=p.1;split <;> rfl
  rw[e];refine⟨.inl,λz=>?_⟩;rcases z with z|z
  ·exact z
  ·obtain⟨p,hp,e⟩:=D6.mp h;rw[z];exact jQ.mpr ⟨p,hp,ud e⟩
 ·rw[cU h,jF,nz];simp
inductive w6  (K:W.Frag) (C:Addr) (vs:List V) (H:Hp) (Q:VK) (E:XK):Prop
 |mk:∀(q:Addr) (m:MS) (w:Addr) (ps:List WP),(vs=[.ref q,.ref w])->c8 C H q m->m.Good->(H w=some (.dT (enc ps)))->AO ps->(∀w' ly H',aO (del w H) H'->H w'=none->H' w'=some (.dT (enc ly))->AO ly->(∀s,s∈ly.map (·.1)↔∃q∈ps.map (·.1),On m q s)->Q (.ref w') H')->w6 K C vs H Q E
theorem aEz(tx:Txt K mg a):bT P w K mg base fS 3 a.yQ a.yR bsa (w6 K a.aY):=by
 have pE:=xT (P:=P) (w:=w) (base:=base) tx;have jJ:=pD (P:=P) (w:=w) (base:=base) tx;refine tx.jm.F.ok fY (by walk_at "l") λbo A outer s H vs Q E hr h=>?_;obtain⟨q,m,w,ps,rfl ,hm,hg,gw,hW,k⟩:=h;have hu:=gZ hr;refine aZ (aE (aI (i:=2) fY.nd iM)
  (aE (bN PassesOwn.never rfl (aHN (aB 1)) (bS (Y:=K) (n:=2) rfl (aR (aK (i:=3) fY.nd) (aR (aK (i:=4) fY.nd) bR))) (aG (bN PassesOwn.never rfl (aDP (Y:=K) (fN aD aD)) (aK (i:=5) fY.nd) (aG (bB (cN (bg pE hr tx.iq (aA (aB 0) (aA (aB 3) (aA (aB 5) aC))))) (aE (aI (i:=6) fY.nd (bg jJ hr tx.cz (aA (aB 0) (aA (aB 3) (aA (aB 5) aC)))))
  (aG (jS hu (aB 2) (aB 6) (aL bJ (vD hu (aB 2) (aB 6) aD) (aB 4))))) bA)))))
  (aG (aM (aB 2))))) ?_
 have hmD:=hm.aSO gw;refine aU (U:=[A' q,A' w,none,none,none,none,none]) rfl ?_;rfl';refine Rv ?_;intro l nl;obtain⟨H1,i1,s1,g1⟩:=nw _ nl;rw[i1];have gw1:=s1 _ _ gw;have lw:l≠w:=λz=>by rw[z,gw] at nl;cases nl
 have nlD:del w H l=none:=by rw[DX lw];exact nl
 rfl';refine aSi gw1 λob=>?_;obtain⟨H2,i2,k2,g2⟩:=wr H1 w _;rw[i2];have g12:=k2 _ _ g1 lw;have S2:aO (del w H) H2:=λb o e=>k2 _ _ (s1 _ _ (wZ _ _ e)) (λz=>by rw[z,Fu] at e;cases e);refine vC (kvs:=enc ps) (λi U' H'=>∃(ly:List WP) (z3 z4 z5 z6:Option V),U'=[A' q,A' w,A' l,z3,z4,z5,z6]/\H' l=some (.dT (enc ly))/\AO ly/\(∀s,s∈ly.map (·.1)↔∃q∈(ps.take i).map (·.1),On m q s)/\aO (del w H) H'/\H' w=some (.cx ob (.dT (enc ps))))
  ⟨[],_,_,_,_,rfl,g12,⟨List.nodup_nil,λp hp=>by cases hp⟩,λs=>⟨(λh=>by cases h),(λ⟨q,h,_⟩=>by simp at h)⟩,S2,g2⟩ (λi U' H' hi ⟨_,_,_,_,_,_,_,_,_,_,h⟩=>h) (λi kv U' H' T b hk TB nT gb=>?_) (λU' H' Tz=>?_)
 ·obtain⟨ly,z3,z4,z5,z6,e,gl,OM,hs,S',XO⟩:=TB;subst e;obtain⟨p,ep,rfl⟩:=aRn hk;have di:=hW.st p (pM ep);have gb0:H' b=some (.tup [.int p.1.1,.int p.1.2]):=gb;obtain⟨H3,i3,s3,gT⟩:=nw _ nT;rw[i3];refine dH (iF.of gT) rfl ?_;rfl';intro Tu NK;obtain⟨H4,i4,s4,DK⟩:=nw _ NK;rw[i4];have AI:=(s3.trans s4) _ _ gl;have yn:=(s3.trans s4) _ _ gb0;have OT:=(s3.trans s4) _ _ XO;have S4:=S'.trans (s3.trans s4);have Tul:Tu≠l:=λz=>by rw[z,AI] at DK;cases DK
  have bl:b≠l:=λz=>by rw[z,AI] at yn;cases yn
  rfl';refine Zq (iF.of DK) ?_;refine aQ0 (xs:=([0,1]:ae).map V.int) (λj U' H'=>∃(ly:List WP) (z5 z6:Option V),U'=[A' q,A' w,A' l,A' b,B' p.2,z5,z6]/\H' l=some (.dT (enc ly))/\AO ly/\(∀s,s∈ly.map (·.1)↔(∃q∈(ps.take i).map (·.1),On m q s)\/∃on∈([0,1]:ae).take j,(p.1.1=on\/p.1.2=0)/\s=qC m p.1.1 p.1.2 on)/\aO (del w H) H'/\bX l H4 H')
   ⟨ly,_,_,rfl,AI,OM,λs=>by rw[hs s];simp,S4,λ_ _ e _=>e⟩ (λj U' H' hj ⟨_,_,_,_,_,_,_,_,h⟩=>iF.of (h _ _ DK Tul)) (λj v U' H5 hv Tx=>?_) (λU' H5 Tw=>?_)
  ·obtain⟨ly,z5,z6,e,DH,Ce,KC,S5,k5⟩:=Tx;subst e;obtain⟨on,xg,rfl⟩:=kU hv;have Cm:qt on:=by
    have:=pM xg;simp at this;exact this
   have G4:=k5 _ _ yn bl;have tk:([0,1]:ae).take (j+1)=([0,1]:ae).take j ++ [on]:=by rw[CI,xg];rfl
   rfl';refine⟨_,b,_,_,on,rfl,G4,?_⟩;by_cases fj:p.1.1=on\/p.1.2=0
   ·rw[show(decide (p.1.1=on) || decide (p.1.2=0))=true by simpa using fj];rfl';refine⟨q,m,b,_,_,on,rfl,hmD.same S5,G4,fj,λT2 H6 s6 Kr La=>?_⟩;have AH:=s6 _ _ DH;have gk:H6 T2=some (.tup ((qW (qC m p.1.1 p.1.2 on)).map kV)):=La;have hle:=Ce.len;rfl';refine⟨l,rfl,.inr ⟨_,.inl AH⟩,?_⟩;rfl';refine⟨_,rC.t AH gk,?_⟩;rw[aO3,aO7];rfl';refine⟨l,_,rfl,vz.t AH gk (uJ (by rw[aJ9];lia:(enc ly).length < 1000) (cA (by decide))),?_⟩;rw[aO4];obtain⟨H7,i7,k7,g7⟩:=wr H6 l _;rw[i7];rfl';refine⟨_,_,_,rfl,g7,Ce.add (di.qC hg Cm) p.2,λs=>?_,λb o e=>k7 _ _ ((S5.trans s6) _ _ e) (bE nlD e),k5.trans (s6.keep.trans k7)⟩;rw[aLg,KC s,tk];constructor
    ·rintro ((h|⟨yg,h1,h2⟩)|h)
     ·exact .inl h
     ·exact .inr ⟨yg,Bx _ h1,h2⟩
     ·exact .inr ⟨on,uf _ (.head _),fj,h⟩
    ·rintro (h|⟨yg,h1,h2,h3⟩)
     ·exact .inl (.inl h)
     ·rcases nz.mp h1 with z|z
      ·exact .inl (.inr ⟨yg,z,h2,h3⟩)
      ·rw[jy.mp z] at h3;exact .inr h3
   ·rw[show(decide (p.1.1=on) || decide (p.1.2=0))=false by simpa using fj];rfl';refine⟨ly,_,_,rfl,DH,Ce,λs=>?_,S5,k5⟩;rw[KC s,tk];constructor
    ·rintro (h|⟨yg,h1,h2⟩)
     ·exact .inl h
     ·exact .inr ⟨yg,Bx _ h1,h2⟩
    ·rintro (h|⟨yg,h1,h2,h3⟩)
     ·exact .inl h
     ·rcases nz.mp h1 with z|z
      ·exact .inr ⟨yg,z,h2,h3⟩
      ·rw[jy.mp z] at h2;exact absurd h2 fj
  ·obtain⟨ly,z5,z6,e,DH,Ce,KC,S5,k5⟩:=Tw;subst e;refine⟨ly,_,_,_,_,rfl,DH,Ce,λs=>?_,S5,k5 _ _ OT (Ne.symm lw)⟩;rw[KC s,take_snoc ep,jF];constructor
   ·rintro (⟨q,h1,h2⟩|⟨yg,h1,h2,h3⟩)
    ·exact⟨q,Bx _ h1,h2⟩
    ·exact⟨p.1,uf _ (.head _),yg,by simpa [qt] using h1,h2,h3⟩
   ·rintro ⟨q,h1,yg,b1,h2,h3⟩;rcases nz.mp h1 with z|z
    ·exact .inl ⟨q,z,yg,b1,h2,h3⟩
    ·rw[show q=p.1 by simpa using z] at h2 h3;exact .inr ⟨yg,by rcases b1 with rfl|rfl <;> simp,h2,h3⟩
 ·obtain⟨ly,z3,z4,z5,z6,e,gl,OM,hs,S',XO⟩:=Tz;subst e;rfl';refine k l ly H' S' nl gl OM λs=>?_;rw[hs s,aJ9,rA]
inductive tZ  (K:W.Frag) (C:Addr) (vs:List V) (H:Hp) (Q:VK) (E:XK):Prop
 |mk:∀(p:Addr) (ms:List MS),(vs=[.ref p])->qD C H p ms->(ms.length<=6)->(∀H',aO H H'->Q (.bl true) H')->tZ K C vs H Q E
theorem aDf(tx:Txt K mg a):bT P w K mg base fS 1 a.vW a.vX kf (tZ K a.aY):=by
 refine tx.jb.F.ok aC7 (by walk_at "l") λbo A outer s H vs Q E hr h=>?_;obtain⟨p,ms,rfl ,hp,hl,k⟩:=h;have hu:=gZ hr;refine aZ (aE (bB (eJ (jH (eF (cN (aN (rc:=pO K) dA (by rfl) tx.bL bK (aA (aB 0) (aA (cM (v:=.ty "list") (by rfl) tx.gA fB rfl) aC))))) (jY (aW rB (aN (rc:=nQ K) cV (by rfl) tx.iV fT (aA (aB 0) aC)) (sF (n:=6) (by rfl) tx.m6) (bD _))))) (aG (aM fM)) bA)
  (aG (aM (aN (rc:=Fp K) (xP rfl) (by rfl) tx.Fv Mf (aA (cG (k:=1) (idx:=[]) (N:=bva) (cF (sc:=aJ kK) (NX:=kf) rfl rfl rfl (by decide +kernel)) rfl (bC (Y:=K) (aB 0)) (λ_ _ _ _=>(aK (i:=0) (show(bva:aj).Nodup by decide +kernel))) (cX (by decide)) (λ_ _ _ _=>bH) (λ_ _ _ _=>(aN (rc:=pO K) dA (by rfl) tx.bL bK (aA (aB 0) (aA (aDN (v:=.ref a.aY) (by rfl) tx.aFV rfl) aC))))) aC))))) ?_
 obtain⟨qs,h1,h2⟩:=hp.ex;have Xn:qs.length<=6:=by rw[h2.len];exact hl
 refine aU (U:=[A' p]) rfl ?_;rfl';refine dG (rM (.lst h1)) ?_;rfl';refine kE (λh=>by simp at h) (λ_=>?_);rfl';refine cE (λh=>by rw[bO] at h;lia) (λ_=>?_);rfl';refine eY (bP.of h1) ?_;refine Rz (λ_=>.bl true) (bP.of h1) (cA (by rw[bO];lia)) (λx N N' GB hN=>?_) ?_
 ·obtain⟨i,hi⟩:=ur GB;obtain⟨q,m,_,rfl,_,hm⟩:=h2.get hi;obtain⟨dx,pl,hx,_⟩:=hm.ex;rfl';refine dG (aJO tx.yd tx.cB hx) ?_;exact hN
 ·intro l1 n1;rfl';refine HF (bP.of aP) (λx hx=>by obtain⟨_,_,rfl⟩:=jQ.mp hx;rfl) ?_;exact k _ (aO.new n1)
inductive zD  (K:W.Frag) (CW CM CS:Addr) (vs:List V) (H:Hp) (Q:VK) (E:XK):Prop
 |mk:∀(x dx lm:Addr) (st:V) (W:WS),(vs=[.ref x,.ref lm,st,.int W.bj])->(H x=some (.ins CW dx []))->qD CM H lm W.specs->Fl CS H st W.store->(W.specs.length<=6)->Am W.bj->(∀H',gO CW CM CS H' x W->bX x H H'->Q .br H')->zD K CW CM CS vs H Q E
theorem aFg(tx:Txt K mg a):bT P w K mg base fS 3 a.sX a.aAQ aXa (zD K a.eC a.aY a.cJ):=by
 have aEA:=aDf (P:=P) (w:=w) (base:=base) tx;have eA:=nZ (P:=P) (w:=w) (base:=base) tx;refine tx.ky.F.ok lS (by walk_at "l") λbo A outer s H vs Q E hr h=>?_;obtain⟨x,dx,lm,st,W,rfl ,hx,hm,hs,hl,ha,k⟩:=h;have hu:=gZ hr;refine aZ (aE (aI (i:=4) lS.nd (aHA (dB FJ (aB 2) fD (bD _)) (fE (aN (rc:=pO K) dA (by rfl) tx.bL bK (aA (aB 2) (aA (aDN (v:=.ref a.cJ) (by rfl) tx.aJY rfl) aC))))))
  (aE (bN PassesOwn.never rfl (j7 (Y:=K) (by rfl) tx.gF (aA (xR (bg aEA hr tx.jb (aA (aB 1) aC)) (aB 4) (bg eA hr tx.bq (aA (aB 3) aC))) aC)) (bS (Y:=K) (n:=2) rfl (aR (aK (i:=5) lS.nd) (aR (aK (i:=6) lS.nd) bR))) (aG (bB (eF (cN (aB 6))) (aG mI) bA)))
  (aE (dC (Y:=K) (aB 0) (bV (rc:=jA K) eW (by rfl) tx.gA fB (aA (aB 1) aC)) rfl)
  (aE (dC (Y:=K) (aB 0) (aB 2) rfl)
  (aG (dC (Y:=K) (aB 0) (aB 3) rfl)))))) ?_
 refine aU (U:=[A' x,A' lm,some st,B' W.bj,none,none,none]) rfl ?_;refine fU (λU' H'=>U'=[A' x,A' lm,some st,B' W.bj,some (.bl true),none,none]/\H'=H) (λN hN=>?_) ?_
 ·cases e:W.store with
  |none=>
   rw[e] at hs
   replace hs:st=.br:=hs
   subst hs;rfl';exact hN _ _ ⟨rfl,rfl⟩
  |some s=>
   rw[e] at hs;obtain⟨b,rfl,hb⟩:=hs;obtain⟨db,yk⟩:=hb.ex;rfl';refine dG (aJO tx.BU tx.jO yk) ?_;rfl';exact hN _ _ ⟨rfl,rfl⟩
 rintro U' H' ⟨rfl,rfl⟩;rfl';refine⟨lm,W.specs,rfl,hm,hl,λH1 s1=>?_⟩;rfl';refine⟨_,_,rfl,.int _,?_⟩;rw[sZ ha];rfl';intro l1 n1;rfl';have s2:=s1.trans (aO.new (o:=.lst [.bl true,.bl true,.bl true]) n1);have e2:(upd H1 l1 (.lst [.bl true,.bl true,.bl true])) l1=some (.lst [.bl true,.bl true,.bl true]):=aP;generalize upd H1 l1 (.lst [.bl true,.bl true,.bl true])=H2 at s2 e2 ⊢;refine Fz (bP.of e2) ?_;refine xO (xs:=[.bl true,.bl true,.bl true]) (λi U' H3=>∃y z,U'=[A' x,A' lm,some st,B' W.bj,some (.bl true),y,z]/\aO H2 H3)
  ⟨_,_,rfl,aO.refl _⟩ (λi U' H3 hi ⟨y,z,e,s⟩=>bP.of (s _ _ e2)) (λi v U' H3 T hv Tv nT=>?_) (λU' H3 Tt=>?_)
 ·obtain⟨y,z,e,s⟩:=Tv;subst e;have ev:v=.bl true:=by
   have:=pM hv;simpa using this
  subst ev;refine dH (iF.of aP) rfl ?_;rfl';exact⟨_,_,rfl,s.trans (aO.new nT)⟩
 ·obtain⟨y,z,e,s⟩:=Tt;subst e;have sH:aO H' H3:=s2.trans s;have qf:=sH _ _ hx;obtain⟨qs,p1,p2⟩:=(hm.tr sH.tr).ex;rfl';refine iI (ys:=qs.map V.ref) (bP.of p1) ?_;intro l9 n9;have s9:=aO.new (o:=.lst (qs.map V.ref)) n9;have x9:=s9 _ _ qf;rfl';refine iJ (fs':=[("machines",.ref l9)]) x9 tx.lW tx.lM (by simp) rfl ?_;rfl';refine iJ (fs':=[("machines",.ref l9),("store",st)]) aP tx.lW tx.jI (by simp) rfl ?_;rw[iZ];rfl';refine iJ (fs':=Gh l9 st W.bj) aP tx.lW tx.aBd (by simp) rfl ?_;rw[iZ];rfl';have kx:bX x (upd H3 l9 (.lst (qs.map V.ref))) (upd (upd H3 l9 (.lst (qs.map V.ref))) x (.ins a.eC dx (Gh l9 st W.bj))):=bX.upd;have t9:Tr H3 (upd (upd H3 l9 (.lst (qs.map V.ref))) x (.ins a.eC dx (Gh l9 st W.bj))):=s9.tr.trans (ZN x9 kx);have l9x:l9≠x:=Ne.symm (bE n9 qf);refine k _ ⟨dx,l9,st,aP,⟨qs,kx _ _ aP l9x,p2.imp λ_ _ z=>z.tr t9⟩,hs.tr (sH.tr.trans t9)⟩ (λb o e nb=>kx _ _ (s9 _ _ (sH _ _ e)) nb)
inductive zE  (K:W.Frag) (vs:List V) (H:Hp) (Q:VK) (E:XK):Prop
 |mk:∀(p b:Addr) (x y:Int),(vs=[.ref p,.ref b])->bG H p->(H b=some (.lst [.int x,.int y]))->(1<=x)->(x<=50000000000)->(∀v (o:Option SS) H',Bq H' v o->(∀s,o=some s->s.Good)->(∀c,v=.ref c->H c=none)->bG H' p->bX p H H'->mM p H H'->Q v H')->zE K vs H Q E
theorem aFh(tx:Txt K mg a):bT P w K mg base fS 2 a.aAR a.aAS aia (zE K):=by
 have aS:=eI (P:=P) (w:=w) (base:=base) tx;refine tx.ko.F.ok lT (by walk_at "l") λbo A outer s H vs Q E hr h=>?_;obtain⟨p,b,x,y,rfl ,hh,hb,x0,x1,k⟩:=h;have hu:=gZ hr;refine aZ (aE (bB (aW (r:=iH K) (dJ hu) (bg aS hr tx.af (aA (aB 0) (aA aD aC))) aD (bD _)) (aG (aM fD)) bA)
  (aE (aI (i:=2) lT.nd (aL cC (aH (Y:=K) (aB 1) aD) (bg aS hr tx.af (aA (aB 0) (aA aD aC)))))
  (aE (aI (i:=3) lT.nd (aL bJ (aB 2) (aL cC (aH (Y:=K) (aB 1) aD) (bg aS hr tx.af (aA (aB 0) (aA aD aC))))))
  (aE (bB (aW (r:=iH K) (dJ hu) (bg aS hr tx.af (aA (aB 0) (aA aD aC))) aD (bD _)) (aG (aKU (i:=3) (j:=2) rfl lT.nd rfl rfl (by decide) rfl rfl (aA (aB 2) (aA (aB 3) aC)))) bA)
  (aG (aM (aJN (bg aS hr tx.af (aA (aB 0) (aA aD aC))) (bg aS hr tx.af (aA (aB 0) (aA aD aC))) (bg aS hr tx.af (aA (aB 0) (aA aD aC))) (aB 3) (aB 2)))))))) ?_
 have bp:b≠p:=hh.Cw hb (by simp);refine aU (U:=[A' p,A' b,none,none]) rfl ?_;rfl';refine⟨p,_,rfl,hh,by decide,by decide,λr1 H1 a1 b1 h1 k1 q1=>?_⟩;have OJ:=k1 _ _ hb bp;rfl';refine cE (λh=>?_) (λh=>?_)
 ·rfl';exact k _ none _ rfl (λs e=>by cases e) (λc e=>by cases e) h1 k1 q1
 ·rfl';refine⟨p,_,rfl,h1,by decide,by decide,λr2 H2 a2 b2 h2 k2 q2=>?_⟩;have XC:=k2 _ _ OJ bp;rfl';refine⟨p,_,rfl,h2,by decide,by decide,λr3 H3 a3 b3 h3 k3 q3=>?_⟩;have g2:0<=x*r2/\x*r2<=150000000000:=Cv x0 x1 a2 b2 (by decide);have g3:0<=x*r3/\x*r3<=50000000000:=Cv x0 x1 a3 b3 (by decide);repeat walk_at "st"
  refine fU (λU' H'=>∃g t:Int,U'=[A' p,A' b,B' g,B' t]/\Am g/\Am t/\bG H' p/\bX p H H'/\mM p H H') (λN hN=>?_) ?_
  ·rfl';refine⟨p,_,rfl,h3,by decide,by decide,λr4 H4 a4 b4 h4 k4 q4=>?_⟩;rfl';refine cE (λh=>?_) (λh=>?_)
   ·rfl';refine⟨_,_,rfl,?_⟩;exact hN _ _ ⟨_,_,rfl,⟨by lia,by lia⟩,⟨by lia,by lia⟩,h4,k1.trans (k2.trans (k3.trans k4)),q1.trans (q2.trans (q3.trans q4))⟩
   ·rfl';exact hN _ _ ⟨_,_,rfl,⟨by lia,by lia⟩,⟨by lia,by lia⟩,h4,k1.trans (k2.trans (k3.trans k4)),q1.trans (q2.trans (q3.trans q4))⟩
  ·rintro U' H4 ⟨g,t,rfl,hg,ht,h4,k4,q4⟩;rfl';refine⟨p,_,rfl,h4,by decide,by decide,λr5 H5 a5 b5 h5 k5 q5=>?_⟩;rfl';refine⟨p,_,rfl,h5,by decide,by decide,λr6 H6 a6 b6 h6 k6 q6=>?_⟩;rfl';refine⟨p,_,rfl,h6,by decide,by decide,λr7 H7 a7 b7 h7 k7 q7=>?_⟩;rfl';intro c nc;have kk:=k4.trans (k5.trans (k6.trans k7));have qq:=q4.trans (q5.trans (q6.trans q7));refine k (.ref c) (some ⟨r5,r6,r7,t,g⟩) _ ⟨c,rfl,⟨aP⟩⟩ (λs e=>?_) (λc' e=>by cases e;exact mN kk h7 nc) (h7.same (aO.new nc)) (kk.trans (aO.new nc).keep) (qq.trans (mM.of (aO.new nc p)));cases e;exact⟨⟨a5,by show r5<=8;lia⟩,⟨a6,by show r6<=8;lia⟩,⟨a7,by show r7<=8;lia⟩,ht,hg⟩
theorem aIf{l:Addr}{H H2:Hp}(h:H l=none)(s:aO H H2):aO H (del l H2):=λb o e=>by rw[DX (bE h e)];exact s b o e
theorem aJs{α:Type}{l:List α}{x:α}(h:l.Nodup)(n:x∉l):(l ++ [x]).Nodup:=by
 rw[List.nodup_append];refine⟨h,by simp,λa ha b hb z=>?_⟩;rw[jy.mp hb] at z;exact n (by rw[<-z];exact ha)
theorem ZL:Am (10 ^ (12:Int).toNat):=⟨by decide,by decide⟩
theorem bG.upR{H H':Hp}{p l:Addr}{qs:ao}(hh:bG H p)(hl:H l=some (.lst (qs.map V.ref)))(k:bX l H H'):bG H' p:=by
 obtain⟨d,c,q,ms,hp,hq,cj,zc⟩:=hh.ex;refine⟨⟨d,c,q,ms,k _ _ hp (Ne.symm (hh.P8 hl)),k _ _ hq (λz=>?_),cj,zc⟩⟩;rw[z,hl] at hq;cases ms with
 |nil=>exact cj rfl
 |cons m ms=>
  cases qs with
  |nil=>cases hq
  |cons _ _=>cases hq
theorem Rh(n:Nat):rb (n+1) (-1)=some n:=by
 unfold rb;rw[cU (by lia),dO (by lia)];congr 1;lia
theorem RL.set{α:Type}{P:Addr->α->Prop}{as:ao}{xs:List α}(h:RL P as xs){i:Nat}{a:Addr}{x:α}(hp:P a x):RL P (as.set i a) (xs.set i x):=by
 refine⟨by rw[D4,D4,h.len],λj q u hq hu=>?_⟩;rw[List.getElem?_set] at hq hu;by_cases e:i=j
 ·rw[dO e] at hq hu;split at hq
  ·split at hu
   ·cases hq;cases hu;exact hp
   ·cases hu
  ·cases hq
 ·rw[cU e] at hq hu;exact h.at_ j q u hq hu
theorem aIg{ms:List MS}{i:Nat}{m:MS}(h:∀m∈ms,m.Good)(g:m.Good):∀m'∈ms.set i m,m'.Good:=λm' hm=>by
 rcases List.mem_or_eq_of_mem_set hm with h1|h1
 ·exact h m' h1
 ·rw[h1];exact g
theorem aLh{u d b r t l:Int}{pl:Addr}{ms:ae}(h:some (HO.lst [.int u,.int d,.int b,.int r,.int t,.int l,.ref pl])=some (HO.lst (ms.map V.int))):False:=by
 injection h with h
 injection h with h
 have z:(ms.map V.int)[6]?=some (.ref pl):=by rw[<-h];rfl
 rw[lB] at z;obtain⟨n,_,e⟩:=mw.mp z;cases e
theorem aNg{n:Nat}{k:Int}(h0:0<=k)(h:k.toNat < n):rb n k=some k.toNat:=by
 obtain⟨j,rfl⟩:=Ib h0;unfold rb;rw[dO h0,dO (by lia)]
theorem MS.aRo(m:MS)(g:m.Good){v r:Int}(av:Am v)(r0:0<=r)(r1:r < 4)(pl:Addr):∃m':MS,[V.int m.up,.int m.down,.int m.begin_,.int m.run,.int m.rest,.int m.least,.ref pl].set (2+r).toNat (.int v)=[V.int m'.up,.int m'.down,.int m'.begin_,.int m'.run,.int m'.rest,.int m'.least,.ref pl]/\m'.Good/\m'.pieces=m.pieces:=by
 rcases(show r=0\/r=1\/r=2\/r=3 by lia) with rfl|rfl|rfl|rfl
 ·exact⟨{ m with begin_:=v },rfl,⟨g.up,g.down,av,g.run,g.rest,g.least,g.pieces⟩,rfl⟩
 ·exact⟨{ m with run:=v },rfl,⟨g.up,g.down,g.begin_,av,g.rest,g.least,g.pieces⟩,rfl⟩
 ·exact⟨{ m with rest:=v },rfl,⟨g.up,g.down,g.begin_,g.run,av,g.least,g.pieces⟩,rfl⟩
 ·exact⟨{ m with least:=v },rfl,⟨g.up,g.down,g.begin_,g.run,g.rest,av,g.pieces⟩,rfl⟩
inductive pG  (K:W.Frag) (vs:List V) (H:Hp) (Q:VK) (E:XK):Prop
 |mk:∀(p:Addr) (n:Int),(vs=[.ref p,.int n])->bG H p->(0<=n)->(n<=6)->(∀(s:Addr) (W:WS) H',jP H' s W->W.Good->bG H' p->bX p H H'->H s=none->Q (.ref s) H')->pG K vs H Q E
theorem aAh(tx:Txt K mg a):bT P w K mg base fS 4 a.pY a.pZ bfa (pG K):=by
 have aS:=eI (P:=P) (w:=w) (base:=base) tx;have zF:=aEr (P:=P) (w:=w) (base:=base) tx;have aIh:=aGM (P:=P) (w:=w) (base:=base) tx;have aGV:=aFh (P:=P) (w:=w) (base:=base) tx;refine tx.fg.F.ok cT (by walk_at "l") λbo A outer s H vs Q E hr h=>?_;obtain⟨p,n,rfl ,hh,n0,n1,k⟩:=h;have hu:=gZ hr;refine aZ (aE (oG (i:=2) cT.nd rfl (Or.inr rfl) (nR (bg zF hr tx.fo (aA (aB 0) aC)) (bg zF hr tx.fo (aA (aB 0) aC))))
  (aE (oG (i:=3) cT.nd rfl (Or.inr rfl) (bV Ry (by rfl) tx.CD FO (aA (dB (r:=iH K) (dJ hu) (bg aS hr tx.af (aA (aB 0) (aA aD aC))) aD (bD _)) aC)))
  (aE (aI (i:=4) cT.nd (bg aS hr tx.af (aA (aB 0) (aA (aH (Y:=K) (nR (aL bJ (aB 1) aD) aD) (aB 3)) aC))))
  (aE (eO (k:=1) (idx:=[2,0,3]) (N:=bCa) (i:=5) cT.nd rfl (Or.inl rfl) (cF (sc:=aJ iC) (NX:=aRa) rfl rfl rfl (by decide +kernel)) rfl (cO (by rfl) tx.eU (aA (aB 4) aC)) (λ_ _ _ _=>(aK (i:=0) (show(bCa:aj).Nodup by decide +kernel))) (cX (by decide)) (λ_ _ _ _=>bH) (λ_ _ _ _=>(bg aIh hr tx.mz (aA (aB 2) (aA (aB 1) (aA (aH (Y:=K) (nR aD aD) (aB 3)) aC))))))
  (aE (bB (eJ (hJ (aW (r:=Bn K) (FL hu) (aB 5) (j0 aC) (bD _)) (gH (aW (r:=iH K) (dJ hu) (bg aS hr tx.af (aA (aB 0) (aA aD aC))) aD (bD _))))) (aG (lG (aL Hw aD aD) (oF (aH (Y:=K) (aB 5) aD) (aL bJ aD (bg aS hr tx.af (aA (aB 0) (aA aD aC)))) set_list))) bA)
  (aE (bB (eJ (hJ (aW (r:=Bn K) (FL hu) (aB 5) (j0 aC) (bD _)) (gH (aW (r:=iH K) (dJ hu) (bg aS hr tx.af (aA (aB 0) (aA aD aC))) aD (bD _))))) (aG (lG (aH (Y:=K) (aB 5) aD) (oF (aB 5) (mG uS aD) set_list))) bA)
  (aE (aI (i:=6) cT.nd (bg aGV hr tx.ko (aA (aB 0) (aA (aB 2) aC))))
  (aE (aI (i:=7) cT.nd (aL cC (aH (Y:=K) (aB 2) aD) (bg aS hr tx.af (aA (aB 0) (aA aD aC)))))
  (aE (bB (eJ (hJ (aW (r:=iH K) (dJ hu) (aB 3) aD (bD _)) (gH (aW Rx (aB 6) fD (bD _))))) (aG (aI (i:=6) cT.nd (aL bJ (xR (bg aS hr tx.af (aA (aB 0) (aA aD aC))) (bg aS hr tx.af (aA (aB 0) (aA aD aC))) (bg aS hr tx.af (aA (aB 0) (aA aD aC)))) (jZ (rs:=Cr K) Fq (aB 6) (lF aD) lE)))) bA)
  (aE (bB (eJ (hJ (aW (r:=iH K) (dJ hu) (aB 3) aD (bD _)) (gH (aW (r:=iH K) (dJ hu) (bg aS hr tx.af (aA (aB 0) (aA aD aC))) aD (bD _))))) (aG (aI (i:=7) cT.nd (aL Hw aD aD))) bA)
  (aG (aM (aJN (aB 5) (aB 6) (aB 7) (aB 2) (aB 3)))))))))))))) ?_
 refine aU (U:=[A' p,B' n,none,none,none,none,none,none]) rfl ?_;rfl';refine⟨p,rfl,hh,λx H1 x0 x1 h1 k1 _=>?_⟩;rfl';refine⟨p,rfl,h1,λy H2 y0 y1 h2 k2 _=>?_⟩;rfl';intro b nb;obtain⟨H3,e3,sb,OI⟩:=nw _ nb;rw[e3];have h3:=h2.same sb;have K3:bX p H H3:=k1.trans (k2.trans sb.keep);have nbH:H b=none:=mN (k1.trans k2) h2 nb;have bp:b≠p:=hh.Pe nbH;rfl';refine⟨p,_,rfl,h3,by decide,by decide,λr4 H4 a4 b4 h4 k4 _=>?_⟩;rfl';obtain⟨wd,hwd,Ek⟩ : ∃wd:Int,(if decide (r4=7)=true then (1:Int) else 0)=wd/\(wd=0\/wd=1):=by
  by_cases h:r4=7
  ·exact⟨1,by rw[dO (mv h)],.inr rfl⟩
  ·exact⟨0,by rw[cU (by simpa using h)],.inl rfl⟩
 rw[hwd];rfl';have OH:=k4 _ _ OI bp;have K4:=K3.trans k4;intro l1 NI;obtain⟨H5,e5,s5,g5⟩:=nw _ NI;rw[e5];obtain⟨M,hM,M0,M1⟩ : ∃M:Int,pP [V.int (n+1),.int 7] wd=some (.int M)/\1<=M/\M<=7:=by
  rcases Ek with rfl|rfl
  ·exact⟨n+1,rfl,by lia,by lia⟩
  ·exact⟨7,rfl,by decide,by decide⟩
 have OG:=s5 _ _ OH;have h5:=h4.same s5;have K5:=K4.trans (s5.keep (p:=p));rfl';refine⟨p,_,rfl,h5,by lia,by lia,λmany H6 m0 m1 h6 k6 _=>?_⟩;have OF:=k6 _ _ OG bp;have K6:=K5.trans k6;repeat walk_at "st"
 refine fU (λU' H'=>∃(l:Addr) (qs:ao) (ms:List MS),U'=[A' p,B' n,A' b,B' wd,B' many,A' l,none,none]/\H' l=some (.lst (qs.map V.ref))/\qs.length<=6/\RL (dS (del l H')) qs ms/\(∀m∈ms,m.Good)/\H' b=some (.lst [.int x,.int y])/\bG H' p/\bX p H H'/\H l=none/\b≠l/\l≠p/\qs.Nodup/\∀q∈qs,H q=none) (λN hN=>?_) ?_
 ·rfl';refine⟨by lia,by lia,?_⟩;refine iG (λi us H'=>∃(qs:ao) (ms:List MS),us=qs.map V.ref/\qs.length=i/\RL (dS H') qs ms/\(∀m∈ms,m.Good)/\H' b=some (.lst [.int x,.int y])/\bG H' p/\bX p H H'/\qs.Nodup/\∀q∈qs,H q=none) ⟨[],[],rfl,rfl,RL.nil,(λm h=>by cases h),OF,h6,K6,List.nodup_nil,λq h=>by cases h⟩ (cA (by lia))
   (λi us H' hi ⟨qs,ms,f1,f2,f3,f4,f5,f6,f7,f8,f9⟩=>by rw[f1,bO];lia) (λi us H' hi Tq=>?_) (λus H' Tp=>?_)
  ·obtain⟨qs,ms,f1,f2,f3,f4,f5,f6,f7,f8,f9⟩:=Tq;obtain⟨L,hL,L0,L1⟩ : ∃L:Int,pP [V.int 3,.int 12] wd=some (.int L)/\1<=L/\L<=12:=by
    rcases Ek with rfl|rfl
    ·exact⟨3,rfl,by decide,by decide⟩
    ·exact⟨12,rfl,by decide,by decide⟩
   rfl';intro l2 yh;obtain⟨H7,e7,s7,g7⟩:=nw _ yh;rw[e7];rfl';refine⟨p,b,x,y,L,rfl,f6.same s7,s7 _ _ f5,x0,x1,y0,y1,L0,L1,λs m H8 hs gm _ _ h8 k8 nA=>?_⟩;have nds:(qs ++ [s]).Nodup:=aJs f8 λz=>by
    obtain⟨j,hj⟩:=ur z;have Bb:j < ms.length:=by rw[<-f3.len];exact(mT.mp hj).1
    obtain⟨Gs,qa,_⟩:=(f3.at_ j s _ hj (eQ Bb)).ex;rw[s7 _ _ qa] at nA;cases nA
   have nj:∀q∈qs ++ [s],H q=none:=λq hq=>by
    rcases nz.mp hq with z|z
    ·exact f9 q z
    ·rw[jy.mp z];exact mN (f7.trans s7.keep) (f6.same s7) nA
   refine⟨qs ++ [s],ms ++ [m],by rw[f1,jF];rfl,by rw[jE,f2];rfl,(f3.imp λa x z=>z.tr (s7.tr.trans ((f6.same s7).tr k8))).snoc hs,λm' hm'=>?_,k8 _ _ (s7 _ _ f5) bp,h8,f7.trans (s7.keep.trans k8),nds,nj⟩;rcases nz.mp hm' with h|h
   ·exact f4 m' h
   ·rw[jy.mp h];exact gm
  ·obtain⟨qs,ms,f1,f2,f3,f4,f5,f6,f7,f8,f9⟩:=Tp;subst f1;intro l nl;obtain⟨H7,e7,sl,g7⟩:=nw _ nl;rw[e7];have ER:H l=none:=mN f7 f6 nl;rfl';exact hN _ _ ⟨l,qs,ms,rfl,g7,by lia,f3.imp λa x z=>z.same (aIf nl sl),f4,sl _ _ f5,f6.same sl,f7.trans sl.keep,ER,bE nl f5,hh.Pe ER,f8,f9⟩
 rintro σ7 H7 ⟨l,Di,Dm,rfl,hl7,NO,rl7,K0,OE,h7,K7,ER,bl,lp,nd7,fr7⟩;refine fU (λU' H'=>∃(qs:ao) (ms:List MS),U'=[A' p,B' n,A' b,B' wd,B' many,A' l,none,none]/\H' l=some (.lst (qs.map V.ref))/\qs.length<=6/\RL (dS (del l H')) qs ms/\(∀m∈ms,m.Good)/\H' b=some (.lst [.int x,.int y])/\bG H' p/\bX p H H') (λN hN=>?_) ?_
 ·rfl';intro f1 NJ;obtain⟨H8,e8,yy,g8⟩:=nw _ NJ;rw[e8];have GJ:=yy _ _ hl7;have h8:=h7.same yy;have KQ:=yy _ _ OE;have K8:=K7.trans (yy.keep (p:=p));have Kg:RL (dS (del l H8)) Di Dm:=rl7.imp λa x z=>z.tr yy.tr.del;rfl';refine⟨_,Q0 (bP.of GJ) (bP.of g8),?_⟩;rfl';refine kE (λcj=>?_) (λcj=>?_)
  ·have A9:Di≠[]:=λz=>by rw[z] at cj;simp at cj
   rfl';refine⟨p,_,rfl,h8,by decide,by decide,λr9 H9 a9 b9 h9 k9 _=>?_⟩;have Dw:=k9 _ _ GJ lp;have AF:=k9 _ _ KQ bp;have K9:=K8.trans k9;have B5:RL (dS (del l H9)) Di Dm:=Kg.imp λa x z=>z.tr (h8.tr k9).del;rfl';refine cE (λKG=>?_) (λKG=>?_)
   ·obtain⟨q0,qr,rfl⟩ : ∃q0 qr,Di=q0::qr:=by
     cases Di with
     |nil=>exact absurd rfl A9
     |cons q0 qr=>exact⟨q0,qr,rfl⟩
    have EW:0 < Dm.length:=by rw[<-B5.len];exact Nat.zero_lt_succ _
    obtain⟨uy,mr,rfl⟩ : ∃uy mr,Dm=uy::mr:=by
     cases Dm with
     |nil=>exact absurd EW (ua _)
     |cons a r=>exact⟨a,r,rfl⟩
    have KD:=B5.at_ 0 q0 uy rfl rfl;have g0:=K0 uy (pz ..);rfl';refine QM (bP.of Dw) (eB (j:=0) rfl) ?_;rfl';refine⟨p,_,rfl,h9,by decide,by decide,λKj yx DY b10 ym uk _=>?_⟩;have xw:=uk _ _ Dw lp;have vj:=uk _ _ AF bp;have Gb:=K9.trans uk;have vg:RL (dS (del l yx)) (q0::qr) (uy::mr):=B5.imp λa x z=>z.tr (h9.tr uk).del;have Vg:=vg.at_ 0 q0 uy rfl rfl;obtain⟨Km,Dt,IQ⟩:=Vg.ex;have WG:q0≠l:=λz=>by rw[z,Fu] at Dt;cases Dt
    have Ag:=wZ _ _ Dt;have q0p:q0≠p:=ym.Cw Ag (by simp);have q0b:b≠q0:=λz=>by rw[<-z,vj] at Ag;cases Ag
    rfl';refine sC (j:=(2+Kj).toNat) Ag (aNg (by lia) (by show(2+Kj).toNat < 7;lia)) ?_;obtain⟨v12,IM⟩ : ∃v:Int,v=10 ^ (12:Int).toNat:=⟨_,rfl⟩
    rw[<-IM];have av:Am v12:=by rw[IM];exact ZL
    obtain⟨mm,emm,gmm,epc⟩:=MS.aRo uy g0 av DY b10 Km;rw[emm];obtain⟨Gd,EY,pj,NY⟩:=wr yx q0 _;rw[EY];have UM:Km≠q0:=λz=>by
     obtain⟨Aw,e',_⟩:=IQ.ex;rw[z,Dt] at e';cases Aw with
     |nil=>cases e'
     |cons _ _=>cases e'
    have kd:∀d o,del l yx d=some o->d≠q0->del l Gd d=some o:=λd o e n=>by
     have nl':d≠l:=λz=>by rw[z,Fu] at e;cases e
     rw[DX nl'] at e ⊢;exact pj _ _ e n
    have Vk:yA (del l Gd) Km uy.pieces:=by
     obtain⟨Aw,e',t'⟩:=IQ.ex;exact⟨Aw,kd _ _ e' UM,t'.len,λj q t h1 h2=>kd _ _ (t'.at_ j q t h1 h2) λz=>by have y:=t'.at_ j q t h1 h2;rw[z,Dt] at y;cases y⟩
    have ic:dS (del l Gd) q0 mm:=⟨Km,mO NY WG,by rw[epc];exact Vk⟩
    rfl';refine hN _ _ ⟨q0::qr,mm::mr,rfl,pj _ _ xw (Ne.symm WG),NO,⟨by have:=vg.len;simpa using this,λj a z h1 h2=>?_⟩,aIg (i:=0) K0 gmm,pj _ _ vj q0b,?_,λd o e nd=>pj _ _ (Gb _ _ e nd) (bE (fr7 q0 (.head _)) e)⟩
    ·match j,h1,h2 with
     |0,h1,h2=>cases h1;cases h2;exact ic
     |j+1,h1,h2=>
      have hx:=vg.at_ (j+1) a z h1 h2;have aq:a≠q0:=λy=>(va.mp nd7).1 (by rw[<-y];exact pM h1);obtain⟨WJ,e1',Vl⟩:=hx.ex;obtain⟨Aw,Ci,t'⟩:=Vl.ex;have p1q:WJ≠q0:=λy=>by
       rw[y,Dt] at Ci;cases Aw with
       |nil=>cases Ci
       |cons _ _=>cases Ci
      exact⟨WJ,kd _ _ e1' aq,Aw,kd _ _ Ci p1q,t'.len,λj q t h1 h2=>kd _ _ (t'.at_ j q t h1 h2) λy=>by have w:=t'.at_ j q t h1 h2;rw[y,Dt] at w;cases w⟩
    ·obtain⟨dd,cc,qq,mms,xc,qa,Vo,Vi⟩:=ym.ex;refine⟨⟨dd,cc,qq,mms,pj _ _ xc (Ne.symm q0p),pj _ _ qa (λy=>?_),Vo,Vi⟩⟩;rw[y,Ag] at qa;exact aLh qa
   ·rfl';exact hN _ _ ⟨Di,Dm,rfl,Dw,NO,B5,K0,AF,h9,K9⟩
  ·rfl';exact hN _ _ ⟨Di,Dm,rfl,GJ,NO,Kg,K0,KQ,h8,K8⟩
 rintro σ8 H8 ⟨Dh,ES,rfl,GJ,NN,Kg,KZ,KQ,h8,K8⟩;refine fU (λU' H'=>∃(ms:List MS),U'=[A' p,B' n,A' b,B' wd,B' many,A' l,none,none]/\tE H' l ms/\ms.length<=6/\(∀m∈ms,m.Good)/\H' b=some (.lst [.int x,.int y])/\bG H' p/\bX p H H') (λN hN=>?_) ?_
 ·rfl';intro f1 NJ;obtain⟨H9,e9,yy,g9⟩:=nw _ NJ;rw[e9];have Dw:=yy _ _ GJ;have h9:=h8.same yy;have AF:=yy _ _ KQ;have K9:=K8.trans (yy.keep (p:=p));have B5:RL (dS (del l H9)) Dh ES:=Kg.imp λa x z=>z.tr yy.tr.del;have BG:=B5.len;rfl';refine⟨_,Q0 (bP.of Dw) (bP.of g9),?_⟩;rfl';refine kE (λcj=>?_) (λcj=>?_)
  ·have A9:Dh≠[]:=λz=>by rw[z] at cj;simp at cj
   rfl';refine⟨p,_,rfl,h9,by decide,by decide,λr9 yx a9 b9 ym uk _=>?_⟩;have xw:=uk _ _ Dw lp;have vj:=uk _ _ AF bp;have Gb:=K9.trans uk;have vg:RL (dS (del l yx)) Dh ES:=B5.imp λa x z=>z.tr (h9.tr uk).del;rfl';refine cE (λKG=>?_) (λKG=>?_)
   ·obtain⟨q0,qr,rfl⟩ : ∃q0 qr,Dh=q0::qr:=by
     cases Dh with
     |nil=>exact absurd rfl A9
     |cons q0 qr=>exact⟨q0,qr,rfl⟩
    obtain⟨uy,mr,rfl⟩ : ∃uy mr,ES=uy::mr:=by
     cases ES with
     |nil=>cases BG
     |cons a r=>exact⟨a,r,rfl⟩
    have KD:=vg.at_ 0 q0 uy rfl rfl;rfl';refine QM (bP.of xw) (eB (j:=0) rfl) ?_;rfl';refine sC (j:=qr.length) xw (by rw[bO,qh];exact Rh _) ?_;obtain⟨Gd,EY,pj,NY⟩:=wr yx l _;rw[EY];have dl:del l Gd=del l yx:=by rw[<-EY,aJ2]
    have BI:=vg.set (i:=qr.length) KD;rfl';refine hN _ _ ⟨(uy::mr).set qr.length uy,rfl,⟨(q0::qr).set qr.length q0,?_,BI.imp λa x z=>((dl▸z:dS (del l Gd) a x)).same wZ⟩,by rw[D4,<-BG];exact NN,aIg KZ (KZ uy (pz ..)),pj _ _ vj bl,ym.upR xw pj,λd o e nd=>pj _ _ (Gb _ _ e nd) (bE ER e)⟩;rw[NY,List.map_set]
   ·rfl';exact hN _ _ ⟨ES,rfl,⟨Dh,xw,vg.imp λa x z=>z.same wZ⟩,by rw[<-BG];exact NN,KZ,vj,ym,Gb⟩
  ·rfl';exact hN _ _ ⟨ES,rfl,⟨Dh,Dw,B5.imp λa x z=>z.same wZ⟩,by rw[<-BG];exact NN,KZ,AF,h9,K9⟩
 rintro σ9 H9 ⟨NL,rfl,sp9,ln9,gd9,AF,h9,K9⟩;rfl';refine⟨p,b,x,y,rfl,h9,AF,x0,x1,λv o yx Uu Ez a0z ym uk _=>?_⟩;have Ia:=h9.tr uk;have Uw:=sp9.tr Ia;have vj:=uk _ _ AF bp;have Gb:=K9.trans uk;rfl';refine⟨p,_,rfl,ym,by decide,by decide,λNv Il HI b11 Fc pj _=>?_⟩;have F6:=ym.tr pj;have Ei:=Uw.tr F6;have zx:=Uu.tr F6;have Ew:=pj _ _ vj bp;have Ik:=Gb.trans pj;have Lc:0<=y*Nv/\y*Nv<=550000000000:=Cv y0 y1 HI b11 (by decide);repeat walk_at "st"
 refine fU (λU' H'=>∃(v:V) (o:Option SS),U'=[A' p,B' n,A' b,B' wd,B' many,A' l,some v,B' (y*Nv)]/\tE H' l NL/\Bq H' v o/\(∀s,o=some s->s.Good)/\H' b=some (.lst [.int x,.int y])/\bG H' p/\bX p H H') (λN hN=>?_) ?_
 ·rfl';refine cE (λDr=>?_) (λDr=>?_)
  ·cases o with
   |none=>
    replace zx:v=.br:=zx
    subst zx;rfl';exact hN _ _ ⟨_,none,rfl,Ei,rfl,Ez,Ew,Fc,Ik⟩
   |some s=>
    obtain⟨c,rfl,hc⟩:=zx;have gs:=Ez s rfl;rfl';refine⟨p,_,rfl,Fc,by decide,by decide,λu1 R7 RP b12 Bh W9 _=>?_⟩;rfl';refine⟨p,_,rfl,Bh,by decide,by decide,λu2 R6 MD YV zh za _=>?_⟩;rfl';refine⟨p,_,rfl,zh,by decide,by decide,λu3 H14 a14 b14 Fb W8 _=>?_⟩;have R0:=(Fc.tr W9).trans ((Bh.tr za).trans (zh.tr W8));have Vz:=(hc.tr R0).at_;rfl';intro c1 nc1;obtain⟨J1,i1,t1,j1⟩:=nw _ nc1;rw[i1];have Vy:=t1 _ _ Vz;rfl';refine uY (bP.of Vy) ?_;rw[show nM [V.int s.cm,.int s.into,.int s.out,.int s.takes,.int s.gives] (some 3) none=[.int s.takes,.int s.gives] from rfl];intro c2 nc2;obtain⟨J2,i2,t2,j2⟩:=nw _ nc2;rw[i2];rfl';refine sD (t2 _ _ j1) j2 (cA (by simp)) ?_;intro c3 nc3;obtain⟨J3,i3,t3,j3⟩:=nw _ nc3;rw[i3];have tt:=t1.trans (t2.trans t3);rfl';refine hN _ _ ⟨_,some ⟨u1,u2,u3,s.takes,s.gives⟩,rfl,Ei.tr (R0.trans tt.tr),⟨c3,rfl,⟨j3⟩⟩,λs' e=>?_,(R0.trans tt.tr) _ _ Ew (pF (by simp)),Fb.same tt,Ik.trans (W9.trans (za.trans (W8.trans tt.keep)))⟩
    cases e;exact⟨⟨RP,by show u1<=8;lia⟩,⟨MD,by show u2<=8;lia⟩,⟨a14,by show u3<=8;lia⟩,gs.takes,gs.gives⟩
  ·rfl';exact hN _ _ ⟨v,o,rfl,Ei,zx,Ez,Ew,Fc,Ik⟩
 rintro σ12 R7 ⟨v,o,rfl,Eh,Eg,VH,Eu,Bh,Ij⟩;refine fU (λU' H'=>∃(lk:Int),U'=[A' p,B' n,A' b,B' wd,B' many,A' l,some v,B' lk]/\Am lk/\tE H' l NL/\Bq H' v o/\H' b=some (.lst [.int x,.int y])/\bG H' p/\bX p H H') (λN hN=>?_) ?_
 ·rfl';refine cE (λDr=>?_) (λDr=>?_)
  ·rfl';refine⟨p,_,rfl,Bh,by decide,by decide,λu1 R6 MD YV zh za _=>?_⟩;have MW:=Bh.tr za;rfl';refine cE (λhz=>?_) (λhz=>?_)
   ·rfl';exact hN _ _ ⟨_,rfl,ZL,Eh.tr MW,Eg.tr MW,za _ _ Eu bp,zh,Ij.trans za⟩
   ·rfl';exact hN _ _ ⟨_,rfl,⟨Lc.1,by lia⟩,Eh.tr MW,Eg.tr MW,za _ _ Eu bp,zh,Ij.trans za⟩
  ·rfl';exact hN _ _ ⟨_,rfl,⟨Lc.1,by lia⟩,Eh,Eg,Eu,Bh,Ij⟩
 rintro σ13 R6 ⟨lk,rfl,alk,Uv,Ut,VA,zh,K13⟩;rfl';intro s ns;obtain⟨J,i,t,j⟩:=nw _ ns;rw[i];rfl';exact k s ⟨NL,o,lk,x,y,wd⟩ J ⟨l,v,b,j,Uv.tr t.tr,Ut.tr t.tr,t _ _ VA⟩ ⟨gd9,ln9,VH,alk,⟨x0,x1⟩,⟨y0,y1⟩,Ek⟩ (zh.same t) (K13.trans t.keep) (mN K13 zh ns)
theorem aO8{K:W.Frag}{H:Hp}{n:Nat}{pl Gs:Addr}{ps ly:ay}(h:yA H pl ps)(h':yA H Gs ly):∃b,vd K H (n+2) (.ref pl) (.ref Gs) b/\(b=true->ps=ly):=by
 obtain⟨qs,h1,h2⟩:=h.ex;obtain⟨Aw,Bi,vq⟩:=h'.ex;refine⟨_,.inr ⟨pl,Gs,_,_,λj=>(2 == 2 && (List.range 2).all λi=>match ps[j]?,ly[j]? with|some t,some t'=>(match i with|0=>decide (t.1=t'.1)|_=>decide (t.2=t'.2))|_,_=>true),rfl,rfl,.inl ⟨bP.of h1,bP.of Bi⟩,λj u v hu hv=>?_,rfl⟩,λhb=>?_⟩
 ·rw[lB] at hu hv;cases e1:qs[j]? with
  |none=>rw[e1] at hu;cases hu
  |some q=>
   cases e2:Aw[j]? with
   |none=>rw[e2] at hv;cases hv
   |some q'=>
    rw[e1] at hu;rw[e2] at hv;cases hu;cases hv;have l1:j < ps.length:=by rw[<-h2.len];exact(mT.mp e1).1
    have l2:j < ly.length:=by rw[<-vq.len];exact(mT.mp e2).1
    have t1:=h2.at_ j q _ e1 (eQ l1);have t2:=vq.at_ j q' _ e2 (eQ l2);refine .inr ⟨q,q',_,_,λi=>match ps[j]?,ly[j]? with|some t,some t'=>(match i with|0=>decide (t.1=t'.1)|_=>decide (t.2=t'.2))|_,_=>true,rfl,rfl,.inr ⟨iF.of t1,iF.of t2⟩,λi u v hu hv=>?_,rfl⟩;rw[eQ l1,eQ l2]
    match i,hu,hv with
    |0,hu,hv=>
     cases hu;cases hv;cases n with
     |zero=>exact⟨rfl,rfl,rfl⟩
     |succ n=>exact .inl ⟨rfl,rfl,rfl⟩
    |1,hu,hv=>
     cases hu;cases hv;cases n with
     |zero=>exact⟨rfl,rfl,rfl⟩
     |succ n=>exact .inl ⟨rfl,rfl,rfl⟩
    |_+2,hu,_=>simp at hu
 ·rw[xp,D7] at hb;obtain⟨b1,b2⟩:=hb;have hl:ps.length=ly.length:=by
   have:=beq_iff_eq.mp b1;rw[bO,bO,h2.len,vq.len] at this;exact this
  refine List.ext_getElem hl λj l1 l2=>?_;have c:=b2 j (zp.mpr (by rw[bO,h2.len];exact l1));rw[xp,D7] at c;have c0:=c.2 0 (by simp);have c1:=c.2 1 (by simp);simp only[eQ l1,eQ l2] at c0 c1;exact Prod.ext (ud c0) (ud c1)
theorem aNh{K:W.Frag}{H:Hp}{s t:Addr}{m m':MS}(h1:dS H s m)(h2:dS H t m'):∃b,vd K H 8 (.ref s) (.ref t) b/\(b=true->m=m'):=by
 obtain⟨pl,e1,p1⟩:=h1.ex;obtain⟨Gs,e2,p2⟩:=h2.ex;obtain⟨bp,hbp,ep⟩:=aO8 (K:=K) (n:=5) p1 p2;refine⟨_,.inr ⟨s,t,_,_,λj=>match j with|0=>decide (m.up=m'.up)|1=>decide (m.down=m'.down)|2=>decide (m.begin_=m'.begin_)|3=>decide (m.run=m'.run)|4=>decide (m.rest=m'.rest)|5=>decide (m.least=m'.least)|_=>bp,rfl,rfl,.inl ⟨bP.of e1,bP.of e2⟩,λj u v hu hv=>?_,rfl⟩,λhb=>?_⟩
 ·match j,hu,hv with
  |0,hu,hv=>cases hu;cases hv;exact .inl ⟨rfl,rfl,rfl⟩
  |1,hu,hv=>cases hu;cases hv;exact .inl ⟨rfl,rfl,rfl⟩
  |2,hu,hv=>cases hu;cases hv;exact .inl ⟨rfl,rfl,rfl⟩
  |3,hu,hv=>cases hu;cases hv;exact .inl ⟨rfl,rfl,rfl⟩
  |4,hu,hv=>cases hu;cases hv;exact .inl ⟨rfl,rfl,rfl⟩
  |5,hu,hv=>cases hu;cases hv;exact .inl ⟨rfl,rfl,rfl⟩
  |6,hu,hv=>cases hu;cases hv;exact hbp
  |_+7,hu,_=>simp at hu
 ·rw[xp,D7] at hb;have q:=λj (hj:j < 7)=>hb.2 j (zp.mpr hj);have c0:=ud (q 0 (by decide));have c1:=ud (q 1 (by decide));have c2:=ud (q 2 (by decide));have c3:=ud (q 3 (by decide));have c4:=ud (q 4 (by decide));have c5:=ud (q 5 (by decide));have c6:=ep (q 6 (by decide));obtain⟨u1,u2,u3,u4,u5,u6,u7⟩:=m;obtain⟨v1,v2,v3,v4,v5,v6,v7⟩:=m';simp only[MS.mk.injEq];exact⟨c0,c1,c2,c3,c4,c5,c6⟩
theorem ends{qs:ao}(h:qs≠[]):∃q0 ql,qs[0]?=some q0/\qs[qs.length - 1]?=some ql/\pP (qs.map V.ref) 0=some (.ref q0)/\pP (qs.map V.ref) (-1)=some (.ref ql):=by
 have hl:0 < qs.length:=HY.mpr h;refine⟨qs[0],qs[qs.length - 1],eQ hl,eQ (by lia),aO2 (i:=0) (eQ hl),?_⟩;obtain⟨n,hn⟩ : ∃n,qs.length=n+1:=⟨qs.length - 1,by lia⟩
 have e:rb (qs.map V.ref).length (-1)=some n:=by rw[bO,hn];exact Rh n
 unfold pP;rw[e];show(qs.map V.ref)[n]?=_;rw[lB];simp only[hn,Nat.add_sub_cancel];rw[eQ (by lia)];rfl
theorem set_same{α:Type}{xs:List α}{i:Nat}{x:α}(h:xs[i]?=some x):xs.set i x=xs:=by
 obtain⟨hi,e⟩:=mT.mp h;rw[<-e,List.set_getElem_self]
inductive zG  (K:W.Frag) (CW CM CS:Addr) (vs:List V) (H:Hp) (Q:VK) (E:XK):Prop
 |mk:∀(s:Addr) (W:WS),(vs=[.ref s])->jP H s W->W.Good->(∀w H',gO CW CM CS H' w W->aO H H'->H w=none->Q (.ref w) H')->zG K CW CM CS vs H Q E
theorem aFi(tx:Txt K mg a):bT P w K mg base fS 8 a.aAT a.aAU aqa (zG K a.eC a.aY a.cJ):=by
 have aGW:=aFc (P:=P) (w:=w) (base:=base) tx;have aGX:=aFg (P:=P) (w:=w) (base:=base) tx;have aEC:=aDb (P:=P) (w:=w) (base:=base) tx;refine tx.kn.F.ok lU (by walk_at "l") λbo A outer s H vs Q E hr h=>?_;obtain⟨s,W,rfl ,hW,hg,k⟩:=h;have hu:=gZ hr;refine aZ (aE (eO (k:=1) (idx:=[]) (N:=["_law_one"]) (i:=1) lU.nd rfl (Or.inl rfl) (cF (sc:=aJ nU) (NX:=bqa) rfl rfl rfl (by decide +kernel)) rfl (bC (Y:=K) (aH (Y:=K) (aB 0) aD)) (λ_ _ _ _=>(aK (i:=0) (show(["_law_one"]:aj).Nodup by decide +kernel))) (cX (by decide)) (λ_ _ _ _=>bH) (λ_ _ _ _=>(bg aEC hr tx.jc (aA (aB 0) aC))))
  (aE (bB (eJ (hJ (aW rB (aN (rc:=nQ K) cV (by rfl) tx.iV fT (aA (aB 1) aC)) aD (bD _)) (gH (aW (r:=iH K) (dJ hu) (aH (Y:=K) (aH (Y:=K) (aB 0) aD) aD) (aH (Y:=K) (aH (Y:=K) (aB 0) aD) (mG uS aD)) (bD _))))) (aG (lG (aH (Y:=K) (aB 1) aD) (oF (aB 1) (mG uS aD) set_list))) bA)
  (aE (aI (i:=2) lU.nd (aH (Y:=K) (aB 0) aD))
  (aE (bB (aW Rx (aB 2) fD (bD _)) (aG (aI (i:=2) lU.nd (mH tx.aOV (aGW) (hr.mono (by decide)) (by rfl) tx.aJY tx.lg.b .nil aT (aA (aH (Y:=K) (aB 2) aD) (aA (aH (Y:=K) (aB 2) aD) (aA (aH (Y:=K) (aB 2) aD) (aA (aH (Y:=K) (aB 2) aD) (aA (aH (Y:=K) (aB 2) aD) aC)))))))) bA)
  (aG (aM (mH tx.aOX (aGX) (hr.mono (by decide)) (by rfl) tx.aOW tx.ky.b .nil aT (aA (aB 1) (aA (aB 2) (aA (aH (Y:=K) (aB 0) aD) aC)))))))))) ?_
 have hlen:=hg.len;obtain⟨ls,st,b,hs,ic,di,hb⟩:=hW.ex;obtain⟨qs,hl,rl⟩:=ic.ex;have EV:=rl.len;refine aU (U:=[A' s,none,none]) rfl ?_;refine fU (λU' H'=>∃lm qm,U'=[A' s,A' lm,none]/\H' lm=some (.lst (qm.map V.ref))/\RL (c8 a.aY (del lm H')) qm W.specs/\aO H H'/\H lm=none) (λN hN=>?_) ?_
 ·rfl';refine eY (bP.of hl) ?_;refine dP (xs:=qs.map V.ref) (λi us H'=>aO H H'/\∃as,us=as.map V.ref/\as.length=i/\RL (c8 a.aY H') as (W.specs.take i)) ⟨aO.refl _,[],rfl,rfl,RL.nil⟩ (cA (by rw[bO];lia))
   (λi us H' hi ⟨s1,as,e1,e2,e3⟩=>⟨bP.of (s1 _ _ hl),by rw[e1,bO];lia⟩) (λi x us H' hx To=>?_) (λus H' Tn=>?_)
  ·obtain⟨s1,as,e1,e2,e3⟩:=To;obtain⟨q,m,_,rfl,hm,hq⟩:=rl.get hx;rfl';refine⟨q,m,rfl,hq.tr s1.tr,hg.specs m (pM hm),λy H5 hM s5 ny=>?_⟩;refine⟨s1.trans s5,as ++ [y],by rw[e1,jF];rfl,by rw[jE,e2];rfl,?_⟩;rw[take_snoc hm];exact(e3.imp λa x z=>z.same s5).snoc hM
  ·obtain⟨s1,as,e1,e2,e3⟩:=Tn;subst e1;intro lm Gw;obtain⟨H2,Ci,s2,g2⟩:=nw _ Gw;rw[Ci];rfl';rw[bO,EV,rA] at e3;exact hN _ _ ⟨lm,as,rfl,g2,e3.imp λa x z=>z.same (aIf Gw s2),s1.trans s2,s1.free Gw⟩
 rintro σ1 H1 ⟨lm,qm,rfl,Dv,Gr,s1,Gw⟩;have WX:=Gr.len;refine fU (λU' H'=>U'=[A' s,A' lm,none]/\qD a.aY H' lm W.specs/\aO H H') (λN hN=>?_) ?_
 ·rfl';refine cE (λh2=>?_) (λh2=>?_)
  ·rw[bO] at h2;have A9:qs≠[]:=λz=>by rw[z] at EV;simp at EV;lia
   have hqm:qm≠[]:=λz=>by rw[z] at h2;simp at h2
   obtain⟨q0,ql,f1,f2,f3,f4⟩:=ends A9;obtain⟨a0,al,g1,g2,g3,g4⟩:=ends hqm;have hn:0 < W.specs.length:=by lia
   have m0:W.specs[0]?=some W.specs[0]:=eQ hn;have mln:W.specs.length - 1 < W.specs.length:=by lia
   have ml:W.specs[W.specs.length - 1]?=some W.specs[W.specs.length - 1]:=eQ mln;have p0:=(rl.at_ 0 q0 _ f1 m0).tr s1.tr;have pl:=(rl.at_ (qs.length - 1) ql _ f2 (by rw[EV];exact ml)).tr s1.tr;have Of:=s1 _ _ hs;have KN:=s1 _ _ hl;generalize W.specs[0]=mA at m0 p0;generalize W.specs[W.specs.length - 1]=mB at ml pl;obtain⟨bb,yj,ebb⟩:=aNh (K:=K) p0 pl;rfl';refine⟨bb,yj,?_⟩;rfl';refine kE (λh3=>?_) (λh3=>?_)
   ·have em:=ebb h3;subst em;rfl';refine sC (j:=qm.length - 1) Dv (by rw[bO,show qm.length=(qm.length - 1)+1 by lia];exact Rh _) ?_;obtain⟨J,i,kj,j⟩:=wr H1 lm _;rw[i];have dl:del lm J=del lm H1:=by rw[<-i,aJ2]
    have BI:=Gr.set (i:=qm.length - 1) (Gr.at_ 0 a0 mA g1 m0);rw[WX,set_same ml] at BI;rfl';refine hN _ _ ⟨rfl,⟨qm.set (W.specs.length - 1) a0,by rw[j,List.map_set,WX],BI.imp λa x z=>((dl▸z:c8 _ (del lm J) a x)).same wZ⟩,λb o e=>kj _ _ (s1 _ _ e) (bE Gw e)⟩
   ·rfl';exact hN _ _ ⟨rfl,⟨qm,Dv,Gr.imp λa x z=>z.same wZ⟩,s1⟩
  ·rfl';exact hN _ _ ⟨rfl,⟨qm,Dv,Gr.imp λa x z=>z.same wZ⟩,s1⟩
 rintro σ2 H2 ⟨rfl,XH,s2⟩;have fc:=s2 _ _ hs;refine Me ?_;repeat walk_at "st"
 refine fU (λU' H'=>∃so,U'=[A' s,A' lm,some so]/\Fl a.cJ H' so W.store/\qD a.aY H' lm W.specs/\aO H H') (λN hN=>?_) ?_
 ·cases e:W.store with
  |none=>
   rw[e] at di
   replace di:st=.br:=di
   subst di;rfl';exact hN _ _ ⟨_,rfl,(by rw[e];rfl),XH,s2⟩
  |some ss=>
   rw[e] at di;obtain⟨c,rfl,hc⟩:=di;have gs:=hg.store ss e;have GR:=(hc.tr s2.tr).at_;rfl';intro x dx nx nd hd;obtain⟨J,i,sj,j⟩:=Ko (C:=a.cJ) nx nd hd;rw[i];refine⟨x,dx,ss,rfl,j,gs,λH3 hS kx=>⟨rfl,?_⟩⟩;rfl';exact hN _ _ ⟨_,rfl,(by rw[e];exact⟨x,rfl,hS⟩),XH.tr (sj.tr.trans (ZN j kx)),λb o e=>kx _ _ (sj _ _ (s2 _ _ e)) (bE (s2.free nx) e)⟩
 rintro σ3 H3 ⟨so,rfl,hso,hM3,s3⟩;have E2:=s3 _ _ hs;rfl';intro x dx nx nd hd;obtain⟨J,i,sj,j⟩:=Ko (C:=a.eC) nx nd hd;rw[i];refine⟨x,dx,lm,so,W,rfl,j,hM3.tr sj.tr,hso.tr sj.tr,hlen,hg.bj,λH4 hWk kx=>⟨rfl,?_⟩⟩;exact k x H4 hWk (λb o e=>kx _ _ (sj _ _ (s3 _ _ e)) (bE (s3.free nx) e)) (s3.free nx)
theorem Mm{H:Hp}{qs:ao}{ss:ay}(h:RL (MX H) qs ss){H':Hp}(s:Tk H H'):RL (MX H') qs ss:=h.imp λa x z=>s _ _ z
inductive rP  (K:W.Frag) (vs:List V) (H:Hp) (Q:VK) (E:XK):Prop
 |mk:∀(p s:Addr) (W:WS),(vs=[.ref p,.ref s])->bG H p->jP H s W->W.Good->(∀(r:Addr) (P:Ps) H',tW H' r P->FF W P->(∀(j:Nat) m s,W.specs[j]?=some m->P.1[j]?=some s->xj m s)->bG H' p->bX p H H'->Q (.ref r) H')->rP K vs H Q E
theorem aB2(tx:Txt K mg a):bT P w K mg base fS 3 a.tN a.tO ada (rP K):=by
 have aS:=eI (P:=P) (w:=w) (base:=base) tx;have aGY:=aFb (P:=P) (w:=w) (base:=base) tx;refine tx.dk.F.ok rD (by walk_at "l") λbo A outer s H vs Q E hr h=>?_;obtain⟨p,s,W,rfl ,hh,hW,hg,k⟩:=h;have hu:=gZ hr;refine aZ (aE (aI (i:=2) rD.nd (bV (rc:=QY K) aKT (by rfl) tx.sY uX (aA (cG (k:=1) (idx:=[0]) (N:=["_law_one","_law_hand"]) (cF (sc:=aJ jN) (NX:=bDa) rfl rfl rfl (by decide +kernel)) rfl (bC (Y:=K) (aH (Y:=K) (aB 1) aD)) (λ_ _ _ _=>(aK (i:=0) (show(["_law_one","_law_hand"]:aj).Nodup by decide +kernel))) (cX (by decide)) (λ_ _ _ _=>bH) (λ_ _ _ _=>(bg aGY hr tx.kr (aA (aB 1) (aA (aB 0) aC))))) aC)))
  (aE (bB (aW FJ (aH (Y:=K) (aB 1) aD) fD (bD _)) (aG (aM (fN (aB 2) aD))) bA)
  (aG (aM (fN (aB 2) (bg aS hr tx.af (aA (aB 0) (aA (aL bJ (aH (Y:=K) (aH (Y:=K) (aB 1) aD) aD) aD) aC)))))))) ?_
 have hlen:=hg.len;obtain⟨ls,st,b,hs,ic,di,hb⟩:=hW.ex;obtain⟨qs,hl,rl⟩:=ic.ex;have EV:=rl.len;have sp:s≠p:=hh.Cw hs (by simp);have lp:ls≠p:=hh.P8 hl;refine aU (U:=[A' p,A' s,none]) rfl ?_;rfl';refine eY (bP.of hl) ?_;refine dP (xs:=qs.map V.ref) (λi us H'=>bG H' p/\bX p H H'/\∃ts ss,us=ts.map V.ref/\ts.length=i/\RL (MX H') ts ss/\(∀s∈ss,VS s)/\∀(j:Nat) m s,W.specs[j]?=some m->ss[j]?=some s->xj m s) ⟨hh,λ_ _ e _=>e,[],[],rfl,rfl,RL.nil,(λs h=>by cases h),λj m s _ h=>by simp at h⟩ (cA (by rw[bO];lia))
  (λi us H' hi ⟨h1,k1,ts,ss,e1,e2,e3,e4,e5⟩=>⟨bP.of (k1 _ _ hl lp),by rw[e1,bO];lia⟩) (λi x us H' hx Tj=>?_) (λus H' Ti=>?_)
 ·obtain⟨h1,k1,ts,ss,e1,e2,e3,e4,e5⟩:=Tj;obtain⟨q,m,_,rfl,hm,hq⟩:=rl.get hx;have gm:=hg.specs m (pM hm);rfl';refine⟨p,q,m,rfl,h1,hq.tr (hh.tr k1),gm,λt o d H2 ht Xp h2 k2=>?_⟩;refine⟨h2,k1.trans k2,ts ++ [t],ss ++ [(o,d)],by rw[e1,jF];rfl,by rw[jE,e2];rfl,(Mm e3 (h1.tr k2).tk).snoc ht,λs hs=>?_,λj m' s' hj hs=>?_⟩
  rotate_left
  ·by_cases rg:j < ss.length
   ·rw[rq rg] at hs;exact e5 j m' s' hj hs
   ·have GL:j < (ss ++ [(o,d)]).length:=(mT.mp hs).1;rw[jE,AZ] at GL;have ej:j=i:=by have:=e3.len;lia
    rw[ug (by lia),show j - ss.length=0 by lia] at hs;cases hs;rw[ej,hm] at hj;cases hj;exact Xp
  rcases nz.mp hs with h|h
  ·exact e4 s h
  ·rw[jy.mp h];rcases Xp with ⟨z1,z2,_⟩|⟨z1,z2,_⟩
   ·exact⟨.inr z1,z2⟩
   ·exact⟨.inl z1,z2⟩
 ·obtain⟨h1,k1,ts,ss,e1,e2,e3,e4,e5⟩:=Ti;subst e1;rw[bO] at e2;intro l1 n1;obtain⟨H2,i2,s2,g2⟩:=nw _ n1;rw[i2];rfl';refine aOJ (bP.of g2) ?_;intro T nT;obtain⟨H3,i3,s3,g3⟩:=nw _ nT;rw[i3];have yf:=s2.trans s3;have E2:=yf _ _ (k1 _ _ hs sp);have YS:=Mm e3 yf.tk;have WV:ss.length=W.specs.length:=by rw[<-e3.len,e2,EV]
  have fin:∀(Az:Int),CB W Az->∀H4,bG H4 p->bX p H3 H4->Q (.ref T) H4\/True:=λ_ _ _ _ _=>.inr trivial;cases e:W.store with
  |none=>
   rw[e] at di
   replace di:st=.br:=di
   subst di;rfl';intro r nr;obtain⟨H4,i4,s4,g4⟩:=nw _ nr;rw[i4];rfl';exact k r (ss,0) H4 ⟨T,g4,ts,s4 _ _ g3,Mm YS s4.tk⟩ ⟨WV,e4,by unfold CB;rw[e]⟩ e5 (h1.same (yf.trans s4)) (k1.trans (yf.trans s4).keep)
  |some sv=>
   rw[e] at di;obtain⟨c,rfl,hc⟩:=di;have gs:=(hg.store sv e).cm;have hc3:=(hc.tr ((hh.tr k1).trans yf.tr)).at_;rfl';refine⟨p,_,rfl,h1.same yf,by lia,by lia,λr5 H5 a5 b5 h5 k5 _=>?_⟩;have Wo:=((h1.same yf).tr k5).tk;rfl';intro r nr;obtain⟨H6,i6,s6,g6⟩:=nw _ nr;rw[i6];rfl';exact k r (ss,r5) H6 ⟨T,g6,ts,s6 _ _ (Wo _ _ g3),Mm YS (Wo.trans s6.tk)⟩ ⟨WV,e4,by unfold CB;rw[e];exact⟨a5,by show r5<=sv.cm;lia⟩⟩ e5 (h5.same s6) (k1.trans (yf.keep.trans (k5.trans s6.keep)))
inductive uA  (K:W.Frag) (C:Addr) (vs:List V) (H:Hp) (Q:VK) (E:XK):Prop
 |mk:∀(x:Addr) (s:SS) (l h:Int),(vs=[.ref x,.int l,.int h])->fW C H x s->s.Good->(0<=l)->(l<=8)->(0<=h)->(h<=48)->(∀q H',aO H H'->H' q=some (.lst ((qe (max (l - s.out*h) 0) (min (l+s.into*h) s.cm+1 - max (l - s.out*h) 0).toNat).map V.int))->Q (.ref q) H')->uA K C vs H Q E
theorem m9(tx:Txt K mg a):bT P w K mg base fS 1 a.vY a.vZ aja (uA K a.cJ):=by
 refine tx.cn.F.ok mY (by walk_at "l") λbo A outer s H vs Q E hr h=>?_;obtain⟨x,ss,l,h,rfl ,hs,hg,l0,l1,h0,h1,k⟩:=h;have hu:=gZ hr;refine aZ (aE (aI (i:=3) mY.nd (aN (oE rfl) (by rfl) tx.CC FN (aA (aL jR (aB 1) (aL cC (bI (Y:=K) (aB 0) rfl) (aB 2))) (aA aD aC))))
  (aE (aI (i:=4) mY.nd (aN (lC rfl) (by rfl) tx.wQ sA (aA (aL bJ (aB 1) (aL cC (bI (Y:=K) (aB 0) rfl) (aB 2))) (aA (bI (Y:=K) (aB 0) rfl) aC))))
  (aG (aM (bV (rc:=QK) (aIW rfl) (by rfl) tx.gA fB (aA (bV (rc:=Pr) aKN (by rfl) tx.eU aL7 (aA (aB 3) (aA (aL bJ (aB 4) aD) aC))) aC)))))) ?_
 obtain⟨dx,hx⟩:=hs.ex;obtain⟨c0,c1⟩:=hg.cm;obtain⟨i0,i1⟩:=hg.into;obtain⟨o0,o1⟩:=hg.out;have e1:0<=ss.out*h/\ss.out*h<=384:=⟨HN o0 h0,tw (Int.mul_le_mul o1 h1 h0 (by lia)) (by decide)⟩
 have e2:0<=ss.into*h/\ss.into*h<=384:=⟨HN i0 h0,tw (Int.mul_le_mul i1 h1 h0 (by lia)) (by decide)⟩
 refine aU (U:=[A' x,B' l,B' h,none,none]) rfl ?_;rfl';refine dM hx tx.jO tx.aCJ rfl ?_;rfl';refine dM hx tx.jO tx.aBc rfl ?_;rfl';refine dM hx tx.jO tx.wM rfl ?_;rfl';intro p np;rfl';refine aMs aP (by lia) (by lia) ?_;intro q nq;exact k q _ ((aO.new np).trans (aO.new nq)) aP
inductive w9  (K:W.Frag) (C:Addr) (vs:List V) (H:Hp) (Q:VK) (E:XK):Prop
 |mk:∀(x:Addr) (s:SS) (l:Int),(vs=[.ref x,.int l])->fW C H x s->s.Good->(0<=l)->(l<=8)->(∀q H',aO H H'->H' q=some (.lst ((qe (max (l - s.out*1) 0) (min (l+s.into*1) s.cm+1 - max (l - s.out*1) 0).toNat).map V.int))->Q (.ref q) H')->w9 K C vs H Q E
theorem xA(tx:Txt K mg a):bT P w K mg base fS 2 a.yS a.yT bka (w9 K a.cJ):=by
 have iX:=m9 (P:=P) (w:=w) (base:=base) tx;refine tx.fm.F.ok aD2 (by walk_at "l") λbo A outer s H vs Q E hr h=>?_;obtain⟨x,ss,l,rfl ,hs,hg,l0,l1,k⟩:=h;have hu:=gZ hr;refine aZ (aG (aM (bg iX hr tx.cn (aA (aB 0) (aA (aB 1) (aA aD aC)))))) ?_;refine aU (U:=[A' x,B' l]) rfl ?_;rfl';exact⟨x,ss,l,1,rfl,hs,hg,l0,l1,by decide,by decide,k⟩
inductive aCU  (K:W.Frag) (C:Addr) (vs:List V) (H:Hp) (Q:VK) (E:XK):Prop
 |mk:∀(x:Addr) (s:SS) (l n:Int),(vs=[.ref x,.int l,.int n])->fW C H x s->s.Good->(Q (.int (dr s l n)) H)->aCU K C vs H Q E
theorem aCV(tx:Txt K mg a):bT P w K mg base fS 1 a.aEg a.aEh bda (aCU K a.cJ):=by
 refine tx.jt.F.ok aCo (by walk_at "l") λbo A outer s H vs Q E hr h=>?_;obtain⟨x,ss,l,n,rfl ,hs,hg,k⟩:=h;have hu:=gZ hr;refine aZ (aE (aI (i:=3) aCo.nd (uZ (aW rB (aB 2) (aB 1) (bD _)) (bI (Y:=K) (aB 0) rfl) (bI (Y:=K) (aB 0) rfl)))
  (aG (aM (aL cC (aB 3) (aL jR (aB 2) (aB 1)))))) ?_
 obtain⟨dx,hx⟩:=hs.ex;obtain⟨t0,t1⟩:=hg.takes;obtain⟨g0,g1⟩:=hg.gives;refine aU (U:=[A' x,B' l,B' n,none]) rfl ?_;rfl';unfold dr at k;refine cE (λh=>?_) (λh=>?_)
 ·rw[dO h] at k;rfl';refine dM hx tx.jO tx.y6 rfl ?_;rfl';exact k
 ·rw[cU h] at k;rfl';refine dM hx tx.jO tx.y7 rfl ?_;rfl';exact k
def κI:PK Int:=.ik (λn=>.inl n) λx y h=>Sum.inl.inj h
def upTo(s:SS)(l:Int)(h:Int):ae:=qe (max (l - s.out*h) 0) (min (l+s.into*h) s.cm+1 - max (l - s.out*h) 0).toNat
def B9(s:SS)(p x:Int):List (Wy Int):=(upTo s x 1).map λy=>(y,y,p*dr s x y)
def Wl(s:SS)(ps:ae)(i:Nat)(x:Int):List (Wy Int):=B9 s (ps.getD i 0) x
def qk(s:SS)(l:Int)(n:Nat):cv:=(List.range (n+1)).map λ(i:Nat)=>upTo s l (i:Int)
theorem mem_upTo{s:SS}{l h n:Int}:n∈upTo s l h↔max (l - s.out*h) 0<=n/\n<=min (l+s.into*h) s.cm:=by
 unfold upTo;rw[aOZ];lia
theorem aRp(lo:Int):∀k:Nat,(qe lo k).Pairwise (·< ·):=by
 intro k;unfold qe;rw[HW];exact List.pairwise_lt_range.imp λh=>by lia
theorem aLi(s:SS)(l h:Int):(upTo s l h).Pairwise (·< ·):=aRp _ _
theorem rQ{s:SS}(g:s.Good)(l h:Int):(upTo s l h).length<=9:=by
 unfold upTo;rw[aO0];have:=g.cm.2;lia
theorem kX{s:SS}{l:Int}{n i:Nat}{ps:ae}(h:(qk s l n)[i]?=some ps):ps=upTo s l (i:Int)/\i<=n:=by
 unfold qk at h;rw[lB] at h;obtain⟨j,hj,rfl⟩:=mw.mp h;have hi:i < n+1:=by
  have:=(mT.mp hj).1
  rwa[MH] at this
 rw[MN hi] at hj;cases hj;exact⟨rfl,by lia⟩
theorem lY(s:SS)(l:Int)(n:Nat):(qk s l n).length=n+1:=by unfold qk;rw[bO,MH]
theorem FU{s:SS}{l:Int}{n i:Nat}(h:i<=n):(qk s l n)[i]?=some (upTo s l (i:Int)):=by
 unfold qk;rw[lB,MN (by lia)];rfl
theorem HA{s:SS}{l h n:Int}(hn:n∈upTo s l h):0<=n/\n<=s.cm:=by
 have:=mem_upTo.mp hn;lia
theorem aF6{s:SS}(g:s.Good){x:Int}(h0:0<=x)(h1:x<=s.cm):x∈upTo s x 1:=by
 have:=g.out.1;have:=g.into.1;rw[mem_upTo];lia
theorem aKa{s:SS}(g:s.Good){l x n:Int}{i:Nat}(hx:x∈upTo s l (i:Int))(hn:n∈upTo s x 1):n∈upTo s l ((i+1:Nat):Int):=by
 have a:=mem_upTo.mp hx;have b:=mem_upTo.mp hn;rw[mem_upTo];have e1:s.out*((i+1:Nat):Int)=s.out*(i:Int)+s.out:=by push_cast;rw[Int.mul_add,CF]
 have e2:s.into*((i+1:Nat):Int)=s.into*(i:Int)+s.into:=by push_cast;rw[Int.mul_add,CF]
 rw[e1,e2];rw[CF,CF] at b;lia
theorem Qr{s:SS}{l:Int}(h0:0<=l)(h1:l<=s.cm):upTo s l 0=[l]:=by
 unfold upTo;rw[D0,D0,show max (l - 0) 0=l by lia,show(min (l+0) s.cm+1 - l).toNat=1 by lia];unfold qe;simp
theorem Qq{s:SS}(g:s.Good){l:Int}(ps:ae)(h0:0<=l)(h1:l<=s.cm):Hi (Wl s ps) (qk s l ps.length):=by
 refine⟨by rw[lY];lia,λqs hq=>?_,λqs hq=>?_,λi qs x e hi hx=>?_,λi qs rs x w e1 e2 hx hw=>?_⟩
 ·obtain⟨i,ei⟩:=ur hq;rw[(kX ei).1];exact(aLi _ _ _).imp λh=>Int.ne_of_lt h
 ·obtain⟨i,ei⟩:=ur hq;rw[(kX ei).1];exact mf (rQ g _ _) (by decide)
 ·rw[(kX e).1] at hx;obtain⟨x0,x1⟩:=HA hx;unfold Wl B9;refine⟨λz=>?_,?_⟩
  ·have:=aF6 g x0 x1;rw[F5.mp z] at this;cases this
  ·rw[bO];exact mf (rQ g _ _) (by decide)
 ·rw[(kX e1).1] at hx;rw[(kX e2).1];obtain⟨y,hy,rfl⟩:=jQ.mp hw;exact aKa g hx hy
def NM(s:SS)(ps:ae)(l:Int):Int:=wF (Wl s ps) ps.length 0 l
def lpF(s:SS)(ps:ae)(l:Int):ae:=vy (Wl s ps) ps.length 0 l
theorem Ht{t:TE}{U U':St}{H:Hp}{Q:VK}(e:U'=U)(h:t U H Q):t U' H Q:=e▸h
theorem intAt{ns:ae}{i:Nat}{x:V}(h:(ns.map V.int)[i]?=some x):∃n,ns[i]?=some n/\x=.int n:=by
 rw[lB] at h;obtain⟨n,e,rfl⟩:=mw.mp h;exact⟨n,e,rfl⟩
theorem aIi{H:Hp}(ns:ae):xq κI H (ns.map V.int) ns:=by
 refine⟨by rw[bO],λi v x h1 h2=>?_⟩;obtain⟨n,e,rfl⟩:=intAt h1;rw[e] at h2;cases h2;rfl
inductive qX  (K:W.Frag) (C:Addr) (vs:List V) (H:Hp) (Q:VK) (E:XK):Prop
 |mk:∀(x:Addr) (s:SS) (l p:Int),(vs=[.ref x,.int l,.int p])->fW C H x s->s.Good->(0<=l)->(l<=s.cm)->Am p->(∀q H',aO H H'->gQ κI H' q (B9 s p l)->Q (.ref q) H')->qX K C vs H Q E
theorem zH(tx:Txt K mg a):bT P w K mg base fS 3 a.aAV a.aAW aua (qX K a.cJ):=by
 have RI:=aCV (P:=P) (w:=w) (base:=base) tx;have qY:=xA (P:=P) (w:=w) (base:=base) tx;refine tx.bw.F.ok aE7 (by walk_at "l") λbo A outer s H vs Q E hr h=>?_;obtain⟨x,ss,l,p,rfl ,hs,hg,l0,l1,hp,k⟩:=h;have hu:=gZ hr;refine aZ (aG (aM (cG (k:=1) (idx:=[1,2,0]) (N:=bJa) (cF (sc:=aJ nV) (NX:=aua) rfl rfl rfl (by decide +kernel)) rfl (bC (Y:=K) (bg qY hr tx.fm (aA (aB 0) (aA (aB 1) aC)))) (λ_ _ _ _=>(aK (i:=0) (show(bJa:aj).Nodup by decide +kernel))) (cX (by decide)) (λ_ _ _ _=>bH) (λ_ _ _ _=>(kH (aB 0) (aB 0) (aL cC (aB 2) (bg RI hr tx.jt (aA (aB 3) (aA (aB 1) (aA (aB 0) aC)))))))))) ?_;obtain⟨p0,p1⟩:=hp;obtain⟨c0,c1⟩:=hg.cm;refine aU (U:=[A' x,B' l,B' p]) rfl ?_;rfl';refine⟨x,ss,l,rfl,hs,hg,l0,by lia,λq H1 s1 gq=>?_⟩;have hlen:=rQ hg l 1;refine eY (bP.of gq) ?_;refine dP (xs:=(upTo ss l 1).map V.int) (λj us H'=>aO H1 H'/\∃as:ao,us=as.map V.ref/\RL (mP κI H') as ((B9 ss p l).take j)) ⟨aO.refl _,[],rfl,RL.nil⟩ (cA (by rw[bO];lia))
  (λj us H' hj ⟨s',as,e,r⟩=>⟨bP.of (s' _ _ gq),by rw[e,bO,r.len,yF];lia⟩) (λj v us H' hv Tg=>?_) (λus H' Tf=>?_)
 ·obtain⟨s',as,e,r⟩:=Tg;obtain⟨y,ey,rfl⟩:=intAt hv;have ew:(B9 ss p l)[j]?=some (y,y,p*dr ss l y):=by unfold B9;rw[lB,ey];rfl
  rfl';refine⟨x,ss,l,y,rfl,hs.same (s1.trans s'),hg,?_⟩;rfl';intro a na;obtain⟨H2,i2,s2,g2⟩:=nw _ na;rw[i2];refine⟨s'.trans s2,as ++ [a],by rw[e,jF];rfl,?_⟩;rw[cY ew];exact RL.snoc (r.imp λ_ _ z=>z.same s2) ⟨.int y,g2,rfl⟩
 ·obtain⟨s',as,e,r⟩:=Tf;intro q2 NB;obtain⟨H2,i2,s2,g2⟩:=nw _ NB;rw[i2];rfl';rw[bO,show(upTo ss l 1).length=(B9 ss p l).length by unfold B9;rw[bO],rA] at r;exact k q2 H2 (s1.trans (s'.trans s2)) ⟨as,by rw[g2,e],r.imp λ_ _ z=>z.same s2⟩
theorem aF7{K:W.Frag}{a:Sa}{H:Hp}{x q:Addr}{s:SS}{ps:ae}(C:Addr->Sp->Prop)(f:Addr)(vk:Sp)(hC:C f vk)(hs:fW a.cJ H x s)(hg:s.Good)(hq:H q=some (.lst (ps.map V.int)))(ha:∀n∈ps,Am n)(hl:ps.length<=48)
  (h:∀(H':Hp) (h:Nat) (y p:Int) (Q:VK),aO H H'->H' q=some (.lst (ps.map V.int))->pP (ps.map V.int) (h:Int)=some (.int p)->0<=y->y<=s.cm->qX K a.cJ [.ref x,.int y,.int p] H' Q E0->vk [.int (h:Int),.int y] H' Q E0) :
  w5 κI C H f (Wl s ps) λi y=>i < ps.length/\0<=y/\y<=s.cm:=by
 refine⟨vk,hC,λH' i v y Q s' hL pq hk=>?_⟩;have hv:v=.int y:=pq;subst hv;obtain⟨hi,y0,y1⟩:=hL;have ep:ps[i]?=some ps[i]:=eQ hi;refine h H' i y ps[i] Q s' (s' _ _ hq) (eB (by rw[lB,ep];rfl)) y0 y1 ⟨x,s,y,ps[i],rfl,hs.same s',hg,y0,y1,ha _ (AY hi),λl H2 s2 hw=>hk l H2 s2 ?_⟩;unfold Wl;rw[qi,ep];exact hw
inductive nH  (K:W.Frag) (C t:Addr) (vs:List V) (H:Hp) (Q:VK) (E:XK):Prop
 |mk:∀(x:Addr) (s:SS) (l:Int) (q:Addr) (ps:ae),(vs=[.ref x,.int l,.ref q])->(H t=some (.ig dU dW))->fW C H x s->s.Good->(0<=l)->(l<=s.cm)->(H q=some (.lst (ps.map V.int)))->((∀n∈ps,Am n))->(ps.length<=48)->(∀r H',aO H H'->H r=none->Bp κI H' r (qk s l ps.length) (λi=>wF (Wl s ps) ((qk s l ps.length).length - 1 - i) i)->Q (.ref r) H')->nH K C t vs H Q E
theorem yC(tx:Txt K mg a):bT P w K mg base fS 12 a.o5 a.jU aga (nH K a.cJ a.cH):=by
 have iX:=m9 (P:=P) (w:=w) (base:=base) tx;have fQ:=λbz:Heap=>kW (P:=P) (w:=w) (base:=bz) tx;refine tx.dy.F.Gv tx.pA nC (λvs H Q E h=>?_) (λA outer s H vs Q E hr h=>?_)
 ·obtain⟨x,ss,l,q,ps,rfl,_⟩:=h;rfl
 ·obtain⟨x,ss,l,q,ps,rfl ,gt,hs,hg,l0,l1,hq,ha,hl,k⟩:=h;have hu:=gZ hr;refine aZ (aE (eO (k:=1) (idx:=[1,0]) (N:=["hours","level","store"]) (i:=3) nC.nd rfl (Or.inl rfl) (cF (sc:=aJ cS) (NX:=aTa) rfl rfl rfl (by decide +kernel)) rfl (cO (by rfl) tx.eU (aA (aL bJ (aN (rc:=nQ K) cV (by rfl) tx.iV fT (aA (aB 2) aC)) aD) aC)) (λ_ _ _ _=>(aK (i:=0) (show(["hours","level","store"]:aj).Nodup by decide +kernel))) (cX (by decide)) (λ_ _ _ _=>bH) (λ_ _ _ _=>(bg iX hr tx.cn (aA (aB 2) (aA (aB 1) (aA (aB 0) aC))))))
   (aG (aM (mJ (psL:=bna) (N:=aYa) (idx:=[2,0]) (sp:=λC=>fP K C) (kc:=8) (fQ) (hr.mono (by decide)) (by rfl) tx.bf.g tx.bf.F.kp tx.bf.b (λ_=>rfl) (cF (sc:=aJ cS) (NX:=aTa) rfl rfl rfl (by decide +kernel)) rfl rfl rfl rfl (λ_ _ _ _ us hl=>by obtain⟨_,_,rfl⟩:=DM us hl;rfl) (jT (aB 3) (oO (N:=aYa) (n:=2) (idx:=[2,0]) rfl tx.pA.hd rfl rfl (cF (sc:=aJ cS) (NX:=aTa) rfl rfl rfl (by decide +kernel)))) (λ_ _ _ _ _ _ _ _ hr hu=>(aF (zH tx) (hr.mono (by decide)) (by rfl) tx.bw.g tx.bw.F.kp tx.bw.b .nil aT (aA (aB 3) (aA (aB 1) (aA (aH (Y:=K) (aB 2) (aB 0)) aC))))))))) ?_
  obtain⟨c0,c1⟩:=hg.cm;refine aU (U:=[A' x,B' l,A' q,none]) rfl ?_;rfl';refine⟨by rw[bO];lia,by rw[bO];lia,?_⟩;rw[show(((ps.map V.int).length:Int)+1).toNat=ps.length+1 by rw[bO];lia];refine iG (λi us H'=>aO H H'/\∃as:ao,us=as.map V.ref/\RL (λb qs=>∃us,H' b=some (.lst us)/\xq κI H' us qs) as ((qk ss l ps.length).take i)) ⟨aO.refl _,[],rfl,RL.nil⟩ (cA (by lia)) (λi us H' hi ⟨s',as,e,r⟩=>by rw[e,bO,r.len,yF];lia) (λi us H' hi Te=>?_) (λus H' Td=>?_)
  ·obtain⟨s',as,e,r⟩:=Te;rfl';refine⟨x,ss,l,_,rfl,hs.same s',hg,l0,by lia,by lia,by lia,λb H2 s2 gb=>?_⟩;refine⟨s'.trans s2,as ++ [b],by rw[e,jF];rfl,?_⟩;rw[cY (FU (s:=ss) (l:=l) (n:=ps.length) (i:=i) (by lia))];refine RL.snoc (r.imp λ_ _ ⟨us,e,p⟩=>⟨us,s2 _ _ e,p.same s2⟩) ⟨_,gb,?_⟩;rw[show(0+(i:Int))=(i:Int) by lia];exact aIi (upTo ss l (i:Int))
  ·obtain⟨s',as,e,r⟩:=Td;intro la xa;obtain⟨H2,i2,s2,g2⟩:=nw _ xa;rw[i2];have Gn:=s'.trans s2;rw[show ps.length+1=(qk ss l ps.length).length from(lY _ _ _).symm,rA] at r;rfl';refine⟨Gn _ _ gt,λf c' H3 Cc s3 hc hC=>?_⟩;have ib:=Gn.trans s3;refine⟨Int,κI,la,f,qk ss l ps.length,Wl ss ps,_,rfl,⟨as,by rw[s3 _ _ g2,e],r.imp λ_ _ ⟨us,e,p⟩=>⟨us,(s2.trans s3) _ _ e,p.same (s2.trans s3)⟩⟩,Qq hg ps l0 l1,by rw[lY];lia,aF7 (K:=K) (a:=a) Cc f _ hC (hs.same ib) hg (ib _ _ hq) ha hl (λH' h y p Q s' gq hp y0 y1 ic=>?_),λi qs y e1 e2 hy=>?_,λr H4 s4 nr hd=>?_⟩
   ·refine⟨s' _ _ hc,rfl,?_⟩;refine Ht (U:=[B' (h:Int),B' y,A' q,A' x]) rfl ?_;rfl';exact ic
   ·rw[(kX e1).1] at hy;obtain⟨y0,y1⟩:=HA hy;rw[lY] at e2;exact⟨by lia,y0,y1⟩
   ·exact k r H4 (ib.trans s4) (ib.free nr) hd
inductive rR  (K:W.Frag) (C t1 t2:Addr) (vs:List V) (H:Hp) (Q:VK) (E:XK):Prop
 |mk:∀(x:Addr) (s:SS) (l:Int) (q:Addr) (ps:ae),(vs=[.ref x,.int l,.ref q])->(H t1=some (.ig dU dW))->(H t2=some (.ig gB gC))->fW C H x s->s.Good->(0<=l)->(l<=s.cm)->(H q=some (.lst (ps.map V.int)))->((∀n∈ps,Am n))->(ps.length<=48)->(∀T r H',aO H H'->H r=none->H' T=some (.tup [.int (NM s ps l),.ref r])->H' r=some (.lst ((lpF s ps l).map V.int))->Q (.ref T) H')->rR K C t1 t2 vs H Q E
theorem aB4(tx:Txt K mg a):bT P w K mg base fS 13 a.tQ a.m3 aga (rR K a.cJ a.cH a.dI):=by
 have aAj:=yC (P:=P) (w:=w) (base:=base) tx;have tF:=λbz:Heap=>aBp (P:=P) (w:=w) (base:=bz) tx;refine tx.gy.F.Gv tx.tS lK (λvs H Q E h=>?_) (λA outer s H vs Q E hr h=>?_)
 ·obtain⟨x,ss,l,q,ps,rfl,_⟩:=h;rfl
 ·obtain⟨x,ss,l,q,ps,rfl ,G1,G0,hs,hg,l0,l1,hq,ha,hl,k⟩:=h;have hu:=gZ hr;refine aZ (aE (aI (i:=3) lK.nd (bg aAj hr tx.dy (aA (aB 0) (aA (aB 1) (aA (aB 2) aC)))))
   (aE (aI (i:=4) lK.nd (mJ (psL:=bna) (N:=aYa) (idx:=[2,0]) (sp:=λC=>oB K C) (kc:=8) (tF) (hr.mono (by decide)) (by rfl) tx.cb.g tx.cb.F.kp tx.cb.b (λ_=>rfl) (cF (sc:=aJ dZ) (NX:=a4a) rfl rfl rfl (by decide +kernel)) rfl rfl rfl rfl (λ_ _ _ _ us hl=>by obtain⟨_,_,rfl⟩:=DM us hl;rfl) (jT (aB 1) (jT (aB 3) (oO (N:=aYa) (n:=2) (idx:=[2,0]) rfl tx.tS.hd rfl rfl (cF (sc:=aJ dZ) (NX:=a4a) rfl rfl rfl (by decide +kernel))))) (λ_ _ _ _ _ _ _ _ hr hu=>(aF (zH tx) (hr.mono (by decide)) (by rfl) tx.bw.g tx.bw.F.kp tx.bw.b .nil aT (aA (aB 3) (aA (aB 1) (aA (aH (Y:=K) (aB 2) (aB 0)) aC)))))))
   (aG (aM (fN (iL hu (aH (Y:=K) (aB 3) aD) (aB 1)) (aB 4)))))) ?_
  refine aU (U:=[A' x,B' l,A' q,none,none]) rfl ?_;rfl';refine⟨x,ss,l,q,ps,rfl,G1,hs,hg,l0,l1,hq,ha,hl,λlw H1 s1 EO hd=>?_⟩;rfl';refine⟨s1 _ _ G0,λf c' H3 Cc s3 hc hC=>?_⟩;have ib:=s1.trans s3;refine⟨Int,κI,.int l,l,upTo ss l 0,lw,f,qk ss l ps.length,Wl ss ps,_,rfl,rfl,hd.same s3,FU (i:=0) (by lia),?_,Qq hg ps l0 l1,by rw[lY];lia,aF7 (K:=K) (a:=a) Cc f _ hC (hs.same ib) hg (ib _ _ hq) ha hl (λH' h y p Q s' gq hp y0 y1 ic=>?_),λi qs y e1 e2 hy=>?_,λr H4 s4 nr gr=>?_⟩
  ·rw[Qr l0 l1];exact .head _
  ·refine⟨s' _ _ hc,rfl,?_⟩;refine Ht (U:=[B' (h:Int),B' y,A' q,A' x]) rfl ?_;rfl';exact ic
  ·rw[(kX e1).1] at hy;obtain⟨y0,y1⟩:=HA hy;rw[lY] at e2;exact⟨by lia,y0,y1⟩
  ·obtain⟨ds,Fe,EX,vp⟩:=(hd.same (s3.trans s4)).ex;rw[lY] at EX;have ed:ds[0]?=some ds[0]:=eQ (by lia);have h0:=vp 0 _ _ ed (FU (i:=0) (by lia));generalize ds[0]=d0 at ed h0;have ix:pP (ds.map V.ref) 0=some (.ref d0):=eB (j:=0) (DW ed);rfl';refine⟨d0,_,rfl,κI.get (v:=.int l) (x:=l) h0 rfl (by rw[show((0:Nat):Int)=0 from rfl,Qr l0 l1];exact .head _),?_⟩;rfl';intro T nT;obtain⟨H5,i5,s5,g5⟩:=nw _ nT;rw[i5];rfl';have e1:(qk ss l ps.length).length - 1=ps.length:=by rw[lY];rfl
   rw[e1] at gr;rw[HL,e1] at g5;exact k T r H5 (ib.trans (s4.trans s5)) (ib.free nr) g5 (s5 _ _ gr)
theorem aIj(xs:List V)(m:Nat):nM xs none (some (m:Int))=xs.take m:=by
 unfold nM;rw[HT.Rq,HT.Q5,List.drop_zero,HL];by_cases h:m<=xs.length
 ·rw[FY h]
 ·rw[Nat.min_eq_right (by lia),rA,A0 (by lia)]
theorem RL.app{α:Type}{P:Addr->α->Prop}{xs ys:List α}(h:RL P as xs)(h':RL P bs ys):RL P (as++bs) (xs++ys):=by
 refine⟨by rw[jE,jE,h.len,h'.len],λj q u hq hu=>?_⟩;by_cases hj:j < as.length
 ·rw[rq hj] at hq;rw[rq (by rw[<-h.len];exact hj)] at hu;exact h.at_ j q u hq hu
 ·rw[ug (by lia)] at hq;rw[ug (by rw[<-h.len];lia),<-h.len] at hu;exact h'.at_ _ q u hq hu
theorem RL.one{α:Type}{P:Addr->α->Prop}{x:α}(h:P a x):RL P [a] [x]:=⟨rfl,λj q u hq hu=>by
 match j,hq,hu with
 |0,hq,hu=>cases hq;cases hu;exact h
 |_+1,hq,_=>simp at hq⟩
theorem aNi(ps:List WP):(enc ps).map (·.1)=(ps.map λp=>[p.1.1,p.1.2]).map λt=>t.map Sum.inl:=by
 unfold enc;rw[qg,qg];rfl
theorem aFj{ps:List WP}{qs:ao}{us:cv}(nd:(ps.map (·.1)).Nodup)(hT:oN H qs us)(hp:us.Perm (ps.map λp=>[p.1.1,p.1.2]))(hs:us.Pairwise λa b=>vB b a=false) :
  ∃ks:ay,ks.Pairwise A4/\(∀s,s∈ks↔s∈ps.map (·.1))/\xq κS H (qs.map V.ref) ks:=by
 have Al:∀u∈us,u=[u.getD 0 0,u.getD 1 0]:=λu hu=>by
  obtain⟨p,_,rfl⟩:=jQ.mp (hp.mem_iff.mp hu);rfl
 have pk:(us.map λu=>(u.getD 0 0,u.getD 1 0)).Perm (ps.map (·.1)):=by
  have:=hp.map λu=>(u.getD 0 0,u.getD 1 0)
  rw[qg] at this;exact this
 have ndk:=pk.nodup_iff.mpr nd;refine⟨us.map λu=>(u.getD 0 0,u.getD 1 0),?_,λs=>pk.mem_iff,?_⟩
 ·rw[HW];have nd':us.Pairwise λa b=>(a.getD 0 0,a.getD 1 0)≠(b.getD 0 0,b.getD 1 0):=HW.mp ndk;refine(hs.and nd').imp_of_mem ?_;intro a b ha hb ⟨h1,h2⟩;rw[Al a ha,Al b hb] at h1;generalize a.getD 0 0=a0 at h1 h2 ⊢;generalize a.getD 1 0=a1 at h1 h2 ⊢;generalize b.getD 0 0=b0 at h1 h2 ⊢;generalize b.getD 1 0=b1 at h1 h2 ⊢;unfold A4;show a0 < b0\/(a0=b0/\a1 < b1)
  by_cases e0:a0=b0
  ·subst e0;by_cases e1:a1=b1
   ·exact absurd (by rw[e1]) h2
   ·rw[hU,dO rfl,hU,cU (λz=>e1 z.symm)] at h1;have:=of_decide_eq_false h1;lia
  ·rw[hU,cU (λz=>e0 z.symm)] at h1;have:=of_decide_eq_false h1;lia
 ·refine⟨by rw[bO,bO,hT.len],λi v x h1 h2=>?_⟩;rw[lB] at h1 h2;obtain⟨q,e1,rfl⟩:=mw.mp h1;obtain⟨u,e2,rfl⟩:=mw.mp h2;have:=(hT.at_ i q u e1 e2).1;rw[Al u (pM e2)] at this;exact⟨q,rfl,this⟩
inductive qE  (K:W.Frag) (C:Addr) (vs:List V) (H:Hp) (Q:VK) (E:XK):Prop
 |mk:∀(q:Addr) (m:MS) (t:Addr) (a:au) (n:Nat),(vs=[.ref q,.ref t,.int (n:Int)])->c8 C H q m->m.Good->(H t=some (.tup [.int a.1,.int a.2]))->xj m a->(n<=1000)->(∀la Ls H',aO H H'->H la=none->FE κS H' la Ls->Fj m a Ls->Ls.length=n+1->Q (.ref la) H')->qE K C vs H Q E
theorem qF(tx:Txt K mg a):bT P w K mg base fS 4 a.rH a.rJ aaa (qE K a.aY):=by
 have aFk:=aEz (P:=P) (w:=w) (base:=base) tx;refine tx.cy.F.ok fO (by walk_at "l") λbo A outer s H vs Q E hr h=>?_;obtain⟨q,m,t,st,n,rfl ,hm,hg,ht,di,hn,k⟩:=h;have hu:=gZ hr;refine aZ (aE (aI (i:=3) fO.nd (aHO hu (aB 1) aD))
  (aE (aI (i:=4) fO.nd (pR (pR (aB 1))))
  (aE (bN PassesOwn.never rfl (cO (by rfl) tx.eU (aA (aB 2) aC)) (aK (i:=5) fO.nd) (aE (aI (i:=3) fO.nd (bg aFk hr tx.jm (aA (aB 0) (aA (aB 3) aC))))
  (aG (eZ (gI (Y:=K) (aB 4) (aA (aN (rc:=Qz) (aGz rfl) (by rfl) tx.Rg aKE (aA (aB 3) aC)) aC))))))
  (aG (aM (aB 4)))))) ?_
 refine aU (U:=[A' q,A' t,B' (n:Int),none,none,none]) rfl ?_;rfl';intro w Nz;obtain⟨H1,i1,s1,g1⟩:=nw _ Nz;rw[i1];have ht1:=s1 _ _ ht;rfl';refine⟨t,qW st,rfl,ht1,g1,?_⟩;obtain⟨H2,i2,k2,g2⟩:=wr H1 w _;rw[i2];have S2:aO H H2:=λb o e=>k2 _ _ (s1 _ _ e) (bE Nz e);rfl';intro l0 nl0;obtain⟨H3,i3,s3,g3⟩:=nw _ nl0;rw[i3];rfl';intro la xa;obtain⟨H4,i4,s4,g4⟩:=nw _ xa;rw[i4];have S4:aO H H4:=S2.trans (s3.trans s4);have ID:H la=none:=(S2.trans s3).free xa;have Lb:=(s3.trans s4) _ _ g2;have g34:=s4 _ _ g3;have ht4:=S4 _ _ ht;have wla:w≠la:=λz=>by rw[z,g4] at Lb;cases Lb
 rfl';refine⟨by lia,by lia,?_⟩;refine mF (λi U' H'=>∃(w:Addr) (ps:List WP) (as:ao) (Ls:List (ay)) (z5:Option V),U'=[A' q,A' t,B' (n:Int),A' w,A' la,z5]/\H w=none/\H' w=some (.dT (enc ps))/\AO ps/\(∀s,s∈ps.map (·.1)↔Rc m st i s)/\aO H H'/\H' la=some (.lst (as.map V.ref))/\RL (λb ps=>∃us,H' b=some (.lst us)/\xq κS H' us ps/\b≠la) as Ls/\Fj m st Ls/\Ls.length=i+1)
  ⟨w,[(st,1)],[l0],[[st]],_,rfl,Nz,Lb,⟨by simp,λp hp=>by rw[jy.mp hp];exact di.Ws hg⟩,?_,S4,g4,RL.one ⟨_,g34,⟨rfl,λi v x h1 h2=>?_⟩,λz=>?_⟩,⟨λi ps hi=>?_⟩,rfl⟩ (λi U' H' hi Tc=>?_) (λU' H' Ta=>?_)
 ·intro s;show s∈[st]↔s=st;simp
 ·match i,h1,h2 with
  |0,h1,h2=>cases h1;cases h2;exact⟨t,rfl,ht4⟩
  |_+1,h1,_=>simp at h1
 ·rw[z,xa] at g3;cases g3
 ·match i,hi with
  |0,hi=>cases hi;exact⟨by simp,λs=>by show s∈[st]↔s=st;simp⟩
  |_+1,hi=>simp at hi
 ·obtain⟨w',ps,as,Ls,z5,e,WM,gw,hW,hk,S',G3,Kf,hL,lL⟩:=Tc;subst e;rfl';refine⟨q,m,w',ps,rfl,hm.same S',hg,gw,hW,λw2 Nw H5 s5 nw2 DF OL hk2=>?_⟩;have S5:aO H H5:=λb o e=>s5 _ _ (mO (S' _ _ e) (bE WM e));have xx:H5 la=some (.lst (as.map V.ref)):=s5 _ _ (mO G3 λz=>by rw[z,gw] at G3;cases G3);have Ow:∀s,s∈Nw.map (·.1)↔Rc m st (i+1) s:=λs=>by
   rw[hk2 s];exact⟨λ⟨p,h1,h2⟩=>⟨p,(hk p).mp h1,h2⟩,λ⟨p,h1,h2⟩=>⟨p,(hk p).mpr h1,h2⟩⟩
  have yH:=Rc.yH hg di OL.nd λk hk=>(Ow k).mp hk;rw[bO] at yH;have og:=Kf.len;rfl';refine mW (bP.of xx) ?_;rfl';refine aMZ DF (aNi Nw) (λt ht=>by obtain⟨p,_,rfl⟩:=jQ.mp ht;simp) (by rw[bO];lia) λp qs us np hT hp hs=>?_;obtain⟨ks,k1,k2',k3⟩:=aFj OL.nd hT hp hs;obtain⟨H6,i6,s6,g6⟩:=nw _ np;rw[i6];have IB:p≠la:=λz=>by rw[z,xx] at np;cases np
  rfl';refine sE (xs:=as.map V.ref) (s6 _ _ xx) (uJ (by rw[bO];lia:(as.map V.ref).length < 20000) (cA (by decide))) ?_;obtain⟨H7,i7,k7,g7⟩:=wr H6 la _;rw[i7];have Us:w2≠la:=λz=>by rw[z,xx] at DF;cases DF
  rfl';have hR:RL (λb ps=>∃us,H7 b=some (.lst us)/\xq κS H7 us ps/\b≠la) (as ++ [p]) (Ls ++ [ks]):=by
   refine RL.snoc (Kf.imp λb ps zq=>?_) ⟨_,k7 _ _ g6 IB,⟨k3.1,λi v x h1 h2=>PK.HB (κS.iE (k3.2 i v x h1 h2) s6) (s6 _ _ xx) k7⟩,IB⟩;obtain⟨us,a1,a2,a3⟩:=zq;have a1':H5 b=some (.lst us):=s5 _ _ (mO a1 λz=>by rw[z,gw] at a1;cases a1);refine⟨us,k7 _ _ (s6 _ _ a1') a3,⟨a2.1,λi v x h1 h2=>?_⟩,a3⟩;obtain⟨b',e',yk⟩:=a2.2 i v x h1 h2;exact PK.HB (κS.iE (H:=H5) ⟨b',e',s5 _ _ (mO yk λz=>by rw[z,gw] at yk;cases yk)⟩ s6) (s6 _ _ xx) k7
  have hLL:Fj m st (Ls ++ [ks]):=by
   refine⟨λj rs hj=>?_⟩;by_cases rg:j < Ls.length
   ·rw[rq rg] at hj;exact hL.at_ j rs hj
   ·have GL:j < (Ls ++ [ks]).length:=(mT.mp hj).1;rw[jE,AZ] at GL;obtain rfl:j=Ls.length:=by lia
    rw[ug (eR _),yr] at hj;cases hj;refine⟨k1,λs=>?_⟩;rw[k2' s,Ow s,lL]
  exact⟨w2,Nw,as ++ [p],Ls ++ [ks],_,rfl,S'.free nw2,k7 _ _ (s6 _ _ DF) Us,OL,Ow,λb o e=>k7 _ _ (s6 _ _ (S5 _ _ e)) (bE ID e),by rw[g7,jF];rfl,hR,hLL,by rw[jE,lL];rfl⟩
 ·obtain⟨w',ps,as,Ls,z5,e,WM,gw,hW,hk,S',G3,Kf,hL,lL⟩:=Ta;subst e;rfl';exact k la Ls H' S' ID ⟨as,G3,Kf.imp λb ps ⟨us,a1,a2,_⟩=>⟨us,a1,a2⟩⟩ hL (by lia)
inductive zI  (K:W.Frag) (C:Addr) (vs:List V) (H:Hp) (Q:VK) (E:XK):Prop
 |mk:∀(q:Addr) (m:MS) (t:Addr) (a:au),(vs=[.ref q,.ref t])->c8 C H q m->m.Good->(H t=some (.tup [.int a.1,.int a.2]))->zo a.1 a.2->(∀l H',aO H H'->gQ κS H' l ((([0,1]:ae).filter (vt a)).map λon=>(on,qC m a.1 a.2 on,vx m a on))->Q (.ref l) H')->zI K C vs H Q E
theorem zJ(tx:Txt K mg a):bT P w K mg base fS 7 a.aAX a.aAY aka (zI K a.aY):=by
 have pE:=xT (P:=P) (w:=w) (base:=base) tx;have aJv:=aH9 (P:=P) (w:=w) (base:=base) tx;have jJ:=pD (P:=P) (w:=w) (base:=base) tx;refine tx.gj.F.ok aE8 (by walk_at "l") λbo A outer s H vs Q E hr h=>?_;obtain⟨q,m,t,st,rfl ,hm,hg,ht,di,k⟩:=h;have hu:=gZ hr;refine aZ (aG (aM (cG (k:=1) (idx:=[0,1]) (N:=["on","machine","state"]) (cF (sc:=aJ nW) (NX:=aka) rfl rfl rfl (by decide +kernel)) rfl (aDP (Y:=K) (fN aD aD)) (λ_ _ _ _=>(aK (i:=0) (show(["on","machine","state"]:aj).Nodup by decide +kernel))) (cX (by decide)) (λ_ _ _ _=>(aDO (cN (bg pE hr tx.iq (aA (aB 1) (aA (aB 2) (aA (aB 0) aC))))))) (λ_ _ _ _=>(kH (aB 0) (bg jJ hr tx.cz (aA (aB 1) (aA (aB 2) (aA (aB 0) aC)))) (bg aJv hr tx.oq (aA (aB 1) (aA (aB 2) (aA (pR (aB 0)) aC))))))))) ?_;refine aU (U:=[A' q,A' t]) rfl ?_;rfl';intro Tu NK;obtain⟨H1,i1,s1,DK⟩:=nw _ NK;rw[i1];refine Zq (iF.of DK) ?_;refine aL5 (xs:=([0,1]:ae).map V.int) (λj us H'=>aO H1 H'/\∃as:ao,us=as.map V.ref/\as.length<=j/\RL (mP κS H') as (((([0,1]:ae).take j).filter (vt st)).map λon=>(on,qC m st.1 st.2 on,vx m st on))) ⟨aO.refl _,[],rfl,eR _,RL.nil⟩ (cA (by simp))
  (λj us H' hj ⟨s',as,e,la,r⟩=>⟨iF.of (s' _ _ DK),by rw[e,bO];exact la⟩) (λj v us H' hv S0=>?_) (λus H' SY=>?_)
 ·obtain⟨s',as,e,la,r⟩:=S0;obtain⟨on,xg,rfl⟩:=kU hv;have Cm:qt on:=by
   have:=pM xg;simp at this;exact this
  have tk:([0,1]:ae).take (j+1)=([0,1]:ae).take j ++ [on]:=by rw[CI,xg];rfl
  have S':=s1.trans s';have GF:=S' _ _ ht;rfl';refine⟨_,t,_,_,on,rfl,GF,?_⟩;by_cases fj:st.1=on\/st.2=0
  ·have GI:vt st on=true:=mQ.mpr fj;rw[show(decide (st.1=on) || decide (st.2=0))=true from GI];rfl';refine⟨q,m,t,_,_,on,rfl,hm.same S',GF,fj,λT2 H3 s3 Kr La=>?_⟩;rfl';intro lo nlo;obtain⟨H4,i4,s4,g4⟩:=nw _ nlo;rw[i4];rfl';refine⟨q,m,t,_,_,lo,[on],rfl,hm.same (S'.trans (s3.trans s4)),hg,(s3.trans s4) _ _ GF,g4,by simp,?_,λH5 s5=>?_⟩
   ·show(if st.1=on\/st.2=0 then _ else _)=_;rw[dO fj];rfl
   rfl';intro T nT;obtain⟨H6,i6,s6,g6⟩:=nw _ nT;rw[i6];have ye:=s3.trans (s4.trans (s5.trans s6));refine⟨s'.trans ye,as ++ [T],by rw[e,jF];rfl,by rw[jE];simp;lia,?_⟩;rw[tk,List.filter_append,jF,List.filter_cons_of_pos GI];exact RL.snoc (r.imp λ_ _ z=>z.same ye) ⟨_,g6,T2,rfl,(s4.trans (s5.trans s6)) _ _ La⟩
  ·have GI:vt st on=false:=by cases h:vt st on;rfl;exact absurd (mQ.mp h) fj
   rw[show(decide (st.1=on) || decide (st.2=0))=false from GI];rfl';refine⟨s',as,e,by lia,?_⟩;rw[tk,List.filter_append,jF,List.filter_cons_of_neg (by rw[GI];simp)];simpa using r
 ·obtain⟨s',as,e,la,r⟩:=SY;intro l nl;obtain⟨H3,i3,s3,g3⟩:=nw _ nl;rw[i3];rfl';exact k l H3 (s1.trans (s'.trans s3)) ⟨as,by rw[g3,e],r.imp λ_ _ z=>z.same s3⟩
inductive tG  (K:W.Frag) (C:Addr) (vs:List V) (H:Hp) (Q:VK) (E:XK):Prop
 |mk:∀(q:Addr) (m:MS) (t:Addr) (a:au) (p:Int),(vs=[.ref q,.ref t,.int p])->c8 C H q m->m.Good->(H t=some (.tup [.int a.1,.int a.2]))->zo a.1 a.2->(0<=p)->(p<=1000000000001)->(∀l H',aO H H'->gQ κS H' l (vm m p a)->Q (.ref l) H')->tG K C vs H Q E
theorem aBt(tx:Txt K mg a):bT P w K mg base fS 8 a.aCE a.aCF asa (tG K a.aY):=by
 have aEE:=aDc (P:=P) (w:=w) (base:=base) tx;have tH:=zJ (P:=P) (w:=w) (base:=base) tx;refine tx.b8.F.ok aGF (by walk_at "l") λbo A outer s H vs Q E hr h=>?_;obtain⟨q,m,t,st,pr,rfl ,hm,hg,ht,di,p0,p1,k⟩:=h;have hu:=gZ hr;refine aZ (aG (aM (cG (k:=3) (idx:=[0,2]) (N:=axa) (cF (sc:=aJ pV) (NX:=asa) rfl rfl rfl (by decide +kernel)) rfl (bC (Y:=K) (bg tH hr tx.gj (aA (aB 0) (aA (aB 1) aC)))) (λ_ _ _ _=>(bS (Y:=K) (n:=3) rfl (aR (aK (i:=0) (show(axa:aj).Nodup by decide +kernel)) (aR (aK (i:=1) (show(axa:aj).Nodup by decide +kernel)) (aR (aK (i:=2) (show(axa:aj).Nodup by decide +kernel)) bR))))) (nP (cR (by decide) (cR (by decide) (cR (by decide) kD)))) (λ_ _ _ _=>bH) (λ_ _ _ _=>(kH (aB 0) (aB 1) (aL jR (aB 2) (aL cC (aB 0) (iK (aB 3) tx.cB tx.pe (aEE) (hr.mono (by decide)) tx.jf.b .nil aT (aA (aB 4) aC))))))))) ?_;refine aU (U:=[A' q,A' t,B' pr]) rfl ?_;rfl'
 refine⟨q,m,t,st,rfl,hm,hg,ht,di,λl H1 s1 Dr=>?_⟩;obtain⟨as,gl,rl⟩:=Dr.ex;have og:=rl.len;have II:=aJ8 m pr st;unfold vm at II;rw[bO] at og II;refine eY (bP.of gl) ?_;refine dP (xs:=as.map V.ref) (λj us H'=>aO H1 H'/\∃bs:ao,us=bs.map V.ref/\RL (mP κS H') bs ((vm m pr st).take j)) ⟨aO.refl _,[],rfl,RL.nil⟩ (cA (by rw[bO];lia))
  (λj us H' hj ⟨s',bs,e,r⟩=>⟨bP.of (s' _ _ gl),by rw[e,bO,r.len,yF];lia⟩) (λj v us H' hv SX=>?_) (λus H' SW=>?_)
 ·obtain⟨s',bs,e,r⟩:=SX;obtain⟨a1,w,ea,rfl,ew,vv,g1,hp⟩:=rl.gt hv;rw[lB] at ew;obtain⟨on,xg,rfl⟩:=mw.mp ew;have er:(vm m pr st)[j]?=some (on,qC m st.1 st.2 on,hw m pr st on):=by unfold vm;rw[lB,xg];rfl
  obtain⟨b,rfl,hb⟩:=hp;have Cm:0<=on/\on<=1:=by
   have:=(yt.mp (pM xg)).1;simp at this;lia
  obtain⟨bo0,bo1⟩:=Cm;refine dH (iF.of (s' _ _ g1)) rfl ?_;rfl';have E4:=hm.same (s1.trans s');obtain⟨dx,pl,hq,_⟩:=E4.ex;refine⟨q,dx,_,rfl,hq,rfl,?_⟩;rfl';refine⟨q,m,pr,rfl,E4,hg,p0,p1,?_⟩;rfl';intro T nT;obtain⟨H3,i3,s3,g3⟩:=nw _ nT;rw[i3];refine⟨s'.trans s3,bs ++ [T],by rw[e,jF];rfl,?_⟩;rw[cY er];exact RL.snoc (r.imp λ_ _ z=>z.same s3) ⟨_,g3,b,rfl,(s'.trans s3) _ _ hb⟩
 ·obtain⟨s',bs,e,r⟩:=SW;intro l2 yh;obtain⟨H3,i3,s3,g3⟩:=nw _ yh;rw[i3];rfl';rw[bO,og,show(([0,1]:ae).filter (vt st)).length=(vm m pr st).length by unfold vm;rw[bO],rA] at r;exact k l2 H3 (s1.trans (s'.trans s3)) ⟨bs,by rw[g3,e],r.imp λ_ _ z=>z.same s3⟩
theorem aF8{a:Sa}{m:MS}{ps:ae}(C:Addr->Sp->Prop)(f:Addr)(vk:Sp)(hC:C f vk)(hs:c8 a.aY H x m)(hg:m.Good)(hq:H q=some (.lst (ps.map V.int)))(ha:∀n∈ps,Am n)(h:∀(H':Hp) (h:Nat) (b:Addr) (p:Int) (Q:VK),aO H H'->H' q=some (.lst (ps.map V.int))->pP (ps.map V.int) (h:Int)=some (.int p)->tG K a.aY [.ref x,.ref b,.int p] H' Q E0->vk [.int (h:Int),.ref b] H' Q E0) :
  w5 κS C H f (Wr m ps) λi y=>i < ps.length/\zo y.1 y.2:=by
 refine⟨vk,hC,λH' i v y Q s' hL pq hk=>?_⟩;obtain⟨b,rfl,hb⟩:=pq;obtain⟨hi,hy⟩:=hL;have ep:ps[i]?=some ps[i]:=eQ hi;obtain⟨a0,a1⟩:=ha _ (AY hi);refine h H' i b ps[i] Q s' (s' _ _ hq) (eB (by rw[lB,ep];rfl)) ⟨x,m,b,y,ps[i],rfl,hs.same s',hg,hb,hy,a0,by lia,λl H2 s2 hw=>hk l H2 s2 ?_⟩;unfold Wr;rw[qi,ep];exact hw
inductive nI  (K:W.Frag) (C t:Addr) (vs:List V) (H:Hp) (Q:VK) (E:XK):Prop
 |mk:∀(x:Addr) (m:MS) (b:Addr) (a:au) (q:Addr) (ps:ae),(vs=[.ref x,.ref b,.ref q])->(H t=some (.ig dX dY))->c8 C H x m->m.Good->(H b=some (.tup [.int a.1,.int a.2]))->xj m a->(H q=some (.lst (ps.map V.int)))->((∀n∈ps,Am n))->(ps.length<=48)->(∀r Ls H',aO H H'->H r=none->Fj m a Ls->Ls.length=ps.length+1->Bp κS H' r Ls (λi=>wF (Wr m ps) (Ls.length - 1 - i) i)->Q (.ref r) H')->nI K C t vs H Q E
theorem yD(tx:Txt K mg a):bT P w K mg base fS 12 a.o6 a.jV gz (nI K a.aY a.cI):=by
 have lO:=qF (P:=P) (w:=w) (base:=base) tx;have fQ:=λbz:Heap=>kW (P:=P) (w:=w) (base:=bz) tx;refine tx.dv.F.Gv tx.pB nE (λvs H Q E h=>?_) (λA outer s H vs Q E hr h=>?_)
 ·obtain⟨x,m,b,st,q,ps,rfl,_⟩:=h;rfl
 ·obtain⟨x,m,b,st,q,ps,rfl ,gt,hm,hg,hb,di,hq,ha,hl,k⟩:=h;have hu:=gZ hr;refine aZ (aE (aI (i:=3) nE.nd (bg lO hr tx.cy (aA (aB 0) (aA (aB 1) (aA (aN (rc:=nQ K) cV (by rfl) tx.iV fT (aA (aB 2) aC)) aC)))))
   (aG (aM (mJ (psL:=bna) (N:=aUa) (idx:=[0,2]) (sp:=λC=>fP K C) (kc:=8) (fQ) (hr.mono (by decide)) (by rfl) tx.bf.g tx.bf.F.kp tx.bf.b (λ_=>rfl) (cF (sc:=aJ dE) (NX:=bca) rfl rfl rfl (by decide +kernel)) rfl rfl rfl rfl (λ_ _ _ _ us hl=>by obtain⟨_,_,rfl⟩:=DM us hl;rfl) (jT (aB 3) (oO (N:=aUa) (n:=2) (idx:=[0,2]) rfl tx.pB.hd rfl rfl (cF (sc:=aJ dE) (NX:=bca) rfl rfl rfl (by decide +kernel)))) (λ_ _ _ _ _ _ _ _ hr hu=>(aF (aBt tx) (hr.mono (by decide)) (by rfl) tx.b8.g tx.b8.F.kp tx.b8.b .nil aT (aA (aB 2) (aA (aB 1) (aA (aH (Y:=K) (aB 3) (aB 0)) aC))))))))) ?_
  refine aU (U:=[A' x,A' b,A' q,none]) rfl ?_;rfl';refine⟨x,m,b,st,ps.length,by rw[bO],hm,hg,hb,di,by lia,λla Ls H1 s1 xa Cb hL lL=>?_⟩;rfl';refine⟨s1 _ _ gt,λf c' H3 Cc s3 hc hC=>?_⟩;have ib:=s1.trans s3;refine⟨au,κS,la,f,Ls,Wr m ps,_,rfl,Cb.same s3,Q6 hg di ps (by lia) hL,by lia,aF8 (K:=K) (a:=a) Cc f _ hC (hm.same ib) hg (ib _ _ hq) ha (λH' h b' p Q s' gq hp ic=>?_),λi qs y e1 e2 hy=>?_,λr H4 s4 nr hd=>?_⟩
  ·refine⟨s' _ _ hc,rfl,?_⟩;refine Ht (U:=[B' (h:Int),A' b',A' x,A' q]) rfl ?_;rfl';exact ic
  ·exact⟨by lia,(Rc.st hg di (((hL.at_ i qs e1).2 y).mp hy)).1⟩
  ·exact k r Ls H4 (ib.trans s4) (ib.free nr) hL lL hd
inductive uB  (K:W.Frag) (C t1 t2:Addr) (vs:List V) (H:Hp) (Q:VK) (E:XK):Prop
 |mk:∀(x:Addr) (m:MS) (b:Addr) (a:au) (q:Addr) (ps:ae),(vs=[.ref x,.ref b,.ref q])->(H t1=some (.ig dX dY))->(H t2=some (.ig gX gY))->c8 C H x m->m.Good->(H b=some (.tup [.int a.1,.int a.2]))->xj m a->(H q=some (.lst (ps.map V.int)))->((∀n∈ps,Am n))->(ps.length<=48)->(∀T r H',aO H H'->H r=none->H' T=some (.tup [.int (Gp m ps a),.ref r])->H' r=some (.lst ((rrF m ps a).map V.int))->Q (.ref T) H')->uB K C t1 t2 vs H Q E
theorem aDg(tx:Txt K mg a):bT P w K mg base fS 13 a.v8 a.o7 gz (uB K a.aY a.cI a.dR):=by
 have aAk:=yD (P:=P) (w:=w) (base:=base) tx;have tF:=λbz:Heap=>aBp (P:=P) (w:=w) (base:=bz) tx;refine tx.ja.F.Gv tx.wN mZ (λvs H Q E h=>?_) (λA outer s H vs Q E hr h=>?_)
 ·obtain⟨x,m,b,st,q,ps,rfl,_⟩:=h;rfl
 ·obtain⟨x,m,b,st,q,ps,rfl ,G1,G0,hm,hg,hb,di,hq,ha,hl,k⟩:=h;have hu:=gZ hr;refine aZ (aE (aI (i:=3) mZ.nd (bg aAk hr tx.dv (aA (aB 0) (aA (aB 1) (aA (aB 2) aC)))))
   (aE (aI (i:=4) mZ.nd (mJ (psL:=bna) (N:=aUa) (idx:=[0,2]) (sp:=λC=>oB K C) (kc:=8) (tF) (hr.mono (by decide)) (by rfl) tx.cb.g tx.cb.F.kp tx.cb.b (λ_=>rfl) (cF (sc:=aJ eK) (NX:=a3a) rfl rfl rfl (by decide +kernel)) rfl rfl rfl rfl (λ_ _ _ _ us hl=>by obtain⟨_,_,rfl⟩:=DM us hl;rfl) (jT (aB 1) (jT (aB 3) (oO (N:=aUa) (n:=2) (idx:=[0,2]) rfl tx.wN.hd rfl rfl (cF (sc:=aJ eK) (NX:=a3a) rfl rfl rfl (by decide +kernel))))) (λ_ _ _ _ _ _ _ _ hr hu=>(aF (aBt tx) (hr.mono (by decide)) (by rfl) tx.b8.g tx.b8.F.kp tx.b8.b .nil aT (aA (aB 2) (aA (aB 1) (aA (aH (Y:=K) (aB 3) (aB 0)) aC)))))))
   (aG (aM (fN (iL hu (aH (Y:=K) (aB 3) aD) (aB 1)) (aB 4)))))) ?_
  refine aU (U:=[A' x,A' b,A' q,none,none]) rfl ?_;rfl';refine⟨x,m,b,st,q,ps,rfl,G1,hm,hg,hb,di,hq,ha,hl,λlw Ls H1 s1 EO hL lL hd=>?_⟩;rfl';refine⟨s1 _ _ G0,λf c' H3 Cc s3 hc hC=>?_⟩;have ib:=s1.trans s3;have O1:Ls[0]?=some Ls[0]:=eQ (by lia);have Xc:st∈Ls[0]:=((hL.at_ 0 _ O1).2 st).mpr rfl;refine⟨au,κS,.ref b,st,Ls[0],lw,f,Ls,Wr m ps,_,rfl,⟨b,rfl,ib _ _ hb⟩,hd.same s3,O1,Xc,Q6 hg di ps (by lia) hL,by lia,aF8 (K:=K) (a:=a) Cc f _ hC (hm.same ib) hg (ib _ _ hq) ha (λH' h b' p Q s' gq hp ic=>?_),λi qs y e1 e2 hy=>?_,λr H4 s4 nr gr=>?_⟩
  ·refine⟨s' _ _ hc,rfl,?_⟩;refine Ht (U:=[B' (h:Int),A' b',A' x,A' q]) rfl ?_;rfl';exact ic
  ·exact⟨by lia,(Rc.st hg di (((hL.at_ i qs e1).2 y).mp hy)).1⟩
  ·have A7:=ib.trans s4;obtain⟨ds,Fe,EX,vp⟩:=(hd.same (s3.trans s4)).ex;have ed:ds[0]?=some ds[0]:=eQ (by lia);have h0:=vp 0 _ _ ed O1;generalize ds[0]=d0 at ed h0;have ix:pP (ds.map V.ref) 0=some (.ref d0):=eB (j:=0) (DW ed);rfl';refine⟨d0,_,rfl,κS.get (v:=.ref b) (x:=st) h0 ⟨b,rfl,A7 _ _ hb⟩ Xc,?_⟩;rfl';intro T nT;obtain⟨H5,i5,s5,g5⟩:=nw _ nT;rw[i5];rfl';have e1:Ls.length - 1=ps.length:=by lia
   rw[e1] at gr;rw[HL,e1] at g5;exact k T r H5 (A7.trans s5) (ib.free nr) g5 (s5 _ _ gr)
inductive zK  (K:W.Frag) (vs:List V) (H:Hp) (Q:VK) (E:XK):Prop
 |mk:∀(p b:Addr) (x y M:Int),(vs=[.ref p,.ref b,.int M])->bG H p->(H b=some (.lst [.int x,.int y]))->(1<=y)->(y<=50000000000)->Am M->(∀(r:Int) H',0<=r->r<=M->bG H' p->bX p H H'->mM p H H'->Q (.int r) H')->zK K vs H Q E
theorem aFl(tx:Txt K mg a):bT P w K mg base fS 2 a.aAZ a.aA0 aoa (zK K):=by
 have aS:=eI (P:=P) (w:=w) (base:=base) tx;refine tx.ku.F.ok aE9 (by walk_at "l") λbo A outer s H vs Q E hr h=>?_;obtain⟨p,b,x,y,M,rfl ,hh,hb,y0,y1,hM,k⟩:=h;have hu:=gZ hr;refine aZ (aG (aM (aN (lC rfl) (by rfl) tx.wQ sA (aA (aN (oE rfl) (by rfl) tx.CC FN (aA aD (aA (aL jR (aL bJ (aL cC (aH (Y:=K) (aB 1) aD) (bg aS hr tx.af (aA (aB 0) (aA aD aC)))) (bg aS hr tx.af (aA (aB 0) (aA aD aC)))) aD) aC))) (aA (aB 2) aC))))) ?_;obtain⟨m0,m1⟩:=hM;have bp:b≠p:=hh.Cw hb (by simp);refine aU (U:=[A' p,A' b,B' M]) rfl ?_;rfl';refine⟨p,_,rfl,hh,by decide,by decide,λr1 H1 a1 b1 h1 k1 q1=>?_⟩;rfl';refine⟨p,_,rfl,h1,by decide,by decide,λr2 H2 a2 b2 h2 k2 q2=>?_⟩;rfl';exact k _ _ (by lia) (by lia) h2 (k1.trans k2) (q1.trans q2)
def GA(W:WS)(P:Ps)(qs:ae):ae:=List.zipWith (λm s=>Gp m qs s) W.specs P.1
def EU(W:WS)(P:Ps)(qs:ae):Int:=match W.store with|none=>0|some s=>NM s qs P.2
def J4(qs ws:ae):Int:=List.sum (List.zipWith (λp w=>p*w) qs ws)
def ph(W:WS)(P:Ps)(ws qs:ae):Int:=J4 qs ws+List.sum (GA W P qs)+EU W P qs
structure DP(W:WS)(P:Ps):Prop where
 ok:FF W P
 st:∀(j:Nat) m s,W.specs[j]?=some m->P.1[j]?=some s->xj m s
structure Cp(H:Hp)(t1 t2 t3 t4:Addr):Prop where
 a:H t1=some (.ig dX dY)
 b:H t2=some (.ig gX gY)
 c:H t3=some (.ig dU dW)
 d:H t4=some (.ig gB gC)
theorem Cp.same{H H':Hp}{t1 t2 t3 t4:Addr}(h:Cp H t1 t2 t3 t4)(s:aO H H'):Cp H' t1 t2 t3 t4:=⟨s _ _ h.a,s _ _ h.b,s _ _ h.c,s _ _ h.d⟩
theorem RF{α β γ:Type}{f:α->β->γ}{xs:List α}{ys:List β}{i:Nat}{x:α}{y:β}(h1:xs[i]?=some x)(h2:ys[i]?=some y):List.zipWith f (xs.take (i+1)) (ys.take (i+1))=List.zipWith f (xs.take i) (ys.take i) ++ [f x y]:=by
 have e:(List.zipWith f xs ys)[i]?=some (f x y):=by rw[List.getElem?_zipWith,h1,h2]
 rw[<-List.take_zipWith,<-List.take_zipWith];exact take_snoc e
inductive mR  (K:W.Frag) (CW CM CS t1 t2 t3 t4:Addr) (vs:List V) (H:Hp) (Q:VK) (E:XK):Prop
 |mk:∀(w:Addr) (W:WS) (a:Addr) (P:Ps) (q:Addr) (qs:ae),(vs=[.ref w,.ref a,.ref q])->gO CW CM CS H w W->W.Good->tW H a P->DP W P->(H q=some (.lst (qs.map V.int)))->((∀n∈qs,Am n))->(qs.length<=48)->Cp H t1 t2 t3 t4->(∀(l:Addr) (H':Hp),aO H H'->H' l=some (.lst ((GA W P qs).map V.int))->Q (.ref l) H')->mR K CW CM CS t1 t2 t3 t4 vs H Q E
theorem xC(tx:Txt K mg a):bT P w K mg base fS 14 a.nF a.nG fv (mR K a.eC a.aY a.cJ a.cI a.dR a.cH a.dI):=by
 have aEF:=aDg (P:=P) (w:=w) (base:=base) tx;refine tx.dm.F.ok vN (by walk_at "l") λbo A outer s H vs Q E hr h=>?_;obtain⟨w,W,ap,P,q,qs,rfl ,hw,hg,hP,hB,hq,ha,hl,hT,k⟩:=h;have hu:=gZ hr;refine aZ (aG (aM (cG (k:=2) (idx:=[2]) (N:=gz) (cF (sc:=aJ fV) (NX:=fv) rfl rfl rfl (by decide +kernel)) rfl (sG (k1:=true) (k2:=false) (by rfl) tx.DS (aA (bI (Y:=K) (aB 0) rfl) (aA (aH (Y:=K) (aB 1) aD) aC))) (λ_ _ _ _=>(bS (Y:=K) (n:=2) rfl (aR (aK (i:=0) (show(gz:aj).Nodup by decide +kernel)) (aR (aK (i:=1) (show(gz:aj).Nodup by decide +kernel)) bR)))) (nP (cR (by decide) (cR (by decide) kD))) (λ_ _ _ _=>bH) (λ_ _ _ _=>(aH (Y:=K) (bg aEF hr tx.ja (aA (aB 0) (aA (aB 1) (aA (aB 2) aC)))) aD))))) ?_;obtain⟨dx,lm,st,gw,KL,kb⟩:=hw.ex;obtain⟨ms,G2,B4⟩:=KL.ex;obtain⟨t,gP,KA⟩:=hP.ex;obtain⟨ts,GZ,Gq⟩:=KA.ex;have EW:=B4.len;have ET:=Gq.len;have NP:=hB.ok.len;have l6:=hg.len;refine aU (U:=[A' w,A' ap,A' q]) rfl ?_
 rfl';refine dM gw tx.lW tx.lM rfl ?_;rfl';refine Md (Src.lst G2) (Src.tup GZ) ?_;refine xS (n:=W.specs.length) (by rw[bO];lia) (by rw[bO];lia) (.inl (by rw[bO];lia)) (cA (by lia))
  (λi us H'=>aO H H'/\us=((List.zipWith (λm s=>Gp m qs s) (W.specs.take i) (P.1.take i)).map V.int)/\us.length<=i) ⟨aO.refl _,by simp,eR _⟩
  (λi us H' hi ⟨s',e1,e2⟩=>⟨⟨Src.lst (s' _ _ G2),Src.tup (s' _ _ GZ)⟩,e2⟩)
  (λi x y us H' T hx hy SV nT=>?_) (λus H' SU=>?_)
 ·obtain⟨s',e1,e2⟩:=SV;obtain⟨xm,m,_,rfl,em,hm⟩:=B4.get hx;obtain⟨xt,s,_,rfl,es,hs⟩:=Gq.get hy;obtain⟨J,j,sT,gT⟩:=nw _ nT;rw[j];have s2:=s'.trans sT;refine dH (iF.of gT) rfl ?_;rfl';have yl:=hT.same s2;refine⟨xm,m,xt,s,q,qs,rfl,yl.a,yl.b,hm.same s2,hg.specs m (pM em),s2 _ _ hs,hB.st i m s em es,s2 _ _ hq,ha,hl,λT2 r2 H3 s3 nr2 La gr2=>?_⟩;rfl';refine⟨s2.trans s3,?_,by rw[jE,AZ];lia⟩;rw[e1,RF em es,jF];rfl
 ·obtain⟨s',e1,e2⟩:=SU;subst e1;rw[rA,<-NP,rA];intro l nl;obtain⟨J,j,sT,gT⟩:=nw _ nl;rw[j];rfl';exact k l J (s'.trans sT) gT
inductive qG  (K:W.Frag) (CW CM CS t1 t2 t3 t4:Addr) (vs:List V) (H:Hp) (Q:VK) (E:XK):Prop
 |mk:∀(w:Addr) (W:WS) (a:Addr) (P:Ps) (q:Addr) (qs:ae),(vs=[.ref w,.ref a,.ref q])->gO CW CM CS H w W->W.Good->tW H a P->DP W P->(H q=some (.lst (qs.map V.int)))->((∀n∈qs,Am n))->(qs.length<=48)->Cp H t1 t2 t3 t4->(∀(H':Hp),aO H H'->Q (.int (EU W P qs)) H')->qG K CW CM CS t1 t2 t3 t4 vs H Q E
theorem aBu(tx:Txt K mg a):bT P w K mg base fS 14 a.rK a.rL fv (qG K a.eC a.aY a.cJ a.cI a.dR a.cH a.dI):=by
 have aDh:=aB4 (P:=P) (w:=w) (base:=base) tx;refine tx.fq.F.ok aAG (by walk_at "l") λbo A outer s H vs Q E hr h=>?_;obtain⟨w,W,ap,P,q,qs,rfl ,hw,hg,hP,hB,hq,ha,hl,hT,k⟩:=h;have hu:=gZ hr;refine aZ (aG (aM (uZ (aW FJ (bI (Y:=K) (aB 0) rfl) fD (bD _)) aD (aH (Y:=K) (bg aDh hr tx.gy (aA (bI (Y:=K) (aB 0) rfl) (aA (aH (Y:=K) (aB 1) aD) (aA (aB 2) aC)))) aD)))) ?_;obtain⟨dx,lm,st,gw,KL,kb⟩:=hw.ex;obtain⟨t,gP,KA⟩:=hP.ex;have mh:=hB.ok.Az;unfold CB at mh;unfold EU at k;refine aU (U:=[A' w,A' ap,A' q]) rfl ?_;rfl';refine dM gw tx.lW tx.jI rfl ?_;cases e:W.store with
 |none=>
  rw[e] at kb k
  replace kb:st=.br:=kb
  subst kb;repeat walk_at "gs"
  exact k H (aO.refl _)
 |some sv=>
  rw[e] at kb k mh;obtain⟨c,rfl,hc⟩:=kb
  replace mh:0<=P.2/\P.2<=sv.cm:=mh
  repeat walk_at "gs"
  refine dM gw tx.lW tx.jI rfl ?_;repeat walk_at "gs"
  refine⟨c,sv,P.2,q,qs,rfl,hT.c,hT.d,hc,hg.store sv e,mh.1,mh.2,hq,ha,hl,λT r H2 s2 nr gT gr=>?_⟩;rfl';exact k H2 s2
inductive xD  (K:W.Frag) (CW CM CS t1 t2 t3 t4:Addr) (vs:List V) (H:Hp) (Q:VK) (E:XK):Prop
 |mk:∀(w:Addr) (W:WS) (a:Addr) (P:Ps) (u:Addr) (ws:ae) (q:Addr) (qs:ae),(vs=[.ref w,.ref a,.ref u,.ref q])->gO CW CM CS H w W->W.Good->tW H a P->DP W P->(H u=some (.lst (ws.map V.int)))->(H q=some (.lst (qs.map V.int)))->(ws.length=qs.length)->((∀n∈qs,Am n))->(qs.length<=48)->Cp H t1 t2 t3 t4->(∀(H':Hp),aO H H'->Q (.int (ph W P ws qs)) H')->xD K CW CM CS t1 t2 t3 t4 vs H Q E
theorem pH(tx:Txt K mg a):bT P w K mg base fS 15 a.yU a.yV aAa (xD K a.eC a.aY a.cJ a.cI a.dR a.cH a.dI):=by
 have yE:=xC (P:=P) (w:=w) (base:=base) tx;have aB6:=aBu (P:=P) (w:=w) (base:=base) tx;refine tx.de.F.ok oX (by walk_at "l") λbo A outer s H vs Q E hr h=>?_;obtain⟨w,W,ap,P,u,ws,q,qs,rfl ,hw,hg,hP,hB,AA,hq,hlen,ha,hl,hT,k⟩:=h;have hu:=gZ hr;refine aZ (aE (aI (i:=4) oX.nd (aN (rc:=Hb K) (Rw rfl) (by rfl) tx.Hm QN (aA (cG (k:=2) (idx:=[]) (N:=bLa) (cF (sc:=aJ lP) (NX:=boa) rfl rfl rfl (by decide +kernel)) rfl (sG (k1:=true) (k2:=true) (by rfl) tx.DS (aA (aB 3) (aA (aB 2) aC))) (λ_ _ _ _=>(bS (Y:=K) (n:=2) rfl (aR (aK (i:=0) (show(bLa:aj).Nodup by decide +kernel)) (aR (aK (i:=1) (show(bLa:aj).Nodup by decide +kernel)) bR)))) (nP (cR (by decide) (cR (by decide) kD))) (λ_ _ _ _=>bH) (λ_ _ _ _=>(aL cC (aB 0) (aB 1)))) aC)))
  (aE (aI (i:=5) oX.nd (aN (rc:=Hb K) (Rw rfl) (by rfl) tx.Hm QN (aA (bg yE hr tx.dm (aA (aB 0) (aA (aB 1) (aA (aB 3) aC)))) aC)))
  (aG (aM (aL bJ (aL bJ (aB 4) (aB 5)) (bg aB6 hr tx.fq (aA (aB 0) (aA (aB 1) (aA (aB 3) aC))))))))) ?_
 refine aU (U:=[A' w,A' ap,A' u,A' q,none,none]) rfl ?_;rfl';refine Md (Src.lst hq) (Src.lst AA) ?_;refine xS (n:=qs.length) (by rw[bO];lia) (by rw[bO];lia) (.inl (by rw[bO])) (cA (by lia))
  (λi us H'=>aO H H'/\us=((List.zipWith (λp w=>p*w) (qs.take i) (ws.take i)).map V.int)/\us.length<=i) ⟨aO.refl _,by simp,eR _⟩
  (λi us H' hi ⟨s',e1,e2⟩=>⟨⟨Src.lst (s' _ _ hq),Src.lst (s' _ _ AA)⟩,e2⟩)
  (λi x y us H' T hx hy SR nT=>?_) (λus H' SQ=>?_)
 ·obtain⟨s',e1,e2⟩:=SR;obtain⟨pr,ep,rfl⟩:=kU hx;obtain⟨wn,ew,rfl⟩:=kU hy;obtain⟨p0,p1⟩:=ha pr (pM ep);obtain⟨J,j,sT,gT⟩:=nw _ nT;rw[j];refine dH (iF.of gT) rfl ?_;rfl';refine⟨s'.trans sT,?_,by rw[jE,AZ];lia⟩;rw[e1,RF ep ew,jF];rfl
 obtain⟨s',e1,e2⟩:=SQ;subst e1;rw[rA,<-hlen,rA];intro l nl;obtain⟨H2,i2,s2,g2⟩:=nw _ nl;rw[i2];have S2:=s'.trans s2;rfl';refine QL (bP.of g2) ?_;rfl';refine⟨w,W,ap,P,q,qs,rfl,hw.tr S2.tr,hg,hP.tk S2.tk,hB,S2 _ _ hq,ha,hl,hT.same S2,λl2 H3 s3 g3=>?_⟩;have S3:=S2.trans s3;rfl';refine QL (bP.of g3) ?_;rfl';refine⟨w,W,ap,P,q,qs,rfl,hw.tr S3.tr,hg,hP.tk S3.tk,hB,S3 _ _ hq,ha,hl,hT.same S3,λH4 s4=>?_⟩;rfl';exact k H4 (S3.trans s4)
section Enm
variable{α:Type}
def yq(W:Nat->α->List (Wy α)):Nat->α->ae->Option (α×Int)
 |_,x,[]=>some (x,0)
 |i,x,c::r=>match (W i x).find? λw=>decide (w.1=c) with
  |none=>none
  |some w=>(yq W (i+1) w.2.1 r).map λe=>(e.1,w.2.2+e.2)
theorem Qp{W:Nat->α->List (Wy α)}:∀{row:ae}{i:Nat}{x:α},Cq W i x row=(yq W i x row).map (·.2)
 |[],_,_=>rfl
 |c::r,i,x=>by
  unfold Cq yq;cases (W i x).find? λw=>decide (w.1=c) with
  |none=>rfl
  |some w=>
   show Option.map _ _=Option.map _ (Option.map _ _);rw[Qp,Option.map_map,Option.map_map];rfl
theorem RE{W:Nat->α->List (Wy α)}{c:Int}:∀{row:ae}{i:Nat}{x:α},yq W i x (row ++ [c])=(yq W i x row).bind λe=>((W (i+row.length) e.1).find? λw=>decide (w.1=c)).map λv=>(v.2.1,e.2+v.2.2)
 |[],i,x=>by
  show(match (W i x).find? λw=>decide (w.1=c) with|none=>none|some w=>(some (w.2.1,(0:Int))).map λe=>(e.1,w.2.2+e.2))=((W (i+0) x).find? λw=>decide (w.1=c)).map λv=>(v.2.1,0+v.2.2)
  rw[Nat.add_zero];cases (W i x).find? λw=>decide (w.1=c) with
  |none=>rfl
  |some w=>
   show some (w.2.1,w.2.2+0)=some (w.2.1,0+w.2.2);rw[AW,CG]
 |d::r,i,x=>by
  show yq W i x (d::(r ++ [c]))=_;unfold yq;cases (W i x).find? λw=>decide (w.1=d) with
  |none=>rfl
  |some w=>
   show Option.map _ (yq W (i+1) w.2.1 (r ++ [c]))=(Option.map _ (yq W (i+1) w.2.1 r)).bind _;rw[RE,qh,show i+1+r.length=i+(r.length+1) by lia];cases yq W (i+1) w.2.1 r with
   |none=>rfl
   |some e=>
    show Option.map _ (Option.map _ _)=Option.map _ _;rw[Option.map_map];congr 1;funext v
    show(v.2.1,w.2.2+(e.2+v.2.2))=(v.2.1,w.2.2+e.2+v.2.2)
    rw[Int.add_assoc]
end Enm
section Fwd
variable{α:Type}[DecidableEq α]
def Bo(ps:List (α×Int))(k:α):Option Int:=(ps.find? λp=>decide (p.1=k)).map (·.2)
def Bs(ps:List (α×Int))(k:α)(v:Int):List (α×Int):=if ps.any (λp=>decide (p.1=k)) then ps.map (λp=>if p.1=k then (p.1,v) else p) else ps ++ [(k,v)]
theorem Mx{ps:List (α×Int)}{k:α}{v:Int}{q:α×Int}:q∈Bs ps k v↔q=(k,v)\/(q∈ps/\q.1≠k):=by
 unfold Bs;by_cases h:ps.any (λp=>decide (p.1=k))=true
 ·rw[dO h,jQ];constructor
  ·rintro ⟨p,hp,rfl⟩;by_cases e:p.1=k
   ·rw[dO e,e];exact .inl rfl
   ·rw[cU e];exact .inr ⟨hp,e⟩
  ·rintro (rfl|⟨h1,h2⟩)
   ·obtain⟨p,hp,e⟩:=D6.mp h;have e':=ud e;exact⟨p,hp,by rw[dO e',e']⟩
   ·exact⟨q,h1,cU h2⟩
 ·rw[cU h,nz,jy];constructor
  ·rintro (h1|h1)
   ·exact .inr ⟨h1,λe=>h (D6.mpr ⟨q,h1,mv e⟩)⟩
   ·exact .inl h1
  ·rintro (h1|⟨h1,_⟩)
   ·exact .inr h1
   ·exact .inl h1
theorem aO9{ps:List (α×Int)}{k:α}{v:Int}(nd:(ps.map (·.1)).Nodup):((Bs ps k v).map (·.1)).Nodup:=by
 unfold Bs;by_cases h:ps.any (λp=>decide (p.1=k))=true
 ·rw[dO h,qg];have e:((λp:α×Int=>p.1) ∘ λp:α×Int=>if p.1=k then (p.1,v) else p)=λp=>p.1:=by
   funext p
   show(if p.1=k then (p.1,v) else p).1=p.1;split <;> rfl
  rw[e];exact nd
 ·rw[cU h,jF,List.nodup_append];refine⟨nd,by simp,λa ha b hb z=>?_⟩;rw[yG,xk,jy] at hb;obtain⟨p,hp,e⟩:=jQ.mp ha;exact h (D6.mpr ⟨p,hp,mv (e.trans (z.trans hb))⟩)
theorem aIl(ps:List (α×Int))(k:α)(v:Int):(Bs ps k v).length<=ps.length+1:=by
 unfold Bs;split
 ·rw[bO];lia
 ·rw[jE];simp
theorem aNj{ps:List (α×Int)}{k:α}{v:Int}(h:Bo ps k=some v):(k,v)∈ps:=by
 unfold Bo at h;obtain⟨p,hp,rfl⟩:=mw.mp h;have e:=ud (List.find?_some (p:=λp:α×Int=>decide (p.1=k)) hp);rw[<-e];exact Ic hp
theorem aPa{ps:List (α×Int)}(nd:(ps.map (·.1)).Nodup){q:α×Int}(h:q∈ps):Bo ps q.1=some q.2:=by
 induction ps with
 |nil=>cases h
 |cons p r ih=>
  rw[yG,va] at nd;unfold Bo;rw[uq];rcases pN.mp h with rfl|h
  ·rw[mv rfl];rfl
  ·have ne:p.1≠q.1:=λe=>nd.1 (by rw[e];exact jQ.mpr ⟨q,h,rfl⟩);rw[uc ne];exact ih nd.2 h
structure qH(cs qs:List (α×Int)):Prop where
 nd:(qs.map (·.1)).Nodup
 so:∀q∈qs,q∈cs
 co:∀c∈cs,∃q∈qs,q.1=c.1/\q.2<=c.2
theorem qH.nil:qH ([]:List (α×Int)) []:=⟨List.nodup_nil,(λ_ h=>by cases h),λ_ h=>by cases h⟩
theorem qH.on{cs qs:List (α×Int)}{y:α}{u:Int}(h:qH cs qs):qH (cs ++ [(y,u)]) (Bs qs y (min ((Bo qs y).getD u) u)):=by
 refine⟨aO9 h.nd,λq hq=>?_,λc hc=>?_⟩
 ·rcases Mx.mp hq with rfl|⟨h1,_⟩
  ·cases e:Bo qs y with
   |none=>
    show(y,min u u)∈_;rw[Int.min_self];exact uf _ (.head _)
   |some v=>
    show(y,min v u)∈_;by_cases hv:v<=u
    ·rw[Int.min_eq_left hv];exact Bx _ (h.so _ (aNj e))
    ·rw[Int.min_eq_right (by lia)];exact uf _ (.head _)
  ·exact Bx _ (h.so q h1)
 ·rcases nz.mp hc with z|z
  ·obtain⟨q,hq,e1,e2⟩:=h.co c z;by_cases e:q.1=y
   ·refine⟨_,Mx.mpr (.inl rfl),by show y=c.1;rw[<-e,e1],?_⟩;have:=aPa h.nd hq;rw[e] at this;show min ((Bo qs y).getD u) u<=c.2;rw[this];show min q.2 u<=c.2;lia
   ·exact⟨q,Mx.mpr (.inr ⟨hq,e⟩),e1,e2⟩
  ·rw[jy.mp z];exact⟨_,Mx.mpr (.inl rfl),rfl,by show min _ u<=u;lia⟩
def Ha(W:Nat->α->List (Wy α))(i:Nat)(ps:List (α×Int)):List (α×Int):=ps.flatMap λp=>(W i p.1).map λw=>(w.2.1,p.2+w.2.2)
structure Fw(W:Nat->α->List (Wy α))(a:α)(i:Nat)(ps:List (α×Int)):Prop where
 nd:(ps.map (·.1)).Nodup
 so:∀p∈ps,∃row:ae,row.length=i/\yq W 0 a row=some p
 co:∀(row:ae) e,row.length=i->yq W 0 a row=some e->∃p∈ps,p.1=e.1/\p.2<=e.2
theorem Fw.on{W:Nat->α->List (Wy α)}(hr:∀i x,LJ (W i x)){a:α}{i:Nat}{ps qs:List (α×Int)}(h:Fw W a i ps)(hq:qH (Ha W i ps) qs):Fw W a (i+1) qs:=by
 refine⟨hq.nd,λq qa=>?_,λrow e hl he=>?_⟩
 ·obtain⟨p,hp,hc⟩:=D5.mp (hq.so q qa);obtain⟨w,hw,rfl⟩:=jQ.mp hc;obtain⟨row,l1,e1⟩:=h.so p hp;refine⟨row ++ [w.1],by rw[jE,l1];rfl,?_⟩;rw[RE,e1,l1,AV];show Option.map _ ((W i p.1).find? _)=_;rw[aF3 (hr i p.1) hw];rfl
 ·have cj:row≠[]:=λz=>by rw[z] at hl;cases hl
  have es:=List.dropLast_concat_getLast cj;have lk:row.dropLast.length=i:=by rw[List.length_dropLast,hl];rfl
  rw[<-es,RE] at he;obtain⟨e',he',hv⟩:=Option.bind_eq_some_iff.mp he;obtain⟨v,hf,ev⟩:=mw.mp hv;rw[lk,AV] at hf;cases ev;obtain⟨p,hp,e1,e2⟩:=h.co row.dropLast e' lk he';have hw:=Ic hf;obtain⟨q,qa,q1,q2⟩:=hq.co (v.2.1,p.2+v.2.2) (D5.mpr ⟨p,hp,jQ.mpr ⟨v,by rw[e1];exact hw,rfl⟩⟩);refine⟨q,qa,q1,?_⟩;have q2':q.2<=p.2+v.2.2:=q2;show q.2<=e'.2+v.2.2;lia
theorem Fw.least{W:Nat->α->List (Wy α)}{n:Nat}{L:Nat->α->Prop}(hl:Lay W n L)(hr:∀i x,LJ (W i x)){a:α}(ha:L 0 a){ps:List (α×Int)}(h:Fw W a n ps):ps≠[]/\∀m,m∈ps.map (·.2)->(∀x∈ps.map (·.2),m<=x)->m=wF W n 0 a:=by
 obtain⟨r1,r2⟩:=aJ5 hl hr n 0 a (by lia) ha;rw[Qp] at r1;obtain⟨e,e1,e2⟩:=mw.mp r1;obtain⟨p,hp,p1,p2⟩:=h.co _ e r2 e1;refine⟨(λz=>by rw[z] at hp;cases hp),λm hm hle=>?_⟩;have a1:=hle p.2 (jQ.mpr ⟨p,hp,rfl⟩);obtain⟨q,hq,rfl⟩:=jQ.mp hm;obtain⟨row,l1,f1⟩:=h.so q hq;have a2:=Zk (W:=W) (row:=row) (i:=0) (x:=a) (v:=q.2) (by rw[Qp,f1];rfl);rw[l1] at a2;have a3:e.2=wF W n 0 a:=e2;lia
end Fwd
theorem aIm(x:Option Int)(n:Int):(x.map V.int).getD (.int n)=.int (x.getD n):=by cases x <;> rfl
inductive aBw  (K:W.Frag) (vs:List V) (H:Hp) (Q:VK) (E:XK):Prop
 |mk:∀(p b:Addr) (x y:Int),(vs=[.ref p,.ref b])->bG H p->(H b=some (.lst [.int x,.int y]))->(1<=x)->(∀(n:Int) H',0<=n->bG H' p->bX p H H'->mM p H H'->Q (.int n) H')->aBw K vs H Q E
theorem aG1(tx:Txt K mg a):bT P w K mg base fS 2 a.aCG a.aCH aia (aBw K):=by
 have aS:=eI (P:=P) (w:=w) (base:=base) tx;refine tx.my.F.ok aGG (by walk_at "l") λbo A outer s H vs Q E hr h=>?_;obtain⟨p,b,x,y,rfl ,hh,hb,x0,k⟩:=h;have hu:=gZ hr;refine aZ (aG (aM (aL bJ (aL cC (aH (Y:=K) (aB 1) aD) (bg aS hr tx.af (aA (aB 0) (aA aD aC)))) (bg aS hr tx.af (aA (aB 0) (aA aD aC)))))) ?_;refine aU (U:=[A' p,A' b]) rfl ?_;rfl';refine⟨p,_,rfl,hh,by decide,by decide,λr1 H1 a1 b1 h1 k1 q1=>?_⟩;rfl';refine⟨p,_,rfl,h1,by decide,by decide,λr2 H2 a2 b2 h2 k2 q2=>?_⟩;rfl';have z:=HN (show 0<=x by lia) a1;exact k _ _ (by lia) h2 (k1.trans k2) (q1.trans q2)
inductive xE  (K:W.Frag) (vs:List V) (H:Hp) (Q:VK) (E:XK):Prop
 |mk:∀(p b:Addr) (x y L:Int) (n:Nat),(vs=[.ref p,.ref b,.int L,.int (n:Int)])->bG H p->(H b=some (.lst [.int x,.int y]))->(1<=y)->(y<=50000000000)->Am L->(n<=48)->(∀(q:Addr) (ps:ae) (H':Hp),H' q=some (.lst (ps.map V.int))->ps.length=n->(∀r∈ps,0<=r/\r<=L)->bG H' p->bX p H H'->Q (.ref q) H')->xE K vs H Q E
theorem aEG(tx:Txt K mg a):bT P w K mg base fS 3 a.yW a.yX aca (xE K):=by
 have aG2:=aFl (P:=P) (w:=w) (base:=base) tx;refine tx.jo.F.ok aD3 (by walk_at "l") λbo A outer s H vs Q E hr h=>?_;obtain⟨p,b,x,y,L,n,rfl ,hh,hb,y0,y1,hL,hn,k⟩:=h;have hu:=gZ hr;refine aZ (aG (aM (cG (k:=1) (idx:=[1,0,2]) (N:=bwa) (cF (sc:=aJ lQ) (NX:=aca) rfl rfl rfl (by decide +kernel)) rfl (cO (by rfl) tx.eU (aA (aB 3) aC)) (λ_ _ _ _=>(aK (i:=0) (show(bwa:aj).Nodup by decide +kernel))) (cX (by decide)) (λ_ _ _ _=>bH) (λ_ _ _ _=>(bg aG2 hr tx.ku (aA (aB 2) (aA (aB 1) (aA (aB 3) aC)))))))) ?_;have bp:b≠p:=hh.Cw hb (by simp);refine aU (U:=[A' p,A' b,B' L,B' (n:Int)]) rfl ?_;rfl';refine⟨by lia,by lia,?_⟩;rw[zr];refine iG (λi us H'=>bG H' p/\bX p H H'/\∃ps:ae,us=ps.map V.int/\ps.length=i/\∀r∈ps,0<=r/\r<=L) ⟨hh,λ_ _ e _=>e,[],rfl,rfl,λr h=>by cases h⟩ (cA (by lia)) (λi us H' hi ⟨_,_,ps,e1,e2,_⟩=>by rw[e1,bO];lia) (λi us H' hi SO=>?_) (λus H' SN=>?_)
 ·obtain⟨h1,k1,ps,e1,e2,e3⟩:=SO;rfl';refine⟨p,b,x,y,L,rfl,h1,k1 _ _ hb bp,y0,y1,hL,λr H2 r0 r1 h2 k2 _=>?_⟩;refine⟨h2,k1.trans k2,ps ++ [r],by rw[e1,jF];rfl,by rw[jE,e2];rfl,λz hz=>?_⟩;rcases nz.mp hz with h|h
  ·exact e3 z h
  ·rw[jy.mp h];exact⟨r0,r1⟩
 ·obtain⟨h1,k1,ps,e1,e2,e3⟩:=SN;subst e1;intro q nq;obtain⟨H2,i2,s2,g2⟩:=nw _ nq;rw[i2];rfl';exact k q ps H2 g2 e2 e3 (h1.same s2) (k1.trans s2.keep)
section Wc
variable{α:Type}{W W':Nat->α->List (Wy α)}
def Pz(w:α->List (Wy α))(qs:ae)(i:Nat)(x:α):List (Wy α):=(w x).map λv=>(v.1,v.2.1,v.2.2+v.1*qs.getD i 0)
def Go(W:Nat->α->List (Wy α)):Nat->Nat->α->α->Int->Prop
 |0,_,x,y,v=>y=x/\v=0
 |k+1,i,x,y,v=>∃w∈W i x,∃u,Go W k (i+1) w.2.1 y u/\v=w.2.2+u
theorem Go.le:∀{k i:Nat}{x y:α}{v:Int},Go W k i x y v->wF W k i x<=v
 |0,_,_,_,_,⟨_,e⟩=>by rw[e];exact sr _
 |k+1,i,x,y,v,⟨w,hw,u,hu,e⟩=>by
  have a:=Go.le hu;have b:=rO (wF W k (i+1)) hw;show dN (wF W k (i+1)) (W i x)<=v;lia
theorem Go.ex{n:Nat}{L:Nat->α->Prop}(hl:Lay W n L):∀(k i:Nat) (x:α),i+k<=n->L i x->∃y,Go W k i x y (wF W k i x)
 |0,_,x,_,_=>⟨x,rfl,rfl⟩
 |k+1,i,x,hk,hx=>by
  obtain⟨w,hw,e⟩:=lN (wF W k (i+1)) (hl.ne i x (by lia) hx);obtain⟨y,hy⟩:=Go.ex hl k (i+1) w.2.1 (by lia) (hl.on i x w (by lia) hx hw);exact⟨y,w,hw,_,hy,e.symm⟩
theorem Go.app:∀{j i k:Nat}{x y z:α}{u v:Int},Go W j i x y u->Go W k (i+j) y z v->Go W (j+k) i x z (u+v)
 |0,i,k,x,y,z,u,v,⟨e1,e2⟩,h=>by subst e1 e2;rw[AV,CG];exact h
 |j+1,i,k,x,y,z,u,v,⟨w,hw,t,ht,e⟩,h=>by
  rw[show j+1+k=(j+k)+1 by lia];exact⟨w,hw,t+v,Go.app ht (by rw[show i+1+j=i+(j+1) by lia];exact h),by lia⟩
theorem Go.split:∀{j i k:Nat}{x z:α}{v:Int},Go W (j+k) i x z v->∃y t u,Go W j i x y t/\Go W k (i+j) y z u/\v=t+u
 |0,i,k,x,z,v,h=>⟨x,0,v,⟨rfl,rfl⟩,by rw[AV] at h;exact h,by lia⟩
 |j+1,i,k,x,z,v,h=>by
  rw[show j+1+k=(j+k)+1 by lia] at h;obtain⟨w,hw,s,hs,e⟩:=h;obtain⟨y,t,u,h1,h2,e2⟩:=Go.split hs;exact⟨y,w.2.2+t,u,⟨w,hw,t,h1,rfl⟩,by rw[show i+(j+1)=i+1+j by lia];exact h2,by lia⟩
theorem Go.one{i:Nat}{x:α}{w:Wy α}(h:w∈W i x):Go W 1 i x w.2.1 w.2.2:=⟨w,h,0,⟨rfl,rfl⟩,by lia⟩
theorem Go.Qo{i:Nat}{x y:α}{v:Int}(h:Go W 1 i x y v):∃w∈W i x,y=w.2.1/\v=w.2.2:=by
 obtain⟨w,hw,u,⟨e1,e2⟩,e⟩:=h;exact⟨w,hw,e1,by lia⟩
theorem Go.congr:∀{k i:Nat}{x y:α}{v:Int},(∀m,i<=m->m < i+k->W m=W' m)->Go W k i x y v->Go W' k i x y v
 |0,_,_,_,_,_,h=>h
 |k+1,i,x,y,v,e,⟨w,hw,u,hu,ev⟩=>⟨w,by rw[<-e i (by lia) (by lia)];exact hw,u,Go.congr (λm h1 h2=>e m (by lia) (by lia)) hu,ev⟩
theorem Ml:∀{k i:Nat},(∀m x f,i<=m->m < i+k->dN f (W m x)=dN f (W' m x))->∀x,wF W k i x=wF W' k i x
 |0,_,_,_=>rfl
 |k+1,i,e,x=>by
  show dN (wF W k (i+1)) (W i x)=dN (wF W' k (i+1)) (W' i x);rw[e i x _ (by lia) (by lia),funext (Ml (k:=k) (i:=i+1) λm x f h1 h2=>e m x f (by lia) (by lia))]
structure qo(W:Nat->α->List (Wy α))(a:α)(i:Nat)(ps:List (α×Int)):Prop where
 nd:(ps.map (·.1)).Nodup
 so:∀p∈ps,Go W i 0 a p.1 p.2
 co:∀y v,Go W i 0 a y v->∃p∈ps,p.1=y/\p.2<=v
theorem qo.zero(W:Nat->α->List (Wy α))(a:α):qo W a 0 [(a,0)]:=by
 refine⟨by simp,λp hp=>?_,λy v ⟨e1,e2⟩=>⟨_,.head _,e1.symm,by rw[e2];exact sr _⟩⟩;rw[jy.mp hp];exact⟨rfl,rfl⟩
theorem qo.on[DecidableEq α]{a:α}{i:Nat}{ps qs:List (α×Int)}(h:qo W a i ps)(hq:qH (Ha W i ps) qs):qo W a (i+1) qs:=by
 refine⟨hq.nd,λq qa=>?_,λy v g=>?_⟩
 ·obtain⟨p,hp,hc⟩:=D5.mp (hq.so q qa);obtain⟨w,hw,rfl⟩:=jQ.mp hc;exact Go.app (h.so p hp) (Go.one (by rw[AV];exact hw))
 ·obtain⟨z,t,u,h1,h2,e⟩:=Go.split g;obtain⟨w,hw,e1,e2⟩:=Go.Qo h2;rw[AV] at hw;obtain⟨p,hp,p1,p2⟩:=h.co z t h1;obtain⟨q,Ds,q1,q2⟩:=hq.co (w.2.1,p.2+w.2.2) (D5.mpr ⟨p,hp,jQ.mpr ⟨w,by rw[p1];exact hw,rfl⟩⟩);have q2':q.2<=p.2+w.2.2:=q2;exact⟨q,Ds,by rw[q1,e1],by lia⟩
theorem qo.lay{n:Nat}{L:Nat->α->Prop}(hl:Lay W n L){a:α}(ha:L 0 a):∀{i:Nat}{y:α}{v:Int},i<=n->Go W i 0 a y v->L i y
 |0,y,v,_,⟨e,_⟩=>by rw[e];exact ha
 |i+1,y,v,hi,g=>by
  obtain⟨z,t,u,h1,h2,e⟩:=Go.split g;obtain⟨w,hw,e1,e2⟩:=Go.Qo h2;rw[AV] at hw;rw[e1];exact hl.on i z w (by lia) (qo.lay hl ha (by lia) h1) hw
structure LM(rows:ay)(p m:Int):Prop where
 at_:∃r∈rows,r.2+r.1*p=m
 le:∀r∈rows,m<=r.2+r.1*p
def LI(w:α->List (Wy α))(t:α->Int)(ps:List (α×Int)):ay:=ps.flatMap λp=>(w p.1).map λv=>(v.1,p.2+v.2.2+t v.2.1)
theorem ZK{w:α->List (Wy α)}{qs:ae}{h:Nat}{p:Int}{m:Nat}(hm:m≠h):Pz w (qs.set h p) m=Pz w qs m:=by
 funext x
 unfold Pz;rw[qi,MQ (Ne.symm hm),<-qi]
theorem aNm{w:α->List (Wy α)}{a:α}{qs:ae}{h n:Nat}{L:Nat->α->Prop}(hl:∀Aw,Lay (Pz w Aw) n L)(ha:L 0 a)(hn:qs.length=n)(hh:h < n){ps:List (α×Int)}(hp:qo (Pz w qs) a h ps){rows:ay}
  (hr:qH (LI w (wF (Pz w qs) (n - (h+1)) (h+1)) ps) rows) (p:Int):LM rows p (wF (Pz w (qs.set h p)) n 0 a):=by
 have lo:∀{x y:α} {v:Int} {uw uv:ae},(∀m,m≠h->Pz w uw m=Pz w uv m)->Go (Pz w uw) h 0 x y v->Go (Pz w uv) h 0 x y v:=λe g=>g.congr λm _ h2=>e m (by lia);have up:∀{x y:α} {v:Int} {uw uv:ae},(∀m,m≠h->Pz w uw m=Pz w uv m)->Go (Pz w uw) (n - (h+1)) (h+1) x y v->Go (Pz w uv) (n - (h+1)) (h+1) x y v:=λe g=>g.congr λm h1 _=>e m (by lia);have e1:∀m,m≠h->Pz w (qs.set h p) m=Pz w qs m:=λm hm=>ZK hm;have e2:∀m,m≠h->Pz w qs m=Pz w (qs.set h p) m:=λm hm=>(ZK hm).symm;have eh:(qs.set h p).getD h 0=p:=by rw[qi,RU (by lia)];rfl
 have en:n=h+(1+(n - (h+1))):=by lia
 have LE:∀r∈rows,wF (Pz w (qs.set h p)) n 0 a<=r.2+r.1*p:=λr KH=>by
  obtain⟨q,hq,hc⟩:=D5.mp (hr.so r KH);obtain⟨v,hv,rfl⟩:=jQ.mp hc;have g1:=hp.so q hq;have Lq:=qo.lay (hl qs) ha (by lia) g1;have Lv:=(hl qs).on h q.1 (v.1,v.2.1,v.2.2+v.1*qs.getD h 0) hh Lq (jQ.mpr ⟨v,hv,rfl⟩);obtain⟨y,g3⟩:=Go.ex (hl qs) (n - (h+1)) (h+1) v.2.1 (by lia) Lv;have g2:Go (Pz w (qs.set h p)) 1 (0+h) q.1 v.2.1 (v.2.2+v.1*p):=Go.one (w:=(v.1,v.2.1,v.2.2+v.1*p)) (by rw[AV];exact jQ.mpr ⟨v,hv,by rw[eh]⟩);have g:=Go.app (lo e2 g1) (Go.app g2 (by rw[AV];exact up e2 g3));rw[<-en] at g;have:=g.le;show _<=q.2+v.2.2+wF (Pz w qs) (n - (h+1)) (h+1) v.2.1+v.1*p;lia
 refine⟨?_,LE⟩;obtain⟨y,g⟩:=Go.ex (hl (qs.set h p)) n 0 a (by lia) ha;have g':=g;rw[en] at g';obtain⟨z,t,u,g1,Cf,e⟩:=Go.split g';rw[AV] at Cf;obtain⟨z2,t2,u2,g2,g3,e'⟩:=Go.split Cf;obtain⟨v',rf,ez,et⟩:=Go.Qo g2;obtain⟨v,hv,rfl⟩:=jQ.mp rf;obtain⟨q,hq,q1,q2⟩:=hp.co z t (lo e1 g1);obtain⟨r,KH,r1,r2⟩:=hr.co (v.1,q.2+v.2.2+wF (Pz w qs) (n - (h+1)) (h+1) v.2.1) (D5.mpr ⟨q,hq,jQ.mpr ⟨v,by rw[q1];exact hv,rfl⟩⟩);have ez':z2=v.2.1:=ez;have et':t2=v.2.2+v.1*(qs.set h p).getD h 0:=et;rw[eh] at et';have c3:=(up e1 g3).le;rw[ez'] at c3;have r1':r.1=v.1:=r1;have r2':r.2<=q.2+v.2.2+wF (Pz w qs) (n - (h+1)) (h+1) v.2.1:=r2;have:=LE r KH;refine⟨r,KH,?_⟩;rw[r1'] at this ⊢;rw[<-en] at e;lia
end Wc
def AN(g:Int->Int):Prop:=∀p,g (p+2)+g p<=2*g (p+1)
theorem LM.aSP{rows:ay}{m:Int->Int}(h:∀p,LM rows p (m p)):AN m:=λp=>by
 obtain⟨r,hr,e⟩:=(h (p+1)).at_;have a:=(h (p+2)).le r hr;have b:=(h p).le r hr;have e1:r.1*(p+1)=r.1*p+r.1:=by rw[Int.mul_add,CF]
 have e2:r.1*(p+2)=r.1*p+2*r.1:=by rw[Int.mul_add];lia
 lia
theorem AN.step{g:Int->Int}(h:AN g){p:Int}:∀k:Nat,g (p+k+1) - g (p+k)<=g (p+1) - g p
 |0=>by rw[show p+((0:Nat):Int)=p by lia];exact sr _
 |k+1=>by
  have a:=AN.step h (p:=p) k;have b:=h (p+k);rw[show p+((k+1:Nat):Int)=p+k+1 by lia,show p+(k:Int)+1+1=p+k+2 by lia];lia
theorem AN.mono{g:Int->Int}(h:AN g){p q:Int}(hq:p<=q):g (q+1) - g q<=g (p+1) - g p:=by
 have:=AN.step h (p:=p) (q - p).toNat;rw[show p+((q - p).toNat:Int)=q by lia] at this;exact this
structure pI(N:Int)(g:Int->Int)(r:Int):Prop where
 lo:0<=r
 hi:r<=N
 up:∀p,0<=p->p < r->g p < g (p+1)
 dn:∀p,r<=p->p < N->g (p+1)<=g p
theorem pI.best{N:Int}{g:Int->Int}{r:Int}(h:pI N g r){p:Int}(p0:0<=p)(p1:p<=N):g p<=g r:=by
 by_cases e:p<=r
 ·have key:∀k:Nat,(k:Int)<=r->g (r - k)<=g r:=λk=>by
   induction k with
   |zero=>intro _;rw[show r - ((0:Nat):Int)=r by lia];exact sr _
   |succ k ih=>
    intro hk;have a:=ih (by lia);have b:=h.up (r - ((k+1:Nat):Int)) (by lia) (by lia);rw[show r - ((k+1:Nat):Int)+1=r - k by lia] at b;lia
  have:=key (r - p).toNat (by lia);rw[show r - ((r - p).toNat:Int)=p by lia] at this;exact this
 ·have key:∀k:Nat,r+k<=N->g (r+k)<=g r:=λk=>by
   induction k with
   |zero=>intro _;rw[show r+((0:Nat):Int)=r by lia];exact sr _
   |succ k ih=>
    intro hk;have a:=ih (by lia);have b:=h.dn (r+k) (by lia) (by lia);rw[show r+((k+1:Nat):Int)=r+k+1 by lia];lia
  have:=key (p - r).toNat (by lia);rw[show r+((p - r).toNat:Int)=p by lia] at this;exact this
theorem pI.uniq{N:Int}{g:Int->Int}{r s:Int}(h:pI N g r)(k:pI N g s):r=s:=by
 have a:=h.lo;have b:=h.hi;have c:=k.lo;have d:=k.hi;rcases Int.lt_trichotomy r s with z|z|z
 ·have x:=h.dn r (sr _) (by lia);have y:=k.up r a z;lia
 ·exact z
 ·have x:=k.dn s (sr _) (by lia);have y:=h.up s c z;lia
theorem pI.shift{N:Int}{g f:Int->Int}{r c:Int}(h:pI N g r)(e:∀p,f p=c+g p):pI N f r:=
 ⟨h.lo,h.hi,λp a b=>by rw[e,e];have:=h.up p a b;lia,λp a b=>by rw[e,e];have:=h.dn p a b;lia⟩
def bF(want:Int)(ms:List (Int->Int))(p:Int):Int:=p*want+List.sum (ms.map λm=>m p)
theorem aKb(want:Int):∀{ms:List (Int->Int)},(∀m∈ms,AN m)->AN (bF want ms)
 |[],_,p=>by
  show(p+2)*want+0+(p*want+0)<=2*((p+1)*want+0)
  rw[Int.add_mul,Int.add_mul];lia
 |m::ms,h,p=>by
  have a:=aKb want (λx hx=>h x (md _ hx)) p;have b:=h m (.head _) p;have e:∀q,bF want (m::ms) q=m q+bF want ms q:=λq=>by
   unfold bF;rw[yG,AX];lia
  rw[e,e,e];lia
section
variable{α:Type}{κ:PK α}{H H':Hp}{v:V}{x:α}{d:Addr}{rows:List (α×V)}
def PK.ho(κ:PK α)(rows:List (α×V)):HO:=match κ with
 |.ik f _=>.dK (rows.map λp=>(f p.1,p.2))
 |.tk f _=>.dT (rows.map λp=>(f p.1,p.2))
theorem PK.um(κ:PK α)(rows:List (α×V)):AU (κ.ho rows):=by
 cases κ with
 |ik f i=>exact .inl ⟨_,rfl⟩
 |tk f i=>exact .inr ⟨_,rfl⟩
def xF[DecidableEq α](rows:List (α×V))(x:α):Option V:=(rows.find? λp=>decide (p.1=x)).map (·.2)
def DO[DecidableEq α](rows:List (α×V))(x:α)(u:V):List (α×V):=if rows.any (λp=>decide (p.1=x)) then rows.map (λp=>if p.1=x then (p.1,u) else p) else rows ++ [(x,u)]
theorem RD{κ':Type}[DecidableEq κ'][DecidableEq α]{f:α->κ'}(inj:∀x y,f x=f y->x=y):∀rows:List (α×V),qL (rows.map λp=>(f p.1,p.2)) (f x)=xF rows x
 |[]=>rfl
 |p::r=>by
  rw[yG];unfold xF;rw[uq];by_cases e:p.1=x
  ·rw[kC (show(f p.1,p.2).1=f x by rw[e]),mv e];rfl
  ·rw[jG (show ¬(f p.1,p.2).1=f x from λz=>e (inj _ _ z)),uc e];exact RD inj r
theorem aF9{κ':Type}[DecidableEq κ'][DecidableEq α]{f:α->κ'}(inj:∀x y,f x=f y->x=y)(rows:List (α×V))(u:V):putK (rows.map λp=>(f p.1,p.2)) (f x) u=(DO rows x u).map λp=>(f p.1,p.2):=by
 unfold putK DO;have e:((rows.map λp:α×V=>(f p.1,p.2)).any λkv=>decide (kv.1=f x))=rows.any λp=>decide (p.1=x):=by
  rw[List.any_map];congr 1;funext p
  show decide (f p.1=f x)=decide (p.1=x);exact decide_eq_decide.mpr ⟨inj _ _,λz=>by rw[z]⟩
 rw[e];split
 ·rw[qg,qg];congr 1;funext p
  show(if f p.1=f x then (f p.1,u) else (f p.1,p.2))=(f (if p.1=x then (p.1,u) else p).1,(if p.1=x then (p.1,u) else p).2)
  by_cases h:p.1=x
  ·rw[dO h,dO (by rw[h])]
  ·rw[cU h,cU λz=>h (inj _ _ z)]
 ·rw[jF];rfl
theorem PK.xF[DecidableEq α](h:Rd H d (κ.ho rows))(hv:κ.pv H v x):rC H d v (xF rows x):=by
 cases κ with
 |ik f i=>
  have rf:v=kV (f x):=hv;subst rf;rw[<-RD i];exact .inl ⟨_,f x,h,rfl,rfl⟩
 |tk f i=>
  obtain⟨b,rfl,hb⟩:=hv;rw[<-RD i];exact .inr ⟨_,f x,b,h,rfl,hb,rfl⟩
theorem PK.LH[DecidableEq α](h:H d=some (κ.ho rows))(hv:κ.pv H v x)(hl:rows.length < 1000000)(u:V):vz H d v u (upd H d (κ.ho (DO rows x u))):=by
 have lt:rows.length < sizeLine:=uJ hl (cA (by decide));cases κ with
 |ik f i=>
  have rf:v=kV (f x):=hv;subst rf;have z:=vz.k (k:=f x) (v:=u) (show H d=some (.dK _) from h) (by rw[bO];exact lt);rw[aF9 i] at z;exact z
 |tk f i=>
  obtain⟨b,rfl,hb⟩:=hv;have z:=vz.t (v:=u) (show H d=some (.dT _) from h) hb (by rw[bO];exact lt);rw[aF9 i] at z;exact z
theorem PK.LG{U:St}{Q:VK}(κ:PK α)(h:∀p H',H p=none->aO H H'->H' p=some (κ.ho [])->Q (.ref p) H'):FH U H Q:=by
 cases κ with
 |ik f i=>exact aFO λp np=>h p _ np (aO.new np) aP
 |tk f i=>exact Rv λp np=>h p _ np (aO.new np) aP
def PK.Kv(κ:PK α)(d:Addr)(o:PySem.Obj)(rows:List (α×V)):It:=match κ with
 |.ik f _=>CK d o (rows.map λp=>(f p.1,p.2))
 |.tk f _=>Ec d o (rows.map λp=>(f p.1,p.2))
theorem PK.aIn{U:St}{td:TE}{R:It->Hp->Prop}(κ:PK α)(ht:∀Q:VK,Q (.ref d) H->td U H Q)(h:H d=some (κ.ho rows))(hR:∀o,R (κ.Kv d o rows) (upd H d (.cx o (κ.ho rows)))):Q9 td U H R:=by
 cases κ with
 |ik f i=>exact .inr (ht _ ⟨d,_,rfl,h,hR⟩)
 |tk f i=>exact .inl (ht _ ⟨d,_,rfl,h,hR⟩)
theorem PK.vC{U:St}{nx:St->Hp->Prop}{rt:VK}{g:TG}{tb:TS}{o:PySem.Obj}(κ:PK α)(Pv:Nat->St->Hp->Prop)(h0:Pv 0 U H)(hl:∀i U H,i<=rows.length->Pv i U H->H d=some (.cx o (κ.ho rows)))
  (hs:∀i p U H T v,rows[i]?=some p->Pv i U H->H T=none->κ.pv H v p.1->g (.ref T) U (upd H T (.tup [v,p.2])) λσ2 H2=>tb ⟨Pv (i+1),rt,nx,Pv (i+1)⟩ σ2 H2) (hd:∀U H,Pv rows.length U H->nx U H) :
  ∃W:Nat->Nat->St->Hp->Prop,(∃m,W 0 m U H)/\∀i m U H,W i m U H->
   ((κ.Kv d o rows).stop i H/\nx U H)\/((κ.Kv d o rows).go i H/\∃N:St->Hp->Prop,(∀U' H',N U' H'->∃m',m' < m/\W (i+1) m' U' H')/\∀x H',(κ.Kv d o rows).tf i H x H'->g x U H' λσ2 H2=>tb ⟨N,rt,nx,N⟩ σ2 H2):=by
 cases κ with
 |ik f j=>
  refine aLb Pv h0 (λi U H hi p=>hl i U H (by rwa[bO] at hi) p) (λi kv U H T hk p nT=>?_) (λU H p=>hd U H (by rwa[bO] at p));rw[lB] at hk;obtain⟨q,hq,rfl⟩:=mw.mp hk;exact hs i q U H T _ hq p nT rfl
 |tk f j=>
  refine L2.vC Pv h0 (λi U H hi p=>hl i U H (by rwa[bO] at hi) p) (λi kv U H T b hk p nT hb=>?_) (λU H p=>hd U H (by rwa[bO] at p));rw[lB] at hk;obtain⟨q,hq,rfl⟩:=mw.mp hk;exact hs i q U H T _ hq p nT ⟨b,rfl,hb⟩
theorem PK.aSq{U:St}{tk tv:TE}{Q:VK}{u vv:V}(κ:PK α)(hk:∀H1 (Q:VK),aO H H1->Q u H1->tk U H1 Q)(hv:∀H1 (Q:VK),aO H H1->Q vv H1->tv U H1 Q)(hp:κ.pv H u x)(h:∀d H',H d=none->aO H H'->H' d=some (κ.ho [(x,vv)])->Q (.ref d) H'):Q8 tk tv U H Q:=by
 cases κ with
 |ik f i=>
  have xc:u=kV (f x):=hp;subst xc;exact .inr λd nd=>hk _ _ (aO.new nd) (hv _ _ (aO.new nd) ⟨f x,rfl,aP,by rw[iZ];exact h d _ nd (aO.new nd) aP⟩)
 |tk f i=>
  obtain⟨b,rfl,hb⟩:=hp;exact .inl λd nd=>hk _ _ (aO.new nd) (hv _ _ (aO.new nd) ⟨b,f x,rfl,aO.new nd _ _ hb,aP,by rw[iZ];exact h d _ nd (aO.new nd) aP⟩)
def ri(rows:List (α×Int)):List (α×V):=rows.map λp=>(p.1,V.int p.2)
theorem QD[DecidableEq α]:∀rows:List (α×Int),xF (ri rows) x=(Bo rows x).map V.int
 |[]=>rfl
 |p::r=>by
  show xF ((p.1,V.int p.2)::ri r) x=_;unfold xF Bo;rw[uq,uq];by_cases e:p.1=x
  ·rw[show decide ((p.1,V.int p.2).1=x)=true from mv e];rfl
  ·rw[show decide ((p.1,V.int p.2).1=x)=false from uc e];exact QD r
theorem ZJ[DecidableEq α](rows:List (α×Int))(u:Int):DO (ri rows) x (.int u)=ri (Bs rows x u):=by
 unfold DO Bs ri;rw[List.any_map];show(if (rows.any λp=>decide (p.1=x))=true then _ else _)=_;by_cases h:(rows.any λp=>decide (p.1=x))=true
 ·rw[dO h,dO h,qg,qg];congr 1;funext p
  show(if p.1=x then (p.1,V.int u) else (p.1,V.int p.2))=((if p.1=x then (p.1,u) else p).1,V.int (if p.1=x then (p.1,u) else p).2)
  split <;> rfl
 ·rw[cU h,cU h,jF];rfl
theorem DV(rows:List (α×Int)):(ri rows).length=rows.length:=bO ..
theorem PX{rows:List (α×Int)}{i:Nat}{p:α×V}(h:(ri rows)[i]?=some p):∃q,rows[i]?=some q/\p=(q.1,V.int q.2):=by
 unfold ri at h;rw[lB] at h;obtain⟨q,hq,e⟩:=mw.mp h;exact⟨q,hq,e.symm⟩
theorem xG[DecidableEq α]{g:α->V}:∀{ks:List α},x∈ks->xF (ks.map λy=>(y,g y)) x=some (g x)
 |[],h=>by cases h
 |y::r,h=>by
  rw[yG];unfold xF;rw[uq];by_cases e:y=x
  ·subst e;rw[show decide ((y,g y).1=y)=true from mv rfl];rfl
  ·rw[show decide ((y,g y).1=x)=false from uc e];rcases pN.mp h with z|z
   ·exact absurd z.symm e
   ·exact xG z
theorem aGa[DecidableEq α]{g:α->V}:∀{ks:List α},x∉ks->xF (ks.map λy=>(y,g y)) x=none
 |[],_=>rfl
 |y::r,h=>by
  rw[yG];unfold xF;rw[uq,show decide ((y,g y).1=x)=false from uc λe=>h (by rw[show y=x from e];exact .head _)];exact aGa λz=>h (md _ z)
theorem aIo[DecidableEq α]{g:α->V}{ks:List α}{u:V}(h:x∉ks):DO (ks.map λy=>(y,g y)) x u=(ks.map λy=>(y,g y)) ++ [(x,u)]:=by
 unfold DO;rw[cU];intro z;obtain⟨p,hp,e⟩:=D6.mp z;obtain⟨y,hy,rfl⟩:=jQ.mp hp;exact h (by rw[<-show y=x from ud e];exact hy)
end
theorem aKc{α:Type}[DecidableEq α]:∀{us ts:List α},us.Nodup->(∀t∈us,t∈ts)->us.length<=ts.length
 |[],_,_,_=>nv _
 |a::us,ts,nd,h=>by
  rw[va] at nd;have ha:a∈ts:=h a (.head _);have:=aKc (us:=us) (ts:=ts.erase a) nd.2 λt ht=>(List.mem_erase_of_ne (λz=>nd.1 (by rw[<-z];exact ht))).mpr (h t (md _ ht));rw[List.length_erase_of_mem ha] at this;have:=List.length_pos_of_mem ha;rw[qh];lia
section
variable{α:Type}{w:α->List (Wy α)}{a:α}{n:Nat}{Ls:List (List α)}
def Lx(Ls:List (List α))(i:Nat)(x:α):Prop:=∃ps,Ls[i]?=some ps/\x∈ps
structure zl(w:α->List (Wy α))(a:α)(n:Nat)(Ls:List (List α)):Prop where
 len:Ls.length=n+1
 fst:Ls[0]?=some [a]
 nd:∀ps∈Ls,ps.Nodup
 yH:∀ps∈Ls,ps.length<=100
 ne:∀(i:Nat) x,Lx Ls i x->w x≠[]/\(w x).length<=100
 on:∀(i:Nat) x v,i < n->Lx Ls i x->v∈w x->Lx Ls (i+1) v.2.1
theorem zl.lay(h:zl w a n Ls)(qs:ae):Lay (Pz w qs) n (Lx Ls) where
 ne:=λi x hi hx z=>(h.ne i x hx).1 (F5.mp z)
 on:=λi x v hi hx hv=>by
  obtain⟨u,hu,rfl⟩:=jQ.mp hv;exact h.on i x u hi hx hu
theorem zl.ok(h:zl w a n Ls)(qs:ae):Hi (Pz w qs) Ls where
 pos:=by rw[h.len];lia
 nd:=h.nd
 yH:=λps hp=>mf (h.yH ps hp) (by decide)
 ne:=λi ps x hi _ hx=>⟨λz=>(h.ne i x ⟨ps,hi,hx⟩).1 (F5.mp z),by
  unfold Pz;rw[bO];exact mf (h.ne i x ⟨ps,hi,hx⟩).2 (by decide)⟩
 on:=λi ps rs x v hi hj hx hv=>by
  obtain⟨u,hu,rfl⟩:=jQ.mp hv;have li:=(mT.mp hj).1;have:=h.len;obtain⟨oa,e,z⟩:=h.on i x u (by lia) ⟨ps,hi,hx⟩ hu;rw[hj] at e;cases e;exact z
theorem zl.Pb(h:zl w a n Ls):Lx Ls 0 a:=⟨_,h.fst,.head _⟩
theorem zl.hd(h:zl w a n Ls){qs:ae}{i:Nat}{rows:List (α×Int)}(hi:i<=n)(hp:qo (Pz w qs) a i rows):(∀p∈rows,Lx Ls i p.1)/\rows.length<=100:=by
 have key:∀p∈rows,Lx Ls i p.1:=λp xc=>qo.lay (h.lay qs) h.Pb hi (hp.so p xc);refine⟨key,?_⟩;have li:i < Ls.length:=by rw[h.len];lia
 have e:Ls[i]?=some Ls[i]:=eQ li;have:=@aKc α (λ_ _=>Classical.propDecidable _) (rows.map (·.1)) Ls[i] hp.nd λt ht=>by
  obtain⟨p,xc,rfl⟩:=jQ.mp ht;obtain⟨ps,e',z⟩:=key p xc;rw[e] at e';cases e';exact z
 rw[bO] at this;exact mf this (h.yH _ (pM e))
structure qZ(C:Addr)(κ:PK α)(H:Hp)(o:Addr)(a:α)(n:Nat)(w:α->List (Wy α))(Ls:List (List α)):Prop where
 ok:zl w a n Ls
 ex:∃(dx la wd:Addr) (ks:List α) (g:α->Addr),H o=some (.ins C dx [("layers",.ref la),("ways",.ref wd)])/\FE κ H la Ls/\H wd=some (κ.ho (ks.map λx=>(x,.ref (g x))))/\(∀x∈ks,gQ κ H (g x) (w x))/\∀i x,Lx Ls i x->x∈ks
theorem qZ.same{C:Addr}{κ:PK α}{H H':Hp}{o:Addr}(h:qZ C κ H o a n w Ls)(s:aO H H'):qZ C κ H' o a n w Ls:=by
 obtain⟨dx,la,wd,ks,g,h1,h2,h3,h4,h5⟩:=h.ex;exact⟨h.ok,dx,la,wd,ks,g,s _ _ h1,h2.same s,s _ _ h3,λx hx=>(h4 x hx).same s,h5⟩
end
section
variable{α:Type}{κ:PK α}{H H':Hp}{d:Addr}{rows:List (α×V)}
theorem PK.Xa(h:Rd H d (κ.ho rows)):M7 H d:=by
 cases κ with
 |ik f i=>exact .inl ⟨_,h⟩
 |tk f i=>exact .inr ⟨_,h⟩
theorem PK.Zj{ts:List α}{g:α->Int}(h:κ.da H d ts g):H d=some (κ.ho (ts.map λx=>(x,V.int (g x)))):=by
 cases κ with
 |ik f i=>
  show H d=some (.dK (List.map _ (List.map _ ts)));rw[qg];exact h
 |tk f i=>
  show H d=some (.dT (List.map _ (List.map _ ts)));rw[qg];exact h
theorem lZ{u o:HO}{b:Addr}(hu:AU u)(hd:H d=some u)(e:H b=some o)(n:¬AU o):b≠d:=λz=>by
 rw[z,hd] at e;cases e;exact n hu
theorem FT{xs:List V}:¬AU (.lst xs):=λz=>by rcases z with ⟨_,z⟩|⟨_,z⟩ <;> cases z
theorem Mj{xs:List V}:¬AU (.tup xs):=λz=>by rcases z with ⟨_,z⟩|⟨_,z⟩ <;> cases z
theorem aRq{c x:Addr}{fs:List (Str×V)}:¬AU (.ins c x fs):=λz=>by rcases z with ⟨_,z⟩|⟨_,z⟩ <;> cases z
theorem PK.Kk{v:V}{x:α}{u:HO}(h:κ.pv H v x)(hu:AU u)(hd:H d=some u)(k:bX d H H'):κ.pv H' v x:=by
 cases κ with
 |ik f i=>exact h
 |tk f i=>
  obtain⟨b,e,hb⟩:=h;exact⟨b,e,k _ _ hb (lZ hu hd hb Mj)⟩
theorem gQ.CA{l:Addr}{ws:List (Wy α)}{u:HO}(h:gQ κ H l ws)(hu:AU u)(hd:H d=some u)(k:bX d H H'):gQ κ H' l ws:=by
 obtain⟨as,e,r⟩:=h.ex;exact⟨as,k _ _ e (lZ hu hd e FT),r.imp λ_ _ ⟨v,e,p⟩=>⟨v,k _ _ e (lZ hu hd e Mj),κ.Kk p hu hd k⟩⟩
theorem aSr{ks:List α}{g:α->Addr}{rs:List (α×Int)}(h:κ.ho (ks.map λx=>(x,V.ref (g x)))=κ.ho (ri rs)):ks=[]:=by
 cases ks with
 |nil=>rfl
 |cons x ks=>
  cases rs with
  |nil=>
   cases κ with
   |ik f i=>cases h
   |tk f i=>cases h
  |cons r rs=>
   cases κ with
   |ik f i=>
    have e:=HO.dK.inj h;have:=congrArg (λl:List (Key×V)=>(l.head?.map (·.2))) e;cases this
   |tk f i=>
    have e:=HO.dT.inj h;have:=congrArg (λl:List (List Key×V)=>(l.head?.map (·.2))) e;cases this
theorem qZ.CA{C o:Addr}{a:α}{n:Nat}{w:α->List (Wy α)}{Ls:List (List α)}{rs:List (α×Int)}(h:qZ C κ H o a n w Ls)(hd:H d=some (κ.ho (ri rs)))(k:bX d H H'):qZ C κ H' o a n w Ls:=by
 obtain⟨dx,la,wd,ks,g,h1,⟨as,e,r⟩,h3,h4,h5⟩:=h.ex;have hu:=κ.um (ri rs);have ks0:ks≠[]:=λz=>by
  have:=h5 0 a h.ok.Pb;rw[z] at this;cases this
 refine⟨h.ok,dx,la,wd,ks,g,k _ _ h1 (lZ hu hd h1 aRq),⟨as,k _ _ e (lZ hu hd e FT),r.imp λ_ _ ⟨us,e,p⟩=>⟨us,k _ _ e (lZ hu hd e FT),p.1,λi v x h1 h2=>κ.Kk (p.2 i v x h1 h2) hu hd k⟩⟩,k _ _ h3 λz=>?_,λx hx=>(h4 x hx).CA hu hd k,h5⟩;rw[z,hd] at h3;exact ks0 (aSr (Option.some.inj h3.symm))
end
inductive uC  (K:W.Frag) (C:Addr) (vs:List V) (H:Hp) (Q:VK) (E:XK):Prop
 |mk:∀(x:Addr) (m:MS),(vs=[.ref x])->c8 C H x m->m.Good->(∀H',aO H H'->Q (.int (m.least+qV m.pieces)) H')->uC K C vs H Q E
theorem aDj(tx:Txt K mg a):bT P w K mg base fS 1 a.o8 a.v9 bla (uC K a.aY):=by
 refine tx.jd.F.ok aC8 (by walk_at "l") λbo A outer s H vs Q E hr h=>?_;obtain⟨x,m,rfl ,hm,hg,k⟩:=h;have hu:=gZ hr;refine aZ (aG (aM (aL bJ (bI (Y:=K) (aB 0) rfl) (aN (rc:=Hb K) (Rw rfl) (by rfl) tx.Hm QN (aA (cG (k:=1) (idx:=[]) (N:=["piece"]) (cF (sc:=aJ kL) (NX:=bla) rfl rfl rfl (by decide +kernel)) rfl (bC (Y:=K) (bI (Y:=K) (aB 0) rfl)) (λ_ _ _ _=>(aK (i:=0) (show(["piece"]:aj).Nodup by decide +kernel))) (cX (by decide)) (λ_ _ _ _=>bH) (λ_ _ _ _=>(aH (Y:=K) (aB 0) aD))) aC))))) ?_;obtain⟨dx,pl,hx,hp⟩:=hm.ex;obtain⟨qs,h1,h2⟩:=hp.ex;refine aU (U:=[A' x]) rfl ?_;rfl';refine dM hx tx.cB tx.fH rfl ?_;rfl';refine dM hx tx.cB tx.fZ rfl ?_;refine eY (bP.of h1) ?_;refine aNa (λt=>some t.1) h1 h2 hg.pieces.len (λq t N N' hm hq hN hN'=>?_) ?_
 ·rfl';exact hN _ rfl
 intro l1 n1;obtain⟨H1,i1,s1,e1⟩:=nw _ n1;rw[i1];rfl';refine QL (bP.of e1) ?_;rw[ZW];rfl';exact k H1 s1
inductive pJ  (K:W.Frag) (C:Addr) (vs:List V) (H:Hp) (Q:VK) (E:XK):Prop
 |mk:∀(x:Addr) (m:MS) (out:Int),(vs=[.ref x,.int out])->c8 C H x m->m.Good->(m.least<=out)->(out<=m.least+qV m.pieces)->(∀H',aO H H'->Q (.int (cst m.pieces (out - m.least))) H')->pJ K C vs H Q E
theorem aAm(tx:Txt K mg a):bT P w K mg base fS 2 a.kQ a.p9 bua (pJ K a.aY):=by
 have aEI:=aDj (P:=P) (w:=w) (base:=base) tx;refine tx.fh.F.ok dF (by walk_at "l") λbo A outer s H vs Q E hr h=>?_;obtain⟨x,m,out,rfl ,hm,hg,o0,o1,k⟩:=h;have hu:=gZ hr;refine aZ (aE (bB (eJ (jH (aW Hl (aB 1) (bI (Y:=K) (aB 0) rfl) (bD _)) (jY (aW rB (aB 1) (vA (aB 0) tx.cB tx.pd (aEI) (hr.mono (by decide)) tx.jd.b .nil aT) (bD _))))) (aG (aM fD)) bA)
  (aE (aI (i:=2) dF.nd (aL jR (aB 1) (bI (Y:=K) (aB 0) rfl)))
  (aE (aI (i:=3) dF.nd aD)
  (aE (bN PassesOwn.never rfl (bC (Y:=K) (bI (Y:=K) (aB 0) rfl)) (bS (Y:=K) (n:=2) rfl (aR (aK (i:=4) dF.nd) (aR (aK (i:=5) dF.nd) bR))) (aE (aI (i:=6) dF.nd (aN (lC rfl) (by rfl) tx.wQ sA (aA (aB 4) (aA (aB 2) aC))))
  (aE (oH (i:=3) dF.nd rfl (Or.inl rfl) (aL cC (aB 6) (aB 5)) Hy)
  (aG (oH (i:=2) dF.nd rfl (Or.inl rfl) (aB 6) Z6)))))
  (aG (aM (aB 3))))))) ?_
 obtain⟨dx,pl,hx,hp⟩:=hm.ex;obtain⟨qs,h1,h2⟩:=hp.ex;refine aU (U:=[A' x,B' out,none,none,none,none,none]) rfl ?_;rfl';refine dM hx tx.cB tx.fH rfl ?_;rfl';refine cE (λh=>absurd h (by lia)) (λ_=>?_);rfl';refine⟨x,dx,_,rfl,hx,rfl,?_⟩;rfl';refine⟨x,m,rfl,hm,hg,λH1 s1=>?_⟩;rfl';refine cE (λh=>absurd h (by lia)) (λ_=>?_);have EZ:=s1 _ _ hx;rfl';refine dM EZ tx.cB tx.fH rfl ?_;rfl';refine dM EZ tx.cB tx.fZ rfl ?_;have g1:=s1 _ _ h1;refine eY (bP.of g1) ?_;refine jM (xs:=qs.map V.ref) (λi U' H'=>H'=H1/\∃c left x4 x5 x6,U'=[A' x,B' out,B' left,B' c,x4,x5,x6]/\0<=left/\c+cst (m.pieces.drop i) left=cst m.pieces (out - m.least)) ⟨rfl,0,_,_,_,_,rfl,by lia,by rw[List.drop_zero,CG]⟩ (λi U' H' hi ⟨e1,c,left,x4,x5,x6,e,el,ec⟩=>by subst e1;exact bP.of g1) (λi v U' H' hv SM=>?_) (λU' H' SK=>?_)
 ·obtain⟨e1,c,left,x4,x5,x6,e,el,ec⟩:=SM;subst e1 e;rw[lB] at hv;cases hq:qs[i]? with
  |none=>rw[hq] at hv;cases hv
  |some q=>
   rw[hq] at hv;cases hv;have li:i < m.pieces.length:=by rw[<-h2.len];exact(mT.mp hq).1
   have ht:m.pieces[i]?=some m.pieces[i]:=eQ li;have e:=s1 _ _ (h2.at_ i q _ hq ht);have ed:m.pieces.drop i=m.pieces[i] :: m.pieces.drop (i+1):=Ie li;obtain⟨z1,⟨z2,z3⟩,z4,z5⟩:=hg.pieces.pc _ (AY li);generalize m.pieces[i]=t at ht e z1 z2 z3 z4 z5 ed;refine dH (iF.of e) rfl ?_;rfl';refine FK rfl ?_;rfl';refine FK rfl ?_;rfl';rw[ed] at ec;have O3:c+(max 0 (min left t.1)*t.2+cst (m.pieces.drop (i+1)) (left - max 0 (min left t.1)))=cst m.pieces (out - m.least):=ec;rw[show max 0 (min left t.1)=min t.1 left by lia] at O3;exact⟨rfl,_,_,_,_,_,rfl,by lia,by lia⟩
 ·obtain⟨e1,c,left,x4,x5,x6,e,el,ec⟩:=SK;subst e1 e;rfl';rw[bO,h2.len,HU] at ec;have O3:c+0=cst m.pieces (out - m.least):=ec;have k':=k H' s1;rw[<-O3,AW] at k';exact k'
theorem aEJ{α:Type}{f:α->Int}{A B:List (Wy α)}(h1:∀w∈B,∃v∈A,v.2.2+f v.2.1<=w.2.2+f w.2.1)(h2:∀v∈A,∃w∈B,w.2.2+f w.2.1<=v.2.2+f v.2.1):dN f A=dN f B:=by
 cases A with
 |nil=>
  cases B with
  |nil=>rfl
  |cons w r=>obtain⟨v,hv,_⟩:=h1 w (.head _);cases hv
 |cons v0 r=>
  obtain⟨v,hv,e⟩:=lN f (ws:=v0::r) (by simp);obtain⟨w,hw,l⟩:=h2 v hv;have le:∀u∈B,dN f (v0::r)<=u.2.2+f u.2.1:=λu hu=>by
   obtain⟨v',rf,l'⟩:=h1 u hu;have:=rO f rf;lia
  have:=le w hw;exact aF2 ⟨w,hw,by lia⟩ le
def me(l:Int):ay->ae
 |[]=>[l]
 |t::r=>l::me (l+t.1) r
theorem xV(l:Int):∀ps:ay,(me l ps).length=ps.length+1
 |[]=>rfl
 |t::r=>by show(me (l+t.1) r).length+1=_;rw[xV];rfl
theorem QC{o:Int}:∀{ps:ay}{l:Int},Up ps->o∈me l ps->0<=o - l/\o - l<=qV ps
 |[],l,_,h=>by
  rw[jy.mp h];show 0<=l - l/\l - l<=0;lia
 |t::r,l,⟨h1,h2,h3⟩,h=>by
  have s:=(L6 (p:=0) h3)
  show 0<=o - l/\o - l<=t.1+qV r;rcases pN.mp h with z|z
  ·lia
  ·have:=QC h3 z;lia
theorem ZI{p:Int}:∀{ps:ay}{l:Int},Up ps->l+qz p ps∈me l ps
 |[],l,_=>by show l+0∈[l];simp
 |t::r,l,⟨h1,h2,h3⟩=>by
  show l+((if t.2 < p then t.1 else 0)+qz p r)∈l::me (l+t.1) r;by_cases e:t.2 < p
  ·rw[dO e,show l+(t.1+qz p r)=l+t.1+qz p r by lia];exact md _ (ZI h3)
  ·rw[cU e,(Mo (p:=p) λu hu=>by have:=h2 u hu;lia).2,show l+(0+0)=l by lia];exact .head _
def tm(m:MS)(s:au)(on:Int):List (Wy (au)):=if on=0 then [(0,qC m s.1 s.2 on,vx m s on)] else (me m.least m.pieces).map λo=>(-o,qC m s.1 s.2 on,vx m s on+cst m.pieces (o - m.least))
def ux(m:MS)(s:au):List (Wy (au)):=(([0,1]:ae).filter (vt s)).flatMap (tm m s)
theorem Hz{m:MS}{s:au}{v:Wy (au)}:v∈ux m s↔∃on,qt on/\(s.1=on\/s.2=0)/\v∈tm m s on:=by
 unfold ux;rw[D5];constructor
 ·rintro ⟨on,h,hv⟩;obtain⟨h1,h2⟩:=yt.mp h;exact⟨on,by simpa [qt] using h1,mQ.mp h2,hv⟩
 ·rintro ⟨on,b,h,hv⟩;exact⟨on,yt.mpr ⟨by simpa [qt] using b,mQ.mpr h⟩,hv⟩
theorem ZH{m:MS}{s:au}{on:Int}{v:Wy (au)}(h:v∈tm m s on):v.2.1=qC m s.1 s.2 on:=by
 unfold tm at h;split at h
 ·rw[jy.mp h]
 ·obtain⟨o,_,rfl⟩:=jQ.mp h;rfl
theorem aKd{m:MS}(g:m.Good)(s:au)(on:Int):(tm m s on).length<=5:=by
 unfold tm;split
 ·exact Nat.le_of_ble_eq_true rfl
 ·rw[bO,xV];have:=g.pieces.len;lia
theorem aPe{m:MS}(g:m.Good)(s:au):(ux m s).length<=10:=by
 have a:=aKd g s 0;have b:=aKd g s 1;unfold ux;rw[List.filter_cons,List.filter_cons,List.filter_nil];split <;> split <;> simp only[HV,HS,jE,MK] <;> lia
theorem aRr{m:MS}{s:au}{on:Int}:tm m s on≠[]:=by
 unfold tm;split
 ·exact λz=>by cases z
 ·intro z;have:=congrArg List.length z;rw[bO,xV] at this;simp at this
theorem aRs{m:MS}{s:au}(b:qt s.1):ux m s≠[]:=λz=>by
 cases e:tm m s s.1 with
 |nil=>exact aRr e
 |cons v r=>
  have:v∈ux m s:=Hz.mpr ⟨s.1,b,.inl rfl,by rw[e];exact .head _⟩;rw[z] at this;cases this
theorem aRt{m:MS}(g:m.Good)(p:Int):(∀o∈me m.least m.pieces,-DG m p<=cst m.pieces (o - m.least)+(-o)*p)/\∃o∈me m.least m.pieces,cst m.pieces (o - m.least)+(-o)*p = -DG m p:=by
 have up:=g.pieces.Wn;have e:∀o:Int,(-o)*p = -(p*(o - m.least)) - p*m.least:=λo=>by
  rw[Int.mul_sub,Int.neg_mul,HK o p];lia
 have lo:=L6 (p:=p) up;constructor
 ·intro o ho;obtain⟨a1,a2⟩:=QC up ho;have:=(best (p:=p) up a1 a2).1;rw[e];unfold DG;lia
 ·refine⟨m.least+qz p m.pieces,ZI up,?_⟩;have e2:m.least+qz p m.pieces - m.least=qz p m.pieces:=by lia
  have:=((best (p:=p) up (left:=qz p m.pieces) (by lia) (by lia)).2).mpr ⟨by lia,by lia⟩;rw[e,e2];unfold DG;lia
theorem aLj{m:MS}(g:m.Good)(qs:ae)(i:Nat)(s:au)(f:au->Int):dN f (Pz (ux m) qs i s)=dN f (Wr m qs i s):=by
 obtain⟨c1,c2⟩:=aRt g (qs.getD i 0);refine aEJ (λw hw=>?_) (λv hv=>?_)
 ·obtain⟨on,b,may,rfl⟩:=Mn.mp hw;show ∃v∈Pz (ux m) qs i s,v.2.2+f v.2.1<=vx m s on - on*DG m (qs.getD i 0)+f (qC m s.1 s.2 on);rcases b with rfl|rfl
  ·refine⟨_,jQ.mpr ⟨_,Hz.mpr ⟨0,.inl rfl,may,by unfold tm;rw[dO rfl];exact .head _⟩,rfl⟩,?_⟩;show vx m s 0+0*qs.getD i 0+f (qC m s.1 s.2 0)<=_;lia
  ·obtain⟨o,ho,eo⟩:=c2;refine⟨_,jQ.mpr ⟨_,Hz.mpr ⟨1,.inr rfl,may,by unfold tm;rw[cU (by decide)];exact jQ.mpr ⟨o,ho,rfl⟩⟩,rfl⟩,?_⟩;show vx m s 1+cst m.pieces (o - m.least)+(-o)*qs.getD i 0+f (qC m s.1 s.2 1)<=_;lia
 ·obtain⟨v,rf,rfl⟩:=jQ.mp hv;obtain⟨on,b,may,h1⟩:=Hz.mp rf;refine⟨_,Mn.mpr ⟨on,b,may,rfl⟩,?_⟩;show vx m s on - on*DG m (qs.getD i 0)+f (qC m s.1 s.2 on)<=v.2.2+v.1*qs.getD i 0+f v.2.1;rw[ZH h1];unfold tm at h1;rcases b with rfl|rfl
  ·rw[dO rfl] at h1;rw[jy.mp h1];show _<=vx m s 0+0*qs.getD i 0+_;lia
  ·rw[cU (by decide)] at h1;obtain⟨o,ho,rfl⟩:=jQ.mp h1;have:=c1 o ho;show _<=vx m s 1+cst m.pieces (o - m.least)+(-o)*qs.getD i 0+_;lia
theorem aSs{m:MS}(g:m.Good)(qs:ae)(s:au):wF (Pz (ux m) qs) qs.length 0 s=Gp m qs s:=Ml (λi x f _ _=>aLj g qs i x f) s
theorem aRu{m:MS}(g:m.Good){s:au}(h:xj m s){n:Nat}{Ls:List (ay)}(hl:Fj m s Ls)(len:Ls.length=n+1):zl (ux m) s n Ls where
 len:=len
 fst:=by
  have e:Ls[0]?=some Ls[0]:=eQ (by lia);obtain⟨h1,h2⟩:=hl.at_ 0 _ e;rw[e];congr 1;exact aIe h1 (List.pairwise_singleton _ _) λx=>by rw[h2];exact jy.symm
 nd:=(Q6 g h [] (by lia) hl).nd
 yH:=λps hp=>by
  obtain⟨i,hi⟩:=ur hp;obtain⟨h1,h2⟩:=hl.at_ i ps hi;exact mf (Rc.yH g h (Qs h1) λk hk=>(h2 k).mp hk) (by decide)
 ne:=λi x ⟨ps,hi,hx⟩=>⟨aRs ((Rc.st g h (((hl.at_ i ps hi).2 x).mp hx)).1).1,mf (aPe g x) (by decide)⟩
 on:=λi x v hi ⟨ps,hp,hx⟩ hv=>by
  have e:Ls[i+1]?=some Ls[i+1]:=eQ (by lia);obtain⟨on,b,may,h1⟩:=Hz.mp hv;rw[ZH h1];exact⟨_,e,((hl.at_ (i+1) _ e).2 _).mpr ⟨x,((hl.at_ i ps hp).2 x).mp hx,on,b,may,rfl⟩⟩
def BZ(s:SS)(l:Int):List (Wy Int):=(upTo s l 1).map λy=>(dr s l y,y,0)
theorem aLk(s:SS)(qs:ae)(i:Nat)(l:Int)(f:Int->Int):dN f (Pz (BZ s) qs i l)=dN f (Wl s qs i l):=by
 refine aEJ (λw hw=>?_) (λv hv=>?_)
 ·obtain⟨y,hy,rfl⟩:=jQ.mp hw;refine⟨_,jQ.mpr ⟨_,jQ.mpr ⟨y,hy,rfl⟩,rfl⟩,?_⟩;show 0+dr s l y*qs.getD i 0+f y<=qs.getD i 0*dr s l y+f y;rw[HK];lia
 ·obtain⟨v,rf,rfl⟩:=jQ.mp hv;obtain⟨y,hy,rfl⟩:=jQ.mp rf;refine⟨_,jQ.mpr ⟨y,hy,rfl⟩,?_⟩;show qs.getD i 0*dr s l y+f y<=0+dr s l y*qs.getD i 0+f y;rw[HK];lia
theorem aSt(s:SS)(qs:ae)(l:Int):wF (Pz (BZ s) qs) qs.length 0 l=NM s qs l:=Ml (λi x f _ _=>aLk s qs i x f) l
theorem aRv{s:SS}(g:s.Good){l:Int}(h0:0<=l)(h1:l<=s.cm)(n:Nat):zl (BZ s) l n (qk s l n) where
 len:=lY s l n
 fst:=by rw[FU (nv _)];exact congrArg some (Qr h0 h1)
 nd:=(Qq g (List.replicate n 0) h0 h1 |>.nd |> λz=>by rwa[RS] at z)
 yH:=λps hp=>by
  obtain⟨i,hi⟩:=ur hp;rw[(kX hi).1];exact mf (rQ g l _) (by decide)
 ne:=λi x ⟨ps,hi,hx⟩=>by
  rw[(kX hi).1] at hx;obtain⟨x0,x1⟩:=HA hx;refine⟨λz=>?_,?_⟩
  ·have:=aF6 g x0 x1;rw[F5.mp z] at this;cases this
  ·unfold BZ;rw[bO];exact mf (rQ g x 1) (by decide)
 on:=λi x v hi ⟨ps,hp,hx⟩ hv=>by
  rw[(kX hp).1] at hx;obtain⟨y,hy,rfl⟩:=jQ.mp hv;exact⟨_,FU (by lia),aKa g hx hy⟩
inductive Lo where
 |ma (m:MS) (s:au) (Ls:List (ay))
 |st (s:SS) (l:Int) (Ls:cv)
def Lo.α:Lo->Type
 |.ma ..=>au
 |.st ..=>Int
def Lo.κ:(x:Lo)->PK x.α
 |.ma ..=>κS
 |.st ..=>κI
def Lo.w:(x:Lo)->x.α->List (Wy x.α)
 |.ma m _ _=>ux m
 |.st s _ _=>BZ s
def Lo.a:(x:Lo)->x.α
 |.ma _ s _=>s
 |.st _ l _=>l
def Lo.Ls:(x:Lo)->List (List x.α)
 |.ma _ _ L=>L
 |.st _ _ L=>L
def Lo.val(x:Lo)(qs:ae):Int:=wF (Pz x.w qs) qs.length 0 x.a
def oC(C:Addr)(n:Nat)(H:Hp)(o:Addr)(x:Lo):Prop:=qZ C x.κ H o x.a n x.w x.Ls
theorem oC.same{C:Addr}{n:Nat}{H H':Hp}{o:Addr}{x:Lo}(h:oC C n H o x)(s:aO H H'):oC C n H' o x:=qZ.same h s
def PV(W:WS)(P:Ps)(n:Nat)(cw:List Lo):Prop:=∀qs:ae,qs.length=n->List.sum (cw.map λx=>x.val qs)=List.sum (GA W P qs)+EU W P qs
theorem aKe{w p:Int}:∀{qs ws:ae}{h:Nat},h < qs.length->ws[h]?=some w->J4 (qs.set h p) ws=J4 (qs.set h 0) ws+p*w
 |[],_,_,l,_=>by simp at l
 |q::qs,[],h,_,e=>by simp at e
 |q::qs,v::ws,0,_,e=>by
  cases e;show List.sum (p*w::_)=List.sum (0*w::_)+p*w;rw[AX,AX];show p*w+List.sum (List.zipWith (λp w=>p*w) qs ws)=0*w+List.sum (List.zipWith (λp w=>p*w) qs ws)+p*w;lia
 |q::qs,v::ws,h+1,l,e=>by
  have:=aKe (p:=p) (h:=h) (qs:=qs) (ws:=ws) (by simpa using l) e;show List.sum (q*v::List.zipWith (λp w=>p*w) (qs.set h p) ws)=List.sum (q*v::List.zipWith (λp w=>p*w) (qs.set h 0) ws)+p*w;rw[AX,AX];have a0a:List.sum (List.zipWith (λp w=>p*w) (qs.set h p) ws)=List.sum (List.zipWith (λp w=>p*w) (qs.set h 0) ws)+p*w:=this;lia
theorem aKf{W:WS}{P:Ps}{n:Nat}{cw:List Lo}(hl:PV W P n cw){qs ws:ae}{h:Nat}{w:Int}(hq:qs.length=n)(hh:h < n)(hw:ws[h]?=some w)(p:Int) :
  ph W P ws (qs.set h p)=J4 (qs.set h 0) ws+bF w (cw.map λx p=>x.val (qs.set h p)) p:=by
 unfold ph bF;rw[aKe (by lia) hw,qg];have:=hl (qs.set h p) (by rw[D4];exact hq);have e:List.sum (List.map ((λm:Int->Int=>m p) ∘ λ(x:Lo) p=>x.val (qs.set h p)) cw)=List.sum (cw.map λx=>x.val (qs.set h p)):=rfl;rw[e,this];lia
theorem aIp(t:au):∀(ps:ay) (l:Int),me l (ps ++ [t])=me l ps ++ [l+qV ps+t.1]
 |[],l=>by show [l,l+t.1]=[l] ++ [l+0+t.1];rw[AW];rfl
 |p::r,l=>by
  show l::me (l+p.1) (r ++ [t])=l::(me (l+p.1) r ++ [l+(p.1+qV r)+t.1]);rw[aIp t r,show l+p.1+qV r+t.1=l+(p.1+qV r)+t.1 by lia]
theorem aIq:∀(ps:ay) (l:Int),(me l ps)[(me l ps).length - 1]?=some (l+qV ps)
 |[],l=>by show some l=some (l+0);rw[AW]
 |p::r,l=>by
  have e:(me l (p::r)).length - 1=((me (l+p.1) r).length - 1)+1:=by
   have:=xV (l+p.1) r;show(me (l+p.1) r).length+1 - 1=_;lia
  rw[e];show(me (l+p.1) r)[(me (l+p.1) r).length - 1]?=some (l+(p.1+qV r));rw[aIq r,show l+p.1+qV r=l+(p.1+qV r) by lia]
theorem mP.LS{α:Type}{κ:PK α}{H H':Hp}{a p:Addr}{w:Wy α}{xs:List V}(h:mP κ H a w)(gp:H p=some (.lst xs))(k:bX p H H'):mP κ H' a w:=
 let ⟨v,e,hp⟩:=h;⟨v,k _ _ e (λz=>by rw[z,gp] at e;cases e),κ.HB hp gp k⟩
theorem ZG{α:Type}[DecidableEq α]{ks:List α}{x:α}{g:α->Addr}{l:Addr}(h:x∉ks):(ks.map λy=>(y,V.ref (g y))) ++ [(x,V.ref l)]=(ks ++ [x]).map λy=>(y,V.ref (if y=x then l else g y)):=by
 rw[jF,yG,xk,dO rfl];congr 1;refine MO λy hy=>?_;rw[cU λz=>h (by rw[<-z];exact hy)]
inductive aBy  (K:W.Frag) (CL:Addr) (vs:List V) (H:Hp) (Q:VK) (E:XK):Prop
 |mk:∀(x dx:Addr) (u v:V),(vs=[.ref x,u,v])->(H x=some (.ins CL dx []))->(∀H',H' x=some (.ins CL dx [("layers",u),("ways",v)])->bX x H H'->Q .br H')->aBy K CL vs H Q E
theorem aBz(tx:Txt K mg a):bT P w K mg base fS 1 a.wA a.aCI a2a (aBy K a.cZ):=by
 refine tx.ir.F.ok aGH (by walk_at "l") λbo A outer s H vs Q E hr h=>?_;obtain⟨x,dx,u,v,rfl ,hx,k⟩:=h;have hu:=gZ hr;refine aZ (aE (dC (Y:=K) (aB 0) (aB 1) rfl)
  (aG (dC (Y:=K) (aB 0) (aB 2) rfl))) ?_
 refine aU (U:=[A' x,some u,some v]) rfl ?_;rfl';refine iJ (fs':=[("layers",u)]) hx tx.kT tx.qS (by simp) rfl ?_;obtain⟨H1,i1,k1,g1⟩:=wr H x _;rw[i1];rfl';refine iJ (fs':=[("layers",u),("ways",v)]) g1 tx.kT tx.wJ (by simp) rfl ?_;obtain⟨H2,i2,k2,g2⟩:=wr H1 x _;rw[i2];rfl';exact k H2 g2 (k1.trans k2)
inductive nJ  (K:W.Frag) (CL:Addr) (vs:List V) (H:Hp) (Q:VK) (E:XK):Prop
 |mk:∀(α:Type) (κ:PK α) (o:Addr) (v:V) (p:Int) (x a:α) (n i:Nat) (w:α->List (Wy α)) (Ls:List (List α)),(vs=[.ref o,v,.int p])->qZ CL κ H o a n w Ls->κ.pv H v x->Lx Ls i x->Am p->(∀l H',aO H H'->gQ κ H' l ((w x).map λv=>(v.1,v.2.1,v.2.2+v.1*p))->Q (.ref l) H')->nJ K CL vs H Q E
theorem nK(tx:Txt K mg a):bT P w K mg base fS 1 a.jW a.o9 aya (nJ K a.cZ):=by
 refine tx.ck.F.ok xZ (by walk_at "l") λbo A outer s H vs Q E hr h=>?_;obtain⟨α,κ,o,v,p,x,x0,n,i,w,Ls,rfl ,hL,hv,hx,hp,k⟩:=h;have hu:=gZ hr;refine aZ (aG (aM (cG (k:=3) (idx:=[2]) (N:=a1a) (cF (sc:=aJ gJ) (NX:=aya) rfl rfl rfl (by decide +kernel)) rfl (bC (Y:=K) (iL hu (bI (Y:=K) (aB 0) rfl) (aB 1))) (λ_ _ _ _=>(bS (Y:=K) (n:=3) rfl (aR (aK (i:=0) (show(a1a:aj).Nodup by decide +kernel)) (aR (aK (i:=1) (show(a1a:aj).Nodup by decide +kernel)) (aR (aK (i:=2) (show(a1a:aj).Nodup by decide +kernel)) bR))))) (nP (cR (by decide) (cR (by decide) (cR (by decide) kD)))) (λ_ _ _ _=>bH) (λ_ _ _ _=>(kH (aB 0) (aB 1) (aL bJ (aB 2) (aL cC (aB 0) (aB 3)))))))) ?_
 haveI:DecidableEq α:=λ_ _=>Classical.propDecidable _
 obtain⟨dx,la,wd,ks,g,h1,h2,h3,h4,h5⟩:=hL.ex;have hk:=h5 i x hx;obtain⟨as,gl,rl⟩:=(h4 x hk).ex;have og:=rl.len;have lw:=(hL.ok.ne i x hx).2;obtain⟨p0,p1⟩:=hp;refine aU (U:=[A' o,some v,B' p]) rfl ?_;rfl';refine dM h1 tx.kT tx.wJ rfl ?_;rfl';have GO:=κ.xF (.inl h3) hv;rw[xG hk] at GO;refine⟨wd,_,rfl,GO,?_⟩;rfl';refine eY (bP.of gl) ?_;refine dP (xs:=as.map V.ref) (λj us H'=>aO H H'/\∃bs:ao,us=bs.map V.ref/\bs.length<=j/\RL (mP κ H') bs (((w x).take j).map λv=>(v.1,v.2.1,v.2.2+v.1*p))) ⟨aO.refl _,[],rfl,eR _,RL.nil⟩ (cA (by rw[bO];lia))
  (λj us H' hj ⟨s',bs,e,l1,r⟩=>⟨bP.of (s' _ _ gl),by rw[e,bO];exact l1⟩) (λj u us H' hu SJ=>?_) (λus H' SI=>?_)
 ·obtain⟨s',bs,e,l1,r⟩:=SJ;obtain⟨a1,y,ea,rfl,ey,vv,g1,pq⟩:=rl.gt hu;have X0:=s' _ _ g1;refine dH (iF.of X0) rfl ?_;rfl';intro T nT;obtain⟨H2,i2,s2,g2⟩:=nw _ nT;rw[i2];refine⟨s'.trans s2,bs ++ [T],by rw[e,jF];rfl,by rw[jE];simp;lia,?_⟩;rw[cY ey,jF];exact RL.snoc (r.imp λ_ _ z=>z.same s2) ⟨vv,g2,κ.iE pq (s'.trans s2)⟩
 ·obtain⟨s',bs,e,l1,r⟩:=SI;rw[bO,og,rA] at r;intro l nl;obtain⟨H2,i2,s2,g2⟩:=nw _ nl;rw[i2];rfl';exact k l H2 (s'.trans s2) ⟨bs,by rw[g2,e],r.imp λ_ _ z=>z.same s2⟩
inductive kY  (K:W.Frag) (CL t:Addr) (vs:List V) (H:Hp) (Q:VK) (E:XK):Prop
 |mk:∀(α:Type) (κ:PK α) (o q:Addr) (a:α) (n:Nat) (w:α->List (Wy α)) (Ls:List (List α)) (qs:ae),(vs=[.ref o,.ref q])->(H t=some (.ig cK cL))->qZ CL κ H o a n w Ls->(H q=some (.lst (qs.map V.int)))->((∀n∈qs,Am n))->(qs.length=n)->(n<=48)->(∀r H',aO H H'->H r=none->Bp κ H' r Ls (λi=>wF (Pz w qs) (n - i) i)->Q (.ref r) H')->kY K CL t vs H Q E
theorem kZ(tx:Txt K mg a):bT P w K mg base fS 12 a.iS a.iT aZa (kY K a.cZ a.cQ):=by
 have fQ:=λbz:Heap=>kW (P:=P) (w:=w) (base:=bz) tx;refine tx.cg.F.Gv tx.mL uN (λvs H Q E h=>?_) (λA outer s H vs Q E hr h=>?_)
 ·obtain⟨α,κ,o,q,x0,n,w,Ls,qs,rfl,_⟩:=h;rfl
 ·obtain⟨α,κ,o,q,x0,n,w,Ls,qs,rfl ,gt,hL,hq,ha,hn,hl,k⟩:=h;have hu:=gZ hr;refine aZ (aG (aM (mJ (psL:=bna) (N:=bKa) (idx:=[1,0]) (sp:=λC=>fP K C) (kc:=8) (fQ) (hr.mono (by decide)) (by rfl) tx.bf.g tx.bf.F.kp tx.bf.b (λ_=>rfl) (cF (sc:=aJ cP) (NX:=aZa) rfl rfl rfl (by decide +kernel)) rfl rfl rfl rfl (λ_ _ _ _ us hl=>by obtain⟨_,_,rfl⟩:=DM us hl;rfl) (jT (bI (Y:=K) (aB 0) rfl) (oO (N:=bKa) (n:=2) (idx:=[1,0]) rfl tx.mL.hd rfl rfl (cF (sc:=aJ cP) (NX:=aZa) rfl rfl rfl (by decide +kernel)))) (λ_ _ _ _ _ _ _ _ hr hu=>(iK (aB 3) tx.kT tx.dz (nK tx) (hr.mono (by decide)) tx.ck.b .nil aT (aA (aB 1) (aA (aH (Y:=K) (aB 2) (aB 0)) aC))))))) ?_;obtain⟨dx,la,wd,ks,g,h1,h2,h3,h4,h5⟩:=hL.ex;have len:=hL.ok.len;refine aU (U:=[A' o,A' q]) rfl ?_;rfl';refine dM h1 tx.kT tx.qS rfl ?_;rfl';refine⟨gt,λf c' H3 Cc s3 hc hC=>?_⟩;refine⟨α,κ,la,f,Ls,Pz w qs,λi x=>i < n/\Lx Ls i x,rfl,h2.same s3,hL.ok.ok qs,by lia,⟨⟨_,hC,λH4 h v x Q s4 Ot hv hQ=>?_⟩⟩,λi ps x e1 e2 hx=>⟨by lia,ps,e1,hx⟩,λr H4 s4 nr hd=>?_⟩
  ·obtain⟨hh,Ot⟩:=Ot;have A7:=s3.trans s4;have eh:qs[h]?=some qs[h]:=eQ (by lia);have ap:=ha _ (pM eh);refine⟨s4 _ _ hc,rfl,?_⟩;refine Ht (U:=[B' (h:Int),some v,A' q,A' o]) rfl ?_;have hq4:=A7 _ _ hq;have Fb:=A7 _ _ h1;have ix:pP (qs.map V.int) (h:Int)=some (.int qs[h]):=eB (by rw[lB,eh];rfl);rfl';refine⟨_,_,_,rfl,Fb,rfl,?_⟩;rfl';refine⟨α,κ,o,v,qs[h],x,x0,n,h,w,Ls,rfl,hL.same A7,hv,Ot,ap,λl H5 s5 hw=>?_⟩;refine hQ l H5 s5 ?_;unfold Pz;rw[qi,eh];exact hw
  ·refine k r H4 (s3.trans s4) (s3.free nr) ?_;rw[show Ls.length - 1=n by lia] at hd;exact hd
inductive j8  (K:W.Frag) (CL:Addr) (vs:List V) (H:Hp) (Q:VK) (E:XK):Prop
 |mk:∀(α:Type) (κ:PK α) (o:Addr) (a:α) (n:Nat) (w:α->List (Wy α)) (Ls:List (List α)),(vs=[.ref o])->qZ CL κ H o a n w Ls->(∀d H',H d=none->aO H H'->H' d=some (κ.ho (ri [(a,0)]))->Q (.ref d) H')->j8 K CL vs H Q E
theorem j9(tx:Txt K mg a):bT P w K mg base fS 1 a.gM a.kR bla (j8 K a.cZ):=by
 refine tx.bx.F.ok rE (by walk_at "l") λbo A outer s H vs Q E hr h=>?_;obtain⟨α,κ,o,x0,n,w,Ls,rfl ,hL,k⟩:=h;have hu:=gZ hr;refine aZ (aG (aM (aGC hu (aH (Y:=K) (aH (Y:=K) (bI (Y:=K) (aB 0) rfl) aD) aD) aD))) ?_;obtain⟨dx,la,wd,ks,g,h1,⟨as,g1,ra⟩,h3,h4,h5⟩:=hL.ex;have la0:0 < as.length:=by rw[ra.len,hL.ok.len];lia
 have e0:as[0]?=some as[0]:=eQ la0;obtain⟨us,gb,pq⟩:=ra.at_ 0 _ _ e0 hL.ok.fst;generalize as[0]=b at e0 gb;obtain⟨u,rfl⟩ : ∃u,us=[u]:=List.length_eq_one_iff.mp pq.1;have pv:=pq.2 0 u x0 rfl rfl;refine aU (U:=[A' o]) rfl ?_;rfl';refine κ.aSq (u:=u) (vv:=.int 0) (x:=x0) (λH1 Q s q=>?_) (λH1 Q s q=>?_) pv k
 ·have Bi:=s _ _ h1;have X0:=s _ _ g1;have XW:=s _ _ gb;have ix0:pP (as.map V.ref) 0=some (.ref b):=eB (j:=0) (by rw[lB,e0];rfl);rfl';refine dM Bi tx.kT tx.qS rfl ?_;rfl';exact q
 ·rfl';exact q
inductive lA  (K:W.Frag) (CL:Addr) (vs:List V) (H:Hp) (Q:VK) (E:XK):Prop
 |mk:∀(α:Type) (κ:PK α) (o d:Addr) (a:α) (n i:Nat) (w:α->List (Wy α)) (Ls:List (List α)) (rows:List (α×Int)) (qs:ae) (p:Int),(vs=[.ref o,.ref d,.int p])->qZ CL κ H o a n w Ls->(H d=some (κ.ho (ri rows)))->(qo (Pz w qs) a i rows)->(i < n)->(qs.getD i 0=p)->Am p->(∀q H' ob wq,H q=none->bX d H H'->H' d=some (.cx ob (κ.ho (ri rows)))->qo (Pz w qs) a (i+1) wq->H' q=some (κ.ho (ri wq))->Q (.ref q) H')->lA K CL vs H Q E
theorem uO(tx:Txt K mg a):bT P w K mg base fS 2 a.iU a.mK bha (lA K a.cZ):=by
 have aAn:=nK (P:=P) (w:=w) (base:=base) tx;refine tx.dg.F.ok cW (by walk_at "l") λbo A outer s H vs Q E hr h=>?_;obtain⟨α,κ,o,d,x0,n,i,w,Ls,rows,qs,p,rfl ,hL,hd,hH,hi,O2,hp,k⟩:=h;have hu:=gZ hr;refine aZ (aE (aI (i:=3) cW.nd iM)
  (aE (bN PassesOwn.never rfl (aAF (aB 1)) (bS (Y:=K) (n:=2) rfl (aR (aK (i:=4) cW.nd) (aR (aK (i:=5) cW.nd) bR))) (aG (bN PassesOwn.never rfl (bC (Y:=K) (iK (aB 0) tx.kT tx.dz (aAn) (hr.mono (by decide)) tx.ck.b .nil aT (aA (aB 4) (aA (aB 2) aC)))) (bS (Y:=K) (n:=3) rfl (aR (aK (i:=6) cW.nd) (aR (aK (i:=7) cW.nd) (aR (aK (i:=8) cW.nd) bR)))) (aG (jS hu (aB 3) (aB 7) (aN (lC rfl) (by rfl) tx.wQ sA (aA (aL bJ (aB 5) (aB 8)) (aA (vD hu (aB 3) (aB 7) (aL bJ (aB 5) (aB 8))) aC))))))))
  (aG (aM (aB 3))))) ?_
 haveI:DecidableEq α:=λ_ _=>Classical.propDecidable _
 obtain⟨tu,Es⟩:=hL.ok.hd (by lia) hH;have hu:=κ.um (ri rows);refine aU (U:=[A' o,A' d,B' p,none,none,none,none,none,none]) rfl ?_;rfl';refine κ.LG λb H1 nb s1 gb=>?_;have DB:=s1 _ _ hd;have bd:b≠d:=λz=>by rw[z,hd] at nb;cases nb
 rfl';refine κ.aIn (λQ q=>by walk_at "go";exact q) DB λob=>?_;obtain⟨H2,i2,k2,g2⟩:=wr H1 d _;rw[i2];have K2:bX d H H2:=λc u e n=>k2 _ _ (s1 _ _ e) n;refine κ.vC (λj U' H'=>∃(z4 z5 z6 z7 z8:Option V) (cur:List (α×Int)),U'=[A' o,A' d,B' p,A' b,z4,z5,z6,z7,z8]/\bX d H H'/\H' d=some (.cx ob (κ.ho (ri rows)))/\H' b=some (κ.ho (ri cur))/\qH (Ha (Pz w qs) i (rows.take j)) cur/\cur.length<=100*j)
  ⟨_,_,_,_,_,[],rfl,K2,g2,k2 _ _ gb bd,qH.nil,eR _⟩ (λj U' H' hj hz=>by obtain⟨_,_,_,_,_,_,_,_,h,_⟩:=hz;exact h) (λj pr U' H3 T v hk hz nT hv=>?_) (λU' H3 hz=>?_)
 ·obtain⟨z4,z5,z6,z7,z8,cur,e,k3,DI,DJ,hM,lc⟩:=hz;subst e;obtain⟨r,er,rfl⟩:=PX hk;have lj:j < rows.length:=(mT.mp er).1;have hx:=tu r (pM er);have lw:=(hL.ok.ne i r.1 hx).2;obtain⟨H4,i4,s4,gT⟩:=nw _ nT;rw[i4];have k4:bX d H H4:=λc u e n=>s4 _ _ (k3 _ _ e n);have zi:=s4 _ _ DI;have yn:=s4 _ _ DJ;have L4:=hL.CA hd k4;have N8:=κ.iE hv s4;obtain⟨dx,la,wd,ks,g,o4,_⟩:=L4.ex;refine dH (iF.of gT) rfl ?_;rfl';refine⟨_,_,_,rfl,o4,rfl,?_⟩;rfl';refine⟨α,κ,o,v,p,r.1,x0,n,i,w,Ls,rfl,L4,N8,hx,hp,λl H5 s5 sg=>?_⟩;obtain⟨as,gl,rl⟩:=sg.ex;have og:=rl.len;rw[bO] at og;refine eY (bP.of gl) ?_;have k5:bX d H H5:=λc u e n=>s5 _ _ (k4 _ _ e n);refine jM (xs:=as.map V.ref) (λjj U' H'=>∃(z6 z7 z8:Option V) (cur:List (α×Int)),U'=[A' o,A' d,B' p,A' b,some v,B' r.2,z6,z7,z8]/\bX b H5 H'/\H' b=some (κ.ho (ri cur))/\qH (Ha (Pz w qs) i (rows.take j)++((Pz w qs i r.1).take jj).map λu=>(u.2.1,r.2+u.2.2)) cur/\cur.length<=100*j+jj)
   ⟨_,_,_,cur,rfl,λ_ _ e _=>e,s5 _ _ yn,by rw[List.take_zero,xk,ub];exact hM,by lia⟩ (λjj U' H' hj hz=>by obtain⟨_,_,_,_,_,k6,_⟩:=hz;exact bP.of (k6 _ _ gl (lZ (κ.um _) (s5 _ _ yn) gl FT))) (λjj u U' H6 Ob SH=>?_) (λU' H6 SG=>?_)
  ·obtain⟨z6,z7,z8,cur,e,k6,zj,hM,lc⟩:=SH;subst e;obtain⟨a1,y,ea,rfl,ey,vv,ga,pq⟩:=rl.gt Ob;have G4:=s5 _ _ yn;have WZ:jj < (w r.1).length:=by
    have:=(mT.mp ey).1
    rwa[bO] at this
   have eyP:(Pz w qs i r.1)[jj]?=some y:=by unfold Pz;rw[O2];exact ey
   have OV:=k6 _ _ ga (lZ (κ.um _) G4 ga Mj);have BK:=κ.Kk pq (κ.um _) G4 k6;refine dH (iF.of OV) rfl ?_;rfl';refine⟨b,rfl,κ.Xa (.inl zj),?_⟩;rfl';refine⟨_,κ.xF (.inl zj) BK,?_⟩;rw[QD,aIm];rfl';refine⟨b,_,rfl,κ.LH zj BK (by rw[DV];lia) _,?_⟩;rw[ZJ];obtain⟨H7,i7,k7,g7⟩:=wr H6 b _;rw[i7];rfl';refine⟨_,_,_,_,rfl,k6.trans k7,g7,?_,mf (aIl _ _ _) (by lia)⟩;rw[cY eyP,jF,<-F3,Int.min_comm];exact hM.on
  ·obtain⟨z6,z7,z8,cur,e,k6,zj,hM,lc⟩:=SG;subst e;rw[bO,og] at hM lc;refine⟨_,_,_,_,_,cur,rfl,λc u e n=>?_,k6 _ _ (s5 _ _ zi) (Ne.symm bd),zj,?_,by lia⟩
   ·exact k6 _ _ (k5 _ _ e n) (bE nb e)
   ·have et:(Pz w qs i r.1).take (w r.1).length=Pz w qs i r.1:=A0 (by unfold Pz;rw[bO];exact eR _);rw[et] at hM;rw[cY er];unfold Ha at hM ⊢;rw[ML,HV,HS,ub];exact hM
 ·obtain⟨z4,z5,z6,z7,z8,cur,e,k3,DI,DJ,hM,lc⟩:=hz;subst e;rw[DV,rA] at hM;rfl';exact k b H3 ob cur nb k3 DI (hH.on hM) DJ
inductive kA  (K:W.Frag) (CL:Addr) (vs:List V) (H:Hp) (Q:VK) (E:XK):Prop
 |mk:∀(α:Type) (κ:PK α) (o d e:Addr) (a:α) (n i:Nat) (w:α->List (Wy α)) (Ls:List (List α)) (rows:List (α×Int)) (qs:ae) (ts:List α),(vs=[.ref o,.ref d,.ref e])->qZ CL κ H o a n w Ls->(H d=some (κ.ho (ri rows)))->(qo (Pz w qs) a i rows)->(i < n)->(qs.length=n)->(Ls[i+1]?=some ts)->(κ.da H e ts (wF (Pz w qs) (n - (i+1)) (i+1)))->(∀q H' ob rs,H q=none->bX d H H'->H' d=some (.cx ob (κ.ho (ri rows)))->(∀p,LM rs p (wF (Pz w (qs.set i p)) n 0 a))->rs.length<=10000->H' q=some (κI.ho (ri rs))->Q (.ref q) H')->kA K CL vs H Q E
theorem rS(tx:Txt K mg a):bT P w K mg base fS 1 a.gN a.kS bea (kA K a.cZ):=by
 refine tx.cq.F.ok bZ (by walk_at "l") λbo A outer s H vs Q E hr h=>?_;obtain⟨α,κ,o,d,e,x0,n,i,w,Ls,rows,qs,ts,rfl ,hL,hd,hH,hi,hn,ets,he,k⟩:=h;have hu:=gZ hr;refine aZ (aE (aI (i:=3) bZ.nd iM)
  (aE (bN PassesOwn.never rfl (aAF (aB 1)) (bS (Y:=K) (n:=2) rfl (aR (aK (i:=4) bZ.nd) (aR (aK (i:=5) bZ.nd) bR))) (aG (bN PassesOwn.never rfl (bC (Y:=K) (iL hu (bI (Y:=K) (aB 0) rfl) (aB 4))) (bS (Y:=K) (n:=3) rfl (aR (aK (i:=6) bZ.nd) (aR (aK (i:=7) bZ.nd) (aR (aK (i:=8) bZ.nd) bR)))) (aE (aI (i:=9) bZ.nd (aL bJ (aL bJ (aB 5) (aB 8)) (iL hu (aB 2) (aB 7))))
  (aG (jS hu (aB 3) (aB 6) (aN (lC rfl) (by rfl) tx.wQ sA (aA (aB 9) (aA (vD hu (aB 3) (aB 6) (aB 9)) aC)))))))))
  (aG (aM (aB 3))))) ?_
 haveI:DecidableEq α:=λ_ _=>Classical.propDecidable _
 obtain⟨tu,Es⟩:=hL.ok.hd (by lia) hH;have hu:=κ.um (ri rows);refine aU (U:=[A' o,A' d,A' e,none,none,none,none,none,none,none]) rfl ?_;rfl';refine κI.LG λb H1 nb s1 gb=>?_;have DB:=s1 _ _ hd;have bd:b≠d:=λz=>by rw[z,hd] at nb;cases nb
 rfl';refine κ.aIn (λQ q=>by walk_at "go";exact q) DB λob=>?_;obtain⟨H2,i2,k2,g2⟩:=wr H1 d _;rw[i2];have K2:bX d H H2:=λc u e n=>k2 _ _ (s1 _ _ e) n;refine κ.vC (λj U' H'=>∃(z4 z5 z6 z7 z8 z9:Option V) (cur:ay),U'=[A' o,A' d,A' e,A' b,z4,z5,z6,z7,z8,z9]/\bX d H H'/\H' d=some (.cx ob (κ.ho (ri rows)))/\H' b=some (κI.ho (ri cur))/\qH (LI w (wF (Pz w qs) (n - (i+1)) (i+1)) (rows.take j)) cur/\cur.length<=100*j)
  ⟨_,_,_,_,_,_,[],rfl,K2,g2,k2 _ _ gb bd,qH.nil,eR _⟩ (λj U' H' hj hz=>by obtain⟨_,_,_,_,_,_,_,_,_,h,_⟩:=hz;exact h) (λj pr U' H3 T v hk hz nT hv=>?_) (λU' H3 hz=>?_)
 ·obtain⟨z4,z5,z6,z7,z8,z9,cur,e',k3,DI,DJ,hM,lc⟩:=hz;subst e';obtain⟨r,er,rfl⟩:=PX hk;have lj:j < rows.length:=(mT.mp er).1;have hx:=tu r (pM er);have lw:=(hL.ok.ne i r.1 hx).2;obtain⟨H4,i4,s4,gT⟩:=nw _ nT;rw[i4];have k4:bX d H H4:=λc u e n=>s4 _ _ (k3 _ _ e n);have zi:=s4 _ _ DI;have yn:=s4 _ _ DJ;have L4:=hL.CA hd k4;have N8:=κ.iE hv s4;obtain⟨dx,la,wd,ks,g,o4,_,OT,hw4,hks⟩:=L4.ex;have Xu:=hks i r.1 hx;obtain⟨as,gl,rl⟩:=(hw4 r.1 Xu).ex;have og:=rl.len;have GO:=κ.xF (.inl OT) N8;rw[xG Xu] at GO;refine dH (iF.of gT) rfl ?_;rfl';refine dM o4 tx.kT tx.wJ rfl ?_;rfl';refine⟨wd,_,rfl,GO,?_⟩;refine eY (bP.of gl) ?_;refine jM (xs:=as.map V.ref) (λjj U' H'=>∃(z6 z7 z8 z9:Option V) (cur:ay),U'=[A' o,A' d,A' e,A' b,some v,B' r.2,z6,z7,z8,z9]/\bX b H4 H'/\H' b=some (κI.ho (ri cur))/\qH (LI w (wF (Pz w qs) (n - (i+1)) (i+1)) (rows.take j)++((w r.1).take jj).map λu=>(u.1,r.2+u.2.2+wF (Pz w qs) (n - (i+1)) (i+1) u.2.1)) cur/\cur.length<=100*j+jj)
   ⟨_,_,_,_,cur,rfl,λ_ _ e _=>e,yn,by rw[List.take_zero,xk,ub];exact hM,by lia⟩ (λjj U' H' hj hz=>by obtain⟨_,_,_,_,_,_,k6,_⟩:=hz;exact bP.of (k6 _ _ gl (lZ (κI.um _) yn gl FT))) (λjj u U' H6 Ob SF=>?_) (λU' H6 SE=>?_)
  ·obtain⟨z6,z7,z8,z9,cur,e',k6,zj,hM,lc⟩:=SF;subst e';obtain⟨a1,y,ea,rfl,ey,vv,ga,pq⟩:=rl.gt Ob;have WZ:jj < (w r.1).length:=(mT.mp ey).1;have OV:=k6 _ _ ga (lZ (κI.um _) yn ga Mj);have BK:=κ.Kk pq (κI.um _) yn k6;obtain⟨Nd,IY,hyt⟩:=hL.ok.on i r.1 y hi hx (pM ey);rw[ets] at IY;cases IY;have eb:e≠b:=λz=>by
    have q:=κ.Zj he;rw[z,nb] at q;cases q
   have he6:Rd H6 e (κ.ho (ts.map λx=>(x,V.int (wF (Pz w qs) (n - (i+1)) (i+1) x)))):=by
    have heq:=κ.Zj he;by_cases ed:e=d
    ·subst ed;refine .inr ⟨ob,?_⟩;rw[hd] at heq;rw[<-Option.some.inj heq];exact k6 _ _ zi (Ne.symm bd)
    ·exact .inl (k6 _ _ (k4 _ _ heq ed) eb)
   have Dz:=κ.xF he6 BK;rw[xG (g:=λx=>V.int (wF (Pz w qs) (n - (i+1)) (i+1) x)) hyt] at Dz;refine dH (iF.of OV) rfl ?_;rfl';refine⟨e,_,rfl,Dz,?_⟩;have Xx:κI.pv H6 (.int y.1) y.1:=rfl;rfl';refine⟨b,rfl,κI.Xa (.inl zj),?_⟩;rfl';refine⟨_,κI.xF (.inl zj) Xx,?_⟩;rw[QD,aIm];rfl';refine⟨b,_,rfl,κI.LH zj Xx (by rw[DV];lia) _,?_⟩;rw[ZJ];obtain⟨H7,i7,k7,g7⟩:=wr H6 b _;rw[i7];rfl';refine⟨_,_,_,_,_,rfl,k6.trans k7,g7,?_,mf (aIl _ _ _) (by lia)⟩;rw[cY ey,jF,<-F3,Int.min_comm];exact hM.on
  ·obtain⟨z6,z7,z8,z9,cur,e',k6,zj,hM,lc⟩:=SE;subst e';rw[bO,og] at hM lc;refine⟨_,_,_,_,_,_,cur,rfl,λc u e n=>k6 _ _ (k4 _ _ e n) (bE nb e),k6 _ _ zi (Ne.symm bd),zj,?_,by lia⟩;rw[rA] at hM;rw[cY er];unfold LI at hM ⊢;rw[ML,HV,HS,ub];exact hM
 ·obtain⟨z4,z5,z6,z7,z8,z9,cur,e',k3,DI,DJ,hM,lc⟩:=hz;subst e';rw[DV,rA] at hM;rw[DV] at lc;rfl';exact k b H3 ob cur nb k3 DI (aNm hL.ok.lay hL.ok.Pb hn hi hH hM) (by lia) DJ
inductive zM  (K:W.Frag) (C:Addr) (vs:List V) (H:Hp) (Q:VK) (E:XK):Prop
 |mk:∀(x:Addr) (m:MS),(vs=[.ref x])->c8 C H x m->m.Good->(∀l H',aO H H'->H' l=some (.lst ((me m.least m.pieces).map V.int))->Q (.ref l) H')->zM K C vs H Q E
theorem aFn(tx:Txt K mg a):bT P w K mg base fS 1 a.aA1 a.aA2 bva (zM K a.aY):=by
 refine tx.kl.F.ok lV (by walk_at "l") λbo A outer s H vs Q E hr h=>?_;obtain⟨x,m,rfl ,hm,hg,k⟩:=h;have hu:=gZ hr;refine aZ (aE (aI (i:=1) lV.nd (pR (bI (Y:=K) (aB 0) rfl)))
  (aE (bN PassesOwn.never rfl (bC (Y:=K) (bI (Y:=K) (aB 0) rfl)) (bS (Y:=K) (n:=2) rfl (aR (aK (i:=2) lV.nd) (aR (aK (i:=3) lV.nd) bR))) (aG (eZ (gI (Y:=K) (aB 1) (aA (aL bJ (aH (Y:=K) (aB 1) (mG uS aD)) (aB 2)) aC)))))
  (aG (aM (aB 1))))) ?_
 obtain⟨dx,pl,hx,hp⟩:=hm.ex;obtain⟨qs,h1,h2⟩:=hp.ex;have l4:=hg.pieces.len;refine aU (U:=[A' x,none,none,none]) rfl ?_;rfl';refine dM hx tx.cB tx.fH rfl ?_;rfl';intro l nl;obtain⟨H1,i1,s1,g1⟩:=nw _ nl;rw[i1];have EZ:=s1 _ _ hx;rfl';refine dM EZ tx.cB tx.fZ rfl ?_;refine eY (bP.of (s1 _ _ h1)) ?_;refine jM (xs:=qs.map V.ref) (λi U' H'=>aO H H'/\H' l=some (.lst ((me m.least (m.pieces.take i)).map V.int))/\∃z2 z3,U'=[A' x,A' l,z2,z3]) ⟨s1,g1,_,_,rfl⟩ (λi U' H' hi ⟨s',_⟩=>bP.of (s' _ _ h1)) (λi v U' H' hv SD=>?_) (λU' H' SA=>?_)
 ·obtain⟨s',gl,z2,z3,e⟩:=SD;subst e;rw[lB] at hv;obtain⟨q,hq,rfl⟩:=mw.mp hv;have li:i < m.pieces.length:=by rw[<-h2.len];exact(mT.mp hq).1
  have ht:m.pieces[i]?=some m.pieces[i]:=eQ li;have e:=s' _ _ (h2.at_ i q _ hq ht);generalize m.pieces[i]=t at ht e;have lc:=xV m.least (m.pieces.take i);rw[yF] at lc;have ix:pP ((me m.least (m.pieces.take i)).map V.int) (-1)=some (.int (m.least+qV (m.pieces.take i))):=by
   rw[Rp (by rw[bO];lia),bO,lB,aIq];rfl
  refine dH (iF.of e) rfl ?_;rfl';refine mW (bP.of gl) ?_;rfl';refine sE (xs:=(me m.least (m.pieces.take i)).map V.int) gl (uJ (by rw[bO];lia:_ < 1000) (cA (by decide))) ?_;obtain⟨H3,i3,k3,g3⟩:=wr H' l _;rw[i3];rfl';refine⟨λb o e=>k3 _ _ (s' _ _ e) (bE nl e),?_,_,_,rfl⟩;rw[g3,take_snoc ht,aIp,jF];rfl
 ·obtain⟨s',gl,z2,z3,e⟩:=SA;subst e;rw[bO,h2.len,rA] at gl;rfl';exact k l H' s' gl
inductive pK  (K:W.Frag) (C:Addr) (vs:List V) (H:Hp) (Q:VK) (E:XK):Prop
 |mk:∀(q:Addr) (m:MS) (t:Addr) (a:au),(vs=[.ref q,.ref t])->c8 C H q m->m.Good->(H t=some (.tup [.int a.1,.int a.2]))->zo a.1 a.2->(∀l H',aO H H'->H l=none->gQ κS H' l (ux m a)->Q (.ref l) H')->pK K C vs H Q E
theorem aAo(tx:Txt K mg a):bT P w K mg base fS 8 a.qA a.qB aka (pK K a.aY):=by
 have aBA:=aAm (P:=P) (w:=w) (base:=base) tx;have aG4:=aFn (P:=P) (w:=w) (base:=base) tx;have tH:=zJ (P:=P) (w:=w) (base:=base) tx;refine tx.ff.F.ok fA (by walk_at "l") λbo A outer s H vs Q E hr h=>?_;obtain⟨q,m,t,st,rfl ,hm,hg,ht,di,k⟩:=h;have hu:=gZ hr;refine aZ (aE (aI (i:=2) fA.nd (j0 aC))
  (aE (bN PassesOwn.never rfl (bC (Y:=K) (bg tH hr tx.gj (aA (aB 0) (aA (aB 1) aC)))) (bS (Y:=K) (n:=3) rfl (aR (aK (i:=3) fA.nd) (aR (aK (i:=4) fA.nd rfl (Or.inr rfl)) (aR (aK (i:=5) fA.nd rfl (Or.inr rfl)) bR)))) (aG (bB (aW (r:=iH K) (dJ hu) (aB 3) aD (bD _)) (aG (eZ (gI (Y:=K) (aB 2) (aA (kH aD (aB 4) (aB 5)) aC)))) (aG (eZ (aE3 (Y:=K) (aB 2) (aA (cG (k:=1) (idx:=[5,4,0]) (N:=bIa) (cF (sc:=aJ iD) (NX:=bxa) rfl rfl rfl (by decide +kernel)) rfl (bC (Y:=K) (bg aG4 hr tx.kl (aA (aB 0) aC))) (λ_ _ _ _=>(aK (i:=0) (show(bIa:aj).Nodup by decide +kernel))) (cX (by decide)) (λ_ _ _ _=>bH) (λ_ _ _ _=>(kH (mG uS (aB 0)) (aB 2) (aL bJ (aB 1) (iK (aB 3) tx.cB tx.lu (aBA) (hr.mono (by decide)) tx.fh.b .nil aT (aA (aB 0) aC)))))) aC)))))))
  (aG (aM (aB 2))))) ?_
 have l4:=hg.pieces.len;refine aU (U:=[A' q,A' t,none,none,none,none]) rfl ?_;rfl';intro l nl;obtain⟨H1,i1,s1,g1⟩:=nw _ nl;rw[i1];rfl';refine⟨q,m,t,st,rfl,hm.same s1,hg,s1 _ _ ht,di,λln H2 s2 hln=>?_⟩;obtain⟨bs,gn,rn⟩:=hln.ex;have Ks:=rn.len;have lf:(([0,1]:ae).filter (vt st)).length<=2:=List.length_filter_le ..;rw[bO] at Ks;have S2:=s1.trans s2;have g2:=s2 _ _ g1;refine eY (bP.of gn) ?_;refine jM (xs:=bs.map V.ref) (λi U' H'=>bX l H2 H'/\(∃as:ao,H' l=some (.lst (as.map V.ref))/\as.length<=5*i/\RL (mP κS H') as (((([0,1]:ae).filter (vt st)).take i).flatMap (tm m st)))/\∃z3 z4 z5,U'=[A' q,A' t,A' l,z3,z4,z5])
  ⟨λ_ _ e _=>e,⟨[],g2,eR _,RL.nil⟩,_,_,_,rfl⟩ (λi U' H' hi ⟨k',_⟩=>bP.of (k' _ _ gn λz=>?_)) (λi v U' H3 hv Sz=>?_) (λU' H3 Sy=>?_)
 ·rw[z,g2] at gn;have e:bs.map V.ref=[]:=(HO.lst.inj (Option.some.inj gn)).symm;rw[F5.mp e] at Ks;exact absurd Ks (by
   intro y;rcases di.1 with z|z
   ·have:(0:Int)∈([0,1]:ae).filter (vt st):=yt.mpr ⟨by simp,mQ.mpr (.inl z)⟩;rw[RV.mp y.symm] at this;cases this
   ·have:(1:Int)∈([0,1]:ae).filter (vt st):=yt.mpr ⟨by simp,mQ.mpr (.inl z)⟩;rw[RV.mp y.symm] at this;cases this)
 ·obtain⟨k3,⟨as,gl,la,r⟩,z3,z4,z5,e⟩:=Sz;subst e;obtain⟨a1,y,ea,rfl,ey,vv,ga,pq⟩:=rn.gt hv;rw[lB] at ey;obtain⟨on,xg,rfl⟩:=mw.mp ey;have Ol:=pM xg;obtain⟨h01,fj⟩:=yt.mp Ol;have Cm:qt on:=by simpa [qt] using h01
  have li:i < 2:=uJ (mT.mp xg).1 lf;have XX:=k3 _ _ ga λz=>by rw[z,g2] at ga;cases ga
  have IP:=κS.HB pq g2 k3;have S3:aO H H3:=λb o e=>k3 _ _ (S2 _ _ e) (bE nl e);refine dH (iF.of XX) rfl ?_;rcases Cm with rfl|rfl
  ·repeat walk_at "gs"
   refine mW (bP.of gl) ?_;rfl';intro T nT;obtain⟨H4,i4,s4,g4⟩:=nw _ nT;rw[i4];have AI:=s4 _ _ gl;rfl';refine sE (xs:=as.map V.ref) AI (uJ (by rw[bO];lia:_ < 1000) (cA (by decide))) ?_;obtain⟨H5,i5,k5,g5⟩:=wr H4 l _;rw[i5];rfl';refine⟨λb o e n=>k5 _ _ (s4 _ _ (k3 _ _ e n)) n,⟨as ++ [T],by rw[g5,jF];rfl,by rw[jE];simp;lia,?_⟩,_,_,_,rfl⟩;rw[take_snoc xg,ML,HV,HS,ub,show tm m st 0=[(0,qC m st.1 st.2 0,vx m st 0)] by unfold tm;rw[dO rfl]];exact RL.snoc (r.imp λ_ _ z=>(z.same s4).LS AI k5) (mP.LS ⟨_,g4,κS.iE IP s4⟩ AI k5)
  ·repeat walk_at "gs"
   refine mW (bP.of gl) ?_;rfl';refine⟨q,m,rfl,hm.same S3,hg,λlc H4 s4 XR=>?_⟩;have lcr:=xV m.least m.pieces;refine eY (bP.of XR) ?_;refine dP (xs:=(me m.least m.pieces).map V.int) (λj us H'=>aO H4 H'/\∃cs:ao,us=cs.map V.ref/\cs.length<=j/\RL (mP κS H') cs (((me m.least m.pieces).take j).map λo=>(-o,qC m st.1 st.2 1,vx m st 1+cst m.pieces (o - m.least)))) ⟨aO.refl _,[],rfl,eR _,RL.nil⟩ (cA (by rw[bO];lia))
    (λj us H' hj ⟨s',cs,e,l1,rc⟩=>⟨bP.of (s' _ _ XR),by rw[e,bO];exact l1⟩) (λj u us H5 hu Sx=>?_) (λus H5 Sw=>?_)
   ·obtain⟨s5,cs,e,l1,rc⟩:=Sx;obtain⟨o,eo,rfl⟩:=kU hu;obtain⟨o0,o1⟩:=QC hg.pieces.Wn (pM eo);have S5:=S3.trans (s4.trans s5);obtain⟨dxm,plm,GB,_⟩:=(hm.same S5).ex;rfl';refine⟨_,_,_,rfl,GB,rfl,?_⟩;rfl';refine⟨q,m,o,rfl,hm.same S5,hg,by lia,by lia,λH6 s6=>?_⟩;rfl';intro T nT;obtain⟨H7,i7,s7,g7⟩:=nw _ nT;rw[i7];have A5:=s6.trans s7;refine⟨s5.trans A5,cs ++ [T],by rw[e,jF];rfl,by rw[jE];simp;lia,?_⟩;rw[cY eo,jF];exact RL.snoc (rc.imp λ_ _ z=>z.same A5) ⟨_,g7,κS.iE IP (s4.trans (s5.trans A5))⟩
   ·obtain⟨s5,cs,e,l1,rc⟩:=Sw;rw[bO,rA] at rc;rw[bO] at l1;intro lx nlx;obtain⟨H6,i6,s6,g6⟩:=nw _ nlx;rw[i6];have ye:=s4.trans (s5.trans s6);have AH:=ye _ _ gl;rfl';refine aK8 AH (by rw[g6,e]) (mf (by rw[bO,bO];lia:_<=1000) (cA (by decide))) ?_;obtain⟨H7,i7,k7,g7⟩:=wr H6 l _;rw[i7];rfl';refine⟨λb o e n=>k7 _ _ (ye _ _ (k3 _ _ e n)) n,⟨as++cs,by rw[g7,jF],by rw[jE];lia,?_⟩,_,_,_,rfl⟩;rw[take_snoc xg,ML,HV,HS,ub,show tm m st 1=(me m.least m.pieces).map λo=>(-o,qC m st.1 st.2 1,vx m st 1+cst m.pieces (o - m.least)) by unfold tm;rw[cU (by decide)]];exact RL.app (r.imp λ_ _ z=>(z.same ye).LS AH k7) (rc.imp λ_ _ z=>(z.same s6).LS AH k7)
 ·obtain⟨k3,⟨as,gl,la,r⟩,z3,z4,z5,e⟩:=Sy;subst e;rw[bO,Ks,rA] at r;rfl';exact k l H3 (λb o e=>k3 _ _ (S2 _ _ e) (bE nl e)) nl ⟨as,gl,r⟩
inductive uD  (K:W.Frag) (C CL:Addr) (vs:List V) (H:Hp) (Q:VK) (E:XK):Prop
 |mk:∀(q:Addr) (m:MS) (t:Addr) (a:au) (n:Nat),(vs=[.ref q,.ref t,.int (n:Int)])->c8 C H q m->m.Good->(H t=some (.tup [.int a.1,.int a.2]))->xj m a->(n<=48)->(∀o Ls H',aO H H'->qZ CL κS H' o a n (ux m) Ls->Q (.ref o) H')->uD K C CL vs H Q E
theorem aDk(tx:Txt K mg a):bT P w K mg base fS 9 a.wB a.wC aaa (uD K a.aY a.cZ):=by
 have xH:=aBz (P:=P) (w:=w) (base:=base) tx;have lO:=qF (P:=P) (w:=w) (base:=base) tx;have aBB:=aAo (P:=P) (w:=w) (base:=base) tx;refine tx.iz.F.ok gW (by walk_at "l") λbo A outer s H vs Q E hr h=>?_;obtain⟨q,m,t,st,n,rfl ,hm,hg,ht,di,hn,k⟩:=h;have hu:=gZ hr;refine aZ (aE (aI (i:=3) gW.nd (bg lO hr tx.cy (aA (aB 0) (aA (aB 1) (aA (aB 2) aC)))))
  (aE (aI (i:=4) gW.nd iM)
  (aE (bN PassesOwn.never rfl (bC (Y:=K) (aB 3)) (aK (i:=5) gW.nd) (aG (bN PassesOwn.never rfl (bC (Y:=K) (aB 5)) (aK (i:=6) gW.nd) (aG (bB (aW (r:=aJW) (aK3 hu) (aB 6) (aB 4) (by with_unfolding_all rfl)) (aG (jS hu (aB 4) (aB 6) (bg aBB hr tx.ff (aA (aB 0) (aA (aB 6) aC))))) bA)))))
  (aG (aM (mH tx.ZZ (xH) (hr.mono (by decide)) (by rfl) tx.Z0 tx.ir.b .nil aT (aA (aB 3) (aA (aB 4) aC)))))))) ?_
 refine aU (U:=[A' q,A' t,B' (n:Int),none,none,none,none]) rfl ?_;rfl';refine⟨q,m,t,st,n,rfl,hm,hg,ht,di,by lia,λla Ls H1 s1 xa Cb hL lL=>?_⟩;have ok:=aRu hg di hL lL;obtain⟨as,ga,ra⟩:=Cb.ex;have og:=ra.len;rfl';refine κS.LG λwd H2 EM s2 OS=>?_;rfl';refine eY (bP.of (s2 _ _ ga)) ?_;refine jM (xs:=as.map V.ref) (λi U' H'=>∃(z5 z6:Option V) (ks:ay) (g:au->Addr),U'=[A' q,A' t,B' (n:Int),A' la,A' wd,z5,z6]/\aO H1 H'/\H' wd=some (κS.ho (ks.map λx=>(x,.ref (g x))))/\(∀x∈ks,gQ κS H' (g x) (ux m x))/\(∀j x,j < i->Lx Ls j x->x∈ks)/\ks.length<=100*i)
  ⟨_,_,[],λ_=>0,rfl,s2,OS,(λx hx=>by cases hx),(λj x hj=>by lia),eR _⟩ (λi U' H' hi ⟨_,_,_,_,_,s',_⟩=>bP.of (s' _ _ ga)) (λi v U' H3 hv Sv=>?_) (λU' H3 Su=>?_)
 ·obtain⟨z5,z6,ks,g,e,s3,gw,sg,ia,lk⟩:=Sv;subst e;obtain⟨b,ps,_,rfl,AL,us,gb,pq⟩:=ra.gt hv;have lps:=ok.yH ps (pM AL);have Gz:=pq.1;rfl';refine eY (bP.of (s3 _ _ gb)) ?_;refine jM (xs:=us) (λjj U' H'=>∃(z6:Option V) (ks:ay) (g:au->Addr),U'=[A' q,A' t,B' (n:Int),A' la,A' wd,A' b,z6]/\aO H1 H'/\H' wd=some (κS.ho (ks.map λx=>(x,.ref (g x))))/\(∀x∈ks,gQ κS H' (g x) (ux m x))/\(∀j x,j < i->Lx Ls j x->x∈ks)/\(∀x∈ps.take jj,x∈ks)/\ks.length<=100*i+jj)
   ⟨_,ks,g,rfl,s3,gw,sg,ia,(λx hx=>by simp at hx),by lia⟩ (λjj U' H' hj ⟨_,_,_,_,s',_⟩=>bP.of (s' _ _ gb)) (λjj v U' H4 hv Ss=>?_) (λU' H4 Sr=>?_)
  ·obtain⟨z6,ks,g,e,s4,gw,sg,ia,tu,lk⟩:=Ss;subst e;obtain⟨x,ex,px⟩:=pq.get hv;have WH:=κS.iE px s4;have li:i < as.length:=by
    have:=(mT.mp AL).1;lia
   have WZ:jj < ps.length:=(mT.mp ex).1;rfl';refine⟨wd,_,rfl,κS.xF (.inl gw) WH,?_⟩;by_cases hx:x∈ks
   ·rw[xG hx];repeat walk_at "gs"
    refine⟨_,ks,g,rfl,s4,gw,sg,ia,λy hy=>?_,by lia⟩;rw[cY ex] at hy;rcases nz.mp hy with z|z
    ·exact tu y z
    ·rw[jy.mp z];exact hx
   ·rw[aGa hx];repeat walk_at "gs"
    obtain⟨tb,rfl,gt⟩:=WH;refine⟨q,m,tb,x,rfl,hm.same (s1.trans s4),hg,gt,(Rc.st hg di (((hL.at_ i ps AL).2 x).mp (pM ex))).1,λl H5 s5 nl N7=>?_⟩;have DE:=s5 _ _ gw;have px5:κS.pv H5 (.ref tb) x:=⟨tb,rfl,s5 _ _ gt⟩
    rfl';refine⟨wd,_,rfl,κS.LH DE px5 (by rw[bO];lia) _,?_⟩;rw[aIo hx,ZG hx];obtain⟨H6,i6,k6,g6⟩:=wr H5 wd _;rw[i6];rfl';refine⟨_,ks ++ [x],_,rfl,λc o e=>k6 _ _ (s5 _ _ (s4 _ _ e)) (bE EM e),g6,λy hy=>?_,λj y hj hy=>Bx _ (ia j y hj hy),λy hy=>?_,by rw[jE];simp;lia⟩
    ·by_cases DL:y=x
     ·subst DL;rw[dO rfl];exact N7.CA (κS.um _) DE k6
     ·rw[cU DL];rcases nz.mp hy with z|z
      ·exact((sg y z).same s5).CA (κS.um _) DE k6
      ·exact absurd (jy.mp z) DL
    ·rw[cY ex] at hy;rcases nz.mp hy with z|z
     ·exact Bx _ (tu y z)
     ·exact uf _ z
  ·obtain⟨z6,ks,g,e,s4,gw,sg,ia,tu,lk⟩:=Sr;subst e;rw[Gz,rA] at tu;refine⟨_,_,ks,g,rfl,s4,gw,sg,λj x hj hx=>?_,by lia⟩;rcases(show j < i\/j=i by lia) with z|z
   ·exact ia j x z hx
   ·subst z;obtain⟨ly,e',qf⟩:=hx;rw[AL] at e';cases e';exact tu x qf
 ·obtain⟨z5,z6,ks,g,e,s3,gw,sg,ia,lk⟩:=Su;subst e;rw[bO,og] at ia;rfl';intro x dx nx nd hd;obtain⟨J,i,sj,j⟩:=Ko (C:=a.cZ) nx nd hd;rw[i];refine⟨x,dx,_,_,rfl,j,λH4 hS kx=>⟨rfl,?_⟩⟩;have J8:aO H3 H4:=λb o e=>kx _ _ (sj _ _ e) (bE nx e);rfl';exact k x Ls H4 (s1.trans (s3.trans J8)) ⟨ok,dx,la,wd,ks,g,hS,Cb.same (s3.trans J8),J8 _ _ gw,λx hx=>(sg x hx).same J8,λj x hx=>ia j x (by obtain⟨ps,e,_⟩:=hx;exact(mT.mp e).1) hx⟩
inductive zN  (K:W.Frag) (C CL:Addr) (vs:List V) (H:Hp) (Q:VK) (E:XK):Prop
 |mk:∀(x:Addr) (s:SS) (l:Int) (n:Nat),(vs=[.ref x,.int l,.int (n:Int)])->fW C H x s->s.Good->(0<=l)->(l<=s.cm)->(n<=48)->(∀o H',aO H H'->qZ CL κI H' o l n (BZ s) (qk s l n)->Q (.ref o) H')->zN K C CL vs H Q E
theorem aFo(tx:Txt K mg a):bT P w K mg base fS 3 a.aA3 a.aA4 aja (zN K a.cJ a.cZ):=by
 have xH:=aBz (P:=P) (w:=w) (base:=base) tx;have RI:=aCV (P:=P) (w:=w) (base:=base) tx;have iX:=m9 (P:=P) (w:=w) (base:=base) tx;have qY:=xA (P:=P) (w:=w) (base:=base) tx;refine tx.kg.F.ok qR (by walk_at "l") λbo A outer s H vs Q E hr h=>?_;obtain⟨x,ss,l,n,rfl ,hs,hg,l0,l1,hn,k⟩:=h;have hu:=gZ hr;refine aZ (aE (aI (i:=3) qR.nd iM)
  (aE (bN PassesOwn.never rfl (cO (by rfl) tx.eU (aA (aL bJ (bI (Y:=K) (aB 0) rfl) aD) aC)) (aK (i:=4) qR.nd rfl (Or.inr rfl)) (aG (jS hu (aB 3) (aB 4) (cG (k:=1) (idx:=[4,0]) (N:=["later","place","store"]) (cF (sc:=aJ kN) (NX:=a8a) rfl rfl rfl (by decide +kernel)) rfl (bC (Y:=K) (bg qY hr tx.fm (aA (aB 0) (aA (aB 4) aC)))) (λ_ _ _ _=>(aK (i:=0) (show(["later","place","store"]:aj).Nodup by decide +kernel))) (cX (by decide)) (λ_ _ _ _=>bH) (λ_ _ _ _=>(kH (bg RI hr tx.jt (aA (aB 2) (aA (aB 1) (aA (aB 0) aC)))) (aB 0) aD))))))
  (aG (aM (mH tx.ZZ (xH) (hr.mono (by decide)) (by rfl) tx.Z0 tx.ir.b .nil aT (aA (cG (k:=1) (idx:=[1,0]) (N:=["many","level","store"]) (cF (sc:=aJ kN) (NX:=a8a) rfl rfl rfl (by decide +kernel)) rfl (cO (by rfl) tx.eU (aA (aL bJ (aB 2) aD) aC)) (λ_ _ _ _=>(aK (i:=0) (show(["many","level","store"]:aj).Nodup by decide +kernel))) (cX (by decide)) (λ_ _ _ _=>bH) (λ_ _ _ _=>(bg iX hr tx.cn (aA (aB 2) (aA (aB 1) (aA (aB 0) aC)))))) (aA (aB 3) aC))))))) ?_
 obtain⟨c0,c1⟩:=hg.cm;obtain⟨dx,hx⟩:=hs.ex;refine aU (U:=[A' x,B' l,B' (n:Int),none,none]) rfl ?_;rfl';refine κI.LG λwd H1 EM s1 OS=>?_;have EZ:=s1 _ _ hx;rfl';refine dM EZ tx.jO tx.wM rfl ?_;rfl';refine⟨by lia,by lia,?_⟩;refine mF (n:=(ss.cm+1).toNat) (λi U' H'=>∃(z4:Option V) (ks:ae) (g:Int->Addr),U'=[A' x,B' l,B' (n:Int),A' wd,z4]/\aO H H'/\H' wd=some (κI.ho (ks.map λx=>(x,.ref (g x))))/\(∀x∈ks,gQ κI H' (g x) (BZ ss x))/\(∀y,y∈ks↔0<=y/\y < i)/\ks.length<=i)
  ⟨_,[],λ_=>0,rfl,s1,OS,(λx hx=>by cases hx),(λy=>⟨(λh=>by cases h),(λ⟨h1,h2⟩=>by lia)⟩),eR _⟩ (λi U' H2 hi Sq=>?_) (λU' H2 So=>?_)
 ·obtain⟨z4,ks,g,e,s2,gw,sg,ia,lk⟩:=Sq;subst e;have ey:0+(i:Int)=(i:Int):=by lia
  have y1:(i:Int)<=ss.cm:=by lia
  rfl';rw[ey];refine⟨x,ss,(i:Int),rfl,hs.same s2,hg,by lia,by lia,λlv H3 s3 KY=>?_⟩
  replace KY:H3 lv=some (.lst ((upTo ss (i:Int) 1).map V.int)):=KY
  have l9:=rQ hg (i:Int) 1;refine eY (bP.of KY) ?_;refine dP (xs:=(upTo ss (i:Int) 1).map V.int) (λj us H'=>aO H3 H'/\∃bs:ao,us=bs.map V.ref/\bs.length<=j/\RL (mP κI H') bs (((upTo ss (i:Int) 1).take j).map λy=>(dr ss (i:Int) y,y,0))) ⟨aO.refl _,[],rfl,eR _,RL.nil⟩ (cA (by rw[bO];lia))
   (λj us H' hj ⟨s',bs,e,lb,r⟩=>⟨bP.of (s' _ _ KY),by rw[e,bO];exact lb⟩) (λj u us H4 hu Sn=>?_) (λus H4 Sm=>?_)
  ·obtain⟨s4,bs,e,lb,r⟩:=Sn;obtain⟨y,eyy,rfl⟩:=kU hu;rfl';refine⟨x,ss,_,y,rfl,hs.same (s2.trans (s3.trans s4)),hg,?_⟩;rfl';intro T nT;obtain⟨H5,i5,s5,g5⟩:=nw _ nT;rw[i5];refine⟨s4.trans s5,bs ++ [T],by rw[e,jF];rfl,by rw[jE];simp;lia,?_⟩;rw[cY eyy,jF];exact RL.snoc (r.imp λ_ _ z=>z.same s5) ⟨_,g5,rfl⟩
  ·obtain⟨s4,bs,e,lb,r⟩:=Sm;rw[bO,rA] at r;intro lw EO;obtain⟨H5,i5,s5,g5⟩:=nw _ EO;rw[i5];have sf:=s3.trans (s4.trans s5);have DE:=sf _ _ gw;have Xg:(i:Int)∉ks:=λz=>by have:=(ia _).mp z;lia
   rfl';refine⟨wd,_,rfl,κI.LH (x:=(i:Int)) DE rfl (by rw[bO];lia) _,?_⟩;rw[aIo Xg,ZG Xg];obtain⟨H6,i6,k6,g6⟩:=wr H5 wd _;rw[i6];rfl';refine⟨_,ks ++ [(i:Int)],_,rfl,λc o e=>k6 _ _ (sf _ _ (s2 _ _ e)) (bE EM e),g6,λy hy=>?_,λy=>?_,by rw[jE];simp;lia⟩
   ·by_cases DL:y=(i:Int)
    ·subst DL;rw[dO rfl];exact gQ.CA (ws:=BZ ss (i:Int)) ⟨bs,by rw[g5,e],r.imp λ_ _ z=>z.same s5⟩ (κI.um _) DE k6
    ·rw[cU DL];rcases nz.mp hy with z|z
     ·exact((sg y z).same sf).CA (κI.um _) DE k6
     ·exact absurd (jy.mp z) DL
   ·rw[nz,jy,ia];lia
 ·obtain⟨z4,ks,g,e,s2,gw,sg,ia,lk⟩:=So;subst e;rfl';refine⟨by lia,by lia,?_⟩;rw[show((n:Int)+1).toNat=n+1 by lia];refine iG (λi us H'=>aO H2 H'/\∃as:ao,us=as.map V.ref/\RL (λb qs=>∃us,H' b=some (.lst us)/\xq κI H' us qs) as ((qk ss l n).take i)) ⟨aO.refl _,[],rfl,RL.nil⟩ (cA (by lia)) (λi us H' hi ⟨s',as,e,r⟩=>by rw[e,bO,r.len,yF];lia) (λi us H3 hi Sl=>?_) (λus H3 Sk=>?_)
  ·obtain⟨s3,as,e,r⟩:=Sl;rfl';refine⟨x,ss,l,_,rfl,hs.same (s2.trans s3),hg,l0,by lia,by lia,by lia,λb H4 s4 gb=>?_⟩;refine⟨s3.trans s4,as ++ [b],by rw[e,jF];rfl,?_⟩;rw[cY (FU (s:=ss) (l:=l) (n:=n) (i:=i) (by lia))];refine RL.snoc (r.imp λ_ _ ⟨us,e,p⟩=>⟨us,s4 _ _ e,p.same s4⟩) ⟨_,gb,?_⟩;rw[show(0+(i:Int))=(i:Int) by lia];exact aIi (upTo ss l (i:Int))
  ·obtain⟨s3,as,e,r⟩:=Sk;intro la xa;obtain⟨H4,i4,s4,g4⟩:=nw _ xa;rw[i4];rw[show n+1=(qk ss l n).length from(lY _ _ _).symm,rA] at r;rfl';intro xo YT nx nd hd;obtain⟨J,ij,sj,j⟩:=Ko (C:=a.cZ) nx nd hd;rw[ij];refine⟨xo,YT,_,_,rfl,j,λH5 hS kx=>⟨rfl,?_⟩⟩;have Wv:aO H4 H5:=λb o e=>kx _ _ (sj _ _ e) (bE nx e);have Dg:=s4.trans Wv;have sf:=s3.trans Dg;rfl';refine k xo H5 (s2.trans sf) ⟨aRv hg l0 l1 n,YT,la,wd,ks,g,hS,⟨as,by rw[Wv _ _ g4,e],r.imp λ_ _ ⟨us,e,p⟩=>⟨us,Dg _ _ e,p.same Dg⟩⟩,sf _ _ gw,λx hx=>(sg x hx).same sf,λi y hy=>?_⟩;obtain⟨ps,e1,Xf⟩:=hy;rw[(kX e1).1] at Xf;obtain⟨y0,y1⟩:=HA Xf;exact(ia y).mpr ⟨y0,by lia⟩
inductive aCX  (K:W.Frag) (CW CM CS CL:Addr) (vs:List V) (H:Hp) (Q:VK) (E:XK):Prop
 |mk:∀(w:Addr) (W:WS) (a:Addr) (P:Ps) (n:Nat),(vs=[.ref w,.ref a,.int (n:Int)])->gO CW CM CS H w W->W.Good->tW H a P->DP W P->(n<=48)->(∀l H' os cw,aO H H'->H' l=some (.lst (os.map V.ref))->RL (oC CL n H') os cw->PV W P n cw->cw.length<=7->Q (.ref l) H')->aCX K CW CM CS CL vs H Q E
theorem aCY(tx:Txt K mg a):bT P w K mg base fS 10 a.aEi a.aEj a5a (aCX K a.eC a.aY a.cJ a.cZ):=by
 have aEK:=aDk (P:=P) (w:=w) (base:=base) tx;have aG5:=aFo (P:=P) (w:=w) (base:=base) tx;refine tx.jr.F.ok aCp (by walk_at "l") λbo A outer s H vs Q E hr h=>?_;obtain⟨w,W,ap,P,n,rfl ,hw,hg,hP,hB,hn,k⟩:=h;have hu:=gZ hr;refine aZ (aE (eO (k:=2) (idx:=[2]) (N:=aaa) (i:=3) aCp.nd rfl (Or.inl rfl) (cF (sc:=aJ sR) (NX:=bGa) rfl rfl rfl (by decide +kernel)) rfl (sG (k1:=true) (k2:=false) (by rfl) tx.DS (aA (bI (Y:=K) (aB 0) rfl) (aA (aH (Y:=K) (aB 1) aD) aC))) (λ_ _ _ _=>(bS (Y:=K) (n:=2) rfl (aR (aK (i:=0) (show(aaa:aj).Nodup by decide +kernel)) (aR (aK (i:=1) (show(aaa:aj).Nodup by decide +kernel)) bR)))) (nP (cR (by decide) (cR (by decide) kD))) (λ_ _ _ _=>bH) (λ_ _ _ _=>(bg aEK hr tx.iz (aA (aB 0) (aA (aB 1) (aA (aB 2) aC))))))
  (aG (aM (uZ (aW FJ (bI (Y:=K) (aB 0) rfl) fD (bD _)) (aB 3) (aL bJ (aB 3) (pR (bg aG5 hr tx.kg (aA (bI (Y:=K) (aB 0) rfl) (aA (aH (Y:=K) (aB 1) aD) (aA (aB 2) aC)))))))))) ?_
 obtain⟨dx,lm,st,gw,KL,kb⟩:=hw.ex;obtain⟨ms,G2,B4⟩:=KL.ex;obtain⟨t,gP,KA⟩:=hP.ex;obtain⟨ts,GZ,Gq⟩:=KA.ex;have EW:=B4.len;have ET:=Gq.len;have NP:=hB.ok.len;have l6:=hg.len;refine aU (U:=[A' w,A' ap,B' (n:Int),none]) rfl ?_;rfl';refine dM gw tx.lW tx.lM rfl ?_;rfl';refine Md (Src.lst G2) (Src.tup GZ) ?_;refine xS (n:=W.specs.length) (by rw[bO];lia) (by rw[bO];lia) (.inl (by rw[bO];lia)) (cA (by lia))
  (λi us H'=>aO H H'/\∃(os:ao) (cw:List Lo),us=os.map V.ref/\RL (oC a.cZ n H') os cw/\os.length=i/\∀qs:ae,qs.length=n->List.sum (cw.map λx=>x.val qs)=List.sum (List.zipWith (λm s=>Gp m qs s) (W.specs.take i) (P.1.take i))) ⟨aO.refl _,[],[],rfl,RL.nil,rfl,λ_ _=>rfl⟩
  (λi us H' hi ⟨s',os,cw,e1,r,e2,e3⟩=>⟨⟨Src.lst (s' _ _ G2),Src.tup (s' _ _ GZ)⟩,by rw[e1,bO];lia⟩)
  (λi x y us H' T hx hy Sj nT=>?_) (λus H' Si=>?_)
 ·obtain⟨s',os,cw,e1,r,e2,e3⟩:=Sj;obtain⟨xm,m,_,rfl,em,hm⟩:=B4.get hx;obtain⟨xt,s,_,rfl,es,hs⟩:=Gq.get hy;obtain⟨J,j,sT,gT⟩:=nw _ nT;rw[j];have s2:=s'.trans sT;have gm:=hg.specs m (pM em);refine dH (iF.of gT) rfl ?_;rfl';refine⟨xm,m,xt,s,n,rfl,hm.same s2,gm,s2 _ _ hs,hB.st i m s em es,hn,λo Ls H3 s3 hL=>?_⟩;have B3:=sT.trans s3;refine⟨s'.trans B3,os ++ [o],cw ++ [.ma m s Ls],by rw[e1,jF];rfl,RL.snoc (r.imp λ_ _ z=>oC.same z B3) (show oC a.cZ n H3 o (.ma m s Ls) from hL),by rw[jE,e2];rfl,λqs hq=>?_⟩;rw[RF em es,jF,HQ,HQ,e3 qs hq,yG,xk,AX,List.sum_nil,AX,List.sum_nil];congr 2;exact aSs gm qs s
 ·obtain⟨s',os,cw,e1,r,e2,e3⟩:=Si;subst e1;rw[rA,<-NP,rA] at e3;have a0p:=r.len;intro l nl;obtain⟨H2,i2,s2,g2⟩:=nw _ nl;rw[i2];have S2:=s'.trans s2;have DF:=S2 _ _ gw;have gP2:=S2 _ _ gP;have r2:=r.imp λ_ _ z=>oC.same z s2;rfl';refine dM DF tx.lW tx.jI rfl ?_;cases e:W.store with
  |none=>
   rw[e] at kb
   replace kb:st=.br:=kb
   subst kb;repeat walk_at "gs"
   refine k l H2 os cw S2 g2 r2 (λqs hq=>?_) (by lia);rw[e3 qs hq];unfold EU GA;rw[e];exact(AW _).symm
  |some sv=>
   rw[e] at kb;obtain⟨c,rfl,hc⟩:=kb;have mh:=hB.ok.Az;unfold CB at mh;rw[e] at mh
   replace mh:0<=P.2/\P.2<=sv.cm:=mh
   repeat walk_at "gs"
   refine dM DF tx.lW tx.jI rfl ?_;repeat walk_at "gs"
   refine⟨c,sv,P.2,n,rfl,hc.same S2,hg.store sv e,mh.1,mh.2,hn,λo H3 s3 hL=>?_⟩;rfl';intro l2 yh;obtain⟨H4,i4,s4,g4⟩:=nw _ yh;rw[i4];have Wx:=s3.trans s4;refine sD (Wx _ _ g2) g4 (cA (by rw[bO];simp;lia)) ?_;intro l3 Gx;obtain⟨H5,i5,s5,g5⟩:=nw _ Gx;rw[i5];have sf:=Wx.trans s5;refine k l3 H5 (os ++ [o]) (cw ++ [.st sv P.2 (qk sv P.2 n)]) (S2.trans sf) (by rw[g5,jF];rfl) (RL.snoc (r2.imp λ_ _ z=>oC.same z sf) (oC.same (x:=.st sv P.2 (qk sv P.2 n)) hL (s4.trans s5))) (λqs hq=>?_) (by rw[jE];simp;lia);rw[jF,HQ,e3 qs hq,yG,xk,AX,List.sum_nil,AW];unfold EU GA;rw[e];congr 1;exact aSt sv qs P.2
def Co(H:Hp)(d:Addr)(m:Int->Int):Prop:=∃rs,H d=some (κI.ho (ri rs))/\(∀p,LM rs p (m p))/\rs.length<=10000
theorem Co.same{H H':Hp}{d:Addr}{m:Int->Int}(h:Co H d m)(s:aO H H'):Co H' d m:=let ⟨rs,e,a,b⟩:=h;⟨rs,s _ _ e,a,b⟩
theorem aPf(want:Int)(ms:List (Int->Int))(m:Int->Int)(p:Int):bF want (ms ++ [m]) p=bF want ms p+m p:=by
 unfold bF;rw[jF,HQ,yG,xk,AX,List.sum_nil];lia
inductive aCZ  (K:W.Frag) (vs:List V) (H:Hp) (Q:VK) (E:XK):Prop
 |mk:∀(want p:Int) (l:Addr) (ds:ao) (ms:List (Int->Int)),(vs=[.int want,.ref l,.int p])->(H l=some (.lst (ds.map V.ref)))->(RL (Co H) ds ms)->(ds.length<=100)->(0<=p)->(p<=1000000000001)->(∀H',aO H H'->Q (.int (bF want ms p)) H')->aCZ K vs H Q E
theorem aIs(tx:Txt K mg a):bT P w K mg base fS 1 a.aEk a.aEm a9a (aCZ K):=by
 refine tx.ju.F.ok pX (by walk_at "l") λbo A outer s H vs Q E hr h=>?_;obtain⟨want,p,l,ds,ms,rfl ,gl,r,ld,p0,p1,k⟩:=h;have hu:=gZ hr;refine aZ (aE (aI (i:=3) pX.nd (aL cC (aB 2) (aB 0)))
  (aE (bN PassesOwn.never rfl (bC (Y:=K) (aB 1)) (aK (i:=4) pX.nd) (aG (oH (i:=3) pX.nd rfl (Or.inl rfl) (aJe (aN (rc:=LV K) (aFN rfl) (by rfl) tx.wQ sA (aA (cG (k:=2) (idx:=[2]) (N:=bta) (cF (sc:=aJ sS) (NX:=bza) rfl rfl rfl (by decide +kernel)) rfl (aGy (aB 4)) (λ_ _ _ _=>(bS (Y:=K) (n:=2) rfl (aR (aK (i:=0) (show(bta:aj).Nodup by decide +kernel)) (aR (aK (i:=1) (show(bta:aj).Nodup by decide +kernel)) bR)))) (nP (cR (by decide) (cR (by decide) kD))) (λ_ _ _ _=>bH) (λ_ _ _ _=>(aL bJ (aB 1) (aL cC (aB 0) (aB 2))))) aC))) Hy)))
  (aG (aM (aB 3))))) ?_
 refine aU (U:=[B' want,A' l,B' p,none,none]) rfl ?_;rfl';refine eY (bP.of gl) ?_;have EW:=r.len;refine jM (xs:=ds.map V.ref) (λi U' H'=>aO H H'/\∃z4,U'=[B' want,A' l,B' p,B' (bF want (ms.take i) p),z4]) ⟨aO.refl _,_,by unfold bF;rw[List.take_zero];show _=[_,_,_,some (V.int (p*want+0)),_];rw[AW]⟩ (λi U' H' hi ⟨s',_⟩=>bP.of (s' _ _ gl)) (λi v U' H' hv Sh=>?_) (λU' H' Sg=>?_)
 ·obtain⟨s',z4,e⟩:=Sh;subst e;obtain⟨d,m,ed,rfl,em,rs,gd,E7,lr⟩:=r.gt hv;have XU:=s' _ _ gd;rfl';refine FK rfl ?_;rfl';refine aSk (kvs:=(ri rs).map λp:Int×V=>((Sum.inl p.1:Key),p.2)) XU λob=>?_;obtain⟨H1,i1,k1,g1⟩:=wr H' d _;rw[i1];refine aHR (kvs:=(ri rs).map λp:Int×V=>((Sum.inl p.1:Key),p.2)) (λj us H'=>aO H1 H'/\us=(((rs.take j).map λq=>q.2+q.1*p).map V.int)) ⟨aO.refl _,rfl⟩ (cA (by rw[bO,DV];lia))
   (λj us H' hj ⟨s',e⟩=>⟨s' _ _ g1,by rw[e,bO,bO,yF];lia⟩) (λj kv us H2 T Xs Sf nT=>?_) (λus H2 Se=>?_)
  ·obtain⟨s2,e⟩:=Sf;rw[lB] at Xs;obtain⟨q',qa,rfl⟩:=mw.mp Xs;obtain⟨q,eq,rfl⟩:=PX qa;obtain⟨H3,i3,s3,g3⟩:=nw _ nT;rw[i3]
   replace g3:H3 T=some (.tup [.int q.1,.int q.2]):=g3
   refine dH (iF.of g3) rfl ?_;rfl';refine⟨s2.trans s3,?_⟩;rw[e,cY eq,jF,jF];rfl
  ·obtain⟨s2,e⟩:=Se;subst e;rw[bO,DV,rA];intro l2 n2;obtain⟨H3,i3,s3,g3⟩:=nw _ n2;rw[i3];obtain⟨r0,Og,er0⟩:=(E7 p).at_;rfl';refine aJV (bP.of g3) (λz=>by rw[F5.mp z] at Og;cases Og) λmm hm hle=>?_;have em':mm=m p:=by
    obtain⟨q,hq,e⟩:=jQ.mp hm;have a1:=(E7 p).le q hq;have a2:=hle _ (jQ.mpr ⟨r0,Og,rfl⟩);lia
   subst em';have B3:=s2.trans s3;refine⟨d,_,XU,ob,B3 _ _ g1,?_⟩;obtain⟨H4,i4,k4,g4⟩:=wr H3 d _;rw[i4];rfl';refine⟨λb o e=>?_,_,by rw[take_snoc em,aPf];rfl⟩;by_cases eb:b=d
   ·subst eb;rw[gd] at e;cases e;exact g4
   ·exact k4 _ _ (B3 _ _ (k1 _ _ (s' _ _ e) eb)) eb
 ·obtain⟨s',z4,e⟩:=Sg;subst e;rw[bO,EW,rA];rfl';exact k H' s'
inductive zO  (K:W.Frag) (vs:List V) (H:Hp) (Q:VK) (E:XK):Prop
 |mk:∀(bj want:Int) (l:Addr) (ds:ao) (ms:List (Int->Int)),(vs=[.int bj,.int want,.ref l])->(H l=some (.lst (ds.map V.ref)))->(RL (Co H) ds ms)->(ds.length<=100)->Am bj->(∀r H',aO H H'->pI bj (bF want ms) r->Q (.int r) H')->zO K vs H Q E
theorem aFp(tx:Txt K mg a):bT P w K mg base fS 2 a.aA5 a.aA6 baa (zO K):=by
 have aEL:=aIs (P:=P) (w:=w) (base:=base) tx;refine tx.kh.F.ok hZ (by walk_at "l") λbo A outer s H vs Q E hr h=>?_;obtain⟨bj,want,l,ds,ms,rfl ,gl,r,ld,hl,k⟩:=h;have hu:=gZ hr;refine aZ (aE (aI (i:=3) hZ.nd aD)
  (aE (aI (i:=4) hZ.nd (aB 0))
  (aE (aCg PassesOwn.never (aW Hl (aB 3) (aB 4) (bD _)) (aE (aI (i:=5) hZ.nd (aL HH (aL bJ (aB 3) (aB 4)) aD))
  (aG (bB (aW rB (bg aEL hr tx.ju (aA (aB 1) (aA (aB 2) (aA (aL bJ (aB 5) aD) aC)))) (bg aEL hr tx.ju (aA (aB 1) (aA (aB 2) (aA (aB 5) aC)))) (bD _)) (aG (aI (i:=3) hZ.nd (aL bJ (aB 5) aD))) (aG (aI (i:=4) hZ.nd (aB 5)))))))
  (aG (aM (aB 3)))))) ?_
 obtain⟨l0,l1⟩:=hl;have hc:AN (bF want ms):=aKb want λm hm=>by
  obtain⟨i,hi⟩:=ur hm;have li:i < ds.length:=by rw[r.len];exact(mT.mp hi).1
  obtain⟨rs,_,E7,_⟩:=r.at_ i _ m (eQ li) hi;exact LM.aSP E7
 generalize hgf:bF want ms=gf at hc k;refine aU (U:=[B' bj,B' want,A' l,none,none,none]) rfl ?_;rfl';refine⟨λmm U' H'=>∃(lo hi:Int) (z5:Option V),U'=[B' bj,B' want,A' l,B' lo,B' hi,z5]/\aO H H'/\0<=lo/\lo<=hi/\hi<=bj/\(∀p,0<=p->p < lo->gf p < gf (p+1))/\(∀p,hi<=p->p < bj->gf (p+1)<=gf p)/\mm=(hi - lo).toNat,⟨_,0,bj,_,rfl,aO.refl _,by lia,l0,by lia,(λp a b=>by lia),(λp a b=>by lia),rfl⟩,?_⟩;rintro mm U' H' ⟨lo,hi,z5,rfl,s',a0,a1,a2,u1,u2,rfl⟩;rfl';refine cE (λh=>?_) (λh=>?_)
 ·refine⟨λU' H'=>∃(Dp Cd:Int) (z5:Option V),U'=[B' bj,B' want,A' l,B' Dp,B' Cd,z5]/\aO H H'/\0<=Dp/\Dp<=Cd/\Cd<=bj/\(∀p,0<=p->p < Dp->gf p < gf (p+1))/\(∀p,Cd<=p->p < bj->gf (p+1)<=gf p)/\(Cd - Dp).toNat < (hi - lo).toNat,λU' H' hz=>by obtain⟨Dp,Cd,z5,e,s,b0,b1,b2,v1,v2,lt⟩:=hz;exact⟨_,lt,Dp,Cd,z5,e,s,b0,b1,b2,v1,v2,rfl⟩,?_⟩;rfl';have em:∃mid,(lo+hi) / 2=mid/\lo<=mid/\mid < hi:=⟨_,rfl,by lia,by lia⟩
  obtain⟨mid,em,m0,m1⟩:=em;refine⟨want,_,l,ds,ms,rfl,s' _ _ gl,r.imp λ_ _ z=>z.same s',ld,by lia,by lia,λH1 s1=>?_⟩;rfl';refine⟨want,_,l,ds,ms,rfl,(s'.trans s1) _ _ gl,r.imp λ_ _ z=>z.same (s'.trans s1),ld,by lia,by lia,λH2 s2=>?_⟩;have S2:=s'.trans (s1.trans s2);rw[hgf];rfl';refine cE (λh2=>?_) (λh2=>?_)
  ·rfl';refine⟨_,_,_,rfl,S2,by lia,by lia,by lia,λp p0 p1=>?_,u2,by lia⟩;have:=hc.mono (p:=p) (q:=mid) (by lia);rw[em] at h2;lia
  ·rfl';refine⟨_,_,_,rfl,S2,by lia,by lia,by lia,u1,λp p0 p1=>?_,by lia⟩;have:=hc.mono (p:=mid) (q:=p) (by lia);rw[em] at h2;lia
 ·rfl';obtain rfl:lo=hi:=by lia
  exact k lo H' s' ⟨a0,a2,u1,u2⟩
def mS(qs:ae)(i:Nat)(H:Hp)(d:Addr)(x:Lo):Prop:=∃rows:List (x.α×Int),H d=some (x.κ.ho (ri rows))/\qo (Pz x.w qs) x.a i rows
theorem mS.same{qs:ae}{i:Nat}{H H':Hp}{d:Addr}{x:Lo}(h:mS qs i H d x)(s:aO H H'):mS qs i H' d x:=let ⟨rows,e,p⟩:=h;⟨rows,s _ _ e,p⟩
def AM(qs:ae)(i n:Nat)(H:Hp)(e:Addr)(x:Lo):Prop:=∃ts,x.Ls[i+1]?=some ts/\x.κ.da H e ts (wF (Pz x.w qs) (n - (i+1)) (i+1))
theorem AM.same{qs:ae}{i n:Nat}{H H':Hp}{d:Addr}{x:Lo}(h:AM qs i n H d x)(s:aO H H'):AM qs i n H' d x:=let ⟨ts,e,p⟩:=h;⟨ts,e,x.κ.oA p s⟩
theorem aGb{H H1 H2:Hp}{d:Addr}{u:HO}(hd:H d=some u)(k1:bX d H H1)(k2:bX d H1 H2)(g2:H2 d=some u):aO H H2:=λb o e=>by
 by_cases eb:b=d
 ·subst eb;rw[hd] at e;cases e;exact g2
 ·exact k2 _ _ (k1 _ _ e eb) eb
inductive uE  (K:W.Frag) (CL:Addr) (vs:List V) (H:Hp) (Q:VK) (E:XK):Prop
 |mk:∀(ll lh:Addr) (os hs:ao) (cw:List Lo) (n i:Nat) (qs:ae) (p:Int),(vs=[.ref ll,.ref lh,.int p])->(H ll=some (.lst (os.map V.ref)))->(H lh=some (.lst (hs.map V.ref)))->(RL (oC CL n H) os cw)->(RL (mS qs i H) hs cw)->(cw.length<=7)->(i < n)->(qs.getD i 0=p)->Am p->(∀l H' xb,aO H H'->H l=none->H' l=some (.lst (xb.map V.ref))->RL (mS qs (i+1) H') xb cw->Q (.ref l) H')->uE K CL vs H Q E
theorem uF(tx:Txt K mg a):bT P w K mg base fS 3 a.wD a.wG ava (uE K a.cZ):=by
 have xI:=uO (P:=P) (w:=w) (base:=base) tx;refine tx.du.F.ok aC9 (by walk_at "l") λbo A outer s H vs Q E hr h=>?_;obtain⟨ll,lh,os,hs,cw,n,i,qs,p,rfl ,gl,gh,ro,rh,l7,hi,O2,hp,k⟩:=h;have hu:=gZ hr;refine aZ (aG (aM (cG (k:=2) (idx:=[2]) (N:=bBa) (cF (sc:=aJ kO) (NX:=ava) rfl rfl rfl (by decide +kernel)) rfl (sG (k1:=true) (k2:=true) (by rfl) tx.DS (aA (aB 0) (aA (aB 1) aC))) (λ_ _ _ _=>(bS (Y:=K) (n:=2) rfl (aR (aK (i:=0) (show(bBa:aj).Nodup by decide +kernel)) (aR (aK (i:=1) (show(bBa:aj).Nodup by decide +kernel)) bR)))) (nP (cR (by decide) (cR (by decide) kD))) (λ_ _ _ _=>bH) (λ_ _ _ _=>(aCm (iK (aB 0) tx.kT tx.jg (xI) (hr.mono (by decide)) tx.dg.b .nil aT (aA (aB 1) (aA (aB 2) aC)))))))) ?_;have lo:=ro.len;have lh':=rh.len;refine aU (U:=[A' ll,A' lh,B' p]) rfl ?_;rfl';refine Md (Src.lst gl) (Src.lst gh) ?_;refine xS (n:=cw.length) (by rw[bO];lia) (by rw[bO];lia) (.inl (by rw[bO];lia)) (cA (by lia))
  (λj us H'=>aO H H'/\∃xb:ao,us=xb.map V.ref/\xb.length=j/\RL (mS qs (i+1) H') xb (cw.take j)) ⟨aO.refl _,[],rfl,rfl,RL.nil⟩
  (λj us H' hj ⟨s',xb,e1,e2,r⟩=>⟨⟨Src.lst (s' _ _ gl),Src.lst (s' _ _ gh)⟩,by rw[e1,bO];lia⟩)
  (λj x y us H' T hx hy Sd nT=>?_) (λus H' Sb=>?_)
 ·obtain⟨s',xb,e1,e2,r⟩:=Sd;obtain⟨o,X,eo,rfl,eX,hL⟩:=ro.gt hx;obtain⟨d,X',ed,rfl,Cg,hd⟩:=rh.gt hy;rw[eX] at Cg;cases Cg;obtain⟨H1,i1,sT,gT⟩:=nw _ nT;rw[i1];have s1:=s'.trans sT;obtain⟨rows,gd,hH⟩:=mS.same hd s1;have xf:qZ a.cZ X.κ H1 o X.a n X.w X.Ls:=oC.same hL s1;obtain⟨dx,la,wd,ks,g,o1,_⟩:=xf.ex;refine dH (iF.of gT) rfl ?_;rfl';refine⟨_,_,_,rfl,o1,rfl,?_⟩;rfl';refine⟨X.α,X.κ,o,d,X.a,n,i,X.w,X.Ls,rows,qs,p,rfl,xf,gd,hH,hi,O2,hp,λq H2 ob wq nq k2 OU hH' gq=>?_⟩;refine⟨d,_,X.κ.um _,gd,ob,OU,?_⟩;obtain⟨H3,i3,k3,g3⟩:=wr H2 d _;rw[i3];have s3:=aGb gd k2 k3 g3;have qd:q≠d:=λz=>by rw[z,gd] at nq;cases nq
  refine⟨s1.trans s3,xb ++ [q],by rw[e1,jF];rfl,by rw[jE,e2];rfl,?_⟩;rw[cY eX];exact RL.snoc (r.imp λ_ _ z=>mS.same z (sT.trans s3)) ⟨wq,k3 _ _ gq qd,hH'⟩
 ·obtain⟨s',xb,e1,e2,r⟩:=Sb;subst e1;rw[rA] at r;intro l nl;obtain⟨H2,i2,s2,g2⟩:=nw _ nl;rw[i2];rfl';exact k l H2 xb (s'.trans s2) (s'.free nl) g2 (r.imp λ_ _ z=>mS.same z s2)
inductive zP  (K:W.Frag) (CW CM CS CL:Addr) (vs:List V) (H:Hp) (Q:VK) (E:XK):Prop
 |mk:∀(w ll lh lt:Addr) (W:WS) (os hs ts:ao) (cw:List Lo) (n i:Nat) (qs:ae) (want:Int),(vs=[.ref w,.int want,.ref ll,.ref lh,.ref lt])->gO CW CM CS H w W->W.Good->(H ll=some (.lst (os.map V.ref)))->(H lh=some (.lst (hs.map V.ref)))->(H lt=some (.lst (ts.map V.ref)))->(RL (oC CL n H) os cw)->(RL (mS qs i H) hs cw)->(RL (AM qs i n H) ts cw)->(cw.length<=7)->(i < n)->(qs.length=n)->(∀r H',aO H H'->pI W.bj (bF want (cw.map λx p=>x.val (qs.set i p))) r->Q (.int r) H')->zP K CW CM CS CL vs H Q E
theorem zQ(tx:Txt K mg a):bT P w K mg base fS 3 a.aA7 a.aA8 awa (zP K a.eC a.aY a.cJ a.cZ):=by
 have tI:=rS (P:=P) (w:=w) (base:=base) tx;have aG6:=aFp (P:=P) (w:=w) (base:=base) tx;refine tx.gv.F.ok yL (by walk_at "l") λbo A outer s H vs Q E hr h=>?_;obtain⟨w,ll,lh,lt,W,os,hs,ts,cw,n,i,qs,want,rfl ,hw,hg,gl,gh,gt,ro,rh,rt,l7,hi,hn,k⟩:=h;have hu:=gZ hr;refine aZ (aE (eO (k:=3) (idx:=[]) (N:=bma) (i:=5) yL.nd rfl (Or.inl rfl) (cF (sc:=aJ nX) (NX:=bra) rfl rfl rfl (by decide +kernel)) rfl (aI2 (k1:=true) (k2:=true) (k3:=true) (by rfl) tx.DS (aA (aB 2) (aA (aB 3) (aA (aB 4) aC)))) (λ_ _ _ _=>(bS (Y:=K) (n:=3) rfl (aR (aK (i:=0) (show(bma:aj).Nodup by decide +kernel)) (aR (aK (i:=1) (show(bma:aj).Nodup by decide +kernel)) (aR (aK (i:=2) (show(bma:aj).Nodup by decide +kernel)) bR))))) (nP (cR (by decide) (cR (by decide) (cR (by decide) kD)))) (λ_ _ _ _=>bH) (λ_ _ _ _=>(aCm (iK (aB 0) tx.kT tx.gx (tI) (hr.mono (by decide)) tx.cq.b .nil aT (aA (aB 1) (aA (aB 2) aC))))))
  (aG (aM (bg aG6 hr tx.kh (aA (bI (Y:=K) (aB 0) rfl) (aA (aB 1) (aA (aB 5) aC))))))) ?_
 have lo:=ro.len;have lh':=rh.len;have lt':=rt.len;refine aU (U:=[A' w,B' want,A' ll,A' lh,A' lt,none]) rfl ?_;rfl';refine aRc (Src.lst gl) (Src.lst gh) (Src.lst gt) ?_;refine aKS (n:=cw.length) (by rw[bO];lia) (by rw[bO];lia) (by rw[bO];lia) (.inl (by rw[bO];lia)) (cA (by lia))
  (λj us H'=>aO H H'/\∃ds:ao,us=ds.map V.ref/\ds.length=j/\RL (Co H') ds ((cw.take j).map λx p=>x.val (qs.set i p))) ⟨aO.refl _,[],rfl,rfl,RL.nil⟩
  (λj us H' hj ⟨s',ds,e1,e2,r⟩=>⟨⟨Src.lst (s' _ _ gl),Src.lst (s' _ _ gh),Src.lst (s' _ _ gt)⟩,by rw[e1,bO];lia⟩)
  (λj x y z us H' T hx hy hz Jz nT=>?_) (λus H' Jy=>?_)
 ·obtain⟨s',ds,e1,e2,r⟩:=Jz;obtain⟨o,X,eo,rfl,eX,hL⟩:=ro.gt hx;obtain⟨d,X',ed,rfl,Cg,hd⟩:=rh.gt hy;rw[eX] at Cg;cases Cg;obtain⟨e,X',ee,rfl,Cg,he⟩:=rt.gt hz;rw[eX] at Cg;cases Cg;obtain⟨H1,i1,sT,gT⟩:=nw _ nT;rw[i1];have s1:=s'.trans sT;obtain⟨rows,gd,hH⟩:=mS.same hd s1;obtain⟨tt,ett,gtt⟩:=AM.same he s1;have xf:qZ a.cZ X.κ H1 o X.a n X.w X.Ls:=oC.same hL s1;obtain⟨dx,la,wd,ks,g,o1,_⟩:=xf.ex;refine dH (iF.of gT) rfl ?_;rfl';refine⟨_,_,_,rfl,o1,rfl,?_⟩;rfl';refine⟨X.α,X.κ,o,d,e,X.a,n,i,X.w,X.Ls,rows,qs,tt,rfl,xf,gd,hH,hi,hn,ett,gtt,λq H2 ob rs nq k2 OU E7 Ay gq=>?_⟩;refine⟨d,_,X.κ.um _,gd,ob,OU,?_⟩;obtain⟨H3,i3,k3,g3⟩:=wr H2 d _;rw[i3];have s3:=aGb gd k2 k3 g3;have qd:q≠d:=λz=>by rw[z,gd] at nq;cases nq
  refine⟨s1.trans s3,ds ++ [q],by rw[e1,jF];rfl,by rw[jE,e2];rfl,?_⟩;rw[cY eX,jF];refine RL.snoc (r.imp λ_ _ z=>Co.same z (sT.trans s3)) ⟨rs,k3 _ _ gq qd,λp=>?_,Ay⟩;show LM rs p (wF (Pz X.w (qs.set i p)) (qs.set i p).length 0 X.a);rw[D4,hn];exact E7 p
 ·obtain⟨s',ds,e1,e2,r⟩:=Jy;subst e1;rw[rA] at r;intro l nl;obtain⟨H2,i2,s2,g2⟩:=nw _ nl;rw[i2];have S2:=s'.trans s2;obtain⟨dx,lm,st,gw,_⟩:=(hw.tr S2.tr).ex;rfl';refine dM gw tx.lW tx.aBd rfl ?_;rfl';exact⟨W.bj,want,l,ds,_,rfl,g2,r.imp λ_ _ z=>Co.same z s2,by lia,hg.bj,λr' H3 s3 hb=>k r' H3 (S2.trans s3) hb⟩
inductive uG  (K:W.Frag) (CW CM CS CL t:Addr) (vs:List V) (H:Hp) (Q:VK) (E:XK):Prop
 |mk:∀(w:Addr) (W:WS) (a:Addr) (P:Ps) (u:Addr) (ws:ae) (q:Addr) (qs:ae) (h:Nat),(vs=[.ref w,.ref a,.ref u,.ref q,.int (h:Int)])->(H t=some (.ig cK cL))->gO CW CM CS H w W->W.Good->tW H a P->DP W P->(H u=some (.lst (ws.map V.int)))->(H q=some (.lst (qs.map V.int)))->(ws.length=qs.length)->((∀n∈qs,Am n))->(qs.length<=48)->(h < qs.length)->(∀r H',aO H H'->pI W.bj (λp=>ph W P ws (qs.set h p)) r->Q (.int r) H')->uG K CW CM CS CL t vs H Q E
theorem aDl(tx:Txt K mg a):bT P w K mg base fS 13 a.wH a.wI ara (uG K a.eC a.aY a.cJ a.cZ a.cQ):=by
 have gR:=j9 (P:=P) (w:=w) (base:=base) tx;have iY:=kZ (P:=P) (w:=w) (base:=base) tx;have tJ:=zQ (P:=P) (w:=w) (base:=base) tx;have pL:=uF (P:=P) (w:=w) (base:=base) tx;have RH:=aCY (P:=P) (w:=w) (base:=base) tx;refine tx.iy.F.ok fG (by walk_at "l") λbo A outer s H vs Q E hr h=>?_;obtain⟨w,W,ap,P,u,ws,q,qs,h,rfl ,gt,hw,hg,hP,hB,AA,hq,hlen,ha,hl,hh,k⟩:=h;have hu:=gZ hr;refine aZ (aE (aI (i:=5) fG.nd (bg RH hr tx.jr (aA (aB 0) (aA (aB 1) (aA (aN (rc:=nQ K) cV (by rfl) tx.iV fT (aA (aB 2) aC)) aC)))))
  (aE (eO (k:=1) (idx:=[]) (N:=["lone"]) (i:=6) fG.nd rfl (Or.inl rfl) (cF (sc:=aJ iO) (NX:=ala) rfl rfl rfl (by decide +kernel)) rfl (bC (Y:=K) (aB 5)) (λ_ _ _ _=>(aK (i:=0) (show(["lone"]:aj).Nodup by decide +kernel))) (cX (by decide)) (λ_ _ _ _=>bH) (λ_ _ _ _=>(vA (aB 0) tx.kT tx.cu (gR) (hr.mono (by decide)) tx.bx.b .nil aT)))
  (aE (bN PassesOwn.never rfl (bC (Y:=K) (jZ (rs:=Cr K) Fq (aB 3) lE (lF (aB 4)))) (aK (i:=7) fG.nd) (aG (aI (i:=6) fG.nd (bg pL hr tx.du (aA (aB 5) (aA (aB 6) (aA (aB 7) aC)))))))
  (aE (eO (k:=1) (idx:=[4,3]) (N:=["lone","hour","prices"]) (i:=8) fG.nd rfl (Or.inl rfl) (cF (sc:=aJ iO) (NX:=ala) rfl rfl rfl (by decide +kernel)) rfl (bC (Y:=K) (aB 5)) (λ_ _ _ _=>(aK (i:=0) (show(["lone","hour","prices"]:aj).Nodup by decide +kernel))) (cX (by decide)) (λ_ _ _ _=>bH) (λ_ _ _ _=>(aH (Y:=K) (iK (aB 0) tx.kT tx.dh (iY) (hr.mono (by decide)) tx.cg.b .nil aT (aA (aB 2) aC)) (aL bJ (aB 1) aD))))
  (aG (aM (bg tJ hr tx.gv (aA (aB 0) (aA (aH (Y:=K) (aB 2) (aB 4)) (aA (aB 5) (aA (aB 6) (aA (aB 8) aC)))))))))))) ?_
 refine aU (U:=[A' w,A' ap,A' u,A' q,B' (h:Int),none,none,none,none]) rfl ?_;rfl';refine⟨w,W,ap,P,qs.length,by rw[bO,hlen],hw,hg,hP,hB,hl,λl H1 os cw s1 gl ro GX l7=>?_⟩;have lo:=ro.len;rfl';refine eY (bP.of gl) ?_;refine dP (xs:=os.map V.ref) (λj us H'=>aO H1 H'/\∃hs:ao,us=hs.map V.ref/\hs.length=j/\RL (mS qs 0 H') hs (cw.take j)) ⟨aO.refl _,[],rfl,rfl,RL.nil⟩ (cA (by rw[bO];lia))
  (λj us H' hj ⟨s',hs,e1,e2,r⟩=>⟨bP.of (s' _ _ gl),by rw[e1,bO];lia⟩) (λj v us H2 hv Jx=>?_) (λus H2 Jw=>?_)
 ·obtain⟨s2,hs,e1,e2,r⟩:=Jx;obtain⟨o,X,eo,rfl,eX,hL⟩:=ro.gt hv;have Bg:qZ a.cZ X.κ H2 o X.a qs.length X.w X.Ls:=oC.same hL s2;obtain⟨dx,la,wd,ks,g,o1,_⟩:=Bg.ex;rfl';refine⟨_,_,_,rfl,o1,rfl,?_⟩;rfl';refine⟨X.α,X.κ,o,X.a,qs.length,X.w,X.Ls,rfl,Bg,λd H3 nd s3 gd=>?_⟩;refine⟨s2.trans s3,hs ++ [d],by rw[e1,jF];rfl,by rw[jE,e2];rfl,?_⟩;rw[cY eX];exact RL.snoc (r.imp λ_ _ z=>mS.same z s3) ⟨_,gd,qo.zero _ _⟩
 obtain⟨s2,hs,e1,e2,r⟩:=Jw;subst e1;rw[bO,lo,rA] at r;intro lh NF;obtain⟨H3,i3,s3,g3⟩:=nw _ NF;rw[i3];have B3:=s2.trans s3;have Oh:=(s1.trans B3) _ _ hq;rfl';refine uY (bP.of Oh) λp1 np1=>?_;rw[aIj,<-List.map_take];obtain⟨H4,i4,s4,g4⟩:=nw _ np1;rw[i4];have EK:=B3.trans s4;refine eY (bP.of g4) ?_;refine jM (xs:=(qs.take h).map V.int) (λi U' H'=>aO H4 H'/\∃(lh:Addr) (hs:ao) (z7 z8:Option V),U'=[A' w,A' ap,A' u,A' q,B' (h:Int),A' l,A' lh,z7,z8]/\H' lh=some (.lst (hs.map V.ref))/\RL (mS qs i H') hs cw)
  ⟨aO.refl _,lh,hs,_,_,rfl,s4 _ _ g3,r.imp λ_ _ z=>mS.same z (s3.trans s4)⟩ (λi U' H' hi ⟨s',_⟩=>bP.of (s' _ _ g4)) (λi v U' H5 hv Jv=>?_) (λU' H5 Ju=>?_)
 ·obtain⟨s5,lh,hs,z7,z8,e,gh,rh⟩:=Jv;subst e;obtain⟨p,ep,rfl⟩:=kU hv;have li:i < (qs.take h).length:=(mT.mp ep).1;rw[yF] at li;rw[MR (by lia)] at ep;have B2:=EK.trans s5;rfl';refine⟨l,lh,os,hs,cw,qs.length,i,qs,p,rfl,B2 _ _ gl,gh,ro.imp λ_ _ z=>oC.same z B2,rh,l7,by lia,by rw[qi,ep];rfl,ha p (pM ep),λl2 H6 fc s6 _ g6 r6=>?_⟩;rfl';exact⟨s5.trans s6,l2,fc,_,_,rfl,g6,r6⟩
 obtain⟨s5,lh,hs,z7,z8,e,gh,rh⟩:=Ju;subst e;rw[bO,yF,FY (by lia)] at rh;have B2:=EK.trans s5;have S5:=s1.trans B2;have DH:=B2 _ _ gl;rfl';refine eY (bP.of DH) ?_;refine dP (xs:=os.map V.ref) (λj us H'=>aO H5 H'/\∃ts:ao,us=ts.map V.ref/\ts.length=j/\RL (AM qs h qs.length H') ts (cw.take j)) ⟨aO.refl _,[],rfl,rfl,RL.nil⟩ (cA (by rw[bO];lia))
  (λj us H' hj ⟨s',hs,e1,e2,r⟩=>⟨bP.of (s' _ _ DH),by rw[e1,bO];lia⟩) (λj v us H6 hv Jt=>?_) (λus H6 Js=>?_)
 ·obtain⟨s6,ts,e1,e2,rt⟩:=Jt;obtain⟨o,X,eo,rfl,eX,hL⟩:=ro.gt hv;have S6:=S5.trans s6;have OO:qZ a.cZ X.κ H6 o X.a qs.length X.w X.Ls:=oC.same hL (B2.trans s6);obtain⟨dx,la,wd,ks,g,o1,_⟩:=OO.ex;rfl';refine⟨_,_,_,rfl,o1,rfl,?_⟩;rfl';refine⟨X.α,X.κ,o,q,X.a,qs.length,X.w,X.Ls,qs,rfl,S6 _ _ gt,OO,S6 _ _ hq,ha,rfl,hl,λrr H7 s7 nr hD=>?_⟩;obtain⟨ds,Fe,EX,vp⟩:=hD.ex;have lLs:=OO.ok.len;have ed:ds[h+1]?=some ds[h+1]:=eQ (by lia);have eL:X.Ls[h+1]?=some X.Ls[h+1]:=eQ (by lia);have zf:=vp (h+1) _ _ ed eL;generalize ds[h+1]=dd at ed zf;generalize X.Ls[h+1]=tt at eL zf;have ix:pP (ds.map V.ref) ((h:Int)+1)=some (.ref dd):=by
   rw[show(h:Int)+1=((h+1:Nat):Int) by push_cast;rfl];exact eB (DW ed)
  rfl';refine⟨s6.trans s7,ts ++ [dd],by rw[e1,jF];rfl,by rw[jE,e2];rfl,?_⟩;rw[cY eX];exact RL.snoc (rt.imp λ_ _ z=>AM.same z s7) ⟨tt,eL,zf⟩
 obtain⟨s6,ts,e1,e2,rt⟩:=Js;subst e1;rw[bO,lo,rA] at rt;intro lt ND;obtain⟨H7,i7,s7,g7⟩:=nw _ ND;rw[i7];have A5:=s6.trans s7;have S7:=S5.trans A5;have hu7:=S7 _ _ AA;have ew:ws[h]?=some ws[h]:=eQ (by lia);have ixw:pP (ws.map V.int) (h:Int)=some (.int ws[h]):=eB (by rw[lB,ew];rfl);rfl';refine⟨w,l,lh,lt,W,os,hs,ts,cw,qs.length,h,qs,ws[h],rfl,hw.tr S7.tr,hg,(B2.trans A5) _ _ gl,A5 _ _ gh,g7,ro.imp λ_ _ z=>oC.same z (B2.trans A5),rh.imp λ_ _ z=>mS.same z A5,rt.imp λ_ _ z=>AM.same z s7,l7,hh,rfl,λr' H8 s8 hb=>?_⟩;exact k r' H8 (S7.trans s8) (hb.shift λp=>aKf GX rfl hh ew p)
section
variable{W:WS}{P:Ps}{ws:ae}
def rT(qs rs:ae)(h:Nat):ae:=rs.take h++qs.drop h
theorem Z9{qs rs:ae}{h:Nat}{r:Int}(e:rs[h]?=some r)(hh:h < qs.length):(rT qs rs h).set h r=rT qs rs (h+1):=by
 have l:h < rs.length:=(mT.mp e).1;unfold rT;rw[List.set_append_right _ _ (by rw[yF];lia),yF,FY (by lia),yr,cY e,F3];congr 1;rw[Ie hh];rfl
theorem aRw{qs rs:ae}{h:Nat}(hh:h < qs.length)(l:h<=rs.length):(rT qs rs h).set h (qs.getD h 0)=rT qs rs h:=by
 unfold rT;rw[List.set_append_right _ _ (by rw[yF];lia),yF,FY (by lia),yr,Ie hh,qi,eQ hh];rfl
structure R1(W:WS)(P:Ps)(ws qs rs:ae):Prop where
 len:rs.length=qs.length
 at_:∀(h:Nat) r,rs[h]?=some r->pI W.bj (λp=>ph W P ws ((rT qs rs h).set h p)) r
theorem R1.am{qs rs:ae}(h:R1 W P ws qs rs):∀n∈rs,0<=n/\n<=W.bj:=λn hn=>by
 obtain⟨i,hi⟩:=ur hn;exact⟨(h.at_ i n hi).lo,(h.at_ i n hi).hi⟩
theorem R1.uniq{qs rs oa:ae}(h:R1 W P ws qs rs)(k:R1 W P ws qs oa):rs=oa:=by
 have key:∀n,rs.take n=oa.take n:=λn=>by
  induction n with
  |zero=>rfl
  |succ n ih=>
   by_cases l:n < rs.length
   ·have e1:rs[n]?=some rs[n]:=eQ l;have l':n < oa.length:=by rw[k.len,<-h.len];exact l
    have e2:oa[n]?=some oa[n]:=eQ l';have b1:=h.at_ n _ e1;have b2:=k.at_ n _ e2;have es:rT qs rs n=rT qs oa n:=by unfold rT;rw[ih]
    rw[es] at b1;rw[cY e1,cY e2,ih,b1.uniq b2]
   ·have l':¬n < oa.length:=by rw[k.len,<-h.len];exact l
    rw[A0 (by lia),A0 (by lia)];rw[A0 (by lia),A0 (by lia)] at ih;exact ih
 have:=key rs.length;rw[rA,A0 (by rw[h.len,k.len];exact eR _)] at this;exact this
theorem R1.up{qs rs:ae}(h:R1 W P ws qs rs)(ha:∀n∈qs,0<=n/\n<=W.bj):ph W P ws qs<=ph W P ws rs:=by
 have key:∀n,n<=qs.length->ph W P ws qs<=ph W P ws (rT qs rs n):=λn=>by
  induction n with
  |zero=>intro _;unfold rT;exact sr _
  |succ n ih=>
   intro hn;have l:n < rs.length:=by rw[h.len];lia
   have e1:rs[n]?=some rs[n]:=eQ l;have b:=h.at_ n _ e1;have q:=ha qs[n] (AY (by lia));have z:=b.best q.1 q.2;have e2:qs[n]=qs.getD n 0:=by rw[qi,eQ (by lia)];rfl
   have z':ph W P ws ((rT qs rs n).set n qs[n])<=ph W P ws ((rT qs rs n).set n rs[n]):=z;rw[e2,aRw (by lia) (by lia),Z9 e1 (by lia)] at z';exact tw (ih (by lia)) z'
 have:=key qs.length (eR _);unfold rT at this;rw[HU,ub,A0 (by rw[h.len];exact eR _)] at this;exact this
def Cl(W:WS)(P:Ps)(ws:ae):Nat->ae->ae->Bool->Prop
 |0,qs,rs,st=>rs=qs/\st=false
 |k+1,qs,rs,st=>∃oa jk,Cl W P ws k qs oa jk/\((jk=true/\rs=oa/\st=true)\/(jk=false/\R1 W P ws oa rs/\st=decide (rs=oa)))
theorem Cl.uniq{qs:ae}:∀{k:Nat}{rs oa:ae}{st jk:Bool},Cl W P ws k qs rs st->Cl W P ws k qs oa jk->rs=oa/\st=jk
 |0,_,_,_,_,⟨a,b⟩,⟨c,d⟩=>⟨a.trans c.symm,b.trans d.symm⟩
 |k+1,rs,oa,st,jk,⟨u,s,h,x⟩,⟨u',s',h',x'⟩=>by
  obtain⟨rfl,rfl⟩:=Cl.uniq h h';rcases x with ⟨a,b,c⟩|⟨a,b,c⟩ <;> rcases x' with ⟨a',b',c'⟩|⟨a',b',c'⟩
  ·exact⟨b.trans b'.symm,c.trans c'.symm⟩
  ·rw[a] at a';cases a'
  ·rw[a] at a';cases a'
  ·obtain rfl:=b.uniq b';exact⟨rfl,c.trans c'.symm⟩
theorem Cl.oI{qs rs:ae}:∀{i k:Nat},Cl W P ws k qs rs true->Cl W P ws (k+i) qs rs true
 |0,_,h=>h
 |i+1,_,h=>⟨rs,true,Cl.oI (i:=i) h,.inl ⟨rfl,rfl,rfl⟩⟩
theorem Cl.good{qs:ae}(ha:∀n∈qs,0<=n/\n<=W.bj):∀{k:Nat}{rs:ae}{st:Bool},Cl W P ws k qs rs st->rs.length=qs.length/\∀n∈rs,0<=n/\n<=W.bj
 |0,_,_,⟨e,_⟩=>by rw[e];exact⟨rfl,ha⟩
 |k+1,rs,st,⟨u,s,h,x⟩=>by
  obtain⟨a,b⟩:=Cl.good ha h;rcases x with ⟨_,e,_⟩|⟨_,e,_⟩
  ·rw[e];exact⟨a,b⟩
  ·exact⟨e.len.trans a,e.am⟩
theorem Cl.step{qs rs oa:ae}{st jk:Bool}(ha:∀n∈qs,0<=n/\n<=W.bj){k:Nat}(h:Cl W P ws k qs rs st)(x:(st=true/\oa=rs/\jk=true)\/(st=false/\R1 W P ws rs oa/\jk=decide (oa=rs))):ph W P ws rs<=ph W P ws oa:=by
 rcases x with ⟨_,e,_⟩|⟨_,e,_⟩
 ·rw[e];exact sr _
 ·exact e.up (Cl.good ha h).2
theorem Cl.up{qs:ae}(ha:∀n∈qs,0<=n/\n<=W.bj):∀{k:Nat}{rs:ae}{st:Bool},Cl W P ws k qs rs st->ph W P ws qs<=ph W P ws rs
 |0,_,_,⟨e,_⟩=>by rw[e];exact sr _
 |k+1,rs,st,⟨u,s,h,x⟩=>tw (Cl.up ha h) (Cl.step ha h x)
theorem Cl.up1{qs r1:ae}{s1:Bool}(ha:∀n∈qs,0<=n/\n<=W.bj)(h1:Cl W P ws 1 qs r1 s1):∀{k:Nat}{rs:ae}{st:Bool},1<=k->Cl W P ws k qs rs st->ph W P ws r1<=ph W P ws rs
 |0,_,_,z,_=>by lia
 |k+1,rs,st,_,h=>by
  rcases Nat.eq_zero_or_pos k with z|z
  ·subst z;obtain⟨e,_⟩:=Cl.uniq h1 h;rw[e];exact sr _
  ·obtain⟨u,s,h',x⟩:=h;exact tw (Cl.up1 ha h1 z h') (Cl.step ha h' x)
end
section
variable{α:Type}{w:α->List (Wy α)}{uw uv:ae}
theorem Rb{m:Nat}(e:uw.getD m 0=uv.getD m 0):Pz w uw m=Pz w uv m:=by
 funext x
 unfold Pz;rw[e]
theorem qo.Pc{a:α}{i:Nat}{rows:List (α×Int)}(h:qo (Pz w uw) a i rows)(e:∀m,m < i->uw.getD m 0=uv.getD m 0):qo (Pz w uv) a i rows:=
 ⟨h.nd,λp hp=>(h.so p hp).congr λm _ h2=>Rb (e m (by lia)),λy v g=>h.co y v (g.congr λm _ h2=>(Rb (e m (by lia))).symm)⟩
theorem aPg{k i:Nat}(e:∀m,i<=m->uw.getD m 0=uv.getD m 0):wF (Pz w uw) k i=wF (Pz w uv) k i:=funext (Ml λm x f h1 _=>by rw[Rb (e m h1)])
end
theorem mS.Pc{uw uv:ae}{i:Nat}{H:Hp}{d:Addr}{x:Lo}(h:mS uw i H d x)(e:∀m,m < i->uw.getD m 0=uv.getD m 0):mS uv i H d x:=let ⟨rows,g,p⟩:=h;⟨rows,g,p.Pc e⟩
theorem aPh{α:Type}{κ:PK α}{rows:List (α×V)}{H:Hp}{d l:Addr}{xs:List V}(g:H d=some (κ.ho rows))(e:H l=some (.lst xs)):d≠l:=λz=>by
 rw[z,e] at g;exact FT (by rw[Option.some.inj g];exact κ.um rows)
def DT(qs:ae)(n:Nat)(H:Hp)(d:Addr)(x:Lo):Prop:=x.Ls.length=n+1/\Bp x.κ H d x.Ls (λi=>wF (Pz x.w qs) (n - i) i)
theorem DT.same{qs:ae}{n:Nat}{H H':Hp}{d:Addr}{x:Lo}(h:DT qs n H d x)(s:aO H H'):DT qs n H' d x:=⟨h.1,h.2.same s⟩
theorem QB{qs rs:ae}{h m:Nat}(l:h<=rs.length)(hm:m < h):(rT qs rs h).getD m 0=rs.getD m 0:=by
 unfold rT;rw[qi,qi,rq (by rw[yF];lia),MR hm]
theorem aRy{qs rs:ae}{h m:Nat}(l:h<=rs.length)(hm:h<=m):(rT qs rs h).getD m 0=qs.getD m 0:=by
 unfold rT;rw[qi,qi,ug (by rw[yF];lia),yF,FY l,List.getElem?_drop,show h+(m - h)=m by lia]
theorem HE{qs rs:ae}{r:Int}{h:Nat}(l:h<=rs.length):rT qs (rs ++ [r]) h=rT qs rs h:=by
 unfold rT;rw[List.take_append_of_le_length l]
inductive xJ  (K:W.Frag) (CW CM CS CL t:Addr) (vs:List V) (H:Hp) (Q:VK) (E:XK):Prop
 |mk:∀(w ll u q:Addr) (W:WS) (P:Ps) (os:ao) (cw:List Lo) (ws qs:ae),(vs=[.ref w,.ref ll,.ref u,.ref q])->(H t=some (.ig cK cL))->gO CW CM CS H w W->W.Good->(H ll=some (.lst (os.map V.ref)))->(RL (oC CL qs.length H) os cw)->PV W P qs.length cw->(cw.length<=7)->(H u=some (.lst (ws.map V.int)))->(H q=some (.lst (qs.map V.int)))->(ws.length=qs.length)->((∀n∈qs,Am n))->(qs.length<=48)->(∀l rs H',aO H H'->H l=none->H' l=some (.lst (rs.map V.int))->R1 W P ws qs rs->Q (.ref l) H')->xJ K CW CM CS CL t vs H Q E
theorem aEN(tx:Txt K mg a):bT P w K mg base fS 13 a.yY a.yZ aWa (xJ K a.eC a.aY a.cJ a.cZ a.cQ):=by
 have gR:=j9 (P:=P) (w:=w) (base:=base) tx;have iY:=kZ (P:=P) (w:=w) (base:=base) tx;have tJ:=zQ (P:=P) (w:=w) (base:=base) tx;have pL:=uF (P:=P) (w:=w) (base:=base) tx;refine tx.jn.F.ok eM (by walk_at "l") λbo A outer s H vs Q E hr h=>?_;obtain⟨w,ll,u,q,W,P,os,cw,ws,qs,rfl ,gt,hw,hg,gl,ro,GX,l7,AA,hq,hlen,ha,hl,k⟩:=h;have hu:=gZ hr;refine aZ (aE (eO (k:=1) (idx:=[3]) (N:=["lone","prices"]) (i:=4) eM.nd rfl (Or.inl rfl) (cF (sc:=aJ hV) (NX:=aba) rfl rfl rfl (by decide +kernel)) rfl (bC (Y:=K) (aB 1)) (λ_ _ _ _=>(aK (i:=0) (show(["lone","prices"]:aj).Nodup by decide +kernel))) (cX (by decide)) (λ_ _ _ _=>bH) (λ_ _ _ _=>(iK (aB 0) tx.kT tx.dh (iY) (hr.mono (by decide)) tx.cg.b .nil aT (aA (aB 1) aC))))
  (aE (eO (k:=1) (idx:=[]) (N:=["lone"]) (i:=5) eM.nd rfl (Or.inl rfl) (cF (sc:=aJ hV) (NX:=aba) rfl rfl rfl (by decide +kernel)) rfl (bC (Y:=K) (aB 1)) (λ_ _ _ _=>(aK (i:=0) (show(["lone"]:aj).Nodup by decide +kernel))) (cX (by decide)) (λ_ _ _ _=>bH) (λ_ _ _ _=>(vA (aB 0) tx.kT tx.cu (gR) (hr.mono (by decide)) tx.bx.b .nil aT)))
  (aE (aI (i:=6) eM.nd (j0 aC))
  (aE (bN PassesOwn.never rfl (j7 (Y:=K) (by rfl) tx.gF (aA (aB 2) aC)) (bS (Y:=K) (n:=2) rfl (aR (aK (i:=7) eM.nd rfl (Or.inr rfl)) (aR (aK (i:=8) eM.nd) bR))) (aE (aI (i:=9) eM.nd (bg tJ hr tx.gv (aA (aB 0) (aA (aB 8) (aA (aB 1) (aA (aB 5) (aA (cG (k:=1) (idx:=[7]) (N:=["worths","hour"]) (cF (sc:=aJ hV) (NX:=aba) rfl rfl rfl (by decide +kernel)) rfl (bC (Y:=K) (aB 4)) (λ_ _ _ _=>(aK (i:=0) (show(["worths","hour"]:aj).Nodup by decide +kernel))) (cX (by decide)) (λ_ _ _ _=>bH) (λ_ _ _ _=>(aH (Y:=K) (aB 0) (aL bJ (aB 1) aD)))) aC)))))))
  (aE (aI (i:=5) eM.nd (bg pL hr tx.du (aA (aB 1) (aA (aB 5) (aA (aB 9) aC)))))
  (aG (eZ (gI (Y:=K) (aB 6) (aA (aB 9) aC)))))))
  (aG (aM (aB 6))))))) ?_
 have lo:=ro.len;obtain⟨L0,L1⟩:=hg.bj;refine aU (U:=[A' w,A' ll,A' u,A' q,none,none,none,none,none,none]) rfl ?_;rfl';refine eY (bP.of gl) ?_;refine dP (xs:=os.map V.ref) (λj us H'=>aO H H'/\∃ts:ao,us=ts.map V.ref/\ts.length=j/\RL (DT qs qs.length H') ts (cw.take j)) ⟨aO.refl _,[],rfl,rfl,RL.nil⟩ (cA (by rw[bO];lia))
  (λj us H' hj ⟨s',hs,e1,e2,r⟩=>⟨bP.of (s' _ _ gl),by rw[e1,bO];lia⟩) (λj v us H1 hv Jr=>?_) (λus H1 Jq=>?_)
 ·obtain⟨s1,ts,e1,e2,rt⟩:=Jr;obtain⟨o,X,eo,rfl,eX,hL⟩:=ro.gt hv;have xf:qZ a.cZ X.κ H1 o X.a qs.length X.w X.Ls:=oC.same hL s1;obtain⟨dx,la,wd,ks,g,o1,_⟩:=xf.ex;rfl';refine⟨_,_,_,rfl,o1,rfl,?_⟩;rfl';refine⟨X.α,X.κ,o,q,X.a,qs.length,X.w,X.Ls,qs,rfl,s1 _ _ gt,xf,s1 _ _ hq,ha,rfl,hl,λrr H2 s2 nr hD=>?_⟩;refine⟨s1.trans s2,ts ++ [rr],by rw[e1,jF];rfl,by rw[jE,e2];rfl,?_⟩;rw[cY eX];exact RL.snoc (rt.imp λ_ _ z=>DT.same z s2) ⟨xf.ok.len,hD⟩
 obtain⟨s1,ts,e1,e2,rt⟩:=Jq;subst e1;rw[bO,lo,rA] at rt;intro le nle;obtain⟨H2,i2,s2,g2⟩:=nw _ nle;rw[i2];have S2:=s1.trans s2;have WD:=rt.imp λ_ _ z=>DT.same z s2;have ET:=WD.len;have XS:=S2 _ _ gl;rfl';refine eY (bP.of XS) ?_;refine dP (xs:=os.map V.ref) (λj us H'=>aO H2 H'/\∃hs:ao,us=hs.map V.ref/\hs.length=j/\RL (mS qs 0 H') hs (cw.take j)) ⟨aO.refl _,[],rfl,rfl,RL.nil⟩ (cA (by rw[bO];lia))
  (λj us H' hj ⟨s',hs,e1,e2,r⟩=>⟨bP.of (s' _ _ XS),by rw[e1,bO];lia⟩) (λj v us H3 hv Jp=>?_) (λus H3 Jo=>?_)
 ·obtain⟨s3,hs,e1,e2,r⟩:=Jp;obtain⟨o,X,eo,rfl,eX,hL⟩:=ro.gt hv;have Bg:qZ a.cZ X.κ H3 o X.a qs.length X.w X.Ls:=oC.same hL (S2.trans s3);obtain⟨dx,la,wd,ks,g,o1,_⟩:=Bg.ex;rfl';refine⟨_,_,_,rfl,o1,rfl,?_⟩;rfl';refine⟨X.α,X.κ,o,X.a,qs.length,X.w,X.Ls,rfl,Bg,λd H4 nd s4 gd=>?_⟩;refine⟨s3.trans s4,hs ++ [d],by rw[e1,jF];rfl,by rw[jE,e2];rfl,?_⟩;rw[cY eX];exact RL.snoc (r.imp λ_ _ z=>mS.same z s4) ⟨_,gd,qo.zero _ _⟩
 obtain⟨s3,hs,e1,e2,r⟩:=Jo;subst e1;rw[bO,lo,rA] at r;intro lh NF;obtain⟨H4,i4,s4,g4⟩:=nw _ NF;rw[i4];rfl';intro lr Dk;obtain⟨H5,i5,s5,g5⟩:=nw _ Dk;rw[i5];have sf:=s3.trans (s4.trans s5);have S5:=S2.trans sf;have S4:=S2.trans (s3.trans s4);have U0:H lr=none:=S4.free Dk;have N7:=S5 _ _ AA;rfl';refine Fz (bP.of N7) ?_;refine xO (xs:=ws.map V.int) (λi U' H'=>(∀b o,H4 b=some o->H' b=some o)/\∃(lh:Addr) (hs:ao) (cur:ae) (z7 z8 z9:Option V),U'=[A' w,A' ll,A' u,A' q,A' le,A' lh,A' lr,z7,z8,z9]/\H' lh=some (.lst (hs.map V.ref))/\H' lr=some (.lst (cur.map V.int))/\cur.length=i/\RL (mS (rT qs cur i) i H') hs cw/\∀(h:Nat) r,cur[h]?=some r->pI W.bj (λp=>ph W P ws ((rT qs cur h).set h p)) r)
  ⟨s5,lh,hs,[],_,_,_,rfl,s5 _ _ g4,g5,rfl,r.imp λ_ _ z=>mS.same z (s4.trans s5),λh r e=>by simp at e⟩ (λi U' H' hi ⟨s',_⟩=>bP.of (s' _ _ (S4 _ _ AA))) (λi v U' H6 T hv Jn nT=>?_) (λU' H6 Jm=>?_)
 ·obtain⟨s6,lh,hs,cur,z7,z8,z9,e,gh,gr,lc,rh,hc⟩:=Jn;subst e;obtain⟨wn,ew,rfl⟩:=kU hv;have hi:i < qs.length:=by
   have:=(mT.mp ew).1;lia
  obtain⟨H7,i7,s7,gT⟩:=nw _ nT;rw[i7];have S6:aO H H6:=S4.trans s6;have S7:=S6.trans s7;have Nm:aO H4 H7:=λb o e=>s7 _ _ (s6 _ _ e);have B1:aO H2 H7:=(s3.trans s4).trans Nm;have XT:=B1 _ _ g2;refine dH (iF.of gT) rfl ?_;rfl';refine eY (bP.of XT) ?_;refine dP (xs:=ts.map V.ref) (λj us H'=>H'=H7/\∃ds:ao,us=ds.map V.ref/\ds.length=j/\RL (AM (rT qs cur i) i qs.length H7) ds (cw.take j)) ⟨rfl,[],rfl,rfl,RL.nil⟩ (cA (by rw[bO];lia))
   (λj us H' hj ⟨e0,ds,e1,e2,r⟩=>⟨by rw[e0];exact bP.of XT,by rw[e1,bO];lia⟩) (λj v us H' hv Jl=>?_) (λus H' Jk=>?_)
  ·obtain⟨e0,ds,e1,e2,r⟩:=Jl;subst e0;obtain⟨d,X,ed,rfl,eX,hE⟩:=WD.gt hv;obtain⟨lX,hD⟩:=DT.same hE B1;obtain⟨dd,Fe,EX,vp⟩:=hD.ex;have e3:dd[i+1]?=some dd[i+1]:=eQ (by lia);have eL:X.Ls[i+1]?=some X.Ls[i+1]:=eQ (by lia);have zf:=vp (i+1) _ _ e3 eL;generalize dd[i+1]=d3 at e3 zf;generalize X.Ls[i+1]=tt at eL zf;have ix:pP (dd.map V.ref) ((i:Int)+1)=some (.ref d3):=by
    rw[show(i:Int)+1=((i+1:Nat):Int) by push_cast;rfl];exact eB (DW e3)
   rfl';refine⟨rfl,ds ++ [d3],by rw[e1,jF];rfl,by rw[jE,e2];rfl,?_⟩;rw[cY eX];refine RL.snoc r ⟨tt,eL,?_⟩;rw[aPg λm hm=>aRy (qs:=qs) (rs:=cur) (h:=i) (by lia) (by lia)];exact zf
  obtain⟨e0,ds,e1,e2,rd⟩:=Jk;subst e0 e1;rw[bO,ET,rA] at rd;intro lt ND;obtain⟨H8,i8,s8,g8⟩:=nw _ ND;rw[i8];have S8:=S7.trans s8;rfl';have IJ:(rT qs cur i).length=qs.length:=by
   unfold rT;rw[jE,yF,F0];lia
  refine⟨w,ll,lh,lt,W,os,hs,ds,cw,qs.length,i,rT qs cur i,wn,rfl,hw.tr S8.tr,hg,S8 _ _ gl,(s7.trans s8) _ _ gh,g8,ro.imp λ_ _ z=>oC.same z S8,rh.imp λ_ _ z=>mS.same z (s7.trans s8),rd.imp λ_ _ z=>AM.same z s8,l7,hi,IJ,λp H9 s9 hb=>?_⟩;have S9:=S8.trans s9;have Gj:=s7.trans (s8.trans s9);have yk:pI W.bj (λp=>ph W P ws ((rT qs cur i).set i p)) p:=hb.shift λp=>aKf GX IJ hi ew p;have ec:(cur ++ [p])[i]?=some p:=by rw[<-lc,ug (eR _),yr];rfl
  have eh:(rT qs (cur ++ [p]) (i+1)).getD i 0=p:=by
   rw[QB (by rw[jE];simp;lia) (by lia),qi,ec];rfl
  rfl';refine⟨ll,lh,os,hs,cw,qs.length,i,rT qs (cur ++ [p]) (i+1),p,rfl,S9 _ _ gl,Gj _ _ gh,ro.imp λ_ _ z=>oC.same z S9,rh.imp λ_ _ z=>mS.Pc (mS.same z Gj) λm hm=>?_,l7,hi,eh,⟨yk.lo,tw yk.hi L1⟩,λW0 yx fc WA WU g10 Kj=>?_⟩
  ·rw[QB (by lia) hm,QB (by rw[jE];simp;lia) (by lia),qi,qi,rq (by lia)]
  have Ey:=(Gj.trans WA) _ _ gr;rfl';refine mW (bP.of Ey) ?_;rfl';refine sE (xs:=cur.map V.int) Ey (uJ (by rw[bO];lia:_ < 1000) (cA (by decide))) ?_;obtain⟨Il,EY,pj,Lc⟩:=wr yx lr _;rw[EY];have UD:=Gj.trans WA;have yh:W0≠lr:=λz=>by
   rw[z,Gj _ _ gr] at WU;cases WU
  rfl';refine⟨λb o e=>pj _ _ (UD _ _ (s6 _ _ e)) (bE Dk e),W0,fc,cur ++ [p],_,_,_,rfl,pj _ _ g10 yh,by rw[Lc,jF];rfl,by rw[jE,lc];rfl,Kj.imp λ_ _ ⟨rows,g,hp⟩=>⟨rows,pj _ _ g (aPh g Ey),hp⟩,λh r e=>?_⟩;rcases Nat.lt_or_ge h cur.length with z|z
  ·rw[rq z] at e;rw[HE (by lia)];exact hc h r e
  ·have:h=i:=by
    have:=(mT.mp e).1;rw[jE] at this;simp at this;lia
   subst this;rw[ec] at e;cases e;rw[HE (by lia)];exact yk
 ·obtain⟨s6,lh,hs,cur,z7,z8,z9,e,gh,gr,lc,rh,hc⟩:=Jm;subst e;rw[bO] at lc;rfl';refine k lr cur H6 (S4.trans s6) U0 gr ⟨by lia,hc⟩
inductive aEO  (K:W.Frag) (CW CM CS CL t t1 t2 t3 t4:Addr) (vs:List V) (H:Hp) (Q:VK) (E:XK):Prop
 |mk:∀(w ap u q:Addr) (W:WS) (P:Ps) (ws qs:ae) (n:Nat),(vs=[.ref w,.ref ap,.ref u,.ref q,.int (n:Int)])->(H t=some (.ig cK cL))->Cp H t1 t2 t3 t4->gO CW CM CS H w W->W.Good->tW H ap P->DP W P->(H u=some (.lst (ws.map V.int)))->(H q=some (.lst (qs.map V.int)))->(ws.length=qs.length)->((∀n∈qs,0<=n/\n<=W.bj))->(qs.length<=48)->(∀T l rs st H',aO H H'->H l=none->H' T=some (.tup [.ref l,.int (ph W P ws rs),.bl st])->H' l=some (.lst (rs.map V.int))->Cl W P ws n qs rs st->Q (.ref T) H')->aEO K CW CM CS CL t t1 t2 t3 t4 vs H Q E
theorem aEP(tx:Txt K mg a):bT P w K mg base fS 16 a.aFT a.aFU ana (aEO K a.eC a.aY a.cJ a.cZ a.cQ a.cI a.dR a.cH a.dI):=by
 have RH:=aCY (P:=P) (w:=w) (base:=base) tx;have jK:=pH (P:=P) (w:=w) (base:=base) tx;have aFr:=aEN (P:=P) (w:=w) (base:=base) tx;refine tx.mj.F.ok iP (by walk_at "l") λbo A outer s H vs Q E hr h=>?_;obtain⟨w,ap,u,q,W,P,ws,qs,n,rfl ,gt,hT,hw,hg,hP,hB,AA,hq,hlen,ha,hl,k⟩:=h;have hu:=gZ hr;refine aZ (aE (aI (i:=5) iP.nd (bg RH hr tx.jr (aA (aB 0) (aA (aB 1) (aA (aN (rc:=nQ K) cV (by rfl) tx.iV fT (aA (aB 2) aC)) aC)))))
  (aE (aI (i:=3) iP.nd (bV (rc:=jA K) eW (by rfl) tx.gA fB (aA (aB 3) aC)))
  (aE (aI (i:=6) iP.nd fM)
  (aE (aCg PassesOwn.never (eJ (hJ (aW rB (aB 4) aD (bD _)) (gH (eF (cN (aB 6)))))) (aE (aI (i:=7) iP.nd (bg aFr hr tx.jn (aA (aB 0) (aA (aB 5) (aA (aB 2) (aA (aB 3) aC))))))
  (aE (aI (i:=6) iP.nd (dB (r:=iH K) (dJ hu) (aB 7) (aB 3) (bD _)))
  (aE (aI (i:=3) iP.nd (aB 7))
  (aG (oH (i:=4) iP.nd rfl (Or.inl rfl) aD Z6))))))
  (aG (aM (kH (aB 3) (bg jK hr tx.de (aA (aB 0) (aA (aB 1) (aA (aB 2) (aA (aB 3) aC))))) (aB 6)))))))) ?_
 refine aU (U:=[A' w,A' ap,A' u,A' q,B' (n:Int),none,none,none]) rfl ?_;rfl';refine⟨w,W,ap,P,qs.length,by rw[bO,hlen],hw,hg,hP,hB,hl,λll H1 os cw s1 gl ro GX l7=>?_⟩;have Ds:=s1 _ _ hq;rfl';refine iI (bP.of Ds) ?_;intro l2 yh;obtain⟨H2,i2,s2,g2⟩:=nw _ yh;rw[i2];repeat walk_at "st"
 refine Me ?_;repeat walk_at "st"
 refine fU (λU' H'=>∃(l:Addr) (rs:ae) (st:Bool) (z4 z7:Option V),U'=[A' w,A' ap,A' u,A' l,z4,A' ll,some (.bl st),z7]/\aO H1 H'/\H l=none/\H' l=some (.lst (rs.map V.int))/\Cl W P ws n qs rs st) (λN hN=>?_) ?_
 ·refine⟨λmm U' H'=>∃(j:Nat) (l:Addr) (rs:ae) (st:Bool) (z7:Option V),U'=[A' w,A' ap,A' u,A' l,B' ((n:Int) - j),A' ll,some (.bl st),z7]/\j<=n/\aO H1 H'/\H l=none/\H' l=some (.lst (rs.map V.int))/\Cl W P ws j qs rs st/\mm=n - j,⟨_,0,l2,qs,false,none,by rw[show(n:Int) - ((0:Nat):Int)=(n:Int) by lia],by lia,s2,s1.free yh,g2,⟨rfl,rfl⟩,rfl⟩,?_⟩;rintro mm U' H3 ⟨j,l,rs,st,z7,rfl,hj,s3,nl,gr,pw,rfl⟩;obtain⟨Ay,AB⟩:=Cl.good ha pw;have S3:=s1.trans s3;rfl';refine cE (λh=>?_) (λh=>?_)
  ·rfl';cases st with
   |true=>
    repeat walk_at "gs"
    refine hN _ _ ⟨l,rs,true,_,_,rfl,s3,nl,gr,?_⟩;have:=pw.oI (i:=n - j);rw[show j+(n - j)=n by lia] at this;exact this
   |false=>
    repeat walk_at "gs"
    refine⟨λU' H'=>∃(l:Addr) (rs:ae) (st:Bool) (z7:Option V),U'=[A' w,A' ap,A' u,A' l,B' ((n:Int) - ((j+1:Nat):Int)),A' ll,some (.bl st),z7]/\aO H1 H'/\H l=none/\H' l=some (.lst (rs.map V.int))/\Cl W P ws (j+1) qs rs st,λU' H' hz=>by obtain⟨l,rs,st,z7,e,s,nl,g,hc⟩:=hz;exact⟨n - (j+1),by lia,j+1,l,rs,st,z7,e,by lia,s,nl,g,hc,rfl⟩,?_⟩;rfl';refine⟨w,ll,u,l,W,P,os,cw,ws,rs,rfl,S3 _ _ gt,hw.tr S3.tr,hg,s3 _ _ gl,by rw[Ay];exact ro.imp λ_ _ z=>oC.same z s3,by rw[Ay];exact GX,l7,S3 _ _ AA,gr,by lia,λn hn=>⟨(AB n hn).1,tw (AB n hn).2 hg.bj.2⟩,by lia,λl4 Nt H4 s4 NH g4 h4=>?_⟩;rfl';refine QZ (bP.of g4) (bP.of (s4 _ _ gr)) ?_;rfl';refine FK rfl ?_;rfl';refine⟨l4,Nt,decide (Nt=rs),A' l4,?_,s3.trans s4,S3.free NH,g4,rs,false,pw,.inr ⟨rfl,h4,rfl⟩⟩;rw[show(n:Int) - ((j+1:Nat):Int)=(n:Int) - j - 1 by lia];rfl
  ·rfl';refine hN _ _ ⟨l,rs,st,_,_,rfl,s3,nl,gr,?_⟩;rw[show n=j by lia];exact pw
 rintro U' H3 ⟨l,rs,st,z4,z7,rfl,s3,nl,gr,pw⟩;obtain⟨Ay,AB⟩:=Cl.good ha pw;have S3:=s1.trans s3;rfl';refine⟨w,W,ap,P,u,ws,l,rs,rfl,hw.tr S3.tr,hg,hP.tk S3.tk,hB,S3 _ _ AA,gr,by lia,λn hn=>⟨(AB n hn).1,tw (AB n hn).2 hg.bj.2⟩,by lia,hT.same S3,λH4 s4=>?_⟩;rfl';intro T nT;obtain⟨H5,i5,s5,g5⟩:=nw _ nT;rw[i5];exact k T l rs st H5 (S3.trans (s4.trans s5)) nl g5 ((s4.trans s5) _ _ gr) pw
structure Br(H:Hp)(s a u q:Addr)(W:WS)(P:Ps)(ws qs:ae):Prop where
 w:jP H s W
 g:W.Good
 p:tW H a P
 b:DP W P
 u:H u=some (.lst (ws.map V.int))
 q:H q=some (.lst (qs.map V.int))
 len:ws.length=qs.length
 am:∀n∈qs,0<=n/\n<=W.bj
 yH:qs.length<=48
theorem Br.tr{H H':Hp}{s a u q:Addr}{W:WS}{P:Ps}{ws qs:ae}(h:Br H s a u q W P ws qs)(t:Tr H H'):Br H' s a u q W P ws qs:=
 ⟨h.w.tr t,h.g,h.p.tk t.tk,h.b,t _ _ h.u HC,t _ _ h.q HC,h.len,h.am,h.yH⟩
theorem Br.am'{H:Hp}{s a u q:Addr}{W:WS}{P:Ps}{ws qs:ae}(h:Br H s a u q W P ws qs):∀n∈qs,Am n:=λn hn=>⟨(h.am n hn).1,tw (h.am n hn).2 h.g.bj.2⟩
theorem ZF{K:W.Frag}{H:Hp}{n:Nat}{p q:Addr}{xs ys:List V}(h:(bP K H p xs/\bP K H q ys)\/(iF K H p xs/\iF K H q ys))(hl:xs.length=ys.length)(he:∀(j:Nat) u v,xs[j]?=some u->ys[j]?=some v->vd K H n u v true):vd K H (n+1) (.ref p) (.ref q) true:=
 .inr ⟨p,q,xs,ys,λ_=>true,rfl,rfl,h,he,by rw[hl];simp⟩
theorem ZE{K:W.Frag}{H:Hp}{n:Nat}{p q:Addr}{ns:ae}(h1:H p=some (.lst (ns.map V.int)))(h2:H q=some (.lst (ns.map V.int))):vd K H (n+2) (.ref p) (.ref q) true:=
 ZF (.inl ⟨bP.of h1,bP.of h2⟩) rfl λj u v hu hv=>by
  rw[hu] at hv;cases hv;obtain⟨x,_,rfl⟩:=kU hu;exact .inl ⟨rfl,rfl,by show true=decide (x=x);rw[mv rfl]⟩
theorem aJM{K:W.Frag}{H:Hp}{p q a b a' b':Addr}{xs ys:ae}(h:H p=some (.lst [.ref a,.ref b]))(h':H q=some (.lst [.ref a',.ref b']))(ga:H a=some (.lst (xs.map V.int)))(K1:H a'=some (.lst (xs.map V.int)))(gb:H b=some (.lst (ys.map V.int)))(XW:H b'=some (.lst (ys.map V.int))):vd K H 8 (.ref p) (.ref q) true:=
 ZF (n:=7) (.inl ⟨bP.of h,bP.of h'⟩) rfl λj u v hu hv=>by
  match j,hu,hv with
  |0,hu,hv=>cases hu;cases hv;exact ZE ga K1
  |1,hu,hv=>cases hu;cases hv;exact ZE gb XW
  |_+2,hu,_=>simp at hu
theorem bG.aSQ{H:Hp}{p l a:Addr}{xs:List V}{o:HO}(h:bG H p)(g:H l=some (.lst (.ref a::xs))):l≠p/\bG (upd H l o) p:=by
 obtain⟨d,c,q,ms,e1,e2,ne,qp⟩:=h.ex;have n1:p≠l:=λz=>by rw[z,g] at e1;cases e1
 have n2:q≠l:=λz=>by
  rw[z,g] at e2;cases ms with
  |nil=>cases e2
  |cons x r=>cases e2
 exact⟨Ne.symm n1,d,c,q,ms,by rw[aV n1];exact e1,by rw[aV n2];exact e2,ne,qp⟩
theorem sk.ints{H:Hp}{j:Nat}{p q:Addr}{ns:ae}(h1:H p=some (.lst (ns.map V.int)))(h2:H q=some (.lst (ns.map V.int)))(hl:ns.length<=1000000):sk H (j+2) (.ref p) (.ref q):=by
 refine .inr (.inr (.inr (.inr ⟨p,q,_,_,rfl,rfl,.inr ⟨h1,h2⟩,rfl,by rw[bO];exact hl,λi u v hu hv=>?_⟩)));rw[hu] at hv;cases hv;obtain⟨n,_,rfl⟩:=kU hu;exact sk.int n
theorem sk.told{H:Hp}{T T' l l':Addr}{g:Int}{st:Bool}{xs:ae}(h:H T=some (.tup [.ref l,.int g,.bl st]))(h':H T'=some (.tup [.ref l',.int g,.bl st]))(ga:H l=some (.lst (xs.map V.int)))(K1:H l'=some (.lst (xs.map V.int)))(hl:xs.length<=1000):sk H 3 (.ref T) (.ref T'):=by
 refine .inr (.inr (.inr (.inr ⟨T,T',_,_,rfl,rfl,.inl ⟨h,h'⟩,rfl,by simp,λi u v hu hv=>?_⟩)))
 match i,hu,hv with
 |0,hu,hv=>cases hu;cases hv;exact sk.ints (j:=0) ga K1 (by lia)
 |1,hu,hv=>cases hu;cases hv;exact sk.int g
 |2,hu,hv=>cases hu;cases hv;exact .inr (.inl ⟨st,rfl,rfl⟩)
 |_+3,hu,_=>simp at hu
def G9(H:Hp)(W:WS)(P:Ps)(ws qs:ae)(n:Nat)(T:Addr):Prop:=∃l rs st,H T=some (.tup [.ref l,.int (ph W P ws rs),.bl st])/\H l=some (.lst (rs.map V.int))/\Cl W P ws n qs rs st
theorem G9.tr{H H':Hp}{W:WS}{P:Ps}{ws qs:ae}{n:Nat}{T:Addr}(h:G9 H W P ws qs n T)(t:Tr H H'):G9 H' W P ws qs n T:=by
 obtain⟨l,rs,st,e1,e2,c⟩:=h;exact⟨l,rs,st,t _ _ e1 Hq,t _ _ e2 HC,c⟩
structure F4(H:Hp)(t t1 t2 t3 t4:Addr):Prop where
 t:H t=some (.ig cK cL)
 b:Cp H t1 t2 t3 t4
theorem F4.same{H H':Hp}{t t1 t2 t3 t4:Addr}(h:F4 H t t1 t2 t3 t4)(s:aO H H'):F4 H' t t1 t2 t3 t4:=⟨s _ _ h.t,h.b.same s⟩
inductive aC4  (K:W.Frag) (CW CM CS CL t t1 t2 t3 t4:Addr) (vs:List V) (H:Hp) (Q:VK) (E:XK):Prop
 |mk:∀(w s ap u q:Addr) (W:WS) (P:Ps) (ws qs:ae) (n:Nat),(vs=[.ref w,.ref ap,.ref u,.ref q,.int (n:Int)])->F4 H t t1 t2 t3 t4->gO CW CM CS H w W->Br H s ap u q W P ws qs->(n<=100)->(∀T H',aO H H'->G9 H' W P ws qs n T->Q (.ref T) H')->aC4 K CW CM CS CL t t1 t2 t3 t4 vs H Q E
theorem aIt(tx:Txt K mg a):bT P w K mg base fS 16 a.aEn a.aEo ue (aC4 K a.eC a.aY a.cJ a.cZ a.cQ a.cI a.dR a.cH a.dI):=by
 have jK:=pH (P:=P) (w:=w) (base:=base) tx;have aEQ:=aDl (P:=P) (w:=w) (base:=base) tx;refine tx.jv.F.ok iQ (by walk_at "l") λbo A outer s H vs Q E hr h=>?_;obtain⟨w,s,ap,u,q,W,P,ws,qs,n,rfl ,hT,hw,hC,hn,k⟩:=h;have hu:=gZ hr;refine aZ (aE (aI (i:=5) iQ.nd (bV (rc:=jA K) eW (by rfl) tx.gA fB (aA (aB 3) aC)))
  (aE (aI (i:=6) iQ.nd fM)
  (aE (bN PassesOwn.never rfl (cO (by rfl) tx.eU (aA (aB 4) aC)) (aK (i:=7) iQ.nd) (aE (bB (cN (aB 6)) (aG aHB) bA)
  (aE (aI (i:=8) iQ.nd (bV (rc:=jA K) eW (by rfl) tx.gA fB (aA (aB 5) aC)))
  (aE (bN PassesOwn.never rfl (cO (by rfl) tx.eU (aA (aN (rc:=nQ K) cV (by rfl) tx.iV fT (aA (aB 5) aC)) aC)) (aK (i:=9) iQ.nd) (aG (lG (bg aEQ hr tx.iy (aA (aB 0) (aA (aB 1) (aA (aB 2) (aA (bV (rc:=jA K) eW (by rfl) tx.gA fB (aA (aB 5) aC)) (aA (aB 9) aC)))))) (oF (aB 5) (aB 9) set_list))))
  (aG (aI (i:=6) iQ.nd (dB (r:=iH K) (dJ hu) (aB 5) (aB 8) (bD _))))))))
  (aG (aM (kH (aB 5) (bg jK hr tx.de (aA (aB 0) (aA (aB 1) (aA (aB 2) (aA (aB 5) aC))))) (aB 6))))))) ?_
 have hg:=hC.g;have yH:=hC.yH;refine aU (U:=[A' w,A' ap,A' u,A' q,B' (n:Int),none,none,none,none,none]) rfl ?_;rfl';refine iI (bP.of hC.q) ?_;intro ls WQ;obtain⟨H2,i2,s2,g2⟩:=nw _ WQ;rw[i2];repeat walk_at "st"
 refine Me ?_;repeat walk_at "st"
 refine fU (λU' H'=>∃(rs:ae) (st:Bool) (z7 z8 z9:Option V),U'=[A' w,A' ap,A' u,A' q,B' (n:Int),A' ls,some (.bl st),z7,z8,z9]/\aO H H'/\H' ls=some (.lst (rs.map V.int))/\Cl W P ws n qs rs st) (λN hN=>?_) ?_
 ·rfl';refine⟨by lia,by lia,?_⟩;rw[zr];refine mF (n:=n) (λi U' H'=>∃(rs:ae) (st:Bool) (z7 z8 z9:Option V),U'=[A' w,A' ap,A' u,A' q,B' (n:Int),A' ls,some (.bl st),z7,z8,z9]/\aO H H'/\H' ls=some (.lst (rs.map V.int))/\Cl W P ws i qs rs st) ⟨qs,false,_,_,_,rfl,s2,g2,rfl,rfl⟩ (λi U' H3 hi Jj=>?_) (λU' H3 Ji=>?_)
  ·obtain⟨rs,st,z7,z8,z9,e,s3,gr,pw⟩:=Jj;subst e;obtain⟨Ay,AB⟩:=Cl.good hC.am pw;rfl';cases st with
   |true=>
    repeat walk_at "gs"
    refine hN _ _ ⟨rs,true,_,_,_,rfl,s3,gr,?_⟩;have:=pw.oI (i:=n - i);rw[show i+(n - i)=n by lia] at this;exact this
   |false=>
    repeat walk_at "gs"
    refine iI (bP.of gr) ?_;intro la xa;obtain⟨H4,i4,s4,g4⟩:=nw _ xa;rw[i4];have gr4:=s4 _ _ gr;have og:la≠ls:=λz=>by rw[z,gr] at xa;cases xa
    rfl';refine⟨by rw[bO];lia,by rw[bO];lia,?_⟩;rw[bO,zr];refine mF (n:=rs.length) (λh U' H'=>∃(nr:ae) (z9:Option V),U'=[A' w,A' ap,A' u,A' q,B' (n:Int),A' ls,some (.bl false),B' (0+(i:Int)),A' la,z9]/\aO H H'/\H' la=some (.lst (rs.map V.int))/\H' ls=some (.lst ((rT rs nr h).map V.int))/\nr.length=h/\∀(m:Nat) r,nr[m]?=some r->pI W.bj (λp=>ph W P ws ((rT rs nr m).set m p)) r)
     ⟨[],_,rfl,s3.trans s4,g4,gr4,rfl,λm r e=>by simp at e⟩ (λh U' H5 hh Jh=>?_) (λU' H5 Jg=>?_)
    ·obtain⟨nr,z9,e,s5,OW,Fd,ln,hb⟩:=Jh;subst e;have l5:(rT rs nr h).length=rs.length:=by
      unfold rT;rw[jE,yF,F0];lia
     rfl';refine iI (bP.of Fd) ?_;intro l6 NG;obtain⟨H6,i6,s6,g6⟩:=nw _ NG;rw[i6];have S6:=s5.trans s6;have C6:=hC.tr S6.tr;have am6:∀x∈rT rs nr h,Am x:=λx hx=>by
      unfold rT at hx;rcases nz.mp hx with z|z
      ·obtain⟨m,hm⟩:=ur (List.mem_of_mem_take z);have:=hb m x hm;exact⟨this.lo,tw this.hi hg.bj.2⟩
      ·have:=AB x (List.mem_of_mem_drop z);exact⟨this.1,tw this.2 hg.bj.2⟩
     rfl';rw[show(0+(h:Int))=(h:Int) by lia];refine⟨w,W,ap,P,u,ws,l6,rT rs nr h,h,rfl,S6 _ _ hT.t,hw.tr S6.tr,hg,C6.p,C6.b,C6.u,g6,by rw[l5,Ay];exact hC.len,am6,by lia,by lia,λr H7 s7 hB=>?_⟩;have gs7:=(s6.trans s7) _ _ Fd;rfl';refine sC (j:=h) gs7 (by rw[bO];exact aOY (by lia)) ?_;obtain⟨H8,i8,k8,g8⟩:=wr H7 ls _;rw[i8];have ec:(nr ++ [r])[h]?=some r:=by rw[<-ln,ug (eR _),yr];rfl
     rfl';refine⟨nr ++ [r],_,rfl,λb o e=>k8 _ _ ((s6.trans s7) _ _ (s5 _ _ e)) (bE WQ e),k8 _ _ ((s6.trans s7) _ _ OW) og,?_,by rw[jE,ln];rfl,λm r' e=>?_⟩
     ·rw[g8,<-List.map_set,<-HE (r:=r) (FW ln.symm),Z9 ec hh]
     ·rcases Nat.lt_or_ge m nr.length with z|z
      ·rw[rq z] at e;rw[HE (by lia)];exact hb m r' e
      ·have:m=h:=by
        have:=(mT.mp e).1;rw[jE] at this;simp at this;lia
       subst this;rw[ec] at e;cases e;rw[HE (by lia)];exact hB
    ·obtain⟨nr,z9,e,s5,OW,Fd,ln,hb⟩:=Jg;subst e;have es:rT rs nr rs.length=nr:=by
      unfold rT;rw[HU,ub,A0 (by lia)]
     rw[es] at Fd;rfl';refine QZ (bP.of Fd) (bP.of OW) ?_;rfl';exact⟨nr,decide (nr=rs),_,_,_,rfl,s5,Fd,rs,false,pw,.inr ⟨rfl,⟨ln,hb⟩,rfl⟩⟩
  ·obtain⟨rs,st,z7,z8,z9,e,s3,gr,pw⟩:=Ji;subst e;exact hN _ _ ⟨rs,st,_,_,_,rfl,s3,gr,pw⟩
 rintro U' H3 ⟨rs,st,z7,z8,z9,rfl,s3,gr,pw⟩;obtain⟨Ay,AB⟩:=Cl.good hC.am pw;have C3:=hC.tr s3.tr;rfl';refine⟨w,W,ap,P,u,ws,ls,rs,rfl,hw.tr s3.tr,hg,C3.p,C3.b,C3.u,gr,by rw[Ay];exact hC.len,λn hn=>⟨(AB n hn).1,tw (AB n hn).2 hg.bj.2⟩,by lia,hT.b.same s3,λH4 s4=>?_⟩;rfl';intro T nT;obtain⟨H5,i5,s5,g5⟩:=nw _ nT;rw[i5];exact k T H5 (s3.trans (s4.trans s5)) ⟨ls,rs,st,g5,(s4.trans s5) _ _ gr,pw⟩
inductive zR  (K:W.Frag) (CW CM CS CL t t1 t2 t3 t4:Addr) (vs:List V) (H:Hp) (Q:VK) (E:XK):Prop
 |mk:∀(w c s ap u q d:Addr) (W:WS) (P:Ps) (ws qs:ae) (n:Nat),(vs=[.ref w,.ref c,.ref u,.ref d])->F4 H t t1 t2 t3 t4->gO CW CM CS H w W->(H c=some (.tup [.ref ap,.ref q,.int (n:Int)]))->Br H s ap u q W P ws qs->G9 H W P ws qs n d->(∀H',aO H H'->Q (.bl true) H')->zR K CW CM CS CL t t1 t2 t3 t4 vs H Q E
theorem aFs(tx:Txt K mg a):bT P w K mg base fS 17 a.aA9 a.aBa afa (zR K a.eC a.aY a.cJ a.cZ a.cQ a.cI a.dR a.cH a.dI):=by
 have wY:=aBj (P:=P) (w:=w) (base:=base) tx 3;have Rt:=aEP (P:=P) (w:=w) (base:=base) tx;refine tx.dt.F.ok iA (by walk_at "l") λbo A outer s H vs Q E hr h=>?_;obtain⟨w,c,s,ap,u,q,d,W,P,ws,qs,n,rfl ,hT,hw,gc,hC,hD,k⟩:=h;have hu:=gZ hr;refine aZ (aE (lG (aB 1) (bS (Y:=K) (n:=3) rfl (aR (aK (i:=4) iA.nd) (aR (aK (i:=5) iA.nd) (aR (aK (i:=6) iA.nd) bR)))))
  (aE (aI (i:=7) iA.nd (nR (bV (rc:=jA K) eW (by rfl) tx.gA fB (aA (aB 2) aC)) (bV (rc:=jA K) eW (by rfl) tx.gA fB (aA (aB 5) aC))))
  (aE (aI (i:=8) iA.nd (bg Rt hr tx.mj (aA (aB 0) (aA (aB 4) (aA (aH (Y:=K) (aB 7) aD) (aA (aH (Y:=K) (aB 7) aD) (aA (aB 6) aC)))))))
  (aE (bB (eJ (jH (eF (cN (aN (rc:=pO K) dA (by rfl) tx.bL bK (aA (aH (Y:=K) (aB 8) aD) (aA (cM (v:=.ty "bool") (by rfl) tx.wO xK rfl) aC))))) (jH (eF (cN (bg wY hr tx.df (aA (aB 8) (aA (aB 3) aC))))) (jY (aW (r:=Bn K) (FL hu) (aB 7) (nR (aB 2) (aB 5)) (bD _)))))) (aG (aM fM)) bA)
  (aE (eZ (gI (Y:=K) (aH (Y:=K) (aB 8) aD) (aA aD aC)))
  (aG (aM (dB (r:=iH K) (dJ hu) (aH (Y:=K) (aB 7) aD) (aB 5) (bD _))))))))) ?_
 have yH:=hC.yH;obtain⟨l0,rs,st,gd,gl0,pw⟩:=hD;refine aU (U:=[A' w,A' c,A' u,A' d,none,none,none,none,none]) rfl ?_;rfl';refine dH (iF.of gc) rfl ?_;rfl';refine iI (bP.of hC.u) ?_;intro l1 NI;obtain⟨H1,i1,s1,g1⟩:=nw _ NI;rw[i1];rfl';refine iI (bP.of (s1 _ _ hC.q)) ?_;intro l2 yh;obtain⟨H2,i2,s2,g2⟩:=nw _ yh;rw[i2];rfl';intro l3 Gx;obtain⟨H3,i3,s3,g3⟩:=nw _ Gx;rw[i3];have ib:=s1.trans (s2.trans s3);have XZ:=(s2.trans s3) _ _ g1;have Cf:=s3 _ _ g2;have C3:=hC.tr ib.tr;rfl';refine⟨w,ap,l1,l2,W,P,ws,qs,n,rfl,ib _ _ hT.t,hT.b.same ib,hw.tr ib.tr,C3.g,C3.p,C3.b,XZ,Cf,C3.len,C3.am,yH,λT l4 Nt st4 H4 s4 NH gT AI VE=>?_⟩;obtain⟨rfl,rfl⟩:=pw.uniq VE;have Ay:=(Cl.good hC.am pw).1;have A7:=ib.trans s4;have zi:=A7 _ _ gd;rfl';refine dG (iW (.bl _)) ?_;repeat walk_at "gs"
 refine⟨_,_,rfl,sk.told gT zi AI (A7 _ _ gl0) (by lia),λH5 s5=>?_⟩;have Dg:=s4.trans s5;have WC:=ib.trans Dg;have gu5:=WC _ _ hC.u;have gq5:=WC _ _ hC.q;have g35:=Dg _ _ g3;repeat walk_at "gs"
 intro l6 NG;obtain⟨H6,i6,s6,g6⟩:=nw _ NG;rw[i6];have ye:=Dg.trans s6;have WB:=ib.trans ye;rfl';refine⟨true,aJM (ye _ _ g3) g6 (ye _ _ XZ) (WB _ _ hC.u) (ye _ _ Cf) (WB _ _ hC.q),?_⟩;have gT6:=(s5.trans s6) _ _ gT;have AH:=(s5.trans s6) _ _ AI;repeat walk_at "gs"
 refine mW (bP.of AH) ?_;repeat walk_at "gs"
 refine sE (xs:=rs.map V.int) AH (uJ (by rw[bO];lia:_ < 1000) (cA (by decide))) ?_;obtain⟨H7,i7,k7,g7⟩:=wr H6 l4 _;rw[i7];have n3:∀{b:Addr} {o:HO},H3 b=some o->H7 b=some o:=λ{b o} e=>k7 _ _ (ye _ _ e) (bE NH e)
 have g37:=n3 g3;repeat walk_at "gs"
 refine QZ (bP.of (n3 Cf)) (bP.of (n3 (ib _ _ hC.q))) ?_;rw[mv rfl];exact k H7 λb o e=>n3 (ib _ _ e)
theorem Ra{H:Hp}{s l ls b:Addr}{st:V}{k wd:Int}{qs:ao}(g:H s=some (.lst [.ref ls,st,.int k,.ref b,.int wd]))(f:H l=some (.lst (qs.map V.ref))):l≠s:=λz=>by
 rw[z,g] at f;have e:=HO.lst.inj (Option.some.inj f);have e2:some (V.int k)=(qs.map V.ref)[2]?:=by rw[<-e];rfl
 rw[lB] at e2;cases h:qs[2]? with
 |none=>rw[h] at e2;cases e2
 |some x=>rw[h] at e2;cases e2
theorem dS.aSu{H H':Hp}{x s ls b:Addr}{st:V}{k wd:Int}{m:MS}(h:dS H x m)(g:H s=some (.lst [.ref ls,st,.int k,.ref b,.int wd]))(kk:bX s H H'):dS H' x m:=by
 obtain⟨pl,e1,e2⟩:=h.ex;obtain⟨qs,f1,f2⟩:=e2.ex;exact⟨pl,kk _ _ e1 (λz=>by rw[z,g] at e1;cases e1),qs,kk _ _ f1 (Ra g f1),f2.len,λj q t h1 h2=>kk _ _ (f2.at_ j q t h1 h2) (λz=>by have y:=f2.at_ j q t h1 h2;rw[z,g] at y;cases y)⟩
def WS.cut(W:WS)(m:Nat):WS:={ W with specs:=W.specs.take m }
theorem WS.aNw{W:WS}(h:W.Good)(m:Nat):(W.cut m).Good:=
 ⟨λx hx=>h.specs x (List.mem_of_mem_take hx),by show(W.specs.take m).length<=6;rw[yF];have:=h.len;lia,h.store,h.bj,h.x,h.y,h.wide⟩
theorem jP.cut{H H':Hp}{s ls l' b:Addr}{st:V}{W:WS}{qs:ao}{m:Nat}(es:H s=some (.lst [.ref ls,st,.int W.bj,.ref b,.int W.wide]))(r:RL (dS H) qs W.specs)(di:Bq H st W.store)(hb:H b=some (.lst [.int W.x,.int W.y]))(gl:H l'=some (.lst ((qs.take m).map V.ref)))(kk:bX s H H')(g':H' s=some (.lst [.ref l',st,.int W.bj,.ref b,.int W.wide])):jP H' s (W.cut m):=by
 refine⟨l',st,b,g',⟨qs.take m,kk _ _ gl (Ra es gl),(r.take m).imp λ_ _ z=>z.aSu es kk⟩,?_,kk _ _ hb λz=>by rw[z,es] at hb;cases hb⟩;show Bq H' st W.store;cases e:W.store with
 |none=>rw[e] at di;exact di
 |some sv=>
  rw[e] at di;obtain⟨a,ea,ha⟩:=di;exact⟨a,ea,⟨kk _ _ ha.at_ λz=>by have y:=ha.at_;rw[z,es] at y;cases y⟩⟩
inductive Hs  (K:W.Frag) (t t1 t2 t3 t4:Addr) (vs:List V) (H:Hp) (Q:VK) (E:XK):Prop
 |mk:∀(a:Addr) (ns:ae),(vs=[.ref a])->(bP K H a (ns.map V.int))->(ns.length<=63)->(H t3=some (.ig dU dW))->(H t4=some (.ig gB gC))->(H t1=some (.ig dX dY))->(H t2=some (.ig gX gY))->(H t=some (.ig cK cL))->(∀H',aO H H'->Q (.bl true) H')->Hs K t t1 t2 t3 t4 vs H Q E
theorem aRz(tx:Txt K mg a):bT P w K mg base fS 18 a.Zo a.Zn bia (Hs K a.cQ a.cI a.dR a.cH a.dI):=by
 have aS:=eI (P:=P) (w:=w) (base:=base) tx;have aES:=aIt (P:=P) (w:=w) (base:=base) tx;have aIu:=aGJ (P:=P) (w:=w) (base:=base) tx;have uH:=aB2 (P:=P) (w:=w) (base:=base) tx;have aFt:=aEG (P:=P) (w:=w) (base:=base) tx;have tK:=aFs (P:=P) (w:=w) (base:=base) tx;have aIv:=aG1 (P:=P) (w:=w) (base:=base) tx;have aHa:=aFi (P:=P) (w:=w) (base:=base) tx;have aBD:=aAh (P:=P) (w:=w) (base:=base) tx;have Rt:=aEP (P:=P) (w:=w) (base:=base) tx;have jK:=pH (P:=P) (w:=w) (base:=base) tx;refine tx.JA.F.ok iR (by walk_at "l") λbo A outer s H vs Q E hr h=>?_;obtain⟨ad,ns,rfl ,hS,hl,gt3,gt4,G1,G0,gt,k⟩:=h;have hu:=gZ hr;refine aZ (aE (bN PassesOwn.never rfl (cO (by rfl) tx.eU (aA (aN (oE rfl) (by rfl) tx.CC FN (aA aD (aA (aN (lC rfl) (by rfl) tx.wQ sA (aA (aN (rc:=nQ K) cV (by rfl) tx.iV fT (aA (aB 0) aC)) (aA aD aC))) aC))) aC)) (aK (i:=1) iR.nd) (aE (oG (i:=2) iR.nd rfl (Or.inr rfl) (bg aIu hr tx.ng (aA (aB 0) (aA (aB 1) aC))))
  (aE (oG (i:=3) iR.nd rfl (Or.inr rfl) (bg aBD hr tx.fg (aA (aB 2) (aA aD aC))))
  (aE (aI (i:=4) iR.nd (bg aS hr tx.af (aA (aB 2) (aA (aH (Y:=K) (nR aD aD) (bV Ry (by rfl) tx.CD FO (aA (dB rB (aH (Y:=K) (aB 3) aD) aD (bD _)) aC))) aC))))
  (aE (aI (i:=5) iR.nd (bV Ry (by rfl) tx.CD FO (aA (dB (r:=iH K) (dJ hu) (bg aS hr tx.af (aA (aB 2) (aA aD aC))) aD (bD _)) aC)))
  (aE (bB (eJ (hJ (aW (r:=iH K) (dJ hu) (aB 5) aD (bD _)) (hJ (aW Cz (aH (Y:=K) (aB 3) aD) aD (bD _)) (gH (aW (r:=iH K) (dJ hu) (aH (Y:=K) (aB 3) aD) aD (bD _)))))) (aE (lG (jZ (rs:=Cr K) Fq (aH (Y:=K) (aB 3) aD) lE (lF (bg aS hr tx.af (aA (aB 2) (aA aD aC))))) (oF (aB 3) aD set_list))
  (aG (aI (i:=4) iR.nd (aL jR aD (aL cC aD (aN (rc:=nQ K) cV (by rfl) tx.iV fT (aA (aH (Y:=K) (aB 3) aD) aC))))))) bA)
  (aE (eO (k:=1) (idx:=[2,3]) (N:=bEa) (i:=6) iR.nd rfl (Or.inl rfl) (cF (sc:=aJ Hn) (NX:=aa) rfl rfl rfl (by decide +kernel)) rfl (cO (by rfl) tx.eU (aA (aB 4) aC)) (λ_ _ _ _=>(aK (i:=0) (show(bEa:aj).Nodup by decide +kernel))) (cX (by decide)) (λ_ _ _ _=>bH) (λ_ _ _ _=>(bg aIv hr tx.my (aA (aB 1) (aA (aH (Y:=K) (aB 2) aD) aC)))))
  (aE (aI (i:=7) iR.nd (bg uH hr tx.dk (aA (aB 2) (aA (aB 3) aC))))
  (aE (aI (i:=8) iR.nd (bg aFt hr tx.jo (aA (aB 2) (aA (aH (Y:=K) (aB 3) aD) (aA (aH (Y:=K) (aB 3) aD) (aA (aB 4) aC))))))
  (aE (aI (i:=9) iR.nd (bg aHa hr tx.kn (aA (aB 3) aC)))
  (aE (aI (i:=10) iR.nd (aH (Y:=K) (nR (aL bJ aD (bg aS hr tx.af (aA (aB 2) (aA aD aC)))) aD) (aL HH (bg aS hr tx.af (aA (aB 2) (aA aD aC))) aD)))
  (aE (bB (eJ (jH (aW rB (aH (Y:=K) (aB 3) aD) aD (bD _)) (jH (aW (r:=iH K) (dJ hu) (aH (Y:=K) (aB 3) aD) aD (bD _)) (jY (aW rB (aB 4) aD (bD _)))))) (aG (aI (i:=10) iR.nd (aN (lC rfl) (by rfl) tx.wQ sA (aA (aB 10) (aA (aL jR aD (aN (oE rfl) (by rfl) tx.CC FN (aA (aH (Y:=K) (aB 3) aD) (aA (aL HH (aB 4) aD) aC)))) aC))))) bA)
  (aE (aI (i:=11) iR.nd (bg aES hr tx.jv (aA (aB 9) (aA (aB 7) (aA (aB 6) (aA (aB 8) (aA (aB 10) aC)))))))
  (aE (eO (k:=1) (idx:=[3]) (N:=bHa) (i:=12) iR.nd rfl (Or.inl rfl) (cF (sc:=aJ Hn) (NX:=aa) rfl rfl rfl (by decide +kernel)) rfl (bC (Y:=K) (aB 8)) (λ_ _ _ _=>(aK (i:=0) (show(bHa:aj).Nodup by decide +kernel))) (cX (by decide)) (λ_ _ _ _=>bH) (λ_ _ _ _=>(aL jR (aH (Y:=K) (aB 1) aD) (aB 0))))
  (aE (aI (i:=13) iR.nd (aH (Y:=K) (xR (fN (aB 7) (aB 12)) (fN (bg uH hr tx.dk (aA (aB 2) (aA (aB 3) aC))) (aB 8)) (fN (aB 7) (aB 8))) (bg aS hr tx.af (aA (aB 2) (aA aD aC)))))
  (aE (bB (eF (cN (bg tK hr tx.dt (aA (aB 9) (aA (kH (aB 7) (aB 8) (aB 10)) (aA (aB 6) (aA (aB 11) aC))))))) (aG (aM fM)) bA)
  (aE (bB (aW Hl (aB 4) aD (bD _)) (aE (aI (i:=14) iR.nd (bg aES hr tx.jv (aA (aB 9) (aA (aH (Y:=K) (aB 13) aD) (aA (aB 6) (aA (aH (Y:=K) (aB 13) aD) (aA aD aC)))))))
  (aG (bB (eF (cN (bg tK hr tx.dt (aA (aB 9) (aA (aL (r:=Qi K) aNX (aB 13) (aOC aD)) (aA (aB 6) (aA (aB 14) aC))))))) (aG (aM fM)) bA))) bA)
  (aE (bB (eF (cN (bg tK hr tx.dt (aA (aB 9) (aA (kH (aB 7) (aB 8) (aB 10)) (aA (aB 6) (aA (aB 11) aC))))))) (aG (aM fM)) bA)
  (aE (bB (aW Hl (aH (Y:=K) (aB 11) aD) (bg jK hr tx.de (aA (aB 9) (aA (aB 7) (aA (aB 6) (aA (aB 8) aC))))) (bD _)) (aG (aM fM)) bA)
  (aG (bB (aW rB (aH (Y:=K) (bg Rt hr tx.mj (aA (aB 9) (aA (aB 7) (aA (bV (rc:=jA K) eW (by rfl) tx.gA fB (aA (aB 6) aC)) (aA (bV (rc:=jA K) eW (by rfl) tx.gA fB (aA (aB 8) aC)) (aA aD aC)))))) aD) (aH (Y:=K) (aB 11) aD) (bD _)) (aG (aM fM)) bA)))))))))))))))))))))
  (aG (aM fM))) ?_
 have DD:F4 H _ _ _ _ _:=⟨gt,G1,G0,gt3,gt4⟩
 refine aU (U:=[A' ad,none,none,none,none,none,none,none,none,none,none,none,none,none,none]) rfl ?_;rfl';refine⟨by lia,by lia,?_⟩;refine mF (λi U' H'=>aO H H'/\∃(z1 z2 z3 z4 z5 z6 z7 z8 z9 Gg C9 C8 C7 A1:Option V),U'=[A' ad,z1,z2,z3,z4,z5,z6,z7,z8,z9,Gg,C9,C8,C7,A1]) ⟨aO.refl _,_,_,_,_,_,_,_,_,_,_,_,_,_,_,rfl⟩ (λi U' H' hi Jf=>?_) (λU' H' Je=>?_)
 ·obtain⟨s0,z1,z2,z3,z4,z5,z6,z7,z8,z9,Gg,C9,C8,C7,A1,e⟩:=Jf;subst e;rfl';refine⟨ad,ns,_,rfl,aO.seq s0 hS,hl,by lia,λp H1 s1 np hh=>?_⟩;have WO:H p=none:=s0.free np;have S1:=s0.trans s1;rfl';refine⟨p,2,rfl,hh,by decide,by decide,λs W H2 hW hg h2 k2 ns1=>?_⟩;obtain⟨ls,st,bb,es,ic,di,yj⟩:=hW.ex;have CZ:=hg.bj;have wide:=hg.wide;rfl';intro l3 Gx;obtain⟨H3,i3,s3,g3⟩:=nw _ Gx;rw[i3];have es3:=s3 _ _ es;have h3:=h2.same s3;obtain⟨v,hv,v0,v1⟩ : ∃v:Int,pP [V.int 4,.int 3] (if decide (W.bj > 1000)=true then 1 else 0)=some (.int v)/\1<=v/\v<=4:=by
   by_cases c:decide (W.bj > 1000)=true
   ·rw[dO c];exact⟨3,rfl,by decide,by decide⟩
   ·rw[cU c];exact⟨4,rfl,by decide,by decide⟩
  rfl';refine⟨p,_,rfl,h3,by lia,by lia,λr4 H4 a4 b4 h4 k4 _=>?_⟩;obtain⟨nh,rfl⟩:=Ib a4;rfl';refine⟨p,_,rfl,h4,by decide,by decide,λr5 H5 a5 b5 h5 k5 _=>?_⟩;have T5:Tr H2 H5:=s3.tr.trans ((h3.tr k4).trans (h4.tr k5));have K5:bX p H1 H5:=k2.trans (s3.keep.trans (k4.trans k5));have Ce:=hW.tr T5;have es5:=T5 _ _ es (pF (by simp));repeat walk_at "st"
  refine fU (λU' H'=>∃(W':WS) (nh:Nat) (z5:Option V),nh<=24/\W'.Good/\jP H' s W'/\bG H' p/\bX p H1 H'/\U'=[A' ad,B' (0+(i:Int)),A' p,A' s,B' (nh:Int),z5,z6,z7,z8,z9,Gg,C9,C8,C7,A1]) (λN hN=>?_) (λU' H6 ⟨W',Dl,y5,a0o,vo,XF,h6,K6,e⟩=>?_)
  ·have oI:∀z5,N [A' ad,B' (0+(i:Int)),A' p,A' s,B' (nh:Int),z5,z6,z7,z8,z9,Gg,C9,C8,C7,A1] H5:=λz5=>hN _ _ ⟨W,nh,z5,by lia,hg,Ce,h5,K5,rfl⟩;rfl';refine cE (λc1=>?_) (λc1=>?_)
   ·rfl';refine cE (λc2=>?_) (λc2=>?_)
    ·rfl';refine cE (λc3=>?_) (λc3=>?_)
     ·rfl';refine⟨p,_,rfl,h5,by decide,by decide,λr6 H6 a6 b6 h6 k6 _=>?_⟩;obtain⟨m,rfl⟩:=Ib a6;have T6:Tr H2 H6:=T5.trans (h5.tr k6);obtain⟨ms,gls,B4⟩:=(ic.tr T6).ex;have EW:=B4.len;have l6:=hg.len;rfl';refine uY (bP.of gls) λl7 nl7=>?_;rw[aIj,<-List.map_take];obtain⟨H7,i7,s7,g7⟩:=nw _ nl7;rw[i7];have T7:=T6.trans s7.tr;have Lz:=T7 _ _ es (pF (by simp));rfl';refine sC (j:=0) Lz rfl ?_;have h7:=h6.same s7;have h8:=(h7.aSQ (o:=.lst [V.ref l7,st,.int W.bj,.ref bb,.int W.wide]) Lz).2;obtain⟨H8,i8,k8,g8⟩:=wr H7 s (.lst [V.ref l7,st,.int W.bj,.ref bb,.int W.wide]);rw[show([V.ref ls,st,.int W.bj,.ref bb,.int W.wide].set 0 (.ref l7))=[V.ref l7,st,.int W.bj,.ref bb,.int W.wide] from rfl,i8];rw[i8] at h8;have hW8:jP H8 s (W.cut m):=jP.cut Lz (B4.imp λ_ _ z=>z.same s7) (di.tr T7) (T7 _ _ yj (pF (by simp))) g7 k8 g8;have gl8:H8 l7=some (.lst ((ms.take m).map V.ref)):=k8 _ _ g7 (Ra Lz g7)
      have K8:bX p H1 H8:=λb o e n=>k8 _ _ (s7 _ _ ((K5.trans k6) _ _ e n)) (bE ns1 e);rfl';refine hN _ _ ⟨W.cut m,(24 - 12*((ms.take m).length:Int)).toNat,B' (if decide (r5=7)=true then 1 else 0),by lia,WS.aNw hg m,hW8,h8,K8,?_⟩;have:(ms.take m).length<=1:=by rw[yF];lia
      rw[Int.toNat_of_nonneg (by lia),bO]
     ·rfl';exact oI _
    ·rfl';exact oI _
   ·rfl';exact oI _
  subst e;clear Ce es5 T5 ic di yj es es3 hW hg CZ wide;obtain⟨ls,st,bb,es,ic,di,yj⟩:=XF.ex;have CZ:=vo.bj;have wide:=vo.wide;have sp:s≠p:=h6.Cw es (by simp);have bbp:bb≠p:=h6.Cw yj (by simp);rfl';refine⟨by lia,by lia,?_⟩;rw[zr];refine iG (λi us H'=>bG H' p/\bX p H6 H'/\∃ws:ae,us=ws.map V.int/\ws.length=i) ⟨h6,λ_ _ e _=>e,[],rfl,rfl⟩ (cA (by lia)) (λi us H' hi ⟨_,_,ps,e1,e2⟩=>by rw[e1,bO];lia) (λi us H' hi Jd=>?_) (λus H8 Jc=>?_)
  ·obtain⟨h8,k8,ws,e1,e2⟩:=Jd;have es8:=k8 _ _ es sp;rfl';refine⟨p,bb,W'.x,W'.y,rfl,h8,k8 _ _ yj bbp,vo.x.1,λw H9 _ h9 k9 _=>?_⟩;exact⟨h9,k8.trans k9,ws ++ [w],by rw[e1,jF];rfl,by rw[jE,e2];rfl⟩
  obtain⟨h8,k8,ws,e1,e2⟩:=Jc;subst e1;intro u nu;obtain⟨H9,i9,s9,g9⟩:=nw _ nu;rw[i9];have h9:=h8.same s9;have T9:Tr H6 H9:=(h6.tr k8).trans s9.tr;have K9:bX p H1 H9:=K6.trans (k8.trans s9.keep);have XE:=XF.tr T9;rfl';refine⟨p,s,W',rfl,h9,XE,vo,λa1 P yx hP hPo hPs ym uk=>?_⟩;have Ia:Tr H9 yx:=h9.tr uk;have a0B:=(T9.trans Ia) _ _ es (pF (by simp));have JT:=(T9.trans Ia) _ _ yj (pF (by simp));rfl';refine⟨p,bb,W'.x,W'.y,W'.bj,Dl,rfl,ym,JT,vo.y.1,vo.y.2,vo.bj,by lia,λq qs Il gq lq A9 Fc pj=>?_⟩;have F6:Tr H9 Il:=Ia.trans (ym.tr pj);have Ik:bX p H1 Il:=K9.trans (uk.trans pj);have C11:Br Il s a1 u q W' P ws qs:=⟨XE.tr F6,vo,hP.tk (ym.tr pj).tk,⟨hPo,hPs⟩,F6 _ _ g9 HC,gq,by lia,A9,by lia⟩
  rfl';refine⟨s,W',rfl,C11.w,vo,λw R7 hw Kd a0m=>?_⟩;have Bh:=Fc.same Kd;have C12:=C11.tr Kd.tr;have Ij:=Ik.trans Kd.keep;rfl';refine⟨p,_,rfl,Bh,by decide,by decide,λr13 R6 MD YV zh za _=>?_⟩;rfl';intro NV IE;obtain⟨H14,i14,EK,g14⟩:=nw _ IE;rw[i14];have Fb:=zh.same EK;have U5:NV≠p:=zh.Pe IE;rfl';refine⟨p,_,rfl,Fb,by decide,by decide,λNu M8 a15 b15 h15 NW _=>?_⟩;have g15:=NW _ _ g14 U5;have RZ:Tr R7 M8:=(Bh.tr za).trans (EK.tr.trans (Fb.tr NW));have K15:bX p H1 M8:=Ij.trans (za.trans (EK.keep.trans NW));have C15:=C12.tr RZ;have IL:=hw.tr RZ;obtain⟨nr,hnr,NA,WN⟩ : ∃m:Nat,pP [V.int (1+r13),.int 8] (Nu / 7)=some (.int (m:Int))/\1<=m/\m<=8:=by
   obtain⟨m,rfl⟩:=Ib MD;have:Nu / 7=0\/Nu / 7=1:=by lia
   rcases this with e|e <;> rw[e]
   ·exact⟨1+m,by show some (V.int (1+(m:Int)))=_;push_cast;rfl,by lia,by lia⟩
   ·exact⟨8,rfl,by lia,by lia⟩
  have VO:=(T9.trans (F6.trans (Kd.tr.trans RZ))) _ _ es (pF (by simp));repeat walk_at "st"
  refine fU (λU' H'=>H'=M8/\∃(nr:Nat),1<=nr/\nr<=8/\U'=[A' ad,B' (0+(i:Int)),A' p,A' s,B' (Dl:Int),y5,A' u,A' a1,A' q,A' w,B' (nr:Int),C9,C8,C7,A1]) (λN hN=>?_) (λU' H16 ⟨e0,nr,NA,WN,e⟩=>?_)
  ·have m0:∃m:Nat,min (nr:Int) (2 - max W'.wide ((Dl:Int) / 24))=(m:Int)/\1<=m/\m<=8:=⟨(min (nr:Int) (2 - max W'.wide ((Dl:Int) / 24))).toNat,by lia,by lia,by lia⟩
   obtain⟨m,em,m1,m8⟩:=m0;have less:N [A' ad,B' (0+(i:Int)),A' p,A' s,B' (Dl:Int),y5,A' u,A' a1,A' q,A' w,B' (min (nr:Int) (2 - max W'.wide ((Dl:Int) / 24))),C9,C8,C7,A1] M8:=hN _ _ ⟨rfl,m,m1,m8,by rw[em]⟩;rfl';refine cE (λc1=>?_) (λc1=>?_)
   ·rfl';exact less
   ·rfl';refine cE (λc2=>?_) (λc2=>?_)
    ·rfl';exact less
    ·rfl';refine cE (λc3=>?_) (λc3=>?_)
     ·rfl';exact less
     ·rfl';exact hN _ _ ⟨rfl,nr,NA,WN,rfl⟩
  subst e0 e;have S16:aO H H16:=aEw WO S1 K15;rfl';refine⟨w,s,a1,u,q,W',P,ws,qs,nr,rfl,DD.same S16,IL,C15,by lia,λD H17 Gm hD=>?_⟩;have a0A:=Gm _ _ VO;have R9:=C15.tr Gm.tr;have IX:=R9.q;rfl';refine eY (bP.of IX) ?_;refine dP (xs:=qs.map V.int) (λj us H'=>H'=H17/\us=((qs.take j).map λn=>W'.bj - n).map V.int) ⟨rfl,rfl⟩ (cA (by rw[bO];lia))
   (λj us H' hj ⟨e0,e1⟩=>⟨by rw[e0];exact bP.of IX,by rw[e1,bO,bO,yF];lia⟩) (λj v us H' hv Jb=>?_) (λus H' Ja=>?_)
  ·obtain⟨e0,e1⟩:=Jb;subst e0;obtain⟨n,en,rfl⟩:=kU hv;rfl';refine⟨rfl,?_⟩;rw[e1,cY en,jF,jF];rfl
  obtain⟨e0,e1⟩:=Ja;subst e0 e1;rw[bO,rA];intro q2 NB;obtain⟨H18,N3,Kc,g18⟩:=nw _ NB;rw[N3];have C18:=R9.tr Kc.tr;have h18:=(h15.same Gm).same Kc;rfl';intro T1 nT1;obtain⟨H19,i19,Kb,g19⟩:=nw _ nT1;rw[i19];have C19:=C18.tr Kb.tr;have XN:=h18.same Kb;rfl';refine⟨p,s,W',rfl,XN,C19.w,vo,λa2 P2 H20 hP2 VD VC h20 W7=>?_⟩;have T20:=XN.tr W7;rfl';intro T2 Kr;obtain⟨H21,i21,s21,g21⟩:=nw _ Kr;rw[i21];rfl';intro T3 nT3;obtain⟨H22,i22,Wz,g22⟩:=nw _ nT3;rw[i22];rfl';intro NU U3;obtain⟨H23,i23,yf,Cf⟩:=nw _ U3;rw[i23];have Ej:=s21.trans (Wz.trans yf);have XM:=h20.same Ej;rfl';refine⟨p,_,rfl,XM,by decide,by decide,λKi BA a24 b24 h24 W6 _=>?_⟩;have MV:Tr H23 BA:=XM.tr W6;have Lb:BA NU=some (.lst [.ref T1,.ref T2,.ref T3]):=MV _ _ Cf (by
   have:=xU (qs:=[T1,T2,T3]);exact this)
  have T04:Tr H20 BA:=Ej.tr.trans MV;have T94:Tr H19 BA:=T20.trans T04;have T84:Tr H18 BA:=Kb.tr.trans T94;have RY:=Kc.tr.trans T84;have sy:=R9.tr RY;have xv:=(IL.tr Gm.tr).tr RY;have Ex:=hD.tr RY;have K24:bX p H1 BA:=K15.trans (Gm.keep.trans (Kc.keep.trans (Kb.keep.trans (W7.trans (Ej.keep.trans W6)))));have Ea:aO H BA:=aEw WO S1 K24;have GV:∀n∈qs.map λn=>W'.bj - n,0<=n/\n<=W'.bj:=λn hn=>by
   obtain⟨n',E3,rfl⟩:=jQ.mp hn;have:=A9 n' E3;lia
  obtain⟨Tb,ax,qx,Px,xs,KO,gb,Cx⟩ : ∃(Tb ax qx:Addr) (Px:Ps) (xs:ae),pP [V.ref T1,.ref T2,.ref T3] Ki=some (.ref Tb)/\BA Tb=some (.tup [.ref ax,.ref qx])/\Br BA s ax u qx W' Px ws xs:=by
   have:Ki=0\/Ki=1\/Ki=2:=by lia
   rcases this with e|e|e <;> rw[e]
   ·exact⟨T1,a1,q2,P,_,rfl,T94 _ _ g19 Hq,sy.w,vo,sy.p,sy.b,sy.u,T84 _ _ g18 HC,by rw[bO];exact sy.len,GV,by rw[bO];exact sy.yH⟩
   ·exact⟨T2,a2,q,P2,qs,rfl,(((Wz.trans yf).tr).trans MV) _ _ g21 Hq,sy.w,vo,hP2.tk T04.tk,⟨VD,VC⟩,sy.u,sy.q,sy.len,sy.am,sy.yH⟩
   ·exact⟨T3,a1,q,P,qs,rfl,(yf.tr.trans MV) _ _ g22 Hq,sy⟩
  rfl';intro T5 nT5;obtain⟨H25,i25,sf,g25⟩:=nw _ nT5;rw[i25];rfl';refine⟨w,T5,s,a1,u,q,D,W',P,ws,qs,nr,rfl,DD.same (Ea.trans sf),xv.tr sf.tr,g25,sy.tr sf.tr,Ex.tr sf.tr,λH26 s26=>?_⟩;have EJ:=sf.trans s26;repeat walk_at "st"
  refine fU (λU' H'=>aO H26 H'/\∃(A1:Option V),U'=[A' ad,B' (0+(i:Int)),A' p,A' s,B' (Dl:Int),y5,A' u,A' a1,A' q,A' w,B' (nr:Int),A' D,A' q2,A' Tb,A1]) (λN hN=>?_) (λU' H27 ⟨B1,a0b,e⟩=>?_)
  ·rfl';refine cE (λc1=>?_) (λc1=>?_)
   ·have VM:=EJ _ _ gb;rfl';refine⟨w,s,ax,u,qx,W',Px,ws,xs,1,rfl,DD.same (Ea.trans EJ),xv.tr EJ.tr,Cx.tr EJ.tr,by lia,λD2 H27 B1 hD2=>?_⟩;have VL:=B1 _ _ VM;rfl';intro T6 nT6;obtain⟨H28,N2,Ka,OX⟩:=nw _ nT6;rw[N2];have VJ:=Ka _ _ VL;refine aOB (iF.of VJ) (iF.of OX) (by simp) (by simp) (cA (by simp)) ?_;intro T8 nT8;obtain⟨H29,i29,Nq,g29⟩:=nw _ nT8;rw[i29];have Nl:=Ka.trans Nq;have A6:=EJ.trans (B1.trans Nl);rfl';refine⟨w,T8,s,ax,u,qx,D2,W',Px,ws,xs,1,rfl,DD.same (Ea.trans A6),xv.tr A6.tr,g29,Cx.tr A6.tr,hD2.tr Nl.tr,λH30 J9=>?_⟩;repeat walk_at "gs"
    exact hN _ _ ⟨B1.trans (Nl.trans J9),_,rfl⟩
   ·rfl';exact hN _ _ ⟨aO.refl _,_,rfl⟩
  subst e;have Nm:=EJ.trans B1;rfl';intro T7 nT7;obtain⟨H28,N2,Ka,OX⟩:=nw _ nT7;rw[N2];have Gk:=Nm.trans Ka;rfl';refine⟨w,T7,s,a1,u,q,D,W',P,ws,qs,nr,rfl,DD.same (Ea.trans Gk),xv.tr Gk.tr,OX,sy.tr Gk.tr,Ex.tr Gk.tr,λH29 Nq=>?_⟩;have A6:=Gk.trans Nq;obtain⟨lD,rsD,stD,gD,glD,pw⟩:=Ex.tr A6.tr;have CN:=sy.tr A6.tr;repeat walk_at "gs"
  refine⟨w,W',a1,P,u,ws,q,qs,rfl,xv.tr A6.tr,vo,CN.p,CN.b,CN.u,CN.q,CN.len,CN.am',CN.yH,(DD.same (Ea.trans A6)).b,λH30 J9=>?_⟩;have Iw:=A6.trans J9;have up0:=pw.up CN.am;have VN:=J9 _ _ gD;repeat walk_at "gs"
  refine cE (λz=>absurd z (Int.not_lt.mpr up0)) (λ_=>?_);have C30:=sy.tr Iw.tr;repeat walk_at "gs"
  refine iI (bP.of C30.u) ?_;intro NT U2;obtain⟨H31,i31,Np,g31⟩:=nw _ U2;rw[i31];have VG:=Np _ _ C30.q;repeat walk_at "gs"
  refine iI (bP.of VG) ?_;intro NS U1;obtain⟨H32,i32,Nn,g32⟩:=nw _ U1;rw[i32];have BE:=Iw.trans (Np.trans Nn);have Gf:=sy.tr BE.tr;have IV:=DD.same (Ea.trans BE);repeat walk_at "gs"
  refine⟨w,a1,NT,NS,W',P,ws,qs,1,rfl,IV.t,IV.b,xv.tr BE.tr,vo,Gf.p,Gf.b,Nn _ _ g31,g32,Gf.len,Gf.am,Gf.yH,λTT W2 rs1 st1 H33 Ww a0n gTT a0v VF=>?_⟩;have up1:=Cl.up1 Gf.am VF NA pw;have a0y:=(Np.trans (Nn.trans Ww)) _ _ VN;repeat walk_at "gs"
  refine cE (λz=>absurd z (Int.not_lt.mpr up1)) (λ_=>?_);repeat walk_at "gs"
  exact⟨Ea.trans (BE.trans Ww),_,_,_,_,_,_,_,_,_,_,_,_,_,_,rfl⟩
 ·obtain⟨s0,z1,z2,z3,z4,z5,z6,z7,z8,z9,Gg,C9,C8,C7,A1,e⟩:=Je;subst e;rfl';exact k _ s0
end My
namespace My
open PySem L2 L2.Z
local macro_rules |`(tactic|walk_at "b1")=>`(tactic|(intro _ _ _ _ _ _ us hl; obtain ⟨_, e⟩ := Y0 us hl; subst e; rfl))
local macro_rules |`(tactic|walk_at "b2")=>`(tactic|(intro _ _ _ _ _ _ us hl; obtain ⟨_, _, e⟩ := DM us hl; subst e; rfl))
local macro_rules |`(tactic|walk_at "b3")=>`(tactic|(intro _ _ _ _ _ _ us hl; obtain ⟨_, _, _, e⟩ := YZ us hl; subst e; rfl))
local macro_rules |`(tactic|walk_at "b4")=>`(tactic|(intro _ _ _ _ _ _ us hl; obtain ⟨_, _, _, _, e⟩ := YY us hl; subst e; rfl))
local macro_rules |`(tactic|walk_at "b5")=>`(tactic|(intro _ _ _ _ _ _ us hl; obtain ⟨_, _, _, _, _, e⟩ := YX us hl; subst e; rfl))
local macro_rules |`(tactic|walk_at "b6")=>`(tactic|(intro _ _ _ _ _ _ us hl; obtain ⟨_, _, _, _, _, _, e⟩ := YW us hl; subst e; rfl))
local macro_rules |`(tactic|walk_at "b8")=>`(tactic|(intro _ _ _ _ _ _ us hl; obtain ⟨_, _, _, _, _, _, _, _, e⟩ := ar8 us hl; subst e; rfl))
def Ca(K:W.Frag)(f:Addr)(x q:Str)(st:Stmt)(oc:Value)(od:Option Addr)(kV dc pm:Value)(an:Option Addr)(cd ct:Value)(sl:Array (aw)):Prop:=K.lookup f=some ⟨oc,od,.func (W.fnOf x q (jL st) (iB st) (aJ st) .none kV dc pm an cd ct),sl⟩/\W.codeIn K cd q=true/\W.keepIn K (.ref f)=true
def aQ(K:W.Frag)(x:Str)(f:Addr):Prop:=W.nsIn K mainGlobals x=some (some (.ref f))
def PU{K:W.Frag}{f:Addr}{x q:Str}{st:Stmt}{oc:Value}{od:Option Addr}{kV dc pm:Value}{an:Option Addr}{cd ct:Value}{sl:Array (aw)}(l:Ca K f x q st oc od kV dc pm an cd ct sl):=FP (st:=st) l.1 l.2.1 l.2.2
def gP(K:W.Frag)(f:Addr)(x q:Str)(st:Stmt):Prop:=∃oc od kV dc pm an cd ct sl,Ca K f x q st oc od kV dc pm an cd ct sl
def gG(K:W.Frag)(f:Addr)(x:Str)(st:Stmt):Prop:=aQ K x f/\gP K f x x st
def ZD{K:W.Frag}{f:Addr}{x q:Str}{st:Stmt}{oc:Value}{od:Option Addr}{kV dc pm:Value}{an:Option Addr}{cd ct:Value}{sl:Array (aw)}(l:Ca K f x q st oc od kV dc pm an cd ct sl):gP K f x q st:=⟨_,_,_,_,_,_,_,_,_,l⟩
def aSv{K:W.Frag}{f:Addr}{x:Str}{st:Stmt}{oc:Value}{od:Option Addr}{kV dc pm:Value}{an:Option Addr}{cd ct:Value}{sl:Array (aw)}(a:aQ K x f)(l:Ca K f x x st oc od kV dc pm an cd ct sl):gG K f x st:=⟨a,ZD l⟩
def uI{K:W.Frag}{f:Addr}{x q:Str}{st:Stmt}{ps:aj}(l:gP K f x q st)(h:∀(kV doc pm:Value) (an:Option Addr) (bo ct:Value) (us:ah),us.length=ps.length->bindArgs (W.fnOf x q (jL st) (iB st) (aJ st) .none kV doc pm an bo ct) ⟨us,[]⟩=pure (ps.zip us)):∃d,FB K x q st f d ps:=by
 obtain⟨oc,od,kV,dc,pm,an,cd,ct,sl,l⟩:=l;exact⟨_,PU l,(PU l).binds h⟩
def cD{K:W.Frag}{h:Heap}{mg:Str->aw}{f:Addr}{x:Str}{st:Stmt}{ps:aj}(X:K.In h)(G:h.Ns mainGlobals mg)(l:gG K f x st)(h:∀(kV doc pm:Value) (an:Option Addr) (bo ct:Value) (us:ah),us.length=ps.length->bindArgs (W.fnOf x x (jL st) (iB st) (aJ st) .none kV doc pm an bo ct) ⟨us,[]⟩=pure (ps.zip us)):∃d,FG K mg x st f d ps:=by
 obtain⟨a,l⟩:=l;obtain⟨d,z⟩:=uI l h;exact⟨d,z.F,z.b,W.mg_of X G a⟩
theorem all_mk{l:W.OpenLaw}{w:World}{K:W.Frag}{h:Heap}{mg:Str->aw}{fa:Addr}(X:K.In h)(G:h.Ns mainGlobals mg)(hfa:mg "law" = some (.ref fa))
  {C0 C1 C2 C3 f0 f1 f2 f3 f4 f5 f6 f7 f8 f9 YR YQ Lw YO YN YM YL YK Lu YJ YI YH YG YF YE YD YC YB YA Yz Lr Yy Yx Yw Yv Yu Yt Ys Yr Lp Ln Yq Yp Yo Lm Ll Yn Ym Yl Yk Yj Yi Lk Lj Li Lh G5 Lg Lf Le Yh Yg Yf Ye Yd Yc Yb Ya X9 X8 X7 X6 X5 X4 X3:Addr} {US Wb UR Wa UQ V9 UP V8 UO V7 UN V6:Option Addr} {UC UB UA Uz Uy Ux:Array (aw)} {UT U6 VQ UG V3 VX:Value} {UZ Vb VW UL V2:Value} {Ae wj:Addr} {JK:Option Addr} {CU:Array Value} {JF:Array (aw)} {UY Va VV UK V1:Value} {Ad wg:Addr} {JJ:Option Addr} {CT:Array Value} {JE:Array (aw)} {UX U9 VU UJ V0:Value} {Ac we:Addr} {JI:Option Addr} {CQ:Array Value} {JD:Array (aw)} {UW U8 VT UI VZ:Value} {Ab wc:Addr} {JH:Option Addr} {CP:Array Value} {JC:Array (aw)} {UU U7 VR UH VY:Value} {Aa wb:Addr} {JG:Option Addr} {CO:Array Value} {JB:Array (aw)} {pb:Tok} {mq:Tok} {oz:Tok} {mn:Tok}
  (aC0:W.nsIn K mainGlobals "Lone" = some (some (.ref C0)))
  (aC1:W.nsIn K mainGlobals "Machine" = some (some (.ref C1)))
  (aC2:W.nsIn K mainGlobals "Store" = some (some (.ref C2)))
  (aC3:W.nsIn K mainGlobals "Works" = some (some (.ref C3)))
  (l0:gG K f0 "_law_open" pT)
  (l1:gG K f1 "_law_draw" vG)
  (l2:gG K f2 "_law_far" zW)
  (l3:gG K f3 "_law_factor" qN)
  (l4:gG K f4 "is_whole" zX)
  (l5:gG K f5 "is_amount" vH)
  (l6:gG K f6 "is_span" Ru)
  (l7:gG K f7 "is_piece" zY)
  (l8:gG K f8 "are_pieces" kJ)
  (a9:W.findIn K (.ref C1) "__init__" = some (some (.ref f9)))
  (i9:W.isFn K (.ref f9)=true)
  (l9:gP K f9 "__init__" "Machine.__init__" oP)
  (l10:gG K YR "_law_spec" vI)
  (l11:gG K YQ "_law_machine" oQ)
  (RP:W.findIn K (.ref C1) "gain" = some (some (.ref Lw)))
  (i12:W.isFn K (.ref Lw)=true)
  (l12:gP K Lw "gain" "Machine.gain" oR)
  (l13:gG K YO "may_be" Ri)
  (NV:gG K YN "state_after" qO)
  (l15:gG K YM "_law_state" sI)
  (l16:gG K YL "_law_same" pU)
  (l17:gG K YK "is_depth" zZ)
  (a18:W.findIn K (.ref C2) "__init__" = some (some (.ref Lu)))
  (N3:W.isFn K (.ref Lu)=true)
  (l18:gP K Lu "__init__" "Store.__init__" sJ)
  (l19:gG K YJ "run_fault" vJ)
  (l20:gG K YI "refuse_fault" oS)
  (l21:gG K YH "run_begins" sL)
  (l22:gG K YG "run_cost" z0)
  (NU:gG K YF "least_of" sM)
  (l24:gG K YE "worths_ahead" oU)
  (l25:gG K YD "worths_by_hour" lH)
  (l26:gG K YC "first_best" nS)
  (l27:gG K YB "first_row" vK)
  (l28:gG K YA "ways_one_on" qP)
  (l29:gG K Yz "are_machines" kK)
  (a30:W.findIn K (.ref C3) "__init__" = some (some (.ref Lr)))
  (i30:W.isFn K (.ref Lr)=true)
  (l30:gP K Lr "__init__" "Works.__init__" sN)
  (NT:gG K Yy "_law_store" sO)
  (NS:gG K Yx "_law_works_spec" iC)
  (W2:gG K Yw "_law_works" nU)
  (l34:gG K Yv "_law_position" jN)
  (l35:gG K Yu "levels_after" oV)
  (l36:gG K Yt "levels_from" qQ)
  (l37:gG K Ys "drawn_by" RO)
  (l38:gG K Yr "level_ways" nV)
  (a39:aQ K "worths_of_levels" Lp)
  (l39:K.lookup Lp=some ⟨UZ,US,.func (W.fnOf "worths_of_levels" "worths_of_levels" (jL cS) (iB cS) (aJ cS) .none Vb VW UL Wb (.ref Ae) V2),UC⟩)
  (Pa:W.codeIn K (.ref Ae) "worths_of_levels" = true)
  (a0l:K.lookup Ae=some ⟨.type "code",JK,.fields CU,JF⟩)
  (a0g:(CU[11]? : aw)=some (.ref wj))
  (Ir:W.codeHdIn K Ae wj=true)
  (k39:W.keepIn K (.ref Lp)=true)
  (a40:aQ K "cheapest_path" Ln)
  (l40:K.lookup Ln=some ⟨UY,UR,.func (W.fnOf "cheapest_path" "cheapest_path" (jL dZ) (iB dZ) (aJ dZ) .none Va VV UK Wa (.ref Ad) V1),UB⟩)
  (O9:W.codeIn K (.ref Ad) "cheapest_path" = true)
  (a0k:K.lookup Ad=some ⟨.type "code",JJ,.fields CT,JE⟩)
  (a0f:(CT[11]? : aw)=some (.ref wg))
  (Iq:W.codeHdIn K Ad wg=true)
  (k40:W.keepIn K (.ref Ln)=true)
  (l41:gG K Yq "states_by_hour" lI)
  (l42:gG K Yp "next_hours" nW)
  (l43:gG K Yo "hour_ways" pV)
  (a44:aQ K "worths_of_states" Lm)
  (l44:K.lookup Lm=some ⟨UX,UQ,.func (W.fnOf "worths_of_states" "worths_of_states" (jL dE) (iB dE) (aJ dE) .none U9 VU UJ V9 (.ref Ac) V0),UA⟩)
  (O8:W.codeIn K (.ref Ac) "worths_of_states" = true)
  (a0j:K.lookup Ac=some ⟨.type "code",JI,.fields CQ,JD⟩)
  (a0e:(CQ[11]? : aw)=some (.ref we))
  (Ip:W.codeHdIn K Ac we=true)
  (k44:W.keepIn K (.ref Lm)=true)
  (a45:aQ K "cheapest_run" Ll)
  (l45:K.lookup Ll=some ⟨UW,UP,.func (W.fnOf "cheapest_run" "cheapest_run" (jL eK) (iB eK) (aJ eK) .none U8 VT UI V8 (.ref Ab) VZ),Uz⟩)
  (O7:W.codeIn K (.ref Ab) "cheapest_run" = true)
  (a0i:K.lookup Ab=some ⟨.type "code",JH,.fields CP,JC⟩)
  (a0d:(CP[11]? : aw)=some (.ref wc))
  (Io:W.codeHdIn K Ab wc=true)
  (k45:W.keepIn K (.ref Ll)=true)
  (l46:gG K Yn "_law_price" sP)
  (l47:gG K Ym "least_of_machines" fV)
  (l48:gG K Yl "least_of_store" lJ)
  (l49:gG K Yk "price_bound" lP)
  (l50:gG K Yj "_law_want" vL)
  (l51:gG K Yi "_law_prices" lQ)
  (a52:W.findIn K (.ref C1) "most" = some (some (.ref Lk)))
  (i52:W.isFn K (.ref Lk)=true)
  (l52:gP K Lk "most" "Machine.most" kL)
  (a53:W.findIn K (.ref C1) "cost_at" = some (some (.ref Lj)))
  (i53:W.isFn K (.ref Lj)=true)
  (l53:gP K Lj "cost_at" "Machine.cost_at" kM)
  (a54:W.findIn K (.ref C0) "__init__" = some (some (.ref Li)))
  (i54:W.isFn K (.ref Li)=true)
  (l54:gP K Li "__init__" "Lone.__init__" vM)
  (a55:W.findIn K (.ref C0) "priced_ways" = some (some (.ref Lh)))
  (i55:W.isFn K (.ref Lh)=true)
  (l55:gP K Lh "priced_ways" "Lone.priced_ways" gJ)
  (a56:W.findIn K (.ref C0) "worths_to_end" = some (some (.ref G5)))
  (i56:W.isFn K (.ref G5)=true)
  (l56:K.lookup G5=some ⟨UU,UO,.func (W.fnOf "worths_to_end" "Lone.worths_to_end" (jL cP) (iB cP) (aJ cP) .none U7 VR UH V7 (.ref Aa) VY),Uy⟩)
  (O6:W.codeIn K (.ref Aa) "Lone.worths_to_end" = true)
  (a0h:K.lookup Aa=some ⟨.type "code",JG,.fields CO,JB⟩)
  (a0c:(CO[11]? : aw)=some (.ref wb))
  (Im:W.codeHdIn K Aa wb=true)
  (W5:W.keepIn K (.ref G5)=true)
  (a57:W.findIn K (.ref C0) "worths_at_first" = some (some (.ref Lg)))
  (i57:W.isFn K (.ref Lg)=true)
  (l57:gP K Lg "worths_at_first" "Lone.worths_at_first" gK)
  (a58:W.findIn K (.ref C0) "worths_behind" = some (some (.ref Lf)))
  (i58:W.isFn K (.ref Lf)=true)
  (l58:gP K Lf "worths_behind" "Lone.worths_behind" iN)
  (a59:W.findIn K (.ref C0) "worths_by_drawn" = some (some (.ref Le)))
  (i59:W.isFn K (.ref Le)=true)
  (l59:gP K Le "worths_by_drawn" "Lone.worths_by_drawn" gL)
  (l60:gG K Yh "corners_of" sQ)
  (l61:gG K Yg "ways_of_machine" iD)
  (l62:gG K Yf "lone_machine" oW)
  (l63:gG K Ye "lone_store" kN)
  (l64:gG K Yd "lones_of" sR)
  (l65:gG K Yc "bound_at" sS)
  (l66:gG K Yb "least_best" sU)
  (l67:gG K Ya "heads_behind" kO)
  (l68:gG K X9 "best_price" nX)
  (l69:gG K X8 "raised_price" iO)
  (l70:gG K X7 "raised_once" hV)
  (l71:gG K X6 "climbed" RG)
  (l72:gG K X5 "_law_due" RN)
  (l73:gG K X4 "_law_right" sV)
  (a74:aQ K "law" X3)
  (l74:Ca K X3 "law" "law" Hn UT UN U6 VQ UG V6 V3 VX Ux)
  (pg0:W.plainGet K C0 Str.empty=true)
  (Be:W.hasDictIn K C0=true)
  (po0:W.plainOver K C0=true)
  (sa0:W.findIn K (.ref C0) "__setattr__" = some (some (.builtin "object.__setattr__")))
  (mk0:W.makesIn K C0=true)
  (kc0:W.keepIn K (.ref C0)=true)
  (yc:W.findIn K (.ref C0) "layers" = some none)
  (BS:W.findIn K (.ref C0) "ways" = some none)
  (pg1:W.plainGet K C1 Str.empty=true)
  (DB:W.hasDictIn K C1=true)
  (po1:W.plainOver K C1=true)
  (sa1:W.findIn K (.ref C1) "__setattr__" = some (some (.builtin "object.__setattr__")))
  (mk1:W.makesIn K C1=true)
  (kc1:W.keepIn K (.ref C1)=true)
  (JN:W.findIn K (.ref C1) "up" = some none)
  (BR:W.findIn K (.ref C1) "down" = some none)
  (Ar:W.findIn K (.ref C1) "begin" = some none)
  (ED:W.findIn K (.ref C1) "run" = some none)
  (BQ:W.findIn K (.ref C1) "rest" = some none)
  (Aq:W.findIn K (.ref C1) "least" = some none)
  (yb:W.findIn K (.ref C1) "pieces" = some none)
  (ia1:W.findIn K (.ref C1) "__class__" = some (some (.builtin "object.__class__")))
  (in1:W.specialIn K (.builtin "object.__class__") "__get__" = some (some (.builtin "getset_descriptor.__get__")))
  (it1:W.takesIn K (.builtin "object.__class__")=some true)
  (im1:W.mroIn K C1 (.type "object")=some true)
  (pg2:W.plainGet K C2 Str.empty=true)
  (hd2:W.hasDictIn K C2=true)
  (po2:W.plainOver K C2=true)
  (sa2:W.findIn K (.ref C2) "__setattr__" = some (some (.builtin "object.__setattr__")))
  (mk2:W.makesIn K C2=true)
  (kc2:W.keepIn K (.ref C2)=true)
  (EC:W.findIn K (.ref C2) "cap" = some none)
  (BP:W.findIn K (.ref C2) "into" = some none)
  (EB:W.findIn K (.ref C2) "out" = some none)
  (Ao:W.findIn K (.ref C2) "takes" = some none)
  (Ap:W.findIn K (.ref C2) "gives" = some none)
  (ia2:W.findIn K (.ref C2) "__class__" = some (some (.builtin "object.__class__")))
  (in2:W.specialIn K (.builtin "object.__class__") "__get__" = some (some (.builtin "getset_descriptor.__get__")))
  (NZ:W.takesIn K (.builtin "object.__class__")=some true)
  (im2:W.mroIn K C2 (.type "object")=some true)
  (pg3:W.plainGet K C3 Str.empty=true)
  (hd3:W.hasDictIn K C3=true)
  (po3:W.plainOver K C3=true)
  (sa3:W.findIn K (.ref C3) "__setattr__" = some (some (.builtin "object.__setattr__")))
  (mk3:W.makesIn K C3=true)
  (kc3:W.keepIn K (.ref C3)=true)
  (uj:W.findIn K (.ref C3) "machines" = some none)
  (An:W.findIn K (.ref C3) "store" = some none)
  (BO:W.findIn K (.ref C3) "lack" = some none)
  (ia3:W.findIn K (.ref C3) "__class__" = some (some (.builtin "object.__class__")))
  (in3:W.specialIn K (.builtin "object.__class__") "__get__" = some (some (.builtin "getset_descriptor.__get__")))
  (it3:W.takesIn K (.builtin "object.__class__")=some true)
  (im3:W.mroIn K C3 (.type "object")=some true)
  (P9:W.nsIn K mainGlobals "abs" = some none)
  (Fv:W.nsIn K mainGlobals "all" = some none)
  (wO:W.nsIn K mainGlobals "bool" = some none)
  (gF:W.nsIn K mainGlobals "enumerate" = some none)
  (CD:W.nsIn K mainGlobals "int" = some none)
  (bL:W.nsIn K mainGlobals "isinstance" = some none)
  (iV:W.nsIn K mainGlobals "len" = some none)
  (gA:W.nsIn K mainGlobals "list" = some none)
  (CC:W.nsIn K mainGlobals "max" = some none)
  (wQ:W.nsIn K mainGlobals "min" = some none)
  (eU:W.nsIn K mainGlobals "range" = some none)
  (RM:W.nsIn K mainGlobals "reversed" = some none)
  (Rg:W.nsIn K mainGlobals "sorted" = some none)
  (LU:W.nsIn K mainGlobals "str" = some none)
  (Hm:W.nsIn K mainGlobals "sum" = some none)
  (sY:W.nsIn K mainGlobals "tuple" = some none)
  (DS:W.nsIn K mainGlobals "zip" = some none)
  (qT:W.nsIn K mainGlobals "MOST_LEVELS" = some (some (.int 8 pb)))
  (m5:W.nsIn K mainGlobals "LONGEST_STINT" = some (some (.int 12 mq)))
  (qU:W.nsIn K mainGlobals "MOST_PIECES" = some (some (.int 4 oz)))
  (m6:W.nsIn K mainGlobals "MOST_MACHINES" = some (some (.int 6 mn))) :
  (∃c,W.codeHdIn K c wj=true)/\(∃c,W.codeHdIn K c wg=true)/\(∃c,W.codeHdIn K c we=true)/\(∃c,W.codeHdIn K c wc=true)/\(∃c,W.codeHdIn K c wb=true)/\∃fd:FuncData,(∀(s:Shared) (v:Value),BindsTo s fd ⟨[v],[]⟩ [("_law_script",v)])/\∀base:Heap,K.In base->base.Ns mainGlobals mg->bT l.prog w K mg base fS 18 fa fd bia (Hs K wb we wc wj wg):=by
 have e:=hfa.symm.trans (W.mg_of X G a74);cases e;obtain⟨d0,x0⟩:=cD X G l0 (ps:=a7a) (by walk_at "b2");obtain⟨d1,x1⟩:=cD X G l1 (ps:=bga) (by walk_at "b2");obtain⟨d2,x2⟩:=cD X G l2 (ps:=bba) (by walk_at "b2");obtain⟨d3,x3⟩:=cD X G l3 (ps:=bya) (by walk_at "b1");obtain⟨d4,x4⟩:=cD X G l4 (ps:=kf) (by walk_at "b1");obtain⟨d5,x5⟩:=cD X G l5 (ps:=kf) (by walk_at "b1");obtain⟨d6,x6⟩:=cD X G l6 (ps:=kf) (by walk_at "b1");obtain⟨d7,x7⟩:=cD X G l7 (ps:=kf) (by walk_at "b1");obtain⟨d8,x8⟩:=cD X G l8 (ps:=kf) (by walk_at "b1");obtain⟨d9,x9⟩:=uI l9 (ps:=aha) (by walk_at "b8");obtain⟨d10,x10⟩:=cD X G l10 (ps:=aza) (by walk_at "b3");obtain⟨d11,x11⟩:=cD X G l11 (ps:=aqa) (by walk_at "b1");obtain⟨d12,Wk⟩:=uI l12 (ps:=bAa) (by walk_at "b2");obtain⟨d13,x13⟩:=cD X G l13 (ps:=aea) (by walk_at "b3");obtain⟨d14,x14⟩:=cD X G NV (ps:=aea) (by walk_at "b3");obtain⟨d15,x15⟩:=cD X G l15 (ps:=ada) (by walk_at "b2");obtain⟨d16,x16⟩:=cD X G l16 (ps:=apa) (by walk_at "b2")
 obtain⟨d17,x17⟩:=cD X G l17 (ps:=kf) (by walk_at "b1");obtain⟨d18,x18⟩:=uI l18 (ps:=ata) (by walk_at "b6");obtain⟨d19,x19⟩:=cD X G l19 (ps:=ba) (by walk_at "b3");obtain⟨d20,x20⟩:=cD X G l20 (ps:=ba) (by walk_at "b3");obtain⟨d21,x21⟩:=cD X G l21 (ps:=ba) (by walk_at "b3");obtain⟨d22,x22⟩:=cD X G l22 (ps:=ba) (by walk_at "b3");obtain⟨d23,x23⟩:=cD X G NU (ps:=ama) (by walk_at "b2");obtain⟨d24,x24⟩:=cD X G l24 (ps:=aCa) (by walk_at "b4");obtain⟨d25,x25⟩:=cD X G l25 (ps:=bpa) (by walk_at "b2");obtain⟨d26,x26⟩:=cD X G l26 (ps:=ama) (by walk_at "b2");obtain⟨d27,x27⟩:=cD X G l27 (ps:=a6a) (by walk_at "b3");obtain⟨d28,x28⟩:=cD X G l28 (ps:=bsa) (by walk_at "b2");obtain⟨d29,x29⟩:=cD X G l29 (ps:=kf) (by walk_at "b1");obtain⟨d30,x30⟩:=uI l30 (ps:=aXa) (by walk_at "b4");obtain⟨d31,x31⟩:=cD X G NT (ps:=aia) (by walk_at "b2");obtain⟨d32,x32⟩:=cD X G NS (ps:=bfa) (by walk_at "b2");obtain⟨d33,x33⟩:=cD X G W2 (ps:=aqa) (by walk_at "b1")
 obtain⟨d34,x34⟩:=cD X G l34 (ps:=ada) (by walk_at "b2");obtain⟨d35,x35⟩:=cD X G l35 (ps:=aja) (by walk_at "b3");obtain⟨d36,x36⟩:=cD X G l36 (ps:=bka) (by walk_at "b2");obtain⟨d37,x37⟩:=cD X G l37 (ps:=bda) (by walk_at "b3");obtain⟨d38,x38⟩:=cD X G l38 (ps:=aua) (by walk_at "b3");have F39:=FP (st:=cS) l39 Pa k39;have b39:=F39.binds (ps:=aga) (by walk_at "b3");have F40:=FP (st:=dZ) l40 O9 k40;have b40:=F40.binds (ps:=aga) (by walk_at "b3");obtain⟨d41,x41⟩:=cD X G l41 (ps:=aaa) (by walk_at "b3");obtain⟨d42,x42⟩:=cD X G l42 (ps:=aka) (by walk_at "b2");obtain⟨d43,x43⟩:=cD X G l43 (ps:=asa) (by walk_at "b3");have F44:=FP (st:=dE) l44 O8 k44;have b44:=F44.binds (ps:=gz) (by walk_at "b3");have F45:=FP (st:=eK) l45 O7 k45;have b45:=F45.binds (ps:=gz) (by walk_at "b3");obtain⟨d46,x46⟩:=cD X G l46 (ps:=aoa) (by walk_at "b3");obtain⟨d47,x47⟩:=cD X G l47 (ps:=fv) (by walk_at "b3");obtain⟨d48,x48⟩:=cD X G l48 (ps:=fv) (by walk_at "b3")
 obtain⟨d49,x49⟩:=cD X G l49 (ps:=aAa) (by walk_at "b4");obtain⟨d50,x50⟩:=cD X G l50 (ps:=aia) (by walk_at "b2");obtain⟨d51,x51⟩:=cD X G l51 (ps:=aca) (by walk_at "b4");obtain⟨d52,Wj⟩:=uI l52 (ps:=bla) (by walk_at "b1");obtain⟨d53,Wi⟩:=uI l53 (ps:=bua) (by walk_at "b2");obtain⟨d54,x54⟩:=uI l54 (ps:=a2a) (by walk_at "b3");obtain⟨d55,Wh⟩:=uI l55 (ps:=aya) (by walk_at "b3");have F56:=FP (st:=cP) l56 O6 W5;have b56:=F56.binds (ps:=aZa) (by walk_at "b2");obtain⟨d57,Wg⟩:=uI l57 (ps:=bla) (by walk_at "b1");obtain⟨d58,Wf⟩:=uI l58 (ps:=bha) (by walk_at "b3");obtain⟨d59,We⟩:=uI l59 (ps:=bea) (by walk_at "b3");obtain⟨d60,x60⟩:=cD X G l60 (ps:=bva) (by walk_at "b1");obtain⟨d61,x61⟩:=cD X G l61 (ps:=aka) (by walk_at "b2");obtain⟨d62,x62⟩:=cD X G l62 (ps:=aaa) (by walk_at "b3");obtain⟨d63,x63⟩:=cD X G l63 (ps:=aja) (by walk_at "b3");obtain⟨d64,x64⟩:=cD X G l64 (ps:=a5a) (by walk_at "b3");obtain⟨d65,x65⟩:=cD X G l65 (ps:=a9a) (by walk_at "b3")
 obtain⟨d66,x66⟩:=cD X G l66 (ps:=baa) (by walk_at "b3");obtain⟨d67,x67⟩:=cD X G l67 (ps:=ava) (by walk_at "b3");obtain⟨d68,x68⟩:=cD X G l68 (ps:=awa) (by walk_at "b5");obtain⟨d69,x69⟩:=cD X G l69 (ps:=ara) (by walk_at "b5");obtain⟨d70,x70⟩:=cD X G l70 (ps:=aWa) (by walk_at "b4");obtain⟨d71,x71⟩:=cD X G l71 (ps:=ana) (by walk_at "b5");obtain⟨d72,x72⟩:=cD X G l72 (ps:=ue) (by walk_at "b5");obtain⟨d73,x73⟩:=cD X G l73 (ps:=afa) (by walk_at "b4");have F74:=PU l74;have b74:=F74.binds (ps:=bia) (by walk_at "b1");have tx:Txt K mg ⟨f0,d0,f1,d1,f2,d2,f3,d3,f4,d4,f5,d5,f6,d6,f7,d7,f8,d8,f9,d9,YR,d10,YQ,d11,Lw,d12,YO,d13,YN,d14,YM,d15,YL,d16,YK,d17,Lu,d18,YJ,d19,YI,d20,YH,d21,YG,d22,YF,d23,YE,d24,YD,d25,YC,d26,YB,d27,YA,d28,Yz,d29,Lr,d30,Yy,d31,Yx,d32,Yw,d33,Yv,d34,Yu,d35,Yt,d36,Ys,d37,Yr,d38,Lp,_,Ln,_,Yq,d41,Yp,d42,Yo,d43,Lm,_,Ll,_,Yn,d46,Ym,d47,Yl,d48,Yk,d49,Yj,d50,Yi,d51,Lk,d52,Lj,d53,Li,d54,Lh,d55,G5,_,Lg,d57,Lf,d58,Le,d59,Yh,d60,Yg,d61,Yf,d62,Ye,d63,Yd,d64,Yc,d65,Yb,d66,Ya,d67,X9,d68,X8,d69,X7,d70,X6,d71,X5,d72,X4,d73,fa,_,Ae,wj,Ad,wg,Ac,we,Ab,wc,Aa,wb,C0,C1,C2,C3⟩:=⟨x0,x1,x2,x3,x4,x5,x6,x7,x8,x9,x10,x11,Wk,x13,x14,x15,x16,x17,x18,x19,x20,x21,x22,x23,x24,x25,x26,x27,x28,x29,x30,x31,x32,x33,x34,x35,x36,x37,x38,⟨F39,b39,W.mg_of X G a39⟩,⟨F40,b40,W.mg_of X G a40⟩,x41,x42,x43,⟨F44,b44,W.mg_of X G a44⟩,⟨F45,b45,W.mg_of X G a45⟩,x46,x47,x48,x49,x50,x51,Wj,Wi,x54,Wh,⟨F56,b56⟩,Wg,Wf,We,x60,x61,x62,x63,x64,x65,x66,x67,x68,x69,x70,x71,x72,x73,⟨F74,b74,W.mg_of X G a74⟩,⟨pg0,Be,po0,sa0⟩,W.mg_of X G aC0,⟨mk0,a54,i54,kc0⟩,⟨a55,i55,Wh.F.kp⟩,⟨a56,i56,W5⟩,⟨a57,i57,Wg.F.kp⟩,⟨a58,i58,Wf.F.kp⟩,⟨a59,i59,We.F.kp⟩,yc,BS,⟨pg1,DB,po1,sa1⟩,W.mg_of X G aC1,⟨mk1,a9,i9,kc1⟩,⟨RP,i12,Wk.F.kp⟩,⟨a52,i52,Wj.F.kp⟩,⟨a53,i53,Wi.F.kp⟩,JN,BR,Ar,ED,BQ,Aq,yb,⟨ia1,in1,it1,im1⟩,⟨pg2,hd2,po2,sa2⟩,W.mg_of X G aC2,⟨mk2,a18,N3,kc2⟩,EC,BP,EB,Ao,Ap,⟨ia2,in2,NZ,im2⟩,⟨pg3,hd3,po3,sa3⟩,W.mg_of X G aC3,⟨mk3,a30,i30,kc3⟩,uj,An,BO,⟨ia3,in3,it3,im3⟩,⟨rfl,Ir⟩,⟨rfl,Iq⟩,⟨rfl,Ip⟩,⟨rfl,Io⟩,⟨rfl,Im⟩,W.mg_none_of X G P9,W.mg_none_of X G Fv,W.mg_none_of X G wO,W.mg_none_of X G gF,W.mg_none_of X G CD,W.mg_none_of X G bL,W.mg_none_of X G iV,W.mg_none_of X G gA,W.mg_none_of X G CC,W.mg_none_of X G wQ,W.mg_none_of X G eU,W.mg_none_of X G RM,W.mg_none_of X G Rg,W.mg_none_of X G LU,W.mg_none_of X G Hm,W.mg_none_of X G sY,W.mg_none_of X G DS,⟨_,W.mg_of X G qT⟩,⟨_,W.mg_of X G m5⟩,⟨_,W.mg_of X G qU⟩,⟨_,W.mg_of X G m6⟩⟩
 exact⟨⟨_,Ir⟩,⟨_,Iq⟩,⟨_,Ip⟩,⟨_,Io⟩,⟨_,Im⟩,_,λs v=>.of_eq rfl,λbase _ _=>aRz tx⟩
theorem walk{l:W.OpenLaw}{q:Program}{loose:aj}{XP:(Str->aw)->Heap->Prop}{YP:World->Heap->Prop}{d:DefRec}{K:Params->W.Frag}{wj wg we wc wb:Addr}(hn:l.most=some 63)(GQ:d.params.defaults=[])(hI:∀(w:World) (h:Heap),YP w h->(K w.params).In h)
  (F:∀(w:World) (mg:Str->aw) (fa:Addr) (h:Heap),(K w.params).In h->h.Ns mainGlobals mg->mg d.name=some (.ref fa)->
   (∃c,W.codeHdIn (K w.params) c wj=true)/\(∃c,W.codeHdIn (K w.params) c wg=true)/\(∃c,W.codeHdIn (K w.params) c we=true)/\(∃c,W.codeHdIn (K w.params) c wc=true)/\(∃c,W.codeHdIn (K w.params) c wb=true)/\∃fd:FuncData,(∀(s:Shared) (u:Value),BindsTo s fd ⟨[u],[]⟩ [("_law_script",u)])/\∀base:Heap,(K w.params).In base->base.Ns mainGlobals mg->bT l.prog w (K w.params) mg base fS 18 fa fd bia (Hs (K w.params) wb we wc wj wg))
  (hN:decide ([wj,wg,we,wc,wb]:ao).Nodup=true) (hY:∀(w:World) (h:Heap),YP w h->∀t∈([wj,wg,we,wc,wb]:ao),h.get? t=some { cls:=.none,data:=.fields #[] })
  (hK:∀w:World,(K w.params).lookup wj=none/\(K w.params).lookup wg=none/\(K w.params).lookup we=none/\(K w.params).lookup wc=none/\(K w.params).lookup wb=none) :
  W.WalkO q loose XP YP l.row.toRowW d [] (λf vs=>PySem.call f vs):=by
 refine L2.aMQ (tabs:=[(wj,dU,dW),(wg,gB,gC),(we,dX,dY),(wc,gX,gY),(wb,cK,cL)]) (n:=63) (k:=18) (x:="_law_script") (sp:=λw=>Hs (K w.params) wb we wc wj wg) hn (by decide) GQ ⟨rfl,by decide,by decide⟩ (ud hN) (λw h Y=>⟨hI w h Y,λt ht=>hY w h Y t.1 ?_⟩) (λw t ht=>?_) (λw mg fa h x1 x2 x3=>?_) (λ_ _ a ns hl hT hS=>?_)
 ·simp only[pN,xn,or_false] at ht;rcases ht with rfl|rfl|rfl|rfl|rfl <;> simp
 ·have hk:=hK w;simp only[pN,xn,or_false] at ht;rcases ht with rfl|rfl|rfl|rfl|rfl
  ·exact hk.1
  ·exact hk.2.1
  ·exact hk.2.2.1
  ·exact hk.2.2.2.1
  ·exact hk.2.2.2.2
 ·obtain⟨Pa,O9,O8,O7,O6,rest⟩:=F w mg fa h x1 x2 x3;refine⟨λt ht=>?_,rest⟩;simp only[pN,xn,or_false] at ht;rcases ht with rfl|rfl|rfl|rfl|rfl
  ·exact Pa
  ·exact O9
  ·exact O8
  ·exact O7
  ·exact O6
 ·exact⟨a,ns,rfl,hS,hl,hT (wj,dU,dW) (by simp),hT (wg,gB,gC) (by simp),hT (we,dX,dY) (by simp),hT (wc,gX,gY) (by simp),hT (wb,cK,cL) (by simp),λH' s'=>⟨rfl,s'⟩⟩
end My
open PySem PySem.W PyProof.Rows
set_option maxRecDepth 100000 in
theorem PySem.Challenge.cw_stintwise_k76_prices_climbed_holds : PySem.Challenge.rw_stintwise_k76_prices_climbed.Holds := by
 w_on;o_law;k_head;(case hw=>w_witness2)
 k_fill
 refine' My.walk (l:=PySem.Challenge.rw_stintwise_k76_prices_climbed) rfl rfl (λw h Y=>PySem.W.km_in_of Y) ?F ?hN0 ?hY0 ?hK0
 case F=>
  intro w mg fa h KX G GH;refine' My.all_mk KX G GH ?_ ?_ ?_ ?_ ?_ ?_ ?_ ?_ ?_ ?_ ?_ ?_ ?_ ?_ ?_ ?_ ?_ ?_ ?_ ?_ ?_ ?_ ?_ ?_ ?_ ?_ ?_ ?_ ?_ ?_ ?_ ?_ ?_ ?_ ?_ ?_ ?_ ?_ ?_ ?_ ?_ ?_ ?_ ?_ ?_ ?_ ?_ ?_ ?_ ?_ ?_ ?_ ?_ ?_ ?_ ?_ ?_ ?_ ?_ ?_ ?_ ?_ ?_ ?_ ?_ ?_ ?_ ?_ ?_ ?_ ?_ ?_ ?_ ?_ ?_ ?_ ?_ ?_ ?_ ?_ ?_ ?_ ?_ ?_ ?_ ?_ ?_ ?_ ?_ ?_ ?_ ?_ ?_ ?_ ?_ ?_ ?_ ?_ ?_ ?_ ?_ ?_ ?_ ?_ ?_ ?_ ?_ ?_ ?_ ?_ ?_ ?_ ?_ ?_ ?_ ?_ ?_ ?_ ?_ ?_ ?_ ?_ ?_ ?_ ?_ ?_ ?_ ?_ ?_ ?_ ?_ ?_ ?_ ?_ ?_ ?_ ?_ ?_ ?_ ?_ ?_ ?_ ?_ ?_ ?_ ?_ ?_ ?_ ?_ ?_ ?_ ?_ ?_ ?_ ?_ ?_ ?_ ?_ ?_ ?_ ?_ ?_ ?_ ?_ ?_ ?_ ?_ ?_ ?_ ?_ ?_ ?_ ?_ ?_ ?_ ?_ ?_ ?_ ?_ ?_ ?_ ?_ ?_ ?_ ?_ ?_ ?_ ?_ ?_ ?_ ?_ ?_ ?_ ?_ ?_ ?_ ?_ ?_ ?_ ?_ ?_ ?_ ?_ ?_ ?_ ?_ ?_;any_goals first|(refine' My.aSv ?a0 ?l0;(case a0=>unfold My.aQ;k_is);(case l0=>unfold My.Ca;refine' ⟨?_,?_,?_⟩ <;> k_is))|(refine' My.ZD ?l0;(case l0=>unfold My.Ca;refine' ⟨?_,?_,?_⟩ <;> k_is))|k_is|(unfold My.aQ;k_is)|(unfold My.Ca;refine' ⟨?_,?_,?_⟩ <;> k_is)|exact rfl|kernel_rfl
 case hN0=>exact rfl
 case hY0=>exact λw h Y t ht=>PySem.W.km_tabs_of Y t (by revert t;decide)
 case hK0=>intro w;exact⟨by kernel_rfl,by kernel_rfl,by kernel_rfl,by kernel_rfl,by kernel_rfl⟩
