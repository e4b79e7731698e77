import PyProof.Rows.All
import Wide.All
import OpenK.AllK
import Wide.FinOn
import Lean
import PyProof.EqAt
import PyProof.EqKinds
import PyProof.TupleCall
import PySem.Challenge.RW_yesnowords_k07_words_even_with_all
set_option Elab.async false
set_option linter.all false
set_option compiler.extract_closed false
set_option bootstrap.genMatcherCode false
set_option maxRecDepth 100000
def Aa:=@List.length_map
def Ab:=@PySem.wpAny_bind
def Ac:=@List.getElem?_eq_getElem
def Ad:=@List.map_cons
def Ae:=@PySem.Heap.get?_push_of_some
def Af:=@Bool.false_ne_true
def Ag:=@Nat.le_refl
def Ah:=@decide_eq_true
def Ai:=@Bool.and_eq_true
def Aj:=@List.mem_cons_of_mem
def Ak:=@List.mem_cons_self
def Al:=@List.mem_singleton
def Am:=@List.getElem?_map
def An:=@List.getElem?_eq_some_iff
def Ao:=@PyProof.Rows.wpS_bind
def Ap:=@decide_eq_false
def Aq:=@List.mem_cons
def Ar:=@PySem.Heap.lt_size
def As:=@of_decide_eq_true
def At:=@List.mem_of_getElem?
def Au:=@List.size_toArray
def Av:=@PySem.wpAny_pure
def Aw:=@PyProof.Rows.wpS_pure
def Ay:=@PySem.Heap.get?_push_size
def Az:=@List.mem_map
def Ba:=@List.mem_append
def Bb:=@List.sum_cons
def Bc:=@List.append_assoc
def Bd:=@Nat.lt_of_lt_of_le
def Be:=@List.length_cons
def Bf:=@List.length_append
def Bg:=@List.all_eq_true
def Bh:=@List.mem_append_right
def Bi:=@Nat.ne_of_lt
def Bj:=@List.mem_range
def Bk:=@Nat.testBit_xor
def Bl:=@List.lookup_cons
def Bm:=@Bool.not_eq_true
def Bn:=@List.take_append_drop
def Bo:=@Nat.zero_testBit
def Bp:=@List.take_length
def Bq:=@List.all_cons
def Br:=@List.mem_append_left
def Bs:=@List.pairwise_cons
def Bt:=@List.append_nil
def Bu:=@PySem.mem_of_lookup
def Bv:=@Array.toList_append
def Bw:=@LawfulBEq.eq_of_beq
def Bx:=@List.map_append
def By:=@List.getD_eq_getElem?_getD
def Bz:=@List.drop_eq_getElem_cons
def Ca:=@List.mem_filter
def Cb:=@Nat.zero_le
def Cc:=@List.pairwise_append
def Cd:=@List.getElem?_eq_none
def Ce:=@List.filter_cons
def Cf:=@Nat.lt_irrefl
def Cg:=@List.zip_cons_cons
def Ch:=@PyProof.Rows.wpS_forRange
def Ci:=@Option.bind_some
def Cj:=@List.map_congr_left
def Ck:=@List.pairwise_map
def Cm:=@List.nodup_cons
def Cn:=@Bool.or_eq_true
def Co:=@Nat.zero_add
def Cp:=@List.zipWith_cons_cons
def Cq:=@List.not_mem_nil
def Cr:=@List.replicate_succ
def Cs:=@Array.length_toList
def Ct:=@List.take_add_one
def Cu:=@List.length_range
def Cv:=@PySem.W.kia_one
def Cw:=@Nat.xor_zero
def Cy:=@Nat.le_trans
def Cz:=@PySem.wpAny_field
def Da:=@Nat.xor_assoc
def Db:=@PySem.wpAny_callSpecial?_slot
def Dc:=@decide_eq_true_eq
def Dd:=@List.map_map
def De:=@List.getElem?_append_left
def Df:=@List.length_take
def Dg:=@PySem.sizeLine_eq
def Dh:=@List.mem_iff_getElem
def Di:=@List.getElem?_set_ne
def Dj:=@Bool.eq_iff_iff
def Dk:=@beq_eq_false_iff_ne
def Dl:=@PySem.Heap.size_push
def Dm:=@PyProof.Rows.callWith_type1
def Dn:=@List.getElem?_set_self
def Do:=@PySem.wpAny_truthy_bool
def Dp:=@PySem.wpAny_newObj_type
def Dq:=@Nat.le_add_right
def Dr:=@Bool.not_eq_false'
def Ds:=@PyProof.Rows.wpS_mono
def Dt:=@List.find?_cons
def Du:=@Nat.log2_lt
def Dv:=@List.flatten_cons
def Dw:=@List.ext_getElem?
def Dx:=@Int.toNat_natCast
def Dy:=@Array.toList_push
def Dz:=@PyProof.Rows.slot_tuple_getitem
def Ea:=@PySem.wpAny_loadPart'
def Eb:=@List.length_zipWith
def Ec:=@List.length_reverse
def Ed:=@List.take_zero
def Ee:=@List.drop_zero
def Ef:=@Int.eq_ofNat_of_zero_le
def Eg:=@Bool.false_and
def Eh:=@Bool.and_false
def Ei:=@PySem.wpAny_mono
def Ej:=@PySem.wpAny_holding
def Ek:=@Nat.xor_self
def El:=@Nat.xor_lt_two_pow
def Em:=@Bool.false_eq_true
def Eo:=@Array.getElem?_eq_none
def Ep:=@PySem.wpAny_seqItems
def Er:=@PySem.wpAny_is_plain
def Es:=@PySem.wpAny_call_entry
def Et:=@List.any_cons
def Eu:=@List.length_replicate
def Ev:=@List.foldl_append
def Ew:=@PySem.wpAny_setField_rec
def Ey:=@List.take_succ
def Ez:=@List.getElem?_append_right
def Fa:=@if_true
def Fb:=@List.length_drop
def Fc:=@PySem.wpAny_pyIter_list
def Fe:=@PySem.wpAny_rule
def Ff:=@PySem.F.slot_tuple_iterator_next
def Fg:=@List.length_set
def Fh:=@Int.emod_lt_of_pos
def Fi:=@List.pairwise_singleton
def Fj:=@List.length_eq_zero_iff
def Fm:=@PySem.Heap.SameBut.update
def Fo:=@Nat.zero_xor
def Fp:=@Nat.succ.inj
def Fq:=@Nat.le_of_succ_le
def Fs:=@List.take_sublist
def Ft:=@List.forIn_nil
def Fu:=@List.contains_iff_mem
def Fv:=@Array.getElem?_toList
def Fw:=@beq_iff_eq
def Fx:=@Array.toList_reverse
def Fy:=@Option.map_some
def Fz:=@Int.emod_nonneg
def Ga:=@Nat.add_sub_cancel'
def Gb:=@of_decide_eq_false
def Gc:=@List.nodup_iff_pairwise_ne
def Gd:=@List.filter_append
def Ge:=@Bool.xor_false
def Gf:=@Array.perm_iff_toList_perm
def Gh:=@PySem.wpAny_passesOwn
def Gi:=@Sum.inl.inj
def Gj:=@Nat.lt_succ_of_lt
def Gk:=@List.filter_congr
def Gm:=@List.drop_sublist
def Gn:=@PySem.F.args_tuple_add_2
def Go:=@PyProof.Rows.boot_sorted
def Gp:=@Option.isSome_iff_exists
def Gq:=@PySem.wpAny_pyIter_tuple
def Gr:=@PySem.wpAny_Call_Name_kw
def Gs:=@PySem.wpAny_pyIter_enum
def Gu:=@PyProof.Rows.wpS_get
namespace PySem.W.Fast
def tw8344867569430213154:=0
def tw9728783609715231093:=0
def tw195686842803523649:=0
def tw10310350351582605109:=0
def tw148141623128884325:=0
def tw6011487842307780628:=0
def tw2674683870485462765:=0
def tw6315480728064991394:=0
def tw7670282793139315999:=0
def tw4513072511187314059:=0
def tw18297471409749923938:=0
def tw13783608981457288943:=0
def tw2472072411915982568:=0
def tw18162047402714863374:=0
def tw7027431122786849238:=0
def tw3061464933164614682:=0
def tw2719187208413557106:=0
def tw378251094493938634:=0
def tw7825627752564573009:=0
def tw1478959623300061728:=0
def tw1900771833913179524:=0
def tw5600937660362112851:=0
def tw9810425192108760401:=0
def tw5121983726382256453:=0
def tw2584033199577075741:=0
def tw14176033395383906539:=0
def tw12949834691337878564:=0
def tw52150632037779985:=0
def tw11237667448073323317:=0
def tw17984816194068912058:=0
def tw1540440376174856242:=0
def tw14045653794794996177:=0
def tw15050300882251559759:=0
def tw14230012054989464140:=0
def tw7065974461247710931:=0
def tw18105689360183056:=0
def tw13008254603878683669:=0
def tw17052551493775033187:=0
def tw16895738520937071580:=0
def tw12250556713760808705:=0
def tw14191279129864222372:=0
def tw17964817320433228094:=0
def tw2582918130949423542:=0
def tw9623502280945690639:=0
def tw5941944769985496828:=0
def tw15980618242052684940:=0
def tw882090147496799121:=0
def tw8013059403578036950:=0
def tw727935740375856759:=0
def tw4918092032757025038:=0
def tw7492735499343635002:=0
def tw17059071444375941316:=0
def tw16680450544582555451:=0
def tw18165670068378343223:=0
def tw85976951623448438:=0
def tw9097139477503716601:=0
def tw16958219087729988457:=0
def tw9943279168617906546:=0
def tw18075399817743306416:=0
def tw14046220465211394583:=0
def tw8931466465270381795:=0
def tw14319540744663419634:=0
def tw9289040224672044744:=0
def tw15067954260030466514:=0
def tw10259294099167677063:=0
def tw199578983095819936:=0
def tw4246009125432010486:=0
def tw3752688549494349399:=0
def tw14043896889366955601:=0
def tw10891733379501107771:=0
def tw7048034664303308508:=0
def tw17611658193003659242:=0
def tw17255901371657444577:=0
def tw12942947934548231471:=0
def tw5074191839855699286:=0
def tw1685444387176682719:=0
def tw13918582750298695303:=0
def tw328889813620981024:=0
def tw12112486607042337936:=0
def tw2232463138132254661:=0
def tw6036347331391613213:=0
def tw16206757789975466173:=0
def tw1189668996905240170:=0
def tw11501723747238041247:=0
def tw2114193748674905235:=0
def tw7710525282606115342:=0
def tw2678663034086823806:=0
def tw10075653595556729634:=0
def tw11431293263667817081:=0
def tw5692303488371600639:=0
def tw1935370807512153919:=0
def tw11574399991415753481:=0
def tw7301882858630620175:=0
def tw5430277400782366113:=0
def tw12201264617789571729:=0
def tw7997563533023557738:=0
def tw1986155566046047477:=0
def tw9739194731982578330:=0
def tw3643027139412450049:=0
def tw10814061995757993964:=0
def tw3539841005688653774:=0
def tw8009398141838758167:=0
def tw4307061665115000062:=0
def tw16254181413583429690:=0
def tw9167334941549530183:=0
def tw7664047456254244817:=0
def tw15137734378851194001:=0
def tw13633041497844569762:=0
def tw4827222331414163610:=0
def tw13050700208225242800:=0
def tw547861231230943780:=0
def tw1856254392137451471:=0
def tw12235910034558063676:=0
def tw8774826106362918482:=0
def tw5511535270926696486:=0
def tw14384020680593287268:=0
def tw15486018855427157208:=0
end PySem.W.Fast
theorem bS {α β}{o:Option α}{f:α->Option β}{b}(h:o.bind f=some b):∃a,o=some a/\f a=some b:=Option.bind_eq_some_iff.mp h
theorem sI {α}{a b:α}(h:some a=some b):a=b:=Option.some.inj h
namespace L2
open PySem PySem.Spec PyProof.Rows
theorem aG {P:Prop}(h:∀G:Prop,(P->G)->G):P:=h P id
end L2
set_option hygiene false
local macro_rules | `(tactic| nofun) => `(tactic| refine L2.aG fun _ qG=>?_)
local macro_rules | `(tactic| ac_rfl) => `(tactic| (refine qG ?_;clear qG))
local macro_rules | `(#v[$x]) => `((gArg (gC (.int $x))))
local macro_rules | `(#v[$x,0]) => `(some (.int $x,false))
local macro_rules | `(#v[$x,1]) => `(some (.lst $x,false))
local macro_rules | `(#v[$x,2]) => `(some (.lst $x,true))
local macro_rules | `(#v[$x,3]) => `(some (.tup $x,false))
local macro_rules | `(#v[$x,4]) => `((gArg (gVar $x)))
local macro_rules | `(#v[$x,5]) => `(some ($x,true))
local macro_rules | `(#v[$x,6]) => `(some ($x,false))
local macro_rules | `(#v[0,0,0]) => `((oI yes2 fun i j=>.int (i - j)))
local macro_rules | `(#v[0,0,1]) => `((oI cPow fun i j=>.int (i * 2 ^ j.toNat)))
local macro_rules | `(#v[0,0,2]) => `((oI (fun _ j=>decide (0 < j)) fun i j=>.int (i % j)))
local macro_rules | `(#v[0,0,3]) => `((oI cDiv fun i j=>.int (i / j)))
local macro_rules | `(#v[]) => `((by omega))
local macro_rules | `(#v[0,0,5]) => `(⟨by kernel_rfl,by kernel_rfl,by kernel_rfl,by decide +kernel,rfl,by decide +kernel,by decide +kernel⟩)
local macro_rules | `(#v[0,9]) => `((by decide))
local macro_rules | `(#v[0,0,7]) => `((by decide +kernel))
set_option hygiene true
namespace L2
open PySem PySem.Spec PyProof.Rows
noncomputable abbrev Key:=Sum Int Str
noncomputable def zmt:Key->Value->Bool
 | .inl k,v=>Value.isInt k v
 | .inr x,v=>Value.isStrOf x v
noncomputable def keyH (w:World):Key->Int
 | .inl k=>hashInt k
 | .inr x=>hashStr w x
theorem keyIs_shape:∀{k:Key}{v:Value},zmt k v=true->(∃i t,k=Sum.inl i/\v=Value.int i t)\/(∃x t,k=Sum.inr x/\v=Value.str x t)
  | .inl i,v,h=>by
    obtain⟨t,e⟩:=Value.isInt_shape (k:=i) (v:=v) h;exact .inl ⟨i,t,rfl,e⟩
  | .inr x,v,h=>by
    obtain⟨t,e⟩:=Value.isStrOf_shape (x:=x) (v:=v) h;exact .inr ⟨x,t,rfl,e⟩
theorem zrk (i:Int)(t:Tok):zmt (.inl i) (.int i t)=true:=by simp [zmt,Value.isInt]
theorem zt6 (x:Str)(t:Tok):zmt (.inr x) (.str x t)=true:=by simp [zmt,Value.isStrOf]
theorem z7m (a b:Int):decide ((Sum.inl a:Key)=Sum.inl b)=(a == b):=by
 by_cases e:a=b
 ·subst e;simp
 ·have h : ¬ (Sum.inl a : Key) = Sum.inl b := fun q => e (Gi q);rw[Ap h];exact (Dk.mpr e).symm
theorem z64 (a b:Str):decide ((Sum.inr a:Key)=Sum.inr b)=decide (a=b):=by
 by_cases e:a=b
 ·subst e;simp
 ·have h : ¬ (Sum.inr a : Key) = Sum.inr b := fun q => e (Sum.inr.inj q);rw[Ap h,Ap e]
theorem z61 (a:Int)(b:Str):decide ((Sum.inl a:Key)=Sum.inr b)=false:=Ap (fun q=>nomatch q)
theorem z5t (a:Str)(b:Int):decide ((Sum.inr a:Key)=Sum.inl b)=false:=Ap (fun q=>nomatch q)
noncomputable def zap (prog:Program) (w:World):PySem.KeyKind prog w Key where
 is:=zmt
 hash:=keyH w
 inj:=fun v a b ha hb=>by
  rcases keyIs_shape ha with ⟨i,t,rfl,rfl⟩ | ⟨x,t,rfl,rfl⟩
  ·rcases keyIs_shape hb with ⟨j, u, rfl, e⟩ | ⟨y, u, rfl, e⟩
   ·injection e with e1 _;rw[e1]
   ·exact nomatch e
  ·rcases keyIs_shape hb with ⟨j, u, rfl, e⟩ | ⟨y, u, rfl, e⟩
   ·exact nomatch e
   ·injection e with e1 _;rw[e1]
 byValue:=fun k v h=>by
  rcases keyIs_shape h with ⟨i,t,rfl,rfl⟩ | ⟨x,t,rfl,rfl⟩<;>rfl
 pyHash:=fun hv h=>by
  rcases keyIs_shape hv with ⟨i,t,rfl,rfl⟩ | ⟨x,t,rfl,rfl⟩
  ·exact wpAny_pyHash_int h
  ·exact wpAny_pyHash_str h
 eqBool:=fun hu hv h=>by
  rcases keyIs_shape hu with ⟨i,t,rfl,rfl⟩ | ⟨x,t,rfl,rfl⟩
  ·rcases keyIs_shape hv with ⟨j, u, rfl, rfl⟩ | ⟨y, u, rfl, rfl⟩
   ·rw[z7m] at h;exact wpAny_eqBool_int h
   ·rw[z61] at h;exact SeqAt.EqAt.int_str i t y u _ _ _ _ h
  ·rcases keyIs_shape hv with ⟨j, u, rfl, rfl⟩ | ⟨y, u, rfl, rfl⟩
   ·rw[z5t] at h;exact SeqAt.EqAt.str_int x t j u _ _ _ _ h
   ·rw[z64] at h;exact wpAny_eqBool_str h
 «strs»:=fun k x t v h=>by
  rcases keyIs_shape h with ⟨i,u,rfl,e⟩ | ⟨y,u,rfl,e⟩
  ·exact nomatch e
  ·injection e with e1 _;subst e1;cases v<;>rfl
theorem zm5 (prog:Program)(w:World)(i:Int)(t:Tok):(zap prog w).is (.inl i) (.int i t)=true:=zrk i t
theorem zmk (prog:Program)(w:World)(x:Str)(t:Tok):(zap prog w).is (.inr x) (.str x t)=true:=zt6 x t
inductive V where
 | non | bl (b:Bool) | int (i:Int) | str (x:Str) | byt (b:Array UInt8) | flt (b:UInt64) | ref (a:Addr) | ty (n:String)
 deriving DecidableEq
noncomputable def RelV:V->Value->Prop
 | .non,u=>u=Value.none
 | .bl b,u=>u=Value.bool b
 | .int i,u=>∃t,u=Value.int i t
 | .str x,u=>∃t,u=Value.str x t
 | .byt b,u=>∃t,u=Value.bytes b t
 | .flt b,u=>∃t,u=Value.float b t
 | .ref a,u=>u=Value.ref a
 | .ty n,u=>u=Value.type n
noncomputable abbrev Vals:List V->List Value->Prop:=Paired RelV
theorem Vals.length {xs:List V}{us:List Value}(r:Vals xs us):xs.length=us.length:=Paired.length r
theorem Vals.get:∀{xs:List V}{us:List Value}{i:Nat}{x:V},Vals xs us->xs[i]?=some x->∃u,us[i]?=some u/\RelV x u
  | _,_,_,_,.nil,e=>by simp at e
  | _,_,0,_,.cons r _,e=>by simp at e;subst e;exact⟨_,rfl,r⟩
  | _,_,i+1,x,.cons _ t,e=>by
    obtain⟨u,h1,h2⟩:=Vals.get (i:=i) (x:=x) t (by simpa using e);exact⟨u,by simpa using h1,h2⟩
theorem Vals.set {x:V}{u:Value}(r:RelV x u):∀{xs:List V}{us:List Value} (i:Nat),Vals xs us->Vals (xs.set i x) (us.set i u)
 | _,_,_,.nil=>.nil
 | _,_,0,.cons _ t=>.cons r t
 | _,_,i+1,.cons q t=>.cons q (Vals.set r i t)
theorem Vals.append:∀{xs ys:List V}{us ws:List Value},Vals xs us->Vals ys ws->Vals (xs++ys) (us++ws)
 | _,_,_,_,.nil,s=>s
 | _,_,_,_,.cons r t,s=>.cons r (Vals.append t s)
theorem Vals.take:∀{xs:List V}{us:List Value} (n:Nat),Vals xs us->Vals (xs.take n) (us.take n)
 | _,_,0,_=>.nil
 | _,_,_+1,.nil=>.nil
 | _,_,n+1,.cons r t=>.cons r (Vals.take n t)
theorem Vals.drop:∀{xs:List V}{us:List Value} (n:Nat),Vals xs us->Vals (xs.drop n) (us.drop n)
 | _,_,0,r=>r
 | _,_,_+1,.nil=>.nil
 | _,_,n+1,.cons _ t=>Vals.drop n t
noncomputable def RelO:Option V->Option Value->Prop
 | some v,some u=>RelV v u
 | none,none=>True
 | _,_=>False
noncomputable def KV {κ:Type}:List (κ × V)->List (κ × Value)->Prop:=Paired fun (p:κ × V) (q:κ × Value)=>p.1=q.1/\RelV p.2 q.2
noncomputable def kV:Key->V
 | .inl i=>.int i
 | .inr x=>.str x
inductive HO where
 /-- a list -/
 | lst (xs:List V)
 /-- a tuple (never changes) -/
 | tup (xs:List V)
 /-- a dict whose keys are ints and texts;one whose keys are tuples of ints and texts (the empty one is both) -/
 | dK (kvs:List (Key × V)) | dT (kvs:List (List Key × V))
 /-- a set of ints: its members,its size -/
 | set (S:Int->Bool) (n:Nat)
 /-- an instance of the class at C,its dict at dx,its attributes -/
 | ins (C dx:Addr) (fs:List (Str × V))
 /-- the dict of the instance at x -/
 | own (x:Addr)
 /-- the dict of an exception -/
 | xd (fs:List (Str × V))
 /-- a bound method,f of x -/
 | met (f x:Addr)
 /-- a range object lo,lo+1,.. below hi -/
 | rng (lo hi:Int)
 /-- a thing that is known to the object (the script;a dict while a loop walks it): read,never written while it is so -/
 | frz (o:Obj) (u:HO)
 /-- a code object's table -/
 | tbl (ps:Array Value)
 /-- any other thing,by what is true of its one object (a def of one's own: SetO a S n:=HO.ext fun h=>..) -/
 | ext (φ:Heap->Prop)
noncomputable abbrev Hp:=Addr->Option HO
noncomputable def upd (H:Hp) (a:Addr) (o:HO):Hp:=fun b=>if b=a then some o else H b
theorem upd_same {H:Hp}{a:Addr}{o:HO}:upd H a o a=some o:=by unfold upd;rw[if_pos rfl]
theorem upd_ne {H:Hp}{a b:Addr}{o:HO}(h:b≠a):upd H a o b=H b:=by unfold upd;rw[if_neg h]
theorem zm7 {H:Hp}{a:Addr}{o u:HO}:upd (upd H a o) a u=upd H a u:=by
 funext b;unfold upd;split<;>rfl
theorem yba {H:Hp}{a b:Addr}{o u:HO}(h:H a=some o)(h' : H b=some u)(d:o≠u):a≠b:=by
 intro e;subst e;rw[h] at h';exact d (sI h')
theorem zah {H:Hp}{a b:Addr}{o:HO}(h:H a=some o)(h' : H b=none):a≠b:=by
 intro e;subst e;rw[h] at h';cases h'
section
variable (P:Program) (w:World)
noncomputable def za4 (H:Hp) (h:Heap) (a:Addr):HO->Prop
 | .lst xs=>xs.length<=sizeLine/\∃(its:List Value) (n:Nat),Vals xs its/\h.get? a=some { cls:=.type "list",data:=.seq its.toArray n }
 | .tup xs=>xs.length<=sizeLine/\∃its:List Value,Vals xs its/\IsTup h a its.toArray
 | .dK kvs=>kvs.length<=sizeLine/\(a == sysModules)=false/\∃vs,KV kvs vs/\h.DictOf (zap P w) a vs
 | .dT kvs=>kvs.length<=sizeLine/\(a == sysModules)=false/\∃xs:List (List Key × Addr × Value),
   Paired (fun (p:List Key × V) (q:List Key × Addr × Value)=>p.1=q.1/\H q.2.1=some (.tup (p.1.map kV))/\RelV p.2 q.2.2) kvs xs /\
   ∃o es ep,h.get? a=some o/\o.ExactDict/\o.data=.dict es ep/\es.toList=xs.map (entryOfKey (tupleKind (zap P w)))/\(xs.map (·.1)).Nodup
 | .set S n=>h.SetOf (intKind P w) a S n
 | .ins C dx fs=>H dx=some (.own a)/\fs.length<=1000/\dx≠a/\h.get? a=some (PySem.W.instObj C dx) /\
   ∃mA,h.Ns1 dx mA/\(∀f,RelO (fs.lookup f) (mA f))/\PySem.Within mA (fs.map (·.1))
 | .own _=>∃o,h.get? a=some o
 | .xd fs=>∃mA,h.Ns1 a mA/\∀f,RelO (fs.lookup f) (mA f)
 | .rng lo hi=>∃t u v,h.get? a=some { cls:=.type "range",data:=.fields #[.int lo t,.int hi u,.int 1 v] }
 | .frz o u=>h.get? a=some o/\za4 H h a u
 | .tbl ps=>h.get? a=some { cls:=.none,data:=.fields ps }
 | .met f x=>h.get? a=some (PySem.W.methodObj (.ref f) (.ref x))
 | .ext φ=>φ h/\(∃o,h.get? a=some o)/\∀h1 h2:Heap,φ h1->(∀o,h1.get? a=some o->h2.get? a=some o)->φ h2
noncomputable def HOk (H:Hp) (h:Heap):Prop:=∀a o,H a=some o->za4 P w H h a o
end
section
variable {P:Program}{w:World}{H H' : Hp}{h h' : Heap}{a:Addr}{o:HO}
theorem za4.lt (x:za4 P w H h a o):a < h.objs.size:=by
 cases o with
 | lst xs=>obtain⟨_,_,_,_,e⟩:=x;exact Ar e
 | tup xs=>obtain⟨_,_,_,p⟩:=x;exact p.lt
 | dK kvs=>obtain⟨_,_,_,_,o,_,_,e,_⟩:=x;exact Ar e
 | dT kvs=>obtain⟨_,_,_,_,o,_,_,e,_⟩:=x;exact Ar e
 | set S n=>obtain⟨o,_,_,_,e,_⟩:=x;exact Ar e
 | ins C dx fs=>obtain⟨_,_,_,e,_⟩:=x;exact Ar e
 | own y=>obtain⟨_,e⟩:=x;exact Ar e
 | xd fs=>obtain⟨_,⟨_,_,_,e,_⟩,_⟩:=x;exact Ar e
 | rng lo hi=>obtain⟨_,_,_,e⟩:=x;exact Ar e
 | frz ob u=>obtain⟨e,_⟩:=x;exact Ar e
 | tbl ps=>exact Ar (show h.get? a=some _ from x)
 | met f y=>exact Ar (show h.get? a=some _ from x)
 | ext φ=>obtain⟨_,⟨_,e⟩,_⟩:=x;exact Ar e
theorem Paired.mapP {α β:Type}{F G:α->β->Prop}:∀{l₁:List α}{l₂:List β},Paired F l₁ l₂->(∀a b,F a b->G a b)->Paired G l₁ l₂
 | _,_,.nil,_=>.nil
 | _,_,.cons r t,f=>.cons (f _ _ r) (Paired.mapP t f)
theorem za4.stay (x:za4 P w H h a o) (k:∀b u,(b=a\/H b=some (.own a))->h.get? b=some u->h'.get? b=some u)
    (ho:∀b,H b=some (.own a)->H' b=some (.own a)) (ht:∀b xs,H b=some (.tup xs)->H' b=some (.tup xs)):za4 P w H' h' a o:=by
  induction o with
  | lst xs=>obtain⟨z,its,n,r,e⟩:=x;exact⟨z,its,n,r,k _ _ (.inl rfl) e⟩
  | tup xs=>obtain⟨z,its,r,ob,e,c⟩:=x;exact⟨z,its,r,ob,k _ _ (.inl rfl) e,c⟩
  | dK kvs=>obtain⟨z,y,vs,r,ob,es,ep,e,c⟩:=x;exact⟨z,y,vs,r,ob,es,ep,k _ _ (.inl rfl) e,c⟩
  | dT kvs =>
    obtain⟨z,y,xs,r,ob,es,ep,e,c⟩:=x;exact⟨z,y,xs,Paired.mapP r fun p q z=>⟨z.1,ht _ _ z.2.1,z.2.2⟩,ob,es,ep,k _ _ (.inl rfl) e,c⟩
  | set S n=>obtain⟨ob,es,ep,t,e,c⟩:=x;exact⟨ob,es,ep,t,k _ _ (.inl rfl) e,c⟩
  | ins C dx fs =>
    obtain⟨d,z,ne,e,mA,⟨od,es,ep,e2,c⟩,r⟩:=x;exact⟨ho _ d,z,ne,k _ _ (.inl rfl) e,mA,⟨od,es,ep,k _ _ (.inr d) e2,c⟩,r⟩
  | own y=>obtain⟨ob,e⟩:=x;exact⟨ob,k _ _ (.inl rfl) e⟩
  | xd fs=>obtain⟨mA,⟨od,es,ep,e,c⟩,r⟩:=x;exact⟨mA,⟨od,es,ep,k _ _ (.inl rfl) e,c⟩,r⟩
  | rng lo hi=>obtain⟨t,u,v,e⟩:=x;exact⟨t,u,v,k _ _ (.inl rfl) e⟩
  | frz ob u ih=>obtain⟨e,q⟩:=x;exact⟨k _ _ (.inl rfl) e,ih q⟩
  | tbl ps =>
    have e:h.get? a=some { cls:=.none,data:=.fields ps }:=x;show h'.get? a=some { cls:=.none,data:=.fields ps };exact k a _ (.inl rfl) e
  | met f y =>
    have e:h.get? a=some (PySem.W.methodObj (.ref f) (.ref y)):=x;show h'.get? a=some (PySem.W.methodObj (.ref f) (.ref y));exact k a _ (.inl rfl) e
  | ext φ=>obtain⟨p,⟨o,e⟩,st⟩:=x;exact⟨st _ _ p fun o q=>k _ _ (.inl rfl) q,⟨o,k _ _ (.inl rfl) e⟩,st⟩
theorem HOk.lt (x:HOk P w H h)(e:H a=some o):a < h.objs.size:=(x a o e).lt
theorem HOk.fresh (x:HOk P w H h)(e:h.objs.size<=a):H a=none:=by
 cases q:H a with
 | none=>rfl
 | some u=>exact absurd (Bd (x.lt q) e) (Cf _)
theorem HOk.kept (x:HOk P w H h)(k:∀b u,h.get? b=some u->h'.get? b=some u):HOk P w H h':=fun a o e =>
 (x a o e).stay (fun b u _ q=>k b u q) (fun _ q=>q) fun _ _ q=>q
theorem HOk.laid (x:HOk P w H h)(k:∀b u,h.get? b=some u->h'.get? b=some u)(hp:h.objs.size<=a)(new:za4 P w (upd H a o) h' a o):HOk P w (upd H a o) h':=fun b u e=>by
 have hn:=x.fresh hp;by_cases hb:b=a
 ·subst hb;rw[upd_same] at e;obtain rfl:=sI e;exact new
 ·rw[upd_ne hb] at e;exact (x b u e).stay (fun c v _ q=>k c v q) (fun c q=>by rw[upd_ne (zah q hn)];exact q) fun c xs q=>by rw[upd_ne (zah q hn)];exact q
end
noncomputable def Rd (H:Hp) (a:Addr) (u:HO):Prop:=H a=some u\/∃o,H a=some (.frz o u)
theorem Rd.ok {P:Program}{w:World}{H:Hp}{h:Heap}{a:Addr}{u:HO}(r:Rd H a u)(x:HOk P w H h):za4 P w H h a u:=by
 rcases r with r | ⟨o,r⟩
 ·exact x a u r
 ·obtain⟨_, q⟩ := x a _ r;exact q
noncomputable def Mut:Option HO->Prop
 | some (.lst _)=>True
 | some (.dK _)=>True
 | some (.dT _)=>True
 | some (.set _ _)=>True
 | some (.ins _ _ _)=>True
 | some (.ext _)=>True
 | _=>False
section
variable {P:Program}{w:World}{H:Hp}{h h' : Heap}{x e:Addr}{o' : HO}
theorem HOk.write (ok:HOk P w H h) (mu:Mut (H x)) (he:e=x\/H e=some (.own x)) (k:∀b u,b≠e->h.get? b=some u->h'.get? b=some u) (heo:∃u,h'.get? e=some u)
  (new:za4 P w (upd H x o') h' x o'):HOk P w (upd H x o') h':=fun b u q=>by
 have nown:∀c y,H c=some (.own y)->c≠x:=fun c y r z=>by subst z;rw[r] at mu;exact mu
 have ntup:∀c xs,H c=some (.tup xs)->c≠x:=fun c xs r z=>by subst z;rw[r] at mu;exact mu
 by_cases hb:b=x
 ·subst hb;rw[upd_same] at q;obtain rfl:=sI q;exact new
 ·rw[upd_ne hb] at q;by_cases hbe:b=e
  ·have q' : H b=some (.own x):=by
    rcases he with z | z
    ·exact absurd (hbe.trans z) hb
    ·rw[hbe];exact z
   rw[q] at q';obtain rfl:=sI q';obtain⟨v,hv⟩:=heo;exact⟨v,by rw[hbe];exact hv⟩
  ·refine (ok b u q).stay (fun c v hc r => k c v ?_ r) (fun c r => by rw[upd_ne (nown c b r)]; exact r) fun c xs r => by rw[upd_ne (ntup c xs r)]; exact r
   rcases hc with rfl | hc
   ·exact hbe
   ·rintro rfl;rcases he with z | z
    ·exact nown c b hc z
    ·rw[hc] at z;cases z;exact hb rfl
end
structure Un (fs ex:List Addr) (H H' : Hp) (h h' : Heap):Prop where
 keep:∀b o,h.get? b=some o->H b=none->b ∉ fs->b ∉ ex->h'.get? b=some o
 slot:∀b o,h.get? b=some o->H b=none->b∈fs->b ∉ ex->∃sl,h'.get? b=some { o with slots:=sl }
 free:∀b o,h.get? b=some o->H b=none->b ∉ ex->H' b=none
 there:∀b o,h.get? b=some o->b ∉ ex->∃o',h'.get? b=some o'
 tups:∀b xs,H b=some (.tup xs)->H' b=some (.tup xs)
 frzs:∀b o u,H b=some (.frz o u)->H' b=some (.frz o u)
 tbls:∀b ps,H b=some (.tbl ps)->∃more,H' b=some (.tbl (ps++more))
section
variable {fs fs' ex ex' : List Addr}{H H1 H2:Hp}{h h1 h2 h' : Heap}{a x e:Addr}{o:HO}
theorem Un.any (u:Un fs ex H H1 h h1){b:Addr}{ob:Obj}(q:h.get? b=some ob)(n:H b=none)(hx:b ∉ ex):∃sl,h1.get? b=some { ob with slots:=sl }:=by
 by_cases hb:b∈fs
 ·exact u.slot b ob q n hb hx
 ·exact⟨ob.slots,u.keep b ob q n hb hx⟩
theorem Un.kept (k:∀b u,h.get? b=some u->h'.get? b=some u):Un fs ex H H h h' :=
 ⟨fun b ob q _ _ _=>k b ob q,fun b ob q _ _ _=>⟨ob.slots,k b ob q⟩,fun _ _ _ n _=>n,fun b ob q _=>⟨ob,k b ob q⟩,fun _ _ q=>q,fun _ _ _ q=>q,fun _ ps q=>⟨#[],by rw[q];simp⟩⟩
theorem Un.refl:Un fs ex H H h h:=Un.kept fun _ _ q=>q
theorem Un.laid (k:∀b u,h.get? b=some u->h'.get? b=some u)(hp:h.objs.size<=a)(hn:H a=none):Un fs ex H (upd H a o) h h' where
 keep:=fun b u q _ _ _=>k b u q
 slot:=fun b u q _ _ _=>⟨u.slots,k b u q⟩
 free:=fun b u q n _=>by rw[upd_ne (Bi (Bd (Ar q) hp))];exact n
 there:=fun b u q _=>⟨u,k b u q⟩
 tups:=fun b xs q=>by rw[upd_ne (zah q hn)];exact q
 frzs:=fun b u xs q=>by rw[upd_ne (zah q hn)];exact q
 tbls:=fun b ps q=>⟨#[],by rw[upd_ne (zah q hn),q];simp⟩
theorem Un.write (mu:Mut (H x))(he:e=x\/H e=some (.own x))(k:∀b u,b≠e->h.get? b=some u->h'.get? b=some u)(heo:∃u,h'.get? e=some u):Un fs ex H (upd H x o) h h':=by
 have hx:∀b,H b=none->b≠x:=fun b n z=>by subst z;rw[n] at mu;exact mu
 have hb:∀b,H b=none->b≠e:=fun b n z=>by
  subst z;rcases he with r | r
  ·exact hx b n r
  ·rw[n] at r;cases r
 have hm:∀b u,H b=some u->¬ Mut (some u)->b≠x:=fun b u q nm z=>by subst z;rw[q] at mu;exact nm mu
 refine⟨fun b u q n _ _=>k b u (hb b n) q,fun b u q n _ _=>⟨u.slots,k b u (hb b n) q⟩,fun b u q n _=>by rw[upd_ne (hx b n)];exact n,fun b u q _=>?_,
  fun b xs q=>by rw[upd_ne (hm b _ q fun z=>z)];exact q,fun b u xs q=>by rw[upd_ne (hm b _ q fun z=>z)];exact q,fun b ps q=>⟨#[],by rw[upd_ne (hm b _ q fun z=>z),q];simp⟩⟩
 by_cases hbe:b=e
 ·subst hbe;exact heo
 ·exact⟨u,k b u hbe q⟩
end
noncomputable def trk (h:Heap) (H:Hp):List Addr:=(List.range h.objs.size).filter fun a=>(H a).isSome
noncomputable def hidT (h:Heap) (H:Hp):Heap:=PySem.W.hideAll h (trk h H)
theorem zvl (h:Heap)(H:Hp):(hidT h H).objs.size=h.objs.size:=PySem.W.hideAll_size _ _
theorem zxt {h:Heap}{H:Hp}{b:Addr}{o:Obj}(e:h.get? b=some o)(n:H b=none):(hidT h H).get? b=some o :=
 PySem.W.hideAll_get _ e fun hm=>by
  have q:(H b).isSome=true:=(Ca.mp hm).2;rw[n] at q;simp at q
theorem z2x {h:Heap}{H:Hp}{b:Addr}{o:Obj} (e:(hidT h H).get? b=some o):h.get? b=some o/\H b=none:=by
  have e' : h.get? b=some o:=PySem.W.of_hideAll (trk h H) e;refine⟨e',?_⟩;cases q:H b with
  | none=>rfl
  | some x =>
    have hm:b∈trk h H:=Ca.mpr ⟨Bj.mpr (Ar e'),by simp [q]⟩;have z:(hidT h H).get? b=none:=PySem.W.hideAll_none (trk h H) hm;rw[z] at e;cases e
structure Mod (K:PySem.W.Frag) (mg:Str->Option Value) (base:Heap):Prop where
 kin:K.In base
 glob:base.Ns mainGlobals mg
 blt:∃mb,base.Ns builtinsNs mb/\∀x:Str,x≠"__name__" -> mb x=bootBuiltins x
 nolimit:base.NoLimit
 bmn:∃(b:Addr) (ob:Obj),mg "__builtins__" = some (.ref b)/\b≠builtinsNs/\base.get? b=some ob/\ob.cls=.type "module"/\ob.dict=some builtinsNs/\ob.data=.plain
structure Cx where
 prog:Program
 w:World
 K:PySem.W.Frag
 mg:Str->Option Value
 base:Heap
 A:Around
 N:List Str
 s₀:Shared
 H₀:Hp
 env:Env
 outer:List Env
 stack:List Env
 ex:List Addr
 fn:Str->Bool
 calm:Bool
 pn:List (Addr × Obj)
 xe:Value->Shared->Prop
noncomputable def frs (l:List Env):List Addr:=l.filterMap (·.frame)
noncomputable abbrev Cx.fs (X:Cx):List Addr:=frs X.outer
noncomputable def Vis (sc:Scope) (x:Str):Prop:=sc.names.lookup x=some .local\/sc.names.lookup x=some .cell\/sc.names.lookup x=some .free
noncomputable def Loc (sc:Scope) (x:Str):Prop:=sc.names.lookup x=some .local\/sc.names.lookup x=some .cell
noncomputable def Look (env:Env) (h:Heap) (m:Str->Option Value) (x:Str) (u:Value):Prop :=
 (env.kindOf x=some .local/\m x=some u)\/((env.kindOf x=some .cell\/env.kindOf x=some .free)/\∃c,env.cells.lookup x=some c/\h.IsCell c (some u))
structure Cx.Ok (X:Cx):Prop where
 mod:Mod X.K X.mg X.base
 kind:X.env.scope.kind=.function
 glob:X.env.globals=mainGlobals
 blt:X.env.builtins=builtinsNs
 above:X.s₀.heap.objs.size<=X.env.locals
 inj:∀x y c,X.env.cells.lookup x=some c->X.env.cells.lookup y=some c->x=y
 has:∀x,(X.env.kindOf x=some .cell\/X.env.kindOf x=some .free)->∃c,X.env.cells.lookup x=some c
 cab:∀x c,X.fn x=true->X.env.cells.lookup x=some c->X.s₀.heap.objs.size<=c
 hd:X.calm=true->X.A.handled=none
 frames:X.A.frames=some X.stack
 stk:X.stack=X.outer\/(X.stack=X.env::X.outer/\X.env.frame=some X.env.locals)
 exf:∀b∈X.ex,b≠X.env.locals/\∀x c,X.env.cells.lookup x=some c->c≠b
 bs:∀b o,X.base.get? b=some o->X.s₀.heap.get? b=some o/\X.H₀ b=none
 bsz:X.base.objs.size<=X.s₀.heap.objs.size
 noex:∀b o,X.base.get? b=some o->b ∉ X.ex
 exfs:∀b∈X.ex,b ∉ X.fs
 funs:X.s₀.heap.FunFrames X.base X.outer
 frf:∀b∈X.fs,X.H₀ b=none
structure Inv (X:Cx) (pins:List (Addr × Obj)) (σ:List (Option V)) (H:Hp) (s:Shared):Prop where
 ok:X.Ok
 os:s.os=X.s₀.os
 bare:AllBare s.gens
 base:Un X.fs X.ex X.H₀ H X.s₀.heap s.heap
 loc:∃m,s.heap.Ns X.env.locals m/\∀(i:Nat) (x:Str) (v:V),X.N[i]?=some x->σ[i]?=some (some v)->Vis X.env.scope x->∃u,RelV v u/\Look X.env s.heap m x u
 cell:∀x c,X.env.cells.lookup x=some c->∃v,s.heap.IsCell c v
 free:H X.env.locals=none
 freeC:∀x c,X.env.cells.lookup x=some c->H c=none
 pin:∀p∈X.pn++pins,s.heap.get? p.1=some p.2/\H p.1=none/\p.1≠X.env.locals/\p.1 ∉ X.fs/\∀v,p.2.data≠.cell v
 hok:HOk X.prog X.w H s.heap
 len:σ.length=X.N.length
section
variable {X:Cx}{pins:List (Addr × Obj)}{σ:List (Option V)}{H H' : Hp}{s:Shared}{h' : Heap}
theorem Cx.Ok.nofr (ok:X.Ok){b:Addr}{o:Obj}(e:X.base.get? b=some o):b ∉ X.fs:=fun hb=>by
 have:=(ok.funs.mem hb).1;rw[e] at this;cases this
theorem Inv.bs (I:Inv X pins σ H s):∀b o,X.base.get? b=some o->s.heap.get? b=some o/\H b=none:=fun b o e =>
 ⟨I.base.keep b o (I.ok.bs b o e).1 (I.ok.bs b o e).2 (I.ok.nofr e) (I.ok.noex b o e),I.base.free b o (I.ok.bs b o e).1 (I.ok.bs b o e).2 (I.ok.noex b o e)⟩
theorem Inv.bk (I:Inv X pins σ H s):∀b o,X.base.get? b=some o->s.heap.get? b=some o:=fun b o e=>(I.bs b o e).1
theorem Inv.mod (I:Inv X pins σ H s):Mod X.K X.mg X.base:=I.ok.mod
theorem Inv.kIn (I:Inv X pins σ H s):X.K.In s.heap:=I.ok.mod.kin.keeps I.bk
theorem Inv.lt (I:Inv X pins σ H s):X.env.locals < s.heap.objs.size:=let ⟨_,hn,_⟩:=I.loc;hn.lt
theorem Inv.sz (I:Inv X pins σ H s):X.s₀.heap.objs.size<=s.heap.objs.size:=Cy I.ok.above (Nat.le_of_lt I.lt)
theorem Inv.nofs (I:Inv X pins σ H s){a:Addr}(h:s.heap.objs.size<=a):a ∉ X.fs:=fun hb=>by
 obtain⟨_,o,ho,_⟩:=I.ok.funs.mem hb;exact absurd (Bd (Ar ho) (Cy I.sz h)) (Cf _)
theorem Inv.cne (I:Inv X pins σ H s):∀x c,X.env.cells.lookup x=some c->c≠X.env.locals:=fun x c e z=>by
 obtain⟨v,o,ho,hd⟩:=I.cell x c e;obtain⟨m,⟨o',es,ep,ho',hd',_⟩,_⟩:=I.loc;rw[z,ho'] at ho;obtain rfl:=sI ho;rw[hd'] at hd;cases hd
theorem Inv.funs (I:Inv X pins σ H s):s.heap.FunFrames X.base X.outer:=by
  have all:∀(l:List Env),(∀b∈frs l,b∈X.fs)->X.s₀.heap.FunFrames X.base l->s.heap.FunFrames X.base l:=by
    intro l
    induction l with
    | nil=>intro _ _;trivial
    | cons env r ih =>
      intro hs hl;nofun;obtain⟨hk,⟨L,o,hf,hn,ho,hd⟩,hr⟩:=hl;ac_rfl;have hL:L∈X.fs:=hs L (by unfold frs;rw[List.filterMap_cons,hf];exact Ak);obtain⟨sl,e⟩:=I.base.slot L o ho (I.ok.frf L hL) hL fun z=>I.ok.exfs L z hL;exact⟨hk,⟨L,_,hf,hn,e,hd⟩,ih (fun b hb=>hs b (by unfold frs;rw[List.filterMap_cons,hf];exact Aj _ hb)) hr⟩
  exact all X.outer (fun _ hb=>hb) I.ok.funs
theorem Inv.stack (I:Inv X pins σ H s):s.heap.FunFrames X.base X.stack:=by
 rcases I.ok.stk with e | ⟨e,hf⟩
 ·rw[e];exact I.funs
 ·rw[e];obtain⟨m,hn,_⟩:=I.loc;refine .cons (by rw[I.ok.kind];decide) hf hn ?_ I.funs;exact Heap.get?_none_of_le (Cy I.ok.bsz I.ok.above)
theorem Inv.stkSub (I:Inv X pins σ H s):∀b∈frs X.stack,b∈X.env.locals::X.fs:=fun b hb=>by
 rcases I.ok.stk with e | ⟨e,hf⟩
 ·rw[e] at hb;exact Aj _ hb
 ·rw[e] at hb;unfold frs at hb;rw[List.filterMap_cons,hf] at hb;exact hb
theorem Inv.stkFree (I:Inv X pins σ H s):∀b∈frs X.stack,H b=none:=fun b hb=>by
 rcases Aq.mp (I.stkSub b hb) with e | hb
 ·rw[e];exact I.free
 ·obtain⟨_, o, ho, _⟩ := I.ok.funs.mem hb;exact I.base.free b o ho (I.ok.frf b hb) fun z=>I.ok.exfs b z hb
theorem Inv.step {g' : Array GenState}{t' : Nat}{d' : Drawn}{ch:List Addr} (I:Inv X pins σ H s)
  (hch:∀b∈ch,(b∈X.ex\/X.s₀.heap.objs.size<=b)/\b≠X.env.locals/\(∀x c,X.env.cells.lookup x=some c->c≠b)/\∀p∈X.pn++pins,p.1≠b)
  (keep:∀b o,b≠X.env.locals->b ∉ X.fs->b ∉ ch->s.heap.get? b=some o->H b=none->h'.get? b=some o)
  (slot:∀b o,b≠X.env.locals->b∈X.fs->b ∉ ch->s.heap.get? b=some o->H b=none->∃sl,h'.get? b=some { o with slots:=sl }) (free:∀b o,b ∉ ch->s.heap.get? b=some o->H b=none->H' b=none)
  (there:∀b o,b ∉ ch->s.heap.get? b=some o->∃o',h'.get? b=some o')
  (tups:∀b xs,H b=some (.tup xs)->H' b=some (.tup xs)) (frzs:∀b o u,H b=some (.frz o u)->H' b=some (.frz o u)) (tbls:∀b ps,H b=some (.tbl ps)->∃more,H' b=some (.tbl (ps++more)))
  (ns:∀m,s.heap.Ns X.env.locals m->h'.Ns X.env.locals m) (hok:HOk X.prog X.w H' h') (hg:AllBare g') :
  Inv X pins σ H' { s with heap:=h',gens:=g',drawn:=d',toks:=t' }:=by
 have neL:∀b o,X.s₀.heap.get? b=some o->b≠X.env.locals:=fun b o e=>Bi (Bd (Ar e) I.ok.above);have neC:∀b o,X.s₀.heap.get? b=some o->b ∉ X.ex->b ∉ ch:=fun b o e hx hb=>by
  rcases (hch b hb).1 with z | z
  ·exact hx z
  ·exact absurd (Bd (Ar e) z) (Cf _)
 have cellK:∀x c,X.env.cells.lookup x=some c->∀v,s.heap.IsCell c v->h'.IsCell c v:=fun x c e v ⟨o,ho,hd⟩=>by
  have nch:c ∉ ch:=fun z=>(hch c z).2.2.1 x c e rfl;by_cases hc:c∈X.fs
  ·obtain⟨sl, q⟩ := slot c o (I.cne x c e) hc nch ho (I.freeC x c e);exact⟨_,q,hd⟩
  ·exact⟨o,keep c o (I.cne x c e) hc nch ho (I.freeC x c e),hd⟩
 refine⟨I.ok,I.os,hg,⟨fun b o e n hb hx=>?_,fun b o e n hb hx=>?_,fun b o e n hx=>?_,fun b o e hx=>?_,fun b xs e=>tups b xs (I.base.tups b xs e),fun b o xs e=>frzs b o xs (I.base.frzs b o xs e),fun b ps e=>?_⟩,?_,fun x c e=>?_,?_,fun x c e=>?_,fun p hp=>?_,hok,I.len⟩
 ·exact keep b o (neL b o e) hb (neC b o e hx) (I.base.keep b o e n hb hx) (I.base.free b o e n hx)
 ·obtain⟨sl, e1⟩ := I.base.slot b o e n hb hx;obtain⟨sl',e2⟩:=slot b _ (neL b o e) hb (neC b o e hx) e1 (I.base.free b o e n hx);exact⟨sl',e2⟩
 ·obtain⟨o', e1⟩ := I.base.there b o e hx;exact free b o' (neC b o e hx) e1 (I.base.free b o e n hx)
 ·obtain⟨o', e1⟩ := I.base.there b o e hx;exact there b o' (neC b o e hx) e1
 ·obtain⟨m1, e1⟩ := I.base.tbls b ps e;obtain⟨m2,e2⟩:=tbls b _ e1;exact⟨m1++m2,by rw[e2,Array.append_assoc]⟩
 ·obtain⟨m, hn, hl⟩ := I.loc;refine⟨m,ns m hn,fun i x v e1 e2 e3=>?_⟩;obtain⟨u,r,l⟩:=hl i x v e1 e2 e3;refine⟨u,r,?_⟩;rcases l with l | ⟨k,c,e,z⟩
  ·exact .inl l
  ·exact .inr ⟨k,c,e,cellK x c e _ z⟩
 ·obtain⟨v, z⟩ := I.cell x c e;exact⟨v,cellK x c e v z⟩
 ·obtain⟨m, ⟨o, _, _, ho, _⟩, _⟩ := I.loc;exact free _ o (fun z=>(hch _ z).2.1 rfl) ho I.free
 ·obtain⟨v, o, ho, hd⟩ := I.cell x c e;exact free c o (fun z=>(hch c z).2.2.1 x c e rfl) ho (I.freeC x c e)
 ·obtain⟨e, n, ne, nf, d⟩ := I.pin p hp;have nch:p.1 ∉ ch:=fun z=>(hch p.1 z).2.2.2 p hp rfl;exact⟨keep p.1 p.2 ne nf nch e n,free p.1 p.2 nch e n,ne,nf,d⟩
theorem Inv.un {t' : Nat}(I:Inv X pins σ H s)(u:Un X.fs [] H H' s.heap h')(hok:HOk X.prog X.w H' h'):Inv X pins σ H' { s with heap:=h',toks:=t' }:=by
 obtain⟨m,⟨o,es,ep,ho,r⟩,_⟩:=id I.loc;obtain⟨sl,hL⟩:=u.any ho I.free (by simp);exact I.step (g':=s.gens) (d':=s.drawn) (ch:=[]) (fun _ z=>nomatch z) (fun b o _ hb _ e n=>u.keep b o e n hb (by simp)) (fun b o _ hb _ e n=>u.slot b o e n hb (by simp)) (fun b o _ e n=>u.free b o e n (by simp)) (fun b o _ e=>u.there b o e (by simp)) u.tups u.frzs u.tbls (fun m' hm=>by
  obtain⟨o',es',ep',ho',r'⟩:=hm;rw[ho] at ho';obtain rfl:=sI ho';exact⟨_,es',ep',hL,r'⟩) hok I.bare
theorem Inv.call {g' : Array GenState}{t' : Nat}{d' : Drawn}{ch:List Addr} (I:Inv X pins σ H s) (u:Un (frs X.stack) ch H H' s.heap h') (hok:HOk X.prog X.w H' h') (hg:AllBare g')
  (hch:∀b∈ch,(b∈X.ex\/X.s₀.heap.objs.size<=b)/\b≠X.env.locals/\(∀x c,X.env.cells.lookup x=some c->c≠b)/\∀p∈X.pn++pins,p.1≠b) :
  Inv X pins σ H' { s with heap:=h',gens:=g',drawn:=d',toks:=t' }:=by
 obtain⟨m,⟨o,es,ep,ho,r⟩,_⟩:=id I.loc;obtain⟨sl,hL⟩:=u.any ho I.free fun z=>(hch _ z).2.1 rfl;exact I.step (ch:=ch) hch (fun b o hL hb hc e n=>u.keep b o e n (fun z=>(Aq.mp (I.stkSub b z)).elim hL hb) hc) (fun b o _ _ hc e n=>u.any e n hc) (fun b o hc e n=>u.free b o e n hc) (fun b o hc e=>u.there b o e hc) u.tups u.frzs u.tbls (fun m' hm=>by
  obtain⟨o',es',ep',ho',r'⟩:=hm;rw[ho] at ho';obtain rfl:=sI ho';exact⟨_,es',ep',hL,r'⟩) hok hg
theorem Inv.turned {t' : Nat}{it:Addr} (I:Inv X pins σ H s) (k:∀b o,b≠it->s.heap.get? b=some o->h'.get? b=some o) (hn:H it=none) (hL:it≠X.env.locals)
  (h1:it∈X.ex\/X.s₀.heap.objs.size<=it) (h2:∀x c,X.env.cells.lookup x=some c->c≠it) (h3:∀p∈X.pn++pins,p.1≠it):Inv X pins σ H { s with heap:=h',toks:=t' }:=by
 have nit:∀b u,H b=some u->b≠it:=fun b u e z=>by rw[z,hn] at e;cases e
 refine I.step (g':=s.gens) (d':=s.drawn) (ch:=[it]) (fun b hb=>?_) (fun b o _ _ hc e _=>k b o (fun z=>hc (by simp [z])) e) (fun b o _ _ hc e _=>⟨o.slots,k b o (fun z=>hc (by simp [z])) e⟩) (fun _ _ _ _ n=>n)
  (fun b o hc e=>⟨o,k b o (fun z=>hc (by simp [z])) e⟩) (fun _ _ e=>e) (fun _ _ _ e=>e) (fun b ps e=>⟨#[],by rw[e];simp⟩) (fun m hm=>?_) (fun b u e=>?_) I.bare
 ·have e : b = it := by simpa using hb
  subst e;exact⟨h1,hL,h2,h3⟩
 ·obtain⟨o, es, ep, ho, r⟩ := hm;exact⟨o,es,ep,k _ o (Ne.symm hL) ho,r⟩
 ·refine (I.hok b u e).stay (fun c v hc q => k c v ?_ q) (fun _ q => q) fun _ _ q => q;rcases hc with z | z
  ·rw[z];exact nit b u e
  ·exact nit c _ z
theorem Inv.tok (I:Inv X pins σ H s)(t:Nat):Inv X pins σ H { s with toks:=t }:=I.un (h':=s.heap) (t':=t) Un.refl I.hok
theorem Inv.kept {t' : Nat}(I:Inv X pins σ H s)(k:∀b u,s.heap.get? b=some u->h'.get? b=some u):Inv X pins σ H { s with heap:=h',toks:=t' }:=I.un (Un.kept k) (I.hok.kept k)
theorem Inv.laid {a:Addr}{o:HO}{t' : Nat} (I:Inv X pins σ H s) (k:∀b u,s.heap.get? b=some u->h'.get? b=some u) (hp:s.heap.objs.size<=a) (new:za4 X.prog X.w (upd H a o) h' a o) :
  Inv X pins σ (upd H a o) { s with heap:=h',toks:=t' }:=I.un (Un.laid k hp (I.hok.fresh hp)) (I.hok.laid k hp new)
theorem Inv.write {x e:Addr}{o:HO}{t' : Nat} (I:Inv X pins σ H s) (mu:Mut (H x)) (he:e=x\/H e=some (.own x)) (k:∀b u,b≠e->s.heap.get? b=some u->h'.get? b=some u) (heo:∃u,h'.get? e=some u)
  (new:za4 X.prog X.w (upd H x o) h' x o):Inv X pins σ (upd H x o) { s with heap:=h',toks:=t' }:=I.un (Un.write mu he k heo) (I.hok.write mu he k heo new)
theorem Inv.pins_of {pins' : List (Addr × Obj)}(I:Inv X pins σ H s)(h:∀p∈pins',s.heap.get? p.1=some p.2/\H p.1=none/\p.1≠X.env.locals/\p.1 ∉ X.fs/\∀v,p.2.data≠.cell v):Inv X pins' σ H s :=
 ⟨I.ok,I.os,I.bare,I.base,I.loc,I.cell,I.free,I.freeC,fun p hp=>(Ba.mp hp).elim (fun z=>I.pin p (Br _ z)) (h p),I.hok,I.len⟩
theorem zpf {N:List Str}(hN:N.Nodup){i j:Nat}{x:Str}(a:N[i]?=some x)(b:N[j]?=some x):i=j:=by
 obtain⟨h1,e1⟩:=An.mp a;obtain⟨h2,e2⟩:=An.mp b;exact (List.getElem_inj hN).mp (e1.trans e2.symm)
theorem zkp {M:Model}{A:Around}{E:Value->Shared->Prop}{i:Nat}{x:Str}{v:V}{u:Value}{Q:Unit->Shared->Prop} (I:Inv X pins σ H s) (hN:X.N.Nodup) (hi:X.N[i]?=some x) (hx:Loc X.env.scope x) (r:RelV v u)
  (h:∀s',Inv X pins (σ.set i (some v)) H s'->(∃a,Heap.SameBut a s.heap s'.heap/\(a=X.env.locals\/X.env.cells.lookup x=some a))->Q () s') (hf:X.fn x=true\/X.env.scope.names.lookup x=some .local:=by first | exact .inl rfl | exact .inr rfl | assumption):wpAny M A (storeName X.env x u) Q E s:=by
 obtain⟨m,hn,hl⟩:=id I.loc;have hcls:(X.env.scope.kind == .class || (X.env.scope.kind == .module && X.env.locals != X.env.globals))=false:=by rw[I.ok.kind];rfl
 have hiσ:i < σ.length:=by rw[I.len];exact (An.mp hi).1
 have cne:=I.cne;have tracked:∀{a:Addr}{h' : Heap},(∃o,s.heap.get? a=some o/\H a=none)->Heap.SameBut a s.heap h'->HOk X.prog X.w H h':=fun {a h'} ha hs b ob e=>by
  obtain⟨_,_,hfree⟩:=ha;refine (I.hok b ob e).stay (fun c w' hc q=>(hs.2 c ?_).trans q) (fun _ q=>q) fun _ _ q=>q;rintro rfl;rcases hc with rfl | hc
  ·rw[hfree] at e;cases e
  ·rw[hfree] at hc;cases hc
 rcases hx with hk | hk
 ·refine wpAny_storeName_local hk hn (fun h' hn' hs => ?_) hcls;obtain⟨oL,_,_,hoL,_⟩:=id hn;refine h _ ⟨I.ok,I.os,I.bare,⟨fun b o e n hb hx=>?_,fun b o e n hb hx=>?_,I.base.free,fun b o e hx=>?_,I.base.tups,I.base.frzs,I.base.tbls⟩,⟨_,hn',fun j y v' e1 e2 e3=>?_⟩,fun y c e=>?_,I.free,I.freeC,fun p hp=>?_,tracked ⟨oL,hoL,I.free⟩ hs,by simpa using I.len⟩ ⟨_,hs,.inl rfl⟩
  ·exact (hs.2 b (Bi (Bd (Ar e) I.ok.above))).trans (I.base.keep b o e n hb hx)
  ·obtain⟨sl, e1⟩ := I.base.slot b o e n hb hx;exact⟨sl,(hs.2 b (Bi (Bd (Ar e) I.ok.above))).trans e1⟩
  ·obtain⟨o', e1⟩ := I.base.there b o e hx;exact⟨o',(hs.2 b (Bi (Bd (Ar e) I.ok.above))).trans e1⟩
  ·by_cases hj : j = i
   ·subst hj;rw[hi] at e1;obtain rfl:=sI e1;rw[Dn hiσ] at e2;cases e2;exact⟨u,r,.inl ⟨hk,by simp⟩⟩
   ·rw[Di (Ne.symm hj)] at e2;obtain⟨u',r',q⟩:=hl j y v' e1 e2 e3;refine⟨u',r',?_⟩;rcases q with ⟨k,e⟩ | ⟨k,c,e,z⟩
    ·refine .inl ⟨k, ?_⟩;have:y≠x:=fun e=>hj (zpf hN e1 (e ▸ hi));simp [this,e]
    ·exact .inr ⟨k,c,e,z.sameBut hs (cne y c e)⟩
  ·obtain⟨w', z⟩ := I.cell y c e;exact⟨w',z.sameBut hs (cne y c e)⟩
  ·obtain⟨e, n, ne, nf, d⟩ := I.pin p hp;exact⟨(hs.2 p.1 ne).trans e,n,ne,nf,d⟩
 ·have hfn:X.fn x=true:=by
   rcases hf with z | z
   ·exact z
   ·rw[z] at hk;cases hk
  obtain⟨c,hc⟩:=I.ok.has x (.inl hk);obtain⟨w',z⟩:=I.cell x c hc;refine wpAny_storeName_cell I.ok.kind hk hc z (fun h' hc' hs=>?_);obtain⟨oc,hoc,hocd⟩:=id z;refine h { s with heap:=h' } ⟨I.ok,I.os,I.bare,⟨fun b o e n hb hx=>?_,fun b o e n hb hx=>?_,I.base.free,fun b o e hx=>?_,I.base.tups,I.base.frzs,I.base.tbls⟩,⟨m,hn.sameBut hs (Ne.symm (cne x c hc)),fun j y v' e1 e2 e3=>?_⟩,fun y c' e=>?_,I.free,I.freeC,fun p hp=>?_,tracked ⟨oc,hoc,I.freeC x c hc⟩ hs,by simpa using I.len⟩ ⟨c,hs,.inr hc⟩
  ·exact (hs.2 b (Bi (Bd (Ar e) (I.ok.cab x c hfn hc)))).trans (I.base.keep b o e n hb hx)
  ·obtain⟨sl, e1⟩ := I.base.slot b o e n hb hx;exact⟨sl,(hs.2 b (Bi (Bd (Ar e) (I.ok.cab x c hfn hc)))).trans e1⟩
  ·obtain⟨o', e1⟩ := I.base.there b o e hx;exact⟨o',(hs.2 b (Bi (Bd (Ar e) (I.ok.cab x c hfn hc)))).trans e1⟩
  ·by_cases hj : j = i
   ·subst hj;rw[hi] at e1;obtain rfl:=sI e1;rw[Dn hiσ] at e2;cases e2;exact⟨u,r,.inr ⟨.inl hk,c,hc,hc'⟩⟩
   ·rw[Di (Ne.symm hj)] at e2;obtain⟨u',r',q⟩:=hl j y v' e1 e2 e3;refine⟨u',r',?_⟩;rcases q with q | ⟨k,c',e,z'⟩
    ·exact .inl q
    ·refine .inr ⟨k, c', e, z'.sameBut hs ?_⟩;rintro rfl;exact hj (zpf hN e1 (I.ok.inj _ _ _ e hc ▸ hi))
  ·by_cases hcc : c' = c
   ·subst hcc;exact⟨_,hc'⟩
   ·obtain⟨w2, z2⟩ := I.cell y c' e;exact⟨w2,z2.sameBut hs hcc⟩
  ·obtain⟨e, n, ne, nf, d⟩ := I.pin p hp;refine⟨(hs.2 p.1 ?_).trans e,n,ne,nf,d⟩;intro q;rw[q,hoc] at e;have q' : oc=p.2:=sI e;exact d w' (by rw[<-q'];exact hocd)
theorem ziu {M:Model}{A:Around}{E:Value->Shared->Prop}{i:Nat}{x:Str}{v:V}{u:Value}{Q:Unit->Shared->Prop} (I:Inv X pins σ H s) (hN:X.N.Nodup) (hi:X.N[i]?=some x) (hx:Loc X.env.scope x) (r:RelV v u)
  (h:∀s',Inv X pins (σ.set i (some v)) H s'->Q () s') (hf:X.fn x=true\/X.env.scope.names.lookup x=some .local:=by first | exact .inl rfl | exact .inr rfl | assumption):wpAny M A (storeName X.env x u) Q E s :=
 zkp I hN hi hx r (fun s' I' _=>h s' I') hf
theorem Inv.call' {s' : Shared}{ch:List Addr} (I:Inv X pins σ H s) (ho:s'.os=s.os) (u:Un (frs X.stack) ch H H' s.heap s'.heap) (hok:HOk X.prog X.w H' s'.heap) (hg:AllBare s'.gens)
  (hch:∀b∈ch,(b∈X.ex\/X.s₀.heap.objs.size<=b)/\b≠X.env.locals/\(∀x c,X.env.cells.lookup x=some c->c≠b)/\∀p∈X.pn++pins,p.1≠b):Inv X pins σ H' s':=by
 obtain⟨h',g',d',t',o'⟩:=s';have e:o'=s.os:=ho;subst e;exact I.call (g':=g') (t':=t') (d':=d') u hok hg hch
end
noncomputable abbrev XK:=Value->Option Addr->Hp->Prop
noncomputable abbrev St:=List (Option V)
noncomputable abbrev VK:=V->Hp->Prop
noncomputable abbrev TE:=St->Hp->VK->Prop
noncomputable abbrev TT:=St->Hp->(Bool->Hp->Prop)->Prop
noncomputable abbrev TA:=St->Hp->(List V->Hp->Prop)->Prop
structure Ends where
 nx:St->Hp->Prop
 rt:VK
 bk:St->Hp->Prop:=fun _ _=>False
 ct:St->Hp->Prop:=fun _ _=>False
noncomputable abbrev TS:=Ends->St->Hp->Prop
noncomputable def EP (X:Cx) (pins:List (Addr × Obj)) (σ:St) (Q:VK) (u:Value) (s' : Shared):Prop:=∃v H',Inv X pins σ H' s'/\RelV v u/\Q v H'
noncomputable def TP (X:Cx) (pins:List (Addr × Obj)) (σ:St) (Q:Bool->Hp->Prop) (b:Bool) (s' : Shared):Prop:=∃H',Inv X pins σ H' s'/\Q b H'
noncomputable def AP (X:Cx) (pins:List (Addr × Obj)) (σ:St) (Q:List V->Hp->Prop) (us:List Value) (s' : Shared):Prop:=∃vs H',Inv X pins σ H' s'/\Vals vs us/\Q vs H'
noncomputable def SP (X:Cx) (pins:List (Addr × Obj)) (D:Ends) (f:Flow) (s' : Shared):Prop :=
 match f with
 | .next=>∃σ' H',Inv X pins σ' H' s'/\D.nx σ' H'
 | .brk=>∃σ' H',Inv X pins σ' H' s'/\D.bk σ' H'
 | .cont=>∃σ' H',Inv X pins σ' H' s'/\D.ct σ' H'
 | .ret u=>∃v σ' H',Inv X pins σ' H' s'/\RelV v u/\D.rt v H'
noncomputable def PE (X:Cx) (e:Expr) (t:TE):Prop :=
 ∀(pins:List (Addr × Obj)) (s:Shared) (σ:St) (H:Hp) (Q:VK),Inv X pins σ H s->t σ H Q->wpAny (model X.prog X.w) X.A (eval e X.env) (EP X pins σ Q) X.xe s
noncomputable def PT (X:Cx) (e:Expr) (t:TT):Prop :=
 ∀(pins:List (Addr × Obj)) (s:Shared) (σ:St) (H:Hp) (Q:Bool->Hp->Prop),Inv X pins σ H s->t σ H Q->wpAny (model X.prog X.w) X.A (isTrue e X.env (eval e X.env)) (TP X pins σ Q) X.xe s
noncomputable def PW (X:Cx) (e:Expr) (t:TT):Prop :=
 ∀(whole:Sem Value) (pins:List (Addr × Obj)) (s:Shared) (σ:St) (H:Hp) (Q:Bool->Hp->Prop),Inv X pins σ H s->t σ H Q->wpAny (model X.prog X.w) X.A (isTrue e X.env whole) (TP X pins σ Q) X.xe s
theorem PW.pt {X:Cx}{e:Expr}{t:TT}(h:PW X e t):PT X e t:=h _
noncomputable def PA (X:Cx) (es:List Expr) (t:TA):Prop :=
 ∀(pos:Pos) (pins:List (Addr × Obj)) (s:Shared) (σ:St) (H:Hp) (Q:List V->Hp->Prop),Inv X pins σ H s->t σ H Q->wpAny (model X.prog X.w) X.A (spliced (backTo pos (starEach es X.env))) (AP X pins σ Q) X.xe s
noncomputable def PS (X:Cx) (st:Stmt) (t:TS):Prop :=
 ∀(pins:List (Addr × Obj)) (s:Shared) (σ:St) (H:Hp) (D:Ends),Inv X pins σ H s->t D σ H->wpAny (model X.prog X.w) X.A (exec st X.env) (SP X pins D) X.xe s
noncomputable def PSs (X:Cx) (st:List Stmt) (t:TS):Prop :=
 ∀(pins:List (Addr × Obj)) (s:Shared) (σ:St) (H:Hp) (D:Ends),Inv X pins σ H s->t D σ H->wpAny (model X.prog X.w) X.A (execs st X.env) (SP X pins D) X.xe s
theorem thn {α:Type}{t:Sem α}{Q Q' : α->Shared->Prop}{M:Model}{A:Around}{E:Value->Shared->Prop}{s:Shared}(h:wpAny M A t Q E s)(hQ:∀a s,Q a s->Q' a s):wpAny M A t Q' E s:=Ei h hQ fun _ _ x=>x
section
variable {X:Cx}
noncomputable def tVar (i:Nat):TE:=fun σ H Q=>∃v,σ[i]?=some (some v)/\Q v H
noncomputable def tC (v:V):TE:=fun _ H Q=>Q v H
theorem zt3 {i:Nat}{x:Str}{pos:Pos}(hN:X.N[i]?=some x)(hv:Vis X.env.scope x)(hd:(x == ("__debug__" : Str))=false:=by decide)(hcd:(x == ("__classdict__" : Str))=false:=by decide):PE X (.Name x pos) (tVar i):=by
 intro pins s σ H Q I h;nofun;obtain⟨v,e,h⟩:=h;obtain⟨m,hn,hl⟩:=I.loc;obtain⟨u,r,l⟩:=hl i x v hN e hv;ac_rfl;have fin:EP X pins σ Q u s:=⟨v,H,I,r,h⟩;rcases l with ⟨hk,hm⟩ | ⟨hk,c,hc,hcell⟩
 ·exact wpAny_Name (wpAny_loadName_local I.ok.kind hk hn hm fin) hd
 ·rcases hk with hk | hk
  ·exact wpAny_Name (wpAny_loadName_cell I.ok.kind hk hc hcell fin) hd
  ·exact wpAny_Name (wpAny_loadName_free I.ok.kind hk hc hcell fin hcd) hd
theorem z60 {i j pos}:PE X (.Constant (.int i) j pos) (tC (.int i)):=fun _ _ _ H _ I h=>wpAny_Constant_int ⟨.int i,H,I.tok _,⟨_,rfl⟩,h⟩
theorem z44 {b j pos}:PE X (.Constant (.bool b) j pos) (tC (.bl b)):=fun _ _ _ H _ I h=>Constant_bool ⟨.bl b,H,I,rfl,h⟩
theorem z83 {j pos}:PE X (.Constant .none j pos) (tC .non):=fun _ _ _ H _ I h=>Constant_none ⟨.non,H,I,rfl,h⟩
theorem z73 {x j pos}:PE X (.Constant (.str x) j pos) (tC (.str x)):=fun _ _ _ H _ I h=>Calls.Constant_str ⟨.str x,H,I.tok _,⟨_,rfl⟩,h⟩
noncomputable def Gl (X:Cx) (x:Str):Prop:=X.env.kindOf x=some .globalImplicit
theorem z26 {E:Value->Shared->Prop}{pins:List (Addr × Obj)}{s:Shared}{σ:St}{H:Hp}{x:Str}{u:Value}{pos:Pos}{Q:Value->Shared->Prop} (I:Inv X pins σ H s) (hg:Gl X x) (hm:X.mg x=some u) (h:Q u s)
  (hd:(x == ("__debug__" : Str))=false:=by decide):wpAny (model X.prog X.w) X.A (eval (.Name x pos) X.env) Q E s :=
 Calls.Name_function_global I.ok.kind hg (Calls.loadGlobal_global (by rw[I.ok.glob];exact I.mod.glob.keeps I.bk) hm h) hd
theorem ze8 {E:Value->Shared->Prop}{pins:List (Addr × Obj)}{s:Shared}{σ:St}{H:Hp}{x:Str}{u:Value}{pos:Pos}{Q:Value->Shared->Prop} (I:Inv X pins σ H s) (hg:Gl X x) (hm:X.mg x=none) (hv:bootBuiltins x=some u) (h:Q u s)
  (hn:x≠"__name__" := by decide) (hd:(x == ("__debug__" : Str))=false:=by decide):wpAny (model X.prog X.w) X.A (eval (.Name x pos) X.env) Q E s:=by
 obtain⟨mb,h1,h2⟩:=I.mod.blt;exact Calls.Name_function_global I.ok.kind hg (Calls.loadGlobal_builtin (by rw[I.ok.glob];exact I.mod.glob.keeps I.bk) hm (by rw[I.ok.blt];exact h1.keeps I.bk) ((h2 x hn).trans hv) h) hd
theorem z3q {x:Str}{v:V}{u:Value}{pos:Pos}(hg:Gl X x)(hm:X.mg x=none)(hv:bootBuiltins x=some u)(r:RelV v u)(hn:x≠"__name__" := by decide)(hd:(x == ("__debug__" : Str))=false:=by decide):PE X (.Name x pos) (tC v) :=
 fun _ _ _ H _ I h=>ze8 I hg hm hv ⟨v,H,I,r,h⟩ hn hd
variable {a b:Expr}{ta tb:TE}{pos:Pos}
noncomputable def tB (t:TE):TT:=fun σ H Q=>t σ H fun x H1=>∃c,x=.bl c/\Q c H1
theorem z4r {e:Expr}{t:TE}(h:PE X e t)(he:∀whole,isTrue e X.env whole=(do let v <- whole;standAt e.pos;holding [v] (truthy v)):=by intro _;rfl):PT X e (tB t):=by
 intro pins s σ H Q I hw;refine isTrue_plain (thn (h pins s σ H _ I hw) fun v s1 ⟨x,H1,I1,r1,q1⟩=>?_) (he _);obtain⟨d,rfl,q⟩:=q1;cases r1;exact Do ⟨H1,I1,q⟩
variable {tA tB' : TT}{rest:List Expr}
noncomputable def tAnd (t u:TT):TT:=fun σ H Q=>t σ H fun c H1=>if c=true then u σ H1 Q else Q false H1
noncomputable def tOr (t u:TT):TT:=fun σ H Q=>t σ H fun c H1=>if c=true then Q true H1 else u σ H1 Q
noncomputable def tNot (t:TT):TT:=fun σ H Q=>t σ H fun c H1=>Q (!c) H1
theorem z1n (ha:PT X a tA):PW X (.BoolOp .And [a] pos) tA:=by
 intro wh pins s σ H Q I h;refine isTrue_and (thn (ha pins s σ H Q I h) fun c s1 e=>?_);cases c with
 | true=>exact isTrue_and_nil e
 | false=>exact e
theorem z4p (ha:PT X a tA):PW X (.BoolOp .Or [a] pos) tA:=by
 intro wh pins s σ H Q I h;refine isTrue_or (thn (ha pins s σ H Q I h) fun c s1 e=>?_);cases c with
 | false=>exact isTrue_or_nil e
 | true=>exact e
theorem z6e (ha:PT X a tA)(hb:PW X (.BoolOp .And (b::rest) pos) tB'):PW X (.BoolOp .And (a::b::rest) pos) (tAnd tA tB'):=by
 intro wh pins s σ H Q I h;refine isTrue_and (thn (ha pins s σ H _ I h) fun c s1 ⟨H1,I1,q1⟩=>?_);cases c with
 | true=>exact hb wh pins s1 σ H1 Q I1 q1
 | false=>exact⟨H1,I1,q1⟩
theorem ya8 (ha:PT X a tA)(hb:PW X (.BoolOp .Or (b::rest) pos) tB'):PW X (.BoolOp .Or (a::b::rest) pos) (tOr tA tB'):=by
 intro wh pins s σ H Q I h;refine isTrue_or (thn (ha pins s σ H _ I h) fun c s1 ⟨H1,I1,q1⟩=>?_);cases c with
 | true=>exact⟨H1,I1,q1⟩
 | false=>exact hb wh pins s1 σ H1 Q I1 q1
theorem z7k (ha:PT X a tA):PT X (.UnaryOp .Not a pos) (tNot tA):=by
 intro pins s σ H Q I h;exact isTrue_not (ha pins s σ H (fun c H1=>Q (!c) H1) I h)
noncomputable def z5e (ta tb:TE):TE:=fun σ H Q=>ta σ H fun x H1=>∃c,x=.bl c/\if c=true then tb σ H1 Q else Q (.bl false) H1
noncomputable def z6w (ta:TE):TE:=fun σ H Q=>ta σ H fun x H1=>∃c,x=.bl c/\Q (.bl (!c)) H1
theorem z8c {op}{t:TE}(h:PE X a t):PE X (.BoolOp op [a] pos) t:=fun pins s σ H Q I hw=>BoolOp_one (h pins s σ H Q I hw)
theorem z56 (ha:PE X a ta)(hb:PE X (.BoolOp .And (b::rest) pos) tb):PE X (.BoolOp .And (a::b::rest) pos) (z5e ta tb):=by
 intro pins s σ H Q I h;refine BoolOp_and (thn (ha pins s σ H _ I h) fun v s1 ⟨x,H1,I1,r1,q1⟩=>?_);obtain⟨c,rfl,q1⟩:=q1;cases r1;refine Do ?_;cases c with
 | true=>exact hb pins s1 σ H1 Q I1 q1
 | false=>exact⟨.bl false,H1,I1,rfl,q1⟩
theorem z72 (ha:PE X a ta):PE X (.UnaryOp .Not a pos) (z6w ta):=by
 intro pins s σ H Q I h;refine UnaryOp_ (thn (ha pins s σ H _ I h) fun v s1 ⟨x,H1,I1,r1,q1⟩=>?_);obtain⟨c,rfl,q1⟩:=q1;cases r1;exact not_of (Do ⟨.bl (!c),H1,I1,rfl,q1⟩)
end
noncomputable def SqL (K:PySem.W.Frag) (H:Hp) (a:Addr) (xs:List V):Prop :=
 Rd H a (.lst xs) \/
  ∃(o:Obj) (its:Array Value) (n:Nat),K.lookup a=some o/\o.cls=.type "list"/\o.dict=none/\o.data=.seq its n/\its.size<=sizeLine/\Vals xs its.toList
noncomputable def SqT (K:PySem.W.Frag) (H:Hp) (a:Addr) (xs:List V):Prop :=
 Rd H a (.tup xs) \/
  ∃(o:Obj) (its:Array Value) (n:Nat),K.lookup a=some o/\o.cls=.type "tuple"/\o.data=.seq its n/\its.size<=sizeLine/\Vals xs its.toList
noncomputable def absV:Value->Option V
 | .none=>some .non
 | .bool b=>some (.bl b)
 | .int i _=>some (.int i)
 | .str x _=>some (.str x)
 | .bytes b _=>some (.byt b)
 | .float b _=>some (.flt b)
 | .ref a=>some (.ref a)
 | .type n=>some (.ty n)
 | _=>none
theorem RelV.abs {x:V}{u:Value}(r:RelV x u):absV u=some x:=by
 cases x with
 | non=>cases r;rfl
 | bl _=>cases r;rfl
 | int _=>obtain⟨t,rfl⟩:=r;rfl
 | str _=>obtain⟨t,rfl⟩:=r;rfl
 | byt _=>obtain⟨t,rfl⟩:=r;rfl
 | flt _=>obtain⟨t,rfl⟩:=r;rfl
 | ref _=>cases r;rfl
 | ty _=>cases r;rfl
theorem RelV.inj {x y:V}{u:Value}(r:RelV x u)(q:RelV y u):x=y:=sI (r.abs.symm.trans q.abs)
theorem Vals.inj:∀{xs ys:List V}{us:List Value},Vals xs us->Vals ys us->xs=ys
 | _,_,_,.nil,.nil=>rfl
 | _,_,_,.cons r t,.cons r' t'=>by rw[r.inj r',Vals.inj t t']
section
variable {X:Cx}{pins:List (Addr × Obj)}{σ:St}{H:Hp}{s:Shared}{a:Addr}{xs ys:List V}
theorem Inv.list (I:Inv X pins σ H s)(h:SqL X.K H a xs):∃its:List Value,Vals xs its/\PlainL s.heap a its.toArray/\xs.length<=sizeLine:=by
 rcases h with h | ⟨o,its,n,hk,hc,hd,hs,hz,r⟩
 ·obtain⟨z, its, n, r, e⟩ := h.ok I.hok;exact⟨its,r,⟨_,n,e,rfl,rfl,rfl⟩,z⟩
 ·refine⟨its.toList, r, ⟨o, n, I.kIn a o hk, hc, hd, by simpa using hs⟩, ?_⟩;have e:=r.length;simp only [Cs] at e;omega
theorem Inv.tuple (I:Inv X pins σ H s)(h:SqT X.K H a xs):∃its:List Value,Vals xs its/\IsTup s.heap a its.toArray/\xs.length<=sizeLine:=by
 rcases h with h | ⟨o,its,n,hk,hc,hs,hz,r⟩
 ·obtain⟨z, its, r, p⟩ := h.ok I.hok;exact⟨its,r,p,z⟩
 ·refine⟨its.toList, r, ⟨o, I.kIn a o hk, hc, n, by simpa using hs⟩, ?_⟩;have e:=r.length;simp only [Cs] at e;omega
theorem Inv.list_inj (I:Inv X pins σ H s)(h:SqL X.K H a xs)(h' : SqL X.K H a ys):xs=ys:=by
 obtain⟨its,r,⟨o,n,e,_,_,d⟩,_⟩:=I.list h;obtain⟨its',r',⟨o',n',e',_,_,d'⟩,_⟩:=I.list h';rw[e] at e';obtain rfl:=sI e';rw[d] at d';injection d' with d1 _;have:its=its':=by simpa using congrArg Array.toList d1
 subst this;exact r.inj r'
theorem Inv.tuple_inj (I:Inv X pins σ H s)(h:SqT X.K H a xs)(h' : SqT X.K H a ys):xs=ys:=by
 obtain⟨its,r,⟨o,e,_,n,d⟩,_⟩:=I.tuple h;obtain⟨its',r',⟨o',e',_,n',d'⟩,_⟩:=I.tuple h';rw[e] at e';obtain rfl:=sI e';rw[d] at d';injection d' with d1 _;have:its=its':=by simpa using congrArg Array.toList d1
 subst this;exact r.inj r'
end
noncomputable abbrev Cx.wish (X:Cx) (E:Value->Shared->Prop):Cx:={ X with xe:=E }
noncomputable abbrev Cx.nox (X:Cx):Cx:=X.wish fun _ _=>False
theorem Cx.Ok.wish {X:Cx}(ok:X.Ok)(E:Value->Shared->Prop):(X.wish E).Ok :=
 ⟨ok.mod,ok.kind,ok.glob,ok.blt,ok.above,ok.inj,ok.has,ok.cab,ok.hd,ok.frames,ok.stk,ok.exf,ok.bs,ok.bsz,ok.noex,ok.exfs,ok.funs,ok.frf⟩
theorem Cx.Ok.unwish {X:Cx}{E:Value->Shared->Prop}(ok:(X.wish E).Ok):X.Ok :=
 ⟨ok.mod,ok.kind,ok.glob,ok.blt,ok.above,ok.inj,ok.has,ok.cab,ok.hd,ok.frames,ok.stk,ok.exf,ok.bs,ok.bsz,ok.noex,ok.exfs,ok.funs,ok.frf⟩
section
variable {X:Cx}{pins:List (Addr × Obj)}{σ:St}{H:Hp}{s:Shared}{E:Value->Shared->Prop}
theorem Inv.wish (I:Inv X pins σ H s)(E:Value->Shared->Prop):Inv (X.wish E) pins σ H s:=⟨I.ok.wish E,I.os,I.bare,I.base,I.loc,I.cell,I.free,I.freeC,I.pin,I.hok,I.len⟩
theorem Inv.unwish (I:Inv (X.wish E) pins σ H s):Inv X pins σ H s:=⟨I.ok.unwish,I.os,I.bare,I.base,I.loc,I.cell,I.free,I.freeC,I.pin,I.hok,I.len⟩
theorem SP.unwish {D:Ends}{f:Flow}{s' : Shared}(h:SP (X.wish E) pins D f s'):SP X pins D f s':=by
 cases f with
 | next=>obtain⟨σ',H',I,q⟩:=h;exact⟨σ',H',I.unwish,q⟩
 | brk=>obtain⟨σ',H',I,q⟩:=h;exact⟨σ',H',I.unwish,q⟩
 | cont=>obtain⟨σ',H',I,q⟩:=h;exact⟨σ',H',I.unwish,q⟩
 | ret u=>obtain⟨v,σ',H',I,r,q⟩:=h;exact⟨v,σ',H',I.unwish,r,q⟩
theorem PSs.nox {st:List Stmt}{t:TS}(h:PSs X.nox st t):PSs X st t:=fun pins s σ H D I hw =>
 Ei (h pins s σ H D (I.wish _) hw) (fun _ _ q=>q.unwish) fun _ _ z=>False.elim z
end
section
variable {X:Cx}{st:Stmt}{rest:List Stmt}{t u:TS}{e:Expr}{te:TE}{pos:Pos}
noncomputable def z00:TS:=fun D σ H=>D.nx σ H
noncomputable def tSeq (t u:TS):TS:=fun D σ H=>t { D with nx:=u D } σ H
theorem z2f:PSs X [] z00:=fun _ _ σ H _ I h=>wpAny_execs_nil ⟨σ,H,I,h⟩
theorem zzc (h1:PS X st t) (h2:PSs X rest u):PSs X (st::rest) (tSeq t u):=by
  intro pins s σ H D I h;refine wpAny_execs_cons (thn (h1 pins s σ H { D with nx:=u D } I h) fun f s1 q=>?_);cases f with
  | next =>
    obtain⟨σ',H',I',q⟩:=q;exact h2 pins s1 σ' H' D I' q
  | ret v=>exact q
  | brk=>exact q
  | cont=>exact q
theorem z1m (h1:PS X st t):PSs X [st] t:=by
 intro pins s σ H D I h;refine wpAny_execs_cons (thn (h1 pins s σ H D I h) fun f s1 q=>?_);cases f with
 | next=>exact wpAny_execs_nil q
 | ret v=>exact q
 | brk=>exact q
 | cont=>exact q
theorem z1g:PS X (.Pass pos) z00:=fun _ _ σ H _ I h=>wpAny_Pass ⟨σ,H,I,h⟩
theorem Inv.quiet {pins:List (Addr × Obj)}{σ:St}{H:Hp}{s:Shared}(I:Inv X pins σ H s):interactive X.env=false:=by simp [interactive,I.ok.kind]
noncomputable def z5a (te:TE):TS:=fun D σ H=>te σ H fun _ H1=>D.nx σ H1
theorem z1i (he:PE X e te)(hs:swapsWith e none pos.line X.env=pure false:=by rfl):PS X (.Expr e pos) (z5a te):=by
 intro pins s σ H D I h;exact wpAny_Expr_any (thn (he pins s σ H _ I h) fun v s1 ⟨x,H1,I1,r1,q1⟩=>⟨σ,H1,I1,q1⟩) I.quiet hs
noncomputable def tRet (te:TE):TS:=fun D σ H=>te σ H D.rt
theorem z0c (he:PE X e te):PS X (.Return (some e) pos) (tRet te):=by
 intro pins s σ H D I h;exact wpAny_Return_some (thn (he pins s σ H _ I h) fun v s1 ⟨x,H1,I1,r1,q1⟩=>⟨x,σ,H1,I1,r1,q1⟩)
noncomputable def tIfS (c:TT) (t u:TS):TS:=fun D σ H=>c σ H fun b H1=>if b=true then t D σ H1 else u D σ H1
theorem yaw {c:Expr}{a b:List Stmt}{tc:TT}(hc:PT X c tc)(ha:PSs X a t)(hb:PSs X b u):PS X (.If c a b pos) (tIfS tc t u):=by
 intro pins s σ H D I h;refine wpAny_If (thn (hc pins s σ H _ I h) fun d s1 ⟨H1,I1,q1⟩=>?_);cases d with
 | true=>exact ha pins s1 σ H1 D I1 q1
 | false=>exact hb pins s1 σ H1 D I1 q1
end
noncomputable abbrev TG:=V->St->Hp->(St->Hp->Prop)->Prop
noncomputable abbrev TGs:=List V->St->Hp->(St->Hp->Prop)->Prop
noncomputable def PG (X:Cx) (target:Expr) (t:TG):Prop :=
  ∀(pins:List (Addr × Obj)) (s:Shared) (σ:St) (H:Hp) (v:V) (u:Value) (Q:St->Hp->Prop),Inv X pins σ H s->RelV v u->t v σ H Q ->
    wpAny (model X.prog X.w) X.A (assign target X.env u) (fun _ s'=>∃σ' H',Inv X pins σ' H' s'/\Q σ' H') X.xe s
noncomputable def PGs (X:Cx) (ts:List Expr) (t:TGs):Prop :=
  ∀(pins:List (Addr × Obj)) (s:Shared) (σ:St) (H:Hp) (vs:List V) (us:List Value) (Q:St->Hp->Prop),Inv X pins σ H s->Vals vs us->t vs σ H Q ->
    wpAny (model X.prog X.w) X.A (assignInOrder ((assignEach ts X.env).map (·.2)) us) (fun _ s'=>∃σ' H',Inv X pins σ' H' s'/\Q σ' H') X.xe s
noncomputable abbrev TSet:=V->V->V->Hp->(Hp->Prop)->Prop
noncomputable def PSet (X:Cx) (t:TSet):Prop :=
  ∀(pins:List (Addr × Obj)) (s:Shared) (σ:St) (H:Hp) (o i v:V) (ov iv u:Value) (Q:Hp->Prop),Inv X pins σ H s->RelV o ov->RelV i iv->RelV v u->t o i v H Q ->
    wpAny (model X.prog X.w) X.A (setItem ov iv u) (fun _ s'=>∃H',Inv X pins σ H' s'/\Q H') X.xe s
noncomputable abbrev TIp:=V->V->Hp->VK->Prop
noncomputable def PIp (X:Cx) (op:Operator) (t:TIp):Prop :=
  ∀(pins:List (Addr × Obj)) (s:Shared) (σ:St) (H:Hp) (x y:V) (v u:Value) (Q:VK),Inv X pins σ H s->RelV x v->RelV y u->t x y H Q ->
    wpAny (model X.prog X.w) X.A (inplaceOp op v u) (EP X pins σ Q) X.xe s
section
variable {X:Cx}{pos:Pos}
noncomputable def zq5 (i:Nat):TG:=fun v σ H Q=>Q (σ.set i (some v)) H
theorem zso {i:Nat}{x:Str}(hN:X.N.Nodup)(hi:X.N[i]?=some x)(hx:Loc X.env.scope x)(hf:X.fn x=true\/X.env.scope.names.lookup x=some .local:=by first | exact .inl rfl | exact .inr rfl | assumption):PG X (.Name x pos) (zq5 i):=by
 intro pins s σ H v u Q I r h;exact wpAny_assign_Name (ziu I hN hi hx r (fun s' I'=>⟨_,H,I',h⟩) hf)
noncomputable def gNil:TGs:=fun vs σ H Q=>vs=[]/\Q σ H
noncomputable def z8i (t:TG) (u:TGs):TGs:=fun vs σ H Q=>∃v r,vs=v::r/\t v σ H fun σ' H'=>u r σ' H' Q
theorem z3w:PGs X [] gNil:=by
 intro pins s σ H vs us Q I r h;obtain⟨e,h⟩:=h;subst e;cases r;exact assignInOrder_nil ⟨σ,H,I,h⟩
theorem zxy {e:Expr}{es:List Expr}{t:TG}{u:TGs} (h1:PG X e t) (h2:PGs X es u)
    (hs:(assignEach (e::es) X.env).map (·.2)=assign e X.env::(assignEach es X.env).map (·.2):=by rfl):PGs X (e::es) (z8i t u):=by
  intro pins s σ H vs us Q I r h;obtain⟨v,vr,e1,h⟩:=h;subst e1;cases r with
  | cons r rr =>
    rw[hs];refine assignInOrder_cons (thn (h1 pins s σ H _ _ _ I r h) fun _ s1 ⟨σ1,H1,I1,q1⟩=>?_);exact h2 pins s1 σ1 H1 _ _ Q I1 rr q1
noncomputable def gTup (K:PySem.W.Frag) (n:Nat) (t:TGs):TG:=fun v σ H Q=>∃a xs,v=.ref a/\SqT K H a xs/\xs.length=n/\t xs σ H Q
theorem z4n {es:List Expr}{k:Nat}{t:TGs}{n:Nat} (hc:X.calm=true) (h:PGs X es t)
  (hn:(assignEach es X.env).length=n:=by rfl) (hst:(assignEach es X.env).findIdx? (·.1)=none:=by rfl):PG X (.Tuple es k pos) (gTup X.K n t):=by
 intro pins s σ H v u Q I r hw;nofun;obtain⟨a,xs,e1,hq,hl,hw⟩:=hw;ac_rfl;subst e1;cases r;nofun;obtain⟨its,rv,ht,hz⟩:=I.tuple hq;ac_rfl;refine assign_Tuple_tuple (I.ok.hd hc) ht (by simp [hn,<-hl,rv.length]) hst fun h' hx=>?_;have I1:Inv X pins σ H { s with heap:=h' }:=I.kept (t':=s.toks) fun b o e=>hx b o (Bi (Ar e)) e;exact h pins _ σ H xs _ Q I1 (by simpa using rv) hw
noncomputable def gSub (to ti:TE) (t:TSet):TG:=fun v σ H Q=>to σ H fun o H1=>ti σ H1 fun i H2=>t o i v H2 fun H3=>Q σ H3
theorem zzo {o i:Expr}{to ti:TE}{t:TSet} (ho:PE X o to) (hi:PE X i ti) (hs:PSet X t)
  (ha:∀v,assign (.Subscript o i pos) X.env v=(do
   let ov <- holding [v] (eval o X.env)
   let iv <- holding [v,ov] (eval i X.env)
   standAt pos
   holding [v,ov,iv] (setItem ov iv v)
   release [v,ov,iv] []):=by intro _;rfl):PG X (.Subscript o i pos) (gSub to ti t):=by
 intro pins s σ H v u Q I r h;rw[ha];refine Ab (Ej (thn (ho pins s σ H _ I h) fun ov s1 ⟨x,H1,I1,r1,q1⟩=>?_));refine Ab (Ej (thn (hi pins s1 σ H1 _ I1 q1) fun iv s2 ⟨y,H2,I2,r2,q2⟩=>?_));refine Ab (wpAny_standAt (Ab (Ej (thn (hs pins s2 σ H2 x y v ov iv u _ I2 r1 r2 r q2) fun _ s3 ⟨H3,I3,q3⟩=>?_))));exact wpAny_release ⟨σ,H3,I3,q3⟩
noncomputable def tAsg (te:TE) (g:TG):TS:=fun D σ H=>te σ H fun x H1=>g x σ H1 D.nx
theorem z0l {tg e:Expr}{te:TE}{g:TG} (he:PE X e te) (hg:PG X tg g) (hs:swapsWithSole [tg] e pos.line X.env=pure false:=by rfl) (hw:swappedStores [tg] e X.env=pure none:=by rfl)
  (h1:(assignEach [tg] X.env).map (·.2)=[assign tg X.env]:=by rfl):PS X (.Assign [tg] e pos) (tAsg te g):=by
 intro pins s σ H D I h;refine wpAny_Assign_stores (thn (he pins s σ H _ I h) fun v s1 ⟨x,H1,I1,r1,q1⟩=>?_) hs hw;rw[h1];exact thn (hg pins s1 σ H1 x v _ I1 r1 q1) fun _ s2 q=>q
theorem z0t {i:Nat}{x:Str}{e:Expr}{te:TE}{pos' : Pos} (hN:X.N.Nodup) (hi:X.N[i]?=some x) (hx:Loc X.env.scope x) (he:PE X e te) (hs:swapsWith e (some (.Name x pos')) pos.line X.env=pure false:=by rfl) (hf:X.fn x=true\/X.env.scope.names.lookup x=some .local:=by first | exact .inl rfl | exact .inr rfl | assumption) :
  PS X (.Assign [.Name x pos'] e pos) (tAsg te (zq5 i)):=by
 intro pins s σ H D I h;refine wpAny_Assign_Name (thn (he pins s σ H _ I h) fun v s1 ⟨y,H1,I1,r1,q1⟩=>?_) hs;exact ziu I1 hN hi hx r1 (fun s2 I2=>⟨_,H1,I2,q1⟩) hf
noncomputable def tAug (i:Nat) (te:TE) (ti:TIp):TS:=fun D σ H=>∃x,σ[i]?=some (some x)/\te σ H fun y H1=>ti x y H1 fun z H2=>D.nx (σ.set i (some z)) H2
theorem z88 {i:Nat}{x:Str}{e:Expr}{te:TE}{op:Operator}{ti:TIp}{pos' : Pos} (hN:X.N.Nodup) (hi:X.N[i]?=some x) (hx:Loc X.env.scope x) (he:PE X e te) (ho:PIp X op ti) (hf:X.fn x=true\/X.env.scope.names.lookup x=some .local:=by first | exact .inl rfl | exact .inr rfl | assumption) :
  PS X (.AugAssign (.Name x pos') op e pos) (tAug i te ti):=by
 intro pins s σ H D I h;obtain⟨v,e1,h⟩:=h;obtain⟨m,hn,hl⟩:=I.loc;have vis:Vis X.env.scope x:=by rcases hx with k | k;exact .inl k;exact .inr (.inl k)
 obtain⟨u,r,l⟩:=hl i x v hi e1 vis;refine wpAny_AugAssign_Name ?_;have go:wpAny (model X.prog X.w) X.A (eval e X.env) (fun w s₂=>wpAny (model X.prog X.w) X.A (inplaceOp op u w) (fun r s₃=>wpAny (model X.prog X.w) X.A (storeName X.env x r) (fun _=>SP X pins D .next) X.xe s₃) X.xe s₂) X.xe s:=by
  refine thn (he pins s σ H _ I h) fun w s1 ⟨y,H1,I1,r1,q1⟩=>?_;refine thn (ho pins s1 σ H1 v y u w _ I1 r r1 q1) fun z s2 ⟨zv,H2,I2,r2,q2⟩=>?_;exact ziu I2 hN hi hx r2 (fun s3 I3=>⟨_,H2,I3,q2⟩) hf
 rcases l with ⟨hk,hm⟩ | ⟨hk,c,hc,hcell⟩
 ·exact wpAny_loadName_local I.ok.kind hk hn hm go
 ·rcases hk with hk | hk
  ·exact wpAny_loadName_cell I.ok.kind hk hc hcell go
  ·rcases hx with k | k
   ·have : X.env.scope.names.lookup x = some .free := hk;rw[k] at this;cases this
   ·have : X.env.scope.names.lookup x = some .free := hk;rw[k] at this;cases this
end
section
variable {X:Cx}{pos:Pos}
end
structure It where
 go:Nat->Hp->Prop
 yld:Nat->Hp->V->Hp->Prop
 stop:Nat->Hp->Prop
noncomputable def FpOk (X:Cx) (pins:List (Addr × Obj)) (H:Hp) (b:Addr):Prop :=
 H b=none/\b≠X.env.locals/\b ∉ X.fs/\(b∈X.ex\/X.s₀.heap.objs.size<=b)/\(∀x c,X.env.cells.lookup x=some c->c≠b)/\∀p∈X.pn++pins,p.1≠b
theorem Inv.fpOk {X:Cx}{pins:List (Addr × Obj)}{σ:St}{H H' : Hp}{s:Shared}{b:Addr}(I:Inv X pins σ H s)(hb:s.heap.objs.size<=b)(hn:H' b=none):FpOk X pins H' b:=by
 refine⟨hn,Nat.ne_of_gt (Bd I.lt hb),I.nofs hb,.inr (Cy I.sz hb),fun x c e z=>?_,fun p hp z=>?_⟩
 ·obtain⟨v, q⟩ := I.cell x c e;exact absurd (Bd q.lt (by rw[z];exact hb)) (Cf _)
 ·exact absurd (Bd (Ar (I.pin p hp).1) (by rw[z];exact hb)) (Cf _)
structure Turn (P:Program) (w:World) (K:PySem.W.Frag) (tg:Expr) (J:It) (fp:List Addr) (it:Addr) (tn:Nat->Heap->Prop):Prop where
 mem:it∈fp
 obj:∀i h,tn i h->∀b∈fp,∃o,h.get? b=some o/\∀v,o.data≠.cell v
 keep:∀i h h',tn i h->(∀b∈fp,∀o,h.get? b=some o->h'.get? b=some o)->tn i h'
 item:∀(X:Cx),X.prog=P->X.w=w->X.K=K->X.calm=true->∀(i:Nat) (pins:List (Addr × Obj)) (s:Shared) (σ:St) (H:Hp) (E:Value->Shared->Prop),Inv X pins σ H s->(∀b∈fp,FpOk X pins H b)->tn i s.heap->J.go i H ->
  wpAny (model P w) X.A (pyNext (.ref it)) (fun r s1=>∃u,r=some u /\
   wpAny (model P w) X.A (letOwnedTupleGo tg (.ref it) u) (fun _ s2=>∃x H',Inv X pins σ H' s2/\RelV x u/\J.yld i H x H'/\tn (i+1) s2.heap/\∀b∈fp,H' b=none) E s1) E s
 done:∀(X:Cx),X.prog=P->X.w=w->X.K=K->X.calm=true->∀(i:Nat) (pins:List (Addr × Obj)) (s:Shared) (σ:St) (H:Hp) (E:Value->Shared->Prop),Inv X pins σ H s->(∀b∈fp,FpOk X pins H b)->tn i s.heap->J.stop i H ->
  wpAny (model P w) X.A (pyNext (.ref it)) (fun r s1=>r=none/\Inv X pins σ H s1) E s
 self:∀(A:Around) (i:Nat) (s:Shared) (Q:Value->Shared->Prop) (E:Value->Shared->Prop),tn i s.heap->Q (.ref it) s->wpAny (model P w) A (pyIter (.ref it)) Q E s
noncomputable abbrev TI:=St->Hp->(It->Hp->Prop)->Prop
noncomputable def PIE (X:Cx) (pins:List (Addr × Obj)) (σ:St) (tg:Expr) (R:It->Hp->Prop) (itv:Value) (s2:Shared):Prop :=
 ∃(it:Addr) (fp:List Addr) (tn:Nat->Heap->Prop) (J:It) (H' : Hp),itv=.ref it/\Inv X pins σ H' s2/\Turn X.prog X.w X.K tg J fp it tn/\tn 0 s2.heap/\(∀b∈fp,FpOk X pins H' b)/\R J H'
noncomputable def PI (X:Cx) (tg iter:Expr) (wi:TI):Prop :=
  ∀(pins:List (Addr × Obj)) (s:Shared) (σ:St) (H:Hp) (R:It->Hp->Prop),Inv X pins σ H s->wi σ H R ->
    wpAny (model X.prog X.w) X.A (eval iter X.env) (fun v s1=>wpAny (model X.prog X.w) X.A (pyIter v) (PIE X pins σ tg R) X.xe s1) X.xe s
theorem zw6 {M:Model}{A:Around}{E:Value->Shared->Prop}{s:Shared}{tg:Expr}{it:Addr}{u:Value}{o:Obj}{n:String}{vs:Array Value}{Q:Unit->Shared->Prop} (ho:s.heap.get? it=some o) (hc:o.cls=.type n) (hd:o.data=.fields vs)
    (hn:["enumerate","zip","dict_itemiterator","dict_reverseitemiterator","odict_iterator","itertools.zip_longest","itertools.pairwise"].contains n=false) (hQ:Q () s):wpAny M A (letOwnedTupleGo tg (.ref it) u) Q E s:=by
  unfold letOwnedTupleGo;cases tg<;>first
    | exact Av hQ
    | (cases u<;>first
        | exact Av hQ
        | (refine Ab (wpAny_load ho ?_)
           rw[hc,hd];show wpAny M A (if (["enumerate","zip","dict_itemiterator","dict_reverseitemiterator","odict_iterator","itertools.zip_longest","itertools.pairwise"].contains n && vs[0]? == some (rawInt _))=true then _ else _) Q E s;rw[if_neg (by intro h;rw[hn,Eg] at h;cases h)];exact Av hQ))
noncomputable def Itl (K:PySem.W.Frag) (a:Addr):It :=
 ⟨fun i H=>∃xs x,SqL K H a xs/\xs[i]?=some x,fun i H x H'=>H'=H/\∀xs,SqL K H a xs->xs[i]?=some x,fun i H=>∃xs,SqL K H a xs/\xs.length<=i⟩
noncomputable def Itt (K:PySem.W.Frag) (a:Addr):It :=
 ⟨fun i H=>∃xs x,SqT K H a xs/\xs[i]?=some x,fun i H x H'=>H'=H/\∀xs,SqT K H a xs->xs[i]?=some x,fun i H=>∃xs,SqT K H a xs/\xs.length<=i⟩
noncomputable def Itr (lo:Int) (n:Nat):It:=⟨fun i _=>i < n,fun i H x H'=>H'=H/\x=.int (lo+i),fun i _=>n<=i⟩
theorem zrm {P:Program}{w:World}{K:PySem.W.Frag}{tg:Expr}(a it:Addr):Turn P w K tg (Itl K a) [it] it (fun i h=>h.IsListIter it a i) where
 mem:=by simp
 obj:=fun i h st b hb=>by
  have e:b=it:=by simpa using hb
  subst e;nofun;obtain⟨o,e,c,d⟩:=st;ac_rfl;exact⟨o,e,fun v z=>by rw[d] at z;cases z⟩
 keep:=fun i h h' st k=>st.at fun o e=>k it (by simp) o e
 item:=by
  intro X hP hw hK hc i pins s σ H E I hf st hg;subst hP hw hK;nofun;obtain⟨xs,x,hq,hx⟩:=hg;obtain⟨its,rv,p,hz⟩:=I.list hq;obtain⟨u,hu,ru⟩:=rv.get hx;obtain⟨f0,f1,f2,f3,f4,f5⟩:=hf it (by simp);ac_rfl;refine wpAny_pyNext_list_item st p.isList (x:=u) (by simpa using hu) fun h' st' sb=>?_;have I1:Inv X pins σ H { s with heap:=h' }:=I.turned (t':=s.toks) (fun b o hb e=>(sb.2 b hb).trans e) f0 f1 f3 f4 f5;nofun;obtain⟨o,e,c,d⟩:=id st';ac_rfl;exact⟨u,rfl,zw6 (s:={ s with heap:=h' }) e c d #v[0,9] ⟨x,H,I1,ru,⟨rfl,fun ys hy=>by rw[I.list_inj hy hq];exact hx⟩,st',fun b hb=>(hf b hb).1⟩⟩
 done:=by
  intro X hP hw hK hc i pins s σ H E I hf st hg;subst hP hw hK;nofun;obtain⟨xs,hq,hx⟩:=hg;obtain⟨its,rv,p,hz⟩:=I.list hq;obtain⟨f0,f1,f2,f3,f4,f5⟩:=hf it (by simp);ac_rfl;have hl:=rv.length;exact wpAny_pyNext_list_end (I.ok.hd hc) st p.isList (by simp;omega) fun h' eb=>⟨rfl,I.turned (t':=s.toks) (fun b o hb e=>eb b o hb e) f0 f1 f3 f4 f5⟩
 self:=fun _ _ _ _ _ st h=>wpAny_pyIter_listiter st h
theorem zqs {P:Program}{w:World}{K:PySem.W.Frag}{tg:Expr}(a it:Addr):Turn P w K tg (Itt K a) [it] it (fun i h=>h.IsTupleIter it a i) where
 mem:=by simp
 obj:=fun i h st b hb=>by
  have e:b=it:=by simpa using hb
  subst e;nofun;obtain⟨o,e,c,d⟩:=st;ac_rfl;exact⟨o,e,fun v z=>by rw[d] at z;cases z⟩
 keep:=fun i h h' st k=>st.at fun o e=>k it (by simp) o e
 item:=by
  intro X hP hw hK hc i pins s σ H E I hf st hg;subst hP hw hK;nofun;obtain⟨xs,x,hq,hx⟩:=hg;obtain⟨its,rv,p,hz⟩:=I.tuple hq;obtain⟨u,hu,ru⟩:=rv.get hx;obtain⟨f0,f1,f2,f3,f4,f5⟩:=hf it (by simp);ac_rfl;refine wpAny_pyNext_tuple_item st (show s.heap.IsTuple a its.toArray from p) (x:=u) (by simpa using hu) fun h' st' sb=>?_;have I1:Inv X pins σ H { s with heap:=h' }:=I.turned (t':=s.toks) (fun b o hb e=>(sb.2 b hb).trans e) f0 f1 f3 f4 f5;nofun;obtain⟨o,e,c,d⟩:=id st';ac_rfl;exact⟨u,rfl,zw6 (s:={ s with heap:=h' }) e c d #v[0,9] ⟨x,H,I1,ru,⟨rfl,fun ys hy=>by rw[I.tuple_inj hy hq];exact hx⟩,st',fun b hb=>(hf b hb).1⟩⟩
 done:=by
  intro X hP hw hK hc i pins s σ H E I hf st hg;subst hP hw hK;nofun;obtain⟨xs,hq,hx⟩:=hg;obtain⟨its,rv,p,hz⟩:=I.tuple hq;obtain⟨f0,f1,f2,f3,f4,f5⟩:=hf it (by simp);ac_rfl;have hl:=rv.length;exact wpAny_pyNext_tuple_end (I.ok.hd hc) st (show s.heap.IsTuple a its.toArray from p) (by simp;omega) fun h' eb=>⟨rfl,I.turned (t':=s.toks) (fun b o hb e=>eb b o hb e) f0 f1 f3 f4 f5⟩
 self:=fun _ _ _ _ _ st h=>wpAny_pyIter_tupleiter st h
theorem zqm {P:Program}{w:World}{K:PySem.W.Frag}{tg:Expr}(it:Addr)(lo:Int)(n:Nat):Turn P w K tg (Itr lo n) [it] it (fun i h=>IsRangeIter h it (lo+(i:Nat) * 1) ((n:Int) - (i:Nat)) 1) where
 mem:=by simp
 obj:=fun i h st b hb=>by
  have e:b=it:=by simpa using hb
  subst e;exact⟨_,st,fun v z=>by
   have z' : Data.fields _=Data.cell v:=z;cases z'⟩
 keep:=fun i h h' st k=>k it (by simp) _ st
 item:=by
  intro X hP hw hK hc i pins s σ H E I hf st hg;subst hP hw hK;nofun;obtain⟨f0,f1,f2,f3,f4,f5⟩:=hf it (by simp);ac_rfl;have W:=Walks.range (prog:=X.prog) (w:=X.w) (I.ok.hd hc) it lo 1 n;refine W.item i s _ _ hg st fun v h' tk hv st' kk=>?_;obtain⟨t,rfl⟩:=hv;have I1:Inv X pins σ H { s with heap:=h',toks:=tk }:=I.turned (fun b o hb e=>kk b o (by simpa using hb) e) f0 f1 f3 f4 f5;refine⟨_,rfl,zw6 (s:={ s with heap:=h',toks:=tk }) (n := "range_iterator") st' rfl rfl #v[0,9] ⟨.int (lo+i),H,I1,⟨t,?_⟩,⟨rfl,rfl⟩,st',fun b hb=>(hf b hb).1⟩⟩;rw[Int.mul_one]
 done:=by
  intro X hP hw hK hc i pins s σ H E I hf st hg;subst hP hw hK;nofun;obtain⟨f0,f1,f2,f3,f4,f5⟩:=hf it (by simp);ac_rfl;exact wpAny_pyNext_range_end (I.ok.hd hc) st (by have:n<=i:=hg;omega) fun h' eb=>⟨rfl,I.turned (t':=s.toks) (fun b o hb e=>eb b o hb e) f0 f1 f3 f4 f5⟩
 self:=fun _ _ _ _ _ st h=>wpAny_pyIter_rangeiter st h
section
variable {X:Cx}{tg:Expr}
theorem zw3 {pins:List (Addr × Obj)}{σ:St}{H:Hp}{s:Shared}{R:It->Hp->Prop}{E:Value->Shared->Prop}{lo hi:Int}{t u v:Tok}{tk:Nat} (I:Inv X pins σ H s) (h1:-(2 ^ 62)<=lo) (h2:lo < 2 ^ 62) (h3:-(2 ^ 62)<=hi) (h4:hi < 2 ^ 62)
  (q:R (Itr lo (hi - lo).toNat) H):wpAny (model X.prog X.w) X.A (pyIter (.ref s.heap.objs.size)) (PIE X pins σ tg R) E { s with heap:=s.heap.push { cls:=.type "range",data:=.fields #[.int lo t,.int hi u,.int 1 v] },toks:=tk }:=by
 refine wpAny_pyIter_range (IsRange.new ..) (small_one h1 h2 h3 h4) ?_;have I1:Inv X pins σ H { s with heap:=s.heap.push { cls:=.type "range",data:=.fields #[.int lo t,.int hi u,.int 1 v] },toks:=tk }:=I.kept fun b o e=>Ae _ e;refine⟨(s.heap.push { cls:=.type "range",data:=.fields #[.int lo t,.int hi u,.int 1 v] }).objs.size,[(s.heap.push { cls:=.type "range",data:=.fields #[.int lo t,.int hi u,.int 1 v] }).objs.size],_,_,H,rfl,
  I1.kept (t':=tk) fun b o e=>Ae _ e,zqm _ lo (hi - lo).toNat,?_,fun b hb=>?_,q⟩
 ·have e1 : lo + ((0 : Nat) : Int) * 1 = lo := by simp
  have e2:(((hi - lo).toNat:Nat):Int) - ((0:Nat):Int)=Builtin.Range.rangeSize lo hi 1:=by rw[rangeSize_one];split<;>omega
  show IsRangeIter _ _ (lo+((0:Nat):Int) * 1) ((((hi - lo).toNat:Nat):Int) - ((0:Nat):Int)) 1;rw[e1,e2];exact Ay _ rfl
 ·have e : b = (s.heap.push { cls := .type "range", data := .fields #[.int lo t, .int hi u, .int 1 v] }).objs.size := by simpa using hb
  subst e;exact I1.fpOk (Ag _) (I1.hok.fresh (Ag _))
noncomputable def z58 (ta:TA):TI:=fun σ H R=>ta σ H fun vs H1=>∃j:Int,vs=[.int j]/\-(2 ^ 62)<=j/\j < 2 ^ 62/\R (Itr 0 j.toNat) H1
theorem zve {a:Expr}{ta:TA}{p pos:Pos} (hg:Gl X "range") (hm:X.mg "range" = none) (ha:PA X [a] ta) (hs:starEach [a] X.env=[(false,eval a X.env)]:=by rfl):PI X tg (.Call (.Name "range" p) [a] [] pos) (z58 ta):=by
  intro pins s σ H R I h;refine Call_ (ze8 I hg hm boot_range (Dm (thn (ha pos pins s σ H _ I h) fun us s1 ⟨vs,H1,I1,r1,q1⟩=>?_) hs rfl));nofun;obtain⟨j,e,q1,q2,q⟩:=q1;ac_rfl;subst e;cases r1 with
  | cons r rr =>
    cases rr;obtain⟨t,rfl⟩:=r;exact call_range_1 (zw3 I1 #v[] #v[] q1 q2 (by simpa using q))
noncomputable def tFor (wi:TI) (g:TG) (tb:TS):TS:=fun D σ H=>wi σ H fun J H1=>∃W:Nat->Nat->St->Hp->Prop,(∃m,W 0 m σ H1)/\∀i m σ H,W i m σ H ->
 (J.stop i H/\D.nx σ H)\/(J.go i H/\∃N:St->Hp->Prop,(∀σ' H',N σ' H'->∃m',m' < m/\W (i+1) m' σ' H')/\∀x H',J.yld i H x H'->g x σ H' fun σ2 H2=>tb { D with nx:=N,ct:=N,bk:=D.nx } σ2 H2)
noncomputable def zkv (fp:List Addr) (h:Heap):List (Addr × Obj):=fp.filterMap fun b=>(h.get? b).map fun o=>(b,o)
theorem zdu {fp:List Addr}{h:Heap}{b:Addr}{o:Obj}(hb:b∈fp)(e:h.get? b=some o):(b,o)∈zkv fp h:=List.mem_filterMap.mpr ⟨b,hb,by rw[e];rfl⟩
theorem zvq {fp:List Addr}{h:Heap}{p:Addr × Obj} (hp:p∈zkv fp h):p.1∈fp/\h.get? p.1=some p.2:=by
  obtain⟨b,hb,e⟩:=List.mem_filterMap.mp hp;cases q:h.get? b with
  | none=>rw[q] at e;cases e
  | some o =>
    rw[q] at e;have e' : (b,o)=p:=sI e;subst e';exact⟨hb,q⟩
theorem Inv.pinned {pins:List (Addr × Obj)}{σ:St}{H:Hp}{s:Shared}{fp:List Addr}(I:Inv X pins σ H s)(hf:∀b∈fp,FpOk X pins H b)(ho:∀b∈fp,∃o,s.heap.get? b=some o/\∀v,o.data≠.cell v):Inv X (pins++zkv fp s.heap) σ H s :=
 I.pins_of fun p hp=>(Ba.mp hp).elim (fun z=>I.pin p (Bh _ z)) fun z=>by
  nofun;obtain⟨hb,e⟩:=zvq z;obtain⟨f0,f1,f2,_⟩:=hf p.1 hb;obtain⟨o,e',d⟩:=ho p.1 hb;ac_rfl;rw[e] at e';obtain rfl:=sI e';exact⟨e,f0,f1,f2,d⟩
theorem Inv.unpinned {pins pl:List (Addr × Obj)}{σ:St}{H:Hp}{s:Shared}(I:Inv X (pins++pl) σ H s):Inv X pins σ H s:=I.pins_of fun p hp=>I.pin p (Bh _ (Br _ hp))
theorem z5b {iter:Expr}{body:List Stmt}{wi:TI}{g:TG}{tb:TS}{pos:Pos} (hp:PassesOwn (model X.prog X.w) X.A X.env X.xe) (hc:X.calm=true) (hi:PI X tg iter wi) (hg:PG X tg g) (hb:PSs X body tb)
  (hs:∀x,foldedSetIterable iter X.env x=pure x:=by intro _;rfl):PS X (.For tg iter body [] pos) (tFor wi g tb):=by
 intro pins s σ H D I h;refine wpAny_For (thn (hi pins s σ H _ I h) fun v s1 h1=>thn h1 fun itv s2 h2=>?_) hs;nofun;obtain⟨it,fp,tn,J,H2,e,I2,T,st2,f2,W,⟨m0,w0⟩,turn⟩:=h2;ac_rfl;subst e;have stat:∀{H' : Hp},(∀b∈fp,H' b=none)->∀b∈fp,FpOk X pins H' b:=fun hn b hb=>⟨hn b hb,(f2 b hb).2⟩;refine codeAny_forLoop_any (fun n s'=>∃i σ' H',Inv X pins σ' H' s'/\tn i s'.heap/\(∀b∈fp,H' b=none)/\W i n σ' H') ?_ m0 ⟨0,σ,H2,I2,st2,fun b hb=>(f2 b hb).1,w0⟩;rintro n s3 ⟨i,σ3,H3,I3,st3,fr3,w3⟩;rcases turn i n σ3 H3 w3 with ⟨stop,qn⟩ | ⟨go,N,hN,step⟩
 ·refine Gh hp (thn (T.done X rfl rfl rfl hc i pins s3 σ3 H3 X.xe I3 (stat fr3) st3 stop) fun r s4 ⟨hr, I4⟩ => ?_);subst hr;exact wpAny_execs_nil ⟨σ3,H3,I4,qn⟩
 ·refine Gh hp (thn (T.item X rfl rfl rfl hc i pins s3 σ3 H3 X.xe I3 (stat fr3) st3 go) fun r s4 ⟨u, hr, h4⟩ => ?_);subst hr;refine Gh hp (thn h4 fun _ s5 ⟨x,H5,I5,r5,y5,st5,fr5⟩=>?_);have I5':=I5.pinned (stat fr5) (T.obj _ _ st5);refine Gh hp (thn (hg _ s5 σ3 H5 x u _ I5' r5 (step x H5 y5)) fun _ s6 ⟨σ6,H6,I6,q6⟩=>?_);refine Gh hp (thn (hb _ s6 σ6 H6 _ I6 q6) fun f s7 q7=>?_);have again:∀{σ7:St}{H7:Hp},Inv X (pins++zkv fp s5.heap) σ7 H7 s7->N σ7 H7->∃m,m < n/\∃i σ' H',Inv X pins σ' H' s7/\tn i s7.heap/\(∀b∈fp,H' b=none)/\W i m σ' H':=fun {σ7 H7} I7 n7=>by
   obtain⟨m',hm,w7⟩:=hN σ7 H7 n7;refine⟨m',hm,i+1,σ7,H7,I7.unpinned,T.keep _ _ _ st5 fun b hb o e=>(I7.pin (b,o) (Bh _ (Bh _ (zdu hb e)))).1,fun b hb=>?_,w7⟩;obtain⟨o,e,d⟩:=T.obj _ _ st5 b hb;exact (I7.pin (b,o) (Bh _ (Bh _ (zdu hb e)))).2.1
  cases f with
  | next=>obtain⟨σ7,H7,I7,n7⟩:=q7;exact again I7 n7
  | cont=>obtain⟨σ7,H7,I7,n7⟩:=q7;exact again I7 n7
  | brk=>obtain⟨σ7,H7,I7,q7⟩:=q7;exact⟨σ7,H7,I7.unpinned,q7⟩
  | ret v=>obtain⟨x7,σ7,H7,I7,r7,q7⟩:=q7;exact⟨x7,σ7,H7,I7.unpinned,r7,q7⟩
end
noncomputable abbrev R2:=V->V->Hp->VK->Prop
noncomputable def OpR (X:Cx) (f:Value->Value->Sem Value) (r:R2):Prop :=
  ∀(pins:List (Addr × Obj)) (s:Shared) (σ:St) (H:Hp) (x y:V) (v u:Value) (Q:VK),Inv X pins σ H s->RelV x v->RelV y u->r x y H Q ->
    wpAny (model X.prog X.w) X.A (f v u) (EP X pins σ Q) X.xe s
noncomputable def UnR (X:Cx) (f:Value->Sem Value) (r:V->Hp->VK->Prop):Prop :=
  ∀(pins:List (Addr × Obj)) (s:Shared) (σ:St) (H:Hp) (x:V) (v:Value) (Q:VK),Inv X pins σ H s->RelV x v->r x H Q ->
    wpAny (model X.prog X.w) X.A (f v) (EP X pins σ Q) X.xe s
noncomputable def zcr (X:Cx) (f:Value) (r:List V->Hp->VK->Prop):Prop :=
  ∀(pins:List (Addr × Obj)) (s:Shared) (σ:St) (H:Hp) (xs:List V) (us:List Value) (Q:VK),Inv X pins σ H s->Vals xs us->r xs H Q ->
    wpAny (model X.prog X.w) X.A (call f us) (EP X pins σ Q) X.xe s
noncomputable def tOp (r:R2) (ta tb:TE):TE:=fun σ H Q=>ta σ H fun x H1=>tb σ H1 fun y H2=>r x y H2 Q
noncomputable def tUn (r:V->Hp->VK->Prop) (ta:TE):TE:=fun σ H Q=>ta σ H fun x H1=>r x H1 Q
noncomputable def rI (C:Int->Int->Prop) (g:Int->Int->V):R2:=fun x y H Q=>∃i j,x=.int i/\y=.int j/\C i j/\Q (g i j) H
noncomputable def rI0 (g:Int->Int->V):R2:=fun x y H Q=>∃i j,x=.int i/\y=.int j/\Q (g i j) H
noncomputable def rU (g:Int->V):V->Hp->VK->Prop:=fun x H Q=>∃i,x=.int i/\Q (g i) H
section
variable {X:Cx}{a b c:Expr}{ta tb tc:TE}{pos:Pos}
theorem binT (ha:PE X a ta) (hb:PE X b tb) {pins:List (Addr × Obj)}{s:Shared}{σ:St}{H:Hp}{R:V->V->Hp->Prop} (I:Inv X pins σ H s)
  (h:ta σ H fun x H1=>tb σ H1 fun y H2=>R x y H2) {Q:Value->Shared->Prop}{f:Value->Value->Sem Value}
  (hf:∀v u s2 x y H2,Inv X pins σ H2 s2->RelV x v->RelV y u->R x y H2->wpAny (model X.prog X.w) X.A (f v u) Q X.xe s2) :
  wpAny (model X.prog X.w) X.A (eval a X.env) (fun v s₁=>wpAny (model X.prog X.w) X.A (eval b X.env) (fun u s₂=>wpAny (model X.prog X.w) X.A (f v u) Q X.xe s₂) X.xe s₁) X.xe s:=by
 refine thn (ha pins s σ H _ I h) fun v s1 ⟨x,H1,I1,r1,q1⟩=>?_;refine thn (hb pins s1 σ H1 _ I1 q1) fun u s2 ⟨y,H2,I2,r2,q2⟩=>?_;exact hf v u s2 x y H2 I2 r1 r2 q2
theorem yax {op:Operator}{r:R2}(ho:OpR X (binaryOp op) r)(ha:PE X a ta)(hb:PE X b tb):PE X (.BinOp a op b pos) (tOp r ta tb):=by
 intro pins s σ H Q I h;exact wpAny_BinOp (binT ha hb I h fun v u s2 x y H2 I2 rx ry q=>ho pins s2 σ H2 x y v u Q I2 rx ry q)
theorem yab {op:UnaryOp}{r:V->Hp->VK->Prop}(ho:UnR X (unaryOp op) r)(ha:PE X a ta):PE X (.UnaryOp op a pos) (tUn r ta):=by
 intro pins s σ H Q I h;exact UnaryOp_ (thn (ha pins s σ H _ I h) fun v s1 ⟨x,H1,I1,r1,q1⟩=>ho pins s1 σ H1 x v Q I1 r1 q1)
theorem opI {f:Value->Value->Sem Value}{C:Int->Int->Prop}{g:Int->Int->Int}
  (rule:∀(i j:Int) (t u:Tok) (s:Shared) (Q:Value->Shared->Prop) (E:Value->Shared->Prop),C i j->Q (.int (g i j) s.toks) { s with toks:=s.toks+1 }->wpAny (model X.prog X.w) X.A (f (.int i t) (.int j u)) Q E s) :
  OpR X f (rI C fun i j=>.int (g i j)):=by
 intro pins s σ H x y v u Q I rx ry h;obtain⟨i,j,rfl,rfl,hc,q⟩:=h;obtain⟨t,rfl⟩:=rx;obtain⟨t',rfl⟩:=ry;exact rule i j t t' s _ _ hc ⟨.int (g i j),H,I.tok _,⟨_,rfl⟩,q⟩
theorem opI0 {f:Value->Value->Sem Value}{g:Int->Int->Int}
  (rule:∀(i j:Int) (t u:Tok) (s:Shared) (Q:Value->Shared->Prop) (E:Value->Shared->Prop),Q (.int (g i j) s.toks) { s with toks:=s.toks+1 }->wpAny (model X.prog X.w) X.A (f (.int i t) (.int j u)) Q E s) :
  OpR X f (rI0 fun i j=>.int (g i j)):=by
 intro pins s σ H x y v u Q I rx ry h;obtain⟨i,j,rfl,rfl,q⟩:=h;obtain⟨t,rfl⟩:=rx;obtain⟨t',rfl⟩:=ry;exact rule i j t t' s _ _ ⟨.int (g i j),H,I.tok _,⟨_,rfl⟩,q⟩
theorem opB0 {f:Value->Value->Sem Value}{g:Int->Int->Bool}
  (rule:∀(i j:Int) (t u:Tok) (s:Shared) (Q:Value->Shared->Prop) (E:Value->Shared->Prop),Q (.bool (g i j)) s->wpAny (model X.prog X.w) X.A (f (.int i t) (.int j u)) Q E s) :
  OpR X f (rI0 fun i j=>.bl (g i j)):=by
 intro pins s σ H x y v u Q I rx ry h;obtain⟨i,j,rfl,rfl,q⟩:=h;obtain⟨t,rfl⟩:=rx;obtain⟨t',rfl⟩:=ry;exact rule i j t t' s _ _ ⟨.bl (g i j),H,I,rfl,q⟩
noncomputable def CPow (i j:Int):Prop:=0<=j/\j<=1000000/\i.natAbs < 2 ^ 64
noncomputable def CMul (i j:Int):Prop:=(-(2 ^ 64) < i/\i < 2 ^ 64)\/(-(2 ^ 64) < j/\j < 2 ^ 64)
theorem CMul.ok {i j:Int}(h:CMul i j):IntMulOk i j:=by
 rcases h with ⟨h1,h2⟩ | ⟨h1,h2⟩
 ·exact .of_left (intBits_le_64 h1 h2)
 ·exact .of_right (intBits_le_64 h1 h2)
theorem zqx (k:Nat):(0:Int)<=2 ^ k:=by
 rw[two_pow_cast];exact Int.natCast_nonneg _
theorem z76:OpR X (binaryOp .Add) (rI0 fun i j=>.int (i+j)):=opI0 fun _ _ _ _ _ _ _ q=>add_int q
theorem z80:OpR X (binaryOp .Sub) (rI0 fun i j=>.int (i - j)):=opI0 fun _ _ _ _ _ _ _ q=>sub_int q
theorem z6u:OpR X (binaryOp .Mult) (rI CMul fun i j=>.int (i * j)):=opI fun _ _ _ _ _ _ _ hc q=>mul_int q hc.ok
theorem z4w:OpR X (binaryOp .Mod) (rI (fun _ j=>0 < j) fun i j=>.int (i % j)):=opI fun i j _ _ _ _ _ hc q=>by
 have h1:(0:Int) < j:=hc;exact mod_int' #v[] (by rw[Int.fmod_eq_emod_of_nonneg i #v[]];exact q)
theorem z6y:OpR X (binaryOp .Pow) (rI CPow fun i j=>.int (i ^ j.toNat)):=opI fun _ _ _ _ _ _ _ hc q=>pow_int_small hc.1 hc.2.1 hc.2.2 q
theorem z7v:OpR X (binaryOp .LShift) (rI CPow fun i j=>.int (i * 2 ^ j.toNat)):=opI fun _ _ _ _ _ _ _ hc q=>lshift_int_small hc.1 hc.2.1 hc.2.2 q
theorem z4z:OpR X (binaryOp .RShift) (rI (fun _ j=>0<=j) fun i j=>.int (i / 2 ^ j.toNat)):=opI fun i j _ _ _ _ _ hc q =>
 rshift_int hc (by rw[Int.fdiv_eq_ediv_of_nonneg i (zqx _)];exact q)
theorem z59:OpR X (binaryOp .BitAnd) (rI0 fun i j=>.int (Builtin.bitAnd i j)):=opI0 fun _ _ _ _ _ _ _ q=>and_int q
theorem yaa:OpR X (binaryOp .BitOr) (rI0 fun i j=>.int (Builtin.bitOr i j)):=opI0 fun _ _ _ _ _ _ _ q=>or_int q
theorem z45:OpR X (binaryOp .BitXor) (rI0 fun i j=>.int (Builtin.bitXor i j)):=opI0 fun _ _ _ _ _ _ _ q=>xor_int q
theorem z09:OpR X (inplaceOp .Add) (rI0 fun i j=>.int (i+j)):=opI0 fun _ _ _ _ _ _ _ q=>iadd_int q
theorem z1a:OpR X (inplaceOp .Sub) (rI0 fun i j=>.int (i - j)):=opI0 fun _ _ _ _ _ _ _ q=>isub_int q
theorem z10:OpR X (inplaceOp .Mult) (rI CMul fun i j=>.int (i * j)):=opI fun _ _ _ _ _ _ _ hc q=>imul_int q hc.ok
theorem z1l:OpR X (inplaceOp .BitAnd) (rI0 fun i j=>.int (Builtin.bitAnd i j)):=opI0 fun _ _ _ _ _ _ _ q=>iand_int q
theorem z8o:OpR X (inplaceOp .BitOr) (rI0 fun i j=>.int (Builtin.bitOr i j)):=opI0 fun _ _ _ _ _ _ _ q=>ior_int q
theorem z2z:OpR X (inplaceOp .BitXor) (rI0 fun i j=>.int (Builtin.bitXor i j)):=opI0 fun _ _ _ _ _ _ _ q=>ixor_int q
theorem unI {f:Value->Sem Value}{g:Int->Int}
  (rule:∀(i:Int) (t:Tok) (s:Shared) (Q:Value->Shared->Prop) (E:Value->Shared->Prop),Q (.int (g i) s.toks) { s with toks:=s.toks+1 }->wpAny (model X.prog X.w) X.A (f (.int i t)) Q E s) :
  UnR X f (rU fun i=>.int (g i)):=by
 intro pins s σ H x v Q I rx h;obtain⟨i,rfl,q⟩:=h;obtain⟨t,rfl⟩:=rx;exact rule i t s _ _ ⟨.int (g i),H,I.tok _,⟨_,rfl⟩,q⟩
theorem z8e:UnR X (unaryOp .USub) (rU fun i=>.int (-i)):=unI fun _ _ _ _ _ q=>neg_int q
end
noncomputable def scal:V->V->Bool
 | .non,.non=>true | .non,.int _=>true | .int _,.non=>true | .non,.bl _=>true | .bl _,.non=>true | .non,.str _=>true | .str _,.non=>true
 | .int _,.int _=>true | .bl _,.bl _=>true | .str _,.str _=>true | .byt _,.byt _=>true
 | .int _,.str _=>true | .str _,.int _=>true | .bl _,.str _=>true | .str _,.bl _=>true
 | _,_=>false
noncomputable def rEq:R2:=fun x y H Q=>scal x y=true/\Q (.bl (decide (x=y))) H
noncomputable def rNe:R2:=fun x y H Q=>scal x y=true/\Q (.bl (!decide (x=y))) H
theorem zsv {i j:Int}:decide (V.int i=V.int j)=(i == j):=by
 rw[Dj];simp
theorem zz4 {i j:Bool}:decide (V.bl i=V.bl j)=(i == j):=by
 rw[Dj];simp
theorem zsq {i j:Str}:decide (V.str i=V.str j)=(i == j):=by
 rw[Dj];simp
theorem zvw {i j:Array UInt8}:decide (V.byt i=V.byt j)=(i.toList == j.toList):=by
 rw[Dj];cases i;cases j;simp
section
variable {X:Cx}{a b c:Expr}{ta tb tc:TE}{pos:Pos}
theorem zaj {pins:List (Addr × Obj)}{σ:St}{H:Hp}{s:Shared}{Q:VK}{k k' : Bool}(I:Inv X pins σ H s)(q:Q (.bl k) H)(e:k=k'):EP X pins σ Q (.bool k') s:=by
 subst e;exact⟨.bl k,H,I,rfl,q⟩
theorem yar:OpR X (compareOp .Eq) rEq:=by
  intro pins s σ H x y v u Q I rx ry h;obtain⟨hs,q⟩:=h;cases x with
  | non =>
    cases rx;cases y with
    | non=>cases ry;exact PySem.EqNone.eq_none_none (zaj I q (by simp))
    | bl j=>cases ry;exact PySem.EqNone.eq_none_bool (zaj I q (by simp))
    | int j=>obtain⟨t',rfl⟩:=ry;exact PySem.EqNone.eq_none_int (zaj I q (by simp))
    | str j=>obtain⟨t',rfl⟩:=ry;exact PySem.EqNone.eq_none_str (zaj I q (by simp))
    | _=>exact absurd (show false=true from hs) Af
  | bl i =>
    cases rx;cases y with
    | non=>cases ry;exact PySem.EqNone.eq_bool_none (zaj I q (by simp))
    | bl j=>cases ry;exact eq_bool (zaj I q zz4)
    | str j=>obtain⟨t',rfl⟩:=ry;exact PySem.EqMixed.eq_bool_str (zaj I q (by simp))
    | _=>exact absurd (show false=true from hs) Af
  | int i =>
    obtain⟨t,rfl⟩:=rx;cases y with
    | non=>cases ry;exact PySem.EqNone.eq_int_none (zaj I q (by simp))
    | int j=>obtain⟨t',rfl⟩:=ry;exact eq_int (zaj I q zsv)
    | str j=>obtain⟨t',rfl⟩:=ry;exact PySem.EqMixed.eq_int_str (zaj I q (by simp))
    | _=>exact absurd (show false=true from hs) Af
  | str i =>
    obtain⟨t,rfl⟩:=rx;cases y with
    | non=>cases ry;exact PySem.EqNone.eq_str_none (zaj I q (by simp))
    | bl j=>cases ry;exact PySem.EqMixed.eq_str_bool (zaj I q (by simp))
    | int j=>obtain⟨t',rfl⟩:=ry;exact PySem.EqMixed.eq_str_int (zaj I q (by simp))
    | str j=>obtain⟨t',rfl⟩:=ry;exact eq_str (zaj I q zsq)
    | _=>exact absurd (show false=true from hs) Af
  | byt i =>
    obtain⟨t,rfl⟩:=rx;cases y with
    | byt j=>obtain⟨t',rfl⟩:=ry;exact PySem.W.eq_bytes (zaj I q zvw)
    | _=>exact absurd (show false=true from hs) Af
  | _=>cases y<;>exact absurd (show false=true from hs) Af
theorem yam:OpR X (compareOp .NotEq) rNe:=by
  intro pins s σ H x y v u Q I rx ry h;obtain⟨hs,q⟩:=h;cases x with
  | non =>
    cases rx;cases y with
    | non=>cases ry;exact PySem.EqNone.ne_none_none (zaj I q (by simp))
    | bl j=>cases ry;exact PySem.EqNone.ne_none_bool (zaj I q (by simp))
    | int j=>obtain⟨t',rfl⟩:=ry;exact PySem.EqNone.ne_none_int (zaj I q (by simp))
    | str j=>obtain⟨t',rfl⟩:=ry;exact PySem.EqNone.ne_none_str (zaj I q (by simp))
    | _=>exact absurd (show false=true from hs) Af
  | bl i =>
    cases rx;cases y with
    | non=>cases ry;exact PySem.EqNone.ne_bool_none (zaj I q (by simp))
    | bl j=>cases ry;exact ne_bool (zaj I q (congrArg not zz4))
    | str j=>obtain⟨t',rfl⟩:=ry;exact PySem.EqMixed.ne_bool_str (zaj I q (by simp))
    | _=>exact absurd (show false=true from hs) Af
  | int i =>
    obtain⟨t,rfl⟩:=rx;cases y with
    | non=>cases ry;exact PySem.EqNone.ne_int_none (zaj I q (by simp))
    | int j=>obtain⟨t',rfl⟩:=ry;exact ne_int (zaj I q (congrArg not zsv))
    | str j=>obtain⟨t',rfl⟩:=ry;exact PySem.EqMixed.ne_int_str (zaj I q (by simp))
    | _=>exact absurd (show false=true from hs) Af
  | str i =>
    obtain⟨t,rfl⟩:=rx;cases y with
    | non=>cases ry;exact PySem.EqNone.ne_str_none (zaj I q (by simp))
    | bl j=>cases ry;exact PySem.EqMixed.ne_str_bool (zaj I q (by simp))
    | int j=>obtain⟨t',rfl⟩:=ry;exact PySem.EqMixed.ne_str_int (zaj I q (by simp))
    | str j=>obtain⟨t',rfl⟩:=ry;exact ne_str (zaj I q (congrArg not zsq))
    | _=>exact absurd (show false=true from hs) Af
  | byt i =>
    obtain⟨t,rfl⟩:=rx;cases y with
    | byt j=>obtain⟨t',rfl⟩:=ry;exact PySem.W.ne_bytes (zaj I q (congrArg not zvw))
    | _=>exact absurd (show false=true from hs) Af
  | _=>cases y<;>exact absurd (show false=true from hs) Af
theorem yao:OpR X (compareOp .Lt) (rI0 fun i j=>.bl (decide (i < j))):=opB0 fun _ _ _ _ _ _ _ q=>lt_int q
theorem z9o:OpR X (compareOp .LtE) (rI0 fun i j=>.bl (decide (i<=j))):=opB0 fun _ _ _ _ _ _ _ q=>le_int q
theorem yav:OpR X (compareOp .Gt) (rI0 fun i j=>.bl (decide (j < i))):=opB0 fun _ _ _ _ _ _ _ q=>gt_int q
theorem z9l:OpR X (compareOp .GtE) (rI0 fun i j=>.bl (decide (j<=i))):=opB0 fun _ _ _ _ _ _ _ q=>ge_int q
theorem z77:OpR X (compareOp .Is) (fun x y H Q=>y=.non/\Q (.bl (decide (x=.non))) H):=by
 intro pins s σ H x y v u Q I rx ry h;obtain⟨rfl,q⟩:=h;cases ry;refine is_none_gen (zaj I q ?_);cases x<;>first
  | (cases rx;rfl)
  | (obtain⟨t,rfl⟩:=rx;rfl)
theorem OpR.or {f:Value->Value->Sem Value}{r r' : R2}(h:OpR X f r)(h' : OpR X f r'):OpR X f (fun x y H Q=>r x y H Q\/r' x y H Q):=by
 intro pins s σ H x y v u Q I rx ry q;rcases q with q | q
 ·exact h pins s σ H x y v u Q I rx ry q
 ·exact h' pins s σ H x y v u Q I rx ry q
theorem z3e {op:CmpOp}{r:R2}(ho:OpR X (compareOp op) r)(ha:PE X a ta)(hb:PE X b tb)(hm:behindInMarks op b=false):PE X (.Compare a [op] [b] pos) (tOp r ta tb):=by
 intro pins s σ H Q I h;exact wpAny_Compare1 (binT ha hb I h fun v u s2 x y H2 I2 rx ry q=>ho pins s2 σ H2 x y v u Q I2 rx ry q) hm
noncomputable def z4a (t:TE):TT:=fun σ H Q=>t σ H fun x H'=>∃k,x=.bl k/\Q k H'
theorem z25 {op:CmpOp}{r:R2}(ho:OpR X (compareOp op) r)(ha:PE X a ta)(hb:PE X b tb)(hm:behindInMarks op b=false):PT X (.Compare a [op] [b] pos) (z4a (tOp r ta tb)):=by
 intro pins s σ H Q I h;refine wpAny_isTrue_Compare1 (thn (ha pins s σ H _ I h) fun v s1 ⟨x,H1,I1,r1,q1⟩=>thn (hb pins s1 σ H1 _ I1 q1) fun u s2 ⟨y,H2,I2,r2,q2⟩ =>
  thn (ho pins s2 σ H2 x y v u _ I2 r1 r2 q2) fun c s3 ⟨z,H3,I3,r3,k,e,q3⟩=>?_) hm
 subst e;cases r3;exact Do ⟨H3,I3,q3⟩
noncomputable def ztv (r r' : R2) (ta tb tc:TE):TE:=fun σ H Q=>ta σ H fun x H1=>tb σ H1 fun y H2=>r x y H2 fun z H3=>∃k,z=.bl k /\
 (if k=true then tc σ H3 fun w' H4=>r' y w' H4 Q else Q (.bl false) H3)
theorem zy1 {op op' : CmpOp}{r r' : R2} (ho:OpR X (compareOp op) r) (ho' : OpR X (compareOp op') r') (ha:PE X a ta) (hb:PE X b tb) (hc:PE X c tc)
  (hm:lastMarks [op,op'] [b,c]=false:=by with_unfolding_all rfl):PE X (.Compare a [op,op'] [b,c] pos) (ztv r r' ta tb tc):=by
 intro pins s σ H Q I h;refine Compare_chain (thn (ha pins s σ H _ I h) fun v s1 ⟨x,H1,I1,r1,q1⟩=>chain_link (thn (hb pins s1 σ H1 _ I1 q1) fun u s2 ⟨y,H2,I2,r2,q2⟩ =>
  thn (ho pins s2 σ H2 x y v u _ I2 r1 r2 q2) fun d s3 ⟨z,H3,I3,r3,k,e,q3⟩=>?_)) hm
 subst e;cases r3;refine Do ?_;cases k with
 | false=>exact ite_ff ⟨.bl false,H3,I3,rfl,q3⟩
 | true=>exact ite_tt (chain_last (thn (hc pins s3 σ H3 _ I3 q3) fun w' s4 ⟨z',H4,I4,r4,q4⟩=>ho' pins s4 σ H4 y z' u w' Q I4 r2 r4 q4))
theorem zwu {op op' : CmpOp}{r r' : R2} (ho:OpR X (compareOp op) r) (ho' : OpR X (compareOp op') r') (ha:PE X a ta) (hb:PE X b tb) (hc:PE X c tc)
    (hm:lastMarks [op,op'] [b,c]=false:=by with_unfolding_all rfl):PT X (.Compare a [op,op'] [b,c] pos) (z4a (ztv r r' ta tb tc)):=by
  intro pins s σ H Q I h;refine isTrue_chain (thn (ha pins s σ H _ I h) fun v s1 ⟨x,H1,I1,r1,q1⟩=>test_link (thn (hb pins s1 σ H1 _ I1 q1) fun u s2 ⟨y,H2,I2,r2,q2⟩ =>
    thn (ho pins s2 σ H2 x y v u _ I2 r1 r2 q2) fun d s3 ⟨z,H3,I3,r3,k,e,q3⟩=>?_)) hm
  subst e;cases r3;refine Do ?_;cases k with
  | false =>
    obtain⟨k',e',q'⟩:=q3;cases e';exact ite_ff ⟨H3,I3,q'⟩
  | true =>
    refine ite_tt (test_last (thn (hc pins s3 σ H3 _ I3 q3) fun w' s4 ⟨z',H4,I4,r4,q4⟩=>thn (ho' pins s4 σ H4 y z' u w' _ I4 r2 r4 q4) fun d' s5 ⟨z2,H5,I5,r5,k2,e2,q5⟩=>?_));subst e2;cases r5;exact Do ⟨H5,I5,q5⟩
theorem zoe:(sizeLine:Nat) < 2 ^ 63:=by rw[Dg];decide
theorem zqb:OpR X (binaryOp .Add) (fun x y H Q=>∃i j,x=.str i/\y=.str j/\i.length+j.length<=sizeLine/\Q (.str (i++j)) H):=by
 intro pins s σ H x y v u Q I rx ry h;obtain⟨i,j,rfl,rfl,hz,q⟩:=h;obtain⟨t,rfl⟩:=rx;obtain⟨t',rfl⟩:=ry;exact add_str (fun t' tk=>⟨.str (i++j),H,I.tok _,⟨_,rfl⟩,q⟩) hz
theorem vals1 {x:V}{us:List Value}(r:Vals [x] us):∃u,us=[u]/\RelV x u:=by
 cases r with
 | cons r1 r2=>cases r2;exact⟨_,rfl,r1⟩
theorem z9m {x y:V}{us:List Value} (r:Vals [x,y] us):∃u w',us=[u,w']/\RelV x u/\RelV y w':=by
  cases r with
  | cons r1 r2 =>
    cases r2 with
    | cons r3 r4=>cases r4;exact⟨_,_,rfl,r1,r3⟩
theorem zxs:zcr X (.builtin "abs") (fun xs H Q=>∃i,xs=[.int i]/\Q (.int (if i < 0 then -i else i)) H):=by
 intro pins s σ H xs us Q I r h;obtain⟨i,rfl,q⟩:=h;obtain⟨u,rfl,t,rfl⟩:=vals1 r;exact call_abs_int fun u tk=>⟨.int (if i < 0 then -i else i),H,I.tok _,⟨_,rfl⟩,q⟩
theorem zvv (hc:X.calm=true):zcr X (.builtin "max") (fun xs H Q=>∃i j,xs=[.int i,.int j]/\Q (.int (if j > i then j else i)) H):=by
 intro pins s σ H xs us Q I r h;nofun;obtain⟨i,j,rfl,q⟩:=h;obtain⟨u,w',rfl,⟨t,rfl⟩,⟨t',rfl⟩⟩:=z9m r;ac_rfl;refine max_two_ints (I.ok.hd hc) fun h' tk k=>⟨_,H,I.kept k,?_,q⟩;by_cases hj:j > i
 ·rw[if_pos hj,if_pos hj];exact⟨_,rfl⟩
 ·rw[if_neg hj,if_neg hj];exact⟨_,rfl⟩
theorem zv0:zcr X (.type "int") (fun xs H Q=>(∃i,xs=[.int i]/\Q (.int i) H)\/∃k,xs=[.bl k]/\Q (.int (if k then 1 else 0)) H):=by
 intro pins s σ H xs us Q I r h;rcases h with ⟨i,rfl,q⟩ | ⟨k,rfl,q⟩
 ·obtain⟨u, rfl, t, rfl⟩ := vals1 r;exact call_int_int ⟨.int i,H,I,⟨_,rfl⟩,q⟩
 ·obtain⟨u, rfl, r1⟩ := vals1 r;cases r1;exact call_int_bool ⟨.int (if k then 1 else 0),H,I.tok _,⟨_,rfl⟩,q⟩
end
structure ObjM (h:Heap) (x dx C:Addr) (mA:Str->Option Value):Prop where
 obj:h.get? x=some (PySem.W.instObj C dx)
 ns:h.Ns1 dx mA
 ne:dx≠x
theorem zs5 {h:Heap}{dx:Addr}{mA:Str->Option Value}(n:h.Ns1 dx mA):∃od,h.get? dx=some od/\∀name,PySem.W.lookIn name od=some (mA name):=by
 nofun;obtain⟨o,es,ep,ho,hd,hk,_,hm⟩:=n;ac_rfl;refine⟨o,ho,fun name=>?_⟩;have e:=hm name;unfold nsFind findBy at e;rw[<-Array.find?_toList] at e;unfold PySem.W.lookIn;rw[hd];dsimp only;split
 ·rename_i y q;rw[q] at e;exact congrArg some e
 ·rename_i q;rw [q] at e;have a:es.toList.any (·.refKey)=false:=by
   rw[List.any_eq_false];intro y hy;obtain⟨z,t,hkey⟩:=hk y (Array.mem_toList_iff.mp hy);simp [DictEntry.refKey,hkey]
  have a' : ¬ es.toList.any (·.refKey)=true:=by rw[a];exact Af
  rw[if_neg a'];exact congrArg some e
theorem ObjM.look {h:Heap}{x dx C:Addr}{mA:Str->Option Value}(I:ObjM h x dx C mA):∃od,PySem.W.InstAt h x (PySem.W.instObj C dx) C (some od)/\∀name,PySem.W.lookIn name od=some (mA name) :=
 let ⟨od,ho,hl⟩:=zs5 I.ns
 ⟨od,⟨I.obj,rfl,rfl,ho⟩,hl⟩
section
variable {prog:Program}{w:World}{A:Around}{E:Value->Shared->Prop}{s:Shared}{K:PySem.W.Frag}{x dx C f:Addr}{mA:Str->Option Value}{name:Str}{v:Value}
end
theorem RelO.some_of {v:V}{o:Option Value}(r:RelO (some v) o):∃u,o=some u/\RelV v u:=by
 cases o with
 | none=>exact (show False from r).elim
 | some u=>exact⟨u,rfl,r⟩
section
variable {P:Program}{w:World}{H H' : Hp}{h h' : Heap}{a C dx:Addr}{fs fs' : List (Str × V)}
theorem z3s (hok:HOk P w H h)(e:H a=some (.ins C dx fs)):∃mA,ObjM h a dx C mA/\(∀f,RelO (fs.lookup f) (mA f))/\PySem.Within mA (fs.map (·.1))/\fs.length<=1000/\H dx=some (.own a):=by
 nofun;obtain⟨d,z,ne,ob,mA,n,r,q⟩:=(show za4 P w H h a (.ins C dx fs) from hok a _ e);ac_rfl;exact⟨mA,⟨ob,n,ne⟩,r,q,z,d⟩
end
structure Cls (K:PySem.W.Frag) (C:Addr):Prop where
 pg:PySem.W.plainGet K C Str.empty=true
 hd:PySem.W.hasDictIn K C=true
 po:PySem.W.plainOver K C=true
 sa:PySem.W.findIn K (.ref C) "__setattr__" = some (some (.builtin "object.__setattr__"))
theorem Cls.get {K:PySem.W.Frag}{C:Addr}(c:Cls K C)(f:Str):PySem.W.plainGet K C f=true:=c.pg
section
variable {X:Cx}{pins:List (Addr × Obj)}{σ:St}{H:Hp}{s:Shared}{a C dx:Addr}{fs:List (Str × V)}{f:Str}{v:V}{A:Around}{E:Value->Shared->Prop}
end
section
variable {X:Cx}{o e value:Expr}{f:Str}{pos pos' tpos:Pos}{ta tv:TE}
end
section
variable {X:Cx}{pins:List (Addr × Obj)}{σ:St}{H:Hp}{s:Shared}{A:Around}{E:Value->Shared->Prop}{Q:Value->Shared->Prop}{c:Value}{b:Bool}
inductive TyOf (K:PySem.W.Frag) (H:Hp):V->Value->Prop where
 | non:TyOf K H .non (.type "NoneType")
 | bl (x:Bool):TyOf K H (.bl x) (.type "bool")
 | int (i:Int):TyOf K H (.int i) (.type "int")
 | str (x:Str):TyOf K H (.str x) (.type "str")
 | flt (x:UInt64):TyOf K H (.flt x) (.type "float")
 | lst {a:Addr}{xs:List V} (e:H a=some (.lst xs)):TyOf K H (.ref a) (.type "list")
 | frz {a:Addr}{o:Obj}{xs:List V} (e:H a=some (.frz o (.lst xs))):TyOf K H (.ref a) (.type "list")
 | tup {a:Addr}{xs:List V} (e:H a=some (.tup xs)):TyOf K H (.ref a) (.type "tuple")
 | dK {a:Addr}{kvs:List (Key × V)} (e:H a=some (.dK kvs)):TyOf K H (.ref a) (.type "dict")
 | dT {a:Addr}{kvs:List (List Key × V)} (e:H a=some (.dT kvs)):TyOf K H (.ref a) (.type "dict")
 | ins {a C dx:Addr}{fs:List (Str × V)} (e:H a=some (.ins C dx fs)) (cl:Cls K C) (ha:PySem.W.findIn K (.ref C) "__class__" = some (some (.builtin "object.__class__")))
   (hn:PySem.W.specialIn K (.builtin "object.__class__") "__get__" = some (some (.builtin "getset_descriptor.__get__"))) (htk:PySem.W.takesIn K (.builtin "object.__class__")=some true)
   (hm:PySem.W.mroIn K C (.type "object")=some true):TyOf K H (.ref a) (.ref C)
theorem zu2 {x:V}{u t:Value} (I:Inv X pins σ H s) (rx:RelV x u) (ty:TyOf X.K H x t) (e:PySem.W.kitOne X.K t c=some b) (h:∀tk,Q (.bool b) { s with toks:=tk }) :
    wpAny (model X.prog X.w) A (call (.builtin "isinstance") [u,c]) Q E s:=by
  cases ty with
  | non=>cases (show u=Value.none from rx);exact Cv PySem.W.kitx_none I.kIn True.intro e (fun z=>nomatch z) h
  | bl y=>cases (show u=Value.bool y from rx);exact Cv PySem.W.kitx_bool I.kIn True.intro e (fun z=>nomatch z) h
  | int i=>obtain⟨t,q⟩:=(show ∃t,u=Value.int i t from rx);cases q;exact Cv PySem.W.kitx_int I.kIn True.intro e (fun z=>nomatch z) h
  | str y=>obtain⟨t,q⟩:=(show ∃t,u=Value.str y t from rx);cases q;exact Cv PySem.W.kitx_str I.kIn True.intro e (fun z=>nomatch z) h
  | flt y=>obtain⟨t,q⟩:=(show ∃t,u=Value.float y t from rx);cases q;exact Cv PySem.W.kitx_float I.kIn True.intro e (fun z=>nomatch z) h
  | @lst a xs ea =>
    cases (show u=Value.ref a from rx);obtain⟨_,_,n,_,h1⟩:=(show za4 X.prog X.w H s.heap a (.lst xs) from I.hok a _ ea);exact Cv PySem.W.kitx_list I.kIn ⟨_,h1,rfl⟩ e (fun z=>nomatch z) h
  | @frz a ob xs ea =>
    cases (show u=Value.ref a from rx);obtain⟨_,_,_,n,_,h1⟩:=(show za4 X.prog X.w H s.heap a (.frz ob (.lst xs)) from I.hok a _ ea);exact Cv PySem.W.kitx_list I.kIn ⟨_,h1,rfl⟩ e (fun z=>nomatch z) h
  | @tup a xs ea =>
    cases (show u=Value.ref a from rx);obtain⟨_,_,_,p⟩:=(show za4 X.prog X.w H s.heap a (.tup xs) from I.hok a _ ea);obtain⟨o,h1,h2,_⟩:=p;exact Cv PySem.W.kitx_tuple I.kIn ⟨o,h1,h2⟩ e (fun z=>nomatch z) h
  | @dK a kvs ea =>
    cases (show u=Value.ref a from rx);obtain⟨_,_,vs,_,p⟩:=(show za4 X.prog X.w H s.heap a (.dK kvs) from I.hok a _ ea);obtain⟨o,es,ep,h1,h2,_⟩:=p;exact Cv PySem.W.kitx_dict I.kIn ⟨o,h1,h2.1⟩ e (fun z=>nomatch z) h
  | @dT a kvs ea =>
    cases (show u=Value.ref a from rx);obtain⟨_,_,xs,_,o,es,ep,h1,h2,_⟩:=(show za4 X.prog X.w H s.heap a (.dT kvs) from I.hok a _ ea);exact Cv PySem.W.kitx_dict I.kIn ⟨o,h1,h2.1⟩ e (fun z=>nomatch z) h
  | @ins a C dx fs ea cl ha hn htk hm =>
    cases (show u=Value.ref a from rx);obtain⟨mA,O,_⟩:=z3s I.hok ea;obtain⟨od,J,_⟩:=O.look;exact Cv (PySem.W.kitx_own (cl.get _) cl.hd ha hn htk hm) I.kIn J e (fun z=>nomatch z) h
end
structure Room (k:Nat) (A:Around):Prop where
 hd:A.handled=none
 dp:A.depth+3 * k+5 < recursionLimit
 un:A.units+16 * k+200 < cLine
 gd:A.guards=some []
theorem Room.mono {j k:Nat}{A:Around}(r:Room k A)(h:j<=k):Room j A:=⟨r.hd,by have:=r.dp;omega,by have:=r.un;omega,r.gd⟩
theorem Room.deeper {k:Nat}{A:Around}(r:Room (k+1) A)(env:Env):Room k (A.deeper env) :=
 ⟨r.hd,by have:=r.dp;show A.depth+1+3 * k+5 < _;omega,by have:=r.un;show A.units+3+16 * k+200 < _;omega,r.gd⟩
theorem Room.depth {k:Nat}{A:Around}(r:Room k A):A.depth < recursionLimit:=by have:=r.dp;omega
noncomputable def tNil:TA:=fun _ H Q=>Q [] H
noncomputable def zfg (ta:TE) (tr:TA):TA:=fun σ H Q=>ta σ H fun x H1=>tr σ H1 fun xs H2=>Q (x::xs) H2
section
variable {X:Cx}{e:Expr}{es:List Expr}{te:TE}{t:TA}{pos:Pos}
theorem zfc:PA X [] tNil:=fun _ _ _ _ H Q I h=>Calls.spliced_nil ⟨[],H,I,.nil,h⟩
theorem zu7 (ha:PE X e te)(hr:PA X es t)(hs:starEach (e::es) X.env=(false,eval e X.env)::starEach es X.env:=by rfl):PA X (e::es) (zfg te t):=by
 intro pos pins s σ H Q I h;rw[hs];show wpAny _ _ (spliced ((false,eval e X.env)::backTo pos (starEach es X.env))) _ _ s;refine Calls.spliced_cons (thn (ha pins s σ H _ I h) fun u s1 ⟨x,H1,I1,r1,q1⟩=>?_);exact thn (hr pos pins s1 σ H1 _ I1 q1) fun us s2 ⟨xs,H2,I2,r2,q2⟩=>⟨x::xs,H2,I2,.cons r1 r2,q2⟩
noncomputable def tTup (t:TA):TE:=fun σ H Q=>t σ H fun xs H1=>xs.length<=sizeLine/\∀p,H1 p=none->Q (.ref p) (upd H1 p (.tup xs))
noncomputable def tLst (t:TA):TE:=fun σ H Q=>t σ H fun xs H1=>xs.length<=sizeLine/\∀p,H1 p=none->Q (.ref p) (upd H1 p (.lst xs))
theorem z6l {x1}(h:PA X es t):PE X (.Tuple es x1 pos) (tTup t):=by
 intro pins s σ H Q I hq;refine wpAny_Tuple_spliced (thn (h pos pins s σ H _ I hq) fun us s1 ⟨xs,H1,I1,r,z,q⟩=>⟨by rw[<-r.length];exact z,?_⟩);have hf:H1 s1.heap.objs.size=none:=I1.hok.fresh (Ag _);refine⟨.ref s1.heap.objs.size,upd H1 s1.heap.objs.size (.tup xs),I1.laid (t':=s1.toks) (fun b u e=>Ae _ e) (Ag _) ?_,rfl,q _ hf⟩;exact⟨z,us,r,⟨_,Ay _ rfl,rfl,_,rfl⟩⟩
theorem z5l (h:PA X es t):PE X (.List es pos) (tLst t):=by
 intro pins s σ H Q I hq;refine wpAny_List_spliced (thn (h pos pins s σ H _ I hq) fun us s1 ⟨xs,H1,I1,r,z,q⟩=>⟨by rw[<-r.length];exact z,?_⟩);have hf:H1 s1.heap.objs.size=none:=I1.hok.fresh (Ag _);refine⟨.ref s1.heap.objs.size,upd H1 s1.heap.objs.size (.lst xs),I1.laid (t':=s1.toks) (fun b u e=>Ae _ e) (Ag _) ?_,rfl,q _ hf⟩;exact⟨z,us,0,r,Ay _ rfl⟩
end
noncomputable abbrev Sp:=List V->Hp->VK->XK->Prop
noncomputable abbrev CXT:=List Env->Hp->Shared->XK->Value->Shared->Prop
structure Env0 (P:Program) (w:World) (K:PySem.W.Frag) (mg:Str->Option Value) (base:Heap) (A:Around) (outer:List Env) (s:Shared) (H:Hp):Prop where
 frames:A.frames=some outer
 mod:Mod K mg base
 bs:∀b o,base.get? b=some o->s.heap.get? b=some o/\H b=none
 bsz:base.objs.size<=s.heap.objs.size
 funs:s.heap.FunFrames base outer
 frf:∀b∈frs outer,H b=none
 hok:HOk P w H s.heap
 bare:AllBare s.gens
noncomputable def CE (outer:List Env) (P:Program) (w:World) (H:Hp) (s:Shared) (Q:VK) (u:Value) (s' : Shared):Prop :=
 ∃v H',s'.os=s.os/\AllBare s'.gens/\Un (frs outer) [] H H' s.heap s'.heap/\HOk P w H' s'.heap/\RelV v u/\Q v H'
noncomputable def CR (CX:CXT) (outer:List Env) (P:Program) (w:World) (H:Hp) (s:Shared) (Q:VK) (E:XK) (r:Result) (s' : Shared):Prop :=
 match r with
 | .ok (.ret u)=>CE outer P w H s Q u s'
 | .ok _=>False
 | .error e=>CX outer H s E e s'
structure FnOk (P:Program) (w:World) (K:PySem.W.Frag) (mg:Str->Option Value) (base:Heap) (CX:CXT) (k:Nat) (f:Addr) (fd:FuncData) (ps:List Str) (sp:Sp):Prop where
 len:∀vs H Q E,sp vs H Q E->vs.length=ps.length
 run:∀(A:Around) (outer:List Env) (s:Shared) (H:Hp) (args:Args) (us:List Value) (vs:List V) (Q:VK) (E:XK),Room k A->Env0 P w K mg base A outer s H->BindsTo s fd args (ps.zip us)->Vals vs us->sp vs H Q E ->
  codeAny (model P w) A (.call (.ref f) args) (CR CX outer P w H s Q E) s
section
variable {X:Cx}{pins:List (Addr × Obj)}{σ:St}{H:Hp}{s s' : Shared}
theorem Inv.env0 (I:Inv X pins σ H s):Env0 X.prog X.w X.K X.mg X.base X.A X.stack s H :=
 ⟨I.ok.frames,I.ok.mod,I.bs,Cy I.ok.bsz I.sz,I.stack,I.stkFree,I.hok,I.bare⟩
theorem Inv.after {Q:VK}{u:Value}(I:Inv X pins σ H s)(h:CE X.stack X.prog X.w H s Q u s'):EP X pins σ Q u s':=by
 nofun;obtain⟨v,H',os,bare,un,hok,r,q⟩:=h;obtain⟨hh,g,d,t,os'⟩:=s';ac_rfl;obtain rfl:os'=s.os:=os;exact⟨v,H',I.call (h':=hh) (g':=g) (d':=d) (t':=t) (ch:=[]) un hok bare (fun b z=>absurd z (by simp)),r,q⟩
end
noncomputable def z12 (sp:Sp) (dvs:List V) (E:XK) (t:TA):TE:=fun σ H Q=>t σ H fun vs H1=>sp (vs++dvs) H1 Q E
noncomputable def znc (K:PySem.W.Frag) (fd:FuncData) (ps:List Str) (ds:List Value):Prop :=
 ∀(s:Shared) (us:List Value),K.In s.heap->(us++ds).length=ps.length->BindsTo s fd ⟨us,[]⟩ (ps.zip (us++ds))
theorem znc.all {K:PySem.W.Frag}{fd:FuncData}{ps:List Str}(h:∀us:List Value,us.length=ps.length->bindArgs fd ⟨us,[]⟩=pure (ps.zip us)):znc K fd ps []:=fun s us _ hl=>by
 rw[Bt] at hl ⊢;exact .of_eq (h us hl)
noncomputable def zv6 (CX:CXT) (X:Cx) (E:XK):Prop:=∀(pins:List (Addr × Obj)) (σ:St) (H:Hp) (s:Shared) (e:Value) (s' : Shared),Inv X pins σ H s->CX X.stack H s E e s'->X.xe e s'
section
variable {X:Cx}{CX:CXT}{k:Nat}{f C:Addr}{fd:FuncData}{ps:List Str}{sp:Sp}{dvs:List V}{ds:List Value}{E:XK}{x m:Str}{p pos apos:Pos}{e o:Expr}{es:List Expr}{ta:TE}{t:TA}
theorem z8f {pins:List (Addr × Obj)}{σ:St}{H:Hp}{s:Shared}{Q:VK}{us:List Value}{vs:List V} (F:FnOk X.prog X.w X.K X.mg X.base CX k f fd ps sp) (hr:Room k X.A) (hb:znc X.K fd ps ds) (hd:Vals dvs ds) (hx:zv6 CX X E)
    (I:Inv X pins σ H s) (r:Vals vs us) (h:sp (vs++dvs) H Q E):wpAny (model X.prog X.w) X.A (call (.ref f) us) (EP X pins σ Q) X.xe s:=by
  have r2:Vals (vs++dvs) (us++ds):=r.append hd;have hl:(us++ds).length=ps.length:=by rw[<-r2.length];exact F.len _ _ _ _ h
  refine wpAny_call (codeAny_mono (F.run X.A X.stack s H ⟨us,[]⟩ (us++ds) (vs++dvs) Q E hr I.env0 (hb s us I.kIn hl) r2 h) fun r s' hq=>?_);cases r with
  | error e=>exact hx pins σ H s e s' I hq
  | ok fl =>
    cases fl with
    | ret u=>exact I.after hq
    | next=>exact False.elim hq
    | brk=>exact False.elim hq
    | cont=>exact False.elim hq
theorem z1u (F:FnOk X.prog X.w X.K X.mg X.base CX k f fd ps sp) (hr:Room k X.A) (hg:Gl X x) (hm:X.mg x=some (.ref f)) (hk:PySem.W.keepIn X.K (.ref f)=true) (hb:znc X.K fd ps ds) (hd:Vals dvs ds) (hx:zv6 CX X E)
  (ha:PA X (e::es) t) (hdb:(x == ("__debug__" : Str))=false:=by decide) (he:starEach (e::es) X.env=(false,eval e X.env)::starEach es X.env:=by rfl) (hpl:(backTo pos (starEach es X.env)).any (·.1)=false:=by rfl) :
  PE X (.Call (.Name x p) (e::es) [] pos) (z12 sp dvs E t):=by
 intro pins s σ H Q I h;refine Gr (z26 I hg hm ?_ hdb);refine PySem.W.callWith_K (h₀:=X.base) I.ok.mod.kin hk (thn (ha pos pins s σ H _ I h) fun us s1 ⟨vs,H1,I1,r,q⟩=>⟨I1.kIn,?_⟩) he hpl;exact z8f F hr hb hd hx I1 r q
end
section
variable {X:Cx}{CX:CXT}{k:Nat}{f C:Addr}{fd:FuncData}{ps ks:List Str}{sp:Sp}{E:XK}{x m:Str}{p pos apos kpos:Pos}{e o:Expr}{es:List Expr}{kws:List Keyword}{te ta:TE}{t tk:TA}{nm:Option Str}
variable {g:List Value->List Value->List Value}{gV:List V->List V->List V}
end
structure FnScope (N P:List Str) (sc:Scope):Prop where
 kind:sc.kind=.function
 co:sc.isCoroutine=false
 gen:sc.isGenerator=false
 nd:N.Nodup
 pre:N.take P.length=P
 par:∀x∈P,sc.names.lookup x=some .local\/sc.names.lookup x=some .cell
 nofree:∀y∈sc.names,y.2≠.free
theorem zld {kindOf:Str->Option NameKind}{x:Str}:∀{binds:List (Str × Value)}{m:Str->Option Value},(∀v,(x,v) ∉ binds)->bindL kindOf binds m x=m x
  | [],_,_=>rfl
  | (n,v)::r,m,h=>by
    unfold bindL;rw[zld fun w hw=>h w (Aj _ hw)];split
    · have : x ≠ n := by rintro rfl; exact h v Ak
      simp [this]
    · rfl
theorem zky {kindOf:Str->Option NameKind}{x:Str}:∀{binds:List (Str × Value)}{m:Str->Option Value},(∀v,(x,v) ∉ binds)->bindC kindOf binds m x=m x
  | [],_,_=>rfl
  | (n,v)::r,m,h=>by
    unfold bindC;rw[zky fun w hw=>h w (Aj _ hw)];split
    · rfl
    · have : x ≠ n := by rintro rfl; exact h v Ak
      simp [this]
theorem zk5 {kindOf:Str->Option NameKind}{x:Str}{v:Value}:∀{P:List Str}{vs:List Value}{i:Nat}{m:Str->Option Value},P.Nodup->P[i]?=some x->vs[i]?=some v->kindOf x=some .local ->
    bindL kindOf (P.zip vs) m x=some v
  | [],_,_,_,_,h,_,_=>by simp at h
  | _::_,[],_,_,_,_,h,_=>by simp at h
  | p::P,w::vs,0,m,nd,h1,h2,hk=>by
    simp at h1 h2;subst h1;subst h2;show bindL kindOf ((p,w)::P.zip vs) m p=_;unfold bindL;rw[zld fun v hv=>(Cm.mp nd).1 (List.of_mem_zip hv).1,if_pos hk];simp
  | p::P,w::vs,i+1,m,nd,h1,h2,hk=>by
    show bindL kindOf ((p,w)::P.zip vs) m x=_;unfold bindL;exact zk5 (i:=i) (Cm.mp nd).2 (by simpa using h1) (by simpa using h2) hk
theorem zlc {kindOf:Str->Option NameKind}{x:Str}{v:Value}:∀{P:List Str}{vs:List Value}{i:Nat}{m:Str->Option Value},P.Nodup->P[i]?=some x->vs[i]?=some v->kindOf x≠some .local ->
    bindC kindOf (P.zip vs) m x=some v
  | [],_,_,_,_,h,_,_=>by simp at h
  | _::_,[],_,_,_,_,h,_=>by simp at h
  | p::P,w::vs,0,m,nd,h1,h2,hk=>by
    simp at h1 h2;subst h1;subst h2;show bindC kindOf ((p,w)::P.zip vs) m p=_;unfold bindC;rw[zky fun v hv=>(Cm.mp nd).1 (List.of_mem_zip hv).1,if_neg hk];simp
  | p::P,w::vs,i+1,m,nd,h1,h2,hk=>by
    show bindC kindOf ((p,w)::P.zip vs) m x=_;unfold bindC;exact zlc (i:=i) (Cm.mp nd).2 (by simpa using h1) (by simpa using h2) hk
noncomputable def start (N:List Str) (vs:List V):St:=vs.map some++List.replicate (N.length - vs.length) none
noncomputable def cxOf (CX:CXT) (P:Program) (w:World) (K:PySem.W.Frag) (mg:Str->Option Value) (base:Heap) (N:List Str) (qual:Str) (scope:Scope) (f:Addr) (cd:Value) (A:Around) (outer:List Env) (s:Shared) (H:Hp) (E:XK):Cx where
 prog:=P
 w:=w
 K:=K
 mg:=mg
 base:=base
 A:=A.deeper (envOfC qual scope s.heap.objs.size f cd)
 N:=N
 s₀:=s
 H₀:=H
 env:=envOfC qual scope s.heap.objs.size f cd
 outer:=outer
 stack:=envOfC qual scope s.heap.objs.size f cd::outer
 ex:=[]
 calm:=true
 fn:=fun _=>true
 pn:=[]
 xe:=fun e s'=>wpAny (model P w) (A.deeper (envOfC qual scope s.heap.objs.size f cd)) (leaving (envOfC qual scope s.heap.objs.size f cd) e) (fun _ s''=>CX outer H s E e s'') (fun e' s''=>CX outer H s E e' s'') s'
theorem cell_has {sc:Scope}{n:Nat}{x:Str}(h:sc.names.lookup x=some .cell):∃c,(cellsFrom n sc.names []).lookup x=some c:=by
 have q:=PySem.W.cellsFrom_some sc.names n [] (.inl h);exact Gp.mp q
theorem zuz {CX:CXT}{P:Program}{w:World}{K:PySem.W.Frag}{mg:Str->Option Value}{base:Heap}{N ps:List Str}{qual:Str}{scope:Scope}{f:Addr}{cd:Value}{A:Around}{outer:List Env}{s s1:Shared}{H:Hp}{E:XK}{us:List Value}{vs:List V}
  (S:FnScope N ps scope) (hd:A.handled=none) (e0:Env0 P w K mg base A outer s H) (hl:vs.length=ps.length) (r:Vals vs us)
  (x:InCallC s s.heap.objs.size (bindL (envOfC qual scope s.heap.objs.size f cd).kindOf (ps.zip us) fun _=>none) (cellsFrom (s.heap.objs.size+1) scope.names []) (bindC (envOfC qual scope s.heap.objs.size f cd).kindOf (ps.zip us) fun _=>none) s1) :
  Inv (cxOf CX P w K mg base N qual scope f cd A outer s H E) [] (start N vs) H s1:=by
 have hpl:ps.length<=N.length:=by have:=congrArg List.length S.pre;rw[Df] at this;omega
 obtain⟨h1,tk,rfl,hk⟩:=x.done;have noA:∀b:Addr,b ∉ (cxOf CX P w K mg base N qual scope f cd A outer s H E).ex:=fun b z=>absurd (show b∈([]:List Addr) from z) (by simp);refine⟨⟨e0.mod,S.kind,rfl,rfl,Ag _,fun y z c h1 h2=>?_,fun y hy=>?_,fun y c _ h=>?_,fun _=>hd,Around.frames_deeper e0.frames,.inr ⟨rfl,rfl⟩,fun b z=>absurd z (noA b),e0.bs,e0.bsz,fun b _ _=>noA b,fun b z=>absurd z (noA b),e0.funs,e0.frf⟩,
  rfl,e0.bare,Un.kept hk,⟨_,x.toInCall.ns,fun i y v h1 h2 h3=>?_⟩,fun y c h=>⟨_,x.cell y c h⟩,e0.hok.fresh (Ag _),fun y c h=>?_,fun p hp=>absurd (show p∈([]:List (Addr × Obj)) from hp) (by simp),e0.hok.kept hk,?_⟩
 ·exact name_of_addr x.apart (Bu h1) (Bu h2)
 ·have hy : scope.names.lookup y = some .cell \/ scope.names.lookup y = some .free := hy;rcases hy with hy | hy
  ·exact cell_has hy
  ·exact absurd rfl (S.nofree _ (Bu hy))
 ·exact Nat.le_of_lt (x.above y c (Bu h))
 ·have hi:i < vs.length:=by
   unfold start at h2;by_cases hi:i < vs.length
   ·exact hi
   ·rw[Ez (by simpa using hi)] at h2;rw[List.getElem?_replicate] at h2;split at h2<;>cases h2
  have ha:vs[i]?=some v:=by
   unfold start at h2;rw[De (by simpa using hi),Am] at h2;cases e:vs[i]? with
   | none=>rw[e] at h2;cases h2
   | some a=>rw[e] at h2;cases h2;rfl
  obtain⟨u,hu,rv⟩:=r.get ha;have hp:ps[i]?=some y:=by
   rw[<-S.pre,List.getElem?_take_of_lt #v[]];exact h1
  have ndP:ps.Nodup:=by rw[<-S.pre];exact S.nd.sublist (Fs _ _)
  refine⟨u,rv,?_⟩;rcases S.par y (At hp) with k | k
  ·exact .inl ⟨k,zk5 ndP hp hu k⟩
  ·obtain⟨c, e⟩ := cell_has (n := s.heap.objs.size + 1) k;refine .inr ⟨.inl k,c,e,?_⟩;have q:=x.cell y c e;rw[zlc ndP hp hu (by show scope.names.lookup y≠_;rw[k];decide)] at q;exact q
 ·exact e0.hok.fresh (Nat.le_of_lt (x.above y c (Bu h)))
 ·unfold start;show _=N.length;rw[Bf,Aa,Eu];omega
theorem ybc {CX:CXT}{P:Program}{w:World}{K:PySem.W.Frag}{mg:Str->Option Value}{base:Heap}{k:Nat}{f:Addr}{name qual:Str}{params:Arguments}{body:List Stmt}{scope:Scope}{dV kV doc pm cdv ct oc:Value}{an od:Option Addr}
    {osl:Array (Option Value)}{N ps:List Str}{sp:Sp} (lk:K.lookup f=some ⟨oc,od,.func (PySem.W.fnOf name qual params body scope dV kV doc pm an cdv ct),osl⟩) (hcd:PySem.W.codeIn K cdv qual=true) (S:FnScope N ps scope)
    (len:∀vs H Q E,sp vs H Q E->vs.length=ps.length)
    (hbody:∀(A:Around) (outer:List Env) (s:Shared) (H:Hp) (vs:List V) (Q:VK) (E:XK),(Room k (A.deeper (envOfC qual scope s.heap.objs.size f cdv))/\Room (k+1) A)->sp vs H Q E ->
      ∃t,PSs (cxOf CX P w K mg base N qual scope f cdv A outer s H E) body t/\t { nx:=fun _ H'=>Q .non H',rt:=Q } (start N vs) H) :
    FnOk P w K mg base CX (k+1) f (PySem.W.fnOf name qual params body scope dV kV doc pm an cdv ct) ps sp:=by
  refine ⟨len,fun A outer s H args us vs Q E hr e0 hb r hsp=>?_⟩;have hl:=len _ _ _ _ hsp;have KX:K.In s.heap:=e0.mod.kin.keeps fun b o e=>(e0.bs b o e).1;have lim:s.heap.NoLimit:=e0.mod.nolimit.keeps fun b o e=>(e0.bs b o e).1;have hkind:∀y∈ps.zip us,scope.names.lookup y.1=some .local\/(scope.names.lookup y.1=some .cell/\((cellsFrom (s.heap.objs.size+1) scope.names []).lookup y.1).isSome=true):=fun ⟨n,v⟩ hy=>by
    rcases S.par n (List.of_mem_zip hy).1 with q | q
    · exact .inl q
    · exact .inr ⟨q,PySem.W.cellsFrom_some _ _ _ (.inl q)⟩
  refine codeAny_call_function hr.depth (KX _ _ lk) rfl S.co S.gen rfl (PySem.W.codeRec_of KX hcd) (hb _ _ _ _ ?_);refine wpAny_newFunctionEnv_cells S.kind hkind fun env he s1 x=>?_;subst he;refine ⟨lim.keeps x.toInCall.keep,codeAny_func ?_⟩;obtain ⟨t,ht,hq⟩:=hbody A outer s H vs Q E ⟨hr.deeper _,hr⟩ hsp;have I:Inv (cxOf CX P w K mg base N qual scope f cdv A outer s H E) [] (start N vs) H s1:=zuz S hr.hd e0 hl r x;refine Ei (ht [] s1 (start N vs) H _ I hq) (fun fl s' hs=>?_) fun e s' hs=>hs;have fin:∀{σ' : St}{H' : Hp}{v:V}{u:Value},Inv (cxOf CX P w K mg base N qual scope f cdv A outer s H E) [] σ' H' s'->RelV v u->Q v H'->CE outer P w H s Q u s' :=
    fun {σ' H' v u} J rv q=>⟨v,H',J.os,J.bare,J.base,J.hok,rv,q⟩
  cases fl with
  | ret u =>
    obtain⟨v,σ',H',J,rv,q⟩:=hs;exact fin J rv q
  | next =>
    obtain⟨σ',H',J,q⟩:=hs;exact fin (v:=V.non) (u:=Value.none) J rfl q
  | brk =>
    obtain⟨_,_,_,q⟩:=hs;exact False.elim q
  | cont =>
    obtain⟨_,_,_,q⟩:=hs;exact False.elim q
section
variable {X:Cx}{x:Str}{p pos:Pos}{e:Expr}{es:List Expr}{t:TA}{id T:String}{r:List V->Hp->VK->Prop}
noncomputable def tCB (r:List V->Hp->VK->Prop) (t:TA):TE:=fun σ H Q=>t σ H fun vs H1=>r vs H1 Q
theorem zbv (hc:zcr X (.builtin id) r) (hg:Gl X x) (hm:X.mg x=none) (hv:bootBuiltins x=some (.builtin id)) (ha:PA X (e::es) t) (hn:x≠"__name__" := by decide) (hdb:(x == ("__debug__" : Str))=false:=by decide)
  (he:starEach (e::es) X.env=(false,eval e X.env)::starEach es X.env:=by rfl) (hpl:(backTo pos (starEach es X.env)).any (·.1)=false:=by rfl):PE X (.Call (.Name x p) (e::es) [] pos) (tCB r t):=by
 intro pins s σ H Q I h;refine Gr (ze8 I hg hm hv ?_ hn hdb);exact PyProof.Rows.callWith_builtin1 (thn (ha pos pins s σ H _ I h) fun us s1 ⟨vs,H1,I1,r1,q1⟩=>hc pins s1 σ H1 vs us Q I1 r1 q1) he hpl
theorem zea (hc:zcr X (.type T) r) (hg:Gl X x) (hm:X.mg x=none) (hv:bootBuiltins x=some (.type T)) (ha:PA X (e::es) t) (hn:x≠"__name__" := by decide) (hdb:(x == ("__debug__" : Str))=false:=by decide)
  (he:starEach (e::es) X.env=(false,eval e X.env)::starEach es X.env:=by rfl) (hpl:(backTo pos (starEach es X.env)).any (·.1)=false:=by rfl):PE X (.Call (.Name x p) (e::es) [] pos) (tCB r t):=by
 intro pins s σ H Q I h;refine Gr (ze8 I hg hm hv ?_ hn hdb);exact Dm (thn (ha pos pins s σ H _ I h) fun us s1 ⟨vs,H1,I1,r1,q1⟩=>hc pins s1 σ H1 vs us Q I1 r1 q1) he hpl
end
end L2
namespace HT
open PySem PyProof.Rows
section
open PySem.SeqAt
open PySem.AutoSeq1 (wpAny_loadPart')
open PySem.MeetsSeq PySem.MeetsSeq2 PySem.MeetsSeq3
end
section
variable {prog:Program}{w:World}{A:Around}{E:Value->Shared->Prop}{s:Shared}
theorem cat_tup {t b:Addr}{vs ws:List Value}{Q:Value->Shared->Prop} (ht:IsTup s.heap t vs.toArray) (hb:IsTup s.heap b ws.toArray) (hv:vs≠[])
  (h1:ws=[]->Q (.ref t) s) (h2:ws≠[]->Q (.ref s.heap.objs.size) { s with heap:=s.heap.push { cls:=.type "tuple",data:=.seq (vs++ws).toArray } })
  (hsz:vs.length+ws.length<=sizeLine):wpAny (model prog w) A (binaryOp .Add (.ref t) (.ref b)) Q E s:=by
 obtain⟨⟨cls,dd,data,sl⟩,ho,hc,n,hd⟩:=id ht;obtain⟨⟨cls2,dd2,data2,sl2⟩,ho2,hc2,n2,hd2⟩:=id hb;simp only at hc hd hc2 hd2;subst hc hd hc2 hd2;have e:vs.toArray++ws.toArray=(vs++ws).toArray:=by simp
 by_cases hw:ws=[]
 ·exact concat_meets ⟨_,ho,rfl⟩ ⟨_,ho2,rfl⟩ noFill_tuple_add seq_tuple_add PySem.F.slot_tuple_add PySem.F.entry_tuple_add (Gn _ _)
   (tuple_addW1 t b vs.toArray ws.toArray n n2 dd dd2 sl sl2 (by simpa using hv) (by simp [hw])) ⟨ho,ho2,h1 hw⟩
 ·refine concat_meets ⟨_,ho,rfl⟩ ⟨_,ho2,rfl⟩ noFill_tuple_add seq_tuple_add PySem.F.slot_tuple_add PySem.F.entry_tuple_add (Gn _ _)
   (tuple_addW2 t b vs.toArray ws.toArray n n2 dd dd2 sl sl2 (by simpa using hv) (by simpa using hw) (by rw[Au,Au];exact hsz)) ⟨ho,ho2,?_⟩
  rw[e];exact h2 hw
noncomputable def sIx (n d:Nat):Option Int->Nat
 | none=>d
 | some v=>if v < 0 then (v+(n:Int)).toNat else min v.toNat n
theorem sIx_nat (n d k:Nat):sIx n d (some (k:Int))=min k n:=by
 show (if (k:Int) < 0 then ((k:Int)+(n:Int)).toNat else min (k:Int).toNat n)=min k n;rw[if_neg #v[],Dx]
theorem z8s (n d:Nat) (hd:d<=n) (o:Option Int):sIx n d o<=n:=by
  cases o with
  | none=>exact hd
  | some v =>
    show (if v < 0 then (v+(n:Int)).toNat else min v.toNat n)<=n;by_cases hv:v < 0
    · rw[if_pos hv];omega
    · rw[if_neg hv];exact Nat.min_le_right _ _
theorem zr7 (v:Int)(n d:Nat):(if v < 0 then max (v+(n:Int)) 0 else min v (n:Int))=((sIx n d (some v):Nat):Int):=by
 show (if v < 0 then max (v+(n:Int)) 0 else min v (n:Int))=(((if v < 0 then (v+(n:Int)).toNat else min v.toNat n):Nat):Int);by_cases hv:v < 0
 ·simp only [if_pos hv];omega
 ·simp only [if_neg hv];omega
theorem zqz (lo hi:Option Int)(n:Nat):Builtin.Slice.sliceAdjust lo hi 1 (n:Int)=(((sIx n 0 lo:Nat):Int),((sIx n n hi:Nat):Int)):=by
 have h1:¬ ((1:Int) < 0):=by omega
 unfold Builtin.Slice.sliceAdjust;simp only [h1,if_false];refine Prod.ext ?_ ?_
 ·cases lo with
  | none=>rfl
  | some v=>exact zr7 v n 0
 ·cases hi with
  | none=>rfl
  | some v=>exact zr7 v n n
theorem zqu (i j:Nat):Builtin.Slice.slicePlaces (i:Int) (j:Int) 1=j - i:=by
 unfold Builtin.Slice.slicePlaces;have h1:(1:Int) > 0:=by omega
 simp only [h1,Fa,Int.ediv_one];split<;>omega
theorem zhr {v:Value}{o:Option Int}{Q:Option Int->Shared->Prop}(p:IsPart v o)(h:Q o s):wpAny (model prog w) A (Builtin.Slice.slicePartIndex v) Q E s:=by
 cases p with
 | none=>exact slicePart_none h
 | int i t=>exact slicePart_int h
theorem zc8 {sl:Addr}{vl vu:Value}{lo hi:Option Int}{n:Nat}{Q:Int × Int × Nat->Shared->Prop} (hs:s.heap.IsSliceOf sl vl vu .none) (pl:IsPart vl lo) (pu:IsPart vu hi)
  (h:Q (((sIx n 0 lo:Nat):Int),1,sIx n n hi - sIx n 0 lo) s):wpAny (model prog w) A (Builtin.Slice.sliceApplied (.ref sl) (pure (n:Int))) Q E s:=by
 obtain⟨os,hos,hcs,hds⟩:=id hs;unfold Builtin.Slice.sliceApplied Builtin.Slice.sliceFields;refine Ab (Ab (Cz hos hds (x:=vl) rfl (Ab (Cz hos hds (x:=vu) rfl (Ab (Cz hos hds (x:=.none) rfl (Av ?_)))))));refine Ab (slicePart_none ?_);show wpAny _ _ (if ((1:Int) == 0)=true then _ else _) _ _ s;rw[if_neg #v[0,9]];refine Ab (zhr pl (Ab (zhr pu (Ab (Av ?_)))));show wpAny _ _ (match Builtin.Slice.sliceAdjust lo hi 1 (n:Int) with | (lo,hi)=>pure (lo,(1:Int),Builtin.Slice.slicePlaces lo hi 1)) _ _ s;rw[zqz lo hi n];show wpAny _ _ (pure (((sIx n 0 lo:Nat):Int),(1:Int),Builtin.Slice.slicePlaces ((sIx n 0 lo:Nat):Int) ((sIx n n hi:Nat):Int) 1)) _ _ s;rw[zqu];exact Av h
theorem zzh (xs:Array Value)(i k:Nat):((List.range k).filterMap fun (m:Nat)=>xs[((i:Int)+(m:Int) * 1).toNat]?).toArray=((xs.toList.drop i).take k).toArray:=by
 have e:(fun (m:Nat)=>xs[((i:Int)+(m:Int) * 1).toNat]?)=fun m=>xs[i+m]?:=by
  funext m
  have:((i:Int)+(m:Int) * 1).toNat=i+m:=by omega
  rw[this]
 rw[e];have:=pick_run xs i k;rw[List.filterMap_map] at this;have e2:((fun x=>xs[x]?) ∘ fun x=>i+x)=fun m=>xs[i+m]?:=rfl;rw[e2] at this;rw[this]
theorem getItem_tuple_cut {t sl:Addr}{items:Array Value}{vl vu:Value}{lo hi:Option Int}{Q:Value->Shared->Prop} (ht:IsTup s.heap t items) (hs:s.heap.IsSliceOf sl vl vu .none) (pl:IsPart vl lo) (pu:IsPart vu hi)
  (hw:¬ (sIx items.size 0 lo=0/\sIx items.size items.size hi=items.size))
  (h:Q (.ref s.heap.objs.size) { s with heap:=s.heap.push { cls:=.type "tuple",data:=.seq ((items.toList.drop (sIx items.size 0 lo)).take (sIx items.size items.size hi - sIx items.size 0 lo)).toArray } })
  (hsz:items.size<=sizeLine):wpAny (model prog w) A (getItem (.ref t) (.ref sl)) Q E s:=by
 have htake:sizeOk (.seq ((items.toList.drop (sIx items.size 0 lo)).take (sIx items.size items.size hi - sIx items.size 0 lo)).toArray):=by
  show ((items.toList.drop (sIx items.size 0 lo)).take (sIx items.size items.size hi - sIx items.size 0 lo)).toArray.size<=sizeLine;rw[Au,Df,Fb,Cs];omega
 have hj:sIx items.size items.size hi<=items.size:=z8s _ _ (Ag _) hi;obtain⟨os,hos,hcs,hds⟩:=id hs;have hTs:s.TypeIs (.ref sl) "slice" := ⟨os,hos,hcs⟩;unfold getItem
 try with_reducible refine Ej ?_
 first | refine Ab (Av ?_) | skip
 refine Ab (wpAny_sequenceKey ht.typeIs #v[0,9] ?_);refine Ab (Db (name:=Str.ofString "__getitem__") ht.typeIs Dz
  (Es Dz ht.typeIs entry_tuple_getitem ?_ (args_tuple_getitem _ _)))
 show wpAny _ _ (Builtin.Tuple.tupleItemsOf (.ref t) >>= _) _ _ s;refine Ab (tupleItemsOf_ ht ?_);refine Ab (wpAny_typeOf hTs ?_);rw[if_pos #v[0,9]];refine Ab (zc8 hs pl pu ?_);have hno:¬ ((((sIx items.size 0 lo:Nat):Int) == 0 && (1:Int) == 1 && (sIx items.size items.size hi - sIx items.size 0 lo) == items.size)=true):=by
  intro q;rw[Ai,Ai] at q;have q1:((sIx items.size 0 lo:Nat):Int)=0:=Bw q.1.1;have q2:sIx items.size items.size hi - sIx items.size 0 lo=items.size:=Bw q.2;exact hw ⟨by omega,by omega⟩
 show wpAny _ _ (if (((sIx items.size 0 lo:Nat):Int) == 0 && (1:Int) == 1 && (sIx items.size items.size hi - sIx items.size 0 lo) == items.size)=true then _ else _) _ _ s;rw[if_neg hno,zzh]
 first
  | exact Ab (m:=Builtin.Tuple.tupleExact _) (Dp (Av ⟨_,rfl,Av h⟩) htake)
  | exact Ab (m:=Builtin.Tuple.tupleExact _) (Dp (Ab (Av (Av ⟨_,rfl,Av h⟩))) htake)
  | exact Ab (Ab (m:=Builtin.Tuple.tupleExact _) (Dp (Av (Av ⟨_,rfl,Av h⟩)) htake))
  | exact Ab (Ab (m:=Builtin.Tuple.tupleExact _) (Dp (Av ⟨_,rfl,Av h⟩) htake))
end
end HT
namespace L2
open PySem PySem.Spec PyProof.Rows
noncomputable abbrev TO:=St->Hp->(Option Int->Hp->Prop)->Prop
noncomputable def PO (X:Cx) (e:Option Expr) (t:TO):Prop :=
  ∀(pins:List (Addr × Obj)) (s:Shared) (σ:St) (H:Hp) (Q:Option Int->Hp->Prop),Inv X pins σ H s->t σ H Q ->
    wpAny (model X.prog X.w) X.A (evalPart e X.env) (fun u s'=>∃o H',Inv X pins σ H' s'/\IsPart u o/\Q o H') X.xe s
noncomputable def zu3:TO:=fun _ H Q=>Q none H
noncomputable def z70 (t:TE):TO:=fun σ H Q=>t σ H fun x H1=>∃i,x=.int i/\Q (some i) H1
section
variable {X:Cx}{e:Expr}{te:TE}{lo hi:Option Expr}{tl th:TO}{pos p2:Pos}
theorem z0z:PO X none zu3:=by
 intro pins s σ H Q I h;rw[evalPart_none];exact Av ⟨none,H,I,.none,h⟩
theorem z3g (h:PE X e te):PO X (some e) (z70 te):=by
 intro pins s σ H Q I hw;rw[evalPart_some];refine thn (h pins s σ H _ I hw) fun u s1 ⟨x,H1,I1,r1,q1⟩=>?_;obtain⟨i,rfl,q⟩:=q1;obtain⟨t,rfl⟩:=r1;exact⟨some i,H1,I1,.int i t,q⟩
noncomputable def SlR (X:Cx) (r:V->Option Int->Option Int->Hp->VK->Prop):Prop :=
  ∀(pins:List (Addr × Obj)) (s:Shared) (σ:St) (H:Hp) (x:V) (v vl vu:Value) (lo hi:Option Int) (sl:Addr) (Q:VK),Inv X pins σ H s->RelV x v->s.heap.IsSliceOf sl vl vu .none->IsPart vl lo->IsPart vu hi->r x lo hi H Q ->
    ∃T id,typeLookup (.type T) "__getitem__" = pure (some (.builtin id))/\s.TypeIs v T/\wpAny (model X.prog X.w) X.A (getItem v (.ref sl)) (EP X pins σ Q) X.xe s
theorem SlR.or {r r' : V->Option Int->Option Int->Hp->VK->Prop}(h:SlR X r)(h' : SlR X r'):SlR X (fun x lo hi H Q=>r x lo hi H Q\/r' x lo hi H Q):=by
 intro pins s σ H x v vl vu lo hi sl Q I rx hs pl pu q;rcases q with q | q
 ·exact h pins s σ H x v vl vu lo hi sl Q I rx hs pl pu q
 ·exact h' pins s σ H x v vl vu lo hi sl Q I rx hs pl pu q
noncomputable def tSl (r:V->Option Int->Option Int->Hp->VK->Prop) (te:TE) (tl th:TO):TE:=fun σ H Q=>te σ H fun x H1=>tl σ H1 fun l H2=>th σ H2 fun u H3=>r x l u H3 Q
theorem zyh {r:V->Option Int->Option Int->Hp->VK->Prop}(hr:SlR X r)(he:PE X e te)(hl:PO X lo tl)(hu:PO X hi th):PE X (.Subscript e (.Slice lo hi none p2) pos) (tSl r te tl th):=by
 intro pins s σ H Q I h;refine Subscript_ (thn (he pins s σ H _ I h) fun v s1 ⟨x,H1,I1,r1,q1⟩=>?_);refine wpAny_Slice (thn (hl pins s1 σ H1 _ I1 q1) fun vl s2 ⟨l,H2,I2,pl,q2⟩=>thn (hu pins s2 σ H2 _ I2 q2) fun vu s3 ⟨u,H3,I3,pu,q3⟩=>?_);rw[evalPart_none];refine Av ?_;have I4:Inv X pins σ H3 { s3 with heap:=s3.heap.push { cls:=.type "slice",data:=.fields #[vl,vu,.none] } }:=I3.kept (t':=s3.toks) fun b ob q=>Ae _ q;obtain⟨T,id,hT,ht,hg⟩:=hr pins { s3 with heap:=s3.heap.push { cls:=.type "slice",data:=.fields #[vl,vu,.none] } } σ H3 x v vl vu l u s3.heap.objs.size Q I4 r1 (Heap.IsSliceOf.new ..) pl pu q3;show wpAny (model X.prog X.w) X.A (subscriptTail e (.Slice lo hi none p2) v (.ref s3.heap.objs.size)) (EP X pins σ Q) X.xe { s3 with heap:=s3.heap.push { cls:=.type "slice",data:=.fields #[vl,vu,.none] } };exact tail_any (ops:=[.ref s3.heap.objs.size,v]) ht hT hg (by with_unfolding_all rfl)
noncomputable def cutV (xs:List V) (lo hi:Option Int):List V:=(xs.drop (HT.sIx xs.length 0 lo)).take (HT.sIx xs.length xs.length hi - HT.sIx xs.length 0 lo)
theorem zfy (xs:List V)(lo hi:Option Int):(cutV xs lo hi).length<=xs.length:=by
 unfold cutV;rw[Df,Fb];omega
noncomputable def rSlT (K:PySem.W.Frag):V->Option Int->Option Int->Hp->VK->Prop:=fun x lo hi H Q=>∃a xs,x=.ref a/\SqT K H a xs /\
 ¬ (HT.sIx xs.length 0 lo=0/\HT.sIx xs.length xs.length hi=xs.length)/\∀p,H p=none->Q (.ref p) (upd H p (.tup (cutV xs lo hi)))
theorem z50:SlR X (rSlT X.K):=by
 intro pins s σ H x v vl vu lo hi sl Q I rx hs pl pu h;obtain⟨a,xs,rfl,hx,hw,q⟩:=h;cases rx;obtain⟨its,r,ht,hz⟩:=I.tuple hx;have hlen:its.toArray.size=xs.length:=by rw[Au];exact r.length.symm
 refine⟨"tuple",_,PyProof.Rows.slot_tuple_getitem.lookup,ht.typeIs,?_⟩;refine HT.getItem_tuple_cut ht hs pl pu (by rw[hlen];exact hw) ?_ (by rw[hlen];exact hz);rw[hlen];refine⟨.ref s.heap.objs.size,_,I.laid (t':=s.toks) (o:=.tup (cutV xs lo hi)) (fun b ob q=>Ae _ q) (Ag _) ?_,rfl,q _ (I.hok.fresh (Ag _))⟩;exact⟨Cy (zfy xs lo hi) hz,_,(r.drop (HT.sIx xs.length 0 lo)).take (HT.sIx xs.length xs.length hi - HT.sIx xs.length 0 lo),IsTup.new _ _⟩
noncomputable def z7p (K:PySem.W.Frag):R2:=fun x y H Q=>∃a b xs ys,x=.ref a/\y=.ref b/\SqT K H a xs/\SqT K H b ys/\xs≠[]/\xs.length+ys.length<=sizeLine /\
 (ys=[]->Q (.ref a) H)/\(ys≠[]->∀p,H p=none->Q (.ref p) (upd H p (.tup (xs++ys))))
theorem Vals.nil_iff {xs:List V}{us:List Value}(r:Vals xs us):us=[]↔xs=[]:=by
 cases r with
 | nil=>simp
 | cons _ _=>simp
theorem z2e:OpR X (binaryOp .Add) (z7p X.K):=by
 intro pins s σ H x y v u Q I rx ry h;obtain⟨a,b,xs,ys,rfl,rfl,ha,hb,hx,hz,q1,q2⟩:=h;cases rx;cases ry;obtain⟨its,r1,p1,_⟩:=I.tuple ha;obtain⟨its2,r2,p2,_⟩:=I.tuple hb;refine HT.cat_tup p1 p2 (fun z=>hx (r1.nil_iff.mp z)) (fun z=>⟨.ref a,H,I,rfl,q1 (r2.nil_iff.mp z)⟩) (fun z=>?_) (by rw[<-r1.length,<-r2.length];exact hz);refine⟨.ref s.heap.objs.size,_,I.laid (t':=s.toks) (o:=.tup (xs++ys)) (fun b ob q=>Ae _ q) (Ag _) ?_,rfl,q2 (fun w=>z (r2.nil_iff.mpr w)) _ (I.hok.fresh (Ag _))⟩;exact⟨by rw[Bf];exact hz,_,r1.append r2,IsTup.new _ _⟩
end
noncomputable def ixN (n:Nat) (i:Int):Option Nat:=if 0<=i then (if i < n then some i.toNat else none) else if -(n:Int)<=i then some (i+n).toNat else none
noncomputable def atI {α:Type} (xs:List α) (i:Int):Option α:=(ixN xs.length i).bind fun j=>xs[j]?
theorem zuf {n:Nat}{i:Int}{j:Nat}(h:ixN n i=some j):seqIndex? i n=some j/\j < n/\-(n:Int)<=i/\i < n:=by
 unfold ixN at h;by_cases h0:0<=i
 ·rw[if_pos h0] at h;by_cases h1:i < n
  ·rw[if_pos h1] at h;have e:i.toNat=j:=sI h;exact⟨by rw[seqIndex_of h0 h1,e],by omega,by omega,h1⟩
  ·rw[if_neg h1] at h;cases h
 ·rw[if_neg h0] at h;by_cases h1:-(n:Int)<=i
  ·rw[if_pos h1] at h;have e:(i+n).toNat=j:=sI h;exact⟨by rw[seqIndex_neg #v[] h1,e],by omega,h1,by omega⟩
  ·rw[if_neg h1] at h;cases h
theorem zvf {α:Type}{xs:List α}{i:Int}{v:α} (h:atI xs i=some v):∃j,seqIndex? i xs.length=some j/\xs[j]?=some v/\j < xs.length/\-(xs.length:Int)<=i/\i < xs.length:=by
  unfold atI at h;cases e:ixN xs.length i with
  | none=>rw[e] at h;cases h
  | some j =>
    rw[e] at h;obtain⟨h1,h2,h3,h4⟩:=zuf e;exact⟨j,h1,h,h2,h3,h4⟩
theorem z11 {α:Type}{xs:List α}{j:Nat}{v:α}(h:xs[j]?=some v):atI xs (j:Int)=some v:=by
 have hj:j < xs.length:=(An.mp h).1;have e:ixN xs.length (j:Int)=some j:=by
  unfold ixN;rw[if_pos #v[],if_pos #v[]];simp
 unfold atI;rw[e];exact h
noncomputable def zsd (b:Expr):Prop:=∀o i,subscripted b false o i=operate [o,i] (getItem o i)
noncomputable def IxR (X:Cx) (r:R2):Prop :=
  ∀(value slice:Expr) (pins:List (Addr × Obj)) (s:Shared) (σ:St) (H:Hp) (x y:V) (v u:Value) (Q:VK),Inv X pins σ H s->RelV x v->RelV y u->r x y H Q ->
    subscripted slice false v u=operate [v,u] (getItem v u)->wpAny (model X.prog X.w) X.A (subscriptTail value slice v u) (EP X pins σ Q) X.xe s
noncomputable def MtR (X:Cx) (id:String) (r:V->List V->Hp->VK->Prop):Prop :=
  ∀(pins:List (Addr × Obj)) (s:Shared) (σ:St) (H:Hp) (x:V) (xs:List V) (v:Value) (us:List Value) (Q:VK),Inv X pins σ H s->RelV x v->Vals xs us->r x xs H Q ->
    wpAny (model X.prog X.w) X.A (call (.builtin id) (v::us)) (EP X pins σ Q) X.xe s
section
variable {X:Cx}{a b:Expr}{ta tb:TE}{pos:Pos}
theorem IxR.or {r r' : R2}(h:IxR X r)(h' : IxR X r'):IxR X (fun x y H Q=>r x y H Q\/r' x y H Q):=by
 intro value slice pins s σ H x y v u Q I rx ry q hs;rcases q with q | q
 ·exact h value slice pins s σ H x y v u Q I rx ry q hs
 ·exact h' value slice pins s σ H x y v u Q I rx ry q hs
theorem z47 {r:R2}(hr:IxR X r)(ha:PE X a ta)(hb:PE X b tb)(hs:zsd b):PE X (.Subscript a b pos) (tOp r ta tb):=by
 intro pins s σ H Q I h;exact Subscript_ (binT ha hb I h fun v u s2 x y H2 I2 rx ry q=>hr a b pins s2 σ H2 x y v u Q I2 rx ry q (hs _ _))
noncomputable def rIxL (K:PySem.W.Frag):R2:=fun x y H Q=>∃p xs i v,x=.ref p/\y=.int i/\SqL K H p xs/\atI xs i=some v/\Q v H
noncomputable def rIxT (K:PySem.W.Frag):R2:=fun x y H Q=>∃p xs i v,x=.ref p/\y=.int i/\SqT K H p xs/\atI xs i=some v/\Q v H
theorem zul:IxR X (rIxL X.K):=by
 intro value slice pins s σ H x y v u Q I rx ry h hs;nofun;obtain⟨p,xs,i,z,rfl,rfl,hq,he,q⟩:=h;ac_rfl;cases rx;nofun;obtain⟨t,rfl⟩:=ry;obtain⟨its,r,pl,hz⟩:=I.list hq;obtain⟨j,h1,h2,h3,h4,h5⟩:=zvf he;obtain⟨w,ew,rw'⟩:=r.get h2;ac_rfl;have hl:=r.length;have hn:=zoe;have fin:EP X pins σ Q w s:=⟨z,H,I,rw',q⟩;by_cases h0:0<=i
 ·have hj:i.toNat=j:=by
   rw[seqIndex_of h0 h5] at h1;exact sI h1
  exact item_listR pl.isList h0 #v[] (by rw[hj];simpa using ew) fin hs
 ·have hj:(i+(its.toArray.size:Int)).toNat=j:=by
   rw[seqIndex_neg #v[] h4] at h1;rw[Au,<-hl];exact sI h1
  exact subscriptTail_builtinR (x:=w) pl.isList.typeIs slot_list_getitem.lookup
   (wpAny_getItem_list_neg (Q:=fun r s'=>r=w/\EP X pins σ Q r s') pl.isList #v[] (by rw[Au]<;>omega) #v[] (by rw[hj];simpa using ew) ⟨rfl,fin⟩) hs
theorem zzq:IxR X (rIxT X.K):=by
 intro value slice pins s σ H x y v u Q I rx ry h hs;obtain⟨p,xs,i,z,rfl,rfl,hq,he,q⟩:=h;cases rx;obtain⟨t,rfl⟩:=ry;obtain⟨its,r,pl,hz⟩:=I.tuple hq;obtain⟨j,h1,h2,h3,h4,h5⟩:=zvf he;obtain⟨w,ew,rw'⟩:=r.get h2;have hl:=r.length;have hn:=zoe;have fin:EP X pins σ Q w s:=⟨z,H,I,rw',q⟩;exact subscriptTail_builtinR (x:=w) pl.typeIs slot_tuple_getitem.lookup
  (getItem_tuple (j:=j) (Q:=fun r s'=>r=w/\EP X pins σ Q r s') pl #v[] #v[] (by rw[Au,<-hl];exact h1) (by simpa using ew) ⟨rfl,fin⟩) hs
theorem zp2 (its:List Value)(n j:Nat)(u:Value):Obj.mapSeq (·.setIfInBounds j u) { cls:=.type "list",data:=.seq its.toArray n }={ cls:=.type "list",data:=.seq (its.set j u).toArray n }:=by
 simp [Obj.mapSeq]
theorem Inv.lst {pins:List (Addr × Obj)}{σ:St}{H:Hp}{s:Shared}{p:Addr}{xs:List V} (I:Inv X pins σ H s) (h:H p=some (.lst xs)) :
  ∃(its:List Value) (n:Nat),Vals xs its/\s.heap.get? p=some { cls:=.type "list",data:=.seq its.toArray n }/\xs.length<=sizeLine:=by
 nofun;obtain⟨z,its,n,r,e⟩:=I.hok p _ h;ac_rfl;exact⟨its,n,r,e,z⟩
theorem Inv.lstUpd {pins:List (Addr × Obj)}{σ:St}{H:Hp}{s:Shared}{p:Addr}{xs ys:List V}{its its' : List Value}{n n' : Nat}{f:Obj->Obj} (I:Inv X pins σ H s) (h:H p=some (.lst xs))
  (ho:s.heap.get? p=some { cls:=.type "list",data:=.seq its.toArray n }) (hf:f { cls:=.type "list",data:=.seq its.toArray n }={ cls:=.type "list",data:=.seq its'.toArray n' }) (r:Vals ys its') (hz:ys.length<=sizeLine) (t:Nat) :
  Inv X pins σ (upd H p (.lst ys)) { s with heap:=s.heap.update p f,toks:=t }:=by
 have e:(s.heap.update p f).get? p=some { cls:=.type "list",data:=.seq its'.toArray n' }:=by
  rw[Heap.get?_update_self f ho (by rw[hf]<;>rfl),hf]
 refine I.write (x:=p) (e:=p) (by rw[h];trivial) (.inl rfl) (fun b u hb q=>(Heap.get?_update_other _ _ (Ne.symm hb)).trans q) ⟨_,e⟩ ?_;exact⟨hz,its',n',r,e⟩
noncomputable def z4c:V->V->V->Hp->(Hp->Prop)->Prop:=fun o i v H Q=>∃p xs k j,o=.ref p/\i=.int k/\H p=some (.lst xs)/\ixN xs.length k=some j/\Q (upd H p (.lst (xs.set j v)))
theorem zpu:PSet X z4c:=by
 intro pins s σ H o i v ov iv u Q I ro ri rv h;nofun;obtain⟨p,xs,k,j,rfl,rfl,hp,hj,q⟩:=h;ac_rfl;cases ro;nofun;obtain⟨t,rfl⟩:=ri;obtain⟨its,n,r,ho,hz⟩:=I.lst hp;obtain⟨h1,h2,h3,h4⟩:=zuf hj;ac_rfl;have hl:=r.length;have hn:=zoe;have I' : Inv X pins σ (upd H p (.lst (xs.set j v))) { s with heap:=s.heap.update p (Obj.mapSeq (·.setIfInBounds j u)) } :=
  I.lstUpd hp ho (zp2 its n j u) (r.set rv j) (by rw[Fg];exact hz) s.toks
 by_cases h0:0<=k
 ·have hk:k.toNat=j:=by
   rw[seqIndex_of h0 h4] at h1;exact sI h1
  exact PySem.W.ki_setAt ho h0 #v[] (by rw[Au,<-hl];exact h4) (by rw[hk];exact⟨_,I',q⟩)
 ·have hk:(k+(its.toArray.size:Int)).toNat=j:=by
   rw[seqIndex_neg #v[] h3] at h1;rw[Au,<-hl];exact sI h1
  exact PySem.W.ki_setBack ho #v[] (by rw[Au,<-hl];exact h3) #v[] (by rw[hk];exact⟨_,I',q⟩)
theorem zjw (lo hi:Option Int) (n:Nat):(sliceBounds lo hi none n).1=((HT.sIx n 0 lo:Nat):Int)/\(sliceBounds lo hi none n).2.1=((HT.sIx n n hi:Nat):Int)/\(sliceBounds lo hi none n).2.2=1:=by
  refine⟨?_,?_,rfl⟩
  · cases lo with
    | none=>simp [sliceBounds,HT.sIx]
    | some i =>
      simp only [sliceBounds,HT.sIx,Option.getD_none,show (1:Int) > 0 by decide,Fa];by_cases h:i < 0
      · simp only [h,Fa]<;>omega
      · simp only [h,if_false]<;>omega
  · cases hi with
    | none=>simp [sliceBounds,HT.sIx]
    | some i =>
      simp only [sliceBounds,HT.sIx,Option.getD_none,show (1:Int) > 0 by decide,Fa];by_cases h:i < 0
      · simp only [h,Fa]<;>omega
      · simp only [h,if_false]<;>omega
theorem zir (its:List Value)(lo hi:Option Int):slicePick its.toArray lo hi none=((its.drop (HT.sIx its.length 0 lo)).take (HT.sIx its.length its.length hi - HT.sIx its.length 0 lo)).toArray:=by
 obtain⟨h1,h2,h3⟩:=zjw lo hi its.toArray.size;unfold slicePick;rw[h1,h2,h3];simp only [sliceRange_one,pick_run,Au]<;>rfl
noncomputable def rSlL (K:PySem.W.Frag):V->Option Int->Option Int->Hp->VK->Prop:=fun x lo hi H Q=>∃a xs,x=.ref a/\SqL K H a xs/\∀p,H p=none->Q (.ref p) (upd H p (.lst (cutV xs lo hi)))
theorem z3c:SlR X (rSlL X.K):=by
 intro pins s σ H x v vl vu lo hi sl Q I rx hs pl pu h;obtain⟨a,xs,rfl,hx,q⟩:=h;cases rx;obtain⟨its,r,ht,hz⟩:=I.list hx;have hlen:=r.length;refine⟨"list",_,slot_list_getitem.lookup,ht.isList.typeIs,?_⟩;refine wpAny_getItem_list_slice ht.isList hs pl pu .none (by simp) ?_ (by rw[Au]<;>omega);rw[zir,<-hlen];refine⟨.ref s.heap.objs.size,_,I.laid (t':=s.toks) (o:=.lst (cutV xs lo hi)) (fun b ob q=>Ae _ q) (Ag _) ?_,rfl,q _ (I.hok.fresh (Ag _))⟩;exact⟨Cy (zfy xs lo hi) hz,_,0,(r.drop (HT.sIx xs.length 0 lo)).take (HT.sIx xs.length xs.length hi - HT.sIx xs.length 0 lo),Ay _ rfl⟩
noncomputable def zha:V->Bool
 | .non=>true
 | .bl _=>true
 | .int _=>true
 | .str _=>true
 | _=>false
noncomputable def eqV:V->V->Bool
 | .non,.non=>true
 | .bl a,.bl b=>a == b
 | .bl a,.int b=>(if a then 1 else 0) == b
 | .int a,.bl b=>a == (if b then 1 else 0)
 | .int a,.int b=>a == b
 | .str a,.str b=>a == b
 | _,_=>false
theorem z7c {A:Around}{s:Shared}{y x:V}{u v:Value} (ry:RelV y u) (rx:RelV x v) (fy:zha y=true) (fx:zha x=true):SeqAt.EqAt A s u v (eqV y x):=by
  cases y with
  | non =>
    cases ry;cases x with
    | non=>cases rx;exact SeqAt.EqAt.same _
    | bl b=>cases rx;exact SeqAt.EqAt.none_bool b
    | int b=>obtain⟨t,rfl⟩:=rx;exact SeqAt.EqAt.none_int b t
    | str b=>obtain⟨t,rfl⟩:=rx;exact SeqAt.EqAt.none_str b t
    | _=>exact absurd (show false=true from fx) Af
  | bl a =>
    cases ry;cases x with
    | non=>cases rx;exact SeqAt.EqAt.bool_none a
    | bl b=>cases rx;exact SeqAt.EqAt.bool_bool a b
    | int b=>obtain⟨t,rfl⟩:=rx;exact SeqAt.EqAt.bool_int a b t
    | str b=>obtain⟨t,rfl⟩:=rx;exact SeqAt.EqAt.bool_str a b t
    | _=>exact absurd (show false=true from fx) Af
  | int a =>
    obtain⟨t',rfl⟩:=ry;cases x with
    | non=>cases rx;exact SeqAt.EqAt.int_none a t'
    | bl b=>cases rx;exact SeqAt.EqAt.int_bool a t' b
    | int b=>obtain⟨t,rfl⟩:=rx;exact SeqAt.EqAt.int_int a t' b t
    | str b=>obtain⟨t,rfl⟩:=rx;exact SeqAt.EqAt.int_str a t' b t
    | _=>exact absurd (show false=true from fx) Af
  | str a =>
    obtain⟨t',rfl⟩:=ry;cases x with
    | non=>cases rx;exact SeqAt.EqAt.str_none a t'
    | bl b=>cases rx;exact SeqAt.EqAt.str_bool a t' b
    | int b=>obtain⟨t,rfl⟩:=rx;exact SeqAt.EqAt.str_int a t' b t
    | str b=>obtain⟨t,rfl⟩:=rx;exact SeqAt.EqAt.str_str a t' b t
    | _=>exact absurd (show false=true from fx) Af
  | _=>exact absurd (show false=true from fy) Af
noncomputable def eqU (x:V) (u:Value):Bool:=match u with
 | .none=>eqV .non x
 | .bool b=>eqV (.bl b) x
 | .int i _=>eqV (.int i) x
 | .str z _=>eqV (.str z) x
 | _=>false
theorem zzx {x y:V}{u:Value}(r:RelV y u)(f:zha y=true):eqU x u=eqV y x:=by
 cases y with
 | non=>cases r;rfl
 | bl b=>cases r;rfl
 | int i=>obtain⟨t,rfl⟩:=r;rfl
 | str z=>obtain⟨t,rfl⟩:=r;rfl
 | _=>exact absurd (show false=true from f) Af
theorem zgx {x:V}:∀{xs:List V}{us:List Value},Vals xs us->xs.all zha=true->us.any (eqU x)=xs.any fun y=>eqV y x
  | _,_,.nil,_=>rfl
  | y::xs,u::us,.cons r t,f=>by
    rw[Bq,Ai] at f;rw[Et,Et,zzx r f.1,zgx t f.2]
theorem zek {A:Around}{s:Shared}{x:V}{v:Value} (rx:RelV x v) (fx:zha x=true):∀{xs:List V}{us:List Value},Vals xs us->xs.all zha=true->∀u∈us,SeqAt.EqAt A s u v (eqU x u)
  | _,_,.nil,_=>fun u hu=>by cases hu
  | y::xs,u::us,.cons r t,f=>fun u' hu=>by
    rw[Bq,Ai] at f;rcases Aq.mp hu with rfl | hu
    · rw[zzx r f.1];exact z7c r rx f.1 fx
    · exact zek rx fx t f.2 u' hu
noncomputable def inV (x:V) (xs:List V):Bool:=xs.any fun y=>eqV y x
noncomputable def rIn (K:PySem.W.Frag) (neg:Bool):R2:=fun x y H Q=>∃p xs,y=.ref p/\(SqL K H p xs\/SqT K H p xs)/\zha x=true/\xs.all zha=true/\Q (.bl (if neg then !inV x xs else inV x xs)) H
theorem zr6:OpR X (compareOp .In) (rIn X.K false):=by
 intro pins s σ H x y v u Q I rx ry h;obtain⟨p,xs,rfl,hq,fx,fs,q⟩:=h;cases ry;rcases hq with hq | hq
 ·obtain⟨its, r, pl, hz⟩ := I.list hq;refine SeqAt.in_listAt (eqU x) pl.isList (fun w hw=>zek rx fx r fs w (by simpa using hw)) ⟨.bl _,H,I,rfl,?_⟩;rw[show its.toArray.any (eqU x)=its.any (eqU x) by simp,zgx r fs];exact q
 ·obtain⟨its, r, pl, hz⟩ := I.tuple hq;refine SeqAt.in_tupleAt (eqU x) pl (fun w hw=>zek rx fx r fs w (by simpa using hw)) ⟨.bl _,H,I,rfl,?_⟩;rw[show its.toArray.any (eqU x)=its.any (eqU x) by simp,zgx r fs];exact q
theorem zk7:OpR X (compareOp .NotIn) (rIn X.K true):=by
 intro pins s σ H x y v u Q I rx ry h;obtain⟨p,xs,rfl,hq,fx,fs,q⟩:=h;cases ry;rcases hq with hq | hq
 ·obtain⟨its, r, pl, hz⟩ := I.list hq;refine SeqAt.notIn_listAt (eqU x) pl.isList (fun w hw=>zek rx fx r fs w (by simpa using hw)) ⟨.bl _,H,I,rfl,?_⟩;rw[show its.toArray.any (eqU x)=its.any (eqU x) by simp,zgx r fs];exact q
 ·obtain⟨its, r, pl, hz⟩ := I.tuple hq;refine SeqAt.notIn_tupleAt (eqU x) pl (fun w hw=>zek rx fx r fs w (by simpa using hw)) ⟨.bl _,H,I,rfl,?_⟩;rw[show its.toArray.any (eqU x)=its.any (eqU x) by simp,zgx r fs];exact q
theorem zkz:zcr X (.builtin "len") (fun xs H Q=>∃p ys,xs=[.ref p]/\(SqL X.K H p ys\/SqT X.K H p ys)/\Q (.int ys.length) H):=by
 intro pins s σ H xs us Q I r h;obtain⟨p,ys,rfl,hq,q⟩:=h;obtain⟨u,rfl,rx⟩:=vals1 r;cases rx;have hn:=zoe;rcases hq with hq | hq
 ·obtain⟨its, r', pl, hz⟩ := I.list hq;have hlen:=r'.length;exact Calls.call_len_list pl.isList (by simp only [Au]<;>omega) ⟨.int ys.length,H,I.tok _,⟨s.toks+1,by rw[Au,hlen]⟩,q⟩
 ·obtain⟨its, r', pl, hz⟩ := I.tuple hq;have hlen:=r'.length;exact len_tuple pl (by simp only [Au]<;>omega) ⟨.int ys.length,H,I.tok _,⟨s.toks+1,by rw[Au,hlen]⟩,q⟩
theorem zcr.or {f:Value}{r r' : List V->Hp->VK->Prop}(h:zcr X f r)(h' : zcr X f r'):zcr X f (fun xs H Q=>r xs H Q\/r' xs H Q):=by
 intro pins s σ H xs us Q I rs q;rcases q with q | q
 ·exact h pins s σ H xs us Q I rs q
 ·exact h' pins s σ H xs us Q I rs q
theorem zff:zcr X (.type "list") (fun xs H Q=>∃p ys,xs=[.ref p]/\(SqL X.K H p ys\/SqT X.K H p ys)/\∀l,H l=none->Q (.ref l) (upd H l (.lst ys))):=by
 intro pins s σ H xs us Q I r h;obtain ⟨p,ys,rfl,hq,q⟩:=h;obtain ⟨u,rfl,rx⟩:=vals1 r;cases rx;have fin:∀(its:List Value),Vals ys its->ys.length<=sizeLine->∀(h' : Heap) (c' : Nat),(∀b o',s.heap.get? b=some o'->h'.get? b=some o') ->
   h'.get? s.heap.objs.size=some { cls:=.type "list",dict:=none,data:=.seq its.toArray c',slots:=#[] }->EP X pins σ Q (.ref s.heap.objs.size) { s with heap:=h' }:=fun its r' hz h' c' kp e =>
  ⟨.ref s.heap.objs.size,_,I.laid (t':=s.toks) kp (Ag _) (show za4 X.prog X.w _ h' _ (.lst ys) from ⟨hz,its,c',r',e⟩),rfl,q _ (I.hok.fresh (Ag _))⟩
 rcases hq with hq | hq
 ·obtain⟨its, r', pl, hz⟩ := I.list hq;have hlen:=r'.length;obtain⟨o,ho,hc,n,hd⟩:=pl.isList;exact call_list_seq p (.inl rfl) ho hc hd (fun h' c' kp e=>fin its r' hz h' c' kp e) (by simp only [Au]<;>omega)
 ·obtain⟨its, r', pl, hz⟩ := I.tuple hq;have hlen:=r'.length;obtain⟨o,ho,hc,n,hd⟩:=pl;exact call_list_seq p (.inr rfl) ho hc hd (fun h' c' kp e=>fin its r' hz h' c' kp e) (by simp only [Au]<;>omega)
theorem zjb:zcr X (.type "tuple") (fun xs H Q=>∃p ys,xs=[.ref p]/\((SqL X.K H p ys/\∀l,H l=none->Q (.ref l) (upd H l (.tup ys)))\/(SqT X.K H p ys/\Q (.ref p) H))):=by
 intro pins s σ H xs us Q I r h;obtain⟨p,ys,rfl,h⟩:=h;obtain⟨u,rfl,rx⟩:=vals1 r;cases rx;rcases h with ⟨hq,q⟩ | ⟨hq,q⟩
 ·obtain ⟨its, r', pl, hz⟩ := I.list hq;have hlen:=r'.length;refine call_tuple_list pl.isList (fun h' kp=>?_) (by simp only [Au]<;>omega);have I1:Inv X pins σ H { s with heap:=h' }:=I.kept (t':=s.toks) kp;have I2:Inv X pins σ (upd H h'.objs.size (.tup ys)) { s with heap:=h'.push { cls:=.type "tuple",data:=.seq its.toArray } } :=
   I1.laid (t':=s.toks) (fun b o e=>Ae _ e) (Ag _) (show za4 X.prog X.w _ _ _ (.tup ys) from ⟨hz,its,r',IsTup.new _ _⟩)
  exact⟨.ref h'.objs.size,_,I2,rfl,q _ (I1.hok.fresh (Ag _))⟩
 ·obtain⟨its, r', pl, hz⟩ := I.tuple hq;exact call_tuple_same pl ⟨.ref p,H,I,rfl,q⟩
noncomputable def tyV (K:PySem.W.Frag) (T:String) (x:V) (H:Hp):Prop:=match x with
 | .str _=>T = "str"
 | .int _=>T = "int"
 | .ref p=>(T = "list"/\∃xs,SqL K H p xs)\/(T = "tuple"/\∃o,K.lookup p=some o/\o.cls=.type "tuple"/\o.dict=none) \/
   (T = "dict"/\((∃kvs,H p=some (.dK kvs))\/∃kvs,H p=some (.dT kvs)))\/(T = "set"/\∃S n,H p=some (.set S n))
 | _=>False
theorem z0f {pins:List (Addr × Obj)}{σ:St}{H:Hp}{s:Shared}{T:String}{x:V}{v:Value} (I:Inv X pins σ H s) (r:RelV x v) (ty:tyV X.K T x H) :
    s.TypeIs v T/\∀a,v=.ref a->∃ob,s.heap.get? a=some ob/\ob.dict=none:=by
  cases x with
  | str z =>
    obtain⟨t,rfl⟩:=r;cases (show T = "str" from ty);exact⟨typeIs_str s z t,fun _ e=>nomatch e⟩
  | int i =>
    obtain⟨t,rfl⟩:=r;cases (show T = "int" from ty);exact⟨typeIs_int s i t,fun _ e=>nomatch e⟩
  | ref p =>
    cases r;rcases ty with ⟨rfl,xs,hq⟩ | ⟨rfl,o,hk,hc,hd⟩ | ⟨rfl,hk⟩ | ⟨rfl,S,n,hk⟩
    · obtain ⟨its, _, pl, _⟩ := I.list hq
      refine⟨pl.isList.typeIs,fun a e=>?_⟩;cases e;obtain⟨o,n,e,c,hd,_⟩:=pl;exact⟨o,e,hd⟩
    · refine ⟨⟨o, I.kIn p o hk, hc⟩, fun a e => ?_⟩
      cases e;exact⟨o,I.kIn _ o hk,hd⟩
    · have z:∃o,s.heap.get? p=some o/\o.ExactDict:=by
        rcases hk with ⟨kvs,hk⟩ | ⟨kvs,hk⟩
        · obtain ⟨_, _, _, _, o, _, _, e, ex, _⟩ := I.hok p _ hk
          exact⟨o,e,ex⟩
        · obtain ⟨_, _, _, _, o, _, _, e, ex, _⟩ := I.hok p _ hk
          exact⟨o,e,ex⟩
      obtain⟨o,e,ex⟩:=z;refine⟨⟨o,e,ex.1⟩,fun a e2=>?_⟩;cases e2;exact⟨o,e,ex.2.1⟩
    · obtain ⟨o, _, _, _, e, ex, _⟩ := I.hok p _ hk
      refine⟨⟨o,e,ex.1⟩,fun a e2=>?_⟩;cases e2;exact⟨o,e,ex.2.1⟩
  | _=>exact False.elim ty
noncomputable def tBM0 (K:PySem.W.Frag) (T:String) (r:V->List V->Hp->VK->Prop) (to:TE):TE:=fun σ H Q=>to σ H fun x H1=>tyV K T x H1/\r x [] H1 Q
noncomputable def tBM (K:PySem.W.Frag) (T:String) (r:V->List V->Hp->VK->Prop) (to:TE) (t:TA):TE:=fun σ H Q=>to σ H fun x H1=>tyV K T x H1/\t σ H1 fun xs H2=>r x xs H2 Q
variable {o e:Expr}{es:List Expr}{to:TE}{t:TA}{name:Str}{apos cpos:Pos}{T id:String}{r:V->List V->Hp->VK->Prop}
theorem z7w (pa:PlainAttrs T) (slot:Slot T name id) (hty:typeOf (.builtin id)=pure (.type "method_descriptor")) (hm:MtR X id r) (ho:PE X o to)
  (hbase:attributeBase o name X.env (eval o X.env)=eval o X.env:=by rfl) (hline:(apos.endLine == cpos.line)=true:=by rfl):PE X (.Call (.Attribute o name apos) [] [] cpos) (tBM0 X.K T r to):=by
 intro pins s σ H Q I h;refine wpAny_Call_method0_late hbase hline (thn (ho pins s σ H _ I h) fun v s1 ⟨x,H1,I1,r1,ty,q1⟩=>?_);obtain⟨h1,h2⟩:=z0f I1 r1 ty;exact⟨T,id,pa,slot,hty,h1,h2,Calls.callWith_builtin rfl (PySem.evalArgs_none (hm pins s1 σ H1 x [] v [] Q I1 r1 .nil q1))⟩
theorem z9p (pa:PlainAttrs T) (slot:Slot T name id) (hty:typeOf (.builtin id)=pure (.type "method_descriptor")) (hm:MtR X id r) (ho:PE X o to) (ha:PA X (e::es) t)
  (hbase:attributeBase o name X.env (eval o X.env)=eval o X.env:=by rfl)
  (hfew:((backTo cpos (starEach (e::es) X.env)).all (fun x=>!x.1) && (backToKw cpos (keywordEach [] X.env)).all (fun x=>x.1.isSome)
   && decide ((e::es).length+([]:List Keyword).length+(if ([]:List Keyword).isEmpty then 0 else 1) < 30))=true:=by rfl)
  (hline:(apos.endLine == cpos.line)=true:=by rfl) (hs:starEach (e::es) X.env=(false,eval e X.env)::starEach es X.env:=by rfl) (hplain:(backTo cpos (starEach es X.env)).any (·.1)=false:=by rfl) :
  PE X (.Call (.Attribute o name apos) (e::es) [] cpos) (tBM X.K T r to t):=by
 intro pins s σ H Q I h;refine wpAny_Call_method_late hbase hfew hline rfl (thn (ho pins s σ H _ I h) fun v s1 ⟨x,H1,I1,r1,ty,q1⟩=>?_);obtain⟨h1,h2⟩:=z0f I1 r1 ty;refine⟨T,id,pa,slot,hty,h1,h2,?_⟩;have hA:=ha cpos pins s1 σ H1 _ I1 q1;rw[hs] at hA ⊢;refine Calls.callWith_builtin (by show (false || (backTo cpos (starEach es X.env)).any (·.1))=false;rw[hplain]<;>rfl) (Calls.evalArgs_plain ?_);exact thn hA fun us s2 ⟨vs,H2,I2,r2,q2⟩=>hm pins s2 σ H2 x vs v us Q I2 r1 r2 q2
end
noncomputable def MtM (X:Cx) (id:String) (r:V->List V->Hp->VK->Prop):Prop :=
  ∀(pins:List (Addr × Obj)) (s:Shared) (σ:St) (H:Hp) (x:V) (xs:List V) (v:Value) (us:List Value) (Q:VK),Inv X pins σ H s->RelV x v->Vals xs us->r x xs H Q ->
    wpAny (model X.prog X.w) X.A (call (.builtin id) (v::us)) (EP X pins σ Q) X.xe s
theorem Vals.one:∀{x:V}{us:List Value},Vals [x] us->∃u,us=[u]/\RelV x u
 | _,_,.cons r .nil=>⟨_,rfl,r⟩
theorem Vals.rep {xs:List V}{us:List Value} (h:Vals xs us):∀k:Nat,Vals (List.replicate k xs).flatten (List.replicate k us).flatten
  | 0=>.nil
  | k+1=>by
    rw[Cr,Cr,Dv,Dv];exact Vals.append h (Vals.rep h k)
theorem zk1 (its:List Value):∀(k:Nat) (acc:List Value),
    List.foldl (fun x1 x2=>x1++x2) acc.toArray (List.replicate k its.toArray)=(acc++(List.replicate k its).flatten).toArray
  | 0,acc=>by simp
  | k+1,acc=>by
    have e:acc.toArray++its.toArray=(acc++its).toArray:=by simp
    have e2:(acc++its)++(List.replicate k its).flatten=acc++(List.replicate (k+1) its).flatten:=by
      rw[Cr,Dv,Bc]
    rw[<-e2,<-zk1 its k (acc++its),<-e,Cr,List.foldl_cons]
section
variable {X:Cx}{pins:List (Addr × Obj)}{σ:St}{H:Hp}{s:Shared}{l b:Addr}{xs ys zs:List V}
theorem Inv.lset {its its' : List Value}{n:Nat}{f:Array Value->Array Value}{t' : Nat} (I:Inv X pins σ H s) (hH:H l=some (.lst xs))
  (e:s.heap.get? l=some { cls:=.type "list",data:=.seq its.toArray n }) (hf:f its.toArray=its'.toArray) (hv:Vals ys its') (hz:ys.length<=sizeLine) :
  Inv X pins σ (upd H l (.lst ys)) { s with heap:=s.heap.update l (Obj.mapSeq f),toks:=t' }:=by
 have q:=PySem.IsL.update e f;rw[hf] at q;refine I.write (x:=l) (e:=l) (by rw[hH];exact trivial) (.inl rfl) (fun b' u hb hu=>(Heap.get?_update_other s.heap (Obj.mapSeq f) (Ne.symm hb)).trans hu) ⟨_,q⟩ ?_;exact⟨hz,its',_,hv,q⟩
theorem Inv.lnew {its:List Value}{t' : Nat} (I:Inv X pins σ H s) (hv:Vals ys its) (hz:ys.length<=sizeLine) :
  Inv X pins σ (upd H s.heap.objs.size (.lst ys)) { s with heap:=s.heap.push { cls:=.type "list",data:=.seq its.toArray },toks:=t' } :=
 I.laid (fun _ _ q=>Ae _ q) (Ag _) ⟨hz,its,0,hv,Ay _ rfl⟩
theorem Inv.fresh (I:Inv X pins σ H s):H s.heap.objs.size=none:=I.hok.fresh (Ag _)
theorem Inv.lstM (I:Inv X pins σ H s)(hH:H l=some (.lst xs)):xs.length<=sizeLine/\∃(its:List Value) (n:Nat),Vals xs its/\xs.length=its.length/\s.heap.get? l=some { cls:=.type "list",data:=.seq its.toArray n }:=by
 nofun;obtain⟨z,its,n,r,e⟩:=I.hok l _ hH;ac_rfl;exact⟨z,its,n,r,r.length,e⟩
theorem zzl {n:Nat}(h:n<=sizeLine):Builtin.List.listTooLong n=false:=by
 unfold Builtin.List.listTooLong;exact Ap #v[]
end
section
variable {X:Cx}
noncomputable def zux:V->List V->Hp->VK->Prop:=fun x vs H Q=>∃l xs y,x=.ref l/\vs=[y]/\H l=some (.lst xs)/\xs.length < sizeLine/\Q .non (upd H l (.lst (xs++[y])))
theorem zj6:MtM X "list.append" zux:=by
 intro pins s σ H x vs v us Q I rx rv h;obtain⟨l,xs,y,rfl,rfl,hH,hz,q⟩:=h;cases rx;obtain⟨u,rfl,ru⟩:=rv.one;obtain⟨z,its,n,r,hl,e⟩:=I.lstM hH;refine call_meets F.slot_list_append ⟨_,e,rfl⟩ F.entry_list_append (F.args_list_append_2 _ _) (PySem.list_append l its.toArray n u (by rw[Au];omega)) ⟨e,?_⟩;refine⟨.non,_,I.lset (its':=its++[u]) hH e (by simp) (r.append (.cons ru .nil)) ?_,rfl,q⟩;rw[Bf,List.length_singleton];omega
noncomputable def rCat:R2:=fun x y H Q=>∃l b xs zs,x=.ref l/\y=.ref b/\H l=some (.lst xs)/\H b=some (.lst zs)/\xs.length+zs.length<=sizeLine/\∀p,H p=none->Q (.ref p) (upd H p (.lst (xs++zs)))
theorem z55:OpR X (binaryOp .Add) rCat:=by
 intro pins s σ H x y v u Q I rx ry h;nofun;obtain⟨l,b,xs,zs,rfl,rfl,hH,hB,hz,q⟩:=h;ac_rfl;cases rx;cases ry;nofun;obtain⟨z,its,n,r,hl,e⟩:=I.lstM hH;obtain⟨z2,its2,n2,r2,hl2,e2⟩:=I.lstM hB;ac_rfl;refine PySem.P.add_list e e2 ?_ (by rw[Au,Au];omega);have ea:its.toArray++its2.toArray=(its++its2).toArray:=by simp
 rw[ea];exact⟨.ref _,_,I.lnew (t':=s.toks) (r.append r2) (by rw[Bf];omega),rfl,q _ I.fresh⟩
noncomputable def rRep:R2:=fun x y H Q=>∃l k xs,x=.ref l/\y=.int k/\H l=some (.lst xs)/\-(2 ^ 63)<=k/\k < 2 ^ 63/\xs.length * k.toNat<=sizeLine /\
 ∀p,H p=none->Q (.ref p) (upd H p (.lst (List.replicate k.toNat xs).flatten))
theorem z2c {α:Type}(xs:List α)(k:Nat):(List.replicate k xs).flatten.length=k * xs.length:=by
 induction k with
 | zero=>simp
 | succ k ih=>rw[Cr,Dv,Bf,ih,Nat.succ_mul,Nat.add_comm]
theorem z6m:OpR X (binaryOp .Mult) rRep:=by
 intro pins s σ H x y v u Q I rx ry h;nofun;obtain⟨l,k,xs,rfl,rfl,hH,h1,h2,hz,q⟩:=h;ac_rfl;cases rx;nofun;obtain⟨t,rfl⟩:=ry;obtain⟨z,its,n,r,hl,e⟩:=I.lstM hH;ac_rfl;have hlen:its.toArray.size * k.toNat<=sizeLine:=by rw[Au,<-hl];exact hz
 have hcap:¬ its.toArray.size * k.toNat > (2 ^ 63 - 1) / 8:=by
  have:(sizeLine:Nat)<=(2 ^ 63 - 1) / 8:=by decide
  omega
 have hfit:¬ (!Builtin.List.listFitsIndex k)=true:=by
  rw[fitsIndex_both h1 h2];exact Af
 have hlong:¬ Builtin.List.listTooLong (its.toArray.size * k.toNat)=true:=by
  rw[zzl hlen];exact Af
 have hnew:List.foldl (fun x1 x2=>x1++x2) #[] (List.replicate (if its.toArray.isEmpty=true then 0 else k.toNat) its.toArray)=(List.replicate k.toNat its).flatten.toArray:=by
  have f0:∀m:Nat,List.foldl (fun x1 x2=>x1++x2) #[] (List.replicate m its.toArray)=(List.replicate m its).flatten.toArray:=fun m=>by
   have:=zk1 its m [];rw[List.nil_append] at this;exact this
  rw[f0];cases its with
  | nil=>simp
  | cons a r'=>rw[if_neg (by simp)]
 refine wpAny_binaryOp_repeat_ref (T := "list") (U := "int") #v[0,9] ⟨_,e,rfl⟩ (fun s'=>typeIs_int s' k t) noFill_list_mul F.fills_int_mul F.slot_int_rmul repeat_list F.slot_int_index.lookup
  (call_meets F.slot_int_rmul (typeIs_int s k t) F.entry_int_rmul (F.args_int_rmul_2 _ _) (int___rmul___int_list k t l its.toArray n)
   ⟨e,rfl,⟨_,e,rfl⟩,call_meets F.slot_list_mul ⟨_,e,rfl⟩ F.entry_list_mul (F.args_list_mul_2 _ _) (AutoListH.list___mul___list_int_3 l its.toArray n k t hfit hcap hlong) ⟨e,?_⟩⟩)
 rw[hnew];exact⟨.ref _,_,I.lnew (t':=s.toks) (r.rep k.toNat) (by rw[z2c,Nat.mul_comm];exact hz),rfl,q _ I.fresh⟩
end
section
variable {prog:Program}{w:World}{A:Around}{E:Value->Shared->Prop}{s:Shared}
end
section
variable {X:Cx}
end
end L2
namespace Att
open PySem PySem.W PySem.Calls PyProof.Rows
theorem zg0 {P:Params}{h:Heap}:∀(ns:List Int) (vs:List Value),WellAll P h vs (ns.map WData.int)->IntsAre vs ns:=by
  intro ns
  induction ns with
  | nil =>
    intro vs w;rw[List.map_nil] at w;cases w;exact .nil
  | cons n ns ih =>
    intro vs w;rw[Ad] at w;cases w with
    | cons a b =>
      cases a;exact .cons _ _ (ih _ b)
theorem zro {l:OpenLaw}{n:Nat} (hn:l.most=some n) {P:Params}{h:Heap}{args:List WData}{vals:List Value}
    (hpre:l.row.toRowW.claim.pre args=true) (hwl:WellAll P h vals args) :
    ∃a vs ns,vals=[Value.ref a]/\args=[WData.list (ns.map WData.int)]/\h.get? a=some { cls:=.type "list",data:=.seq vs.toArray }/\IntsAre vs ns/\ns.length<=n:=by
  have hsh:WShape.hasAll [] args [.list .int]=true:=(pre_splitW hpre).1;have hc:l.pre.holds [] { args:=args }=true:=(pre_splitW hpre).2;obtain ⟨d,r,rfl,h1,h2⟩:=hasAllW_cons hsh;obtain rfl:=hasAllW_nil h2;obtain ⟨xs,rfl,h3⟩:=hasW_list h1;obtain ⟨ns,rfl⟩:=items_int h3;have hlen:ns.length<=n:=by
    unfold OpenLaw.pre at hc;have h4:(WTm.not (.lt (.lit (.int (n:Int))) (.len (.arg 0)))).holds [] { args:=[.list (ns.map .int)] }=true:=by
      have h4:=(holds_andW hc).1;rw[hn] at h4;exact h4
    have h5:=condW_of h4 (w_not (w_lt w_lit (w_len_list (w_arg rfl))));rw[Aa] at h5;refine Nat.le_of_not_lt fun q=>?_;have q' : (n:Int) < ((ns.length:Nat):Int):=by omega
    first
      | (rw[Ah q'] at h5;exact absurd h5 #v[0,9])
      | (simp at h5;omega)
  cases hwl with
  | cons w1 w2 =>
    cases w2;cases w1 with
    | list ho hall=>exact⟨_,_,ns,rfl,rfl,ho,zg0 ns _ hall,hlen⟩
theorem zur (l:OpenLaw)(args:List WData):l.row.toRowW.claim.post args (.bool true) args=true :=
 postW_of (r:=l.row.toRowW) (X:=(true == true))
  (show WShape.has [] (.bool true) .bool=true by first | rfl | decide | simp [WShape.has,WShape.arms,WShape.armsAll])
  (show (WTm.eq .res (.lit (.bool true))).value [] { args:=args,res:=some (.bool true),after:=args }=some (.bool (true == true)) from w_eq_bool (w_res rfl) w_lit) rfl
theorem attach_call {l:OpenLaw}{n:Nat}{q:Program}{loose:List Str}{XP:(Str->Option Value)->Heap->Prop}{YP:World->Heap->Prop}{d:DefRec}
  (hn:l.most=some n) (hdf:d.params.defaults=[])
  (call:∀(w:World) (s₀ s₁:Shared) (mg mb:Str->Option Value) (fa:Addr) (o:Obj) (pm cd doc:Value) (a:Addr) (vs:List Value) (ns:List Int),
   Ground q loose [] XP w s₀ mg mb s₁.heap->YP w s₁.heap ->
   s₁.heap.get? fa=some o->o.data=.func (docDef d.name d.params d.body d.scope pm cd doc)->s₁.heap.CodeRec cd d.name->mg d.name=some (.ref fa) ->
   s₁.heap.get? a=some { cls:=.type "list",data:=.seq vs.toArray }->IntsAre vs ns->ns.length<=n->s₁.gens=#[] ->
   codeAny (model l.prog w) callerA (.call (.ref fa) ⟨[.ref a],[]⟩) (fun r s'=>r=.ok (.ret (.bool true))/\OldK s₁.heap s'.heap/\s'.os=s₁.os/\AllBare s'.gens) s₁) :
  WalkO q loose XP YP l.row.toRowW d [] (fun f vs=>PySem.call f vs):=by
 intro w s₀ s₁ mg mb G Y fa o pm cd doc dV kV ho hd hcd hD hmg hg args vals as hpre hlay hrd hwl hlo;obtain rfl:dV=.none:=Dflts.none hD hdf;obtain rfl:kV=.none:=Dflts.noKw hD;obtain⟨a,vs,ns,rfl,rfl,hobj,hints,hlen⟩:=zro hn hpre hwl;refine enter_call (codeAny_mono (call w s₀ s₁ mg mb fa o pm cd doc a vs ns G Y ho (fd_plain hd) hcd hmg hobj hints hlen hg) fun r s' hq=>?_);obtain⟨rfl,h2,h3,h4⟩:=hq;exact⟨.inl ⟨.bool true,.bool true,[],rfl,fun _=>rfl,.bool true,zur l _,fun _=>⟨List.Pairwise.nil,fun _ hm=>(nomatch hm)⟩⟩,h2,h3,h4⟩
section
variable {prog:Program}{w:World}{A:Around}{E:Value->Shared->Prop}{s:Shared}{K:Frag}
end
end Att
namespace L2
open PySem PySem.Spec PyProof.Rows
theorem zj1:∀{vs:List Value}{ns:List Int},IntsAre vs ns->Vals (ns.map V.int) vs
 | _,_,.nil=>.nil
 | _,_,.cons n t h=>.cons ⟨t,rfl⟩ (zj1 h)
noncomputable def zev (s:Stmt):Arguments:=match s with
 | .FunctionDef _ a _ _ _ _ _ _ _ _=>a
 | _=>{ posonlyargs:=[],args:=[],vararg:=none,kwonlyargs:=[],kw_defaults:=[],kwarg:=none,defaults:=[] }
noncomputable def zdh (s:Stmt):List Stmt:=match s with
 | .FunctionDef _ _ b _ _ _ _ _ _ _=>b
 | _=>[]
noncomputable def zat (s:Stmt):Scope:=match s with
 | .FunctionDef _ _ _ _ _ _ sc _ _ _=>sc
 | _=>{ kind:=.function,names:=[],isGenerator:=false,isCoroutine:=false }
noncomputable abbrev CX0:CXT:=fun _ _ _ _ _ _=>False
noncomputable abbrev E0:XK:=fun _ _ _=>False
theorem z95 {X:Cx}:zv6 CX0 X E0:=fun _ _ _ _ _ _ _ h=>h.elim
structure Fun (K:PySem.W.Frag) (x qual:Str) (st:Stmt) (f:Addr) (fd:FuncData):Prop where
 ex:∃(oc:Value) (od:Option Addr) (kV doc pm:Value) (an:Option Addr) (cdv ct:Value) (osl:Array (Option Value)),
  fd=PySem.W.fnOf x qual (zev st) (zdh st) (zat st) .none kV doc pm an cdv ct/\K.lookup f=some ⟨oc,od,.func fd,osl⟩/\PySem.W.codeIn K cdv qual=true
 kp:PySem.W.keepIn K (.ref f)=true
section
variable {P:Program}{w:World}{K:PySem.W.Frag}{mg:Str->Option Value}{base:Heap}
theorem Fun.binds {x qual:Str}{st:Stmt}{f:Addr}{fd:FuncData}{ps:List Str} (F:Fun K x qual st f fd)
  (h:∀(kV doc pm:Value) (an:Option Addr) (cdv ct:Value) (us:List Value),us.length=ps.length->bindArgs (PySem.W.fnOf x qual (zev st) (zdh st) (zat st) .none kV doc pm an cdv ct) ⟨us,[]⟩=pure (ps.zip us)):znc K fd ps []:=by
 obtain⟨oc,od,kV,doc,pm,an,cdv,ct,osl,rfl,lk,hcd⟩:=F.ex;exact .all (h kV doc pm an cdv ct)
theorem zz8 {x qual:Str}{st:Stmt}{f:Addr}{oc:Value}{od an:Option Addr}{osl:Array (Option Value)}{kV doc pm cdv ct:Value} (l:K.lookup f=some ⟨oc,od,.func (PySem.W.fnOf x qual (zev st) (zdh st) (zat st) .none kV doc pm an cdv ct),osl⟩)
  (c:PySem.W.codeIn K cdv qual=true) (k:PySem.W.keepIn K (.ref f)=true):Fun K x qual st f (PySem.W.fnOf x qual (zev st) (zdh st) (zat st) .none kV doc pm an cdv ct):=⟨⟨oc,od,kV,doc,pm,an,cdv,ct,osl,rfl,l,c⟩,k⟩
end
section
variable {X:Cx}
end
theorem iteF {A B:Prop}(h:B):if false=true then A else B:=by
 rw[if_neg Af];exact h
theorem iteT {A B:Prop}(h:A):if true=true then A else B:=by
 rw[if_pos rfl];exact h
noncomputable def Same (H H' : Hp):Prop:=∀b o,H b=some o->H' b=some o
theorem Same.refl (H:Hp):Same H H:=fun _ _ h=>h
theorem Same.trans {H H1 H2:Hp}(a:Same H H1)(b:Same H1 H2):Same H H2:=fun c o h=>b c o (a c o h)
theorem Same.free {H H' : Hp} (e:Same H H') {l:Addr} (h:H' l=Option.none):H l=Option.none:=by
  cases q:H l with
  | none=>rfl
  | some o =>
    rw[e l o q] at h;cases h
theorem Same.seq {K:PySem.W.Frag}{H H' : Hp}{a:Addr}{xs:List V}(e:Same H H')(h:SqL K H a xs):SqL K H' a xs:=by
 rcases h with (h | ⟨o,h⟩) | h
 ·exact .inl (.inl (e _ _ h))
 ·exact .inl (.inr ⟨o,e _ _ h⟩)
 ·exact .inr h
noncomputable def capSt (cap:List (Option Nat)) (σ:St):St:=cap.map fun o=>match o with
 | some i=>(σ[i]?).getD none
 | none=>none
noncomputable def zhh (cap:List (Option Nat)) (Nc N:List Str) (scope:Scope):Bool :=
 decide (cap.length=Nc.length) && (cap.zip Nc).all fun p=>match p.1 with
  | some i=>decide (N[i]?=some p.2) && decide (scope.names.lookup p.2=some NameKind.free)
  | none=>true
theorem zri {cap Nc N scope}(h:zhh cap Nc N scope=true):cap.length=Nc.length:=by
 unfold zhh at h;rw[Ai] at h;exact As h.1
theorem zty {cap:List (Option Nat)}{Nc N:List Str}{scope:Scope}(h:zhh cap Nc N scope=true){j i:Nat}{x:Str}(h1:cap[j]?=some (some i))(h2:Nc[j]?=some x):N[i]?=some x/\scope.names.lookup x=some .free:=by
 unfold zhh at h;rw[Ai] at h;have hm:(some i,x)∈cap.zip Nc:=by
  refine At (i:=j) ?_;rw[List.getElem?_zip_eq_some];exact⟨h1,h2⟩
 have q:=Bg.mp h.2 _ hm;simp only [Ai,Dc] at q;exact q
noncomputable def zgc (scope:Scope) (out:Scope):Bool:=scope.names.all fun p=>!(p.2 == NameKind.free) || decide (out.names.lookup p.1=some .cell) || decide (out.names.lookup p.1=some .free)
theorem ze6 {env:Env}:∀(names:List (Str × NameKind)) (acc:List (Str × Addr)),(∀x,(x,NameKind.free)∈names->∃c,env.cells.lookup x=some c)->(∀x c,acc.lookup x=some c->env.cells.lookup x=some c) ->
    ∃cl,(forIn names acc fun (p:Str × NameKind) cs=>if p.2 == NameKind.free then do let c <- cellOf env p.1;pure (ForInStep.yield ((p.1,c)::cs)) else pure (ForInStep.yield cs):Sem (List (Str × Addr)))=pure cl /\
      (∀x c,cl.lookup x=some c->env.cells.lookup x=some c)/\(∀x,(x,NameKind.free)∈names\/(∃c,acc.lookup x=some c)->∃c,cl.lookup x=some c)
  | [],acc,_,h2=>⟨acc,by rw [Ft],h2,fun x hx=>by
      rcases hx with hx | hx
      · cases hx
      · exact hx⟩
  | (n,k)::r,acc,h1,h2=>by
    rw[List.forIn_cons];by_cases hk:(k == NameKind.free)=true
    · have ek : k = .free := by simpa using hk
      subst ek;obtain ⟨c,hc⟩:=h1 n Ak;have h2' : ∀x d,((n,c)::acc).lookup x=some d->env.cells.lookup x=some d:=fun x d hx=>by
        rw[Bl] at hx;cases e:x == n with
        | true => rw [e] at hx; obtain rfl := sI hx; have : x = n := by simpa using e
                  rw[this];exact hc
        | false=>rw[e] at hx;exact h2 x d hx
      obtain⟨cl,e,a,b⟩:=ze6 r ((n,c)::acc) (fun x hx=>h1 x (Aj _ hx)) h2';refine⟨cl,?_,a,fun x hx=>b x ?_⟩
      · rw [<- e]
        have hcell:cellOf env n=pure c:=by unfold cellOf;rw[hc]
        simp only [beq_self_eq_true,Fa,hcell]
        rfl
      · have gen:∀y d,acc.lookup y=some d->∃d',((n,c)::acc).lookup y=some d':=fun y d hy=>by
          rw[Bl];cases e:y == n with
          | true=>exact⟨_,rfl⟩
          | false=>exact⟨d,hy⟩
        rcases hx with hx | ⟨d,hx⟩
        · rcases Aq.mp hx with hx | hx
          · injection hx with hx _
            subst hx;exact .inr ⟨c,by rw[Bl];simp⟩
          · exact .inl hx
        · exact .inr (gen x d hx)
    · have hk' : (k == NameKind.free) = false := by simpa using hk
      obtain⟨cl,e,a,b⟩:=ze6 r acc (fun x hx=>h1 x (Aj _ hx)) h2;refine⟨cl,?_,a,fun x hx=>b x ?_⟩
      · rw [<- e]
        simp only [hk',Em,if_false]
        rfl
      · rcases hx with hx | hx
        · rcases Aq.mp hx with hx | hx
          · injection hx with _ hx
            subst hx;simp at hk'
          · exact .inl hx
        · exact .inr hx
theorem zda {env:Env}{scope:Scope} (h:∀x,(x,NameKind.free)∈scope.names->∃c,env.cells.lookup x=some c) :
  ∃cl,closureFor scope env=pure cl/\(∀x c,cl.lookup x=some c->env.cells.lookup x=some c)/\(∀x,(x,NameKind.free)∈scope.names->∃c,cl.lookup x=some c):=by
 nofun;obtain⟨cl,e,a,b⟩:=ze6 (env:=env) scope.names [] h (fun x c hx=>by simp at hx);ac_rfl;refine⟨cl,?_,a,fun x hx=>b x (.inl hx)⟩;rw[closureFor];have e':=e;simp only [bind_assoc,pure_bind] at e' ⊢;exact congrArg (fun m=>m >>= fun r=>pure r) e |>.trans (by rw[pure_bind])
noncomputable def zbe (X:Cx) (Nc:List Str) (scope:Scope) (cl:List (Str × Addr)) (C:Addr) (s3:Shared) (H3:Hp) (fp:List Addr):Cx where
 prog:=X.prog
 w:=X.w
 K:=X.K
 mg:=X.mg
 base:=X.base
 A:=X.A
 N:=Nc
 s₀:=s3
 H₀:=H3
 env:=compEnvC scope cl C X.env
 outer:=X.stack
 stack:=X.stack
 ex:=fp
 fn:=fun x=>decide (scope.names.lookup x=some NameKind.cell)
 calm:=X.calm
 pn:=[]
 xe:=fun _ _=>False
noncomputable def z0p:TT:=fun σ H Q=>Q true H
noncomputable def PTs (X:Cx) (ifs:List Expr) (t:TT):Prop :=
  ∀(pins:List (Addr × Obj)) (s:Shared) (σ:St) (H:Hp) (Q:Bool->Hp->Prop),Inv X pins σ H s->t σ H Q ->
    wpAny (model X.prog X.w) X.A (forIn ifs true fun c r=>if r=true then do let ok <- isTrue c X.env (eval c X.env);pure (ForInStep.yield ok) else pure (ForInStep.yield r)) (TP X pins σ Q) X.xe s
theorem z1o {X:Cx}:PTs X [] z0p:=fun pins s σ H Q I h=>by
 rw[Ft];exact Av ⟨H,I,h⟩
theorem z3r {X:Cx}{c:Expr}{t:TT}(h:PT X c t):PTs X [c] t:=fun pins s σ H Q I q=>by
 rw[List.forIn_cons];simp only [Fa];refine Ab (Ab (thn (h pins s σ H Q I q) fun b s1 q1=>?_));refine Av ?_;dsimp only;rw[Ft];exact Av q1
section
variable {X:Cx}
theorem za3 {env:Env}:∀{names:List (Str × NameKind)}{x:Str},names.lookup x=some .free ->
    (names.map fun (n,k)=>if (k == NameKind.free && env.scope.kind == .function && env.kindOf n == some .cell) then (n,NameKind.cell) else (n,k)).lookup x=some .cell \/
    (names.map fun (n,k)=>if (k == NameKind.free && env.scope.kind == .function && env.kindOf n == some .cell) then (n,NameKind.cell) else (n,k)).lookup x=some .free
  | [],_,h=>by simp at h
  | (n,k)::r,x,h=>by
    have ih:=@za3 env r x;rw[Ad];rw[Bl] at h;cases hx:x == n with
    | true =>
      rw[hx] at h;obtain rfl:=sI h;dsimp only;split
      · rw[Bl,hx];exact .inl rfl
      · rw[Bl,hx];exact .inr rfl
    | false =>
      rw[hx] at h;dsimp only;split
      · rw[Bl,hx];exact ih h
      · rw[Bl,hx];exact ih h
theorem zbm {env:Env}:∀{names:List (Str × NameKind)}{x:Str}{k:NameKind},(k=.cell\/k=.free) ->
    (names.map fun (n,k)=>if (k == NameKind.free && env.scope.kind == .function && env.kindOf n == some .cell) then (n,NameKind.cell) else (n,k)).lookup x=some k->names.lookup x=some .free\/names.lookup x=some .cell
  | [],_,_,_,h=>by simp at h
  | (n,k0)::r,x,k,hk,h=>by
    rw[Ad] at h;rw[Bl];cases hx:x == n with
    | true =>
      dsimp only at h;split at h
      · rename_i hc
        rw[Bl,hx] at h;simp only [Ai,Fw] at hc;rw[hc.1.1];exact .inl rfl
      · rw [Bl, hx] at h
        obtain rfl:=sI h;rcases hk with rfl | rfl
        · exact .inr rfl
        · exact .inl rfl
    | false =>
      dsimp only at h;split at h
      · rw[Bl,hx] at h;exact zbm hk h
      · rw[Bl,hx] at h;exact zbm hk h
theorem zdr {scope out:Scope}(h:zgc scope out=true){x:Str}(hx:(x,NameKind.free)∈scope.names):out.names.lookup x=some .cell\/out.names.lookup x=some .free:=by
 have q:=Bg.mp h _ hx;simpa using q
theorem capSt_get {cap:List (Option Nat)}{σ:St}{j:Nat}{v:V} (h:(capSt cap σ)[j]?=some (some v)):∃i,cap[j]?=some (some i)/\σ[i]?=some (some v):=by
  unfold capSt at h;rw[Am] at h;cases e:cap[j]? with
  | none=>rw[e] at h;cases h
  | some o =>
    rw[e] at h;cases o with
    | none=>cases h
    | some i =>
      refine⟨i,rfl,?_⟩;have h' : (σ[i]?).getD none=some v:=sI h;cases e2:σ[i]? with
      | none=>rw[e2] at h';cases h'
      | some z=>rw[e2] at h';exact congrArg some h'
theorem zba {env:Env}:∀{names:List (Str × NameKind)}{x:Str}{k:NameKind},k≠.free->names.lookup x=some k ->
    (names.map fun (n,k)=>if (k == NameKind.free && env.scope.kind == .function && env.kindOf n == some .cell) then (n,NameKind.cell) else (n,k)).lookup x=some k
  | [],_,_,_,h=>by simp at h
  | (n,k0)::r,x,k,hk,h=>by
    have ih:=@zba env r x k hk;rw[Ad];rw[Bl] at h;cases hx:x == n with
    | true =>
      rw[hx] at h;obtain rfl:=sI h;have:(k0 == NameKind.free)=false:=by cases k0<;>first | rfl | exact absurd rfl hk
      dsimp only;rw[this,Eg,Eg,if_neg Af,Bl,hx]
    | false =>
      rw[hx] at h;dsimp only;split
      · rw[Bl,hx];exact ih h
      · rw[Bl,hx];exact ih h
noncomputable def zfd (scope:Scope):Bool:=scope.names.all fun p=>!(p.2 == NameKind.cell) || decide (scope.names.lookup p.1=some .cell)
theorem zp5 {scope:Scope}(h:zfd scope=true){x:Str}(hx:(x,NameKind.cell)∈scope.names):scope.names.lookup x=some .cell:=by
 have q:=Bg.mp h _ hx;simpa using q
theorem zcn:∀(names:List (Str × NameKind)) (n:Nat) (acc:List (Str × Addr)),cellsFrom n names acc=cellsFrom n names []++acc
  | [],_,_=>rfl
  | (x,k)::r,n,acc=>by
    unfold cellsFrom;split
    · rw[zcn r (n+1) ((x,n)::acc),zcn r (n+1) [(x,n)],Bc];rfl
    · exact zcn r n acc
theorem zfx:∀(names:List (Str × NameKind)) (n:Nat) {x:Str}{c:Addr},(x,c)∈cellsFrom n names []->(x,NameKind.cell)∈names
  | [],_,_,_,h=>by cases h
  | (y,k)::r,n,x,c,h=>by
    unfold cellsFrom at h;split at h
    · rename_i hk
      rw[zcn] at h;rcases Ba.mp h with h | h
      · exact Aj _ (zfx r _ h)
      · have e := Al.mp h
        cases e;have:k=NameKind.cell:=by simpa using hk
        rw[this];exact Ak
    · exact Aj _ (zfx r _ h)
theorem cells_of {names:List (Str × NameKind)}{n:Nat}{cl:List (Str × Addr)}{x:Str}{c:Addr}(h:(cellsFrom n names cl).lookup x=some c):(cellsFrom n names []).lookup x=some c\/((cellsFrom n names []).lookup x=none/\cl.lookup x=some c):=by
 rw[zcn,List.lookup_append] at h;cases e:(cellsFrom n names []).lookup x with
 | some d=>rw[e] at h;exact .inl h
 | none=>rw[e] at h;exact .inr ⟨rfl,h⟩
theorem zhw {scope:Scope} (h:zfd scope=true) {n:Nat}{cl:List (Str × Addr)}{x:Str}{c:Addr} (hx:scope.names.lookup x=some .free) (hc:cl.lookup x=some c):(cellsFrom n scope.names cl).lookup x=some c:=by
  rw[zcn,List.lookup_append];cases e:(cellsFrom n scope.names []).lookup x with
  | none=>exact hc
  | some d =>
    have:=zp5 h (zfx _ _ (Bu e));rw[hx] at this;cases this
theorem zwn {pins:List (Addr × Obj)}{σ:St}{H3:Hp}{s3:Shared}{Nc:List Str}{scope:Scope}{cl:List (Str × Addr)}{cap:List (Option Nat)}{fp:List Addr}{h4:Heap}{tk:Nat}
  (I:Inv X pins σ H3 s3) (hk:scope.kind=.function) (hcap:zhh cap Nc X.N scope=true) (hfr:zgc scope X.env.scope=true) (hnc:zfd scope=true)
  (c1:∀x c,cl.lookup x=some c->X.env.cells.lookup x=some c) (c2:∀x,(x,NameKind.free)∈scope.names->∃c,cl.lookup x=some c)
  (hf:∀b∈fp,FpOk X pins H3 b) (ho:∀b∈fp,b < s3.heap.objs.size)
  (hns:h4.Ns s3.heap.objs.size (fun _=>none)) (hkeep:∀b o,s3.heap.get? b=some o->h4.get? b=some o) (hcs:CellsOk h4 (s3.heap.objs.size+1) (cellsFrom (s3.heap.objs.size+1) scope.names [])) :
  Inv (zbe X Nc scope (cellsFrom (s3.heap.objs.size+1) scope.names cl) s3.heap.objs.size s3 H3 fp) [] (capSt cap σ) H3 { s3 with heap:=h4,toks:=tk }:=by
 have stkne:∀b∈fp,b ∉ frs X.stack:=fun b hb z=>by
  obtain⟨_,g1,g2,_⟩:=hf b hb;rcases Aq.mp (I.stkSub b z) with e | e
  ·exact g1 e
  ·exact g2 e
 have own:∀x c,(cellsFrom (s3.heap.objs.size+1) scope.names []).lookup x=some c->h4.IsCell c none/\s3.heap.objs.size+1<=c:=fun x c h=>hcs.empty x c (Bu h);have old:∀x c,cl.lookup x=some c->c < s3.heap.objs.size:=fun x c h=>by
  obtain⟨v,q⟩:=I.cell x c (c1 x c h);exact q.lt
 refine⟨⟨I.mod,hk,I.ok.glob,I.ok.blt,Ag _,fun x y c h1 h2=>?_,fun x hx=>?_,fun x c h h'=>?_,I.ok.hd,I.ok.frames,.inl rfl,fun b hb=>⟨Bi (ho b hb),fun x c h=>?_⟩,
  fun b o e=>I.bs b o e,Cy I.ok.bsz I.sz,fun b o e hb=>?_,stkne,I.stack,I.stkFree⟩,rfl,I.bare,Un.kept hkeep,⟨_,hns,fun j x v h1 h2 h3=>?_⟩,fun x c h=>?_,I.hok.fresh (Ag _),fun x c h=>?_,fun p hp=>absurd (show p∈([]:List (Addr × Obj)) from hp) (by simp),I.hok.kept hkeep,?_⟩
 ·rcases cells_of h1 with z1 | ⟨_, z1⟩
  ·rcases cells_of h2 with z2 | ⟨_, z2⟩
   ·exact name_of_addr hcs.apart (Bu z1) (Bu z2)
   ·have a := (own x c z1).2;have b:=old y c z2;exact absurd (Bd b (Fq a)) (Cf _)
  ·rcases cells_of h2 with z2 | ⟨_, z2⟩
   ·have a := (own y c z2).2;have b:=old x c z1;exact absurd (Bd b (Fq a)) (Cf _)
   ·exact I.ok.inj x y c (c1 x c z1) (c1 y c z2)
 ·have hx' : scope.names.lookup x=some .free\/scope.names.lookup x=some .cell:=by
   rcases hx with hx | hx
   ·exact zbm (env:=X.env) (.inl rfl) hx
   ·exact zbm (env:=X.env) (.inr rfl) hx
  rcases hx' with hx' | hx'
  ·obtain⟨c, e⟩ := c2 x (Bu hx');exact⟨c,zhw hnc hx' e⟩
  ·exact Gp.mp (PySem.W.cellsFrom_some scope.names _ cl (.inl hx'))
 ·have hx : scope.names.lookup x = some .cell := As h;rcases cells_of h' with z | ⟨z,_⟩
  ·exact Fq (own x c z).2
  ·obtain⟨d, e⟩ := cell_has (n := s3.heap.objs.size + 1) hx;rw[z] at e;cases e
 ·rcases cells_of h with z | ⟨_, z⟩
  ·have a := (own x c z).2;have:=ho b hb;exact Ne.symm (Bi (Bd this (Fq a)))
  ·exact (hf b hb).2.2.2.2.1 x c (c1 x c z)
 ·rcases (hf b hb).2.2.2.1 with z | z
  ·exact I.ok.noex b o e z
  ·have h1 : b < X.base.objs.size := Ar e;exact absurd (Bd h1 (Cy I.ok.bsz z)) (Cf _)
 ·obtain ⟨i, e1, e2⟩ := capSt_get h2;have hNx:Nc[j]?=some x:=h1;obtain ⟨n1,n2⟩:=zty hcap e1 hNx;have vis:Vis X.env.scope x:=by
   rcases zdr hfr (Bu n2) with z | z
   ·exact .inr (.inl z)
   ·exact .inr (.inr z)
  obtain⟨m,hn,hl⟩:=I.loc;obtain⟨u,r,l⟩:=hl i x v n1 e2 vis;refine⟨u,r,?_⟩;rcases l with ⟨hk',_⟩ | ⟨_,c,e,z⟩
  ·have hk2 : X.env.scope.names.lookup x = some .local := hk';rcases zdr hfr (Bu n2) with z | z
   ·rw[z] at hk2;cases hk2
   ·rw[z] at hk2;cases hk2
  ·obtain⟨c', e'⟩ := c2 x (Bu n2);have:=c1 x c' e';rw[e] at this;obtain rfl:=sI this;refine .inr ⟨za3 (env:=X.env) n2,c,zhw hnc n2 e',?_⟩;obtain⟨o,ho',hd⟩:=z;exact⟨o,hkeep _ _ ho',hd⟩
 ·rcases cells_of h with z | ⟨_, z⟩
  ·exact⟨none,(own x c z).1⟩
  ·obtain⟨v, o, ho', hd⟩ := I.cell x c (c1 x c z);exact⟨v,o,hkeep _ _ ho',hd⟩
 ·rcases cells_of h with z | ⟨_, z⟩
  ·exact I.hok.fresh (Fq (own x c z).2)
  ·exact I.freeC x c (c1 x c z)
 ·show (capSt cap σ).length = Nc.length;rw[<-zri hcap];unfold capSt;rw[Aa]
theorem zjp {M:Model}{A:Around}{E:Value->Shared->Prop}{s:Shared}{scope:Scope}{globals:Addr}{cl:List (Str × Addr)}{qual:Str}{outer:Env}{Q:Env->Shared->Prop}
  (hQ:∀h',h'.Ns s.heap.objs.size (fun _=>none)->(∀b o,s.heap.get? b=some o->h'.get? b=some o)->CellsOk h' (s.heap.objs.size+1) (cellsFrom (s.heap.objs.size+1) scope.names []) ->
   Q (newEnv scope s.heap.objs.size globals (cellsFrom (s.heap.objs.size+1) scope.names cl) qual none .none (some outer) builtinsNs) { s with heap:=h' }) :
  wpAny M A (newFunctionEnv scope globals cl [] qual none .none (some outer)) Q E s:=by
 simp only [newFunctionEnv,Option.isSome_some,Fa];refine Ab (wpAny_alloc ?_);refine Ab (wpAny_layCells _ (fun name kind cells=>by cases hkc:kind == NameKind.cell<;>simp [hkc]) _ _ _ _ ?_);have ok:=cellsFrom_ok scope.names (s.heap.push { cls:=.type "dict",data:=.dict #[] }) (s.heap.objs.size+1) [] ⟨fun _ _ hm=>(nomatch hm),List.Pairwise.nil⟩ (by rw[Dl];exact Ag _);rw[Dl] at ok;rw[show ({ s with heap:=s.heap.push { cls:=.type "dict",data:=.dict #[] } }:Shared).heap.objs.size=s.heap.objs.size+1 from Dl ..];refine Ab ?_;rw[Ft];exact Av (Av (hQ _ ((Heap.Ns.new s.heap (.type "dict")).keeps (pushCells_keeps _ _)) (fun b o e=>pushCells_keeps _ _ b o (Ae _ e)) ok))
end
noncomputable abbrev TM:=St->Hp->(St->Hp->Prop)->Prop
noncomputable def PM (X:Cx) (em:Sem Unit) (t:TM):Prop :=
  ∀(pins:List (Addr × Obj)) (s:Shared) (σ:St) (H:Hp) (N:St->Hp->Prop),Inv X pins σ H s->t σ H N ->
    wpAny (model X.prog X.w) X.A em (fun _ s'=>∃σ' H',Inv X pins σ' H' s'/\N σ' H') X.xe s
noncomputable def zrd (e:Expr) (d:Nat) (tg iter:Expr) (ifs:List Expr) (em:Sem Unit) (it acc:Value) (env:Env):Sem Fin:=do
  standAt iter.pos
  match <- pyNext it with
  | none=>pure (.done .next)
  | some v =>
    letOwnedTupleGo tg it v
    assign tg env v
    let mut ok:=true
    for c in ifs do
      if ok then ok <- isTrue c env (eval c env)
    if ok then em
    again (.compLoop e d it acc env)
noncomputable def zox (J:It) (g:TG) (tc:TT) (tm:TM) (σ:St) (H:Hp) (Q:St->Hp->Prop):Prop:=∃W:Nat->Nat->St->Hp->Prop,(∃m,W 0 m σ H) /\
 ∀i m σc Hc,W i m σc Hc->(J.stop i Hc/\Q σc Hc)\/(J.go i Hc/\∃N:St->Hp->Prop,(∀σ' H',N σ' H'->∃m',m' < m/\W (i+1) m' σ' H')/\∀x H',J.yld i Hc x H'->g x σc H' fun σ2 H2 =>
  tc σ2 H2 fun b H3=>if b=true then tm σ2 H3 N else N σ2 H3)
noncomputable def zsf (wi:TI) (cap:List (Option Nat)) (g:TG) (tc:TT) (tm:Addr->TM):TE:=fun σ H Q=>wi σ H fun J H1=>∀acc,H1 acc=none->zox J g tc (tm acc) (capSt cap σ) (upd H1 acc (.lst [])) fun _ Hc=>Q (.ref acc) Hc
section
variable {X:Cx}
theorem zrz {elt:Expr}{gens:List Comprehension}{scope:Scope}{pos:Pos}{d:Nat}{tg iter:Expr}{ifs:List Expr}{em:Sem Unit}{acc:Value}{g:TG}{tc:TT}{tm:TM}{pins:List (Addr × Obj)}{σ:St}{H:Hp}{s:Shared}{it:Addr}{fp:List Addr}{tn:Nat->Heap->Prop}{J:It}{N0:St->Hp->Prop}{R:Result->Shared->Prop}
  (hx:∀v s,¬ X.xe v s) (hc:X.calm=true) (ht:compTurn (.ListComp elt gens scope pos) d (.ref it) acc X.env=zrd (.ListComp elt gens scope pos) d tg iter ifs em (.ref it) acc X.env)
  (hg:PG X tg g) (hs:PTs X ifs tc) (hm:PM X em tm) (I:Inv X pins σ H s) (T:Turn X.prog X.w X.K tg J fp it tn) (st:tn 0 s.heap) (f:∀b∈fp,FpOk X pins H b)
  (hW:zox J g tc tm σ H N0)
  (hR:∀σ' H' s',Inv X pins σ' H' s'->N0 σ' H'->R (.ok .next) s'):codeAny (model X.prog X.w) X.A (.compLoop (.ListComp elt gens scope pos) d (.ref it) acc X.env) R s:=by
 have stat:∀{H' : Hp},(∀b∈fp,H' b=none)->∀b∈fp,FpOk X pins H' b:=fun hn b hb=>⟨hn b hb,(f b hb).2⟩;nofun;obtain⟨W,⟨m0,w0⟩,turn⟩:=hW;ac_rfl;refine codeAny_loop rfl (fun n s'=>∃i σ' H',Inv X pins σ' H' s'/\tn i s'.heap/\(∀b∈fp,H' b=none)/\W i n σ' H') ?_ m0 ⟨0,σ,H,I,st,fun b hb=>(f b hb).1,w0⟩;rintro n s3 ⟨i,σ3,H3,I3,st3,fr3,w3⟩;show wpAny _ X.A ((compTurn (.ListComp elt gens scope pos) d (.ref it) acc X.env).onRaise (fun x=>do noteFrame x X.env;theTreesLotGoes x)) _ _ s3;refine wpAny_noted ?_;rw[ht];unfold zrd;refine Ab (wpAny_standAt (Ab ?_));rcases turn i n σ3 H3 w3 with ⟨stop,qn⟩ | ⟨go,N,hN,step⟩
 ·refine Ei (T.done X rfl rfl rfl hc i pins s3 σ3 H3 (fun _ _ => False) I3 (stat fr3) st3 stop) (fun r s4 ⟨hr, I4⟩ => ?_) fun _ _ z => z.elim;subst hr;exact Av (hR σ3 H3 s4 I4 qn)
 ·refine Ei (T.item X rfl rfl rfl hc i pins s3 σ3 H3 (fun _ _ => False) I3 (stat fr3) st3 go) (fun r s4 ⟨u, hr, h4⟩ => ?_) fun _ _ z => z.elim;subst hr;refine Ab (Ei h4 (fun _ s5 ⟨x,H5,I5,r5,y5,st5,fr5⟩=>?_) fun _ _ z=>z.elim);have I5':=I5.pinned (stat fr5) (T.obj _ _ st5);refine Ab (Ei (hg _ s5 σ3 H5 x u _ I5' r5 (step x H5 y5)) (fun _ s6 ⟨σ6,H6,I6,q6⟩=>?_) fun v s z=>(hx v s z).elim);refine Ab (Ei (hs _ s6 σ6 H6 _ I6 q6) (fun ok s7 ⟨H7,I7,q7⟩=>?_) fun v s z=>(hx v s z).elim);have again:∀{sx:Shared}{σx:St}{Hx:Hp},Inv X (pins++zkv fp s5.heap) σx Hx sx->N σx Hx->∃m,m < n/\∃i σ' H',Inv X pins σ' H' sx/\tn i sx.heap/\(∀b∈fp,H' b=none)/\W i m σ' H':=fun {sx σx Hx} Ix nx=>by
   obtain⟨m',hm,wx⟩:=hN σx Hx nx;refine⟨m',hm,i+1,σx,Hx,Ix.unpinned,T.keep _ _ _ st5 fun b hb o e=>(Ix.pin (b,o) (Bh _ (Bh _ (zdu hb e)))).1,fun b hb=>?_,wx⟩;obtain⟨o,e,d⟩:=T.obj _ _ st5 b hb;exact (Ix.pin (b,o) (Bh _ (Bh _ (zdu hb e)))).2.1
  cases ok with
  | false=>exact Av ⟨rfl,again I7 q7⟩
  | true=>exact Ab (Ei (hm _ s7 σ6 H7 N I7 q7) (fun _ s8 ⟨σ8,H8,I8,n8⟩=>Av ⟨rfl,again I8 n8⟩) fun v s z=>(hx v s z).elim)
noncomputable def zy2 (acc:Addr) (te:TE):TM:=fun σ H N=>te σ H fun y H4=>∃ys,H4 acc=some (.lst ys)/\ys.length < sizeLine/\N σ (upd H4 acc (.lst (ys++[y])))
noncomputable def z3u (elt:Expr) (acc:Value) (env:Env):Sem Unit:=do let _ <- call (.builtin "list.append") [acc,<-eval elt env]
theorem z84 {elt:Expr}{te:TE}{acc:Addr}(he:PE X elt te):PM X (z3u elt (.ref acc) X.env) (zy2 acc te):=by
 intro pins s σ H N I h;unfold z3u;refine Ab (thn (he pins s σ H _ I h) fun yv s10 ⟨y,H10,I10,r10,ys,ha,hz,q10⟩=>?_);refine Ab (thn (zj6 _ s10 σ H10 (.ref acc) [y] _ [yv] (fun _ H'=>N σ H') I10 rfl (.cons r10 .nil) ⟨_,ys,y,rfl,rfl,ha,hz,q10⟩) fun _ s11 ⟨_,H11,I11,_,q11⟩=>?_);exact Av ⟨σ,H11,I11,q11⟩
end
theorem HOk.but {P:Program}{w:World}{H:Hp}{h h' : Heap}{a:Addr}(x:HOk P w H h)(hn:H a=none)(hs:Heap.SameBut a h h'):HOk P w H h':=fun b ob e=>by
 refine (x b ob e).stay (fun c w' hc q=>(hs.2 c ?_).trans q) (fun _ q=>q) fun _ _ q=>q;rintro rfl;rcases hc with rfl | hc
 ·rw[hn] at e;cases e
 ·rw[hn] at hc;cases hc
section
variable {X:Cx}
theorem zh4 {elt tg iter:Expr}{ifs:List Expr}{gs:List Comprehension}{scope:Scope}{pos:Pos}{cl:List (Str × Addr)}{Nc:List Str}{cap:List (Option Nat)}{g:TG}{tc:TT}{em:Value->Env->Sem Unit}{tm:Addr->TM}{pins:List (Addr × Obj)}{σ:St}{H2:Hp}{s2:Shared}{it:Addr}{fp:List Addr}{tn:Nat->Heap->Prop}{J:It}{Q:VK}{RR:Value->Addr->Result->Shared->Prop}{E:Value->Shared->Prop}
  (hc:X.calm=true) (hk:scope.kind=.function) (hcap:zhh cap Nc X.N scope=true) (hfr:zgc scope X.env.scope=true) (hnc:zfd scope=true)
  (hturn:∀it acc env,compTurn (.ListComp elt (⟨tg,iter,ifs,0⟩ :: gs) scope pos) 0 it acc env=zrd (.ListComp elt (⟨tg,iter,ifs,0⟩ :: gs) scope pos) 0 tg iter ifs (em acc env) it acc env)
  (hg:∀cl C s3 H3 fp,PG (zbe X Nc scope cl C s3 H3 fp) tg g) (ht:∀cl C s3 H3 fp,PTs (zbe X Nc scope cl C s3 H3 fp) ifs tc) (hm:∀cl C s3 H3 fp acc,PM (zbe X Nc scope cl C s3 H3 fp) (em (.ref acc) (zbe X Nc scope cl C s3 H3 fp).env) (tm acc))
  (c1:∀x c,cl.lookup x=some c->X.env.cells.lookup x=some c) (c2:∀x,(x,NameKind.free)∈scope.names->∃c,cl.lookup x=some c)
  (I2:Inv X pins σ H2 s2) (T:Turn X.prog X.w X.K tg J fp it tn) (st2:tn 0 s2.heap) (f2:∀b∈fp,FpOk X pins H2 b)
  (hW:∀acc,H2 acc=none->zox J g tc (tm acc) (capSt cap σ) (upd H2 acc (.lst [])) fun _ Hc=>Q (.ref acc) Hc)
  (hR:∀acc C s' H',(∃m,s'.heap.Ns C m)->(∀h',Heap.SameBut C s'.heap h'->Inv X pins σ H' { s' with heap:=h' })->FpOk X pins H' C->Q (.ref acc) H'->RR (.ref acc) C (.ok .next) s') :
  wpAny (model X.prog X.w) X.A (newList []) (fun acc s₃=>wpAny (model X.prog X.w) X.A (newFunctionEnv scope X.env.globals cl [] X.env.qual none .none (some X.env)) (fun cenv s₄ =>
   codeAny (model X.prog X.w) X.A (.compStart (.ListComp elt (⟨tg,iter,ifs,0⟩ :: gs) scope pos) 0 (.ref it) acc { cenv with scope:=relabel scope X.env }) (RR acc cenv.locals) s₄) E s₃) E s2:=by
 refine Dp (zjp fun h₁ hns₁ keep4 hcs=>?_);dsimp only at hns₁ keep4 hcs ⊢;have hacc:H2 s2.heap.objs.size=none:=I2.hok.fresh (Ag _);have I3:Inv X pins σ (upd H2 s2.heap.objs.size (.lst [])) { s2 with heap:=s2.heap.push { cls:=.type "list",dict:=none,data:=.seq ([]:List Value).toArray },toks:=s2.toks } :=
  I2.laid (t':=s2.toks) (fun b u e=>Ae _ e) (Ag _) ⟨by simp,[],0,.nil,Ay _ rfl⟩
 have hW':=hW s2.heap.objs.size hacc;generalize hH:s2.heap.push { cls:=.type "list",dict:=none,data:=.seq ([]:List Value).toArray }=hp at hns₁ keep4 hcs I3 ⊢;have f3:∀b∈fp,FpOk X pins (upd H2 s2.heap.objs.size (.lst [])) b:=fun b hb=>by
  obtain⟨o,ho,_⟩:=T.obj _ _ st2 b hb;exact⟨by rw[upd_ne (Bi (Ar ho))];exact (f2 b hb).1,(f2 b hb).2⟩
 have up:∀b o,s2.heap.get? b=some o->hp.get? b=some o:=fun b o e=>hH ▸ Ae _ e;have I4:=zwn (Nc:=Nc) (cap:=cap) (fp:=fp) (h4:=h₁) (tk:=s2.toks) I3 hk hcap hfr hnc c1 c2 f3 (fun b hb=>by
  obtain⟨o,ho,_⟩:=T.obj _ _ st2 b hb;exact Ar (up b o ho)) hns₁ keep4 hcs
 have st4:tn 0 h₁:=T.keep _ _ _ st2 fun b _ o e=>keep4 b o (up b o e);have loop:codeAny (model X.prog X.w) X.A (.compLoop (.ListComp elt (⟨tg,iter,ifs,0⟩ :: gs) scope pos) 0 (.ref it) (.ref s2.heap.objs.size) (compEnvC scope (cellsFrom (hp.objs.size+1) scope.names cl) hp.objs.size X.env)) (RR (.ref s2.heap.objs.size) hp.objs.size) { s2 with heap:=h₁,toks:=s2.toks }:=by
  refine zrz (X:=zbe X Nc scope (cellsFrom (hp.objs.size+1) scope.names cl) hp.objs.size { s2 with heap:=hp,toks:=s2.toks } (upd H2 s2.heap.objs.size (.lst [])) fp) (fun _ _ z=>z) hc (hturn _ _ _) (hg _ _ _ _ _) (ht _ _ _ _ _) (hm _ _ _ _ _ _) I4 T st4
   (fun b hb=>⟨(f3 b hb).1,(I4.ok.exf b hb).1,I4.ok.exfs b hb,.inl hb,(I4.ok.exf b hb).2,fun p hp'=>absurd (show p∈([]:List (Addr × Obj)) from hp') (by simp)⟩) hW' fun σ5 H5 s6 I6 qn=>?_
  obtain⟨m6,hm6,_⟩:=I6.loc;have fC:H5 hp.objs.size=none:=I6.free;refine hR _ _ _ H5 ⟨m6,hm6⟩ (fun h' hsb=>?_) (I3.fpOk (Ag _) fC) qn;refine I3.call' (s':={ s6 with heap:=h' }) (ch:=fp) I6.os ?_ (I6.hok.but fC hsb) I6.bare fun b hb=>⟨(f3 b hb).2.2.2.1,(f3 b hb).2.1,(f3 b hb).2.2.2.2.1,(f3 b hb).2.2.2.2.2⟩;have U:Un (frs X.stack) fp (upd H2 s2.heap.objs.size (.lst [])) H5 hp s6.heap:=I6.base;have nb:∀b o,hp.get? b=some o->b≠hp.objs.size:=fun b o e=>Bi (Ar e);exact⟨fun b o e n hb hx=>(hsb.2 b (nb b o e)).trans (U.keep b o e n hb hx),fun b o e n hb hx=>let ⟨sl,z⟩:=U.slot b o e n hb hx;⟨sl,(hsb.2 b (nb b o e)).trans z⟩,U.free,fun b o e hx=>let ⟨o',z⟩:=U.there b o e hx;⟨o',(hsb.2 b (nb b o e)).trans z⟩,U.tups,U.frzs,U.tbls⟩
 exact codeAny_compStart_list loop (T.self _ 0 _ _ _ st4 loop)
theorem z2p {elt tg iter:Expr}{ifs:List Expr}{gs:List Comprehension}{scope:Scope}{pos:Pos}{Nc:List Str}{cap:List (Option Nat)}{wi:TI}{g:TG}{tc:TT}{em:Value->Env->Sem Unit}{tm:Addr->TM} (hi:PI X tg iter wi)
  (hg:∀cl C s3 H3 fp,PG (zbe X Nc scope cl C s3 H3 fp) tg g) (ht:∀cl C s3 H3 fp,PTs (zbe X Nc scope cl C s3 H3 fp) ifs tc) (hm:∀cl C s3 H3 fp acc,PM (zbe X Nc scope cl C s3 H3 fp) (em (.ref acc) (zbe X Nc scope cl C s3 H3 fp).env) (tm acc))
  (hturn:∀it acc env,compTurn (.ListComp elt (⟨tg,iter,ifs,0⟩ :: gs) scope pos) 0 it acc env=zrd (.ListComp elt (⟨tg,iter,ifs,0⟩ :: gs) scope pos) 0 tg iter ifs (em acc env) it acc env)
  (hc:X.calm=true:=by rfl) (hk:scope.kind=.function:=by rfl) (hcap:zhh cap Nc X.N scope=true:=by rfl) (hfr:zgc scope X.env.scope=true:=by rfl) (hnc:zfd scope=true:=by rfl)
  (hnm:(scope.names.all fun p=>!(p.2 == NameKind.local) || decide (scope.names.lookup p.1=some .local))=true:=by rfl)
  (hs:∀x,foldedSetIterable iter X.env x=pure x:=by intro _;rfl):PE X (.ListComp elt (⟨tg,iter,ifs,0⟩ :: gs) scope pos) (zsf wi cap g tc tm):=by
 intro pins s σ H Q I h;rw[eval_ListComp];nofun;obtain⟨cl,hclos,c1,c2⟩:=zda (env:=X.env) (scope:=scope) fun x hx=>I.ok.has x (zdr hfr hx);ac_rfl;have hnames:∀x∈scope.names,x.2=.local->scope.names.lookup x.1=some .local:=fun x hx e=>by
  have q:=Bg.mp hnm _ hx;simpa [e] using q
 refine wpAny_comprehension_free (use:=none) rfl hs hclos hk hnames (thn (hi pins s σ H _ I h) fun v s1 h1=>thn h1 fun itv s2 h2=>?_);nofun;obtain⟨it,fp,tn,J,H2,e,I2,T,st2,f2,hW⟩:=h2;ac_rfl;subst e;refine zh4 (RR:=fun acc C=>compPost (model X.prog X.w) X.A X.xe none (EP X pins σ Q) acc C) hc hk hcap hfr hnc hturn hg ht hm c1 c2 I2 T st2 f2 hW ?_;intro acc C s' H' ⟨m,hm⟩ hI hC q;exact⟨m,hm,fun h' hsb=>⟨.ref acc,H',hI h' hsb,rfl,q⟩⟩
theorem z17 {y:Str}{py:Pos}{spos:Pos}{i:Nat}{elt tg iter:Expr}{ifs:List Expr}{gs:List Comprehension}{scope:Scope}{pos:Pos}{Nc:List Str}{cap:List (Option Nat)}{wi:TI}{g:TG}{tc:TT}{em:Value->Env->Sem Unit}{tm:Addr->TM} (hN:X.N.Nodup) (hiy:X.N[i]?=some y) (hy:Loc X.env.scope y) (hi:PI X tg iter wi)
  (hg:∀cl C s3 H3 fp,PG (zbe X Nc scope cl C s3 H3 fp) tg g) (ht:∀cl C s3 H3 fp,PTs (zbe X Nc scope cl C s3 H3 fp) ifs tc) (hm:∀cl C s3 H3 fp acc,PM (zbe X Nc scope cl C s3 H3 fp) (em (.ref acc) (zbe X Nc scope cl C s3 H3 fp).env) (tm acc))
  (hturn:∀it acc env,compTurn (.ListComp elt (⟨tg,iter,ifs,0⟩ :: gs) scope pos) 0 it acc env=zrd (.ListComp elt (⟨tg,iter,ifs,0⟩ :: gs) scope pos) 0 tg iter ifs (em acc env) it acc env)
  (hsw:swapsWith (.ListComp elt (⟨tg,iter,ifs,0⟩ :: gs) scope pos) (some (.Name y py)) spos.line X.env=pure true:=by rfl)
  (hc:X.calm=true:=by rfl) (hk:scope.kind=.function:=by rfl) (hcap:zhh cap Nc X.N scope=true:=by rfl) (hfr:zgc scope X.env.scope=true:=by rfl) (hnc:zfd scope=true:=by rfl)
  (hnm:(scope.names.all fun p=>!(p.2 == NameKind.local) || decide (scope.names.lookup p.1=some .local))=true:=by rfl)
  (hs:∀x,foldedSetIterable iter X.env x=pure x:=by intro _;rfl) (hf:X.fn y=true\/X.env.scope.names.lookup y=some .local:=by first | exact .inl rfl | exact .inr rfl | assumption) :
  PS X (.Assign [.Name y py] (.ListComp elt (⟨tg,iter,ifs,0⟩ :: gs) scope pos) spos) (tAsg (zsf wi cap g tc tm) (zq5 i)):=by
 intro pins s σ H D I h;nofun;obtain⟨cl,hclos,c1,c2⟩:=zda (env:=X.env) (scope:=scope) fun x hx=>I.ok.has x (zdr hfr hx);ac_rfl;have hnames:∀x∈scope.names,x.2=.local->scope.names.lookup x.1=some .local:=fun x hx e=>by
  have q:=Bg.mp hnm _ hx;simpa [e] using q
 rw[exec_Assign_Name_used _ _ _ _ hsw];refine Ab (wpAny_standAt (Ab ?_));show wpAny _ X.A (do let _ <- comprehension (.ListComp elt (⟨tg,iter,ifs,0⟩ :: gs) scope pos) scope X.env _ (newList []) false (eval iter X.env) (some (assign (.Name y py) X.env))) _ _ s;refine Ab (Ei (wpAny_comprehension_free (use:=some (assign (.Name y py) X.env)) (Q:=fun _ s'=>SP X pins D .next s') rfl hs hclos hk hnames
  (thn (hi pins s σ H _ I h) fun v s1 h1=>thn h1 fun itv s2 h2=>?_)) (fun _ s' hq=>Av (Av hq)) fun _ _ e=>e)
 nofun;obtain⟨it,fp,tn,J,H2,e,I2,T,st2,f2,hW⟩:=h2;ac_rfl;subst e;refine zh4 (Q:=fun x H1=>D.nx (σ.set i (some x)) H1) (RR:=fun acc C=>compPost (model X.prog X.w) X.A X.xe (some (assign (.Name y py) X.env)) (fun _ s'=>SP X pins D .next s') acc C) hc hk hcap hfr hnc hturn hg ht hm c1 c2 I2 T st2 f2 hW ?_;intro acc C s' H' ⟨m,hm⟩ hI hC q;show wpAny _ X.A (assign (.Name y py) X.env (.ref acc)) _ _ _;have I' : Inv X pins σ H' s':=hI s'.heap (.refl ..);refine wpAny_assign_Name (zkp I' hN hiy hy (v:=.ref acc) rfl (fun s'' I'' ⟨a,hsb,ha⟩=>?_) hf);have ne:C≠a:=by
  rcases ha with rfl | ha
  ·exact hC.2.1
  ·exact fun z=>hC.2.2.2.2.1 y a ha z.symm
 refine⟨m,hm.sameBut hsb ne,fun h' hsb'=>⟨_,H',?_,q⟩⟩;exact I''.turned (t':=s''.toks) (fun b o hb e=>(hsb'.2 b hb).trans e) hC.1 hC.2.1 hC.2.2.2.1 hC.2.2.2.2.1 hC.2.2.2.2.2
end
section
variable {X:Cx}{pins:List (Addr × Obj)}{σ:St}{H:Hp}{s:Shared}
theorem Inv.turnLay {h' : Heap}{t' : Nat}{ch:List Addr}{T:Addr}{o:HO} (I:Inv X pins σ H s) (k:∀b o,b ∉ ch->s.heap.get? b=some o->h'.get? b=some o) (th:∀b∈ch,∃o',h'.get? b=some o') (hch:∀b∈ch,FpOk X pins H b) (hT:s.heap.objs.size<=T)
  (new:za4 X.prog X.w (upd H T o) h' T o):Inv X pins σ (upd H T o) { s with heap:=h',toks:=t' }:=by
 have hn:H T=none:=I.hok.fresh hT;have ne:∀b u,s.heap.get? b=some u->b≠T:=fun b u e=>Bi (Bd (Ar e) hT);have nch:∀b u,H b=some u->b ∉ ch:=fun b u e hb=>by rw[(hch b hb).1] at e;cases e
 refine I.step (g':=s.gens) (d':=s.drawn) (ch:=ch) (fun b hb=>⟨(hch b hb).2.2.2.1,(hch b hb).2.1,(hch b hb).2.2.2.2.1,(hch b hb).2.2.2.2.2⟩) (fun b o _ _ hc e _=>k b o hc e) (fun b o _ _ hc e _=>⟨o.slots,k b o hc e⟩) (fun b u _ e n=>by rw[upd_ne (ne b u e)];exact n)
  (fun b u hc e=>⟨u,k b u hc e⟩) (fun b xs e=>by rw[upd_ne (zah e hn)];exact e) (fun b u xs e=>by rw[upd_ne (zah e hn)];exact e) (fun b ps e=>⟨#[],by rw[upd_ne (zah e hn),e];simp⟩) (fun m hm=>?_) (fun b u e=>?_) I.bare
 ·obtain⟨o, es, ep, ho, r⟩ := hm;exact⟨o,es,ep,k _ o (fun z=>(hch _ z).2.1 rfl) ho,r⟩
 ·by_cases hb : b = T
  ·subst hb;rw[upd_same] at e;obtain rfl:=sI e;exact new
  ·rw[upd_ne hb] at e;refine (I.hok b u e).stay (fun c v hc q=>k c v ?_ q) (fun c q=>by rw[upd_ne (zah q hn)];exact q) fun c xs q=>by rw[upd_ne (zah q hn)];exact q
   rcases hc with z | z
   ·rw[z];exact nch b u e
   ·exact nch c _ z
theorem Inv.turnL {h' : Heap}{t' : Nat}{ch:List Addr}(I:Inv X pins σ H s)(k:∀b o,b ∉ ch->s.heap.get? b=some o->h'.get? b=some o)(hch:∀b∈ch,FpOk X pins H b):Inv X pins σ H { s with heap:=h',toks:=t' }:=by
 have nch:∀b u,H b=some u->b ∉ ch:=fun b u e hb=>by rw[(hch b hb).1] at e;cases e
 refine I.step (g':=s.gens) (d':=s.drawn) (ch:=ch) (fun b hb=>⟨(hch b hb).2.2.2.1,(hch b hb).2.1,(hch b hb).2.2.2.2.1,(hch b hb).2.2.2.2.2⟩) (fun b o _ _ hc e _=>k b o hc e) (fun b o _ _ hc e _=>⟨o.slots,k b o hc e⟩) (fun b u _ e n=>n)
  (fun b u hc e=>⟨u,k b u hc e⟩) (fun b xs e=>e) (fun b u xs e=>e) (fun b ps e=>⟨#[],by rw[e];simp⟩) (fun m hm=>?_) (fun b u e=>?_) I.bare
 ·obtain⟨o, es, ep, ho, r⟩ := hm;exact⟨o,es,ep,k _ o (fun z=>(hch _ z).2.1 rfl) ho,r⟩
 ·refine (I.hok b u e).stay (fun c v hc q => k c v ?_ q) (fun c q => q) fun c xs q => q;rcases hc with z | z
  ·rw[z];exact nch b u e
  ·exact nch c _ z
end
noncomputable def Ite (K:PySem.W.Frag) (a:Addr):It :=
 ⟨fun i H=>∃xs x,SqL K H a xs/\xs[i]?=some x,fun i H x H'=>∃p v,x=.ref p/\H p=none/\H'=upd H p (.tup [.int i,v])/\∀xs,SqL K H a xs->xs[i]?=some v,fun i H=>∃xs,SqL K H a xs/\xs.length<=i⟩
theorem zta {P:Program}{w:World}{K:PySem.W.Frag}{es:List Expr}{x1}{px:Pos}(a e it:Addr)(hei:e≠it):Turn P w K (.Tuple es x1 px) (Ite K a) [e,it] e (fun i h=>(∃old,IsEnum h e it i old)/\h.IsListIter it a i) where
 mem:=by simp
 obj:=fun i h st b hb=>by
  nofun;obtain⟨⟨old,he⟩,o,hi,c,d⟩:=st;ac_rfl;rcases Aq.mp hb with rfl | hb
  ·exact⟨_,he,fun v z=>by cases z⟩
  ·have : b = it := by simpa using hb
   subst this;exact⟨o,hi,fun v z=>by rw[d] at z;cases z⟩
 keep:=fun i h h' st k=>⟨let ⟨old,he⟩:=st.1;⟨old,k e (by simp) _ he⟩,st.2.at fun o z=>k it (by simp) o z⟩
 item:=by
  intro X hP hw hK hc i pins s σ H E I hf st hg;subst hP hw hK;nofun;obtain⟨xs,x,hq,hx⟩:=hg;obtain⟨its,rv,p,hz⟩:=I.list hq;obtain⟨u,hu,ru⟩:=rv.get hx;obtain⟨⟨old,he⟩,hit⟩:=st;ac_rfl;refine wpAny_pyNext_enum_item he hit p.isList (x:=u) (by simpa using hu) hei fun h' ho hit' hT hsz hk=>⟨_,rfl,?_⟩;refine wpAny_letOwnedTupleGo_enum ho fun h'' he'' hs''=>?_;have kk:∀b o,b ∉ [e,it]->s.heap.get? b=some o->h''.get? b=some o:=fun b o hb q=>by
   have h1:b≠e:=fun z=>hb (by simp [z]);have h2:b≠it:=fun z=>hb (by simp [z]);exact (hs''.2 b h1).trans (hk b o h1 h2 q)
  have hTe:s.heap.objs.size≠e:=fun z=>absurd (Ar he) (by rw[z];exact Cf _);have hit'' : h''.IsListIter it a (i+1):=hit'.at fun o y=>(hs''.2 it hei.symm).trans y;refine⟨.ref s.heap.objs.size,upd H s.heap.objs.size (.tup [.int i,x]),I.turnLay kk (fun b hb=>?_) hf (Ag _) ⟨by show 2<=sizeLine;decide,[.int i s.toks,u],.cons ⟨_,rfl⟩ (.cons ru .nil),?_⟩,rfl,⟨_,x,rfl,I.hok.fresh (Ag _),rfl,fun ys hy=>by rw[I.list_inj hy hq];exact hx⟩,⟨⟨_,by simpa using he''⟩,hit''⟩,fun b hb=>?_⟩
  ·rcases Aq.mp hb with rfl | hb
   ·exact⟨_,he''⟩
   ·have : b = it := by simpa using hb
    subst this;obtain⟨o,z,_⟩:=hit'';exact⟨o,z⟩
  ·exact⟨_,(hs''.2 _ hTe).trans hT,rfl,_,rfl⟩
  ·have:b≠s.heap.objs.size:=by
    rcases Aq.mp hb with rfl | hb
    ·exact hTe.symm
    ·have e2 : b = it := by simpa using hb
     subst e2;obtain⟨o,z,_⟩:=hit;exact Bi (Ar z)
   rw[upd_ne this];exact (hf b hb).1
 done:=by
  intro X hP hw hK hc i pins s σ H E I hf st hg;subst hP hw hK;nofun;obtain⟨xs,hq,hx⟩:=hg;obtain⟨its,rv,p,hz⟩:=I.list hq;obtain⟨⟨old,he⟩,hit⟩:=st;obtain⟨f0,f1,f2,f3,f4,f5⟩:=hf it (by simp);ac_rfl;have hl:=rv.length;exact wpAny_pyNext_enum_end (I.ok.hd hc) he hit p.isList (Eo (by simp;omega)) fun h' eb=>⟨rfl,I.turned (t':=s.toks) (fun b o hb e=>eb b o hb e) f0 f1 f3 f4 f5⟩
 self:=fun _ _ _ _ _ st h=>let ⟨_,he⟩:=st.1;Gs he h
section
variable {X:Cx}
end
noncomputable def Itv (K:PySem.W.Frag) (a:Addr) (n:Nat):It :=
 ⟨fun i H=>i < n/\∃xs,SqL K H a xs/\xs.length=n,fun i H x H'=>H'=H/\∀xs,SqL K H a xs->xs[n - 1 - i]?=some x,fun i H=>i=n⟩
theorem zx9 {P:Program}{w:World}{K:PySem.W.Frag}{tg:Expr}(a it:Addr)(n:Nat):Turn P w K tg (Itv K a n) [it] it (fun i h=>h.IsRevIter it a ((n:Int) - 1 - (i:Int))) where
 mem:=by simp
 obj:=fun i h st b hb=>by
  have e:b=it:=by simpa using hb
  subst e;nofun;obtain⟨o,e,c,d⟩:=st;ac_rfl;exact⟨o,e,fun v z=>by rw[d] at z;cases z⟩
 keep:=fun i h h' st k=>st.at fun o e=>k it (by simp) o e
 item:=by
  intro X hP hw hK hc i pins s σ H E I hf st hg;subst hP hw hK;nofun;obtain⟨hi,xs,hq,hn⟩:=hg;ac_rfl;have hlt:n - 1 - i < xs.length:=by omega
  nofun;obtain⟨its,rv,p,hz⟩:=I.list hq;obtain⟨u,hu,ru⟩:=rv.get (Ac hlt);obtain⟨f0,f1,f2,f3,f4,f5⟩:=hf it (by simp);ac_rfl;have e:(n:Int) - 1 - (i:Int)=((n - 1 - i:Nat):Int):=by omega
  have st':=st;rw[e] at st';refine wpAny_pyNext_rev_item st' p.isList (x:=u) (by simpa using hu) fun h' st' sb=>?_;have I1:Inv X pins σ H { s with heap:=h' }:=I.turned (t':=s.toks) (fun b o hb e=>(sb.2 b hb).trans e) f0 f1 f3 f4 f5;nofun;obtain⟨o,e2,c,d⟩:=id st';ac_rfl;have e3:((n - 1 - i:Nat):Int) - 1=(n:Int) - 1 - ((i+1:Nat):Int):=by omega
  rw[e3] at st';exact⟨u,rfl,zw6 (s:={ s with heap:=h' }) e2 c d #v[0,9] ⟨_,H,I1,ru,⟨rfl,fun ys hy=>by rw[I.list_inj hy hq];exact Ac hlt⟩,st',fun b hb=>(hf b hb).1⟩⟩
 done:=by
  intro X hP hw hK hc i pins s σ H E I hf st hg;subst hP hw hK;have hg' : i=n:=hg;subst hg';nofun;obtain⟨f0,f1,f2,f3,f4,f5⟩:=hf it (by simp);ac_rfl;have e:(i:Int) - 1 - (i:Int)=-1:=by omega
  rw[e] at st;exact wpAny_pyNext_rev_end (I.ok.hd hc) st fun h' eb=>⟨rfl,I.turned (t':=s.toks) (fun b o hb e=>eb b o hb e) f0 f1 f3 f4 f5⟩
 self:=fun _ _ _ _ _ st h=>wpAny_pyIter_revIter st h
section
variable {X:Cx}{tg:Expr}
noncomputable def iRev (K:PySem.W.Frag) (ta:TA):TI:=fun σ H R=>ta σ H fun vs H1=>∃a xs,vs=[.ref a]/\SqL K H1 a xs/\R (Itv K a xs.length) H1
theorem z7j {l:Expr}{tl:TA}{p pos:Pos} (hg:Gl X "reversed") (hm:X.mg "reversed" = none) (hl:PA X [l] tl) (hs:starEach [l] X.env=[(false,eval l X.env)]:=by rfl) :
    PI X tg (.Call (.Name "reversed" p) [l] [] pos) (iRev X.K tl):=by
  intro pins s σ H R I h;refine Call_ (ze8 I hg hm boot_reversed (Dm (thn (hl pos pins s σ H _ I h) fun us s1 ⟨vs,H1,I1,r1,q1⟩=>?_) hs rfl));nofun;obtain⟨a,xs,e,hq,q⟩:=q1;ac_rfl;subst e;cases r1 with
  | cons r rr =>
    cases rr;cases r;nofun;obtain⟨its,rv,p',hz⟩:=I1.list hq;ac_rfl;refine call_reversed_list p'.isList ?_;have hit:(s1.heap.push (revObj a ((its.toArray.size:Int) - 1))).IsRevIter s1.heap.objs.size a ((its.toArray.size:Int) - 1):=⟨_,Ay _ rfl,rfl,rfl⟩;refine wpAny_pyIter_revIter hit ?_;refine⟨s1.heap.objs.size,[s1.heap.objs.size],_,_,H1,rfl,I1.kept (t':=s1.toks) fun b o e=>Ae _ e,zx9 a _ xs.length,?_,fun b hb=>?_,q⟩
    · have e : ((its.toArray.size : Int) - 1) = (xs.length : Int) - 1 - ((0 : Nat) : Int) := by have := rv.length; simp; omega
      rw[e] at hit;have ge:((its.toArray.size:Int) - 1)=(xs.length:Int) - 1 - ((0:Nat):Int):=e;dsimp only;rw[<-ge];exact⟨_,Ay _ rfl,rfl,rfl⟩
    · have e : b = s1.heap.objs.size := by simpa using hb
      subst e;exact I1.fpOk (Ag _) (I1.hok.fresh (Ag _))
end
section
variable {κ:Type} [DecidableEq κ]
noncomputable def valV (kvs:List (κ × V)) (k:κ):Option V:=(kvs.find? fun kv=>decide (kv.1=k)).map (·.2)
noncomputable def putK (kvs:List (κ × V)) (k:κ) (v:V):List (κ × V) :=
 if (kvs.any fun kv=>decide (kv.1=k))=true then kvs.map (fun kv=>if kv.1=k then (kv.1,v) else kv) else kvs++[(k,v)]
theorem zfk {p:κ × V}{r:List (κ × V)}{k:κ}(e:p.1=k):valV (p::r) k=some p.2:=by simp [valV,Dt,e]
theorem zfj {p:κ × V}{r:List (κ × V)}{k:κ}(e:¬ p.1=k):valV (p::r) k=valV r k:=by simp [valV,Dt,e]
theorem zn2 (k:κ):∀kvs:List (κ × V),(kvs.any fun kv=>decide (kv.1=k))=(valV kvs k).isSome
  | []=>rfl
  | p::r=>by
    rw[Et];by_cases e:p.1=k
    · simp only [zfk e,Ah e,Bool.true_or,Option.isSome_some]
    · rw[zfj e,Ap e,Bool.false_or];exact zn2 k r
theorem zf8 (kvs:List (κ × V))(k:κ)(v:V):(putK kvs k v).length<=kvs.length+1:=by
 unfold putK;split
 ·rw[Aa];omega
 ·rw[Bf,Be,List.length_nil];omega
theorem RelO.isSome_eq {o:Option V}{u:Option Value} (r:RelO o u):o.isSome=u.isSome:=by
  cases o with
  | none=>cases u with
    | none=>rfl
    | some _=>exact (show False from r).elim
  | some _=>cases u with
    | none=>exact (show False from r).elim
    | some _=>rfl
theorem RelO.getD {o:Option V}{u:Option Value}{d:V}{d' : Value} (r:RelO o u) (rd:RelV d d'):RelV (o.getD d) (u.getD d'):=by
  cases o with
  | none=>cases u with
    | none=>exact rd
    | some _=>exact (show False from r).elim
  | some _=>cases u with
    | none=>exact (show False from r).elim
    | some _=>exact r
theorem KV.val {kvs:List (κ × V)}{vs:List (κ × Value)} (r:KV kvs vs) (k:κ):RelO (valV kvs k) (valueAt vs k):=by
  unfold KV at r
  induction r with
  | nil=>exact True.intro
  | @cons p q ps qs h t ih =>
    obtain⟨h1,h2⟩:=h;by_cases e:p.1=k
    · have e' : q.1 = k := h1.symm.trans e
      have b:valueAt (q::qs) k=some q.2:=by simp [valueAt,Dt,e']
      rw[zfk e,b];exact h2
    · have e' : ¬ q.1 = k := fun z => e (h1.trans z)
      have b:valueAt (q::qs) k=valueAt qs k:=by simp [valueAt,Dt,e']
      rw[zfj e,b];exact ih
theorem KV.any {kvs:List (κ × V)}{vs:List (κ × Value)}(r:KV kvs vs)(k:κ):(kvs.any fun kv=>decide (kv.1=k))=vs.any fun kv=>decide (kv.1=k):=by
 unfold KV at r
 induction r with
 | nil=>rfl
 | cons h t ih=>rw[Et,Et,ih,h.1]
theorem KV.repl {kvs:List (κ × V)}{vs:List (κ × Value)} (r:KV kvs vs) (k:κ) {y:V}{u:Value} (ry:RelV y u) :
    KV (kvs.map fun kv=>if kv.1=k then (kv.1,y) else kv) (vs.map fun kv=>if kv.1=k then (kv.1,u) else kv):=by
  unfold KV at r ⊢
  induction r with
  | nil=>exact .nil
  | @cons p q ps qs h t ih =>
    rw[Ad,Ad];refine .cons ?_ ih;obtain⟨h1,h2⟩:=h;by_cases e:p.1=k
    · rw[if_pos e,if_pos (h1.symm.trans e)];exact⟨h1,ry⟩
    · rw[if_neg e,if_neg (fun z=>e (h1.trans z))];exact⟨h1,h2⟩
theorem KV.put {kvs:List (κ × V)}{vs:List (κ × Value)}(r:KV kvs vs)(k:κ){y:V}{u:Value}(ry:RelV y u):KV (putK kvs k y) (stored vs k u):=by
 unfold putK stored;rw[r.any k];by_cases e:(vs.any fun kv=>decide (kv.1=k))=true
 ·rw[if_pos e,if_pos e];exact r.repl k ry
 ·rw[if_neg e,if_neg e];exact Paired.snoc r ⟨rfl,ry⟩
theorem KV.keys {kvs:List (κ × V)}{vs:List (κ × Value)}(r:KV kvs vs):kvs.map (·.1)=vs.map (·.1):=by
 unfold KV at r
 induction r with
 | nil=>rfl
 | cons h t ih=>rw[Ad,Ad,ih,h.1]
theorem KV.length {kvs:List (κ × V)}{vs:List (κ × Value)}(r:KV kvs vs):kvs.length=vs.length:=Paired.length r
end
theorem z2k {P:Program}{w:World}{k:Key}{u:Value}(r:RelV (kV k) u):(zap P w).is k u=true:=by
 cases k with
 | inl i=>obtain⟨t,e⟩:=(show ∃t,u=Value.int i t from r);subst e;exact zm5 P w i t
 | inr x=>obtain⟨t,e⟩:=(show ∃t,u=Value.str x t from r);subst e;exact zmk P w x t
theorem zk8 {P:Program}{w:World}:∀{ks:List Key}{us:List Value},Vals (ks.map kV) us->ItemsAre (zap P w) ks us
  | [],_,r=>by rw[List.map_nil] at r;cases r;exact .nil
  | k::ks,_,r=>by
    rw[Ad] at r;cases r with
    | cons h t=>exact .cons (z2k h) (zk8 t)
noncomputable abbrev KT (H:Hp):List (List Key × V)->List (List Key × Addr × Value)->Prop:=Paired fun p q=>p.1=q.1/\H q.2.1=some (.tup (p.1.map kV))/\RelV p.2 q.2.2
theorem KT.val {H:Hp}{kvs:List (List Key × V)}{xs:List (List Key × Addr × Value)} (r:KT H kvs xs) (k:List Key):RelO (valV kvs k) ((atKey xs k).map (·.2)):=by
  induction r with
  | nil=>exact True.intro
  | @cons p q ps qs h t ih =>
    obtain⟨h1,_,h2⟩:=h;by_cases e:p.1=k
    · have e' : q.1 = k := h1.symm.trans e
      have b:atKey (q::qs) k=some q.2:=by simp [atKey,Dt,e']
      rw[zfk e,b];exact h2
    · have e' : ¬ q.1 = k := fun z => e (h1.trans z)
      have b:atKey (q::qs) k=atKey qs k:=by simp [atKey,Dt,e']
      rw[zfj e,b];exact ih
theorem KT.repl {H:Hp}{kvs:List (List Key × V)}{xs:List (List Key × Addr × Value)} (r:KT H kvs xs) (k:List Key) {y:V}{u:Value} (ry:RelV y u) :
    KT H (kvs.map fun kv=>if kv.1=k then (kv.1,y) else kv) (xs.map (putAt k u)):=by
  induction r with
  | nil=>exact .nil
  | @cons p q ps qs h t ih =>
    rw[Ad,Ad];refine .cons ?_ ih;obtain⟨h1,h2,h3⟩:=h;unfold putAt;by_cases e:p.1=k
    · rw[if_pos e,if_pos (h1.symm.trans e)];exact⟨h1,h2,ry⟩
    · rw[if_neg e,if_neg (fun z=>e (h1.trans z))];exact⟨h1,h2,h3⟩
theorem KT.put {H:Hp}{kvs:List (List Key × V)}{xs:List (List Key × Addr × Value)} (r:KT H kvs xs) (k:List Key) {b:Addr}{y:V}{u:Value} (hb:H b=some (.tup (k.map kV))) (ry:RelV y u) :
  KT H (putK kvs k y) (storedH xs k b u):=by
 have e:(kvs.any fun kv=>decide (kv.1=k))=(atKey xs k).isSome:=by
  rw[zn2,(r.val k).isSome_eq,Option.isSome_map]
 unfold putK storedH;rw[e];by_cases q:(atKey xs k).isSome=true
 ·rw[if_pos q,if_pos q];exact r.repl k ry
 ·rw[if_neg q,if_neg q];exact Paired.snoc r ⟨rfl,hb,ry⟩
theorem KT.keeps {H H' : Hp}{kvs:List (List Key × V)}{xs:List (List Key × Addr × Value)}(r:KT H kvs xs)(ht:∀b ys,H b=some (.tup ys)->H' b=some (.tup ys)):KT H' kvs xs :=
 Paired.mapP r fun _ _ z=>⟨z.1,ht _ _ z.2.1,z.2.2⟩
section
variable {P:Program}{w:World}{H:Hp}{h:Heap}{a:Addr}
theorem z7y {u:HO}(ok:HOk P w H h)(e:Rd H a u):za4 P w H h a u:=e.ok ok
theorem dk_rd {kvs:List (Key × V)}(ok:HOk P w H h)(e:Rd H a (.dK kvs)):kvs.length<=sizeLine/\(a == sysModules)=false/\∃vs,KV kvs vs/\h.DictOf (zap P w) a vs :=
 show za4 P w H h a (.dK kvs) from z7y ok e
theorem zwb {kvs:List (Key × V)}(ok:HOk P w H h)(e:H a=some (.dK kvs)):kvs.length<=sizeLine/\(a == sysModules)=false/\∃vs,KV kvs vs/\h.DictOf (zap P w) a vs:=dk_rd ok (.inl e)
theorem zr9 {ks:List Key}(ok:HOk P w H h)(e:H a=some (.tup (ks.map kV))):(tupleKind (zap P w)).is h ks a:=by
 nofun;obtain⟨_,its,r,o,h1,h2,n,h3⟩:=(show za4 P w H h a (.tup (ks.map kV)) from ok a _ e);ac_rfl;exact⟨o,its.toArray,n,h1,h2,h3,by simpa using zk8 r⟩
theorem dt_rd {kvs:List (List Key × V)} (ok:HOk P w H h) (e:Rd H a (.dT kvs)):kvs.length<=sizeLine/\(a == sysModules)=false /\
    ∃xs,KT H kvs xs/\h.DictOfH (tupleKind (zap P w)) a xs:=by
  refine aG fun _ qG=>?_;obtain ⟨z,y,xs,r,o,es,ep,h1,h2,h3,h4,h5⟩:=(show za4 P w H h a (.dT kvs) from z7y ok e);refine qG ?_;clear qG;refine ⟨z,y,xs,r,o,es,ep,h1,h2,h3,h4,fun x hx=>?_,h5⟩;have all:∀{l:List (List Key × V)}{m:List (List Key × Addr × Value)},KT H l m->∀x∈m,(tupleKind (zap P w)).is h x.1 x.2.1:=by
    intro l m q
    induction q with
    | nil=>intro x hx;exact nomatch hx
    | @cons p q ps qs hq t ih =>
      intro x hx;rcases Aq.mp hx with e | hx
      · subst e
        exact zr9 ok (by rw[<-hq.1];exact hq.2.1)
      · exact ih x hx
  exact all r x hx
theorem ybb {kvs:List (List Key × V)} (ok:HOk P w H h) (e:H a=some (.dT kvs)):kvs.length<=sizeLine/\(a == sysModules)=false /\
  ∃xs,KT H kvs xs/\h.DictOfH (tupleKind (zap P w)) a xs:=dt_rd ok (.inl e)
end
noncomputable def DGet (H:Hp) (a:Addr) (y:V) (r:Option V):Prop :=
 (∃kvs k,Rd H a (.dK kvs)/\y=kV k/\r=valV kvs k)\/∃kvs k b,Rd H a (.dT kvs)/\y=.ref b/\H b=some (.tup (k.map kV))/\r=valV kvs k
noncomputable def DPut (H:Hp) (a:Addr) (y v:V) (H' : Hp):Prop :=
 (∃kvs k,H a=some (.dK kvs)/\y=kV k/\kvs.length < sizeLine/\H'=upd H a (.dK (putK kvs k v))) \/
 ∃kvs k b,H a=some (.dT kvs)/\y=.ref b/\H b=some (.tup (k.map kV))/\kvs.length < sizeLine/\H'=upd H a (.dT (putK kvs k v))
section
variable {X:Cx}{pins:List (Addr × Obj)}{σ:St}{H:Hp}{s:Shared}{a:Addr}{y v:V}{u r:Value}{o:Option V}{A:Around}{E:Value->Shared->Prop}
theorem Inv.big (I:Inv X pins σ H s):sysModules < s.heap.objs.size:=by
 have h:mainGlobals < s.heap.objs.size:=(I.mod.glob.keeps I.bk).lt;exact Nat.lt_trans #v[0,9] h
theorem zr1 {Q:Value->Shared->Prop} (hu:A.units+1 < cLine) (I:Inv X pins σ H s) (g:DGet H a y (some v)) (ry:RelV y u) (h:∀w' s',Inv X pins σ H s'->RelV v w'->Q w' s') :
  wpAny (model X.prog X.w) A (getItem (.ref a) u) Q E s:=by
 rcases g with ⟨kvs,k,e,ey,l⟩ | ⟨kvs,k,b,e,ey,eb,l⟩
 ·subst ey;nofun;obtain⟨z,hd,vs,rel,dd⟩:=dk_rd I.hok e;obtain⟨w',hw,rw'⟩:=RelO.some_of (v:=v) (o:=valueAt vs k) (by rw[l];exact rel.val k);ac_rfl;exact wpAny_getItem_of (z2k ry) dd.mapOf hw (h w' _ (I.tok _) rw')
 ·subst ey;cases (show u=Value.ref b from ry);nofun;obtain⟨z,hd,xs,rel,dd⟩:=dt_rd I.hok e;obtain⟨w',hw,rw'⟩:=RelO.some_of (v:=v) (o:=(atKey xs k).map (·.2)) (by rw[l];exact rel.val k);obtain⟨p,hp,hp2⟩:=Option.map_eq_some_iff.mp hw;ac_rfl;refine wpAny_getItem_heap (tupleKind_room_in1 hu) (zr9 I.hok eb) dd hp ?_;rw[hp2];exact h w' _ (I.tok _) rw'
theorem zi3 {h' : Heap}{t' : Nat}{ob:HO} (I:Inv X pins σ H s) (mu:Mut (H a)) (hs:Heap.SameBut a s.heap h') (he:∃q,h'.get? a=some q) (new:za4 X.prog X.w (upd H a ob) h' a ob) :
  Inv X pins σ (upd H a ob) { s with heap:=h',toks:=t' } :=
 I.write (x:=a) (e:=a) mu (.inl rfl) (fun b q hb z=>(hs.2 b hb).trans z) he new
theorem z51 {P:Program}{w:World}{H' : Hp}{h' : Heap}{kvs:List (Key × V)}{vs:List (Key × Value)} (z:kvs.length<=sizeLine) (hd:(a == sysModules)=false) (rel:KV kvs vs) (dd:h'.DictOf (zap P w) a vs) :
  za4 P w H' h' a (.dK kvs):=⟨z,hd,vs,rel,dd⟩
theorem d_setItem {H' : Hp}{Q:Unit->Shared->Prop} (hu:A.units+1 < cLine) (I:Inv X pins σ H s) (g:DPut H a y v H') (ry:RelV y u) (rv:RelV v r) (h:∀s',Inv X pins σ H' s'->Q () s') :
  wpAny (model X.prog X.w) A (setItem (.ref a) u r) Q E s:=by
 rcases g with ⟨kvs,k,e,ey,l,eH⟩ | ⟨kvs,k,b,e,ey,eb,l,eH⟩
 ·subst ey eH;nofun;obtain⟨z,hd,vs,rel,dd⟩:=zwb I.hok e;ac_rfl;have hz:vs.length<=sizeLine:=by rw[<-rel.length];exact z
  have hl:(putK kvs k v).length<=sizeLine:=by have:=zf8 kvs k v;omega
  refine wpAny_setItem_pairs (hsz:=hz) (z2k ry) dd fun h' dd' hs=>h _ ?_;have he:∃q,h'.get? a=some q:=let ⟨q,_,_,hq,_⟩:=dd';⟨q,hq⟩;exact zi3 I (by rw[e];exact True.intro) hs he (z51 hl hd (rel.put k rv) dd')
 ·subst ey eH;cases (show u=Value.ref b from ry);nofun;obtain⟨z,hd,xs,rel,dd⟩:=ybb I.hok e;ac_rfl;have hz:xs.length<=sizeLine:=by rw[<-Paired.length rel];exact z
  have hl:(putK kvs k v).length<=sizeLine:=by have:=zf8 kvs k v;omega
  refine wpAny_setItem_heap (hsz:=hz) (tupleKind_room_in1 hu) (zr9 I.hok eb) dd fun h' dd' hs=>h _ ?_;nofun;obtain⟨q,es,ep,hq,h2,h3,h4,_,h5⟩:=dd';ac_rfl;refine zi3 I (by rw[e];exact True.intro) hs ⟨q,hq⟩ ⟨hl,hd,_,(rel.put k eb rv).keeps fun c ys ec=>?_,q,es,ep,hq,h2,h3,h4,h5⟩;rw[upd_ne (yba ec e (fun z=>nomatch z))];exact ec
end
section
variable {X:Cx}{pins:List (Addr × Obj)}{σ:St}{H:Hp}{s:Shared}{a:Addr}{kvs:List (Key × V)}{k:Key}{u:Value}{A:Around}{E:Value->Shared->Prop}
end
theorem zms {X:Cx}{pins:List (Addr × Obj)}{σ:St}{H:Hp}{s:Shared}{a:Addr}{y:V}{o:Option V}(I:Inv X pins σ H s)(g:DGet H a y o):s.TypeIs (.ref a) "dict" := by
 rcases g with ⟨kvs,k,e,_,_⟩ | ⟨kvs,k,b,e,_,_,_⟩
 ·obtain⟨_, _, vs, _, dd⟩ := dk_rd I.hok e;exact dd.typeIs
 ·obtain⟨_, _, xs, _, dd⟩ := dt_rd I.hok e;exact dd.typeIs
section
variable {X:Cx}{o i e value:Expr}{pos pos' tpos:Pos}{td ty tv:TE}
end
theorem zyc {P:Program}{w:World}{H:Hp}(h:Heap)(hb:sysModules < h.objs.size):za4 P w H (h.push { cls:=.type "dict",data:=.dict #[] }) h.objs.size (.dK []) :=
 ⟨Cb _,Dk.mpr (Ne.symm (Bi hb)),[],.nil,Heap.DictOf.new h⟩
noncomputable def zzr:TE:=fun _ H Q=>∀p,H p=none->Q (.ref p) (upd H p (.dK []))
section
variable {X:Cx}{pos:Pos}
theorem zx3:PE X (.Dict [] [] pos) zzr:=fun pins s σ H Q I h =>
 wpAny_Dict_empty ⟨.ref s.heap.objs.size,_,I.laid (a:=s.heap.objs.size) (o:=.dK []) (t':=s.toks) (fun _ _ q=>Ae _ q) (Ag _) (zyc s.heap I.big),rfl,h _ (I.hok.fresh (Ag _))⟩
end
section
variable {X:Cx}{pins:List (Addr × Obj)}{σ:St}{H:Hp}{s:Shared}{a:Addr}{y d:V}{u r:Value}{o:Option V}{A:Around}{E:Value->Shared->Prop}
end
section
variable {X:Cx}{o e f:Expr}{apos cpos:Pos}{td ty tx:TE}
end
section
variable {X:Cx}{pins:List (Addr × Obj)}{σ:St}{H:Hp}{s:Shared}{a:Addr}{kvs:List (Key × V)}{A:Around}{E:Value->Shared->Prop}
end
section
variable {X:Cx}{pins:List (Addr × Obj)}{σ:St}{H:Hp}{s:Shared}{a:Addr}{y:V}{u:Value}{A:Around}{E:Value->Shared->Prop}
end
section
variable {X:Cx}
theorem z69 {bs:List Bool}{its:List Value}{i:Nat}{v:Value}(r:Vals (bs.map V.bl) its)(h:its[i]?=some v):∃b,bs[i]?=some b/\v=.bool b:=by
 have hl:=r.length;rw[Aa] at hl;have hi:i < bs.length:=by rw[hl];exact (An.mp h).1
 obtain⟨u,hu,ru⟩:=r.get (i:=i) (x:=.bl bs[i]) (by rw[Am,Ac hi];rfl);rw[h] at hu;obtain rfl:=sI hu;exact⟨bs[i],Ac hi,ru⟩
theorem zjd {bs:List Bool}{i:Nat}(hi:i < bs.length):bs.getD i false=bs[i]:=by rw[By,Ac hi];rfl
theorem zrp (bs:List Bool):((List.range bs.length).any fun i=>bs.getD i false)=bs.any id:=by
 rw[Dj,List.any_eq_true,List.any_eq_true];constructor
 ·rintro ⟨i, hi, h⟩;rw[Bj] at hi;refine⟨bs[i],List.getElem_mem hi,?_⟩;rw[zjd hi] at h;exact h
 ·rintro ⟨b, hb, h⟩;obtain⟨i,hi,e⟩:=Dh.mp hb;refine⟨i,Bj.mpr hi,?_⟩;rw[zjd hi,e];exact h
theorem zv4 (bs:List Bool):((List.range bs.length).all fun i=>bs.getD i false)=bs.all id:=by
 rw[Dj,Bg,Bg];constructor
 ·intro h b hb;obtain⟨i,hi,e⟩:=Dh.mp hb;have:=h i (Bj.mpr hi);rw[zjd hi,e] at this;exact this
 ·intro h i hi;rw[Bj] at hi;rw[zjd hi];exact h _ (List.getElem_mem hi)
theorem zom {P:Program}{w:World}{A:Around}{bs:List Bool}{its:List Value}(r:Vals (bs.map V.bl) its):TruthOf P w A (fun i v=>its.toArray[i]?=some v) (fun i=>bs.getD i false):=fun i v s Q E hP hQ=>by
 obtain⟨b,hb,e⟩:=z69 r (by simpa using hP);subst e;have:bs.getD i false=b:=by rw[By,hb];rfl
 have hQ' : Q (bs.getD i false) s:=hQ;rw[this] at hQ';exact Do hQ'
theorem zyt (hc:X.calm=true):zcr X (.builtin "any") (fun xs H Q=>∃(a:Addr) (bs:List Bool),xs=[.ref a]/\SqL X.K H a (bs.map V.bl)/\Q (.bl (bs.any id)) H):=by
 intro pins s σ H xs us Q I r h;obtain⟨a,bs,rfl,hq,q⟩:=h;obtain⟨u,rfl,rx⟩:=vals1 r;cases rx;obtain⟨its,rv,p,hz⟩:=I.list hq;have hl:=rv.length;rw[Aa] at hl;have ha:a < s.heap.objs.size:=by obtain⟨o,e,_⟩:=p.isList;exact Ar e
 refine call_any_walk (Fc p.isList ?_);refine⟨s.heap.objs.size,_,[s.heap.objs.size],its.toArray.size,_,_,_,rfl,Walks.list (A:=X.A.in1) (show X.A.in1.handled=none from I.ok.hd hc) _ a (Bi ha) its.toArray,⟨⟨_,Ay _ rfl,rfl,rfl⟩,p.isList.push _⟩,zom rv,fun h' tk hk=>?_⟩;have e:its.toArray.size=bs.length:=by simp;omega
 rw[e,zrp];refine⟨.bl _,H,I.kept fun b o hb=>?_,rfl,q⟩;exact hk b o (by intro z;rw[Al] at z;subst z;exact absurd (Ar hb) (Cf _)) (Ae _ hb)
theorem zzd (hc:X.calm=true):zcr X (.builtin "all") (fun xs H Q=>∃(a:Addr) (bs:List Bool),xs=[.ref a]/\SqL X.K H a (bs.map V.bl)/\Q (.bl (bs.all id)) H):=by
 intro pins s σ H xs us Q I r h;obtain⟨a,bs,rfl,hq,q⟩:=h;obtain⟨u,rfl,rx⟩:=vals1 r;cases rx;obtain⟨its,rv,p,hz⟩:=I.list hq;have hl:=rv.length;rw[Aa] at hl;have ha:a < s.heap.objs.size:=by obtain⟨o,e,_⟩:=p.isList;exact Ar e
 refine call_all_walk (Fc p.isList ?_);refine⟨s.heap.objs.size,_,[s.heap.objs.size],its.toArray.size,_,_,_,rfl,Walks.list (A:=X.A.in1) (show X.A.in1.handled=none from I.ok.hd hc) _ a (Bi ha) its.toArray,⟨⟨_,Ay _ rfl,rfl,rfl⟩,p.isList.push _⟩,zom rv,fun h' tk hk=>?_⟩;have e:its.toArray.size=bs.length:=by simp;omega
 rw[e,zv4];refine⟨.bl _,H,I.kept fun b o hb=>?_,rfl,q⟩;exact hk b o (by intro z;rw[Al] at z;subst z;exact absurd (Ar hb) (Cf _)) (Ae _ hb)
theorem zxn:zcr X (.builtin "isinstance") (fun xs H Q=>∃x t c b,xs=[x,.ty c]/\TyOf X.K H x t/\PySem.W.kitOne X.K t (.type c)=some b/\Q (.bl b) H):=by
  intro pins s σ H xs us Q I r h;nofun;obtain⟨x,t,c,b,rfl,ty,e,q⟩:=h;ac_rfl;cases r with
  | cons rx rr =>
    obtain⟨u,rfl,rc⟩:=vals1 rr;cases (show u=Value.type c from rc);exact zu2 I rx ty e fun tk=>⟨.bl b,H,I.tok _,rfl,q⟩
theorem z8y:OpR X (compareOp .Is) (fun x y H Q=>∃b,y=.bl b/\Q (.bl (decide (x=.bl b))) H):=by
 intro pins s σ H x y v u Q I rx ry h;obtain⟨b,rfl,q⟩:=h;cases ry;cases x with
 | bl c=>cases rx;exact Er rfl (zaj I q (by cases b<;>cases c<;>rfl))
 | non=>cases rx;exact Er rfl (zaj I q (by cases b<;>rfl))
 | ref _=>cases rx;exact Er rfl (zaj I q (by cases b<;>rfl))
 | ty _=>cases rx;exact Er rfl (zaj I q (by cases b<;>rfl))
 | int _=>obtain⟨t,e⟩:=rx;subst e;exact Er rfl (zaj I q (by cases b<;>rfl))
 | str _=>obtain⟨t,e⟩:=rx;subst e;exact Er rfl (zaj I q (by cases b<;>rfl))
 | byt _=>obtain⟨t,e⟩:=rx;subst e;exact Er rfl (zaj I q (by cases b<;>rfl))
 | flt _=>obtain⟨t,e⟩:=rx;subst e;exact Er rfl (zaj I q (by cases b<;>rfl))
end
noncomputable def z4l (i j:Int):Prop:=Builtin.Int.intBits i<=2 ^ 20/\Builtin.Int.intBits j<=2 ^ 20
theorem z32 {X:Cx}:OpR X (binaryOp .Mult) (rI z4l fun i j=>.int (i * j)):=opI fun _ _ _ _ _ _ _ hc q=>mul_int q (IntMulOk.of_bits hc.1 hc.2)
structure Cal (P:Program) (w:World) (K:PySem.W.Frag) (mg:Str->Option Value) (base:Heap) (n:Nat) (x:Str) (ps:List Str) (sp:Sp):Prop where
 ex:∃f fd,FnOk P w K mg base CX0 n f fd ps sp/\znc K fd ps []/\PySem.W.keepIn K (.ref f)=true/\mg x=some (.ref f)
theorem z8l {X:Cx}{n k:Nat}{x:Str}{ps:List Str}{sp:Sp}{e:Expr}{es:List Expr}{t:TA}{p pos:Pos} (C:Cal X.prog X.w X.K X.mg X.base n x ps sp) (hr:Room k X.A) (hg:Gl X x) (ha:PA X (e::es) t) (hk:n<=k:=by decide)
  (hdb:(x == ("__debug__" : Str))=false:=by decide) (hs:starEach (e::es) X.env=(false,eval e X.env)::starEach es X.env:=by rfl) (hpl:(backTo pos (starEach es X.env)).any (·.1)=false:=by rfl) :
  PE X (.Call (.Name x p) (e::es) [] pos) (z12 sp [] E0 t):=by
 nofun;obtain⟨f,fd,F,b,kp,m⟩:=C.ex;ac_rfl;exact z1u F (hr.mono hk) hg m kp b .nil z95 ha hdb hs hpl
theorem Same.new {p:Addr}{H:Hp}(h:H p=none)(o:HO):Same H (L2.upd H p o):=fun b u e=>by rw[upd_ne (zah e h)];exact e
theorem SqL.of' {K:PySem.W.Frag}{H:Hp}{a:Addr}{xs:List V}(h:H a=some (.lst xs)):SqL K H a xs:=.inl (.inl h)
noncomputable def MM:Int:=2305843009213693951
noncomputable def big:Nat:=1099511627776
noncomputable def Bits (xs:List Int):Prop:=∀x∈xs,x=0\/x=1
noncomputable def zad (xs:List Int):Int:=xs.foldr (fun b a=>2 * a+b) 0
theorem z6c:bootBuiltins "len" = some (.builtin "len"):=by decide +kernel
theorem z7i:bootBuiltins "abs" = some (.builtin "abs"):=by decide +kernel
theorem z4y:bootBuiltins "any" = some (.builtin "any"):=by decide +kernel
theorem z7s:bootBuiltins "all" = some (.builtin "all"):=by decide +kernel
theorem z6q:bootBuiltins "sum" = some (.builtin "sum"):=by decide +kernel
theorem zio:bootBuiltins "isinstance" = some (.builtin "isinstance"):=by decide +kernel
theorem z0s:bootBuiltins "int" = some (.type "int"):=by decide +kernel
theorem z39:bootBuiltins "bool" = some (.type "bool"):=by decide +kernel
theorem z5k:bootBuiltins "str" = some (.type "str"):=by decide +kernel
theorem zos:bootBuiltins "tuple" = some (.type "tuple"):=by decide +kernel
theorem zmw:bootBuiltins "list" = some (.type "list"):=by decide +kernel
theorem zy5 {w:Int}{i:Nat}(h0:0 < w)(h:w<=2 ^ (200 * i)):0 < w * 10 ^ 60/\w * 10 ^ 60<=2 ^ (200 * (i+1)):=by
 have e:(2:Int) ^ (200 * (i+1))=2 ^ (200 * i) * 2 ^ 200:=by rw[Nat.mul_add,Int.pow_add]
 rw[e];refine⟨Int.mul_pos h0 #v[0,9],?_⟩;have h1:w * 10 ^ 60<=2 ^ (200 * i) * 10 ^ 60:=Int.mul_le_mul_of_nonneg_right h #v[0,9];have h2:(2:Int) ^ (200 * i) * 10 ^ 60<=2 ^ (200 * i) * 2 ^ 200:=Int.mul_le_mul_of_nonneg_left #v[0,9] #v[];omega
theorem zji {w:Int}{i:Nat}(h0:0<=w)(h:w<=2 ^ (200 * i))(hi:i<=63):Builtin.Int.intBits w<=2 ^ 20:=by
 have h1:(2:Int) ^ (200 * i) < 2 ^ (200 * i+1):=by rw[Int.pow_succ];have:(0:Int) < 2 ^ (200 * i):=Int.pow_pos #v[0,9];omega
 have h2:w.natAbs < 2 ^ (200 * i+1):=by
  have:((w.natAbs:Nat):Int) < ((2 ^ (200 * i+1):Nat):Int):=by
   rw[Int.natCast_pow];have e:((w.natAbs:Nat):Int)=w:=by omega
   rw[e];exact Int.lt_of_le_of_lt h h1
  exact Int.ofNat_lt.mp this
 have:=PyProof.Rows.intBits_le h2;omega
theorem zgl:∀{xs:List Int},Bits xs->0<=zad xs/\zad xs < 2 ^ xs.length
  | [],_=>by decide
  | x::r,h=>by
    have hx:=h x Ak;have ih:=zgl (xs:=r) fun y hy=>h y (Aj _ hy);show 0<=2 * zad r+x/\2 * zad r+x < 2 ^ (r.length+1);rw[Int.pow_succ];omega
noncomputable def zar:Expr->Bool
 | .Starred ..=>false
 | _=>true
theorem zak {e:Expr}{es:List Expr}{env:Env}(h:zar e=true):starEach (e::es) env=(false,eval e env)::starEach es env:=by
 cases e<;>first | rfl | (cases h)
theorem pac {X:Cx}{e:Expr}{es:List Expr}{te:TE}{t:TA}(ha:PE X e te)(hr:PA X es t)(h:zar e=true:=by rfl):PA X (e::es) (zfg te t):=zu7 ha hr (zak h)
end L2
namespace L2
theorem noSome {α:Type}{a:α}{P:Prop}(h:none=some a):P:=by cases h
open PySem PySem.Spec PyProof.Rows
noncomputable abbrev DKey:=Key ⊕ List Key
inductive W where
 | non | bl (b:Bool) | int (i:Int) | str (x:Str) | tup (xs:List W) | lst (xs:List W) | frl (xs:List W) | dic | dct (ks:List DKey) (vs:List W)
 deriving BEq,Inhabited
mutual
inductive Rep (K:PySem.W.Frag) (F:Hp):W->V->Prop where
 | non:Rep K F .non .non
 | bl (b:Bool):Rep K F (.bl b) (.bl b)
 | int (i:Int):Rep K F (.int i) (.int i)
 | str (x:Str):Rep K F (.str x) (.str x)
 | tup {ws:List W}{a:Addr}{vs:List V} (h:F a=some (.tup vs)) (r:Reps K F ws vs):Rep K F (.tup ws) (.ref a)
 | lst {ws:List W}{a:Addr}{vs:List V} (h:F a=some (.lst vs)) (r:Reps K F ws vs):Rep K F (.lst ws) (.ref a)
 | frl {ws:List W}{a:Addr}{vs:List V} (h:SqL K F a vs) (r:Reps K F ws vs):Rep K F (.frl ws) (.ref a)
 | dic {a:Addr}{kvs:List (Key × V)} (h:F a=some (.dK kvs)):Rep K F .dic (.ref a)
 | dct {a:Addr}{ks:List Key}{ws:List W}{vs:List V} (h:F a=some (.dK (ks.zip vs))) (hl:ks.length=vs.length) (r:Reps K F ws vs):Rep K F (.dct (ks.map .inl) ws) (.ref a)
 | dctT {a:Addr}{ks:List (List Key)}{ws:List W}{vs:List V} (h:F a=some (.dT (ks.zip vs))) (hl:ks.length=vs.length) (r:Reps K F ws vs):Rep K F (.dct (ks.map .inr) ws) (.ref a)
inductive Reps (K:PySem.W.Frag) (F:Hp):List W->List V->Prop where
 | nil:Reps K F [] []
 | cons {w:W}{v:V}{ws:List W}{vs:List V} (h:Rep K F w v) (r:Reps K F ws vs):Reps K F (w::ws) (v::vs)
end
theorem zeq {α:Type}{l:List α}{i j:Nat}{x y:α}(hi:i < l.length)(h:(l.set i x)[j]?=some y):(j=i/\y=x)\/(j≠i/\l[j]?=some y):=by
 by_cases e:j=i
 ·subst e;rw[Dn hi] at h;exact .inl ⟨rfl,(sI h).symm⟩
 ·rw[Di (Ne.symm e)] at h;exact .inr ⟨e,h⟩
theorem zo6 {α:Type}{l:List α}{i:Nat}{x:α}(h:l[i]?=some x):l.set i x=l:=by
 apply Dw;intro j;by_cases e:j=i
 ·subst e;rw[Dn (An.mp h).1,h]
 ·rw[Di (Ne.symm e)]
section
variable {K:PySem.W.Frag}{F F' H H' : Hp}
mutual
theorem Rep.mono (s:Same F F'):∀{w:W}{v:V},Rep K F w v->Rep K F' w v
 | _,_,.non=>.non
 | _,_,.bl b=>.bl b
 | _,_,.int i=>.int i
 | _,_,.str x=>.str x
 | _,_,.tup h r=>.tup (s _ _ h) (Reps.mono s r)
 | _,_,.lst h r=>.lst (s _ _ h) (Reps.mono s r)
 | _,_,.frl h r=>.frl (s.seq h) (Reps.mono s r)
 | _,_,.dic h=>.dic (s _ _ h)
 | _,_,.dct h hl r=>.dct (s _ _ h) hl (Reps.mono s r)
 | _,_,.dctT h hl r=>.dctT (s _ _ h) hl (Reps.mono s r)
theorem Reps.mono (s:Same F F'):∀{ws:List W}{vs:List V},Reps K F ws vs->Reps K F' ws vs
 | _,_,.nil=>.nil
 | _,_,.cons h r=>.cons (Rep.mono s h) (Reps.mono s r)
end
theorem Reps.length:∀{ws:List W}{vs:List V},Reps K F ws vs->ws.length=vs.length
 | _,_,.nil=>rfl
 | _,_,.cons _ r=>congrArg (· + 1) (Reps.length r)
theorem Reps.get:∀{ws:List W}{vs:List V}{i:Nat}{w:W},Reps K F ws vs->ws[i]?=some w->∃v,vs[i]?=some v/\Rep K F w v
  | _,_,_,_,.nil,e=>by simp at e
  | _,_,0,_,.cons h _,e=>by simp at e;subst e;exact⟨_,rfl,h⟩
  | _,_,i+1,w,.cons _ r,e=>by
    obtain⟨v,h1,h2⟩:=Reps.get (i:=i) (w:=w) r (by simpa using e);exact⟨v,by simpa using h1,h2⟩
theorem Reps.getV:∀{ws:List W}{vs:List V}{i:Nat}{v:V},Reps K F ws vs->vs[i]?=some v->∃w,ws[i]?=some w/\Rep K F w v
  | _,_,_,_,.nil,e=>by simp at e
  | _,_,0,_,.cons h _,e=>by simp at e;subst e;exact⟨_,rfl,h⟩
  | _,_,i+1,v,.cons _ r,e=>by
    obtain⟨w,h1,h2⟩:=Reps.getV (i:=i) (v:=v) r (by simpa using e);exact⟨w,by simpa using h1,h2⟩
theorem Reps.append:∀{xs ys:List W}{us ws:List V},Reps K F xs us->Reps K F ys ws->Reps K F (xs++ys) (us++ws)
 | _,_,_,_,.nil,s=>s
 | _,_,_,_,.cons h r,s=>.cons h (Reps.append r s)
theorem Reps.take:∀{xs:List W}{us:List V} (n:Nat),Reps K F xs us->Reps K F (xs.take n) (us.take n)
 | _,_,0,_=>.nil
 | _,_,_+1,.nil=>.nil
 | _,_,n+1,.cons h r=>.cons h (Reps.take n r)
theorem Reps.drop:∀{xs:List W}{us:List V} (n:Nat),Reps K F xs us->Reps K F (xs.drop n) (us.drop n)
 | _,_,0,r=>r
 | _,_,_+1,.nil=>.nil
 | _,_,n+1,.cons _ r=>Reps.drop n r
theorem Reps.set {w:W}{v:V}(h:Rep K F w v):∀{xs:List W}{us:List V} (i:Nat),Reps K F xs us->Reps K F (xs.set i w) (us.set i v)
 | _,_,_,.nil=>.nil
 | _,_,0,.cons _ r=>.cons h r
 | _,_,i+1,.cons q r=>.cons q (Reps.set h i r)
theorem Reps.reverse:∀{xs:List W}{us:List V},Reps K F xs us->Reps K F xs.reverse us.reverse
 | _,_,.nil=>.nil
 | _,_,.cons h r=>by rw[List.reverse_cons,List.reverse_cons];exact (Reps.reverse r).append (.cons h .nil)
theorem Reps.rep {xs:List W}{us:List V}(r:Reps K F xs us):∀k:Nat,Reps K F (List.replicate k xs).flatten (List.replicate k us).flatten
 | 0=>.nil
 | k+1=>by rw[Cr,Cr,Dv,Dv];exact r.append (r.rep k)
noncomputable def isIt:W->V->Prop
 | .int i,v=>v=.int i
 | .bl b,v=>v=.bl b
 | _,_=>True
theorem Rep.isIt {w:W}{v:V}(h:Rep K F w v):isIt w v:=by cases h<;>first | rfl | trivial
theorem Reps.uncons {w:W}{ws:List W}{vs:List V}(h:Reps K F (w::ws) vs):∃v us,vs=v::us/\Rep K F w v/\Reps K F ws us:=by
 cases h with
 | cons h r=>exact⟨_,_,rfl,h,r⟩
theorem Reps.ints:∀{ns:List Int}{vs:List V},Reps K F (ns.map W.int) vs->vs=ns.map V.int:=by
  intro ns
  induction ns with
  | nil=>intro vs h;cases h;rfl
  | cons n ns ih =>
    intro vs h;obtain⟨v,us,e,h1,h2⟩:=Reps.uncons h;rw[e,ih h2,show v=.int n from h1.isIt];rfl
theorem Reps.ofInts:∀(ns:List Int),Reps K F (ns.map W.int) (ns.map V.int)
 | []=>.nil
 | n::ns=>.cons (.int n) (Reps.ofInts ns)
theorem Reps.bls:∀{bs:List Bool}{vs:List V},Reps K F (bs.map W.bl) vs->vs=bs.map V.bl:=by
  intro ns
  induction ns with
  | nil=>intro vs h;cases h;rfl
  | cons n ns ih =>
    intro vs h;obtain⟨v,us,e,h1,h2⟩:=Reps.uncons h;rw[e,ih h2,show v=.bl n from h1.isIt];rfl
noncomputable abbrev En:=List (Option (W × Bool))
noncomputable abbrev Prt:=Addr->HO->Prop
inductive OwnR (K:PySem.W.Frag) (F:Hp):W->HO->Prop where
 | lst {ws:List W}{vs:List V} (r:Reps K F ws vs):OwnR K F (.lst ws) (.lst vs)
 | dct {ks:List Key}{ws:List W}{vs:List V} (hl:ks.length=vs.length) (r:Reps K F ws vs):OwnR K F (.dct (ks.map .inl) ws) (.dK (ks.zip vs))
 | dctT {ks:List (List Key)}{ws:List W}{vs:List V} (hl:ks.length=vs.length) (r:Reps K F ws vs):OwnR K F (.dct (ks.map .inr) ws) (.dT (ks.zip vs))
theorem OwnR.mono {w:W}{o:HO}(s:Same F F')(h:OwnR K F w o):OwnR K F' w o:=by
 cases h with
 | lst r=>exact .lst (r.mono s)
 | dct hl r=>exact .dct hl (r.mono s)
 | dctT hl r=>exact .dctT hl (r.mono s)
theorem OwnR.rep {w:W}{o:HO}{a:Addr}(h:OwnR K F w o)(e:F a=some o):Rep K F w (.ref a):=by
 cases h with
 | lst r=>exact .lst e r
 | dct hl r=>exact .dct e hl r
 | dctT hl r=>exact .dctT e hl r
theorem OwnR.list {ws:List W}{o:HO}(h:OwnR K F (.lst ws) o):∃vs,o=.lst vs/\Reps K F ws vs:=by
 cases h with
 | lst r=>exact⟨_,rfl,r⟩
noncomputable def lams:List Str:=["_law_terms","_law_in_order","_law_poly_of","voted_terms","law"]
noncomputable def lamQ (x:Str):Str:=x++".<locals>."++"<lambda>"
noncomputable def z3d (c:Addr) (q:Str) (h:Heap):Prop:=∃oc vs t,h.get? c=some oc/\oc.data=.fields vs/\vs[1]?=some (.str q t)
noncomputable def z1f (K:PySem.W.Frag):Prop:=∀x∈lams,∀x'∈lams,∀c c' P,PySem.W.tabIn K x=some (c,P)->PySem.W.tabIn K x'=some (c',P)->x=x'
noncomputable def zqf (K:PySem.W.Frag) (F:Hp) (pr:Prt) (H:Hp):Prop:=z1f K/\∀x∈lams,∀c P,PySem.W.tabIn K x=some (c,P)->∃ps:Array Value,H P=some (.tbl ps)/\F P=none/\(∀o,¬ pr P o)/\TriplesOk ps.toList /\
 ∀pos cv,codeAmong pos ps.toList=some cv->∃c',cv=.ref c'/\F c'=some (.ext (z3d c' (lamQ x)))
theorem zqf.go {F F' H H' : Hp}{pr pr' : Prt}(T:zqf K F pr H)(h1:∀b ps,H b=some (.tbl ps)->F b=none->H' b=some (.tbl ps)/\F' b=none)(h2:Same F F')(h3:∀b ps,H b=some (.tbl ps)->(∀o,¬ pr b o)->∀o,¬ pr' b o):zqf K F' pr' H':=⟨T.1,fun x hx c P e=>by
 nofun;obtain⟨ps,a1,a2,a3,a4,a5⟩:=T.2 x hx c P e;ac_rfl;refine⟨ps,(h1 P ps a1 a2).1,(h1 P ps a1 a2).2,h3 P ps a1 a3,a4,fun pos cv q=>?_⟩;obtain⟨c',b1,b2⟩:=a5 pos cv q;exact⟨c',b1,h2 _ _ b2⟩⟩
structure Rel (K:PySem.W.Frag) (F:Hp) (pr:Prt) (en:En) (σ:St) (H:Hp):Prop where
 len:en.length=σ.length
 sub:Same F H
 val:∀(i:Nat) (w:W),en[i]?=some (#v[w,6])->∃v,σ[i]?=some (some v)/\Rep K F w v
 own:∀(i:Nat) (w:W),en[i]?=some (#v[w,5])->∃(a:Addr) (o:HO) (w' : W),w=w'/\σ[i]?=some (some (V.ref a))/\H a=some o/\F a=none/\OwnR K F w' o
 inj:∀(i j:Nat) (a:Addr) (w w' : W),en[i]?=some (#v[w,5])->en[j]?=some (#v[w',5])->σ[i]?=some (some (V.ref a))->σ[j]?=some (some (V.ref a))->i=j
 prt:∀b o,pr b o->H b=some o/\F b=none/\∀(i:Nat) (w:W),en[i]?=some (#v[w,5])->σ[i]?≠some (some (V.ref b))
 tb:zqf K F pr H
noncomputable def Res (K:PySem.W.Frag) (F H:Hp) (pr:Prt) (en:En) (σ:St):W × Bool->V->Prop
 | (w,false),v=>Rep K F w v
 | (w,true),v=>∃(a:Addr) (o:HO) (w' : W),w=w'/\v=V.ref a/\H a=some o/\F a=none/\OwnR K F w' o/\(∀(i:Nat) (w' : W),en[i]?=some (#v[w',5])->σ[i]?≠some (some (V.ref a)))/\∀b o,pr b o->b≠a
noncomputable def RepB (K:PySem.W.Frag) (F H:Hp) (w:W) (v:V):Prop:=Rep K F w v\/∃(a:Addr) (o:HO) (w' : W),w=w'/\v=V.ref a/\H a=some o/\OwnR K F w' o
inductive Out (K:PySem.W.Frag) (F H:Hp):W × Bool->V->Hp->Prop where
 | val {w:W}{v:V} (r:Rep K F w v):Out K F H (w,false) v H
 | lst {p:Addr}{ws:List W}{vs:List V} (n:H p=none) (r:Reps K F ws vs):Out K F H (.lst ws,true) (.ref p) (upd H p (.lst vs))
 | tup {p:Addr}{ws:List W}{vs:List V} (n:H p=none) (r:Reps K F ws vs):Out K F H (.tup ws,false) (.ref p) (upd H p (.tup vs))
theorem Same.upd_both {F H:Hp}(s:Same F H)(p:Addr)(o:HO):Same (upd F p o) (upd H p o):=fun b u e=>by
 by_cases hb:b=p
 ·subst hb;rw[upd_same] at e ⊢;exact e
 ·rw[upd_ne hb] at e ⊢;exact s _ _ e
variable {pr:Prt}{en:En}{σ:St}
theorem Rel.lay (R:Rel K F pr en σ H){p:Addr}(hp:H p=none)(o:HO):Rel K F pr en σ (upd H p o):=by
 have ne:∀a u,H a=some u->a≠p:=fun a u e=>zah e hp;refine⟨R.len,R.sub.trans (Same.new hp o),R.val,fun i w e=>?_,R.inj,fun q o2 hq=>?_,R.tb.go (fun b ps e f=>⟨by rw[upd_ne (ne b _ e)];exact e,f⟩) (.refl F) fun b ps e h=>h⟩
 ·refine aG fun Gg qG => ?_;obtain⟨a,vs,ws,h1,h2,h3,h4,h5⟩:=R.own i w e;ac_rfl;exact⟨a,vs,ws,h1,h2,by rw[upd_ne (ne a _ h3)];exact h3,h4,h5⟩
 ·obtain⟨h1, h2, h3⟩ := R.prt q o2 hq;exact⟨by rw[upd_ne (ne _ _ h1)];exact h1,h2,h3⟩
theorem Rel.layF (R:Rel K F pr en σ H){p:Addr}(hp:H p=none)(o:HO):Rel K (upd F p o) pr en σ (upd H p o):=by
 have ne:∀a u,H a=some u->a≠p:=fun a u e=>zah e hp;have fp:F p=none:=R.sub.free hp;have s:Same F (upd F p o):=Same.new fp o;refine⟨R.len,R.sub.upd_both p o,fun i w e=>?_,fun i w e=>?_,R.inj,fun q o2 hq=>?_,R.tb.go (fun b ps e f=>⟨by rw[upd_ne (ne b _ e)];exact e,by rw[upd_ne (ne b _ e)];exact f⟩) s fun b ps e h=>h⟩
 ·obtain⟨v, h1, h2⟩ := R.val i w e;exact⟨v,h1,h2.mono s⟩
 ·refine aG fun Gg qG => ?_;obtain⟨a,vs,ws,h1,h2,h3,h4,h5⟩:=R.own i w e;ac_rfl;exact⟨a,vs,ws,h1,h2,by rw[upd_ne (ne a _ h3)];exact h3,by rw[upd_ne (ne a _ h3)];exact h4,h5.mono s⟩
 ·obtain⟨h1, h2, h3⟩ := R.prt q o2 hq;exact⟨by rw[upd_ne (ne _ _ h1)];exact h1,by rw[upd_ne (ne _ _ h1)];exact h2,h3⟩
theorem Out.close {r:W × Bool}{v:V} (R:Rel K F pr en σ H) (o:Out K F H r v H'):∃F',Same F F'/\Rel K F' pr en σ H'/\Res K F' H' pr en σ r v:=by
  cases o with
  | val r=>exact⟨F,.refl F,R,r⟩
  | @lst p ws vs n r =>
    refine⟨F,.refl F,R.lay n _,p,_,_,rfl,rfl,upd_same,R.sub.free n,.lst r,fun i w' e z=>?_,fun q o2 hq z=>?_⟩
    · obtain ⟨a, vs, ws, h1, h2, h3, h4, h5⟩ := R.own i w' e
      rw[h2] at z;cases z;rw[n] at h3;exact noSome h3
    · have := (R.prt q o2 hq).1
      rw[z,n] at this;exact noSome this
  | @tup p ws vs n r=>exact⟨upd F p (.tup vs),Same.new (R.sub.free n) _,R.layF n _,.tup upd_same (r.mono (Same.new (R.sub.free n) _))⟩
theorem Out.mono {r:W × Bool}{v:V}(s:Same F F')(o:Out K F H r v H'):Out K F' H r v H':=by
 cases o with
 | val r=>exact .val (r.mono s)
 | lst n r=>exact .lst n (r.mono s)
 | tup n r=>exact .tup n (r.mono s)
theorem Res.freeze {r:W × Bool}{v:V} (R:Rel K F pr en σ H) (h:Res K F H pr en σ r v):∃F',Same F F'/\Rel K F' pr en σ H/\Rep K F' r.1 v:=by
  obtain⟨w,b⟩:=r;cases b with
  | false=>exact⟨F,.refl F,R,h⟩
  | true =>
    nofun;obtain⟨a,vs,ws,rfl,rfl,h1,h2,h3,h4,h5⟩:=h;ac_rfl;have s:Same F (upd F a vs):=Same.new h2 _;have nt:∀ps,vs≠.tbl ps:=fun ps z=>by cases h3<;>cases z
    refine⟨upd F a vs,s,⟨R.len,fun b u e=>?_,fun i w e=>?_,fun i w e=>?_,R.inj,fun q o2 hq=>?_,R.tb.go (fun b ps e f=>⟨e,by rw[upd_ne (fun z=>by subst z;rw[h1] at e;exact nt ps (sI e))];exact f⟩) s fun b ps e h=>h⟩,(h3.mono s).rep upd_same⟩
    · by_cases hb : b = a
      · subst hb;rw[upd_same] at e;obtain rfl:=sI e;exact h1
      · rw[upd_ne hb] at e;exact R.sub _ _ e
    · obtain ⟨v, q1, q2⟩ := R.val i w e
      exact⟨v,q1,q2.mono s⟩
    · refine aG fun Gg qG => ?_
      obtain⟨a',vs',ws',q1,q2,q3,q4,q5⟩:=R.own i w e;ac_rfl;have ne:a'≠a:=fun z=>by subst z;exact h4 i w e q2
      exact⟨a',vs',ws',q1,q2,q3,by rw[upd_ne ne];exact q4,q5.mono s⟩
    · obtain ⟨q1, q2, q3⟩ := R.prt q o2 hq
      exact⟨q1,by rw[upd_ne (h5 q o2 hq)];exact q2,q3⟩
theorem Rel.freeze (R:Rel K F pr en σ H) {i:Nat}{w:W}{v:V}{fl:Bool} (e:en[i]?=some (some (w,fl))) (hv:σ[i]?=some (some v)):∃F',Same F F'/\Rel K F' pr (en.set i (some (w,false))) σ H/\Rep K F' w v:=by
  have hi:i < en.length:=(An.mp e).1;cases fl with
  | false =>
    obtain⟨v',h1,h2⟩:=R.val i w e;rw[hv] at h1;cases h1;refine⟨F,.refl F,?_,h2⟩;rw[zo6 e];exact R
  | true =>
    nofun;obtain⟨a,vs,ws,e0,h2,h3,h4,h5⟩:=R.own i w e;ac_rfl;subst e0;rw[hv] at h2;cases h2;have s:Same F (upd F a vs):=Same.new h4 _;have nt:∀ps,vs≠.tbl ps:=fun ps z=>by cases h5<;>cases z
    have g:∀j w' b,(en.set i (some (w,false)))[j]?=some (some (w',b))->(j=i/\w'=w/\b=false)\/(j≠i/\en[j]?=some (some (w',b))):=fun j w' b h=>by
      rcases zeq hi h with ⟨z,q⟩ | z
      · cases q;exact .inl ⟨z,rfl,rfl⟩
      · exact .inr z
    refine⟨upd F a vs,s,⟨by rw[Fg];exact R.len,fun b u e'=>?_,fun j w' e'=>?_,fun j w' e'=>?_,fun j k b w1 w2 e1 e2=>?_,fun q o2 hq=>?_,R.tb.go (fun b ps e f=>⟨e,by rw[upd_ne (fun z=>by subst z;rw[h3] at e;exact nt ps (sI e))];exact f⟩) s fun b ps e h=>h⟩,(h5.mono s).rep upd_same⟩
    · by_cases hb : b = a
      · subst hb;rw[upd_same] at e';obtain rfl:=sI e';exact h3
      · rw[upd_ne hb] at e';exact R.sub _ _ e'
    · rcases g j w' false e' with ⟨rfl, rfl, _⟩ | ⟨_, z⟩
      · exact⟨_,hv,(h5.mono s).rep upd_same⟩
      · obtain ⟨v', q1, q2⟩ := R.val j w' z
        exact⟨v',q1,q2.mono s⟩
    · rcases g j w' true e' with ⟨_, _, z⟩ | ⟨ne, z⟩
      · cases z
      · refine aG fun Gg qG => ?_
        obtain⟨a',vs',ws',q1,q2,q3,q4,q5⟩:=R.own j w' z;ac_rfl;have ne2:a'≠a:=fun q=>by subst q;exact ne (R.inj j i a' _ _ z e q2 hv)
        exact⟨a',vs',ws',q1,q2,q3,by rw[upd_ne ne2];exact q4,q5.mono s⟩
    · rcases g j w1 true e1 with ⟨_, _, z⟩ | ⟨_, z1⟩
      · cases z
      · rcases g k w2 true e2 with ⟨_, _, z⟩ | ⟨_, z2⟩
        · cases z
        · exact R.inj j k b _ _ z1 z2
    · obtain ⟨q1, q2, q3⟩ := R.prt q o2 hq
      have ne:q≠a:=fun z=>by
        have:=q3 i _ e;rw[hv,z] at this;exact this rfl
      refine⟨q1,by rw[upd_ne ne];exact q2,fun j w' e'=>?_⟩;rcases g j w' true e' with ⟨_,_,z⟩ | ⟨_,z⟩
      · cases z
      · exact q3 j w' z
theorem Rel.repB (R:Rel K F pr en σ H) {i:Nat}{w:W}{fl:Bool}{v:V} (e:en[i]?=some (some (w,fl))) (hv:σ[i]?=some (some v)):RepB K F H w v:=by
  cases fl with
  | false =>
    obtain⟨v',h1,h2⟩:=R.val i w e;rw[hv] at h1;cases h1;exact .inl h2
  | true =>
    nofun;obtain⟨a,o,ws,h1,h2,h3,h4,h5⟩:=R.own i w e;ac_rfl;rw[hv] at h2;cases h2;exact .inr ⟨a,o,ws,h1,rfl,h3,h5⟩
theorem Rel.has (R:Rel K F pr en σ H){i:Nat}{w:W}{fl:Bool}(e:en[i]?=some (some (w,fl))):∃v,σ[i]?=some (some v):=by
 cases fl with
 | false=>obtain⟨v,h,_⟩:=R.val i w e;exact⟨v,h⟩
 | true=>obtain⟨a,_,_,_,h,_⟩:=R.own i w e;exact⟨_,h⟩
theorem Rel.store (R:Rel K F pr en σ H){i:Nat}{r:W × Bool}{v:V}(h:Res K F H pr en σ r v)(hi:i < en.length):Rel K F pr (en.set i (some r)) (σ.set i (some v)) H:=by
 have hi' : i < σ.length:=by rw[<-R.len];exact hi
 have g:∀j x,(en.set i (some r))[j]?=some (some x)->(j=i/\x=r)\/(j≠i/\en[j]?=some (some x)):=fun j x h=>by
  rcases zeq hi h with ⟨z,q⟩ | z
  ·obtain rfl:=sI q;exact .inl ⟨z,rfl⟩
  ·exact .inr z
 have s1:(σ.set i (some v))[i]?=some (some v):=Dn hi';have s2:∀j,j≠i->(σ.set i (some v))[j]?=σ[j]?:=fun j hj=>Di (Ne.symm hj);refine⟨by rw[Fg,Fg];exact R.len,R.sub,fun j w e=>?_,fun j w e=>?_,fun j k a w1 w2 e1 e2=>?_,fun q o2 hq=>?_,R.tb⟩
 ·rcases g j _ e with ⟨rfl, z⟩ | ⟨hj, z⟩
  ·subst z;exact⟨v,s1,h⟩
  ·rw[s2 j hj];exact R.val j w z
 ·rcases g j _ e with ⟨rfl, z⟩ | ⟨hj, z⟩
  ·subst z;obtain⟨a,vs,ws,h1,h2,h3,h4,h5,_⟩:=h;exact⟨a,vs,ws,h1,by rw[s1,h2],h3,h4,h5⟩
  ·rw[s2 j hj];exact R.own j w z
 ·intro q1 q2;rcases g j _ e1 with ⟨rfl,z1⟩ | ⟨hj,z1⟩
  ·rcases g k _ e2 with ⟨rfl, z2⟩ | ⟨hk, z2⟩
   ·rfl
   ·subst z1;obtain⟨a',vs,ws,h1,h2,h3,h4,h5,h6,_⟩:=h;rw[s1,h2] at q1;cases q1;rw[s2 k hk] at q2;exact absurd q2 (h6 k _ z2)
  ·rcases g k _ e2 with ⟨rfl, z2⟩ | ⟨hk, z2⟩
   ·subst z2;obtain⟨a',vs,ws,h1,h2,h3,h4,h5,h6,_⟩:=h;rw[s1,h2] at q2;cases q2;rw[s2 j hj] at q1;exact absurd q1 (h6 j _ z1)
   ·rw[s2 j hj] at q1; rw[s2 k hk] at q2;exact R.inj j k a _ _ z1 z2 q1 q2
 ·obtain⟨q1, q2, q3⟩ := R.prt q o2 hq;refine⟨q1,q2,fun j w e=>?_⟩;rcases g j _ e with ⟨rfl,z⟩ | ⟨hj,z⟩
  ·subst z;obtain⟨a',vs,ws,h1,h2,h3,h4,h5,h6,h7⟩:=h;rw[s1,h2];intro q';cases q';exact h7 q o2 hq rfl
  ·rw[s2 j hj];exact q3 j w z
theorem Rel.changeO (R:Rel K F pr en σ H){i:Nat}{w w0:W}{a:Addr}{o0:HO}(e:en[i]?=some (#v[w,5]))(hv:σ[i]?=some (some (.ref a)))(r:OwnR K F w0 o0):Rel K F pr (en.set i (#v[w0,5])) σ (upd H a o0):=by
 have hi:i < en.length:=(An.mp e).1;nofun;obtain⟨a0,vs,ws,h1,h2,h3,h4,h5⟩:=R.own i w e;ac_rfl;rw[hv] at h2;cases h2;have nt:∀ps,vs≠.tbl ps:=fun ps z=>by cases h5<;>cases z
 have nx:∀φ,vs≠.ext φ:=fun ps z=>by cases h5<;>cases z
 have g:∀j x,(en.set i (#v[w0,5]))[j]?=some (some x)->(j=i/\x=(w0,true))\/(j≠i/\en[j]?=some (some x)):=fun j x h=>by
  rcases zeq hi h with ⟨z,q⟩ | z
  ·obtain rfl:=sI q;exact .inl ⟨z,rfl⟩
  ·exact .inr z
 refine⟨by rw[Fg];exact R.len,fun b u hb=>?_,fun j w' e'=>?_,fun j w' e'=>?_,fun j k b w1 w2 e1 e2 q1 q2=>?_,fun q o2 hq=>?_,R.tb.go (fun b ps e f=>⟨by rw[upd_ne (fun z=>by subst z;rw[h3] at e;exact nt ps (sI e))];exact e,f⟩) (.refl F) fun b ps e h=>h⟩
 ·have : b ≠ a := fun z => by subst z; rw[h4] at hb; cases hb
  rw[upd_ne this];exact R.sub _ _ hb
 ·rcases g j _ e' with ⟨_, z⟩ | ⟨_, z⟩
  ·cases z
  ·exact R.val j w' z
 ·rcases g j _ e' with ⟨rfl, z⟩ | ⟨hj, z⟩
  ·cases z;exact⟨a,o0,w0,rfl,hv,upd_same,h4,r⟩
  ·refine aG fun Gg qG => ?_;obtain⟨a',vs2,ws2,q1,q2,q3,q4,q5⟩:=R.own j w' z;ac_rfl;have ne:a'≠a:=fun z'=>by subst z';exact hj (R.inj j i a' _ _ z e q2 hv)
   exact⟨a',vs2,ws2,q1,q2,by rw[upd_ne ne];exact q3,q4,q5⟩
 ·have z1:∃w0,en[j]?=some (some (w0,true)):=by
   rcases g j _ e1 with ⟨rfl,_⟩ | ⟨_,z⟩
   ·exact⟨_,e⟩
   ·exact⟨_,z⟩
  have z2:∃w0,en[k]?=some (#v[w0,5]):=by
   rcases g k _ e2 with ⟨rfl,_⟩ | ⟨_,z⟩
   ·exact⟨_,e⟩
   ·exact⟨_,z⟩
  obtain⟨_,z1⟩:=z1;obtain⟨_,z2⟩:=z2;exact R.inj j k b _ _ z1 z2 q1 q2
 ·obtain ⟨q1, q2, q3⟩ := R.prt q o2 hq;have ne:q≠a:=fun z=>by
   have:=q3 i _ e;rw[hv,z] at this;exact this rfl
  refine⟨by rw[upd_ne ne];exact q1,q2,fun j w' e'=>?_⟩;rcases g j _ e' with ⟨rfl,_⟩ | ⟨_,z⟩
  ·exact q3 j _ e
  ·exact q3 j w' z
theorem Rel.change (R:Rel K F pr en σ H){i:Nat}{w:W}{a:Addr}{ws' : List W}{vs' : List V}(e:en[i]?=some (#v[w,5]))(hv:σ[i]?=some (some (.ref a)))(r:Reps K F ws' vs'):Rel K F pr (en.set i (#v[ws',2])) σ (upd H a (.lst vs')):=R.changeO e hv (.lst r)
theorem Rel.ownL (R:Rel K F pr en σ H){i:Nat}{ws:List W}(e:en[i]?=some (#v[ws,2])):∃(a:Addr) (vs:List V) (ws' : List W),W.lst ws=.lst ws'/\σ[i]?=some (some (V.ref a))/\H a=some (.lst vs)/\F a=none/\Reps K F ws' vs:=by
 nofun;obtain⟨a,o,w',e1,h2,h3,h4,h5⟩:=R.own i _ e;ac_rfl;subst e1;obtain⟨vs,rfl,r⟩:=h5.list;exact⟨a,vs,ws,rfl,h2,h3,h4,r⟩
end
end L2
namespace L2
open PySem PySem.Spec PyProof.Rows
noncomputable abbrev GE:=En->Option (En × (W × Bool))
noncomputable abbrev GA:=En->Option (En × (W ⊕ Nat))
noncomputable abbrev GT:=En->Option (En × Bool)
noncomputable abbrev GAs:=En->Option (En × List (W ⊕ Nat))
noncomputable abbrev GL:=En->Option (En × List W)
noncomputable def ArgR (K:PySem.W.Frag) (F:Hp) (σ:St):W ⊕ Nat->V->Prop
 | .inl w,v=>Rep K F w v
 | .inr i,v=>σ[i]?=some (some v)
inductive ArgRs (K:PySem.W.Frag) (F:Hp) (σ:St):List (W ⊕ Nat)->List V->Prop where
 | nil:ArgRs K F σ [] []
 | cons {x:W ⊕ Nat}{v:V}{xs:List (W ⊕ Nat)}{vs:List V} (h:ArgR K F σ x v) (r:ArgRs K F σ xs vs):ArgRs K F σ (x::xs) (v::vs)
noncomputable def resA (en:En):W ⊕ Nat->Option W
  | .inl w=>some w
  | .inr i=>match en[i]? with
    | some (some (w,_))=>some w
    | _=>none
section
variable {K:PySem.W.Frag}{F F' H:Hp}{pr:Prt}{en:En}{σ:St}
theorem ArgR.mono (s:Same F F'){x:W ⊕ Nat}{v:V}(h:ArgR K F σ x v):ArgR K F' σ x v:=by
 cases x with
 | inl w=>exact Rep.mono s h
 | inr i=>exact h
theorem ArgRs.mono (s:Same F F'):∀{xs:List (W ⊕ Nat)}{vs:List V},ArgRs K F σ xs vs->ArgRs K F' σ xs vs
 | _,_,.nil=>.nil
 | _,_,.cons h r=>.cons (h.mono s) (ArgRs.mono s r)
theorem ArgR.repB (R:Rel K F pr en σ H) {x:W ⊕ Nat}{v:V}{w:W} (h:ArgR K F σ x v) (e:resA en x=some w):RepB K F H w v:=by
  cases x with
  | inl u=>obtain rfl:=sI e;exact .inl h
  | inr i =>
    unfold resA at e;cases q:en[i]? with
    | none=>simp only [q] at e;exact noSome e
    | some o =>
      cases o with
      | none=>simp only [q] at e;exact noSome e
      | some p =>
        obtain⟨u,fl⟩:=p;simp only [q] at e;obtain rfl:=sI e;exact R.repB q h
end
noncomputable def tE (K:PySem.W.Frag) (g:GE):TE:=fun σ H Q=>∃F pr en en' r,Rel K F pr en σ H/\g en=some (en',r)/\∀F' H' v,Same F F'->Rel K F' pr en' σ H'->Res K F' H' pr en' σ r v->Q v H'
noncomputable def tA (K:PySem.W.Frag) (g:GA):TE:=fun σ H Q=>∃F pr en en' x,Rel K F pr en σ H/\g en=some (en',x)/\∀F' H' v,Same F F'->Rel K F' pr en' σ H'->ArgR K F' σ x v->Q v H'
noncomputable def tT (K:PySem.W.Frag) (g:GT):TT:=fun σ H Q=>∃F pr en en' b,Rel K F pr en σ H/\g en=some (en',b)/\∀F' H',Same F F'->Rel K F' pr en' σ H'->Q b H'
noncomputable def tAs (K:PySem.W.Frag) (g:GAs):TA:=fun σ H Q=>∃F pr en en' xs,Rel K F pr en σ H/\g en=some (en',xs)/\∀F' H' vs,Same F F'->Rel K F' pr en' σ H'->ArgRs K F' σ xs vs->Q vs H'
theorem PE.wk {X:Cx}{e:Expr}{t t' : TE}(h:PE X e t)(i:∀σ H Q,t' σ H Q->t σ H Q):PE X e t':=fun pins s σ H Q I q=>h pins s σ H Q I (i σ H Q q)
theorem PT.wk {X:Cx}{e:Expr}{t t' : TT}(h:PT X e t)(i:∀σ H Q,t' σ H Q->t σ H Q):PT X e t':=fun pins s σ H Q I q=>h pins s σ H Q I (i σ H Q q)
theorem PW.wk {X:Cx}{e:Expr}{t t' : TT}(h:PW X e t)(i:∀σ H Q,t' σ H Q->t σ H Q):PW X e t':=fun wh pins s σ H Q I q=>h wh pins s σ H Q I (i σ H Q q)
theorem PA.wk {X:Cx}{es:List Expr}{t t' : TA}(h:PA X es t)(i:∀σ H Q,t' σ H Q->t σ H Q):PA X es t':=fun pos pins s σ H Q I q=>h pos pins s σ H Q I (i σ H Q q)
theorem PS.wk {X:Cx}{st:Stmt}{t t' : TS}(h:PS X st t)(i:∀D σ H,t' D σ H->t D σ H):PS X st t':=fun pins s σ H D I q=>h pins s σ H D I (i D σ H q)
theorem PSs.wk {X:Cx}{st:List Stmt}{t t' : TS}(h:PSs X st t)(i:∀D σ H,t' D σ H->t D σ H):PSs X st t':=fun pins s σ H D I q=>h pins s σ H D I (i D σ H q)
theorem PI.wk {X:Cx}{tg e:Expr}{t t' : TI}(h:PI X tg e t)(i:∀σ H R,t' σ H R->t σ H R):PI X tg e t':=fun pins s σ H R I q=>h pins s σ H R I (i σ H R q)
theorem PG.wk {X:Cx}{tg:Expr}{t t' : TG}(h:PG X tg t)(i:∀v σ H Q,t' v σ H Q->t v σ H Q):PG X tg t':=fun pins s σ H v u Q I r q=>h pins s σ H v u Q I r (i v σ H Q q)
noncomputable def gVar (i:Nat):GE:=fun en=>match en[i]? with
 | some (some (w,_))=>some (en.set i (#v[w,6]),(w,false))
 | _=>none
noncomputable def zaa (i:Nat):GA:=fun en=>match en[i]? with
 | some (#v[w,5])=>some (en,.inr i)
 | some (#v[w,6])=>some (en,.inl w)
 | _=>none
noncomputable def gC (w:W):GE:=fun en=>some (en,(w,false))
noncomputable def gArg (g:GE):GA:=fun en=>(g en).bind fun p=>some (p.1,.inl p.2.1)
noncomputable def gA0:GAs:=fun en=>some (en,[])
noncomputable def gCns (a:GA) (as:GAs):GAs:=fun en=>(a en).bind fun p=>(as p.1).bind fun q=>some (q.1,p.2::q.2)
noncomputable def gOp1 (o:W->Option (W × Bool)) (a:GA):GE:=fun en=>(a en).bind fun p=>(resA p.1 p.2).bind fun w=>(o w).bind fun r=>some (p.1,r)
noncomputable def gOp2 (o:W->W->Option (W × Bool)) (a b:GA):GE:=fun en=>(a en).bind fun p=>(b p.1).bind fun q=>(resA q.1 p.2).bind fun w=>(resA q.1 q.2).bind fun u=>(o w u).bind fun r=>some (q.1,r)
noncomputable def za2 (en:En):List (W ⊕ Nat)->Option (List W)
 | []=>some []
 | x::xs=>(resA en x).bind fun w=>(za2 en xs).bind fun ws=>some (w::ws)
noncomputable def gOpN (o:List W->Option (W × Bool)) (as:GAs):GE:=fun en=>(as en).bind fun p=>(za2 p.1 p.2).bind fun ws=>(o ws).bind fun r=>some (p.1,r)
noncomputable def zai (g:GE):GT:=fun en=>match g en with
 | some (en',(.bl b,_))=>some (en',b)
 | _=>none
noncomputable def gAnd (a b:GE):GE:=fun en=>match a en with
 | some (en',(.bl true,_))=>b en'
 | some (en',(.bl false,_))=>some (en',(.bl false,false))
 | _=>none
noncomputable def gOr (a b:GE):GE:=fun en=>match a en with
 | some (en',(.bl true,_))=>some (en',(.bl true,false))
 | some (en',(.bl false,_))=>b en'
 | _=>none
noncomputable def gNot (a:GE):GE:=fun en=>match a en with
 | some (en',(.bl b,_))=>some (en',(.bl (!b),false))
 | _=>none
noncomputable def zeb (a b:GT):GT:=fun en=>match a en with
 | #v[en',5]=>b en'
 | #v[en',6]=>#v[en',6]
 | none=>none
noncomputable def gOrT (a b:GT):GT:=fun en=>match a en with
 | #v[en',5]=>#v[en',5]
 | #v[en',6]=>b en'
 | none=>none
noncomputable def zg8 (a:GT):GT:=fun en=>match a en with
 | some (en',b)=>some (en',!b)
 | none=>none
noncomputable def gIf (c:GT) (a b:GE):GE:=fun en=>match c en with
 | #v[en',5]=>a en'
 | #v[en',6]=>b en'
 | none=>none
section
variable {K:PySem.W.Frag}{σ:St}{H:Hp}
theorem zw5 {i:Nat}{Q:VK} (h:tE K (gVar i) σ H Q):tVar i σ H Q:=by
  obtain⟨F,pr,en,en',r,R,h,q⟩:=h;unfold gVar at h;cases e:en[i]? with
  | none=>simp only [e] at h;exact noSome h
  | some o =>
    cases o with
    | none=>simp only [e] at h;exact noSome h
    | some p =>
      obtain⟨w,fl⟩:=p;simp only [e] at h;cases h;obtain⟨v,hv⟩:=R.has e;obtain⟨F',s,R',z⟩:=R.freeze e hv;exact⟨v,hv,q F' H v s R' z⟩
theorem ztk {i:Nat}{Q:VK} (h:tA K (zaa i) σ H Q):tVar i σ H Q:=by
  obtain⟨F,pr,en,en',r,R,h,q⟩:=h;unfold zaa at h;cases e:en[i]? with
  | none=>simp only [e] at h;exact noSome h
  | some o =>
    cases o with
    | none=>simp only [e] at h;exact noSome h
    | some p =>
      obtain⟨w,fl⟩:=p;cases fl with
      | true =>
        simp only [e] at h;cases h;obtain⟨v,hv⟩:=R.has e;exact⟨v,hv,q F H v (.refl F) R hv⟩
      | false =>
        simp only [e] at h;cases h;obtain⟨v,hv,z⟩:=R.val i w e;exact⟨v,hv,q F H v (.refl F) R z⟩
theorem zds {w:W}{v:V}{Q:VK}(hr:∀F,Rep K F w v)(h:tE K (gC w) σ H Q):tC v σ H Q:=by
 obtain⟨F,pr,en,en',r,R,h,q⟩:=h;cases h;exact q F H v (.refl F) R (hr F)
theorem zi6 {g:GE}{Q:VK}(h:tA K (gArg g) σ H Q):tE K g σ H Q:=by
 obtain⟨F,pr,en,en',x,R,h,q⟩:=h;obtain⟨⟨e1,r⟩,h1,h⟩:=bS h;cases h;refine⟨F,pr,en,e1,r,R,h1,fun F1 H1 v s1 R1 z=>?_⟩;obtain⟨F2,s2,R2,y⟩:=z.freeze R1;exact q F2 H1 v (s1.trans s2) R2 y
theorem zn7 {Q:List V->Hp->Prop}(h:tAs K gA0 σ H Q):tNil σ H Q:=by
 obtain⟨F,pr,en,en',x,R,h,q⟩:=h;cases h;exact q F H [] (.refl F) R .nil
theorem zn9 {a:GA}{as:GAs}{Q:List V->Hp->Prop}(h:tAs K (gCns a as) σ H Q):tA K a σ H fun x H1=>tAs K as σ H1 fun xs H2=>Q (x::xs) H2:=by
 nofun;obtain⟨F,pr,en,en',x,R,h,q⟩:=h;obtain⟨⟨e1,y⟩,h1,h⟩:=bS h;obtain⟨⟨e2,ys⟩,h2,h⟩:=bS h;ac_rfl;cases h;exact⟨F,pr,en,e1,y,R,h1,fun F1 H1 v s1 R1 a1=>⟨F1,pr,e1,e2,ys,R1,h2,fun F2 H2 vs s2 R2 a2=>q F2 H2 (v::vs) (s1.trans s2) R2 (.cons (a1.mono s2) a2)⟩⟩
noncomputable def OpS (K:PySem.W.Frag) (r:R2) (o:W->W->Option (W × Bool)):Prop:=∀F H w1 w2 v1 v2 rv Q,Same F H->RepB K F H w1 v1->RepB K F H w2 v2->o w1 w2=some rv->(∀v H',Out K F H rv v H'->Q v H')->r v1 v2 H Q
theorem zeh {r:R2}{o:W->W->Option (W × Bool)}{a b:GA}{Q:VK}(ho:OpS K r o)(h:tE K (gOp2 o a b) σ H Q):tOp r (tA K a) (tA K b) σ H Q:=by
 nofun;obtain⟨F,pr,en,en',rv,R,h,q⟩:=h;obtain⟨⟨e1,x1⟩,h1,h⟩:=bS h;obtain⟨⟨e2,x2⟩,h2,h⟩:=bS h;obtain⟨w1,hw1,h⟩:=bS h;obtain⟨w2,hw2,h⟩:=bS h;obtain⟨r',hr,h⟩:=bS h;ac_rfl;cases h;refine⟨F,pr,en,e1,x1,R,h1,fun F1 H1 v1 s1 R1 a1=>⟨F1,pr,e1,e2,x2,R1,h2,fun F2 H2 v2 s2 R2 a2=>?_⟩⟩;refine ho F2 H2 w1 w2 v1 v2 rv Q R2.sub ((a1.mono s2).repB R2 hw1) (a2.repB R2 hw2) hr fun v H' z=>?_;nofun;obtain⟨F3,s3,R3,y⟩:=z.close R2;ac_rfl;exact q F3 H' v (s1.trans (s2.trans s3)) R3 y
noncomputable def OpS1 (K:PySem.W.Frag) (r:V->Hp->VK->Prop) (o:W->Option (W × Bool)):Prop:=∀F H w v rv Q,Same F H->RepB K F H w v->o w=some rv->(∀u H',Out K F H rv u H'->Q u H')->r v H Q
theorem zwm {r:V->Hp->VK->Prop}{o:W->Option (W × Bool)}{a:GA}{Q:VK}(ho:OpS1 K r o)(h:tE K (gOp1 o a) σ H Q):tUn r (tA K a) σ H Q:=by
 nofun;obtain⟨F,pr,en,en',rv,R,h,q⟩:=h;obtain⟨⟨e1,x1⟩,h1,h⟩:=bS h;obtain⟨w1,hw1,h⟩:=bS h;obtain⟨r',hr,h⟩:=bS h;ac_rfl;cases h;refine⟨F,pr,en,e1,x1,R,h1,fun F1 H1 v1 s1 R1 a1=>?_⟩;refine ho F1 H1 w1 v1 rv Q R1.sub (a1.repB R1 hw1) hr fun v H' z=>?_;nofun;obtain⟨F3,s3,R3,y⟩:=z.close R1;ac_rfl;exact q F3 H' v (s1.trans s3) R3 y
inductive RepBs (K:PySem.W.Frag) (F H:Hp):List W->List V->Prop where
 | nil:RepBs K F H [] []
 | cons {w:W}{v:V}{ws:List W}{vs:List V} (h:RepB K F H w v) (r:RepBs K F H ws vs):RepBs K F H (w::ws) (v::vs)
theorem ArgRs.repBs {F:Hp}{pr:Prt}{en:En} (R:Rel K F pr en σ H):∀{xs:List (W ⊕ Nat)}{vs:List V}{ws:List W},ArgRs K F σ xs vs->za2 en xs=some ws->RepBs K F H ws vs
  | _,_,_,.nil,e=>by obtain rfl:=sI e;exact .nil
  | _,_,_,.cons h r,e=>by
    obtain⟨w,hw,e⟩:=bS e;obtain⟨ws,hws,e⟩:=bS e;obtain rfl:=sI e;exact .cons (h.repB R hw) (ArgRs.repBs R r hws)
noncomputable def OpSN (K:PySem.W.Frag) (r:List V->Hp->VK->Prop) (o:List W->Option (W × Bool)):Prop:=∀F H ws vs rv Q,Same F H->RepBs K F H ws vs->o ws=some rv->(∀u H',Out K F H rv u H'->Q u H')->r vs H Q
theorem zi9 {r:List V->Hp->VK->Prop}{o:List W->Option (W × Bool)}{as:GAs}{Q:VK}(ho:OpSN K r o)(h:tE K (gOpN o as) σ H Q):tCB r (tAs K as) σ H Q:=by
 nofun;obtain⟨F,pr,en,en',rv,R,h,q⟩:=h;obtain⟨⟨e1,x1⟩,h1,h⟩:=bS h;obtain⟨w1,hw1,h⟩:=bS h;obtain⟨r',hr,h⟩:=bS h;ac_rfl;cases h;refine⟨F,pr,en,e1,x1,R,h1,fun F1 H1 v1 s1 R1 a1=>?_⟩;refine ho F1 H1 w1 v1 rv Q R1.sub (a1.repBs R1 hw1) hr fun v H' z=>?_;nofun;obtain⟨F3,s3,R3,y⟩:=z.close R1;ac_rfl;exact q F3 H' v (s1.trans s3) R3 y
theorem Res.isBl {F H:Hp}{pr:Prt}{en:En}{σ:St}{b fl:Bool}{v:V}(h:Res K F H pr en σ (.bl b,fl) v):v=.bl b:=by
 cases fl with
 | false=>cases (show Rep K F (.bl b) v from h);rfl
 | true=>obtain⟨_,_,_,e,_,_,_,q,_⟩:=h;subst e;cases q
theorem zf1 {g:GE}{t:TE}{Q:Bool->Hp->Prop} (ht:∀σ H Q,tE K g σ H Q->t σ H Q) (h:tT K (zai g) σ H Q):z4a t σ H Q:=by
  obtain⟨F,pr,en,en',b,R,h,q⟩:=h;unfold zai at h;refine ht σ H _ ?_;cases e:g en with
  | none=>simp only [e] at h;exact noSome h
  | some p =>
    obtain⟨e1,w,fl⟩:=p;cases w with
    | bl c=>simp only [e] at h;cases h;exact⟨F,pr,en,_,_,R,e,fun F' H' v s' R' z=>⟨b,z.isBl,q F' H' s' R'⟩⟩
    | _=>simp only [e] at h;exact noSome h
theorem zy9 {a b:GE}{Q:VK} (h:tE K (gAnd a b) σ H Q):z5e (tE K a) (tE K b) σ H Q:=by
  nofun;obtain⟨F,pr,en,en',r,R,h,q⟩:=h;ac_rfl;unfold gAnd at h;cases e:a en with
  | none=>simp only [e] at h;exact noSome h
  | some p =>
    obtain⟨e1,w,fl⟩:=p;cases w with
    | bl c =>
      refine⟨F,pr,en,_,_,R,e,fun F1 H1 v s1 R1 z=>⟨c,z.isBl,?_⟩⟩;cases c with
      | true =>
        simp only [e] at h;exact iteT ⟨F1,pr,e1,en',r,R1,h,fun F2 H2 v s2 R2 z2=>q F2 H2 v (s1.trans s2) R2 z2⟩
      | false =>
        simp only [e] at h;cases h;exact iteF (q F1 H1 _ s1 R1 (.bl false))
    | _=>simp only [e] at h;exact noSome h
theorem zwi {a:GE}{Q:VK} (h:tE K (gNot a) σ H Q):z6w (tE K a) σ H Q:=by
  obtain⟨F,pr,en,en',r,R,h,q⟩:=h;unfold gNot at h;cases e:a en with
  | none=>simp only [e] at h;exact noSome h
  | some p =>
    obtain⟨e1,w,fl⟩:=p;cases w with
    | bl c =>
      simp only [e] at h;cases h;exact⟨F,pr,en,_,_,R,e,fun F1 H1 v s1 R1 z=>⟨c,z.isBl,q F1 H1 _ s1 R1 (.bl _)⟩⟩
    | _=>simp only [e] at h;exact noSome h
theorem zr0 {a b:GT}{Q:Bool->Hp->Prop} (h:tT K (zeb a b) σ H Q):tAnd (tT K a) (tT K b) σ H Q:=by
  nofun;obtain⟨F,pr,en,en',r,R,h,q⟩:=h;ac_rfl;unfold zeb at h;cases e:a en with
  | none=>simp only [e] at h;exact noSome h
  | some p =>
    obtain⟨e1,c⟩:=p;refine⟨F,pr,en,_,_,R,e,fun F1 H1 s1 R1=>?_⟩;cases c with
    | true=>simp only [e] at h;exact iteT ⟨F1,pr,e1,en',r,R1,h,fun F2 H2 s2 R2=>q F2 H2 (s1.trans s2) R2⟩
    | false=>simp only [e] at h;cases h;exact iteF (q F1 H1 s1 R1)
theorem zxx {a b:GT}{Q:Bool->Hp->Prop} (h:tT K (gOrT a b) σ H Q):tOr (tT K a) (tT K b) σ H Q:=by
  nofun;obtain⟨F,pr,en,en',r,R,h,q⟩:=h;ac_rfl;unfold gOrT at h;cases e:a en with
  | none=>simp only [e] at h;exact noSome h
  | some p =>
    obtain⟨e1,c⟩:=p;refine⟨F,pr,en,_,_,R,e,fun F1 H1 s1 R1=>?_⟩;cases c with
    | false=>simp only [e] at h;exact iteF ⟨F1,pr,e1,en',r,R1,h,fun F2 H2 s2 R2=>q F2 H2 (s1.trans s2) R2⟩
    | true=>simp only [e] at h;cases h;exact iteT (q F1 H1 s1 R1)
theorem ztq {a:GT}{Q:Bool->Hp->Prop} (h:tT K (zg8 a) σ H Q):tNot (tT K a) σ H Q:=by
  obtain⟨F,pr,en,en',r,R,h,q⟩:=h;unfold zg8 at h;cases e:a en with
  | none=>simp only [e] at h;exact noSome h
  | some p =>
    obtain⟨e1,c⟩:=p;simp only [e] at h;cases h;exact⟨F,pr,en,_,_,R,e,fun F1 H1 s1 R1=>q F1 H1 s1 R1⟩
end
noncomputable def zbg:List (W ⊕ Nat)->Option (List W)
 | []=>some []
 | .inl w::xs=>(zbg xs).bind fun ws=>some (w::ws)
 | .inr _::_=>none
theorem ArgRs.reps {K:PySem.W.Frag}{F:Hp}{σ:St}:∀{xs:List (W ⊕ Nat)}{vs:List V}{ws:List W},ArgRs K F σ xs vs->zbg xs=some ws->Reps K F ws vs
  | _,_,_,.nil,e=>by obtain rfl:=sI e;exact .nil
  | .inl w::xs,_,_,.cons h r,e=>by
    obtain⟨ws,hws,e⟩:=bS (show (zbg xs).bind _=_ from e);obtain rfl:=sI e;exact .cons h (ArgRs.reps r hws)
  | .inr i::xs,_,_,.cons h r,e=>by exact noSome e
noncomputable def zg3 (as:GAs):GE:=fun en=>(as en).bind fun p=>(zbg p.2).bind fun ws=>if ws.length<=sizeLine then some (p.1,(.tup ws,false)) else none
noncomputable def zas (as:GAs):GE:=fun en=>(as en).bind fun p=>(zbg p.2).bind fun ws=>if ws.length<=sizeLine then some (p.1,(.lst ws,true)) else none
section
variable {K:PySem.W.Frag}{σ:St}{H:Hp}
theorem zyk {as:GAs}{Q:VK}(h:tE K (zg3 as) σ H Q):tTup (tAs K as) σ H Q:=by
 obtain⟨F,pr,en,en',r,R,h,q⟩:=h;obtain⟨⟨e1,xs⟩,h1,h⟩:=bS h;obtain⟨ws,h2,h⟩:=bS h;split at h
 ·rename_i hz;cases h;refine⟨F,pr,en,e1,xs,R,h1,fun F1 H1 vs s1 R1 a1=>?_⟩;have rr:=a1.reps h2;refine⟨by rw[<-rr.length];exact hz,fun p hp=>?_⟩;obtain⟨F2,s2,R2,z⟩:=(Out.tup (K:=K) hp rr).close R1;exact q F2 _ _ (s1.trans s2) R2 z
 ·exact noSome h
theorem zyz {as:GAs}{Q:VK}(h:tE K (zas as) σ H Q):tLst (tAs K as) σ H Q:=by
 nofun;obtain⟨F,pr,en,en',r,R,h,q⟩:=h;obtain⟨⟨e1,xs⟩,h1,h⟩:=bS h;obtain⟨ws,h2,h⟩:=bS h;ac_rfl;split at h
 ·rename_i hz;cases h;refine⟨F,pr,en,e1,xs,R,h1,fun F1 H1 vs s1 R1 a1=>?_⟩;have rr:=a1.reps h2;refine⟨by rw[<-rr.length];exact hz,fun p hp=>?_⟩;nofun;obtain⟨F2,s2,R2,z⟩:=(Out.lst (K:=K) hp rr).close R1;ac_rfl;exact q F2 _ _ (s1.trans s2) R2 z
 ·exact noSome h
noncomputable def znu (o o' : W->W->Option (W × Bool)) (a b c:GA):GE:=fun en=>(a en).bind fun p=>(b p.1).bind fun q=>(resA q.1 p.2).bind fun w=>(resA q.1 q.2).bind fun u=>match o w u with
 | some (.bl true,false)=>(c q.1).bind fun t=>(resA t.1 q.2).bind fun u'=>(resA t.1 t.2).bind fun z=>(o' u' z).bind fun r=>some (t.1,r)
 | some (.bl false,false)=>some (q.1,(.bl false,false))
 | _=>none
theorem zhv {r r' : R2}{o o' : W->W->Option (W × Bool)}{a b c:GA}{Q:VK} (ho:OpS K r o) (ho' : OpS K r' o') (h:tE K (znu o o' a b c) σ H Q):ztv r r' (tA K a) (tA K b) (tA K c) σ H Q:=by
  nofun;obtain⟨F,pr,en,en',rv,R,h,q⟩:=h;obtain⟨⟨e1,x1⟩,h1,h⟩:=bS h;obtain⟨⟨e2,x2⟩,h2,h⟩:=bS h;obtain⟨w1,hw1,h⟩:=bS h;obtain⟨w2,hw2,h⟩:=bS h;ac_rfl;refine⟨F,pr,en,e1,x1,R,h1,fun F1 H1 v1 s1 R1 a1=>⟨F1,pr,e1,e2,x2,R1,h2,fun F2 H2 v2 s2 R2 a2=>?_⟩⟩;cases e:o w1 w2 with
  | none=>simp only [e] at h;exact noSome h
  | some p =>
    obtain⟨w,fl⟩:=p;cases w with
    | bl k =>
      cases fl with
      | true=>simp only [e] at h;cases k<;>exact noSome h
      | false =>
        refine ho F2 H2 w1 w2 v1 v2 _ _ R2.sub ((a1.mono s2).repB R2 hw1) (a2.repB R2 hw2) e fun v H' z=>?_;cases z with
        | val z =>
          cases z;refine⟨k,rfl,?_⟩;cases k with
          | false =>
            simp only [e] at h;cases h;exact iteF (q F2 H2 _ (s1.trans s2) R2 (.bl false))
          | true =>
            simp only [e] at h;nofun;obtain⟨⟨e3,x3⟩,h3,h⟩:=bS h;obtain⟨w2',hw2',h⟩:=bS h;obtain⟨w3,hw3,h⟩:=bS h;obtain⟨r3,hr3,h⟩:=bS h;ac_rfl;cases h;refine iteT ⟨F2,pr,e2,e3,x3,R2,h3,fun F3 H3 v3 s3 R3 a3=>?_⟩;refine ho' F3 H3 w2' w3 v2 v3 _ _ R3.sub ((a2.mono s3).repB R3 hw2') (a3.repB R3 hw3) hr3 fun v H' z=>?_;nofun;obtain⟨F4,s4,R4,y⟩:=z.close R3;ac_rfl;exact q F4 H' v (s1.trans (s2.trans (s3.trans s4))) R4 y
    | _=>simp only [e] at h;exact noSome h
end
section
variable {K:PySem.W.Frag}{F H:Hp}{v:V}
theorem RepB.int {i:Int}(h:RepB K F H (.int i) v):v=.int i:=by
 rcases h with h | ⟨_,_,_,e,_,_,q⟩
 ·cases h;rfl
 ·subst e;cases q
theorem RepB.bl {b:Bool}(h:RepB K F H (.bl b) v):v=.bl b:=by
 rcases h with h | ⟨_,_,_,e,_,_,q⟩
 ·cases h;rfl
 ·subst e;cases q
theorem RepB.str {x:Str}(h:RepB K F H (.str x) v):v=.str x:=by
 rcases h with h | ⟨_,_,_,e,_,_,q⟩
 ·cases h;rfl
 ·subst e;cases q
theorem RepB.non (h:RepB K F H .non v):v=.non:=by
 rcases h with h | ⟨_,_,_,e,_,_,q⟩
 ·cases h;rfl
 ·subst e;cases q
theorem RepB.lst {ws:List W}(s:Same F H)(h:RepB K F H (.lst ws) v):∃a vs,v=.ref a/\H a=some (.lst vs)/\Reps K F ws vs:=by
 rcases h with h | ⟨a,o,ws',e,e2,h,r⟩
 ·cases h with
  | lst h r=>exact⟨_,_,rfl,s _ _ h,r⟩
 ·subst e;obtain⟨vs,rfl,r'⟩:=r.list;exact⟨a,vs,e2,h,r'⟩
theorem RepB.tup {ws:List W}(s:Same F H)(h:RepB K F H (.tup ws) v):∃a vs,v=.ref a/\H a=some (.tup vs)/\F a=some (.tup vs)/\Reps K F ws vs:=by
 rcases h with h | ⟨_,_,_,e,_,_,q⟩
 ·cases h with
  | tup h r=>exact⟨_,_,rfl,s _ _ h,h,r⟩
 ·subst e;cases q
theorem RepB.frl {ws:List W}(s:Same F H)(h:RepB K F H (.frl ws) v):∃a vs,v=.ref a/\SqL K H a vs/\Reps K F ws vs:=by
 rcases h with h | ⟨_,_,_,e,_,_,q⟩
 ·cases h with
  | frl h r=>exact⟨_,_,rfl,s.seq h,r⟩
 ·subst e;cases q
noncomputable def seqL:W->Option (List W)
 | .lst ws=>some ws
 | .frl ws=>some ws
 | _=>none
noncomputable def seqW:W->Option (List W)
 | .lst ws=>some ws
 | .frl ws=>some ws
 | .tup ws=>some ws
 | _=>none
theorem RepB.seqL {w:W}{ws:List W}(s:Same F H)(h:RepB K F H w v)(e:L2.seqL w=some ws):∃a vs,v=.ref a/\SqL K H a vs/\Reps K F ws vs:=by
 cases w with
 | lst xs=>obtain rfl:=sI e;obtain⟨a,vs,e,h,r⟩:=h.lst s;exact⟨a,vs,e,SqL.of' h,r⟩
 | frl xs=>obtain rfl:=sI e;exact h.frl s
 | _=>exact noSome e
theorem RepB.seqW {w:W}{ws:List W}(s:Same F H)(h:RepB K F H w v)(e:L2.seqW w=some ws):∃a vs,v=.ref a/\(SqL K H a vs\/SqT K H a vs)/\Reps K F ws vs:=by
 cases w with
 | lst xs=>obtain rfl:=sI e;obtain⟨a,vs,e,h,r⟩:=h.lst s;exact⟨a,vs,e,.inl (SqL.of' h),r⟩
 | frl xs=>obtain rfl:=sI e;obtain⟨a,vs,e,h,r⟩:=h.frl s;exact⟨a,vs,e,.inl h,r⟩
 | tup xs=>obtain rfl:=sI e;obtain⟨a,vs,e,h,_,r⟩:=h.tup s;exact⟨a,vs,e,.inr (.inl (.inl h)),r⟩
 | _=>exact noSome e
end
noncomputable abbrev O2:=W->W->Option (W × Bool)
noncomputable def oI (c:Int->Int->Bool) (g:Int->Int->W):O2
 | .int i,.int j=>if c i j then #v[g i j,6] else none
 | _,_=>none
section
variable {K:PySem.W.Frag}
theorem zko {c:Int->Int->Bool}{C:Int->Int->Prop}{g:Int->Int->W}{g' : Int->Int->V} (hc:∀i j,c i j=true->C i j) (hg:∀F i j,Rep K F (g i j) (g' i j)):OpS K (rI C g') (oI c g):=fun F H w1 w2 v1 v2 rv Q s r1 r2 e q=>by
  cases w1 with
  | int i =>
    cases w2 with
    | int j =>
      unfold oI at e;simp only at e;split at e
      · rename_i z
        obtain rfl:=sI e;exact⟨i,j,r1.int,r2.int,hc i j z,q _ _ (.val (hg F i j))⟩
      · exact noSome e
    | _=>exact noSome e
  | _=>exact noSome e
theorem zcc {g:Int->Int->W}{g' : Int->Int->V} (hg:∀F i j,Rep K F (g i j) (g' i j)):OpS K (rI0 g') (oI (fun _ _=>true) g):=fun F H w1 w2 v1 v2 rv Q s r1 r2 e q=>by
  cases w1 with
  | int i =>
    cases w2 with
    | int j=>obtain rfl:=sI e;exact⟨i,j,r1.int,r2.int,q _ _ (.val (hg F i j))⟩
    | _=>exact noSome e
  | _=>exact noSome e
theorem OpS.or {r r' : R2}{o o' : O2}(h:OpS K r o)(h' : OpS K r' o'):OpS K (fun x y H Q=>r x y H Q\/r' x y H Q) (fun a b=>match o a b with | some p=>some p | none=>o' a b):=fun F H w1 w2 v1 v2 rv Q s r1 r2 e q=>by
 cases z:o w1 w2 with
 | some p=>simp only [z] at e;obtain rfl:=sI e;exact .inl (h F H w1 w2 v1 v2 _ Q s r1 r2 z q)
 | none=>simp only [z] at e;exact .inr (h' F H w1 w2 v1 v2 _ Q s r1 r2 e q)
end
noncomputable def oOr (o o' : O2):O2:=fun a b=>match o a b with | some p=>some p | none=>o' a b
noncomputable def oCat:O2
 | .lst xs,.lst ys=>if xs.length+ys.length<=sizeLine then #v[(xs++ys),2] else none
 | _,_=>none
noncomputable def zxz:O2
 | .tup (x::xs),.tup ys=>if (x::xs).length+ys.length<=sizeLine then #v[(x::xs++ys),3] else none
 | _,_=>none
noncomputable def z2j:O2
 | .tup [],.tup ys=>#v[ys,3]
 | _,_=>none
noncomputable def zx6:O2
 | .str x,.str y=>if x.length+y.length<=sizeLine then some (.str (x++y),false) else none
 | _,_=>none
noncomputable def oRep:O2
 | .lst xs,.int k=>if -(2 ^ 63)<=k/\k < 2 ^ 63/\xs.length * k.toNat<=sizeLine then #v[(List.replicate k.toNat xs).flatten,2] else none
 | _,_=>none
section
variable {K:PySem.W.Frag}
theorem z1j:OpS K rCat oCat:=fun F H w1 w2 v1 v2 rv Q s r1 r2 e q=>by
  cases w1 with
  | lst xs =>
    cases w2 with
    | lst ys =>
      unfold oCat at e;simp only at e;split at e
      · rename_i z
        obtain rfl:=sI e;nofun;obtain⟨a,vs,e1,h1,p1⟩:=r1.lst s;obtain⟨b,us,e2,h2,p2⟩:=r2.lst s;ac_rfl;exact⟨a,b,vs,us,e1,e2,h1,h2,by rw[<-p1.length,<-p2.length];exact z,fun p hp=>q _ _ (.lst hp (p1.append p2))⟩
      · exact noSome e
    | _=>exact noSome e
  | _=>exact noSome e
theorem z3n:OpS K rRep oRep:=fun F H w1 w2 v1 v2 rv Q s r1 r2 e q=>by
  cases w1 with
  | lst xs =>
    cases w2 with
    | int k =>
      unfold oRep at e;simp only at e;split at e
      · rename_i z
        obtain rfl:=sI e;obtain⟨a,vs,e1,h1,p1⟩:=r1.lst s;exact⟨a,k,vs,e1,r2.int,h1,z.1,z.2.1,by rw[<-p1.length];exact z.2.2,fun p hp=>q _ _ (.lst hp (p1.rep _))⟩
      · exact noSome e
    | _=>exact noSome e
  | _=>exact noSome e
theorem zw4:OpS K (z7p K) zxz:=fun F H w1 w2 v1 v2 rv Q s r1 r2 e q=>by
  cases w1 with
  | tup xs =>
    cases xs with
    | nil=>cases w2<;>exact noSome e
    | cons x xs =>
      cases w2 with
      | tup ys =>
        unfold zxz at e;simp only at e;split at e
        · rename_i z
          obtain rfl:=sI e;nofun;obtain⟨a,vs,e1,h1,f1,p1⟩:=r1.tup s;obtain⟨b,us,e2,h2,f2,p2⟩:=r2.tup s;ac_rfl;refine⟨a,b,vs,us,e1,e2,.inl (.inl h1),.inl (.inl h2),?_,by rw[<-p1.length,<-p2.length];exact z,fun hu=>?_,fun _ p hp=>q _ _ (.tup hp (p1.append p2))⟩
          · intro e;subst e;cases p1
          · subst hu
            cases p2;rw[Bt] at q;exact q _ _ (.val (.tup f1 p1))
        · exact noSome e
      | _=>exact noSome e
  | _=>exact noSome e
mutual
inductive DV (H:Hp):V->PyData->Prop where
 | non:DV H .non .none
 | bl (b:Bool):DV H (.bl b) (.bool b)
 | int (i:Int):DV H (.int i) (.int i)
 | str (x:Str):DV H (.str x) (.str x)
 | tup {a:Addr}{vs:List V}{ds:List PyData} (h:H a=some (.tup vs)) (r:DVs H vs ds):DV H (.ref a) (.tuple ds)
 | lst {a:Addr}{vs:List V}{ds:List PyData} (h:H a=some (.lst vs)) (r:DVs H vs ds):DV H (.ref a) (.list ds)
inductive DVs (H:Hp):List V->List PyData->Prop where
 | nil:DVs H [] []
 | cons {v:V}{d:PyData}{vs:List V}{ds:List PyData} (h:DV H v d) (r:DVs H vs ds):DVs H (v::vs) (d::ds)
end
section
variable {X:Cx}{pins:List (Addr × Obj)}{σ:St}{H:Hp}{s:Shared}
mutual
theorem DV.reads (I:Inv X pins σ H s):∀{v:V}{d:PyData}{u:Value},DV H v d->RelV v u->∃as,Reads s.heap u d as
  | _,_,_,.non,r=>by cases (show _=Value.none from r);exact⟨_,.none⟩
  | _,_,_,.bl b,r=>by cases (show _=Value.bool b from r);exact⟨_,.bool b⟩
  | _,_,_,.int i,r=>by obtain⟨t,e⟩:=(show ∃t,_=Value.int i t from r);subst e;exact⟨_,.int i t⟩
  | _,_,_,.str x,r=>by obtain⟨t,e⟩:=(show ∃t,_=Value.str x t from r);subst e;exact⟨_,.str x t⟩
  | _,_,_,.tup h q,r=>by
    cases r;obtain⟨its,rv,⟨o,e,c,n,dt⟩,_⟩:=I.tuple (.inl (.inl h));obtain⟨as,ra⟩:=DVs.reads I q rv;exact⟨as,.tuple e c dt (by simpa using ra)⟩
  | _,_,_,.lst h q,r=>by
    cases r;obtain⟨its,rv,⟨o,n,e,c,_,dt⟩,_⟩:=I.list (SqL.of' h);obtain⟨as,ra⟩:=DVs.reads I q rv;exact⟨_,.list e c dt (by simpa using ra)⟩
theorem DVs.reads (I:Inv X pins σ H s):∀{vs:List V}{ds:List PyData}{us:List Value},DVs H vs ds->Vals vs us->∃as,ReadsAll s.heap us ds as
  | _,_,_,.nil,r=>by cases r;exact⟨_,.nil⟩
  | _,_,_,.cons h q,r=>by
    cases r with
    | cons r1 r2 =>
      obtain⟨as,a⟩:=DV.reads I h r1;obtain⟨bs,b⟩:=DVs.reads I q r2;exact⟨_,.cons a b⟩
end
end
mutual
noncomputable def dW:W->Option PyData
 | .non=>some .none
 | .bl b=>some (.bool b)
 | .int i=>some (.int i)
 | .str x=>some (.str x)
 | .tup ws=>(dWs ws).bind fun ds=>some (.tuple ds)
 | .lst ws=>(dWs ws).bind fun ds=>some (.list ds)
 | _=>none
noncomputable def dWs:List W->Option (List PyData)
 | []=>some []
 | w::ws=>(dW w).bind fun d=>(dWs ws).bind fun ds=>some (d::ds)
end
section
variable {K:PySem.W.Frag}{F H:Hp}
mutual
theorem zzz (s:Same F H):∀{w:W}{v:V}{d:PyData},Rep K F w v->dW w=some d->DV H v d
  | _,_,_,.non,e=>by obtain rfl:=sI e;exact .non
  | _,_,_,.bl b,e=>by obtain rfl:=sI e;exact .bl b
  | _,_,_,.int i,e=>by obtain rfl:=sI e;exact .int i
  | _,_,_,.str x,e=>by obtain rfl:=sI e;exact .str x
  | _,_,_,.tup h r,e=>by
    rw[dW] at e;obtain⟨ds,e1,e2⟩:=bS e;obtain rfl:=sI e2;exact .tup (s _ _ h) (zie s r e1)
  | _,_,_,.lst h r,e=>by
    rw[dW] at e;obtain⟨ds,e1,e2⟩:=bS e;obtain rfl:=sI e2;exact .lst (s _ _ h) (zie s r e1)
  | _,_,_,.frl _ _,e=>by exact noSome e
  | _,_,_,.dic _,e=>by exact noSome e
theorem zie (s:Same F H):∀{ws:List W}{vs:List V}{ds:List PyData},Reps K F ws vs->dWs ws=some ds->DVs H vs ds
  | _,_,_,.nil,e=>by cases e;exact .nil
  | _,_,_,.cons h r,e=>by
    rw[dWs] at e;obtain⟨d,e1,e⟩:=bS e;obtain⟨ds,e2,e3⟩:=bS e;cases e3;exact .cons (zzz s h e1) (zie s r e2)
end
theorem zt5 {w:W}{v:V}{d:PyData} (s:Same F H) (r:RepB K F H w v) (hd:dW w=some d):DV H v d:=by
  rcases r with r | ⟨a,o,us,z,rfl,h,q⟩
  · exact zzz s r hd
  · subst z
    cases q with
    | dct hl q=>exact noSome hd
    | dctT hl q=>exact noSome hd
    | lst q =>
      rw[dW] at hd;obtain⟨ds,e1,e2⟩:=bS hd;obtain rfl:=sI e2;exact .lst h (zie s q e1)
end
noncomputable def rEqD (g:Bool->Bool):R2:=fun x y H Q=>∃d d',DV H x d/\DV H y d'/\d.canLay0=true/\d'.canLay0=true/\d.depth<=100/\Q (.bl (g (PyData.eqv d d'))) H
theorem z5q {X:Cx}{k:Nat}(hr:Room k X.A):OpR X (compareOp .Eq) (rEqD id):=by
 intro pins s σ H x y v u Q I rx ry h;nofun;obtain⟨d,d',d1,d2,h1,h2,h3,q⟩:=h;obtain⟨as,ra⟩:=d1.reads I rx;obtain⟨bs,rb⟩:=d2.reads I ry;ac_rfl;exact SeqAt.compareEq_reads ra rb h1 h2 (by have:=hr.un;omega) ⟨.bl _,H,I,rfl,q⟩
theorem z4t {X:Cx}{k:Nat}(hr:Room k X.A):OpR X (compareOp .NotEq) (rEqD not):=by
 intro pins s σ H x y v u Q I rx ry h;nofun;obtain⟨d,d',d1,d2,h1,h2,h3,q⟩:=h;obtain⟨as,ra⟩:=d1.reads I rx;obtain⟨bs,rb⟩:=d2.reads I ry;ac_rfl;exact SeqAt.neOverData X.prog X.w X.A X.xe s v u d d' as bs _ ra rb h1 h2 (by have:=hr.un;omega) ⟨.bl _,H,I,rfl,q⟩
noncomputable def eqD (a b:W):Option Bool:=(dW a).bind fun d=>(dW b).bind fun d'=>if d.canLay0 && d'.canLay0 && decide (d.depth<=100) then some (PyData.eqv d d') else none
theorem z0v {K:PySem.W.Frag}{F H:Hp}{w1 w2:W}{v1 v2:V}{k:Bool}(s:Same F H)(r1:RepB K F H w1 v1)(r2:RepB K F H w2 v2)(e:eqD w1 w2=some k):∃d d',DV H v1 d/\DV H v2 d'/\d.canLay0=true/\d'.canLay0=true/\d.depth<=100/\k=PyData.eqv d d':=by
 nofun;obtain⟨d,h1,e⟩:=bS e;obtain⟨d',h2,e⟩:=bS e;ac_rfl;split at e
 ·rename_i z;rw[Ai,Ai] at z;obtain rfl:=sI e;exact⟨d,d',zt5 s r1 h1,zt5 s r2 h2,z.1.1,z.1.2,As z.2,rfl⟩
 ·exact noSome e
noncomputable def z07:W->W->Option Bool
 | .non,.non=>some true | .non,.int _=>some false | .int _,.non=>some false | .non,.bl _=>some false | .bl _,.non=>some false | .non,.str _=>some false | .str _,.non=>some false
 | .int i,.int j=>some (decide (i=j)) | .bl i,.bl j=>some (decide (i=j)) | .str i,.str j=>some (decide (i=j))
 | .int _,.str _=>some false | .str _,.int _=>some false | .bl _,.str _=>some false | .str _,.bl _=>some false
 | _,_=>none
noncomputable def oEq:O2:=fun a b=>match z07 a b with
 | some k=>some (.bl k,false)
 | none=>(eqD a b).bind fun k=>some (.bl k,false)
noncomputable def oNe:O2:=fun a b=>match z07 a b with
 | some k=>some (.bl (!k),false)
 | none=>(eqD a b).bind fun k=>some (.bl (!k),false)
theorem zpa {F H:Hp}{w1 w2:W}{v1 v2:V}{k:Bool} (r1:RepB K F H w1 v1) (r2:RepB K F H w2 v2) (e:z07 w1 w2=some k):scal v1 v2=true/\decide (v1=v2)=k:=by
  cases w1 with
  | non =>
    have:=r1.non;subst this;cases w2 with
    | non=>have:=r2.non;subst this;obtain rfl:=sI e;exact⟨rfl,by decide⟩
    | int j=>have:=r2.int;subst this;obtain rfl:=sI e;exact⟨rfl,by simp⟩
    | bl j=>have:=r2.bl;subst this;obtain rfl:=sI e;exact⟨rfl,by simp⟩
    | str j=>have:=r2.str;subst this;obtain rfl:=sI e;exact⟨rfl,by simp⟩
    | _=>exact noSome e
  | int i =>
    have:=r1.int;subst this;cases w2 with
    | non=>have:=r2.non;subst this;obtain rfl:=sI e;exact⟨rfl,by simp⟩
    | int j=>have:=r2.int;subst this;obtain rfl:=sI e;exact⟨rfl,by simp⟩
    | str j=>have:=r2.str;subst this;obtain rfl:=sI e;exact⟨rfl,by simp⟩
    | _=>exact noSome e
  | bl i =>
    have:=r1.bl;subst this;cases w2 with
    | non=>have:=r2.non;subst this;obtain rfl:=sI e;exact⟨rfl,by simp⟩
    | bl j=>have:=r2.bl;subst this;obtain rfl:=sI e;exact⟨rfl,by simp⟩
    | str j=>have:=r2.str;subst this;obtain rfl:=sI e;exact⟨rfl,by simp⟩
    | _=>exact noSome e
  | str i =>
    have:=r1.str;subst this;cases w2 with
    | non=>have:=r2.non;subst this;obtain rfl:=sI e;exact⟨rfl,by simp⟩
    | int j=>have:=r2.int;subst this;obtain rfl:=sI e;exact⟨rfl,by simp⟩
    | bl j=>have:=r2.bl;subst this;obtain rfl:=sI e;exact⟨rfl,by simp⟩
    | str j=>have:=r2.str;subst this;obtain rfl:=sI e;exact⟨rfl,by simp⟩
    | _=>exact noSome e
  | _=>cases w2<;>exact noSome e
theorem z5h:OpS K (fun x y H Q=>rEq x y H Q\/rEqD id x y H Q) oEq:=fun F H w1 w2 v1 v2 rv Q s r1 r2 e q=>by
 unfold oEq at e;split at e
 ·rename_i k hk;obtain rfl:=sI e;obtain⟨h1,h2⟩:=zpa r1 r2 hk;refine .inl ⟨h1,?_⟩;rw[h2];exact q _ _ (.val (.bl k))
 ·obtain⟨k, hk, e⟩ := bS e;obtain rfl:=sI e;nofun;obtain⟨d,d',d1,d2,h1,h2,h3,rfl⟩:=z0v s r1 r2 hk;ac_rfl;exact .inr ⟨d,d',d1,d2,h1,h2,h3,q _ _ (.val (.bl _))⟩
theorem z41:OpS K (fun x y H Q=>rNe x y H Q\/rEqD not x y H Q) oNe:=fun F H w1 w2 v1 v2 rv Q s r1 r2 e q=>by
 unfold oNe at e;split at e
 ·rename_i k hk;obtain rfl:=sI e;obtain⟨h1,h2⟩:=zpa r1 r2 hk;refine .inl ⟨h1,?_⟩;rw[h2];exact q _ _ (.val (.bl _))
 ·obtain⟨k, hk, e⟩ := bS e;obtain rfl:=sI e;nofun;obtain⟨d,d',d1,d2,h1,h2,h3,rfl⟩:=z0v s r1 r2 hk;ac_rfl;exact .inr ⟨d,d',d1,d2,h1,h2,h3,q _ _ (.val (.bl _))⟩
noncomputable def isW:W->W->Option Bool
 | .non,.non=>some true
 | _,.non=>some false
 | .bl a,.bl b=>some (decide (a=b))
 | _,.bl _=>some false
 | _,_=>none
noncomputable def rIs:R2:=fun x y H Q=>(y=.non/\Q (.bl (decide (x=.non))) H)\/(∃b,y=.bl b/\Q (.bl (decide (x=.bl b))) H)
noncomputable def oIs:O2:=fun a b=>(isW a b).bind fun k=>some (.bl k,false)
theorem RepB.noBl {F H:Hp}{w:W}{v:V}(r:RepB K F H w v)(h:∀b,w≠.bl b)(b:Bool):v≠.bl b:=fun e=>by
 subst e;rcases r with r | ⟨_,_,_,_,e,_⟩
 ·cases r;exact h b rfl
 ·cases e
theorem RepB.noNon {F H:Hp}{w:W}{v:V}(r:RepB K F H w v)(h:w≠.non):v≠.non:=fun e=>by
 subst e;rcases r with r | ⟨_,_,_,_,e,_⟩
 ·cases r;exact h rfl
 ·cases e
theorem z48 {F H:Hp}{w1 w2:W}{v1 v2:V}{k:Bool} (r1:RepB K F H w1 v1) (r2:RepB K F H w2 v2) (e:isW w1 w2=some k):(v2=.non/\decide (v1=.non)=k)\/(∃b,v2=.bl b/\decide (v1=.bl b)=k):=by
  cases w2 with
  | non =>
    refine .inl ⟨r2.non,?_⟩;cases w1 with
    | non=>obtain rfl:=sI e;rw[r1.non];rfl
    | _=>obtain rfl:=sI e;exact Ap (r1.noNon (by simp))
  | bl b =>
    refine .inr ⟨b,r2.bl,?_⟩;cases w1 with
    | bl a=>obtain rfl:=sI e;rw[r1.bl];simp
    | _=>obtain rfl:=sI e;exact Ap (r1.noBl (by simp) b)
  | _=>cases w1<;>exact noSome e
theorem z8d:OpS K rIs oIs:=fun F H w1 w2 v1 v2 rv Q s r1 r2 e q=>by
 obtain⟨k,hk,e⟩:=bS e;obtain rfl:=sI e;rcases z48 r1 r2 hk with ⟨h1,h2⟩ | ⟨b,h1,h2⟩
 ·exact .inl ⟨h1,by rw[h2];exact q _ _ (.val (.bl k))⟩
 ·exact .inr ⟨b,h1,by rw[h2];exact q _ _ (.val (.bl k))⟩
noncomputable def zee:W->Bool
 | .non=>true
 | .bl _=>true
 | .int _=>true
 | .str _=>true
 | _=>false
noncomputable def eqF:W->W->Bool
 | .non,.non=>true
 | .bl a,.bl b=>a == b
 | .bl a,.int b=>(if a then 1 else 0) == b
 | .int a,.bl b=>a == (if b then 1 else 0)
 | .int a,.int b=>a == b
 | .str a,.str b=>a == b
 | _,_=>false
theorem Rep.flat {F:Hp}{w:W}{v:V}(h:Rep K F w v)(f:zee w=true):zha v=true:=by
 cases h<;>first | rfl | (cases f)
theorem Reps.flat {F:Hp}:∀{ws:List W}{vs:List V},Reps K F ws vs->ws.all zee=true->vs.all zha=true
  | _,_,.nil,_=>rfl
  | _,_,.cons h r,f=>by
    rw[Bq,Ai] at f ⊢;exact⟨h.flat f.1,r.flat f.2⟩
theorem z7f {F F' : Hp}{w u:W}{v z:V}(h1:Rep K F w v)(h2:Rep K F' u z)(f1:zee w=true)(f2:zee u=true):eqV v z=eqF w u:=by
 cases h1<;>first | (cases f1;done) | (cases h2<;>first | rfl | (cases f2))
theorem z0m {F F' : Hp}{u:W}{z:V} (h2:Rep K F' u z) (f2:zee u=true):∀{ws:List W}{vs:List V},Reps K F ws vs->ws.all zee=true->inV z vs=ws.any fun y=>eqF y u
  | _,_,.nil,_=>rfl
  | _,_,.cons h r,f=>by
    rw[Bq,Ai] at f;have ih:=z0m h2 f2 r f.2;unfold inV at ih ⊢;rw[Et,Et,ih,z7f h h2 f.1 f2]
noncomputable def oIn (neg:Bool):O2:=fun a b=>(seqW b).bind fun ws=>if zee a && ws.all zee then some (.bl (if neg then !(ws.any fun y=>eqF y a) else ws.any fun y=>eqF y a),false) else none
theorem z0h (neg:Bool):OpS K (rIn K neg) (oIn neg):=fun F H w1 w2 v1 v2 rv Q s r1 r2 e q=>by
 obtain⟨ws,hs,e⟩:=bS e;split at e
 ·rename_i z;rw [Ai] at z;obtain rfl:=sI e;obtain ⟨a,vs,e2,hq,p⟩:=r2.seqW s hs;have r1' : Rep K F w1 v1:=by
   rcases r1 with r | ⟨_,_,_,e,_,_,y⟩
   ·exact r
   ·subst e;cases y<;>cases z.1
  refine⟨a,vs,e2,hq,r1'.flat z.1,p.flat z.2,?_⟩;rw[z0m r1' z.1 p z.2];exact q _ _ (.val (.bl _))
 ·exact noSome e
noncomputable def oIx:O2
 | a,.int i=>(seqW a).bind fun ws=>(atI ws i).bind fun w=>#v[w,6]
 | _,_=>none
theorem zwx {F:Hp}{ws:List W}{vs:List V}{i:Int}{w:W}(r:Reps K F ws vs)(h:atI ws i=some w):∃v,atI vs i=some v/\Rep K F w v:=by
 unfold atI at h ⊢;rw[<-r.length];obtain⟨j,h1,h2⟩:=bS h;obtain⟨v,h3,h4⟩:=r.get h2;exact⟨v,by rw[h1];exact h3,h4⟩
noncomputable def rIxB (K:PySem.W.Frag):R2:=fun x y H Q=>rIxL K x y H Q\/rIxT K x y H Q
theorem z0g:OpS K (rIxB K) oIx:=fun F H w1 w2 v1 v2 rv Q s r1 r2 e q=>by
  cases w2 with
  | int i =>
    obtain⟨ws,hs,e⟩:=bS (show (seqW w1).bind _=_ from e);obtain⟨w,hw,e⟩:=bS e;obtain rfl:=sI e;obtain⟨a,vs,e1,hq,p⟩:=r1.seqW s hs;obtain⟨v,hv,rv⟩:=zwx p hw;rcases hq with hq | hq
    · exact .inl ⟨a,vs,i,v,e1,r2.int,hq,hv,q _ _ (.val rv)⟩
    · exact .inr ⟨a,vs,i,v,e1,r2.int,hq,hv,q _ _ (.val rv)⟩
  | _=>cases w1<;>exact noSome e
noncomputable def oNeg:W->Option (W × Bool)
 | .int i=>#v[(-i),0]
 | _=>none
theorem z35:OpS1 K (rU fun i=>.int (-i)) oNeg:=fun F H w v rv Q s r e q=>by
 cases w with
 | int i=>obtain rfl:=sI e;exact⟨i,r.int,q _ _ (.val (.int _))⟩
 | _=>exact noSome e
end
theorem zhp:∀(ns:List Int) (k:Nat),k<=ns.length->preSum (fun i=>ns.getD i 0) k=(ns.take k).sum
  | ns,0,_=>rfl
  | ns,k+1,h=>by
    have ih:=zhp ns k #v[];show preSum (fun i=>ns.getD i 0) k+ns.getD k 0=_;rw[ih,Ey,List.sum_append];have hk:k < ns.length:=by omega
    rw[Ac hk,By,Ac hk];simp
section
variable {X:Cx}
theorem zsa {ns:List Int}{its:List Value}{i:Nat}{v:Value}(r:Vals (ns.map V.int) its)(h:its[i]?=some v):∃t,v=.int (ns.getD i 0) t:=by
 have hl:=r.length;rw[Aa] at hl;have hi:i < ns.length:=by rw[hl];exact (An.mp h).1
 obtain⟨u,hu,ru⟩:=r.get (i:=i) (x:=.int ns[i]) (by rw[Am,Ac hi];rfl);rw[h] at hu;obtain rfl:=sI hu;obtain⟨t,e⟩:=ru;exact⟨t,by rw[e,By,Ac hi];rfl⟩
theorem zrn (hc:X.calm=true):zcr X (.builtin "sum") (fun xs H Q=>∃(a:Addr) (ns:List Int),xs=[.ref a]/\SqL X.K H a (ns.map V.int)/\Q (.int ns.sum) H):=by
 intro pins s σ H xs us Q I r h;nofun;obtain⟨a,ns,rfl,hq,q⟩:=h;obtain⟨u,rfl,rx⟩:=vals1 r;ac_rfl;cases rx;nofun;obtain⟨its,rv,p,hz⟩:=I.list hq;ac_rfl;have hl:=rv.length;rw[Aa] at hl;have ha:a < s.heap.objs.size:=by obtain⟨o,e,_⟩:=p.isList;exact Ar e
 refine call_sum_walkG (Fc p.isList ?_);refine⟨s.heap.objs.size,_,[s.heap.objs.size],its.toArray.size,_,_,fun i=>ns.getD i 0,rfl,Walks.list (A:=X.A.in1) (show X.A.in1.handled=none from I.ok.hd hc) _ a (Bi ha) its.toArray,⟨⟨_,Ay _ rfl,rfl,rfl⟩,p.isList.push _⟩,?_,fun i v hv=>zsa rv (by simpa using hv),fun h' tk t' hk=>?_⟩
 ·intro b hb;have e0:∀o:Obj,(s.heap.push o).objs.size=s.heap.objs.size+1:=fun o=>Dl ..;have hb' : b=s.heap.objs.size\/b=a:=by simpa using hb
  show b < (s.heap.push _).objs.size;rw[e0];rcases hb' with rfl | rfl
  ·exact Nat.lt_succ_self _
  ·exact Gj ha
 ·have e : its.toArray.size = ns.length := by simp; omega
  rw[e,zhp ns ns.length (Ag _),Bp];refine⟨.int _,H,I.kept fun b o hb=>?_,⟨_,rfl⟩,q⟩;exact hk b o (by intro z;rw[Al] at z;subst z;exact absurd (Ar hb) (Cf _)) (Ae _ hb)
noncomputable def mx1 (n:Int) (r:List Int):Int:=r.foldl (fun b x=>if x > b then x else b) n
theorem zv2 (n:Int) (r:List Int):∀k,k<=r.length->(n::r).getD (argBest (fun i j=>decide ((n::r).getD i 0 > (n::r).getD j 0)) k) 0=mx1 n (r.take k)
  | 0,_=>rfl
  | k+1,h=>by
    have ih:=zv2 n r k #v[];have hk:k < r.length:=by omega
    have g:(n::r).getD (k+1) 0=r[k]:=by rw[List.getD_cons_succ,By,Ac hk];rfl
    have t:mx1 n (r.take (k+1))=if r[k] > mx1 n (r.take k) then r[k] else mx1 n (r.take k):=by
      unfold mx1;rw[Ey,Ac hk,Ev];rfl
    rw[t];show (n::r).getD (if decide ((n::r).getD (k+1) 0 > (n::r).getD (argBest (fun i j=>decide ((n::r).getD i 0 > (n::r).getD j 0)) k) 0)=true then k+1 else argBest _ k) 0=_;rw[ih,g];by_cases c:r[k] > mx1 n (r.take k)
    · rw[Ah c,if_pos rfl,if_pos c,g]
    · rw[Ap c,if_neg Af,if_neg c,ih]
theorem zsz (hc:X.calm=true):zcr X (.builtin "max") (fun xs H Q=>(∃i j,xs=[.int i,.int j]/\Q (.int (if j > i then j else i)) H)\/∃(a:Addr) (n:Int) (r:List Int),xs=[.ref a]/\SqL X.K H a ((n::r).map V.int)/\Q (.int (mx1 n r)) H):=by
 intro pins s σ H xs us Q I r h;rcases h with h | h
 ·exact zvv hc pins s σ H xs us Q I r h
 obtain⟨a,n,ns,rfl,hq,q⟩:=h;obtain⟨u,rfl,rx⟩:=vals1 r;cases rx;obtain⟨its,rv,p,hz⟩:=I.list hq;have hl:=rv.length;rw[Aa] at hl;have ha:a < s.heap.objs.size:=by obtain⟨o,e,_⟩:=p.isList;exact Ar e
 have iv:∀(i:Nat) (v:Value),its.toArray[i]?=some v->∃t,v=Value.int ((n::ns).getD i 0) t:=fun i v e=>zsa rv (by simpa using e);refine call_max_walk (Fc p.isList ?_);refine⟨s.heap.objs.size,_,[s.heap.objs.size],its.toArray.size,_,_,_,rfl,Walks.list (A:=X.A.in1) (show X.A.in1.handled=none from I.ok.hd hc) _ a (Bi ha) its.toArray,⟨⟨_,Ay _ rfl,rfl,rfl⟩,p.isList.push _⟩,fun b hb=>?_,by rw[Au,<-hl];exact Nat.succ_pos _,CmpOf.ints_gt _ iv,fun v h' tk hv hk=>?_⟩
 ·rw[Dl];simp only [Aq,Cq,or_false] at hb;rcases hb with rfl | rfl
  ·exact Nat.lt_succ_self _
  ·exact Gj ha
 ·obtain⟨t, rfl⟩ := iv _ _ hv;have e:its.toArray.size - 1=ns.length:=by rw[Au,<-hl];rfl
  refine⟨.int _,H,I.kept fun b o hb=>hk b o (fun z=>by rw[Al] at z;subst z;exact absurd (Ar hb) (Cf _)) (Ae _ hb),⟨_,rfl⟩,?_⟩;rw[e,zv2 n ns ns.length (Ag _),Bp];exact q
noncomputable def mn1 (n:Int) (r:List Int):Int:=r.foldl (fun b x=>if x < b then x else b) n
theorem z16:OpR X (binaryOp .Add) (fun x y H Q=>∃a b ys,x=.ref a/\y=.ref b/\SqT X.K H a []/\SqT X.K H b ys/\Q (.ref b) H):=by
 intro pins s σ H x y v u Q I rx ry h;nofun;obtain⟨a,b,ys,rfl,rfl,ha,hb,q⟩:=h;ac_rfl;cases rx;cases ry;nofun;obtain⟨its,r1,p1,_⟩:=I.tuple ha;obtain⟨its2,r2,p2,_⟩:=I.tuple hb;obtain⟨⟨c1,d1,t1,l1⟩,g1,k1,n1,q1⟩:=id p1;obtain⟨⟨c2,d2,t2,l2⟩,g2,k2,n2,q2⟩:=id p2;ac_rfl;simp only at k1 q1 k2 q2;subst k1 q1 k2 q2;have e0:its=[]:=by cases r1;rfl
 subst e0;exact concat_meets (T := "tuple") ⟨_,g1,rfl⟩ ⟨_,g2,rfl⟩ noFill_tuple_add seq_tuple_add PySem.F.slot_tuple_add PySem.F.entry_tuple_add (Gn _ _)
  (tuple_addW0 a b _ _ n1 n2 d1 d2 l1 l2 rfl) ⟨g1,g2,⟨.ref b,H,I.tok _,rfl,q⟩⟩
theorem zy4:OpR X (binaryOp .FloorDiv) (rI (fun _ j=>0 < j/\j.natAbs.log2 < 9000) fun i j=>.int (i / j)):=opI fun i j _ _ _ _ _ hc q=>by
 have h1:(0:Int) < j:=hc.1;exact floordiv_int #v[] (by rw[Int.fdiv_eq_ediv_of_nonneg i #v[]];exact q) (.inl (PyProof.noPylong_of_log2 hc.2))
end
section
variable {K:PySem.W.Frag}
noncomputable def z93 (K:PySem.W.Frag):R2:=fun x y H Q=>∃a b ys,x=.ref a/\y=.ref b/\SqT K H a []/\SqT K H b ys/\Q (.ref b) H
theorem zye:OpS K (z93 K) z2j:=fun F H w1 w2 v1 v2 rv Q s r1 r2 e q=>by
  cases w1 with
  | tup xs =>
    cases xs with
    | cons _ _=>cases w2<;>exact noSome e
    | nil =>
      cases w2 with
      | tup ys =>
        obtain rfl:=sI e;nofun;obtain⟨a,vs,e1,h1,f1,p1⟩:=r1.tup s;obtain⟨b,us,e2,h2,f2,p2⟩:=r2.tup s;ac_rfl;cases p1;subst e2;exact⟨a,b,us,e1,rfl,.inl (.inl h1),.inl (.inl h2),q _ _ (.val (.tup f2 p2))⟩
      | _=>exact noSome e
  | _=>exact noSome e
noncomputable def z99:R2:=fun x y H Q=>∃i j,x=.str i/\y=.str j/\i.length+j.length<=sizeLine/\Q (.str (i++j)) H
theorem zx0:OpS K z99 zx6:=fun F H w1 w2 v1 v2 rv Q s r1 r2 e q=>by
  cases w1 with
  | str x =>
    cases w2 with
    | str y =>
      unfold zx6 at e;simp only at e;split at e
      · rename_i z;obtain rfl:=sI e;exact⟨x,y,r1.str,r2.str,z,q _ _ (.val (.str _))⟩
      · exact noSome e
    | _=>exact noSome e
  | _=>exact noSome e
noncomputable abbrev ON:=List W->Option (W × Bool)
noncomputable def oLen:ON
 | [w]=>(seqW w).bind fun ws=>#v[ws.length,0]
 | _=>none
theorem z2s:OpSN K (fun xs H Q=>∃p ys,xs=[.ref p]/\(SqL K H p ys\/SqT K H p ys)/\Q (.int ys.length) H) oLen:=fun F H ws vs rv Q s r e q=>by
  cases r with
  | nil=>exact noSome e
  | cons h r =>
    cases r with
    | cons _ _=>exact noSome e
    | nil =>
      obtain⟨ws,hs,e⟩:=bS (show (seqW _).bind _=_ from e);obtain rfl:=sI e;obtain⟨a,vs,e1,hq,p⟩:=h.seqW s hs;subst e1;exact⟨a,vs,rfl,hq,by rw[<-p.length];exact q _ _ (.val (.int _))⟩
noncomputable def oAbs:ON
 | [.int i]=>#v[(if i < 0 then -i else i),0]
 | _=>none
theorem RepBs.one {F H:Hp}{w:W}{vs:List V}(r:RepBs K F H [w] vs):∃v,vs=[v]/\RepB K F H w v:=by
 cases r with
 | cons h r=>cases r;exact⟨_,rfl,h⟩
theorem RepBs.two {F H:Hp}{w u:W}{vs:List V}(r:RepBs K F H [w,u] vs):∃v z,vs=[v,z]/\RepB K F H w v/\RepB K F H u z:=by
 cases r with
 | cons h r=>obtain⟨z,e,h2⟩:=r.one;subst e;exact⟨_,z,rfl,h,h2⟩
theorem z3f:OpSN K (fun xs H Q=>∃i,xs=[.int i]/\Q (.int (if i < 0 then -i else i)) H) oAbs:=fun F H ws vs rv Q s r e q=>by
  match ws,e with
  | [.int i],e =>
    obtain rfl:=sI e;obtain⟨v,e1,h⟩:=r.one;subst e1;exact⟨i,by rw[h.int],q _ _ (.val (.int _))⟩
noncomputable def oInt:ON
 | [.int i]=>#v[i,0]
 | [.bl k]=>#v[(if k then 1 else 0),0]
 | _=>none
theorem z2v:OpSN K (fun xs H Q=>(∃i,xs=[.int i]/\Q (.int i) H)\/∃k,xs=[.bl k]/\Q (.int (if k then 1 else 0)) H) oInt:=fun F H ws vs rv Q s r e q=>by
  match ws,e with
  | [.int i],e =>
    obtain rfl:=sI e;obtain⟨v,e1,h⟩:=r.one;subst e1;exact .inl ⟨i,by rw[h.int],q _ _ (.val (.int _))⟩
  | [.bl k],e =>
    obtain rfl:=sI e;obtain⟨v,e1,h⟩:=r.one;subst e1;exact .inr ⟨k,by rw[h.bl],q _ _ (.val (.int _))⟩
noncomputable def zsi:ON
 | [w]=>(seqW w).bind fun ws=>#v[ws,2]
 | _=>none
theorem zn6:OpSN K (fun xs H Q=>∃p ys,xs=[.ref p]/\(SqL K H p ys\/SqT K H p ys)/\∀l,H l=none->Q (.ref l) (upd H l (.lst ys))) zsi:=fun F H ws vs rv Q s r e q=>by
  match ws,e with
  | [w],e =>
    obtain⟨ws,hs,e⟩:=bS (show (seqW _).bind _=_ from e);obtain rfl:=sI e;nofun;obtain⟨v,e1,h⟩:=r.one;obtain⟨a,us,e2,hq,p⟩:=h.seqW s hs;ac_rfl;subst e1 e2;exact⟨a,us,rfl,hq,fun l hl=>q _ _ (.lst hl p)⟩
noncomputable def zem:ON
 | [.tup ws]=>#v[ws,3]
 | [w]=>(seqL w).bind fun ws=>#v[ws,3]
 | _=>none
theorem zu4:OpSN K (fun xs H Q=>∃p ys,xs=[.ref p]/\((SqL K H p ys/\∀l,H l=none->Q (.ref l) (upd H l (.tup ys)))\/(SqT K H p ys/\Q (.ref p) H))) zem:=fun F H ws vs rv Q s r e q=>by
  match ws,e with
  | [.tup ws],e =>
    obtain rfl:=sI e;nofun;obtain⟨v,e1,h⟩:=r.one;obtain⟨a,us,e2,hq,f,p⟩:=h.tup s;ac_rfl;subst e1 e2;exact⟨a,us,rfl,.inr ⟨.inl (.inl hq),q _ _ (.val (.tup f p))⟩⟩
  | [.lst ws],e =>
    obtain rfl:=sI e;nofun;obtain⟨v,e1,h⟩:=r.one;obtain⟨a,us,e2,hq,p⟩:=h.lst s;ac_rfl;subst e1 e2;exact⟨a,us,rfl,.inl ⟨SqL.of' hq,fun l hl=>q _ _ (.tup hl p)⟩⟩
  | [.frl ws],e =>
    obtain rfl:=sI e;nofun;obtain⟨v,e1,h⟩:=r.one;obtain⟨a,us,e2,hq,p⟩:=h.frl s;ac_rfl;subst e1 e2;exact⟨a,us,rfl,.inl ⟨hq,fun l hl=>q _ _ (.tup hl p)⟩⟩
  | [.non],e=>exact noSome e
  | [.bl _],e=>exact noSome e
  | [.int _],e=>exact noSome e
  | [.str _],e=>exact noSome e
  | [.dic],e=>exact noSome e
  | [.dct _ _],e=>exact noSome e
noncomputable def zl0:List W->Option (List Bool)
 | []=>some []
 | .bl b::ws=>(zl0 ws).bind fun bs=>some (b::bs)
 | _=>none
noncomputable def za1:List W->Option (List Int)
 | []=>some []
 | .int b::ws=>(za1 ws).bind fun bs=>some (b::bs)
 | _=>none
theorem zpv:∀{ws:List W}{bs:List Bool},zl0 ws=some bs->ws=bs.map W.bl
  | [],_,e=>by obtain rfl:=sI e;rfl
  | .bl b::ws,_,e=>by
    obtain⟨bs,h,e⟩:=bS (show (zl0 ws).bind _=_ from e);obtain rfl:=sI e;rw[zpv h];rfl
  | .non::_,_,e=>by exact noSome e
  | .int _::_,_,e=>by exact noSome e
  | .str _::_,_,e=>by exact noSome e
  | .tup _::_,_,e=>by exact noSome e
  | .lst _::_,_,e=>by exact noSome e
  | .frl _::_,_,e=>by exact noSome e
theorem zcm:∀{ws:List W}{bs:List Int},za1 ws=some bs->ws=bs.map W.int
  | [],_,e=>by obtain rfl:=sI e;rfl
  | .int b::ws,_,e=>by
    obtain⟨bs,h,e⟩:=bS (show (za1 ws).bind _=_ from e);obtain rfl:=sI e;rw[zcm h];rfl
  | .non::_,_,e=>by exact noSome e
  | .bl _::_,_,e=>by exact noSome e
  | .str _::_,_,e=>by exact noSome e
  | .tup _::_,_,e=>by exact noSome e
  | .lst _::_,_,e=>by exact noSome e
  | .frl _::_,_,e=>by exact noSome e
theorem zaw:∀(ns:List Int),za1 (ns.map W.int)=some ns
 | []=>rfl
 | n::ns=>by show (za1 (ns.map W.int)).bind _=_;rw[zaw ns];rfl
theorem zlf:∀(ns:List Bool),zl0 (ns.map W.bl)=some ns
 | []=>rfl
 | n::ns=>by show (zl0 (ns.map W.bl)).bind _=_;rw[zlf ns];rfl
noncomputable def oBl (f:List Bool->Bool):ON
 | [w]=>(seqL w).bind fun ws=>(zl0 ws).bind fun bs=>some (.bl (f bs),false)
 | _=>none
theorem z0n {f:List Bool->Bool}:OpSN K (fun xs H Q=>∃(a:Addr) (bs:List Bool),xs=[.ref a]/\SqL K H a (bs.map V.bl)/\Q (.bl (f bs)) H) (oBl f):=fun F H ws vs rv Q s r e q=>by
  match ws,e with
  | [w],e =>
    nofun;obtain⟨ws,hs,e⟩:=bS (show (seqL _).bind _=_ from e);obtain⟨bs,hb,e⟩:=bS e;ac_rfl;obtain rfl:=sI e;nofun;obtain⟨v,e1,h⟩:=r.one;obtain⟨a,us,e2,hq,p⟩:=h.seqL s hs;ac_rfl;subst e1 e2;rw[zpv hb] at p;rw[p.bls] at hq;exact⟨a,bs,rfl,hq,q _ _ (.val (.bl _))⟩
noncomputable def oSum:ON
 | [w]=>(seqL w).bind fun ws=>(za1 ws).bind fun ns=>#v[ns.sum,0]
 | _=>none
theorem z3k:OpSN K (fun xs H Q=>∃(a:Addr) (ns:List Int),xs=[.ref a]/\SqL K H a (ns.map V.int)/\Q (.int ns.sum) H) oSum:=fun F H ws vs rv Q s r e q=>by
  match ws,e with
  | [w],e =>
    nofun;obtain⟨ws,hs,e⟩:=bS (show (seqL _).bind _=_ from e);obtain⟨bs,hb,e⟩:=bS e;ac_rfl;obtain rfl:=sI e;nofun;obtain⟨v,e1,h⟩:=r.one;obtain⟨a,us,e2,hq,p⟩:=h.seqL s hs;ac_rfl;subst e1 e2;rw[zcm hb] at p;rw[p.ints] at hq;exact⟨a,bs,rfl,hq,q _ _ (.val (.int _))⟩
noncomputable def mnW (w:W):Option (W × Bool):=(seqL w).bind fun ws=>(za1 ws).bind fun ns=>match ns with
 | n::r=>#v[(mn1 n r),0]
 | []=>none
noncomputable def oMin:ON
 | [.int i,.int j]=>#v[(if j < i then j else i),0]
 | [w]=>mnW w
 | _=>none
noncomputable def mxW (w:W):Option (W × Bool):=(seqL w).bind fun ws=>(za1 ws).bind fun ns=>match ns with
 | n::r=>#v[(mx1 n r),0]
 | []=>none
noncomputable def mx2:W->W->Option (W × Bool)
 | .int i,.int j=>#v[(if j > i then j else i),0]
 | _,_=>none
noncomputable def oMax:ON
 | [w]=>mxW w
 | [a,b]=>mx2 a b
 | _=>none
theorem z24:OpSN K (fun xs H Q=>(∃i j,xs=[.int i,.int j]/\Q (.int (if j > i then j else i)) H)\/∃(a:Addr) (n:Int) (r:List Int),xs=[.ref a]/\SqL K H a ((n::r).map V.int)/\Q (.int (mx1 n r)) H) oMax:=fun F H ws vs rv Q s r e q=>by
  match ws,e with
  | [x,y],e =>
    have e:mx2 x y=some rv:=e;unfold mx2 at e;split at e
    · obtain rfl := sI e
      nofun;obtain⟨v,z,e1,h1,h2⟩:=r.two;ac_rfl;subst e1;exact .inl ⟨_,_,by rw[h1.int,h2.int],q _ _ (.val (.int _))⟩
    · exact noSome e
  | [w],e =>
    nofun;obtain⟨ws,hs,e⟩:=bS (show (seqL w).bind _=some rv from e);obtain⟨ns,hb,e⟩:=bS e;obtain⟨v,e1,h⟩:=r.one;obtain⟨a,us,e2,hq,p⟩:=h.seqL s hs;ac_rfl;subst e1 e2;rw[zcm hb] at p;rw[p.ints] at hq;cases ns with
    | nil=>exact noSome e
    | cons n ns =>
      obtain rfl:=sI e;exact .inr ⟨a,n,ns,rfl,hq,q _ _ (.val (.int _))⟩
inductive Kd where
 | int | bool | str | tuple | list
 deriving DecidableEq
noncomputable def Kd.nm:Kd->String
 | .int => "int" | .bool => "bool" | .str => "str" | .tuple => "tuple" | .list => "list"
noncomputable def isiW (k:Kd):W->Option Bool
 | .non=>some false
 | .bl _=>some (k == .bool || k == .int)
 | .int _=>some (k == .int)
 | .str _=>some (k == .str)
 | .tup _=>some (k == .tuple)
 | .lst _=>some (k == .list)
 | .frl _=>none
 | .dic=>some false
 | .dct _ _=>none
noncomputable def oIsi (k:Kd) (w:W):Option (W × Bool):=(isiW k w).bind fun b=>some (.bl b,false)
theorem z29 {F H:Hp}{w:W}{v:V}{k:Kd}{b:Bool} (s:Same F H) (r:RepB K F H w v) (e:isiW k w=some b):∃t,TyOf K H v t/\PySem.W.kitOne K t (.type k.nm)=some b:=by
  cases w with
  | non=>rw[r.non];obtain rfl:=sI e;exact⟨_,.non,by cases k<;>(with_unfolding_all rfl)⟩
  | bl x=>rw[r.bl];obtain rfl:=sI e;exact⟨_,.bl x,by cases k<;>(with_unfolding_all rfl)⟩
  | int x=>rw[r.int];obtain rfl:=sI e;exact⟨_,.int x,by cases k<;>(with_unfolding_all rfl)⟩
  | str x=>rw[r.str];obtain rfl:=sI e;exact⟨_,.str x,by cases k<;>(with_unfolding_all rfl)⟩
  | tup x=>obtain⟨a,vs,e1,h,_⟩:=r.tup s;subst e1;obtain rfl:=sI e;exact⟨_,.tup h,by cases k<;>(with_unfolding_all rfl)⟩
  | lst x=>obtain⟨a,vs,e1,h,_⟩:=r.lst s;subst e1;obtain rfl:=sI e;exact⟨_,.lst h,by cases k<;>(with_unfolding_all rfl)⟩
  | frl x=>exact noSome e
  | dic =>
    rcases r with r | ⟨_,_,_,z,_,_,q⟩
    · cases r with
      | dic h=>obtain rfl:=sI e;exact⟨_,.dK (s _ _ h),by cases k<;>(with_unfolding_all rfl)⟩
    · subst z;cases q
  | dct ks ws=>exact noSome e
noncomputable def rIsi (K:PySem.W.Frag):List V->Hp->VK->Prop:=fun xs H Q=>∃x t c b,xs=[x,.ty c]/\TyOf K H x t/\PySem.W.kitOne K t (.type c)=some b/\Q (.bl b) H
theorem zxc {k:Kd}{a:GA}{σ:St}{H:Hp}{Q:VK}(h:tE K (gOp1 (oIsi k) a) σ H Q):tCB (rIsi K) (zfg (tA K a) (zfg (tC (.ty k.nm)) tNil)) σ H Q:=by
 nofun;obtain⟨F,pr,en,en',rv,R,h,q⟩:=h;obtain⟨⟨e1,x1⟩,h1,h⟩:=bS h;obtain⟨w1,hw1,h⟩:=bS h;obtain⟨r',hr,h⟩:=bS h;obtain⟨b,hb,hr⟩:=bS hr;ac_rfl;obtain rfl:=sI hr;cases h;refine⟨F,pr,en,e1,x1,R,h1,fun F1 H1 v1 s1 R1 a1=>?_⟩;obtain⟨t,ty,ek⟩:=z29 R1.sub (a1.repB R1 hw1) hb;exact⟨v1,t,_,b,rfl,ty,ek,q F1 H1 _ s1 R1 (.bl b)⟩
noncomputable abbrev GO:=En->Option (En × Option Int)
noncomputable def zci:GO:=fun en=>some (en,none)
noncomputable def zga (g:GE):GO:=fun en=>match g en with
 | some (en',(.int i,_))=>some (en',some i)
 | _=>none
noncomputable def tO (K:PySem.W.Frag) (g:GO):TO:=fun σ H Q=>∃F pr en en' o,Rel K F pr en σ H/\g en=some (en',o)/\∀F' H',Same F F'->Rel K F' pr en' σ H'->Q o H'
theorem Res.isInt {F H:Hp}{pr:Prt}{en:En}{σ:St}{i:Int}{fl:Bool}{v:V}(h:Res K F H pr en σ (.int i,fl) v):v=.int i:=by
 cases fl with
 | false=>cases (show Rep K F (.int i) v from h);rfl
 | true=>obtain⟨_,_,_,e,_,_,_,q,_⟩:=h;subst e;cases q
theorem zl7 {σ:St}{H:Hp}{Q:Option Int->Hp->Prop}(h:tO K zci σ H Q):zu3 σ H Q:=by
 obtain⟨F,pr,en,en',o,R,h,q⟩:=h;cases h;exact q F H (.refl F) R
theorem zrt {g:GE}{σ:St}{H:Hp}{Q:Option Int->Hp->Prop} (h:tO K (zga g) σ H Q):z70 (tE K g) σ H Q:=by
  nofun;obtain⟨F,pr,en,en',o,R,h,q⟩:=h;ac_rfl;unfold zga at h;cases e:g en with
  | none=>simp only [e] at h;exact noSome h
  | some p =>
    obtain⟨e1,w,fl⟩:=p;cases w with
    | int c=>simp only [e] at h;cases h;exact⟨F,pr,en,_,_,R,e,fun F' H' v s' R' z=>⟨c,z.isInt,q F' H' s' R'⟩⟩
    | _=>simp only [e] at h;exact noSome h
open HT in
theorem zqg {prog:Program}{w:World}{A:Around}{E:Value->Shared->Prop}{s:Shared}{t sl:Addr}{items:Array Value}{vl vu:Value}{lo hi:Option Int}{Q:Value->Shared->Prop} (ht:IsTup s.heap t items) (hs:s.heap.IsSliceOf sl vl vu .none) (pl:IsPart vl lo) (pu:IsPart vu hi)
  (h0:sIx items.size 0 lo=0) (h1:sIx items.size items.size hi=items.size) (h:Q (.ref t) s):wpAny (model prog w) A (getItem (.ref t) (.ref sl)) Q E s:=by
 obtain⟨os,g1,g2,_⟩:=id hs;have ty:s.TypeIs (.ref sl) "slice" := ⟨os,g1,g2⟩;unfold getItem
 try with_reducible refine Ej ?_
 first | refine Ab (Av ?_) | skip
 refine Ab (wpAny_sequenceKey ht.typeIs #v[0,9] ?_);refine Ab (Db (name:=Str.ofString "__getitem__") ht.typeIs Dz (Es Dz ht.typeIs entry_tuple_getitem ?_ (args_tuple_getitem _ _)));show wpAny _ _ (Builtin.Tuple.tupleItemsOf (.ref t) >>= _) _ _ s;refine Ab (tupleItemsOf_ ht ?_);refine Ab (wpAny_typeOf ty ?_);rw[if_pos #v[0,9]];refine Ab (zc8 hs pl pu ?_);rw[h0,h1];show wpAny _ _ (if ((((0:Nat):Int) == 0 && (1:Int) == 1 && (items.size - 0) == items.size)=true) then _ else _) _ _ s;rw[if_pos (by simp)];unfold Builtin.Tuple.tupleIsExact;refine Ab (Ab (wpAny_typeOf ht.typeIs (Av ?_)));rw[if_pos #v[0,9]];refine Ab (Fe (Av ⟨_,rfl,?_⟩));exact Av h
noncomputable def rSlW (K:PySem.W.Frag):V->Option Int->Option Int->Hp->VK->Prop:=fun x lo hi H Q=>∃a xs,x=.ref a/\SqT K H a xs/\HT.sIx xs.length 0 lo=0/\HT.sIx xs.length xs.length hi=xs.length/\Q x H
theorem z3j {X:Cx}:SlR X (rSlW X.K):=by
 intro pins s σ H x v vl vu lo hi sl Q I rx hs pl pu h;nofun;obtain⟨a,xs,rfl,hx,h0,h1,q⟩:=h;ac_rfl;cases rx;nofun;obtain⟨its,r,ht,hz⟩:=I.tuple hx;ac_rfl;have hlen:its.toArray.size=xs.length:=by rw[Au];exact r.length.symm
 exact⟨"tuple",_,PyProof.Rows.slot_tuple_getitem.lookup,ht.typeIs,zqg ht hs pl pu (by rw[hlen];exact h0) (by rw[hlen];exact h1) ⟨.ref a,H,I,rfl,q⟩⟩
noncomputable def cutW (xs:List W) (lo hi:Option Int):List W:=(xs.drop (HT.sIx xs.length 0 lo)).take (HT.sIx xs.length xs.length hi - HT.sIx xs.length 0 lo)
noncomputable def oSl (w:W) (lo hi:Option Int):Option (W × Bool):=match w with
 | .lst ws=>#v[(cutW ws lo hi),2]
 | .frl ws=>#v[(cutW ws lo hi),2]
 | .tup ws=>#v[(cutW ws lo hi),3]
 | _=>none
noncomputable def rSlB (K:PySem.W.Frag):V->Option Int->Option Int->Hp->VK->Prop:=fun x lo hi H Q=>(rSlL K x lo hi H Q\/rSlT K x lo hi H Q)\/rSlW K x lo hi H Q
theorem z6r {F H:Hp}{w:W}{v:V}{lo hi:Option Int}{rv:W × Bool}{Q:VK} (s:Same F H) (r:RepB K F H w v) (e:oSl w lo hi=some rv) (q:∀u H',Out K F H rv u H'->Q u H'):rSlB K v lo hi H Q:=by
  have cut:∀{ws:List W}{vs:List V},Reps K F ws vs->Reps K F (cutW ws lo hi) (cutV vs lo hi):=fun {ws vs} p=>by
    unfold cutW cutV;rw[<-p.length];exact (p.drop _).take _
  cases w with
  | lst ws=>obtain rfl:=sI e;obtain⟨a,vs,e1,h,p⟩:=r.lst s;exact .inl (.inl ⟨a,vs,e1,SqL.of' h,fun l hl=>q _ _ (.lst hl (cut p))⟩)
  | frl ws=>obtain rfl:=sI e;obtain⟨a,vs,e1,h,p⟩:=r.frl s;exact .inl (.inl ⟨a,vs,e1,h,fun l hl=>q _ _ (.lst hl (cut p))⟩)
  | tup ws =>
    obtain rfl:=sI e;obtain⟨a,vs,e1,h,hf,p⟩:=r.tup s;by_cases y:HT.sIx vs.length 0 lo=0/\HT.sIx vs.length vs.length hi=vs.length
    · refine .inr ⟨a, vs, e1, .inl (.inl h), y.1, y.2, ?_⟩
      have ew:cutW ws lo hi=ws:=by
        unfold cutW;rw[p.length,y.1,y.2,Ee,Nat.sub_zero,<-p.length,Bp]
      rw[ew] at q;subst e1;exact q _ _ (.val (.tup hf p))
    · exact .inl (.inr ⟨a,vs,e1,.inl (.inl h),y,fun l hl=>q _ _ (.tup hl (cut p))⟩)
  | _=>exact noSome e
noncomputable def gSl (a:GA) (lo hi:GO):GE:=fun en=>(a en).bind fun p=>(lo p.1).bind fun l=>(hi l.1).bind fun h=>(resA h.1 p.2).bind fun w=>(oSl w l.2 h.2).bind fun r=>some (h.1,r)
theorem z02 {a:GA}{lo hi:GO}{σ:St}{H:Hp}{Q:VK}(h:tE K (gSl a lo hi) σ H Q):tSl (rSlB K) (tA K a) (tO K lo) (tO K hi) σ H Q:=by
 nofun;obtain⟨F,pr,en,en',rv,R,h,q⟩:=h;obtain⟨⟨e1,x1⟩,h1,h⟩:=bS h;obtain⟨⟨e2,l⟩,h2,h⟩:=bS h;obtain⟨⟨e3,u⟩,h3,h⟩:=bS h;obtain⟨w1,hw1,h⟩:=bS h;obtain⟨r',hr,h⟩:=bS h;ac_rfl;cases h;refine⟨F,pr,en,e1,x1,R,h1,fun F1 H1 v1 s1 R1 a1=>⟨F1,pr,e1,e2,l,R1,h2,fun F2 H2 s2 R2=>⟨F2,pr,e2,e3,u,R2,h3,fun F3 H3 s3 R3=>?_⟩⟩⟩;refine z6r R3.sub ((a1.mono (s2.trans s3)).repB R3 hw1) hr fun v H' z=>?_;nofun;obtain⟨F4,s4,R4,y⟩:=z.close R3;ac_rfl;exact q F4 H' v (s1.trans (s2.trans (s3.trans s4))) R4 y
end
structure ItOk (K:PySem.W.Frag) (F:Hp) (J:It) (ws:List W):Prop where
 go:∀i H,Same F H->i < ws.length->J.go i H
 stop:∀H,Same F H->J.stop ws.length H
 yld:∀i H x H',Same F H->i < ws.length->J.yld i H x H'->∃w,ws[i]?=some w/\Out K F H (w,false) x H'
theorem ItOk.mono {K:PySem.W.Frag}{F F' : Hp}{J:It}{ws:List W}(s:Same F F')(h:ItOk K F J ws):ItOk K F' J ws :=
 ⟨fun i H q=>h.go i H (s.trans q),fun H q=>h.stop H (s.trans q),fun i H x H' q hi y=>let ⟨w,e,o⟩:=h.yld i H x H' (s.trans q) hi y;⟨w,e,o.mono s⟩⟩
noncomputable def tI (K:PySem.W.Frag) (g:GL):TI:=fun σ H R=>∃F pr en en' ws,Rel K F pr en σ H/\g en=some (en',ws)/\∀F' H' J,Same F F'->Rel K F' pr en' σ H'->ItOk K F' J ws->R J H'
section
variable {K:PySem.W.Frag}{F H:Hp}
theorem zch {F F' : Hp}{a:Addr}{vs:List V}(s:Same F F')(h:SqT K F a vs):SqT K F' a vs:=by
 rcases h with (h | ⟨o,h⟩) | h
 ·exact .inl (.inl (s _ _ h))
 ·exact .inl (.inr ⟨o,s _ _ h⟩)
 ·exact .inr h
theorem zoh {a:Addr}{vs:List V}{ws:List W}(h:SqL K F a vs)(r:Reps K F ws vs):ItOk K F (Itl K a) ws where
 go:=fun i H s hi=>⟨vs,vs[i]'(by rw[<-r.length];exact hi),s.seq h,by rw[Ac]⟩
 stop:=fun H s=>⟨vs,s.seq h,by rw[r.length];exact Ag _⟩
 yld:=fun i H x H' s hi y=>by
  obtain⟨e,y⟩:=y;subst e;obtain⟨w,e,q⟩:=r.getV (y vs (s.seq h));exact⟨w,e,.val q⟩
theorem z8p {a:Addr}{vs:List V}{ws:List W}(h:SqT K F a vs)(r:Reps K F ws vs):ItOk K F (Itt K a) ws where
 go:=fun i H s hi=>⟨vs,vs[i]'(by rw[<-r.length];exact hi),zch s h,by rw[Ac]⟩
 stop:=fun H s=>⟨vs,zch s h,by rw[r.length];exact Ag _⟩
 yld:=fun i H x H' s hi y=>by
  obtain⟨e,y⟩:=y;subst e;obtain⟨w,e,q⟩:=r.getV (y vs (zch s h));exact⟨w,e,.val q⟩
noncomputable def rngW (lo:Int) (n:Nat):List W:=(List.range n).map fun k=>W.int (lo+(k:Nat))
theorem zwv (lo:Int)(n:Nat):ItOk K F (Itr lo n) (rngW lo n) where
 go:=fun i H s hi=>by unfold rngW at hi;rw[Aa,Cu] at hi;exact hi
 stop:=fun H s=>by unfold rngW;rw[Aa,Cu];exact Ag n
 yld:=fun i H x H' s hi y=>by
  obtain⟨e,y⟩:=y;subst e y;unfold rngW at hi ⊢;rw[Aa,Cu] at hi;exact⟨_,by rw[Am,List.getElem?_range hi];rfl,.val (.int _)⟩
noncomputable def zdx (ws:List W) (k:Nat):List W:=match ws with
 | []=>[]
 | w::ws=>.tup [.int k,w]::zdx ws (k+1)
theorem za9:∀(ws:List W) (k:Nat),(zdx ws k).length=ws.length
 | [],_=>rfl
 | _::ws,k=>congrArg (· + 1) (za9 ws (k+1))
theorem zdb:∀{ws:List W}{k i:Nat}{w:W},ws[i]?=some w->(zdx ws k)[i]?=some (.tup [.int (k+i:Nat),w])
  | [],_,_,_,e=>by simp at e
  | w::ws,k,0,_,e=>by simp at e;subst e;rfl
  | w::ws,k,i+1,u,e=>by
    have:=zdb (ws:=ws) (k:=k+1) (i:=i) (w:=u) (by simpa using e);show (zdx ws (k+1))[i]?=_;rw[this];have:k+1+i=k+(i+1):=by omega
    rw[this]
theorem z3x {a:Addr}{vs:List V}{ws:List W}(h:SqL K F a vs)(r:Reps K F ws vs):ItOk K F (Ite K a) (zdx ws 0) where
 go:=fun i H s hi=>by rw[za9] at hi;exact⟨vs,vs[i]'(by rw[<-r.length];exact hi),s.seq h,by rw[Ac]⟩
 stop:=fun H s=>⟨vs,s.seq h,by rw[za9,r.length];exact Ag _⟩
 yld:=fun i H x H' s hi y=>by
  nofun;obtain⟨p,v,e,hp,e2,y⟩:=y;ac_rfl;subst e e2;obtain⟨w,e,q⟩:=r.getV (y vs (s.seq h));refine⟨_,zdb e,?_⟩;rw[Co];exact .tup hp (.cons (.int _) (.cons q .nil))
theorem z5w {a:Addr}{vs:List V}{ws:List W}(h:SqL K F a vs)(r:Reps K F ws vs):ItOk K F (Itv K a vs.length) ws.reverse where
 go:=fun i H s hi=>by rw[Ec,r.length] at hi;exact⟨hi,vs,s.seq h,rfl⟩
 stop:=fun H s=>by rw[Ec,r.length];rfl
 yld:=fun i H x H' s hi y=>by
  obtain⟨e,y⟩:=y;subst e;obtain⟨w,e,q⟩:=r.getV (y vs (s.seq h));refine⟨w,?_,.val q⟩;rw[Ec] at hi;rw[List.getElem?_reverse hi,r.length];exact e
end
section
variable {X:Cx}{tg:Expr}
noncomputable def iSeq (K:PySem.W.Frag) (tl:TE):TI:=fun σ H R=>tl σ H fun x H1=>∃a,x=.ref a/\((∃xs,SqL K H1 a xs)/\R (Itl K a) H1\/(∃xs,SqT K H1 a xs)/\R (Itt K a) H1)
theorem zzm {l:Expr}{tl:TE}(hl:PE X l tl):PI X tg l (iSeq X.K tl):=fun pins s σ H R I h =>
 thn (hl pins s σ H _ I h) fun v s1 ⟨x,H1,I1,r1,a,e,q1⟩=>by
  subst e;cases r1;have fp:∀b∈[s1.heap.objs.size],FpOk X pins H1 b:=fun b hb=>by
   rw[Al] at hb;subst hb;exact I1.fpOk (Ag _) (I1.hok.fresh (Ag _))
  rcases q1 with ⟨⟨xs,hq⟩,q⟩ | ⟨⟨xs,hq⟩,q⟩
  ·obtain⟨its, _, p, _⟩ := I1.list hq;exact Fc p.isList ⟨_,_,_,_,H1,rfl,I1.kept (t':=s1.toks) fun b o e=>Ae _ e,zrm a _,⟨_,Ay _ rfl,rfl,rfl⟩,fp,q⟩
  ·obtain⟨its, _, p, _⟩ := I1.tuple hq;exact Gq (show s1.heap.IsTuple a its.toArray from p) ⟨_,_,_,_,H1,rfl,I1.kept (t':=s1.toks) fun b o e=>Ae _ e,zqs a _,⟨_,Ay _ rfl,rfl,rfl⟩,fp,q⟩
end
noncomputable def zan (g:GE):GL:=fun en=>(g en).bind fun p=>(seqW p.2.1).bind fun ws=>some (p.1,ws)
noncomputable def zd1 (i:Int):Bool:=decide (-(2 ^ 62)<=i) && decide (i < 2 ^ 62)
noncomputable def ze5 (as:GAs):GL:=fun en=>(as en).bind fun p=>match za2 p.1 p.2 with
 | some [.int j]=>if zd1 j then some (p.1,rngW 0 j.toNat) else none
 | _=>none
noncomputable def z9n (as:GAs):GL:=fun en=>(as en).bind fun p=>match za2 p.1 p.2 with
 | some [.int i,.int j]=>if zd1 i && zd1 j then some (p.1,rngW i (j - i).toNat) else none
 | _=>none
noncomputable def gRev (g:GE):GL:=fun en=>(g en).bind fun p=>(seqL p.2.1).bind fun ws=>some (p.1,ws.reverse)
theorem zpz {i:Int}(h:zd1 i=true):-(2 ^ 62)<=i/\i < 2 ^ 62:=by
 unfold zd1 at h;rw[Ai] at h;exact⟨As h.1,As h.2⟩
section
variable {K:PySem.W.Frag}{σ:St}{H:Hp}
theorem zka {g:GE}{R:It->Hp->Prop} (h:tI K (zan g) σ H R):iSeq K (tE K g) σ H R:=by
  nofun;obtain⟨F,pr,en,en',ws,Re,h,q⟩:=h;obtain⟨⟨e1,rv⟩,h1,h⟩:=bS h;obtain⟨us,hs,h⟩:=bS h;ac_rfl;cases h;refine⟨F,pr,en,e1,rv,Re,h1,fun F1 H1 v s1 R1 z=>?_⟩;nofun;obtain⟨F2,s2,R2,y⟩:=z.freeze R1;obtain⟨w,fl⟩:=rv;ac_rfl;cases w with
  | lst xs=>obtain rfl:=sI hs;cases y with
    | lst y r=>exact⟨_,rfl,.inl ⟨⟨_,SqL.of' (R2.sub _ _ y)⟩,q F2 H1 _ (s1.trans s2) R2 (zoh (SqL.of' y) r)⟩⟩
  | frl xs=>obtain rfl:=sI hs;cases y with
    | frl y r=>exact⟨_,rfl,.inl ⟨⟨_,R2.sub.seq y⟩,q F2 H1 _ (s1.trans s2) R2 (zoh y r)⟩⟩
  | tup xs=>obtain rfl:=sI hs;cases y with
    | tup y r=>exact⟨_,rfl,.inr ⟨⟨_,.inl (.inl (R2.sub _ _ y))⟩,q F2 H1 _ (s1.trans s2) R2 (z8p (.inl (.inl y)) r)⟩⟩
  | _=>cases hs
theorem zu8 {as:GAs}{R:It->Hp->Prop} (h:tI K (ze5 as) σ H R):z58 (tAs K as) σ H R:=by
  nofun;obtain⟨F,pr,en,en',ws,Re,h,q⟩:=h;obtain⟨⟨e1,xs⟩,h1,h⟩:=bS h;ac_rfl;refine⟨F,pr,en,e1,xs,Re,h1,fun F1 H1 vs s1 R1 a1=>?_⟩;cases e:za2 e1 xs with
  | none=>simp only [e] at h;exact noSome h
  | some us =>
    have rr:=a1.repBs R1 e
    match us,e,rr with
    | [.int j],e,rr =>
      simp only [e] at h;split at h
      · rename_i z
        cases h;obtain⟨v,e1,hv⟩:=rr.one;subst e1;exact⟨j,by rw[hv.int],(zpz z).1,(zpz z).2,q F1 H1 _ s1 R1 (zwv 0 j.toNat)⟩
      · exact noSome h
    | [],e,_=>simp only [e] at h;exact noSome h
    | .non::_,e,_=>simp only [e] at h;exact noSome h
    | .bl _::_,e,_=>simp only [e] at h;exact noSome h
    | .str _::_,e,_=>simp only [e] at h;exact noSome h
    | .tup _::_,e,_=>simp only [e] at h;exact noSome h
    | .lst _::_,e,_=>simp only [e] at h;exact noSome h
    | .frl _::_,e,_=>simp only [e] at h;exact noSome h
    | .dic::_,e,_=>simp only [e] at h;exact noSome h
    | .dct _ _::_,e,_=>simp only [e] at h;exact noSome h
    | .int _::_::_,e,_=>simp only [e] at h;exact noSome h
theorem zly {F:Hp}{w:W}{ws:List W}{v:V} (y:Rep K F w v) (hs:seqL w=some ws):∃a vs,v=.ref a/\SqL K F a vs/\Reps K F ws vs:=by
  cases w with
  | lst xs=>obtain rfl:=sI hs;cases y with
    | lst y r=>exact⟨_,_,rfl,SqL.of' y,r⟩
  | frl xs=>obtain rfl:=sI hs;cases y with
    | frl y r=>exact⟨_,_,rfl,y,r⟩
  | _=>cases hs
theorem zzf {g:GE}{R:It->Hp->Prop}(h:tI K (gRev g) σ H R):iRev K (zfg (tE K g) tNil) σ H R:=by
 nofun;obtain⟨F,pr,en,en',ws,Re,h,q⟩:=h;obtain⟨⟨e1,rv⟩,h1,h⟩:=bS h;obtain⟨us,hs,h⟩:=bS h;ac_rfl;cases h;refine⟨F,pr,en,e1,rv,Re,h1,fun F1 H1 v s1 R1 z=>?_⟩;nofun;obtain⟨F2,s2,R2,y⟩:=z.freeze R1;obtain⟨a,vs,e,hq,r⟩:=zly y hs;ac_rfl;subst e;exact⟨a,vs,rfl,R2.sub.seq hq,q F2 H1 _ (s1.trans s2) R2 (z5w hq r)⟩
end
inductive Tg where
 | nm (i:Nat)
 | tp (is:List Nat)
noncomputable def setAll (mp:List Nat):List Nat->List W->En->Option En
 | [],[],en=>some en
 | i::is,w::ws,en=>if mp.contains i || !decide (i < en.length) then none else setAll mp is ws (en.set i (#v[w,6]))
 | _,_,_=>none
noncomputable def tgSet (mp:List Nat):Tg->W->En->Option En
 | .nm i,w,en=>if mp.contains i || !decide (i < en.length) then none else some (en.set i (#v[w,6]))
 | .tp is,.tup ws,en=>setAll mp is ws en
 | .tp is,.lst ws,en=>setAll mp is ws en
 | _,_,_=>none
noncomputable def zon:List Nat->TGs
 | []=>gNil
 | i::is=>z8i (zq5 i) (zon is)
noncomputable def z53 (K:PySem.W.Frag) (n:Nat) (t:TGs):TG:=fun v σ H Q=>∃a xs,v=.ref a/\(SqT K H a xs\/SqL K H a xs)/\xs.length=n/\t xs σ H Q
theorem z1k {X:Cx}{es:List Expr}{k:Nat}{t:TGs}{n:Nat}{pos:Pos}(hc:X.calm=true)(h:PGs X es t)(hn:(assignEach es X.env).length=n)(hst:(assignEach es X.env).findIdx? (·.1)=none):PG X (.Tuple es k pos) (z53 X.K n t):=by
 intro pins s σ H v u Q I r hw;nofun;obtain⟨a,xs,e1,hq,hl,hw⟩:=hw;ac_rfl;rcases hq with hq | hq
 ·exact z4n hc h hn hst pins s σ H v u Q I r ⟨a,xs,e1,hq,hl,hw⟩
 ·subst e1;cases r;nofun;obtain⟨its,rv,⟨o,m,q1,q2,_,q3⟩,hz⟩:=I.list hq;ac_rfl;rw[assign_Tuple];refine Ab (wpAny_standAt ?_);unfold unpack;have hs:(assignEach es X.env).length=its.toArray.size:=by rw[Au,hn,<-hl,rv.length]
  rw[hs,hst];refine Ab (Ej (PySem.W.kun_itemsOf (I.ok.hd hc) ⟨o,q1,q2,m,q3⟩ fun h' hx=>?_));have I1:Inv X pins σ H { s with heap:=h' }:=I.kept (t':=s.toks) fun b o e=>hx b o (Bi (Ar e)) e;exact h pins _ σ H xs _ Q I1 (by simpa using rv) hw
noncomputable def TGof (K:PySem.W.Frag):Tg->TG
 | .nm i=>zq5 i
 | .tp is=>z53 K is.length (zon is)
noncomputable def Keep (mp:List Nat) (σ σ' : St):Prop:=∀i∈mp,σ'[i]?=σ[i]?
theorem Keep.refl (mp:List Nat)(σ:St):Keep mp σ σ:=fun _ _=>rfl
theorem Keep.trans {mp:List Nat}{σ σ1 σ2:St}(a:Keep mp σ σ1)(b:Keep mp σ1 σ2):Keep mp σ σ2:=fun i h=>(b i h).trans (a i h)
theorem Keep.set {mp:List Nat}{σ:St}{i:Nat}(h:mp.contains i=false)(v:Option V):Keep mp σ (σ.set i v):=fun j hj=>by
 have:i≠j:=fun e=>by subst e;rw[Fu.mpr hj] at h;cases h
 exact Di this
section
variable {K:PySem.W.Frag}{F H:Hp}{pr:Prt}
theorem zd2 {mp:List Nat}{Q:St->Hp->Prop}:∀{is:List Nat}{ws:List W}{vs:List V}{en en' : En}{σ:St},Rel K F pr en σ H->Reps K F ws vs->setAll mp is ws en=some en'->(∀σ',Rel K F pr en' σ' H->Keep mp σ σ'->Q σ' H)->zon is vs σ H Q
  | [],[],_,en,en',σ,R,.nil,h,q=>by obtain rfl:=sI h;exact⟨rfl,q σ R (.refl _ _)⟩
  | i::is,w::ws,_,en,en',σ,R,.cons (v:=v) (vs:=vs) h0 r,h,q=>by
    unfold setAll at h;split at h
    · exact noSome h
    · rename_i z
      rw[Cn,not_or,Bm,Bm,Dr] at z;refine⟨v,vs,rfl,?_⟩;exact zd2 (R.store (r:=(w,false)) (i:=i) h0 (As z.2)) r h fun σ' R' k=>q σ' R' ((Keep.set z.1 _).trans k)
  | [],_::_,_,_,_,_,_,_,h,_=>by exact noSome h
  | _::_,[],_,_,_,_,_,_,h,_=>by exact noSome h
theorem zsg {mp:List Nat}{T:Tg}{w:W}{v:V}{en en' : En}{σ:St}{Q:St->Hp->Prop} (R:Rel K F pr en σ H) (h0:Rep K F w v) (h:tgSet mp T w en=some en') (q:∀σ',Rel K F pr en' σ' H->Keep mp σ σ'->Q σ' H):TGof K T v σ H Q:=by
  cases T with
  | nm i =>
    unfold tgSet at h;simp only at h;split at h
    · exact noSome h
    · rename_i z
      rw[Cn,not_or,Bm,Bm,Dr] at z;obtain rfl:=sI h;exact q _ (R.store (r:=(w,false)) h0 (As z.2)) (Keep.set z.1 _)
  | tp is =>
    have go:∀(is:List Nat) (ws:List W) (en en' : En),setAll mp is ws en=some en'->is.length=ws.length:=by
      intro is
      induction is with
      | nil=>intro ws en en' h;cases ws with
        | nil=>rfl
        | cons _ _=>exact noSome h
      | cons i is ih=>intro ws en en' h;cases ws with
        | nil=>exact noSome h
        | cons w ws =>
          unfold setAll at h;split at h
          · exact noSome h
          · exact congrArg (· + 1) (ih _ _ _ h)
    cases w with
    | tup ws =>
      cases h0 with
      | tup hf r =>
        exact⟨_,_,rfl,.inl (.inl (.inl (R.sub _ _ hf))),by rw[go is ws en en' h,r.length],zd2 R r h q⟩
    | lst ws =>
      cases h0 with
      | lst hf r =>
        exact⟨_,_,rfl,.inr (SqL.of' (R.sub _ _ hf)),by rw[go is ws en en' h,r.length],zd2 R r h q⟩
    | _=>exact noSome h
end
inductive Fl where
 | nx | ret (r:W × Bool) | brk | cnt
noncomputable abbrev GS:=En->Option (En × Fl)
noncomputable def zx2 (K:PySem.W.Frag) (mp:List Nat) (F:Hp) (pr:Prt) (σ:St) (D:Ends) (en' : En):Fl->Prop
 | .nx=>∀F' σ' H',Same F F'->Rel K F' pr en' σ' H'->Keep mp σ σ'->D.nx σ' H'
 | .brk=>∀F' σ' H',Same F F'->Rel K F' pr en' σ' H'->Keep mp σ σ'->D.bk σ' H'
 | .cnt=>∀F' σ' H',Same F F'->Rel K F' pr en' σ' H'->Keep mp σ σ'->D.ct σ' H'
 | .ret r=>∀F' σ' H' v,Same F F'->Rel K F' pr en' σ' H'->Keep mp σ σ'->Res K F' H' pr en' σ' r v->D.rt v H'
noncomputable def tS (K:PySem.W.Frag) (mp:List Nat) (g:GS):TS:=fun D σ H=>∃F pr en en' fl,Rel K F pr en σ H/\g en=some (en',fl)/\zx2 K mp F pr σ D en' fl
theorem zx2.step {K:PySem.W.Frag}{mp:List Nat}{F F1:Hp}{pr:Prt}{σ σ1:St}{D:Ends}{en' : En}{fl:Fl}(s:Same F F1)(k:Keep mp σ σ1)(h:zx2 K mp F pr σ D en' fl):zx2 K mp F1 pr σ1 D en' fl:=by
 cases fl with
 | nx=>exact fun F' σ' H' s' R' k'=>h F' σ' H' (s.trans s') R' (k.trans k')
 | brk=>exact fun F' σ' H' s' R' k'=>h F' σ' H' (s.trans s') R' (k.trans k')
 | cnt=>exact fun F' σ' H' s' R' k'=>h F' σ' H' (s.trans s') R' (k.trans k')
 | ret r=>exact fun F' σ' H' v s' R' k' z=>h F' σ' H' v (s.trans s') R' (k.trans k') z
noncomputable def zau:GS:=fun en=>some (en,.nx)
noncomputable def gBrk:GS:=fun en=>some (en,.brk)
noncomputable def gCnt:GS:=fun en=>some (en,.cnt)
noncomputable def gSeq (a b:GS):GS:=fun en=>match a en with
 | some (en',.nx)=>b en'
 | some (en',f)=>some (en',f)
 | none=>none
noncomputable def gRet (g:GE):GS:=fun en=>(g en).bind fun p=>some (p.1,.ret p.2)
noncomputable def z9i:GS:=fun en=>some (en,.ret (.non,false))
noncomputable def gIfS (c:GT) (a b:GS):GS:=fun en=>match c en with
 | #v[en',5]=>a en'
 | #v[en',6]=>b en'
 | none=>none
noncomputable def zed (g:GE):GS:=fun en=>(g en).bind fun p=>some (p.1,.nx)
noncomputable def gSet (mp:List Nat) (i:Nat) (g:GE):GS:=fun en=>(g en).bind fun p=>if mp.contains i || !decide (i < p.1.length) then none else some (p.1.set i (some p.2),.nx)
noncomputable def gAsg (mp:List Nat) (T:Tg) (g:GE):GS:=fun en=>(g en).bind fun p=>(tgSet mp T p.2.1 p.1).bind fun e=>some (e,.nx)
section
variable {K:PySem.W.Frag}{mp:List Nat}{D:Ends}{σ:St}{H:Hp}
theorem zj4 (h:tS K mp zau D σ H):z00 D σ H:=by
 obtain⟨F,pr,en,en',fl,R,h,q⟩:=h;cases h;exact q F σ H (.refl F) R (.refl _ _)
theorem zyp {a b:GS} (h:tS K mp (gSeq a b) D σ H):tSeq (tS K mp a) (tS K mp b) D σ H:=by
  nofun;obtain⟨F,pr,en,en',fl,R,h,q⟩:=h;ac_rfl;unfold gSeq at h;cases e:a en with
  | none=>simp only [e] at h;exact noSome h
  | some p =>
    obtain⟨e1,f1⟩:=p;refine⟨F,pr,en,e1,f1,R,e,?_⟩;cases f1 with
    | nx =>
      simp only [e] at h;exact fun F1 σ1 H1 s1 R1 k1=>⟨F1,pr,e1,en',fl,R1,h,q.step s1 k1⟩
    | brk=>simp only [e] at h;cases h;exact q
    | cnt=>simp only [e] at h;cases h;exact q
    | ret r=>simp only [e] at h;cases h;exact q
theorem zww {g:GE}(h:tS K mp (gRet g) D σ H):tRet (tE K g) D σ H:=by
 nofun;obtain⟨F,pr,en,en',fl,R,h,q⟩:=h;obtain⟨⟨e1,r⟩,h1,h⟩:=bS h;ac_rfl;cases h;exact⟨F,pr,en,e1,r,R,h1,fun F' H' v s' R' z=>q F' σ H' v s' R' (.refl _ _) z⟩
theorem zwe {c:GT}{a b:GS} (h:tS K mp (gIfS c a b) D σ H):tIfS (tT K c) (tS K mp a) (tS K mp b) D σ H:=by
  nofun;obtain⟨F,pr,en,en',fl,R,h,q⟩:=h;ac_rfl;unfold gIfS at h;cases e:c en with
  | none=>simp only [e] at h;exact noSome h
  | some p =>
    obtain⟨e1,d⟩:=p;refine⟨F,pr,en,e1,d,R,e,fun F1 H1 s1 R1=>?_⟩;cases d with
    | true=>simp only [e] at h;exact iteT ⟨F1,pr,e1,en',fl,R1,h,q.step s1 (.refl _ _)⟩
    | false=>simp only [e] at h;exact iteF ⟨F1,pr,e1,en',fl,R1,h,q.step s1 (.refl _ _)⟩
theorem zt2 {g:GE}(h:tS K mp (zed g) D σ H):z5a (tE K g) D σ H:=by
 nofun;obtain⟨F,pr,en,en',fl,R,h,q⟩:=h;obtain⟨⟨e1,r⟩,h1,h⟩:=bS h;ac_rfl;cases h;exact⟨F,pr,en,e1,r,R,h1,fun F' H' v s' R' z=>q F' σ H' s' R' (.refl _ _)⟩
theorem zi4 {i:Nat}{g:GE}(h:tS K mp (gSet mp i g) D σ H):tAsg (tE K g) (zq5 i) D σ H:=by
 nofun;obtain⟨F,pr,en,en',fl,R,h,q⟩:=h;obtain⟨⟨e1,r⟩,h1,h⟩:=bS h;ac_rfl;split at h
 ·exact noSome h
 ·rename_i z;rw[Cn,not_or,Bm,Bm,Dr] at z;cases h;exact⟨F,pr,en,e1,r,R,h1,fun F' H' v s' R' y=>q F' _ H' s' (R'.store y (As z.2)) (Keep.set z.1 _)⟩
noncomputable def gPar (mp:List Nat) (i j:Nat) (a b:GE):GS:=fun en=>(a en).bind fun p=>(b p.1).bind fun q=>if mp.contains i || mp.contains j || !decide (i < q.1.length) || !decide (j < q.1.length) then none else some ((q.1.set i (#v[p.2.1,6])).set j (some q.2),.nx)
noncomputable def zbb (i:Nat) (k:GE) (g:GE):GS:=fun en=>(g en).bind fun p=>match p.1[i]? with
  | some (some _)=>(k p.1).bind fun q=>match q.2,q.1[i]? with
    | (.int n,_),some (#v[ws,2])=>(ixN ws.length n).bind fun j=>some (q.1.set i (#v[(ws.set j p.2.1),2]),.nx)
    | _,_=>none
  | _=>none
theorem zqq {i:Nat}{k g:GE}(h:tS K mp (zbb i k g) D σ H):tAsg (tE K g) (gSub (tVar i) (tE K k) z4c) D σ H:=by
 obtain⟨F,pr,en,en',fl,R,h,q⟩:=h;obtain⟨⟨e1,r1⟩,h1,h⟩:=bS h;refine⟨F,pr,en,e1,r1,R,h1,fun F1 H1 v1 s1 R1 y1=>?_⟩;obtain⟨F2,s2,R2,x1⟩:=y1.freeze R1;split at h
 ·rename_i x0 hx0;obtain⟨⟨e2,r2⟩,h2,h⟩:=bS h;obtain⟨w0,f0⟩:=x0;obtain⟨v0,hv0⟩:=R2.has hx0;refine⟨v0,hv0,F2,pr,e1,e2,r2,R2,h2,fun F3 H3 v2 s3 R3 y2=>?_⟩;split at h
  ·rename_i n fl2 ws eq1 eq2;simp only at eq1;subst eq1;obtain⟨j,hj,h⟩:=bS h;cases h;obtain⟨a,vs,ws',q1,q2,q3,q4,q5⟩:=R3.ownL eq2;cases q1;rw[hv0] at q2;cases q2;refine⟨a,vs,n,j,rfl,y2.isInt,q3,by rw[<-q5.length];exact hj,?_⟩;exact q F3 σ _ (s1.trans (s2.trans s3)) (R3.change eq2 hv0 (q5.set (x1.mono s3) j)) (.refl _ _)
  ·exact noSome h
 ·exact noSome h
noncomputable def gApp (i:Nat) (g:GE):GE:=fun en=>match en[i]? with
  | some (some (.lst _,true))=>(g en).bind fun p=>match p.1[i]? with
    | some (#v[ws,2])=>if ws.length < sizeLine then some (p.1.set i (#v[(ws++[p.2.1]),2]),(.non,false)) else none
    | _=>none
  | _=>none
theorem zws {i:Nat}{g:GE}{Q:VK}(h:tE K (gApp i g) σ H Q):tBM K "list" zux (tVar i) (zfg (tE K g) tNil) σ H Q:=by
 nofun;obtain⟨F,pr,en,en',r,R,h,q⟩:=h;ac_rfl;unfold gApp at h;split at h
 ·rename_i w0 hx0;nofun;obtain⟨a,vs,ws0,q1,q2,q3,q4,q5⟩:=R.ownL hx0;obtain⟨⟨e1,r1⟩,h1,h⟩:=bS h;ac_rfl;refine⟨.ref a,q2,.inl ⟨rfl,vs,SqL.of' q3⟩,F,pr,en,e1,r1,R,h1,fun F1 H1 v1 s1 R1 y1=>?_⟩;nofun;obtain⟨F2,s2,R2,x1⟩:=y1.freeze R1;ac_rfl;split at h
  ·rename_i ws hx1;split at h
   ·rename_i hz;cases h;nofun;obtain⟨a',vs',ws',p1,p2,p3,p4,p5⟩:=R2.ownL hx1;ac_rfl;cases p1;rw[q2] at p2;cases p2;refine⟨a,vs',v1,rfl,rfl,p3,by rw[<-p5.length];exact hz,?_⟩;exact q F2 _ _ (s1.trans s2) (R2.change hx1 q2 (p5.append (.cons x1 .nil))) .non
   ·exact noSome h
  ·exact noSome h
 ·exact noSome h
noncomputable def gExt (i:Nat) (g:GE):GE:=fun en=>match en[i]? with
  | some (some (.lst _,true))=>(g en).bind fun p=>match p.2.1,p.1[i]? with
    | .lst us,some (#v[ws,2])=>if ws.length+us.length<=sizeLine then some (p.1.set i (#v[(ws++us),2]),(.non,false)) else none
    | _,_=>none
  | _=>none
noncomputable def gAug (mp:List Nat) (o:O2) (i:Nat) (g:GA):GS:=fun en=>match en[i]? with
 | some (#v[w,6])=>(g en).bind fun p=>(resA p.1 p.2).bind fun u=>(o w u).bind fun r=>if mp.contains i || !decide (i < p.1.length) then none else some (p.1.set i (some r),.nx)
 | _=>none
theorem zy3 {i:Nat}{o:O2}{r:R2}{g:GA}(ho:OpS K r o)(h:tS K mp (gAug mp o i g) D σ H):tAug i (tA K g) r D σ H:=by
 nofun;obtain⟨F,pr,en,en',fl,R,h,q⟩:=h;ac_rfl;unfold gAug at h;split at h
 ·rename_i w hx;nofun;obtain⟨v,hv,rw'⟩:=R.val i w hx;obtain⟨⟨e1,x1⟩,h1,h⟩:=bS h;obtain⟨u,hu,h⟩:=bS h;obtain⟨rv,hr,h⟩:=bS h;ac_rfl;split at h
  ·exact noSome h
  ·rename_i z;rw[Cn,not_or,Bm,Bm,Dr] at z;cases h;refine⟨v,hv,F,pr,en,e1,x1,R,h1,fun F1 H1 v1 s1 R1 a1=>?_⟩;refine ho F1 H1 w u v v1 rv _ R1.sub (.inl (rw'.mono s1)) (a1.repB R1 hu) hr fun v2 H2 o2=>?_;nofun;obtain⟨F3,s3,R3,y⟩:=o2.close R1;ac_rfl;exact q F3 _ H2 (s1.trans s3) (R3.store y (As z.2)) (Keep.set z.1 _)
 ·exact noSome h
noncomputable def zkd (mp:List Nat) (T:Tg) (body:GS):List W->En->Option (En × Fl)
  | [],en=>some (en,.nx)
  | w::ws,en=>(tgSet mp T w en).bind fun e1=>match body e1 with
    | some (e2,.nx)=>zkd mp T body ws e2
    | some (e2,.cnt)=>zkd mp T body ws e2
    | some (e2,.brk)=>some (e2,.nx)
    | some (e2,.ret r)=>some (e2,.ret r)
    | none=>none
noncomputable def gFor (mp:List Nat) (T:Tg) (it:GL) (body:GS):GS:=fun en=>(it en).bind fun p=>zkd mp T body p.2 p.1
theorem zzi {T:Tg}{it:GL}{body:GS} (h:tS K mp (gFor mp T it body) D σ H):tFor (tI K it) (TGof K T) (tS K mp body) D σ H:=by
  nofun;obtain⟨F,pr,en,en',fl,R,h,q⟩:=h;obtain⟨⟨e1,ws⟩,h1,h⟩:=bS h;ac_rfl;refine⟨F,pr,en,e1,ws,R,h1,fun F1 H1 J s1 R1 ok=>?_⟩;refine⟨fun i m σ' H'=>m=ws.length - i/\i<=ws.length/\∃F' e',Same F1 F'/\Rel K F' pr e' σ' H'/\Keep mp σ σ'/\zkd mp T body (ws.drop i) e'=some (en',fl),⟨_,rfl,Cb _,F1,e1,.refl _,R1,.refl _ _,by simpa using h⟩,?_⟩;rintro i m σ' H' ⟨rfl,hi,F',e',s',R',k',hl⟩;by_cases hlt:i < ws.length
  · refine .inr ⟨ok.go i H' (s'.trans R'.sub) hlt, ?_⟩
    have hd:ws.drop i=ws[i]::ws.drop (i+1):=(Bz hlt);rw[hd] at hl;obtain⟨e2,h2,hl⟩:=bS (show (tgSet mp T ws[i] e').bind _=_ from hl);refine⟨fun σ2 H2=>∃F2 e3,Same F1 F2/\Rel K F2 pr e3 σ2 H2/\Keep mp σ σ2/\zkd mp T body (ws.drop (i+1)) e3=some (en',fl),?_,?_⟩
    · rintro σ2 H2 ⟨F2, e3, s2, R2, k2, hl2⟩
      exact⟨ws.length - (i+1),by omega,rfl,hlt,F2,e3,s2,R2,k2,hl2⟩
    · intro x H2 y
      obtain⟨w,ew,out⟩:=ok.yld i H' x H2 (s'.trans R'.sub) hlt y;rw[Ac hlt] at ew;obtain rfl:=sI ew;nofun;obtain⟨F3,s3,R3,z⟩:=(out.mono s').close R';ac_rfl;refine zsg (w:=ws[i]) R3 z h2 fun σ3 R4 k4=>?_;cases eb:body e2 with
      | none=>simp only [eb] at hl;exact noSome hl
      | some p =>
        obtain⟨e5,f5⟩:=p;refine⟨F3,pr,e2,e5,f5,R4,eb,?_⟩;have sF:Same F1 F3:=s'.trans s3;cases f5 with
        | nx =>
          simp only [eb] at hl;exact fun F6 σ6 H6 s6 R6 k6=>⟨F6,e5,sF.trans s6,R6,(k'.trans k4).trans k6,hl⟩
        | cnt =>
          simp only [eb] at hl;exact fun F6 σ6 H6 s6 R6 k6=>⟨F6,e5,sF.trans s6,R6,(k'.trans k4).trans k6,hl⟩
        | brk =>
          simp only [eb] at hl;cases hl;exact fun F6 σ6 H6 s6 R6 k6=>q F6 σ6 H6 (s1.trans (sF.trans s6)) R6 ((k'.trans k4).trans k6)
        | ret r =>
          simp only [eb] at hl;cases hl;exact fun F6 σ6 H6 v s6 R6 k6 z=>q F6 σ6 H6 v (s1.trans (sF.trans s6)) R6 ((k'.trans k4).trans k6) z
  · have e : i = ws.length := by omega
    subst e;rw[List.drop_length] at hl;cases hl;exact .inl ⟨ok.stop H' (s'.trans R'.sub),q F' σ' H' (s1.trans s') R' k'⟩
end
section
variable {X:Cx}
end
section
variable {K:PySem.W.Frag}{σ:St}{H:Hp}
noncomputable def intW:W->Option Int
 | .int k=>some k
 | _=>none
end
noncomputable abbrev Cap:=List (Option Nat)
noncomputable def zfr (cap:Cap) (en:En):En:=cap.map fun o=>match o with
 | some i=>(en[i]?).getD none
 | none=>none
noncomputable def zav (cap:Cap) (i:Nat):Option Nat:=cap.findIdx? (· == some i)
noncomputable def zcs (cap:Cap):Bool:=(List.range cap.length).all fun j=>match cap[j]? with
 | some (some i)=>zav cap i == some j
 | _=>true
noncomputable def capKeep (cap:Cap):List Nat:=(List.range cap.length).filter fun j=>match cap[j]? with
 | some (some _)=>true
 | _=>false
noncomputable def za8 (cap:Cap) (en ce:En):En:=en.mapIdx fun i x=>match zav cap i with
 | some j=>(ce[j]?).getD none
 | none=>x
theorem zbh {cap:Cap}{i j:Nat}(h:zav cap i=some j):cap[j]?=some (some i):=by
 unfold zav at h;obtain⟨hl,h1,_⟩:=List.findIdx?_eq_some_iff_getElem.mp h;rw[Ac hl];have:cap[j]=some i:=by simpa using h1
 rw[this]
theorem zc3 {cap:Cap}{i:Nat}(h:zav cap i=none)(j:Nat):cap[j]?≠some (some i):=fun e=>by
 unfold zav at h;have:=List.findIdx?_eq_none_iff.mp h (some i) (At e);simp at this
theorem zfn {cap:Cap}(h:zcs cap=true){i j:Nat}(e:cap[j]?=some (some i)):zav cap i=some j:=by
 unfold zcs at h;have hj:j < cap.length:=(An.mp e).1;have:=Bg.mp h j (Bj.mpr hj);simp only [e] at this;simpa using this
theorem znn {cap:Cap}{i j:Nat}(e:cap[j]?=some (some i)):j∈capKeep cap:=by
 unfold capKeep;exact Ca.mpr ⟨Bj.mpr (An.mp e).1,by simp only [e]⟩
theorem zde {cap:Cap}{en:En}{j:Nat}{x:W × Bool} (h:(zfr cap en)[j]?=some (some x)):∃i,cap[j]?=some (some i)/\en[i]?=some (some x):=by
  unfold zfr at h;rw[Am] at h;cases e:cap[j]? with
  | none=>rw[e] at h;exact noSome h
  | some o =>
    rw[e] at h;cases o with
    | none=>cases h
    | some i =>
      refine⟨i,rfl,?_⟩;have h' : (en[i]?).getD none=some x:=sI h;cases e2:en[i]? with
      | none=>rw[e2] at h';exact noSome h'
      | some z=>rw[e2] at h';exact congrArg some h'
theorem zph {cap:Cap}{σ:St}{i j:Nat}(h:cap[j]?=some (some i)):(capSt cap σ)[j]?=some ((σ[i]?).getD none):=by
 unfold capSt;rw[Am,h]
 rfl
theorem ze2 {cap:Cap}{σ:St}{i j:Nat}{v:V}(h:cap[j]?=some (some i))(hv:σ[i]?=some (some v)):(capSt cap σ)[j]?=some (some v):=by
 rw[zph h,hv];rfl
theorem backEn_get {cap:Cap}{en ce:En}{i:Nat}{x:W × Bool} (h:(za8 cap en ce)[i]?=some (some x)):(∃j,zav cap i=some j/\ce[j]?=some (some x))\/(zav cap i=none/\en[i]?=some (some x)):=by
  unfold za8 at h;rw[List.getElem?_mapIdx] at h;cases e:en[i]? with
  | none=>rw[e] at h;exact noSome h
  | some o =>
    rw[e] at h;cases c:zav cap i with
    | none=>simp only [c,Fy] at h;exact .inr ⟨rfl,h⟩
    | some j =>
      simp only [c,Fy] at h;have h' : (ce[j]?).getD none=some x:=sI h;refine .inl ⟨j,rfl,?_⟩;cases e2:ce[j]? with
      | none=>rw[e2] at h';exact noSome h'
      | some z=>rw[e2] at h';exact congrArg some h'
noncomputable def zce (pr:Prt) (cap:Cap) (en:En) (σ:St) (H:Hp):Prt:=fun b o=>pr b o\/∃(j:Nat) (w:W),en[j]?=some (#v[w,5])/\zav cap j=none/\σ[j]?=some (some (V.ref b))/\H b=some o
noncomputable def zhk (pb:Prt) (acc:Addr) (vs:List V):Prt:=fun b o=>pb b o\/(b=acc/\o=.lst vs)
section
variable {K:PySem.W.Frag}{F H:Hp}{pr pb:Prt}{en:En}{σ:St}
theorem Rel.ownT (R:Rel K F pr en σ H){j:Nat}{w:W}{b:Addr}{ps:Array Value}(e:en[j]?=some (#v[w,5]))(s:σ[j]?=some (some (V.ref b))):H b≠some (.tbl ps):=fun z=>by
 obtain⟨a,o,w',_,h2,h3,_,h5⟩:=R.own j w e;rw[s] at h2;cases h2;rw[z] at h3;obtain rfl:=sI h3;cases h5
theorem zh8 {cap:Cap}{b:Addr}{ps:Array Value}(R:Rel K F pr en σ H)(e:H b=some (.tbl ps))(hh:∀o,¬ pr b o):∀o,¬ zce pr cap en σ H b o:=fun o z=>by
 rcases z with z | ⟨j,w,q1,_,q2,_⟩
 ·exact hh o z
 ·exact R.ownT q1 q2 e
theorem Rel.accUpd {acc:Addr}{vs us:List V}(R:Rel K F (zhk pb acc vs) en σ H)(hb:∀b o,pb b o->b≠acc):Rel K F (zhk pb acc us) en σ (upd H acc (.lst us)):=by
 obtain⟨a1,a2,a3⟩:=R.prt acc (.lst vs) (.inr ⟨rfl,rfl⟩);have nt:∀b ps,H b=some (.tbl ps)->b≠acc:=fun b ps e z=>by subst z;rw[a1] at e;cases e
 have nx:∀b φ,H b=some (.ext φ)->b≠acc:=fun b φ e z=>by subst z;rw[a1] at e;cases e
 refine⟨R.len,fun b o e=>?_,R.val,fun i w e=>?_,R.inj,fun b o q=>?_,R.tb.go (fun b ps e f=>⟨by rw[upd_ne (nt b ps e)];exact e,f⟩) (.refl F) fun b ps e hh o z=>z.elim (fun z=>hh o (.inl z)) fun z=>nt b ps e z.1⟩
 ·have : b ≠ acc := fun z => by subst z; rw[a2] at e; exact noSome e
  rw[upd_ne this];exact R.sub _ _ e
 ·refine aG fun Gg qG => ?_;obtain⟨a,vs',ws,h1,h2,h3,h4,h5⟩:=R.own i w e;ac_rfl;have:a≠acc:=fun z=>by subst z;exact a3 i w e h2
  exact⟨a,vs',ws,h1,h2,by rw[upd_ne this];exact h3,h4,h5⟩
 ·rcases q with q | ⟨rfl, rfl⟩
  ·obtain⟨b1, b2, b3⟩ := R.prt b o (.inl q);exact⟨by rw[upd_ne (hb b o q)];exact b1,b2,b3⟩
  ·exact⟨upd_same,a2,a3⟩
theorem ztn {cap:Cap}{acc:Addr}(R:Rel K F pr en σ H)(hn:H acc=none):∀b o,zce pr cap en σ H b o->b≠acc:=fun b o q=>by
 rcases q with q | ⟨j,w,_,_,_,q⟩
 ·exact zah (R.prt b o q).1 hn
 ·exact zah q hn
theorem Rel.block {cap:Cap}{acc:Addr}(R:Rel K F pr en σ H)(hn:H acc=none)(nd:zcs cap=true):Rel K F (zhk (zce pr cap en σ H) acc []) (zfr cap en) (capSt cap σ) (upd H acc (.lst [])):=by
 have fa:F acc=none:=R.sub.free hn;have R2:=R.lay hn (.lst []);refine⟨by unfold zfr capSt;rw[Aa,Aa],R2.sub,fun j w e=>?_,fun j w e=>?_,fun j l a w w' e1 e2 q1 q2=>?_,fun b o q=>?_,R.tb.go (fun b ps e f=>⟨by rw[upd_ne (zah e hn)];exact e,f⟩) (.refl F) fun b ps e hh o z=>z.elim (zh8 R e hh o) fun z=>zah e hn z.1⟩
 ·refine aG fun Gg qG => ?_;obtain⟨i,c,e⟩:=zde e;obtain⟨v,h1,h2⟩:=R.val i w e;ac_rfl;exact⟨v,ze2 c h1,h2⟩
 ·refine aG fun Gg qG => ?_;obtain⟨i,c,e⟩:=zde e;obtain⟨a,vs,ws,h1,h2,h3,h4,h5⟩:=R2.own i w e;ac_rfl;exact⟨a,vs,ws,h1,ze2 c h2,h3,h4,h5⟩
 ·refine aG fun Gg qG => ?_;obtain⟨i,c1,e1⟩:=zde e1;obtain⟨k,c2,e2⟩:=zde e2;obtain⟨i',c1',q1⟩:=capSt_get q1;obtain⟨k',c2',q2⟩:=capSt_get q2;ac_rfl;rw[c1] at c1';cases c1';rw[c2] at c2';cases c2';have:=R.inj i k a _ _ e1 e2 q1 q2;subst this;have x:=zfn nd c1;rw[zfn nd c2] at x;exact (sI x).symm
 ·have own2:∀(j:Nat) (w:W),(zfr cap en)[j]?=some (some (w,true))->∃(i:Nat) (a:Addr),cap[j]?=some (some i)/\en[i]?=some (some (w,true))/\σ[i]?=some (some (V.ref a))/\(capSt cap σ)[j]?=some (some (V.ref a))/\∃o,H a=some o:=fun j w e=>by
   nofun;obtain⟨i,c,e⟩:=zde e;obtain⟨a,vs,ws,h1,h2,h3,h4,h5⟩:=R.own i w e;ac_rfl;exact⟨i,a,c,e,h2,ze2 c h2,_,h3⟩
  rcases q with (q | ⟨j0,w0,e0,c0,s0,h0⟩) | ⟨rfl,rfl⟩
  ·obtain⟨b1, b2, b3⟩ := R2.prt b o q;refine⟨b1,b2,fun j w e=>?_⟩;nofun;obtain⟨i,a,_,e,h2,h3,_⟩:=own2 j w e;ac_rfl;rw[h3];intro z;cases z;exact b3 i w e h2
  ·refine aG fun Gg qG => ?_;obtain⟨a,vs,ws,h1,h2,h3,h4,h5⟩:=R.own j0 w0 e0;ac_rfl;rw[s0] at h2;cases h2;refine⟨by rw[upd_ne (zah h0 hn)];exact h0,h4,fun j w e=>?_⟩;nofun;obtain⟨i,a,c,e,h2,h3,_⟩:=own2 j w e;ac_rfl;rw[h3];intro z;cases z;have:=R.inj i j0 _ _ _ e e0 h2 s0;subst this;exact zc3 c0 j c
  ·refine⟨upd_same, fa, fun j w e => ?_⟩;nofun;obtain⟨i,a,c,e,h2,h3,o,h4⟩:=own2 j w e;ac_rfl;rw[h3];intro z;cases z;rw[hn] at h4;exact noSome h4
theorem Rel.unblock {cap:Cap}{acc:Addr}{F' H' : Hp}{ce:En}{σc:St}{vs:List V}{ws:List W} (R:Rel K F pr en σ H) (hn:H acc=none) (s:Same F F') (Rc:Rel K F' (zhk (zce pr cap en σ H) acc vs) ce σc H') (kp:Keep (capKeep cap) (capSt cap σ) σc) (rs:Reps K F' ws vs) :
  Rel K F' pr (za8 cap en ce) σ H'/\Res K F' H' pr (za8 cap en ce) σ (.lst ws,true) (.ref acc):=by
 have slot:∀(i j:Nat) (v:V),zav cap i=some j->σc[j]?=some (some v)->σ[i]?=some (some v):=fun i j v c e=>by
  have c':=zbh c;rw[kp j (znn c'),zph c'] at e;have e' : (σ[i]?).getD none=some v:=sI e;cases q:σ[i]? with
  | none=>rw[q] at e';exact noSome e'
  | some z=>rw[q] at e';exact congrArg some e'
 obtain⟨a1,a2,a3⟩:=Rc.prt acc (.lst vs) (.inr ⟨rfl,rfl⟩);have un:∀(i:Nat) (w:W),zav cap i=none->en[i]?=some (#v[w,5])->∃(a:Addr) (vs:HO) (ws:W),w=ws/\σ[i]?=some (some (V.ref a))/\H a=some vs/\H' a=some vs/\F' a=none/\OwnR K F ws vs/\∀(j:Nat) (w' : W),ce[j]?=some (#v[w',5])->σc[j]?≠some (some (V.ref a)):=fun i w c e=>by
  nofun;obtain⟨a,vs,ws,h1,h2,h3,h4,h5⟩:=R.own i w e;obtain⟨b1,b2,b3⟩:=Rc.prt a vs (.inl (.inr ⟨i,w,e,c,h2,h3⟩));ac_rfl;exact⟨a,vs,ws,h1,h2,h3,b1,b2,h5,b3⟩
 have capt:∀(i j:Nat) (w:W),zav cap i=some j->ce[j]?=some (#v[w,5])->∃(a:Addr) (vs:HO) (ws:W),w=ws/\σ[i]?=some (some (V.ref a))/\σc[j]?=some (some (V.ref a))/\H' a=some vs/\F' a=none/\OwnR K F' ws vs:=fun i j w c e=>by
  nofun;obtain⟨a,vs,ws,h1,h2,h3,h4,h5⟩:=Rc.own j w e;ac_rfl;exact⟨a,vs,ws,h1,slot i j _ c h2,h2,h3,h4,h5⟩
 refine⟨⟨by unfold za8;rw[List.length_mapIdx];exact R.len,Rc.sub,fun i w e=>?_,fun i w e=>?_,fun i k a w w' e1 e2 q1 q2=>?_,fun b o q=>?_,Rc.tb.go (fun b ps e f=>⟨e,f⟩) (.refl F') fun b ps e hh o z=>hh o (.inl (.inl z))⟩,acc,_,_,rfl,rfl,a1,a2,.lst rs,fun i w e=>?_,fun b o q=>zah (R.prt b o q).1 hn⟩
 ·rcases backEn_get e with ⟨j, c, e⟩ | ⟨c, e⟩
  ·obtain⟨v, h1, h2⟩ := Rc.val j w e;exact⟨v,slot i j v c h1,h2⟩
  ·obtain⟨v, h1, h2⟩ := R.val i w e;exact⟨v,h1,h2.mono s⟩
 ·rcases backEn_get e with ⟨j, c, e⟩ | ⟨c, e⟩
  ·refine aG fun Gg qG => ?_;obtain⟨a,vs,ws,h1,h2,_,h3,h4,h5⟩:=capt i j w c e;ac_rfl;exact⟨a,vs,ws,h1,h2,h3,h4,h5⟩
  ·refine aG fun Gg qG => ?_;obtain⟨a,vs,ws,h1,h2,_,h3,h4,h5,_⟩:=un i w c e;ac_rfl;exact⟨a,vs,ws,h1,h2,h3,h4,h5.mono s⟩
 ·rcases backEn_get e1 with ⟨j, c, e1⟩ | ⟨c, e1⟩
  ·refine aG fun Gg qG => ?_;obtain⟨a',_,_,_,h2,h3,_⟩:=capt i j w c e1;ac_rfl;rw[q1] at h2;cases h2;rcases backEn_get e2 with ⟨l,c2,e2⟩ | ⟨c2,e2⟩
   ·refine aG fun Gg qG => ?_;obtain⟨a',_,_,_,g2,g3,_⟩:=capt k l w' c2 e2;ac_rfl;rw[q2] at g2;cases g2;have:=Rc.inj j l a _ _ e1 e2 h3 g3;subst this;have x:=zbh c;rw[zbh c2] at x;cases x;rfl
   ·refine aG fun Gg qG => ?_;obtain⟨a',_,_,_,g2,_,_,_,_,g3⟩:=un k w' c2 e2;ac_rfl;rw[q2] at g2;cases g2;exact absurd h3 (g3 j w e1)
  ·refine aG fun Gg qG => ?_;obtain⟨a',_,_,_,h2,_,_,_,_,h3⟩:=un i w c e1;ac_rfl;rw[q1] at h2;cases h2;rcases backEn_get e2 with ⟨l,c2,e2⟩ | ⟨c2,e2⟩
   ·refine aG fun Gg qG => ?_;obtain⟨a',_,_,_,g2,g3,_⟩:=capt k l w' c2 e2;ac_rfl;rw[q2] at g2;cases g2;exact absurd g3 (h3 l w' e2)
   ·exact R.inj i k a _ _ e1 e2 q1 q2
 ·obtain⟨b1, b2, b3⟩ := Rc.prt b o (.inl (.inl q));refine⟨b1,b2,fun i w e=>?_⟩;rcases backEn_get e with ⟨j,c,e⟩ | ⟨c,e⟩
  ·refine aG fun Gg qG => ?_;obtain⟨a,_,_,_,h2,h3,_⟩:=capt i j w c e;ac_rfl;rw[h2];intro z;cases z;exact b3 j w e h3
  ·exact (R.prt b o q).2.2 i w e
 ·rcases backEn_get e with ⟨j, c, e⟩ | ⟨c, e⟩
  ·refine aG fun Gg qG => ?_;obtain⟨a,_,_,_,h2,h3,_⟩:=capt i j w c e;ac_rfl;rw[h2];intro z;cases z;exact a3 j w e h3
  ·refine aG fun Gg qG => ?_;obtain⟨a,_,_,_,h2,h3,_⟩:=un i w c e;ac_rfl;rw[h2];intro z;cases z;rw[hn] at h3;exact noSome h3
end
noncomputable def zg4 (mp:List Nat) (T:Tg) (tc:GT) (te:GE):List W->En->Option (En × List W)
  | [],ce=>some (ce,[])
  | w::ws,ce=>(tgSet mp T w ce).bind fun c1=>match tc c1 with
    | #v[c2,5]=>(te c2).bind fun p=>(zg4 mp T tc te ws p.1).bind fun q=>some (q.1,p.2.1::q.2)
    | #v[c2,6]=>zg4 mp T tc te ws c2
    | none=>none
noncomputable def zbf (cap:Cap) (T:Tg) (it:GL) (tc:GT) (te:GE):GE:=fun en=>(it en).bind fun p=>if zcs cap && decide (p.2.length<=sizeLine) then (zg4 (capKeep cap) T tc te p.2 (zfr cap p.1)).bind fun q=>some (za8 cap p.1 q.1,(.lst q.2,true)) else none
noncomputable def gYes:GT:=fun en=>#v[en,5]
noncomputable def zex (mp:List Nat) (T:Tg) (tc:GT) (em:GL):List W->En->Option (En × List W)
  | [],ce=>some (ce,[])
  | w::ws,ce=>(tgSet mp T w ce).bind fun c1=>match tc c1 with
    | #v[c2,5]=>(em c2).bind fun p=>(zex mp T tc em ws p.1).bind fun q=>some (q.1,p.2++q.2)
    | #v[c2,6]=>zex mp T tc em ws c2
    | none=>none
noncomputable def gOne (te:GE):GL:=fun en=>(te en).bind fun p=>some (p.1,[p.2.1])
noncomputable def z0a (cap:Cap) (T:Tg) (it:GL) (tc:GT) (em:GL):GE:=fun en=>(it en).bind fun p=>if zcs cap then (zex (capKeep cap) T tc em p.2 (zfr cap p.1)).bind fun q=>if q.2.length<=sizeLine then some (za8 cap p.1 q.1,(.lst q.2,true)) else none else none
theorem zfu {mp:List Nat}{T:Tg}{tc:GT}{te:GE}:∀{ws:List W}{ce ce' : En}{out:List W},zg4 mp T tc te ws ce=some (ce',out)->zex mp T tc (gOne te) ws ce=some (ce',out)/\out.length<=ws.length
  | [],_,_,_,h=>by cases h;exact⟨rfl,Ag _⟩
  | w::ws,ce,ce',out,h=>by
    obtain ⟨c1,h1,h⟩:=bS (show (tgSet mp T w ce).bind _=_ from h);have e:zex mp T tc (gOne te) (w::ws) ce=match tc c1 with
      | #v[c2,5]=>(gOne te c2).bind fun p=>(zex mp T tc (gOne te) ws p.1).bind fun q=>some (q.1,p.2++q.2)
      | #v[c2,6]=>zex mp T tc (gOne te) ws c2
      | none=>none:=by rw[zex,h1];rfl
    rw[e];cases et:tc c1 with
    | none=>simp only [et] at h;exact noSome h
    | some p =>
      obtain⟨c2,b⟩:=p;cases b with
      | false=>simp only [et] at h;exact⟨(zfu h).1,Nat.le_succ_of_le (zfu h).2⟩
      | true =>
        simp only [et] at h;obtain⟨⟨c3,rv⟩,h5,h⟩:=bS h;obtain⟨⟨c4,rest⟩,h6,h⟩:=bS h;cases h;refine⟨?_,Nat.succ_le_succ (zfu h6).2⟩;show (gOne te c2).bind _=_;rw[gOne,h5];show (zex mp T tc (gOne te) ws c3).bind _=_;rw[(zfu h6).1]
        rfl
noncomputable def MOk (K:PySem.W.Frag) (mp:List Nat) (pb:Prt) (acc:Addr) (em:GL) (tm:TM):Prop:=∀(F:Hp) (ce:En) (σ:St) (H:Hp) (vs:List V) (ce' : En) (out:List W) (N:St->Hp->Prop),Rel K F (zhk pb acc vs) ce σ H->em ce=some (ce',out)->vs.length+out.length<=sizeLine ->
 (∀F' σ' H' us,Same F F'->Rel K F' (zhk pb acc (vs++us)) ce' σ' H'->Keep mp σ σ'->Reps K F' out us->N σ' H')->tm σ H N
section
variable {K:PySem.W.Frag}{mp:List Nat}{pb:Prt}{acc:Addr}
theorem yag {te:GE}(hb:∀b o,pb b o->b≠acc):MOk K mp pb acc (gOne te) (zy2 acc (tE K te)):=by
 intro F ce σ H vs ce' out N R h hz q;nofun;obtain⟨⟨c3,rv⟩,h5,h⟩:=bS h;ac_rfl;cases h;refine⟨F,_,ce,c3,rv,R,h5,fun F6 H6 v s6 R6 y6=>?_⟩;nofun;obtain⟨F7,s7,R7,y7⟩:=y6.freeze R6;obtain⟨a1,_,_⟩:=R7.prt acc (.lst vs) (.inr ⟨rfl,rfl⟩);ac_rfl;exact⟨vs,a1,hz,q F7 σ _ [v] (s6.trans s7) (R7.accUpd hb) (.refl _ _) (.cons y7 .nil)⟩
theorem z3b {em:GL}{tm:TM}{T:Tg}{tc:GT}{F1:Hp}{vs0:List V}{ce0 ce' : En}{σ0:St}{H0:Hp}{J:It}{ws out:List W}{N0:St->Hp->Prop} (M:MOk K mp pb acc em tm) (R:Rel K F1 (zhk pb acc vs0) ce0 σ0 H0) (ok:ItOk K F1 J ws) (h:zex mp T tc em ws ce0=some (ce',out)) (hz:vs0.length+out.length<=sizeLine)
    (q:∀F' σ' H' us,Same F1 F'->Rel K F' (zhk pb acc (vs0++us)) ce' σ' H'->Keep mp σ0 σ'->Reps K F' out us->N0 σ' H'):zox J (TGof K T) (tT K tc) tm σ0 H0 N0:=by
  refine ⟨fun i m σc Hc=>m=ws.length - i/\i<=ws.length/\∃F' ce dn us rest,Same F1 F'/\Rel K F' (zhk pb acc (vs0++us)) ce σc Hc/\Keep mp σ0 σc/\Reps K F' dn us/\zex mp T tc em (ws.drop i) ce=some (ce',rest)/\dn++rest=out,
    ⟨_,rfl,Cb _,F1,ce0,[],[],out,.refl _,by rw[Bt];exact R,.refl _ _,.nil,h,rfl⟩,?_⟩
  rintro i m σc Hc ⟨rfl,hi,F',ce,dn,us,rest,s',R',k',rd,hl,ho⟩;by_cases hlt:i < ws.length
  · refine .inr ⟨ok.go i Hc (s'.trans R'.sub) hlt, ?_⟩
    have hd:ws.drop i=ws[i]::ws.drop (i+1):=(Bz hlt);rw[hd] at hl;obtain⟨c1,h3,hl⟩:=bS (show (tgSet mp T ws[i] ce).bind _=_ from hl);refine⟨fun σ2 H2=>∃F' ce dn us rest,Same F1 F'/\Rel K F' (zhk pb acc (vs0++us)) ce σ2 H2/\Keep mp σ0 σ2/\Reps K F' dn us/\zex mp T tc em (ws.drop (i+1)) ce=some (ce',rest)/\dn++rest=out,fun σ2 H2 z=>⟨ws.length - (i+1),by omega,rfl,hlt,z⟩,?_⟩;intro x H2 y;obtain⟨w,ew,o⟩:=ok.yld i Hc x H2 (s'.trans R'.sub) hlt y;rw[Ac hlt] at ew;obtain rfl:=sI ew;nofun;obtain⟨F3,s3,R3,z3⟩:=(o.mono s').close R';ac_rfl;refine zsg (w:=ws[i]) R3 z3 h3 fun σ3 R4 k4=>?_;cases et:tc c1 with
    | none=>simp only [et] at hl;exact noSome hl
    | some p =>
      obtain⟨c2,b⟩:=p;refine⟨F3,_,c1,c2,b,R4,et,fun F5 H5 s5 R5=>?_⟩;cases b with
      | false =>
        simp only [et] at hl;exact iteF ⟨F5,c2,dn,us,rest,s'.trans (s3.trans s5),R5,k'.trans k4,rd.mono (s3.trans s5),hl,ho⟩
      | true =>
        simp only [et] at hl;nofun;obtain⟨⟨c3,o1⟩,h5,hl⟩:=bS hl;obtain⟨⟨c4,rest'⟩,h6,hl⟩:=bS hl;ac_rfl;cases hl;refine iteT (M F5 c2 σ3 H5 (vs0++us) c3 o1 _ R5 h5 ?_ fun F6 σ6 H6 us2 s6 R6 k6 r6=>?_)
        · dsimp only at ho
          rw[<-ho,Bf,Bf,rd.length] at hz;rw[Bf];omega
        · have sAll : Same F' F6 := s3.trans (s5.trans s6)
          exact⟨F6,c3,dn++o1,us++us2,rest',s'.trans sAll,by rw[<-Bc];exact R6,k'.trans (k4.trans k6),(rd.mono sAll).append r6,h6,by rw[Bc];exact ho⟩
  · have e : i = ws.length := by omega
    subst e;rw[List.drop_length] at hl;cases hl;rw[Bt] at ho;subst ho;exact .inl ⟨ok.stop Hc (s'.trans R'.sub),q F' σc Hc us s' R' k' rd⟩
end
theorem zq0 {K:PySem.W.Frag}{cap:Cap}{T:Tg}{it:GL}{tc:GT}{em:GL}{tm:Addr->TM}{σ:St}{H:Hp}{Q:VK}(M:∀(pb:Prt) (acc:Addr),(∀b o,pb b o->b≠acc)->MOk K (capKeep cap) pb acc em (tm acc))(h:tE K (z0a cap T it tc em) σ H Q):zsf (tI K it) cap (TGof K T) (tT K tc) tm σ H Q:=by
 nofun;obtain⟨F,pr,en,en',r,R,h,q⟩:=h;obtain⟨⟨e1,ws⟩,h1,h⟩:=bS h;ac_rfl;refine⟨F,pr,en,e1,ws,R,h1,fun F1 H1 J s1 R1 ok acc hacc=>?_⟩;split at h
 ·rename_i nd;nofun;obtain⟨⟨ce',out⟩,h2,h⟩:=bS h;ac_rfl;split at h
  ·rename_i hz;cases h;refine z3b (M _ acc (ztn (cap:=cap) R1 hacc)) (R1.block hacc nd) ok h2 (by rw[List.length_nil,Co];exact hz) fun F' σ' H' us s' R' k' rd=>?_;obtain⟨Ro,rz⟩:=R1.unblock hacc s' R' k' rd;exact q F' H' _ (s1.trans s') Ro rz
  ·exact noSome h
 ·exact noSome h
theorem zvb {K:PySem.W.Frag}{cap:Cap}{T:Tg}{it:GL}{tc:GT}{te:GE}{σ:St}{H:Hp}{Q:VK}(h:tE K (zbf cap T it tc te) σ H Q):zsf (tI K it) cap (TGof K T) (tT K tc) (fun acc=>zy2 acc (tE K te)) σ H Q:=by
 refine zq0 (fun pb acc hb=>yag hb) ?_;obtain⟨F,pr,en,en',r,R,h,q⟩:=h;refine⟨F,pr,en,en',r,R,?_,q⟩;nofun;obtain⟨⟨e1,ws⟩,h1,h⟩:=bS h;ac_rfl;split at h
 ·rename_i z;rw[Ai] at z;nofun;obtain⟨⟨ce',out⟩,h2,h⟩:=bS h;ac_rfl;obtain⟨h3,h4⟩:=zfu h2;rw[z0a,h1];show (if zcs cap=true then (zex (capKeep cap) T tc (gOne te) ws (zfr cap e1)).bind _ else none)=_;rw[if_pos z.1,h3];show (if out.length<=sizeLine then _ else none)=_;rw[if_pos (Cy h4 (As z.2))];exact h
 ·exact noSome h
noncomputable def z9r:GE:=fun en=>some (en,(.dic,false))
noncomputable def keyW:W->Bool
 | .int _=>true
 | .str _=>true
 | _=>false
noncomputable def z9z (k v:GE):GE:=fun en=>(k en).bind fun p=>if keyW p.2.1 then (v p.1).bind fun q=>some (q.1,(.dic,false)) else none
noncomputable def Src (h:Heap) (it l:Addr) (k:Nat) (xs:Array Value):Prop:=(h.IsListIter it l k/\h.IsList l xs)\/(h.IsTupleIter it l k/\h.IsTuple l xs)
theorem Src.at {h h' : Heap}{it l:Addr}{k:Nat}{xs:Array Value}(c:Src h it l k xs)(a:∀o,h.get? it=some o->h'.get? it=some o)(b:∀o,h.get? l=some o->h'.get? l=some o):Src h' it l k xs:=by
 rcases c with ⟨p,q⟩ | ⟨p,q⟩
 ·exact .inl ⟨p.at a,q.at b⟩
 ·obtain⟨o, e, r⟩ := q;exact .inr ⟨p.at a,o,b o e,r⟩
theorem Src.iter {h:Heap}{it l:Addr}{k:Nat}{xs:Array Value}(c:Src h it l k xs):∃o,h.get? it=some o/\∀v,o.data≠.cell v:=by
 rcases c with ⟨⟨o,e,_,d⟩,_⟩ | ⟨⟨o,e,_,d⟩,_⟩
 ·exact⟨o,e,fun v z=>by rw[d] at z;cases z⟩
 ·exact⟨o,e,fun v z=>by rw[d] at z;cases z⟩
theorem Src.src {h:Heap}{it l:Addr}{k:Nat}{xs:Array Value}(c:Src h it l k xs):∃o,h.get? l=some o:=by
 rcases c with ⟨_,⟨o,e,_⟩⟩ | ⟨_,⟨o,e,_⟩⟩<;>exact⟨o,e⟩
section
variable {prog:Program}{w:World}{A:Around}{E:Value->Shared->Prop}{s:Shared}
theorem zfl {it l:Addr}{k:Nat}{xs:Array Value}{x:Value}{Q:Value->Shared->Prop} (c:Src s.heap it l k xs) (hx:xs[k]?=some x) (ne:l≠it)
  (q:∀h',Src h' it l (k+1) xs->Heap.SameBut it s.heap h'->Q x { s with heap:=h' }):wpAny (model prog w) A (Builtin.SmallTypes.nextOf (.ref it)) Q E s:=by
 rcases c with ⟨c1,c2⟩ | ⟨c1,c2⟩
 ·exact wpAny_nextOf_list_item c1 c2 hx fun h' a b=>q h' (.inl ⟨a,c2.at fun o e=>(b.2 l ne).trans e⟩) b
 ·refine aG fun Gg qG => ?_;obtain⟨oi,ei,ci,di⟩:=id c1;obtain⟨os,es,cs,ns,ds⟩:=id c2;ac_rfl;unfold Builtin.SmallTypes.nextOf;refine Ab (Db (name:=Str.ofString "__next__") c1.typeIs Ff (Es Ff c1.typeIs F.entry_tuple_iterator_next ?_ (F.args_tuple_iterator_next_1 _)));refine (show wpAny _ _ (field (.ref it) 0 >>= _) _ _ s from Ab (Cz ei di (x:=.ref l) rfl ?_));refine (show wpAny _ _ (if (Value.ref l == Value.none)=true then _ else _) _ _ s from ?_);rw[if_neg (by intro z;cases z)];refine (show wpAny _ _ (field (.ref it) 1 >>= _) _ _ s from Ab (Cz ei di (x:=.int k 0) rfl ?_));refine (show wpAny _ _ (seqItems? (.ref l) >>= _) _ _ s from Ab (Ep es ds ?_));simp only [Dx,hx];refine Ab (wpAny_setField ei di (by simp) (Av ⟨x,rfl,Av ?_⟩));refine q _ (.inr ⟨⟨_,Heap.get?_update_self _ ei (Obj.isFreed_of_fields (Obj.data_mapFields di _)),(Obj.cls_mapFields ..).trans ci,by rw[Obj.data_mapFields di];simp [rawInt]⟩,os,?_,cs,ns,ds⟩) (Fm ..);exact ((Fm ..).2 l ne).trans es
theorem zik {it l:Addr}{k:Nat}{xs:Array Value}{Q:Value->Shared->Prop} (hn:A.handled=none) (c:Src s.heap it l k xs) (hx:xs[k]?=none)
  (q:∀h' e,Heap.ExtBut it s.heap h'->(∃o,h'.get? e=some o/\o.cls=.type "StopIteration")->E (.ref e) { s with heap:=h' }):wpAny (model prog w) A (Builtin.SmallTypes.nextOf (.ref it)) Q E s:=by
 rcases c with ⟨c1,c2⟩ | ⟨c1,c2⟩
 ·exact wpAny_nextOf_list_end hn c1 c2 hx q
 ·obtain⟨oi, ei, ci, di⟩ := id c1;obtain⟨os,es,cs,ns,ds⟩:=id c2;unfold Builtin.SmallTypes.nextOf;refine Ab (Db (name:=Str.ofString "__next__") c1.typeIs Ff (Es Ff c1.typeIs F.entry_tuple_iterator_next ?_ (F.args_tuple_iterator_next_1 _)));refine (show wpAny _ _ (field (.ref it) 0 >>= _) _ _ s from Ab (Cz ei di (x:=.ref l) rfl ?_));refine (show wpAny _ _ (if (Value.ref l == Value.none)=true then _ else _) _ _ s from ?_);rw[if_neg (by intro z;cases z)];refine (show wpAny _ _ (field (.ref it) 1 >>= _) _ _ s from Ab (Cz ei di (x:=.int k 0) rfl ?_));refine (show wpAny _ _ (seqItems? (.ref l) >>= _) _ _ s from Ab (Ep es ds ?_));simp only [Dx,hx];refine Ab (Fe (Ab (wpAny_setField ei di (by simp) (show wpAny _ _ (newExc (.type "StopIteration") [] >>= _) _ _ _ from Ab ?_))));simp only [newExc,newTuple];refine Ab (Dp (Ab (m:=firstArgMember _ _) (wpAny_of_eq (a:=Value.none) (by first | rfl | (simp only [firstArgMember];rfl)) (Dp ?_ (by size_fits)))) (by size_fits));simp only [raiseNew];refine Ab (wpAny_handled ?_);rw[show A.in1.handled=none from hn];exact Ab (Av (wpAny_throw (q _ _ (((Fm ..).extBut.push _).push _) ⟨_,Ay _ rfl,rfl⟩)))
theorem z1v {z TI TO i1 i2 l1 l2:Addr}{k1 k2:Nat}{xs ys:Array Value}{x y a b:Value}{Q:Value->Shared->Prop} (D:ZipApart z TI TO i1 i2 l1 l2) (gz:IsZip s.heap z TI TO .none) (gi:IsPair s.heap TI (.ref i1) (.ref i2)) (go:IsPair s.heap TO a b)
  (c1:Src s.heap i1 l1 k1 xs) (c2:Src s.heap i2 l2 k2 ys) (ex:xs[k1]?=some x) (ey:ys[k2]?=some y)
  (q:∀h',IsZip h' z TI TO (rawInt s.heap.objs.size)->IsPair h' TO x y->Src h' i1 l1 (k1+1) xs->Src h' i2 l2 (k2+1) ys->IsPair h' s.heap.objs.size x y ->
   (∀c o,c≠z->c≠TO->c≠i1->c≠i2->s.heap.get? c=some o->h'.get? c=some o)->Q (.ref s.heap.objs.size) { s with heap:=h' }) :
  wpAny (model prog w) A (Builtin.«zip.__next__» ⟨[.ref z],[]⟩) (fun fin s'=>∃v,fin=.done (.ret v)/\Q v s') E s:=by
 refine (show wpAny _ _ (field (.ref z) 2 >>= _) _ _ _ from Ab (Cz gz rfl (x:=.bool false) rfl ?_));refine (show wpAny _ _ (field (.ref z) 3 >>= _) _ _ _ from Ab (Cz gz rfl (x:=.ref TI) rfl (Ab (Ep gi rfl ?_))));refine (show wpAny _ _ (Builtin.SmallTypes.ownedTupleIsFree (.ref z) >>= _) _ _ _ from Ab ?_);unfold Builtin.SmallTypes.ownedTupleIsFree;refine Ab (Cz gz rfl (x:=.none) rfl (Av ?_));simp only [Fa];refine Ab (Fe (Ab (Cz gz rfl (x:=.ref TO) rfl (Ab (Ew gz (by simp) fun g1 z1 u1=>?_)))));have z1' : IsZip g1 z TI TO .ellipsis:=z1;refine Ab ?_;simp only [List.zipIdx_cons,List.zipIdx_nil,List.forIn_cons,Ft];have k1' : ∀c o,c≠z->s.heap.get? c=some o->g1.get? c=some o:=fun c o n e=>u1.extBut _ _ n e;refine Ab (Ab (wpAny_onRaise (show wpAny _ _ (Builtin.SmallTypes.nextOf (.ref i1) >>= _) _ _ _ from Ab (zfl (c1.at (fun o=>k1' _ o D.i1z) fun o=>k1' _ o D.l1z) ex D.l1i1 fun g2 d2 u2=>Av ?_))));have k2' : ∀c o,c≠z->c≠i1->s.heap.get? c=some o->g2.get? c=some o:=fun c o n m e=>u2.extBut _ _ m (k1' c o n e);refine Ab (Ep (k2' _ _ D.TOz D.TOi1 go) rfl (Ab (wpAny_updateSeq_pair (k2' _ _ D.TOz D.TOi1 go) fun g3 t3 u3=>Ab (wpAny_letGo (Av ?_)))));have t3' : IsPair g3 TO x b:=t3;have k3' : ∀c o,c≠z->c≠i1->c≠TO->s.heap.get? c=some o->g3.get? c=some o:=fun c o n m r e=>u3.extBut _ _ r (k2' c o n m e);refine Ab (Ab (wpAny_onRaise (show wpAny _ _ (Builtin.SmallTypes.nextOf (.ref i2) >>= _) _ _ _ from Ab (zfl (c2.at (fun o=>k3' _ o D.i2z D.i12.symm D.TOi2.symm) fun o=>k3' _ o D.l2z D.l2i1 D.l2TO) ey D.l2i2 fun g4 d4 u4=>Av ?_))));have t4:IsPair g4 TO x b:=u4.extBut _ _ D.TOi2 t3';refine Ab (Ep t4 rfl (Ab (wpAny_updateSeq_pair t4 fun g5 t5 u5=>Ab (wpAny_letGo (Av (Av ?_))))));have t5' : IsPair g5 TO x y:=t5;refine Ab (Ep t5' rfl (Ab (wpAny_newTuple ?_)));have n5:g5.objs.size=s.heap.objs.size:=by rw[u5.1,u4.1,u3.1,u2.1,u1.1]
 have z5:IsZip g5 z TI TO .ellipsis:=u5.extBut _ _ D.TOz.symm (u4.extBut _ _ D.i2z.symm (u3.extBut _ _ D.TOz.symm (u2.extBut _ _ D.i1z.symm z1')));have k5:∀c o,c≠z->c≠TO->c≠i1->c≠i2->s.heap.get? c=some o->g5.get? c=some o:=fun c o n r m p e=>u5.extBut _ _ r (u4.extBut _ _ p (k3' c o n m r e));have d2' : Src g5 i1 l1 (k1+1) xs:=d2.at (fun o e=>u5.extBut _ _ D.TOi1.symm (u4.extBut _ _ D.i12 (u3.extBut _ _ D.TOi1.symm e))) fun o e=>u5.extBut _ _ D.l1TO (u4.extBut _ _ D.l1i2 (u3.extBut _ _ D.l1TO e));have d4' : Src g5 i2 l2 (k2+1) ys:=d4.at (fun o e=>u5.extBut _ _ D.TOi2.symm e) fun o e=>u5.extBut _ _ D.l2TO e;refine (show wpAny _ _ (Builtin.SmallTypes.ownedTupleHandOut (.ref z) (.ref g5.objs.size) >>= _) _ _ _ from Ab ?_);unfold Builtin.SmallTypes.ownedTupleHandOut;have z6:IsZip (g5.push { cls:=.type "tuple",data:=.seq #[x,y] }) z TI TO .ellipsis:=Ae _ z5;refine Ab (Ew z6 (by simp) fun g7 z7 u7=>Ew (show IsZip g7 z TI TO (rawInt g5.objs.size) from z7) (by simp) fun g8 z8 u8=>Av ⟨_,rfl,?_⟩);have up:∀c o,c≠z->g5.get? c=some o->g8.get? c=some o:=fun c o n e=>u8.extBut _ _ n (u7.extBut _ _ n (Ae _ e));have lz:g5.objs.size≠z:=Nat.ne_of_gt (Ar z5);have t8:IsPair g8 g5.objs.size x y:=u8.extBut _ _ lz (u7.extBut _ _ lz (Ay _ rfl));have z8' : IsZip g8 z TI TO (rawInt g5.objs.size):=z8;rw[n5] at t8 z8';show Q (.ref g5.objs.size) _;rw[n5];exact q g8 z8' (up _ _ D.TOz t5') (d2'.at (fun o=>up _ o D.i1z) fun o=>up _ o D.l1z) (d4'.at (fun o=>up _ o D.i2z) fun o=>up _ o D.l2z) t8 fun c o n r m p e=>up c o n (k5 c o n r m p e)
theorem z5z {z TI TO i1 i2 l1 l2:Addr}{k1 k2:Nat}{xs ys:Array Value}{a b:Value}{Q:Fin->Shared->Prop} (hn:A.handled=none) (D:ZipApart z TI TO i1 i2 l1 l2) (gz:IsZip s.heap z TI TO .none) (gi:IsPair s.heap TI (.ref i1) (.ref i2)) (go:IsPair s.heap TO a b)
    (c1:Src s.heap i1 l1 k1 xs) (c2:Src s.heap i2 l2 k2 ys) (he:xs[k1]?=none\/ys[k2]?=none)
    (q:∀h' e,(∀c o,c≠z->c≠TO->c≠i1->c≠i2->s.heap.get? c=some o->h'.get? c=some o)->(∃o,h'.get? e=some o/\o.cls=.type "StopIteration")->E (.ref e) { s with heap:=h' }) :
    wpAny (model prog w) A (Builtin.«zip.__next__» ⟨[.ref z],[]⟩) Q E s:=by
  refine (show wpAny _ _ (field (.ref z) 2 >>= _) _ _ _ from Ab (Cz gz rfl (x:=.bool false) rfl ?_));refine (show wpAny _ _ (field (.ref z) 3 >>= _) _ _ _ from Ab (Cz gz rfl (x:=.ref TI) rfl (Ab (Ep gi rfl ?_))));refine (show wpAny _ _ (Builtin.SmallTypes.ownedTupleIsFree (.ref z) >>= _) _ _ _ from Ab ?_);unfold Builtin.SmallTypes.ownedTupleIsFree;refine Ab (Cz gz rfl (x:=.none) rfl (Av ?_));simp only [Fa];refine Ab (Fe (Ab (Cz gz rfl (x:=.ref TO) rfl (Ab (Ew gz (by simp) fun g1 z1 u1=>?_)))));have z1' : IsZip g1 z TI TO .ellipsis:=z1;refine Ab ?_;simp only [List.zipIdx_cons,List.zipIdx_nil,List.forIn_cons,Ft];have k1' : ∀c o,c≠z->s.heap.get? c=some o->g1.get? c=some o:=fun c o n e=>u1.extBut _ _ n e;refine Ab (Ab (wpAny_onRaise (show wpAny _ _ (Builtin.SmallTypes.nextOf (.ref i1) >>= _) _ _ _ from Ab ?_)));have d1:Src g1 i1 l1 k1 xs:=c1.at (fun o=>k1' _ o D.i1z) fun o=>k1' _ o D.l1z;cases hx:xs[k1]? with
  | none =>
    refine zik hn d1 hx fun g2 e u2 so=>?_;obtain⟨oe,ge,ce⟩:=so;have z2:IsZip g2 z TI TO .ellipsis:=u2 _ _ D.i1z.symm z1';have ne:e≠z:=fun r=>by subst r;rw[z2] at ge;obtain rfl:=sI ge;simp at ce
    exact Ew z2 (by simp) fun g3 _ u3=>q g3 e (fun c o n _ m _ x=>u3.extBut _ _ n (u2 _ _ m (k1' c o n x))) ⟨oe,u3.extBut _ _ ne ge,ce⟩
  | some x =>
    have hy:ys[k2]?=none:=he.resolve_left (by rw[hx];simp);refine zfl d1 hx D.l1i1 fun g2 d2 u2=>Av ?_;have k2' : ∀c o,c≠z->c≠i1->s.heap.get? c=some o->g2.get? c=some o:=fun c o n m e=>u2.extBut _ _ m (k1' c o n e);refine Ab (Ep (k2' _ _ D.TOz D.TOi1 go) rfl (Ab (wpAny_updateSeq_pair (k2' _ _ D.TOz D.TOi1 go) fun g3 t3 u3=>Ab (wpAny_letGo (Av ?_)))));have k3' : ∀c o,c≠z->c≠i1->c≠TO->s.heap.get? c=some o->g3.get? c=some o:=fun c o n m r e=>u3.extBut _ _ r (k2' c o n m e);refine Ab (Ab (wpAny_onRaise (show wpAny _ _ (Builtin.SmallTypes.nextOf (.ref i2) >>= _) _ _ _ from Ab (zik hn (c2.at (fun o=>k3' _ o D.i2z D.i12.symm D.TOi2.symm) fun o=>k3' _ o D.l2z D.l2i1 D.l2TO) hy fun g4 e u4 so=>?_))));obtain⟨oe,ge,ce⟩:=so;have z4:IsZip g4 z TI TO .ellipsis:=u4 _ _ D.i2z.symm (u3.extBut _ _ D.TOz.symm (u2.extBut _ _ D.i1z.symm z1'));have ne:e≠z:=fun r=>by subst r;rw[z4] at ge;obtain rfl:=sI ge;simp at ce
    exact Ew z4 (by simp) fun g5 _ u5=>q g5 e (fun c o n r m p x=>u5.extBut _ _ n (u4 _ _ p (k3' c o n m r x))) ⟨oe,u5.extBut _ _ ne ge,ce⟩
theorem z2r {z TI TO i1 i2 l1 l2:Addr}{k1 k2:Nat}{xs ys:Array Value}{x y a b:Value}{Q:Option Value->Shared->Prop} (D:ZipApart z TI TO i1 i2 l1 l2) (gz:IsZip s.heap z TI TO .none) (gi:IsPair s.heap TI (.ref i1) (.ref i2)) (go:IsPair s.heap TO a b)
  (c1:Src s.heap i1 l1 k1 xs) (c2:Src s.heap i2 l2 k2 ys) (ex:xs[k1]?=some x) (ey:ys[k2]?=some y)
  (q:∀h',IsZip h' z TI TO (rawInt s.heap.objs.size)->IsPair h' TO x y->Src h' i1 l1 (k1+1) xs->Src h' i2 l2 (k2+1) ys->IsPair h' s.heap.objs.size x y ->
   (∀c o,c≠z->c≠TO->c≠i1->c≠i2->s.heap.get? c=some o->h'.get? c=some o)->Q (some (.ref s.heap.objs.size)) { s with heap:=h' }):wpAny (model prog w) A (pyNext (.ref z)) Q E s:=by
 have ty:s.TypeIs (.ref z) "zip" := ⟨_,gz,rfl⟩;unfold pyNext;exact Ab (wpAny_attempt (Db (name:=Str.ofString "__next__") ty F.slot_zip_next (Es F.slot_zip_next ty F.entry_zip_next (z1v D gz gi go c1 c2 ex ey fun h' a1 a2 a3 a4 a5 a6=>Av (q h' a1 a2 a3 a4 a5 a6)) (F.args_zip_next_1 _))))
theorem z6i {z TI TO i1 i2 l1 l2:Addr}{k1 k2:Nat}{xs ys:Array Value}{a b:Value}{Q:Option Value->Shared->Prop} (hn:A.handled=none) (D:ZipApart z TI TO i1 i2 l1 l2) (gz:IsZip s.heap z TI TO .none) (gi:IsPair s.heap TI (.ref i1) (.ref i2)) (go:IsPair s.heap TO a b)
  (c1:Src s.heap i1 l1 k1 xs) (c2:Src s.heap i2 l2 k2 ys) (he:xs[k1]?=none\/ys[k2]?=none)
  (q:∀h',(∀c o,c≠z->c≠TO->c≠i1->c≠i2->s.heap.get? c=some o->h'.get? c=some o)->Q none { s with heap:=h' }):wpAny (model prog w) A (pyNext (.ref z)) Q E s:=by
 have ty:s.TypeIs (.ref z) "zip" := ⟨_,gz,rfl⟩;unfold pyNext;refine Ab (wpAny_attempt (Db (name:=Str.ofString "__next__") ty F.slot_zip_next (Es F.slot_zip_next ty F.entry_zip_next (z5z hn D gz gi go c1 c2 he fun h' e k so=>?_) (F.args_zip_next_1 _))));obtain⟨o,go',co⟩:=so;exact Ab (wpAny_isInstance (T := "StopIteration") (b:=true) ⟨o,go',co⟩ isSubtype_stop (Av (q _ k)))
end
noncomputable def SrcO (h:Heap) (b:Bool) (l:Addr) (xs:Array Value):Prop:=match b with
 | true=>h.IsList l xs
 | false=>h.IsTuple l xs
noncomputable def itO (b:Bool) (l:Addr):Obj:={ cls:=.type (if b then "list_iterator" else "tuple_iterator"),data:=.fields #[.ref l,.int 0 0] }
theorem SrcO.push {h:Heap}{b:Bool}{l:Addr}{xs:Array Value} (c:SrcO h b l xs) (o:Obj):SrcO (h.push o) b l xs:=by
  cases b with
  | true=>exact Heap.IsList.push c o
  | false =>
    obtain⟨q,e,r⟩:=c;exact⟨q,Ae _ e,r⟩
section
variable {prog:Program}{w:World}{A:Around}{E:Value->Shared->Prop}{s:Shared}
theorem zju {b:Bool}{l:Addr}{xs:Array Value}{Q:Value->Shared->Prop}(c:SrcO s.heap b l xs)(q:Q (.ref s.heap.objs.size) { s with heap:=s.heap.push (itO b l) }):wpAny (model prog w) A (pyIter (.ref l)) Q E s:=by
 cases b with
 | true=>exact Fc c q
 | false=>exact Gq c q
end
noncomputable abbrev zA (h:Heap) (b:Bool) (l:Addr):Heap:=h.push (itO b l)
noncomputable abbrev zB (h:Heap) (b c:Bool) (l m:Addr):Heap:=(zA h b l).push (itO c m)
noncomputable abbrev zC (h:Heap) (b c:Bool) (l m:Addr):Heap:=(zB h b c l m).push { cls:=.type "tuple",data:=.seq #[.ref h.objs.size,.ref (zA h b l).objs.size] }
noncomputable abbrev zD (h:Heap) (b c:Bool) (l m:Addr):Heap:=(zC h b c l m).push { cls:=.type "tuple",data:=.seq #[.none,.none] }
noncomputable abbrev zE (h:Heap) (b c:Bool) (l m:Addr):Heap:=(zD h b c l m).push { cls:=.type "zip",data:=.fields #[.none,.bool false,.bool false,.ref (zB h b c l m).objs.size,.ref (zC h b c l m).objs.size] }
theorem zsl (b c:Bool)(l m:Addr)(xs ys:Array Value):Meets (Builtin.«zip.__new__» ⟨[.type "zip",.ref l,.ref m],[]⟩) (fun _ R s=>SrcO s.heap b l xs/\SrcO s.heap c m ys/\R (.ok (.ret (.ref (zD s.heap b c l m).objs.size))) { s with heap:=zE s.heap b c l m }) :=
 .of_wp fun prog w A R s h=>by
  obtain⟨hp,g,d,tk,os⟩:=s;obtain⟨x1,x2,h⟩:=h;have hsub:=sub_zip;have y1:SrcO (Shared.heap ⟨hp,g,d,tk,os⟩) b l xs:=x1;have y2:SrcO (Shared.heap ⟨hp.push (itO b l),g,d,tk,os⟩) c m ys:=SrcO.push x2 _
  wp_walk using zju y1,zju y2
  exact⟨_,rfl,h⟩
section
variable {prog:Program}{w:World}{A:Around}{E:Value->Shared->Prop}{s:Shared}
theorem zy7 {b c:Bool}{l m:Addr}{xs ys:Array Value}{Q:Value->Shared->Prop} (x1:SrcO s.heap b l xs) (x2:SrcO s.heap c m ys)
  (h:∀h',IsZip h' (s.heap.objs.size+4) (s.heap.objs.size+2) (s.heap.objs.size+3) .none->IsPair h' (s.heap.objs.size+2) (.ref s.heap.objs.size) (.ref (s.heap.objs.size+1))->IsPair h' (s.heap.objs.size+3) .none .none ->
   h'.get? s.heap.objs.size=some (itO b l)->h'.get? (s.heap.objs.size+1)=some (itO c m)->(∀c o,s.heap.get? c=some o->h'.get? c=some o)->Q (.ref (s.heap.objs.size+4)) { s with heap:=h' }) :
  wpAny (model prog w) A (call (.type "zip") [.ref l,.ref m]) Q E s:=by
 refine callType_new F.called_zip #v[0,9] (F.typeCall_zip_2 _ _) (F.newCall_zip_2 _ _) (fun obj=>F.args_object_init_3 obj _ _) F.entry_zip_new (zsl b c l m xs ys) ⟨x1,x2,?_⟩;have n1:(zA s.heap b l).objs.size=s.heap.objs.size+1:=Dl ..;have n2:(zB s.heap b c l m).objs.size=s.heap.objs.size+2:=by rw[Dl,n1]
 have n3:(zC s.heap b c l m).objs.size=s.heap.objs.size+3:=by rw[Dl,n2]
 have n4:(zD s.heap b c l m).objs.size=s.heap.objs.size+4:=by rw[Dl,n3]
 have up:∀r o,s.heap.get? r=some o->(zE s.heap b c l m).get? r=some o:=fun r o x=>Ae _ (Ae _ (Ae _ (Ae _ (Ae _ x))));have e5:(zE s.heap b c l m).get? (zD s.heap b c l m).objs.size=some _:=Ay _ rfl;have e4:(zE s.heap b c l m).get? (zC s.heap b c l m).objs.size=some _:=Ae _ (Ay _ rfl);have e3:(zE s.heap b c l m).get? (zB s.heap b c l m).objs.size=some _:=Ae _ (Ae _ (Ay _ rfl));have e2:(zE s.heap b c l m).get? (zA s.heap b l).objs.size=some (itO c m):=Ae _ (Ae _ (Ae _ (Ay _ rfl)));have e1:(zE s.heap b c l m).get? s.heap.objs.size=some (itO b l):=Ae _ (Ae _ (Ae _ (Ae _ (Ay _ rfl))));show _/\_;rw[n2,n3,n4] at e5;rw[n1,n2] at e3;rw[n3] at e4;rw[n1] at e2;rw[n4];exact⟨⟨_,e5,rfl⟩,h _ e5 e3 e4 e1 e2 up⟩
end
noncomputable def SqK (K:PySem.W.Frag) (k:Bool) (H:Hp) (a:Addr) (xs:List V):Prop:=match k with
 | true=>SqL K H a xs
 | false=>SqT K H a xs
noncomputable def ItI (h:Heap) (k:Bool) (it l:Addr) (i:Nat):Prop:=match k with
 | true=>h.IsListIter it l i
 | false=>h.IsTupleIter it l i
theorem SqK.mono {K:PySem.W.Frag}{k:Bool}{F H:Hp}{a:Addr}{xs:List V}(s:Same F H)(h:SqK K k F a xs):SqK K k H a xs:=by
 cases k with
 | true=>exact s.seq h
 | false=>exact zch s h
theorem Inv.sqK {X:Cx}{pins:List (Addr × Obj)}{σ:St}{H:Hp}{s:Shared}{k:Bool}{a:Addr}{xs:List V}(I:Inv X pins σ H s)(h:SqK X.K k H a xs):∃its:List Value,Vals xs its/\SrcO s.heap k a its.toArray:=by
 cases k with
 | true=>obtain⟨its,r,p,_⟩:=I.list h;exact⟨its,r,p.isList⟩
 | false=>obtain⟨its,r,p,_⟩:=I.tuple h;exact⟨its,r,p⟩
theorem Inv.sqK_inj {X:Cx}{pins:List (Addr × Obj)}{σ:St}{H:Hp}{s:Shared}{k:Bool}{a:Addr}{xs ys:List V}(I:Inv X pins σ H s)(h:SqK X.K k H a xs)(h' : SqK X.K k H a ys):xs=ys:=by
 cases k with
 | true=>exact I.list_inj h h'
 | false=>exact I.tuple_inj h h'
theorem ItI.src {h:Heap}{k:Bool}{it l:Addr}{i:Nat}{xs:Array Value}(a:ItI h k it l i)(b:SrcO h k l xs):Src h it l i xs:=by
 cases k with
 | true=>exact .inl ⟨a,b⟩
 | false=>exact .inr ⟨a,b⟩
theorem Src.itI {h:Heap}{k:Bool}{it l:Addr}{i:Nat}{xs:Array Value} (c:Src h it l i xs) (b:SrcO h k l xs):ItI h k it l i:=by
  cases k with
  | true =>
    rcases c with ⟨c,_⟩ | ⟨_,⟨o,e,q,_⟩⟩
    · exact c
    · obtain ⟨o', e', q', _⟩ := b
      rw[e] at e';obtain rfl:=sI e';rw[q] at q';simp at q'
  | false =>
    rcases c with ⟨_,⟨o,e,q,_⟩⟩ | ⟨c,_⟩
    · obtain ⟨o', e', q', _⟩ := b
      rw[e] at e';obtain rfl:=sI e';rw[q] at q';simp at q'
    · exact c
theorem ItI.at {h h' : Heap}{k:Bool}{it l:Addr}{i:Nat}(a:ItI h k it l i)(q:∀o,h.get? it=some o->h'.get? it=some o):ItI h' k it l i:=by
 cases k with
 | true=>exact Heap.IsListIter.at a q
 | false=>exact Heap.IsTupleIter.at a q
theorem ItI.obj {h:Heap}{k:Bool}{it l:Addr}{i:Nat}(a:ItI h k it l i):∃o,h.get? it=some o/\∀v,o.data≠.cell v:=by
 cases k with
 | true=>obtain⟨o,e,_,d⟩:=a;exact⟨o,e,fun v z=>by rw[d] at z;cases z⟩
 | false=>obtain⟨o,e,_,d⟩:=a;exact⟨o,e,fun v z=>by rw[d] at z;cases z⟩
noncomputable def Itz (K:PySem.W.Frag) (ka kb:Bool) (a b:Addr):It :=
 ⟨fun i H=>∃xs ys x y,SqK K ka H a xs/\SqK K kb H b ys/\xs[i]?=some x/\ys[i]?=some y,
  fun i H x H'=>∃p v u,x=.ref p/\H p=none/\H'=upd H p (.tup [v,u])/\(∀xs,SqK K ka H a xs->xs[i]?=some v)/\(∀ys,SqK K kb H b ys->ys[i]?=some u),
  fun i H=>∃xs ys,SqK K ka H a xs/\SqK K kb H b ys/\(xs.length<=i\/ys.length<=i)⟩
noncomputable def zSt (ka kb:Bool) (z TI TO i1 i2 a b:Addr) (i:Nat) (h:Heap):Prop:=IsZip h z TI TO .none/\IsPair h TI (.ref i1) (.ref i2)/\(∃u v,IsPair h TO u v)/\ItI h ka i1 a i/\ItI h kb i2 b i
theorem zxb {P:Program}{w:World}{K:PySem.W.Frag}{es:List Expr}{x1}{px:Pos}(ka kb:Bool)(z TI TO i1 i2 a b:Addr)(D:ZipApart z TI TO i1 i2 a b):Turn P w K (.Tuple es x1 px) (Itz K ka kb a b) [z,TI,TO,i1,i2] z (zSt ka kb z TI TO i1 i2 a b) where
 mem:=by simp
 obj:=fun i h st c hc=>by
  nofun;obtain⟨gz,gi,⟨u,v,go⟩,t1,t2⟩:=st;ac_rfl;simp only [Aq,Al,Cq,or_false] at hc;rcases hc with rfl | rfl | rfl | rfl | rfl
  ·exact⟨_,gz,fun v q=>by cases q⟩
  ·exact⟨_,gi,fun v q=>by cases q⟩
  ·exact⟨_,go,fun v q=>by cases q⟩
  ·exact t1.obj
  ·exact t2.obj
 keep:=fun i h h' st k=>by
  nofun;obtain⟨gz,gi,⟨u,v,go⟩,t1,t2⟩:=st;ac_rfl;exact⟨k z (by simp) _ gz,k TI (by simp) _ gi,⟨u,v,k TO (by simp) _ go⟩,t1.at fun o e=>k i1 (by simp) o e,t2.at fun o e=>k i2 (by simp) o e⟩
 item:=by
  intro X hP hw hK hc i pins s σ H E I hf st hg;subst hP hw hK;nofun;obtain⟨xs,ys,x,y,q1,q2,e1,e2⟩:=hg;obtain⟨gz,gi,⟨u0,v0,go⟩,t1,t2⟩:=st;obtain⟨its,r1,so1⟩:=I.sqK q1;obtain⟨its',r2,so2⟩:=I.sqK q2;obtain⟨u,hu,ru⟩:=r1.get e1;obtain⟨v,hv,rv⟩:=r2.get e2;ac_rfl;refine z2r D gz gi go (t1.src so1) (t2.src so2) (x:=u) (y:=v) (by simpa using hu) (by simpa using hv) fun h' g1 g2 g3 g4 g5 g6=>⟨_,rfl,?_⟩;refine wpAny_letOwnedTupleGo_zip g1 fun h'' k1 k2=>?_;have lt:∀c o,s.heap.get? c=some o->c≠s.heap.objs.size:=fun c o e=>Bi (Ar e);have kk:∀c o,c ∉ [z,TI,TO,i1,i2]->s.heap.get? c=some o->h''.get? c=some o:=fun c o hb e=>by
   simp only [Aq,Al,Cq,or_false,not_or] at hb;exact (k2.2 c hb.1).trans (g6 c o hb.1 hb.2.2.1 hb.2.2.2.1 hb.2.2.2.2 e)
  obtain⟨o1,eo1⟩:=(t1.src so1).src;obtain⟨o2,eo2⟩:=(t2.src so2).src;have so1' : SrcO h' ka a its.toArray:=by
   cases ka with
   | true=>exact so1.at fun o e=>g6 a o D.l1z D.l1TO D.l1i1 D.l1i2 e
   | false=>obtain⟨o,e,r⟩:=so1;exact⟨o,g6 a o D.l1z D.l1TO D.l1i1 D.l1i2 e,r⟩
  have so2' : SrcO h' kb b its'.toArray:=by
   cases kb with
   | true=>exact so2.at fun o e=>g6 b o D.l2z D.l2TO D.l2i1 D.l2i2 e
   | false=>obtain⟨o,e,r⟩:=so2;exact⟨o,g6 b o D.l2z D.l2TO D.l2i1 D.l2i2 e,r⟩
  have t1' : ItI h'' ka i1 a (i+1):=(g3.itI so1').at fun o e=>(k2.2 i1 D.i1z).trans e;have t2' : ItI h'' kb i2 b (i+1):=(g4.itI so2').at fun o e=>(k2.2 i2 D.i2z).trans e;have gi' : IsPair h'' TI (.ref i1) (.ref i2):=(k2.2 TI D.TIz).trans (g6 TI _ D.TIz D.TITO D.TIi1 D.TIi2 gi);have go' : IsPair h'' TO u v:=(k2.2 TO D.TOz).trans g2;have Tz:s.heap.objs.size≠z:=(lt z _ gz).symm;refine⟨.ref s.heap.objs.size,upd H s.heap.objs.size (.tup [x,y]),I.turnLay kk (fun c hb=>?_) hf (Ag _) ⟨by show 2<=sizeLine;decide,[u,v],.cons ru (.cons rv .nil),?_⟩,rfl,⟨_,x,y,rfl,I.hok.fresh (Ag _),rfl,fun zs hz=>by rw[I.sqK_inj hz q1];exact e1,fun zs hz=>by rw[I.sqK_inj hz q2];exact e2⟩,⟨k1,gi',⟨u,v,go'⟩,t1',t2'⟩,fun c hb=>?_⟩
  ·simp only [Aq, Al, Cq, or_false] at hb;rcases hb with rfl | rfl | rfl | rfl | rfl
   ·exact⟨_,k1⟩
   ·exact⟨_,gi'⟩
   ·exact⟨_,go'⟩
   ·obtain⟨o,e,_⟩:=t1'.obj;exact⟨o,e⟩
   ·obtain⟨o,e,_⟩:=t2'.obj;exact⟨o,e⟩
  ·exact⟨_,(k2.2 _ Tz).trans g5,rfl,_,rfl⟩
  ·have ne:c≠s.heap.objs.size:=by
    simp only [Aq,Al,Cq,or_false] at hb;rcases hb with rfl | rfl | rfl | rfl | rfl
    ·exact lt _ _ gz
    ·exact lt _ _ gi
    ·exact lt _ _ go
    ·obtain⟨o,e,_⟩:=t1.obj;exact lt _ _ e
    ·obtain⟨o,e,_⟩:=t2.obj;exact lt _ _ e
   rw[upd_ne ne];exact (hf c hb).1
 done:=by
  intro X hP hw hK hc i pins s σ H E I hf st hg;subst hP hw hK;nofun;obtain⟨xs,ys,q1,q2,he⟩:=hg;obtain⟨gz,gi,⟨u0,v0,go⟩,t1,t2⟩:=st;obtain⟨its,r1,so1⟩:=I.sqK q1;obtain⟨its',r2,so2⟩:=I.sqK q2;ac_rfl;have l1:=r1.length;have l2:=r2.length;refine z6i (I.ok.hd hc) D gz gi go (t1.src so1) (t2.src so2) ?_ fun h' k=>⟨rfl,I.turnL (t':=s.toks) (ch:=[z,TI,TO,i1,i2]) (fun c o hb e=>?_) hf⟩
  ·rcases he with he | he
   ·exact .inl (Eo (by simp;omega))
   ·exact .inr (Eo (by simp;omega))
  ·simp only [Aq, Al, Cq, or_false, not_or] at hb;exact k c o hb.1 hb.2.2.1 hb.2.2.2.1 hb.2.2.2.2 e
 self:=fun _ _ _ _ _ st h=>wpAny_pyIter_zip st.1 h
theorem zx4:bootBuiltins "zip" = some (.type "zip"):=by decide +kernel
section
variable {X:Cx}
noncomputable def iZip (K:PySem.W.Frag) (ta:TA):TI:=fun σ H R=>ta σ H fun vs H1=>∃a b ka kb xs ys,vs=[.ref a,.ref b]/\SqK K ka H1 a xs/\SqK K kb H1 b ys/\R (Itz K ka kb a b) H1
theorem z5m {es:List Expr}{x1}{px:Pos}{l m:Expr}{tl:TA}{p pos:Pos} (hg:Gl X "zip") (hm:X.mg "zip" = none) (hl:PA X [l,m] tl) (hs:starEach [l,m] X.env=[(false,eval l X.env),(false,eval m X.env)]) (hs2:starEach [m] X.env=[(false,eval m X.env)]) :
    PI X (.Tuple es x1 px) (.Call (.Name "zip" p) [l,m] [] pos) (iZip X.K tl):=by
  intro pins s σ H R I h;refine Call_ (ze8 I hg hm zx4 (Dm (thn (hl pos pins s σ H _ I h) fun us s1 ⟨vs,H1,I1,r1,q1⟩=>?_) (by rw[hs,hs2]) (by rw[hs2];rfl)));nofun;obtain⟨a,b,ka,kb,xs,ys,e,q2,q3,q⟩:=q1;ac_rfl;subst e;cases r1 with
  | cons r rr =>
    cases rr with
    | cons r' rr =>
      cases rr;cases r;cases r';refine aG fun _ qG=>?_;obtain ⟨its,rv1,so1⟩:=I1.sqK q2;obtain ⟨its',rv2,so2⟩:=I1.sqK q3;refine qG ?_;clear qG;refine zy7 so1 so2 fun h' g1 g2 g3 g4 g5 up=>wpAny_pyIter_zip g1 ?_;have la:a < s1.heap.objs.size:=by
        cases ka with
        | true=>obtain⟨o,e,_⟩:=so1;exact Ar e
        | false=>obtain⟨o,e,_⟩:=so1;exact Ar e
      have lb:b < s1.heap.objs.size:=by
        cases kb with
        | true=>obtain⟨o,e,_⟩:=so2;exact Ar e
        | false=>obtain⟨o,e,_⟩:=so2;exact Ar e
      have D:ZipApart (s1.heap.objs.size+4) (s1.heap.objs.size+2) (s1.heap.objs.size+3) s1.heap.objs.size (s1.heap.objs.size+1) a b:=by
        have up:∀{c:Addr} (k:Nat),c < s1.heap.objs.size->c≠s1.heap.objs.size+k:=fun k h=>Bi (Bd h (Dq _ k));refine⟨?_,?_,?_,?_,?_,?_,?_,?_,?_,?_,up 4 la,up 3 la,up 0 la,up 1 la,up 4 lb,up 3 lb,up 0 lb,up 1 lb⟩<;>(intro z;have z' : (_:Nat)=_:=z;omega)
      have t1:ItI h' ka s1.heap.objs.size a 0:=by cases ka<;>exact⟨_,g4,rfl,rfl⟩
      have t2:ItI h' kb (s1.heap.objs.size+1) b 0:=by cases kb<;>exact⟨_,g5,rfl,rfl⟩
      refine ⟨_,_,_,_,H1,rfl,I1.kept (t':=s1.toks) up,zxb ka kb _ _ _ _ _ a b D,⟨g1,g2,⟨_,_,g3⟩,t1,t2⟩,fun c hb=>?_,q⟩;have le:s1.heap.objs.size<=c:=by
        simp only [Aq,Al,Cq,or_false] at hb;rcases hb with rfl | rfl | rfl | rfl | rfl
        · exact Dq _ _
        · exact Dq _ _
        · exact Dq _ _
        · exact Ag _
        · exact Dq _ _
      exact I1.fpOk le (I1.hok.fresh le)
end
noncomputable def zipW:List W->List W->List W
 | x::xs,y::ys=>.tup [x,y]::zipW xs ys
 | _,_=>[]
theorem zfq:∀(xs ys:List W),(zipW xs ys).length=min xs.length ys.length
 | [],_=>by simp [zipW]
 | _::_,[]=>by simp [zipW]
 | _::xs,_::ys=>by simp only [zipW,Be,zfq xs ys];omega
theorem zpe:∀{xs ys:List W}{i:Nat}{x y:W},xs[i]?=some x->ys[i]?=some y->(zipW xs ys)[i]?=some (.tup [x,y])
  | [],_,_,_,_,e,_=>by simp at e
  | _::_,[],_,_,_,_,e=>by simp at e
  | _::xs,_::ys,0,_,_,e,e'=>by simp at e e';subst e e';rfl
  | _::xs,_::ys,i+1,x,y,e,e'=>by
    show (zipW xs ys)[i]?=_;exact zpe (by simpa using e) (by simpa using e')
noncomputable def gZip (g g' : GE):GL:=fun en=>(g en).bind fun p=>(g' p.1).bind fun q=>(seqW p.2.1).bind fun ws=>(seqW q.2.1).bind fun us=>some (q.1,zipW ws us)
section
variable {K:PySem.W.Frag}{F H:Hp}{σ:St}
theorem zd0 {w:W}{ws:List W}{v:V} (y:Rep K F w v) (hs:seqW w=some ws):∃a k vs,v=.ref a/\SqK K k F a vs/\Reps K F ws vs:=by
  cases w with
  | lst xs=>obtain rfl:=sI hs;cases y with
    | lst y r=>exact⟨_,true,_,rfl,SqL.of' y,r⟩
  | frl xs=>obtain rfl:=sI hs;cases y with
    | frl y r=>exact⟨_,true,_,rfl,y,r⟩
  | tup xs=>obtain rfl:=sI hs;cases y with
    | tup y r=>exact⟨_,false,_,rfl,.inl (.inl y),r⟩
  | _=>exact noSome hs
theorem z8b {a b:Addr}{ka kb:Bool}{vs us:List V}{ws zs:List W}(h:SqK K ka F a vs)(h' : SqK K kb F b us)(r:Reps K F ws vs)(r' : Reps K F zs us):ItOk K F (Itz K ka kb a b) (zipW ws zs) where
 go:=fun i H s hi=>by
  rw[zfq] at hi;have l1:i < vs.length:=by rw[<-r.length];omega
  have l2:i < us.length:=by rw[<-r'.length];omega
  exact⟨vs,us,vs[i],us[i],h.mono s,h'.mono s,Ac l1,Ac l2⟩
 stop:=fun H s=>⟨vs,us,h.mono s,h'.mono s,by rw[zfq,r.length,r'.length];omega⟩
 yld:=fun i H x H' s hi y=>by
  nofun;obtain⟨p,v,u,e1,hp,e2,y1,y2⟩:=y;ac_rfl;subst e1 e2;nofun;obtain⟨w1,g1,q1⟩:=r.getV (y1 vs (h.mono s));obtain⟨w2,g2,q2⟩:=r'.getV (y2 us (h'.mono s));ac_rfl;exact⟨_,zpe g1 g2,.tup hp (.cons q1 (.cons q2 .nil))⟩
theorem zwr {g g' : GE}{R:It->Hp->Prop}(h:tI K (gZip g g') σ H R):iZip K (zfg (tE K g) (zfg (tE K g') tNil)) σ H R:=by
 nofun;obtain⟨F,pr,en,en',ws,Re,h,q⟩:=h;obtain⟨⟨e1,r1⟩,h1,h⟩:=bS h;obtain⟨⟨e2,r2⟩,h2,h⟩:=bS h;obtain⟨us,hs,h⟩:=bS h;obtain⟨zs,hs',h⟩:=bS h;ac_rfl;cases h;refine⟨F,pr,en,e1,r1,Re,h1,fun F1 H1 v s1 R1 z=>?_⟩;nofun;obtain⟨F2,s2,R2,y⟩:=z.freeze R1;ac_rfl;refine⟨F2,pr,e1,e2,r2,R2,h2,fun F3 H3 v' s3 R3 z'=>?_⟩;nofun;obtain⟨F4,s4,R4,y'⟩:=z'.freeze R3;obtain⟨a,ka,vs,ea,qa,ra⟩:=zd0 (y.mono (s3.trans s4)) hs;obtain⟨b,kb,vs',eb,qb,rb⟩:=zd0 y' hs';ac_rfl;subst ea eb;exact⟨a,b,ka,kb,vs,vs',rfl,qa.mono R4.sub,qb.mono R4.sub,q F4 H3 _ (s1.trans (s2.trans (s3.trans s4))) R4 (z8b qa qb ra rb)⟩
end
open AutoSeq1 (wpAny_loadPart')
section
variable {prog:Program}{w:World}{A:Around}{E:Value->Shared->Prop}{s:Shared}
theorem zus {it l:Addr}{xs:Array Value}(ne:l≠it)(hn:A.handled=none):Draws prog w A.in1 it [it,l] xs.size (fun i x=>xs[i]?=some x) (fun k h=>h.IsTupleIter it l k/\h.IsTuple l xs) where
 live:=fun i h st=>let ⟨⟨o,e,_⟩,_⟩:=st;⟨o,e⟩
 frame:=fun i h h' st k=>⟨st.1.at fun o e=>k it (by simp) o e,let ⟨o,e,r⟩:=st.2;⟨o,k l (by simp) o e,r⟩⟩
 item:=fun i s Q E hi st q=>zfl (k:=i) (xs:=xs) (x:=xs[i]) (.inr st) (Array.getElem?_eq_getElem hi) ne fun h' c sb=>by
  rcases c with ⟨⟨o,e,c1,_⟩,c2⟩ | c
  ·obtain ⟨o', e', c1', _⟩ := st.1;have:=st.2;exact absurd c2 (fun c2=>by
    obtain⟨o2,e2,c3,_⟩:=c2;obtain⟨o3,e3,c4,_⟩:=st.2;rw[(sb.2 l ne).trans e3] at e2;obtain rfl:=sI e2;rw[c4] at c3;exact absurd (Value.type.inj c3) #v[0,9])
  ·exact q xs[i] h' s.toks (Array.getElem?_eq_getElem hi) c sb
 done:=fun s Q E st q=>zik (k:=xs.size) (xs:=xs) (show A.in1.handled=none from hn) (.inr st) (Eo (Ag _)) q
theorem zl4 (l:Addr) (items:Array Value) (n:Nat) (dct:Option Addr) (sl:Array (Option Value)) :
  Meets (Builtin.«enumerate.__new__» ⟨[.type "enumerate",.ref l],[]⟩) (fun _ R s=>s.heap.get? l=some { cls:=.type "tuple",dict:=dct,data:=.seq items n,slots:=sl } /\
   R (.ok (.ret (.ref (s.heap.push { cls:=.type "tuple_iterator",data:=.fields #[.ref l,.int 0 0] }).objs.size)))
    { s with heap:=(s.heap.push { cls:=.type "tuple_iterator",data:=.fields #[.ref l,.int 0 0] }).push { cls:=.type "enumerate",data:=.fields #[.none,.bool false,.ref s.heap.objs.size,rawInt 0,.none,.none] } }) :=
 .of_wp fun prog w A R s h=>by
  obtain⟨hp,g,d,tk,os⟩:=s;obtain⟨hl,h⟩:=h;have hsub:=sub_enumerate;have hL:Heap.IsTuple (Shared.heap ⟨hp,g,d,tk,os⟩) l items:=⟨_,hl,rfl,n,rfl⟩
  wp_walk using Ea hl
  refine wpAny_stack_any fun st=>Av ?_;split
  ·rename_i c _ _ _ _ _;cases (c == Value.type "enumerate")<;>(wp_walk using Ea hl,Gq hL)<;>exact⟨_,rfl,h⟩
  ·wp_walk using Ea hl, Gq hL
   exact⟨_,rfl,h⟩
theorem zqk {l:Addr}{items:Array Value}{Q:Value->Shared->Prop} (hL:s.heap.IsTuple l items)
  (h:∀h',IsEnum h' (s.heap.objs.size+1) s.heap.objs.size 0 .none->h'.IsTupleIter s.heap.objs.size l 0->(∀b o,s.heap.get? b=some o->h'.get? b=some o)->Q (.ref (s.heap.objs.size+1)) { s with heap:=h' }) :
  wpAny (model prog w) A (call (.type "enumerate") [.ref l]) Q E s:=by
 nofun;obtain⟨⟨c,dct,dt,sl⟩,hl,hc,n,hd⟩:=hL;ac_rfl;cases (show c=.type "tuple" from hc);cases (show dt=.seq items n from hd);refine callType_new F.called_enumerate #v[0,9] (F.typeCall_enumerate_1 _) (F.newCall_enumerate_1 _) (fun obj=>F.args_object_init_2 obj _) F.entry_enumerate_new (zl4 l items n dct sl) ⟨hl,?_⟩;have hz:(s.heap.push { cls:=.type "tuple_iterator",data:=.fields #[.ref l,.int 0 0] }).objs.size=s.heap.objs.size+1:=Dl ..;show _/\_;rw[hz];have he:=Ay (s.heap.push { cls:=.type "tuple_iterator",data:=.fields #[.ref l,.int 0 0] }) (o:={ cls:=.type "enumerate",data:=.fields #[.none,.bool false,.ref s.heap.objs.size,rawInt 0,.none,.none] }) rfl;rw[hz] at he;exact⟨⟨_,he,rfl⟩,h _ he ⟨_,Ae _ (Ay _ rfl),rfl,rfl⟩ fun b o x=>Ae _ (Ae _ x)⟩
end
noncomputable def IteT (K:PySem.W.Frag) (a:Addr):It :=
 ⟨fun i H=>∃xs x,SqT K H a xs/\xs[i]?=some x,fun i H x H'=>∃p v,x=.ref p/\H p=none/\H'=upd H p (.tup [.int i,v])/\∀xs,SqT K H a xs->xs[i]?=some v,fun i H=>∃xs,SqT K H a xs/\xs.length<=i⟩
theorem zp9 {P:Program}{w:World}{K:PySem.W.Frag}{es:List Expr}{x1}{px:Pos}(a e it:Addr)(hei:e≠it)(hea:e≠a)(hai:a≠it):Turn P w K (.Tuple es x1 px) (IteT K a) [e,it] e (fun i h=>(∃old,IsEnum h e it i old)/\h.IsTupleIter it a i) where
 mem:=by simp
 obj:=fun i h st b hb=>by
  nofun;obtain⟨⟨old,he⟩,o,hi,c,d⟩:=st;ac_rfl;rcases Aq.mp hb with rfl | hb
  ·exact⟨_,he,fun v z=>by cases z⟩
  ·have : b = it := by simpa using hb
   subst this;exact⟨o,hi,fun v z=>by rw[d] at z;cases z⟩
 keep:=fun i h h' st k=>⟨let ⟨old,he⟩:=st.1;⟨old,k e (by simp) _ he⟩,st.2.at fun o z=>k it (by simp) o z⟩
 item:=by
  intro X hP hw hK hc i pins s σ H E I hf st hg;subst hP hw hK;nofun;obtain⟨xs,x,hq,hx⟩:=hg;obtain⟨its,rv,p,hz⟩:=I.tuple hq;obtain⟨u,hu,ru⟩:=rv.get hx;obtain⟨⟨old,he⟩,hit⟩:=st;ac_rfl;have hT:s.heap.IsTuple a its.toArray:=p;have lt:i < its.toArray.size:=by
   rw[Au];exact (An.mp hu).1
  refine wpAny_pyNext_enum_itemD (zus hai (I.ok.hd hc)) he ⟨hit,hT⟩ lt hei (by simp [hei,hea]) fun y h' tk hy ho hst hT' hsz hk=>⟨_,rfl,?_⟩;have eu:y=u:=by
   have:its[i]?=some y:=by simpa using hy
   rw[hu] at this;exact (sI this).symm
  subst eu;refine wpAny_letOwnedTupleGo_enum ho fun h'' he'' hs''=>?_;have kk:∀b o,b ∉ [e,it]->s.heap.get? b=some o->h''.get? b=some o:=fun b o hb q=>by
   have h1:b≠e:=fun z=>hb (by simp [z]);have h2:b≠it:=fun z=>hb (by simp [z]);exact (hs''.2 b h1).trans (hk b o h1 h2 q)
  have hTe:s.heap.objs.size≠e:=fun z=>absurd (Ar he) (by rw[z];exact Cf _);have hit'' : h''.IsTupleIter it a (i+1):=hst.1.at fun o y=>(hs''.2 it hei.symm).trans y;refine⟨.ref s.heap.objs.size,upd H s.heap.objs.size (.tup [.int i,x]),I.turnLay kk (fun b hb=>?_) hf (Ag _) ⟨by show 2<=sizeLine;decide,[.int i tk,y],.cons ⟨_,rfl⟩ (.cons ru .nil),?_⟩,rfl,⟨_,x,rfl,I.hok.fresh (Ag _),rfl,fun ys hy=>by rw[I.tuple_inj hy hq];exact hx⟩,⟨⟨_,by simpa using he''⟩,hit''⟩,fun b hb=>?_⟩
  ·rcases Aq.mp hb with rfl | hb
   ·exact⟨_,he''⟩
   ·have : b = it := by simpa using hb
    subst this;obtain⟨o,z,_⟩:=hit'';exact⟨o,z⟩
  ·exact⟨_,(hs''.2 _ hTe).trans hT',rfl,_,rfl⟩
  ·have:b≠s.heap.objs.size:=by
    rcases Aq.mp hb with rfl | hb
    ·exact hTe.symm
    ·have e2 : b = it := by simpa using hb
     subst e2;obtain⟨o,z,_⟩:=hit;exact Bi (Ar z)
   rw[upd_ne this];exact (hf b hb).1
 done:=by
  intro X hP hw hK hc i pins s σ H E I hf st hg;subst hP hw hK;nofun;obtain⟨xs,hq,hx⟩:=hg;obtain⟨its,rv,p,hz⟩:=I.tuple hq;obtain⟨⟨old,he⟩,hit⟩:=st;obtain⟨f0,f1,f2,f3,f4,f5⟩:=hf it (by simp);ac_rfl;have hl:=rv.length;have hT:s.heap.IsTuple a its.toArray:=p;have hTy:s.TypeIs (.ref e) "enumerate" := ⟨_,he,rfl⟩;unfold pyNext;refine Ab (wpAny_attempt (Db (name:=Str.ofString "__next__") hTy F.slot_enumerate_next (Es F.slot_enumerate_next hTy F.entry_enumerate_next ?_ (F.args_enumerate_next_1 _))));show wpAny _ _ (field (.ref e) 2 >>= _) _ _ _;refine Ab (Cz he rfl (x:=.ref it) rfl ?_);refine Ab (zik (show _=none from I.ok.hd hc) (.inr ⟨hit,hT⟩) (Eo (by simp;omega)) fun h' x eb hx'=>?_);obtain⟨o,ho,hc'⟩:=hx';refine Ab (wpAny_isInstance (T := "StopIteration") (b:=true) ⟨o,ho,hc'⟩ isSubtype_stop ?_);exact Av ⟨rfl,I.turned (t':=s.toks) (fun b o hb e=>eb b o hb e) f0 f1 f3 f4 f5⟩
 self:=fun _ _ _ _ _ st h=>let ⟨_,he⟩:=st.1;Gs he h
section
variable {X:Cx}
noncomputable def zz6 (K:PySem.W.Frag) (ta:TA):TI:=fun σ H R=>ta σ H fun vs H1=>∃a xs,vs=[.ref a]/\(SqL K H1 a xs/\R (Ite K a) H1\/SqT K H1 a xs/\R (IteT K a) H1)
theorem zzb {es:List Expr}{x1}{px:Pos}{l:Expr}{tl:TA}{p pos:Pos} (hg:Gl X "enumerate") (hm:X.mg "enumerate" = none) (hl:PA X [l] tl) (hs:starEach [l] X.env=[(false,eval l X.env)]:=by rfl) :
    PI X (.Tuple es x1 px) (.Call (.Name "enumerate" p) [l] [] pos) (zz6 X.K tl):=by
  intro pins s σ H R I h;refine Call_ (ze8 I hg hm boot_enumerate (Dm (thn (hl pos pins s σ H _ I h) fun us s1 ⟨vs,H1,I1,r1,q1⟩=>?_) hs rfl));obtain⟨a,xs,e,q⟩:=q1;subst e;cases r1 with
  | cons r rr =>
    cases rr;cases r;have fp:∀b∈[s1.heap.objs.size+1,s1.heap.objs.size],FpOk X pins H1 b:=fun b hb=>by
      have e:s1.heap.objs.size<=b:=by
        rcases Aq.mp hb with rfl | hb
        · exact Nat.le_succ _
        · have e2 : b = s1.heap.objs.size := by simpa using hb
          rw[e2];exact Ag _
      exact I1.fpOk e (I1.hok.fresh e)
    rcases q with ⟨hq,q⟩ | ⟨hq,q⟩
    · obtain ⟨its, rv, p', hz⟩ := I1.list hq
      refine call_enumerate_list p'.isList fun h' he hit hsz hk=>Gs he ?_;exact⟨s1.heap.objs.size+1,[s1.heap.objs.size+1,s1.heap.objs.size],_,_,H1,rfl,I1.kept (t':=s1.toks) hk,zta a _ _ (Nat.succ_ne_self _),⟨⟨_,by simpa using he⟩,hit⟩,fp,q⟩
    · obtain ⟨its, rv, p', hz⟩ := I1.tuple hq
      have hT:s1.heap.IsTuple a its.toArray:=p';have al:a < s1.heap.objs.size:=let ⟨o,e,_⟩:=hT;Ar e;refine zqk hT fun h' he hit hk=>Gs he ?_;exact⟨s1.heap.objs.size+1,[s1.heap.objs.size+1,s1.heap.objs.size],_,_,H1,rfl,I1.kept (t':=s1.toks) hk,zp9 a _ _ (Nat.succ_ne_self _) (Nat.ne_of_gt (Gj al)) (Bi al),⟨⟨_,by simpa using he⟩,hit⟩,fp,q⟩
end
section
variable {K:PySem.W.Frag}{F H:Hp}{σ:St}
theorem zx8 {a:Addr}{vs:List V}{ws:List W}(h:SqT K F a vs)(r:Reps K F ws vs):ItOk K F (IteT K a) (zdx ws 0) where
 go:=fun i H s hi=>by rw[za9] at hi;exact⟨vs,vs[i]'(by rw[<-r.length];exact hi),zch s h,by rw[Ac]⟩
 stop:=fun H s=>⟨vs,zch s h,by rw[za9,r.length];exact Ag _⟩
 yld:=fun i H x H' s hi y=>by
  nofun;obtain⟨p,v,e,hp,e2,y⟩:=y;ac_rfl;subst e e2;obtain⟨w,e,q⟩:=r.getV (y vs (zch s h));refine⟨_,zdb e,?_⟩;rw[Co];exact .tup hp (.cons (.int _) (.cons q .nil))
noncomputable def zfh (g:GE):GL:=fun en=>(g en).bind fun p=>(seqW p.2.1).bind fun ws=>some (p.1,zdx ws 0)
theorem zsx {g:GE}{R:It->Hp->Prop}(h:tI K (zfh g) σ H R):zz6 K (zfg (tE K g) tNil) σ H R:=by
 nofun;obtain⟨F,pr,en,en',ws,Re,h,q⟩:=h;obtain⟨⟨e1,rv⟩,h1,h⟩:=bS h;obtain⟨us,hs,h⟩:=bS h;ac_rfl;cases h;refine⟨F,pr,en,e1,rv,Re,h1,fun F1 H1 v s1 R1 z=>?_⟩;nofun;obtain⟨F2,s2,R2,y⟩:=z.freeze R1;obtain⟨a,k,vs,e,hq,r⟩:=zd0 y hs;ac_rfl;subst e;cases k with
 | true=>exact⟨a,vs,rfl,.inl ⟨R2.sub.seq hq,q F2 H1 _ (s1.trans s2) R2 (z3x hq r)⟩⟩
 | false=>exact⟨a,vs,rfl,.inr ⟨zch R2.sub hq,q F2 H1 _ (s1.trans s2) R2 (zx8 hq r)⟩⟩
end
end L2
namespace L2
open PySem PySem.Spec PyProof.Rows
section
variable {X:Cx}{pins:List (Addr × Obj)}{σ:St}{H:Hp}{s:Shared}
end
section
variable {K:PySem.W.Frag}{F H:Hp}
end
noncomputable abbrev Fn:=List W->Option (List W × (W × Bool))
noncomputable def za7 (m:List Bool) (ws:List W):En:=List.zipWith (fun w b=>some (w,b)) ws m
noncomputable def spF (K:PySem.W.Frag) (m:List Bool) (Φ:Fn):Sp:=fun vs H Q _=>∃F pr ws ws' r,ws.length=m.length/\ws'.length=m.length/\Rel K F pr (za7 m ws) (vs.map some) H/\Φ ws=some (ws',r) /\
 ∀F' H' v,Same F F'->Rel K F' pr (za7 m ws') (vs.map some) H'->Res K F' H' pr (za7 m ws') (vs.map some) r v->Q v H'
theorem zej {m:List Bool}{ws:List W}{k:Nat}{w:W}{b:Bool}:(za7 m ws)[k]?=some (some (w,b))↔ws[k]?=some w/\m[k]?=some b:=by
 unfold za7;rw[List.getElem?_zipWith];cases ws[k]?<;>cases m[k]?<;>simp
theorem zel {m:List Bool}{ws:List W}(h:ws.length=m.length):(za7 m ws).length=m.length:=by
 unfold za7;rw[Eb,h,Nat.min_self]
theorem ztu {K:PySem.W.Frag}{m:List Bool}{Φ:Fn}{vs:List V}{H:Hp}{Q:VK}{E:XK}(h:spF K m Φ vs H Q E):vs.length=m.length:=by
 obtain⟨F,pr,ws,ws',r,h1,_,R,_⟩:=h;have:=R.len;rw[zel h1,Aa] at this;exact this.symm
noncomputable def isR:W ⊕ Nat->Bool
 | .inr _=>true
 | .inl _=>false
noncomputable def zbc (xs:List (W ⊕ Nat)):Cap:=xs.map fun x=>match x with
 | .inr i=>some i
 | .inl _=>none
noncomputable def zax (en:En) (xs:List (W ⊕ Nat)):Bool:=xs.all fun x=>match x with
  | .inr i=>match en[i]? with
    | some (#v[_,5])=>true
    | _=>false
  | .inl _=>true
noncomputable def zae (m:List Bool) (Φ:Fn) (as:GAs):GE:=fun en=>(as en).bind fun p=>if decide (p.2.map isR=m) && zax p.1 p.2 && zcs (zbc p.2) then (za2 p.1 p.2).bind fun ws=>(Φ ws).bind fun q=>if q.1.length=m.length then some (za8 (zbc p.2) p.1 (za7 m q.1),q.2) else none else none
theorem ArgRs.get {K:PySem.W.Frag}{F:Hp}{σ:St}:∀{xs:List (W ⊕ Nat)}{vs:List V}{k:Nat}{x:W ⊕ Nat},ArgRs K F σ xs vs->xs[k]?=some x->∃v,vs[k]?=some v/\ArgR K F σ x v
  | _,_,_,_,.nil,e=>by simp at e
  | _,_,0,_,.cons h _,e=>by simp at e;subst e;exact⟨_,rfl,h⟩
  | _,_,k+1,x,.cons _ r,e=>by
    obtain⟨v,h1,h2⟩:=ArgRs.get (k:=k) (x:=x) r (by simpa using e);exact⟨v,by simpa using h1,h2⟩
theorem ArgRs.length {K:PySem.W.Frag}{F:Hp}{σ:St}:∀{xs:List (W ⊕ Nat)}{vs:List V},ArgRs K F σ xs vs->xs.length=vs.length
 | _,_,.nil=>rfl
 | _,_,.cons _ r=>congrArg (· + 1) (ArgRs.length r)
theorem zkf {en:En}:∀{xs:List (W ⊕ Nat)}{ws:List W},za2 en xs=some ws->ws.length=xs.length
  | [],_,e=>by obtain rfl:=sI e;rfl
  | x::xs,_,e=>by
    obtain⟨w,_,e⟩:=bS e;obtain⟨ws,h,e⟩:=bS e;obtain rfl:=sI e;exact congrArg (· + 1) (zkf h)
theorem zki {en:En}:∀{xs:List (W ⊕ Nat)}{ws:List W}{k:Nat}{w:W},za2 en xs=some ws->ws[k]?=some w->∃x,xs[k]?=some x/\resA en x=some w
  | [],_,_,_,e,h=>by obtain rfl:=sI e;simp at h
  | x::xs,_,k,w,e,h=>by
    obtain⟨u,hu,e⟩:=bS e;obtain⟨us,h2,e⟩:=bS e;obtain rfl:=sI e;cases k with
    | zero=>simp at h;subst h;exact⟨x,rfl,hu⟩
    | succ k=>obtain⟨y,h3,h4⟩:=zki (k:=k) h2 (by simpa using h);exact⟨y,by simpa using h3,h4⟩
theorem zer {xs:List (W ⊕ Nat)}{k i:Nat}:(zbc xs)[k]?=some (some i)↔xs[k]?=some (.inr i):=by
 unfold zbc;rw[Am];cases e:xs[k]? with
 | none=>simp
 | some x=>cases x<;>simp
section
variable {K:PySem.W.Frag}{F H:Hp}{pr:Prt}{en:En}{σ:St}
theorem Rel.back {cap:Cap}{F' H' : Hp}{ce:En}{σc:St} (R:Rel K F pr en σ H) (s:Same F F') (Rc:Rel K F' (zce pr cap en σ H) ce σc H') (slot:∀(i j:Nat) (v:V),zav cap i=some j->σc[j]?=some (some v)->σ[i]?=some (some v)) :
    Rel K F' pr (za8 cap en ce) σ H'/\∀r v,Res K F' H' (zce pr cap en σ H) ce σc r v->Res K F' H' pr (za8 cap en ce) σ r v:=by
  have un:∀(i:Nat) (w:W),zav cap i=none->en[i]?=some (some (w,true))->∃(a:Addr) (vs:HO) (ws:W),w=ws/\σ[i]?=some (some (V.ref a))/\H a=some vs/\H' a=some vs/\F' a=none/\OwnR K F ws vs/\∀(j:Nat) (w' : W),ce[j]?=some (some (w',true))->σc[j]?≠some (some (V.ref a)):=fun i w c e=>by
    obtain⟨a,vs,ws,h1,h2,h3,h4,h5⟩:=R.own i w e;obtain⟨b1,b2,b3⟩:=Rc.prt a vs (.inr ⟨i,w,e,c,h2,h3⟩);exact⟨a,vs,ws,h1,h2,h3,b1,b2,h5,b3⟩
  have capt:∀(i j:Nat) (w:W),zav cap i=some j->ce[j]?=some (some (w,true))->∃(a:Addr) (vs:HO) (ws:W),w=ws/\σ[i]?=some (some (V.ref a))/\σc[j]?=some (some (V.ref a))/\H' a=some vs/\F' a=none/\OwnR K F' ws vs:=fun i j w c e=>by
    obtain⟨a,vs,ws,h1,h2,h3,h4,h5⟩:=Rc.own j w e;exact⟨a,vs,ws,h1,slot i j _ c h2,h2,h3,h4,h5⟩
  refine⟨⟨by unfold za8;rw[List.length_mapIdx];exact R.len,Rc.sub,fun i w e=>?_,fun i w e=>?_,fun i k a w w' e1 e2 q1 q2=>?_,fun b o q=>?_,Rc.tb.go (fun b ps e f=>⟨e,f⟩) (.refl F') fun b ps e hh o z=>hh o (.inl z)⟩,fun r v z=>?_⟩
  · rcases backEn_get e with ⟨j, c, e⟩ | ⟨c, e⟩
    · obtain ⟨v, h1, h2⟩ := Rc.val j w e
      exact⟨v,slot i j v c h1,h2⟩
    · obtain ⟨v, h1, h2⟩ := R.val i w e
      exact⟨v,h1,h2.mono s⟩
  · rcases backEn_get e with ⟨j, c, e⟩ | ⟨c, e⟩
    · obtain ⟨a, vs, ws, h1, h2, _, h3, h4, h5⟩ := capt i j w c e
      exact⟨a,vs,ws,h1,h2,h3,h4,h5⟩
    · obtain ⟨a, vs, ws, h1, h2, _, h3, h4, h5, _⟩ := un i w c e
      exact⟨a,vs,ws,h1,h2,h3,h4,h5.mono s⟩
  · rcases backEn_get e1 with ⟨j, c, e1⟩ | ⟨c, e1⟩
    · obtain ⟨a', _, _, _, h2, h3, _⟩ := capt i j w c e1
      rw[q1] at h2;cases h2;rcases backEn_get e2 with ⟨l,c2,e2⟩ | ⟨c2,e2⟩
      · obtain ⟨a', _, _, _, g2, g3, _⟩ := capt k l w' c2 e2
        rw[q2] at g2;cases g2;have:=Rc.inj j l a _ _ e1 e2 h3 g3;subst this;have x:=zbh c;rw[zbh c2] at x;cases x;rfl
      · obtain ⟨a', _, _, _, g2, _, _, _, _, g3⟩ := un k w' c2 e2
        rw[q2] at g2;cases g2;exact absurd h3 (g3 j w e1)
    · obtain ⟨a', _, _, _, h2, _, _, _, _, h3⟩ := un i w c e1
      rw[q1] at h2;cases h2;rcases backEn_get e2 with ⟨l,c2,e2⟩ | ⟨c2,e2⟩
      · obtain ⟨a', _, _, _, g2, g3, _⟩ := capt k l w' c2 e2
        rw[q2] at g2;cases g2;exact absurd g3 (h3 l w' e2)
      · exact R.inj i k a _ _ e1 e2 q1 q2
  · obtain ⟨b1, b2, b3⟩ := Rc.prt b o (.inl q)
    refine⟨b1,b2,fun i w e=>?_⟩;rcases backEn_get e with ⟨j,c,e⟩ | ⟨c,e⟩
    · obtain ⟨a, _, _, _, h2, h3, _⟩ := capt i j w c e
      rw[h2];intro z;cases z;exact b3 j w e h3
    · exact (R.prt b o q).2.2 i w e
  · obtain ⟨w, fl⟩ := r
    cases fl with
    | false=>exact z
    | true =>
      obtain⟨a,vs,ws,q1,q2,q3,q4,q5,q6,q7⟩:=z;refine⟨a,vs,ws,q1,q2,q3,q4,q5,fun i w' e=>?_,fun b o p=>q7 b o (.inl p)⟩;rcases backEn_get e with ⟨j,c,e⟩ | ⟨c,e⟩
      · obtain ⟨a', _, _, _, h2, h3, _⟩ := capt i j w' c e
        rw[h2];intro z;cases z;exact q6 j w' e h3
      · obtain ⟨a', vs', ws', h1, h2, h3, h4, h5⟩ := R.own i w' e
        rw[h2];intro z;cases z;exact q7 a vs' (.inr ⟨i,w',e,c,h2,h3⟩) rfl
theorem z3h {m:List Bool}{Φ:Fn}{xs:List (W ⊕ Nat)}{e1 en' : En}{F1 H1:Hp}{vs:List V}{r:W × Bool}{Q:VK}{E:XK} (R1:Rel K F1 pr e1 σ H1) (a1:ArgRs K F1 σ xs vs)
    (h:(if decide (xs.map isR=m) && zax e1 xs && zcs (zbc xs) then (za2 e1 xs).bind fun ws=>(Φ ws).bind fun q=>if q.1.length=m.length then some (za8 (zbc xs) e1 (za7 m q.1),q.2) else none else none)=some (en',r))
    (q:∀F' H' v,Same F1 F'->Rel K F' pr en' σ H'->Res K F' H' pr en' σ r v->Q v H'):spF K m Φ vs H1 Q E:=by
  split at h
  · rename_i z
    rw[Ai,Ai] at z;obtain⟨⟨z1,z2⟩,nd⟩:=z;have hm:xs.map isR=m:=As z1;nofun;obtain⟨ws,h2,h⟩:=bS h;obtain⟨⟨ws',r'⟩,h3,h⟩:=bS h;ac_rfl;split at h
    · rename_i hl
      cases h;have lx:ws.length=xs.length:=zkf h2;have lm:xs.length=m.length:=by rw[<-hm,Aa]
      have lv:=a1.length;have at' : ∀(k:Nat) (w:W) (b:Bool),(za7 m ws)[k]?=some (some (w,b))->∃x v,xs[k]?=some x/\isR x=b/\resA e1 x=some w/\vs[k]?=some v/\ArgR K F1 σ x v:=fun k w b e=>by
        nofun;obtain⟨g1,g2⟩:=zej.mp e;obtain⟨x,g3,g4⟩:=zki h2 g1;obtain⟨v,g5,g6⟩:=a1.get g3;ac_rfl;rw[<-hm,Am,g3] at g2;exact⟨x,v,g3,sI g2,g4,g5,g6⟩
      have ow:∀(k:Nat) (w:W),(za7 m ws)[k]?=some (some (w,true))->∃i v,xs[k]?=some (.inr i)/\e1[i]?=some (some (w,true))/\vs[k]?=some v/\σ[i]?=some (some v):=fun k w e=>by
        nofun;obtain⟨x,v,g1,g2,g3,g4,g5⟩:=at' k w true e;ac_rfl;cases x with
        | inl _=>cases g2
        | inr i =>
          refine⟨i,v,g1,?_,g4,g5⟩;have o:=Bg.mp z2 _ (At g1);simp only at o;split at o
          · rename_i w0 e0
            unfold resA at g3;simp only [e0] at g3;obtain rfl:=sI g3;exact e0
          · cases o
      have RC:Rel K F1 (zce pr (zbc xs) e1 σ H1) (za7 m ws) (vs.map some) H1:=by
        refine⟨by rw[zel #v[],Aa];omega,R1.sub,fun k w e=>?_,fun k w e=>?_,fun k l a w w' g1 g2 g3 g4=>?_,fun b o p=>?_,R1.tb.go (fun b ps e f=>⟨e,f⟩) (.refl F1) fun b ps e hh o z=>zh8 R1 e hh o z⟩
        · refine aG fun Gg qG => ?_
          obtain⟨x,v,g1,g2,g3,g4,g5⟩:=at' k w false e;ac_rfl;cases x with
          | inr _=>cases g2
          | inl u=>obtain rfl:=sI g3;exact⟨v,by rw[Am,g4];rfl,g5⟩
        · refine aG fun Gg qG => ?_
          obtain⟨i,v,g1,g2,g3,g4⟩:=ow k w e;obtain⟨a,us,wz,p1,p2,p3,p4,p5⟩:=R1.own i w g2;ac_rfl;rw[g4] at p2;cases p2;exact⟨a,us,wz,p1,by rw[Am,g3];rfl,p3,p4,p5⟩
        · refine aG fun Gg qG => ?_
          obtain⟨i,v,k1,k2,k3,k4⟩:=ow k w g1;obtain⟨i',v',l1,l2,l3,l4⟩:=ow l w' g2;ac_rfl;rw[Am,k3] at g3;cases g3;rw[Am,l3] at g4;cases g4;have:=R1.inj i i' a _ _ k2 l2 k4 l4;subst this;have y:=zfn nd (zer.mpr k1);rw[zfn nd (zer.mpr l1)] at y;exact (sI y).symm
        · rcases p with p | ⟨j, w, p1, p2, p3, p4⟩
          · obtain ⟨b1, b2, b3⟩ := R1.prt b o p
            refine⟨b1,b2,fun k w e=>?_⟩;nofun;obtain⟨i,v,g1,g2,g3,g4⟩:=ow k w e;ac_rfl;rw[Am,g3];intro y;cases y;exact b3 i w g2 g4
          · refine aG fun Gg qG => ?_
            obtain⟨a,us,wz,p1',p2',p3',p4',p5'⟩:=R1.own j w p1;ac_rfl;rw[p3] at p2';cases p2';refine⟨p4,p4',fun k w' e=>?_⟩;nofun;obtain⟨i,v,g1,g2,g3,g4⟩:=ow k w' e;ac_rfl;rw[Am,g3];intro y;cases y;have:=R1.inj i j _ _ _ g2 p1 g4 p3;subst this;exact zc3 p2 k (zer.mpr g1)
      refine ⟨F1,zce pr (zbc xs) e1 σ H1,ws,ws',_,by omega,hl,RC,h3,fun F2 H2 v s2 R2 y2=>?_⟩;obtain ⟨Ro,rz⟩:=R1.back s2 R2 fun i j v c e=>by
        have c':=zer.mp (zbh c);obtain⟨v',g1,g2⟩:=a1.get c';rw[Am,g1] at e;cases e;exact g2
      exact q F2 H2 v s2 Ro (rz _ _ y2)
    · cases h
  · cases h
theorem zs2 {m:List Bool}{Φ:Fn}{as:GAs}{Q:VK}(h:tE K (zae m Φ as) σ H Q):z12 (spF K m Φ) [] E0 (tAs K as) σ H Q:=by
 nofun;obtain⟨F,pr,en,en',r,R,h,q⟩:=h;obtain⟨⟨e1,xs⟩,h1,h⟩:=bS h;ac_rfl;refine⟨F,pr,en,e1,xs,R,h1,fun F1 H1 vs s1 R1 a1=>?_⟩;show spF K m Φ (vs++[]) H1 Q E0;rw[Bt];exact z3h R1 a1 h fun F' H' v s'=>q F' H' v (s1.trans s')
end
noncomputable def zcp:List Bool->List W->En->Option (List W)
 | [],[],_=>some []
 | true::m,_::ws,#v[w,5]::en=>(zcp m ws en).bind fun r=>some (w::r)
 | false::m,w::ws,_::en=>(zcp m ws en).bind fun r=>some (w::r)
 | _,_,_=>none
noncomputable def mpOf (m:List Bool):List Nat:=(List.range m.length).filter fun k=>m[k]? == some true
noncomputable def zal (m:List Bool) (n:Nat) (g:GS):Fn:=fun ws=>if ws.length=m.length then match g (za7 m ws++List.replicate (n - m.length) none) with
 | some (en,.ret r)=>(zcp m ws en).bind fun ws'=>some (ws',r)
 | some (en,.nx)=>(zcp m ws en).bind fun ws'=>some (ws',(.non,false))
 | _=>none else none
theorem zjc:∀{m:List Bool}{ws:List W}{en:En}{ws' : List W},zcp m ws en=some ws'->ws'.length=m.length/\∀(k:Nat) (w:W),ws'[k]?=some w->(m[k]?=some true->en[k]?=some (some (w,true)))/\(m[k]?=some false->ws[k]?=some w)
  | [],[],_,_,e=>by obtain rfl:=sI e;exact⟨rfl,fun k w h=>by simp at h⟩
  | true::m,_::ws,some (u,true)::en,_,e=>by
    obtain⟨r,h,e⟩:=bS (show (zcp m ws en).bind _=_ from e);obtain rfl:=sI e;obtain⟨h1,h2⟩:=zjc h;refine⟨congrArg (· + 1) h1,fun k w hk=>?_⟩;cases k with
    | zero=>simp at hk;subst hk;exact⟨fun _=>rfl,fun z=>by simp at z⟩
    | succ k =>
      have:=h2 k w (by simpa using hk);exact⟨fun z=>by simpa using this.1 (by simpa using z),fun z=>by simpa using this.2 (by simpa using z)⟩
  | false::m,u::ws,_::en,_,e=>by
    obtain⟨r,h,e⟩:=bS (show (zcp m ws en).bind _=_ from e);obtain rfl:=sI e;obtain⟨h1,h2⟩:=zjc h;refine⟨congrArg (· + 1) h1,fun k w hk=>?_⟩;cases k with
    | zero=>simp at hk;subst hk;exact⟨fun z=>by simp at z,fun _=>rfl⟩
    | succ k =>
      have:=h2 k w (by simpa using hk);exact⟨fun z=>by simpa using this.1 (by simpa using z),fun z=>by simpa using this.2 (by simpa using z)⟩
  | [],_::_,_,_,e=>by exact noSome e
  | true::_,[],_,_,e=>by exact noSome e
  | false::_,[],_,_,e=>by exact noSome e
  | true::_,_::_,[],_,e=>by exact noSome e
  | false::_,_::_,[],_,e=>by exact noSome e
  | true::_,_::_,none::_,_,e=>by exact noSome e
  | true::_,_::_,#v[_,6]::_,_,e=>by exact noSome e
theorem z36 {K:PySem.W.Frag}{m:List Bool}{N:List Str}{g:GS}{vs:List V}{H:Hp}{Q:VK}{E:XK} (h:spF K m (zal m N.length g) vs H Q E):tS K (mpOf m) g { nx:=fun _ H'=>Q .non H',rt:=Q } (start N vs) H:=by
  have hv:=ztu h;refine aG fun _ qG=>?_;obtain ⟨F,pr,ws,ws',r,h1,h2,R,h3,q⟩:=h;refine qG ?_;clear qG;unfold zal at h3;rw [if_pos h1] at h3;have la:=zel h1;have pad:∀(i:Nat) (x:W × Bool),(za7 m ws++List.replicate (N.length - m.length) none)[i]?=some (some x)->(za7 m ws)[i]?=some (some x):=fun i x e=>by
    by_cases hi:i < (za7 m ws).length
    · rw[De hi] at e;exact e
    · rw [Ez (by omega), List.getElem?_replicate] at e
      split at e<;>cases e
  have st:∀(i:Nat) (v:V),(vs.map some)[i]?=some (some v)->(start N vs)[i]?=some (some v):=fun i v e=>by
    unfold start;rw[De (by have:=(An.mp e).1;exact this)];exact e
  have st' : ∀(i:Nat) (v:V),i < m.length->(start N vs)[i]?=some (some v)->(vs.map some)[i]?=some (some v):=fun i v hi e=>by
    unfold start at e;rw[De (by rw[Aa];omega)] at e;exact e
  have R0:Rel K F pr (za7 m ws++List.replicate (N.length - m.length) none) (start N vs) H:=by
    refine⟨?_,R.sub,fun i w e=>?_,fun i w e=>?_,fun i j a w w' e1 e2 q1 q2=>?_,fun b o p=>?_,R.tb⟩
    · unfold start
      rw[Bf,Bf,Eu,Eu,Aa,la,hv]
    · obtain ⟨v, g1, g2⟩ := R.val i w (pad i _ e)
      exact⟨v,st i v g1,g2⟩
    · refine aG fun Gg qG => ?_
      obtain⟨a,us,wz,g1,g2,g3⟩:=R.own i w (pad i _ e);ac_rfl;exact⟨a,us,wz,g1,st i _ g2,g3⟩
    · have l1 : i < m.length := by have := (An.mp (pad i _ e1)).1; omega
      have l2:j < m.length:=by have:=(An.mp (pad j _ e2)).1;omega
      exact R.inj i j a w w' (pad i _ e1) (pad j _ e2) (st' i _ l1 q1) (st' j _ l2 q2)
    · obtain ⟨b1, b2, b3⟩ := R.prt b o p
      refine⟨b1,b2,fun i w e z=>?_⟩;have l1:i < m.length:=by have:=(An.mp (pad i _ e)).1;omega
      exact b3 i w (pad i _ e) (st' i _ l1 z)
  have back:∀(en:En) (wz:List W) (F' : Hp) (σ' : St) (H' : Hp),zcp m ws en=some wz->Same F F'->Rel K F' pr en σ' H'->Keep (mpOf m) (start N vs) σ' ->
      Rel K F' pr (za7 m wz) (vs.map some) H'/\∀r v,Res K F' H' pr en σ' r v->Res K F' H' pr (za7 m wz) (vs.map some) r v:=fun en wz F' σ' H' ho s' R' k'=>by
    obtain ⟨o1,o2⟩:=zjc ho;have own:∀(k:Nat) (w:W),(za7 m wz)[k]?=some (some (w,true))->en[k]?=some (some (w,true))/\∀v,σ'[k]?=some (some v)↔(vs.map some)[k]?=some (some v):=fun k w e=>by
      obtain⟨g1,g2⟩:=zej.mp e;have lk:k < m.length:=(An.mp g2).1;have hk:k∈mpOf m:=Ca.mpr ⟨Bj.mpr lk,by rw[g2];simp⟩;refine⟨(o2 k w g1).1 g2,fun v=>?_⟩;rw[k' k hk];exact⟨st' k v lk,st k v⟩
    refine⟨⟨by rw[zel o1,Aa,hv],R'.sub,fun k w e=>?_,fun k w e=>?_,fun k l a w w' e1 e2 q1 q2=>?_,fun b o p=>?_,R'.tb⟩,fun r v z=>?_⟩
    · refine aG fun Gg qG => ?_
      obtain⟨g1,g2⟩:=zej.mp e;obtain⟨v,g3,g4⟩:=R.val k w (zej.mpr ⟨(o2 k w g1).2 g2,g2⟩);ac_rfl;exact⟨v,g3,g4.mono s'⟩
    · refine aG fun Gg qG => ?_
      obtain⟨g1,g2⟩:=own k w e;obtain⟨a,us,wz,p1,p2,p3⟩:=R'.own k w g1;ac_rfl;exact⟨a,us,wz,p1,(g2 _).mp p2,p3⟩
    · obtain ⟨g1, g2⟩ := own k w e1
      obtain⟨g3,g4⟩:=own l w' e2;exact R'.inj k l a _ _ g1 g3 ((g2 _).mpr q1) ((g4 _).mpr q2)
    · obtain ⟨b1, b2, b3⟩ := R'.prt b o p
      refine⟨b1,b2,fun k w e z=>?_⟩;obtain⟨g1,g2⟩:=own k w e;exact b3 k w g1 ((g2 _).mpr z)
    · obtain ⟨w0, fl⟩ := r
      cases fl with
      | false=>exact z
      | true =>
        nofun;obtain⟨a,us,wz',q1,q2,q3,q4,q5,q6,q7⟩:=z;ac_rfl;refine⟨a,us,wz',q1,q2,q3,q4,q5,fun k w e y=>?_,q7⟩;obtain⟨g1,g2⟩:=own k w e;exact q6 k w g1 ((g2 _).mpr y)
  cases eg:g (za7 m ws++List.replicate (N.length - m.length) none) with
  | none=>simp only [eg] at h3;exact noSome h3
  | some p =>
    obtain⟨en,fl⟩:=p;refine⟨F,pr,_,en,fl,R0,eg,?_⟩;cases fl with
    | brk=>simp only [eg] at h3;exact noSome h3
    | cnt=>simp only [eg] at h3;exact noSome h3
    | nx =>
      simp only [eg] at h3;obtain⟨wz,ho,h3⟩:=bS h3;cases h3;intro F' σ' H' s' R' k';obtain⟨Rb,_⟩:=back en ws' F' σ' H' ho s' R' k';exact q F' H' .non s' Rb .non
    | ret r' =>
      simp only [eg] at h3;obtain⟨wz,ho,h3⟩:=bS h3;cases h3;intro F' σ' H' v s' R' k' z;obtain⟨Rb,rb⟩:=back en ws' F' σ' H' ho s' R' k';exact q F' H' v s' Rb (rb _ _ z)
end L2
set_option maxHeartbeats 4000000
namespace L2
open PySem PyProof.Rows
namespace Tim
noncomputable def gal:Bool->Keyed->Array Keyed->Nat->Nat->Nat->StateT SortSt Sem (Option Nat):=sortPriv% PySem.Builtin.gallop
noncomputable def mLo:Array Keyed->Array Keyed->StateT SortSt Sem (Array Keyed):=sortPriv% PySem.Builtin.mergeLo
noncomputable def mHi:Array Keyed->Array Keyed->StateT SortSt Sem (Array Keyed):=sortPriv% PySem.Builtin.mergeHi
theorem aG {P:Prop}(h:∀G:Prop,(P->G)->G):P:=h P id
structure Ord (lt:Keyed->Keyed->Bool) (bf le:Keyed->Keyed->Prop):Prop where
 tr:∀{x y z},le x y->le y z->le x z
 tot:∀x y,le x y\/le y x
 f1:∀{x y},bf x y->(lt y x=false↔le x y)
 f2:∀{x y},lt x y=true->le x y
 irr:∀x,lt x x=false
 ltr:∀{x y z},lt x y=true->lt y z=true->lt x z=true
 nt:∀{x z} (y),lt x z=true->lt x y=true\/lt y z=true
section
variable {lt:Keyed->Keyed->Bool}{bf le:Keyed->Keyed->Prop} (O:Ord lt bf le)
include O
theorem Ord.rf (x:Keyed):le x x:=(O.tot x x).elim id id
theorem Ord.f3 {x y:Keyed}(h:bf x y)(q:lt y x=true):¬ le x y:=fun z=>by rw[(O.f1 h).mpr z] at q;cases q
end
noncomputable abbrev d0:Keyed:=(Value.none,Value.none)
noncomputable def G (xs:Array Keyed) (i:Nat):Keyed:=(xs[i]?).getD d0
theorem zz1 {xs:Array Keyed}{i:Nat}(h:i < xs.size):xs[i]?=some (G xs i):=by unfold G;rw[getElem?_pos xs i h];rfl
theorem z3z {xs a₀:Array Keyed}(p:xs.Perm a₀){i:Nat}(h:i < xs.size):G xs i∈a₀.toList:=by
 refine (Gf.mp p).mem_iff.mp ?_;unfold G;rw[getElem?_pos xs i h];simp
theorem zgf {xs ys:Array Keyed}{i j:Nat}(h:xs[i]?=ys[j]?):G xs i=G ys j:=by unfold G;rw[h]
noncomputable def Asks (prog:Program) (w:World) (A:Around) (E:Value->Shared->Prop) (s:Shared) (κ:SortKind) (a₀:Array Keyed) (lt:Keyed->Keyed->Bool):Prop :=
 ∀(x y:Keyed) (st:SortSt) (Q:Option Bool->SortSt->Prop),x∈a₀.toList->y∈a₀.toList->kindOf st=κ->Q (some (lt x y)) st->wpS (model prog w) A E s (lt' x y) Q st
section
variable {prog:Program}{w:World}{A:Around}{E:Value->Shared->Prop}{s:Shared}{κ:SortKind}{a₀:Array Keyed}{lt:Keyed->Keyed->Bool}{st:SortSt}
theorem zaz {arr:Array Keyed}{i:Nat}{Q:Keyed->SortSt->Prop}(hi:i < arr.size)(h:Q (G arr i) st):wpS (model prog w) A E s (elem' arr i) Q st:=by
 rw[elem'_eq,zz1 hi];exact Aw h
theorem zhu {i j:Nat}{Q:Option Bool->SortSt->Prop} (C:Asks prog w A E s κ a₀ lt) (hk:kindOf st=κ) (p:(arrOf st).Perm a₀) (hi:i < a₀.size) (hj:j < a₀.size) (h:Q (some (lt (G (arrOf st) i) (G (arrOf st) j))) st) :
  wpS (model prog w) A E s (ltAt' i j) Q st:=by
 have e:=p.size_eq;rw[ltAt'_eq];refine Ao (Gu ?_);exact Ao (zaz #v[] (Ao (zaz #v[] (C _ _ _ _ (z3z p #v[]) (z3z p #v[]) hk h))))
theorem zp3 {left:Bool}{key:Keyed}{arr:Array Keyed}{base n hint:Nat}{B:Nat->Bool}{Q:Option Nat->SortSt->Prop} (C:Asks prog w A E s κ a₀ lt) (hk:kindOf st=κ) (hkey:key∈a₀.toList)
    (hs:base+n<=arr.size) (hm:∀i,i < n->G arr (base+i)∈a₀.toList) (hB:∀i,i < n->B i=if left then lt (G arr (base+i)) key else !lt key (G arr (base+i)))
    (mono:∀i j,i<=j->j < n->B j=true->B i=true) (hh:hint < n)
    (h:∀k,k<=n->(∀i,i < k->B i=true)->(∀i,k<=i->i < n->B i=false)->Q (some k) st):wpS (model prog w) A E s (gal left key arr base n hint) Q st:=by
  have mono' : ∀i j,i<=j->j < n->B i=false->B j=false:=fun i j h1 h2 h3=>by
    cases q:B j with
    | false=>rfl
    | true=>rw[mono i j h1 h2 q] at h3;cases h3
  let beyond:Nat->StateT SortSt Sem (Option Bool):=fun i=>do
    let x <- elem' arr (base+i)
    if left=true then lt' x key else do
      let r <- lt' key x
      pure (r.map (!·))
  have hb:∀(i:Nat) (R:Option Bool->SortSt->Prop),i < n->R (some (B i)) st->wpS (model prog w) A E s (beyond i) R st:=fun i R hi hR=>by
    refine Ao (zaz #v[] ?_);have e:=hB i hi;cases left with
    | true =>
      rw[if_pos rfl] at e;rw[if_pos rfl];exact C _ _ _ _ (hm i hi) hkey hk (by rw[<-e];exact hR)
    | false =>
      rw[if_neg #v[0,9]] at e;rw[if_neg #v[0,9]];exact Ao (C _ _ _ _ hkey (hm i hi) hk (Aw (by show R (some (!lt key (G arr (base+i)))) st;rw[<-e];exact hR)))
  show wpS (model prog w) A E s (do let o <- beyond hint;_) Q st;refine Ao (hb _ _ hh ?_);cases q:B hint with
  | true =>
    refine Ao (Ds (Ch (I:=fun x c st'=>st'=st/\∃l o,c=(none,l,o)/\l < o/\x < o/\hint+l < n/\B (hint+l)=true)
      (Q:=fun c st'=>st'=st/\∃l o,c=(none,l,o)/\l < o/\hint+l < n/\B (hint+l)=true/\(n - hint<=o\/hint+o < n/\B (hint+o)=false)) ?step ?fin ⟨rfl,0,1,rfl,by omega,by omega,by omega,q⟩) ?post)
    case fin =>
      rintro c st' ⟨rfl,l,o,rfl,a1,a2,a3,a4⟩;exact⟨rfl,l,o,rfl,a1,a3,a4,.inl #v[]⟩
    case step =>
      rintro x c st' _ hx ⟨rfl,l,o,rfl,a1,a2,a3,a4⟩;dsimp only;by_cases g:o ≥ n - hint
      · rw [if_pos g]
        exact Aw ⟨rfl,l,o,rfl,a1,a3,a4,.inl g⟩
      · rw [if_neg g]
        refine Ao (hb _ _ #v[] ?_);cases q2:B (hint+o) with
        | true =>
          dsimp only;rw[if_neg #v[0,9]];exact Aw ⟨rfl,o,2 * o+1,rfl,by omega,by omega,by omega,q2⟩
        | false =>
          dsimp only;rw[if_pos #v[0,9]];exact Aw ⟨rfl,l,o,rfl,a1,a3,a4,.inr ⟨by omega,q2⟩⟩
    case post =>
      rintro c st' ⟨rfl,l,o,rfl,a1,a3,a4,a5⟩;dsimp only;refine Ao (Ds (Ch (I:=fun x c st''=>st''=st'/\∃lo hi,c=(none,lo,hi)/\lo<=hi/\hi<=n/\hi - lo<=n - x/\(∀i,i < lo->B i=true)/\∀i,hi<=i->i < n->B i=false)
        (Q:=fun c st''=>st''=st'/\∃lo hi,c=(none,lo,hi)/\lo=hi/\hi<=n/\(∀i,i < lo->B i=true)/\∀i,hi<=i->i < n->B i=false) ?s3 ?f3 ⟨rfl,hint+l+1,hint+min o (n - hint),rfl,by omega,by omega,by omega,fun i hi=>mono i _ #v[] a3 a4,fun i h1 h2=>a5.elim (fun a5=>by omega) fun a5=>mono' _ i #v[] h2 a5.2⟩) ?p3)
      case f3 =>
        rintro c st'' ⟨rfl,lo,hi,rfl,a1,a2,a3,a4,a5⟩;exact⟨rfl,lo,hi,rfl,by omega,a2,a4,a5⟩
      case s3 =>
        rintro x c st'' _ hx ⟨rfl,lo,hi,rfl,a1,a2,a3,a4,a5⟩;dsimp only;by_cases g:lo ≥ hi
        · rw [if_pos g]
          exact Aw ⟨rfl,lo,hi,rfl,by omega,a2,a4,a5⟩
        · rw [if_neg g]
          refine Ao (hb _ _ #v[] ?_);cases q:B (lo+(hi - lo) / 2) with
          | true =>
            dsimp only;rw[if_pos rfl];refine Aw ⟨rfl,lo+(hi - lo) / 2+1,hi,rfl,by omega,a2,by omega,fun i hi'=>?_,a5⟩;exact mono i _ #v[] #v[] q
          | false =>
            dsimp only;rw[if_neg #v[0,9]];refine Aw ⟨rfl,lo,lo+(hi - lo) / 2,rfl,by omega,by omega,by omega,a4,fun i h1 h2=>?_⟩;exact mono' _ i h1 h2 q
      case p3 =>
        rintro c st'' ⟨rfl,lo,hi,rfl,rfl,a2,a4,a5⟩;exact Aw (h lo a2 a4 a5)
  | false =>
    refine Ao (Ds (Ch (I:=fun x c st'=>st'=st/\∃l o,c=(none,l,o)/\l < o/\x < o/\l<=hint/\B (hint - l)=false)
      (Q:=fun c st'=>st'=st/\∃l o,c=(none,l,o)/\l < o/\l<=hint/\B (hint - l)=false/\(hint+1<=o\/o<=hint/\B (hint - o)=true)) ?step ?fin ⟨rfl,0,1,rfl,by omega,by omega,by omega,q⟩) ?post)
    case fin =>
      rintro c st' ⟨rfl,l,o,rfl,a1,a2,a3,a4⟩;exact⟨rfl,l,o,rfl,a1,a3,a4,.inl #v[]⟩
    case step =>
      rintro x c st' _ hx ⟨rfl,l,o,rfl,a1,a2,a3,a4⟩;dsimp only;by_cases g:o ≥ hint+1
      · rw [if_pos g]
        exact Aw ⟨rfl,l,o,rfl,a1,a3,a4,.inl g⟩
      · rw [if_neg g]
        refine Ao (hb _ _ #v[] ?_);cases q2:B (hint - o) with
        | true =>
          dsimp only;rw[if_pos rfl];exact Aw ⟨rfl,l,o,rfl,a1,a3,a4,.inr ⟨by omega,q2⟩⟩
        | false =>
          dsimp only;rw[if_neg #v[0,9]];exact Aw ⟨rfl,o,2 * o+1,rfl,by omega,by omega,by omega,q2⟩
    case post =>
      rintro c st' ⟨rfl,l,o,rfl,a1,a3,a4,a5⟩;dsimp only;refine Ao (Ds (Ch (I:=fun x c st''=>st''=st'/\∃lo hi,c=(none,lo,hi)/\lo<=hi/\hi<=n/\hi - lo<=n - x/\(∀i,i < lo->B i=true)/\∀i,hi<=i->i < n->B i=false)
        (Q:=fun c st''=>st''=st'/\∃lo hi,c=(none,lo,hi)/\lo=hi/\hi<=n/\(∀i,i < lo->B i=true)/\∀i,hi<=i->i < n->B i=false) ?s4 ?f4 ⟨rfl,hint+1 - min o (hint+1),hint - l,rfl,by omega,by omega,by omega,fun i hi=>a5.elim (fun a5=>by omega) fun a5=>mono i _ #v[] #v[] a5.2,fun i h1 h2=>mono' _ i h1 h2 a4⟩) ?p4)
      case f4 =>
        rintro c st'' ⟨rfl,lo,hi,rfl,a1,a2,a3,a4,a5⟩;exact⟨rfl,lo,hi,rfl,by omega,a2,a4,a5⟩
      case s4 =>
        rintro x c st'' _ hx ⟨rfl,lo,hi,rfl,a1,a2,a3,a4,a5⟩;dsimp only;by_cases g:lo ≥ hi
        · rw [if_pos g]
          exact Aw ⟨rfl,lo,hi,rfl,by omega,a2,a4,a5⟩
        · rw [if_neg g]
          refine Ao (hb _ _ #v[] ?_);cases q:B (lo+(hi - lo) / 2) with
          | true =>
            dsimp only;rw[if_pos rfl];refine Aw ⟨rfl,lo+(hi - lo) / 2+1,hi,rfl,by omega,a2,by omega,fun i hi'=>?_,a5⟩;exact mono i _ #v[] #v[] q
          | false =>
            dsimp only;rw[if_neg #v[0,9]];refine Aw ⟨rfl,lo,lo+(hi - lo) / 2,rfl,by omega,by omega,by omega,a4,fun i h1 h2=>?_⟩;exact mono' _ i h1 h2 q
      case p4 =>
        rintro c st'' ⟨rfl,lo,hi,rfl,rfl,a2,a4,a5⟩;exact Aw (h lo a2 a4 a5)
end
end Tim
namespace Tim
noncomputable def Srt (le:Keyed->Keyed->Prop) (xs:Array Keyed) (lo hi:Nat):Prop:=∀i j,lo<=i->i < j->j < hi->le (G xs i) (G xs j)
noncomputable def Cut (bf:Keyed->Keyed->Prop) (xs:Array Keyed) (c:Nat):Prop:=∀i j,i < c->c<=j->j < xs.size->bf (G xs i) (G xs j)
structure Re (xs ys:Array Keyed) (lo hi:Nat):Prop where
 perm:ys.Perm xs
 out:∀i,i < lo\/hi<=i->G ys i=G xs i
 inn:∀i,lo<=i->i < hi->∃j,lo<=j/\j < hi/\G ys i=G xs j
theorem Re.refl (xs:Array Keyed)(lo hi:Nat):Re xs xs lo hi:=⟨.refl _,fun _ _=>rfl,fun i h1 h2=>⟨i,h1,h2,rfl⟩⟩
theorem Re.trans {xs ys zs:Array Keyed}{lo hi:Nat}(a:Re xs ys lo hi)(b:Re ys zs lo hi):Re xs zs lo hi :=
 ⟨b.perm.trans a.perm,fun i h=>(b.out i h).trans (a.out i h),fun i h1 h2=>by
  obtain⟨j,g1,g2,e⟩:=b.inn i h1 h2;obtain⟨k,k1,k2,e'⟩:=a.inn j g1 g2;exact⟨k,k1,k2,e.trans e'⟩⟩
theorem Re.mono {xs ys:Array Keyed}{lo hi lo' hi' : Nat}(a:Re xs ys lo hi)(h1:lo'<=lo)(h2:hi<=hi'):Re xs ys lo' hi' :=
 ⟨a.perm,fun i h=>a.out i #v[],fun i g1 g2=>by
  by_cases c:lo<=i/\i < hi
  ·obtain⟨j, k1, k2, e⟩ := a.inn i c.1 c.2;exact⟨j,by omega,by omega,e⟩
  ·exact⟨i,g1,g2,a.out i #v[]⟩⟩
theorem Re.size {xs ys:Array Keyed}{lo hi:Nat}(a:Re xs ys lo hi):ys.size=xs.size:=a.perm.size_eq
theorem Cut.re {bf:Keyed->Keyed->Prop}{xs ys:Array Keyed}{lo hi c:Nat}(h:Cut bf xs c)(a:Re xs ys lo hi)(hs:hi<=xs.size)(hc:c<=lo\/hi<=c):Cut bf ys c:=fun i j h1 h2 h3=>by
 have e:=a.size;have wi:∃i',i' < c/\G ys i=G xs i':=by
  by_cases k:lo<=i/\i < hi
  ·obtain⟨i', g1, g2, e⟩ := a.inn i k.1 k.2;exact⟨i',by omega,e⟩
  ·exact⟨i,h1,a.out i #v[]⟩
 have wj:∃j',c<=j'/\j' < xs.size/\G ys j=G xs j':=by
  by_cases k:lo<=j/\j < hi
  ·obtain⟨j', g1, g2, e⟩ := a.inn j k.1 k.2;exact⟨j',by omega,by omega,e⟩
  ·exact⟨j,h2,by omega,a.out j #v[]⟩
 obtain⟨i',e1,e2⟩:=wi;obtain⟨j',e3,e4,e5⟩:=wj;rw[e2,e5];exact h i' j' e1 e3 e4
theorem Srt.re {le:Keyed->Keyed->Prop}{xs ys:Array Keyed}{lo hi a b:Nat}(h:Srt le xs a b)(r:Re xs ys lo hi)(hc:b<=lo\/hi<=a):Srt le ys a b:=fun i j h1 h2 h3=>by
 rw[r.out i #v[],r.out j #v[]];exact h i j h1 h2 h3
noncomputable def mir (xs:Array Keyed) (i j:Nat):Array Keyed:=mirror xs i j ((j - i) / 2)
theorem zhj {xs:Array Keyed}{i j:Nat}(hj:j<=xs.size)(k:Nat):G (mir xs i j) k=if i<=k/\k < j then G xs (i+j - 1 - k) else G xs k:=by
 have e:=getElem?_mirror_all (i:=i) hj k;unfold mir;by_cases h1:i<=k/\k < j
 ·rw[if_pos h1] at e ⊢;exact zgf e
 ·rw[if_neg h1] at e ⊢;exact zgf e
theorem Re.mir {xs:Array Keyed}{i j:Nat}(hj:j<=xs.size):Re xs (mir xs i j) i j :=
 ⟨mirror_perm _ _ _ _,fun k h=>by rw[zhj hj,if_neg #v[]],fun k h1 h2=>⟨i+j - 1 - k,by omega,by omega,by rw[zhj hj,if_pos ⟨h1,h2⟩]⟩⟩
theorem zw2 {xs:Array Keyed}{src d:Nat}(hs:src < xs.size)(hd:d<=src)(k:Nat):G (bubble xs src d) k=if k=src - d then G xs src else if src - d < k/\k<=src then G xs (k - 1) else G xs k:=by
 have e:=getElem?_bubble hs d hd k;by_cases h1:k=src - d
 ·rw[if_pos h1] at e ⊢;exact zgf e
 ·rw[if_neg h1] at e ⊢;by_cases h2:src - d < k/\k<=src
  ·rw[if_pos h2] at e ⊢;exact zgf e
  ·rw[if_neg h2] at e ⊢;exact zgf e
theorem Re.bub {xs:Array Keyed}{src d:Nat}(hs:src < xs.size)(hd:d<=src):Re xs (bubble xs src d) (src - d) (src+1) :=
 ⟨bubble_perm _ _ _,fun k h=>by rw[zw2 hs hd,if_neg #v[],if_neg #v[]],fun k h1 h2=>by
  rw[zw2 hs hd];by_cases c:k=src - d
  ·exact⟨src,by omega,by omega,by rw[if_pos c]⟩
  ·exact⟨k - 1,by omega,by omega,by rw[if_neg c,if_pos ⟨by omega,by omega⟩]⟩⟩
structure SI (κ:SortKind) (a₀:Array Keyed) (pd:Array (Nat × Nat × Nat)) (st:SortSt):Prop where
 kind:kindOf st=κ
 failed:failedOf st=none
 perm:(arrOf st).Perm a₀
 pend:pendingOf st=pd
theorem SI.size {κ a₀ pd st}(h:SI κ a₀ pd st):(arrOf st).size=a₀.size:=h.perm.size_eq
theorem SI.set {κ a₀ pd st}(h:SI κ a₀ pd st){ys:Array Keyed}(p:ys.Perm (arrOf st)):SI κ a₀ pd (setArr st ys):=⟨h.kind,h.failed,p.trans h.perm,h.pend⟩
section
variable {prog:Program}{w:World}{A:Around}{E:Value->Shared->Prop}{s:Shared}{κ:SortKind}{a₀:Array Keyed}{lt:Keyed->Keyed->Bool}{bf le:Keyed->Keyed->Prop}{st:SortSt}{pd:Array (Nat × Nat × Nat)}
theorem zwf {i j:Nat}{Q:Unit->SortSt->Prop}(h:Q () (setArr st (mir (arrOf st) i j))):wpS (model prog w) A E s (reverseSlice' i j) Q st:=by
 rw[reverseSlice'_eq];exact wpS_modify h
theorem z4s {i j:Nat}{Q:Unit->SortSt->Prop}(h:Q () (setArr st (bubble (arrOf st) i (i - j)))):wpS (model prog w) A E s (moveDown' i j) Q st:=by
 rw[moveDown'_eq];exact wpS_modify h
theorem grp (O:Ord lt bf le) {xs ys:Array Keyed}{lo n c:Nat} (c1:lo<=c) (c2:c < lo+n) (hy:∀k,G ys k=if c<=k/\k < lo+n then G xs (c+(lo+n) - 1 - k) else G xs k)
  (d1:∀i j,lo<=i->i < j->j < c->le (G xs j) (G xs i)) (d2:∀i j,lo<=i->i < c->c<=j->j < lo+n->lt (G xs j) (G xs i)=true)
  (d3:∀i j,c<=i->i < j->j < lo+n->le (G xs i) (G xs j)) (d4:∀i j,c<=i->i < lo+n->c<=j->j < lo+n->lt (G xs i) (G xs j)=false) :
  (∀i j,lo<=i->i < j->j < lo+n->le (G ys j) (G ys i))/\∀y,lt y (G xs (lo+n - 1))=true->∀i,lo<=i->i < lo+n->lt y (G ys i)=true:=by
 constructor
 ·intro i j h1 h2 h3;rw[hy i,hy j];by_cases a:j < c
  ·rw[if_neg #v[], if_neg #v[]];exact d1 i j h1 h2 a
  ·rw[if_pos ⟨by omega, h3⟩];by_cases b:i < c
   ·rw[if_neg #v[]];exact O.f2 (d2 i _ h1 b #v[] #v[])
   ·rw[if_pos ⟨by omega, by omega⟩];exact d3 _ _ #v[] #v[] #v[]
 ·intro y h i h1 h2;rw[hy i];by_cases b:c<=i/\i < lo+n
  ·rw[if_pos b];exact (O.nt _ h).resolve_right (fun q=>by rw[d4 _ _ #v[] #v[] #v[] #v[]] at q;cases q)
  ·rw[if_neg b];exact O.ltr h (d2 i _ h1 #v[] #v[] #v[])
structure DI (lt:Keyed->Keyed->Bool) (le:Keyed->Keyed->Prop) (lo n neq:Nat) (xs:Array Keyed):Prop where
 nq:neq+1<=n
 d1:∀i j,lo<=i->i < j->j < lo+n - (neq+1)->le (G xs j) (G xs i)
 d2:∀i j,lo<=i->i < lo+n - (neq+1)->lo+n - (neq+1)<=j->j < lo+n->lt (G xs j) (G xs i)=true
 d3:∀i j,lo+n - (neq+1)<=i->i < j->j < lo+n->le (G xs i) (G xs j)
 d4:∀i j,lo+n - (neq+1)<=i->i < lo+n->lo+n - (neq+1)<=j->j < lo+n->lt (G xs i) (G xs j)=false
theorem DI.turn (O:Ord lt bf le) {lo n neq:Nat}{xs:Array Keyed} (d:DI lt le lo n neq xs) (hz:lo+n<=xs.size) :
  (∀i j,lo<=i->i < j->j < lo+n->le (G (mir xs (lo+n - (neq+1)) (lo+n)) j) (G (mir xs (lo+n - (neq+1)) (lo+n)) i))/\∀y,lt y (G xs (lo+n - 1))=true->∀i,lo<=i->i < lo+n->lt y (G (mir xs (lo+n - (neq+1)) (lo+n)) i)=true :=
 grp O (by have:=d.nq;omega) (by have:=d.nq;omega) (fun k=>zhj hz k) d.d1 d.d2 d.d3 d.d4
theorem DI.turn0 (O:Ord lt bf le) {lo n:Nat}{xs:Array Keyed} (d:DI lt le lo n 0 xs) :
  (∀i j,lo<=i->i < j->j < lo+n->le (G xs j) (G xs i))/\∀y,lt y (G xs (lo+n - 1))=true->∀i,lo<=i->i < lo+n->lt y (G xs i)=true :=
 grp (c:=lo+n - 1) O (by have:=d.nq;omega) (by have:=d.nq;omega) (fun k=>by
  split
  ·congr 1;omega
  ·rfl) d.d1 d.d2 d.d3 d.d4
theorem DI.next (O:Ord lt bf le){lo n:Nat}{xs:Array Keyed}(h:∀i j,lo<=i->i < j->j < lo+n->le (G xs j) (G xs i))(h2:∀i,lo<=i->i < lo+n->lt (G xs (lo+n)) (G xs i)=true):DI lt le lo (n+1) 0 xs :=
 ⟨by omega,fun i j a b c=>h i j a b #v[],fun i j a b c d=>by
  have e:j=lo+n:=by omega
  rw[e];exact h2 i a #v[],fun i j a b c=>by omega,fun i j a b c d=>by
  have e:j=i:=by omega
  rw[e];exact O.irr _⟩
theorem DI.like (O:Ord lt bf le) {lo n neq:Nat}{xs:Array Keyed} (d:DI lt le lo n neq xs) (hb:∀i,lo<=i->i < lo+n->bf (G xs i) (G xs (lo+n))) (q1:lt (G xs (lo+n)) (G xs (lo+n - 1))=false) (q2:lt (G xs (lo+n - 1)) (G xs (lo+n))=false):DI lt le lo (n+1) (neq+1) xs:=by
  have nq:=d.nq;have ec:lo+(n+1) - (neq+1+1)=lo+n - (neq+1):=by omega
  have t1:∀i,lo+n - (neq+1)<=i->i < lo+n->lt (G xs (lo+n)) (G xs i)=false:=fun i a b=>by
    cases q:lt (G xs (lo+n)) (G xs i) with
    | false=>rfl
    | true =>
      rcases O.nt (G xs (lo+n - 1)) q with z | z
      · rw[q1] at z;cases z
      · rw[d.d4 _ _ #v[] #v[] a b] at z;cases z
  have t2:∀i,lo+n - (neq+1)<=i->i < lo+n->lt (G xs i) (G xs (lo+n))=false:=fun i a b=>by
    cases q:lt (G xs i) (G xs (lo+n)) with
    | false=>rfl
    | true =>
      rcases O.nt (G xs (lo+n - 1)) q with z | z
      · rw[d.d4 _ _ a b #v[] #v[]] at z;cases z
      · rw[q2] at z;cases z
  refine⟨by omega,?_,?_,?_,?_⟩<;>rw[ec]
  · exact d.d1
  · intro i j a b c e
    by_cases k:j < lo+n
    · exact d.d2 i j a b c k
    · have ej : j = lo + n := by omega
      rw[ej];exact (O.nt (G xs (lo+n)) (d.d2 i (lo+n - 1) a b #v[] #v[])).resolve_left (fun z=>by rw[q2] at z;cases z)
  · intro i j a b c
    by_cases k:j < lo+n
    · exact d.d3 i j a b k
    · have ej : j = lo + n := by omega
      rw[ej];exact (O.f1 (hb i #v[] #v[])).mp (t1 i a #v[])
  · intro i j a b c e
    by_cases k:j < lo+n
    · by_cases k2 : i < lo + n
      · exact d.d4 i j a k2 c k
      · have ei : i = lo + n := by omega
        rw[ei];exact t1 j c k
    · have ej : j = lo + n := by omega
      rw[ej];by_cases k2:i < lo+n
      · exact t2 i a k2
      · have ei : i = lo + n := by omega
        rw[ei];exact O.irr _
theorem z5g {α:Type}{c:Prop} [Decidable c] {x y:StateT SortSt Sem α}{Q:α->SortSt->Prop}{T:SortSt->Prop}(h:∀s3,T s3->wpS (model prog w) A E s y Q s3)(h0:¬ c->T st)(h1:c->(∀s3,T s3->wpS (model prog w) A E s y Q s3)->wpS (model prog w) A E s x Q st):wpS (model prog w) A E s (if c then x else y) Q st:=by
 by_cases k:c
 ·rw[if_pos k];exact h1 k h
 ·rw[if_neg k];exact h st (h0 k)
theorem z03 (C:Asks prog w A E s κ a₀ lt) (O:Ord lt bf le) {lo nrem:Nat}{Q:Option Nat->SortSt->Prop} (I:SI κ a₀ pd st) (hsz:lo+nrem<=a₀.size) (h1:1<=nrem) (hc:∀c,lo<=c->Cut bf (arrOf st) c)
    (h:∀m st',SI κ a₀ pd st'->1<=m->m<=nrem->Re (arrOf st) (arrOf st') lo (lo+m)->Srt le (arrOf st') lo (lo+m)->Q (some m) st'):wpS (model prog w) A E s (countRun' lo nrem) Q st:=by
  have sz:=I.size;rw [countRun'_eq];refine Ao (Ds (Ch (I:=fun x c s2=>s2=st/\c=(none,x)/\1<=x/\x<=nrem/\Srt le (arrOf st) lo (lo+x))
    (Q:=fun c s2=>s2=st/\∃k,c=(none,k)/\1<=k/\k<=nrem/\Srt le (arrOf st) lo (lo+k)/\(k=nrem\/lt (G (arrOf st) (lo+k)) (G (arrOf st) (lo+k - 1))=true)) ?as1 ?af1 ⟨rfl,rfl,Ag _,h1,(fun i j g1 g2 g3=>by omega)⟩) ?ap1)
  case af1 =>
    rintro c s2 ⟨e2,rfl,a0,a1,a2⟩;rw[show max 1 nrem=nrem by omega] at *
    exact⟨e2,nrem,rfl,by omega,Ag _,a2,.inl rfl⟩
  case as1 =>
    rintro x c s2 b1 b2 ⟨e2,rfl,a0,a1,a2⟩;subst e2;dsimp only;refine Ao (zhu C I.kind I.perm #v[] #v[] ?_);cases q:lt (G (arrOf s2) (lo+x)) (G (arrOf s2) (lo+x - 1)) with
    | true =>
      dsimp only;rw[if_pos rfl];exact Aw ⟨rfl,x,rfl,a0,a1,a2,.inr q⟩
    | false =>
      dsimp only;rw[if_neg #v[0,9]];refine Aw ⟨rfl,rfl,by omega,by omega,fun i j h1 h2 h3=>?_⟩;by_cases hj:j < lo+x
      · exact a2 i j h1 h2 hj
      · have ej : j = lo + x := by omega
        subst ej;have b:le (G (arrOf s2) (lo+x - 1)) (G (arrOf s2) (lo+x)):=(O.f1 (hc (lo+x) #v[] (lo+x - 1) (lo+x) #v[] (Ag _) (by rw[I.size];omega))).mp q;by_cases hi:i=lo+x - 1
        · rw[hi];exact b
        · exact O.tr (a2 i (lo+x - 1) h1 #v[] #v[]) b
  case ap1 =>
    rintro c s2 ⟨e2,n,rfl,a0,a1,a2,a3⟩;subst e2;dsimp only;by_cases en:n=nrem
    · rw [if_pos (by simpa using en)]
      exact Aw (h n s2 I a0 a1 (.refl _ _ _) a2)
    · rw [if_neg (by simpa using en)]
      have q3:=a3.resolve_left en;refine z5g (T:=fun s3=>SI κ a₀ pd s3/\Re (arrOf s2) (arrOf s3) lo (lo+(n+1))/\DI lt le lo (n+1) 0 (arrOf s3)) (fun s3 ⟨I3,R3,D3⟩=>?main) (fun n1=>?no) (fun n1 H=>?yes)
      case yes =>
        refine Ao (zhu C I.kind I.perm #v[] #v[] ?_);cases q:lt (G (arrOf s2) lo) (G (arrOf s2) (lo+n - 1)) with
        | true =>
          dsimp only;rw[if_pos rfl];exact Aw (h n s2 I a0 a1 (.refl _ _ _) a2)
        | false =>
          dsimp only;rw [if_neg (by decide)];refine Ao (zwf ?_);have lk:∀i,lo<=i->i < lo+n->lt (G (arrOf s2) (lo+n)) (G (arrOf s2) i)=true:=fun i g1 g2=>by
            have z1:lt (G (arrOf s2) i) (G (arrOf s2) (lo+n - 1))=false:=by
              cases z:lt (G (arrOf s2) i) (G (arrOf s2) (lo+n - 1)) with
              | false=>rfl
              | true =>
                rcases O.nt (G (arrOf s2) lo) z with y | y
                · by_cases ei : i = lo
                  · rw[ei,O.irr] at y;cases y
                  · have := O.f3 (hc i g1 lo i (by omega) (Ag _) (by omega)) y
                    exact absurd (a2 lo i (Ag _) #v[] g2) this
                · rw[q] at y;cases y
            exact (O.nt _ q3).resolve_right (fun y=>by rw[z1] at y;cases y)
          obtain ⟨s3,e3,I3,R3,D3⟩ : ∃s3,s3=(setArr s2 (mir (arrOf s2) lo (lo+n)))/\SI κ a₀ pd s3/\Re (arrOf s2) (arrOf s3) lo (lo+(n+1))/\DI lt le lo (n+1) 0 (arrOf s3):=⟨_,rfl,I.set (Re.mir (by omega)).perm,(Re.mir (by omega)).mono (Ag _) (by omega),DI.next O (fun i j g1 g2 g3=>by
                      show le (G (mir (arrOf s2) lo (lo+n)) j) (G (mir (arrOf s2) lo (lo+n)) i);rw[zhj #v[],zhj #v[],if_pos ⟨by omega,by omega⟩,if_pos ⟨by omega,by omega⟩];exact a2 _ _ #v[] #v[] #v[]) (fun i g1 g2=>by
                      show lt (G (mir (arrOf s2) lo (lo+n)) (lo+n)) (G (mir (arrOf s2) lo (lo+n)) i)=true;rw[zhj #v[],zhj #v[],if_neg #v[],if_pos ⟨by omega,by omega⟩];exact lk _ #v[] #v[])⟩
          rw[<-e3];exact H s3 ⟨I3,R3,D3⟩
      case no =>
        have en1:n=1:=by omega
        subst en1;exact ⟨I,.refl _ _ _,DI.next O (fun i j g1 g2 g3=>by omega) (fun i g1 g2=>by
          have ei:i=lo:=by omega
          rw[ei];exact q3)⟩
      case main =>
        refine Ao (wpS_lift (Fe ⟨rfl,?_⟩));refine Ao (Ds (Ch (I:=fun x c s4=>∃neq,c=(none,x,neq)/\n+1<=x/\x<=nrem/\SI κ a₀ pd s4/\Re (arrOf s2) (arrOf s4) lo (lo+x)/\DI lt le lo x neq (arrOf s4))
          (Q:=fun c s4=>∃m neq,c=(none,m,neq)/\n+1<=m/\m<=nrem/\SI κ a₀ pd s4/\Re (arrOf s2) (arrOf s4) lo (lo+m)/\DI lt le lo m neq (arrOf s4)) ?dsd1 ?dfd1 ⟨0,rfl,Ag _,by omega,I3,R3,D3⟩) ?dpd1)
        case dfd1 =>
          rintro c s4 ⟨neq,rfl,b0,b1,b2,b3,b4⟩;have e:max (n+1) nrem=nrem:=by omega
          rw[e] at b0 b1 b3 b4 ⊢;exact⟨nrem,neq,rfl,b0,b1,b2,b3,b4⟩
        case dsd1 =>
          rintro x c s4 g1 g2 ⟨neq,rfl,b0,b1,I4,R4,D4⟩;dsimp only;have z4:=I4.size;have cut4:∀c,lo+x<=c->Cut bf (arrOf s4) c:=fun c hc'=>(hc c #v[]).re R4 #v[] (.inr hc');refine Ao (zhu C I4.kind I4.perm #v[] #v[] ?_);cases q5:lt (G (arrOf s4) (lo+x)) (G (arrOf s4) (lo+x - 1)) with
          | true =>
            dsimp only;rw[if_pos rfl];by_cases nq:neq > 0
            · rw [if_pos nq]
              refine Ao (zwf (Aw ⟨0,rfl,by omega,by omega,I4.set (Re.mir #v[]).perm,(R4.trans ((Re.mir #v[]).mono (by have:=D4.nq;omega) (Ag _))).mono (Ag _) #v[],?_⟩));obtain⟨t1,t2⟩:=D4.turn O #v[];refine DI.next O t1 fun i k1 k2=>?_;have:=t2 _ q5 i k1 k2;show lt (G (mir (arrOf s4) (lo+x - (neq+1)) (lo+x)) (lo+x)) _=true;rw[zhj #v[],if_neg #v[]];exact this
            · rw [if_neg nq]
              have e0:neq=0:=by omega
              subst e0;obtain⟨t1,t2⟩:=D4.turn0 O;exact Aw ⟨0,rfl,by omega,by omega,I4,R4.mono (Ag _) #v[],DI.next O t1 fun i k1 k2=>t2 _ q5 i k1 k2⟩
          | false =>
            dsimp only;rw[if_neg #v[0,9]];refine Ao (zhu C I4.kind I4.perm #v[] #v[] ?_);cases q6:lt (G (arrOf s4) (lo+x - 1)) (G (arrOf s4) (lo+x)) with
            | true =>
              dsimp only;rw[if_pos rfl];exact Aw ⟨x,neq,rfl,b0,b1,I4,R4,D4⟩
            | false =>
              dsimp only;rw[if_neg #v[0,9]];exact Aw ⟨neq+1,rfl,by omega,by omega,I4,R4.mono (Ag _) #v[],D4.like O (fun i k1 k2=>cut4 (lo+x) (Ag _) i (lo+x) k2 (Ag _) #v[]) q5 q6⟩
        case dpd1 =>
          rintro c s4 ⟨n,neq,rfl,b0,n2,I4,R4,D4⟩;dsimp only;have z4:=I4.size;refine z5g (T:=fun s6=>SI κ a₀ pd s6/\Re (arrOf s2) (arrOf s6) lo (lo+n)/\∀i j,lo<=i->i < j->j < lo+n->le (G (arrOf s6) j) (G (arrOf s6) i)) (fun s6 ⟨I6,R6,t1⟩=>?tl) (fun nq=>?tn) (fun nq H=>?ty)
          case ty =>
            refine Ao (zwf ?_);have I6:SI κ a₀ pd (setArr s4 (mir (arrOf s4) (lo+n - (neq+1)) (lo+n))):=I4.set (Re.mir #v[]).perm;have R6:Re (arrOf s2) (mir (arrOf s4) (lo+n - (neq+1)) (lo+n)) lo (lo+n):=R4.trans ((Re.mir #v[]).mono (by have:=D4.nq;omega) (Ag _));have t1:=(D4.turn O #v[]).1;exact H _ ⟨I6,R6,t1⟩
          case tn =>
            have e0:neq=0:=by omega
            subst e0;exact⟨I4,R4,(D4.turn0 O).1⟩
          case tl =>
            have z6:=I6.size;refine Ao (zwf ?_);have I5:SI κ a₀ pd (setArr s6 (mir (arrOf s6) lo (lo+n))):=I6.set (Re.mir (by omega)).perm;have R5:Re (arrOf s2) (mir (arrOf s6) lo (lo+n)) lo (lo+n):=R6.trans (Re.mir (by omega));have z5:Srt le (mir (arrOf s6) lo (lo+n)) lo (lo+n):=fun i j h1 h2 h3=>by
              rw[zhj #v[],zhj #v[],if_pos ⟨by omega,by omega⟩,if_pos ⟨by omega,by omega⟩];exact t1 _ _ #v[] #v[] #v[]
            have ea:mir (arrOf s6) lo (lo+n)=arrOf (setArr s6 (mir (arrOf s6) lo (lo+n))):=rfl
            revert I5 R5 z5
            rw [ea];generalize (setArr s6 (mir (arrOf s6) lo (lo+n)))=s5;intro I5 R5 z5;have hz5:=I5.size;have hc5:∀c,lo+n<=c->Cut bf (arrOf s5) c:=fun c hc'=>(hc c (by omega)).re R5 (by omega) (.inr hc');refine Ao (Ds (Ch (I:=fun x c s2=>s2=s5/\c=(none,x)/\n<=x/\x<=nrem/\Srt le (arrOf s5) lo (lo+x))
              (Q:=fun c s2=>s2=s5/\∃k,c=(none,k)/\n<=k/\k<=nrem/\Srt le (arrOf s5) lo (lo+k)/\(k=nrem\/lt (G (arrOf s5) (lo+k)) (G (arrOf s5) (lo+k - 1))=true)) ?asd11 ?afd11 ⟨rfl,rfl,Ag _,n2,z5⟩) ?apd11)
            case afd11 =>
              rintro c s2 ⟨e2,rfl,y0,y1,a2⟩;rw[show max n nrem=nrem by omega] at *
              exact⟨e2,nrem,rfl,by omega,Ag _,a2,.inl rfl⟩
            case asd11 =>
              rintro x c s2 b1 b2 ⟨e2,rfl,y0,y1,a2⟩;subst e2;dsimp only;refine Ao (zhu C I5.kind I5.perm #v[] #v[] ?_);cases q:lt (G (arrOf s2) (lo+x)) (G (arrOf s2) (lo+x - 1)) with
              | true =>
                dsimp only;rw[if_pos rfl];exact Aw ⟨rfl,x,rfl,y0,y1,a2,.inr q⟩
              | false =>
                dsimp only;rw[if_neg #v[0,9]];refine Aw ⟨rfl,rfl,by omega,by omega,fun i j h1 h2 h3=>?_⟩;by_cases hj:j < lo+x
                · exact a2 i j h1 h2 hj
                · have ej : j = lo + x := by omega
                  subst ej;have b:le (G (arrOf s2) (lo+x - 1)) (G (arrOf s2) (lo+x)):=(O.f1 (hc5 (lo+x) #v[] (lo+x - 1) (lo+x) #v[] (Ag _) (by rw[I5.size];omega))).mp q;by_cases hi:i=lo+x - 1
                  · rw[hi];exact b
                  · exact O.tr (a2 i (lo+x - 1) h1 #v[] #v[]) b
            case apd11 =>
              rintro c s7 ⟨e7,m,rfl,y0,y1,y2,y3⟩;subst e7;exact Aw (h m s7 I5 #v[] y1 (R5.mono (Ag _) #v[]) y2)
end
end Tim
namespace Tim
section
variable {prog:Program}{w:World}{A:Around}{E:Value->Shared->Prop}{s:Shared}{κ:SortKind}{a₀:Array Keyed}{lt:Keyed->Keyed->Bool}{bf le:Keyed->Keyed->Prop}{st:SortSt}{pd:Array (Nat × Nat × Nat)}
theorem yad (C:Asks prog w A E s κ a₀ lt) (O:Ord lt bf le) {lo n ok:Nat}{Q:Bool->SortSt->Prop} (I:SI κ a₀ pd st) (hsz:lo+n<=a₀.size) (hok:ok<=n) (h1:1<=ok) (hs:Srt le (arrOf st) lo (lo+ok)) (hc:∀c,lo+ok<=c->Cut bf (arrOf st) c)
    (h:∀st',SI κ a₀ pd st'->Re (arrOf st) (arrOf st') lo (lo+n)->Srt le (arrOf st') lo (lo+n)->Q true st'):wpS (model prog w) A E s (binarySort' lo n ok) Q st:=by
  have sz:=I.size;rw[binarySort'_eq];have em:max ok 1=ok:=by omega
  rw [em];refine Ao (Ds (Ch (I:=fun k c s2=>c=(none,())/\ok<=k/\k<=n/\SI κ a₀ pd s2/\Re (arrOf st) (arrOf s2) lo (lo+k)/\Srt le (arrOf s2) lo (lo+k))
    (Q:=fun c s2=>c=(none,())/\SI κ a₀ pd s2/\Re (arrOf st) (arrOf s2) lo (lo+n)/\Srt le (arrOf s2) lo (lo+n)) ?step ?fin ⟨rfl,Ag _,hok,I,.refl _ _ _,hs⟩) ?post)
  case post =>
    rintro c s2 ⟨rfl,I2,R2,S2⟩;exact Aw (h s2 I2 R2 S2)
  case fin =>
    rintro c s2 ⟨hc,b0,b1,I2,R2,S2⟩;have e:max ok n=n:=by omega
    rw[e] at R2 S2;exact⟨hc,I2,R2,S2⟩
  case step =>
    rintro k c s2 g1 g2 ⟨rfl,b0,b1,I2,R2,S2⟩;have z2:=I2.size;have ct:Cut bf (arrOf s2) (lo+k):=(hc (lo+k) (by omega)).re R2 (by omega) (.inr (Ag _));refine Ao (Ds (Ch (I:=fun x c s3=>s3=s2/\∃l r,c=(none,l,r)/\l<=r/\r<=k/\r - l<=k - x/\(∀i,i < l->le (G (arrOf s2) (lo+i)) (G (arrOf s2) (lo+k)))/\∀i,r<=i->i < k->le (G (arrOf s2) (lo+k)) (G (arrOf s2) (lo+i)))
      (Q:=fun c s3=>s3=s2/\∃l,c=(none,l,l)/\l<=k/\(∀i,i < l->le (G (arrOf s2) (lo+i)) (G (arrOf s2) (lo+k)))/\∀i,l<=i->i < k->le (G (arrOf s2) (lo+k)) (G (arrOf s2) (lo+i))) ?istep ?ifin ⟨rfl,0,k,rfl,by omega,by omega,by omega,fun i hi=>by omega,fun i k1 k2=>by omega⟩) ?ipost)
    case ifin =>
      rintro c s3 ⟨e3,l,r,rfl,c1,c2,c3,c4,c5⟩;have e:r=l:=by omega
      subst e;exact⟨e3,r,rfl,c2,c4,c5⟩
    case istep =>
      rintro x c s3 _ hx ⟨e3,l,r,rfl,c1,c2,c3,c4,c5⟩;subst e3;dsimp only;by_cases g:l ≥ r
      · rw [if_pos g]
        have e:r=l:=by omega
        subst e;exact Aw ⟨rfl,r,rfl,c2,c4,c5⟩
      · rw [if_neg g]
        refine Ao (zhu C I2.kind I2.perm #v[] #v[] ?_);have b:=ct (lo+(l+r) / 2) (lo+k) #v[] (Ag _) #v[];cases q:lt (G (arrOf s3) (lo+k)) (G (arrOf s3) (lo+(l+r) / 2)) with
        | true =>
          dsimp only;rw[if_pos rfl];refine Aw ⟨rfl,l,(l+r) / 2,rfl,by omega,by omega,by omega,c4,fun i k1 k2=>?_⟩;by_cases e:i=(l+r) / 2
          · rw[e];exact O.f2 q
          · exact O.tr (O.f2 q) (S2 _ _ #v[] #v[] #v[])
        | false =>
          dsimp only;rw[if_neg #v[0,9]];refine Aw ⟨rfl,(l+r) / 2+1,r,rfl,by omega,by omega,by omega,fun i k1=>?_,c5⟩;by_cases e:i=(l+r) / 2
          · rw[e];exact (O.f1 b).mp q
          · exact O.tr (S2 _ _ #v[] #v[] #v[]) ((O.f1 b).mp q)
    case ipost =>
      rintro c s3 ⟨e3,l,rfl,c2,c4,c5⟩;subst e3;refine Ao (z4s (Aw ⟨rfl,by omega,by omega,I2.set (bubble_perm _ _ _),?_,?_⟩))
      · refine (R2.mono (Ag _) #v[]).trans ((Re.bub #v[] #v[]).mono #v[] #v[])
      · intro i j h1 h2 h3
        show le (G (bubble (arrOf s3) (lo+k) (lo+k - (lo+l))) i) (G (bubble (arrOf s3) (lo+k) (lo+k - (lo+l))) j);have el:lo+k - (lo+k - (lo+l))=lo+l:=by omega
        rw [zw2 (by omega) (by omega),zw2 (by omega) (by omega),el];have p4:∀i,lo<=i->i < lo+l->le (G (arrOf s3) i) (G (arrOf s3) (lo+k)):=fun i k1 k2=>by
          have:=c4 (i - lo) #v[];rw[show lo+(i - lo)=i by omega] at this;exact this
        have p5:∀i,lo+l<=i->i < lo+k->le (G (arrOf s3) (lo+k)) (G (arrOf s3) i):=fun i k1 k2=>by
          have:=c5 (i - lo) #v[] #v[];rw[show lo+(i - lo)=i by omega] at this;exact this
        by_cases a1:i=lo+l
        · rw [if_pos a1, if_neg (by omega), if_pos ⟨by omega, by omega⟩]
          exact p5 _ #v[] #v[]
        · rw [if_neg a1]
          by_cases a2:j=lo+l
          · rw [if_neg (by omega), if_pos a2]
            exact p4 _ h1 #v[]
          · rw [if_neg a2]
            by_cases a3:lo+l < i/\i<=lo+k
            · rw [if_pos a3, if_pos ⟨by omega, by omega⟩]
              exact S2 _ _ #v[] #v[] #v[]
            · rw [if_neg a3]
              by_cases a4:lo+l < j/\j<=lo+k
              · rw [if_pos a4]
                by_cases a5:i=j - 1
                · rw[a5];exact O.rf _
                · exact S2 _ _ #v[] #v[] #v[]
              · rw [if_neg a4]
                exact S2 _ _ #v[] #v[] #v[]
end
end Tim
namespace Tim
theorem G_list {a:Array Keyed}{i:Nat}(h:i < a.size):a.toList[i]?=some (G a i):=by rw[Fv];exact zz1 h
theorem take_G {a:Array Keyed}{i:Nat}(h:i < a.size):a.toList.take (i+1)=a.toList.take i++[G a i]:=by rw[Ct,G_list h];rfl
theorem zrw {a:Array Keyed}{i:Nat}(h:i < a.size):a.toList.drop i=G a i::a.toList.drop (i+1):=by
 have h' : i < a.toList.length:=by simpa using h
 rw[Bz h'];have e:=G_list h;rw[Ac h'] at e;rw[sI e]
theorem mem_drop {a:Array Keyed}{n:Nat}{x:Keyed}(h:x∈a.toList.drop n):∃i,n<=i/\i < a.size/\x=G a i:=by
 obtain⟨i,hi,e⟩:=Dh.mp h;have h1:n+i < a.toList.length:=by rw[Fb] at hi;omega
 have h2:n+i < a.size:=by simpa using h1
 refine⟨n+i,by omega,h2,?_⟩;rw[List.getElem_drop] at e;have g:=G_list h2;rw[Ac h1] at g;rw[<-e];exact sI g
theorem mem_take {a:Array Keyed}{n:Nat}{x:Keyed}(h:x∈a.toList.take n):∃i,i < n/\i < a.size/\x=G a i:=by
 obtain⟨i,hi,e⟩:=Dh.mp h;rw[Df] at hi;have h1:i < a.toList.length:=by omega
 have h2:i < a.size:=by simpa using h1
 refine⟨i,by omega,h2,?_⟩;rw[List.getElem_take] at e;have g:=G_list h2;rw[Ac h1] at g;rw[<-e];exact sI g
theorem srt_list {le:Keyed->Keyed->Prop}{a:Array Keyed}(h:Srt le a 0 a.size):a.toList.Pairwise le:=by
 rw[List.pairwise_iff_getElem];intro i j hi hj hij;have hi' : i < a.size:=by simpa using hi
 have hj' : j < a.size:=by simpa using hj
 have e1:=G_list hi';have e2:=G_list hj';rw[Ac hi] at e1;rw[Ac hj] at e2;rw[sI e1,sI e2];exact h i j (Cb _) hij hj'
theorem zcz (a:Array Keyed)(i j:Nat):(a.extract i j).toList=(a.toList.drop i).take (j - i):=by rw[Array.toList_extract]
theorem zjh (a:Array Keyed)(i:Nat):(a.extract i a.size).toList=a.toList.drop i:=by
 rw[zcz,List.take_of_length_le];rw[Fb];simp
structure Fin (le:Keyed->Keyed->Prop) (a b:Array Keyed) (r:List Keyed):Prop where
 p:r.Perm (a.toList++b.toList)
 s:r.Pairwise le
structure MI (le:Keyed->Keyed->Prop) (a b:Array Keyed) (o:List Keyed) (ia ib:Nat):Prop where
 p:o.Perm (a.toList.take ia++b.toList.take ib)
 s:o.Pairwise le
 oa:∀x∈o,∀i,ia<=i->i < a.size->le x (G a i)
 ob:∀x∈o,∀j,ib<=j->j < b.size->le x (G b j)
structure MH (le:Keyed->Keyed->Prop) (a b:Array Keyed) (o:List Keyed) (na nb:Nat):Prop where
 p:o.Perm (a.toList.drop na++b.toList.drop nb)
 s:o.Pairwise le
 oa:∀x∈o,∀i,i < na->le (G a i) x
 ob:∀x∈o,∀j,j < nb->le (G b j) x
section
variable {lt:Keyed->Keyed->Bool}{bf le:Keyed->Keyed->Prop} (O:Ord lt bf le) {a b:Array Keyed}{o:List Keyed}{ia ib na nb:Nat} (Sa:Srt le a 0 a.size) (Sb:Srt le b 0 b.size)
theorem zxj {x:Keyed}{o p q:List Keyed}(h:o.Perm (p++q)):(o++[x]).Perm ((p++[x])++q):=by
 refine (h.append_right [x]).trans ?_;rw[Bc,Bc];exact List.perm_append_comm.append_left p
theorem MI.pushA (Sa:Srt le a 0 a.size)(m:MI le a b o ia ib)(hi:ia < a.size)(hb:∀j,ib<=j->j < b.size->le (G a ia) (G b j)):MI le a b (o++[G a ia]) (ia+1) ib:=by
 refine⟨by rw[take_G hi];exact zxj m.p,?_,fun x hx i h1 h2=>?_,fun x hx j h1 h2=>?_⟩
 ·rw[Cc];refine⟨m.s,Fi _ _,fun x hx y hy=>?_⟩;rw[Al.mp hy];exact m.oa x hx ia (Ag _) hi
 ·rcases Ba.mp hx with z | z
  ·exact m.oa x z i #v[] h2
  ·rw[Al.mp z];exact Sa _ _ (Cb _) #v[] h2
 ·rcases Ba.mp hx with z | z
  ·exact m.ob x z j h1 h2
  ·rw[Al.mp z];exact hb j h1 h2
theorem MI.pushB (Sb:Srt le b 0 b.size)(m:MI le a b o ia ib)(hj:ib < b.size)(ha:∀i,ia<=i->i < a.size->le (G b ib) (G a i)):MI le a b (o++[G b ib]) ia (ib+1):=by
 refine⟨?_,?_,fun x hx i h1 h2=>?_,fun x hx j h1 h2=>?_⟩
 ·rw[take_G hj];have:=m.p.append_right [G b ib];rw[Bc] at this;exact this
 ·rw[Cc];refine⟨m.s,Fi _ _,fun x hx y hy=>?_⟩;rw[Al.mp hy];exact m.ob x hx ib (Ag _) hj
 ·rcases Ba.mp hx with z | z
  ·exact m.oa x z i h1 h2
  ·rw[Al.mp z];exact ha i h1 h2
 ·rcases Ba.mp hx with z | z
  ·exact m.ob x z j #v[] h2
  ·rw[Al.mp z];exact Sb _ _ (Cb _) #v[] h2
theorem zn1 {a:Array Keyed}{i k:Nat}(h:i+k < a.size):(a.toList.drop i).take (k+1)=(a.toList.drop i).take k++[G a (i+k)]:=by
 rw[Ct,List.getElem?_drop,G_list h];rfl
theorem MI.appA (Sa:Srt le a 0 a.size) (m:MI le a b o ia ib):∀k,ia+k<=a.size->(∀i,ia<=i->i < ia+k->∀j,ib<=j->j < b.size->le (G a i) (G b j))->MI le a b (o++(a.toList.drop ia).take k) (ia+k) ib
  | 0,_,_=>by rw[Ed,Bt];exact m
  | k+1,h1,h2=>by
    have:=(m.appA Sa k #v[] fun i g1 g2=>h2 i g1 #v[]).pushA Sa #v[] (h2 (ia+k) #v[] #v[]);rw[zn1 #v[],<-Bc];exact this
theorem MI.appB (Sb:Srt le b 0 b.size) (m:MI le a b o ia ib):∀k,ib+k<=b.size->(∀j,ib<=j->j < ib+k->∀i,ia<=i->i < a.size->le (G b j) (G a i))->MI le a b (o++(b.toList.drop ib).take k) ia (ib+k)
  | 0,_,_=>by rw[Ed,Bt];exact m
  | k+1,h1,h2=>by
    have:=(m.appB Sb k #v[] fun i g1 g2=>h2 i g1 #v[]).pushB Sb #v[] (h2 (ib+k) #v[] #v[]);rw[zn1 #v[],<-Bc];exact this
theorem zog (b:Array Keyed):b.toList.take b.size=b.toList:=List.take_of_length_le (by simp)
theorem MI.finB (Sa:Srt le a 0 a.size)(m:MI le a b o ia b.size):Fin le a b (o++a.toList.drop ia):=by
 refine⟨?_,?_⟩
 ·have h := m.p;rw[zog] at h;refine (h.append_right _).trans ?_;rw[Bc];refine (List.perm_append_comm.append_left _).trans ?_;rw[<-Bc,Bn]
 ·rw[Cc];refine⟨m.s,(srt_list Sa).sublist (Gm _ _),fun x hx y hy=>?_⟩;obtain⟨i,h1,h2,rfl⟩:=mem_drop hy;exact m.oa x hx i h1 h2
theorem MI.finA (Sb:Srt le b 0 b.size)(m:MI le a b o a.size ib):Fin le a b (o++b.toList.drop ib):=by
 refine⟨?_,?_⟩
 ·have h := m.p;rw[zog] at h;refine (h.append_right _).trans ?_;rw[Bc,Bn]
 ·rw[Cc];refine⟨m.s,(srt_list Sb).sublist (Gm _ _),fun x hx y hy=>?_⟩;obtain⟨i,h1,h2,rfl⟩:=mem_drop hy;exact m.ob x hx i h1 h2
theorem MI.finL (Sa:Srt le a 0 a.size)(Sb:Srt le b 0 b.size)(m:MI le a b o ia ib)(e:ia+1=a.size)(HA:∀j,j < b.size->le (G b j) (G a (a.size - 1))):Fin le a b (o++b.toList.drop ib++a.toList.drop ia):=by
 refine⟨?_,?_⟩
 ·refine ((m.p.append_right _).append_right _).trans ?_;rw[Bc,Bc,<-Bc (b.toList.take ib),Bn];refine (List.perm_append_comm.append_left _).trans ?_;rw[<-Bc,Bn]
 ·rw[Cc, Cc];refine⟨⟨m.s,(srt_list Sb).sublist (Gm _ _),fun x hx y hy=>?_⟩,(srt_list Sa).sublist (Gm _ _),fun x hx y hy=>?_⟩
  ·obtain⟨i, h1, h2, rfl⟩ := mem_drop hy;exact m.ob x hx i h1 h2
  ·obtain⟨i, h1, h2, rfl⟩ := mem_drop hy;rcases Ba.mp hx with z | z
   ·exact m.oa x z i h1 h2
   ·obtain⟨j, g1, g2, rfl⟩ := mem_drop z;have:i=a.size - 1:=by omega
    rw[this];exact HA j g2
theorem MH.pushA (Sa:Srt le a 0 a.size)(m:MH le a b o (na+1) nb)(h:na < a.size)(hb:∀j,j < nb->le (G b j) (G a na)):MH le a b (G a na::o) na nb:=by
 refine⟨?_,Bs.mpr ⟨fun x hx=>m.oa x hx na #v[],m.s⟩,fun x hx i h1=>?_,fun x hx j h1=>?_⟩
 ·rw[zrw h];exact m.p.cons _
 ·rcases Aq.mp hx with z | z
  ·rw[z];exact Sa _ _ (Cb _) h1 h
  ·exact m.oa x z i #v[]
 ·rcases Aq.mp hx with z | z
  ·rw[z];exact hb j h1
  ·exact m.ob x z j h1
theorem MH.pushB (Sb:Srt le b 0 b.size)(m:MH le a b o na (nb+1))(h:nb < b.size)(ha:∀i,i < na->le (G a i) (G b nb)):MH le a b (G b nb::o) na nb:=by
 refine⟨?_,Bs.mpr ⟨fun x hx=>m.ob x hx nb #v[],m.s⟩,fun x hx i h1=>?_,fun x hx j h1=>?_⟩
 ·rw[zrw h];exact (m.p.cons _).trans List.perm_middle.symm
 ·rcases Aq.mp hx with z | z
  ·rw[z];exact ha i h1
  ·exact m.oa x z i h1
 ·rcases Aq.mp hx with z | z
  ·rw[z];exact Sb _ _ (Cb _) h1 h
  ·exact m.ob x z j #v[]
theorem znw {a:Array Keyed}{i k:Nat}(h:i < a.size):(a.toList.drop i).take (k+1)=G a i::(a.toList.drop (i+1)).take k:=by
 rw[zrw h,List.take_succ_cons]
theorem MH.appA (Sa:Srt le a 0 a.size):∀(k at_:Nat),MH le a b o (at_+k) nb->at_+k<=a.size->(∀i,at_<=i->i < at_+k->∀j,j < nb->le (G b j) (G a i))->MH le a b ((a.toList.drop at_).take k++o) at_ nb
  | 0,at_,m,_,_=>by rw[Ed];exact m
  | k+1,at_,m,h1,h2=>by
    have:=(MH.appA Sa k (at_+1) (by rw[show at_+1+k=at_+(k+1) by omega];exact m) #v[] fun i g1 g2=>h2 i #v[] #v[]).pushA Sa #v[] (h2 at_ (Ag _) #v[]);rw[znw #v[]];exact this
theorem MH.appB (Sb:Srt le b 0 b.size):∀(k at_:Nat),MH le a b o na (at_+k)->at_+k<=b.size->(∀j,at_<=j->j < at_+k->∀i,i < na->le (G a i) (G b j))->MH le a b ((b.toList.drop at_).take k++o) na at_
  | 0,at_,m,_,_=>by rw[Ed];exact m
  | k+1,at_,m,h1,h2=>by
    have:=(MH.appB Sb k (at_+1) (by rw[show at_+1+k=at_+(k+1) by omega];exact m) #v[] fun i g1 g2=>h2 i #v[] #v[]).pushB Sb #v[] (h2 at_ (Ag _) #v[]);rw[znw #v[]];exact this
theorem MH.finA (Sb:Srt le b 0 b.size)(m:MH le a b o 0 nb):Fin le a b (b.toList.take nb++o):=by
 refine⟨?_,?_⟩
 ·refine (m.p.append_left _).trans ?_;rw[Ee];refine List.perm_append_comm_assoc _ _ _ |>.trans ?_;rw[Bn]
 ·rw[Cc];refine⟨(srt_list Sb).sublist (Fs _ _),m.s,fun x hx y hy=>?_⟩;obtain⟨i,h1,h2,rfl⟩:=mem_take hx;exact m.ob y hy i h1
theorem MH.finB (Sa:Srt le a 0 a.size)(m:MH le a b o na 0):Fin le a b (a.toList.take na++o):=by
 refine⟨?_,?_⟩
 ·refine (m.p.append_left _).trans ?_;rw[Ee,<-Bc,Bn]
 ·rw[Cc];refine⟨(srt_list Sa).sublist (Fs _ _),m.s,fun x hx y hy=>?_⟩;obtain⟨i,h1,h2,rfl⟩:=mem_take hx;exact m.oa y hy i h1
theorem MH.finF (Sa:Srt le a 0 a.size)(Sb:Srt le b 0 b.size)(m:MH le a b o na 1)(H0:∀i,i < a.size->le (G b 0) (G a i)):Fin le a b (b.toList.take 1++a.toList.take na++o):=by
 refine⟨?_,?_⟩
 ·refine (m.p.append_left _).trans ?_;rw[Bc,<-Bc (a.toList.take na),Bn];refine List.perm_append_comm_assoc _ _ _ |>.trans ?_;rw[Bn]
 ·rw[Cc, Cc];refine⟨⟨(srt_list Sb).sublist (Fs _ _),(srt_list Sa).sublist (Fs _ _),fun x hx y hy=>?_⟩,m.s,fun x hx y hy=>?_⟩
  ·obtain⟨i, h1, h2, rfl⟩ := mem_take hx;obtain⟨j,g1,g2,rfl⟩:=mem_take hy;have:i=0:=by omega
   rw[this];exact H0 j g2
  ·rcases Ba.mp hx with z | z
   ·obtain⟨i, h1, h2, rfl⟩ := mem_take z;exact m.ob y hy i h1
   ·obtain⟨i, h1, h2, rfl⟩ := mem_take z;exact m.oa y hy i h1
end
end Tim
namespace Tim
noncomputable def setG:Nat->StateT SortSt Sem Unit:=sortPriv% PySem.Builtin.setMinGallop
section
variable {prog:Program}{w:World}{A:Around}{E:Value->Shared->Prop}{s:Shared}{κ:SortKind}{a₀:Array Keyed}{lt:Keyed->Keyed->Bool}{bf le:Keyed->Keyed->Prop}{st:SortSt}{pd:Array (Nat × Nat × Nat)}
structure SG (κ:SortKind) (a₀:Array Keyed) (pd:Array (Nat × Nat × Nat)) (xs:Array Keyed) (st:SortSt):Prop where
 i:SI κ a₀ pd st
 e:arrOf st=xs
theorem zo9 {xs:Array Keyed}{g:Nat}{Q:Unit->SortSt->Prop}(S:SG κ a₀ pd xs st)(h:∀st',SG κ a₀ pd xs st'->Q () st'):wpS (model prog w) A E s (setG g) Q st :=
 wpS_modify (h _ ⟨⟨S.i.kind,S.i.failed,S.i.perm,S.i.pend⟩,S.e⟩)
theorem q_lt {x y:Keyed}{Q:Option Bool->SortSt->Prop}(C:Asks prog w A E s κ a₀ lt){xs:Array Keyed}(S:SG κ a₀ pd xs st)(hx:x∈a₀.toList)(hy:y∈a₀.toList)(h:Q (some (lt x y)) st):wpS (model prog w) A E s (lt' x y) Q st:=C _ _ _ _ hx hy S.i.kind h
theorem zj3 {out a b:Array Keyed}{ia ib:Nat}:(out++a.extract ia a.size++b.extract ib b.size).toList=out.toList++a.toList.drop ia++b.toList.drop ib:=by
 rw[Bv,Bv,zjh,zjh]
theorem znz {le:Keyed->Keyed->Prop}{out a b:Array Keyed}{ia ib:Nat}(e:ib=b.size)(h:Fin le a b (out.toList++a.toList.drop ia)):Fin le a b (out++a.extract ia a.size++b.extract ib b.size).toList:=by
 subst e;rw[zj3,List.drop_of_length_le (l:=b.toList) (by simp),Bt];exact h
theorem z6a {le:Keyed->Keyed->Prop}{out a b:Array Keyed}{ia ib:Nat}(e:ia=a.size)(h:Fin le a b (out.toList++b.toList.drop ib)):Fin le a b (out++a.extract ia a.size++b.extract ib b.size).toList:=by
 subst e;rw[zj3,List.drop_of_length_le (l:=a.toList) (by simp),Bt];exact h
theorem zpw {le:Keyed->Keyed->Prop}{out a b:Array Keyed}{ia ib:Nat}(h:Fin le a b (out.toList++b.toList.drop ib++a.toList.drop ia)):Fin le a b (out++b.extract ib b.size++a.extract ia a.size).toList:=by
 rw[Bv,Bv,zjh,zjh];exact h
theorem q_if {α:Type}{c:Prop} [Decidable c] {x y:StateT SortSt Sem α}{Q:α->SortSt->Prop}(h1:c->wpS (model prog w) A E s x Q st)(h2:¬ c->wpS (model prog w) A E s y Q st):wpS (model prog w) A E s (if c then x else y) Q st:=by
 by_cases h:c
 ·rw[if_pos h];exact h1 h
 ·rw[if_neg h];exact h2 h
theorem zsy {α:Type}{x:StateT SortSt Sem α}{Q:α->SortSt->Prop}(h:∀Q',(∀r t,Q r t->Q' r t)->wpS (model prog w) A E s x Q' st):wpS (model prog w) A E s x Q st:=h Q fun _ _ z=>z
theorem q_eq {α β:Type}{c:β->Prop} [∀m,Decidable (c m)] {x:β->StateT SortSt Sem α}{Q:α->SortSt->Prop}{g:β->β}{f:β->StateT SortSt Sem α}(e:∀m,x m=f (g m))(h:∀u,wpS (model prog w) A E s (f u) Q st):∀m,wpS (model prog w) A E s (if c m then x m else f m) Q st:=fun m=>by
 rw[e];exact q_if (fun _=>h _) fun _=>h _
theorem zwo {α β γ:Type}{c:Prop} [Decidable c] {x:β->γ->StateT SortSt Sem α}{Q:α->SortSt->Prop}{v:β}{u:γ}{f:β->γ->StateT SortSt Sem α} (P:β->γ->Prop) (h0:¬ c->P v u) (h1:c->(∀v u,P v u->wpS (model prog w) A E s (f v u) Q st)->wpS (model prog w) A E s (x v u) Q st)
  (h:∀v u,P v u->wpS (model prog w) A E s (f v u) Q st):∀v',v=v'->∀u',u=u'->wpS (model prog w) A E s (if c then x v' u' else f v' u') Q st:=by
 rintro _ rfl _ rfl;exact q_if (fun k=>h1 k h) fun k=>h _ _ (h0 k)
theorem MI.finA' {le:Keyed->Keyed->Prop}{a b:Array Keyed}{o:List Keyed}{ia ib:Nat}(Sb:Srt le b 0 b.size)(m:MI le a b o ia ib)(e:ia=a.size):Fin le a b (o++b.toList.drop ib):=by subst e;exact m.finA Sb
theorem MI.finB' {le:Keyed->Keyed->Prop}{a b:Array Keyed}{o:List Keyed}{ia ib:Nat}(Sa:Srt le a 0 a.size)(m:MI le a b o ia ib)(e:ib=b.size):Fin le a b (o++a.toList.drop ia):=by subst e;exact m.finB Sa
structure MP (lt:Keyed->Keyed->Bool) (bf le:Keyed->Keyed->Prop) (a₀ a b:Array Keyed):Prop where
 sa:Srt le a 0 a.size
 sb:Srt le b 0 b.size
 ma:∀i,i < a.size->G a i∈a₀.toList
 mb:∀i,i < b.size->G b i∈a₀.toList
 bf:∀i j,i < a.size->j < b.size->bf (G a i) (G b j)
 a1:1<=a.size
 b1:1<=b.size
 h0:∀i,i < a.size->le (G b 0) (G a i)
 ha:∀j,j < b.size->le (G b j) (G a (a.size - 1))
theorem yay (C:Asks prog w A E s κ a₀ lt) (O:Ord lt bf le) {a b xs:Array Keyed}{Q:Array Keyed->SortSt->Prop} (S:SG κ a₀ pd xs st) (P:MP lt bf le a₀ a b)
    (h:∀r st',SG κ a₀ pd xs st'->Fin le a b r.toList->Q r st'):wpS (model prog w) A E s (mLo a b) Q st:=by
  have leA:∀i j,i<=j->j < a.size->le (G a i) (G a j):=fun i j h1 h2=>by
    by_cases e:i=j
    · rw[e];exact O.rf _
    · exact P.sa i j (Cb _) #v[] h2
  have leB:∀i j,i<=j->j < b.size->le (G b i) (G b j):=fun i j h1 h2=>by
    by_cases e:i=j
    · rw[e];exact O.rf _
    · exact P.sb i j (Cb _) #v[] h2
  have pa:=P.a1;have pb:=P.b1;show wpS (model prog w) A E s (liftM (rule _) >>= _) Q st;refine Ao (wpS_lift (Fe ⟨rfl,?_⟩));refine Ao (zaz pb ?_);have m0:MI le a b (#[G b 0]:Array Keyed).toList 0 1:=by
    have:=MI.pushB (o:=[]) (ia:=0) (ib:=0) P.sb ⟨by simp,.nil,fun x hx=>by simp at hx,fun x hx=>by simp at hx⟩ #v[] (fun i _ h2=>P.h0 i h2);simpa using this
  dsimp only;by_cases e1:1=b.size
  · rw [if_pos (by simpa using e1)]
    refine Aw (h _ _ S (znz e1 (m0.finB' P.sa e1)))
  rw[if_neg (by simpa using e1)];by_cases e2:0+1=a.size
  · rw [if_pos (by simpa using e2)]
    exact Aw (h _ _ S (zpw (m0.finL P.sa P.sb e2 P.ha)))
  rw [if_neg (by simpa using e2)];refine Ao (Gu ?_);refine Ao (Ds (Ch (I:=fun x c s2=>∃(out:Array Keyed) (ia ib mg:Nat),c=(none,out,ia,ib,mg)/\SG κ a₀ pd xs s2/\MI le a b out.toList ia ib/\ia+1 < a.size/\ib < b.size/\x<=ia+ib)
    (Q:=fun c s2=>∃(r out:Array Keyed) (ia ib mg:Nat),c=(some r,out,ia,ib,mg)/\SG κ a₀ pd xs s2/\Fin le a b r.toList) ?os ?of ⟨_,0,1,_,rfl,S,m0,by omega,by omega,by omega⟩) ?op)
  case of =>
    rintro c s2 hC;refine aG fun G hG=>?_;obtain⟨out,ia,ib,mg,eC,b1,b2,b3,b4,b5⟩:=hC;refine hG ?_;clear hG;clear G;subst eC;exfalso;omega
  case op =>
    rintro c s2 hC;refine aG fun G hG=>?_;obtain⟨r,out,ia,ib,mg,eC,b1,b2⟩:=hC;refine hG ?_;clear hG;clear G;subst eC;exact Aw (h _ _ b1 b2)
  case os =>
    rintro x c s2 _ hx hC;refine aG fun G hG=>?_;obtain ⟨out,ia,ib,mg,eC,S2,m2,b3,b4,b5⟩:=hC;refine hG ?_;clear hG;clear G;subst eC;dsimp only;refine Ao (Ds (Ch (I:=fun y c s3=>s3=s2/\∃(out:Array Keyed) (ia ib ac bc:Nat),c=(none,out,ia,ib,ac,bc)/\MI le a b out.toList ia ib/\ia+1 < a.size/\ib < b.size/\x<=ia+ib)
      (Q:=fun c s3=>s3=s2/\((∃(r out:Array Keyed) (ia ib ac bc:Nat),c=(some r,out,ia,ib,ac,bc)/\Fin le a b r.toList)\/∃(out:Array Keyed) (ia ib ac bc:Nat),c=(none,out,ia,ib,ac,bc)/\MI le a b out.toList ia ib/\ia+1 < a.size/\ib < b.size/\x<=ia+ib)) ?is1 ?if1 ⟨rfl,out,ia,ib,0,0,rfl,m2,b3,b4,b5⟩) ?ip1)
    case if1 =>
      rintro c s3 ⟨e3,z⟩;exact⟨e3,.inr z⟩
    case is1 =>
      rintro y c s3 _ hy hC;refine aG fun G hG=>?_;obtain⟨e3,out,ia,ib,ac,bc,eC,m3,c3,c4,c5⟩:=hC;refine hG ?_;clear hG;clear G;subst eC;subst e3;dsimp only;refine Ao (zaz c4 (Ao (zaz #v[] (Ao (q_lt C S2 (P.mb _ c4) (P.ma _ #v[]) ?_)))));have bb:=P.bf ia ib #v[] c4;cases q:lt (G b ib) (G a ia) with
      | true =>
        dsimp only;rw [if_pos rfl];refine Ao (zaz c4 ?_);have m4:MI le a b (out.push (G b ib)).toList ia (ib+1):=by
          rw[Dy];exact m3.pushB P.sb c4 fun i g1 g2=>O.tr (O.f2 q) (leA _ _ g1 g2)
        by_cases e:ib+1=b.size
        · rw [if_pos (by simpa using e)]
          refine Aw ⟨rfl,.inl ⟨_,_,_,_,_,_,rfl,znz e ?_⟩⟩;rw[e] at m4;exact m4.finB P.sa
        · rw [if_neg (by simpa using e)]
          split
          · exact Aw ⟨rfl,.inr ⟨_,_,_,_,_,rfl,m4,c3,by omega,by omega⟩⟩
          · exact Aw ⟨rfl,_,_,_,_,_,rfl,m4,c3,by omega,by omega⟩
      | false =>
        dsimp only;rw [if_neg (by decide)];refine Ao (zaz (by omega) ?_);have m4:MI le a b (out.push (G a ia)).toList (ia+1) ib:=by
          rw[Dy];exact m3.pushA P.sa #v[] fun j g1 g2=>O.tr ((O.f1 bb).mp q) (leB _ _ g1 g2)
        by_cases e:ia+1+1=a.size
        · rw [if_pos (by simpa using e)]
          exact Aw ⟨rfl,.inl ⟨_,_,_,_,_,_,rfl,zpw (m4.finL P.sa P.sb e P.ha)⟩⟩
        · rw [if_neg (by simpa using e)]
          split
          · exact Aw ⟨rfl,.inr ⟨_,_,_,_,_,rfl,m4,by omega,c4,by omega⟩⟩
          · exact Aw ⟨rfl,_,_,_,_,_,rfl,m4,by omega,c4,by omega⟩
    case ip1 =>
      rintro c s3 ⟨e3,z⟩;subst e3;refine aG fun G hG=>?_;rcases z with ⟨r,out,ia,ib,ac,bc,eC,f⟩ | ⟨out,ia,ib,ac,bc,eC,m3,c3,c4,c5⟩
      · refine hG ?_
        clear hG;clear G;subst eC;exact Aw ⟨_,_,_,_,_,rfl,S2,f⟩
      · refine hG ?_
        clear hG;clear G;subst eC;dsimp only;refine Ao (wpS_lift (Fe ⟨rfl,?_⟩));refine Ao (Ds (Ch (I:=fun y c s4=>∃(out:Array Keyed) (ia ib mg ac bc:Nat),c=(none,out,ia,ib,mg,ac,bc)/\SG κ a₀ pd xs s4/\MI le a b out.toList ia ib/\ia+1 < a.size/\ib < b.size/\x+y<=ia+ib)
          (Q:=fun c s4=>SG κ a₀ pd xs s4/\((∃(r out:Array Keyed) (ia ib mg ac bc:Nat),c=(some r,out,ia,ib,mg,ac,bc)/\Fin le a b r.toList)\/∃(out:Array Keyed) (ia ib mg ac bc:Nat),c=(none,out,ia,ib,mg,ac,bc)/\MI le a b out.toList ia ib/\ia+1 < a.size/\ib < b.size/\x+1<=ia+ib)) ?gs ?gf ⟨out,ia,ib,_,ac,bc,rfl,S2,m3,c3,c4,by omega⟩) ?gp)
        case gf =>
          rintro c s4 hC;refine aG fun G hG=>?_;obtain⟨out,ia,ib,mg,ac,bc,eC,S4,m4,d3,d4,d5⟩:=hC;refine hG ?_;clear hG;clear G;subst eC;exact⟨S4,.inr ⟨_,_,_,_,_,_,rfl,m4,d3,d4,by omega⟩⟩
        case gp =>
          rintro c s4 ⟨S4,z⟩;refine aG fun G hG=>?_;rcases z with ⟨r,out,ia,ib,mg,ac,bc,eC,f⟩ | ⟨out,ia,ib,mg,ac,bc,eC,m4,d3,d4,d5⟩
          · refine hG ?_
            clear hG;clear G;subst eC;exact Aw ⟨_,_,_,_,_,rfl,S4,f⟩
          · refine hG ?_
            clear hG;clear G;subst eC;dsimp only;exact Ao (zo9 S4 fun s5 S5=>Aw ⟨_,_,_,_,rfl,S5,m4,d3,d4,d5⟩)
        case gs =>
          rintro y c s4 _ hy hC;refine aG fun G hG=>?_;obtain⟨out,ia,ib,mg,ac,bc,eC,S4,m4,d3,d4,d5⟩:=hC;refine hG ?_;clear hG;clear G;subst eC;simp (config:={ maxSteps:=10000000,failIfUnchanged:=false }) only [];refine zsy fun Q' hQ=>?_;generalize mg=mg
          revert mg
          refine q_eq (g:=fun mg=>mg - 1) (fun _=>rfl) fun mg=>?_;dsimp (config:={ failIfUnchanged:=false }) only;refine Ao (zo9 S4 fun s5 S5=>Ao (zaz d4 (Ao (zp3 (left:=false) (key:=G b ib) (arr:=a) (base:=ia) (n:=a.size - ia) (hint:=0) (B:=fun i=>!lt (G b ib) (G a (ia+i))) C S5.i.kind (P.mb _ d4) #v[] (fun i hi=>P.ma _ #v[]) (fun i hi=>rfl) (fun i j h1 h2 h3=>?mono1) #v[] fun k k1 k2 k3=>?_))))
          case mono1 =>
            have h3' : lt (G b ib) (G a (ia+j))=false:=by simpa using h3
            have l1:=(O.f1 (P.bf (ia+j) ib #v[] d4)).mp h3';have l2:=(O.f1 (P.bf (ia+i) ib #v[] d4)).mpr (O.tr (leA _ _ #v[] #v[]) l1);show (!lt (G b ib) (G a (ia+i)))=true;rw[l2];rfl
          have w1:∀i,ia<=i->i < ia+k->le (G a i) (G b ib):=fun i g1 g2=>by
            have:=k2 (i - ia) #v[];rw[Ga g1] at this;exact (O.f1 (P.bf i ib #v[] d4)).mp (by simpa using this)
          have w2:∀i,ia+k<=i->i < a.size->le (G b ib) (G a i):=fun i g1 g2=>by
            have:=k3 (i - ia) #v[] #v[];rw[Ga (Cy (Dq _ _) g1)] at this;exact O.f2 (by simpa using this)
          have m5:MI le a b (out++a.extract ia (ia+k)).toList (ia+k) ib:=by
            rw[Bv,zcz,Nat.add_sub_cancel_left];exact m4.appA P.sa k #v[] fun i g1 g2 j g3 g4=>O.tr (w1 i g1 g2) (leB _ _ g3 g4)
          dsimp (config:={ failIfUnchanged:=false }) only;generalize eou:out=out'
          revert out'
          generalize ena:ia=na'
          revert na'
          refine zwo (fun ia1 out1=>MI le a b out1.toList ia1 ib/\(∀i,ia1<=i->i < a.size->le (G b ib) (G a i))/\ia1+1 < a.size/\x+y<=ia1+ib) (fun hk0=>?_) (fun hc H=>?_) fun ia1 out1 ⟨n5,u1,b6,p6⟩=>?_
          · have k0 : k = 0 := by omega
            subst k0;exact⟨m4,w2,d3,d5⟩
          · refine q_if (fun e1 => ?_) fun e1 => ?_
            · have e1 : ia + k + 1 = a.size := by simpa using e1
              exact Aw (hQ _ _ ⟨S5,.inl ⟨_,_,_,_,_,_,_,rfl,zpw (m5.finL P.sa P.sb e1 P.ha)⟩⟩)
            have e1:¬ ia+k+1=a.size:=by simpa using e1
            refine q_if (fun e2=>?_) fun e2=>?_
            · have e2 : ia + k = a.size := by simpa using e2
              exact Aw (hQ _ _ ⟨S5,.inl ⟨_,_,_,_,_,_,_,rfl,z6a e2 (m5.finA' P.sb e2)⟩⟩)
            have e2:¬ ia+k=a.size:=by simpa using e2
            exact H _ _ ⟨m5,w2,by omega,by omega⟩
          clear m5 m4 w2 w1 k3 k2 k1;dsimp (config:={ failIfUnchanged:=false }) only;refine Ao (zaz d4 ?_);have m6:MI le a b (out1.push (G b ib)).toList ia1 (ib+1):=by
            rw[Dy];exact n5.pushB P.sb d4 u1
          refine q_if (fun e3=>?_) fun e3=>?_
          · have e3 : ib + 1 = b.size := by simpa using e3
            exact Aw (hQ _ _ ⟨S5,.inl ⟨_,_,_,_,_,_,_,rfl,znz e3 (m6.finB' P.sa e3)⟩⟩)
          have e3:¬ ib+1=b.size:=by simpa using e3
          refine Ao (zaz #v[] (Ao (zp3 (left:=true) (key:=G a ia1) (arr:=b) (base:=ib+1) (n:=b.size - (ib+1)) (hint:=0) (B:=fun j=>lt (G b (ib+1+j)) (G a ia1)) C S5.i.kind (P.ma _ #v[]) #v[] (fun j hj=>P.mb _ #v[]) (fun j hj=>rfl) (fun i j h1 h2 h3=>?mono2) #v[] fun l l1 l2 l3=>?_)))
          case mono2 =>
            have n1:=O.f3 (P.bf ia1 (ib+1+j) #v[] #v[]) h3;cases q:lt (G b (ib+1+i)) (G a ia1) with
            | true=>rfl
            | false=>exact absurd (O.tr ((O.f1 (P.bf ia1 (ib+1+i) #v[] #v[])).mp q) (leB _ _ #v[] #v[])) n1
          have v1:∀j,ib+1<=j->j < ib+1+l->le (G b j) (G a ia1):=fun j g1 g2=>by
            have:=l2 (j - (ib+1)) #v[];rw[Ga g1] at this;exact O.f2 this
          have v2:∀j,ib+1+l<=j->j < b.size->le (G a ia1) (G b j):=fun j g1 g2=>by
            have:=l3 (j - (ib+1)) #v[] #v[];rw[Ga (Cy (Dq _ _) g1)] at this;exact (O.f1 (P.bf ia1 j #v[] g2)).mp this
          have m7:MI le a b (out1.push (G b ib)++b.extract (ib+1) (ib+1+l)).toList ia1 (ib+1+l):=by
            rw[Bv,zcz,Nat.add_sub_cancel_left];exact m6.appB P.sb l #v[] fun j g1 g2 i g3 g4=>O.tr (v1 j g1 g2) (leA _ _ g3 g4)
          dsimp (config:={ failIfUnchanged:=false }) only;generalize hnb:ib+1=ib1 at m7 m6 v2 e3 ⊢;generalize hout:out1.push (G b ib)=out2 at m7 m6 ⊢;generalize eou:out2=out'
          revert out'
          generalize ena:ib1=na'
          revert na'
          refine zwo (fun ib2 out2=>MI le a b out2.toList ia1 ib2/\(∀j,ib2<=j->j < b.size->le (G a ia1) (G b j))/\ib2 < b.size/\x+y+1<=ia1+ib2) (fun hl0=>?_) (fun hc H=>?_) fun ib2 out3 ⟨n7,u2,b7,p7⟩=>?_
          · have k0 : l = 0 := by omega
            subst k0;exact⟨m6,v2,by omega,by omega⟩
          · refine q_if (fun e4 => ?_) fun e4 => ?_
            · have e4 : ib1 + l = b.size := by simpa using e4
              exact Aw (hQ _ _ ⟨S5,.inl ⟨_,_,_,_,_,_,_,rfl,znz e4 (m7.finB' P.sa e4)⟩⟩)
            have e4:¬ ib1+l=b.size:=by simpa using e4
            exact H _ _ ⟨m7,v2,by omega,by omega⟩
          dsimp (config:={ failIfUnchanged:=false }) only;refine Ao (zaz (by omega) ?_);have m8:MI le a b (out3.push (G a ia1)).toList (ia1+1) ib2:=by
            rw[Dy];exact n7.pushA P.sa #v[] u2
          refine q_if (fun e5=>?_) fun e5=>?_
          · have e5 : ia1 + 1 + 1 = a.size := by simpa using e5
            exact Aw (hQ _ _ ⟨S5,.inl ⟨_,_,_,_,_,_,_,rfl,zpw (m8.finL P.sa P.sb e5 P.ha)⟩⟩)
          have e5:¬ ia1+1+1=a.size:=by simpa using e5
          refine q_if (fun _=>?_) fun _=>?_
          · exact Aw (hQ _ _ ⟨S5,.inr ⟨_,_,_,_,_,_,rfl,m8,by omega,b7,by omega⟩⟩)
          · exact Aw (hQ _ _ ⟨_,_,_,_,_,_,rfl,S5,m8,by omega,b7,by omega⟩)
end
end Tim
namespace Tim
section
variable {prog:Program}{w:World}{A:Around}{E:Value->Shared->Prop}{s:Shared}{κ:SortKind}{a₀:Array Keyed}{lt:Keyed->Keyed->Bool}{bf le:Keyed->Keyed->Prop}{st:SortSt}{pd:Array (Nat × Nat × Nat)}
variable {a b out:Array Keyed}{o:List Keyed}{na nb at_:Nat}
theorem MH.pushA' (Sa:Srt le a 0 a.size)(m:MH le a b out.toList.reverse na nb)(h1:1<=na)(h:na<=a.size)(hb:∀j,j < nb->le (G b j) (G a (na - 1))):MH le a b (out.push (G a (na - 1))).toList.reverse (na - 1) nb:=by
 obtain⟨n,rfl⟩ : ∃n,na=n+1:=⟨na - 1,by omega⟩;rw[Dy,List.reverse_append];exact m.pushA Sa #v[] hb
theorem MH.pushB' (Sb:Srt le b 0 b.size)(m:MH le a b out.toList.reverse na nb)(h1:1<=nb)(h:nb<=b.size)(ha:∀i,i < na->le (G a i) (G b (nb - 1))):MH le a b (out.push (G b (nb - 1))).toList.reverse na (nb - 1):=by
 obtain⟨n,rfl⟩ : ∃n,nb=n+1:=⟨nb - 1,by omega⟩;rw[Dy,List.reverse_append];exact m.pushB Sb #v[] ha
theorem zsh (x:Array Keyed)(i j:Nat):(out++(x.extract i j).reverse).toList.reverse=(x.toList.drop i).take (j - i)++out.toList.reverse:=by
 rw[Bv,List.reverse_append,Fx,List.reverse_reverse,zcz]
theorem MH.appA' (Sa:Srt le a 0 a.size)(m:MH le a b out.toList.reverse na nb)(h1:at_<=na)(h:na<=a.size)(hb:∀i,at_<=i->i < na->∀j,j < nb->le (G b j) (G a i)):MH le a b (out++(a.extract at_ na).reverse).toList.reverse at_ nb:=by
 rw[zsh];obtain⟨k,rfl⟩ : ∃k,na=at_+k:=⟨na - at_,by omega⟩;rw[show at_+k - at_=k by omega];exact MH.appA Sa k at_ m h hb
theorem MH.appB' (Sb:Srt le b 0 b.size)(m:MH le a b out.toList.reverse na nb)(h1:at_<=nb)(h:nb<=b.size)(ha:∀j,at_<=j->j < nb->∀i,i < na->le (G a i) (G b j)):MH le a b (out++(b.extract at_ nb).reverse).toList.reverse na at_:=by
 rw[zsh];obtain⟨k,rfl⟩ : ∃k,nb=at_+k:=⟨nb - at_,by omega⟩;rw[show at_+k - at_=k by omega];exact MH.appB Sb k at_ m h ha
theorem zdv (x:Array Keyed)(n:Nat):(x.extract 0 n).toList=x.toList.take n:=by rw[zcz,Ee,Nat.sub_zero]
theorem MH.done0 (Sb:Srt le b 0 b.size)(m:MH le a b out.toList.reverse na nb)(e:na=0):Fin le a b (a.extract 0 na++b.extract 0 nb++out.reverse).toList:=by
 subst e;rw[Bv,Bv,zdv,zdv,Ed,List.nil_append,Fx];exact m.finA Sb
theorem MH.done1 (Sa:Srt le a 0 a.size)(m:MH le a b out.toList.reverse na nb)(e:nb=0):Fin le a b (a.extract 0 na++b.extract 0 nb++out.reverse).toList:=by
 subst e;rw[Bv,Bv,zdv,zdv,Ed,Bt,Fx];exact m.finB Sa
theorem MH.first (Sa:Srt le a 0 a.size)(Sb:Srt le b 0 b.size)(m:MH le a b out.toList.reverse na nb)(e:nb=1)(H0:∀i,i < a.size->le (G b 0) (G a i)):Fin le a b (b.extract 0 nb++a.extract 0 na++out.reverse).toList:=by
 subst e;rw[Bv,Bv,zdv,zdv,Fx];exact m.finF Sa Sb H0
theorem z96 (C:Asks prog w A E s κ a₀ lt) (O:Ord lt bf le) {a b xs:Array Keyed}{Q:Array Keyed->SortSt->Prop} (S:SG κ a₀ pd xs st) (P:MP lt bf le a₀ a b)
    (h:∀r st',SG κ a₀ pd xs st'->Fin le a b r.toList->Q r st'):wpS (model prog w) A E s (mHi a b) Q st:=by
  have leA:∀i j,i<=j->j < a.size->le (G a i) (G a j):=fun i j h1 h2=>by
    by_cases e:i=j
    · rw[e];exact O.rf _
    · exact P.sa i j (Cb _) #v[] h2
  have leB:∀i j,i<=j->j < b.size->le (G b i) (G b j):=fun i j h1 h2=>by
    by_cases e:i=j
    · rw[e];exact O.rf _
    · exact P.sb i j (Cb _) #v[] h2
  have pa:=P.a1;have pb:=P.b1;show wpS (model prog w) A E s (liftM (rule _) >>= _) Q st;refine Ao (wpS_lift (Fe ⟨rfl,?_⟩));refine Ao (zaz (show a.size - 1 < a.size by omega) ?_);have m0:MH le a b (#[G a (a.size - 1)]:Array Keyed).toList.reverse (a.size - 1) b.size:=by
    have:=MH.pushA' (out:=#[]) (na:=a.size) (nb:=b.size) (a:=a) (b:=b) P.sa ⟨by simp,.nil,fun x hx=>by simp at hx,fun x hx=>by simp at hx⟩ pa (Ag _) P.ha;simpa using this
  dsimp only;by_cases e1:a.size - 1=0
  · rw [if_pos (by simpa using e1)]
    exact Aw (h _ _ S (m0.done0 P.sb e1))
  rw[if_neg (by simpa using e1)];by_cases e2:b.size=1
  · rw [if_pos (by simpa using e2)]
    exact Aw (h _ _ S (m0.first P.sa P.sb e2 P.h0))
  rw [if_neg (by simpa using e2)];refine Ao (Gu ?_);refine Ao (Ds (Ch (I:=fun x c s2=>∃(out:Array Keyed) (na nb mg:Nat),c=(none,na,nb,out,mg)/\SG κ a₀ pd xs s2/\MH le a b out.toList.reverse na nb/\1<=na/\2<=nb/\na<=a.size/\nb<=b.size/\x+na+nb<=a.size+b.size)
    (Q:=fun c s2=>∃(r out:Array Keyed) (na nb mg:Nat),c=(some r,na,nb,out,mg)/\SG κ a₀ pd xs s2/\Fin le a b r.toList) ?os ?of ⟨_,a.size - 1,b.size,_,rfl,S,m0,by omega,by omega,by omega,by omega,by omega⟩) ?op)
  case of =>
    rintro c s2 hC;refine aG fun G hG=>?_;obtain⟨out,na,nb,mg,eC,b1,b2,b3,b4,b5,b6,b7⟩:=hC;refine hG ?_;clear hG;clear G;subst eC;exfalso;omega
  case op =>
    rintro c s2 hC;refine aG fun G hG=>?_;obtain⟨r,out,na,nb,mg,eC,b1,b2⟩:=hC;refine hG ?_;clear hG;clear G;subst eC;exact Aw (h _ _ b1 b2)
  case os =>
    rintro x c s2 _ hx hC;refine aG fun G hG=>?_;obtain ⟨out,na,nb,mg,eC,S2,m2,b3,b4,b5,b6,b7⟩:=hC;refine hG ?_;clear hG;clear G;subst eC;dsimp only;refine Ao (Ds (Ch (I:=fun y c s3=>s3=s2/\∃(out:Array Keyed) (na nb ac bc:Nat),c=(none,na,nb,out,ac,bc)/\MH le a b out.toList.reverse na nb/\1<=na/\2<=nb/\na<=a.size/\nb<=b.size/\x+na+nb<=a.size+b.size)
      (Q:=fun c s3=>s3=s2/\((∃(r out:Array Keyed) (na nb ac bc:Nat),c=(some r,na,nb,out,ac,bc)/\Fin le a b r.toList)\/∃(out:Array Keyed) (na nb ac bc:Nat),c=(none,na,nb,out,ac,bc)/\MH le a b out.toList.reverse na nb/\1<=na/\2<=nb/\na<=a.size/\nb<=b.size/\x+na+nb<=a.size+b.size)) ?is1 ?if1 ⟨rfl,out,na,nb,0,0,rfl,m2,b3,b4,b5,b6,b7⟩) ?ip1)
    case if1 =>
      rintro c s3 ⟨e3,z⟩;exact⟨e3,.inr z⟩
    case is1 =>
      rintro y c s3 _ hy hC;refine aG fun G hG=>?_;obtain⟨e3,out,na,nb,ac,bc,eC,m3,c3,c4,c5,c6,c7⟩:=hC;refine hG ?_;clear hG;clear G;subst eC;subst e3;dsimp only;refine Ao (zaz #v[] (Ao (zaz #v[] (Ao (q_lt C S2 (P.mb _ #v[]) (P.ma _ #v[]) ?_)))));have bb:=P.bf (na - 1) (nb - 1) #v[] #v[];cases q:lt (G b (nb - 1)) (G a (na - 1)) with
      | true =>
        dsimp only;rw[if_pos rfl];refine Ao (zaz #v[] ?_);have m4:=m3.pushA' P.sa c3 c5 fun j g=>O.tr (leB j (nb - 1) #v[] #v[]) (O.f2 q);by_cases e:na - 1=0
        · rw [if_pos (by simpa using e)]
          exact Aw ⟨rfl,.inl ⟨_,_,_,_,_,_,rfl,m4.done0 P.sb e⟩⟩
        · rw [if_neg (by simpa using e)]
          split
          · exact Aw ⟨rfl,.inr ⟨_,_,_,_,_,rfl,m4,by omega,by omega,by omega,by omega,by omega⟩⟩
          · exact Aw ⟨rfl,_,_,_,_,_,rfl,m4,by omega,by omega,by omega,by omega,by omega⟩
      | false =>
        dsimp only;rw[if_neg #v[0,9]];refine Ao (zaz #v[] ?_);have m4:=m3.pushB' P.sb #v[] c6 fun i g=>O.tr (leA i (na - 1) #v[] #v[]) ((O.f1 bb).mp q);by_cases e:nb - 1=1
        · rw [if_pos (by simpa using e)]
          exact Aw ⟨rfl,.inl ⟨_,_,_,_,_,_,rfl,m4.first P.sa P.sb e P.h0⟩⟩
        · rw [if_neg (by simpa using e)]
          split
          · exact Aw ⟨rfl,.inr ⟨_,_,_,_,_,rfl,m4,by omega,by omega,by omega,by omega,by omega⟩⟩
          · exact Aw ⟨rfl,_,_,_,_,_,rfl,m4,by omega,by omega,by omega,by omega,by omega⟩
    case ip1 =>
      rintro c s3 ⟨e3,z⟩;subst e3;refine aG fun G hG=>?_;rcases z with ⟨r,out,na,nb,ac,bc,eC,f⟩ | ⟨out,na,nb,ac,bc,eC,m3,c3,c4,c5,c6,c7⟩
      · refine hG ?_
        clear hG;clear G;subst eC;exact Aw ⟨_,_,_,_,_,rfl,S2,f⟩
      · refine hG ?_
        clear hG;clear G;subst eC;dsimp only;refine Ao (wpS_lift (Fe ⟨rfl,?_⟩));refine Ao (Ds (Ch (I:=fun y c s4=>∃(out:Array Keyed) (na nb mg ac bc:Nat),c=(none,na,nb,out,mg,ac,bc)/\SG κ a₀ pd xs s4/\MH le a b out.toList.reverse na nb/\1<=na/\2<=nb/\na<=a.size/\nb<=b.size/\x+y+na+nb<=a.size+b.size)
          (Q:=fun c s4=>SG κ a₀ pd xs s4/\((∃(r out:Array Keyed) (na nb mg ac bc:Nat),c=(some r,na,nb,out,mg,ac,bc)/\Fin le a b r.toList)\/∃(out:Array Keyed) (na nb mg ac bc:Nat),c=(none,na,nb,out,mg,ac,bc)/\MH le a b out.toList.reverse na nb/\1<=na/\2<=nb/\na<=a.size/\nb<=b.size/\x+1+na+nb<=a.size+b.size)) ?gs ?gf ⟨out,na,nb,_,ac,bc,rfl,S2,m3,c3,c4,c5,c6,by omega⟩) ?gp)
        case gf =>
          rintro c s4 hC;refine aG fun G hG=>?_;obtain⟨out,na,nb,mg,ac,bc,eC,S4,m4,d3,d4,d5,d6,d7⟩:=hC;refine hG ?_;clear hG;clear G;subst eC;exact⟨S4,.inr ⟨_,_,_,_,_,_,rfl,m4,d3,d4,d5,d6,by omega⟩⟩
        case gp =>
          rintro c s4 ⟨S4,z⟩;refine aG fun G hG=>?_;rcases z with ⟨r,out,na,nb,mg,ac,bc,eC,f⟩ | ⟨out,na,nb,mg,ac,bc,eC,m4,d3,d4,d5,d6,d7⟩
          · refine hG ?_
            clear hG;clear G;subst eC;exact Aw ⟨_,_,_,_,_,rfl,S4,f⟩
          · refine hG ?_
            clear hG;clear G;subst eC;dsimp only;exact Ao (zo9 S4 fun s5 S5=>Aw ⟨_,_,_,_,rfl,S5,m4,d3,d4,d5,d6,d7⟩)
        case gs =>
          rintro y c s4 _ hy hC;refine aG fun G hG=>?_;obtain⟨out,na,nb,mg,ac,bc,eC,S4,m4,d3,d4,d5,d6,d7⟩:=hC;refine hG ?_;clear hG;clear G;subst eC;simp (config:={ maxSteps:=10000000,failIfUnchanged:=false }) only [];refine zsy fun Q' hQ=>?_;generalize mg=mg
          revert mg
          refine q_eq (g:=fun mg=>mg - 1) (fun _=>rfl) fun mg=>?_;dsimp (config:={ failIfUnchanged:=false }) only;refine Ao (zo9 S4 fun s5 S5=>Ao (zaz (show nb - 1 < b.size by omega) (Ao (zp3 (left:=false) (key:=G b (nb - 1)) (arr:=a) (base:=0) (n:=na) (hint:=na - 1) (B:=fun i=>!lt (G b (nb - 1)) (G a (0+i))) C S5.i.kind (P.mb _ #v[]) #v[] (fun i hi=>P.ma _ #v[]) (fun i hi=>rfl) (fun i j h1 h2 h3=>?mono1) #v[] fun k k1 k2 k3=>?_))))
          case mono1 =>
            have h3' : lt (G b (nb - 1)) (G a (0+j))=false:=by simpa using h3
            have l1:=(O.f1 (P.bf (0+j) (nb - 1) #v[] #v[])).mp h3';have l2:=(O.f1 (P.bf (0+i) (nb - 1) #v[] #v[])).mpr (O.tr (leA _ _ #v[] #v[]) l1);show (!lt (G b (nb - 1)) (G a (0+i)))=true;rw[l2];rfl
          have w1:∀i,i < k->le (G a i) (G b (nb - 1)):=fun i g1=>by
            have:=k2 i g1;rw[Co] at this;exact (O.f1 (P.bf i (nb - 1) #v[] #v[])).mp (by simpa using this)
          have w2:∀i,k<=i->i < na->le (G b (nb - 1)) (G a i):=fun i g1 g2=>by
            have:=k3 i #v[] #v[];rw[Co] at this;exact O.f2 (by simpa using this)
          have m5:=m4.appA' P.sa k1 d5 fun i g1 g2 j g3=>O.tr (leB j (nb - 1) #v[] #v[]) (w2 i g1 g2);dsimp (config:={ failIfUnchanged:=false }) only;generalize hac:na - k=ac1 at m5 ⊢;generalize eou:out=out'
          revert out'
          generalize ena:na=na'
          revert na'
          refine zwo (fun na1 out1=>MH le a b out1.toList.reverse na1 nb/\(∀i,i < na1->le (G a i) (G b (nb - 1)))/\(1<=na1/\na1<=a.size)/\x+y+na1+nb<=a.size+b.size) (fun hk0=>?_) (fun hc H=>?_) fun na1 out1 ⟨n5,u1,b8,p6⟩=>?_
          · have k0 : k = na := by omega
            exact⟨m4,k0 ▸ w1,by omega,by omega⟩
          · refine q_if (fun e1 => ?_) fun e1 => ?_
            · have e1 : k = 0 := by simpa using e1
              exact Aw (hQ _ _ ⟨S5,.inl ⟨_,_,_,_,_,_,_,rfl,m5.done0 P.sb e1⟩⟩)
            have e1:¬ k=0:=by simpa using e1
            exact H _ _ ⟨m5,w1,by omega,by omega⟩
          clear m5 m4 w2 w1 k3 k2 k1 hac;dsimp (config:={ failIfUnchanged:=false }) only;refine Ao (zaz #v[] ?_);have m6:=n5.pushB' P.sb #v[] d6 u1;refine q_if (fun e3=>?_) fun e3=>?_
          · have e3 : nb - 1 = 1 := by simpa using e3
            exact Aw (hQ _ _ ⟨S5,.inl ⟨_,_,_,_,_,_,_,rfl,m6.first P.sa P.sb e3 P.h0⟩⟩)
          have e3:¬ nb - 1=1:=by simpa using e3
          refine Ao (zaz (show na1 - 1 < a.size by omega) (Ao (zp3 (left:=true) (key:=G a (na1 - 1)) (arr:=b) (base:=0) (n:=nb - 1) (hint:=nb - 1 - 1) (B:=fun j=>lt (G b (0+j)) (G a (na1 - 1))) C S5.i.kind (P.ma _ #v[]) #v[] (fun j hj=>P.mb _ #v[]) (fun j hj=>rfl) (fun i j h1 h2 h3=>?mono2) #v[] fun l l1 l2 l3=>?_)))
          case mono2 =>
            have n1:=O.f3 (P.bf (na1 - 1) (0+j) #v[] #v[]) h3;cases q:lt (G b (0+i)) (G a (na1 - 1)) with
            | true=>rfl
            | false=>exact absurd (O.tr ((O.f1 (P.bf (na1 - 1) (0+i) #v[] #v[])).mp q) (leB _ _ #v[] #v[])) n1
          have v1:∀j,j < l->le (G b j) (G a (na1 - 1)):=fun j g1=>by
            have:=l2 j g1;rw[Co] at this;exact O.f2 this
          have v2:∀j,l<=j->j < nb - 1->le (G a (na1 - 1)) (G b j):=fun j g1 g2=>by
            have:=l3 j #v[] #v[];rw[Co] at this;exact (O.f1 (P.bf (na1 - 1) j #v[] #v[])).mp this
          have m7:=m6.appB' P.sb l1 #v[] fun j g1 g2 i g3=>O.tr (leA i (na1 - 1) #v[] #v[]) (v2 j g1 g2);dsimp (config:={ failIfUnchanged:=false }) only;generalize hbc:nb - 1 - l=bc1 at m7 ⊢;generalize hnb:nb - 1=nb1 at hbc m7 m6 ⊢;generalize hout:out1.push (G b nb1)=out2 at m7 m6 ⊢;generalize eou:out2=out'
          revert out'
          generalize ena:nb1=na'
          revert na'
          refine zwo (fun nb2 out2=>MH le a b out2.toList.reverse na1 nb2/\(∀j,j < nb2->le (G b j) (G a (na1 - 1)))/\(2<=nb2/\nb2<=b.size)/\x+y+1+na1+nb2<=a.size+b.size) (fun hl0=>?_) (fun hc H=>?_) fun nb2 out3 ⟨n7,u2,b7,p7⟩=>?_
          · have k0 : l = nb1 := by omega
            exact⟨m6,k0 ▸ v1,by omega,by omega⟩
          · refine q_if (fun e4 => ?_) fun e4 => ?_
            · have e4 : l = 1 := by simpa using e4
              exact Aw (hQ _ _ ⟨S5,.inl ⟨_,_,_,_,_,_,_,rfl,m7.first P.sa P.sb e4 P.h0⟩⟩)
            have e4:¬ l=1:=by simpa using e4
            refine q_if (fun e6=>?_) fun e6=>?_
            · have e6 : l = 0 := by simpa using e6
              exact Aw (hQ _ _ ⟨S5,.inl ⟨_,_,_,_,_,_,_,rfl,m7.done1 P.sa e6⟩⟩)
            have e6:¬ l=0:=by simpa using e6
            exact H _ _ ⟨m7,v1,by omega,by omega⟩
          dsimp (config:={ failIfUnchanged:=false }) only;refine Ao (zaz #v[] ?_);have m8:=n7.pushA' P.sa b8.1 b8.2 u2;refine q_if (fun e5=>?_) fun e5=>?_
          · have e5 : na1 - 1 = 0 := by simpa using e5
            exact Aw (hQ _ _ ⟨S5,.inl ⟨_,_,_,_,_,_,_,rfl,m8.done0 P.sb e5⟩⟩)
          have e5:¬ na1 - 1=0:=by simpa using e5
          refine q_if (fun _=>?_) fun _=>?_
          · exact Aw (hQ _ _ ⟨S5,.inr ⟨_,_,_,_,_,_,rfl,m8,by omega,by omega,by omega,by omega,by omega⟩⟩)
          · exact Aw (hQ _ _ ⟨_,_,_,_,_,_,rfl,S5,m8,by omega,by omega,by omega,by omega,by omega⟩)
end
end Tim
namespace Tim
noncomputable def wr (xs:Array Keyed) (s0:Nat) (l:List Keyed) (m:Nat):Array Keyed:=(l.zipIdx m).foldl (fun a (x:Keyed × Nat)=>match x with | (p,j)=>a.setIfInBounds (s0+j) p) xs
theorem ztf (xs:Array Keyed)(s0:Nat)(p:Keyed)(l:List Keyed)(m:Nat):wr xs s0 (p::l) m=wr (xs.setIfInBounds (s0+m) p) s0 l (m+1):=by unfold wr;rw[List.zipIdx_cons,List.foldl_cons]
theorem zui (s0:Nat):∀(l:List Keyed) (m:Nat) (xs:Array Keyed),(wr xs s0 l m).size=xs.size
 | [],m,xs=>rfl
 | p::l,m,xs=>by rw[ztf,zui s0 l,Array.size_setIfInBounds]
theorem yaz {xs:Array Keyed}{i k:Nat}{p:Keyed}(h:i < xs.size):G (xs.setIfInBounds i p) k=if i=k then p else G xs k:=by
 unfold G;rw[Array.getElem?_setIfInBounds];split
 ·rename_i e;subst e
  first | rfl | (rw[if_pos h];rfl)
 ·rfl
theorem G_wr (s0:Nat):∀(l:List Keyed) (m:Nat) (xs:Array Keyed),s0+m+l.length<=xs.size->∀i,G (wr xs s0 l m) i=if s0+m<=i/\i < s0+m+l.length then (l[i - (s0+m)]?).getD d0 else G xs i
  | [],m,xs,h,i=>by rw[if_neg (by simp)];rfl
  | p::l,m,xs,h,i=>by
    rw[Be] at h;rw[ztf,G_wr s0 l (m+1) _ (by rw[Array.size_setIfInBounds];omega),yaz #v[]];rw[Be];by_cases c:i=s0+m
    · subst c
      rw[if_neg #v[],if_pos rfl,if_pos ⟨by omega,by omega⟩,Nat.sub_self]
      rfl
    · by_cases c2 : s0 + m ≤ i /\ i < s0 + m + (l.length + 1)
      · rw[if_pos ⟨by omega,by omega⟩,if_pos c2,show i - (s0+m)=i - (s0+(m+1))+1 by omega,List.getElem?_cons_succ]
      · rw[if_neg #v[],if_neg #v[],if_neg c2]
theorem zow {xs:Array Keyed}{i:Nat}(h:i < xs.size):G xs i=xs[i]:=by unfold G;rw[getElem?_pos xs i h];rfl
theorem zo1 {xs:Array Keyed}{i j k:Nat}(hj:j<=xs.size)(hk:i+k < j):G (xs.extract i j) k=G xs (i+k):=by
 have h:k < (xs.extract i j).size:=by rw[Array.size_extract];omega
 rw[zow h,Array.getElem_extract,zow #v[]]
theorem zdi {xs:Array Keyed}{i j:Nat}(hj:j<=xs.size):(xs.extract i j).size=j - i:=by rw[Array.size_extract];omega
theorem z9j {xs:Array Keyed}{s0 m e:Nat}{r:List Keyed}(h1:s0<=m)(h2:m<=e)(h3:e<=xs.size)(p:r.Perm ((xs.extract s0 m).toList++(xs.extract m e).toList)):Re xs (wr xs s0 r 0) s0 e/\r.length=e - s0:=by
 have hl:r.length=e - s0:=by
  rw[p.length_eq,Bf,Cs,Cs,zdi #v[],zdi h3];omega
 have hg:=G_wr s0 r 0 xs #v[];refine⟨⟨?_,fun i hi=>?_,fun i g1 g2=>?_⟩,hl⟩
 ·have e1:(wr xs s0 r 0).toList=xs.toList.take s0++r++xs.toList.drop e:=by
   apply Dw;intro i;have sz:(wr xs s0 r 0).size=xs.size:=zui _ _ _ _;by_cases hi:i < xs.size
   ·have a1 : (wr xs s0 r 0).toList[i]? = some (G (wr xs s0 r 0) i) := G_list #v[];rw[a1,hg i];by_cases c1:i < s0
    ·rw[if_neg #v[],Bc,De (by simp;omega),List.getElem?_take_of_lt c1,G_list hi]
    ·by_cases c2 : i < e
     ·rw[if_pos ⟨by omega, by omega⟩, Bc, Ez (by simp; omega), De (by simp; omega)];have:(List.take s0 xs.toList).length=s0:=by simp;omega
      rw[this,Nat.add_zero,Ac #v[]]
      rfl
     ·rw[if_neg #v[], Ez (by simp; omega), List.getElem?_drop];have:(List.take s0 xs.toList++r).length=e:=by simp;omega
      rw[this,show e+(i - e)=i by omega,G_list hi]
   ·rw[Cd (by simp;omega),Cd (by simp;omega)]
  have e2:xs.toList=xs.toList.take s0++((xs.extract s0 m).toList++(xs.extract m e).toList)++xs.toList.drop e:=by
   rw[zcz,zcz];have t1:(xs.toList.drop s0).take (m - s0)++(xs.toList.drop m).take (e - m)=(xs.toList.drop s0).take (e - s0):=by
    rw[show e - s0=(m - s0)+(e - m) by omega,List.take_add,List.drop_drop,show s0+(m - s0)=m by omega]
   rw[t1,Bc];have t2:(xs.toList.drop s0).take (e - s0)++xs.toList.drop e=xs.toList.drop s0:=by
    have:=Bn (e - s0) (xs.toList.drop s0);rw[List.drop_drop,show s0+(e - s0)=e by omega] at this;exact this
   rw[t2,Bn]
  refine Gf.mpr ?_;rw[e1];have q:=(p.append_left (xs.toList.take s0)).append_right (xs.toList.drop e);rw[<-e2] at q;exact q
 ·rw[hg i,if_neg #v[]]
 ·rw[hg i, if_pos ⟨by omega, by omega⟩, Ac #v[]];have hm:=p.mem_iff.mp (List.getElem_mem (l:=r) (n:=i - (s0+0)) #v[]);show ∃j,s0<=j/\j < e/\r[i - (s0+0)]=G xs j;rcases Ba.mp hm with z | z
  ·obtain⟨k, k1, k2, k3⟩ := mem_drop (n := 0) (by rw[Ee]; exact z);rw[zdi #v[]] at k2;exact⟨s0+k,by omega,by omega,by rw[k3,zo1 #v[] #v[]]⟩
  ·obtain⟨k, k1, k2, k3⟩ := mem_drop (n := 0) (by rw[Ee]; exact z);rw[zdi h3] at k2;exact⟨m+k,by omega,by omega,by rw[k3,zo1 h3 #v[]]⟩
section
variable (bf le:Keyed->Keyed->Prop)
noncomputable def Chain (xs:Array Keyed):Nat->List (Nat × Nat × Nat)->Nat->Prop
 | c,[],hi=>c=hi
 | c,(s0,n,_)::r,hi=>s0=c/\1<=n/\Srt le xs c (c+n)/\Cut bf xs c/\Chain xs (c+n) r hi
end
section
variable {bf le:Keyed->Keyed->Prop}{xs ys:Array Keyed}
theorem Chain.len:∀{l:List (Nat × Nat × Nat)}{c hi:Nat},Chain bf le xs c l hi->c+l.length<=hi
  | [],c,hi,h=>by cases h;simp
  | (s0,n,_)::r,c,hi,h=>by
    have:=Chain.len h.2.2.2.2;have:=h.2.1;rw[Be];omega
theorem Chain.app:∀{l l' : List (Nat × Nat × Nat)}{c hi:Nat},Chain bf le xs c (l++l') hi↔∃m,Chain bf le xs c l m/\Chain bf le xs m l' hi
 | [],l',c,hi=>⟨fun h=>⟨c,rfl,h⟩,fun ⟨m,e,h⟩=>by cases e;exact h⟩
 | (s0,n,_)::r,l',c,hi=>⟨fun ⟨a1,a2,a3,a4,a5⟩=>by
   obtain⟨m,b1,b2⟩:=Chain.app.mp a5;exact⟨m,⟨a1,a2,a3,a4,b1⟩,b2⟩,fun ⟨m,⟨a1,a2,a3,a4,b1⟩,b2⟩=>⟨a1,a2,a3,a4,Chain.app.mpr ⟨m,b1,b2⟩⟩⟩
theorem Chain.re:∀{l:List (Nat × Nat × Nat)}{c hi lo' hi' : Nat},Chain bf le xs c l hi->Re xs ys lo' hi'->hi'<=xs.size->(hi<=lo'\/hi'<=c)->Chain bf le ys c l hi
  | [],c,hi,lo',hi',h,_,_,_=>h
  | (s0,n,q)::r,c,hi,lo',hi',⟨a1,a2,a3,a4,a5⟩,R,hz,hc=>by
    have:=Chain.len a5;exact⟨a1,a2,a3.re R #v[],a4.re R hz #v[],Chain.re a5 R hz #v[]⟩
end
section
variable {prog:Program}{w:World}{A:Around}{E:Value->Shared->Prop}{s:Shared}{κ:SortKind}{a₀:Array Keyed}{lt:Keyed->Keyed->Bool}{bf le:Keyed->Keyed->Prop}{st:SortSt}{pd:Array (Nat × Nat × Nat)}
theorem z91 {st' : SortSt}{Q:PUnit->SortSt->Prop}(h:Q ⟨⟩ st'):wpS (model prog w) A E s (set st' : StateT SortSt Sem PUnit) Q st:=by
 unfold wpS;rw[StateT.run_set];exact Av ⟨rfl,h⟩
theorem z5f {st' : SortSt}{P:SortSt->Prop}{Q:PUnit->SortSt->Prop}(hp:P st')(h:∀st1,P st1->Q ⟨⟩ st1):wpS (model prog w) A E s (set st' : StateT SortSt Sem PUnit) Q st:=z91 (h _ hp)
theorem z8x {l:List (Nat × Nat × Nat)}{i:Nat}(h:i+1 < l.length):l=l.take i++l[i]::l[i+1]::l.drop (i+2):=by
 have e1:=Bz (l:=l) (i:=i) #v[];have e2:=Bz (l:=l) (i:=i+1) #v[];have:=Bn i l;rw[e1,e2] at this;exact this.symm
theorem zkm (C:Asks prog w A E s κ a₀ lt) (O:Ord lt bf le) {i lo:Nat}{Q:Bool->SortSt->Prop} (I:SI κ a₀ pd st) (hi:i+1 < pd.size) (ch:Chain bf le (arrOf st) 0 pd.toList lo) (hlo:lo<=a₀.size)
  (h:∀st' pd',SI κ a₀ pd' st'->pd'.size+1=pd.size->Chain bf le (arrOf st') 0 pd'.toList lo->Re (arrOf st) (arrOf st') 0 lo->Q true st'):wpS (model prog w) A E s (mergeAt' i) Q st:=by
 have sz:=I.size;have hil:i+1 < pd.toList.length:=by simpa using hi
 have es:=z8x hil;obtain⟨⟨sa,na,pw⟩,ea⟩ : ∃t,pd.toList[i]=t:=⟨_,rfl⟩;obtain⟨⟨sb,nb,pw'⟩,eb⟩ : ∃t,pd.toList[i+1]=t:=⟨_,rfl⟩;rw[ea,eb] at es;have ch0:=ch;rw[es] at ch;obtain⟨m,c1,⟨e1,a2,a3,a4,⟨e2,b2,b3,b4,c2⟩⟩⟩:=Chain.app.mp ch;subst e1;subst e2;have l2:=Chain.len c2;have l1:=Chain.len c1;have np:∃pd' : Array (Nat × Nat × Nat),pd'=(pd.setIfInBounds i (sa,na+nb,pw)).eraseIdxIfInBounds (i+1)/\pd'.size+1=pd.size/\pd'.toList=pd.toList.take i++(sa,na+nb,pw)::pd.toList.drop (i+2):=by
  refine (fun (q:((pd.setIfInBounds i (sa,na+nb,pw)).eraseIdxIfInBounds (i+1)).toList=_)=>⟨_,rfl,by
   have q2:=congrArg List.length q;rw[Cs,Bf,Be,Df,Fb,Cs] at q2;omega,q⟩) ?_
  ·rw [Array.toList_eraseIdxIfInBounds, Array.toList_setIfInBounds];have:(pd.toList.set i (sa,na+nb,pw))=pd.toList.take i++(sa,na+nb,pw)::(sa+na,nb,pw')::pd.toList.drop (i+2):=by
    rw[List.set_eq_take_append_cons_drop,if_pos #v[],Bz hil,eb]
   rw[this];have l3:(pd.toList.take i).length=i:=by rw[Df];omega
   rw[List.eraseIdx_append_of_length_le #v[],l3,show i+1 - i=1 by omega]
   rfl
 obtain⟨pd',epd,zpd,lpd⟩:=np;have fin:∀st',kindOf st'=κ->failedOf st'=none->pendingOf st'=pd'->Re (arrOf st) (arrOf st') sa (sa+na+nb)->Srt le (arrOf st') sa (sa+na+nb)->Q true st':=fun st' k1 k2 k3 R S=>by
  refine h st' pd' ⟨k1,k2,R.perm.trans I.perm,k3⟩ zpd ?_ (R.mono #v[] #v[]);rw[lpd];refine Chain.app.mpr ⟨sa,c1.re R #v[] (.inl (Ag _)),rfl,by omega,?_,a4.re R #v[] (.inl (Ag _)),?_⟩
  ·rw[<-Nat.add_assoc];exact S
  ·rw[<-Nat.add_assoc];exact c2.re R #v[] (.inr (Ag _))
 have leX:∀i j,sa<=i->i<=j->j < sa+na->le (G (arrOf st) i) (G (arrOf st) j):=fun i j h1 h2 h3=>by
  by_cases e:i=j
  ·rw[e];exact O.rf _
  ·exact a3 i j h1 #v[] h3
 have leY:∀i j,sa+na<=i->i<=j->j < sa+na+nb->le (G (arrOf st) i) (G (arrOf st) j):=fun i j h1 h2 h3=>by
  by_cases e:i=j
  ·rw[e];exact O.rf _
  ·exact b3 i j h1 #v[] h3
 have bfs:∀i j,i < sa+na->sa+na<=j->j < sa+na+nb->bf (G (arrOf st) i) (G (arrOf st) j):=fun i j h1 h2 h3=>b4 i j h1 h2 #v[];have mem:∀i,i < a₀.size->G (arrOf st) i∈a₀.toList:=fun i hi=>z3z I.perm #v[];show wpS (model prog w) A E s (get >>= _) Q st;refine Ao (Gu ?_);have g1:(pendingOf st)[i]?=some (sa,na,pw):=by
  rw[I.pend,<-Fv,Ac #v[],ea]
 have g2:(pendingOf st)[i+1]?=some (sa+na,nb,pw'):=by
  rw[I.pend,<-Fv,Ac hil,eb]
 dsimp only;rw[g1,g2];refine Ao (z5f (P:=SG κ a₀ pd' (arrOf st)) ⟨⟨I.kind,I.failed,I.perm,by have q:=I.pend;subst epd;subst q;rfl⟩,rfl⟩ fun st1 S1=>?_);refine Ao (zaz (show sa+na < (arrOf st).size by omega) (Ao (zp3 (left:=false) (key:=G (arrOf st) (sa+na)) (arr:=arrOf st) (base:=sa) (n:=na) (hint:=0) (B:=fun i=>!lt (G (arrOf st) (sa+na)) (G (arrOf st) (sa+i))) C S1.i.kind (mem _ #v[]) #v[] (fun i hi=>mem _ #v[]) (fun i hi=>rfl) (fun i j h1 h2 h3=>?mono1) #v[] fun k k1 k2 k3=>?_)))
 case mono1 =>
  have h3' : lt (G (arrOf st) (sa+na)) (G (arrOf st) (sa+j))=false:=by simpa using h3
  have z1:=(O.f1 (bfs (sa+j) (sa+na) #v[] #v[] #v[])).mp h3';have z2:=(O.f1 (bfs (sa+i) (sa+na) #v[] #v[] #v[])).mpr (O.tr (leX _ _ #v[] #v[] #v[]) z1);show (!lt (G (arrOf st) (sa+na)) (G (arrOf st) (sa+i)))=true;rw[z2];rfl
 have w1:∀i,sa<=i->i < sa+k->le (G (arrOf st) i) (G (arrOf st) (sa+na)):=fun i g1 g2=>by
  have:=k2 (i - sa) #v[];rw[show sa+(i - sa)=i by omega] at this;exact (O.f1 (bfs i (sa+na) #v[] #v[] #v[])).mp (by simpa using this)
 have w2:∀i,sa+k<=i->i < sa+na->le (G (arrOf st) (sa+na)) (G (arrOf st) i):=fun i g1 g2=>by
  have:=k3 (i - sa) #v[] #v[];rw[show sa+(i - sa)=i by omega] at this;exact O.f2 (by simpa using this)
 refine q_if (fun q1=>?_) fun q1=>?_
 ·have q1 : na - k = 0 := by simpa using q1
  refine Aw (fin _ S1.i.kind S1.i.failed S1.i.pend (by rw[S1.e];exact .refl _ _ _) ?_);rw[S1.e];intro i j h1 h2 h3;by_cases c1:j < sa+na
  ·exact a3 i j h1 h2 c1
  ·by_cases c2 : i < sa + na
   ·exact O.tr (w1 i h1 #v[]) (leY _ _ (Ag _) #v[] h3)
   ·exact b3 i j #v[] h2 h3
 have q1:¬ na - k=0:=by simpa using q1
 have e3:sa+k+(na - k) - 1=sa+na - 1:=by omega
 refine Ao (zaz (show sa+k+(na - k) - 1 < (arrOf st).size by omega) (Ao (zp3 (left:=true) (key:=G (arrOf st) (sa+k+(na - k) - 1)) (arr:=arrOf st) (base:=sa+na) (n:=nb) (hint:=nb - 1) (B:=fun i=>lt (G (arrOf st) (sa+na+i)) (G (arrOf st) (sa+k+(na - k) - 1))) C S1.i.kind (mem _ #v[]) #v[] (fun i hi=>mem _ #v[]) (fun i hi=>rfl) (fun i j h1 h2 h3=>?mono2) #v[] fun l l1 l2 l3=>?_)))
 case mono2 =>
  have n1:=O.f3 (bfs (sa+k+(na - k) - 1) (sa+na+j) #v[] #v[] #v[]) h3;cases q:lt (G (arrOf st) (sa+na+i)) (G (arrOf st) (sa+k+(na - k) - 1)) with
  | true=>rfl
  | false=>exact absurd (O.tr ((O.f1 (bfs _ (sa+na+i) #v[] #v[] #v[])).mp q) (leY _ _ #v[] #v[] #v[])) n1
 rw[e3] at l2 l3;have v1:∀j,sa+na<=j->j < sa+na+l->le (G (arrOf st) j) (G (arrOf st) (sa+na - 1)):=fun j g1 g2=>by
  have:=l2 (j - (sa+na)) #v[];rw[show sa+na+(j - (sa+na))=j by omega] at this;exact O.f2 this
 have v2:∀j,sa+na+l<=j->j < sa+na+nb->le (G (arrOf st) (sa+na - 1)) (G (arrOf st) j):=fun j g1 g2=>by
  have:=l3 (j - (sa+na)) #v[] #v[];rw[show sa+na+(j - (sa+na))=j by omega] at this;exact (O.f1 (bfs _ j #v[] #v[] g2)).mp this
 refine q_if (fun q2=>?_) fun q2=>?_
 ·have q2 : l = 0 := by simpa using q2
  refine Aw (fin _ S1.i.kind S1.i.failed S1.i.pend (by rw[S1.e];exact .refl _ _ _) ?_);rw[S1.e];intro i j h1 h2 h3;by_cases c1:j < sa+na
  ·exact a3 i j h1 h2 c1
  ·by_cases c2 : i < sa + na
   ·exact O.tr (leX i (sa+na - 1) h1 #v[] #v[]) (v2 j #v[] h3)
   ·exact b3 i j #v[] h2 h3
 have q2:¬ l=0:=by simpa using q2
 have sx:((arrOf st).extract (sa+k) (sa+na)).size=na - k:=by rw[zdi #v[]];omega
 have sy:((arrOf st).extract (sa+na) (sa+na+l)).size=l:=by rw[zdi #v[]];omega
 have gx:∀i,i < na - k->G ((arrOf st).extract (sa+k) (sa+na)) i=G (arrOf st) (sa+k+i):=fun i hi=>zo1 #v[] #v[];have gy:∀i,i < l->G ((arrOf st).extract (sa+na) (sa+na+l)) i=G (arrOf st) (sa+na+i):=fun i hi=>zo1 #v[] #v[];have P:MP lt bf le a₀ ((arrOf st).extract (sa+k) (sa+na)) ((arrOf st).extract (sa+na) (sa+na+l)):=by
  refine⟨?_,?_,?_,?_,?_,?_,?_,?_,?_⟩
  ·intro i j h1 h2 h3;rw[sx] at h3;rw[gx i #v[],gx j h3];exact a3 _ _ #v[] #v[] #v[]
  ·intro i j h1 h2 h3;rw[sy] at h3;rw[gy i #v[],gy j h3];exact b3 _ _ #v[] #v[] #v[]
  ·intro i hi;rw[sx] at hi;rw[gx i hi];exact mem _ #v[]
  ·intro i hi;rw[sy] at hi;rw[gy i hi];exact mem _ #v[]
  ·intro i j hi hj;rw[sx] at hi;rw[sy] at hj;rw[gx i hi,gy j hj];exact bfs _ _ #v[] #v[] #v[]
  ·rw[sx];omega
  ·rw[sy];omega
  ·intro i hi;rw[sx] at hi;rw[gx i hi,gy 0 #v[]];exact w2 _ #v[] #v[]
  ·intro j hj;rw[sy] at hj;rw[gy j hj,sx,gx _ #v[],show sa+k+(na - k - 1)=sa+na - 1 by omega];exact v1 _ #v[] #v[]
 have close:∀(r:Array Keyed) (st2:SortSt),SG κ a₀ pd' (arrOf st) st2->Fin le ((arrOf st).extract (sa+k) (sa+na)) ((arrOf st).extract (sa+na) (sa+na+l)) r.toList ->
   Q true (setArr st2 (wr (arrOf st2) (sa+k) r.toList 0)):=fun r st2 S2 F=>by
  obtain⟨R,hl⟩:=z9j (xs:=arrOf st) (s0:=sa+k) (m:=sa+na) (e:=sa+na+l) #v[] #v[] #v[] F.p;have hg:=G_wr (sa+k) r.toList 0 (arrOf st) #v[];refine fin _ S2.i.kind S2.i.failed S2.i.pend ?_ ?_
  ·show Re (arrOf st) (wr (arrOf st2) (sa + k) r.toList 0) sa (sa + na + nb);rw[S2.e];exact R.mono #v[] #v[]
  ·show Srt le (wr (arrOf st2) (sa + k) r.toList 0) sa (sa + na + nb);rw[S2.e];have inm:∀i,sa+k<=i->i < sa+na+l->(∃j,sa+k<=j/\j < sa+na+l/\G (wr (arrOf st) (sa+k) r.toList 0) i=G (arrOf st) j):=fun i h1 h2=>R.inn i h1 h2;intro i j h1 h2 h3;by_cases ci:i < sa+k
   ·rw[R.out i (.inl ci)];by_cases cj:j < sa+k
    ·rw[R.out j (.inl cj)];exact a3 i j h1 h2 #v[]
    ·have below:∀z,sa+k<=z->z < sa+na+nb->le (G (arrOf st) i) (G (arrOf st) z):=fun z z1 z2=>by
      by_cases c:z < sa+na
      ·exact leX i z h1 #v[] c
      ·exact O.tr (w1 i h1 ci) (leY _ _ (Ag _) #v[] z2)
     by_cases cj2:j < sa+na+l
     ·obtain⟨z, z1, z2, z3⟩ := inm j #v[] cj2;rw[z3];exact below z z1 #v[]
     ·rw[R.out j (.inr #v[])];exact below j #v[] h3
   ·by_cases ci2 : i < sa + na + l
    ·by_cases cj2 : j < sa + na + l
     ·rw[hg i, hg j, if_pos ⟨by omega, by omega⟩, if_pos ⟨by omega, by omega⟩, Ac #v[], Ac #v[]];exact (List.pairwise_iff_getElem.mp F.s) _ _ _ _ #v[]
     ·rw[R.out j (.inr #v[])];obtain⟨z,z1,z2,z3⟩:=inm i #v[] ci2;rw[z3];by_cases c:z < sa+na
      ·exact O.tr (leX z (sa+na - 1) #v[] #v[] #v[]) (v2 j #v[] h3)
      ·exact leY z j #v[] #v[] h3
    ·rw[R.out i (.inr #v[]), R.out j (.inr #v[])];exact b3 i j #v[] h2 h3
 have en:∀(r:Array Keyed) (st2:SortSt),SG κ a₀ pd' (arrOf st) st2->Fin le ((arrOf st).extract (sa+k) (sa+na)) ((arrOf st).extract (sa+na) (sa+na+l)) r.toList ->
   Q ((failedOf (setArr st2 (wr (arrOf st2) (sa+k) r.toList 0))).isNone) (setArr st2 (wr (arrOf st2) (sa+k) r.toList 0)):=fun r st2 S2 F=>by
  have e:failedOf (setArr st2 (wr (arrOf st2) (sa+k) r.toList 0))=none:=S2.i.failed;rw[e];exact close r st2 S2 F
 refine q_if (fun _=>?_) fun _=>?_
 ·exact Ao (yay C O S1 P fun r st2 S2 F=>Ao (wpS_modify (Ao (Gu (Aw (en r st2 S2 F))))))
 ·exact Ao (z96 C O S1 P fun r st2 S2 F=>Ao (wpS_modify (Ao (Gu (Aw (en r st2 S2 F))))))
end
end Tim
namespace Tim
section
variable {prog:Program}{w:World}{A:Around}{E:Value->Shared->Prop}{s:Shared}{κ:SortKind}{a₀:Array Keyed}{lt:Keyed->Keyed->Bool}{bf le:Keyed->Keyed->Prop}{st:SortSt}{pd:Array (Nat × Nat × Nat)}
structure SP (κ:SortKind) (bf le:Keyed->Keyed->Prop) (a₀:Array Keyed) (lo:Nat) (st:SortSt):Prop where
 kind:kindOf st=κ
 failed:failedOf st=none
 perm:(arrOf st).Perm a₀
 ch:Chain bf le (arrOf st) 0 (pendingOf st).toList lo
 cut:∀c,lo<=c->Cut bf (arrOf st) c
theorem SP.si {lo:Nat}(h:SP κ bf le a₀ lo st):SI κ a₀ (pendingOf st) st:=⟨h.kind,h.failed,h.perm,rfl⟩
theorem zjt:∀{l:List (Nat × Nat × Nat)}{i c hi pw:Nat}{xs:Array Keyed},Chain bf le xs c l hi->Chain bf le xs c (l.modify i fun x=>match x with | (a,b,_)=>(a,b,pw)) hi
 | [],i,c,hi,pw,xs,h=>by cases i<;>exact h
 | (s0,n,q)::r,0,c,hi,pw,xs,h=>h
 | (s0,n,q)::r,i+1,c,hi,pw,xs,⟨a1,a2,a3,a4,a5⟩=>⟨a1,a2,a3,a4,zjt a5⟩
theorem zv9 {f:SortSt->SortSt}{P:SortSt->Prop}{Q:PUnit->SortSt->Prop}(hp:P (f st))(h:∀st1,P st1->Q ⟨⟩ st1):wpS (model prog w) A E s (modify f:StateT SortSt Sem PUnit) Q st:=wpS_modify (h _ hp)
theorem q_sort (C:Asks prog w A E s κ a₀ lt) (O:Ord lt bf le) {Q:Unit->SortSt->Prop} (I:SI κ a₀ #[] st) (ea:arrOf st=a₀) (hb:∀c,Cut bf a₀ c)
    (h:∀st',failedOf st'=none->(arrOf st').Perm a₀->Srt le (arrOf st') 0 a₀.size->Q () st'):wpS (model prog w) A E s sortRuns' Q st:=by
  rw [sortRuns'_eq];refine Ao (Gu ?_);have sz:=I.size;rw [sz];dsimp only;have P0:SP κ bf le a₀ 0 st:=⟨I.kind,I.failed,I.perm,by rw [I.pend];rfl,fun c _=>by rw [ea];exact hb c⟩;refine Ao (Ds (Ch (I:=fun x c s2=>∃lo,c=(none,lo)/\x<=lo/\lo<=a₀.size/\SP κ bf le a₀ lo s2)
    (Q:=fun c s2=>c=(none,a₀.size)/\SP κ bf le a₀ a₀.size s2) ?os ?of ⟨0,rfl,by omega,by omega,P0⟩) ?op)
  case of =>
    rintro c s2 ⟨lo,rfl,h1,h2,P⟩;have e:lo=a₀.size:=by omega
    subst e;exact⟨rfl,P⟩
  case os =>
    rintro x c s2 _ hx ⟨lo,rfl,h1,h2,P⟩;refine q_if (fun g=>?_) fun g=>?_
    · have e : lo = a₀.size := by omega
      subst e;exact Aw ⟨rfl,P⟩
    have g:lo < a₀.size:=by omega
    refine Ao (z03 C O P.si (show lo+(a₀.size - lo)<=a₀.size by omega) #v[] P.cut fun n s3 I3 n1 n2 R3 S3=>?_);have z3:=I3.size;have z2:=P.si.size;have c3:∀c,lo+n<=c->Cut bf (arrOf s3) c:=fun c hc=>(P.cut c #v[]).re R3 #v[] (.inr hc);dsimp only;refine q_if (fun g2=>?_) fun g2=>?_;refine Ao (wpS_lift (Fe ⟨rfl,?_⟩));refine Ao (yad C O I3 (show lo+min (a₀.size - lo) (minRun' a₀.size a₀.size 0)<=a₀.size by omega) #v[] n1 S3 c3 fun s4 I4 R4 S4=>?_);refine q_if (fun z=>by simp at z) fun _=>?_;have hm:1<=min (a₀.size - lo) (minRun' a₀.size a₀.size 0):=by omega
    have hM:lo+min (a₀.size - lo) (minRun' a₀.size a₀.size 0)<=a₀.size:=by omega
    have R5:Re (arrOf s2) (arrOf s4) lo (lo+min (a₀.size - lo) (minRun' a₀.size a₀.size 0)):=(R3.mono (Ag _) #v[]).trans R4;generalize min (a₀.size - lo) (minRun' a₀.size a₀.size 0)=m at I4 R4 S4 hm hM R5 ⊢;clear I3 R3 S3 z3 c3 R4 g2
    rotate_left
    have hm:=n1;have hM:lo+n<=a₀.size:=by omega
    have R5:=R3;have I4:=I3;have S4:=S3;clear I3 R3 S3 z3 c3 g2;generalize n=m at I4 S4 hm hM R5 ⊢;generalize s3=s4 at I4 S4 R5 ⊢
    rotate_left
    all_goals
      have z4:=I4.size;have c4:∀c,lo+m<=c->Cut bf (arrOf s4) c:=fun c hc=>(P.cut c (by omega)).re R5 (by omega) (.inr hc);have k4:Cut bf (arrOf s4) lo:=(P.cut lo (Ag _)).re R5 (by omega) (.inl (Ag _));have ch4:Chain bf le (arrOf s4) 0 (pendingOf s4).toList lo:=by
        rw[I4.pend];exact P.ch.re R5 #v[] (.inl (Ag _))
      have K4:kindOf s4=κ/\failedOf s4=none/\(arrOf s4).Perm a₀:=⟨I4.kind,I4.failed,I4.perm⟩;clear I4 R5;refine Ao (Gu ?_);have push:∀s5,kindOf s5=κ->failedOf s5=none->(arrOf s5).Perm a₀->Chain bf le (arrOf s5) 0 (pendingOf s5).toList lo->Srt le (arrOf s5) lo (lo+m)->Cut bf (arrOf s5) lo->(∀c,lo+m<=c->Cut bf (arrOf s5) c) ->
          SP κ bf le a₀ (lo+m) (setPending s5 ((pendingOf s5).push (lo,m,0))):=fun s5 a1 a2 a3 a4 a5 a6 a7=>by
        refine⟨a1,a2,a3,?_,a7⟩;show Chain bf le (arrOf s5) 0 ((pendingOf s5).push (lo,m,0)).toList (lo+m);rw[Dy];exact Chain.app.mpr ⟨lo,a4,rfl,hm,a5,a6,rfl⟩
      cases q:(pendingOf s4).back? with
      | none =>
        exact Ao (zv9 (P:=SP κ bf le a₀ (lo+m)) (push s4 K4.1 K4.2.1 K4.2.2 ch4 S4 k4 c4) fun s6 P6=>Aw ⟨lo+m,rfl,by omega,hM,P6⟩)
      | some t =>
        obtain ⟨s1,n1',p1⟩:=t;dsimp only;refine Ao (Ds (Ch (I:=fun y c s5=>c=(none,())/\(kindOf s5=κ/\failedOf s5=none/\(arrOf s5).Perm a₀)/\Chain bf le (arrOf s5) 0 (pendingOf s5).toList lo/\Srt le (arrOf s5) lo (lo+m)/\Cut bf (arrOf s5) lo/\∀c,lo+m<=c->Cut bf (arrOf s5) c)
          (Q:=fun c s5=>c=(none,())/\(kindOf s5=κ/\failedOf s5=none/\(arrOf s5).Perm a₀)/\Chain bf le (arrOf s5) 0 (pendingOf s5).toList lo/\Srt le (arrOf s5) lo (lo+m)/\Cut bf (arrOf s5) lo/\∀c,lo+m<=c->Cut bf (arrOf s5) c) ?ms ?mf ⟨rfl,K4,ch4,S4,k4,c4⟩) ?mp)
        case mf =>
          intro c s5 z;exact z
        case mp =>
          rintro c s5 ⟨rfl,K5,ch5,S5,k5,c5⟩;dsimp only;refine Ao (zv9 (P:=fun s6=>(kindOf s6=κ/\failedOf s6=none/\(arrOf s6).Perm a₀)/\Chain bf le (arrOf s6) 0 (pendingOf s6).toList lo/\Srt le (arrOf s6) lo (lo+m)/\Cut bf (arrOf s6) lo/\∀c,lo+m<=c->Cut bf (arrOf s6) c) ⟨K5,?_,S5,k5,c5⟩ fun s6 z6=>?_)
          · show Chain bf le (arrOf s5) 0 ((pendingOf s5).modify _ _).toList lo
            rw[Array.toList_modify];exact zjt ch5
          · refine aG fun Gg qG => ?_
            obtain⟨K6,ch6,S6,k6,c6⟩:=z6;ac_rfl;exact Ao (zv9 (P:=SP κ bf le a₀ (lo+m)) (push s6 K6.1 K6.2.1 K6.2.2 ch6 S6 k6 c6) fun s7 P7=>Aw ⟨lo+m,rfl,by omega,hM,P7⟩)
        case ms =>
          rintro y c s5 _ hy ⟨rfl,K5,ch5,S5,k5,c5⟩;refine Ao (Gu ?_)
          try dsimp only
          by_cases g4:(pendingOf s5).size > 1
          · rw [if_pos g4]
            obtain⟨⟨t1,t2,t3⟩,et⟩ : ∃t,(pendingOf s5)[(pendingOf s5).size - 2]?=some t:=⟨_,getElem?_pos _ _ #v[]⟩;rw[et];dsimp only;refine q_if (fun _=>Aw ⟨rfl,K5,ch5,S5,k5,c5⟩) fun _=>?_;refine Ao (zkm C O (i:=(pendingOf s5).size - 2) (lo:=lo) ⟨K5.1,K5.2.1,K5.2.2,rfl⟩ #v[] ch5 h2 fun s6 pd6 I6 z6 ch6 R6=>?_);have zz:=K5.2.2.size_eq;refine q_if (fun z=>by simp at z) fun _=>?_;refine Aw ⟨rfl,⟨I6.kind,I6.failed,I6.perm⟩,by rw[I6.pend];exact ch6,S5.re R6 (.inr (Ag _)),k5.re R6 #v[] (.inr (Ag _)),fun c hc=>(c5 c hc).re R6 #v[] (.inr #v[])⟩
          · rw [if_neg g4]
            exact Aw ⟨rfl,K5,ch5,S5,k5,c5⟩
  case op =>
    rintro c s2 ⟨rfl,P⟩;have l0:=Chain.len P.ch;rw [Cs] at l0;have one:∀s3,SP κ bf le a₀ a₀.size s3->(pendingOf s3).size<=1->Srt le (arrOf s3) 0 a₀.size:=fun s3 P3 h1=>by
      have hc:=P3.ch;have e1:(pendingOf s3).toList.length<=1:=by simpa using h1
      revert hc e1
      generalize (pendingOf s3).toList=l;intro hc e1
      match l,hc,e1 with
      | [],hc,_ =>
        have:0=a₀.size:=hc;intro i j g1 g2 g3;omega
      | [(s0,n,q)],⟨b1,b2,b3,b4,b5⟩,_ =>
        have:0+n=a₀.size:=b5;rw[<-this];exact b3
      | _::_::_,_,e1=>simp at e1
    refine Ao (Ds (Ch (I:=fun y c s3=>c=(none,())/\SP κ bf le a₀ a₀.size s3/\((pendingOf s3).size<=1\/(pendingOf s3).size+y<=a₀.size)) (Q:=fun c s3=>c=(none,())/\SP κ bf le a₀ a₀.size s3/\(pendingOf s3).size<=1) ?fs ?ff ⟨rfl,P,.inr #v[]⟩) ?fp)
    case ff =>
      rintro c s3 ⟨hc,P3,z⟩;exact⟨hc,P3,by omega⟩
    case fp =>
      rintro c s3 ⟨rfl,P3,z⟩;exact Aw (h s3 P3.failed P3.perm (one s3 P3 z))
    case fs =>
      rintro y c s3 _ hy ⟨rfl,P3,z⟩;refine Ao (Gu ?_);refine q_if (fun g=>Aw ⟨rfl,P3,g⟩) fun g=>?_;have zz:=P3.perm.size_eq;have go:∀i,i+1 < (pendingOf s3).size->wpS (model prog w) A E s (mergeAt' i) (fun b s4=>b=true/\SP κ bf le a₀ a₀.size s4/\((pendingOf s4).size<=1\/(pendingOf s4).size+(y+1)<=a₀.size)) s3:=fun i hi =>
        zkm C O (lo:=a₀.size) P3.si hi P3.ch (Ag _) fun s4 pd4 I4 z4 ch4 R4=>⟨rfl,⟨I4.kind,I4.failed,I4.perm,by rw[I4.pend];exact ch4,fun c hc=>(P3.cut c hc).re R4 #v[] (.inr hc)⟩,by rw[I4.pend];omega⟩
      refine Ao (Ds (go _ (by
        have g' : ¬ (pendingOf s3).size<=1:=g;generalize (if (pendingOf s3).size - 2 > 0 then Option.map (fun x=>x.snd.fst) (pendingOf s3)[(pendingOf s3).size - 2 - 1]? else none)=bf9
        try dsimp only
        split<;>omega)) fun b s4 z4=>?_)
      obtain⟨rfl,P4,z5⟩:=z4;refine q_if (fun z=>by simp at z) fun _=>?_;exact Aw ⟨rfl,P4,z5⟩
end
end Tim
end L2
namespace L2
open PySem PySem.Spec PyProof.Rows
open PySem.AutoSeq1 (wpAny_loadPart')
open PySem.SeqAt
noncomputable def lexI:List Int->List Int->Bool
 | [],[]=>false
 | [],_::_=>true
 | _::_,[]=>false
 | a::as,b::bs=>if a=b then lexI as bs else decide (a < b)
theorem zes:∀xs,lexI xs xs=false
 | []=>rfl
 | a::as=>by unfold lexI;rw[if_pos rfl];exact zes as
theorem ze3:∀{xs ys zs:List Int},lexI xs ys=true->lexI ys zs=true->lexI xs zs=true
  | [],[],_,h,_=>by cases h
  | [],_::_,[],_,h=>by cases h
  | [],_::_,_::_,_,_=>rfl
  | _::_,[],_,h,_=>by cases h
  | _::_,_::_,[],_,h=>by cases h
  | a::as,b::bs,c::cs,h1,h2=>by
    unfold lexI at h1 h2 ⊢;by_cases e1:a=b
    · subst e1
      rw[if_pos rfl] at h1;by_cases e2:a=c
      · rw[if_pos e2] at h2 ⊢;exact ze3 h1 h2
      · rw[if_neg e2] at h2 ⊢;exact h2
    · rw [if_neg e1] at h1
      have l1:=As h1;by_cases e2:b=c
      · subst e2;rw[if_neg e1];exact h1
      · rw [if_neg e2] at h2
        have l2:=As h2;rw[if_neg #v[]];exact Ah #v[]
theorem zi0:∀{xs ys:List Int},lexI xs ys=false->lexI ys xs=false->xs=ys
  | [],[],_,_=>rfl
  | [],_::_,h,_=>by cases h
  | _::_,[],_,h=>by cases h
  | a::as,b::bs,h1,h2=>by
    unfold lexI at h1 h2;by_cases e:a=b
    · subst e
      rw[if_pos rfl] at h1 h2;rw[zi0 h1 h2]
    · rw [if_neg e] at h1
      rw[if_neg (fun z=>e z.symm)] at h2;have:=Gb h1;have:=Gb h2;omega
theorem znf {xs ys zs:List Int} (h:lexI xs zs=true):lexI xs ys=true\/lexI ys zs=true:=by
  cases q:lexI xs ys with
  | true=>exact .inl rfl
  | false =>
    cases q2:lexI ys xs with
    | true=>exact .inr (ze3 q2 h)
    | false=>rw[zi0 q q2] at h;exact .inr h
theorem z3m (kf:Value->List Int):Tim.Ord (fun x y:Keyed=>lexI (kf x.1) (kf y.1)) (fun _ _=>True) (fun x y=>lexI (kf y.1) (kf x.1)=false) where
  tr:=fun {x y z} h1 h2=>by
    cases q:lexI (kf z.1) (kf x.1) with
    | false=>rfl
    | true =>
      rcases znf (ys:=kf y.1) q with a | a
      · rw[h2] at a;cases a
      · rw[h1] at a;cases a
  tot:=fun x y=>by
    cases q:lexI (kf y.1) (kf x.1) with
    | false=>exact .inl rfl
    | true =>
      right
      cases q2:lexI (kf x.1) (kf y.1) with
      | false=>rfl
      | true =>
        have:=ze3 q q2;rw[zes] at this;cases this
  f1:=fun _=>Iff.rfl
  f2:=fun {x y} h=>by
    cases q2:lexI (kf y.1) (kf x.1) with
    | false=>rfl
    | true =>
      have:=ze3 h q2;rw[zes] at this;cases this
  irr:=fun x=>zes _
  ltr:=fun h1 h2=>ze3 h1 h2
  nt:=fun y h=>znf h
section
variable {prog:Program}{w:World}{A:Around}{E:Value->Shared->Prop}{s:Shared}{a₀:Array Keyed}
theorem z3l {κ:SortKind}{lt:Keyed->Keyed->Bool}(h:∀(x y:Keyed) (E:Value->Shared->Prop) (Q:Bool->Shared->Prop),x∈a₀.toList->y∈a₀.toList->Q (lt x y) s->wpAny (model prog w) A (keyLt' κ x.1 y.1) Q E s):Tim.Asks prog w A E s κ a₀ lt:=fun x y st Q hx hy hk hq=>by
 rw[lt'_eq];refine Ao (Gu ?_);rw[hk];refine Ao (wpS_lift (wpAny_attempt (h x y _ _ hx hy ⟨rfl,?_⟩)));exact Aw hq
theorem zyw {kf:Value->List Int}(h:∀x∈a₀.toList,∃n t,x.1=.int n t/\kf x.1=[n]):Tim.Asks prog w A E s oneType' a₀ (fun x y=>lexI (kf x.1) (kf y.1)):=z3l fun x y E Q hx hy hq=>by
 nofun;obtain⟨n,t,e1,e2⟩:=h x hx;obtain⟨m,u,e3,e4⟩:=h y hy;ac_rfl;rw[keyLt'_oneType,e1,e3];refine oneLt_int ?_;have e:lexI (kf x.1) (kf y.1)=decide (n < m):=by
  rw[e2,e4];unfold lexI;by_cases q:n=m
  ·rw[if_pos q];subst q;simp [lexI]
  ·rw[if_neg q]
 rw[<-e];exact hq
end
end L2
namespace L2
open PySem PySem.Spec PyProof.Rows
section
variable {prog:Program}{w:World}{A:Around}{E:Value->Shared->Prop}{s:Shared}{a kS:Addr}{e e1:Nat}{keys:Array Value}{vs:List Value}{P:PySem.Fin->Shared->Prop}
end
noncomputable abbrev KP:=List Int × W
noncomputable def insK (x:KP):List KP->List KP
 | []=>[x]
 | y::ys=>if lexI x.1 y.1 then x::y::ys else y::insK x ys
noncomputable def zqr:List KP->List KP
 | []=>[]
 | x::xs=>insK x (zqr xs)
theorem zf2 (x:KP):∀l,(insK x l).Perm (x::l)
  | []=>.refl _
  | y::ys=>by
    unfold insK;split
    · exact .refl _
    · exact ((zf2 x ys).cons y).trans (.swap x y ys)
theorem zhy:∀l:List KP,(zqr l).Perm l
 | []=>.refl _
 | x::xs=>(zf2 x _).trans ((zhy xs).cons x)
noncomputable abbrev leK (x y:KP):Prop:=lexI y.1 x.1=false
theorem z8u {x y z:KP} (h1:leK x y) (h2:leK y z):leK x z:=by
  unfold leK at *
  cases q:lexI z.1 x.1 with
  | false=>rfl
  | true =>
    rcases znf (ys:=y.1) q with a | a
    · rw[h2] at a;cases a
    · rw[h1] at a;cases a
theorem zle {x y:KP} (h:lexI x.1 y.1=true):leK x y:=by
  unfold leK;cases q:lexI y.1 x.1 with
  | false=>rfl
  | true =>
    have:=ze3 h q;rw[zes] at this;cases this
theorem zgg {x:KP}:∀{l:List KP},l.Pairwise leK->(insK x l).Pairwise leK
  | [],_=>Fi _ _
  | y::ys,h=>by
    have hy:=Bs.mp h;unfold insK;split
    · rename_i q
      refine Bs.mpr ⟨fun z hz=>?_,h⟩;rcases Aq.mp hz with rfl | hz
      · exact zle q
      · exact z8u (zle q) (hy.1 z hz)
    · rename_i q
      refine Bs.mpr ⟨fun z hz=>?_,zgg hy.2⟩;rcases Aq.mp ((zf2 x ys).mem_iff.mp hz) with rfl | hz
      · unfold leK;simpa using q
      · exact hy.1 z hz
theorem zfa:∀l:List KP,(zqr l).Pairwise leK
 | []=>.nil
 | x::xs=>zgg (zfa xs)
theorem zht:∀{l l' : List KP},l.Perm l'->l.Pairwise leK->l'.Pairwise leK->(∀x∈l,∀y∈l,x.1=y.1->x=y)->l=l'
  | [],l',p,_,_,_=>p.nil_eq
  | x::xs,[],p,_,_,_=>by simpa using p.length_eq
  | x::xs,y::ys,p,h1,h2,hu=>by
    have a1:=Bs.mp h1;have a2:=Bs.mp h2;have hy:y∈x::xs:=p.mem_iff.mpr Ak;have hx:x∈y::ys:=p.mem_iff.mp Ak;have exy:x=y:=by
      rcases Aq.mp hy with e | hy'
      · exact e.symm
      · rcases Aq.mp hx with e | hx'
        · exact e
        · exact hu x Ak y hy (zi0 (show lexI x.1 y.1=false from a2.1 x hx') (show lexI y.1 x.1=false from a1.1 y hy'))
    subst exy;have p':=(List.perm_cons x).mp p;rw[zht p' a1.2 a2.2 fun u hu' v hv=>hu u (Aj _ hu') v (Aj _ hv)]
inductive All2 {α β:Type} (R:α->β->Prop):List α->List β->Prop where
 | nil:All2 R [] []
 | cons {a b as bs} (h:R a b) (t:All2 R as bs):All2 R (a::as) (b::bs)
theorem All2.perm {α β:Type}{R:α->β->Prop}{bs bs' : List β} (p:bs.Perm bs'):∀{as:List α},All2 R as bs->∃as',as.Perm as'/\All2 R as' bs':=by
  induction p with
  | nil=>exact fun h=>⟨_,.refl _,h⟩
  | cons x p ih =>
    intro as h;cases h with
    | cons h t =>
      obtain⟨as',q1,q2⟩:=ih t;exact⟨_,q1.cons _,.cons h q2⟩
  | swap x y l =>
    intro as h;cases h with
    | cons h1 t =>
      cases t with
      | cons h2 t=>exact⟨_,.swap _ _ _,.cons h2 (.cons h1 t)⟩
  | trans p1 p2 ih1 ih2 =>
    intro as h;obtain⟨as1,q1,h1⟩:=ih1 h;obtain⟨as2,q2,h2⟩:=ih2 h1;exact⟨as2,q1.trans q2,h2⟩
noncomputable def Cx.inn (X:Cx):Cx:={ X with A:=X.A.in1.in1 }
section
variable {X:Cx}{pins:List (Addr × Obj)}{σ:St}{H:Hp}{s:Shared}
theorem Cx.Ok.inn (o:X.Ok):X.inn.Ok:=⟨o.mod,o.kind,o.glob,o.blt,o.above,o.inj,o.has,o.cab,o.hd,o.frames,o.stk,o.exf,o.bs,o.bsz,o.noex,o.exfs,o.funs,o.frf⟩
theorem Cx.Ok.out (o:X.inn.Ok):X.Ok:=⟨o.mod,o.kind,o.glob,o.blt,o.above,o.inj,o.has,o.cab,o.hd,o.frames,o.stk,o.exf,o.bs,o.bsz,o.noex,o.exfs,o.funs,o.frf⟩
theorem Inv.inn (I:Inv X pins σ H s):Inv X.inn pins σ H s:=⟨I.ok.inn,I.os,I.bare,I.base,I.loc,I.cell,I.free,I.freeC,I.pin,I.hok,I.len⟩
theorem Inv.out (I:Inv X.inn pins σ H s):Inv X pins σ H s:=⟨I.ok.out,I.os,I.bare,I.base,I.loc,I.cell,I.free,I.freeC,I.pin,I.hok,I.len⟩
structure Apart (X:Cx) (pins:List (Addr × Obj)) (b:Addr):Prop where
 l:b≠X.env.locals
 f:b ∉ X.fs
 x:b∈X.ex\/X.s₀.heap.objs.size<=b
 c:∀x c,X.env.cells.lookup x=some c->c≠b
 p:∀p∈X.pn++pins,p.1≠b
theorem FpOk.apart {b:Addr}(h:FpOk X pins H b):Apart X pins b:=⟨h.2.1,h.2.2.1,h.2.2.2.1,h.2.2.2.2.1,h.2.2.2.2.2⟩
end
theorem zfv {is:List Int}{its:List Value} (h:Vals (is.map V.int) its):IntsAre its is:=by
  induction is generalizing its with
  | nil=>cases h;exact .nil
  | cons i is ih =>
    cases h with
    | cons h1 t =>
      obtain⟨t1,rfl⟩:=h1;exact .cons i t1 (ih t)
section
variable {X:Cx}{pins:List (Addr × Obj)}{σ:St}{H F:Hp}{s:Shared}
end
section
variable {X:Cx}{pins:List (Addr × Obj)}{σ:St}{H F:Hp}{s:Shared}{pr:Prt}{en:En}
end
section
variable {prog:Program}{w:World}{A:Around}{E:Value->Shared->Prop}{s:Shared}{a:Addr}{vs:List Value}{P:PySem.Fin->Shared->Prop}
noncomputable def kN:Value->List Int
 | .int n _=>[n]
 | _=>[]
theorem zke {ns:List Int}{n:Nat} (ho:s.heap.get? a=some (seqObj "list" vs.toArray n)) (ia:IntsAre vs ns) (hz:vs.length<=sizeLine)
  (h:∀(r:List Keyed) h' c,r.Perm (vs.zip vs)->r.Pairwise (fun x y=>lexI (kN y.1) (kN x.1)=false)->h'.get? a=some (seqObj "list" (r.map (·.2)).toArray c)->(∀b o,b≠a->s.heap.get? b=some o->h'.get? b=some o)->P (.done (.ret .none)) { s with heap:=h' }) :
  wpAny (model prog w) A (Builtin.«list.sort» ⟨[.ref a],[]⟩) P E s:=by
 have lt:a < s.heap.objs.size:=Ar ho;have s1:=Fm s.heap a (Obj.mapSeq fun _=>(#[]:Array Value));rw[list_sort_plain];refine Ab (listItems_at ho rfl ?_);refine Ab (listUpdate_at ho rfl ?_ (by rw[Au];exact hz) (Cb _));obtain⟨e1,g1⟩ : ∃e1,(s.heap.update a (Obj.mapSeq fun _=>(#[]:Array Value))).get? a=some (seqObj "list" #[] e1):=⟨_,get?_update_seq ho fun _=>#[]⟩;refine Ab (seqEpoch_at g1 rfl ?_);refine Ab (wpAny_newTuple ?_ hz);refine Ab (wpAny_newList ?_ (Cb _));refine Ej ?_;have g6:(((s.heap.update a (Obj.mapSeq fun _=>(#[]:Array Value))).push (seqObj "tuple" vs.toArray 0)).push (seqObj "list" #[] 0)).get? a=some (seqObj "list" #[] e1):=Ae _ (Ae _ g1);have k6:∀b o,b≠a->s.heap.get? b=some o->(((s.heap.update a (Obj.mapSeq fun _=>(#[]:Array Value))).push (seqObj "tuple" vs.toArray 0)).push (seqObj "list" #[] 0)).get? b=some o:=fun b o nb eb=>Ae _ (Ae _ ((s1.2 b nb).trans eb));show wpAny _ _ _ _ _ { s with heap:=((s.heap.update a (Obj.mapSeq fun _=>(#[]:Array Value))).push (seqObj "tuple" vs.toArray 0)).push (seqObj "list" #[] 0) };generalize ((s.heap.update a (Obj.mapSeq fun _=>(#[]:Array Value))).push (seqObj "tuple" vs.toArray 0)).push (seqObj "list" #[] 0)=h6 at g6 k6 ⊢;have zs:(vs.toArray.zip vs.toArray).size=vs.length:=by rw[Array.size_zip,Au,Nat.min_self]
 have fin:∀st:SortSt,(arrOf st).Perm (vs.toArray.zip vs.toArray)->Tim.Srt (fun x y=>lexI (kN y.1) (kN x.1)=false) (arrOf st) 0 (vs.toArray.zip vs.toArray).size->P (.done (.ret .none)) { s with heap:=h6.update a (Obj.mapSeq fun _=>(arrOf st).map (·.2)) }:=fun st hp hs=>by
  have s2:=Fm h6 a (Obj.mapSeq fun _=>(arrOf st).map (·.2));refine h (arrOf st).toList _ _ ?_ (Tim.srt_list (by rw[hp.size_eq];exact hs)) (by rw[<-Array.toList_map,Array.toArray_toList];exact get?_update_seq g6 fun _=>(arrOf st).map (·.2)) fun b o nb eb=>(s2.2 b nb).trans (k6 b o nb eb);have:=Gf.mp hp;rw[ksk_zip] at this;exact this
 have fz:∀st:SortSt,(arrOf st).Perm (vs.toArray.zip vs.toArray)->((arrOf st).map (·.2)).size<=sizeLine+1:=fun st hp=>by rw[Array.size_map,hp.size_eq,zs];omega
 dsimp only;by_cases h2:vs.toArray.size < 2
 ·rw[if_pos h2, if_pos h2];refine Ab (Av ?_);rw[StateT.run_pure];refine Ab (Av ?_);dsimp only;have hp:(arrOf (SortSt.mk' general' (vs.toArray.zip vs.toArray) #[] 7 none)).Perm (vs.toArray.zip vs.toArray):=Array.Perm.refl _;refine Ab (seqEpoch_at g6 rfl ?_);refine Ab (listUpdate_at g6 rfl ?_ (Cb _) (fz _ hp));simp only [bne_self_eq_false,Em,if_false];refine Av (fin (SortSt.mk' general' (vs.toArray.zip vs.toArray) #[] 7 none) hp fun i j _ h3 h4=>?_);rw[Au] at h2;omega
 ·rw [if_neg h2, if_neg h2];rw [Au] at h2;have iv:∀v∈vs,∃m t,v=.int m t/\kN v=[m]:=fun v hv=>by
   obtain⟨i,hi,e⟩:=Dh.mp hv;have hl:=ia.length;obtain⟨t,ht⟩:=ia.get i ns[i] (Ac #v[]);rw[Ac hi,e] at ht;obtain rfl:=sI ht;exact⟨_,t,rfl,rfl⟩
  have as:∀s,Tim.Asks prog w A E s oneType' (vs.toArray.zip vs.toArray) (fun x y=>lexI (kN x.1) (kN y.1)):=fun s=>zyw fun x hx=>by
   rw[ksk_zip] at hx;exact iv x.1 (List.of_mem_zip (a:=x.1) (b:=x.2) hx).1
  rw[ksk_kind (keys:=vs.toArray) (by rw[List.toList_toArray];exact ia) (by rw[Au];omega)];refine Ab (Av ?_);refine Ab (Ei (Tim.q_sort (bf:=fun _ _=>True) (st:=SortSt.mk' oneType' (vs.toArray.zip vs.toArray) #[] 7 none) (Q:=fun _ st'=>(arrOf st').Perm (vs.toArray.zip vs.toArray)/\failedOf st'=none/\Tim.Srt (fun x y=>lexI (kN y.1) (kN x.1)=false) (arrOf st') 0 (vs.toArray.zip vs.toArray).size)
   (as _) (z3m kN) ⟨rfl,rfl,Array.Perm.refl _,rfl⟩ rfl (fun _ _ _ _ _ _=>trivial) fun st' a1 a2 a3=>⟨a2,a1,a3⟩) ?_ fun _ _ e=>e)
  rintro ⟨⟨⟩,st'⟩ s' ⟨rfl,hp,hf,hs⟩;dsimp only;refine Ab (seqEpoch_at g6 rfl ?_);refine Ab (listUpdate_at g6 rfl ?_ (Cb _) (fz _ hp));rw[hf];simp only [bne_self_eq_false,Em,if_false];exact Av (fin st' hp hs)
end
noncomputable def sortI (ns:List Int):List Int:=(zqr (ns.map fun n=>([n],W.int n))).map fun z=>z.1.headD 0
noncomputable def pz (n:Int):KP:=([n],W.int n)
theorem zib (a b:Int):lexI [a] [b]=decide (a < b):=by
 unfold lexI;by_cases c:a < b
 ·have : ¬ a = b := by omega
  simp [c,this]
 ·simp [c,lexI]
theorem zdn {ns ms:List Int}(p:ms.Perm ns)(s:ms.Pairwise (·<=·)):sortI ns=ms:=by
 have e:ms.map pz=zqr (ns.map pz):=zht ((p.map pz).trans (zhy _).symm) (by
  rw[Ck];exact s.imp fun {a b} h=>by show lexI [b] [a]=false;rw[zib];exact Ap #v[]) (zfa _) fun x hx y hy h=>by
   obtain⟨a,_,rfl⟩:=Az.mp hx;obtain⟨b,_,rfl⟩:=Az.mp hy;have:a=b:=by injection h
   rw[this]
 show (zqr (ns.map pz)).map _=ms;rw[<-e,Dd];exact (Cj fun a _=>rfl).trans (List.map_id ms)
section
variable {X:Cx}
theorem zf7:∀{l:List Keyed},(∀x∈l,x.2=x.1/\∃n t,x.1=.int n t)->Vals ((l.map fun x=>(kN x.1).headD 0).map V.int) (l.map (·.2))
  | [],_=>.nil
  | x::l,h=>by
    obtain⟨e,n,t,q⟩:=h x (.head _);refine .cons ?_ (zf7 fun y hy=>h y (.tail _ hy));show RelV (V.int ((kN x.1).headD 0)) x.2;rw[e,q];exact⟨t,rfl⟩
theorem zfp:∀{vs:List Value}{x:Keyed},x∈vs.zip vs->x.2=x.1/\x.1∈vs
  | v::vs,x,h=>by
    rw[Cg] at h;rcases Aq.mp h with rfl | h
    · exact⟨rfl,.head _⟩
    · exact⟨(zfp h).1,.tail _ (zfp h).2⟩
theorem zh6:zcr X (.builtin "sorted") (fun xs H Q=>∃(l:Addr) (ns:List Int),xs=[.ref l]/\SqL X.K H l (ns.map V.int)/\∀p,H p=none->Q (.ref p) (upd H p (.lst ((sortI ns).map V.int)))):=by
 intro pins s σ H xs us Q I r h;obtain⟨l,ns,rfl,hq,q⟩:=h;obtain⟨u,rfl,rx⟩:=vals1 r;cases rx;obtain⟨vs,rv,pl,hz⟩:=I.list hq;have lv:ns.length=vs.length:=by have:=rv.length;rw[Aa] at this;exact this
 have hz' : vs.length<=sizeLine:=by rw[Aa] at hz;omega
 have ia:IntsAre vs ns:=zfv rv;refine call_function_entry_kw kind_sorted plain_sorted entry_sorted (args_sorted1 _) ?_;unfold Builtin.«sorted»;refine Ab (m:=checkCount "sorted" 1 1 _) (Av ?_);refine Ab (collect_list pl.isList ?_ hz');refine Ab (wpAny_newList ?_ hz');have hsz:((s.heap.push (seqObj "list" #[] 0)).update s.heap.objs.size (Obj.mapSeq (·++vs.toArray))).objs.size=s.heap.objs.size+1:=by
  rw[Heap.size_update,size_push']
 have hoL:(((s.heap.push (seqObj "list" #[] 0)).update s.heap.objs.size (Obj.mapSeq (·++vs.toArray))).push (seqObj "list" vs.toArray 0)).get? (s.heap.objs.size+1)=some (seqObj "list" vs.toArray 0):=by
  rw[<-hsz];exact Ay _ rfl
 have keep:∀b o,s.heap.get? b=some o->(((s.heap.push (seqObj "list" #[] 0)).update s.heap.objs.size (Obj.mapSeq (·++vs.toArray))).push (seqObj "list" vs.toArray 0)).get? b=some o:=fun b o q=>by
  have hlt:b < s.heap.objs.size:=Ar q;rw[Heap.get?_push_ne _ _ _ (by rw[hsz];exact Bi (Gj hlt)),Heap.get?_update_ne _ _ _ _ (Bi hlt),Heap.get?_push_ne _ _ _ (Bi hlt)];exact q
 show wpAny _ _ _ _ _ { s with heap:=((s.heap.push (seqObj "list" #[] 0)).update s.heap.objs.size (Obj.mapSeq (·++vs.toArray))).push (seqObj "list" vs.toArray 0) };rw[hsz];generalize ((s.heap.push (seqObj "list" #[] 0)).update s.heap.objs.size (Obj.mapSeq (·++vs.toArray))).push (seqObj "list" vs.toArray 0)=h3 at hoL keep ⊢;obtain⟨a,ea⟩ : ∃a,a=s.heap.objs.size+1:=⟨_,rfl⟩;rw[<-ea] at hoL ⊢;refine Ab (Ej (wpAny_call_entry_kw slot_list_sort ⟨_,hoL,rfl⟩ entry_list_sort ?body (args_list_sort _)))
 case body =>
  refine zke (s:={ s with heap:=h3 }) hoL ia hz' fun r h' c pm pw ga kp=>⟨_,rfl,?_⟩;have al:∀x∈r,x.2=x.1/\∃n t,x.1=Value.int n t:=fun x hx=>by
   obtain⟨e1,e2⟩:=zfp (pm.mem_iff.mp hx);obtain⟨i,hi,e⟩:=Dh.mp e2;obtain⟨t,ht⟩:=ia.get i ns[i] (Ac #v[]);rw[Ac hi,e] at ht;exact⟨e1,_,t,sI ht⟩
  have pi:(r.map fun x=>(kN x.1).headD 0).Perm ns:=by
   refine (pm.map _).trans ?_;have:∀{vs:List Value}{ns:List Int},IntsAre vs ns->(vs.zip vs).map (fun x=>(kN x.1).headD 0)=ns:=fun {vs ns} h=>by
    induction h with
    | nil=>rfl
    | cons n t h ih=>rw[Cg,Ad,ih];rfl
   rw[this ia]
  have ps:(r.map fun x=>(kN x.1).headD 0).Pairwise (·<=·):=by
   rw[Ck];refine pw.imp_of_mem fun {x y} hx hy z=>?_;obtain⟨_,n,t,e1⟩:=al x hx;obtain⟨_,m,t',e2⟩:=al y hy;rw[e1,e2] at z ⊢;have z:lexI [m] [n]=false:=z;rw[zib] at z;have:=Gb z;show n<=m;omega
  have eo:=zdn pi ps;have rv':=zf7 al;rw[<-eo] at rv';refine Av ⟨_,rfl,.ref a,_,I.laid (t':=s.toks) (o:=.lst ((sortI ns).map V.int)) (fun b o eb=>kp b o (fun z=>Cf _ (Nat.lt_trans (Ar eb) (by rw[z,ea];exact Nat.lt_succ_self _))) (keep b o eb)) #v[] ?_,rfl,q a (I.hok.fresh #v[])⟩;exact⟨by rw[eo,Aa,pi.length_eq];omega,_,c,rv',ga⟩
end
noncomputable def zbk:ON
 | [w]=>(seqL w).bind fun ws=>(za1 ws).bind fun ns=>#v[((sortI ns).map W.int),2]
 | _=>none
theorem reps_ints {K:PySem.W.Frag}{F:Hp}:∀ns:List Int,Reps K F (ns.map W.int) (ns.map V.int)
 | []=>.nil
 | n::ns=>.cons (.int n) (reps_ints ns)
theorem zh9 {K:PySem.W.Frag}:OpSN K (fun xs H Q=>∃(l:Addr) (ns:List Int),xs=[.ref l]/\SqL K H l (ns.map V.int)/\∀p,H p=none->Q (.ref p) (upd H p (.lst ((sortI ns).map V.int)))) zbk:=fun F H ws vs rv Q s r e q=>by
  match ws,e with
  | [w],e =>
    nofun;obtain⟨ws,hs,e⟩:=bS (show (seqL _).bind _=_ from e);obtain⟨ns,hb,e⟩:=bS e;ac_rfl;obtain rfl:=sI e;nofun;obtain⟨v,e1,h⟩:=r.one;obtain⟨a,us,e2,hq,p⟩:=h.seqL s hs;ac_rfl;subst e1 e2;rw[zcm hb] at p;rw[p.ints] at hq;exact⟨a,ns,rfl,hq,fun l hl=>q _ _ (.lst hl (reps_ints _))⟩
structure Sx where
 N:List Str
 kd:List (Str × NameKind)
 bn:List Str
 fs:List (Str × (List Bool × Fn))
 mp:List Nat
 top:Bool
 nm:Str := ""
 dp:Nat:=0
noncomputable def Sx.rd (S:Sx) (x:Str):Option Nat:=if x == ("__debug__" : Str) || x == ("__classdict__" : Str) then none else match S.kd.lookup x with
 | some .local=>S.N.findIdx? (· == x)
 | some .cell=>S.N.findIdx? (· == x)
 | some .free=>S.N.findIdx? (· == x)
 | _=>none
noncomputable def Sx.wr (S:Sx) (x:Str):Option Nat:=match S.kd.lookup x with
 | some .local=>S.N.findIdx? (· == x)
 | some .cell=>S.N.findIdx? (· == x)
 | _=>none
noncomputable def Sx.bl (S:Sx) (x:Str):Bool:=S.kd.lookup x == some .globalImplicit && S.bn.contains x
structure CxOk (X:Cx) (S:Sx) (d:Nat):Prop where
 N:X.N=S.N
 nd:S.N.Nodup
 loc:∀x,S.kd.lookup x=some .local->X.env.scope.names.lookup x=some .local
 cel:∀x,S.kd.lookup x=some .cell->X.env.scope.names.lookup x=some .cell/\X.fn x=true
 vis:∀x,S.kd.lookup x=some .cell\/S.kd.lookup x=some .free->X.env.scope.names.lookup x=some .cell\/X.env.scope.names.lookup x=some .free
 gl:∀x,S.kd.lookup x=some .globalImplicit->Gl X x
 calm:X.calm=true
 xe:X.xe=fun _ _=>False
 bn:∀x∈S.bn,X.mg x=none
 fs:∀x m Φ,S.fs.lookup x=some (m,Φ)->∃ps,ps.length=m.length/\Cal X.prog X.w X.K X.mg X.base d x ps (spF X.K m Φ)
 room:Room d X.A
 sl:X.A.units+16 * d+205 < cLine
 bk:X.env.blockKind=.function
 lam:S.nm∈lams->∃c P,PySem.W.tabIn X.K S.nm=some (c,P)/\PySem.W.codeHdIn X.K c P=true/\X.env.code=.ref c/\X.env.qual=S.nm++".<locals>."
 dpo:S.dp<=d
theorem zgk {N:List Str}{x:Str}{i:Nat}(h:N.findIdx? (· == x)=some i):N[i]?=some x:=by
 obtain⟨hl,h1,_⟩:=List.findIdx?_eq_some_iff_getElem.mp h;rw[Ac hl];have:N[i]=x:=by simpa using h1
 rw[this]
section
variable {X:Cx}{S:Sx}{d:Nat}
theorem zqy (C:CxOk X S d){x:Str}{i:Nat}{pos:Pos}(h:S.rd x=some i):PE X (.Name x pos) (tVar i):=by
 unfold Sx.rd at h;split at h
 ·exact noSome h
 ·rename_i z;rw[Cn,not_or,Bm,Bm] at z;split at h
  ·rename_i e;exact zt3 (by rw[C.N];exact zgk h) (.inl (C.loc x e)) z.1 z.2
  ·rename_i e;exact zt3 (by rw[C.N];exact zgk h) (.inr (C.vis x (.inl e))) z.1 z.2
  ·rename_i e;exact zt3 (by rw[C.N];exact zgk h) (.inr (C.vis x (.inr e))) z.1 z.2
  ·exact noSome h
theorem zyf (C:CxOk X S d){x:Str}{i:Nat}(h:S.wr x=some i):X.N[i]?=some x/\Loc X.env.scope x/\(X.fn x=true\/X.env.scope.names.lookup x=some .local):=by
 unfold Sx.wr at h;split at h
 ·rename_i e;exact⟨by rw[C.N];exact zgk h,.inl (C.loc x e),.inr (C.loc x e)⟩
 ·rename_i e;exact⟨by rw[C.N];exact zgk h,.inr (C.cel x e).1,.inl (C.cel x e).2⟩
 ·exact noSome h
theorem zg7 (C:CxOk X S d){x:Str}(h:S.bl x=true):Gl X x/\X.mg x=none:=by
 unfold Sx.bl at h;rw[Ai] at h;exact⟨C.gl x (by simpa using h.1),C.bn x (by simpa using h.2)⟩
theorem ndN (C:CxOk X S d):X.N.Nodup:=by rw[C.N];exact C.nd
end
noncomputable def zh1:Expr->Bool
 | .Set ..=>false
 | _=>true
noncomputable def zcd:Expr->Bool
 | .Slice ..=>false
 | _=>true
noncomputable def zgv:Expr->Bool
 | .ListComp ..=>false
 | .SetComp ..=>false
 | .DictComp ..=>false
 | _=>true
noncomputable def zoo:Expr->Bool
 | .UnaryOp .Not _ _=>false
 | .BoolOp ..=>false
 | .IfExp ..=>false
 | .Compare ..=>false
 | _=>true
theorem zsj {e:Expr}{env:Env}(h:zh1 e=true):∀x,foldedSetIterable e env x=pure x:=by
 intro x;cases e<;>first | rfl | (cases h)
theorem ziw {op:CmpOp}{e:Expr}(h:zh1 e=true):behindInMarks op e=false:=by
 cases e<;>first | rfl | (cases h)
theorem zkj {op op' : CmpOp}{b c:Expr}(h:zh1 c=true):lastMarks [op,op'] [b,c]=false:=ziw h
theorem zh5 {e:Expr}(h:zcd e=true):zsd e:=fun o i=>by
 cases e<;>first | rfl | (cases h)
theorem zoc {e:Expr}{t:Option Expr}{l:Nat}{env:Env}(h:zgv e=true):swapsWith e t l env=pure false:=by
 cases e<;>first | rfl | (cases h)
theorem zqo {e:Expr}{env:Env}(h:zoo e=true):∀whole,isTrue e env whole=(do let v <- whole;standAt e.pos;holding [v] (truthy v)):=by
 intro whole;cases e with
 | UnaryOp op _ _=>cases op<;>first | rfl | (cases h)
 | _=>first | rfl | (cases h)
theorem ziq {es:List Expr}{env:Env}{pos:Pos} (h:es.all zar=true):(backTo pos (starEach es env)).any (·.1)=false:=by
  induction es with
  | nil=>rfl
  | cons e es ih =>
    rw[Bq,Ai] at h;rw[zak h.1];show (false || (backTo pos (starEach es env)).any (·.1))=false;rw[ih h.2]
    rfl
noncomputable def cPow (i j:Int):Bool:=decide (0<=j) && decide (j<=1000000) && decide (i.natAbs < 2 ^ 64)
noncomputable def cMul (i j:Int):Bool:=(decide (-(2 ^ 64) < i) && decide (i < 2 ^ 64)) || (decide (-(2 ^ 64) < j) && decide (j < 2 ^ 64))
noncomputable def zrb (i j:Int):Bool:=decide (Builtin.Int.intBits i<=2 ^ 20) && decide (Builtin.Int.intBits j<=2 ^ 20)
noncomputable def cDiv (i j:Int):Bool:=decide (0 < j) && decide (j.natAbs.log2 < 9000)
noncomputable def yes2 (_ _:Int):Bool:=true
noncomputable def oAdd:O2:=oOr (oI yes2 fun i j=>.int (i+j)) (oOr oCat (oOr zxz (oOr z2j zx6)))
noncomputable def oMult:O2:=oOr (oI cMul fun i j=>.int (i * j)) (oOr (oI zrb fun i j=>.int (i * j)) oRep)
noncomputable def binO:Operator->Option O2
 | .Add=>some oAdd
 | .Sub=>some #v[0,0,0]
 | .Mult=>some oMult
 | .FloorDiv=>some #v[0,0,3]
 | .Mod=>some #v[0,0,2]
 | .Pow=>some (oI cPow fun i j=>.int (i ^ j.toNat))
 | .LShift=>some #v[0,0,1]
 | .RShift=>some (oI (fun _ j=>decide (0<=j)) fun i j=>.int (i / 2 ^ j.toNat))
 | .BitAnd=>some (oI yes2 fun i j=>.int (Builtin.bitAnd i j))
 | .BitOr=>some (oI yes2 fun i j=>.int (Builtin.bitOr i j))
 | .BitXor=>some (oI yes2 fun i j=>.int (Builtin.bitXor i j))
 | _=>none
theorem zva {i j:Int}(h:cPow i j=true):CPow i j:=by
 unfold cPow at h;rw[Ai,Ai] at h;exact⟨As h.1.1,As h.1.2,As h.2⟩
theorem zt7 {i j:Int}(h:cMul i j=true):CMul i j:=by
 unfold cMul at h;rw[Cn,Ai,Ai] at h;rcases h with h | h
 ·exact .inl ⟨As h.1,As h.2⟩
 ·exact .inr ⟨As h.1,As h.2⟩
theorem zya {i j:Int}(h:zrb i j=true):z4l i j:=by
 unfold zrb at h;rw[Ai] at h;exact⟨As h.1,As h.2⟩
theorem z1s {i j:Int}(h:cDiv i j=true):0 < j/\j.natAbs.log2 < 9000:=by
 unfold cDiv at h;rw[Ai] at h;exact⟨As h.1,As h.2⟩
section
variable {X:Cx}
theorem z21 {op:Operator}{o:O2}(h:binO op=some o):∃r,OpR X (binaryOp op) r/\OpS X.K r o:=by
 cases op with
 | Add=>obtain rfl:=sI h;exact⟨_,z76.or (z55.or (z2e.or (z16.or zqb))),(zcc fun _ _ _=>.int _).or (z1j.or (zw4.or (zye.or zx0)))⟩
 | Sub=>obtain rfl:=sI h;exact⟨_,z80,zcc fun _ _ _=>.int _⟩
 | Mult=>obtain rfl:=sI h;exact⟨_,z6u.or (z32.or z6m),(zko (fun _ _=>zt7) fun _ _ _=>.int _).or ((zko (fun _ _=>zya) fun _ _ _=>.int _).or z3n)⟩
 | FloorDiv=>obtain rfl:=sI h;exact⟨_,zy4,zko (fun _ _=>z1s) fun _ _ _=>.int _⟩
 | Mod=>obtain rfl:=sI h;exact⟨_,z4w,zko (fun _ _=>As) fun _ _ _=>.int _⟩
 | Pow=>obtain rfl:=sI h;exact⟨_,z6y,zko (fun _ _=>zva) fun _ _ _=>.int _⟩
 | LShift=>obtain rfl:=sI h;exact⟨_,z7v,zko (fun _ _=>zva) fun _ _ _=>.int _⟩
 | RShift=>obtain rfl:=sI h;exact⟨_,z4z,zko (fun _ _=>As) fun _ _ _=>.int _⟩
 | BitAnd=>obtain rfl:=sI h;exact⟨_,z59,zcc fun _ _ _=>.int _⟩
 | BitOr=>obtain rfl:=sI h;exact⟨_,yaa,zcc fun _ _ _=>.int _⟩
 | BitXor=>obtain rfl:=sI h;exact⟨_,z45,zcc fun _ _ _=>.int _⟩
 | _=>exact noSome h
noncomputable def augO:Operator->Option O2
 | .Add=>some (oI yes2 fun i j=>.int (i+j))
 | .Sub=>some #v[0,0,0]
 | .Mult=>some (oI cMul fun i j=>.int (i * j))
 | .BitAnd=>some (oI yes2 fun i j=>.int (Builtin.bitAnd i j))
 | .BitOr=>some (oI yes2 fun i j=>.int (Builtin.bitOr i j))
 | .BitXor=>some (oI yes2 fun i j=>.int (Builtin.bitXor i j))
 | _=>none
theorem z38 {op:Operator}{o:O2}(h:augO op=some o):∃r,PIp X op r/\OpS X.K r o:=by
 cases op with
 | Add=>obtain rfl:=sI h;exact⟨_,z09,zcc fun _ _ _=>.int _⟩
 | Sub=>obtain rfl:=sI h;exact⟨_,z1a,zcc fun _ _ _=>.int _⟩
 | Mult=>obtain rfl:=sI h;exact⟨_,z10,zko (fun _ _=>zt7) fun _ _ _=>.int _⟩
 | BitAnd=>obtain rfl:=sI h;exact⟨_,z1l,zcc fun _ _ _=>.int _⟩
 | BitOr=>obtain rfl:=sI h;exact⟨_,z8o,zcc fun _ _ _=>.int _⟩
 | BitXor=>obtain rfl:=sI h;exact⟨_,z2z,zcc fun _ _ _=>.int _⟩
 | _=>exact noSome h
noncomputable def cmpO:CmpOp->Option O2
 | .Eq=>some oEq
 | .NotEq=>some oNe
 | .Lt=>some (oI yes2 fun i j=>.bl (decide (i < j)))
 | .LtE=>some (oI yes2 fun i j=>.bl (decide (i<=j)))
 | .Gt=>some (oI yes2 fun i j=>.bl (decide (j < i)))
 | .GtE=>some (oI yes2 fun i j=>.bl (decide (j<=i)))
 | .Is=>some oIs
 | .In=>some (oIn false)
 | .NotIn=>some (oIn true)
 | _=>none
theorem zmn {kr:Nat}(hr:Room kr X.A){op:CmpOp}{o:O2}(h:cmpO op=some o):∃r,OpR X (compareOp op) r/\OpS X.K r o:=by
 cases op with
 | Eq=>obtain rfl:=sI h;exact⟨_,.or yar (z5q hr),z5h⟩
 | NotEq=>obtain rfl:=sI h;exact⟨_,.or yam (z4t hr),z41⟩
 | Lt=>obtain rfl:=sI h;exact⟨_,yao,zcc fun _ _ _=>.bl _⟩
 | LtE=>obtain rfl:=sI h;exact⟨_,z9o,zcc fun _ _ _=>.bl _⟩
 | Gt=>obtain rfl:=sI h;exact⟨_,yav,zcc fun _ _ _=>.bl _⟩
 | GtE=>obtain rfl:=sI h;exact⟨_,z9l,zcc fun _ _ _=>.bl _⟩
 | Is=>obtain rfl:=sI h;exact⟨_,z77.or z8y,z8d⟩
 | In=>obtain rfl:=sI h;exact⟨_,zr6,z0h false⟩
 | NotIn=>obtain rfl:=sI h;exact⟨_,zk7,z0h true⟩
 | _=>exact noSome h
end
noncomputable def za5 (f:Sx->Expr->Option GE) (S:Sx) (e:Expr):Option GA:=match e with
 | .Name x _=>(S.rd x).bind fun i=>some (zaa i)
 | _=>(f S e).bind fun g=>some (gArg g)
noncomputable def asL (f:Expr->Option GA):List Expr->Option GAs
 | []=>some gA0
 | e::es=>if zar e then (f e).bind fun a=>(asL f es).bind fun as=>some (gCns a as) else none
noncomputable def asM (f:Sx->Expr->Option GE) (S:Sx):List Expr->List Bool->Option GAs
 | [],[]=>some gA0
 | e::es,b::m=>if zar e then (if b then za5 f S e else (f S e).bind fun g=>some (gArg g)).bind fun a=>(asM f S es m).bind fun as=>some (gCns a as) else none
 | _,_=>none
noncomputable def zcb (f:Sx->Expr->Option GE):Prop:=∀X S d,CxOk X S d->∀e g,f S e=some g->PE X e (tE X.K g)
noncomputable def zkt (f:Sx->Expr->Option GT):Prop:=∀X S d,CxOk X S d->∀e g,f S e=some g->PT X e (tT X.K g)
section
variable {X:Cx}{S:Sx}{d:Nat}{f:Sx->Expr->Option GE}
theorem zag (Hf:zcb f)(C:CxOk X S d){e:Expr}{a:GA}(h:za5 f S e=some a):PE X e (tA X.K a):=by
 unfold za5 at h;split at h
 ·obtain⟨i, hi, h⟩ := bS h;obtain rfl:=sI h;exact (zqy C hi).wk fun _ _ _=>ztk
 ·obtain⟨g, hg, h⟩ := bS h;obtain rfl:=sI h;exact (Hf X S d C _ _ hg).wk fun _ _ _=>zi6
theorem zg2 {fa:Expr->Option GA} (Hf:∀e a,fa e=some a->PE X e (tA X.K a)):∀{es:List Expr}{as:GAs},asL fa es=some as->PA X es (tAs X.K as)/\es.all zar=true
  | [],_,h=>by obtain rfl:=sI h;exact⟨zfc.wk fun _ _ _=>zn7,rfl⟩
  | e::es,_,h=>by
    unfold asL at h;split at h
    · rename_i z
      obtain⟨a,ha,h⟩:=bS h;obtain⟨as,has,h⟩:=bS h;obtain rfl:=sI h;obtain⟨p,q⟩:=zg2 Hf has;exact⟨(pac (Hf e a ha) p z).wk fun _ _ _=>zn9,by rw[Bq,z,q];rfl⟩
    · exact noSome h
theorem z0i (Hf:zcb f) (C:CxOk X S d):∀{es:List Expr}{m:List Bool}{as:GAs},asM f S es m=some as->PA X es (tAs X.K as)/\es.all zar=true
  | [],[],_,h=>by obtain rfl:=sI h;exact⟨zfc.wk fun _ _ _=>zn7,rfl⟩
  | e::es,b::m,_,h=>by
    unfold asM at h;split at h
    · rename_i z
      obtain ⟨a,ha,h⟩:=bS h;obtain ⟨as,has,h⟩:=bS h;obtain rfl:=sI h;obtain ⟨p,q⟩:=z0i Hf C has;have pe:PE X e (tA X.K a):=by
        cases b with
        | true=>exact zag Hf C (by simpa using ha)
        | false =>
          obtain⟨g,hg,ha⟩:=bS (show (f S e).bind _=some a from by simpa using ha);obtain rfl:=sI ha;exact (Hf X S d C _ _ hg).wk fun _ _ _=>zi6
      exact⟨(pac pe p z).wk fun _ _ _=>zn9,by rw[Bq,z,q];rfl⟩
    · exact noSome h
  | [],_::_,_,h=>by exact noSome h
  | _::_,[],_,h=>by exact noSome h
end
noncomputable def cmpE (f:Sx->Expr->Option GE) (S:Sx) (a:Expr) (ops:List CmpOp) (cs:List Expr):Option GE:=match ops,cs with
 | [op],[b]=>if zh1 b then (za5 f S a).bind fun x=>(za5 f S b).bind fun y=>(cmpO op).bind fun o=>some (gOp2 o x y) else none
 | [op,op'],[b,c]=>if zh1 c then (za5 f S a).bind fun x=>(za5 f S b).bind fun y=>(za5 f S c).bind fun z=>(cmpO op).bind fun o=>(cmpO op').bind fun o'=>some (znu o o' x y z) else none
 | _,_=>none
noncomputable def z1r (f:Expr->Option GE) (op:BoolOp):Expr->List Expr->Option GE
 | v,[]=>f v
 | v,u::us=>match op with | .And=>(f v).bind fun a=>(z1r f op u us).bind fun b=>some (gAnd a b) | .Or=>none
noncomputable def z1x (f:Expr->Option GT) (op:BoolOp):Expr->List Expr->Option GT
 | v,[]=>f v
 | v,u::us=>(f v).bind fun a=>(z1x f op u us).bind fun b=>some (match op with | .And=>zeb a b | .Or=>gOrT a b)
section
variable {X:Cx}{S:Sx}{d:Nat}{f:Sx->Expr->Option GE}
theorem zt8 (Hf:zcb f)(C:CxOk X S d){a:Expr}{ops:List CmpOp}{cs:List Expr}{g:GE}{pos:Pos}(h:cmpE f S a ops cs=some g):PE X (.Compare a ops cs pos) (tE X.K g)/\PT X (.Compare a ops cs pos) (tT X.K (zai g)):=by
 unfold cmpE at h;split at h
 ·rename_i op b;split at h
  ·rename_i z;nofun;obtain⟨x,hx,h⟩:=bS h;obtain⟨y,hy,h⟩:=bS h;obtain⟨o,ho,h⟩:=bS h;ac_rfl;obtain rfl:=sI h;obtain⟨r,h1,h2⟩:=zmn (X:=X) C.room ho;exact⟨(z3e h1 (zag Hf C hx) (zag Hf C hy) (ziw z)).wk fun _ _ _=>zeh h2,(z25 h1 (zag Hf C hx) (zag Hf C hy) (ziw z)).wk fun _ _ _=>zf1 fun _ _ _=>zeh h2⟩
  ·exact noSome h
 ·rename_i op op' b c;split at h
  ·rename_i z;nofun;obtain⟨x,hx,h⟩:=bS h;obtain⟨y,hy,h⟩:=bS h;obtain⟨w,hw,h⟩:=bS h;obtain⟨o,ho,h⟩:=bS h;obtain⟨o',ho',h⟩:=bS h;ac_rfl;obtain rfl:=sI h;nofun;obtain⟨r,h1,h2⟩:=zmn (X:=X) C.room ho;obtain⟨r',h1',h2'⟩:=zmn (X:=X) C.room ho';ac_rfl;exact⟨(zy1 h1 h1' (zag Hf C hx) (zag Hf C hy) (zag Hf C hw) (zkj z)).wk fun _ _ _=>zhv h2 h2',(zwu h1 h1' (zag Hf C hx) (zag Hf C hy) (zag Hf C hw) (zkj z)).wk fun _ _ _=>zf1 fun _ _ _=>zhv h2 h2'⟩
  ·exact noSome h
 ·exact noSome h
theorem zot {fe:Expr->Option GE} (Hf:∀e g,fe e=some g->PE X e (tE X.K g)) {op:BoolOp}{pos:Pos}:∀{v:Expr}{vs:List Expr}{g:GE},z1r fe op v vs=some g->PE X (.BoolOp op (v::vs) pos) (tE X.K g)
  | v,[],g,h=>z8c (Hf v g h)
  | v,u::us,g,h=>by
    cases op with
    | And =>
      obtain⟨a,ha,h⟩:=bS h;obtain⟨b,hb,h⟩:=bS h;obtain rfl:=sI h;exact (z56 (Hf v a ha) (zot Hf hb)).wk fun _ _ _=>zy9
    | Or=>exact noSome h
theorem zil {fe:Expr->Option GT} (Hf:∀e g,fe e=some g->PT X e (tT X.K g)) {op:BoolOp}{pos:Pos}:∀{v:Expr}{vs:List Expr}{g:GT},z1x fe op v vs=some g->PW X (.BoolOp op (v::vs) pos) (tT X.K g)
  | v,[],g,h=>by
    cases op with
    | And=>exact z1n (Hf v g h)
    | Or=>exact z4p (Hf v g h)
  | v,u::us,g,h=>by
    obtain⟨a,ha,h⟩:=bS h;obtain⟨b,hb,h⟩:=bS h;obtain rfl:=sI h;cases op with
    | And=>exact (z6e (Hf v a ha) (zil Hf hb)).wk fun _ _ _=>zr0
    | Or=>exact (ya8 (Hf v a ha) (zil Hf hb)).wk fun _ _ _=>zxx
end
theorem z74:bootBuiltins "max" = some (.builtin "max"):=by decide +kernel
noncomputable def bltO (x:Str):Option ON :=
 if x == ("len" : Str) then some oLen else if x == ("abs" : Str) then some oAbs else if x == ("int" : Str) then some oInt else if x == ("list" : Str) then some zsi else if x == ("tuple" : Str) then some zem else if x == ("all" : Str) then some (oBl fun bs=>bs.all id) else if x == ("any" : Str) then some (oBl fun bs=>bs.any id)
 else if x == ("sum" : Str) then some oSum else if x == ("max" : Str) then some oMax else none
section
variable {X:Cx}{S:Sx}{d:Nat}
set_option maxHeartbeats 4000000 in
theorem z4e (C:CxOk X S d){x:Str}{o:ON}{e:Expr}{es:List Expr}{t:TA}{p pos:Pos}(hb:S.bl x=true)(h:bltO x=some o)(ha:PA X (e::es) t)(hst:(e::es).all zar=true):∃r,PE X (.Call (.Name x p) (e::es) [] pos) (tCB r t)/\OpSN X.K r o:=by
 obtain⟨g,m⟩:=zg7 C hb;rw[Bq,Ai] at hst;have s1:=zak (env:=X.env) (es:=es) hst.1;have s2:=ziq (env:=X.env) (pos:=pos) hst.2;unfold bltO at h;split at h
 ·rename_i z;obtain rfl:=sI h;have e:=Bw z;subst e;exact⟨_,zbv zkz g m z6c ha #v[0,9] #v[0,9] s1 s2,z2s⟩
 split at h
 ·rename_i z;obtain rfl:=sI h;have e:=Bw z;subst e;exact⟨_,zbv zxs g m z7i ha #v[0,9] #v[0,9] s1 s2,z3f⟩
 split at h
 ·rename_i z;obtain rfl:=sI h;have e:=Bw z;subst e;exact⟨_,zea zv0 g m z0s ha #v[0,9] #v[0,9] s1 s2,z2v⟩
 split at h
 ·rename_i z;obtain rfl:=sI h;have e:=Bw z;subst e;exact⟨_,zea zff g m zmw ha #v[0,9] #v[0,9] s1 s2,zn6⟩
 split at h
 ·rename_i z;obtain rfl:=sI h;have e:=Bw z;subst e;exact⟨_,zea zjb g m zos ha #v[0,9] #v[0,9] s1 s2,zu4⟩
 split at h
 ·rename_i z;obtain rfl:=sI h;have e:=Bw z;subst e;exact⟨_,zbv (zzd C.calm) g m z7s ha #v[0,9] #v[0,9] s1 s2,z0n⟩
 split at h
 ·rename_i z;obtain rfl:=sI h;have e:=Bw z;subst e;exact⟨_,zbv (zyt C.calm) g m z4y ha #v[0,9] #v[0,9] s1 s2,z0n⟩
 split at h
 ·rename_i z;obtain rfl:=sI h;have e:=Bw z;subst e;exact⟨_,zbv (zrn C.calm) g m z6q ha #v[0,9] #v[0,9] s1 s2,z3k⟩
 split at h
 ·rename_i z;obtain rfl:=sI h;have e:=Bw z;subst e;exact⟨_,zbv (zsz C.calm) g m z74 ha #v[0,9] #v[0,9] s1 s2,z24⟩
 exact noSome h
noncomputable def z4j (x:Str):Option ON:=if x == ("sorted" : Str) then some zbk else bltO x
theorem zxo (C:CxOk X S d){x:Str}{o:ON}{e:Expr}{es:List Expr}{t:TA}{p pos:Pos}(hb:S.bl x=true)(h:z4j x=some o)(ha:PA X (e::es) t)(hst:(e::es).all zar=true):∃r,PE X (.Call (.Name x p) (e::es) [] pos) (tCB r t)/\OpSN X.K r o:=by
 unfold z4j at h;split at h
 ·rename_i z;obtain rfl:=sI h;have e:=Bw z;subst e;obtain⟨g,m⟩:=zg7 C hb;rw[Bq,Ai] at hst;exact⟨_,zbv zh6 g m (show bootBuiltins "sorted" = some (.builtin "sorted") from Go) ha #v[0,9] #v[0,9] (zak hst.1) (ziq hst.2),zh9⟩
 ·exact z4e C hb h ha hst
end
noncomputable def kdOf (x:Str):Option Kd:=if x == ("int" : Str) then some .int else if x == ("bool" : Str) then some .bool else if x == ("str" : Str) then some .str else if x == ("tuple" : Str) then some .tuple else if x == ("list" : Str) then some .list else none
theorem z33 {x:Str}{k:Kd}(h:kdOf x=some k):bootBuiltins x=some (.type k.nm)/\x≠("__name__" : Str)/\(x == ("__debug__" : Str))=false:=by
 unfold kdOf at h;split at h
 ·rename_i z;obtain rfl:=sI h;have e:=Bw z;subst e;exact⟨z0s,by decide,by decide⟩
 split at h
 ·rename_i z;obtain rfl:=sI h;have e:=Bw z;subst e;exact⟨z39,by decide,by decide⟩
 split at h
 ·rename_i z;obtain rfl:=sI h;have e:=Bw z;subst e;exact⟨z5k,by decide,by decide⟩
 split at h
 ·rename_i z;obtain rfl:=sI h;have e:=Bw z;subst e;exact⟨zos,by decide,by decide⟩
 split at h
 ·rename_i z;obtain rfl:=sI h;have e:=Bw z;subst e;exact⟨zmw,by decide,by decide⟩
 exact noSome h
noncomputable def zf3:W->Option (W × Bool)
 | .int i=>#v[(Builtin.Int.intBits i),0]
 | _=>none
theorem ztc {X:Cx}:MtR X "int.bit_length" (fun x vs H Q=>∃i,x=.int i/\vs=[]/\Q (.int (Builtin.Int.intBits i)) H):=by
 intro pins s σ H x vs v us Q I rx rv h;obtain⟨i,rfl,rfl,q⟩:=h;obtain⟨t,rfl⟩:=rx;cases rv;exact call_int_bit_length ⟨.int _,H,I.tok _,⟨_,rfl⟩,q⟩
theorem zmg {K:PySem.W.Frag}{a:GA}{σ:St}{H:Hp}{Q:VK} (h:tE K (gOp1 zf3 a) σ H Q):tBM0 K "int" (fun x vs H Q=>∃i,x=.int i/\vs=[]/\Q (.int (Builtin.Int.intBits i)) H) (tA K a) σ H Q:=by
  nofun;obtain⟨F,pr,en,en',rv,R,h,q⟩:=h;obtain⟨⟨e1,x1⟩,h1,h⟩:=bS h;obtain⟨w1,hw1,h⟩:=bS h;obtain⟨r',hr,h⟩:=bS h;ac_rfl;cases h;refine⟨F,pr,en,e1,x1,R,h1,fun F1 H1 v1 s1 R1 a1=>?_⟩;cases w1 with
  | int i =>
    obtain rfl:=sI hr;have:=(a1.repB R1 hw1).int;subst this;exact⟨rfl,i,rfl,rfl,q F1 H1 _ s1 R1 (.int _)⟩
  | _=>cases hr
noncomputable def ztd:Expr->Bool
 | .Call _ _ _ _=>true
 | _=>false
theorem z1q {o:Expr}{a:Str}{env:Env}{w:Sem Value}(h:ztd o=false):attributeBase o a env w=w:=by
 cases o<;>first | rfl | (cases h)
noncomputable def z01 (f:Sx->Expr->Option GE) (S:Sx) (o:Expr) (name:Str) (apos:Pos) (args:List Expr) (cpos:Pos):Option GE :=
  if !(apos.endLine == cpos.line) || ztd o then none else match args with
  | []=>if name == ("bit_length" : Str) then (za5 f S o).bind fun a=>some (gOp1 zf3 a) else none
  | [e]=>if !zar e then none else match o with
    | .Name x _=>(S.rd x).bind fun i=>(f S e).bind fun g=>if name == ("append" : Str) then some (gApp i g) else none
    | _=>none
  | _=>none
theorem z30 {e:Expr}{env:Env}{cpos:Pos}(h:zar e=true):((backTo cpos (starEach [e] env)).all (fun x=>!x.1) && (backToKw cpos (keywordEach [] env)).all (fun x=>x.1.isSome) && decide (([e]:List Expr).length+([]:List Keyword).length+(if ([]:List Keyword).isEmpty then 0 else 1) < 30))=true:=by
 rw[zak h];rfl
section
variable {X:Cx}{S:Sx}{d:Nat}{f:Sx->Expr->Option GE}
theorem zwq (Hf:zcb f)(C:CxOk X S d){o:Expr}{name:Str}{apos cpos:Pos}{args:List Expr}{g:GE}(h:z01 f S o name apos args cpos=some g):PE X (.Call (.Attribute o name apos) args [] cpos) (tE X.K g):=by
 unfold z01 at h;split at h
 ·exact noSome h
 ·rename_i z;rw[Cn,not_or,Bm,Bm,Dr] at z;have hb:=z1q (a:=name) (env:=X.env) (w:=eval o X.env) z.2;split at h
  ·split at h
   ·rename_i y;have e:=Bw y;subst e;obtain⟨a,ha,h⟩:=bS h;obtain rfl:=sI h;exact (z7w PySem.F.plainAttrs_int PySem.F.slot_int_bit_length PySem.F.type_int_bit_length ztc (zag Hf C ha) hb z.1).wk fun _ _ _=>zmg
   ·exact noSome h
  ·rename_i e;split at h
   ·exact noSome h
   ·rename_i y;rw[Bm,Dr] at y;split at h
    ·rename_i x px;obtain⟨i,hi,h⟩:=bS h;obtain⟨ge,hg,h⟩:=bS h;have pa:PA X [e] (zfg (tE X.K ge) tNil):=pac (Hf X S d C _ _ hg) zfc y;split at h
     ·rename_i q;obtain rfl:=sI h;have e':=Bw q;subst e';exact (z9p PySem.F.plainAttrs_list PySem.F.slot_list_append PySem.F.type_list_append zj6 (zqy C hi) pa hb (z30 y) z.1 (zak y) rfl).wk fun _ _ _=>zws
     ·exact noSome h
    ·exact noSome h
  ·exact noSome h
end
noncomputable def z3i (f:Sx->Expr->Option GE) (S:Sx) (x:Str) (args:List Expr):Option GE:=if x == ("__debug__" : Str) then none else match args with
  | []=>none
  | e::es=>match S.fs.lookup x with
    | some (m,Φ)=>if S.kd.lookup x == some .globalImplicit then (asM f S (e::es) m).bind fun as=>some (zae m Φ as) else none
    | none=>if x == ("isinstance" : Str) && S.bl x then (match e,es with
        | e,[.Name t _]=>if zar e && S.bl t then (kdOf t).bind fun k=>(za5 f S e).bind fun a=>some (gOp1 (oIsi k) a) else none
        | _,_=>none)
      else if S.bl x then (z4j x).bind fun o=>(asL (za5 f S) (e::es)).bind fun as=>some (gOpN o as) else none
theorem zwd {X:Cx}{S:Sx}{d:Nat}{f:Sx->Expr->Option GE}(Hf:zcb f)(C:CxOk X S d){x:Str}{args:List Expr}{g:GE}{p pos:Pos}(h:z3i f S x args=some g):PE X (.Call (.Name x p) args [] pos) (tE X.K g):=by
 unfold z3i at h;split at h
 ·exact noSome h
 ·rename_i hdb;rw[Bm] at hdb;split at h
  ·exact noSome h
  ·rename_i e es;split at h
   ·rename_i m Φ hfs;split at h
    ·rename_i hgl;obtain⟨as,has,h⟩:=bS h;obtain rfl:=sI h;obtain⟨ps,hl,cal⟩:=C.fs x m Φ hfs;obtain⟨pa,st⟩:=z0i Hf C has;rw[Bq,Ai] at st;exact (z8l cal C.room (C.gl x (by simpa using hgl)) pa (Ag _) hdb (zak st.1) (ziq st.2)).wk fun _ _ _=>zs2
    ·exact noSome h
   ·split at h
    ·rename_i hi;rw[Ai] at hi;have e':=Bw hi.1;subst e';obtain⟨gI,mI⟩:=zg7 C hi.2;split at h
     ·rename_i t pt;split at h
      ·rename_i z;rw[Ai] at z;obtain⟨k,hk,h⟩:=bS h;obtain⟨a,ha,h⟩:=bS h;obtain rfl:=sI h;obtain⟨k1,k2,k3⟩:=z33 hk;obtain⟨gT,mT⟩:=zg7 C z.2;have pt' : PE X (.Name t pt) (tC (.ty k.nm)):=z3q gT mT k1 rfl k2 k3;have pa:PA X [e,.Name t pt] (zfg (tA X.K a) (zfg (tC (.ty k.nm)) tNil)):=pac (zag Hf C ha) (pac pt' zfc rfl) z.1;exact (zbv zxn gI mI zio pa #v[0,9] hdb (zak z.1) rfl).wk fun _ _ _=>zxc
      ·exact noSome h
     ·exact noSome h
    ·split at h
     ·rename_i hb;obtain⟨o,ho,h⟩:=bS h;obtain⟨as,has,h⟩:=bS h;obtain rfl:=sI h;obtain⟨pa,st⟩:=zg2 (fun e a ha=>zag Hf C ha) has;obtain⟨r,h1,h2⟩:=zxo (pos:=pos) (p:=p) C hb ho pa st;exact h1.wk fun _ _ _=>zi9 h2
     ·exact noSome h
noncomputable def zto (f:Sx->Expr->Option GE) (S:Sx) (tg e:Expr):Option GL:=if !zh1 e then none else match e with
  | .Call (.Name x _) args [] _ =>
    if x == ("range" : Str) && S.bl x then (match args with
      | [a]=>if zar a then (asL (za5 f S) [a]).bind fun as=>some (ze5 as) else none
      | _=>none)
    else if x == ("enumerate" : Str) && S.bl x then (match args,tg with
      | [a],.Tuple _ _ _=>if zar a then (f S a).bind fun g=>some (zfh g) else none
      | _,_=>none)
    else if x == ("reversed" : Str) && S.bl x then (match args with
      | [a]=>if zar a then (f S a).bind fun g=>some (gRev g) else none
      | _=>none)
    else if x == ("zip" : Str) && S.bl x then (match args,tg with
      | [a,b],.Tuple _ _ _=>if zar a && zar b then (f S a).bind fun g=>(f S b).bind fun g'=>some (gZip g g') else none
      | _,_=>none)
    else (f S e).bind fun g=>some (zan g)
  | _=>(f S e).bind fun g=>some (zan g)
theorem zn0 {X:Cx}{S:Sx}{d:Nat}{f:Sx->Expr->Option GE}(Hf:zcb f)(C:CxOk X S d){tg e:Expr}{g:GL}(h:zto f S tg e=some g):PI X tg e (tI X.K g)/\∀x,foldedSetIterable e X.env x=pure x:=by
 unfold zto at h;split at h
 ·exact noSome h
 ·rename_i hs;rw[Bm,Dr] at hs;refine⟨?_,zsj hs⟩;split at h
  ·rename_i x px args pc;split at h
   ·rename_i z;rw[Ai] at z;have e':=Bw z.1;subst e';obtain⟨gl,mg⟩:=zg7 C z.2;split at h
    ·rename_i a;split at h
     ·rename_i y;obtain⟨as,has,h⟩:=bS h;obtain rfl:=sI h;obtain⟨pa,_⟩:=zg2 (fun e a ha=>zag Hf C ha) has;exact (zve gl mg pa (zak y)).wk fun _ _ _=>zu8
     ·exact noSome h
    ·exact noSome h
   ·split at h
    ·rename_i z;rw[Ai] at z;have e':=Bw z.1;subst e';obtain⟨gl,mg⟩:=zg7 C z.2;split at h
     ·rename_i a es k1 p1;split at h
      ·rename_i y;obtain⟨ge,hg,h⟩:=bS h;obtain rfl:=sI h;exact (zzb gl mg (pac (Hf X S d C _ _ hg) zfc y) (zak y)).wk fun _ _ _=>zsx
      ·exact noSome h
     ·exact noSome h
    ·split at h
     ·rename_i z;rw[Ai] at z;have e':=Bw z.1;subst e';obtain⟨gl,mg⟩:=zg7 C z.2;split at h
      ·rename_i a;split at h
       ·rename_i y;obtain⟨ge,hg,h⟩:=bS h;obtain rfl:=sI h;exact (z7j gl mg (pac (Hf X S d C _ _ hg) zfc y) (zak y)).wk fun _ _ _=>zzf
       ·exact noSome h
      ·exact noSome h
     ·split at h
      ·rename_i z;rw[Ai] at z;have e':=Bw z.1;subst e';obtain⟨gl,mg⟩:=zg7 C z.2;split at h
       ·rename_i a b es k1 p1;split at h
        ·rename_i y;rw[Ai] at y;nofun;obtain⟨ge,hg,h⟩:=bS h;obtain⟨ge',hg',h⟩:=bS h;ac_rfl;obtain rfl:=sI h;exact (z5m gl mg (pac (Hf X S d C _ _ hg) (pac (Hf X S d C _ _ hg') zfc y.2) y.1) (by rw[zak y.1,zak y.2];rfl) (zak y.2)).wk fun _ _ _=>zwr
        ·exact noSome h
       ·exact noSome h
      ·obtain⟨ge, hg, h⟩ := bS h;obtain rfl:=sI h;exact (zzm (Hf X S d C _ _ hg)).wk fun _ _ _=>zka
  ·obtain⟨ge, hg, h⟩ := bS h;obtain rfl:=sI h;exact (zzm (Hf X S d C _ _ hg)).wk fun _ _ _=>zka
noncomputable def zl1 (S:Sx):List Expr->Option (List Nat)
 | []=>some []
 | .Name x _::es=>(S.wr x).bind fun i=>(zl1 S es).bind fun is=>some (i::is)
 | _=>none
noncomputable def tgE (S:Sx):Expr->Option Tg
 | .Name x _=>(S.wr x).bind fun i=>some (.nm i)
 | .Tuple es _ _=>(zl1 S es).bind fun is=>some (.tp is)
 | _=>none
section
variable {X:Cx}{S:Sx}{d:Nat}
theorem zq9 (C:CxOk X S d):∀(es:List Expr) {is:List Nat},zl1 S es=some is->PGs X es (zon is)/\(assignEach es X.env).length=is.length/\(assignEach es X.env).findIdx? (·.1)=none:=by
  intro es
  induction es with
  | nil=>intro is h;obtain rfl:=sI h;exact⟨z3w,rfl,rfl⟩
  | cons e es ih =>
    intro is h;obtain ⟨x,p,rfl⟩ : ∃x p,e=.Name x p:=by
      cases e with
      | Name x p=>exact⟨x,p,rfl⟩
      | _=>exact noSome h
    nofun;obtain⟨i,hi,h⟩:=bS (show (S.wr x).bind _=_ from h);obtain⟨is,his,h⟩:=bS h;ac_rfl;obtain rfl:=sI h;nofun;obtain⟨a,b,c⟩:=ih his;obtain⟨w1,w2,w3⟩:=zyf C hi;ac_rfl;refine⟨zxy (zso (ndN C) w1 w2 w3) a rfl,congrArg (· + 1) b,?_⟩;show List.findIdx? (·.1) ((false,assign (.Name x p) X.env)::assignEach es X.env)=none;rw[List.findIdx?_cons,c]
    rfl
theorem z0j (C:CxOk X S d){e:Expr}{T:Tg}(h:tgE S e=some T):PG X e (TGof X.K T):=by
 unfold tgE at h;split at h
 ·obtain⟨i, hi, h⟩ := bS h;obtain rfl:=sI h;obtain⟨w1,w2,w3⟩:=zyf C hi;exact zso (ndN C) w1 w2 w3
 ·obtain⟨is, his, h⟩ := bS h;obtain rfl:=sI h;obtain⟨a,b,c⟩:=zq9 C _ his;exact z1k C.calm a b c
 ·exact noSome h
end
section
variable {X:Cx}{S:Sx}{d:Nat}
variable {pins:List (Addr × Obj)}{σ:St}{H F:Hp}{s:Shared}{pr:Prt}{en:En}
end
section
variable {prog:Program}{w:World}{A:Around}{E:Value->Shared->Prop}{s:Shared}
variable {I:Addr}{fp wr:List Addr}{n:Nat}{P:Nat->Value->Prop}{St:Nat->Heap->Prop}{R:Result->Shared->Prop}
end
section
variable {X:Cx}{S:Sx}{d:Nat}
end
noncomputable def lrOk (j:Int):Bool:=zd1 j && decide (j<=16777216)
section
variable {X:Cx}
end
section
variable {X:Cx}{S:Sx}{d:Nat}
end
section
variable {K:PySem.W.Frag}{σ:St}{H:Hp}
end
noncomputable def zjz (x:Expr->Option GE) (X:Cx):Prop:=∀e g,x e=some g->PE X e (tE X.K g)
section
variable {X:Cx}{S:Sx}{d:Nat}{fE:Sx->Expr->Option GE}
end
noncomputable def keyF:W->Option Key
 | .int i=>some (.inl i)
 | .str s=>some (.inr s)
 | _=>none
noncomputable def keysF:List W->Option (List Key)
 | []=>some []
 | w::ws=>(keyF w).bind fun k=>(keysF ws).bind fun ks=>some (k::ks)
noncomputable def keyD:W->Option DKey
 | .tup ws=>(keysF ws).bind fun ks=>some (.inr ks)
 | w=>(keyF w).bind fun k=>some (.inl k)
noncomputable def KeyR (F:Hp):DKey->V->Prop
 | .inl k,v=>v=kV k
 | .inr ks,v=>∃b,v=.ref b/\F b=some (.tup (ks.map kV))
section
variable {K:PySem.W.Frag}{F H:Hp}
theorem Rep.keyF {w:W}{v:V}{k:Key}(h:Rep K F w v)(e:keyF w=some k):v=kV k:=by
 cases w with
 | int i=>obtain rfl:=sI e;exact h.isIt
 | str s=>obtain rfl:=sI e;cases h;rfl
 | _=>exact noSome e
theorem Reps.keysF:∀{ws:List W}{vs:List V}{ks:List Key},Reps K F ws vs->keysF ws=some ks->vs=ks.map kV
  | _,_,_,.nil,e=>by obtain rfl:=sI e;rfl
  | _,_,_,.cons h r,e=>by
    obtain⟨k,h1,e⟩:=bS e;obtain⟨ks,h2,e⟩:=bS e;obtain rfl:=sI e;rw[h.keyF h1,Reps.keysF r h2];rfl
theorem Rep.keyD {w:W}{v:V}{k:DKey} (h:Rep K F w v) (e:keyD w=some k):KeyR F k v:=by
  have flat:(L2.keyF w).bind (fun k=>some (Sum.inl k:DKey))=some k->KeyR F k v:=fun e=>by
    obtain⟨k1,h1,e⟩:=bS e;obtain rfl:=sI e;exact h.keyF h1
  cases w with
  | tup ws =>
    obtain⟨ks,h1,e⟩:=bS (show (L2.keysF ws).bind _=_ from e);obtain rfl:=sI e;cases h with
    | tup hh r=>exact⟨_,rfl,by rw[hh,r.keysF h1]⟩
  | _=>exact flat e
noncomputable def valW (kvs:List (DKey × W)) (k:DKey):Option W:=(kvs.find? fun kv=>decide (kv.1=k)).map (·.2)
theorem zgp (p:DKey × W)(r:List (DKey × W))(k:DKey):valW (p::r) k=if p.1=k then some p.2 else valW r k:=by
 unfold valW;rw[Dt];by_cases h:p.1=k
 ·rw[Ah h,if_pos h];rfl
 ·rw[Ap h,if_neg h]
theorem zs9 {κ:Type} [DecidableEq κ] (p:κ × V)(r:List (κ × V))(k:κ):valV (p::r) k=if p.1=k then some p.2 else valV r k:=by
 by_cases h:p.1=k
 ·rw[zfk h,if_pos h]
 ·rw[zfj h,if_neg h]
theorem ziz {κ:Type} [DecidableEq κ] {f:κ->DKey} (hf:∀a b,f a=f b->a=b):∀{ks:List κ}{ws:List W}{vs:List V}{k:κ}{w:W},ks.length=vs.length->Reps K F ws vs->valW ((ks.map f).zip ws) (f k)=some w->∃v,valV (ks.zip vs) k=some v/\Rep K F w v
  | [],_,_,_,_,_,_,e=>by simp [valW] at e
  | _::_,_,_,_,_,_,.nil,e=>by simp [valW] at e
  | k' :: ks,w' :: ws,v' :: vs,k,w,hl,.cons h r,e=>by
    rw[Ad,Cg,zgp] at e;rw[Cg,zs9];by_cases z:k'=k
    · subst z
      rw[if_pos rfl] at e ⊢;obtain rfl:=sI e;exact⟨_,rfl,h⟩
    · rw [if_neg fun q => z (hf _ _ q)] at e
      rw[if_neg z];exact ziz hf (Fp hl) r e
theorem zgm {κ:Type}{f:κ->DKey}{k:DKey} (hk:∀a,f a≠k):∀{ks:List κ}{ws:List W},valW ((ks.map f).zip ws) k=none
  | [],_=>rfl
  | _::_,[]=>rfl
  | k' :: ks,w' :: ws=>by
    rw[Ad,Cg,zgp,if_neg (hk k')];exact zgm hk
noncomputable def zdz {κ:Type} [DecidableEq κ] (ks:List κ) (k:κ):List κ:=if k∈ks then ks else ks++[k]
noncomputable def zd4 {κ α:Type} [DecidableEq κ] (ks:List κ) (vs:List α) (k:κ) (v:α):List α:=if k∈ks then List.zipWith (fun k' v'=>if k'=k then v else v') ks vs else vs++[v]
theorem zkc {κ:Type} [DecidableEq κ] {f:κ->DKey}(hf:∀a b,f a=f b->a=b)(ks:List κ)(k:κ):zdz (ks.map f) (f k)=(zdz ks k).map f:=by
 have m:f k∈ks.map f↔k∈ks:=by
  rw[Az];exact⟨fun ⟨a,h,e⟩=>hf _ _ e ▸ h,fun h=>⟨k,h,rfl⟩⟩
 unfold zdz;by_cases h:k∈ks
 ·rw[if_pos h,if_pos (m.mpr h)]
 ·rw[if_neg h,if_neg (mt m.mp h),Bx];rfl
theorem zlw {κ:Type} [DecidableEq κ] {f:κ->DKey} (hf:∀a b,f a=f b->a=b) {k:κ}{w:W}{v:V} (h:Rep K F w v):∀{ks:List κ}{ws:List W}{vs:List V},Reps K F ws vs->Reps K F (List.zipWith (fun k' v'=>if k'=f k then w else v') (ks.map f) ws) (List.zipWith (fun k' v'=>if k'=k then v else v') ks vs)
  | [],_,_,_=>.nil
  | _::_,_,_,.nil=>.nil
  | k' :: ks,_,_,.cons q r=>by
    rw[Ad,Cp,Cp];refine .cons ?_ (zlw hf h r);by_cases z:k'=k
    · subst z;rw[if_pos rfl,if_pos rfl];exact h
    · rw[if_neg z,if_neg fun e=>z (hf _ _ e)];exact q
theorem zh2 {κ:Type} [DecidableEq κ] {f:κ->DKey}(hf:∀a b,f a=f b->a=b){k:κ}{w:W}{v:V}(h:Rep K F w v){ks:List κ}{ws:List W}{vs:List V}(r:Reps K F ws vs):Reps K F (zd4 (ks.map f) ws (f k) w) (zd4 ks vs k v):=by
 have m:f k∈ks.map f↔k∈ks:=by
  rw[Az];exact⟨fun ⟨a,h,e⟩=>hf _ _ e ▸ h,fun h=>⟨k,h,rfl⟩⟩
 unfold zd4;by_cases z:k∈ks
 ·rw[if_pos z,if_pos (m.mpr z)];exact zlw hf h r
 ·rw[if_neg z,if_neg (mt m.mp z)];exact r.append (.cons h .nil)
theorem zvu {κ α:Type} [DecidableEq κ] {ks:List κ}{vs:List α}(hl:ks.length=vs.length)(k:κ)(v:α):(zdz ks k).length=(zd4 ks vs k v).length:=by
 unfold zdz zd4;split
 ·rw[Eb,hl,Nat.min_self]
 ·rw[Bf,Bf,hl];rfl
theorem zrr {κ:Type} [DecidableEq κ] (k:κ) (v:V):∀{ks:List κ}{vs:List V},(ks.zip vs).map (fun kv=>if kv.1=k then (kv.1,v) else kv)=ks.zip (List.zipWith (fun k' v'=>if k'=k then v else v') ks vs)
  | [],_=>rfl
  | _::_,[]=>rfl
  | k' :: ks,v' :: vs=>by
    rw[Cg,Ad,zrr k v,Cp,Cg];by_cases z:k'=k
    · rw[if_pos z,if_pos z]
    · rw[if_neg z,if_neg z]
theorem zrl {κ:Type} [DecidableEq κ] (k:κ):∀{ks:List κ}{vs:List V},ks.length=vs.length->((ks.zip vs).any fun kv=>decide (kv.1=k))=decide (k∈ks)
  | [],_,_=>rfl
  | _::_,[],h=>by simp at h
  | k' :: ks,v' :: vs,h=>by
    rw[Cg,Et,zrl k (Fp h)];by_cases z:k'=k
    · subst z;simp
    · have : ¬ k = k' := fun e => z e.symm
      simp [z,this]
theorem zol {κ:Type} [DecidableEq κ] {ks:List κ}{vs:List V}(hl:ks.length=vs.length)(k:κ)(v:V):putK (ks.zip vs) k v=(zdz ks k).zip (zd4 ks vs k v):=by
 unfold putK zdz zd4;rw[zrl k hl];by_cases z:k∈ks
 ·rw[if_pos (Ah z),if_pos z,if_pos z,zrr]
 ·rw[if_neg (fun q=>z (As q)),if_neg z,if_neg z,List.zip_append hl];rfl
noncomputable def DctR (K:PySem.W.Frag) (F H:Hp) (a:Addr) (ks:List DKey) (ws:List W):Prop :=
 (∃(js:List Key) (vs:List V),ks=js.map .inl/\H a=some (.dK (js.zip vs))/\js.length=vs.length/\Reps K F ws vs) \/
 ∃(js:List (List Key)) (vs:List V),ks=js.map .inr/\H a=some (.dT (js.zip vs))/\js.length=vs.length/\Reps K F ws vs
theorem OwnR.dct' {ks:List DKey}{ws:List W}{o:HO}{a:Addr}(h:OwnR K F (.dct ks ws) o)(e:H a=some o):DctR K F H a ks ws:=by
 generalize hw:W.dct ks ws=w at h;cases h with
 | lst r=>cases hw
 | dct hl r=>cases hw;exact .inl ⟨_,_,rfl,e,hl,r⟩
 | dctT hl r=>cases hw;exact .inr ⟨_,_,rfl,e,hl,r⟩
theorem RepB.dct {ks:List DKey}{ws:List W}{v:V}(s:Same F H)(r:RepB K F H (.dct ks ws) v):∃a,v=.ref a/\DctR K F H a ks ws:=by
 rcases r with r | ⟨a,o,w',e,rfl,h,q⟩
 ·generalize hw : W.dct ks ws = w at r;cases r with
  | dct h hl r=>cases hw;exact⟨_,rfl,.inl ⟨_,_,rfl,s _ _ h,hl,r⟩⟩
  | dctT h hl r=>cases hw;exact⟨_,rfl,.inr ⟨_,_,rfl,s _ _ h,hl,r⟩⟩
  | _=>cases hw
 ·subst e;exact⟨a,rfl,q.dct' h⟩
theorem zim (a b:Key)(h:(Sum.inl a:DKey)=.inl b):a=b:=Gi h
theorem zma (a b:List Key)(h:(Sum.inr a:DKey)=.inr b):a=b:=Sum.inr.inj h
theorem DctR.get {a:Addr}{ks:List DKey}{ws:List W}{d:DKey}{y:V}{w:W} (s:Same F H) (h:DctR K F H a ks ws) (hk:KeyR F d y) (e:valW (ks.zip ws) d=some w):∃v,DGet H a y (some v)/\Rep K F w v:=by
  rcases h with ⟨js,vs,rfl,h,hl,r⟩ | ⟨js,vs,rfl,h,hl,r⟩
  · cases d with
    | inl k =>
      obtain⟨v,h1,h2⟩:=ziz zim hl r e;exact⟨v,.inl ⟨_,k,.inl h,hk,h1.symm⟩,h2⟩
    | inr k=>rw[zgm (f:=Sum.inl) (fun a z=>by cases z)] at e;exact nomatch e
  · cases d with
    | inl k=>rw[zgm (f:=Sum.inr) (fun a z=>by cases z)] at e;exact nomatch e
    | inr k =>
      obtain⟨v,h1,h2⟩:=ziz zma hl r e;obtain⟨b,hb,fb⟩:=hk;exact⟨v,.inr ⟨_,k,b,.inl h,hb,s _ _ fb,h1.symm⟩,h2⟩
noncomputable def zhf (d:DKey) (ks:List DKey):Bool:=ks.all fun k=>k.isLeft == d.isLeft
end
section
variable {X:Cx}{pins:List (Addr × Obj)}{σ:St}{H:Hp}{s:Shared}{a:Addr}
theorem zyj {H:Hp}{a:Addr}{o o' : HO}(e:H a=some o):upd (upd H a o') a o=H:=by
 rw[zm7]
 funext b
 by_cases h:b=a
 ·subst h;rw[upd_same,e]
 ·rw[upd_ne h]
theorem reT (I:Inv X pins σ H s)(e:H a=some (.dK [])):Inv X pins σ (upd H a (.dT [])) s:=by
 obtain⟨z,hd,vs,rel,o,es,ep,h1,h2,h3,h4,h5,h6⟩:=zwb I.hok e;have hv:vs=[]:=Fj.mp rel.length.symm;subst hv;have he:es.toList=[]:=by
  generalize es.toList=l at h5;cases h5
  rfl
 exact zi3 (h':=s.heap) (t':=s.toks) I (by rw[e];exact True.intro) ⟨rfl,fun _ _=>rfl⟩ ⟨o,h1⟩ ⟨Cb _,hd,[],.nil,o,es,ep,h1,h2,h3,he,List.nodup_nil⟩
theorem reK (I:Inv X pins σ H s)(e:H a=some (.dT [])):Inv X pins σ (upd H a (.dK [])) s:=by
 obtain⟨z,hd,xs,rel,o,es,ep,h1,h2,h3,h4,h5⟩:=(show za4 X.prog X.w H s.heap a (.dT []) from I.hok a _ e);cases rel;have he:es=#[]:=by cases es;simp at h4;rw[h4]
 subst he;exact zi3 (h':=s.heap) (t':=s.toks) I (by rw[e];exact True.intro) ⟨rfl,fun _ _=>rfl⟩ ⟨o,h1⟩ ⟨Cb _,hd,[],.nil,o,#[],ep,h1,h2,h3,(fun e he=>absurd he (by simp)),.nil,List.nodup_nil⟩
end
noncomputable def rIxD:R2:=fun x y H Q=>∃a v,x=.ref a/\DGet H a y (some v)/\Q v H
theorem z20 {X:Cx}(hu:X.A.units+1 < cLine):IxR X rIxD:=by
 intro value slice pins s σ H x y v u Q I rx ry h hs;obtain⟨a,z,rfl,g,q⟩:=h;cases rx;exact tail_any (ops:=[.ref a,u]) (zms I g) PySem.F.slot_dict_getitem.lookup (zr1 hu I g ry fun w' s3 I3 rw'=>⟨z,H,I3,rw',q⟩) hs
noncomputable def oIxD:O2:=fun a k=>match a with
 | .dct ks ws=>(keyD k).bind fun d=>(valW (ks.zip ws) d).bind fun w=>#v[w,6]
 | a=>oIx a k
theorem RepB.key {K:PySem.W.Frag}{F H:Hp}{w:W}{v:V}{d:DKey}(r:RepB K F H w v)(e:keyD w=some d):KeyR F d v:=by
 rcases r with r | ⟨a,o,w',z,rfl,h,q⟩
 ·exact r.keyD e
 ·subst z;cases q<;>exact noSome e
theorem z08 {K:PySem.W.Frag}:OpS K (fun x y H Q=>rIxB K x y H Q\/rIxD x y H Q) oIxD:=fun F H w1 w2 v1 v2 rv Q s r1 r2 e q=>by
  cases w1 with
  | dct ks ws =>
    nofun;obtain⟨d,hd,e⟩:=bS (show (keyD w2).bind _=_ from e);obtain⟨w,hw,e⟩:=bS e;obtain rfl:=sI e;obtain⟨a,rfl,D⟩:=r1.dct s;obtain⟨v,h1,h2⟩:=D.get s (r2.key hd) hw;ac_rfl;exact .inr ⟨a,v,rfl,h1,q _ _ (.val h2)⟩
  | _=>exact .inl (z0g F H _ w2 v1 v2 rv Q s r1 r2 e q)
section
variable {K:PySem.W.Frag}{F H:Hp}{pr:Prt}{en:En}{σ:St}
theorem Rel.newOwn (R:Rel K F pr en σ H){p:Addr}(hp:H p=none){w:W}{o:HO}(h:OwnR K F w o):Rel K F pr en σ (upd H p o)/\Res K F (upd H p o) pr en σ (w,true) (.ref p):=by
 refine⟨R.lay hp o,p,o,w,rfl,rfl,upd_same,R.sub.free hp,h,fun i w' e z=>?_,fun q o2 hq z=>?_⟩
 ·obtain⟨a, vs, ws, h1, h2, h3, h4, h5⟩ := R.own i w' e;rw[h2] at z;cases z;rw[hp] at h3;exact noSome h3
 ·have := (R.prt q o2 hq).1;rw[z,hp] at this;exact noSome this
end
noncomputable def zxi:GE:=fun en=>some (en,(.dct [] [],true))
theorem zsp {K:PySem.W.Frag}{σ:St}{H:Hp}{Q:VK}(h:tE K zxi σ H Q):zzr σ H Q:=by
 obtain⟨F,pr,en,en',r,R,h,q⟩:=h;cases h;intro p hp;obtain⟨R',y⟩:=R.newOwn hp (w:=.dct [] []) (o:=.dK []) (.dct (ks:=[]) (vs:=[]) rfl .nil);exact q F _ _ (.refl F) R' y
noncomputable def zym (i:Nat) (g g' : GE):GE:=fun en=>match en[i]? with
  | some (some (.dct _ _,_))=>(g en).bind fun p=>(g' p.1).bind fun q=>(keyD p.2.1).bind fun d=>match q.1[i]? with
    | some (some (.dct ks ws,_))=>(match valW (ks.zip ws) d with
      | some w=>some (q.1,(w,false))
      | none=>if zhf d ks then some (q.1,q.2) else none)
    | _=>none
  | _=>none
theorem Rel.repD {K:PySem.W.Frag}{F H:Hp}{pr:Prt}{en:En}{σ:St}(R:Rel K F pr en σ H){i:Nat}{ks:List DKey}{ws:List W}{f:Bool}(e:en[i]?=some (some (.dct ks ws,f))):∃a,σ[i]?=some (some (.ref a))/\DctR K F H a ks ws:=by
 obtain⟨v,hv⟩:=R.has e;obtain⟨a,rfl,D⟩:=(R.repB e hv).dct R.sub;exact⟨a,hv,D⟩
theorem Res.key {K:PySem.W.Frag}{F H:Hp}{pr:Prt}{en:En}{σ:St}{r:W × Bool}{v:V}{d:DKey}(h:Res K F H pr en σ r v)(e:keyD r.1=some d):KeyR F d v:=by
 obtain⟨w,b⟩:=r;cases b with
 | false=>exact Rep.keyD h e
 | true=>obtain⟨a,o,w',z,_,_,_,q,_⟩:=h;subst z;cases q<;>exact noSome e
theorem KeyR.mono {F F' : Hp}{d:DKey}{v:V}(s:Same F F')(h:KeyR F d v):KeyR F' d v:=by
 cases d with
 | inl k=>exact h
 | inr k=>obtain⟨b,h1,h2⟩:=h;exact⟨b,h1,s _ _ h2⟩
theorem zp4 {X:Cx}{pins:List (Addr × Obj)}{σ:St}{H:Hp}{s:Shared}{a:Addr}{y v:V}{u r:Value}{A:Around}{E:Value->Shared->Prop}{Q:Unit->Shared->Prop} (hu:A.units+1 < cLine) (I:Inv X pins σ H s)
  (g:(∃H',DPut H a y v H'/\∀s',Inv X pins σ H' s'->Q () s')\/(H a=some (.dK [])/\∃(b:Addr) (k:List Key),y=.ref b/\H b=some (.tup (k.map kV))/\∀s',Inv X pins σ (upd H a (.dT (putK [] k v))) s'->Q () s')\/(H a=some (.dT [])/\∃k,y=kV k/\∀s',Inv X pins σ (upd H a (.dK (putK [] k v))) s'->Q () s')) (ry:RelV y u) (rv:RelV v r) :
  wpAny (model X.prog X.w) A (setItem (.ref a) u r) Q E s:=by
 rcases g with ⟨H',g,h⟩ | ⟨e,b,k,rfl,hb,h⟩ | ⟨e,k,rfl,h⟩
 ·exact d_setItem hu I g ry rv h
 ·have ne : b ≠ a := fun z => by subst z; rw[e] at hb; exact nomatch hb
  refine d_setItem hu (reT I e) (.inr ⟨[],k,b,upd_same,rfl,by rw[upd_ne ne];exact hb,by rw[Dg];decide,rfl⟩) ry rv fun s' I'=>h s' ?_
  rwa [zm7] at I'
 ·refine d_setItem hu (reK I e) (.inl ⟨[], k, upd_same, rfl, by rw[Dg]; decide, rfl⟩) ry rv fun s' I' => h s' ?_
  rwa [zm7] at I'
noncomputable def z8v:V->V->V->Hp->(Hp->Prop)->Prop:=fun o y v H Q=>∃a,o=.ref a/\((∃H',DPut H a y v H'/\Q H')\/(H a=some (.dK [])/\∃(b:Addr) (k:List Key),y=.ref b/\H b=some (.tup (k.map kV))/\Q (upd H a (.dT (putK [] k v))))\/(H a=some (.dT [])/\∃k,y=kV k/\Q (upd H a (.dK (putK [] k v)))))
theorem zwj {X:Cx}(hu:X.A.units+1 < cLine):PSet X z8v:=by
 intro pins s σ H o i v ov iv u Q I ro ri rv h;obtain⟨a,rfl,h⟩:=h;cases ro;refine zp4 hu I ?_ ri rv;rcases h with ⟨H',g,q⟩ | ⟨e,b,k,e1,hb,q⟩ | ⟨e,k,e1,q⟩
 ·exact .inl ⟨H',g,fun s' I'=>⟨H',I',q⟩⟩
 ·exact .inr (.inl ⟨e,b,k,e1,hb,fun s' I'=>⟨_,I',q⟩⟩)
 ·exact .inr (.inr ⟨e,k,e1,fun s' I'=>⟨_,I',q⟩⟩)
theorem PSet.or {X:Cx}{t t' : TSet}(h:PSet X t)(h' : PSet X t'):PSet X fun o i v H Q=>t o i v H Q\/t' o i v H Q:=by
 intro pins s σ H o i v ov iv u Q I ro ri rv q;rcases q with q | q
 ·exact h pins s σ H o i v ov iv u Q I ro ri rv q
 ·exact h' pins s σ H o i v ov iv u Q I ro ri rv q
noncomputable def zk4 (i:Nat) (k:GE) (g:GE):GS:=fun en=>(g en).bind fun p=>match p.1[i]? with
  | some (some _)=>(k p.1).bind fun q=>match q.1[i]? with
    | some (#v[ws,2])=>(intW q.2.1).bind fun n=>(ixN ws.length n).bind fun j=>some (q.1.set i (#v[(ws.set j p.2.1),2]),.nx)
    | some (some (.dct ks ws,true))=>(keyD q.2.1).bind fun d=>if zhf d ks && decide (ks.length < sizeLine) then some (q.1.set i (some (.dct (zdz ks d) (zd4 ks ws d p.2.1),true)),.nx) else none
    | _=>none
  | _=>none
theorem zvk {K:PySem.W.Frag}{mp:List Nat}{D:Ends}{σ:St}{H:Hp}{i:Nat}{k g:GE} (h:tS K mp (zk4 i k g) D σ H):tAsg (tE K g) (gSub (tVar i) (tE K k) (fun o i v H Q=>z4c o i v H Q\/z8v o i v H Q)) D σ H:=by
  obtain⟨F,pr,en,en',fl,R,h,q⟩:=h;obtain⟨⟨e1,r1⟩,h1,h⟩:=bS h;refine⟨F,pr,en,e1,r1,R,h1,fun F1 H1 v1 s1 R1 y1=>?_⟩;obtain⟨F2,s2,R2,x1⟩:=y1.freeze R1;split at h
  · rename_i x0 hx0
    obtain⟨⟨e2,r2⟩,h2,h⟩:=bS h;obtain⟨w0,f0⟩:=x0;obtain⟨v0,hv0⟩:=R2.has hx0;refine⟨v0,hv0,F2,pr,e1,e2,r2,R2,h2,fun F3 H3 v2 s3 R3 y2=>?_⟩;split at h
    · rename_i ws eq2
      obtain ⟨n,hn,h⟩:=bS h;obtain ⟨j,hj,h⟩:=bS h;cases h;obtain ⟨w2,f2⟩:=r2;have ew:w2=.int n:=by
        cases w2 with
        | int j=>obtain rfl:=sI hn;rfl
        | _=>exact noSome hn
      subst ew;obtain⟨a,vs,ws',q1,q2,q3,q4,q5⟩:=R3.ownL eq2;cases q1;rw[hv0] at q2;cases q2;refine .inl ⟨a,vs,n,j,rfl,y2.isInt,q3,by rw[<-q5.length];exact hj,?_⟩;exact q F3 σ _ (s1.trans (s2.trans s3)) (R3.change eq2 hv0 (q5.set (x1.mono s3) j)) (.refl _ _)
    · rename_i ks ws eq2
      obtain⟨d,hd,h⟩:=bS h;split at h
      · rename_i z
        rw[Ai] at z;have z2:=As z.2;cases h;have kr:=y2.key hd;obtain⟨a,ha,D⟩:=R3.repD eq2;rw[hv0] at ha;cases ha;refine .inr ⟨a,rfl,?_⟩;rcases D with ⟨js,vs,rfl,hH,hl,r⟩ | ⟨js,vs,rfl,hH,hl,r⟩
        · cases d with
          | inl k =>
            refine .inl ⟨_,.inl ⟨_,k,hH,kr,by rw[List.length_zip,<-hl,Nat.min_self];rw[Aa] at z2;exact z2,rfl⟩,?_⟩;rw[zol hl];rw[zkc zim] at q;exact q F3 σ _ (s1.trans (s2.trans s3)) (R3.changeO eq2 hv0 (.dct (zvu hl _ _) (zh2 zim (x1.mono s3) r))) (.refl _ _)
          | inr k =>
            cases js with
            | cons j js=>have z1:=z.1;unfold zhf at z1;rw[Ad,Bq,Ai] at z1;exact nomatch z1.1
            | nil =>
              have hv:vs=[]:=Fj.mp hl.symm;subst hv;obtain⟨b,hb,fb⟩:=kr;refine .inr (.inl ⟨hH,b,k,hb,R3.sub _ _ fb,?_⟩);cases r;exact q F3 σ _ (s1.trans (s2.trans s3)) (R3.changeO eq2 hv0 (.dctT (ks:=[k]) (vs:=[v1]) rfl (.cons (x1.mono s3) .nil))) (.refl _ _)
        · cases d with
          | inr k =>
            obtain⟨b,hb,fb⟩:=kr;refine .inl ⟨_,.inr ⟨_,k,b,hH,hb,R3.sub _ _ fb,by rw[List.length_zip,<-hl,Nat.min_self];rw[Aa] at z2;exact z2,rfl⟩,?_⟩;rw[zol hl];rw[zkc zma] at q;exact q F3 σ _ (s1.trans (s2.trans s3)) (R3.changeO eq2 hv0 (.dctT (zvu hl _ _) (zh2 zma (x1.mono s3) r))) (.refl _ _)
          | inl k =>
            cases js with
            | cons j js=>have z1:=z.1;unfold zhf at z1;rw[Ad,Bq,Ai] at z1;exact nomatch z1.1
            | nil =>
              have hv:vs=[]:=Fj.mp hl.symm;subst hv;refine .inr (.inr ⟨hH,k,kr,?_⟩);cases r;exact q F3 σ _ (s1.trans (s2.trans s3)) (R3.changeO eq2 hv0 (.dct (ks:=[k]) (vs:=[v1]) rfl (.cons (x1.mono s3) .nil))) (.refl _ _)
      · exact noSome h
    · exact noSome h
  · exact noSome h
theorem zis {P:Program}{w:World}:∀{vs:List (Key × Value)}{us:List Value},us.length=vs.length->(∀(j:Nat) (v:Value),us[j]?=some v->∃k x,vs[j]?=some (k,x)/\(zap P w).is k v=true)->Vals (vs.map fun p=>kV p.1) us
  | [],[],_,_=>.nil
  | [],_::_,h,_=>nomatch h
  | _::_,[],h,_=>nomatch h
  | (k,x)::vs,u::us,h,q=>by
    refine .cons ?_ (zis (Fp h) fun j v e=>q (j+1) v e);obtain⟨k',x',e,hk⟩:=q 0 u rfl;cases e;rcases keyIs_shape (show zmt k u=true from hk) with ⟨i,t,rfl,rfl⟩ | ⟨i,t,rfl,rfl⟩
    · exact⟨t,rfl⟩
    · exact⟨t,rfl⟩
theorem zfb {P:Nat->Value->Prop}{acc:Array Value}{n:Nat}(h:ItemsOf P acc n):acc.toList.length=n/\∀(j:Nat) (v:Value),acc.toList[j]?=some v->P j v :=
 ⟨by rw[Cs];exact h.1,fun j v e=>h.2 j v (by rw[<-Fv];exact e)⟩
theorem zub {kvs:List (Key × V)}{vs:List (Key × Value)}(r:KV kvs vs):(kvs.map fun p=>kV p.1)=vs.map fun p=>kV p.1:=by
 have:=congrArg (List.map kV) r.keys;rw[Dd,Dd] at this;exact this
noncomputable def zzy:List V->Hp->VK->Prop:=fun xs H Q=>∃(p:Addr) (kvs:List (Key × V)),xs=[.ref p]/\(H p=some (.dK kvs)\/(H p=some (.dT [])/\kvs=[]))/\∀l,H l=none->Q (.ref l) (upd H l (.lst (kvs.map fun p=>kV p.1)))
section
variable {X:Cx}
theorem call_listK (hc:X.calm=true){pins:List (Addr × Obj)}{s:Shared}{σ:St}{H:Hp}{Q:Value->Shared->Prop}{p:Addr}{kvs:List (Key × V)}(I:Inv X pins σ H s)(hp:H p=some (.dK kvs))(q:∀l s',H l=none->Inv X pins σ (upd H l (.lst (kvs.map fun p=>kV p.1))) s'->Q (.ref l) s'):wpAny (model X.prog X.w) X.A (call (.type "list") [.ref p]) Q X.xe s:=by
 obtain⟨z,hd,vs,rel,dd⟩:=zwb I.hok hp;obtain⟨ep,da⟩:=dd.dictAt;refine PySem.W.kdl_call (PySem.W.kdl_dict (knd:=zap X.prog X.w) (kvs:=vs) (ep:=ep) hd) (I.ok.hd hc) da (by rw[<-rel.length];exact z) fun h' tk acc c kp ga it=>?_;obtain⟨l1,l2⟩:=zfb it;have rv:=zis l1 l2;rw[<-zub rel] at rv;exact q _ _ (I.hok.fresh (Ag _)) (I.laid (t':=tk) (o:=.lst (kvs.map fun p=>kV p.1)) kp (Ag _) ⟨by rw[Aa];exact z,acc.toList,c,rv,by rw[Array.toArray_toList];exact ga⟩)
theorem zyb {H:Hp}{a b:Addr}{o u:HO}(ne:a≠b):upd (upd H a o) b u=upd (upd H b u) a o:=by
 funext c
 by_cases h:c=a
 ·subst h;rw[upd_ne ne,upd_same,upd_same]
 ·by_cases k : c = b
  ·subst k;rw[upd_same,upd_ne h,upd_same]
  ·rw[upd_ne k,upd_ne h,upd_ne h,upd_ne k]
theorem zqe (hc:X.calm=true):zcr X (.type "list") zzy:=by
 intro pins s σ H xs us Q I r h;obtain⟨p,kvs,rfl,hp,q⟩:=h;obtain⟨u,rfl,rx⟩:=vals1 r;cases rx;rcases hp with hp | ⟨hp,rfl⟩
 ·exact call_listK hc I hp fun l s' hl I'=>⟨.ref l,_,I',rfl,q l hl⟩
 ·refine call_listK hc (reK I hp) upd_same fun l s' hl I' => ?_;have ne:l≠p:=fun z=>by subst z;rw[upd_same] at hl;exact nomatch hl
  rw[upd_ne ne] at hl;have I2:=reT (a:=p) I' (by rw[upd_ne (Ne.symm ne),upd_same]);rw[zyb ne,zyj hp] at I2;exact⟨.ref l,_,I2,rfl,q l hl⟩
end
noncomputable def keyV:DKey->Option W
 | .inl (.inl i)=>some (.int i)
 | .inl (.inr s)=>some (.str s)
 | .inr _=>none
noncomputable def zij:List DKey->Option (List W)
 | []=>some []
 | k::ks=>(keyV k).bind fun w=>(zij ks).bind fun ws=>some (w::ws)
theorem ziy {K:PySem.W.Frag}{F:Hp}:∀{ks:List DKey}{ws:List W},zij ks=some ws->∃js:List Key,ks=js.map .inl/\Reps K F ws (js.map kV)
  | [],_,e=>by obtain rfl:=sI e;exact⟨[],rfl,.nil⟩
  | k::ks,_,e=>by
    obtain⟨w,h1,e⟩:=bS e;obtain⟨ws,h2,e⟩:=bS e;obtain rfl:=sI e;obtain⟨js,rfl,r⟩:=ziy h2
    match k,h1 with
    | .inl (.inl i),h1=>obtain rfl:=sI h1;exact⟨.inl i::js,rfl,.cons (.int i) r⟩
    | .inl (.inr s),h1=>obtain rfl:=sI h1;exact⟨.inr s::js,rfl,.cons (.str s) r⟩
    | .inr _,h1=>exact noSome h1
theorem zvn {as bs:List Key}(h:as.map (Sum.inl:Key->DKey)=bs.map .inl):as=bs:=List.map_inj_right (fun a b=>zim a b) |>.mp h
theorem zit:∀{js:List Key}{vs:List V},js.length=vs.length->((js.zip vs).map fun p=>kV p.1)=js.map kV
  | [],_,_=>rfl
  | _::_,[],h=>nomatch h
  | j::js,v::vs,h=>by
    rw[Cg,Ad,Ad,zit (Fp h)]
noncomputable def zc7:ON
 | [.dct ks _]=>(zij ks).bind fun ws=>#v[ws,2]
 | ws=>zsi ws
theorem DctR.dK {K:PySem.W.Frag}{F H:Hp}{a:Addr}{js:List Key}{ws:List W} (hj:js≠[]) (D:DctR K F H a (js.map .inl) ws):∃vs,H a=some (.dK (js.zip vs))/\js.length=vs.length:=by
  rcases D with ⟨js',vs,e,h,hl,_⟩ | ⟨js',vs,e,h,hl,_⟩
  · obtain rfl:=zvn e;exact⟨vs,h,hl⟩
  · cases js with
    | nil=>exact absurd rfl hj
    | cons j js=>cases js' with
      | nil=>exact nomatch e
      | cons j' js'=>rw[Ad,Ad] at e;exact nomatch (List.cons.inj e).1
theorem DctR.dK0 {K:PySem.W.Frag}{F H:Hp}{a:Addr}{js:List Key}{ws:List W} (D:DctR K F H a (js.map .inl) ws):∃kvs:List (Key × V),(H a=some (.dK kvs)\/(H a=some (.dT [])/\kvs=[]))/\(kvs.map fun p=>kV p.1)=js.map kV:=by
  rcases D with ⟨js',vs,e,h,hl,_⟩ | ⟨js',vs,e,h,hl,_⟩
  · obtain rfl:=zvn e;exact⟨_,.inl h,zit hl⟩
  · cases js with
    | nil =>
      cases js' with
      | nil=>exact⟨[],.inr ⟨h,rfl⟩,rfl⟩
      | cons j' js'=>exact nomatch e
    | cons j js=>cases js' with
      | nil=>exact nomatch e
      | cons j' js'=>rw[Ad,Ad] at e;exact nomatch (List.cons.inj e).1
theorem zuy {K:PySem.W.Frag}:OpSN K (fun xs H Q=>(∃p ys,xs=[.ref p]/\(SqL K H p ys\/SqT K H p ys)/\∀l,H l=none->Q (.ref l) (upd H l (.lst ys)))\/zzy xs H Q) zc7:=fun F H ws vs rv Q s r e q=>by
 unfold zc7 at e;split at e
 ·rename_i ks us;nofun;obtain⟨ws',h1,e⟩:=bS e;obtain⟨v,e1,h⟩:=r.one;obtain⟨js,rfl,rj⟩:=ziy (K:=K) (F:=F) h1;obtain⟨a,rfl,D⟩:=h.dct s;ac_rfl;rw[h1] at e;obtain rfl:=sI e;subst e1;obtain⟨kvs,ha,hk⟩:=D.dK0;exact .inr ⟨a,kvs,rfl,ha,fun l hl'=>by rw[hk];exact q _ _ (.lst hl' rj)⟩
 ·exact .inl (zn6 F H ws vs rv Q s r e q)
noncomputable def zzt:List V->Hp->VK->Prop:=fun xs H Q=>∃(l:Addr) (kvs:List (Key × V)) (ns:List Int),xs=[.ref l]/\H l=some (.dK kvs)/\(kvs.map fun p=>kV p.1)=ns.map V.int/\∀p,H p=none->Q (.ref p) (upd H p (.lst ((sortI ns).map V.int)))
theorem zeo {prog:Program}{w:World}{A:Around}{E:Value->Shared->Prop}{s:Shared}{Q:List Value->Shared->Prop}{d:Addr}{vs:List (Key × Value)}{ep:Nat} (hh:A.handled=none) (hd:(d == sysModules)=false) (da:s.heap.DictAt (zap prog w) d vs ep) (hz:vs.length<=sizeLine)
    (hQ:∀(h' : Heap) (tk:Nat) (acc:Array Value),(∀b o,s.heap.get? b=some o->h'.get? b=some o)->ItemsOf (fun i v=>∃k x,vs[i]?=some (k,x)/\(zap prog w).is k v=true) acc vs.length->Q acc.toList { s with heap:=h',toks:=tk }) :
    wpAny (model prog w) A (collect (.ref d)) Q E s:=by
  have lt:d < s.heap.objs.size:=da.lt_size;unfold collect;refine Ab (wpAny_runValue (codeAny_builtin PySem.F.entry_proto_collect ?_));rw [Around.under_plainId PySem.F.plain_proto_collect _];show wpAny _ A.in1 (newList [] >>= fun l=>again (.builtin "list.__iadd__" ⟨[l,.ref d],[]⟩)) _ _ s;refine Ab (Dp ?_);refine Av ⟨plainId_quiet PySem.F.plain_list_iadd _,codeAny_builtin PySem.F.entry_list_iadd ?_⟩;rw [Around.under_plainId PySem.F.plain_list_iadd _];show wpAny _ A.in1 (Builtin.List.listExtendWith (.ref s.heap.objs.size) (.ref d) (.ref s.heap.objs.size)) _ _ _;have hS:(s.heap.push { cls:=.type "list",data:=.seq ([]:List Value).toArray }).get? s.heap.objs.size=some { cls:=.type "list",data:=.seq #[] 0 }:=Ay _ rfl;refine Ei (PySem.W.kdl_extend (A:=A) (R:=fun res s'=>∃(h' : Heap) (tk:Nat) (acc:Array Value) (c' : Nat),res=.ok (.ret (.ref s.heap.objs.size))/\s'={ s with heap:=h',toks:=tk }/\(∀b o,s.heap.get? b=some o->h'.get? b=some o)/\h'.get? s.heap.objs.size=some { cls:=.type "list",dict:=none,data:=.seq acc c',slots:=#[] }/\ItemsOf (fun i v=>∃k x,vs[i]?=some (k,x)/\(zap prog w).is k v=true) acc vs.length)
    (s:={ s with heap:=s.heap.push { cls:=.type "list",data:=.seq ([]:List Value).toArray } }) (PySem.W.kdl_dict (knd:=zap prog w) (kvs:=vs) (ep:=ep) hd) hh (da.push _) s.heap.objs.size (Nat.ne_of_gt lt) (Nat.ne_of_gt lt) (.ref s.heap.objs.size) 0 hS (fun h' tk acc c' hk hS' hacc=>⟨h',tk,acc,c',rfl,rfl,fun b o e=>hk b o (Bi (Ar e)) (Ae _ e),hS',hacc⟩) hz) (fun fin s' h=>?_) (fun e s' h=>?_)
  · have fin' : ∀s',(∃(h' : Heap) (tk:Nat) (acc:Array Value) (c' : Nat),s'={ s with heap:=h',toks:=tk }/\(∀b o,s.heap.get? b=some o->h'.get? b=some o)/\h'.get? s.heap.objs.size=some { cls:=.type "list",dict:=none,data:=.seq acc c',slots:=#[] }/\ItemsOf (fun i v=>∃k x,vs[i]?=some (k,x)/\(zap prog w).is k v=true) acc vs.length)->wpAny (model prog w) A (match Value.ref s.heap.objs.size with
      | Value.ref a=>do
        match (<- load a).data with
          | Data.seq xs _=>pure xs.toList
          | _=>unsupported "internal:collect"
      | _=>unsupported "internal:collect") Q E s':=by
      rintro s' ⟨h',tk,acc,c',rfl,k1,k2,k3⟩;show wpAny _ A (load s.heap.objs.size >>= _) _ _ _;refine Ab (wpAny_load k2 ?_);exact Av (hQ h' tk acc k1 k3)
    cases fin with
    | done f =>
      obtain⟨h',tk,acc,c',e,r⟩:=h;cases e;exact fin' s' ⟨h',tk,acc,c',r⟩
    | again c'=>exact⟨h.1,codeAny_mono h.2 fun r s'' hr=>by obtain⟨h',tk,acc,c',rfl,q⟩:=hr;exact fin' s'' ⟨h',tk,acc,c',q⟩⟩
  · obtain ⟨h', tk, acc, c', e, r⟩ := h
    cases e
section
variable {X:Cx}
theorem zqh (hc:X.calm=true):zcr X (.builtin "sorted") zzt:=by
 intro pins s σ H xs us Q I r h;obtain⟨d,kvs,ns,rfl,hp,ek,q⟩:=h;obtain⟨u,rfl,rx⟩:=vals1 r;cases rx;obtain⟨z,hd,kv,rel,dd⟩:=zwb I.hok hp;obtain⟨ep,da⟩:=dd.dictAt;have zk:kv.length<=sizeLine:=by rw[<-rel.length];exact z
 refine call_function_entry_kw kind_sorted plain_sorted entry_sorted (args_sorted1 _) ?_;unfold Builtin.«sorted»;refine Ab (m:=checkCount "sorted" 1 1 _) (Av ?_);refine Ab (zeo (I.ok.hd hc) hd da zk fun h1 tk acc kp1 it=>?_);obtain⟨l1,l2⟩:=zfb it;have rv:=zis l1 l2;rw[<-zub rel,ek] at rv;generalize acc.toList=vs at l1 rv ⊢;have lv:ns.length=vs.length:=by have:=rv.length;rw[Aa] at this;exact this
 have hz' : vs.length<=sizeLine:=by rw[l1];exact zk
 have ia:IntsAre vs ns:=zfv rv;have I1:Inv X pins σ H { s with heap:=h1,toks:=tk }:=I.kept kp1;refine Ab (wpAny_newList ?_ hz');have hoL:(h1.push (seqObj "list" vs.toArray 0)).get? h1.objs.size=some (seqObj "list" vs.toArray 0):=Ay _ rfl;have keep:∀b o,h1.get? b=some o->(h1.push (seqObj "list" vs.toArray 0)).get? b=some o:=fun b o q=>Ae _ q;show wpAny _ _ _ _ _ { s with heap:=h1.push (seqObj "list" vs.toArray 0),toks:=tk };generalize h1.push (seqObj "list" vs.toArray 0)=h3 at hoL keep ⊢;obtain⟨a,ea⟩ : ∃a,a=h1.objs.size:=⟨_,rfl⟩;show wpAny _ _ (holding [.ref h1.objs.size] _ >>= _) _ _ _;rw[<-ea] at hoL ⊢;refine Ab (Ej (wpAny_call_entry_kw slot_list_sort ⟨_,hoL,rfl⟩ entry_list_sort ?body (args_list_sort _)))
 case body =>
  refine zke (s:={ s with heap:=h3,toks:=tk }) hoL ia hz' fun r h' c pm pw ga kp=>⟨_,rfl,?_⟩;have al:∀x∈r,x.2=x.1/\∃n t,x.1=Value.int n t:=fun x hx=>by
   obtain⟨e1,e2⟩:=zfp (pm.mem_iff.mp hx);obtain⟨i,hi,e⟩:=Dh.mp e2;obtain⟨t,ht⟩:=ia.get i ns[i] (Ac #v[]);rw[Ac hi,e] at ht;exact⟨e1,_,t,sI ht⟩
  have pi:(r.map fun x=>(kN x.1).headD 0).Perm ns:=by
   refine (pm.map _).trans ?_;have:∀{vs:List Value}{ns:List Int},IntsAre vs ns->(vs.zip vs).map (fun x=>(kN x.1).headD 0)=ns:=fun {vs ns} h=>by
    induction h with
    | nil=>rfl
    | cons n t h ih=>rw[Cg,Ad,ih];rfl
   rw[this ia]
  have ps:(r.map fun x=>(kN x.1).headD 0).Pairwise (·<=·):=by
   rw[Ck];refine pw.imp_of_mem fun {x y} hx hy z=>?_;obtain⟨_,n,t,e1⟩:=al x hx;obtain⟨_,m,t',e2⟩:=al y hy;rw[e1,e2] at z ⊢;have z:lexI [m] [n]=false:=z;rw[zib] at z;have:=Gb z;show n<=m;omega
  have eo:=zdn pi ps;have rv':=zf7 al;rw[<-eo] at rv';refine Av ⟨_,rfl,.ref a,_,I1.laid (t':=tk) (o:=.lst ((sortI ns).map V.int)) (fun b o eb=>kp b o (fun z=>Cf _ (by have:=Ar eb;rw[z,ea] at this;exact this)) (keep b o eb)) (Nat.le_of_eq ea.symm) ?_,rfl,q a (I1.hok.fresh (Nat.le_of_eq ea.symm))⟩;exact⟨by rw[eo,Aa,pi.length_eq];omega,_,c,rv',ga⟩
end
noncomputable def zj0:ON
 | [.dct ks _]=>(zij ks).bind fun ws=>(za1 ws).bind fun ns=>if ks.isEmpty then none else #v[((sortI ns).map W.int),2]
 | ws=>zbk ws
theorem zvc {K:PySem.W.Frag}:OpSN K (fun xs H Q=>(∃(l:Addr) (ns:List Int),xs=[.ref l]/\SqL K H l (ns.map V.int)/\∀p,H p=none->Q (.ref p) (upd H p (.lst ((sortI ns).map V.int))))\/zzt xs H Q) zj0:=fun F H ws vs rv Q s r e q=>by
 unfold zj0 at e;split at e
 ·rename_i ks us;nofun;obtain⟨ws',h1,e⟩:=bS e;obtain⟨ns,h2,e⟩:=bS e;obtain⟨v,e1,h⟩:=r.one;obtain⟨js,rfl,rj⟩:=ziy (K:=K) (F:=F) h1;obtain⟨a,rfl,D⟩:=h.dct s;ac_rfl;split at e
  ·exact noSome e
  ·rename_i hne;obtain rfl:=sI e;subst e1;obtain⟨vs,ha,hl⟩:=D.dK (fun z=>hne (by rw[z];rfl));rw[zcm h2] at rj;exact .inr ⟨a,_,ns,rfl,ha,by rw[zit hl,rj.ints],fun l hl'=>q _ _ (.lst hl' (reps_ints _))⟩
 ·exact .inl (zh9 F H ws vs rv Q s r e q)
noncomputable def dOn (S:Sx) (x:Str):Bool:=S.bn.contains (("d " : Str)++x)
noncomputable def zzw (S:Sx):Expr->Bool
 | .Name x _=>dOn S x
 | _=>false
section
variable {X:Cx}{S:Sx}{d:Nat}{fE:Sx->Expr->Option GE}
theorem z86 (C:CxOk X S d):X.A.units+1 < cLine:=by have:=C.sl;omega
noncomputable def zmx (fE:Sx->Expr->Option GE) (S:Sx):Expr->Option GE
 | .Dict ks vs _=>if S.bn.contains ("dict" : Str) && ks.isEmpty && vs.isEmpty then some zxi else none
 | _=>none
theorem zq3 (HE:zcb fE)(C:CxOk X S d):zjz (zmx fE S) X:=fun e g h=>by
 unfold zmx at h;split at h
 ·split at h
  ·rename_i ks vs _ z;rw[Ai,Ai] at z;obtain rfl:=sI h;have e1:ks=[]:=List.isEmpty_iff.mp z.1.2;have e2:vs=[]:=List.isEmpty_iff.mp z.2;subst e1 e2;exact zx3.wk fun _ _ _=>zsp
  ·exact noSome h
 ·exact noSome h
noncomputable def zte (fE:Sx->Expr->Option GE) (S:Sx):Expr->Option GE
 | .Subscript a s _=>if zzw S a && zcd s then (za5 fE S a).bind fun x=>(za5 fE S s).bind fun y=>some (gOp2 oIxD x y) else none
 | _=>none
theorem zt0 (HE:zcb fE)(C:CxOk X S d):zjz (zte fE S) X:=fun e g h=>by
 unfold zte at h;split at h
 ·split at h
  ·rename_i z;rw[Ai] at z;obtain⟨x,hx,h⟩:=bS h;obtain⟨y,hy,h⟩:=bS h;obtain rfl:=sI h;exact (z47 ((zul.or zzq).or (z20 (z86 C))) (zag HE C hx) (zag HE C hy) (zh5 z.2)).wk fun _ _ _=>zeh z08
  ·exact noSome h
 ·exact noSome h
noncomputable def ztr (fE:Sx->Expr->Option GE) (S:Sx):Expr->Option GE
 | .Call (.Name x _) [e] [] _=>if zzw S e && S.bl x && zar e then (if x == ("list" : Str) then (asL (za5 fE S) [e]).bind fun as=>some (gOpN zc7 as) else if x == ("sorted" : Str) then (asL (za5 fE S) [e]).bind fun as=>some (gOpN zj0 as) else none) else none
 | _=>none
theorem zvx (HE:zcb fE)(C:CxOk X S d):zjz (ztr fE S) X:=fun e g h=>by
 unfold ztr at h;split at h
 ·split at h
  ·rename_i z;rw[Ai,Ai] at z;obtain⟨gl,m⟩:=zg7 C z.1.2;split at h
   ·rename_i z1;have e1:=Bw z1;subst e1;obtain⟨as,has,h⟩:=bS h;obtain rfl:=sI h;obtain⟨pa,_⟩:=zg2 (fun e a ha=>zag HE C ha) has;exact (zea (zff.or (zqe C.calm)) gl m zmw pa #v[0,9] #v[0,9] (zak z.2) rfl).wk fun _ _ _=>zi9 zuy
   ·split at h
    ·rename_i z1;have e1:=Bw z1;subst e1;obtain⟨as,has,h⟩:=bS h;obtain rfl:=sI h;obtain⟨pa,_⟩:=zg2 (fun e a ha=>zag HE C ha) has;exact (zbv (zh6.or (zqh C.calm)) gl m (show bootBuiltins "sorted" = some (.builtin "sorted") from Go) pa #v[0,9] #v[0,9] (zak z.2) rfl).wk fun _ _ _=>zi9 zvc
    ·exact noSome h
  ·exact noSome h
 ·exact noSome h
end
theorem zrc {h:Heap}{vs:List Value}{out:Array Value}:∀b o,h.get? b=some o->(sortedAll h vs out).get? b=some o:=fun b o e=>sortedAll_old e
noncomputable def zhx (a:GA):GE:=fun en=>(a en).bind fun p=>(resA p.1 p.2).bind fun w=>(seqL w).bind fun ws=>(za1 ws).bind fun ns=>if ns.length < 64 then some (p.1,(.lst ((sortI ns).reverse.map W.int),true)) else none
theorem zze {a:GA}{en e1:En}{ns:List Int}(h:a en=some (e1,.inl (.lst (ns.map W.int))))(hn:ns.length < 64):zhx a en=some (e1,(.lst ((sortI ns).reverse.map W.int),true)):=by
 unfold zhx;rw[h];simp only [Ci,resA,seqL,zaw,if_pos hn]
section
variable {X:Cx}{S:Sx}{d:Nat}{fE:Sx->Expr->Option GE}
theorem zx1 (HE:zcb fE) (C:CxOk X S d) {e:Expr}{a:GA}{kpos px pos cp:Pos}{ck:Nat} (ha:za5 fE S e=some a) (hns:zar e=true) (hbl:S.bl "sorted" = true) :
    PE X (.Call (.Name "sorted" px) [e] [⟨some "reverse",.Constant (.bool true) ck cp,kpos⟩] pos) (tE X.K (zhx a)):=by
  intro pins s σ H Q I h;nofun;obtain⟨F,pr,en,en',r,R,hg,q⟩:=h;obtain⟨⟨e1,x⟩,h1,hg⟩:=bS hg;obtain⟨w,hw,hg⟩:=bS hg;obtain⟨ws,hws,hg⟩:=bS hg;obtain⟨ns,hi,hg⟩:=bS hg;ac_rfl;split at hg
  · rename_i hn
    obtain rfl:=(Prod.mk.inj (sI hg)).1;obtain rfl:=(Prod.mk.inj (sI hg)).2;obtain⟨gl,mn⟩:=zg7 C hbl;have hst:starEach [e] X.env=(false,eval e X.env)::starEach [] X.env:=zak hns;refine Gr (ze8 I gl mn (show bootBuiltins "sorted" = some (.builtin "sorted") from Go) ?_);refine PyProof.Rows.callWith_kw ?_ (by rw[hst];rfl) (by rw[hst];rfl);refine thn (zu7 (zag HE C ha) zfc hst pos pins s σ H (fun vs H1=>∃v F1,vs=[v]/\Same F F1/\Rel X.K F1 pr e1 σ H1/\ArgR X.K F1 σ x v) I ⟨F,pr,en,e1,x,R,h1,fun F1 H1 v s1 R1 a1=>⟨v,F1,rfl,s1,R1,a1⟩⟩) fun us s1 ⟨vs,H1,I1,rv,v,F1,ev,sm1,R1,a1⟩=>?_;subst ev;cases rv with
    | cons ru rv =>
      cases rv;refine PyProof.Rows.kws_cons (thn (z44 (X:=X) (b:=true) pins s1 σ H1 (fun dv H2=>dv=.bl true/\H2=H1) I1 ⟨rfl,rfl⟩) fun ud s2 ⟨dv,H2,I2,rd,ed',eh⟩=>PyProof.Rows.kws_nil ?_);subst ed' eh;obtain rfl:=(show ud=Value.bool true from rd);have rb:=a1.repB R1 hw;refine aG fun _ qG=>?_;obtain ⟨l,vvs,ev,sq,rps⟩:=rb.seqL R1.sub hws;refine qG ?_;clear qG;subst ev;cases (show _=Value.ref l from ru);rw [zcm hi] at rps;rw [rps.ints] at sq;obtain ⟨its,rvs,pl,hz⟩:=I2.list sq;have ia:IntsAre its ns:=zfv rvs;have il:=ia.length;refine sorted_ints_rev pl.isList ia (by omega) fun out ns' a1 a2 a3=>?_;have eo:(sortI ns).reverse=ns':=by
        have:sortI ns=ns'.reverse:=zdn ((List.reverse_perm _).trans a2) (by rw[List.pairwise_reverse];exact a3);rw[this,List.reverse_reverse]
      obtain ⟨c,gc⟩:=sortedAll_at s2.heap its out;have rvo:Vals (((sortI ns).reverse).map V.int) out.toList:=by
        rw[eo];clear eo a2 a3 gc;generalize out.toList=l at a1
        induction a1 with
        | nil=>exact .nil
        | cons n t _ ih=>exact .cons ⟨t,rfl⟩ ih
      refine⟨.ref _,_,I2.laid (t':=s2.toks) (o:=.lst ((sortI ns).reverse.map V.int)) zrc (Nat.le_succ _) ⟨?_,out.toList,c,rvo,by rw[Array.toArray_toList];exact gc⟩,rfl,?_⟩
      · rw[eo,Aa,a2.length_eq,Dg];omega
      · obtain ⟨F9, s9, R9, y9⟩ := (Out.lst (K := X.K) (F := F1) (H := H2) (p := s2.heap.objs.size + 1) (I2.hok.fresh (Nat.le_succ _)) (reps_ints ((sortI ns).reverse))).close R1
        exact q F9 _ _ (sm1.trans s9) R9 y9
  · exact noSome hg
noncomputable def zjo (fE:Sx->Expr->Option GE) (S:Sx):Expr->Option GE
 | .Call (.Name x _) [e] [⟨some key,.Constant (.bool true) _ _,_⟩] _=>if x == ("sorted" : Str) && key == ("reverse" : Str) && S.bl x && zar e then (za5 fE S e).bind fun a=>some (zhx a) else none
 | _=>none
theorem zm2 (HE:zcb fE)(C:CxOk X S d):zjz (zjo fE S) X:=fun e g h=>by
 unfold zjo at h;split at h
 ·split at h
  ·rename_i z;simp only [Ai] at z;obtain⟨⟨⟨z1,z2⟩,z3⟩,z4⟩:=z;have e1:=Bw z1;have e2:=Bw z2;subst e1 e2;obtain⟨a,ha,h⟩:=bS h;obtain rfl:=sI h;exact zx1 HE C ha z4 z3
  ·exact noSome h
 ·exact noSome h
end
section
open PySem.AutoSeq1 (wpAny_loadPart')
end
section
variable {X:Cx}{S:Sx}{d:Nat}{fE:Sx->Expr->Option GE}
end
section
open PySem.AutoSeq1 (wpAny_loadPart')
variable {prog:Program}{w:World}{A:Around}{E:Value->Shared->Prop}{s:Shared}
end
noncomputable def z2y (as:GAs):GE:=fun en=>(as en).bind fun p=>match za2 p.1 p.2 with
 | some [.int j]=>if lrOk j then some (p.1,(.tup (rngW 0 j.toNat),false)) else none
 | _=>none
theorem z22 {as:GAs}{en e1:En}{xs:List (W ⊕ Nat)}{j:Int}(h:as en=some (e1,xs))(r:za2 e1 xs=some [.int j])(q:lrOk j=true):z2y as en=some (e1,(.tup (rngW 0 j.toNat),false)):=by
 unfold z2y;rw[h];show (match za2 e1 xs with
  | some [.int j]=>if lrOk j then some (e1,(W.tup (rngW 0 j.toNat),false)) else none
  | _=>none)=_
 rw[r];show (if lrOk j then some (e1,(W.tup (rngW 0 j.toNat),false)) else none)=_;rw[q];rfl
section
variable {X:Cx}{S:Sx}{d:Nat}{fE:Sx->Expr->Option GE}
end
section
variable {prog:Program}{w:World}{A:Around}{E:Value->Shared->Prop}{s:Shared}
open HT in
end
section
variable {X:Cx}{S:Sx}{d:Nat}{fE:Sx->Expr->Option GE}
noncomputable def z7q (w:W):Option (W × Bool):=match w with
 | .lst ws=>#v[ws.reverse,2]
 | .tup ws=>#v[ws.reverse,3]
 | _=>none
noncomputable def z4g (a:GA) (k:GO):GE:=fun en=>(a en).bind fun p=>(k p.1).bind fun l=>if l.2=some (-1) then (resA l.1 p.2).bind fun w=>(z7q w).bind fun r=>some (l.1,r) else none
theorem z19 {a:GA}{k:GO}{en e1 e2:En}{x:W ⊕ Nat}{w:W}{r:W × Bool}(h1:a en=some (e1,x))(h2:k e1=some (e2,some (-1)))(h3:resA e2 x=some w)(h4:z7q w=some r):z4g a k en=some (e2,r):=by
 simp only [z4g,h1,h2,h3,h4,Option.bind,Fa]
noncomputable def orX (a b:Option GE):Option GE:=match a with
 | some g=>some g
 | none=>b
theorem zn4 {x y:Expr->Option GE}(hx:zjz x X)(hy:zjz y X):zjz (fun e=>orX (x e) (y e)) X:=fun e g h=>by
 have h:orX (x e) (y e)=some g:=h;unfold orX at h;split at h
 ·rename_i g' q;obtain rfl:=sI h;exact hx e g' q
 ·exact hy e g h
noncomputable def extE (fE:Sx->Expr->Option GE) (S:Sx) (e:Expr):Option GE:=orX (zmx fE S e) (orX (zte fE S e) (orX (ztr fE S e) (zjo fE S e)))
theorem z1d (HE:zcb fE)(C:CxOk X S d):zjz (extE fE S) X:=zn4 (zq3 HE C) (zn4 (zt0 HE C) (zn4 (zvx HE C) (zm2 HE C)))
end
noncomputable def ncOf (scope:Scope):List Str:=(scope.names.filter fun p=>p.2 == .free || p.2 == .local || p.2 == .cell).map (·.1)
noncomputable def capC (S:Sx) (scope:Scope):Cap:=(ncOf scope).map fun x=>if scope.names.lookup x == some .free then S.N.findIdx? (· == x) else none
noncomputable def inS (S:Sx) (scope:Scope):Sx:={ N:=ncOf scope,kd:=scope.names,bn:=S.bn,fs:=S.fs,mp:=capKeep (capC S scope),top:=false }
noncomputable def zl6 (S:Sx) (scope:Scope):Bool:=decide (scope.kind=.function) && zhh (capC S scope) (ncOf scope) S.N scope && (scope.names.all fun p=>!(p.2 == .free) || S.kd.lookup p.1 == some .cell || S.kd.lookup p.1 == some .free) &&
 zfd scope && (scope.names.all fun p=>!(p.2 == NameKind.local) || decide (scope.names.lookup p.1=some .local)) && decide (ncOf scope).Nodup
noncomputable def zz9 (fT:Sx->Expr->Option GT) (S:Sx):List Expr->Option GT
 | []=>some gYes
 | [c]=>fT S c
 | _=>none
noncomputable def zrj (fE:Sx->Expr->Option GE) (fT:Sx->Expr->Option GT) (S:Sx) (elt:Expr) (gens:List Comprehension) (scope:Scope):Option GE:=match gens with
 | [c]=>if zl6 S scope && decide (c.is_async=0) then (zto fE S c.target c.iter).bind fun gi=>(tgE (inS S scope) c.target).bind fun T=>(zz9 fT (inS S scope) c.ifs).bind fun tc=>(fE (inS S scope) elt).bind fun te=>some (zbf (capC S scope) T gi tc te) else none
 | _=>none
structure ScOk (X:Cx) (S:Sx) (scope:Scope):Prop where
 kind:scope.kind=.function
 cap:zhh (capC S scope) (ncOf scope) X.N scope=true
 fr:zgc scope X.env.scope=true
 nc:zfd scope=true
 nm:(scope.names.all fun p=>!(p.2 == NameKind.local) || decide (scope.names.lookup p.1=some .local))=true
 nd:(ncOf scope).Nodup
section
variable {X:Cx}{S:Sx}{d:Nat}
theorem zxk (C:CxOk X S d){scope:Scope}(h:zl6 S scope=true):ScOk X S scope:=by
 unfold zl6 at h;simp only [Ai] at h;obtain⟨⟨⟨⟨⟨h1,h2⟩,h3⟩,h4⟩,h5⟩,h6⟩:=h;refine⟨As h1,by rw[C.N];exact h2,?_,h4,h5,As h6⟩;unfold zgc;refine Bg.mpr fun p hp=>?_;have q:=Bg.mp h3 p hp;simp only [Cn,Bool.not_eq_true',Dk,Fw,Dc] at q ⊢;rcases q with (q | q) | q
 ·exact .inl (.inl q)
 ·rcases C.vis p.1 (.inl q) with z | z
  ·exact .inl (.inr z)
  ·exact .inr z
 ·rcases C.vis p.1 (.inr q) with z | z
  ·exact .inl (.inr z)
  ·exact .inr z
theorem z1y (C:CxOk X S d){scope:Scope}(h:ScOk X S scope)(cl:List (Str × Addr))(L:Addr)(s3:Shared)(H3:Hp)(fp:List Addr):CxOk (zbe X (ncOf scope) scope cl L s3 H3 fp) (inS S scope) d where
 N:=rfl
 nd:=h.nd
 loc:=fun x e=>zba (env:=X.env) #v[0,9] e
 cel:=fun x e=>⟨zba (env:=X.env) #v[0,9] e,Ah e⟩
 vis:=fun x e=>by
  rcases e with e | e
  ·exact .inl (zba (env:=X.env) #v[0,9] e)
  ·exact za3 (env:=X.env) e
 gl:=fun x e=>zba (env:=X.env) #v[0,9] e
 calm:=C.calm
 xe:=rfl
 bn:=C.bn
 fs:=C.fs
 room:=C.room
 sl:=C.sl
 lam:=fun h=>absurd (show ("" : Str)∈lams from h) #v[0,0,7]
 dpo:=Cb _
 bk:=by
  show (if scope.kind.isAnnotationScope then ScopeKind.function else scope.kind)=.function;rw[h.kind];rfl
end
theorem zwl {K:PySem.W.Frag}{σ:St}{H:Hp}{Q:Bool->Hp->Prop}(h:tT K gYes σ H Q):z0p σ H Q:=by
 obtain⟨F,pr,en,en',b,R,h,q⟩:=h;cases h;exact q F H (.refl F) R
structure CompP (X:Cx) (S:Sx) (elt:Expr) (gens:List Comprehension) (scope:Scope) (g:GE):Prop where
 ex:∃tg iter ifs gs gi T tc,∃(em:Pos->Value->Env->Sem Unit) (tm:Addr->TM),gens=⟨tg,iter,ifs,0⟩ :: gs/\(∀pos it acc env,compTurn (.ListComp elt gens scope pos) 0 it acc env=zrd (.ListComp elt gens scope pos) 0 tg iter ifs (em pos acc env) it acc env)/\ScOk X S scope/\PI X tg iter (tI X.K gi)/\(∀x,foldedSetIterable iter X.env x=pure x) /\
  (∀cl C s3 H3 fp,PG (zbe X (ncOf scope) scope cl C s3 H3 fp) tg (TGof X.K T))/\(∀cl C s3 H3 fp,PTs (zbe X (ncOf scope) scope cl C s3 H3 fp) ifs (tT X.K tc))/\(∀pos cl C s3 H3 fp acc,PM (zbe X (ncOf scope) scope cl C s3 H3 fp) (em pos (.ref acc) (zbe X (ncOf scope) scope cl C s3 H3 fp).env) (tm acc)) /\
  ∀σ H Q,tE X.K g σ H Q->zsf (tI X.K gi) (capC S scope) (TGof X.K T) (tT X.K tc) tm σ H Q
section
variable {X:Cx}{S:Sx}{d:Nat}{fE:Sx->Expr->Option GE}{fT:Sx->Expr->Option GT}
theorem PTs.wk {ifs:List Expr}{t t' : TT}(h:PTs X ifs t)(i:∀σ H Q,t' σ H Q->t σ H Q):PTs X ifs t':=fun pins s σ H Q I q=>h pins s σ H Q I (i σ H Q q)
theorem zyx (HT:zkt fT)(C:CxOk X S d):∀{ifs:List Expr}{tc:GT},zz9 fT S ifs=some tc->PTs X ifs (tT X.K tc)
 | [],_,h=>by obtain rfl:=sI h;exact z1o.wk fun _ _ _=>zwl
 | [_],_,h=>z3r (HT _ _ d C _ _ h)
 | _::_::_,_,h=>noSome h
theorem zfw (HE:zcb fE)(HT:zkt fT)(C:CxOk X S d){elt:Expr}{gens:List Comprehension}{scope:Scope}{g:GE}(h:zrj fE fT S elt gens scope=some g):CompP X S elt gens scope g:=by
 unfold zrj at h;split at h
 ·rename_i c;obtain⟨tg,iter,ifs,as⟩:=c;split at h
  ·rename_i z;rw[Ai] at z;have ha:as=0:=As z.2;subst ha;obtain⟨gi,hi,h⟩:=bS h;obtain⟨T,hT,h⟩:=bS h;obtain⟨tc,htc,h⟩:=bS h;obtain⟨te,hte,h⟩:=bS h;obtain rfl:=sI h;have so:=zxk C z.1;obtain⟨pi,pf⟩:=zn0 HE C hi;exact⟨tg,iter,ifs,[],gi,T,tc,fun _=>z3u elt,fun acc=>zy2 acc (tE X.K te),rfl,fun _ _ _ _=>rfl,so,pi,pf,fun cl L s3 H3 fp=>z0j (z1y C so cl L s3 H3 fp) hT,fun cl L s3 H3 fp=>zyx HT (z1y C so cl L s3 H3 fp) htc,fun _ cl L s3 H3 fp acc=>z84 (HE _ _ d (z1y C so cl L s3 H3 fp) _ _ hte),fun _ _ _=>zvb⟩
  ·exact noSome h
 ·exact noSome h
theorem zru (C:CxOk X S d){elt:Expr}{gens:List Comprehension}{scope:Scope}{g:GE}{pos:Pos}(h:CompP X S elt gens scope g):PE X (.ListComp elt gens scope pos) (tE X.K g):=by
 nofun;obtain⟨tg,iter,ifs,gs,gi,T,tc,em,tm,e1,e2,so,pi,pf,pg,pt,pe,rd⟩:=h.ex;ac_rfl;subst e1;exact (z2p pi pg pt (pe pos) (e2 pos) C.calm so.kind so.cap so.fr so.nc so.nm pf).wk rd
noncomputable def z2h (fE:Sx->Expr->Option GE) (S:Sx):Option Expr->Option GO
 | none=>some zci
 | some e=>(fE S e).bind fun g=>some (zga g)
noncomputable def zw0 (fE:Sx->Expr->Option GE) (fT:Sx->Expr->Option GT) (S:Sx) (e:Expr):Option GE:=match e with
  | .Name x _=>(S.rd x).bind fun i=>some (gVar i)
  | .Constant c _ _=>(match c with
    | .int i=>some (gC (.int i))
    | .bool b=>some (gC (.bl b))
    | .none=>some (gC .non)
    | .str x=>some (gC (.str x))
    | _=>none)
  | .BinOp a op b _=>(za5 fE S a).bind fun x=>(za5 fE S b).bind fun y=>(binO op).bind fun o=>some (gOp2 o x y)
  | .UnaryOp op a _=>(match op with
    | .USub=>(za5 fE S a).bind fun x=>some (gOp1 oNeg x)
    | .Not=>(fE S a).bind fun g=>some (gNot g)
    | _=>none)
  | .BoolOp op vs _=>(match vs with
    | v::vs=>z1r (fE S) op v vs
    | []=>none)
  | .Compare a ops cs _=>cmpE fE S a ops cs
  | .Subscript a s _=>(match s with
    | .Slice lo hi st _=>(match st with
      | none=>(za5 fE S a).bind fun x=>(z2h fE S lo).bind fun l=>(z2h fE S hi).bind fun h=>some (gSl x l h)
      | some _=>none)
    | s=>if zcd s then (za5 fE S a).bind fun x=>(za5 fE S s).bind fun y=>some (gOp2 oIx x y) else none)
  | .List es _=>(asL (fun e=>(fE S e).bind fun g=>some (gArg g)) es).bind fun as=>some (zas as)
  | .Tuple es _ _=>(asL (fun e=>(fE S e).bind fun g=>some (gArg g)) es).bind fun as=>some (zg3 as)
  | .Call fu args kws pos=>(match kws with
    | []=>(match fu with
      | .Name x _=>z3i fE S x args
      | .Attribute o m ap=>z01 fE S o m ap args pos
      | _=>none)
    | _=>none)
  | .ListComp elt gens scope _=>zrj fE fT S elt gens scope
  | _=>none
noncomputable def z14 (fE:Sx->Expr->Option GE) (fT:Sx->Expr->Option GT) (S:Sx) (e:Expr):Option GT:=match e with
  | .BoolOp op vs _=>(match vs with
    | v::vs=>z1x (fT S) op v vs
    | []=>none)
  | .Compare a ops cs _=>(cmpE fE S a ops cs).bind fun g=>some (zai g)
  | .UnaryOp op a p=>(match op with
    | .Not=>(fT S a).bind fun g=>some (zg8 g)
    | op=>if zoo (.UnaryOp op a p) then (fE S (.UnaryOp op a p)).bind fun g=>some (zai g) else none)
  | e=>if zoo e then (fE S e).bind fun g=>some (zai g) else none
theorem zoi (HE:zcb fE) (C:CxOk X S d) {o:Option Expr}{g:GO} (h:z2h fE S o=some g):PO X o (tO X.K g):=by
  cases o with
  | none=>obtain rfl:=sI h;exact fun pins s σ H Q I q=>z0z pins s σ H Q I (zl7 q)
  | some e =>
    obtain⟨ge,hg,h⟩:=bS h;obtain rfl:=sI h;exact fun pins s σ H Q I q=>z3g (HE X S d C _ _ hg) pins s σ H Q I (zrt q)
theorem zwt (HE:zcb fE) (HT:zkt fT):zcb (zw0 fE fT):=fun X S d C e g h=>by
  have HA:∀e a,((fE S e).bind fun g=>some (gArg g))=some a->PE X e (tA X.K a):=fun e a h=>by
    obtain⟨ge,hg,h⟩:=bS h;obtain rfl:=sI h;exact (HE X S d C _ _ hg).wk fun _ _ _=>zi6
  cases e with
  | Name x p =>
    obtain⟨i,hi,h⟩:=bS (show (S.rd x).bind _=_ from h);obtain rfl:=sI h;exact (zqy C hi).wk fun _ _ _=>zw5
  | Constant c k p =>
    cases c with
    | int i=>obtain rfl:=sI h;exact z60.wk fun _ _ _=>zds fun _=>.int i
    | bool b=>obtain rfl:=sI h;exact z44.wk fun _ _ _=>zds fun _=>.bl b
    | none=>obtain rfl:=sI h;exact z83.wk fun _ _ _=>zds fun _=>.non
    | str x=>obtain rfl:=sI h;exact z73.wk fun _ _ _=>zds fun _=>.str x
    | _=>exact noSome h
  | BinOp a op b p =>
    obtain⟨x,hx,h⟩:=bS (show (za5 fE S a).bind _=_ from h);obtain⟨y,hy,h⟩:=bS h;obtain⟨o,ho,h⟩:=bS h;obtain rfl:=sI h;obtain⟨r,h1,h2⟩:=z21 (X:=X) ho;exact (yax h1 (zag HE C hx) (zag HE C hy)).wk fun _ _ _=>zeh h2
  | UnaryOp op a p =>
    cases op with
    | USub =>
      obtain⟨x,hx,h⟩:=bS (show (za5 fE S a).bind _=_ from h);obtain rfl:=sI h;exact (yab z8e (zag HE C hx)).wk fun _ _ _=>zwm z35
    | Not =>
      obtain⟨x,hx,h⟩:=bS (show (fE S a).bind _=_ from h);obtain rfl:=sI h;exact (z72 (HE X S d C _ _ hx)).wk fun _ _ _=>zwi
    | _=>exact noSome h
  | BoolOp op vs p =>
    cases vs with
    | nil=>exact noSome h
    | cons v vs=>exact zot (fun e g=>HE X S d C e g) h
  | Compare a ops cs p=>exact (zt8 HE C h).1
  | Subscript a s p =>
    have ix:∀s,(if zcd s then (za5 fE S a).bind fun x=>(za5 fE S s).bind fun y=>some (gOp2 oIx x y) else none)=some g->PE X (.Subscript a s p) (tE X.K g):=fun s h=>by
      split at h
      · rename_i z
        obtain⟨x,hx,h⟩:=bS h;obtain⟨y,hy,h⟩:=bS h;obtain rfl:=sI h;exact (z47 (zul.or zzq) (zag HE C hx) (zag HE C hy) (zh5 z)).wk fun _ _ _=>zeh z0g
      · exact noSome h
    cases s with
    | Slice lo hi st p2 =>
      cases st with
      | some _=>exact noSome h
      | none =>
        obtain⟨x,hx,h⟩:=bS (show (za5 fE S a).bind _=_ from h);obtain⟨l,hl,h⟩:=bS h;obtain⟨u,hu,h⟩:=bS h;obtain rfl:=sI h;exact (zyh ((z3c.or z50).or z3j) (zag HE C hx) (zoi HE C hl) (zoi HE C hu)).wk fun _ _ _=>z02
    | _=>exact ix _ h
  | List es p =>
    obtain⟨as,has,h⟩:=bS (show (asL _ es).bind _=_ from h);obtain rfl:=sI h;exact (z5l (zg2 HA has).1).wk fun _ _ _=>zyz
  | Tuple es k p =>
    obtain⟨as,has,h⟩:=bS (show (asL _ es).bind _=_ from h);obtain rfl:=sI h;exact (z6l (zg2 HA has).1).wk fun _ _ _=>zyk
  | Call fu args kws p =>
    simp only [zw0] at h;split at h
    · cases fu with
      | Name x p2=>exact zwd HE C h
      | Attribute o m ap=>exact zwq HE C h
      | _=>exact noSome h
    · exact noSome h
  | ListComp elt gens scope p=>exact zru C (zfw HE HT C h)
  | _=>exact noSome h
theorem zx5 (HE:zcb fE) (HT:zkt fT):zkt (z14 fE fT):=fun X S d C e g h=>by
  have plain:∀e,(if zoo e then (fE S e).bind fun g=>some (zai g) else none)=some g->PT X e (tT X.K g):=fun e h=>by
    split at h
    · rename_i z
      obtain⟨x,hx,h⟩:=bS h;obtain rfl:=sI h;exact (z4r (HE X S d C _ _ hx) (zqo z)).wk fun _ _ _=>zf1 fun _ _ _ q=>q
    · exact noSome h
  cases e with
  | BoolOp op vs p =>
    cases vs with
    | nil=>exact noSome h
    | cons v vs=>exact (zil (fun e g=>HT X S d C e g) h).pt
  | Compare a ops cs p =>
    obtain⟨x,hx,h⟩:=bS (show (cmpE fE S a ops cs).bind _=_ from h);obtain rfl:=sI h;exact (zt8 HE C hx).2
  | UnaryOp op a p =>
    cases op with
    | Not =>
      obtain⟨x,hx,h⟩:=bS (show (fT S a).bind _=_ from h);obtain rfl:=sI h;exact (z7k (HT X S d C _ _ hx)).wk fun _ _ _=>ztq
    | _=>exact plain _ h
  | _=>exact plain _ h
end
noncomputable def z2w:GE:=fun _=>none
noncomputable def zt1:GT:=fun _=>none
mutual
noncomputable def compE:Nat->Sx->Expr->Option GE
 | 0,_,_=>some z2w
 | n+1,S,e=>some ((orX (extE (compE n) S e) (zw0 (compE n) (compT n) S e)).getD z2w)
noncomputable def compT:Nat->Sx->Expr->Option GT
 | 0,_,_=>some zt1
 | n+1,S,e=>some ((z14 (compE n) (compT n) S e).getD zt1)
end
theorem zuk {X:Cx}{e:Expr}:PE X e (tE X.K z2w):=fun _ _ _ _ _ _ q=>by obtain⟨_,_,_,_,_,_,h,_⟩:=q;exact noSome h
theorem zoa {X:Cx}{e:Expr}:PT X e (tT X.K zt1):=fun _ _ _ _ _ _ q=>by obtain⟨_,_,_,_,_,_,h,_⟩:=q;exact noSome h
theorem zec:∀n,zcb (compE n)/\zkt (compT n)
  | 0=>⟨fun _ _ _ _ _ _ h=>by rw[compE] at h;obtain rfl:=sI h;exact zuk,fun _ _ _ _ _ _ h=>by rw[compT] at h;obtain rfl:=sI h;exact zoa⟩
  | n+1=>by
    obtain⟨a,b⟩:=zec n;refine⟨fun X S d C e g h=>?_,fun X S d C e g h=>?_⟩
    · rw [compE] at h
      cases q:orX (extE (compE n) S e) (zw0 (compE n) (compT n) S e) with
      | none=>rw[q] at h;obtain rfl:=sI h;exact zuk
      | some g'=>rw[q] at h;obtain rfl:=sI h;exact zn4 (z1d a C) (zwt a b X S d C) e _ q
    · rw [compT] at h
      cases q:z14 (compE n) (compT n) S e with
      | none=>rw[q] at h;obtain rfl:=sI h;exact zoa
      | some g'=>rw[q] at h;obtain rfl:=sI h;exact zx5 a b X S d C e _ q
section
variable {X:Cx}{pos:Pos}
end
section
variable {K:PySem.W.Frag}{mp:List Nat}{D:Ends}{σ:St}{H:Hp}
end
section
variable {X:Cx}{S:Sx}{d:Nat}{fE:Sx->Expr->Option GE}
end
noncomputable def zlp (x:Stmt->Option GS) (X:Cx) (S:Sx):Prop:=∀st g,x st=some g->PS X st (tS X.K S.mp g)
section
variable {X:Cx}{S:Sx}{d:Nat}{fE:Sx->Expr->Option GE}
noncomputable def orS (a b:Option GS):Option GS:=match a with
 | some g=>some g
 | none=>b
theorem z63 {x y:Stmt->Option GS}(hx:zlp x X S)(hy:zlp y X S):zlp (fun e=>orS (x e) (y e)) X S:=fun e g h=>by
 have h:orS (x e) (y e)=some g:=h;unfold orS at h;split at h
 ·rename_i g' q;obtain rfl:=sI h;exact hx e g' q
 ·exact hy e g h
theorem z0o {o k e:Expr}{p:Pos}{env:Env}:swappedStores [.Subscript o k p] e env=pure none:=by
 cases e<;>rfl
theorem zpq {o k e:Expr}{p:Pos}{l:Nat}{env:Env}:swapsWithSole [.Subscript o k p] e l env=pure false:=by
 cases e<;>rfl
theorem zhs {o k:Expr}{p:Pos}{env:Env} (h:zcd k=true):∀v,assign (.Subscript o k p) env v=(do
   let ov <- holding [v] (eval o env)
   let iv <- holding [v,ov] (eval k env)
   standAt p
   holding [v,ov,iv] (setItem ov iv v)
   release [v,ov,iv] []):=by
 intro v;cases k<;>first | rfl | (cases h)
noncomputable def zmd (fE:Sx->Expr->Option GE) (S:Sx):Stmt->Option GS
 | .Assign [.Subscript (.Name x _) k _] e _=>if dOn S x && zcd k then (S.rd x).bind fun i=>(fE S k).bind fun gk=>(fE S e).bind fun g=>some (zk4 i gk g) else none
 | _=>none
theorem zqc (HE:zcb fE)(C:CxOk X S d):zlp (zmd fE S) X S:=fun st g h=>by
 unfold zmd at h;split at h
 ·split at h
  ·rename_i z;rw[Ai] at z;obtain⟨i,hi,h⟩:=bS h;obtain⟨gk,hgk,h⟩:=bS h;obtain⟨ge,hg,h⟩:=bS h;obtain rfl:=sI h;exact (z0l (HE X S d C _ _ hg) (zzo (zqy C hi) (HE X S d C _ _ hgk) (zpu.or (zwj (z86 C))) (zhs z.2)) zpq z0o rfl).wk fun _ _ _=>zvk
  ·exact noSome h
 ·exact noSome h
noncomputable def extS (fE:Sx->Expr->Option GE) (S:Sx) (st:Stmt):Option GS:=zmd fE S st
theorem z15 (HE:zcb fE)(C:CxOk X S d):zlp (extS fE S) X S:=zqc HE C
end
noncomputable def zc9 (mp:List Nat) (i:Nat):GS:=fun en=>match en[i]? with
 | some (#v[w,5])=>if mp.contains i then none else some (en.set i none,.ret (w,true))
 | some (#v[w,6])=>some (en,.ret (w,false))
 | _=>none
theorem Rel.drop {K:PySem.W.Frag}{F H:Hp}{pr:Prt}{en:En}{σ:St}(R:Rel K F pr en σ H){i:Nat}{w:W}(e:en[i]?=some (#v[w,5])):∃v,σ[i]?=some (some v)/\Rel K F pr (en.set i none) σ H/\Res K F H pr (en.set i none) σ (w,true) v:=by
 have hi:i < en.length:=(An.mp e).1;nofun;obtain⟨a,vs,ws,h1,h2,h3,h4,h5⟩:=R.own i w e;ac_rfl;have g:∀(j:Nat) (x:W × Bool),(en.set i none)[j]?=some (some x)->j≠i/\en[j]?=some (some x):=fun j x h=>by
  rcases zeq hi h with ⟨_,q⟩ | z
  ·cases q
  ·exact z
 refine⟨_,h2,⟨by rw[Fg];exact R.len,R.sub,fun j u q=>R.val j u (g j _ q).2,fun j u q=>R.own j u (g j _ q).2,fun j k b u u' q q'=>R.inj j k b u u' (g j _ q).2 (g k _ q').2,fun b o q=>⟨(R.prt b o q).1,(R.prt b o q).2.1,fun j u z=>(R.prt b o q).2.2 j u (g j _ z).2⟩,R.tb⟩,a,vs,ws,h1,rfl,h3,h4,h5,fun j u q z=>?_,fun b o q z=>?_⟩
 ·exact (g j _ q).1 (R.inj j i a _ _ (g j _ q).2 e z h2)
 ·subst z;exact (R.prt b o q).2.2 i w e h2
theorem zs6 {K:PySem.W.Frag}{mp:List Nat}{D:Ends}{σ:St}{H:Hp}{i:Nat}(h:tS K mp (zc9 mp i) D σ H):tRet (tVar i) D σ H:=by
 obtain⟨F,pr,en,en',fl,R,h,q⟩:=h;unfold zc9 at h;split at h
 ·rename_i w e;split at h
  ·exact noSome h
  ·cases h;obtain⟨v,hv,R',z⟩:=R.drop e;exact⟨v,hv,q F σ H v (.refl F) R' (.refl _ _) z⟩
 ·rename_i w e;cases h;obtain⟨v,hv,z⟩:=R.val i w e;exact⟨v,hv,q F σ H v (.refl F) R (.refl _ _) z⟩
 ·exact noSome h
noncomputable def zy0 (f:Sx->Stmt->Option GS):Prop:=∀X S d,CxOk X S d->∀st g,f S st=some g->PS X st (tS X.K S.mp g)
noncomputable def blk (f:Sx->Stmt->Option GS) (S:Sx):List Stmt->Option GS
  | []=>some zau
  | st::sts=>match sts with
    | []=>f S st
    | _::_=>(f S st).bind fun a=>(blk f S sts).bind fun b=>some (gSeq a b)
noncomputable def zid (S:Sx) (x:Str) (px:Pos) (scope:Scope) (pos:Pos):Bool:=S.kd.lookup x == some .local && px.line == pos.line && !(scope.names.any fun (n,k)=>n == x && (k == .local || k == .cell))
noncomputable def zmu (S:Sx) (x:Str):Bool:=S.top && S.kd.lookup x == some .cell
noncomputable def asgE (fE:Sx->Expr->Option GE) (fT:Sx->Expr->Option GT) (S:Sx) (tg e:Expr):Option GS:=match tg with
  | .Name x px=>(S.wr x).bind fun i=>(match e with
    | .ListComp elt gens scope pos=>(zrj fE fT S elt gens scope).bind fun g=>if zid S x px scope pos || zmu S x then some (gSet S.mp i g) else none
    | e=>if zgv e then (fE S e).bind fun g=>some (gSet S.mp i g) else none)
  | .Subscript o k _=>(match o with
    | .Name x _=>if zcd k then (S.rd x).bind fun i=>(fE S k).bind fun gk=>(fE S e).bind fun g=>some (zbb i gk g) else none
    | _=>none)
  | _=>none
noncomputable def z0x (fS:Sx->Stmt->Option GS) (fE:Sx->Expr->Option GE) (fT:Sx->Expr->Option GT) (S:Sx) (st:Stmt):Option GS:=match st with
  | .Return o _=>(match o with
    | none=>none
    | some e=>(match e with
      | .Name x _=>(S.rd x).bind fun i=>some (zc9 S.mp i)
      | e=>(fE S e).bind fun g=>some (gRet g)))
  | .If c a b _=>(fT S c).bind fun t=>(blk fS S a).bind fun x=>(blk fS S b).bind fun y=>some (gIfS t x y)
  | .For tg it body els _=>(match els with
    | []=>(zto fE S tg it).bind fun gi=>(tgE S tg).bind fun T=>(blk fS S body).bind fun g=>some (gFor S.mp T gi g)
    | _=>none)
  | .Pass _=>some zau
  | .Expr e _=>if zgv e then (fE S e).bind fun g=>some (zed g) else none
  | .Assign ts e _=>(match ts with
    | [tg]=>asgE fE fT S tg e
    | _=>none)
  | .AugAssign tg op e _=>(match tg with
    | .Name x _=>(S.wr x).bind fun i=>(augO op).bind fun o=>(za5 fE S e).bind fun a=>some (gAug S.mp o i a)
    | _=>none)
  | _=>none
section
variable {X:Cx}{S:Sx}{d:Nat}{fS:Sx->Stmt->Option GS}{fE:Sx->Expr->Option GE}{fT:Sx->Expr->Option GT}
theorem zlh (HS:zy0 fS) (C:CxOk X S d):∀{sts:List Stmt}{g:GS},blk fS S sts=some g->PSs X sts (tS X.K S.mp g)
  | [],_,h=>by obtain rfl:=sI h;exact z2f.wk fun _ _ _=>zj4
  | [st],_,h=>z1m (HS X S d C _ _ h)
  | st::st' :: sts,_,h=>by
    obtain⟨a,ha,h⟩:=bS (show (fS S st).bind _=_ from h);obtain⟨b,hb,h⟩:=bS h;obtain rfl:=sI h;exact (zzc (HS X S d C _ _ ha) (zlh HS C hb)).wk fun _ _ _=>zyp
theorem ybd (C:CxOk X S d){x:Str}{px pos:Pos}{elt:Expr}{gens:List Comprehension}{scope:Scope}{l:Nat}(h:zid S x px scope pos=true):swapsWith (.ListComp elt gens scope pos) (some (.Name x px)) l X.env=pure true:=by
 unfold zid at h;rw[Ai,Ai] at h;have h1:X.env.kindOf x=some .local:=C.loc x (by simpa using h.1.1);show (pure (X.env.blockKind == .function && X.env.kindOf x == some .local && px.line == pos.line && !(scope.names.any fun (n,k)=>n == x && (k == .local || k == .cell))):Sem Bool)=pure true;rw[C.bk,h1,h.1.2,h.2]
 rfl
theorem swNo (C:CxOk X S d){x:Str}{px pos:Pos}{elt:Expr}{gens:List Comprehension}{scope:Scope}{l:Nat}(h:zmu S x=true):swapsWith (.ListComp elt gens scope pos) (some (.Name x px)) l X.env=pure false:=by
 unfold zmu at h;rw[Ai] at h;have h1:X.env.kindOf x=some .cell:=(C.cel x (by simpa using h.2)).1;show (pure (X.env.blockKind == .function && X.env.kindOf x == some .local && px.line == pos.line && !(scope.names.any fun (n,k)=>n == x && (k == .local || k == .cell))):Sem Bool)=pure false;rw[h1];have:(some NameKind.cell == some NameKind.local)=false:=rfl;rw[this,Eh,Eg,Eg]
theorem z4b (HE:zcb fE) (HT:zkt fT) (C:CxOk X S d) {tg e:Expr}{g:GS}{pos:Pos} (h:asgE fE fT S tg e=some g):PS X (.Assign [tg] e pos) (tS X.K S.mp g):=by
  cases tg with
  | Name x px =>
    refine aG fun _ qG=>?_;obtain ⟨i,hi,h⟩:=bS (show (S.wr x).bind _=_ from h);obtain ⟨w1,w2,w3⟩:=zyf C hi;refine qG ?_;clear qG;have plain:(if zgv e then (fE S e).bind fun g=>some (gSet S.mp i g) else none)=some g->PS X (.Assign [.Name x px] e pos) (tS X.K S.mp g):=fun h=>by
      split at h
      · rename_i z
        obtain⟨ge,hg,h⟩:=bS h;obtain rfl:=sI h;exact (z0t (ndN C) w1 w2 (HE X S d C _ _ hg) (zoc z) w3).wk fun _ _ _=>zi4
      · exact noSome h
    cases e with
    | ListComp elt gens scope pc =>
      obtain⟨ge,hg,h⟩:=bS (show (zrj fE fT S elt gens scope).bind _=_ from h);have cp:=zfw HE HT C hg;split at h
      · rename_i z
        obtain rfl:=sI h;rw[Cn] at z;rcases z with z | z
        · refine aG fun Gg qG => ?_
          obtain ⟨tg,iter,ifs,gs,gi,T,tc,em,tm,e1,e2,so,pi,pf,pg,pt,pe,rd⟩:=cp.ex;refine qG ?_;clear qG;subst e1;exact (z17 (ndN C) w1 w2 pi pg pt (pe pc) (e2 pc) (ybd C z) C.calm so.kind so.cap so.fr so.nc so.nm pf w3).wk fun D σ H q=>by
            have q':=zi4 q;exact rd _ _ _ q'
        · exact (z0t (ndN C) w1 w2 (zru C cp) (swNo C z) w3).wk fun _ _ _=>zi4
      · exact noSome h
    | _=>exact plain h
  | Subscript o k p =>
    cases o with
    | Name x px =>
      have h' : (if zcd k then (S.rd x).bind fun i=>(fE S k).bind fun gk=>(fE S e).bind fun g=>some (zbb i gk g) else none)=some g:=h;split at h'
      · rename_i z
        nofun;obtain⟨i,hi,h⟩:=bS h';obtain⟨gk,hgk,h⟩:=bS h;obtain⟨ge,hg,h⟩:=bS h;ac_rfl;obtain rfl:=sI h;exact (z0l (HE X S d C _ _ hg) (zzo (zqy C hi) (HE X S d C _ _ hgk) zpu (zhs z)) zpq z0o rfl).wk fun _ _ _=>zqq
      · exact noSome h'
    | _=>exact noSome h
  | _=>exact noSome h
theorem zyg (HS:zy0 fS) (HE:zcb fE) (HT:zkt fT):zy0 (z0x fS fE fT):=fun X S d C st g h=>by
  have pn:PassesOwn (model X.prog X.w) X.A X.env X.xe:=by rw[C.xe];exact PassesOwn.never
  cases st with
  | Return o p =>
    cases o with
    | none=>cases h
    | some e =>
      have gen:((fE S e).bind fun g=>some (gRet g))=some g->PS X (.Return (some e) p) (tS X.K S.mp g):=fun h=>by
        obtain⟨ge,hg,h⟩:=bS h;obtain rfl:=sI h;exact (z0c (HE X S d C _ _ hg)).wk fun _ _ _=>zww
      cases e with
      | Name x px =>
        obtain⟨i,hi,h⟩:=bS (show (S.rd x).bind _=_ from h);obtain rfl:=sI h;exact (z0c (zqy C hi)).wk fun _ _ _=>zs6
      | _=>exact gen h
  | If c a b p =>
    obtain⟨t,ht,h⟩:=bS (show (fT S c).bind _=_ from h);obtain⟨x,hx,h⟩:=bS h;obtain⟨y,hy,h⟩:=bS h;obtain rfl:=sI h;exact (yaw (HT X S d C _ _ ht) (zlh HS C hx) (zlh HS C hy)).wk fun _ _ _=>zwe
  | For tg it body els p =>
    cases els with
    | cons _ _=>exact noSome h
    | nil =>
      obtain⟨gi,hgi,h⟩:=bS (show (zto fE S tg it).bind _=_ from h);obtain⟨T,hT,h⟩:=bS h;obtain⟨gb,hb,h⟩:=bS h;obtain rfl:=sI h;obtain⟨pi,pf⟩:=zn0 HE C hgi;exact (z5b pn C.calm pi (z0j C hT) (zlh HS C hb) pf).wk fun _ _ _=>zzi
  | Pass p=>obtain rfl:=sI h;exact z1g.wk fun _ _ _=>zj4
  | Expr e p =>
    have h' : (if zgv e then (fE S e).bind fun g=>some (zed g) else none)=some g:=h;split at h'
    · rename_i z
      obtain⟨ge,hg,h⟩:=bS h';obtain rfl:=sI h;exact (z1i (HE X S d C _ _ hg) (zoc z)).wk fun _ _ _=>zt2
    · exact noSome h'
  | Assign ts e p =>
    match ts,h with
    | [tg],h=>exact z4b HE HT C h
    | [],h=>exact noSome h
    | _::_::_,h=>exact noSome h
  | AugAssign tg op e p =>
    cases tg with
    | Name x px =>
      obtain⟨i,hi,h⟩:=bS (show (S.wr x).bind _=_ from h);obtain⟨o,ho,h⟩:=bS h;obtain⟨a,ha,h⟩:=bS h;obtain rfl:=sI h;obtain⟨w1,w2,w3⟩:=zyf C hi;obtain⟨r,h1,h2⟩:=z38 (X:=X) ho;exact (z88 (ndN C) w1 w2 (zag HE C ha) h1 w3).wk fun _ _ _=>zy3 h2
    | _=>exact noSome h
  | _=>exact noSome h
end
noncomputable def zs8:GS:=fun _=>none
noncomputable def zrs:Nat->Sx->Stmt->Option GS
 | 0,_,_=>some zs8
 | n+1,S,st=>some ((orS (extS (compE n) S st) (z0x (zrs n) (compE n) (compT n) S st)).getD zs8)
theorem zpr {X:Cx}{st:Stmt}{mp:List Nat}:PS X st (tS X.K mp zs8):=fun _ _ _ _ _ _ q=>by obtain⟨_,_,_,_,_,_,h,_⟩:=q;exact noSome h
theorem zhq:∀n,zy0 (zrs n)
  | 0=>fun _ _ _ _ _ _ h=>by obtain rfl:=sI h;exact zpr
  | n+1=>fun X S d C st g h=>by
    rw[zrs] at h;cases q:orS (extS (compE n) S st) (z0x (zrs n) (compE n) (compT n) S st) with
    | none=>rw[q] at h;obtain rfl:=sI h;exact zpr
    | some g'=>rw[q] at h;obtain rfl:=sI h;exact z63 (z15 (zec n).1 C) (zyg (zhq n) (zec n).1 (zec n).2 X S d C) st _ q
structure Fd where
 nm:Str
 ps:List Str
 N:List Str
 m:List Bool
 st:Stmt
noncomputable def deep:Nat:=60
noncomputable def sxOf (T:List Fd) (bn:List Str) (Ψ:Str->Fn) (d:Nat) (t:Fd):Sx:={ N:=t.N,kd:=(zat t.st).names,bn:=bn,fs:=T.map fun u=>(u.nm,(u.m,Ψ u.nm)),mp:=mpOf t.m,top:=true,nm:=t.nm,dp:=d }
noncomputable def za0 (T:List Fd) (bn:List Str) (Ψ:Str->Fn) (d:Nat) (t:Fd):Option GS:=blk (zrs deep) (sxOf T bn Ψ d t) (zdh t.st)
noncomputable def fnAt (T:List Fd) (bn:List Str) (Ψ:Str->Fn) (d:Nat) (t:Fd):Fn:=match za0 T bn Ψ d t with
 | some g=>zal t.m t.N.length g
 | none=>fun _=>none
noncomputable def sem (T:List Fd) (bn:List Str):Nat->Str->Fn
  | 0,_=>fun _=>none
  | d+1,x=>match T.find? (·.nm == x) with
    | some t=>fnAt T bn (sem T bn d) d t
    | none=>fun _=>none
noncomputable def zwc (K:PySem.W.Frag) (x:Str):Bool:=match PySem.W.tabIn K x with
 | some (c,P)=>PySem.W.codeHdIn K c P
 | none=>false
theorem Fun.okC {P:Program}{w:World}{K:PySem.W.Frag}{mg:Str->Option Value}{base:Heap}{x qual:Str}{st:Stmt}{f:Addr}{fd:FuncData}{N ps:List Str}{k:Nat}{sp:Sp} (F:Fun K x qual st f fd) (S:FnScope N ps (zat st)) (len:∀vs H Q E,sp vs H Q E->vs.length=ps.length)
  (hbody:∀(A:Around) (outer:List Env) (s:Shared) (H:Hp) (vs:List V) (Q:VK) (E:XK),(Room k (A.deeper (envOfC qual (zat st) s.heap.objs.size f fd.code))/\Room (k+1) A)->sp vs H Q E ->
   ∃t,PSs (cxOf CX0 P w K mg base N qual (zat st) f fd.code A outer s H E).nox (zdh st) t/\t { nx:=fun _ H'=>Q .non H',rt:=Q } (start N vs) H):FnOk P w K mg base CX0 (k+1) f fd ps sp:=by
 nofun;obtain⟨oc,od,kV,doc,pm,an,cdv,ct,osl,rfl,lk,hcd⟩:=F.ex;ac_rfl;refine ybc lk hcd S len fun A outer s H vs Q E hr hsp=>?_;obtain⟨t,h,q⟩:=hbody A outer s H vs Q E hr hsp;exact⟨t,h.nox,q⟩
structure FdOk (K:PySem.W.Frag) (mg:Str->Option Value) (t:Fd):Prop where
 sc:FnScope t.N t.ps (zat t.st)
 m:t.m.length=t.ps.length
 ex:∃f fd,Fun K t.nm t.nm t.st f fd/\znc K fd t.ps []/\mg t.nm=some (.ref f)
 lam:t.nm∈lams->zwc K t.nm=true
theorem zq7 {T:List Fd}{Ψ:Str->Fn}{x:Str}{m:List Bool}{Φ:Fn} (h:(T.map fun u=>(u.nm,(u.m,Ψ u.nm))).lookup x=some (m,Φ)):∃t∈T,t.nm=x/\t.m=m/\Φ=Ψ x:=by
  induction T with
  | nil=>exact noSome h
  | cons t T ih =>
    rw[Ad,Bl] at h;cases q:x == t.nm with
    | true =>
      rw[q] at h;cases h;have:=Bw q;subst this;exact⟨t,Ak,rfl,rfl,rfl⟩
    | false =>
      rw[q] at h;obtain⟨u,h1,h2⟩:=ih h;exact⟨u,Aj _ h1,h2⟩
theorem z1z {T:List Fd} (nd:(T.map (·.nm)).Nodup) {t:Fd} (h:t∈T):T.find? (·.nm == t.nm)=some t:=by
  induction T with
  | nil=>cases h
  | cons u T ih =>
    rw[Ad,Cm] at nd;rw[Dt];rcases Aq.mp h with rfl | h
    · simp
    · have:(u.nm == t.nm)=false:=by
        cases q:u.nm == t.nm with
        | false=>rfl
        | true=>exact absurd (Az.mpr ⟨t,h,(Bw q).symm⟩) nd.1
      rw[this];exact ih nd.2 h
theorem zvm {P:Program}{w:World}{K:PySem.W.Frag}{mg:Str->Option Value}{base:Heap}{T:List Fd}{bn:List Str} (nd:(T.map (·.nm)).Nodup) (ok:∀t∈T,FdOk K mg t) (hb:∀x∈bn,mg x=none) (kb:K.In base) (nb:base.Ns mainGlobals mg) :
    ∀(d:Nat) (t:Fd),t∈T->∀f fd,Fun K t.nm t.nm t.st f fd->mg t.nm=some (.ref f)->FnOk P w K mg base CX0 d f fd t.ps (spF K t.m (sem T bn d t.nm))
  | 0,t,_,f,fd,_,_=>⟨fun vs H Q E h=>(by obtain⟨_,_,_,_,_,_,_,_,h,_⟩:=h;cases h),fun A outer s H args us vs Q E hr he hbi hv h=>(by obtain⟨_,_,_,_,_,_,_,_,h,_⟩:=h;cases h)⟩
  | d+1,t,ht,f,fd,F,M=>by
    have o:=ok t ht;refine F.okC (k:=d) o.sc (fun vs H Q E h=>(ztu h).trans o.m) (fun A outer s H vs Q E hr h=>?_);have es:sem T bn (d+1) t.nm=fnAt T bn (sem T bn d) d t:=by
      show (match T.find? (·.nm == t.nm) with | some t=>fnAt T bn (sem T bn d) d t | none=>fun _=>none)=_;rw[z1z nd ht]
    rw[es] at h;unfold fnAt at h;cases e:za0 T bn (sem T bn d) d t with
    | none =>
      rw[e] at h;nofun;obtain⟨_,_,_,_,_,_,_,_,h,_⟩:=h;ac_rfl;exact noSome h
    | some g =>
      rw [e] at h;have C:CxOk (cxOf CX0 P w K mg base t.N t.nm (zat t.st) f fd.code A outer s H E).nox (sxOf T bn (sem T bn d) d t) d:={
        N:=rfl
        nd:=o.sc.nd
        loc:=fun x e=>e
        cel:=fun x e=>⟨e,rfl⟩
        vis:=fun x e=>e
        gl:=fun x e=>e
        calm:=rfl
        xe:=rfl
        bn:=hb
        fs:=fun x m Φ e=>by
          nofun;obtain⟨u,hu,e1,e2,e3⟩:=zq7 e;ac_rfl;subst e1 e2 e3;nofun;obtain⟨fa,fb,F',B',M'⟩:=(ok u hu).ex;ac_rfl;exact⟨u.ps,(ok u hu).m.symm,⟨fa,fb,zvm nd ok hb kb nb d u hu fa fb F' M',B',F'.kp,M'⟩⟩
        room:=hr.1
        sl:=by have:=hr.2.un;show A.units+3+16 * d+205 < cLine;omega
        dpo:=Ag _
        lam:=fun h=>by
          have q:=o.lam h;unfold zwc at q;split at q
          · rename_i c Pt e
            refine⟨c,Pt,e,q,?_,rfl⟩;nofun;obtain⟨oc,od,kV,doc,pm,an,cdv,ct,osl,e1,lk,hcd⟩:=F.ex;ac_rfl;exact PySem.W.law_code kb nb e M (kb _ _ lk) rfl
          · cases q
        bk:=by
          show (if (zat t.st).kind.isAnnotationScope then ScopeKind.function else (zat t.st).kind)=.function;rw[o.sc.kind];rfl }
      exact⟨_,zlh (zhq deep) C e,z36 h⟩
theorem zp7 {K:PySem.W.Frag}{F H:Hp}{a:Addr}{ns:List Int}{Φ:Fn}{ws' : List W}(hs:Same F H)(tb:zqf K F (fun _ _=>False) H)(h:SqL K F a (ns.map V.int))(e:Φ [.frl (ns.map W.int)]=some (ws',(.bl true,false)))(hl:ws'.length=1){E:XK}:spF K [false] Φ [.ref a] H (fun v _=>v=.bl true) E:=by
 refine⟨F,fun _ _=>False,_,ws',_,rfl,hl,⟨rfl,hs,fun i w q=>?_,fun i w q=>?_,fun i j a w w' q=>?_,fun b o q=>q.elim,tb⟩,e,fun F' H' v _ _ z=>?_⟩
 ·cases i with
  | zero=>cases q;exact⟨_,rfl,.frl h (Reps.ofInts ns)⟩
  | succ i=>cases i<;>exact noSome q
 ·cases i with
  | zero=>cases q
  | succ i=>cases i<;>exact noSome q
 ·cases i with
  | zero=>cases q
  | succ i=>cases i<;>exact noSome q
 ·exact z.isBl
noncomputable def tabsOf (K:PySem.W.Frag):List Addr:=lams.filterMap fun x=>(PySem.W.tabIn K x).map (·.2)
theorem zi7 {K:PySem.W.Frag}{b:Addr}:b∈tabsOf K↔∃x∈lams,∃c,PySem.W.tabIn K x=some (c,b):=by
 unfold tabsOf;rw[List.mem_filterMap];constructor
 ·rintro ⟨x, hx, e⟩;cases q:PySem.W.tabIn K x with
  | none=>rw[q] at e;exact noSome e
  | some p=>rw[q] at e;obtain rfl:=sI e;exact⟨x,hx,p.1,q⟩
 ·rintro ⟨x, hx, c, e⟩;exact⟨x,hx,by rw[e];rfl⟩
noncomputable def z6f (K:PySem.W.Frag) (h:Heap):Prop:=∀x∈lams,∀c P,PySem.W.tabIn K x=some (c,P)->PySem.W.CodeHd h c P/\h.get? P=some (PySem.W.tabObj #[])
structure Start (K:PySem.W.Frag) (F H:Hp):Prop where
 sub:Same F H
 tb:zqf K F (fun _ _=>False) H
theorem zsn {P:Program}{w:World}{K:PySem.W.Frag}{mg mb:Str->Option Value}{CX:CXT}{k:Nat}{fa a:Addr}{fd:FuncData}{x:Str}{sp:Sp}{s₁:Shared}{vs:List Value}{ns:List Int}
    (KX:K.In s₁.heap) (nt:PySem.W.noTabs K=true) (nd:z1f K) (hT:z6f K s₁.heap) (hns:s₁.heap.Ns mainGlobals mg) (hb:s₁.heap.Ns builtinsNs mb) (hbb:∀x:Str,x≠"__name__" -> mb x=bootBuiltins x) (hlim:s₁.heap.NoLimit) (hbm:∃(b:Addr) (ob:Obj),mg "__builtins__" = some (.ref b)/\b≠builtinsNs/\s₁.heap.get? b=some ob/\ob.cls=.type "module"/\ob.dict=some builtinsNs/\ob.data=.plain) (hg:s₁.gens=#[])
    (ha:s₁.heap.get? a=some { cls:=.type "list",data:=.seq vs.toArray }) (hi:IntsAre vs ns) (hl:ns.length<=sizeLine) (hr:Room k callerA)
    (Fk:∀base:Heap,K.In base->base.Ns mainGlobals mg->FnOk P w K mg base CX k fa fd [x] sp) (hbind:∀(s:Shared) (u:Value),BindsTo s fd ⟨[u],[]⟩ [(x,u)])
    (hsp:∀F H:Hp,Start K F H->SqL K F a (ns.map V.int)->sp [.ref a] H (fun v _=>v=.bl true) fun _ _ _=>False)
    (hCX:∀H e s',CX [] H s₁ (fun _ _ _=>False) e s'->False) :
    codeAny (model P w) callerA (.call (.ref fa) ⟨[.ref a],[]⟩) (fun r s'=>r=.ok (.ret (.bool true))/\OldK s₁.heap s'.heap/\s'.os=s₁.os/\AllBare s'.gens) s₁:=by
  have rv:=zj1 hi;have lenV:=hi.length;have tabAt:∀b∈tabsOf K,s₁.heap.get? b=some (PySem.W.tabObj #[]):=fun b h=>by
    nofun;obtain⟨x,hx,c,e⟩:=zi7.mp h;ac_rfl;exact (hT x hx c b e).2
  have na:a ∉ tabsOf K:=fun h=>by
    have:=tabAt a h;rw[ha] at this;cases this
  have core:∀F H:Hp,(∀b,H b=none\/(b∈tabsOf K/\H b=some (.tbl #[])/\F b=none)\/(b=a/\K.lookup a=none/\F b=H b/\∃o xs,H b=some (.frz o (.lst xs))))->(∀b,H b=none->F b=none)->(∀b∈tabsOf K,H b=some (.tbl #[]))->SqL K F a (ns.map V.int)->HOk P w H s₁.heap ->
      codeAny (model P w) callerA (.call (.ref fa) ⟨[.ref a],[]⟩) (fun r s'=>r=.ok (.ret (.bool true))/\OldK s₁.heap s'.heap/\s'.os=s₁.os/\AllBare s'.gens) s₁:=by
    intro F H hO hF hB hS hok;have base_of:∀{b:Addr}{o:Obj},s₁.heap.get? b=some o->H b=none->(hidT s₁.heap H).get? b=some o:=fun e n=>zxt e n;have noA:∀{b:Addr}{o:Obj}{es:Array DictEntry}{ep:Nat},s₁.heap.get? b=some o->o.data=.dict es ep->H b=none:=fun {b o es ep} e d=>by
      rcases hO b with z | ⟨z,_⟩ | ⟨z,_⟩
      · exact z
      · rw[tabAt b z] at e;obtain rfl:=sI e;cases d
      · subst z
        rw[ha] at e;obtain rfl:=sI e;have d' : Data.seq vs.toArray _=Data.dict es ep:=d;cases d'
    have nsK:∀{b:Addr}{m:Str->Option Value},s₁.heap.Ns b m->(hidT s₁.heap H).Ns b m:=fun {b m} ⟨o,es,ep,e,d,r⟩=>⟨o,es,ep,base_of e (noA e d),d,r⟩;have hKb:K.In (hidT s₁.heap H):=fun b o e=>base_of (KX b o e) (by
      rcases hO b with z | ⟨z,_⟩ | ⟨z,n,_⟩
      · exact z
      · have e2 := KX b o e
        rw[tabAt b z] at e2;obtain rfl:=sI e2;have:=Bg.mp nt (b,_) (PySem.W.mem_of_lookupK e);exact absurd (show false=true from this) Af
      · subst z
        rw[n] at e;cases e)
    have hM:Mod K mg (hidT s₁.heap H):=⟨hKb,nsK hns,⟨mb,nsK hb,hbb⟩,let ⟨mc,h1,h2⟩:=hlim;⟨mc,nsK h1,h2⟩,by
      nofun;obtain⟨b,ob,b1,b2,b3,b4,b5,b6⟩:=hbm;ac_rfl;refine⟨b,ob,b1,b2,base_of b3 ?_,b4,b5,b6⟩;rcases hO b with z | ⟨z,_⟩ | ⟨z,_⟩
      · exact z
      · rw[tabAt b z] at b3;obtain rfl:=sI b3;cases b4
      · subst z;rw[ha] at b3;obtain rfl:=sI b3;exact absurd b4 (by simp)⟩
    have e0:Env0 P w K mg (hidT s₁.heap H) callerA [] s₁ H:=⟨rfl,hM,fun b o e=>z2x e,Nat.le_of_eq (zvl _ _),trivial,fun b hb=>absurd (show b∈([]:List Addr) from hb) (by simp),hok,.of_eq hg⟩;have st:Start K F H:=⟨fun b o e=>by
      rcases hO b with z | ⟨_,_,z⟩ | ⟨_,_,z,_⟩
      · rw[hF b z] at e;cases e
      · rw[z] at e;cases e
      · rw[<-z];exact e,⟨nd,fun x hx c Pt e=>by
      have hm:Pt∈tabsOf K:=zi7.mpr ⟨x,hx,c,e⟩;refine⟨#[],hB Pt hm,?_,fun _ z=>z,trivial,fun pos cv q=>by cases q⟩;rcases hO Pt with z | ⟨_,_,z⟩ | ⟨z,_⟩
      · exact hF Pt z
      · exact z
      · subst z;exact absurd hm na⟩⟩
    refine codeAny_mono ((Fk _ hKb (nsK hns)).run callerA [] s₁ H ⟨[.ref a],[]⟩ [.ref a] [.ref a] _ _ hr e0 (hbind s₁ (.ref a)) (.cons rfl .nil) (hsp F H st hS)) fun r s' h=>?_;cases r with
    | error e=>exact (hCX H e s' h).elim
    | ok fl =>
      cases fl with
      | next=>exact False.elim h
      | brk=>exact False.elim h
      | cont=>exact False.elim h
      | ret u =>
        nofun;obtain⟨v,H',os,bare,un,hok',r',q⟩:=h;ac_rfl;have q' : v=.bl true:=q;subst q';obtain rfl:u=Value.bool true:=r';refine⟨rfl,⟨fun b o e=>?_,fun b o e=>un.there b o e (by simp)⟩,os,bare⟩;rcases hO b with z | ⟨z,z1,_⟩ | ⟨_,_,_,ob,xs,z⟩
        · exact .inl (un.keep b o e z (by intro y;exact absurd (show b∈([]:List Addr) from y) (by simp)) (by simp))
        · refine aG fun Gg qG => ?_
          obtain⟨x,hx,c,ex⟩:=zi7.mp z;obtain⟨t1,t2⟩:=hT x hx c b ex;ac_rfl;rw[e] at t2;obtain rfl:=sI t2;obtain⟨more,e2⟩:=un.tbls b #[] z1;exact .inr (.inl ⟨(t1.tab e).isCodeTable,rfl,#[],more,rfl,hok' b _ e2⟩)
        · have z2 := un.frzs b ob _ z
          obtain⟨e1,_⟩:=hok b _ z;obtain⟨e2,_⟩:=hok' b _ z2;rw[e] at e1;obtain rfl:=sI e1;exact .inl e2
  have tOk:∀b,b∈tabsOf K->∀H,za4 P w H s₁.heap b (.tbl #[]):=fun b h H=>tabAt b h;cases hk:K.lookup a with
  | some o =>
    have e:=KX a o hk;rw[ha] at e;obtain rfl:=sI e;refine core (fun _=>none) (fun b=>if b∈tabsOf K then some (.tbl #[]) else none) (fun b=>?_) (fun _ _=>rfl) (fun b h=>if_pos h) (.inr ⟨_,vs.toArray,_,hk,rfl,rfl,rfl,by rw[Au,lenV];exact hl,by simpa using rv⟩) (fun b u z=>?_)
    · by_cases h : b ∈ tabsOf K
      · exact .inr (.inl ⟨h,if_pos h,rfl⟩)
      · exact .inl (if_neg h)
    · by_cases h : b ∈ tabsOf K
      · have z' := (if_pos h).symm.trans z
        obtain rfl:=sI z';exact tOk b h _
      · have z' := (if_neg h).symm.trans z
        cases z'
  | none =>
    refine core (fun b=>if b=a then some (.frz { cls:=.type "list",data:=.seq vs.toArray } (.lst (ns.map V.int))) else none) (fun b=>if b=a then some (.frz { cls:=.type "list",data:=.seq vs.toArray } (.lst (ns.map V.int))) else if b∈tabsOf K then some (.tbl #[]) else none) (fun b=>?_) (fun b z=>?_) (fun b h=>?_) (.inl (.inr ⟨{ cls:=.type "list",data:=.seq vs.toArray },if_pos rfl⟩)) (fun b u z=>?_)
    · by_cases h0 : b = a
      · exact .inr (.inr ⟨h0,hk,by simp only [if_pos h0],_,_,if_pos h0⟩)
      · by_cases h : b ∈ tabsOf K
        · exact .inr (.inl ⟨h,by simp only [if_neg h0,if_pos h],if_neg h0⟩)
        · exact .inl (by simp only [if_neg h0,if_neg h])
    · by_cases h0 : b = a
      · simp only [if_pos h0] at z;cases z
      · exact if_neg h0
    · have h0 : b ≠ a := fun z => by subst z; exact na h
      simp only [if_neg h0,if_pos h]
    · by_cases h0 : b = a
      · have z' : some (HO.frz { cls := .type "list", data := .seq vs.toArray } (.lst (ns.map V.int))) = some u := by simpa only [if_pos h0] using z
        obtain rfl:=sI z';subst h0;exact⟨ha,by rw[Aa];exact hl,vs,_,rv,ha⟩
      · by_cases h : b ∈ tabsOf K
        · have z' : some (HO.tbl #[]) = some u := by simpa only [if_neg h0, if_pos h] using z
          obtain rfl:=sI z';exact tOk b h _
        · have z' : (none : Option HO) = some u := by simpa only [if_neg h0, if_neg h] using z
          cases z'
noncomputable def zuj (K:PySem.W.Frag):Bool:=lams.all fun x=>lams.all fun x'=>match PySem.W.tabIn K x,PySem.W.tabIn K x' with
 | some p,some p'=>x == x' || !(p.2 == p'.2)
 | _,_=>true
theorem zyd {K:PySem.W.Frag}(h:zuj K=true):z1f K:=fun x hx x' hx' c c' P e e'=>by
 have:=Bg.mp (Bg.mp h x hx) x' hx';rw[e,e'] at this;simpa using this
theorem walk_ofT {l:PySem.W.OpenLaw}{n k:Nat}{q:Program}{loose:List Str}{XP:(Str->Option Value)->Heap->Prop}{YP:World->Heap->Prop}{d:DefRec}{K:Params->PySem.W.Frag}{CX:World->CXT}{sp:World->Sp}{x:Str}
  (hn:l.most=some n) (hn2:n<=sizeLine) (hdf:d.params.defaults=[]) (hr:Room k callerA)
  (hY:∀(w:World) (h:Heap),YP w h->(K w.params).In h)
  (nt:∀w:World,PySem.W.noTabs (K w.params)=true) (nd:∀w:World,zuj (K w.params)=true) (hrec:∀(w:World),∀x∈lams,∀c P,PySem.W.tabIn (K w.params) x=some (c,P)->∃d,(recsOf q).find? (fun e=>e.name == x)=some d)
  (F:∀(w:World) (mg:Str->Option Value) (fa:Addr) (h:Heap),(K w.params).In h->h.Ns mainGlobals mg->mg d.name=some (.ref fa) ->
   ∃fd:FuncData,(∀(s:Shared) (u:Value),BindsTo s fd ⟨[u],[]⟩ [(x,u)]) /\
    ∀base:Heap,(K w.params).In base->base.Ns mainGlobals mg->FnOk l.prog w (K w.params) mg base (CX w) k fa fd [x] (sp w))
  (hsp:∀(w:World) (F H:Hp) (a:Addr) (ns:List Int),ns.length<=n->Start (K w.params) F H->SqL (K w.params) F a (ns.map V.int)->sp w [.ref a] H (fun v _=>v=.bl true) fun _ _ _=>False)
  (hCX:∀(w:World) (H:Hp) (s:Shared) (e:Value) (s' : Shared),CX w [] H s (fun _ _ _=>False) e s'->False) :
  PySem.W.WalkO q loose XP YP l.row.toRowW d [] (fun f vs=>PySem.call f vs):=by
 refine Att.attach_call hn hdf fun w s₀ s₁ mg mb fa o pm cd doc a vs ns G Y ho hd hcd hmg hobj hints hlen hg=>?_;have KX:=hY w _ Y;obtain⟨fd,hb,hF⟩:=F w mg fa _ KX G.T.g hmg;refine zsn KX (nt w) (zyd (nd w)) (fun x hx c Pt e=>?_) G.T.g G.T.b G.T.builtins G.T.nolimit G.T.bmain hg hobj hints (Cy hlen hn2) hr hF hb (fun F H hO hS=>hsp w F H a ns hlen hO hS) fun H e s'=>hCX w H s₁ e s';obtain⟨d,hd⟩:=hrec w x hx c Pt e;exact PySem.W.tab_of G.T KX hd e
theorem zse (i j:Int):oAdd (.int i) (.int j)=#v[(i+j),0]:=rfl
theorem zsu {i j:Int}(h:cMul i j=true):oMult (.int i) (.int j)=#v[(i * j),0]:=by
 show (match (if cMul i j then #v[W.int (i * j),6] else none) with | some p=>some p | none=>_)=_;rw[if_pos h]
theorem oMult_l {i j:Int}(h1:-(2 ^ 64) < i)(h2:i < 2 ^ 64):oMult (.int i) (.int j)=#v[(i * j),0]:=zsu (by
 unfold cMul;rw[Cn,Ai];exact .inl ⟨Ah h1,Ah h2⟩)
theorem zmc {i j:Int}(h1:-(2 ^ 64) < j)(h2:j < 2 ^ 64):oMult (.int i) (.int j)=#v[(i * j),0]:=zsu (by
 unfold cMul;rw[Cn,Ai,Ai];exact .inr ⟨Ah h1,Ah h2⟩)
theorem zst {i j:Int}(h1:Builtin.Int.intBits i<=2 ^ 20)(h2:Builtin.Int.intBits j<=2 ^ 20):oMult (.int i) (.int j)=#v[(i * j),0]:=by
 have h:zrb i j=true:=by
  unfold zrb;rw[Ai];exact⟨Ah h1,Ah h2⟩
 show (match (if cMul i j then #v[W.int (i * j),6] else none) with | some p=>some p | none=>(match (if zrb i j then #v[W.int (i * j),6] else none) with | some p=>some p | none=>_))=_;rw[if_pos h];split<;>simp_all
theorem zj5 {xs:List W}{k:Int}(h:-(2 ^ 63)<=k/\k < 2 ^ 63/\xs.length * k.toNat<=sizeLine):oMult (.lst xs) (.int k)=#v[(List.replicate k.toNat xs).flatten,2]:=by
 show (if -(2 ^ 63)<=k/\k < 2 ^ 63/\xs.length * k.toNat<=sizeLine then some (W.lst (List.replicate k.toNat xs).flatten,true) else none)=_;rw[if_pos h]
theorem zje {xs ys:List W}(h:xs.length+ys.length<=sizeLine):oAdd (.lst xs) (.lst ys)=#v[(xs++ys),2]:=by
 show (match (if xs.length+ys.length<=sizeLine then #v[W.lst (xs++ys),5] else none) with | some p=>some p | none=>_)=_;rw[if_pos h]
theorem z8t {i j:Int}(h0:0 < j)(h:j < 2 ^ 200):cDiv i j=true:=by
 unfold cDiv;rw[Ai];refine⟨Ah h0,Ah ?_⟩;have hn:j.natAbs≠0:=by omega
 have h1:j.natAbs < 2 ^ 200:=by
  have:((j.natAbs:Nat):Int) < ((2 ^ 200:Nat):Int):=by
   rw[Int.natCast_pow];have e:((j.natAbs:Nat):Int)=j:=by omega
   rw[e];exact h
  exact Int.ofNat_lt.mp this
 exact Bd ((Du hn).mpr h1) #v[0,9]
theorem ztw {i j:Int}(h0:0 < j)(h:j < 18446744073709551617):cDiv i j=true:=z8t h0 (Int.lt_of_lt_of_le h #v[0,9])
theorem z8q {i j:Int}(h0:0<=j)(h1:j<=1000000)(h2:i.natAbs < 2 ^ 64):cPow i j=true:=by
 unfold cPow;rw[Ai,Ai];exact⟨⟨Ah h0,Ah h1⟩,Ah h2⟩
theorem zpg {mp:List Nat}{T:Tg}{body:GS} (P:Nat->En->Prop):∀(ws:List W) (k:Nat) (en:En),P k en->(∀i w e,ws[i]?=some w->P (k+i) e->∃e1 e2,tgSet mp T w e=some e1/\(body e1=some (e2,.nx)\/body e1=some (e2,.cnt))/\P (k+i+1) e2) ->
    ∃en',zkd mp T body ws en=some (en',.nx)/\P (k+ws.length) en'
  | [],k,en,h0,_=>⟨en,rfl,h0⟩
  | w::ws,k,en,h0,hs=>by
    refine aG fun _ qG=>?_;obtain ⟨e1,e2,h1,h2,h3⟩:=hs 0 w en rfl h0;refine qG ?_;clear qG;obtain ⟨en',h4,h5⟩:=zpg P ws (k+1) e2 h3 fun i u e hu hp=>by
      have:=hs (i+1) u e (by simpa using hu) (by rw[show k+(i+1)=k+1+i by omega];exact hp);rw[show k+(i+1)+1=k+1+i+1 by omega] at this;exact this
    refine⟨en',?_,by rw[show k+(w::ws).length=k+1+ws.length by rw[Be];omega];exact h5⟩;show (tgSet mp T w en).bind _=_;rw[h1];show (match body e1 with | some (e2,.nx)=>zkd mp T body ws e2 | some (e2,.cnt)=>zkd mp T body ws e2 | some (e2,.brk)=>some (e2,.nx) | some (e2,.ret r)=>some (e2,.ret r) | none=>none)=_;rcases h2 with h2 | h2<;>(rw[h2];exact h4)
theorem zay {mp:List Nat}{T:Tg}{it:GL}{body:GS} (P:Nat->En->Prop) {en e0:En}{ws:List W} (hi:it en=some (e0,ws)) (h0:P 0 e0) (hs:∀i w e,ws[i]?=some w->P i e->∃e1 e2,tgSet mp T w e=some e1/\(body e1=some (e2,.nx)\/body e1=some (e2,.cnt))/\P (i+1) e2) :
  ∃en',gFor mp T it body en=some (en',.nx)/\P ws.length en':=by
 obtain⟨en',h1,h2⟩:=zpg P ws 0 e0 h0 fun i w e hw hp=>by
  rw[Co] at hp ⊢;exact hs i w e hw hp
 refine⟨en',?_,by rw[Co] at h2;exact h2⟩;unfold gFor;rw[hi];exact h1
theorem zk6 {mp:List Nat}{T:Tg}{tc:GT}{te:GE} (P:Nat->En->List W->Prop):∀(ws:List W) (k:Nat) (ce:En) (dn:List W),P k ce dn ->
    (∀i w c dn,ws[i]?=some w->P (k+i) c dn->∃c1,tgSet mp T w c=some c1/\((∃c2 c3 r,tc c1=#v[c2,5]/\te c2=some (c3,r)/\P (k+i+1) c3 (dn++[r.1]))\/∃c2,tc c1=#v[c2,6]/\P (k+i+1) c2 dn)) ->
    ∃ce' rest,zg4 mp T tc te ws ce=some (ce',rest)/\P (k+ws.length) ce' (dn++rest)
  | [],k,ce,dn,h0,_=>⟨ce,[],rfl,by rw[Bt];exact h0⟩
  | w::ws,k,ce,dn,h0,hs=>by
    obtain ⟨c1,h1,h2⟩:=hs 0 w ce dn rfl h0;have next:∀c3 dn',P (k+1) c3 dn'->∃ce' rest,zg4 mp T tc te ws c3=some (ce',rest)/\P (k+1+ws.length) ce' (dn'++rest):=fun c3 dn' h=>zk6 P ws (k+1) c3 dn' h fun i u c d hu hp=>by
      have:=hs (i+1) u c d (by simpa using hu) (by rw[show k+(i+1)=k+1+i by omega];exact hp);rw[show k+(i+1)+1=k+1+i+1 by omega] at this;exact this
    have el:k+(w::ws).length=k+1+ws.length:=by rw[Be];omega
    rcases h2 with ⟨c2,c3,r,h3,h4,h5⟩ | ⟨c2,h3,h5⟩
    · obtain ⟨ce', rest, h6, h7⟩ := next c3 _ h5
      refine⟨ce',r.1::rest,?_,by rw[el];rw[Bc] at h7;exact h7⟩;show (tgSet mp T w ce).bind _=_;rw[h1];show (match tc c1 with | #v[c2,5]=>(te c2).bind fun p=>(zg4 mp T tc te ws p.1).bind fun q=>some (q.1,p.2.1::q.2) | #v[c2,6]=>zg4 mp T tc te ws c2 | none=>none)=_;rw[h3];show (te c2).bind _=_;rw[h4];show (zg4 mp T tc te ws c3).bind _=_;rw[h6]
      rfl
    · obtain ⟨ce', rest, h6, h7⟩ := next c2 _ h5
      refine⟨ce',rest,?_,by rw[el];exact h7⟩;show (tgSet mp T w ce).bind _=_;rw[h1];show (match tc c1 with | #v[c2,5]=>(te c2).bind fun p=>(zg4 mp T tc te ws p.1).bind fun q=>some (q.1,p.2.1::q.2) | #v[c2,6]=>zg4 mp T tc te ws c2 | none=>none)=_;rw[h3];exact h6
theorem zdj {cap:Cap}{T:Tg}{it:GL}{tc:GT}{te:GE} (P:Nat->En->List W->Prop) {en e0:En}{ws:List W} (hi:it en=some (e0,ws)) (hn:zcs cap=true) (hz:ws.length<=sizeLine) (h0:P 0 (zfr cap e0) [])
  (hs:∀i w c dn,ws[i]?=some w->P i c dn->∃c1,tgSet (capKeep cap) T w c=some c1/\((∃c2 c3 r,tc c1=#v[c2,5]/\te c2=some (c3,r)/\P (i+1) c3 (dn++[r.1]))\/∃c2,tc c1=#v[c2,6]/\P (i+1) c2 dn)) :
  ∃ce' out,zbf cap T it tc te en=some (za8 cap e0 ce',(.lst out,true))/\P ws.length ce' out:=by
 obtain⟨ce',rest,h1,h2⟩:=zk6 P ws 0 (zfr cap e0) [] h0 fun i w c dn hw hp=>by
  rw[Co] at hp ⊢;exact hs i w c dn hw hp
 refine⟨ce',rest,?_,by rw[Co] at h2;exact h2⟩;unfold zbf;rw[hi];show (if zcs cap && decide (ws.length<=sizeLine) then _ else none)=_;rw[if_pos (by rw[hn,Ah hz];rfl),h1]
 rfl
theorem zef {lo:Int}{n i:Nat}{w:W} (h:(rngW lo n)[i]?=some w):i < n/\w=.int (lo+i):=by
  unfold rngW at h;rw[Am] at h;cases q:(List.range n)[i]? with
  | none=>rw[q] at h;exact noSome h
  | some k =>
    rw[q] at h;obtain⟨hl,e⟩:=An.mp q;rw[Cu] at hl;rw[List.getElem_range] at e;subst e;exact⟨hl,(sI h).symm⟩
theorem zdm (lo:Int)(n:Nat):(rngW lo n).length=n:=by unfold rngW;rw[Aa,Cu]
theorem zbw {xs:List W}{i:Nat}{x:W}(h:xs[i]?=some x):atI xs (i:Int)=some x:=z11 h
theorem zvg {en:En}:zcp [] [] en=some []:=rfl
theorem zvp {m:List Bool}{ws:List W}{en:En}{x w:W}:zcp (true::m) (x::ws) (#v[w,5]::en)=(zcp m ws en).bind fun r=>some (w::r):=rfl
theorem zun {m:List Bool}{ws:List W}{en:En}{w:W}{o:Option (W × Bool)}:zcp (false::m) (w::ws) (o::en)=(zcp m ws en).bind fun r=>some (w::r):=rfl
noncomputable def HS (k:Nat) (w:W):Prop:=∃a b c:Int,w=.lst [.int a,.int b,.int c]/\0<=a/\0<=b/\b < MM/\0<=c/\c<=k
theorem HS.mono {k k' : Nat}{w:W}(h:HS k w)(hk:k<=k'):HS k' w:=by
 obtain⟨a,b,c,e,h1,h2,h3,h4,h5⟩:=h;exact⟨a,b,c,e,h1,h2,h3,h4,by omega⟩
noncomputable def ze9 (Φ:Fn):Prop:=∀(k:Nat) (st:W) (n:Int),HS k st->k < big->0 < n->n < 1073741824->∃st' r,Φ [st,.int n]=some ([st',.int n],(.int r,false))/\HS (k+1) st'/\0<=r/\r < n
noncomputable def zr4 (Ψ:Str->Fn):GS:=(gSeq (gIfS (zai (gOp2 (oI yes2 fun i j=>.bl (decide (j < i))) (gArg (gOp2 oIx (zaa 0) #v[0])) #v[0])) (gSeq (gSet [0] 2 (gOp2 #v[0,0,2] (gArg (gOp2 oIx (zaa 0) #v[0])) (zaa 1))) (gSeq (zbb 0 (gC (.int 0)) (gOp2 #v[0,0,3] (gArg (gOp2 oIx (zaa 0) #v[0])) (zaa 1))) (zc9 [0] 2))) zau) (gSeq (zbb 0 (gC (.int 2)) (gOp2 oAdd (gArg (gOp2 oIx (zaa 0) #v[2])) #v[1])) (gSeq (gSet [0] 3 (gOp2 #v[0,0,2] (gArg (gOp2 oMult (gArg (gOp2 oAdd (gArg (gOp2 oAdd (gArg (gOp2 oIx (zaa 0) #v[1])) (gArg (gOp2 oMult (gArg (gOp2 oMult #v[65537] (gArg (gOp2 oIx (zaa 0) #v[2])))) (gArg (gOp2 oIx (zaa 0) #v[2])))))) #v[11])) #v[48271])) #v[2305843009213693921])) (gSeq (gSet [0] 3 (gOp2 #v[0,0,2] (gArg (gOp2 oMult (zaa 3) (gArg (gOp2 oAdd (gArg (gOp2 #v[0,0,2] (zaa 3) #v[1000003])) (gArg (gOp2 oMult #v[99991] (gArg (gOp2 oIx (zaa 0) #v[2])))))))) #v[2305843009213693907])) (gRet (gOp2 #v[0,0,2] (gArg (gOp2 oAdd (gArg (gOp2 #v[0,0,3] (zaa 3) #v[97])) (gArg (gOp2 #v[0,0,3] (zaa 3) #v[1000033])))) (zaa 1)))))))
theorem z1w (Ψ:Str->Fn):ze9 (zal [true,false] 4 (zr4 Ψ)):=by
 rintro k st n ⟨a,b,c,rfl,h0,h1,h2,h3,h4⟩ hk n0 n1;have hb:(k:Int) < 1099511627776:=by have:k < 1099511627776:=hk;omega
 by_cases c1:0 < a
 ·refine⟨.lst [.int (a / n), .int b, .int c], a % n, ?_, ⟨_, _, _, rfl, Int.ediv_nonneg h0 #v[], h1, h2, h3, by omega⟩, Fz _ #v[], Fh _ n0⟩;have hd:cDiv a n=true:=ztw n0 #v[];simp [zal,zr4,za7,gSeq,gIfS,zai,gOp2,gArg,zaa,gC,resA,oI,yes2,oIx,seqW,atI,ixN,gSet,zbb,zc9,zvg,zvp,zun,c1,n0,hd]
 ·have e1 : oMult (.int 65537) (.int (c + 1)) = some (.int (65537 * (c + 1)), false) := oMult_l #v[0,9] #v[0,9];have e2:oMult (.int (65537 * (c+1))) (.int (c+1))=#v[(65537 * (c+1) * (c+1)),0]:=zmc #v[] #v[];have e3:oMult (.int (b+65537 * (c+1) * (c+1)+11)) (.int 48271)=#v[((b+65537 * (c+1) * (c+1)+11) * 48271),0]:=zmc #v[0,9] #v[0,9];generalize hx:(b+65537 * (c+1) * (c+1)+11) * 48271=x0 at e3;have e4:oMult (.int 99991) (.int (c+1))=#v[(99991 * (c+1)),0]:=oMult_l #v[0,9] #v[0,9];have x1:0<=x0 % 2305843009213693921:=Fz _ #v[0,9];have x2:x0 % 2305843009213693921 < 2305843009213693921:=Fh _ #v[0,9];have e5:oMult (.int (x0 % 2305843009213693921)) (.int (x0 % 2305843009213693921 % 1000003+99991 * (c+1)))=#v[(x0 % 2305843009213693921 * (x0 % 2305843009213693921 % 1000003+99991 * (c+1))),0]:=oMult_l #v[] #v[];have d1:∀i,cDiv i 97=true:=fun i=>ztw #v[0,9] #v[0,9];have d2:∀i,cDiv i 1000033=true:=fun i=>ztw #v[0,9] #v[0,9];refine⟨.lst [.int a,.int b,.int (c+1)],(x0 % 2305843009213693921 * (x0 % 2305843009213693921 % 1000003+99991 * (c+1)) % 2305843009213693907 / 97+x0 % 2305843009213693921 * (x0 % 2305843009213693921 % 1000003+99991 * (c+1)) % 2305843009213693907 / 1000033) % n,?_,⟨_,_,_,rfl,h0,h1,h2,by omega,by omega⟩,Fz _ #v[],Fh _ n0⟩
  ·simp [zal,zr4,za7,gSeq,gIfS,zai,gOp2,gArg,zaa,gC,resA,oI,yes2,oIx,seqW,atI,ixN,gSet,zbb,gRet,zau,zvg,zvp,zun,c1,n0,zse,e1,e2,e3,e4,e5,d1,d2]
theorem seq_nx {a b:GS}{en e1:En}(h:a en=some (e1,.nx)):gSeq a b en=b e1:=by unfold gSeq;rw[h]
theorem z5c {a b:GS}{en e1:En}{r:W × Bool}(h:a en=some (e1,.ret r)):gSeq a b en=some (e1,.ret r):=by unfold gSeq;rw[h]
theorem zkh {mp:List Nat}{i:Nat}{g:GE}{en e1:En}{r:W × Bool}(h:g en=some (e1,r))(hi:(mp.contains i || !decide (i < e1.length))=false):gSet mp i g en=some (e1.set i (some r),.nx):=by
 unfold gSet;rw[h];show (if (mp.contains i || !decide (i < e1.length))=true then _ else _)=_;rw[hi]
 rfl
theorem z79 {c:GT}{a b:GS}{en e1:En}(h:c en=#v[e1,5]):gIfS c a b en=a e1:=by unfold gIfS;rw[h]
theorem z8j {c:GT}{a b:GS}{en e1:En}(h:c en=#v[e1,6]):gIfS c a b en=b e1:=by unfold gIfS;rw[h]
theorem z13 {g:GE}{en e1:En}{b f:Bool}(h:g en=some (e1,(.bl b,f))):zai g en=some (e1,b):=by unfold zai;rw[h]
theorem zz7 {g:GE}{en e1:En}{r:W × Bool}(h:g en=some (e1,r)):gRet g en=some (e1,.ret r):=by unfold gRet;rw[h];rfl
theorem zuv {g:GE}{en e1:En}{r:W × Bool}(h:g en=some (e1,r)):zed g en=some (e1,.nx):=by unfold zed;rw[h];rfl
theorem zcf {g:GE}{en e1:En}{r:W × Bool}(h:g en=some (e1,r)):gArg g en=some (e1,.inl r.1):=by unfold gArg;rw[h];rfl
theorem zz0 {a:GA}{as:GAs}{en e1 e2:En}{x:W ⊕ Nat}{xs:List (W ⊕ Nat)}(h:a en=some (e1,x))(h2:as e1=some (e2,xs)):gCns a as en=some (e2,x::xs):=by
 unfold gCns;rw[h];show (as e1).bind _=_;rw[h2]
 rfl
theorem zbt {o:O2}{a b:GA}{en e1 e2:En}{x y:W ⊕ Nat}{w u:W}{r:W × Bool}(h1:a en=some (e1,x))(h2:b e1=some (e2,y))(h3:resA e2 x=some w)(h4:resA e2 y=some u)(h5:o w u=some r):gOp2 o a b en=some (e2,r):=by
 unfold gOp2;rw[h1];show (b e1).bind _=_;rw[h2];show (resA e2 x).bind _=_;rw[h3];show (resA e2 y).bind _=_;rw[h4];show (o w u).bind _=_;rw[h5]
 rfl
theorem z65 {o:ON}{as:GAs}{en e1:En}{xs:List (W ⊕ Nat)}{ws:List W}{r:W × Bool}(h1:as en=some (e1,xs))(h2:za2 e1 xs=some ws)(h3:o ws=some r):gOpN o as en=some (e1,r):=by
 unfold gOpN;rw[h1];show (za2 e1 xs).bind _=_;rw[h2];show (o ws).bind _=_;rw[h3]
 rfl
theorem zbu {m:List Bool}{n:Nat}{g:GS}{ws ws' : List W}{en:En}{r:W × Bool}(hl:ws.length=m.length)(h:g (za7 m ws++List.replicate (n - m.length) none)=some (en,.ret r))(ho:zcp m ws en=some ws'):zal m n g ws=some (ws',r):=by
 unfold zal;rw[if_pos hl,h];show (zcp m ws en).bind _=_;rw[ho]
 rfl
theorem zck:∀(ws:List W) (i:Nat),zav (zbc (ws.map Sum.inl)) i=none
  | [],i=>rfl
  | w::ws,i=>by
    have:=zck ws i;unfold zav zbc at this ⊢;rw[Ad,Ad,List.findIdx?_cons,this]
    rfl
theorem zgb (ws:List W):zcs (zbc (ws.map Sum.inl))=true:=by
  unfold zcs;refine Bg.mpr fun j _=>?_;have:∀i,(zbc (ws.map Sum.inl))[j]?≠some (some i):=fun i=>zc3 (zck ws i) j;cases q:(zbc (ws.map Sum.inl))[j]? with
  | none=>rfl
  | some o =>
    cases o with
    | none=>rfl
    | some i=>exact absurd q (this i)
theorem zlm {cap:Cap}{en ce:En}(h:∀i,zav cap i=none):za8 cap en ce=en:=by
 unfold za8;apply Dw;intro i;rw[List.getElem?_mapIdx];cases en[i]? with
 | none=>rfl
 | some x=>simp only [Fy,h i]
theorem zb1 (en:En):∀ws:List W,za2 en (ws.map Sum.inl)=some ws
 | []=>rfl
 | w::ws=>by show (some w).bind _=_;show (za2 en (ws.map Sum.inl)).bind _=_;rw[zb1 en ws];rfl
theorem zd9 (en:En)(ws:List W):zax en (ws.map Sum.inl)=true:=by
 unfold zax;refine Bg.mpr fun x hx=>?_;obtain⟨w,_,rfl⟩:=Az.mp hx
 rfl
theorem zls {m:List Bool}{Φ:Fn}{as:GAs}{en e1:En}{ws ws' : List W}{r:W × Bool}(h:as en=some (e1,ws.map Sum.inl))(hm:(ws.map fun _=>false)=m)(hΦ:Φ ws=some (ws',r))(hl:ws'.length=ws.length):zae m Φ as en=some (e1,r):=by
 unfold zae;rw[h];show (if (decide ((ws.map Sum.inl).map isR=m) && zax e1 (ws.map Sum.inl) && zcs (zbc (ws.map Sum.inl)))=true then _ else _)=_;have e:(ws.map Sum.inl).map isR=m:=by rw[<-hm,Dd];rfl
 rw[Ah e,zd9,zgb];show (za2 e1 (ws.map Sum.inl)).bind _=_;rw[zb1];show (Φ ws).bind _=_;rw[hΦ];show (if ws'.length=m.length then _ else _)=_;rw[if_pos (by rw[hl,<-hm,Aa]),zlm (zck ws)]
theorem zoy {m:List Bool}{Φ:Fn}{as:GAs}{en e1:En}{i:Nat}{ws wz:List W}{st st' : W}{r:W × Bool} (h:as en=some (e1,.inr i::ws.map Sum.inl)) (hm:(true::ws.map fun _=>false)=m) (hi:e1[i]?=some (some (st,true))) (hΦ:Φ (st::ws)=some (st' :: wz,r)) (hl:wz.length=ws.length):zae m Φ as en=some (e1.set i (some (st',true)),r):=by
  have cp:∀j,zav (zbc (.inr i::ws.map Sum.inl)) j=if j=i then some 0 else none:=fun j=>by
    have:=zck ws j;unfold zav zbc at this ⊢;rw[Ad,List.findIdx?_cons];by_cases e:j=i
    · subst e;simp
    · have : (some i == some j) = false := by simp; exact fun z => e z.symm
      simp only [this];rw[if_neg e]
      simp_all
  have nd:zcs (zbc (.inr i::ws.map Sum.inl))=true:=by
    unfold zcs;refine Bg.mpr fun j _=>?_;cases j with
    | zero =>
      show (match (zbc (.inr i::ws.map Sum.inl))[0]? with | some (some k)=>zav (zbc (.inr i::ws.map Sum.inl)) k == some 0 | _=>true)=true;show (zav (zbc (.inr i::ws.map Sum.inl)) i == some 0)=true;rw[cp i,if_pos rfl]
      rfl
    | succ j =>
      have:∀k,(zbc (ws.map Sum.inl))[j]?≠some (some k):=fun k=>zc3 (zck ws k) j;have e:(zbc (.inr i::ws.map Sum.inl))[j+1]?=(zbc (ws.map Sum.inl))[j]?:=rfl;rw[e];cases q:(zbc (ws.map Sum.inl))[j]? with
      | none=>rfl
      | some o =>
        cases o with
        | none=>rfl
        | some k=>exact absurd q (this k)
  unfold zae;rw[h];show (if (decide ((.inr i::ws.map Sum.inl).map isR=m) && zax e1 (.inr i::ws.map Sum.inl) && zcs (zbc (.inr i::ws.map Sum.inl)))=true then _ else _)=_;have e:(Sum.inr i::ws.map Sum.inl).map isR=m:=by rw[<-hm,Ad,Dd];rfl
  have ow:zax e1 (.inr i::ws.map Sum.inl)=true:=by
    have:=zd9 e1 ws;unfold zax at this ⊢;rw[Bq,this];simp only [hi,Bool.and_true]
  rw [Ah e,ow,nd];have rs:za2 e1 (.inr i::ws.map Sum.inl)=some (st::ws):=by
    show (resA e1 (.inr i)).bind _=_;have:resA e1 (.inr i)=some st:=by unfold resA;simp only [hi]
    rw[this];show (za2 e1 (ws.map Sum.inl)).bind _=_;rw[zb1]
    rfl
  show (za2 e1 (.inr i::ws.map Sum.inl)).bind _=_;rw[rs];show (Φ (st::ws)).bind _=_;rw[hΦ];show (if (st' :: wz).length=m.length then _ else _)=_;rw[if_pos (by rw[<-hm,Be,Be,Aa,hl])];refine congrArg some (congrArg (·,r) ?_);unfold za8;apply Dw;intro j;rw[List.getElem?_mapIdx];have hi' : i < e1.length:=(An.mp hi).1;by_cases ej:j=i
  · subst ej
    rw[Dn hi',hi];simp only [Fy,cp j,if_pos];rw[<-hm]
    rfl
  · rw [Di (Ne.symm ej)]
    cases e1[j]? with
    | none=>rfl
    | some x=>simp only [Fy,cp j,if_neg ej]
theorem zgo {m:List Bool}{Φ:Fn}{as:GAs}{en:En}{i:Nat}{ws wz:List W}{st st' : W}{r:W × Bool}(h:as en=some (en,.inr i::ws.map Sum.inl))(hm:(true::ws.map fun _=>false)=m)(hi:en[i]?=some (#v[st,5]))(hΦ:Φ (st::ws)=some (st' :: wz,r))(hl:wz.length=ws.length):zae m Φ as en=some (en.set i (#v[st',5]),r):=zoy h hm hi hΦ hl
theorem zv1 {a w:W}{ws:List W}{i:Int}(h:seqW a=some ws)(h2:atI ws i=some w):oIx a (.int i)=#v[w,6]:=by
 unfold oIx;cases a<;>simp_all
theorem oI_t {c:Int->Int->Bool}{g:Int->Int->W}{i j:Int}(h:c i j=true):oI c g (.int i) (.int j)=#v[g i j,6]:=by
 show (if c i j then #v[g i j,6] else none)=_;rw[if_pos h]
theorem set_0 {mp:List Nat}{i:Nat}{g:GE}{en:En}{r:W × Bool}(h:g en=some (en,r))(hi:(mp.contains i || !decide (i < en.length))=false):gSet mp i g en=some (en.set i (some r),.nx):=zkh h hi
theorem arg_0 {g:GE}{en:En}{r:W × Bool}(h:g en=some (en,r)):gArg g en=some (en,.inl r.1):=zcf h
theorem op2_0 {o:O2}{a b:GA}{en:En}{x y:W ⊕ Nat}{w u:W}{r:W × Bool}(h1:a en=some (en,x))(h2:b en=some (en,y))(h3:resA en x=some w)(h4:resA en y=some u)(h5:o w u=some r):gOp2 o a b en=some (en,r):=zbt h1 h2 h3 h4 h5
theorem ya2 {a:GA}{as:GAs}{en:En}{x:W ⊕ Nat}{xs:List (W ⊕ Nat)}(h:a en=some (en,x))(h2:as en=some (en,xs)):gCns a as en=some (en,x::xs):=zz0 h h2
theorem z42 {g:GE}{en:En}{r:W × Bool}(h:g en=some (en,r)):gRet g en=some (en,.ret r):=zz7 h
theorem zzp {m:List Bool}{Φ:Fn}{as:GAs}{en:En}{ws ws' : List W}{r:W × Bool}(h:as en=some (en,ws.map Sum.inl))(hm:(ws.map fun _=>false)=m)(hΦ:Φ ws=some (ws',r))(hl:ws'.length=ws.length):zae m Φ as en=some (en,r):=zls h hm hΦ hl
theorem ztb {i:Nat}{k g:GE}{en:En}{w:W}{ws:List W}{n:Int}{j:Nat}{f f2:Bool}(h:g en=some (en,(w,f)))(hk:k en=some (en,(.int n,f2)))(hi:en[i]?=some (#v[ws,2]))(hj:ixN ws.length n=some j):zbb i k g en=some (en.set i (#v[(ws.set j w),2]),.nx):=by
 unfold zbb;simp only [h,Ci,hi,hk,hj]
theorem par_ev {mp:List Nat}{i j:Nat}{a b:GE}{en e1 e2:En}{r1 r2:W × Bool}(h1:a en=some (e1,r1))(h2:b e1=some (e2,r2))(hc:(mp.contains i || mp.contains j || !decide (i < e2.length) || !decide (j < e2.length))=false):gPar mp i j a b en=some ((e2.set i (#v[r1.1,6])).set j (some r2),.nx):=by
 unfold gPar;rw[h1];show (b e1).bind _=_;rw[h2];show (if (mp.contains i || mp.contains j || !decide (i < e2.length) || !decide (j < e2.length))=true then _ else _)=_;rw[hc]
 rfl
theorem z0k {i:Nat}{g:GE}{en e1:En}{us ws:List W}{r:W × Bool}(h0:en[i]?=some (#v[us,2]))(h:g en=some (e1,r))(h1:e1[i]?=some (#v[ws,2]))(hz:ws.length < sizeLine):gApp i g en=some (e1.set i (#v[(ws++[r.1]),2]),(.non,false)):=by
 unfold gApp;simp only [h0,h,Ci,h1];rw[if_pos hz]
noncomputable def z75 (Ψ:Str->Fn):GS:=(gSeq (gSet [0] 2 (zae [true,false] (Ψ "_law_take") (gCns (zaa 0) (gCns #v[4] gA0)))) (gSeq (gIfS (zai (gOp2 oEq (zaa 2) #v[3])) (gRet (gOp2 oMult (gArg (zas (gCns (gArg (zae [true,false] (Ψ "_law_take") (gCns (zaa 0) (gCns #v[2] gA0)))) gA0))) (zaa 1))) zau) (gSeq (gSet [0] 3 (zas gA0)) (gSeq (gFor [0] (.nm 4) (ze5 (gCns (zaa 1) gA0)) (gSeq (gSet [0] 5 (zae [true,false] (Ψ "_law_take") (gCns (zaa 0) (gCns (gArg (gOp2 oIx (gArg (zas (gCns #v[2] (gCns #v[5] (gCns #v[5] gA0))))) (zaa 2))) gA0)))) (zed (gApp 3 (gOp2 oIx (gArg (zas (gCns #v[5,4] (gCns (gArg (gOpN oInt (gCns (gArg (gOp2 oEq (zaa 5) #v[0])) gA0))) (gCns (gArg (gOpN oInt (gCns (gArg (gOp2 (oI yes2 fun i j=>.bl (decide (j < i))) (zaa 5) #v[0])) gA0))) gA0))))) (zaa 2)))))) (zc9 [0] 3)))))
noncomputable def ztz (Φ:Fn):Prop:=∀(k:Nat) (st:W) (n:Int),HS k st->k+100 < big->0<=n->n<=64->∃st' xs,Φ [st,.int n]=some ([st',.int n],(.lst (xs.map W.int),true))/\HS (k+66) st'/\(xs.length:Int)=n/\Bits xs
theorem three {r:Int}(h0:0<=r)(h:r < 4)(h3:r≠3):r=0\/r=1\/r=2:=by omega
theorem zjn {α:Type}(x:α):∀n:Nat,(List.replicate n [x]).flatten=List.replicate n x
 | 0=>rfl
 | n+1=>by rw[Cr,Dv,zjn x n];rfl
theorem z2q {Ψ:Str->Fn}(hT:ze9 (Ψ "_law_take")):ztz (zal [true,false] 6 (z75 Ψ)):=by
 intro k st n hs hk n0 n1;have hz:(64:Nat)<=sizeLine:=by decide
 nofun;obtain⟨st1,way,e1,h1,h2,h3⟩:=hT k st 4 hs #v[] #v[0,9] #v[0,9];ac_rfl;have c1:zae [true,false] (Ψ "_law_take") (gCns (zaa 0) (gCns #v[4] gA0)) [#v[st,5],#v[n,0],none,none,none,none]=some ([#v[st1,5],#v[n,0],none,none,none,none],(.int way,false)):=zgo (i:=0) (ws:=[.int 4]) (wz:=[.int 4]) rfl rfl rfl e1 rfl;have s1:=zkh (mp:=[0]) (i:=2) c1 rfl;by_cases c3:way=3
 ·subst c3;refine aG fun _ qG=>?_;obtain ⟨st2,b,e2,g1,g2,g3⟩:=hT (k+1) st1 2 h1 (by omega) (by decide) (by decide);refine qG ?_;clear qG;have c2:zae [true,false] (Ψ "_law_take") (gCns (zaa 0) (gCns (gArg (gC (.int 2))) gA0)) [some (st1,true),some (.int n,false),some (.int 3,false),none,none,none]=some ([some (st2,true),some (.int n,false),some (.int 3,false),none,none,none],(.int b,false)):=zgo (i:=0) (ws:=[.int 2]) (wz:=[.int 2]) rfl rfl rfl e2 rfl;have l2:zas (gCns (gArg (zae [true,false] (Ψ "_law_take") (gCns (zaa 0) (gCns (gArg (gC (.int 2))) gA0)))) gA0) [some (st1,true),some (.int n,false),some (.int 3,false),none,none,none]=some ([some (st2,true),some (.int n,false),some (.int 3,false),none,none,none],(.lst [.int b],true)):=by
   unfold zas;rw[zz0 (zcf c2) (show gA0 _=_ from rfl)]
   rfl
  have om:oMult (.lst [.int b]) (.int n)=#v[(List.replicate n.toNat (.int b)),2]:=by
   rw[zj5 (by refine⟨by omega,by omega,?_⟩;show 1 * n.toNat<=sizeLine;omega),zjn]
  refine⟨st2,List.replicate n.toNat b,?_,g1.mono #v[],by rw[Eu];omega,fun x hx=>by rw[List.eq_of_mem_replicate hx];omega⟩;refine zbu (en:=[#v[st2,5],#v[n,0],#v[3,0],none,none,none]) rfl ?_ rfl;refine (seq_nx s1).trans (z5c ?_);refine (z79 (e1:=[#v[st1,5],#v[n,0],#v[3,0],none,none,none]) rfl).trans (zz7 (zbt (zcf l2) rfl rfl rfl ?_));rw[List.map_replicate];exact om
 ·have hw := three h2 h3 c3;have turn:∀(i:Nat) (st:W) (xs:List Int) (v5:Option (W × Bool)),HS (k+1+i) st->i < 64->xs.length=i->∃st' x one,HS (k+1+i+1) st'/\(x=0\/x=1) /\
    (gSeq (gSet [0] 5 (zae [true,false] (Ψ "_law_take") (gCns (zaa 0) (gCns (gArg (gOp2 oIx (gArg (zas (gCns #v[2] (gCns #v[5] (gCns #v[5] gA0))))) (zaa 2))) gA0)))) (zed (gApp 3 (gOp2 oIx (gArg (zas (gCns #v[5,4] (gCns (gArg (gOpN oInt (gCns (gArg (gOp2 oEq (zaa 5) #v[0])) gA0))) (gCns (gArg (gOpN oInt (gCns (gArg (gOp2 (oI yes2 fun i j=>.bl (decide (j < i))) (zaa 5) #v[0])) gA0))) gA0))))) (zaa 2))))) [#v[st,5],#v[n,0],#v[way,0],#v[(xs.map W.int),2],#v[(0+(i:Nat)),0],v5] =
     some ([#v[st',5],#v[n,0],#v[way,0],#v[((xs++[x]).map W.int),2],#v[(0+(i:Nat)),0],#v[one,0]],.nx):=by
   intro i st xs v5 hst hi hl;have zz:(xs.map W.int).length < sizeLine:=by rw[Aa,hl];omega
   have fin:∀(q:Int) (x:Int->Int),(∀one,0<=one->one < q->x one=0\/x one=1)->0 < q->q < 1073741824 ->
     (gCns (zaa 0) (gCns (gArg (gOp2 oIx (gArg (zas (gCns #v[2] (gCns #v[5] (gCns #v[5] gA0))))) (zaa 2))) gA0)) [#v[st,5],#v[n,0],#v[way,0],#v[(xs.map W.int),2],#v[(0+(i:Nat)),0],v5]=some ([#v[st,5],#v[n,0],#v[way,0],#v[(xs.map W.int),2],#v[(0+(i:Nat)),0],v5],[.inr 0,.inl (.int q)]) ->
     (∀(st' : W) (one:Int),(gOp2 oIx (gArg (zas (gCns #v[5,4] (gCns (gArg (gOpN oInt (gCns (gArg (gOp2 oEq (zaa 5) #v[0])) gA0))) (gCns (gArg (gOpN oInt (gCns (gArg (gOp2 (oI yes2 fun i j=>.bl (decide (j < i))) (zaa 5) #v[0])) gA0))) gA0))))) (zaa 2)) [#v[st',5],#v[n,0],#v[way,0],#v[(xs.map W.int),2],#v[(0+(i:Nat)),0],#v[one,0]]=some ([#v[st',5],#v[n,0],#v[way,0],#v[(xs.map W.int),2],#v[(0+(i:Nat)),0],#v[one,0]],(.int (x one),false))) ->
     ∃st' x one,HS (k+1+i+1) st'/\(x=0\/x=1)/\(gSeq (gSet [0] 5 (zae [true,false] (Ψ "_law_take") (gCns (zaa 0) (gCns (gArg (gOp2 oIx (gArg (zas (gCns #v[2] (gCns #v[5] (gCns #v[5] gA0))))) (zaa 2))) gA0)))) (zed (gApp 3 (gOp2 oIx (gArg (zas (gCns #v[5,4] (gCns (gArg (gOpN oInt (gCns (gArg (gOp2 oEq (zaa 5) #v[0])) gA0))) (gCns (gArg (gOpN oInt (gCns (gArg (gOp2 (oI yes2 fun i j=>.bl (decide (j < i))) (zaa 5) #v[0])) gA0))) gA0))))) (zaa 2))))) [#v[st,5],#v[n,0],#v[way,0],#v[(xs.map W.int),2],#v[(0+(i:Nat)),0],v5] =
      some ([#v[st',5],#v[n,0],#v[way,0],#v[((xs++[x]).map W.int),2],#v[(0+(i:Nat)),0],#v[one,0]],.nx):=by
    intro q x hx q0 q1 ha hv;nofun;obtain⟨st',one,e2,g1,g2,g3⟩:=hT (k+1+i) st q hst #v[] q0 q1;ac_rfl;have cc:=zgo (m:=[true,false]) (ws:=[.int q]) (wz:=[.int q]) ha rfl rfl e2 rfl;refine⟨st',x one,one,g1,hx one g2 g3,?_⟩;refine (seq_nx (zkh (mp:=[0]) (i:=5) cc rfl)).trans (zuv (r:=(.non,false)) ?_);rw[Bx];exact z0k (i:=3) rfl (hv st' one) rfl zz
   rcases hw with rfl | rfl | rfl
   ·exact fin 2 (fun one=>one) (fun one a b=>by omega) #v[0,9] #v[0,9] rfl fun st' one=>rfl
   ·refine fin 5 (fun one => if decide (one = 0) then 1 else 0) (fun one a b => ?_) #v[0,9] #v[0,9] rfl fun st' one => rfl;by_cases z:one=0<;>simp [z]
   ·refine fin 5 (fun one => if decide (0 < one) then 1 else 0) (fun one a b => ?_) #v[0,9] #v[0,9] rfl fun st' one => rfl;by_cases z:0 < one<;>simp [z]
  obtain⟨en',hf,hp⟩:=zay (mp:=[0]) (T:=.nm 4) (it:=ze5 (gCns (zaa 1) gA0)) (body:=(gSeq (gSet [0] 5 (zae [true,false] (Ψ "_law_take") (gCns (zaa 0) (gCns (gArg (gOp2 oIx (gArg (zas (gCns #v[2] (gCns #v[5] (gCns #v[5] gA0))))) (zaa 2))) gA0)))) (zed (gApp 3 (gOp2 oIx (gArg (zas (gCns #v[5,4] (gCns (gArg (gOpN oInt (gCns (gArg (gOp2 oEq (zaa 5) #v[0])) gA0))) (gCns (gArg (gOpN oInt (gCns (gArg (gOp2 (oI yes2 fun i j=>.bl (decide (j < i))) (zaa 5) #v[0])) gA0))) gA0))))) (zaa 2))))))
   (fun i e=>∃st xs v4 v5,e=[#v[st,5],#v[n,0],#v[way,0],#v[(xs.map W.int),2],v4,v5]/\HS (k+1+i) st/\xs.length=i/\Bits xs)
   (en:=[#v[st1,5],#v[n,0],#v[way,0],#v[[],2],none,none]) (e0:=[#v[st1,5],#v[n,0],#v[way,0],#v[[],2],none,none]) (ws:=rngW 0 n.toNat)
   (by
    have hr:zd1 n=true:=by unfold zd1;rw[Ah #v[],Ah #v[]];rfl
    show (if zd1 n then some (_,rngW 0 n.toNat) else none)=_;rw[hr];rfl)
   ⟨st1,[],none,none,rfl,h1,rfl,fun x hx=>by cases hx⟩
   (by
    rintro i w e hw' ⟨st,xs,v4,v5,rfl,hst,hl,hb⟩;nofun;obtain⟨hi,rfl⟩:=zef hw';obtain⟨st',x,one,g1,g2,g3⟩:=turn i st xs v5 hst #v[] hl;ac_rfl;refine⟨_,_,rfl,.inl g3,st',xs++[x],_,_,rfl,g1,by rw[Bf,hl];rfl,fun y hy=>?_⟩;rcases Ba.mp hy with hy | hy
    ·exact hb y hy
    ·rw[Al] at hy;subst hy;exact g2)
  nofun;obtain⟨st2,xs,v4,v5,rfl,g1,g2,g3⟩:=hp;ac_rfl;rw[zdm] at g1 g2;refine⟨st2,xs,?_,g1.mono #v[],by omega,g3⟩;refine zbu (en:=[#v[st2,5],#v[n,0],#v[way,0],none,v4,v5]) rfl ?_ rfl;refine (seq_nx s1).trans ((seq_nx (e1:=[#v[st1,5],#v[n,0],#v[way,0],none,none,none]) ?_).trans ((seq_nx (e1:=[#v[st1,5],#v[n,0],#v[way,0],#v[[],2],none,none]) rfl).trans ((seq_nx hf).trans rfl)));rcases hw with rfl | rfl | rfl<;>rfl
noncomputable def z52 (Ψ:Str->Fn):GS:=(gSeq (gSet [] 1 (gC (.int 0))) (gSeq (gFor [] (.nm 2) (gRev (gVar 0)) (gSet [] 1 (gOp2 oAdd (gArg (gOp2 oMult #v[2] (zaa 1))) (zaa 2)))) (zc9 [] 1)))
noncomputable def zof (Φ:Fn):Prop:=∀xs:List Int,Φ [.lst (xs.map W.int)]=some ([.lst (xs.map W.int)],(.int (zad xs),false))
theorem z3v (Ψ:Str->Fn):zof (zal [false] 3 (z52 Ψ)):=by
 intro xs;obtain⟨en',hf,hp⟩:=zay (mp:=[]) (T:=.nm 2) (it:=gRev (gVar 0)) (body:=gSet [] 1 (gOp2 oAdd (gArg (gOp2 oMult #v[2] (zaa 1))) (zaa 2)))
  (fun i e=>∃v2,e=[#v[(xs.map W.int),1],#v[(zad (xs.drop (xs.length - i))),0],v2])
  (en:=[#v[(xs.map W.int),1],#v[0,0],none]) (e0:=[#v[(xs.map W.int),1],#v[0,0],none]) (ws:=(xs.map W.int).reverse) rfl
  ⟨none,by rw[Nat.sub_zero,List.drop_length];rfl⟩
  (by
   rintro i w e hw ⟨v2,rfl⟩;have hi:i < xs.length:=by have:=(An.mp hw).1;rw[Ec,Aa] at this;exact this
   have hj:xs.length - 1 - i < xs.length:=by omega
   have ew:w=.int xs[xs.length - 1 - i]:=by
    rw[List.getElem?_reverse (by rw[Aa];exact hi),Aa,Am,Ac hj] at hw;exact (sI hw).symm
   subst ew;have om:oMult (.int 2) (.int (zad (xs.drop (xs.length - i))))=#v[(2 * zad (xs.drop (xs.length - i))),0]:=oMult_l #v[0,9] #v[0,9];have ed:xs.drop (xs.length - (i+1))=xs[xs.length - 1 - i]::xs.drop (xs.length - i):=by
    have e1:xs.length - (i+1)=xs.length - 1 - i:=by omega
    have e2:xs.length - i=xs.length - 1 - i+1:=by omega
    rw[e1,e2];exact Bz hj
   refine⟨_,_,rfl,.inl (zkh (r:=(.int (zad (xs.drop (xs.length - (i+1)))),false)) (zbt (zcf (zbt (x:=.inl (.int 2)) rfl rfl rfl rfl om)) rfl rfl rfl ?_) rfl),_,rfl⟩;rw[ed]
   rfl)
 obtain⟨v2,rfl⟩:=hp;rw[Ec,Aa,Nat.sub_self,Ee] at hf;exact zbu (en:=[#v[(xs.map W.int),1],#v[(zad xs),0],v2]) rfl ((seq_nx (e1:=[#v[(xs.map W.int),1],#v[0,0],none]) rfl).trans ((seq_nx hf).trans rfl)) rfl
noncomputable def z5i (Ψ:Str->Fn):GS:=(gSeq (gSet [] 1 (zas (gCns #v[0] (gCns #v[0] (gCns #v[0] gA0))))) (gSeq (gIfS (zeb (zai (gOp2 (oI yes2 fun i j=>.bl (decide (j < i))) (gArg (gOpN oLen (gCns (zaa 0) gA0))) #v[0])) (zai (gOp2 (oI yes2 fun i j=>.bl (decide (j<=i))) (gArg (gOp2 oIx (zaa 0) #v[0])) (gArg (gOp2 (oI cPow fun i j=>.int (i ^ j.toNat)) #v[10] #v[18]))))) (gSeq (gSet [] 2 (gC (.int 1))) (gFor [] (.nm 3) (zan (gSl (zaa 0) zci (zga (gC (.int 63))))) (gSeq (zbb 1 (gC (.int 0)) (gOp2 oAdd (gArg (gOp2 oIx (zaa 1) #v[0])) (gArg (gOp2 oMult (gArg (gOp2 #v[0,0,2] (gArg (gOpN oAbs (gCns (zaa 3) gA0))) (gArg (gOp2 (oI cPow fun i j=>.int (i ^ j.toNat)) #v[10] #v[60])))) (zaa 2))))) (gSet [] 2 (gOp2 oMult (zaa 2) (gArg (gOp2 (oI cPow fun i j=>.int (i ^ j.toNat)) #v[10] #v[60]))))))) zau) (gSeq (gFor [] (.tp [4,3]) (zfh (gSl (zaa 0) zci (zga (gC (.int 63))))) (gSeq (gSet [] 5 (gOp2 oAdd (gArg (gOp2 oAdd (gArg (gOp2 #v[0,0,2] (zaa 3) #v[2305843009213693951])) (gArg (gOp2 oMult #v[7919] (zaa 4))))) #v[3])) (zbb 1 (gC (.int 1)) (gOp2 #v[0,0,2] (gArg (gOp2 oAdd (gArg (gOp2 oMult (gArg (gOp2 oIx (zaa 1) #v[1])) #v[48271])) (zaa 5))) #v[2305843009213693951])))) (zc9 [] 1))))
noncomputable def z0d (Φ:Fn):Prop:=∀ns:List Int,ns.length<=63->∃st,Φ [.frl (ns.map W.int)]=some ([.frl (ns.map W.int)],(st,true))/\HS 0 st
theorem z7l {ns:List Int}(h:ns.length<=63):cutW (ns.map W.int) none (some 63)=ns.map W.int:=by
 unfold cutW;have e1:HT.sIx (ns.map W.int).length 0 none=0:=rfl;have e2:HT.sIx (ns.map W.int).length (ns.map W.int).length (some 63)=(ns.map W.int).length:=by
  have:=HT.sIx_nat (ns.map W.int).length (ns.map W.int).length 63;rw[show ((63:Nat):Int)=63 from rfl] at this;rw[this,Aa];omega
 rw[e1,e2,Ee,Nat.sub_zero,Bp]
theorem zic {ns:List Int}{i:Nat}{w:W}(h:(zdx (ns.map W.int) 0)[i]?=some w):∃hi:i < ns.length,w=.tup [.int i,.int ns[i]]:=by
 have hi:i < ns.length:=by have:=(An.mp h).1;rw[za9,Aa] at this;exact this
 have:=zdb (ws:=ns.map W.int) (k:=0) (i:=i) (w:=.int ns[i]) (by rw[Am,Ac hi];rfl);rw[h,Co] at this;exact⟨hi,sI this⟩
theorem z1t (Ψ:Str->Fn):z0d (zal [false] 6 (z5i Ψ)):=by
  intro ns hl;have p18:cPow 10 18=true:=by decide
  have p60:cPow 10 60=true:=by decide
  have first:∃a0 v2 v3,0<=a0/\gIfS (zeb (zai (gOp2 (oI yes2 fun i j=>.bl (decide (j < i))) (gArg (gOpN oLen (gCns (zaa 0) gA0))) (gArg (gC (.int 0))))) (zai (gOp2 (oI yes2 fun i j=>.bl (decide (j<=i))) (gArg (gOp2 oIx (zaa 0) (gArg (gC (.int 0))))) (gArg (gOp2 (oI cPow fun i j=>.int (i ^ j.toNat)) (gArg (gC (.int 10))) (gArg (gC (.int 18)))))))) (gSeq (gSet [] 2 (gC (.int 1))) (gFor [] (.nm 3) (zan (gSl (zaa 0) zci (zga (gC (.int 63))))) (gSeq (zbb 1 (gC (.int 0)) (gOp2 oAdd (gArg (gOp2 oIx (zaa 1) (gArg (gC (.int 0))))) (gArg (gOp2 oMult (gArg (gOp2 (oI (fun _ j=>decide (0 < j)) fun i j=>.int (i % j)) (gArg (gOpN oAbs (gCns (zaa 3) gA0))) (gArg (gOp2 (oI cPow fun i j=>.int (i ^ j.toNat)) (gArg (gC (.int 10))) (gArg (gC (.int 60))))))) (zaa 2))))) (gSet [] 2 (gOp2 oMult (zaa 2) (gArg (gOp2 (oI cPow fun i j=>.int (i ^ j.toNat)) (gArg (gC (.int 10))) (gArg (gC (.int 60)))))))))) zau
      [some (.frl (ns.map W.int),false),#v[[.int 0,.int 0,.int 0],2],none,none,none,none]=some ([some (.frl (ns.map W.int),false),#v[[.int a0,.int 0,.int 0],2],v2,v3,none,none],.nx):=by
    have ln:(zai (gOp2 (oI yes2 fun i j=>.bl (decide (j < i))) (gArg (gOpN oLen (gCns (zaa 0) gA0))) #v[0])) [some (.frl (ns.map W.int),false),#v[[.int 0,.int 0,.int 0],2],none,none,none,none]=some ([some (.frl (ns.map W.int),false),#v[[.int 0,.int 0,.int 0],2],none,none,none,none],decide ((0:Int) < ((ns.map W.int).length:Nat))):=rfl;cases ns with
    | nil=>exact⟨0,none,none,by decide,(z8j (by unfold zeb;rw[ln];rfl)).trans rfl⟩
    | cons n0 nr =>
      have t2:(zai (gOp2 (oI yes2 fun i j=>.bl (decide (j<=i))) (gArg (gOp2 oIx (zaa 0) (gArg (gC (.int 0))))) (gArg (gOp2 (oI cPow fun i j=>.int (i ^ j.toNat)) (gArg (gC (.int 10))) (gArg (gC (.int 18))))))) [some (.frl ((n0::nr).map W.int),false),some (.lst [.int 0,.int 0,.int 0],true),none,none,none,none]=some ([some (.frl ((n0::nr).map W.int),false),some (.lst [.int 0,.int 0,.int 0],true),none,none,none,none],decide (10 ^ 18<=n0)) :=
        z13 (zbt (zcf (zbt rfl rfl rfl rfl (zv1 rfl (zbw (i:=0) rfl)))) (zcf (zbt (x:=.inl (.int 10)) rfl rfl rfl rfl (oI_t p18))) rfl rfl rfl)
      have ln' : decide ((0:Int) < (((n0::nr).map W.int).length:Nat))=true:=Ah (by simp);rw[ln'] at ln;by_cases c:(10:Int) ^ 18<=n0
      · rw [Ah c] at t2
        obtain ⟨en',hf,hp⟩:=zay (mp:=[]) (T:=.nm 3) (it:=zan (gSl (zaa 0) zci (zga (gC (.int 63))))) (body:=(gSeq (zbb 1 (gC (.int 0)) (gOp2 oAdd (gArg (gOp2 oIx (zaa 1) (gArg (gC (.int 0))))) (gArg (gOp2 oMult (gArg (gOp2 (oI (fun _ j=>decide (0 < j)) fun i j=>.int (i % j)) (gArg (gOpN oAbs (gCns (zaa 3) gA0))) (gArg (gOp2 (oI cPow fun i j=>.int (i ^ j.toNat)) (gArg (gC (.int 10))) (gArg (gC (.int 60))))))) (zaa 2))))) (gSet [] 2 (gOp2 oMult (zaa 2) (gArg (gOp2 (oI cPow fun i j=>.int (i ^ j.toNat)) (gArg (gC (.int 10))) (gArg (gC (.int 60)))))))))
          (fun i e=>∃a0 wt v3,e=[some (.frl ((n0::nr).map W.int),false),#v[[.int a0,.int 0,.int 0],2],#v[wt,0],v3,none,none]/\0<=a0/\0 < wt/\wt<=2 ^ (200 * i))
          (en:=[some (.frl ((n0::nr).map W.int),false),#v[[.int 0,.int 0,.int 0],2],#v[1,0],none,none,none]) (e0:=[some (.frl ((n0::nr).map W.int),false),#v[[.int 0,.int 0,.int 0],2],#v[1,0],none,none,none]) (ws:=(n0::nr).map W.int)
          (by
            show some (_,cutW ((n0::nr).map W.int) none (some 63))=_;rw[z7l hl])
          ⟨0,1,none,rfl,by decide,by decide,by decide⟩
          (by
            rintro i w e hw ⟨a0,wt,v3,rfl,q0,q1,q2⟩;rw [Am] at hw;have hi:i < (n0::nr).length:=by
              rcases Nat.lt_or_ge i (n0::nr).length with z | z
              · exact z
              · rw[Cd z] at hw;exact noSome hw
            rw[Ac hi] at hw;have ew:w=.int (n0::nr)[i]:=(sI hw).symm;subst ew;generalize (n0::nr)[i]=n;have y0:0<=(if n < 0 then -n else n) % (10:Int) ^ 60:=Fz _ #v[0,9];have y1:(if n < 0 then -n else n) % (10:Int) ^ 60 < 10 ^ 60:=Fh _ #v[0,9];have hb:i<=63:=by omega
            have b1:Builtin.Int.intBits ((if n < 0 then -n else n) % (10:Int) ^ 60)<=2 ^ 20:=zji (i:=1) y0 (Int.le_trans (Int.le_of_lt y1) #v[0,9]) #v[0,9];have b2:Builtin.Int.intBits wt<=2 ^ 20:=zji #v[] q2 hb;have m1:=zst b1 b2;have m2:=zst b2 (zji (w:=10 ^ 60) (i:=1) #v[0,9] #v[0,9] #v[0,9]);obtain⟨r1,r2⟩:=zy5 q1 q2;refine⟨_,[some (.frl ((n0::nr).map W.int),false),#v[[.int (a0+(if n < 0 then -n else n) % (10:Int) ^ 60 * wt),.int 0,.int 0],2],#v[(wt * 10 ^ 60),0],#v[n,0],none,none],rfl,.inl ?_,_,_,_,rfl,?_,r1,r2⟩
            · refine (seq_nx (e1 := [some (.frl ((n0 :: nr).map W.int), false), some (.lst [.int (a0 + (if n < 0 then -n else n) % (10 : Int) ^ 60 * wt), .int 0, .int 0], true), some (.int wt, false), some (.int n, false), none, none]) ?_).trans (set_0 (op2_0 rfl (arg_0 (op2_0 (x := .inl (.int 10)) rfl rfl rfl rfl (oI_t p60))) rfl rfl m2) rfl)
              have ge:gOp2 oAdd (gArg (gOp2 oIx (zaa 1) (gArg (gC (.int 0))))) (gArg (gOp2 oMult (gArg (gOp2 (oI (fun _ j=>decide (0 < j)) fun i j=>.int (i % j)) (gArg (gOpN oAbs (gCns (zaa 3) gA0))) (gArg (gOp2 (oI cPow fun i j=>.int (i ^ j.toNat)) (gArg (gC (.int 10))) (gArg (gC (.int 60))))))) (zaa 2))) [some (.frl ((n0::nr).map W.int),false),some (.lst [.int a0,.int 0,.int 0],true),some (.int wt,false),some (.int n,false),none,none]=some ([some (.frl ((n0::nr).map W.int),false),some (.lst [.int a0,.int 0,.int 0],true),some (.int wt,false),some (.int n,false),none,none],(.int (a0+(if n < 0 then -n else n) % (10:Int) ^ 60 * wt),false)) :=
                zbt (zcf (zbt rfl rfl rfl rfl (zv1 rfl (zbw (i:=0) rfl)))) (zcf (zbt (zcf (zbt (zcf (z65 rfl rfl rfl)) (zcf (zbt (x:=.inl (.int 10)) rfl rfl rfl rfl (oI_t p60))) rfl rfl (oI_t #v[0,9]))) rfl rfl rfl m1)) rfl rfl rfl
              exact ztb (n:=0) (j:=0) (ws:=[.int a0,.int 0,.int 0]) ge rfl rfl rfl
            · have := Int.mul_nonneg y0 (Int.le_of_lt q1)
              omega)
        nofun;obtain⟨a0,wt,v3,rfl,q0,_⟩:=hp;ac_rfl;exact⟨a0,_,_,q0,(z79 (by unfold zeb;rw[ln];exact t2)).trans ((seq_nx (e1:=[some (.frl ((n0::nr).map W.int),false),#v[[.int 0,.int 0,.int 0],2],#v[1,0],none,none,none]) rfl).trans hf)⟩
      · rw [Ap c] at t2
        exact⟨0,none,none,by decide,(z8j (by unfold zeb;rw[ln];exact t2)).trans rfl⟩
  nofun;obtain⟨a0,v2,v3,q0,hfirst⟩:=first
  refine qG ?_;clear qG;obtain ⟨en',hf,hp⟩:=zay (mp:=[]) (T:=.tp [4,3]) (it:=zfh (gSl (zaa 0) zci (zga (gC (.int 63))))) (body:=(gSeq (gSet [] 5 (gOp2 oAdd (gArg (gOp2 oAdd (gArg (gOp2 (oI (fun _ j=>decide (0 < j)) fun i j=>.int (i % j)) (zaa 3) (gArg (gC (.int 2305843009213693951))))) (gArg (gOp2 oMult (gArg (gC (.int 7919))) (zaa 4))))) (gArg (gC (.int 3))))) (zbb 1 (gC (.int 1)) (gOp2 (oI (fun _ j=>decide (0 < j)) fun i j=>.int (i % j)) (gArg (gOp2 oAdd (gArg (gOp2 oMult (gArg (gOp2 oIx (zaa 1) (gArg (gC (.int 1))))) (gArg (gC (.int 48271))))) (zaa 5))) (gArg (gC (.int 2305843009213693951)))))))
    (fun i e=>∃b v3 v4 v5,e=[some (.frl (ns.map W.int),false),#v[[.int a0,.int b,.int 0],2],v2,v3,v4,v5]/\0<=b/\b < MM)
    (en:=[some (.frl (ns.map W.int),false),#v[[.int a0,.int 0,.int 0],2],v2,v3,none,none]) (e0:=[some (.frl (ns.map W.int),false),#v[[.int a0,.int 0,.int 0],2],v2,v3,none,none]) (ws:=zdx (ns.map W.int) 0)
    (by
      show some (_,zdx (cutW (ns.map W.int) none (some 63)) 0)=_;rw[z7l hl])
    ⟨0,v3,none,none,rfl,by decide,by decide⟩
    (by
      rintro i w e hw ⟨b,v3,v4,v5,rfl,q1,q2⟩;obtain ⟨hi,rfl⟩:=zic hw;generalize ns[i]=n;have hm:MM=2305843009213693951:=rfl;have m1:oMult (.int 7919) (.int (i:Nat))=some (.int (7919 * (i:Nat)),false):=oMult_l (by decide) (by decide);have m2:oMult (.int b) (.int 48271)=some (.int (b * 48271),false):=zmc (by decide) (by decide);refine ⟨_,[some (.frl (ns.map W.int),false),some (.lst [.int a0,.int ((b * 48271+(n % 2305843009213693951+7919 * (i:Nat)+3)) % 2305843009213693951),.int 0],true),v2,some (.int n,false),some (.int (i:Nat),false),some (.int (n % 2305843009213693951+7919 * (i:Nat)+3),false)],rfl,.inl ?_,_,_,_,_,rfl,Fz _ (by decide),Fh _ (by decide)⟩;refine (seq_nx (e1:=[some (.frl (ns.map W.int),false),some (.lst [.int a0,.int b,.int 0],true),v2,some (.int n,false),some (.int (i:Nat),false),some (.int (n % 2305843009213693951+7919 * (i:Nat)+3),false)]) (set_0 (op2_0 (arg_0 (op2_0 (arg_0 (op2_0 rfl rfl rfl rfl (oI_t (by decide)))) (arg_0 (op2_0 (x:=.inl (.int 7919)) rfl rfl rfl rfl m1)) rfl rfl rfl)) rfl rfl rfl rfl) rfl)).trans ?_;have ge:gOp2 (oI (fun _ j=>decide (0 < j)) fun i j=>.int (i % j)) (gArg (gOp2 oAdd (gArg (gOp2 oMult (gArg (gOp2 oIx (zaa 1) (gArg (gC (.int 1))))) (gArg (gC (.int 48271))))) (zaa 5))) (gArg (gC (.int 2305843009213693951))) [some (.frl (ns.map W.int),false),some (.lst [.int a0,.int b,.int 0],true),v2,some (.int n,false),some (.int (i:Nat),false),some (.int (n % 2305843009213693951+7919 * (i:Nat)+3),false)]=some ([some (.frl (ns.map W.int),false),some (.lst [.int a0,.int b,.int 0],true),v2,some (.int n,false),some (.int (i:Nat),false),some (.int (n % 2305843009213693951+7919 * (i:Nat)+3),false)],(.int ((b * 48271+(n % 2305843009213693951+7919 * (i:Nat)+3)) % 2305843009213693951),false)) :=
        zbt (zcf (zbt (zcf (zbt (zcf (zbt rfl rfl rfl rfl (zv1 rfl (zbw (i:=1) rfl)))) rfl rfl rfl m2)) rfl rfl rfl rfl)) rfl rfl rfl (oI_t #v[0,9])
      exact ztb (n:=1) (j:=1) (ws:=[.int a0,.int b,.int 0]) ge rfl rfl rfl)
  nofun;obtain⟨b,w3,w4,w5,rfl,q1,q2⟩:=hp;ac_rfl;refine⟨.lst [.int a0,.int b,.int 0],zbu (en:=[some (.frl (ns.map W.int),false),none,v2,w3,w4,w5]) rfl ?_ rfl,⟨_,_,_,rfl,q0,q1,q2,by decide,by decide⟩⟩;exact (seq_nx (e1:=[some (.frl (ns.map W.int),false),#v[[.int 0,.int 0,.int 0],2],none,none,none,none]) rfl).trans ((seq_nx hfirst).trans ((seq_nx hf).trans rfl))
noncomputable def z7g (Ψ:Str->Fn):GS:=(gSeq (gIfS (zai (gOp1 (oIsi .tuple) (zaa 1))) (gSeq (gIfS (gOrT (zg8 (zai (gOp1 (oIsi .tuple) (zaa 0)))) (zai (gOp2 oNe (gArg (gOpN oLen (gCns (zaa 0) gA0))) (gArg (gOpN oLen (gCns (zaa 1) gA0)))))) (gRet (gC (.bl false))) zau) (gRet (gOpN (oBl fun bs=>bs.all id) (gCns (gArg (zbf [none,none,none] (.tp [1,2]) (gZip (gVar 0) (gVar 1)) gYes (zae [false,false] (Ψ "_law_same") (gCns #v[1,4] (gCns #v[2,4] gA0))))) gA0)))) zau) (gSeq (gIfS (zai (gOp2 oIs (zaa 1) (gArg (gC .non)))) (gRet (gOp2 oIs (zaa 0) (gArg (gC .non)))) zau) (gSeq (gIfS (zai (gOp1 (oIsi .str) (zaa 1))) (gRet (gAnd (gOp1 (oIsi .str) (zaa 0)) (gOp2 oEq (zaa 0) (zaa 1)))) zau) (gRet (gAnd (gOp1 (oIsi .int) (zaa 0)) (gAnd (gNot (gOp1 (oIsi .bool) (zaa 0))) (gOp2 oEq (zaa 0) (zaa 1))))))))
noncomputable def z54 (Φ:Fn):Prop:=∀a b:Int,Φ [.int a,.int b]=some ([.int a,.int b],(.bl (decide (a=b)),false))
theorem zyr (Ψ:Str->Fn):z54 (zal [false,false] 2 (z7g Ψ)):=fun a b=>rfl
theorem zrh (a b x y:Nat)(hx:x < 2)(hy:y < 2):(2 * a+x) &&& (2 * b+y)=2 * (a &&& b)+x * y:=by
 have h1:((2 * a+x) &&& (2 * b+y)) / 2=a &&& b:=by
  have:=Nat.and_div_two_pow (n:=1) (a:=2 * a+x) (b:=2 * b+y);rw[Nat.pow_one] at this;rw[this];have e1:(2 * a+x) / 2=a:=by omega
  have e2:(2 * b+y) / 2=b:=by omega
  rw[e1,e2]
 have h2:((2 * a+x) &&& (2 * b+y)) % 2=x * y:=by
  have:=Nat.and_mod_two_pow (n:=1) (a:=2 * a+x) (b:=2 * b+y);rw[Nat.pow_one] at this;rw[this];have e1:(2 * a+x) % 2=x:=by omega
  have e2:(2 * b+y) % 2=y:=by omega
  rw[e1,e2];have:x=0\/x=1:=by omega
  have:y=0\/y=1:=by omega
  rcases ‹x=0\/x=1› with rfl | rfl<;>rcases ‹y=0\/y=1› with rfl | rfl<;>rfl
 omega
noncomputable def Bit (x:Int):Prop:=x=0\/x=1
theorem zjm {a b x y:Int}(ha:0<=a)(hb:0<=b)(hx:Bit x)(hy:Bit y):Builtin.bitAnd (2 * a+x) (2 * b+y)=2 * Builtin.bitAnd a b+x * y:=by
 have x0:0<=x/\x < 2:=by rcases hx with rfl | rfl<;>decide
 have y0:0<=y/\y < 2:=by rcases hy with rfl | rfl<;>decide
 rw[bitAnd_pp #v[] #v[],bitAnd_pp ha hb];have e1:(2 * a+x).toNat=2 * a.toNat+x.toNat:=by omega
 have e2:(2 * b+y).toNat=2 * b.toNat+y.toNat:=by omega
 rw[e1,e2,zrh _ _ _ _ #v[] #v[]];rcases hx with rfl | rfl<;>rcases hy with rfl | rfl<;>simp
theorem zge (x y:Int):Builtin.bitXor x y=x+y - 2 * Builtin.bitAnd x y:=by
 show Builtin.bitOr x y - Builtin.bitAnd x y=_;rw[bitOr_and];omega
theorem zxd {a b x y:Int}(ha:0<=a)(hb:0<=b)(hx:Bit x)(hy:Bit y):Builtin.bitXor (2 * a+x) (2 * b+y)=2 * Builtin.bitXor a b+(x+y - 2 * (x * y)):=by
 rw[zge,zge,zjm ha hb hx hy];omega
theorem xor_zero (x:Int):Builtin.bitXor x 0=x:=by rw[zge,bitAnd_zero];omega
theorem zero_xor (x:Int):Builtin.bitXor 0 x=x:=by rw[zge,bitAnd_comm,bitAnd_zero];omega
theorem zny (x:Int):Builtin.bitAnd 0 x=0:=by rw[bitAnd_comm,bitAnd_zero]
theorem Bits.head {x:Int}{xs:List Int}(h:Bits (x::xs)):Bit x:=h x Ak
theorem Bits.tail {x:Int}{xs:List Int}(h:Bits (x::xs)):Bits xs:=fun y hy=>h y (Aj _ hy)
theorem zf9 {xs:List Int}(h:Bits xs):0<=zad xs:=(zgl h).1
theorem zbs (x:Int)(xs:List Int):zad (x::xs)=2 * zad xs+x:=rfl
theorem zbi:∀(l h:List Int),zad (l++h)=zad l+2 ^ l.length * zad h
  | [],h=>by show zad h=0+1 * zad h;omega
  | x::l,h=>by
    show 2 * zad (l++h)+x=2 * zad l+x+2 ^ (l.length+1) * zad h;rw[zbi l h,Int.pow_succ,Int.mul_add,Int.mul_comm (2 ^ l.length) 2,Int.mul_assoc];omega
theorem zg5:∀{xs ys:List Int},Bits xs->Bits ys->Builtin.bitAnd (zad xs) (zad ys)=zad (List.zipWith (· * ·) xs ys)
  | [],ys,_,_=>zny _
  | x::xs,[],_,_=>bitAnd_zero _
  | x::xs,y::ys,h1,h2=>by
    rw[zbs,zbs,zjm (zf9 h1.tail) (zf9 h2.tail) h1.head h2.head,zg5 h1.tail h2.tail]
    rfl
theorem Bits.app {l h:List Int}(a:Bits l)(b:Bits h):Bits (l++h):=fun x hx=>(Ba.mp hx).elim (a x) (b x)
noncomputable def z57 (Φ:Fn):Prop:=∀a b:Int,Φ [.int a,.int b]=some ([.int a,.int b],(.int (Builtin.bitXor a b),false))
noncomputable def z98 (Φ:Fn):Prop:=∀a b:Int,Φ [.int a,.int b]=some ([.int a,.int b],(.int (Builtin.bitAnd a b),false))
noncomputable def z4v (Ψ:Str->Fn):GS:=(gRet (gOp2 (oI yes2 fun i j=>.int (Builtin.bitXor i j)) (zaa 0) (zaa 1)))
theorem z3p (Ψ:Str->Fn):z57 (zal [false,false] 2 (z4v Ψ)):=fun a b=>rfl
theorem zpo:∀{xs ys:List Int}{i:Nat}{w:W},(zipW (xs.map W.int) (ys.map W.int))[i]?=some w->∃a b,w=.tup [.int a,.int b]/\xs[i]?=some a/\ys[i]?=some b
  | [],_,_,_,e=>by simp [zipW] at e
  | _::_,[],_,_,e=>by simp [zipW] at e
  | a::xs,b::ys,0,w,e=>⟨a,b,(sI e).symm,rfl,rfl⟩
  | a::xs,b::ys,i+1,w,e=>by
    obtain⟨a',b',h1,h2,h3⟩:=zpo (xs:=xs) (ys:=ys) (i:=i) e;exact⟨a',b',h1,h2,h3⟩
theorem cap3 (i:Nat):zav [none,none,none] i=none:=rfl
theorem zoz {it:GL}{te:GE}{en e0:En}{xs ys:List Int}{f:Int->Int->Int} (hi:it en=some (e0,zipW (xs.map W.int) (ys.map W.int))) (hz:xs.length<=1000)
  (ht:∀v0 a b,a∈xs->b∈ys->te [v0,#v[a,0],#v[b,0]]=some ([v0,#v[a,0],#v[b,0]],(.int (f a b),false))) :
  zbf [none,none,none] (.tp [1,2]) it gYes te en=some (e0,(.lst ((List.zipWith f xs ys).map W.int),true)):=by
 have s9:(1000:Nat)<=sizeLine:=by decide
 have lz:(zipW (xs.map W.int) (ys.map W.int)).length=(List.zipWith f xs ys).length:=by rw[zfq,Aa,Aa,Eb]
 obtain⟨ce',out,hc,hp⟩:=zdj (cap:=[none,none,none]) (T:=.tp [1,2]) (tc:=gYes) (te:=te) (fun i c dn=>(∃v0 v1 v2,c=[v0,v1,v2])/\dn=((List.zipWith f xs ys).take i).map W.int) hi rfl (by rw[lz,Eb];omega) ⟨⟨_,_,_,rfl⟩,rfl⟩
  (by
   rintro i w c dn hw ⟨⟨v0,v1,v2,rfl⟩,rfl⟩;obtain⟨a,b,rfl,h1,h2⟩:=zpo hw;refine⟨[v0,#v[a,0],#v[b,0]],rfl,.inl ⟨_,_,(.int (f a b),false),rfl,ht v0 a b (At h1) (At h2),⟨_,_,_,rfl⟩,?_⟩⟩;rw[Ey,List.getElem?_zipWith,h1,h2,Bx]
   rfl)
 obtain⟨_,rfl⟩:=hp;rw[zlm cap3,lz,Bp] at hc;exact hc
noncomputable def dif (a b:Int):Int:=if !decide (a=b) then 1 else 0
theorem z2d {a b:Int}(ha:Bit a)(hb:Bit b):a+b - 2 * (a * b)=dif a b:=by
 rcases ha with rfl | rfl<;>rcases hb with rfl | rfl<;>decide
theorem zf0:∀{xs ys:List Int},Bits xs->Bits ys->xs.length=ys.length->Builtin.bitXor (zad xs) (zad ys)=zad (List.zipWith dif xs ys)
  | [],[],_,_,_=>xor_zero 0
  | [],_::_,_,_,h=>by cases h
  | _::_,[],_,_,h=>by cases h
  | x::xs,y::ys,h1,h2,hl=>by
    rw[zbs,zbs,zxd (zf9 h1.tail) (zf9 h2.tail) h1.head h2.head,zf0 h1.tail h2.tail (by simpa using hl),z2d h1.head h2.head]
    rfl
theorem zod {f:Int->Int->Int} (hf:∀a b,Bit a->Bit b->Bit (f a b)):∀{xs ys:List Int},Bits xs->Bits ys->Bits (List.zipWith f xs ys)
  | [],_,_,_=>fun x hx=>by simp at hx
  | _::_,[],_,_=>fun x hx=>by simp at hx
  | a::xs,b::ys,h1,h2=>fun x hx=>by
    rcases Aq.mp (show x∈f a b::List.zipWith f xs ys from hx) with rfl | hx
    · exact hf a b h1.head h2.head
    · exact zod hf h1.tail h2.tail x hx
theorem ya3 {a b:Int}(ha:Bit a)(hb:Bit b):Bit (a * b):=by rcases ha with rfl | rfl<;>rcases hb with rfl | rfl<;>first | exact .inl #v[0,9] | exact .inr #v[0,9]
noncomputable def zyl (Φ:Fn):Prop:=∀xs:List Int,Bits xs->xs.length<=1000->Φ [.int (zad xs)]=some ([.int (zad xs)],(.int xs.sum,false))
noncomputable def zsb (Ψ:Str->Fn):GS:=(gRet (gOp2 oEq (gArg (gOp2 #v[0,0,2] (gArg (zae [false] (Ψ "weight") (gCns (gArg (zae [false,false] (Ψ "times") (gCns #v[0,4] (gCns #v[1,4] gA0)))) gA0))) #v[2])) #v[0]))
theorem even_ok {Ψ:Str->Fn} (hW:zyl (Ψ "weight")) (hA:z98 (Ψ "times")) {xs ys:List Int} (bx:Bits xs) (by' : Bits ys) (hz:xs.length<=1000) :
  zal [false,false] 2 (zsb Ψ) [.int (zad xs),.int (zad ys)]=some ([.int (zad xs),.int (zad ys)],(.bl (decide ((List.zipWith (· * ·) xs ys).sum % 2=0)),false)):=by
 have t:=hA (zad xs) (zad ys);rw[zg5 bx by'] at t;exact zbu (en:=[#v[(zad xs),0],#v[(zad ys),0]]) rfl (z42 (op2_0 (arg_0 (op2_0 (arg_0 (zzp (ws:=[.int (zad (List.zipWith (· * ·) xs ys))]) (ya2 (arg_0 (zzp (ws:=[.int (zad xs),.int (zad ys)]) rfl rfl t rfl)) rfl) rfl (hW _ (zod (fun _ _=>ya3) bx by') (by rw[Eb];omega)) rfl)) rfl rfl rfl (oI_t #v[0,9]))) rfl rfl rfl rfl)) rfl
theorem z37 {as:GAs}{en e1:En}{xs:List (W ⊕ Nat)}{j:Int}(h:as en=some (e1,xs))(h2:za2 e1 xs=some [.int j])(h3:zd1 j=true):ze5 as en=some (e1,rngW 0 j.toNat):=by
 unfold ze5;rw[h];show (match za2 e1 xs with | some [.int j]=>if zd1 j then some (e1,rngW 0 j.toNat) else none | _=>none)=_;rw[h2];show (if zd1 j then some (e1,rngW 0 j.toNat) else none)=_;rw[if_pos h3]
noncomputable def tab (n:Nat) (f:Nat->Int):List Int:=(List.range n).map f
theorem zaq (n:Nat)(f:Nat->Int):(tab n f).length=n:=by unfold tab;rw[Aa,Cu]
theorem zdf {n:Nat}{f:Nat->Int}{i:Nat}(h:i < n):(tab n f)[i]?=some (f i):=by unfold tab;rw[Am,List.getElem?_range h];rfl
theorem zb7 {n:Nat}{f g:Nat->Int}(h:∀i,i < n->f i=g i):tab n f=tab n g:=by
 unfold tab;refine Cj fun i hi=>h i (Bj.mp hi)
theorem tab_of (xs:List Int):tab xs.length (fun i=>xs.getD i 0)=xs:=by
 apply Dw;intro i;by_cases h:i < xs.length
 ·rw[zdf h,By,Ac h];rfl
 ·rw[Cd (by rw[zaq];omega),Cd #v[]]
theorem zi5 (n:Nat)(f g:Nat->Int)(h:Int->Int->Int):List.zipWith h (tab n f) (tab n g)=tab n fun i=>h (f i) (g i):=by
 apply Dw;intro i;by_cases hi:i < n
 ·rw[List.getElem?_zipWith,zdf hi,zdf hi,zdf hi]
 ·rw[Cd (by rw[Eb,zaq,zaq];omega),Cd (by rw[zaq];omega)]
theorem zc2 {n:Nat}{f:Nat->Int}(h:∀i,i < n->Bit (f i)):Bits (tab n f):=fun x hx=>by
 obtain⟨i,hi,rfl⟩:=Az.mp hx;exact h i (Bj.mp hi)
theorem zua (a b:Nat)(f:Nat->Int):tab (a+b) f=tab a f++tab b fun i=>f (a+i):=by
 unfold tab;rw[List.range_add,Bx,Dd]
 rfl
theorem zih (n:Nat):tab n (fun _=>0)=List.replicate n 0:=by unfold tab;rw[List.map_const',Cu]
theorem zey (n:Nat):zad (List.replicate n 0)=0:=by
 induction n with
 | zero=>rfl
 | succ n ih=>rw[Cr,zbs,ih];rfl
theorem zob {n:Nat}{f:Nat->Int}{i:Nat}(h:i < n):((tab n f).map W.int)[i]?=some (.int (f i)):=by rw[Am,zdf h];rfl
noncomputable def zbq (p:Nat):List Nat:=(List.range (p+1)).filter fun o=>o &&& p == o
noncomputable def coefF (f:Nat->Int) (p:Nat):Int:=((zbq p).map f).sum % 2
noncomputable def evS (L:List Nat) (f:Nat->Int) (S:Nat):Int:=((L.filter fun i=>S.testBit i).map f).sum
theorem zzn (f:Nat->Int) (A B:Nat):∀L:List Nat,evS L f (A ^^^ B) % 2=(evS L f A+evS L f B) % 2
  | []=>rfl
  | i::L=>by
    have ih:=zzn f A B L;unfold evS at ih ⊢;rw[Ce,Ce,Ce,Bk];cases A.testBit i<;>cases B.testBit i<;>simp only [Ge,Bool.xor_true,Bool.not_true,Bool.not_false,Fa,if_false,Ad,Bb,Em]<;>omega
noncomputable def itS:Nat->Nat->Nat
 | 0,i=>2 ^ i
 | k+1,i=>if i / 2 ^ k % 2=1 then itS k i ^^^ itS k (i - 2 ^ k) else itS k i
theorem z04:∀i:Fin 64,(List.range 64).filter (fun j=>(2 ^ i.val).testBit j)=[i.val]:=by decide +kernel
theorem z23:∀m:Fin 7,∀p:Fin (2 ^ m.val),(List.range 64).filter (fun j=>(itS m.val p.val).testBit j)=zbq p.val:=by decide +kernel
theorem zlx {p o:Nat}(h:o∈zbq p):o<=p:=by
 have:=Bj.mp (Ca.mp h).1;omega
theorem z2g (g:Nat->Int){t:Nat}(ht:t < 64):coefF g t=evS (List.range 64) g (itS 6 t) % 2:=by
 unfold evS coefF;rw[z23 ⟨6,by decide⟩ ⟨t,ht⟩]
theorem zd7 (n:Nat)(f:Nat->Int):tab (n+1) f=tab n f++[f n]:=by unfold tab;rw[List.range_succ,Bx];rfl
theorem zkg:∀(p:Nat) (xs:List Int),Bits xs->Builtin.bitAnd (zad xs / 2 ^ p) 1=xs.getD p 0
  | p,[],_=>by
    show Builtin.bitAnd ((0:Int) / 2 ^ p) 1=0;rw[Int.zero_ediv,zny]
  | 0,x::xs,h=>by
    have a:=zjm (zf9 h.tail) (Int.le_refl 0) h.head (show Bit 1 from .inr rfl);rw[bitAnd_zero] at a;show Builtin.bitAnd (zad (x::xs) / 1) 1=x;rw[Int.ediv_one,zbs];have e:(2 * 0+1:Int)=1:=rfl;rw[e] at a;rw[a];omega
  | p+1,x::xs,h=>by
    have ih:=zkg p xs h.tail;have e:zad (x::xs) / 2 ^ (p+1)=zad xs / 2 ^ p:=by
      rw[zbs,Int.pow_succ,Int.mul_comm ((2:Int) ^ p) 2,<-Int.ediv_ediv_of_nonneg #v[0,9]];congr 1;rcases h.head with q | q<;>rw[q]<;>omega
    rw[e,ih]
    rfl
theorem zxm {n:Nat}{f:Nat->Int}(h:∀i,n<=i->f i=0)(p:Nat):(tab n f).getD p 0=f p:=by
 rw[By];by_cases c:p < n
 ·rw[zdf c];rfl
 ·rw[Cd (by rw[zaq];omega),h p #v[]];rfl
noncomputable def dueL (f:Nat->Int) (n:Nat):List Nat:=(List.range n).filter fun p=>decide (f p=1)
noncomputable def zab (M:List Nat):List W:=M.map fun p:Nat=>W.int p
theorem zao (M:List Nat):zab M=(M.map fun p:Nat=>(p:Int)).map W.int:=by unfold zab;rw[Dd];rfl
theorem zac (M:List Nat):(zab M).length=M.length:=Aa ..
theorem zaf {M:List Nat}{i:Nat}{w:W}(h:(zab M)[i]?=some w):∃p,M[i]?=some p/\w=.int (p:Nat):=by
 unfold zab at h;rw[Am] at h;obtain⟨p,h1,h2⟩:=Option.map_eq_some_iff.mp h;exact⟨p,h1,h2.symm⟩
theorem zok (f g h:Nat->Int):∀n,zad (tab n f)+zad (tab n g) - zad (tab n h)=zad (tab n fun i=>f i+g i - h i)
  | 0=>rfl
  | n+1=>by
    have ih:=zok f g h n;rw[zd7,zd7,zd7,zd7,zbi,zbi,zbi,zbi,<-ih,zaq,zaq,zaq,zaq];show _+2 ^ n * (2 * 0+f n)+(_+2 ^ n * (2 * 0+g n)) - (_+2 ^ n * (2 * 0+h n))=_+2 ^ n * (2 * 0+(f n+g n - h n));rw[show (2 * 0+f n)=f n by omega,show (2 * 0+g n)=g n by omega,show (2 * 0+h n)=h n by omega,show (2 * 0+(f n+g n - h n))=f n+g n - h n by omega,Int.mul_sub,Int.mul_add];omega
theorem zwp {n p:Nat}(h:p < n):(1 * 2 ^ p:Int)=zad (tab n fun i=>if i=p then 1 else 0):=by
 obtain⟨k,rfl⟩ : ∃k,n=p+(1+k):=⟨n - p - 1,by omega⟩;have e1:(tab p fun i=>if i=p then (1:Int) else 0)=List.replicate p 0:=by
  rw[<-zih];exact zb7 fun i hi=>if_neg #v[]
 have e2:(tab k fun i=>if p+(1+i)=p then (1:Int) else 0)=List.replicate k 0:=by
  rw[<-zih];exact zb7 fun i hi=>if_neg #v[]
 have e3:(tab 1 fun i=>if p+i=p then (1:Int) else 0)=[1]:=by
  show [if p+0=p then (1:Int) else 0]=[1];rw[if_pos #v[]]
 rw[zua,zua,e1,e2,e3,zbi,zey,Eu];show _=0+2 ^ p * (2 * zad (List.replicate k 0)+1);rw[zey];omega
theorem z68 (x y:Int):Builtin.bitOr x y=x+y - Builtin.bitAnd x y:=by
 have h:=zge x y;have e:Builtin.bitXor x y=Builtin.bitOr x y - Builtin.bitAnd x y:=rfl;omega
theorem z2m {n p:Nat}{f:Nat->Int}(h:∀i,Bit (f i))(hp:p < n):Builtin.bitOr (zad (tab n f)) (1 * 2 ^ p)=zad (tab n fun i=>if i=p then 1 else f i):=by
 rw[zwp hp,z68,zg5 (zc2 fun i _=>h i) (zc2 fun i _=>by split<;>first | exact .inr rfl | exact .inl rfl),zi5,zok];refine congrArg zad (zb7 fun i _=>?_);by_cases c:i=p
 ·rw[if_pos c,if_pos c];omega
 ·rw[if_neg c,if_neg c];omega
theorem z6p {mp:List Nat}{o:O2}{i:Nat}{g:GA}{en e1:En}{x:W ⊕ Nat}{w u:W}{r:W × Bool}(h0:en[i]?=some (#v[w,6]))(h1:g en=some (e1,x))(h2:resA e1 x=some u)(h3:o w u=some r)(hc:(mp.contains i || !decide (i < e1.length))=false):gAug mp o i g en=some (e1.set i (some r),.nx):=by
 unfold gAug;rw[h0];show (g en).bind _=_;rw[h1];show (resA e1 x).bind _=_;rw[h2];show (o w u).bind _=_;rw[h3];show (if (mp.contains i || !decide (i < e1.length))=true then none else some (e1.set i (some r),Fl.nx))=_;rw[hc]
 rfl
noncomputable def z6d (Ψ:Str->Fn):GS:=(gRet (gOp2 (oI yes2 fun i j=>.int (Builtin.bitAnd i j)) (gArg (gOp2 (oI (fun _ j=>decide (0<=j)) fun i j=>.int (i / 2 ^ j.toNat)) (zaa 0) (zaa 1))) #v[1]))
noncomputable def zz3 (Φ:Fn):Prop:=∀(n p:Nat) (f:Nat->Int),(∀i,Bit (f i))->(∀i,n<=i->f i=0)->Φ [.int (zad (tab n f)),.int (p:Nat)]=some ([.int (zad (tab n f)),.int (p:Nat)],(.int (f p),false))
theorem z2b (Ψ:Str->Fn):zz3 (zal [false,false] 2 (z6d Ψ)):=fun n p f hf h0=>by
 have s:=zkg p _ (zc2 (n:=n) fun i _=>hf i);rw[zxm h0] at s;have a:gArg (gOp2 (oI (fun _ j=>decide (0<=j)) fun i j=>.int (i / 2 ^ j.toNat)) (zaa 0) (zaa 1)) [#v[(zad (tab n f)),0],#v[(p:Nat),0]]=some ([#v[(zad (tab n f)),0],#v[(p:Nat),0]],.inl (.int (zad (tab n f) / 2 ^ p))):=arg_0 (r:=(.int (zad (tab n f) / 2 ^ p),false)) (op2_0 (x:=.inl (.int (zad (tab n f)))) (y:=.inl (.int (p:Nat))) rfl rfl rfl rfl (oI_t (Ah (Int.natCast_nonneg p))));refine zbu (en:=[#v[(zad (tab n f)),0],#v[(p:Nat),0]]) rfl (z42 (op2_0 a (show gArg (gC (.int 1)) _=some (_,.inl (.int 1)) from rfl) rfl rfl ?_)) rfl;show some (W.int (Builtin.bitAnd (zad (tab n f) / 2 ^ p) 1),false)=_;rw[s]
noncomputable def zvo (Ψ:Str->Fn):GS:=(gSeq (gSet [] 1 (gC (.int 0))) (gSeq (gFor [] (.nm 2) (zan (gVar 0)) (gAug [] (oI yes2 fun i j=>.int (Builtin.bitOr i j)) 1 (gArg (gOp2 #v[0,0,1] #v[1] (zaa 2))))) (zc9 [] 1)))
theorem zcq:∀ws:List W,zbg (ws.map Sum.inl)=some ws
 | []=>rfl
 | w::ws=>by show (zbg (ws.map Sum.inl)).bind _=_;rw[zcq ws];rfl
theorem zft:∀{xs:List (W ⊕ Nat)}{ws:List W},zbg xs=some ws->xs=ws.map Sum.inl
  | [],_,e=>by obtain rfl:=sI e;rfl
  | .inl w::xs,_,e=>by
    obtain⟨ws,h,e⟩:=bS (show (zbg xs).bind _=_ from e);obtain rfl:=sI e;rw[zft h];rfl
  | .inr _::_,_,e=>by exact noSome e
theorem zkw {xs:List (W ⊕ Nat)} (m:List Bool) (hm:(m.all fun b=>!b)=true) (h:xs.map isR=m):∃ws:List W,xs=ws.map Sum.inl:=by
  induction xs generalizing m with
  | nil=>exact⟨[],rfl⟩
  | cons x xs ih =>
    cases m with
    | nil=>cases h
    | cons b m =>
      rw[Ad] at h;injection h with h1 h2;rw[Bq,Ai] at hm;obtain⟨ws,e⟩:=ih m hm.2 h2;cases x with
      | inl w=>exact⟨w::ws,by rw[e];rfl⟩
      | inr i=>rw[<-h1] at hm;cases hm.1
theorem zgh:∀{m:List Bool} (hm:(m.all fun b=>!b)=true) (ws:List W),ws.length=m.length->(ws.map fun _=>false)=m
  | [],_,[],_=>rfl
  | [],_,_::_,h=>by cases h
  | _::_,_,[],h=>by cases h
  | b::m,hm,w::ws,h=>by
    rw[Bq,Ai] at hm;rw[Ad,zgh hm.2 ws (by simpa using h)];cases b with
    | false=>rfl
    | true=>cases hm.1
theorem zcw (m:List Bool) (Φ:Fn) (as:GAs) (en:En) (hm:(m.all fun b=>!b)=true):zae m Φ as en=(as en).bind fun p=>(zbg p.2).bind fun ws=>if ws.length=m.length then (Φ ws).bind fun q=>if q.1.length=m.length then some (p.1,q.2) else none else none:=by
  cases ha:as en with
  | none=>unfold zae;rw[ha];rfl
  | some p =>
    obtain⟨e1,xs⟩:=p;show _=(zbg xs).bind _;cases hf:zbg xs with
    | none =>
      unfold zae;rw[ha];show (if (decide (xs.map isR=m) && _ && _)=true then _ else none)=none;rw[Ap (fun z=>by obtain⟨ws,e⟩:=zkw m hm z;rw[e,zcq] at hf;cases hf)]
      rfl
    | some ws =>
      have ex:=zft hf;subst ex;show _=if ws.length=m.length then _ else none;by_cases hl:ws.length=m.length
      · rw [if_pos hl]
        have h1:=zgh hm ws hl;cases hq:Φ ws with
        | none =>
          unfold zae;rw[ha];show (if (decide ((ws.map Sum.inl).map isR=m) && zax e1 (ws.map Sum.inl) && zcs (zbc (ws.map Sum.inl)))=true then _ else _)=_;have e:(ws.map Sum.inl).map isR=m:=by rw[<-h1,Dd];rfl
          rw[Ah e,zd9,zgb];show (za2 e1 (ws.map Sum.inl)).bind _=_;rw[zb1];show (Φ ws).bind _=_;rw[hq]
          rfl
        | some q =>
          obtain⟨ws',r⟩:=q;show _=if ws'.length=m.length then some (e1,r) else none;by_cases hl2:ws'.length=m.length
          · rw [if_pos hl2]
            exact zls ha h1 hq #v[]
          · rw [if_neg hl2]
            unfold zae;rw[ha];show (if (decide ((ws.map Sum.inl).map isR=m) && zax e1 (ws.map Sum.inl) && zcs (zbc (ws.map Sum.inl)))=true then _ else _)=_;have e:(ws.map Sum.inl).map isR=m:=by rw[<-h1,Dd];rfl
            rw[Ah e,zd9,zgb];show (za2 e1 (ws.map Sum.inl)).bind _=_;rw[zb1];show (Φ ws).bind _=_;rw[hq];show (if ws'.length=m.length then _ else none)=none;rw[if_neg hl2]
      · rw [if_neg hl]
        unfold zae;rw[ha];show (if (decide ((ws.map Sum.inl).map isR=m) && _ && _)=true then _ else none)=none;rw[Ap (fun z=>hl (by rw[<-z,Aa,Aa]))]
        rfl
theorem zdk (m:List Bool) (Φ:Fn) (as:GAs) (en:En) (hm:(m.all fun b=>!b)=true):zae (true::m) Φ as en=(as en).bind fun p=>match p.2 with
    | .inr i::xs=>(zbg xs).bind fun ws=>(match p.1[i]? with
      | some (some (st,true))=>if ws.length=m.length then (Φ (st::ws)).bind fun q=>(match q.1 with
        | st' :: wz=>if wz.length=m.length then some (p.1.set i (#v[st',5]),q.2) else none
        | []=>none) else none
      | _=>none)
    | _=>none:=by
  cases ha:as en with
  | none=>unfold zae;rw[ha];rfl
  | some p =>
    obtain ⟨e1,xs⟩:=p;have base:zae (true::m) Φ as en=if decide (xs.map isR=true::m) && zax e1 xs && zcs (zbc xs) then (za2 e1 xs).bind fun ws=>(Φ ws).bind fun q=>if q.1.length=(true::m).length then some (za8 (zbc xs) e1 (za7 (true::m) q.1),q.2) else none else none:=by
      unfold zae;rw[ha];rfl
    have bad:xs.map isR≠true::m->zae (true::m) Φ as en=none:=fun z=>by rw[base,Ap z];rfl
    have bad2:zax e1 xs=false->zae (true::m) Φ as en=none:=fun z=>by rw[base,z,Eh];rfl
    simp only [Ci]
    match xs,ha,base,bad,bad2 with
    | [],ha,_,bad,_=>rw[bad (by simp)]
    | .inl w::xs,ha,_,bad,_=>rw[bad (by simp [isR])]
    | .inr i::xs,ha,base,bad,bad2 =>
      simp only;cases hf:zbg xs with
      | none=>rw [bad (fun z=>by
          rw[Ad] at z;injection z with _ z;obtain⟨ws,e⟩:=zkw m hm z;rw[e,zcq] at hf;cases hf)];rfl
      | some ws =>
        have ex:=zft hf;subst ex;simp only [Ci];have no:(∀st,e1[i]?≠some (some (st,true)))->zax e1 (.inr i::ws.map Sum.inl)=false:=fun z=>by
          unfold zax;rw [Bq];have:(match e1[i]? with | some (some (_,true))=>true | _=>false)=false:=by
            split
            · rename_i q;exact absurd q (z _)
            · rfl
          simp only [this,Eg]
        split
        · rename_i st hst
          by_cases hl:ws.length=m.length
          · rw [if_pos hl]
            have h1:=zgh hm ws hl;cases hq:Φ (st::ws) with
            | none =>
              rw[base];split
              · have rs:za2 e1 (.inr i::ws.map Sum.inl)=some (st::ws):=by
                  show (resA e1 (.inr i)).bind _=_;have:resA e1 (.inr i)=some st:=by unfold resA;simp only [hst]
                  rw[this];show (za2 e1 (ws.map Sum.inl)).bind _=_;rw[zb1]
                  rfl
                rw[rs];show (Φ (st::ws)).bind _=_;rw[hq]
                rfl
              · rfl
            | some q =>
              obtain ⟨ws',r⟩:=q;simp only [Ci];have nn:ws'.length≠(true::m).length->zae (true::m) Φ as en=none:=fun z=>by
                rw[base];split
                · have rs:za2 e1 (.inr i::ws.map Sum.inl)=some (st::ws):=by
                    show (resA e1 (.inr i)).bind _=_;have:resA e1 (.inr i)=some st:=by unfold resA;simp only [hst]
                    rw[this];show (za2 e1 (ws.map Sum.inl)).bind _=_;rw[zb1]
                    rfl
                  rw[rs];show (Φ (st::ws)).bind _=_;rw[hq];show (if ws'.length=(true::m).length then _ else none)=none;rw[if_neg z]
                · rfl
              match ws',hq,nn with
              | [],hq,nn=>rw[nn (by simp)]
              | st' :: wz,hq,nn =>
                simp only;by_cases hl2:wz.length=m.length
                · rw [if_pos hl2]
                  exact zoy ha (by rw[h1]) hst hq #v[]
                · rw[if_neg hl2,nn (by simpa using hl2)]
          · rw [if_neg hl,bad (fun z=>hl (by
              have:=congrArg List.length z;simpa using this))]
        · rename_i hst
          exact bad2 (no fun st z=>hst st z)
theorem oI_e {c:Int->Int->Bool}{g:Int->Int->W}{i j:Int}:oI c g (.int i) (.int j)=if c i j then #v[g i j,6] else none:=rfl
theorem z5v {i j:Int}:yes2 i j=true:=rfl
theorem zxh {ws:List W}:seqW (.tup ws)=some ws:=rfl
theorem zy6 {ws:List W}:seqW (.lst ws)=some ws:=rfl
theorem zys {ws:List W}:seqL (.lst ws)=some ws:=rfl
theorem ya1 {a:W}{i:Int}:oIx a (.int i)=(seqW a).bind fun ws=>(atI ws i).bind fun w=>#v[w,6]:=by cases a<;>rfl
theorem z5s {en:En}{w:W}:resA en (.inl w)=some w:=rfl
theorem z7n {en:En}{i:Nat}:resA en (.inr i)=match en[i]? with | some (some (w,_))=>some w | _=>none:=by
 unfold resA;rfl
theorem z9d {i j:Int}:oEq (.int i) (.int j)=some (.bl (decide (i=j)),false):=rfl
theorem yal {i j:Int}:oNe (.int i) (.int j)=some (.bl (!decide (i=j)),false):=rfl
theorem zyy {w:W}{xs:List (W ⊕ Nat)}:zbg (.inl w::xs)=(zbg xs).bind fun ws=>some (w::ws):=rfl
theorem zzk:zbg []=some []:=rfl
theorem z1b {en:En}{x:W ⊕ Nat}{xs:List (W ⊕ Nat)}:za2 en (x::xs)=(resA en x).bind fun w=>(za2 en xs).bind fun ws=>some (w::ws):=rfl
theorem z2u {en:En}:za2 en []=some []:=rfl
theorem z05 {b:Bool}{m:List Bool}{w:W}{ws:List W}:za7 (b::m) (w::ws)=some (w,b)::za7 m ws:=rfl
theorem z1e {ws:List W}:za7 [] ws=[]:=by unfold za7;simp
theorem z7z {en:En}:zcp [] [] en=some []:=rfl
theorem z5d {m:List Bool}{w u:W}{ws:List W}{en:En}:zcp (true::m) (u::ws) (#v[w,5]::en)=(zcp m ws en).bind fun r=>some (w::r):=rfl
theorem z81 {m:List Bool}{w:W}{ws:List W}{x:Option (W × Bool)}{en:En}:zcp (false::m) (w::ws) (x::en)=(zcp m ws en).bind fun r=>some (w::r):=rfl
theorem ya9 {x:W}{xs:List W}:atI (x::xs) 0=some x:=by
 have:=zbw (xs:=x::xs) (i:=0) rfl;exact this
theorem yae {x y:W}{xs:List W}:atI (x::y::xs) 1=some y:=by
 have:=zbw (xs:=x::y::xs) (i:=1) rfl;exact this
theorem z9e {x y z:W}{xs:List W}:atI (x::y::z::xs) 2=some z:=by
 have:=zbw (xs:=x::y::z::xs) (i:=2) rfl;exact this
theorem zw8 {n:Nat}:((no_index (OfNat.ofNat n):Nat):Int)=(OfNat.ofNat n:Int):=rfl
theorem zw1 {xs ys:List W}:oAdd (.lst xs) (.lst ys)=if xs.length+ys.length<=sizeLine then #v[(xs++ys),2] else none:=by
 by_cases h:xs.length+ys.length<=sizeLine
 ·rw[if_pos h];exact zje h
 ·rw [if_neg h];show oOr oCat (oOr zxz (oOr z2j zx6)) (.lst xs) (.lst ys)=none;have e:oCat (.lst xs) (.lst ys)=none:=by
   show (if xs.length+ys.length<=sizeLine then _ else none)=none;rw[if_neg h]
  unfold oOr;rw[e]
  rfl
theorem zl5:oIsi .int .non=some (.bl false,false):=rfl
theorem zq4 {b:Bool}:oIsi .int (.bl b)=some (.bl true,false):=rfl
theorem zm6 {n:Int}:oIsi .int (.int n)=some (.bl true,false):=rfl
theorem zl2 {x:Str}:oIsi .int (.str x)=some (.bl false,false):=rfl
theorem zl3 {xs:List W}:oIsi .int (.tup xs)=some (.bl false,false):=rfl
theorem zmo {xs:List W}:oIsi .int (.lst xs)=some (.bl false,false):=rfl
theorem zmm:oIsi .int .dic=some (.bl false,false):=rfl
theorem zlj:oIsi .bool .non=some (.bl false,false):=rfl
theorem zl9 {b:Bool}:oIsi .bool (.bl b)=some (.bl true,false):=rfl
theorem zla {n:Int}:oIsi .bool (.int n)=some (.bl false,false):=rfl
theorem zjs {x:Str}:oIsi .bool (.str x)=some (.bl false,false):=rfl
theorem zlq {xs:List W}:oIsi .bool (.tup xs)=some (.bl false,false):=rfl
theorem zjv {xs:List W}:oIsi .bool (.lst xs)=some (.bl false,false):=rfl
theorem zli:oIsi .bool .dic=some (.bl false,false):=rfl
theorem znk:oIsi .str .non=some (.bl false,false):=rfl
theorem zqv {b:Bool}:oIsi .str (.bl b)=some (.bl false,false):=rfl
theorem znl {n:Int}:oIsi .str (.int n)=some (.bl false,false):=rfl
theorem znj {x:Str}:oIsi .str (.str x)=some (.bl true,false):=rfl
theorem zm0 {xs:List W}:oIsi .str (.tup xs)=some (.bl false,false):=rfl
theorem znh {xs:List W}:oIsi .str (.lst xs)=some (.bl false,false):=rfl
theorem zlz:oIsi .str .dic=some (.bl false,false):=rfl
theorem zi1:oIsi .tuple .non=some (.bl false,false):=rfl
theorem zkr {b:Bool}:oIsi .tuple (.bl b)=some (.bl false,false):=rfl
theorem zi8 {n:Int}:oIsi .tuple (.int n)=some (.bl false,false):=rfl
theorem zif {x:Str}:oIsi .tuple (.str x)=some (.bl false,false):=rfl
theorem ziv {xs:List W}:oIsi .tuple (.tup xs)=some (.bl true,false):=rfl
theorem zjf {xs:List W}:oIsi .tuple (.lst xs)=some (.bl false,false):=rfl
theorem zia:oIsi .tuple .dic=some (.bl false,false):=rfl
theorem zln:oIsi .list .non=some (.bl false,false):=rfl
theorem zni {b:Bool}:oIsi .list (.bl b)=some (.bl false,false):=rfl
theorem zj8 {n:Int}:oIsi .list (.int n)=some (.bl false,false):=rfl
theorem zll {x:Str}:oIsi .list (.str x)=some (.bl false,false):=rfl
theorem zkl {xs:List W}:oIsi .list (.tup xs)=some (.bl false,false):=rfl
theorem zkk {xs:List W}:oIsi .list (.lst xs)=some (.bl true,false):=rfl
theorem zlv:oIsi .list .dic=some (.bl false,false):=rfl
theorem ybe {i j:Bool}:oEq (.bl i) (.bl j)=some (.bl (decide (i=j)),false):=rfl
theorem z9g {i j:Bool}:oNe (.bl i) (.bl j)=some (.bl (!decide (i=j)),false):=rfl
theorem ya0 {i j:Str}:oEq (.str i) (.str j)=some (.bl (decide (i=j)),false):=rfl
theorem z90 {i j:Str}:oNe (.str i) (.str j)=some (.bl (!decide (i=j)),false):=rfl
theorem z92 {i j:Bool}:oIs (.bl i) (.bl j)=some (.bl (decide (i=j)),false):=rfl
theorem zpk {f:List Bool->Bool}{bs:List Bool}:oBl f [.lst (bs.map W.bl)]=some (.bl (f bs),false):=by
 show (zl0 (bs.map W.bl)).bind _=_;rw[zlf];rfl
theorem zcj {cap:Cap}{it:GL}{te:GE}{en e0:En}{ws rs:List W}{xs:En} (hi:it en=some (e0,ws)) (hz:ws.length<=1000) (hl:rs.length=ws.length) (hn:zcs cap=true) (hk:(capKeep cap).contains 1=false) (hx:zfr cap e0=none::none::xs) (hb:∀v0 v1,za8 cap e0 (v0::v1::xs)=e0)
  (ht:∀(i:Nat) v0 w r,ws[i]?=some w->rs[i]?=some r->∃u f,te (v0::#v[w,6]::xs)=some (v0::u::xs,(r,f))) :
  zbf cap (.nm 1) it gYes te en=some (e0,(.lst rs,true)):=by
 have s9:(1000:Nat)<=sizeLine:=by decide
 obtain⟨ce',out,hc,hp⟩:=zdj (cap:=cap) (T:=.nm 1) (tc:=gYes) (te:=te) (fun i c dn=>(∃v0 v1,c=v0::v1::xs)/\dn=rs.take i) hi hn #v[] ⟨⟨_,_,hx⟩,rfl⟩
  (fun i w c dn hw hp=>by
   obtain⟨⟨v0,v1,rfl⟩,rfl⟩:=hp;have lt:i < ws.length:=(An.mp hw).1;have hr:rs[i]?=some rs[i]:=Ac #v[];obtain⟨u,f,h⟩:=ht i v0 w _ hw hr;refine⟨v0::#v[w,6]::xs,?_,.inl ⟨_,_,_,rfl,h,⟨_,_,rfl⟩,?_⟩⟩
   ·show (if (capKeep cap).contains 1 || !decide (1 < (v0 :: v1 :: xs).length) then none else _) = _;rw[hk,Ah (by rw[Be,Be];omega)]
    rfl
   ·show rs.take i ++ [rs[i]] = rs.take (i + 1);rw[Ey,hr];rfl)
 obtain⟨⟨v0,v1,rfl⟩,rfl⟩:=hp;rw[hb,<-hl,Bp] at hc;exact hc
theorem zco {T:List Fd}{bn:List Str}{d:Nat}{x:Str}{t:Fd}{g:GS}(h:T.find? (·.nm == x)=some t)(hb:za0 T bn (sem T bn (d+2)) (d+2) t=some g):sem T bn (d+3) x=zal t.m t.N.length g:=by
 show (match T.find? (·.nm == x) with | some t=>fnAt T bn (sem T bn (d+2)) (d+2) t | none=>fun _=>none)=_;rw[h];show fnAt T bn (sem T bn (d+2)) (d+2) t=_;unfold fnAt;rw[hb]
noncomputable def evA:=And.intro @oI_e ( And.intro @z5v ( And.intro @zse ( And.intro @zw1 ( And.intro @zxh ( And.intro @zy6 ( And.intro @zys ( And.intro @ya1 ( And.intro @z5s ( And.intro @z7n ( And.intro @z9d ( And.intro @yal ( And.intro @ybe ( And.intro @z9g ( And.intro @ya0 ( And.intro @z90 ( And.intro @z92 ( And.intro @zpk ( And.intro @zyy ( And.intro @zzk ( And.intro @z1b ( And.intro @z2u ( And.intro @z05 ( And.intro @z1e ( And.intro @z7z ( And.intro @z5d ( And.intro @z81 ( And.intro (fun Φ as en=>zcw [false] Φ as en rfl) ( And.intro (fun Φ as en=>zcw [false,false] Φ as en rfl) ( And.intro (fun Φ as en=>zcw [false,false,false] Φ as en rfl) ( And.intro (fun Φ as en=>zcw [false,false,false,false] Φ as en rfl) ( And.intro (fun Φ as en=>zdk [] Φ as en rfl) ( And.intro (fun Φ as en=>zdk [false] Φ as en rfl) ( And.intro (fun Φ as en=>zdk [false,false] Φ as en rfl) ( And.intro (fun Φ as en=>zdk [false,false,false] Φ as en rfl) ( And.intro @ya9 ( And.intro @yae ( And.intro @z9e ( And.intro @Dg ( And.intro @zl5 ( And.intro @zq4 ( And.intro @zm6 ( And.intro @zl2 ( And.intro @zl3 ( And.intro @zmo ( And.intro @zmm ( And.intro @zlj ( And.intro @zl9 ( And.intro @zla ( And.intro @zjs ( And.intro @zlq ( And.intro @zjv ( And.intro @zli ( And.intro @znk ( And.intro @zqv ( And.intro @znl ( And.intro @znj ( And.intro @zm0 ( And.intro @znh ( And.intro @zlz ( And.intro @zi1 ( And.intro @zkr ( And.intro @zi8 ( And.intro @zif ( And.intro @ziv ( And.intro @zjf ( And.intro @zia ( And.intro @zln ( And.intro @zni ( And.intro @zj8 ( And.intro @zll ( And.intro @zkl ( And.intro @zkk ( And.intro @zlv ( And.intro @zw8 ( And.intro @Option.bind_some.{0,0} ( And.intro @Option.bind_none.{0,0} ( And.intro @List.length_cons.{0} ( And.intro @List.length_nil.{0} ( And.intro @List.getElem?_cons_zero.{0} ( And.intro @List.getElem?_cons_succ.{0} ( And.intro @List.set_cons_zero.{0} ( And.intro @List.set_cons_succ.{0} ( And.intro @List.nil_append.{0} ( And.intro @List.cons_append.{0} ( And.intro @List.contains_nil.{0} ( And.intro @Bool.false_or ( And.intro @Bool.or_false ( And.intro @Bool.not_true ( And.intro @Bool.not_false ( And.intro @Co ( And.intro @Nat.lt_add_one ( And.intro @Nat.zero_lt_succ ( And.intro @decide_true ( And.intro @decide_false ( And.intro @Dc ( And.intro @List.elem_nil.{0} ( And.intro @List.elem_cons.{0} ( And.intro @Em ( And.intro @Bool.true_eq_false ( And.intro @Bool.or_self ( And.intro @Bool.and_self ( And.intro @Bool.true_and ( And.intro @Eg ( And.intro @Bool.and_true ( And.intro @Eh ( And.intro @Bool.true_or ( And.intro @Bool.or_true ( And.intro @Dx ( And.intro @gVar.eq_1 ( And.intro @zaa.eq_1 ( And.intro @gC.eq_1 ( And.intro @gArg.eq_1 ( And.intro @gA0.eq_1 ( And.intro @gCns.eq_1 ( And.intro @gOp1.eq_1 ( And.intro @gOp2.eq_1 ( And.intro @gOpN.eq_1 ( And.intro @zai.eq_1 ( And.intro @gAnd.eq_1 ( And.intro @gOr.eq_1 ( And.intro @gNot.eq_1 ( And.intro @zeb.eq_1 ( And.intro @gOrT.eq_1 ( And.intro @zg8.eq_1 ( And.intro @gIf.eq_1 ( And.intro @zg3.eq_1 ( And.intro @zas.eq_1 ( And.intro @znu.eq_1 ( And.intro @zci.eq_1 ( And.intro @zga.eq_1 ( And.intro @gSl.eq_1 ( And.intro @zan.eq_1 ( And.intro @ze5.eq_1 ( And.intro @z9n.eq_1 ( And.intro @gRev.eq_1 ( And.intro @zau.eq_1 ( And.intro @gBrk.eq_1 ( And.intro @gCnt.eq_1 ( And.intro @gSeq.eq_1 ( And.intro @gRet.eq_1 ( And.intro @z9i.eq_1 ( And.intro @gIfS.eq_1 ( And.intro @zed.eq_1 ( And.intro @gSet.eq_1 ( And.intro @gAsg.eq_1 ( And.intro @gPar.eq_1 ( And.intro @zbb.eq_1 ( And.intro @gApp.eq_1 ( And.intro @gExt.eq_1 ( And.intro @gAug.eq_1 ( And.intro @gYes.eq_1 ( And.intro @zc9.eq_1 ( And.intro @gZip.eq_1 ( And.intro @zfh.eq_1 ( And.intro @zal.eq_1 ( And.intro @z9r.eq_1 (@z9z.eq_1)))))))))))))))))))))))))))))))))))))))))))))))))))))))))))))))))))))))))))))))))))))))))))))))))))))))))))))))))))))))))))))))))))))))))))))))))))))))))))))
end L2
local macro_rules | `(tactic| simp! [$xs,*])=>`(tactic| simp only [L2.evA,L2.tgSet,L2.keyW,L2.oNeg,L2.oLen,L2.setAll,List.replicate,List.contains,eq_self,Nat.reduceAdd,Nat.reduceSub,Nat.reduceLT,Nat.reduceLeDiff,reduceIte,reduceCtorEq,Nat.reduceEqDiff,Nat.reduceBEq,↓reduceIte,Int.reduceEq,Int.reduceLE,Int.reduceLT,Int.reduceAdd,Int.reduceSub,Int.reduceMul,Int.reduceNeg,$xs,*])
namespace L2
open PySem PySem.Spec PyProof.Rows
noncomputable def tmW (t:List Nat):W:=.tup (t.map fun l=>.int (l:Nat))
noncomputable def zud:Nat->Nat->Nat->Nat->List (List Nat)
 | _,_,_,0=>[[]]
 | 0,_,_,_+1=>[]
 | fu+1,lo,m,k+1=>(if lo < m then (zud fu (lo+1) m k).map (lo :: ·)++zud fu (lo+1) m (k+1) else [])
noncomputable def zam (m most:Nat):List (List Nat):=(List.range (most+1)).flatMap fun k=>zud (m+1) 0 m k
noncomputable def z4d (Φ:Fn):Prop:=∀m most:Nat,m<=6->most<=6->Φ [.int m,.int most]=some ([.int m,.int most],(.lst ((zam m most).map tmW),true))
theorem zn3 {a:GA}{en e1:En}{n:Nat}(h:a en=some (e1,.inl (.int (n:Nat))))(hn:n<=1000000):ze5 (gCns a gA0) en=some (e1,rngW 0 n):=by
 have r:zd1 (n:Int)=true:=by
  unfold zd1;rw[Ah #v[],Ah #v[]];rfl
 have h2:gCns a gA0 en=some (e1,[.inl (.int (n:Nat))]):=by unfold gCns;rw[h];rfl
 have:=z37 h2 rfl r;rw[Dx] at this;exact this
theorem pow1 {l:Nat}(h:l<=100):cPow 1 (l:Int)=true:=by
 unfold cPow;rw[Ah #v[],Ah #v[]];rfl
theorem zbj (l:Nat):(1:Int) * 2 ^ l=((2 ^ l:Nat):Int):=by rw[Int.one_mul];norm_cast
theorem zyu (l:Nat):(((2 ^ l:Nat):Int)).natAbs.log2=l:=by
 rw[Int.natAbs_natCast];exact Nat.log2_two_pow
theorem divP {p:Int}{l:Nat}(h:l<=100):cDiv p ((2 ^ l:Nat):Int)=true:=by
 unfold cDiv;have:0 < 2 ^ l:=Nat.pow_pos #v[0,9];rw[Ah #v[],Ah (by rw[zyu];omega)];rfl
noncomputable def hasT (t:List Nat) (p:Nat):Bool:=t.all fun l=>decide (p / 2 ^ l % 2=1)
noncomputable def valF (ts:List (List Nat)) (p:Nat):Int:=(((ts.filter fun t=>hasT t p).length % 2:Nat):Int)
theorem zd6 {m:Nat}(h:m<=6):2 ^ m<=64:=Nat.pow_le_pow_right #v[0,9] h
theorem ztm:∀m most:Fin 7,(zam m.val most.val).length<=64/\∀t∈zam m.val most.val,t.length<=6/\∀l∈t,l < m.val:=by decide +kernel
theorem zvs {m most:Nat}(hm:m<=6)(hk:most<=6):(zam m most).length<=64/\∀t∈zam m most,t.length<=6/\∀l∈t,l < m:=ztm ⟨m,by omega⟩ ⟨most,by omega⟩
theorem zn8 {c:Nat}:∀{ts:List Str},(∀t∈ts,t.length<=c)->piled ts<=(c+2) * ts.length
  | [],_=>by rw[piled_nil];omega
  | t::ts,h=>by
    have h1:=h t (Ak ..);have h2:=zn8 (c:=c) (ts:=ts) fun x hx=>h x (Aj _ hx);rw[piled_cons,Be,Nat.mul_succ];omega
theorem zqw {c:Nat}{ts:List Str}(h:∀t∈ts,t.length<=c):(tupleText ts).length<=(c+2) * ts.length+3:=by
 have hp:=zn8 h;have hj:(Str.join ", " ts).length<=piled ts:=by
  cases ts with
  | nil=>exact Cb _
  | cons x xs=>have:=join_length_add (x::xs) (by simp);omega
 unfold tupleText;rw[Str.length_append,Str.length_append];have a:(Str.ofString "(").length=1:=by decide
 have b:(Str.ofString (if (ts.length == 1)=true then ",)" else ")")).length<=2:=by
  split
  ·decide
  ·decide
 omega
theorem ze7 {α:Type}(f:α->PyData):∀l:List α,PyData.shownAll (l.map f)=l.map fun x=>(f x).shown
 | []=>rfl
 | x::l=>by rw[Ad,PyData.shownAll,ze7 f l];rfl
theorem zgj {α:Type}(f:α->PyData):∀l:List α,(∀x∈l,(f x).showable=true)->PyData.showableAll (l.map f)=true
 | [],_=>rfl
 | x::l,h=>by rw[Ad,PyData.showableAll,h x (Ak ..),zgj f l fun y hy=>h y (Aj _ hy)];rfl
theorem zgw {α:Type}(f:α->PyData):∀l:List α,(∀x∈l,(f x).hasDict=false)->PyData.hasDictAll (l.map f)=false
 | [],_=>rfl
 | x::l,h=>by rw[Ad,PyData.hasDictAll,h x (Ak ..),zgw f l fun y hy=>h y (Aj _ hy)];rfl
theorem depAll_map {α:Type}{c:Nat} (f:α->PyData):∀l:List α,(∀x∈l,(f x).depth<=c)->PyData.depthAll (l.map f)<=c
  | [],_=>Cb _
  | x::l,h=>by
    rw[Ad,PyData.depthAll];have:=h x (Ak ..);have:=depAll_map f l fun y hy=>h y (Aj _ hy);omega
theorem zcl {α:Type}(f:α->PyData):∀l:List α,(∀x∈l,(f x).canLay0=true)->PyData.canLayAll0 (l.map f)=true
 | [],_=>rfl
 | x::l,h=>by rw[Ad,PyData.canLayAll0,h x (Ak ..),zcl f l fun y hy=>h y (Aj _ hy)];rfl
theorem zgt {α:Type}(f:α->W)(g:α->PyData)(h:∀x,dW (f x)=some (g x)):∀l:List α,dWs (l.map f)=some (l.map g)
 | []=>rfl
 | x::l=>by rw[Ad,dWs,h x,zgt f g h l];rfl
noncomputable def zig (n:Int):Prop:=n.natAbs.log2 < 1920
noncomputable def ndI (ns:List Int):PyData:=.tuple (ns.map .int)
theorem zvt (ns:List Int):dW (.tup (ns.map W.int))=some (ndI ns):=by
 rw[dW,zgt W.int .int (fun _=>by rw[dW]) ns];rfl
theorem z0u {ns:List Int}(h:∀n∈ns,zig n):(ndI ns).showable=true/\(ndI ns).hasDict=false/\(ndI ns).depth<=1/\(ndI ns).canLay0=true/\(ndI ns).shown.length<=1923 * ns.length+3:=by
 refine⟨?_,?_,?_,?_,?_⟩
 ·unfold ndI;rw[PyData.showable];exact zgj _ _ fun n hn=>by rw[PyData.showable];exact Ah (h n hn)
 ·unfold ndI;rw[PyData.hasDict];exact zgw _ _ fun n hn=>by rw[PyData.hasDict]
 ·unfold ndI; rw[PyData.depth]; have := depAll_map (c := 0) PyData.int ns fun n hn => by rw[PyData.depth]; exact Ag _
  omega
 ·unfold ndI;rw[PyData.canLay0];exact zcl _ _ fun n hn=>by rw[PyData.canLay0]
 ·unfold ndI;rw [PyData.shown,ze7];have:=zqw (c:=1921) (ts:=ns.map fun x=>(PyData.int x).shown) fun t ht=>by
   obtain⟨n,hn,rfl⟩:=Az.mp ht;rw[PyData.shown];exact int_text_len_1921 (h n hn)
  rw[Aa] at this;exact this
theorem zpp {n:Int}{k:Nat}(h:n.natAbs < 2 ^ k)(hk:k<=1919):zig n:=by
 unfold zig;by_cases z:n.natAbs=0
 ·rw[z];decide
 ·have := (Du z).mpr h;omega
noncomputable def rowW (m:Nat) (f:Nat->Int):List W:=(tab (2 ^ m) f).map W.int
theorem zxu {a b:GS}{en e1:En}{r:Option (En × Fl)}(h1:a en=some (e1,.nx))(h2:b e1=r):gSeq a b en=r:=(seq_nx h1).trans h2
noncomputable def bitF (p i:Nat):Int:=((p / 2 ^ i % 2:Nat):Int)
noncomputable def letL (p:Nat):List Nat:=dueL (bitF p) 6
noncomputable def zb5 (t:List Nat):Nat:=(t.map fun l=>2 ^ l).sum
theorem zdl:∀p:Fin 64,zb5 (letL p.val)=p.val:=by decide +kernel
theorem zgn:∀q p:Fin 64,hasT (letL q.val) p.val=(q.val &&& p.val == q.val):=by decide +kernel
theorem zho:∀m:Fin 7,((List.range (2 ^ m.val)).map letL).isPerm (zam m.val m.val)=true:=by decide +kernel
theorem zh3:∀m:Fin 7,∀p:Fin (2 ^ m.val),(List.range (2 ^ m.val)).filter (fun q=>q &&& p.val == q)=zbq p.val:=by decide +kernel
theorem zza:∀p:Fin 64,(zbq p.val).foldr (fun q a=>itS 6 q ^^^ a) 0=2 ^ p.val:=by decide +kernel
theorem z0y {p q:Nat}(hp:p < 64)(h:q∈zbq p):q < 64:=by have:=zlx h;omega
theorem zk0 (f:Nat->Int):∀L:List Nat,(∀q∈L,q < 64)->((L.map (coefF f)).sum) % 2=evS (List.range 64) f (L.foldr (fun q a=>itS 6 q ^^^ a) 0) % 2
  | [],_=>by
    have:evS (List.range 64) f 0=0:=by
      unfold evS;rw[List.filter_eq_nil_iff.mpr (fun i _=>by rw[Bo];decide)];rfl
    show (0:Int) % 2=evS (List.range 64) f 0 % 2;rw[this]
  | q::L,h=>by
    have ih:=zk0 f L fun x hx=>h x (Aj _ hx);have c:=z2g f (h q (Ak ..));rw[Ad,Bb,List.foldr_cons,zzn,c];omega
theorem zo5 {f:Nat->Int}(h:∀i,Bit (f i)){p:Nat}(hp:p < 64):coefF (coefF f) p=f p:=by
 show ((zbq p).map (coefF f)).sum % 2=f p;rw[zk0 f (zbq p) fun q hq=>z0y hp hq,zza ⟨p,hp⟩];unfold evS;rw[z04 ⟨p,hp⟩];show (f p+0) % 2=f p;rcases h p with e | e<;>rw[e]<;>rfl
theorem coef_bit (f:Nat->Int)(p:Nat):Bit (coefF f p):=by unfold coefF Bit;omega
noncomputable def duT (m:Nat) (f:Nat->Int):List (List Nat):=(zam m m).filter fun t=>decide (coefF f (zb5 t)=1)
noncomputable def plL (m:Nat) (f:Nat->Int):List Nat:=(List.range (2 ^ m)).filter fun q=>decide (coefF f q=1)
theorem z1h {m:Nat}(f:Nat->Int)(hm:m<=6):((plL m f).map letL).Perm (duT m f):=by
 have p6:=zd6 hm;have p:=(List.isPerm_iff.mp (zho ⟨m,by omega⟩)).filter fun t=>decide (coefF f (zb5 t)=1);rw[List.filter_map] at p;have e:(List.range (2 ^ m)).filter ((fun t=>decide (coefF f (zb5 t)=1)) ∘ letL)=plL m f:=Gk fun q hq=>by
  show decide (coefF f (zb5 (letL q))=1)=_;have:=Bj.mp hq;rw[zdl ⟨q,by omega⟩]
 rw[e] at p;exact p
theorem zgd {m:Nat}{t:List Nat}(hm:m<=6)(h:t∈zam m m):∃q,q < 2 ^ m/\t=letL q:=by
 have:=(List.isPerm_iff.mp (zho ⟨m,by omega⟩)).mem_iff.mpr h;obtain⟨q,hq,rfl⟩:=Az.mp this;exact⟨q,Bj.mp hq,rfl⟩
theorem zry (g:Nat->Int) (h:∀i,Bit (g i)):∀L:List Nat,(L.map g).sum=((L.filter fun q=>decide (g q=1)).length:Nat)
  | []=>rfl
  | q::L=>by
    rw[Ad,Bb,zry g h L,Ce];rcases h q with e | e
    · rw[e,if_neg #v[0,9]];omega
    · rw[e,if_pos #v[0,9],Be];omega
theorem z7d {m p:Nat}{f:Nat->Int}(h:∀i,Bit (f i))(hm:m<=6)(hp:p < 2 ^ m):valF (duT m f) p=f p:=by
 have p6:=zd6 hm;have l:=((z1h f hm).filter fun t=>hasT t p).length_eq;rw[List.filter_map,Aa] at l;have e:(plL m f).filter ((fun t=>hasT t p) ∘ letL)=(zbq p).filter fun q=>decide (coefF f q=1):=by
  rw[<-zh3 ⟨m,by omega⟩ ⟨p,hp⟩];unfold plL;rw[List.filter_filter,List.filter_filter];refine Gk fun q hq=>?_;have:=Bj.mp hq;show (hasT (letL q) p && _)=_;rw[zgn ⟨q,by omega⟩ ⟨p,by omega⟩,Bool.and_comm]
 rw[e] at l;unfold valF;rw[<-l];have c:=zo5 h (p:=p) #v[];have s:=zry (coefF f) (coef_bit f) (zbq p);have c:((zbq p).map (coefF f)).sum % 2=f p:=c;rw[s] at c;omega
noncomputable def zti (Φ:Fn):Prop:=∀(n:Nat) (M:List Nat),n<=64->(∀p∈M,p < n)->Φ [.lst (zab M)]=some ([.lst (zab M)],(.int (zad (tab n fun i=>if i∈M then 1 else 0)),false))
theorem znt (Ψ:Str->Fn):zti (zal [false] 3 (zvo Ψ)):=fun n M hn hM=>by
 have z0:(zad (tab n fun i=>if i∈M.take 0 then 1 else 0))=0:=by
  have:(tab n fun i=>if i∈M.take 0 then (1:Int) else 0)=List.replicate n 0:=by
   rw[<-zih];exact zb7 fun i _=>if_neg (by rw[Ed];exact Cq)
  rw[this,zey]
 obtain⟨en',hl,hp⟩:=zay (mp:=[]) (T:=(.nm 2)) (it:=(zan (gVar 0))) (body:=(gAug [] (oI yes2 fun i j=>.int (Builtin.bitOr i j)) 1 (gArg (gOp2 #v[0,0,1] #v[1] (zaa 2)))))
  (fun j e=>∃v2,e=[#v[(zab M),1],#v[(zad (tab n fun i=>if i∈M.take j then 1 else 0)),0],v2]) (en:=[#v[(zab M),1],#v[0,0],none]) (e0:=[#v[(zab M),1],#v[0,0],none]) (ws:=zab M) rfl ⟨none,by rw[z0]⟩
  (by
   rintro j w e hw ⟨v2,rfl⟩;obtain⟨p,hp,rfl⟩:=zaf hw;have pn:p < n:=hM p (At hp);have ow:=z2m (n:=n) (p:=p) (f:=fun i=>if i∈M.take j then 1 else 0) (fun i=>by show Bit (if _ then _ else _);split<;>first | exact .inr rfl | exact .inl rfl) pn;have e2:(tab n fun i=>if i=p then (1:Int) else if i∈M.take j then 1 else 0)=tab n fun i=>if i∈M.take (j+1) then 1 else 0:=zb7 fun i _=>by
    have m:i∈M.take (j+1)↔(i∈M.take j\/i=p):=by
     rw[Ey,hp,Ba];show _\/i∈[p]↔_;rw[Al]
    by_cases c:i=p
    ·rw[if_pos c,if_pos (m.mpr (.inr c))]
    ·rw[if_neg c];by_cases c2:i∈M.take j
     ·rw[if_pos c2,if_pos (m.mpr (.inl c2))]
     ·rw[if_neg c2,if_neg (fun q=>(m.mp q).elim c2 c)]
   rw[e2] at ow;have pw:(1 * 2 ^ ((p:Nat):Int).toNat:Int)=1 * 2 ^ p:=rfl;refine⟨[#v[(zab M),1],#v[(zad (tab n fun i=>if i∈M.take j then 1 else 0)),0],#v[(p:Nat),0]],[#v[(zab M),1],#v[(zad (tab n fun i=>if i∈M.take (j+1) then 1 else 0)),0],#v[(p:Nat),0]],rfl,.inl (z6p (w:=.int (zad (tab n fun i=>if i∈M.take j then 1 else 0))) (u:=.int (1 * 2 ^ p)) rfl (arg_0 (r:=(.int (1 * 2 ^ p),false)) (op2_0 (x:=.inl (.int 1)) (y:=.inl (.int (p:Nat))) rfl rfl rfl rfl (oI_t (z8q #v[] #v[] #v[0,9])))) rfl ?_ rfl),_,rfl⟩;show some (W.int (Builtin.bitOr (zad (tab n fun i=>if i∈M.take j then 1 else 0)) (1 * 2 ^ p)),false)=_;rw[ow])
 obtain⟨v2,rfl⟩:=hp;rw[zac,Bp] at hl;exact zbu rfl ((seq_nx (e1:=[#v[(zab M),1],#v[0,0],none]) rfl).trans ((seq_nx hl).trans rfl)) rfl
noncomputable def indF (M:List Nat) (i:Nat):Int:=if i∈M then 1 else 0
theorem z27 (M:List Nat)(i:Nat):Bit (indF M i):=by unfold indF;split<;>first | exact .inr rfl | exact .inl rfl
theorem ztp {M:List Nat}{x:Nat} (hx:x ∉ M):∀{S:List Nat},S.Nodup->(S.map (indF (x::M))).sum=(S.map (indF M)).sum+(if x∈S then 1 else 0)
  | [],_=>rfl
  | q::S,h=>by
    have ih:=ztp hx (Cm.mp h).2;rw[Ad,Bb,Ad,Bb,ih];by_cases e:q=x
    · subst e
      have n1:q ∉ S:=(Cm.mp h).1;have a:indF (q::M) q=1:=by unfold indF;rw[if_pos Ak]
      have b:indF M q=0:=by unfold indF;rw[if_neg hx]
      rw[a,b,if_neg n1,if_pos Ak];omega
    · have a:indF (x::M) q=indF M q:=by
        unfold indF;by_cases c:q∈M
        · rw[if_pos c,if_pos (Aj _ c)]
        · rw[if_neg c,if_neg fun z=>(Aq.mp z).elim e c]
      rw[a];by_cases c:x∈S
      · rw[if_pos c,if_pos (Aj _ c)];omega
      · rw[if_neg c,if_neg fun z=>(Aq.mp z).elim (fun z=>e z.symm) c];omega
theorem zpn {S:List Nat} (hS:S.Nodup):∀{ts:List (List Nat)},(ts.map zb5).Nodup->(S.map (indF (ts.map zb5))).sum=((ts.filter fun t=>decide (zb5 t∈S)).length:Nat)
  | [],_=>by
    have:∀L:List Nat,(L.map (indF [])).sum=0:=fun L=>by
      induction L with
      | nil=>rfl
      | cons a l ih=>rw[Ad,Bb,ih];rfl
    exact this S
  | t::ts,h=>by
    rw[Ad] at h;have h':=Cm.mp h;rw[Ad,ztp h'.1 hS,zpn hS h'.2,Ce];by_cases c:zb5 t∈S
    · rw[if_pos c,if_pos (Ah c),Be];omega
    · rw[if_neg c,if_neg (by rw[Ap c];exact Af)];omega
theorem zqd (p:Nat):(zbq p).Nodup:=List.nodup_range.filter _
theorem zw7 {m p:Nat}{t:List Nat}(hm:m<=6)(ht:t∈zam m m)(hp:p < 64):hasT t p=decide (zb5 t∈zbq p):=by
 have p6:=zd6 hm;obtain⟨q,hq,rfl⟩:=zgd hm ht;rw[zgn ⟨q,by omega⟩ ⟨p,hp⟩,zdl ⟨q,by omega⟩];show (q &&& p == q)=decide (q∈zbq p);unfold zbq;by_cases c:q &&& p=q
 ·have : q ≤ p := by have := Nat.and_le_right (n := q) (m := p); omega
  have h:q∈(List.range (p+1)).filter fun o=>o &&& p == o:=Ca.mpr ⟨Bj.mpr #v[],Fw.mpr c⟩;rw[Fw.mpr c,Ah h]
 ·have h : ¬ q ∈ (List.range (p + 1)).filter fun o => o &&& p == o := fun z => c (Fw.mp (Ca.mp z).2);rw[Dk.mpr c,Ap h]
theorem zwg {m:Nat}{t u:List Nat}(hm:m<=6)(ht:t∈zam m m)(hu:u∈zam m m)(e:zb5 t=zb5 u):t=u:=by
 have p6:=zd6 hm;obtain⟨q,hq,rfl⟩:=zgd hm ht;obtain⟨r,hr,rfl⟩:=zgd hm hu;rw[zdl ⟨q,by omega⟩,zdl ⟨r,by omega⟩] at e;have e:q=r:=e;rw[e]
noncomputable def zpi (m:Nat) (ts:List (List Nat)):Prop:=ts.Nodup/\∀t∈ts,t∈zam m m
theorem zh7 {m:Nat} (hm:m<=6):∀{ts:List (List Nat)},zpi m ts->(ts.map zb5).Nodup
  | [],_=>List.nodup_nil
  | t::ts,h=>by
    have n:=Cm.mp h.1;rw[Ad];refine Cm.mpr ⟨fun z=>?_,zh7 hm ⟨n.2,fun u hu=>h.2 u (Aj _ hu)⟩⟩;obtain⟨u,hu,e⟩:=Az.mp z;have:=zwg hm (h.2 u (Aj _ hu)) (h.2 t Ak) e;subst this;exact n.1 hu
theorem zxp {m p:Nat}{ts:List (List Nat)}(hm:m<=6)(h:zpi m ts)(hp:p < 64):coefF (indF (ts.map zb5)) p=valF ts p:=by
 unfold coefF valF;rw[zpn (zqd p) (zh7 hm h)];have e:(ts.filter fun t=>decide (zb5 t∈zbq p))=ts.filter fun t=>hasT t p:=Gk fun t ht=>(zw7 hm (h.2 t ht) hp).symm;rw[e];omega
noncomputable def kdW (m t:Nat):W:=.tup [.int (m:Nat),.int (t:Nat)]
theorem zo7:∀m u:Fin 7,u.val<=m.val->∀t∈zam m.val u.val,t∈zam m.val m.val:=by decide +kernel
theorem zwh:∀m u:Fin 7,(zam m.val u.val).Nodup:=by decide +kernel
noncomputable def chkT (m t:Nat):List (List Nat):=if t=m then [] else zam m (m - t - 1)
noncomputable def dotP (xs ys:List Int):Int:=(List.zipWith (· * ·) xs ys).sum % 2
noncomputable def zhb (m:Nat) (x:List Nat):List Int:=tab (2 ^ m) (valF [x])
theorem zjj (f g:Nat->Int):∀L:List Nat,List.zipWith (· * ·) (L.map f) (L.map g)=L.map fun p=>f p * g p
 | []=>rfl
 | a::l=>by rw[Ad,Ad,Cp,zjj f g l,Ad]
theorem zts (x:List Nat)(p:Nat):valF [x] p=if hasT x p then 1 else 0:=by
 unfold valF;rw[Ce];by_cases c:hasT x p=true
 ·rw[if_pos c,if_pos c];rfl
 ·rw[if_neg c,if_neg c];rfl
theorem zwy (s:List Nat)(ts:List (List Nat))(p:Nat):valF (s::ts) p=(valF ts p+if hasT s p then 1 else 0) % 2:=by
 unfold valF;rw[Ce];by_cases c:hasT s p=true
 ·rw[if_pos c,if_pos c,Be];omega
 ·rw[if_neg c,if_neg c];omega
theorem zop (s x:List Nat) (ts:List (List Nat)):∀L:List Nat,(L.map fun p=>valF (s::ts) p * valF [x] p).sum % 2=((L.map fun p=>valF ts p * valF [x] p).sum+(((L.filter fun p=>hasT s p && hasT x p).length:Nat):Int)) % 2
  | []=>rfl
  | p::L=>by
    have ih:=zop s x ts L;rw[Ad,Bb,Ad,Bb,Ce,zwy,zts];have b:valF ts p=0\/valF ts p=1:=by unfold valF;omega
    cases hs:hasT s p<;>cases hx:hasT x p<;>simp only [Bool.and_true,Eh,Em,Fa,if_false,Be]<;>rcases b with b | b<;>rw[b]<;>omega
theorem zu9:∀m:Fin 7,∀u:Fin (2 ^ m.val),u.val≠2 ^ m.val - 1->((List.range (2 ^ m.val)).filter fun p=>u.val &&& p == u.val).length % 2=0:=by decide +kernel
theorem zxg:∀m:Fin 7,∀q r:Fin (2 ^ m.val),(letL q.val).length+(letL r.val).length < m.val->q.val ||| r.val≠2 ^ m.val - 1:=by decide +kernel
theorem bl1:∀a b c:Bool,((a || b) && c)=(a || b)->(a && c)=a:=by decide
theorem bl2:∀a b c:Bool,((a || b) && c)=(a || b)->(b && c)=b:=by decide
theorem bl3:∀a b c:Bool,(a && c)=a->(b && c)=b->((a || b) && c)=(a || b):=by decide
theorem zvi {q p:Nat}(h:q &&& p=q)(i:Nat):(q.testBit i && p.testBit i)=q.testBit i:=by rw[<-Nat.testBit_and,h]
theorem z7h (q r p:Nat):((q &&& p == q) && (r &&& p == r))=((q ||| r) &&& p == (q ||| r)):=by
 by_cases h:(q ||| r) &&& p=q ||| r
 ·have t:∀i,((q.testBit i || r.testBit i) && p.testBit i)=(q.testBit i || r.testBit i):=fun i=>by
   have:=zvi h i;rw[Nat.testBit_or] at this;exact this
  have hq:q &&& p=q:=Nat.eq_of_testBit_eq fun i=>by rw[Nat.testBit_and];exact bl1 _ _ _ (t i)
  have hr:r &&& p=r:=Nat.eq_of_testBit_eq fun i=>by rw[Nat.testBit_and];exact bl2 _ _ _ (t i)
  rw[Fw.mpr h,Fw.mpr hq,Fw.mpr hr];rfl
 ·rw[Dk.mpr h];by_cases hq:q &&& p=q
  ·by_cases hr : r &&& p = r
   ·refine absurd ?_ h;exact Nat.eq_of_testBit_eq fun i=>by rw[Nat.testBit_and,Nat.testBit_or];exact bl3 _ _ _ (zvi hq i) (zvi hr i)
   ·rw[Dk.mpr hr,Eh]
  ·rw[Dk.mpr hq,Eg]
theorem ya6 {m q r:Nat}(hq:q < 2 ^ m)(hr:r < 2 ^ m):q ||| r < 2 ^ m:=Nat.or_lt_two_pow hq hr
theorem ztl {m:Nat}{s x:List Nat}(hm:m<=6)(hs:s∈zam m m)(hx:x∈zam m m)(hl:s.length+x.length < m):(((List.range (2 ^ m)).filter fun p=>hasT s p && hasT x p).length) % 2=0:=by
 have p6:=zd6 hm;obtain⟨q,hq,rfl⟩:=zgd hm hs;obtain⟨r,hr,rfl⟩:=zgd hm hx;have e:((List.range (2 ^ m)).filter fun p=>hasT (letL q) p && hasT (letL r) p)=(List.range (2 ^ m)).filter fun p=>(q ||| r) &&& p == (q ||| r):=Gk fun p hp=>by
  have:=Bj.mp hp;rw[zgn ⟨q,by omega⟩ ⟨p,by omega⟩,zgn ⟨r,by omega⟩ ⟨p,by omega⟩];exact z7h q r p
 rw[e];exact zu9 ⟨m,by omega⟩ ⟨q ||| r,ya6 hq hr⟩ (zxg ⟨m,by omega⟩ ⟨q,hq⟩ ⟨r,hr⟩ hl)
theorem zjx {m:Nat}{x:List Nat} (hm:m<=6) (hx:x∈zam m m):∀{ts:List (List Nat)},(∀s∈ts,s∈zam m m/\s.length+x.length < m)->dotP (tab (2 ^ m) (valF ts)) (zhb m x)=0
  | [],_=>by
    unfold dotP zhb tab;rw [zjj];have:∀L:List Nat,(L.map fun p=>valF [] p * valF [x] p).sum=0:=fun L=>by
      induction L with
      | nil=>rfl
      | cons a l ih=>rw[Ad,Bb,ih];show (0:Int) * _+0=0;omega
    rw[this];rfl
  | s::ts,h=>by
    have ih:=zjx hm hx (fun s hs=>h s (Aj _ hs));obtain⟨h1,h2⟩:=h s Ak;have b:=ztl hm h1 hx h2;unfold dotP zhb tab at ih ⊢;rw[zjj] at ih ⊢;rw[zop];omega
theorem zug:∀m u:Fin 7,∀t∈zam m.val u.val,t.length<=u.val:=by decide +kernel
noncomputable def z4x (z:Nat) (g:Nat->Nat->Int) (p:Nat):Int:=g (p / z) (p % z)
theorem row_at {z a c:Nat}{g:Nat->Nat->Int}(h:c < z):z4x z g (a * z+c)=g a c:=by
 unfold z4x;rw[Nat.mul_comm,Nat.mul_add_div #v[],Nat.div_eq_of_lt h,Nat.add_zero,Nat.mul_add_mod,Nat.mod_eq_of_lt h]
theorem zh0 {f g:Nat->Int}{p:Nat}(h:∀q,q<=p->f q=g q):coefF f p=coefF g p:=by
 unfold coefF;rw[Cj fun q hq=>h q (zlx hq)]
noncomputable def zth (Ψ:Str->Fn):GE:=zbf [none,none,some 5] (.nm 1) (zan (gVar 4)) gYes (gOp2 oAdd (zaa 1) (gArg (gOp2 #v[0,0,1] #v[1] (zaa 2))))
noncomputable def zsm (Ψ:Str->Fn):GS:=(gSet [] 4 (gOp2 oAdd (zaa 4) (gArg (zth Ψ))))
noncomputable def zvh (Ψ:Str->Fn):GS:=gFor [] (.nm 5) (zan (gVar 3)) (zsm Ψ)
noncomputable def zs1 (Ψ:Str->Fn):GE:=zbf [none,none,some 1] (.nm 1) (zan (gVar 4)) gYes (gOp2 oIx (zaa 2) (zaa 1))
noncomputable def zoq (Ψ:Str->Fn):GS:=(gSeq (gSet [] 4 (zas (gCns #v[0] gA0))) (gSeq (zvh Ψ) (gIfS (zai (gOp2 oEq (gArg (gOp2 #v[0,0,2] (gArg (gOpN oSum (gCns (gArg (zs1 Ψ)) gA0))) #v[2])) #v[1])) (zed (gApp 2 (gVar 3))) zau)))
noncomputable def zs7 (Ψ:Str->Fn):GS:=gFor [] (.nm 3) (zan (zae [false,false] (Ψ "_law_terms") (gCns #v[0,4] (gCns #v[0,4] gA0)))) (zoq Ψ)
noncomputable def z7a (Ψ:Str->Fn):GS:=(gSeq (gSet [] 2 (zas gA0)) (gSeq (zs7 Ψ) (gRet (gOpN zem (gCns (zaa 2) gA0)))))
theorem yaf (n:Int)(ns:List Int):oMax [.lst (W.int n::ns.map W.int)]=#v[(mx1 n ns),0]:=by
 show (za1 ((n::ns).map W.int)).bind _=_;rw[zaw];rfl
theorem z6x (ns:List Int):oSum [.lst (ns.map W.int)]=#v[ns.sum,0]:=by
 show (za1 (ns.map W.int)).bind _=_;rw[zaw];rfl
theorem zxw (f:Nat->Int){l l' : List Nat}(p:l.Perm l'):(l.map f).sum=(l'.map f).sum:=by
 induction p with
 | nil=>rfl
 | cons a _ ih=>rw[Ad,Ad,Bb,Bb,ih]
 | swap a b l=>rw[Ad,Ad,Ad,Ad,Bb,Bb,Bb,Bb];omega
 | trans _ _ i1 i2=>exact i1.trans i2
noncomputable def innL (t:List Nat):List Nat:=t.foldl (fun a l=>a++a.map fun p=>p+2 ^ l) [0]
theorem zzj:∀q:Fin 64,(innL (letL q.val)).isPerm (zbq q.val)=true:=by decide +kernel
theorem zor:∀q:Fin 64,∀k:Fin 7,(innL ((letL q.val).take k.val)).length<=64/\(letL q.val).length<=6:=by decide +kernel
theorem zx7 {t:List Nat}{i l:Nat}(h:t[i]?=some l):innL (t.take (i+1))=innL (t.take i)++(innL (t.take i)).map fun p=>p+2 ^ l:=by
 unfold innL;rw[Ey,h,Ev];rfl
theorem ya4 {Ψ:Str->Fn}{L:List Nat}{l:Nat}{o:Bool}{v0 v1 v2 v3:Option (W × Bool)}(hL:L.length<=64)(hl:l < 64):zth Ψ [v0,v1,v2,v3,some (.lst (zab L),o),#v[(l:Nat),0]]=some ([v0,v1,v2,v3,#v[(zab L),1],#v[(l:Nat),0]],(.lst (zab (L.map fun p=>p+2 ^ l)),true)):=by
 have e1:=pow1 (l:=l) #v[];unfold zth;refine zcj (cap:=[none,none,some 5]) (it:=zan (gVar 4)) (xs:=[#v[(l:Nat),0]]) (en:=[v0,v1,v2,v3,some (.lst (zab L),o),#v[(l:Nat),0]]) (e0:=[v0,v1,v2,v3,#v[(zab L),1],#v[(l:Nat),0]]) (ws:=zab L) (rs:=zab (L.map fun p=>p+2 ^ l)) (by cases o<;>simp! []) (by rw[zac];omega) (by rw[zac,zac,Aa]) rfl rfl rfl (fun _ _=>rfl) fun i v w r hw hr=>?_;obtain⟨p,hp,rfl⟩:=zaf hw;obtain⟨q,hq,rfl⟩:=zaf hr;rw[Am,hp] at hq;cases hq;have ea:(p:Int)+((2 ^ l:Nat):Int)=((p+2 ^ l:Nat):Int):=by omega
 refine⟨#v[(p:Nat),0],false,?_⟩;simp! [e1,zbj,ea]
theorem zup (a b:List Nat):zab (a++b)=zab a++zab b:=by unfold zab;exact Bx ..
theorem z9s {Ψ:Str->Fn}{q:Nat}{v0 v1 v2 v5:Option (W × Bool)}(hq:q < 64):∃o w5,zvh Ψ [v0,v1,v2,#v[tmW (letL q),6],#v[[.int 0],2],v5]=some ([v0,v1,v2,#v[tmW (letL q),6],some (.lst (zab (innL (letL q))),o),w5],.nx):=by
 have l6:(letL q).length<=6:=(zor ⟨q,hq⟩ 0).2;unfold zvh;obtain⟨en',h,o,w5,rfl⟩:=zay (mp:=[]) (T:=.nm 5) (body:=zsm Ψ) (it:=zan (gVar 3)) (fun i e=>∃o w5,e=[v0,v1,v2,#v[tmW (letL q),6],some (.lst (zab (innL ((letL q).take i))),o),w5]) (en:=[v0,v1,v2,#v[tmW (letL q),6],#v[[.int 0],2],v5]) (e0:=[v0,v1,v2,#v[tmW (letL q),6],#v[[.int 0],2],v5]) (ws:=zab (letL q)) (by unfold tmW;simp! [];rfl) ⟨true,v5,rfl⟩ fun i w e hw hp=>by
  obtain⟨o,w5,rfl⟩:=hp;obtain⟨l,hl,rfl⟩:=zaf hw;have li:i < (letL q).length:=(An.mp hl).1;have ll:l < 64:=by
   have w:=At hl;unfold letL dueL at w;have:=Bj.mp (Ca.mp w).1;omega
  have z:=(zor ⟨q,hq⟩ ⟨i,by omega⟩).1;have z:(innL ((letL q).take i)).length<=64:=z;have c1:=ya4 (Ψ:=Ψ) (L:=innL ((letL q).take i)) (l:=l) (o:=o) (v0:=v0) (v1:=v1) (v2:=v2) (v3:=#v[tmW (letL q),6]) z ll;have lz:((innL ((letL q).take i)).length+(innL ((letL q).take i)).length<=16777216)=True:=eq_true #v[];refine⟨[v0,v1,v2,#v[tmW (letL q),6],some (.lst (zab (innL ((letL q).take i))),o),#v[(l:Nat),0]],[v0,v1,v2,#v[tmW (letL q),6],#v[(zab (innL ((letL q).take (i+1)))),2],#v[(l:Nat),0]],rfl,.inl ?_,true,_,rfl⟩;rw[zx7 hl,zup];unfold zsm;cases o<;>simp! [c1,zac,Aa,lz]
 rw[zac,Bp] at h;exact⟨o,w5,h⟩
theorem yan {Ψ:Str->Fn}{m:Nat}{xs:List Int}{L:List Nat}{o:Bool}{v0 v2 v3 v5:Option (W × Bool)}(hL:L.length<=64)(hx:∀p∈L,p < xs.length):zs1 Ψ [v0,#v[(xs.map W.int),1],v2,v3,some (.lst (zab L),o),v5]=some ([v0,#v[(xs.map W.int),1],v2,v3,#v[(zab L),1],v5],(.lst ((L.map fun p=>xs.getD p 0).map W.int),true)):=by
 unfold zs1;refine zcj (cap:=[none,none,some 1]) (it:=zan (gVar 4)) (xs:=[#v[(xs.map W.int),1]]) (en:=[v0,#v[(xs.map W.int),1],v2,v3,some (.lst (zab L),o),v5]) (e0:=[v0,#v[(xs.map W.int),1],v2,v3,#v[(zab L),1],v5]) (ws:=zab L) (rs:=(L.map fun p=>xs.getD p 0).map W.int) (by cases o<;>simp! []) (by rw[zac];omega) (by rw[zac,Aa,Aa]) rfl rfl rfl (fun _ _=>rfl) fun i v w r hw hr=>?_;obtain⟨p,hp,rfl⟩:=zaf hw;rw[Am,Am,hp] at hr;cases hr;have a1:atI (xs.map W.int) (p:Int)=some (.int (xs.getD p 0)):=zbw (by
  rw[Am,By,Ac (hx p (At hp))];rfl)
 refine⟨#v[(p:Nat),0],false,?_⟩;simp! [a1]
noncomputable def zr2 (Φ:Fn):Prop:=∀(m:Nat) (xs:List Int),m<=6->Bits xs->xs.length=2 ^ m->Φ [.int (m:Nat),.lst (xs.map W.int)]=some ([.int (m:Nat),.lst (xs.map W.int)],(.tup ((duT m fun i=>xs.getD i 0).map tmW),false))
theorem yaj {Ψ:Str->Fn}{m q:Nat}{xs:List Int}{D:List (List Nat)}{v4 v5:Option (W × Bool)}(hm:m<=6)(hl:xs.length=2 ^ m)(hq:q < 2 ^ m)(hD:D.length<=64):∃w4 w5,zoq Ψ [#v[(m:Nat),0],#v[(xs.map W.int),1],#v[(D.map tmW),2],#v[tmW (letL q),6],v4,v5]=some ([#v[(m:Nat),0],#v[(xs.map W.int),1],#v[((D++[letL q].filter fun t=>decide (coefF (fun i=>xs.getD i 0) (zb5 t)=1)).map tmW),2],#v[tmW (letL q),6],w4,w5],.nx):=by
 have p6:=zd6 hm;have q6:q < 64:=by omega
 obtain⟨o,w5,l2⟩:=z9s (Ψ:=Ψ) (v0:=#v[(m:Nat),0]) (v1:=#v[(xs.map W.int),1]) (v2:=#v[(D.map tmW),2]) (v5:=v5) q6;have pm:=List.isPerm_iff.mp (zzj ⟨q,q6⟩);have pm:(innL (letL q)).Perm (zbq q):=pm;have l6:(innL (letL q)).length<=64:=by
  have a:=(zor ⟨q,q6⟩ 6).1;have b:=(zor ⟨q,q6⟩ 0).2;have a:(innL ((letL q).take 6)).length<=64:=a;rw[List.take_of_length_le b] at a;exact a
 have c3:=yan (Ψ:=Ψ) (m:=m) (L:=innL (letL q)) (o:=o) (v0:=#v[(m:Nat),0]) (v2:=#v[(D.map tmW),2]) (v3:=#v[tmW (letL q),6]) (v5:=w5) l6 (xs:=xs) fun p hp=>by
  have:=zlx (pm.mem_iff.mp hp);omega
 have s1:=z6x ((innL (letL q)).map fun p=>xs.getD p 0);rw[zxw (fun p=>xs.getD p 0) pm] at s1;have cf:((zbq q).map fun p=>xs.getD p 0).sum % 2=coefF (fun i=>xs.getD i 0) q:=rfl;have lt:(D.length < 16777216)=True:=eq_true #v[];refine⟨#v[(zab (innL (letL q))),1],w5,?_⟩;have e:[letL q].filter (fun t=>decide (coefF (fun i=>xs.getD i 0) (zb5 t)=1))=if coefF (fun i=>xs.getD i 0) q=1 then [letL q] else []:=by
  rw[Ce,zdl ⟨q,q6⟩];by_cases c:coefF (fun i=>xs.getD i 0) q=1
  ·rw[if_pos (Ah c),if_pos c];rfl
  ·rw[if_neg (by rw[Ap c];decide),if_neg c];rfl
 rw[e];unfold zoq;refine zxu (e1:=[#v[(m:Nat),0],#v[(xs.map W.int),1],#v[(D.map tmW),2],#v[tmW (letL q),6],#v[[.int 0],2],v5]) ?_ (zxu l2 ?_)
 ·simp! []
 ·by_cases c : coefF (fun i => xs.getD i 0) q = 1
  ·rw[if_pos c, Bx];rw[c] at cf;simp! [c3,s1,cf,Aa,lt,Ad,List.map_nil]
  ·rw[if_neg c, Bt];have cz:decide (((zbq q).map fun p=>xs.getD p 0).sum % 2=1)=false:=by rw[cf];exact Ap c
   simp! [c3,s1,cz]
theorem zxv {Ψ:Str->Fn} (hT:z4d (Ψ "_law_terms")):zr2 (zal [false,false] 6 (z7a Ψ)):=fun m xs hm hx hl=>by
  have p6:=zd6 hm;obtain ⟨tl,ta⟩:=zvs (m:=m) (most:=m) hm hm;have e0:=hT m m hm hm;have lp:∃w3 w4 w5,zs7 Ψ [some (.int (m:Nat),false),some (.lst (xs.map W.int),false),some (.lst [],true),none,none,none]=some ([some (.int (m:Nat),false),some (.lst (xs.map W.int),false),some (.lst ((duT m fun i=>xs.getD i 0).map tmW),true),w3,w4,w5],.nx):=by
    unfold zs7;obtain ⟨en',h,w3,w4,w5,rfl⟩:=zay (mp:=[]) (T:=.nm 3) (body:=zoq Ψ) (it:=zan (zae [false,false] (Ψ "_law_terms") (gCns (gArg (gVar 0)) (gCns (gArg (gVar 0)) gA0)))) (fun i e=>∃w3 w4 w5,e=[some (.int (m:Nat),false),some (.lst (xs.map W.int),false),some (.lst ((((zam m m).take i).filter fun t=>decide (coefF (fun i=>xs.getD i 0) (zb5 t)=1)).map tmW),true),w3,w4,w5]) (en:=[some (.int (m:Nat),false),some (.lst (xs.map W.int),false),some (.lst [],true),none,none,none]) (e0:=[some (.int (m:Nat),false),some (.lst (xs.map W.int),false),some (.lst [],true),none,none,none]) (ws:=(zam m m).map tmW) (by simp! [e0]) ⟨_,_,_,rfl⟩ fun i w e hw hp=>by
      obtain⟨w3,w4,w5,rfl⟩:=hp;rw[Am] at hw;cases ht:(zam m m)[i]? with
      | none=>rw[ht] at hw;cases hw
      | some t =>
        rw [ht] at hw;cases hw;obtain ⟨q,hq,rfl⟩:=zgd hm (At ht);obtain ⟨x4,x5,hb⟩:=yaj (Ψ:=Ψ) (xs:=xs) (D:=((zam m m).take i).filter fun t=>decide (coefF (fun i=>xs.getD i 0) (zb5 t)=1)) (v4:=w4) (v5:=w5) hm hl hq (by
          have a:=List.length_filter_le (fun t=>decide (coefF (fun i=>xs.getD i 0) (zb5 t)=1)) ((zam m m).take i);rw[Df] at a;omega)
        rw[<-Gd] at hb;have tk:(zam m m).take (i+1)=(zam m m).take i++[letL q]:=by rw[Ey,ht];rfl
        rw[<-tk] at hb;exact⟨_,_,rfl,.inl hb,_,_,_,rfl⟩
    rw[Aa,Bp] at h;exact⟨w3,w4,w5,h⟩
  obtain⟨w3,w4,w5,lp⟩:=lp;have ot:zem [.lst ((duT m fun i=>xs.getD i 0).map tmW)]=#v[((duT m fun i=>xs.getD i 0).map tmW),3]:=rfl;unfold z7a;refine zbu (en:=[#v[(m:Nat),0],#v[(xs.map W.int),1],#v[((duT m fun i=>xs.getD i 0).map tmW),2],w3,w4,w5]) rfl (zxu (e1:=[#v[(m:Nat),0],#v[(xs.map W.int),1],#v[[],2],none,none,none]) ?_ (zxu lp ?_)) rfl
  · simp! []
  · simp! [ot]
theorem zxf (f g:Nat->Int)(p:Nat):coefF (fun q=>(f q+g q) % 2) p=(coefF f p+coefF g p) % 2:=by
 unfold coefF;have go:∀L:List Nat,(L.map fun q=>(f q+g q) % 2).sum % 2=((L.map f).sum+(L.map g).sum) % 2:=by
  intro L
  induction L with
  | nil=>rfl
  | cons a L ih=>rw[Ad,Ad,Ad,Bb,Bb,Bb];omega
 rw[go];omega
theorem zyi {m q:Nat}{ts:List (List Nat)}(hm:m<=6)(h:zpi m ts)(hq:q < 64):coefF (valF ts) q=indF (ts.map zb5) q:=by
 rw[<-zo5 (z27 (ts.map zb5)) hq];exact zh0 fun p hp=>(zxp hm h #v[]).symm
theorem z4h (ts:List (List Nat))(p:Nat):Bit (valF ts p):=by unfold valF Bit;omega
theorem zxl {m most:Nat}{ts:List (List Nat)}(hm:m<=6)(hk:most<=m)(h:ts.Sublist (zam m most)):zpi m ts:=⟨(zwh ⟨m,by omega⟩ ⟨most,by omega⟩).sublist h,fun t ht=>zo7 ⟨m,by omega⟩ ⟨most,by omega⟩ hk t (h.mem ht)⟩
theorem zwz:∀m k:Fin 7,∀t∈zam m.val k.val,(letL (zb5 t)).length<=k.val:=by decide +kernel
noncomputable def Deg (m most:Nat) (f:Nat->Int):Prop:=∀q,q < 2 ^ m->coefF f q=1->(letL q).length<=most
theorem yas {m most:Nat}{ts:List (List Nat)}(hm:m<=6)(hk:most<=m)(h:ts.Sublist (zam m most)):Deg m most (valF ts):=fun q hq e=>by
 have p6:=zd6 hm;rw[zyi hm (zxl hm hk h) #v[]] at e;unfold indF at e;split at e
 ·rename_i z;obtain⟨t,ht,rfl⟩:=Az.mp z;exact zwz ⟨m,by omega⟩ ⟨most,by omega⟩ t (h.mem ht)
 ·cases e
theorem z97 {m most:Nat}{f g:Nat->Int}(hf:Deg m most f)(hg:Deg m most g):Deg m most fun p=>(f p+g p) % 2:=fun q hq e=>by
 rw[zxf] at e;rcases coef_bit f q with a | a
 ·rcases coef_bit g q with b | b
  ·rw[a,b] at e;cases e
  ·exact hg q hq b
 ·exact hf q hq a
theorem z43 {m most:Nat}{f g:Nat->Int}(h:∀p,p < 2 ^ m->f p=g p)(hf:Deg m most f):Deg m most g:=fun q hq e=>hf q hq ((zh0 fun p hp=>h p #v[]).trans e)
theorem zxe {m most:Nat}{f:Nat->Int}(hm:m<=6)(h:Deg m most f):∀t∈duT m f,t.length<=most:=fun t ht=>by
 have p6:=zd6 hm;unfold duT at ht;obtain⟨h1,h2⟩:=Ca.mp ht;obtain⟨q,hq,rfl⟩:=zgd hm h1;have e:=As h2;rw[zdl ⟨q,by omega⟩] at e;exact h q hq e
theorem ybr (c:Int){m:Nat}(hm:m<=6):oMult (.lst [.int c]) (.int ((2 ^ m:Nat):Int))=#v[((tab (2 ^ m) fun _=>c).map W.int),2]:=by
 have p6:=zd6 hm;generalize 2 ^ m=z at p6;have line:sizeLine=16777216:=Dg;have tc:tab z (fun _=>c)=List.replicate z c:=by unfold tab;rw[List.map_const',Cu]
 rw[zj5 (xs:=[.int c]) (k:=(z:Int)) (by refine⟨by omega,by omega,?_⟩;show 1 * (z:Int).toNat<=sizeLine;omega),zjn,Dx,tc,List.map_replicate]
theorem ybt {b n:Nat}(hb:b<=100):∃(i j:Nat),oMin [.int (b:Nat),.int (n:Nat)]=#v[(i:Nat),0]/\oMax [.int 3,.int (i:Nat)]=#v[(j:Nat),0]/\j<=100:=by
 have om:∃i:Nat,oMin [.int (b:Nat),.int (n:Nat)]=#v[(i:Nat),0]/\i<=b:=by
  by_cases c:(n:Int) < b
  ·exact⟨n,by show #v[W.int (if (n:Int) < b then _ else _),6]=_;rw[if_pos c],by omega⟩
  ·exact⟨b,by show #v[W.int (if (n:Int) < b then _ else _),6]=_;rw[if_neg c],by omega⟩
 obtain⟨i,om,hi⟩:=om;have ox:∃j:Nat,oMax [.int 3,.int (i:Nat)]=#v[(j:Nat),0]/\j<=100:=by
  by_cases c:(i:Int) > 3
  ·exact⟨i,by show #v[W.int (if (i:Int) > 3 then _ else _),6]=_;rw[if_pos c],by omega⟩
  ·exact⟨3,by show #v[W.int (if (i:Int) > 3 then _ else _),6]=_;rw[if_neg c];rfl,by omega⟩
 obtain⟨j,ox,hj⟩:=ox;exact⟨i,j,om,ox,hj⟩
noncomputable def z94 (Φ:Fn):Prop:=∀(k:Nat) (st:W),HS k st->k+10 < big->∃(st' : W) (m t:Nat),Φ [st]=some ([st'],(kdW m t,false))/\HS (k+2) st'/\1<=m/\m<=6/\t<=m
noncomputable def zps (Ψ:Str->Fn):GS:=(gSeq (gSet [0] 1 (gOp2 oAdd #v[1] (gArg (zae [true,false] (Ψ "_law_take") (gCns (zaa 0) (gCns #v[6] gA0)))))) (gRet (zg3 (gCns #v[1,4] (gCns (gArg (zae [true,false] (Ψ "_law_take") (gCns (zaa 0) (gCns (gArg (gOp2 oAdd (zaa 1) #v[1])) gA0)))) gA0)))))
theorem z89 {Ψ:Str->Fn}(hT:ze9 (Ψ "_law_take")):z94 (zal [true] 2 (zps Ψ)):=fun k st hs hk=>by
 obtain⟨st1,r,e1,g1,m1,m6⟩:=hT k st 6 hs #v[] #v[0,9] #v[0,9];obtain⟨r,rfl⟩:=Ef m1;have ec:(1:Int)+(r:Int)=((1+r:Nat):Int):=by omega
 obtain⟨st2,t,e2,g2,t0,t1⟩:=hT (k+1) st1 (((1+r:Nat):Int)+1) g1 #v[] #v[] #v[];obtain⟨t,rfl⟩:=Ef t0;refine⟨st2,1+r,t,?_,g2,by omega,by omega,by omega⟩;unfold zps kdW;simp! [e1,ec,e2]
theorem z9y {m:Nat}{f g:Nat->Int} (hf:∀p,Bit (f p)) (hg:∀p,Bit (g p)):Builtin.bitXor (zad (tab (2 ^ m) f)) (zad (tab (2 ^ m) g))=zad (tab (2 ^ m) fun p=>(f p+g p) % 2):=by
  rw [zf0 (zc2 fun i _=>hf i) (zc2 fun i _=>hg i) (by rw [zaq,zaq])];congr 1;have go:∀L:List Nat,List.zipWith dif (L.map f) (L.map g)=L.map fun p=>(f p+g p) % 2:=by
    intro L
    induction L with
    | nil=>rfl
    | cons a L ih =>
      rw[Ad,Ad,Cp,Ad,ih];congr 1;rcases hf a with h | h<;>rcases hg a with h' | h'<;>rw[h,h']<;>rfl
  exact go _
theorem z71 (n:Nat):W.tup (rngW 0 n)=tmW (List.range n):=by
 unfold rngW tmW;exact congrArg W.tup (Cj fun i _=>by rw[Int.zero_add])
theorem ybg {a:GA}{en e1:En}{n:Nat}(h:a en=some (e1,.inl (.int (n:Nat))))(hn:n<=1000000):z2y (gCns a gA0) en=some (e1,(tmW (List.range n),false)):=by
 have r:lrOk (n:Int)=true:=by
  unfold lrOk zd1;rw[Ah #v[],Ah #v[],Ah #v[]];rfl
 have h2:gCns a gA0 en=some (e1,[.inl (.int (n:Nat))]):=by unfold gCns;rw[h];rfl
 have:=z22 h2 rfl r;rw[Dx,z71] at this;exact this
theorem z1c:∀m k:Fin 7,∀s:Fin (2 ^ m.val),(letL s.val).length<=k.val->letL s.val∈zam m.val k.val:=by decide +kernel
theorem zvd:∀m:Fin 7,∀q:Fin (2 ^ m.val),∀s∈zbq ((2 ^ m.val - 1) ^^^ q.val),s < 2 ^ m.val/\(letL s).length+(letL q.val).length<=m.val:=by decide +kernel
theorem z18:∀m:Fin 7,∀q p:Fin (2 ^ m.val),((zbq ((2 ^ m.val - 1) ^^^ q.val)).filter fun s=>s &&& p.val == s).length % 2=if p.val &&& q.val == p.val then 1 else 0:=by decide +kernel
theorem zpt (f:Nat->Int) (c:Nat->Bool):∀L:List Nat,((L.filter c).map f).sum=(L.map fun p=>f p * (if c p then 1 else 0)).sum
  | []=>rfl
  | a::L=>by
    rw[Ad,Bb,<-zpt f c L];cases h:c a with
    | true=>rw[List.filter_cons_of_pos h,Ad,Bb,if_pos rfl,Int.mul_one]
    | false=>rw[List.filter_cons_of_neg (by rw[h];decide),if_neg #v[0,9],Int.mul_zero,Int.zero_add]
theorem zpm (c:Nat->Bool):∀A:List Nat,((A.filter c).length:Int)=(A.map fun s=>if c s then (1:Int) else 0).sum
  | []=>rfl
  | a::A=>by
    rw[Ad,Bb,<-zpm c A];cases h:c a with
    | true=>rw[List.filter_cons_of_pos h,Be,if_pos rfl];omega
    | false=>rw[List.filter_cons_of_neg (by rw[h];decide),if_neg #v[0,9]];omega
theorem zpl (f g:Nat->Int):∀L:List Nat,(L.map fun p=>f p+g p).sum=(L.map f).sum+(L.map g).sum
 | []=>rfl
 | a::L=>by rw[Ad,Ad,Ad,Bb,Bb,Bb,zpl f g L];omega
theorem zuc (f:Nat->Int)(h:∀p,f p=0):∀L:List Nat,(L.map f).sum=0
 | []=>rfl
 | a::L=>by rw[Ad,Bb,zuc f h L,h];rfl
theorem zo2 (f:Nat->Int) (B:Nat->Nat->Int) (L:List Nat):∀A:List Nat,(L.map fun p=>f p * (A.map fun s=>B s p).sum).sum=(A.map fun s=>(L.map fun p=>f p * B s p).sum).sum
  | []=>zuc _ (fun p=>by show f p * 0=0;omega) L
  | a::A=>by
    rw[Ad,Bb,<-zo2 f B L A,<-zpl];congr 1;refine Cj fun p _=>?_;rw[Ad,Bb,Int.mul_add]
theorem zue (f a b:Nat->Int):∀L:List Nat,(∀p∈L,a p % 2=b p % 2)->(L.map fun p=>f p * a p).sum % 2=(L.map fun p=>f p * b p).sum % 2
  | [],_=>rfl
  | x::L,h=>by
    have h1:=h x Ak;have ih:=zue f a b L fun p hp=>h p (Aj _ hp);rw[Ad,Ad,Bb,Bb,Int.add_emod,ih,Int.mul_emod,h1,<-Int.mul_emod,<-Int.add_emod]
theorem sum_even:∀{L:List Int},(∀x∈L,x % 2=0)->L.sum % 2=0
  | [],_=>rfl
  | a::L,h=>by
    have h1:=h a Ak;have ih:=sum_even fun x hx=>h x (Aj a hx);rw[Bb];omega
theorem zja (m:Nat)(f:Nat->Int)(x:List Nat):dotP (tab (2 ^ m) f) (zhb m x)=((List.range (2 ^ m)).map fun p=>f p * valF [x] p).sum % 2:=by
 unfold dotP zhb tab;rw[zjj]
theorem z6z {m t:Nat}{f:Nat->Int}(hm:m<=6)(ht:t<=m)(h:∀x∈chkT m t,dotP (tab (2 ^ m) f) (zhb m x)=0):Deg m t f:=fun q hq e=>by
 have p6:=zd6 hm;refine Nat.le_of_not_lt fun lt=>?_;have z0:0∈zbq ((2 ^ m - 1) ^^^ q):=by
  unfold zbq;exact Ca.mpr ⟨Bj.mpr #v[],by simp⟩
 have l0:=(zvd ⟨m,by omega⟩ ⟨q,hq⟩ 0 z0).2;have l0:(letL 0).length+(letL q).length<=m:=l0;have ez:coefF f q=0:=by
  unfold coefF;rw[<-zh3 ⟨m,by omega⟩ ⟨q,hq⟩];show (((List.range (2 ^ m)).filter fun p=>p &&& q == p).map f).sum % 2=0;rw[zpt,zue f (fun p=>if p &&& q == p then 1 else 0) (fun p=>((zbq ((2 ^ m - 1) ^^^ q)).map fun s=>if s &&& p == s then (1:Int) else 0).sum) _ fun p hp=>?_,zo2]
  ·refine sum_even fun x hx => ?_;obtain⟨s,hs,rfl⟩:=Az.mp hx;obtain⟨s1,s2⟩:=zvd ⟨m,by omega⟩ ⟨q,hq⟩ s hs;have s1:s < 2 ^ m:=s1;have s2:(letL s).length+(letL q).length<=m:=s2;have ne:t≠m:=by omega
   have mem:letL s∈chkT m t:=by
    unfold chkT;rw[if_neg ne];exact z1c ⟨m,by omega⟩ ⟨m - t - 1,by omega⟩ ⟨s,s1⟩ (by show (letL s).length<=m - t - 1;omega)
   have d:=h (letL s) mem;rw[zja] at d;refine Eq.trans ?_ d;congr 2;refine Cj fun p hp=>?_;have lp:=Bj.mp hp;have lh:hasT (letL s) p=(s &&& p == s):=zgn ⟨s,by omega⟩ ⟨p,by omega⟩;rw[zts,lh]
  ·have lp := Bj.mp hp;have o:=z18 ⟨m,by omega⟩ ⟨q,hq⟩ ⟨p,lp⟩;have o:((zbq ((2 ^ m - 1) ^^^ q)).filter fun s=>s &&& p == s).length % 2=if p &&& q == p then 1 else 0:=o;rw[<-zpm];show (if (p &&& q == p)=true then (1:Int) else 0) % 2=_;split at o
   ·rename_i c;rw[if_pos c];omega
   ·rename_i c;rw[if_neg c];omega
 rw[ez] at e;cases e
theorem z9b {m t:Nat}{f:Nat->Int}(hm:m<=6)(ht:t<=m)(hf:∀p,Bit (f p))(h:Deg m t f):∀x∈chkT m t,dotP (tab (2 ^ m) f) (zhb m x)=0:=fun x hx=>by
 have ef:tab (2 ^ m) f=tab (2 ^ m) (valF (duT m f)):=zb7 fun p hp=>(z7d hf hm hp).symm;rw[ef];unfold chkT at hx;split at hx
 ·exact absurd hx Cq
 ·rename_i c;have dx:x.length<=m - t - 1:=zug ⟨m,by omega⟩ ⟨m - t - 1,by omega⟩ x hx;refine zjx hm (zo7 ⟨m,by omega⟩ ⟨m - t - 1,by omega⟩ (by show m - t - 1<=m;omega) x hx) fun s hs=>⟨(Ca.mp hs).1,?_⟩;have:=zxe hm h s hs;omega
theorem yat (m:Nat) (f g:Nat->Int) (x:List Nat):dotP (tab (2 ^ m) fun p=>(f p+g p) % 2) (zhb m x)=(dotP (tab (2 ^ m) f) (zhb m x)+dotP (tab (2 ^ m) g) (zhb m x)) % 2:=by
  rw [zja,zja,zja];have go:∀L:List Nat,(L.map fun p=>(f p+g p) % 2 * valF [x] p).sum % 2=((L.map fun p=>f p * valF [x] p).sum+(L.map fun p=>g p * valF [x] p).sum) % 2:=by
    intro L
    induction L with
    | nil=>rfl
    | cons a L ih =>
      rw[Ad,Ad,Ad,Bb,Bb,Bb];rcases z4h [x] a with e | e<;>rw[e]<;>omega
  rw[go];omega
theorem z9c {xs:List Int}{n:Nat}(h:xs.length=n):(tab n fun i=>xs.getD i 0)=xs:=by
 apply Dw;intro i;by_cases hi:i < n
 ·rw[zdf hi,By,Ac #v[]];rfl
 ·rw[Cd (by rw[zaq];omega),Cd #v[]]
theorem eq_t {as bs:List Int}(h:∀n∈as,zig n)(h' : ∀n∈bs,zig n):oEq (.tup (as.map W.int)) (.tup (bs.map W.int))=some (.bl (decide (as=bs)),false):=by
 obtain⟨_,_,h3,h5,_⟩:=z0u h;obtain⟨_,_,_,h5',_⟩:=z0u h';have e:eqD (.tup (as.map W.int)) (.tup (bs.map W.int))=some (decide (as=bs)):=by
  unfold eqD;rw[zvt,zvt];show (if (ndI as).canLay0 && (ndI bs).canLay0 && decide ((ndI as).depth<=100) then some (PyData.eqv (ndI as) (ndI bs)) else none)=_;rw[h5,h5',Ah #v[]];show some (PyData.eqv (ndI as) (ndI bs))=_;unfold ndI;rw[PyData.eqv,PySem.W.ked_eqvAll]
 show (eqD _ _).bind _=_;rw[e];rfl
theorem z85 {x:Int}(h:Bit x):zig x:=by rcases h with e | e<;>rw[e]<;>exact zpp (k:=1) #v[0,9] #v[0,9]
noncomputable def ybi (Φ:Fn):Prop:=∀(k:Nat) (st:W) (m t:Nat),HS k st->k+100 < big->m<=6->t<=m->∃(st' : W) (ts:List (List Nat)),Φ [st,kdW m t]=some ([st',kdW m t],(.lst ((tab (2 ^ m) (valF ts)).map W.int),true))/\HS (k+66) st'/\ts.Sublist (zam m t)
noncomputable def zrg:W->Prop
 | .int n=>zig n
 | .bl _=>True
 | .str _=>True
 | .non=>True
 | .tup _=>True
 | _=>False
noncomputable def IT (n:Nat) (w:W):Prop:=∃ws,w=.tup ws/\ws.length<=n/\∀x∈ws,zrg x
theorem IT.mono {n k:Nat}{w:W}(h:IT n w)(hk:n<=k):IT k w:=by
 obtain⟨ws,e,l,q⟩:=h;exact⟨ws,e,by omega,q⟩
theorem IT.ints {ns:List Int}{n:Nat}(h:∀x∈ns,zig x)(hl:ns.length<=n):IT n (.tup (ns.map W.int)):=⟨_,rfl,by rw[Aa];exact hl,fun x hx=>by
 obtain⟨y,hy,rfl⟩:=Az.mp hx;exact h y hy⟩
noncomputable def Ex (g:GE) (en:En) (P:W->Prop):Prop:=∃w fl,g en=some (en,(w,fl))/\P w
noncomputable def Ax (a:GA) (en:En) (P:W->Prop):Prop:=∃x w,a en=some (en,x)/\resA en x=some w/\P w
noncomputable def Xs (as:GAs) (en:En) (n:Nat) (P:W->Prop):Prop:=∃ws:List W,as en=some (en,ws.map Sum.inl)/\ws.length=n/\∀w∈ws,P w
section
variable {en:En}{P Q:W->Prop}
theorem Ex.wk {g:GE}(h:Ex g en P)(q:∀w,P w->Q w):Ex g en Q:=by
 obtain⟨w,fl,e,p⟩:=h;exact⟨w,fl,e,q w p⟩
theorem ybh {g:GE}(h:Ex g en P):Ax (gArg g) en P:=by
 obtain⟨w,fl,e,p⟩:=h;exact⟨.inl w,w,by unfold gArg;rw[e];rfl,rfl,p⟩
theorem ex_c {w:W}(p:P w):Ex (gC w) en P:=⟨w,false,rfl,p⟩
theorem ybn {i:Nat}{w:W}{fl:Bool}(h:en[i]?=some (some (w,fl)))(p:P w):Ax (zaa i) en P:=by
 cases fl with
 | false=>exact⟨.inl w,w,by unfold zaa;rw[h],rfl,p⟩
 | true=>exact⟨.inr i,w,by unfold zaa;rw[h],by show (match en[i]? with | some (some (w,_))=>some w | _=>none)=_;rw[h],p⟩
theorem ybj {i:Nat}{w:W}(h:en[i]?=some (#v[w,6]))(p:P w):Ex (gVar i) en P:=⟨w,false,by
 unfold gVar;rw[h];show some (en.set i (#v[w,6]),(w,false))=_;rw[zo6 h],p⟩
theorem z6h {o:O2}{a b:GA}{R:W->Prop}(ha:Ax a en P)(hb:Ax b en Q)(h:∀u v,P u->Q v->∃w fl,o u v=some (w,fl)/\R w):Ex (gOp2 o a b) en R:=by
 obtain⟨x,u,e1,r1,p⟩:=ha;obtain⟨y,v,e2,r2,q⟩:=hb;obtain⟨w,fl,e3,r⟩:=h u v p q;exact⟨w,fl,by unfold gOp2;rw[e1];show (b en).bind _=_;rw[e2];show (resA en x).bind _=_;rw[r1];show (resA en y).bind _=_;rw[r2];show (o u v).bind _=_;rw[e3];rfl,r⟩
theorem z4o {as bs:List W} (h:as.length+bs.length<=1000):oAdd (.tup as) (.tup bs)=some (.tup (as++bs),false):=by
  have s9:(1000:Nat)<=sizeLine:=by decide
  cases as with
  | nil=>rfl
  | cons a as =>
    show (match (if (a::as).length+bs.length<=sizeLine then #v[W.tup (a::as++bs),6] else none) with | some p=>some p | none=>_)=_;rw[if_pos #v[]]
theorem ybk {a b:GA}{n k:Nat}(ha:Ax a en (IT n))(hb:Ax b en (IT k))(h:n+k<=1000):Ex (gOp2 oAdd a b) en (IT (n+k)):=z6h ha hb fun u v p q=>by
 obtain⟨as,rfl,l1,q1⟩:=p;obtain⟨bs,rfl,l2,q2⟩:=q;refine⟨_,_,z4o #v[],as++bs,rfl,by rw[Bf];omega,fun x hx=>?_⟩;rcases Ba.mp hx with z | z
 ·exact q1 x z
 ·exact q2 x z
theorem ybp {a:GA}{lo hi:GO}{l h:Option Int}{n:Nat}(ha:Ax a en (IT n))(h1:lo en=some (en,l))(h2:hi en=some (en,h)):Ex (gSl a lo hi) en (IT n):=by
 obtain⟨x,u,e1,r1,as,rfl,l1,q1⟩:=ha;refine⟨.tup (cutW as l h),false,by unfold gSl;rw[e1];show (lo en).bind _=_;rw[h1];show (hi en).bind _=_;rw[h2];show (resA en x).bind _=_;rw[r1];rfl,cutW as l h,rfl,?_,fun x hx=>?_⟩
 ·unfold cutW;rw[Df,Fb];omega
 ·unfold cutW at hx;exact q1 x (List.mem_of_mem_drop (List.mem_of_mem_take hx))
theorem ybo {a:GA}{k:GO}{n:Nat}(ha:Ax a en (IT n))(h1:k en=some (en,some (-1))):Ex (z4g a k) en (IT n):=by
 obtain⟨x,u,e1,r1,as,rfl,l1,q1⟩:=ha;exact⟨.tup as.reverse,false,z19 e1 h1 r1 rfl,as.reverse,rfl,by rw[Ec];exact l1,fun x hx=>q1 x (List.mem_reverse.mp hx)⟩
theorem xs_0:Xs gA0 en 0 P:=⟨[],rfl,rfl,fun w h=>by cases h⟩
theorem xs_c {g:GE}{as:GAs}{n:Nat}(h:Ex g en P)(hs:Xs as en n P):Xs (gCns (gArg g) as) en (n+1) P:=by
 obtain⟨w,fl,e,p⟩:=h;obtain⟨ws,e2,l,q⟩:=hs;refine⟨w::ws,?_,by rw[Be,l],fun x hx=>?_⟩
 ·unfold gCns gArg;rw[e];show (as en).bind _=_;rw[e2];rfl
 ·rcases Aq.mp hx with rfl | hx
  ·exact p
  ·exact q x hx
theorem ybf {as:GAs}{n:Nat}(h:Xs as en n P)(hn:n<=1000):∃ws,zas as en=some (en,(.lst ws,true))/\ws.length=n/\∀w∈ws,P w:=by
 have s9:(1000:Nat)<=sizeLine:=by decide
 obtain⟨ws,e,l,q⟩:=h;refine⟨ws,?_,l,q⟩;unfold zas;rw[e];show (zbg (ws.map Sum.inl)).bind _=_;rw[zcq];show (if ws.length<=sizeLine then _ else none)=_;rw[if_pos #v[]]
theorem z34 {as:GAs}{n:Nat}(h:Xs as en n zrg)(hn:n<=1000):Ex (zg3 as) en (IT n):=by
 have s9:(1000:Nat)<=sizeLine:=by decide
 obtain⟨ws,e,l,q⟩:=h;refine⟨.tup ws,false,?_,ws,rfl,by omega,q⟩;unfold zg3;rw[e];show (zbg (ws.map Sum.inl)).bind _=_;rw[zcq];show (if ws.length<=sizeLine then _ else none)=_;rw[if_pos #v[]]
theorem ybl {g:GE}(h:Ex g en zrg):Ex (zg3 (gCns (gArg g) gA0)) en (IT 1):=z34 (xs_c h xs_0) #v[0,9]
end
noncomputable def isI:W->Option Int
 | .int i=>some i
 | _=>none
noncomputable def zxa (ds:List Int):W->Bool
  | .tup ws=>match za1 ws with
    | some as=>decide (as=ds)
    | none=>false
  | _=>false
noncomputable def z2n (w:W) (d:Int):Bool:=match w with
 | .int i=>decide (i=d)
 | _=>false
noncomputable def zfe:W->Bool
 | .int _=>true
 | _=>false
theorem zi2:∀{ws:List W},ws.all zfe=true->∃as:List Int,ws=as.map W.int
  | [],_=>⟨[],rfl⟩
  | w::ws,h=>by
    rw[Bq,Ai] at h;obtain⟨as,rfl⟩:=zi2 h.2;cases w with
    | int i=>exact⟨i::as,rfl⟩
    | _=>exact absurd h.1 Af
theorem zlu:∀{ws:List W},ws.all zfe=false->za1 ws=none
  | [],h=>by cases h
  | w::ws,h=>by
    rw[Bq] at h;cases w with
    | int i =>
      have:=zlu (ws:=ws) (by simpa [zfe] using h);show (za1 ws).bind _=none;rw[this];rfl
    | _=>rfl
theorem zhz:∀(as ds:List Int),as.length=ds.length->(List.zipWith z2n (as.map W.int) ds).all id=decide (as=ds)
  | [],[],_=>rfl
  | a::as,d::ds,h=>by
    have ih:=zhz as ds (Fp h);rw[Ad,Cp,Bq,ih];show (decide (a=d) && decide (as=ds))=decide (a::as=d::ds);rw[Dj,Ai,Dc,Dc,Dc,List.cons.injEq]
  | [],_::_,h=>by cases h
  | _::_,[],h=>by cases h
theorem zlo:∀(ws:List W) (ds:List Int),ws.length=ds.length->ws.all zfe=false->(List.zipWith z2n ws ds).all id=false
  | [],[],_,h=>by cases h
  | w::ws,d::ds,hl,h=>by
    rw[Bq] at h;rw[Cp,Bq];cases w with
    | int i =>
      rw[zlo ws ds (Fp hl) (by simpa [zfe] using h)];exact Eh _
    | _=>rfl
  | [],_::_,h,_=>by cases h
  | _::_,[],h,_=>by cases h
theorem zvj (ds as:List Int):zxa ds (.tup (as.map W.int))=decide (as=ds):=by
 show (match za1 (as.map W.int) with | some as=>decide (as=ds) | none=>false)=_;rw[zaw]
theorem zre {ds:List Int}{ws:List W}(h:ws.all zfe=false):zxa ds (.tup ws)=false:=by
 show (match za1 ws with | some as=>decide (as=ds) | none=>false)=_;rw[zlu h]
theorem z4k {ws:List W}{ds:List Int} (hl:ws.length=ds.length):(List.zipWith z2n ws ds).all id=zxa ds (.tup ws):=by
  cases h:ws.all zfe with
  | true =>
    obtain⟨as,rfl⟩:=zi2 h;rw[Aa] at hl;rw[zvj,zhz as ds hl]
  | false =>
    rw[zre h];exact zlo ws ds hl h
theorem z9a {ws:List W}{ds:List Int} (hl:ws.length≠ds.length):zxa ds (.tup ws)=false:=by
  cases h:ws.all zfe with
  | true =>
    obtain⟨as,rfl⟩:=zi2 h;rw[Aa] at hl;rw[zvj];exact Ap fun e=>hl (by rw[e])
  | false=>exact zre h
set_option maxHeartbeats 2000000
noncomputable def dkI (i:Int):DKey:=.inl (.inl i)
noncomputable def dkN (p:Nat):DKey:=.inl (.inl (p:Int))
theorem yai (a b:Int)(h:dkI a=dkI b):a=b:=Gi (Gi h)
theorem zf4 (a b:Nat)(h:dkN a=dkN b):a=b:=Int.ofNat.inj (Gi (Gi h))
theorem ybm (i:Int):keyD (.int i)=some (dkI i):=rfl
section
variable {κ:Type} [DecidableEq κ] {f:κ->DKey}
theorem zuu (hf:∀a b,f a=f b->a=b) (g:κ->W) (p:κ):∀L:List κ,valW ((L.map f).zip (L.map g)) (f p)=if p∈L then some (g p) else none
  | []=>rfl
  | q::L=>by
    rw[Ad,Ad,Cg,zgp,zuu hf g p L];by_cases h:q=p
    · subst h;rw[if_pos rfl,if_pos Ak]
    · rw [if_neg fun e => h (hf _ _ e)]
      by_cases m:p∈L
      · rw[if_pos m,if_pos (Aj _ m)]
      · rw[if_neg m,if_neg fun z=>by rcases Aq.mp z with z | z;exact h z.symm;exact m z]
theorem zsr (hf:∀a b,f a=f b->a=b) (g:κ->W) (p:κ) (w:W):∀L:List κ,List.zipWith (fun k' v'=>if k'=f p then w else v') (L.map f) (L.map g)=L.map fun q=>if q=p then w else g q
  | []=>rfl
  | q::L=>by
    rw[Ad,Ad,Cp,zsr hf g p w L,Ad];by_cases h:q=p
    · subst h;rw[if_pos rfl,if_pos rfl]
    · rw[if_neg fun e=>h (hf _ _ e),if_neg h]
theorem zfi (hf:∀a b,f a=f b->a=b){L:List κ}{p:κ}:f p∈L.map f↔p∈L:=by
 rw[Az];exact⟨fun ⟨a,h,e⟩=>hf _ _ e ▸ h,fun h=>⟨p,h,rfl⟩⟩
theorem z2i (hf:∀a b,f a=f b->a=b)(g:κ->W){p:κ}(w:W){L:List κ}(h:p∈L):zd4 (L.map f) (L.map g) (f p) w=L.map fun q=>if q=p then w else g q:=by
 unfold zd4;rw[if_pos ((zfi hf).mpr h),zsr hf]
theorem zwk (hf:∀a b,f a=f b->a=b)(ws:List W){p:κ}(w:W){L:List κ}(h:p ∉ L):zd4 (L.map f) ws (f p) w=ws++[w]:=by
 unfold zd4;rw[if_neg (mt (zfi hf).mp h)]
theorem z2t (hf:∀a b,f a=f b->a=b){p:κ}{L:List κ}(h:p∈L):zdz (L.map f) (f p)=L.map f:=by
 unfold zdz;rw[if_pos ((zfi hf).mpr h)]
theorem zzg (hf:∀a b,f a=f b->a=b){p:κ}{L:List κ}(h:p ∉ L):zdz (L.map f) (f p)=L.map f++[f p]:=by
 unfold zdz;rw[if_neg (mt (zfi hf).mp h)]
end
theorem zr5 (p:Nat)(L:List Nat):zhf (dkN p) (L.map dkN)=true:=by
 unfold zhf;rw[List.all_map];exact Bg.mpr fun _ _=>rfl
theorem yac (p:Int)(L:List Int):zhf (dkI p) (L.map dkI)=true:=by
 unfold zhf;rw[List.all_map];exact Bg.mpr fun _ _=>rfl
theorem ybq {i:Nat}{g g' : GE}{en:En}{ks:List DKey}{ws:List W}{f f1:Bool}{u w:W}{r:W × Bool}{d:DKey}(h0:en[i]?=some (some (.dct ks ws,f)))(h1:g en=some (en,(u,f1)))(h2:g' en=some (en,r))(hd:keyD u=some d)(hv:valW (ks.zip ws) d=some w):zym i g g' en=some (en,(w,false)):=by
 unfold zym;simp only [h0,h1,h2,Ci,hd,hv]
theorem ybs {i:Nat}{g g' : GE}{en:En}{ks:List DKey}{ws:List W}{f f1:Bool}{u:W}{r:W × Bool}{d:DKey}(h0:en[i]?=some (some (.dct ks ws,f)))(h1:g en=some (en,(u,f1)))(h2:g' en=some (en,r))(hd:keyD u=some d)(hv:valW (ks.zip ws) d=none)(hs:zhf d ks=true):zym i g g' en=some (en,r):=by
 unfold zym;simp only [h0,h1,h2,Ci,hd,hv,hs,Fa]
theorem z5x {i:Nat}{k g:GE}{en e1:En}{ks:List DKey}{ws:List W}{f f2:Bool}{u w:W}{d:DKey}(h:g en=some (e1,(w,f)))(hk:k e1=some (e1,(u,f2)))(hi:e1[i]?=some (some (.dct ks ws,true)))(hd:keyD u=some d)(hs:zhf d ks=true)(hl:ks.length < sizeLine):zk4 i k g en=some (e1.set i (some (.dct (zdz ks d) (zd4 ks ws d w),true)),.nx):=by
 unfold zk4;simp only [h,hk,hi,Ci,hd,hs,Bool.true_and,Ah hl,Fa]
theorem z9h {ks:List DKey}{ws:List W}{u w:W}{d:DKey}(hd:keyD u=some d)(hv:valW (ks.zip ws) d=some w):oIxD (.dct ks ws) u=#v[w,6]:=by
 unfold oIxD;simp only [hd,hv,Ci]
theorem znd:∀L:List Nat,zij (L.map dkN)=some (L.map fun p:Nat=>W.int (p:Int))
  | []=>rfl
  | p::L=>by
    show (zij (L.map dkN)).bind _=_;rw[znd L];rfl
theorem z4i:∀L:List Int,zij (L.map dkI)=some (L.map W.int)
  | []=>rfl
  | p::L=>by
    show (zij (L.map dkI)).bind _=_;rw[z4i L];rfl
theorem zyv {ns:List Int}(h:ns.Pairwise (·<=·)):sortI ns=ns:=zdn (List.Perm.refl _) h
theorem z9v {L:List Nat}(h:L.Pairwise (· < ·))(hn:L≠[])(ws:List W):zj0 [.dct (L.map dkN) ws]=#v[(zab L),2]:=by
 have e:za1 (L.map fun p:Nat=>W.int (p:Int))=some (L.map fun p:Nat=>(p:Int)):=by
  have:=zaw (L.map fun p:Nat=>(p:Int));rw[Dd] at this;exact this
 have hs:sortI (L.map fun p:Nat=>(p:Int))=L.map fun p:Nat=>(p:Int):=zyv (by rw[Ck];exact h.imp fun hab=>by omega);have hm:(L.map dkN).isEmpty=false:=by cases L with
  | nil=>exact absurd rfl hn
  | cons _ _=>rfl
 unfold zj0;simp only [znd,Ci,e,hm,hs];rw[if_neg Af,<-zao]
noncomputable def tp (w:Nat):Nat:=w.log2
theorem seq_e' {a b:GS}{en e1:En}{r:Option (En × Fl)}(h1:a en=some (e1,.nx))(h2:b e1=r):gSeq a b en=r:=(seq_nx h1).trans h2
theorem tp_bit {w:Nat}(h:w≠0):w.testBit (tp w)=true:=Nat.testBit_log2 h
theorem zfz {w i:Nat}(h:w.testBit i=true):i<=tp w:=by
 have hw:w≠0:=fun z=>by rw[z,Bo] at h;exact Af h
 exact (Nat.le_log2 hw).mpr (Nat.ge_two_pow_of_testBit h)
theorem zgs {w i:Nat}(h:tp w < i):w.testBit i=false:=by
 cases q:w.testBit i with
 | false=>rfl
 | true=>have:=zfz q;omega
theorem z5n {w t:Nat}(h:w.testBit t=true)(h2:∀i,t < i->w.testBit i=false):tp w=t:=by
 have a:=zfz h;have hw:w≠0:=fun z=>by rw[z,Bo] at h;exact Af h
 rcases Nat.lt_or_ge t (tp w) with c | c
 ·have := h2 _ c;rw[tp_bit hw] at this;exact absurd this.symm Af
 ·omega
noncomputable def sel:List Nat->Nat->Nat
 | [],_=>0
 | b::B,w=>(if w.testBit (tp b) then b else 0) ^^^ sel B w
noncomputable def RB (B:List Nat):Prop:=(∀b∈B,b≠0)/\B.Pairwise fun a b=>a.testBit (tp b)=false/\b.testBit (tp a)=false
theorem RB.tail {b:Nat}{B:List Nat}(h:RB (b::B)):RB B:=⟨fun x hx=>h.1 x (Aj _ hx),(Bs.mp h.2).2⟩
theorem RB.two {B:List Nat} (h:RB B) {a b:Nat} (ha:a∈B) (hb:b∈B) (ne:a≠b):a.testBit (tp b)=false:=by
  induction B with
  | nil=>cases ha
  | cons x B ih =>
    have hp:=Bs.mp h.2;rcases Aq.mp ha with rfl | ha
    · rcases Aq.mp hb with rfl | hb
      · exact absurd rfl ne
      · exact (hp.1 b hb).1
    · rcases Aq.mp hb with rfl | hb
      · rename_i ha'
        exact (hp.1 a (by assumption)).2
      · exact ih h.tail ha hb
theorem sel_no {t w:Nat}:∀{B:List Nat},(∀b∈B,b.testBit t=false)->(sel B w).testBit t=false
  | [],_=>Bo t
  | b::B,h=>by
    show ((if w.testBit (tp b) then b else 0) ^^^ sel B w).testBit t=false;rw[Bk,sel_no fun x hx=>h x (Aj _ hx)];have hb:=h b Ak;split
    · rw[hb];rfl
    · rw[Bo];rfl
theorem sel_bit {w:Nat}:∀{B:List Nat},RB B->∀b∈B,(sel B w).testBit (tp b)=w.testBit (tp b)
  | [],_,b,hb=>by cases hb
  | a::B,h,b,hb=>by
    have hp:=Bs.mp h.2;show ((if w.testBit (tp a) then a else 0) ^^^ sel B w).testBit (tp b)=_;rw[Bk];rcases Aq.mp hb with rfl | hb
    · rw [sel_no fun x hx => (hp.1 x hx).2, Ge]
      cases q:w.testBit (tp b) with
      | true=>rw[if_pos rfl];exact tp_bit (h.1 b Ak)
      | false=>rw[if_neg Af];exact Bo _
    · rw [sel_bit h.tail b hb]
      have:=(hp.1 b hb).1;split
      · rw[this,Bool.false_xor]
      · rw[Bo,Bool.false_xor]
theorem zs0 (u v:Nat):∀B:List Nat,sel B (u ^^^ v)=sel B u ^^^ sel B v
  | []=>(Ek 0).symm
  | b::B=>by
    show (if (u ^^^ v).testBit (tp b) then b else 0) ^^^ sel B (u ^^^ v)=((if u.testBit (tp b) then b else 0) ^^^ sel B u) ^^^ ((if v.testBit (tp b) then b else 0) ^^^ sel B v);rw[zs0 u v B,Bk];have sw:∀a b c d:Nat,(a ^^^ b) ^^^ (c ^^^ d)=(a ^^^ c) ^^^ (b ^^^ d):=fun a b c d=>by rw[Da,Da,<-Da b c d,Nat.xor_comm b c,Da]
    rw[sw];congr 1;cases u.testBit (tp b)<;>cases v.testBit (tp b)<;>simp
theorem zn5:∀B:List Nat,sel B 0=0
  | []=>rfl
  | b::B=>by
    show (if (0:Nat).testBit (tp b) then b else 0) ^^^ sel B 0=0;rw[zn5 B,Bo,if_neg Af,Ek]
theorem zme {w:Nat}:∀{B:List Nat},(∀b∈B,w.testBit (tp b)=false)->sel B w=0
  | [],_=>rfl
  | b::B,h=>by
    show (if w.testBit (tp b) then b else 0) ^^^ sel B w=0;rw[zme fun x hx=>h x (Aj _ hx),h b Ak,if_neg Af,Ek]
theorem znx:∀{B:List Nat},RB B->∀b∈B,sel B b=b
  | [],_,b,hb=>by cases hb
  | a::B,h,b,hb=>by
    have hp:=Bs.mp h.2;show (if b.testBit (tp a) then a else 0) ^^^ sel B b=b;rcases Aq.mp hb with rfl | hb
    · rw[zme fun x hx=>(hp.1 x hx).1,tp_bit (h.1 b Ak),if_pos rfl,Cw]
    · rw[znx h.tail b hb,(hp.1 b hb).2,if_neg Af,Fo]
theorem znv {w t:Nat}:∀{B:List Nat},(sel B w).testBit t=true->∃b∈B,w.testBit (tp b)=true/\b.testBit t=true
  | [],h=>by
    have h:(0:Nat).testBit t=true:=h;rw[Bo] at h;exact absurd h Af
  | a::B,h=>by
    have h:((if w.testBit (tp a) then a else 0) ^^^ sel B w).testBit t=true:=h;rw[Bk] at h;cases q:(sel B w).testBit t with
    | true =>
      obtain⟨b,hb,r⟩:=znv q;exact⟨b,Aj _ hb,r⟩
    | false =>
      rw[q,Ge] at h;split at h
      · rename_i z;exact⟨a,Ak,z,h⟩
      · rw[Bo] at h;exact absurd h Af
inductive SpN (S:List Nat):Nat->Prop where
 | zero:SpN S 0
 | add {v b:Nat} (h:SpN S v) (hb:b∈S):SpN S (v ^^^ b)
theorem SpN.one {S:List Nat}{b:Nat}(h:b∈S):SpN S b:=by
 have:=SpN.add SpN.zero h
 rwa [Fo] at this
theorem SpN.xor {S:List Nat}{u v:Nat}(hu:SpN S u)(hv:SpN S v):SpN S (u ^^^ v):=by
 induction hv with
 | zero=>rwa [Cw]
 | add _ hb ih=>rw[<-Da];exact ih.add hb
theorem SpN.go {S T:List Nat}{v:Nat}(h:SpN S v)(hs:∀b∈S,SpN T b):SpN T v:=by
 induction h with
 | zero=>exact .zero
 | add _ hb ih=>exact ih.xor (hs _ hb)
noncomputable def Same2 (S T:List Nat):Prop:=(∀b∈S,SpN T b)/\∀b∈T,SpN S b
theorem Same2.refl (S:List Nat):Same2 S S:=⟨fun _ h=>.one h,fun _ h=>.one h⟩
theorem Same2.symm {S T:List Nat}(h:Same2 S T):Same2 T S:=⟨h.2,h.1⟩
theorem Same2.trans {S T U:List Nat}(h:Same2 S T)(k:Same2 T U):Same2 S U:=⟨fun b hb=>(h.1 b hb).go k.1,fun b hb=>(k.2 b hb).go h.2⟩
theorem Same2.mem {S T:List Nat}(h:∀x,x∈S↔x∈T):Same2 S T:=⟨fun b hb=>.one ((h b).mp hb),fun b hb=>.one ((h b).mpr hb)⟩
theorem Same2.app {S T U V:List Nat}(h:Same2 S T)(k:Same2 U V):Same2 (S++U) (T++V):=by
 have l:∀{A B:List Nat}{v},SpN A v->SpN (A++B) v:=fun h=>h.go fun b hb=>.one (Br _ hb);have r:∀{A B:List Nat}{v},SpN B v->SpN (A++B) v:=fun h=>h.go fun b hb=>.one (Bh _ hb);exact⟨fun b hb=>(Ba.mp hb).elim (fun h1=>l (h.1 b h1)) fun h1=>r (k.1 b h1),fun b hb=>(Ba.mp hb).elim (fun h1=>l (h.2 b h1)) fun h1=>r (k.2 b h1)⟩
theorem zv7 (w:Nat):∀{B C:List Nat},(∀b∈B,b∈C)->SpN C (sel B w)
  | [],_,_=>.zero
  | b::B,C,h=>by
    have ih:=zv7 w (B:=B) (C:=C) fun x hx=>h x (Aj _ hx);show SpN C ((if w.testBit (tp b) then b else 0) ^^^ sel B w);split
    · exact (SpN.one (h b Ak)).xor ih
    · rwa [Fo]
theorem z0b {B:List Nat}(h:RB B){v:Nat}(hv:SpN B v):sel B v=v:=by
 induction hv with
 | zero=>exact zn5 B
 | add _ hb ih=>rw[zs0,ih,znx h _ hb]
theorem zwa {a b:Nat}(h:a ^^^ b=0):a=b:=by
 have:(a ^^^ b) ^^^ b=0 ^^^ b:=by rw[h]
 rwa [Da,Ek,Cw,Fo] at this
theorem zou {B C:List Nat}(hB:RB B)(hC:RB C)(s:Same2 B C):∀b∈B,b∈C:=fun b hb=>by
 have top:∀{B C:List Nat},RB B->RB C->Same2 B C->∀b∈B,∃c∈C,tp c=tp b:=fun {B C} hB hC s b hb=>by
  have e:=z0b hC (s.1 b hb);have t1:=tp_bit (hB.1 b hb);rw[<-e] at t1;obtain⟨c,hc,c1,c2⟩:=znv (w:=b) (t:=tp (sel C b)) (B:=C) (by rw[e] at t1 ⊢;exact t1);rw[e] at c2;have:=zfz c1;have:=zfz c2;exact⟨c,hc,by omega⟩
 obtain⟨c,hc,ec⟩:=top hB hC s b hb;have hv:SpN B (b ^^^ c):=(SpN.one hb).xor (s.2 c hc);have z:sel B (b ^^^ c)=0:=zme fun b' hb'=>by
  rw[Bk];by_cases e:b'=b
  ·rw[e,tp_bit (hB.1 b hb),<-ec,tp_bit (hC.1 c hc)];rfl
  ·obtain ⟨c', hc', ec'⟩ := top hB hC s b' hb';have n1:=hB.two hb hb' (Ne.symm e);have n2:c≠c':=fun q=>by
    subst q;have:=tp_bit (hB.1 b hb);rw[<-ec,ec',n1] at this;exact Af this
   rw[n1,<-ec',hC.two hc hc' n2];rfl
 rw[z0b hB hv] at z;rw[zwa z];exact hc
theorem RB.nodup {B:List Nat}(h:RB B):B.Nodup:=by
 rw[Gc];refine h.2.imp_of_mem fun {a b} ha hb q e=>?_;subst e;rw[tp_bit (h.1 a ha)] at q;exact Af q.1.symm
theorem zkb {B C:List Nat}(hB:RB B)(hC:RB C)(s:Same2 B C):B.Perm C:=by
 rw[List.perm_iff_count];intro a;rw[hB.nodup.count,hC.nodup.count];by_cases c:a∈B
 ·rw[if_pos c,if_pos (zou hB hC s a c)]
 ·rw[if_neg c,if_neg fun z=>c (zou hC hB s.symm a z)]
noncomputable def boS (B:List Nat) (w:Nat):List Nat:=if w ^^^ sel B w=0 then B else B.map (fun r=>r ^^^ sel [w ^^^ sel B w] r)++[w ^^^ sel B w]
theorem zez (l r:Nat):sel [l] r=if r.testBit (tp l) then l else 0:=by
 show (if r.testBit (tp l) then l else 0) ^^^ 0=_;rw[Cw]
theorem zjr {S:List Nat}{u v:Nat}(h:SpN S (u ^^^ v))(hv:SpN S v):SpN S u:=by
 have:=h.xor hv
 rwa [Da,Ek,Cw] at this
theorem z2a {B:List Nat}(h:RB B)(w:Nat):RB (boS B w)/\Same2 (boS B w) (B++[w]):=by
 unfold boS;have lb:∀b∈B,(w ^^^ sel B w).testBit (tp b)=false:=fun b hb=>by rw[Bk,sel_bit h b hb,Bool.xor_self]
 have ss:SpN B (sel B w):=zv7 w fun _ h=>h;by_cases z:w ^^^ sel B w=0
 ·rw[if_pos z];refine⟨h,fun b hb=>.one (Br _ hb),fun b hb=>?_⟩;rcases Ba.mp hb with hb | hb
  ·exact .one hb
  ·rw[Al.mp hb,zwa z];exact ss
 ·rw[if_neg z];have sw:SpN (B++[w]) (w ^^^ sel B w):=(SpN.one (Bh _ (Al.mpr rfl))).xor (ss.go fun b hb=>.one (Br _ hb));generalize hl:w ^^^ sel B w=l at *
  have tl:=tp_bit z;have ne:∀b∈B,tp b≠tp l:=fun b hb e=>by have:=lb b hb;rw[e,tl] at this;exact Af this.symm
  have rt:∀b∈B,tp (b ^^^ sel [l] b)=tp b/\b ^^^ sel [l] b≠0:=fun b hb=>by
   have tb:=tp_bit (h.1 b hb);have b1:(b ^^^ sel [l] b).testBit (tp b)=true:=by
    rw[zez];split
    ·rw[Bk,tb,lb b hb];rfl
    ·rw[Cw];exact tb
   refine⟨z5n b1 fun i hi=>?_,fun e=>by rw[e,Bo] at b1;exact Af b1⟩;rw[zez];split
   ·rename_i q;have:=zfz q;have:=ne b hb;rw[Bk,zgs hi,zgs (w:=l) #v[]];rfl
   ·rw[Cw];exact zgs hi
  have cut:∀b,(b ^^^ sel [l] b).testBit (tp l)=false:=fun b=>by
   rw[zez,Bk];cases q:b.testBit (tp l) with
   | true=>rw[if_pos rfl,tl];rfl
   | false=>rw[if_neg Af,Bo];rfl
  refine⟨⟨fun b hb=>?_,?_⟩,fun b hb=>?_,fun b hb=>?_⟩
  ·rcases Ba.mp hb with hb | hb
   ·obtain⟨a, ha, rfl⟩ := Az.mp hb;exact (rt a ha).2
   ·rw[Al.mp hb];exact z
  ·rw[Cc];refine⟨?_,Fi _ _,fun a ha b hb=>?_⟩
   ·rw [Ck];refine h.2.imp_of_mem fun {a b} ha hb q=>?_;have oth:∀{x y:Nat},y∈B->x.testBit (tp y)=false->(x ^^^ sel [l] x).testBit (tp y)=false:=fun {x y} hy hx=>by
     rw[zez];split
     ·rw[Bk,hx,lb y hy];rfl
     ·rw[Cw];exact hx
    rw[(rt a ha).1,(rt b hb).1];exact⟨oth hb q.1,oth ha q.2⟩
   ·obtain⟨x, hx, rfl⟩ := Az.mp ha;rw[Al.mp hb,(rt x hx).1];exact⟨cut x,lb x hx⟩
  ·rcases Ba.mp hb with hb | hb
   ·obtain⟨a, ha, rfl⟩ := Az.mp hb;have sa:SpN (B++[w]) a:=.one (Br _ ha);rw[zez];split
    ·exact sa.xor sw
    ·rwa [Cw]
   ·rw[Al.mp hb];exact sw
  ·have sl : SpN (B.map (fun r => r ^^^ sel [l] r) ++ [l]) l := .one (Bh _ (Al.mpr rfl));have sb:∀a∈B,SpN (B.map (fun r=>r ^^^ sel [l] r)++[l]) a:=fun a ha=>by
    have s1:SpN (B.map (fun r=>r ^^^ sel [l] r)++[l]) (a ^^^ sel [l] a):=.one (Br _ (Az.mpr ⟨a,ha,rfl⟩));rw[zez] at s1;split at s1
    ·exact zjr s1 sl
    ·rwa [Cw] at s1
   rcases Ba.mp hb with hb | hb
   ·exact sb b hb
   ·rw[Al.mp hb];refine zjr (v:=sel B w) (by rw[hl];exact sl) (ss.go sb)
noncomputable def bo (ws:List Nat):List Nat:=ws.foldl boS []
theorem zm1 (ws:List Nat):RB (bo ws)/\Same2 (bo ws) ws:=by
  have go:∀(ws B S:List Nat),RB B->Same2 B S->RB (ws.foldl boS B)/\Same2 (ws.foldl boS B) (S++ws):=by
    intro ws
    induction ws with
    | nil=>intro B S h s;rw[Bt];exact⟨h,s⟩
    | cons w ws ih =>
      intro B S h s;obtain⟨a,b⟩:=z2a h w;have:=ih (boS B w) (S++[w]) a (b.trans (s.app (.refl [w])))
      rwa [Bc] at this
  exact go ws [] [] ⟨fun b hb=>(nomatch hb),List.Pairwise.nil⟩ (.refl [])
noncomputable def zbr (L:List Nat) (g:Nat->Nat):Prop:=L.Nodup/\∀t∈L,g t≠0/\tp (g t)=t
noncomputable def offS (g:Nat->Nat) (r t:Nat):Nat:=if r.testBit t then r ^^^ g t else r
theorem zpx {L:List Nat}{g:Nat->Nat} (h:zbr L g):∀(P:List Nat) (r:Nat),(∀t∈P,t∈L)->P.Pairwise (· > ·)->(∀t∈P,(P.foldl (offS g) r).testBit t=false)/\∀i,(∀t∈P,t < i)->(P.foldl (offS g) r).testBit i=r.testBit i
  | [],r,_,_=>⟨fun t ht=>(nomatch ht),fun i _=>rfl⟩
  | t::P,r,hm,hp=>by
    have hp:=Bs.mp hp;obtain ⟨a,b⟩:=zpx h P (offS g r t) (fun x hx=>hm x (Aj _ hx)) hp.2;obtain ⟨g0,gt⟩:=h.2 t (hm t Ak);have hi:∀i,t < i->(offS g r t).testBit i=r.testBit i:=fun i hi=>by
      unfold offS;split
      · rw[Bk,zgs (w:=g t) (by rw[gt];exact hi),Ge]
      · rfl
    have ct:(offS g r t).testBit t=false:=by
      unfold offS;have:=tp_bit g0;rw[gt] at this;split
      · rename_i q;rw[Bk,q,this];rfl
      · rename_i q;exact Bm _ ▸ q
    refine⟨fun x hx=>?_,fun i hi'=>?_⟩
    · rcases Aq.mp hx with rfl | hx
      · show (P.foldl (offS g) (offS g r x)).testBit x = false
        rw[b x fun y hy=>hp.1 y hy,ct]
      · exact a x hx
    · show (P.foldl (offS g) (offS g r t)).testBit i = _
      rw[b i fun y hy=>hi' y (Aj _ hy),hi i (hi' t Ak)]
theorem zzu {S:List Nat}{g:Nat->Nat}:∀(P:List Nat) (r:Nat),(∀t∈P,SpN S (g t))->SpN S (r ^^^ P.foldl (offS g) r)
  | [],r,_=>by show SpN S (r ^^^ r);rw[Ek];exact .zero
  | t::P,r,h=>by
    have ih:=zzu P (offS g r t) fun x hx=>h x (Aj _ hx);show SpN S (r ^^^ P.foldl (offS g) (offS g r t));have st:SpN S (r ^^^ offS g r t):=by
      unfold offS;split
      · rw[<-Da,Ek,Fo];exact h t Ak
      · rw[Ek];exact .zero
    have:=st.xor ih
    rwa [Da,<-Da (offS g r t),Ek,Fo] at this
noncomputable def updF (g:Nat->Nat) (t v:Nat):Nat->Nat:=fun x=>if x=t then v else g x
theorem zy8 {L P:List Nat}{g:Nat->Nat}{r v:Nat}(h:zbr L g)(hP:∀t,t∈P↔t∈L)(hs:P.Pairwise (· > ·))(hv:P.foldl (offS g) r=v)(hz:v≠0):tp v ∉ L/\zbr (L++[tp v]) (updF g (tp v) v)/\∀x∈L,updF g (tp v) v x=g x:=by
 obtain⟨a,_⟩:=zpx h P r (fun t ht=>(hP t).mp ht) hs;rw[hv] at a;have no:tp v ∉ L:=fun m=>by have:=a _ ((hP _).mpr m);rw[tp_bit hz] at this;exact Af this.symm
 have old:∀x∈L,updF g (tp v) v x=g x:=fun x hx=>if_neg fun (e:x=tp v)=>no (e ▸ hx);refine⟨no,⟨?_,fun t ht=>?_⟩,old⟩
 ·rw[List.nodup_append];refine⟨h.1,by simp,fun x hx y hy e=>?_⟩;rw[Al.mp hy] at e;exact no (e ▸ hx)
 ·rcases Ba.mp ht with ht | ht
  ·rw[old t ht];exact h.2 t ht
  ·rw[Al.mp ht];have:updF g (tp v) v (tp v)=v:=if_pos rfl;rw[this];exact⟨hz,rfl⟩
noncomputable def clrS (t:Nat) (g:Nat->Nat):Nat->Nat:=fun o=>if o≠t/\(g o).testBit t=true then g o ^^^ g t else g o
theorem z0r {L:List Nat}{g:Nat->Nat}{t:Nat}(h:zbr L g)(ht:t∈L):zbr L (clrS t g)/\Same2 (L.map (clrS t g)) (L.map g)/\(∀o∈L,o≠t->(clrS t g o).testBit t=false)/\∀i,(g t).testBit i=false->∀o,(clrS t g o).testBit i=(g o).testBit i:=by
 obtain⟨g0,gt⟩:=h.2 t ht;have tb:=tp_bit g0;rw[gt] at tb;have self:clrS t g t=g t:=if_neg fun z=>z.1 rfl;have st:SpN (L.map (clrS t g)) (g t):=by rw[<-self];exact .one (Az.mpr ⟨t,ht,rfl⟩)
 have sg:SpN (L.map g) (g t):=.one (Az.mpr ⟨t,ht,rfl⟩);refine⟨⟨h.1,fun o ho=>?_⟩,⟨fun b hb=>?_,fun b hb=>?_⟩,fun o ho ne=>?_,fun i hi o=>?_⟩
 ·obtain⟨o0, ot⟩ := h.2 o ho;unfold clrS;split
  ·rename_i z;have le:=zfz z.2;rw[ot] at le;have lt:t < o:=by have:=z.1;omega
   have b1:(g o ^^^ g t).testBit o=true:=by
    have:=tp_bit o0;rw[ot] at this;rw[Bk,this,zgs (w:=g t) (by rw[gt];exact lt)];rfl
   refine⟨fun e=>by rw[e,Bo] at b1;exact Af b1,z5n b1 fun i hi=>?_⟩;rw[Bk,zgs (w:=g o) (by rw[ot];exact hi),zgs (w:=g t) (by rw[gt];omega)];rfl
  ·exact⟨o0,ot⟩
 ·obtain⟨o, ho, rfl⟩ := Az.mp hb;have so:SpN (L.map g) (g o):=.one (Az.mpr ⟨o,ho,rfl⟩);unfold clrS;split
  ·exact so.xor sg
  ·exact so
 ·obtain⟨o, ho, rfl⟩ := Az.mp hb;have so:SpN (L.map (clrS t g)) (clrS t g o):=.one (Az.mpr ⟨o,ho,rfl⟩);by_cases c:o≠t/\(g o).testBit t=true
  ·have e : clrS t g o = g o ^^^ g t := if_pos c;rw[e] at so;exact zjr so st
  ·have e : clrS t g o = g o := if_neg c
   rwa [e] at so
 ·unfold clrS;by_cases c:(g o).testBit t=true
  ·rw[if_pos ⟨ne,c⟩,Bk,c,tb];rfl
  ·rw[if_neg fun z=>c z.2];exact Bm _ ▸ c
 ·unfold clrS;split
  ·rw[Bk,hi,Ge]
  ·rfl
theorem zvr {L:List Nat}:∀(P:List Nat) (g:Nat->Nat) (D:List Nat),zbr L g->(∀t∈P,t∈L)->(∀t∈D,∀o∈L,o≠t->(g o).testBit t=false)->P.Pairwise (· < ·)->(∀d∈D,∀t∈P,d < t)->zbr L (P.foldl (fun g t=>clrS t g) g)/\Same2 (L.map (P.foldl (fun g t=>clrS t g) g)) (L.map g)/\∀t∈D++P,∀o∈L,o≠t->(P.foldl (fun g t=>clrS t g) g o).testBit t=false
  | [],g,D,h,_,hd,_,_=>⟨h,.refl _,fun t ht=>hd t (by rwa [Bt] at ht)⟩
  | t::P,g,D,h,hP,hd,hs,hl=>by
    have hs:=Bs.mp hs;have tL:=hP t Ak;obtain⟨a,b,c,d⟩:=z0r h tL;have:=zvr P (clrS t g) (D++[t]) a (fun x hx=>hP x (Aj _ hx)) (fun x hx o ho ne=>?_) hs.2 (fun x hx y hy=>?_)
    · rw [Bc] at this
      exact⟨this.1,this.2.1.trans b,this.2.2⟩
    · rcases Ba.mp hx with hx | hx
      · rw[d x (hd x hx t tL (by have:=hl x hx t Ak;omega)) o];exact hd x hx o ho ne
      · rw[Al.mp hx] at ne ⊢;exact c o ho ne
    · rcases Ba.mp hx with hx | hx
      · exact hl x hx y (Aj _ hy)
      · rw[Al.mp hx];exact hs.1 y hy
theorem zum {L P:List Nat}{g:Nat->Nat}(h:zbr L g)(hP:∀t,t∈P↔t∈L)(hs:P.Pairwise (· < ·))(hc:∀t∈P,∀o∈L,o≠t->(g o).testBit t=false):RB (P.map g)/\(P.map g).Pairwise (· < ·):=by
 refine⟨⟨fun b hb=>?_,?_⟩,?_⟩
 ·obtain⟨t, ht, rfl⟩ := Az.mp hb;exact (h.2 t ((hP t).mp ht)).1
 ·rw[Ck];refine hs.imp_of_mem fun {a b} ha hb lt=>?_;rw[(h.2 a ((hP a).mp ha)).2,(h.2 b ((hP b).mp hb)).2];exact⟨hc b hb a ((hP a).mp ha) #v[],hc a ha b ((hP b).mp hb) #v[]⟩
 ·rw [Ck];refine hs.imp_of_mem fun {a b} ha hb lt=>?_;obtain ⟨a0,at'⟩:=h.2 a ((hP a).mp ha);obtain ⟨b0,bt⟩:=h.2 b ((hP b).mp hb);have l1:g a < 2 ^ (a+1):=by
   have:=Nat.lt_log2_self (n:=g a);rw[show (g a).log2=a from at'] at this;exact this
  have l2:2 ^ b<=g b:=by
   have:=Nat.log2_self_le b0;rw[show (g b).log2=b from bt] at this;exact this
  have:2 ^ (a+1)<=2 ^ b:=Nat.pow_le_pow_right #v[0,9] lt;omega
noncomputable def bitN (w i:Nat):Int:=if w.testBit i then 1 else 0
theorem zfm (w i:Nat):Bit (bitN w i):=by unfold bitN;split<;>first | exact .inr rfl | exact .inl rfl
theorem zeu (w i:Nat):decide (bitN w i=1)=w.testBit i:=by unfold bitN;cases w.testBit i<;>rfl
theorem zo0 (n:Nat)(f:Nat->Int):tab (n+1) f=f 0::tab n fun i=>f (i+1):=by
 unfold tab;rw[List.range_succ_eq_map,Ad,Dd]
 rfl
theorem zby:∀(n w:Nat),w < 2 ^ n->zad (tab n (bitN w))=(w:Int)
  | 0,w,h=>by
    have:w=0:=by have:2 ^ 0=1:=rfl;omega
    subst this;rfl
  | n+1,w,h=>by
    have p2:2 ^ (n+1)=2 * 2 ^ n:=by rw[Nat.pow_succ];omega
    rw[zo0,zbs,zb7 (f:=fun i=>bitN w (i+1)) (g:=bitN (w / 2)) fun i _=>by unfold bitN;rw[Nat.testBit_succ],zby n (w / 2) #v[]];unfold bitN;rw[Nat.testBit_zero];by_cases c:w % 2=1
    · rw[if_pos (Ah c)];omega
    · rw[if_neg (by rw[Ap c];exact Af)];omega
theorem zpc:∀xs:List Int,Bits xs->∃w,w < 2 ^ xs.length/\xs=tab xs.length (bitN w)
  | [],_=>⟨0,by decide,rfl⟩
  | x::xs,h=>by
    obtain⟨w,hw,e⟩:=zpc xs h.tail;have p2:2 ^ (x::xs).length=2 * 2 ^ xs.length:=by rw[Be,Nat.pow_succ];omega
    have go:∀b:Nat,b < 2->tab (xs.length+1) (bitN (2 * w+b))=bitN (2 * w+b) 0::xs:=fun b hb=>by
      rw[zo0,zb7 (f:=fun i=>bitN (2 * w+b) (i+1)) (g:=bitN w) fun i _=>by unfold bitN;rw[Nat.testBit_succ,show (2 * w+b) / 2=w by omega],<-e]
    rcases h.head with rfl | rfl
    · refine ⟨2 * w + 0, by omega, ?_⟩
      rw[Be,go 0 #v[]];unfold bitN;rw[Nat.testBit_zero,if_neg (by rw[Ap #v[]];exact Af)]
    · refine ⟨2 * w + 1, by omega, ?_⟩
      rw[Be,go 1 #v[]];unfold bitN;rw[Nat.testBit_zero,if_pos (Ah #v[])]
theorem zo8 (a b i:Nat):dif (bitN a i) (bitN b i)=bitN (a ^^^ b) i:=by
 unfold bitN dif;rw[Bk];cases a.testBit i<;>cases b.testBit i<;>rfl
theorem z3o (a b:Nat):Builtin.bitXor (a:Int) (b:Int)=((a ^^^ b:Nat):Int):=by
 have ha:a < 2 ^ (a+b):=Nat.lt_of_le_of_lt (Dq a b) Nat.lt_two_pow_self;have hb:b < 2 ^ (a+b):=Nat.lt_of_le_of_lt (Nat.le_add_left b a) Nat.lt_two_pow_self;have x:=zf0 (xs:=tab (a+b) (bitN a)) (ys:=tab (a+b) (bitN b)) (zc2 fun i _=>zfm a i) (zc2 fun i _=>zfm b i) (by rw[zaq,zaq]);rw[zby _ a ha,zby _ b hb,zi5,zb7 fun i _=>zo8 a b i,zby _ _ (El ha hb)] at x;exact x
theorem z3a {w n i:Nat}(h:w < 2 ^ n)(hi:n<=i):bitN w i=0:=by
 unfold bitN;rw[Nat.testBit_lt_two_pow (Bd h (Nat.pow_le_pow_right #v[0,9] hi)),if_neg Af]
noncomputable def zyo (Φ:Fn):Prop:=∀w p:Nat,Φ [.int (w:Nat),.int (p:Nat)]=some ([.int (w:Nat),.int (p:Nat)],(.int (bitN w p),false))
theorem z5r {Φ:Fn}(h:zz3 Φ):zyo Φ:=fun w p=>by
 have hw:w < 2 ^ w:=Nat.lt_two_pow_self;have:=h w p (bitN w) (zfm w) fun i hi=>z3a hw hi
 rwa [zby w w hw] at this
noncomputable def XorN (Φ:Fn):Prop:=∀a b:Nat,Φ [.int (a:Nat),.int (b:Nat)]=some ([.int (a:Nat),.int (b:Nat)],(.int ((a ^^^ b:Nat):Int),false))
theorem z9x {Φ:Fn}(h:z57 Φ):XorN Φ:=fun a b=>by rw[<-z3o];exact h a b
noncomputable def z0e (Ψ:Str->Fn):GS:=(gRet (gOp2 #v[0,0,0] (gArg (gOp1 zf3 (zaa 0))) #v[1]))
noncomputable def TopN (Φ:Fn):Prop:=∀w:Nat,w≠0->Φ [.int (w:Nat)]=some ([.int (w:Nat)],(.int (tp w:Nat),false))
theorem yaq (Ψ:Str->Fn):TopN (zal [false] 1 (z0e Ψ)):=fun w hw=>by
 have e:(Builtin.Int.intBits (w:Int):Int) - 1=(tp w:Nat):=by
  unfold Builtin.Int.intBits tp;rw[if_neg (by simp;exact hw),Int.natAbs_natCast];omega
 have ob:zf3 (.int (w:Nat))=#v[(Builtin.Int.intBits (w:Int)),0]:=rfl;unfold z0e;simp! [ob,e]
noncomputable def zut (Ψ:Str->Fn):GS:=(gIfS (zai (gOp2 oEq (gArg (zae [false,false] (Ψ "says") (gCns #v[1,4] (gCns (gArg (zae [false] (Ψ "top") (gCns #v[3,4] gA0))) gA0)))) #v[1])) (gSet [] 2 (zae [false,false] (Ψ "plus") (gCns #v[2,4] (gCns #v[3,4] gA0)))) zau)
noncomputable def zvz (Ψ:Str->Fn):GS:=gFor [] (.nm 3) (zan (gVar 0)) (zut Ψ)
noncomputable def z8g (Ψ:Str->Fn):GS:=(gSeq (gSet [] 2 (gVar 1)) (gSeq (zvz Ψ) (zc9 [] 2)))
noncomputable def WtN (Φ:Fn):Prop:=∀(B:List Nat) (w:Nat) (x:W),(x=.lst (zab B)\/x=.tup (zab B))->(∀b∈B,b≠0)->Φ [x,.int (w:Nat)]=some ([x,.int (w:Nat)],(.int ((w ^^^ sel B w:Nat):Int),false))
theorem zpb (b w:Nat):∀B:List Nat,sel (B++[b]) w=sel B w ^^^ (if w.testBit (tp b) then b else 0)
  | []=>by
    show (if w.testBit (tp b) then b else 0) ^^^ 0=0 ^^^ (if w.testBit (tp b) then b else 0);rw[Cw,Fo]
  | a::B=>by
    show (if w.testBit (tp a) then a else 0) ^^^ sel (B++[b]) w=((if w.testBit (tp a) then a else 0) ^^^ sel B w) ^^^ _;rw[zpb b w B,Da]
theorem wt_n {Ψ:Str->Fn} (hS:zyo (Ψ "says")) (hX:XorN (Ψ "plus")) (hT:TopN (Ψ "top")):WtN (zal [false,false] 4 (z8g Ψ)):=fun B w x hx h0=>by
  have sx:seqW x=some (zab B):=by rcases hx with rfl | rfl<;>rfl
  have si:zan (gVar 0) [#v[x,6],#v[(w:Nat),0],#v[(w:Nat),0],none]=some ([#v[x,6],#v[(w:Nat),0],#v[(w:Nat),0],none],zab B):=by rcases hx with rfl | rfl<;>rfl
  have lp:∃w3,zvz Ψ [some (x,false),some (.int (w:Nat),false),some (.int (w:Nat),false),none]=some ([some (x,false),some (.int (w:Nat),false),some (.int ((w ^^^ sel B w:Nat):Int),false),w3],.nx):=by
    unfold zvz;obtain ⟨en',h,w3,rfl⟩:=zay (mp:=[]) (T:=.nm 3) (body:=zut Ψ) (fun i e=>∃w3,e=[some (x,false),some (.int (w:Nat),false),some (.int ((w ^^^ sel (B.take i) w:Nat):Int),false),w3]) si ⟨none,by rw [Ed];show _=[_,_,some (W.int ((w ^^^ 0:Nat):Int),false),_];rw [Cw]⟩ fun i u e hw hp=>by
      obtain ⟨w3,rfl⟩:=hp;obtain ⟨b,hb,rfl⟩:=zaf hw;have bm:=At hb;have t1:=hT b (h0 b bm);have s1:=hS w (tp b);have x1:=hX (w ^^^ sel (B.take i) w) b;have e1:sel (B.take (i+1)) w=sel (B.take i) w ^^^ (if w.testBit (tp b) then b else 0):=by
        rw[Ct,hb];exact zpb b w _
      have be:=zeu w (tp b);refine⟨[#v[x,6],#v[(w:Nat),0],#v[((w ^^^ sel (B.take i) w:Nat):Int),0],#v[(b:Nat),0]],[#v[x,6],#v[(w:Nat),0],#v[((w ^^^ sel (B.take (i+1)) w:Nat):Int),0],#v[(b:Nat),0]],rfl,.inl ?_,_,rfl⟩;unfold zut;rw[e1];cases q:w.testBit (tp b) with
      | true =>
        rw[q] at be;rw[if_pos rfl,<-Da];simp! [t1,s1,be,x1]
      | false =>
        rw[q] at be;rw[if_neg Af,Cw];simp! [t1,s1,be]
    rw[zac,Bp] at h;exact⟨_,h⟩
  obtain⟨w3,lp⟩:=lp;unfold z8g;refine zbu (en:=[#v[x,6],#v[(w:Nat),0],#v[((w ^^^ sel B w:Nat):Int),0],w3]) rfl (seq_e' ?_ (seq_e' lp ?_)) rfl
  · show gSet [] 2 (gVar 1) [some (x, false), some (.int (w : Nat), false), none, none] = some ([some (x, false), some (.int (w : Nat), false), some (.int (w : Nat), false), none], .nx)
    simp! []
  · simp! []
noncomputable def zuq (Ψ:Str->Fn):GE:=zbf [none,none,some 3] (.nm 1) (zan (gVar 1)) gYes (zae [false,false] (Ψ "without_tops") (gCns (gArg (zas (gCns #v[2,4] gA0))) (gCns #v[1,4] gA0)))
noncomputable def zpj (Ψ:Str->Fn):GS:=(gSeq (gSet [] 3 (zae [false,false] (Ψ "without_tops") (gCns #v[1,4] (gCns #v[2,4] gA0)))) (gIfS (zai (gOp2 oNe (zaa 3) #v[0])) (gSet [] 1 (gOp2 oAdd (gArg (zuq Ψ)) (gArg (zas (gCns #v[3,4] gA0))))) zau))
noncomputable def zt9 (Ψ:Str->Fn):GS:=gFor [] (.nm 2) (zan (gVar 0)) (zpj Ψ)
noncomputable def z8w (Ψ:Str->Fn):GS:=(gSeq (gSet [] 1 (zas gA0)) (gSeq (zt9 Ψ) (gRet (gOpN zem (gCns (gArg (gOpN zbk (gCns (zaa 1) gA0))) gA0)))))
theorem zdo (B:List Nat)(b:Nat):zab (B++[b])=zab B++[.int (b:Nat)]:=by unfold zab;rw[Bx];rfl
theorem ya7 {Ψ:Str->Fn}(hW:WtN (Ψ "without_tops")){B:List Nat}{l:Nat}{v0 v2:Option (W × Bool)}{o:Bool}(hl:l≠0)(hB:B.length<=1000):zuq Ψ [v0,some (.lst (zab B),o),v2,#v[(l:Nat),0]]=some ([v0,#v[(zab B),1],v2,#v[(l:Nat),0]],(.lst (zab (B.map fun r=>r ^^^ sel [l] r)),true)):=by
 unfold zuq;refine zcj (xs:=[#v[(l:Nat),0]]) (e0:=[v0,#v[(zab B),1],v2,#v[(l:Nat),0]]) (ws:=zab B) (by cases o<;>simp! []) (by rw[zac];exact hB) (by rw[zac,zac,Aa]) rfl rfl rfl (fun _ _=>rfl) fun i u w r hw hr=>?_;obtain⟨b,hb,rfl⟩:=zaf hw;obtain⟨c,hc,rfl⟩:=zaf hr;rw[Am,hb] at hc;obtain rfl:=sI hc;have e:=hW [l] b (.lst (zab [l])) (.inl rfl) fun x hx=>by rw[Al.mp hx];exact hl
 have e:Ψ "without_tops" [.lst [.int (l:Nat)],.int (b:Nat)]=some ([.lst [.int (l:Nat)],.int (b:Nat)],(.int ((b ^^^ sel [l] b:Nat):Int),false)):=e;refine⟨#v[(b:Nat),0],false,?_⟩;simp! [e]
theorem ztx:∀(ws B:List Nat),(ws.foldl boS B).length<=B.length+ws.length
  | [],B=>Ag _
  | w::ws,B=>by
    have:=ztx ws (boS B w);have h:(boS B w).length<=B.length+1:=by
      unfold boS;split
      · omega
      · rw[Bf,Aa];exact Ag _
    rw[List.foldl_cons,Be];omega
noncomputable def z7x (Φ:Fn):Prop:=∀(ws:List Nat) (x:W),(x=.lst (zab ws)\/x=.tup (zab ws))->ws.length<=200->Φ [x]=some ([x],(.tup ((sortI ((bo ws).map fun b:Nat=>(b:Int))).map W.int),false))
theorem z5y {Ψ:Str->Fn}(hW:WtN (Ψ "without_tops")):z7x (zal [false] 4 (z8w Ψ)):=fun ws x hx hl=>by
 have si:zan (gVar 0) [#v[x,6],#v[[],2],none,none]=some ([#v[x,6],#v[[],2],none,none],zab ws):=by rcases hx with rfl | rfl<;>rfl
 have lp:∃o w2 w3,zt9 Ψ [#v[x,6],#v[[],2],none,none]=some ([#v[x,6],some (.lst (zab (bo ws)),o),w2,w3],.nx):=by
  unfold zt9;obtain⟨en',h,o,w2,w3,rfl⟩:=zay (mp:=[]) (T:=.nm 2) (body:=zpj Ψ) (fun i e=>∃o w2 w3,e=[#v[x,6],some (.lst (zab (bo (ws.take i))),o),w2,w3]) si ⟨true,none,none,rfl⟩ fun i u e hw hp=>by
   obtain⟨o,w2,w3,rfl⟩:=hp;obtain⟨b,hb,rfl⟩:=zaf hw;have e1:bo (ws.take (i+1))=boS (bo (ws.take i)) b:=by
    unfold bo;rw[Ct,hb];show (ws.take i++[b]).foldl boS []=_;rw[Ev];rfl
   have bl:(bo (ws.take i)).length<=200:=by
    have:=ztx (ws.take i) [];have h2:(ws.take i).length<=ws.length:=by rw[Df];omega
    have h3:([]:List Nat).length=0:=rfl;unfold bo;omega
   obtain⟨rb,_⟩:=zm1 (ws.take i);generalize bo (ws.take i)=B at *
   have a1:=hW B b (.lst (zab B)) (.inl rfl) rb.1;rw[e1];unfold boS;generalize b ^^^ sel B b=l at *
   by_cases z:l=0
   ·rw[if_pos z];have dz:(!decide ((l:Int)=0))=false:=by rw[Ah #v[]];rfl
    refine⟨[#v[x,6],some (.lst (zab B),o),#v[(b:Nat),0],w3],[#v[x,6],#v[(zab B),1],#v[(b:Nat),0],#v[(l:Nat),0]],rfl,.inl ?_,false,#v[(b:Nat),0],#v[(l:Nat),0],rfl⟩;unfold zpj;refine seq_e' (e1:=[#v[x,6],#v[(zab B),1],#v[(b:Nat),0],#v[(l:Nat),0]]) ?_ ?_
    ·simp! [a1]
    ·simp! [dz]
   ·rw[if_neg z];have dz:(!decide ((l:Int)=0))=true:=by rw[Ap #v[]];rfl
    have c1:=ya7 (Ψ:=Ψ) hW (B:=B) (l:=l) (v0:=#v[x,6]) (v2:=#v[(b:Nat),0]) (o:=false) z #v[];have ad:oAdd (.lst (zab (B.map fun r=>r ^^^ sel [l] r))) (.lst [.int (l:Nat)])=#v[(zab (B.map (fun r=>r ^^^ sel [l] r)++[l])),2]:=by
     rw[zje (by rw[zac,Aa,Dg];show _+1<=_;omega),zdo]
    refine⟨[#v[x,6],some (.lst (zab B),o),#v[(b:Nat),0],w3],[#v[x,6],#v[(zab (B.map (fun r=>r ^^^ sel [l] r)++[l])),2],#v[(b:Nat),0],#v[(l:Nat),0]],rfl,.inl ?_,true,#v[(b:Nat),0],#v[(l:Nat),0],rfl⟩;unfold zpj;refine seq_e' (e1:=[#v[x,6],#v[(zab B),1],#v[(b:Nat),0],#v[(l:Nat),0]]) ?_ ?_
    ·simp! [a1]
    ·simp! [dz,c1,ad]
  rw[zac,Bp] at h;exact⟨_,_,_,h⟩
 obtain⟨o,w2,w3,lp⟩:=lp;have so:zbk [.lst (zab (bo ws))]=#v[((sortI ((bo ws).map fun b:Nat=>(b:Int))).map W.int),2]:=by
  rw[zao];show (za1 (((bo ws).map fun b:Nat=>(b:Int)).map W.int)).bind _=_;rw[zaw];rfl
 have ot:zem [.lst ((sortI ((bo ws).map fun b:Nat=>(b:Int))).map W.int)]=#v[((sortI ((bo ws).map fun b:Nat=>(b:Int))).map W.int),3]:=rfl;unfold z8w;refine zbu (en:=[#v[x,6],some (.lst (zab (bo ws)),o),w2,w3]) rfl (seq_e' (e1:=[#v[x,6],#v[[],2],none,none]) ?_ (seq_e' lp ?_)) rfl
 ·simp! []
 ·cases o<;>simp! [so,ot]
theorem z06 {ws D:List Nat}(hD:RB D)(ha:D.Pairwise (· < ·))(s:Same2 D ws):sortI ((bo ws).map fun b:Nat=>(b:Int))=D.map fun b:Nat=>(b:Int):=by
 obtain⟨r,q⟩:=zm1 ws;exact zdn ((zkb hD r (s.trans q.symm)).map _) (by rw[Ck];exact ha.imp fun h=>by omega)
end L2
namespace My
open PySem PySem.Spec PyProof.Rows L2
noncomputable def top (i:Nat):Stmt:=PySem.Challenge.pw_yesnowords_k07_words_even_with_all.main.body.getD i (.Pass ⟨0,0,0,0⟩)
noncomputable def zov:Fd:=⟨"says",["word","place"],["word","place"],[false,false],top 1⟩
noncomputable def zep:Fd:=⟨"word_at",["some"],["some","word","place"],[false],top 2⟩
noncomputable def zo4:Fd:=⟨"plus",["one","other"],["one","other"],[false,false],top 3⟩
noncomputable def zxr:Fd:=⟨"top",["word"],["word"],[false],top 5⟩
noncomputable def zbl:Fd:=⟨"without_tops",["rows","word"],["rows","word","left","row"],[false,false],top 6⟩
noncomputable def zei:Fd:=⟨"base_of",["some"],["some","rows","word","left"],[false],top 7⟩
noncomputable def zen:Fd:=⟨"no_tops",["base","size"],["base","size","tops"],[false,false],top 8⟩
noncomputable def zeg:Fd:=⟨"even_at",["base","place"],["base","place"],[false,false],top 9⟩
noncomputable def zc4:Fd:=⟨"even_with",["many","some"],["many","some","base"],[false,false],top 10⟩
noncomputable def zcx:Fd:=⟨"_law_hand",["_law_script"],["_law_script","_law_state","_law_weighs","_law_cell","_law_k","_law_one"],[false],top 12⟩
noncomputable def zc1:Fd:=⟨"_law_take",["_law_state","_law_count"],["_law_state","_law_count","_law_digit","_law_mixed"],[true,false],top 13⟩
noncomputable def zc6:Fd:=⟨"_law_bits",["_law_state","_law_count"],["_law_state","_law_count","_law_way","_law_found","_law_k","_law_one"],[true,false],top 14⟩
noncomputable def zc0:Fd:=⟨"_law_word",["_law_bits_here"],["_law_bits_here","_law_found","_law_bit"],[false],top 15⟩
noncomputable def zdw:Fd:=⟨"_law_top",["_law_bits_here"],["_law_bits_here"],[false],top 16⟩
noncomputable def zdq:Fd:=⟨"_law_xor",["_law_one","_law_other"],["_law_one","_law_other"],[false,false],top 17⟩
noncomputable def zcy:Fd:=⟨"_law_rows",["_law_state","_law_count","_law_size"],["_law_state","_law_count","_law_size","_law_rows_here","_law_k","_law_row","_law_way"],[true,false,false],top 18⟩
noncomputable def zbn:Fd:=⟨"_law_reduced",["_law_rows_here"],["_law_rows_here","_law_kept","_law_row","_law_top_here","_law_other"],[false],top 19⟩
noncomputable def zc5:Fd:=⟨"_law_same",["_law_found","_law_due"],["_law_found","_law_due"],[false,false],top 20⟩
noncomputable def zbo:Fd:=⟨"_law_is_base",["_law_rows_here"],["_law_rows_here","_law_tops","_law_k","_law_row"],[false],top 21⟩
noncomputable def zmy:Fd:=⟨"law",["_law_script"],["_law_script","_law_state","_law_k","_law_many","_law_rows_here","_law_found","_law_told","_law_row"],[false],top 22⟩
noncomputable def T:List Fd:=[zov,zep,zo4,zxr,zbl,zei,zen,zeg,zc4,zcx,zc1,zc6,zc0,zdw,zdq,zcy,zbn,zc5,zbo,zmy]
noncomputable def bn:List Str:=["abs","all","any","bool","d _law_kept","dict","enumerate","int","isinstance","len","list","max","range","reversed","sorted","str","sum","tuple","zip"]
noncomputable def z0q (Ψ:Str->Fn):GS:=(gRet (gOp2 (oI yes2 fun i j=>.int (Builtin.bitAnd i j)) (gArg (gOp2 (oI (fun _ j=>decide (0<=j)) fun i j=>.int (i / 2 ^ j.toNat)) (zaa 0) (zaa 1))) #v[1]))
theorem z6b (Ψ:Str->Fn)(d:Nat):za0 T bn Ψ (d+2) zov=some (z0q Ψ):=by kernel_rfl
theorem z5o:T.find? (·.nm == ("says" : Str))=some zov:=by kernel_rfl
theorem z6n (d:Nat):sem T bn (d+3) "says" = zal [false,false] 2 (z0q (sem T bn (d+2))):=zco z5o (z6b _ d)
noncomputable def zq1 (Ψ:Str->Fn):GS:=(gAug [] (oI yes2 fun i j=>.int (Builtin.bitOr i j)) 1 (gArg (gOp2 #v[0,0,1] #v[1] (zaa 2))))
noncomputable def zqi (Ψ:Str->Fn):GS:=gFor [] (.nm 2) (zan (gVar 0)) (zq1 Ψ)
noncomputable def zjy (Ψ:Str->Fn):GS:=(gSeq (gSet [] 1 (gC (.int 0))) (gSeq (zqi Ψ) (zc9 [] 1)))
theorem zr3 (Ψ:Str->Fn)(d:Nat):za0 T bn Ψ (d+2) zep=some (zjy Ψ):=by kernel_rfl
theorem zuw:T.find? (·.nm == ("word_at" : Str))=some zep:=by kernel_rfl
theorem zss (d:Nat):sem T bn (d+3) "word_at" = zal [false] 3 (zjy (sem T bn (d+2))):=zco zuw (zr3 _ d)
noncomputable def zz2 (Ψ:Str->Fn):GS:=(gRet (gOp2 (oI yes2 fun i j=>.int (Builtin.bitXor i j)) (zaa 0) (zaa 1)))
theorem z5u (Ψ:Str->Fn)(d:Nat):za0 T bn Ψ (d+2) zo4=some (zz2 Ψ):=by kernel_rfl
theorem z6t:T.find? (·.nm == ("plus" : Str))=some zo4:=by kernel_rfl
theorem z7b (d:Nat):sem T bn (d+3) "plus" = zal [false,false] 2 (zz2 (sem T bn (d+2))):=zco z6t (z5u _ d)
noncomputable def z6s (Ψ:Str->Fn):GS:=(gRet (gOp2 #v[0,0,0] (gArg (gOp1 zf3 (zaa 0))) #v[1]))
theorem yau (Ψ:Str->Fn)(d:Nat):za0 T bn Ψ (d+2) zxr=some (z6s Ψ):=by kernel_rfl
theorem z9k:T.find? (·.nm == ("top" : Str))=some zxr:=by kernel_rfl
theorem z9f (d:Nat):sem T bn (d+3) "top" = zal [false] 1 (z6s (sem T bn (d+2))):=zco z9k (yau _ d)
noncomputable def zgr (Ψ:Str->Fn):GS:=(gIfS (zai (gOp2 oEq (gArg (zae [false,false] (Ψ "says") (gCns #v[1,4] (gCns (gArg (zae [false] (Ψ "top") (gCns #v[3,4] gA0))) gA0)))) #v[1])) (gSet [] 2 (zae [false,false] (Ψ "plus") (gCns #v[2,4] (gCns #v[3,4] gA0)))) zau)
noncomputable def zgy (Ψ:Str->Fn):GS:=gFor [] (.nm 3) (zan (gVar 0)) (zgr Ψ)
noncomputable def zdy (Ψ:Str->Fn):GS:=(gSeq (gSet [] 2 (gVar 1)) (gSeq (zgy Ψ) (zc9 [] 2)))
theorem zg9 (Ψ:Str->Fn)(d:Nat):za0 T bn Ψ (d+2) zbl=some (zdy Ψ):=by kernel_rfl
theorem zhm:T.find? (·.nm == ("without_tops" : Str))=some zbl:=by kernel_rfl
theorem zhn (d:Nat):sem T bn (d+3) "without_tops" = zal [false,false] 4 (zdy (sem T bn (d+2))):=zco zhm (zg9 _ d)
noncomputable def zp6 (Ψ:Str->Fn):GE:=zbf [none,none,some 3] (.nm 1) (zan (gVar 1)) gYes (zae [false,false] (Ψ "without_tops") (gCns (gArg (zas (gCns #v[2,4] gA0))) (gCns #v[1,4] gA0)))
noncomputable def zql (Ψ:Str->Fn):GS:=(gSeq (gSet [] 3 (zae [false,false] (Ψ "without_tops") (gCns #v[1,4] (gCns #v[2,4] gA0)))) (gIfS (zai (gOp2 oNe (zaa 3) #v[0])) (gSet [] 1 (gOp2 oAdd (gArg (zp6 Ψ)) (gArg (zas (gCns #v[3,4] gA0))))) zau))
noncomputable def zq6 (Ψ:Str->Fn):GS:=gFor [] (.nm 2) (zan (gVar 0)) (zql Ψ)
noncomputable def zkq (Ψ:Str->Fn):GS:=(gSeq (gSet [] 1 (zas gA0)) (gSeq (zq6 Ψ) (gRet (gOpN zem (gCns (gArg (gOpN zbk (gCns (zaa 1) gA0))) gA0)))))
theorem zrx (Ψ:Str->Fn)(d:Nat):za0 T bn Ψ (d+2) zei=some (zkq Ψ):=by kernel_rfl
theorem zvy:T.find? (·.nm == ("base_of" : Str))=some zei:=by kernel_rfl
theorem zv3 (d:Nat):sem T bn (d+3) "base_of" = zal [false] 4 (zkq (sem T bn (d+2))):=zco zvy (zrx _ d)
noncomputable def zew (Ψ:Str->Fn):GE:=zbf [none,none] (.nm 1) (zan (gVar 0)) gYes (zae [false] (Ψ "top") (gCns #v[1,4] gA0))
noncomputable def ze4 (Ψ:Str->Fn):GE:=zbf [none,none,some 2] (.nm 1) (ze5 (gCns (zaa 1) gA0)) (zai (gOp2 (oIn true) (zaa 1) (zaa 2))) (gVar 1)
noncomputable def zet (Ψ:Str->Fn):GS:=(gSeq (gSet [] 2 (zew Ψ)) (gRet (ze4 Ψ)))
theorem zs3 (Ψ:Str->Fn)(d:Nat):za0 T bn Ψ (d+2) zen=some (zet Ψ):=by kernel_rfl
theorem zr8:T.find? (·.nm == ("no_tops" : Str))=some zen:=by kernel_rfl
theorem zrv (d:Nat):sem T bn (d+3) "no_tops" = zal [false,false] 3 (zet (sem T bn (d+2))):=zco zr8 (zs3 _ d)
noncomputable def ze1 (Ψ:Str->Fn):GE:=zbf [none,none,some 1] (.nm 1) (zan (gVar 0)) (zai (gOp2 oEq (gArg (zae [false,false] (Ψ "says") (gCns #v[1,4] (gCns #v[2,4] gA0)))) #v[1])) (zae [false] (Ψ "top") (gCns #v[1,4] gA0))
noncomputable def zd8 (Ψ:Str->Fn):GS:=(gRet (zae [false] (Ψ "word_at") (gCns (gArg (gOp2 oAdd (gArg (zas (gCns #v[1,4] gA0))) (gArg (ze1 Ψ)))) gA0)))
theorem zu1 (Ψ:Str->Fn)(d:Nat):za0 T bn Ψ (d+2) zeg=some (zd8 Ψ):=by kernel_rfl
theorem zrq:T.find? (·.nm == ("even_at" : Str))=some zeg:=by kernel_rfl
theorem zuh (d:Nat):sem T bn (d+3) "even_at" = zal [false,false] 2 (zd8 (sem T bn (d+2))):=zco zrq (zu1 _ d)
noncomputable def zdd (Ψ:Str->Fn):GE:=zbf [none,none,some 2] (.nm 1) (zan (zae [false,false] (Ψ "no_tops") (gCns #v[2,4] (gCns (gArg (gOp2 #v[0,0,1] #v[1] (zaa 0))) gA0)))) gYes (zae [false,false] (Ψ "even_at") (gCns #v[2,4] (gCns #v[1,4] gA0)))
noncomputable def zcu (Ψ:Str->Fn):GS:=(gSeq (gSet [] 2 (zae [false] (Ψ "base_of") (gCns #v[1,4] gA0))) (gRet (zae [false] (Ψ "base_of") (gCns (gArg (zdd Ψ)) gA0))))
theorem zm9 (Ψ:Str->Fn)(d:Nat):za0 T bn Ψ (d+2) zc4=some (zcu Ψ):=by kernel_rfl
theorem zm3:T.find? (·.nm == ("even_with" : Str))=some zc4:=by kernel_rfl
theorem zmr (d:Nat):sem T bn (d+3) "even_with" = zal [false,false] 3 (zcu (sem T bn (d+2))):=zco zm3 (zm9 _ d)
noncomputable def zks (Ψ:Str->Fn):GS:=(gSeq (zbb 1 (gC (.int 0)) (gOp2 oAdd (gArg (gOp2 oIx (zaa 1) #v[0])) (gArg (gOp2 oMult (gArg (gOp2 #v[0,0,2] (gArg (gOpN oAbs (gCns (zaa 3) gA0))) (gArg (gOp2 (oI cPow fun i j=>.int (i ^ j.toNat)) #v[10] #v[60])))) (zaa 2))))) (gSet [] 2 (gOp2 oMult (zaa 2) (gArg (gOp2 (oI cPow fun i j=>.int (i ^ j.toNat)) #v[10] #v[60])))))
noncomputable def zkx (Ψ:Str->Fn):GS:=gFor [] (.nm 3) (zan (gSl (zaa 0) zci (zga (gC (.int 63))))) (zks Ψ)
noncomputable def zkn (Ψ:Str->Fn):GS:=(gSeq (gSet [] 5 (gOp2 oAdd (gArg (gOp2 oAdd (gArg (gOp2 #v[0,0,2] (zaa 3) #v[2305843009213693951])) (gArg (gOp2 oMult #v[7919] (zaa 4))))) #v[3])) (zbb 1 (gC (.int 1)) (gOp2 #v[0,0,2] (gArg (gOp2 oAdd (gArg (gOp2 oMult (gArg (gOp2 oIx (zaa 1) #v[1])) #v[48271])) (zaa 5))) #v[2305843009213693951])))
noncomputable def zlg (Ψ:Str->Fn):GS:=gFor [] (.tp [4,3]) (zfh (gSl (zaa 0) zci (zga (gC (.int 63))))) (zkn Ψ)
noncomputable def zf6 (Ψ:Str->Fn):GS:=(gSeq (gSet [] 1 (zas (gCns #v[0] (gCns #v[0] (gCns #v[0] gA0))))) (gSeq (gIfS (zeb (zai (gOp2 (oI yes2 fun i j=>.bl (decide (j < i))) (gArg (gOpN oLen (gCns (zaa 0) gA0))) #v[0])) (zai (gOp2 (oI yes2 fun i j=>.bl (decide (j<=i))) (gArg (gOp2 oIx (zaa 0) #v[0])) (gArg (gOp2 (oI cPow fun i j=>.int (i ^ j.toNat)) #v[10] #v[18]))))) (gSeq (gSet [] 2 (gC (.int 1))) (zkx Ψ)) zau) (gSeq (zlg Ψ) (zc9 [] 1))))
theorem zmv (Ψ:Str->Fn)(d:Nat):za0 T bn Ψ (d+2) zcx=some (zf6 Ψ):=by kernel_rfl
theorem zmh:T.find? (·.nm == ("_law_hand" : Str))=some zcx:=by kernel_rfl
theorem zmz (d:Nat):sem T bn (d+3) "_law_hand" = zal [false] 6 (zf6 (sem T bn (d+2))):=zco zmh (zmv _ d)
noncomputable def zgi (Ψ:Str->Fn):GS:=(gSeq (gIfS (zai (gOp2 (oI yes2 fun i j=>.bl (decide (j < i))) (gArg (gOp2 oIx (zaa 0) #v[0])) #v[0])) (gSeq (gSet [0] 2 (gOp2 #v[0,0,2] (gArg (gOp2 oIx (zaa 0) #v[0])) (zaa 1))) (gSeq (zbb 0 (gC (.int 0)) (gOp2 #v[0,0,3] (gArg (gOp2 oIx (zaa 0) #v[0])) (zaa 1))) (zc9 [0] 2))) zau) (gSeq (zbb 0 (gC (.int 2)) (gOp2 oAdd (gArg (gOp2 oIx (zaa 0) #v[2])) #v[1])) (gSeq (gSet [0] 3 (gOp2 #v[0,0,2] (gArg (gOp2 oMult (gArg (gOp2 oAdd (gArg (gOp2 oAdd (gArg (gOp2 oIx (zaa 0) #v[1])) (gArg (gOp2 oMult (gArg (gOp2 oMult #v[65537] (gArg (gOp2 oIx (zaa 0) #v[2])))) (gArg (gOp2 oIx (zaa 0) #v[2])))))) #v[11])) #v[48271])) #v[2305843009213693921])) (gSeq (gSet [0] 3 (gOp2 #v[0,0,2] (gArg (gOp2 oMult (zaa 3) (gArg (gOp2 oAdd (gArg (gOp2 #v[0,0,2] (zaa 3) #v[1000003])) (gArg (gOp2 oMult #v[99991] (gArg (gOp2 oIx (zaa 0) #v[2])))))))) #v[2305843009213693907])) (gRet (gOp2 #v[0,0,2] (gArg (gOp2 oAdd (gArg (gOp2 #v[0,0,3] (zaa 3) #v[97])) (gArg (gOp2 #v[0,0,3] (zaa 3) #v[1000033])))) (zaa 1)))))))
theorem zng (Ψ:Str->Fn)(d:Nat):za0 T bn Ψ (d+2) zc1=some (zgi Ψ):=by kernel_rfl
theorem zna:T.find? (·.nm == ("_law_take" : Str))=some zc1:=by kernel_rfl
theorem zm8 (d:Nat):sem T bn (d+3) "_law_take" = zal [true,false] 4 (zgi (sem T bn (d+2))):=zco zna (zng _ d)
noncomputable def zj2 (Ψ:Str->Fn):GS:=(gSeq (gSet [0] 5 (zae [true,false] (Ψ "_law_take") (gCns (zaa 0) (gCns (gArg (gOp2 oIx (gArg (zas (gCns #v[2] (gCns #v[5] (gCns #v[5] gA0))))) (zaa 2))) gA0)))) (zed (gApp 3 (gOp2 oIx (gArg (zas (gCns #v[5,4] (gCns (gArg (gOpN oInt (gCns (gArg (gOp2 oEq (zaa 5) #v[0])) gA0))) (gCns (gArg (gOpN oInt (gCns (gArg (gOp2 (oI yes2 fun i j=>.bl (decide (j < i))) (zaa 5) #v[0])) gA0))) gA0))))) (zaa 2)))))
noncomputable def zlb (Ψ:Str->Fn):GS:=gFor [0] (.nm 4) (ze5 (gCns (zaa 1) gA0)) (zj2 Ψ)
noncomputable def zgu (Ψ:Str->Fn):GS:=(gSeq (gSet [0] 2 (zae [true,false] (Ψ "_law_take") (gCns (zaa 0) (gCns #v[4] gA0)))) (gSeq (gIfS (zai (gOp2 oEq (zaa 2) #v[3])) (gRet (gOp2 oMult (gArg (zas (gCns (gArg (zae [true,false] (Ψ "_law_take") (gCns (zaa 0) (gCns #v[2] gA0)))) gA0))) (zaa 1))) zau) (gSeq (gSet [0] 3 (zas gA0)) (gSeq (zlb Ψ) (zc9 [0] 3)))))
theorem zno (Ψ:Str->Fn)(d:Nat):za0 T bn Ψ (d+2) zc6=some (zgu Ψ):=by kernel_rfl
theorem zmp:T.find? (·.nm == ("_law_bits" : Str))=some zc6:=by kernel_rfl
theorem zmj (d:Nat):sem T bn (d+3) "_law_bits" = zal [true,false] 6 (zgu (sem T bn (d+2))):=zco zmp (zno _ d)
noncomputable def zku (Ψ:Str->Fn):GS:=(gSet [] 1 (gOp2 oAdd (gArg (gOp2 oMult #v[2] (zaa 1))) (zaa 2)))
noncomputable def zlt (Ψ:Str->Fn):GS:=gFor [] (.nm 2) (gRev (gVar 0)) (zku Ψ)
noncomputable def zgz (Ψ:Str->Fn):GS:=(gSeq (gSet [] 1 (gC (.int 0))) (gSeq (zlt Ψ) (zc9 [] 1)))
theorem znm (Ψ:Str->Fn)(d:Nat):za0 T bn Ψ (d+2) zc0=some (zgz Ψ):=by kernel_rfl
theorem znb:T.find? (·.nm == ("_law_word" : Str))=some zc0:=by kernel_rfl
theorem znp (d:Nat):sem T bn (d+3) "_law_word" = zal [false] 3 (zgz (sem T bn (d+2))):=zco znb (znm _ d)
noncomputable def zd5 (Ψ:Str->Fn):GE:=zbf [none,none,none] (.tp [1,2]) (zfh (gVar 0)) (zai (gOp2 oEq (zaa 2) #v[1])) (gVar 1)
noncomputable def zdp (Ψ:Str->Fn):GS:=(gRet (gOpN oMax (gCns (gArg (gOp2 oAdd (gArg (zas (gCns (gArg (gOp1 oNeg #v[1])) gA0))) (gArg (zd5 Ψ)))) gA0)))
theorem zqa (Ψ:Str->Fn)(d:Nat):za0 T bn Ψ (d+2) zdw=some (zdp Ψ):=by kernel_rfl
theorem zqp:T.find? (·.nm == ("_law_top" : Str))=some zdw:=by kernel_rfl
theorem zp8 (d:Nat):sem T bn (d+3) "_law_top" = zal [false] 1 (zdp (sem T bn (d+2))):=zco zqp (zqa _ d)
noncomputable def zd3 (Ψ:Str->Fn):GE:=zbf [none,none,none] (.tp [1,2]) (gZip (gVar 0) (gVar 1)) gYes (gOpN oInt (gCns (gArg (gOp2 oNe (zaa 1) (zaa 2))) gA0))
noncomputable def zdt (Ψ:Str->Fn):GS:=(gRet (zd3 Ψ))
theorem zp0 (Ψ:Str->Fn)(d:Nat):za0 T bn Ψ (d+2) zdq=some (zdt Ψ):=by kernel_rfl
theorem zp1:T.find? (·.nm == ("_law_xor" : Str))=some zdq:=by kernel_rfl
theorem zq2 (d:Nat):sem T bn (d+3) "_law_xor" = zal [false,false] 2 (zdt (sem T bn (d+2))):=zco zp1 (zp0 _ d)
noncomputable def zcg (Ψ:Str->Fn):GS:=(gSeq (gSet [0] 5 (zae [true,false] (Ψ "_law_bits") (gCns (zaa 0) (gCns #v[2,4] gA0)))) (gSeq (gSet [0] 6 (zae [true,false] (Ψ "_law_take") (gCns (zaa 0) (gCns #v[6] gA0)))) (gSeq (gIfS (zeb (zai (gOp2 oEq (zaa 6) #v[0])) (zai (gOp2 oNe (zaa 3) (gArg (zas gA0))))) (gSet [0] 5 (zae [false,false] (Ψ "_law_xor") (gCns (gArg (gOp2 oIx (zaa 3) (gArg (zae [true,false] (Ψ "_law_take") (gCns (zaa 0) (gCns (gArg (gOpN oLen (gCns (zaa 3) gA0))) gA0)))))) (gCns (gArg (gOp2 oIx (zaa 3) (gArg (zae [true,false] (Ψ "_law_take") (gCns (zaa 0) (gCns (gArg (gOpN oLen (gCns (zaa 3) gA0))) gA0)))))) gA0)))) zau) (gSeq (gIfS (zeb (zai (gOp2 oEq (zaa 6) #v[1])) (zai (gOp2 oNe (zaa 3) (gArg (zas gA0))))) (gSet [0] 5 (gOpN zsi (gCns (gArg (gOp2 oIx (zaa 3) (gArg (zae [true,false] (Ψ "_law_take") (gCns (zaa 0) (gCns (gArg (gOpN oLen (gCns (zaa 3) gA0))) gA0)))))) gA0))) zau) (zed (gApp 3 (gVar 5)))))))
noncomputable def zdg (Ψ:Str->Fn):GS:=gFor [0] (.nm 4) (ze5 (gCns (zaa 1) gA0)) (zcg Ψ)
noncomputable def zct (Ψ:Str->Fn):GS:=(gSeq (gSet [0] 3 (zas gA0)) (gSeq (zdg Ψ) (zc9 [0] 3)))
theorem zns (Ψ:Str->Fn)(d:Nat):za0 T bn Ψ (d+2) zcy=some (zct Ψ):=by kernel_rfl
theorem zmi:T.find? (·.nm == ("_law_rows" : Str))=some zcy:=by kernel_rfl
theorem zl8 (d:Nat):sem T bn (d+3) "_law_rows" = zal [true,false,false] 7 (zct (sem T bn (d+2))):=zco zmi (zns _ d)
noncomputable def zbd (Ψ:Str->Fn):GS:=(gIfS (zai (gOp2 oEq (gArg (gOp2 oIx (zaa 2) (zaa 3))) #v[1])) (gSet [] 2 (zae [false,false] (Ψ "_law_xor") (gCns #v[2,4] (gCns (gArg (gOp2 oIxD (zaa 1) (zaa 3))) gA0)))) zau)
noncomputable def zb8 (Ψ:Str->Fn):GS:=gFor [] (.nm 3) (zan (zhx (gArg (gOpN zc7 (gCns (zaa 1) gA0))))) (zbd Ψ)
noncomputable def za6 (Ψ:Str->Fn):GS:=(gSeq (zb8 Ψ) (gIfS (zai (gOp2 (oI yes2 fun i j=>.bl (decide (j<=i))) (gArg (zae [false] (Ψ "_law_top") (gCns #v[2,4] gA0))) #v[0])) (zk4 1 (zae [false] (Ψ "_law_top") (gCns #v[2,4] gA0)) (gVar 2)) zau))
noncomputable def zb0 (Ψ:Str->Fn):GS:=gFor [] (.nm 2) (zan (gVar 0)) (za6 Ψ)
noncomputable def zb6 (Ψ:Str->Fn):GS:=(gIfS (zeb (zai (gOp2 oNe (zaa 4) (zaa 3))) (zai (gOp2 oEq (gArg (gOp2 oIx (gArg (gOp2 oIxD (zaa 1) (zaa 4))) (zaa 3))) #v[1]))) (zk4 1 (gVar 4) (zae [false,false] (Ψ "_law_xor") (gCns (gArg (gOp2 oIxD (zaa 1) (zaa 4))) (gCns (gArg (gOp2 oIxD (zaa 1) (zaa 3))) gA0)))) zau)
noncomputable def zb3 (Ψ:Str->Fn):GS:=gFor [] (.nm 4) (zan (gOpN zc7 (gCns (zaa 1) gA0))) (zb6 Ψ)
noncomputable def zdc (Ψ:Str->Fn):GS:=(zb3 Ψ)
noncomputable def zca (Ψ:Str->Fn):GS:=gFor [] (.nm 3) (zan (gOpN zbk (gCns (gArg (gOpN zc7 (gCns (zaa 1) gA0))) gA0))) (zdc Ψ)
noncomputable def zbx (Ψ:Str->Fn):GE:=zbf [none,none,some 1] (.nm 1) (zan (gOpN zbk (gCns (gArg (gOpN zc7 (gCns (zaa 1) gA0))) gA0))) gYes (gOp2 oIxD (zaa 2) (zaa 1))
noncomputable def G__law_reduced (Ψ:Str->Fn):GS:=(gSeq (gSet [] 1 zxi) (gSeq (zb0 Ψ) (gSeq (zca Ψ) (gRet (zbx Ψ)))))
theorem zhc (Ψ:Str->Fn)(d:Nat):za0 T bn Ψ (d+2) zbn=some (G__law_reduced Ψ):=by kernel_rfl
theorem zhi:T.find? (·.nm == ("_law_reduced" : Str))=some zbn:=by kernel_rfl
theorem zhd (d:Nat):sem T bn (d+3) "_law_reduced" = zal [false] 5 (G__law_reduced (sem T bn (d+2))):=zco zhi (zhc _ d)
noncomputable def zk9 (Ψ:Str->Fn):GE:=zbf [none,none,none] (.tp [1,2]) (gZip (gVar 0) (gVar 1)) gYes (zae [false,false] (Ψ "_law_same") (gCns #v[1,4] (gCns #v[2,4] gA0)))
noncomputable def zf5 (Ψ:Str->Fn):GS:=(gSeq (gIfS (zai (gOp1 (oIsi .tuple) (zaa 1))) (gSeq (gIfS (gOrT (zg8 (zai (gOp1 (oIsi .tuple) (zaa 0)))) (zai (gOp2 oNe (gArg (gOpN oLen (gCns (zaa 0) gA0))) (gArg (gOpN oLen (gCns (zaa 1) gA0)))))) (gRet (gC (.bl false))) zau) (gRet (gOpN (oBl fun bs=>bs.all id) (gCns (gArg (zk9 Ψ)) gA0)))) zau) (gSeq (gIfS (zai (gOp2 oIs (zaa 1) (gArg (gC .non)))) (gRet (gOp2 oIs (zaa 0) (gArg (gC .non)))) zau) (gSeq (gIfS (zai (gOp1 (oIsi .str) (zaa 1))) (gRet (gAnd (gOp1 (oIsi .str) (zaa 0)) (gOp2 oEq (zaa 0) (zaa 1)))) zau) (gRet (gAnd (gOp1 (oIsi .int) (zaa 0)) (gAnd (gNot (gOp1 (oIsi .bool) (zaa 0))) (gOp2 oEq (zaa 0) (zaa 1))))))))
theorem zml (Ψ:Str->Fn)(d:Nat):za0 T bn Ψ (d+2) zc5=some (zf5 Ψ):=by kernel_rfl
theorem zm4:T.find? (·.nm == ("_law_same" : Str))=some zc5:=by kernel_rfl
theorem znq (d:Nat):sem T bn (d+3) "_law_same" = zal [false,false] 2 (zf5 (sem T bn (d+2))):=zco zm4 (zml _ d)
noncomputable def zbz (Ψ:Str->Fn):GE:=zbf [none,none] (.nm 1) (zan (gVar 0)) gYes (zae [false] (Ψ "_law_top") (gCns #v[1,4] gA0))
noncomputable def zb4 (Ψ:Str->Fn):GE:=zbf [none,none,none,some 2,some 3] (.tp [1,2]) (zfh (gVar 1)) (zai (gOp2 oNe (zaa 1) (zaa 3))) (gOp2 oEq (gArg (gOp2 oIx (zaa 4) (zaa 2))) #v[1])
noncomputable def zb2 (Ψ:Str->Fn):GS:=(gIfS (zai (gOpN (oBl fun bs=>bs.any id) (gCns (gArg (zb4 Ψ)) gA0))) (gRet (gC (.bl false))) zau)
noncomputable def zb9 (Ψ:Str->Fn):GS:=gFor [] (.tp [2,3]) (zfh (gVar 0)) (zb2 Ψ)
noncomputable def zbp (Ψ:Str->Fn):GS:=(gSeq (gSet [] 1 (zbz Ψ)) (gSeq (gIfS (gOrT (zai (gOp2 (oIn false) (gArg (gOp1 oNeg #v[1])) (zaa 1))) (zai (gOp2 oNe (zaa 1) (gArg (gOpN zbk (gCns (zaa 1) gA0)))))) (gRet (gC (.bl false))) zau) (gSeq (zb9 Ψ) (gRet (gC (.bl true))))))
theorem zhg (Ψ:Str->Fn)(d:Nat):za0 T bn Ψ (d+2) zbo=some (zbp Ψ):=by kernel_rfl
theorem zhe:T.find? (·.nm == ("_law_is_base" : Str))=some zbo:=by kernel_rfl
theorem zhl (d:Nat):sem T bn (d+3) "_law_is_base" = zal [false] 4 (zbp (sem T bn (d+2))):=zco zhe (zhg _ d)
noncomputable def ztj (Ψ:Str->Fn):GE:=zbf [none,none] (.nm 1) (zan (gVar 4)) gYes (zae [false] (Ψ "_law_word") (gCns #v[1,4] gA0))
noncomputable def zsk (Ψ:Str->Fn):GE:=zbf [none,none] (.nm 1) (zan (gVar 5)) gYes (zae [false,false] (Ψ "_law_same") (gCns #v[1,4] (gCns (gArg (gOpN oInt (gCns (zaa 1) gA0))) gA0)))
noncomputable def ztg (Ψ:Str->Fn):GE:=zbf [none,none,some 3] (.nm 1) (zan (gVar 5)) gYes (znu (oI yes2 fun i j=>.bl (decide (i<=j))) (oI yes2 fun i j=>.bl (decide (i < j))) #v[0] (zaa 1) (gArg (gOp2 #v[0,0,1] #v[1] (gArg (gOp2 #v[0,0,1] #v[1] (zaa 2))))))
noncomputable def zzs (Ψ:Str->Fn):GE:=zbf [none,none,some 1] (.nm 1) (ze5 (gCns (gArg (gOp2 #v[0,0,1] #v[1] (zaa 2))) gA0)) gYes (gOp2 #v[0,0,2] (gArg (gOp2 #v[0,0,3] (zaa 2) (gArg (gOp2 #v[0,0,1] #v[1] (zaa 1))))) #v[2])
noncomputable def zt4 (Ψ:Str->Fn):GE:=zbf [none,none,some 3] (.nm 1) (zan (gVar 5)) gYes (zzs Ψ)
noncomputable def zsw (Ψ:Str->Fn):GE:=zbf [none,none,none] (.tp [1,2]) (gZip (gVar 2) (gVar 1)) gYes (gOp2 oMult (zaa 1) (zaa 2))
noncomputable def ztt (Ψ:Str->Fn):GE:=zbf [none,none,some 7] (.nm 1) (zan (gVar 4)) gYes (gOp2 oEq (gArg (gOp2 #v[0,0,2] (gArg (gOpN oSum (gCns (gArg (zsw Ψ)) gA0))) #v[2])) #v[1])
noncomputable def zpy (Ψ:Str->Fn):GS:=(gIfS (zai (gOpN (oBl fun bs=>bs.any id) (gCns (gArg (ztt Ψ)) gA0))) (gRet (gC (.bl false))) zau)
noncomputable def zsc (Ψ:Str->Fn):GS:=gFor [] (.nm 7) (zan (gVar 6)) (zpy Ψ)
noncomputable def zoj (Ψ:Str->Fn):GS:=(gSeq (gSet [] 3 (gOp2 oIx (gArg (zas (gCns #v[1] (gCns #v[2] (gCns #v[3] (gCns #v[4] (gCns #v[3] (gCns #v[2] (gCns #v[5] (gCns #v[6] gA0)))))))))) (gArg (zae [true,false] (Ψ "_law_take") (gCns (zaa 1) (gCns #v[8] gA0)))))) (gSeq (gSet [] 4 (zae [true,false,false] (Ψ "_law_rows") (gCns (zaa 1) (gCns (gArg (zae [true,false] (Ψ "_law_take") (gCns (zaa 1) (gCns #v[11] gA0)))) (gCns (gArg (gOp2 #v[0,0,1] #v[1] (zaa 3))) gA0))))) (gSeq (gSet [] 5 (zae [false,false] (Ψ "even_with") (gCns #v[3,4] (gCns (gArg (gOpN zem (gCns (gArg (ztj Ψ)) gA0))) gA0)))) (gSeq (gIfS (gOrT (zg8 (zai (gOp1 (oIsi .tuple) (zaa 5)))) (zg8 (zai (gOpN (oBl fun bs=>bs.all id) (gCns (gArg (zsk Ψ)) gA0))))) (gRet (gC (.bl false))) zau) (gSeq (gIfS (zai (gOp2 oNe (gArg (gOpN oLen (gCns (zaa 5) gA0))) (gArg (gOp2 #v[0,0,0] (gArg (gOp2 #v[0,0,1] #v[1] (zaa 3))) (gArg (gOpN oLen (gCns (gArg (zae [false] (Ψ "_law_reduced") (gCns #v[4,4] gA0))) gA0))))))) (gRet (gC (.bl false))) zau) (gSeq (gIfS (zg8 (zai (gOpN (oBl fun bs=>bs.all id) (gCns (gArg (ztg Ψ)) gA0)))) (gRet (gC (.bl false))) zau) (gSeq (gSet [] 6 (zt4 Ψ)) (gSeq (gIfS (zg8 (zai (zae [false] (Ψ "_law_is_base") (gCns #v[6,4] gA0)))) (gRet (gC (.bl false))) zau) (zsc Ψ)))))))))
noncomputable def zv8 (Ψ:Str->Fn):GS:=gFor [] (.nm 2) (ze5 (gCns #v[3] gA0)) (zoj Ψ)
noncomputable def z0w (Ψ:Str->Fn):GS:=(gSeq (gSet [] 1 (zae [false] (Ψ "_law_hand") (gCns #v[0,4] gA0))) (gSeq (zv8 Ψ) (gRet (gAnd (gOp2 oEq (gArg (zae [false,false] (Ψ "even_with") (gCns #v[2] (gCns (gArg (zg3 gA0)) gA0)))) (gArg (zg3 (gCns #v[1] (gCns #v[2] (gCns #v[4] (gCns #v[8] gA0))))))) (gOp2 oEq (gArg (zae [false,false] (Ψ "even_with") (gCns #v[1] (gCns (gArg (zg3 (gCns #v[1] (gCns #v[2] gA0)))) gA0)))) (gArg (zg3 gA0)))))))
theorem ya5 (Ψ:Str->Fn)(d:Nat):za0 T bn Ψ (d+2) zmy=some (z0w Ψ):=by kernel_rfl
theorem yah:T.find? (·.nm == ("law" : Str))=some zmy:=by kernel_rfl
theorem z9t (d:Nat):sem T bn (d+3) "law" = zal [false] 8 (z0w (sem T bn (d+2))):=zco yah (ya5 _ d)
noncomputable def rowW (n w:Nat):W:=.lst ((tab n (bitN w)).map W.int)
theorem znr (n w:Nat):seqW (rowW n w)=some ((tab n (bitN w)).map W.int):=rfl
theorem row_at {n w i:Nat}(h:i < n):atI ((tab n (bitN w)).map W.int) (i:Int)=some (.int (bitN w i)):=zbw (zob h)
noncomputable def LXor (Φ:Fn):Prop:=∀(n a b:Nat),n<=64->Φ [rowW n a,rowW n b]=some ([rowW n a,rowW n b],(rowW n (a ^^^ b),true))
theorem z31 (Ψ:Str->Fn):LXor (zal [false,false] 2 (zdt Ψ)):=fun n a b hn=>by
 have c1:zd3 Ψ [#v[rowW n a,6],#v[rowW n b,6]]=some ([#v[rowW n a,6],#v[rowW n b,6]],(rowW n (a ^^^ b),true)):=by
  unfold zd3;have:=zoz (it:=gZip (gVar 0) (gVar 1)) (te:=(gOpN oInt (gCns (gArg (gOp2 oNe (zaa 1) (zaa 2))) gA0))) (en:=[#v[rowW n a,6],#v[rowW n b,6]]) (e0:=[#v[rowW n a,6],#v[rowW n b,6]]) (xs:=tab n (bitN a)) (ys:=tab n (bitN b)) (f:=dif) rfl (by rw[zaq];omega) fun v0 x y _ _=>by
   have ib:oInt [.bl (!decide (x=y))]=#v[(dif x y),0]:=by
    unfold dif;cases decide (x=y)<;>rfl
   simp! [ib]
  rw[zi5,zb7 fun i _=>zo8 a b i] at this;exact this
 unfold zdt;simp! [c1]
theorem z7r:∀(L:List Int) (n:Int),n<=mx1 n L/\∀x∈L,x<=mx1 n L
  | [],n=>⟨Int.le_refl n,fun x h=>nomatch h⟩
  | y::L,n=>by
    obtain⟨a,b⟩:=z7r L (if y > n then y else n);have e:mx1 n (y::L)=mx1 (if y > n then y else n) L:=rfl;rw[e];have c1:n<=(if y > n then y else n):=by split<;>omega
    have c2:y<=(if y > n then y else n):=by split<;>omega
    refine⟨Int.le_trans c1 a,fun x hx=>?_⟩;rcases Aq.mp hx with rfl | hx
    · exact Int.le_trans c2 a
    · exact b x hx
theorem z8n:∀(L:List Int) (n:Int),mx1 n L=n\/mx1 n L∈L
  | [],n=>.inl rfl
  | y::L,n=>by
    have e:mx1 n (y::L)=mx1 (if y > n then y else n) L:=rfl;rw[e];rcases z8n L (if y > n then y else n) with h | h
    · by_cases c : y > n
      · rw[if_pos c] at h ⊢;exact .inr (by rw[h];exact Ak)
      · rw[if_neg c] at h ⊢;exact .inl h
    · exact .inr (Aj _ h)
noncomputable def topI (w:Nat):Int:=if w=0 then -1 else (tp w:Nat)
noncomputable def plL (n w:Nat):List Nat:=(List.range n).filter fun p=>w.testBit p
theorem z7e {n w:Nat}(h:w < 2 ^ n):mx1 (-1) ((plL n w).map fun p:Nat=>(p:Int))=topI w:=by
 obtain⟨a,b⟩:=z7r ((plL n w).map fun p:Nat=>(p:Int)) (-1);unfold topI;by_cases z:w=0
 ·subst z;rw[if_pos rfl];have:plL n 0=[]:=List.filter_eq_nil_iff.mpr fun p _=>by rw[Bo];exact Af
  rw[this];rfl
 ·rw[if_neg z];have tb:=tp_bit z;have tn:tp w < n:=(Du z).mpr h;have m1:=b (tp w:Nat) (Az.mpr ⟨tp w,Ca.mpr ⟨Bj.mpr tn,tb⟩,rfl⟩);rcases z8n ((plL n w).map fun p:Nat=>(p:Int)) (-1) with h | h
  ·omega
  ·obtain⟨p, hp, e⟩ := Az.mp h;have:=zfz (Ca.mp hp).2;omega
noncomputable def LTop (Φ:Fn):Prop:=∀(n w:Nat),n<=64->w < 2 ^ n->Φ [rowW n w]=some ([rowW n w],(.int (topI w),false))
theorem zxq {n w i:Nat}{x:W}(h:(zdx ((tab n (bitN w)).map W.int) 0)[i]?=some x):i < n/\x=.tup [.int (i:Nat),.int (bitN w i)]:=by
 obtain⟨hi,e⟩:=zic h;rw[zaq] at hi;refine⟨hi,?_⟩;rw[e];have:(tab n (bitN w))[i]?=some (bitN w i):=zdf hi;rw[Ac (by rw[zaq];exact hi)] at this;rw[sI this]
theorem z2l (Ψ:Str->Fn):LTop (zal [false] 1 (zdp Ψ)):=fun n w hn hw=>by
  have le:(zdx ((tab n (bitN w)).map W.int) 0).length=n:=by rw[za9,Aa,zaq]
  have c1:zd5 Ψ [some (rowW n w,false)]=some ([some (rowW n w,false)],(.lst (zab (plL n w)),true)):=by
    unfold zd5;obtain ⟨ce',out,hc,⟨u0,u1,u2,rfl⟩,rfl⟩:=zdj (cap:=[none,none,none]) (T:=.tp [1,2]) (it:=zfh (gVar 0)) (tc:=zai (gOp2 oEq (zaa 2) (gArg (gC (.int 1))))) (te:=gVar 1) (fun i c dn=>(∃u0 u1 u2,c=[u0,u1,u2])/\dn=zab (plL i w)) (en:=[some (rowW n w,false)]) (e0:=[some (rowW n w,false)]) (ws:=zdx ((tab n (bitN w)).map W.int) 0) rfl rfl (by rw [le,Dg];omega) ⟨⟨_,_,_,rfl⟩,rfl⟩ fun i x c dn hx hp=>by
      obtain ⟨⟨u0,u1,u2,rfl⟩,rfl⟩:=hp;obtain ⟨li,rfl⟩:=zxq hx;have be:=zeu w i;have st:plL (i+1) w=plL i w++if w.testBit i then [i] else []:=by
        unfold plL;rw[List.range_succ,Gd,Ce,List.filter_nil]
      refine⟨[u0,#v[(i:Nat),0],#v[(bitN w i),0]],rfl,?_⟩;cases q:w.testBit i with
      | true =>
        rw[q] at be;refine .inl ⟨[u0,#v[(i:Nat),0],#v[(bitN w i),0]],[u0,#v[(i:Nat),0],#v[(bitN w i),0]],(.int (i:Nat),false),by simp! [be],by simp! [],⟨_,_,_,rfl⟩,?_⟩;rw[st,q,if_pos rfl,zdo]
      | false =>
        rw[q] at be;refine .inr ⟨[u0,#v[(i:Nat),0],#v[(bitN w i),0]],by simp! [be],⟨_,_,_,rfl⟩,?_⟩;rw[st,q,if_neg Af,Bt]
    rw[le] at hc;exact hc
  have ll:(plL n w).length<=n:=by
    have:=List.length_filter_le (fun p=>w.testBit p) (List.range n)
    rwa [Cu] at this
  have ad:oAdd (.lst [.int (-1)]) (.lst (zab (plL n w)))=some (.lst (.int (-1)::zab (plL n w)),true):=by
    rw[zje (by rw[zac,Dg];show 1+_<=_;omega)];rfl
  have mx:=yaf (-1) ((plL n w).map fun p:Nat=>(p:Int));rw[<-zao,z7e hw] at mx;unfold zdp;simp! [c1,ad,mx]
noncomputable def rowD (n w:Nat):PyData:=.list ((tab n (bitN w)).map .int)
theorem z5j (n w:Nat):dW (rowW n w)=some (rowD n w):=by
 unfold rowW rowD;rw[dW,zgt W.int .int (fun _=>by rw[dW]) _];rfl
theorem z78 (n:Nat)(Rs:List Nat):oNe (.lst (Rs.map (rowW n))) (.lst [])=some (.bl (!Rs.isEmpty),false):=by
 have e1:dW (.lst (Rs.map (rowW n)))=some (.list (Rs.map (rowD n))):=by
  rw[dW,zgt (rowW n) (rowD n) (z5j n) Rs];rfl
 have e2:dW (.lst [])=some (.list []):=by rw[dW];rfl
 have cl:(PyData.list (Rs.map (rowD n))).canLay0=true:=by
  rw[PyData.canLay0];refine zcl _ _ fun w _=>?_;unfold rowD;rw[PyData.canLay0];exact zcl _ _ fun x _=>by rw[PyData.canLay0]
 have dp:(PyData.list (Rs.map (rowD n))).depth<=100:=by
  rw[PyData.depth];have:=depAll_map (c:=1) (rowD n) Rs fun w _=>by
   unfold rowD;rw[PyData.depth];have:=depAll_map (c:=0) PyData.int (tab n (bitN w)) fun x _=>by rw[PyData.depth];exact Ag _
   omega
  omega
 have eq:eqD (.lst (Rs.map (rowW n))) (.lst [])=some Rs.isEmpty:=by
  unfold eqD;rw[e1,e2];show (if (PyData.list (Rs.map (rowD n))).canLay0 && (PyData.list []).canLay0 && decide ((PyData.list (Rs.map (rowD n))).depth<=100) then some (PyData.eqv (.list (Rs.map (rowD n))) (.list [])) else none)=_;rw[cl,Ah dp];cases Rs with
  | nil=>rfl
  | cons r Rs=>rfl
 show (eqD (.lst (Rs.map (rowW n))) (.lst [])).bind _=_;rw[eq];rfl
noncomputable def zzv (Φ:Fn):Prop:=∀(k:Nat) (st:W) (c n:Nat),HS k st->k+2000 < big->c<=12->n<=64->∃(st' : W) (Rs:List Nat),Φ [st,.int (c:Nat),.int (n:Nat)]=some ([st',.int (c:Nat),.int (n:Nat)],(.lst (Rs.map (rowW n)),true))/\HS (k+70 * c) st'/\Rs.length=c/\∀r∈Rs,r < 2 ^ n
theorem zmb {n i r:Nat}{Rs:List Nat}(h:Rs[i]?=some r):atI (Rs.map (rowW n)) (i:Int)=some (rowW n r):=zbw (by rw[Am,h];rfl)
theorem pick {Φ:Fn}(hK:ze9 Φ){k:Nat}{st:W}{Rs:List Nat}(hs:HS k st)(hk:k < big)(h0:Rs≠[])(hl:Rs.length<=1000):∃(st' : W) (i r:Nat),Φ [st,.int (Rs.length:Nat)]=some ([st',.int (Rs.length:Nat)],(.int (i:Nat),false))/\HS (k+1) st'/\Rs[i]?=some r:=by
 have lp:=List.length_pos_iff.mpr h0;obtain⟨st1,i,e1,g1,i0,i1⟩:=hK k st (Rs.length:Nat) hs hk #v[] #v[];obtain⟨i,rfl⟩:=Ef i0;exact⟨st1,i,Rs[i]'#v[],e1,g1,Ac #v[]⟩
theorem z28 {Ψ:Str->Fn}(hB:ztz (Ψ "_law_bits"))(hK:ze9 (Ψ "_law_take"))(hX:LXor (Ψ "_law_xor")){k n:Nat}{st:W}{Rs:List Nat}{v1 v4 v5 v6:Option (W × Bool)}(hs:HS k st)(hk:k+200 < big)(hn:n<=64)(hR:∀r∈Rs,r < 2 ^ n)(hl:Rs.length<=100):∃(st' : W) (r:Nat) (w5 w6:Option (W × Bool)),zcg Ψ [#v[st,5],v1,#v[(n:Nat),0],#v[(Rs.map (rowW n)),2],v4,v5,v6]=some ([#v[st',5],v1,#v[(n:Nat),0],#v[((Rs++[r]).map (rowW n)),2],v4,w5,w6],.nx)/\HS (k+70) st'/\r < 2 ^ n:=by
 obtain⟨st1,xs,e1,g1,xl,xb⟩:=hB k st (n:Nat) hs #v[] #v[] #v[];have xl:xs.length=n:=by omega
 obtain⟨r0,hr0,ex⟩:=zpc xs xb;rw[xl] at hr0 ex;have e1:Ψ "_law_bits" [st,.int (n:Nat)]=some ([st1,.int (n:Nat)],(rowW n r0,true)):=by rw[e1];unfold rowW;rw[<-ex]
 obtain⟨st2,wy,e2,g2,w0,w1⟩:=hK (k+66) st1 6 g1 #v[] #v[0,9] #v[0,9];have nn:=z78 n Rs;have s9:(1000:Nat)<=sizeLine:=by decide
 have app:∀(st3:W) (r:Nat) (o:Bool),zed (gApp 3 (gVar 5)) [#v[st3,5],v1,#v[(n:Nat),0],#v[(Rs.map (rowW n)),2],v4,some (rowW n r,o),#v[wy,0]]=some ([#v[st3,5],v1,#v[(n:Nat),0],#v[((Rs++[r]).map (rowW n)),2],v4,#v[rowW n r,6],#v[wy,0]],.nx):=fun st3 r o=>by
  have hl2:(Rs.map (rowW n)).length < sizeLine:=by rw[Aa];omega
  have:=zuv (z0k (i:=3) (g:=gVar 5) (en:=[#v[st3,5],v1,#v[(n:Nat),0],#v[(Rs.map (rowW n)),2],v4,some (rowW n r,o),#v[wy,0]]) (e1:=[#v[st3,5],v1,#v[(n:Nat),0],#v[(Rs.map (rowW n)),2],v4,#v[rowW n r,6],#v[wy,0]]) (us:=Rs.map (rowW n)) (ws:=Rs.map (rowW n)) (r:=(rowW n r,false)) rfl (by cases o<;>simp! []) rfl hl2);rw[this,Bx];rfl
 have first:∀rest:GS,gSeq (gSet [0] 5 (zae [true,false] (Ψ "_law_bits") (gCns (zaa 0) (gCns #v[2,4] gA0)))) (gSeq (gSet [0] 6 (zae [true,false] (Ψ "_law_take") (gCns (zaa 0) (gCns #v[6] gA0)))) rest) [#v[st,5],v1,#v[(n:Nat),0],#v[(Rs.map (rowW n)),2],v4,v5,v6]=rest [#v[st2,5],v1,#v[(n:Nat),0],#v[(Rs.map (rowW n)),2],v4,#v[rowW n r0,5],#v[wy,0]]:=fun rest =>
  seq_e' (e1:=[#v[st1,5],v1,#v[(n:Nat),0],#v[(Rs.map (rowW n)),2],v4,#v[rowW n r0,5],v6]) (by simp! [e1]) (seq_e' (e1:=[#v[st2,5],v1,#v[(n:Nat),0],#v[(Rs.map (rowW n)),2],v4,#v[rowW n r0,5],#v[wy,0]]) (by simp! [e2]) rfl)
 unfold zcg;rw[first];by_cases c0:wy=0/\Rs≠[]
 ·obtain ⟨c0, c1⟩ := c0;have em:(!Rs.isEmpty)=true:=by cases Rs with
   | nil=>exact absurd rfl c1
   | cons _ _=>rfl
  rw[em] at nn;obtain⟨st3,i,a,p1,p2,p3⟩:=pick hK g2 #v[] c1 #v[];obtain⟨st4,j,b,q1,q2,q3⟩:=pick hK p2 #v[] c1 #v[];have xr:=hX n a b hn;have ia:=zmb (n:=n) p3;have ib:=zmb (n:=n) q3;subst c0;refine⟨st4,a ^^^ b,#v[rowW n (a ^^^ b),6],#v[0,0],?_,q2.mono #v[],El (hR a (At p3)) (hR b (At q3))⟩;refine seq_e' (e1:=[#v[st4,5],v1,#v[(n:Nat),0],#v[(Rs.map (rowW n)),2],v4,#v[rowW n (a ^^^ b),5],#v[0,0]]) ?_ (seq_e' (e1:=[#v[st4,5],v1,#v[(n:Nat),0],#v[(Rs.map (rowW n)),2],v4,#v[rowW n (a ^^^ b),5],#v[0,0]]) ?_ (app st4 _ true))
  ·simp! [nn,Aa,p1,ia,q1,ib,xr]
  ·simp! []
 ·have s1:gIfS (zeb (zai (gOp2 oEq (zaa 6) (gArg (gC (.int 0))))) (zai (gOp2 oNe (zaa 3) (gArg (zas gA0))))) (gSet [0] 5 (zae [false,false] (Ψ "_law_xor") (gCns (gArg (gOp2 oIx (zaa 3) (gArg (zae [true,false] (Ψ "_law_take") (gCns (zaa 0) (gCns (gArg (gOpN oLen (gCns (zaa 3) gA0))) gA0)))))) (gCns (gArg (gOp2 oIx (zaa 3) (gArg (zae [true,false] (Ψ "_law_take") (gCns (zaa 0) (gCns (gArg (gOpN oLen (gCns (zaa 3) gA0))) gA0)))))) gA0)))) zau [some (st2,true),v1,some (.int (n:Nat),false),some (.lst (Rs.map (rowW n)),true),v4,some (rowW n r0,true),some (.int wy,false)]=some ([some (st2,true),v1,some (.int (n:Nat),false),some (.lst (Rs.map (rowW n)),true),v4,some (rowW n r0,true),some (.int wy,false)],.nx):=by
   by_cases c:wy=0
   ·have em : Rs = [] := Decidable.byContradiction fun z => c0 ⟨c, z⟩;subst em c;have nn:oNe (.lst (([]:List Nat).map (rowW n))) (.lst [])=some (.bl false,false):=nn;simp! [nn]
   ·have dz : decide (wy = 0) = false := Ap c;simp! [dz]
  nofun;refine qG ?_;by_cases c1:wy=1/\Rs≠[]
  ·obtain ⟨c1, c2⟩ := c1;have em:(!Rs.isEmpty)=true:=by cases Rs with
    | nil=>exact absurd rfl c2
    | cons _ _=>rfl
   rw[em] at nn;obtain⟨st3,i,a,p1,p2,p3⟩:=pick hK g2 #v[] c2 #v[];have ia:=zmb (n:=n) p3;have ol:zsi [rowW n a]=#v[rowW n a,5]:=rfl;subst c1;refine⟨st3,a,#v[rowW n a,6],#v[1,0],seq_e' s1 (seq_e' (e1:=[#v[st3,5],v1,#v[(n:Nat),0],#v[(Rs.map (rowW n)),2],v4,#v[rowW n a,5],#v[1,0]]) ?_ (app st3 _ true)),p2.mono #v[],hR a (At p3)⟩;simp! [nn,Aa,p1,ia,ol]
  ·refine⟨st2, r0, some (rowW n r0, false), some (.int wy, false), seq_e' s1 (seq_e' (e1 := [some (st2, true), v1, some (.int (n : Nat), false), some (.lst (Rs.map (rowW n)), true), v4, some (rowW n r0, true), some (.int wy, false)]) ?_ (app st2 _ true)), g2.mono #v[], hr0⟩;by_cases c:wy=1
   ·have em : Rs = [] := Decidable.byContradiction fun z => c1 ⟨c, z⟩;subst em c;have nn:oNe (.lst (([]:List Nat).map (rowW n))) (.lst [])=some (.bl false,false):=nn;simp! [nn]
   ·have dz : decide (wy = 1) = false := Ap c;simp! [dz]
theorem z2o {Ψ:Str->Fn}(hB:ztz (Ψ "_law_bits"))(hK:ze9 (Ψ "_law_take"))(hX:LXor (Ψ "_law_xor")):zzv (zal [true,false,false] 7 (zct Ψ)):=fun k st c n hs hk hc hn=>by
 have lp:∃(st' : W) (Rs:List Nat) (w4 w5 w6:Option (W × Bool)),zdg Ψ [#v[st,5],#v[(c:Nat),0],#v[(n:Nat),0],#v[[],2],none,none,none]=some ([#v[st',5],#v[(c:Nat),0],#v[(n:Nat),0],#v[(Rs.map (rowW n)),2],w4,w5,w6],.nx)/\HS (k+70 * c) st'/\Rs.length=c/\∀r∈Rs,r < 2 ^ n:=by
  unfold zdg;obtain⟨en',h,st',Rs,w4,w5,w6,rfl,g,rl,rr⟩:=zay (mp:=[0]) (T:=.nm 4) (body:=zcg Ψ) (fun i e=>∃(st' : W) (Rs:List Nat) (w4 w5 w6:Option (W × Bool)),e=[#v[st',5],#v[(c:Nat),0],#v[(n:Nat),0],#v[(Rs.map (rowW n)),2],w4,w5,w6]/\HS (k+70 * i) st'/\Rs.length=i/\∀r∈Rs,r < 2 ^ n) (zn3 (a:=zaa 1) (en:=[#v[st,5],#v[(c:Nat),0],#v[(n:Nat),0],#v[[],2],none,none,none]) (e1:=[#v[st,5],#v[(c:Nat),0],#v[(n:Nat),0],#v[[],2],none,none,none]) (n:=c) rfl #v[]) ⟨st,[],none,none,none,rfl,hs,rfl,fun r h=>nomatch h⟩ fun i w e hw hp=>by
   obtain⟨st',Rs,w4,w5,w6,rfl,g,rl,rr⟩:=hp;obtain⟨li,rfl⟩:=zef hw;obtain⟨st2,r,x5,x6,hb,g2,hr⟩:=z28 (Ψ:=Ψ) hB hK hX (v1:=#v[(c:Nat),0]) (v4:=#v[(0+(i:Int)),0]) (v5:=w5) (v6:=w6) g #v[] hn rr #v[];refine⟨_,_,rfl,.inl hb,st2,Rs++[r],_,_,_,rfl,g2.mono #v[],by rw[Bf,rl];rfl,fun x hx=>?_⟩;rcases Ba.mp hx with hx | hx
   ·exact rr x hx
   ·rw[Al.mp hx];exact hr
  rw[zdm] at g rl;exact⟨_,_,_,_,_,h,g,rl,rr⟩
 obtain⟨st',Rs,w4,w5,w6,lp,g,rl,rr⟩:=lp;refine⟨st',Rs,?_,g,rl,rr⟩;unfold zct;refine zbu (en:=[#v[st',5],#v[(c:Nat),0],#v[(n:Nat),0],none,w4,w5,w6]) rfl (seq_e' (e1:=[#v[st,5],#v[(c:Nat),0],#v[(n:Nat),0],#v[[],2],none,none,none]) ?_ (seq_e' lp ?_)) rfl
 ·simp! []
 ·rfl
theorem zrf {L:List Nat}(h:L.Nodup):∃P:List Nat,P.Perm L/\P.Pairwise (· < ·):=by
 refine⟨L.mergeSort (fun a b=>decide (a<=b)),List.mergeSort_perm _ _,?_⟩;have s:=List.pairwise_mergeSort (le:=fun a b:Nat=>decide (a<=b)) (fun a b c h1 h2=>Ah (Cy (As h1) (As h2))) (fun a b=>by rw[Cn,Dc,Dc];exact Nat.le_total a b) L;have nd:(L.mergeSort (fun a b=>decide (a<=b))).Nodup:=(List.mergeSort_perm L _).nodup_iff.mpr h;rw[Gc] at nd;exact (s.and nd).imp fun {a b} q=>by have:=As q.1;have:=q.2;omega
noncomputable def kD (n:Nat) (L:List Nat) (g:Nat->Nat):W:=.dct (L.map dkN) (L.map fun t=>rowW n (g t))
theorem zjg (n:Nat)(L:List Nat)(g:Nat->Nat):zc7 [kD n L g]=#v[(zab L),2]:=by
 show (zij (L.map dkN)).bind _=_;rw[znd];rfl
theorem zyq {n t:Nat}{L:List Nat}{g:Nat->Nat}(h:t∈L):oIxD (kD n L g) (.int (t:Int))=#v[rowW n (g t),6]:=z9h (d:=dkN t) rfl (by rw[zuu zf4,if_pos h])
theorem zii {n:Nat}{L:List Nat}{g g' : Nat->Nat}(h:∀t∈L,g t=g' t):kD n L g=kD n L g':=by
 have e:(L.map fun t=>rowW n (g t))=L.map fun t=>rowW n (g' t):=Cj fun t ht=>by rw[h t ht]
 unfold kD;rw[e]
theorem zcv {L P:List Nat}(hp:P.Perm L)(ha:P.Pairwise (· < ·)):sortI (L.map fun p:Nat=>(p:Int))=P.map fun p:Nat=>(p:Int):=zdn (hp.map _) (by rw[Ck];exact ha.imp fun h=>by omega)
noncomputable def InN (n:Nat) (L:List Nat) (g:Nat->Nat):Prop:=∀t∈L,g t < 2 ^ n
theorem zu6 {n t:Nat}{L:List Nat}{g:Nat->Nat}(h:zbr L g)(hn:InN n L g)(ht:t∈L):t < n:=by
 obtain⟨a,b⟩:=h.2 t ht;rw[<-b];exact (Du a).mpr (hn t ht)
theorem zz5 {n:Nat}{g:Nat->Nat}:∀(P:List Nat) (r:Nat),(∀t∈P,g t < 2 ^ n)->r < 2 ^ n->P.foldl (offS g) r < 2 ^ n
  | [],r,_,hr=>hr
  | t::P,r,h,hr=>zz5 P _ (fun x hx=>h x (Aj _ hx)) (by
    unfold offS;split
    · exact El hr (h t Ak)
    · exact hr)
theorem z6o {Ψ:Str->Fn} (hX:LXor (Ψ "_law_xor")) {n r:Nat}{L P:List Nat}{g:Nat->Nat}{v0 v3 v4:Option (W × Bool)}{o:Bool} (hn:n<=64) (hk:zbr L g) (hi:InN n L g) (hl:L.length<=60) (hp:P.Perm L) (ha:P.Pairwise (· < ·)):∃o' w3,zb8 Ψ [v0,some (kD n L g,true),some (rowW n r,o),v3,v4]=some ([v0,some (kD n L g,true),some (rowW n (P.reverse.foldl (offS g) r),o'),w3,v4],.nx):=by
  have ld:=zjg n L g;have it:zan (zhx (gArg (gOpN zc7 (gCns (zaa 1) gA0)))) [v0,some (kD n L g,true),some (rowW n r,o),v3,v4]=some ([v0,some (kD n L g,true),some (rowW n r,o),v3,v4],zab P.reverse):=by
    have ga:(gArg (gOpN zc7 (gCns (zaa 1) gA0))) [v0,some (kD n L g,true),some (rowW n r,o),v3,v4]=some ([v0,some (kD n L g,true),some (rowW n r,o),v3,v4],.inl (.lst ((L.map fun p:Nat=>(p:Int)).map W.int))):=by
      rw[<-zao];simp! [ld]
    have sr:=zze ga (by rw[Aa];omega);rw[zcv hp ha,<-List.map_reverse,<-zao] at sr;simp! [sr]
  unfold zb8;obtain ⟨en',h,o',w3,rfl⟩:=zay (mp:=[]) (T:=.nm 3) (body:=zbd Ψ) (fun i e=>∃o' w3,e=[v0,some (kD n L g,true),some (rowW n ((P.reverse.take i).foldl (offS g) r),o'),w3,v4]) it ⟨o,v3,rfl⟩ fun i u e hw hq=>by
    obtain ⟨o',w3,rfl⟩:=hq;obtain ⟨t,ht,rfl⟩:=zaf hw;have tL:t∈L:=hp.mem_iff.mp (List.mem_reverse.mp (At ht));have tn:=zu6 hk hi tL;have e1:(P.reverse.take (i+1)).foldl (offS g) r=offS g ((P.reverse.take i).foldl (offS g) r) t:=by
      rw[Ct,ht];show (P.reverse.take i++[t]).foldl (offS g) r=_;rw[Ev];rfl
    rw[e1];generalize (P.reverse.take i).foldl (offS g) r=x;have rs:=znr n x;have ra:=row_at (w:=x) tn;have be:=zeu x t;have ka:=zyq (n:=n) (g:=g) tL;have xr:=hX n x (g t) hn;unfold offS;cases q:x.testBit t with
    | true =>
      rw[q] at be;rw[if_pos rfl];refine⟨[v0,#v[kD n L g,5],some (rowW n x,o'),#v[(t:Nat),0],v4],[v0,#v[kD n L g,5],#v[rowW n (x ^^^ g t),5],#v[(t:Nat),0],v4],rfl,.inl ?_,true,_,rfl⟩;unfold zbd;cases o'<;>simp! [rs,ra,be,ka,xr]
    | false =>
      rw[q] at be;rw[if_neg Af];refine⟨[v0,#v[kD n L g,5],some (rowW n x,o'),#v[(t:Nat),0],v4],[v0,#v[kD n L g,5],some (rowW n x,o'),#v[(t:Nat),0],v4],rfl,.inl ?_,o',_,rfl⟩;unfold zbd;cases o'<;>simp! [rs,ra,be]
  have ll:(zab P.reverse).length=P.reverse.length:=zac _;rw[ll,Bp] at h;exact⟨_,_,h⟩
theorem z40 {Ψ:Str->Fn}(hX:LXor (Ψ "_law_xor"))(hT:LTop (Ψ "_law_top")){n r:Nat}{L S:List Nat}{g:Nat->Nat}{v0 v3 v4:Option (W × Bool)}(hn:n<=64)(hk:zbr L g)(hi:InN n L g)(hl:L.length<=59)(hr:r < 2 ^ n)(hs:Same2 (L.map g) S):∃(L' : List Nat) (g' : Nat->Nat) (w2 w3:Option (W × Bool)),za6 Ψ [v0,#v[kD n L g,5],#v[rowW n r,6],v3,v4]=some ([v0,#v[kD n L' g',5],w2,w3,v4],.nx)/\zbr L' g'/\InN n L' g'/\L'.length<=L.length+1/\Same2 (L'.map g') (S++[r]):=by
 obtain⟨P,hp,ha⟩:=zrf hk.1;obtain⟨o,w3,l1⟩:=z6o (Ψ:=Ψ) hX (r:=r) (v0:=v0) (v3:=v3) (v4:=v4) (o:=false) hn hk hi #v[] hp ha;have pm:∀t,t∈P.reverse↔t∈L:=fun t=>by rw[List.mem_reverse];exact hp.mem_iff
 have vl:=zz5 (g:=g) P.reverse r (fun t ht=>hi t ((pm t).mp ht)) hr;have sp:=zzu (S:=L.map g) (g:=g) P.reverse r fun t ht=>SpN.one (Az.mpr ⟨t,(pm t).mp ht,rfl⟩);have dsc:P.reverse.Pairwise (· > ·):=by rw[List.pairwise_reverse];exact ha
 generalize hv:P.reverse.foldl (offS g) r=v at *
 have tv:=hT n v hn vl;unfold za6;by_cases z:v=0
 ·have t0 : topI v = -1 := if_pos z;rw[t0] at tv;refine⟨L,g,#v[rowW n v,6],w3,seq_e' l1 ?_,hk,hi,by omega,fun b hb=>(hs.1 b hb).go fun x hx=>.one (Br _ hx),fun b hb=>?_⟩
  ·cases o<;>simp! [tv]
  ·rcases Ba.mp hb with hb | hb
   ·exact hs.2 b hb
   ·rw[Al.mp hb];rw[z,Cw] at sp;exact sp
 ·have t0 : topI v = (tp v : Nat) := if_neg z;rw [t0] at tv;obtain ⟨no,k',old⟩:=zy8 hk pm dsc hv z;have ge:decide ((0:Int)<=(tp v:Nat))=true:=Ah (by omega);have g't:updF g (tp v) v (tp v)=v:=if_pos rfl;have dd:W.dct (zdz (L.map dkN) (dkN (tp v))) (zd4 (L.map dkN) (L.map fun t=>rowW n (g t)) (dkN (tp v)) (rowW n v))=kD n (L++[tp v]) (updF g (tp v) v):=by
   unfold kD;rw[zzg zf4 no,zwk zf4 _ _ no,Bx,Bx];have e:(L.map fun t=>rowW n (updF g (tp v) v t))=L.map fun t=>rowW n (g t):=Cj fun t ht=>by rw[old t ht]
   rw[e];show W.dct (L.map dkN++[dkN (tp v)]) (L.map (fun t=>rowW n (g t))++[rowW n v])=W.dct (L.map dkN++[dkN (tp v)]) (L.map (fun t=>rowW n (g t))++[rowW n (updF g (tp v) v (tp v))]);rw[g't]
  have pt:=z5x (i:=1) (k:=zae [false] (Ψ "_law_top") (gCns #v[2,4] gA0)) (g:=gVar 2) (en:=[v0,#v[kD n L g,5],#v[rowW n v,6],w3,v4]) (e1:=[v0,#v[kD n L g,5],#v[rowW n v,6],w3,v4]) (ks:=L.map dkN) (ws:=L.map fun t=>rowW n (g t)) (w:=rowW n v) (f:=false) (f2:=false) (u:=.int (tp v:Nat)) (d:=dkN (tp v)) (by simp! []) (by simp! [tv]) rfl rfl (zr5 _ _) (by rw[Aa,Dg];omega);rw[dd] at pt;have pt:zk4 1 (zae [false] (Ψ "_law_top") (gCns #v[2,4] gA0)) (gVar 2) [v0,#v[kD n L g,5],#v[rowW n v,6],w3,v4]=some ([v0,#v[kD n (L++[tp v]) (updF g (tp v) v),5],#v[rowW n v,6],w3,v4],.nx):=pt;have mp:(L++[tp v]).map (updF g (tp v) v)=L.map g++[v]:=by
   rw[Bx,Cj fun t ht=>old t ht];show _++[updF g (tp v) v (tp v)]=_;rw[g't]
  have sS:SpN S (r ^^^ v):=sp.go hs.1;refine⟨L++[tp v],updF g (tp v) v,#v[rowW n v,6],w3,seq_e' l1 ?_,k',fun t ht=>?_,by rw[Bf];exact Ag _,?_⟩
  ·cases o<;>simp! [tv,ge,pt]
  ·rcases Ba.mp ht with ht | ht
   ·rw[old t ht];exact hi t ht
   ·rw[Al.mp ht,g't];exact vl
  ·rw[mp];refine⟨fun b hb=>?_,fun b hb=>?_⟩
   ·rcases Ba.mp hb with hb | hb
    ·exact (hs.1 b hb).go fun x hx=>.one (Br _ hx)
    ·rw[Al.mp hb];refine zjr (v:=r) ?_ (.one (Bh _ (Al.mpr rfl)));rw[Nat.xor_comm];exact sS.go fun x hx=>.one (Br _ hx)
   ·rcases Ba.mp hb with hb | hb
    ·exact (hs.2 b hb).go fun x hx=>.one (Br _ hx)
    ·rw[Al.mp hb];refine zjr (v:=v) ?_ (.one (Bh _ (Al.mpr rfl)));exact sp.go fun x hx=>.one (Br _ hx)
theorem z4u {Ψ:Str->Fn} (hX:LXor (Ψ "_law_xor")) (hT:LTop (Ψ "_law_top")) {n:Nat}{Rs:List Nat} (hn:n<=64) (hl:Rs.length<=50) (hr:∀r∈Rs,r < 2 ^ n):∃(L:List Nat) (g:Nat->Nat) (w2 w3:Option (W × Bool)),zb0 Ψ [some (.lst (Rs.map (rowW n)),false),some (.dct [] [],true),none,none,none]=some ([some (.lst (Rs.map (rowW n)),false),some (kD n L g,true),w2,w3,none],.nx)/\zbr L g/\InN n L g/\L.length<=Rs.length/\Same2 (L.map g) Rs:=by
  unfold zb0;obtain ⟨en',h,L,g,w2,w3,rfl,k1,k2,k3,k4⟩:=zay (mp:=[]) (T:=.nm 2) (it:=zan (gVar 0)) (body:=za6 Ψ) (fun i e=>∃(L:List Nat) (g:Nat->Nat) (w2 w3:Option (W × Bool)),e=[some (.lst (Rs.map (rowW n)),false),some (kD n L g,true),w2,w3,none]/\zbr L g/\InN n L g/\L.length<=i/\Same2 (L.map g) (Rs.take i)) (en:=[some (.lst (Rs.map (rowW n)),false),some (.dct [] [],true),none,none,none]) (e0:=[some (.lst (Rs.map (rowW n)),false),some (.dct [] [],true),none,none,none]) (ws:=Rs.map (rowW n)) (by simp! []) ⟨[],fun _=>0,none,none,rfl,⟨List.nodup_nil,fun t h=>nomatch h⟩,(fun t h=>nomatch h),Ag _,.refl []⟩ fun i w e hw hp=>by
    obtain⟨L,g,w2,w3,rfl,k1,k2,k3,k4⟩:=hp;rw[Am] at hw;cases hri:Rs[i]? with
    | none=>rw[hri] at hw;exact noSome hw
    | some r =>
      rw[hri] at hw;obtain rfl:=sI hw;have li:=(An.mp hri).1;obtain⟨L',g',x2,x3,hb,j1,j2,j3,j4⟩:=z40 (Ψ:=Ψ) hX hT (v0:=#v[(Rs.map (rowW n)),1]) (v3:=w3) (v4:=none) hn k1 k2 #v[] (hr r (At hri)) k4;refine⟨_,_,rfl,.inl hb,L',g',_,_,rfl,j1,j2,by omega,?_⟩;rw[Ct,hri];exact j4
  rw[Aa] at k3 k4;rw[Bp] at k4;exact⟨L,g,w2,w3,h,k1,k2,k3,k4⟩
noncomputable def mixG (L:List Nat) (j t:Nat) (g:Nat->Nat):Nat->Nat:=fun o=>if o∈L.take j then clrS t g o else g o
theorem z9w (L:List Nat)(j t:Nat)(g:Nat->Nat):mixG L j t g t=g t:=by
 unfold mixG clrS;split
 ·exact if_neg fun z=>z.1 rfl
 ·rfl
theorem z6g {Ψ:Str->Fn}(hX:LXor (Ψ "_law_xor")){n t:Nat}{L:List Nat}{g:Nat->Nat}{v0 v2 v4:Option (W × Bool)}(hn:n<=64)(hk:zbr L g)(hi:InN n L g)(hl:L.length<=60)(ht:t∈L):∃w4,zb3 Ψ [v0,#v[kD n L g,5],v2,#v[(t:Nat),0],v4]=some ([v0,#v[kD n L (clrS t g),5],v2,#v[(t:Nat),0],w4],.nx):=by
 have tn:=zu6 hk hi ht;unfold zb3;obtain⟨en',h,w4,rfl⟩:=zay (mp:=[]) (T:=.nm 4) (it:=(zan (gOpN zc7 (gCns (zaa 1) gA0)))) (body:=zb6 Ψ) (fun j e=>∃w4,e=[v0,#v[kD n L (mixG L j t g),5],v2,#v[(t:Nat),0],w4]) (en:=[v0,#v[kD n L g,5],v2,#v[(t:Nat),0],v4]) (e0:=[v0,#v[kD n L g,5],v2,#v[(t:Nat),0],v4]) (ws:=zab L) (by have ld:=zjg n L g;simp! [ld]) ⟨v4,by rw[zii (g':=mixG L 0 t g) fun o ho=>(if_neg (by simp)).symm]⟩ fun j w e hw hp=>by
  obtain⟨w4,rfl⟩:=hp;obtain⟨o,ho,rfl⟩:=zaf hw;have oL:=At ho;have lj:=(An.mp ho).1;have tk:L.take (j+1)=L.take j++[o]:=by rw[Ct,ho];rfl
  have nin:o ∉ L.take j:=fun m=>by
   have nd:=hk.1;rw[<-Bn j L,List.nodup_append] at nd;have hd:o∈L.drop j:=by rw[Bz lj];have:=(An.mp ho).2;rw[this];exact Ak
   exact nd.2.2 o m o hd rfl
  have go:mixG L j t g o=g o:=if_neg nin;have gt:=z9w L j t g;have ka:=zyq (n:=n) (g:=mixG L j t g) oL;have kt:=zyq (n:=n) (g:=mixG L j t g) ht;rw[go] at ka;rw[gt] at kt;have nxt:∀q∈L,q≠o->mixG L (j+1) t g q=mixG L j t g q:=fun q _ ne=>by
   unfold mixG;rw[tk];by_cases m:q∈L.take j
   ·rw[if_pos m,if_pos (Br _ m)]
   ·rw[if_neg m,if_neg fun z=>by rcases Ba.mp z with z | z;exact m z;exact ne (Al.mp z)]
  have nxo:mixG L (j+1) t g o=clrS t g o:=if_pos (by rw[tk];exact Bh _ (Al.mpr rfl));have rs:=znr n (g o);have ra:=row_at (w:=g o) tn;have be:=zeu (g o) t;refine⟨[v0,#v[kD n L (mixG L j t g),5],v2,#v[(t:Nat),0],#v[(o:Nat),0]],[v0,#v[kD n L (mixG L (j+1) t g),5],v2,#v[(t:Nat),0],#v[(o:Nat),0]],rfl,.inl ?_,_,rfl⟩;unfold zb6;by_cases c:o≠t/\(g o).testBit t=true
  ·have cl : clrS t g o = g o ^^^ g t := if_pos c;have d1:(!decide ((o:Int)=(t:Int)))=true:=by rw[Ap (by have:=c.1;omega)];rfl
   rw[c.2] at be;have xr:=hX n (g o) (g t) hn;have pt:=z5x (i:=1) (k:=gVar 4) (g:=(zae [false,false] (Ψ "_law_xor") (gCns (gArg (gOp2 oIxD (zaa 1) (zaa 4))) (gCns (gArg (gOp2 oIxD (zaa 1) (zaa 3))) gA0)))) (en:=[v0,#v[kD n L (mixG L j t g),5],v2,#v[(t:Nat),0],#v[(o:Nat),0]]) (e1:=[v0,#v[kD n L (mixG L j t g),5],v2,#v[(t:Nat),0],#v[(o:Nat),0]]) (ks:=L.map dkN) (ws:=L.map fun t'=>rowW n (mixG L j t g t')) (w:=rowW n (g o ^^^ g t)) (f:=true) (f2:=false) (u:=.int (o:Nat)) (d:=dkN o) (by simp! [ka,kt,xr]) (by simp! []) rfl rfl (zr5 _ _) (by rw[Aa,Dg];omega);have dd:W.dct (zdz (L.map dkN) (dkN o)) (zd4 (L.map dkN) (L.map fun t'=>rowW n (mixG L j t g t')) (dkN o) (rowW n (g o ^^^ g t)))=kD n L (mixG L (j+1) t g):=by
    unfold kD;rw[z2t zf4 oL,z2i zf4 _ _ oL];congr 1;refine Cj fun q hq=>?_;by_cases e:q=o
    ·rw[if_pos e,e,nxo,cl]
    ·rw[if_neg e,nxt q hq e]
   rw[dd] at pt;have pt:zk4 1 (gVar 4) (zae [false,false] (Ψ "_law_xor") (gCns (gArg (gOp2 oIxD (zaa 1) (zaa 4))) (gCns (gArg (gOp2 oIxD (zaa 1) (zaa 3))) gA0))) [v0,#v[kD n L (mixG L j t g),5],v2,#v[(t:Nat),0],#v[(o:Nat),0]]=some ([v0,#v[kD n L (mixG L (j+1) t g),5],v2,#v[(t:Nat),0],#v[(o:Nat),0]],.nx):=pt;simp! [d1,ka,rs,ra,be,pt]
  ·have cl : clrS t g o = g o := if_neg c;have same:kD n L (mixG L (j+1) t g)=kD n L (mixG L j t g):=zii fun q hq=>by
    by_cases e:q=o
    ·rw[e,nxo,cl,go]
    ·exact nxt q hq e
   rw[same];by_cases c1:o=t
   ·have d1 : (!decide ((o : Int) = (t : Int))) = false := by rw[Ah #v[]]; rfl
    simp! [d1]
   ·have d1 : (!decide ((o : Int) = (t : Int))) = true := by rw[Ap #v[]]; rfl
    have c2:(g o).testBit t=false:=by
     cases q:(g o).testBit t with
     | false=>rfl
     | true=>exact absurd ⟨c1,q⟩ c
    rw[c2] at be;simp! [d1,ka,rs,ra,be]
 rw[zac] at h;have fin:kD n L (mixG L L.length t g)=kD n L (clrS t g):=zii fun q hq=>if_pos (by rw[Bp];exact hq);rw[fin] at h;exact⟨_,h⟩
theorem z67 {n t:Nat}{L:List Nat}{g:Nat->Nat}(hi:InN n L g)(ht:t∈L):InN n L (clrS t g):=fun o ho=>by
 unfold clrS;split
 ·exact El (hi o ho) (hi t ht)
 ·exact hi o ho
theorem z49 {Ψ:Str->Fn}(hX:LXor (Ψ "_law_xor")){n:Nat}{L P:List Nat}{g:Nat->Nat}{v0 v2 v3 v4:Option (W × Bool)}(hn:n<=64)(hk:zbr L g)(hi:InN n L g)(hl:L.length<=60)(hp:P.Perm L)(ha:P.Pairwise (· < ·)):∃w3 w4,zca Ψ [v0,#v[kD n L g,5],v2,v3,v4]=some ([v0,#v[kD n L (P.foldl (fun g t=>clrS t g) g),5],v2,w3,w4],.nx)/\InN n L (P.foldl (fun g t=>clrS t g) g):=by
 have ld:=zjg n L g;have so:zbk [.lst (zab L)]=#v[(zab P),2]:=by
  rw[zao];show (za1 ((L.map fun b:Nat=>(b:Int)).map W.int)).bind _=_;rw[zaw];show some (W.lst ((sortI (L.map fun b:Nat=>(b:Int))).map W.int),true)=_;rw[zcv hp ha,<-zao]
 unfold zca;obtain⟨en',h,w3,w4,rfl,k1,k2⟩:=zay (mp:=[]) (T:=.nm 3) (it:=(zan (gOpN zbk (gCns (gArg (gOpN zc7 (gCns (zaa 1) gA0))) gA0)))) (body:=zdc Ψ) (fun i e=>∃w3 w4,e=[v0,some (kD n L ((P.take i).foldl (fun g t=>clrS t g) g),true),v2,w3,w4]/\zbr L ((P.take i).foldl (fun g t=>clrS t g) g)/\InN n L ((P.take i).foldl (fun g t=>clrS t g) g)) (en:=[v0,#v[kD n L g,5],v2,v3,v4]) (e0:=[v0,#v[kD n L g,5],v2,v3,v4]) (ws:=zab P) (by simp! [ld,so]) ⟨v3,v4,rfl,hk,hi⟩ fun i w e hw hq=>by
  obtain⟨w3,w4,rfl,k1,k2⟩:=hq;obtain⟨t,ht,rfl⟩:=zaf hw;have tL:t∈L:=hp.mem_iff.mp (At ht);have e1:(P.take (i+1)).foldl (fun g t=>clrS t g) g=clrS t ((P.take i).foldl (fun g t=>clrS t g) g):=by
   rw[Ct,ht];show (P.take i++[t]).foldl (fun g t=>clrS t g) g=_;rw[Ev];rfl
  rw[e1];generalize (P.take i).foldl (fun g t=>clrS t g) g=f at *
  obtain⟨x4,hb⟩:=z6g (Ψ:=Ψ) hX (v0:=v0) (v2:=v2) (v4:=w4) hn k1 k2 hl tL;exact⟨_,_,rfl,.inl hb,_,_,rfl,(z0r k1 tL).1,z67 k2 tL⟩
 rw[zac,Bp] at h k2;exact⟨_,_,h,k2⟩
theorem z46 {Ψ:Str->Fn}{n:Nat}{L P:List Nat}{g:Nat->Nat}{v0 v2 v3 v4:Option (W × Bool)}(hl:L.length<=60)(hp:P.Perm L)(ha:P.Pairwise (· < ·)):zbx Ψ [v0,#v[kD n L g,5],v2,v3,v4]=some ([v0,#v[kD n L g,5],v2,v3,v4],(.lst ((P.map g).map (rowW n)),true)):=by
 have ld:=zjg n L g;have so:zbk [.lst (zab L)]=#v[(zab P),2]:=by
  rw[zao];show (za1 ((L.map fun b:Nat=>(b:Int)).map W.int)).bind _=_;rw[zaw];show some (W.lst ((sortI (L.map fun b:Nat=>(b:Int))).map W.int),true)=_;rw[zcv hp ha,<-zao]
 unfold zbx;refine zcj (xs:=[#v[kD n L g,5]]) (e0:=[v0,#v[kD n L g,5],v2,v3,v4]) (ws:=zab P) (by simp! [ld,so]) (by rw[zac,hp.length_eq];omega) (by rw[zac,Aa,Aa]) rfl rfl rfl (fun _ _=>rfl) fun i u0 w r hw hr=>?_;obtain⟨t,ht,rfl⟩:=zaf hw;rw[Am,Am,ht] at hr;obtain rfl:=sI hr;have ka:=zyq (n:=n) (g:=g) (hp.mem_iff.mp (At ht));refine⟨#v[(t:Nat),0],false,?_⟩;simp! [ka]
noncomputable def z4q (Φ:Fn):Prop:=∀(n:Nat) (Rs:List Nat),n<=64->Rs.length<=50->(∀r∈Rs,r < 2 ^ n)->∃D:List Nat,Φ [.lst (Rs.map (rowW n))]=some ([.lst (Rs.map (rowW n))],(.lst (D.map (rowW n)),true))/\RB D/\D.Pairwise (· < ·)/\Same2 D Rs/\(∀d∈D,d < 2 ^ n)/\D.length<=Rs.length
theorem z8z {Ψ:Str->Fn}(hX:LXor (Ψ "_law_xor"))(hT:LTop (Ψ "_law_top")):z4q (zal [false] 5 (G__law_reduced Ψ)):=fun n Rs hn hl hr=>by
 obtain⟨L,g,w2,w3,l2,k1,k2,k3,k4⟩:=z4u (Ψ:=Ψ) hX hT hn hl hr;obtain⟨P,hp,ha⟩:=zrf k1.1;obtain⟨x3,x4,l4,i4⟩:=z49 (Ψ:=Ψ) hX (v0:=#v[(Rs.map (rowW n)),1]) (v2:=w2) (v3:=w3) (v4:=none) hn k1 k2 #v[] hp ha;obtain⟨j1,j2,j3⟩:=zvr P g [] k1 (fun t ht=>hp.mem_iff.mp ht) (fun t h=>nomatch h) ha (fun d h=>nomatch h);rw[List.nil_append] at j3;generalize P.foldl (fun g t=>clrS t g) g=f at *
 obtain⟨rb,asc⟩:=zum j1 (fun t=>hp.mem_iff) ha j3;have c5:=z46 (Ψ:=Ψ) (n:=n) (g:=f) (v0:=#v[(Rs.map (rowW n)),1]) (v2:=w2) (v3:=x3) (v4:=x4) #v[] hp ha;refine⟨P.map f,?_,rb,asc,?_,fun d hd=>?_,by rw[Aa,hp.length_eq];exact k3⟩
 ·unfold G__law_reduced;refine zbu (en:=[#v[(Rs.map (rowW n)),1],#v[kD n L f,5],w2,x3,x4]) rfl (seq_e' (e1:=[#v[(Rs.map (rowW n)),1],some (.dct [] [],true),none,none,none]) (zkh (g:=zxi) (e1:=[#v[(Rs.map (rowW n)),1],none,none,none,none]) rfl rfl) (seq_e' l2 (seq_e' l4 ?_))) rfl;simp! [c5]
 ·have s1 : Same2 (P.map f) (L.map f) := .mem fun x => (hp.map f).mem_iff;exact s1.trans (j2.trans k4)
 ·obtain⟨t, ht, rfl⟩ := Az.mp hd;exact i4 t (hp.mem_iff.mp ht)
noncomputable def par:Nat->Nat->Nat->Bool
 | 0,_,_=>false
 | n+1,c,r=>par n c r ^^ (c.testBit n && r.testBit n)
theorem zu0:∀n c r:Nat,(tab n fun i=>bitN c i * bitN r i).sum % 2=if par n c r then 1 else 0
  | 0,c,r=>rfl
  | n+1,c,r=>by
    have e:(tab (n+1) fun i=>bitN c i * bitN r i)=(tab n fun i=>bitN c i * bitN r i)++[bitN c n * bitN r n]:=by
      unfold tab;rw[List.range_succ,Bx];rfl
    have ih:=zu0 n c r;rw[e,List.sum_append,Bb,List.sum_nil];show _=if (par n c r ^^ (c.testBit n && r.testBit n)) then 1 else 0;generalize (tab n fun i=>bitN c i * bitN r i).sum=x at *
    unfold bitN;generalize par n c r=q at *
    generalize c.testBit n=a;generalize r.testBit n=b;cases q<;>cases a<;>cases b<;>simp at ih ⊢<;>omega
theorem ze0:∀n c d r:Nat,par n (c ^^^ d) r=(par n c r ^^ par n d r)
  | 0,_,_,_=>rfl
  | n+1,c,d,r=>by
    show (par n (c ^^^ d) r ^^ ((c ^^^ d).testBit n && r.testBit n))=((par n c r ^^ (c.testBit n && r.testBit n)) ^^ (par n d r ^^ (d.testBit n && r.testBit n)));rw[ze0 n,Bk];cases par n c r<;>cases par n d r<;>cases c.testBit n<;>cases d.testBit n<;>cases r.testBit n<;>rfl
theorem zix:∀n c r:Nat,par n c r=par n r c
  | 0,_,_=>rfl
  | n+1,c,r=>by
    show (par n c r ^^ (c.testBit n && r.testBit n))=(par n r c ^^ (r.testBit n && c.testBit n));rw[zix n,Bool.and_comm]
theorem zjk:∀n r:Nat,par n 0 r=false
  | 0,_=>rfl
  | n+1,r=>by
    show (par n 0 r ^^ ((0:Nat).testBit n && r.testBit n))=false;rw[zjk n,Bo];rfl
theorem zg6:∀n q r:Nat,par n (2 ^ q) r=(decide (q < n) && r.testBit q)
  | 0,q,r=>by rw[Ap (Nat.not_lt_zero q)];rfl
  | n+1,q,r=>by
    show (par n (2 ^ q) r ^^ ((2 ^ q).testBit n && r.testBit n))=_;rw[zg6 n,Nat.testBit_two_pow];by_cases h:q < n
    · rw[Ah h,Ah (show q < n+1 by omega),Ap (show ¬ q=n by omega)];cases r.testBit q<;>rfl
    · by_cases e : q = n
      · subst e;rw[Ap h,Ah (show q=q from rfl),Ah (show q < q+1 by omega)];cases r.testBit q<;>rfl
      · rw[Ap h,Ap e,Ap (show ¬ q < n+1 by omega)];rfl
theorem par_sp {n r v:Nat}{S:List Nat}(hs:∀c∈S,par n c r=false)(h:SpN S v):par n v r=false:=by
 induction h with
 | zero=>exact zjk n r
 | add _ hb ih=>rw[ze0,ih,hs _ hb];rfl
theorem z7o {t v:Nat}{S:List Nat}(hs:∀c∈S,c.testBit t=false)(h:SpN S v):v.testBit t=false:=by
 induction h with
 | zero=>exact Bo t
 | add _ hb ih=>rw[Bk,ih,hs _ hb];rfl
theorem sp_lt {n v:Nat}{S:List Nat}(hs:∀c∈S,c < 2 ^ n)(h:SpN S v):v < 2 ^ n:=by
 induction h with
 | zero=>exact Nat.two_pow_pos n
 | add _ hb ih=>exact El ih (hs _ hb)
noncomputable def sumP:List Nat->Nat
 | []=>0
 | q::M=>2 ^ q ^^^ sumP M
theorem zfo:∀{M:List Nat},M.Nodup->∀i,(sumP M).testBit i=decide (i∈M)
  | [],_,i=>by rw[Ap Cq];exact Bo i
  | q::M,h,i=>by
    obtain⟨h1,h2⟩:=Cm.mp h;show (2 ^ q ^^^ sumP M).testBit i=_;rw[Bk,Nat.testBit_two_pow,zfo h2];by_cases e:q=i
    · subst e;rw[Ah rfl,Ap h1,Ah Ak];rfl
    · rw [Ap e]
      by_cases m:i∈M
      · rw[Ah m,Ah (Aj _ m)];rfl
      · rw[Ap m,Ap fun z=>by rcases Aq.mp z with z | z;exact e z.symm;exact m z];rfl
theorem zmq {n:Nat}:∀{M:List Nat},(∀q∈M,q < n)->sumP M < 2 ^ n
 | [],_=>Nat.two_pow_pos n
 | q::M,h=>El (Nat.pow_lt_pow_right #v[0,9] (h q Ak)) (zmq fun x hx=>h x (Aj _ hx))
noncomputable def tpsL (B:List Nat) (p:Nat):List Nat:=(B.filter fun b=>b.testBit p).map tp
noncomputable def evL (B:List Nat) (p:Nat):List Nat:=p::tpsL B p
noncomputable def evW (B:List Nat) (p:Nat):Nat:=sumP (evL B p)
theorem zo3 (b:Nat)(B:List Nat)(p:Nat):tpsL (b::B) p=if b.testBit p then tp b::tpsL B p else tpsL B p:=by
 unfold tpsL;rw[Ce];split<;>rfl
theorem z7t {n b p:Nat}:∀{B:List Nat},(∀c∈B,b.testBit (tp c)=false)->par n (sumP (tpsL B p)) b=false
  | [],_=>zjk n b
  | c::B,h=>by
    have ih:=z7t (n:=n) (p:=p) fun x hx=>h x (Aj _ hx);rw[zo3];split
    · show par n (2 ^ tp c ^^^ sumP (tpsL B p)) b = false
      rw[ze0,ih,zg6,h c Ak,Eh];rfl
    · exact ih
theorem z8r {n b p:Nat}:∀{B:List Nat},RB B->(∀c∈B,c < 2 ^ n)->b∈B->par n (sumP (tpsL B p)) b=b.testBit p
  | [],_,_,hb=>nomatch hb
  | c::B,h,hn,hb=>by
    have pc:=(Bs.mp h.2).1;rw[zo3];by_cases e:b=c
    · subst e
      have a:=z7t (n:=n) (b:=b) (p:=p) fun x hx=>(pc x hx).1;have bz:=h.1 b Ak;split
      · rename_i z
        have tl:tp b < n:=(Du bz).mpr (hn b Ak);show par n (2 ^ tp b ^^^ sumP (tpsL B p)) b=_;rw[ze0,a,zg6,tp_bit bz,z,Ah tl];rfl
      · rename_i z
        rw[a];cases q:b.testBit p with
        | false=>rfl
        | true=>exact absurd q z
    · have hb : b ∈ B := by rcases Aq.mp hb with z | z; exact absurd z e; exact z
      have ih:=z8r (n:=n) (b:=b) (p:=p) h.tail (fun x hx=>hn x (Aj _ hx)) hb;split
      · show par n (2 ^ tp c ^^^ sumP (tpsL B p)) b = _
        rw[ze0,ih,zg6,(pc b hb).2,Eh,Bool.false_xor]
      · exact ih
theorem par_ev {n b p:Nat}{B:List Nat}(h:RB B)(hn:∀c∈B,c < 2 ^ n)(hp:p < n)(hb:b∈B):par n (evW B p) b=false:=by
 show par n (2 ^ p ^^^ sumP (tpsL B p)) b=false;rw[ze0,zg6,z8r h hn hb,Ah hp,Bool.true_and,Bool.xor_self]
theorem zuo {B:List Nat}(h:RB B):(B.map tp).Nodup:=by
 rw[Gc,Ck];refine h.2.imp_of_mem fun {a b} ha hb q e=>?_;have:=tp_bit (h.1 a ha);rw[e,q.1] at this;exact Af this
theorem tps_sub (B:List Nat)(p:Nat):(tpsL B p).Sublist (B.map tp):=List.Sublist.map _ List.filter_sublist
theorem zjl {B:List Nat}{p:Nat}(h:RB B)(hp:p ∉ B.map tp):(evL B p).Nodup:=Cm.mpr ⟨fun z=>hp ((tps_sub B p).subset z),(zuo h).sublist (tps_sub B p)⟩
noncomputable def noT (n:Nat) (B:List Nat):List Nat:=(List.range n).filter fun p=>!(B.map tp).contains p
theorem zin {n p:Nat}{B:List Nat}:p∈noT n B↔p < n/\p ∉ B.map tp:=by
 unfold noT;rw[Ca,Bj,Bool.not_eq_true',<-Bm,Fu]
theorem noT_len {n:Nat}{B:List Nat}(h:RB B)(hn:∀c∈B,c < 2 ^ n):(noT n B).length+B.length=n:=by
 have pm:((List.range n).filter fun p=>(B.map tp).contains p).Perm (B.map tp):=by
  rw[List.perm_iff_count];intro a;have n1:((List.range n).filter fun p=>(B.map tp).contains p).Nodup:=List.nodup_range.filter _;rw[n1.count,(zuo h).count];have:a∈((List.range n).filter fun p=>(B.map tp).contains p)↔a∈B.map tp:=by
   rw[Ca,Bj,Fu];refine⟨fun z=>z.2,fun z=>⟨?_,z⟩⟩;obtain⟨b,hb,rfl⟩:=Az.mp z;exact (Du (h.1 b hb)).mpr (hn b hb)
  simp only [this]
 have e:=List.length_eq_countP_add_countP (fun p=>(B.map tp).contains p) (l:=List.range n);have l1:=pm.length_eq;rw[Aa,<-List.countP_eq_length_filter] at l1;have l2:(noT n B).length=(List.range n).countP fun a=>decide ¬((B.map tp).contains a=true):=by
  unfold noT;rw[<-List.countP_eq_length_filter];refine List.countP_congr fun a _=>?_;cases (B.map tp).contains a<;>simp
 rw[Cu] at e;omega
theorem z1p (ws:List Nat)(w:Nat):bo (ws++[w])=boS (bo ws) w:=by unfold bo;rw[Ev];rfl
theorem zv5 {B:List Nat} (h:RB B) {P:List Nat} (nd:P.Nodup) (hP:∀p∈P,p ∉ B.map tp):∀i,i<=P.length->(bo ((P.take i).map (evW B))).length=i
  | 0,_=>rfl
  | i+1,hi=>by
    have li:i < P.length:=hi;have ih:=zv5 h nd hP i #v[];have hpi:P[i]?=some P[i]:=Ac li;have dr:P.drop i=P[i]::P.drop (i+1):=Bz li;have tk:P.take (i+1)=P.take i++[P[i]]:=by rw[Ct,hpi];rfl
    rw[<-Bn i P,dr,List.nodup_append] at nd;have ne:=nd.2.2;generalize P[i]=p at *
    have pm:=hP p (At hpi);obtain⟨rb,sm⟩:=zm1 ((P.take i).map (evW B));rw[tk,Bx,Ad,List.map_nil,z1p];generalize bo ((P.take i).map (evW B))=C at *
    have bt:(evW B p).testBit p=true:=by
      unfold evW;rw[zfo (zjl h pm)];exact Ah Ak
    have nz:¬ evW B p ^^^ sel C (evW B p)=0:=fun z=>by
      have e:=zwa z;have s:SpN ((P.take i).map (evW B)) (evW B p):=by
        rw[e];exact (zv7 _ fun b hb=>hb).go sm.1
      have:=z7o (t:=p) (fun c hc=>by
        obtain⟨x,hx,rfl⟩:=Az.mp hc;unfold evW;have xm:=hP x (List.mem_of_mem_take hx);rw[zfo (zjl h xm)];refine Ap fun z=>?_;rcases Aq.mp z with z | z
        · exact ne x hx p Ak z.symm
        · exact pm ((tps_sub B x).subset z)) s
      rw[bt] at this;exact Af this.symm
    unfold boS;rw[if_neg nz,Bf,Aa,ih];rfl
theorem zu5 {B C:List Nat}(h:RB B)(p:C.Perm B):RB C:=⟨fun b hb=>h.1 b (p.mem_iff.mp hb),(p.pairwise_iff (R:=fun a b=>a.testBit (tp b)=false/\b.testBit (tp a)=false) fun {a b} q=>⟨q.2,q.1⟩).mpr h.2⟩
theorem even_ok {n:Nat}{ws B C:List Nat}(hB:RB B)(hs:Same2 B ws)(hb:∀b∈B,b < 2 ^ n)(hC:C.Perm (bo ((noT n B).map (evW B)))):RB C/\(∀c∈C,c < 2 ^ n)/\(∀c∈C,∀w∈ws,par n c w=false)/\C.length+B.length=n:=by
 obtain⟨rb,sm⟩:=zm1 ((noT n B).map (evW B));have tl:∀p∈noT n B,∀q∈evL B p,q < n:=fun p hp q hq=>by
  rcases Aq.mp hq with z | z
  ·rw[z];exact (zin.mp hp).1
  ·obtain⟨b, hm, rfl⟩ := Az.mp ((tps_sub B p).subset z);exact (Du (hB.1 b hm)).mpr (hb b hm)
 have ln:=zv5 hB (P:=noT n B) (List.nodup_range.filter _) (fun p hp=>(zin.mp hp).2) _ (Ag _);rw[Bp] at ln;refine⟨zu5 rb hC,fun c hc=>?_,fun c hc w hw=>?_,?_⟩
 ·refine sp_lt (fun e he => ?_) (sm.1 c (hC.mem_iff.mp hc));obtain⟨p,hp,rfl⟩:=Az.mp he;exact zmq (tl p hp)
 ·refine par_sp (fun e he => ?_) (sm.1 c (hC.mem_iff.mp hc));obtain⟨p,hp,rfl⟩:=Az.mp he;rw[zix];refine par_sp (fun b hm=>?_) (hs.2 w hw);rw[zix];exact par_ev hB hb (zin.mp hp).1 hm
 ·have := noT_len hB hb;rw[hC.length_eq,ln];exact this
theorem z62 {p:Nat}{su:List Nat}:oIn true (.int (p:Nat)) (.lst (zab su))=some (.bl (!su.contains p),false):=by
 have f:(zab su).all zee=true:=by unfold zab;rw[List.all_map,Bg];intro x _;rfl
 have a:((zab su).any fun y=>eqF y (.int (p:Nat)))=su.contains p:=by
  unfold zab;rw[List.any_map,Dj,List.any_eq_true,Fu];constructor
  ·rintro ⟨x, hx, h⟩;have:((x:Int) == (p:Int))=true:=h;have:x=p:=by have:=Bw this;omega
   exact this ▸ hx
  ·intro h;exact⟨p,h,show ((p:Int) == (p:Int))=true from beq_self_eq_true _⟩
 show (if zee (.int (p:Nat)) && (zab su).all zee then some (W.bl (if true then !((zab su).any fun y=>eqF y (.int (p:Nat))) else _),false) else none)=_;rw[f,a];rfl
theorem z66 {xs:List Int}{k:Int}:oIn false (.int k) (.lst (xs.map W.int))=some (.bl (decide (k∈xs)),false):=by
 have f:(xs.map W.int).all zee=true:=by rw[List.all_map,Bg];intro x _;rfl
 have a:((xs.map W.int).any fun y=>eqF y (.int k))=decide (k∈xs):=by
  rw[List.any_map,Dj,List.any_eq_true,Dc];constructor
  ·rintro ⟨x, hx, h⟩;have:decide (x=k)=true:=h;rw[<-As this];exact hx
  ·intro h;exact⟨k,h,(Ah rfl:decide (k=k)=true)⟩
 show (if zee (.int k) && (xs.map W.int).all zee then some (W.bl ((xs.map W.int).any fun y=>eqF y (.int k)),false) else none)=_;rw[f,a];rfl
noncomputable def NoN (Φ:Fn):Prop:=∀(B:List Nat) (n:Nat),(∀b∈B,b≠0)->B.length<=1000->n<=64->Φ [.tup (zab B),.int (n:Nat)]=some ([.tup (zab B),.int (n:Nat)],(.lst (zab (noT n B)),true))
theorem no_n {Ψ:Str->Fn} (hT:TopN (Ψ "top")):NoN (zal [false,false] 3 (zet Ψ)):=fun B n h0 hl hn=>by
  have c1:zew Ψ [some (.tup (zab B),false),some (.int (n:Nat),false),none]=some ([some (.tup (zab B),false),some (.int (n:Nat),false),none],(.lst (zab (B.map tp)),true)):=by
    unfold zew;refine zcj (cap:=[none,none]) (xs:=[]) (e0:=[#v[(zab B),3],#v[(n:Nat),0],none]) (ws:=zab B) (by simp! []) (by rw[zac];exact hl) (by rw[zac,zac,Aa]) rfl rfl rfl (fun _ _=>rfl) fun i u w r hw hr=>?_;obtain⟨b,hb,rfl⟩:=zaf hw;obtain⟨c,hc,rfl⟩:=zaf hr;rw[Am,hb] at hc;obtain rfl:=sI hc;have e:=hT b (h0 b (At hb));refine⟨#v[(b:Nat),0],false,?_⟩;simp! [e]
  have c2:ze4 Ψ [some (.tup (zab B),false),some (.int (n:Nat),false),some (.lst (zab (B.map tp)),true)]=some ([some (.tup (zab B),false),some (.int (n:Nat),false),some (.lst (zab (B.map tp)),true)],(.lst (zab (noT n B)),true)):=by
    unfold ze4;obtain ⟨ce',out,hc,⟨u0,u1,rfl⟩,rfl⟩:=zdj (cap:=[none,none,some 2]) (T:=.nm 1) (tc:=zai (gOp2 (oIn true) (zaa 1) (zaa 2))) (te:=gVar 1) (fun i c dn=>(∃u0 u1,c=[u0,u1,some (.lst (zab (B.map tp)),true)])/\dn=zab (noT i B)) (zn3 (a:=zaa 1) (en:=[some (.tup (zab B),false),some (.int (n:Nat),false),some (.lst (zab (B.map tp)),true)]) (e1:=[some (.tup (zab B),false),some (.int (n:Nat),false),some (.lst (zab (B.map tp)),true)]) (n:=n) rfl (by omega)) rfl (by rw [zdm,Dg];omega) ⟨⟨_,_,rfl⟩,rfl⟩ fun i x c dn hx hp=>by
      obtain ⟨⟨u0,u1,rfl⟩,rfl⟩:=hp;obtain ⟨li,rfl⟩:=zef hx;rw [show ((0:Int)+(i:Int))=((i:Nat):Int) by omega];have ii:=z62 (p:=i) (su:=B.map tp);have st:noT (i+1) B=noT i B++if (!(B.map tp).contains i)=true then [i] else []:=by
        unfold noT;rw[List.range_succ,Gd,Ce,List.filter_nil]
      refine⟨[u0,#v[(i:Nat),0],#v[(zab (B.map tp)),2]],rfl,?_⟩;cases q:(!(B.map tp).contains i) with
      | true =>
        rw[q] at ii;refine .inl ⟨[u0,#v[(i:Nat),0],#v[(zab (B.map tp)),2]],[u0,#v[(i:Nat),0],#v[(zab (B.map tp)),2]],(.int (i:Nat),false),by simp! [ii],by simp! [],⟨_,_,rfl⟩,?_⟩;rw[st,q,if_pos rfl,zdo]
      | false =>
        rw[q] at ii;refine .inr ⟨[u0,#v[(i:Nat),0],#v[(zab (B.map tp)),2]],by simp! [ii],⟨_,_,rfl⟩,?_⟩;rw[st,q,if_neg Af,Bt]
    rw[zdm] at hc;exact hc
  unfold zet;refine zbu (en:=[#v[(zab B),3],#v[(n:Nat),0],#v[(zab (B.map tp)),2]]) rfl (seq_e' (e1:=[#v[(zab B),3],#v[(n:Nat),0],#v[(zab (B.map tp)),2]]) (by simp! [c1]) (by simp! [c2])) rfl
noncomputable def EAt (Φ:Fn):Prop:=∀(B:List Nat) (n p:Nat),RB B->(∀b∈B,b < 2 ^ n)->n<=64->B.length<=1000->p < n->p ∉ B.map tp->Φ [.tup (zab B),.int (p:Nat)]=some ([.tup (zab B),.int (p:Nat)],(.int (evW B p:Nat),false))
theorem z9u {Ψ:Str->Fn} (hS:zyo (Ψ "says")) (hT:TopN (Ψ "top")) (hA:zti (Ψ "word_at")):EAt (zal [false,false] 2 (zd8 Ψ)):=fun B n p hB hb hn hl hp pm=>by
  have c1:ze1 Ψ [some (.tup (zab B),false),some (.int (p:Nat),false)]=some ([some (.tup (zab B),false),some (.int (p:Nat),false)],(.lst (zab (tpsL B p)),true)):=by
    unfold ze1;obtain ⟨ce',out,hc,⟨u0,u1,rfl⟩,rfl⟩:=zdj (cap:=[none,none,some 1]) (T:=.nm 1) (it:=zan (gVar 0)) (tc:=(zai (gOp2 oEq (gArg (zae [false,false] (Ψ "says") (gCns (gArg (gVar 1)) (gCns (gArg (gVar 2)) gA0)))) (gArg (gC (.int 1)))))) (te:=(zae [false] (Ψ "top") (gCns (gArg (gVar 1)) gA0))) (fun i c dn=>(∃u0 u1,c=[u0,u1,some (.int (p:Nat),false)])/\dn=zab (tpsL (B.take i) p)) (en:=[some (.tup (zab B),false),some (.int (p:Nat),false)]) (e0:=[some (.tup (zab B),false),some (.int (p:Nat),false)]) (ws:=zab B) (by simp! []) rfl (by rw [zac,Dg];omega) ⟨⟨_,_,rfl⟩,rfl⟩ fun i x c dn hx hp=>by
      obtain ⟨⟨u0,u1,rfl⟩,rfl⟩:=hp;obtain ⟨b,hbi,rfl⟩:=zaf hx;have bz:=hB.1 b (At hbi);have e1:=hS b p;have e2:=hT b bz;have be:=zeu b p;have st:tpsL (B.take (i+1)) p=tpsL (B.take i) p++if b.testBit p then [tp b] else []:=by
        unfold tpsL;rw[Ct,hbi];show ((B.take i++[b]).filter _).map tp=_;rw[Gd,Ce,List.filter_nil,Bx];cases b.testBit p<;>rfl
      refine⟨[u0,#v[(b:Nat),0],#v[(p:Nat),0]],rfl,?_⟩;cases q:b.testBit p with
      | true =>
        rw[q] at be;refine .inl ⟨[u0,#v[(b:Nat),0],#v[(p:Nat),0]],[u0,#v[(b:Nat),0],#v[(p:Nat),0]],(.int (tp b:Nat),false),by simp! [e1,be],by simp! [e2],⟨_,_,rfl⟩,?_⟩;rw[st,q,if_pos rfl,zdo]
      | false =>
        rw[q] at be;refine .inr ⟨[u0,#v[(b:Nat),0],#v[(p:Nat),0]],by simp! [e1,be],⟨_,_,rfl⟩,?_⟩;rw[st,q,if_neg Af,Bt]
    rw[zac,Bp] at hc;exact hc
  have tl:(tpsL B p).length<=1000:=by have:=(tps_sub B p).length_le;rw[Aa] at this;omega
  have ad:oAdd (.lst [.int (p:Nat)]) (.lst (zab (tpsL B p)))=some (.lst (zab (evL B p)),true):=by
    rw[zje (by rw[zac,Dg];show 1+_<=_;omega)];rfl
  have wa:=hA n (evL B p) hn fun q hq=>by
    rcases Aq.mp hq with z | z
    · rw[z];exact hp
    · obtain ⟨b, hm, rfl⟩ := Az.mp ((tps_sub B p).subset z)
      exact (Du (hB.1 b hm)).mpr (hb b hm)
  have wl:evW B p < 2 ^ n:=zmq fun q hq=>by
    rcases Aq.mp hq with z | z
    · rw[z];exact hp
    · obtain ⟨b, hm, rfl⟩ := Az.mp ((tps_sub B p).subset z)
      exact (Du (hB.1 b hm)).mpr (hb b hm)
  rw [zb7 (g:=bitN (evW B p)) fun i _=>by
    unfold bitN evW;rw[zfo (zjl hB pm)];by_cases m:i∈evL B p
    · rw[if_pos m,Ah m];rfl
    · rw[if_neg m,Ap m];rfl,zby n _ wl] at wa
  unfold zd8;simp! [c1,ad,wa]
noncomputable def z8h (Φ:Fn):Prop:=∀(ws:List Nat) (x:W),(x=.lst (zab ws)\/x=.tup (zab ws))->ws.length<=200->∃B:List Nat,Φ [x]=some ([x],(.tup (zab B),false))/\B.Perm (bo ws)/\B.Pairwise (· < ·)
theorem z6j {Φ:Fn}(h:z7x Φ):z8h Φ:=fun ws x hx hl=>by
 obtain⟨B,p,a⟩:=zrf (zm1 ws).1.nodup;have e:=h ws x hx hl;rw[zcv p a,<-zao] at e;exact⟨B,e,p,a⟩
theorem z9q (ws:List Nat):(bo ws).length<=ws.length:=by
 have:=ztx ws []
 rwa [List.length_nil,Co] at this
noncomputable def z5p (Φ:Fn):Prop:=∀(m:Nat) (ws:List Nat),m<=6->ws.length<=100->(∀w∈ws,w < 2 ^ 2 ^ m)->∃B C:List Nat,Φ [.int (m:Nat),.tup (zab ws)]=some ([.int (m:Nat),.tup (zab ws)],(.tup (zab C),false))/\B.Perm (bo ws)/\C.Perm (bo ((noT (2 ^ m) B).map (evW B)))/\C.Pairwise (· < ·)/\RB C/\(∀c∈C,c < 2 ^ 2 ^ m)/\(∀c∈C,∀w∈ws,par (2 ^ m) c w=false)/\C.length+(bo ws).length=2 ^ m
theorem z7u {Ψ:Str->Fn}(hB:z8h (Ψ "base_of"))(hN:NoN (Ψ "no_tops"))(hE:EAt (Ψ "even_at")):z5p (zal [false,false] 3 (zcu Ψ)):=fun m ws hm hl hw=>by
 have p6:=zd6 hm;have pw:=pow1 (l:=m) #v[];have om:=zbj m;obtain⟨B,e1,b1,b2⟩:=hB ws (.tup (zab ws)) (.inr rfl) #v[];obtain⟨rb,sm⟩:=zm1 ws;have rB:=zu5 rb b1;have sB:Same2 B ws:=(Same2.mem fun x=>b1.mem_iff).trans sm;have lB:B.length<=100:=by have:=z9q ws;rw[b1.length_eq];omega
 have ltB:∀b∈B,b < 2 ^ 2 ^ m:=fun b hb=>sp_lt hw (sB.1 b hb);generalize hnm:2 ^ m=n at *
 have nl:(noT n B).length<=n:=by have:=noT_len rB ltB;omega
 obtain⟨C,e2,c1,c2⟩:=hB ((noT n B).map (evW B)) (.lst (zab ((noT n B).map (evW B)))) (.inl rfl) (by rw[Aa];omega);obtain⟨k1,k2,k3,k4⟩:=even_ok rB sB ltB c1;refine⟨B,C,?_,b1,c1,c2,k1,k2,k3,by rw[<-b1.length_eq];exact k4⟩;have no:=hN B n rB.1 #v[] p6;have cc:zdd Ψ [#v[(m:Nat),0],#v[(zab ws),3],#v[(zab B),3]]=some ([#v[(m:Nat),0],#v[(zab ws),3],#v[(zab B),3]],(.lst (zab ((noT n B).map (evW B))),true)):=by
  unfold zdd;refine zcj (cap:=[none,none,some 2]) (xs:=[#v[(zab B),3]]) (e0:=[#v[(m:Nat),0],#v[(zab ws),3],#v[(zab B),3]]) (ws:=zab (noT n B)) (by simp! [pw,om,no]) (by rw[zac];omega) (by rw[zac,zac,Aa]) rfl rfl rfl (fun _ _=>rfl) fun i u w r hw hr=>?_;obtain⟨p,hp,rfl⟩:=zaf hw;obtain⟨c,hc,rfl⟩:=zaf hr;rw[Am,hp] at hc;obtain rfl:=sI hc;obtain⟨q1,q2⟩:=zin.mp (At hp);have e:=hE B n p rB ltB p6 #v[] q1 q2;refine⟨#v[(p:Nat),0],false,?_⟩;simp! [e]
 unfold zcu;refine zbu (en:=[#v[(m:Nat),0],#v[(zab ws),3],#v[(zab B),3]]) rfl (seq_e' (e1:=[#v[(m:Nat),0],#v[(zab ws),3],#v[(zab B),3]]) (by simp! [e1]) (by simp! [cc,e2])) rfl
theorem z3y (xs:List Int):oNe (.lst (xs.map W.int)) (.lst (xs.map W.int))=some (.bl false,false):=by
 have e1:dW (.lst (xs.map W.int))=some (.list (xs.map .int)):=by rw[dW,zgt W.int .int (fun _=>by rw[dW]) xs];rfl
 have cl:(PyData.list (xs.map .int)).canLay0=true:=by
  rw[PyData.canLay0];exact zcl _ _ fun x _=>by rw[PyData.canLay0]
 have dp:(PyData.list (xs.map .int)).depth<=100:=by
  rw[PyData.depth];have:=depAll_map (c:=0) PyData.int xs fun x _=>by rw[PyData.depth];exact Ag _
  omega
 have eq:eqD (.lst (xs.map W.int)) (.lst (xs.map W.int))=some true:=by
  unfold eqD;rw[e1];show (if (PyData.list (xs.map .int)).canLay0 && (PyData.list (xs.map .int)).canLay0 && decide ((PyData.list (xs.map .int)).depth<=100) then some (PyData.eqv (.list (xs.map .int)) (.list (xs.map .int))) else none)=_;rw[cl,Ah dp];show some (PyData.eqv (.list (xs.map .int)) (.list (xs.map .int)))=_;rw[PyData.eqv,PySem.W.ked_eqvAll,Ah rfl]
 show (eqD _ _).bind _=_;rw[eq];rfl
theorem z6v {C:List Nat}(h:RB C)(ha:C.Pairwise (· < ·)):(C.map tp).Pairwise (· < ·):=by
 rw[Ck];refine (ha.and h.2).imp_of_mem fun {a b} ma mb q=>?_;obtain⟨q1,q2,q3⟩:=q;have za:=h.1 a ma;have zb:=h.1 b mb;rcases Nat.lt_trichotomy (tp a) (tp b) with z | z | z
 ·exact z
 ·have := tp_bit za;rw[z,q2] at this;exact absurd this Af
 ·exfalso;have a1:2 ^ tp a<=a:=Nat.log2_self_le za;have b1:b < 2 ^ tp a:=(Du zb).mp z;omega
noncomputable def IsB (Φ:Fn):Prop:=∀(n:Nat) (C:List Nat),n<=64->RB C->C.Pairwise (· < ·)->(∀c∈C,c < 2 ^ n)->C.length<=100->Φ [.lst (C.map (rowW n))]=some ([.lst (C.map (rowW n))],(.bl true,false))
theorem yap {Ψ:Str->Fn} (hT:LTop (Ψ "_law_top")):IsB (zal [false] 4 (zbp Ψ)):=fun n C hn hC ha hc hl=>by
  have s9:(1000:Nat)<=sizeLine:=by decide
  have top:∀c∈C,Ψ "_law_top" [rowW n c]=some ([rowW n c],(.int (tp c:Nat),false)):=fun c m=>by
    have:=hT n c hn (hc c m)
    rwa [show topI c=(tp c:Nat) from if_neg (hC.1 c m)] at this
  have c1:zbz Ψ [some (.lst (C.map (rowW n)),false),none,none,none]=some ([some (.lst (C.map (rowW n)),false),none,none,none],(.lst (zab (C.map tp)),true)):=by
    unfold zbz;refine zcj (cap:=[none,none]) (xs:=[]) (e0:=[#v[(C.map (rowW n)),1],none,none,none]) (ws:=C.map (rowW n)) (by simp! []) (by rw[Aa];omega) (by rw[zac,Aa,Aa]) rfl rfl rfl (fun _ _=>rfl) fun i u w r hw hr=>?_;obtain⟨t,ht,rfl⟩:=zaf hr;rw[Am] at hw ht;cases hci:C[i]? with
    | none=>rw[hci] at hw;exact noSome hw
    | some c =>
      rw[hci] at hw ht;obtain rfl:=sI hw;obtain rfl:=sI ht;have e:=top c (At hci);refine⟨#v[rowW n c,6],false,?_⟩;simp! [e]
  have i1:oIn false (.int (-1)) (.lst (zab (C.map tp)))=some (.bl false,false):=by
    rw[zao,z66,Ap fun z=>by obtain⟨x,_,e⟩:=Az.mp z;omega]
  have so:zbk [.lst (zab (C.map tp))]=some (.lst (zab (C.map tp)),true):=by
    rw[zao];show (za1 (((C.map tp).map fun b:Nat=>(b:Int)).map W.int)).bind _=_;rw[zaw];show some (W.lst ((sortI ((C.map tp).map fun b:Nat=>(b:Int))).map W.int),true)=_;rw[zcv (List.Perm.refl _) (z6v hC ha)]
  have nn:oNe (.lst (zab (C.map tp))) (.lst (zab (C.map tp)))=some (.bl false,false):=by rw[zao];exact z3y _
  have l3:∃o w2 w3,zb9 Ψ [some (.lst (C.map (rowW n)),false),some (.lst (zab (C.map tp)),true),none,none]=some ([some (.lst (C.map (rowW n)),false),some (.lst (zab (C.map tp)),o),w2,w3],.nx):=by
    unfold zb9;obtain ⟨en',h,o,w2,w3,rfl⟩:=zay (mp:=[]) (T:=.tp [2,3]) (it:=zfh (gVar 0)) (body:=zb2 Ψ) (fun _ e=>∃o w2 w3,e=[some (.lst (C.map (rowW n)),false),some (.lst (zab (C.map tp)),o),w2,w3]) (en:=[some (.lst (C.map (rowW n)),false),some (.lst (zab (C.map tp)),true),none,none]) (e0:=[some (.lst (C.map (rowW n)),false),some (.lst (zab (C.map tp)),true),none,none]) (ws:=zdx (C.map (rowW n)) 0) rfl ⟨_,_,_,rfl⟩ fun k x e hx hp=>by
      obtain⟨o,w2,w3,rfl⟩:=hp;have lk:k < C.length:=by have:=(An.mp hx).1;rwa [za9,Aa] at this
      have hck:C[k]?=some C[k]:=Ac lk;have ex:=zdb (ws:=C.map (rowW n)) (k:=0) (i:=k) (w:=rowW n C[k]) (by rw[Am,hck];rfl);rw[hx,Co] at ex;obtain rfl:=sI ex;generalize C[k]=c at *
      have cm:=At hck;have c2:∃j,zb4 Ψ [some (.lst (C.map (rowW n)),false),some (.lst (zab (C.map tp)),o),some (.int (k:Nat),false),some (rowW n c,false)]=some ([some (.lst (C.map (rowW n)),false),some (.lst (zab (C.map tp)),false),some (.int (k:Nat),false),some (rowW n c,false)],(.lst ((List.replicate j false).map W.bl),true)):=by
        unfold zb4;have le:(zdx (zab (C.map tp)) 0).length=C.length:=by rw[za9,zac,Aa]
        obtain ⟨ce',out,hcc,⟨u0,u1,u2,rfl⟩,j,rfl⟩:=zdj (cap:=[none,none,none,some 2,some 3]) (T:=.tp [1,2]) (it:=zfh (gVar 1)) (tc:=(zai (gOp2 oNe (zaa 1) (zaa 3)))) (te:=(gOp2 oEq (gArg (gOp2 oIx (zaa 4) (zaa 2))) (gArg (gC (.int 1))))) (fun i c' dn=>(∃u0 u1 u2,c'=[u0,u1,u2,some (.int (k:Nat),false),some (rowW n c,false)])/\∃j,dn=(List.replicate j false).map W.bl) (en:=[some (.lst (C.map (rowW n)),false),some (.lst (zab (C.map tp)),o),some (.int (k:Nat),false),some (rowW n c,false)]) (e0:=[some (.lst (C.map (rowW n)),false),some (.lst (zab (C.map tp)),false),some (.int (k:Nat),false),some (rowW n c,false)]) (ws:=zdx (zab (C.map tp)) 0) (by cases o<;>rfl) rfl (by rw [le];omega) ⟨⟨_,_,_,rfl⟩,0,rfl⟩ fun i x c' dn hx hp=>by
          obtain⟨⟨u0,u1,u2,rfl⟩,j,rfl⟩:=hp;rw[zao] at hx;obtain⟨li,rfl⟩:=zic hx;rw[Aa,Aa] at li;have hbi:C[i]?=some C[i]:=Ac li;rw[List.getElem_map,List.getElem_map];generalize C[i]=b at *
          have bm:=At hbi;have tn:tp b < n:=(Du (hC.1 b bm)).mpr (hc b bm);refine⟨[u0,#v[(i:Nat),0],#v[(tp b:Nat),0],#v[(k:Nat),0],#v[rowW n c,6]],rfl,?_⟩;by_cases z:i=k
          · have dz : (!decide ((i : Int) = (k : Int))) = false := by rw [Ah (by omega)]; rfl
            exact .inr ⟨[u0,#v[(i:Nat),0],#v[(tp b:Nat),0],#v[(k:Nat),0],#v[rowW n c,6]],by simp! [dz],⟨_,_,_,rfl⟩,j,rfl⟩
          · have dz : (!decide ((i : Int) = (k : Int))) = true := by rw [Ap (by omega)]; rfl
            have ne:c≠b:=fun e=>by
              subst e;exact z ((List.getElem?_inj #v[] hC.nodup).mp (hbi.trans hck.symm))
            have bf:=hC.two cm bm ne;have be:=zeu c (tp b);rw[bf] at be;have rs:=znr n c;have ra:=row_at (w:=c) tn;refine .inl ⟨[u0,#v[(i:Nat),0],#v[(tp b:Nat),0],#v[(k:Nat),0],#v[rowW n c,6]],[u0,#v[(i:Nat),0],#v[(tp b:Nat),0],#v[(k:Nat),0],#v[rowW n c,6]],(.bl false,false),by simp! [dz],by simp! [rs,ra,be],⟨_,_,_,rfl⟩,j+1,?_⟩;rw[List.replicate_succ',Bx];rfl
        exact⟨j,hcc⟩
      obtain ⟨j,c2⟩:=c2;have an:((List.replicate j false).any id)=false:=by
        rw[List.any_eq_false];intro x hx;rw[List.eq_of_mem_replicate hx];exact Af
      have ba:=zpk (f:=fun bs=>bs.any id) (bs:=List.replicate j false);rw[an] at ba;refine⟨[#v[(C.map (rowW n)),1],some (.lst (zab (C.map tp)),o),#v[(k:Nat),0],#v[rowW n c,6]],[#v[(C.map (rowW n)),1],#v[(zab (C.map tp)),1],#v[(k:Nat),0],#v[rowW n c,6]],rfl,.inl ?_,_,_,_,rfl⟩;unfold zb2;simp! [c2,ba]
    exact⟨_,_,_,h⟩
  obtain⟨o,w2,w3,l3⟩:=l3;unfold zbp;refine zbu (en:=[#v[(C.map (rowW n)),1],some (.lst (zab (C.map tp)),o),w2,w3]) rfl (seq_e' (e1:=[#v[(C.map (rowW n)),1],#v[(zab (C.map tp)),2],none,none]) (by simp! [c1]) (seq_e' (e1:=[#v[(C.map (rowW n)),1],#v[(zab (C.map tp)),2],none,none]) (by simp! [i1,so,nn]) (seq_e' l3 (by simp! [])))) rfl
structure Fns (Ψ:Str->Fn):Prop where
 hK:ze9 (Ψ "_law_take")
 hR:zzv (Ψ "_law_rows")
 hD:z4q (Ψ "_law_reduced")
 hW:zof (Ψ "_law_word")
 hE:z5p (Ψ "even_with")
 hB:IsB (Ψ "_law_is_base")
 hS:z54 (Ψ "_law_same")
theorem zw9 {Φ:Fn}(h:zof Φ){n w:Nat}(hw:w < 2 ^ n):Φ [rowW n w]=some ([rowW n w],(.int (w:Nat),false)):=by
 have:=h (tab n (bitN w));rw[zby n w hw] at this;exact this
theorem zqn {Ψ:Str->Fn}(hW:zof (Ψ "_law_word")){it:GL}{en e0:En}{n:Nat}{D:List Nat}(hi:it en=some (e0,D.map (rowW n)))(hl:D.length<=1000)(hD:∀d∈D,d < 2 ^ n)(hb:∀v0 v1,za8 [none,none] e0 [v0,v1]=e0):zbf [none,none] (.nm 1) it gYes (zae [false] (Ψ "_law_word") (gCns #v[1,4] gA0)) en=some (e0,(.lst (zab D),true)):=by
 refine zcj (cap:=[none,none]) (xs:=[]) hi (by rw[Aa];exact hl) (by rw[zac,Aa]) rfl rfl rfl hb fun i u w r hw hr=>?_;obtain⟨d,hd,rfl⟩:=zaf hr;rw[Am,hd] at hw;obtain rfl:=sI hw;have e:=zw9 hW (hD d (At hd));refine⟨#v[rowW n d,6],false,?_⟩;simp! [e]
theorem z8m {C:List Nat}{i:Nat}{r:W}(h:((C.map fun _=>true).map W.bl)[i]?=some r):r=.bl true:=by
 rw[Dd,Am] at h;cases q:C[i]? with
 | none=>rw[q] at h;exact noSome h
 | some c=>rw[q] at h;exact (sI h).symm
theorem zs4 (C:List Nat):oBl (fun bs=>bs.all id) [.lst ((C.map fun _=>true).map W.bl)]=some (.bl true,false):=by
 rw[zpk];have:((C.map fun _=>true).all id)=true:=by rw[List.all_map,Bg];exact fun _ _=>rfl
 rw[this]
theorem z82 {Ψ:Str->Fn}{n c:Nat}{Rs:List Nat}{v0 v1 v2 v3 v5 v6:Option (W × Bool)} (hn:n<=64) (hl:Rs.length<=100) (hp:∀r∈Rs,par n c r=false):zpy Ψ [v0,v1,v2,v3,some (.lst (Rs.map (rowW n)),false),v5,v6,some (rowW n c,false)]=some ([v0,v1,v2,v3,some (.lst (Rs.map (rowW n)),false),v5,v6,some (rowW n c,false)],.nx):=by
  have c7:ztt Ψ [v0,v1,v2,v3,some (.lst (Rs.map (rowW n)),false),v5,v6,some (rowW n c,false)]=some ([v0,v1,v2,v3,some (.lst (Rs.map (rowW n)),false),v5,v6,some (rowW n c,false)],(.lst ((Rs.map fun _=>false).map W.bl),true)):=by
    unfold ztt;refine zcj (cap:=[none,none,some 7]) (xs:=[#v[rowW n c,6]]) (e0:=[v0,v1,v2,v3,#v[(Rs.map (rowW n)),1],v5,v6,#v[rowW n c,6]]) (ws:=Rs.map (rowW n)) (by simp! []) (by rw[Aa];omega) (by rw[Aa,Aa,Aa]) rfl rfl rfl (fun _ _=>rfl) fun i u w r hw hr=>?_;rw[Am] at hw;rw[Dd,Am] at hr;cases hci:Rs[i]? with
    | none=>rw[hci] at hw;exact noSome hw
    | some q =>
      rw [hci] at hw hr;obtain rfl:=sI hw;have hr:W.bl false=r:=sI hr;subst hr;have c6:zsw Ψ [u,some (rowW n q,false),some (rowW n c,false)]=some ([u,some (rowW n q,false),some (rowW n c,false)],(.lst ((tab n fun i=>bitN c i * bitN q i).map W.int),true)):=by
        unfold zsw;have:=zoz (it:=gZip (gVar 2) (gVar 1)) (te:=(gOp2 oMult (zaa 1) (zaa 2))) (en:=[u,some (rowW n q,false),some (rowW n c,false)]) (e0:=[u,some (rowW n q,false),some (rowW n c,false)]) (xs:=tab n (bitN c)) (ys:=tab n (bitN q)) (f:=fun a b=>a * b) rfl (by rw [zaq];omega) fun v0 x y hx _=>by
          have bx:Bit x:=by
            unfold tab at hx;obtain⟨i,_,rfl⟩:=Az.mp hx;exact zfm c i
          have ml:=oMult_l (i:=x) (j:=y) (by rcases bx with e | e<;>rw[e]<;>decide) (by rcases bx with e | e<;>rw[e]<;>decide);simp! [ml]
        rw[zi5] at this;exact this
      have su:=z6x (tab n fun i=>bitN c i * bitN q i);have ps:=zu0 n c q;rw[hp q (At hci)] at ps;have d:decide ((tab n fun i=>bitN c i * bitN q i).sum % 2=1)=false:=Ap fun z=>by rw[ps] at z;cases z
      refine⟨#v[rowW n q,6],false,?_⟩;simp! [c6,su,d]
  have an:((Rs.map fun _=>false).any id)=false:=by
    rw[List.any_map,List.any_eq_false];exact fun _ _=>Af
  have ba:=zpk (f:=fun bs=>bs.any id) (bs:=Rs.map fun _=>false);rw[an] at ba;unfold zpy;simp! [c7,ba]
theorem z87 {Ψ:Str->Fn}{n:Nat}{C Rs:List Nat}{v0 v1 v2 v3 v5 v7:Option (W × Bool)}{o:Bool} (hn:n<=64) (hl:Rs.length<=100) (hp:∀c∈C,∀r∈Rs,par n c r=false):∃w7,zsc Ψ [v0,v1,v2,v3,some (.lst (Rs.map (rowW n)),false),v5,some (.lst (C.map (rowW n)),o),v7]=some ([v0,v1,v2,v3,some (.lst (Rs.map (rowW n)),false),v5,some (.lst (C.map (rowW n)),false),w7],.nx):=by
  unfold zsc;obtain ⟨en',h,w7,rfl⟩:=zay (mp:=[]) (T:=.nm 7) (it:=zan (gVar 6)) (body:=zpy Ψ) (fun _ e=>∃w7,e=[v0,v1,v2,v3,some (.lst (Rs.map (rowW n)),false),v5,some (.lst (C.map (rowW n)),false),w7]) (en:=[v0,v1,v2,v3,some (.lst (Rs.map (rowW n)),false),v5,some (.lst (C.map (rowW n)),o),v7]) (e0:=[v0,v1,v2,v3,some (.lst (Rs.map (rowW n)),false),v5,some (.lst (C.map (rowW n)),false),v7]) (ws:=C.map (rowW n)) (by cases o<;>simp! []) ⟨v7,rfl⟩ fun i w e hw hq=>by
    obtain⟨w7,rfl⟩:=hq;rw[Am] at hw;cases hci:C[i]? with
    | none=>rw[hci] at hw;exact noSome hw
    | some c =>
      rw[hci] at hw;obtain rfl:=sI hw;exact⟨_,_,rfl,.inl (z82 hn hl (hp c (At hci))),_,rfl⟩
  exact⟨_,h⟩
theorem z8k {Ψ:Str->Fn}{m:Nat}{C:List Nat}{v0 v1 v2 v4 v6 v7:Option (W × Bool)}(hm:m<=6)(hl:C.length<=100):zt4 Ψ [v0,v1,v2,#v[(m:Nat),0],v4,#v[(zab C),3],v6,v7]=some ([v0,v1,v2,#v[(m:Nat),0],v4,#v[(zab C),3],v6,v7],(.lst (C.map (rowW (2 ^ m))),true)):=by
 have p6:=zd6 hm;have pw:=pow1 (l:=m) #v[];have om:=zbj m;unfold zt4;refine zcj (cap:=[none,none,some 3]) (xs:=[#v[(m:Nat),0]]) (e0:=[v0,v1,v2,#v[(m:Nat),0],v4,#v[(zab C),3],v6,v7]) (ws:=zab C) (by simp! []) (by rw[zac];omega) (by rw[zac,Aa]) rfl rfl rfl (fun _ _=>rfl) fun i u w r hw hr=>?_;obtain⟨c,hc,rfl⟩:=zaf hw;rw[Am,hc] at hr;obtain rfl:=sI hr;refine⟨#v[(c:Nat),0],true,?_⟩;unfold zzs;have rg:=zn3 (a:=(gArg (gOp2 #v[0,0,1] #v[1] (zaa 2)))) (en:=[u,#v[(c:Nat),0],#v[(m:Nat),0]]) (e1:=[u,#v[(c:Nat),0],#v[(m:Nat),0]]) (n:=2 ^ m) (by simp! [pw,om]) #v[];refine zcj (cap:=[none,none,some 1]) (xs:=[#v[(c:Nat),0]]) rg (by rw[zdm];omega) (by rw[zdm,Aa,zaq]) rfl rfl rfl (fun _ _=>rfl) fun i u w r hw hr=>?_;obtain⟨li,rfl⟩:=zef hw;rw[show ((0:Int)+(i:Int))=((i:Nat):Int) by omega];rw[zob li] at hr;obtain rfl:=sI hr;have pi:=pow1 (l:=i) #v[];have oi:=zbj i;have dv:=divP (p:=(c:Int)) (l:=i) #v[];have bv:(c:Int) / ((2 ^ i:Nat):Int) % 2=bitN c i:=by
  unfold bitN;rw[Nat.testBit_eq_decide_div_mod_eq];by_cases z:c / 2 ^ i % 2=1
  ·rw[Ah z,if_pos rfl];omega
  ·rw[Ap z,if_neg Af];omega
 refine⟨#v[(i:Nat),0],false,?_⟩;simp! [pi,oi,dv,bv]
theorem z4m {Ψ:Str->Fn}(F:Fns Ψ){k:Nat}{st:W}{v0 v2 v3 v4 v5 v6 v7:Option (W × Bool)}(hs:HS k st)(hk:k+4000 < big):∃st' w3 w4 w5 w6 w7,zoj Ψ [v0,#v[st,5],v2,v3,v4,v5,v6,v7]=some ([v0,#v[st',5],v2,w3,w4,w5,w6,w7],.nx)/\HS (k+1000) st':=by
 obtain⟨st1,j,e1,g1,j0,j1⟩:=F.hK k st 8 hs #v[] #v[0,9] #v[0,9];have mm:∃m:Nat,m<=6/\atI [W.int 1,W.int 2,W.int 3,W.int 4,W.int 3,W.int 2,W.int 5,W.int 6] j=some (W.int (m:Nat)):=by
  obtain⟨j,rfl⟩:=Ef j0
  match j,j1 with
  | 0,_=>exact⟨1,by decide,rfl⟩
  | 1,_=>exact⟨2,by decide,rfl⟩
  | 2,_=>exact⟨3,by decide,rfl⟩
  | 3,_=>exact⟨4,by decide,rfl⟩
  | 4,_=>exact⟨3,by decide,rfl⟩
  | 5,_=>exact⟨2,by decide,rfl⟩
  | 6,_=>exact⟨5,by decide,rfl⟩
  | 7,_=>exact⟨6,by decide,rfl⟩
  | j+8,h=>exact absurd h #v[]
 obtain⟨m,hm,e0⟩:=mm;have p6:=zd6 hm;have pw:=pow1 (l:=m) #v[];have pp:=pow1 (l:=2 ^ m) #v[];have om:=zbj m;have op:=zbj (2 ^ m);obtain⟨st2,c,e2,g2,c0,c1⟩:=F.hK (k+1) st1 11 g1 #v[] #v[0,9] #v[0,9];obtain⟨c,rfl⟩:=Ef c0;obtain⟨st3,Rs,e3,g3,rl,hR⟩:=F.hR (k+2) st2 c (2 ^ m) g2 #v[] #v[] p6;obtain⟨D,e4,hD,ha,hsm,hDl,hd⟩:=F.hD (2 ^ m) Rs p6 #v[] hR;obtain⟨B,C,e5,b1,b2,ca,rC,lC,pC,nC⟩:=F.hE m Rs hm #v[] hR;obtain⟨rb,sm⟩:=zm1 Rs;have dl:=(zkb hD rb (hsm.trans sm.symm)).length_eq;have cl:C.length<=64:=by omega
 have ib:=F.hB (2 ^ m) C p6 rC ca lC #v[];obtain⟨w7,l8⟩:=z87 (Ψ:=Ψ) (n:=2 ^ m) (C:=C) (Rs:=Rs) (v0:=v0) (v1:=#v[st3,5]) (v2:=v2) (v3:=#v[(m:Nat),0]) (v5:=#v[(zab C),3]) (v7:=v7) (o:=false) p6 #v[] pC;have q1:ztj Ψ [v0,#v[st3,5],v2,#v[(m:Nat),0],#v[(Rs.map (rowW (2 ^ m))),2],v5,v6,v7]=some ([v0,#v[st3,5],v2,#v[(m:Nat),0],#v[(Rs.map (rowW (2 ^ m))),1],v5,v6,v7],(.lst (zab Rs),true)):=by
  unfold ztj;exact zqn F.hW (n:=2 ^ m) (by simp! []) #v[] hR fun _ _=>rfl
 have q2:∀x6 x7,zsk Ψ [v0,#v[st3,5],v2,#v[(m:Nat),0],#v[(Rs.map (rowW (2 ^ m))),1],#v[(zab C),3],x6,x7]=some ([v0,#v[st3,5],v2,#v[(m:Nat),0],#v[(Rs.map (rowW (2 ^ m))),1],#v[(zab C),3],x6,x7],(.lst ((C.map fun _=>true).map W.bl),true)):=fun x6 x7=>by
  unfold zsk;refine zcj (cap:=[none,none]) (xs:=[]) (e0:=[v0,#v[st3,5],v2,#v[(m:Nat),0],#v[(Rs.map (rowW (2 ^ m))),1],#v[(zab C),3],x6,x7]) (ws:=zab C) (by simp! []) (by rw[zac];omega) (by rw[zac,Aa,Aa]) rfl rfl rfl (fun _ _=>rfl) fun i u w r hw hr=>?_;obtain⟨x,hx,rfl⟩:=zaf hw;obtain rfl:=z8m hr;have e:=F.hS (x:Nat) (x:Nat);rw[Ah rfl] at e;have oi:oInt [.int (x:Nat)]=#v[(x:Nat),0]:=rfl;refine⟨#v[(x:Nat),0],false,?_⟩;simp! [oi,e]
 have q3:∀x6 x7,ztg Ψ [v0,#v[st3,5],v2,#v[(m:Nat),0],#v[(Rs.map (rowW (2 ^ m))),1],#v[(zab C),3],x6,x7]=some ([v0,#v[st3,5],v2,#v[(m:Nat),0],#v[(Rs.map (rowW (2 ^ m))),1],#v[(zab C),3],x6,x7],(.lst ((C.map fun _=>true).map W.bl),true)):=fun x6 x7=>by
  unfold ztg;refine zcj (cap:=[none,none,some 3]) (xs:=[#v[(m:Nat),0]]) (e0:=[v0,#v[st3,5],v2,#v[(m:Nat),0],#v[(Rs.map (rowW (2 ^ m))),1],#v[(zab C),3],x6,x7]) (ws:=zab C) (by simp! []) (by rw[zac];omega) (by rw[zac,Aa,Aa]) rfl rfl rfl (fun _ _=>rfl) fun i u w r hw hr=>?_;obtain⟨x,hx,rfl⟩:=zaf hw;obtain rfl:=z8m hr;have xl:=lC x (At hx);have d1:decide ((0:Int)<=(x:Int))=true:=Ah #v[];have d2:decide ((x:Int) < ((2 ^ 2 ^ m:Nat):Int))=true:=Ah (by exact_mod_cast xl);refine⟨#v[(x:Nat),0],false,?_⟩;simp! [pw,om,pp,op,d1,d2]
 have q5:=z8k (Ψ:=Ψ) (C:=C) (v0:=v0) (v1:=#v[st3,5]) (v2:=v2) (v4:=#v[(Rs.map (rowW (2 ^ m))),1]) (v6:=v6) (v7:=v7) hm #v[];have ot:zem [.lst (zab Rs)]=#v[(zab Rs),3]:=rfl;have at1:=zs4 C;have dn:(!decide ((C.length:Int)=((2 ^ m:Nat):Int) - (D.length:Int)))=false:=by rw[Ah #v[]];rfl
 refine⟨st3,#v[(m:Nat),0],#v[(Rs.map (rowW (2 ^ m))),1],#v[(zab C),3],#v[(C.map (rowW (2 ^ m))),1],w7,?_,g3.mono #v[]⟩;unfold zoj;refine seq_e' (e1:=[v0,#v[st1,5],v2,#v[(m:Nat),0],v4,v5,v6,v7]) ?_ (seq_e' (e1:=[v0,#v[st3,5],v2,#v[(m:Nat),0],#v[(Rs.map (rowW (2 ^ m))),2],v5,v6,v7]) ?_ (seq_e' (e1:=[v0,#v[st3,5],v2,#v[(m:Nat),0],#v[(Rs.map (rowW (2 ^ m))),1],#v[(zab C),3],v6,v7]) ?_ (seq_e' (e1:=[v0,#v[st3,5],v2,#v[(m:Nat),0],#v[(Rs.map (rowW (2 ^ m))),1],#v[(zab C),3],v6,v7]) ?_ (seq_e' (e1:=[v0,#v[st3,5],v2,#v[(m:Nat),0],#v[(Rs.map (rowW (2 ^ m))),1],#v[(zab C),3],v6,v7]) ?_ (seq_e' (e1:=[v0,#v[st3,5],v2,#v[(m:Nat),0],#v[(Rs.map (rowW (2 ^ m))),1],#v[(zab C),3],v6,v7]) ?_ (seq_e' (e1:=[v0,#v[st3,5],v2,#v[(m:Nat),0],#v[(Rs.map (rowW (2 ^ m))),1],#v[(zab C),3],#v[(C.map (rowW (2 ^ m))),2],v7]) ?_ (seq_e' (e1:=[v0,#v[st3,5],v2,#v[(m:Nat),0],#v[(Rs.map (rowW (2 ^ m))),1],#v[(zab C),3],#v[(C.map (rowW (2 ^ m))),1],v7]) ?_ l8)))))))
 ·simp! [e1,e0]
 ·simp! [e2,pw,om,e3]
 ·simp! [q1,ot,e5]
 ·simp! [q2,at1]
 ·simp! [zac,Aa,pw,om,e4,dn]
 ·simp! [q3,at1]
 ·simp! [q5]
 ·simp! [ib]
theorem zyn (ns:List Int)(hl:ns.length<=63):sem T bn 40 "law" [.frl (ns.map W.int)]=some ([.frl (ns.map W.int)],(.bl true,false)):=by
 have bb:(20000:Nat) < big:=by decide
 rw[z9t];generalize hΨ:sem T bn 39=Ψ;have hH:z0d (Ψ "_law_hand"):=by rw[<-hΨ,zmz];exact z1t (sem T bn 0)
 have tk:∀d,ze9 (sem T bn (d+3) "_law_take"):=fun d=>by rw[zm8];exact z1w (sem T bn 0)
 have xo:∀d,LXor (sem T bn (d+3) "_law_xor"):=fun d=>by rw[zq2];exact z31 _
 have lt:∀d,LTop (sem T bn (d+3) "_law_top"):=fun d=>by rw[zp8];exact z2l _
 have sy:∀d,zyo (sem T bn (d+3) "says"):=fun d=>by rw[z6n];exact z5r (z2b (sem T bn 0))
 have tn:∀d,TopN (sem T bn (d+3) "top"):=fun d=>by rw[z9f];exact yaq (sem T bn 0)
 have F:Fns Ψ:={
  hK:=by rw[<-hΨ];exact tk _
  hR:=by rw[<-hΨ,zl8];exact z2o (by rw[zmj];exact z2q (tk _)) (tk _) (xo _)
  hD:=by rw[<-hΨ,zhd];exact z8z (xo _) (lt _)
  hW:=by rw[<-hΨ,znp];exact z3v (sem T bn 0)
  hE:=by
   rw[<-hΨ,zmr];exact z7u (z6j (by rw[zv3];exact z5y (by rw[zhn];exact wt_n (sy _) (by rw[z7b];exact z9x (z3p (sem T bn 0))) (tn _)))) (by rw[zrv];exact no_n (tn _)) (by rw[zuh];exact z9u (sy _) (tn _) (by rw[zss];exact znt (sem T bn 0)))
  hB:=by rw[<-hΨ,zhl];exact yap (lt _)
  hS:=by rw[<-hΨ,znq];exact zyr _ }
 obtain⟨st0,h0,g0⟩:=hH ns hl;have l9:∃en',zv8 Ψ [some (.frl (ns.map W.int),false),#v[st0,5],none,none,none,none,none,none]=some (some (.frl (ns.map W.int),false)::en',.nx):=by
  unfold zv8;obtain⟨en',h,st',w2,w3,w4,w5,w6,w7,rfl,_⟩:=zay (mp:=[]) (T:=.nm 2) (body:=zoj Ψ) (fun i e=>∃(st' : W) (w2 w3 w4 w5 w6 w7:Option (W × Bool)),e=[some (.frl (ns.map W.int),false),#v[st',5],w2,w3,w4,w5,w6,w7]/\HS (1000 * i) st') (zn3 (a:=gArg (gC (.int 3))) (en:=[some (.frl (ns.map W.int),false),#v[st0,5],none,none,none,none,none,none]) (e1:=[some (.frl (ns.map W.int),false),#v[st0,5],none,none,none,none,none,none]) (n:=3) rfl #v[]) ⟨st0,_,_,_,_,_,_,rfl,g0⟩ fun i w e hw hp=>by
   obtain⟨st',w2,w3,w4,w5,w6,w7,rfl,g⟩:=hp;obtain⟨li,rfl⟩:=zef hw;obtain⟨st2,x3,x4,x5,x6,x7,hb,g2⟩:=z4m F (v0:=some (.frl (ns.map W.int),false)) (v2:=#v[(0+(i:Int)),0]) (v3:=w3) (v4:=w4) (v5:=w5) (v6:=w6) (v7:=w7) g #v[];exact⟨_,_,rfl,.inl hb,_,_,_,_,_,_,_,rfl,g2.mono #v[]⟩
  exact⟨_,h⟩
 obtain⟨en',l9⟩:=l9;have z2:Ψ "even_with" [.int 2,.tup []]=some ([.int 2,.tup []],(.tup (zab [1,2,4,8]),false)):=by
  obtain⟨B,C,e,b1,b2,ca,_⟩:=F.hE 2 [] #v[0,9] #v[0,9] (fun _ h=>nomatch h);obtain rfl:B=[]:=b1.eq_nil;have q:bo ((noT (2 ^ 2) []).map (evW []))=[1,2,4,8]:=by decide +kernel
  rw[q] at b2;have s1:=zcv b2 ca;have s2:=zcv (List.Perm.refl [1,2,4,8]) #v[0,9];have:zab C=zab [1,2,4,8]:=by rw[zao,zao,<-s1.symm.trans s2]
  rw[this] at e;exact e
 have z1:Ψ "even_with" [.int 1,.tup [.int 1,.int 2]]=some ([.int 1,.tup [.int 1,.int 2]],(.tup [],false)):=by
  obtain⟨B,C,e,b1,b2,ca,_,_,_,nC⟩:=F.hE 1 [1,2] #v[0,9] #v[0,9] #v[0,9];rw[show (bo [1,2]).length=2 by decide +kernel] at nC;obtain rfl:C=[]:=Fj.mp #v[];exact e
 have sm:∀n∈([1,2,4,8]:List Int),zig n:=fun n hn=>zpp (k:=4) (by simp at hn;omega) #v[0,9];have e2:oEq (.tup (zab [1,2,4,8])) (.tup [.int 1,.int 2,.int 4,.int 8])=some (.bl true,false):=eq_t (as:=[1,2,4,8]) (bs:=[1,2,4,8]) sm sm;have ee:oEq (.tup []) (.tup [])=some (.bl true,false):=eq_t (as:=[]) (bs:=[]) (fun _ h=>nomatch h) (fun _ h=>nomatch h);unfold z0w;refine zbu (en:=some (.frl (ns.map W.int),false)::en') rfl (seq_e' (e1:=[some (.frl (ns.map W.int),false),#v[st0,5],none,none,none,none,none,none]) ?_ (seq_e' l9 ?_)) rfl
 ·simp! [h0]
 ·simp! [z2,e2,z1,ee]
noncomputable abbrev nA (K:PySem.W.Frag) (n:Str) (f:Addr):Prop:=PySem.W.nsIn K mainGlobals n=some (some (.ref f))
noncomputable abbrev nL (K:PySem.W.Frag) (f:Addr) (oc:Value) (od:Option Addr) (n:Str) (st:Stmt) (kV dc pm:Value) (an:Option Addr) (cd ct:Value) (sl:Array (Option Value)):Prop:=K.lookup f=some ⟨oc,od,.func (PySem.W.fnOf n n (zev st) (zdh st) (zat st) .none kV dc pm an cd ct),sl⟩
noncomputable abbrev nC (K:PySem.W.Frag) (cd:Value) (n:Str):Prop:=PySem.W.codeIn K cd n=true
noncomputable abbrev nK (K:PySem.W.Frag) (f:Addr):Prop:=PySem.W.keepIn K (.ref f)=true
noncomputable def nD (K:PySem.W.Frag) (t:Fd):Prop:=∃(f:Addr) (oc:Value) (od:Option Addr) (kV dc pm:Value) (an:Option Addr) (cd ct:Value) (sl:Array (Option Value)),nA K t.nm f/\nL K f oc od t.nm t.st kV dc pm an cd ct sl/\nC K cd t.nm/\nK K f
theorem nD_i {K:PySem.W.Frag}{n:Str}{t:Fd}{f:Addr}{oc:Value}{od:Option Addr}{kV dc pm:Value}{an:Option Addr}{cd ct:Value}{sl:Array (Option Value)}(e:t.nm=n)(a:nA K n f)(l:nL K f oc od n t.st kV dc pm an cd ct sl)(c:nC K cd n)(k:nK K f):nD K t:=by
 subst e;exact⟨_,_,_,_,_,_,_,_,_,_,a,l,c,k⟩
noncomputable def bO (t:Fd):Prop:=FnScope t.N t.ps (zat t.st)/\t.m.length=t.ps.length/\∀(kV doc pm:Value) (an:Option Addr) (cdv ct:Value) (us:List Value),us.length=t.ps.length->bindArgs (PySem.W.fnOf t.nm t.nm (zev t.st) (zdh t.st) (zat t.st) .none kV doc pm an cdv ct) ⟨us,[]⟩=pure (t.ps.zip us)
theorem yak {K:PySem.W.Frag}{h:Heap}{mg:Str->Option Value}(X:K.In h)(G:h.Ns mainGlobals mg){t:Fd}(b:bO t)(lm:t.nm∈lams->zwc K t.nm=true)(d:nD K t):FdOk K mg t:=by
 obtain⟨f,oc,od,kV,dc,pm,an,cd,ct,sl,a,l,c,k⟩:=d;have F:=zz8 (st:=t.st) l c k;exact⟨b.1,b.2.1,⟨_,_,F,F.binds b.2.2,PySem.W.mg_of X G a⟩,lm⟩
theorem nd_T:(T.map (·.nm)).Nodup:=by decide +kernel
theorem all_c {α:Type}{P:α->Prop}{a:α}{l:List α}(h:P a)(r:∀x∈l,P x):∀x∈a::l,P x:=List.forall_mem_cons.mpr ⟨h,r⟩
theorem all_n {α:Type}{P:α->Prop}:∀x∈([]:List α),P x:=fun _ h=>nomatch h
@[elab_as_elim] theorem lenS {α:Type}{P:List α->Prop}{n:Nat} (us:List α) (hl:us.length=n+1) (h:∀a l,l.length=n->P (a::l)):P us:=by
 cases us with
 | nil=>cases hl
 | cons a l=>exact h a l (Fp hl)
@[elab_as_elim] theorem len0 {α:Type}{P:List α->Prop} (us:List α) (hl:us.length=0) (h:P []):P us:=by
 cases us with
 | nil=>exact h
 | cons a l=>cases hl
@[elab_as_elim] theorem len1 {α:Type}{P:List α->Prop} (us:List α) (hl:us.length=1) (h:∀a,P [a]):P us:=lenS us hl fun a l e=>len0 l e (h a)
@[elab_as_elim] theorem len2 {α:Type}{P:List α->Prop} (us:List α) (hl:us.length=2) (h:∀a b,P [a,b]):P us:=lenS us hl fun a l e=>lenS l e fun b l e=>len0 l e (h a b)
@[elab_as_elim] theorem len3 {α:Type}{P:List α->Prop} (us:List α) (hl:us.length=3) (h:∀a b c,P [a,b,c]):P us:=lenS us hl fun a l e=>len2 l e (h a)
@[elab_as_elim] theorem len4 {α:Type}{P:List α->Prop} (us:List α) (hl:us.length=4) (h:∀a b c d,P [a,b,c,d]):P us:=lenS us hl fun a l e=>len3 l e (h a)
@[elab_as_elim] theorem len5 {α:Type}{P:List α->Prop} (us:List α) (hl:us.length=5) (h:∀a b c d e,P [a,b,c,d,e]):P us:=lenS us hl fun a l e=>len4 l e (h a)
theorem z3t:bO zov:=⟨#v[0,0,5],rfl,fun _ _ _ _ _ _ us hl=>len2 us hl fun _ _=>rfl⟩
theorem zqt:bO zep:=⟨#v[0,0,5],rfl,fun _ _ _ _ _ _ us hl=>len1 us hl fun _=>rfl⟩
theorem z4f:bO zo4:=⟨#v[0,0,5],rfl,fun _ _ _ _ _ _ us hl=>len2 us hl fun _ _=>rfl⟩
theorem z8a:bO zxr:=⟨#v[0,0,5],rfl,fun _ _ _ _ _ _ us hl=>len1 us hl fun _=>rfl⟩
theorem zg1:bO zbl:=⟨#v[0,0,5],rfl,fun _ _ _ _ _ _ us hl=>len2 us hl fun _ _=>rfl⟩
theorem zq8:bO zei:=⟨#v[0,0,5],rfl,fun _ _ _ _ _ _ us hl=>len1 us hl fun _=>rfl⟩
theorem zra:bO zen:=⟨#v[0,0,5],rfl,fun _ _ _ _ _ _ us hl=>len2 us hl fun _ _=>rfl⟩
theorem zqj:bO zeg:=⟨#v[0,0,5],rfl,fun _ _ _ _ _ _ us hl=>len2 us hl fun _ _=>rfl⟩
theorem zk2:bO zc4:=⟨#v[0,0,5],rfl,fun _ _ _ _ _ _ us hl=>len2 us hl fun _ _=>rfl⟩
theorem zj7:bO zcx:=⟨#v[0,0,5],rfl,fun _ _ _ _ _ _ us hl=>len1 us hl fun _=>rfl⟩
theorem zj9:bO zc1:=⟨#v[0,0,5],rfl,fun _ _ _ _ _ _ us hl=>len2 us hl fun _ _=>rfl⟩
theorem zk3:bO zc6:=⟨#v[0,0,5],rfl,fun _ _ _ _ _ _ us hl=>len2 us hl fun _ _=>rfl⟩
theorem zlr:bO zc0:=⟨#v[0,0,5],rfl,fun _ _ _ _ _ _ us hl=>len1 us hl fun _=>rfl⟩
theorem zne:bO zdw:=⟨#v[0,0,5],rfl,fun _ _ _ _ _ _ us hl=>len1 us hl fun _=>rfl⟩
theorem zmf:bO zdq:=⟨#v[0,0,5],rfl,fun _ _ _ _ _ _ us hl=>len2 us hl fun _ _=>rfl⟩
theorem zlk:bO zcy:=⟨#v[0,0,5],rfl,fun _ _ _ _ _ _ us hl=>len3 us hl fun _ _ _=>rfl⟩
theorem zgq:bO zbn:=⟨#v[0,0,5],rfl,fun _ _ _ _ _ _ us hl=>len1 us hl fun _=>rfl⟩
theorem zjq:bO zc5:=⟨#v[0,0,5],rfl,fun _ _ _ _ _ _ us hl=>len2 us hl fun _ _=>rfl⟩
theorem zfs:bO zbo:=⟨#v[0,0,5],rfl,fun _ _ _ _ _ _ us hl=>len1 us hl fun _=>rfl⟩
theorem z6k:bO zmy:=⟨#v[0,0,5],rfl,fun _ _ _ _ _ _ us hl=>len1 us hl fun _=>rfl⟩
theorem all_mk {l:PySem.W.OpenLaw}{w:World}{K:PySem.W.Frag}{h:Heap}{mg:Str->Option Value}{fa:Addr} (X:K.In h) (G:h.Ns mainGlobals mg) (hfa:mg "law" = some (.ref fa)) (D:∀t∈T,nD K t) (M:∀x∈(["law"]:List Str),zwc K x=true) (Z:∀x∈bn,PySem.W.nsIn K mainGlobals x=some none) :
  ∃fd:FuncData,(∀(s:Shared) (v:Value),BindsTo s fd ⟨[v],[]⟩ [("_law_script",v)])/\∀base:Heap,K.In base->base.Ns mainGlobals mg->FnOk l.prog w K mg base CX0 40 fa fd ["_law_script"] (spF K [false] (sem T bn 40 "law")):=by
 have B:∀t∈T,bO t:=all_c z3t (all_c zqt (all_c z4f (all_c z8a (all_c zg1 (all_c zq8 (all_c zra (all_c zqj (all_c zk2 (all_c zj7 (all_c zj9 (all_c zk3 (all_c zlr (all_c zne (all_c zmf (all_c zlk (all_c zgq (all_c zjq (all_c zfs (all_c z6k (all_n))))))))))))))))))));have q:∀t∈T,t.nm∈lams->t.nm∈(["law"]:List Str):=by decide +kernel
 obtain⟨f,oc,od,kV,dc,pm,an,cd,ct,sl,a,lk,c,k⟩:=D zmy (by simp [T]);have F:=zz8 (st:=zmy.st) lk c k;have e:=hfa.symm.trans (PySem.W.mg_of X G a);cases e;exact⟨_,fun s v=>.of_eq rfl,fun base kb nb=>zvm nd_T (fun t ht=>yak X G (B t ht) (fun hl=>M _ (q t ht hl)) (D t ht)) (fun x hx=>PySem.W.mg_none_of X G (Z x hx)) kb nb 40 zmy (by simp [T]) _ _ F (PySem.W.mg_of X G a)⟩
theorem walk {l:PySem.W.OpenLaw}{q:Program}{loose:List Str}{XP:(Str->Option Value)->Heap->Prop}{YP:World->Heap->Prop}{d:DefRec}{K:Params->PySem.W.Frag} (hn:l.most=some 63) (hdf:d.params.defaults=[])
  (hY:∀(w:World) (h:Heap),YP w h->(K w.params).In h)
  (nt:∀w:World,PySem.W.noTabs (K w.params)=true) (nd:∀w:World,zuj (K w.params)=true) (hrec:∀(w:World),∀x∈lams,∀c P,PySem.W.tabIn (K w.params) x=some (c,P)->∃d,(recsOf q).find? (fun e=>e.name == x)=some d)
  (F:∀(w:World) (mg:Str->Option Value) (fa:Addr) (h:Heap),(K w.params).In h->h.Ns mainGlobals mg->mg d.name=some (.ref fa) ->
   ∃fd:FuncData,(∀(s:Shared) (u:Value),BindsTo s fd ⟨[u],[]⟩ [("_law_script",u)])/\∀base:Heap,(K w.params).In base->base.Ns mainGlobals mg->FnOk l.prog w (K w.params) mg base CX0 40 fa fd ["_law_script"] (spF (K w.params) [false] (sem T bn 40 "law"))) :
  PySem.W.WalkO q loose XP YP l.row.toRowW d [] (fun f vs=>PySem.call f vs) :=
 L2.walk_ofT (n:=63) (k:=40) (x := "_law_script") (CX:=fun _=>CX0) (sp:=fun w=>spF (K w.params) [false] (sem T bn 40 "law")) hn #v[0,9] hdf ⟨rfl,by decide,by decide,rfl⟩ hY nt nd hrec F (fun _ _ _ a ns hl st hS=>zp7 st.sub st.tb hS (ws':=[.frl (ns.map W.int)]) (zyn ns hl) rfl) fun _ _ _ _ _ z=>z
end My
open PySem PySem.W PyProof.Rows
set_option maxRecDepth 100000 in
set_option maxHeartbeats 0 in
theorem PySem.Challenge.cw_yesnowords_k07_words_even_with_all_holds : PySem.Challenge.rw_yesnowords_k07_words_even_with_all.Holds := by
 w_on;o_law;k_head;(case hw=>w_witness2)
 k_fill
 refine My.walk (l:=PySem.Challenge.rw_yesnowords_k07_words_even_with_all) rfl rfl (fun w h Y=>by first | exact PySem.W.kIn_of Y | exact PySem.W.km_in_of Y) ?nt ?nd ?hrec ?F
 case nt=>exact fun w=>by kernel_rfl
 case nd=>exact fun w=>by kernel_rfl
 case hrec =>
  intro w x hx c P e;simp only [L2.lams,Aq,Cq,or_false] at hx;rcases hx with rfl | rfl | rfl | rfl | rfl
  ·exact nomatch (Eq.trans (by kernel_rfl) e:(none:Option (Addr × Addr))=some (c,P))
  ·exact nomatch (Eq.trans (by kernel_rfl) e:(none:Option (Addr × Addr))=some (c,P))
  ·exact nomatch (Eq.trans (by kernel_rfl) e:(none:Option (Addr × Addr))=some (c,P))
  ·exact nomatch (Eq.trans (by kernel_rfl) e:(none:Option (Addr × Addr))=some (c,P))
  ·exact Gp.mp (by kernel_rfl)
 case F =>
  intro w mg fa h KX G hmg;refine My.all_mk KX G hmg ?xD ?xM ?xZ
  case xM=>exact My.all_c (by kernel_rfl) (My.all_n)
  case xZ =>
   refine' My.all_c ?_ (My.all_c ?_ (My.all_c ?_ (My.all_c ?_ (My.all_c ?_ (My.all_c ?_ (My.all_c ?_ (My.all_c ?_ (My.all_c ?_ (My.all_c ?_ (My.all_c ?_ (My.all_c ?_ (My.all_c ?_ (My.all_c ?_ (My.all_c ?_ (My.all_c ?_ (My.all_c ?_ (My.all_c ?_ (My.all_c ?_ (My.all_n)))))))))))))))))))
   any_goals k_is
  case xD =>
   refine' My.all_c (My.nD_i (n := "says") rfl ?_ ?_ ?_ ?_) (My.all_c (My.nD_i (n := "word_at") rfl ?_ ?_ ?_ ?_) (My.all_c (My.nD_i (n := "plus") rfl ?_ ?_ ?_ ?_) (My.all_c (My.nD_i (n := "top") rfl ?_ ?_ ?_ ?_) (My.all_c (My.nD_i (n := "without_tops") rfl ?_ ?_ ?_ ?_) (My.all_c (My.nD_i (n := "base_of") rfl ?_ ?_ ?_ ?_) (My.all_c (My.nD_i (n := "no_tops") rfl ?_ ?_ ?_ ?_) (My.all_c (My.nD_i (n := "even_at") rfl ?_ ?_ ?_ ?_) (My.all_c (My.nD_i (n := "even_with") rfl ?_ ?_ ?_ ?_) (My.all_c (My.nD_i (n := "_law_hand") rfl ?_ ?_ ?_ ?_) (My.all_c (My.nD_i (n := "_law_take") rfl ?_ ?_ ?_ ?_) (My.all_c (My.nD_i (n := "_law_bits") rfl ?_ ?_ ?_ ?_) (My.all_c (My.nD_i (n := "_law_word") rfl ?_ ?_ ?_ ?_) (My.all_c (My.nD_i (n := "_law_top") rfl ?_ ?_ ?_ ?_) (My.all_c (My.nD_i (n := "_law_xor") rfl ?_ ?_ ?_ ?_) (My.all_c (My.nD_i (n := "_law_rows") rfl ?_ ?_ ?_ ?_) (My.all_c (My.nD_i (n := "_law_reduced") rfl ?_ ?_ ?_ ?_) (My.all_c (My.nD_i (n := "_law_same") rfl ?_ ?_ ?_ ?_) (My.all_c (My.nD_i (n := "_law_is_base") rfl ?_ ?_ ?_ ?_) (My.all_c (My.nD_i (n := "law") rfl ?_ ?_ ?_ ?_) (My.all_n))))))))))))))))))))
   any_goals (first | (delta My.nA;k_is) | (delta My.nL;k_is) | (delta My.nC;k_is) | (delta My.nK;k_is) | k_is)