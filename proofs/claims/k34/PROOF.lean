import PyProof.Rows.All
import Wide.All
import OpenK.AllK
import Wide.FinOn
import Lean
import PyProof.EqAt
import PyProof.EqKinds
import PyProof.TupleCall
import PySem.Challenge.RW_yesnowords_k34_flats_of_words
set_option Elab.async false
set_option linter.all false
set_option maxRecDepth 100000
def Aa:=@PySem.wpAny_bind
def Ab:=@List.getElem?_eq_getElem
def Ac:=@Bool.and_eq_true
def Ad:=@List.length_map
def Ae:=@Nat.le_refl
def Af:=@PySem.Heap.get?_push_of_some
def Ag:=@decide_eq_true
def Ah:=@Bool.false_ne_true
def Ai:=@PySem.wpAny_pure
def Aj:=@List.mem_singleton
def Ak:=@List.map_cons
def Al:=@List.size_toArray
def Am:=@List.getElem?_eq_some_iff
def An:=@of_decide_eq_true
def Ao:=@PySem.Heap.lt_size
def Ap:=@PyProof.Rows.wpS_bind
def Aq:=@List.mem_cons_self
def Ar:=@List.mem_cons_of_mem
def As:=@PySem.Heap.get?_push_size
def At:=@Nat.ne_of_lt
def Au:=@List.getElem?_map
def Av:=@decide_eq_false
def Aw:=@PyProof.Rows.wpS_pure
def Ax:=@List.mem_cons
def Ay:=@List.mem_map
def Az:=@List.append_assoc
def Ba:=@List.length_append
def Bb:=@List.length_cons
def Bc:=@List.mem_append_right
def Bd:=@List.mem_append
def Be:=@Nat.lt_of_lt_of_le
def Bf:=@List.all_cons
def Bg:=@List.all_eq_true
def Bh:=@Nat.testBit_xor
def Bi:=@List.nodup_iff_pairwise_ne
def Bj:=@List.lookup_cons
def Bk:=@List.mem_append_left
def Bl:=@List.take_append_drop
def Bm:=@List.zip_cons_cons
def Bn:=@List.mem_of_getElem?
def Bo:=@Bool.not_eq_true
def Bp:=@Nat.xor_assoc
def Bq:=@List.map_append
def Br:=@List.append_nil
def Bs:=@PySem.mem_of_lookup
def Bt:=@List.mem_range
def Bu:=@Array.toList_append
def Bv:=@Nat.zero_le
def Bw:=@List.getD_eq_getElem?_getD
def Bx:=@Nat.lt_irrefl
def By:=@List.pairwise_map
def Bz:=@List.pairwise_append
def Ca:=@List.map_map
def Cb:=@LawfulBEq.eq_of_beq
def Cc:=@Nat.xor_lt_two_pow
def Cd:=@PySem.wpAny_newObj_type
def Ce:=@Nat.xor_zero
def Cf:=@Nat.zero_testBit
def Cg:=@List.take_length
def Ch:=@Int.toNat_natCast
def Ci:=@List.drop_eq_getElem_cons
def Cj:=@Nat.zero_add
def Ck:=@List.pairwise_cons
def Cm:=@PyProof.Rows.wpS_forRange
def Cn:=@Bool.or_eq_true
def Co:=@PySem.wpAny_holding
def Cp:=@Int.eq_ofNat_of_zero_le
def Cq:=@Nat.le_trans
def Cr:=@List.replicate_succ
def Cs:=@Array.length_toList
def Ct:=@List.length_range
def Cu:=@List.any_cons
def Cv:=@List.mem_filter
def Cw:=@List.mem_iff_getElem
def Cy:=@List.getElem?_set_ne
def Cz:=@PySem.wpAny_callSpecial?_slot
def Da:=@List.getElem?_append_left
def Db:=@Option.bind_some
def Dc:=@List.not_mem_nil
def Dd:=@Bool.not_eq_false'
def De:=@List.take_add_one
def Df:=@List.length_eq_zero_iff
def Dg:=@List.foldl_append
def Dh:=@List.length_nil
def Di:=@List.getElem?_set_self
def Dj:=@PySem.wpAny_loadPart'
def Dk:=@PySem.Heap.SameBut.update
def Dl:=@PyProof.Rows.wpS_mono
def Dm:=@List.getElem?_eq_none
def Dn:=@PySem.wpAny_call_entry
def Do:=@List.nodup_cons
def Dp:=@List.length_set
def Dq:=@List.find?_cons
def Dr:=@PySem.wpAny_mono
def Ds:=@decide_eq_true_eq
def Dt:=@Nat.pow_le_pow_right
def Du:=@List.flatten_cons
def Dv:=@Array.toList_push
def Dw:=@PyProof.Rows.slot_tuple_getitem
def Dx:=@PySem.codeAny_builtin
def Dy:=@PySem.wpAny_pyIter_list
def Dz:=@Nat.testBit_succ
def Ea:=@List.take_zero
def Eb:=@List.length_take
def Ec:=@List.drop_zero
def Ed:=@PySem.Around.under_plainId
def Ee:=@of_decide_eq_false
def Ef:=@Nat.xor_self
def Eg:=@List.filter_append
def Eh:=@Bool.false_eq_true
def Ei:=@List.filter_nil
def Ej:=@List.length_replicate
def Ek:=@Array.getElem?_toList
def El:=@PySem.wpAny_typeNameOfWhole_keyiter
def Em:=@PyProof.Rows.callWith_type1
def Eo:=@PySem.wpAny_rule
def Ep:=@List.getElem?_append_right
def Er:=@PySem.F.slot_dict_keyiterator_next
def Es:=@Bool.false_and
def Et:=@Nat.xor_comm
def Eu:=@Nat.succ.inj
def Ev:=@Array.getElem?_eq_getElem
def Ew:=@List.length_reverse
def Ex:=@List.eraseDups_cons
def Ey:=@PySem.F.slot_tuple_iterator_next
def Ez:=@Nat.two_pow_pos
def Fa:=@Bool.eq_iff_iff
def Fb:=@Int.emod_lt_of_pos
def Fc:=@PySem.F.plain_list_iadd
def Fe:=@List.pairwise_singleton
def Ff:=@PySem.wpAny_typeNameOf_keyiter
def Fg:=@if_true
def Fh:=@Nat.zero_xor
def Fi:=@Nat.le_of_succ_le
def Fj:=@List.take_succ
def Fm:=@List.take_sublist
def Fo:=@List.ext_getElem?
def Fp:=@Array.getElem?_eq_none
def Fq:=@PySem.wpAny_field
def Fs:=@PySem.sizeLine_eq
def Ft:=@List.length_drop
def Fu:=@Bool.and_true
def Fv:=@if_false
def Fw:=@PySem.Heap.size_push
def Fx:=@Array.toList_reverse
def Fy:=@Option.map_some
def Ga:=@List.nil_append
def Gb:=@Int.emod_nonneg
def Gc:=@LawfulMonad.pure_bind
def Gd:=@Nat.add_sub_cancel'
def Ge:=@Nat.ne_of_gt
def Gf:=@Nat.min_self
def Gh:=@PySem.wpAny_attempt
def Gi:=@PySem.Paired.length
def Gj:=@Array.perm_iff_toList_perm
def Gk:=@PySem.wpAny_passesOwn
def Gm:=@List.pairwise_iff_getElem
def Gn:=@Nat.lt_succ_of_lt
def Go:=@List.nodup_append
def Gp:=@List.drop_sublist
def Gq:=@PySem.F.args_tuple_add_2
def Gr:=@PyProof.Rows.boot_sorted
def Gs:=@Option.isSome_iff_exists
def Gu:=@PySem.wpAny_Call_Name_kw
def Gv:=@PySem.tupleKind_room_in1
def Gw:=@PySem.Obj.data_mapFields
def Gx:=@PySem.wpAny_truthy_bool
def Gy:=@PySem.wpAny_pyIter_enum
def Gz:=@PySem.wpAny_standAt
def Ha:=@PySem.wpAny_newList
def Hb:=@PySem.plainId_quiet
def Hd:=@PyProof.Rows.wpS_get
namespace PySem.W.Fast
def tw872463525422863168:=0
def tw7577807691535657584:=0
def tw2350334742269936169:=0
def tw2605568760597469797:=0
def tw13568614932430550730:=0
def tw11284060843956834260:=0
def tw15446854353962320110:=0
def tw17936470334640694185:=0
def tw3140137830317264161:=0
def tw16372337940316013280:=0
def tw1292547027397213052:=0
def tw9763251560156346575:=0
def tw12375314589430493657:=0
def tw6778059145146288373:=0
def tw3050076063155017979:=0
def tw17236662860595154754:=0
def tw13198462968654334674:=0
def tw8429622185908459194:=0
def tw14035676294536077935:=0
def tw2722066276145644236:=0
def tw2992451508192132913:=0
def tw12881591753009671498:=0
def tw3232585064837683909:=0
def tw12519058935408623009:=0
def tw5409769310952646050:=0
def tw5595689486708505242:=0
def tw3421837389930019361:=0
def tw8100788954687890031:=0
def tw1632185043700884724:=0
def tw1638916362964497183:=0
def tw1474931704639764435:=0
def tw11629012285399843390:=0
def tw5026313356500407669:=0
def tw2329531248554965999:=0
def tw13911496641070108958:=0
def tw4190034587998696481:=0
def tw10118720109209059900:=0
def tw9987868926484193026:=0
def tw7100837197923659525:=0
def tw13312758227669438914:=0
def tw10108459762781243835:=0
def tw4834066192795946403:=0
def tw4397151765110182475:=0
def tw2317215361991053566:=0
def tw10758256312888196906:=0
def tw11898560797846345022:=0
def tw27672519217272337:=0
def tw14312862034283723494:=0
def tw16800145876603335352:=0
def tw5342026639627160409:=0
def tw556105738548847422:=0
def tw3278154802304027775:=0
def tw548756470510210694:=0
def tw9117681248293624092:=0
def tw5831571074240300628:=0
def tw8523616549734761682:=0
def tw4673014129554263383:=0
def tw7267810736209285354:=0
def tw16363203113886260546:=0
def tw15567904962816150310:=0
def tw4849355129045440444:=0
def tw18282459828428224543:=0
def tw16968445224192387845:=0
def tw14344437720199575302:=0
def tw6694254369568269830:=0
def tw10476537811620826432:=0
def tw939454922185864884:=0
def tw17047202077484309485:=0
def tw1033549764479856907:=0
def tw4915854575743129020:=0
def tw13746798550787753825:=0
def tw8832519443001201901:=0
def tw2269453073295302753:=0
def tw10897741453487916650:=0
def tw5544205519106542591:=0
def tw168183467268969992:=0
def tw4398145285215105856:=0
def tw13330768956065566015:=0
def tw14910197407303744659:=0
def tw15270763008078028884:=0
def tw11646053818971438228:=0
def tw13576527542223017869:=0
def tw10967121335207621738:=0
def tw1062444627350235487:=0
def tw8164853061449174424:=0
def tw1934035736238293267:=0
def tw12416835646673787057:=0
def tw771757370798301754:=0
def tw16147355269435785901:=0
def tw11095929969540020759:=0
def tw15541080867192854551:=0
def tw8349494275894261476:=0
def tw14001218915456979110:=0
def tw7947528145324466993:=0
def tw664437771953394890:=0
def tw269834734725525744:=0
def tw9611229054028634681:=0
def tw16916035249903786523:=0
def tw14736511562432340976:=0
def tw4442947522900095950:=0
def tw2000447039174655415:=0
def tw15056141419991759937:=0
def tw11898030168042632517:=0
def tw11190865087316180890:=0
def tw3967074810960284763:=0
def tw5930324750322014673:=0
def tw718659921385139088:=0
def tw16514078175352157999:=0
def tw7617588409992879687:=0
def tw12237538408611179842:=0
def tw5854340667234446626:=0
def tw6796663526623174953:=0
def tw13013654310269170280:=0
def tw5647000809363546126:=0
def tw9433169075159304871:=0
def tw377441476911057699:=0
def tw9056986727471835540:=0
def tw12528180690572293647:=0
def tw14899483644220290106:=0
def tw5501479812018217022:=0
def tw10949149674662584639:=0
def tw3593231213785857106:=0
def tw6082021577230242017:=0
def tw5916454318212989330:=0
def tw7451047077731686733:=0
def tw18088749790430659387:=0
def tw14348883552913066668:=0
def tw10539847579992023211:=0
def tw9414939627584053164:=0
def tw10881626817732760398:=0
def tw6863943526040503008:=0
def tw10158964583348135815:=0
def tw10566957742339085938:=0
def tw5208962665150698609:=0
def tw1875656857753454686:=0
def tw4031765457383136246:=0
def tw11781048168677365063:=0
end PySem.W.Fast
theorem bS {α β}{o:Option α}{f:α->Option β}{b}(h:o.bind f=some b):∃a,o=some a/\f a=some b:=Option.bind_eq_some_iff.mp h
theorem sI {α}{a b:α}(h:some a=some b):a=b:=Option.some.inj h
namespace L2
open PySem PySem.Spec PyProof.Rows
theorem aG {P:Prop}(h:∀G:Prop,(P->G)->G):P:=h P id
end L2
set_option hygiene false
local macro_rules | `(tactic| nofun) => `(tactic| refine L2.aG fun _ qG=>?_)
local macro_rules | `(tactic| ac_rfl) => `(tactic| (refine qG ?_;clear qG))
local macro_rules | `(#v[$x]) => `((gArg (gC (.int $x))))
local macro_rules | `(#v[$x,0]) => `(some (.int $x,false))
local macro_rules | `(#v[$x,1]) => `(some (.lst $x,false))
local macro_rules | `(#v[$x,2]) => `(some (.lst $x,true))
local macro_rules | `(#v[$x,3]) => `(some (.tup $x,false))
local macro_rules | `(#v[$x,4]) => `((gArg (gVar $x)))
local macro_rules | `(#v[$x,5]) => `(some ($x,true))
local macro_rules | `(#v[$x,6]) => `(some ($x,false))
local macro_rules | `(#v[0,0,0]) => `((oI yes2 fun i j=>.int (i - j)))
local macro_rules | `(#v[0,0,1]) => `((oI cPow fun i j=>.int (i * 2 ^ j.toNat)))
local macro_rules | `(#v[0,0,2]) => `((oI (fun _ j=>decide (0 < j)) fun i j=>.int (i % j)))
local macro_rules | `(#v[0,0,3]) => `((oI cDiv fun i j=>.int (i / j)))
local macro_rules | `(#v[]) => `((by omega))
local macro_rules | `(#v[0,0,5]) => `(⟨by kernel_rfl,by kernel_rfl,by kernel_rfl,by decide +kernel,rfl,by decide +kernel,by decide +kernel⟩)
local macro_rules | `(#v[0,9]) => `((by decide))
local macro_rules | `(#v[0,0,7]) => `((by decide +kernel))
local macro_rules | `(tactic| omega) => `(tactic| first | lia | omega +splitDisjunctions)
set_option hygiene true
namespace L2
open PySem PySem.Spec PyProof.Rows
noncomputable abbrev Key:=Sum Int Str
noncomputable def zkg:Key->Value->Bool
 | .inl k,v=>Value.isInt k v
 | .inr x,v=>Value.isStrOf x v
noncomputable def keyH (w:World):Key->Int
 | .inl k=>hashInt k
 | .inr x=>hashStr w x
theorem keyIs_shape:∀{k:Key}{v:Value},zkg k v=true->(∃i t,k=Sum.inl i/\v=Value.int i t)\/(∃x t,k=Sum.inr x/\v=Value.str x t)
  | .inl i,v,h=>by
    obtain⟨t,e⟩:=Value.isInt_shape (k:=i) (v:=v) h;exact .inl ⟨i,t,rfl,e⟩
  | .inr x,v,h=>by
    obtain⟨t,e⟩:=Value.isStrOf_shape (x:=x) (v:=v) h;exact .inr ⟨x,t,rfl,e⟩
theorem zs4 (i:Int)(t:Tok):zkg (.inl i) (.int i t)=true:=by simp [zkg,Value.isInt]
theorem zt6 (x:Str)(t:Tok):zkg (.inr x) (.str x t)=true:=by simp [zkg,Value.isStrOf]
theorem z65 (a b:Int):decide ((Sum.inl a:Key)=Sum.inl b)=(a == b):=by
 by_cases e:a=b
 ·subst e;simp
 ·have h : ¬ (Sum.inl a : Key) = Sum.inl b := fun q => e (Sum.inl.inj q);rw[Av h];exact (beq_eq_false_iff_ne.mpr e).symm
theorem z36 (a b:Str):decide ((Sum.inr a:Key)=Sum.inr b)=decide (a=b):=by
 by_cases e:a=b
 ·subst e;simp
 ·have h : ¬ (Sum.inr a : Key) = Sum.inr b := fun q => e (Sum.inr.inj q);rw[Av h,Av e]
theorem z4w (a:Int)(b:Str):decide ((Sum.inl a:Key)=Sum.inr b)=false:=Av (fun q=>nomatch q)
theorem z35 (a:Str)(b:Int):decide ((Sum.inr a:Key)=Sum.inl b)=false:=Av (fun q=>nomatch q)
noncomputable def zag (prog:Program) (w:World):PySem.KeyKind prog w Key where
 is:=zkg
 hash:=keyH w
 inj:=fun v a b ha hb=>by
  rcases keyIs_shape ha with ⟨i,t,rfl,rfl⟩ | ⟨x,t,rfl,rfl⟩
  ·rcases keyIs_shape hb with ⟨j, u, rfl, e⟩ | ⟨y, u, rfl, e⟩
   ·injection e with e1 _;rw[e1]
   ·exact nomatch e
  ·rcases keyIs_shape hb with ⟨j, u, rfl, e⟩ | ⟨y, u, rfl, e⟩
   ·exact nomatch e
   ·injection e with e1 _;rw[e1]
 byValue:=fun k v h=>by
  rcases keyIs_shape h with ⟨i,t,rfl,rfl⟩ | ⟨x,t,rfl,rfl⟩<;>rfl
 pyHash:=fun hv h=>by
  rcases keyIs_shape hv with ⟨i,t,rfl,rfl⟩ | ⟨x,t,rfl,rfl⟩
  ·exact wpAny_pyHash_int h
  ·exact wpAny_pyHash_str h
 eqBool:=fun hu hv h=>by
  rcases keyIs_shape hu with ⟨i,t,rfl,rfl⟩ | ⟨x,t,rfl,rfl⟩
  ·rcases keyIs_shape hv with ⟨j, u, rfl, rfl⟩ | ⟨y, u, rfl, rfl⟩
   ·rw[z65] at h;exact wpAny_eqBool_int h
   ·rw[z4w] at h;exact SeqAt.EqAt.int_str i t y u _ _ _ _ h
  ·rcases keyIs_shape hv with ⟨j, u, rfl, rfl⟩ | ⟨y, u, rfl, rfl⟩
   ·rw[z35] at h;exact SeqAt.EqAt.str_int x t j u _ _ _ _ h
   ·rw[z36] at h;exact wpAny_eqBool_str h
 «strs»:=fun k x t v h=>by
  rcases keyIs_shape h with ⟨i,u,rfl,e⟩ | ⟨y,u,rfl,e⟩
  ·exact nomatch e
  ·injection e with e1 _;subst e1;cases v<;>rfl
theorem znd (prog:Program)(w:World)(i:Int)(t:Tok):(zag prog w).is (.inl i) (.int i t)=true:=zs4 i t
theorem zmw (prog:Program)(w:World)(x:Str)(t:Tok):(zag prog w).is (.inr x) (.str x t)=true:=zt6 x t
inductive V where
 | non | bl (b:Bool) | int (i:Int) | str (x:Str) | byt (b:Array UInt8) | flt (b:UInt64) | ref (a:Addr) | ty (n:String)
 deriving DecidableEq
noncomputable def RelV:V->Value->Prop
 | .non,u=>u=Value.none
 | .bl b,u=>u=Value.bool b
 | .int i,u=>∃t,u=Value.int i t
 | .str x,u=>∃t,u=Value.str x t
 | .byt b,u=>∃t,u=Value.bytes b t
 | .flt b,u=>∃t,u=Value.float b t
 | .ref a,u=>u=Value.ref a
 | .ty n,u=>u=Value.type n
noncomputable abbrev Vals:List V->List Value->Prop:=Paired RelV
theorem Vals.length {xs:List V}{us:List Value}(r:Vals xs us):xs.length=us.length:=Gi r
theorem Vals.get:∀{xs:List V}{us:List Value}{i:Nat}{x:V},Vals xs us->xs[i]?=some x->∃u,us[i]?=some u/\RelV x u
  | _,_,_,_,.nil,e=>by simp at e
  | _,_,0,_,.cons r _,e=>by simp at e;subst e;exact⟨_,rfl,r⟩
  | _,_,i+1,x,.cons _ t,e=>by
    obtain⟨u,h1,h2⟩:=Vals.get (i:=i) (x:=x) t (by simpa using e);exact⟨u,by simpa using h1,h2⟩
theorem Vals.set {x:V}{u:Value}(r:RelV x u):∀{xs:List V}{us:List Value} (i:Nat),Vals xs us->Vals (xs.set i x) (us.set i u)
 | _,_,_,.nil=>.nil
 | _,_,0,.cons _ t=>.cons r t
 | _,_,i+1,.cons q t=>.cons q (Vals.set r i t)
theorem Vals.append:∀{xs ys:List V}{us ws:List Value},Vals xs us->Vals ys ws->Vals (xs++ys) (us++ws)
 | _,_,_,_,.nil,s=>s
 | _,_,_,_,.cons r t,s=>.cons r (Vals.append t s)
theorem Vals.take:∀{xs:List V}{us:List Value} (n:Nat),Vals xs us->Vals (xs.take n) (us.take n)
 | _,_,0,_=>.nil
 | _,_,_+1,.nil=>.nil
 | _,_,n+1,.cons r t=>.cons r (Vals.take n t)
theorem Vals.drop:∀{xs:List V}{us:List Value} (n:Nat),Vals xs us->Vals (xs.drop n) (us.drop n)
 | _,_,0,r=>r
 | _,_,_+1,.nil=>.nil
 | _,_,n+1,.cons _ t=>Vals.drop n t
noncomputable def RelO:Option V->Option Value->Prop
 | some v,some u=>RelV v u
 | none,none=>True
 | _,_=>False
noncomputable def KV {κ:Type}:List (κ × V)->List (κ × Value)->Prop:=Paired fun (p:κ × V) (q:κ × Value)=>p.1=q.1/\RelV p.2 q.2
noncomputable def kV:Key->V
 | .inl i=>.int i
 | .inr x=>.str x
inductive HO where
 /-- a list -/
 | lst (xs:List V)
 /-- a tuple (never changes) -/
 | tup (xs:List V)
 /-- a dict whose keys are ints and texts;one whose keys are tuples of ints and texts (the empty one is both) -/
 | dK (kvs:List (Key × V)) | dT (kvs:List (List Key × V))
 /-- a set of ints: its members,its size -/
 | set (S:Int->Bool) (n:Nat)
 /-- an instance of the class at C,its dict at dx,its attributes -/
 | ins (C dx:Addr) (fs:List (Str × V))
 /-- the dict of the instance at x -/
 | own (x:Addr)
 /-- the dict of an exception -/
 | xd (fs:List (Str × V))
 /-- a bound method,f of x -/
 | met (f x:Addr)
 /-- a range object lo,lo+1,.. below hi -/
 | rng (lo hi:Int)
 /-- a thing that is known to the object (the script;a dict while a loop walks it): read,never written while it is so -/
 | frz (o:Obj) (u:HO)
 /-- a code object's table -/
 | tbl (ps:Array Value)
 /-- any other thing,by what is true of its one object (a def of one's own: SetO a S n:=HO.ext fun h=>..) -/
 | ext (φ:Heap->Prop)
noncomputable abbrev Hp:=Addr->Option HO
noncomputable def upd (H:Hp) (a:Addr) (o:HO):Hp:=fun b=>if b=a then some o else H b
theorem upd_same {H:Hp}{a:Addr}{o:HO}:upd H a o a=some o:=by unfold upd;rw[if_pos rfl]
theorem upd_ne {H:Hp}{a b:Addr}{o:HO}(h:b≠a):upd H a o b=H b:=by unfold upd;rw[if_neg h]
theorem zjt {H:Hp}{a:Addr}{o u:HO}:upd (upd H a o) a u=upd H a u:=by
 funext b;unfold upd;split<;>rfl
theorem zyy {H:Hp}{a b:Addr}{o u:HO}(h:H a=some o)(h' : H b=some u)(d:o≠u):a≠b:=by
 intro e;subst e;rw[h] at h';exact d (sI h')
theorem zaf {H:Hp}{a b:Addr}{o:HO}(h:H a=some o)(h' : H b=none):a≠b:=by
 intro e;subst e;rw[h] at h';cases h'
section
variable (P:Program) (w:World)
noncomputable def ObjOk (H:Hp) (h:Heap) (a:Addr):HO->Prop
 | .lst xs=>xs.length<=sizeLine/\∃(its:List Value) (n:Nat),Vals xs its/\h.get? a=some { cls:=.type "list",data:=.seq its.toArray n }
 | .tup xs=>xs.length<=sizeLine/\∃its:List Value,Vals xs its/\IsTup h a its.toArray
 | .dK kvs=>kvs.length<=sizeLine/\(a == sysModules)=false/\∃vs,KV kvs vs/\h.DictOf (zag P w) a vs
 | .dT kvs=>kvs.length<=sizeLine/\(a == sysModules)=false/\∃xs:List (List Key × Addr × Value),
   Paired (fun (p:List Key × V) (q:List Key × Addr × Value)=>p.1=q.1/\H q.2.1=some (.tup (p.1.map kV))/\RelV p.2 q.2.2) kvs xs /\
   ∃o es ep,h.get? a=some o/\o.ExactDict/\o.data=.dict es ep/\es.toList=xs.map (entryOfKey (tupleKind (zag P w)))/\(xs.map (·.1)).Nodup
 | .set S n=>h.SetOf (intKind P w) a S n
 | .ins C dx fs=>H dx=some (.own a)/\fs.length<=1000/\dx≠a/\h.get? a=some (PySem.W.instObj C dx) /\
   ∃mA,h.Ns1 dx mA/\(∀f,RelO (fs.lookup f) (mA f))/\PySem.Within mA (fs.map (·.1))
 | .own _=>∃o,h.get? a=some o
 | .xd fs=>∃mA,h.Ns1 a mA/\∀f,RelO (fs.lookup f) (mA f)
 | .rng lo hi=>∃t u v,h.get? a=some { cls:=.type "range",data:=.fields #[.int lo t,.int hi u,.int 1 v] }
 | .frz o u=>h.get? a=some o/\ObjOk H h a u
 | .tbl ps=>h.get? a=some { cls:=.none,data:=.fields ps }
 | .met f x=>h.get? a=some (PySem.W.methodObj (.ref f) (.ref x))
 | .ext φ=>φ h/\(∃o,h.get? a=some o)/\∀h1 h2:Heap,φ h1->(∀o,h1.get? a=some o->h2.get? a=some o)->φ h2
noncomputable def HOk (H:Hp) (h:Heap):Prop:=∀a o,H a=some o->ObjOk P w H h a o
end
section
variable {P:Program}{w:World}{H H' : Hp}{h h' : Heap}{a:Addr}{o:HO}
theorem ObjOk.lt (x:ObjOk P w H h a o):a < h.objs.size:=by
 cases o with
 | lst xs=>obtain⟨_,_,_,_,e⟩:=x;exact Ao e
 | tup xs=>obtain⟨_,_,_,p⟩:=x;exact p.lt
 | dK kvs=>obtain⟨_,_,_,_,o,_,_,e,_⟩:=x;exact Ao e
 | dT kvs=>obtain⟨_,_,_,_,o,_,_,e,_⟩:=x;exact Ao e
 | set S n=>obtain⟨o,_,_,_,e,_⟩:=x;exact Ao e
 | ins C dx fs=>obtain⟨_,_,_,e,_⟩:=x;exact Ao e
 | own y=>obtain⟨_,e⟩:=x;exact Ao e
 | xd fs=>obtain⟨_,⟨_,_,_,e,_⟩,_⟩:=x;exact Ao e
 | rng lo hi=>obtain⟨_,_,_,e⟩:=x;exact Ao e
 | frz ob u=>obtain⟨e,_⟩:=x;exact Ao e
 | tbl ps=>exact Ao (show h.get? a=some _ from x)
 | met f y=>exact Ao (show h.get? a=some _ from x)
 | ext φ=>obtain⟨_,⟨_,e⟩,_⟩:=x;exact Ao e
theorem Paired.mapP {α β:Type}{F G:α->β->Prop}:∀{l₁:List α}{l₂:List β},Paired F l₁ l₂->(∀a b,F a b->G a b)->Paired G l₁ l₂
 | _,_,.nil,_=>.nil
 | _,_,.cons r t,f=>.cons (f _ _ r) (Paired.mapP t f)
theorem ObjOk.stay (x:ObjOk P w H h a o) (k:∀b u,(b=a\/H b=some (.own a))->h.get? b=some u->h'.get? b=some u)
    (ho:∀b,H b=some (.own a)->H' b=some (.own a)) (ht:∀b xs,H b=some (.tup xs)->H' b=some (.tup xs)):ObjOk P w H' h' a o:=by
  induction o with
  | lst xs=>obtain⟨z,its,n,r,e⟩:=x;exact⟨z,its,n,r,k _ _ (.inl rfl) e⟩
  | tup xs=>obtain⟨z,its,r,ob,e,c⟩:=x;exact⟨z,its,r,ob,k _ _ (.inl rfl) e,c⟩
  | dK kvs=>obtain⟨z,y,vs,r,ob,es,ep,e,c⟩:=x;exact⟨z,y,vs,r,ob,es,ep,k _ _ (.inl rfl) e,c⟩
  | dT kvs =>
    obtain⟨z,y,xs,r,ob,es,ep,e,c⟩:=x;exact⟨z,y,xs,Paired.mapP r fun p q z=>⟨z.1,ht _ _ z.2.1,z.2.2⟩,ob,es,ep,k _ _ (.inl rfl) e,c⟩
  | set S n=>obtain⟨ob,es,ep,t,e,c⟩:=x;exact⟨ob,es,ep,t,k _ _ (.inl rfl) e,c⟩
  | ins C dx fs =>
    obtain⟨d,z,ne,e,mA,⟨od,es,ep,e2,c⟩,r⟩:=x;exact⟨ho _ d,z,ne,k _ _ (.inl rfl) e,mA,⟨od,es,ep,k _ _ (.inr d) e2,c⟩,r⟩
  | own y=>obtain⟨ob,e⟩:=x;exact⟨ob,k _ _ (.inl rfl) e⟩
  | xd fs=>obtain⟨mA,⟨od,es,ep,e,c⟩,r⟩:=x;exact⟨mA,⟨od,es,ep,k _ _ (.inl rfl) e,c⟩,r⟩
  | rng lo hi=>obtain⟨t,u,v,e⟩:=x;exact⟨t,u,v,k _ _ (.inl rfl) e⟩
  | frz ob u ih=>obtain⟨e,q⟩:=x;exact⟨k _ _ (.inl rfl) e,ih q⟩
  | tbl ps =>
    have e:h.get? a=some { cls:=.none,data:=.fields ps }:=x;show h'.get? a=some { cls:=.none,data:=.fields ps };exact k a _ (.inl rfl) e
  | met f y =>
    have e:h.get? a=some (PySem.W.methodObj (.ref f) (.ref y)):=x;show h'.get? a=some (PySem.W.methodObj (.ref f) (.ref y));exact k a _ (.inl rfl) e
  | ext φ=>obtain⟨p,⟨o,e⟩,st⟩:=x;exact⟨st _ _ p fun o q=>k _ _ (.inl rfl) q,⟨o,k _ _ (.inl rfl) e⟩,st⟩
theorem HOk.lt (x:HOk P w H h)(e:H a=some o):a < h.objs.size:=(x a o e).lt
theorem HOk.fresh (x:HOk P w H h)(e:h.objs.size<=a):H a=none:=by
 cases q:H a with
 | none=>rfl
 | some u=>exact absurd (Be (x.lt q) e) (Bx _)
theorem HOk.kept (x:HOk P w H h)(k:∀b u,h.get? b=some u->h'.get? b=some u):HOk P w H h':=fun a o e =>
 (x a o e).stay (fun b u _ q=>k b u q) (fun _ q=>q) fun _ _ q=>q
theorem HOk.laid (x:HOk P w H h)(k:∀b u,h.get? b=some u->h'.get? b=some u)(hp:h.objs.size<=a)(new:ObjOk P w (upd H a o) h' a o):HOk P w (upd H a o) h':=fun b u e=>by
 have hn:=x.fresh hp;by_cases hb:b=a
 ·subst hb;rw[upd_same] at e;cases e;exact new
 ·rw[upd_ne hb] at e;exact (x b u e).stay (fun c v _ q=>k c v q) (fun c q=>by rw[upd_ne (zaf q hn)];exact q) fun c xs q=>by rw[upd_ne (zaf q hn)];exact q
end
noncomputable def Rd (H:Hp) (a:Addr) (u:HO):Prop:=H a=some u\/∃o,H a=some (.frz o u)
theorem Rd.ok {P:Program}{w:World}{H:Hp}{h:Heap}{a:Addr}{u:HO}(r:Rd H a u)(x:HOk P w H h):ObjOk P w H h a u:=by
 rcases r with r | ⟨o,r⟩
 ·exact x a u r
 ·obtain⟨_, q⟩ := x a _ r;exact q
noncomputable def Mut:Option HO->Prop
 | some (.lst _)=>True
 | some (.dK _)=>True
 | some (.dT _)=>True
 | some (.set _ _)=>True
 | some (.ins _ _ _)=>True
 | some (.ext _)=>True
 | _=>False
section
variable {P:Program}{w:World}{H:Hp}{h h' : Heap}{x e:Addr}{o' : HO}
theorem HOk.write (ok:HOk P w H h) (mu:Mut (H x)) (he:e=x\/H e=some (.own x)) (k:∀b u,b≠e->h.get? b=some u->h'.get? b=some u) (heo:∃u,h'.get? e=some u)
  (new:ObjOk P w (upd H x o') h' x o'):HOk P w (upd H x o') h':=fun b u q=>by
 have nown:∀c y,H c=some (.own y)->c≠x:=fun c y r z=>by subst z;rw[r] at mu;exact mu
 have ntup:∀c xs,H c=some (.tup xs)->c≠x:=fun c xs r z=>by subst z;rw[r] at mu;exact mu
 by_cases hb:b=x
 ·subst hb;rw[upd_same] at q;cases q;exact new
 ·rw[upd_ne hb] at q;by_cases hbe:b=e
  ·have q' : H b=some (.own x):=by
    rcases he with z | z
    ·exact absurd (hbe.trans z) hb
    ·rw[hbe];exact z
   rw[q] at q';cases q';obtain⟨v,hv⟩:=heo;exact⟨v,by rw[hbe];exact hv⟩
  ·refine (ok b u q).stay (fun c v hc r => k c v ?_ r) (fun c r => by rw[upd_ne (nown c b r)]; exact r) fun c xs r => by rw[upd_ne (ntup c xs r)]; exact r
   rcases hc with rfl | hc
   ·exact hbe
   ·rintro rfl;rcases he with z | z
    ·exact nown c b hc z
    ·rw[hc] at z;cases z;exact hb rfl
end
structure Un (fs ex:List Addr) (H H' : Hp) (h h' : Heap):Prop where
 keep:∀b o,h.get? b=some o->H b=none->b ∉ fs->b ∉ ex->h'.get? b=some o
 slot:∀b o,h.get? b=some o->H b=none->b∈fs->b ∉ ex->∃sl,h'.get? b=some { o with slots:=sl }
 free:∀b o,h.get? b=some o->H b=none->b ∉ ex->H' b=none
 there:∀b o,h.get? b=some o->b ∉ ex->∃o',h'.get? b=some o'
 tups:∀b xs,H b=some (.tup xs)->H' b=some (.tup xs)
 frzs:∀b o u,H b=some (.frz o u)->H' b=some (.frz o u)
 tbls:∀b ps,H b=some (.tbl ps)->∃more,H' b=some (.tbl (ps++more))
section
variable {fs fs' ex ex' : List Addr}{H H1 H2:Hp}{h h1 h2 h' : Heap}{a x e:Addr}{o:HO}
theorem Un.any (u:Un fs ex H H1 h h1){b:Addr}{ob:Obj}(q:h.get? b=some ob)(n:H b=none)(hx:b ∉ ex):∃sl,h1.get? b=some { ob with slots:=sl }:=by
 by_cases hb:b∈fs
 ·exact u.slot b ob q n hb hx
 ·exact⟨ob.slots,u.keep b ob q n hb hx⟩
theorem Un.kept (k:∀b u,h.get? b=some u->h'.get? b=some u):Un fs ex H H h h' :=
 ⟨fun b ob q _ _ _=>k b ob q,fun b ob q _ _ _=>⟨ob.slots,k b ob q⟩,fun _ _ _ n _=>n,fun b ob q _=>⟨ob,k b ob q⟩,fun _ _ q=>q,fun _ _ _ q=>q,fun _ ps q=>⟨#[],by rw[q];simp⟩⟩
theorem Un.refl:Un fs ex H H h h:=Un.kept fun _ _ q=>q
theorem Un.laid (k:∀b u,h.get? b=some u->h'.get? b=some u)(hp:h.objs.size<=a)(hn:H a=none):Un fs ex H (upd H a o) h h' where
 keep:=fun b u q _ _ _=>k b u q
 slot:=fun b u q _ _ _=>⟨u.slots,k b u q⟩
 free:=fun b u q n _=>by rw[upd_ne (At (Be (Ao q) hp))];exact n
 there:=fun b u q _=>⟨u,k b u q⟩
 tups:=fun b xs q=>by rw[upd_ne (zaf q hn)];exact q
 frzs:=fun b u xs q=>by rw[upd_ne (zaf q hn)];exact q
 tbls:=fun b ps q=>⟨#[],by rw[upd_ne (zaf q hn),q];simp⟩
theorem Un.write (mu:Mut (H x))(he:e=x\/H e=some (.own x))(k:∀b u,b≠e->h.get? b=some u->h'.get? b=some u)(heo:∃u,h'.get? e=some u):Un fs ex H (upd H x o) h h':=by
 have hx:∀b,H b=none->b≠x:=fun b n z=>by subst z;rw[n] at mu;exact mu
 have hb:∀b,H b=none->b≠e:=fun b n z=>by
  subst z;rcases he with r | r
  ·exact hx b n r
  ·rw[n] at r;cases r
 have hm:∀b u,H b=some u->¬ Mut (some u)->b≠x:=fun b u q nm z=>by subst z;rw[q] at mu;exact nm mu
 refine⟨fun b u q n _ _=>k b u (hb b n) q,fun b u q n _ _=>⟨u.slots,k b u (hb b n) q⟩,fun b u q n _=>by rw[upd_ne (hx b n)];exact n,fun b u q _=>?_,
  fun b xs q=>by rw[upd_ne (hm b _ q fun z=>z)];exact q,fun b u xs q=>by rw[upd_ne (hm b _ q fun z=>z)];exact q,fun b ps q=>⟨#[],by rw[upd_ne (hm b _ q fun z=>z),q];simp⟩⟩
 by_cases hbe:b=e
 ·subst hbe;exact heo
 ·exact⟨u,k b u hbe q⟩
end
noncomputable def trk (h:Heap) (H:Hp):List Addr:=(List.range h.objs.size).filter fun a=>(H a).isSome
noncomputable def hidT (h:Heap) (H:Hp):Heap:=PySem.W.hideAll h (trk h H)
theorem zvt (h:Heap)(H:Hp):(hidT h H).objs.size=h.objs.size:=PySem.W.hideAll_size _ _
theorem zwi {h:Heap}{H:Hp}{b:Addr}{o:Obj}(e:h.get? b=some o)(n:H b=none):(hidT h H).get? b=some o :=
 PySem.W.hideAll_get _ e fun hm=>by
  have q:(H b).isSome=true:=(Cv.mp hm).2;rw[n] at q;simp at q
theorem z17 {h:Heap}{H:Hp}{b:Addr}{o:Obj} (e:(hidT h H).get? b=some o):h.get? b=some o/\H b=none:=by
  have e' : h.get? b=some o:=PySem.W.of_hideAll (trk h H) e;refine⟨e',?_⟩;cases q:H b with
  | none=>rfl
  | some x =>
    have hm:b∈trk h H:=Cv.mpr ⟨Bt.mpr (Ao e'),by simp [q]⟩;have z:(hidT h H).get? b=none:=PySem.W.hideAll_none (trk h H) hm;rw[z] at e;cases e
noncomputable def z05 (g h:Heap) (L:Addr):List (Addr × Obj):=(List.range h.objs.size).filterMap fun a=>if a=L\/(g.get? a).isSome=true then none else (h.get? a).map fun o=>(a,o)
noncomputable def rest (g h:Heap) (L d:Addr):List (Addr × Obj):=(z05 g h L).filter fun p=>decide (p.1≠d)
structure Mod (K:PySem.W.Frag) (mg:Str->Option Value) (base:Heap):Prop where
 kin:K.In base
 glob:base.Ns mainGlobals mg
 blt:∃mb,base.Ns builtinsNs mb/\∀x:Str,x≠"__name__" -> mb x=bootBuiltins x
 nolimit:base.NoLimit
 bmn:∃(b:Addr) (ob:Obj),mg "__builtins__" = some (.ref b)/\b≠builtinsNs/\base.get? b=some ob/\ob.cls=.type "module"/\ob.dict=some builtinsNs/\ob.data=.plain
structure Cx where
 prog:Program
 w:World
 K:PySem.W.Frag
 mg:Str->Option Value
 base:Heap
 A:Around
 N:List Str
 s₀:Shared
 H₀:Hp
 env:Env
 outer:List Env
 stack:List Env
 ex:List Addr
 fn:Str->Bool
 calm:Bool
 pn:List (Addr × Obj)
 xe:Value->Shared->Prop
noncomputable def frs (l:List Env):List Addr:=l.filterMap (·.frame)
noncomputable abbrev Cx.fs (X:Cx):List Addr:=frs X.outer
noncomputable def Vis (sc:Scope) (x:Str):Prop:=sc.names.lookup x=some .local\/sc.names.lookup x=some .cell\/sc.names.lookup x=some .free
noncomputable def Loc (sc:Scope) (x:Str):Prop:=sc.names.lookup x=some .local\/sc.names.lookup x=some .cell
noncomputable def Look (env:Env) (h:Heap) (m:Str->Option Value) (x:Str) (u:Value):Prop :=
 (env.kindOf x=some .local/\m x=some u)\/((env.kindOf x=some .cell\/env.kindOf x=some .free)/\∃c,env.cells.lookup x=some c/\h.IsCell c (some u))
structure Cx.Ok (X:Cx):Prop where
 mod:Mod X.K X.mg X.base
 kind:X.env.scope.kind=.function
 glob:X.env.globals=mainGlobals
 blt:X.env.builtins=builtinsNs
 above:X.s₀.heap.objs.size<=X.env.locals
 inj:∀x y c,X.env.cells.lookup x=some c->X.env.cells.lookup y=some c->x=y
 has:∀x,(X.env.kindOf x=some .cell\/X.env.kindOf x=some .free)->∃c,X.env.cells.lookup x=some c
 cab:∀x c,X.fn x=true->X.env.cells.lookup x=some c->X.s₀.heap.objs.size<=c
 hd:X.calm=true->X.A.handled=none
 frames:X.A.frames=some X.stack
 stk:X.stack=X.outer\/(X.stack=X.env::X.outer/\X.env.frame=some X.env.locals)
 exf:∀b∈X.ex,b≠X.env.locals/\∀x c,X.env.cells.lookup x=some c->c≠b
 bs:∀b o,X.base.get? b=some o->X.s₀.heap.get? b=some o/\X.H₀ b=none
 bsz:X.base.objs.size<=X.s₀.heap.objs.size
 noex:∀b o,X.base.get? b=some o->b ∉ X.ex
 exfs:∀b∈X.ex,b ∉ X.fs
 funs:X.s₀.heap.FunFrames X.base X.outer
 frf:∀b∈X.fs,X.H₀ b=none
structure Inv (X:Cx) (pins:List (Addr × Obj)) (σ:List (Option V)) (H:Hp) (s:Shared):Prop where
 ok:X.Ok
 os:s.os=X.s₀.os
 bare:AllBare s.gens
 base:Un X.fs X.ex X.H₀ H X.s₀.heap s.heap
 loc:∃m,s.heap.Ns X.env.locals m/\∀(i:Nat) (x:Str) (v:V),X.N[i]?=some x->σ[i]?=some (some v)->Vis X.env.scope x->∃u,RelV v u/\Look X.env s.heap m x u
 cell:∀x c,X.env.cells.lookup x=some c->∃v,s.heap.IsCell c v
 free:H X.env.locals=none
 freeC:∀x c,X.env.cells.lookup x=some c->H c=none
 pin:∀p∈X.pn++pins,s.heap.get? p.1=some p.2/\H p.1=none/\p.1≠X.env.locals/\p.1 ∉ X.fs/\∀v,p.2.data≠.cell v
 hok:HOk X.prog X.w H s.heap
 len:σ.length=X.N.length
section
variable {X:Cx}{pins:List (Addr × Obj)}{σ:List (Option V)}{H H' : Hp}{s:Shared}{h' : Heap}
theorem Cx.Ok.nofr (ok:X.Ok){b:Addr}{o:Obj}(e:X.base.get? b=some o):b ∉ X.fs:=fun hb=>by
 have:=(ok.funs.mem hb).1;rw[e] at this;cases this
theorem Inv.bs (I:Inv X pins σ H s):∀b o,X.base.get? b=some o->s.heap.get? b=some o/\H b=none:=fun b o e =>
 ⟨I.base.keep b o (I.ok.bs b o e).1 (I.ok.bs b o e).2 (I.ok.nofr e) (I.ok.noex b o e),I.base.free b o (I.ok.bs b o e).1 (I.ok.bs b o e).2 (I.ok.noex b o e)⟩
theorem Inv.bk (I:Inv X pins σ H s):∀b o,X.base.get? b=some o->s.heap.get? b=some o:=fun b o e=>(I.bs b o e).1
theorem Inv.mod (I:Inv X pins σ H s):Mod X.K X.mg X.base:=I.ok.mod
theorem Inv.kIn (I:Inv X pins σ H s):X.K.In s.heap:=I.ok.mod.kin.keeps I.bk
theorem Inv.lt (I:Inv X pins σ H s):X.env.locals < s.heap.objs.size:=let ⟨_,hn,_⟩:=I.loc;hn.lt
theorem Inv.sz (I:Inv X pins σ H s):X.s₀.heap.objs.size<=s.heap.objs.size:=Cq I.ok.above (Nat.le_of_lt I.lt)
theorem Inv.nofs (I:Inv X pins σ H s){a:Addr}(h:s.heap.objs.size<=a):a ∉ X.fs:=fun hb=>by
 obtain⟨_,o,ho,_⟩:=I.ok.funs.mem hb;exact absurd (Be (Ao ho) (Cq I.sz h)) (Bx _)
theorem Inv.cne (I:Inv X pins σ H s):∀x c,X.env.cells.lookup x=some c->c≠X.env.locals:=fun x c e z=>by
 obtain⟨v,o,ho,hd⟩:=I.cell x c e;obtain⟨m,⟨o',es,ep,ho',hd',_⟩,_⟩:=I.loc;rw[z,ho'] at ho;cases ho;rw[hd'] at hd;cases hd
theorem Inv.funs (I:Inv X pins σ H s):s.heap.FunFrames X.base X.outer:=by
  have all:∀(l:List Env),(∀b∈frs l,b∈X.fs)->X.s₀.heap.FunFrames X.base l->s.heap.FunFrames X.base l:=by
    intro l
    induction l with
    | nil=>intro _ _;trivial
    | cons env r ih =>
      intro hs hl;obtain⟨hk,⟨L,o,hf,hn,ho,hd⟩,hr⟩:=hl;have hL:L∈X.fs:=hs L (by unfold frs;rw[List.filterMap_cons,hf];exact Aq);obtain⟨sl,e⟩:=I.base.slot L o ho (I.ok.frf L hL) hL fun z=>I.ok.exfs L z hL;exact⟨hk,⟨L,_,hf,hn,e,hd⟩,ih (fun b hb=>hs b (by unfold frs;rw[List.filterMap_cons,hf];exact Ar _ hb)) hr⟩
  exact all X.outer (fun _ hb=>hb) I.ok.funs
theorem Inv.stack (I:Inv X pins σ H s):s.heap.FunFrames X.base X.stack:=by
 rcases I.ok.stk with e | ⟨e,hf⟩
 ·rw[e];exact I.funs
 ·rw[e];obtain⟨m,hn,_⟩:=I.loc;refine .cons (by rw[I.ok.kind];decide) hf hn ?_ I.funs;exact Heap.get?_none_of_le (Cq I.ok.bsz I.ok.above)
theorem Inv.stkSub (I:Inv X pins σ H s):∀b∈frs X.stack,b∈X.env.locals::X.fs:=fun b hb=>by
 rcases I.ok.stk with e | ⟨e,hf⟩
 ·rw[e] at hb;exact Ar _ hb
 ·rw[e] at hb;unfold frs at hb;rw[List.filterMap_cons,hf] at hb;exact hb
theorem Inv.stkFree (I:Inv X pins σ H s):∀b∈frs X.stack,H b=none:=fun b hb=>by
 rcases Ax.mp (I.stkSub b hb) with e | hb
 ·rw[e];exact I.free
 ·obtain⟨_, o, ho, _⟩ := I.ok.funs.mem hb;exact I.base.free b o ho (I.ok.frf b hb) fun z=>I.ok.exfs b z hb
theorem Inv.step {g' : Array GenState}{t' : Nat}{d' : Drawn}{ch:List Addr} (I:Inv X pins σ H s)
  (hch:∀b∈ch,(b∈X.ex\/X.s₀.heap.objs.size<=b)/\b≠X.env.locals/\(∀x c,X.env.cells.lookup x=some c->c≠b)/\∀p∈X.pn++pins,p.1≠b)
  (keep:∀b o,b≠X.env.locals->b ∉ X.fs->b ∉ ch->s.heap.get? b=some o->H b=none->h'.get? b=some o)
  (slot:∀b o,b≠X.env.locals->b∈X.fs->b ∉ ch->s.heap.get? b=some o->H b=none->∃sl,h'.get? b=some { o with slots:=sl }) (free:∀b o,b ∉ ch->s.heap.get? b=some o->H b=none->H' b=none)
  (there:∀b o,b ∉ ch->s.heap.get? b=some o->∃o',h'.get? b=some o')
  (tups:∀b xs,H b=some (.tup xs)->H' b=some (.tup xs)) (frzs:∀b o u,H b=some (.frz o u)->H' b=some (.frz o u)) (tbls:∀b ps,H b=some (.tbl ps)->∃more,H' b=some (.tbl (ps++more)))
  (ns:∀m,s.heap.Ns X.env.locals m->h'.Ns X.env.locals m) (hok:HOk X.prog X.w H' h') (hg:AllBare g') :
  Inv X pins σ H' { s with heap:=h',gens:=g',drawn:=d',toks:=t' }:=by
 have neL:∀b o,X.s₀.heap.get? b=some o->b≠X.env.locals:=fun b o e=>At (Be (Ao e) I.ok.above);have neC:∀b o,X.s₀.heap.get? b=some o->b ∉ X.ex->b ∉ ch:=fun b o e hx hb=>by
  rcases (hch b hb).1 with z | z
  ·exact hx z
  ·exact absurd (Be (Ao e) z) (Bx _)
 have cellK:∀x c,X.env.cells.lookup x=some c->∀v,s.heap.IsCell c v->h'.IsCell c v:=fun x c e v ⟨o,ho,hd⟩=>by
  have nch:c ∉ ch:=fun z=>(hch c z).2.2.1 x c e rfl;by_cases hc:c∈X.fs
  ·obtain⟨sl, q⟩ := slot c o (I.cne x c e) hc nch ho (I.freeC x c e);exact⟨_,q,hd⟩
  ·exact⟨o,keep c o (I.cne x c e) hc nch ho (I.freeC x c e),hd⟩
 refine⟨I.ok,I.os,hg,⟨fun b o e n hb hx=>?_,fun b o e n hb hx=>?_,fun b o e n hx=>?_,fun b o e hx=>?_,fun b xs e=>tups b xs (I.base.tups b xs e),fun b o xs e=>frzs b o xs (I.base.frzs b o xs e),fun b ps e=>?_⟩,?_,fun x c e=>?_,?_,fun x c e=>?_,fun p hp=>?_,hok,I.len⟩
 ·exact keep b o (neL b o e) hb (neC b o e hx) (I.base.keep b o e n hb hx) (I.base.free b o e n hx)
 ·obtain⟨sl, e1⟩ := I.base.slot b o e n hb hx;obtain⟨sl',e2⟩:=slot b _ (neL b o e) hb (neC b o e hx) e1 (I.base.free b o e n hx);exact⟨sl',e2⟩
 ·obtain⟨o', e1⟩ := I.base.there b o e hx;exact free b o' (neC b o e hx) e1 (I.base.free b o e n hx)
 ·obtain⟨o', e1⟩ := I.base.there b o e hx;exact there b o' (neC b o e hx) e1
 ·obtain⟨m1, e1⟩ := I.base.tbls b ps e;obtain⟨m2,e2⟩:=tbls b _ e1;exact⟨m1++m2,by rw[e2,Array.append_assoc]⟩
 ·obtain⟨m, hn, hl⟩ := I.loc;refine⟨m,ns m hn,fun i x v e1 e2 e3=>?_⟩;obtain⟨u,r,l⟩:=hl i x v e1 e2 e3;refine⟨u,r,?_⟩;rcases l with l | ⟨k,c,e,z⟩
  ·exact .inl l
  ·exact .inr ⟨k,c,e,cellK x c e _ z⟩
 ·obtain⟨v, z⟩ := I.cell x c e;exact⟨v,cellK x c e v z⟩
 ·obtain⟨m, ⟨o, _, _, ho, _⟩, _⟩ := I.loc;exact free _ o (fun z=>(hch _ z).2.1 rfl) ho I.free
 ·obtain⟨v, o, ho, hd⟩ := I.cell x c e;exact free c o (fun z=>(hch c z).2.2.1 x c e rfl) ho (I.freeC x c e)
 ·obtain⟨e, n, ne, nf, d⟩ := I.pin p hp;have nch:p.1 ∉ ch:=fun z=>(hch p.1 z).2.2.2 p hp rfl;exact⟨keep p.1 p.2 ne nf nch e n,free p.1 p.2 nch e n,ne,nf,d⟩
theorem Inv.un {t' : Nat}(I:Inv X pins σ H s)(u:Un X.fs [] H H' s.heap h')(hok:HOk X.prog X.w H' h'):Inv X pins σ H' { s with heap:=h',toks:=t' }:=by
 obtain⟨m,⟨o,es,ep,ho,r⟩,_⟩:=id I.loc;obtain⟨sl,hL⟩:=u.any ho I.free (by simp);exact I.step (g':=s.gens) (d':=s.drawn) (ch:=[]) (fun _ z=>nomatch z) (fun b o _ hb _ e n=>u.keep b o e n hb (by simp)) (fun b o _ hb _ e n=>u.slot b o e n hb (by simp)) (fun b o _ e n=>u.free b o e n (by simp)) (fun b o _ e=>u.there b o e (by simp)) u.tups u.frzs u.tbls (fun m' hm=>by
  obtain⟨o',es',ep',ho',r'⟩:=hm;rw[ho] at ho';cases ho';exact⟨_,es',ep',hL,r'⟩) hok I.bare
theorem Inv.call {g' : Array GenState}{t' : Nat}{d' : Drawn}{ch:List Addr} (I:Inv X pins σ H s) (u:Un (frs X.stack) ch H H' s.heap h') (hok:HOk X.prog X.w H' h') (hg:AllBare g')
  (hch:∀b∈ch,(b∈X.ex\/X.s₀.heap.objs.size<=b)/\b≠X.env.locals/\(∀x c,X.env.cells.lookup x=some c->c≠b)/\∀p∈X.pn++pins,p.1≠b) :
  Inv X pins σ H' { s with heap:=h',gens:=g',drawn:=d',toks:=t' }:=by
 obtain⟨m,⟨o,es,ep,ho,r⟩,_⟩:=id I.loc;obtain⟨sl,hL⟩:=u.any ho I.free fun z=>(hch _ z).2.1 rfl;exact I.step (ch:=ch) hch (fun b o hL hb hc e n=>u.keep b o e n (fun z=>(Ax.mp (I.stkSub b z)).elim hL hb) hc) (fun b o _ _ hc e n=>u.any e n hc) (fun b o hc e n=>u.free b o e n hc) (fun b o hc e=>u.there b o e hc) u.tups u.frzs u.tbls (fun m' hm=>by
  obtain⟨o',es',ep',ho',r'⟩:=hm;rw[ho] at ho';cases ho';exact⟨_,es',ep',hL,r'⟩) hok hg
theorem Inv.turned {t' : Nat}{it:Addr} (I:Inv X pins σ H s) (k:∀b o,b≠it->s.heap.get? b=some o->h'.get? b=some o) (hn:H it=none) (hL:it≠X.env.locals)
  (h1:it∈X.ex\/X.s₀.heap.objs.size<=it) (h2:∀x c,X.env.cells.lookup x=some c->c≠it) (h3:∀p∈X.pn++pins,p.1≠it):Inv X pins σ H { s with heap:=h',toks:=t' }:=by
 have nit:∀b u,H b=some u->b≠it:=fun b u e z=>by rw[z,hn] at e;cases e
 refine I.step (g':=s.gens) (d':=s.drawn) (ch:=[it]) (fun b hb=>?_) (fun b o _ _ hc e _=>k b o (fun z=>hc (by simp [z])) e) (fun b o _ _ hc e _=>⟨o.slots,k b o (fun z=>hc (by simp [z])) e⟩) (fun _ _ _ _ n=>n)
  (fun b o hc e=>⟨o,k b o (fun z=>hc (by simp [z])) e⟩) (fun _ _ e=>e) (fun _ _ _ e=>e) (fun b ps e=>⟨#[],by rw[e];simp⟩) (fun m hm=>?_) (fun b u e=>?_) I.bare
 ·have e : b = it := by simpa using hb
  subst e;exact⟨h1,hL,h2,h3⟩
 ·obtain⟨o, es, ep, ho, r⟩ := hm;exact⟨o,es,ep,k _ o (Ne.symm hL) ho,r⟩
 ·refine (I.hok b u e).stay (fun c v hc q => k c v ?_ q) (fun _ q => q) fun _ _ q => q;rcases hc with z | z
  ·rw[z];exact nit b u e
  ·exact nit c _ z
theorem Inv.tok (I:Inv X pins σ H s)(t:Nat):Inv X pins σ H { s with toks:=t }:=I.un (h':=s.heap) (t':=t) Un.refl I.hok
theorem Inv.kept {t' : Nat}(I:Inv X pins σ H s)(k:∀b u,s.heap.get? b=some u->h'.get? b=some u):Inv X pins σ H { s with heap:=h',toks:=t' }:=I.un (Un.kept k) (I.hok.kept k)
theorem Inv.laid {a:Addr}{o:HO}{t' : Nat} (I:Inv X pins σ H s) (k:∀b u,s.heap.get? b=some u->h'.get? b=some u) (hp:s.heap.objs.size<=a) (new:ObjOk X.prog X.w (upd H a o) h' a o) :
  Inv X pins σ (upd H a o) { s with heap:=h',toks:=t' }:=I.un (Un.laid k hp (I.hok.fresh hp)) (I.hok.laid k hp new)
theorem Inv.write {x e:Addr}{o:HO}{t' : Nat} (I:Inv X pins σ H s) (mu:Mut (H x)) (he:e=x\/H e=some (.own x)) (k:∀b u,b≠e->s.heap.get? b=some u->h'.get? b=some u) (heo:∃u,h'.get? e=some u)
  (new:ObjOk X.prog X.w (upd H x o) h' x o):Inv X pins σ (upd H x o) { s with heap:=h',toks:=t' }:=I.un (Un.write mu he k heo) (I.hok.write mu he k heo new)
theorem Inv.pins_of {pins' : List (Addr × Obj)}(I:Inv X pins σ H s)(h:∀p∈pins',s.heap.get? p.1=some p.2/\H p.1=none/\p.1≠X.env.locals/\p.1 ∉ X.fs/\∀v,p.2.data≠.cell v):Inv X pins' σ H s :=
 ⟨I.ok,I.os,I.bare,I.base,I.loc,I.cell,I.free,I.freeC,fun p hp=>(Bd.mp hp).elim (fun z=>I.pin p (Bk _ z)) (h p),I.hok,I.len⟩
theorem zob {N:List Str}(hN:N.Nodup){i j:Nat}{x:Str}(a:N[i]?=some x)(b:N[j]?=some x):i=j:=by
 obtain⟨h1,e1⟩:=Am.mp a;obtain⟨h2,e2⟩:=Am.mp b;exact (List.getElem_inj hN).mp (e1.trans e2.symm)
theorem zk1 {M:Model}{A:Around}{E:Value->Shared->Prop}{i:Nat}{x:Str}{v:V}{u:Value}{Q:Unit->Shared->Prop} (I:Inv X pins σ H s) (hN:X.N.Nodup) (hi:X.N[i]?=some x) (hx:Loc X.env.scope x) (r:RelV v u)
  (h:∀s',Inv X pins (σ.set i (some v)) H s'->(∃a,Heap.SameBut a s.heap s'.heap/\(a=X.env.locals\/X.env.cells.lookup x=some a))->Q () s') (hf:X.fn x=true\/X.env.scope.names.lookup x=some .local:=by first | exact .inl rfl | exact .inr rfl | assumption):wpAny M A (storeName X.env x u) Q E s:=by
 obtain⟨m,hn,hl⟩:=id I.loc;have hcls:(X.env.scope.kind == .class || (X.env.scope.kind == .module && X.env.locals != X.env.globals))=false:=by rw[I.ok.kind];rfl
 have hiσ:i < σ.length:=by rw[I.len];exact (Am.mp hi).1
 have cne:=I.cne;have tracked:∀{a:Addr}{h' : Heap},(∃o,s.heap.get? a=some o/\H a=none)->Heap.SameBut a s.heap h'->HOk X.prog X.w H h':=fun {a h'} ha hs b ob e=>by
  obtain⟨_,_,hfree⟩:=ha;refine (I.hok b ob e).stay (fun c w' hc q=>(hs.2 c ?_).trans q) (fun _ q=>q) fun _ _ q=>q;rintro rfl;rcases hc with rfl | hc
  ·rw[hfree] at e;cases e
  ·rw[hfree] at hc;cases hc
 rcases hx with hk | hk
 ·refine wpAny_storeName_local hk hn (fun h' hn' hs => ?_) hcls;obtain⟨oL,_,_,hoL,_⟩:=id hn;refine h _ ⟨I.ok,I.os,I.bare,⟨fun b o e n hb hx=>?_,fun b o e n hb hx=>?_,I.base.free,fun b o e hx=>?_,I.base.tups,I.base.frzs,I.base.tbls⟩,⟨_,hn',fun j y v' e1 e2 e3=>?_⟩,fun y c e=>?_,I.free,I.freeC,fun p hp=>?_,tracked ⟨oL,hoL,I.free⟩ hs,by simpa using I.len⟩ ⟨_,hs,.inl rfl⟩
  ·exact (hs.2 b (At (Be (Ao e) I.ok.above))).trans (I.base.keep b o e n hb hx)
  ·obtain⟨sl, e1⟩ := I.base.slot b o e n hb hx;exact⟨sl,(hs.2 b (At (Be (Ao e) I.ok.above))).trans e1⟩
  ·obtain⟨o', e1⟩ := I.base.there b o e hx;exact⟨o',(hs.2 b (At (Be (Ao e) I.ok.above))).trans e1⟩
  ·by_cases hj : j = i
   ·subst hj;rw[hi] at e1;cases e1;rw[Di hiσ] at e2;cases e2;exact⟨u,r,.inl ⟨hk,by simp⟩⟩
   ·rw[Cy (Ne.symm hj)] at e2;obtain⟨u',r',q⟩:=hl j y v' e1 e2 e3;refine⟨u',r',?_⟩;rcases q with ⟨k,e⟩ | ⟨k,c,e,z⟩
    ·refine .inl ⟨k, ?_⟩;have:y≠x:=fun e=>hj (zob hN e1 (e ▸ hi));simp [this,e]
    ·exact .inr ⟨k,c,e,z.sameBut hs (cne y c e)⟩
  ·obtain⟨w', z⟩ := I.cell y c e;exact⟨w',z.sameBut hs (cne y c e)⟩
  ·obtain⟨e, n, ne, nf, d⟩ := I.pin p hp;exact⟨(hs.2 p.1 ne).trans e,n,ne,nf,d⟩
 ·have hfn:X.fn x=true:=by
   rcases hf with z | z
   ·exact z
   ·rw[z] at hk;cases hk
  obtain⟨c,hc⟩:=I.ok.has x (.inl hk);obtain⟨w',z⟩:=I.cell x c hc;refine wpAny_storeName_cell I.ok.kind hk hc z (fun h' hc' hs=>?_);obtain⟨oc,hoc,hocd⟩:=id z;refine h { s with heap:=h' } ⟨I.ok,I.os,I.bare,⟨fun b o e n hb hx=>?_,fun b o e n hb hx=>?_,I.base.free,fun b o e hx=>?_,I.base.tups,I.base.frzs,I.base.tbls⟩,⟨m,hn.sameBut hs (Ne.symm (cne x c hc)),fun j y v' e1 e2 e3=>?_⟩,fun y c' e=>?_,I.free,I.freeC,fun p hp=>?_,tracked ⟨oc,hoc,I.freeC x c hc⟩ hs,by simpa using I.len⟩ ⟨c,hs,.inr hc⟩
  ·exact (hs.2 b (At (Be (Ao e) (I.ok.cab x c hfn hc)))).trans (I.base.keep b o e n hb hx)
  ·obtain⟨sl, e1⟩ := I.base.slot b o e n hb hx;exact⟨sl,(hs.2 b (At (Be (Ao e) (I.ok.cab x c hfn hc)))).trans e1⟩
  ·obtain⟨o', e1⟩ := I.base.there b o e hx;exact⟨o',(hs.2 b (At (Be (Ao e) (I.ok.cab x c hfn hc)))).trans e1⟩
  ·by_cases hj : j = i
   ·subst hj;rw[hi] at e1;cases e1;rw[Di hiσ] at e2;cases e2;exact⟨u,r,.inr ⟨.inl hk,c,hc,hc'⟩⟩
   ·rw[Cy (Ne.symm hj)] at e2;obtain⟨u',r',q⟩:=hl j y v' e1 e2 e3;refine⟨u',r',?_⟩;rcases q with q | ⟨k,c',e,z'⟩
    ·exact .inl q
    ·refine .inr ⟨k, c', e, z'.sameBut hs ?_⟩;rintro rfl;exact hj (zob hN e1 (I.ok.inj _ _ _ e hc ▸ hi))
  ·by_cases hcc : c' = c
   ·subst hcc;exact⟨_,hc'⟩
   ·obtain⟨w2, z2⟩ := I.cell y c' e;exact⟨w2,z2.sameBut hs hcc⟩
  ·obtain⟨e, n, ne, nf, d⟩ := I.pin p hp;refine⟨(hs.2 p.1 ?_).trans e,n,ne,nf,d⟩;intro q;rw[q,hoc] at e;have q' : oc=p.2:=sI e;exact d w' (by rw[<-q'];exact hocd)
theorem zev {M:Model}{A:Around}{E:Value->Shared->Prop}{i:Nat}{x:Str}{v:V}{u:Value}{Q:Unit->Shared->Prop} (I:Inv X pins σ H s) (hN:X.N.Nodup) (hi:X.N[i]?=some x) (hx:Loc X.env.scope x) (r:RelV v u)
  (h:∀s',Inv X pins (σ.set i (some v)) H s'->Q () s') (hf:X.fn x=true\/X.env.scope.names.lookup x=some .local:=by first | exact .inl rfl | exact .inr rfl | assumption):wpAny M A (storeName X.env x u) Q E s :=
 zk1 I hN hi hx r (fun s' I' _=>h s' I') hf
theorem Inv.call' {s' : Shared}{ch:List Addr} (I:Inv X pins σ H s) (ho:s'.os=s.os) (u:Un (frs X.stack) ch H H' s.heap s'.heap) (hok:HOk X.prog X.w H' s'.heap) (hg:AllBare s'.gens)
  (hch:∀b∈ch,(b∈X.ex\/X.s₀.heap.objs.size<=b)/\b≠X.env.locals/\(∀x c,X.env.cells.lookup x=some c->c≠b)/\∀p∈X.pn++pins,p.1≠b):Inv X pins σ H' s':=by
 obtain⟨h',g',d',t',o'⟩:=s';have e:o'=s.os:=ho;subst e;exact I.call (g':=g') (t':=t') (d':=d') u hok hg hch
end
noncomputable abbrev XK:=Value->Option Addr->Hp->Prop
noncomputable abbrev St:=List (Option V)
noncomputable abbrev VK:=V->Hp->Prop
noncomputable abbrev TE:=St->Hp->VK->Prop
noncomputable abbrev TT:=St->Hp->(Bool->Hp->Prop)->Prop
noncomputable abbrev TA:=St->Hp->(List V->Hp->Prop)->Prop
structure Ends where
 nx:St->Hp->Prop
 rt:VK
 bk:St->Hp->Prop:=fun _ _=>False
 ct:St->Hp->Prop:=fun _ _=>False
noncomputable abbrev TS:=Ends->St->Hp->Prop
noncomputable def EP (X:Cx) (pins:List (Addr × Obj)) (σ:St) (Q:VK) (u:Value) (s' : Shared):Prop:=∃v H',Inv X pins σ H' s'/\RelV v u/\Q v H'
noncomputable def TP (X:Cx) (pins:List (Addr × Obj)) (σ:St) (Q:Bool->Hp->Prop) (b:Bool) (s' : Shared):Prop:=∃H',Inv X pins σ H' s'/\Q b H'
noncomputable def AP (X:Cx) (pins:List (Addr × Obj)) (σ:St) (Q:List V->Hp->Prop) (us:List Value) (s' : Shared):Prop:=∃vs H',Inv X pins σ H' s'/\Vals vs us/\Q vs H'
noncomputable def SP (X:Cx) (pins:List (Addr × Obj)) (D:Ends) (f:Flow) (s' : Shared):Prop :=
 match f with
 | .next=>∃σ' H',Inv X pins σ' H' s'/\D.nx σ' H'
 | .brk=>∃σ' H',Inv X pins σ' H' s'/\D.bk σ' H'
 | .cont=>∃σ' H',Inv X pins σ' H' s'/\D.ct σ' H'
 | .ret u=>∃v σ' H',Inv X pins σ' H' s'/\RelV v u/\D.rt v H'
noncomputable def PE (X:Cx) (e:Expr) (t:TE):Prop :=
 ∀(pins:List (Addr × Obj)) (s:Shared) (σ:St) (H:Hp) (Q:VK),Inv X pins σ H s->t σ H Q->wpAny (model X.prog X.w) X.A (eval e X.env) (EP X pins σ Q) X.xe s
noncomputable def PT (X:Cx) (e:Expr) (t:TT):Prop :=
 ∀(pins:List (Addr × Obj)) (s:Shared) (σ:St) (H:Hp) (Q:Bool->Hp->Prop),Inv X pins σ H s->t σ H Q->wpAny (model X.prog X.w) X.A (isTrue e X.env (eval e X.env)) (TP X pins σ Q) X.xe s
noncomputable def PW (X:Cx) (e:Expr) (t:TT):Prop :=
 ∀(whole:Sem Value) (pins:List (Addr × Obj)) (s:Shared) (σ:St) (H:Hp) (Q:Bool->Hp->Prop),Inv X pins σ H s->t σ H Q->wpAny (model X.prog X.w) X.A (isTrue e X.env whole) (TP X pins σ Q) X.xe s
theorem PW.pt {X:Cx}{e:Expr}{t:TT}(h:PW X e t):PT X e t:=h _
noncomputable def PA (X:Cx) (es:List Expr) (t:TA):Prop :=
 ∀(pos:Pos) (pins:List (Addr × Obj)) (s:Shared) (σ:St) (H:Hp) (Q:List V->Hp->Prop),Inv X pins σ H s->t σ H Q->wpAny (model X.prog X.w) X.A (spliced (backTo pos (starEach es X.env))) (AP X pins σ Q) X.xe s
noncomputable def PS (X:Cx) (st:Stmt) (t:TS):Prop :=
 ∀(pins:List (Addr × Obj)) (s:Shared) (σ:St) (H:Hp) (D:Ends),Inv X pins σ H s->t D σ H->wpAny (model X.prog X.w) X.A (exec st X.env) (SP X pins D) X.xe s
noncomputable def PSs (X:Cx) (st:List Stmt) (t:TS):Prop :=
 ∀(pins:List (Addr × Obj)) (s:Shared) (σ:St) (H:Hp) (D:Ends),Inv X pins σ H s->t D σ H->wpAny (model X.prog X.w) X.A (execs st X.env) (SP X pins D) X.xe s
theorem thn {α:Type}{t:Sem α}{Q Q' : α->Shared->Prop}{M:Model}{A:Around}{E:Value->Shared->Prop}{s:Shared}(h:wpAny M A t Q E s)(hQ:∀a s,Q a s->Q' a s):wpAny M A t Q' E s:=Dr h hQ fun _ _ x=>x
section
variable {X:Cx}
theorem bin {a b:Expr}{ta tb:TE} (ha:PE X a ta) (hb:PE X b tb) {pins:List (Addr × Obj)}{s:Shared}{σ:St}{H:Hp}{R:V->V->Hp->Prop} (I:Inv X pins σ H s) (h:ta σ H fun x H1=>tb σ H1 fun y H2=>R x y H2)
  {α:Type}{Q:α->Shared->Prop}{f:Value->Value->Sem α}
  (hf:∀v u s2 x y H2,Inv X pins σ H2 s2->RelV x v->RelV y u->R x y H2->wpAny (model X.prog X.w) X.A (f v u) Q X.xe s2) :
  wpAny (model X.prog X.w) X.A (eval a X.env) (fun v s₁=>wpAny (model X.prog X.w) X.A (eval b X.env) (fun u s₂=>wpAny (model X.prog X.w) X.A (f v u) Q X.xe s₂) X.xe s₁) X.xe s:=by
 refine thn (ha pins s σ H _ I h) fun v s1 ⟨x,H1,I1,r1,q1⟩=>?_;refine thn (hb pins s1 σ H1 _ I1 q1) fun u s2 ⟨y,H2,I2,r2,q2⟩=>?_;exact hf v u s2 x y H2 I2 r1 r2 q2
noncomputable def tVar (i:Nat):TE:=fun σ H Q=>∃v,σ[i]?=some (some v)/\Q v H
noncomputable def tC (v:V):TE:=fun _ H Q=>Q v H
theorem zpt {i:Nat}{x:Str}{pos:Pos}(hN:X.N[i]?=some x)(hv:Vis X.env.scope x)(hd:(x == ("__debug__" : Str))=false:=by decide)(hcd:(x == ("__classdict__" : Str))=false:=by decide):PE X (.Name x pos) (tVar i):=by
 intro pins s σ H Q I h;obtain⟨v,e,h⟩:=h;obtain⟨m,hn,hl⟩:=I.loc;obtain⟨u,r,l⟩:=hl i x v hN e hv;have fin:EP X pins σ Q u s:=⟨v,H,I,r,h⟩;rcases l with ⟨hk,hm⟩ | ⟨hk,c,hc,hcell⟩
 ·exact wpAny_Name (wpAny_loadName_local I.ok.kind hk hn hm fin) hd
 ·rcases hk with hk | hk
  ·exact wpAny_Name (wpAny_loadName_cell I.ok.kind hk hc hcell fin) hd
  ·exact wpAny_Name (wpAny_loadName_free I.ok.kind hk hc hcell fin hcd) hd
theorem z4c {i j pos}:PE X (.Constant (.int i) j pos) (tC (.int i)):=fun _ _ _ H _ I h=>wpAny_Constant_int ⟨.int i,H,I.tok _,⟨_,rfl⟩,h⟩
theorem z8q {b j pos}:PE X (.Constant (.bool b) j pos) (tC (.bl b)):=fun _ _ _ H _ I h=>Constant_bool ⟨.bl b,H,I,rfl,h⟩
theorem z62 {j pos}:PE X (.Constant .none j pos) (tC .non):=fun _ _ _ H _ I h=>Constant_none ⟨.non,H,I,rfl,h⟩
theorem z6d {x j pos}:PE X (.Constant (.str x) j pos) (tC (.str x)):=fun _ _ _ H _ I h=>Calls.Constant_str ⟨.str x,H,I.tok _,⟨_,rfl⟩,h⟩
noncomputable def Gl (X:Cx) (x:Str):Prop:=X.env.kindOf x=some .globalImplicit
theorem z1n {E:Value->Shared->Prop}{pins:List (Addr × Obj)}{s:Shared}{σ:St}{H:Hp}{x:Str}{u:Value}{pos:Pos}{Q:Value->Shared->Prop} (I:Inv X pins σ H s) (hg:Gl X x) (hm:X.mg x=some u) (h:Q u s)
  (hd:(x == ("__debug__" : Str))=false:=by decide):wpAny (model X.prog X.w) X.A (eval (.Name x pos) X.env) Q E s :=
 Calls.Name_function_global I.ok.kind hg (Calls.loadGlobal_global (by rw[I.ok.glob];exact I.mod.glob.keeps I.bk) hm h) hd
theorem zhz {E:Value->Shared->Prop}{pins:List (Addr × Obj)}{s:Shared}{σ:St}{H:Hp}{x:Str}{u:Value}{pos:Pos}{Q:Value->Shared->Prop} (I:Inv X pins σ H s) (hg:Gl X x) (hm:X.mg x=none) (hv:bootBuiltins x=some u) (h:Q u s)
  (hn:x≠"__name__" := by decide) (hd:(x == ("__debug__" : Str))=false:=by decide):wpAny (model X.prog X.w) X.A (eval (.Name x pos) X.env) Q E s:=by
 obtain⟨mb,h1,h2⟩:=I.mod.blt;exact Calls.Name_function_global I.ok.kind hg (Calls.loadGlobal_builtin (by rw[I.ok.glob];exact I.mod.glob.keeps I.bk) hm (by rw[I.ok.blt];exact h1.keeps I.bk) ((h2 x hn).trans hv) h) hd
variable {a b:Expr}{ta tb:TE}{pos:Pos}
noncomputable def PC (X:Cx) (op:CmpOp) (a b:Expr) (t:TE):Prop :=
  ∀(pins:List (Addr × Obj)) (s:Shared) (σ:St) (H:Hp) (Q:VK),Inv X pins σ H s->t σ H Q ->
    wpAny (model X.prog X.w) X.A (eval a X.env) (fun v s₁=>wpAny (model X.prog X.w) X.A (eval b X.env) (fun u s₂=>wpAny (model X.prog X.w) X.A (compareOp op v u) (EP X pins σ Q) X.xe s₂) X.xe s₁) X.xe s
theorem zxr (b:Expr){op:CmpOp}(h:op≠.In)(h2:op≠.NotIn):behindInMarks op b=false:=by
 have e1:(op == CmpOp.In)=false:=by cases op<;>first | rfl | exact absurd rfl h
 have e2:(op == CmpOp.NotIn)=false:=by cases op<;>first | rfl | exact absurd rfl h2
 cases b<;>simp [behindInMarks,e1,e2]
noncomputable def tB (t:TE):TT:=fun σ H Q=>t σ H fun x H1=>∃c,x=.bl c/\Q c H1
theorem yac {op:CmpOp}{t:TE}(h:PC X op a b t)(h1:behindInMarks op b=false:=by first | exact zxr _ #v[0,9] #v[0,9] | rfl):PT X (.Compare a [op] [b] pos) (tB t):=by
 intro pins s σ H Q I hw;refine wpAny_isTrue_Compare1 (thn (h pins s σ H _ I hw) fun v s1 h1=>thn h1 fun u s2 h2=>thn h2 fun c s3 ⟨x,H1,I1,r1,q1⟩=>?_) h1;obtain⟨d,rfl,q⟩:=q1;cases r1;exact Gx ⟨H1,I1,q⟩
theorem z7z {e:Expr}{t:TE}(h:PE X e t)(he:∀whole,isTrue e X.env whole=(do let v <- whole;standAt e.pos;holding [v] (truthy v)):=by intro _;rfl):PT X e (tB t):=by
 intro pins s σ H Q I hw;refine isTrue_plain (thn (h pins s σ H _ I hw) fun v s1 ⟨x,H1,I1,r1,q1⟩=>?_) (he _);obtain⟨d,rfl,q⟩:=q1;cases r1;exact Gx ⟨H1,I1,q⟩
variable {tA tB' : TT}{rest:List Expr}
noncomputable def tAnd (t u:TT):TT:=fun σ H Q=>t σ H fun c H1=>if c=true then u σ H1 Q else Q false H1
noncomputable def tNot (t:TT):TT:=fun σ H Q=>t σ H fun c H1=>Q (!c) H1
theorem z1d (ha:PT X a tA):PW X (.BoolOp .And [a] pos) tA:=by
 intro wh pins s σ H Q I h;refine isTrue_and (thn (ha pins s σ H Q I h) fun c s1 e=>?_);cases c with
 | true=>exact isTrue_and_nil e
 | false=>exact e
theorem z7f (ha:PT X a tA):PW X (.BoolOp .Or [a] pos) tA:=by
 intro wh pins s σ H Q I h;refine isTrue_or (thn (ha pins s σ H Q I h) fun c s1 e=>?_);cases c with
 | false=>exact isTrue_or_nil e
 | true=>exact e
theorem z5n (ha:PT X a tA)(hb:PW X (.BoolOp .And (b::rest) pos) tB'):PW X (.BoolOp .And (a::b::rest) pos) (tAnd tA tB'):=by
 intro wh pins s σ H Q I h;refine isTrue_and (thn (ha pins s σ H _ I h) fun c s1 ⟨H1,I1,q1⟩=>?_);cases c with
 | true=>exact hb wh pins s1 σ H1 Q I1 q1
 | false=>exact⟨H1,I1,q1⟩
theorem z7y (ha:PT X a tA):PT X (.UnaryOp .Not a pos) (tNot tA):=by
 intro pins s σ H Q I h;exact isTrue_not (ha pins s σ H (fun c H1=>Q (!c) H1) I h)
noncomputable def tIf (t:TT) (ta tb:TE):TE:=fun σ H Q=>t σ H fun c H1=>if c=true then ta σ H1 Q else tb σ H1 Q
theorem zx2 {c:Expr}(hc:PT X c tA)(ha:PE X a ta)(hb:PE X b tb):PE X (.IfExp c a b pos) (tIf tA ta tb):=by
 intro pins s σ H Q I h;refine wpAny_IfExp (thn (hc pins s σ H _ I h) fun d s1 ⟨H1,I1,q1⟩=>?_);cases d with
 | true=>exact ha pins s1 σ H1 Q I1 q1
 | false=>exact hb pins s1 σ H1 Q I1 q1
end
noncomputable def SqL (K:PySem.W.Frag) (H:Hp) (a:Addr) (xs:List V):Prop :=
 Rd H a (.lst xs) \/
  ∃(o:Obj) (its:Array Value) (n:Nat),K.lookup a=some o/\o.cls=.type "list"/\o.dict=none/\o.data=.seq its n/\its.size<=sizeLine/\Vals xs its.toList
noncomputable def SqT (K:PySem.W.Frag) (H:Hp) (a:Addr) (xs:List V):Prop :=
 Rd H a (.tup xs) \/
  ∃(o:Obj) (its:Array Value) (n:Nat),K.lookup a=some o/\o.cls=.type "tuple"/\o.data=.seq its n/\its.size<=sizeLine/\Vals xs its.toList
noncomputable def absV:Value->Option V
 | .none=>some .non
 | .bool b=>some (.bl b)
 | .int i _=>some (.int i)
 | .str x _=>some (.str x)
 | .bytes b _=>some (.byt b)
 | .float b _=>some (.flt b)
 | .ref a=>some (.ref a)
 | .type n=>some (.ty n)
 | _=>none
theorem RelV.abs {x:V}{u:Value}(r:RelV x u):absV u=some x:=by
 cases x with
 | non=>cases r;rfl
 | bl _=>cases r;rfl
 | int _=>obtain⟨t,rfl⟩:=r;rfl
 | str _=>obtain⟨t,rfl⟩:=r;rfl
 | byt _=>obtain⟨t,rfl⟩:=r;rfl
 | flt _=>obtain⟨t,rfl⟩:=r;rfl
 | ref _=>cases r;rfl
 | ty _=>cases r;rfl
theorem RelV.inj {x y:V}{u:Value}(r:RelV x u)(q:RelV y u):x=y:=sI (r.abs.symm.trans q.abs)
theorem Vals.inj:∀{xs ys:List V}{us:List Value},Vals xs us->Vals ys us->xs=ys
 | _,_,_,.nil,.nil=>rfl
 | _,_,_,.cons r t,.cons r' t'=>by rw[r.inj r',Vals.inj t t']
section
variable {X:Cx}{pins:List (Addr × Obj)}{σ:St}{H:Hp}{s:Shared}{a:Addr}{xs ys:List V}
theorem Inv.list (I:Inv X pins σ H s)(h:SqL X.K H a xs):∃its:List Value,Vals xs its/\PlainL s.heap a its.toArray/\xs.length<=sizeLine:=by
 rcases h with h | ⟨o,its,n,hk,hc,hd,hs,hz,r⟩
 ·obtain⟨z, its, n, r, e⟩ := h.ok I.hok;exact⟨its,r,⟨_,n,e,rfl,rfl,rfl⟩,z⟩
 ·refine⟨its.toList, r, ⟨o, n, I.kIn a o hk, hc, hd, by simpa using hs⟩, ?_⟩;have e:=r.length;simp only [Cs] at e;omega
theorem Inv.tuple (I:Inv X pins σ H s)(h:SqT X.K H a xs):∃its:List Value,Vals xs its/\IsTup s.heap a its.toArray/\xs.length<=sizeLine:=by
 rcases h with h | ⟨o,its,n,hk,hc,hs,hz,r⟩
 ·obtain⟨z, its, r, p⟩ := h.ok I.hok;exact⟨its,r,p,z⟩
 ·refine⟨its.toList, r, ⟨o, I.kIn a o hk, hc, n, by simpa using hs⟩, ?_⟩;have e:=r.length;simp only [Cs] at e;omega
theorem Inv.list_inj (I:Inv X pins σ H s)(h:SqL X.K H a xs)(h' : SqL X.K H a ys):xs=ys:=by
 obtain⟨its,r,⟨o,n,e,_,_,d⟩,_⟩:=I.list h;obtain⟨its',r',⟨o',n',e',_,_,d'⟩,_⟩:=I.list h';rw[e] at e';cases e';rw[d] at d';injection d' with d1 _;have:its=its':=by simpa using congrArg Array.toList d1
 subst this;exact r.inj r'
theorem Inv.tuple_inj (I:Inv X pins σ H s)(h:SqT X.K H a xs)(h' : SqT X.K H a ys):xs=ys:=by
 obtain⟨its,r,⟨o,e,_,n,d⟩,_⟩:=I.tuple h;obtain⟨its',r',⟨o',e',_,n',d'⟩,_⟩:=I.tuple h';rw[e] at e';cases e';rw[d] at d';injection d' with d1 _;have:its=its':=by simpa using congrArg Array.toList d1
 subst this;exact r.inj r'
end
noncomputable abbrev Cx.wish (X:Cx) (E:Value->Shared->Prop):Cx:={ X with xe:=E }
noncomputable abbrev Cx.nox (X:Cx):Cx:=X.wish fun _ _=>False
theorem Cx.Ok.wish {X:Cx}(ok:X.Ok)(E:Value->Shared->Prop):(X.wish E).Ok :=
 ⟨ok.mod,ok.kind,ok.glob,ok.blt,ok.above,ok.inj,ok.has,ok.cab,ok.hd,ok.frames,ok.stk,ok.exf,ok.bs,ok.bsz,ok.noex,ok.exfs,ok.funs,ok.frf⟩
theorem Cx.Ok.unwish {X:Cx}{E:Value->Shared->Prop}(ok:(X.wish E).Ok):X.Ok :=
 ⟨ok.mod,ok.kind,ok.glob,ok.blt,ok.above,ok.inj,ok.has,ok.cab,ok.hd,ok.frames,ok.stk,ok.exf,ok.bs,ok.bsz,ok.noex,ok.exfs,ok.funs,ok.frf⟩
section
variable {X:Cx}{pins:List (Addr × Obj)}{σ:St}{H:Hp}{s:Shared}{E:Value->Shared->Prop}
theorem Inv.wish (I:Inv X pins σ H s)(E:Value->Shared->Prop):Inv (X.wish E) pins σ H s:=⟨I.ok.wish E,I.os,I.bare,I.base,I.loc,I.cell,I.free,I.freeC,I.pin,I.hok,I.len⟩
theorem Inv.unwish (I:Inv (X.wish E) pins σ H s):Inv X pins σ H s:=⟨I.ok.unwish,I.os,I.bare,I.base,I.loc,I.cell,I.free,I.freeC,I.pin,I.hok,I.len⟩
theorem SP.unwish {D:Ends}{f:Flow}{s' : Shared}(h:SP (X.wish E) pins D f s'):SP X pins D f s':=by
 cases f with
 | next=>obtain⟨σ',H',I,q⟩:=h;exact⟨σ',H',I.unwish,q⟩
 | brk=>obtain⟨σ',H',I,q⟩:=h;exact⟨σ',H',I.unwish,q⟩
 | cont=>obtain⟨σ',H',I,q⟩:=h;exact⟨σ',H',I.unwish,q⟩
 | ret u=>obtain⟨v,σ',H',I,r,q⟩:=h;exact⟨v,σ',H',I.unwish,r,q⟩
theorem PSs.nox {st:List Stmt}{t:TS}(h:PSs X.nox st t):PSs X st t:=fun pins s σ H D I hw =>
 Dr (h pins s σ H D (I.wish _) hw) (fun _ _ q=>q.unwish) fun _ _ z=>False.elim z
end
section
variable {X:Cx}{st:Stmt}{rest:List Stmt}{t u:TS}{e:Expr}{te:TE}{pos:Pos}
noncomputable def z15:TS:=fun D σ H=>D.nx σ H
noncomputable def tSeq (t u:TS):TS:=fun D σ H=>t { D with nx:=u D } σ H
theorem z2z:PSs X [] z15:=fun _ _ σ H _ I h=>wpAny_execs_nil ⟨σ,H,I,h⟩
theorem zyc (h1:PS X st t) (h2:PSs X rest u):PSs X (st::rest) (tSeq t u):=by
  intro pins s σ H D I h;refine wpAny_execs_cons (thn (h1 pins s σ H { D with nx:=u D } I h) fun f s1 q=>?_);cases f with
  | next =>
    obtain⟨σ',H',I',q⟩:=q;exact h2 pins s1 σ' H' D I' q
  | ret v=>exact q
  | brk=>exact q
  | cont=>exact q
theorem z0z (h1:PS X st t):PSs X [st] t:=by
 intro pins s σ H D I h;refine wpAny_execs_cons (thn (h1 pins s σ H D I h) fun f s1 q=>?_);cases f with
 | next=>exact wpAny_execs_nil q
 | ret v=>exact q
 | brk=>exact q
 | cont=>exact q
theorem z1k:PS X (.Pass pos) z15:=fun _ _ σ H _ I h=>wpAny_Pass ⟨σ,H,I,h⟩
theorem Inv.quiet {pins:List (Addr × Obj)}{σ:St}{H:Hp}{s:Shared}(I:Inv X pins σ H s):interactive X.env=false:=by simp [interactive,I.ok.kind]
noncomputable def z73 (te:TE):TS:=fun D σ H=>te σ H fun _ H1=>D.nx σ H1
theorem z1j (he:PE X e te)(hs:swapsWith e none pos.line X.env=pure false:=by rfl):PS X (.Expr e pos) (z73 te):=by
 intro pins s σ H D I h;exact wpAny_Expr_any (thn (he pins s σ H _ I h) fun v s1 ⟨x,H1,I1,r1,q1⟩=>⟨σ,H1,I1,q1⟩) I.quiet hs
noncomputable def tRet (te:TE):TS:=fun D σ H=>te σ H D.rt
theorem zz2 (he:PE X e te):PS X (.Return (some e) pos) (tRet te):=by
 intro pins s σ H D I h;exact wpAny_Return_some (thn (he pins s σ H _ I h) fun v s1 ⟨x,H1,I1,r1,q1⟩=>⟨x,σ,H1,I1,r1,q1⟩)
noncomputable def tIfS (c:TT) (t u:TS):TS:=fun D σ H=>c σ H fun b H1=>if b=true then t D σ H1 else u D σ H1
theorem z8l {c:Expr}{a b:List Stmt}{tc:TT}(hc:PT X c tc)(ha:PSs X a t)(hb:PSs X b u):PS X (.If c a b pos) (tIfS tc t u):=by
 intro pins s σ H D I h;refine wpAny_If (thn (hc pins s σ H _ I h) fun d s1 ⟨H1,I1,q1⟩=>?_);cases d with
 | true=>exact ha pins s1 σ H1 D I1 q1
 | false=>exact hb pins s1 σ H1 D I1 q1
end
noncomputable abbrev TG:=V->St->Hp->(St->Hp->Prop)->Prop
noncomputable abbrev TGs:=List V->St->Hp->(St->Hp->Prop)->Prop
noncomputable def PG (X:Cx) (target:Expr) (t:TG):Prop :=
  ∀(pins:List (Addr × Obj)) (s:Shared) (σ:St) (H:Hp) (v:V) (u:Value) (Q:St->Hp->Prop),Inv X pins σ H s->RelV v u->t v σ H Q ->
    wpAny (model X.prog X.w) X.A (assign target X.env u) (fun _ s'=>∃σ' H',Inv X pins σ' H' s'/\Q σ' H') X.xe s
noncomputable def PGs (X:Cx) (ts:List Expr) (t:TGs):Prop :=
  ∀(pins:List (Addr × Obj)) (s:Shared) (σ:St) (H:Hp) (vs:List V) (us:List Value) (Q:St->Hp->Prop),Inv X pins σ H s->Vals vs us->t vs σ H Q ->
    wpAny (model X.prog X.w) X.A (assignInOrder ((assignEach ts X.env).map (·.2)) us) (fun _ s'=>∃σ' H',Inv X pins σ' H' s'/\Q σ' H') X.xe s
noncomputable abbrev TSet:=V->V->V->Hp->(Hp->Prop)->Prop
noncomputable def PSet (X:Cx) (t:TSet):Prop :=
  ∀(pins:List (Addr × Obj)) (s:Shared) (σ:St) (H:Hp) (o i v:V) (ov iv u:Value) (Q:Hp->Prop),Inv X pins σ H s->RelV o ov->RelV i iv->RelV v u->t o i v H Q ->
    wpAny (model X.prog X.w) X.A (setItem ov iv u) (fun _ s'=>∃H',Inv X pins σ H' s'/\Q H') X.xe s
noncomputable abbrev TIp:=V->V->Hp->VK->Prop
noncomputable def PIp (X:Cx) (op:Operator) (t:TIp):Prop :=
  ∀(pins:List (Addr × Obj)) (s:Shared) (σ:St) (H:Hp) (x y:V) (v u:Value) (Q:VK),Inv X pins σ H s->RelV x v->RelV y u->t x y H Q ->
    wpAny (model X.prog X.w) X.A (inplaceOp op v u) (EP X pins σ Q) X.xe s
section
variable {X:Cx}{pos:Pos}
noncomputable def zp8 (i:Nat):TG:=fun v σ H Q=>Q (σ.set i (some v)) H
theorem ztm {i:Nat}{x:Str}(hN:X.N.Nodup)(hi:X.N[i]?=some x)(hx:Loc X.env.scope x)(hf:X.fn x=true\/X.env.scope.names.lookup x=some .local:=by first | exact .inl rfl | exact .inr rfl | assumption):PG X (.Name x pos) (zp8 i):=by
 intro pins s σ H v u Q I r h;exact wpAny_assign_Name (zev I hN hi hx r (fun s' I'=>⟨_,H,I',h⟩) hf)
noncomputable def gNil:TGs:=fun vs σ H Q=>vs=[]/\Q σ H
noncomputable def z53 (t:TG) (u:TGs):TGs:=fun vs σ H Q=>∃v r,vs=v::r/\t v σ H fun σ' H'=>u r σ' H' Q
theorem z06:PGs X [] gNil:=by
 intro pins s σ H vs us Q I r h;obtain⟨e,h⟩:=h;subst e;cases r;exact assignInOrder_nil ⟨σ,H,I,h⟩
theorem zyz {e:Expr}{es:List Expr}{t:TG}{u:TGs} (h1:PG X e t) (h2:PGs X es u)
    (hs:(assignEach (e::es) X.env).map (·.2)=assign e X.env::(assignEach es X.env).map (·.2):=by rfl):PGs X (e::es) (z53 t u):=by
  intro pins s σ H vs us Q I r h;obtain⟨v,vr,e1,h⟩:=h;subst e1;cases r with
  | cons r rr =>
    rw[hs];refine assignInOrder_cons (thn (h1 pins s σ H _ _ _ I r h) fun _ s1 ⟨σ1,H1,I1,q1⟩=>?_);exact h2 pins s1 σ1 H1 _ _ Q I1 rr q1
noncomputable def gTup (K:PySem.W.Frag) (n:Nat) (t:TGs):TG:=fun v σ H Q=>∃a xs,v=.ref a/\SqT K H a xs/\xs.length=n/\t xs σ H Q
theorem z6y {es:List Expr}{k:Nat}{t:TGs}{n:Nat} (hc:X.calm=true) (h:PGs X es t)
  (hn:(assignEach es X.env).length=n:=by rfl) (hst:(assignEach es X.env).findIdx? (·.1)=none:=by rfl):PG X (.Tuple es k pos) (gTup X.K n t):=by
 intro pins s σ H v u Q I r hw;obtain⟨a,xs,e1,hq,hl,hw⟩:=hw;subst e1;cases r;obtain⟨its,rv,ht,hz⟩:=I.tuple hq;refine assign_Tuple_tuple (I.ok.hd hc) ht (by simp [hn,<-hl,rv.length]) hst fun h' hx=>?_;have I1:Inv X pins σ H { s with heap:=h' }:=I.kept (t':=s.toks) fun b o e=>hx b o (At (Ao e)) e;exact h pins _ σ H xs _ Q I1 (by simpa using rv) hw
noncomputable def gSub (to ti:TE) (t:TSet):TG:=fun v σ H Q=>to σ H fun o H1=>ti σ H1 fun i H2=>t o i v H2 fun H3=>Q σ H3
theorem zzn {o i:Expr}{to ti:TE}{t:TSet} (ho:PE X o to) (hi:PE X i ti) (hs:PSet X t)
  (ha:∀v,assign (.Subscript o i pos) X.env v=(do
   let ov <- holding [v] (eval o X.env)
   let iv <- holding [v,ov] (eval i X.env)
   standAt pos
   holding [v,ov,iv] (setItem ov iv v)
   release [v,ov,iv] []):=by intro _;rfl):PG X (.Subscript o i pos) (gSub to ti t):=by
 intro pins s σ H v u Q I r h;rw[ha];refine Aa (Co (thn (ho pins s σ H _ I h) fun ov s1 ⟨x,H1,I1,r1,q1⟩=>?_));refine Aa (Co (thn (hi pins s1 σ H1 _ I1 q1) fun iv s2 ⟨y,H2,I2,r2,q2⟩=>?_));refine Aa (Gz (Aa (Co (thn (hs pins s2 σ H2 x y v ov iv u _ I2 r1 r2 r q2) fun _ s3 ⟨H3,I3,q3⟩=>?_))));exact wpAny_release ⟨σ,H3,I3,q3⟩
noncomputable def tAsg (te:TE) (g:TG):TS:=fun D σ H=>te σ H fun x H1=>g x σ H1 D.nx
theorem zun {tg e:Expr}{te:TE}{g:TG} (he:PE X e te) (hg:PG X tg g) (hs:swapsWithSole [tg] e pos.line X.env=pure false:=by rfl) (hw:swappedStores [tg] e X.env=pure none:=by rfl)
  (h1:(assignEach [tg] X.env).map (·.2)=[assign tg X.env]:=by rfl):PS X (.Assign [tg] e pos) (tAsg te g):=by
 intro pins s σ H D I h;refine wpAny_Assign_stores (thn (he pins s σ H _ I h) fun v s1 ⟨x,H1,I1,r1,q1⟩=>?_) hs hw;rw[h1];exact thn (hg pins s1 σ H1 x v _ I1 r1 q1) fun _ s2 q=>q
theorem zz1 {i:Nat}{x:Str}{e:Expr}{te:TE}{pos' : Pos} (hN:X.N.Nodup) (hi:X.N[i]?=some x) (hx:Loc X.env.scope x) (he:PE X e te) (hs:swapsWith e (some (.Name x pos')) pos.line X.env=pure false:=by rfl) (hf:X.fn x=true\/X.env.scope.names.lookup x=some .local:=by first | exact .inl rfl | exact .inr rfl | assumption) :
  PS X (.Assign [.Name x pos'] e pos) (tAsg te (zp8 i)):=by
 intro pins s σ H D I h;refine wpAny_Assign_Name (thn (he pins s σ H _ I h) fun v s1 ⟨y,H1,I1,r1,q1⟩=>?_) hs;exact zev I1 hN hi hx r1 (fun s2 I2=>⟨_,H1,I2,q1⟩) hf
noncomputable def tPar (i j:Nat) (ta:TA):TS:=fun D σ H=>ta σ H fun vs H1=>∃v w,vs=[v,w]/\D.nx ((σ.set i (some v)).set j (some w)) H1
theorem z4q {i j:Nat}{x y:Str}{a b:Expr}{ta:TA}{px py pt:Pos}{kt k2 pt2} (hc:X.calm=true) (hN:X.N.Nodup) (hi:X.N[i]?=some x) (hj:X.N[j]?=some y) (hij:i≠j)
    (hx:X.env.scope.names.lookup x=some .local) (hy:X.env.scope.names.lookup y=some .local) (ha:PA X [a,b] ta)
    (hw:swappedStores [.Tuple [.Name x px,.Name y py] kt pt] (.Tuple [a,b] k2 pt2) X.env=pure (some [x,y]))
    (hs:swapsWithSole [.Tuple [.Name x px,.Name y py] kt pt] (.Tuple [a,b] k2 pt2) pos.line X.env=pure false:=by rfl) :
    PS X (.Assign [.Tuple [.Name x px,.Name y py] kt pt] (.Tuple [a,b] k2 pt2) pos) (tPar i j ta):=by
  intro pins s σ H D I h;rw [exec_Assign_arm];refine Aa (Gz ?_);rw [hs];refine Aa (Ai ?_);rw [if_neg (by decide)];refine Aa (Tuple_ (thn (ha _ pins s σ H _ I h) fun us s1 ⟨vs,H1,I1,r1,q1⟩=>?_));obtain ⟨v,w,e1,q1⟩:=q1;subst e1;obtain ⟨u1,u2,rfl,rv,rw'⟩ : ∃u1 u2,us=[u1,u2]/\RelV v u1/\RelV w u2:=by
    cases r1 with
    | cons p q =>
      cases q with
      | cons p' q' =>
        cases q';exact⟨_,_,rfl,p,p'⟩
  refine Cd ?_ (by show 2<=sizeLine;decide);have I2:Inv X pins σ H1 { s1 with heap:=s1.heap.push { cls:=.type "tuple",data:=.seq [u1,u2].toArray } }:=I1.kept (t':=s1.toks) fun b o e=>Af _ e;rw[hw];refine Aa (Ai ?_);show wpAny (model X.prog X.w) X.A (do rule "assign.swapped-stores";let items <- unpackItems (.ref s1.heap.objs.size) 2 none;assignInOrder [fun v=>bindName X.env y v,fun v=>bindName X.env x v] items.reverse;pure Flow.next) _ _ _;refine Aa (Eo (Aa (unpackItems_tuple (items:=#[u1,u2]) (I.ok.hd hc) (IsTup.new s1.heap _) fun h' hx'=>?_)));have I3:=I2.kept (h':=h') (t':=s1.toks) fun b o e=>hx' b o (At (Ao e)) e;show wpAny _ _ (assignInOrder [fun v=>bindName X.env y v,fun v=>bindName X.env x v] [u2,u1] >>= fun _=>pure Flow.next) _ _ _;refine Aa (assignInOrder_cons (wpAny_bindName (zev I3 hN hj (.inl hy) rw' (fun s2 I4=>?_) (.inr hy))));refine assignInOrder_cons (wpAny_bindName (zev I4 hN hi (.inl hx) rv (fun s3 I5=>assignInOrder_nil (Ai ?_)) (.inr hx)));rw[List.set_comm _ _ (Ne.symm hij)] at I5;exact⟨_,H1,I5,q1⟩
noncomputable def tAug (i:Nat) (te:TE) (ti:TIp):TS:=fun D σ H=>∃x,σ[i]?=some (some x)/\te σ H fun y H1=>ti x y H1 fun z H2=>D.nx (σ.set i (some z)) H2
theorem z4u {i:Nat}{x:Str}{e:Expr}{te:TE}{op:Operator}{ti:TIp}{pos' : Pos} (hN:X.N.Nodup) (hi:X.N[i]?=some x) (hx:Loc X.env.scope x) (he:PE X e te) (ho:PIp X op ti) (hf:X.fn x=true\/X.env.scope.names.lookup x=some .local:=by first | exact .inl rfl | exact .inr rfl | assumption) :
  PS X (.AugAssign (.Name x pos') op e pos) (tAug i te ti):=by
 intro pins s σ H D I h;obtain⟨v,e1,h⟩:=h;obtain⟨m,hn,hl⟩:=I.loc;have vis:Vis X.env.scope x:=by rcases hx with k | k;exact .inl k;exact .inr (.inl k)
 obtain⟨u,r,l⟩:=hl i x v hi e1 vis;refine wpAny_AugAssign_Name ?_;have go:wpAny (model X.prog X.w) X.A (eval e X.env) (fun w s₂=>wpAny (model X.prog X.w) X.A (inplaceOp op u w) (fun r s₃=>wpAny (model X.prog X.w) X.A (storeName X.env x r) (fun _=>SP X pins D .next) X.xe s₃) X.xe s₂) X.xe s:=by
  refine thn (he pins s σ H _ I h) fun w s1 ⟨y,H1,I1,r1,q1⟩=>?_;refine thn (ho pins s1 σ H1 v y u w _ I1 r r1 q1) fun z s2 ⟨zv,H2,I2,r2,q2⟩=>?_;exact zev I2 hN hi hx r2 (fun s3 I3=>⟨_,H2,I3,q2⟩) hf
 rcases l with ⟨hk,hm⟩ | ⟨hk,c,hc,hcell⟩
 ·exact wpAny_loadName_local I.ok.kind hk hn hm go
 ·rcases hk with hk | hk
  ·exact wpAny_loadName_cell I.ok.kind hk hc hcell go
  ·rcases hx with k | k
   ·have : X.env.scope.names.lookup x = some .free := hk;rw[k] at this;cases this
   ·have : X.env.scope.names.lookup x = some .free := hk;rw[k] at this;cases this
end
section
variable {X:Cx}{pos:Pos}
end
structure It where
 go:Nat->Hp->Prop
 yld:Nat->Hp->V->Hp->Prop
 stop:Nat->Hp->Prop
noncomputable def FpOk (X:Cx) (pins:List (Addr × Obj)) (H:Hp) (b:Addr):Prop :=
 H b=none/\b≠X.env.locals/\b ∉ X.fs/\(b∈X.ex\/X.s₀.heap.objs.size<=b)/\(∀x c,X.env.cells.lookup x=some c->c≠b)/\∀p∈X.pn++pins,p.1≠b
theorem Inv.fpOk {X:Cx}{pins:List (Addr × Obj)}{σ:St}{H H' : Hp}{s:Shared}{b:Addr}(I:Inv X pins σ H s)(hb:s.heap.objs.size<=b)(hn:H' b=none):FpOk X pins H' b:=by
 refine⟨hn,Ge (Be I.lt hb),I.nofs hb,.inr (Cq I.sz hb),fun x c e z=>?_,fun p hp z=>?_⟩
 ·obtain⟨v, q⟩ := I.cell x c e;exact absurd (Be q.lt (by rw[z];exact hb)) (Bx _)
 ·exact absurd (Be (Ao (I.pin p hp).1) (by rw[z];exact hb)) (Bx _)
structure Turn (P:Program) (w:World) (K:PySem.W.Frag) (tg:Expr) (J:It) (fp:List Addr) (it:Addr) (tn:Nat->Heap->Prop):Prop where
 mem:it∈fp
 obj:∀i h,tn i h->∀b∈fp,∃o,h.get? b=some o/\∀v,o.data≠.cell v
 keep:∀i h h',tn i h->(∀b∈fp,∀o,h.get? b=some o->h'.get? b=some o)->tn i h'
 item:∀(X:Cx),X.prog=P->X.w=w->X.K=K->X.calm=true->∀(i:Nat) (pins:List (Addr × Obj)) (s:Shared) (σ:St) (H:Hp) (E:Value->Shared->Prop),Inv X pins σ H s->(∀b∈fp,FpOk X pins H b)->tn i s.heap->J.go i H ->
  wpAny (model P w) X.A (pyNext (.ref it)) (fun r s1=>∃u,r=some u /\
   wpAny (model P w) X.A (letOwnedTupleGo tg (.ref it) u) (fun _ s2=>∃x H',Inv X pins σ H' s2/\RelV x u/\J.yld i H x H'/\tn (i+1) s2.heap/\∀b∈fp,H' b=none) E s1) E s
 done:∀(X:Cx),X.prog=P->X.w=w->X.K=K->X.calm=true->∀(i:Nat) (pins:List (Addr × Obj)) (s:Shared) (σ:St) (H:Hp) (E:Value->Shared->Prop),Inv X pins σ H s->(∀b∈fp,FpOk X pins H b)->tn i s.heap->J.stop i H ->
  wpAny (model P w) X.A (pyNext (.ref it)) (fun r s1=>r=none/\Inv X pins σ H s1) E s
 self:∀(A:Around) (i:Nat) (s:Shared) (Q:Value->Shared->Prop) (E:Value->Shared->Prop),tn i s.heap->Q (.ref it) s->wpAny (model P w) A (pyIter (.ref it)) Q E s
noncomputable abbrev TI:=St->Hp->(It->Hp->Prop)->Prop
noncomputable def PIE (X:Cx) (pins:List (Addr × Obj)) (σ:St) (tg:Expr) (R:It->Hp->Prop) (itv:Value) (s2:Shared):Prop :=
 ∃(it:Addr) (fp:List Addr) (tn:Nat->Heap->Prop) (J:It) (H' : Hp),itv=.ref it/\Inv X pins σ H' s2/\Turn X.prog X.w X.K tg J fp it tn/\tn 0 s2.heap/\(∀b∈fp,FpOk X pins H' b)/\R J H'
noncomputable def PI (X:Cx) (tg iter:Expr) (wi:TI):Prop :=
  ∀(pins:List (Addr × Obj)) (s:Shared) (σ:St) (H:Hp) (R:It->Hp->Prop),Inv X pins σ H s->wi σ H R ->
    wpAny (model X.prog X.w) X.A (eval iter X.env) (fun v s1=>wpAny (model X.prog X.w) X.A (pyIter v) (PIE X pins σ tg R) X.xe s1) X.xe s
theorem zv3 {M:Model}{A:Around}{E:Value->Shared->Prop}{s:Shared}{tg:Expr}{it:Addr}{u:Value}{o:Obj}{n:String}{vs:Array Value}{Q:Unit->Shared->Prop} (ho:s.heap.get? it=some o) (hc:o.cls=.type n) (hd:o.data=.fields vs)
    (hn:["enumerate","zip","dict_itemiterator","dict_reverseitemiterator","odict_iterator","itertools.zip_longest","itertools.pairwise"].contains n=false) (hQ:Q () s):wpAny M A (letOwnedTupleGo tg (.ref it) u) Q E s:=by
  unfold letOwnedTupleGo;cases tg<;>first
    | exact Ai hQ
    | (cases u<;>first
        | exact Ai hQ
        | (refine Aa (wpAny_load ho ?_)
           rw[hc,hd];show wpAny M A (if (["enumerate","zip","dict_itemiterator","dict_reverseitemiterator","odict_iterator","itertools.zip_longest","itertools.pairwise"].contains n && vs[0]? == some (rawInt _))=true then _ else _) Q E s;rw[if_neg (by intro h;rw[hn,Es] at h;cases h)];exact Ai hQ))
noncomputable def Itl (K:PySem.W.Frag) (a:Addr):It :=
 ⟨fun i H=>∃xs x,SqL K H a xs/\xs[i]?=some x,fun i H x H'=>H'=H/\∀xs,SqL K H a xs->xs[i]?=some x,fun i H=>∃xs,SqL K H a xs/\xs.length<=i⟩
noncomputable def Itt (K:PySem.W.Frag) (a:Addr):It :=
 ⟨fun i H=>∃xs x,SqT K H a xs/\xs[i]?=some x,fun i H x H'=>H'=H/\∀xs,SqT K H a xs->xs[i]?=some x,fun i H=>∃xs,SqT K H a xs/\xs.length<=i⟩
noncomputable def Itr (lo:Int) (n:Nat):It:=⟨fun i _=>i < n,fun i H x H'=>H'=H/\x=.int (lo+i),fun i _=>n<=i⟩
theorem zt8 {P:Program}{w:World}{K:PySem.W.Frag}{tg:Expr}(a it:Addr):Turn P w K tg (Itl K a) [it] it (fun i h=>h.IsListIter it a i) where
 mem:=by simp
 obj:=fun i h st b hb=>by
  have e:b=it:=by simpa using hb
  subst e;obtain⟨o,e,c,d⟩:=st;exact⟨o,e,fun v z=>by rw[d] at z;cases z⟩
 keep:=fun i h h' st k=>st.at fun o e=>k it (by simp) o e
 item:=by
  intro X hP hw hK hc i pins s σ H E I hf st hg;subst hP hw hK;obtain⟨xs,x,hq,hx⟩:=hg;obtain⟨its,rv,p,hz⟩:=I.list hq;obtain⟨u,hu,ru⟩:=rv.get hx;obtain⟨f0,f1,f2,f3,f4,f5⟩:=hf it (by simp);refine wpAny_pyNext_list_item st p.isList (x:=u) (by simpa using hu) fun h' st' sb=>?_;have I1:Inv X pins σ H { s with heap:=h' }:=I.turned (t':=s.toks) (fun b o hb e=>(sb.2 b hb).trans e) f0 f1 f3 f4 f5;obtain⟨o,e,c,d⟩:=id st';exact⟨u,rfl,zv3 (s:={ s with heap:=h' }) e c d #v[0,9] ⟨x,H,I1,ru,⟨rfl,fun ys hy=>by rw[I.list_inj hy hq];exact hx⟩,st',fun b hb=>(hf b hb).1⟩⟩
 done:=by
  intro X hP hw hK hc i pins s σ H E I hf st hg;subst hP hw hK;obtain⟨xs,hq,hx⟩:=hg;obtain⟨its,rv,p,hz⟩:=I.list hq;obtain⟨f0,f1,f2,f3,f4,f5⟩:=hf it (by simp);have hl:=rv.length;exact wpAny_pyNext_list_end (I.ok.hd hc) st p.isList (by simp;omega) fun h' eb=>⟨rfl,I.turned (t':=s.toks) (fun b o hb e=>eb b o hb e) f0 f1 f3 f4 f5⟩
 self:=fun _ _ _ _ _ st h=>wpAny_pyIter_listiter st h
theorem zrn {P:Program}{w:World}{K:PySem.W.Frag}{tg:Expr}(a it:Addr):Turn P w K tg (Itt K a) [it] it (fun i h=>h.IsTupleIter it a i) where
 mem:=by simp
 obj:=fun i h st b hb=>by
  have e:b=it:=by simpa using hb
  subst e;obtain⟨o,e,c,d⟩:=st;exact⟨o,e,fun v z=>by rw[d] at z;cases z⟩
 keep:=fun i h h' st k=>st.at fun o e=>k it (by simp) o e
 item:=by
  intro X hP hw hK hc i pins s σ H E I hf st hg;subst hP hw hK;obtain⟨xs,x,hq,hx⟩:=hg;obtain⟨its,rv,p,hz⟩:=I.tuple hq;obtain⟨u,hu,ru⟩:=rv.get hx;obtain⟨f0,f1,f2,f3,f4,f5⟩:=hf it (by simp);refine wpAny_pyNext_tuple_item st (show s.heap.IsTuple a its.toArray from p) (x:=u) (by simpa using hu) fun h' st' sb=>?_;have I1:Inv X pins σ H { s with heap:=h' }:=I.turned (t':=s.toks) (fun b o hb e=>(sb.2 b hb).trans e) f0 f1 f3 f4 f5;obtain⟨o,e,c,d⟩:=id st';exact⟨u,rfl,zv3 (s:={ s with heap:=h' }) e c d #v[0,9] ⟨x,H,I1,ru,⟨rfl,fun ys hy=>by rw[I.tuple_inj hy hq];exact hx⟩,st',fun b hb=>(hf b hb).1⟩⟩
 done:=by
  intro X hP hw hK hc i pins s σ H E I hf st hg;subst hP hw hK;obtain⟨xs,hq,hx⟩:=hg;obtain⟨its,rv,p,hz⟩:=I.tuple hq;obtain⟨f0,f1,f2,f3,f4,f5⟩:=hf it (by simp);have hl:=rv.length;exact wpAny_pyNext_tuple_end (I.ok.hd hc) st (show s.heap.IsTuple a its.toArray from p) (by simp;omega) fun h' eb=>⟨rfl,I.turned (t':=s.toks) (fun b o hb e=>eb b o hb e) f0 f1 f3 f4 f5⟩
 self:=fun _ _ _ _ _ st h=>wpAny_pyIter_tupleiter st h
theorem zqe {P:Program}{w:World}{K:PySem.W.Frag}{tg:Expr}(it:Addr)(lo:Int)(n:Nat):Turn P w K tg (Itr lo n) [it] it (fun i h=>IsRangeIter h it (lo+(i:Nat) * 1) ((n:Int) - (i:Nat)) 1) where
 mem:=by simp
 obj:=fun i h st b hb=>by
  have e:b=it:=by simpa using hb
  subst e;exact⟨_,st,fun v z=>by
   have z' : Data.fields _=Data.cell v:=z;cases z'⟩
 keep:=fun i h h' st k=>k it (by simp) _ st
 item:=by
  intro X hP hw hK hc i pins s σ H E I hf st hg;subst hP hw hK;obtain⟨f0,f1,f2,f3,f4,f5⟩:=hf it (by simp);have W:=Walks.range (prog:=X.prog) (w:=X.w) (I.ok.hd hc) it lo 1 n;refine W.item i s _ _ hg st fun v h' tk hv st' kk=>?_;obtain⟨t,rfl⟩:=hv;have I1:Inv X pins σ H { s with heap:=h',toks:=tk }:=I.turned (fun b o hb e=>kk b o (by simpa using hb) e) f0 f1 f3 f4 f5;refine⟨_,rfl,zv3 (s:={ s with heap:=h',toks:=tk }) (n := "range_iterator") st' rfl rfl #v[0,9] ⟨.int (lo+i),H,I1,⟨t,?_⟩,⟨rfl,rfl⟩,st',fun b hb=>(hf b hb).1⟩⟩;rw[Int.mul_one]
 done:=by
  intro X hP hw hK hc i pins s σ H E I hf st hg;subst hP hw hK;obtain⟨f0,f1,f2,f3,f4,f5⟩:=hf it (by simp);exact wpAny_pyNext_range_end (I.ok.hd hc) st (by have:n<=i:=hg;omega) fun h' eb=>⟨rfl,I.turned (t':=s.toks) (fun b o hb e=>eb b o hb e) f0 f1 f3 f4 f5⟩
 self:=fun _ _ _ _ _ st h=>wpAny_pyIter_rangeiter st h
section
variable {X:Cx}{tg:Expr}
theorem zyu {pins:List (Addr × Obj)}{σ:St}{H:Hp}{s:Shared}{R:It->Hp->Prop}{E:Value->Shared->Prop}{lo hi:Int}{t u v:Tok}{tk:Nat} (I:Inv X pins σ H s) (h1:-(2 ^ 62)<=lo) (h2:lo < 2 ^ 62) (h3:-(2 ^ 62)<=hi) (h4:hi < 2 ^ 62)
  (q:R (Itr lo (hi - lo).toNat) H):wpAny (model X.prog X.w) X.A (pyIter (.ref s.heap.objs.size)) (PIE X pins σ tg R) E { s with heap:=s.heap.push { cls:=.type "range",data:=.fields #[.int lo t,.int hi u,.int 1 v] },toks:=tk }:=by
 refine wpAny_pyIter_range (IsRange.new ..) (small_one h1 h2 h3 h4) ?_;have I1:Inv X pins σ H { s with heap:=s.heap.push { cls:=.type "range",data:=.fields #[.int lo t,.int hi u,.int 1 v] },toks:=tk }:=I.kept fun b o e=>Af _ e;refine⟨(s.heap.push { cls:=.type "range",data:=.fields #[.int lo t,.int hi u,.int 1 v] }).objs.size,[(s.heap.push { cls:=.type "range",data:=.fields #[.int lo t,.int hi u,.int 1 v] }).objs.size],_,_,H,rfl,
  I1.kept (t':=tk) fun b o e=>Af _ e,zqe _ lo (hi - lo).toNat,?_,fun b hb=>?_,q⟩
 ·have e1 : lo + ((0 : Nat) : Int) * 1 = lo := by simp
  have e2:(((hi - lo).toNat:Nat):Int) - ((0:Nat):Int)=Builtin.Range.rangeSize lo hi 1:=by rw[rangeSize_one];split<;>omega
  show IsRangeIter _ _ (lo+((0:Nat):Int) * 1) ((((hi - lo).toNat:Nat):Int) - ((0:Nat):Int)) 1;rw[e1,e2];exact As _ rfl
 ·have e : b = (s.heap.push { cls := .type "range", data := .fields #[.int lo t, .int hi u, .int 1 v] }).objs.size := by simpa using hb
  subst e;exact I1.fpOk (Ae _) (I1.hok.fresh (Ae _))
noncomputable def z46 (ta:TA):TI:=fun σ H R=>ta σ H fun vs H1=>∃j:Int,vs=[.int j]/\-(2 ^ 62)<=j/\j < 2 ^ 62/\R (Itr 0 j.toNat) H1
theorem zsu {a:Expr}{ta:TA}{p pos:Pos} (hg:Gl X "range") (hm:X.mg "range" = none) (ha:PA X [a] ta) (hs:starEach [a] X.env=[(false,eval a X.env)]:=by rfl):PI X tg (.Call (.Name "range" p) [a] [] pos) (z46 ta):=by
  intro pins s σ H R I h;refine Call_ (zhz I hg hm boot_range (Em (thn (ha pos pins s σ H _ I h) fun us s1 ⟨vs,H1,I1,r1,q1⟩=>?_) hs rfl));obtain⟨j,e,q1,q2,q⟩:=q1;subst e;cases r1 with
  | cons r rr =>
    cases rr;obtain⟨t,rfl⟩:=r;exact call_range_1 (zyu I1 #v[] #v[] q1 q2 (by simpa using q))
noncomputable def tFor (wi:TI) (g:TG) (tb:TS):TS:=fun D σ H=>wi σ H fun J H1=>∃W:Nat->Nat->St->Hp->Prop,(∃m,W 0 m σ H1)/\∀i m σ H,W i m σ H ->
 (J.stop i H/\D.nx σ H)\/(J.go i H/\∃N:St->Hp->Prop,(∀σ' H',N σ' H'->∃m',m' < m/\W (i+1) m' σ' H')/\∀x H',J.yld i H x H'->g x σ H' fun σ2 H2=>tb { D with nx:=N,ct:=N,bk:=D.nx } σ2 H2)
noncomputable def zka (fp:List Addr) (h:Heap):List (Addr × Obj):=fp.filterMap fun b=>(h.get? b).map fun o=>(b,o)
theorem zd5 {fp:List Addr}{h:Heap}{b:Addr}{o:Obj}(hb:b∈fp)(e:h.get? b=some o):(b,o)∈zka fp h:=List.mem_filterMap.mpr ⟨b,hb,by rw[e];rfl⟩
theorem zru {fp:List Addr}{h:Heap}{p:Addr × Obj} (hp:p∈zka fp h):p.1∈fp/\h.get? p.1=some p.2:=by
  obtain⟨b,hb,e⟩:=List.mem_filterMap.mp hp;cases q:h.get? b with
  | none=>rw[q] at e;cases e
  | some o =>
    rw[q] at e;have e' : (b,o)=p:=sI e;subst e';exact⟨hb,q⟩
theorem Inv.pinned {pins:List (Addr × Obj)}{σ:St}{H:Hp}{s:Shared}{fp:List Addr}(I:Inv X pins σ H s)(hf:∀b∈fp,FpOk X pins H b)(ho:∀b∈fp,∃o,s.heap.get? b=some o/\∀v,o.data≠.cell v):Inv X (pins++zka fp s.heap) σ H s :=
 I.pins_of fun p hp=>(Bd.mp hp).elim (fun z=>I.pin p (Bc _ z)) fun z=>by
  obtain⟨hb,e⟩:=zru z;obtain⟨f0,f1,f2,_⟩:=hf p.1 hb;obtain⟨o,e',d⟩:=ho p.1 hb;rw[e] at e';cases e';exact⟨e,f0,f1,f2,d⟩
theorem Inv.unpinned {pins pl:List (Addr × Obj)}{σ:St}{H:Hp}{s:Shared}(I:Inv X (pins++pl) σ H s):Inv X pins σ H s:=I.pins_of fun p hp=>I.pin p (Bc _ (Bk _ hp))
theorem z7i {iter:Expr}{body:List Stmt}{wi:TI}{g:TG}{tb:TS}{pos:Pos} (hp:PassesOwn (model X.prog X.w) X.A X.env X.xe) (hc:X.calm=true) (hi:PI X tg iter wi) (hg:PG X tg g) (hb:PSs X body tb)
  (hs:∀x,foldedSetIterable iter X.env x=pure x:=by intro _;rfl):PS X (.For tg iter body [] pos) (tFor wi g tb):=by
 intro pins s σ H D I h;refine wpAny_For (thn (hi pins s σ H _ I h) fun v s1 h1=>thn h1 fun itv s2 h2=>?_) hs;obtain⟨it,fp,tn,J,H2,e,I2,T,st2,f2,W,⟨m0,w0⟩,turn⟩:=h2;subst e;have stat:∀{H' : Hp},(∀b∈fp,H' b=none)->∀b∈fp,FpOk X pins H' b:=fun hn b hb=>⟨hn b hb,(f2 b hb).2⟩;refine codeAny_forLoop_any (fun n s'=>∃i σ' H',Inv X pins σ' H' s'/\tn i s'.heap/\(∀b∈fp,H' b=none)/\W i n σ' H') ?_ m0 ⟨0,σ,H2,I2,st2,fun b hb=>(f2 b hb).1,w0⟩;rintro n s3 ⟨i,σ3,H3,I3,st3,fr3,w3⟩;rcases turn i n σ3 H3 w3 with ⟨stop,qn⟩ | ⟨go,N,hN,step⟩
 ·refine Gk hp (thn (T.done X rfl rfl rfl hc i pins s3 σ3 H3 X.xe I3 (stat fr3) st3 stop) fun r s4 ⟨hr, I4⟩ => ?_);subst hr;exact wpAny_execs_nil ⟨σ3,H3,I4,qn⟩
 ·refine Gk hp (thn (T.item X rfl rfl rfl hc i pins s3 σ3 H3 X.xe I3 (stat fr3) st3 go) fun r s4 ⟨u, hr, h4⟩ => ?_);subst hr;refine Gk hp (thn h4 fun _ s5 ⟨x,H5,I5,r5,y5,st5,fr5⟩=>?_);have I5':=I5.pinned (stat fr5) (T.obj _ _ st5);refine Gk hp (thn (hg _ s5 σ3 H5 x u _ I5' r5 (step x H5 y5)) fun _ s6 ⟨σ6,H6,I6,q6⟩=>?_);refine Gk hp (thn (hb _ s6 σ6 H6 _ I6 q6) fun f s7 q7=>?_);have again:∀{σ7:St}{H7:Hp},Inv X (pins++zka fp s5.heap) σ7 H7 s7->N σ7 H7->∃m,m < n/\∃i σ' H',Inv X pins σ' H' s7/\tn i s7.heap/\(∀b∈fp,H' b=none)/\W i m σ' H':=fun {σ7 H7} I7 n7=>by
   obtain⟨m',hm,w7⟩:=hN σ7 H7 n7;refine⟨m',hm,i+1,σ7,H7,I7.unpinned,T.keep _ _ _ st5 fun b hb o e=>(I7.pin (b,o) (Bc _ (Bc _ (zd5 hb e)))).1,fun b hb=>?_,w7⟩;obtain⟨o,e,d⟩:=T.obj _ _ st5 b hb;exact (I7.pin (b,o) (Bc _ (Bc _ (zd5 hb e)))).2.1
  cases f with
  | next=>obtain⟨σ7,H7,I7,n7⟩:=q7;exact again I7 n7
  | cont=>obtain⟨σ7,H7,I7,n7⟩:=q7;exact again I7 n7
  | brk=>obtain⟨σ7,H7,I7,q7⟩:=q7;exact⟨σ7,H7,I7.unpinned,q7⟩
  | ret v=>obtain⟨x7,σ7,H7,I7,r7,q7⟩:=q7;exact⟨x7,σ7,H7,I7.unpinned,r7,q7⟩
end
noncomputable abbrev R2:=V->V->Hp->VK->Prop
noncomputable def OpR (X:Cx) (f:Value->Value->Sem Value) (r:R2):Prop :=
  ∀(pins:List (Addr × Obj)) (s:Shared) (σ:St) (H:Hp) (x y:V) (v u:Value) (Q:VK),Inv X pins σ H s->RelV x v->RelV y u->r x y H Q ->
    wpAny (model X.prog X.w) X.A (f v u) (EP X pins σ Q) X.xe s
noncomputable def UnR (X:Cx) (f:Value->Sem Value) (r:V->Hp->VK->Prop):Prop :=
  ∀(pins:List (Addr × Obj)) (s:Shared) (σ:St) (H:Hp) (x:V) (v:Value) (Q:VK),Inv X pins σ H s->RelV x v->r x H Q ->
    wpAny (model X.prog X.w) X.A (f v) (EP X pins σ Q) X.xe s
noncomputable def zb5 (X:Cx) (f:Value) (r:List V->Hp->VK->Prop):Prop :=
  ∀(pins:List (Addr × Obj)) (s:Shared) (σ:St) (H:Hp) (xs:List V) (us:List Value) (Q:VK),Inv X pins σ H s->Vals xs us->r xs H Q ->
    wpAny (model X.prog X.w) X.A (call f us) (EP X pins σ Q) X.xe s
noncomputable def tOp (r:R2) (ta tb:TE):TE:=fun σ H Q=>ta σ H fun x H1=>tb σ H1 fun y H2=>r x y H2 Q
noncomputable def tUn (r:V->Hp->VK->Prop) (ta:TE):TE:=fun σ H Q=>ta σ H fun x H1=>r x H1 Q
noncomputable def rI (C:Int->Int->Prop) (g:Int->Int->V):R2:=fun x y H Q=>∃i j,x=.int i/\y=.int j/\C i j/\Q (g i j) H
noncomputable def rI0 (g:Int->Int->V):R2:=fun x y H Q=>∃i j,x=.int i/\y=.int j/\Q (g i j) H
noncomputable def rU (g:Int->V):V->Hp->VK->Prop:=fun x H Q=>∃i,x=.int i/\Q (g i) H
section
variable {X:Cx}{a b c:Expr}{ta tb tc:TE}{pos:Pos}
theorem binT (ha:PE X a ta) (hb:PE X b tb) {pins:List (Addr × Obj)}{s:Shared}{σ:St}{H:Hp}{R:V->V->Hp->Prop} (I:Inv X pins σ H s)
  (h:ta σ H fun x H1=>tb σ H1 fun y H2=>R x y H2) {Q:Value->Shared->Prop}{f:Value->Value->Sem Value}
  (hf:∀v u s2 x y H2,Inv X pins σ H2 s2->RelV x v->RelV y u->R x y H2->wpAny (model X.prog X.w) X.A (f v u) Q X.xe s2) :
  wpAny (model X.prog X.w) X.A (eval a X.env) (fun v s₁=>wpAny (model X.prog X.w) X.A (eval b X.env) (fun u s₂=>wpAny (model X.prog X.w) X.A (f v u) Q X.xe s₂) X.xe s₁) X.xe s:=by
 refine thn (ha pins s σ H _ I h) fun v s1 ⟨x,H1,I1,r1,q1⟩=>?_;refine thn (hb pins s1 σ H1 _ I1 q1) fun u s2 ⟨y,H2,I2,r2,q2⟩=>?_;exact hf v u s2 x y H2 I2 r1 r2 q2
theorem z93 {op:Operator}{r:R2}(ho:OpR X (binaryOp op) r)(ha:PE X a ta)(hb:PE X b tb):PE X (.BinOp a op b pos) (tOp r ta tb):=by
 intro pins s σ H Q I h;exact wpAny_BinOp (binT ha hb I h fun v u s2 x y H2 I2 rx ry q=>ho pins s2 σ H2 x y v u Q I2 rx ry q)
theorem z8j {op:UnaryOp}{r:V->Hp->VK->Prop}(ho:UnR X (unaryOp op) r)(ha:PE X a ta):PE X (.UnaryOp op a pos) (tUn r ta):=by
 intro pins s σ H Q I h;exact UnaryOp_ (thn (ha pins s σ H _ I h) fun v s1 ⟨x,H1,I1,r1,q1⟩=>ho pins s1 σ H1 x v Q I1 r1 q1)
theorem opI {f:Value->Value->Sem Value}{C:Int->Int->Prop}{g:Int->Int->Int}
  (rule:∀(i j:Int) (t u:Tok) (s:Shared) (Q:Value->Shared->Prop) (E:Value->Shared->Prop),C i j->Q (.int (g i j) s.toks) { s with toks:=s.toks+1 }->wpAny (model X.prog X.w) X.A (f (.int i t) (.int j u)) Q E s) :
  OpR X f (rI C fun i j=>.int (g i j)):=by
 intro pins s σ H x y v u Q I rx ry h;obtain⟨i,j,rfl,rfl,hc,q⟩:=h;obtain⟨t,rfl⟩:=rx;obtain⟨t',rfl⟩:=ry;exact rule i j t t' s _ _ hc ⟨.int (g i j),H,I.tok _,⟨_,rfl⟩,q⟩
theorem opI0 {f:Value->Value->Sem Value}{g:Int->Int->Int}
  (rule:∀(i j:Int) (t u:Tok) (s:Shared) (Q:Value->Shared->Prop) (E:Value->Shared->Prop),Q (.int (g i j) s.toks) { s with toks:=s.toks+1 }->wpAny (model X.prog X.w) X.A (f (.int i t) (.int j u)) Q E s) :
  OpR X f (rI0 fun i j=>.int (g i j)):=by
 intro pins s σ H x y v u Q I rx ry h;obtain⟨i,j,rfl,rfl,q⟩:=h;obtain⟨t,rfl⟩:=rx;obtain⟨t',rfl⟩:=ry;exact rule i j t t' s _ _ ⟨.int (g i j),H,I.tok _,⟨_,rfl⟩,q⟩
theorem opB0 {f:Value->Value->Sem Value}{g:Int->Int->Bool}
  (rule:∀(i j:Int) (t u:Tok) (s:Shared) (Q:Value->Shared->Prop) (E:Value->Shared->Prop),Q (.bool (g i j)) s->wpAny (model X.prog X.w) X.A (f (.int i t) (.int j u)) Q E s) :
  OpR X f (rI0 fun i j=>.bl (g i j)):=by
 intro pins s σ H x y v u Q I rx ry h;obtain⟨i,j,rfl,rfl,q⟩:=h;obtain⟨t,rfl⟩:=rx;obtain⟨t',rfl⟩:=ry;exact rule i j t t' s _ _ ⟨.bl (g i j),H,I,rfl,q⟩
noncomputable def CPow (i j:Int):Prop:=0<=j/\j<=1000000/\i.natAbs < 2 ^ 64
noncomputable def CMul (i j:Int):Prop:=(-(2 ^ 64) < i/\i < 2 ^ 64)\/(-(2 ^ 64) < j/\j < 2 ^ 64)
theorem CMul.ok {i j:Int}(h:CMul i j):IntMulOk i j:=by
 rcases h with ⟨h1,h2⟩ | ⟨h1,h2⟩
 ·exact .of_left (intBits_le_64 h1 h2)
 ·exact .of_right (intBits_le_64 h1 h2)
theorem zqu (k:Nat):(0:Int)<=2 ^ k:=by
 rw[two_pow_cast];exact Int.natCast_nonneg _
theorem z5u:OpR X (binaryOp .Add) (rI0 fun i j=>.int (i+j)):=opI0 fun _ _ _ _ _ _ _ q=>add_int q
theorem z7o:OpR X (binaryOp .Sub) (rI0 fun i j=>.int (i - j)):=opI0 fun _ _ _ _ _ _ _ q=>sub_int q
theorem z33:OpR X (binaryOp .Mult) (rI CMul fun i j=>.int (i * j)):=opI fun _ _ _ _ _ _ _ hc q=>mul_int q hc.ok
theorem z7j:OpR X (binaryOp .Mod) (rI (fun _ j=>0 < j) fun i j=>.int (i % j)):=opI fun i j _ _ _ _ _ hc q=>by
 have h1:(0:Int) < j:=hc;exact mod_int' #v[] (by rw[Int.fmod_eq_emod_of_nonneg i #v[]];exact q)
theorem z5v:OpR X (binaryOp .Pow) (rI CPow fun i j=>.int (i ^ j.toNat)):=opI fun _ _ _ _ _ _ _ hc q=>pow_int_small hc.1 hc.2.1 hc.2.2 q
theorem z4j:OpR X (binaryOp .LShift) (rI CPow fun i j=>.int (i * 2 ^ j.toNat)):=opI fun _ _ _ _ _ _ _ hc q=>lshift_int_small hc.1 hc.2.1 hc.2.2 q
theorem z6l:OpR X (binaryOp .RShift) (rI (fun _ j=>0<=j) fun i j=>.int (i / 2 ^ j.toNat)):=opI fun i j _ _ _ _ _ hc q =>
 rshift_int hc (by rw[Int.fdiv_eq_ediv_of_nonneg i (zqu _)];exact q)
theorem z6h:OpR X (binaryOp .BitAnd) (rI0 fun i j=>.int (Builtin.bitAnd i j)):=opI0 fun _ _ _ _ _ _ _ q=>and_int q
theorem z8b:OpR X (binaryOp .BitOr) (rI0 fun i j=>.int (Builtin.bitOr i j)):=opI0 fun _ _ _ _ _ _ _ q=>or_int q
theorem z5r:OpR X (binaryOp .BitXor) (rI0 fun i j=>.int (Builtin.bitXor i j)):=opI0 fun _ _ _ _ _ _ _ q=>xor_int q
theorem z3e:OpR X (inplaceOp .Add) (rI0 fun i j=>.int (i+j)):=opI0 fun _ _ _ _ _ _ _ q=>iadd_int q
theorem z29:OpR X (inplaceOp .Sub) (rI0 fun i j=>.int (i - j)):=opI0 fun _ _ _ _ _ _ _ q=>isub_int q
theorem z1x:OpR X (inplaceOp .Mult) (rI CMul fun i j=>.int (i * j)):=opI fun _ _ _ _ _ _ _ hc q=>imul_int q hc.ok
theorem z2v:OpR X (inplaceOp .BitAnd) (rI0 fun i j=>.int (Builtin.bitAnd i j)):=opI0 fun _ _ _ _ _ _ _ q=>iand_int q
theorem z6u:OpR X (inplaceOp .BitOr) (rI0 fun i j=>.int (Builtin.bitOr i j)):=opI0 fun _ _ _ _ _ _ _ q=>ior_int q
theorem z21:OpR X (inplaceOp .BitXor) (rI0 fun i j=>.int (Builtin.bitXor i j)):=opI0 fun _ _ _ _ _ _ _ q=>ixor_int q
theorem unI {f:Value->Sem Value}{g:Int->Int}
  (rule:∀(i:Int) (t:Tok) (s:Shared) (Q:Value->Shared->Prop) (E:Value->Shared->Prop),Q (.int (g i) s.toks) { s with toks:=s.toks+1 }->wpAny (model X.prog X.w) X.A (f (.int i t)) Q E s) :
  UnR X f (rU fun i=>.int (g i)):=by
 intro pins s σ H x v Q I rx h;obtain⟨i,rfl,q⟩:=h;obtain⟨t,rfl⟩:=rx;exact rule i t s _ _ ⟨.int (g i),H,I.tok _,⟨_,rfl⟩,q⟩
theorem z4v:UnR X (unaryOp .USub) (rU fun i=>.int (-i)):=unI fun _ _ _ _ _ q=>neg_int q
end
noncomputable def scal:V->V->Bool
 | .non,.non=>true | .non,.int _=>true | .int _,.non=>true | .non,.bl _=>true | .bl _,.non=>true | .non,.str _=>true | .str _,.non=>true
 | .int _,.int _=>true | .bl _,.bl _=>true | .str _,.str _=>true | .byt _,.byt _=>true
 | .int _,.str _=>true | .str _,.int _=>true | .bl _,.str _=>true | .str _,.bl _=>true
 | _,_=>false
noncomputable def rEq:R2:=fun x y H Q=>scal x y=true/\Q (.bl (decide (x=y))) H
noncomputable def rNe:R2:=fun x y H Q=>scal x y=true/\Q (.bl (!decide (x=y))) H
theorem zuq {i j:Int}:decide (V.int i=V.int j)=(i == j):=by
 rw[Fa];simp
theorem zzh {i j:Bool}:decide (V.bl i=V.bl j)=(i == j):=by
 rw[Fa];simp
theorem zs6 {i j:Str}:decide (V.str i=V.str j)=(i == j):=by
 rw[Fa];simp
theorem zvv {i j:Array UInt8}:decide (V.byt i=V.byt j)=(i.toList == j.toList):=by
 rw[Fa];cases i;cases j;simp
section
variable {X:Cx}{a b c:Expr}{ta tb tc:TE}{pos:Pos}
theorem zao {pins:List (Addr × Obj)}{σ:St}{H:Hp}{s:Shared}{Q:VK}{k k' : Bool}(I:Inv X pins σ H s)(q:Q (.bl k) H)(e:k=k'):EP X pins σ Q (.bool k') s:=by
 subst e;exact⟨.bl k,H,I,rfl,q⟩
theorem z8u:OpR X (compareOp .Eq) rEq:=by
  intro pins s σ H x y v u Q I rx ry h;obtain⟨hs,q⟩:=h;cases x with
  | non =>
    cases rx;cases y with
    | non=>cases ry;exact PySem.EqNone.eq_none_none (zao I q (by simp))
    | bl j=>cases ry;exact PySem.EqNone.eq_none_bool (zao I q (by simp))
    | int j=>obtain⟨t',rfl⟩:=ry;exact PySem.EqNone.eq_none_int (zao I q (by simp))
    | str j=>obtain⟨t',rfl⟩:=ry;exact PySem.EqNone.eq_none_str (zao I q (by simp))
    | _=>exact absurd (show false=true from hs) Ah
  | bl i =>
    cases rx;cases y with
    | non=>cases ry;exact PySem.EqNone.eq_bool_none (zao I q (by simp))
    | bl j=>cases ry;exact eq_bool (zao I q zzh)
    | str j=>obtain⟨t',rfl⟩:=ry;exact PySem.EqMixed.eq_bool_str (zao I q (by simp))
    | _=>exact absurd (show false=true from hs) Ah
  | int i =>
    obtain⟨t,rfl⟩:=rx;cases y with
    | non=>cases ry;exact PySem.EqNone.eq_int_none (zao I q (by simp))
    | int j=>obtain⟨t',rfl⟩:=ry;exact eq_int (zao I q zuq)
    | str j=>obtain⟨t',rfl⟩:=ry;exact PySem.EqMixed.eq_int_str (zao I q (by simp))
    | _=>exact absurd (show false=true from hs) Ah
  | str i =>
    obtain⟨t,rfl⟩:=rx;cases y with
    | non=>cases ry;exact PySem.EqNone.eq_str_none (zao I q (by simp))
    | bl j=>cases ry;exact PySem.EqMixed.eq_str_bool (zao I q (by simp))
    | int j=>obtain⟨t',rfl⟩:=ry;exact PySem.EqMixed.eq_str_int (zao I q (by simp))
    | str j=>obtain⟨t',rfl⟩:=ry;exact eq_str (zao I q zs6)
    | _=>exact absurd (show false=true from hs) Ah
  | byt i =>
    obtain⟨t,rfl⟩:=rx;cases y with
    | byt j=>obtain⟨t',rfl⟩:=ry;exact PySem.W.eq_bytes (zao I q zvv)
    | _=>exact absurd (show false=true from hs) Ah
  | _=>cases y<;>exact absurd (show false=true from hs) Ah
theorem z8d:OpR X (compareOp .NotEq) rNe:=by
  intro pins s σ H x y v u Q I rx ry h;obtain⟨hs,q⟩:=h;cases x with
  | non =>
    cases rx;cases y with
    | non=>cases ry;exact PySem.EqNone.ne_none_none (zao I q (by simp))
    | bl j=>cases ry;exact PySem.EqNone.ne_none_bool (zao I q (by simp))
    | int j=>obtain⟨t',rfl⟩:=ry;exact PySem.EqNone.ne_none_int (zao I q (by simp))
    | str j=>obtain⟨t',rfl⟩:=ry;exact PySem.EqNone.ne_none_str (zao I q (by simp))
    | _=>exact absurd (show false=true from hs) Ah
  | bl i =>
    cases rx;cases y with
    | non=>cases ry;exact PySem.EqNone.ne_bool_none (zao I q (by simp))
    | bl j=>cases ry;exact ne_bool (zao I q (congrArg not zzh))
    | str j=>obtain⟨t',rfl⟩:=ry;exact PySem.EqMixed.ne_bool_str (zao I q (by simp))
    | _=>exact absurd (show false=true from hs) Ah
  | int i =>
    obtain⟨t,rfl⟩:=rx;cases y with
    | non=>cases ry;exact PySem.EqNone.ne_int_none (zao I q (by simp))
    | int j=>obtain⟨t',rfl⟩:=ry;exact ne_int (zao I q (congrArg not zuq))
    | str j=>obtain⟨t',rfl⟩:=ry;exact PySem.EqMixed.ne_int_str (zao I q (by simp))
    | _=>exact absurd (show false=true from hs) Ah
  | str i =>
    obtain⟨t,rfl⟩:=rx;cases y with
    | non=>cases ry;exact PySem.EqNone.ne_str_none (zao I q (by simp))
    | bl j=>cases ry;exact PySem.EqMixed.ne_str_bool (zao I q (by simp))
    | int j=>obtain⟨t',rfl⟩:=ry;exact PySem.EqMixed.ne_str_int (zao I q (by simp))
    | str j=>obtain⟨t',rfl⟩:=ry;exact ne_str (zao I q (congrArg not zs6))
    | _=>exact absurd (show false=true from hs) Ah
  | byt i =>
    obtain⟨t,rfl⟩:=rx;cases y with
    | byt j=>obtain⟨t',rfl⟩:=ry;exact PySem.W.ne_bytes (zao I q (congrArg not zvv))
    | _=>exact absurd (show false=true from hs) Ah
  | _=>cases y<;>exact absurd (show false=true from hs) Ah
theorem z8i:OpR X (compareOp .Lt) (rI0 fun i j=>.bl (decide (i < j))):=opB0 fun _ _ _ _ _ _ _ q=>lt_int q
theorem z9c:OpR X (compareOp .LtE) (rI0 fun i j=>.bl (decide (i<=j))):=opB0 fun _ _ _ _ _ _ _ q=>le_int q
theorem yaa:OpR X (compareOp .Gt) (rI0 fun i j=>.bl (decide (j < i))):=opB0 fun _ _ _ _ _ _ _ q=>gt_int q
theorem z8m:OpR X (compareOp .GtE) (rI0 fun i j=>.bl (decide (j<=i))):=opB0 fun _ _ _ _ _ _ _ q=>ge_int q
theorem OpR.or {f:Value->Value->Sem Value}{r r' : R2}(h:OpR X f r)(h' : OpR X f r'):OpR X f (fun x y H Q=>r x y H Q\/r' x y H Q):=by
 intro pins s σ H x y v u Q I rx ry q;rcases q with q | q
 ·exact h pins s σ H x y v u Q I rx ry q
 ·exact h' pins s σ H x y v u Q I rx ry q
theorem zsc {op:CmpOp}{r:R2}(ho:OpR X (compareOp op) r)(ha:PE X a ta)(hb:PE X b tb)(hm:behindInMarks op b=false):PE X (.Compare a [op] [b] pos) (tOp r ta tb):=by
 intro pins s σ H Q I h;exact wpAny_Compare1 (binT ha hb I h fun v u s2 x y H2 I2 rx ry q=>ho pins s2 σ H2 x y v u Q I2 rx ry q) hm
noncomputable def z64 (t:TE):TT:=fun σ H Q=>t σ H fun x H'=>∃k,x=.bl k/\Q k H'
theorem ztx {op:CmpOp}{r:R2}(ho:OpR X (compareOp op) r)(ha:PE X a ta)(hb:PE X b tb)(hm:behindInMarks op b=false):PT X (.Compare a [op] [b] pos) (z64 (tOp r ta tb)):=by
 intro pins s σ H Q I h;refine wpAny_isTrue_Compare1 (thn (ha pins s σ H _ I h) fun v s1 ⟨x,H1,I1,r1,q1⟩=>thn (hb pins s1 σ H1 _ I1 q1) fun u s2 ⟨y,H2,I2,r2,q2⟩ =>
  thn (ho pins s2 σ H2 x y v u _ I2 r1 r2 q2) fun c s3 ⟨z,H3,I3,r3,k,e,q3⟩=>?_) hm
 subst e;cases r3;exact Gx ⟨H3,I3,q3⟩
theorem zpb:(sizeLine:Nat) < 2 ^ 63:=by rw[Fs];decide
theorem zrb:OpR X (binaryOp .Add) (fun x y H Q=>∃i j,x=.str i/\y=.str j/\i.length+j.length<=sizeLine/\Q (.str (i++j)) H):=by
 intro pins s σ H x y v u Q I rx ry h;obtain⟨i,j,rfl,rfl,hz,q⟩:=h;obtain⟨t,rfl⟩:=rx;obtain⟨t',rfl⟩:=ry;exact add_str (fun t' tk=>⟨.str (i++j),H,I.tok _,⟨_,rfl⟩,q⟩) hz
theorem vals1 {x:V}{us:List Value}(r:Vals [x] us):∃u,us=[u]/\RelV x u:=by
 cases r with
 | cons r1 r2=>cases r2;exact⟨_,rfl,r1⟩
theorem z4r {x y:V}{us:List Value} (r:Vals [x,y] us):∃u w',us=[u,w']/\RelV x u/\RelV y w':=by
  cases r with
  | cons r1 r2 =>
    cases r2 with
    | cons r3 r4=>cases r4;exact⟨_,_,rfl,r1,r3⟩
theorem zwh:zb5 X (.builtin "abs") (fun xs H Q=>∃i,xs=[.int i]/\Q (.int (if i < 0 then -i else i)) H):=by
 intro pins s σ H xs us Q I r h;obtain⟨i,rfl,q⟩:=h;obtain⟨u,rfl,t,rfl⟩:=vals1 r;exact call_abs_int fun u tk=>⟨.int (if i < 0 then -i else i),H,I.tok _,⟨_,rfl⟩,q⟩
theorem zui (hc:X.calm=true):zb5 X (.builtin "max") (fun xs H Q=>∃i j,xs=[.int i,.int j]/\Q (.int (if j > i then j else i)) H):=by
 intro pins s σ H xs us Q I r h;obtain⟨i,j,rfl,q⟩:=h;obtain⟨u,w',rfl,⟨t,rfl⟩,⟨t',rfl⟩⟩:=z4r r;refine max_two_ints (I.ok.hd hc) fun h' tk k=>⟨_,H,I.kept k,?_,q⟩;by_cases hj:j > i
 ·rw[if_pos hj,if_pos hj];exact⟨_,rfl⟩
 ·rw[if_neg hj,if_neg hj];exact⟨_,rfl⟩
theorem zs8 (hc:X.calm=true):zb5 X (.builtin "min") (fun xs H Q=>∃i j,xs=[.int i,.int j]/\Q (.int (if j < i then j else i)) H):=by
 intro pins s σ H xs us Q I r h;obtain⟨i,j,rfl,q⟩:=h;obtain⟨u,w',rfl,⟨t,rfl⟩,⟨t',rfl⟩⟩:=z4r r;refine min_two_ints (I.ok.hd hc) fun h' tk k=>⟨_,H,I.kept k,?_,q⟩;by_cases hj:j < i
 ·rw[if_pos hj,if_pos hj];exact⟨_,rfl⟩
 ·rw[if_neg hj,if_neg hj];exact⟨_,rfl⟩
theorem zt2:zb5 X (.type "int") (fun xs H Q=>(∃i,xs=[.int i]/\Q (.int i) H)\/∃k,xs=[.bl k]/\Q (.int (if k then 1 else 0)) H):=by
 intro pins s σ H xs us Q I r h;rcases h with ⟨i,rfl,q⟩ | ⟨k,rfl,q⟩
 ·obtain⟨u, rfl, t, rfl⟩ := vals1 r;exact call_int_int ⟨.int i,H,I,⟨_,rfl⟩,q⟩
 ·obtain⟨u, rfl, r1⟩ := vals1 r;cases r1;exact call_int_bool ⟨.int (if k then 1 else 0),H,I.tok _,⟨_,rfl⟩,q⟩
end
section
variable {prog:Program}{w:World}{A:Around}{E:Value->Shared->Prop}{s:Shared}{K:PySem.W.Frag}{x dx C f:Addr}{mA:Str->Option Value}{name:Str}{v:Value}
end
section
variable {P:Program}{w:World}{H H' : Hp}{h h' : Heap}{a C dx:Addr}{fs fs' : List (Str × V)}
end
section
variable {X:Cx}{pins:List (Addr × Obj)}{σ:St}{H:Hp}{s:Shared}{a C dx:Addr}{fs:List (Str × V)}{f:Str}{v:V}{A:Around}{E:Value->Shared->Prop}
end
section
variable {X:Cx}{o e value:Expr}{f:Str}{pos pos' tpos:Pos}{ta tv:TE}
end
section
variable {X:Cx}{pins:List (Addr × Obj)}{σ:St}{H:Hp}{s:Shared}{A:Around}{E:Value->Shared->Prop}{Q:Value->Shared->Prop}{c:Value}{b:Bool}
end
structure Room (k:Nat) (A:Around):Prop where
 hd:A.handled=none
 dp:A.depth+3 * k+5 < recursionLimit
 un:A.units+16 * k+200 < cLine
 gd:A.guards=some []
theorem Room.mono {j k:Nat}{A:Around}(r:Room k A)(h:j<=k):Room j A:=⟨r.hd,by have:=r.dp;omega,by have:=r.un;omega,r.gd⟩
theorem Room.deeper {k:Nat}{A:Around}(r:Room (k+1) A)(env:Env):Room k (A.deeper env) :=
 ⟨r.hd,by have:=r.dp;show A.depth+1+3 * k+5 < _;omega,by have:=r.un;show A.units+3+16 * k+200 < _;omega,r.gd⟩
theorem Room.depth {k:Nat}{A:Around}(r:Room k A):A.depth < recursionLimit:=by have:=r.dp;omega
noncomputable def tNil:TA:=fun _ H Q=>Q [] H
noncomputable def zhn (ta:TE) (tr:TA):TA:=fun σ H Q=>ta σ H fun x H1=>tr σ H1 fun xs H2=>Q (x::xs) H2
section
variable {X:Cx}{e:Expr}{es:List Expr}{te:TE}{t:TA}{pos:Pos}
theorem zfx:PA X [] tNil:=fun _ _ _ _ H Q I h=>Calls.spliced_nil ⟨[],H,I,.nil,h⟩
theorem z2h (ha:PE X e te)(hr:PA X es t)(hs:starEach (e::es) X.env=(false,eval e X.env)::starEach es X.env:=by rfl):PA X (e::es) (zhn te t):=by
 intro pos pins s σ H Q I h;rw[hs];show wpAny _ _ (spliced ((false,eval e X.env)::backTo pos (starEach es X.env))) _ _ s;refine Calls.spliced_cons (thn (ha pins s σ H _ I h) fun u s1 ⟨x,H1,I1,r1,q1⟩=>?_);exact thn (hr pos pins s1 σ H1 _ I1 q1) fun us s2 ⟨xs,H2,I2,r2,q2⟩=>⟨x::xs,H2,I2,.cons r1 r2,q2⟩
noncomputable def tTup (t:TA):TE:=fun σ H Q=>t σ H fun xs H1=>xs.length<=sizeLine/\∀p,H1 p=none->Q (.ref p) (upd H1 p (.tup xs))
noncomputable def tLst (t:TA):TE:=fun σ H Q=>t σ H fun xs H1=>xs.length<=sizeLine/\∀p,H1 p=none->Q (.ref p) (upd H1 p (.lst xs))
theorem z5c {x1}(h:PA X es t):PE X (.Tuple es x1 pos) (tTup t):=by
 intro pins s σ H Q I hq;refine wpAny_Tuple_spliced (thn (h pos pins s σ H _ I hq) fun us s1 ⟨xs,H1,I1,r,z,q⟩=>⟨by rw[<-r.length];exact z,?_⟩);have hf:H1 s1.heap.objs.size=none:=I1.hok.fresh (Ae _);refine⟨.ref s1.heap.objs.size,upd H1 s1.heap.objs.size (.tup xs),I1.laid (t':=s1.toks) (fun b u e=>Af _ e) (Ae _) ?_,rfl,q _ hf⟩;exact⟨z,us,r,⟨_,As _ rfl,rfl,_,rfl⟩⟩
theorem z7k (h:PA X es t):PE X (.List es pos) (tLst t):=by
 intro pins s σ H Q I hq;refine wpAny_List_spliced (thn (h pos pins s σ H _ I hq) fun us s1 ⟨xs,H1,I1,r,z,q⟩=>⟨by rw[<-r.length];exact z,?_⟩);have hf:H1 s1.heap.objs.size=none:=I1.hok.fresh (Ae _);refine⟨.ref s1.heap.objs.size,upd H1 s1.heap.objs.size (.lst xs),I1.laid (t':=s1.toks) (fun b u e=>Af _ e) (Ae _) ?_,rfl,q _ hf⟩;exact⟨z,us,0,r,As _ rfl⟩
end
noncomputable abbrev Sp:=List V->Hp->VK->XK->Prop
noncomputable abbrev CXT:=List Env->Hp->Shared->XK->Value->Shared->Prop
structure Env0 (P:Program) (w:World) (K:PySem.W.Frag) (mg:Str->Option Value) (base:Heap) (A:Around) (outer:List Env) (s:Shared) (H:Hp):Prop where
 frames:A.frames=some outer
 mod:Mod K mg base
 bs:∀b o,base.get? b=some o->s.heap.get? b=some o/\H b=none
 bsz:base.objs.size<=s.heap.objs.size
 funs:s.heap.FunFrames base outer
 frf:∀b∈frs outer,H b=none
 hok:HOk P w H s.heap
 bare:AllBare s.gens
noncomputable def CE (outer:List Env) (P:Program) (w:World) (H:Hp) (s:Shared) (Q:VK) (u:Value) (s' : Shared):Prop :=
 ∃v H',s'.os=s.os/\AllBare s'.gens/\Un (frs outer) [] H H' s.heap s'.heap/\HOk P w H' s'.heap/\RelV v u/\Q v H'
noncomputable def CR (CX:CXT) (outer:List Env) (P:Program) (w:World) (H:Hp) (s:Shared) (Q:VK) (E:XK) (r:Result) (s' : Shared):Prop :=
 match r with
 | .ok (.ret u)=>CE outer P w H s Q u s'
 | .ok _=>False
 | .error e=>CX outer H s E e s'
structure FnOk (P:Program) (w:World) (K:PySem.W.Frag) (mg:Str->Option Value) (base:Heap) (CX:CXT) (k:Nat) (f:Addr) (fd:FuncData) (ps:List Str) (sp:Sp):Prop where
 len:∀vs H Q E,sp vs H Q E->vs.length=ps.length
 run:∀(A:Around) (outer:List Env) (s:Shared) (H:Hp) (args:Args) (us:List Value) (vs:List V) (Q:VK) (E:XK),Room k A->Env0 P w K mg base A outer s H->BindsTo s fd args (ps.zip us)->Vals vs us->sp vs H Q E ->
  codeAny (model P w) A (.call (.ref f) args) (CR CX outer P w H s Q E) s
section
variable {X:Cx}{pins:List (Addr × Obj)}{σ:St}{H:Hp}{s s' : Shared}
theorem Inv.env0 (I:Inv X pins σ H s):Env0 X.prog X.w X.K X.mg X.base X.A X.stack s H :=
 ⟨I.ok.frames,I.ok.mod,I.bs,Cq I.ok.bsz I.sz,I.stack,I.stkFree,I.hok,I.bare⟩
theorem Inv.after {Q:VK}{u:Value}(I:Inv X pins σ H s)(h:CE X.stack X.prog X.w H s Q u s'):EP X pins σ Q u s':=by
 obtain⟨v,H',os,bare,un,hok,r,q⟩:=h;obtain⟨hh,g,d,t,os'⟩:=s';obtain rfl:os'=s.os:=os;exact⟨v,H',I.call (h':=hh) (g':=g) (d':=d) (t':=t) (ch:=[]) un hok bare (fun b z=>absurd z (by simp)),r,q⟩
end
noncomputable def z1r (sp:Sp) (dvs:List V) (E:XK) (t:TA):TE:=fun σ H Q=>t σ H fun vs H1=>sp (vs++dvs) H1 Q E
noncomputable def zl8 (K:PySem.W.Frag) (fd:FuncData) (ps:List Str) (ds:List Value):Prop :=
 ∀(s:Shared) (us:List Value),K.In s.heap->(us++ds).length=ps.length->BindsTo s fd ⟨us,[]⟩ (ps.zip (us++ds))
theorem zl8.all {K:PySem.W.Frag}{fd:FuncData}{ps:List Str}(h:∀us:List Value,us.length=ps.length->bindArgs fd ⟨us,[]⟩=pure (ps.zip us)):zl8 K fd ps []:=fun s us _ hl=>by
 rw[Br] at hl ⊢;exact .of_eq (h us hl)
noncomputable def ztb (CX:CXT) (X:Cx) (E:XK):Prop:=∀(pins:List (Addr × Obj)) (σ:St) (H:Hp) (s:Shared) (e:Value) (s' : Shared),Inv X pins σ H s->CX X.stack H s E e s'->X.xe e s'
section
variable {X:Cx}{CX:CXT}{k:Nat}{f C:Addr}{fd:FuncData}{ps:List Str}{sp:Sp}{dvs:List V}{ds:List Value}{E:XK}{x m:Str}{p pos apos:Pos}{e o:Expr}{es:List Expr}{ta:TE}{t:TA}
theorem z59 {pins:List (Addr × Obj)}{σ:St}{H:Hp}{s:Shared}{Q:VK}{us:List Value}{vs:List V} (F:FnOk X.prog X.w X.K X.mg X.base CX k f fd ps sp) (hr:Room k X.A) (hb:zl8 X.K fd ps ds) (hd:Vals dvs ds) (hx:ztb CX X E)
    (I:Inv X pins σ H s) (r:Vals vs us) (h:sp (vs++dvs) H Q E):wpAny (model X.prog X.w) X.A (call (.ref f) us) (EP X pins σ Q) X.xe s:=by
  have r2:Vals (vs++dvs) (us++ds):=r.append hd;have hl:(us++ds).length=ps.length:=by rw[<-r2.length];exact F.len _ _ _ _ h
  refine wpAny_call (codeAny_mono (F.run X.A X.stack s H ⟨us,[]⟩ (us++ds) (vs++dvs) Q E hr I.env0 (hb s us I.kIn hl) r2 h) fun r s' hq=>?_);cases r with
  | error e=>exact hx pins σ H s e s' I hq
  | ok fl =>
    cases fl with
    | ret u=>exact I.after hq
    | next=>exact False.elim hq
    | brk=>exact False.elim hq
    | cont=>exact False.elim hq
theorem z0j (F:FnOk X.prog X.w X.K X.mg X.base CX k f fd ps sp) (hr:Room k X.A) (hg:Gl X x) (hm:X.mg x=some (.ref f)) (hk:PySem.W.keepIn X.K (.ref f)=true) (hb:zl8 X.K fd ps ds) (hd:Vals dvs ds) (hx:ztb CX X E)
  (ha:PA X (e::es) t) (hdb:(x == ("__debug__" : Str))=false:=by decide) (he:starEach (e::es) X.env=(false,eval e X.env)::starEach es X.env:=by rfl) (hpl:(backTo pos (starEach es X.env)).any (·.1)=false:=by rfl) :
  PE X (.Call (.Name x p) (e::es) [] pos) (z1r sp dvs E t):=by
 intro pins s σ H Q I h;refine Gu (z1n I hg hm ?_ hdb);refine PySem.W.callWith_K (h₀:=X.base) I.ok.mod.kin hk (thn (ha pos pins s σ H _ I h) fun us s1 ⟨vs,H1,I1,r,q⟩=>⟨I1.kIn,?_⟩) he hpl;exact z59 F hr hb hd hx I1 r q
end
section
variable {X:Cx}{CX:CXT}{k:Nat}{f C:Addr}{fd:FuncData}{ps ks:List Str}{sp:Sp}{E:XK}{x m:Str}{p pos apos kpos:Pos}{e o:Expr}{es:List Expr}{kws:List Keyword}{te ta:TE}{t tk:TA}{nm:Option Str}
variable {g:List Value->List Value->List Value}{gV:List V->List V->List V}
end
structure FnScope (N P:List Str) (sc:Scope):Prop where
 kind:sc.kind=.function
 co:sc.isCoroutine=false
 gen:sc.isGenerator=false
 nd:N.Nodup
 pre:N.take P.length=P
 par:∀x∈P,sc.names.lookup x=some .local\/sc.names.lookup x=some .cell
 nofree:∀y∈sc.names,y.2≠.free
theorem zlv {kindOf:Str->Option NameKind}{x:Str}:∀{binds:List (Str × Value)}{m:Str->Option Value},(∀v,(x,v) ∉ binds)->bindL kindOf binds m x=m x
  | [],_,_=>rfl
  | (n,v)::r,m,h=>by
    unfold bindL;rw[zlv fun w hw=>h w (Ar _ hw)];split
    · have : x ≠ n := by rintro rfl; exact h v Aq
      simp [this]
    · rfl
theorem zlj {kindOf:Str->Option NameKind}{x:Str}:∀{binds:List (Str × Value)}{m:Str->Option Value},(∀v,(x,v) ∉ binds)->bindC kindOf binds m x=m x
  | [],_,_=>rfl
  | (n,v)::r,m,h=>by
    unfold bindC;rw[zlj fun w hw=>h w (Ar _ hw)];split
    · rfl
    · have : x ≠ n := by rintro rfl; exact h v Aq
      simp [this]
theorem zk8 {kindOf:Str->Option NameKind}{x:Str}{v:Value}:∀{P:List Str}{vs:List Value}{i:Nat}{m:Str->Option Value},P.Nodup->P[i]?=some x->vs[i]?=some v->kindOf x=some .local ->
    bindL kindOf (P.zip vs) m x=some v
  | [],_,_,_,_,h,_,_=>by simp at h
  | _::_,[],_,_,_,_,h,_=>by simp at h
  | p::P,w::vs,0,m,nd,h1,h2,hk=>by
    simp at h1 h2;subst h1;subst h2;show bindL kindOf ((p,w)::P.zip vs) m p=_;unfold bindL;rw[zlv fun v hv=>(Do.mp nd).1 (List.of_mem_zip hv).1,if_pos hk];simp
  | p::P,w::vs,i+1,m,nd,h1,h2,hk=>by
    show bindL kindOf ((p,w)::P.zip vs) m x=_;unfold bindL;exact zk8 (i:=i) (Do.mp nd).2 (by simpa using h1) (by simpa using h2) hk
theorem zkv {kindOf:Str->Option NameKind}{x:Str}{v:Value}:∀{P:List Str}{vs:List Value}{i:Nat}{m:Str->Option Value},P.Nodup->P[i]?=some x->vs[i]?=some v->kindOf x≠some .local ->
    bindC kindOf (P.zip vs) m x=some v
  | [],_,_,_,_,h,_,_=>by simp at h
  | _::_,[],_,_,_,_,h,_=>by simp at h
  | p::P,w::vs,0,m,nd,h1,h2,hk=>by
    simp at h1 h2;subst h1;subst h2;show bindC kindOf ((p,w)::P.zip vs) m p=_;unfold bindC;rw[zlj fun v hv=>(Do.mp nd).1 (List.of_mem_zip hv).1,if_neg hk];simp
  | p::P,w::vs,i+1,m,nd,h1,h2,hk=>by
    show bindC kindOf ((p,w)::P.zip vs) m x=_;unfold bindC;exact zkv (i:=i) (Do.mp nd).2 (by simpa using h1) (by simpa using h2) hk
noncomputable def start (N:List Str) (vs:List V):St:=vs.map some++List.replicate (N.length - vs.length) none
noncomputable def cxOf (CX:CXT) (P:Program) (w:World) (K:PySem.W.Frag) (mg:Str->Option Value) (base:Heap) (N:List Str) (qual:Str) (scope:Scope) (f:Addr) (cd:Value) (A:Around) (outer:List Env) (s:Shared) (H:Hp) (E:XK):Cx where
 prog:=P
 w:=w
 K:=K
 mg:=mg
 base:=base
 A:=A.deeper (envOfC qual scope s.heap.objs.size f cd)
 N:=N
 s₀:=s
 H₀:=H
 env:=envOfC qual scope s.heap.objs.size f cd
 outer:=outer
 stack:=envOfC qual scope s.heap.objs.size f cd::outer
 ex:=[]
 calm:=true
 fn:=fun _=>true
 pn:=[]
 xe:=fun e s'=>wpAny (model P w) (A.deeper (envOfC qual scope s.heap.objs.size f cd)) (leaving (envOfC qual scope s.heap.objs.size f cd) e) (fun _ s''=>CX outer H s E e s'') (fun e' s''=>CX outer H s E e' s'') s'
theorem cell_has {sc:Scope}{n:Nat}{x:Str}(h:sc.names.lookup x=some .cell):∃c,(cellsFrom n sc.names []).lookup x=some c:=by
 have q:=PySem.W.cellsFrom_some sc.names n [] (.inl h);exact Gs.mp q
theorem zsf {CX:CXT}{P:Program}{w:World}{K:PySem.W.Frag}{mg:Str->Option Value}{base:Heap}{N ps:List Str}{qual:Str}{scope:Scope}{f:Addr}{cd:Value}{A:Around}{outer:List Env}{s s1:Shared}{H:Hp}{E:XK}{us:List Value}{vs:List V}
  (S:FnScope N ps scope) (hd:A.handled=none) (e0:Env0 P w K mg base A outer s H) (hl:vs.length=ps.length) (r:Vals vs us)
  (x:InCallC s s.heap.objs.size (bindL (envOfC qual scope s.heap.objs.size f cd).kindOf (ps.zip us) fun _=>none) (cellsFrom (s.heap.objs.size+1) scope.names []) (bindC (envOfC qual scope s.heap.objs.size f cd).kindOf (ps.zip us) fun _=>none) s1) :
  Inv (cxOf CX P w K mg base N qual scope f cd A outer s H E) [] (start N vs) H s1:=by
 have hpl:ps.length<=N.length:=by have:=congrArg List.length S.pre;rw[Eb] at this;omega
 obtain⟨h1,tk,rfl,hk⟩:=x.done;have noA:∀b:Addr,b ∉ (cxOf CX P w K mg base N qual scope f cd A outer s H E).ex:=fun b z=>absurd (show b∈([]:List Addr) from z) (by simp);refine⟨⟨e0.mod,S.kind,rfl,rfl,Ae _,fun y z c h1 h2=>?_,fun y hy=>?_,fun y c _ h=>?_,fun _=>hd,Around.frames_deeper e0.frames,.inr ⟨rfl,rfl⟩,fun b z=>absurd z (noA b),e0.bs,e0.bsz,fun b _ _=>noA b,fun b z=>absurd z (noA b),e0.funs,e0.frf⟩,
  rfl,e0.bare,Un.kept hk,⟨_,x.toInCall.ns,fun i y v h1 h2 h3=>?_⟩,fun y c h=>⟨_,x.cell y c h⟩,e0.hok.fresh (Ae _),fun y c h=>?_,fun p hp=>absurd (show p∈([]:List (Addr × Obj)) from hp) (by simp),e0.hok.kept hk,?_⟩
 ·exact name_of_addr x.apart (Bs h1) (Bs h2)
 ·have hy : scope.names.lookup y = some .cell \/ scope.names.lookup y = some .free := hy;rcases hy with hy | hy
  ·exact cell_has hy
  ·exact absurd rfl (S.nofree _ (Bs hy))
 ·exact Nat.le_of_lt (x.above y c (Bs h))
 ·have hi:i < vs.length:=by
   unfold start at h2;by_cases hi:i < vs.length
   ·exact hi
   ·rw[Ep (by simpa using hi)] at h2;rw[List.getElem?_replicate] at h2;split at h2<;>cases h2
  have ha:vs[i]?=some v:=by
   unfold start at h2;rw[Da (by simpa using hi),Au] at h2;cases e:vs[i]? with
   | none=>rw[e] at h2;cases h2
   | some a=>rw[e] at h2;cases h2;rfl
  obtain⟨u,hu,rv⟩:=r.get ha;have hp:ps[i]?=some y:=by
   rw[<-S.pre,List.getElem?_take_of_lt #v[]];exact h1
  have ndP:ps.Nodup:=by rw[<-S.pre];exact S.nd.sublist (Fm _ _)
  refine⟨u,rv,?_⟩;rcases S.par y (Bn hp) with k | k
  ·exact .inl ⟨k,zk8 ndP hp hu k⟩
  ·obtain⟨c, e⟩ := cell_has (n := s.heap.objs.size + 1) k;refine .inr ⟨.inl k,c,e,?_⟩;have q:=x.cell y c e;rw[zkv ndP hp hu (by show scope.names.lookup y≠_;rw[k];decide)] at q;exact q
 ·exact e0.hok.fresh (Nat.le_of_lt (x.above y c (Bs h)))
 ·unfold start;show _=N.length;rw[Ba,Ad,Ej];omega
theorem z9r {CX:CXT}{P:Program}{w:World}{K:PySem.W.Frag}{mg:Str->Option Value}{base:Heap}{k:Nat}{f:Addr}{name qual:Str}{params:Arguments}{body:List Stmt}{scope:Scope}{dV kV doc pm cdv ct oc:Value}{an od:Option Addr}
    {osl:Array (Option Value)}{N ps:List Str}{sp:Sp} (lk:K.lookup f=some ⟨oc,od,.func (PySem.W.fnOf name qual params body scope dV kV doc pm an cdv ct),osl⟩) (hcd:PySem.W.codeIn K cdv qual=true) (S:FnScope N ps scope)
    (len:∀vs H Q E,sp vs H Q E->vs.length=ps.length)
    (hbody:∀(A:Around) (outer:List Env) (s:Shared) (H:Hp) (vs:List V) (Q:VK) (E:XK),(Room k (A.deeper (envOfC qual scope s.heap.objs.size f cdv))/\Room (k+1) A)->sp vs H Q E ->
      ∃t,PSs (cxOf CX P w K mg base N qual scope f cdv A outer s H E) body t/\t { nx:=fun _ H'=>Q .non H',rt:=Q } (start N vs) H) :
    FnOk P w K mg base CX (k+1) f (PySem.W.fnOf name qual params body scope dV kV doc pm an cdv ct) ps sp:=by
  refine ⟨len,fun A outer s H args us vs Q E hr e0 hb r hsp=>?_⟩;have hl:=len _ _ _ _ hsp;have KX:K.In s.heap:=e0.mod.kin.keeps fun b o e=>(e0.bs b o e).1;have lim:s.heap.NoLimit:=e0.mod.nolimit.keeps fun b o e=>(e0.bs b o e).1;have hkind:∀y∈ps.zip us,scope.names.lookup y.1=some .local\/(scope.names.lookup y.1=some .cell/\((cellsFrom (s.heap.objs.size+1) scope.names []).lookup y.1).isSome=true):=fun ⟨n,v⟩ hy=>by
    rcases S.par n (List.of_mem_zip hy).1 with q | q
    · exact .inl q
    · exact .inr ⟨q,PySem.W.cellsFrom_some _ _ _ (.inl q)⟩
  refine codeAny_call_function hr.depth (KX _ _ lk) rfl S.co S.gen rfl (PySem.W.codeRec_of KX hcd) (hb _ _ _ _ ?_);refine wpAny_newFunctionEnv_cells S.kind hkind fun env he s1 x=>?_;subst he;refine ⟨lim.keeps x.toInCall.keep,codeAny_func ?_⟩;obtain ⟨t,ht,hq⟩:=hbody A outer s H vs Q E ⟨hr.deeper _,hr⟩ hsp;have I:Inv (cxOf CX P w K mg base N qual scope f cdv A outer s H E) [] (start N vs) H s1:=zsf S hr.hd e0 hl r x;refine Dr (ht [] s1 (start N vs) H _ I hq) (fun fl s' hs=>?_) fun e s' hs=>hs;have fin:∀{σ' : St}{H' : Hp}{v:V}{u:Value},Inv (cxOf CX P w K mg base N qual scope f cdv A outer s H E) [] σ' H' s'->RelV v u->Q v H'->CE outer P w H s Q u s' :=
    fun {σ' H' v u} J rv q=>⟨v,H',J.os,J.bare,J.base,J.hok,rv,q⟩
  cases fl with
  | ret u =>
    obtain⟨v,σ',H',J,rv,q⟩:=hs;exact fin J rv q
  | next =>
    obtain⟨σ',H',J,q⟩:=hs;exact fin (v:=V.non) (u:=Value.none) J rfl q
  | brk =>
    obtain⟨_,_,_,q⟩:=hs;exact False.elim q
  | cont =>
    obtain⟨_,_,_,q⟩:=hs;exact False.elim q
section
variable {X:Cx}{x:Str}{p pos:Pos}{e:Expr}{es:List Expr}{t:TA}{id T:String}{r:List V->Hp->VK->Prop}
noncomputable def tCB (r:List V->Hp->VK->Prop) (t:TA):TE:=fun σ H Q=>t σ H fun vs H1=>r vs H1 Q
theorem zb9 (hc:zb5 X (.builtin id) r) (hg:Gl X x) (hm:X.mg x=none) (hv:bootBuiltins x=some (.builtin id)) (ha:PA X (e::es) t) (hn:x≠"__name__" := by decide) (hdb:(x == ("__debug__" : Str))=false:=by decide)
  (he:starEach (e::es) X.env=(false,eval e X.env)::starEach es X.env:=by rfl) (hpl:(backTo pos (starEach es X.env)).any (·.1)=false:=by rfl):PE X (.Call (.Name x p) (e::es) [] pos) (tCB r t):=by
 intro pins s σ H Q I h;refine Gu (zhz I hg hm hv ?_ hn hdb);exact PyProof.Rows.callWith_builtin1 (thn (ha pos pins s σ H _ I h) fun us s1 ⟨vs,H1,I1,r1,q1⟩=>hc pins s1 σ H1 vs us Q I1 r1 q1) he hpl
theorem ze8 (hc:zb5 X (.type T) r) (hg:Gl X x) (hm:X.mg x=none) (hv:bootBuiltins x=some (.type T)) (ha:PA X (e::es) t) (hn:x≠"__name__" := by decide) (hdb:(x == ("__debug__" : Str))=false:=by decide)
  (he:starEach (e::es) X.env=(false,eval e X.env)::starEach es X.env:=by rfl) (hpl:(backTo pos (starEach es X.env)).any (·.1)=false:=by rfl):PE X (.Call (.Name x p) (e::es) [] pos) (tCB r t):=by
 intro pins s σ H Q I h;refine Gu (zhz I hg hm hv ?_ hn hdb);exact Em (thn (ha pos pins s σ H _ I h) fun us s1 ⟨vs,H1,I1,r1,q1⟩=>hc pins s1 σ H1 vs us Q I1 r1 q1) he hpl
end
end L2
namespace HT
open PySem PyProof.Rows
section
open PySem.SeqAt
open PySem.AutoSeq1 (wpAny_loadPart')
open PySem.MeetsSeq PySem.MeetsSeq2 PySem.MeetsSeq3
end
section
variable {prog:Program}{w:World}{A:Around}{E:Value->Shared->Prop}{s:Shared}
theorem cat_tup {t b:Addr}{vs ws:List Value}{Q:Value->Shared->Prop} (ht:IsTup s.heap t vs.toArray) (hb:IsTup s.heap b ws.toArray) (hv:vs≠[])
  (h1:ws=[]->Q (.ref t) s) (h2:ws≠[]->Q (.ref s.heap.objs.size) { s with heap:=s.heap.push { cls:=.type "tuple",data:=.seq (vs++ws).toArray } })
  (hsz:vs.length+ws.length<=sizeLine):wpAny (model prog w) A (binaryOp .Add (.ref t) (.ref b)) Q E s:=by
 obtain⟨⟨cls,dd,data,sl⟩,ho,hc,n,hd⟩:=id ht;obtain⟨⟨cls2,dd2,data2,sl2⟩,ho2,hc2,n2,hd2⟩:=id hb;simp only at hc hd hc2 hd2;subst hc hd hc2 hd2;have e:vs.toArray++ws.toArray=(vs++ws).toArray:=by simp
 by_cases hw:ws=[]
 ·exact concat_meets ⟨_,ho,rfl⟩ ⟨_,ho2,rfl⟩ noFill_tuple_add seq_tuple_add PySem.F.slot_tuple_add PySem.F.entry_tuple_add (Gq _ _)
   (tuple_addW1 t b vs.toArray ws.toArray n n2 dd dd2 sl sl2 (by simpa using hv) (by simp [hw])) ⟨ho,ho2,h1 hw⟩
 ·refine concat_meets ⟨_,ho,rfl⟩ ⟨_,ho2,rfl⟩ noFill_tuple_add seq_tuple_add PySem.F.slot_tuple_add PySem.F.entry_tuple_add (Gq _ _)
   (tuple_addW2 t b vs.toArray ws.toArray n n2 dd dd2 sl sl2 (by simpa using hv) (by simpa using hw) (by rw[Al,Al];exact hsz)) ⟨ho,ho2,?_⟩
  rw[e];exact h2 hw
noncomputable def sIx (n d:Nat):Option Int->Nat
 | none=>d
 | some v=>if v < 0 then (v+(n:Int)).toNat else min v.toNat n
theorem sIx_nat (n d k:Nat):sIx n d (some (k:Int))=min k n:=by
 show (if (k:Int) < 0 then ((k:Int)+(n:Int)).toNat else min (k:Int).toNat n)=min k n;rw[if_neg #v[],Ch]
theorem z7e (n d:Nat) (hd:d<=n) (o:Option Int):sIx n d o<=n:=by
  cases o with
  | none=>exact hd
  | some v =>
    show (if v < 0 then (v+(n:Int)).toNat else min v.toNat n)<=n;by_cases hv:v < 0
    · rw[if_pos hv];omega
    · rw[if_neg hv];exact Nat.min_le_right _ _
theorem zsx (v:Int)(n d:Nat):(if v < 0 then max (v+(n:Int)) 0 else min v (n:Int))=((sIx n d (some v):Nat):Int):=by
 show (if v < 0 then max (v+(n:Int)) 0 else min v (n:Int))=(((if v < 0 then (v+(n:Int)).toNat else min v.toNat n):Nat):Int);by_cases hv:v < 0
 ·simp only [if_pos hv];omega
 ·simp only [if_neg hv];omega
theorem zqi (lo hi:Option Int)(n:Nat):Builtin.Slice.sliceAdjust lo hi 1 (n:Int)=(((sIx n 0 lo:Nat):Int),((sIx n n hi:Nat):Int)):=by
 have h1:¬ ((1:Int) < 0):=by omega
 unfold Builtin.Slice.sliceAdjust;simp only [h1,Fv];refine Prod.ext ?_ ?_
 ·cases lo with
  | none=>rfl
  | some v=>exact zsx v n 0
 ·cases hi with
  | none=>rfl
  | some v=>exact zsx v n n
theorem zqg (i j:Nat):Builtin.Slice.slicePlaces (i:Int) (j:Int) 1=j - i:=by
 unfold Builtin.Slice.slicePlaces;have h1:(1:Int) > 0:=by omega
 simp only [h1,Fg,Int.ediv_one];split<;>omega
theorem zig {v:Value}{o:Option Int}{Q:Option Int->Shared->Prop}(p:IsPart v o)(h:Q o s):wpAny (model prog w) A (Builtin.Slice.slicePartIndex v) Q E s:=by
 cases p with
 | none=>exact slicePart_none h
 | int i t=>exact slicePart_int h
theorem zdh {sl:Addr}{vl vu:Value}{lo hi:Option Int}{n:Nat}{Q:Int × Int × Nat->Shared->Prop} (hs:s.heap.IsSliceOf sl vl vu .none) (pl:IsPart vl lo) (pu:IsPart vu hi)
  (h:Q (((sIx n 0 lo:Nat):Int),1,sIx n n hi - sIx n 0 lo) s):wpAny (model prog w) A (Builtin.Slice.sliceApplied (.ref sl) (pure (n:Int))) Q E s:=by
 obtain⟨os,hos,hcs,hds⟩:=id hs;unfold Builtin.Slice.sliceApplied Builtin.Slice.sliceFields;refine Aa (Aa (Fq hos hds (x:=vl) rfl (Aa (Fq hos hds (x:=vu) rfl (Aa (Fq hos hds (x:=.none) rfl (Ai ?_)))))));refine Aa (slicePart_none ?_);show wpAny _ _ (if ((1:Int) == 0)=true then _ else _) _ _ s;rw[if_neg #v[0,9]];refine Aa (zig pl (Aa (zig pu (Aa (Ai ?_)))));show wpAny _ _ (match Builtin.Slice.sliceAdjust lo hi 1 (n:Int) with | (lo,hi)=>pure (lo,(1:Int),Builtin.Slice.slicePlaces lo hi 1)) _ _ s;rw[zqi lo hi n];show wpAny _ _ (pure (((sIx n 0 lo:Nat):Int),(1:Int),Builtin.Slice.slicePlaces ((sIx n 0 lo:Nat):Int) ((sIx n n hi:Nat):Int) 1)) _ _ s;rw[zqg];exact Ai h
theorem zxl (xs:Array Value)(i k:Nat):((List.range k).filterMap fun (m:Nat)=>xs[((i:Int)+(m:Int) * 1).toNat]?).toArray=((xs.toList.drop i).take k).toArray:=by
 have e:(fun (m:Nat)=>xs[((i:Int)+(m:Int) * 1).toNat]?)=fun m=>xs[i+m]?:=by
  funext m
  have:((i:Int)+(m:Int) * 1).toNat=i+m:=by omega
  rw[this]
 rw[e];have:=pick_run xs i k;rw[List.filterMap_map] at this;have e2:((fun x=>xs[x]?) ∘ fun x=>i+x)=fun m=>xs[i+m]?:=rfl;rw[e2] at this;rw[this]
theorem getItem_tuple_cut {t sl:Addr}{items:Array Value}{vl vu:Value}{lo hi:Option Int}{Q:Value->Shared->Prop} (ht:IsTup s.heap t items) (hs:s.heap.IsSliceOf sl vl vu .none) (pl:IsPart vl lo) (pu:IsPart vu hi)
  (hw:¬ (sIx items.size 0 lo=0/\sIx items.size items.size hi=items.size))
  (h:Q (.ref s.heap.objs.size) { s with heap:=s.heap.push { cls:=.type "tuple",data:=.seq ((items.toList.drop (sIx items.size 0 lo)).take (sIx items.size items.size hi - sIx items.size 0 lo)).toArray } })
  (hsz:items.size<=sizeLine):wpAny (model prog w) A (getItem (.ref t) (.ref sl)) Q E s:=by
 have htake:sizeOk (.seq ((items.toList.drop (sIx items.size 0 lo)).take (sIx items.size items.size hi - sIx items.size 0 lo)).toArray):=by
  show ((items.toList.drop (sIx items.size 0 lo)).take (sIx items.size items.size hi - sIx items.size 0 lo)).toArray.size<=sizeLine;rw[Al,Eb,Ft,Cs];omega
 have hj:sIx items.size items.size hi<=items.size:=z7e _ _ (Ae _) hi;obtain⟨os,hos,hcs,hds⟩:=id hs;have hTs:s.TypeIs (.ref sl) "slice" := ⟨os,hos,hcs⟩;unfold getItem
 try with_reducible refine Co ?_
 first | refine Aa (Ai ?_) | skip
 refine Aa (wpAny_sequenceKey ht.typeIs #v[0,9] ?_);refine Aa (Cz (name:=Str.ofString "__getitem__") ht.typeIs Dw
  (Dn Dw ht.typeIs entry_tuple_getitem ?_ (args_tuple_getitem _ _)))
 show wpAny _ _ (Builtin.Tuple.tupleItemsOf (.ref t) >>= _) _ _ s;refine Aa (tupleItemsOf_ ht ?_);refine Aa (wpAny_typeOf hTs ?_);rw[if_pos #v[0,9]];refine Aa (zdh hs pl pu ?_);have hno:¬ ((((sIx items.size 0 lo:Nat):Int) == 0 && (1:Int) == 1 && (sIx items.size items.size hi - sIx items.size 0 lo) == items.size)=true):=by
  intro q;rw[Ac,Ac] at q;have q1:((sIx items.size 0 lo:Nat):Int)=0:=Cb q.1.1;have q2:sIx items.size items.size hi - sIx items.size 0 lo=items.size:=Cb q.2;exact hw ⟨by omega,by omega⟩
 show wpAny _ _ (if (((sIx items.size 0 lo:Nat):Int) == 0 && (1:Int) == 1 && (sIx items.size items.size hi - sIx items.size 0 lo) == items.size)=true then _ else _) _ _ s;rw[if_neg hno,zxl]
 first
  | exact Aa (m:=Builtin.Tuple.tupleExact _) (Cd (Ai ⟨_,rfl,Ai h⟩) htake)
  | exact Aa (m:=Builtin.Tuple.tupleExact _) (Cd (Aa (Ai (Ai ⟨_,rfl,Ai h⟩))) htake)
  | exact Aa (Aa (m:=Builtin.Tuple.tupleExact _) (Cd (Ai (Ai ⟨_,rfl,Ai h⟩)) htake))
  | exact Aa (Aa (m:=Builtin.Tuple.tupleExact _) (Cd (Ai ⟨_,rfl,Ai h⟩) htake))
end
end HT
namespace L2
open PySem PySem.Spec PyProof.Rows
noncomputable abbrev TO:=St->Hp->(Option Int->Hp->Prop)->Prop
noncomputable def PO (X:Cx) (e:Option Expr) (t:TO):Prop :=
  ∀(pins:List (Addr × Obj)) (s:Shared) (σ:St) (H:Hp) (Q:Option Int->Hp->Prop),Inv X pins σ H s->t σ H Q ->
    wpAny (model X.prog X.w) X.A (evalPart e X.env) (fun u s'=>∃o H',Inv X pins σ H' s'/\IsPart u o/\Q o H') X.xe s
noncomputable def zvm:TO:=fun _ H Q=>Q none H
noncomputable def z78 (t:TE):TO:=fun σ H Q=>t σ H fun x H1=>∃i,x=.int i/\Q (some i) H1
section
variable {X:Cx}{e:Expr}{te:TE}{lo hi:Option Expr}{tl th:TO}{pos p2:Pos}
theorem z0i:PO X none zvm:=by
 intro pins s σ H Q I h;rw[evalPart_none];exact Ai ⟨none,H,I,.none,h⟩
theorem z1i (h:PE X e te):PO X (some e) (z78 te):=by
 intro pins s σ H Q I hw;rw[evalPart_some];refine thn (h pins s σ H _ I hw) fun u s1 ⟨x,H1,I1,r1,q1⟩=>?_;obtain⟨i,rfl,q⟩:=q1;obtain⟨t,rfl⟩:=r1;exact⟨some i,H1,I1,.int i t,q⟩
noncomputable def SlR (X:Cx) (r:V->Option Int->Option Int->Hp->VK->Prop):Prop :=
  ∀(pins:List (Addr × Obj)) (s:Shared) (σ:St) (H:Hp) (x:V) (v vl vu:Value) (lo hi:Option Int) (sl:Addr) (Q:VK),Inv X pins σ H s->RelV x v->s.heap.IsSliceOf sl vl vu .none->IsPart vl lo->IsPart vu hi->r x lo hi H Q ->
    ∃T id,typeLookup (.type T) "__getitem__" = pure (some (.builtin id))/\s.TypeIs v T/\wpAny (model X.prog X.w) X.A (getItem v (.ref sl)) (EP X pins σ Q) X.xe s
theorem SlR.or {r r' : V->Option Int->Option Int->Hp->VK->Prop}(h:SlR X r)(h' : SlR X r'):SlR X (fun x lo hi H Q=>r x lo hi H Q\/r' x lo hi H Q):=by
 intro pins s σ H x v vl vu lo hi sl Q I rx hs pl pu q;rcases q with q | q
 ·exact h pins s σ H x v vl vu lo hi sl Q I rx hs pl pu q
 ·exact h' pins s σ H x v vl vu lo hi sl Q I rx hs pl pu q
noncomputable def tSl (r:V->Option Int->Option Int->Hp->VK->Prop) (te:TE) (tl th:TO):TE:=fun σ H Q=>te σ H fun x H1=>tl σ H1 fun l H2=>th σ H2 fun u H3=>r x l u H3 Q
theorem zxh {r:V->Option Int->Option Int->Hp->VK->Prop}(hr:SlR X r)(he:PE X e te)(hl:PO X lo tl)(hu:PO X hi th):PE X (.Subscript e (.Slice lo hi none p2) pos) (tSl r te tl th):=by
 intro pins s σ H Q I h;refine Subscript_ (thn (he pins s σ H _ I h) fun v s1 ⟨x,H1,I1,r1,q1⟩=>?_);refine wpAny_Slice (thn (hl pins s1 σ H1 _ I1 q1) fun vl s2 ⟨l,H2,I2,pl,q2⟩=>thn (hu pins s2 σ H2 _ I2 q2) fun vu s3 ⟨u,H3,I3,pu,q3⟩=>?_);rw[evalPart_none];refine Ai ?_;have I4:Inv X pins σ H3 { s3 with heap:=s3.heap.push { cls:=.type "slice",data:=.fields #[vl,vu,.none] } }:=I3.kept (t':=s3.toks) fun b ob q=>Af _ q;obtain⟨T,id,hT,ht,hg⟩:=hr pins { s3 with heap:=s3.heap.push { cls:=.type "slice",data:=.fields #[vl,vu,.none] } } σ H3 x v vl vu l u s3.heap.objs.size Q I4 r1 (Heap.IsSliceOf.new ..) pl pu q3;show wpAny (model X.prog X.w) X.A (subscriptTail e (.Slice lo hi none p2) v (.ref s3.heap.objs.size)) (EP X pins σ Q) X.xe { s3 with heap:=s3.heap.push { cls:=.type "slice",data:=.fields #[vl,vu,.none] } };exact tail_any (ops:=[.ref s3.heap.objs.size,v]) ht hT hg (by with_unfolding_all rfl)
noncomputable def cutV (xs:List V) (lo hi:Option Int):List V:=(xs.drop (HT.sIx xs.length 0 lo)).take (HT.sIx xs.length xs.length hi - HT.sIx xs.length 0 lo)
theorem zha (xs:List V)(lo hi:Option Int):(cutV xs lo hi).length<=xs.length:=by
 unfold cutV;rw[Eb,Ft];omega
noncomputable def rSlT (K:PySem.W.Frag):V->Option Int->Option Int->Hp->VK->Prop:=fun x lo hi H Q=>∃a xs,x=.ref a/\SqT K H a xs /\
 ¬ (HT.sIx xs.length 0 lo=0/\HT.sIx xs.length xs.length hi=xs.length)/\∀p,H p=none->Q (.ref p) (upd H p (.tup (cutV xs lo hi)))
theorem z4g:SlR X (rSlT X.K):=by
 intro pins s σ H x v vl vu lo hi sl Q I rx hs pl pu h;obtain⟨a,xs,rfl,hx,hw,q⟩:=h;cases rx;obtain⟨its,r,ht,hz⟩:=I.tuple hx;have hlen:its.toArray.size=xs.length:=by rw[Al];exact r.length.symm
 refine⟨"tuple",_,PyProof.Rows.slot_tuple_getitem.lookup,ht.typeIs,?_⟩;refine HT.getItem_tuple_cut ht hs pl pu (by rw[hlen];exact hw) ?_ (by rw[hlen];exact hz);rw[hlen];refine⟨.ref s.heap.objs.size,_,I.laid (t':=s.toks) (o:=.tup (cutV xs lo hi)) (fun b ob q=>Af _ q) (Ae _) ?_,rfl,q _ (I.hok.fresh (Ae _))⟩;exact⟨Cq (zha xs lo hi) hz,_,(r.drop (HT.sIx xs.length 0 lo)).take (HT.sIx xs.length xs.length hi - HT.sIx xs.length 0 lo),IsTup.new _ _⟩
noncomputable def z67 (K:PySem.W.Frag):R2:=fun x y H Q=>∃a b xs ys,x=.ref a/\y=.ref b/\SqT K H a xs/\SqT K H b ys/\xs≠[]/\xs.length+ys.length<=sizeLine /\
 (ys=[]->Q (.ref a) H)/\(ys≠[]->∀p,H p=none->Q (.ref p) (upd H p (.tup (xs++ys))))
theorem Vals.nil_iff {xs:List V}{us:List Value}(r:Vals xs us):us=[]↔xs=[]:=by
 cases r with
 | nil=>simp
 | cons _ _=>simp
theorem z2x:OpR X (binaryOp .Add) (z67 X.K):=by
 intro pins s σ H x y v u Q I rx ry h;obtain⟨a,b,xs,ys,rfl,rfl,ha,hb,hx,hz,q1,q2⟩:=h;cases rx;cases ry;obtain⟨its,r1,p1,_⟩:=I.tuple ha;obtain⟨its2,r2,p2,_⟩:=I.tuple hb;refine HT.cat_tup p1 p2 (fun z=>hx (r1.nil_iff.mp z)) (fun z=>⟨.ref a,H,I,rfl,q1 (r2.nil_iff.mp z)⟩) (fun z=>?_) (by rw[<-r1.length,<-r2.length];exact hz);refine⟨.ref s.heap.objs.size,_,I.laid (t':=s.toks) (o:=.tup (xs++ys)) (fun b ob q=>Af _ q) (Ae _) ?_,rfl,q2 (fun w=>z (r2.nil_iff.mpr w)) _ (I.hok.fresh (Ae _))⟩;exact⟨by rw[Ba];exact hz,_,r1.append r2,IsTup.new _ _⟩
end
noncomputable def ixN (n:Nat) (i:Int):Option Nat:=if 0<=i then (if i < n then some i.toNat else none) else if -(n:Int)<=i then some (i+n).toNat else none
noncomputable def atI {α:Type} (xs:List α) (i:Int):Option α:=(ixN xs.length i).bind fun j=>xs[j]?
theorem zuu {n:Nat}{i:Int}{j:Nat}(h:ixN n i=some j):seqIndex? i n=some j/\j < n/\-(n:Int)<=i/\i < n:=by
 unfold ixN at h;by_cases h0:0<=i
 ·rw[if_pos h0] at h;by_cases h1:i < n
  ·rw[if_pos h1] at h;have e:i.toNat=j:=sI h;exact⟨by rw[seqIndex_of h0 h1,e],by omega,by omega,h1⟩
  ·rw[if_neg h1] at h;cases h
 ·rw[if_neg h0] at h;by_cases h1:-(n:Int)<=i
  ·rw[if_pos h1] at h;have e:(i+n).toNat=j:=sI h;exact⟨by rw[seqIndex_neg #v[] h1,e],by omega,h1,by omega⟩
  ·rw[if_neg h1] at h;cases h
theorem zr2 {α:Type}{xs:List α}{i:Int}{v:α} (h:atI xs i=some v):∃j,seqIndex? i xs.length=some j/\xs[j]?=some v/\j < xs.length/\-(xs.length:Int)<=i/\i < xs.length:=by
  unfold atI at h;cases e:ixN xs.length i with
  | none=>rw[e] at h;cases h
  | some j =>
    rw[e] at h;obtain⟨h1,h2,h3,h4⟩:=zuu e;exact⟨j,h1,h,h2,h3,h4⟩
theorem z1t {α:Type}{xs:List α}{j:Nat}{v:α}(h:xs[j]?=some v):atI xs (j:Int)=some v:=by
 have hj:j < xs.length:=(Am.mp h).1;have e:ixN xs.length (j:Int)=some j:=by
  unfold ixN;rw[if_pos #v[],if_pos #v[]];simp
 unfold atI;rw[e];exact h
noncomputable def zsv (b:Expr):Prop:=∀o i,subscripted b false o i=operate [o,i] (getItem o i)
noncomputable def IxR (X:Cx) (r:R2):Prop :=
  ∀(value slice:Expr) (pins:List (Addr × Obj)) (s:Shared) (σ:St) (H:Hp) (x y:V) (v u:Value) (Q:VK),Inv X pins σ H s->RelV x v->RelV y u->r x y H Q ->
    subscripted slice false v u=operate [v,u] (getItem v u)->wpAny (model X.prog X.w) X.A (subscriptTail value slice v u) (EP X pins σ Q) X.xe s
noncomputable def MtR (X:Cx) (id:String) (r:V->List V->Hp->VK->Prop):Prop :=
  ∀(pins:List (Addr × Obj)) (s:Shared) (σ:St) (H:Hp) (x:V) (xs:List V) (v:Value) (us:List Value) (Q:VK),Inv X pins σ H s->RelV x v->Vals xs us->r x xs H Q ->
    wpAny (model X.prog X.w) X.A (call (.builtin id) (v::us)) (EP X pins σ Q) X.xe s
section
variable {X:Cx}{a b:Expr}{ta tb:TE}{pos:Pos}
theorem IxR.or {r r' : R2}(h:IxR X r)(h' : IxR X r'):IxR X (fun x y H Q=>r x y H Q\/r' x y H Q):=by
 intro value slice pins s σ H x y v u Q I rx ry q hs;rcases q with q | q
 ·exact h value slice pins s σ H x y v u Q I rx ry q hs
 ·exact h' value slice pins s σ H x y v u Q I rx ry q hs
theorem z8r {r:R2}(hr:IxR X r)(ha:PE X a ta)(hb:PE X b tb)(hs:zsv b):PE X (.Subscript a b pos) (tOp r ta tb):=by
 intro pins s σ H Q I h;exact Subscript_ (binT ha hb I h fun v u s2 x y H2 I2 rx ry q=>hr a b pins s2 σ H2 x y v u Q I2 rx ry q (hs _ _))
noncomputable def rIxL (K:PySem.W.Frag):R2:=fun x y H Q=>∃p xs i v,x=.ref p/\y=.int i/\SqL K H p xs/\atI xs i=some v/\Q v H
noncomputable def rIxT (K:PySem.W.Frag):R2:=fun x y H Q=>∃p xs i v,x=.ref p/\y=.int i/\SqT K H p xs/\atI xs i=some v/\Q v H
theorem z3w:IxR X (rIxL X.K):=by
 intro value slice pins s σ H x y v u Q I rx ry h hs;obtain⟨p,xs,i,z,rfl,rfl,hq,he,q⟩:=h;cases rx;obtain⟨t,rfl⟩:=ry;obtain⟨its,r,pl,hz⟩:=I.list hq;obtain⟨j,h1,h2,h3,h4,h5⟩:=zr2 he;obtain⟨w,ew,rw'⟩:=r.get h2;have hl:=r.length;have hn:=zpb;have fin:EP X pins σ Q w s:=⟨z,H,I,rw',q⟩;by_cases h0:0<=i
 ·have hj:i.toNat=j:=by
   rw[seqIndex_of h0 h5] at h1;exact sI h1
  exact item_listR pl.isList h0 #v[] (by rw[hj];simpa using ew) fin hs
 ·have hj:(i+(its.toArray.size:Int)).toNat=j:=by
   rw[seqIndex_neg #v[] h4] at h1;rw[Al,<-hl];exact sI h1
  exact subscriptTail_builtinR (x:=w) pl.isList.typeIs slot_list_getitem.lookup
   (wpAny_getItem_list_neg (Q:=fun r s'=>r=w/\EP X pins σ Q r s') pl.isList #v[] (by rw[Al]<;>omega) #v[] (by rw[hj];simpa using ew) ⟨rfl,fin⟩) hs
theorem z7h:IxR X (rIxT X.K):=by
 intro value slice pins s σ H x y v u Q I rx ry h hs;obtain⟨p,xs,i,z,rfl,rfl,hq,he,q⟩:=h;cases rx;obtain⟨t,rfl⟩:=ry;obtain⟨its,r,pl,hz⟩:=I.tuple hq;obtain⟨j,h1,h2,h3,h4,h5⟩:=zr2 he;obtain⟨w,ew,rw'⟩:=r.get h2;have hl:=r.length;have hn:=zpb;have fin:EP X pins σ Q w s:=⟨z,H,I,rw',q⟩;exact subscriptTail_builtinR (x:=w) pl.typeIs slot_tuple_getitem.lookup
  (getItem_tuple (j:=j) (Q:=fun r s'=>r=w/\EP X pins σ Q r s') pl #v[] #v[] (by rw[Al,<-hl];exact h1) (by simpa using ew) ⟨rfl,fin⟩) hs
theorem zq8 (its:List Value)(n j:Nat)(u:Value):Obj.mapSeq (·.setIfInBounds j u) { cls:=.type "list",data:=.seq its.toArray n }={ cls:=.type "list",data:=.seq (its.set j u).toArray n }:=by
 simp [Obj.mapSeq]
theorem Inv.lst {pins:List (Addr × Obj)}{σ:St}{H:Hp}{s:Shared}{p:Addr}{xs:List V} (I:Inv X pins σ H s) (h:H p=some (.lst xs)) :
  ∃(its:List Value) (n:Nat),Vals xs its/\s.heap.get? p=some { cls:=.type "list",data:=.seq its.toArray n }/\xs.length<=sizeLine:=by
 obtain⟨z,its,n,r,e⟩:=I.hok p _ h;exact⟨its,n,r,e,z⟩
theorem Inv.lstUpd {pins:List (Addr × Obj)}{σ:St}{H:Hp}{s:Shared}{p:Addr}{xs ys:List V}{its its' : List Value}{n n' : Nat}{f:Obj->Obj} (I:Inv X pins σ H s) (h:H p=some (.lst xs))
  (ho:s.heap.get? p=some { cls:=.type "list",data:=.seq its.toArray n }) (hf:f { cls:=.type "list",data:=.seq its.toArray n }={ cls:=.type "list",data:=.seq its'.toArray n' }) (r:Vals ys its') (hz:ys.length<=sizeLine) (t:Nat) :
  Inv X pins σ (upd H p (.lst ys)) { s with heap:=s.heap.update p f,toks:=t }:=by
 have e:(s.heap.update p f).get? p=some { cls:=.type "list",data:=.seq its'.toArray n' }:=by
  rw[Heap.get?_update_self f ho (by rw[hf]<;>rfl),hf]
 refine I.write (x:=p) (e:=p) (by rw[h];trivial) (.inl rfl) (fun b u hb q=>(Heap.get?_update_other _ _ (Ne.symm hb)).trans q) ⟨_,e⟩ ?_;exact⟨hz,its',n',r,e⟩
noncomputable def z0m:V->V->V->Hp->(Hp->Prop)->Prop:=fun o i v H Q=>∃p xs k j,o=.ref p/\i=.int k/\H p=some (.lst xs)/\ixN xs.length k=some j/\Q (upd H p (.lst (xs.set j v)))
theorem zps:PSet X z0m:=by
 intro pins s σ H o i v ov iv u Q I ro ri rv h;obtain⟨p,xs,k,j,rfl,rfl,hp,hj,q⟩:=h;cases ro;obtain⟨t,rfl⟩:=ri;obtain⟨its,n,r,ho,hz⟩:=I.lst hp;obtain⟨h1,h2,h3,h4⟩:=zuu hj;have hl:=r.length;have hn:=zpb;have I' : Inv X pins σ (upd H p (.lst (xs.set j v))) { s with heap:=s.heap.update p (Obj.mapSeq (·.setIfInBounds j u)) } :=
  I.lstUpd hp ho (zq8 its n j u) (r.set rv j) (by rw[Dp];exact hz) s.toks
 by_cases h0:0<=k
 ·have hk:k.toNat=j:=by
   rw[seqIndex_of h0 h4] at h1;exact sI h1
  exact PySem.W.ki_setAt ho h0 #v[] (by rw[Al,<-hl];exact h4) (by rw[hk];exact⟨_,I',q⟩)
 ·have hk:(k+(its.toArray.size:Int)).toNat=j:=by
   rw[seqIndex_neg #v[] h3] at h1;rw[Al,<-hl];exact sI h1
  exact PySem.W.ki_setBack ho #v[] (by rw[Al,<-hl];exact h3) #v[] (by rw[hk];exact⟨_,I',q⟩)
theorem zkf (lo hi:Option Int) (n:Nat):(sliceBounds lo hi none n).1=((HT.sIx n 0 lo:Nat):Int)/\(sliceBounds lo hi none n).2.1=((HT.sIx n n hi:Nat):Int)/\(sliceBounds lo hi none n).2.2=1:=by
  refine⟨?_,?_,rfl⟩
  · cases lo with
    | none=>simp [sliceBounds,HT.sIx]
    | some i =>
      simp only [sliceBounds,HT.sIx,Option.getD_none,show (1:Int) > 0 by decide,Fg];by_cases h:i < 0
      · simp only [h,Fg]<;>omega
      · simp only [h,Fv]<;>omega
  · cases hi with
    | none=>simp [sliceBounds,HT.sIx]
    | some i =>
      simp only [sliceBounds,HT.sIx,Option.getD_none,show (1:Int) > 0 by decide,Fg];by_cases h:i < 0
      · simp only [h,Fg]<;>omega
      · simp only [h,Fv]<;>omega
theorem zir (its:List Value)(lo hi:Option Int):slicePick its.toArray lo hi none=((its.drop (HT.sIx its.length 0 lo)).take (HT.sIx its.length its.length hi - HT.sIx its.length 0 lo)).toArray:=by
 obtain⟨h1,h2,h3⟩:=zkf lo hi its.toArray.size;unfold slicePick;rw[h1,h2,h3];simp only [sliceRange_one,pick_run,Al]<;>rfl
noncomputable def rSlL (K:PySem.W.Frag):V->Option Int->Option Int->Hp->VK->Prop:=fun x lo hi H Q=>∃a xs,x=.ref a/\SqL K H a xs/\∀p,H p=none->Q (.ref p) (upd H p (.lst (cutV xs lo hi)))
theorem z1v:SlR X (rSlL X.K):=by
 intro pins s σ H x v vl vu lo hi sl Q I rx hs pl pu h;obtain⟨a,xs,rfl,hx,q⟩:=h;cases rx;obtain⟨its,r,ht,hz⟩:=I.list hx;have hlen:=r.length;refine⟨"list",_,slot_list_getitem.lookup,ht.isList.typeIs,?_⟩;refine wpAny_getItem_list_slice ht.isList hs pl pu .none (by simp) ?_ (by rw[Al]<;>omega);rw[zir,<-hlen];refine⟨.ref s.heap.objs.size,_,I.laid (t':=s.toks) (o:=.lst (cutV xs lo hi)) (fun b ob q=>Af _ q) (Ae _) ?_,rfl,q _ (I.hok.fresh (Ae _))⟩;exact⟨Cq (zha xs lo hi) hz,_,0,(r.drop (HT.sIx xs.length 0 lo)).take (HT.sIx xs.length xs.length hi - HT.sIx xs.length 0 lo),As _ rfl⟩
noncomputable def zhr:V->Bool
 | .non=>true
 | .bl _=>true
 | .int _=>true
 | .str _=>true
 | _=>false
noncomputable def eqV:V->V->Bool
 | .non,.non=>true
 | .bl a,.bl b=>a == b
 | .bl a,.int b=>(if a then 1 else 0) == b
 | .int a,.bl b=>a == (if b then 1 else 0)
 | .int a,.int b=>a == b
 | .str a,.str b=>a == b
 | _,_=>false
theorem z6s {A:Around}{s:Shared}{y x:V}{u v:Value} (ry:RelV y u) (rx:RelV x v) (fy:zhr y=true) (fx:zhr x=true):SeqAt.EqAt A s u v (eqV y x):=by
  cases y with
  | non =>
    cases ry;cases x with
    | non=>cases rx;exact SeqAt.EqAt.same _
    | bl b=>cases rx;exact SeqAt.EqAt.none_bool b
    | int b=>obtain⟨t,rfl⟩:=rx;exact SeqAt.EqAt.none_int b t
    | str b=>obtain⟨t,rfl⟩:=rx;exact SeqAt.EqAt.none_str b t
    | _=>exact absurd (show false=true from fx) Ah
  | bl a =>
    cases ry;cases x with
    | non=>cases rx;exact SeqAt.EqAt.bool_none a
    | bl b=>cases rx;exact SeqAt.EqAt.bool_bool a b
    | int b=>obtain⟨t,rfl⟩:=rx;exact SeqAt.EqAt.bool_int a b t
    | str b=>obtain⟨t,rfl⟩:=rx;exact SeqAt.EqAt.bool_str a b t
    | _=>exact absurd (show false=true from fx) Ah
  | int a =>
    obtain⟨t',rfl⟩:=ry;cases x with
    | non=>cases rx;exact SeqAt.EqAt.int_none a t'
    | bl b=>cases rx;exact SeqAt.EqAt.int_bool a t' b
    | int b=>obtain⟨t,rfl⟩:=rx;exact SeqAt.EqAt.int_int a t' b t
    | str b=>obtain⟨t,rfl⟩:=rx;exact SeqAt.EqAt.int_str a t' b t
    | _=>exact absurd (show false=true from fx) Ah
  | str a =>
    obtain⟨t',rfl⟩:=ry;cases x with
    | non=>cases rx;exact SeqAt.EqAt.str_none a t'
    | bl b=>cases rx;exact SeqAt.EqAt.str_bool a t' b
    | int b=>obtain⟨t,rfl⟩:=rx;exact SeqAt.EqAt.str_int a t' b t
    | str b=>obtain⟨t,rfl⟩:=rx;exact SeqAt.EqAt.str_str a t' b t
    | _=>exact absurd (show false=true from fx) Ah
  | _=>exact absurd (show false=true from fy) Ah
noncomputable def eqU (x:V) (u:Value):Bool:=match u with
 | .none=>eqV .non x
 | .bool b=>eqV (.bl b) x
 | .int i _=>eqV (.int i) x
 | .str z _=>eqV (.str z) x
 | _=>false
theorem zzl {x y:V}{u:Value}(r:RelV y u)(f:zhr y=true):eqU x u=eqV y x:=by
 cases y with
 | non=>cases r;rfl
 | bl b=>cases r;rfl
 | int i=>obtain⟨t,rfl⟩:=r;rfl
 | str z=>obtain⟨t,rfl⟩:=r;rfl
 | _=>exact absurd (show false=true from f) Ah
theorem zgh {x:V}:∀{xs:List V}{us:List Value},Vals xs us->xs.all zhr=true->us.any (eqU x)=xs.any fun y=>eqV y x
  | _,_,.nil,_=>rfl
  | y::xs,u::us,.cons r t,f=>by
    rw[Bf,Ac] at f;rw[Cu,Cu,zzl r f.1,zgh t f.2]
theorem zex {A:Around}{s:Shared}{x:V}{v:Value} (rx:RelV x v) (fx:zhr x=true):∀{xs:List V}{us:List Value},Vals xs us->xs.all zhr=true->∀u∈us,SeqAt.EqAt A s u v (eqU x u)
  | _,_,.nil,_=>fun u hu=>by cases hu
  | y::xs,u::us,.cons r t,f=>fun u' hu=>by
    rw[Bf,Ac] at f;rcases Ax.mp hu with rfl | hu
    · rw[zzl r f.1];exact z6s r rx f.1 fx
    · exact zex rx fx t f.2 u' hu
noncomputable def inV (x:V) (xs:List V):Bool:=xs.any fun y=>eqV y x
noncomputable def rIn (K:PySem.W.Frag) (neg:Bool):R2:=fun x y H Q=>∃p xs,y=.ref p/\(SqL K H p xs\/SqT K H p xs)/\zhr x=true/\xs.all zhr=true/\Q (.bl (if neg then !inV x xs else inV x xs)) H
theorem ztl:OpR X (compareOp .In) (rIn X.K false):=by
 intro pins s σ H x y v u Q I rx ry h;obtain⟨p,xs,rfl,hq,fx,fs,q⟩:=h;cases ry;rcases hq with hq | hq
 ·obtain⟨its, r, pl, hz⟩ := I.list hq;refine SeqAt.in_listAt (eqU x) pl.isList (fun w hw=>zex rx fx r fs w (by simpa using hw)) ⟨.bl _,H,I,rfl,?_⟩;rw[show its.toArray.any (eqU x)=its.any (eqU x) by simp,zgh r fs];exact q
 ·obtain⟨its, r, pl, hz⟩ := I.tuple hq;refine SeqAt.in_tupleAt (eqU x) pl (fun w hw=>zex rx fx r fs w (by simpa using hw)) ⟨.bl _,H,I,rfl,?_⟩;rw[show its.toArray.any (eqU x)=its.any (eqU x) by simp,zgh r fs];exact q
theorem zln:OpR X (compareOp .NotIn) (rIn X.K true):=by
 intro pins s σ H x y v u Q I rx ry h;obtain⟨p,xs,rfl,hq,fx,fs,q⟩:=h;cases ry;rcases hq with hq | hq
 ·obtain⟨its, r, pl, hz⟩ := I.list hq;refine SeqAt.notIn_listAt (eqU x) pl.isList (fun w hw=>zex rx fx r fs w (by simpa using hw)) ⟨.bl _,H,I,rfl,?_⟩;rw[show its.toArray.any (eqU x)=its.any (eqU x) by simp,zgh r fs];exact q
 ·obtain⟨its, r, pl, hz⟩ := I.tuple hq;refine SeqAt.notIn_tupleAt (eqU x) pl (fun w hw=>zex rx fx r fs w (by simpa using hw)) ⟨.bl _,H,I,rfl,?_⟩;rw[show its.toArray.any (eqU x)=its.any (eqU x) by simp,zgh r fs];exact q
theorem zj7:zb5 X (.builtin "len") (fun xs H Q=>∃p ys,xs=[.ref p]/\(SqL X.K H p ys\/SqT X.K H p ys)/\Q (.int ys.length) H):=by
 intro pins s σ H xs us Q I r h;obtain⟨p,ys,rfl,hq,q⟩:=h;obtain⟨u,rfl,rx⟩:=vals1 r;cases rx;have hn:=zpb;rcases hq with hq | hq
 ·obtain⟨its, r', pl, hz⟩ := I.list hq;have hlen:=r'.length;exact Calls.call_len_list pl.isList (by simp only [Al]<;>omega) ⟨.int ys.length,H,I.tok _,⟨s.toks+1,by rw[Al,hlen]⟩,q⟩
 ·obtain⟨its, r', pl, hz⟩ := I.tuple hq;have hlen:=r'.length;exact len_tuple pl (by simp only [Al]<;>omega) ⟨.int ys.length,H,I.tok _,⟨s.toks+1,by rw[Al,hlen]⟩,q⟩
theorem zb5.or {f:Value}{r r' : List V->Hp->VK->Prop}(h:zb5 X f r)(h' : zb5 X f r'):zb5 X f (fun xs H Q=>r xs H Q\/r' xs H Q):=by
 intro pins s σ H xs us Q I rs q;rcases q with q | q
 ·exact h pins s σ H xs us Q I rs q
 ·exact h' pins s σ H xs us Q I rs q
theorem zkc:zb5 X (.type "list") (fun xs H Q=>∃p ys,xs=[.ref p]/\(SqL X.K H p ys\/SqT X.K H p ys)/\∀l,H l=none->Q (.ref l) (upd H l (.lst ys))):=by
 intro pins s σ H xs us Q I r h;obtain ⟨p,ys,rfl,hq,q⟩:=h;obtain ⟨u,rfl,rx⟩:=vals1 r;cases rx;have fin:∀(its:List Value),Vals ys its->ys.length<=sizeLine->∀(h' : Heap) (c' : Nat),(∀b o',s.heap.get? b=some o'->h'.get? b=some o') ->
   h'.get? s.heap.objs.size=some { cls:=.type "list",dict:=none,data:=.seq its.toArray c',slots:=#[] }->EP X pins σ Q (.ref s.heap.objs.size) { s with heap:=h' }:=fun its r' hz h' c' kp e =>
  ⟨.ref s.heap.objs.size,_,I.laid (t':=s.toks) kp (Ae _) (show ObjOk X.prog X.w _ h' _ (.lst ys) from ⟨hz,its,c',r',e⟩),rfl,q _ (I.hok.fresh (Ae _))⟩
 rcases hq with hq | hq
 ·obtain⟨its, r', pl, hz⟩ := I.list hq;have hlen:=r'.length;obtain⟨o,ho,hc,n,hd⟩:=pl.isList;exact call_list_seq p (.inl rfl) ho hc hd (fun h' c' kp e=>fin its r' hz h' c' kp e) (by simp only [Al]<;>omega)
 ·obtain⟨its, r', pl, hz⟩ := I.tuple hq;have hlen:=r'.length;obtain⟨o,ho,hc,n,hd⟩:=pl;exact call_list_seq p (.inr rfl) ho hc hd (fun h' c' kp e=>fin its r' hz h' c' kp e) (by simp only [Al]<;>omega)
theorem zjm:zb5 X (.type "tuple") (fun xs H Q=>∃p ys,xs=[.ref p]/\((SqL X.K H p ys/\∀l,H l=none->Q (.ref l) (upd H l (.tup ys)))\/(SqT X.K H p ys/\Q (.ref p) H))):=by
 intro pins s σ H xs us Q I r h;obtain⟨p,ys,rfl,h⟩:=h;obtain⟨u,rfl,rx⟩:=vals1 r;cases rx;rcases h with ⟨hq,q⟩ | ⟨hq,q⟩
 ·obtain ⟨its, r', pl, hz⟩ := I.list hq;have hlen:=r'.length;refine call_tuple_list pl.isList (fun h' kp=>?_) (by simp only [Al]<;>omega);have I1:Inv X pins σ H { s with heap:=h' }:=I.kept (t':=s.toks) kp;have I2:Inv X pins σ (upd H h'.objs.size (.tup ys)) { s with heap:=h'.push { cls:=.type "tuple",data:=.seq its.toArray } } :=
   I1.laid (t':=s.toks) (fun b o e=>Af _ e) (Ae _) (show ObjOk X.prog X.w _ _ _ (.tup ys) from ⟨hz,its,r',IsTup.new _ _⟩)
  exact⟨.ref h'.objs.size,_,I2,rfl,q _ (I1.hok.fresh (Ae _))⟩
 ·obtain⟨its, r', pl, hz⟩ := I.tuple hq;exact call_tuple_same pl ⟨.ref p,H,I,rfl,q⟩
noncomputable def tyV (K:PySem.W.Frag) (T:String) (x:V) (H:Hp):Prop:=match x with
 | .str _=>T = "str"
 | .int _=>T = "int"
 | .ref p=>(T = "list"/\∃xs,SqL K H p xs)\/(T = "tuple"/\∃o,K.lookup p=some o/\o.cls=.type "tuple"/\o.dict=none) \/
   (T = "dict"/\((∃kvs,H p=some (.dK kvs))\/∃kvs,H p=some (.dT kvs)))\/(T = "set"/\∃S n,H p=some (.set S n))
 | _=>False
theorem zzo {pins:List (Addr × Obj)}{σ:St}{H:Hp}{s:Shared}{T:String}{x:V}{v:Value} (I:Inv X pins σ H s) (r:RelV x v) (ty:tyV X.K T x H) :
    s.TypeIs v T/\∀a,v=.ref a->∃ob,s.heap.get? a=some ob/\ob.dict=none:=by
  cases x with
  | str z =>
    obtain⟨t,rfl⟩:=r;cases (show T = "str" from ty);exact⟨typeIs_str s z t,fun _ e=>nomatch e⟩
  | int i =>
    obtain⟨t,rfl⟩:=r;cases (show T = "int" from ty);exact⟨typeIs_int s i t,fun _ e=>nomatch e⟩
  | ref p =>
    cases r;rcases ty with ⟨rfl,xs,hq⟩ | ⟨rfl,o,hk,hc,hd⟩ | ⟨rfl,hk⟩ | ⟨rfl,S,n,hk⟩
    · obtain ⟨its, _, pl, _⟩ := I.list hq
      refine⟨pl.isList.typeIs,fun a e=>?_⟩;cases e;obtain⟨o,n,e,c,hd,_⟩:=pl;exact⟨o,e,hd⟩
    · refine ⟨⟨o, I.kIn p o hk, hc⟩, fun a e => ?_⟩
      cases e;exact⟨o,I.kIn _ o hk,hd⟩
    · have z:∃o,s.heap.get? p=some o/\o.ExactDict:=by
        rcases hk with ⟨kvs,hk⟩ | ⟨kvs,hk⟩
        · obtain ⟨_, _, _, _, o, _, _, e, ex, _⟩ := I.hok p _ hk
          exact⟨o,e,ex⟩
        · obtain ⟨_, _, _, _, o, _, _, e, ex, _⟩ := I.hok p _ hk
          exact⟨o,e,ex⟩
      obtain⟨o,e,ex⟩:=z;refine⟨⟨o,e,ex.1⟩,fun a e2=>?_⟩;cases e2;exact⟨o,e,ex.2.1⟩
    · obtain ⟨o, _, _, _, e, ex, _⟩ := I.hok p _ hk
      refine⟨⟨o,e,ex.1⟩,fun a e2=>?_⟩;cases e2;exact⟨o,e,ex.2.1⟩
  | _=>exact False.elim ty
noncomputable def tBM0 (K:PySem.W.Frag) (T:String) (r:V->List V->Hp->VK->Prop) (to:TE):TE:=fun σ H Q=>to σ H fun x H1=>tyV K T x H1/\r x [] H1 Q
noncomputable def tBM (K:PySem.W.Frag) (T:String) (r:V->List V->Hp->VK->Prop) (to:TE) (t:TA):TE:=fun σ H Q=>to σ H fun x H1=>tyV K T x H1/\t σ H1 fun xs H2=>r x xs H2 Q
variable {o e:Expr}{es:List Expr}{to:TE}{t:TA}{name:Str}{apos cpos:Pos}{T id:String}{r:V->List V->Hp->VK->Prop}
theorem z7d (pa:PlainAttrs T) (slot:Slot T name id) (hty:typeOf (.builtin id)=pure (.type "method_descriptor")) (hm:MtR X id r) (ho:PE X o to)
  (hbase:attributeBase o name X.env (eval o X.env)=eval o X.env:=by rfl) (hline:(apos.endLine == cpos.line)=true:=by rfl):PE X (.Call (.Attribute o name apos) [] [] cpos) (tBM0 X.K T r to):=by
 intro pins s σ H Q I h;refine wpAny_Call_method0_late hbase hline (thn (ho pins s σ H _ I h) fun v s1 ⟨x,H1,I1,r1,ty,q1⟩=>?_);obtain⟨h1,h2⟩:=zzo I1 r1 ty;exact⟨T,id,pa,slot,hty,h1,h2,Calls.callWith_builtin rfl (PySem.evalArgs_none (hm pins s1 σ H1 x [] v [] Q I1 r1 .nil q1))⟩
theorem z4s (pa:PlainAttrs T) (slot:Slot T name id) (hty:typeOf (.builtin id)=pure (.type "method_descriptor")) (hm:MtR X id r) (ho:PE X o to) (ha:PA X (e::es) t)
  (hbase:attributeBase o name X.env (eval o X.env)=eval o X.env:=by rfl)
  (hfew:((backTo cpos (starEach (e::es) X.env)).all (fun x=>!x.1) && (backToKw cpos (keywordEach [] X.env)).all (fun x=>x.1.isSome)
   && decide ((e::es).length+([]:List Keyword).length+(if ([]:List Keyword).isEmpty then 0 else 1) < 30))=true:=by rfl)
  (hline:(apos.endLine == cpos.line)=true:=by rfl) (hs:starEach (e::es) X.env=(false,eval e X.env)::starEach es X.env:=by rfl) (hplain:(backTo cpos (starEach es X.env)).any (·.1)=false:=by rfl) :
  PE X (.Call (.Attribute o name apos) (e::es) [] cpos) (tBM X.K T r to t):=by
 intro pins s σ H Q I h;refine wpAny_Call_method_late hbase hfew hline rfl (thn (ho pins s σ H _ I h) fun v s1 ⟨x,H1,I1,r1,ty,q1⟩=>?_);obtain⟨h1,h2⟩:=zzo I1 r1 ty;refine⟨T,id,pa,slot,hty,h1,h2,?_⟩;have hA:=ha cpos pins s1 σ H1 _ I1 q1;rw[hs] at hA ⊢;refine Calls.callWith_builtin (by show (false || (backTo cpos (starEach es X.env)).any (·.1))=false;rw[hplain]<;>rfl) (Calls.evalArgs_plain ?_);exact thn hA fun us s2 ⟨vs,H2,I2,r2,q2⟩=>hm pins s2 σ H2 x vs v us Q I2 r1 r2 q2
end
noncomputable def MtM (X:Cx) (id:String) (r:V->List V->Hp->VK->Prop):Prop :=
  ∀(pins:List (Addr × Obj)) (s:Shared) (σ:St) (H:Hp) (x:V) (xs:List V) (v:Value) (us:List Value) (Q:VK),Inv X pins σ H s->RelV x v->Vals xs us->r x xs H Q ->
    wpAny (model X.prog X.w) X.A (call (.builtin id) (v::us)) (EP X pins σ Q) X.xe s
theorem Vals.one:∀{x:V}{us:List Value},Vals [x] us->∃u,us=[u]/\RelV x u
 | _,_,.cons r .nil=>⟨_,rfl,r⟩
theorem Vals.rep {xs:List V}{us:List Value} (h:Vals xs us):∀k:Nat,Vals (List.replicate k xs).flatten (List.replicate k us).flatten
  | 0=>.nil
  | k+1=>by
    rw[Cr,Cr,Du,Du];exact Vals.append h (Vals.rep h k)
theorem zkx (its:List Value):∀(k:Nat) (acc:List Value),
    List.foldl (fun x1 x2=>x1++x2) acc.toArray (List.replicate k its.toArray)=(acc++(List.replicate k its).flatten).toArray
  | 0,acc=>by simp
  | k+1,acc=>by
    have e:acc.toArray++its.toArray=(acc++its).toArray:=by simp
    have e2:(acc++its)++(List.replicate k its).flatten=acc++(List.replicate (k+1) its).flatten:=by
      rw[Cr,Du,Az]
    rw[<-e2,<-zkx its k (acc++its),<-e,Cr,List.foldl_cons]
section
variable {X:Cx}{pins:List (Addr × Obj)}{σ:St}{H:Hp}{s:Shared}{l b:Addr}{xs ys zs:List V}
theorem Inv.lset {its its' : List Value}{n:Nat}{f:Array Value->Array Value}{t' : Nat} (I:Inv X pins σ H s) (hH:H l=some (.lst xs))
  (e:s.heap.get? l=some { cls:=.type "list",data:=.seq its.toArray n }) (hf:f its.toArray=its'.toArray) (hv:Vals ys its') (hz:ys.length<=sizeLine) :
  Inv X pins σ (upd H l (.lst ys)) { s with heap:=s.heap.update l (Obj.mapSeq f),toks:=t' }:=by
 have q:=PySem.IsL.update e f;rw[hf] at q;refine I.write (x:=l) (e:=l) (by rw[hH];exact trivial) (.inl rfl) (fun b' u hb hu=>(Heap.get?_update_other s.heap (Obj.mapSeq f) (Ne.symm hb)).trans hu) ⟨_,q⟩ ?_;exact⟨hz,its',_,hv,q⟩
theorem Inv.lnew {its:List Value}{t' : Nat} (I:Inv X pins σ H s) (hv:Vals ys its) (hz:ys.length<=sizeLine) :
  Inv X pins σ (upd H s.heap.objs.size (.lst ys)) { s with heap:=s.heap.push { cls:=.type "list",data:=.seq its.toArray },toks:=t' } :=
 I.laid (fun _ _ q=>Af _ q) (Ae _) ⟨hz,its,0,hv,As _ rfl⟩
theorem Inv.fresh (I:Inv X pins σ H s):H s.heap.objs.size=none:=I.hok.fresh (Ae _)
theorem Inv.lstM (I:Inv X pins σ H s)(hH:H l=some (.lst xs)):xs.length<=sizeLine/\∃(its:List Value) (n:Nat),Vals xs its/\xs.length=its.length/\s.heap.get? l=some { cls:=.type "list",data:=.seq its.toArray n }:=by
 obtain⟨z,its,n,r,e⟩:=I.hok l _ hH;exact⟨z,its,n,r,r.length,e⟩
theorem zpp {n:Nat}(h:n<=sizeLine):Builtin.List.listTooLong n=false:=by
 unfold Builtin.List.listTooLong;exact Av #v[]
end
section
variable {X:Cx}
noncomputable def zu3:V->List V->Hp->VK->Prop:=fun x vs H Q=>∃l xs y,x=.ref l/\vs=[y]/\H l=some (.lst xs)/\xs.length < sizeLine/\Q .non (upd H l (.lst (xs++[y])))
theorem zkz:MtM X "list.append" zu3:=by
 intro pins s σ H x vs v us Q I rx rv h;obtain⟨l,xs,y,rfl,rfl,hH,hz,q⟩:=h;cases rx;obtain⟨u,rfl,ru⟩:=rv.one;obtain⟨z,its,n,r,hl,e⟩:=I.lstM hH;refine call_meets F.slot_list_append ⟨_,e,rfl⟩ F.entry_list_append (F.args_list_append_2 _ _) (PySem.list_append l its.toArray n u (by rw[Al];omega)) ⟨e,?_⟩;refine⟨.non,_,I.lset (its':=its++[u]) hH e (by simp) (r.append (.cons ru .nil)) ?_,rfl,q⟩;rw[Ba,List.length_singleton];omega
noncomputable def z0e:V->List V->Hp->VK->Prop:=fun x vs H Q=>∃l b xs zs,x=.ref l/\vs=[.ref b]/\H l=some (.lst xs)/\H b=some (.lst zs)/\xs.length+zs.length<=sizeLine/\Q .non (upd H l (.lst (xs++zs)))
theorem z7q:MtM X "list.extend" z0e:=by
 intro pins s σ H x vs v us Q I rx rv h;obtain⟨l,b,xs,zs,rfl,rfl,hH,hB,hz,q⟩:=h;cases rx;obtain⟨u,rfl,ru⟩:=rv.one;cases ru;obtain⟨z,its,n,r,hl,e⟩:=I.lstM hH;obtain⟨z2,its2,n2,r2,hl2,e2⟩:=I.lstM hB;have hsz:its.toArray.size+its2.toArray.size<=sizeLine:=by rw[Al,Al];omega
 have hlong:¬ (!its.toArray.isEmpty && Builtin.List.listTooLong (its.toArray.size+its2.toArray.size))=true:=by
  rw[zpp hsz,Bool.and_false];exact Ah
 refine call_meets F.slot_list_extend ⟨_,e,rfl⟩ F.entry_list_extend (F.args_list_extend_2 _ _)
  (AutoSeq1.list_extend_list_list_0 l its.toArray n b its2.toArray n2 hlong (by rw[Al];omega) #v[]) ⟨e,e2,?_⟩
 refine⟨.non,_,I.lset (its':=its++its2) hH e (by simp) (r.append r2) ?_,rfl,q⟩;rw[Ba];omega
noncomputable def rCat:R2:=fun x y H Q=>∃l b xs zs,x=.ref l/\y=.ref b/\H l=some (.lst xs)/\H b=some (.lst zs)/\xs.length+zs.length<=sizeLine/\∀p,H p=none->Q (.ref p) (upd H p (.lst (xs++zs)))
theorem z4b:OpR X (binaryOp .Add) rCat:=by
 intro pins s σ H x y v u Q I rx ry h;obtain⟨l,b,xs,zs,rfl,rfl,hH,hB,hz,q⟩:=h;cases rx;cases ry;obtain⟨z,its,n,r,hl,e⟩:=I.lstM hH;obtain⟨z2,its2,n2,r2,hl2,e2⟩:=I.lstM hB;refine PySem.P.add_list e e2 ?_ (by rw[Al,Al];omega);have ea:its.toArray++its2.toArray=(its++its2).toArray:=by simp
 rw[ea];exact⟨.ref _,_,I.lnew (t':=s.toks) (r.append r2) (by rw[Ba];omega),rfl,q _ I.fresh⟩
noncomputable def rRep:R2:=fun x y H Q=>∃l k xs,x=.ref l/\y=.int k/\H l=some (.lst xs)/\-(2 ^ 63)<=k/\k < 2 ^ 63/\xs.length * k.toNat<=sizeLine /\
 ∀p,H p=none->Q (.ref p) (upd H p (.lst (List.replicate k.toNat xs).flatten))
theorem z0k {α:Type}(xs:List α)(k:Nat):(List.replicate k xs).flatten.length=k * xs.length:=by
 induction k with
 | zero=>simp
 | succ k ih=>rw[Cr,Du,Ba,ih,Nat.succ_mul,Nat.add_comm]
theorem z5i:OpR X (binaryOp .Mult) rRep:=by
 intro pins s σ H x y v u Q I rx ry h;obtain⟨l,k,xs,rfl,rfl,hH,h1,h2,hz,q⟩:=h;cases rx;obtain⟨t,rfl⟩:=ry;obtain⟨z,its,n,r,hl,e⟩:=I.lstM hH;have hlen:its.toArray.size * k.toNat<=sizeLine:=by rw[Al,<-hl];exact hz
 have hcap:¬ its.toArray.size * k.toNat > (2 ^ 63 - 1) / 8:=by
  have:(sizeLine:Nat)<=(2 ^ 63 - 1) / 8:=by decide
  omega
 have hfit:¬ (!Builtin.List.listFitsIndex k)=true:=by
  rw[fitsIndex_both h1 h2];exact Ah
 have hlong:¬ Builtin.List.listTooLong (its.toArray.size * k.toNat)=true:=by
  rw[zpp hlen];exact Ah
 have hnew:List.foldl (fun x1 x2=>x1++x2) #[] (List.replicate (if its.toArray.isEmpty=true then 0 else k.toNat) its.toArray)=(List.replicate k.toNat its).flatten.toArray:=by
  have f0:∀m:Nat,List.foldl (fun x1 x2=>x1++x2) #[] (List.replicate m its.toArray)=(List.replicate m its).flatten.toArray:=fun m=>by
   have:=zkx its m [];rw[Ga] at this;exact this
  rw[f0];cases its with
  | nil=>simp
  | cons a r'=>rw[if_neg (by simp)]
 refine wpAny_binaryOp_repeat_ref (T := "list") (U := "int") #v[0,9] ⟨_,e,rfl⟩ (fun s'=>typeIs_int s' k t) noFill_list_mul F.fills_int_mul F.slot_int_rmul repeat_list F.slot_int_index.lookup
  (call_meets F.slot_int_rmul (typeIs_int s k t) F.entry_int_rmul (F.args_int_rmul_2 _ _) (int___rmul___int_list k t l its.toArray n)
   ⟨e,rfl,⟨_,e,rfl⟩,call_meets F.slot_list_mul ⟨_,e,rfl⟩ F.entry_list_mul (F.args_list_mul_2 _ _) (AutoListH.list___mul___list_int_3 l its.toArray n k t hfit hcap hlong) ⟨e,?_⟩⟩)
 rw[hnew];exact⟨.ref _,_,I.lnew (t':=s.toks) (r.rep k.toNat) (by rw[z0k,Nat.mul_comm];exact hz),rfl,q _ I.fresh⟩
end
section
variable {prog:Program}{w:World}{A:Around}{E:Value->Shared->Prop}{s:Shared}
end
section
variable {X:Cx}
end
end L2
namespace Att
open PySem PySem.W PySem.Calls PyProof.Rows
theorem zgl {P:Params}{h:Heap}:∀(ns:List Int) (vs:List Value),WellAll P h vs (ns.map WData.int)->IntsAre vs ns:=by
  intro ns
  induction ns with
  | nil =>
    intro vs w;rw[List.map_nil] at w;cases w;exact .nil
  | cons n ns ih =>
    intro vs w;rw[Ak] at w;cases w with
    | cons a b =>
      cases a;exact .cons _ _ (ih _ b)
theorem zty {l:OpenLaw}{n:Nat} (hn:l.most=some n) {P:Params}{h:Heap}{args:List WData}{vals:List Value}
    (hpre:l.row.toRowW.claim.pre args=true) (hwl:WellAll P h vals args) :
    ∃a vs ns,vals=[Value.ref a]/\args=[WData.list (ns.map WData.int)]/\h.get? a=some { cls:=.type "list",data:=.seq vs.toArray }/\IntsAre vs ns/\ns.length<=n:=by
  have hsh:WShape.hasAll [] args [.list .int]=true:=(pre_splitW hpre).1;have hc:l.pre.holds [] { args:=args }=true:=(pre_splitW hpre).2;obtain ⟨d,r,rfl,h1,h2⟩:=hasAllW_cons hsh;obtain rfl:=hasAllW_nil h2;obtain ⟨xs,rfl,h3⟩:=hasW_list h1;obtain ⟨ns,rfl⟩:=items_int h3;have hlen:ns.length<=n:=by
    unfold OpenLaw.pre at hc;have h4:(WTm.not (.lt (.lit (.int (n:Int))) (.len (.arg 0)))).holds [] { args:=[.list (ns.map .int)] }=true:=by
      have h4:=(holds_andW hc).1;rw[hn] at h4;exact h4
    have h5:=condW_of h4 (w_not (w_lt w_lit (w_len_list (w_arg rfl))));rw[Ad] at h5;refine Nat.le_of_not_lt fun q=>?_;have q' : (n:Int) < ((ns.length:Nat):Int):=by omega
    first
      | (rw[Ag q'] at h5;exact absurd h5 #v[0,9])
      | (simp at h5;omega)
  cases hwl with
  | cons w1 w2 =>
    cases w2;cases w1 with
    | list ho hall=>exact⟨_,_,ns,rfl,rfl,ho,zgl ns _ hall,hlen⟩
theorem zto (l:OpenLaw)(args:List WData):l.row.toRowW.claim.post args (.bool true) args=true :=
 postW_of (r:=l.row.toRowW) (X:=(true == true))
  (show WShape.has [] (.bool true) .bool=true by first | rfl | decide | simp [WShape.has,WShape.arms,WShape.armsAll])
  (show (WTm.eq .res (.lit (.bool true))).value [] { args:=args,res:=some (.bool true),after:=args }=some (.bool (true == true)) from w_eq_bool (w_res rfl) w_lit) rfl
theorem attach_call {l:OpenLaw}{n:Nat}{q:Program}{loose:List Str}{XP:(Str->Option Value)->Heap->Prop}{YP:World->Heap->Prop}{d:DefRec}
  (hn:l.most=some n) (hdf:d.params.defaults=[])
  (call:∀(w:World) (s₀ s₁:Shared) (mg mb:Str->Option Value) (fa:Addr) (o:Obj) (pm cd doc:Value) (a:Addr) (vs:List Value) (ns:List Int),
   Ground q loose [] XP w s₀ mg mb s₁.heap->YP w s₁.heap ->
   s₁.heap.get? fa=some o->o.data=.func (docDef d.name d.params d.body d.scope pm cd doc)->s₁.heap.CodeRec cd d.name->mg d.name=some (.ref fa) ->
   s₁.heap.get? a=some { cls:=.type "list",data:=.seq vs.toArray }->IntsAre vs ns->ns.length<=n->s₁.gens=#[] ->
   codeAny (model l.prog w) callerA (.call (.ref fa) ⟨[.ref a],[]⟩) (fun r s'=>r=.ok (.ret (.bool true))/\OldK s₁.heap s'.heap/\s'.os=s₁.os/\AllBare s'.gens) s₁) :
  WalkO q loose XP YP l.row.toRowW d [] (fun f vs=>PySem.call f vs):=by
 intro w s₀ s₁ mg mb G Y fa o pm cd doc dV kV ho hd hcd hD hmg hg args vals as hpre hlay hrd hwl hlo;obtain rfl:dV=.none:=Dflts.none hD hdf;obtain rfl:kV=.none:=Dflts.noKw hD;obtain⟨a,vs,ns,rfl,rfl,hobj,hints,hlen⟩:=zty hn hpre hwl;refine enter_call (codeAny_mono (call w s₀ s₁ mg mb fa o pm cd doc a vs ns G Y ho (fd_plain hd) hcd hmg hobj hints hlen hg) fun r s' hq=>?_);obtain⟨rfl,h2,h3,h4⟩:=hq;exact⟨.inl ⟨.bool true,.bool true,[],rfl,fun _=>rfl,.bool true,zto l _,fun _=>⟨List.Pairwise.nil,fun _ hm=>(nomatch hm)⟩⟩,h2,h3,h4⟩
section
variable {prog:Program}{w:World}{A:Around}{E:Value->Shared->Prop}{s:Shared}{K:Frag}
end
end Att
namespace L2
open PySem PySem.Spec PyProof.Rows
theorem zj8:∀{vs:List Value}{ns:List Int},IntsAre vs ns->Vals (ns.map V.int) vs
 | _,_,.nil=>.nil
 | _,_,.cons n t h=>.cons ⟨t,rfl⟩ (zj8 h)
noncomputable def zfj (s:Stmt):Arguments:=match s with
 | .FunctionDef _ a _ _ _ _ _ _ _ _=>a
 | _=>{ posonlyargs:=[],args:=[],vararg:=none,kwonlyargs:=[],kw_defaults:=[],kwarg:=none,defaults:=[] }
noncomputable def zdl (s:Stmt):List Stmt:=match s with
 | .FunctionDef _ _ b _ _ _ _ _ _ _=>b
 | _=>[]
noncomputable def zar (s:Stmt):Scope:=match s with
 | .FunctionDef _ _ _ _ _ _ sc _ _ _=>sc
 | _=>{ kind:=.function,names:=[],isGenerator:=false,isCoroutine:=false }
noncomputable abbrev CX0:CXT:=fun _ _ _ _ _ _=>False
noncomputable abbrev E0:XK:=fun _ _ _=>False
theorem yab {X:Cx}:ztb CX0 X E0:=fun _ _ _ _ _ _ _ h=>h.elim
structure Fun (K:PySem.W.Frag) (x qual:Str) (st:Stmt) (f:Addr) (fd:FuncData):Prop where
 ex:∃(oc:Value) (od:Option Addr) (kV doc pm:Value) (an:Option Addr) (cdv ct:Value) (osl:Array (Option Value)),
  fd=PySem.W.fnOf x qual (zfj st) (zdl st) (zar st) .none kV doc pm an cdv ct/\K.lookup f=some ⟨oc,od,.func fd,osl⟩/\PySem.W.codeIn K cdv qual=true
 kp:PySem.W.keepIn K (.ref f)=true
section
variable {P:Program}{w:World}{K:PySem.W.Frag}{mg:Str->Option Value}{base:Heap}
theorem Fun.binds {x qual:Str}{st:Stmt}{f:Addr}{fd:FuncData}{ps:List Str} (F:Fun K x qual st f fd)
  (h:∀(kV doc pm:Value) (an:Option Addr) (cdv ct:Value) (us:List Value),us.length=ps.length->bindArgs (PySem.W.fnOf x qual (zfj st) (zdl st) (zar st) .none kV doc pm an cdv ct) ⟨us,[]⟩=pure (ps.zip us)):zl8 K fd ps []:=by
 obtain⟨oc,od,kV,doc,pm,an,cdv,ct,osl,rfl,lk,hcd⟩:=F.ex;exact .all (h kV doc pm an cdv ct)
theorem zz4 {x qual:Str}{st:Stmt}{f:Addr}{oc:Value}{od an:Option Addr}{osl:Array (Option Value)}{kV doc pm cdv ct:Value} (l:K.lookup f=some ⟨oc,od,.func (PySem.W.fnOf x qual (zfj st) (zdl st) (zar st) .none kV doc pm an cdv ct),osl⟩)
  (c:PySem.W.codeIn K cdv qual=true) (k:PySem.W.keepIn K (.ref f)=true):Fun K x qual st f (PySem.W.fnOf x qual (zfj st) (zdl st) (zar st) .none kV doc pm an cdv ct):=⟨⟨oc,od,kV,doc,pm,an,cdv,ct,osl,rfl,l,c⟩,k⟩
end
section
variable {X:Cx}
theorem pv (i:Nat) {x:Str}{pos:Pos} (hN:X.N[i]?=some x:=by rfl) (hv:Vis X.env.scope x:=by first | exact Or.inl rfl | exact Or.inr (Or.inl rfl) | exact Or.inr (Or.inr rfl)) (hd:(x == ("__debug__" : Str))=false:=by decide)
  (hcd:(x == ("__classdict__" : Str))=false:=by decide):PE X (.Name x pos) (tVar i):=zpt hN hv hd hcd
end
theorem iteF {A B:Prop}(h:B):if false=true then A else B:=by
 rw[if_neg Ah];exact h
theorem iteT {A B:Prop}(h:A):if true=true then A else B:=by
 rw[if_pos rfl];exact h
noncomputable def Same (H H' : Hp):Prop:=∀b o,H b=some o->H' b=some o
theorem Same.refl (H:Hp):Same H H:=fun _ _ h=>h
theorem Same.trans {H H1 H2:Hp}(a:Same H H1)(b:Same H1 H2):Same H H2:=fun c o h=>b c o (a c o h)
theorem Same.free {H H' : Hp} (e:Same H H') {l:Addr} (h:H' l=Option.none):H l=Option.none:=by
  cases q:H l with
  | none=>rfl
  | some o =>
    rw[e l o q] at h;cases h
theorem Same.seq {K:PySem.W.Frag}{H H' : Hp}{a:Addr}{xs:List V}(e:Same H H')(h:SqL K H a xs):SqL K H' a xs:=by
 rcases h with (h | ⟨o,h⟩) | h
 ·exact .inl (.inl (e _ _ h))
 ·exact .inl (.inr ⟨o,e _ _ h⟩)
 ·exact .inr h
noncomputable def capSt (cap:List (Option Nat)) (σ:St):St:=cap.map fun o=>match o with
 | some i=>(σ[i]?).getD none
 | none=>none
noncomputable def zhk (cap:List (Option Nat)) (Nc N:List Str) (scope:Scope):Bool :=
 decide (cap.length=Nc.length) && (cap.zip Nc).all fun p=>match p.1 with
  | some i=>decide (N[i]?=some p.2) && decide (scope.names.lookup p.2=some NameKind.free)
  | none=>true
theorem ztc {cap Nc N scope}(h:zhk cap Nc N scope=true):cap.length=Nc.length:=by
 unfold zhk at h;rw[Ac] at h;exact An h.1
theorem zwa {cap:List (Option Nat)}{Nc N:List Str}{scope:Scope}(h:zhk cap Nc N scope=true){j i:Nat}{x:Str}(h1:cap[j]?=some (some i))(h2:Nc[j]?=some x):N[i]?=some x/\scope.names.lookup x=some .free:=by
 unfold zhk at h;rw[Ac] at h;have hm:(some i,x)∈cap.zip Nc:=by
  refine Bn (i:=j) ?_;rw[List.getElem?_zip_eq_some];exact⟨h1,h2⟩
 have q:=Bg.mp h.2 _ hm;simp only [Ac,Ds] at q;exact q
noncomputable def zhg (scope:Scope) (out:Scope):Bool:=scope.names.all fun p=>!(p.2 == NameKind.free) || decide (out.names.lookup p.1=some .cell) || decide (out.names.lookup p.1=some .free)
theorem zfr {env:Env}:∀(names:List (Str × NameKind)) (acc:List (Str × Addr)),(∀x,(x,NameKind.free)∈names->∃c,env.cells.lookup x=some c)->(∀x c,acc.lookup x=some c->env.cells.lookup x=some c) ->
    ∃cl,(forIn names acc fun (p:Str × NameKind) cs=>if p.2 == NameKind.free then do let c <- cellOf env p.1;pure (ForInStep.yield ((p.1,c)::cs)) else pure (ForInStep.yield cs):Sem (List (Str × Addr)))=pure cl /\
      (∀x c,cl.lookup x=some c->env.cells.lookup x=some c)/\(∀x,(x,NameKind.free)∈names\/(∃c,acc.lookup x=some c)->∃c,cl.lookup x=some c)
  | [],acc,_,h2=>⟨acc,by rw [List.forIn_nil],h2,fun x hx=>by
      rcases hx with hx | hx
      · cases hx
      · exact hx⟩
  | (n,k)::r,acc,h1,h2=>by
    rw[List.forIn_cons];by_cases hk:(k == NameKind.free)=true
    · have ek : k = .free := by simpa using hk
      subst ek;obtain ⟨c,hc⟩:=h1 n Aq;have h2' : ∀x d,((n,c)::acc).lookup x=some d->env.cells.lookup x=some d:=fun x d hx=>by
        rw[Bj] at hx;cases e:x == n with
        | true => rw [e] at hx; obtain rfl := sI hx; have : x = n := by simpa using e
                  rw[this];exact hc
        | false=>rw[e] at hx;exact h2 x d hx
      obtain⟨cl,e,a,b⟩:=zfr r ((n,c)::acc) (fun x hx=>h1 x (Ar _ hx)) h2';refine⟨cl,?_,a,fun x hx=>b x ?_⟩
      · rw [<- e]
        have hcell:cellOf env n=pure c:=by unfold cellOf;rw[hc]
        simp only [beq_self_eq_true,Fg,hcell]
        rfl
      · have gen:∀y d,acc.lookup y=some d->∃d',((n,c)::acc).lookup y=some d':=fun y d hy=>by
          rw[Bj];cases e:y == n with
          | true=>exact⟨_,rfl⟩
          | false=>exact⟨d,hy⟩
        rcases hx with hx | ⟨d,hx⟩
        · rcases Ax.mp hx with hx | hx
          · injection hx with hx _
            subst hx;exact .inr ⟨c,by rw[Bj];simp⟩
          · exact .inl hx
        · exact .inr (gen x d hx)
    · have hk' : (k == NameKind.free) = false := by simpa using hk
      obtain⟨cl,e,a,b⟩:=zfr r acc (fun x hx=>h1 x (Ar _ hx)) h2;refine⟨cl,?_,a,fun x hx=>b x ?_⟩
      · rw [<- e]
        simp only [hk',Eh,Fv]
        rfl
      · rcases hx with hx | hx
        · rcases Ax.mp hx with hx | hx
          · injection hx with _ hx
            subst hx;simp at hk'
          · exact .inl hx
        · exact .inr hx
theorem zdj {env:Env}{scope:Scope} (h:∀x,(x,NameKind.free)∈scope.names->∃c,env.cells.lookup x=some c) :
  ∃cl,closureFor scope env=pure cl/\(∀x c,cl.lookup x=some c->env.cells.lookup x=some c)/\(∀x,(x,NameKind.free)∈scope.names->∃c,cl.lookup x=some c):=by
 nofun;obtain⟨cl,e,a,b⟩:=zfr (env:=env) scope.names [] h (fun x c hx=>by simp at hx);ac_rfl;refine⟨cl,?_,a,fun x hx=>b x (.inl hx)⟩;rw[closureFor];have e':=e;simp only [bind_assoc,Gc] at e' ⊢;exact congrArg (fun m=>m >>= fun r=>pure r) e |>.trans (by rw[Gc])
noncomputable def za9 (X:Cx) (Nc:List Str) (scope:Scope) (cl:List (Str × Addr)) (C:Addr) (s3:Shared) (H3:Hp) (fp:List Addr):Cx where
 prog:=X.prog
 w:=X.w
 K:=X.K
 mg:=X.mg
 base:=X.base
 A:=X.A
 N:=Nc
 s₀:=s3
 H₀:=H3
 env:=compEnvC scope cl C X.env
 outer:=X.stack
 stack:=X.stack
 ex:=fp
 fn:=fun x=>decide (scope.names.lookup x=some NameKind.cell)
 calm:=X.calm
 pn:=[]
 xe:=fun _ _=>False
noncomputable def zy4:TT:=fun σ H Q=>Q true H
noncomputable def PTs (X:Cx) (ifs:List Expr) (t:TT):Prop :=
  ∀(pins:List (Addr × Obj)) (s:Shared) (σ:St) (H:Hp) (Q:Bool->Hp->Prop),Inv X pins σ H s->t σ H Q ->
    wpAny (model X.prog X.w) X.A (forIn ifs true fun c r=>if r=true then do let ok <- isTrue c X.env (eval c X.env);pure (ForInStep.yield ok) else pure (ForInStep.yield r)) (TP X pins σ Q) X.xe s
theorem z08 {X:Cx}:PTs X [] zy4:=fun pins s σ H Q I h=>by
 rw[List.forIn_nil];exact Ai ⟨H,I,h⟩
theorem z0q {X:Cx}{c:Expr}{t:TT}(h:PT X c t):PTs X [c] t:=fun pins s σ H Q I q=>by
 rw[List.forIn_cons];simp only [Fg];refine Aa (Aa (thn (h pins s σ H Q I q) fun b s1 q1=>?_));refine Ai ?_;dsimp only;rw[List.forIn_nil];exact Ai q1
section
variable {X:Cx}
theorem zaz {env:Env}:∀{names:List (Str × NameKind)}{x:Str},names.lookup x=some .free ->
    (names.map fun (n,k)=>if (k == NameKind.free && env.scope.kind == .function && env.kindOf n == some .cell) then (n,NameKind.cell) else (n,k)).lookup x=some .cell \/
    (names.map fun (n,k)=>if (k == NameKind.free && env.scope.kind == .function && env.kindOf n == some .cell) then (n,NameKind.cell) else (n,k)).lookup x=some .free
  | [],_,h=>by simp at h
  | (n,k)::r,x,h=>by
    have ih:=@zaz env r x;rw[Ak];rw[Bj] at h;cases hx:x == n with
    | true =>
      rw[hx] at h;obtain rfl:=sI h;dsimp only;split
      · rw[Bj,hx];exact .inl rfl
      · rw[Bj,hx];exact .inr rfl
    | false =>
      rw[hx] at h;dsimp only;split
      · rw[Bj,hx];exact ih h
      · rw[Bj,hx];exact ih h
theorem zbj {env:Env}:∀{names:List (Str × NameKind)}{x:Str}{k:NameKind},(k=.cell\/k=.free) ->
    (names.map fun (n,k)=>if (k == NameKind.free && env.scope.kind == .function && env.kindOf n == some .cell) then (n,NameKind.cell) else (n,k)).lookup x=some k->names.lookup x=some .free\/names.lookup x=some .cell
  | [],_,_,_,h=>by simp at h
  | (n,k0)::r,x,k,hk,h=>by
    rw[Ak] at h;rw[Bj];cases hx:x == n with
    | true =>
      dsimp only at h;split at h
      · rename_i hc
        rw[Bj,hx] at h;simp only [Ac,beq_iff_eq] at hc;rw[hc.1.1];exact .inl rfl
      · rw [Bj, hx] at h
        obtain rfl:=sI h;rcases hk with rfl | rfl
        · exact .inr rfl
        · exact .inl rfl
    | false =>
      dsimp only at h;split at h
      · rw[Bj,hx] at h;exact zbj hk h
      · rw[Bj,hx] at h;exact zbj hk h
theorem zdy {scope out:Scope}(h:zhg scope out=true){x:Str}(hx:(x,NameKind.free)∈scope.names):out.names.lookup x=some .cell\/out.names.lookup x=some .free:=by
 have q:=Bg.mp h _ hx;simpa using q
theorem capSt_get {cap:List (Option Nat)}{σ:St}{j:Nat}{v:V} (h:(capSt cap σ)[j]?=some (some v)):∃i,cap[j]?=some (some i)/\σ[i]?=some (some v):=by
  unfold capSt at h;rw[Au] at h;cases e:cap[j]? with
  | none=>rw[e] at h;cases h
  | some o =>
    rw[e] at h;cases o with
    | none=>cases h
    | some i =>
      refine⟨i,rfl,?_⟩;have h' : (σ[i]?).getD none=some v:=sI h;cases e2:σ[i]? with
      | none=>rw[e2] at h';cases h'
      | some z=>rw[e2] at h';exact congrArg some h'
theorem za6 {env:Env}:∀{names:List (Str × NameKind)}{x:Str}{k:NameKind},k≠.free->names.lookup x=some k ->
    (names.map fun (n,k)=>if (k == NameKind.free && env.scope.kind == .function && env.kindOf n == some .cell) then (n,NameKind.cell) else (n,k)).lookup x=some k
  | [],_,_,_,h=>by simp at h
  | (n,k0)::r,x,k,hk,h=>by
    have ih:=@za6 env r x k hk;rw[Ak];rw[Bj] at h;cases hx:x == n with
    | true =>
      rw[hx] at h;obtain rfl:=sI h;have:(k0 == NameKind.free)=false:=by cases k0<;>first | rfl | exact absurd rfl hk
      dsimp only;rw[this,Es,Es,if_neg Ah,Bj,hx]
    | false =>
      rw[hx] at h;dsimp only;split
      · rw[Bj,hx];exact ih h
      · rw[Bj,hx];exact ih h
noncomputable def zfy (scope:Scope):Bool:=scope.names.all fun p=>!(p.2 == NameKind.cell) || decide (scope.names.lookup p.1=some .cell)
theorem zqh {scope:Scope}(h:zfy scope=true){x:Str}(hx:(x,NameKind.cell)∈scope.names):scope.names.lookup x=some .cell:=by
 have q:=Bg.mp h _ hx;simpa using q
theorem zcn:∀(names:List (Str × NameKind)) (n:Nat) (acc:List (Str × Addr)),cellsFrom n names acc=cellsFrom n names []++acc
  | [],_,_=>rfl
  | (x,k)::r,n,acc=>by
    unfold cellsFrom;split
    · rw[zcn r (n+1) ((x,n)::acc),zcn r (n+1) [(x,n)],Az];rfl
    · exact zcn r n acc
theorem zgs:∀(names:List (Str × NameKind)) (n:Nat) {x:Str}{c:Addr},(x,c)∈cellsFrom n names []->(x,NameKind.cell)∈names
  | [],_,_,_,h=>by cases h
  | (y,k)::r,n,x,c,h=>by
    unfold cellsFrom at h;split at h
    · rename_i hk
      rw[zcn] at h;rcases Bd.mp h with h | h
      · exact Ar _ (zgs r _ h)
      · have e := Aj.mp h
        cases e;have:k=NameKind.cell:=by simpa using hk
        rw[this];exact Aq
    · exact Ar _ (zgs r _ h)
theorem cells_of {names:List (Str × NameKind)}{n:Nat}{cl:List (Str × Addr)}{x:Str}{c:Addr}(h:(cellsFrom n names cl).lookup x=some c):(cellsFrom n names []).lookup x=some c\/((cellsFrom n names []).lookup x=none/\cl.lookup x=some c):=by
 rw[zcn,List.lookup_append] at h;cases e:(cellsFrom n names []).lookup x with
 | some d=>rw[e] at h;exact .inl h
 | none=>rw[e] at h;exact .inr ⟨rfl,h⟩
theorem zh9 {scope:Scope} (h:zfy scope=true) {n:Nat}{cl:List (Str × Addr)}{x:Str}{c:Addr} (hx:scope.names.lookup x=some .free) (hc:cl.lookup x=some c):(cellsFrom n scope.names cl).lookup x=some c:=by
  rw[zcn,List.lookup_append];cases e:(cellsFrom n scope.names []).lookup x with
  | none=>exact hc
  | some d =>
    have:=zqh h (zgs _ _ (Bs e));rw[hx] at this;cases this
theorem zwt {pins:List (Addr × Obj)}{σ:St}{H3:Hp}{s3:Shared}{Nc:List Str}{scope:Scope}{cl:List (Str × Addr)}{cap:List (Option Nat)}{fp:List Addr}{h4:Heap}{tk:Nat}
  (I:Inv X pins σ H3 s3) (hk:scope.kind=.function) (hcap:zhk cap Nc X.N scope=true) (hfr:zhg scope X.env.scope=true) (hnc:zfy scope=true)
  (c1:∀x c,cl.lookup x=some c->X.env.cells.lookup x=some c) (c2:∀x,(x,NameKind.free)∈scope.names->∃c,cl.lookup x=some c)
  (hf:∀b∈fp,FpOk X pins H3 b) (ho:∀b∈fp,b < s3.heap.objs.size)
  (hns:h4.Ns s3.heap.objs.size (fun _=>none)) (hkeep:∀b o,s3.heap.get? b=some o->h4.get? b=some o) (hcs:CellsOk h4 (s3.heap.objs.size+1) (cellsFrom (s3.heap.objs.size+1) scope.names [])) :
  Inv (za9 X Nc scope (cellsFrom (s3.heap.objs.size+1) scope.names cl) s3.heap.objs.size s3 H3 fp) [] (capSt cap σ) H3 { s3 with heap:=h4,toks:=tk }:=by
 have stkne:∀b∈fp,b ∉ frs X.stack:=fun b hb z=>by
  obtain⟨_,g1,g2,_⟩:=hf b hb;rcases Ax.mp (I.stkSub b z) with e | e
  ·exact g1 e
  ·exact g2 e
 have own:∀x c,(cellsFrom (s3.heap.objs.size+1) scope.names []).lookup x=some c->h4.IsCell c none/\s3.heap.objs.size+1<=c:=fun x c h=>hcs.empty x c (Bs h);have old:∀x c,cl.lookup x=some c->c < s3.heap.objs.size:=fun x c h=>by
  obtain⟨v,q⟩:=I.cell x c (c1 x c h);exact q.lt
 refine⟨⟨I.mod,hk,I.ok.glob,I.ok.blt,Ae _,fun x y c h1 h2=>?_,fun x hx=>?_,fun x c h h'=>?_,I.ok.hd,I.ok.frames,.inl rfl,fun b hb=>⟨At (ho b hb),fun x c h=>?_⟩,
  fun b o e=>I.bs b o e,Cq I.ok.bsz I.sz,fun b o e hb=>?_,stkne,I.stack,I.stkFree⟩,rfl,I.bare,Un.kept hkeep,⟨_,hns,fun j x v h1 h2 h3=>?_⟩,fun x c h=>?_,I.hok.fresh (Ae _),fun x c h=>?_,fun p hp=>absurd (show p∈([]:List (Addr × Obj)) from hp) (by simp),I.hok.kept hkeep,?_⟩
 ·rcases cells_of h1 with z1 | ⟨_, z1⟩
  ·rcases cells_of h2 with z2 | ⟨_, z2⟩
   ·exact name_of_addr hcs.apart (Bs z1) (Bs z2)
   ·have a := (own x c z1).2;have b:=old y c z2;exact absurd (Be b (Fi a)) (Bx _)
  ·rcases cells_of h2 with z2 | ⟨_, z2⟩
   ·have a := (own y c z2).2;have b:=old x c z1;exact absurd (Be b (Fi a)) (Bx _)
   ·exact I.ok.inj x y c (c1 x c z1) (c1 y c z2)
 ·have hx' : scope.names.lookup x=some .free\/scope.names.lookup x=some .cell:=by
   rcases hx with hx | hx
   ·exact zbj (env:=X.env) (.inl rfl) hx
   ·exact zbj (env:=X.env) (.inr rfl) hx
  rcases hx' with hx' | hx'
  ·obtain⟨c, e⟩ := c2 x (Bs hx');exact⟨c,zh9 hnc hx' e⟩
  ·exact Gs.mp (PySem.W.cellsFrom_some scope.names _ cl (.inl hx'))
 ·have hx : scope.names.lookup x = some .cell := An h;rcases cells_of h' with z | ⟨z,_⟩
  ·exact Fi (own x c z).2
  ·obtain⟨d, e⟩ := cell_has (n := s3.heap.objs.size + 1) hx;rw[z] at e;cases e
 ·rcases cells_of h with z | ⟨_, z⟩
  ·have a := (own x c z).2;have:=ho b hb;exact Ne.symm (At (Be this (Fi a)))
  ·exact (hf b hb).2.2.2.2.1 x c (c1 x c z)
 ·rcases (hf b hb).2.2.2.1 with z | z
  ·exact I.ok.noex b o e z
  ·have h1 : b < X.base.objs.size := Ao e;exact absurd (Be h1 (Cq I.ok.bsz z)) (Bx _)
 ·obtain ⟨i, e1, e2⟩ := capSt_get h2;have hNx:Nc[j]?=some x:=h1;obtain ⟨n1,n2⟩:=zwa hcap e1 hNx;have vis:Vis X.env.scope x:=by
   rcases zdy hfr (Bs n2) with z | z
   ·exact .inr (.inl z)
   ·exact .inr (.inr z)
  obtain⟨m,hn,hl⟩:=I.loc;obtain⟨u,r,l⟩:=hl i x v n1 e2 vis;refine⟨u,r,?_⟩;rcases l with ⟨hk',_⟩ | ⟨_,c,e,z⟩
  ·have hk2 : X.env.scope.names.lookup x = some .local := hk';rcases zdy hfr (Bs n2) with z | z
   ·rw[z] at hk2;cases hk2
   ·rw[z] at hk2;cases hk2
  ·obtain⟨c', e'⟩ := c2 x (Bs n2);have:=c1 x c' e';rw[e] at this;obtain rfl:=sI this;refine .inr ⟨zaz (env:=X.env) n2,c,zh9 hnc n2 e',?_⟩;obtain⟨o,ho',hd⟩:=z;exact⟨o,hkeep _ _ ho',hd⟩
 ·rcases cells_of h with z | ⟨_, z⟩
  ·exact⟨none,(own x c z).1⟩
  ·obtain⟨v, o, ho', hd⟩ := I.cell x c (c1 x c z);exact⟨v,o,hkeep _ _ ho',hd⟩
 ·rcases cells_of h with z | ⟨_, z⟩
  ·exact I.hok.fresh (Fi (own x c z).2)
  ·exact I.freeC x c (c1 x c z)
 ·show (capSt cap σ).length = Nc.length;rw[<-ztc hcap];unfold capSt;rw[Ad]
theorem zjg {M:Model}{A:Around}{E:Value->Shared->Prop}{s:Shared}{scope:Scope}{globals:Addr}{cl:List (Str × Addr)}{qual:Str}{outer:Env}{Q:Env->Shared->Prop}
  (hQ:∀h',h'.Ns s.heap.objs.size (fun _=>none)->(∀b o,s.heap.get? b=some o->h'.get? b=some o)->CellsOk h' (s.heap.objs.size+1) (cellsFrom (s.heap.objs.size+1) scope.names []) ->
   Q (newEnv scope s.heap.objs.size globals (cellsFrom (s.heap.objs.size+1) scope.names cl) qual none .none (some outer) builtinsNs) { s with heap:=h' }) :
  wpAny M A (newFunctionEnv scope globals cl [] qual none .none (some outer)) Q E s:=by
 simp only [newFunctionEnv,Option.isSome_some,Fg];refine Aa (wpAny_alloc ?_);refine Aa (wpAny_layCells _ (fun name kind cells=>by cases hkc:kind == NameKind.cell<;>simp [hkc]) _ _ _ _ ?_);have ok:=cellsFrom_ok scope.names (s.heap.push { cls:=.type "dict",data:=.dict #[] }) (s.heap.objs.size+1) [] ⟨fun _ _ hm=>(nomatch hm),List.Pairwise.nil⟩ (by rw[Fw];exact Ae _);rw[Fw] at ok;rw[show ({ s with heap:=s.heap.push { cls:=.type "dict",data:=.dict #[] } }:Shared).heap.objs.size=s.heap.objs.size+1 from Fw ..];refine Aa ?_;rw[List.forIn_nil];exact Ai (Ai (hQ _ ((Heap.Ns.new s.heap (.type "dict")).keeps (pushCells_keeps _ _)) (fun b o e=>pushCells_keeps _ _ b o (Af _ e)) ok))
end
noncomputable abbrev TM:=St->Hp->(St->Hp->Prop)->Prop
noncomputable def PM (X:Cx) (em:Sem Unit) (t:TM):Prop :=
  ∀(pins:List (Addr × Obj)) (s:Shared) (σ:St) (H:Hp) (N:St->Hp->Prop),Inv X pins σ H s->t σ H N ->
    wpAny (model X.prog X.w) X.A em (fun _ s'=>∃σ' H',Inv X pins σ' H' s'/\N σ' H') X.xe s
noncomputable def zri (e:Expr) (d:Nat) (tg iter:Expr) (ifs:List Expr) (em:Sem Unit) (it acc:Value) (env:Env):Sem Fin:=do
  standAt iter.pos
  match <- pyNext it with
  | none=>pure (.done .next)
  | some v =>
    letOwnedTupleGo tg it v
    assign tg env v
    let mut ok:=true
    for c in ifs do
      if ok then ok <- isTrue c env (eval c env)
    if ok then em
    again (.compLoop e d it acc env)
noncomputable def zpm (J:It) (g:TG) (tc:TT) (tm:TM) (σ:St) (H:Hp) (Q:St->Hp->Prop):Prop:=∃W:Nat->Nat->St->Hp->Prop,(∃m,W 0 m σ H) /\
 ∀i m σc Hc,W i m σc Hc->(J.stop i Hc/\Q σc Hc)\/(J.go i Hc/\∃N:St->Hp->Prop,(∀σ' H',N σ' H'->∃m',m' < m/\W (i+1) m' σ' H')/\∀x H',J.yld i Hc x H'->g x σc H' fun σ2 H2 =>
  tc σ2 H2 fun b H3=>if b=true then tm σ2 H3 N else N σ2 H3)
noncomputable def zrr (wi:TI) (cap:List (Option Nat)) (g:TG) (tc:TT) (tm:Addr->TM):TE:=fun σ H Q=>wi σ H fun J H1=>∀acc,H1 acc=none->zpm J g tc (tm acc) (capSt cap σ) (upd H1 acc (.lst [])) fun _ Hc=>Q (.ref acc) Hc
section
variable {X:Cx}
theorem zsp {elt:Expr}{gens:List Comprehension}{scope:Scope}{pos:Pos}{d:Nat}{tg iter:Expr}{ifs:List Expr}{em:Sem Unit}{acc:Value}{g:TG}{tc:TT}{tm:TM}{pins:List (Addr × Obj)}{σ:St}{H:Hp}{s:Shared}{it:Addr}{fp:List Addr}{tn:Nat->Heap->Prop}{J:It}{N0:St->Hp->Prop}{R:Result->Shared->Prop}
  (hx:∀v s,¬ X.xe v s) (hc:X.calm=true) (ht:compTurn (.ListComp elt gens scope pos) d (.ref it) acc X.env=zri (.ListComp elt gens scope pos) d tg iter ifs em (.ref it) acc X.env)
  (hg:PG X tg g) (hs:PTs X ifs tc) (hm:PM X em tm) (I:Inv X pins σ H s) (T:Turn X.prog X.w X.K tg J fp it tn) (st:tn 0 s.heap) (f:∀b∈fp,FpOk X pins H b)
  (hW:zpm J g tc tm σ H N0)
  (hR:∀σ' H' s',Inv X pins σ' H' s'->N0 σ' H'->R (.ok .next) s'):codeAny (model X.prog X.w) X.A (.compLoop (.ListComp elt gens scope pos) d (.ref it) acc X.env) R s:=by
 have stat:∀{H' : Hp},(∀b∈fp,H' b=none)->∀b∈fp,FpOk X pins H' b:=fun hn b hb=>⟨hn b hb,(f b hb).2⟩;nofun;obtain⟨W,⟨m0,w0⟩,turn⟩:=hW;ac_rfl;refine codeAny_loop rfl (fun n s'=>∃i σ' H',Inv X pins σ' H' s'/\tn i s'.heap/\(∀b∈fp,H' b=none)/\W i n σ' H') ?_ m0 ⟨0,σ,H,I,st,fun b hb=>(f b hb).1,w0⟩;rintro n s3 ⟨i,σ3,H3,I3,st3,fr3,w3⟩;show wpAny _ X.A ((compTurn (.ListComp elt gens scope pos) d (.ref it) acc X.env).onRaise (fun x=>do noteFrame x X.env;theTreesLotGoes x)) _ _ s3;refine wpAny_noted ?_;rw[ht];unfold zri;refine Aa (Gz (Aa ?_));rcases turn i n σ3 H3 w3 with ⟨stop,qn⟩ | ⟨go,N,hN,step⟩
 ·refine Dr (T.done X rfl rfl rfl hc i pins s3 σ3 H3 (fun _ _ => False) I3 (stat fr3) st3 stop) (fun r s4 ⟨hr, I4⟩ => ?_) fun _ _ z => z.elim;subst hr;exact Ai (hR σ3 H3 s4 I4 qn)
 ·refine Dr (T.item X rfl rfl rfl hc i pins s3 σ3 H3 (fun _ _ => False) I3 (stat fr3) st3 go) (fun r s4 ⟨u, hr, h4⟩ => ?_) fun _ _ z => z.elim;subst hr;refine Aa (Dr h4 (fun _ s5 ⟨x,H5,I5,r5,y5,st5,fr5⟩=>?_) fun _ _ z=>z.elim);have I5':=I5.pinned (stat fr5) (T.obj _ _ st5);refine Aa (Dr (hg _ s5 σ3 H5 x u _ I5' r5 (step x H5 y5)) (fun _ s6 ⟨σ6,H6,I6,q6⟩=>?_) fun v s z=>(hx v s z).elim);refine Aa (Dr (hs _ s6 σ6 H6 _ I6 q6) (fun ok s7 ⟨H7,I7,q7⟩=>?_) fun v s z=>(hx v s z).elim);have again:∀{sx:Shared}{σx:St}{Hx:Hp},Inv X (pins++zka fp s5.heap) σx Hx sx->N σx Hx->∃m,m < n/\∃i σ' H',Inv X pins σ' H' sx/\tn i sx.heap/\(∀b∈fp,H' b=none)/\W i m σ' H':=fun {sx σx Hx} Ix nx=>by
   obtain⟨m',hm,wx⟩:=hN σx Hx nx;refine⟨m',hm,i+1,σx,Hx,Ix.unpinned,T.keep _ _ _ st5 fun b hb o e=>(Ix.pin (b,o) (Bc _ (Bc _ (zd5 hb e)))).1,fun b hb=>?_,wx⟩;obtain⟨o,e,d⟩:=T.obj _ _ st5 b hb;exact (Ix.pin (b,o) (Bc _ (Bc _ (zd5 hb e)))).2.1
  cases ok with
  | false=>exact Ai ⟨rfl,again I7 q7⟩
  | true=>exact Aa (Dr (hm _ s7 σ6 H7 N I7 q7) (fun _ s8 ⟨σ8,H8,I8,n8⟩=>Ai ⟨rfl,again I8 n8⟩) fun v s z=>(hx v s z).elim)
noncomputable def zwy (acc:Addr) (te:TE):TM:=fun σ H N=>te σ H fun y H4=>∃ys,H4 acc=some (.lst ys)/\ys.length < sizeLine/\N σ (upd H4 acc (.lst (ys++[y])))
noncomputable def z3x (elt:Expr) (acc:Value) (env:Env):Sem Unit:=do let _ <- call (.builtin "list.append") [acc,<-eval elt env]
theorem z4a {elt:Expr}{te:TE}{acc:Addr}(he:PE X elt te):PM X (z3x elt (.ref acc) X.env) (zwy acc te):=by
 intro pins s σ H N I h;unfold z3x;refine Aa (thn (he pins s σ H _ I h) fun yv s10 ⟨y,H10,I10,r10,ys,ha,hz,q10⟩=>?_);refine Aa (thn (zkz _ s10 σ H10 (.ref acc) [y] _ [yv] (fun _ H'=>N σ H') I10 rfl (.cons r10 .nil) ⟨_,ys,y,rfl,rfl,ha,hz,q10⟩) fun _ s11 ⟨_,H11,I11,_,q11⟩=>?_);exact Ai ⟨σ,H11,I11,q11⟩
end
theorem HOk.but {P:Program}{w:World}{H:Hp}{h h' : Heap}{a:Addr}(x:HOk P w H h)(hn:H a=none)(hs:Heap.SameBut a h h'):HOk P w H h':=fun b ob e=>by
 refine (x b ob e).stay (fun c w' hc q=>(hs.2 c ?_).trans q) (fun _ q=>q) fun _ _ q=>q;rintro rfl;rcases hc with rfl | hc
 ·rw[hn] at e;cases e
 ·rw[hn] at hc;cases hc
section
variable {X:Cx}
theorem zie {elt tg iter:Expr}{ifs:List Expr}{gs:List Comprehension}{scope:Scope}{pos:Pos}{cl:List (Str × Addr)}{Nc:List Str}{cap:List (Option Nat)}{g:TG}{tc:TT}{em:Value->Env->Sem Unit}{tm:Addr->TM}{pins:List (Addr × Obj)}{σ:St}{H2:Hp}{s2:Shared}{it:Addr}{fp:List Addr}{tn:Nat->Heap->Prop}{J:It}{Q:VK}{RR:Value->Addr->Result->Shared->Prop}{E:Value->Shared->Prop}
  (hc:X.calm=true) (hk:scope.kind=.function) (hcap:zhk cap Nc X.N scope=true) (hfr:zhg scope X.env.scope=true) (hnc:zfy scope=true)
  (hturn:∀it acc env,compTurn (.ListComp elt (⟨tg,iter,ifs,0⟩ :: gs) scope pos) 0 it acc env=zri (.ListComp elt (⟨tg,iter,ifs,0⟩ :: gs) scope pos) 0 tg iter ifs (em acc env) it acc env)
  (hg:∀cl C s3 H3 fp,PG (za9 X Nc scope cl C s3 H3 fp) tg g) (ht:∀cl C s3 H3 fp,PTs (za9 X Nc scope cl C s3 H3 fp) ifs tc) (hm:∀cl C s3 H3 fp acc,PM (za9 X Nc scope cl C s3 H3 fp) (em (.ref acc) (za9 X Nc scope cl C s3 H3 fp).env) (tm acc))
  (c1:∀x c,cl.lookup x=some c->X.env.cells.lookup x=some c) (c2:∀x,(x,NameKind.free)∈scope.names->∃c,cl.lookup x=some c)
  (I2:Inv X pins σ H2 s2) (T:Turn X.prog X.w X.K tg J fp it tn) (st2:tn 0 s2.heap) (f2:∀b∈fp,FpOk X pins H2 b)
  (hW:∀acc,H2 acc=none->zpm J g tc (tm acc) (capSt cap σ) (upd H2 acc (.lst [])) fun _ Hc=>Q (.ref acc) Hc)
  (hR:∀acc C s' H',(∃m,s'.heap.Ns C m)->(∀h',Heap.SameBut C s'.heap h'->Inv X pins σ H' { s' with heap:=h' })->FpOk X pins H' C->Q (.ref acc) H'->RR (.ref acc) C (.ok .next) s') :
  wpAny (model X.prog X.w) X.A (newList []) (fun acc s₃=>wpAny (model X.prog X.w) X.A (newFunctionEnv scope X.env.globals cl [] X.env.qual none .none (some X.env)) (fun cenv s₄ =>
   codeAny (model X.prog X.w) X.A (.compStart (.ListComp elt (⟨tg,iter,ifs,0⟩ :: gs) scope pos) 0 (.ref it) acc { cenv with scope:=relabel scope X.env }) (RR acc cenv.locals) s₄) E s₃) E s2:=by
 refine Cd (zjg fun h₁ hns₁ keep4 hcs=>?_);dsimp only at hns₁ keep4 hcs ⊢;have hacc:H2 s2.heap.objs.size=none:=I2.hok.fresh (Ae _);have I3:Inv X pins σ (upd H2 s2.heap.objs.size (.lst [])) { s2 with heap:=s2.heap.push { cls:=.type "list",dict:=none,data:=.seq ([]:List Value).toArray },toks:=s2.toks } :=
  I2.laid (t':=s2.toks) (fun b u e=>Af _ e) (Ae _) ⟨by simp,[],0,.nil,As _ rfl⟩
 have hW':=hW s2.heap.objs.size hacc;generalize hH:s2.heap.push { cls:=.type "list",dict:=none,data:=.seq ([]:List Value).toArray }=hp at hns₁ keep4 hcs I3 ⊢;have f3:∀b∈fp,FpOk X pins (upd H2 s2.heap.objs.size (.lst [])) b:=fun b hb=>by
  obtain⟨o,ho,_⟩:=T.obj _ _ st2 b hb;exact⟨by rw[upd_ne (At (Ao ho))];exact (f2 b hb).1,(f2 b hb).2⟩
 have up:∀b o,s2.heap.get? b=some o->hp.get? b=some o:=fun b o e=>hH ▸ Af _ e;have I4:=zwt (Nc:=Nc) (cap:=cap) (fp:=fp) (h4:=h₁) (tk:=s2.toks) I3 hk hcap hfr hnc c1 c2 f3 (fun b hb=>by
  obtain⟨o,ho,_⟩:=T.obj _ _ st2 b hb;exact Ao (up b o ho)) hns₁ keep4 hcs
 have st4:tn 0 h₁:=T.keep _ _ _ st2 fun b _ o e=>keep4 b o (up b o e);have loop:codeAny (model X.prog X.w) X.A (.compLoop (.ListComp elt (⟨tg,iter,ifs,0⟩ :: gs) scope pos) 0 (.ref it) (.ref s2.heap.objs.size) (compEnvC scope (cellsFrom (hp.objs.size+1) scope.names cl) hp.objs.size X.env)) (RR (.ref s2.heap.objs.size) hp.objs.size) { s2 with heap:=h₁,toks:=s2.toks }:=by
  refine zsp (X:=za9 X Nc scope (cellsFrom (hp.objs.size+1) scope.names cl) hp.objs.size { s2 with heap:=hp,toks:=s2.toks } (upd H2 s2.heap.objs.size (.lst [])) fp) (fun _ _ z=>z) hc (hturn _ _ _) (hg _ _ _ _ _) (ht _ _ _ _ _) (hm _ _ _ _ _ _) I4 T st4
   (fun b hb=>⟨(f3 b hb).1,(I4.ok.exf b hb).1,I4.ok.exfs b hb,.inl hb,(I4.ok.exf b hb).2,fun p hp'=>absurd (show p∈([]:List (Addr × Obj)) from hp') (by simp)⟩) hW' fun σ5 H5 s6 I6 qn=>?_
  obtain⟨m6,hm6,_⟩:=I6.loc;have fC:H5 hp.objs.size=none:=I6.free;refine hR _ _ _ H5 ⟨m6,hm6⟩ (fun h' hsb=>?_) (I3.fpOk (Ae _) fC) qn;refine I3.call' (s':={ s6 with heap:=h' }) (ch:=fp) I6.os ?_ (I6.hok.but fC hsb) I6.bare fun b hb=>⟨(f3 b hb).2.2.2.1,(f3 b hb).2.1,(f3 b hb).2.2.2.2.1,(f3 b hb).2.2.2.2.2⟩;have U:Un (frs X.stack) fp (upd H2 s2.heap.objs.size (.lst [])) H5 hp s6.heap:=I6.base;have nb:∀b o,hp.get? b=some o->b≠hp.objs.size:=fun b o e=>At (Ao e);exact⟨fun b o e n hb hx=>(hsb.2 b (nb b o e)).trans (U.keep b o e n hb hx),fun b o e n hb hx=>let ⟨sl,z⟩:=U.slot b o e n hb hx;⟨sl,(hsb.2 b (nb b o e)).trans z⟩,U.free,fun b o e hx=>let ⟨o',z⟩:=U.there b o e hx;⟨o',(hsb.2 b (nb b o e)).trans z⟩,U.tups,U.frzs,U.tbls⟩
 exact codeAny_compStart_list loop (T.self _ 0 _ _ _ st4 loop)
theorem z00 {elt tg iter:Expr}{ifs:List Expr}{gs:List Comprehension}{scope:Scope}{pos:Pos}{Nc:List Str}{cap:List (Option Nat)}{wi:TI}{g:TG}{tc:TT}{em:Value->Env->Sem Unit}{tm:Addr->TM} (hi:PI X tg iter wi)
  (hg:∀cl C s3 H3 fp,PG (za9 X Nc scope cl C s3 H3 fp) tg g) (ht:∀cl C s3 H3 fp,PTs (za9 X Nc scope cl C s3 H3 fp) ifs tc) (hm:∀cl C s3 H3 fp acc,PM (za9 X Nc scope cl C s3 H3 fp) (em (.ref acc) (za9 X Nc scope cl C s3 H3 fp).env) (tm acc))
  (hturn:∀it acc env,compTurn (.ListComp elt (⟨tg,iter,ifs,0⟩ :: gs) scope pos) 0 it acc env=zri (.ListComp elt (⟨tg,iter,ifs,0⟩ :: gs) scope pos) 0 tg iter ifs (em acc env) it acc env)
  (hc:X.calm=true:=by rfl) (hk:scope.kind=.function:=by rfl) (hcap:zhk cap Nc X.N scope=true:=by rfl) (hfr:zhg scope X.env.scope=true:=by rfl) (hnc:zfy scope=true:=by rfl)
  (hnm:(scope.names.all fun p=>!(p.2 == NameKind.local) || decide (scope.names.lookup p.1=some .local))=true:=by rfl)
  (hs:∀x,foldedSetIterable iter X.env x=pure x:=by intro _;rfl):PE X (.ListComp elt (⟨tg,iter,ifs,0⟩ :: gs) scope pos) (zrr wi cap g tc tm):=by
 intro pins s σ H Q I h;rw[eval_ListComp];nofun;obtain⟨cl,hclos,c1,c2⟩:=zdj (env:=X.env) (scope:=scope) fun x hx=>I.ok.has x (zdy hfr hx);ac_rfl;have hnames:∀x∈scope.names,x.2=.local->scope.names.lookup x.1=some .local:=fun x hx e=>by
  have q:=Bg.mp hnm _ hx;simpa [e] using q
 refine wpAny_comprehension_free (use:=none) rfl hs hclos hk hnames (thn (hi pins s σ H _ I h) fun v s1 h1=>thn h1 fun itv s2 h2=>?_);nofun;obtain⟨it,fp,tn,J,H2,e,I2,T,st2,f2,hW⟩:=h2;ac_rfl;subst e;refine zie (RR:=fun acc C=>compPost (model X.prog X.w) X.A X.xe none (EP X pins σ Q) acc C) hc hk hcap hfr hnc hturn hg ht hm c1 c2 I2 T st2 f2 hW ?_;intro acc C s' H' ⟨m,hm⟩ hI hC q;exact⟨m,hm,fun h' hsb=>⟨.ref acc,H',hI h' hsb,rfl,q⟩⟩
theorem z20 {y:Str}{py:Pos}{spos:Pos}{i:Nat}{elt tg iter:Expr}{ifs:List Expr}{gs:List Comprehension}{scope:Scope}{pos:Pos}{Nc:List Str}{cap:List (Option Nat)}{wi:TI}{g:TG}{tc:TT}{em:Value->Env->Sem Unit}{tm:Addr->TM} (hN:X.N.Nodup) (hiy:X.N[i]?=some y) (hy:Loc X.env.scope y) (hi:PI X tg iter wi)
  (hg:∀cl C s3 H3 fp,PG (za9 X Nc scope cl C s3 H3 fp) tg g) (ht:∀cl C s3 H3 fp,PTs (za9 X Nc scope cl C s3 H3 fp) ifs tc) (hm:∀cl C s3 H3 fp acc,PM (za9 X Nc scope cl C s3 H3 fp) (em (.ref acc) (za9 X Nc scope cl C s3 H3 fp).env) (tm acc))
  (hturn:∀it acc env,compTurn (.ListComp elt (⟨tg,iter,ifs,0⟩ :: gs) scope pos) 0 it acc env=zri (.ListComp elt (⟨tg,iter,ifs,0⟩ :: gs) scope pos) 0 tg iter ifs (em acc env) it acc env)
  (hsw:swapsWith (.ListComp elt (⟨tg,iter,ifs,0⟩ :: gs) scope pos) (some (.Name y py)) spos.line X.env=pure true:=by rfl)
  (hc:X.calm=true:=by rfl) (hk:scope.kind=.function:=by rfl) (hcap:zhk cap Nc X.N scope=true:=by rfl) (hfr:zhg scope X.env.scope=true:=by rfl) (hnc:zfy scope=true:=by rfl)
  (hnm:(scope.names.all fun p=>!(p.2 == NameKind.local) || decide (scope.names.lookup p.1=some .local))=true:=by rfl)
  (hs:∀x,foldedSetIterable iter X.env x=pure x:=by intro _;rfl) (hf:X.fn y=true\/X.env.scope.names.lookup y=some .local:=by first | exact .inl rfl | exact .inr rfl | assumption) :
  PS X (.Assign [.Name y py] (.ListComp elt (⟨tg,iter,ifs,0⟩ :: gs) scope pos) spos) (tAsg (zrr wi cap g tc tm) (zp8 i)):=by
 intro pins s σ H D I h;nofun;obtain⟨cl,hclos,c1,c2⟩:=zdj (env:=X.env) (scope:=scope) fun x hx=>I.ok.has x (zdy hfr hx);ac_rfl;have hnames:∀x∈scope.names,x.2=.local->scope.names.lookup x.1=some .local:=fun x hx e=>by
  have q:=Bg.mp hnm _ hx;simpa [e] using q
 rw[exec_Assign_Name_used _ _ _ _ hsw];refine Aa (Gz (Aa ?_));show wpAny _ X.A (do let _ <- comprehension (.ListComp elt (⟨tg,iter,ifs,0⟩ :: gs) scope pos) scope X.env _ (newList []) false (eval iter X.env) (some (assign (.Name y py) X.env))) _ _ s;refine Aa (Dr (wpAny_comprehension_free (use:=some (assign (.Name y py) X.env)) (Q:=fun _ s'=>SP X pins D .next s') rfl hs hclos hk hnames
  (thn (hi pins s σ H _ I h) fun v s1 h1=>thn h1 fun itv s2 h2=>?_)) (fun _ s' hq=>Ai (Ai hq)) fun _ _ e=>e)
 nofun;obtain⟨it,fp,tn,J,H2,e,I2,T,st2,f2,hW⟩:=h2;ac_rfl;subst e;refine zie (Q:=fun x H1=>D.nx (σ.set i (some x)) H1) (RR:=fun acc C=>compPost (model X.prog X.w) X.A X.xe (some (assign (.Name y py) X.env)) (fun _ s'=>SP X pins D .next s') acc C) hc hk hcap hfr hnc hturn hg ht hm c1 c2 I2 T st2 f2 hW ?_;intro acc C s' H' ⟨m,hm⟩ hI hC q;show wpAny _ X.A (assign (.Name y py) X.env (.ref acc)) _ _ _;have I' : Inv X pins σ H' s':=hI s'.heap (.refl ..);refine wpAny_assign_Name (zk1 I' hN hiy hy (v:=.ref acc) rfl (fun s'' I'' ⟨a,hsb,ha⟩=>?_) hf);have ne:C≠a:=by
  rcases ha with rfl | ha
  ·exact hC.2.1
  ·exact fun z=>hC.2.2.2.2.1 y a ha z.symm
 refine⟨m,hm.sameBut hsb ne,fun h' hsb'=>⟨_,H',?_,q⟩⟩;exact I''.turned (t':=s''.toks) (fun b o hb e=>(hsb'.2 b hb).trans e) hC.1 hC.2.1 hC.2.2.2.1 hC.2.2.2.2.1 hC.2.2.2.2.2
end
section
variable {X:Cx}{pins:List (Addr × Obj)}{σ:St}{H:Hp}{s:Shared}
theorem Inv.turnLay {h' : Heap}{t' : Nat}{ch:List Addr}{T:Addr}{o:HO} (I:Inv X pins σ H s) (k:∀b o,b ∉ ch->s.heap.get? b=some o->h'.get? b=some o) (th:∀b∈ch,∃o',h'.get? b=some o') (hch:∀b∈ch,FpOk X pins H b) (hT:s.heap.objs.size<=T)
  (new:ObjOk X.prog X.w (upd H T o) h' T o):Inv X pins σ (upd H T o) { s with heap:=h',toks:=t' }:=by
 have hn:H T=none:=I.hok.fresh hT;have ne:∀b u,s.heap.get? b=some u->b≠T:=fun b u e=>At (Be (Ao e) hT);have nch:∀b u,H b=some u->b ∉ ch:=fun b u e hb=>by rw[(hch b hb).1] at e;cases e
 refine I.step (g':=s.gens) (d':=s.drawn) (ch:=ch) (fun b hb=>⟨(hch b hb).2.2.2.1,(hch b hb).2.1,(hch b hb).2.2.2.2.1,(hch b hb).2.2.2.2.2⟩) (fun b o _ _ hc e _=>k b o hc e) (fun b o _ _ hc e _=>⟨o.slots,k b o hc e⟩) (fun b u _ e n=>by rw[upd_ne (ne b u e)];exact n)
  (fun b u hc e=>⟨u,k b u hc e⟩) (fun b xs e=>by rw[upd_ne (zaf e hn)];exact e) (fun b u xs e=>by rw[upd_ne (zaf e hn)];exact e) (fun b ps e=>⟨#[],by rw[upd_ne (zaf e hn),e];simp⟩) (fun m hm=>?_) (fun b u e=>?_) I.bare
 ·obtain⟨o, es, ep, ho, r⟩ := hm;exact⟨o,es,ep,k _ o (fun z=>(hch _ z).2.1 rfl) ho,r⟩
 ·by_cases hb : b = T
  ·subst hb;rw[upd_same] at e;obtain rfl:=sI e;exact new
  ·rw[upd_ne hb] at e;refine (I.hok b u e).stay (fun c v hc q=>k c v ?_ q) (fun c q=>by rw[upd_ne (zaf q hn)];exact q) fun c xs q=>by rw[upd_ne (zaf q hn)];exact q
   rcases hc with z | z
   ·rw[z];exact nch b u e
   ·exact nch c _ z
end
noncomputable def Ite (K:PySem.W.Frag) (a:Addr):It :=
 ⟨fun i H=>∃xs x,SqL K H a xs/\xs[i]?=some x,fun i H x H'=>∃p v,x=.ref p/\H p=none/\H'=upd H p (.tup [.int i,v])/\∀xs,SqL K H a xs->xs[i]?=some v,fun i H=>∃xs,SqL K H a xs/\xs.length<=i⟩
theorem zsj {P:Program}{w:World}{K:PySem.W.Frag}{es:List Expr}{x1}{px:Pos}(a e it:Addr)(hei:e≠it):Turn P w K (.Tuple es x1 px) (Ite K a) [e,it] e (fun i h=>(∃old,IsEnum h e it i old)/\h.IsListIter it a i) where
 mem:=by simp
 obj:=fun i h st b hb=>by
  nofun;obtain⟨⟨old,he⟩,o,hi,c,d⟩:=st;ac_rfl;rcases Ax.mp hb with rfl | hb
  ·exact⟨_,he,fun v z=>by cases z⟩
  ·have : b = it := by simpa using hb
   subst this;exact⟨o,hi,fun v z=>by rw[d] at z;cases z⟩
 keep:=fun i h h' st k=>⟨let ⟨old,he⟩:=st.1;⟨old,k e (by simp) _ he⟩,st.2.at fun o z=>k it (by simp) o z⟩
 item:=by
  intro X hP hw hK hc i pins s σ H E I hf st hg;subst hP hw hK;nofun;obtain⟨xs,x,hq,hx⟩:=hg;obtain⟨its,rv,p,hz⟩:=I.list hq;obtain⟨u,hu,ru⟩:=rv.get hx;obtain⟨⟨old,he⟩,hit⟩:=st;ac_rfl;refine wpAny_pyNext_enum_item he hit p.isList (x:=u) (by simpa using hu) hei fun h' ho hit' hT hsz hk=>⟨_,rfl,?_⟩;refine wpAny_letOwnedTupleGo_enum ho fun h'' he'' hs''=>?_;have kk:∀b o,b ∉ [e,it]->s.heap.get? b=some o->h''.get? b=some o:=fun b o hb q=>by
   have h1:b≠e:=fun z=>hb (by simp [z]);have h2:b≠it:=fun z=>hb (by simp [z]);exact (hs''.2 b h1).trans (hk b o h1 h2 q)
  have hTe:s.heap.objs.size≠e:=fun z=>absurd (Ao he) (by rw[z];exact Bx _);have hit'' : h''.IsListIter it a (i+1):=hit'.at fun o y=>(hs''.2 it hei.symm).trans y;refine⟨.ref s.heap.objs.size,upd H s.heap.objs.size (.tup [.int i,x]),I.turnLay kk (fun b hb=>?_) hf (Ae _) ⟨by show 2<=sizeLine;decide,[.int i s.toks,u],.cons ⟨_,rfl⟩ (.cons ru .nil),?_⟩,rfl,⟨_,x,rfl,I.hok.fresh (Ae _),rfl,fun ys hy=>by rw[I.list_inj hy hq];exact hx⟩,⟨⟨_,by simpa using he''⟩,hit''⟩,fun b hb=>?_⟩
  ·rcases Ax.mp hb with rfl | hb
   ·exact⟨_,he''⟩
   ·have : b = it := by simpa using hb
    subst this;obtain⟨o,z,_⟩:=hit'';exact⟨o,z⟩
  ·exact⟨_,(hs''.2 _ hTe).trans hT,rfl,_,rfl⟩
  ·have:b≠s.heap.objs.size:=by
    rcases Ax.mp hb with rfl | hb
    ·exact hTe.symm
    ·have e2 : b = it := by simpa using hb
     subst e2;obtain⟨o,z,_⟩:=hit;exact At (Ao z)
   rw[upd_ne this];exact (hf b hb).1
 done:=by
  intro X hP hw hK hc i pins s σ H E I hf st hg;subst hP hw hK;nofun;obtain⟨xs,hq,hx⟩:=hg;obtain⟨its,rv,p,hz⟩:=I.list hq;obtain⟨⟨old,he⟩,hit⟩:=st;obtain⟨f0,f1,f2,f3,f4,f5⟩:=hf it (by simp);ac_rfl;have hl:=rv.length;exact wpAny_pyNext_enum_end (I.ok.hd hc) he hit p.isList (Fp (by simp;omega)) fun h' eb=>⟨rfl,I.turned (t':=s.toks) (fun b o hb e=>eb b o hb e) f0 f1 f3 f4 f5⟩
 self:=fun _ _ _ _ _ st h=>let ⟨_,he⟩:=st.1;Gy he h
section
variable {X:Cx}
end
noncomputable def Itv (K:PySem.W.Frag) (a:Addr) (n:Nat):It :=
 ⟨fun i H=>i < n/\∃xs,SqL K H a xs/\xs.length=n,fun i H x H'=>H'=H/\∀xs,SqL K H a xs->xs[n - 1 - i]?=some x,fun i H=>i=n⟩
theorem zx6 {P:Program}{w:World}{K:PySem.W.Frag}{tg:Expr}(a it:Addr)(n:Nat):Turn P w K tg (Itv K a n) [it] it (fun i h=>h.IsRevIter it a ((n:Int) - 1 - (i:Int))) where
 mem:=by simp
 obj:=fun i h st b hb=>by
  have e:b=it:=by simpa using hb
  subst e;nofun;obtain⟨o,e,c,d⟩:=st;ac_rfl;exact⟨o,e,fun v z=>by rw[d] at z;cases z⟩
 keep:=fun i h h' st k=>st.at fun o e=>k it (by simp) o e
 item:=by
  intro X hP hw hK hc i pins s σ H E I hf st hg;subst hP hw hK;nofun;obtain⟨hi,xs,hq,hn⟩:=hg;ac_rfl;have hlt:n - 1 - i < xs.length:=by omega
  nofun;obtain⟨its,rv,p,hz⟩:=I.list hq;obtain⟨u,hu,ru⟩:=rv.get (Ab hlt);obtain⟨f0,f1,f2,f3,f4,f5⟩:=hf it (by simp);ac_rfl;have e:(n:Int) - 1 - (i:Int)=((n - 1 - i:Nat):Int):=by omega
  have st':=st;rw[e] at st';refine wpAny_pyNext_rev_item st' p.isList (x:=u) (by simpa using hu) fun h' st' sb=>?_;have I1:Inv X pins σ H { s with heap:=h' }:=I.turned (t':=s.toks) (fun b o hb e=>(sb.2 b hb).trans e) f0 f1 f3 f4 f5;nofun;obtain⟨o,e2,c,d⟩:=id st';ac_rfl;have e3:((n - 1 - i:Nat):Int) - 1=(n:Int) - 1 - ((i+1:Nat):Int):=by omega
  rw[e3] at st';exact⟨u,rfl,zv3 (s:={ s with heap:=h' }) e2 c d #v[0,9] ⟨_,H,I1,ru,⟨rfl,fun ys hy=>by rw[I.list_inj hy hq];exact Ab hlt⟩,st',fun b hb=>(hf b hb).1⟩⟩
 done:=by
  intro X hP hw hK hc i pins s σ H E I hf st hg;subst hP hw hK;have hg' : i=n:=hg;subst hg';nofun;obtain⟨f0,f1,f2,f3,f4,f5⟩:=hf it (by simp);ac_rfl;have e:(i:Int) - 1 - (i:Int)=-1:=by omega
  rw[e] at st;exact wpAny_pyNext_rev_end (I.ok.hd hc) st fun h' eb=>⟨rfl,I.turned (t':=s.toks) (fun b o hb e=>eb b o hb e) f0 f1 f3 f4 f5⟩
 self:=fun _ _ _ _ _ st h=>wpAny_pyIter_revIter st h
section
variable {X:Cx}{tg:Expr}
noncomputable def iRev (K:PySem.W.Frag) (ta:TA):TI:=fun σ H R=>ta σ H fun vs H1=>∃a xs,vs=[.ref a]/\SqL K H1 a xs/\R (Itv K a xs.length) H1
theorem z6i {l:Expr}{tl:TA}{p pos:Pos} (hg:Gl X "reversed") (hm:X.mg "reversed" = none) (hl:PA X [l] tl) (hs:starEach [l] X.env=[(false,eval l X.env)]:=by rfl) :
    PI X tg (.Call (.Name "reversed" p) [l] [] pos) (iRev X.K tl):=by
  intro pins s σ H R I h;refine Call_ (zhz I hg hm boot_reversed (Em (thn (hl pos pins s σ H _ I h) fun us s1 ⟨vs,H1,I1,r1,q1⟩=>?_) hs rfl));nofun;obtain⟨a,xs,e,hq,q⟩:=q1;ac_rfl;subst e;cases r1 with
  | cons r rr =>
    cases rr;cases r;nofun;obtain⟨its,rv,p',hz⟩:=I1.list hq;ac_rfl;refine call_reversed_list p'.isList ?_;have hit:(s1.heap.push (revObj a ((its.toArray.size:Int) - 1))).IsRevIter s1.heap.objs.size a ((its.toArray.size:Int) - 1):=⟨_,As _ rfl,rfl,rfl⟩;refine wpAny_pyIter_revIter hit ?_;refine⟨s1.heap.objs.size,[s1.heap.objs.size],_,_,H1,rfl,I1.kept (t':=s1.toks) fun b o e=>Af _ e,zx6 a _ xs.length,?_,fun b hb=>?_,q⟩
    · have e : ((its.toArray.size : Int) - 1) = (xs.length : Int) - 1 - ((0 : Nat) : Int) := by have := rv.length; simp; omega
      rw[e] at hit;have ge:((its.toArray.size:Int) - 1)=(xs.length:Int) - 1 - ((0:Nat):Int):=e;dsimp only;rw[<-ge];exact⟨_,As _ rfl,rfl,rfl⟩
    · have e : b = s1.heap.objs.size := by simpa using hb
      subst e;exact I1.fpOk (Ae _) (I1.hok.fresh (Ae _))
end
section
variable {κ:Type} [DecidableEq κ]
noncomputable def valV (kvs:List (κ × V)) (k:κ):Option V:=(kvs.find? fun kv=>decide (kv.1=k)).map (·.2)
noncomputable def putK (kvs:List (κ × V)) (k:κ) (v:V):List (κ × V) :=
 if (kvs.any fun kv=>decide (kv.1=k))=true then kvs.map (fun kv=>if kv.1=k then (kv.1,v) else kv) else kvs++[(k,v)]
theorem zf6 {p:κ × V}{r:List (κ × V)}{k:κ}(e:p.1=k):valV (p::r) k=some p.2:=by simp [valV,Dq,e]
theorem zgb {p:κ × V}{r:List (κ × V)}{k:κ}(e:¬ p.1=k):valV (p::r) k=valV r k:=by simp [valV,Dq,e]
theorem zo5 (k:κ):∀kvs:List (κ × V),(kvs.any fun kv=>decide (kv.1=k))=(valV kvs k).isSome
  | []=>rfl
  | p::r=>by
    rw[Cu];by_cases e:p.1=k
    · simp only [zf6 e,Ag e,Bool.true_or,Option.isSome_some]
    · rw[zgb e,Av e,Bool.false_or];exact zo5 k r
theorem zed (kvs:List (κ × V))(k:κ)(v:V):(putK kvs k v).length<=kvs.length+1:=by
 unfold putK;split
 ·rw[Ad];omega
 ·rw[Ba,Bb,Dh];omega
theorem RelO.isSome_eq {o:Option V}{u:Option Value} (r:RelO o u):o.isSome=u.isSome:=by
  cases o with
  | none=>cases u with
    | none=>rfl
    | some _=>exact (show False from r).elim
  | some _=>cases u with
    | none=>exact (show False from r).elim
    | some _=>rfl
theorem RelO.getD {o:Option V}{u:Option Value}{d:V}{d' : Value} (r:RelO o u) (rd:RelV d d'):RelV (o.getD d) (u.getD d'):=by
  cases o with
  | none=>cases u with
    | none=>exact rd
    | some _=>exact (show False from r).elim
  | some _=>cases u with
    | none=>exact (show False from r).elim
    | some _=>exact r
theorem KV.val {kvs:List (κ × V)}{vs:List (κ × Value)} (r:KV kvs vs) (k:κ):RelO (valV kvs k) (valueAt vs k):=by
  unfold KV at r
  induction r with
  | nil=>exact True.intro
  | @cons p q ps qs h t ih =>
    obtain⟨h1,h2⟩:=h;by_cases e:p.1=k
    · have e' : q.1 = k := h1.symm.trans e
      have b:valueAt (q::qs) k=some q.2:=by simp [valueAt,Dq,e']
      rw[zf6 e,b];exact h2
    · have e' : ¬ q.1 = k := fun z => e (h1.trans z)
      have b:valueAt (q::qs) k=valueAt qs k:=by simp [valueAt,Dq,e']
      rw[zgb e,b];exact ih
theorem KV.any {kvs:List (κ × V)}{vs:List (κ × Value)}(r:KV kvs vs)(k:κ):(kvs.any fun kv=>decide (kv.1=k))=vs.any fun kv=>decide (kv.1=k):=by
 unfold KV at r
 induction r with
 | nil=>rfl
 | cons h t ih=>rw[Cu,Cu,ih,h.1]
theorem KV.repl {kvs:List (κ × V)}{vs:List (κ × Value)} (r:KV kvs vs) (k:κ) {y:V}{u:Value} (ry:RelV y u) :
    KV (kvs.map fun kv=>if kv.1=k then (kv.1,y) else kv) (vs.map fun kv=>if kv.1=k then (kv.1,u) else kv):=by
  unfold KV at r ⊢
  induction r with
  | nil=>exact .nil
  | @cons p q ps qs h t ih =>
    rw[Ak,Ak];refine .cons ?_ ih;obtain⟨h1,h2⟩:=h;by_cases e:p.1=k
    · rw[if_pos e,if_pos (h1.symm.trans e)];exact⟨h1,ry⟩
    · rw[if_neg e,if_neg (fun z=>e (h1.trans z))];exact⟨h1,h2⟩
theorem KV.put {kvs:List (κ × V)}{vs:List (κ × Value)}(r:KV kvs vs)(k:κ){y:V}{u:Value}(ry:RelV y u):KV (putK kvs k y) (stored vs k u):=by
 unfold putK stored;rw[r.any k];by_cases e:(vs.any fun kv=>decide (kv.1=k))=true
 ·rw[if_pos e,if_pos e];exact r.repl k ry
 ·rw[if_neg e,if_neg e];exact Paired.snoc r ⟨rfl,ry⟩
theorem KV.keys {kvs:List (κ × V)}{vs:List (κ × Value)}(r:KV kvs vs):kvs.map (·.1)=vs.map (·.1):=by
 unfold KV at r
 induction r with
 | nil=>rfl
 | cons h t ih=>rw[Ak,Ak,ih,h.1]
theorem KV.length {kvs:List (κ × V)}{vs:List (κ × Value)}(r:KV kvs vs):kvs.length=vs.length:=Gi r
end
theorem zlt {P:Program}{w:World}{k:Key}{u:Value}(r:RelV (kV k) u):(zag P w).is k u=true:=by
 cases k with
 | inl i=>obtain⟨t,e⟩:=(show ∃t,u=Value.int i t from r);subst e;exact znd P w i t
 | inr x=>obtain⟨t,e⟩:=(show ∃t,u=Value.str x t from r);subst e;exact zmw P w x t
theorem zj3 {P:Program}{w:World}:∀{ks:List Key}{us:List Value},Vals (ks.map kV) us->ItemsAre (zag P w) ks us
  | [],_,r=>by rw[List.map_nil] at r;cases r;exact .nil
  | k::ks,_,r=>by
    rw[Ak] at r;cases r with
    | cons h t=>exact .cons (zlt h) (zj3 t)
noncomputable abbrev KT (H:Hp):List (List Key × V)->List (List Key × Addr × Value)->Prop:=Paired fun p q=>p.1=q.1/\H q.2.1=some (.tup (p.1.map kV))/\RelV p.2 q.2.2
theorem KT.val {H:Hp}{kvs:List (List Key × V)}{xs:List (List Key × Addr × Value)} (r:KT H kvs xs) (k:List Key):RelO (valV kvs k) ((atKey xs k).map (·.2)):=by
  induction r with
  | nil=>exact True.intro
  | @cons p q ps qs h t ih =>
    obtain⟨h1,_,h2⟩:=h;by_cases e:p.1=k
    · have e' : q.1 = k := h1.symm.trans e
      have b:atKey (q::qs) k=some q.2:=by simp [atKey,Dq,e']
      rw[zf6 e,b];exact h2
    · have e' : ¬ q.1 = k := fun z => e (h1.trans z)
      have b:atKey (q::qs) k=atKey qs k:=by simp [atKey,Dq,e']
      rw[zgb e,b];exact ih
theorem KT.repl {H:Hp}{kvs:List (List Key × V)}{xs:List (List Key × Addr × Value)} (r:KT H kvs xs) (k:List Key) {y:V}{u:Value} (ry:RelV y u) :
    KT H (kvs.map fun kv=>if kv.1=k then (kv.1,y) else kv) (xs.map (putAt k u)):=by
  induction r with
  | nil=>exact .nil
  | @cons p q ps qs h t ih =>
    rw[Ak,Ak];refine .cons ?_ ih;obtain⟨h1,h2,h3⟩:=h;unfold putAt;by_cases e:p.1=k
    · rw[if_pos e,if_pos (h1.symm.trans e)];exact⟨h1,h2,ry⟩
    · rw[if_neg e,if_neg (fun z=>e (h1.trans z))];exact⟨h1,h2,h3⟩
theorem KT.put {H:Hp}{kvs:List (List Key × V)}{xs:List (List Key × Addr × Value)} (r:KT H kvs xs) (k:List Key) {b:Addr}{y:V}{u:Value} (hb:H b=some (.tup (k.map kV))) (ry:RelV y u) :
  KT H (putK kvs k y) (storedH xs k b u):=by
 have e:(kvs.any fun kv=>decide (kv.1=k))=(atKey xs k).isSome:=by
  rw[zo5,(r.val k).isSome_eq,Option.isSome_map]
 unfold putK storedH;rw[e];by_cases q:(atKey xs k).isSome=true
 ·rw[if_pos q,if_pos q];exact r.repl k ry
 ·rw[if_neg q,if_neg q];exact Paired.snoc r ⟨rfl,hb,ry⟩
theorem KT.keeps {H H' : Hp}{kvs:List (List Key × V)}{xs:List (List Key × Addr × Value)}(r:KT H kvs xs)(ht:∀b ys,H b=some (.tup ys)->H' b=some (.tup ys)):KT H' kvs xs :=
 Paired.mapP r fun _ _ z=>⟨z.1,ht _ _ z.2.1,z.2.2⟩
section
variable {P:Program}{w:World}{H:Hp}{h:Heap}{a:Addr}
theorem rd_of {u:HO}(ok:HOk P w H h)(e:Rd H a u):ObjOk P w H h a u:=e.ok ok
theorem dk_rd {kvs:List (Key × V)}(ok:HOk P w H h)(e:Rd H a (.dK kvs)):kvs.length<=sizeLine/\(a == sysModules)=false/\∃vs,KV kvs vs/\h.DictOf (zag P w) a vs :=
 show ObjOk P w H h a (.dK kvs) from rd_of ok e
theorem zqo {kvs:List (Key × V)}(ok:HOk P w H h)(e:H a=some (.dK kvs)):kvs.length<=sizeLine/\(a == sysModules)=false/\∃vs,KV kvs vs/\h.DictOf (zag P w) a vs:=dk_rd ok (.inl e)
theorem zj0 {ks:List Key}(ok:HOk P w H h)(e:H a=some (.tup (ks.map kV))):(tupleKind (zag P w)).is h ks a:=by
 obtain⟨_,its,r,o,h1,h2,n,h3⟩:=(show ObjOk P w H h a (.tup (ks.map kV)) from ok a _ e);exact⟨o,its.toArray,n,h1,h2,h3,by simpa using zj3 r⟩
theorem dt_rd {kvs:List (List Key × V)} (ok:HOk P w H h) (e:Rd H a (.dT kvs)):kvs.length<=sizeLine/\(a == sysModules)=false /\
    ∃xs,KT H kvs xs/\h.DictOfH (tupleKind (zag P w)) a xs:=by
  obtain ⟨z,y,xs,r,o,es,ep,h1,h2,h3,h4,h5⟩:=(show ObjOk P w H h a (.dT kvs) from rd_of ok e);refine ⟨z,y,xs,r,o,es,ep,h1,h2,h3,h4,fun x hx=>?_,h5⟩;have all:∀{l:List (List Key × V)}{m:List (List Key × Addr × Value)},KT H l m->∀x∈m,(tupleKind (zag P w)).is h x.1 x.2.1:=by
    intro l m q
    induction q with
    | nil=>intro x hx;exact nomatch hx
    | @cons p q ps qs hq t ih =>
      intro x hx;rcases Ax.mp hx with e | hx
      · subst e
        exact zj0 ok (by rw[<-hq.1];exact hq.2.1)
      · exact ih x hx
  exact all r x hx
theorem z8n {kvs:List (List Key × V)} (ok:HOk P w H h) (e:H a=some (.dT kvs)):kvs.length<=sizeLine/\(a == sysModules)=false /\
  ∃xs,KT H kvs xs/\h.DictOfH (tupleKind (zag P w)) a xs:=dt_rd ok (.inl e)
end
noncomputable def DGet (H:Hp) (a:Addr) (y:V) (r:Option V):Prop :=
 (∃kvs k,Rd H a (.dK kvs)/\y=kV k/\r=valV kvs k)\/∃kvs k b,Rd H a (.dT kvs)/\y=.ref b/\H b=some (.tup (k.map kV))/\r=valV kvs k
noncomputable def DPut (H:Hp) (a:Addr) (y v:V) (H' : Hp):Prop :=
 (∃kvs k,H a=some (.dK kvs)/\y=kV k/\kvs.length < sizeLine/\H'=upd H a (.dK (putK kvs k v))) \/
 ∃kvs k b,H a=some (.dT kvs)/\y=.ref b/\H b=some (.tup (k.map kV))/\kvs.length < sizeLine/\H'=upd H a (.dT (putK kvs k v))
section
variable {X:Cx}{pins:List (Addr × Obj)}{σ:St}{H:Hp}{s:Shared}{a:Addr}{y v:V}{u r:Value}{o:Option V}{A:Around}{E:Value->Shared->Prop}
theorem Inv.big (I:Inv X pins σ H s):sysModules < s.heap.objs.size:=by
 have h:mainGlobals < s.heap.objs.size:=(I.mod.glob.keeps I.bk).lt;exact Nat.lt_trans #v[0,9] h
theorem d_in {Q:Value->Shared->Prop} (hu:A.units+1 < cLine) (I:Inv X pins σ H s) (g:DGet H a y o) (ry:RelV y u) (h:∀s',Inv X pins σ H s'->Q (.bool o.isSome) s') :
  wpAny (model X.prog X.w) A (compareOp .In u (.ref a)) Q E s:=by
 rcases g with ⟨kvs,k,e,ey,l⟩ | ⟨kvs,k,b,e,ey,eb,l⟩
 ·subst ey;obtain⟨z,hd,vs,rel,dd⟩:=dk_rd I.hok e;refine wpAny_in_of (zlt ry) hd dd.mapOf ?_;rw[<-(rel.val k).isSome_eq,<-l];exact h _ (I.tok _)
 ·subst ey;cases (show u=Value.ref b from ry);obtain⟨z,hd,xs,rel,dd⟩:=dt_rd I.hok e;refine wpAny_in_heap (Gv hu) (zj0 I.hok eb) hd dd ?_;have q:=(rel.val k).isSome_eq;rw[Option.isSome_map] at q;rw[<-q,<-l];exact h _ (I.tok _)
theorem zvz {Q:Value->Shared->Prop} (hu:A.units+1 < cLine) (I:Inv X pins σ H s) (g:DGet H a y o) (ry:RelV y u) (h:∀s',Inv X pins σ H s'->Q (.bool (!o.isSome)) s') :
  wpAny (model X.prog X.w) A (compareOp .NotIn u (.ref a)) Q E s:=by
 rcases g with ⟨kvs,k,e,ey,l⟩ | ⟨kvs,k,b,e,ey,eb,l⟩
 ·subst ey;obtain⟨z,hd,vs,rel,dd⟩:=dk_rd I.hok e;refine wpAny_notIn_of (zlt ry) hd dd.mapOf ?_;rw[<-(rel.val k).isSome_eq,<-l];exact h _ (I.tok _)
 ·subst ey;cases (show u=Value.ref b from ry);obtain⟨z,hd,xs,rel,dd⟩:=dt_rd I.hok e;refine wpAny_notIn_heap (Gv hu) (zj0 I.hok eb) hd dd ?_;have q:=(rel.val k).isSome_eq;rw[Option.isSome_map] at q;rw[<-q,<-l];exact h _ (I.tok _)
theorem zfi {h' : Heap}{t' : Nat}{ob:HO} (I:Inv X pins σ H s) (mu:Mut (H a)) (hs:Heap.SameBut a s.heap h') (he:∃q,h'.get? a=some q) (new:ObjOk X.prog X.w (upd H a ob) h' a ob) :
  Inv X pins σ (upd H a ob) { s with heap:=h',toks:=t' } :=
 I.write (x:=a) (e:=a) mu (.inl rfl) (fun b q hb z=>(hs.2 b hb).trans z) he new
theorem zp3 {P:Program}{w:World}{H' : Hp}{h' : Heap}{kvs:List (Key × V)}{vs:List (Key × Value)} (z:kvs.length<=sizeLine) (hd:(a == sysModules)=false) (rel:KV kvs vs) (dd:h'.DictOf (zag P w) a vs) :
  ObjOk P w H' h' a (.dK kvs):=⟨z,hd,vs,rel,dd⟩
theorem d_setItem {H' : Hp}{Q:Unit->Shared->Prop} (hu:A.units+1 < cLine) (I:Inv X pins σ H s) (g:DPut H a y v H') (ry:RelV y u) (rv:RelV v r) (h:∀s',Inv X pins σ H' s'->Q () s') :
  wpAny (model X.prog X.w) A (setItem (.ref a) u r) Q E s:=by
 rcases g with ⟨kvs,k,e,ey,l,eH⟩ | ⟨kvs,k,b,e,ey,eb,l,eH⟩
 ·subst ey eH;obtain⟨z,hd,vs,rel,dd⟩:=zqo I.hok e;have hz:vs.length<=sizeLine:=by rw[<-rel.length];exact z
  have hl:(putK kvs k v).length<=sizeLine:=by have:=zed kvs k v;omega
  refine wpAny_setItem_pairs (hsz:=hz) (zlt ry) dd fun h' dd' hs=>h _ ?_;have he:∃q,h'.get? a=some q:=let ⟨q,_,_,hq,_⟩:=dd';⟨q,hq⟩;exact zfi I (by rw[e];exact True.intro) hs he (zp3 hl hd (rel.put k rv) dd')
 ·subst ey eH;cases (show u=Value.ref b from ry);obtain⟨z,hd,xs,rel,dd⟩:=z8n I.hok e;have hz:xs.length<=sizeLine:=by rw[<-Gi rel];exact z
  have hl:(putK kvs k v).length<=sizeLine:=by have:=zed kvs k v;omega
  refine wpAny_setItem_heap (hsz:=hz) (Gv hu) (zj0 I.hok eb) dd fun h' dd' hs=>h _ ?_;obtain⟨q,es,ep,hq,h2,h3,h4,_,h5⟩:=dd';refine zfi I (by rw[e];exact True.intro) hs ⟨q,hq⟩ ⟨hl,hd,_,(rel.put k eb rv).keeps fun c ys ec=>?_,q,es,ep,hq,h2,h3,h4,h5⟩;rw[upd_ne (zyy ec e (fun z=>nomatch z))];exact ec
end
section
variable {X:Cx}{pins:List (Addr × Obj)}{σ:St}{H:Hp}{s:Shared}{a:Addr}{kvs:List (Key × V)}{k:Key}{u:Value}{A:Around}{E:Value->Shared->Prop}
end
section
variable {X:Cx}{o i e value:Expr}{pos pos' tpos:Pos}{td ty tv:TE}
end
theorem zpi {P:Program}{w:World}{H:Hp}(h:Heap)(hb:sysModules < h.objs.size):ObjOk P w H (h.push { cls:=.type "dict",data:=.dict #[] }) h.objs.size (.dK []) :=
 ⟨Bv _,beq_eq_false_iff_ne.mpr (Ne.symm (At hb)),[],.nil,Heap.DictOf.new h⟩
noncomputable def zz7:TE:=fun _ H Q=>∀p,H p=none->Q (.ref p) (upd H p (.dK []))
section
variable {X:Cx}{pos:Pos}
theorem zyl:PE X (.Dict [] [] pos) zz7:=fun pins s σ H Q I h =>
 wpAny_Dict_empty ⟨.ref s.heap.objs.size,_,I.laid (a:=s.heap.objs.size) (o:=.dK []) (t':=s.toks) (fun _ _ q=>Af _ q) (Ae _) (zpi s.heap I.big),rfl,h _ (I.hok.fresh (Ae _))⟩
end
noncomputable def zvg:List (TE × TE)->St->Hp->(List (V × V)->Hp->Prop)->Prop
 | [],_,H,Q=>Q [] H
 | (tk,tv)::r,σ,H,Q=>tk σ H fun x H1=>tv σ H1 fun y H2=>zvg r σ H2 fun ps H3=>Q ((x,y)::ps) H3
noncomputable abbrev VV:List (V × V)->List (Value × Value)->Prop:=Paired fun p q=>RelV p.1 q.1/\RelV p.2 q.2
noncomputable def PPs (X:Cx) (pos:Pos) (keys:List (Option Expr)) (values:List Expr) (trs:List (TE × TE)):Prop :=
  ∀(pins:List (Addr × Obj)) (s:Shared) (σ:St) (H:Hp) (Q:List (V × V)->Hp->Prop),Inv X pins σ H s->zvg trs σ H Q ->
    wpAny (model X.prog X.w) X.A (evalPairs (pairTrees keys values X.env pos)) (fun vs s'=>∃ps H',Inv X pins σ H' s'/\VV ps vs/\Q ps H') X.xe s
theorem z2m {X:Cx}{pos:Pos}:PPs X pos [] [] []:=fun pins s σ H Q I h=>pairTrees_nil_walk ⟨[],H,I,.nil,h⟩
theorem zxw {X:Cx}{pos:Pos}{k v:Expr}{ks:List (Option Expr)}{vs:List Expr}{tk tv:TE}{trs:List (TE × TE)} (hk:PE X k tk) (hv:PE X v tv) (hr:PPs X pos ks vs trs) :
  PPs X pos (some k::ks) (v::vs) ((tk,tv)::trs):=fun pins s σ H Q I h =>
 pairTrees_cons_walk (thn (hk pins s σ H _ I h) fun u s1 ⟨x,H1,I1,rx,q1⟩=>thn (hv pins s1 σ H1 _ I1 q1) fun w2 s2 ⟨y,H2,I2,ry,q2⟩ =>
  thn (hr pins s2 σ H2 _ I2 q2) fun ws s3 ⟨ps,H3,I3,rel,q3⟩=>⟨(x,y)::ps,H3,I3,.cons ⟨rx,ry⟩ rel,q3⟩)
noncomputable def zcq (kvs more:List (Key × V)):List (Key × V):=more.foldl (fun acc kv=>putK acc kv.1 kv.2) kvs
theorem KV.merge:∀{more:List (Key × V)}{rs:List (Key × Value)}{kvs:List (Key × V)}{vs:List (Key × Value)},KV more rs->KV kvs vs->KV (zcq kvs more) (merged vs rs):=by
  intro more rs kvs vs r;unfold KV at r
  induction r generalizing kvs vs with
  | nil=>intro q;exact q
  | @cons p q ps qs h t ih =>
    intro r0;have e:KV (putK kvs p.1 p.2) (stored vs q.1 q.2):=by
      have:=r0.put p.1 h.2;rw[<-h.1];exact this
    exact ih e
theorem zbt:∀(more kvs:List (Key × V)),(zcq kvs more).length<=kvs.length+more.length
  | [],kvs=>by show kvs.length<=kvs.length+0;omega
  | p::r,kvs=>by
    have h1:=zbt r (putK kvs p.1 p.2);have h2:=zed kvs p.1 p.2;show (zcq (putK kvs p.1 p.2) r).length<=_;rw[Bb];omega
theorem zh0 {P:Program}{w:World}:∀{kvs:List (Key × V)}{ws:List (Value × Value)},VV (kvs.map fun kv=>(kV kv.1,kv.2)) ws->∃rs,Carries (zag P w) ws rs/\KV kvs rs
  | [],_,r=>by rw[List.map_nil] at r;cases r;exact⟨[],True.intro,.nil⟩
  | p::kvs,_,r=>by
    rw[Ak] at r;cases r with
    | @cons a b as bs h t =>
      obtain⟨rs,c,q⟩:=zh0 (P:=P) (w:=w) t;obtain⟨b1,b2⟩:=b;exact⟨(p.1,b2)::rs,⟨zlt h.1,rfl,c⟩,.cons ⟨rfl,h.2⟩ q⟩
noncomputable def z5w (trs:List (TE × TE)):TE:=fun σ H Q=>∀p,H p=none->zvg trs σ (upd H p (.dK [])) fun ps H2=>H2 p=some (.dK [])/\∃kvs:List (Key × V),ps=kvs.map (fun kv=>(kV kv.1,kv.2))/\kvs.length<=15/\Q (.ref p) (upd H2 p (.dK (zcq [] kvs)))
theorem z31 {X:Cx}{pos:Pos}{keys:List (Option Expr)}{values:List Expr}{trs:List (TE × TE)} (h:PPs X pos keys values trs) (hall:keys.all (·.isSome)=true) (hl:keys.length=values.length) (h0:keys≠[])
  (h15:keys.length<=15):PE X (.Dict keys values pos) (z5w trs):=by
 intro pins s σ H Q I q;have hn:=I.hok.fresh (Ae s.heap.objs.size);have I1:=I.laid (a:=s.heap.objs.size) (o:=.dK []) (h':=s.heap.push { cls:=.type "dict",data:=.dict #[] }) (t':=s.toks) (fun _ _ q=>Af _ q) (Ae _) (zpi s.heap I.big);refine wpAny_Dict_walk (knd:=zag X.prog X.w) hall hl h0 h15 (thn (h pins _ σ _ _ I1 (q _ hn)) fun ws s2 ⟨ps,H2,I2,rel,e,kvs,ep,lk,q2⟩=>?_);subst ep;obtain⟨rs,c,rk⟩:=zh0 (P:=X.prog) (w:=X.w) rel;obtain⟨z,hd,vs0,r0,dd⟩:=zqo I2.hok e;cases r0;refine⟨rs,c,dd,fun h' dd' hs=>⟨.ref s.heap.objs.size,_,?_,rfl,q2⟩⟩;have hz:(zcq [] kvs).length<=sizeLine:=by
  have h1:=zbt kvs [];rw[Dh] at h1;rw[Fs];omega
 have he:∃q,h'.get? s.heap.objs.size=some q:=let ⟨q,_,_,hq,_⟩:=dd';⟨q,hq⟩;exact zfi I2 (by rw[e];exact True.intro) hs he (zp3 hz hd (rk.merge .nil) dd')
noncomputable def IsD (H:Hp) (a:Addr):Prop:=(∃kvs,Rd H a (.dK kvs))\/∃kvs,Rd H a (.dT kvs)
theorem z5k {X:Cx}{pins:List (Addr × Obj)}{σ:St}{H:Hp}{s:Shared}{a:Addr} (I:Inv X pins σ H s) (d:IsD H a) :
  s.TypeIs (.ref a) "dict"/\(∀b,Value.ref a=.ref b->∃ob,s.heap.get? b=some ob/\ob.dict=none)/\(a == sysModules)=false:=by
 rcases d with ⟨kvs,e⟩ | ⟨kvs,e⟩
 ·obtain⟨_, hd, vs, _, dd⟩ := dk_rd I.hok e;refine⟨dd.typeIs,fun b q=>?_,hd⟩;cases q;obtain⟨ob,_,_,h1,h2,_⟩:=dd;exact⟨ob,h1,h2.2.1⟩
 ·obtain⟨_, hd, xs, _, dd⟩ := dt_rd I.hok e;refine⟨dd.typeIs,fun b q=>?_,hd⟩;cases q;obtain⟨ob,_,_,h1,h2,_⟩:=dd;exact⟨ob,h1,h2.2.1⟩
section
variable {X:Cx}{pins:List (Addr × Obj)}{σ:St}{H:Hp}{s:Shared}{a:Addr}{y d:V}{u r:Value}{o:Option V}{A:Around}{E:Value->Shared->Prop}
theorem d_get2 {Q:Value->Shared->Prop} (hu:A.units+1 < cLine) (I:Inv X pins σ H s) (g:DGet H a y o) (ry:RelV y u) (rd:RelV d r) (h:∀w' s',Inv X pins σ H s'->RelV (o.getD d) w'->Q w' s') :
  wpAny (model X.prog X.w) A (call (.builtin "dict.get") [.ref a,u,r]) Q E s:=by
 rcases g with ⟨kvs,k,e,ey,l⟩ | ⟨kvs,k,b,e,ey,eb,l⟩
 ·subst ey;obtain⟨z,hd,vs,rel,dd⟩:=dk_rd I.hok e;refine call_meetsIn PySem.F.slot_dict_get dd.typeIs PySem.F.entry_dict_get (PySem.F.args_dict_get_3 _ _ _) (meets_dict_get_default (zag X.prog X.w) a (zlt ry) hd r) ⟨_,dd.mapOf,h _ _ (I.tok _) ?_⟩;rw[l];exact (rel.val k).getD rd
 ·subst ey;cases (show u=Value.ref b from ry);obtain⟨z,hd,xs,rel,dd⟩:=dt_rd I.hok e;refine call_meetsIn PySem.F.slot_dict_get dd.typeIs PySem.F.entry_dict_get (PySem.F.args_dict_get_3 _ _ _) (meetsH_dict_get_default (tupleKind (zag X.prog X.w)) a b hd r) ⟨Gv hu,k,xs,zj0 I.hok eb,dd,h _ _ (I.tok _) ?_⟩;rw[l];exact (rel.val k).getD rd
end
section
variable {X:Cx}{o e f:Expr}{apos cpos:Pos}{td ty tx:TE}
end
section
variable {X:Cx}{pins:List (Addr × Obj)}{σ:St}{H:Hp}{s:Shared}{a:Addr}{kvs:List (Key × V)}{A:Around}{E:Value->Shared->Prop}
end
section
variable {X:Cx}{pins:List (Addr × Obj)}{σ:St}{H:Hp}{s:Shared}{a:Addr}{y:V}{u:Value}{A:Around}{E:Value->Shared->Prop}
end
section
variable {X:Cx}
theorem z49 {bs:List Bool}{its:List Value}{i:Nat}{v:Value}(r:Vals (bs.map V.bl) its)(h:its[i]?=some v):∃b,bs[i]?=some b/\v=.bool b:=by
 have hl:=r.length;rw[Ad] at hl;have hi:i < bs.length:=by rw[hl];exact (Am.mp h).1
 obtain⟨u,hu,ru⟩:=r.get (i:=i) (x:=.bl bs[i]) (by rw[Au,Ab hi];rfl);rw[h] at hu;obtain rfl:=sI hu;exact⟨bs[i],Ab hi,ru⟩
theorem zi6 {bs:List Bool}{i:Nat}(hi:i < bs.length):bs.getD i false=bs[i]:=by rw[Bw,Ab hi];rfl
theorem zsr (bs:List Bool):((List.range bs.length).any fun i=>bs.getD i false)=bs.any id:=by
 rw[Fa,List.any_eq_true,List.any_eq_true];constructor
 ·rintro ⟨i, hi, h⟩;rw[Bt] at hi;refine⟨bs[i],List.getElem_mem hi,?_⟩;rw[zi6 hi] at h;exact h
 ·rintro ⟨b, hb, h⟩;obtain⟨i,hi,e⟩:=Cw.mp hb;refine⟨i,Bt.mpr hi,?_⟩;rw[zi6 hi,e];exact h
theorem zvu (bs:List Bool):((List.range bs.length).all fun i=>bs.getD i false)=bs.all id:=by
 rw[Fa,Bg,Bg];constructor
 ·intro h b hb;obtain⟨i,hi,e⟩:=Cw.mp hb;have:=h i (Bt.mpr hi);rw[zi6 hi,e] at this;exact this
 ·intro h i hi;rw[Bt] at hi;rw[zi6 hi];exact h _ (List.getElem_mem hi)
theorem zop {P:Program}{w:World}{A:Around}{bs:List Bool}{its:List Value}(r:Vals (bs.map V.bl) its):TruthOf P w A (fun i v=>its.toArray[i]?=some v) (fun i=>bs.getD i false):=fun i v s Q E hP hQ=>by
 obtain⟨b,hb,e⟩:=z49 r (by simpa using hP);subst e;have:bs.getD i false=b:=by rw[Bw,hb];rfl
 have hQ' : Q (bs.getD i false) s:=hQ;rw[this] at hQ';exact Gx hQ'
theorem zwr (hc:X.calm=true):zb5 X (.builtin "any") (fun xs H Q=>∃(a:Addr) (bs:List Bool),xs=[.ref a]/\SqL X.K H a (bs.map V.bl)/\Q (.bl (bs.any id)) H):=by
 intro pins s σ H xs us Q I r h;obtain⟨a,bs,rfl,hq,q⟩:=h;obtain⟨u,rfl,rx⟩:=vals1 r;cases rx;obtain⟨its,rv,p,hz⟩:=I.list hq;have hl:=rv.length;rw[Ad] at hl;have ha:a < s.heap.objs.size:=by obtain⟨o,e,_⟩:=p.isList;exact Ao e
 refine call_any_walk (Dy p.isList ?_);refine⟨s.heap.objs.size,_,[s.heap.objs.size],its.toArray.size,_,_,_,rfl,Walks.list (A:=X.A.in1) (show X.A.in1.handled=none from I.ok.hd hc) _ a (At ha) its.toArray,⟨⟨_,As _ rfl,rfl,rfl⟩,p.isList.push _⟩,zop rv,fun h' tk hk=>?_⟩;have e:its.toArray.size=bs.length:=by simp;omega
 rw[e,zsr];refine⟨.bl _,H,I.kept fun b o hb=>?_,rfl,q⟩;exact hk b o (by intro z;rw[Aj] at z;subst z;exact absurd (Ao hb) (Bx _)) (Af _ hb)
theorem zy0 (hc:X.calm=true):zb5 X (.builtin "all") (fun xs H Q=>∃(a:Addr) (bs:List Bool),xs=[.ref a]/\SqL X.K H a (bs.map V.bl)/\Q (.bl (bs.all id)) H):=by
 intro pins s σ H xs us Q I r h;obtain⟨a,bs,rfl,hq,q⟩:=h;obtain⟨u,rfl,rx⟩:=vals1 r;cases rx;obtain⟨its,rv,p,hz⟩:=I.list hq;have hl:=rv.length;rw[Ad] at hl;have ha:a < s.heap.objs.size:=by obtain⟨o,e,_⟩:=p.isList;exact Ao e
 refine call_all_walk (Dy p.isList ?_);refine⟨s.heap.objs.size,_,[s.heap.objs.size],its.toArray.size,_,_,_,rfl,Walks.list (A:=X.A.in1) (show X.A.in1.handled=none from I.ok.hd hc) _ a (At ha) its.toArray,⟨⟨_,As _ rfl,rfl,rfl⟩,p.isList.push _⟩,zop rv,fun h' tk hk=>?_⟩;have e:its.toArray.size=bs.length:=by simp;omega
 rw[e,zvu];refine⟨.bl _,H,I.kept fun b o hb=>?_,rfl,q⟩;exact hk b o (by intro z;rw[Aj] at z;subst z;exact absurd (Ao hb) (Bx _)) (Af _ hb)
end
noncomputable def z79 (i j:Int):Prop:=Builtin.Int.intBits i<=2 ^ 20/\Builtin.Int.intBits j<=2 ^ 20
theorem z22 {X:Cx}:OpR X (binaryOp .Mult) (rI z79 fun i j=>.int (i * j)):=opI fun _ _ _ _ _ _ _ hc q=>mul_int q (IntMulOk.of_bits hc.1 hc.2)
structure Cal (P:Program) (w:World) (K:PySem.W.Frag) (mg:Str->Option Value) (base:Heap) (n:Nat) (x:Str) (ps:List Str) (sp:Sp):Prop where
 ex:∃f fd,FnOk P w K mg base CX0 n f fd ps sp/\zl8 K fd ps []/\PySem.W.keepIn K (.ref f)=true/\mg x=some (.ref f)
theorem z7a {X:Cx}{n k:Nat}{x:Str}{ps:List Str}{sp:Sp}{e:Expr}{es:List Expr}{t:TA}{p pos:Pos} (C:Cal X.prog X.w X.K X.mg X.base n x ps sp) (hr:Room k X.A) (hg:Gl X x) (ha:PA X (e::es) t) (hk:n<=k:=by decide)
  (hdb:(x == ("__debug__" : Str))=false:=by decide) (hs:starEach (e::es) X.env=(false,eval e X.env)::starEach es X.env:=by rfl) (hpl:(backTo pos (starEach es X.env)).any (·.1)=false:=by rfl) :
  PE X (.Call (.Name x p) (e::es) [] pos) (z1r sp [] E0 t):=by
 nofun;obtain⟨f,fd,F,b,kp,m⟩:=C.ex;ac_rfl;exact z0j F (hr.mono hk) hg m kp b .nil yab ha hdb hs hpl
theorem Same.new {p:Addr}{H:Hp}(h:H p=none)(o:HO):Same H (L2.upd H p o):=fun b u e=>by rw[upd_ne (zaf e h)];exact e
theorem SqL.of' {K:PySem.W.Frag}{H:Hp}{a:Addr}{xs:List V}(h:H a=some (.lst xs)):SqL K H a xs:=.inl (.inl h)
noncomputable def MM:Int:=2305843009213693951
noncomputable def big:Nat:=1099511627776
noncomputable def Bits (xs:List Int):Prop:=∀x∈xs,x=0\/x=1
noncomputable def zac (xs:List Int):Int:=xs.foldr (fun b a=>2 * a+b) 0
theorem z45:bootBuiltins "len" = some (.builtin "len"):=by decide +kernel
theorem z5s:bootBuiltins "abs" = some (.builtin "abs"):=by decide +kernel
theorem z7t:bootBuiltins "any" = some (.builtin "any"):=by decide +kernel
theorem z4x:bootBuiltins "all" = some (.builtin "all"):=by decide +kernel
theorem z77:bootBuiltins "int" = some (.type "int"):=by decide +kernel
theorem zxn:bootBuiltins "tuple" = some (.type "tuple"):=by decide +kernel
theorem z1z:bootBuiltins "list" = some (.type "list"):=by decide +kernel
theorem zwf {w:Int}{i:Nat}(h0:0 < w)(h:w<=2 ^ (200 * i)):0 < w * 10 ^ 60/\w * 10 ^ 60<=2 ^ (200 * (i+1)):=by
 have e:(2:Int) ^ (200 * (i+1))=2 ^ (200 * i) * 2 ^ 200:=by rw[Nat.mul_add,Int.pow_add]
 rw[e];refine⟨Int.mul_pos h0 #v[0,9],?_⟩;have h1:w * 10 ^ 60<=2 ^ (200 * i) * 10 ^ 60:=Int.mul_le_mul_of_nonneg_right h #v[0,9];have h2:(2:Int) ^ (200 * i) * 10 ^ 60<=2 ^ (200 * i) * 2 ^ 200:=Int.mul_le_mul_of_nonneg_left #v[0,9] #v[];omega
theorem ziy {w:Int}{i:Nat}(h0:0<=w)(h:w<=2 ^ (200 * i))(hi:i<=63):Builtin.Int.intBits w<=2 ^ 20:=by
 have h1:(2:Int) ^ (200 * i) < 2 ^ (200 * i+1):=by rw[Int.pow_succ];have:(0:Int) < 2 ^ (200 * i):=Int.pow_pos #v[0,9];omega
 have h2:w.natAbs < 2 ^ (200 * i+1):=by
  have:((w.natAbs:Nat):Int) < ((2 ^ (200 * i+1):Nat):Int):=by
   rw[Int.natCast_pow];have e:((w.natAbs:Nat):Int)=w:=by omega
   rw[e];exact Int.lt_of_le_of_lt h h1
  exact Int.ofNat_lt.mp this
 have:=PyProof.Rows.intBits_le h2;omega
theorem zei:∀{xs:List Int},Bits xs->0<=zac xs/\zac xs < 2 ^ xs.length
  | [],_=>by decide
  | x::r,h=>by
    have hx:=h x Aq;have ih:=zei (xs:=r) fun y hy=>h y (Ar _ hy);show 0<=2 * zac r+x/\2 * zac r+x < 2 ^ (r.length+1);rw[Int.pow_succ];omega
noncomputable def zai:Expr->Bool
 | .Starred ..=>false
 | _=>true
theorem zal {e:Expr}{es:List Expr}{env:Env}(h:zai e=true):starEach (e::es) env=(false,eval e env)::starEach es env:=by
 cases e<;>first | rfl | (cases h)
theorem pac {X:Cx}{e:Expr}{es:List Expr}{te:TE}{t:TA}(ha:PE X e te)(hr:PA X es t)(h:zai e=true:=by rfl):PA X (e::es) (zhn te t):=z2h ha hr (zal h)
end L2
namespace L2
theorem noSome {α:Type}{a:α}{P:Prop}(h:none=some a):P:=by cases h
open PySem PySem.Spec PyProof.Rows
noncomputable abbrev DKey:=Key ⊕ List Key
inductive W where
 | non | bl (b:Bool) | int (i:Int) | str (x:Str) | tup (xs:List W) | lst (xs:List W) | frl (xs:List W) | dic | dct (ks:List DKey) (vs:List W) | dcz (ks:List DKey) (vs:List W)
 deriving BEq,Inhabited
mutual
inductive Rep (K:PySem.W.Frag) (F:Hp):W->V->Prop where
 | non:Rep K F .non .non
 | bl (b:Bool):Rep K F (.bl b) (.bl b)
 | int (i:Int):Rep K F (.int i) (.int i)
 | str (x:Str):Rep K F (.str x) (.str x)
 | tup {ws:List W}{a:Addr}{vs:List V} (h:F a=some (.tup vs)) (r:Reps K F ws vs):Rep K F (.tup ws) (.ref a)
 | lst {ws:List W}{a:Addr}{vs:List V} (h:F a=some (.lst vs)) (r:Reps K F ws vs):Rep K F (.lst ws) (.ref a)
 | frl {ws:List W}{a:Addr}{vs:List V} (h:SqL K F a vs) (r:Reps K F ws vs):Rep K F (.frl ws) (.ref a)
 | dic {a:Addr}{kvs:List (Key × V)} (h:F a=some (.dK kvs)):Rep K F .dic (.ref a)
 | dct {a:Addr}{ks:List Key}{ws:List W}{vs:List V} (h:F a=some (.dK (ks.zip vs))) (hl:ks.length=vs.length) (r:Reps K F ws vs):Rep K F (.dct (ks.map .inl) ws) (.ref a)
 | dctT {a:Addr}{ks:List (List Key)}{ws:List W}{vs:List V} (h:F a=some (.dT (ks.zip vs))) (hl:ks.length=vs.length) (r:Reps K F ws vs):Rep K F (.dct (ks.map .inr) ws) (.ref a)
 | dcz {a:Addr}{o:Obj}{ks:List Key}{ws:List W}{vs:List V} (h:F a=some (.frz o (.dK (ks.zip vs)))) (hl:ks.length=vs.length) (r:Reps K F ws vs):Rep K F (.dcz (ks.map .inl) ws) (.ref a)
 | dczT {a:Addr}{o:Obj}{ks:List (List Key)}{ws:List W}{vs:List V} (h:F a=some (.frz o (.dT (ks.zip vs)))) (hl:ks.length=vs.length) (r:Reps K F ws vs):Rep K F (.dcz (ks.map .inr) ws) (.ref a)
inductive Reps (K:PySem.W.Frag) (F:Hp):List W->List V->Prop where
 | nil:Reps K F [] []
 | cons {w:W}{v:V}{ws:List W}{vs:List V} (h:Rep K F w v) (r:Reps K F ws vs):Reps K F (w::ws) (v::vs)
end
theorem zcs {α:Type}{l:List α}{i j:Nat}{x y:α}(hi:i < l.length)(h:(l.set i x)[j]?=some y):(j=i/\y=x)\/(j≠i/\l[j]?=some y):=by
 by_cases e:j=i
 ·subst e;rw[Di hi] at h;exact .inl ⟨rfl,(sI h).symm⟩
 ·rw[Cy (Ne.symm e)] at h;exact .inr ⟨e,h⟩
theorem zwj {α:Type}{l:List α}{i:Nat}{x:α}(h:l[i]?=some x):l.set i x=l:=by
 apply Fo;intro j;by_cases e:j=i
 ·subst e;rw[Di (Am.mp h).1,h]
 ·rw[Cy (Ne.symm e)]
section
variable {K:PySem.W.Frag}{F F' H H' : Hp}
mutual
theorem Rep.mono (s:Same F F'):∀{w:W}{v:V},Rep K F w v->Rep K F' w v
 | _,_,.non=>.non
 | _,_,.bl b=>.bl b
 | _,_,.int i=>.int i
 | _,_,.str x=>.str x
 | _,_,.tup h r=>.tup (s _ _ h) (Reps.mono s r)
 | _,_,.lst h r=>.lst (s _ _ h) (Reps.mono s r)
 | _,_,.frl h r=>.frl (s.seq h) (Reps.mono s r)
 | _,_,.dic h=>.dic (s _ _ h)
 | _,_,.dct h hl r=>.dct (s _ _ h) hl (Reps.mono s r)
 | _,_,.dctT h hl r=>.dctT (s _ _ h) hl (Reps.mono s r)
 | _,_,.dcz h hl r=>.dcz (s _ _ h) hl (Reps.mono s r)
 | _,_,.dczT h hl r=>.dczT (s _ _ h) hl (Reps.mono s r)
theorem Reps.mono (s:Same F F'):∀{ws:List W}{vs:List V},Reps K F ws vs->Reps K F' ws vs
 | _,_,.nil=>.nil
 | _,_,.cons h r=>.cons (Rep.mono s h) (Reps.mono s r)
end
theorem Reps.length:∀{ws:List W}{vs:List V},Reps K F ws vs->ws.length=vs.length
 | _,_,.nil=>rfl
 | _,_,.cons _ r=>congrArg (· + 1) (Reps.length r)
theorem Reps.get:∀{ws:List W}{vs:List V}{i:Nat}{w:W},Reps K F ws vs->ws[i]?=some w->∃v,vs[i]?=some v/\Rep K F w v
  | _,_,_,_,.nil,e=>by simp at e
  | _,_,0,_,.cons h _,e=>by simp at e;subst e;exact⟨_,rfl,h⟩
  | _,_,i+1,w,.cons _ r,e=>by
    obtain⟨v,h1,h2⟩:=Reps.get (i:=i) (w:=w) r (by simpa using e);exact⟨v,by simpa using h1,h2⟩
theorem Reps.getV:∀{ws:List W}{vs:List V}{i:Nat}{v:V},Reps K F ws vs->vs[i]?=some v->∃w,ws[i]?=some w/\Rep K F w v
  | _,_,_,_,.nil,e=>by simp at e
  | _,_,0,_,.cons h _,e=>by simp at e;subst e;exact⟨_,rfl,h⟩
  | _,_,i+1,v,.cons _ r,e=>by
    obtain⟨w,h1,h2⟩:=Reps.getV (i:=i) (v:=v) r (by simpa using e);exact⟨w,by simpa using h1,h2⟩
theorem Reps.append:∀{xs ys:List W}{us ws:List V},Reps K F xs us->Reps K F ys ws->Reps K F (xs++ys) (us++ws)
 | _,_,_,_,.nil,s=>s
 | _,_,_,_,.cons h r,s=>.cons h (Reps.append r s)
theorem Reps.take:∀{xs:List W}{us:List V} (n:Nat),Reps K F xs us->Reps K F (xs.take n) (us.take n)
 | _,_,0,_=>.nil
 | _,_,_+1,.nil=>.nil
 | _,_,n+1,.cons h r=>.cons h (Reps.take n r)
theorem Reps.drop:∀{xs:List W}{us:List V} (n:Nat),Reps K F xs us->Reps K F (xs.drop n) (us.drop n)
 | _,_,0,r=>r
 | _,_,_+1,.nil=>.nil
 | _,_,n+1,.cons _ r=>Reps.drop n r
theorem Reps.set {w:W}{v:V}(h:Rep K F w v):∀{xs:List W}{us:List V} (i:Nat),Reps K F xs us->Reps K F (xs.set i w) (us.set i v)
 | _,_,_,.nil=>.nil
 | _,_,0,.cons _ r=>.cons h r
 | _,_,i+1,.cons q r=>.cons q (Reps.set h i r)
theorem Reps.rep {xs:List W}{us:List V}(r:Reps K F xs us):∀k:Nat,Reps K F (List.replicate k xs).flatten (List.replicate k us).flatten
 | 0=>.nil
 | k+1=>by rw[Cr,Cr,Du,Du];exact r.append (r.rep k)
noncomputable def isIt:W->V->Prop
 | .int i,v=>v=.int i
 | .bl b,v=>v=.bl b
 | _,_=>True
theorem Rep.isIt {w:W}{v:V}(h:Rep K F w v):isIt w v:=by cases h<;>first | rfl | trivial
theorem Reps.uncons {w:W}{ws:List W}{vs:List V}(h:Reps K F (w::ws) vs):∃v us,vs=v::us/\Rep K F w v/\Reps K F ws us:=by
 cases h with
 | cons h r=>exact⟨_,_,rfl,h,r⟩
theorem Reps.ints:∀{ns:List Int}{vs:List V},Reps K F (ns.map W.int) vs->vs=ns.map V.int:=by
  intro ns
  induction ns with
  | nil=>intro vs h;cases h;rfl
  | cons n ns ih =>
    intro vs h;obtain⟨v,us,e,h1,h2⟩:=Reps.uncons h;rw[e,ih h2,show v=.int n from h1.isIt];rfl
theorem Reps.ofInts:∀(ns:List Int),Reps K F (ns.map W.int) (ns.map V.int)
 | []=>.nil
 | n::ns=>.cons (.int n) (Reps.ofInts ns)
theorem Reps.bls:∀{bs:List Bool}{vs:List V},Reps K F (bs.map W.bl) vs->vs=bs.map V.bl:=by
  intro ns
  induction ns with
  | nil=>intro vs h;cases h;rfl
  | cons n ns ih =>
    intro vs h;obtain⟨v,us,e,h1,h2⟩:=Reps.uncons h;rw[e,ih h2,show v=.bl n from h1.isIt];rfl
noncomputable abbrev En:=List (Option (W × Bool))
noncomputable abbrev Prt:=Addr->HO->Prop
inductive OwnR (K:PySem.W.Frag) (F:Hp):W->HO->Prop where
 | lst {ws:List W}{vs:List V} (r:Reps K F ws vs):OwnR K F (.lst ws) (.lst vs)
 | dct {ks:List Key}{ws:List W}{vs:List V} (hl:ks.length=vs.length) (r:Reps K F ws vs):OwnR K F (.dct (ks.map .inl) ws) (.dK (ks.zip vs))
 | dctT {ks:List (List Key)}{ws:List W}{vs:List V} (hl:ks.length=vs.length) (r:Reps K F ws vs):OwnR K F (.dct (ks.map .inr) ws) (.dT (ks.zip vs))
theorem OwnR.mono {w:W}{o:HO}(s:Same F F')(h:OwnR K F w o):OwnR K F' w o:=by
 cases h with
 | lst r=>exact .lst (r.mono s)
 | dct hl r=>exact .dct hl (r.mono s)
 | dctT hl r=>exact .dctT hl (r.mono s)
theorem OwnR.rep {w:W}{o:HO}{a:Addr}(h:OwnR K F w o)(e:F a=some o):Rep K F w (.ref a):=by
 cases h with
 | lst r=>exact .lst e r
 | dct hl r=>exact .dct e hl r
 | dctT hl r=>exact .dctT e hl r
theorem OwnR.list {ws:List W}{o:HO}(h:OwnR K F (.lst ws) o):∃vs,o=.lst vs/\Reps K F ws vs:=by
 cases h with
 | lst r=>exact⟨_,rfl,r⟩
noncomputable def lams:List Str:=["_law_terms","_law_in_order","_law_poly_of","voted_terms","law"]
noncomputable def lamQ (x:Str):Str:=x++".<locals>."++"<lambda>"
noncomputable def z3r (c:Addr) (q:Str) (h:Heap):Prop:=∃oc vs t,h.get? c=some oc/\oc.data=.fields vs/\vs[1]?=some (.str q t)
noncomputable def z2k (K:PySem.W.Frag):Prop:=∀x∈lams,∀x'∈lams,∀c c' P,PySem.W.tabIn K x=some (c,P)->PySem.W.tabIn K x'=some (c',P)->x=x'
noncomputable def NoT (pr:Prt):Prop:=∀b xs,¬ pr b (.tup xs)
noncomputable def zq1 (K:PySem.W.Frag) (F:Hp) (pr:Prt) (H:Hp):Prop:=(z2k K/\NoT pr)/\∀x∈lams,∀c P,PySem.W.tabIn K x=some (c,P)->∃ps:Array Value,H P=some (.tbl ps)/\F P=none/\(∀o,¬ pr P o)/\TriplesOk ps.toList /\
 ∀pos cv,codeAmong pos ps.toList=some cv->∃c',cv=.ref c'/\F c'=some (.ext (z3r c' (lamQ x)))
theorem zq1.go {F F' H H' : Hp}{pr pr' : Prt}(T:zq1 K F pr H)(h4:∀b xs,pr' b (.tup xs)->pr b (.tup xs))(h1:∀b ps,H b=some (.tbl ps)->F b=none->H' b=some (.tbl ps)/\F' b=none)(h2:Same F F')(h3:∀b ps,H b=some (.tbl ps)->(∀o,¬ pr b o)->∀o,¬ pr' b o):zq1 K F' pr' H':=⟨⟨T.1.1,fun b xs z=>T.1.2 b xs (h4 b xs z)⟩,fun x hx c P e=>by
 nofun;obtain⟨ps,a1,a2,a3,a4,a5⟩:=T.2 x hx c P e;ac_rfl;refine⟨ps,(h1 P ps a1 a2).1,(h1 P ps a1 a2).2,h3 P ps a1 a3,a4,fun pos cv q=>?_⟩;obtain⟨c',b1,b2⟩:=a5 pos cv q;exact⟨c',b1,h2 _ _ b2⟩⟩
structure Rel (K:PySem.W.Frag) (F:Hp) (pr:Prt) (en:En) (σ:St) (H:Hp):Prop where
 len:en.length=σ.length
 sub:Same F H
 val:∀(i:Nat) (w:W),en[i]?=some (#v[w,6])->∃v,σ[i]?=some (some v)/\Rep K F w v
 own:∀(i:Nat) (w:W),en[i]?=some (#v[w,5])->∃(a:Addr) (o:HO) (w' : W),w=w'/\σ[i]?=some (some (V.ref a))/\H a=some o/\F a=none/\OwnR K F w' o
 inj:∀(i j:Nat) (a:Addr) (w w' : W),en[i]?=some (#v[w,5])->en[j]?=some (#v[w',5])->σ[i]?=some (some (V.ref a))->σ[j]?=some (some (V.ref a))->i=j
 prt:∀b o,pr b o->H b=some o/\F b=none/\∀(i:Nat) (w:W),en[i]?=some (#v[w,5])->σ[i]?≠some (some (V.ref b))
 tb:zq1 K F pr H
noncomputable def Res (K:PySem.W.Frag) (F H:Hp) (pr:Prt) (en:En) (σ:St):W × Bool->V->Prop
 | (w,false),v=>Rep K F w v
 | (w,true),v=>∃(a:Addr) (o:HO) (w' : W),w=w'/\v=V.ref a/\H a=some o/\F a=none/\OwnR K F w' o/\(∀(i:Nat) (w' : W),en[i]?=some (#v[w',5])->σ[i]?≠some (some (V.ref a)))/\∀b o,pr b o->b≠a
noncomputable def RepB (K:PySem.W.Frag) (F H:Hp) (w:W) (v:V):Prop:=Rep K F w v\/∃(a:Addr) (o:HO) (w' : W),w=w'/\v=V.ref a/\H a=some o/\OwnR K F w' o
inductive Out (K:PySem.W.Frag) (F H:Hp):W × Bool->V->Hp->Prop where
 | val {w:W}{v:V} (r:Rep K F w v):Out K F H (w,false) v H
 | lst {p:Addr}{ws:List W}{vs:List V} (n:H p=none) (r:Reps K F ws vs):Out K F H (.lst ws,true) (.ref p) (upd H p (.lst vs))
 | tup {p:Addr}{ws:List W}{vs:List V} (n:H p=none) (r:Reps K F ws vs):Out K F H (.tup ws,false) (.ref p) (upd H p (.tup vs))
theorem Same.upd_both {F H:Hp}(s:Same F H)(p:Addr)(o:HO):Same (upd F p o) (upd H p o):=fun b u e=>by
 by_cases hb:b=p
 ·subst hb;rw[upd_same] at e ⊢;exact e
 ·rw[upd_ne hb] at e ⊢;exact s _ _ e
variable {pr:Prt}{en:En}{σ:St}
theorem Rel.lay (R:Rel K F pr en σ H){p:Addr}(hp:H p=none)(o:HO):Rel K F pr en σ (upd H p o):=by
 have ne:∀a u,H a=some u->a≠p:=fun a u e=>zaf e hp;refine⟨R.len,R.sub.trans (Same.new hp o),R.val,fun i w e=>?_,R.inj,fun q o2 hq=>?_,R.tb.go (fun _ _ z=>z) (fun b ps e f=>⟨by rw[upd_ne (ne b _ e)];exact e,f⟩) (.refl F) fun b ps e h=>h⟩
 ·refine aG fun Gg qG => ?_;obtain⟨a,vs,ws,h1,h2,h3,h4,h5⟩:=R.own i w e;ac_rfl;exact⟨a,vs,ws,h1,h2,by rw[upd_ne (ne a _ h3)];exact h3,h4,h5⟩
 ·obtain⟨h1, h2, h3⟩ := R.prt q o2 hq;exact⟨by rw[upd_ne (ne _ _ h1)];exact h1,h2,h3⟩
theorem Rel.layF (R:Rel K F pr en σ H){p:Addr}(hp:H p=none)(o:HO):Rel K (upd F p o) pr en σ (upd H p o):=by
 have ne:∀a u,H a=some u->a≠p:=fun a u e=>zaf e hp;have fp:F p=none:=R.sub.free hp;have s:Same F (upd F p o):=Same.new fp o;refine⟨R.len,R.sub.upd_both p o,fun i w e=>?_,fun i w e=>?_,R.inj,fun q o2 hq=>?_,R.tb.go (fun _ _ z=>z) (fun b ps e f=>⟨by rw[upd_ne (ne b _ e)];exact e,by rw[upd_ne (ne b _ e)];exact f⟩) s fun b ps e h=>h⟩
 ·obtain⟨v, h1, h2⟩ := R.val i w e;exact⟨v,h1,h2.mono s⟩
 ·refine aG fun Gg qG => ?_;obtain⟨a,vs,ws,h1,h2,h3,h4,h5⟩:=R.own i w e;ac_rfl;exact⟨a,vs,ws,h1,h2,by rw[upd_ne (ne a _ h3)];exact h3,by rw[upd_ne (ne a _ h3)];exact h4,h5.mono s⟩
 ·obtain⟨h1, h2, h3⟩ := R.prt q o2 hq;exact⟨by rw[upd_ne (ne _ _ h1)];exact h1,by rw[upd_ne (ne _ _ h1)];exact h2,h3⟩
theorem Out.close {r:W × Bool}{v:V} (R:Rel K F pr en σ H) (o:Out K F H r v H'):∃F',Same F F'/\Rel K F' pr en σ H'/\Res K F' H' pr en σ r v:=by
  cases o with
  | val r=>exact⟨F,.refl F,R,r⟩
  | @lst p ws vs n r =>
    refine⟨F,.refl F,R.lay n _,p,_,_,rfl,rfl,upd_same,R.sub.free n,.lst r,fun i w' e z=>?_,fun q o2 hq z=>?_⟩
    · obtain ⟨a, vs, ws, h1, h2, h3, h4, h5⟩ := R.own i w' e
      rw[h2] at z;cases z;rw[n] at h3;exact noSome h3
    · have := (R.prt q o2 hq).1
      rw[z,n] at this;exact noSome this
  | @tup p ws vs n r=>exact⟨upd F p (.tup vs),Same.new (R.sub.free n) _,R.layF n _,.tup upd_same (r.mono (Same.new (R.sub.free n) _))⟩
theorem Out.mono {r:W × Bool}{v:V}(s:Same F F')(o:Out K F H r v H'):Out K F' H r v H':=by
 cases o with
 | val r=>exact .val (r.mono s)
 | lst n r=>exact .lst n (r.mono s)
 | tup n r=>exact .tup n (r.mono s)
theorem Res.freeze {r:W × Bool}{v:V} (R:Rel K F pr en σ H) (h:Res K F H pr en σ r v):∃F',Same F F'/\Rel K F' pr en σ H/\Rep K F' r.1 v:=by
  obtain⟨w,b⟩:=r;cases b with
  | false=>exact⟨F,.refl F,R,h⟩
  | true =>
    nofun;obtain⟨a,vs,ws,rfl,rfl,h1,h2,h3,h4,h5⟩:=h;ac_rfl;have s:Same F (upd F a vs):=Same.new h2 _;have nt:∀ps,vs≠.tbl ps:=fun ps z=>by cases h3<;>cases z
    refine⟨upd F a vs,s,⟨R.len,fun b u e=>?_,fun i w e=>?_,fun i w e=>?_,R.inj,fun q o2 hq=>?_,R.tb.go (fun _ _ z=>z) (fun b ps e f=>⟨e,by rw[upd_ne (fun z=>by subst z;rw[h1] at e;exact nt ps (sI e))];exact f⟩) s fun b ps e h=>h⟩,(h3.mono s).rep upd_same⟩
    · by_cases hb : b = a
      · subst hb;rw[upd_same] at e;obtain rfl:=sI e;exact h1
      · rw[upd_ne hb] at e;exact R.sub _ _ e
    · obtain ⟨v, q1, q2⟩ := R.val i w e
      exact⟨v,q1,q2.mono s⟩
    · refine aG fun Gg qG => ?_
      obtain⟨a',vs',ws',q1,q2,q3,q4,q5⟩:=R.own i w e;ac_rfl;have ne:a'≠a:=fun z=>by subst z;exact h4 i w e q2
      exact⟨a',vs',ws',q1,q2,q3,by rw[upd_ne ne];exact q4,q5.mono s⟩
    · obtain ⟨q1, q2, q3⟩ := R.prt q o2 hq
      exact⟨q1,by rw[upd_ne (h5 q o2 hq)];exact q2,q3⟩
theorem Rel.freeze (R:Rel K F pr en σ H) {i:Nat}{w:W}{v:V}{fl:Bool} (e:en[i]?=some (some (w,fl))) (hv:σ[i]?=some (some v)):∃F',Same F F'/\Rel K F' pr (en.set i (some (w,false))) σ H/\Rep K F' w v:=by
  have hi:i < en.length:=(Am.mp e).1;cases fl with
  | false =>
    obtain⟨v',h1,h2⟩:=R.val i w e;rw[hv] at h1;cases h1;refine⟨F,.refl F,?_,h2⟩;rw[zwj e];exact R
  | true =>
    nofun;obtain⟨a,vs,ws,e0,h2,h3,h4,h5⟩:=R.own i w e;ac_rfl;subst e0;rw[hv] at h2;cases h2;have s:Same F (upd F a vs):=Same.new h4 _;have nt:∀ps,vs≠.tbl ps:=fun ps z=>by cases h5<;>cases z
    have g:∀j w' b,(en.set i (some (w,false)))[j]?=some (some (w',b))->(j=i/\w'=w/\b=false)\/(j≠i/\en[j]?=some (some (w',b))):=fun j w' b h=>by
      rcases zcs hi h with ⟨z,q⟩ | z
      · cases q;exact .inl ⟨z,rfl,rfl⟩
      · exact .inr z
    refine⟨upd F a vs,s,⟨by rw[Dp];exact R.len,fun b u e'=>?_,fun j w' e'=>?_,fun j w' e'=>?_,fun j k b w1 w2 e1 e2=>?_,fun q o2 hq=>?_,R.tb.go (fun _ _ z=>z) (fun b ps e f=>⟨e,by rw[upd_ne (fun z=>by subst z;rw[h3] at e;exact nt ps (sI e))];exact f⟩) s fun b ps e h=>h⟩,(h5.mono s).rep upd_same⟩
    · by_cases hb : b = a
      · subst hb;rw[upd_same] at e';obtain rfl:=sI e';exact h3
      · rw[upd_ne hb] at e';exact R.sub _ _ e'
    · rcases g j w' false e' with ⟨rfl, rfl, _⟩ | ⟨_, z⟩
      · exact⟨_,hv,(h5.mono s).rep upd_same⟩
      · obtain ⟨v', q1, q2⟩ := R.val j w' z
        exact⟨v',q1,q2.mono s⟩
    · rcases g j w' true e' with ⟨_, _, z⟩ | ⟨ne, z⟩
      · cases z
      · refine aG fun Gg qG => ?_
        obtain⟨a',vs',ws',q1,q2,q3,q4,q5⟩:=R.own j w' z;ac_rfl;have ne2:a'≠a:=fun q=>by subst q;exact ne (R.inj j i a' _ _ z e q2 hv)
        exact⟨a',vs',ws',q1,q2,q3,by rw[upd_ne ne2];exact q4,q5.mono s⟩
    · rcases g j w1 true e1 with ⟨_, _, z⟩ | ⟨_, z1⟩
      · cases z
      · rcases g k w2 true e2 with ⟨_, _, z⟩ | ⟨_, z2⟩
        · cases z
        · exact R.inj j k b _ _ z1 z2
    · obtain ⟨q1, q2, q3⟩ := R.prt q o2 hq
      have ne:q≠a:=fun z=>by
        have:=q3 i _ e;rw[hv,z] at this;exact this rfl
      refine⟨q1,by rw[upd_ne ne];exact q2,fun j w' e'=>?_⟩;rcases g j w' true e' with ⟨_,_,z⟩ | ⟨_,z⟩
      · cases z
      · exact q3 j w' z
theorem Rel.repB (R:Rel K F pr en σ H) {i:Nat}{w:W}{fl:Bool}{v:V} (e:en[i]?=some (some (w,fl))) (hv:σ[i]?=some (some v)):RepB K F H w v:=by
  cases fl with
  | false =>
    obtain⟨v',h1,h2⟩:=R.val i w e;rw[hv] at h1;cases h1;exact .inl h2
  | true =>
    nofun;obtain⟨a,o,ws,h1,h2,h3,h4,h5⟩:=R.own i w e;ac_rfl;rw[hv] at h2;cases h2;exact .inr ⟨a,o,ws,h1,rfl,h3,h5⟩
theorem Rel.has (R:Rel K F pr en σ H){i:Nat}{w:W}{fl:Bool}(e:en[i]?=some (some (w,fl))):∃v,σ[i]?=some (some v):=by
 cases fl with
 | false=>obtain⟨v,h,_⟩:=R.val i w e;exact⟨v,h⟩
 | true=>obtain⟨a,_,_,_,h,_⟩:=R.own i w e;exact⟨_,h⟩
theorem Rel.store (R:Rel K F pr en σ H){i:Nat}{r:W × Bool}{v:V}(h:Res K F H pr en σ r v)(hi:i < en.length):Rel K F pr (en.set i (some r)) (σ.set i (some v)) H:=by
 have hi' : i < σ.length:=by rw[<-R.len];exact hi
 have g:∀j x,(en.set i (some r))[j]?=some (some x)->(j=i/\x=r)\/(j≠i/\en[j]?=some (some x)):=fun j x h=>by
  rcases zcs hi h with ⟨z,q⟩ | z
  ·obtain rfl:=sI q;exact .inl ⟨z,rfl⟩
  ·exact .inr z
 have s1:(σ.set i (some v))[i]?=some (some v):=Di hi';have s2:∀j,j≠i->(σ.set i (some v))[j]?=σ[j]?:=fun j hj=>Cy (Ne.symm hj);refine⟨by rw[Dp,Dp];exact R.len,R.sub,fun j w e=>?_,fun j w e=>?_,fun j k a w1 w2 e1 e2=>?_,fun q o2 hq=>?_,R.tb⟩
 ·rcases g j _ e with ⟨rfl, z⟩ | ⟨hj, z⟩
  ·subst z;exact⟨v,s1,h⟩
  ·rw[s2 j hj];exact R.val j w z
 ·rcases g j _ e with ⟨rfl, z⟩ | ⟨hj, z⟩
  ·subst z;obtain⟨a,vs,ws,h1,h2,h3,h4,h5,_⟩:=h;exact⟨a,vs,ws,h1,by rw[s1,h2],h3,h4,h5⟩
  ·rw[s2 j hj];exact R.own j w z
 ·intro q1 q2;rcases g j _ e1 with ⟨rfl,z1⟩ | ⟨hj,z1⟩
  ·rcases g k _ e2 with ⟨rfl, z2⟩ | ⟨hk, z2⟩
   ·rfl
   ·subst z1;obtain⟨a',vs,ws,h1,h2,h3,h4,h5,h6,_⟩:=h;rw[s1,h2] at q1;cases q1;rw[s2 k hk] at q2;exact absurd q2 (h6 k _ z2)
  ·rcases g k _ e2 with ⟨rfl, z2⟩ | ⟨hk, z2⟩
   ·subst z2;obtain⟨a',vs,ws,h1,h2,h3,h4,h5,h6,_⟩:=h;rw[s1,h2] at q2;cases q2;rw[s2 j hj] at q1;exact absurd q1 (h6 j _ z1)
   ·rw[s2 j hj] at q1; rw[s2 k hk] at q2;exact R.inj j k a _ _ z1 z2 q1 q2
 ·obtain⟨q1, q2, q3⟩ := R.prt q o2 hq;refine⟨q1,q2,fun j w e=>?_⟩;rcases g j _ e with ⟨rfl,z⟩ | ⟨hj,z⟩
  ·subst z;obtain⟨a',vs,ws,h1,h2,h3,h4,h5,h6,h7⟩:=h;rw[s1,h2];intro q';cases q';exact h7 q o2 hq rfl
  ·rw[s2 j hj];exact q3 j w z
theorem Rel.changeO (R:Rel K F pr en σ H){i:Nat}{w w0:W}{a:Addr}{o0:HO}(e:en[i]?=some (#v[w,5]))(hv:σ[i]?=some (some (.ref a)))(r:OwnR K F w0 o0):Rel K F pr (en.set i (#v[w0,5])) σ (upd H a o0):=by
 have hi:i < en.length:=(Am.mp e).1;nofun;obtain⟨a0,vs,ws,h1,h2,h3,h4,h5⟩:=R.own i w e;ac_rfl;rw[hv] at h2;cases h2;have nt:∀ps,vs≠.tbl ps:=fun ps z=>by cases h5<;>cases z
 have nx:∀φ,vs≠.ext φ:=fun ps z=>by cases h5<;>cases z
 have g:∀j x,(en.set i (#v[w0,5]))[j]?=some (some x)->(j=i/\x=(w0,true))\/(j≠i/\en[j]?=some (some x)):=fun j x h=>by
  rcases zcs hi h with ⟨z,q⟩ | z
  ·obtain rfl:=sI q;exact .inl ⟨z,rfl⟩
  ·exact .inr z
 refine⟨by rw[Dp];exact R.len,fun b u hb=>?_,fun j w' e'=>?_,fun j w' e'=>?_,fun j k b w1 w2 e1 e2 q1 q2=>?_,fun q o2 hq=>?_,R.tb.go (fun _ _ z=>z) (fun b ps e f=>⟨by rw[upd_ne (fun z=>by subst z;rw[h3] at e;exact nt ps (sI e))];exact e,f⟩) (.refl F) fun b ps e h=>h⟩
 ·have : b ≠ a := fun z => by subst z; rw[h4] at hb; cases hb
  rw[upd_ne this];exact R.sub _ _ hb
 ·rcases g j _ e' with ⟨_, z⟩ | ⟨_, z⟩
  ·cases z
  ·exact R.val j w' z
 ·rcases g j _ e' with ⟨rfl, z⟩ | ⟨hj, z⟩
  ·cases z;exact⟨a,o0,w0,rfl,hv,upd_same,h4,r⟩
  ·refine aG fun Gg qG => ?_;obtain⟨a',vs2,ws2,q1,q2,q3,q4,q5⟩:=R.own j w' z;ac_rfl;have ne:a'≠a:=fun z'=>by subst z';exact hj (R.inj j i a' _ _ z e q2 hv)
   exact⟨a',vs2,ws2,q1,q2,by rw[upd_ne ne];exact q3,q4,q5⟩
 ·have z1:∃w0,en[j]?=some (some (w0,true)):=by
   rcases g j _ e1 with ⟨rfl,_⟩ | ⟨_,z⟩
   ·exact⟨_,e⟩
   ·exact⟨_,z⟩
  have z2:∃w0,en[k]?=some (#v[w0,5]):=by
   rcases g k _ e2 with ⟨rfl,_⟩ | ⟨_,z⟩
   ·exact⟨_,e⟩
   ·exact⟨_,z⟩
  obtain⟨_,z1⟩:=z1;obtain⟨_,z2⟩:=z2;exact R.inj j k b _ _ z1 z2 q1 q2
 ·obtain ⟨q1, q2, q3⟩ := R.prt q o2 hq;have ne:q≠a:=fun z=>by
   have:=q3 i _ e;rw[hv,z] at this;exact this rfl
  refine⟨by rw[upd_ne ne];exact q1,q2,fun j w' e'=>?_⟩;rcases g j _ e' with ⟨rfl,_⟩ | ⟨_,z⟩
  ·exact q3 j _ e
  ·exact q3 j w' z
theorem Rel.change (R:Rel K F pr en σ H){i:Nat}{w:W}{a:Addr}{ws' : List W}{vs' : List V}(e:en[i]?=some (#v[w,5]))(hv:σ[i]?=some (some (.ref a)))(r:Reps K F ws' vs'):Rel K F pr (en.set i (#v[ws',2])) σ (upd H a (.lst vs')):=R.changeO e hv (.lst r)
theorem Rel.ownL (R:Rel K F pr en σ H){i:Nat}{ws:List W}(e:en[i]?=some (#v[ws,2])):∃(a:Addr) (vs:List V) (ws' : List W),W.lst ws=.lst ws'/\σ[i]?=some (some (V.ref a))/\H a=some (.lst vs)/\F a=none/\Reps K F ws' vs:=by
 nofun;obtain⟨a,o,w',e1,h2,h3,h4,h5⟩:=R.own i _ e;ac_rfl;subst e1;obtain⟨vs,rfl,r⟩:=h5.list;exact⟨a,vs,ws,rfl,h2,h3,h4,r⟩
theorem Rel.guard (R:Rel K F pr en σ H){p:Addr}(hp:H p=none)(o:HO)(no:∀xs,o≠.tup xs):Rel K F (fun b u=>pr b u\/(b=p/\u=o)) en σ (upd H p o):=by
 have L:=R.lay hp o;refine⟨L.len,L.sub,L.val,L.own,L.inj,fun b u h=>?_,R.tb.go (fun b xs z=>z.elim id fun z=>absurd z.2.symm (no xs)) (fun b ps e f=>⟨by rw[upd_ne (zaf e hp)];exact e,f⟩) (.refl F) fun b ps e h o z=>z.elim (h o) fun z=>zaf e hp z.1⟩;rcases h with h | ⟨rfl,rfl⟩
 ·exact L.prt b u h
 ·refine⟨upd_same, R.sub.free hp, fun i w e z => ?_⟩;obtain⟨a,vs,ws,h1,h2,h3,h4,h5⟩:=R.own i w e;rw[h2] at z;cases z;rw[hp] at h3;exact noSome h3
end
end L2
namespace L2
open PySem PySem.Spec PyProof.Rows
noncomputable abbrev GE:=En->Option (En × (W × Bool))
noncomputable abbrev GA:=En->Option (En × (W ⊕ Nat))
noncomputable abbrev GT:=En->Option (En × Bool)
noncomputable abbrev GAs:=En->Option (En × List (W ⊕ Nat))
noncomputable abbrev GL:=En->Option (En × List W)
noncomputable def ArgR (K:PySem.W.Frag) (F:Hp) (σ:St):W ⊕ Nat->V->Prop
 | .inl w,v=>Rep K F w v
 | .inr i,v=>σ[i]?=some (some v)
inductive ArgRs (K:PySem.W.Frag) (F:Hp) (σ:St):List (W ⊕ Nat)->List V->Prop where
 | nil:ArgRs K F σ [] []
 | cons {x:W ⊕ Nat}{v:V}{xs:List (W ⊕ Nat)}{vs:List V} (h:ArgR K F σ x v) (r:ArgRs K F σ xs vs):ArgRs K F σ (x::xs) (v::vs)
noncomputable def resA (en:En):W ⊕ Nat->Option W
  | .inl w=>some w
  | .inr i=>match en[i]? with
    | some (some (w,_))=>some w
    | _=>none
section
variable {K:PySem.W.Frag}{F F' H:Hp}{pr:Prt}{en:En}{σ:St}
theorem ArgR.mono (s:Same F F'){x:W ⊕ Nat}{v:V}(h:ArgR K F σ x v):ArgR K F' σ x v:=by
 cases x with
 | inl w=>exact Rep.mono s h
 | inr i=>exact h
theorem ArgR.repB (R:Rel K F pr en σ H) {x:W ⊕ Nat}{v:V}{w:W} (h:ArgR K F σ x v) (e:resA en x=some w):RepB K F H w v:=by
  cases x with
  | inl u=>obtain rfl:=sI e;exact .inl h
  | inr i =>
    unfold resA at e;cases q:en[i]? with
    | none=>simp only [q] at e;exact noSome e
    | some o =>
      cases o with
      | none=>simp only [q] at e;exact noSome e
      | some p =>
        obtain⟨u,fl⟩:=p;simp only [q] at e;obtain rfl:=sI e;exact R.repB q h
end
noncomputable def tE (K:PySem.W.Frag) (g:GE):TE:=fun σ H Q=>∃F pr en en' r,Rel K F pr en σ H/\g en=some (en',r)/\∀F' H' v,Same F F'->Rel K F' pr en' σ H'->Res K F' H' pr en' σ r v->Q v H'
noncomputable def tA (K:PySem.W.Frag) (g:GA):TE:=fun σ H Q=>∃F pr en en' x,Rel K F pr en σ H/\g en=some (en',x)/\∀F' H' v,Same F F'->Rel K F' pr en' σ H'->ArgR K F' σ x v->Q v H'
noncomputable def tT (K:PySem.W.Frag) (g:GT):TT:=fun σ H Q=>∃F pr en en' b,Rel K F pr en σ H/\g en=some (en',b)/\∀F' H',Same F F'->Rel K F' pr en' σ H'->Q b H'
noncomputable def tAs (K:PySem.W.Frag) (g:GAs):TA:=fun σ H Q=>∃F pr en en' xs,Rel K F pr en σ H/\g en=some (en',xs)/\∀F' H' vs,Same F F'->Rel K F' pr en' σ H'->ArgRs K F' σ xs vs->Q vs H'
theorem PE.wk {X:Cx}{e:Expr}{t t' : TE}(h:PE X e t)(i:∀σ H Q,t' σ H Q->t σ H Q):PE X e t':=fun pins s σ H Q I q=>h pins s σ H Q I (i σ H Q q)
theorem PT.wk {X:Cx}{e:Expr}{t t' : TT}(h:PT X e t)(i:∀σ H Q,t' σ H Q->t σ H Q):PT X e t':=fun pins s σ H Q I q=>h pins s σ H Q I (i σ H Q q)
theorem PW.wk {X:Cx}{e:Expr}{t t' : TT}(h:PW X e t)(i:∀σ H Q,t' σ H Q->t σ H Q):PW X e t':=fun wh pins s σ H Q I q=>h wh pins s σ H Q I (i σ H Q q)
theorem PA.wk {X:Cx}{es:List Expr}{t t' : TA}(h:PA X es t)(i:∀σ H Q,t' σ H Q->t σ H Q):PA X es t':=fun pos pins s σ H Q I q=>h pos pins s σ H Q I (i σ H Q q)
theorem PS.wk {X:Cx}{st:Stmt}{t t' : TS}(h:PS X st t)(i:∀D σ H,t' D σ H->t D σ H):PS X st t':=fun pins s σ H D I q=>h pins s σ H D I (i D σ H q)
theorem PSs.wk {X:Cx}{st:List Stmt}{t t' : TS}(h:PSs X st t)(i:∀D σ H,t' D σ H->t D σ H):PSs X st t':=fun pins s σ H D I q=>h pins s σ H D I (i D σ H q)
theorem PI.wk {X:Cx}{tg e:Expr}{t t' : TI}(h:PI X tg e t)(i:∀σ H R,t' σ H R->t σ H R):PI X tg e t':=fun pins s σ H R I q=>h pins s σ H R I (i σ H R q)
noncomputable def gVar (i:Nat):GE:=fun en=>match en[i]? with
 | some (some (w,_))=>some (en.set i (#v[w,6]),(w,false))
 | _=>none
noncomputable def zaa (i:Nat):GA:=fun en=>match en[i]? with
 | some (#v[w,5])=>some (en,.inr i)
 | some (#v[w,6])=>some (en,.inl w)
 | _=>none
noncomputable def gC (w:W):GE:=fun en=>some (en,(w,false))
noncomputable def gArg (g:GE):GA:=fun en=>(g en).bind fun p=>some (p.1,.inl p.2.1)
noncomputable def gA0:GAs:=fun en=>some (en,[])
noncomputable def gCns (a:GA) (as:GAs):GAs:=fun en=>(a en).bind fun p=>(as p.1).bind fun q=>some (q.1,p.2::q.2)
noncomputable def gOp1 (o:W->Option (W × Bool)) (a:GA):GE:=fun en=>(a en).bind fun p=>(resA p.1 p.2).bind fun w=>(o w).bind fun r=>some (p.1,r)
noncomputable def gOp2 (o:W->W->Option (W × Bool)) (a b:GA):GE:=fun en=>(a en).bind fun p=>(b p.1).bind fun q=>(resA q.1 p.2).bind fun w=>(resA q.1 q.2).bind fun u=>(o w u).bind fun r=>some (q.1,r)
noncomputable def za3 (en:En):List (W ⊕ Nat)->Option (List W)
 | []=>some []
 | x::xs=>(resA en x).bind fun w=>(za3 en xs).bind fun ws=>some (w::ws)
noncomputable def gOpN (o:List W->Option (W × Bool)) (as:GAs):GE:=fun en=>(as en).bind fun p=>(za3 p.1 p.2).bind fun ws=>(o ws).bind fun r=>some (p.1,r)
noncomputable def zan (g:GE):GT:=fun en=>match g en with
 | some (en',(.bl b,_))=>some (en',b)
 | _=>none
noncomputable def gAnd (a b:GE):GE:=fun en=>match a en with
 | some (en',(.bl true,_))=>b en'
 | some (en',(.bl false,_))=>some (en',(.bl false,false))
 | _=>none
noncomputable def gOr (a b:GE):GE:=fun en=>match a en with
 | some (en',(.bl true,_))=>some (en',(.bl true,false))
 | some (en',(.bl false,_))=>b en'
 | _=>none
noncomputable def gNot (a:GE):GE:=fun en=>match a en with
 | some (en',(.bl b,_))=>some (en',(.bl (!b),false))
 | _=>none
noncomputable def zg5 (a b:GT):GT:=fun en=>match a en with
 | #v[en',5]=>b en'
 | #v[en',6]=>#v[en',6]
 | none=>none
noncomputable def gOrT (a b:GT):GT:=fun en=>match a en with
 | #v[en',5]=>#v[en',5]
 | #v[en',6]=>b en'
 | none=>none
noncomputable def zrs (a:GT):GT:=fun en=>match a en with
 | some (en',b)=>some (en',!b)
 | none=>none
noncomputable def gIf (c:GT) (a b:GE):GE:=fun en=>match c en with
 | #v[en',5]=>a en'
 | #v[en',6]=>b en'
 | none=>none
section
variable {K:PySem.W.Frag}{σ:St}{H:Hp}
theorem zoz {i:Nat}{Q:VK} (h:tE K (gVar i) σ H Q):tVar i σ H Q:=by
  obtain⟨F,pr,en,en',r,R,h,q⟩:=h;unfold gVar at h;cases e:en[i]? with
  | none=>simp only [e] at h;exact noSome h
  | some o =>
    cases o with
    | none=>simp only [e] at h;exact noSome h
    | some p =>
      obtain⟨w,fl⟩:=p;simp only [e] at h;cases h;obtain⟨v,hv⟩:=R.has e;obtain⟨F',s,R',z⟩:=R.freeze e hv;exact⟨v,hv,q F' H v s R' z⟩
theorem zve {i:Nat}{Q:VK} (h:tA K (zaa i) σ H Q):tVar i σ H Q:=by
  obtain⟨F,pr,en,en',r,R,h,q⟩:=h;unfold zaa at h;cases e:en[i]? with
  | none=>simp only [e] at h;exact noSome h
  | some o =>
    cases o with
    | none=>simp only [e] at h;exact noSome h
    | some p =>
      obtain⟨w,fl⟩:=p;cases fl with
      | true =>
        simp only [e] at h;cases h;obtain⟨v,hv⟩:=R.has e;exact⟨v,hv,q F H v (.refl F) R hv⟩
      | false =>
        simp only [e] at h;cases h;obtain⟨v,hv,z⟩:=R.val i w e;exact⟨v,hv,q F H v (.refl F) R z⟩
theorem zd7 {w:W}{v:V}{Q:VK}(hr:∀F,Rep K F w v)(h:tE K (gC w) σ H Q):tC v σ H Q:=by
 obtain⟨F,pr,en,en',r,R,h,q⟩:=h;cases h;exact q F H v (.refl F) R (hr F)
theorem zji {g:GE}{Q:VK}(h:tA K (gArg g) σ H Q):tE K g σ H Q:=by
 obtain⟨F,pr,en,en',x,R,h,q⟩:=h;obtain⟨⟨e1,r⟩,h1,h⟩:=bS h;cases h;refine⟨F,pr,en,e1,r,R,h1,fun F1 H1 v s1 R1 z=>?_⟩;obtain⟨F2,s2,R2,y⟩:=z.freeze R1;exact q F2 H1 v (s1.trans s2) R2 y
theorem zo3 {Q:List V->Hp->Prop}(h:tAs K gA0 σ H Q):tNil σ H Q:=by
 obtain⟨F,pr,en,en',x,R,h,q⟩:=h;cases h;exact q F H [] (.refl F) R .nil
theorem zpj {a:GA}{as:GAs}{Q:List V->Hp->Prop}(h:tAs K (gCns a as) σ H Q):tA K a σ H fun x H1=>tAs K as σ H1 fun xs H2=>Q (x::xs) H2:=by
 nofun;obtain⟨F,pr,en,en',x,R,h,q⟩:=h;obtain⟨⟨e1,y⟩,h1,h⟩:=bS h;obtain⟨⟨e2,ys⟩,h2,h⟩:=bS h;ac_rfl;cases h;exact⟨F,pr,en,e1,y,R,h1,fun F1 H1 v s1 R1 a1=>⟨F1,pr,e1,e2,ys,R1,h2,fun F2 H2 vs s2 R2 a2=>q F2 H2 (v::vs) (s1.trans s2) R2 (.cons (a1.mono s2) a2)⟩⟩
noncomputable def OpS (K:PySem.W.Frag) (r:R2) (o:W->W->Option (W × Bool)):Prop:=∀F H w1 w2 v1 v2 rv Q,Same F H->RepB K F H w1 v1->RepB K F H w2 v2->o w1 w2=some rv->(∀v H',Out K F H rv v H'->Q v H')->r v1 v2 H Q
theorem zdz {r:R2}{o:W->W->Option (W × Bool)}{a b:GA}{Q:VK}(ho:OpS K r o)(h:tE K (gOp2 o a b) σ H Q):tOp r (tA K a) (tA K b) σ H Q:=by
 nofun;obtain⟨F,pr,en,en',rv,R,h,q⟩:=h;obtain⟨⟨e1,x1⟩,h1,h⟩:=bS h;obtain⟨⟨e2,x2⟩,h2,h⟩:=bS h;obtain⟨w1,hw1,h⟩:=bS h;obtain⟨w2,hw2,h⟩:=bS h;obtain⟨r',hr,h⟩:=bS h;ac_rfl;cases h;refine⟨F,pr,en,e1,x1,R,h1,fun F1 H1 v1 s1 R1 a1=>⟨F1,pr,e1,e2,x2,R1,h2,fun F2 H2 v2 s2 R2 a2=>?_⟩⟩;refine ho F2 H2 w1 w2 v1 v2 rv Q R2.sub ((a1.mono s2).repB R2 hw1) (a2.repB R2 hw2) hr fun v H' z=>?_;nofun;obtain⟨F3,s3,R3,y⟩:=z.close R2;ac_rfl;exact q F3 H' v (s1.trans (s2.trans s3)) R3 y
noncomputable def OpS1 (K:PySem.W.Frag) (r:V->Hp->VK->Prop) (o:W->Option (W × Bool)):Prop:=∀F H w v rv Q,Same F H->RepB K F H w v->o w=some rv->(∀u H',Out K F H rv u H'->Q u H')->r v H Q
theorem zx8 {r:V->Hp->VK->Prop}{o:W->Option (W × Bool)}{a:GA}{Q:VK}(ho:OpS1 K r o)(h:tE K (gOp1 o a) σ H Q):tUn r (tA K a) σ H Q:=by
 nofun;obtain⟨F,pr,en,en',rv,R,h,q⟩:=h;obtain⟨⟨e1,x1⟩,h1,h⟩:=bS h;obtain⟨w1,hw1,h⟩:=bS h;obtain⟨r',hr,h⟩:=bS h;ac_rfl;cases h;refine⟨F,pr,en,e1,x1,R,h1,fun F1 H1 v1 s1 R1 a1=>?_⟩;refine ho F1 H1 w1 v1 rv Q R1.sub (a1.repB R1 hw1) hr fun v H' z=>?_;nofun;obtain⟨F3,s3,R3,y⟩:=z.close R1;ac_rfl;exact q F3 H' v (s1.trans s3) R3 y
inductive RepBs (K:PySem.W.Frag) (F H:Hp):List W->List V->Prop where
 | nil:RepBs K F H [] []
 | cons {w:W}{v:V}{ws:List W}{vs:List V} (h:RepB K F H w v) (r:RepBs K F H ws vs):RepBs K F H (w::ws) (v::vs)
theorem ArgRs.repBs {F:Hp}{pr:Prt}{en:En} (R:Rel K F pr en σ H):∀{xs:List (W ⊕ Nat)}{vs:List V}{ws:List W},ArgRs K F σ xs vs->za3 en xs=some ws->RepBs K F H ws vs
  | _,_,_,.nil,e=>by obtain rfl:=sI e;exact .nil
  | _,_,_,.cons h r,e=>by
    obtain⟨w,hw,e⟩:=bS e;obtain⟨ws,hws,e⟩:=bS e;obtain rfl:=sI e;exact .cons (h.repB R hw) (ArgRs.repBs R r hws)
noncomputable def OpSN (K:PySem.W.Frag) (r:List V->Hp->VK->Prop) (o:List W->Option (W × Bool)):Prop:=∀F H ws vs rv Q,Same F H->RepBs K F H ws vs->o ws=some rv->(∀u H',Out K F H rv u H'->Q u H')->r vs H Q
theorem zjq {r:List V->Hp->VK->Prop}{o:List W->Option (W × Bool)}{as:GAs}{Q:VK}(ho:OpSN K r o)(h:tE K (gOpN o as) σ H Q):tCB r (tAs K as) σ H Q:=by
 nofun;obtain⟨F,pr,en,en',rv,R,h,q⟩:=h;obtain⟨⟨e1,x1⟩,h1,h⟩:=bS h;obtain⟨w1,hw1,h⟩:=bS h;obtain⟨r',hr,h⟩:=bS h;ac_rfl;cases h;refine⟨F,pr,en,e1,x1,R,h1,fun F1 H1 v1 s1 R1 a1=>?_⟩;refine ho F1 H1 w1 v1 rv Q R1.sub (a1.repBs R1 hw1) hr fun v H' z=>?_;nofun;obtain⟨F3,s3,R3,y⟩:=z.close R1;ac_rfl;exact q F3 H' v (s1.trans s3) R3 y
theorem Res.isBl {F H:Hp}{pr:Prt}{en:En}{σ:St}{b fl:Bool}{v:V}(h:Res K F H pr en σ (.bl b,fl) v):v=.bl b:=by
 cases fl with
 | false=>cases (show Rep K F (.bl b) v from h);rfl
 | true=>obtain⟨_,_,_,e,_,_,_,q,_⟩:=h;subst e;cases q
theorem zgo {g:GE}{t:TE}{Q:Bool->Hp->Prop} (ht:∀σ H Q,tE K g σ H Q->t σ H Q) (h:tT K (zan g) σ H Q):z64 t σ H Q:=by
  obtain⟨F,pr,en,en',b,R,h,q⟩:=h;unfold zan at h;refine ht σ H _ ?_;cases e:g en with
  | none=>simp only [e] at h;exact noSome h
  | some p =>
    obtain⟨e1,w,fl⟩:=p;cases w with
    | bl c=>simp only [e] at h;cases h;exact⟨F,pr,en,_,_,R,e,fun F' H' v s' R' z=>⟨b,z.isBl,q F' H' s' R'⟩⟩
    | _=>simp only [e] at h;exact noSome h
theorem zut {a b:GT}{Q:Bool->Hp->Prop} (h:tT K (zg5 a b) σ H Q):tAnd (tT K a) (tT K b) σ H Q:=by
  nofun;obtain⟨F,pr,en,en',r,R,h,q⟩:=h;ac_rfl;unfold zg5 at h;cases e:a en with
  | none=>simp only [e] at h;exact noSome h
  | some p =>
    obtain⟨e1,c⟩:=p;refine⟨F,pr,en,_,_,R,e,fun F1 H1 s1 R1=>?_⟩;cases c with
    | true=>simp only [e] at h;exact iteT ⟨F1,pr,e1,en',r,R1,h,fun F2 H2 s2 R2=>q F2 H2 (s1.trans s2) R2⟩
    | false=>simp only [e] at h;cases h;exact iteF (q F1 H1 s1 R1)
theorem zud {a:GT}{Q:Bool->Hp->Prop} (h:tT K (zrs a) σ H Q):tNot (tT K a) σ H Q:=by
  obtain⟨F,pr,en,en',r,R,h,q⟩:=h;unfold zrs at h;cases e:a en with
  | none=>simp only [e] at h;exact noSome h
  | some p =>
    obtain⟨e1,c⟩:=p;simp only [e] at h;cases h;exact⟨F,pr,en,_,_,R,e,fun F1 H1 s1 R1=>q F1 H1 s1 R1⟩
theorem z0h {c:GT}{a b:GE}{Q:VK} (h:tE K (gIf c a b) σ H Q):tIf (tT K c) (tE K a) (tE K b) σ H Q:=by
  nofun;obtain⟨F,pr,en,en',r,R,h,q⟩:=h;ac_rfl;unfold gIf at h;cases e:c en with
  | none=>simp only [e] at h;exact noSome h
  | some p =>
    obtain⟨e1,d⟩:=p;refine⟨F,pr,en,_,_,R,e,fun F1 H1 s1 R1=>?_⟩;cases d with
    | true=>simp only [e] at h;exact iteT ⟨F1,pr,e1,en',r,R1,h,fun F2 H2 v s2 R2 z=>q F2 H2 v (s1.trans s2) R2 z⟩
    | false=>simp only [e] at h;exact iteF ⟨F1,pr,e1,en',r,R1,h,fun F2 H2 v s2 R2 z=>q F2 H2 v (s1.trans s2) R2 z⟩
end
noncomputable def zbn:List (W ⊕ Nat)->Option (List W)
 | []=>some []
 | .inl w::xs=>(zbn xs).bind fun ws=>some (w::ws)
 | .inr _::_=>none
theorem ArgRs.reps {K:PySem.W.Frag}{F:Hp}{σ:St}:∀{xs:List (W ⊕ Nat)}{vs:List V}{ws:List W},ArgRs K F σ xs vs->zbn xs=some ws->Reps K F ws vs
  | _,_,_,.nil,e=>by obtain rfl:=sI e;exact .nil
  | .inl w::xs,_,_,.cons h r,e=>by
    obtain⟨ws,hws,e⟩:=bS (show (zbn xs).bind _=_ from e);obtain rfl:=sI e;exact .cons h (ArgRs.reps r hws)
  | .inr i::xs,_,_,.cons h r,e=>by exact noSome e
noncomputable def zjz (as:GAs):GE:=fun en=>(as en).bind fun p=>(zbn p.2).bind fun ws=>if ws.length<=sizeLine then some (p.1,(.tup ws,false)) else none
noncomputable def zap (as:GAs):GE:=fun en=>(as en).bind fun p=>(zbn p.2).bind fun ws=>if ws.length<=sizeLine then some (p.1,(.lst ws,true)) else none
section
variable {K:PySem.W.Frag}{σ:St}{H:Hp}
theorem zw8 {as:GAs}{Q:VK}(h:tE K (zjz as) σ H Q):tTup (tAs K as) σ H Q:=by
 obtain⟨F,pr,en,en',r,R,h,q⟩:=h;obtain⟨⟨e1,xs⟩,h1,h⟩:=bS h;obtain⟨ws,h2,h⟩:=bS h;split at h
 ·rename_i hz;cases h;refine⟨F,pr,en,e1,xs,R,h1,fun F1 H1 vs s1 R1 a1=>?_⟩;have rr:=a1.reps h2;refine⟨by rw[<-rr.length];exact hz,fun p hp=>?_⟩;obtain⟨F2,s2,R2,z⟩:=(Out.tup (K:=K) hp rr).close R1;exact q F2 _ _ (s1.trans s2) R2 z
 ·exact noSome h
theorem zwz {as:GAs}{Q:VK}(h:tE K (zap as) σ H Q):tLst (tAs K as) σ H Q:=by
 nofun;obtain⟨F,pr,en,en',r,R,h,q⟩:=h;obtain⟨⟨e1,xs⟩,h1,h⟩:=bS h;obtain⟨ws,h2,h⟩:=bS h;ac_rfl;split at h
 ·rename_i hz;cases h;refine⟨F,pr,en,e1,xs,R,h1,fun F1 H1 vs s1 R1 a1=>?_⟩;have rr:=a1.reps h2;refine⟨by rw[<-rr.length];exact hz,fun p hp=>?_⟩;nofun;obtain⟨F2,s2,R2,z⟩:=(Out.lst (K:=K) hp rr).close R1;ac_rfl;exact q F2 _ _ (s1.trans s2) R2 z
 ·exact noSome h
noncomputable def z72 (o o' : W->W->Option (W × Bool)) (a b c:GA):GE:=fun en=>(a en).bind fun p=>(b p.1).bind fun q=>(resA q.1 p.2).bind fun w=>(resA q.1 q.2).bind fun u=>match o w u with
 | some (.bl true,false)=>(c q.1).bind fun t=>(resA t.1 q.2).bind fun u'=>(resA t.1 t.2).bind fun z=>(o' u' z).bind fun r=>some (t.1,r)
 | some (.bl false,false)=>some (q.1,(.bl false,false))
 | _=>none
end
section
variable {K:PySem.W.Frag}{F H:Hp}{v:V}
theorem RepB.int {i:Int}(h:RepB K F H (.int i) v):v=.int i:=by
 rcases h with h | ⟨_,_,_,e,_,_,q⟩
 ·cases h;rfl
 ·subst e;cases q
theorem RepB.bl {b:Bool}(h:RepB K F H (.bl b) v):v=.bl b:=by
 rcases h with h | ⟨_,_,_,e,_,_,q⟩
 ·cases h;rfl
 ·subst e;cases q
theorem RepB.str {x:Str}(h:RepB K F H (.str x) v):v=.str x:=by
 rcases h with h | ⟨_,_,_,e,_,_,q⟩
 ·cases h;rfl
 ·subst e;cases q
theorem RepB.non (h:RepB K F H .non v):v=.non:=by
 rcases h with h | ⟨_,_,_,e,_,_,q⟩
 ·cases h;rfl
 ·subst e;cases q
theorem RepB.lst {ws:List W}(s:Same F H)(h:RepB K F H (.lst ws) v):∃a vs,v=.ref a/\H a=some (.lst vs)/\Reps K F ws vs:=by
 rcases h with h | ⟨a,o,ws',e,e2,h,r⟩
 ·cases h with
  | lst h r=>exact⟨_,_,rfl,s _ _ h,r⟩
 ·subst e;obtain⟨vs,rfl,r'⟩:=r.list;exact⟨a,vs,e2,h,r'⟩
theorem RepB.tup {ws:List W}(s:Same F H)(h:RepB K F H (.tup ws) v):∃a vs,v=.ref a/\H a=some (.tup vs)/\F a=some (.tup vs)/\Reps K F ws vs:=by
 rcases h with h | ⟨_,_,_,e,_,_,q⟩
 ·cases h with
  | tup h r=>exact⟨_,_,rfl,s _ _ h,h,r⟩
 ·subst e;cases q
theorem RepB.frl {ws:List W}(s:Same F H)(h:RepB K F H (.frl ws) v):∃a vs,v=.ref a/\SqL K H a vs/\Reps K F ws vs:=by
 rcases h with h | ⟨_,_,_,e,_,_,q⟩
 ·cases h with
  | frl h r=>exact⟨_,_,rfl,s.seq h,r⟩
 ·subst e;cases q
noncomputable def seqL:W->Option (List W)
 | .lst ws=>some ws
 | .frl ws=>some ws
 | _=>none
noncomputable def seqW:W->Option (List W)
 | .lst ws=>some ws
 | .frl ws=>some ws
 | .tup ws=>some ws
 | _=>none
theorem RepB.seqL {w:W}{ws:List W}(s:Same F H)(h:RepB K F H w v)(e:L2.seqL w=some ws):∃a vs,v=.ref a/\SqL K H a vs/\Reps K F ws vs:=by
 cases w with
 | lst xs=>obtain rfl:=sI e;obtain⟨a,vs,e,h,r⟩:=h.lst s;exact⟨a,vs,e,SqL.of' h,r⟩
 | frl xs=>obtain rfl:=sI e;exact h.frl s
 | _=>exact noSome e
theorem RepB.seqW {w:W}{ws:List W}(s:Same F H)(h:RepB K F H w v)(e:L2.seqW w=some ws):∃a vs,v=.ref a/\(SqL K H a vs\/SqT K H a vs)/\Reps K F ws vs:=by
 cases w with
 | lst xs=>obtain rfl:=sI e;obtain⟨a,vs,e,h,r⟩:=h.lst s;exact⟨a,vs,e,.inl (SqL.of' h),r⟩
 | frl xs=>obtain rfl:=sI e;obtain⟨a,vs,e,h,r⟩:=h.frl s;exact⟨a,vs,e,.inl h,r⟩
 | tup xs=>obtain rfl:=sI e;obtain⟨a,vs,e,h,_,r⟩:=h.tup s;exact⟨a,vs,e,.inr (.inl (.inl h)),r⟩
 | _=>exact noSome e
end
noncomputable abbrev O2:=W->W->Option (W × Bool)
noncomputable def oI (c:Int->Int->Bool) (g:Int->Int->W):O2
 | .int i,.int j=>if c i j then #v[g i j,6] else none
 | _,_=>none
section
variable {K:PySem.W.Frag}
theorem zlk {c:Int->Int->Bool}{C:Int->Int->Prop}{g:Int->Int->W}{g' : Int->Int->V} (hc:∀i j,c i j=true->C i j) (hg:∀F i j,Rep K F (g i j) (g' i j)):OpS K (rI C g') (oI c g):=fun F H w1 w2 v1 v2 rv Q s r1 r2 e q=>by
  cases w1 with
  | int i =>
    cases w2 with
    | int j =>
      unfold oI at e;simp only at e;split at e
      · rename_i z
        obtain rfl:=sI e;exact⟨i,j,r1.int,r2.int,hc i j z,q _ _ (.val (hg F i j))⟩
      · exact noSome e
    | _=>exact noSome e
  | _=>exact noSome e
theorem zb6 {g:Int->Int->W}{g' : Int->Int->V} (hg:∀F i j,Rep K F (g i j) (g' i j)):OpS K (rI0 g') (oI (fun _ _=>true) g):=fun F H w1 w2 v1 v2 rv Q s r1 r2 e q=>by
  cases w1 with
  | int i =>
    cases w2 with
    | int j=>obtain rfl:=sI e;exact⟨i,j,r1.int,r2.int,q _ _ (.val (hg F i j))⟩
    | _=>exact noSome e
  | _=>exact noSome e
theorem OpS.or {r r' : R2}{o o' : O2}(h:OpS K r o)(h' : OpS K r' o'):OpS K (fun x y H Q=>r x y H Q\/r' x y H Q) (fun a b=>match o a b with | some p=>some p | none=>o' a b):=fun F H w1 w2 v1 v2 rv Q s r1 r2 e q=>by
 cases z:o w1 w2 with
 | some p=>simp only [z] at e;obtain rfl:=sI e;exact .inl (h F H w1 w2 v1 v2 _ Q s r1 r2 z q)
 | none=>simp only [z] at e;exact .inr (h' F H w1 w2 v1 v2 _ Q s r1 r2 e q)
end
noncomputable def oOr (o o' : O2):O2:=fun a b=>match o a b with | some p=>some p | none=>o' a b
noncomputable def oCat:O2
 | .lst xs,.lst ys=>if xs.length+ys.length<=sizeLine then #v[(xs++ys),2] else none
 | _,_=>none
noncomputable def zxz:O2
 | .tup (x::xs),.tup ys=>if (x::xs).length+ys.length<=sizeLine then #v[(x::xs++ys),3] else none
 | _,_=>none
noncomputable def z27:O2
 | .tup [],.tup ys=>#v[ys,3]
 | _,_=>none
noncomputable def zwm:O2
 | .str x,.str y=>if x.length+y.length<=sizeLine then some (.str (x++y),false) else none
 | _,_=>none
noncomputable def oRep:O2
 | .lst xs,.int k=>if -(2 ^ 63)<=k/\k < 2 ^ 63/\xs.length * k.toNat<=sizeLine then #v[(List.replicate k.toNat xs).flatten,2] else none
 | _,_=>none
section
variable {K:PySem.W.Frag}
theorem z2j:OpS K rCat oCat:=fun F H w1 w2 v1 v2 rv Q s r1 r2 e q=>by
  cases w1 with
  | lst xs =>
    cases w2 with
    | lst ys =>
      unfold oCat at e;simp only at e;split at e
      · rename_i z
        obtain rfl:=sI e;nofun;obtain⟨a,vs,e1,h1,p1⟩:=r1.lst s;obtain⟨b,us,e2,h2,p2⟩:=r2.lst s;ac_rfl;exact⟨a,b,vs,us,e1,e2,h1,h2,by rw[<-p1.length,<-p2.length];exact z,fun p hp=>q _ _ (.lst hp (p1.append p2))⟩
      · exact noSome e
    | _=>exact noSome e
  | _=>exact noSome e
theorem z01:OpS K rRep oRep:=fun F H w1 w2 v1 v2 rv Q s r1 r2 e q=>by
  cases w1 with
  | lst xs =>
    cases w2 with
    | int k =>
      unfold oRep at e;simp only at e;split at e
      · rename_i z
        obtain rfl:=sI e;obtain⟨a,vs,e1,h1,p1⟩:=r1.lst s;exact⟨a,k,vs,e1,r2.int,h1,z.1,z.2.1,by rw[<-p1.length];exact z.2.2,fun p hp=>q _ _ (.lst hp (p1.rep _))⟩
      · exact noSome e
    | _=>exact noSome e
  | _=>exact noSome e
theorem zx0:OpS K (z67 K) zxz:=fun F H w1 w2 v1 v2 rv Q s r1 r2 e q=>by
  cases w1 with
  | tup xs =>
    cases xs with
    | nil=>cases w2<;>exact noSome e
    | cons x xs =>
      cases w2 with
      | tup ys =>
        unfold zxz at e;simp only at e;split at e
        · rename_i z
          obtain rfl:=sI e;nofun;obtain⟨a,vs,e1,h1,f1,p1⟩:=r1.tup s;obtain⟨b,us,e2,h2,f2,p2⟩:=r2.tup s;ac_rfl;refine⟨a,b,vs,us,e1,e2,.inl (.inl h1),.inl (.inl h2),?_,by rw[<-p1.length,<-p2.length];exact z,fun hu=>?_,fun _ p hp=>q _ _ (.tup hp (p1.append p2))⟩
          · intro e;subst e;cases p1
          · subst hu
            cases p2;rw[Br] at q;exact q _ _ (.val (.tup f1 p1))
        · exact noSome e
      | _=>exact noSome e
  | _=>exact noSome e
mutual
inductive DV (H:Hp):V->PyData->Prop where
 | non:DV H .non .none
 | bl (b:Bool):DV H (.bl b) (.bool b)
 | int (i:Int):DV H (.int i) (.int i)
 | str (x:Str):DV H (.str x) (.str x)
 | tup {a:Addr}{vs:List V}{ds:List PyData} (h:H a=some (.tup vs)) (r:DVs H vs ds):DV H (.ref a) (.tuple ds)
 | lst {a:Addr}{vs:List V}{ds:List PyData} (h:H a=some (.lst vs)) (r:DVs H vs ds):DV H (.ref a) (.list ds)
inductive DVs (H:Hp):List V->List PyData->Prop where
 | nil:DVs H [] []
 | cons {v:V}{d:PyData}{vs:List V}{ds:List PyData} (h:DV H v d) (r:DVs H vs ds):DVs H (v::vs) (d::ds)
end
section
variable {X:Cx}{pins:List (Addr × Obj)}{σ:St}{H:Hp}{s:Shared}
mutual
theorem DV.reads (I:Inv X pins σ H s):∀{v:V}{d:PyData}{u:Value},DV H v d->RelV v u->∃as,Reads s.heap u d as
  | _,_,_,.non,r=>by cases (show _=Value.none from r);exact⟨_,.none⟩
  | _,_,_,.bl b,r=>by cases (show _=Value.bool b from r);exact⟨_,.bool b⟩
  | _,_,_,.int i,r=>by obtain⟨t,e⟩:=(show ∃t,_=Value.int i t from r);subst e;exact⟨_,.int i t⟩
  | _,_,_,.str x,r=>by obtain⟨t,e⟩:=(show ∃t,_=Value.str x t from r);subst e;exact⟨_,.str x t⟩
  | _,_,_,.tup h q,r=>by
    cases r;obtain⟨its,rv,⟨o,e,c,n,dt⟩,_⟩:=I.tuple (.inl (.inl h));obtain⟨as,ra⟩:=DVs.reads I q rv;exact⟨as,.tuple e c dt (by simpa using ra)⟩
  | _,_,_,.lst h q,r=>by
    cases r;obtain⟨its,rv,⟨o,n,e,c,_,dt⟩,_⟩:=I.list (SqL.of' h);obtain⟨as,ra⟩:=DVs.reads I q rv;exact⟨_,.list e c dt (by simpa using ra)⟩
theorem DVs.reads (I:Inv X pins σ H s):∀{vs:List V}{ds:List PyData}{us:List Value},DVs H vs ds->Vals vs us->∃as,ReadsAll s.heap us ds as
  | _,_,_,.nil,r=>by cases r;exact⟨_,.nil⟩
  | _,_,_,.cons h q,r=>by
    cases r with
    | cons r1 r2 =>
      obtain⟨as,a⟩:=DV.reads I h r1;obtain⟨bs,b⟩:=DVs.reads I q r2;exact⟨_,.cons a b⟩
end
end
mutual
noncomputable def dW:W->Option PyData
 | .non=>some .none
 | .bl b=>some (.bool b)
 | .int i=>some (.int i)
 | .str x=>some (.str x)
 | .tup ws=>(dWs ws).bind fun ds=>some (.tuple ds)
 | .lst ws=>(dWs ws).bind fun ds=>some (.list ds)
 | _=>none
noncomputable def dWs:List W->Option (List PyData)
 | []=>some []
 | w::ws=>(dW w).bind fun d=>(dWs ws).bind fun ds=>some (d::ds)
end
section
variable {K:PySem.W.Frag}{F H:Hp}
mutual
theorem rep_dv (s:Same F H):∀{w:W}{v:V}{d:PyData},Rep K F w v->dW w=some d->DV H v d
  | _,_,_,.non,e=>by obtain rfl:=sI e;exact .non
  | _,_,_,.bl b,e=>by obtain rfl:=sI e;exact .bl b
  | _,_,_,.int i,e=>by obtain rfl:=sI e;exact .int i
  | _,_,_,.str x,e=>by obtain rfl:=sI e;exact .str x
  | _,_,_,.tup h r,e=>by
    rw[dW] at e;obtain⟨ds,e1,e2⟩:=bS e;obtain rfl:=sI e2;exact .tup (s _ _ h) (zgg s r e1)
  | _,_,_,.lst h r,e=>by
    rw[dW] at e;obtain⟨ds,e1,e2⟩:=bS e;obtain rfl:=sI e2;exact .lst (s _ _ h) (zgg s r e1)
  | _,_,_,.frl _ _,e=>by exact noSome e
  | _,_,_,.dic _,e=>by exact noSome e
  | _,_,_,.dct _ _ _,e=>by exact noSome e
  | _,_,_,.dctT _ _ _,e=>by exact noSome e
  | _,_,_,.dcz _ _ _,e=>by exact noSome e
  | _,_,_,.dczT _ _ _,e=>by exact noSome e
theorem zgg (s:Same F H):∀{ws:List W}{vs:List V}{ds:List PyData},Reps K F ws vs->dWs ws=some ds->DVs H vs ds
  | _,_,_,.nil,e=>by cases e;exact .nil
  | _,_,_,.cons h r,e=>by
    rw[dWs] at e;obtain⟨d,e1,e⟩:=bS e;obtain⟨ds,e2,e3⟩:=bS e;cases e3;exact .cons (rep_dv s h e1) (zgg s r e2)
end
theorem zwc {w:W}{v:V}{d:PyData} (s:Same F H) (r:RepB K F H w v) (hd:dW w=some d):DV H v d:=by
  rcases r with r | ⟨a,o,us,z,rfl,h,q⟩
  · exact rep_dv s r hd
  · subst z
    cases q with
    | dct hl q=>exact noSome hd
    | dctT hl q=>exact noSome hd
    | lst q =>
      rw[dW] at hd;obtain⟨ds,e1,e2⟩:=bS hd;obtain rfl:=sI e2;exact .lst h (zgg s q e1)
end
noncomputable def rEqD (g:Bool->Bool):R2:=fun x y H Q=>∃d d',DV H x d/\DV H y d'/\d.canLay0=true/\d'.canLay0=true/\d.depth<=100/\Q (.bl (g (PyData.eqv d d'))) H
theorem z55 {X:Cx}{k:Nat}(hr:Room k X.A):OpR X (compareOp .Eq) (rEqD id):=by
 intro pins s σ H x y v u Q I rx ry h;nofun;obtain⟨d,d',d1,d2,h1,h2,h3,q⟩:=h;obtain⟨as,ra⟩:=d1.reads I rx;obtain⟨bs,rb⟩:=d2.reads I ry;ac_rfl;exact SeqAt.compareEq_reads ra rb h1 h2 (by have:=hr.un;omega) ⟨.bl _,H,I,rfl,q⟩
theorem z61 {X:Cx}{k:Nat}(hr:Room k X.A):OpR X (compareOp .NotEq) (rEqD not):=by
 intro pins s σ H x y v u Q I rx ry h;nofun;obtain⟨d,d',d1,d2,h1,h2,h3,q⟩:=h;obtain⟨as,ra⟩:=d1.reads I rx;obtain⟨bs,rb⟩:=d2.reads I ry;ac_rfl;exact SeqAt.neOverData X.prog X.w X.A X.xe s v u d d' as bs _ ra rb h1 h2 (by have:=hr.un;omega) ⟨.bl _,H,I,rfl,q⟩
noncomputable def eqD (a b:W):Option Bool:=(dW a).bind fun d=>(dW b).bind fun d'=>if d.canLay0 && d'.canLay0 && decide (d.depth<=100) then some (PyData.eqv d d') else none
theorem zzm {K:PySem.W.Frag}{F H:Hp}{w1 w2:W}{v1 v2:V}{k:Bool}(s:Same F H)(r1:RepB K F H w1 v1)(r2:RepB K F H w2 v2)(e:eqD w1 w2=some k):∃d d',DV H v1 d/\DV H v2 d'/\d.canLay0=true/\d'.canLay0=true/\d.depth<=100/\k=PyData.eqv d d':=by
 nofun;obtain⟨d,h1,e⟩:=bS e;obtain⟨d',h2,e⟩:=bS e;ac_rfl;split at e
 ·rename_i z;rw[Ac,Ac] at z;obtain rfl:=sI e;exact⟨d,d',zwc s r1 h1,zwc s r2 h2,z.1.1,z.1.2,An z.2,rfl⟩
 ·exact noSome e
noncomputable def z0t:W->W->Option Bool
 | .non,.non=>some true | .non,.int _=>some false | .int _,.non=>some false | .non,.bl _=>some false | .bl _,.non=>some false | .non,.str _=>some false | .str _,.non=>some false
 | .int i,.int j=>some (decide (i=j)) | .bl i,.bl j=>some (decide (i=j)) | .str i,.str j=>some (decide (i=j))
 | .int _,.str _=>some false | .str _,.int _=>some false | .bl _,.str _=>some false | .str _,.bl _=>some false
 | _,_=>none
noncomputable def oEq:O2:=fun a b=>match z0t a b with
 | some k=>some (.bl k,false)
 | none=>(eqD a b).bind fun k=>some (.bl k,false)
noncomputable def oNe:O2:=fun a b=>match z0t a b with
 | some k=>some (.bl (!k),false)
 | none=>(eqD a b).bind fun k=>some (.bl (!k),false)
theorem zpl {F H:Hp}{w1 w2:W}{v1 v2:V}{k:Bool} (r1:RepB K F H w1 v1) (r2:RepB K F H w2 v2) (e:z0t w1 w2=some k):scal v1 v2=true/\decide (v1=v2)=k:=by
  cases w1 with
  | non =>
    have:=r1.non;subst this;cases w2 with
    | non=>have:=r2.non;subst this;obtain rfl:=sI e;exact⟨rfl,by decide⟩
    | int j=>have:=r2.int;subst this;obtain rfl:=sI e;exact⟨rfl,by simp⟩
    | bl j=>have:=r2.bl;subst this;obtain rfl:=sI e;exact⟨rfl,by simp⟩
    | str j=>have:=r2.str;subst this;obtain rfl:=sI e;exact⟨rfl,by simp⟩
    | _=>exact noSome e
  | int i =>
    have:=r1.int;subst this;cases w2 with
    | non=>have:=r2.non;subst this;obtain rfl:=sI e;exact⟨rfl,by simp⟩
    | int j=>have:=r2.int;subst this;obtain rfl:=sI e;exact⟨rfl,by simp⟩
    | str j=>have:=r2.str;subst this;obtain rfl:=sI e;exact⟨rfl,by simp⟩
    | _=>exact noSome e
  | bl i =>
    have:=r1.bl;subst this;cases w2 with
    | non=>have:=r2.non;subst this;obtain rfl:=sI e;exact⟨rfl,by simp⟩
    | bl j=>have:=r2.bl;subst this;obtain rfl:=sI e;exact⟨rfl,by simp⟩
    | str j=>have:=r2.str;subst this;obtain rfl:=sI e;exact⟨rfl,by simp⟩
    | _=>exact noSome e
  | str i =>
    have:=r1.str;subst this;cases w2 with
    | non=>have:=r2.non;subst this;obtain rfl:=sI e;exact⟨rfl,by simp⟩
    | int j=>have:=r2.int;subst this;obtain rfl:=sI e;exact⟨rfl,by simp⟩
    | bl j=>have:=r2.bl;subst this;obtain rfl:=sI e;exact⟨rfl,by simp⟩
    | str j=>have:=r2.str;subst this;obtain rfl:=sI e;exact⟨rfl,by simp⟩
    | _=>exact noSome e
  | _=>cases w2<;>exact noSome e
theorem z4o:OpS K (fun x y H Q=>rEq x y H Q\/rEqD id x y H Q) oEq:=fun F H w1 w2 v1 v2 rv Q s r1 r2 e q=>by
 unfold oEq at e;split at e
 ·rename_i k hk;obtain rfl:=sI e;obtain⟨h1,h2⟩:=zpl r1 r2 hk;refine .inl ⟨h1,?_⟩;rw[h2];exact q _ _ (.val (.bl k))
 ·obtain⟨k, hk, e⟩ := bS e;obtain rfl:=sI e;nofun;obtain⟨d,d',d1,d2,h1,h2,h3,rfl⟩:=zzm s r1 r2 hk;ac_rfl;exact .inr ⟨d,d',d1,d2,h1,h2,h3,q _ _ (.val (.bl _))⟩
theorem z7r:OpS K (fun x y H Q=>rNe x y H Q\/rEqD not x y H Q) oNe:=fun F H w1 w2 v1 v2 rv Q s r1 r2 e q=>by
 unfold oNe at e;split at e
 ·rename_i k hk;obtain rfl:=sI e;obtain⟨h1,h2⟩:=zpl r1 r2 hk;refine .inl ⟨h1,?_⟩;rw[h2];exact q _ _ (.val (.bl _))
 ·obtain⟨k, hk, e⟩ := bS e;obtain rfl:=sI e;nofun;obtain⟨d,d',d1,d2,h1,h2,h3,rfl⟩:=zzm s r1 r2 hk;ac_rfl;exact .inr ⟨d,d',d1,d2,h1,h2,h3,q _ _ (.val (.bl _))⟩
noncomputable def isW:W->W->Option Bool
 | .non,.non=>some true
 | _,.non=>some false
 | .bl a,.bl b=>some (decide (a=b))
 | _,.bl _=>some false
 | _,_=>none
noncomputable def oIs:O2:=fun a b=>(isW a b).bind fun k=>some (.bl k,false)
noncomputable def zl1:W->Bool
 | .non=>true
 | .bl _=>true
 | .int _=>true
 | .str _=>true
 | _=>false
noncomputable def eqF:W->W->Bool
 | .non,.non=>true
 | .bl a,.bl b=>a == b
 | .bl a,.int b=>(if a then 1 else 0) == b
 | .int a,.bl b=>a == (if b then 1 else 0)
 | .int a,.int b=>a == b
 | .str a,.str b=>a == b
 | _,_=>false
theorem Rep.flat {F:Hp}{w:W}{v:V}(h:Rep K F w v)(f:zl1 w=true):zhr v=true:=by
 cases h<;>first | rfl | (cases f)
theorem Reps.flat {F:Hp}:∀{ws:List W}{vs:List V},Reps K F ws vs->ws.all zl1=true->vs.all zhr=true
  | _,_,.nil,_=>rfl
  | _,_,.cons h r,f=>by
    rw[Bf,Ac] at f ⊢;exact⟨h.flat f.1,r.flat f.2⟩
theorem z70 {F F' : Hp}{w u:W}{v z:V}(h1:Rep K F w v)(h2:Rep K F' u z)(f1:zl1 w=true)(f2:zl1 u=true):eqV v z=eqF w u:=by
 cases h1<;>first | (cases f1;done) | (cases h2<;>first | rfl | (cases f2))
theorem zzu {F F' : Hp}{u:W}{z:V} (h2:Rep K F' u z) (f2:zl1 u=true):∀{ws:List W}{vs:List V},Reps K F ws vs->ws.all zl1=true->inV z vs=ws.any fun y=>eqF y u
  | _,_,.nil,_=>rfl
  | _,_,.cons h r,f=>by
    rw[Bf,Ac] at f;have ih:=zzu h2 f2 r f.2;unfold inV at ih ⊢;rw[Cu,Cu,ih,z70 h h2 f.1 f2]
noncomputable def oIn (neg:Bool):O2:=fun a b=>(seqW b).bind fun ws=>if zl1 a && ws.all zl1 then some (.bl (if neg then !(ws.any fun y=>eqF y a) else ws.any fun y=>eqF y a),false) else none
theorem z41 (neg:Bool):OpS K (rIn K neg) (oIn neg):=fun F H w1 w2 v1 v2 rv Q s r1 r2 e q=>by
 obtain⟨ws,hs,e⟩:=bS e;split at e
 ·rename_i z;rw [Ac] at z;obtain rfl:=sI e;obtain ⟨a,vs,e2,hq,p⟩:=r2.seqW s hs;have r1' : Rep K F w1 v1:=by
   rcases r1 with r | ⟨_,_,_,e,_,_,y⟩
   ·exact r
   ·subst e;cases y<;>cases z.1
  refine⟨a,vs,e2,hq,r1'.flat z.1,p.flat z.2,?_⟩;rw[zzu r1' z.1 p z.2];exact q _ _ (.val (.bl _))
 ·exact noSome e
noncomputable def oIx:O2
 | a,.int i=>(seqW a).bind fun ws=>(atI ws i).bind fun w=>#v[w,6]
 | _,_=>none
theorem zxd {F:Hp}{ws:List W}{vs:List V}{i:Int}{w:W}(r:Reps K F ws vs)(h:atI ws i=some w):∃v,atI vs i=some v/\Rep K F w v:=by
 unfold atI at h ⊢;rw[<-r.length];obtain⟨j,h1,h2⟩:=bS h;obtain⟨v,h3,h4⟩:=r.get h2;exact⟨v,by rw[h1];exact h3,h4⟩
noncomputable def rIxB (K:PySem.W.Frag):R2:=fun x y H Q=>rIxL K x y H Q\/rIxT K x y H Q
theorem z6g:OpS K (rIxB K) oIx:=fun F H w1 w2 v1 v2 rv Q s r1 r2 e q=>by
  cases w2 with
  | int i =>
    obtain⟨ws,hs,e⟩:=bS (show (seqW w1).bind _=_ from e);obtain⟨w,hw,e⟩:=bS e;obtain rfl:=sI e;obtain⟨a,vs,e1,hq,p⟩:=r1.seqW s hs;obtain⟨v,hv,rv⟩:=zxd p hw;rcases hq with hq | hq
    · exact .inl ⟨a,vs,i,v,e1,r2.int,hq,hv,q _ _ (.val rv)⟩
    · exact .inr ⟨a,vs,i,v,e1,r2.int,hq,hv,q _ _ (.val rv)⟩
  | _=>cases w1<;>exact noSome e
noncomputable def oNeg:W->Option (W × Bool)
 | .int i=>#v[(-i),0]
 | _=>none
theorem z0s:OpS1 K (rU fun i=>.int (-i)) oNeg:=fun F H w v rv Q s r e q=>by
 cases w with
 | int i=>obtain rfl:=sI e;exact⟨i,r.int,q _ _ (.val (.int _))⟩
 | _=>exact noSome e
end
theorem zq7:∀(ns:List Int) (k:Nat),k<=ns.length->preSum (fun i=>ns.getD i 0) k=(ns.take k).sum
  | ns,0,_=>rfl
  | ns,k+1,h=>by
    have ih:=zq7 ns k #v[];show preSum (fun i=>ns.getD i 0) k+ns.getD k 0=_;rw[ih,Fj,List.sum_append];have hk:k < ns.length:=by omega
    rw[Ab hk,Bw,Ab hk];simp
section
variable {X:Cx}
theorem zt3 {ns:List Int}{its:List Value}{i:Nat}{v:Value}(r:Vals (ns.map V.int) its)(h:its[i]?=some v):∃t,v=.int (ns.getD i 0) t:=by
 have hl:=r.length;rw[Ad] at hl;have hi:i < ns.length:=by rw[hl];exact (Am.mp h).1
 obtain⟨u,hu,ru⟩:=r.get (i:=i) (x:=.int ns[i]) (by rw[Au,Ab hi];rfl);rw[h] at hu;obtain rfl:=sI hu;obtain⟨t,e⟩:=ru;exact⟨t,by rw[e,Bw,Ab hi];rfl⟩
noncomputable def mx1 (n:Int) (r:List Int):Int:=r.foldl (fun b x=>if x > b then x else b) n
theorem zt1 (n:Int) (r:List Int):∀k,k<=r.length->(n::r).getD (argBest (fun i j=>decide ((n::r).getD i 0 > (n::r).getD j 0)) k) 0=mx1 n (r.take k)
  | 0,_=>rfl
  | k+1,h=>by
    have ih:=zt1 n r k #v[];have hk:k < r.length:=by omega
    have g:(n::r).getD (k+1) 0=r[k]:=by rw[List.getD_cons_succ,Bw,Ab hk];rfl
    have t:mx1 n (r.take (k+1))=if r[k] > mx1 n (r.take k) then r[k] else mx1 n (r.take k):=by
      unfold mx1;rw[Fj,Ab hk,Dg];rfl
    rw[t];show (n::r).getD (if decide ((n::r).getD (k+1) 0 > (n::r).getD (argBest (fun i j=>decide ((n::r).getD i 0 > (n::r).getD j 0)) k) 0)=true then k+1 else argBest _ k) 0=_;rw[ih,g];by_cases c:r[k] > mx1 n (r.take k)
    · rw[Ag c,if_pos rfl,if_pos c,g]
    · rw[Av c,if_neg Ah,if_neg c,ih]
theorem z5d (hc:X.calm=true):zb5 X (.builtin "max") (fun xs H Q=>(∃i j,xs=[.int i,.int j]/\Q (.int (if j > i then j else i)) H)\/∃(a:Addr) (n:Int) (r:List Int),xs=[.ref a]/\SqL X.K H a ((n::r).map V.int)/\Q (.int (mx1 n r)) H):=by
 intro pins s σ H xs us Q I r h;rcases h with h | h
 ·exact zui hc pins s σ H xs us Q I r h
 obtain⟨a,n,ns,rfl,hq,q⟩:=h;obtain⟨u,rfl,rx⟩:=vals1 r;cases rx;obtain⟨its,rv,p,hz⟩:=I.list hq;have hl:=rv.length;rw[Ad] at hl;have ha:a < s.heap.objs.size:=by obtain⟨o,e,_⟩:=p.isList;exact Ao e
 have iv:∀(i:Nat) (v:Value),its.toArray[i]?=some v->∃t,v=Value.int ((n::ns).getD i 0) t:=fun i v e=>zt3 rv (by simpa using e);refine call_max_walk (Dy p.isList ?_);refine⟨s.heap.objs.size,_,[s.heap.objs.size],its.toArray.size,_,_,_,rfl,Walks.list (A:=X.A.in1) (show X.A.in1.handled=none from I.ok.hd hc) _ a (At ha) its.toArray,⟨⟨_,As _ rfl,rfl,rfl⟩,p.isList.push _⟩,fun b hb=>?_,by rw[Al,<-hl];exact Nat.succ_pos _,CmpOf.ints_gt _ iv,fun v h' tk hv hk=>?_⟩
 ·rw[Fw];simp only [Ax,Dc,or_false] at hb;rcases hb with rfl | rfl
  ·exact Nat.lt_succ_self _
  ·exact Gn ha
 ·obtain⟨t, rfl⟩ := iv _ _ hv;have e:its.toArray.size - 1=ns.length:=by rw[Al,<-hl];rfl
  refine⟨.int _,H,I.kept fun b o hb=>hk b o (fun z=>by rw[Aj] at z;subst z;exact absurd (Ao hb) (Bx _)) (Af _ hb),⟨_,rfl⟩,?_⟩;rw[e,zt1 n ns ns.length (Ae _),Cg];exact q
noncomputable def mn1 (n:Int) (r:List Int):Int:=r.foldl (fun b x=>if x < b then x else b) n
theorem ztj (n:Int) (r:List Int):∀k,k<=r.length->(n::r).getD (argBest (fun i j=>decide ((n::r).getD i 0 < (n::r).getD j 0)) k) 0=mn1 n (r.take k)
  | 0,_=>rfl
  | k+1,h=>by
    have ih:=ztj n r k #v[];have hk:k < r.length:=by omega
    have g:(n::r).getD (k+1) 0=r[k]:=by rw[List.getD_cons_succ,Bw,Ab hk];rfl
    have t:mn1 n (r.take (k+1))=if r[k] < mn1 n (r.take k) then r[k] else mn1 n (r.take k):=by
      unfold mn1;rw[Fj,Ab hk,Dg];rfl
    rw[t];show (n::r).getD (if decide ((n::r).getD (k+1) 0 < (n::r).getD (argBest (fun i j=>decide ((n::r).getD i 0 < (n::r).getD j 0)) k) 0)=true then k+1 else argBest _ k) 0=_;rw[ih,g];by_cases c:r[k] < mn1 n (r.take k)
    · rw[Ag c,if_pos rfl,if_pos c,g]
    · rw[Av c,if_neg Ah,if_neg c,ih]
theorem zsz (hc:X.calm=true):zb5 X (.builtin "min") (fun xs H Q=>(∃i j,xs=[.int i,.int j]/\Q (.int (if j < i then j else i)) H)\/∃(a:Addr) (n:Int) (r:List Int),xs=[.ref a]/\SqL X.K H a ((n::r).map V.int)/\Q (.int (mn1 n r)) H):=by
 intro pins s σ H xs us Q I r h;rcases h with h | h
 ·exact zs8 hc pins s σ H xs us Q I r h
 obtain⟨a,n,ns,rfl,hq,q⟩:=h;obtain⟨u,rfl,rx⟩:=vals1 r;cases rx;obtain⟨its,rv,p,hz⟩:=I.list hq;have hl:=rv.length;rw[Ad] at hl;have ha:a < s.heap.objs.size:=by obtain⟨o,e,_⟩:=p.isList;exact Ao e
 have iv:∀(i:Nat) (v:Value),its.toArray[i]?=some v->∃t,v=Value.int ((n::ns).getD i 0) t:=fun i v e=>zt3 rv (by simpa using e);refine call_min_walk (Dy p.isList ?_);refine⟨s.heap.objs.size,_,[s.heap.objs.size],its.toArray.size,_,_,_,rfl,Walks.list (A:=X.A.in1) (show X.A.in1.handled=none from I.ok.hd hc) _ a (At ha) its.toArray,⟨⟨_,As _ rfl,rfl,rfl⟩,p.isList.push _⟩,fun b hb=>?_,by rw[Al,<-hl];exact Nat.succ_pos _,CmpOf.ints_lt _ iv,fun v h' tk hv hk=>?_⟩
 ·rw[Fw];simp only [Ax,Dc,or_false] at hb;rcases hb with rfl | rfl
  ·exact Nat.lt_succ_self _
  ·exact Gn ha
 ·obtain⟨t, rfl⟩ := iv _ _ hv;have e:its.toArray.size - 1=ns.length:=by rw[Al,<-hl];rfl
  refine⟨.int _,H,I.kept fun b o hb=>hk b o (fun z=>by rw[Aj] at z;subst z;exact absurd (Ao hb) (Bx _)) (Af _ hb),⟨_,rfl⟩,?_⟩;rw[e,ztj n ns ns.length (Ae _),Cg];exact q
theorem z13:OpR X (binaryOp .Add) (fun x y H Q=>∃a b ys,x=.ref a/\y=.ref b/\SqT X.K H a []/\SqT X.K H b ys/\Q (.ref b) H):=by
 intro pins s σ H x y v u Q I rx ry h;nofun;obtain⟨a,b,ys,rfl,rfl,ha,hb,q⟩:=h;ac_rfl;cases rx;cases ry;nofun;obtain⟨its,r1,p1,_⟩:=I.tuple ha;obtain⟨its2,r2,p2,_⟩:=I.tuple hb;obtain⟨⟨c1,d1,t1,l1⟩,g1,k1,n1,q1⟩:=id p1;obtain⟨⟨c2,d2,t2,l2⟩,g2,k2,n2,q2⟩:=id p2;ac_rfl;simp only at k1 q1 k2 q2;subst k1 q1 k2 q2;have e0:its=[]:=by cases r1;rfl
 subst e0;exact concat_meets (T := "tuple") ⟨_,g1,rfl⟩ ⟨_,g2,rfl⟩ noFill_tuple_add seq_tuple_add PySem.F.slot_tuple_add PySem.F.entry_tuple_add (Gq _ _)
  (tuple_addW0 a b _ _ n1 n2 d1 d2 l1 l2 rfl) ⟨g1,g2,⟨.ref b,H,I.tok _,rfl,q⟩⟩
theorem zxo:OpR X (binaryOp .FloorDiv) (rI (fun _ j=>0 < j/\j.natAbs.log2 < 9000) fun i j=>.int (i / j)):=opI fun i j _ _ _ _ _ hc q=>by
 have h1:(0:Int) < j:=hc.1;exact floordiv_int #v[] (by rw[Int.fdiv_eq_ediv_of_nonneg i #v[]];exact q) (.inl (PyProof.noPylong_of_log2 hc.2))
end
section
variable {K:PySem.W.Frag}
noncomputable def z9z (K:PySem.W.Frag):R2:=fun x y H Q=>∃a b ys,x=.ref a/\y=.ref b/\SqT K H a []/\SqT K H b ys/\Q (.ref b) H
theorem zwp:OpS K (z9z K) z27:=fun F H w1 w2 v1 v2 rv Q s r1 r2 e q=>by
  cases w1 with
  | tup xs =>
    cases xs with
    | cons _ _=>cases w2<;>exact noSome e
    | nil =>
      cases w2 with
      | tup ys =>
        obtain rfl:=sI e;nofun;obtain⟨a,vs,e1,h1,f1,p1⟩:=r1.tup s;obtain⟨b,us,e2,h2,f2,p2⟩:=r2.tup s;ac_rfl;cases p1;subst e2;exact⟨a,b,us,e1,rfl,.inl (.inl h1),.inl (.inl h2),q _ _ (.val (.tup f2 p2))⟩
      | _=>exact noSome e
  | _=>exact noSome e
noncomputable def z82:R2:=fun x y H Q=>∃i j,x=.str i/\y=.str j/\i.length+j.length<=sizeLine/\Q (.str (i++j)) H
theorem zym:OpS K z82 zwm:=fun F H w1 w2 v1 v2 rv Q s r1 r2 e q=>by
  cases w1 with
  | str x =>
    cases w2 with
    | str y =>
      unfold zwm at e;simp only at e;split at e
      · rename_i z;obtain rfl:=sI e;exact⟨x,y,r1.str,r2.str,z,q _ _ (.val (.str _))⟩
      · exact noSome e
    | _=>exact noSome e
  | _=>exact noSome e
noncomputable abbrev ON:=List W->Option (W × Bool)
noncomputable def oLen:ON
 | [w]=>(seqW w).bind fun ws=>#v[ws.length,0]
 | _=>none
theorem z0n:OpSN K (fun xs H Q=>∃p ys,xs=[.ref p]/\(SqL K H p ys\/SqT K H p ys)/\Q (.int ys.length) H) oLen:=fun F H ws vs rv Q s r e q=>by
  cases r with
  | nil=>exact noSome e
  | cons h r =>
    cases r with
    | cons _ _=>exact noSome e
    | nil =>
      obtain⟨ws,hs,e⟩:=bS (show (seqW _).bind _=_ from e);obtain rfl:=sI e;obtain⟨a,vs,e1,hq,p⟩:=h.seqW s hs;subst e1;exact⟨a,vs,rfl,hq,by rw[<-p.length];exact q _ _ (.val (.int _))⟩
noncomputable def oAbs:ON
 | [.int i]=>#v[(if i < 0 then -i else i),0]
 | _=>none
theorem RepBs.one {F H:Hp}{w:W}{vs:List V}(r:RepBs K F H [w] vs):∃v,vs=[v]/\RepB K F H w v:=by
 cases r with
 | cons h r=>cases r;exact⟨_,rfl,h⟩
theorem RepBs.two {F H:Hp}{w u:W}{vs:List V}(r:RepBs K F H [w,u] vs):∃v z,vs=[v,z]/\RepB K F H w v/\RepB K F H u z:=by
 cases r with
 | cons h r=>obtain⟨z,e,h2⟩:=r.one;subst e;exact⟨_,z,rfl,h,h2⟩
theorem z1l:OpSN K (fun xs H Q=>∃i,xs=[.int i]/\Q (.int (if i < 0 then -i else i)) H) oAbs:=fun F H ws vs rv Q s r e q=>by
  match ws,e with
  | [.int i],e =>
    obtain rfl:=sI e;obtain⟨v,e1,h⟩:=r.one;subst e1;exact⟨i,by rw[h.int],q _ _ (.val (.int _))⟩
noncomputable def oInt:ON
 | [.int i]=>#v[i,0]
 | [.bl k]=>#v[(if k then 1 else 0),0]
 | _=>none
theorem z1c:OpSN K (fun xs H Q=>(∃i,xs=[.int i]/\Q (.int i) H)\/∃k,xs=[.bl k]/\Q (.int (if k then 1 else 0)) H) oInt:=fun F H ws vs rv Q s r e q=>by
  match ws,e with
  | [.int i],e =>
    obtain rfl:=sI e;obtain⟨v,e1,h⟩:=r.one;subst e1;exact .inl ⟨i,by rw[h.int],q _ _ (.val (.int _))⟩
  | [.bl k],e =>
    obtain rfl:=sI e;obtain⟨v,e1,h⟩:=r.one;subst e1;exact .inr ⟨k,by rw[h.bl],q _ _ (.val (.int _))⟩
noncomputable def z7g:ON
 | [w]=>(seqW w).bind fun ws=>#v[ws,2]
 | _=>none
theorem zwl:OpSN K (fun xs H Q=>∃p ys,xs=[.ref p]/\(SqL K H p ys\/SqT K H p ys)/\∀l,H l=none->Q (.ref l) (upd H l (.lst ys))) z7g:=fun F H ws vs rv Q s r e q=>by
  match ws,e with
  | [w],e =>
    obtain⟨ws,hs,e⟩:=bS (show (seqW _).bind _=_ from e);obtain rfl:=sI e;nofun;obtain⟨v,e1,h⟩:=r.one;obtain⟨a,us,e2,hq,p⟩:=h.seqW s hs;ac_rfl;subst e1 e2;exact⟨a,us,rfl,hq,fun l hl=>q _ _ (.lst hl p)⟩
noncomputable def zdt:ON
 | [.tup ws]=>#v[ws,3]
 | [w]=>(seqL w).bind fun ws=>#v[ws,3]
 | _=>none
theorem ztg:OpSN K (fun xs H Q=>∃p ys,xs=[.ref p]/\((SqL K H p ys/\∀l,H l=none->Q (.ref l) (upd H l (.tup ys)))\/(SqT K H p ys/\Q (.ref p) H))) zdt:=fun F H ws vs rv Q s r e q=>by
  match ws,e with
  | [.tup ws],e =>
    obtain rfl:=sI e;nofun;obtain⟨v,e1,h⟩:=r.one;obtain⟨a,us,e2,hq,f,p⟩:=h.tup s;ac_rfl;subst e1 e2;exact⟨a,us,rfl,.inr ⟨.inl (.inl hq),q _ _ (.val (.tup f p))⟩⟩
  | [.lst ws],e =>
    obtain rfl:=sI e;nofun;obtain⟨v,e1,h⟩:=r.one;obtain⟨a,us,e2,hq,p⟩:=h.lst s;ac_rfl;subst e1 e2;exact⟨a,us,rfl,.inl ⟨SqL.of' hq,fun l hl=>q _ _ (.tup hl p)⟩⟩
  | [.frl ws],e =>
    obtain rfl:=sI e;nofun;obtain⟨v,e1,h⟩:=r.one;obtain⟨a,us,e2,hq,p⟩:=h.frl s;ac_rfl;subst e1 e2;exact⟨a,us,rfl,.inl ⟨hq,fun l hl=>q _ _ (.tup hl p)⟩⟩
  | [.non],e=>exact noSome e
  | [.bl _],e=>exact noSome e
  | [.int _],e=>exact noSome e
  | [.str _],e=>exact noSome e
  | [.dic],e=>exact noSome e
  | [.dct _ _],e=>exact noSome e
  | [.dcz _ _],e=>exact noSome e
noncomputable def znc:List W->Option (List Bool)
 | []=>some []
 | .bl b::ws=>(znc ws).bind fun bs=>some (b::bs)
 | _=>none
noncomputable def zbp:List W->Option (List Int)
 | []=>some []
 | .int b::ws=>(zbp ws).bind fun bs=>some (b::bs)
 | _=>none
theorem zp7:∀{ws:List W}{bs:List Bool},znc ws=some bs->ws=bs.map W.bl
  | [],_,e=>by obtain rfl:=sI e;rfl
  | .bl b::ws,_,e=>by
    obtain⟨bs,h,e⟩:=bS (show (znc ws).bind _=_ from e);obtain rfl:=sI e;rw[zp7 h];rfl
  | .non::_,_,e=>by exact noSome e
  | .int _::_,_,e=>by exact noSome e
  | .str _::_,_,e=>by exact noSome e
  | .tup _::_,_,e=>by exact noSome e
  | .lst _::_,_,e=>by exact noSome e
  | .frl _::_,_,e=>by exact noSome e
theorem zco:∀{ws:List W}{bs:List Int},zbp ws=some bs->ws=bs.map W.int
  | [],_,e=>by obtain rfl:=sI e;rfl
  | .int b::ws,_,e=>by
    obtain⟨bs,h,e⟩:=bS (show (zbp ws).bind _=_ from e);obtain rfl:=sI e;rw[zco h];rfl
  | .non::_,_,e=>by exact noSome e
  | .bl _::_,_,e=>by exact noSome e
  | .str _::_,_,e=>by exact noSome e
  | .tup _::_,_,e=>by exact noSome e
  | .lst _::_,_,e=>by exact noSome e
  | .frl _::_,_,e=>by exact noSome e
theorem za1:∀(ns:List Int),zbp (ns.map W.int)=some ns
 | []=>rfl
 | n::ns=>by show (zbp (ns.map W.int)).bind _=_;rw[za1 ns];rfl
theorem zj9:∀(ns:List Bool),znc (ns.map W.bl)=some ns
 | []=>rfl
 | n::ns=>by show (znc (ns.map W.bl)).bind _=_;rw[zj9 ns];rfl
noncomputable def oBl (f:List Bool->Bool):ON
 | [w]=>(seqL w).bind fun ws=>(znc ws).bind fun bs=>some (.bl (f bs),false)
 | _=>none
theorem zzr {f:List Bool->Bool}:OpSN K (fun xs H Q=>∃(a:Addr) (bs:List Bool),xs=[.ref a]/\SqL K H a (bs.map V.bl)/\Q (.bl (f bs)) H) (oBl f):=fun F H ws vs rv Q s r e q=>by
  match ws,e with
  | [w],e =>
    nofun;obtain⟨ws,hs,e⟩:=bS (show (seqL _).bind _=_ from e);obtain⟨bs,hb,e⟩:=bS e;ac_rfl;obtain rfl:=sI e;nofun;obtain⟨v,e1,h⟩:=r.one;obtain⟨a,us,e2,hq,p⟩:=h.seqL s hs;ac_rfl;subst e1 e2;rw[zp7 hb] at p;rw[p.bls] at hq;exact⟨a,bs,rfl,hq,q _ _ (.val (.bl _))⟩
noncomputable def mnW (w:W):Option (W × Bool):=(seqL w).bind fun ws=>(zbp ws).bind fun ns=>match ns with
 | n::r=>#v[(mn1 n r),0]
 | []=>none
noncomputable def oMin:ON
 | [.int i,.int j]=>#v[(if j < i then j else i),0]
 | [w]=>mnW w
 | _=>none
theorem z3a:OpSN K (fun xs H Q=>(∃i j,xs=[.int i,.int j]/\Q (.int (if j < i then j else i)) H)\/∃(a:Addr) (n:Int) (r:List Int),xs=[.ref a]/\SqL K H a ((n::r).map V.int)/\Q (.int (mn1 n r)) H) oMin:=fun F H ws vs rv Q s r e q=>by
  unfold oMin at e;split at e
  · obtain rfl := sI e
    obtain⟨v,z,e1,h1,h2⟩:=r.two;subst e1;exact .inl ⟨_,_,by rw[h1.int,h2.int],q _ _ (.val (.int _))⟩
  · rename_i w
    nofun;obtain⟨ws,hs,e⟩:=bS (show (seqL w).bind _=some rv from e);obtain⟨ns,hb,e⟩:=bS e;obtain⟨v,e1,h⟩:=r.one;obtain⟨a,us,e2,hq,p⟩:=h.seqL s hs;ac_rfl;subst e1 e2;rw[zco hb] at p;rw[p.ints] at hq;cases ns with
    | nil=>exact noSome e
    | cons n ns =>
      obtain rfl:=sI e;exact .inr ⟨a,n,ns,rfl,hq,q _ _ (.val (.int _))⟩
  · exact noSome e
noncomputable def tyW:W->Option String
 | .non=>some "NoneType"
 | .bl _=>some "bool"
 | .int _=>some "int"
 | .str _=>some "str"
 | .tup _=>some "tuple"
 | .lst _=>some "list"
 | .frl _=>none
 | .dic=>none
 | .dct _ _=>none
 | .dcz _ _=>none
inductive Kd where
 | int | bool | str | tuple | list
 deriving DecidableEq
noncomputable def isiW (k:Kd):W->Option Bool
 | .non=>some false
 | .bl _=>some (k == .bool || k == .int)
 | .int _=>some (k == .int)
 | .str _=>some (k == .str)
 | .tup _=>some (k == .tuple)
 | .lst _=>some (k == .list)
 | .frl _=>none
 | .dic=>some false
 | .dct _ _=>some false
 | .dcz _ _=>none
noncomputable def oIsi (k:Kd) (w:W):Option (W × Bool):=(isiW k w).bind fun b=>some (.bl b,false)
noncomputable abbrev GO:=En->Option (En × Option Int)
noncomputable def zca:GO:=fun en=>some (en,none)
noncomputable def zgv (g:GE):GO:=fun en=>match g en with
 | some (en',(.int i,_))=>some (en',some i)
 | _=>none
noncomputable def tO (K:PySem.W.Frag) (g:GO):TO:=fun σ H Q=>∃F pr en en' o,Rel K F pr en σ H/\g en=some (en',o)/\∀F' H',Same F F'->Rel K F' pr en' σ H'->Q o H'
theorem Res.isInt {F H:Hp}{pr:Prt}{en:En}{σ:St}{i:Int}{fl:Bool}{v:V}(h:Res K F H pr en σ (.int i,fl) v):v=.int i:=by
 cases fl with
 | false=>cases (show Rep K F (.int i) v from h);rfl
 | true=>obtain⟨_,_,_,e,_,_,_,q,_⟩:=h;subst e;cases q
theorem zmg {σ:St}{H:Hp}{Q:Option Int->Hp->Prop}(h:tO K zca σ H Q):zvm σ H Q:=by
 obtain⟨F,pr,en,en',o,R,h,q⟩:=h;cases h;exact q F H (.refl F) R
theorem zrv {g:GE}{σ:St}{H:Hp}{Q:Option Int->Hp->Prop} (h:tO K (zgv g) σ H Q):z78 (tE K g) σ H Q:=by
  nofun;obtain⟨F,pr,en,en',o,R,h,q⟩:=h;ac_rfl;unfold zgv at h;cases e:g en with
  | none=>simp only [e] at h;exact noSome h
  | some p =>
    obtain⟨e1,w,fl⟩:=p;cases w with
    | int c=>simp only [e] at h;cases h;exact⟨F,pr,en,_,_,R,e,fun F' H' v s' R' z=>⟨c,z.isInt,q F' H' s' R'⟩⟩
    | _=>simp only [e] at h;exact noSome h
open HT in
theorem zql {prog:Program}{w:World}{A:Around}{E:Value->Shared->Prop}{s:Shared}{t sl:Addr}{items:Array Value}{vl vu:Value}{lo hi:Option Int}{Q:Value->Shared->Prop} (ht:IsTup s.heap t items) (hs:s.heap.IsSliceOf sl vl vu .none) (pl:IsPart vl lo) (pu:IsPart vu hi)
  (h0:sIx items.size 0 lo=0) (h1:sIx items.size items.size hi=items.size) (h:Q (.ref t) s):wpAny (model prog w) A (getItem (.ref t) (.ref sl)) Q E s:=by
 obtain⟨os,g1,g2,_⟩:=id hs;have ty:s.TypeIs (.ref sl) "slice" := ⟨os,g1,g2⟩;unfold getItem
 try with_reducible refine Co ?_
 first | refine Aa (Ai ?_) | skip
 refine Aa (wpAny_sequenceKey ht.typeIs #v[0,9] ?_);refine Aa (Cz (name:=Str.ofString "__getitem__") ht.typeIs Dw (Dn Dw ht.typeIs entry_tuple_getitem ?_ (args_tuple_getitem _ _)));show wpAny _ _ (Builtin.Tuple.tupleItemsOf (.ref t) >>= _) _ _ s;refine Aa (tupleItemsOf_ ht ?_);refine Aa (wpAny_typeOf ty ?_);rw[if_pos #v[0,9]];refine Aa (zdh hs pl pu ?_);rw[h0,h1];show wpAny _ _ (if ((((0:Nat):Int) == 0 && (1:Int) == 1 && (items.size - 0) == items.size)=true) then _ else _) _ _ s;rw[if_pos (by simp)];unfold Builtin.Tuple.tupleIsExact;refine Aa (Aa (wpAny_typeOf ht.typeIs (Ai ?_)));rw[if_pos #v[0,9]];refine Aa (Eo (Ai ⟨_,rfl,?_⟩));exact Ai h
noncomputable def rSlW (K:PySem.W.Frag):V->Option Int->Option Int->Hp->VK->Prop:=fun x lo hi H Q=>∃a xs,x=.ref a/\SqT K H a xs/\HT.sIx xs.length 0 lo=0/\HT.sIx xs.length xs.length hi=xs.length/\Q x H
theorem z3b {X:Cx}:SlR X (rSlW X.K):=by
 intro pins s σ H x v vl vu lo hi sl Q I rx hs pl pu h;nofun;obtain⟨a,xs,rfl,hx,h0,h1,q⟩:=h;ac_rfl;cases rx;nofun;obtain⟨its,r,ht,hz⟩:=I.tuple hx;ac_rfl;have hlen:its.toArray.size=xs.length:=by rw[Al];exact r.length.symm
 exact⟨"tuple",_,PyProof.Rows.slot_tuple_getitem.lookup,ht.typeIs,zql ht hs pl pu (by rw[hlen];exact h0) (by rw[hlen];exact h1) ⟨.ref a,H,I,rfl,q⟩⟩
noncomputable def cutW (xs:List W) (lo hi:Option Int):List W:=(xs.drop (HT.sIx xs.length 0 lo)).take (HT.sIx xs.length xs.length hi - HT.sIx xs.length 0 lo)
noncomputable def oSl (w:W) (lo hi:Option Int):Option (W × Bool):=match w with
 | .lst ws=>#v[(cutW ws lo hi),2]
 | .frl ws=>#v[(cutW ws lo hi),2]
 | .tup ws=>#v[(cutW ws lo hi),3]
 | _=>none
noncomputable def rSlB (K:PySem.W.Frag):V->Option Int->Option Int->Hp->VK->Prop:=fun x lo hi H Q=>(rSlL K x lo hi H Q\/rSlT K x lo hi H Q)\/rSlW K x lo hi H Q
theorem z6w {F H:Hp}{w:W}{v:V}{lo hi:Option Int}{rv:W × Bool}{Q:VK} (s:Same F H) (r:RepB K F H w v) (e:oSl w lo hi=some rv) (q:∀u H',Out K F H rv u H'->Q u H'):rSlB K v lo hi H Q:=by
  have cut:∀{ws:List W}{vs:List V},Reps K F ws vs->Reps K F (cutW ws lo hi) (cutV vs lo hi):=fun {ws vs} p=>by
    unfold cutW cutV;rw[<-p.length];exact (p.drop _).take _
  cases w with
  | lst ws=>obtain rfl:=sI e;obtain⟨a,vs,e1,h,p⟩:=r.lst s;exact .inl (.inl ⟨a,vs,e1,SqL.of' h,fun l hl=>q _ _ (.lst hl (cut p))⟩)
  | frl ws=>obtain rfl:=sI e;obtain⟨a,vs,e1,h,p⟩:=r.frl s;exact .inl (.inl ⟨a,vs,e1,h,fun l hl=>q _ _ (.lst hl (cut p))⟩)
  | tup ws =>
    obtain rfl:=sI e;obtain⟨a,vs,e1,h,hf,p⟩:=r.tup s;by_cases y:HT.sIx vs.length 0 lo=0/\HT.sIx vs.length vs.length hi=vs.length
    · refine .inr ⟨a, vs, e1, .inl (.inl h), y.1, y.2, ?_⟩
      have ew:cutW ws lo hi=ws:=by
        unfold cutW;rw[p.length,y.1,y.2,Ec,Nat.sub_zero,<-p.length,Cg]
      rw[ew] at q;subst e1;exact q _ _ (.val (.tup hf p))
    · exact .inl (.inr ⟨a,vs,e1,.inl (.inl h),y,fun l hl=>q _ _ (.tup hl (cut p))⟩)
  | _=>exact noSome e
noncomputable def gSl (a:GA) (lo hi:GO):GE:=fun en=>(a en).bind fun p=>(lo p.1).bind fun l=>(hi l.1).bind fun h=>(resA h.1 p.2).bind fun w=>(oSl w l.2 h.2).bind fun r=>some (h.1,r)
theorem z2t {a:GA}{lo hi:GO}{σ:St}{H:Hp}{Q:VK}(h:tE K (gSl a lo hi) σ H Q):tSl (rSlB K) (tA K a) (tO K lo) (tO K hi) σ H Q:=by
 nofun;obtain⟨F,pr,en,en',rv,R,h,q⟩:=h;obtain⟨⟨e1,x1⟩,h1,h⟩:=bS h;obtain⟨⟨e2,l⟩,h2,h⟩:=bS h;obtain⟨⟨e3,u⟩,h3,h⟩:=bS h;obtain⟨w1,hw1,h⟩:=bS h;obtain⟨r',hr,h⟩:=bS h;ac_rfl;cases h;refine⟨F,pr,en,e1,x1,R,h1,fun F1 H1 v1 s1 R1 a1=>⟨F1,pr,e1,e2,l,R1,h2,fun F2 H2 s2 R2=>⟨F2,pr,e2,e3,u,R2,h3,fun F3 H3 s3 R3=>?_⟩⟩⟩;refine z6w R3.sub ((a1.mono (s2.trans s3)).repB R3 hw1) hr fun v H' z=>?_;nofun;obtain⟨F4,s4,R4,y⟩:=z.close R3;ac_rfl;exact q F4 H' v (s1.trans (s2.trans (s3.trans s4))) R4 y
end
structure ItOk (K:PySem.W.Frag) (F:Hp) (J:It) (ws:List W):Prop where
 go:∀i H,Same F H->i < ws.length->J.go i H
 stop:∀H,Same F H->J.stop ws.length H
 yld:∀i H x H',Same F H->i < ws.length->J.yld i H x H'->∃w,ws[i]?=some w/\Out K F H (w,false) x H'
noncomputable def tI (K:PySem.W.Frag) (g:GL):TI:=fun σ H R=>∃F pr en en' ws,Rel K F pr en σ H/\g en=some (en',ws)/\∀F' H' J,Same F F'->Rel K F' pr en' σ H'->ItOk K F' J ws->R J H'
section
variable {K:PySem.W.Frag}{F H:Hp}
theorem zcw {F F' : Hp}{a:Addr}{vs:List V}(s:Same F F')(h:SqT K F a vs):SqT K F' a vs:=by
 rcases h with (h | ⟨o,h⟩) | h
 ·exact .inl (.inl (s _ _ h))
 ·exact .inl (.inr ⟨o,s _ _ h⟩)
 ·exact .inr h
theorem zoj {a:Addr}{vs:List V}{ws:List W}(h:SqL K F a vs)(r:Reps K F ws vs):ItOk K F (Itl K a) ws where
 go:=fun i H s hi=>⟨vs,vs[i]'(by rw[<-r.length];exact hi),s.seq h,by rw[Ab]⟩
 stop:=fun H s=>⟨vs,s.seq h,by rw[r.length];exact Ae _⟩
 yld:=fun i H x H' s hi y=>by
  obtain⟨e,y⟩:=y;subst e;obtain⟨w,e,q⟩:=r.getV (y vs (s.seq h));exact⟨w,e,.val q⟩
theorem z5t {a:Addr}{vs:List V}{ws:List W}(h:SqT K F a vs)(r:Reps K F ws vs):ItOk K F (Itt K a) ws where
 go:=fun i H s hi=>⟨vs,vs[i]'(by rw[<-r.length];exact hi),zcw s h,by rw[Ab]⟩
 stop:=fun H s=>⟨vs,zcw s h,by rw[r.length];exact Ae _⟩
 yld:=fun i H x H' s hi y=>by
  obtain⟨e,y⟩:=y;subst e;obtain⟨w,e,q⟩:=r.getV (y vs (zcw s h));exact⟨w,e,.val q⟩
noncomputable def rngW (lo:Int) (n:Nat):List W:=(List.range n).map fun k=>W.int (lo+(k:Nat))
theorem zyg (lo:Int)(n:Nat):ItOk K F (Itr lo n) (rngW lo n) where
 go:=fun i H s hi=>by unfold rngW at hi;rw[Ad,Ct] at hi;exact hi
 stop:=fun H s=>by unfold rngW;rw[Ad,Ct];exact Ae n
 yld:=fun i H x H' s hi y=>by
  obtain⟨e,y⟩:=y;subst e y;unfold rngW at hi ⊢;rw[Ad,Ct] at hi;exact⟨_,by rw[Au,List.getElem?_range hi];rfl,.val (.int _)⟩
noncomputable def zhs (ws:List W) (k:Nat):List W:=match ws with
 | []=>[]
 | w::ws=>.tup [.int k,w]::zhs ws (k+1)
theorem zci:∀(ws:List W) (k:Nat),(zhs ws k).length=ws.length
 | [],_=>rfl
 | _::ws,k=>congrArg (· + 1) (zci ws (k+1))
theorem zer:∀{ws:List W}{k i:Nat}{w:W},ws[i]?=some w->(zhs ws k)[i]?=some (.tup [.int (k+i:Nat),w])
  | [],_,_,_,e=>by simp at e
  | w::ws,k,0,_,e=>by simp at e;subst e;rfl
  | w::ws,k,i+1,u,e=>by
    have:=zer (ws:=ws) (k:=k+1) (i:=i) (w:=u) (by simpa using e);show (zhs ws (k+1))[i]?=_;rw[this];have:k+1+i=k+(i+1):=by omega
    rw[this]
theorem z2r {a:Addr}{vs:List V}{ws:List W}(h:SqL K F a vs)(r:Reps K F ws vs):ItOk K F (Ite K a) (zhs ws 0) where
 go:=fun i H s hi=>by rw[zci] at hi;exact⟨vs,vs[i]'(by rw[<-r.length];exact hi),s.seq h,by rw[Ab]⟩
 stop:=fun H s=>⟨vs,s.seq h,by rw[zci,r.length];exact Ae _⟩
 yld:=fun i H x H' s hi y=>by
  nofun;obtain⟨p,v,e,hp,e2,y⟩:=y;ac_rfl;subst e e2;obtain⟨w,e,q⟩:=r.getV (y vs (s.seq h));refine⟨_,zer e,?_⟩;rw[Cj];exact .tup hp (.cons (.int _) (.cons q .nil))
theorem z47 {a:Addr}{vs:List V}{ws:List W}(h:SqL K F a vs)(r:Reps K F ws vs):ItOk K F (Itv K a vs.length) ws.reverse where
 go:=fun i H s hi=>by rw[Ew,r.length] at hi;exact⟨hi,vs,s.seq h,rfl⟩
 stop:=fun H s=>by rw[Ew,r.length];rfl
 yld:=fun i H x H' s hi y=>by
  obtain⟨e,y⟩:=y;subst e;obtain⟨w,e,q⟩:=r.getV (y vs (s.seq h));refine⟨w,?_,.val q⟩;rw[Ew] at hi;rw[List.getElem?_reverse hi,r.length];exact e
end
section
variable {X:Cx}{tg:Expr}
noncomputable def iSeq (K:PySem.W.Frag) (tl:TE):TI:=fun σ H R=>tl σ H fun x H1=>∃a,x=.ref a/\((∃xs,SqL K H1 a xs)/\R (Itl K a) H1\/(∃xs,SqT K H1 a xs)/\R (Itt K a) H1)
theorem zss {l:Expr}{tl:TE}(hl:PE X l tl):PI X tg l (iSeq X.K tl):=fun pins s σ H R I h =>
 thn (hl pins s σ H _ I h) fun v s1 ⟨x,H1,I1,r1,a,e,q1⟩=>by
  subst e;cases r1;have fp:∀b∈[s1.heap.objs.size],FpOk X pins H1 b:=fun b hb=>by
   rw[Aj] at hb;subst hb;exact I1.fpOk (Ae _) (I1.hok.fresh (Ae _))
  rcases q1 with ⟨⟨xs,hq⟩,q⟩ | ⟨⟨xs,hq⟩,q⟩
  ·obtain⟨its, _, p, _⟩ := I1.list hq;exact Dy p.isList ⟨_,_,_,_,H1,rfl,I1.kept (t':=s1.toks) fun b o e=>Af _ e,zt8 a _,⟨_,As _ rfl,rfl,rfl⟩,fp,q⟩
  ·obtain⟨its, _, p, _⟩ := I1.tuple hq;exact wpAny_pyIter_tuple (show s1.heap.IsTuple a its.toArray from p) ⟨_,_,_,_,H1,rfl,I1.kept (t':=s1.toks) fun b o e=>Af _ e,zrn a _,⟨_,As _ rfl,rfl,rfl⟩,fp,q⟩
end
noncomputable def zas (g:GE):GL:=fun en=>(g en).bind fun p=>(seqW p.2.1).bind fun ws=>some (p.1,ws)
noncomputable def zea (i:Int):Bool:=decide (-(2 ^ 62)<=i) && decide (i < 2 ^ 62)
noncomputable def zeg (as:GAs):GL:=fun en=>(as en).bind fun p=>match za3 p.1 p.2 with
 | some [.int j]=>if zea j then some (p.1,rngW 0 j.toNat) else none
 | _=>none
noncomputable def z98 (as:GAs):GL:=fun en=>(as en).bind fun p=>match za3 p.1 p.2 with
 | some [.int i,.int j]=>if zea i && zea j then some (p.1,rngW i (j - i).toNat) else none
 | _=>none
noncomputable def gRev (g:GE):GL:=fun en=>(g en).bind fun p=>(seqL p.2.1).bind fun ws=>some (p.1,ws.reverse)
theorem zov {i:Int}(h:zea i=true):-(2 ^ 62)<=i/\i < 2 ^ 62:=by
 unfold zea at h;rw[Ac] at h;exact⟨An h.1,An h.2⟩
section
variable {K:PySem.W.Frag}{σ:St}{H:Hp}
theorem zgj {g:GE}{R:It->Hp->Prop} (h:tI K (zas g) σ H R):iSeq K (tE K g) σ H R:=by
  nofun;obtain⟨F,pr,en,en',ws,Re,h,q⟩:=h;obtain⟨⟨e1,rv⟩,h1,h⟩:=bS h;obtain⟨us,hs,h⟩:=bS h;ac_rfl;cases h;refine⟨F,pr,en,e1,rv,Re,h1,fun F1 H1 v s1 R1 z=>?_⟩;nofun;obtain⟨F2,s2,R2,y⟩:=z.freeze R1;obtain⟨w,fl⟩:=rv;ac_rfl;cases w with
  | lst xs=>obtain rfl:=sI hs;cases y with
    | lst y r=>exact⟨_,rfl,.inl ⟨⟨_,SqL.of' (R2.sub _ _ y)⟩,q F2 H1 _ (s1.trans s2) R2 (zoj (SqL.of' y) r)⟩⟩
  | frl xs=>obtain rfl:=sI hs;cases y with
    | frl y r=>exact⟨_,rfl,.inl ⟨⟨_,R2.sub.seq y⟩,q F2 H1 _ (s1.trans s2) R2 (zoj y r)⟩⟩
  | tup xs=>obtain rfl:=sI hs;cases y with
    | tup y r=>exact⟨_,rfl,.inr ⟨⟨_,.inl (.inl (R2.sub _ _ y))⟩,q F2 H1 _ (s1.trans s2) R2 (z5t (.inl (.inl y)) r)⟩⟩
  | _=>cases hs
theorem zu0 {as:GAs}{R:It->Hp->Prop} (h:tI K (zeg as) σ H R):z46 (tAs K as) σ H R:=by
  nofun;obtain⟨F,pr,en,en',ws,Re,h,q⟩:=h;obtain⟨⟨e1,xs⟩,h1,h⟩:=bS h;ac_rfl;refine⟨F,pr,en,e1,xs,Re,h1,fun F1 H1 vs s1 R1 a1=>?_⟩;cases e:za3 e1 xs with
  | none=>simp only [e] at h;exact noSome h
  | some us =>
    have rr:=a1.repBs R1 e
    match us,e,rr with
    | [.int j],e,rr =>
      simp only [e] at h;split at h
      · rename_i z
        cases h;obtain⟨v,e1,hv⟩:=rr.one;subst e1;exact⟨j,by rw[hv.int],(zov z).1,(zov z).2,q F1 H1 _ s1 R1 (zyg 0 j.toNat)⟩
      · exact noSome h
    | [],e,_=>simp only [e] at h;exact noSome h
    | .non::_,e,_=>simp only [e] at h;exact noSome h
    | .bl _::_,e,_=>simp only [e] at h;exact noSome h
    | .str _::_,e,_=>simp only [e] at h;exact noSome h
    | .tup _::_,e,_=>simp only [e] at h;exact noSome h
    | .lst _::_,e,_=>simp only [e] at h;exact noSome h
    | .frl _::_,e,_=>simp only [e] at h;exact noSome h
    | .dic::_,e,_=>simp only [e] at h;exact noSome h
    | .dct _ _::_,e,_=>simp only [e] at h;exact noSome h
    | .dcz _ _::_,e,_=>simp only [e] at h;exact noSome h
    | .int _::_::_,e,_=>simp only [e] at h;exact noSome h
theorem znw {F:Hp}{w:W}{ws:List W}{v:V} (y:Rep K F w v) (hs:seqL w=some ws):∃a vs,v=.ref a/\SqL K F a vs/\Reps K F ws vs:=by
  cases w with
  | lst xs=>obtain rfl:=sI hs;cases y with
    | lst y r=>exact⟨_,_,rfl,SqL.of' y,r⟩
  | frl xs=>obtain rfl:=sI hs;cases y with
    | frl y r=>exact⟨_,_,rfl,y,r⟩
  | _=>cases hs
theorem zx3 {g:GE}{R:It->Hp->Prop}(h:tI K (gRev g) σ H R):iRev K (zhn (tE K g) tNil) σ H R:=by
 nofun;obtain⟨F,pr,en,en',ws,Re,h,q⟩:=h;obtain⟨⟨e1,rv⟩,h1,h⟩:=bS h;obtain⟨us,hs,h⟩:=bS h;ac_rfl;cases h;refine⟨F,pr,en,e1,rv,Re,h1,fun F1 H1 v s1 R1 z=>?_⟩;nofun;obtain⟨F2,s2,R2,y⟩:=z.freeze R1;obtain⟨a,vs,e,hq,r⟩:=znw y hs;ac_rfl;subst e;exact⟨a,vs,rfl,R2.sub.seq hq,q F2 H1 _ (s1.trans s2) R2 (z47 hq r)⟩
end
inductive Tg where
 | nm (i:Nat)
 | tp (is:List Nat)
noncomputable def setAll (mp:List Nat):List Nat->List W->En->Option En
 | [],[],en=>some en
 | i::is,w::ws,en=>if mp.contains i || !decide (i < en.length) then none else setAll mp is ws (en.set i (#v[w,6]))
 | _,_,_=>none
noncomputable def tgSet (mp:List Nat):Tg->W->En->Option En
 | .nm i,w,en=>if mp.contains i || !decide (i < en.length) then none else some (en.set i (#v[w,6]))
 | .tp is,.tup ws,en=>setAll mp is ws en
 | .tp is,.lst ws,en=>setAll mp is ws en
 | _,_,_=>none
noncomputable def zpc:List Nat->TGs
 | []=>gNil
 | i::is=>z53 (zp8 i) (zpc is)
noncomputable def z63 (K:PySem.W.Frag) (n:Nat) (t:TGs):TG:=fun v σ H Q=>∃a xs,v=.ref a/\(SqT K H a xs\/SqL K H a xs)/\xs.length=n/\t xs σ H Q
theorem zvo {X:Cx}{es:List Expr}{k:Nat}{t:TGs}{n:Nat}{pos:Pos}(hc:X.calm=true)(h:PGs X es t)(hn:(assignEach es X.env).length=n)(hst:(assignEach es X.env).findIdx? (·.1)=none):PG X (.Tuple es k pos) (z63 X.K n t):=by
 intro pins s σ H v u Q I r hw;nofun;obtain⟨a,xs,e1,hq,hl,hw⟩:=hw;ac_rfl;rcases hq with hq | hq
 ·exact z6y hc h hn hst pins s σ H v u Q I r ⟨a,xs,e1,hq,hl,hw⟩
 ·subst e1;cases r;nofun;obtain⟨its,rv,⟨o,m,q1,q2,_,q3⟩,hz⟩:=I.list hq;ac_rfl;rw[assign_Tuple];refine Aa (Gz ?_);unfold unpack;have hs:(assignEach es X.env).length=its.toArray.size:=by rw[Al,hn,<-hl,rv.length]
  rw[hs,hst];refine Aa (Co (PySem.W.kun_itemsOf (I.ok.hd hc) ⟨o,q1,q2,m,q3⟩ fun h' hx=>?_));have I1:Inv X pins σ H { s with heap:=h' }:=I.kept (t':=s.toks) fun b o e=>hx b o (At (Ao e)) e;exact h pins _ σ H xs _ Q I1 (by simpa using rv) hw
noncomputable def TGof (K:PySem.W.Frag):Tg->TG
 | .nm i=>zp8 i
 | .tp is=>z63 K is.length (zpc is)
noncomputable def Keep (mp:List Nat) (σ σ' : St):Prop:=∀i∈mp,σ'[i]?=σ[i]?
theorem Keep.refl (mp:List Nat)(σ:St):Keep mp σ σ:=fun _ _=>rfl
theorem Keep.trans {mp:List Nat}{σ σ1 σ2:St}(a:Keep mp σ σ1)(b:Keep mp σ1 σ2):Keep mp σ σ2:=fun i h=>(b i h).trans (a i h)
theorem Keep.set {mp:List Nat}{σ:St}{i:Nat}(h:mp.contains i=false)(v:Option V):Keep mp σ (σ.set i v):=fun j hj=>by
 have:i≠j:=fun e=>by subst e;rw[List.contains_iff_mem.mpr hj] at h;cases h
 exact Cy this
section
variable {K:PySem.W.Frag}{F H:Hp}{pr:Prt}
theorem zec {mp:List Nat}{Q:St->Hp->Prop}:∀{is:List Nat}{ws:List W}{vs:List V}{en en' : En}{σ:St},Rel K F pr en σ H->Reps K F ws vs->setAll mp is ws en=some en'->(∀σ',Rel K F pr en' σ' H->Keep mp σ σ'->Q σ' H)->zpc is vs σ H Q
  | [],[],_,en,en',σ,R,.nil,h,q=>by obtain rfl:=sI h;exact⟨rfl,q σ R (.refl _ _)⟩
  | i::is,w::ws,_,en,en',σ,R,.cons (v:=v) (vs:=vs) h0 r,h,q=>by
    unfold setAll at h;split at h
    · exact noSome h
    · rename_i z
      rw[Cn,not_or,Bo,Bo,Dd] at z;refine⟨v,vs,rfl,?_⟩;exact zec (R.store (r:=(w,false)) (i:=i) h0 (An z.2)) r h fun σ' R' k=>q σ' R' ((Keep.set z.1 _).trans k)
  | [],_::_,_,_,_,_,_,_,h,_=>by exact noSome h
  | _::_,[],_,_,_,_,_,_,h,_=>by exact noSome h
theorem znp {mp:List Nat}{T:Tg}{w:W}{v:V}{en en' : En}{σ:St}{Q:St->Hp->Prop} (R:Rel K F pr en σ H) (h0:Rep K F w v) (h:tgSet mp T w en=some en') (q:∀σ',Rel K F pr en' σ' H->Keep mp σ σ'->Q σ' H):TGof K T v σ H Q:=by
  cases T with
  | nm i =>
    unfold tgSet at h;simp only at h;split at h
    · exact noSome h
    · rename_i z
      rw[Cn,not_or,Bo,Bo,Dd] at z;obtain rfl:=sI h;exact q _ (R.store (r:=(w,false)) h0 (An z.2)) (Keep.set z.1 _)
  | tp is =>
    have go:∀(is:List Nat) (ws:List W) (en en' : En),setAll mp is ws en=some en'->is.length=ws.length:=by
      intro is
      induction is with
      | nil=>intro ws en en' h;cases ws with
        | nil=>rfl
        | cons _ _=>exact noSome h
      | cons i is ih=>intro ws en en' h;cases ws with
        | nil=>exact noSome h
        | cons w ws =>
          unfold setAll at h;split at h
          · exact noSome h
          · exact congrArg (· + 1) (ih _ _ _ h)
    cases w with
    | tup ws =>
      cases h0 with
      | tup hf r =>
        exact⟨_,_,rfl,.inl (.inl (.inl (R.sub _ _ hf))),by rw[go is ws en en' h,r.length],zec R r h q⟩
    | lst ws =>
      cases h0 with
      | lst hf r =>
        exact⟨_,_,rfl,.inr (SqL.of' (R.sub _ _ hf)),by rw[go is ws en en' h,r.length],zec R r h q⟩
    | _=>exact noSome h
end
inductive Fl where
 | nx | ret (r:W × Bool) | brk | cnt
noncomputable abbrev GS:=En->Option (En × Fl)
noncomputable def zw2 (K:PySem.W.Frag) (mp:List Nat) (F:Hp) (pr:Prt) (σ:St) (D:Ends) (en' : En):Fl->Prop
 | .nx=>∀F' σ' H',Same F F'->Rel K F' pr en' σ' H'->Keep mp σ σ'->D.nx σ' H'
 | .brk=>∀F' σ' H',Same F F'->Rel K F' pr en' σ' H'->Keep mp σ σ'->D.bk σ' H'
 | .cnt=>∀F' σ' H',Same F F'->Rel K F' pr en' σ' H'->Keep mp σ σ'->D.ct σ' H'
 | .ret r=>∀F' σ' H' v,Same F F'->Rel K F' pr en' σ' H'->Keep mp σ σ'->Res K F' H' pr en' σ' r v->D.rt v H'
noncomputable def tS (K:PySem.W.Frag) (mp:List Nat) (g:GS):TS:=fun D σ H=>∃F pr en en' fl,Rel K F pr en σ H/\g en=some (en',fl)/\zw2 K mp F pr σ D en' fl
theorem zw2.step {K:PySem.W.Frag}{mp:List Nat}{F F1:Hp}{pr:Prt}{σ σ1:St}{D:Ends}{en' : En}{fl:Fl}(s:Same F F1)(k:Keep mp σ σ1)(h:zw2 K mp F pr σ D en' fl):zw2 K mp F1 pr σ1 D en' fl:=by
 cases fl with
 | nx=>exact fun F' σ' H' s' R' k'=>h F' σ' H' (s.trans s') R' (k.trans k')
 | brk=>exact fun F' σ' H' s' R' k'=>h F' σ' H' (s.trans s') R' (k.trans k')
 | cnt=>exact fun F' σ' H' s' R' k'=>h F' σ' H' (s.trans s') R' (k.trans k')
 | ret r=>exact fun F' σ' H' v s' R' k' z=>h F' σ' H' v (s.trans s') R' (k.trans k') z
noncomputable def zb3:GS:=fun en=>some (en,.nx)
noncomputable def gBrk:GS:=fun en=>some (en,.brk)
noncomputable def gCnt:GS:=fun en=>some (en,.cnt)
noncomputable def gSeq (a b:GS):GS:=fun en=>match a en with
 | some (en',.nx)=>b en'
 | some (en',f)=>some (en',f)
 | none=>none
noncomputable def gRet (g:GE):GS:=fun en=>(g en).bind fun p=>some (p.1,.ret p.2)
noncomputable def z87:GS:=fun en=>some (en,.ret (.non,false))
noncomputable def gIfS (c:GT) (a b:GS):GS:=fun en=>match c en with
 | #v[en',5]=>a en'
 | #v[en',6]=>b en'
 | none=>none
noncomputable def zf1 (g:GE):GS:=fun en=>(g en).bind fun p=>some (p.1,.nx)
noncomputable def gSet (mp:List Nat) (i:Nat) (g:GE):GS:=fun en=>(g en).bind fun p=>if mp.contains i || !decide (i < p.1.length) then none else some (p.1.set i (some p.2),.nx)
noncomputable def gAsg (mp:List Nat) (T:Tg) (g:GE):GS:=fun en=>(g en).bind fun p=>(tgSet mp T p.2.1 p.1).bind fun e=>some (e,.nx)
section
variable {K:PySem.W.Frag}{mp:List Nat}{D:Ends}{σ:St}{H:Hp}
theorem zlw (h:tS K mp zb3 D σ H):z15 D σ H:=by
 obtain⟨F,pr,en,en',fl,R,h,q⟩:=h;cases h;exact q F σ H (.refl F) R (.refl _ _)
theorem zxm {a b:GS} (h:tS K mp (gSeq a b) D σ H):tSeq (tS K mp a) (tS K mp b) D σ H:=by
  nofun;obtain⟨F,pr,en,en',fl,R,h,q⟩:=h;ac_rfl;unfold gSeq at h;cases e:a en with
  | none=>simp only [e] at h;exact noSome h
  | some p =>
    obtain⟨e1,f1⟩:=p;refine⟨F,pr,en,e1,f1,R,e,?_⟩;cases f1 with
    | nx =>
      simp only [e] at h;exact fun F1 σ1 H1 s1 R1 k1=>⟨F1,pr,e1,en',fl,R1,h,q.step s1 k1⟩
    | brk=>simp only [e] at h;cases h;exact q
    | cnt=>simp only [e] at h;cases h;exact q
    | ret r=>simp only [e] at h;cases h;exact q
theorem zww {g:GE}(h:tS K mp (gRet g) D σ H):tRet (tE K g) D σ H:=by
 nofun;obtain⟨F,pr,en,en',fl,R,h,q⟩:=h;obtain⟨⟨e1,r⟩,h1,h⟩:=bS h;ac_rfl;cases h;exact⟨F,pr,en,e1,r,R,h1,fun F' H' v s' R' z=>q F' σ H' v s' R' (.refl _ _) z⟩
theorem zyj {c:GT}{a b:GS} (h:tS K mp (gIfS c a b) D σ H):tIfS (tT K c) (tS K mp a) (tS K mp b) D σ H:=by
  nofun;obtain⟨F,pr,en,en',fl,R,h,q⟩:=h;ac_rfl;unfold gIfS at h;cases e:c en with
  | none=>simp only [e] at h;exact noSome h
  | some p =>
    obtain⟨e1,d⟩:=p;refine⟨F,pr,en,e1,d,R,e,fun F1 H1 s1 R1=>?_⟩;cases d with
    | true=>simp only [e] at h;exact iteT ⟨F1,pr,e1,en',fl,R1,h,q.step s1 (.refl _ _)⟩
    | false=>simp only [e] at h;exact iteF ⟨F1,pr,e1,en',fl,R1,h,q.step s1 (.refl _ _)⟩
theorem zvc {g:GE}(h:tS K mp (zf1 g) D σ H):z73 (tE K g) D σ H:=by
 nofun;obtain⟨F,pr,en,en',fl,R,h,q⟩:=h;obtain⟨⟨e1,r⟩,h1,h⟩:=bS h;ac_rfl;cases h;exact⟨F,pr,en,e1,r,R,h1,fun F' H' v s' R' z=>q F' σ H' s' R' (.refl _ _)⟩
theorem zjl {i:Nat}{g:GE}(h:tS K mp (gSet mp i g) D σ H):tAsg (tE K g) (zp8 i) D σ H:=by
 nofun;obtain⟨F,pr,en,en',fl,R,h,q⟩:=h;obtain⟨⟨e1,r⟩,h1,h⟩:=bS h;ac_rfl;split at h
 ·exact noSome h
 ·rename_i z;rw[Cn,not_or,Bo,Bo,Dd] at z;cases h;exact⟨F,pr,en,e1,r,R,h1,fun F' H' v s' R' y=>q F' _ H' s' (R'.store y (An z.2)) (Keep.set z.1 _)⟩
theorem zwk {T:Tg}{g:GE}(h:tS K mp (gAsg mp T g) D σ H):tAsg (tE K g) (TGof K T) D σ H:=by
 nofun;obtain⟨F,pr,en,en',fl,R,h,q⟩:=h;obtain⟨⟨e1,r⟩,h1,h⟩:=bS h;obtain⟨e2,h2,h⟩:=bS h;ac_rfl;cases h;refine⟨F,pr,en,e1,r,R,h1,fun F1 H1 v s1 R1 y=>?_⟩;nofun;obtain⟨F2,s2,R2,z⟩:=y.freeze R1;ac_rfl;exact znp R2 z h2 fun σ' R' k=>q F2 σ' H1 (s1.trans s2) R' k
noncomputable def gPar (mp:List Nat) (i j:Nat) (a b:GE):GS:=fun en=>(a en).bind fun p=>(b p.1).bind fun q=>if mp.contains i || mp.contains j || !decide (i < q.1.length) || !decide (j < q.1.length) then none else some ((q.1.set i (#v[p.2.1,6])).set j (some q.2),.nx)
theorem zw5 {i j:Nat}{a b:GE} (h:tS K mp (gPar mp i j a b) D σ H):tPar i j (zhn (tE K a) (zhn (tE K b) tNil)) D σ H:=by
  nofun;obtain⟨F,pr,en,en',fl,R,h,q⟩:=h;obtain⟨⟨e1,r1⟩,h1,h⟩:=bS h;obtain⟨⟨e2,r2⟩,h2,h⟩:=bS h;ac_rfl;split at h
  · exact noSome h
  · rename_i z
    simp only [Cn,not_or,Bo,Dd,Ds] at z;refine aG fun _ qG=>?_;obtain ⟨⟨⟨z1,z2⟩,z3⟩,z4⟩:=z;refine qG ?_;clear qG;cases h;refine ⟨F,pr,en,e1,r1,R,h1,fun F1 H1 v1 s1 R1 y1=>?_⟩;refine aG fun _ qG=>?_;obtain ⟨F2,s2,R2,x1⟩:=y1.freeze R1;refine qG ?_;clear qG;refine ⟨F2,pr,e1,e2,r2,R2,h2,fun F3 H3 v2 s3 R3 y2=>⟨v1,v2,rfl,?_⟩⟩;have Ra:Rel K F3 pr (e2.set i (some (r1.1,false))) (σ.set i (some v1)) H3:=R3.store (r:=(r1.1,false)) (x1.mono s3) z3;have y2' : Res K F3 H3 pr (e2.set i (some (r1.1,false))) (σ.set i (some v1)) r2 v2:=by
      obtain⟨w2,fl2⟩:=r2;cases fl2 with
      | false=>exact y2
      | true =>
        nofun;obtain⟨a,vs,ws,q1,q2,q3,q4,q5,q6,q7⟩:=y2;ac_rfl;refine⟨a,vs,ws,q1,q2,q3,q4,q5,fun k w' hk=>?_,q7⟩;rcases zcs z3 hk with ⟨_,e⟩ | ⟨hne,e⟩
        · cases e
        · rw[Cy (Ne.symm hne)];exact q6 k w' e
    exact q F3 _ H3 (s1.trans (s2.trans s3)) (Ra.store y2' (by rw[Dp];exact z4)) ((Keep.set z1 _).trans (Keep.set z2 _))
noncomputable def za7 (i:Nat) (k:GE) (g:GE):GS:=fun en=>(g en).bind fun p=>match p.1[i]? with
  | some (some _)=>(k p.1).bind fun q=>match q.2,q.1[i]? with
    | (.int n,_),some (#v[ws,2])=>(ixN ws.length n).bind fun j=>some (q.1.set i (#v[(ws.set j p.2.1),2]),.nx)
    | _,_=>none
  | _=>none
theorem zq5 {i:Nat}{k g:GE}(h:tS K mp (za7 i k g) D σ H):tAsg (tE K g) (gSub (tVar i) (tE K k) z0m) D σ H:=by
 obtain⟨F,pr,en,en',fl,R,h,q⟩:=h;obtain⟨⟨e1,r1⟩,h1,h⟩:=bS h;refine⟨F,pr,en,e1,r1,R,h1,fun F1 H1 v1 s1 R1 y1=>?_⟩;obtain⟨F2,s2,R2,x1⟩:=y1.freeze R1;split at h
 ·rename_i x0 hx0;obtain⟨⟨e2,r2⟩,h2,h⟩:=bS h;obtain⟨w0,f0⟩:=x0;obtain⟨v0,hv0⟩:=R2.has hx0;refine⟨v0,hv0,F2,pr,e1,e2,r2,R2,h2,fun F3 H3 v2 s3 R3 y2=>?_⟩;split at h
  ·rename_i n fl2 ws eq1 eq2;simp only at eq1;subst eq1;obtain⟨j,hj,h⟩:=bS h;cases h;obtain⟨a,vs,ws',q1,q2,q3,q4,q5⟩:=R3.ownL eq2;cases q1;rw[hv0] at q2;cases q2;refine⟨a,vs,n,j,rfl,y2.isInt,q3,by rw[<-q5.length];exact hj,?_⟩;exact q F3 σ _ (s1.trans (s2.trans s3)) (R3.change eq2 hv0 (q5.set (x1.mono s3) j)) (.refl _ _)
  ·exact noSome h
 ·exact noSome h
noncomputable def gApp (i:Nat) (g:GE):GE:=fun en=>match en[i]? with
  | some (some (.lst _,true))=>(g en).bind fun p=>match p.1[i]? with
    | some (#v[ws,2])=>if ws.length < sizeLine then some (p.1.set i (#v[(ws++[p.2.1]),2]),(.non,false)) else none
    | _=>none
  | _=>none
theorem zy2 {i:Nat}{g:GE}{Q:VK}(h:tE K (gApp i g) σ H Q):tBM K "list" zu3 (tVar i) (zhn (tE K g) tNil) σ H Q:=by
 nofun;obtain⟨F,pr,en,en',r,R,h,q⟩:=h;ac_rfl;unfold gApp at h;split at h
 ·rename_i w0 hx0;nofun;obtain⟨a,vs,ws0,q1,q2,q3,q4,q5⟩:=R.ownL hx0;obtain⟨⟨e1,r1⟩,h1,h⟩:=bS h;ac_rfl;refine⟨.ref a,q2,.inl ⟨rfl,vs,SqL.of' q3⟩,F,pr,en,e1,r1,R,h1,fun F1 H1 v1 s1 R1 y1=>?_⟩;nofun;obtain⟨F2,s2,R2,x1⟩:=y1.freeze R1;ac_rfl;split at h
  ·rename_i ws hx1;split at h
   ·rename_i hz;cases h;nofun;obtain⟨a',vs',ws',p1,p2,p3,p4,p5⟩:=R2.ownL hx1;ac_rfl;cases p1;rw[q2] at p2;cases p2;refine⟨a,vs',v1,rfl,rfl,p3,by rw[<-p5.length];exact hz,?_⟩;exact q F2 _ _ (s1.trans s2) (R2.change hx1 q2 (p5.append (.cons x1 .nil))) .non
   ·exact noSome h
  ·exact noSome h
 ·exact noSome h
noncomputable def gExt (i:Nat) (g:GE):GE:=fun en=>match en[i]? with
  | some (some (.lst _,true))=>(g en).bind fun p=>match p.2.1,p.1[i]? with
    | .lst us,some (#v[ws,2])=>if ws.length+us.length<=sizeLine then some (p.1.set i (#v[(ws++us),2]),(.non,false)) else none
    | _,_=>none
  | _=>none
noncomputable def gAug (mp:List Nat) (o:O2) (i:Nat) (g:GA):GS:=fun en=>match en[i]? with
 | some (#v[w,6])=>(g en).bind fun p=>(resA p.1 p.2).bind fun u=>(o w u).bind fun r=>if mp.contains i || !decide (i < p.1.length) then none else some (p.1.set i (some r),.nx)
 | _=>none
theorem zyq {i:Nat}{o:O2}{r:R2}{g:GA}(ho:OpS K r o)(h:tS K mp (gAug mp o i g) D σ H):tAug i (tA K g) r D σ H:=by
 nofun;obtain⟨F,pr,en,en',fl,R,h,q⟩:=h;ac_rfl;unfold gAug at h;split at h
 ·rename_i w hx;nofun;obtain⟨v,hv,rw'⟩:=R.val i w hx;obtain⟨⟨e1,x1⟩,h1,h⟩:=bS h;obtain⟨u,hu,h⟩:=bS h;obtain⟨rv,hr,h⟩:=bS h;ac_rfl;split at h
  ·exact noSome h
  ·rename_i z;rw[Cn,not_or,Bo,Bo,Dd] at z;cases h;refine⟨v,hv,F,pr,en,e1,x1,R,h1,fun F1 H1 v1 s1 R1 a1=>?_⟩;refine ho F1 H1 w u v v1 rv _ R1.sub (.inl (rw'.mono s1)) (a1.repB R1 hu) hr fun v2 H2 o2=>?_;nofun;obtain⟨F3,s3,R3,y⟩:=o2.close R1;ac_rfl;exact q F3 _ H2 (s1.trans s3) (R3.store y (An z.2)) (Keep.set z.1 _)
 ·exact noSome h
noncomputable def zf0 (mp:List Nat) (T:Tg) (body:GS):List W->En->Option (En × Fl)
  | [],en=>some (en,.nx)
  | w::ws,en=>(tgSet mp T w en).bind fun e1=>match body e1 with
    | some (e2,.nx)=>zf0 mp T body ws e2
    | some (e2,.cnt)=>zf0 mp T body ws e2
    | some (e2,.brk)=>some (e2,.nx)
    | some (e2,.ret r)=>some (e2,.ret r)
    | none=>none
noncomputable def gFor (mp:List Nat) (T:Tg) (it:GL) (body:GS):GS:=fun en=>(it en).bind fun p=>zf0 mp T body p.2 p.1
theorem zyb {T:Tg}{it:GL}{body:GS} (h:tS K mp (gFor mp T it body) D σ H):tFor (tI K it) (TGof K T) (tS K mp body) D σ H:=by
  nofun;obtain⟨F,pr,en,en',fl,R,h,q⟩:=h;obtain⟨⟨e1,ws⟩,h1,h⟩:=bS h;ac_rfl;refine⟨F,pr,en,e1,ws,R,h1,fun F1 H1 J s1 R1 ok=>?_⟩;refine⟨fun i m σ' H'=>m=ws.length - i/\i<=ws.length/\∃F' e',Same F1 F'/\Rel K F' pr e' σ' H'/\Keep mp σ σ'/\zf0 mp T body (ws.drop i) e'=some (en',fl),⟨_,rfl,Bv _,F1,e1,.refl _,R1,.refl _ _,by simpa using h⟩,?_⟩;rintro i m σ' H' ⟨rfl,hi,F',e',s',R',k',hl⟩;by_cases hlt:i < ws.length
  · refine .inr ⟨ok.go i H' (s'.trans R'.sub) hlt, ?_⟩
    have hd:ws.drop i=ws[i]::ws.drop (i+1):=(Ci hlt);rw[hd] at hl;obtain⟨e2,h2,hl⟩:=bS (show (tgSet mp T ws[i] e').bind _=_ from hl);refine⟨fun σ2 H2=>∃F2 e3,Same F1 F2/\Rel K F2 pr e3 σ2 H2/\Keep mp σ σ2/\zf0 mp T body (ws.drop (i+1)) e3=some (en',fl),?_,?_⟩
    · rintro σ2 H2 ⟨F2, e3, s2, R2, k2, hl2⟩
      exact⟨ws.length - (i+1),by omega,rfl,hlt,F2,e3,s2,R2,k2,hl2⟩
    · intro x H2 y
      obtain⟨w,ew,out⟩:=ok.yld i H' x H2 (s'.trans R'.sub) hlt y;rw[Ab hlt] at ew;obtain rfl:=sI ew;nofun;obtain⟨F3,s3,R3,z⟩:=(out.mono s').close R';ac_rfl;refine znp (w:=ws[i]) R3 z h2 fun σ3 R4 k4=>?_;cases eb:body e2 with
      | none=>simp only [eb] at hl;exact noSome hl
      | some p =>
        obtain⟨e5,f5⟩:=p;refine⟨F3,pr,e2,e5,f5,R4,eb,?_⟩;have sF:Same F1 F3:=s'.trans s3;cases f5 with
        | nx =>
          simp only [eb] at hl;exact fun F6 σ6 H6 s6 R6 k6=>⟨F6,e5,sF.trans s6,R6,(k'.trans k4).trans k6,hl⟩
        | cnt =>
          simp only [eb] at hl;exact fun F6 σ6 H6 s6 R6 k6=>⟨F6,e5,sF.trans s6,R6,(k'.trans k4).trans k6,hl⟩
        | brk =>
          simp only [eb] at hl;cases hl;exact fun F6 σ6 H6 s6 R6 k6=>q F6 σ6 H6 (s1.trans (sF.trans s6)) R6 ((k'.trans k4).trans k6)
        | ret r =>
          simp only [eb] at hl;cases hl;exact fun F6 σ6 H6 v s6 R6 k6 z=>q F6 σ6 H6 v (s1.trans (sF.trans s6)) R6 ((k'.trans k4).trans k6) z
  · have e : i = ws.length := by omega
    subst e;rw[List.drop_length] at hl;cases hl;exact .inl ⟨ok.stop H' (s'.trans R'.sub),q F' σ' H' (s1.trans s') R' k'⟩
end
section
variable {X:Cx}
end
section
variable {K:PySem.W.Frag}{σ:St}{H:Hp}
noncomputable def intW:W->Option Int
 | .int k=>some k
 | _=>none
end
section
variable {prog:Program}{w:World}{A:Around}{E:Value->Shared->Prop}{s:Shared}{it d:Addr}{o:Obj}{es:Array DictEntry}{i ep:Nat}
theorem zvq {Q:Value->Shared->Prop} (hd:(d == sysModules)=false) (ho:s.heap.get? d=some o) (hx:o.ExactDict) (hdat:o.data=.dict es ep)
  (hQ:Q (.ref s.heap.objs.size) { s with heap:=s.heap.push { cls:=.type "dict_keyiterator",data:=.fields #[.ref d,.int 0 0,.int es.size 0,.int ep 0] } }):wpAny (model prog w) A (pyIter (.ref d)) Q E s:=by
 have hT:s.TypeIs (.ref d) "dict" := ⟨o,ho,hx.1⟩;refine wpAny_pyIter_slot hT F.slot_dict_iter (Dn F.slot_dict_iter hT F.entry_dict_iter ?_ (F.args_dict_iter_1 _));unfold Builtin.«dict.__iter__» Builtin.Dict.dictSlotNone;refine Aa (Aa (wpAny_notOrdered_dict hT ?_));show wpAny _ _ (pure (Value.ref d)) _ _ s;refine Ai ?_;show wpAny _ _ (Builtin.Dict.showsAll d >>= _) _ _ s;unfold Builtin.Dict.showsAll;rw[if_neg (by rw[hd];decide)];refine Aa (Ai (Aa (wpAny_dictEntries ho hdat (Aa (wpAny_dictEpoch ho hdat ?_)))));refine Aa (Cd (Ai ⟨_,rfl,"dict_keyiterator",_,⟨_,As _ rfl,rfl⟩,F.slot_dict_keyiterator_next.lookup,?_⟩));simpa [rawInt] using hQ
theorem z3z {Q:Option Value->Shared->Prop} (hit:s.heap.IsKeyIter it d i es.size ep) (ho:s.heap.get? d=some o) (hdat:o.data=.dict es ep) (hi:i < es.size)
  (hQ:∀h',h'.IsKeyIter it d (i+1) es.size ep->Heap.SameBut it s.heap h'->Q (some es[i].key) { s with heap:=h' }):wpAny (model prog w) A (pyNext (.ref it)) Q E s:=by
 obtain⟨oi,hoi,hc,hd⟩:=id hit;unfold pyNext;refine Aa (Gh (Cz (name:=Str.ofString "__next__") hit.typeIs Er (Dn Er hit.typeIs F.entry_dict_keyiterator_next ?_ (F.args_dict_keyiterator_next_1 _))));refine Aa (Ai (Aa (Aa ?_)))
 first | refine Aa (El hit.typeIs (Ai ?_)) | refine Aa (Ff hit.typeIs (Ai ?_))
 refine Aa (wpAny_fieldsOf hoi hd ?_);have own:Builtin.Dict_items.ownsTuple "dict_keyiterator" = false:=by decide
 simp only [own,Eh,Fv];show wpAny _ _ (if (Value.ref d == Value.none)=true then _ else _) _ _ s;rw[if_neg (show ¬ ((Value.ref d == Value.none)=true) from Ah)];refine Aa (Ai (Aa (wpAny_dictEntries ho hdat ?_)));rw[if_neg (by simp)];refine Aa (Ai (Aa (wpAny_dictEpoch ho hdat ?_)));rw[if_neg (by simp)];refine Ai ?_;simp only [show ¬ ((i:Int) < 0) from by omega,Fv,Ch,Ev hi];refine Aa ?_
 first | refine Aa (El hit.typeIs (Ai ?_)) | refine Aa (Ff hit.typeIs (Ai ?_))
 refine Aa (wpAny_isOneOf_keyiter hit.typeIs ?_);show wpAny _ _ (setField (.ref it) 1 (rawInt ((i:Int)+1)) >>= _) _ _ s;refine Aa (wpAny_setField hoi hd (by simp) ?_);have hit' : (s.heap.update it (Obj.mapFields (·.setIfInBounds 1 (rawInt ((i:Int)+1))))).IsKeyIter it d (i+1) es.size ep :=
  ⟨_,Heap.get?_update_self _ hoi (Obj.isFreed_of_fields (Gw hd _)),(Obj.cls_mapFields ..).trans hc,by rw[Gw hd];simp [rawInt]⟩
 refine Aa (Co (Aa (wpAny_isOneOf_keyiter (s:={ s with heap:=s.heap.update it (Obj.mapFields (·.setIfInBounds 1 (rawInt ((i:Int)+1)))) }) hit'.typeIs ?_)));show wpAny _ _ (pure es[i].key) _ _ _;exact Ai (Ai ⟨_,rfl,Ai (hQ _ hit' (Dk ..))⟩)
theorem z6c {Q:Option Value->Shared->Prop} (hh:A.handled=none) (hit:s.heap.IsKeyIter it d i es.size ep) (ho:s.heap.get? d=some o) (hdat:o.data=.dict es ep) (hi:es.size<=i)
  (hQ:∀h',Heap.ExtBut it s.heap h'->Q none { s with heap:=h' }):wpAny (model prog w) A (pyNext (.ref it)) Q E s:=by
 obtain⟨oi,hoi,hc,hd⟩:=id hit;unfold pyNext;refine Aa (Gh (Cz (name:=Str.ofString "__next__") hit.typeIs Er (Dn Er hit.typeIs F.entry_dict_keyiterator_next ?_ (F.args_dict_keyiterator_next_1 _))));refine Aa (Ai (Aa (Aa ?_)))
 first | refine Aa (El hit.typeIs (Ai ?_)) | refine Aa (Ff hit.typeIs (Ai ?_))
 refine Aa (wpAny_fieldsOf hoi hd ?_);have own:Builtin.Dict_items.ownsTuple "dict_keyiterator" = false:=by decide
 simp only [own,Eh,Fv];show wpAny _ _ (if (Value.ref d == Value.none)=true then _ else _) _ _ s;rw[if_neg (show ¬ ((Value.ref d == Value.none)=true) from Ah)];refine Aa (Ai (Aa (wpAny_dictEntries ho hdat ?_)));rw[if_neg (by simp)];refine Aa (Ai (Aa (wpAny_dictEpoch ho hdat ?_)));rw[if_neg (by simp)];refine Ai ?_;simp only [show ¬ ((i:Int) < 0) from by omega,Fv,Ch,Fp hi];refine Aa ?_
 first | refine Aa (El hit.typeIs (Ai ?_)) | refine Aa (Ff hit.typeIs (Ai ?_))
 show wpAny _ _ (setField (.ref it) 0 .none >>= _) _ _ s;refine Aa (wpAny_setField hoi hd (by simp) ?_);show wpAny _ _ (newExc (.type "StopIteration") [] >>= _) _ _ _;refine Aa ?_;simp only [newExc,newTuple];refine Aa (Cd ?_ (by size_fits));refine Aa (m:=firstArgMember _ _) (wpAny_of_eq (a:=Value.none) (by first | rfl | (simp only [firstArgMember];rfl)) ?_);refine Cd ?_ (by size_fits);simp only [raiseNew];refine Aa (wpAny_handled ?_);rw[show A.in1.handled=none from hh];refine Aa (Ai (wpAny_throw ?_));refine Aa (wpAny_isInstance (T := "StopIteration") (b:=true) ⟨_,As _ rfl,rfl⟩ isSubtype_stop ?_);exact Ai (hQ _ (((Dk ..).extBut.push _).push _))
end
theorem zjn {P:Program}{w:World}:∀{vs:List (Key × Value)}{us:List Value},us.length=vs.length->(∀(j:Nat) (v:Value),us[j]?=some v->∃k x,vs[j]?=some (k,x)/\(zag P w).is k v=true)->Vals (vs.map fun p=>kV p.1) us
  | [],[],_,_=>.nil
  | [],_::_,h,_=>nomatch h
  | _::_,[],h,_=>nomatch h
  | (k,x)::vs,u::us,h,q=>by
    refine .cons ?_ (zjn (Eu h) fun j v e=>q (j+1) v e);obtain⟨k',x',e,hk⟩:=q 0 u rfl;cases e;rcases keyIs_shape (show zkg k u=true from hk) with ⟨i,t,rfl,rfl⟩ | ⟨i,t,rfl,rfl⟩
    · exact⟨t,rfl⟩
    · exact⟨t,rfl⟩
theorem zmq {kvs:List (Key × V)}{vs:List (Key × Value)}(r:KV kvs vs):(kvs.map fun p=>kV p.1)=vs.map fun p=>kV p.1:=by
 have:=congrArg (List.map kV) r.keys;rw[Ca,Ca] at this;exact this
noncomputable def ItDz (a:Addr) (o:Obj) (xs:List V):It:=⟨fun i H=>i < xs.length/\∃u,H a=some (.frz o u),fun i H x H'=>H'=H/\xs[i]?=some x,fun i H=>xs.length<=i/\∃u,H a=some (.frz o u)⟩
theorem zt5 {P:Program}{w:World}{K:PySem.W.Frag}{tg:Expr}{a it:Addr}{o:Obj}{es:Array DictEntry}{ep:Nat}{xs:List V}(hdat:o.data=.dict es ep)(hv:Vals xs (es.toList.map (·.key))):Turn P w K tg (ItDz a o xs) [it] it (fun i h=>h.IsKeyIter it a i es.size ep) where
 mem:=by simp
 obj:=fun i h st b hb=>by
  have e:b=it:=by simpa using hb
  subst e;obtain⟨o,e,c,d⟩:=st;exact⟨o,e,fun v z=>by rw[d] at z;cases z⟩
 keep:=fun i h h' st k=>st.at fun o e=>k it (by simp) o e
 item:=by
  intro X hP hw hK hc i pins s σ H E I hf st hg;subst hP hw hK;obtain⟨hi,u,hu⟩:=hg;have ho:s.heap.get? a=some o:=(show ObjOk X.prog X.w H s.heap a (.frz o u) from I.hok a _ hu).1;have hl:xs.length=es.size:=by have:=hv.length;simpa using this
  obtain⟨f0,f1,f2,f3,f4,f5⟩:=hf it (by simp);have hi' : i < es.size:=by omega
  obtain⟨y,hy,ry⟩:=hv.get (Ab hi);rw[Au,Ek,Ev hi'] at hy;obtain rfl:=sI hy;refine z3z st ho hdat hi' fun h' st' sb=>?_;have I1:Inv X pins σ H { s with heap:=h' }:=I.turned (t':=s.toks) (fun b o hb e=>(sb.2 b hb).trans e) f0 f1 f3 f4 f5;obtain⟨o',e,c,d⟩:=id st';exact⟨_,rfl,zv3 (s:={ s with heap:=h' }) e c d #v[0,9] ⟨xs[i],H,I1,ry,⟨rfl,Ab hi⟩,st',fun b hb=>(hf b hb).1⟩⟩
 done:=by
  intro X hP hw hK hc i pins s σ H E I hf st hg;subst hP hw hK;obtain⟨hi,u,hu⟩:=hg;have ho:s.heap.get? a=some o:=(show ObjOk X.prog X.w H s.heap a (.frz o u) from I.hok a _ hu).1;have hl:xs.length=es.size:=by have:=hv.length;simpa using this
  obtain⟨f0,f1,f2,f3,f4,f5⟩:=hf it (by simp);exact z6c (I.ok.hd hc) st ho hdat #v[] fun h' eb=>⟨rfl,I.turned (t':=s.toks) (fun b o hb e=>eb b o hb e) f0 f1 f3 f4 f5⟩
 self:=fun _ _ _ _ _ st h=>wpAny_pyIter_keyiter st h
noncomputable def Fz (H:Hp) (a:Addr) (u:HO) (o:Obj) (H' : Hp):Prop:=(H a=some u/\H'=upd H a (.frz o u))\/(H a=some (.frz o u)/\H'=H)
noncomputable def KAt (H:Hp):List (List Key × V)->List Addr->Prop:=Paired fun p b=>H b=some (.tup (p.1.map kV))
noncomputable def iDz (i:Nat):TI:=fun σ H R=>∃a,σ[i]?=some (some (V.ref a)) /\
  ((∃ kvs : List (Key × V), Rd H a (.dK kvs) /\ ∀ o H', Fz H a (.dK kvs) o H' → R (ItDz a o (kvs.map fun p => kV p.1)) H') \/
   ∃kvs:List (List Key × V),Rd H a (.dT kvs)/\∀o H' bs,Fz H a (.dT kvs) o H'->KAt H kvs bs->R (ItDz a o (bs.map V.ref)) H')
theorem zks {P:Program}{w:World}:∀{es:List DictEntry}{vs:List (Key × Value)},Pairs (zag P w) es vs->Vals (vs.map fun p=>kV p.1) (es.map (·.key))
  | _,_,.nil=>.nil
  | _,_,.cons (kv:=(k,x)) h _ q=>by
    refine .cons ?_ (zks q);rcases keyIs_shape (show zkg k _=true from h) with ⟨i,t,rfl,e⟩ | ⟨i,t,rfl,e⟩
    · exact⟨t,e⟩
    · exact⟨t,e⟩
theorem z5a {H:Hp}{κ:List (List Key × Addr × Value)->List DictEntry}:∀{kvs:List (List Key × V)}{xs:List (List Key × Addr × Value)},KT H kvs xs->KAt H kvs (xs.map (·.2.1))
 | _,_,.nil=>.nil
 | _,_,.cons h q=>.cons h.2.1 (z5a (κ:=κ) q)
theorem zlg:∀bs:List Addr,Vals (bs.map V.ref) (bs.map Value.ref)
 | []=>.nil
 | _::bs=>.cons rfl (zlg bs)
section
variable {X:Cx}{tg:Expr}
theorem frzI {pins:List (Addr × Obj)}{σ:St}{H:Hp}{s:Shared}{a:Addr}{u:HO}{o:Obj}(I:Inv X pins σ H s)(hm:Mut (some u))(hr:Rd H a u)(ho:s.heap.get? a=some o)(hn:H a=some u->ObjOk X.prog X.w H s.heap a u->ObjOk X.prog X.w (upd H a (.frz o u)) s.heap a u):∃H',Fz H a u o H'/\Inv X pins σ H' s:=by
 rcases hr with e | ⟨o',e⟩
 ·refine⟨_, .inl ⟨e, rfl⟩, ?_⟩;have:=zfi (h':=s.heap) (t':=s.toks) (ob:=.frz o u) I (by rw[e];exact hm) ⟨rfl,fun _ _=>rfl⟩ ⟨o,ho⟩ ⟨ho,hn e (I.hok a _ e)⟩;exact this
 ·obtain⟨h1, _⟩ := (show ObjOk X.prog X.w H s.heap a (.frz o' u) from I.hok a _ e);rw[ho] at h1;obtain rfl:=sI h1;exact⟨H,.inr ⟨e,rfl⟩,I⟩
theorem z8c {l:Expr}{i:Nat}(hl:PE X l (tVar i)):PI X tg l (iDz i):=fun pins s σ H R I h=>by
 obtain⟨a,hs,h⟩:=h;refine thn (hl pins s σ H (fun x H1=>x=.ref a/\H1=H) I ⟨_,hs,rfl,rfl⟩) fun v s1 ⟨x,H1,I1,r1,e,eH⟩=>?_;subst e eH;cases r1;have fp:∀{H'},Inv X pins σ H' s1->∀b∈[s1.heap.objs.size],FpOk X pins H' b:=fun I' b hb=>by
  rw[Aj] at hb;subst hb;exact I'.fpOk (Ae _) (I'.hok.fresh (Ae _))
 rcases h with ⟨kvs,hr,q⟩ | ⟨kvs,hr,q⟩
 ·obtain⟨z, hd, vs, rel, o, es, ep, ho, hx, hdat, hk, hp, hn⟩ := dk_rd I1.hok hr;obtain⟨H',fz,I2⟩:=frzI (u:=.dK kvs) I1 True.intro hr ho fun _ z=>z;have hv:Vals (kvs.map fun p=>kV p.1) (es.toList.map (·.key)):=by rw[zmq rel];exact zks hp
  exact zvq hd ho hx hdat ⟨_,_,_,_,H',rfl,I2.kept (t':=s1.toks) fun b o e=>Af _ e,zt5 hdat hv,⟨_,As _ rfl,rfl,rfl⟩,fp I2,q o H' fz⟩
 ·obtain ⟨z, hd, xs, rel, o, es, ep, ho, hx, hdat, hes, hn⟩ := (show ObjOk X.prog X.w H1 s1.heap a (.dT kvs) from rd_of I1.hok hr);have ka:KAt H1 kvs (xs.map (·.2.1)):=z5a (κ:=fun _=>[]) rel;obtain ⟨H',fz,I2⟩:=frzI (u:=.dT kvs) I1 True.intro hr ho fun e z=>by
   obtain⟨z,hd,xs,rel,w⟩:=z;exact⟨z,hd,xs,KT.keeps (show KT H1 kvs xs from rel) fun c ys ec=>by rw[upd_ne (zyy ec e (by intro z;cases z))];exact ec,w⟩
  have hv:Vals ((xs.map (·.2.1)).map V.ref) (es.toList.map (·.key)):=by
   have:=zlg (xs.map (·.2.1));rw[Ca,Ca] at this;rw[hes,Ca,Ca];exact this
  exact zvq hd ho hx hdat ⟨_,_,_,_,H',rfl,I2.kept (t':=s1.toks) fun b o e=>Af _ e,zt5 hdat hv,⟨_,As _ rfl,rfl,rfl⟩,fp I2,q o H' _ fz ka⟩
end
noncomputable def zyp:Key->W
 | .inl i=>.int i
 | .inr x=>.str x
noncomputable def dkW:DKey->W
 | .inl k=>zyp k
 | .inr ks=>.tup (ks.map zyp)
noncomputable def zmf (i:Nat):GL:=fun en=>match en[i]? with
 | some (some (.dct ks ws,true))=>some (en.set i (some (.dcz ks ws,false)),ks.map dkW)
 | some (some (.dcz ks ws,false))=>some (en,ks.map dkW)
 | _=>zas (gVar i) en
section
variable {K:PySem.W.Frag}{F F' H:Hp}{pr:Prt}{en:En}{σ:St}
theorem z4i:∀k:Key,Rep K F (zyp k) (kV k)
 | .inl i=>.int i
 | .inr x=>.str x
theorem zny:∀ks:List Key,Reps K F (ks.map zyp) (ks.map kV)
 | []=>.nil
 | k::ks=>.cons (z4i k) (zny ks)
theorem zz3:∀{js:List Key}{vs:List V},js.length=vs.length->((js.zip vs).map fun p=>kV p.1)=js.map kV
  | [],_,_=>rfl
  | _::_,[],h=>nomatch h
  | j::js,v::vs,h=>by
    rw[Bm,Ak,Ak,zz3 (Eu h)]
theorem zor {ks:List Key}{vs:List V}(h:ks.length=vs.length):Reps K F ((ks.map .inl).map dkW) ((ks.zip vs).map fun p=>kV p.1):=by
 rw[zz3 h,Ca];exact zny ks
theorem zjd:∀{ks:List (List Key)}{vs:List V}{bs:List Addr},ks.length=vs.length->KAt F (ks.zip vs) bs->Reps K F ((ks.map .inr).map dkW) (bs.map V.ref)
 | [],_,_,_,.nil=>.nil
 | _::_,[],_,h,_=>nomatch h
 | k::ks,v::vs,_,h,.cons e q=>.cons (.tup e (zny k)) (zjd (Eu h) q)
theorem zwu {a:Addr}{o:Obj}{u:HO}{xs:List V}{ws:List W}(h:F a=some (.frz o u))(r:Reps K F ws xs):ItOk K F (ItDz a o xs) ws where
 go:=fun i H s hi=>⟨by rw[<-r.length];exact hi,u,s _ _ h⟩
 stop:=fun H s=>⟨by rw[r.length];exact Ae _,u,s _ _ h⟩
 yld:=fun i H x H' s hi y=>by
  obtain⟨e,y⟩:=y;subst e;obtain⟨w,e,q⟩:=r.getV y;exact⟨w,e,.val q⟩
theorem Rel.addT (R:Rel K F pr en σ H) {b:Addr}{xs:List V} (h:H b=some (.tup xs)):∃F',Same F F'/\F' b=some (.tup xs)/\Rel K F' pr en σ H:=by
  cases e:F b with
  | some u =>
    have:=R.sub b u e;rw[h] at this;obtain rfl:=sI this;exact⟨F,.refl F,e,R⟩
  | none =>
    have s:Same F (upd F b (.tup xs)):=Same.new e _;refine⟨_,s,upd_same,R.len,fun c u ec=>?_,fun i w ew=>?_,fun i w ew=>?_,R.inj,fun q o hq=>?_,R.tb.go (fun _ _ z=>z) (fun c ps ec f=>⟨ec,by rw[upd_ne (zyy ec h (by intro z;cases z))];exact f⟩) s fun b ps e h=>h⟩
    · by_cases hb : c = b
      · subst hb;rw[upd_same] at ec;obtain rfl:=sI ec;exact h
      · rw[upd_ne hb] at ec;exact R.sub _ _ ec
    · obtain ⟨v, h1, h2⟩ := R.val i w ew
      exact⟨v,h1,h2.mono s⟩
    · obtain ⟨a, o, w', h1, h2, h3, h4, h5⟩ := R.own i w ew
      have ne:a≠b:=fun z=>by subst z;rw[h] at h3;obtain rfl:=sI h3;cases h5
      exact⟨a,o,w',h1,h2,h3,by rw[upd_ne ne];exact h4,h5.mono s⟩
    · obtain ⟨h1, h2, h3⟩ := R.prt q o hq
      have ne:q≠b:=fun z=>by subst z;rw[h] at h1;obtain rfl:=sI h1;exact R.tb.1.2 _ _ hq
      exact⟨h1,by rw[upd_ne ne];exact h2,h3⟩
theorem KAt.mono (s:Same F F'):∀{kvs:List (List Key × V)}{bs:List Addr},KAt F kvs bs->KAt F' kvs bs
 | _,_,.nil=>.nil
 | _,_,.cons e q=>.cons (s _ _ e) (KAt.mono s q)
theorem KAt.upd {a:Addr}{us:List (List Key × V)}{o' : HO}(hH:H a=some (.dT us)):∀{kvs:List (List Key × V)}{bs:List Addr},KAt H kvs bs->KAt (L2.upd H a o') kvs bs
 | _,_,.nil=>.nil
 | _,_,.cons e q=>.cons (by rw[upd_ne (zyy e hH (by intro z;cases z))];exact e) (KAt.upd hH q)
theorem Rel.addTs:∀{kvs:List (List Key × V)}{bs:List Addr}{F:Hp},Rel K F pr en σ H->KAt H kvs bs->∃F',Same F F'/\KAt F' kvs bs/\Rel K F' pr en σ H
  | _,_,F,R,.nil=>⟨F,.refl F,.nil,R⟩
  | _,_,F,R,.cons e q=>by
    obtain⟨F1,s1,e1,R1⟩:=R.addT e;obtain⟨F2,s2,q2,R2⟩:=Rel.addTs R1 q;exact⟨F2,s1.trans s2,.cons (s2 _ _ e1) q2,R2⟩
theorem Rel.frz (R:Rel K F pr en σ H) {i:Nat}{w w' : W}{a:Addr}{u:HO} (o:Obj) (e:en[i]?=some (some (w,true))) (hv:σ[i]?=some (some (V.ref a))) (hH:H a=some u) (hF:F a=none) (hO:OwnR K F w u) (hw:∀F',Same F F'->F' a=some (.frz o u)->Rep K F' w' (.ref a)) :
  Same F (upd F a (.frz o u))/\Rel K (upd F a (.frz o u)) pr (en.set i (#v[w',6])) σ (upd H a (.frz o u)):=by
 have hi:i < en.length:=(Am.mp e).1;have s:Same F (upd F a (.frz o u)):=Same.new hF _;have nt:∀ps,u≠.tbl ps:=fun ps z=>by cases hO<;>cases z
 have g:∀j x b,(en.set i (#v[w',6]))[j]?=some (some (x,b))->(j=i/\x=w'/\b=false)\/(j≠i/\en[j]?=some (some (x,b))):=fun j x b h=>by
  rcases zcs hi h with ⟨z,q⟩ | z
  ·cases q;exact .inl ⟨z,rfl,rfl⟩
  ·exact .inr z
 refine⟨s,by rw[Dp];exact R.len,R.sub.upd_both a _,fun j x ex=>?_,fun j x ex=>?_,fun j k b w1 w2 e1 e2=>?_,fun q o2 hq=>?_,R.tb.go (fun _ _ z=>z) (fun b ps e f=>?_) s fun b ps e h=>h⟩
 ·rcases g j x false ex with ⟨rfl, rfl, _⟩ | ⟨_, z⟩
  ·exact⟨_,hv,hw _ s upd_same⟩
  ·obtain⟨v', q1, q2⟩ := R.val j x z;exact⟨v',q1,q2.mono s⟩
 ·rcases g j x true ex with ⟨_, _, z⟩ | ⟨ne, z⟩
  ·cases z
  ·obtain⟨a', vs', ws', q1, q2, q3, q4, q5⟩ := R.own j x z;have ne2:a'≠a:=fun q=>by subst q;exact ne (R.inj j i a' _ _ z e q2 hv)
   exact⟨a',vs',ws',q1,q2,by rw[upd_ne ne2];exact q3,by rw[upd_ne ne2];exact q4,q5.mono s⟩
 ·rcases g j w1 true e1 with ⟨_, _, z⟩ | ⟨_, z1⟩
  ·cases z
  ·rcases g k w2 true e2 with ⟨_, _, z⟩ | ⟨_, z2⟩
   ·cases z
   ·exact R.inj j k b _ _ z1 z2
 ·obtain⟨h1, h2, h3⟩ := R.prt q o2 hq;have ne:q≠a:=fun z=>by subst z;exact h3 i w e hv
  refine⟨by rw[upd_ne ne];exact h1,by rw[upd_ne ne];exact h2,fun j x ex=>?_⟩;rcases g j x true ex with ⟨_,_,z⟩ | ⟨_,z⟩
  ·cases z
  ·exact h3 j x z
 ·have ne : b ≠ a := fun z => by subst z; rw[hH] at e; exact nt ps (sI e)
  exact⟨by rw[upd_ne ne];exact e,by rw[upd_ne ne];exact f⟩
theorem Fz.new {a:Addr}{u:HO}{o:Obj}{H H' : Hp}(h:Fz H a u o H')(e:H a=some u)(nz:∀o' u',u≠.frz o' u'):H'=upd H a (.frz o u):=by
 rcases h with ⟨_,h⟩ | ⟨h,_⟩
 ·exact h
 ·rw[e] at h;exact absurd (sI h) (nz _ _)
theorem Fz.old {a:Addr}{u:HO}{o o' : Obj}{H H' : Hp}(h:Fz H a u o H')(e:H a=some (.frz o' u))(nz:∀o' u',u≠.frz o' u'):H'=H/\o=o':=by
 rcases h with ⟨h,_⟩ | ⟨h,h'⟩
 ·rw[e] at h;exact absurd (sI h).symm (nz _ _)
 ·rw[e] at h;injection h with h;injection h with h;exact⟨h',h.symm⟩
noncomputable def iDzs (K:PySem.W.Frag) (i:Nat):TI:=fun σ H R=>iDz i σ H R\/iSeq K (tVar i) σ H R
theorem z7u {X:Cx}{tg l:Expr}{i:Nat}(hl:PE X l (tVar i)):PI X tg l (iDzs X.K i):=fun pins s σ H R I h=>h.elim (z8c hl pins s σ H R I) (zss hl pins s σ H R I)
theorem zus {i:Nat}{R:It->Hp->Prop} (h:tI K (zmf i) σ H R):iDzs K i σ H R:=by
  obtain⟨F,pr,en,en',ws,Re,h,q⟩:=h;unfold zmf at h;split at h
  · rename_i ks us e
    injection h with h;obtain⟨rfl,rfl⟩:=Prod.mk.inj h;obtain⟨a,u,w',e0,hs,hH,hF,hO⟩:=Re.own i _ e;subst e0;refine .inl ⟨a,hs,?_⟩;generalize hw:W.dct ks us=w at hO;cases hO with
    | lst r=>cases hw
    | dct hl r =>
      cases hw;refine .inl ⟨_,.inl hH,fun o H' fz=>?_⟩;rw[fz.new hH (fun _ _ z=>nomatch z)];obtain⟨s1,R1⟩:=Re.frz o e hs hH hF (.dct hl r) fun F' s e'=>.dcz e' hl (r.mono s);exact q _ _ _ s1 R1 (zwu upd_same (zor hl))
    | dctT hl r =>
      cases hw;refine .inr ⟨_,.inl hH,fun o H' bs fz ka=>?_⟩;rw[fz.new hH (fun _ _ z=>nomatch z)];obtain⟨s1,R1⟩:=Re.frz o e hs hH hF (.dctT hl r) fun F' s e'=>.dczT e' hl (r.mono s);obtain⟨F2,s2,k2,R2⟩:=R1.addTs (ka.upd hH);exact q _ _ _ (s1.trans s2) R2 (zwu (s2 _ _ upd_same) (zjd hl k2))
  · rename_i ks us e
    injection h with h;obtain⟨rfl,rfl⟩:=Prod.mk.inj h;obtain⟨v,hs,rp⟩:=Re.val i _ e;clear h;generalize hw:W.dcz ks us=w at rp;cases rp with
    | dcz h hl r =>
      cases hw;refine .inl ⟨_,hs,.inl ⟨_,.inr ⟨_,Re.sub _ _ h⟩,fun o H' fz=>?_⟩⟩;obtain⟨rfl,rfl⟩:=fz.old (Re.sub _ _ h) (fun _ _ z=>nomatch z);exact q _ _ _ (.refl _) Re (zwu h (zor hl))
    | dczT h hl r =>
      cases hw;refine .inl ⟨_,hs,.inr ⟨_,.inr ⟨_,Re.sub _ _ h⟩,fun o H' bs fz ka=>?_⟩⟩;obtain⟨rfl,rfl⟩:=fz.old (Re.sub _ _ h) (fun _ _ z=>nomatch z);obtain⟨F2,s2,k2,R2⟩:=Re.addTs ka;exact q _ _ _ s2 R2 (zwu (s2 _ _ h) (zjd hl k2))
    | _=>cases hw
  · exact .inr (zoz (zgj ⟨F,pr,en,en',ws,Re,h,q⟩))
end
noncomputable abbrev Cap:=List (Option Nat)
noncomputable def zf2 (cap:Cap) (en:En):En:=cap.map fun o=>match o with
 | some i=>(en[i]?).getD none
 | none=>none
noncomputable def zat (cap:Cap) (i:Nat):Option Nat:=cap.findIdx? (· == some i)
noncomputable def zce (cap:Cap):Bool:=(List.range cap.length).all fun j=>match cap[j]? with
 | some (some i)=>zat cap i == some j
 | _=>true
noncomputable def capKeep (cap:Cap):List Nat:=(List.range cap.length).filter fun j=>match cap[j]? with
 | some (some _)=>true
 | _=>false
noncomputable def zbb (cap:Cap) (en ce:En):En:=en.mapIdx fun i x=>match zat cap i with
 | some j=>(ce[j]?).getD none
 | none=>x
theorem zbf {cap:Cap}{i j:Nat}(h:zat cap i=some j):cap[j]?=some (some i):=by
 unfold zat at h;obtain⟨hl,h1,_⟩:=List.findIdx?_eq_some_iff_getElem.mp h;rw[Ab hl];have:cap[j]=some i:=by simpa using h1
 rw[this]
theorem zc7 {cap:Cap}{i:Nat}(h:zat cap i=none)(j:Nat):cap[j]?≠some (some i):=fun e=>by
 unfold zat at h;have:=List.findIdx?_eq_none_iff.mp h (some i) (Bn e);simp at this
theorem zf8 {cap:Cap}(h:zce cap=true){i j:Nat}(e:cap[j]?=some (some i)):zat cap i=some j:=by
 unfold zce at h;have hj:j < cap.length:=(Am.mp e).1;have:=Bg.mp h j (Bt.mpr hj);simp only [e] at this;simpa using this
theorem znm {cap:Cap}{i j:Nat}(e:cap[j]?=some (some i)):j∈capKeep cap:=by
 unfold capKeep;exact Cv.mpr ⟨Bt.mpr (Am.mp e).1,by simp only [e]⟩
theorem zds {cap:Cap}{en:En}{j:Nat}{x:W × Bool} (h:(zf2 cap en)[j]?=some (some x)):∃i,cap[j]?=some (some i)/\en[i]?=some (some x):=by
  unfold zf2 at h;rw[Au] at h;cases e:cap[j]? with
  | none=>rw[e] at h;exact noSome h
  | some o =>
    rw[e] at h;cases o with
    | none=>cases h
    | some i =>
      refine⟨i,rfl,?_⟩;have h' : (en[i]?).getD none=some x:=sI h;cases e2:en[i]? with
      | none=>rw[e2] at h';exact noSome h'
      | some z=>rw[e2] at h';exact congrArg some h'
theorem zol {cap:Cap}{σ:St}{i j:Nat}(h:cap[j]?=some (some i)):(capSt cap σ)[j]?=some ((σ[i]?).getD none):=by
 unfold capSt;rw[Au,h]
 rfl
theorem zfh {cap:Cap}{σ:St}{i j:Nat}{v:V}(h:cap[j]?=some (some i))(hv:σ[i]?=some (some v)):(capSt cap σ)[j]?=some (some v):=by
 rw[zol h,hv];rfl
theorem backEn_get {cap:Cap}{en ce:En}{i:Nat}{x:W × Bool} (h:(zbb cap en ce)[i]?=some (some x)):(∃j,zat cap i=some j/\ce[j]?=some (some x))\/(zat cap i=none/\en[i]?=some (some x)):=by
  unfold zbb at h;rw[List.getElem?_mapIdx] at h;cases e:en[i]? with
  | none=>rw[e] at h;exact noSome h
  | some o =>
    rw[e] at h;cases c:zat cap i with
    | none=>simp only [c,Fy] at h;exact .inr ⟨rfl,h⟩
    | some j =>
      simp only [c,Fy] at h;have h' : (ce[j]?).getD none=some x:=sI h;refine .inl ⟨j,rfl,?_⟩;cases e2:ce[j]? with
      | none=>rw[e2] at h';exact noSome h'
      | some z=>rw[e2] at h';exact congrArg some h'
noncomputable def zbr (pr:Prt) (cap:Cap) (en:En) (σ:St) (H:Hp):Prt:=fun b o=>pr b o\/∃(j:Nat) (w:W),en[j]?=some (#v[w,5])/\zat cap j=none/\σ[j]?=some (some (V.ref b))/\H b=some o
noncomputable def zhw (pb:Prt) (acc:Addr) (vs:List V):Prt:=fun b o=>pb b o\/(b=acc/\o=.lst vs)
section
variable {K:PySem.W.Frag}{F H:Hp}{pr pb:Prt}{en:En}{σ:St}
theorem Rel.ownT (R:Rel K F pr en σ H){j:Nat}{w:W}{b:Addr}{ps:Array Value}(e:en[j]?=some (#v[w,5]))(s:σ[j]?=some (some (V.ref b))):H b≠some (.tbl ps):=fun z=>by
 obtain⟨a,o,w',_,h2,h3,_,h5⟩:=R.own j w e;rw[s] at h2;cases h2;rw[z] at h3;obtain rfl:=sI h3;cases h5
theorem zh1 {cap:Cap}{b:Addr}{ps:Array Value}(R:Rel K F pr en σ H)(e:H b=some (.tbl ps))(hh:∀o,¬ pr b o):∀o,¬ zbr pr cap en σ H b o:=fun o z=>by
 rcases z with z | ⟨j,w,q1,_,q2,_⟩
 ·exact hh o z
 ·exact R.ownT q1 q2 e
theorem zia {cap:Cap}{b:Addr}{xs:List V}(R:Rel K F pr en σ H)(z:zbr pr cap en σ H b (.tup xs)):pr b (.tup xs):=by
 rcases z with z | ⟨j,w,q1,_,q2,q3⟩
 ·exact z
 ·obtain⟨a, o, w', _, h2, h3, _, h5⟩ := R.own j w q1;rw[q2] at h2;cases h2;rw[q3] at h3;obtain rfl:=sI h3;cases h5
theorem Rel.accUpd {acc:Addr}{vs us:List V}(R:Rel K F (zhw pb acc vs) en σ H)(hb:∀b o,pb b o->b≠acc):Rel K F (zhw pb acc us) en σ (upd H acc (.lst us)):=by
 obtain⟨a1,a2,a3⟩:=R.prt acc (.lst vs) (.inr ⟨rfl,rfl⟩);have nt:∀b ps,H b=some (.tbl ps)->b≠acc:=fun b ps e z=>by subst z;rw[a1] at e;cases e
 have nx:∀b φ,H b=some (.ext φ)->b≠acc:=fun b φ e z=>by subst z;rw[a1] at e;cases e
 refine⟨R.len,fun b o e=>?_,R.val,fun i w e=>?_,R.inj,fun b o q=>?_,R.tb.go (fun b xs z=>z.elim .inl fun z=>nomatch z.2) (fun b ps e f=>⟨by rw[upd_ne (nt b ps e)];exact e,f⟩) (.refl F) fun b ps e hh o z=>z.elim (fun z=>hh o (.inl z)) fun z=>nt b ps e z.1⟩
 ·have : b ≠ acc := fun z => by subst z; rw[a2] at e; exact noSome e
  rw[upd_ne this];exact R.sub _ _ e
 ·refine aG fun Gg qG => ?_;obtain⟨a,vs',ws,h1,h2,h3,h4,h5⟩:=R.own i w e;ac_rfl;have:a≠acc:=fun z=>by subst z;exact a3 i w e h2
  exact⟨a,vs',ws,h1,h2,by rw[upd_ne this];exact h3,h4,h5⟩
 ·rcases q with q | ⟨rfl, rfl⟩
  ·obtain⟨b1, b2, b3⟩ := R.prt b o (.inl q);exact⟨by rw[upd_ne (hb b o q)];exact b1,b2,b3⟩
  ·exact⟨upd_same,a2,a3⟩
theorem zu4 {cap:Cap}{acc:Addr}(R:Rel K F pr en σ H)(hn:H acc=none):∀b o,zbr pr cap en σ H b o->b≠acc:=fun b o q=>by
 rcases q with q | ⟨j,w,_,_,_,q⟩
 ·exact zaf (R.prt b o q).1 hn
 ·exact zaf q hn
theorem Rel.block {cap:Cap}{acc:Addr}(R:Rel K F pr en σ H)(hn:H acc=none)(nd:zce cap=true):Rel K F (zhw (zbr pr cap en σ H) acc []) (zf2 cap en) (capSt cap σ) (upd H acc (.lst [])):=by
 have fa:F acc=none:=R.sub.free hn;have R2:=R.lay hn (.lst []);refine⟨by unfold zf2 capSt;rw[Ad,Ad],R2.sub,fun j w e=>?_,fun j w e=>?_,fun j l a w w' e1 e2 q1 q2=>?_,fun b o q=>?_,R.tb.go (fun b xs z=>z.elim (zia R) fun z=>nomatch z.2) (fun b ps e f=>⟨by rw[upd_ne (zaf e hn)];exact e,f⟩) (.refl F) fun b ps e hh o z=>z.elim (zh1 R e hh o) fun z=>zaf e hn z.1⟩
 ·refine aG fun Gg qG => ?_;obtain⟨i,c,e⟩:=zds e;obtain⟨v,h1,h2⟩:=R.val i w e;ac_rfl;exact⟨v,zfh c h1,h2⟩
 ·refine aG fun Gg qG => ?_;obtain⟨i,c,e⟩:=zds e;obtain⟨a,vs,ws,h1,h2,h3,h4,h5⟩:=R2.own i w e;ac_rfl;exact⟨a,vs,ws,h1,zfh c h2,h3,h4,h5⟩
 ·refine aG fun Gg qG => ?_;obtain⟨i,c1,e1⟩:=zds e1;obtain⟨k,c2,e2⟩:=zds e2;obtain⟨i',c1',q1⟩:=capSt_get q1;obtain⟨k',c2',q2⟩:=capSt_get q2;ac_rfl;rw[c1] at c1';cases c1';rw[c2] at c2';cases c2';have:=R.inj i k a _ _ e1 e2 q1 q2;subst this;have x:=zf8 nd c1;rw[zf8 nd c2] at x;exact (sI x).symm
 ·have own2:∀(j:Nat) (w:W),(zf2 cap en)[j]?=some (some (w,true))->∃(i:Nat) (a:Addr),cap[j]?=some (some i)/\en[i]?=some (some (w,true))/\σ[i]?=some (some (V.ref a))/\(capSt cap σ)[j]?=some (some (V.ref a))/\∃o,H a=some o:=fun j w e=>by
   nofun;obtain⟨i,c,e⟩:=zds e;obtain⟨a,vs,ws,h1,h2,h3,h4,h5⟩:=R.own i w e;ac_rfl;exact⟨i,a,c,e,h2,zfh c h2,_,h3⟩
  rcases q with (q | ⟨j0,w0,e0,c0,s0,h0⟩) | ⟨rfl,rfl⟩
  ·obtain⟨b1, b2, b3⟩ := R2.prt b o q;refine⟨b1,b2,fun j w e=>?_⟩;nofun;obtain⟨i,a,_,e,h2,h3,_⟩:=own2 j w e;ac_rfl;rw[h3];intro z;cases z;exact b3 i w e h2
  ·refine aG fun Gg qG => ?_;obtain⟨a,vs,ws,h1,h2,h3,h4,h5⟩:=R.own j0 w0 e0;ac_rfl;rw[s0] at h2;cases h2;refine⟨by rw[upd_ne (zaf h0 hn)];exact h0,h4,fun j w e=>?_⟩;nofun;obtain⟨i,a,c,e,h2,h3,_⟩:=own2 j w e;ac_rfl;rw[h3];intro z;cases z;have:=R.inj i j0 _ _ _ e e0 h2 s0;subst this;exact zc7 c0 j c
  ·refine⟨upd_same, fa, fun j w e => ?_⟩;nofun;obtain⟨i,a,c,e,h2,h3,o,h4⟩:=own2 j w e;ac_rfl;rw[h3];intro z;cases z;rw[hn] at h4;exact noSome h4
theorem Rel.unblock {cap:Cap}{acc:Addr}{F' H' : Hp}{ce:En}{σc:St}{vs:List V}{ws:List W} (R:Rel K F pr en σ H) (hn:H acc=none) (s:Same F F') (Rc:Rel K F' (zhw (zbr pr cap en σ H) acc vs) ce σc H') (kp:Keep (capKeep cap) (capSt cap σ) σc) (rs:Reps K F' ws vs) :
  Rel K F' pr (zbb cap en ce) σ H'/\Res K F' H' pr (zbb cap en ce) σ (.lst ws,true) (.ref acc):=by
 have slot:∀(i j:Nat) (v:V),zat cap i=some j->σc[j]?=some (some v)->σ[i]?=some (some v):=fun i j v c e=>by
  have c':=zbf c;rw[kp j (znm c'),zol c'] at e;have e' : (σ[i]?).getD none=some v:=sI e;cases q:σ[i]? with
  | none=>rw[q] at e';exact noSome e'
  | some z=>rw[q] at e';exact congrArg some e'
 obtain⟨a1,a2,a3⟩:=Rc.prt acc (.lst vs) (.inr ⟨rfl,rfl⟩);have un:∀(i:Nat) (w:W),zat cap i=none->en[i]?=some (#v[w,5])->∃(a:Addr) (vs:HO) (ws:W),w=ws/\σ[i]?=some (some (V.ref a))/\H a=some vs/\H' a=some vs/\F' a=none/\OwnR K F ws vs/\∀(j:Nat) (w' : W),ce[j]?=some (#v[w',5])->σc[j]?≠some (some (V.ref a)):=fun i w c e=>by
  nofun;obtain⟨a,vs,ws,h1,h2,h3,h4,h5⟩:=R.own i w e;obtain⟨b1,b2,b3⟩:=Rc.prt a vs (.inl (.inr ⟨i,w,e,c,h2,h3⟩));ac_rfl;exact⟨a,vs,ws,h1,h2,h3,b1,b2,h5,b3⟩
 have capt:∀(i j:Nat) (w:W),zat cap i=some j->ce[j]?=some (#v[w,5])->∃(a:Addr) (vs:HO) (ws:W),w=ws/\σ[i]?=some (some (V.ref a))/\σc[j]?=some (some (V.ref a))/\H' a=some vs/\F' a=none/\OwnR K F' ws vs:=fun i j w c e=>by
  nofun;obtain⟨a,vs,ws,h1,h2,h3,h4,h5⟩:=Rc.own j w e;ac_rfl;exact⟨a,vs,ws,h1,slot i j _ c h2,h2,h3,h4,h5⟩
 refine⟨⟨by unfold zbb;rw[List.length_mapIdx];exact R.len,Rc.sub,fun i w e=>?_,fun i w e=>?_,fun i k a w w' e1 e2 q1 q2=>?_,fun b o q=>?_,Rc.tb.go (fun b xs z=>.inl (.inl z)) (fun b ps e f=>⟨e,f⟩) (.refl F') fun b ps e hh o z=>hh o (.inl (.inl z))⟩,acc,_,_,rfl,rfl,a1,a2,.lst rs,fun i w e=>?_,fun b o q=>zaf (R.prt b o q).1 hn⟩
 ·rcases backEn_get e with ⟨j, c, e⟩ | ⟨c, e⟩
  ·obtain⟨v, h1, h2⟩ := Rc.val j w e;exact⟨v,slot i j v c h1,h2⟩
  ·obtain⟨v, h1, h2⟩ := R.val i w e;exact⟨v,h1,h2.mono s⟩
 ·rcases backEn_get e with ⟨j, c, e⟩ | ⟨c, e⟩
  ·refine aG fun Gg qG => ?_;obtain⟨a,vs,ws,h1,h2,_,h3,h4,h5⟩:=capt i j w c e;ac_rfl;exact⟨a,vs,ws,h1,h2,h3,h4,h5⟩
  ·refine aG fun Gg qG => ?_;obtain⟨a,vs,ws,h1,h2,_,h3,h4,h5,_⟩:=un i w c e;ac_rfl;exact⟨a,vs,ws,h1,h2,h3,h4,h5.mono s⟩
 ·rcases backEn_get e1 with ⟨j, c, e1⟩ | ⟨c, e1⟩
  ·refine aG fun Gg qG => ?_;obtain⟨a',_,_,_,h2,h3,_⟩:=capt i j w c e1;ac_rfl;rw[q1] at h2;cases h2;rcases backEn_get e2 with ⟨l,c2,e2⟩ | ⟨c2,e2⟩
   ·refine aG fun Gg qG => ?_;obtain⟨a',_,_,_,g2,g3,_⟩:=capt k l w' c2 e2;ac_rfl;rw[q2] at g2;cases g2;have:=Rc.inj j l a _ _ e1 e2 h3 g3;subst this;have x:=zbf c;rw[zbf c2] at x;cases x;rfl
   ·refine aG fun Gg qG => ?_;obtain⟨a',_,_,_,g2,_,_,_,_,g3⟩:=un k w' c2 e2;ac_rfl;rw[q2] at g2;cases g2;exact absurd h3 (g3 j w e1)
  ·refine aG fun Gg qG => ?_;obtain⟨a',_,_,_,h2,_,_,_,_,h3⟩:=un i w c e1;ac_rfl;rw[q1] at h2;cases h2;rcases backEn_get e2 with ⟨l,c2,e2⟩ | ⟨c2,e2⟩
   ·refine aG fun Gg qG => ?_;obtain⟨a',_,_,_,g2,g3,_⟩:=capt k l w' c2 e2;ac_rfl;rw[q2] at g2;cases g2;exact absurd g3 (h3 l w' e2)
   ·exact R.inj i k a _ _ e1 e2 q1 q2
 ·obtain⟨b1, b2, b3⟩ := Rc.prt b o (.inl (.inl q));refine⟨b1,b2,fun i w e=>?_⟩;rcases backEn_get e with ⟨j,c,e⟩ | ⟨c,e⟩
  ·refine aG fun Gg qG => ?_;obtain⟨a,_,_,_,h2,h3,_⟩:=capt i j w c e;ac_rfl;rw[h2];intro z;cases z;exact b3 j w e h3
  ·exact (R.prt b o q).2.2 i w e
 ·rcases backEn_get e with ⟨j, c, e⟩ | ⟨c, e⟩
  ·refine aG fun Gg qG => ?_;obtain⟨a,_,_,_,h2,h3,_⟩:=capt i j w c e;ac_rfl;rw[h2];intro z;cases z;exact a3 j w e h3
  ·refine aG fun Gg qG => ?_;obtain⟨a,_,_,_,h2,h3,_⟩:=un i w c e;ac_rfl;rw[h2];intro z;cases z;rw[hn] at h3;exact noSome h3
end
noncomputable def zg0 (mp:List Nat) (T:Tg) (tc:GT) (te:GE):List W->En->Option (En × List W)
  | [],ce=>some (ce,[])
  | w::ws,ce=>(tgSet mp T w ce).bind fun c1=>match tc c1 with
    | #v[c2,5]=>(te c2).bind fun p=>(zg0 mp T tc te ws p.1).bind fun q=>some (q.1,p.2.1::q.2)
    | #v[c2,6]=>zg0 mp T tc te ws c2
    | none=>none
noncomputable def zck (cap:Cap) (T:Tg) (it:GL) (tc:GT) (te:GE):GE:=fun en=>(it en).bind fun p=>if zce cap && decide (p.2.length<=sizeLine) then (zg0 (capKeep cap) T tc te p.2 (zf2 cap p.1)).bind fun q=>some (zbb cap p.1 q.1,(.lst q.2,true)) else none
noncomputable def gYes:GT:=fun en=>#v[en,5]
noncomputable def zfq (mp:List Nat) (T:Tg) (tc:GT) (em:GL):List W->En->Option (En × List W)
  | [],ce=>some (ce,[])
  | w::ws,ce=>(tgSet mp T w ce).bind fun c1=>match tc c1 with
    | #v[c2,5]=>(em c2).bind fun p=>(zfq mp T tc em ws p.1).bind fun q=>some (q.1,p.2++q.2)
    | #v[c2,6]=>zfq mp T tc em ws c2
    | none=>none
noncomputable def gOne (te:GE):GL:=fun en=>(te en).bind fun p=>some (p.1,[p.2.1])
noncomputable def zzf (cap:Cap) (T:Tg) (it:GL) (tc:GT) (em:GL):GE:=fun en=>(it en).bind fun p=>if zce cap then (zfq (capKeep cap) T tc em p.2 (zf2 cap p.1)).bind fun q=>if q.2.length<=sizeLine then some (zbb cap p.1 q.1,(.lst q.2,true)) else none else none
theorem zg7 {mp:List Nat}{T:Tg}{tc:GT}{te:GE}:∀{ws:List W}{ce ce' : En}{out:List W},zg0 mp T tc te ws ce=some (ce',out)->zfq mp T tc (gOne te) ws ce=some (ce',out)/\out.length<=ws.length
  | [],_,_,_,h=>by cases h;exact⟨rfl,Ae _⟩
  | w::ws,ce,ce',out,h=>by
    obtain ⟨c1,h1,h⟩:=bS (show (tgSet mp T w ce).bind _=_ from h);have e:zfq mp T tc (gOne te) (w::ws) ce=match tc c1 with
      | #v[c2,5]=>(gOne te c2).bind fun p=>(zfq mp T tc (gOne te) ws p.1).bind fun q=>some (q.1,p.2++q.2)
      | #v[c2,6]=>zfq mp T tc (gOne te) ws c2
      | none=>none:=by rw[zfq,h1];rfl
    rw[e];cases et:tc c1 with
    | none=>simp only [et] at h;exact noSome h
    | some p =>
      obtain⟨c2,b⟩:=p;cases b with
      | false=>simp only [et] at h;exact⟨(zg7 h).1,Nat.le_succ_of_le (zg7 h).2⟩
      | true =>
        simp only [et] at h;obtain⟨⟨c3,rv⟩,h5,h⟩:=bS h;obtain⟨⟨c4,rest⟩,h6,h⟩:=bS h;cases h;refine⟨?_,Nat.succ_le_succ (zg7 h6).2⟩;show (gOne te c2).bind _=_;rw[gOne,h5];show (zfq mp T tc (gOne te) ws c3).bind _=_;rw[(zg7 h6).1]
        rfl
noncomputable def MOk (K:PySem.W.Frag) (mp:List Nat) (pb:Prt) (acc:Addr) (em:GL) (tm:TM):Prop:=∀(F:Hp) (ce:En) (σ:St) (H:Hp) (vs:List V) (ce' : En) (out:List W) (N:St->Hp->Prop),Rel K F (zhw pb acc vs) ce σ H->em ce=some (ce',out)->vs.length+out.length<=sizeLine ->
 (∀F' σ' H' us,Same F F'->Rel K F' (zhw pb acc (vs++us)) ce' σ' H'->Keep mp σ σ'->Reps K F' out us->N σ' H')->tm σ H N
section
variable {K:PySem.W.Frag}{mp:List Nat}{pb:Prt}{acc:Addr}
theorem z8s {te:GE}(hb:∀b o,pb b o->b≠acc):MOk K mp pb acc (gOne te) (zwy acc (tE K te)):=by
 intro F ce σ H vs ce' out N R h hz q;nofun;obtain⟨⟨c3,rv⟩,h5,h⟩:=bS h;ac_rfl;cases h;refine⟨F,_,ce,c3,rv,R,h5,fun F6 H6 v s6 R6 y6=>?_⟩;nofun;obtain⟨F7,s7,R7,y7⟩:=y6.freeze R6;obtain⟨a1,_,_⟩:=R7.prt acc (.lst vs) (.inr ⟨rfl,rfl⟩);ac_rfl;exact⟨vs,a1,hz,q F7 σ _ [v] (s6.trans s7) (R7.accUpd hb) (.refl _ _) (.cons y7 .nil)⟩
theorem z3n {em:GL}{tm:TM}{T:Tg}{tc:GT}{F1:Hp}{vs0:List V}{ce0 ce' : En}{σ0:St}{H0:Hp}{J:It}{ws out:List W}{N0:St->Hp->Prop} (M:MOk K mp pb acc em tm) (R:Rel K F1 (zhw pb acc vs0) ce0 σ0 H0) (ok:ItOk K F1 J ws) (h:zfq mp T tc em ws ce0=some (ce',out)) (hz:vs0.length+out.length<=sizeLine)
    (q:∀F' σ' H' us,Same F1 F'->Rel K F' (zhw pb acc (vs0++us)) ce' σ' H'->Keep mp σ0 σ'->Reps K F' out us->N0 σ' H'):zpm J (TGof K T) (tT K tc) tm σ0 H0 N0:=by
  refine ⟨fun i m σc Hc=>m=ws.length - i/\i<=ws.length/\∃F' ce dn us rest,Same F1 F'/\Rel K F' (zhw pb acc (vs0++us)) ce σc Hc/\Keep mp σ0 σc/\Reps K F' dn us/\zfq mp T tc em (ws.drop i) ce=some (ce',rest)/\dn++rest=out,
    ⟨_,rfl,Bv _,F1,ce0,[],[],out,.refl _,by rw[Br];exact R,.refl _ _,.nil,h,rfl⟩,?_⟩
  rintro i m σc Hc ⟨rfl,hi,F',ce,dn,us,rest,s',R',k',rd,hl,ho⟩;by_cases hlt:i < ws.length
  · refine .inr ⟨ok.go i Hc (s'.trans R'.sub) hlt, ?_⟩
    have hd:ws.drop i=ws[i]::ws.drop (i+1):=(Ci hlt);rw[hd] at hl;obtain⟨c1,h3,hl⟩:=bS (show (tgSet mp T ws[i] ce).bind _=_ from hl);refine⟨fun σ2 H2=>∃F' ce dn us rest,Same F1 F'/\Rel K F' (zhw pb acc (vs0++us)) ce σ2 H2/\Keep mp σ0 σ2/\Reps K F' dn us/\zfq mp T tc em (ws.drop (i+1)) ce=some (ce',rest)/\dn++rest=out,fun σ2 H2 z=>⟨ws.length - (i+1),by omega,rfl,hlt,z⟩,?_⟩;intro x H2 y;obtain⟨w,ew,o⟩:=ok.yld i Hc x H2 (s'.trans R'.sub) hlt y;rw[Ab hlt] at ew;obtain rfl:=sI ew;nofun;obtain⟨F3,s3,R3,z3⟩:=(o.mono s').close R';ac_rfl;refine znp (w:=ws[i]) R3 z3 h3 fun σ3 R4 k4=>?_;cases et:tc c1 with
    | none=>simp only [et] at hl;exact noSome hl
    | some p =>
      obtain⟨c2,b⟩:=p;refine⟨F3,_,c1,c2,b,R4,et,fun F5 H5 s5 R5=>?_⟩;cases b with
      | false =>
        simp only [et] at hl;exact iteF ⟨F5,c2,dn,us,rest,s'.trans (s3.trans s5),R5,k'.trans k4,rd.mono (s3.trans s5),hl,ho⟩
      | true =>
        simp only [et] at hl;nofun;obtain⟨⟨c3,o1⟩,h5,hl⟩:=bS hl;obtain⟨⟨c4,rest'⟩,h6,hl⟩:=bS hl;ac_rfl;cases hl;refine iteT (M F5 c2 σ3 H5 (vs0++us) c3 o1 _ R5 h5 ?_ fun F6 σ6 H6 us2 s6 R6 k6 r6=>?_)
        · dsimp only at ho
          rw[<-ho,Ba,Ba,rd.length] at hz;rw[Ba];omega
        · have sAll : Same F' F6 := s3.trans (s5.trans s6)
          exact⟨F6,c3,dn++o1,us++us2,rest',s'.trans sAll,by rw[<-Az];exact R6,k'.trans (k4.trans k6),(rd.mono sAll).append r6,h6,by rw[Az];exact ho⟩
  · have e : i = ws.length := by omega
    subst e;rw[List.drop_length] at hl;cases hl;rw[Br] at ho;subst ho;exact .inl ⟨ok.stop Hc (s'.trans R'.sub),q F' σc Hc us s' R' k' rd⟩
end
theorem zra {K:PySem.W.Frag}{cap:Cap}{T:Tg}{it:GL}{tc:GT}{em:GL}{tm:Addr->TM}{σ:St}{H:Hp}{Q:VK}(M:∀(pb:Prt) (acc:Addr),(∀b o,pb b o->b≠acc)->MOk K (capKeep cap) pb acc em (tm acc))(h:tE K (zzf cap T it tc em) σ H Q):zrr (tI K it) cap (TGof K T) (tT K tc) tm σ H Q:=by
 nofun;obtain⟨F,pr,en,en',r,R,h,q⟩:=h;obtain⟨⟨e1,ws⟩,h1,h⟩:=bS h;ac_rfl;refine⟨F,pr,en,e1,ws,R,h1,fun F1 H1 J s1 R1 ok acc hacc=>?_⟩;split at h
 ·rename_i nd;nofun;obtain⟨⟨ce',out⟩,h2,h⟩:=bS h;ac_rfl;split at h
  ·rename_i hz;cases h;refine z3n (M _ acc (zu4 (cap:=cap) R1 hacc)) (R1.block hacc nd) ok h2 (by rw[Dh,Cj];exact hz) fun F' σ' H' us s' R' k' rd=>?_;obtain⟨Ro,rz⟩:=R1.unblock hacc s' R' k' rd;exact q F' H' _ (s1.trans s') Ro rz
  ·exact noSome h
 ·exact noSome h
theorem zv5 {K:PySem.W.Frag}{cap:Cap}{T:Tg}{it:GL}{tc:GT}{te:GE}{σ:St}{H:Hp}{Q:VK}(h:tE K (zck cap T it tc te) σ H Q):zrr (tI K it) cap (TGof K T) (tT K tc) (fun acc=>zwy acc (tE K te)) σ H Q:=by
 refine zra (fun pb acc hb=>z8s hb) ?_;obtain⟨F,pr,en,en',r,R,h,q⟩:=h;refine⟨F,pr,en,en',r,R,?_,q⟩;nofun;obtain⟨⟨e1,ws⟩,h1,h⟩:=bS h;ac_rfl;split at h
 ·rename_i z;rw[Ac] at z;nofun;obtain⟨⟨ce',out⟩,h2,h⟩:=bS h;ac_rfl;obtain⟨h3,h4⟩:=zg7 h2;rw[zzf,h1];show (if zce cap=true then (zfq (capKeep cap) T tc (gOne te) ws (zf2 cap e1)).bind _ else none)=_;rw[if_pos z.1,h3];show (if out.length<=sizeLine then _ else none)=_;rw[if_pos (Cq h4 (An z.2))];exact h
 ·exact noSome h
noncomputable def z85:GE:=fun en=>some (en,(.dic,false))
noncomputable def keyW:W->Bool
 | .int _=>true
 | .str _=>true
 | _=>false
noncomputable def z9w (k v:GE):GE:=fun en=>(k en).bind fun p=>if keyW p.2.1 then (v p.1).bind fun q=>some (q.1,(.dic,false)) else none
noncomputable def Src (h:Heap) (it l:Addr) (k:Nat) (xs:Array Value):Prop:=(h.IsListIter it l k/\h.IsList l xs)\/(h.IsTupleIter it l k/\h.IsTuple l xs)
section
variable {prog:Program}{w:World}{A:Around}{E:Value->Shared->Prop}{s:Shared}
theorem zyd {it l:Addr}{k:Nat}{xs:Array Value}{x:Value}{Q:Value->Shared->Prop} (c:Src s.heap it l k xs) (hx:xs[k]?=some x) (ne:l≠it)
  (q:∀h',Src h' it l (k+1) xs->Heap.SameBut it s.heap h'->Q x { s with heap:=h' }):wpAny (model prog w) A (Builtin.SmallTypes.nextOf (.ref it)) Q E s:=by
 rcases c with ⟨c1,c2⟩ | ⟨c1,c2⟩
 ·exact wpAny_nextOf_list_item c1 c2 hx fun h' a b=>q h' (.inl ⟨a,c2.at fun o e=>(b.2 l ne).trans e⟩) b
 ·refine aG fun Gg qG => ?_;obtain⟨oi,ei,ci,di⟩:=id c1;obtain⟨os,es,cs,ns,ds⟩:=id c2;ac_rfl;unfold Builtin.SmallTypes.nextOf;refine Aa (Cz (name:=Str.ofString "__next__") c1.typeIs Ey (Dn Ey c1.typeIs F.entry_tuple_iterator_next ?_ (F.args_tuple_iterator_next_1 _)));refine (show wpAny _ _ (field (.ref it) 0 >>= _) _ _ s from Aa (Fq ei di (x:=.ref l) rfl ?_));refine (show wpAny _ _ (if (Value.ref l == Value.none)=true then _ else _) _ _ s from ?_);rw[if_neg (by intro z;cases z)];refine (show wpAny _ _ (field (.ref it) 1 >>= _) _ _ s from Aa (Fq ei di (x:=.int k 0) rfl ?_));refine (show wpAny _ _ (seqItems? (.ref l) >>= _) _ _ s from Aa (wpAny_seqItems es ds ?_));simp only [Ch,hx];refine Aa (wpAny_setField ei di (by simp) (Ai ⟨x,rfl,Ai ?_⟩));refine q _ (.inr ⟨⟨_,Heap.get?_update_self _ ei (Obj.isFreed_of_fields (Gw di _)),(Obj.cls_mapFields ..).trans ci,by rw[Gw di];simp [rawInt]⟩,os,?_,cs,ns,ds⟩) (Dk ..);exact ((Dk ..).2 l ne).trans es
theorem zr0 {it l:Addr}{k:Nat}{xs:Array Value}{Q:Value->Shared->Prop} (hn:A.handled=none) (c:Src s.heap it l k xs) (hx:xs[k]?=none)
  (q:∀h' e,Heap.ExtBut it s.heap h'->(∃o,h'.get? e=some o/\o.cls=.type "StopIteration")->E (.ref e) { s with heap:=h' }):wpAny (model prog w) A (Builtin.SmallTypes.nextOf (.ref it)) Q E s:=by
 rcases c with ⟨c1,c2⟩ | ⟨c1,c2⟩
 ·exact wpAny_nextOf_list_end hn c1 c2 hx q
 ·obtain⟨oi, ei, ci, di⟩ := id c1;obtain⟨os,es,cs,ns,ds⟩:=id c2;unfold Builtin.SmallTypes.nextOf;refine Aa (Cz (name:=Str.ofString "__next__") c1.typeIs Ey (Dn Ey c1.typeIs F.entry_tuple_iterator_next ?_ (F.args_tuple_iterator_next_1 _)));refine (show wpAny _ _ (field (.ref it) 0 >>= _) _ _ s from Aa (Fq ei di (x:=.ref l) rfl ?_));refine (show wpAny _ _ (if (Value.ref l == Value.none)=true then _ else _) _ _ s from ?_);rw[if_neg (by intro z;cases z)];refine (show wpAny _ _ (field (.ref it) 1 >>= _) _ _ s from Aa (Fq ei di (x:=.int k 0) rfl ?_));refine (show wpAny _ _ (seqItems? (.ref l) >>= _) _ _ s from Aa (wpAny_seqItems es ds ?_));simp only [Ch,hx];refine Aa (Eo (Aa (wpAny_setField ei di (by simp) (show wpAny _ _ (newExc (.type "StopIteration") [] >>= _) _ _ _ from Aa ?_))));simp only [newExc,newTuple];refine Aa (Cd (Aa (m:=firstArgMember _ _) (wpAny_of_eq (a:=Value.none) (by first | rfl | (simp only [firstArgMember];rfl)) (Cd ?_ (by size_fits)))) (by size_fits));simp only [raiseNew];refine Aa (wpAny_handled ?_);rw[show A.in1.handled=none from hn];exact Aa (Ai (wpAny_throw (q _ _ (((Dk ..).extBut.push _).push _) ⟨_,As _ rfl,rfl⟩)))
end
noncomputable def SrcO (h:Heap) (b:Bool) (l:Addr) (xs:Array Value):Prop:=match b with
 | true=>h.IsList l xs
 | false=>h.IsTuple l xs
section
variable {prog:Program}{w:World}{A:Around}{E:Value->Shared->Prop}{s:Shared}
end
section
variable {prog:Program}{w:World}{A:Around}{E:Value->Shared->Prop}{s:Shared}
end
noncomputable def SqK (K:PySem.W.Frag) (k:Bool) (H:Hp) (a:Addr) (xs:List V):Prop:=match k with
 | true=>SqL K H a xs
 | false=>SqT K H a xs
section
variable {X:Cx}
end
noncomputable def zipW:List W->List W->List W
 | x::xs,y::ys=>.tup [x,y]::zipW xs ys
 | _,_=>[]
noncomputable def gZip (g g' : GE):GL:=fun en=>(g en).bind fun p=>(g' p.1).bind fun q=>(seqW p.2.1).bind fun ws=>(seqW q.2.1).bind fun us=>some (q.1,zipW ws us)
section
variable {K:PySem.W.Frag}{F H:Hp}{σ:St}
theorem zmz {w:W}{ws:List W}{v:V} (y:Rep K F w v) (hs:seqW w=some ws):∃a k vs,v=.ref a/\SqK K k F a vs/\Reps K F ws vs:=by
  cases w with
  | lst xs=>obtain rfl:=sI hs;cases y with
    | lst y r=>exact⟨_,true,_,rfl,SqL.of' y,r⟩
  | frl xs=>obtain rfl:=sI hs;cases y with
    | frl y r=>exact⟨_,true,_,rfl,y,r⟩
  | tup xs=>obtain rfl:=sI hs;cases y with
    | tup y r=>exact⟨_,false,_,rfl,.inl (.inl y),r⟩
  | _=>exact noSome hs
end
open AutoSeq1 (wpAny_loadPart')
section
variable {prog:Program}{w:World}{A:Around}{E:Value->Shared->Prop}{s:Shared}
theorem zup {it l:Addr}{xs:Array Value}(ne:l≠it)(hn:A.handled=none):Draws prog w A.in1 it [it,l] xs.size (fun i x=>xs[i]?=some x) (fun k h=>h.IsTupleIter it l k/\h.IsTuple l xs) where
 live:=fun i h st=>let ⟨⟨o,e,_⟩,_⟩:=st;⟨o,e⟩
 frame:=fun i h h' st k=>⟨st.1.at fun o e=>k it (by simp) o e,let ⟨o,e,r⟩:=st.2;⟨o,k l (by simp) o e,r⟩⟩
 item:=fun i s Q E hi st q=>zyd (k:=i) (xs:=xs) (x:=xs[i]) (.inr st) (Ev hi) ne fun h' c sb=>by
  rcases c with ⟨⟨o,e,c1,_⟩,c2⟩ | c
  ·obtain ⟨o', e', c1', _⟩ := st.1;have:=st.2;exact absurd c2 (fun c2=>by
    obtain⟨o2,e2,c3,_⟩:=c2;obtain⟨o3,e3,c4,_⟩:=st.2;rw[(sb.2 l ne).trans e3] at e2;obtain rfl:=sI e2;rw[c4] at c3;exact absurd (Value.type.inj c3) #v[0,9])
  ·exact q xs[i] h' s.toks (Ev hi) c sb
 done:=fun s Q E st q=>zr0 (k:=xs.size) (xs:=xs) (show A.in1.handled=none from hn) (.inr st) (Fp (Ae _)) q
theorem zmm (l:Addr) (items:Array Value) (n:Nat) (dct:Option Addr) (sl:Array (Option Value)) :
  Meets (Builtin.«enumerate.__new__» ⟨[.type "enumerate",.ref l],[]⟩) (fun _ R s=>s.heap.get? l=some { cls:=.type "tuple",dict:=dct,data:=.seq items n,slots:=sl } /\
   R (.ok (.ret (.ref (s.heap.push { cls:=.type "tuple_iterator",data:=.fields #[.ref l,.int 0 0] }).objs.size)))
    { s with heap:=(s.heap.push { cls:=.type "tuple_iterator",data:=.fields #[.ref l,.int 0 0] }).push { cls:=.type "enumerate",data:=.fields #[.none,.bool false,.ref s.heap.objs.size,rawInt 0,.none,.none] } }) :=
 .of_wp fun prog w A R s h=>by
  obtain⟨hp,g,d,tk,os⟩:=s;obtain⟨hl,h⟩:=h;have hsub:=sub_enumerate;have hL:Heap.IsTuple (Shared.heap ⟨hp,g,d,tk,os⟩) l items:=⟨_,hl,rfl,n,rfl⟩
  wp_walk using Dj hl
  refine wpAny_stack_any fun st=>Ai ?_;split
  ·rename_i c _ _ _ _ _;cases (c == Value.type "enumerate")<;>(wp_walk using Dj hl,wpAny_pyIter_tuple hL)<;>exact⟨_,rfl,h⟩
  ·wp_walk using Dj hl, wpAny_pyIter_tuple hL
   exact⟨_,rfl,h⟩
theorem zrd {l:Addr}{items:Array Value}{Q:Value->Shared->Prop} (hL:s.heap.IsTuple l items)
  (h:∀h',IsEnum h' (s.heap.objs.size+1) s.heap.objs.size 0 .none->h'.IsTupleIter s.heap.objs.size l 0->(∀b o,s.heap.get? b=some o->h'.get? b=some o)->Q (.ref (s.heap.objs.size+1)) { s with heap:=h' }) :
  wpAny (model prog w) A (call (.type "enumerate") [.ref l]) Q E s:=by
 nofun;obtain⟨⟨c,dct,dt,sl⟩,hl,hc,n,hd⟩:=hL;ac_rfl;cases (show c=.type "tuple" from hc);cases (show dt=.seq items n from hd);refine callType_new F.called_enumerate #v[0,9] (F.typeCall_enumerate_1 _) (F.newCall_enumerate_1 _) (fun obj=>F.args_object_init_2 obj _) F.entry_enumerate_new (zmm l items n dct sl) ⟨hl,?_⟩;have hz:(s.heap.push { cls:=.type "tuple_iterator",data:=.fields #[.ref l,.int 0 0] }).objs.size=s.heap.objs.size+1:=Fw ..;show _/\_;rw[hz];have he:=As (s.heap.push { cls:=.type "tuple_iterator",data:=.fields #[.ref l,.int 0 0] }) (o:={ cls:=.type "enumerate",data:=.fields #[.none,.bool false,.ref s.heap.objs.size,rawInt 0,.none,.none] }) rfl;rw[hz] at he;exact⟨⟨_,he,rfl⟩,h _ he ⟨_,Af _ (As _ rfl),rfl,rfl⟩ fun b o x=>Af _ (Af _ x)⟩
end
noncomputable def IteT (K:PySem.W.Frag) (a:Addr):It :=
 ⟨fun i H=>∃xs x,SqT K H a xs/\xs[i]?=some x,fun i H x H'=>∃p v,x=.ref p/\H p=none/\H'=upd H p (.tup [.int i,v])/\∀xs,SqT K H a xs->xs[i]?=some v,fun i H=>∃xs,SqT K H a xs/\xs.length<=i⟩
theorem zqd {P:Program}{w:World}{K:PySem.W.Frag}{es:List Expr}{x1}{px:Pos}(a e it:Addr)(hei:e≠it)(hea:e≠a)(hai:a≠it):Turn P w K (.Tuple es x1 px) (IteT K a) [e,it] e (fun i h=>(∃old,IsEnum h e it i old)/\h.IsTupleIter it a i) where
 mem:=by simp
 obj:=fun i h st b hb=>by
  nofun;obtain⟨⟨old,he⟩,o,hi,c,d⟩:=st;ac_rfl;rcases Ax.mp hb with rfl | hb
  ·exact⟨_,he,fun v z=>by cases z⟩
  ·have : b = it := by simpa using hb
   subst this;exact⟨o,hi,fun v z=>by rw[d] at z;cases z⟩
 keep:=fun i h h' st k=>⟨let ⟨old,he⟩:=st.1;⟨old,k e (by simp) _ he⟩,st.2.at fun o z=>k it (by simp) o z⟩
 item:=by
  intro X hP hw hK hc i pins s σ H E I hf st hg;subst hP hw hK;nofun;obtain⟨xs,x,hq,hx⟩:=hg;obtain⟨its,rv,p,hz⟩:=I.tuple hq;obtain⟨u,hu,ru⟩:=rv.get hx;obtain⟨⟨old,he⟩,hit⟩:=st;ac_rfl;have hT:s.heap.IsTuple a its.toArray:=p;have lt:i < its.toArray.size:=by
   rw[Al];exact (Am.mp hu).1
  refine wpAny_pyNext_enum_itemD (zup hai (I.ok.hd hc)) he ⟨hit,hT⟩ lt hei (by simp [hei,hea]) fun y h' tk hy ho hst hT' hsz hk=>⟨_,rfl,?_⟩;have eu:y=u:=by
   have:its[i]?=some y:=by simpa using hy
   rw[hu] at this;exact (sI this).symm
  subst eu;refine wpAny_letOwnedTupleGo_enum ho fun h'' he'' hs''=>?_;have kk:∀b o,b ∉ [e,it]->s.heap.get? b=some o->h''.get? b=some o:=fun b o hb q=>by
   have h1:b≠e:=fun z=>hb (by simp [z]);have h2:b≠it:=fun z=>hb (by simp [z]);exact (hs''.2 b h1).trans (hk b o h1 h2 q)
  have hTe:s.heap.objs.size≠e:=fun z=>absurd (Ao he) (by rw[z];exact Bx _);have hit'' : h''.IsTupleIter it a (i+1):=hst.1.at fun o y=>(hs''.2 it hei.symm).trans y;refine⟨.ref s.heap.objs.size,upd H s.heap.objs.size (.tup [.int i,x]),I.turnLay kk (fun b hb=>?_) hf (Ae _) ⟨by show 2<=sizeLine;decide,[.int i tk,y],.cons ⟨_,rfl⟩ (.cons ru .nil),?_⟩,rfl,⟨_,x,rfl,I.hok.fresh (Ae _),rfl,fun ys hy=>by rw[I.tuple_inj hy hq];exact hx⟩,⟨⟨_,by simpa using he''⟩,hit''⟩,fun b hb=>?_⟩
  ·rcases Ax.mp hb with rfl | hb
   ·exact⟨_,he''⟩
   ·have : b = it := by simpa using hb
    subst this;obtain⟨o,z,_⟩:=hit'';exact⟨o,z⟩
  ·exact⟨_,(hs''.2 _ hTe).trans hT',rfl,_,rfl⟩
  ·have:b≠s.heap.objs.size:=by
    rcases Ax.mp hb with rfl | hb
    ·exact hTe.symm
    ·have e2 : b = it := by simpa using hb
     subst e2;obtain⟨o,z,_⟩:=hit;exact At (Ao z)
   rw[upd_ne this];exact (hf b hb).1
 done:=by
  intro X hP hw hK hc i pins s σ H E I hf st hg;subst hP hw hK;nofun;obtain⟨xs,hq,hx⟩:=hg;obtain⟨its,rv,p,hz⟩:=I.tuple hq;obtain⟨⟨old,he⟩,hit⟩:=st;obtain⟨f0,f1,f2,f3,f4,f5⟩:=hf it (by simp);ac_rfl;have hl:=rv.length;have hT:s.heap.IsTuple a its.toArray:=p;have hTy:s.TypeIs (.ref e) "enumerate" := ⟨_,he,rfl⟩;unfold pyNext;refine Aa (Gh (Cz (name:=Str.ofString "__next__") hTy F.slot_enumerate_next (Dn F.slot_enumerate_next hTy F.entry_enumerate_next ?_ (F.args_enumerate_next_1 _))));show wpAny _ _ (field (.ref e) 2 >>= _) _ _ _;refine Aa (Fq he rfl (x:=.ref it) rfl ?_);refine Aa (zr0 (show _=none from I.ok.hd hc) (.inr ⟨hit,hT⟩) (Fp (by simp;omega)) fun h' x eb hx'=>?_);obtain⟨o,ho,hc'⟩:=hx';refine Aa (wpAny_isInstance (T := "StopIteration") (b:=true) ⟨o,ho,hc'⟩ isSubtype_stop ?_);exact Ai ⟨rfl,I.turned (t':=s.toks) (fun b o hb e=>eb b o hb e) f0 f1 f3 f4 f5⟩
 self:=fun _ _ _ _ _ st h=>let ⟨_,he⟩:=st.1;Gy he h
section
variable {X:Cx}
noncomputable def zzk (K:PySem.W.Frag) (ta:TA):TI:=fun σ H R=>ta σ H fun vs H1=>∃a xs,vs=[.ref a]/\(SqL K H1 a xs/\R (Ite K a) H1\/SqT K H1 a xs/\R (IteT K a) H1)
theorem zxs {es:List Expr}{x1}{px:Pos}{l:Expr}{tl:TA}{p pos:Pos} (hg:Gl X "enumerate") (hm:X.mg "enumerate" = none) (hl:PA X [l] tl) (hs:starEach [l] X.env=[(false,eval l X.env)]:=by rfl) :
    PI X (.Tuple es x1 px) (.Call (.Name "enumerate" p) [l] [] pos) (zzk X.K tl):=by
  intro pins s σ H R I h;refine Call_ (zhz I hg hm boot_enumerate (Em (thn (hl pos pins s σ H _ I h) fun us s1 ⟨vs,H1,I1,r1,q1⟩=>?_) hs rfl));obtain⟨a,xs,e,q⟩:=q1;subst e;cases r1 with
  | cons r rr =>
    cases rr;cases r;have fp:∀b∈[s1.heap.objs.size+1,s1.heap.objs.size],FpOk X pins H1 b:=fun b hb=>by
      have e:s1.heap.objs.size<=b:=by
        rcases Ax.mp hb with rfl | hb
        · exact Nat.le_succ _
        · have e2 : b = s1.heap.objs.size := by simpa using hb
          rw[e2];exact Ae _
      exact I1.fpOk e (I1.hok.fresh e)
    rcases q with ⟨hq,q⟩ | ⟨hq,q⟩
    · obtain ⟨its, rv, p', hz⟩ := I1.list hq
      refine call_enumerate_list p'.isList fun h' he hit hsz hk=>Gy he ?_;exact⟨s1.heap.objs.size+1,[s1.heap.objs.size+1,s1.heap.objs.size],_,_,H1,rfl,I1.kept (t':=s1.toks) hk,zsj a _ _ (Nat.succ_ne_self _),⟨⟨_,by simpa using he⟩,hit⟩,fp,q⟩
    · obtain ⟨its, rv, p', hz⟩ := I1.tuple hq
      have hT:s1.heap.IsTuple a its.toArray:=p';have al:a < s1.heap.objs.size:=let ⟨o,e,_⟩:=hT;Ao e;refine zrd hT fun h' he hit hk=>Gy he ?_;exact⟨s1.heap.objs.size+1,[s1.heap.objs.size+1,s1.heap.objs.size],_,_,H1,rfl,I1.kept (t':=s1.toks) hk,zqd a _ _ (Nat.succ_ne_self _) (Ge (Gn al)) (At al),⟨⟨_,by simpa using he⟩,hit⟩,fp,q⟩
end
section
variable {K:PySem.W.Frag}{F H:Hp}{σ:St}
theorem zyf {a:Addr}{vs:List V}{ws:List W}(h:SqT K F a vs)(r:Reps K F ws vs):ItOk K F (IteT K a) (zhs ws 0) where
 go:=fun i H s hi=>by rw[zci] at hi;exact⟨vs,vs[i]'(by rw[<-r.length];exact hi),zcw s h,by rw[Ab]⟩
 stop:=fun H s=>⟨vs,zcw s h,by rw[zci,r.length];exact Ae _⟩
 yld:=fun i H x H' s hi y=>by
  nofun;obtain⟨p,v,e,hp,e2,y⟩:=y;ac_rfl;subst e e2;obtain⟨w,e,q⟩:=r.getV (y vs (zcw s h));refine⟨_,zer e,?_⟩;rw[Cj];exact .tup hp (.cons (.int _) (.cons q .nil))
noncomputable def zqk (g:GE):GL:=fun en=>(g en).bind fun p=>(seqW p.2.1).bind fun ws=>some (p.1,zhs ws 0)
theorem zu1 {g:GE}{R:It->Hp->Prop}(h:tI K (zqk g) σ H R):zzk K (zhn (tE K g) tNil) σ H R:=by
 nofun;obtain⟨F,pr,en,en',ws,Re,h,q⟩:=h;obtain⟨⟨e1,rv⟩,h1,h⟩:=bS h;obtain⟨us,hs,h⟩:=bS h;ac_rfl;cases h;refine⟨F,pr,en,e1,rv,Re,h1,fun F1 H1 v s1 R1 z=>?_⟩;nofun;obtain⟨F2,s2,R2,y⟩:=z.freeze R1;obtain⟨a,k,vs,e,hq,r⟩:=zmz y hs;ac_rfl;subst e;cases k with
 | true=>exact⟨a,vs,rfl,.inl ⟨R2.sub.seq hq,q F2 H1 _ (s1.trans s2) R2 (z2r hq r)⟩⟩
 | false=>exact⟨a,vs,rfl,.inr ⟨zcw R2.sub hq,q F2 H1 _ (s1.trans s2) R2 (zyf hq r)⟩⟩
end
end L2
namespace L2
open PySem PySem.Spec PyProof.Rows
section
variable {X:Cx}{pins:List (Addr × Obj)}{σ:St}{H:Hp}{s:Shared}
noncomputable def okD (d:PyData):Bool:=d.showable && !d.hasDict && decide (d.depth<=100) && decide (d.shown.length<=sizeLine)
noncomputable def z9e:List V->Hp->VK->Prop:=fun xs H Q=>∃a d,xs=[.ref a]/\DV H (.ref a) d/\okD d=true/\Q (.str d.shown) H
theorem z3f {d:PyData}(h:okD d=true):d.showable=true/\d.hasDict=false/\d.depth<=100/\d.shown.length<=sizeLine:=by
 unfold okD at h;rw[Ac,Ac,Ac] at h;exact⟨h.1.1.1,by simpa using h.1.1.2,An h.1.2,An h.2⟩
noncomputable def zzx:List V->Hp->VK->Prop:=fun xs H Q=>(∃i,xs=[.int i]/\i.natAbs.log2 < 1920/\Q (.str (toString i)) H)\/(xs=[.non]/\Q (.str "None") H)\/(∃b:Bool,xs=[.bl b]/\Q (.str (if b then "True" else "False")) H)\/z9e xs H Q
theorem zs7 {k:Nat}(hr:Room k X.A):zb5 X (.builtin "repr") zzx:=by
 intro pins s σ H xs us Q I r h;rcases h with h | h | h | h
 ·refine aG fun Gg qG => ?_;obtain⟨i,rfl,hi,q⟩:=h;obtain⟨u,rfl,ru⟩:=r.one;obtain⟨t,rfl⟩:=(show ∃t,u=Value.int i t from ru);ac_rfl;exact PySem.P.repr_of_int hi ⟨.str _,H,I.tok _,⟨_,rfl⟩,q⟩
 ·obtain⟨rfl, q⟩ := h;obtain⟨u,rfl,ru⟩:=r.one;obtain rfl:=(show u=Value.none from ru);exact PySem.P.repr_of_none ⟨.str _,H,I.tok _,⟨_,rfl⟩,q⟩
 ·obtain⟨b, rfl, q⟩ := h;obtain⟨u,rfl,ru⟩:=r.one;obtain rfl:=(show u=Value.bool b from ru);exact PySem.P.repr_of_bool ⟨.str _,H,I.tok _,⟨_,rfl⟩,q⟩
 ·refine aG fun Gg qG => ?_;obtain⟨a,d,rfl,dv,ok,q⟩:=h;obtain⟨u,rfl,ru⟩:=r.one;ac_rfl;cases ru;nofun;obtain⟨as,rd⟩:=dv.reads I rfl;obtain⟨o1,o2,o3,o4⟩:=z3f ok;ac_rfl;exact repr_of_reads' rd o1 (fun z=>by rw[o2] at z;cases z) hr.gd (by have:=hr.un;omega) (fun _ _ e=>e) (fun h' u tk hk=>⟨.str _,H,I.kept (t':=tk) hk,⟨_,rfl⟩,q⟩) o4
end
section
variable {K:PySem.W.Frag}{F H:Hp}
noncomputable def z3s (w:W):Option (W × Bool):=(seqW w).bind fun _=>(dW w).bind fun d=>if okD d then some (.str d.shown,false) else none
noncomputable def zqt:ON
 | [.int i]=>if i.natAbs.log2 < 1920 then some (.str (toString i),false) else none
 | [.non]=>some (.str "None",false)
 | [.bl b]=>some (.str (if b then "True" else "False"),false)
 | [w]=>z3s w
 | _=>none
theorem z2i {w:W}{v:V}{rv:W × Bool} (s:Same F H) (r:RepB K F H w v) (e:z3s w=some rv):∃a d,v=.ref a/\DV H (.ref a) d/\okD d=true/\rv=(.str d.shown,false):=by
  unfold z3s at e;nofun;obtain⟨ws,hs,e⟩:=bS e;obtain⟨d,hd,e⟩:=bS e;ac_rfl;split at e
  · rename_i ok
    obtain rfl:=sI e;rcases r with r | ⟨a,o,us,z,rfl,h,q⟩
    · have dv := rep_dv s r hd
      cases r with
      | tup h _=>exact⟨_,d,rfl,dv,ok,rfl⟩
      | lst h _=>exact⟨_,d,rfl,dv,ok,rfl⟩
      | frl h _=>exact⟨_,d,rfl,dv,ok,rfl⟩
      | _=>exact noSome hs
    · subst z
      cases q with
      | dct hl q=>exact noSome hs
      | dctT hl q=>exact noSome hs
      | lst q =>
        rw[dW] at hd;obtain⟨ds,e1,e2⟩:=bS hd;obtain rfl:=sI e2;exact⟨a,_,rfl,.lst h (zgg s q e1),ok,rfl⟩
  · exact noSome e
theorem zyh:OpSN K zzx zqt:=fun F H ws vs rv Q s r e q=>by
  match ws,e with
  | [w],e =>
    obtain⟨v,e1,hv⟩:=r.one;subst e1;cases w with
    | int i =>
      have e' : (if i.natAbs.log2 < 1920 then #v[W.str (toString i),6] else none)=some rv:=e;by_cases z:i.natAbs.log2 < 1920
      · rw [if_pos z] at e'
        obtain rfl:=sI e';exact .inl ⟨i,by rw[hv.int],z,q _ _ (.val (.str _))⟩
      · rw [if_neg z] at e'
        exact noSome e'
    | non =>
      obtain rfl:=sI e;exact .inr (.inl ⟨by rw[hv.non],q _ _ (.val (.str _))⟩)
    | bl b =>
      obtain rfl:=sI e;exact .inr (.inr (.inl ⟨b,by rw[hv.bl],q _ _ (.val (.str _))⟩))
    | _ =>
      obtain⟨a,d,rfl,dv,ok,rfl⟩:=z2i s hv e;exact .inr (.inr (.inr ⟨a,d,rfl,dv,ok,q _ _ (.val (.str _))⟩))
  | [],e=>exact noSome e
  | a::b::l,e=>cases a<;>exact noSome e
end
noncomputable abbrev Fn:=List W->Option (List W × (W × Bool))
noncomputable def za8 (m:List Bool) (ws:List W):En:=List.zipWith (fun w b=>some (w,b)) ws m
noncomputable def spF (K:PySem.W.Frag) (m:List Bool) (Φ:Fn):Sp:=fun vs H Q _=>∃F pr ws ws' r,ws.length=m.length/\ws'.length=m.length/\Rel K F pr (za8 m ws) (vs.map some) H/\Φ ws=some (ws',r) /\
 ∀F' H' v,Same F F'->Rel K F' pr (za8 m ws') (vs.map some) H'->Res K F' H' pr (za8 m ws') (vs.map some) r v->Q v H'
theorem ze5 {m:List Bool}{ws:List W}{k:Nat}{w:W}{b:Bool}:(za8 m ws)[k]?=some (some (w,b))↔ws[k]?=some w/\m[k]?=some b:=by
 unfold za8;rw[List.getElem?_zipWith];cases ws[k]?<;>cases m[k]?<;>simp
theorem zel {m:List Bool}{ws:List W}(h:ws.length=m.length):(za8 m ws).length=m.length:=by
 unfold za8;rw[List.length_zipWith,h,Gf]
theorem ztz {K:PySem.W.Frag}{m:List Bool}{Φ:Fn}{vs:List V}{H:Hp}{Q:VK}{E:XK}(h:spF K m Φ vs H Q E):vs.length=m.length:=by
 obtain⟨F,pr,ws,ws',r,h1,_,R,_⟩:=h;have:=R.len;rw[zel h1,Ad] at this;exact this.symm
noncomputable def isR:W ⊕ Nat->Bool
 | .inr _=>true
 | .inl _=>false
noncomputable def zba (xs:List (W ⊕ Nat)):Cap:=xs.map fun x=>match x with
 | .inr i=>some i
 | .inl _=>none
noncomputable def zau (en:En) (xs:List (W ⊕ Nat)):Bool:=xs.all fun x=>match x with
  | .inr i=>match en[i]? with
    | some (#v[_,5])=>true
    | _=>false
  | .inl _=>true
noncomputable def zae (m:List Bool) (Φ:Fn) (as:GAs):GE:=fun en=>(as en).bind fun p=>if decide (p.2.map isR=m) && zau p.1 p.2 && zce (zba p.2) then (za3 p.1 p.2).bind fun ws=>(Φ ws).bind fun q=>if q.1.length=m.length then some (zbb (zba p.2) p.1 (za8 m q.1),q.2) else none else none
theorem ArgRs.get {K:PySem.W.Frag}{F:Hp}{σ:St}:∀{xs:List (W ⊕ Nat)}{vs:List V}{k:Nat}{x:W ⊕ Nat},ArgRs K F σ xs vs->xs[k]?=some x->∃v,vs[k]?=some v/\ArgR K F σ x v
  | _,_,_,_,.nil,e=>by simp at e
  | _,_,0,_,.cons h _,e=>by simp at e;subst e;exact⟨_,rfl,h⟩
  | _,_,k+1,x,.cons _ r,e=>by
    obtain⟨v,h1,h2⟩:=ArgRs.get (k:=k) (x:=x) r (by simpa using e);exact⟨v,by simpa using h1,h2⟩
theorem ArgRs.length {K:PySem.W.Frag}{F:Hp}{σ:St}:∀{xs:List (W ⊕ Nat)}{vs:List V},ArgRs K F σ xs vs->xs.length=vs.length
 | _,_,.nil=>rfl
 | _,_,.cons _ r=>congrArg (· + 1) (ArgRs.length r)
theorem zll {en:En}:∀{xs:List (W ⊕ Nat)}{ws:List W},za3 en xs=some ws->ws.length=xs.length
  | [],_,e=>by obtain rfl:=sI e;rfl
  | x::xs,_,e=>by
    obtain⟨w,_,e⟩:=bS e;obtain⟨ws,h,e⟩:=bS e;obtain rfl:=sI e;exact congrArg (· + 1) (zll h)
theorem zla {en:En}:∀{xs:List (W ⊕ Nat)}{ws:List W}{k:Nat}{w:W},za3 en xs=some ws->ws[k]?=some w->∃x,xs[k]?=some x/\resA en x=some w
  | [],_,_,_,e,h=>by obtain rfl:=sI e;simp at h
  | x::xs,_,k,w,e,h=>by
    obtain⟨u,hu,e⟩:=bS e;obtain⟨us,h2,e⟩:=bS e;obtain rfl:=sI e;cases k with
    | zero=>simp at h;subst h;exact⟨x,rfl,hu⟩
    | succ k=>obtain⟨y,h3,h4⟩:=zla (k:=k) h2 (by simpa using h);exact⟨y,by simpa using h3,h4⟩
theorem ze7 {xs:List (W ⊕ Nat)}{k i:Nat}:(zba xs)[k]?=some (some i)↔xs[k]?=some (.inr i):=by
 unfold zba;rw[Au];cases e:xs[k]? with
 | none=>simp
 | some x=>cases x<;>simp
section
variable {K:PySem.W.Frag}{F H:Hp}{pr:Prt}{en:En}{σ:St}
theorem Rel.back {cap:Cap}{F' H' : Hp}{ce:En}{σc:St} (R:Rel K F pr en σ H) (s:Same F F') (Rc:Rel K F' (zbr pr cap en σ H) ce σc H') (slot:∀(i j:Nat) (v:V),zat cap i=some j->σc[j]?=some (some v)->σ[i]?=some (some v)) :
    Rel K F' pr (zbb cap en ce) σ H'/\∀r v,Res K F' H' (zbr pr cap en σ H) ce σc r v->Res K F' H' pr (zbb cap en ce) σ r v:=by
  have un:∀(i:Nat) (w:W),zat cap i=none->en[i]?=some (some (w,true))->∃(a:Addr) (vs:HO) (ws:W),w=ws/\σ[i]?=some (some (V.ref a))/\H a=some vs/\H' a=some vs/\F' a=none/\OwnR K F ws vs/\∀(j:Nat) (w' : W),ce[j]?=some (some (w',true))->σc[j]?≠some (some (V.ref a)):=fun i w c e=>by
    obtain⟨a,vs,ws,h1,h2,h3,h4,h5⟩:=R.own i w e;obtain⟨b1,b2,b3⟩:=Rc.prt a vs (.inr ⟨i,w,e,c,h2,h3⟩);exact⟨a,vs,ws,h1,h2,h3,b1,b2,h5,b3⟩
  have capt:∀(i j:Nat) (w:W),zat cap i=some j->ce[j]?=some (some (w,true))->∃(a:Addr) (vs:HO) (ws:W),w=ws/\σ[i]?=some (some (V.ref a))/\σc[j]?=some (some (V.ref a))/\H' a=some vs/\F' a=none/\OwnR K F' ws vs:=fun i j w c e=>by
    obtain⟨a,vs,ws,h1,h2,h3,h4,h5⟩:=Rc.own j w e;exact⟨a,vs,ws,h1,slot i j _ c h2,h2,h3,h4,h5⟩
  refine⟨⟨by unfold zbb;rw[List.length_mapIdx];exact R.len,Rc.sub,fun i w e=>?_,fun i w e=>?_,fun i k a w w' e1 e2 q1 q2=>?_,fun b o q=>?_,Rc.tb.go (fun b xs z=>.inl z) (fun b ps e f=>⟨e,f⟩) (.refl F') fun b ps e hh o z=>hh o (.inl z)⟩,fun r v z=>?_⟩
  · rcases backEn_get e with ⟨j, c, e⟩ | ⟨c, e⟩
    · obtain ⟨v, h1, h2⟩ := Rc.val j w e
      exact⟨v,slot i j v c h1,h2⟩
    · obtain ⟨v, h1, h2⟩ := R.val i w e
      exact⟨v,h1,h2.mono s⟩
  · rcases backEn_get e with ⟨j, c, e⟩ | ⟨c, e⟩
    · obtain ⟨a, vs, ws, h1, h2, _, h3, h4, h5⟩ := capt i j w c e
      exact⟨a,vs,ws,h1,h2,h3,h4,h5⟩
    · obtain ⟨a, vs, ws, h1, h2, _, h3, h4, h5, _⟩ := un i w c e
      exact⟨a,vs,ws,h1,h2,h3,h4,h5.mono s⟩
  · rcases backEn_get e1 with ⟨j, c, e1⟩ | ⟨c, e1⟩
    · obtain ⟨a', _, _, _, h2, h3, _⟩ := capt i j w c e1
      rw[q1] at h2;cases h2;rcases backEn_get e2 with ⟨l,c2,e2⟩ | ⟨c2,e2⟩
      · obtain ⟨a', _, _, _, g2, g3, _⟩ := capt k l w' c2 e2
        rw[q2] at g2;cases g2;have:=Rc.inj j l a _ _ e1 e2 h3 g3;subst this;have x:=zbf c;rw[zbf c2] at x;cases x;rfl
      · obtain ⟨a', _, _, _, g2, _, _, _, _, g3⟩ := un k w' c2 e2
        rw[q2] at g2;cases g2;exact absurd h3 (g3 j w e1)
    · obtain ⟨a', _, _, _, h2, _, _, _, _, h3⟩ := un i w c e1
      rw[q1] at h2;cases h2;rcases backEn_get e2 with ⟨l,c2,e2⟩ | ⟨c2,e2⟩
      · obtain ⟨a', _, _, _, g2, g3, _⟩ := capt k l w' c2 e2
        rw[q2] at g2;cases g2;exact absurd g3 (h3 l w' e2)
      · exact R.inj i k a _ _ e1 e2 q1 q2
  · obtain ⟨b1, b2, b3⟩ := Rc.prt b o (.inl q)
    refine⟨b1,b2,fun i w e=>?_⟩;rcases backEn_get e with ⟨j,c,e⟩ | ⟨c,e⟩
    · obtain ⟨a, _, _, _, h2, h3, _⟩ := capt i j w c e
      rw[h2];intro z;cases z;exact b3 j w e h3
    · exact (R.prt b o q).2.2 i w e
  · obtain ⟨w, fl⟩ := r
    cases fl with
    | false=>exact z
    | true =>
      obtain⟨a,vs,ws,q1,q2,q3,q4,q5,q6,q7⟩:=z;refine⟨a,vs,ws,q1,q2,q3,q4,q5,fun i w' e=>?_,fun b o p=>q7 b o (.inl p)⟩;rcases backEn_get e with ⟨j,c,e⟩ | ⟨c,e⟩
      · obtain ⟨a', _, _, _, h2, h3, _⟩ := capt i j w' c e
        rw[h2];intro z;cases z;exact q6 j w' e h3
      · obtain ⟨a', vs', ws', h1, h2, h3, h4, h5⟩ := R.own i w' e
        rw[h2];intro z;cases z;exact q7 a vs' (.inr ⟨i,w',e,c,h2,h3⟩) rfl
theorem z2l {m:List Bool}{Φ:Fn}{xs:List (W ⊕ Nat)}{e1 en' : En}{F1 H1:Hp}{vs:List V}{r:W × Bool}{Q:VK}{E:XK} (R1:Rel K F1 pr e1 σ H1) (a1:ArgRs K F1 σ xs vs)
    (h:(if decide (xs.map isR=m) && zau e1 xs && zce (zba xs) then (za3 e1 xs).bind fun ws=>(Φ ws).bind fun q=>if q.1.length=m.length then some (zbb (zba xs) e1 (za8 m q.1),q.2) else none else none)=some (en',r))
    (q:∀F' H' v,Same F1 F'->Rel K F' pr en' σ H'->Res K F' H' pr en' σ r v->Q v H'):spF K m Φ vs H1 Q E:=by
  split at h
  · rename_i z
    rw[Ac,Ac] at z;obtain⟨⟨z1,z2⟩,nd⟩:=z;have hm:xs.map isR=m:=An z1;nofun;obtain⟨ws,h2,h⟩:=bS h;obtain⟨⟨ws',r'⟩,h3,h⟩:=bS h;ac_rfl;split at h
    · rename_i hl
      cases h;have lx:ws.length=xs.length:=zll h2;have lm:xs.length=m.length:=by rw[<-hm,Ad]
      have lv:=a1.length;have at' : ∀(k:Nat) (w:W) (b:Bool),(za8 m ws)[k]?=some (some (w,b))->∃x v,xs[k]?=some x/\isR x=b/\resA e1 x=some w/\vs[k]?=some v/\ArgR K F1 σ x v:=fun k w b e=>by
        nofun;obtain⟨g1,g2⟩:=ze5.mp e;obtain⟨x,g3,g4⟩:=zla h2 g1;obtain⟨v,g5,g6⟩:=a1.get g3;ac_rfl;rw[<-hm,Au,g3] at g2;exact⟨x,v,g3,sI g2,g4,g5,g6⟩
      have ow:∀(k:Nat) (w:W),(za8 m ws)[k]?=some (some (w,true))->∃i v,xs[k]?=some (.inr i)/\e1[i]?=some (some (w,true))/\vs[k]?=some v/\σ[i]?=some (some v):=fun k w e=>by
        nofun;obtain⟨x,v,g1,g2,g3,g4,g5⟩:=at' k w true e;ac_rfl;cases x with
        | inl _=>cases g2
        | inr i =>
          refine⟨i,v,g1,?_,g4,g5⟩;have o:=Bg.mp z2 _ (Bn g1);simp only at o;split at o
          · rename_i w0 e0
            unfold resA at g3;simp only [e0] at g3;obtain rfl:=sI g3;exact e0
          · cases o
      have RC:Rel K F1 (zbr pr (zba xs) e1 σ H1) (za8 m ws) (vs.map some) H1:=by
        refine⟨by rw[zel #v[],Ad];omega,R1.sub,fun k w e=>?_,fun k w e=>?_,fun k l a w w' g1 g2 g3 g4=>?_,fun b o p=>?_,R1.tb.go (fun b xs z=>zia R1 z) (fun b ps e f=>⟨e,f⟩) (.refl F1) fun b ps e hh o z=>zh1 R1 e hh o z⟩
        · refine aG fun Gg qG => ?_
          obtain⟨x,v,g1,g2,g3,g4,g5⟩:=at' k w false e;ac_rfl;cases x with
          | inr _=>cases g2
          | inl u=>obtain rfl:=sI g3;exact⟨v,by rw[Au,g4];rfl,g5⟩
        · refine aG fun Gg qG => ?_
          obtain⟨i,v,g1,g2,g3,g4⟩:=ow k w e;obtain⟨a,us,wz,p1,p2,p3,p4,p5⟩:=R1.own i w g2;ac_rfl;rw[g4] at p2;cases p2;exact⟨a,us,wz,p1,by rw[Au,g3];rfl,p3,p4,p5⟩
        · refine aG fun Gg qG => ?_
          obtain⟨i,v,k1,k2,k3,k4⟩:=ow k w g1;obtain⟨i',v',l1,l2,l3,l4⟩:=ow l w' g2;ac_rfl;rw[Au,k3] at g3;cases g3;rw[Au,l3] at g4;cases g4;have:=R1.inj i i' a _ _ k2 l2 k4 l4;subst this;have y:=zf8 nd (ze7.mpr k1);rw[zf8 nd (ze7.mpr l1)] at y;exact (sI y).symm
        · rcases p with p | ⟨j, w, p1, p2, p3, p4⟩
          · obtain ⟨b1, b2, b3⟩ := R1.prt b o p
            refine⟨b1,b2,fun k w e=>?_⟩;nofun;obtain⟨i,v,g1,g2,g3,g4⟩:=ow k w e;ac_rfl;rw[Au,g3];intro y;cases y;exact b3 i w g2 g4
          · refine aG fun Gg qG => ?_
            obtain⟨a,us,wz,p1',p2',p3',p4',p5'⟩:=R1.own j w p1;ac_rfl;rw[p3] at p2';cases p2';refine⟨p4,p4',fun k w' e=>?_⟩;nofun;obtain⟨i,v,g1,g2,g3,g4⟩:=ow k w' e;ac_rfl;rw[Au,g3];intro y;cases y;have:=R1.inj i j _ _ _ g2 p1 g4 p3;subst this;exact zc7 p2 k (ze7.mpr g1)
      refine ⟨F1,zbr pr (zba xs) e1 σ H1,ws,ws',_,by omega,hl,RC,h3,fun F2 H2 v s2 R2 y2=>?_⟩;obtain ⟨Ro,rz⟩:=R1.back s2 R2 fun i j v c e=>by
        have c':=ze7.mp (zbf c);obtain⟨v',g1,g2⟩:=a1.get c';rw[Au,g1] at e;cases e;exact g2
      exact q F2 H2 v s2 Ro (rz _ _ y2)
    · cases h
  · cases h
theorem zvx {m:List Bool}{Φ:Fn}{as:GAs}{Q:VK}(h:tE K (zae m Φ as) σ H Q):z1r (spF K m Φ) [] E0 (tAs K as) σ H Q:=by
 nofun;obtain⟨F,pr,en,en',r,R,h,q⟩:=h;obtain⟨⟨e1,xs⟩,h1,h⟩:=bS h;ac_rfl;refine⟨F,pr,en,e1,xs,R,h1,fun F1 H1 vs s1 R1 a1=>?_⟩;show spF K m Φ (vs++[]) H1 Q E0;rw[Br];exact z2l R1 a1 h fun F' H' v s'=>q F' H' v (s1.trans s')
end
noncomputable def zcl:List Bool->List W->En->Option (List W)
 | [],[],_=>some []
 | true::m,_::ws,#v[w,5]::en=>(zcl m ws en).bind fun r=>some (w::r)
 | false::m,w::ws,_::en=>(zcl m ws en).bind fun r=>some (w::r)
 | _,_,_=>none
noncomputable def mpOf (m:List Bool):List Nat:=(List.range m.length).filter fun k=>m[k]? == some true
noncomputable def zaj (m:List Bool) (n:Nat) (g:GS):Fn:=fun ws=>if ws.length=m.length then match g (za8 m ws++List.replicate (n - m.length) none) with
 | some (en,.ret r)=>(zcl m ws en).bind fun ws'=>some (ws',r)
 | some (en,.nx)=>(zcl m ws en).bind fun ws'=>some (ws',(.non,false))
 | _=>none else none
theorem zjh:∀{m:List Bool}{ws:List W}{en:En}{ws' : List W},zcl m ws en=some ws'->ws'.length=m.length/\∀(k:Nat) (w:W),ws'[k]?=some w->(m[k]?=some true->en[k]?=some (some (w,true)))/\(m[k]?=some false->ws[k]?=some w)
  | [],[],_,_,e=>by obtain rfl:=sI e;exact⟨rfl,fun k w h=>by simp at h⟩
  | true::m,_::ws,some (u,true)::en,_,e=>by
    obtain⟨r,h,e⟩:=bS (show (zcl m ws en).bind _=_ from e);obtain rfl:=sI e;obtain⟨h1,h2⟩:=zjh h;refine⟨congrArg (· + 1) h1,fun k w hk=>?_⟩;cases k with
    | zero=>simp at hk;subst hk;exact⟨fun _=>rfl,fun z=>by simp at z⟩
    | succ k =>
      have:=h2 k w (by simpa using hk);exact⟨fun z=>by simpa using this.1 (by simpa using z),fun z=>by simpa using this.2 (by simpa using z)⟩
  | false::m,u::ws,_::en,_,e=>by
    obtain⟨r,h,e⟩:=bS (show (zcl m ws en).bind _=_ from e);obtain rfl:=sI e;obtain⟨h1,h2⟩:=zjh h;refine⟨congrArg (· + 1) h1,fun k w hk=>?_⟩;cases k with
    | zero=>simp at hk;subst hk;exact⟨fun z=>by simp at z,fun _=>rfl⟩
    | succ k =>
      have:=h2 k w (by simpa using hk);exact⟨fun z=>by simpa using this.1 (by simpa using z),fun z=>by simpa using this.2 (by simpa using z)⟩
  | [],_::_,_,_,e=>by exact noSome e
  | true::_,[],_,_,e=>by exact noSome e
  | false::_,[],_,_,e=>by exact noSome e
  | true::_,_::_,[],_,e=>by exact noSome e
  | false::_,_::_,[],_,e=>by exact noSome e
  | true::_,_::_,none::_,_,e=>by exact noSome e
  | true::_,_::_,#v[_,6]::_,_,e=>by exact noSome e
theorem z3d {K:PySem.W.Frag}{m:List Bool}{N:List Str}{g:GS}{vs:List V}{H:Hp}{Q:VK}{E:XK} (h:spF K m (zaj m N.length g) vs H Q E):tS K (mpOf m) g { nx:=fun _ H'=>Q .non H',rt:=Q } (start N vs) H:=by
  have hv:=ztz h;refine aG fun _ qG=>?_;obtain ⟨F,pr,ws,ws',r,h1,h2,R,h3,q⟩:=h;refine qG ?_;clear qG;unfold zaj at h3;rw [if_pos h1] at h3;have la:=zel h1;have pad:∀(i:Nat) (x:W × Bool),(za8 m ws++List.replicate (N.length - m.length) none)[i]?=some (some x)->(za8 m ws)[i]?=some (some x):=fun i x e=>by
    by_cases hi:i < (za8 m ws).length
    · rw[Da hi] at e;exact e
    · rw [Ep (by omega), List.getElem?_replicate] at e
      split at e<;>cases e
  have st:∀(i:Nat) (v:V),(vs.map some)[i]?=some (some v)->(start N vs)[i]?=some (some v):=fun i v e=>by
    unfold start;rw[Da (by have:=(Am.mp e).1;exact this)];exact e
  have st' : ∀(i:Nat) (v:V),i < m.length->(start N vs)[i]?=some (some v)->(vs.map some)[i]?=some (some v):=fun i v hi e=>by
    unfold start at e;rw[Da (by rw[Ad];omega)] at e;exact e
  have R0:Rel K F pr (za8 m ws++List.replicate (N.length - m.length) none) (start N vs) H:=by
    refine⟨?_,R.sub,fun i w e=>?_,fun i w e=>?_,fun i j a w w' e1 e2 q1 q2=>?_,fun b o p=>?_,R.tb⟩
    · unfold start
      rw[Ba,Ba,Ej,Ej,Ad,la,hv]
    · obtain ⟨v, g1, g2⟩ := R.val i w (pad i _ e)
      exact⟨v,st i v g1,g2⟩
    · refine aG fun Gg qG => ?_
      obtain⟨a,us,wz,g1,g2,g3⟩:=R.own i w (pad i _ e);ac_rfl;exact⟨a,us,wz,g1,st i _ g2,g3⟩
    · have l1 : i < m.length := by have := (Am.mp (pad i _ e1)).1; omega
      have l2:j < m.length:=by have:=(Am.mp (pad j _ e2)).1;omega
      exact R.inj i j a w w' (pad i _ e1) (pad j _ e2) (st' i _ l1 q1) (st' j _ l2 q2)
    · obtain ⟨b1, b2, b3⟩ := R.prt b o p
      refine⟨b1,b2,fun i w e z=>?_⟩;have l1:i < m.length:=by have:=(Am.mp (pad i _ e)).1;omega
      exact b3 i w (pad i _ e) (st' i _ l1 z)
  have back:∀(en:En) (wz:List W) (F' : Hp) (σ' : St) (H' : Hp),zcl m ws en=some wz->Same F F'->Rel K F' pr en σ' H'->Keep (mpOf m) (start N vs) σ' ->
      Rel K F' pr (za8 m wz) (vs.map some) H'/\∀r v,Res K F' H' pr en σ' r v->Res K F' H' pr (za8 m wz) (vs.map some) r v:=fun en wz F' σ' H' ho s' R' k'=>by
    obtain ⟨o1,o2⟩:=zjh ho;have own:∀(k:Nat) (w:W),(za8 m wz)[k]?=some (some (w,true))->en[k]?=some (some (w,true))/\∀v,σ'[k]?=some (some v)↔(vs.map some)[k]?=some (some v):=fun k w e=>by
      obtain⟨g1,g2⟩:=ze5.mp e;have lk:k < m.length:=(Am.mp g2).1;have hk:k∈mpOf m:=Cv.mpr ⟨Bt.mpr lk,by rw[g2];simp⟩;refine⟨(o2 k w g1).1 g2,fun v=>?_⟩;rw[k' k hk];exact⟨st' k v lk,st k v⟩
    refine⟨⟨by rw[zel o1,Ad,hv],R'.sub,fun k w e=>?_,fun k w e=>?_,fun k l a w w' e1 e2 q1 q2=>?_,fun b o p=>?_,R'.tb⟩,fun r v z=>?_⟩
    · refine aG fun Gg qG => ?_
      obtain⟨g1,g2⟩:=ze5.mp e;obtain⟨v,g3,g4⟩:=R.val k w (ze5.mpr ⟨(o2 k w g1).2 g2,g2⟩);ac_rfl;exact⟨v,g3,g4.mono s'⟩
    · refine aG fun Gg qG => ?_
      obtain⟨g1,g2⟩:=own k w e;obtain⟨a,us,wz,p1,p2,p3⟩:=R'.own k w g1;ac_rfl;exact⟨a,us,wz,p1,(g2 _).mp p2,p3⟩
    · obtain ⟨g1, g2⟩ := own k w e1
      obtain⟨g3,g4⟩:=own l w' e2;exact R'.inj k l a _ _ g1 g3 ((g2 _).mpr q1) ((g4 _).mpr q2)
    · obtain ⟨b1, b2, b3⟩ := R'.prt b o p
      refine⟨b1,b2,fun k w e z=>?_⟩;obtain⟨g1,g2⟩:=own k w e;exact b3 k w g1 ((g2 _).mpr z)
    · obtain ⟨w0, fl⟩ := r
      cases fl with
      | false=>exact z
      | true =>
        nofun;obtain⟨a,us,wz',q1,q2,q3,q4,q5,q6,q7⟩:=z;ac_rfl;refine⟨a,us,wz',q1,q2,q3,q4,q5,fun k w e y=>?_,q7⟩;obtain⟨g1,g2⟩:=own k w e;exact q6 k w g1 ((g2 _).mpr y)
  cases eg:g (za8 m ws++List.replicate (N.length - m.length) none) with
  | none=>simp only [eg] at h3;exact noSome h3
  | some p =>
    obtain⟨en,fl⟩:=p;refine⟨F,pr,_,en,fl,R0,eg,?_⟩;cases fl with
    | brk=>simp only [eg] at h3;exact noSome h3
    | cnt=>simp only [eg] at h3;exact noSome h3
    | nx =>
      simp only [eg] at h3;obtain⟨wz,ho,h3⟩:=bS h3;cases h3;intro F' σ' H' s' R' k';obtain⟨Rb,_⟩:=back en ws' F' σ' H' ho s' R' k';exact q F' H' .non s' Rb .non
    | ret r' =>
      simp only [eg] at h3;obtain⟨wz,ho,h3⟩:=bS h3;cases h3;intro F' σ' H' v s' R' k' z;obtain⟨Rb,rb⟩:=back en ws' F' σ' H' ho s' R' k';exact q F' H' v s' Rb (rb _ _ z)
end L2
set_option maxHeartbeats 4000000
namespace L2
open PySem PyProof.Rows
namespace Tim
noncomputable def gal:Bool->Keyed->Array Keyed->Nat->Nat->Nat->StateT SortSt Sem (Option Nat):=sortPriv% PySem.Builtin.gallop
noncomputable def mLo:Array Keyed->Array Keyed->StateT SortSt Sem (Array Keyed):=sortPriv% PySem.Builtin.mergeLo
noncomputable def mHi:Array Keyed->Array Keyed->StateT SortSt Sem (Array Keyed):=sortPriv% PySem.Builtin.mergeHi
theorem aG {P:Prop}(h:∀G:Prop,(P->G)->G):P:=h P id
structure Ord (lt:Keyed->Keyed->Bool) (bf le:Keyed->Keyed->Prop):Prop where
 tr:∀{x y z},le x y->le y z->le x z
 tot:∀x y,le x y\/le y x
 f1:∀{x y},bf x y->(lt y x=false↔le x y)
 f2:∀{x y},lt x y=true->le x y
 irr:∀x,lt x x=false
 ltr:∀{x y z},lt x y=true->lt y z=true->lt x z=true
 nt:∀{x z} (y),lt x z=true->lt x y=true\/lt y z=true
section
variable {lt:Keyed->Keyed->Bool}{bf le:Keyed->Keyed->Prop} (O:Ord lt bf le)
include O
theorem Ord.rf (x:Keyed):le x x:=(O.tot x x).elim id id
theorem Ord.f3 {x y:Keyed}(h:bf x y)(q:lt y x=true):¬ le x y:=fun z=>by rw[(O.f1 h).mpr z] at q;cases q
end
noncomputable abbrev d0:Keyed:=(Value.none,Value.none)
noncomputable def G (xs:Array Keyed) (i:Nat):Keyed:=(xs[i]?).getD d0
theorem zzc {xs:Array Keyed}{i:Nat}(h:i < xs.size):xs[i]?=some (G xs i):=by unfold G;rw[getElem?_pos xs i h];rfl
theorem z11 {xs a₀:Array Keyed}(p:xs.Perm a₀){i:Nat}(h:i < xs.size):G xs i∈a₀.toList:=by
 refine (Gj.mp p).mem_iff.mp ?_;unfold G;rw[getElem?_pos xs i h];simp
theorem zgt {xs ys:Array Keyed}{i j:Nat}(h:xs[i]?=ys[j]?):G xs i=G ys j:=by unfold G;rw[h]
noncomputable def Asks (prog:Program) (w:World) (A:Around) (E:Value->Shared->Prop) (s:Shared) (κ:SortKind) (a₀:Array Keyed) (lt:Keyed->Keyed->Bool):Prop :=
 ∀(x y:Keyed) (st:SortSt) (Q:Option Bool->SortSt->Prop),x∈a₀.toList->y∈a₀.toList->kindOf st=κ->Q (some (lt x y)) st->wpS (model prog w) A E s (lt' x y) Q st
section
variable {prog:Program}{w:World}{A:Around}{E:Value->Shared->Prop}{s:Shared}{κ:SortKind}{a₀:Array Keyed}{lt:Keyed->Keyed->Bool}{st:SortSt}
theorem zav {arr:Array Keyed}{i:Nat}{Q:Keyed->SortSt->Prop}(hi:i < arr.size)(h:Q (G arr i) st):wpS (model prog w) A E s (elem' arr i) Q st:=by
 rw[elem'_eq,zzc hi];exact Aw h
theorem zib {i j:Nat}{Q:Option Bool->SortSt->Prop} (C:Asks prog w A E s κ a₀ lt) (hk:kindOf st=κ) (p:(arrOf st).Perm a₀) (hi:i < a₀.size) (hj:j < a₀.size) (h:Q (some (lt (G (arrOf st) i) (G (arrOf st) j))) st) :
  wpS (model prog w) A E s (ltAt' i j) Q st:=by
 have e:=p.size_eq;rw[ltAt'_eq];refine Ap (Hd ?_);exact Ap (zav #v[] (Ap (zav #v[] (C _ _ _ _ (z11 p #v[]) (z11 p #v[]) hk h))))
theorem zrl {left:Bool}{key:Keyed}{arr:Array Keyed}{base n hint:Nat}{B:Nat->Bool}{Q:Option Nat->SortSt->Prop} (C:Asks prog w A E s κ a₀ lt) (hk:kindOf st=κ) (hkey:key∈a₀.toList)
    (hs:base+n<=arr.size) (hm:∀i,i < n->G arr (base+i)∈a₀.toList) (hB:∀i,i < n->B i=if left then lt (G arr (base+i)) key else !lt key (G arr (base+i)))
    (mono:∀i j,i<=j->j < n->B j=true->B i=true) (hh:hint < n)
    (h:∀k,k<=n->(∀i,i < k->B i=true)->(∀i,k<=i->i < n->B i=false)->Q (some k) st):wpS (model prog w) A E s (gal left key arr base n hint) Q st:=by
  have mono' : ∀i j,i<=j->j < n->B i=false->B j=false:=fun i j h1 h2 h3=>by
    cases q:B j with
    | false=>rfl
    | true=>rw[mono i j h1 h2 q] at h3;cases h3
  let beyond:Nat->StateT SortSt Sem (Option Bool):=fun i=>do
    let x <- elem' arr (base+i)
    if left=true then lt' x key else do
      let r <- lt' key x
      pure (r.map (!·))
  have hb:∀(i:Nat) (R:Option Bool->SortSt->Prop),i < n->R (some (B i)) st->wpS (model prog w) A E s (beyond i) R st:=fun i R hi hR=>by
    refine Ap (zav #v[] ?_);have e:=hB i hi;cases left with
    | true =>
      rw[if_pos rfl] at e;rw[if_pos rfl];exact C _ _ _ _ (hm i hi) hkey hk (by rw[<-e];exact hR)
    | false =>
      rw[if_neg #v[0,9]] at e;rw[if_neg #v[0,9]];exact Ap (C _ _ _ _ hkey (hm i hi) hk (Aw (by show R (some (!lt key (G arr (base+i)))) st;rw[<-e];exact hR)))
  show wpS (model prog w) A E s (do let o <- beyond hint;_) Q st;refine Ap (hb _ _ hh ?_);cases q:B hint with
  | true =>
    refine Ap (Dl (Cm (I:=fun x c st'=>st'=st/\∃l o,c=(none,l,o)/\l < o/\x < o/\hint+l < n/\B (hint+l)=true)
      (Q:=fun c st'=>st'=st/\∃l o,c=(none,l,o)/\l < o/\hint+l < n/\B (hint+l)=true/\(n - hint<=o\/hint+o < n/\B (hint+o)=false)) ?step ?fin ⟨rfl,0,1,rfl,by omega,by omega,by omega,q⟩) ?post)
    case fin =>
      rintro c st' ⟨rfl,l,o,rfl,a1,a2,a3,a4⟩;exact⟨rfl,l,o,rfl,a1,a3,a4,.inl #v[]⟩
    case step =>
      rintro x c st' _ hx ⟨rfl,l,o,rfl,a1,a2,a3,a4⟩;dsimp only;by_cases g:o ≥ n - hint
      · rw [if_pos g]
        exact Aw ⟨rfl,l,o,rfl,a1,a3,a4,.inl g⟩
      · rw [if_neg g]
        refine Ap (hb _ _ #v[] ?_);cases q2:B (hint+o) with
        | true =>
          dsimp only;rw[if_neg #v[0,9]];exact Aw ⟨rfl,o,2 * o+1,rfl,by omega,by omega,by omega,q2⟩
        | false =>
          dsimp only;rw[if_pos #v[0,9]];exact Aw ⟨rfl,l,o,rfl,a1,a3,a4,.inr ⟨by omega,q2⟩⟩
    case post =>
      rintro c st' ⟨rfl,l,o,rfl,a1,a3,a4,a5⟩;dsimp only;refine Ap (Dl (Cm (I:=fun x c st''=>st''=st'/\∃lo hi,c=(none,lo,hi)/\lo<=hi/\hi<=n/\hi - lo<=n - x/\(∀i,i < lo->B i=true)/\∀i,hi<=i->i < n->B i=false)
        (Q:=fun c st''=>st''=st'/\∃lo hi,c=(none,lo,hi)/\lo=hi/\hi<=n/\(∀i,i < lo->B i=true)/\∀i,hi<=i->i < n->B i=false) ?s3 ?f3 ⟨rfl,hint+l+1,hint+min o (n - hint),rfl,by omega,by omega,by omega,fun i hi=>mono i _ #v[] a3 a4,fun i h1 h2=>a5.elim (fun a5=>by omega) fun a5=>mono' _ i #v[] h2 a5.2⟩) ?p3)
      case f3 =>
        rintro c st'' ⟨rfl,lo,hi,rfl,a1,a2,a3,a4,a5⟩;exact⟨rfl,lo,hi,rfl,by omega,a2,a4,a5⟩
      case s3 =>
        rintro x c st'' _ hx ⟨rfl,lo,hi,rfl,a1,a2,a3,a4,a5⟩;dsimp only;by_cases g:lo ≥ hi
        · rw [if_pos g]
          exact Aw ⟨rfl,lo,hi,rfl,by omega,a2,a4,a5⟩
        · rw [if_neg g]
          refine Ap (hb _ _ #v[] ?_);cases q:B (lo+(hi - lo) / 2) with
          | true =>
            dsimp only;rw[if_pos rfl];refine Aw ⟨rfl,lo+(hi - lo) / 2+1,hi,rfl,by omega,a2,by omega,fun i hi'=>?_,a5⟩;exact mono i _ #v[] #v[] q
          | false =>
            dsimp only;rw[if_neg #v[0,9]];refine Aw ⟨rfl,lo,lo+(hi - lo) / 2,rfl,by omega,by omega,by omega,a4,fun i h1 h2=>?_⟩;exact mono' _ i h1 h2 q
      case p3 =>
        rintro c st'' ⟨rfl,lo,hi,rfl,rfl,a2,a4,a5⟩;exact Aw (h lo a2 a4 a5)
  | false =>
    refine Ap (Dl (Cm (I:=fun x c st'=>st'=st/\∃l o,c=(none,l,o)/\l < o/\x < o/\l<=hint/\B (hint - l)=false)
      (Q:=fun c st'=>st'=st/\∃l o,c=(none,l,o)/\l < o/\l<=hint/\B (hint - l)=false/\(hint+1<=o\/o<=hint/\B (hint - o)=true)) ?step ?fin ⟨rfl,0,1,rfl,by omega,by omega,by omega,q⟩) ?post)
    case fin =>
      rintro c st' ⟨rfl,l,o,rfl,a1,a2,a3,a4⟩;exact⟨rfl,l,o,rfl,a1,a3,a4,.inl #v[]⟩
    case step =>
      rintro x c st' _ hx ⟨rfl,l,o,rfl,a1,a2,a3,a4⟩;dsimp only;by_cases g:o ≥ hint+1
      · rw [if_pos g]
        exact Aw ⟨rfl,l,o,rfl,a1,a3,a4,.inl g⟩
      · rw [if_neg g]
        refine Ap (hb _ _ #v[] ?_);cases q2:B (hint - o) with
        | true =>
          dsimp only;rw[if_pos rfl];exact Aw ⟨rfl,l,o,rfl,a1,a3,a4,.inr ⟨by omega,q2⟩⟩
        | false =>
          dsimp only;rw[if_neg #v[0,9]];exact Aw ⟨rfl,o,2 * o+1,rfl,by omega,by omega,by omega,q2⟩
    case post =>
      rintro c st' ⟨rfl,l,o,rfl,a1,a3,a4,a5⟩;dsimp only;refine Ap (Dl (Cm (I:=fun x c st''=>st''=st'/\∃lo hi,c=(none,lo,hi)/\lo<=hi/\hi<=n/\hi - lo<=n - x/\(∀i,i < lo->B i=true)/\∀i,hi<=i->i < n->B i=false)
        (Q:=fun c st''=>st''=st'/\∃lo hi,c=(none,lo,hi)/\lo=hi/\hi<=n/\(∀i,i < lo->B i=true)/\∀i,hi<=i->i < n->B i=false) ?s4 ?f4 ⟨rfl,hint+1 - min o (hint+1),hint - l,rfl,by omega,by omega,by omega,fun i hi=>a5.elim (fun a5=>by omega) fun a5=>mono i _ #v[] #v[] a5.2,fun i h1 h2=>mono' _ i h1 h2 a4⟩) ?p4)
      case f4 =>
        rintro c st'' ⟨rfl,lo,hi,rfl,a1,a2,a3,a4,a5⟩;exact⟨rfl,lo,hi,rfl,by omega,a2,a4,a5⟩
      case s4 =>
        rintro x c st'' _ hx ⟨rfl,lo,hi,rfl,a1,a2,a3,a4,a5⟩;dsimp only;by_cases g:lo ≥ hi
        · rw [if_pos g]
          exact Aw ⟨rfl,lo,hi,rfl,by omega,a2,a4,a5⟩
        · rw [if_neg g]
          refine Ap (hb _ _ #v[] ?_);cases q:B (lo+(hi - lo) / 2) with
          | true =>
            dsimp only;rw[if_pos rfl];refine Aw ⟨rfl,lo+(hi - lo) / 2+1,hi,rfl,by omega,a2,by omega,fun i hi'=>?_,a5⟩;exact mono i _ #v[] #v[] q
          | false =>
            dsimp only;rw[if_neg #v[0,9]];refine Aw ⟨rfl,lo,lo+(hi - lo) / 2,rfl,by omega,by omega,by omega,a4,fun i h1 h2=>?_⟩;exact mono' _ i h1 h2 q
      case p4 =>
        rintro c st'' ⟨rfl,lo,hi,rfl,rfl,a2,a4,a5⟩;exact Aw (h lo a2 a4 a5)
end
end Tim
namespace Tim
noncomputable def Srt (le:Keyed->Keyed->Prop) (xs:Array Keyed) (lo hi:Nat):Prop:=∀i j,lo<=i->i < j->j < hi->le (G xs i) (G xs j)
noncomputable def Cut (bf:Keyed->Keyed->Prop) (xs:Array Keyed) (c:Nat):Prop:=∀i j,i < c->c<=j->j < xs.size->bf (G xs i) (G xs j)
structure Re (xs ys:Array Keyed) (lo hi:Nat):Prop where
 perm:ys.Perm xs
 out:∀i,i < lo\/hi<=i->G ys i=G xs i
 inn:∀i,lo<=i->i < hi->∃j,lo<=j/\j < hi/\G ys i=G xs j
theorem Re.refl (xs:Array Keyed)(lo hi:Nat):Re xs xs lo hi:=⟨.refl _,fun _ _=>rfl,fun i h1 h2=>⟨i,h1,h2,rfl⟩⟩
theorem Re.trans {xs ys zs:Array Keyed}{lo hi:Nat}(a:Re xs ys lo hi)(b:Re ys zs lo hi):Re xs zs lo hi :=
 ⟨b.perm.trans a.perm,fun i h=>(b.out i h).trans (a.out i h),fun i h1 h2=>by
  obtain⟨j,g1,g2,e⟩:=b.inn i h1 h2;obtain⟨k,k1,k2,e'⟩:=a.inn j g1 g2;exact⟨k,k1,k2,e.trans e'⟩⟩
theorem Re.mono {xs ys:Array Keyed}{lo hi lo' hi' : Nat}(a:Re xs ys lo hi)(h1:lo'<=lo)(h2:hi<=hi'):Re xs ys lo' hi' :=
 ⟨a.perm,fun i h=>a.out i #v[],fun i g1 g2=>by
  by_cases c:lo<=i/\i < hi
  ·obtain⟨j, k1, k2, e⟩ := a.inn i c.1 c.2;exact⟨j,by omega,by omega,e⟩
  ·exact⟨i,g1,g2,a.out i #v[]⟩⟩
theorem Re.size {xs ys:Array Keyed}{lo hi:Nat}(a:Re xs ys lo hi):ys.size=xs.size:=a.perm.size_eq
theorem Cut.re {bf:Keyed->Keyed->Prop}{xs ys:Array Keyed}{lo hi c:Nat}(h:Cut bf xs c)(a:Re xs ys lo hi)(hs:hi<=xs.size)(hc:c<=lo\/hi<=c):Cut bf ys c:=fun i j h1 h2 h3=>by
 have e:=a.size;have wi:∃i',i' < c/\G ys i=G xs i':=by
  by_cases k:lo<=i/\i < hi
  ·obtain⟨i', g1, g2, e⟩ := a.inn i k.1 k.2;exact⟨i',by omega,e⟩
  ·exact⟨i,h1,a.out i #v[]⟩
 have wj:∃j',c<=j'/\j' < xs.size/\G ys j=G xs j':=by
  by_cases k:lo<=j/\j < hi
  ·obtain⟨j', g1, g2, e⟩ := a.inn j k.1 k.2;exact⟨j',by omega,by omega,e⟩
  ·exact⟨j,h2,by omega,a.out j #v[]⟩
 obtain⟨i',e1,e2⟩:=wi;obtain⟨j',e3,e4,e5⟩:=wj;rw[e2,e5];exact h i' j' e1 e3 e4
theorem Srt.re {le:Keyed->Keyed->Prop}{xs ys:Array Keyed}{lo hi a b:Nat}(h:Srt le xs a b)(r:Re xs ys lo hi)(hc:b<=lo\/hi<=a):Srt le ys a b:=fun i j h1 h2 h3=>by
 rw[r.out i #v[],r.out j #v[]];exact h i j h1 h2 h3
noncomputable def mir (xs:Array Keyed) (i j:Nat):Array Keyed:=mirror xs i j ((j - i) / 2)
theorem zho {xs:Array Keyed}{i j:Nat}(hj:j<=xs.size)(k:Nat):G (mir xs i j) k=if i<=k/\k < j then G xs (i+j - 1 - k) else G xs k:=by
 have e:=getElem?_mirror_all (i:=i) hj k;unfold mir;by_cases h1:i<=k/\k < j
 ·rw[if_pos h1] at e ⊢;exact zgt e
 ·rw[if_neg h1] at e ⊢;exact zgt e
theorem Re.mir {xs:Array Keyed}{i j:Nat}(hj:j<=xs.size):Re xs (mir xs i j) i j :=
 ⟨mirror_perm _ _ _ _,fun k h=>by rw[zho hj,if_neg #v[]],fun k h1 h2=>⟨i+j - 1 - k,by omega,by omega,by rw[zho hj,if_pos ⟨h1,h2⟩]⟩⟩
theorem zyw {xs:Array Keyed}{src d:Nat}(hs:src < xs.size)(hd:d<=src)(k:Nat):G (bubble xs src d) k=if k=src - d then G xs src else if src - d < k/\k<=src then G xs (k - 1) else G xs k:=by
 have e:=getElem?_bubble hs d hd k;by_cases h1:k=src - d
 ·rw[if_pos h1] at e ⊢;exact zgt e
 ·rw[if_neg h1] at e ⊢;by_cases h2:src - d < k/\k<=src
  ·rw[if_pos h2] at e ⊢;exact zgt e
  ·rw[if_neg h2] at e ⊢;exact zgt e
theorem Re.bub {xs:Array Keyed}{src d:Nat}(hs:src < xs.size)(hd:d<=src):Re xs (bubble xs src d) (src - d) (src+1) :=
 ⟨bubble_perm _ _ _,fun k h=>by rw[zyw hs hd,if_neg #v[],if_neg #v[]],fun k h1 h2=>by
  rw[zyw hs hd];by_cases c:k=src - d
  ·exact⟨src,by omega,by omega,by rw[if_pos c]⟩
  ·exact⟨k - 1,by omega,by omega,by rw[if_neg c,if_pos ⟨by omega,by omega⟩]⟩⟩
structure SI (κ:SortKind) (a₀:Array Keyed) (pd:Array (Nat × Nat × Nat)) (st:SortSt):Prop where
 kind:kindOf st=κ
 failed:failedOf st=none
 perm:(arrOf st).Perm a₀
 pend:pendingOf st=pd
theorem SI.size {κ a₀ pd st}(h:SI κ a₀ pd st):(arrOf st).size=a₀.size:=h.perm.size_eq
theorem SI.set {κ a₀ pd st}(h:SI κ a₀ pd st){ys:Array Keyed}(p:ys.Perm (arrOf st)):SI κ a₀ pd (setArr st ys):=⟨h.kind,h.failed,p.trans h.perm,h.pend⟩
section
variable {prog:Program}{w:World}{A:Around}{E:Value->Shared->Prop}{s:Shared}{κ:SortKind}{a₀:Array Keyed}{lt:Keyed->Keyed->Bool}{bf le:Keyed->Keyed->Prop}{st:SortSt}{pd:Array (Nat × Nat × Nat)}
theorem zwn {i j:Nat}{Q:Unit->SortSt->Prop}(h:Q () (setArr st (mir (arrOf st) i j))):wpS (model prog w) A E s (reverseSlice' i j) Q st:=by
 rw[reverseSlice'_eq];exact wpS_modify h
theorem z6m {i j:Nat}{Q:Unit->SortSt->Prop}(h:Q () (setArr st (bubble (arrOf st) i (i - j)))):wpS (model prog w) A E s (moveDown' i j) Q st:=by
 rw[moveDown'_eq];exact wpS_modify h
theorem grp (O:Ord lt bf le) {xs ys:Array Keyed}{lo n c:Nat} (c1:lo<=c) (c2:c < lo+n) (hy:∀k,G ys k=if c<=k/\k < lo+n then G xs (c+(lo+n) - 1 - k) else G xs k)
  (d1:∀i j,lo<=i->i < j->j < c->le (G xs j) (G xs i)) (d2:∀i j,lo<=i->i < c->c<=j->j < lo+n->lt (G xs j) (G xs i)=true)
  (d3:∀i j,c<=i->i < j->j < lo+n->le (G xs i) (G xs j)) (d4:∀i j,c<=i->i < lo+n->c<=j->j < lo+n->lt (G xs i) (G xs j)=false) :
  (∀i j,lo<=i->i < j->j < lo+n->le (G ys j) (G ys i))/\∀y,lt y (G xs (lo+n - 1))=true->∀i,lo<=i->i < lo+n->lt y (G ys i)=true:=by
 constructor
 ·intro i j h1 h2 h3;rw[hy i,hy j];by_cases a:j < c
  ·rw[if_neg #v[], if_neg #v[]];exact d1 i j h1 h2 a
  ·rw[if_pos ⟨by omega, h3⟩];by_cases b:i < c
   ·rw[if_neg #v[]];exact O.f2 (d2 i _ h1 b #v[] #v[])
   ·rw[if_pos ⟨by omega, by omega⟩];exact d3 _ _ #v[] #v[] #v[]
 ·intro y h i h1 h2;rw[hy i];by_cases b:c<=i/\i < lo+n
  ·rw[if_pos b];exact (O.nt _ h).resolve_right (fun q=>by rw[d4 _ _ #v[] #v[] #v[] #v[]] at q;cases q)
  ·rw[if_neg b];exact O.ltr h (d2 i _ h1 #v[] #v[] #v[])
structure DI (lt:Keyed->Keyed->Bool) (le:Keyed->Keyed->Prop) (lo n neq:Nat) (xs:Array Keyed):Prop where
 nq:neq+1<=n
 d1:∀i j,lo<=i->i < j->j < lo+n - (neq+1)->le (G xs j) (G xs i)
 d2:∀i j,lo<=i->i < lo+n - (neq+1)->lo+n - (neq+1)<=j->j < lo+n->lt (G xs j) (G xs i)=true
 d3:∀i j,lo+n - (neq+1)<=i->i < j->j < lo+n->le (G xs i) (G xs j)
 d4:∀i j,lo+n - (neq+1)<=i->i < lo+n->lo+n - (neq+1)<=j->j < lo+n->lt (G xs i) (G xs j)=false
theorem DI.turn (O:Ord lt bf le) {lo n neq:Nat}{xs:Array Keyed} (d:DI lt le lo n neq xs) (hz:lo+n<=xs.size) :
  (∀i j,lo<=i->i < j->j < lo+n->le (G (mir xs (lo+n - (neq+1)) (lo+n)) j) (G (mir xs (lo+n - (neq+1)) (lo+n)) i))/\∀y,lt y (G xs (lo+n - 1))=true->∀i,lo<=i->i < lo+n->lt y (G (mir xs (lo+n - (neq+1)) (lo+n)) i)=true :=
 grp O (by have:=d.nq;omega) (by have:=d.nq;omega) (fun k=>zho hz k) d.d1 d.d2 d.d3 d.d4
theorem DI.turn0 (O:Ord lt bf le) {lo n:Nat}{xs:Array Keyed} (d:DI lt le lo n 0 xs) :
  (∀i j,lo<=i->i < j->j < lo+n->le (G xs j) (G xs i))/\∀y,lt y (G xs (lo+n - 1))=true->∀i,lo<=i->i < lo+n->lt y (G xs i)=true :=
 grp (c:=lo+n - 1) O (by have:=d.nq;omega) (by have:=d.nq;omega) (fun k=>by
  split
  ·congr 1;omega
  ·rfl) d.d1 d.d2 d.d3 d.d4
theorem DI.next (O:Ord lt bf le){lo n:Nat}{xs:Array Keyed}(h:∀i j,lo<=i->i < j->j < lo+n->le (G xs j) (G xs i))(h2:∀i,lo<=i->i < lo+n->lt (G xs (lo+n)) (G xs i)=true):DI lt le lo (n+1) 0 xs :=
 ⟨by omega,fun i j a b c=>h i j a b #v[],fun i j a b c d=>by
  have e:j=lo+n:=by omega
  rw[e];exact h2 i a #v[],fun i j a b c=>by omega,fun i j a b c d=>by
  have e:j=i:=by omega
  rw[e];exact O.irr _⟩
theorem DI.like (O:Ord lt bf le) {lo n neq:Nat}{xs:Array Keyed} (d:DI lt le lo n neq xs) (hb:∀i,lo<=i->i < lo+n->bf (G xs i) (G xs (lo+n))) (q1:lt (G xs (lo+n)) (G xs (lo+n - 1))=false) (q2:lt (G xs (lo+n - 1)) (G xs (lo+n))=false):DI lt le lo (n+1) (neq+1) xs:=by
  have nq:=d.nq;have ec:lo+(n+1) - (neq+1+1)=lo+n - (neq+1):=by omega
  have t1:∀i,lo+n - (neq+1)<=i->i < lo+n->lt (G xs (lo+n)) (G xs i)=false:=fun i a b=>by
    cases q:lt (G xs (lo+n)) (G xs i) with
    | false=>rfl
    | true =>
      rcases O.nt (G xs (lo+n - 1)) q with z | z
      · rw[q1] at z;cases z
      · rw[d.d4 _ _ #v[] #v[] a b] at z;cases z
  have t2:∀i,lo+n - (neq+1)<=i->i < lo+n->lt (G xs i) (G xs (lo+n))=false:=fun i a b=>by
    cases q:lt (G xs i) (G xs (lo+n)) with
    | false=>rfl
    | true =>
      rcases O.nt (G xs (lo+n - 1)) q with z | z
      · rw[d.d4 _ _ a b #v[] #v[]] at z;cases z
      · rw[q2] at z;cases z
  refine⟨by omega,?_,?_,?_,?_⟩<;>rw[ec]
  · exact d.d1
  · intro i j a b c e
    by_cases k:j < lo+n
    · exact d.d2 i j a b c k
    · have ej : j = lo + n := by omega
      rw[ej];exact (O.nt (G xs (lo+n)) (d.d2 i (lo+n - 1) a b #v[] #v[])).resolve_left (fun z=>by rw[q2] at z;cases z)
  · intro i j a b c
    by_cases k:j < lo+n
    · exact d.d3 i j a b k
    · have ej : j = lo + n := by omega
      rw[ej];exact (O.f1 (hb i #v[] #v[])).mp (t1 i a #v[])
  · intro i j a b c e
    by_cases k:j < lo+n
    · by_cases k2 : i < lo + n
      · exact d.d4 i j a k2 c k
      · have ei : i = lo + n := by omega
        rw[ei];exact t1 j c k
    · have ej : j = lo + n := by omega
      rw[ej];by_cases k2:i < lo+n
      · exact t2 i a k2
      · have ei : i = lo + n := by omega
        rw[ei];exact O.irr _
theorem z71 {α:Type}{c:Prop} [Decidable c] {x y:StateT SortSt Sem α}{Q:α->SortSt->Prop}{T:SortSt->Prop}(h:∀s3,T s3->wpS (model prog w) A E s y Q s3)(h0:¬ c->T st)(h1:c->(∀s3,T s3->wpS (model prog w) A E s y Q s3)->wpS (model prog w) A E s x Q st):wpS (model prog w) A E s (if c then x else y) Q st:=by
 by_cases k:c
 ·rw[if_pos k];exact h1 k h
 ·rw[if_neg k];exact h st (h0 k)
theorem z3u (C:Asks prog w A E s κ a₀ lt) (O:Ord lt bf le) {lo nrem:Nat}{Q:Option Nat->SortSt->Prop} (I:SI κ a₀ pd st) (hsz:lo+nrem<=a₀.size) (h1:1<=nrem) (hc:∀c,lo<=c->Cut bf (arrOf st) c)
    (h:∀m st',SI κ a₀ pd st'->1<=m->m<=nrem->Re (arrOf st) (arrOf st') lo (lo+m)->Srt le (arrOf st') lo (lo+m)->Q (some m) st'):wpS (model prog w) A E s (countRun' lo nrem) Q st:=by
  have sz:=I.size;rw [countRun'_eq];refine Ap (Dl (Cm (I:=fun x c s2=>s2=st/\c=(none,x)/\1<=x/\x<=nrem/\Srt le (arrOf st) lo (lo+x))
    (Q:=fun c s2=>s2=st/\∃k,c=(none,k)/\1<=k/\k<=nrem/\Srt le (arrOf st) lo (lo+k)/\(k=nrem\/lt (G (arrOf st) (lo+k)) (G (arrOf st) (lo+k - 1))=true)) ?as1 ?af1 ⟨rfl,rfl,Ae _,h1,(fun i j g1 g2 g3=>by omega)⟩) ?ap1)
  case af1 =>
    rintro c s2 ⟨e2,rfl,a0,a1,a2⟩;rw[show max 1 nrem=nrem by omega] at *
    exact⟨e2,nrem,rfl,by omega,Ae _,a2,.inl rfl⟩
  case as1 =>
    rintro x c s2 b1 b2 ⟨e2,rfl,a0,a1,a2⟩;subst e2;dsimp only;refine Ap (zib C I.kind I.perm #v[] #v[] ?_);cases q:lt (G (arrOf s2) (lo+x)) (G (arrOf s2) (lo+x - 1)) with
    | true =>
      dsimp only;rw[if_pos rfl];exact Aw ⟨rfl,x,rfl,a0,a1,a2,.inr q⟩
    | false =>
      dsimp only;rw[if_neg #v[0,9]];refine Aw ⟨rfl,rfl,by omega,by omega,fun i j h1 h2 h3=>?_⟩;by_cases hj:j < lo+x
      · exact a2 i j h1 h2 hj
      · have ej : j = lo + x := by omega
        subst ej;have b:le (G (arrOf s2) (lo+x - 1)) (G (arrOf s2) (lo+x)):=(O.f1 (hc (lo+x) #v[] (lo+x - 1) (lo+x) #v[] (Ae _) (by rw[I.size];omega))).mp q;by_cases hi:i=lo+x - 1
        · rw[hi];exact b
        · exact O.tr (a2 i (lo+x - 1) h1 #v[] #v[]) b
  case ap1 =>
    rintro c s2 ⟨e2,n,rfl,a0,a1,a2,a3⟩;subst e2;dsimp only;by_cases en:n=nrem
    · rw [if_pos (by simpa using en)]
      exact Aw (h n s2 I a0 a1 (.refl _ _ _) a2)
    · rw [if_neg (by simpa using en)]
      have q3:=a3.resolve_left en;refine z71 (T:=fun s3=>SI κ a₀ pd s3/\Re (arrOf s2) (arrOf s3) lo (lo+(n+1))/\DI lt le lo (n+1) 0 (arrOf s3)) (fun s3 ⟨I3,R3,D3⟩=>?main) (fun n1=>?no) (fun n1 H=>?yes)
      case yes =>
        refine Ap (zib C I.kind I.perm #v[] #v[] ?_);cases q:lt (G (arrOf s2) lo) (G (arrOf s2) (lo+n - 1)) with
        | true =>
          dsimp only;rw[if_pos rfl];exact Aw (h n s2 I a0 a1 (.refl _ _ _) a2)
        | false =>
          dsimp only;rw [if_neg (by decide)];refine Ap (zwn ?_);have lk:∀i,lo<=i->i < lo+n->lt (G (arrOf s2) (lo+n)) (G (arrOf s2) i)=true:=fun i g1 g2=>by
            have z1:lt (G (arrOf s2) i) (G (arrOf s2) (lo+n - 1))=false:=by
              cases z:lt (G (arrOf s2) i) (G (arrOf s2) (lo+n - 1)) with
              | false=>rfl
              | true =>
                rcases O.nt (G (arrOf s2) lo) z with y | y
                · by_cases ei : i = lo
                  · rw[ei,O.irr] at y;cases y
                  · have := O.f3 (hc i g1 lo i (by omega) (Ae _) (by omega)) y
                    exact absurd (a2 lo i (Ae _) #v[] g2) this
                · rw[q] at y;cases y
            exact (O.nt _ q3).resolve_right (fun y=>by rw[z1] at y;cases y)
          obtain ⟨s3,e3,I3,R3,D3⟩ : ∃s3,s3=(setArr s2 (mir (arrOf s2) lo (lo+n)))/\SI κ a₀ pd s3/\Re (arrOf s2) (arrOf s3) lo (lo+(n+1))/\DI lt le lo (n+1) 0 (arrOf s3):=⟨_,rfl,I.set (Re.mir (by omega)).perm,(Re.mir (by omega)).mono (Ae _) (by omega),DI.next O (fun i j g1 g2 g3=>by
                      show le (G (mir (arrOf s2) lo (lo+n)) j) (G (mir (arrOf s2) lo (lo+n)) i);rw[zho #v[],zho #v[],if_pos ⟨by omega,by omega⟩,if_pos ⟨by omega,by omega⟩];exact a2 _ _ #v[] #v[] #v[]) (fun i g1 g2=>by
                      show lt (G (mir (arrOf s2) lo (lo+n)) (lo+n)) (G (mir (arrOf s2) lo (lo+n)) i)=true;rw[zho #v[],zho #v[],if_neg #v[],if_pos ⟨by omega,by omega⟩];exact lk _ #v[] #v[])⟩
          rw[<-e3];exact H s3 ⟨I3,R3,D3⟩
      case no =>
        have en1:n=1:=by omega
        subst en1;exact ⟨I,.refl _ _ _,DI.next O (fun i j g1 g2 g3=>by omega) (fun i g1 g2=>by
          have ei:i=lo:=by omega
          rw[ei];exact q3)⟩
      case main =>
        refine Ap (wpS_lift (Eo ⟨rfl,?_⟩));refine Ap (Dl (Cm (I:=fun x c s4=>∃neq,c=(none,x,neq)/\n+1<=x/\x<=nrem/\SI κ a₀ pd s4/\Re (arrOf s2) (arrOf s4) lo (lo+x)/\DI lt le lo x neq (arrOf s4))
          (Q:=fun c s4=>∃m neq,c=(none,m,neq)/\n+1<=m/\m<=nrem/\SI κ a₀ pd s4/\Re (arrOf s2) (arrOf s4) lo (lo+m)/\DI lt le lo m neq (arrOf s4)) ?dsd1 ?dfd1 ⟨0,rfl,Ae _,by omega,I3,R3,D3⟩) ?dpd1)
        case dfd1 =>
          rintro c s4 ⟨neq,rfl,b0,b1,b2,b3,b4⟩;have e:max (n+1) nrem=nrem:=by omega
          rw[e] at b0 b1 b3 b4 ⊢;exact⟨nrem,neq,rfl,b0,b1,b2,b3,b4⟩
        case dsd1 =>
          rintro x c s4 g1 g2 ⟨neq,rfl,b0,b1,I4,R4,D4⟩;dsimp only;have z4:=I4.size;have cut4:∀c,lo+x<=c->Cut bf (arrOf s4) c:=fun c hc'=>(hc c #v[]).re R4 #v[] (.inr hc');refine Ap (zib C I4.kind I4.perm #v[] #v[] ?_);cases q5:lt (G (arrOf s4) (lo+x)) (G (arrOf s4) (lo+x - 1)) with
          | true =>
            dsimp only;rw[if_pos rfl];by_cases nq:neq > 0
            · rw [if_pos nq]
              refine Ap (zwn (Aw ⟨0,rfl,by omega,by omega,I4.set (Re.mir #v[]).perm,(R4.trans ((Re.mir #v[]).mono (by have:=D4.nq;omega) (Ae _))).mono (Ae _) #v[],?_⟩));obtain⟨t1,t2⟩:=D4.turn O #v[];refine DI.next O t1 fun i k1 k2=>?_;have:=t2 _ q5 i k1 k2;show lt (G (mir (arrOf s4) (lo+x - (neq+1)) (lo+x)) (lo+x)) _=true;rw[zho #v[],if_neg #v[]];exact this
            · rw [if_neg nq]
              have e0:neq=0:=by omega
              subst e0;obtain⟨t1,t2⟩:=D4.turn0 O;exact Aw ⟨0,rfl,by omega,by omega,I4,R4.mono (Ae _) #v[],DI.next O t1 fun i k1 k2=>t2 _ q5 i k1 k2⟩
          | false =>
            dsimp only;rw[if_neg #v[0,9]];refine Ap (zib C I4.kind I4.perm #v[] #v[] ?_);cases q6:lt (G (arrOf s4) (lo+x - 1)) (G (arrOf s4) (lo+x)) with
            | true =>
              dsimp only;rw[if_pos rfl];exact Aw ⟨x,neq,rfl,b0,b1,I4,R4,D4⟩
            | false =>
              dsimp only;rw[if_neg #v[0,9]];exact Aw ⟨neq+1,rfl,by omega,by omega,I4,R4.mono (Ae _) #v[],D4.like O (fun i k1 k2=>cut4 (lo+x) (Ae _) i (lo+x) k2 (Ae _) #v[]) q5 q6⟩
        case dpd1 =>
          rintro c s4 ⟨n,neq,rfl,b0,n2,I4,R4,D4⟩;dsimp only;have z4:=I4.size;refine z71 (T:=fun s6=>SI κ a₀ pd s6/\Re (arrOf s2) (arrOf s6) lo (lo+n)/\∀i j,lo<=i->i < j->j < lo+n->le (G (arrOf s6) j) (G (arrOf s6) i)) (fun s6 ⟨I6,R6,t1⟩=>?tl) (fun nq=>?tn) (fun nq H=>?ty)
          case ty =>
            refine Ap (zwn ?_);have I6:SI κ a₀ pd (setArr s4 (mir (arrOf s4) (lo+n - (neq+1)) (lo+n))):=I4.set (Re.mir #v[]).perm;have R6:Re (arrOf s2) (mir (arrOf s4) (lo+n - (neq+1)) (lo+n)) lo (lo+n):=R4.trans ((Re.mir #v[]).mono (by have:=D4.nq;omega) (Ae _));have t1:=(D4.turn O #v[]).1;exact H _ ⟨I6,R6,t1⟩
          case tn =>
            have e0:neq=0:=by omega
            subst e0;exact⟨I4,R4,(D4.turn0 O).1⟩
          case tl =>
            have z6:=I6.size;refine Ap (zwn ?_);have I5:SI κ a₀ pd (setArr s6 (mir (arrOf s6) lo (lo+n))):=I6.set (Re.mir (by omega)).perm;have R5:Re (arrOf s2) (mir (arrOf s6) lo (lo+n)) lo (lo+n):=R6.trans (Re.mir (by omega));have z5:Srt le (mir (arrOf s6) lo (lo+n)) lo (lo+n):=fun i j h1 h2 h3=>by
              rw[zho #v[],zho #v[],if_pos ⟨by omega,by omega⟩,if_pos ⟨by omega,by omega⟩];exact t1 _ _ #v[] #v[] #v[]
            have ea:mir (arrOf s6) lo (lo+n)=arrOf (setArr s6 (mir (arrOf s6) lo (lo+n))):=rfl
            revert I5 R5 z5
            rw [ea];generalize (setArr s6 (mir (arrOf s6) lo (lo+n)))=s5;intro I5 R5 z5;have hz5:=I5.size;have hc5:∀c,lo+n<=c->Cut bf (arrOf s5) c:=fun c hc'=>(hc c (by omega)).re R5 (by omega) (.inr hc');refine Ap (Dl (Cm (I:=fun x c s2=>s2=s5/\c=(none,x)/\n<=x/\x<=nrem/\Srt le (arrOf s5) lo (lo+x))
              (Q:=fun c s2=>s2=s5/\∃k,c=(none,k)/\n<=k/\k<=nrem/\Srt le (arrOf s5) lo (lo+k)/\(k=nrem\/lt (G (arrOf s5) (lo+k)) (G (arrOf s5) (lo+k - 1))=true)) ?asd11 ?afd11 ⟨rfl,rfl,Ae _,n2,z5⟩) ?apd11)
            case afd11 =>
              rintro c s2 ⟨e2,rfl,y0,y1,a2⟩;rw[show max n nrem=nrem by omega] at *
              exact⟨e2,nrem,rfl,by omega,Ae _,a2,.inl rfl⟩
            case asd11 =>
              rintro x c s2 b1 b2 ⟨e2,rfl,y0,y1,a2⟩;subst e2;dsimp only;refine Ap (zib C I5.kind I5.perm #v[] #v[] ?_);cases q:lt (G (arrOf s2) (lo+x)) (G (arrOf s2) (lo+x - 1)) with
              | true =>
                dsimp only;rw[if_pos rfl];exact Aw ⟨rfl,x,rfl,y0,y1,a2,.inr q⟩
              | false =>
                dsimp only;rw[if_neg #v[0,9]];refine Aw ⟨rfl,rfl,by omega,by omega,fun i j h1 h2 h3=>?_⟩;by_cases hj:j < lo+x
                · exact a2 i j h1 h2 hj
                · have ej : j = lo + x := by omega
                  subst ej;have b:le (G (arrOf s2) (lo+x - 1)) (G (arrOf s2) (lo+x)):=(O.f1 (hc5 (lo+x) #v[] (lo+x - 1) (lo+x) #v[] (Ae _) (by rw[I5.size];omega))).mp q;by_cases hi:i=lo+x - 1
                  · rw[hi];exact b
                  · exact O.tr (a2 i (lo+x - 1) h1 #v[] #v[]) b
            case apd11 =>
              rintro c s7 ⟨e7,m,rfl,y0,y1,y2,y3⟩;subst e7;exact Aw (h m s7 I5 #v[] y1 (R5.mono (Ae _) #v[]) y2)
end
end Tim
namespace Tim
section
variable {prog:Program}{w:World}{A:Around}{E:Value->Shared->Prop}{s:Shared}{κ:SortKind}{a₀:Array Keyed}{lt:Keyed->Keyed->Bool}{bf le:Keyed->Keyed->Prop}{st:SortSt}{pd:Array (Nat × Nat × Nat)}
theorem z9n (C:Asks prog w A E s κ a₀ lt) (O:Ord lt bf le) {lo n ok:Nat}{Q:Bool->SortSt->Prop} (I:SI κ a₀ pd st) (hsz:lo+n<=a₀.size) (hok:ok<=n) (h1:1<=ok) (hs:Srt le (arrOf st) lo (lo+ok)) (hc:∀c,lo+ok<=c->Cut bf (arrOf st) c)
    (h:∀st',SI κ a₀ pd st'->Re (arrOf st) (arrOf st') lo (lo+n)->Srt le (arrOf st') lo (lo+n)->Q true st'):wpS (model prog w) A E s (binarySort' lo n ok) Q st:=by
  have sz:=I.size;rw[binarySort'_eq];have em:max ok 1=ok:=by omega
  rw [em];refine Ap (Dl (Cm (I:=fun k c s2=>c=(none,())/\ok<=k/\k<=n/\SI κ a₀ pd s2/\Re (arrOf st) (arrOf s2) lo (lo+k)/\Srt le (arrOf s2) lo (lo+k))
    (Q:=fun c s2=>c=(none,())/\SI κ a₀ pd s2/\Re (arrOf st) (arrOf s2) lo (lo+n)/\Srt le (arrOf s2) lo (lo+n)) ?step ?fin ⟨rfl,Ae _,hok,I,.refl _ _ _,hs⟩) ?post)
  case post =>
    rintro c s2 ⟨rfl,I2,R2,S2⟩;exact Aw (h s2 I2 R2 S2)
  case fin =>
    rintro c s2 ⟨hc,b0,b1,I2,R2,S2⟩;have e:max ok n=n:=by omega
    rw[e] at R2 S2;exact⟨hc,I2,R2,S2⟩
  case step =>
    rintro k c s2 g1 g2 ⟨rfl,b0,b1,I2,R2,S2⟩;have z2:=I2.size;have ct:Cut bf (arrOf s2) (lo+k):=(hc (lo+k) (by omega)).re R2 (by omega) (.inr (Ae _));refine Ap (Dl (Cm (I:=fun x c s3=>s3=s2/\∃l r,c=(none,l,r)/\l<=r/\r<=k/\r - l<=k - x/\(∀i,i < l->le (G (arrOf s2) (lo+i)) (G (arrOf s2) (lo+k)))/\∀i,r<=i->i < k->le (G (arrOf s2) (lo+k)) (G (arrOf s2) (lo+i)))
      (Q:=fun c s3=>s3=s2/\∃l,c=(none,l,l)/\l<=k/\(∀i,i < l->le (G (arrOf s2) (lo+i)) (G (arrOf s2) (lo+k)))/\∀i,l<=i->i < k->le (G (arrOf s2) (lo+k)) (G (arrOf s2) (lo+i))) ?istep ?ifin ⟨rfl,0,k,rfl,by omega,by omega,by omega,fun i hi=>by omega,fun i k1 k2=>by omega⟩) ?ipost)
    case ifin =>
      rintro c s3 ⟨e3,l,r,rfl,c1,c2,c3,c4,c5⟩;have e:r=l:=by omega
      subst e;exact⟨e3,r,rfl,c2,c4,c5⟩
    case istep =>
      rintro x c s3 _ hx ⟨e3,l,r,rfl,c1,c2,c3,c4,c5⟩;subst e3;dsimp only;by_cases g:l ≥ r
      · rw [if_pos g]
        have e:r=l:=by omega
        subst e;exact Aw ⟨rfl,r,rfl,c2,c4,c5⟩
      · rw [if_neg g]
        refine Ap (zib C I2.kind I2.perm #v[] #v[] ?_);have b:=ct (lo+(l+r) / 2) (lo+k) #v[] (Ae _) #v[];cases q:lt (G (arrOf s3) (lo+k)) (G (arrOf s3) (lo+(l+r) / 2)) with
        | true =>
          dsimp only;rw[if_pos rfl];refine Aw ⟨rfl,l,(l+r) / 2,rfl,by omega,by omega,by omega,c4,fun i k1 k2=>?_⟩;by_cases e:i=(l+r) / 2
          · rw[e];exact O.f2 q
          · exact O.tr (O.f2 q) (S2 _ _ #v[] #v[] #v[])
        | false =>
          dsimp only;rw[if_neg #v[0,9]];refine Aw ⟨rfl,(l+r) / 2+1,r,rfl,by omega,by omega,by omega,fun i k1=>?_,c5⟩;by_cases e:i=(l+r) / 2
          · rw[e];exact (O.f1 b).mp q
          · exact O.tr (S2 _ _ #v[] #v[] #v[]) ((O.f1 b).mp q)
    case ipost =>
      rintro c s3 ⟨e3,l,rfl,c2,c4,c5⟩;subst e3;refine Ap (z6m (Aw ⟨rfl,by omega,by omega,I2.set (bubble_perm _ _ _),?_,?_⟩))
      · refine (R2.mono (Ae _) #v[]).trans ((Re.bub #v[] #v[]).mono #v[] #v[])
      · intro i j h1 h2 h3
        show le (G (bubble (arrOf s3) (lo+k) (lo+k - (lo+l))) i) (G (bubble (arrOf s3) (lo+k) (lo+k - (lo+l))) j);have el:lo+k - (lo+k - (lo+l))=lo+l:=by omega
        rw [zyw (by omega) (by omega),zyw (by omega) (by omega),el];have p4:∀i,lo<=i->i < lo+l->le (G (arrOf s3) i) (G (arrOf s3) (lo+k)):=fun i k1 k2=>by
          have:=c4 (i - lo) #v[];rw[show lo+(i - lo)=i by omega] at this;exact this
        have p5:∀i,lo+l<=i->i < lo+k->le (G (arrOf s3) (lo+k)) (G (arrOf s3) i):=fun i k1 k2=>by
          have:=c5 (i - lo) #v[] #v[];rw[show lo+(i - lo)=i by omega] at this;exact this
        by_cases a1:i=lo+l
        · rw [if_pos a1, if_neg (by omega), if_pos ⟨by omega, by omega⟩]
          exact p5 _ #v[] #v[]
        · rw [if_neg a1]
          by_cases a2:j=lo+l
          · rw [if_neg (by omega), if_pos a2]
            exact p4 _ h1 #v[]
          · rw [if_neg a2]
            by_cases a3:lo+l < i/\i<=lo+k
            · rw [if_pos a3, if_pos ⟨by omega, by omega⟩]
              exact S2 _ _ #v[] #v[] #v[]
            · rw [if_neg a3]
              by_cases a4:lo+l < j/\j<=lo+k
              · rw [if_pos a4]
                by_cases a5:i=j - 1
                · rw[a5];exact O.rf _
                · exact S2 _ _ #v[] #v[] #v[]
              · rw [if_neg a4]
                exact S2 _ _ #v[] #v[] #v[]
end
end Tim
namespace Tim
theorem G_list {a:Array Keyed}{i:Nat}(h:i < a.size):a.toList[i]?=some (G a i):=by rw[Ek];exact zzc h
theorem take_G {a:Array Keyed}{i:Nat}(h:i < a.size):a.toList.take (i+1)=a.toList.take i++[G a i]:=by rw[De,G_list h];rfl
theorem zul {a:Array Keyed}{i:Nat}(h:i < a.size):a.toList.drop i=G a i::a.toList.drop (i+1):=by
 have h' : i < a.toList.length:=by simpa using h
 rw[Ci h'];have e:=G_list h;rw[Ab h'] at e;rw[sI e]
theorem mem_drop {a:Array Keyed}{n:Nat}{x:Keyed}(h:x∈a.toList.drop n):∃i,n<=i/\i < a.size/\x=G a i:=by
 obtain⟨i,hi,e⟩:=Cw.mp h;have h1:n+i < a.toList.length:=by rw[Ft] at hi;omega
 have h2:n+i < a.size:=by simpa using h1
 refine⟨n+i,by omega,h2,?_⟩;rw[List.getElem_drop] at e;have g:=G_list h2;rw[Ab h1] at g;rw[<-e];exact sI g
theorem mem_take {a:Array Keyed}{n:Nat}{x:Keyed}(h:x∈a.toList.take n):∃i,i < n/\i < a.size/\x=G a i:=by
 obtain⟨i,hi,e⟩:=Cw.mp h;rw[Eb] at hi;have h1:i < a.toList.length:=by omega
 have h2:i < a.size:=by simpa using h1
 refine⟨i,by omega,h2,?_⟩;rw[List.getElem_take] at e;have g:=G_list h2;rw[Ab h1] at g;rw[<-e];exact sI g
theorem srt_list {le:Keyed->Keyed->Prop}{a:Array Keyed}(h:Srt le a 0 a.size):a.toList.Pairwise le:=by
 rw[Gm];intro i j hi hj hij;have hi' : i < a.size:=by simpa using hi
 have hj' : j < a.size:=by simpa using hj
 have e1:=G_list hi';have e2:=G_list hj';rw[Ab hi] at e1;rw[Ab hj] at e2;rw[sI e1,sI e2];exact h i j (Bv _) hij hj'
theorem zc2 (a:Array Keyed)(i j:Nat):(a.extract i j).toList=(a.toList.drop i).take (j - i):=by rw[Array.toList_extract]
theorem ziu (a:Array Keyed)(i:Nat):(a.extract i a.size).toList=a.toList.drop i:=by
 rw[zc2,List.take_of_length_le];rw[Ft];simp
structure Fin (le:Keyed->Keyed->Prop) (a b:Array Keyed) (r:List Keyed):Prop where
 p:r.Perm (a.toList++b.toList)
 s:r.Pairwise le
structure MI (le:Keyed->Keyed->Prop) (a b:Array Keyed) (o:List Keyed) (ia ib:Nat):Prop where
 p:o.Perm (a.toList.take ia++b.toList.take ib)
 s:o.Pairwise le
 oa:∀x∈o,∀i,ia<=i->i < a.size->le x (G a i)
 ob:∀x∈o,∀j,ib<=j->j < b.size->le x (G b j)
structure MH (le:Keyed->Keyed->Prop) (a b:Array Keyed) (o:List Keyed) (na nb:Nat):Prop where
 p:o.Perm (a.toList.drop na++b.toList.drop nb)
 s:o.Pairwise le
 oa:∀x∈o,∀i,i < na->le (G a i) x
 ob:∀x∈o,∀j,j < nb->le (G b j) x
section
variable {lt:Keyed->Keyed->Bool}{bf le:Keyed->Keyed->Prop} (O:Ord lt bf le) {a b:Array Keyed}{o:List Keyed}{ia ib na nb:Nat} (Sa:Srt le a 0 a.size) (Sb:Srt le b 0 b.size)
theorem zxb {x:Keyed}{o p q:List Keyed}(h:o.Perm (p++q)):(o++[x]).Perm ((p++[x])++q):=by
 refine (h.append_right [x]).trans ?_;rw[Az,Az];exact List.perm_append_comm.append_left p
theorem MI.pushA (Sa:Srt le a 0 a.size)(m:MI le a b o ia ib)(hi:ia < a.size)(hb:∀j,ib<=j->j < b.size->le (G a ia) (G b j)):MI le a b (o++[G a ia]) (ia+1) ib:=by
 refine⟨by rw[take_G hi];exact zxb m.p,?_,fun x hx i h1 h2=>?_,fun x hx j h1 h2=>?_⟩
 ·rw[Bz];refine⟨m.s,Fe _ _,fun x hx y hy=>?_⟩;rw[Aj.mp hy];exact m.oa x hx ia (Ae _) hi
 ·rcases Bd.mp hx with z | z
  ·exact m.oa x z i #v[] h2
  ·rw[Aj.mp z];exact Sa _ _ (Bv _) #v[] h2
 ·rcases Bd.mp hx with z | z
  ·exact m.ob x z j h1 h2
  ·rw[Aj.mp z];exact hb j h1 h2
theorem MI.pushB (Sb:Srt le b 0 b.size)(m:MI le a b o ia ib)(hj:ib < b.size)(ha:∀i,ia<=i->i < a.size->le (G b ib) (G a i)):MI le a b (o++[G b ib]) ia (ib+1):=by
 refine⟨?_,?_,fun x hx i h1 h2=>?_,fun x hx j h1 h2=>?_⟩
 ·rw[take_G hj];have:=m.p.append_right [G b ib];rw[Az] at this;exact this
 ·rw[Bz];refine⟨m.s,Fe _ _,fun x hx y hy=>?_⟩;rw[Aj.mp hy];exact m.ob x hx ib (Ae _) hj
 ·rcases Bd.mp hx with z | z
  ·exact m.oa x z i h1 h2
  ·rw[Aj.mp z];exact ha i h1 h2
 ·rcases Bd.mp hx with z | z
  ·exact m.ob x z j #v[] h2
  ·rw[Aj.mp z];exact Sb _ _ (Bv _) #v[] h2
theorem zox {a:Array Keyed}{i k:Nat}(h:i+k < a.size):(a.toList.drop i).take (k+1)=(a.toList.drop i).take k++[G a (i+k)]:=by
 rw[De,List.getElem?_drop,G_list h];rfl
theorem MI.appA (Sa:Srt le a 0 a.size) (m:MI le a b o ia ib):∀k,ia+k<=a.size->(∀i,ia<=i->i < ia+k->∀j,ib<=j->j < b.size->le (G a i) (G b j))->MI le a b (o++(a.toList.drop ia).take k) (ia+k) ib
  | 0,_,_=>by rw[Ea,Br];exact m
  | k+1,h1,h2=>by
    have:=(m.appA Sa k #v[] fun i g1 g2=>h2 i g1 #v[]).pushA Sa #v[] (h2 (ia+k) #v[] #v[]);rw[zox #v[],<-Az];exact this
theorem MI.appB (Sb:Srt le b 0 b.size) (m:MI le a b o ia ib):∀k,ib+k<=b.size->(∀j,ib<=j->j < ib+k->∀i,ia<=i->i < a.size->le (G b j) (G a i))->MI le a b (o++(b.toList.drop ib).take k) ia (ib+k)
  | 0,_,_=>by rw[Ea,Br];exact m
  | k+1,h1,h2=>by
    have:=(m.appB Sb k #v[] fun i g1 g2=>h2 i g1 #v[]).pushB Sb #v[] (h2 (ib+k) #v[] #v[]);rw[zox #v[],<-Az];exact this
theorem zpn (b:Array Keyed):b.toList.take b.size=b.toList:=List.take_of_length_le (by simp)
theorem MI.finB (Sa:Srt le a 0 a.size)(m:MI le a b o ia b.size):Fin le a b (o++a.toList.drop ia):=by
 refine⟨?_,?_⟩
 ·have h := m.p;rw[zpn] at h;refine (h.append_right _).trans ?_;rw[Az];refine (List.perm_append_comm.append_left _).trans ?_;rw[<-Az,Bl]
 ·rw[Bz];refine⟨m.s,(srt_list Sa).sublist (Gp _ _),fun x hx y hy=>?_⟩;obtain⟨i,h1,h2,rfl⟩:=mem_drop hy;exact m.oa x hx i h1 h2
theorem MI.finA (Sb:Srt le b 0 b.size)(m:MI le a b o a.size ib):Fin le a b (o++b.toList.drop ib):=by
 refine⟨?_,?_⟩
 ·have h := m.p;rw[zpn] at h;refine (h.append_right _).trans ?_;rw[Az,Bl]
 ·rw[Bz];refine⟨m.s,(srt_list Sb).sublist (Gp _ _),fun x hx y hy=>?_⟩;obtain⟨i,h1,h2,rfl⟩:=mem_drop hy;exact m.ob x hx i h1 h2
theorem MI.finL (Sa:Srt le a 0 a.size)(Sb:Srt le b 0 b.size)(m:MI le a b o ia ib)(e:ia+1=a.size)(HA:∀j,j < b.size->le (G b j) (G a (a.size - 1))):Fin le a b (o++b.toList.drop ib++a.toList.drop ia):=by
 refine⟨?_,?_⟩
 ·refine ((m.p.append_right _).append_right _).trans ?_;rw[Az,Az,<-Az (b.toList.take ib),Bl];refine (List.perm_append_comm.append_left _).trans ?_;rw[<-Az,Bl]
 ·rw[Bz, Bz];refine⟨⟨m.s,(srt_list Sb).sublist (Gp _ _),fun x hx y hy=>?_⟩,(srt_list Sa).sublist (Gp _ _),fun x hx y hy=>?_⟩
  ·obtain⟨i, h1, h2, rfl⟩ := mem_drop hy;exact m.ob x hx i h1 h2
  ·obtain⟨i, h1, h2, rfl⟩ := mem_drop hy;rcases Bd.mp hx with z | z
   ·exact m.oa x z i h1 h2
   ·obtain⟨j, g1, g2, rfl⟩ := mem_drop z;have:i=a.size - 1:=by omega
    rw[this];exact HA j g2
theorem MH.pushA (Sa:Srt le a 0 a.size)(m:MH le a b o (na+1) nb)(h:na < a.size)(hb:∀j,j < nb->le (G b j) (G a na)):MH le a b (G a na::o) na nb:=by
 refine⟨?_,Ck.mpr ⟨fun x hx=>m.oa x hx na #v[],m.s⟩,fun x hx i h1=>?_,fun x hx j h1=>?_⟩
 ·rw[zul h];exact m.p.cons _
 ·rcases Ax.mp hx with z | z
  ·rw[z];exact Sa _ _ (Bv _) h1 h
  ·exact m.oa x z i #v[]
 ·rcases Ax.mp hx with z | z
  ·rw[z];exact hb j h1
  ·exact m.ob x z j h1
theorem MH.pushB (Sb:Srt le b 0 b.size)(m:MH le a b o na (nb+1))(h:nb < b.size)(ha:∀i,i < na->le (G a i) (G b nb)):MH le a b (G b nb::o) na nb:=by
 refine⟨?_,Ck.mpr ⟨fun x hx=>m.ob x hx nb #v[],m.s⟩,fun x hx i h1=>?_,fun x hx j h1=>?_⟩
 ·rw[zul h];exact (m.p.cons _).trans List.perm_middle.symm
 ·rcases Ax.mp hx with z | z
  ·rw[z];exact ha i h1
  ·exact m.oa x z i h1
 ·rcases Ax.mp hx with z | z
  ·rw[z];exact Sb _ _ (Bv _) h1 h
  ·exact m.ob x z j #v[]
theorem zph {a:Array Keyed}{i k:Nat}(h:i < a.size):(a.toList.drop i).take (k+1)=G a i::(a.toList.drop (i+1)).take k:=by
 rw[zul h,List.take_succ_cons]
theorem MH.appA (Sa:Srt le a 0 a.size):∀(k at_:Nat),MH le a b o (at_+k) nb->at_+k<=a.size->(∀i,at_<=i->i < at_+k->∀j,j < nb->le (G b j) (G a i))->MH le a b ((a.toList.drop at_).take k++o) at_ nb
  | 0,at_,m,_,_=>by rw[Ea];exact m
  | k+1,at_,m,h1,h2=>by
    have:=(MH.appA Sa k (at_+1) (by rw[show at_+1+k=at_+(k+1) by omega];exact m) #v[] fun i g1 g2=>h2 i #v[] #v[]).pushA Sa #v[] (h2 at_ (Ae _) #v[]);rw[zph #v[]];exact this
theorem MH.appB (Sb:Srt le b 0 b.size):∀(k at_:Nat),MH le a b o na (at_+k)->at_+k<=b.size->(∀j,at_<=j->j < at_+k->∀i,i < na->le (G a i) (G b j))->MH le a b ((b.toList.drop at_).take k++o) na at_
  | 0,at_,m,_,_=>by rw[Ea];exact m
  | k+1,at_,m,h1,h2=>by
    have:=(MH.appB Sb k (at_+1) (by rw[show at_+1+k=at_+(k+1) by omega];exact m) #v[] fun i g1 g2=>h2 i #v[] #v[]).pushB Sb #v[] (h2 at_ (Ae _) #v[]);rw[zph #v[]];exact this
theorem MH.finA (Sb:Srt le b 0 b.size)(m:MH le a b o 0 nb):Fin le a b (b.toList.take nb++o):=by
 refine⟨?_,?_⟩
 ·refine (m.p.append_left _).trans ?_;rw[Ec];refine List.perm_append_comm_assoc _ _ _ |>.trans ?_;rw[Bl]
 ·rw[Bz];refine⟨(srt_list Sb).sublist (Fm _ _),m.s,fun x hx y hy=>?_⟩;obtain⟨i,h1,h2,rfl⟩:=mem_take hx;exact m.ob y hy i h1
theorem MH.finB (Sa:Srt le a 0 a.size)(m:MH le a b o na 0):Fin le a b (a.toList.take na++o):=by
 refine⟨?_,?_⟩
 ·refine (m.p.append_left _).trans ?_;rw[Ec,<-Az,Bl]
 ·rw[Bz];refine⟨(srt_list Sa).sublist (Fm _ _),m.s,fun x hx y hy=>?_⟩;obtain⟨i,h1,h2,rfl⟩:=mem_take hx;exact m.oa y hy i h1
theorem MH.finF (Sa:Srt le a 0 a.size)(Sb:Srt le b 0 b.size)(m:MH le a b o na 1)(H0:∀i,i < a.size->le (G b 0) (G a i)):Fin le a b (b.toList.take 1++a.toList.take na++o):=by
 refine⟨?_,?_⟩
 ·refine (m.p.append_left _).trans ?_;rw[Az,<-Az (a.toList.take na),Bl];refine List.perm_append_comm_assoc _ _ _ |>.trans ?_;rw[Bl]
 ·rw[Bz, Bz];refine⟨⟨(srt_list Sb).sublist (Fm _ _),(srt_list Sa).sublist (Fm _ _),fun x hx y hy=>?_⟩,m.s,fun x hx y hy=>?_⟩
  ·obtain⟨i, h1, h2, rfl⟩ := mem_take hx;obtain⟨j,g1,g2,rfl⟩:=mem_take hy;have:i=0:=by omega
   rw[this];exact H0 j g2
  ·rcases Bd.mp hx with z | z
   ·obtain⟨i, h1, h2, rfl⟩ := mem_take z;exact m.ob y hy i h1
   ·obtain⟨i, h1, h2, rfl⟩ := mem_take z;exact m.oa y hy i h1
end
end Tim
namespace Tim
noncomputable def setG:Nat->StateT SortSt Sem Unit:=sortPriv% PySem.Builtin.setMinGallop
section
variable {prog:Program}{w:World}{A:Around}{E:Value->Shared->Prop}{s:Shared}{κ:SortKind}{a₀:Array Keyed}{lt:Keyed->Keyed->Bool}{bf le:Keyed->Keyed->Prop}{st:SortSt}{pd:Array (Nat × Nat × Nat)}
structure SG (κ:SortKind) (a₀:Array Keyed) (pd:Array (Nat × Nat × Nat)) (xs:Array Keyed) (st:SortSt):Prop where
 i:SI κ a₀ pd st
 e:arrOf st=xs
theorem zpo {xs:Array Keyed}{g:Nat}{Q:Unit->SortSt->Prop}(S:SG κ a₀ pd xs st)(h:∀st',SG κ a₀ pd xs st'->Q () st'):wpS (model prog w) A E s (setG g) Q st :=
 wpS_modify (h _ ⟨⟨S.i.kind,S.i.failed,S.i.perm,S.i.pend⟩,S.e⟩)
theorem q_lt {x y:Keyed}{Q:Option Bool->SortSt->Prop}(C:Asks prog w A E s κ a₀ lt){xs:Array Keyed}(S:SG κ a₀ pd xs st)(hx:x∈a₀.toList)(hy:y∈a₀.toList)(h:Q (some (lt x y)) st):wpS (model prog w) A E s (lt' x y) Q st:=C _ _ _ _ hx hy S.i.kind h
theorem zjy {out a b:Array Keyed}{ia ib:Nat}:(out++a.extract ia a.size++b.extract ib b.size).toList=out.toList++a.toList.drop ia++b.toList.drop ib:=by
 rw[Bu,Bu,ziu,ziu]
theorem zo0 {le:Keyed->Keyed->Prop}{out a b:Array Keyed}{ia ib:Nat}(e:ib=b.size)(h:Fin le a b (out.toList++a.toList.drop ia)):Fin le a b (out++a.extract ia a.size++b.extract ib b.size).toList:=by
 subst e;rw[zjy,List.drop_of_length_le (l:=b.toList) (by simp),Br];exact h
theorem z4h {le:Keyed->Keyed->Prop}{out a b:Array Keyed}{ia ib:Nat}(e:ia=a.size)(h:Fin le a b (out.toList++b.toList.drop ib)):Fin le a b (out++a.extract ia a.size++b.extract ib b.size).toList:=by
 subst e;rw[zjy,List.drop_of_length_le (l:=a.toList) (by simp),Br];exact h
theorem zpx {le:Keyed->Keyed->Prop}{out a b:Array Keyed}{ia ib:Nat}(h:Fin le a b (out.toList++b.toList.drop ib++a.toList.drop ia)):Fin le a b (out++b.extract ib b.size++a.extract ia a.size).toList:=by
 rw[Bu,Bu,ziu,ziu];exact h
theorem q_if {α:Type}{c:Prop} [Decidable c] {x y:StateT SortSt Sem α}{Q:α->SortSt->Prop}(h1:c->wpS (model prog w) A E s x Q st)(h2:¬ c->wpS (model prog w) A E s y Q st):wpS (model prog w) A E s (if c then x else y) Q st:=by
 by_cases h:c
 ·rw[if_pos h];exact h1 h
 ·rw[if_neg h];exact h2 h
theorem zub {α:Type}{x:StateT SortSt Sem α}{Q:α->SortSt->Prop}(h:∀Q',(∀r t,Q r t->Q' r t)->wpS (model prog w) A E s x Q' st):wpS (model prog w) A E s x Q st:=h Q fun _ _ z=>z
theorem q_eq {α β:Type}{c:β->Prop} [∀m,Decidable (c m)] {x:β->StateT SortSt Sem α}{Q:α->SortSt->Prop}{g:β->β}{f:β->StateT SortSt Sem α}(e:∀m,x m=f (g m))(h:∀u,wpS (model prog w) A E s (f u) Q st):∀m,wpS (model prog w) A E s (if c m then x m else f m) Q st:=fun m=>by
 rw[e];exact q_if (fun _=>h _) fun _=>h _
theorem zx4 {α β γ:Type}{c:Prop} [Decidable c] {x:β->γ->StateT SortSt Sem α}{Q:α->SortSt->Prop}{v:β}{u:γ}{f:β->γ->StateT SortSt Sem α} (P:β->γ->Prop) (h0:¬ c->P v u) (h1:c->(∀v u,P v u->wpS (model prog w) A E s (f v u) Q st)->wpS (model prog w) A E s (x v u) Q st)
  (h:∀v u,P v u->wpS (model prog w) A E s (f v u) Q st):∀v',v=v'->∀u',u=u'->wpS (model prog w) A E s (if c then x v' u' else f v' u') Q st:=by
 rintro _ rfl _ rfl;exact q_if (fun k=>h1 k h) fun k=>h _ _ (h0 k)
theorem MI.finA' {le:Keyed->Keyed->Prop}{a b:Array Keyed}{o:List Keyed}{ia ib:Nat}(Sb:Srt le b 0 b.size)(m:MI le a b o ia ib)(e:ia=a.size):Fin le a b (o++b.toList.drop ib):=by subst e;exact m.finA Sb
theorem MI.finB' {le:Keyed->Keyed->Prop}{a b:Array Keyed}{o:List Keyed}{ia ib:Nat}(Sa:Srt le a 0 a.size)(m:MI le a b o ia ib)(e:ib=b.size):Fin le a b (o++a.toList.drop ia):=by subst e;exact m.finB Sa
structure MP (lt:Keyed->Keyed->Bool) (bf le:Keyed->Keyed->Prop) (a₀ a b:Array Keyed):Prop where
 sa:Srt le a 0 a.size
 sb:Srt le b 0 b.size
 ma:∀i,i < a.size->G a i∈a₀.toList
 mb:∀i,i < b.size->G b i∈a₀.toList
 bf:∀i j,i < a.size->j < b.size->bf (G a i) (G b j)
 a1:1<=a.size
 b1:1<=b.size
 h0:∀i,i < a.size->le (G b 0) (G a i)
 ha:∀j,j < b.size->le (G b j) (G a (a.size - 1))
theorem z80 (C:Asks prog w A E s κ a₀ lt) (O:Ord lt bf le) {a b xs:Array Keyed}{Q:Array Keyed->SortSt->Prop} (S:SG κ a₀ pd xs st) (P:MP lt bf le a₀ a b)
    (h:∀r st',SG κ a₀ pd xs st'->Fin le a b r.toList->Q r st'):wpS (model prog w) A E s (mLo a b) Q st:=by
  have leA:∀i j,i<=j->j < a.size->le (G a i) (G a j):=fun i j h1 h2=>by
    by_cases e:i=j
    · rw[e];exact O.rf _
    · exact P.sa i j (Bv _) #v[] h2
  have leB:∀i j,i<=j->j < b.size->le (G b i) (G b j):=fun i j h1 h2=>by
    by_cases e:i=j
    · rw[e];exact O.rf _
    · exact P.sb i j (Bv _) #v[] h2
  have pa:=P.a1;have pb:=P.b1;show wpS (model prog w) A E s (liftM (rule _) >>= _) Q st;refine Ap (wpS_lift (Eo ⟨rfl,?_⟩));refine Ap (zav pb ?_);have m0:MI le a b (#[G b 0]:Array Keyed).toList 0 1:=by
    have:=MI.pushB (o:=[]) (ia:=0) (ib:=0) P.sb ⟨by simp,.nil,fun x hx=>by simp at hx,fun x hx=>by simp at hx⟩ #v[] (fun i _ h2=>P.h0 i h2);simpa using this
  dsimp only;by_cases e1:1=b.size
  · rw [if_pos (by simpa using e1)]
    refine Aw (h _ _ S (zo0 e1 (m0.finB' P.sa e1)))
  rw[if_neg (by simpa using e1)];by_cases e2:0+1=a.size
  · rw [if_pos (by simpa using e2)]
    exact Aw (h _ _ S (zpx (m0.finL P.sa P.sb e2 P.ha)))
  rw [if_neg (by simpa using e2)];refine Ap (Hd ?_);refine Ap (Dl (Cm (I:=fun x c s2=>∃(out:Array Keyed) (ia ib mg:Nat),c=(none,out,ia,ib,mg)/\SG κ a₀ pd xs s2/\MI le a b out.toList ia ib/\ia+1 < a.size/\ib < b.size/\x<=ia+ib)
    (Q:=fun c s2=>∃(r out:Array Keyed) (ia ib mg:Nat),c=(some r,out,ia,ib,mg)/\SG κ a₀ pd xs s2/\Fin le a b r.toList) ?os ?of ⟨_,0,1,_,rfl,S,m0,by omega,by omega,by omega⟩) ?op)
  case of =>
    rintro c s2 hC;refine aG fun G hG=>?_;obtain⟨out,ia,ib,mg,eC,b1,b2,b3,b4,b5⟩:=hC;refine hG ?_;clear hG;clear G;subst eC;exfalso;omega
  case op =>
    rintro c s2 hC;refine aG fun G hG=>?_;obtain⟨r,out,ia,ib,mg,eC,b1,b2⟩:=hC;refine hG ?_;clear hG;clear G;subst eC;exact Aw (h _ _ b1 b2)
  case os =>
    rintro x c s2 _ hx hC;refine aG fun G hG=>?_;obtain ⟨out,ia,ib,mg,eC,S2,m2,b3,b4,b5⟩:=hC;refine hG ?_;clear hG;clear G;subst eC;dsimp only;refine Ap (Dl (Cm (I:=fun y c s3=>s3=s2/\∃(out:Array Keyed) (ia ib ac bc:Nat),c=(none,out,ia,ib,ac,bc)/\MI le a b out.toList ia ib/\ia+1 < a.size/\ib < b.size/\x<=ia+ib)
      (Q:=fun c s3=>s3=s2/\((∃(r out:Array Keyed) (ia ib ac bc:Nat),c=(some r,out,ia,ib,ac,bc)/\Fin le a b r.toList)\/∃(out:Array Keyed) (ia ib ac bc:Nat),c=(none,out,ia,ib,ac,bc)/\MI le a b out.toList ia ib/\ia+1 < a.size/\ib < b.size/\x<=ia+ib)) ?is1 ?if1 ⟨rfl,out,ia,ib,0,0,rfl,m2,b3,b4,b5⟩) ?ip1)
    case if1 =>
      rintro c s3 ⟨e3,z⟩;exact⟨e3,.inr z⟩
    case is1 =>
      rintro y c s3 _ hy hC;refine aG fun G hG=>?_;obtain⟨e3,out,ia,ib,ac,bc,eC,m3,c3,c4,c5⟩:=hC;refine hG ?_;clear hG;clear G;subst eC;subst e3;dsimp only;refine Ap (zav c4 (Ap (zav #v[] (Ap (q_lt C S2 (P.mb _ c4) (P.ma _ #v[]) ?_)))));have bb:=P.bf ia ib #v[] c4;cases q:lt (G b ib) (G a ia) with
      | true =>
        dsimp only;rw [if_pos rfl];refine Ap (zav c4 ?_);have m4:MI le a b (out.push (G b ib)).toList ia (ib+1):=by
          rw[Dv];exact m3.pushB P.sb c4 fun i g1 g2=>O.tr (O.f2 q) (leA _ _ g1 g2)
        by_cases e:ib+1=b.size
        · rw [if_pos (by simpa using e)]
          refine Aw ⟨rfl,.inl ⟨_,_,_,_,_,_,rfl,zo0 e ?_⟩⟩;rw[e] at m4;exact m4.finB P.sa
        · rw [if_neg (by simpa using e)]
          split
          · exact Aw ⟨rfl,.inr ⟨_,_,_,_,_,rfl,m4,c3,by omega,by omega⟩⟩
          · exact Aw ⟨rfl,_,_,_,_,_,rfl,m4,c3,by omega,by omega⟩
      | false =>
        dsimp only;rw [if_neg (by decide)];refine Ap (zav (by omega) ?_);have m4:MI le a b (out.push (G a ia)).toList (ia+1) ib:=by
          rw[Dv];exact m3.pushA P.sa #v[] fun j g1 g2=>O.tr ((O.f1 bb).mp q) (leB _ _ g1 g2)
        by_cases e:ia+1+1=a.size
        · rw [if_pos (by simpa using e)]
          exact Aw ⟨rfl,.inl ⟨_,_,_,_,_,_,rfl,zpx (m4.finL P.sa P.sb e P.ha)⟩⟩
        · rw [if_neg (by simpa using e)]
          split
          · exact Aw ⟨rfl,.inr ⟨_,_,_,_,_,rfl,m4,by omega,c4,by omega⟩⟩
          · exact Aw ⟨rfl,_,_,_,_,_,rfl,m4,by omega,c4,by omega⟩
    case ip1 =>
      rintro c s3 ⟨e3,z⟩;subst e3;refine aG fun G hG=>?_;rcases z with ⟨r,out,ia,ib,ac,bc,eC,f⟩ | ⟨out,ia,ib,ac,bc,eC,m3,c3,c4,c5⟩
      · refine hG ?_
        clear hG;clear G;subst eC;exact Aw ⟨_,_,_,_,_,rfl,S2,f⟩
      · refine hG ?_
        clear hG;clear G;subst eC;dsimp only;refine Ap (wpS_lift (Eo ⟨rfl,?_⟩));refine Ap (Dl (Cm (I:=fun y c s4=>∃(out:Array Keyed) (ia ib mg ac bc:Nat),c=(none,out,ia,ib,mg,ac,bc)/\SG κ a₀ pd xs s4/\MI le a b out.toList ia ib/\ia+1 < a.size/\ib < b.size/\x+y<=ia+ib)
          (Q:=fun c s4=>SG κ a₀ pd xs s4/\((∃(r out:Array Keyed) (ia ib mg ac bc:Nat),c=(some r,out,ia,ib,mg,ac,bc)/\Fin le a b r.toList)\/∃(out:Array Keyed) (ia ib mg ac bc:Nat),c=(none,out,ia,ib,mg,ac,bc)/\MI le a b out.toList ia ib/\ia+1 < a.size/\ib < b.size/\x+1<=ia+ib)) ?gs ?gf ⟨out,ia,ib,_,ac,bc,rfl,S2,m3,c3,c4,by omega⟩) ?gp)
        case gf =>
          rintro c s4 hC;refine aG fun G hG=>?_;obtain⟨out,ia,ib,mg,ac,bc,eC,S4,m4,d3,d4,d5⟩:=hC;refine hG ?_;clear hG;clear G;subst eC;exact⟨S4,.inr ⟨_,_,_,_,_,_,rfl,m4,d3,d4,by omega⟩⟩
        case gp =>
          rintro c s4 ⟨S4,z⟩;refine aG fun G hG=>?_;rcases z with ⟨r,out,ia,ib,mg,ac,bc,eC,f⟩ | ⟨out,ia,ib,mg,ac,bc,eC,m4,d3,d4,d5⟩
          · refine hG ?_
            clear hG;clear G;subst eC;exact Aw ⟨_,_,_,_,_,rfl,S4,f⟩
          · refine hG ?_
            clear hG;clear G;subst eC;dsimp only;exact Ap (zpo S4 fun s5 S5=>Aw ⟨_,_,_,_,rfl,S5,m4,d3,d4,d5⟩)
        case gs =>
          rintro y c s4 _ hy hC;refine aG fun G hG=>?_;obtain⟨out,ia,ib,mg,ac,bc,eC,S4,m4,d3,d4,d5⟩:=hC;refine hG ?_;clear hG;clear G;subst eC;simp (config:={ maxSteps:=10000000,failIfUnchanged:=false }) only [];refine zub fun Q' hQ=>?_;generalize mg=mg
          revert mg
          refine q_eq (g:=fun mg=>mg - 1) (fun _=>rfl) fun mg=>?_;dsimp (config:={ failIfUnchanged:=false }) only;refine Ap (zpo S4 fun s5 S5=>Ap (zav d4 (Ap (zrl (left:=false) (key:=G b ib) (arr:=a) (base:=ia) (n:=a.size - ia) (hint:=0) (B:=fun i=>!lt (G b ib) (G a (ia+i))) C S5.i.kind (P.mb _ d4) #v[] (fun i hi=>P.ma _ #v[]) (fun i hi=>rfl) (fun i j h1 h2 h3=>?mono1) #v[] fun k k1 k2 k3=>?_))))
          case mono1 =>
            have h3' : lt (G b ib) (G a (ia+j))=false:=by simpa using h3
            have l1:=(O.f1 (P.bf (ia+j) ib #v[] d4)).mp h3';have l2:=(O.f1 (P.bf (ia+i) ib #v[] d4)).mpr (O.tr (leA _ _ #v[] #v[]) l1);show (!lt (G b ib) (G a (ia+i)))=true;rw[l2];rfl
          have w1:∀i,ia<=i->i < ia+k->le (G a i) (G b ib):=fun i g1 g2=>by
            have:=k2 (i - ia) #v[];rw[Gd g1] at this;exact (O.f1 (P.bf i ib #v[] d4)).mp (by simpa using this)
          have w2:∀i,ia+k<=i->i < a.size->le (G b ib) (G a i):=fun i g1 g2=>by
            have:=k3 (i - ia) #v[] #v[];rw[Gd (Cq (Nat.le_add_right _ _) g1)] at this;exact O.f2 (by simpa using this)
          have m5:MI le a b (out++a.extract ia (ia+k)).toList (ia+k) ib:=by
            rw[Bu,zc2,Nat.add_sub_cancel_left];exact m4.appA P.sa k #v[] fun i g1 g2 j g3 g4=>O.tr (w1 i g1 g2) (leB _ _ g3 g4)
          dsimp (config:={ failIfUnchanged:=false }) only;generalize eou:out=out'
          revert out'
          generalize ena:ia=na'
          revert na'
          refine zx4 (fun ia1 out1=>MI le a b out1.toList ia1 ib/\(∀i,ia1<=i->i < a.size->le (G b ib) (G a i))/\ia1+1 < a.size/\x+y<=ia1+ib) (fun hk0=>?_) (fun hc H=>?_) fun ia1 out1 ⟨n5,u1,b6,p6⟩=>?_
          · have k0 : k = 0 := by omega
            subst k0;exact⟨m4,w2,d3,d5⟩
          · refine q_if (fun e1 => ?_) fun e1 => ?_
            · have e1 : ia + k + 1 = a.size := by simpa using e1
              exact Aw (hQ _ _ ⟨S5,.inl ⟨_,_,_,_,_,_,_,rfl,zpx (m5.finL P.sa P.sb e1 P.ha)⟩⟩)
            have e1:¬ ia+k+1=a.size:=by simpa using e1
            refine q_if (fun e2=>?_) fun e2=>?_
            · have e2 : ia + k = a.size := by simpa using e2
              exact Aw (hQ _ _ ⟨S5,.inl ⟨_,_,_,_,_,_,_,rfl,z4h e2 (m5.finA' P.sb e2)⟩⟩)
            have e2:¬ ia+k=a.size:=by simpa using e2
            exact H _ _ ⟨m5,w2,by omega,by omega⟩
          clear m5 m4 w2 w1 k3 k2 k1;dsimp (config:={ failIfUnchanged:=false }) only;refine Ap (zav d4 ?_);have m6:MI le a b (out1.push (G b ib)).toList ia1 (ib+1):=by
            rw[Dv];exact n5.pushB P.sb d4 u1
          refine q_if (fun e3=>?_) fun e3=>?_
          · have e3 : ib + 1 = b.size := by simpa using e3
            exact Aw (hQ _ _ ⟨S5,.inl ⟨_,_,_,_,_,_,_,rfl,zo0 e3 (m6.finB' P.sa e3)⟩⟩)
          have e3:¬ ib+1=b.size:=by simpa using e3
          refine Ap (zav #v[] (Ap (zrl (left:=true) (key:=G a ia1) (arr:=b) (base:=ib+1) (n:=b.size - (ib+1)) (hint:=0) (B:=fun j=>lt (G b (ib+1+j)) (G a ia1)) C S5.i.kind (P.ma _ #v[]) #v[] (fun j hj=>P.mb _ #v[]) (fun j hj=>rfl) (fun i j h1 h2 h3=>?mono2) #v[] fun l l1 l2 l3=>?_)))
          case mono2 =>
            have n1:=O.f3 (P.bf ia1 (ib+1+j) #v[] #v[]) h3;cases q:lt (G b (ib+1+i)) (G a ia1) with
            | true=>rfl
            | false=>exact absurd (O.tr ((O.f1 (P.bf ia1 (ib+1+i) #v[] #v[])).mp q) (leB _ _ #v[] #v[])) n1
          have v1:∀j,ib+1<=j->j < ib+1+l->le (G b j) (G a ia1):=fun j g1 g2=>by
            have:=l2 (j - (ib+1)) #v[];rw[Gd g1] at this;exact O.f2 this
          have v2:∀j,ib+1+l<=j->j < b.size->le (G a ia1) (G b j):=fun j g1 g2=>by
            have:=l3 (j - (ib+1)) #v[] #v[];rw[Gd (Cq (Nat.le_add_right _ _) g1)] at this;exact (O.f1 (P.bf ia1 j #v[] g2)).mp this
          have m7:MI le a b (out1.push (G b ib)++b.extract (ib+1) (ib+1+l)).toList ia1 (ib+1+l):=by
            rw[Bu,zc2,Nat.add_sub_cancel_left];exact m6.appB P.sb l #v[] fun j g1 g2 i g3 g4=>O.tr (v1 j g1 g2) (leA _ _ g3 g4)
          dsimp (config:={ failIfUnchanged:=false }) only;generalize hnb:ib+1=ib1 at m7 m6 v2 e3 ⊢;generalize hout:out1.push (G b ib)=out2 at m7 m6 ⊢;generalize eou:out2=out'
          revert out'
          generalize ena:ib1=na'
          revert na'
          refine zx4 (fun ib2 out2=>MI le a b out2.toList ia1 ib2/\(∀j,ib2<=j->j < b.size->le (G a ia1) (G b j))/\ib2 < b.size/\x+y+1<=ia1+ib2) (fun hl0=>?_) (fun hc H=>?_) fun ib2 out3 ⟨n7,u2,b7,p7⟩=>?_
          · have k0 : l = 0 := by omega
            subst k0;exact⟨m6,v2,by omega,by omega⟩
          · refine q_if (fun e4 => ?_) fun e4 => ?_
            · have e4 : ib1 + l = b.size := by simpa using e4
              exact Aw (hQ _ _ ⟨S5,.inl ⟨_,_,_,_,_,_,_,rfl,zo0 e4 (m7.finB' P.sa e4)⟩⟩)
            have e4:¬ ib1+l=b.size:=by simpa using e4
            exact H _ _ ⟨m7,v2,by omega,by omega⟩
          dsimp (config:={ failIfUnchanged:=false }) only;refine Ap (zav (by omega) ?_);have m8:MI le a b (out3.push (G a ia1)).toList (ia1+1) ib2:=by
            rw[Dv];exact n7.pushA P.sa #v[] u2
          refine q_if (fun e5=>?_) fun e5=>?_
          · have e5 : ia1 + 1 + 1 = a.size := by simpa using e5
            exact Aw (hQ _ _ ⟨S5,.inl ⟨_,_,_,_,_,_,_,rfl,zpx (m8.finL P.sa P.sb e5 P.ha)⟩⟩)
          have e5:¬ ia1+1+1=a.size:=by simpa using e5
          refine q_if (fun _=>?_) fun _=>?_
          · exact Aw (hQ _ _ ⟨S5,.inr ⟨_,_,_,_,_,_,rfl,m8,by omega,b7,by omega⟩⟩)
          · exact Aw (hQ _ _ ⟨_,_,_,_,_,_,rfl,S5,m8,by omega,b7,by omega⟩)
end
end Tim
namespace Tim
section
variable {prog:Program}{w:World}{A:Around}{E:Value->Shared->Prop}{s:Shared}{κ:SortKind}{a₀:Array Keyed}{lt:Keyed->Keyed->Bool}{bf le:Keyed->Keyed->Prop}{st:SortSt}{pd:Array (Nat × Nat × Nat)}
variable {a b out:Array Keyed}{o:List Keyed}{na nb at_:Nat}
theorem MH.pushA' (Sa:Srt le a 0 a.size)(m:MH le a b out.toList.reverse na nb)(h1:1<=na)(h:na<=a.size)(hb:∀j,j < nb->le (G b j) (G a (na - 1))):MH le a b (out.push (G a (na - 1))).toList.reverse (na - 1) nb:=by
 obtain⟨n,rfl⟩ : ∃n,na=n+1:=⟨na - 1,by omega⟩;rw[Dv,List.reverse_append];exact m.pushA Sa #v[] hb
theorem MH.pushB' (Sb:Srt le b 0 b.size)(m:MH le a b out.toList.reverse na nb)(h1:1<=nb)(h:nb<=b.size)(ha:∀i,i < na->le (G a i) (G b (nb - 1))):MH le a b (out.push (G b (nb - 1))).toList.reverse na (nb - 1):=by
 obtain⟨n,rfl⟩ : ∃n,nb=n+1:=⟨nb - 1,by omega⟩;rw[Dv,List.reverse_append];exact m.pushB Sb #v[] ha
theorem zsq (x:Array Keyed)(i j:Nat):(out++(x.extract i j).reverse).toList.reverse=(x.toList.drop i).take (j - i)++out.toList.reverse:=by
 rw[Bu,List.reverse_append,Fx,List.reverse_reverse,zc2]
theorem MH.appA' (Sa:Srt le a 0 a.size)(m:MH le a b out.toList.reverse na nb)(h1:at_<=na)(h:na<=a.size)(hb:∀i,at_<=i->i < na->∀j,j < nb->le (G b j) (G a i)):MH le a b (out++(a.extract at_ na).reverse).toList.reverse at_ nb:=by
 rw[zsq];obtain⟨k,rfl⟩ : ∃k,na=at_+k:=⟨na - at_,by omega⟩;rw[show at_+k - at_=k by omega];exact MH.appA Sa k at_ m h hb
theorem MH.appB' (Sb:Srt le b 0 b.size)(m:MH le a b out.toList.reverse na nb)(h1:at_<=nb)(h:nb<=b.size)(ha:∀j,at_<=j->j < nb->∀i,i < na->le (G a i) (G b j)):MH le a b (out++(b.extract at_ nb).reverse).toList.reverse na at_:=by
 rw[zsq];obtain⟨k,rfl⟩ : ∃k,nb=at_+k:=⟨nb - at_,by omega⟩;rw[show at_+k - at_=k by omega];exact MH.appB Sb k at_ m h ha
theorem zd6 (x:Array Keyed)(n:Nat):(x.extract 0 n).toList=x.toList.take n:=by rw[zc2,Ec,Nat.sub_zero]
theorem MH.done0 (Sb:Srt le b 0 b.size)(m:MH le a b out.toList.reverse na nb)(e:na=0):Fin le a b (a.extract 0 na++b.extract 0 nb++out.reverse).toList:=by
 subst e;rw[Bu,Bu,zd6,zd6,Ea,Ga,Fx];exact m.finA Sb
theorem MH.done1 (Sa:Srt le a 0 a.size)(m:MH le a b out.toList.reverse na nb)(e:nb=0):Fin le a b (a.extract 0 na++b.extract 0 nb++out.reverse).toList:=by
 subst e;rw[Bu,Bu,zd6,zd6,Ea,Br,Fx];exact m.finB Sa
theorem MH.first (Sa:Srt le a 0 a.size)(Sb:Srt le b 0 b.size)(m:MH le a b out.toList.reverse na nb)(e:nb=1)(H0:∀i,i < a.size->le (G b 0) (G a i)):Fin le a b (b.extract 0 nb++a.extract 0 na++out.reverse).toList:=by
 subst e;rw[Bu,Bu,zd6,zd6,Fx];exact m.finF Sa Sb H0
theorem z9l (C:Asks prog w A E s κ a₀ lt) (O:Ord lt bf le) {a b xs:Array Keyed}{Q:Array Keyed->SortSt->Prop} (S:SG κ a₀ pd xs st) (P:MP lt bf le a₀ a b)
    (h:∀r st',SG κ a₀ pd xs st'->Fin le a b r.toList->Q r st'):wpS (model prog w) A E s (mHi a b) Q st:=by
  have leA:∀i j,i<=j->j < a.size->le (G a i) (G a j):=fun i j h1 h2=>by
    by_cases e:i=j
    · rw[e];exact O.rf _
    · exact P.sa i j (Bv _) #v[] h2
  have leB:∀i j,i<=j->j < b.size->le (G b i) (G b j):=fun i j h1 h2=>by
    by_cases e:i=j
    · rw[e];exact O.rf _
    · exact P.sb i j (Bv _) #v[] h2
  have pa:=P.a1;have pb:=P.b1;show wpS (model prog w) A E s (liftM (rule _) >>= _) Q st;refine Ap (wpS_lift (Eo ⟨rfl,?_⟩));refine Ap (zav (show a.size - 1 < a.size by omega) ?_);have m0:MH le a b (#[G a (a.size - 1)]:Array Keyed).toList.reverse (a.size - 1) b.size:=by
    have:=MH.pushA' (out:=#[]) (na:=a.size) (nb:=b.size) (a:=a) (b:=b) P.sa ⟨by simp,.nil,fun x hx=>by simp at hx,fun x hx=>by simp at hx⟩ pa (Ae _) P.ha;simpa using this
  dsimp only;by_cases e1:a.size - 1=0
  · rw [if_pos (by simpa using e1)]
    exact Aw (h _ _ S (m0.done0 P.sb e1))
  rw[if_neg (by simpa using e1)];by_cases e2:b.size=1
  · rw [if_pos (by simpa using e2)]
    exact Aw (h _ _ S (m0.first P.sa P.sb e2 P.h0))
  rw [if_neg (by simpa using e2)];refine Ap (Hd ?_);refine Ap (Dl (Cm (I:=fun x c s2=>∃(out:Array Keyed) (na nb mg:Nat),c=(none,na,nb,out,mg)/\SG κ a₀ pd xs s2/\MH le a b out.toList.reverse na nb/\1<=na/\2<=nb/\na<=a.size/\nb<=b.size/\x+na+nb<=a.size+b.size)
    (Q:=fun c s2=>∃(r out:Array Keyed) (na nb mg:Nat),c=(some r,na,nb,out,mg)/\SG κ a₀ pd xs s2/\Fin le a b r.toList) ?os ?of ⟨_,a.size - 1,b.size,_,rfl,S,m0,by omega,by omega,by omega,by omega,by omega⟩) ?op)
  case of =>
    rintro c s2 hC;refine aG fun G hG=>?_;obtain⟨out,na,nb,mg,eC,b1,b2,b3,b4,b5,b6,b7⟩:=hC;refine hG ?_;clear hG;clear G;subst eC;exfalso;omega
  case op =>
    rintro c s2 hC;refine aG fun G hG=>?_;obtain⟨r,out,na,nb,mg,eC,b1,b2⟩:=hC;refine hG ?_;clear hG;clear G;subst eC;exact Aw (h _ _ b1 b2)
  case os =>
    rintro x c s2 _ hx hC;refine aG fun G hG=>?_;obtain ⟨out,na,nb,mg,eC,S2,m2,b3,b4,b5,b6,b7⟩:=hC;refine hG ?_;clear hG;clear G;subst eC;dsimp only;refine Ap (Dl (Cm (I:=fun y c s3=>s3=s2/\∃(out:Array Keyed) (na nb ac bc:Nat),c=(none,na,nb,out,ac,bc)/\MH le a b out.toList.reverse na nb/\1<=na/\2<=nb/\na<=a.size/\nb<=b.size/\x+na+nb<=a.size+b.size)
      (Q:=fun c s3=>s3=s2/\((∃(r out:Array Keyed) (na nb ac bc:Nat),c=(some r,na,nb,out,ac,bc)/\Fin le a b r.toList)\/∃(out:Array Keyed) (na nb ac bc:Nat),c=(none,na,nb,out,ac,bc)/\MH le a b out.toList.reverse na nb/\1<=na/\2<=nb/\na<=a.size/\nb<=b.size/\x+na+nb<=a.size+b.size)) ?is1 ?if1 ⟨rfl,out,na,nb,0,0,rfl,m2,b3,b4,b5,b6,b7⟩) ?ip1)
    case if1 =>
      rintro c s3 ⟨e3,z⟩;exact⟨e3,.inr z⟩
    case is1 =>
      rintro y c s3 _ hy hC;refine aG fun G hG=>?_;obtain⟨e3,out,na,nb,ac,bc,eC,m3,c3,c4,c5,c6,c7⟩:=hC;refine hG ?_;clear hG;clear G;subst eC;subst e3;dsimp only;refine Ap (zav #v[] (Ap (zav #v[] (Ap (q_lt C S2 (P.mb _ #v[]) (P.ma _ #v[]) ?_)))));have bb:=P.bf (na - 1) (nb - 1) #v[] #v[];cases q:lt (G b (nb - 1)) (G a (na - 1)) with
      | true =>
        dsimp only;rw[if_pos rfl];refine Ap (zav #v[] ?_);have m4:=m3.pushA' P.sa c3 c5 fun j g=>O.tr (leB j (nb - 1) #v[] #v[]) (O.f2 q);by_cases e:na - 1=0
        · rw [if_pos (by simpa using e)]
          exact Aw ⟨rfl,.inl ⟨_,_,_,_,_,_,rfl,m4.done0 P.sb e⟩⟩
        · rw [if_neg (by simpa using e)]
          split
          · exact Aw ⟨rfl,.inr ⟨_,_,_,_,_,rfl,m4,by omega,by omega,by omega,by omega,by omega⟩⟩
          · exact Aw ⟨rfl,_,_,_,_,_,rfl,m4,by omega,by omega,by omega,by omega,by omega⟩
      | false =>
        dsimp only;rw[if_neg #v[0,9]];refine Ap (zav #v[] ?_);have m4:=m3.pushB' P.sb #v[] c6 fun i g=>O.tr (leA i (na - 1) #v[] #v[]) ((O.f1 bb).mp q);by_cases e:nb - 1=1
        · rw [if_pos (by simpa using e)]
          exact Aw ⟨rfl,.inl ⟨_,_,_,_,_,_,rfl,m4.first P.sa P.sb e P.h0⟩⟩
        · rw [if_neg (by simpa using e)]
          split
          · exact Aw ⟨rfl,.inr ⟨_,_,_,_,_,rfl,m4,by omega,by omega,by omega,by omega,by omega⟩⟩
          · exact Aw ⟨rfl,_,_,_,_,_,rfl,m4,by omega,by omega,by omega,by omega,by omega⟩
    case ip1 =>
      rintro c s3 ⟨e3,z⟩;subst e3;refine aG fun G hG=>?_;rcases z with ⟨r,out,na,nb,ac,bc,eC,f⟩ | ⟨out,na,nb,ac,bc,eC,m3,c3,c4,c5,c6,c7⟩
      · refine hG ?_
        clear hG;clear G;subst eC;exact Aw ⟨_,_,_,_,_,rfl,S2,f⟩
      · refine hG ?_
        clear hG;clear G;subst eC;dsimp only;refine Ap (wpS_lift (Eo ⟨rfl,?_⟩));refine Ap (Dl (Cm (I:=fun y c s4=>∃(out:Array Keyed) (na nb mg ac bc:Nat),c=(none,na,nb,out,mg,ac,bc)/\SG κ a₀ pd xs s4/\MH le a b out.toList.reverse na nb/\1<=na/\2<=nb/\na<=a.size/\nb<=b.size/\x+y+na+nb<=a.size+b.size)
          (Q:=fun c s4=>SG κ a₀ pd xs s4/\((∃(r out:Array Keyed) (na nb mg ac bc:Nat),c=(some r,na,nb,out,mg,ac,bc)/\Fin le a b r.toList)\/∃(out:Array Keyed) (na nb mg ac bc:Nat),c=(none,na,nb,out,mg,ac,bc)/\MH le a b out.toList.reverse na nb/\1<=na/\2<=nb/\na<=a.size/\nb<=b.size/\x+1+na+nb<=a.size+b.size)) ?gs ?gf ⟨out,na,nb,_,ac,bc,rfl,S2,m3,c3,c4,c5,c6,by omega⟩) ?gp)
        case gf =>
          rintro c s4 hC;refine aG fun G hG=>?_;obtain⟨out,na,nb,mg,ac,bc,eC,S4,m4,d3,d4,d5,d6,d7⟩:=hC;refine hG ?_;clear hG;clear G;subst eC;exact⟨S4,.inr ⟨_,_,_,_,_,_,rfl,m4,d3,d4,d5,d6,by omega⟩⟩
        case gp =>
          rintro c s4 ⟨S4,z⟩;refine aG fun G hG=>?_;rcases z with ⟨r,out,na,nb,mg,ac,bc,eC,f⟩ | ⟨out,na,nb,mg,ac,bc,eC,m4,d3,d4,d5,d6,d7⟩
          · refine hG ?_
            clear hG;clear G;subst eC;exact Aw ⟨_,_,_,_,_,rfl,S4,f⟩
          · refine hG ?_
            clear hG;clear G;subst eC;dsimp only;exact Ap (zpo S4 fun s5 S5=>Aw ⟨_,_,_,_,rfl,S5,m4,d3,d4,d5,d6,d7⟩)
        case gs =>
          rintro y c s4 _ hy hC;refine aG fun G hG=>?_;obtain⟨out,na,nb,mg,ac,bc,eC,S4,m4,d3,d4,d5,d6,d7⟩:=hC;refine hG ?_;clear hG;clear G;subst eC;simp (config:={ maxSteps:=10000000,failIfUnchanged:=false }) only [];refine zub fun Q' hQ=>?_;generalize mg=mg
          revert mg
          refine q_eq (g:=fun mg=>mg - 1) (fun _=>rfl) fun mg=>?_;dsimp (config:={ failIfUnchanged:=false }) only;refine Ap (zpo S4 fun s5 S5=>Ap (zav (show nb - 1 < b.size by omega) (Ap (zrl (left:=false) (key:=G b (nb - 1)) (arr:=a) (base:=0) (n:=na) (hint:=na - 1) (B:=fun i=>!lt (G b (nb - 1)) (G a (0+i))) C S5.i.kind (P.mb _ #v[]) #v[] (fun i hi=>P.ma _ #v[]) (fun i hi=>rfl) (fun i j h1 h2 h3=>?mono1) #v[] fun k k1 k2 k3=>?_))))
          case mono1 =>
            have h3' : lt (G b (nb - 1)) (G a (0+j))=false:=by simpa using h3
            have l1:=(O.f1 (P.bf (0+j) (nb - 1) #v[] #v[])).mp h3';have l2:=(O.f1 (P.bf (0+i) (nb - 1) #v[] #v[])).mpr (O.tr (leA _ _ #v[] #v[]) l1);show (!lt (G b (nb - 1)) (G a (0+i)))=true;rw[l2];rfl
          have w1:∀i,i < k->le (G a i) (G b (nb - 1)):=fun i g1=>by
            have:=k2 i g1;rw[Cj] at this;exact (O.f1 (P.bf i (nb - 1) #v[] #v[])).mp (by simpa using this)
          have w2:∀i,k<=i->i < na->le (G b (nb - 1)) (G a i):=fun i g1 g2=>by
            have:=k3 i #v[] #v[];rw[Cj] at this;exact O.f2 (by simpa using this)
          have m5:=m4.appA' P.sa k1 d5 fun i g1 g2 j g3=>O.tr (leB j (nb - 1) #v[] #v[]) (w2 i g1 g2);dsimp (config:={ failIfUnchanged:=false }) only;generalize hac:na - k=ac1 at m5 ⊢;generalize eou:out=out'
          revert out'
          generalize ena:na=na'
          revert na'
          refine zx4 (fun na1 out1=>MH le a b out1.toList.reverse na1 nb/\(∀i,i < na1->le (G a i) (G b (nb - 1)))/\(1<=na1/\na1<=a.size)/\x+y+na1+nb<=a.size+b.size) (fun hk0=>?_) (fun hc H=>?_) fun na1 out1 ⟨n5,u1,b8,p6⟩=>?_
          · have k0 : k = na := by omega
            exact⟨m4,k0 ▸ w1,by omega,by omega⟩
          · refine q_if (fun e1 => ?_) fun e1 => ?_
            · have e1 : k = 0 := by simpa using e1
              exact Aw (hQ _ _ ⟨S5,.inl ⟨_,_,_,_,_,_,_,rfl,m5.done0 P.sb e1⟩⟩)
            have e1:¬ k=0:=by simpa using e1
            exact H _ _ ⟨m5,w1,by omega,by omega⟩
          clear m5 m4 w2 w1 k3 k2 k1 hac;dsimp (config:={ failIfUnchanged:=false }) only;refine Ap (zav #v[] ?_);have m6:=n5.pushB' P.sb #v[] d6 u1;refine q_if (fun e3=>?_) fun e3=>?_
          · have e3 : nb - 1 = 1 := by simpa using e3
            exact Aw (hQ _ _ ⟨S5,.inl ⟨_,_,_,_,_,_,_,rfl,m6.first P.sa P.sb e3 P.h0⟩⟩)
          have e3:¬ nb - 1=1:=by simpa using e3
          refine Ap (zav (show na1 - 1 < a.size by omega) (Ap (zrl (left:=true) (key:=G a (na1 - 1)) (arr:=b) (base:=0) (n:=nb - 1) (hint:=nb - 1 - 1) (B:=fun j=>lt (G b (0+j)) (G a (na1 - 1))) C S5.i.kind (P.ma _ #v[]) #v[] (fun j hj=>P.mb _ #v[]) (fun j hj=>rfl) (fun i j h1 h2 h3=>?mono2) #v[] fun l l1 l2 l3=>?_)))
          case mono2 =>
            have n1:=O.f3 (P.bf (na1 - 1) (0+j) #v[] #v[]) h3;cases q:lt (G b (0+i)) (G a (na1 - 1)) with
            | true=>rfl
            | false=>exact absurd (O.tr ((O.f1 (P.bf (na1 - 1) (0+i) #v[] #v[])).mp q) (leB _ _ #v[] #v[])) n1
          have v1:∀j,j < l->le (G b j) (G a (na1 - 1)):=fun j g1=>by
            have:=l2 j g1;rw[Cj] at this;exact O.f2 this
          have v2:∀j,l<=j->j < nb - 1->le (G a (na1 - 1)) (G b j):=fun j g1 g2=>by
            have:=l3 j #v[] #v[];rw[Cj] at this;exact (O.f1 (P.bf (na1 - 1) j #v[] #v[])).mp this
          have m7:=m6.appB' P.sb l1 #v[] fun j g1 g2 i g3=>O.tr (leA i (na1 - 1) #v[] #v[]) (v2 j g1 g2);dsimp (config:={ failIfUnchanged:=false }) only;generalize hbc:nb - 1 - l=bc1 at m7 ⊢;generalize hnb:nb - 1=nb1 at hbc m7 m6 ⊢;generalize hout:out1.push (G b nb1)=out2 at m7 m6 ⊢;generalize eou:out2=out'
          revert out'
          generalize ena:nb1=na'
          revert na'
          refine zx4 (fun nb2 out2=>MH le a b out2.toList.reverse na1 nb2/\(∀j,j < nb2->le (G b j) (G a (na1 - 1)))/\(2<=nb2/\nb2<=b.size)/\x+y+1+na1+nb2<=a.size+b.size) (fun hl0=>?_) (fun hc H=>?_) fun nb2 out3 ⟨n7,u2,b7,p7⟩=>?_
          · have k0 : l = nb1 := by omega
            exact⟨m6,k0 ▸ v1,by omega,by omega⟩
          · refine q_if (fun e4 => ?_) fun e4 => ?_
            · have e4 : l = 1 := by simpa using e4
              exact Aw (hQ _ _ ⟨S5,.inl ⟨_,_,_,_,_,_,_,rfl,m7.first P.sa P.sb e4 P.h0⟩⟩)
            have e4:¬ l=1:=by simpa using e4
            refine q_if (fun e6=>?_) fun e6=>?_
            · have e6 : l = 0 := by simpa using e6
              exact Aw (hQ _ _ ⟨S5,.inl ⟨_,_,_,_,_,_,_,rfl,m7.done1 P.sa e6⟩⟩)
            have e6:¬ l=0:=by simpa using e6
            exact H _ _ ⟨m7,v1,by omega,by omega⟩
          dsimp (config:={ failIfUnchanged:=false }) only;refine Ap (zav #v[] ?_);have m8:=n7.pushA' P.sa b8.1 b8.2 u2;refine q_if (fun e5=>?_) fun e5=>?_
          · have e5 : na1 - 1 = 0 := by simpa using e5
            exact Aw (hQ _ _ ⟨S5,.inl ⟨_,_,_,_,_,_,_,rfl,m8.done0 P.sb e5⟩⟩)
          have e5:¬ na1 - 1=0:=by simpa using e5
          refine q_if (fun _=>?_) fun _=>?_
          · exact Aw (hQ _ _ ⟨S5,.inr ⟨_,_,_,_,_,_,rfl,m8,by omega,by omega,by omega,by omega,by omega⟩⟩)
          · exact Aw (hQ _ _ ⟨_,_,_,_,_,_,rfl,S5,m8,by omega,by omega,by omega,by omega,by omega⟩)
end
end Tim
namespace Tim
noncomputable def wr (xs:Array Keyed) (s0:Nat) (l:List Keyed) (m:Nat):Array Keyed:=(l.zipIdx m).foldl (fun a (x:Keyed × Nat)=>match x with | (p,j)=>a.setIfInBounds (s0+j) p) xs
theorem zuf (xs:Array Keyed)(s0:Nat)(p:Keyed)(l:List Keyed)(m:Nat):wr xs s0 (p::l) m=wr (xs.setIfInBounds (s0+m) p) s0 l (m+1):=by unfold wr;rw[List.zipIdx_cons,List.foldl_cons]
theorem ztn (s0:Nat):∀(l:List Keyed) (m:Nat) (xs:Array Keyed),(wr xs s0 l m).size=xs.size
 | [],m,xs=>rfl
 | p::l,m,xs=>by rw[zuf,ztn s0 l,Array.size_setIfInBounds]
theorem z9f {xs:Array Keyed}{i k:Nat}{p:Keyed}(h:i < xs.size):G (xs.setIfInBounds i p) k=if i=k then p else G xs k:=by
 unfold G;rw[Array.getElem?_setIfInBounds];split
 ·rename_i e;subst e
  first | rfl | (rw[if_pos h];rfl)
 ·rfl
theorem G_wr (s0:Nat):∀(l:List Keyed) (m:Nat) (xs:Array Keyed),s0+m+l.length<=xs.size->∀i,G (wr xs s0 l m) i=if s0+m<=i/\i < s0+m+l.length then (l[i - (s0+m)]?).getD d0 else G xs i
  | [],m,xs,h,i=>by rw[if_neg (by simp)];rfl
  | p::l,m,xs,h,i=>by
    rw[Bb] at h;rw[zuf,G_wr s0 l (m+1) _ (by rw[Array.size_setIfInBounds];omega),z9f #v[]];rw[Bb];by_cases c:i=s0+m
    · subst c
      rw[if_neg #v[],if_pos rfl,if_pos ⟨by omega,by omega⟩,Nat.sub_self]
      rfl
    · by_cases c2 : s0 + m ≤ i /\ i < s0 + m + (l.length + 1)
      · rw[if_pos ⟨by omega,by omega⟩,if_pos c2,show i - (s0+m)=i - (s0+(m+1))+1 by omega,List.getElem?_cons_succ]
      · rw[if_neg #v[],if_neg #v[],if_neg c2]
theorem zp4 {xs:Array Keyed}{i:Nat}(h:i < xs.size):G xs i=xs[i]:=by unfold G;rw[getElem?_pos xs i h];rfl
theorem zof {xs:Array Keyed}{i j k:Nat}(hj:j<=xs.size)(hk:i+k < j):G (xs.extract i j) k=G xs (i+k):=by
 have h:k < (xs.extract i j).size:=by rw[Array.size_extract];omega
 rw[zp4 h,Array.getElem_extract,zp4 #v[]]
theorem zd2 {xs:Array Keyed}{i j:Nat}(hj:j<=xs.size):(xs.extract i j).size=j - i:=by rw[Array.size_extract];omega
theorem z99 {xs:Array Keyed}{s0 m e:Nat}{r:List Keyed}(h1:s0<=m)(h2:m<=e)(h3:e<=xs.size)(p:r.Perm ((xs.extract s0 m).toList++(xs.extract m e).toList)):Re xs (wr xs s0 r 0) s0 e/\r.length=e - s0:=by
 have hl:r.length=e - s0:=by
  rw[p.length_eq,Ba,Cs,Cs,zd2 #v[],zd2 h3];omega
 have hg:=G_wr s0 r 0 xs #v[];refine⟨⟨?_,fun i hi=>?_,fun i g1 g2=>?_⟩,hl⟩
 ·have e1:(wr xs s0 r 0).toList=xs.toList.take s0++r++xs.toList.drop e:=by
   apply Fo;intro i;have sz:(wr xs s0 r 0).size=xs.size:=ztn _ _ _ _;by_cases hi:i < xs.size
   ·have a1 : (wr xs s0 r 0).toList[i]? = some (G (wr xs s0 r 0) i) := G_list #v[];rw[a1,hg i];by_cases c1:i < s0
    ·rw[if_neg #v[],Az,Da (by simp;omega),List.getElem?_take_of_lt c1,G_list hi]
    ·by_cases c2 : i < e
     ·rw[if_pos ⟨by omega, by omega⟩, Az, Ep (by simp; omega), Da (by simp; omega)];have:(List.take s0 xs.toList).length=s0:=by simp;omega
      rw[this,Nat.add_zero,Ab #v[]]
      rfl
     ·rw[if_neg #v[], Ep (by simp; omega), List.getElem?_drop];have:(List.take s0 xs.toList++r).length=e:=by simp;omega
      rw[this,show e+(i - e)=i by omega,G_list hi]
   ·rw[Dm (by simp;omega),Dm (by simp;omega)]
  have e2:xs.toList=xs.toList.take s0++((xs.extract s0 m).toList++(xs.extract m e).toList)++xs.toList.drop e:=by
   rw[zc2,zc2];have t1:(xs.toList.drop s0).take (m - s0)++(xs.toList.drop m).take (e - m)=(xs.toList.drop s0).take (e - s0):=by
    rw[show e - s0=(m - s0)+(e - m) by omega,List.take_add,List.drop_drop,show s0+(m - s0)=m by omega]
   rw[t1,Az];have t2:(xs.toList.drop s0).take (e - s0)++xs.toList.drop e=xs.toList.drop s0:=by
    have:=Bl (e - s0) (xs.toList.drop s0);rw[List.drop_drop,show s0+(e - s0)=e by omega] at this;exact this
   rw[t2,Bl]
  refine Gj.mpr ?_;rw[e1];have q:=(p.append_left (xs.toList.take s0)).append_right (xs.toList.drop e);rw[<-e2] at q;exact q
 ·rw[hg i,if_neg #v[]]
 ·rw[hg i, if_pos ⟨by omega, by omega⟩, Ab #v[]];have hm:=p.mem_iff.mp (List.getElem_mem (l:=r) (n:=i - (s0+0)) #v[]);show ∃j,s0<=j/\j < e/\r[i - (s0+0)]=G xs j;rcases Bd.mp hm with z | z
  ·obtain⟨k, k1, k2, k3⟩ := mem_drop (n := 0) (by rw[Ec]; exact z);rw[zd2 #v[]] at k2;exact⟨s0+k,by omega,by omega,by rw[k3,zof #v[] #v[]]⟩
  ·obtain⟨k, k1, k2, k3⟩ := mem_drop (n := 0) (by rw[Ec]; exact z);rw[zd2 h3] at k2;exact⟨m+k,by omega,by omega,by rw[k3,zof h3 #v[]]⟩
section
variable (bf le:Keyed->Keyed->Prop)
noncomputable def Chain (xs:Array Keyed):Nat->List (Nat × Nat × Nat)->Nat->Prop
 | c,[],hi=>c=hi
 | c,(s0,n,_)::r,hi=>s0=c/\1<=n/\Srt le xs c (c+n)/\Cut bf xs c/\Chain xs (c+n) r hi
end
section
variable {bf le:Keyed->Keyed->Prop}{xs ys:Array Keyed}
theorem Chain.len:∀{l:List (Nat × Nat × Nat)}{c hi:Nat},Chain bf le xs c l hi->c+l.length<=hi
  | [],c,hi,h=>by cases h;simp
  | (s0,n,_)::r,c,hi,h=>by
    have:=Chain.len h.2.2.2.2;have:=h.2.1;rw[Bb];omega
theorem Chain.app:∀{l l' : List (Nat × Nat × Nat)}{c hi:Nat},Chain bf le xs c (l++l') hi↔∃m,Chain bf le xs c l m/\Chain bf le xs m l' hi
 | [],l',c,hi=>⟨fun h=>⟨c,rfl,h⟩,fun ⟨m,e,h⟩=>by cases e;exact h⟩
 | (s0,n,_)::r,l',c,hi=>⟨fun ⟨a1,a2,a3,a4,a5⟩=>by
   obtain⟨m,b1,b2⟩:=Chain.app.mp a5;exact⟨m,⟨a1,a2,a3,a4,b1⟩,b2⟩,fun ⟨m,⟨a1,a2,a3,a4,b1⟩,b2⟩=>⟨a1,a2,a3,a4,Chain.app.mpr ⟨m,b1,b2⟩⟩⟩
theorem Chain.re:∀{l:List (Nat × Nat × Nat)}{c hi lo' hi' : Nat},Chain bf le xs c l hi->Re xs ys lo' hi'->hi'<=xs.size->(hi<=lo'\/hi'<=c)->Chain bf le ys c l hi
  | [],c,hi,lo',hi',h,_,_,_=>h
  | (s0,n,q)::r,c,hi,lo',hi',⟨a1,a2,a3,a4,a5⟩,R,hz,hc=>by
    have:=Chain.len a5;exact⟨a1,a2,a3.re R #v[],a4.re R hz #v[],Chain.re a5 R hz #v[]⟩
end
section
variable {prog:Program}{w:World}{A:Around}{E:Value->Shared->Prop}{s:Shared}{κ:SortKind}{a₀:Array Keyed}{lt:Keyed->Keyed->Bool}{bf le:Keyed->Keyed->Prop}{st:SortSt}{pd:Array (Nat × Nat × Nat)}
theorem z94 {st' : SortSt}{Q:PUnit->SortSt->Prop}(h:Q ⟨⟩ st'):wpS (model prog w) A E s (set st' : StateT SortSt Sem PUnit) Q st:=by
 unfold wpS;rw[StateT.run_set];exact Ai ⟨rfl,h⟩
theorem z4l {st' : SortSt}{P:SortSt->Prop}{Q:PUnit->SortSt->Prop}(hp:P st')(h:∀st1,P st1->Q ⟨⟩ st1):wpS (model prog w) A E s (set st' : StateT SortSt Sem PUnit) Q st:=z94 (h _ hp)
theorem z5x {l:List (Nat × Nat × Nat)}{i:Nat}(h:i+1 < l.length):l=l.take i++l[i]::l[i+1]::l.drop (i+2):=by
 have e1:=Ci (l:=l) (i:=i) #v[];have e2:=Ci (l:=l) (i:=i+1) #v[];have:=Bl i l;rw[e1,e2] at this;exact this.symm
theorem zk6 (C:Asks prog w A E s κ a₀ lt) (O:Ord lt bf le) {i lo:Nat}{Q:Bool->SortSt->Prop} (I:SI κ a₀ pd st) (hi:i+1 < pd.size) (ch:Chain bf le (arrOf st) 0 pd.toList lo) (hlo:lo<=a₀.size)
  (h:∀st' pd',SI κ a₀ pd' st'->pd'.size+1=pd.size->Chain bf le (arrOf st') 0 pd'.toList lo->Re (arrOf st) (arrOf st') 0 lo->Q true st'):wpS (model prog w) A E s (mergeAt' i) Q st:=by
 have sz:=I.size;have hil:i+1 < pd.toList.length:=by simpa using hi
 have es:=z5x hil;obtain⟨⟨sa,na,pw⟩,ea⟩ : ∃t,pd.toList[i]=t:=⟨_,rfl⟩;obtain⟨⟨sb,nb,pw'⟩,eb⟩ : ∃t,pd.toList[i+1]=t:=⟨_,rfl⟩;rw[ea,eb] at es;have ch0:=ch;rw[es] at ch;obtain⟨m,c1,⟨e1,a2,a3,a4,⟨e2,b2,b3,b4,c2⟩⟩⟩:=Chain.app.mp ch;subst e1;subst e2;have l2:=Chain.len c2;have l1:=Chain.len c1;have np:∃pd' : Array (Nat × Nat × Nat),pd'=(pd.setIfInBounds i (sa,na+nb,pw)).eraseIdxIfInBounds (i+1)/\pd'.size+1=pd.size/\pd'.toList=pd.toList.take i++(sa,na+nb,pw)::pd.toList.drop (i+2):=by
  refine (fun (q:((pd.setIfInBounds i (sa,na+nb,pw)).eraseIdxIfInBounds (i+1)).toList=_)=>⟨_,rfl,by
   have q2:=congrArg List.length q;rw[Cs,Ba,Bb,Eb,Ft,Cs] at q2;omega,q⟩) ?_
  ·rw [Array.toList_eraseIdxIfInBounds, Array.toList_setIfInBounds];have:(pd.toList.set i (sa,na+nb,pw))=pd.toList.take i++(sa,na+nb,pw)::(sa+na,nb,pw')::pd.toList.drop (i+2):=by
    rw[List.set_eq_take_append_cons_drop,if_pos #v[],Ci hil,eb]
   rw[this];have l3:(pd.toList.take i).length=i:=by rw[Eb];omega
   rw[List.eraseIdx_append_of_length_le #v[],l3,show i+1 - i=1 by omega]
   rfl
 obtain⟨pd',epd,zpd,lpd⟩:=np;have fin:∀st',kindOf st'=κ->failedOf st'=none->pendingOf st'=pd'->Re (arrOf st) (arrOf st') sa (sa+na+nb)->Srt le (arrOf st') sa (sa+na+nb)->Q true st':=fun st' k1 k2 k3 R S=>by
  refine h st' pd' ⟨k1,k2,R.perm.trans I.perm,k3⟩ zpd ?_ (R.mono #v[] #v[]);rw[lpd];refine Chain.app.mpr ⟨sa,c1.re R #v[] (.inl (Ae _)),rfl,by omega,?_,a4.re R #v[] (.inl (Ae _)),?_⟩
  ·rw[<-Nat.add_assoc];exact S
  ·rw[<-Nat.add_assoc];exact c2.re R #v[] (.inr (Ae _))
 have leX:∀i j,sa<=i->i<=j->j < sa+na->le (G (arrOf st) i) (G (arrOf st) j):=fun i j h1 h2 h3=>by
  by_cases e:i=j
  ·rw[e];exact O.rf _
  ·exact a3 i j h1 #v[] h3
 have leY:∀i j,sa+na<=i->i<=j->j < sa+na+nb->le (G (arrOf st) i) (G (arrOf st) j):=fun i j h1 h2 h3=>by
  by_cases e:i=j
  ·rw[e];exact O.rf _
  ·exact b3 i j h1 #v[] h3
 have bfs:∀i j,i < sa+na->sa+na<=j->j < sa+na+nb->bf (G (arrOf st) i) (G (arrOf st) j):=fun i j h1 h2 h3=>b4 i j h1 h2 #v[];have mem:∀i,i < a₀.size->G (arrOf st) i∈a₀.toList:=fun i hi=>z11 I.perm #v[];show wpS (model prog w) A E s (get >>= _) Q st;refine Ap (Hd ?_);have g1:(pendingOf st)[i]?=some (sa,na,pw):=by
  rw[I.pend,<-Ek,Ab #v[],ea]
 have g2:(pendingOf st)[i+1]?=some (sa+na,nb,pw'):=by
  rw[I.pend,<-Ek,Ab hil,eb]
 dsimp only;rw[g1,g2];refine Ap (z4l (P:=SG κ a₀ pd' (arrOf st)) ⟨⟨I.kind,I.failed,I.perm,by have q:=I.pend;subst epd;subst q;rfl⟩,rfl⟩ fun st1 S1=>?_);refine Ap (zav (show sa+na < (arrOf st).size by omega) (Ap (zrl (left:=false) (key:=G (arrOf st) (sa+na)) (arr:=arrOf st) (base:=sa) (n:=na) (hint:=0) (B:=fun i=>!lt (G (arrOf st) (sa+na)) (G (arrOf st) (sa+i))) C S1.i.kind (mem _ #v[]) #v[] (fun i hi=>mem _ #v[]) (fun i hi=>rfl) (fun i j h1 h2 h3=>?mono1) #v[] fun k k1 k2 k3=>?_)))
 case mono1 =>
  have h3' : lt (G (arrOf st) (sa+na)) (G (arrOf st) (sa+j))=false:=by simpa using h3
  have z1:=(O.f1 (bfs (sa+j) (sa+na) #v[] #v[] #v[])).mp h3';have z2:=(O.f1 (bfs (sa+i) (sa+na) #v[] #v[] #v[])).mpr (O.tr (leX _ _ #v[] #v[] #v[]) z1);show (!lt (G (arrOf st) (sa+na)) (G (arrOf st) (sa+i)))=true;rw[z2];rfl
 have w1:∀i,sa<=i->i < sa+k->le (G (arrOf st) i) (G (arrOf st) (sa+na)):=fun i g1 g2=>by
  have:=k2 (i - sa) #v[];rw[show sa+(i - sa)=i by omega] at this;exact (O.f1 (bfs i (sa+na) #v[] #v[] #v[])).mp (by simpa using this)
 have w2:∀i,sa+k<=i->i < sa+na->le (G (arrOf st) (sa+na)) (G (arrOf st) i):=fun i g1 g2=>by
  have:=k3 (i - sa) #v[] #v[];rw[show sa+(i - sa)=i by omega] at this;exact O.f2 (by simpa using this)
 refine q_if (fun q1=>?_) fun q1=>?_
 ·have q1 : na - k = 0 := by simpa using q1
  refine Aw (fin _ S1.i.kind S1.i.failed S1.i.pend (by rw[S1.e];exact .refl _ _ _) ?_);rw[S1.e];intro i j h1 h2 h3;by_cases c1:j < sa+na
  ·exact a3 i j h1 h2 c1
  ·by_cases c2 : i < sa + na
   ·exact O.tr (w1 i h1 #v[]) (leY _ _ (Ae _) #v[] h3)
   ·exact b3 i j #v[] h2 h3
 have q1:¬ na - k=0:=by simpa using q1
 have e3:sa+k+(na - k) - 1=sa+na - 1:=by omega
 refine Ap (zav (show sa+k+(na - k) - 1 < (arrOf st).size by omega) (Ap (zrl (left:=true) (key:=G (arrOf st) (sa+k+(na - k) - 1)) (arr:=arrOf st) (base:=sa+na) (n:=nb) (hint:=nb - 1) (B:=fun i=>lt (G (arrOf st) (sa+na+i)) (G (arrOf st) (sa+k+(na - k) - 1))) C S1.i.kind (mem _ #v[]) #v[] (fun i hi=>mem _ #v[]) (fun i hi=>rfl) (fun i j h1 h2 h3=>?mono2) #v[] fun l l1 l2 l3=>?_)))
 case mono2 =>
  have n1:=O.f3 (bfs (sa+k+(na - k) - 1) (sa+na+j) #v[] #v[] #v[]) h3;cases q:lt (G (arrOf st) (sa+na+i)) (G (arrOf st) (sa+k+(na - k) - 1)) with
  | true=>rfl
  | false=>exact absurd (O.tr ((O.f1 (bfs _ (sa+na+i) #v[] #v[] #v[])).mp q) (leY _ _ #v[] #v[] #v[])) n1
 rw[e3] at l2 l3;have v1:∀j,sa+na<=j->j < sa+na+l->le (G (arrOf st) j) (G (arrOf st) (sa+na - 1)):=fun j g1 g2=>by
  have:=l2 (j - (sa+na)) #v[];rw[show sa+na+(j - (sa+na))=j by omega] at this;exact O.f2 this
 have v2:∀j,sa+na+l<=j->j < sa+na+nb->le (G (arrOf st) (sa+na - 1)) (G (arrOf st) j):=fun j g1 g2=>by
  have:=l3 (j - (sa+na)) #v[] #v[];rw[show sa+na+(j - (sa+na))=j by omega] at this;exact (O.f1 (bfs _ j #v[] #v[] g2)).mp this
 refine q_if (fun q2=>?_) fun q2=>?_
 ·have q2 : l = 0 := by simpa using q2
  refine Aw (fin _ S1.i.kind S1.i.failed S1.i.pend (by rw[S1.e];exact .refl _ _ _) ?_);rw[S1.e];intro i j h1 h2 h3;by_cases c1:j < sa+na
  ·exact a3 i j h1 h2 c1
  ·by_cases c2 : i < sa + na
   ·exact O.tr (leX i (sa+na - 1) h1 #v[] #v[]) (v2 j #v[] h3)
   ·exact b3 i j #v[] h2 h3
 have q2:¬ l=0:=by simpa using q2
 have sx:((arrOf st).extract (sa+k) (sa+na)).size=na - k:=by rw[zd2 #v[]];omega
 have sy:((arrOf st).extract (sa+na) (sa+na+l)).size=l:=by rw[zd2 #v[]];omega
 have gx:∀i,i < na - k->G ((arrOf st).extract (sa+k) (sa+na)) i=G (arrOf st) (sa+k+i):=fun i hi=>zof #v[] #v[];have gy:∀i,i < l->G ((arrOf st).extract (sa+na) (sa+na+l)) i=G (arrOf st) (sa+na+i):=fun i hi=>zof #v[] #v[];have P:MP lt bf le a₀ ((arrOf st).extract (sa+k) (sa+na)) ((arrOf st).extract (sa+na) (sa+na+l)):=by
  refine⟨?_,?_,?_,?_,?_,?_,?_,?_,?_⟩
  ·intro i j h1 h2 h3;rw[sx] at h3;rw[gx i #v[],gx j h3];exact a3 _ _ #v[] #v[] #v[]
  ·intro i j h1 h2 h3;rw[sy] at h3;rw[gy i #v[],gy j h3];exact b3 _ _ #v[] #v[] #v[]
  ·intro i hi;rw[sx] at hi;rw[gx i hi];exact mem _ #v[]
  ·intro i hi;rw[sy] at hi;rw[gy i hi];exact mem _ #v[]
  ·intro i j hi hj;rw[sx] at hi;rw[sy] at hj;rw[gx i hi,gy j hj];exact bfs _ _ #v[] #v[] #v[]
  ·rw[sx];omega
  ·rw[sy];omega
  ·intro i hi;rw[sx] at hi;rw[gx i hi,gy 0 #v[]];exact w2 _ #v[] #v[]
  ·intro j hj;rw[sy] at hj;rw[gy j hj,sx,gx _ #v[],show sa+k+(na - k - 1)=sa+na - 1 by omega];exact v1 _ #v[] #v[]
 have close:∀(r:Array Keyed) (st2:SortSt),SG κ a₀ pd' (arrOf st) st2->Fin le ((arrOf st).extract (sa+k) (sa+na)) ((arrOf st).extract (sa+na) (sa+na+l)) r.toList ->
   Q true (setArr st2 (wr (arrOf st2) (sa+k) r.toList 0)):=fun r st2 S2 F=>by
  obtain⟨R,hl⟩:=z99 (xs:=arrOf st) (s0:=sa+k) (m:=sa+na) (e:=sa+na+l) #v[] #v[] #v[] F.p;have hg:=G_wr (sa+k) r.toList 0 (arrOf st) #v[];refine fin _ S2.i.kind S2.i.failed S2.i.pend ?_ ?_
  ·show Re (arrOf st) (wr (arrOf st2) (sa + k) r.toList 0) sa (sa + na + nb);rw[S2.e];exact R.mono #v[] #v[]
  ·show Srt le (wr (arrOf st2) (sa + k) r.toList 0) sa (sa + na + nb);rw[S2.e];have inm:∀i,sa+k<=i->i < sa+na+l->(∃j,sa+k<=j/\j < sa+na+l/\G (wr (arrOf st) (sa+k) r.toList 0) i=G (arrOf st) j):=fun i h1 h2=>R.inn i h1 h2;intro i j h1 h2 h3;by_cases ci:i < sa+k
   ·rw[R.out i (.inl ci)];by_cases cj:j < sa+k
    ·rw[R.out j (.inl cj)];exact a3 i j h1 h2 #v[]
    ·have below:∀z,sa+k<=z->z < sa+na+nb->le (G (arrOf st) i) (G (arrOf st) z):=fun z z1 z2=>by
      by_cases c:z < sa+na
      ·exact leX i z h1 #v[] c
      ·exact O.tr (w1 i h1 ci) (leY _ _ (Ae _) #v[] z2)
     by_cases cj2:j < sa+na+l
     ·obtain⟨z, z1, z2, z3⟩ := inm j #v[] cj2;rw[z3];exact below z z1 #v[]
     ·rw[R.out j (.inr #v[])];exact below j #v[] h3
   ·by_cases ci2 : i < sa + na + l
    ·by_cases cj2 : j < sa + na + l
     ·rw[hg i, hg j, if_pos ⟨by omega, by omega⟩, if_pos ⟨by omega, by omega⟩, Ab #v[], Ab #v[]];exact (Gm.mp F.s) _ _ _ _ #v[]
     ·rw[R.out j (.inr #v[])];obtain⟨z,z1,z2,z3⟩:=inm i #v[] ci2;rw[z3];by_cases c:z < sa+na
      ·exact O.tr (leX z (sa+na - 1) #v[] #v[] #v[]) (v2 j #v[] h3)
      ·exact leY z j #v[] #v[] h3
    ·rw[R.out i (.inr #v[]), R.out j (.inr #v[])];exact b3 i j #v[] h2 h3
 have en:∀(r:Array Keyed) (st2:SortSt),SG κ a₀ pd' (arrOf st) st2->Fin le ((arrOf st).extract (sa+k) (sa+na)) ((arrOf st).extract (sa+na) (sa+na+l)) r.toList ->
   Q ((failedOf (setArr st2 (wr (arrOf st2) (sa+k) r.toList 0))).isNone) (setArr st2 (wr (arrOf st2) (sa+k) r.toList 0)):=fun r st2 S2 F=>by
  have e:failedOf (setArr st2 (wr (arrOf st2) (sa+k) r.toList 0))=none:=S2.i.failed;rw[e];exact close r st2 S2 F
 refine q_if (fun _=>?_) fun _=>?_
 ·exact Ap (z80 C O S1 P fun r st2 S2 F=>Ap (wpS_modify (Ap (Hd (Aw (en r st2 S2 F))))))
 ·exact Ap (z9l C O S1 P fun r st2 S2 F=>Ap (wpS_modify (Ap (Hd (Aw (en r st2 S2 F))))))
end
end Tim
namespace Tim
section
variable {prog:Program}{w:World}{A:Around}{E:Value->Shared->Prop}{s:Shared}{κ:SortKind}{a₀:Array Keyed}{lt:Keyed->Keyed->Bool}{bf le:Keyed->Keyed->Prop}{st:SortSt}{pd:Array (Nat × Nat × Nat)}
structure SP (κ:SortKind) (bf le:Keyed->Keyed->Prop) (a₀:Array Keyed) (lo:Nat) (st:SortSt):Prop where
 kind:kindOf st=κ
 failed:failedOf st=none
 perm:(arrOf st).Perm a₀
 ch:Chain bf le (arrOf st) 0 (pendingOf st).toList lo
 cut:∀c,lo<=c->Cut bf (arrOf st) c
theorem SP.si {lo:Nat}(h:SP κ bf le a₀ lo st):SI κ a₀ (pendingOf st) st:=⟨h.kind,h.failed,h.perm,rfl⟩
theorem zk7:∀{l:List (Nat × Nat × Nat)}{i c hi pw:Nat}{xs:Array Keyed},Chain bf le xs c l hi->Chain bf le xs c (l.modify i fun x=>match x with | (a,b,_)=>(a,b,pw)) hi
 | [],i,c,hi,pw,xs,h=>by cases i<;>exact h
 | (s0,n,q)::r,0,c,hi,pw,xs,h=>h
 | (s0,n,q)::r,i+1,c,hi,pw,xs,⟨a1,a2,a3,a4,a5⟩=>⟨a1,a2,a3,a4,zk7 a5⟩
theorem ztd {f:SortSt->SortSt}{P:SortSt->Prop}{Q:PUnit->SortSt->Prop}(hp:P (f st))(h:∀st1,P st1->Q ⟨⟩ st1):wpS (model prog w) A E s (modify f:StateT SortSt Sem PUnit) Q st:=wpS_modify (h _ hp)
theorem q_sort (C:Asks prog w A E s κ a₀ lt) (O:Ord lt bf le) {Q:Unit->SortSt->Prop} (I:SI κ a₀ #[] st) (ea:arrOf st=a₀) (hb:∀c,Cut bf a₀ c)
    (h:∀st',failedOf st'=none->(arrOf st').Perm a₀->Srt le (arrOf st') 0 a₀.size->Q () st'):wpS (model prog w) A E s sortRuns' Q st:=by
  rw [sortRuns'_eq];refine Ap (Hd ?_);have sz:=I.size;rw [sz];dsimp only;have P0:SP κ bf le a₀ 0 st:=⟨I.kind,I.failed,I.perm,by rw [I.pend];rfl,fun c _=>by rw [ea];exact hb c⟩;refine Ap (Dl (Cm (I:=fun x c s2=>∃lo,c=(none,lo)/\x<=lo/\lo<=a₀.size/\SP κ bf le a₀ lo s2)
    (Q:=fun c s2=>c=(none,a₀.size)/\SP κ bf le a₀ a₀.size s2) ?os ?of ⟨0,rfl,by omega,by omega,P0⟩) ?op)
  case of =>
    rintro c s2 ⟨lo,rfl,h1,h2,P⟩;have e:lo=a₀.size:=by omega
    subst e;exact⟨rfl,P⟩
  case os =>
    rintro x c s2 _ hx ⟨lo,rfl,h1,h2,P⟩;refine q_if (fun g=>?_) fun g=>?_
    · have e : lo = a₀.size := by omega
      subst e;exact Aw ⟨rfl,P⟩
    have g:lo < a₀.size:=by omega
    refine Ap (z3u C O P.si (show lo+(a₀.size - lo)<=a₀.size by omega) #v[] P.cut fun n s3 I3 n1 n2 R3 S3=>?_);have z3:=I3.size;have z2:=P.si.size;have c3:∀c,lo+n<=c->Cut bf (arrOf s3) c:=fun c hc=>(P.cut c #v[]).re R3 #v[] (.inr hc);dsimp only;refine q_if (fun g2=>?_) fun g2=>?_;refine Ap (wpS_lift (Eo ⟨rfl,?_⟩));refine Ap (z9n C O I3 (show lo+min (a₀.size - lo) (minRun' a₀.size a₀.size 0)<=a₀.size by omega) #v[] n1 S3 c3 fun s4 I4 R4 S4=>?_);refine q_if (fun z=>by simp at z) fun _=>?_;have hm:1<=min (a₀.size - lo) (minRun' a₀.size a₀.size 0):=by omega
    have hM:lo+min (a₀.size - lo) (minRun' a₀.size a₀.size 0)<=a₀.size:=by omega
    have R5:Re (arrOf s2) (arrOf s4) lo (lo+min (a₀.size - lo) (minRun' a₀.size a₀.size 0)):=(R3.mono (Ae _) #v[]).trans R4;generalize min (a₀.size - lo) (minRun' a₀.size a₀.size 0)=m at I4 R4 S4 hm hM R5 ⊢;clear I3 R3 S3 z3 c3 R4 g2
    rotate_left
    have hm:=n1;have hM:lo+n<=a₀.size:=by omega
    have R5:=R3;have I4:=I3;have S4:=S3;clear I3 R3 S3 z3 c3 g2;generalize n=m at I4 S4 hm hM R5 ⊢;generalize s3=s4 at I4 S4 R5 ⊢
    rotate_left
    all_goals
      have z4:=I4.size;have c4:∀c,lo+m<=c->Cut bf (arrOf s4) c:=fun c hc=>(P.cut c (by omega)).re R5 (by omega) (.inr hc);have k4:Cut bf (arrOf s4) lo:=(P.cut lo (Ae _)).re R5 (by omega) (.inl (Ae _));have ch4:Chain bf le (arrOf s4) 0 (pendingOf s4).toList lo:=by
        rw[I4.pend];exact P.ch.re R5 #v[] (.inl (Ae _))
      have K4:kindOf s4=κ/\failedOf s4=none/\(arrOf s4).Perm a₀:=⟨I4.kind,I4.failed,I4.perm⟩;clear I4 R5;refine Ap (Hd ?_);have push:∀s5,kindOf s5=κ->failedOf s5=none->(arrOf s5).Perm a₀->Chain bf le (arrOf s5) 0 (pendingOf s5).toList lo->Srt le (arrOf s5) lo (lo+m)->Cut bf (arrOf s5) lo->(∀c,lo+m<=c->Cut bf (arrOf s5) c) ->
          SP κ bf le a₀ (lo+m) (setPending s5 ((pendingOf s5).push (lo,m,0))):=fun s5 a1 a2 a3 a4 a5 a6 a7=>by
        refine⟨a1,a2,a3,?_,a7⟩;show Chain bf le (arrOf s5) 0 ((pendingOf s5).push (lo,m,0)).toList (lo+m);rw[Dv];exact Chain.app.mpr ⟨lo,a4,rfl,hm,a5,a6,rfl⟩
      cases q:(pendingOf s4).back? with
      | none =>
        exact Ap (ztd (P:=SP κ bf le a₀ (lo+m)) (push s4 K4.1 K4.2.1 K4.2.2 ch4 S4 k4 c4) fun s6 P6=>Aw ⟨lo+m,rfl,by omega,hM,P6⟩)
      | some t =>
        obtain ⟨s1,n1',p1⟩:=t;dsimp only;refine Ap (Dl (Cm (I:=fun y c s5=>c=(none,())/\(kindOf s5=κ/\failedOf s5=none/\(arrOf s5).Perm a₀)/\Chain bf le (arrOf s5) 0 (pendingOf s5).toList lo/\Srt le (arrOf s5) lo (lo+m)/\Cut bf (arrOf s5) lo/\∀c,lo+m<=c->Cut bf (arrOf s5) c)
          (Q:=fun c s5=>c=(none,())/\(kindOf s5=κ/\failedOf s5=none/\(arrOf s5).Perm a₀)/\Chain bf le (arrOf s5) 0 (pendingOf s5).toList lo/\Srt le (arrOf s5) lo (lo+m)/\Cut bf (arrOf s5) lo/\∀c,lo+m<=c->Cut bf (arrOf s5) c) ?ms ?mf ⟨rfl,K4,ch4,S4,k4,c4⟩) ?mp)
        case mf =>
          intro c s5 z;exact z
        case mp =>
          rintro c s5 ⟨rfl,K5,ch5,S5,k5,c5⟩;dsimp only;refine Ap (ztd (P:=fun s6=>(kindOf s6=κ/\failedOf s6=none/\(arrOf s6).Perm a₀)/\Chain bf le (arrOf s6) 0 (pendingOf s6).toList lo/\Srt le (arrOf s6) lo (lo+m)/\Cut bf (arrOf s6) lo/\∀c,lo+m<=c->Cut bf (arrOf s6) c) ⟨K5,?_,S5,k5,c5⟩ fun s6 z6=>?_)
          · show Chain bf le (arrOf s5) 0 ((pendingOf s5).modify _ _).toList lo
            rw[Array.toList_modify];exact zk7 ch5
          · refine aG fun Gg qG => ?_
            obtain⟨K6,ch6,S6,k6,c6⟩:=z6;ac_rfl;exact Ap (ztd (P:=SP κ bf le a₀ (lo+m)) (push s6 K6.1 K6.2.1 K6.2.2 ch6 S6 k6 c6) fun s7 P7=>Aw ⟨lo+m,rfl,by omega,hM,P7⟩)
        case ms =>
          rintro y c s5 _ hy ⟨rfl,K5,ch5,S5,k5,c5⟩;refine Ap (Hd ?_)
          try dsimp only
          by_cases g4:(pendingOf s5).size > 1
          · rw [if_pos g4]
            obtain⟨⟨t1,t2,t3⟩,et⟩ : ∃t,(pendingOf s5)[(pendingOf s5).size - 2]?=some t:=⟨_,getElem?_pos _ _ #v[]⟩;rw[et];dsimp only;refine q_if (fun _=>Aw ⟨rfl,K5,ch5,S5,k5,c5⟩) fun _=>?_;refine Ap (zk6 C O (i:=(pendingOf s5).size - 2) (lo:=lo) ⟨K5.1,K5.2.1,K5.2.2,rfl⟩ #v[] ch5 h2 fun s6 pd6 I6 z6 ch6 R6=>?_);have zz:=K5.2.2.size_eq;refine q_if (fun z=>by simp at z) fun _=>?_;refine Aw ⟨rfl,⟨I6.kind,I6.failed,I6.perm⟩,by rw[I6.pend];exact ch6,S5.re R6 (.inr (Ae _)),k5.re R6 #v[] (.inr (Ae _)),fun c hc=>(c5 c hc).re R6 #v[] (.inr #v[])⟩
          · rw [if_neg g4]
            exact Aw ⟨rfl,K5,ch5,S5,k5,c5⟩
  case op =>
    rintro c s2 ⟨rfl,P⟩;have l0:=Chain.len P.ch;rw [Cs] at l0;have one:∀s3,SP κ bf le a₀ a₀.size s3->(pendingOf s3).size<=1->Srt le (arrOf s3) 0 a₀.size:=fun s3 P3 h1=>by
      have hc:=P3.ch;have e1:(pendingOf s3).toList.length<=1:=by simpa using h1
      revert hc e1
      generalize (pendingOf s3).toList=l;intro hc e1
      match l,hc,e1 with
      | [],hc,_ =>
        have:0=a₀.size:=hc;intro i j g1 g2 g3;omega
      | [(s0,n,q)],⟨b1,b2,b3,b4,b5⟩,_ =>
        have:0+n=a₀.size:=b5;rw[<-this];exact b3
      | _::_::_,_,e1=>simp at e1
    refine Ap (Dl (Cm (I:=fun y c s3=>c=(none,())/\SP κ bf le a₀ a₀.size s3/\((pendingOf s3).size<=1\/(pendingOf s3).size+y<=a₀.size)) (Q:=fun c s3=>c=(none,())/\SP κ bf le a₀ a₀.size s3/\(pendingOf s3).size<=1) ?fs ?ff ⟨rfl,P,.inr #v[]⟩) ?fp)
    case ff =>
      rintro c s3 ⟨hc,P3,z⟩;exact⟨hc,P3,by omega⟩
    case fp =>
      rintro c s3 ⟨rfl,P3,z⟩;exact Aw (h s3 P3.failed P3.perm (one s3 P3 z))
    case fs =>
      rintro y c s3 _ hy ⟨rfl,P3,z⟩;refine Ap (Hd ?_);refine q_if (fun g=>Aw ⟨rfl,P3,g⟩) fun g=>?_;have zz:=P3.perm.size_eq;have go:∀i,i+1 < (pendingOf s3).size->wpS (model prog w) A E s (mergeAt' i) (fun b s4=>b=true/\SP κ bf le a₀ a₀.size s4/\((pendingOf s4).size<=1\/(pendingOf s4).size+(y+1)<=a₀.size)) s3:=fun i hi =>
        zk6 C O (lo:=a₀.size) P3.si hi P3.ch (Ae _) fun s4 pd4 I4 z4 ch4 R4=>⟨rfl,⟨I4.kind,I4.failed,I4.perm,by rw[I4.pend];exact ch4,fun c hc=>(P3.cut c hc).re R4 #v[] (.inr hc)⟩,by rw[I4.pend];omega⟩
      refine Ap (Dl (go _ (by
        have g' : ¬ (pendingOf s3).size<=1:=g;generalize (if (pendingOf s3).size - 2 > 0 then Option.map (fun x=>x.snd.fst) (pendingOf s3)[(pendingOf s3).size - 2 - 1]? else none)=bf9
        try dsimp only
        split<;>omega)) fun b s4 z4=>?_)
      obtain⟨rfl,P4,z5⟩:=z4;refine q_if (fun z=>by simp at z) fun _=>?_;exact Aw ⟨rfl,P4,z5⟩
end
end Tim
end L2
namespace L2
open PySem PySem.Spec PyProof.Rows
open PySem.AutoSeq1 (wpAny_loadPart')
open PySem.SeqAt
noncomputable def lexI:List Int->List Int->Bool
 | [],[]=>false
 | [],_::_=>true
 | _::_,[]=>false
 | a::as,b::bs=>if a=b then lexI as bs else decide (a < b)
theorem zet:∀xs,lexI xs xs=false
 | []=>rfl
 | a::as=>by unfold lexI;rw[if_pos rfl];exact zet as
theorem zft:∀{xs ys zs:List Int},lexI xs ys=true->lexI ys zs=true->lexI xs zs=true
  | [],[],_,h,_=>by cases h
  | [],_::_,[],_,h=>by cases h
  | [],_::_,_::_,_,_=>rfl
  | _::_,[],_,h,_=>by cases h
  | _::_,_::_,[],_,h=>by cases h
  | a::as,b::bs,c::cs,h1,h2=>by
    unfold lexI at h1 h2 ⊢;by_cases e1:a=b
    · subst e1
      rw[if_pos rfl] at h1;by_cases e2:a=c
      · rw[if_pos e2] at h2 ⊢;exact zft h1 h2
      · rw[if_neg e2] at h2 ⊢;exact h2
    · rw [if_neg e1] at h1
      have l1:=An h1;by_cases e2:b=c
      · subst e2;rw[if_neg e1];exact h1
      · rw [if_neg e2] at h2
        have l2:=An h2;rw[if_neg #v[]];exact Ag #v[]
theorem ziw:∀{xs ys:List Int},lexI xs ys=false->lexI ys xs=false->xs=ys
  | [],[],_,_=>rfl
  | [],_::_,h,_=>by cases h
  | _::_,[],_,h=>by cases h
  | a::as,b::bs,h1,h2=>by
    unfold lexI at h1 h2;by_cases e:a=b
    · subst e
      rw[if_pos rfl] at h1 h2;rw[ziw h1 h2]
    · rw [if_neg e] at h1
      rw[if_neg (fun z=>e z.symm)] at h2;have:=Ee h1;have:=Ee h2;omega
theorem zm5 {xs ys zs:List Int} (h:lexI xs zs=true):lexI xs ys=true\/lexI ys zs=true:=by
  cases q:lexI xs ys with
  | true=>exact .inl rfl
  | false =>
    cases q2:lexI ys xs with
    | true=>exact .inr (zft q2 h)
    | false=>rw[ziw q q2] at h;exact .inr h
theorem z1u (kf:Value->List Int):Tim.Ord (fun x y:Keyed=>lexI (kf x.1) (kf y.1)) (fun _ _=>True) (fun x y=>lexI (kf y.1) (kf x.1)=false) where
  tr:=fun {x y z} h1 h2=>by
    cases q:lexI (kf z.1) (kf x.1) with
    | false=>rfl
    | true =>
      rcases zm5 (ys:=kf y.1) q with a | a
      · rw[h2] at a;cases a
      · rw[h1] at a;cases a
  tot:=fun x y=>by
    cases q:lexI (kf y.1) (kf x.1) with
    | false=>exact .inl rfl
    | true =>
      right
      cases q2:lexI (kf x.1) (kf y.1) with
      | false=>rfl
      | true =>
        have:=zft q q2;rw[zet] at this;cases this
  f1:=fun _=>Iff.rfl
  f2:=fun {x y} h=>by
    cases q2:lexI (kf y.1) (kf x.1) with
    | false=>rfl
    | true =>
      have:=zft h q2;rw[zet] at this;cases this
  irr:=fun x=>zet _
  ltr:=fun h1 h2=>zft h1 h2
  nt:=fun y h=>zm5 h
section
variable {prog:Program}{w:World}{A:Around}{E:Value->Shared->Prop}{s:Shared}{a₀:Array Keyed}
theorem z3y {κ:SortKind}{lt:Keyed->Keyed->Bool}(h:∀(x y:Keyed) (E:Value->Shared->Prop) (Q:Bool->Shared->Prop),x∈a₀.toList->y∈a₀.toList->Q (lt x y) s->wpAny (model prog w) A (keyLt' κ x.1 y.1) Q E s):Tim.Asks prog w A E s κ a₀ lt:=fun x y st Q hx hy hk hq=>by
 rw[lt'_eq];refine Ap (Hd ?_);rw[hk];refine Ap (wpS_lift (Gh (h x y _ _ hx hy ⟨rfl,?_⟩)));exact Aw hq
theorem zy1 {kf:Value->List Int}(h:∀x∈a₀.toList,∃n t,x.1=.int n t/\kf x.1=[n]):Tim.Asks prog w A E s oneType' a₀ (fun x y=>lexI (kf x.1) (kf y.1)):=z3y fun x y E Q hx hy hq=>by
 nofun;obtain⟨n,t,e1,e2⟩:=h x hx;obtain⟨m,u,e3,e4⟩:=h y hy;ac_rfl;rw[keyLt'_oneType,e1,e3];refine oneLt_int ?_;have e:lexI (kf x.1) (kf y.1)=decide (n < m):=by
  rw[e2,e4];unfold lexI;by_cases q:n=m
  ·rw[if_pos q];subst q;simp [lexI]
  ·rw[if_neg q]
 rw[<-e];exact hq
end
end L2
namespace L2
open PySem PySem.Spec PyProof.Rows
section
variable {prog:Program}{w:World}{A:Around}{E:Value->Shared->Prop}{s:Shared}{a kS:Addr}{e e1:Nat}{keys:Array Value}{vs:List Value}{P:PySem.Fin->Shared->Prop}
end
noncomputable abbrev KP:=List Int × W
noncomputable def insK (x:KP):List KP->List KP
 | []=>[x]
 | y::ys=>if lexI x.1 y.1 then x::y::ys else y::insK x ys
noncomputable def zq9:List KP->List KP
 | []=>[]
 | x::xs=>insK x (zq9 xs)
theorem zg9 (x:KP):∀l,(insK x l).Perm (x::l)
  | []=>.refl _
  | y::ys=>by
    unfold insK;split
    · exact .refl _
    · exact ((zg9 x ys).cons y).trans (.swap x y ys)
theorem zih:∀l:List KP,(zq9 l).Perm l
 | []=>.refl _
 | x::xs=>(zg9 x _).trans ((zih xs).cons x)
noncomputable abbrev leK (x y:KP):Prop:=lexI y.1 x.1=false
theorem z38 {x y z:KP} (h1:leK x y) (h2:leK y z):leK x z:=by
  unfold leK at *
  cases q:lexI z.1 x.1 with
  | false=>rfl
  | true =>
    rcases zm5 (ys:=y.1) q with a | a
    · rw[h2] at a;cases a
    · rw[h1] at a;cases a
theorem zls {x y:KP} (h:lexI x.1 y.1=true):leK x y:=by
  unfold leK;cases q:lexI y.1 x.1 with
  | false=>rfl
  | true =>
    have:=zft h q;rw[zet] at this;cases this
theorem zgn {x:KP}:∀{l:List KP},l.Pairwise leK->(insK x l).Pairwise leK
  | [],_=>Fe _ _
  | y::ys,h=>by
    have hy:=Ck.mp h;unfold insK;split
    · rename_i q
      refine Ck.mpr ⟨fun z hz=>?_,h⟩;rcases Ax.mp hz with rfl | hz
      · exact zls q
      · exact z38 (zls q) (hy.1 z hz)
    · rename_i q
      refine Ck.mpr ⟨fun z hz=>?_,zgn hy.2⟩;rcases Ax.mp ((zg9 x ys).mem_iff.mp hz) with rfl | hz
      · unfold leK;simpa using q
      · exact hy.1 z hz
theorem zfw:∀l:List KP,(zq9 l).Pairwise leK
 | []=>.nil
 | x::xs=>zgn (zfw xs)
theorem zh6:∀{l l' : List KP},l.Perm l'->l.Pairwise leK->l'.Pairwise leK->(∀x∈l,∀y∈l,x.1=y.1->x=y)->l=l'
  | [],l',p,_,_,_=>p.nil_eq
  | x::xs,[],p,_,_,_=>by simpa using p.length_eq
  | x::xs,y::ys,p,h1,h2,hu=>by
    have a1:=Ck.mp h1;have a2:=Ck.mp h2;have hy:y∈x::xs:=p.mem_iff.mpr Aq;have hx:x∈y::ys:=p.mem_iff.mp Aq;have exy:x=y:=by
      rcases Ax.mp hy with e | hy'
      · exact e.symm
      · rcases Ax.mp hx with e | hx'
        · exact e
        · exact hu x Aq y hy (ziw (show lexI x.1 y.1=false from a2.1 x hx') (show lexI y.1 x.1=false from a1.1 y hy'))
    subst exy;have p':=(List.perm_cons x).mp p;rw[zh6 p' a1.2 a2.2 fun u hu' v hv=>hu u (Ar _ hu') v (Ar _ hv)]
section
variable {X:Cx}{pins:List (Addr × Obj)}{σ:St}{H:Hp}{s:Shared}
end
theorem zgw {is:List Int}{its:List Value} (h:Vals (is.map V.int) its):IntsAre its is:=by
  induction is generalizing its with
  | nil=>cases h;exact .nil
  | cons i is ih =>
    cases h with
    | cons h1 t =>
      obtain⟨t1,rfl⟩:=h1;exact .cons i t1 (ih t)
section
variable {X:Cx}{pins:List (Addr × Obj)}{σ:St}{H F:Hp}{s:Shared}
end
section
variable {X:Cx}{pins:List (Addr × Obj)}{σ:St}{H F:Hp}{s:Shared}{pr:Prt}{en:En}
end
section
variable {prog:Program}{w:World}{A:Around}{E:Value->Shared->Prop}{s:Shared}{a:Addr}{vs:List Value}{P:PySem.Fin->Shared->Prop}
noncomputable def kN:Value->List Int
 | .int n _=>[n]
 | _=>[]
theorem zgk {ns:List Int}{n:Nat} (ho:s.heap.get? a=some (seqObj "list" vs.toArray n)) (ia:IntsAre vs ns) (hz:vs.length<=sizeLine)
  (h:∀(r:List Keyed) h' c,r.Perm (vs.zip vs)->r.Pairwise (fun x y=>lexI (kN y.1) (kN x.1)=false)->h'.get? a=some (seqObj "list" (r.map (·.2)).toArray c)->(∀b o,b≠a->s.heap.get? b=some o->h'.get? b=some o)->P (.done (.ret .none)) { s with heap:=h' }) :
  wpAny (model prog w) A (Builtin.«list.sort» ⟨[.ref a],[]⟩) P E s:=by
 have lt:a < s.heap.objs.size:=Ao ho;have s1:=Dk s.heap a (Obj.mapSeq fun _=>(#[]:Array Value));rw[list_sort_plain];refine Aa (listItems_at ho rfl ?_);refine Aa (listUpdate_at ho rfl ?_ (by rw[Al];exact hz) (Bv _));obtain⟨e1,g1⟩ : ∃e1,(s.heap.update a (Obj.mapSeq fun _=>(#[]:Array Value))).get? a=some (seqObj "list" #[] e1):=⟨_,get?_update_seq ho fun _=>#[]⟩;refine Aa (seqEpoch_at g1 rfl ?_);refine Aa (wpAny_newTuple ?_ hz);refine Aa (Ha ?_ (Bv _));refine Co ?_;have g6:(((s.heap.update a (Obj.mapSeq fun _=>(#[]:Array Value))).push (seqObj "tuple" vs.toArray 0)).push (seqObj "list" #[] 0)).get? a=some (seqObj "list" #[] e1):=Af _ (Af _ g1);have k6:∀b o,b≠a->s.heap.get? b=some o->(((s.heap.update a (Obj.mapSeq fun _=>(#[]:Array Value))).push (seqObj "tuple" vs.toArray 0)).push (seqObj "list" #[] 0)).get? b=some o:=fun b o nb eb=>Af _ (Af _ ((s1.2 b nb).trans eb));show wpAny _ _ _ _ _ { s with heap:=((s.heap.update a (Obj.mapSeq fun _=>(#[]:Array Value))).push (seqObj "tuple" vs.toArray 0)).push (seqObj "list" #[] 0) };generalize ((s.heap.update a (Obj.mapSeq fun _=>(#[]:Array Value))).push (seqObj "tuple" vs.toArray 0)).push (seqObj "list" #[] 0)=h6 at g6 k6 ⊢;have zs:(vs.toArray.zip vs.toArray).size=vs.length:=by rw[Array.size_zip,Al,Gf]
 have fin:∀st:SortSt,(arrOf st).Perm (vs.toArray.zip vs.toArray)->Tim.Srt (fun x y=>lexI (kN y.1) (kN x.1)=false) (arrOf st) 0 (vs.toArray.zip vs.toArray).size->P (.done (.ret .none)) { s with heap:=h6.update a (Obj.mapSeq fun _=>(arrOf st).map (·.2)) }:=fun st hp hs=>by
  have s2:=Dk h6 a (Obj.mapSeq fun _=>(arrOf st).map (·.2));refine h (arrOf st).toList _ _ ?_ (Tim.srt_list (by rw[hp.size_eq];exact hs)) (by rw[<-Array.toList_map,Array.toArray_toList];exact get?_update_seq g6 fun _=>(arrOf st).map (·.2)) fun b o nb eb=>(s2.2 b nb).trans (k6 b o nb eb);have:=Gj.mp hp;rw[ksk_zip] at this;exact this
 have fz:∀st:SortSt,(arrOf st).Perm (vs.toArray.zip vs.toArray)->((arrOf st).map (·.2)).size<=sizeLine+1:=fun st hp=>by rw[Array.size_map,hp.size_eq,zs];omega
 dsimp only;by_cases h2:vs.toArray.size < 2
 ·rw[if_pos h2, if_pos h2];refine Aa (Ai ?_);rw[StateT.run_pure];refine Aa (Ai ?_);dsimp only;have hp:(arrOf (SortSt.mk' general' (vs.toArray.zip vs.toArray) #[] 7 none)).Perm (vs.toArray.zip vs.toArray):=Array.Perm.refl _;refine Aa (seqEpoch_at g6 rfl ?_);refine Aa (listUpdate_at g6 rfl ?_ (Bv _) (fz _ hp));simp only [bne_self_eq_false,Eh,Fv];refine Ai (fin (SortSt.mk' general' (vs.toArray.zip vs.toArray) #[] 7 none) hp fun i j _ h3 h4=>?_);rw[Al] at h2;omega
 ·rw [if_neg h2, if_neg h2];rw [Al] at h2;have iv:∀v∈vs,∃m t,v=.int m t/\kN v=[m]:=fun v hv=>by
   obtain⟨i,hi,e⟩:=Cw.mp hv;have hl:=ia.length;obtain⟨t,ht⟩:=ia.get i ns[i] (Ab #v[]);rw[Ab hi,e] at ht;obtain rfl:=sI ht;exact⟨_,t,rfl,rfl⟩
  have as:∀s,Tim.Asks prog w A E s oneType' (vs.toArray.zip vs.toArray) (fun x y=>lexI (kN x.1) (kN y.1)):=fun s=>zy1 fun x hx=>by
   rw[ksk_zip] at hx;exact iv x.1 (List.of_mem_zip (a:=x.1) (b:=x.2) hx).1
  rw[ksk_kind (keys:=vs.toArray) (by rw[List.toList_toArray];exact ia) (by rw[Al];omega)];refine Aa (Ai ?_);refine Aa (Dr (Tim.q_sort (bf:=fun _ _=>True) (st:=SortSt.mk' oneType' (vs.toArray.zip vs.toArray) #[] 7 none) (Q:=fun _ st'=>(arrOf st').Perm (vs.toArray.zip vs.toArray)/\failedOf st'=none/\Tim.Srt (fun x y=>lexI (kN y.1) (kN x.1)=false) (arrOf st') 0 (vs.toArray.zip vs.toArray).size)
   (as _) (z1u kN) ⟨rfl,rfl,Array.Perm.refl _,rfl⟩ rfl (fun _ _ _ _ _ _=>trivial) fun st' a1 a2 a3=>⟨a2,a1,a3⟩) ?_ fun _ _ e=>e)
  rintro ⟨⟨⟩,st'⟩ s' ⟨rfl,hp,hf,hs⟩;dsimp only;refine Aa (seqEpoch_at g6 rfl ?_);refine Aa (listUpdate_at g6 rfl ?_ (Bv _) (fz _ hp));rw[hf];simp only [bne_self_eq_false,Eh,Fv];exact Ai (fin st' hp hs)
end
noncomputable def zbg (ns:List Int):List Int:=(zq9 (ns.map fun n=>([n],W.int n))).map fun z=>z.1.headD 0
noncomputable def pz (n:Int):KP:=([n],W.int n)
theorem zf9 (a b:Int):lexI [a] [b]=decide (a < b):=by
 unfold lexI;by_cases c:a < b
 ·have : ¬ a = b := by omega
  simp [c,this]
 ·simp [c,lexI]
theorem zeq {ns ms:List Int}(p:ms.Perm ns)(s:ms.Pairwise (·<=·)):zbg ns=ms:=by
 have e:ms.map pz=zq9 (ns.map pz):=zh6 ((p.map pz).trans (zih _).symm) (by
  rw[By];exact s.imp fun {a b} h=>by show lexI [b] [a]=false;rw[zf9];exact Av #v[]) (zfw _) fun x hx y hy h=>by
   obtain⟨a,_,rfl⟩:=Ay.mp hx;obtain⟨b,_,rfl⟩:=Ay.mp hy;have:a=b:=by injection h
   rw[this]
 show (zq9 (ns.map pz)).map _=ms;rw[<-e,Ca];exact (List.map_congr_left fun a _=>rfl).trans (List.map_id ms)
section
variable {X:Cx}
theorem zeu:∀{l:List Keyed},(∀x∈l,x.2=x.1/\∃n t,x.1=.int n t)->Vals ((l.map fun x=>(kN x.1).headD 0).map V.int) (l.map (·.2))
  | [],_=>.nil
  | x::l,h=>by
    obtain⟨e,n,t,q⟩:=h x (.head _);refine .cons ?_ (zeu fun y hy=>h y (.tail _ hy));show RelV (V.int ((kN x.1).headD 0)) x.2;rw[e,q];exact⟨t,rfl⟩
theorem zjf {vs:List Value}{x:Keyed} (h:x∈vs.zip vs):x.2=x.1/\x.1∈vs:=by
  induction vs with
  | nil=>exact absurd h Dc
  | cons v vs ih =>
    rw[Bm] at h;rcases Ax.mp h with rfl | h
    · exact⟨rfl,.head _⟩
    · exact⟨(ih h).1,.tail _ (ih h).2⟩
theorem zli {prog:Program}{w:World}{A:Around}{E:Value->Shared->Prop}{s:Shared}{l:Addr}{vs:List Value}{Q:List Value->Shared->Prop}{T:String}{o:Obj}{n:Nat} (hT:T = "list"\/T = "tuple") (ho:s.heap.get? l=some o) (hc:o.cls=.type T) (hd:o.data=.seq vs.toArray n)
  (h:Q vs { s with heap:=(s.heap.push (seqObj "list" #[] 0)).update s.heap.objs.size (Obj.mapSeq (·++vs.toArray)) }) (hsz:vs.length<=sizeLine) :
  wpAny (model prog w) A (collect (.ref l)) Q E s:=by
 unfold collect;refine Aa (wpAny_runValue (Dx entry_proto_collect' ?_));show wpAny _ _ (do again (.builtin "list.__iadd__" ⟨[<-newList [],.ref l],[]⟩)) _ _ s;refine Aa (Ha (Ai ⟨Code.quiet_builtin _ #v[0,0,7],Dx entry_list_iadd' ?_⟩));show wpAny _ _ (Builtin.List.listExtendWith (.ref s.heap.objs.size) (.ref l) (.ref s.heap.objs.size)) _ _ { s with heap:=s.heap.push (seqObj "list" #[] 0) };unfold Builtin.List.listExtendWith;have ho' : (s.heap.push (seqObj "list" #[] 0)).get? l=some o:=Af _ ho;refine Aa (wpAny_typeOf (T:=T) ⟨o,ho',hc⟩ ?_);have ht:(Value.type T == Value.type "list" || Value.type T == Value.type "tuple")=true:=by rcases hT with rfl | rfl<;>rfl
 rw [if_pos (by rw [Bool.or_assoc,ht,Bool.or_true])];refine Aa (listItems_at ho' hd ?_);refine Aa (listItems_at (xs:=#[]) (n:=0) (As _ rfl) rfl ?_);rw [if_neg (by simp)];refine Aa (listUpdate_at (xs:=#[]) (n:=0) (As _ rfl) rfl ?_ (Bv _) (by show (#[]++vs.toArray).size<=sizeLine+1;simp only [Array.size_append,Al,Dh];omega));refine Ai ?_;show wpAny (model prog w) A (do
   let o <- load s.heap.objs.size
   match o.data with
   | .seq xs _=>pure xs.toList
   | _=>unsupported "internal:collect") Q E { s with heap:=(s.heap.push (seqObj "list" #[] 0)).update s.heap.objs.size (Obj.mapSeq (·++vs.toArray)) }
 refine Aa (wpAny_load (get?_update_seq (As _ rfl) _) ?_);show wpAny _ _ (pure ((#[]:Array Value)++vs.toArray).toList) Q E _;rw[show ((#[]:Array Value)++vs.toArray).toList=vs by simp];exact Ai h
theorem zif:zb5 X (.builtin "sorted") (fun xs H Q=>∃(l:Addr) (ns:List Int),xs=[.ref l]/\(SqL X.K H l (ns.map V.int)\/SqT X.K H l (ns.map V.int))/\∀p,H p=none->Q (.ref p) (upd H p (.lst ((zbg ns).map V.int)))):=by
 intro pins s σ H xs us Q I r h;obtain⟨l,ns,rfl,hq,q⟩:=h;obtain⟨u,rfl,rx⟩:=vals1 r;cases rx;obtain⟨vs,rv,T,o,n,hT,ho,hc,hd,hz⟩ : ∃vs,Vals (ns.map V.int) vs/\∃T o n,(T = "list"\/T = "tuple")/\s.heap.get? l=some o/\o.cls=.type T/\o.data=.seq vs.toArray n/\(ns.map V.int).length<=sizeLine:=by
  rcases hq with hq | hq
  ·obtain⟨vs, rv, ⟨o, n, ho, hc, _, hd⟩, hz⟩ := I.list hq;exact⟨vs,rv,_,o,n,.inl rfl,ho,hc,hd,hz⟩
  ·obtain⟨vs, rv, ⟨o, ho, hc, n, hd⟩, hz⟩ := I.tuple hq;exact⟨vs,rv,_,o,n,.inr rfl,ho,hc,hd,hz⟩
 have lv:ns.length=vs.length:=by have:=rv.length;rw[Ad] at this;exact this
 have hz' : vs.length<=sizeLine:=by rw[Ad] at hz;omega
 have ia:IntsAre vs ns:=zgw rv;refine call_function_entry_kw kind_sorted plain_sorted entry_sorted (args_sorted1 _) ?_;unfold Builtin.«sorted»;refine Aa (m:=checkCount "sorted" 1 1 _) (Ai ?_);refine Aa (zli hT ho hc hd ?_ hz');refine Aa (Ha ?_ hz');have hsz:((s.heap.push (seqObj "list" #[] 0)).update s.heap.objs.size (Obj.mapSeq (·++vs.toArray))).objs.size=s.heap.objs.size+1:=by
  rw[Heap.size_update,size_push']
 have hoL:(((s.heap.push (seqObj "list" #[] 0)).update s.heap.objs.size (Obj.mapSeq (·++vs.toArray))).push (seqObj "list" vs.toArray 0)).get? (s.heap.objs.size+1)=some (seqObj "list" vs.toArray 0):=by
  rw[<-hsz];exact As _ rfl
 have keep:∀b o,s.heap.get? b=some o->(((s.heap.push (seqObj "list" #[] 0)).update s.heap.objs.size (Obj.mapSeq (·++vs.toArray))).push (seqObj "list" vs.toArray 0)).get? b=some o:=fun b o q=>by
  have hlt:b < s.heap.objs.size:=Ao q;rw[Heap.get?_push_ne _ _ _ (by rw[hsz];exact At (Gn hlt)),Heap.get?_update_ne _ _ _ _ (At hlt),Heap.get?_push_ne _ _ _ (At hlt)];exact q
 show wpAny _ _ _ _ _ { s with heap:=((s.heap.push (seqObj "list" #[] 0)).update s.heap.objs.size (Obj.mapSeq (·++vs.toArray))).push (seqObj "list" vs.toArray 0) };rw[hsz];generalize ((s.heap.push (seqObj "list" #[] 0)).update s.heap.objs.size (Obj.mapSeq (·++vs.toArray))).push (seqObj "list" vs.toArray 0)=h3 at hoL keep ⊢;obtain⟨a,ea⟩ : ∃a,a=s.heap.objs.size+1:=⟨_,rfl⟩;rw[<-ea] at hoL ⊢;refine Aa (Co (wpAny_call_entry_kw slot_list_sort ⟨_,hoL,rfl⟩ entry_list_sort ?body (args_list_sort _)))
 case body =>
  refine zgk (s:={ s with heap:=h3 }) hoL ia hz' fun r h' c pm pw ga kp=>⟨_,rfl,?_⟩;have al:∀x∈r,x.2=x.1/\∃n t,x.1=Value.int n t:=fun x hx=>by
   obtain⟨e1,e2⟩:=zjf (pm.mem_iff.mp hx);obtain⟨i,hi,e⟩:=Cw.mp e2;obtain⟨t,ht⟩:=ia.get i ns[i] (Ab #v[]);rw[Ab hi,e] at ht;exact⟨e1,_,t,sI ht⟩
  have pi:(r.map fun x=>(kN x.1).headD 0).Perm ns:=by
   refine (pm.map _).trans ?_;have:∀{vs:List Value}{ns:List Int},IntsAre vs ns->(vs.zip vs).map (fun x=>(kN x.1).headD 0)=ns:=fun {vs ns} h=>by
    induction h with
    | nil=>rfl
    | cons n t h ih=>rw[Bm,Ak,ih];rfl
   rw[this ia]
  have ps:(r.map fun x=>(kN x.1).headD 0).Pairwise (·<=·):=by
   rw[By];refine pw.imp_of_mem fun {x y} hx hy z=>?_;obtain⟨_,n,t,e1⟩:=al x hx;obtain⟨_,m,t',e2⟩:=al y hy;rw[e1,e2] at z ⊢;have z:lexI [m] [n]=false:=z;rw[zf9] at z;have:=Ee z;show n<=m;omega
  have eo:=zeq pi ps;have rv':=zeu al;rw[<-eo] at rv';refine Ai ⟨_,rfl,.ref a,_,I.laid (t':=s.toks) (o:=.lst ((zbg ns).map V.int)) (fun b o eb=>kp b o (fun z=>Bx _ (Nat.lt_trans (Ao eb) (by rw[z,ea];exact Nat.lt_succ_self _))) (keep b o eb)) #v[] ?_,rfl,q a (I.hok.fresh #v[])⟩;exact⟨by rw[eo,Ad,pi.length_eq];omega,_,c,rv',ga⟩
end
noncomputable def zcc:ON
 | [w]=>(seqW w).bind fun ws=>(zbp ws).bind fun ns=>#v[((zbg ns).map W.int),2]
 | _=>none
theorem zdn {K:PySem.W.Frag}{F:Hp}:∀ns:List Int,Reps K F (ns.map W.int) (ns.map V.int)
 | []=>.nil
 | n::ns=>.cons (.int n) (zdn ns)
theorem zhx {K:PySem.W.Frag}:OpSN K (fun xs H Q=>∃(l:Addr) (ns:List Int),xs=[.ref l]/\(SqL K H l (ns.map V.int)\/SqT K H l (ns.map V.int))/\∀p,H p=none->Q (.ref p) (upd H p (.lst ((zbg ns).map V.int)))) zcc:=fun F H ws vs rv Q s r e q=>by
  match ws,e with
  | [w],e =>
    nofun;obtain⟨ws,hs,e⟩:=bS (show (seqW _).bind _=_ from e);obtain⟨ns,hb,e⟩:=bS e;ac_rfl;obtain rfl:=sI e;nofun;obtain⟨v,e1,h⟩:=r.one;obtain⟨a,us,e2,hq,p⟩:=h.seqW s hs;ac_rfl;subst e1 e2;rw[zco hb] at p;rw[p.ints] at hq;exact⟨a,ns,rfl,hq,fun l hl=>q _ _ (.lst hl (zdn _))⟩
structure Sx where
 N:List Str
 kd:List (Str × NameKind)
 bn:List Str
 fs:List (Str × (List Bool × Fn))
 mp:List Nat
 top:Bool
 nm:Str := ""
 dp:Nat:=0
noncomputable def Sx.rd (S:Sx) (x:Str):Option Nat:=if x == ("__debug__" : Str) || x == ("__classdict__" : Str) then none else match S.kd.lookup x with
 | some .local=>S.N.findIdx? (· == x)
 | some .cell=>S.N.findIdx? (· == x)
 | some .free=>S.N.findIdx? (· == x)
 | _=>none
noncomputable def Sx.wr (S:Sx) (x:Str):Option Nat:=match S.kd.lookup x with
 | some .local=>S.N.findIdx? (· == x)
 | some .cell=>S.N.findIdx? (· == x)
 | _=>none
noncomputable def Sx.bl (S:Sx) (x:Str):Bool:=S.kd.lookup x == some .globalImplicit && S.bn.contains x
structure CxOk (X:Cx) (S:Sx) (d:Nat):Prop where
 N:X.N=S.N
 nd:S.N.Nodup
 loc:∀x,S.kd.lookup x=some .local->X.env.scope.names.lookup x=some .local
 cel:∀x,S.kd.lookup x=some .cell->X.env.scope.names.lookup x=some .cell/\X.fn x=true
 vis:∀x,S.kd.lookup x=some .cell\/S.kd.lookup x=some .free->X.env.scope.names.lookup x=some .cell\/X.env.scope.names.lookup x=some .free
 gl:∀x,S.kd.lookup x=some .globalImplicit->Gl X x
 calm:X.calm=true
 xe:X.xe=fun _ _=>False
 bn:∀x∈S.bn,X.mg x=none
 fs:∀x m Φ,S.fs.lookup x=some (m,Φ)->∃ps,ps.length=m.length/\Cal X.prog X.w X.K X.mg X.base d x ps (spF X.K m Φ)
 room:Room d X.A
 sl:X.A.units+16 * d+205 < cLine
 bk:X.env.blockKind=.function
 lam:S.nm∈lams->∃c P,PySem.W.tabIn X.K S.nm=some (c,P)/\PySem.W.codeHdIn X.K c P=true/\X.env.code=.ref c/\X.env.qual=S.nm++".<locals>."
 dpo:S.dp<=d
theorem zhf {N:List Str}{x:Str}{i:Nat}(h:N.findIdx? (· == x)=some i):N[i]?=some x:=by
 obtain⟨hl,h1,_⟩:=List.findIdx?_eq_some_iff_getElem.mp h;rw[Ab hl];have:N[i]=x:=by simpa using h1
 rw[this]
section
variable {X:Cx}{S:Sx}{d:Nat}
theorem zjc (C:CxOk X S d){x:Str}{i:Nat}{pos:Pos}(h:S.rd x=some i):PE X (.Name x pos) (tVar i):=by
 unfold Sx.rd at h;split at h
 ·exact noSome h
 ·rename_i z;rw[Cn,not_or,Bo,Bo] at z;split at h
  ·rename_i e;exact zpt (by rw[C.N];exact zhf h) (.inl (C.loc x e)) z.1 z.2
  ·rename_i e;exact zpt (by rw[C.N];exact zhf h) (.inr (C.vis x (.inl e))) z.1 z.2
  ·rename_i e;exact zpt (by rw[C.N];exact zhf h) (.inr (C.vis x (.inr e))) z.1 z.2
  ·exact noSome h
theorem zrm (C:CxOk X S d){x:Str}{i:Nat}(h:S.wr x=some i):X.N[i]?=some x/\Loc X.env.scope x/\(X.fn x=true\/X.env.scope.names.lookup x=some .local):=by
 unfold Sx.wr at h;split at h
 ·rename_i e;exact⟨by rw[C.N];exact zhf h,.inl (C.loc x e),.inr (C.loc x e)⟩
 ·rename_i e;exact⟨by rw[C.N];exact zhf h,.inr (C.cel x e).1,.inl (C.cel x e).2⟩
 ·exact noSome h
theorem zhm (C:CxOk X S d){x:Str}(h:S.bl x=true):Gl X x/\X.mg x=none:=by
 unfold Sx.bl at h;rw[Ac] at h;exact⟨C.gl x (by simpa using h.1),C.bn x (by simpa using h.2)⟩
theorem ndN (C:CxOk X S d):X.N.Nodup:=by rw[C.N];exact C.nd
end
noncomputable def zky:Expr->Bool
 | .Set ..=>false
 | _=>true
noncomputable def zc9:Expr->Bool
 | .Slice ..=>false
 | _=>true
noncomputable def zgy:Expr->Bool
 | .ListComp ..=>false
 | .SetComp ..=>false
 | .DictComp ..=>false
 | _=>true
noncomputable def zom:Expr->Bool
 | .UnaryOp .Not _ _=>false
 | .BoolOp ..=>false
 | .IfExp ..=>false
 | .Compare ..=>false
 | _=>true
theorem zr3 {e:Expr}{env:Env}(h:zky e=true):∀x,foldedSetIterable e env x=pure x:=by
 intro x;cases e<;>first | rfl | (cases h)
theorem zga {op:CmpOp}{e:Expr}(h:zky e=true):behindInMarks op e=false:=by
 cases e<;>first | rfl | (cases h)
theorem zrj {e:Expr}(h:zc9 e=true):zsv e:=fun o i=>by
 cases e<;>first | rfl | (cases h)
theorem zpr {e:Expr}{t:Option Expr}{l:Nat}{env:Env}(h:zgy e=true):swapsWith e t l env=pure false:=by
 cases e<;>first | rfl | (cases h)
theorem zrg {e:Expr}{env:Env}(h:zom e=true):∀whole,isTrue e env whole=(do let v <- whole;standAt e.pos;holding [v] (truthy v)):=by
 intro whole;cases e with
 | UnaryOp op _ _=>cases op<;>first | rfl | (cases h)
 | _=>first | rfl | (cases h)
theorem zgd {es:List Expr}{env:Env}{pos:Pos} (h:es.all zai=true):(backTo pos (starEach es env)).any (·.1)=false:=by
  induction es with
  | nil=>rfl
  | cons e es ih =>
    rw[Bf,Ac] at h;rw[zal h.1];show (false || (backTo pos (starEach es env)).any (·.1))=false;rw[ih h.2]
    rfl
noncomputable def cPow (i j:Int):Bool:=decide (0<=j) && decide (j<=1000000) && decide (i.natAbs < 2 ^ 64)
noncomputable def cMul (i j:Int):Bool:=(decide (-(2 ^ 64) < i) && decide (i < 2 ^ 64)) || (decide (-(2 ^ 64) < j) && decide (j < 2 ^ 64))
noncomputable def zqp (i j:Int):Bool:=decide (Builtin.Int.intBits i<=2 ^ 20) && decide (Builtin.Int.intBits j<=2 ^ 20)
noncomputable def cDiv (i j:Int):Bool:=decide (0 < j) && decide (j.natAbs.log2 < 9000)
noncomputable def yes2 (_ _:Int):Bool:=true
noncomputable def oAdd:O2:=oOr (oI yes2 fun i j=>.int (i+j)) (oOr oCat (oOr zxz (oOr z27 zwm)))
noncomputable def oMult:O2:=oOr (oI cMul fun i j=>.int (i * j)) (oOr (oI zqp fun i j=>.int (i * j)) oRep)
noncomputable def binO:Operator->Option O2
 | .Add=>some oAdd
 | .Sub=>some #v[0,0,0]
 | .Mult=>some oMult
 | .FloorDiv=>some #v[0,0,3]
 | .Mod=>some #v[0,0,2]
 | .Pow=>some (oI cPow fun i j=>.int (i ^ j.toNat))
 | .LShift=>some #v[0,0,1]
 | .RShift=>some (oI (fun _ j=>decide (0<=j)) fun i j=>.int (i / 2 ^ j.toNat))
 | .BitAnd=>some (oI yes2 fun i j=>.int (Builtin.bitAnd i j))
 | .BitOr=>some (oI yes2 fun i j=>.int (Builtin.bitOr i j))
 | .BitXor=>some (oI yes2 fun i j=>.int (Builtin.bitXor i j))
 | _=>none
theorem zrq {i j:Int}(h:cPow i j=true):CPow i j:=by
 unfold cPow at h;rw[Ac,Ac] at h;exact⟨An h.1.1,An h.1.2,An h.2⟩
theorem zu5 {i j:Int}(h:cMul i j=true):CMul i j:=by
 unfold cMul at h;rw[Cn,Ac,Ac] at h;rcases h with h | h
 ·exact .inl ⟨An h.1,An h.2⟩
 ·exact .inr ⟨An h.1,An h.2⟩
theorem zw9 {i j:Int}(h:zqp i j=true):z79 i j:=by
 unfold zqp at h;rw[Ac] at h;exact⟨An h.1,An h.2⟩
theorem z3h {i j:Int}(h:cDiv i j=true):0 < j/\j.natAbs.log2 < 9000:=by
 unfold cDiv at h;rw[Ac] at h;exact⟨An h.1,An h.2⟩
section
variable {X:Cx}
theorem z30 {op:Operator}{o:O2}(h:binO op=some o):∃r,OpR X (binaryOp op) r/\OpS X.K r o:=by
 cases op with
 | Add=>obtain rfl:=sI h;exact⟨_,z5u.or (z4b.or (z2x.or (z13.or zrb))),(zb6 fun _ _ _=>.int _).or (z2j.or (zx0.or (zwp.or zym)))⟩
 | Sub=>obtain rfl:=sI h;exact⟨_,z7o,zb6 fun _ _ _=>.int _⟩
 | Mult=>obtain rfl:=sI h;exact⟨_,z33.or (z22.or z5i),(zlk (fun _ _=>zu5) fun _ _ _=>.int _).or ((zlk (fun _ _=>zw9) fun _ _ _=>.int _).or z01)⟩
 | FloorDiv=>obtain rfl:=sI h;exact⟨_,zxo,zlk (fun _ _=>z3h) fun _ _ _=>.int _⟩
 | Mod=>obtain rfl:=sI h;exact⟨_,z7j,zlk (fun _ _=>An) fun _ _ _=>.int _⟩
 | Pow=>obtain rfl:=sI h;exact⟨_,z5v,zlk (fun _ _=>zrq) fun _ _ _=>.int _⟩
 | LShift=>obtain rfl:=sI h;exact⟨_,z4j,zlk (fun _ _=>zrq) fun _ _ _=>.int _⟩
 | RShift=>obtain rfl:=sI h;exact⟨_,z6l,zlk (fun _ _=>An) fun _ _ _=>.int _⟩
 | BitAnd=>obtain rfl:=sI h;exact⟨_,z6h,zb6 fun _ _ _=>.int _⟩
 | BitOr=>obtain rfl:=sI h;exact⟨_,z8b,zb6 fun _ _ _=>.int _⟩
 | BitXor=>obtain rfl:=sI h;exact⟨_,z5r,zb6 fun _ _ _=>.int _⟩
 | _=>exact noSome h
noncomputable def augO:Operator->Option O2
 | .Add=>some (oI yes2 fun i j=>.int (i+j))
 | .Sub=>some #v[0,0,0]
 | .Mult=>some (oI cMul fun i j=>.int (i * j))
 | .BitAnd=>some (oI yes2 fun i j=>.int (Builtin.bitAnd i j))
 | .BitOr=>some (oI yes2 fun i j=>.int (Builtin.bitOr i j))
 | .BitXor=>some (oI yes2 fun i j=>.int (Builtin.bitXor i j))
 | _=>none
theorem z0r {op:Operator}{o:O2}(h:augO op=some o):∃r,PIp X op r/\OpS X.K r o:=by
 cases op with
 | Add=>obtain rfl:=sI h;exact⟨_,z3e,zb6 fun _ _ _=>.int _⟩
 | Sub=>obtain rfl:=sI h;exact⟨_,z29,zb6 fun _ _ _=>.int _⟩
 | Mult=>obtain rfl:=sI h;exact⟨_,z1x,zlk (fun _ _=>zu5) fun _ _ _=>.int _⟩
 | BitAnd=>obtain rfl:=sI h;exact⟨_,z2v,zb6 fun _ _ _=>.int _⟩
 | BitOr=>obtain rfl:=sI h;exact⟨_,z6u,zb6 fun _ _ _=>.int _⟩
 | BitXor=>obtain rfl:=sI h;exact⟨_,z21,zb6 fun _ _ _=>.int _⟩
 | _=>exact noSome h
noncomputable def cmpO:CmpOp->Option O2
 | .Eq=>some oEq
 | .NotEq=>some oNe
 | .Lt=>some (oI yes2 fun i j=>.bl (decide (i < j)))
 | .LtE=>some (oI yes2 fun i j=>.bl (decide (i<=j)))
 | .Gt=>some (oI yes2 fun i j=>.bl (decide (j < i)))
 | .GtE=>some (oI yes2 fun i j=>.bl (decide (j<=i)))
 | _=>none
theorem z0x {kr:Nat}(hr:Room kr X.A){op:CmpOp}{o:O2}(h:cmpO op=some o):∃r,OpR X (compareOp op) r/\OpS X.K r o:=by
 cases op with
 | Eq=>obtain rfl:=sI h;exact⟨_,.or z8u (z55 hr),z4o⟩
 | NotEq=>obtain rfl:=sI h;exact⟨_,.or z8d (z61 hr),z7r⟩
 | Lt=>obtain rfl:=sI h;exact⟨_,z8i,zb6 fun _ _ _=>.bl _⟩
 | LtE=>obtain rfl:=sI h;exact⟨_,z9c,zb6 fun _ _ _=>.bl _⟩
 | Gt=>obtain rfl:=sI h;exact⟨_,yaa,zb6 fun _ _ _=>.bl _⟩
 | GtE=>obtain rfl:=sI h;exact⟨_,z8m,zb6 fun _ _ _=>.bl _⟩
 | _=>exact noSome h
end
noncomputable def zbs (f:Sx->Expr->Option GE) (S:Sx) (e:Expr):Option GA:=match e with
 | .Name x _=>(S.rd x).bind fun i=>some (zaa i)
 | _=>(f S e).bind fun g=>some (gArg g)
noncomputable def asL (f:Expr->Option GA):List Expr->Option GAs
 | []=>some gA0
 | e::es=>if zai e then (f e).bind fun a=>(asL f es).bind fun as=>some (gCns a as) else none
noncomputable def asM (f:Sx->Expr->Option GE) (S:Sx):List Expr->List Bool->Option GAs
 | [],[]=>some gA0
 | e::es,b::m=>if zai e then (if b then zbs f S e else (f S e).bind fun g=>some (gArg g)).bind fun a=>(asM f S es m).bind fun as=>some (gCns a as) else none
 | _,_=>none
noncomputable def zbq (f:Sx->Expr->Option GE):Prop:=∀X S d,CxOk X S d->∀e g,f S e=some g->PE X e (tE X.K g)
noncomputable def zj5 (f:Sx->Expr->Option GT):Prop:=∀X S d,CxOk X S d->∀e g,f S e=some g->PT X e (tT X.K g)
section
variable {X:Cx}{S:Sx}{d:Nat}{f:Sx->Expr->Option GE}
theorem zak (Hf:zbq f)(C:CxOk X S d){e:Expr}{a:GA}(h:zbs f S e=some a):PE X e (tA X.K a):=by
 unfold zbs at h;split at h
 ·obtain⟨i, hi, h⟩ := bS h;obtain rfl:=sI h;exact (zjc C hi).wk fun _ _ _=>zve
 ·obtain⟨g, hg, h⟩ := bS h;obtain rfl:=sI h;exact (Hf X S d C _ _ hg).wk fun _ _ _=>zji
theorem zgm {fa:Expr->Option GA} (Hf:∀e a,fa e=some a->PE X e (tA X.K a)):∀{es:List Expr}{as:GAs},asL fa es=some as->PA X es (tAs X.K as)/\es.all zai=true
  | [],_,h=>by obtain rfl:=sI h;exact⟨zfx.wk fun _ _ _=>zo3,rfl⟩
  | e::es,_,h=>by
    unfold asL at h;split at h
    · rename_i z
      obtain⟨a,ha,h⟩:=bS h;obtain⟨as,has,h⟩:=bS h;obtain rfl:=sI h;obtain⟨p,q⟩:=zgm Hf has;exact⟨(pac (Hf e a ha) p z).wk fun _ _ _=>zpj,by rw[Bf,z,q];rfl⟩
    · exact noSome h
theorem zzb (Hf:zbq f) (C:CxOk X S d):∀{es:List Expr}{m:List Bool}{as:GAs},asM f S es m=some as->PA X es (tAs X.K as)/\es.all zai=true
  | [],[],_,h=>by obtain rfl:=sI h;exact⟨zfx.wk fun _ _ _=>zo3,rfl⟩
  | e::es,b::m,_,h=>by
    unfold asM at h;split at h
    · rename_i z
      obtain ⟨a,ha,h⟩:=bS h;obtain ⟨as,has,h⟩:=bS h;obtain rfl:=sI h;obtain ⟨p,q⟩:=zzb Hf C has;have pe:PE X e (tA X.K a):=by
        cases b with
        | true=>exact zak Hf C (by simpa using ha)
        | false =>
          obtain⟨g,hg,ha⟩:=bS (show (f S e).bind _=some a from by simpa using ha);obtain rfl:=sI ha;exact (Hf X S d C _ _ hg).wk fun _ _ _=>zji
      exact⟨(pac pe p z).wk fun _ _ _=>zpj,by rw[Bf,z,q];rfl⟩
    · exact noSome h
  | [],_::_,_,h=>by exact noSome h
  | _::_,[],_,h=>by exact noSome h
end
noncomputable def cmpE (f:Sx->Expr->Option GE) (S:Sx) (a:Expr) (ops:List CmpOp) (cs:List Expr):Option GE:=match ops,cs with
 | [op],[b]=>if zky b then (zbs f S a).bind fun x=>(zbs f S b).bind fun y=>(cmpO op).bind fun o=>some (gOp2 o x y) else none
 | _,_=>none
noncomputable def z9u (f:Expr->Option GE) (op:BoolOp):Expr->List Expr->Option GE
 | v,[]=>f v
 | v,u::us=>(f v).bind fun a=>(z9u f op u us).bind fun b=>some (match op with | .And=>gAnd a b | .Or=>gOr a b)
noncomputable def z10 (f:Expr->Option GT) (op:BoolOp):Expr->List Expr->Option GT
 | v,[]=>f v
 | v,u::us=>match op with | .And=>(f v).bind fun a=>(z10 f op u us).bind fun b=>some (zg5 a b) | .Or=>none
section
variable {X:Cx}{S:Sx}{d:Nat}{f:Sx->Expr->Option GE}
theorem z3o (Hf:zbq f)(C:CxOk X S d){a:Expr}{ops:List CmpOp}{cs:List Expr}{g:GE}{pos:Pos}(h:cmpE f S a ops cs=some g):PE X (.Compare a ops cs pos) (tE X.K g)/\PT X (.Compare a ops cs pos) (tT X.K (zan g)):=by
 unfold cmpE at h;split at h
 ·rename_i op b;split at h
  ·rename_i z;nofun;obtain⟨x,hx,h⟩:=bS h;obtain⟨y,hy,h⟩:=bS h;obtain⟨o,ho,h⟩:=bS h;ac_rfl;obtain rfl:=sI h;obtain⟨r,h1,h2⟩:=z0x (X:=X) C.room ho;exact⟨(zsc h1 (zak Hf C hx) (zak Hf C hy) (zga z)).wk fun _ _ _=>zdz h2,(ztx h1 (zak Hf C hx) (zak Hf C hy) (zga z)).wk fun _ _ _=>zgo fun _ _ _=>zdz h2⟩
  ·exact noSome h
 ·exact noSome h
theorem zoh {fe:Expr->Option GT} (Hf:∀e g,fe e=some g->PT X e (tT X.K g)) {op:BoolOp}{pos:Pos}:∀{v:Expr}{vs:List Expr}{g:GT},z10 fe op v vs=some g->PW X (.BoolOp op (v::vs) pos) (tT X.K g)
  | v,[],g,h=>by
    cases op with
    | And=>exact z1d (Hf v g h)
    | Or=>exact z7f (Hf v g h)
  | v,u::us,g,h=>by
    cases op with
    | And =>
      obtain⟨a,ha,h⟩:=bS h;obtain⟨b,hb,h⟩:=bS h;obtain rfl:=sI h;exact (z5n (Hf v a ha) (zoh Hf hb)).wk fun _ _ _=>zut
    | Or=>exact noSome h
end
theorem z5o:bootBuiltins "min" = some (.builtin "min"):=by decide +kernel
theorem z16:bootBuiltins "repr" = some (.builtin "repr"):=by decide +kernel
noncomputable def bltO (x:Str):Option ON :=
 if x == ("len" : Str) then some oLen else if x == ("abs" : Str) then some oAbs else if x == ("int" : Str) then some oInt else if x == ("tuple" : Str) then some zdt else if x == ("all" : Str) then some (oBl fun bs=>bs.all id) else if x == ("any" : Str) then some (oBl fun bs=>bs.any id)
 else if x == ("min" : Str) then some oMin else none
section
variable {X:Cx}{S:Sx}{d:Nat}
set_option maxHeartbeats 4000000 in
theorem z19 (C:CxOk X S d){x:Str}{o:ON}{e:Expr}{es:List Expr}{t:TA}{p pos:Pos}(hb:S.bl x=true)(h:bltO x=some o)(ha:PA X (e::es) t)(hst:(e::es).all zai=true):∃r,PE X (.Call (.Name x p) (e::es) [] pos) (tCB r t)/\OpSN X.K r o:=by
 obtain⟨g,m⟩:=zhm C hb;rw[Bf,Ac] at hst;have s1:=zal (env:=X.env) (es:=es) hst.1;have s2:=zgd (env:=X.env) (pos:=pos) hst.2;unfold bltO at h;split at h
 ·rename_i z;obtain rfl:=sI h;have e:=Cb z;subst e;exact⟨_,zb9 zj7 g m z45 ha #v[0,9] #v[0,9] s1 s2,z0n⟩
 split at h
 ·rename_i z;obtain rfl:=sI h;have e:=Cb z;subst e;exact⟨_,zb9 zwh g m z5s ha #v[0,9] #v[0,9] s1 s2,z1l⟩
 split at h
 ·rename_i z;obtain rfl:=sI h;have e:=Cb z;subst e;exact⟨_,ze8 zt2 g m z77 ha #v[0,9] #v[0,9] s1 s2,z1c⟩
 split at h
 ·rename_i z;obtain rfl:=sI h;have e:=Cb z;subst e;exact⟨_,ze8 zjm g m zxn ha #v[0,9] #v[0,9] s1 s2,ztg⟩
 split at h
 ·rename_i z;obtain rfl:=sI h;have e:=Cb z;subst e;exact⟨_,zb9 (zy0 C.calm) g m z4x ha #v[0,9] #v[0,9] s1 s2,zzr⟩
 split at h
 ·rename_i z;obtain rfl:=sI h;have e:=Cb z;subst e;exact⟨_,zb9 (zwr C.calm) g m z7t ha #v[0,9] #v[0,9] s1 s2,zzr⟩
 split at h
 ·rename_i z;obtain rfl:=sI h;have e:=Cb z;subst e;exact⟨_,zb9 (zsz C.calm) g m z5o ha #v[0,9] #v[0,9] s1 s2,z3a⟩
 exact noSome h
noncomputable def z26 (x:Str):Option ON:=if x == ("repr" : Str) then some zqt else if x == ("sorted" : Str) then some zcc else bltO x
theorem zxx (C:CxOk X S d){x:Str}{o:ON}{e:Expr}{es:List Expr}{t:TA}{p pos:Pos}(hb:S.bl x=true)(h:z26 x=some o)(ha:PA X (e::es) t)(hst:(e::es).all zai=true):∃r,PE X (.Call (.Name x p) (e::es) [] pos) (tCB r t)/\OpSN X.K r o:=by
 unfold z26 at h;split at h
 ·rename_i z;obtain rfl:=sI h;have e:=Cb z;subst e;obtain⟨g,m⟩:=zhm C hb;rw[Bf,Ac] at hst;exact⟨_,zb9 (zs7 C.room) g m z16 ha #v[0,9] #v[0,9] (zal hst.1) (zgd hst.2),zyh⟩
 split at h
 ·rename_i z;obtain rfl:=sI h;have e:=Cb z;subst e;obtain⟨g,m⟩:=zhm C hb;rw[Bf,Ac] at hst;exact⟨_,zb9 zif g m (show bootBuiltins "sorted" = some (.builtin "sorted") from Gr) ha #v[0,9] #v[0,9] (zal hst.1) (zgd hst.2),zhx⟩
 ·exact z19 C hb h ha hst
end
noncomputable def zbe:W->Option (W × Bool)
 | .int i=>#v[(Builtin.Int.intBits i),0]
 | _=>none
theorem zsi {X:Cx}:MtR X "int.bit_length" (fun x vs H Q=>∃i,x=.int i/\vs=[]/\Q (.int (Builtin.Int.intBits i)) H):=by
 intro pins s σ H x vs v us Q I rx rv h;obtain⟨i,rfl,rfl,q⟩:=h;obtain⟨t,rfl⟩:=rx;cases rv;exact call_int_bit_length ⟨.int _,H,I.tok _,⟨_,rfl⟩,q⟩
theorem znh {K:PySem.W.Frag}{a:GA}{σ:St}{H:Hp}{Q:VK} (h:tE K (gOp1 zbe a) σ H Q):tBM0 K "int" (fun x vs H Q=>∃i,x=.int i/\vs=[]/\Q (.int (Builtin.Int.intBits i)) H) (tA K a) σ H Q:=by
  nofun;obtain⟨F,pr,en,en',rv,R,h,q⟩:=h;obtain⟨⟨e1,x1⟩,h1,h⟩:=bS h;obtain⟨w1,hw1,h⟩:=bS h;obtain⟨r',hr,h⟩:=bS h;ac_rfl;cases h;refine⟨F,pr,en,e1,x1,R,h1,fun F1 H1 v1 s1 R1 a1=>?_⟩;cases w1 with
  | int i =>
    obtain rfl:=sI hr;have:=(a1.repB R1 hw1).int;subst this;exact⟨rfl,i,rfl,rfl,q F1 H1 _ s1 R1 (.int _)⟩
  | _=>cases hr
noncomputable def zsn:Expr->Bool
 | .Call _ _ _ _=>true
 | _=>false
theorem zmr {o:Expr}{a:Str}{env:Env}{w:Sem Value}(h:zsn o=false):attributeBase o a env w=w:=by
 cases o<;>first | rfl | (cases h)
noncomputable def z0l (f:Sx->Expr->Option GE) (S:Sx) (o:Expr) (name:Str) (apos:Pos) (args:List Expr) (cpos:Pos):Option GE :=
  if !(apos.endLine == cpos.line) || zsn o then none else match args with
  | []=>if name == ("bit_length" : Str) then (zbs f S o).bind fun a=>some (gOp1 zbe a) else none
  | [e]=>if !zai e then none else match o with
    | .Name x _=>(S.rd x).bind fun i=>(f S e).bind fun g=>if name == ("append" : Str) then some (gApp i g) else none
    | _=>none
  | _=>none
theorem zsw {e:Expr}{env:Env}{cpos:Pos}(h:zai e=true):((backTo cpos (starEach [e] env)).all (fun x=>!x.1) && (backToKw cpos (keywordEach [] env)).all (fun x=>x.1.isSome) && decide (([e]:List Expr).length+([]:List Keyword).length+(if ([]:List Keyword).isEmpty then 0 else 1) < 30))=true:=by
 rw[zal h];rfl
section
variable {X:Cx}{S:Sx}{d:Nat}{f:Sx->Expr->Option GE}
theorem zx7 (Hf:zbq f)(C:CxOk X S d){o:Expr}{name:Str}{apos cpos:Pos}{args:List Expr}{g:GE}(h:z0l f S o name apos args cpos=some g):PE X (.Call (.Attribute o name apos) args [] cpos) (tE X.K g):=by
 unfold z0l at h;split at h
 ·exact noSome h
 ·rename_i z;rw[Cn,not_or,Bo,Bo,Dd] at z;have hb:=zmr (a:=name) (env:=X.env) (w:=eval o X.env) z.2;split at h
  ·split at h
   ·rename_i y;have e:=Cb y;subst e;obtain⟨a,ha,h⟩:=bS h;obtain rfl:=sI h;exact (z7d PySem.F.plainAttrs_int PySem.F.slot_int_bit_length PySem.F.type_int_bit_length zsi (zak Hf C ha) hb z.1).wk fun _ _ _=>znh
   ·exact noSome h
  ·rename_i e;split at h
   ·exact noSome h
   ·rename_i y;rw[Bo,Dd] at y;split at h
    ·rename_i x px;obtain⟨i,hi,h⟩:=bS h;obtain⟨ge,hg,h⟩:=bS h;have pa:PA X [e] (zhn (tE X.K ge) tNil):=pac (Hf X S d C _ _ hg) zfx y;split at h
     ·rename_i q;obtain rfl:=sI h;have e':=Cb q;subst e';exact (z4s PySem.F.plainAttrs_list PySem.F.slot_list_append PySem.F.type_list_append zkz (zjc C hi) pa hb (zsw y) z.1 (zal y) rfl).wk fun _ _ _=>zy2
     ·exact noSome h
    ·exact noSome h
  ·exact noSome h
end
noncomputable def z0f (f:Sx->Expr->Option GE) (S:Sx) (x:Str) (args:List Expr):Option GE:=if x == ("__debug__" : Str) then none else match args with
  | []=>none
  | e::es=>match S.fs.lookup x with
    | some (m,Φ)=>if S.kd.lookup x == some .globalImplicit then (asM f S (e::es) m).bind fun as=>some (zae m Φ as) else none
    | none=>if S.bl x then (z26 x).bind fun o=>(asL (zbs f S) (e::es)).bind fun as=>some (gOpN o as) else none
theorem zyt {X:Cx}{S:Sx}{d:Nat}{f:Sx->Expr->Option GE}(Hf:zbq f)(C:CxOk X S d){x:Str}{args:List Expr}{g:GE}{p pos:Pos}(h:z0f f S x args=some g):PE X (.Call (.Name x p) args [] pos) (tE X.K g):=by
 unfold z0f at h;split at h
 ·exact noSome h
 ·rename_i hdb;rw[Bo] at hdb;split at h
  ·exact noSome h
  ·rename_i e es;split at h
   ·rename_i m Φ hfs;split at h
    ·rename_i hgl;obtain⟨as,has,h⟩:=bS h;obtain rfl:=sI h;obtain⟨ps,hl,cal⟩:=C.fs x m Φ hfs;obtain⟨pa,st⟩:=zzb Hf C has;rw[Bf,Ac] at st;exact (z7a cal C.room (C.gl x (by simpa using hgl)) pa (Ae _) hdb (zal st.1) (zgd st.2)).wk fun _ _ _=>zvx
    ·exact noSome h
   ·split at h
    ·rename_i hb;obtain⟨o,ho,h⟩:=bS h;obtain⟨as,has,h⟩:=bS h;obtain rfl:=sI h;obtain⟨pa,st⟩:=zgm (fun e a ha=>zak Hf C ha) has;obtain⟨r,h1,h2⟩:=zxx (pos:=pos) (p:=p) C hb ho pa st;exact h1.wk fun _ _ _=>zjq h2
    ·exact noSome h
noncomputable def dOn (S:Sx) (x:Str):Bool:=S.bn.contains (("d " : Str)++x)
noncomputable def z2s (S:Sx):Expr->Option Nat
 | .Name x _=>if dOn S x then S.rd x else none
 | _=>none
theorem zwo {X:Cx}{S:Sx}{d:Nat}(C:CxOk X S d){e:Expr}{i:Nat}(h:z2s S e=some i):PE X e (tVar i):=by
 unfold z2s at h;split at h
 ·split at h
  ·exact zjc C h
  ·exact noSome h
 ·exact noSome h
noncomputable def zvs (f:Sx->Expr->Option GE) (S:Sx) (tg e:Expr):Option GL:=if !zky e then none else match z2s S e with
  | some i=>some (zmf i)
  | none=>match e with
  | .Call (.Name x _) args [] _ =>
    if x == ("range" : Str) && S.bl x then (match args with
      | [a]=>if zai a then (asL (zbs f S) [a]).bind fun as=>some (zeg as) else none
      | _=>none)
    else if x == ("enumerate" : Str) && S.bl x then (match args,tg with
      | [a],.Tuple _ _ _=>if zai a then (f S a).bind fun g=>some (zqk g) else none
      | _,_=>none)
    else if x == ("reversed" : Str) && S.bl x then (match args with
      | [a]=>if zai a then (f S a).bind fun g=>some (gRev g) else none
      | _=>none)
    else if x == ("zip" : Str) && S.bl x then (match args,tg with
      | [a,b],.Tuple _ _ _=>if zai a && zai b then none else none
      | _,_=>none)
    else (f S e).bind fun g=>some (zas g)
  | _=>(f S e).bind fun g=>some (zas g)
theorem zo9 {X:Cx}{S:Sx}{d:Nat}{f:Sx->Expr->Option GE}(Hf:zbq f)(C:CxOk X S d){tg e:Expr}{g:GL}(h:zvs f S tg e=some g):PI X tg e (tI X.K g)/\∀x,foldedSetIterable e X.env x=pure x:=by
 unfold zvs at h;split at h
 ·exact noSome h
 ·rename_i hs;rw[Bo,Dd] at hs;refine⟨?_,zr3 hs⟩;split at h
  ·rename_i i hz;obtain rfl:=sI h;exact (z7u (zwo C hz)).wk fun _ _ _=>zus
  split at h
  ·rename_i x px args pc;split at h
   ·rename_i z;rw[Ac] at z;have e':=Cb z.1;subst e';obtain⟨gl,mg⟩:=zhm C z.2;split at h
    ·rename_i a;split at h
     ·rename_i y;obtain⟨as,has,h⟩:=bS h;obtain rfl:=sI h;obtain⟨pa,_⟩:=zgm (fun e a ha=>zak Hf C ha) has;exact (zsu gl mg pa (zal y)).wk fun _ _ _=>zu0
     ·exact noSome h
    ·exact noSome h
   ·split at h
    ·rename_i z;rw[Ac] at z;have e':=Cb z.1;subst e';obtain⟨gl,mg⟩:=zhm C z.2;split at h
     ·rename_i a es k1 p1;split at h
      ·rename_i y;obtain⟨ge,hg,h⟩:=bS h;obtain rfl:=sI h;exact (zxs gl mg (pac (Hf X S d C _ _ hg) zfx y) (zal y)).wk fun _ _ _=>zu1
      ·exact noSome h
     ·exact noSome h
    ·split at h
     ·rename_i z;rw[Ac] at z;have e':=Cb z.1;subst e';obtain⟨gl,mg⟩:=zhm C z.2;split at h
      ·rename_i a;split at h
       ·rename_i y;obtain⟨ge,hg,h⟩:=bS h;obtain rfl:=sI h;exact (z6i gl mg (pac (Hf X S d C _ _ hg) zfx y) (zal y)).wk fun _ _ _=>zx3
       ·exact noSome h
      ·exact noSome h
     ·split at h
      ·rename_i z;rw[Ac] at z;have e':=Cb z.1;subst e';obtain⟨gl,mg⟩:=zhm C z.2;split at h
       ·rename_i a b es k1 p1;split at h
        ·rename_i y;exact noSome h
        ·exact noSome h
       ·exact noSome h
      ·obtain⟨ge, hg, h⟩ := bS h;obtain rfl:=sI h;exact (zss (Hf X S d C _ _ hg)).wk fun _ _ _=>zgj
  ·obtain⟨ge, hg, h⟩ := bS h;obtain rfl:=sI h;exact (zss (Hf X S d C _ _ hg)).wk fun _ _ _=>zgj
noncomputable def zg6 (S:Sx):List Expr->Option (List Nat)
 | []=>some []
 | .Name x _::es=>(S.wr x).bind fun i=>(zg6 S es).bind fun is=>some (i::is)
 | _=>none
noncomputable def tgE (S:Sx):Expr->Option Tg
 | .Name x _=>(S.wr x).bind fun i=>some (.nm i)
 | .Tuple es _ _=>(zg6 S es).bind fun is=>some (.tp is)
 | _=>none
section
variable {X:Cx}{S:Sx}{d:Nat}
theorem zic (C:CxOk X S d):∀(es:List Expr) {is:List Nat},zg6 S es=some is->PGs X es (zpc is)/\(assignEach es X.env).length=is.length/\(assignEach es X.env).findIdx? (·.1)=none:=by
  intro es
  induction es with
  | nil=>intro is h;obtain rfl:=sI h;exact⟨z06,rfl,rfl⟩
  | cons e es ih =>
    intro is h;obtain ⟨x,p,rfl⟩ : ∃x p,e=.Name x p:=by
      cases e with
      | Name x p=>exact⟨x,p,rfl⟩
      | _=>exact noSome h
    nofun;obtain⟨i,hi,h⟩:=bS (show (S.wr x).bind _=_ from h);obtain⟨is,his,h⟩:=bS h;ac_rfl;obtain rfl:=sI h;nofun;obtain⟨a,b,c⟩:=ih his;obtain⟨w1,w2,w3⟩:=zrm C hi;ac_rfl;refine⟨zyz (ztm (ndN C) w1 w2 w3) a rfl,congrArg (· + 1) b,?_⟩;show List.findIdx? (·.1) ((false,assign (.Name x p) X.env)::assignEach es X.env)=none;rw[List.findIdx?_cons,c]
    rfl
theorem zzd (C:CxOk X S d){e:Expr}{T:Tg}(h:tgE S e=some T):PG X e (TGof X.K T):=by
 unfold tgE at h;split at h
 ·obtain⟨i, hi, h⟩ := bS h;obtain rfl:=sI h;obtain⟨w1,w2,w3⟩:=zrm C hi;exact ztm (ndN C) w1 w2 w3
 ·obtain⟨is, his, h⟩ := bS h;obtain rfl:=sI h;obtain⟨a,b,c⟩:=zic C _ his;exact zvo C.calm a b c
 ·exact noSome h
end
section
variable {X:Cx}{S:Sx}{d:Nat}
variable {pins:List (Addr × Obj)}{σ:St}{H F:Hp}{s:Shared}{pr:Prt}{en:En}
end
section
variable {prog:Program}{w:World}{A:Around}{E:Value->Shared->Prop}{s:Shared}
variable {I:Addr}{fp wr:List Addr}{n:Nat}{P:Nat->Value->Prop}{St:Nat->Heap->Prop}{R:Result->Shared->Prop}
end
section
variable {X:Cx}{S:Sx}{d:Nat}
end
section
variable {X:Cx}
end
section
variable {X:Cx}{S:Sx}{d:Nat}
end
section
variable {K:PySem.W.Frag}{σ:St}{H:Hp}
end
noncomputable def zhv (x:Expr->Option GE) (X:Cx):Prop:=∀e g,x e=some g->PE X e (tE X.K g)
section
variable {X:Cx}{S:Sx}{d:Nat}{fE:Sx->Expr->Option GE}
end
noncomputable def keyF:W->Option Key
 | .int i=>some (.inl i)
 | .str s=>some (.inr s)
 | _=>none
noncomputable def keysF:List W->Option (List Key)
 | []=>some []
 | w::ws=>(keyF w).bind fun k=>(keysF ws).bind fun ks=>some (k::ks)
noncomputable def keyD:W->Option DKey
 | .tup ws=>(keysF ws).bind fun ks=>some (.inr ks)
 | w=>(keyF w).bind fun k=>some (.inl k)
noncomputable def KeyR (F:Hp):DKey->V->Prop
 | .inl k,v=>v=kV k
 | .inr ks,v=>∃b,v=.ref b/\F b=some (.tup (ks.map kV))
section
variable {K:PySem.W.Frag}{F H:Hp}
theorem Rep.keyF {w:W}{v:V}{k:Key}(h:Rep K F w v)(e:keyF w=some k):v=kV k:=by
 cases w with
 | int i=>obtain rfl:=sI e;exact h.isIt
 | str s=>obtain rfl:=sI e;cases h;rfl
 | _=>exact noSome e
theorem Reps.keysF:∀{ws:List W}{vs:List V}{ks:List Key},Reps K F ws vs->keysF ws=some ks->vs=ks.map kV
  | _,_,_,.nil,e=>by obtain rfl:=sI e;rfl
  | _,_,_,.cons h r,e=>by
    obtain⟨k,h1,e⟩:=bS e;obtain⟨ks,h2,e⟩:=bS e;obtain rfl:=sI e;rw[h.keyF h1,Reps.keysF r h2];rfl
theorem Rep.keyD {w:W}{v:V}{k:DKey} (h:Rep K F w v) (e:keyD w=some k):KeyR F k v:=by
  have flat:(L2.keyF w).bind (fun k=>some (Sum.inl k:DKey))=some k->KeyR F k v:=fun e=>by
    obtain⟨k1,h1,e⟩:=bS e;obtain rfl:=sI e;exact h.keyF h1
  cases w with
  | tup ws =>
    obtain⟨ks,h1,e⟩:=bS (show (L2.keysF ws).bind _=_ from e);obtain rfl:=sI e;cases h with
    | tup hh r=>exact⟨_,rfl,by rw[hh,r.keysF h1]⟩
  | _=>exact flat e
noncomputable def valW (kvs:List (DKey × W)) (k:DKey):Option W:=(kvs.find? fun kv=>decide (kv.1=k)).map (·.2)
theorem zdp (p:DKey × W)(r:List (DKey × W))(k:DKey):valW (p::r) k=if p.1=k then some p.2 else valW r k:=by
 unfold valW;rw[Dq];by_cases h:p.1=k
 ·rw[Ag h,if_pos h];rfl
 ·rw[Av h,if_neg h]
theorem zj1 {κ:Type} [DecidableEq κ] (p:κ × V)(r:List (κ × V))(k:κ):valV (p::r) k=if p.1=k then some p.2 else valV r k:=by
 by_cases h:p.1=k
 ·rw[zf6 h,if_pos h]
 ·rw[zgb h,if_neg h]
theorem ze3 {κ:Type} [DecidableEq κ] {f:κ->DKey} (hf:∀a b,f a=f b->a=b):∀{ks:List κ}{ws:List W}{vs:List V}{k:κ}{w:W},ks.length=vs.length->Reps K F ws vs->valW ((ks.map f).zip ws) (f k)=some w->∃v,valV (ks.zip vs) k=some v/\Rep K F w v
  | [],_,_,_,_,_,_,e=>by simp [valW] at e
  | _::_,_,_,_,_,_,.nil,e=>by simp [valW] at e
  | k' :: ks,w' :: ws,v' :: vs,k,w,hl,.cons h r,e=>by
    rw[Ak,Bm,zdp] at e;rw[Bm,zj1];by_cases z:k'=k
    · subst z
      rw[if_pos rfl] at e ⊢;obtain rfl:=sI e;exact⟨_,rfl,h⟩
    · rw [if_neg fun q => z (hf _ _ q)] at e
      rw[if_neg z];exact ze3 hf (Eu hl) r e
theorem zep {κ:Type} [DecidableEq κ] {f:κ->DKey} (hf:∀a b,f a=f b->a=b):∀{ks:List κ}{ws:List W}{vs:List V}{k:κ},ks.length=vs.length->Reps K F ws vs->valW ((ks.map f).zip ws) (f k)=none->valV (ks.zip vs) k=none
  | [],_,_,_,_,_,_=>rfl
  | _::_,_,_,_,hl,.nil,_=>by simp at hl
  | k' :: ks,w' :: ws,v' :: vs,k,hl,.cons h r,e=>by
    rw[Ak,Bm,zdp] at e;rw[Bm,zj1];by_cases z:k'=k
    · subst z;rw[if_pos rfl] at e;exact nomatch e
    · rw [if_neg fun q => z (hf _ _ q)] at e
      rw[if_neg z];exact zep hf (Eu hl) r e
theorem zdu {κ:Type}{f:κ->DKey}{k:DKey} (hk:∀a,f a≠k):∀{ks:List κ}{ws:List W},valW ((ks.map f).zip ws) k=none
  | [],_=>rfl
  | _::_,[]=>rfl
  | k' :: ks,w' :: ws=>by
    rw[Ak,Bm,zdp,if_neg (hk k')];exact zdu hk
noncomputable def zeh {κ:Type} [DecidableEq κ] (ks:List κ) (k:κ):List κ:=if k∈ks then ks else ks++[k]
noncomputable def zeb {κ α:Type} [DecidableEq κ] (ks:List κ) (vs:List α) (k:κ) (v:α):List α:=if k∈ks then List.zipWith (fun k' v'=>if k'=k then v else v') ks vs else vs++[v]
theorem zg2 {κ:Type} [DecidableEq κ] {f:κ->DKey}(hf:∀a b,f a=f b->a=b)(ks:List κ)(k:κ):zeh (ks.map f) (f k)=(zeh ks k).map f:=by
 have m:f k∈ks.map f↔k∈ks:=by
  rw[Ay];exact⟨fun ⟨a,h,e⟩=>hf _ _ e ▸ h,fun h=>⟨k,h,rfl⟩⟩
 unfold zeh;by_cases h:k∈ks
 ·rw[if_pos h,if_pos (m.mpr h)]
 ·rw[if_neg h,if_neg (mt m.mp h),Bq];rfl
theorem zki {κ:Type} [DecidableEq κ] {f:κ->DKey} (hf:∀a b,f a=f b->a=b) {k:κ}{w:W}{v:V} (h:Rep K F w v):∀{ks:List κ}{ws:List W}{vs:List V},Reps K F ws vs->Reps K F (List.zipWith (fun k' v'=>if k'=f k then w else v') (ks.map f) ws) (List.zipWith (fun k' v'=>if k'=k then v else v') ks vs)
  | [],_,_,_=>.nil
  | _::_,_,_,.nil=>.nil
  | k' :: ks,_,_,.cons q r=>by
    rw[Ak,List.zipWith_cons_cons,List.zipWith_cons_cons];refine .cons ?_ (zki hf h r);by_cases z:k'=k
    · subst z;rw[if_pos rfl,if_pos rfl];exact h
    · rw[if_neg z,if_neg fun e=>z (hf _ _ e)];exact q
theorem zfg {κ:Type} [DecidableEq κ] {f:κ->DKey}(hf:∀a b,f a=f b->a=b){k:κ}{w:W}{v:V}(h:Rep K F w v){ks:List κ}{ws:List W}{vs:List V}(r:Reps K F ws vs):Reps K F (zeb (ks.map f) ws (f k) w) (zeb ks vs k v):=by
 have m:f k∈ks.map f↔k∈ks:=by
  rw[Ay];exact⟨fun ⟨a,h,e⟩=>hf _ _ e ▸ h,fun h=>⟨k,h,rfl⟩⟩
 unfold zeb;by_cases z:k∈ks
 ·rw[if_pos z,if_pos (m.mpr z)];exact zki hf h r
 ·rw[if_neg z,if_neg (mt m.mp z)];exact r.append (.cons h .nil)
theorem zn8 {κ α:Type} [DecidableEq κ] {ks:List κ}{vs:List α}(hl:ks.length=vs.length)(k:κ)(v:α):(zeh ks k).length=(zeb ks vs k v).length:=by
 unfold zeh zeb;split
 ·rw[List.length_zipWith,hl,Gf]
 ·rw[Ba,Ba,hl];rfl
theorem zsg {κ:Type} [DecidableEq κ] (k:κ) (v:V):∀{ks:List κ}{vs:List V},(ks.zip vs).map (fun kv=>if kv.1=k then (kv.1,v) else kv)=ks.zip (List.zipWith (fun k' v'=>if k'=k then v else v') ks vs)
  | [],_=>rfl
  | _::_,[]=>rfl
  | k' :: ks,v' :: vs=>by
    rw[Bm,Ak,zsg k v,List.zipWith_cons_cons,Bm];by_cases z:k'=k
    · rw[if_pos z,if_pos z]
    · rw[if_neg z,if_neg z]
theorem zsh {κ:Type} [DecidableEq κ] (k:κ):∀{ks:List κ}{vs:List V},ks.length=vs.length->((ks.zip vs).any fun kv=>decide (kv.1=k))=decide (k∈ks)
  | [],_,_=>rfl
  | _::_,[],h=>by simp at h
  | k' :: ks,v' :: vs,h=>by
    rw[Bm,Cu,zsh k (Eu h)];by_cases z:k'=k
    · subst z;simp
    · have : ¬ k = k' := fun e => z e.symm
      simp [z,this]
theorem zi7 {κ:Type} [DecidableEq κ] {ks:List κ}{vs:List V}(hl:ks.length=vs.length)(k:κ)(v:V):putK (ks.zip vs) k v=(zeh ks k).zip (zeb ks vs k v):=by
 unfold putK zeh zeb;rw[zsh k hl];by_cases z:k∈ks
 ·rw[if_pos (Ag z),if_pos z,if_pos z,zsg]
 ·rw[if_neg (fun q=>z (An q)),if_neg z,if_neg z,List.zip_append hl];rfl
noncomputable def DctR (K:PySem.W.Frag) (F H:Hp) (a:Addr) (ks:List DKey) (ws:List W):Prop :=
 (∃(js:List Key) (vs:List V),ks=js.map .inl/\H a=some (.dK (js.zip vs))/\js.length=vs.length/\Reps K F ws vs) \/
 ∃(js:List (List Key)) (vs:List V),ks=js.map .inr/\H a=some (.dT (js.zip vs))/\js.length=vs.length/\Reps K F ws vs
theorem OwnR.dct' {ks:List DKey}{ws:List W}{o:HO}{a:Addr}(h:OwnR K F (.dct ks ws) o)(e:H a=some o):DctR K F H a ks ws:=by
 generalize hw:W.dct ks ws=w at h;cases h with
 | lst r=>cases hw
 | dct hl r=>cases hw;exact .inl ⟨_,_,rfl,e,hl,r⟩
 | dctT hl r=>cases hw;exact .inr ⟨_,_,rfl,e,hl,r⟩
theorem RepB.dct {ks:List DKey}{ws:List W}{v:V}(s:Same F H)(r:RepB K F H (.dct ks ws) v):∃a,v=.ref a/\DctR K F H a ks ws:=by
 rcases r with r | ⟨a,o,w',e,rfl,h,q⟩
 ·generalize hw : W.dct ks ws = w at r;cases r with
  | dct h hl r=>cases hw;exact⟨_,rfl,.inl ⟨_,_,rfl,s _ _ h,hl,r⟩⟩
  | dctT h hl r=>cases hw;exact⟨_,rfl,.inr ⟨_,_,rfl,s _ _ h,hl,r⟩⟩
  | _=>cases hw
 ·subst e;exact⟨a,rfl,q.dct' h⟩
noncomputable def DczR (K:PySem.W.Frag) (F H:Hp) (a:Addr) (ks:List DKey) (ws:List W):Prop :=
 (∃(js:List Key) (vs:List V),ks=js.map .inl/\(∃o,H a=some (.frz o (.dK (js.zip vs))))/\js.length=vs.length/\Reps K F ws vs) \/
 ∃(js:List (List Key)) (vs:List V),ks=js.map .inr/\(∃o,H a=some (.frz o (.dT (js.zip vs))))/\js.length=vs.length/\Reps K F ws vs
theorem RepB.dcz {ks:List DKey}{ws:List W}{v:V}(s:Same F H)(r:RepB K F H (.dcz ks ws) v):∃a,v=.ref a/\DczR K F H a ks ws:=by
 rcases r with r | ⟨a,o,w',e,rfl,h,q⟩
 ·generalize hw : W.dcz ks ws = w at r;cases r with
  | dcz h hl r=>cases hw;exact⟨_,rfl,.inl ⟨_,_,rfl,⟨_,s _ _ h⟩,hl,r⟩⟩
  | dczT h hl r=>cases hw;exact⟨_,rfl,.inr ⟨_,_,rfl,⟨_,s _ _ h⟩,hl,r⟩⟩
  | _=>cases hw
 ·subst e;cases q
theorem zdf (a b:Key)(h:(Sum.inl a:DKey)=.inl b):a=b:=Sum.inl.inj h
theorem zfs (a b:List Key)(h:(Sum.inr a:DKey)=.inr b):a=b:=Sum.inr.inj h
theorem DctR.get {a:Addr}{ks:List DKey}{ws:List W}{d:DKey}{y:V}{w:W} (s:Same F H) (h:DctR K F H a ks ws) (hk:KeyR F d y) (e:valW (ks.zip ws) d=some w):∃v,DGet H a y (some v)/\Rep K F w v:=by
  rcases h with ⟨js,vs,rfl,h,hl,r⟩ | ⟨js,vs,rfl,h,hl,r⟩
  · cases d with
    | inl k =>
      obtain⟨v,h1,h2⟩:=ze3 zdf hl r e;exact⟨v,.inl ⟨_,k,.inl h,hk,h1.symm⟩,h2⟩
    | inr k=>rw[zdu (f:=Sum.inl) (fun a z=>by cases z)] at e;exact nomatch e
  · cases d with
    | inl k=>rw[zdu (f:=Sum.inr) (fun a z=>by cases z)] at e;exact nomatch e
    | inr k =>
      obtain⟨v,h1,h2⟩:=ze3 zfs hl r e;obtain⟨b,hb,fb⟩:=hk;exact⟨v,.inr ⟨_,k,b,.inl h,hb,s _ _ fb,h1.symm⟩,h2⟩
theorem DczR.get {a:Addr}{ks:List DKey}{ws:List W}{d:DKey}{y:V}{w:W} (s:Same F H) (h:DczR K F H a ks ws) (hk:KeyR F d y) (e:valW (ks.zip ws) d=some w):∃v,DGet H a y (some v)/\Rep K F w v:=by
  rcases h with ⟨js,vs,rfl,h,hl,r⟩ | ⟨js,vs,rfl,h,hl,r⟩
  · cases d with
    | inl k =>
      obtain⟨v,h1,h2⟩:=ze3 zdf hl r e;exact⟨v,.inl ⟨_,k,.inr h,hk,h1.symm⟩,h2⟩
    | inr k=>rw[zdu (f:=Sum.inl) (fun a z=>by cases z)] at e;exact nomatch e
  · cases d with
    | inl k=>rw[zdu (f:=Sum.inr) (fun a z=>by cases z)] at e;exact nomatch e
    | inr k =>
      obtain⟨v,h1,h2⟩:=ze3 zfs hl r e;obtain⟨b,hb,fb⟩:=hk;exact⟨v,.inr ⟨_,k,b,.inr h,hb,s _ _ fb,h1.symm⟩,h2⟩
noncomputable def DNo (H:Hp) (a:Addr) (y:V):Prop:=DGet H a y none\/(H a=some (.dK [])/\∃(b:Addr) (k:List Key),y=.ref b/\H b=some (.tup (k.map kV)))\/(H a=some (.dT [])/\∃k,y=kV k)
noncomputable def zcj (d:DKey) (ks:List DKey):Bool:=ks.all fun k=>k.isLeft == d.isLeft
theorem DctR.no {a:Addr}{ks:List DKey}{ws:List W}{d:DKey}{y:V} (s:Same F H) (h:DctR K F H a ks ws) (hk:KeyR F d y) (hs:zcj d ks=true) (e:valW (ks.zip ws) d=none):DNo H a y:=by
  rcases h with ⟨js,vs,rfl,h,hl,r⟩ | ⟨js,vs,rfl,h,hl,r⟩
  · cases d with
    | inl k=>exact .inl (.inl ⟨_,k,.inl h,hk,(zep zdf hl r e).symm⟩)
    | inr k =>
      cases js with
      | nil=>obtain⟨b,hb,fb⟩:=hk;exact .inr (.inl ⟨h,b,k,hb,s _ _ fb⟩)
      | cons j js=>unfold zcj at hs;rw[Ak,Bf,Ac] at hs;exact nomatch hs.1
  · cases d with
    | inl k =>
      cases js with
      | nil=>exact .inr (.inr ⟨h,k,hk⟩)
      | cons j js=>unfold zcj at hs;rw[Ak,Bf,Ac] at hs;exact nomatch hs.1
    | inr k=>obtain⟨b,hb,fb⟩:=hk;exact .inl (.inr ⟨_,k,b,.inl h,hb,s _ _ fb,(zep zfs hl r e).symm⟩)
theorem DczR.no {a:Addr}{ks:List DKey}{ws:List W}{d:DKey}{y:V} (s:Same F H) (h:DczR K F H a ks ws) (hk:KeyR F d y) (hs:(zcj d ks && !ks.isEmpty)=true) (e:valW (ks.zip ws) d=none):DNo H a y:=by
  rw[Ac] at hs;rcases h with ⟨js,vs,rfl,h,hl,r⟩ | ⟨js,vs,rfl,h,hl,r⟩
  · cases d with
    | inl k=>exact .inl (.inl ⟨_,k,.inr h,hk,(zep zdf hl r e).symm⟩)
    | inr k =>
      cases js with
      | nil=>exact nomatch hs.2
      | cons j js=>have hs:=hs.1;unfold zcj at hs;rw[Ak,Bf,Ac] at hs;exact nomatch hs.1
  · cases d with
    | inl k =>
      cases js with
      | nil=>exact nomatch hs.2
      | cons j js=>have hs:=hs.1;unfold zcj at hs;rw[Ak,Bf,Ac] at hs;exact nomatch hs.1
    | inr k=>obtain⟨b,hb,fb⟩:=hk;exact .inl (.inr ⟨_,k,b,.inr h,hb,s _ _ fb,(zep zfs hl r e).symm⟩)
end
section
variable {X:Cx}{pins:List (Addr × Obj)}{σ:St}{H:Hp}{s:Shared}{a:Addr}
theorem zd1 {H:Hp}{a:Addr}{o o' : HO}(e:H a=some o):upd (upd H a o') a o=H:=by
 rw[zjt]
 funext b
 by_cases h:b=a
 ·subst h;rw[upd_same,e]
 ·rw[upd_ne h]
theorem reT (I:Inv X pins σ H s)(e:H a=some (.dK [])):Inv X pins σ (upd H a (.dT [])) s:=by
 obtain⟨z,hd,vs,rel,o,es,ep,h1,h2,h3,h4,h5,h6⟩:=zqo I.hok e;have hv:vs=[]:=Df.mp rel.length.symm;subst hv;have he:es.toList=[]:=by
  generalize es.toList=l at h5;cases h5
  rfl
 exact zfi (h':=s.heap) (t':=s.toks) I (by rw[e];exact True.intro) ⟨rfl,fun _ _=>rfl⟩ ⟨o,h1⟩ ⟨Bv _,hd,[],.nil,o,es,ep,h1,h2,h3,he,List.nodup_nil⟩
theorem reK (I:Inv X pins σ H s)(e:H a=some (.dT [])):Inv X pins σ (upd H a (.dK [])) s:=by
 obtain⟨z,hd,xs,rel,o,es,ep,h1,h2,h3,h4,h5⟩:=(show ObjOk X.prog X.w H s.heap a (.dT []) from I.hok a _ e);cases rel;have he:es=#[]:=by cases es;simp at h4;rw[h4]
 subst he;exact zfi (h':=s.heap) (t':=s.toks) I (by rw[e];exact True.intro) ⟨rfl,fun _ _=>rfl⟩ ⟨o,h1⟩ ⟨Bv _,hd,[],.nil,o,#[],ep,h1,h2,h3,(fun e he=>absurd he (by simp)),.nil,List.nodup_nil⟩
end
noncomputable def oIxD:O2:=fun a k=>match a with
 | .dct ks ws=>(keyD k).bind fun d=>(valW (ks.zip ws) d).bind fun w=>#v[w,6]
 | .dcz ks ws=>(keyD k).bind fun d=>(valW (ks.zip ws) d).bind fun w=>#v[w,6]
 | a=>oIx a k
theorem RepB.key {K:PySem.W.Frag}{F H:Hp}{w:W}{v:V}{d:DKey}(r:RepB K F H w v)(e:keyD w=some d):KeyR F d v:=by
 rcases r with r | ⟨a,o,w',z,rfl,h,q⟩
 ·exact r.keyD e
 ·subst z;cases q<;>exact noSome e
section
variable {K:PySem.W.Frag}{F H:Hp}{pr:Prt}{en:En}{σ:St}
theorem Rel.newOwn (R:Rel K F pr en σ H){p:Addr}(hp:H p=none){w:W}{o:HO}(h:OwnR K F w o):Rel K F pr en σ (upd H p o)/\Res K F (upd H p o) pr en σ (w,true) (.ref p):=by
 refine⟨R.lay hp o,p,o,w,rfl,rfl,upd_same,R.sub.free hp,h,fun i w' e z=>?_,fun q o2 hq z=>?_⟩
 ·obtain⟨a, vs, ws, h1, h2, h3, h4, h5⟩ := R.own i w' e;rw[h2] at z;cases z;rw[hp] at h3;exact noSome h3
 ·have := (R.prt q o2 hq).1;rw[z,hp] at this;exact noSome this
end
noncomputable def z09:GE:=fun en=>some (en,(.dct [] [],true))
theorem ztt {K:PySem.W.Frag}{σ:St}{H:Hp}{Q:VK}(h:tE K z09 σ H Q):zz7 σ H Q:=by
 obtain⟨F,pr,en,en',r,R,h,q⟩:=h;cases h;intro p hp;obtain⟨R',y⟩:=R.newOwn hp (w:=.dct [] []) (o:=.dK []) (.dct (ks:=[]) (vs:=[]) rfl .nil);exact q F _ _ (.refl F) R' y
theorem z8x {X:Cx}{pins:List (Addr × Obj)}{σ:St}{H:Hp}{s:Shared}{a:Addr}{y d:V}{u r:Value}{A:Around}{E:Value->Shared->Prop}{Q:Value->Shared->Prop} (hu:A.units+1 < cLine) (I:Inv X pins σ H s) (g:DNo H a y) (ry:RelV y u) (rd:RelV d r) (h:∀w' s',Inv X pins σ H s'->RelV d w'->Q w' s') :
  wpAny (model X.prog X.w) A (call (.builtin "dict.get") [.ref a,u,r]) Q E s:=by
 rcases g with g | ⟨e,b,k,rfl,hb⟩ | ⟨e,k,rfl⟩
 ·exact d_get2 hu I g ry rd h
 ·have ne : b ≠ a := fun z => by subst z; rw[e] at hb; exact nomatch hb
  refine d_get2 hu (reT I e) (.inr ⟨[],k,b,.inl upd_same,rfl,by rw[upd_ne ne];exact hb,rfl⟩) ry rd fun w' s' I' r'=>h w' s' ?_ r';have:=reK I' upd_same
  rwa [zd1 e] at this
 ·refine d_get2 hu (reK I e) (.inl ⟨[], k, .inl upd_same, rfl, rfl⟩) ry rd fun w' s' I' r' => h w' s' ?_ r';have:=reT I' upd_same
  rwa [zd1 e] at this
noncomputable def z8p (i:Nat) (g g' : GE):GE:=fun en=>match en[i]? with
  | some (some (.dct _ _,_))=>(g en).bind fun p=>(g' p.1).bind fun q=>(keyD p.2.1).bind fun d=>match q.1[i]? with
    | some (some (.dct ks ws,_))=>(match valW (ks.zip ws) d with
      | some w=>some (q.1,(w,false))
      | none=>if zcj d ks then some (q.1,q.2) else none)
    | _=>none
  | _=>none
theorem Rel.repD {K:PySem.W.Frag}{F H:Hp}{pr:Prt}{en:En}{σ:St}(R:Rel K F pr en σ H){i:Nat}{ks:List DKey}{ws:List W}{f:Bool}(e:en[i]?=some (some (.dct ks ws,f))):∃a,σ[i]?=some (some (.ref a))/\DctR K F H a ks ws:=by
 obtain⟨v,hv⟩:=R.has e;obtain⟨a,rfl,D⟩:=(R.repB e hv).dct R.sub;exact⟨a,hv,D⟩
theorem Res.key {K:PySem.W.Frag}{F H:Hp}{pr:Prt}{en:En}{σ:St}{r:W × Bool}{v:V}{d:DKey}(h:Res K F H pr en σ r v)(e:keyD r.1=some d):KeyR F d v:=by
 obtain⟨w,b⟩:=r;cases b with
 | false=>exact Rep.keyD h e
 | true=>obtain⟨a,o,w',z,_,_,_,q,_⟩:=h;subst z;cases q<;>exact noSome e
theorem zqc {X:Cx}{pins:List (Addr × Obj)}{σ:St}{H:Hp}{s:Shared}{a:Addr}{y v:V}{u r:Value}{A:Around}{E:Value->Shared->Prop}{Q:Unit->Shared->Prop} (hu:A.units+1 < cLine) (I:Inv X pins σ H s)
  (g:(∃H',DPut H a y v H'/\∀s',Inv X pins σ H' s'->Q () s')\/(H a=some (.dK [])/\∃(b:Addr) (k:List Key),y=.ref b/\H b=some (.tup (k.map kV))/\∀s',Inv X pins σ (upd H a (.dT (putK [] k v))) s'->Q () s')\/(H a=some (.dT [])/\∃k,y=kV k/\∀s',Inv X pins σ (upd H a (.dK (putK [] k v))) s'->Q () s')) (ry:RelV y u) (rv:RelV v r) :
  wpAny (model X.prog X.w) A (setItem (.ref a) u r) Q E s:=by
 rcases g with ⟨H',g,h⟩ | ⟨e,b,k,rfl,hb,h⟩ | ⟨e,k,rfl,h⟩
 ·exact d_setItem hu I g ry rv h
 ·have ne : b ≠ a := fun z => by subst z; rw[e] at hb; exact nomatch hb
  refine d_setItem hu (reT I e) (.inr ⟨[],k,b,upd_same,rfl,by rw[upd_ne ne];exact hb,by rw[Fs];decide,rfl⟩) ry rv fun s' I'=>h s' ?_
  rwa [zjt] at I'
 ·refine d_setItem hu (reK I e) (.inl ⟨[], k, upd_same, rfl, by rw[Fs]; decide, rfl⟩) ry rv fun s' I' => h s' ?_
  rwa [zjt] at I'
noncomputable def z7c:V->V->V->Hp->(Hp->Prop)->Prop:=fun o y v H Q=>∃a,o=.ref a/\((∃H',DPut H a y v H'/\Q H')\/(H a=some (.dK [])/\∃(b:Addr) (k:List Key),y=.ref b/\H b=some (.tup (k.map kV))/\Q (upd H a (.dT (putK [] k v))))\/(H a=some (.dT [])/\∃k,y=kV k/\Q (upd H a (.dK (putK [] k v)))))
theorem zxk {X:Cx}(hu:X.A.units+1 < cLine):PSet X z7c:=by
 intro pins s σ H o i v ov iv u Q I ro ri rv h;obtain⟨a,rfl,h⟩:=h;cases ro;refine zqc hu I ?_ ri rv;rcases h with ⟨H',g,q⟩ | ⟨e,b,k,e1,hb,q⟩ | ⟨e,k,e1,q⟩
 ·exact .inl ⟨H',g,fun s' I'=>⟨H',I',q⟩⟩
 ·exact .inr (.inl ⟨e,b,k,e1,hb,fun s' I'=>⟨_,I',q⟩⟩)
 ·exact .inr (.inr ⟨e,k,e1,fun s' I'=>⟨_,I',q⟩⟩)
theorem PSet.or {X:Cx}{t t' : TSet}(h:PSet X t)(h' : PSet X t'):PSet X fun o i v H Q=>t o i v H Q\/t' o i v H Q:=by
 intro pins s σ H o i v ov iv u Q I ro ri rv q;rcases q with q | q
 ·exact h pins s σ H o i v ov iv u Q I ro ri rv q
 ·exact h' pins s σ H o i v ov iv u Q I ro ri rv q
noncomputable def zug (i:Nat) (k:GE) (g:GE):GS:=fun en=>(g en).bind fun p=>match p.1[i]? with
  | some (some _)=>(k p.1).bind fun q=>match q.1[i]? with
    | some (#v[ws,2])=>(intW q.2.1).bind fun n=>(ixN ws.length n).bind fun j=>some (q.1.set i (#v[(ws.set j p.2.1),2]),.nx)
    | some (some (.dct ks ws,true))=>(keyD q.2.1).bind fun d=>if zcj d ks && decide (ks.length < sizeLine) then some (q.1.set i (some (.dct (zeh ks d) (zeb ks ws d p.2.1),true)),.nx) else none
    | _=>none
  | _=>none
theorem zte {K:PySem.W.Frag}{mp:List Nat}{D:Ends}{σ:St}{H:Hp}{i:Nat}{k g:GE} (h:tS K mp (zug i k g) D σ H):tAsg (tE K g) (gSub (tVar i) (tE K k) (fun o i v H Q=>z0m o i v H Q\/z7c o i v H Q)) D σ H:=by
  obtain⟨F,pr,en,en',fl,R,h,q⟩:=h;obtain⟨⟨e1,r1⟩,h1,h⟩:=bS h;refine⟨F,pr,en,e1,r1,R,h1,fun F1 H1 v1 s1 R1 y1=>?_⟩;obtain⟨F2,s2,R2,x1⟩:=y1.freeze R1;split at h
  · rename_i x0 hx0
    obtain⟨⟨e2,r2⟩,h2,h⟩:=bS h;obtain⟨w0,f0⟩:=x0;obtain⟨v0,hv0⟩:=R2.has hx0;refine⟨v0,hv0,F2,pr,e1,e2,r2,R2,h2,fun F3 H3 v2 s3 R3 y2=>?_⟩;split at h
    · rename_i ws eq2
      obtain ⟨n,hn,h⟩:=bS h;obtain ⟨j,hj,h⟩:=bS h;cases h;obtain ⟨w2,f2⟩:=r2;have ew:w2=.int n:=by
        cases w2 with
        | int j=>obtain rfl:=sI hn;rfl
        | _=>exact noSome hn
      subst ew;obtain⟨a,vs,ws',q1,q2,q3,q4,q5⟩:=R3.ownL eq2;cases q1;rw[hv0] at q2;cases q2;refine .inl ⟨a,vs,n,j,rfl,y2.isInt,q3,by rw[<-q5.length];exact hj,?_⟩;exact q F3 σ _ (s1.trans (s2.trans s3)) (R3.change eq2 hv0 (q5.set (x1.mono s3) j)) (.refl _ _)
    · rename_i ks ws eq2
      obtain⟨d,hd,h⟩:=bS h;split at h
      · rename_i z
        rw[Ac] at z;have z2:=An z.2;cases h;have kr:=y2.key hd;obtain⟨a,ha,D⟩:=R3.repD eq2;rw[hv0] at ha;cases ha;refine .inr ⟨a,rfl,?_⟩;rcases D with ⟨js,vs,rfl,hH,hl,r⟩ | ⟨js,vs,rfl,hH,hl,r⟩
        · cases d with
          | inl k =>
            refine .inl ⟨_,.inl ⟨_,k,hH,kr,by rw[List.length_zip,<-hl,Gf];rw[Ad] at z2;exact z2,rfl⟩,?_⟩;rw[zi7 hl];rw[zg2 zdf] at q;exact q F3 σ _ (s1.trans (s2.trans s3)) (R3.changeO eq2 hv0 (.dct (zn8 hl _ _) (zfg zdf (x1.mono s3) r))) (.refl _ _)
          | inr k =>
            cases js with
            | cons j js=>have z1:=z.1;unfold zcj at z1;rw[Ak,Bf,Ac] at z1;exact nomatch z1.1
            | nil =>
              have hv:vs=[]:=Df.mp hl.symm;subst hv;obtain⟨b,hb,fb⟩:=kr;refine .inr (.inl ⟨hH,b,k,hb,R3.sub _ _ fb,?_⟩);cases r;exact q F3 σ _ (s1.trans (s2.trans s3)) (R3.changeO eq2 hv0 (.dctT (ks:=[k]) (vs:=[v1]) rfl (.cons (x1.mono s3) .nil))) (.refl _ _)
        · cases d with
          | inr k =>
            obtain⟨b,hb,fb⟩:=kr;refine .inl ⟨_,.inr ⟨_,k,b,hH,hb,R3.sub _ _ fb,by rw[List.length_zip,<-hl,Gf];rw[Ad] at z2;exact z2,rfl⟩,?_⟩;rw[zi7 hl];rw[zg2 zfs] at q;exact q F3 σ _ (s1.trans (s2.trans s3)) (R3.changeO eq2 hv0 (.dctT (zn8 hl _ _) (zfg zfs (x1.mono s3) r))) (.refl _ _)
          | inl k =>
            cases js with
            | cons j js=>have z1:=z.1;unfold zcj at z1;rw[Ak,Bf,Ac] at z1;exact nomatch z1.1
            | nil =>
              have hv:vs=[]:=Df.mp hl.symm;subst hv;refine .inr (.inr ⟨hH,k,kr,?_⟩);cases r;exact q F3 σ _ (s1.trans (s2.trans s3)) (R3.changeO eq2 hv0 (.dct (ks:=[k]) (vs:=[v1]) rfl (.cons (x1.mono s3) .nil))) (.refl _ _)
      · exact noSome h
    · exact noSome h
  · exact noSome h
theorem zdr {P:Nat->Value->Prop}{acc:Array Value}{n:Nat}(h:ItemsOf P acc n):acc.toList.length=n/\∀(j:Nat) (v:Value),acc.toList[j]?=some v->P j v :=
 ⟨by rw[Cs];exact h.1,fun j v e=>h.2 j v (by rw[<-Ek];exact e)⟩
noncomputable def z0b:List V->Hp->VK->Prop:=fun xs H Q=>∃(p:Addr) (kvs:List (Key × V)),xs=[.ref p]/\(H p=some (.dK kvs)\/(H p=some (.dT [])/\kvs=[]))/\∀l,H l=none->Q (.ref l) (upd H l (.lst (kvs.map fun p=>kV p.1)))
section
variable {X:Cx}
theorem call_listK (hc:X.calm=true){pins:List (Addr × Obj)}{s:Shared}{σ:St}{H:Hp}{Q:Value->Shared->Prop}{p:Addr}{kvs:List (Key × V)}(I:Inv X pins σ H s)(hp:H p=some (.dK kvs))(q:∀l s',H l=none->Inv X pins σ (upd H l (.lst (kvs.map fun p=>kV p.1))) s'->Q (.ref l) s'):wpAny (model X.prog X.w) X.A (call (.type "list") [.ref p]) Q X.xe s:=by
 obtain⟨z,hd,vs,rel,dd⟩:=zqo I.hok hp;obtain⟨ep,da⟩:=dd.dictAt;refine PySem.W.kdl_call (PySem.W.kdl_dict (knd:=zag X.prog X.w) (kvs:=vs) (ep:=ep) hd) (I.ok.hd hc) da (by rw[<-rel.length];exact z) fun h' tk acc c kp ga it=>?_;obtain⟨l1,l2⟩:=zdr it;have rv:=zjn l1 l2;rw[<-zmq rel] at rv;exact q _ _ (I.hok.fresh (Ae _)) (I.laid (t':=tk) (o:=.lst (kvs.map fun p=>kV p.1)) kp (Ae _) ⟨by rw[Ad];exact z,acc.toList,c,rv,by rw[Array.toArray_toList];exact ga⟩)
theorem zpf {H:Hp}{a b:Addr}{o u:HO}(ne:a≠b):upd (upd H a o) b u=upd (upd H b u) a o:=by
 funext c
 by_cases h:c=a
 ·subst h;rw[upd_ne ne,upd_same,upd_same]
 ·by_cases k : c = b
  ·subst k;rw[upd_same,upd_ne h,upd_same]
  ·rw[upd_ne k,upd_ne h,upd_ne h,upd_ne k]
theorem zro (hc:X.calm=true):zb5 X (.type "list") z0b:=by
 intro pins s σ H xs us Q I r h;obtain⟨p,kvs,rfl,hp,q⟩:=h;obtain⟨u,rfl,rx⟩:=vals1 r;cases rx;rcases hp with hp | ⟨hp,rfl⟩
 ·exact call_listK hc I hp fun l s' hl I'=>⟨.ref l,_,I',rfl,q l hl⟩
 ·refine call_listK hc (reK I hp) upd_same fun l s' hl I' => ?_;have ne:l≠p:=fun z=>by subst z;rw[upd_same] at hl;exact nomatch hl
  rw[upd_ne ne] at hl;have I2:=reT (a:=p) I' (by rw[upd_ne (Ne.symm ne),upd_same]);rw[zpf ne,zd1 hp] at I2;exact⟨.ref l,_,I2,rfl,q l hl⟩
end
noncomputable def keyV:DKey->Option W
 | .inl (.inl i)=>some (.int i)
 | .inl (.inr s)=>some (.str s)
 | .inr _=>none
noncomputable def zin:List DKey->Option (List W)
 | []=>some []
 | k::ks=>(keyV k).bind fun w=>(zin ks).bind fun ws=>some (w::ws)
theorem zge {K:PySem.W.Frag}{F:Hp}:∀{ks:List DKey}{ws:List W},zin ks=some ws->∃js:List Key,ks=js.map .inl/\Reps K F ws (js.map kV)
  | [],_,e=>by obtain rfl:=sI e;exact⟨[],rfl,.nil⟩
  | k::ks,_,e=>by
    obtain⟨w,h1,e⟩:=bS e;obtain⟨ws,h2,e⟩:=bS e;obtain rfl:=sI e;obtain⟨js,rfl,r⟩:=zge h2
    match k,h1 with
    | .inl (.inl i),h1=>obtain rfl:=sI h1;exact⟨.inl i::js,rfl,.cons (.int i) r⟩
    | .inl (.inr s),h1=>obtain rfl:=sI h1;exact⟨.inr s::js,rfl,.cons (.str s) r⟩
    | .inr _,h1=>exact noSome h1
theorem zl6 {as bs:List Key}(h:as.map (Sum.inl:Key->DKey)=bs.map .inl):as=bs:=List.map_inj_right (fun a b=>zdf a b) |>.mp h
theorem zgc:∀{js:List Key}{vs:List V},js.length=vs.length->((js.zip vs).map fun p=>kV p.1)=js.map kV
  | [],_,_=>rfl
  | _::_,[],h=>nomatch h
  | j::js,v::vs,h=>by
    rw[Bm,Ak,Ak,zgc (Eu h)]
noncomputable def zld:ON
 | [.dct ks _]=>(zin ks).bind fun ws=>#v[ws,2]
 | ws=>z7g ws
theorem DctR.dK {K:PySem.W.Frag}{F H:Hp}{a:Addr}{js:List Key}{ws:List W} (hj:js≠[]) (D:DctR K F H a (js.map .inl) ws):∃vs,H a=some (.dK (js.zip vs))/\js.length=vs.length:=by
  rcases D with ⟨js',vs,e,h,hl,_⟩ | ⟨js',vs,e,h,hl,_⟩
  · obtain rfl:=zl6 e;exact⟨vs,h,hl⟩
  · cases js with
    | nil=>exact absurd rfl hj
    | cons j js=>cases js' with
      | nil=>exact nomatch e
      | cons j' js'=>rw[Ak,Ak] at e;exact nomatch (List.cons.inj e).1
theorem DctR.dK0 {K:PySem.W.Frag}{F H:Hp}{a:Addr}{js:List Key}{ws:List W} (D:DctR K F H a (js.map .inl) ws):∃kvs:List (Key × V),(H a=some (.dK kvs)\/(H a=some (.dT [])/\kvs=[]))/\(kvs.map fun p=>kV p.1)=js.map kV:=by
  rcases D with ⟨js',vs,e,h,hl,_⟩ | ⟨js',vs,e,h,hl,_⟩
  · obtain rfl:=zl6 e;exact⟨_,.inl h,zgc hl⟩
  · cases js with
    | nil =>
      cases js' with
      | nil=>exact⟨[],.inr ⟨h,rfl⟩,rfl⟩
      | cons j' js'=>exact nomatch e
    | cons j js=>cases js' with
      | nil=>exact nomatch e
      | cons j' js'=>rw[Ak,Ak] at e;exact nomatch (List.cons.inj e).1
theorem DczR.dK {K:PySem.W.Frag}{F H:Hp}{a:Addr}{js:List Key}{ws:List W} (hj:js≠[]) (D:DczR K F H a (js.map .inl) ws):∃vs,(∃o,H a=some (.frz o (.dK (js.zip vs))))/\js.length=vs.length:=by
  rcases D with ⟨js',vs,e,h,hl,_⟩ | ⟨js',vs,e,h,hl,_⟩
  · obtain rfl:=zl6 e;exact⟨vs,h,hl⟩
  · cases js with
    | nil=>exact absurd rfl hj
    | cons j js=>cases js' with
      | nil=>exact nomatch e
      | cons j' js'=>rw[Ak,Ak] at e;exact nomatch (List.cons.inj e).1
theorem zva {K:PySem.W.Frag}:OpSN K (fun xs H Q=>(∃p ys,xs=[.ref p]/\(SqL K H p ys\/SqT K H p ys)/\∀l,H l=none->Q (.ref l) (upd H l (.lst ys)))\/z0b xs H Q) zld:=fun F H ws vs rv Q s r e q=>by
 unfold zld at e;split at e
 ·rename_i ks us;nofun;obtain⟨ws',h1,e⟩:=bS e;obtain⟨v,e1,h⟩:=r.one;obtain⟨js,rfl,rj⟩:=zge (K:=K) (F:=F) h1;obtain⟨a,rfl,D⟩:=h.dct s;ac_rfl;rw[h1] at e;obtain rfl:=sI e;subst e1;obtain⟨kvs,ha,hk⟩:=D.dK0;exact .inr ⟨a,kvs,rfl,ha,fun l hl'=>by rw[hk];exact q _ _ (.lst hl' rj)⟩
 ·exact .inl (zwl F H ws vs rv Q s r e q)
noncomputable def zzv:List V->Hp->VK->Prop:=fun xs H Q=>∃(l:Addr) (kvs:List (Key × V)) (ns:List Int),xs=[.ref l]/\Rd H l (.dK kvs)/\(kvs.map fun p=>kV p.1)=ns.map V.int/\∀p,H p=none->Q (.ref p) (upd H p (.lst ((zbg ns).map V.int)))
theorem ze6 {prog:Program}{w:World}{A:Around}{E:Value->Shared->Prop}{s:Shared}{Q:List Value->Shared->Prop}{d:Addr}{vs:List (Key × Value)}{ep:Nat} (hh:A.handled=none) (hd:(d == sysModules)=false) (da:s.heap.DictAt (zag prog w) d vs ep) (hz:vs.length<=sizeLine)
    (hQ:∀(h' : Heap) (tk:Nat) (acc:Array Value),(∀b o,s.heap.get? b=some o->h'.get? b=some o)->ItemsOf (fun i v=>∃k x,vs[i]?=some (k,x)/\(zag prog w).is k v=true) acc vs.length->Q acc.toList { s with heap:=h',toks:=tk }) :
    wpAny (model prog w) A (collect (.ref d)) Q E s:=by
  have lt:d < s.heap.objs.size:=da.lt_size;unfold collect;refine Aa (wpAny_runValue (Dx PySem.F.entry_proto_collect ?_));rw [Ed PySem.F.plain_proto_collect _];show wpAny _ A.in1 (newList [] >>= fun l=>again (.builtin "list.__iadd__" ⟨[l,.ref d],[]⟩)) _ _ s;refine Aa (Cd ?_);refine Ai ⟨Hb Fc _,Dx PySem.F.entry_list_iadd ?_⟩;rw [Ed Fc _];show wpAny _ A.in1 (Builtin.List.listExtendWith (.ref s.heap.objs.size) (.ref d) (.ref s.heap.objs.size)) _ _ _;have hS:(s.heap.push { cls:=.type "list",data:=.seq ([]:List Value).toArray }).get? s.heap.objs.size=some { cls:=.type "list",data:=.seq #[] 0 }:=As _ rfl;refine Dr (PySem.W.kdl_extend (A:=A) (R:=fun res s'=>∃(h' : Heap) (tk:Nat) (acc:Array Value) (c' : Nat),res=.ok (.ret (.ref s.heap.objs.size))/\s'={ s with heap:=h',toks:=tk }/\(∀b o,s.heap.get? b=some o->h'.get? b=some o)/\h'.get? s.heap.objs.size=some { cls:=.type "list",dict:=none,data:=.seq acc c',slots:=#[] }/\ItemsOf (fun i v=>∃k x,vs[i]?=some (k,x)/\(zag prog w).is k v=true) acc vs.length)
    (s:={ s with heap:=s.heap.push { cls:=.type "list",data:=.seq ([]:List Value).toArray } }) (PySem.W.kdl_dict (knd:=zag prog w) (kvs:=vs) (ep:=ep) hd) hh (da.push _) s.heap.objs.size (Ge lt) (Ge lt) (.ref s.heap.objs.size) 0 hS (fun h' tk acc c' hk hS' hacc=>⟨h',tk,acc,c',rfl,rfl,fun b o e=>hk b o (At (Ao e)) (Af _ e),hS',hacc⟩) hz) (fun fin s' h=>?_) (fun e s' h=>?_)
  · have fin' : ∀s',(∃(h' : Heap) (tk:Nat) (acc:Array Value) (c' : Nat),s'={ s with heap:=h',toks:=tk }/\(∀b o,s.heap.get? b=some o->h'.get? b=some o)/\h'.get? s.heap.objs.size=some { cls:=.type "list",dict:=none,data:=.seq acc c',slots:=#[] }/\ItemsOf (fun i v=>∃k x,vs[i]?=some (k,x)/\(zag prog w).is k v=true) acc vs.length)->wpAny (model prog w) A (match Value.ref s.heap.objs.size with
      | Value.ref a=>do
        match (<- load a).data with
          | Data.seq xs _=>pure xs.toList
          | _=>unsupported "internal:collect"
      | _=>unsupported "internal:collect") Q E s':=by
      rintro s' ⟨h',tk,acc,c',rfl,k1,k2,k3⟩;show wpAny _ A (load s.heap.objs.size >>= _) _ _ _;refine Aa (wpAny_load k2 ?_);exact Ai (hQ h' tk acc k1 k3)
    cases fin with
    | done f =>
      obtain⟨h',tk,acc,c',e,r⟩:=h;cases e;exact fin' s' ⟨h',tk,acc,c',r⟩
    | again c'=>exact⟨h.1,codeAny_mono h.2 fun r s'' hr=>by obtain⟨h',tk,acc,c',rfl,q⟩:=hr;exact fin' s'' ⟨h',tk,acc,c',q⟩⟩
  · obtain ⟨h', tk, acc, c', e, r⟩ := h
    cases e
section
variable {X:Cx}
theorem zqv (hc:X.calm=true):zb5 X (.builtin "sorted") zzv:=by
 intro pins s σ H xs us Q I r h;obtain⟨d,kvs,ns,rfl,hp,ek,q⟩:=h;obtain⟨u,rfl,rx⟩:=vals1 r;cases rx;obtain⟨z,hd,kv,rel,dd⟩:=dk_rd I.hok hp;obtain⟨ep,da⟩:=dd.dictAt;have zk:kv.length<=sizeLine:=by rw[<-rel.length];exact z
 refine call_function_entry_kw kind_sorted plain_sorted entry_sorted (args_sorted1 _) ?_;unfold Builtin.«sorted»;refine Aa (m:=checkCount "sorted" 1 1 _) (Ai ?_);refine Aa (ze6 (I.ok.hd hc) hd da zk fun h1 tk acc kp1 it=>?_);obtain⟨l1,l2⟩:=zdr it;have rv:=zjn l1 l2;rw[<-zmq rel,ek] at rv;generalize acc.toList=vs at l1 rv ⊢;have lv:ns.length=vs.length:=by have:=rv.length;rw[Ad] at this;exact this
 have hz' : vs.length<=sizeLine:=by rw[l1];exact zk
 have ia:IntsAre vs ns:=zgw rv;have I1:Inv X pins σ H { s with heap:=h1,toks:=tk }:=I.kept kp1;refine Aa (Ha ?_ hz');have hoL:(h1.push (seqObj "list" vs.toArray 0)).get? h1.objs.size=some (seqObj "list" vs.toArray 0):=As _ rfl;have keep:∀b o,h1.get? b=some o->(h1.push (seqObj "list" vs.toArray 0)).get? b=some o:=fun b o q=>Af _ q;show wpAny _ _ _ _ _ { s with heap:=h1.push (seqObj "list" vs.toArray 0),toks:=tk };generalize h1.push (seqObj "list" vs.toArray 0)=h3 at hoL keep ⊢;obtain⟨a,ea⟩ : ∃a,a=h1.objs.size:=⟨_,rfl⟩;show wpAny _ _ (holding [.ref h1.objs.size] _ >>= _) _ _ _;rw[<-ea] at hoL ⊢;refine Aa (Co (wpAny_call_entry_kw slot_list_sort ⟨_,hoL,rfl⟩ entry_list_sort ?body (args_list_sort _)))
 case body =>
  refine zgk (s:={ s with heap:=h3,toks:=tk }) hoL ia hz' fun r h' c pm pw ga kp=>⟨_,rfl,?_⟩;have al:∀x∈r,x.2=x.1/\∃n t,x.1=Value.int n t:=fun x hx=>by
   obtain⟨e1,e2⟩:=zjf (pm.mem_iff.mp hx);obtain⟨i,hi,e⟩:=Cw.mp e2;obtain⟨t,ht⟩:=ia.get i ns[i] (Ab #v[]);rw[Ab hi,e] at ht;exact⟨e1,_,t,sI ht⟩
  have pi:(r.map fun x=>(kN x.1).headD 0).Perm ns:=by
   refine (pm.map _).trans ?_;have:∀{vs:List Value}{ns:List Int},IntsAre vs ns->(vs.zip vs).map (fun x=>(kN x.1).headD 0)=ns:=fun {vs ns} h=>by
    induction h with
    | nil=>rfl
    | cons n t h ih=>rw[Bm,Ak,ih];rfl
   rw[this ia]
  have ps:(r.map fun x=>(kN x.1).headD 0).Pairwise (·<=·):=by
   rw[By];refine pw.imp_of_mem fun {x y} hx hy z=>?_;obtain⟨_,n,t,e1⟩:=al x hx;obtain⟨_,m,t',e2⟩:=al y hy;rw[e1,e2] at z ⊢;have z:lexI [m] [n]=false:=z;rw[zf9] at z;have:=Ee z;show n<=m;omega
  have eo:=zeq pi ps;have rv':=zeu al;rw[<-eo] at rv';refine Ai ⟨_,rfl,.ref a,_,I1.laid (t':=tk) (o:=.lst ((zbg ns).map V.int)) (fun b o eb=>kp b o (fun z=>Bx _ (by have:=Ao eb;rw[z,ea] at this;exact this)) (keep b o eb)) (Nat.le_of_eq ea.symm) ?_,rfl,q a (I1.hok.fresh (Nat.le_of_eq ea.symm))⟩;exact⟨by rw[eo,Ad,pi.length_eq];omega,_,c,rv',ga⟩
end
noncomputable def zfu:ON
 | [.dct ks _]=>(zin ks).bind fun ws=>(zbp ws).bind fun ns=>if ks.isEmpty then none else #v[((zbg ns).map W.int),2]
 | [.dcz ks _]=>(zin ks).bind fun ws=>(zbp ws).bind fun ns=>if ks.isEmpty then none else #v[((zbg ns).map W.int),2]
 | ws=>zcc ws
theorem zvw {K:PySem.W.Frag}:OpSN K (fun xs H Q=>(∃(l:Addr) (ns:List Int),xs=[.ref l]/\(SqL K H l (ns.map V.int)\/SqT K H l (ns.map V.int))/\∀p,H p=none->Q (.ref p) (upd H p (.lst ((zbg ns).map V.int))))\/zzv xs H Q) zfu:=fun F H ws vs rv Q s r e q=>by
 unfold zfu at e;split at e
 ·rename_i ks us;nofun;obtain⟨ws',h1,e⟩:=bS e;obtain⟨ns,h2,e⟩:=bS e;obtain⟨v,e1,h⟩:=r.one;obtain⟨js,rfl,rj⟩:=zge (K:=K) (F:=F) h1;obtain⟨a,rfl,D⟩:=h.dct s;ac_rfl;split at e
  ·exact noSome e
  ·rename_i hne;obtain rfl:=sI e;subst e1;obtain⟨vs,ha,hl⟩:=D.dK (fun z=>hne (by rw[z];rfl));rw[zco h2] at rj;exact .inr ⟨a,_,ns,rfl,.inl ha,by rw[zgc hl,rj.ints],fun l hl'=>q _ _ (.lst hl' (zdn _))⟩
 ·rename_i ks us;nofun;obtain⟨ws',h1,e⟩:=bS e;obtain⟨ns,h2,e⟩:=bS e;obtain⟨v,e1,h⟩:=r.one;obtain⟨js,rfl,rj⟩:=zge (K:=K) (F:=F) h1;obtain⟨a,rfl,D⟩:=h.dcz s;ac_rfl;split at e
  ·exact noSome e
  ·rename_i hne;obtain rfl:=sI e;subst e1;obtain⟨vs,ha,hl⟩:=D.dK (fun z=>hne (by rw[z];rfl));rw[zco h2] at rj;exact .inr ⟨a,_,ns,rfl,.inr ha,by rw[zgc hl,rj.ints],fun l hl'=>q _ _ (.lst hl' (zdn _))⟩
 ·exact .inl (zhx F H ws vs rv Q s r e q)
noncomputable def zzg (S:Sx):Expr->Bool
 | .Name x _=>dOn S x
 | _=>false
section
variable {X:Cx}{S:Sx}{d:Nat}{fE:Sx->Expr->Option GE}
theorem z2p (C:CxOk X S d):X.A.units+1 < cLine:=by have:=C.sl;omega
noncomputable def znj (fE:Sx->Expr->Option GE) (S:Sx):Expr->Option GE
 | .Dict ks vs _=>if S.bn.contains ("dict" : Str) && ks.isEmpty && vs.isEmpty then some z09 else none
 | _=>none
theorem zqs (HE:zbq fE)(C:CxOk X S d):zhv (znj fE S) X:=fun e g h=>by
 unfold znj at h;split at h
 ·split at h
  ·rename_i ks vs _ z;rw[Ac,Ac] at z;obtain rfl:=sI h;have e1:ks=[]:=List.isEmpty_iff.mp z.1.2;have e2:vs=[]:=List.isEmpty_iff.mp z.2;subst e1 e2;exact zyl.wk fun _ _ _=>ztt
  ·exact noSome h
 ·exact noSome h
noncomputable def z83 (fE:Sx->Expr->Option GE) (S:Sx):Expr->Option GE
 | .Call (.Attribute (.Name x _) name apos) [e,e'] [] cpos=>if name == ("get" : Str) && (apos.endLine == cpos.line) && zai e && zai e' then (S.rd x).bind fun i=>(fE S e).bind fun g=>(fE S e').bind fun g'=>some (z8p i g g') else none
 | _=>none
noncomputable def zua (fE:Sx->Expr->Option GE) (S:Sx):Expr->Option GE
 | .Call (.Name x _) [e] [] _=>if zzg S e && S.bl x && zai e then (if x == ("list" : Str) then (asL (zbs fE S) [e]).bind fun as=>some (gOpN zld as) else if x == ("sorted" : Str) then (asL (zbs fE S) [e]).bind fun as=>some (gOpN zfu as) else none) else none
 | _=>none
theorem zr5 (HE:zbq fE)(C:CxOk X S d):zhv (zua fE S) X:=fun e g h=>by
 unfold zua at h;split at h
 ·split at h
  ·rename_i z;rw[Ac,Ac] at z;obtain⟨gl,m⟩:=zhm C z.1.2;split at h
   ·rename_i z1;have e1:=Cb z1;subst e1;obtain⟨as,has,h⟩:=bS h;obtain rfl:=sI h;obtain⟨pa,_⟩:=zgm (fun e a ha=>zak HE C ha) has;exact (ze8 (zkc.or (zro C.calm)) gl m z1z pa #v[0,9] #v[0,9] (zal z.2) rfl).wk fun _ _ _=>zjq zva
   ·split at h
    ·rename_i z1;have e1:=Cb z1;subst e1;obtain⟨as,has,h⟩:=bS h;obtain rfl:=sI h;obtain⟨pa,_⟩:=zgm (fun e a ha=>zak HE C ha) has;exact (zb9 (zif.or (zqv C.calm)) gl m (show bootBuiltins "sorted" = some (.builtin "sorted") from Gr) pa #v[0,9] #v[0,9] (zal z.2) rfl).wk fun _ _ _=>zjq zvw
    ·exact noSome h
  ·exact noSome h
 ·exact noSome h
end
section
variable {X:Cx}{S:Sx}{d:Nat}{fE:Sx->Expr->Option GE}
end
section
variable {X:Cx}{pins:List (Addr × Obj)}{σ:St}{H:Hp}{s:Shared}{a:Addr}{y:V}{u:Value}{A:Around}{E:Value->Shared->Prop}{Q:Value->Shared->Prop}
theorem d_no {f:Sem Value}{b:Bool}(go:∀{H:Hp},Inv X pins σ H s->DGet H a y none->RelV y u->(∀s',Inv X pins σ H s'->Q (.bool b) s')->wpAny (model X.prog X.w) A f Q E s)(I:Inv X pins σ H s)(g:DNo H a y)(ry:RelV y u)(h:∀s',Inv X pins σ H s'->Q (.bool b) s'):wpAny (model X.prog X.w) A f Q E s:=by
 rcases g with g | ⟨e,b',k,rfl,hb⟩ | ⟨e,k,rfl⟩
 ·exact go I g ry h
 ·have ne : b' ≠ a := fun z => by subst z; rw[e] at hb; exact nomatch hb
  refine go (reT I e) (.inr ⟨[],k,b',.inl upd_same,rfl,by rw[upd_ne ne];exact hb,rfl⟩) ry fun s' I'=>h s' ?_;have:=reK I' upd_same
  rwa [zd1 e] at this
 ·refine go (reK I e) (.inl ⟨[], k, .inl upd_same, rfl, rfl⟩) ry fun s' I' => h s' ?_;have:=reT I' upd_same
  rwa [zd1 e] at this
end
noncomputable def rInD (neg:Bool):R2:=fun x y H Q=>∃a,y=.ref a/\((∃v,DGet H a x (some v)/\Q (.bl (!neg)) H)\/(DNo H a x/\Q (.bl neg) H))
theorem z7n {X:Cx}(hu:X.A.units+1 < cLine):OpR X (compareOp .In) (rInD false):=by
 intro pins s σ H x y v u Q I rx ry h;obtain⟨a,rfl,h⟩:=h;cases ry;rcases h with ⟨z,g,q⟩ | ⟨g,q⟩
 ·exact d_in hu I g rx fun s' I'=>⟨.bl _,H,I',rfl,q⟩
 ·exact d_no (fun I g ry h=>d_in hu I g ry h) I g rx fun s' I'=>⟨.bl _,H,I',rfl,q⟩
theorem zuh {X:Cx}(hu:X.A.units+1 < cLine):OpR X (compareOp .NotIn) (rInD true):=by
 intro pins s σ H x y v u Q I rx ry h;obtain⟨a,rfl,h⟩:=h;cases ry;rcases h with ⟨z,g,q⟩ | ⟨g,q⟩
 ·exact zvz hu I g rx fun s' I'=>⟨.bl _,H,I',rfl,q⟩
 ·exact d_no (fun I g ry h=>zvz hu I g ry h) I g rx fun s' I'=>⟨.bl _,H,I',rfl,q⟩
noncomputable def oInD (neg:Bool):O2:=fun k a=>match a with
  | .dct ks ws=>(keyD k).bind fun d=>match valW (ks.zip ws) d with
    | some _=>some (.bl (!neg),false)
    | none=>if zcj d ks then some (.bl neg,false) else none
  | .dcz ks ws=>(keyD k).bind fun d=>match valW (ks.zip ws) d with
    | some _=>some (.bl (!neg),false)
    | none=>if zcj d ks && !ks.isEmpty then some (.bl neg,false) else none
  | a=>oIn neg k a
theorem zs0 {K:PySem.W.Frag} (neg:Bool):OpS K (fun x y H Q=>rIn K neg x y H Q\/rInD neg x y H Q) (oInD neg):=fun F H w1 w2 v1 v2 rv Q s r1 r2 e q=>by
  cases w2 with
  | dct ks ws =>
    obtain⟨d,hd,e⟩:=bS (show (keyD w1).bind _=_ from e);obtain⟨a,rfl,D⟩:=r2.dct s;split at e
    · rename_i w hw
      obtain rfl:=sI e;obtain⟨v,h1,h2⟩:=D.get s (r1.key hd) hw;exact .inr ⟨a,rfl,.inl ⟨v,h1,q _ _ (.val (.bl _))⟩⟩
    · rename_i hw
      split at e
      · rename_i hs
        obtain rfl:=sI e;exact .inr ⟨a,rfl,.inr ⟨D.no s (r1.key hd) hs hw,q _ _ (.val (.bl _))⟩⟩
      · exact noSome e
  | dcz ks ws =>
    obtain⟨d,hd,e⟩:=bS (show (keyD w1).bind _=_ from e);obtain⟨a,rfl,D⟩:=r2.dcz s;split at e
    · rename_i w hw
      obtain rfl:=sI e;obtain⟨v,h1,h2⟩:=D.get s (r1.key hd) hw;exact .inr ⟨a,rfl,.inl ⟨v,h1,q _ _ (.val (.bl _))⟩⟩
    · rename_i hw
      split at e
      · rename_i hs
        obtain rfl:=sI e;exact .inr ⟨a,rfl,.inr ⟨D.no s (r1.key hd) hs hw,q _ _ (.val (.bl _))⟩⟩
      · exact noSome e
  | _=>exact .inl (z41 neg F H w1 _ v1 v2 rv Q s r1 r2 e q)
section
variable {K:PySem.W.Frag}{F H:Hp}{pr:Prt}{en:En}{σ:St}
theorem Rel.letgo {pr' : Prt}(R:Rel K F pr' en σ H){p:Addr}{o:HO}(hg:pr' p o)(no:∀ps,o≠.tbl ps){w:W}{o' : HO}(h:OwnR K F w o')(hpr:∀b u,pr b u->pr' b u/\b≠p):Rel K F pr en σ (upd H p o')/\Res K F (upd H p o') pr en σ (w,true) (.ref p):=by
 obtain⟨g1,g2,g3⟩:=R.prt p o hg;have nt:∀b ps,H b=some (.tbl ps)->b≠p:=fun b ps e z=>by subst z;rw[g1] at e;exact no ps (sI e)
 have fn:∀b u,F b=some u->b≠p:=fun b u e z=>by subst z;rw[g2] at e;exact noSome e
 refine⟨⟨R.len,fun b u e=>by rw[upd_ne (fn b u e)];exact R.sub b u e,R.val,fun i w e=>?_,R.inj,fun q o2 hq=>?_,R.tb.go (fun b xs z=>(hpr b _ z).1) (fun b ps e f=>⟨by rw[upd_ne (nt b ps e)];exact e,f⟩) (.refl F) fun b ps e h o z=>h o (hpr b o z).1⟩,p,o',w,rfl,rfl,upd_same,g2,h,g3,fun b u hb=>(hpr b u hb).2⟩
 ·obtain⟨a, vs, ws, h1, h2, h3, h4, h5⟩ := R.own i w e;have ne:a≠p:=fun z=>by subst z;exact g3 i w e h2
  exact⟨a,vs,ws,h1,h2,by rw[upd_ne ne];exact h3,h4,h5⟩
 ·obtain⟨h0, ne⟩ := hpr q o2 hq;obtain⟨h1,h2,h3⟩:=R.prt q o2 h0;exact⟨by rw[upd_ne ne];exact h1,h2,h3⟩
end
noncomputable def z2q (k v:GE):GE:=fun en=>(k en).bind fun p=>(keyF p.2.1).bind fun d=>(v p.1).bind fun q=>some (q.1,(.dct [.inl d] [q.2.1],true))
theorem zuw {K:PySem.W.Frag}{k v:GE}{σ:St}{H:Hp}{Q:VK}(h:tE K (z2q k v) σ H Q):z5w [(tE K k,tE K v)] σ H Q:=by
 obtain⟨F,pr,en,en',r,R,h,q⟩:=h;obtain⟨⟨e1,r1⟩,h1,h⟩:=bS h;obtain⟨d,hd,h⟩:=bS h;obtain⟨⟨e2,r2⟩,h2,h⟩:=bS h;cases h;intro p hp;refine⟨F,_,en,e1,r1,R.guard hp (.dK []) (fun _ z=>nomatch z),h1,fun F1 H1 x s1 R1 y1=>?_⟩;obtain⟨F1',s1',R1',x1⟩:=y1.freeze R1;refine⟨F1',_,e1,e2,r2,R1',h2,fun F2 H2 y s2 R2 y2=>?_⟩;obtain⟨F3,s3,R3,x3⟩:=y2.freeze R2;have kx:x=kV d:=x1.keyF hd;subst kx;have g:(fun b u=>pr b u\/(b=p/\u=HO.dK [])) p (.dK []):=.inr ⟨rfl,rfl⟩;obtain⟨g1,g2,_⟩:=R3.prt p _ g;refine⟨g1,[(d,y)],rfl,(by decide:1<=15),?_⟩;obtain⟨R4,y4⟩:=R3.letgo (pr:=pr) (p:=p) (o:=.dK []) (w:=.dct [.inl d] [r2.1]) (o':=.dK (zcq [] [(d,y)])) g (fun _ z=>nomatch z) (.dct (ks:=[d]) (ws:=[r2.1]) (vs:=[y]) rfl (.cons x3 .nil)) fun b u hb=>⟨.inl hb,fun z=>by have:=(R.prt b u hb).1;rw[z,hp] at this;exact noSome this⟩;exact q F3 _ _ (s1.trans (s1'.trans (s2.trans s3))) R4 y4
noncomputable def z9o:CmpOp->Option Bool
 | .In=>some false
 | .NotIn=>some true
 | _=>none
noncomputable def cmpD (f:Sx->Expr->Option GE) (S:Sx) (a:Expr) (ops:List CmpOp) (cs:List Expr):Option GE:=match ops,cs with
 | [op],[b]=>(z9o op).bind fun n=>if zzg S b && zky b then (zbs f S a).bind fun x=>(zbs f S b).bind fun y=>some (gOp2 (oInD n) x y) else none
 | _,_=>none
noncomputable def cmpY (f:Sx->Expr->Option GE) (S:Sx) (a:Expr) (ops:List CmpOp) (cs:List Expr):Option GE:=match cmpD f S a ops cs with
 | some g=>some g
 | none=>cmpE f S a ops cs
section
variable {X:Cx}{S:Sx}{d:Nat}{f:Sx->Expr->Option GE}
theorem z1b (Hf:zbq f)(C:CxOk X S d){a:Expr}{ops:List CmpOp}{cs:List Expr}{g:GE}{pos:Pos}(h:cmpD f S a ops cs=some g):PE X (.Compare a ops cs pos) (tE X.K g)/\PT X (.Compare a ops cs pos) (tT X.K (zan g)):=by
 unfold cmpD at h;split at h
 ·rename_i op b;obtain⟨n,hn,h⟩:=bS h;split at h
  ·rename_i z;rw [Ac] at z;obtain ⟨x,hx,h⟩:=bS h;obtain ⟨y,hy,h⟩:=bS h;obtain rfl:=sI h;have h1:OpR X (compareOp op) (fun x y H Q=>rIn X.K n x y H Q\/rInD n x y H Q):=by
    cases op with
    | In=>obtain rfl:=sI hn;exact .or ztl (z7n (z2p C))
    | NotIn=>obtain rfl:=sI hn;exact .or zln (zuh (z2p C))
    | _=>exact noSome hn
   exact⟨(zsc h1 (zak Hf C hx) (zak Hf C hy) (zga z.2)).wk fun _ _ _=>zdz (zs0 n),(ztx h1 (zak Hf C hx) (zak Hf C hy) (zga z.2)).wk fun _ _ _=>zgo fun _ _ _=>zdz (zs0 n)⟩
  ·exact noSome h
 ·exact noSome h
theorem zti (Hf:zbq f)(C:CxOk X S d){a:Expr}{ops:List CmpOp}{cs:List Expr}{g:GE}{pos:Pos}(h:cmpY f S a ops cs=some g):PE X (.Compare a ops cs pos) (tE X.K g)/\PT X (.Compare a ops cs pos) (tT X.K (zan g)):=by
 unfold cmpY at h;split at h
 ·rename_i q;obtain rfl:=sI h;exact z1b Hf C q
 ·exact z3o Hf C h
noncomputable def zmd (fE:Sx->Expr->Option GE) (S:Sx):Expr->Option GE
 | .Dict [some k] [v] _=>if S.bn.contains ("dict" : Str) then (fE S k).bind fun a=>(fE S v).bind fun b=>some (z2q a b) else none
 | _=>none
theorem zqq (HE:zbq f)(C:CxOk X S d):zhv (zmd f S) X:=fun e g h=>by
 unfold zmd at h;split at h
 ·split at h
  ·obtain⟨a, ha, h⟩ := bS h;obtain⟨b,hb,h⟩:=bS h;obtain rfl:=sI h;exact (z31 (zxw (HE X S d C _ _ ha) (HE X S d C _ _ hb) z2m) rfl rfl (by intro z;cases z) (show 1<=15 by decide)).wk fun _ _ _=>zuw
  ·exact noSome h
 ·exact noSome h
end
section
variable {prog:Program}{w:World}{A:Around}{E:Value->Shared->Prop}{s:Shared}
theorem zeo:entryFor table "dict.update.loop" = some Builtin.«dict.update.loop»:=by kernel_rfl
theorem za4:plainId "dict.update.loop" = true:=by decide +kernel
variable {K:Type} [DecidableEq K]
noncomputable def dmF (kf:Nat->K) (vf:Nat->Value):Nat->Nat->List (K × Value)->List (K × Value)
 | _,0,kvs=>kvs
 | j,k+1,kvs=>dmF kf vf (j+1) k (stored kvs (kf j) (vf j))
theorem zja {a:Addr}{ps:Array Value}{o:Obj}{Q:List Value->Shared->Prop}(h:s.heap.get? a=some o)(hc:o.cls=.type "tuple")(hd:∃c,o.data=.seq ps c)(q:Q ps.toList s):wpAny (model prog w) A (Builtin.Dict.pairItems (.ref a)) Q E s:=by
 obtain⟨c,hd⟩:=hd;show wpAny _ A (typeOf (.ref a) >>= _) Q E s;refine Aa (wpAny_typeOf_ref h ?_);rw[hc];show wpAny _ A (seqItems? (.ref a) >>= _) Q E s;refine Aa (wpAny_seqItems h hd (Ai ?_));exact q
variable {I:Addr}{fp wr:List Addr}{n:Nat}{P:Nat->Value->Prop}{St:Nat->Heap->Prop}{R:Result->Shared->Prop}
noncomputable def zj2 (prog:Program) (w:World) {K:Type} [DecidableEq K] (knd:KeyKind prog w K) (h:Heap) (v:Value) (k:K) (x:Value) (wr:List Addr) (D:Addr):Prop:=∃a o c key,v=.ref a/\h.get? a=some o/\o.cls=.type "tuple"/\o.data=.seq #[key,x] c/\knd.is k key=true/\a ∉ wr/\a≠D
theorem zvp {knd:KeyKind prog w K} (W:Walks prog w A.in1 I fp wr n P St) (kf:Nat->K) (vf:Nat->Value) (D:Addr) (nD:D ∉ fp) :
    ∀(k j:Nat) (s:Shared) (kvs:List (K × Value)) (i:Int) (t:Tok),n=j+k->(∀i v,P i v->zj2 prog w knd s.heap v (kf i) (vf i) wr D)->St j s.heap->Heap.DictOf knd s.heap D kvs->kvs.length+k<=sizeLine ->
      (∀h' tk,(∀a o,a ∉ wr->a≠D->s.heap.get? a=some o->h'.get? a=some o)->Heap.DictOf knd h' D (dmF kf vf j k kvs)->R (.ok (.ret .none)) { s with heap:=h',toks:=tk })->codeAny (model prog w) A (.builtin "dict.update.loop" ⟨[.ref D,.ref I,.int i t,.none],[]⟩) R s:=by
  have nW:D ∉ wr:=fun h=>nD (W.sub _ h);intro k
  induction k with
  | zero =>
    intro j s kvs i t hn hP st hD hz hR;refine Dx zeo ?_;rw[Ed za4 _];show wpAny _ A.in1 (pyNext (.ref I) >>= _) _ _ s;have st' : St n s.heap:=by rw[hn];exact st
    refine Aa (W.done s _ _ st' fun h' tk k1=>?_);show wpAny _ A.in1 (Builtin.Dict.addKeywords D [] >>= _) _ _ _;refine Aa (wpAny_of_eq (show Builtin.Dict.addKeywords D []=pure () from rfl) (Ai ?_));obtain⟨o,es,ep,g1,g2⟩:=hD;exact hR h' tk (fun a o a1 _ e=>k1 a o a1 e) ⟨o,es,ep,k1 D o nW g1,g2⟩
  | succ k ih =>
    intro j s kvs i t hn hP st hD hz hR;refine Dx zeo ?_;rw [Ed za4 _];show wpAny _ A.in1 (pyNext (.ref I) >>= _) _ _ s;refine Aa (W.item j s _ _ (by omega) st fun v h1 tk p1 st1 k1=>?_);obtain ⟨a,o,c,key,rfl,ha,hc,hd,hk,aw,aD⟩:=hP j v p1;have ha1:=k1 a o aw ha;have hD1:Heap.DictOf knd h1 D kvs:=by
      obtain⟨o,es,ep,g1,g2⟩:=hD;exact⟨o,es,ep,k1 D o nW g1,g2⟩
    show wpAny _ A.in1 (holding [.ref a] (tryCatch (Builtin.Dict.pairItems (.ref a)) _ >>= _) >>= _) _ _ _;refine Aa (Co (Aa (wpAny_tryCatch (zja ha1 hc ⟨c,hd⟩ ?_))));show wpAny _ A.in1 (holding [key,vf j] (dictSet D key (vf j))) _ _ _;refine Co (wpAny_dictSet_pairs hk hD1 (fun h2 hD2 sb=>?_) #v[]);refine Ai ⟨Hb za4 _,ih (j+1) _ _ _ _ #v[] ?_ ?_ hD2 ?_ fun h' tk' k2 d2=>?_⟩
    · intro i v p
      obtain⟨a,o,c,key,rfl,ha,hc,hd,hk,aw,aD⟩:=hP i v p;exact⟨a,o,c,key,rfl,(sb.2 a aD).trans (k1 a o aw ha),hc,hd,hk,aw,aD⟩
    · exact W.frame _ _ _ st1 fun b hb o e=>(sb.2 b fun z=>nD (z ▸ hb)).trans e
    · have := PySem.stored_length_le kvs (kf j) (vf j)
      omega
    · refine hR h' tk' (fun b o b1 b2 e=>k2 b o b1 b2 ((sb.2 b b2).trans (k1 b o b1 e))) d2
end
section
variable {prog:Program}{w:World}{A:Around}{E:Value->Shared->Prop}{s:Shared}
theorem zyn (v:Value):bindSpecial (.builtin "list.__getattribute__") v=pure (.builtin "list.__getattribute__",[v]):=by
 have h:typeOf (.builtin "list.__getattribute__")=pure (.type "wrapper_descriptor"):=by kernel_rfl
 unfold bindSpecial;rw[h]
 rfl
theorem zvj:typeLookup (Value.type "list") (Str.ofString "keys")=pure none:=am_miss_of_fast #v[0,0,7]
theorem ze1 {l:Addr}{o:Obj}{xs:Array Value}{k:Nat}{Q:Option Value->Shared->Prop} (h:s.heap.get? l=some o) (hc:o.cls=.type "list") (hd:o.data=.seq xs k) (ho:o.dict=none) (hh:A.handled=none)
  (q:∀h' tk,(∀b ob,s.heap.get? b=some ob->h'.get? b=some ob)->Q none { s with heap:=h',toks:=tk }):wpAny (model prog w) A (getAttr? (.ref l) (Str.ofString "keys")) Q E s:=by
 obtain⟨oc,od,odt,osl⟩:=o;simp only at hc hd ho;subst hc hd ho;unfold getAttr?;refine Aa (wpAny_mkText ?_);unfold getAttrBy?;refine Aa (Gh ?_);unfold getAttrBy;refine Co (Aa (wpAny_typeOf_ref h ?_));rw[list_getattribute];refine Aa (Ai ?_);show wpAny _ A (getAttrByItsOwn (.ref l) _ (.type "list") (.builtin "list.__getattribute__") false false) _ _ _;unfold getAttrByItsOwn;show wpAny _ A (hookBefore (.type "list") >>= _) _ _ _;refine Aa (wpAny_of_eq (show hookBefore (.type "list")=pure none from rfl) ?_);refine Aa (Gh (Co ?_));show wpAny _ A (boundAndCalled (.builtin "list.__getattribute__") (.ref l) _) _ _ _;unfold boundAndCalled;rw[zyn];refine Aa (Ai ?_);show wpAny _ A (call (.builtin "list.__getattribute__") [.ref l,_]) _ _ _;refine call_meets PySem.F.slot_list_getattribute ⟨_,h,rfl⟩ am_entry_list_getattribute (PySem.F.args_list_getattribute_2 _ _) (meets_getattribute_miss_list l xs k osl (Str.ofString "keys") _ zvj #v[0,0,7]) ⟨h,hh,fun h' tk e ne=>?_⟩;show wpAny _ A (getattributeRaised (.ref l) _ (.type "list") (.ref e) none false false) _ _ _;obtain⟨t,u,he⟩:=ne.there;have ty:Shared.TypeIs { s with heap:=h',toks:=tk } (.ref e) "AttributeError" := ⟨_,he,rfl⟩;unfold getattributeRaised;refine Aa (wpAny_isInstance ty sub_AttributeError ?_);rw[if_pos rfl];show wpAny _ A (typeLookup (.type "list") (Str.ofString "__getattr__") >>= _) _ _ _;rw[am_list_getattr_none];refine Aa (Ai ?_);show wpAny _ A (throw (.ref e) >>= _) _ _ _;refine Aa (wpAny_throw ?_);show wpAny _ A (isInstance (.ref e) (.type "AttributeError") >>= _) _ _ _;refine Aa (wpAny_isInstance ty sub_AttributeError ?_);rw[if_pos rfl];exact Ai (q h' tk ne.keeps)
theorem zw4 {K:Type} [DecidableEq K] {knd:KeyKind prog w K}{d l:Addr}{o:Obj}{xs:Array Value}{k:Nat}{kvs:List (K × Value)}{Q:Value->Shared->Prop} (hl:s.heap.get? l=some o) (hc:o.cls=.type "list") (hd:o.data=.seq xs k) (ho:o.dict=none) (hL:s.heap.IsList l xs)
  (hD:Heap.DictOf knd s.heap d kvs) (ne:d≠l) (hh:A.handled=none) (kf:Nat->K) (vf:Nat->Value) (hP:∀i v,xs[i]?=some v->zj2 prog w knd s.heap v (kf i) (vf i) [] d) (hz:kvs.length+xs.size<=sizeLine)
  (q:∀h' tk,(∀a o,a≠d->s.heap.get? a=some o->h'.get? a=some o)->Heap.DictOf knd h' d (dmF kf vf 0 xs.size kvs)->Q .none { s with heap:=h',toks:=tk }):wpAny (model prog w) A (call (.builtin "dict.update") [.ref d,.ref l]) Q E s:=by
 obtain⟨od,es,ep,g1,g2,g3⟩:=hD;have td:s.TypeIs (.ref d) "dict" := ⟨od,g1,g2.1⟩;refine call_meetsIn (S:=fun A R s=>wpAny (model prog w) A.in1 (Builtin.«dict.update» ⟨[.ref d,.ref l],[]⟩) (fun fin s'=>match fin with
  | .done f=>R (.ok f) s'
  | .again c'=>c'.quiet=true/\codeAny (model prog w) A c' R s') (fun e s'=>R (.error e) s') s) PySem.F.slot_dict_update td PySem.F.entry_dict_update (PySem.F.args_dict_update_2 _ _) (fun A R s h=>h) ?_
 show wpAny _ A.in1 (Builtin.Dict.selfAndRest "update" ⟨[.ref d,.ref l],[]⟩ >>= _) _ _ s;unfold Builtin.Dict.selfAndRest;refine Aa (Aa (wpAny_notOrdered_dict td ?_));show wpAny _ A.in1 (pure d >>= _) _ _ _;refine Aa (Ai (Ai ?_));show wpAny _ A.in1 (Builtin.Dict.updateFrom "dict.update" d (.ref l) [] .none) _ _ _;unfold Builtin.Dict.updateFrom;refine Aa (wpAny_typeOf_ref hl ?_);rw[hc];show wpAny _ A.in1 (getAttr? (.ref l) (Str.ofString "keys") >>= _) _ _ _;refine Aa (ze1 hl hc hd ho hh fun h1 tk k1=>?_);show wpAny _ A.in1 (rule _ >>= _) _ _ _;refine Aa (Eo ?_);have hL1:h1.IsList l xs:=by
  obtain⟨o',a1,a2⟩:=hL;exact⟨o',k1 l o' a1,a2⟩
 refine Aa (Dy hL1 (Ai ⟨Hb za4 _,?_⟩));have lh:l < h1.objs.size:=Ao (k1 l o hl);have dh:d < h1.objs.size:=Ao (k1 d od g1);refine zvp (knd:=knd) (Walks.list (A:=A.in1) hh h1.objs.size l (At lh) xs) kf vf d (fun m=>?_) xs.size 0 _ kvs 0 0 #v[] (fun i v p=>?_) ⟨⟨_,As _ rfl,rfl,rfl⟩,hL1.push _⟩ ⟨od,es,ep,Af _ (k1 d od g1),g2,g3⟩ hz fun h' tk' k2 d2=>?_
 ·rcases Ax.mp m with z | z
  ·exact At dh z
  ·exact ne (Aj.mp z)
 ·obtain⟨a, ob, c, key, rfl, ha, x1, x2, x3, _, x5⟩ := hP i v p;have ah:a < h1.objs.size:=Ao (k1 a ob ha);exact⟨a,ob,c,key,rfl,Af _ (k1 a ob ha),x1,x2,x3,fun m=>At ah (Aj.mp m),x5⟩
 ·refine q h' tk' (fun a ob na e => ?_) d2;have ah:a < h1.objs.size:=Ao (k1 a ob e);exact k2 a ob (fun m=>At ah (Aj.mp m)) na (Af _ (k1 a ob e))
end
section
variable {X:Cx}{pins:List (Addr × Obj)}{σ:St}{H:Hp}{s:Shared}{A:Around}{E:Value->Shared->Prop}
noncomputable def PV (H:Hp):List V->List (Key × V)->Prop:=Paired fun v p=>∃b,v=V.ref b/\Rd H b (.tup [kV p.1,p.2])
theorem zsb {K:Type} [DecidableEq K] {kf:Nat->K}{vf:Nat->Value}:∀(rs:List (K × Value)) (j:Nat) (kvs:List (K × Value)),(∀i p,rs[i]?=some p->kf (j+i)=p.1/\vf (j+i)=p.2)->dmF kf vf j rs.length kvs=merged kvs rs
  | [],_,_,_=>rfl
  | p::rs,j,kvs,h=>by
    obtain ⟨e1,e2⟩:=h 0 p rfl;show dmF kf vf (j+1) rs.length (stored kvs (kf (j+0)) (vf (j+0)))=_;rw [e1,e2,zsb rs (j+1) _ fun i q hq=>by
      have:=h (i+1) q hq
      rwa [show j+(i+1)=j+1+i by omega] at this]
    rfl
theorem z4k (I:Inv X pins σ H s) {d:Addr}{kvs:List (Key × V)} (e:H d=some (.dK kvs)):∀{vs:List V}{more:List (Key × V)}{its:List Value},PV H vs more->Vals vs its->∃rs:List (Key × Value),KV more rs/\rs.length=its.length/\∀(i:Nat) (v:Value),its[i]?=some v->∃p,rs[i]?=some p/\zj2 X.prog X.w (zag X.prog X.w) s.heap v p.1 p.2 [] d
  | _,_,_,.nil,.nil=>⟨[],.nil,rfl,fun i v h=>by simp at h⟩
  | _,_,_,.cons (b:=p) ⟨b,ev,hb⟩ pv,.cons (b:=u) ru vs=>by
    obtain⟨rs,r1,r2,r3⟩:=z4k I e pv vs;subst ev;obtain rfl:u=Value.ref b:=ru;obtain⟨its,r,⟨o,ho,hc,n,hd⟩,hz⟩:=I.tuple (show SqT X.K H b _ from .inl hb);cases r with
    | cons rk r =>
      cases r with
      | cons rx r =>
        cases r;rename_i uk ux;refine⟨(p.1,ux)::rs,.cons ⟨rfl,rx⟩ r1,by rw[Bb,Bb,r2],fun i v hv=>?_⟩;cases i with
        | zero =>
          obtain rfl:=sI hv;refine⟨_,rfl,b,o,n,uk,rfl,ho,hc,hd,zlt rk,Dc,fun z=>?_⟩;subst z;rcases hb with z | ⟨o,z⟩<;>rw[e] at z<;>cases z
        | succ i=>exact r3 i v hv
theorem zog {d l:Addr}{kvs more:List (Key × V)}{vs:List V}{Q:Value->Shared->Prop} (hh:A.handled=none) (I:Inv X pins σ H s) (e:H d=some (.dK kvs)) (el:H l=some (.lst vs)) (pv:PV H vs more) (hz:kvs.length+more.length<=sizeLine)
  (h:∀s',Inv X pins σ (upd H d (.dK (zcq kvs more))) s'->Q .none s'):wpAny (model X.prog X.w) A (call (.builtin "dict.update") [.ref d,.ref l]) Q E s:=by
 obtain⟨its,r,⟨o,n,ho,hc,hd0,hd⟩,_⟩:=I.list (SqL.of' el);obtain⟨rs,r1,r2,r3⟩:=z4k I e pv r;obtain⟨z,hs,kv,rel,dd⟩:=zqo I.hok e;have ne:d≠l:=fun z=>by subst z;rw[e] at el;cases el
 have lr:more.length=rs.length:=r1.length;have lk:kvs.length=kv.length:=rel.length;have get:∀i p,rs[i]?=some p->(rs.getD (0+i) (Sum.inl 0,.none)).1=p.1/\(rs.getD (0+i) (Sum.inl 0,.none)).2=p.2:=fun i p hp=>by
  rw[Cj,Bw,hp];exact⟨rfl,rfl⟩
 refine zw4 (knd:=zag X.prog X.w) (xs:=its.toArray) ho hc hd hd0 ⟨o,ho,hc,n,hd⟩ dd ne hh (fun i=>(rs.getD i (Sum.inl 0,.none)).1) (fun i=>(rs.getD i (Sum.inl 0,.none)).2) (fun i v hv=>?_) (by simp only [Al];omega) fun h' tk k1 d1=>h _ ?_
 ·have hv : its[i]? = some v := by simpa using hv
  obtain⟨p,hp,q⟩:=r3 i v hv;obtain⟨e1,e2⟩:=get i p hp;rw[Cj] at e1 e2;rw[e1,e2];exact q
 ·have sz : its.toArray.size = rs.length := by simp only [Al]; exact r2.symm
  rw[sz,zsb rs 0 kv get] at d1;have he:∃q,h'.get? d=some q:=let ⟨q,_,_,hq,_⟩:=d1;⟨q,hq⟩;exact I.write (x:=d) (e:=d) (by rw[e];exact True.intro) (.inl rfl) k1 he (zp3 (by have:=zbt more kvs;omega) hs (r1.merge rel) d1)
end
noncomputable def rUpd:V->List V->Hp->VK->Prop:=fun x us H Q=>∃d l kvs vs more,x=.ref d/\us=[.ref l]/\(H d=some (.dK kvs)\/(kvs=[]/\H d=some (.dT [])))/\H l=some (.lst vs)/\PV H vs more/\kvs.length+more.length<=sizeLine/\Q .non (upd H d (.dK (zcq kvs more)))
theorem z6p {X:Cx}(hc:X.calm=true):MtR X "dict.update" rUpd:=by
 intro pins s σ H x xs v us Q I rx rs h;obtain⟨d,l,kvs,vs,more,rfl,rfl,e,el,pv,hz,q⟩:=h;obtain⟨u,rfl,ru⟩:=vals1 rs;cases rx;cases ru;rcases e with e | ⟨rfl,e⟩
 ·exact zog (I.ok.hd hc) I e el pv hz fun s' I'=>⟨.non,_,I',rfl,q⟩
 ·have nl : l ≠ d := fun z => by subst z; rw[e] at el; cases el
  refine zog (I.ok.hd hc) (reK I e) upd_same (by rw[upd_ne nl];exact el) (Paired.mapP pv fun v p ⟨b,h1,h2⟩=>⟨b,h1,?_⟩) hz fun s' I'=>⟨.non,_,I',rfl,?_⟩
  ·have nb : b ≠ d := fun z => by subst z; rcases h2 with z | ⟨o, z⟩ <;> rw[e] at z <;> cases z
   unfold Rd;rw[upd_ne nb];exact h2
  ·rw[zjt];exact q
noncomputable def zu7:W->Option (Key × W)
 | .tup [k,v]=>(keyF k).bind fun d=>some (d,v)
 | _=>none
noncomputable def ze0:List W->Option (List (Key × W))
 | []=>some []
 | w::ws=>(zu7 w).bind fun p=>(ze0 ws).bind fun ps=>some (p::ps)
noncomputable def updW:List (Key × W)->List DKey->List W->List DKey × List W
 | [],ks,ws=>(ks,ws)
 | p::ps,ks,ws=>updW ps (zeh ks (.inl p.1)) (zeb ks ws (.inl p.1) p.2)
noncomputable def zq2 (i:Nat) (g:GE):GE:=fun en=>match en[i]? with
  | some (some (.dct _ _,true))=>(g en).bind fun p=>match p.2 with
    | (.lst us,true)=>(ze0 us).bind fun ps=>match p.1[i]? with
      | some (some (.dct ks ws,true))=>if (ks.all fun k=>k.isLeft) && decide (ks.length+ps.length<=sizeLine) then some (p.1.set i (some (.dct (updW ps ks ws).1 (updW ps ks ws).2,true)),(.non,false)) else none
      | _=>none
    | _=>none
  | _=>none
section
variable {K:PySem.W.Frag}{F H:Hp}
theorem zi9 (s:Same F H):∀{us:List W}{ps:List (Key × W)}{vs:List V},ze0 us=some ps->Reps K F us vs->∃more:List (Key × V),PV H vs more/\Paired (fun (p:Key × W) (q:Key × V)=>p.1=q.1/\Rep K F p.2 q.2) ps more
  | [],_,_,e,.nil=>by obtain rfl:=sI e;exact⟨[],.nil,.nil⟩
  | w::us,_,_,e,.cons r rs=>by
    obtain⟨p,hp,e⟩:=bS (show (zu7 w).bind _=_ from e);obtain⟨ps,hps,e⟩:=bS e;obtain rfl:=sI e;obtain⟨more,h1,h2⟩:=zi9 s hps rs;unfold zu7 at hp;split at hp
    · rename_i k v
      obtain⟨d,hd,hp⟩:=bS hp;obtain rfl:=sI hp;cases r with
      | tup h rr =>
        cases rr with
        | cons rk rr =>
          cases rr with
          | cons rx rr =>
            cases rr;have kx:=rk.keyF hd;subst kx;exact⟨(d,_)::more,.cons ⟨_,rfl,.inl (s _ _ h)⟩ h1,.cons ⟨rfl,rx⟩ h2⟩
    · exact noSome hp
theorem zi4:∀{ps:List (Key × W)}{more:List (Key × V)}{js:List Key}{vs:List V}{ws:List W},Paired (fun (p:Key × W) (q:Key × V)=>p.1=q.1/\Rep K F p.2 q.2) ps more->js.length=vs.length->Reps K F ws vs->OwnR K F (.dct (updW ps (js.map .inl) ws).1 (updW ps (js.map .inl) ws).2) (.dK (zcq (js.zip vs) more))
  | _,_,_,_,_,.nil,hl,r=>.dct hl r
  | p::ps,q::more,js,vs,ws,.cons ⟨e,rx⟩ h,hl,r=>by
    show OwnR K F (.dct (updW ps (zeh (js.map (Sum.inl:Key->DKey)) (.inl p.1)) (zeb (js.map (Sum.inl:Key->DKey)) ws (.inl p.1) p.2)).1 (updW ps (zeh (js.map (Sum.inl:Key->DKey)) (.inl p.1)) (zeb (js.map (Sum.inl:Key->DKey)) ws (.inl p.1) p.2)).2) (.dK (zcq (putK (js.zip vs) q.1 q.2) more));rw[zg2 zdf,zi7 hl,<-e];exact zi4 h (zn8 hl _ _) (zfg zdf rx r)
theorem ztk {σ:St}{i:Nat}{g:GE}{Q:VK} (h:tE K (zq2 i g) σ H Q):tBM K "dict" rUpd (tVar i) (zhn (tE K g) tNil) σ H Q:=by
  obtain⟨F,pr,en,en',r,R,h,q⟩:=h;unfold zq2 at h;split at h
  · rename_i ks0 ws0 hx0
    obtain⟨a,ha,D0⟩:=R.repD hx0;obtain⟨⟨e1,r1⟩,h1,h⟩:=bS h;refine⟨.ref a,ha,.inr (.inr (.inl ⟨rfl,?_⟩)),F,pr,en,e1,r1,R,h1,fun F1 H1 v1 s1 R1 y1=>?_⟩
    · rcases D0 with ⟨js, vs, _, hH, _⟩ | ⟨js, vs, _, hH, _⟩
      · exact .inl ⟨_,hH⟩
      · exact .inr ⟨_,hH⟩
    · split at h
      · rename_i us er
        obtain⟨ps,hps,h⟩:=bS h;have er:r1=(.lst us,true):=er;subst er;split at h
        · rename_i ks ws hx1
          split at h
          · rename_i z
            rw[Ac] at z;have z2:=An z.2;cases h;obtain⟨l,o,w',ew,ev,hl,fl,ow,_⟩:=y1;subst ew ev;obtain⟨vs,rfl,rv⟩:=ow.list;obtain⟨a',ha',D⟩:=R1.repD hx1;rw[ha] at ha';cases ha';obtain⟨more,pv,pm⟩:=zi9 R1.sub hps rv;rcases D with ⟨js,vs',rfl,hH,hl',r⟩ | ⟨js,vs',rfl,hH,hl',r⟩
            · refine ⟨a, l, _, vs, more, rfl, rfl, .inl hH, hl, pv, ?_, ?_⟩
              · have := Gi pm
                rw[List.length_zip,<-hl',Gf];rw[Ad] at z2;omega
              · exact q F1 _ _ s1 (R1.changeO hx1 ha (zi4 pm hl' r)) .non
            · cases js with
              | nil =>
                have hv:vs'=[]:=Df.mp hl'.symm;subst hv;refine⟨a,l,[],vs,more,rfl,rfl,.inr ⟨rfl,hH⟩,hl,pv,?_,q F1 _ _ s1 (R1.changeO hx1 ha (zi4 (js:=[]) (vs:=[]) pm rfl r)) .non⟩;have:=Gi pm;rw[List.map_nil,Dh] at z2;show 0+_<=_;omega
              | cons j js=>have z1:=z.1;rw[Ak,Bf,Ac] at z1;exact nomatch z1.1
          · exact noSome h
        · exact noSome h
      · exact noSome h
  · exact noSome h
end
section
variable {X:Cx}{S:Sx}{d:Nat}{fE:Sx->Expr->Option GE}
noncomputable def zl9 (fE:Sx->Expr->Option GE) (S:Sx):Expr->Option GE
 | .Call (.Attribute (.Name x _) name apos) [e] [] cpos=>if name == ("update" : Str) && (apos.endLine == cpos.line) && zai e then (S.rd x).bind fun i=>(fE S e).bind fun g=>some (zq2 i g) else none
 | _=>none
theorem zqr (HE:zbq fE)(C:CxOk X S d):zhv (zl9 fE S) X:=fun e g h=>by
 unfold zl9 at h;split at h
 ·split at h
  ·rename_i z;rw[Ac,Ac] at z;obtain⟨⟨z1,z2⟩,y⟩:=z;have e1:=Cb z1;subst e1;obtain⟨i,hi,h⟩:=bS h;obtain⟨g1,hg1,h⟩:=bS h;obtain rfl:=sI h;exact (z4s PySem.F.plainAttrs_dict PySem.F.slot_dict_update PySem.F.type_dict_update (z6p C.calm) (zjc C hi) (pac (HE X S d C _ _ hg1) zfx y) (zmr rfl) (zsw y) z2 (zal y) rfl).wk fun _ _ _=>ztk
  ·exact noSome h
 ·exact noSome h
end
theorem zfo {prog:Program}{w:World}{A:Around}{E:Value->Shared->Prop}{s:Shared}{Q:List Value->Shared->Prop}{T:String}{r d:Addr}{n:Nat}{P:Nat->Value->Prop}{OK:Heap->Prop} (C:PySem.W.KdlSrc prog w T r d n P OK) (hh:A.handled=none) (da:OK s.heap) (hz:n<=sizeLine)
    (hQ:∀(h' : Heap) (tk:Nat) (acc:Array Value),(∀b o,s.heap.get? b=some o->h'.get? b=some o)->ItemsOf P acc n->Q acc.toList { s with heap:=h',toks:=tk }) :
    wpAny (model prog w) A (collect (.ref r)) Q E s:=by
  obtain ⟨lr,lt⟩:=C.there _ da;unfold collect;refine Aa (wpAny_runValue (Dx PySem.F.entry_proto_collect ?_));rw [Ed PySem.F.plain_proto_collect _];show wpAny _ A.in1 (newList [] >>= fun l=>again (.builtin "list.__iadd__" ⟨[l,.ref r],[]⟩)) _ _ s;refine Aa (Cd ?_);refine Ai ⟨Hb Fc _,Dx PySem.F.entry_list_iadd ?_⟩;rw [Ed Fc _];show wpAny _ A.in1 (Builtin.List.listExtendWith (.ref s.heap.objs.size) (.ref r) (.ref s.heap.objs.size)) _ _ _;have hS:(s.heap.push { cls:=.type "list",data:=.seq ([]:List Value).toArray }).get? s.heap.objs.size=some { cls:=.type "list",data:=.seq #[] 0 }:=As _ rfl;refine Dr (PySem.W.kdl_extend (A:=A) (R:=fun res s'=>∃(h' : Heap) (tk:Nat) (acc:Array Value) (c' : Nat),res=.ok (.ret (.ref s.heap.objs.size))/\s'={ s with heap:=h',toks:=tk }/\(∀b o,s.heap.get? b=some o->h'.get? b=some o)/\h'.get? s.heap.objs.size=some { cls:=.type "list",dict:=none,data:=.seq acc c',slots:=#[] }/\ItemsOf P acc n)
    (s:={ s with heap:=s.heap.push { cls:=.type "list",data:=.seq ([]:List Value).toArray } }) C hh (C.keep _ _ da fun b _ o e=>Af _ e) s.heap.objs.size (Ge lr) (Ge lt) (.ref s.heap.objs.size) 0 hS (fun h' tk acc c' hk hS' hacc=>⟨h',tk,acc,c',rfl,rfl,fun b o e=>hk b o (At (Ao e)) (Af _ e),hS',hacc⟩) hz) (fun fin s' h=>?_) (fun e s' h=>?_)
  · have fin' : ∀s',(∃(h' : Heap) (tk:Nat) (acc:Array Value) (c' : Nat),s'={ s with heap:=h',toks:=tk }/\(∀b o,s.heap.get? b=some o->h'.get? b=some o)/\h'.get? s.heap.objs.size=some { cls:=.type "list",dict:=none,data:=.seq acc c',slots:=#[] }/\ItemsOf P acc n)->wpAny (model prog w) A (match Value.ref s.heap.objs.size with
      | Value.ref a=>do
        match (<- load a).data with
          | Data.seq xs _=>pure xs.toList
          | _=>unsupported "internal:collect"
      | _=>unsupported "internal:collect") Q E s':=by
      rintro s' ⟨h',tk,acc,c',rfl,k1,k2,k3⟩;show wpAny _ A (load s.heap.objs.size >>= _) _ _ _;refine Aa (wpAny_load k2 ?_);exact Ai (hQ h' tk acc k1 k3)
    cases fin with
    | done f =>
      obtain⟨h',tk,acc,c',e,r⟩:=h;cases e;exact fin' s' ⟨h',tk,acc,c',r⟩
    | again c'=>exact⟨h.1,codeAny_mono h.2 fun r s'' hr=>by obtain⟨h',tk,acc,c',rfl,q⟩:=hr;exact fin' s'' ⟨h',tk,acc,c',q⟩⟩
  · obtain ⟨h', tk, acc, c', e, r⟩ := h
    cases e
section
variable {X:Cx}{pins:List (Addr × Obj)}{σ:St}{H:Hp}
theorem zuo:∀{kvs:List (Key × V)}{kv:List (Key × Value)},KV kvs kv->Vals (kvs.map (·.2)) (kv.map (·.2))
 | _,_,.nil=>.nil
 | _,_,.cons h r=>.cons h.2 (zuo r)
theorem ztq {s:Shared}{d r:Addr}{kvs:List (Key × V)}{kv:List (Key × Value)}{ep:Nat}{ns:List Int}{Q:Value->Shared->Prop}{E:Value->Shared->Prop} (hc:X.calm=true) (I:Inv X pins σ H s) (hv:s.heap.IsValuesView r d) (da:s.heap.DictAt (zag X.prog X.w) d kv ep) (rel:KV kvs kv) (zk:kv.length<=sizeLine) (ek:(kvs.map (·.2))=ns.map V.int) (q:∀p s',H p=none->Inv X pins σ (upd H p (.lst ((zbg ns).map V.int))) s'->Q (.ref p) s') :
  wpAny (model X.prog X.w) X.A (call (.builtin "sorted") [.ref r]) Q E s:=by
 refine call_function_entry_kw kind_sorted plain_sorted entry_sorted (args_sorted1 _) ?_;unfold Builtin.«sorted»;refine Aa (m:=checkCount "sorted" 1 1 _) (Ai ?_);refine Aa (zfo (PySem.W.kdl_values (knd:=zag X.prog X.w) (kvs:=kv) (ep:=ep)) (I.ok.hd hc) ⟨hv,da⟩ zk fun h1 tk acc kp1 it=>?_);obtain⟨l1,l2⟩:=zdr it;have rv:Vals (ns.map V.int) acc.toList:=by
  rw[<-ek,PySem.W.kdl_vals_eq acc.toList l1 l2];exact zuo rel
 generalize acc.toList=vs at l1 rv ⊢;have lv:ns.length=vs.length:=by have:=rv.length;rw[Ad] at this;exact this
 have hz' : vs.length<=sizeLine:=by rw[l1];exact zk
 have ia:IntsAre vs ns:=zgw rv;have I1:Inv X pins σ H { s with heap:=h1,toks:=tk }:=I.kept kp1;refine Aa (Ha ?_ hz');have hoL:(h1.push (seqObj "list" vs.toArray 0)).get? h1.objs.size=some (seqObj "list" vs.toArray 0):=As _ rfl;have keep:∀b o,h1.get? b=some o->(h1.push (seqObj "list" vs.toArray 0)).get? b=some o:=fun b o q=>Af _ q;show wpAny _ _ _ _ _ { s with heap:=h1.push (seqObj "list" vs.toArray 0),toks:=tk };generalize h1.push (seqObj "list" vs.toArray 0)=h3 at hoL keep ⊢;obtain⟨a,ea⟩ : ∃a,a=h1.objs.size:=⟨_,rfl⟩;show wpAny _ _ (holding [.ref h1.objs.size] _ >>= _) _ _ _;rw[<-ea] at hoL ⊢;refine Aa (Co (wpAny_call_entry_kw slot_list_sort ⟨_,hoL,rfl⟩ entry_list_sort ?body (args_list_sort _)))
 case body =>
  refine zgk (s:={ s with heap:=h3,toks:=tk }) hoL ia hz' fun r h' c pm pw ga kp=>⟨_,rfl,?_⟩;have al:∀x∈r,x.2=x.1/\∃n t,x.1=Value.int n t:=fun x hx=>by
   obtain⟨e1,e2⟩:=zjf (pm.mem_iff.mp hx);obtain⟨i,hi,e⟩:=Cw.mp e2;obtain⟨t,ht⟩:=ia.get i ns[i] (Ab #v[]);rw[Ab hi,e] at ht;exact⟨e1,_,t,sI ht⟩
  have pi:(r.map fun x=>(kN x.1).headD 0).Perm ns:=by
   refine (pm.map _).trans ?_;have:∀{vs:List Value}{ns:List Int},IntsAre vs ns->(vs.zip vs).map (fun x=>(kN x.1).headD 0)=ns:=fun {vs ns} h=>by
    induction h with
    | nil=>rfl
    | cons n t h ih=>rw[Bm,Ak,ih];rfl
   rw[this ia]
  have ps:(r.map fun x=>(kN x.1).headD 0).Pairwise (·<=·):=by
   rw[By];refine pw.imp_of_mem fun {x y} hx hy z=>?_;obtain⟨_,n,t,e1⟩:=al x hx;obtain⟨_,m,t',e2⟩:=al y hy;rw[e1,e2] at z ⊢;have z:lexI [m] [n]=false:=z;rw[zf9] at z;have:=Ee z;show n<=m;omega
  have eo:=zeq pi ps;have rv':=zeu al;rw[<-eo] at rv';refine Ai ⟨_,rfl,q a _ (I1.hok.fresh (Nat.le_of_eq ea.symm)) (I1.laid (t':=tk) (o:=.lst ((zbg ns).map V.int)) (fun b o eb=>kp b o (fun z=>Bx _ (by have:=Ao eb;rw[z,ea] at this;exact this)) (keep b o eb)) (Nat.le_of_eq ea.symm) ?_)⟩;exact⟨by rw[eo,Ad,pi.length_eq];omega,_,c,rv',ga⟩
end
noncomputable def tSV (to:TE):TE:=fun σ H Q=>to σ H fun x H1=>∃a kvs ns,x=.ref a/\(H1 a=some (.dK kvs)\/(H1 a=some (.dT [])/\kvs=[]))/\(kvs.map (·.2))=ns.map V.int/\∀p,H1 p=none->Q (.ref p) (upd H1 p (.lst ((zbg ns).map V.int)))
section
variable {X:Cx}
theorem z9g {o:Expr}{to:TE}{p apos cpos pos:Pos}(hc:X.calm=true)(gl:Gl X "sorted")(ml:X.mg "sorted" = none)(ho:PE X o to)(hb:attributeBase o "values" X.env (eval o X.env)=eval o X.env)(hl:(apos.endLine == cpos.line)=true):PE X (.Call (.Name "sorted" p) [.Call (.Attribute o "values" apos) [] [] cpos] [] pos) (tSV to):=by
 intro pins s σ H Q I h;refine Gu (zhz I gl ml Gr ?_ #v[0,9] #v[0,9]);refine PyProof.Rows.callWith_builtin1 (Calls.spliced_cons ?_) rfl rfl;refine wpAny_Call_method0_late hb hl (thn (ho pins s σ H _ I h) fun v s1 ⟨x,H1,I1,r1,a,kvs,ns,ex,hH,ek,q⟩=>?_);subst ex;obtain rfl:v=Value.ref a:=r1;have go:∀{H2:Hp},Inv X pins σ H2 s1->H2 a=some (.dK kvs)->(∀p s',H2 p=none->Inv X pins σ (upd H2 p (.lst ((zbg ns).map V.int))) s'->EP X pins σ Q (.ref p) s')->MethodOn X.prog X.w X.A "values" cpos (.ref a) [] (fun v s₁=>wpAny (model X.prog X.w) X.A (spliced []) (fun vs s₂=>wpAny (model X.prog X.w) X.A (call (.builtin "sorted") (v::vs)) (EP X pins σ Q) X.xe s₂) X.xe s₁) X.xe s1:=fun {H2} I2 e q2=>by
  obtain⟨z,hd,kv,rel,dd⟩:=zqo I2.hok e;obtain⟨ep,da⟩:=dd.dictAt;obtain⟨t1,t2,_⟩:=z5k I2 (.inl ⟨kvs,.inl e⟩);refine⟨"dict","dict.values",PySem.F.plainAttrs_dict,PySem.F.slot_dict_values,PySem.F.type_dict_values,t1,t2,Calls.callWith_builtin rfl (PySem.evalArgs_none ?_)⟩;refine call_meetsIn PySem.F.slot_dict_values t1 PySem.F.entry_dict_values (PySem.F.args_dict_values_1 _) (meets_dict_values (zag X.prog X.w) a hd) ⟨⟨kv,dd⟩,?_⟩;show wpAny _ _ (spliced []) _ _ _;refine Calls.spliced_nil ?_;exact ztq hc (I2.kept (t':=s1.toks) fun b o e=>Af _ e) ⟨_,As _ rfl,rfl,rfl⟩ (da.push _) rel (by rw[<-rel.length];exact z) ek q2
 rcases hH with e | ⟨e,rfl⟩
 ·exact go I1 e fun p s' hp I'=>⟨.ref p,_,I',rfl,q p hp⟩
 ·refine go (reK I1 e) upd_same fun l s' hl I' => ?_;have ne:l≠a:=fun z=>by subst z;rw[upd_same] at hl;exact nomatch hl
  rw[upd_ne ne] at hl;have I2:=reT (a:=a) I' (by rw[upd_ne (Ne.symm ne),upd_same]);rw[zpf ne,zd1 e] at I2;exact⟨.ref l,_,I2,rfl,q l hl⟩
noncomputable def zlx (i:Nat):GE:=fun en=>match en[i]? with
 | some (some (.dct ks ws,_))=>(zbp ws).bind fun ns=>if ks.all fun k=>k.isLeft then some (en,(.lst ((zbg ns).map W.int),true)) else none
 | _=>none
theorem zrh {K:PySem.W.Frag}{i:Nat}{σ:St}{H:Hp}{Q:VK} (h:tE K (zlx i) σ H Q):tSV (tVar i) σ H Q:=by
  obtain⟨F,pr,en,en',r,R,h,q⟩:=h;unfold zlx at h;split at h
  · rename_i ks ws f hx
    obtain⟨ns,hn,h⟩:=bS h;split at h
    · rename_i z
      cases h;obtain ⟨a,ha,D⟩:=R.repD hx;have fin:∀p,H p=none->Q (.ref p) (upd H p (.lst ((zbg ns).map V.int))):=fun p hp=>by
        obtain⟨F9,s9,R9,y9⟩:=(Out.lst (K:=K) (F:=F) (H:=H) (p:=p) hp (zdn (zbg ns))).close R;exact q F9 _ _ s9 R9 y9
      rw[zco hn] at D;rcases D with ⟨js,vs,rfl,hH,hl,r⟩ | ⟨js,vs,rfl,hH,hl,r⟩
      · refine ⟨.ref a, ha, a, _, ns, rfl, .inl hH, ?_, fin⟩
        rw[r.ints];rw[r.ints] at hl;exact List.map_snd_zip #v[]
      · cases js with
        | cons j js=>rw[Ak,Bf,Ac] at z;exact nomatch z.1
        | nil =>
          have hv:vs=[]:=Df.mp hl.symm;subst hv;have en:ns=[]:=by
            have:=r.length;rw[Ad] at this;exact Df.mp this
          subst en;exact⟨.ref a,ha,a,[],[],rfl,.inr ⟨hH,rfl⟩,rfl,fin⟩
    · exact noSome h
  · exact noSome h
variable {S:Sx}{d:Nat}{fE:Sx->Expr->Option GE}
noncomputable def zij (fE:Sx->Expr->Option GE) (S:Sx):Expr->Option GE
 | .Call (.Name x _) [.Call (.Attribute (.Name y _) name apos) [] [] cpos] [] _=>if x == ("sorted" : Str) && S.bl x && name == ("values" : Str) && (apos.endLine == cpos.line) then (S.rd y).bind fun i=>some (zlx i) else none
 | _=>none
theorem zm6 (HE:zbq fE)(C:CxOk X S d):zhv (zij fE S) X:=fun e g h=>by
 unfold zij at h;split at h
 ·split at h
  ·rename_i z;simp only [Ac] at z;obtain⟨⟨⟨z1,z2⟩,z3⟩,z4⟩:=z;have e1:=Cb z1;have e2:=Cb z3;subst e1 e2;obtain⟨i,hi,h⟩:=bS h;obtain rfl:=sI h;obtain⟨gl,m⟩:=zhm C z2;exact (z9g C.calm gl m (zjc C hi) (zmr rfl) z4).wk fun _ _ _=>zrh
  ·exact noSome h
 ·exact noSome h
end
section
variable {prog:Program}{w:World}{A:Around}{E:Value->Shared->Prop}{s:Shared}
theorem zts {K:Type} [DecidableEq K] {knd:KeyKind prog w K}{l:Addr}{o:Obj}{xs:Array Value}{k:Nat}{Q:Value->Shared->Prop} (hl:s.heap.get? l=some o) (hc:o.cls=.type "list") (hd:o.data=.seq xs k) (ho:o.dict=none) (hL:s.heap.IsList l xs)
  (hh:A.handled=none) (kf:Nat->K) (vf:Nat->Value) (hP:∀i v,xs[i]?=some v->∃a,v=.ref a/\a < s.heap.objs.size/\zj2 prog w knd s.heap v (kf i) (vf i) [] s.heap.objs.size) (hz:xs.size<=sizeLine)
  (q:∀h' tk,(∀a o,s.heap.get? a=some o->h'.get? a=some o)->Heap.DictOf knd h' s.heap.objs.size (dmF kf vf 0 xs.size [])->Q (.ref s.heap.objs.size) { s with heap:=h',toks:=tk }):wpAny (model prog w) A (call (.type "dict") [.ref l]) Q E s:=by
 have lt0:l < s.heap.objs.size:=Ao hl;refine callType_codes (Q₁:=fun obj s₁=>obj=.ref s.heap.objs.size/\s₁={ s with heap:=s.heap.push { cls:=.type "dict",data:=.dict #[] } }) PySem.F.kt_called_dict (PySem.F.kt_typeCall_dict_1 _) PySem.F.entry_dict_init (kt_code_dict_new _ ⟨rfl,rfl⟩) fun obj s₁ ⟨e1,e2⟩=>?_;subst e1 e2;have g0:(s.heap.push { cls:=.type "dict",data:=.dict #[] }).get? s.heap.objs.size=some { cls:=.type "dict",data:=.dict #[] }:=As _ rfl;have kp:∀b ob,s.heap.get? b=some ob->(s.heap.push { cls:=.type "dict",data:=.dict #[] }).get? b=some ob:=fun b ob e=>Af _ e;refine⟨⟨_,g0,rfl⟩,PySem.F.args_dict_init_2 _ _,?_⟩;show wpAny _ A.in1.in1 (Builtin.Dict.selfAndRest "__init__" ⟨[.ref s.heap.objs.size,.ref l],[]⟩ >>= _) _ _ _;unfold Builtin.Dict.selfAndRest;refine Aa (Aa (wpAny_notOrdered_dict ⟨_,g0,rfl⟩ ?_));show wpAny _ A.in1.in1 (pure s.heap.objs.size >>= _) _ _ _;refine Aa (Ai (Ai ?_));show wpAny _ A.in1.in1 (Builtin.Dict.updateFrom "dict.__init__" s.heap.objs.size (.ref l) [] .none) _ _ _;unfold Builtin.Dict.updateFrom;refine Aa (wpAny_typeOf_ref (kp l o hl) ?_);rw[hc];show wpAny _ A.in1.in1 (getAttr? (.ref l) (Str.ofString "keys") >>= _) _ _ _;refine Aa (ze1 (kp l o hl) hc hd ho hh fun h1 tk k1=>?_);show wpAny _ A.in1.in1 (rule _ >>= _) _ _ _;refine Aa (Eo ?_);have hL1:h1.IsList l xs:=by
  obtain⟨o',a1,a2⟩:=hL;exact⟨o',k1 l o' (kp l o' a1),a2⟩
 refine Aa (Dy hL1 (Ai ⟨Hb za4 _,?_⟩));have lh:l < h1.objs.size:=Ao (k1 l o (kp l o hl));have dh:s.heap.objs.size < h1.objs.size:=Ao (k1 _ _ g0);refine zvp (knd:=knd) (Walks.list (A:=A.in1.in1) hh h1.objs.size l (At lh) xs) kf vf s.heap.objs.size (fun m=>?_) xs.size 0 _ [] 0 0 #v[] (fun i v p=>?_) ⟨⟨_,As _ rfl,rfl,rfl⟩,hL1.push _⟩ ⟨_,#[],0,Af _ (k1 _ _ g0),⟨rfl,rfl,rfl⟩,rfl,(fun e he=>absurd he (by simp)),.nil,List.nodup_nil⟩ (by show 0+_<=_;omega) fun h' tk' k2 d2=>?_
 ·rcases Ax.mp m with z | z
  ·exact At dh z
  ·exact At lt0 (Aj.mp z).symm
 ·obtain⟨a', _, la, a, ob, c, key, rfl, ha, x1, x2, x3, _, x5⟩ := hP i v p;have ah:a < h1.objs.size:=Ao (k1 a ob (kp a ob ha));exact⟨a,ob,c,key,rfl,Af _ (k1 a ob (kp a ob ha)),x1,x2,x3,fun m=>At ah (Aj.mp m),x5⟩
 ·refine⟨rfl, q h' tk' (fun a ob e => ?_) d2⟩;have ah:a < h1.objs.size:=Ao (k1 a ob (kp a ob e));exact k2 a ob (fun m=>At ah (Aj.mp m)) (At (Ao e)) (Af _ (k1 a ob (kp a ob e)))
end
section
variable {X:Cx}{pins:List (Addr × Obj)}{σ:St}{H:Hp}{s:Shared}{A:Around}{E:Value->Shared->Prop}
theorem zzp (I:Inv X pins σ H s):∀{vs:List V}{more:List (Key × V)}{its:List Value},PV H vs more->Vals vs its->∃rs:List (Key × Value),KV more rs/\rs.length=its.length/\∀(i:Nat) (v:Value),its[i]?=some v->∃p a,rs[i]?=some p/\v=.ref a/\a < s.heap.objs.size/\zj2 X.prog X.w (zag X.prog X.w) s.heap v p.1 p.2 [] s.heap.objs.size
  | _,_,_,.nil,.nil=>⟨[],.nil,rfl,fun i v h=>by simp at h⟩
  | _,_,_,.cons (b:=p) ⟨b,ev,hb⟩ pv,.cons (b:=u) ru vs=>by
    obtain⟨rs,r1,r2,r3⟩:=zzp I pv vs;subst ev;obtain rfl:u=Value.ref b:=ru;obtain⟨its,r,⟨o,ho,hc,n,hd⟩,hz⟩:=I.tuple (show SqT X.K H b _ from .inl hb);cases r with
    | cons rk r =>
      cases r with
      | cons rx r =>
        cases r;rename_i uk ux;refine⟨(p.1,ux)::rs,.cons ⟨rfl,rx⟩ r1,by rw[Bb,Bb,r2],fun i v hv=>?_⟩;cases i with
        | zero =>
          obtain rfl:=sI hv;have lt:=Ao ho;exact⟨_,b,rfl,rfl,lt,b,o,n,uk,rfl,ho,hc,hd,zlt rk,Dc,At lt⟩
        | succ i=>exact r3 i v hv
theorem z7l {l:Addr}{more:List (Key × V)}{vs:List V}{Q:Value->Shared->Prop} (hh:A.handled=none) (I:Inv X pins σ H s) (el:H l=some (.lst vs)) (pv:PV H vs more) (hm:(s.heap.objs.size == sysModules)=false) (hz:more.length<=sizeLine)
  (h:∀p s',H p=none->Inv X pins σ (upd H p (.dK (zcq [] more))) s'->Q (.ref p) s'):wpAny (model X.prog X.w) A (call (.type "dict") [.ref l]) Q E s:=by
 obtain⟨its,r,⟨o,n,ho,hc,hd0,hd⟩,_⟩:=I.list (SqL.of' el);obtain⟨rs,r1,r2,r3⟩:=zzp I pv r;have lr:more.length=rs.length:=r1.length;have get:∀i p,rs[i]?=some p->(rs.getD (0+i) (Sum.inl 0,.none)).1=p.1/\(rs.getD (0+i) (Sum.inl 0,.none)).2=p.2:=fun i p hp=>by
  rw[Cj,Bw,hp];exact⟨rfl,rfl⟩
 refine zts (knd:=zag X.prog X.w) (xs:=its.toArray) ho hc hd hd0 ⟨o,ho,hc,n,hd⟩ hh (fun i=>(rs.getD i (Sum.inl 0,.none)).1) (fun i=>(rs.getD i (Sum.inl 0,.none)).2) (fun i v hv=>?_) (by simp only [Al];omega) fun h' tk k1 d1=>h _ _ (I.hok.fresh (Ae _)) ?_
 ·have hv : its[i]? = some v := by simpa using hv
  obtain⟨p,a,hp,q⟩:=r3 i v hv;obtain⟨e1,e2⟩:=get i p hp;rw[Cj] at e1 e2;refine⟨a,q.1,q.2.1,?_⟩;rw[e1,e2];exact q.2.2
 ·have sz : its.toArray.size = rs.length := by simp only [Al]; exact r2.symm
  rw[sz,zsb rs 0 [] get] at d1;exact I.laid (t':=tk) (o:=.dK (zcq [] more)) k1 (Ae _) (zp3 (by have:=zbt more [];rw[Dh] at this;omega) hm (r1.merge .nil) d1)
end
noncomputable def zy9:List V->Hp->VK->Prop:=fun xs H Q=>∃l vs more,xs=[.ref l]/\H l=some (.lst vs)/\PV H vs more/\more.length<=sizeLine/\∀p,H p=none->Q (.ref p) (upd H p (.dK (zcq [] more)))
theorem zrf {X:Cx}(hc:X.calm=true):zb5 X (.type "dict") zy9:=by
 intro pins s σ H xs us Q I r h;obtain⟨l,vs,more,rfl,el,pv,hz,q⟩:=h;obtain⟨u,rfl,rx⟩:=vals1 r;cases rx;have big:=I.big;have hm:(s.heap.objs.size == sysModules)=false:=by
  cases e:s.heap.objs.size == sysModules with
  | false=>rfl
  | true=>have:=Cb e;rw[this] at big;exact absurd big (Bx _)
 exact z7l (I.ok.hd hc) I el pv hm hz fun p s' hp I'=>⟨.ref p,_,I',rfl,q p hp⟩
noncomputable def zid (g:GE):GE:=fun en=>(g en).bind fun p=>match p.2.1 with
 | .lst us=>(ze0 us).bind fun ps=>if ps.length<=sizeLine then some (p.1,(.dct (updW ps [] []).1 (updW ps [] []).2,true)) else none
 | _=>none
theorem zqf {K:PySem.W.Frag}{g:GE}{σ:St}{H:Hp}{Q:VK} (h:tE K (zid g) σ H Q):tCB zy9 (zhn (tE K g) tNil) σ H Q:=by
  obtain⟨F,pr,en,en',r,R,h,q⟩:=h;obtain⟨⟨e1,r1⟩,h1,h⟩:=bS h;refine⟨F,pr,en,e1,r1,R,h1,fun F1 H1 v1 s1 R1 y1=>?_⟩;obtain⟨F2,s2,R2,x1⟩:=y1.freeze R1;split at h
  · rename_i us er
    obtain⟨ps,hps,h⟩:=bS h;split at h
    · rename_i z
      cases h;have er:r1.1=.lst us:=er;rw[er] at x1;cases x1 with
      | lst ha rv =>
        obtain⟨more,pv,pm⟩:=zi9 R2.sub hps rv;refine⟨_,_,more,rfl,R2.sub _ _ ha,pv,by have:=Gi pm;omega,fun p hp=>?_⟩;obtain⟨R3,y3⟩:=R2.newOwn hp (zi4 (js:=[]) (vs:=[]) (ws:=[]) pm rfl .nil);exact q F2 _ _ (s1.trans s2) R3 y3
    · exact noSome h
  · exact noSome h
section
variable {X:Cx}{S:Sx}{d:Nat}{fE:Sx->Expr->Option GE}
noncomputable def zi0 (fE:Sx->Expr->Option GE) (S:Sx):Expr->Option GE
 | .Call (.Name x _) [e] [] _=>if x == ("dict" : Str) && S.bl x && zai e then (fE S e).bind fun g=>some (zid g) else none
 | _=>none
theorem zni (HE:zbq fE)(C:CxOk X S d):zhv (zi0 fE S) X:=fun e g h=>by
 unfold zi0 at h;split at h
 ·split at h
  ·rename_i z;simp only [Ac] at z;obtain⟨⟨z1,z2⟩,y⟩:=z;have e1:=Cb z1;subst e1;obtain⟨g1,hg1,h⟩:=bS h;obtain rfl:=sI h;obtain⟨gl,m⟩:=zhm C z2;exact (ze8 (zrf C.calm) gl m (by kernel_rfl) (pac (HE X S d C _ _ hg1) zfx y) #v[0,9] #v[0,9] (zal y) rfl).wk fun _ _ _=>zqf
  ·exact noSome h
 ·exact noSome h
end
section
variable {X:Cx}
end
section
variable {K:PySem.W.Frag}{F H:Hp}{pr pb:Prt}{en:En}{σ:St}
end
section
variable {K:PySem.W.Frag}{mp:List Nat}{pb:Prt}{acc:Addr}
end
section
variable {X:Cx}{S:Sx}{d:Nat}{f:Sx->Expr->Option GE}
end
section
variable {prog:Program}{w:World}{A:Around}{E:Value->Shared->Prop}{s:Shared}
end
section
variable {K:PySem.W.Frag}{F:Hp}
end
section
variable {X:Cx}{tg:Expr}
end
section
variable {K:PySem.W.Frag}{σ:St}{H:Hp}
end
section
variable {X:Cx}{S:Sx}{d:Nat}{f:Sx->Expr->Option GE}
end
section
variable {K:PySem.W.Frag}
end
section
variable {K:PySem.W.Frag}{σ:St}{H:Hp}
end
section
open PySem.AutoSeq1 (wpAny_loadPart')
end
section
variable {X:Cx}{S:Sx}{d:Nat}{fE:Sx->Expr->Option GE}
end
set_option maxHeartbeats 1000000
section
variable {prog:Program}{w:World}{A:Around}{E:Value->Shared->Prop}{s:Shared}
end
section
variable {prog:Program}{w:World}{A:Around}{E:Value->Shared->Prop}{s:Shared}
end
section
variable {X:Cx}{S:Sx}{d:Nat}{fE:Sx->Expr->Option GE}
end
section
variable {X:Cx}{S:Sx}{d:Nat}{fE:Sx->Expr->Option GE}
end
section
open PySem.AutoSeq1 (wpAny_loadPart')
end
section
variable {X:Cx}{S:Sx}{d:Nat}{fE:Sx->Expr->Option GE}
end
section
open PySem.AutoSeq1 (wpAny_loadPart')
variable {prog:Program}{w:World}{A:Around}{E:Value->Shared->Prop}{s:Shared}
end
section
variable {X:Cx}{S:Sx}{d:Nat}{fE:Sx->Expr->Option GE}
end
section
variable {prog:Program}{w:World}{A:Around}{E:Value->Shared->Prop}{s:Shared}
open HT in
end
section
variable {X:Cx}{S:Sx}{d:Nat}{fE:Sx->Expr->Option GE}
noncomputable def orX (a b:Option GE):Option GE:=match a with
 | some g=>some g
 | none=>b
theorem zh8 {x y:Expr->Option GE}(hx:zhv x X)(hy:zhv y X):zhv (fun e=>orX (x e) (y e)) X:=fun e g h=>by
 have h:orX (x e) (y e)=some g:=h;unfold orX at h;split at h
 ·rename_i g' q;obtain rfl:=sI h;exact hx e g' q
 ·exact hy e g h
noncomputable def extE (fE:Sx->Expr->Option GE) (S:Sx) (e:Expr):Option GE:=orX (znj fE S e) (orX (zmd fE S e) (orX (zua fE S e) (orX (zl9 fE S e) (orX (zij fE S e) (zi0 fE S e)))))
theorem z3c (HE:zbq fE)(C:CxOk X S d):zhv (extE fE S) X:=zh8 (zqs HE C) (zh8 (zqq HE C) (zh8 (zr5 HE C) (zh8 (zqr HE C) (zh8 (zm6 HE C) (zni HE C)))))
end
noncomputable def ncOf (scope:Scope):List Str:=(scope.names.filter fun p=>p.2 == .free || p.2 == .local || p.2 == .cell).map (·.1)
noncomputable def capC (S:Sx) (scope:Scope):Cap:=(ncOf scope).map fun x=>if scope.names.lookup x == some .free then S.N.findIdx? (· == x) else none
noncomputable def inS (S:Sx) (scope:Scope):Sx:={ N:=ncOf scope,kd:=scope.names,bn:=S.bn,fs:=S.fs,mp:=capKeep (capC S scope),top:=false }
noncomputable def znl (S:Sx) (scope:Scope):Bool:=decide (scope.kind=.function) && zhk (capC S scope) (ncOf scope) S.N scope && (scope.names.all fun p=>!(p.2 == .free) || S.kd.lookup p.1 == some .cell || S.kd.lookup p.1 == some .free) &&
 zfy scope && (scope.names.all fun p=>!(p.2 == NameKind.local) || decide (scope.names.lookup p.1=some .local)) && decide (ncOf scope).Nodup
noncomputable def zzw (fT:Sx->Expr->Option GT) (S:Sx):List Expr->Option GT
 | []=>some gYes
 | [c]=>fT S c
 | _=>none
noncomputable def zrw (fE:Sx->Expr->Option GE) (fT:Sx->Expr->Option GT) (S:Sx) (elt:Expr) (gens:List Comprehension) (scope:Scope):Option GE:=match gens with
 | [c]=>if znl S scope && decide (c.is_async=0) then (zvs fE S c.target c.iter).bind fun gi=>(tgE (inS S scope) c.target).bind fun T=>(zzw fT (inS S scope) c.ifs).bind fun tc=>(fE (inS S scope) elt).bind fun te=>some (zck (capC S scope) T gi tc te) else none
 | _=>none
structure ScOk (X:Cx) (S:Sx) (scope:Scope):Prop where
 kind:scope.kind=.function
 cap:zhk (capC S scope) (ncOf scope) X.N scope=true
 fr:zhg scope X.env.scope=true
 nc:zfy scope=true
 nm:(scope.names.all fun p=>!(p.2 == NameKind.local) || decide (scope.names.lookup p.1=some .local))=true
 nd:(ncOf scope).Nodup
section
variable {X:Cx}{S:Sx}{d:Nat}
theorem zxy (C:CxOk X S d){scope:Scope}(h:znl S scope=true):ScOk X S scope:=by
 unfold znl at h;simp only [Ac] at h;obtain⟨⟨⟨⟨⟨h1,h2⟩,h3⟩,h4⟩,h5⟩,h6⟩:=h;refine⟨An h1,by rw[C.N];exact h2,?_,h4,h5,An h6⟩;unfold zhg;refine Bg.mpr fun p hp=>?_;have q:=Bg.mp h3 p hp;simp only [Cn,Bool.not_eq_true',beq_eq_false_iff_ne,beq_iff_eq,Ds] at q ⊢;rcases q with (q | q) | q
 ·exact .inl (.inl q)
 ·rcases C.vis p.1 (.inl q) with z | z
  ·exact .inl (.inr z)
  ·exact .inr z
 ·rcases C.vis p.1 (.inr q) with z | z
  ·exact .inl (.inr z)
  ·exact .inr z
theorem z3t (C:CxOk X S d){scope:Scope}(h:ScOk X S scope)(cl:List (Str × Addr))(L:Addr)(s3:Shared)(H3:Hp)(fp:List Addr):CxOk (za9 X (ncOf scope) scope cl L s3 H3 fp) (inS S scope) d where
 N:=rfl
 nd:=h.nd
 loc:=fun x e=>za6 (env:=X.env) #v[0,9] e
 cel:=fun x e=>⟨za6 (env:=X.env) #v[0,9] e,Ag e⟩
 vis:=fun x e=>by
  rcases e with e | e
  ·exact .inl (za6 (env:=X.env) #v[0,9] e)
  ·exact zaz (env:=X.env) e
 gl:=fun x e=>za6 (env:=X.env) #v[0,9] e
 calm:=C.calm
 xe:=rfl
 bn:=C.bn
 fs:=C.fs
 room:=C.room
 sl:=C.sl
 lam:=fun h=>absurd (show ("" : Str)∈lams from h) #v[0,0,7]
 dpo:=Bv _
 bk:=by
  show (if scope.kind.isAnnotationScope then ScopeKind.function else scope.kind)=.function;rw[h.kind];rfl
end
theorem zxq {K:PySem.W.Frag}{σ:St}{H:Hp}{Q:Bool->Hp->Prop}(h:tT K gYes σ H Q):zy4 σ H Q:=by
 obtain⟨F,pr,en,en',b,R,h,q⟩:=h;cases h;exact q F H (.refl F) R
structure CompP (X:Cx) (S:Sx) (elt:Expr) (gens:List Comprehension) (scope:Scope) (g:GE):Prop where
 ex:∃tg iter ifs gs gi T tc,∃(em:Pos->Value->Env->Sem Unit) (tm:Addr->TM),gens=⟨tg,iter,ifs,0⟩ :: gs/\(∀pos it acc env,compTurn (.ListComp elt gens scope pos) 0 it acc env=zri (.ListComp elt gens scope pos) 0 tg iter ifs (em pos acc env) it acc env)/\ScOk X S scope/\PI X tg iter (tI X.K gi)/\(∀x,foldedSetIterable iter X.env x=pure x) /\
  (∀cl C s3 H3 fp,PG (za9 X (ncOf scope) scope cl C s3 H3 fp) tg (TGof X.K T))/\(∀cl C s3 H3 fp,PTs (za9 X (ncOf scope) scope cl C s3 H3 fp) ifs (tT X.K tc))/\(∀pos cl C s3 H3 fp acc,PM (za9 X (ncOf scope) scope cl C s3 H3 fp) (em pos (.ref acc) (za9 X (ncOf scope) scope cl C s3 H3 fp).env) (tm acc)) /\
  ∀σ H Q,tE X.K g σ H Q->zrr (tI X.K gi) (capC S scope) (TGof X.K T) (tT X.K tc) tm σ H Q
section
variable {X:Cx}{S:Sx}{d:Nat}{fE:Sx->Expr->Option GE}{fT:Sx->Expr->Option GT}
theorem PTs.wk {ifs:List Expr}{t t' : TT}(h:PTs X ifs t)(i:∀σ H Q,t' σ H Q->t σ H Q):PTs X ifs t':=fun pins s σ H Q I q=>h pins s σ H Q I (i σ H Q q)
theorem zx1 (HT:zj5 fT)(C:CxOk X S d):∀{ifs:List Expr}{tc:GT},zzw fT S ifs=some tc->PTs X ifs (tT X.K tc)
 | [],_,h=>by obtain rfl:=sI h;exact z08.wk fun _ _ _=>zxq
 | [_],_,h=>z0q (HT _ _ d C _ _ h)
 | _::_::_,_,h=>noSome h
theorem zgz (HE:zbq fE)(HT:zj5 fT)(C:CxOk X S d){elt:Expr}{gens:List Comprehension}{scope:Scope}{g:GE}(h:zrw fE fT S elt gens scope=some g):CompP X S elt gens scope g:=by
 unfold zrw at h;split at h
 ·rename_i c;obtain⟨tg,iter,ifs,as⟩:=c;split at h
  ·rename_i z;rw[Ac] at z;have ha:as=0:=An z.2;subst ha;obtain⟨gi,hi,h⟩:=bS h;obtain⟨T,hT,h⟩:=bS h;obtain⟨tc,htc,h⟩:=bS h;obtain⟨te,hte,h⟩:=bS h;obtain rfl:=sI h;have so:=zxy C z.1;obtain⟨pi,pf⟩:=zo9 HE C hi;exact⟨tg,iter,ifs,[],gi,T,tc,fun _=>z3x elt,fun acc=>zwy acc (tE X.K te),rfl,fun _ _ _ _=>rfl,so,pi,pf,fun cl L s3 H3 fp=>zzd (z3t C so cl L s3 H3 fp) hT,fun cl L s3 H3 fp=>zx1 HT (z3t C so cl L s3 H3 fp) htc,fun _ cl L s3 H3 fp acc=>z4a (HE _ _ d (z3t C so cl L s3 H3 fp) _ _ hte),fun _ _ _=>zv5⟩
  ·exact noSome h
 ·exact noSome h
theorem zux (C:CxOk X S d){elt:Expr}{gens:List Comprehension}{scope:Scope}{g:GE}{pos:Pos}(h:CompP X S elt gens scope g):PE X (.ListComp elt gens scope pos) (tE X.K g):=by
 nofun;obtain⟨tg,iter,ifs,gs,gi,T,tc,em,tm,e1,e2,so,pi,pf,pg,pt,pe,rd⟩:=h.ex;ac_rfl;subst e1;exact (z00 pi pg pt (pe pos) (e2 pos) C.calm so.kind so.cap so.fr so.nc so.nm pf).wk rd
noncomputable def z2b (fE:Sx->Expr->Option GE) (S:Sx):Option Expr->Option GO
 | none=>some zca
 | some e=>(fE S e).bind fun g=>some (zgv g)
noncomputable def zyx (fE:Sx->Expr->Option GE) (fT:Sx->Expr->Option GT) (S:Sx) (e:Expr):Option GE:=match e with
  | .Name x _=>(S.rd x).bind fun i=>some (gVar i)
  | .Constant c _ _=>(match c with
    | .int i=>some (gC (.int i))
    | .bool b=>some (gC (.bl b))
    | .none=>some (gC .non)
    | .str x=>some (gC (.str x))
    | _=>none)
  | .BinOp a op b _=>(zbs fE S a).bind fun x=>(zbs fE S b).bind fun y=>(binO op).bind fun o=>some (gOp2 o x y)
  | .UnaryOp op a _=>(match op with
    | .USub=>(zbs fE S a).bind fun x=>some (gOp1 oNeg x)
    | _=>none)
  | .Compare a ops cs _=>cmpY fE S a ops cs
  | .IfExp c a b _=>(fT S c).bind fun t=>(fE S a).bind fun x=>(fE S b).bind fun y=>some (gIf t x y)
  | .Subscript a s _=>(match s with
    | .Slice lo hi st _=>(match st with
      | none=>(zbs fE S a).bind fun x=>(z2b fE S lo).bind fun l=>(z2b fE S hi).bind fun h=>some (gSl x l h)
      | some _=>none)
    | s=>if zc9 s then (zbs fE S a).bind fun x=>(zbs fE S s).bind fun y=>some (gOp2 oIx x y) else none)
  | .List es _=>(asL (fun e=>(fE S e).bind fun g=>some (gArg g)) es).bind fun as=>some (zap as)
  | .Tuple es _ _=>(asL (fun e=>(fE S e).bind fun g=>some (gArg g)) es).bind fun as=>some (zjz as)
  | .Call fu args kws pos=>(match kws with
    | []=>(match fu with
      | .Name x _=>z0f fE S x args
      | .Attribute o m ap=>z0l fE S o m ap args pos
      | _=>none)
    | _=>none)
  | .ListComp elt gens scope _=>zrw fE fT S elt gens scope
  | _=>none
noncomputable def z04 (fE:Sx->Expr->Option GE) (fT:Sx->Expr->Option GT) (S:Sx) (e:Expr):Option GT:=match e with
  | .BoolOp op vs _=>(match vs with
    | v::vs=>z10 (fT S) op v vs
    | []=>none)
  | .Compare a ops cs _=>(cmpY fE S a ops cs).bind fun g=>some (zan g)
  | .UnaryOp op a p=>(match op with
    | .Not=>(fT S a).bind fun g=>some (zrs g)
    | op=>if zom (.UnaryOp op a p) then (fE S (.UnaryOp op a p)).bind fun g=>some (zan g) else none)
  | e=>if zom e then (fE S e).bind fun g=>some (zan g) else none
theorem zpa (HE:zbq fE) (C:CxOk X S d) {o:Option Expr}{g:GO} (h:z2b fE S o=some g):PO X o (tO X.K g):=by
  cases o with
  | none=>obtain rfl:=sI h;exact fun pins s σ H Q I q=>z0i pins s σ H Q I (zmg q)
  | some e =>
    obtain⟨ge,hg,h⟩:=bS h;obtain rfl:=sI h;exact fun pins s σ H Q I q=>z1i (HE X S d C _ _ hg) pins s σ H Q I (zrv q)
theorem zxt (HE:zbq fE) (HT:zj5 fT):zbq (zyx fE fT):=fun X S d C e g h=>by
  have HA:∀e a,((fE S e).bind fun g=>some (gArg g))=some a->PE X e (tA X.K a):=fun e a h=>by
    obtain⟨ge,hg,h⟩:=bS h;obtain rfl:=sI h;exact (HE X S d C _ _ hg).wk fun _ _ _=>zji
  cases e with
  | Name x p =>
    obtain⟨i,hi,h⟩:=bS (show (S.rd x).bind _=_ from h);obtain rfl:=sI h;exact (zjc C hi).wk fun _ _ _=>zoz
  | Constant c k p =>
    cases c with
    | int i=>obtain rfl:=sI h;exact z4c.wk fun _ _ _=>zd7 fun _=>.int i
    | bool b=>obtain rfl:=sI h;exact z8q.wk fun _ _ _=>zd7 fun _=>.bl b
    | none=>obtain rfl:=sI h;exact z62.wk fun _ _ _=>zd7 fun _=>.non
    | str x=>obtain rfl:=sI h;exact z6d.wk fun _ _ _=>zd7 fun _=>.str x
    | _=>exact noSome h
  | BinOp a op b p =>
    obtain⟨x,hx,h⟩:=bS (show (zbs fE S a).bind _=_ from h);obtain⟨y,hy,h⟩:=bS h;obtain⟨o,ho,h⟩:=bS h;obtain rfl:=sI h;obtain⟨r,h1,h2⟩:=z30 (X:=X) ho;exact (z93 h1 (zak HE C hx) (zak HE C hy)).wk fun _ _ _=>zdz h2
  | UnaryOp op a p =>
    cases op with
    | USub =>
      obtain⟨x,hx,h⟩:=bS (show (zbs fE S a).bind _=_ from h);obtain rfl:=sI h;exact (z8j z4v (zak HE C hx)).wk fun _ _ _=>zx8 z0s
    | _=>exact noSome h
  | Compare a ops cs p=>exact (zti HE C h).1
  | IfExp c a b p =>
    obtain⟨t,ht,h⟩:=bS (show (fT S c).bind _=_ from h);obtain⟨x,hx,h⟩:=bS h;obtain⟨y,hy,h⟩:=bS h;obtain rfl:=sI h;exact (zx2 (HT X S d C _ _ ht) (HE X S d C _ _ hx) (HE X S d C _ _ hy)).wk fun _ _ _=>z0h
  | Subscript a s p =>
    have ix:∀s,(if zc9 s then (zbs fE S a).bind fun x=>(zbs fE S s).bind fun y=>some (gOp2 oIx x y) else none)=some g->PE X (.Subscript a s p) (tE X.K g):=fun s h=>by
      split at h
      · rename_i z
        obtain⟨x,hx,h⟩:=bS h;obtain⟨y,hy,h⟩:=bS h;obtain rfl:=sI h;exact (z8r (z3w.or z7h) (zak HE C hx) (zak HE C hy) (zrj z)).wk fun _ _ _=>zdz z6g
      · exact noSome h
    cases s with
    | Slice lo hi st p2 =>
      cases st with
      | some _=>exact noSome h
      | none =>
        obtain⟨x,hx,h⟩:=bS (show (zbs fE S a).bind _=_ from h);obtain⟨l,hl,h⟩:=bS h;obtain⟨u,hu,h⟩:=bS h;obtain rfl:=sI h;exact (zxh ((z1v.or z4g).or z3b) (zak HE C hx) (zpa HE C hl) (zpa HE C hu)).wk fun _ _ _=>z2t
    | _=>exact ix _ h
  | List es p =>
    obtain⟨as,has,h⟩:=bS (show (asL _ es).bind _=_ from h);obtain rfl:=sI h;exact (z7k (zgm HA has).1).wk fun _ _ _=>zwz
  | Tuple es k p =>
    obtain⟨as,has,h⟩:=bS (show (asL _ es).bind _=_ from h);obtain rfl:=sI h;exact (z5c (zgm HA has).1).wk fun _ _ _=>zw8
  | Call fu args kws p =>
    simp only [zyx] at h;split at h
    · cases fu with
      | Name x p2=>exact zyt HE C h
      | Attribute o m ap=>exact zx7 HE C h
      | _=>exact noSome h
    · exact noSome h
  | ListComp elt gens scope p=>exact zux C (zgz HE HT C h)
  | _=>exact noSome h
theorem zyi (HE:zbq fE) (HT:zj5 fT):zj5 (z04 fE fT):=fun X S d C e g h=>by
  have plain:∀e,(if zom e then (fE S e).bind fun g=>some (zan g) else none)=some g->PT X e (tT X.K g):=fun e h=>by
    split at h
    · rename_i z
      obtain⟨x,hx,h⟩:=bS h;obtain rfl:=sI h;exact (z7z (HE X S d C _ _ hx) (zrg z)).wk fun _ _ _=>zgo fun _ _ _ q=>q
    · exact noSome h
  cases e with
  | BoolOp op vs p =>
    cases vs with
    | nil=>exact noSome h
    | cons v vs=>exact (zoh (fun e g=>HT X S d C e g) h).pt
  | Compare a ops cs p =>
    obtain⟨x,hx,h⟩:=bS (show (cmpY fE S a ops cs).bind _=_ from h);obtain rfl:=sI h;exact (zti HE C hx).2
  | UnaryOp op a p =>
    cases op with
    | Not =>
      obtain⟨x,hx,h⟩:=bS (show (fT S a).bind _=_ from h);obtain rfl:=sI h;exact (z7y (HT X S d C _ _ hx)).wk fun _ _ _=>zud
    | _=>exact plain _ h
  | _=>exact plain _ h
end
noncomputable def z3g:GE:=fun _=>none
noncomputable def zt9:GT:=fun _=>none
mutual
noncomputable def compE:Nat->Sx->Expr->Option GE
 | 0,_,_=>some z3g
 | n+1,S,e=>some ((orX (extE (compE n) S e) (zyx (compE n) (compT n) S e)).getD z3g)
noncomputable def compT:Nat->Sx->Expr->Option GT
 | 0,_,_=>some zt9
 | n+1,S,e=>some ((z04 (compE n) (compT n) S e).getD zt9)
end
theorem zv4 {X:Cx}{e:Expr}:PE X e (tE X.K z3g):=fun _ _ _ _ _ _ q=>by obtain⟨_,_,_,_,_,_,h,_⟩:=q;exact noSome h
theorem zp2 {X:Cx}{e:Expr}:PT X e (tT X.K zt9):=fun _ _ _ _ _ _ q=>by obtain⟨_,_,_,_,_,_,h,_⟩:=q;exact noSome h
theorem zey:∀n,zbq (compE n)/\zj5 (compT n)
  | 0=>⟨fun _ _ _ _ _ _ h=>by rw[compE] at h;obtain rfl:=sI h;exact zv4,fun _ _ _ _ _ _ h=>by rw[compT] at h;obtain rfl:=sI h;exact zp2⟩
  | n+1=>by
    obtain⟨a,b⟩:=zey n;refine⟨fun X S d C e g h=>?_,fun X S d C e g h=>?_⟩
    · rw [compE] at h
      cases q:orX (extE (compE n) S e) (zyx (compE n) (compT n) S e) with
      | none=>rw[q] at h;obtain rfl:=sI h;exact zv4
      | some g'=>rw[q] at h;obtain rfl:=sI h;exact zh8 (z3c a C) (zxt a b X S d C) e _ q
    · rw [compT] at h
      cases q:z04 (compE n) (compT n) S e with
      | none=>rw[q] at h;obtain rfl:=sI h;exact zp2
      | some g'=>rw[q] at h;obtain rfl:=sI h;exact zyi a b X S d C e _ q
section
variable {X:Cx}{pos:Pos}
end
noncomputable def z8e (mp:List Nat) (i j k:Nat) (a b c:GE):GS:=fun en=>(a en).bind fun p=>(b p.1).bind fun q=>(c q.1).bind fun r=>if mp.contains i || mp.contains j || mp.contains k || !decide (i < r.1.length) || !decide (j < r.1.length) || !decide (k < r.1.length) then none else some (((r.1.set i (#v[p.2.1,6])).set j (#v[q.2.1,6])).set k (#v[r.2.1,6]),.nx)
section
variable {K:PySem.W.Frag}{mp:List Nat}{D:Ends}{σ:St}{H:Hp}
end
noncomputable def zv8 (S:Sx) (x:Str) (px:Pos) (y:Str) (py:Pos) (z:Str) (pz:Pos) (a b c:Expr):Bool:=S.kd.lookup x == some .local && S.kd.lookup y == some .local && S.kd.lookup z == some .local && px.line == py.line && px.line == pz.line && !(x == y) && !(x == z) && !(y == z) && !(foldedForSure 8 a && foldedForSure 8 b && foldedForSure 8 c) && !(constantsAlone 8 a && constantsAlone 8 b && constantsAlone 8 c) && zai a && zai b && zai c
section
variable {X:Cx}{S:Sx}{d:Nat}{fE:Sx->Expr->Option GE}
theorem ztv {x y:Str}(h:¬ x=y):(y == x)=false:=by
 cases q:y == x with
 | false=>rfl
 | true=>exact absurd (Cb q).symm h
theorem z8w (C:CxOk X S d){x y z:Str}{px py pz pt pt2:Pos}{a b c:Expr}{kt k2:Nat}(h:zv8 S x px y py z pz a b c=true):swappedStores [.Tuple [.Name x px,.Name y py,.Name z pz] kt pt] (.Tuple [a,b,c] k2 pt2) X.env=pure (some [x,y,z]):=by
 unfold zv8 at h;simp only [Ac] at h;nofun;obtain⟨⟨⟨⟨⟨⟨⟨⟨⟨⟨⟨⟨h1,h2⟩,h3⟩,h4⟩,h5⟩,h6⟩,h7⟩,h8⟩,h9⟩,h10⟩,h11⟩,h12⟩,h13⟩:=h;ac_rfl;have k1:X.env.kindOf x=some .local:=C.loc x (by simpa using h1);have k2:X.env.kindOf y=some .local:=C.loc y (by simpa using h2);have k3:X.env.kindOf z=some .local:=C.loc z (by simpa using h3);have e4:px.line=py.line:=by simpa using h4
 have e5:px.line=pz.line:=by simpa using h5
 have n6:¬ x=y:=by simpa using h6
 have n7:¬ x=z:=by simpa using h7
 have n8:¬ y=z:=by simpa using h8
 have st:∀e,zai e=true->(match e with | .Starred ..=>true | _=>false)=false:=fun e h=>by cases e<;>first | rfl | (cases h)
 have st' : ([a,b,c].any fun e=>match e with | .Starred ..=>true | _=>false)=false:=by
  rw[Cu,Cu,Cu,List.any_nil,st a h11,st b h12,st c h13];rfl
 unfold swappedStores;simp only [Bb,Dh,C.bk,Gc];rw[if_neg #v[0,9]]
 try simp only [Gc]
 refine (if_neg (fun z=>Ah (st'.symm.trans z))).trans ?_;have nm:List.filterMap (fun e=>match e with | .Name id pos=>if (X.env.kindOf id == some .local && pos.line == (Option.map (fun e=>e.pos.line) ([Expr.Name x px,Expr.Name y py,Expr.Name z pz]:List Expr).head?).getD 0)=true then some id else none | _=>none) ([Expr.Name x px,Expr.Name y py,Expr.Name z pz]:List Expr)=[x,y,z]:=by
  have ex:((Expr.Name x px).pos.line)=px.line:=rfl;have q4:py.line=px.line:=e4.symm;have q5:pz.line=px.line:=e5.symm;simp [k1,k2,k3,ex,q4,q5]
 try simp only [Gc]
 generalize hq:List.filterMap _ ([Expr.Name x px,Expr.Name y py,Expr.Name z pz]:List Expr)=names;have hq' : names=[x,y,z]:=hq.symm.trans nm;subst hq';have ed:([x,y,z]:List Str).eraseDups=[x,y,z]:=by
  rw[Ex,List.filter_cons,ztv n6,List.filter_cons,ztv n7];simp only [Bool.not_false,Fg,Ei];rw[Ex,List.filter_cons,ztv n8];simp only [Bool.not_false,Fg,Ei];rw[Ex,Ei,List.eraseDups_nil]
 rw[ed,if_neg (by simp)]
 try simp only [Gc]
 have m9:¬ (foldedForSure 8 a && foldedForSure 8 b && foldedForSure 8 c)=true:=fun z=>by rw[z] at h9;cases h9
 have m10:¬ (constantsAlone 8 a && constantsAlone 8 b && constantsAlone 8 c)=true:=fun z=>by rw[z] at h10;cases h10
 rw[if_neg (by simp only [Bf,List.all_nil,Fu,<-Bool.and_assoc];exact m9),if_neg (by simp only [Bf,List.all_nil,Fu,<-Bool.and_assoc];exact m10)]
end
noncomputable def zlp (x:Stmt->Option GS) (X:Cx) (S:Sx):Prop:=∀st g,x st=some g->PS X st (tS X.K S.mp g)
noncomputable def nmOf:Expr->Option (Str × Pos)
 | .Name x p=>some (x,p)
 | _=>none
noncomputable def z9j (fE:Sx->Expr->Option GE) (S:Sx) (es vs:List Expr):Option GS:=match es with
  | [n1,n2,n3]=>(match vs with
    | [a,b,c]=>(nmOf n1).bind fun x=>(nmOf n2).bind fun y=>(nmOf n3).bind fun z=>if zv8 S x.1 x.2 y.1 y.2 z.1 z.2 a b c then (S.wr x.1).bind fun i=>(S.wr y.1).bind fun j=>(S.wr z.1).bind fun k=>(fE S a).bind fun ga=>(fE S b).bind fun gb=>(fE S c).bind fun gc=>some (z8e S.mp i j k ga gb gc) else none
    | _=>none)
  | _=>none
noncomputable def z4z:Expr->Option (List Expr × Nat × Pos)
 | .Tuple es k p=>some (es,k,p)
 | _=>none
noncomputable def z88 (fE:Sx->Expr->Option GE) (S:Sx):Stmt->Option GS
  | .Assign ts e _=>(match ts with
    | [tg]=>(z4z tg).bind fun x=>(z4z e).bind fun y=>z9j fE S x.1 y.1
    | _=>none)
  | _=>none
section
variable {X:Cx}{S:Sx}{d:Nat}{fE:Sx->Expr->Option GE}
noncomputable def orS (a b:Option GS):Option GS:=match a with
 | some g=>some g
 | none=>b
theorem z5e {x y:Stmt->Option GS}(hx:zlp x X S)(hy:zlp y X S):zlp (fun e=>orS (x e) (y e)) X S:=fun e g h=>by
 have h:orS (x e) (y e)=some g:=h;unfold orS at h;split at h
 ·rename_i g' q;obtain rfl:=sI h;exact hx e g' q
 ·exact hy e g h
theorem zz8 {o k e:Expr}{p:Pos}{env:Env}:swappedStores [.Subscript o k p] e env=pure none:=by
 cases e<;>rfl
theorem zp1 {o k e:Expr}{p:Pos}{l:Nat}{env:Env}:swapsWithSole [.Subscript o k p] e l env=pure false:=by
 cases e<;>rfl
theorem zii {o k:Expr}{p:Pos}{env:Env} (h:zc9 k=true):∀v,assign (.Subscript o k p) env v=(do
   let ov <- holding [v] (eval o env)
   let iv <- holding [v,ov] (eval k env)
   standAt p
   holding [v,ov,iv] (setItem ov iv v)
   release [v,ov,iv] []):=by
 intro v;cases k<;>first | rfl | (cases h)
noncomputable def zmv (fE:Sx->Expr->Option GE) (S:Sx):Stmt->Option GS
 | .Assign [.Subscript (.Name x _) k _] e _=>if dOn S x && zc9 k then (S.rd x).bind fun i=>(fE S k).bind fun gk=>(fE S e).bind fun g=>some (zug i gk g) else none
 | _=>none
theorem zqy (HE:zbq fE)(C:CxOk X S d):zlp (zmv fE S) X S:=fun st g h=>by
 unfold zmv at h;split at h
 ·split at h
  ·rename_i z;rw[Ac] at z;obtain⟨i,hi,h⟩:=bS h;obtain⟨gk,hgk,h⟩:=bS h;obtain⟨ge,hg,h⟩:=bS h;obtain rfl:=sI h;exact (zun (HE X S d C _ _ hg) (zzn (zjc C hi) (HE X S d C _ _ hgk) (zps.or (zxk (z2p C))) (zii z.2)) zp1 zz8 rfl).wk fun _ _ _=>zte
  ·exact noSome h
 ·exact noSome h
noncomputable def extS (fE:Sx->Expr->Option GE) (S:Sx) (st:Stmt):Option GS:=zmv fE S st
theorem z3v (HE:zbq fE)(C:CxOk X S d):zlp (extS fE S) X S:=zqy HE C
end
noncomputable def zdi (mp:List Nat) (i:Nat):GS:=fun en=>match en[i]? with
 | some (#v[w,5])=>if mp.contains i then none else some (en.set i none,.ret (w,true))
 | some (#v[w,6])=>some (en,.ret (w,false))
 | _=>none
theorem Rel.drop {K:PySem.W.Frag}{F H:Hp}{pr:Prt}{en:En}{σ:St}(R:Rel K F pr en σ H){i:Nat}{w:W}(e:en[i]?=some (#v[w,5])):∃v,σ[i]?=some (some v)/\Rel K F pr (en.set i none) σ H/\Res K F H pr (en.set i none) σ (w,true) v:=by
 have hi:i < en.length:=(Am.mp e).1;nofun;obtain⟨a,vs,ws,h1,h2,h3,h4,h5⟩:=R.own i w e;ac_rfl;have g:∀(j:Nat) (x:W × Bool),(en.set i none)[j]?=some (some x)->j≠i/\en[j]?=some (some x):=fun j x h=>by
  rcases zcs hi h with ⟨_,q⟩ | z
  ·cases q
  ·exact z
 refine⟨_,h2,⟨by rw[Dp];exact R.len,R.sub,fun j u q=>R.val j u (g j _ q).2,fun j u q=>R.own j u (g j _ q).2,fun j k b u u' q q'=>R.inj j k b u u' (g j _ q).2 (g k _ q').2,fun b o q=>⟨(R.prt b o q).1,(R.prt b o q).2.1,fun j u z=>(R.prt b o q).2.2 j u (g j _ z).2⟩,R.tb⟩,a,vs,ws,h1,rfl,h3,h4,h5,fun j u q z=>?_,fun b o q z=>?_⟩
 ·exact (g j _ q).1 (R.inj j i a _ _ (g j _ q).2 e z h2)
 ·subst z;exact (R.prt b o q).2.2 i w e h2
theorem zvn {K:PySem.W.Frag}{mp:List Nat}{D:Ends}{σ:St}{H:Hp}{i:Nat}(h:tS K mp (zdi mp i) D σ H):tRet (tVar i) D σ H:=by
 obtain⟨F,pr,en,en',fl,R,h,q⟩:=h;unfold zdi at h;split at h
 ·rename_i w e;split at h
  ·exact noSome h
  ·cases h;obtain⟨v,hv,R',z⟩:=R.drop e;exact⟨v,hv,q F σ H v (.refl F) R' (.refl _ _) z⟩
 ·rename_i w e;cases h;obtain⟨v,hv,z⟩:=R.val i w e;exact⟨v,hv,q F σ H v (.refl F) R (.refl _ _) z⟩
 ·exact noSome h
noncomputable def zy3 (f:Sx->Stmt->Option GS):Prop:=∀X S d,CxOk X S d->∀st g,f S st=some g->PS X st (tS X.K S.mp g)
noncomputable def blk (f:Sx->Stmt->Option GS) (S:Sx):List Stmt->Option GS
  | []=>some zb3
  | st::sts=>match sts with
    | []=>f S st
    | _::_=>(f S st).bind fun a=>(blk f S sts).bind fun b=>some (gSeq a b)
noncomputable def zi8 (S:Sx) (x:Str) (px:Pos) (scope:Scope) (pos:Pos):Bool:=S.kd.lookup x == some .local && px.line == pos.line && !(scope.names.any fun (n,k)=>n == x && (k == .local || k == .cell))
noncomputable def znr (S:Sx) (x:Str):Bool:=S.top && S.kd.lookup x == some .cell
noncomputable def zw3 (S:Sx) (x:Str) (px:Pos) (y:Str) (py:Pos) (a b:Expr):Bool:=S.kd.lookup x == some .local && S.kd.lookup y == some .local && px.line == py.line && !(x == y) && !(foldedForSure 8 a && foldedForSure 8 b) && !(constantsAlone 8 a && constantsAlone 8 b) && zai a && zai b
noncomputable def z3l:Expr->Bool
 | .Tuple ..=>true
 | _=>false
noncomputable def asgE (fE:Sx->Expr->Option GE) (fT:Sx->Expr->Option GT) (S:Sx) (tg e:Expr):Option GS:=match tg with
  | .Name x px=>(S.wr x).bind fun i=>(match e with
    | .ListComp elt gens scope pos=>(zrw fE fT S elt gens scope).bind fun g=>if zi8 S x px scope pos || znr S x then some (gSet S.mp i g) else none
    | e=>if zgy e then (fE S e).bind fun g=>some (gSet S.mp i g) else none)
  | .Tuple es _ _=>(match es,e with
    | [.Name x px,.Name y py],.Tuple [a,b] _ _=>if zw3 S x px y py a b then (S.wr x).bind fun i=>(S.wr y).bind fun j=>(fE S a).bind fun ga=>(fE S b).bind fun gb=>some (gPar S.mp i j ga gb) else none
    | es,e=>if z3l e then none else (zg6 S es).bind fun is=>(fE S e).bind fun g=>some (gAsg S.mp (.tp is) g))
  | .Subscript o k _=>(match o with
    | .Name x _=>if zc9 k then (S.rd x).bind fun i=>(fE S k).bind fun gk=>(fE S e).bind fun g=>some (za7 i gk g) else none
    | _=>none)
  | _=>none
noncomputable def z1o (fS:Sx->Stmt->Option GS) (fE:Sx->Expr->Option GE) (fT:Sx->Expr->Option GT) (S:Sx) (st:Stmt):Option GS:=match st with
  | .Return o _=>(match o with
    | none=>none
    | some e=>(match e with
      | .Name x _=>(S.rd x).bind fun i=>some (zdi S.mp i)
      | e=>(fE S e).bind fun g=>some (gRet g)))
  | .If c a b _=>(fT S c).bind fun t=>(blk fS S a).bind fun x=>(blk fS S b).bind fun y=>some (gIfS t x y)
  | .For tg it body els _=>(match els with
    | []=>(zvs fE S tg it).bind fun gi=>(tgE S tg).bind fun T=>(blk fS S body).bind fun g=>some (gFor S.mp T gi g)
    | _=>none)
  | .Pass _=>some zb3
  | .Expr e _=>if zgy e then (fE S e).bind fun g=>some (zf1 g) else none
  | .Assign ts e _=>(match ts with
    | [tg]=>asgE fE fT S tg e
    | _=>none)
  | .AugAssign tg op e _=>(match tg with
    | .Name x _=>(S.wr x).bind fun i=>(augO op).bind fun o=>(zbs fE S e).bind fun a=>some (gAug S.mp o i a)
    | _=>none)
  | _=>none
section
variable {X:Cx}{S:Sx}{d:Nat}{fS:Sx->Stmt->Option GS}{fE:Sx->Expr->Option GE}{fT:Sx->Expr->Option GT}
theorem zke (HS:zy3 fS) (C:CxOk X S d):∀{sts:List Stmt}{g:GS},blk fS S sts=some g->PSs X sts (tS X.K S.mp g)
  | [],_,h=>by obtain rfl:=sI h;exact z2z.wk fun _ _ _=>zlw
  | [st],_,h=>z0z (HS X S d C _ _ h)
  | st::st' :: sts,_,h=>by
    obtain⟨a,ha,h⟩:=bS (show (fS S st).bind _=_ from h);obtain⟨b,hb,h⟩:=bS h;obtain rfl:=sI h;exact (zyc (HS X S d C _ _ ha) (zke HS C hb)).wk fun _ _ _=>zxm
theorem z8t (C:CxOk X S d){x:Str}{px pos:Pos}{elt:Expr}{gens:List Comprehension}{scope:Scope}{l:Nat}(h:zi8 S x px scope pos=true):swapsWith (.ListComp elt gens scope pos) (some (.Name x px)) l X.env=pure true:=by
 unfold zi8 at h;rw[Ac,Ac] at h;have h1:X.env.kindOf x=some .local:=C.loc x (by simpa using h.1.1);show (pure (X.env.blockKind == .function && X.env.kindOf x == some .local && px.line == pos.line && !(scope.names.any fun (n,k)=>n == x && (k == .local || k == .cell))):Sem Bool)=pure true;rw[C.bk,h1,h.1.2,h.2]
 rfl
theorem swNo (C:CxOk X S d){x:Str}{px pos:Pos}{elt:Expr}{gens:List Comprehension}{scope:Scope}{l:Nat}(h:znr S x=true):swapsWith (.ListComp elt gens scope pos) (some (.Name x px)) l X.env=pure false:=by
 unfold znr at h;rw[Ac] at h;have h1:X.env.kindOf x=some .cell:=(C.cel x (by simpa using h.2)).1;show (pure (X.env.blockKind == .function && X.env.kindOf x == some .local && px.line == pos.line && !(scope.names.any fun (n,k)=>n == x && (k == .local || k == .cell))):Sem Bool)=pure false;rw[h1];have:(some NameKind.cell == some NameKind.local)=false:=rfl;rw[this,Bool.and_false,Es,Es]
theorem z7x (C:CxOk X S d){x y:Str}{px py pt pt2:Pos}{a b:Expr}{kt k2:Nat}(h:zw3 S x px y py a b=true):swappedStores [.Tuple [.Name x px,.Name y py] kt pt] (.Tuple [a,b] k2 pt2) X.env=pure (some [x,y]):=by
 unfold zw3 at h;simp only [Ac] at h;nofun;obtain⟨⟨⟨⟨⟨⟨⟨h1,h2⟩,h3⟩,h4⟩,h5⟩,h6⟩,h7⟩,h8⟩:=h;ac_rfl;have k1:X.env.kindOf x=some .local:=C.loc x (by simpa using h1);have k2:X.env.kindOf y=some .local:=C.loc y (by simpa using h2);have e3:px.line=py.line:=by simpa using h3
 have ne:¬ x=y:=by simpa using h4
 have st:∀e,zai e=true->(match e with | .Starred ..=>true | _=>false)=false:=fun e h=>by cases e<;>first | rfl | (cases h)
 have st' : ([a,b].any fun e=>match e with | .Starred ..=>true | _=>false)=false:=by
  rw[Cu,Cu,List.any_nil,st a h7,st b h8];rfl
 unfold swappedStores;simp only [Bb,Dh,C.bk,Gc];rw[if_neg #v[0,9]]
 try simp only [Gc]
 refine (if_neg (fun z=>Ah (st'.symm.trans z))).trans ?_;have nm:List.filterMap (fun e=>match e with | .Name id pos=>if (X.env.kindOf id == some .local && pos.line == (Option.map (fun e=>e.pos.line) ([Expr.Name x px,Expr.Name y py]:List Expr).head?).getD 0)=true then some id else none | _=>none) ([Expr.Name x px,Expr.Name y py]:List Expr)=[x,y]:=by
  have ex:((Expr.Name x px).pos.line)=px.line:=rfl;simp [k1,k2,ex,e3]
 try simp only [Gc]
 generalize hq:List.filterMap _ ([Expr.Name x px,Expr.Name y py]:List Expr)=names;have hq' : names=[x,y]:=hq.symm.trans nm;subst hq';have yx:(y == x)=false:=by
  cases q:y == x with
  | false=>rfl
  | true=>exact absurd (Cb q).symm ne
 have ed:([x,y]:List Str).eraseDups=[x,y]:=by
  rw[Ex,List.filter_cons,yx];simp only [Bool.not_false,Fg,Ei];rw[Ex,Ei,List.eraseDups_nil]
 rw[ed,if_neg (by simp)]
 try simp only [Gc]
 have n5:¬ (foldedForSure 8 a && foldedForSure 8 b)=true:=fun z=>by rw[z] at h5;cases h5
 have n6:¬ (constantsAlone 8 a && constantsAlone 8 b)=true:=fun z=>by rw[z] at h6;cases h6
 rw[if_neg (by simp only [Bf,List.all_nil,Fu];exact n5),if_neg (by simp only [Bf,List.all_nil,Fu];exact n6)]
theorem zxa {e:Expr}{es:List Expr}{kt:Nat}{p:Pos}{env:Env}(h:z3l e=false):swappedStores [.Tuple es kt p] e env=pure none:=by
 cases e with
 | Tuple _ _ _=>cases h
 | _=>rfl
theorem zo4 {es:List Expr}{kt:Nat}{p:Pos}{e:Expr}{l:Nat}{env:Env}:swapsWithSole [.Tuple es kt p] e l env=pure false:=by
 cases e<;>rfl
theorem z0y (HE:zbq fE) (HT:zj5 fT) (C:CxOk X S d) {tg e:Expr}{g:GS}{pos:Pos} (h:asgE fE fT S tg e=some g):PS X (.Assign [tg] e pos) (tS X.K S.mp g):=by
  cases tg with
  | Name x px =>
    refine aG fun _ qG=>?_;obtain ⟨i,hi,h⟩:=bS (show (S.wr x).bind _=_ from h);obtain ⟨w1,w2,w3⟩:=zrm C hi;refine qG ?_;clear qG;have plain:(if zgy e then (fE S e).bind fun g=>some (gSet S.mp i g) else none)=some g->PS X (.Assign [.Name x px] e pos) (tS X.K S.mp g):=fun h=>by
      split at h
      · rename_i z
        obtain⟨ge,hg,h⟩:=bS h;obtain rfl:=sI h;exact (zz1 (ndN C) w1 w2 (HE X S d C _ _ hg) (zpr z) w3).wk fun _ _ _=>zjl
      · exact noSome h
    cases e with
    | ListComp elt gens scope pc =>
      obtain⟨ge,hg,h⟩:=bS (show (zrw fE fT S elt gens scope).bind _=_ from h);have cp:=zgz HE HT C hg;split at h
      · rename_i z
        obtain rfl:=sI h;rw[Cn] at z;rcases z with z | z
        · refine aG fun Gg qG => ?_
          obtain ⟨tg,iter,ifs,gs,gi,T,tc,em,tm,e1,e2,so,pi,pf,pg,pt,pe,rd⟩:=cp.ex;refine qG ?_;clear qG;subst e1;exact (z20 (ndN C) w1 w2 pi pg pt (pe pc) (e2 pc) (z8t C z) C.calm so.kind so.cap so.fr so.nc so.nm pf w3).wk fun D σ H q=>by
            have q':=zjl q;exact rd _ _ _ q'
        · exact (zz1 (ndN C) w1 w2 (zux C cp) (swNo C z) w3).wk fun _ _ _=>zjl
      · exact noSome h
    | _=>exact plain h
  | Tuple es kt p =>
    have gen:(if z3l e then none else (zg6 S es).bind fun is=>(fE S e).bind fun g=>some (gAsg S.mp (.tp is) g))=some g->PS X (.Assign [.Tuple es kt p] e pos) (tS X.K S.mp g):=fun h=>by
      split at h
      · exact noSome h
      · rename_i z
        nofun;obtain⟨is,his,h⟩:=bS h;obtain⟨ge,hg,h⟩:=bS h;ac_rfl;obtain rfl:=sI h;obtain⟨a,b,c⟩:=zic C _ his;exact (zun (HE X S d C _ _ hg) (zvo C.calm a b c) zo4 (zxa (by simpa using z)) rfl).wk fun _ _ _=>zwk
    unfold asgE at h;simp only at h;split at h
    · rename_i x px y py a b k2 p2
      split at h
      · rename_i z
        refine aG fun _ qG=>?_;obtain ⟨i,hi,h⟩:=bS h;obtain ⟨j,hj,h⟩:=bS h;obtain ⟨ga,hga,h⟩:=bS h;obtain ⟨gb,hgb,h⟩:=bS h;refine qG ?_;clear qG;obtain rfl:=sI h;have hsw:=z7x (pt:=p) (pt2:=p2) (kt:=kt) (k2:=k2) C z;unfold zw3 at z;simp only [Ac] at z;refine aG fun _ qG=>?_;obtain ⟨⟨⟨⟨⟨⟨⟨h1,h2⟩,h3⟩,h4⟩,h5⟩,h6⟩,h7⟩,h8⟩:=z;obtain ⟨x1,_,_⟩:=zrm C hi;obtain ⟨y1,_,_⟩:=zrm C hj;refine qG ?_;clear qG;have ne:i≠j:=fun e=>by
          subst e;rw[x1] at y1;obtain rfl:=sI y1;simp at h4
        exact (z4q C.calm (ndN C) x1 y1 ne (C.loc x (by simpa using h1)) (C.loc y (by simpa using h2)) (pac (HE X S d C _ _ hga) (pac (HE X S d C _ _ hgb) zfx h8) h7) hsw zo4).wk fun _ _ _=>zw5
      · exact noSome h
    · exact gen h
  | Subscript o k p =>
    cases o with
    | Name x px =>
      have h' : (if zc9 k then (S.rd x).bind fun i=>(fE S k).bind fun gk=>(fE S e).bind fun g=>some (za7 i gk g) else none)=some g:=h;split at h'
      · rename_i z
        nofun;obtain⟨i,hi,h⟩:=bS h';obtain⟨gk,hgk,h⟩:=bS h;obtain⟨ge,hg,h⟩:=bS h;ac_rfl;obtain rfl:=sI h;exact (zun (HE X S d C _ _ hg) (zzn (zjc C hi) (HE X S d C _ _ hgk) zps (zii z)) zp1 zz8 rfl).wk fun _ _ _=>zq5
      · exact noSome h'
    | _=>exact noSome h
  | _=>exact noSome h
theorem zxe (HS:zy3 fS) (HE:zbq fE) (HT:zj5 fT):zy3 (z1o fS fE fT):=fun X S d C st g h=>by
  have pn:PassesOwn (model X.prog X.w) X.A X.env X.xe:=by rw[C.xe];exact PassesOwn.never
  cases st with
  | Return o p =>
    cases o with
    | none=>cases h
    | some e =>
      have gen:((fE S e).bind fun g=>some (gRet g))=some g->PS X (.Return (some e) p) (tS X.K S.mp g):=fun h=>by
        obtain⟨ge,hg,h⟩:=bS h;obtain rfl:=sI h;exact (zz2 (HE X S d C _ _ hg)).wk fun _ _ _=>zww
      cases e with
      | Name x px =>
        obtain⟨i,hi,h⟩:=bS (show (S.rd x).bind _=_ from h);obtain rfl:=sI h;exact (zz2 (zjc C hi)).wk fun _ _ _=>zvn
      | _=>exact gen h
  | If c a b p =>
    obtain⟨t,ht,h⟩:=bS (show (fT S c).bind _=_ from h);obtain⟨x,hx,h⟩:=bS h;obtain⟨y,hy,h⟩:=bS h;obtain rfl:=sI h;exact (z8l (HT X S d C _ _ ht) (zke HS C hx) (zke HS C hy)).wk fun _ _ _=>zyj
  | For tg it body els p =>
    cases els with
    | cons _ _=>exact noSome h
    | nil =>
      obtain⟨gi,hgi,h⟩:=bS (show (zvs fE S tg it).bind _=_ from h);obtain⟨T,hT,h⟩:=bS h;obtain⟨gb,hb,h⟩:=bS h;obtain rfl:=sI h;obtain⟨pi,pf⟩:=zo9 HE C hgi;exact (z7i pn C.calm pi (zzd C hT) (zke HS C hb) pf).wk fun _ _ _=>zyb
  | Pass p=>obtain rfl:=sI h;exact z1k.wk fun _ _ _=>zlw
  | Expr e p =>
    have h' : (if zgy e then (fE S e).bind fun g=>some (zf1 g) else none)=some g:=h;split at h'
    · rename_i z
      obtain⟨ge,hg,h⟩:=bS h';obtain rfl:=sI h;exact (z1j (HE X S d C _ _ hg) (zpr z)).wk fun _ _ _=>zvc
    · exact noSome h'
  | Assign ts e p =>
    match ts,h with
    | [tg],h=>exact z0y HE HT C h
    | [],h=>exact noSome h
    | _::_::_,h=>exact noSome h
  | AugAssign tg op e p =>
    cases tg with
    | Name x px =>
      obtain⟨i,hi,h⟩:=bS (show (S.wr x).bind _=_ from h);obtain⟨o,ho,h⟩:=bS h;obtain⟨a,ha,h⟩:=bS h;obtain rfl:=sI h;obtain⟨w1,w2,w3⟩:=zrm C hi;obtain⟨r,h1,h2⟩:=z0r (X:=X) ho;exact (z4u (ndN C) w1 w2 (zak HE C ha) h1 w3).wk fun _ _ _=>zyq h2
    | _=>exact noSome h
  | _=>exact noSome h
end
noncomputable def zvr:GS:=fun _=>none
noncomputable def zsd:Nat->Sx->Stmt->Option GS
 | 0,_,_=>some zvr
 | n+1,S,st=>some ((orS (extS (compE n) S st) (z1o (zsd n) (compE n) (compT n) S st)).getD zvr)
theorem zoo {X:Cx}{st:Stmt}{mp:List Nat}:PS X st (tS X.K mp zvr):=fun _ _ _ _ _ _ q=>by obtain⟨_,_,_,_,_,_,h,_⟩:=q;exact noSome h
theorem zh5:∀n,zy3 (zsd n)
  | 0=>fun _ _ _ _ _ _ h=>by obtain rfl:=sI h;exact zoo
  | n+1=>fun X S d C st g h=>by
    rw[zsd] at h;cases q:orS (extS (compE n) S st) (z1o (zsd n) (compE n) (compT n) S st) with
    | none=>rw[q] at h;obtain rfl:=sI h;exact zoo
    | some g'=>rw[q] at h;obtain rfl:=sI h;exact z5e (z3v (zey n).1 C) (zxe (zh5 n) (zey n).1 (zey n).2 X S d C) st _ q
structure Fd where
 nm:Str
 ps:List Str
 N:List Str
 m:List Bool
 st:Stmt
noncomputable def deep:Nat:=60
noncomputable def sxOf (T:List Fd) (bn:List Str) (Ψ:Str->Fn) (d:Nat) (t:Fd):Sx:={ N:=t.N,kd:=(zar t.st).names,bn:=bn,fs:=T.map fun u=>(u.nm,(u.m,Ψ u.nm)),mp:=mpOf t.m,top:=true,nm:=t.nm,dp:=d }
noncomputable def zaq (T:List Fd) (bn:List Str) (Ψ:Str->Fn) (d:Nat) (t:Fd):Option GS:=blk (zsd deep) (sxOf T bn Ψ d t) (zdl t.st)
noncomputable def fnAt (T:List Fd) (bn:List Str) (Ψ:Str->Fn) (d:Nat) (t:Fd):Fn:=match zaq T bn Ψ d t with
 | some g=>zaj t.m t.N.length g
 | none=>fun _=>none
noncomputable def sem (T:List Fd) (bn:List Str):Nat->Str->Fn
  | 0,_=>fun _=>none
  | d+1,x=>match T.find? (·.nm == x) with
    | some t=>fnAt T bn (sem T bn d) d t
    | none=>fun _=>none
noncomputable def zw7 (K:PySem.W.Frag) (x:Str):Bool:=match PySem.W.tabIn K x with
 | some (c,P)=>PySem.W.codeHdIn K c P
 | none=>false
theorem Fun.okC {P:Program}{w:World}{K:PySem.W.Frag}{mg:Str->Option Value}{base:Heap}{x qual:Str}{st:Stmt}{f:Addr}{fd:FuncData}{N ps:List Str}{k:Nat}{sp:Sp} (F:Fun K x qual st f fd) (S:FnScope N ps (zar st)) (len:∀vs H Q E,sp vs H Q E->vs.length=ps.length)
  (hbody:∀(A:Around) (outer:List Env) (s:Shared) (H:Hp) (vs:List V) (Q:VK) (E:XK),(Room k (A.deeper (envOfC qual (zar st) s.heap.objs.size f fd.code))/\Room (k+1) A)->sp vs H Q E ->
   ∃t,PSs (cxOf CX0 P w K mg base N qual (zar st) f fd.code A outer s H E).nox (zdl st) t/\t { nx:=fun _ H'=>Q .non H',rt:=Q } (start N vs) H):FnOk P w K mg base CX0 (k+1) f fd ps sp:=by
 nofun;obtain⟨oc,od,kV,doc,pm,an,cdv,ct,osl,rfl,lk,hcd⟩:=F.ex;ac_rfl;refine z9r lk hcd S len fun A outer s H vs Q E hr hsp=>?_;obtain⟨t,h,q⟩:=hbody A outer s H vs Q E hr hsp;exact⟨t,h.nox,q⟩
structure FdOk (K:PySem.W.Frag) (mg:Str->Option Value) (t:Fd):Prop where
 sc:FnScope t.N t.ps (zar t.st)
 m:t.m.length=t.ps.length
 ex:∃f fd,Fun K t.nm t.nm t.st f fd/\zl8 K fd t.ps []/\mg t.nm=some (.ref f)
 lam:t.nm∈lams->zw7 K t.nm=true
theorem zrk {T:List Fd}{Ψ:Str->Fn}{x:Str}{m:List Bool}{Φ:Fn} (h:(T.map fun u=>(u.nm,(u.m,Ψ u.nm))).lookup x=some (m,Φ)):∃t∈T,t.nm=x/\t.m=m/\Φ=Ψ x:=by
  induction T with
  | nil=>exact noSome h
  | cons t T ih =>
    rw[Ak,Bj] at h;cases q:x == t.nm with
    | true =>
      rw[q] at h;cases h;have:=Cb q;subst this;exact⟨t,Aq,rfl,rfl,rfl⟩
    | false =>
      rw[q] at h;obtain⟨u,h1,h2⟩:=ih h;exact⟨u,Ar _ h1,h2⟩
theorem z2a {T:List Fd} (nd:(T.map (·.nm)).Nodup) {t:Fd} (h:t∈T):T.find? (·.nm == t.nm)=some t:=by
  induction T with
  | nil=>cases h
  | cons u T ih =>
    rw[Ak,Do] at nd;rw[Dq];rcases Ax.mp h with rfl | h
    · simp
    · have:(u.nm == t.nm)=false:=by
        cases q:u.nm == t.nm with
        | false=>rfl
        | true=>exact absurd (Ay.mpr ⟨t,h,(Cb q).symm⟩) nd.1
      rw[this];exact ih nd.2 h
theorem zv7 {P:Program}{w:World}{K:PySem.W.Frag}{mg:Str->Option Value}{base:Heap}{T:List Fd}{bn:List Str} (nd:(T.map (·.nm)).Nodup) (ok:∀t∈T,FdOk K mg t) (hb:∀x∈bn,mg x=none) (kb:K.In base) (nb:base.Ns mainGlobals mg) :
    ∀(d:Nat) (t:Fd),t∈T->∀f fd,Fun K t.nm t.nm t.st f fd->mg t.nm=some (.ref f)->FnOk P w K mg base CX0 d f fd t.ps (spF K t.m (sem T bn d t.nm))
  | 0,t,_,f,fd,_,_=>⟨fun vs H Q E h=>(by obtain⟨_,_,_,_,_,_,_,_,h,_⟩:=h;cases h),fun A outer s H args us vs Q E hr he hbi hv h=>(by obtain⟨_,_,_,_,_,_,_,_,h,_⟩:=h;cases h)⟩
  | d+1,t,ht,f,fd,F,M=>by
    have o:=ok t ht;refine F.okC (k:=d) o.sc (fun vs H Q E h=>(ztz h).trans o.m) (fun A outer s H vs Q E hr h=>?_);have es:sem T bn (d+1) t.nm=fnAt T bn (sem T bn d) d t:=by
      show (match T.find? (·.nm == t.nm) with | some t=>fnAt T bn (sem T bn d) d t | none=>fun _=>none)=_;rw[z2a nd ht]
    rw[es] at h;unfold fnAt at h;cases e:zaq T bn (sem T bn d) d t with
    | none =>
      rw[e] at h;nofun;obtain⟨_,_,_,_,_,_,_,_,h,_⟩:=h;ac_rfl;exact noSome h
    | some g =>
      rw [e] at h;have C:CxOk (cxOf CX0 P w K mg base t.N t.nm (zar t.st) f fd.code A outer s H E).nox (sxOf T bn (sem T bn d) d t) d:={
        N:=rfl
        nd:=o.sc.nd
        loc:=fun x e=>e
        cel:=fun x e=>⟨e,rfl⟩
        vis:=fun x e=>e
        gl:=fun x e=>e
        calm:=rfl
        xe:=rfl
        bn:=hb
        fs:=fun x m Φ e=>by
          nofun;obtain⟨u,hu,e1,e2,e3⟩:=zrk e;ac_rfl;subst e1 e2 e3;nofun;obtain⟨fa,fb,F',B',M'⟩:=(ok u hu).ex;ac_rfl;exact⟨u.ps,(ok u hu).m.symm,⟨fa,fb,zv7 nd ok hb kb nb d u hu fa fb F' M',B',F'.kp,M'⟩⟩
        room:=hr.1
        sl:=by have:=hr.2.un;show A.units+3+16 * d+205 < cLine;omega
        dpo:=Ae _
        lam:=fun h=>by
          have q:=o.lam h;unfold zw7 at q;split at q
          · rename_i c Pt e
            refine⟨c,Pt,e,q,?_,rfl⟩;nofun;obtain⟨oc,od,kV,doc,pm,an,cdv,ct,osl,e1,lk,hcd⟩:=F.ex;ac_rfl;exact PySem.W.law_code kb nb e M (kb _ _ lk) rfl
          · cases q
        bk:=by
          show (if (zar t.st).kind.isAnnotationScope then ScopeKind.function else (zar t.st).kind)=.function;rw[o.sc.kind];rfl }
      exact⟨_,zke (zh5 deep) C e,z3d h⟩
theorem zqa {K:PySem.W.Frag}{F H:Hp}{a:Addr}{ns:List Int}{Φ:Fn}{ws' : List W}(hs:Same F H)(tb:zq1 K F (fun _ _=>False) H)(h:SqL K F a (ns.map V.int))(e:Φ [.frl (ns.map W.int)]=some (ws',(.bl true,false)))(hl:ws'.length=1){E:XK}:spF K [false] Φ [.ref a] H (fun v _=>v=.bl true) E:=by
 refine⟨F,fun _ _=>False,_,ws',_,rfl,hl,⟨rfl,hs,fun i w q=>?_,fun i w q=>?_,fun i j a w w' q=>?_,fun b o q=>q.elim,tb⟩,e,fun F' H' v _ _ z=>?_⟩
 ·cases i with
  | zero=>cases q;exact⟨_,rfl,.frl h (Reps.ofInts ns)⟩
  | succ i=>cases i<;>exact noSome q
 ·cases i with
  | zero=>cases q
  | succ i=>cases i<;>exact noSome q
 ·cases i with
  | zero=>cases q
  | succ i=>cases i<;>exact noSome q
 ·exact z.isBl
noncomputable def tabsOf (K:PySem.W.Frag):List Addr:=lams.filterMap fun x=>(PySem.W.tabIn K x).map (·.2)
theorem zi3 {K:PySem.W.Frag}{b:Addr}:b∈tabsOf K↔∃x∈lams,∃c,PySem.W.tabIn K x=some (c,b):=by
 unfold tabsOf;rw[List.mem_filterMap];constructor
 ·rintro ⟨x, hx, e⟩;cases q:PySem.W.tabIn K x with
  | none=>rw[q] at e;exact noSome e
  | some p=>rw[q] at e;obtain rfl:=sI e;exact⟨x,hx,p.1,q⟩
 ·rintro ⟨x, hx, c, e⟩;exact⟨x,hx,by rw[e];rfl⟩
noncomputable def z7w (K:PySem.W.Frag) (h:Heap):Prop:=∀x∈lams,∀c P,PySem.W.tabIn K x=some (c,P)->PySem.W.CodeHd h c P/\h.get? P=some (PySem.W.tabObj #[])
structure Start (K:PySem.W.Frag) (F H:Hp):Prop where
 sub:Same F H
 tb:zq1 K F (fun _ _=>False) H
theorem zvh {P:Program}{w:World}{K:PySem.W.Frag}{mg mb:Str->Option Value}{CX:CXT}{k:Nat}{fa a:Addr}{fd:FuncData}{x:Str}{sp:Sp}{s₁:Shared}{vs:List Value}{ns:List Int}
    (KX:K.In s₁.heap) (nt:PySem.W.noTabs K=true) (nd:z2k K) (hT:z7w K s₁.heap) (hns:s₁.heap.Ns mainGlobals mg) (hb:s₁.heap.Ns builtinsNs mb) (hbb:∀x:Str,x≠"__name__" -> mb x=bootBuiltins x) (hlim:s₁.heap.NoLimit) (hbm:∃(b:Addr) (ob:Obj),mg "__builtins__" = some (.ref b)/\b≠builtinsNs/\s₁.heap.get? b=some ob/\ob.cls=.type "module"/\ob.dict=some builtinsNs/\ob.data=.plain) (hg:s₁.gens=#[])
    (ha:s₁.heap.get? a=some { cls:=.type "list",data:=.seq vs.toArray }) (hi:IntsAre vs ns) (hl:ns.length<=sizeLine) (hr:Room k callerA)
    (Fk:∀base:Heap,K.In base->base.Ns mainGlobals mg->FnOk P w K mg base CX k fa fd [x] sp) (hbind:∀(s:Shared) (u:Value),BindsTo s fd ⟨[u],[]⟩ [(x,u)])
    (hsp:∀F H:Hp,Start K F H->SqL K F a (ns.map V.int)->sp [.ref a] H (fun v _=>v=.bl true) fun _ _ _=>False)
    (hCX:∀H e s',CX [] H s₁ (fun _ _ _=>False) e s'->False) :
    codeAny (model P w) callerA (.call (.ref fa) ⟨[.ref a],[]⟩) (fun r s'=>r=.ok (.ret (.bool true))/\OldK s₁.heap s'.heap/\s'.os=s₁.os/\AllBare s'.gens) s₁:=by
  have rv:=zj8 hi;have lenV:=hi.length;have tabAt:∀b∈tabsOf K,s₁.heap.get? b=some (PySem.W.tabObj #[]):=fun b h=>by
    nofun;obtain⟨x,hx,c,e⟩:=zi3.mp h;ac_rfl;exact (hT x hx c b e).2
  have na:a ∉ tabsOf K:=fun h=>by
    have:=tabAt a h;rw[ha] at this;cases this
  have core:∀F H:Hp,(∀b,H b=none\/(b∈tabsOf K/\H b=some (.tbl #[])/\F b=none)\/(b=a/\K.lookup a=none/\F b=H b/\∃o xs,H b=some (.frz o (.lst xs))))->(∀b,H b=none->F b=none)->(∀b∈tabsOf K,H b=some (.tbl #[]))->SqL K F a (ns.map V.int)->HOk P w H s₁.heap ->
      codeAny (model P w) callerA (.call (.ref fa) ⟨[.ref a],[]⟩) (fun r s'=>r=.ok (.ret (.bool true))/\OldK s₁.heap s'.heap/\s'.os=s₁.os/\AllBare s'.gens) s₁:=by
    intro F H hO hF hB hS hok;have base_of:∀{b:Addr}{o:Obj},s₁.heap.get? b=some o->H b=none->(hidT s₁.heap H).get? b=some o:=fun e n=>zwi e n;have noA:∀{b:Addr}{o:Obj}{es:Array DictEntry}{ep:Nat},s₁.heap.get? b=some o->o.data=.dict es ep->H b=none:=fun {b o es ep} e d=>by
      rcases hO b with z | ⟨z,_⟩ | ⟨z,_⟩
      · exact z
      · rw[tabAt b z] at e;obtain rfl:=sI e;cases d
      · subst z
        rw[ha] at e;obtain rfl:=sI e;have d' : Data.seq vs.toArray _=Data.dict es ep:=d;cases d'
    have nsK:∀{b:Addr}{m:Str->Option Value},s₁.heap.Ns b m->(hidT s₁.heap H).Ns b m:=fun {b m} ⟨o,es,ep,e,d,r⟩=>⟨o,es,ep,base_of e (noA e d),d,r⟩;have hKb:K.In (hidT s₁.heap H):=fun b o e=>base_of (KX b o e) (by
      rcases hO b with z | ⟨z,_⟩ | ⟨z,n,_⟩
      · exact z
      · have e2 := KX b o e
        rw[tabAt b z] at e2;obtain rfl:=sI e2;have:=Bg.mp nt (b,_) (PySem.W.mem_of_lookupK e);exact absurd (show false=true from this) Ah
      · subst z
        rw[n] at e;cases e)
    have hM:Mod K mg (hidT s₁.heap H):=⟨hKb,nsK hns,⟨mb,nsK hb,hbb⟩,let ⟨mc,h1,h2⟩:=hlim;⟨mc,nsK h1,h2⟩,by
      nofun;obtain⟨b,ob,b1,b2,b3,b4,b5,b6⟩:=hbm;ac_rfl;refine⟨b,ob,b1,b2,base_of b3 ?_,b4,b5,b6⟩;rcases hO b with z | ⟨z,_⟩ | ⟨z,_⟩
      · exact z
      · rw[tabAt b z] at b3;obtain rfl:=sI b3;cases b4
      · subst z;rw[ha] at b3;obtain rfl:=sI b3;exact absurd b4 (by simp)⟩
    have e0:Env0 P w K mg (hidT s₁.heap H) callerA [] s₁ H:=⟨rfl,hM,fun b o e=>z17 e,Nat.le_of_eq (zvt _ _),trivial,fun b hb=>absurd (show b∈([]:List Addr) from hb) (by simp),hok,.of_eq hg⟩;have st:Start K F H:=⟨fun b o e=>by
      rcases hO b with z | ⟨_,_,z⟩ | ⟨_,_,z,_⟩
      · rw[hF b z] at e;cases e
      · rw[z] at e;cases e
      · rw[<-z];exact e,⟨⟨nd,fun _ _ z=>z⟩,fun x hx c Pt e=>by
      have hm:Pt∈tabsOf K:=zi3.mpr ⟨x,hx,c,e⟩;refine⟨#[],hB Pt hm,?_,fun _ z=>z,trivial,fun pos cv q=>by cases q⟩;rcases hO Pt with z | ⟨_,_,z⟩ | ⟨z,_⟩
      · exact hF Pt z
      · exact z
      · subst z;exact absurd hm na⟩⟩
    refine codeAny_mono ((Fk _ hKb (nsK hns)).run callerA [] s₁ H ⟨[.ref a],[]⟩ [.ref a] [.ref a] _ _ hr e0 (hbind s₁ (.ref a)) (.cons rfl .nil) (hsp F H st hS)) fun r s' h=>?_;cases r with
    | error e=>exact (hCX H e s' h).elim
    | ok fl =>
      cases fl with
      | next=>exact False.elim h
      | brk=>exact False.elim h
      | cont=>exact False.elim h
      | ret u =>
        nofun;obtain⟨v,H',os,bare,un,hok',r',q⟩:=h;ac_rfl;have q' : v=.bl true:=q;subst q';obtain rfl:u=Value.bool true:=r';refine⟨rfl,⟨fun b o e=>?_,fun b o e=>un.there b o e (by simp)⟩,os,bare⟩;rcases hO b with z | ⟨z,z1,_⟩ | ⟨_,_,_,ob,xs,z⟩
        · exact .inl (un.keep b o e z (by intro y;exact absurd (show b∈([]:List Addr) from y) (by simp)) (by simp))
        · refine aG fun Gg qG => ?_
          obtain⟨x,hx,c,ex⟩:=zi3.mp z;obtain⟨t1,t2⟩:=hT x hx c b ex;ac_rfl;rw[e] at t2;obtain rfl:=sI t2;obtain⟨more,e2⟩:=un.tbls b #[] z1;exact .inr (.inl ⟨(t1.tab e).isCodeTable,rfl,#[],more,rfl,hok' b _ e2⟩)
        · have z2 := un.frzs b ob _ z
          obtain⟨e1,_⟩:=hok b _ z;obtain⟨e2,_⟩:=hok' b _ z2;rw[e] at e1;obtain rfl:=sI e1;exact .inl e2
  have tOk:∀b,b∈tabsOf K->∀H,ObjOk P w H s₁.heap b (.tbl #[]):=fun b h H=>tabAt b h;cases hk:K.lookup a with
  | some o =>
    have e:=KX a o hk;rw[ha] at e;obtain rfl:=sI e;refine core (fun _=>none) (fun b=>if b∈tabsOf K then some (.tbl #[]) else none) (fun b=>?_) (fun _ _=>rfl) (fun b h=>if_pos h) (.inr ⟨_,vs.toArray,_,hk,rfl,rfl,rfl,by rw[Al,lenV];exact hl,by simpa using rv⟩) (fun b u z=>?_)
    · by_cases h : b ∈ tabsOf K
      · exact .inr (.inl ⟨h,if_pos h,rfl⟩)
      · exact .inl (if_neg h)
    · by_cases h : b ∈ tabsOf K
      · have z' := (if_pos h).symm.trans z
        obtain rfl:=sI z';exact tOk b h _
      · have z' := (if_neg h).symm.trans z
        cases z'
  | none =>
    refine core (fun b=>if b=a then some (.frz { cls:=.type "list",data:=.seq vs.toArray } (.lst (ns.map V.int))) else none) (fun b=>if b=a then some (.frz { cls:=.type "list",data:=.seq vs.toArray } (.lst (ns.map V.int))) else if b∈tabsOf K then some (.tbl #[]) else none) (fun b=>?_) (fun b z=>?_) (fun b h=>?_) (.inl (.inr ⟨{ cls:=.type "list",data:=.seq vs.toArray },if_pos rfl⟩)) (fun b u z=>?_)
    · by_cases h0 : b = a
      · exact .inr (.inr ⟨h0,hk,by simp only [if_pos h0],_,_,if_pos h0⟩)
      · by_cases h : b ∈ tabsOf K
        · exact .inr (.inl ⟨h,by simp only [if_neg h0,if_pos h],if_neg h0⟩)
        · exact .inl (by simp only [if_neg h0,if_neg h])
    · by_cases h0 : b = a
      · simp only [if_pos h0] at z;cases z
      · exact if_neg h0
    · have h0 : b ≠ a := fun z => by subst z; exact na h
      simp only [if_neg h0,if_pos h]
    · by_cases h0 : b = a
      · have z' : some (HO.frz { cls := .type "list", data := .seq vs.toArray } (.lst (ns.map V.int))) = some u := by simpa only [if_pos h0] using z
        obtain rfl:=sI z';subst h0;exact⟨ha,by rw[Ad];exact hl,vs,_,rv,ha⟩
      · by_cases h : b ∈ tabsOf K
        · have z' : some (HO.tbl #[]) = some u := by simpa only [if_neg h0, if_pos h] using z
          obtain rfl:=sI z';exact tOk b h _
        · have z' : (none : Option HO) = some u := by simpa only [if_neg h0, if_neg h] using z
          cases z'
noncomputable def zu9 (K:PySem.W.Frag):Bool:=lams.all fun x=>lams.all fun x'=>match PySem.W.tabIn K x,PySem.W.tabIn K x' with
 | some p,some p'=>x == x' || !(p.2 == p'.2)
 | _,_=>true
theorem zw6 {K:PySem.W.Frag}(h:zu9 K=true):z2k K:=fun x hx x' hx' c c' P e e'=>by
 have:=Bg.mp (Bg.mp h x hx) x' hx';rw[e,e'] at this;simpa using this
theorem walk_ofT {l:PySem.W.OpenLaw}{n k:Nat}{q:Program}{loose:List Str}{XP:(Str->Option Value)->Heap->Prop}{YP:World->Heap->Prop}{d:DefRec}{K:Params->PySem.W.Frag}{CX:World->CXT}{sp:World->Sp}{x:Str}
  (hn:l.most=some n) (hn2:n<=sizeLine) (hdf:d.params.defaults=[]) (hr:Room k callerA)
  (hY:∀(w:World) (h:Heap),YP w h->(K w.params).In h)
  (nt:∀w:World,PySem.W.noTabs (K w.params)=true) (nd:∀w:World,zu9 (K w.params)=true) (hrec:∀(w:World),∀x∈lams,∀c P,PySem.W.tabIn (K w.params) x=some (c,P)->∃d,(recsOf q).find? (fun e=>e.name == x)=some d)
  (F:∀(w:World) (mg:Str->Option Value) (fa:Addr) (h:Heap),(K w.params).In h->h.Ns mainGlobals mg->mg d.name=some (.ref fa) ->
   ∃fd:FuncData,(∀(s:Shared) (u:Value),BindsTo s fd ⟨[u],[]⟩ [(x,u)]) /\
    ∀base:Heap,(K w.params).In base->base.Ns mainGlobals mg->FnOk l.prog w (K w.params) mg base (CX w) k fa fd [x] (sp w))
  (hsp:∀(w:World) (F H:Hp) (a:Addr) (ns:List Int),ns.length<=n->Start (K w.params) F H->SqL (K w.params) F a (ns.map V.int)->sp w [.ref a] H (fun v _=>v=.bl true) fun _ _ _=>False)
  (hCX:∀(w:World) (H:Hp) (s:Shared) (e:Value) (s' : Shared),CX w [] H s (fun _ _ _=>False) e s'->False) :
  PySem.W.WalkO q loose XP YP l.row.toRowW d [] (fun f vs=>PySem.call f vs):=by
 refine Att.attach_call hn hdf fun w s₀ s₁ mg mb fa o pm cd doc a vs ns G Y ho hd hcd hmg hobj hints hlen hg=>?_;have KX:=hY w _ Y;obtain⟨fd,hb,hF⟩:=F w mg fa _ KX G.T.g hmg;refine zvh KX (nt w) (zw6 (nd w)) (fun x hx c Pt e=>?_) G.T.g G.T.b G.T.builtins G.T.nolimit G.T.bmain hg hobj hints (Cq hlen hn2) hr hF hb (fun F H hO hS=>hsp w F H a ns hlen hO hS) fun H e s'=>hCX w H s₁ e s';obtain⟨d,hd⟩:=hrec w x hx c Pt e;exact PySem.W.tab_of G.T KX hd e
theorem zum (i j:Int):oAdd (.int i) (.int j)=#v[(i+j),0]:=rfl
theorem zs9 {i j:Int}(h:cMul i j=true):oMult (.int i) (.int j)=#v[(i * j),0]:=by
 show (match (if cMul i j then #v[W.int (i * j),6] else none) with | some p=>some p | none=>_)=_;rw[if_pos h]
theorem oMult_l {i j:Int}(h1:-(2 ^ 64) < i)(h2:i < 2 ^ 64):oMult (.int i) (.int j)=#v[(i * j),0]:=zs9 (by
 unfold cMul;rw[Cn,Ac];exact .inl ⟨Ag h1,Ag h2⟩)
theorem zmp {i j:Int}(h1:-(2 ^ 64) < j)(h2:j < 2 ^ 64):oMult (.int i) (.int j)=#v[(i * j),0]:=zs9 (by
 unfold cMul;rw[Cn,Ac,Ac];exact .inr ⟨Ag h1,Ag h2⟩)
theorem zur {i j:Int}(h1:Builtin.Int.intBits i<=2 ^ 20)(h2:Builtin.Int.intBits j<=2 ^ 20):oMult (.int i) (.int j)=#v[(i * j),0]:=by
 have h:zqp i j=true:=by
  unfold zqp;rw[Ac];exact⟨Ag h1,Ag h2⟩
 show (match (if cMul i j then #v[W.int (i * j),6] else none) with | some p=>some p | none=>(match (if zqp i j then #v[W.int (i * j),6] else none) with | some p=>some p | none=>_))=_;rw[if_pos h];split<;>simp_all
theorem zv0 {xs:List W}{k:Int}(h:-(2 ^ 63)<=k/\k < 2 ^ 63/\xs.length * k.toNat<=sizeLine):oMult (.lst xs) (.int k)=#v[(List.replicate k.toNat xs).flatten,2]:=by
 show (if -(2 ^ 63)<=k/\k < 2 ^ 63/\xs.length * k.toNat<=sizeLine then some (W.lst (List.replicate k.toNat xs).flatten,true) else none)=_;rw[if_pos h]
theorem zne {xs ys:List W}(h:xs.length+ys.length<=sizeLine):oAdd (.lst xs) (.lst ys)=#v[(xs++ys),2]:=by
 show (match (if xs.length+ys.length<=sizeLine then #v[W.lst (xs++ys),5] else none) with | some p=>some p | none=>_)=_;rw[if_pos h]
theorem z6v {i j:Int}(h0:0 < j)(h:j < 2 ^ 200):cDiv i j=true:=by
 unfold cDiv;rw[Ac];refine⟨Ag h0,Ag ?_⟩;have hn:j.natAbs≠0:=by omega
 have h1:j.natAbs < 2 ^ 200:=by
  have:((j.natAbs:Nat):Int) < ((2 ^ 200:Nat):Int):=by
   rw[Int.natCast_pow];have e:((j.natAbs:Nat):Int)=j:=by omega
   rw[e];exact h
  exact Int.ofNat_lt.mp this
 exact Be ((Nat.log2_lt hn).mpr h1) #v[0,9]
theorem zwd {i j:Int}(h0:0 < j)(h:j < 18446744073709551617):cDiv i j=true:=z6v h0 (Int.lt_of_lt_of_le h #v[0,9])
theorem z37 {i j:Int}(h0:0<=j)(h1:j<=1000000)(h2:i.natAbs < 2 ^ 64):cPow i j=true:=by
 unfold cPow;rw[Ac,Ac];exact⟨⟨Ag h0,Ag h1⟩,Ag h2⟩
theorem zo6 {mp:List Nat}{T:Tg}{body:GS} (P:Nat->En->Prop):∀(ws:List W) (k:Nat) (en:En),P k en->(∀i w e,ws[i]?=some w->P (k+i) e->∃e1 e2,tgSet mp T w e=some e1/\(body e1=some (e2,.nx)\/body e1=some (e2,.cnt))/\P (k+i+1) e2) ->
    ∃en',zf0 mp T body ws en=some (en',.nx)/\P (k+ws.length) en'
  | [],k,en,h0,_=>⟨en,rfl,h0⟩
  | w::ws,k,en,h0,hs=>by
    refine aG fun _ qG=>?_;obtain ⟨e1,e2,h1,h2,h3⟩:=hs 0 w en rfl h0;refine qG ?_;clear qG;obtain ⟨en',h4,h5⟩:=zo6 P ws (k+1) e2 h3 fun i u e hu hp=>by
      have:=hs (i+1) u e (by simpa using hu) (by rw[show k+(i+1)=k+1+i by omega];exact hp);rw[show k+(i+1)+1=k+1+i+1 by omega] at this;exact this
    refine⟨en',?_,by rw[show k+(w::ws).length=k+1+ws.length by rw[Bb];omega];exact h5⟩;show (tgSet mp T w en).bind _=_;rw[h1];show (match body e1 with | some (e2,.nx)=>zf0 mp T body ws e2 | some (e2,.cnt)=>zf0 mp T body ws e2 | some (e2,.brk)=>some (e2,.nx) | some (e2,.ret r)=>some (e2,.ret r) | none=>none)=_;rcases h2 with h2 | h2<;>(rw[h2];exact h4)
theorem zbi {mp:List Nat}{T:Tg}{it:GL}{body:GS} (P:Nat->En->Prop) {en e0:En}{ws:List W} (hi:it en=some (e0,ws)) (h0:P 0 e0) (hs:∀i w e,ws[i]?=some w->P i e->∃e1 e2,tgSet mp T w e=some e1/\(body e1=some (e2,.nx)\/body e1=some (e2,.cnt))/\P (i+1) e2) :
  ∃en',gFor mp T it body en=some (en',.nx)/\P ws.length en':=by
 obtain⟨en',h1,h2⟩:=zo6 P ws 0 e0 h0 fun i w e hw hp=>by
  rw[Cj] at hp ⊢;exact hs i w e hw hp
 refine⟨en',?_,by rw[Cj] at h2;exact h2⟩;unfold gFor;rw[hi];exact h1
theorem zk5 {mp:List Nat}{T:Tg}{tc:GT}{te:GE} (P:Nat->En->List W->Prop):∀(ws:List W) (k:Nat) (ce:En) (dn:List W),P k ce dn ->
    (∀i w c dn,ws[i]?=some w->P (k+i) c dn->∃c1,tgSet mp T w c=some c1/\((∃c2 c3 r,tc c1=#v[c2,5]/\te c2=some (c3,r)/\P (k+i+1) c3 (dn++[r.1]))\/∃c2,tc c1=#v[c2,6]/\P (k+i+1) c2 dn)) ->
    ∃ce' rest,zg0 mp T tc te ws ce=some (ce',rest)/\P (k+ws.length) ce' (dn++rest)
  | [],k,ce,dn,h0,_=>⟨ce,[],rfl,by rw[Br];exact h0⟩
  | w::ws,k,ce,dn,h0,hs=>by
    obtain ⟨c1,h1,h2⟩:=hs 0 w ce dn rfl h0;have next:∀c3 dn',P (k+1) c3 dn'->∃ce' rest,zg0 mp T tc te ws c3=some (ce',rest)/\P (k+1+ws.length) ce' (dn'++rest):=fun c3 dn' h=>zk5 P ws (k+1) c3 dn' h fun i u c d hu hp=>by
      have:=hs (i+1) u c d (by simpa using hu) (by rw[show k+(i+1)=k+1+i by omega];exact hp);rw[show k+(i+1)+1=k+1+i+1 by omega] at this;exact this
    have el:k+(w::ws).length=k+1+ws.length:=by rw[Bb];omega
    rcases h2 with ⟨c2,c3,r,h3,h4,h5⟩ | ⟨c2,h3,h5⟩
    · obtain ⟨ce', rest, h6, h7⟩ := next c3 _ h5
      refine⟨ce',r.1::rest,?_,by rw[el];rw[Az] at h7;exact h7⟩;show (tgSet mp T w ce).bind _=_;rw[h1];show (match tc c1 with | #v[c2,5]=>(te c2).bind fun p=>(zg0 mp T tc te ws p.1).bind fun q=>some (q.1,p.2.1::q.2) | #v[c2,6]=>zg0 mp T tc te ws c2 | none=>none)=_;rw[h3];show (te c2).bind _=_;rw[h4];show (zg0 mp T tc te ws c3).bind _=_;rw[h6]
      rfl
    · obtain ⟨ce', rest, h6, h7⟩ := next c2 _ h5
      refine⟨ce',rest,?_,by rw[el];exact h7⟩;show (tgSet mp T w ce).bind _=_;rw[h1];show (match tc c1 with | #v[c2,5]=>(te c2).bind fun p=>(zg0 mp T tc te ws p.1).bind fun q=>some (q.1,p.2.1::q.2) | #v[c2,6]=>zg0 mp T tc te ws c2 | none=>none)=_;rw[h3];exact h6
theorem zf5 {cap:Cap}{T:Tg}{it:GL}{tc:GT}{te:GE} (P:Nat->En->List W->Prop) {en e0:En}{ws:List W} (hi:it en=some (e0,ws)) (hn:zce cap=true) (hz:ws.length<=sizeLine) (h0:P 0 (zf2 cap e0) [])
  (hs:∀i w c dn,ws[i]?=some w->P i c dn->∃c1,tgSet (capKeep cap) T w c=some c1/\((∃c2 c3 r,tc c1=#v[c2,5]/\te c2=some (c3,r)/\P (i+1) c3 (dn++[r.1]))\/∃c2,tc c1=#v[c2,6]/\P (i+1) c2 dn)) :
  ∃ce' out,zck cap T it tc te en=some (zbb cap e0 ce',(.lst out,true))/\P ws.length ce' out:=by
 obtain⟨ce',rest,h1,h2⟩:=zk5 P ws 0 (zf2 cap e0) [] h0 fun i w c dn hw hp=>by
  rw[Cj] at hp ⊢;exact hs i w c dn hw hp
 refine⟨ce',rest,?_,by rw[Cj] at h2;exact h2⟩;unfold zck;rw[hi];show (if zce cap && decide (ws.length<=sizeLine) then _ else none)=_;rw[if_pos (by rw[hn,Ag hz];rfl),h1]
 rfl
theorem zf3 {lo:Int}{n i:Nat}{w:W} (h:(rngW lo n)[i]?=some w):i < n/\w=.int (lo+i):=by
  unfold rngW at h;rw[Au] at h;cases q:(List.range n)[i]? with
  | none=>rw[q] at h;exact noSome h
  | some k =>
    rw[q] at h;obtain⟨hl,e⟩:=Am.mp q;rw[Ct] at hl;rw[List.getElem_range] at e;subst e;exact⟨hl,(sI h).symm⟩
theorem zen (lo:Int)(n:Nat):(rngW lo n).length=n:=by unfold rngW;rw[Ad,Ct]
theorem zdc {xs:List W}{i:Nat}{x:W}(h:xs[i]?=some x):atI xs (i:Int)=some x:=z1t h
theorem zuv {en:En}:zcl [] [] en=some []:=rfl
theorem zt7 {m:List Bool}{ws:List W}{en:En}{x w:W}:zcl (true::m) (x::ws) (#v[w,5]::en)=(zcl m ws en).bind fun r=>some (w::r):=rfl
theorem zsk {m:List Bool}{ws:List W}{en:En}{w:W}{o:Option (W × Bool)}:zcl (false::m) (w::ws) (o::en)=(zcl m ws en).bind fun r=>some (w::r):=rfl
noncomputable def HS (k:Nat) (w:W):Prop:=∃a b c:Int,w=.lst [.int a,.int b,.int c]/\0<=a/\0<=b/\b < MM/\0<=c/\c<=k
theorem HS.mono {k k' : Nat}{w:W}(h:HS k w)(hk:k<=k'):HS k' w:=by
 obtain⟨a,b,c,e,h1,h2,h3,h4,h5⟩:=h;exact⟨a,b,c,e,h1,h2,h3,h4,by omega⟩
noncomputable def zhy (Φ:Fn):Prop:=∀(k:Nat) (st:W) (n:Int),HS k st->k < big->0 < n->n < 1073741824->∃st' r,Φ [st,.int n]=some ([st',.int n],(.int r,false))/\HS (k+1) st'/\0<=r/\r < n
noncomputable def zr6 (Ψ:Str->Fn):GS:=(gSeq (gIfS (zan (gOp2 (oI yes2 fun i j=>.bl (decide (j < i))) (gArg (gOp2 oIx (zaa 0) #v[0])) #v[0])) (gSeq (gSet [0] 2 (gOp2 #v[0,0,2] (gArg (gOp2 oIx (zaa 0) #v[0])) (zaa 1))) (gSeq (za7 0 (gC (.int 0)) (gOp2 #v[0,0,3] (gArg (gOp2 oIx (zaa 0) #v[0])) (zaa 1))) (zdi [0] 2))) zb3) (gSeq (za7 0 (gC (.int 2)) (gOp2 oAdd (gArg (gOp2 oIx (zaa 0) #v[2])) #v[1])) (gSeq (gSet [0] 3 (gOp2 #v[0,0,2] (gArg (gOp2 oMult (gArg (gOp2 oAdd (gArg (gOp2 oAdd (gArg (gOp2 oIx (zaa 0) #v[1])) (gArg (gOp2 oMult (gArg (gOp2 oMult #v[65537] (gArg (gOp2 oIx (zaa 0) #v[2])))) (gArg (gOp2 oIx (zaa 0) #v[2])))))) #v[11])) #v[48271])) #v[2305843009213693921])) (gSeq (gSet [0] 3 (gOp2 #v[0,0,2] (gArg (gOp2 oMult (zaa 3) (gArg (gOp2 oAdd (gArg (gOp2 #v[0,0,2] (zaa 3) #v[1000003])) (gArg (gOp2 oMult #v[99991] (gArg (gOp2 oIx (zaa 0) #v[2])))))))) #v[2305843009213693907])) (gRet (gOp2 #v[0,0,2] (gArg (gOp2 oAdd (gArg (gOp2 #v[0,0,3] (zaa 3) #v[97])) (gArg (gOp2 #v[0,0,3] (zaa 3) #v[1000033])))) (zaa 1)))))))
theorem z2n (Ψ:Str->Fn):zhy (zaj [true,false] 4 (zr6 Ψ)):=by
 rintro k st n ⟨a,b,c,rfl,h0,h1,h2,h3,h4⟩ hk n0 n1;have hb:(k:Int) < 1099511627776:=by have:k < 1099511627776:=hk;omega
 by_cases c1:0 < a
 ·refine⟨.lst [.int (a / n), .int b, .int c], a % n, ?_, ⟨_, _, _, rfl, Int.ediv_nonneg h0 #v[], h1, h2, h3, by omega⟩, Gb _ #v[], Fb _ n0⟩;have hd:cDiv a n=true:=zwd n0 #v[];simp [zaj,zr6,za8,gSeq,gIfS,zan,gOp2,gArg,zaa,gC,resA,oI,yes2,oIx,seqW,atI,ixN,gSet,za7,zdi,zuv,zt7,zsk,c1,n0,hd]
 ·have e1 : oMult (.int 65537) (.int (c + 1)) = some (.int (65537 * (c + 1)), false) := oMult_l #v[0,9] #v[0,9];have e2:oMult (.int (65537 * (c+1))) (.int (c+1))=#v[(65537 * (c+1) * (c+1)),0]:=zmp #v[] #v[];have e3:oMult (.int (b+65537 * (c+1) * (c+1)+11)) (.int 48271)=#v[((b+65537 * (c+1) * (c+1)+11) * 48271),0]:=zmp #v[0,9] #v[0,9];generalize hx:(b+65537 * (c+1) * (c+1)+11) * 48271=x0 at e3;have e4:oMult (.int 99991) (.int (c+1))=#v[(99991 * (c+1)),0]:=oMult_l #v[0,9] #v[0,9];have x1:0<=x0 % 2305843009213693921:=Gb _ #v[0,9];have x2:x0 % 2305843009213693921 < 2305843009213693921:=Fb _ #v[0,9];have e5:oMult (.int (x0 % 2305843009213693921)) (.int (x0 % 2305843009213693921 % 1000003+99991 * (c+1)))=#v[(x0 % 2305843009213693921 * (x0 % 2305843009213693921 % 1000003+99991 * (c+1))),0]:=oMult_l #v[] #v[];have d1:∀i,cDiv i 97=true:=fun i=>zwd #v[0,9] #v[0,9];have d2:∀i,cDiv i 1000033=true:=fun i=>zwd #v[0,9] #v[0,9];refine⟨.lst [.int a,.int b,.int (c+1)],(x0 % 2305843009213693921 * (x0 % 2305843009213693921 % 1000003+99991 * (c+1)) % 2305843009213693907 / 97+x0 % 2305843009213693921 * (x0 % 2305843009213693921 % 1000003+99991 * (c+1)) % 2305843009213693907 / 1000033) % n,?_,⟨_,_,_,rfl,h0,h1,h2,by omega,by omega⟩,Gb _ #v[],Fb _ n0⟩
  ·simp [zaj,zr6,za8,gSeq,gIfS,zan,gOp2,gArg,zaa,gC,resA,oI,yes2,oIx,seqW,atI,ixN,gSet,za7,gRet,zb3,zuv,zt7,zsk,c1,n0,zum,e1,e2,e3,e4,e5,d1,d2]
theorem seq_nx {a b:GS}{en e1:En}(h:a en=some (e1,.nx)):gSeq a b en=b e1:=by unfold gSeq;rw[h]
theorem zuk {a b:GS}{en e1:En}{r:W × Bool}(h:a en=some (e1,.ret r)):gSeq a b en=some (e1,.ret r):=by unfold gSeq;rw[h]
theorem zfv {mp:List Nat}{i:Nat}{g:GE}{en e1:En}{r:W × Bool}(h:g en=some (e1,r))(hi:(mp.contains i || !decide (i < e1.length))=false):gSet mp i g en=some (e1.set i (some r),.nx):=by
 unfold gSet;rw[h];show (if (mp.contains i || !decide (i < e1.length))=true then _ else _)=_;rw[hi]
 rfl
theorem zxi {c:GT}{a b:GS}{en e1:En}(h:c en=#v[e1,5]):gIfS c a b en=a e1:=by unfold gIfS;rw[h]
theorem z7v {c:GT}{a b:GS}{en e1:En}(h:c en=#v[e1,6]):gIfS c a b en=b e1:=by unfold gIfS;rw[h]
theorem zvy {g:GE}{en e1:En}{b f:Bool}(h:g en=some (e1,(.bl b,f))):zan g en=some (e1,b):=by unfold zan;rw[h]
theorem zot {g:GE}{en e1:En}{r:W × Bool}(h:g en=some (e1,r)):gRet g en=some (e1,.ret r):=by unfold gRet;rw[h];rfl
theorem zwe {g:GE}{en e1:En}{r:W × Bool}(h:g en=some (e1,r)):zf1 g en=some (e1,.nx):=by unfold zf1;rw[h];rfl
theorem zbm {g:GE}{en e1:En}{r:W × Bool}(h:g en=some (e1,r)):gArg g en=some (e1,.inl r.1):=by unfold gArg;rw[h];rfl
theorem zz5 {a:GA}{as:GAs}{en e1 e2:En}{x:W ⊕ Nat}{xs:List (W ⊕ Nat)}(h:a en=some (e1,x))(h2:as e1=some (e2,xs)):gCns a as en=some (e2,x::xs):=by
 unfold gCns;rw[h];show (as e1).bind _=_;rw[h2]
 rfl
theorem zbd {o:O2}{a b:GA}{en e1 e2:En}{x y:W ⊕ Nat}{w u:W}{r:W × Bool}(h1:a en=some (e1,x))(h2:b e1=some (e2,y))(h3:resA e2 x=some w)(h4:resA e2 y=some u)(h5:o w u=some r):gOp2 o a b en=some (e2,r):=by
 unfold gOp2;rw[h1];show (b e1).bind _=_;rw[h2];show (resA e2 x).bind _=_;rw[h3];show (resA e2 y).bind _=_;rw[h4];show (o w u).bind _=_;rw[h5]
 rfl
theorem zz0 {o:ON}{as:GAs}{en e1:En}{xs:List (W ⊕ Nat)}{ws:List W}{r:W × Bool}(h1:as en=some (e1,xs))(h2:za3 e1 xs=some ws)(h3:o ws=some r):gOpN o as en=some (e1,r):=by
 unfold gOpN;rw[h1];show (za3 e1 xs).bind _=_;rw[h2];show (o ws).bind _=_;rw[h3]
 rfl
theorem za2 {m:List Bool}{n:Nat}{g:GS}{ws ws' : List W}{en:En}{r:W × Bool}(hl:ws.length=m.length)(h:g (za8 m ws++List.replicate (n - m.length) none)=some (en,.ret r))(ho:zcl m ws en=some ws'):zaj m n g ws=some (ws',r):=by
 unfold zaj;rw[if_pos hl,h];show (zcl m ws en).bind _=_;rw[ho]
 rfl
theorem zcm:∀(ws:List W) (i:Nat),zat (zba (ws.map Sum.inl)) i=none
  | [],i=>rfl
  | w::ws,i=>by
    have:=zcm ws i;unfold zat zba at this ⊢;rw[Ak,Ak,List.findIdx?_cons,this]
    rfl
theorem zgf (ws:List W):zce (zba (ws.map Sum.inl))=true:=by
  unfold zce;refine Bg.mpr fun j _=>?_;have:∀i,(zba (ws.map Sum.inl))[j]?≠some (some i):=fun i=>zc7 (zcm ws i) j;cases q:(zba (ws.map Sum.inl))[j]? with
  | none=>rfl
  | some o =>
    cases o with
    | none=>rfl
    | some i=>exact absurd q (this i)
theorem zta {cap:Cap}{en ce:En}(h:∀i,zat cap i=none):zbb cap en ce=en:=by
 unfold zbb;apply Fo;intro i;rw[List.getElem?_mapIdx];cases en[i]? with
 | none=>rfl
 | some x=>simp only [Fy,h i]
theorem zby (en:En):∀ws:List W,za3 en (ws.map Sum.inl)=some ws
 | []=>rfl
 | w::ws=>by show (some w).bind _=_;show (za3 en (ws.map Sum.inl)).bind _=_;rw[zby en ws];rfl
theorem zem (en:En)(ws:List W):zau en (ws.map Sum.inl)=true:=by
 unfold zau;refine Bg.mpr fun x hx=>?_;obtain⟨w,_,rfl⟩:=Ay.mp hx
 rfl
theorem zk9 {m:List Bool}{Φ:Fn}{as:GAs}{en e1:En}{ws ws' : List W}{r:W × Bool}(h:as en=some (e1,ws.map Sum.inl))(hm:(ws.map fun _=>false)=m)(hΦ:Φ ws=some (ws',r))(hl:ws'.length=ws.length):zae m Φ as en=some (e1,r):=by
 unfold zae;rw[h];show (if (decide ((ws.map Sum.inl).map isR=m) && zau e1 (ws.map Sum.inl) && zce (zba (ws.map Sum.inl)))=true then _ else _)=_;have e:(ws.map Sum.inl).map isR=m:=by rw[<-hm,Ca];rfl
 rw[Ag e,zem,zgf];show (za3 e1 (ws.map Sum.inl)).bind _=_;rw[zby];show (Φ ws).bind _=_;rw[hΦ];show (if ws'.length=m.length then _ else _)=_;rw[if_pos (by rw[hl,<-hm,Ad]),zta (zcm ws)]
theorem zpz {m:List Bool}{Φ:Fn}{as:GAs}{en e1:En}{i:Nat}{ws wz:List W}{st st' : W}{r:W × Bool} (h:as en=some (e1,.inr i::ws.map Sum.inl)) (hm:(true::ws.map fun _=>false)=m) (hi:e1[i]?=some (some (st,true))) (hΦ:Φ (st::ws)=some (st' :: wz,r)) (hl:wz.length=ws.length):zae m Φ as en=some (e1.set i (some (st',true)),r):=by
  have cp:∀j,zat (zba (.inr i::ws.map Sum.inl)) j=if j=i then some 0 else none:=fun j=>by
    have:=zcm ws j;unfold zat zba at this ⊢;rw[Ak,List.findIdx?_cons];by_cases e:j=i
    · subst e;simp
    · have : (some i == some j) = false := by simp; exact fun z => e z.symm
      simp only [this];rw[if_neg e]
      simp_all
  have nd:zce (zba (.inr i::ws.map Sum.inl))=true:=by
    unfold zce;refine Bg.mpr fun j _=>?_;cases j with
    | zero =>
      show (match (zba (.inr i::ws.map Sum.inl))[0]? with | some (some k)=>zat (zba (.inr i::ws.map Sum.inl)) k == some 0 | _=>true)=true;show (zat (zba (.inr i::ws.map Sum.inl)) i == some 0)=true;rw[cp i,if_pos rfl]
      rfl
    | succ j =>
      have:∀k,(zba (ws.map Sum.inl))[j]?≠some (some k):=fun k=>zc7 (zcm ws k) j;have e:(zba (.inr i::ws.map Sum.inl))[j+1]?=(zba (ws.map Sum.inl))[j]?:=rfl;rw[e];cases q:(zba (ws.map Sum.inl))[j]? with
      | none=>rfl
      | some o =>
        cases o with
        | none=>rfl
        | some k=>exact absurd q (this k)
  unfold zae;rw[h];show (if (decide ((.inr i::ws.map Sum.inl).map isR=m) && zau e1 (.inr i::ws.map Sum.inl) && zce (zba (.inr i::ws.map Sum.inl)))=true then _ else _)=_;have e:(Sum.inr i::ws.map Sum.inl).map isR=m:=by rw[<-hm,Ak,Ca];rfl
  have ow:zau e1 (.inr i::ws.map Sum.inl)=true:=by
    have:=zem e1 ws;unfold zau at this ⊢;rw[Bf,this];simp only [hi,Fu]
  rw [Ag e,ow,nd];have rs:za3 e1 (.inr i::ws.map Sum.inl)=some (st::ws):=by
    show (resA e1 (.inr i)).bind _=_;have:resA e1 (.inr i)=some st:=by unfold resA;simp only [hi]
    rw[this];show (za3 e1 (ws.map Sum.inl)).bind _=_;rw[zby]
    rfl
  show (za3 e1 (.inr i::ws.map Sum.inl)).bind _=_;rw[rs];show (Φ (st::ws)).bind _=_;rw[hΦ];show (if (st' :: wz).length=m.length then _ else _)=_;rw[if_pos (by rw[<-hm,Bb,Bb,Ad,hl])];refine congrArg some (congrArg (·,r) ?_);unfold zbb;apply Fo;intro j;rw[List.getElem?_mapIdx];have hi' : i < e1.length:=(Am.mp hi).1;by_cases ej:j=i
  · subst ej
    rw[Di hi',hi];simp only [Fy,cp j,if_pos];rw[<-hm]
    rfl
  · rw [Cy (Ne.symm ej)]
    cases e1[j]? with
    | none=>rfl
    | some x=>simp only [Fy,cp j,if_neg ej]
theorem zgu {m:List Bool}{Φ:Fn}{as:GAs}{en:En}{i:Nat}{ws wz:List W}{st st' : W}{r:W × Bool}(h:as en=some (en,.inr i::ws.map Sum.inl))(hm:(true::ws.map fun _=>false)=m)(hi:en[i]?=some (#v[st,5]))(hΦ:Φ (st::ws)=some (st' :: wz,r))(hl:wz.length=ws.length):zae m Φ as en=some (en.set i (#v[st',5]),r):=zpz h hm hi hΦ hl
theorem zs2 {a w:W}{ws:List W}{i:Int}(h:seqW a=some ws)(h2:atI ws i=some w):oIx a (.int i)=#v[w,6]:=by
 unfold oIx;cases a<;>simp_all
theorem oI_t {c:Int->Int->Bool}{g:Int->Int->W}{i j:Int}(h:c i j=true):oI c g (.int i) (.int j)=#v[g i j,6]:=by
 show (if c i j then #v[g i j,6] else none)=_;rw[if_pos h]
theorem set_0 {mp:List Nat}{i:Nat}{g:GE}{en:En}{r:W × Bool}(h:g en=some (en,r))(hi:(mp.contains i || !decide (i < en.length))=false):gSet mp i g en=some (en.set i (some r),.nx):=zfv h hi
theorem arg_0 {g:GE}{en:En}{r:W × Bool}(h:g en=some (en,r)):gArg g en=some (en,.inl r.1):=zbm h
theorem op2_0 {o:O2}{a b:GA}{en:En}{x y:W ⊕ Nat}{w u:W}{r:W × Bool}(h1:a en=some (en,x))(h2:b en=some (en,y))(h3:resA en x=some w)(h4:resA en y=some u)(h5:o w u=some r):gOp2 o a b en=some (en,r):=zbd h1 h2 h3 h4 h5
theorem z86 {g:GE}{en:En}{r:W × Bool}(h:g en=some (en,r)):gRet g en=some (en,.ret r):=zot h
theorem z42 {g:GE}{en:En}{b f:Bool}(h:g en=some (en,(.bl b,f))):zan g en=some (en,b):=zvy h
theorem z5m {m:List Bool}{Φ:Fn}{as:GAs}{en:En}{ws ws' : List W}{r:W × Bool}(h:as en=some (en,ws.map Sum.inl))(hm:(ws.map fun _=>false)=m)(hΦ:Φ ws=some (ws',r))(hl:ws'.length=ws.length):zae m Φ as en=some (en,r):=zk9 h hm hΦ hl
theorem zvk {i:Nat}{k g:GE}{en:En}{w:W}{ws:List W}{n:Int}{j:Nat}{f f2:Bool}(h:g en=some (en,(w,f)))(hk:k en=some (en,(.int n,f2)))(hi:en[i]?=some (#v[ws,2]))(hj:ixN ws.length n=some j):za7 i k g en=some (en.set i (#v[(ws.set j w),2]),.nx):=by
 unfold za7;simp only [h,Db,hi,hk,hj]
theorem z43 {i:Nat}{g:GE}{en e1:En}{us ws:List W}{r:W × Bool}(h0:en[i]?=some (#v[us,2]))(h:g en=some (e1,r))(h1:e1[i]?=some (#v[ws,2]))(hz:ws.length < sizeLine):gApp i g en=some (e1.set i (#v[(ws++[r.1]),2]),(.non,false)):=by
 unfold gApp;simp only [h0,h,Db,h1];rw[if_pos hz]
noncomputable def z4t (Ψ:Str->Fn):GS:=(gSeq (gSet [0] 2 (zae [true,false] (Ψ "_law_take") (gCns (zaa 0) (gCns #v[4] gA0)))) (gSeq (gIfS (zan (gOp2 oEq (zaa 2) #v[3])) (gRet (gOp2 oMult (gArg (zap (gCns (gArg (zae [true,false] (Ψ "_law_take") (gCns (zaa 0) (gCns #v[2] gA0)))) gA0))) (zaa 1))) zb3) (gSeq (gSet [0] 3 (zap gA0)) (gSeq (gFor [0] (.nm 4) (zeg (gCns (zaa 1) gA0)) (gSeq (gSet [0] 5 (zae [true,false] (Ψ "_law_take") (gCns (zaa 0) (gCns (gArg (gOp2 oIx (gArg (zap (gCns #v[2] (gCns #v[5] (gCns #v[5] gA0))))) (zaa 2))) gA0)))) (zf1 (gApp 3 (gOp2 oIx (gArg (zap (gCns #v[5,4] (gCns (gArg (gOpN oInt (gCns (gArg (gOp2 oEq (zaa 5) #v[0])) gA0))) (gCns (gArg (gOpN oInt (gCns (gArg (gOp2 (oI yes2 fun i j=>.bl (decide (j < i))) (zaa 5) #v[0])) gA0))) gA0))))) (zaa 2)))))) (zdi [0] 3)))))
noncomputable def zze (Φ:Fn):Prop:=∀(k:Nat) (st:W) (n:Int),HS k st->k+100 < big->0<=n->n<=64->∃st' xs,Φ [st,.int n]=some ([st',.int n],(.lst (xs.map W.int),true))/\HS (k+66) st'/\(xs.length:Int)=n/\Bits xs
theorem three {r:Int}(h0:0<=r)(h:r < 4)(h3:r≠3):r=0\/r=1\/r=2:=by omega
theorem zou {α:Type}(x:α):∀n:Nat,(List.replicate n [x]).flatten=List.replicate n x
 | 0=>rfl
 | n+1=>by rw[Cr,Du,zou x n];rfl
theorem z1s {Ψ:Str->Fn}(hT:zhy (Ψ "_law_take")):zze (zaj [true,false] 6 (z4t Ψ)):=by
 intro k st n hs hk n0 n1;have hz:(64:Nat)<=sizeLine:=by decide
 nofun;obtain⟨st1,way,e1,h1,h2,h3⟩:=hT k st 4 hs #v[] #v[0,9] #v[0,9];ac_rfl;have c1:zae [true,false] (Ψ "_law_take") (gCns (zaa 0) (gCns #v[4] gA0)) [#v[st,5],#v[n,0],none,none,none,none]=some ([#v[st1,5],#v[n,0],none,none,none,none],(.int way,false)):=zgu (i:=0) (ws:=[.int 4]) (wz:=[.int 4]) rfl rfl rfl e1 rfl;have s1:=zfv (mp:=[0]) (i:=2) c1 rfl;by_cases c3:way=3
 ·subst c3;refine aG fun _ qG=>?_;obtain ⟨st2,b,e2,g1,g2,g3⟩:=hT (k+1) st1 2 h1 (by omega) (by decide) (by decide);refine qG ?_;clear qG;have c2:zae [true,false] (Ψ "_law_take") (gCns (zaa 0) (gCns (gArg (gC (.int 2))) gA0)) [some (st1,true),some (.int n,false),some (.int 3,false),none,none,none]=some ([some (st2,true),some (.int n,false),some (.int 3,false),none,none,none],(.int b,false)):=zgu (i:=0) (ws:=[.int 2]) (wz:=[.int 2]) rfl rfl rfl e2 rfl;have l2:zap (gCns (gArg (zae [true,false] (Ψ "_law_take") (gCns (zaa 0) (gCns (gArg (gC (.int 2))) gA0)))) gA0) [some (st1,true),some (.int n,false),some (.int 3,false),none,none,none]=some ([some (st2,true),some (.int n,false),some (.int 3,false),none,none,none],(.lst [.int b],true)):=by
   unfold zap;rw[zz5 (zbm c2) (show gA0 _=_ from rfl)]
   rfl
  have om:oMult (.lst [.int b]) (.int n)=#v[(List.replicate n.toNat (.int b)),2]:=by
   rw[zv0 (by refine⟨by omega,by omega,?_⟩;show 1 * n.toNat<=sizeLine;omega),zou]
  refine⟨st2,List.replicate n.toNat b,?_,g1.mono #v[],by rw[Ej];omega,fun x hx=>by rw[List.eq_of_mem_replicate hx];omega⟩;refine za2 (en:=[#v[st2,5],#v[n,0],#v[3,0],none,none,none]) rfl ?_ rfl;refine (seq_nx s1).trans (zuk ?_);refine (zxi (e1:=[#v[st1,5],#v[n,0],#v[3,0],none,none,none]) rfl).trans (zot (zbd (zbm l2) rfl rfl rfl ?_));rw[List.map_replicate];exact om
 ·have hw := three h2 h3 c3;have turn:∀(i:Nat) (st:W) (xs:List Int) (v5:Option (W × Bool)),HS (k+1+i) st->i < 64->xs.length=i->∃st' x one,HS (k+1+i+1) st'/\(x=0\/x=1) /\
    (gSeq (gSet [0] 5 (zae [true,false] (Ψ "_law_take") (gCns (zaa 0) (gCns (gArg (gOp2 oIx (gArg (zap (gCns #v[2] (gCns #v[5] (gCns #v[5] gA0))))) (zaa 2))) gA0)))) (zf1 (gApp 3 (gOp2 oIx (gArg (zap (gCns #v[5,4] (gCns (gArg (gOpN oInt (gCns (gArg (gOp2 oEq (zaa 5) #v[0])) gA0))) (gCns (gArg (gOpN oInt (gCns (gArg (gOp2 (oI yes2 fun i j=>.bl (decide (j < i))) (zaa 5) #v[0])) gA0))) gA0))))) (zaa 2))))) [#v[st,5],#v[n,0],#v[way,0],#v[(xs.map W.int),2],#v[(0+(i:Nat)),0],v5] =
     some ([#v[st',5],#v[n,0],#v[way,0],#v[((xs++[x]).map W.int),2],#v[(0+(i:Nat)),0],#v[one,0]],.nx):=by
   intro i st xs v5 hst hi hl;have zz:(xs.map W.int).length < sizeLine:=by rw[Ad,hl];omega
   have fin:∀(q:Int) (x:Int->Int),(∀one,0<=one->one < q->x one=0\/x one=1)->0 < q->q < 1073741824 ->
     (gCns (zaa 0) (gCns (gArg (gOp2 oIx (gArg (zap (gCns #v[2] (gCns #v[5] (gCns #v[5] gA0))))) (zaa 2))) gA0)) [#v[st,5],#v[n,0],#v[way,0],#v[(xs.map W.int),2],#v[(0+(i:Nat)),0],v5]=some ([#v[st,5],#v[n,0],#v[way,0],#v[(xs.map W.int),2],#v[(0+(i:Nat)),0],v5],[.inr 0,.inl (.int q)]) ->
     (∀(st' : W) (one:Int),(gOp2 oIx (gArg (zap (gCns #v[5,4] (gCns (gArg (gOpN oInt (gCns (gArg (gOp2 oEq (zaa 5) #v[0])) gA0))) (gCns (gArg (gOpN oInt (gCns (gArg (gOp2 (oI yes2 fun i j=>.bl (decide (j < i))) (zaa 5) #v[0])) gA0))) gA0))))) (zaa 2)) [#v[st',5],#v[n,0],#v[way,0],#v[(xs.map W.int),2],#v[(0+(i:Nat)),0],#v[one,0]]=some ([#v[st',5],#v[n,0],#v[way,0],#v[(xs.map W.int),2],#v[(0+(i:Nat)),0],#v[one,0]],(.int (x one),false))) ->
     ∃st' x one,HS (k+1+i+1) st'/\(x=0\/x=1)/\(gSeq (gSet [0] 5 (zae [true,false] (Ψ "_law_take") (gCns (zaa 0) (gCns (gArg (gOp2 oIx (gArg (zap (gCns #v[2] (gCns #v[5] (gCns #v[5] gA0))))) (zaa 2))) gA0)))) (zf1 (gApp 3 (gOp2 oIx (gArg (zap (gCns #v[5,4] (gCns (gArg (gOpN oInt (gCns (gArg (gOp2 oEq (zaa 5) #v[0])) gA0))) (gCns (gArg (gOpN oInt (gCns (gArg (gOp2 (oI yes2 fun i j=>.bl (decide (j < i))) (zaa 5) #v[0])) gA0))) gA0))))) (zaa 2))))) [#v[st,5],#v[n,0],#v[way,0],#v[(xs.map W.int),2],#v[(0+(i:Nat)),0],v5] =
      some ([#v[st',5],#v[n,0],#v[way,0],#v[((xs++[x]).map W.int),2],#v[(0+(i:Nat)),0],#v[one,0]],.nx):=by
    intro q x hx q0 q1 ha hv;nofun;obtain⟨st',one,e2,g1,g2,g3⟩:=hT (k+1+i) st q hst #v[] q0 q1;ac_rfl;have cc:=zgu (m:=[true,false]) (ws:=[.int q]) (wz:=[.int q]) ha rfl rfl e2 rfl;refine⟨st',x one,one,g1,hx one g2 g3,?_⟩;refine (seq_nx (zfv (mp:=[0]) (i:=5) cc rfl)).trans (zwe (r:=(.non,false)) ?_);rw[Bq];exact z43 (i:=3) rfl (hv st' one) rfl zz
   rcases hw with rfl | rfl | rfl
   ·exact fin 2 (fun one=>one) (fun one a b=>by omega) #v[0,9] #v[0,9] rfl fun st' one=>rfl
   ·refine fin 5 (fun one => if decide (one = 0) then 1 else 0) (fun one a b => ?_) #v[0,9] #v[0,9] rfl fun st' one => rfl;by_cases z:one=0<;>simp [z]
   ·refine fin 5 (fun one => if decide (0 < one) then 1 else 0) (fun one a b => ?_) #v[0,9] #v[0,9] rfl fun st' one => rfl;by_cases z:0 < one<;>simp [z]
  obtain⟨en',hf,hp⟩:=zbi (mp:=[0]) (T:=.nm 4) (it:=zeg (gCns (zaa 1) gA0)) (body:=(gSeq (gSet [0] 5 (zae [true,false] (Ψ "_law_take") (gCns (zaa 0) (gCns (gArg (gOp2 oIx (gArg (zap (gCns #v[2] (gCns #v[5] (gCns #v[5] gA0))))) (zaa 2))) gA0)))) (zf1 (gApp 3 (gOp2 oIx (gArg (zap (gCns #v[5,4] (gCns (gArg (gOpN oInt (gCns (gArg (gOp2 oEq (zaa 5) #v[0])) gA0))) (gCns (gArg (gOpN oInt (gCns (gArg (gOp2 (oI yes2 fun i j=>.bl (decide (j < i))) (zaa 5) #v[0])) gA0))) gA0))))) (zaa 2))))))
   (fun i e=>∃st xs v4 v5,e=[#v[st,5],#v[n,0],#v[way,0],#v[(xs.map W.int),2],v4,v5]/\HS (k+1+i) st/\xs.length=i/\Bits xs)
   (en:=[#v[st1,5],#v[n,0],#v[way,0],#v[[],2],none,none]) (e0:=[#v[st1,5],#v[n,0],#v[way,0],#v[[],2],none,none]) (ws:=rngW 0 n.toNat)
   (by
    have hr:zea n=true:=by unfold zea;rw[Ag #v[],Ag #v[]];rfl
    show (if zea n then some (_,rngW 0 n.toNat) else none)=_;rw[hr];rfl)
   ⟨st1,[],none,none,rfl,h1,rfl,fun x hx=>by cases hx⟩
   (by
    rintro i w e hw' ⟨st,xs,v4,v5,rfl,hst,hl,hb⟩;nofun;obtain⟨hi,rfl⟩:=zf3 hw';obtain⟨st',x,one,g1,g2,g3⟩:=turn i st xs v5 hst #v[] hl;ac_rfl;refine⟨_,_,rfl,.inl g3,st',xs++[x],_,_,rfl,g1,by rw[Ba,hl];rfl,fun y hy=>?_⟩;rcases Bd.mp hy with hy | hy
    ·exact hb y hy
    ·rw[Aj] at hy;subst hy;exact g2)
  nofun;obtain⟨st2,xs,v4,v5,rfl,g1,g2,g3⟩:=hp;ac_rfl;rw[zen] at g1 g2;refine⟨st2,xs,?_,g1.mono #v[],by omega,g3⟩;refine za2 (en:=[#v[st2,5],#v[n,0],#v[way,0],none,v4,v5]) rfl ?_ rfl;refine (seq_nx s1).trans ((seq_nx (e1:=[#v[st1,5],#v[n,0],#v[way,0],none,none,none]) ?_).trans ((seq_nx (e1:=[#v[st1,5],#v[n,0],#v[way,0],#v[[],2],none,none]) rfl).trans ((seq_nx hf).trans rfl)));rcases hw with rfl | rfl | rfl<;>rfl
noncomputable def z5y (Ψ:Str->Fn):GS:=(gSeq (gSet [] 1 (gC (.int 0))) (gSeq (gFor [] (.nm 2) (gRev (gVar 0)) (gSet [] 1 (gOp2 oAdd (gArg (gOp2 oMult #v[2] (zaa 1))) (zaa 2)))) (zdi [] 1)))
noncomputable def zy7 (Φ:Fn):Prop:=∀xs:List Int,Φ [.lst (xs.map W.int)]=some ([.lst (xs.map W.int)],(.int (zac xs),false))
theorem z14 (Ψ:Str->Fn):zy7 (zaj [false] 3 (z5y Ψ)):=by
 intro xs;obtain⟨en',hf,hp⟩:=zbi (mp:=[]) (T:=.nm 2) (it:=gRev (gVar 0)) (body:=gSet [] 1 (gOp2 oAdd (gArg (gOp2 oMult #v[2] (zaa 1))) (zaa 2)))
  (fun i e=>∃v2,e=[#v[(xs.map W.int),1],#v[(zac (xs.drop (xs.length - i))),0],v2])
  (en:=[#v[(xs.map W.int),1],#v[0,0],none]) (e0:=[#v[(xs.map W.int),1],#v[0,0],none]) (ws:=(xs.map W.int).reverse) rfl
  ⟨none,by rw[Nat.sub_zero,List.drop_length];rfl⟩
  (by
   rintro i w e hw ⟨v2,rfl⟩;have hi:i < xs.length:=by have:=(Am.mp hw).1;rw[Ew,Ad] at this;exact this
   have hj:xs.length - 1 - i < xs.length:=by omega
   have ew:w=.int xs[xs.length - 1 - i]:=by
    rw[List.getElem?_reverse (by rw[Ad];exact hi),Ad,Au,Ab hj] at hw;exact (sI hw).symm
   subst ew;have om:oMult (.int 2) (.int (zac (xs.drop (xs.length - i))))=#v[(2 * zac (xs.drop (xs.length - i))),0]:=oMult_l #v[0,9] #v[0,9];have ed:xs.drop (xs.length - (i+1))=xs[xs.length - 1 - i]::xs.drop (xs.length - i):=by
    have e1:xs.length - (i+1)=xs.length - 1 - i:=by omega
    have e2:xs.length - i=xs.length - 1 - i+1:=by omega
    rw[e1,e2];exact Ci hj
   refine⟨_,_,rfl,.inl (zfv (r:=(.int (zac (xs.drop (xs.length - (i+1)))),false)) (zbd (zbm (zbd (x:=.inl (.int 2)) rfl rfl rfl rfl om)) rfl rfl rfl ?_) rfl),_,rfl⟩;rw[ed]
   rfl)
 obtain⟨v2,rfl⟩:=hp;rw[Ew,Ad,Nat.sub_self,Ec] at hf;exact za2 (en:=[#v[(xs.map W.int),1],#v[(zac xs),0],v2]) rfl ((seq_nx (e1:=[#v[(xs.map W.int),1],#v[0,0],none]) rfl).trans ((seq_nx hf).trans rfl)) rfl
noncomputable def z6n (Ψ:Str->Fn):GS:=(gSeq (gSet [] 1 (zap (gCns #v[0] (gCns #v[0] (gCns #v[0] gA0))))) (gSeq (gIfS (zg5 (zan (gOp2 (oI yes2 fun i j=>.bl (decide (j < i))) (gArg (gOpN oLen (gCns (zaa 0) gA0))) #v[0])) (zan (gOp2 (oI yes2 fun i j=>.bl (decide (j<=i))) (gArg (gOp2 oIx (zaa 0) #v[0])) (gArg (gOp2 (oI cPow fun i j=>.int (i ^ j.toNat)) #v[10] #v[18]))))) (gSeq (gSet [] 2 (gC (.int 1))) (gFor [] (.nm 3) (zas (gSl (zaa 0) zca (zgv (gC (.int 63))))) (gSeq (za7 1 (gC (.int 0)) (gOp2 oAdd (gArg (gOp2 oIx (zaa 1) #v[0])) (gArg (gOp2 oMult (gArg (gOp2 #v[0,0,2] (gArg (gOpN oAbs (gCns (zaa 3) gA0))) (gArg (gOp2 (oI cPow fun i j=>.int (i ^ j.toNat)) #v[10] #v[60])))) (zaa 2))))) (gSet [] 2 (gOp2 oMult (zaa 2) (gArg (gOp2 (oI cPow fun i j=>.int (i ^ j.toNat)) #v[10] #v[60]))))))) zb3) (gSeq (gFor [] (.tp [4,3]) (zqk (gSl (zaa 0) zca (zgv (gC (.int 63))))) (gSeq (gSet [] 5 (gOp2 oAdd (gArg (gOp2 oAdd (gArg (gOp2 #v[0,0,2] (zaa 3) #v[2305843009213693951])) (gArg (gOp2 oMult #v[7919] (zaa 4))))) #v[3])) (za7 1 (gC (.int 1)) (gOp2 #v[0,0,2] (gArg (gOp2 oAdd (gArg (gOp2 oMult (gArg (gOp2 oIx (zaa 1) #v[1])) #v[48271])) (zaa 5))) #v[2305843009213693951])))) (zdi [] 1))))
noncomputable def zz9 (Φ:Fn):Prop:=∀ns:List Int,ns.length<=63->∃st,Φ [.frl (ns.map W.int)]=some ([.frl (ns.map W.int)],(st,true))/\HS 0 st
theorem z51 {ns:List Int}(h:ns.length<=63):cutW (ns.map W.int) none (some 63)=ns.map W.int:=by
 unfold cutW;have e1:HT.sIx (ns.map W.int).length 0 none=0:=rfl;have e2:HT.sIx (ns.map W.int).length (ns.map W.int).length (some 63)=(ns.map W.int).length:=by
  have:=HT.sIx_nat (ns.map W.int).length (ns.map W.int).length 63;rw[show ((63:Nat):Int)=63 from rfl] at this;rw[this,Ad];omega
 rw[e1,e2,Ec,Nat.sub_zero,Cg]
theorem zyk {ns:List Int}{i:Nat}{w:W}(h:(zhs (ns.map W.int) 0)[i]?=some w):∃hi:i < ns.length,w=.tup [.int i,.int ns[i]]:=by
 have hi:i < ns.length:=by have:=(Am.mp h).1;rw[zci,Ad] at this;exact this
 have:=zer (ws:=ns.map W.int) (k:=0) (i:=i) (w:=.int ns[i]) (by rw[Au,Ab hi];rfl);rw[h,Cj] at this;exact⟨hi,sI this⟩
theorem z12 (Ψ:Str->Fn):zz9 (zaj [false] 6 (z6n Ψ)):=by
  intro ns hl;have p18:cPow 10 18=true:=by decide
  have p60:cPow 10 60=true:=by decide
  have first:∃a0 v2 v3,0<=a0/\gIfS (zg5 (zan (gOp2 (oI yes2 fun i j=>.bl (decide (j < i))) (gArg (gOpN oLen (gCns (zaa 0) gA0))) (gArg (gC (.int 0))))) (zan (gOp2 (oI yes2 fun i j=>.bl (decide (j<=i))) (gArg (gOp2 oIx (zaa 0) (gArg (gC (.int 0))))) (gArg (gOp2 (oI cPow fun i j=>.int (i ^ j.toNat)) (gArg (gC (.int 10))) (gArg (gC (.int 18)))))))) (gSeq (gSet [] 2 (gC (.int 1))) (gFor [] (.nm 3) (zas (gSl (zaa 0) zca (zgv (gC (.int 63))))) (gSeq (za7 1 (gC (.int 0)) (gOp2 oAdd (gArg (gOp2 oIx (zaa 1) (gArg (gC (.int 0))))) (gArg (gOp2 oMult (gArg (gOp2 (oI (fun _ j=>decide (0 < j)) fun i j=>.int (i % j)) (gArg (gOpN oAbs (gCns (zaa 3) gA0))) (gArg (gOp2 (oI cPow fun i j=>.int (i ^ j.toNat)) (gArg (gC (.int 10))) (gArg (gC (.int 60))))))) (zaa 2))))) (gSet [] 2 (gOp2 oMult (zaa 2) (gArg (gOp2 (oI cPow fun i j=>.int (i ^ j.toNat)) (gArg (gC (.int 10))) (gArg (gC (.int 60)))))))))) zb3
      [some (.frl (ns.map W.int),false),#v[[.int 0,.int 0,.int 0],2],none,none,none,none]=some ([some (.frl (ns.map W.int),false),#v[[.int a0,.int 0,.int 0],2],v2,v3,none,none],.nx):=by
    have ln:(zan (gOp2 (oI yes2 fun i j=>.bl (decide (j < i))) (gArg (gOpN oLen (gCns (zaa 0) gA0))) #v[0])) [some (.frl (ns.map W.int),false),#v[[.int 0,.int 0,.int 0],2],none,none,none,none]=some ([some (.frl (ns.map W.int),false),#v[[.int 0,.int 0,.int 0],2],none,none,none,none],decide ((0:Int) < ((ns.map W.int).length:Nat))):=rfl;cases ns with
    | nil=>exact⟨0,none,none,by decide,(z7v (by unfold zg5;rw[ln];rfl)).trans rfl⟩
    | cons n0 nr =>
      have t2:(zan (gOp2 (oI yes2 fun i j=>.bl (decide (j<=i))) (gArg (gOp2 oIx (zaa 0) (gArg (gC (.int 0))))) (gArg (gOp2 (oI cPow fun i j=>.int (i ^ j.toNat)) (gArg (gC (.int 10))) (gArg (gC (.int 18))))))) [some (.frl ((n0::nr).map W.int),false),some (.lst [.int 0,.int 0,.int 0],true),none,none,none,none]=some ([some (.frl ((n0::nr).map W.int),false),some (.lst [.int 0,.int 0,.int 0],true),none,none,none,none],decide (10 ^ 18<=n0)) :=
        zvy (zbd (zbm (zbd rfl rfl rfl rfl (zs2 rfl (zdc (i:=0) rfl)))) (zbm (zbd (x:=.inl (.int 10)) rfl rfl rfl rfl (oI_t p18))) rfl rfl rfl)
      have ln' : decide ((0:Int) < (((n0::nr).map W.int).length:Nat))=true:=Ag (by simp);rw[ln'] at ln;by_cases c:(10:Int) ^ 18<=n0
      · rw [Ag c] at t2
        obtain ⟨en',hf,hp⟩:=zbi (mp:=[]) (T:=.nm 3) (it:=zas (gSl (zaa 0) zca (zgv (gC (.int 63))))) (body:=(gSeq (za7 1 (gC (.int 0)) (gOp2 oAdd (gArg (gOp2 oIx (zaa 1) (gArg (gC (.int 0))))) (gArg (gOp2 oMult (gArg (gOp2 (oI (fun _ j=>decide (0 < j)) fun i j=>.int (i % j)) (gArg (gOpN oAbs (gCns (zaa 3) gA0))) (gArg (gOp2 (oI cPow fun i j=>.int (i ^ j.toNat)) (gArg (gC (.int 10))) (gArg (gC (.int 60))))))) (zaa 2))))) (gSet [] 2 (gOp2 oMult (zaa 2) (gArg (gOp2 (oI cPow fun i j=>.int (i ^ j.toNat)) (gArg (gC (.int 10))) (gArg (gC (.int 60)))))))))
          (fun i e=>∃a0 wt v3,e=[some (.frl ((n0::nr).map W.int),false),#v[[.int a0,.int 0,.int 0],2],#v[wt,0],v3,none,none]/\0<=a0/\0 < wt/\wt<=2 ^ (200 * i))
          (en:=[some (.frl ((n0::nr).map W.int),false),#v[[.int 0,.int 0,.int 0],2],#v[1,0],none,none,none]) (e0:=[some (.frl ((n0::nr).map W.int),false),#v[[.int 0,.int 0,.int 0],2],#v[1,0],none,none,none]) (ws:=(n0::nr).map W.int)
          (by
            show some (_,cutW ((n0::nr).map W.int) none (some 63))=_;rw[z51 hl])
          ⟨0,1,none,rfl,by decide,by decide,by decide⟩
          (by
            rintro i w e hw ⟨a0,wt,v3,rfl,q0,q1,q2⟩;rw [Au] at hw;have hi:i < (n0::nr).length:=by
              rcases Nat.lt_or_ge i (n0::nr).length with z | z
              · exact z
              · rw[Dm z] at hw;exact noSome hw
            rw[Ab hi] at hw;have ew:w=.int (n0::nr)[i]:=(sI hw).symm;subst ew;generalize (n0::nr)[i]=n;have y0:0<=(if n < 0 then -n else n) % (10:Int) ^ 60:=Gb _ #v[0,9];have y1:(if n < 0 then -n else n) % (10:Int) ^ 60 < 10 ^ 60:=Fb _ #v[0,9];have hb:i<=63:=by omega
            have b1:Builtin.Int.intBits ((if n < 0 then -n else n) % (10:Int) ^ 60)<=2 ^ 20:=ziy (i:=1) y0 (Int.le_trans (Int.le_of_lt y1) #v[0,9]) #v[0,9];have b2:Builtin.Int.intBits wt<=2 ^ 20:=ziy #v[] q2 hb;have m1:=zur b1 b2;have m2:=zur b2 (ziy (w:=10 ^ 60) (i:=1) #v[0,9] #v[0,9] #v[0,9]);obtain⟨r1,r2⟩:=zwf q1 q2;refine⟨_,[some (.frl ((n0::nr).map W.int),false),#v[[.int (a0+(if n < 0 then -n else n) % (10:Int) ^ 60 * wt),.int 0,.int 0],2],#v[(wt * 10 ^ 60),0],#v[n,0],none,none],rfl,.inl ?_,_,_,_,rfl,?_,r1,r2⟩
            · refine (seq_nx (e1 := [some (.frl ((n0 :: nr).map W.int), false), some (.lst [.int (a0 + (if n < 0 then -n else n) % (10 : Int) ^ 60 * wt), .int 0, .int 0], true), some (.int wt, false), some (.int n, false), none, none]) ?_).trans (set_0 (op2_0 rfl (arg_0 (op2_0 (x := .inl (.int 10)) rfl rfl rfl rfl (oI_t p60))) rfl rfl m2) rfl)
              have ge:gOp2 oAdd (gArg (gOp2 oIx (zaa 1) (gArg (gC (.int 0))))) (gArg (gOp2 oMult (gArg (gOp2 (oI (fun _ j=>decide (0 < j)) fun i j=>.int (i % j)) (gArg (gOpN oAbs (gCns (zaa 3) gA0))) (gArg (gOp2 (oI cPow fun i j=>.int (i ^ j.toNat)) (gArg (gC (.int 10))) (gArg (gC (.int 60))))))) (zaa 2))) [some (.frl ((n0::nr).map W.int),false),some (.lst [.int a0,.int 0,.int 0],true),some (.int wt,false),some (.int n,false),none,none]=some ([some (.frl ((n0::nr).map W.int),false),some (.lst [.int a0,.int 0,.int 0],true),some (.int wt,false),some (.int n,false),none,none],(.int (a0+(if n < 0 then -n else n) % (10:Int) ^ 60 * wt),false)) :=
                zbd (zbm (zbd rfl rfl rfl rfl (zs2 rfl (zdc (i:=0) rfl)))) (zbm (zbd (zbm (zbd (zbm (zz0 rfl rfl rfl)) (zbm (zbd (x:=.inl (.int 10)) rfl rfl rfl rfl (oI_t p60))) rfl rfl (oI_t #v[0,9]))) rfl rfl rfl m1)) rfl rfl rfl
              exact zvk (n:=0) (j:=0) (ws:=[.int a0,.int 0,.int 0]) ge rfl rfl rfl
            · have := Int.mul_nonneg y0 (Int.le_of_lt q1)
              omega)
        nofun;obtain⟨a0,wt,v3,rfl,q0,_⟩:=hp;ac_rfl;exact⟨a0,_,_,q0,(zxi (by unfold zg5;rw[ln];exact t2)).trans ((seq_nx (e1:=[some (.frl ((n0::nr).map W.int),false),#v[[.int 0,.int 0,.int 0],2],#v[1,0],none,none,none]) rfl).trans hf)⟩
      · rw [Av c] at t2
        exact⟨0,none,none,by decide,(z7v (by unfold zg5;rw[ln];exact t2)).trans rfl⟩
  nofun;obtain⟨a0,v2,v3,q0,hfirst⟩:=first
  refine qG ?_;clear qG;obtain ⟨en',hf,hp⟩:=zbi (mp:=[]) (T:=.tp [4,3]) (it:=zqk (gSl (zaa 0) zca (zgv (gC (.int 63))))) (body:=(gSeq (gSet [] 5 (gOp2 oAdd (gArg (gOp2 oAdd (gArg (gOp2 (oI (fun _ j=>decide (0 < j)) fun i j=>.int (i % j)) (zaa 3) (gArg (gC (.int 2305843009213693951))))) (gArg (gOp2 oMult (gArg (gC (.int 7919))) (zaa 4))))) (gArg (gC (.int 3))))) (za7 1 (gC (.int 1)) (gOp2 (oI (fun _ j=>decide (0 < j)) fun i j=>.int (i % j)) (gArg (gOp2 oAdd (gArg (gOp2 oMult (gArg (gOp2 oIx (zaa 1) (gArg (gC (.int 1))))) (gArg (gC (.int 48271))))) (zaa 5))) (gArg (gC (.int 2305843009213693951)))))))
    (fun i e=>∃b v3 v4 v5,e=[some (.frl (ns.map W.int),false),#v[[.int a0,.int b,.int 0],2],v2,v3,v4,v5]/\0<=b/\b < MM)
    (en:=[some (.frl (ns.map W.int),false),#v[[.int a0,.int 0,.int 0],2],v2,v3,none,none]) (e0:=[some (.frl (ns.map W.int),false),#v[[.int a0,.int 0,.int 0],2],v2,v3,none,none]) (ws:=zhs (ns.map W.int) 0)
    (by
      show some (_,zhs (cutW (ns.map W.int) none (some 63)) 0)=_;rw[z51 hl])
    ⟨0,v3,none,none,rfl,by decide,by decide⟩
    (by
      rintro i w e hw ⟨b,v3,v4,v5,rfl,q1,q2⟩;obtain ⟨hi,rfl⟩:=zyk hw;generalize ns[i]=n;have hm:MM=2305843009213693951:=rfl;have m1:oMult (.int 7919) (.int (i:Nat))=some (.int (7919 * (i:Nat)),false):=oMult_l (by decide) (by decide);have m2:oMult (.int b) (.int 48271)=some (.int (b * 48271),false):=zmp (by decide) (by decide);refine ⟨_,[some (.frl (ns.map W.int),false),some (.lst [.int a0,.int ((b * 48271+(n % 2305843009213693951+7919 * (i:Nat)+3)) % 2305843009213693951),.int 0],true),v2,some (.int n,false),some (.int (i:Nat),false),some (.int (n % 2305843009213693951+7919 * (i:Nat)+3),false)],rfl,.inl ?_,_,_,_,_,rfl,Gb _ (by decide),Fb _ (by decide)⟩;refine (seq_nx (e1:=[some (.frl (ns.map W.int),false),some (.lst [.int a0,.int b,.int 0],true),v2,some (.int n,false),some (.int (i:Nat),false),some (.int (n % 2305843009213693951+7919 * (i:Nat)+3),false)]) (set_0 (op2_0 (arg_0 (op2_0 (arg_0 (op2_0 rfl rfl rfl rfl (oI_t (by decide)))) (arg_0 (op2_0 (x:=.inl (.int 7919)) rfl rfl rfl rfl m1)) rfl rfl rfl)) rfl rfl rfl rfl) rfl)).trans ?_;have ge:gOp2 (oI (fun _ j=>decide (0 < j)) fun i j=>.int (i % j)) (gArg (gOp2 oAdd (gArg (gOp2 oMult (gArg (gOp2 oIx (zaa 1) (gArg (gC (.int 1))))) (gArg (gC (.int 48271))))) (zaa 5))) (gArg (gC (.int 2305843009213693951))) [some (.frl (ns.map W.int),false),some (.lst [.int a0,.int b,.int 0],true),v2,some (.int n,false),some (.int (i:Nat),false),some (.int (n % 2305843009213693951+7919 * (i:Nat)+3),false)]=some ([some (.frl (ns.map W.int),false),some (.lst [.int a0,.int b,.int 0],true),v2,some (.int n,false),some (.int (i:Nat),false),some (.int (n % 2305843009213693951+7919 * (i:Nat)+3),false)],(.int ((b * 48271+(n % 2305843009213693951+7919 * (i:Nat)+3)) % 2305843009213693951),false)) :=
        zbd (zbm (zbd (zbm (zbd (zbm (zbd rfl rfl rfl rfl (zs2 rfl (zdc (i:=1) rfl)))) rfl rfl rfl m2)) rfl rfl rfl rfl)) rfl rfl rfl (oI_t #v[0,9])
      exact zvk (n:=1) (j:=1) (ws:=[.int a0,.int b,.int 0]) ge rfl rfl rfl)
  nofun;obtain⟨b,w3,w4,w5,rfl,q1,q2⟩:=hp;ac_rfl;refine⟨.lst [.int a0,.int b,.int 0],za2 (en:=[some (.frl (ns.map W.int),false),none,v2,w3,w4,w5]) rfl ?_ rfl,⟨_,_,_,rfl,q0,q1,q2,by decide,by decide⟩⟩;exact (seq_nx (e1:=[some (.frl (ns.map W.int),false),#v[[.int 0,.int 0,.int 0],2],none,none,none,none]) rfl).trans ((seq_nx hfirst).trans ((seq_nx hf).trans rfl))
theorem ztw (a b x y:Nat)(hx:x < 2)(hy:y < 2):(2 * a+x) &&& (2 * b+y)=2 * (a &&& b)+x * y:=by
 have h1:((2 * a+x) &&& (2 * b+y)) / 2=a &&& b:=by
  have:=Nat.and_div_two_pow (n:=1) (a:=2 * a+x) (b:=2 * b+y);rw[Nat.pow_one] at this;rw[this];have e1:(2 * a+x) / 2=a:=by omega
  have e2:(2 * b+y) / 2=b:=by omega
  rw[e1,e2]
 have h2:((2 * a+x) &&& (2 * b+y)) % 2=x * y:=by
  have:=Nat.and_mod_two_pow (n:=1) (a:=2 * a+x) (b:=2 * b+y);rw[Nat.pow_one] at this;rw[this];have e1:(2 * a+x) % 2=x:=by omega
  have e2:(2 * b+y) % 2=y:=by omega
  rw[e1,e2];have:x=0\/x=1:=by omega
  have:y=0\/y=1:=by omega
  rcases ‹x=0\/x=1› with rfl | rfl<;>rcases ‹y=0\/y=1› with rfl | rfl<;>rfl
 omega
noncomputable def Bit (x:Int):Prop:=x=0\/x=1
theorem zf7 {a b x y:Int}(ha:0<=a)(hb:0<=b)(hx:Bit x)(hy:Bit y):Builtin.bitAnd (2 * a+x) (2 * b+y)=2 * Builtin.bitAnd a b+x * y:=by
 have x0:0<=x/\x < 2:=by rcases hx with rfl | rfl<;>decide
 have y0:0<=y/\y < 2:=by rcases hy with rfl | rfl<;>decide
 rw[bitAnd_pp #v[] #v[],bitAnd_pp ha hb];have e1:(2 * a+x).toNat=2 * a.toNat+x.toNat:=by omega
 have e2:(2 * b+y).toNat=2 * b.toNat+y.toNat:=by omega
 rw[e1,e2,ztw _ _ _ _ #v[] #v[]];rcases hx with rfl | rfl<;>rcases hy with rfl | rfl<;>simp
theorem zjv (x y:Int):Builtin.bitXor x y=x+y - 2 * Builtin.bitAnd x y:=by
 show Builtin.bitOr x y - Builtin.bitAnd x y=_;rw[bitOr_and];omega
theorem zxg {a b x y:Int}(ha:0<=a)(hb:0<=b)(hx:Bit x)(hy:Bit y):Builtin.bitXor (2 * a+x) (2 * b+y)=2 * Builtin.bitXor a b+(x+y - 2 * (x * y)):=by
 rw[zjv,zjv,zf7 ha hb hx hy];omega
theorem xor_zero (x:Int):Builtin.bitXor x 0=x:=by rw[zjv,bitAnd_zero];omega
theorem zjb (x:Int):Builtin.bitAnd 0 x=0:=by rw[bitAnd_comm,bitAnd_zero]
theorem Bits.head {x:Int}{xs:List Int}(h:Bits (x::xs)):Bit x:=h x Aq
theorem Bits.tail {x:Int}{xs:List Int}(h:Bits (x::xs)):Bits xs:=fun y hy=>h y (Ar _ hy)
theorem zef {xs:List Int}(h:Bits xs):0<=zac xs:=(zei h).1
theorem zbl (x:Int)(xs:List Int):zac (x::xs)=2 * zac xs+x:=rfl
theorem zbh:∀(l h:List Int),zac (l++h)=zac l+2 ^ l.length * zac h
  | [],h=>by show zac h=0+1 * zac h;omega
  | x::l,h=>by
    show 2 * zac (l++h)+x=2 * zac l+x+2 ^ (l.length+1) * zac h;rw[zbh l h,Int.pow_succ,Int.mul_add,Int.mul_comm (2 ^ l.length) 2,Int.mul_assoc];omega
theorem zlq:∀{xs ys:List Int},Bits xs->Bits ys->Builtin.bitAnd (zac xs) (zac ys)=zac (List.zipWith (· * ·) xs ys)
  | [],ys,_,_=>zjb _
  | x::xs,[],_,_=>bitAnd_zero _
  | x::xs,y::ys,h1,h2=>by
    rw[zbl,zbl,zf7 (zef h1.tail) (zef h2.tail) h1.head h2.head,zlq h1.tail h2.tail]
    rfl
noncomputable def z7s (Φ:Fn):Prop:=∀a b:Int,Φ [.int a,.int b]=some ([.int a,.int b],(.int (Builtin.bitXor a b),false))
noncomputable def z7m (Ψ:Str->Fn):GS:=(gRet (gOp2 (oI yes2 fun i j=>.int (Builtin.bitXor i j)) (zaa 0) (zaa 1)))
theorem z1h (Ψ:Str->Fn):z7s (zaj [false,false] 2 (z7m Ψ)):=fun a b=>rfl
noncomputable def dif (a b:Int):Int:=if !decide (a=b) then 1 else 0
theorem z07 {a b:Int}(ha:Bit a)(hb:Bit b):a+b - 2 * (a * b)=dif a b:=by
 rcases ha with rfl | rfl<;>rcases hb with rfl | rfl<;>decide
theorem zkq:∀{xs ys:List Int},Bits xs->Bits ys->xs.length=ys.length->Builtin.bitXor (zac xs) (zac ys)=zac (List.zipWith dif xs ys)
  | [],[],_,_,_=>xor_zero 0
  | [],_::_,_,_,h=>by cases h
  | _::_,[],_,_,h=>by cases h
  | x::xs,y::ys,h1,h2,hl=>by
    rw[zbl,zbl,zxg (zef h1.tail) (zef h2.tail) h1.head h2.head,zkq h1.tail h2.tail (by simpa using hl),z07 h1.head h2.head]
    rfl
theorem z0w {i:Int}(h1:-1000000<=i)(h2:i<=1000000):zea i=true:=by
 unfold zea;rw[Ag #v[],Ag #v[]]
 rfl
theorem zr4 {as:GAs}{en e1:En}{xs:List (W ⊕ Nat)}{j:Int}(h:as en=some (e1,xs))(h2:za3 e1 xs=some [.int j])(h3:zea j=true):zeg as en=some (e1,rngW 0 j.toNat):=by
 unfold zeg;rw[h];show (match za3 e1 xs with | some [.int j]=>if zea j then some (e1,rngW 0 j.toNat) else none | _=>none)=_;rw[h2];show (if zea j then some (e1,rngW 0 j.toNat) else none)=_;rw[if_pos h3]
noncomputable def tab (n:Nat) (f:Nat->Int):List Int:=(List.range n).map f
theorem zb0 (n:Nat)(f:Nat->Int):(tab n f).length=n:=by unfold tab;rw[Ad,Ct]
theorem zjw {n:Nat}{f:Nat->Int}{i:Nat}(h:i < n):(tab n f)[i]?=some (f i):=by unfold tab;rw[Au,List.getElem?_range h];rfl
theorem zcz {n:Nat}{f g:Nat->Int}(h:∀i,i < n->f i=g i):tab n f=tab n g:=by
 unfold tab;refine List.map_congr_left fun i hi=>h i (Bt.mp hi)
theorem zu2 (n:Nat)(f g:Nat->Int)(h:Int->Int->Int):List.zipWith h (tab n f) (tab n g)=tab n fun i=>h (f i) (g i):=by
 apply Fo;intro i;by_cases hi:i < n
 ·rw[List.getElem?_zipWith,zjw hi,zjw hi,zjw hi]
 ·rw[Dm (by rw[List.length_zipWith,zb0,zb0];omega),Dm (by rw[zb0];omega)]
theorem zb8 {n:Nat}{f:Nat->Int}(h:∀i,i < n->Bit (f i)):Bits (tab n f):=fun x hx=>by
 obtain⟨i,hi,rfl⟩:=Ay.mp hx;exact h i (Bt.mp hi)
theorem zsm (a b:Nat)(f:Nat->Int):tab (a+b) f=tab a f++tab b fun i=>f (a+i):=by
 unfold tab;rw[List.range_add,Bq,Ca]
 rfl
theorem zjk (n:Nat):tab n (fun _=>0)=List.replicate n 0:=by unfold tab;rw[List.map_const',Ct]
theorem zfa (n:Nat):zac (List.replicate n 0)=0:=by
 induction n with
 | zero=>rfl
 | succ n ih=>rw[Cr,zbl,ih];rfl
noncomputable def z9m (p:Nat):List Nat:=(List.range (p+1)).filter fun o=>o &&& p == o
noncomputable def z91 (f:Nat->Int) (p:Nat):Int:=((z9m p).map f).sum % 2
theorem zdq (n:Nat)(f:Nat->Int):tab (n+1) f=tab n f++[f n]:=by unfold tab;rw[List.range_succ,Bq];rfl
theorem zhi:∀(p:Nat) (xs:List Int),Bits xs->Builtin.bitAnd (zac xs / 2 ^ p) 1=xs.getD p 0
  | p,[],_=>by
    show Builtin.bitAnd ((0:Int) / 2 ^ p) 1=0;rw[Int.zero_ediv,zjb]
  | 0,x::xs,h=>by
    have a:=zf7 (zef h.tail) (Int.le_refl 0) h.head (show Bit 1 from .inr rfl);rw[bitAnd_zero] at a;show Builtin.bitAnd (zac (x::xs) / 1) 1=x;rw[Int.ediv_one,zbl];have e:(2 * 0+1:Int)=1:=rfl;rw[e] at a;rw[a];omega
  | p+1,x::xs,h=>by
    have ih:=zhi p xs h.tail;have e:zac (x::xs) / 2 ^ (p+1)=zac xs / 2 ^ p:=by
      rw[zbl,Int.pow_succ,Int.mul_comm ((2:Int) ^ p) 2,<-Int.ediv_ediv_of_nonneg #v[0,9]];congr 1;rcases h.head with q | q<;>rw[q]<;>omega
    rw[e,ih]
    rfl
theorem zp0 {n:Nat}{f:Nat->Int}(h:∀i,n<=i->f i=0)(p:Nat):(tab n f).getD p 0=f p:=by
 rw[Bw];by_cases c:p < n
 ·rw[zjw c];rfl
 ·rw[Dm (by rw[zb0];omega),h p #v[]];rfl
noncomputable def dueL (f:Nat->Int) (n:Nat):List Nat:=(List.range n).filter fun p=>decide (f p=1)
noncomputable def zab (M:List Nat):List W:=M.map fun p:Nat=>W.int p
theorem zay (M:List Nat):zab M=(M.map fun p:Nat=>(p:Int)).map W.int:=by unfold zab;rw[Ca];rfl
theorem zad (M:List Nat):(zab M).length=M.length:=Ad ..
theorem castL_get {M:List Nat}{i:Nat}{w:W}(h:(zab M)[i]?=some w):∃p,M[i]?=some p/\w=.int (p:Nat):=by
 unfold zab at h;rw[Au] at h;obtain⟨p,h1,h2⟩:=Option.map_eq_some_iff.mp h;exact⟨p,h1,h2.symm⟩
theorem z0a {q:Nat->Bool}{a b:Nat}(h:∀p,a<=p->q p=false)(hab:a<=b):(List.range b).filter q=(List.range a).filter q:=by
 obtain⟨k,rfl⟩ : ∃k,b=a+k:=⟨b - a,by omega⟩;rw[List.range_add,Eg];have e:((List.range k).map (a + ·)).filter q=[]:=List.filter_eq_nil_iff.mpr fun x hx=>by
  obtain⟨j,_,rfl⟩:=Ay.mp hx;rw[h (a+j) #v[]]
  decide
 rw[e,Br]
theorem z0u {f:Nat->Int} (h:∀i,Bit (f i)):∀n,((dueL f n).length:Int)=(tab n f).sum
  | 0=>rfl
  | n+1=>by
    have ih:=z0u h n;unfold dueL at ih ⊢;rw[List.range_succ,Eg,Ba,zdq,List.sum_append,<-ih];rcases h n with e | e
    · rw[List.filter_cons_of_neg (by rw[e];decide),e];rfl
    · rw[List.filter_cons_of_pos (by rw[e];decide),e];rfl
theorem z28 {w:Int}(h:0<=w):w < 2 ^ Builtin.Int.intBits w:=by
 unfold Builtin.Int.intBits;by_cases z:w=0
 ·subst z;decide
 ·rw[if_neg (by simpa using z)];have a:=Nat.lt_log2_self (n:=w.natAbs);have e:=Int.natAbs_of_nonneg h;have c:((w.natAbs:Nat):Int) < ((2 ^ (w.natAbs.log2+1):Nat):Int):=Int.ofNat_lt.mpr a;rw[e,Int.natCast_pow] at c;exact c
theorem zso {f:Nat->Int}(h:∀i,Bit (f i)){n:Nat}(h0:∀i,n<=i->f i=0):(List.range (Builtin.Int.intBits (zac (tab n f)))).filter (fun p=>decide (f p=1))=dueL f n:=by
 have b:=zb8 (n:=n) fun i _=>h i;have nn:=zef b;have q1:∀p,n<=p->decide (f p=1)=false:=fun p hp=>Av (by rw[h0 p hp];decide);have q2:∀p,Builtin.Int.intBits (zac (tab n f))<=p->decide (f p=1)=false:=fun p hp=>by
  have s:=zhi p _ b;have lt:zac (tab n f) < 2 ^ p:=Int.lt_of_lt_of_le (z28 nn) (by
   have:=Dt (n:=2) #v[0,9] hp
   exact_mod_cast this)
  rw[Int.ediv_eq_zero_of_lt nn lt,zjb,zp0 h0] at s;exact Av (by rw[<-s];decide)
 unfold dueL;rw[<-z0a q1 (Nat.le_max_left n (Builtin.Int.intBits (zac (tab n f)))),<-z0a q2 (Nat.le_max_right n _)]
theorem zoa (f g h:Nat->Int):∀n,zac (tab n f)+zac (tab n g) - zac (tab n h)=zac (tab n fun i=>f i+g i - h i)
  | 0=>rfl
  | n+1=>by
    have ih:=zoa f g h n;rw[zdq,zdq,zdq,zdq,zbh,zbh,zbh,zbh,<-ih,zb0,zb0,zb0,zb0];show _+2 ^ n * (2 * 0+f n)+(_+2 ^ n * (2 * 0+g n)) - (_+2 ^ n * (2 * 0+h n))=_+2 ^ n * (2 * 0+(f n+g n - h n));rw[show (2 * 0+f n)=f n by omega,show (2 * 0+g n)=g n by omega,show (2 * 0+h n)=h n by omega,show (2 * 0+(f n+g n - h n))=f n+g n - h n by omega,Int.mul_sub,Int.mul_add];omega
theorem zx9 {n p:Nat}(h:p < n):(1 * 2 ^ p:Int)=zac (tab n fun i=>if i=p then 1 else 0):=by
 obtain⟨k,rfl⟩ : ∃k,n=p+(1+k):=⟨n - p - 1,by omega⟩;have e1:(tab p fun i=>if i=p then (1:Int) else 0)=List.replicate p 0:=by
  rw[<-zjk];exact zcz fun i hi=>if_neg #v[]
 have e2:(tab k fun i=>if p+(1+i)=p then (1:Int) else 0)=List.replicate k 0:=by
  rw[<-zjk];exact zcz fun i hi=>if_neg #v[]
 have e3:(tab 1 fun i=>if p+i=p then (1:Int) else 0)=[1]:=by
  show [if p+0=p then (1:Int) else 0]=[1];rw[if_pos #v[]]
 rw[zsm,zsm,e1,e2,e3,zbh,zfa,Ej];show _=0+2 ^ p * (2 * zac (List.replicate k 0)+1);rw[zfa];omega
theorem z6k (x y:Int):Builtin.bitOr x y=x+y - Builtin.bitAnd x y:=by
 have h:=zjv x y;have e:Builtin.bitXor x y=Builtin.bitOr x y - Builtin.bitAnd x y:=rfl;omega
theorem z1f {n p:Nat}{f:Nat->Int}(h:∀i,Bit (f i))(hp:p < n):Builtin.bitOr (zac (tab n f)) (1 * 2 ^ p)=zac (tab n fun i=>if i=p then 1 else f i):=by
 rw[zx9 hp,z6k,zlq (zb8 fun i _=>h i) (zb8 fun i _=>by split<;>first | exact .inr rfl | exact .inl rfl),zu2,zoa];refine congrArg zac (zcz fun i _=>?_);by_cases c:i=p
 ·rw[if_pos c,if_pos c];omega
 ·rw[if_neg c,if_neg c];omega
theorem z4e {mp:List Nat}{o:O2}{i:Nat}{g:GA}{en e1:En}{x:W ⊕ Nat}{w u:W}{r:W × Bool}(h0:en[i]?=some (#v[w,6]))(h1:g en=some (e1,x))(h2:resA e1 x=some u)(h3:o w u=some r)(hc:(mp.contains i || !decide (i < e1.length))=false):gAug mp o i g en=some (e1.set i (some r),.nx):=by
 unfold gAug;rw[h0];show (g en).bind _=_;rw[h1];show (resA e1 x).bind _=_;rw[h2];show (o w u).bind _=_;rw[h3];show (if (mp.contains i || !decide (i < e1.length))=true then none else some (e1.set i (some r),Fl.nx))=_;rw[hc]
 rfl
noncomputable def z6r (Ψ:Str->Fn):GS:=(gRet (gOp2 (oI yes2 fun i j=>.int (Builtin.bitAnd i j)) (gArg (gOp2 (oI (fun _ j=>decide (0<=j)) fun i j=>.int (i / 2 ^ j.toNat)) (zaa 0) (zaa 1))) #v[1]))
noncomputable def zs1 (Φ:Fn):Prop:=∀(n p:Nat) (f:Nat->Int),(∀i,Bit (f i))->(∀i,n<=i->f i=0)->Φ [.int (zac (tab n f)),.int (p:Nat)]=some ([.int (zac (tab n f)),.int (p:Nat)],(.int (f p),false))
theorem zst (Ψ:Str->Fn):zs1 (zaj [false,false] 2 (z6r Ψ)):=fun n p f hf h0=>by
 have s:=zhi p _ (zb8 (n:=n) fun i _=>hf i);rw[zp0 h0] at s;have a:gArg (gOp2 (oI (fun _ j=>decide (0<=j)) fun i j=>.int (i / 2 ^ j.toNat)) (zaa 0) (zaa 1)) [#v[(zac (tab n f)),0],#v[(p:Nat),0]]=some ([#v[(zac (tab n f)),0],#v[(p:Nat),0]],.inl (.int (zac (tab n f) / 2 ^ p))):=arg_0 (r:=(.int (zac (tab n f) / 2 ^ p),false)) (op2_0 (x:=.inl (.int (zac (tab n f)))) (y:=.inl (.int (p:Nat))) rfl rfl rfl rfl (oI_t (Ag (Int.natCast_nonneg p))));refine za2 (en:=[#v[(zac (tab n f)),0],#v[(p:Nat),0]]) rfl (z86 (op2_0 a (show gArg (gC (.int 1)) _=some (_,.inl (.int 1)) from rfl) rfl rfl ?_)) rfl;show some (W.int (Builtin.bitAnd (zac (tab n f) / 2 ^ p) 1),false)=_;rw[s]
noncomputable def z2y (Ψ:Str->Fn):GS:=(gRet (gOpN zdt (gCns (gArg (zck [none,none,some 0] (.nm 1) (zeg (gCns (gArg (gOp1 zbe (zaa 0))) gA0)) (zan (gOp2 oEq (gArg (zae [false,false] (Ψ "says") (gCns #v[2,4] (gCns #v[1,4] gA0)))) #v[1])) (gVar 1))) gA0)))
noncomputable def zue (Φ:Fn):Prop:=∀(n:Nat) (f:Nat->Int),(∀i,Bit (f i))->(∀i,n<=i->f i=0)->n<=64->Φ [.int (zac (tab n f))]=some ([.int (zac (tab n f))],(.tup (zab (dueL f n)),false))
theorem zyr {Ψ:Str->Fn}(hS:zs1 (Ψ "says")):zue (zaj [false] 1 (z2y Ψ)):=fun n f hf h0 hn=>by
 have s9:(1000:Nat)<=sizeLine:=by decide
 have nn:=zef (zb8 (n:=n) fun i _=>hf i);have wl:(zac (tab n f)) < 2 ^ 64:=by
  have b:=zei (zb8 (n:=n) fun i _=>hf i);rw[zb0] at b;refine Int.lt_of_lt_of_le b.2 ?_;have:=Dt (n:=2) #v[0,9] hn
  exact_mod_cast this
 have bl:Builtin.Int.intBits (zac (tab n f))<=64:=by
  unfold Builtin.Int.intBits;split
  ·decide
  ·rename_i z;have z' : ((zac (tab n f))).natAbs≠0:=by
    intro q;exact z (by rw[Int.natAbs_eq_zero.mp q];rfl)
   have:((zac (tab n f))).natAbs.log2 < 64:=(Nat.log2_lt z').mpr (by
    have e:=Int.natAbs_of_nonneg nn;rw[<-e] at wl
    exact_mod_cast wl)
   omega
 have it:(zeg (gCns (gArg (gOp1 zbe (zaa 0))) gA0)) [#v[(zac (tab n f)),0]]=some ([#v[(zac (tab n f)),0]],rngW 0 (Builtin.Int.intBits (zac (tab n f)))):=by
  have r:=zr4 (as:=(gCns (gArg (gOp1 zbe (zaa 0))) gA0)) (en:=[#v[(zac (tab n f)),0]]) (j:=((Builtin.Int.intBits (zac (tab n f)):Nat):Int)) (xs:=[.inl (.int ((Builtin.Int.intBits (zac (tab n f)):Nat):Int))]) rfl rfl (z0w #v[] #v[]);rw[r]
  rfl
 obtain⟨ce',out,hc,hq⟩:=zf5 (cap:=[none,none,some 0]) (T:=(.nm 1)) (tc:=(zan (gOp2 oEq (gArg (zae [false,false] (Ψ "says") (gCns #v[2,4] (gCns #v[1,4] gA0)))) #v[1]))) (te:=(gVar 1)) (fun i c dn=>(∃v0 v1,c=[v0,v1,#v[(zac (tab n f)),0]])/\dn=zab ((List.range i).filter fun p=>decide (f p=1))) it rfl (by rw[zen];omega) ⟨⟨_,_,rfl⟩,rfl⟩
  (by
   rintro i w c dn hw ⟨⟨v0,v1,rfl⟩,rfl⟩;obtain⟨hi,rfl⟩:=zf3 hw;rw[Int.zero_add];have t:(zan (gOp2 oEq (gArg (zae [false,false] (Ψ "says") (gCns #v[2,4] (gCns #v[1,4] gA0)))) #v[1])) [v0,#v[(i:Nat),0],#v[(zac (tab n f)),0]]=some ([v0,#v[(i:Nat),0],#v[(zac (tab n f)),0]],decide (f i=1)):=z42 (f:=false) (op2_0 (arg_0 (r:=(.int (f i),false)) (z5m (ws:=[.int (zac (tab n f)),.int (i:Nat)]) rfl rfl (hS n i f hf h0) rfl)) (show gArg (gC (.int 1)) _=some (_,.inl (.int 1)) from rfl) rfl rfl rfl);refine⟨[v0,#v[(i:Nat),0],#v[(zac (tab n f)),0]],rfl,?_⟩;by_cases b:f i=1
   ·rw[Ag b] at t;refine .inl ⟨_,[v0,#v[(i:Nat),0],#v[(zac (tab n f)),0]],(.int (i:Nat),false),t,rfl,⟨_,_,rfl⟩,?_⟩;unfold zab;rw[List.range_succ,Eg,Bq,List.filter_cons_of_pos (p:=fun p=>decide (f p=1)) (Ag b)]
    rfl
   ·rw[Av b] at t;refine .inr ⟨_,t,⟨_,_,rfl⟩,?_⟩;rw[List.range_succ,Eg,List.filter_cons_of_neg (p:=fun p=>decide (f p=1)) (by rw[Av b];decide),Ei,Br])
 obtain⟨⟨v0,v1,rfl⟩,rfl⟩:=hq;rw[zen,zso hf h0] at hc;exact za2 rfl (zot (zz0 (zz5 (zbm hc) rfl) rfl rfl)) rfl
noncomputable def ztu (Ψ:Str->Fn):GS:=(gSeq (gSet [] 1 (gC (.int 0))) (gSeq (gFor [] (.nm 2) (zas (gVar 0)) (gAug [] (oI yes2 fun i j=>.int (Builtin.bitOr i j)) 1 (gArg (gOp2 #v[0,0,1] #v[1] (zaa 2))))) (zdi [] 1)))
noncomputable def zp6 (Φ:Fn):Prop:=∀(n:Nat) (M:List Nat),n<=64->(∀p∈M,p < n)->Φ [.tup (zab M)]=some ([.tup (zab M)],(.int (zac (tab n fun i=>if i∈M then 1 else 0)),false))
theorem zqz (Ψ:Str->Fn):zp6 (zaj [false] 3 (ztu Ψ)):=fun n M hn hM=>by
 have z0:(zac (tab n fun i=>if i∈M.take 0 then 1 else 0))=0:=by
  have:(tab n fun i=>if i∈M.take 0 then (1:Int) else 0)=List.replicate n 0:=by
   rw[<-zjk];exact zcz fun i _=>if_neg (by rw[Ea];exact Dc)
  rw[this,zfa]
 obtain⟨en',hl,hp⟩:=zbi (mp:=[]) (T:=(.nm 2)) (it:=(zas (gVar 0))) (body:=(gAug [] (oI yes2 fun i j=>.int (Builtin.bitOr i j)) 1 (gArg (gOp2 #v[0,0,1] #v[1] (zaa 2)))))
  (fun j e=>∃v2,e=[#v[(zab M),3],#v[(zac (tab n fun i=>if i∈M.take j then 1 else 0)),0],v2]) (en:=[#v[(zab M),3],#v[0,0],none]) (e0:=[#v[(zab M),3],#v[0,0],none]) (ws:=zab M) rfl ⟨none,by rw[z0]⟩
  (by
   rintro j w e hw ⟨v2,rfl⟩;obtain⟨p,hp,rfl⟩:=castL_get hw;have pn:p < n:=hM p (Bn hp);have ow:=z1f (n:=n) (p:=p) (f:=fun i=>if i∈M.take j then 1 else 0) (fun i=>by show Bit (if _ then _ else _);split<;>first | exact .inr rfl | exact .inl rfl) pn;have e2:(tab n fun i=>if i=p then (1:Int) else if i∈M.take j then 1 else 0)=tab n fun i=>if i∈M.take (j+1) then 1 else 0:=zcz fun i _=>by
    have m:i∈M.take (j+1)↔(i∈M.take j\/i=p):=by
     rw[Fj,hp,Bd];show _\/i∈[p]↔_;rw[Aj]
    by_cases c:i=p
    ·rw[if_pos c,if_pos (m.mpr (.inr c))]
    ·rw[if_neg c];by_cases c2:i∈M.take j
     ·rw[if_pos c2,if_pos (m.mpr (.inl c2))]
     ·rw[if_neg c2,if_neg (fun q=>(m.mp q).elim c2 c)]
   rw[e2] at ow;have pw:(1 * 2 ^ ((p:Nat):Int).toNat:Int)=1 * 2 ^ p:=rfl;refine⟨[#v[(zab M),3],#v[(zac (tab n fun i=>if i∈M.take j then 1 else 0)),0],#v[(p:Nat),0]],[#v[(zab M),3],#v[(zac (tab n fun i=>if i∈M.take (j+1) then 1 else 0)),0],#v[(p:Nat),0]],rfl,.inl (z4e (w:=.int (zac (tab n fun i=>if i∈M.take j then 1 else 0))) (u:=.int (1 * 2 ^ p)) rfl (arg_0 (r:=(.int (1 * 2 ^ p),false)) (op2_0 (x:=.inl (.int 1)) (y:=.inl (.int (p:Nat))) rfl rfl rfl rfl (oI_t (z37 #v[] #v[] #v[0,9])))) rfl ?_ rfl),_,rfl⟩;show some (W.int (Builtin.bitOr (zac (tab n fun i=>if i∈M.take j then 1 else 0)) (1 * 2 ^ p)),false)=_;rw[ow])
 obtain⟨v2,rfl⟩:=hp;rw[zad,Cg] at hl;exact za2 rfl ((seq_nx (e1:=[#v[(zab M),3],#v[0,0],none]) rfl).trans ((seq_nx hl).trans rfl)) rfl
theorem zfe:∀ws:List W,zbn (ws.map Sum.inl)=some ws
 | []=>rfl
 | w::ws=>by show (zbn (ws.map Sum.inl)).bind _=_;rw[zfe ws];rfl
theorem zgp:∀{xs:List (W ⊕ Nat)}{ws:List W},zbn xs=some ws->xs=ws.map Sum.inl
  | [],_,e=>by obtain rfl:=sI e;rfl
  | .inl w::xs,_,e=>by
    obtain⟨ws,h,e⟩:=bS (show (zbn xs).bind _=_ from e);obtain rfl:=sI e;rw[zgp h];rfl
  | .inr _::_,_,e=>by exact noSome e
theorem zjx {xs:List (W ⊕ Nat)} (m:List Bool) (hm:(m.all fun b=>!b)=true) (h:xs.map isR=m):∃ws:List W,xs=ws.map Sum.inl:=by
  induction xs generalizing m with
  | nil=>exact⟨[],rfl⟩
  | cons x xs ih =>
    cases m with
    | nil=>cases h
    | cons b m =>
      rw[Ak] at h;injection h with h1 h2;rw[Bf,Ac] at hm;obtain⟨ws,e⟩:=ih m hm.2 h2;cases x with
      | inl w=>exact⟨w::ws,by rw[e];rfl⟩
      | inr i=>rw[<-h1] at hm;cases hm.1
theorem zhb:∀{m:List Bool} (hm:(m.all fun b=>!b)=true) (ws:List W),ws.length=m.length->(ws.map fun _=>false)=m
  | [],_,[],_=>rfl
  | [],_,_::_,h=>by cases h
  | _::_,_,[],h=>by cases h
  | b::m,hm,w::ws,h=>by
    rw[Bf,Ac] at hm;rw[Ak,zhb hm.2 ws (by simpa using h)];cases b with
    | false=>rfl
    | true=>cases hm.1
theorem zc1 (m:List Bool) (Φ:Fn) (as:GAs) (en:En) (hm:(m.all fun b=>!b)=true):zae m Φ as en=(as en).bind fun p=>(zbn p.2).bind fun ws=>if ws.length=m.length then (Φ ws).bind fun q=>if q.1.length=m.length then some (p.1,q.2) else none else none:=by
  cases ha:as en with
  | none=>unfold zae;rw[ha];rfl
  | some p =>
    obtain⟨e1,xs⟩:=p;show _=(zbn xs).bind _;cases hf:zbn xs with
    | none =>
      unfold zae;rw[ha];show (if (decide (xs.map isR=m) && _ && _)=true then _ else none)=none;rw[Av (fun z=>by obtain⟨ws,e⟩:=zjx m hm z;rw[e,zfe] at hf;cases hf)]
      rfl
    | some ws =>
      have ex:=zgp hf;subst ex;show _=if ws.length=m.length then _ else none;by_cases hl:ws.length=m.length
      · rw [if_pos hl]
        have h1:=zhb hm ws hl;cases hq:Φ ws with
        | none =>
          unfold zae;rw[ha];show (if (decide ((ws.map Sum.inl).map isR=m) && zau e1 (ws.map Sum.inl) && zce (zba (ws.map Sum.inl)))=true then _ else _)=_;have e:(ws.map Sum.inl).map isR=m:=by rw[<-h1,Ca];rfl
          rw[Ag e,zem,zgf];show (za3 e1 (ws.map Sum.inl)).bind _=_;rw[zby];show (Φ ws).bind _=_;rw[hq]
          rfl
        | some q =>
          obtain⟨ws',r⟩:=q;show _=if ws'.length=m.length then some (e1,r) else none;by_cases hl2:ws'.length=m.length
          · rw [if_pos hl2]
            exact zk9 ha h1 hq #v[]
          · rw [if_neg hl2]
            unfold zae;rw[ha];show (if (decide ((ws.map Sum.inl).map isR=m) && zau e1 (ws.map Sum.inl) && zce (zba (ws.map Sum.inl)))=true then _ else _)=_;have e:(ws.map Sum.inl).map isR=m:=by rw[<-h1,Ca];rfl
            rw[Ag e,zem,zgf];show (za3 e1 (ws.map Sum.inl)).bind _=_;rw[zby];show (Φ ws).bind _=_;rw[hq];show (if ws'.length=m.length then _ else none)=none;rw[if_neg hl2]
      · rw [if_neg hl]
        unfold zae;rw[ha];show (if (decide ((ws.map Sum.inl).map isR=m) && _ && _)=true then _ else none)=none;rw[Av (fun z=>hl (by rw[<-z,Ad,Ad]))]
        rfl
theorem zd4 (m:List Bool) (Φ:Fn) (as:GAs) (en:En) (hm:(m.all fun b=>!b)=true):zae (true::m) Φ as en=(as en).bind fun p=>match p.2 with
    | .inr i::xs=>(zbn xs).bind fun ws=>(match p.1[i]? with
      | some (some (st,true))=>if ws.length=m.length then (Φ (st::ws)).bind fun q=>(match q.1 with
        | st' :: wz=>if wz.length=m.length then some (p.1.set i (#v[st',5]),q.2) else none
        | []=>none) else none
      | _=>none)
    | _=>none:=by
  cases ha:as en with
  | none=>unfold zae;rw[ha];rfl
  | some p =>
    obtain ⟨e1,xs⟩:=p;have base:zae (true::m) Φ as en=if decide (xs.map isR=true::m) && zau e1 xs && zce (zba xs) then (za3 e1 xs).bind fun ws=>(Φ ws).bind fun q=>if q.1.length=(true::m).length then some (zbb (zba xs) e1 (za8 (true::m) q.1),q.2) else none else none:=by
      unfold zae;rw[ha];rfl
    have bad:xs.map isR≠true::m->zae (true::m) Φ as en=none:=fun z=>by rw[base,Av z];rfl
    have bad2:zau e1 xs=false->zae (true::m) Φ as en=none:=fun z=>by rw[base,z,Bool.and_false];rfl
    simp only [Db]
    match xs,ha,base,bad,bad2 with
    | [],ha,_,bad,_=>rw[bad (by simp)]
    | .inl w::xs,ha,_,bad,_=>rw[bad (by simp [isR])]
    | .inr i::xs,ha,base,bad,bad2 =>
      simp only;cases hf:zbn xs with
      | none=>rw [bad (fun z=>by
          rw[Ak] at z;injection z with _ z;obtain⟨ws,e⟩:=zjx m hm z;rw[e,zfe] at hf;cases hf)];rfl
      | some ws =>
        have ex:=zgp hf;subst ex;simp only [Db];have no:(∀st,e1[i]?≠some (some (st,true)))->zau e1 (.inr i::ws.map Sum.inl)=false:=fun z=>by
          unfold zau;rw [Bf];have:(match e1[i]? with | some (some (_,true))=>true | _=>false)=false:=by
            split
            · rename_i q;exact absurd q (z _)
            · rfl
          simp only [this,Es]
        split
        · rename_i st hst
          by_cases hl:ws.length=m.length
          · rw [if_pos hl]
            have h1:=zhb hm ws hl;cases hq:Φ (st::ws) with
            | none =>
              rw[base];split
              · have rs:za3 e1 (.inr i::ws.map Sum.inl)=some (st::ws):=by
                  show (resA e1 (.inr i)).bind _=_;have:resA e1 (.inr i)=some st:=by unfold resA;simp only [hst]
                  rw[this];show (za3 e1 (ws.map Sum.inl)).bind _=_;rw[zby]
                  rfl
                rw[rs];show (Φ (st::ws)).bind _=_;rw[hq]
                rfl
              · rfl
            | some q =>
              obtain ⟨ws',r⟩:=q;simp only [Db];have nn:ws'.length≠(true::m).length->zae (true::m) Φ as en=none:=fun z=>by
                rw[base];split
                · have rs:za3 e1 (.inr i::ws.map Sum.inl)=some (st::ws):=by
                    show (resA e1 (.inr i)).bind _=_;have:resA e1 (.inr i)=some st:=by unfold resA;simp only [hst]
                    rw[this];show (za3 e1 (ws.map Sum.inl)).bind _=_;rw[zby]
                    rfl
                  rw[rs];show (Φ (st::ws)).bind _=_;rw[hq];show (if ws'.length=(true::m).length then _ else none)=none;rw[if_neg z]
                · rfl
              match ws',hq,nn with
              | [],hq,nn=>rw[nn (by simp)]
              | st' :: wz,hq,nn =>
                simp only;by_cases hl2:wz.length=m.length
                · rw [if_pos hl2]
                  exact zpz ha (by rw[h1]) hst hq #v[]
                · rw[if_neg hl2,nn (by simpa using hl2)]
          · rw [if_neg hl,bad (fun z=>hl (by
              have:=congrArg List.length z;simpa using this))]
        · rename_i hst
          exact bad2 (no fun st z=>hst st z)
theorem oI_e {c:Int->Int->Bool}{g:Int->Int->W}{i j:Int}:oI c g (.int i) (.int j)=if c i j then #v[g i j,6] else none:=rfl
theorem z56 {i j:Int}:yes2 i j=true:=rfl
theorem zxj {ws:List W}:seqW (.tup ws)=some ws:=rfl
theorem zxc {ws:List W}:seqW (.lst ws)=some ws:=rfl
theorem zys {ws:List W}:seqL (.lst ws)=some ws:=rfl
theorem z9y {a:W}{i:Int}:oIx a (.int i)=(seqW a).bind fun ws=>(atI ws i).bind fun w=>#v[w,6]:=by cases a<;>rfl
theorem z74 {en:En}{w:W}:resA en (.inl w)=some w:=rfl
theorem z5l {en:En}{i:Nat}:resA en (.inr i)=match en[i]? with | some (some (w,_))=>some w | _=>none:=by
 unfold resA;rfl
theorem z9b {i j:Int}:oEq (.int i) (.int j)=some (.bl (decide (i=j)),false):=rfl
theorem z9i {i j:Int}:oNe (.int i) (.int j)=some (.bl (!decide (i=j)),false):=rfl
theorem zyv {w:W}{xs:List (W ⊕ Nat)}:zbn (.inl w::xs)=(zbn xs).bind fun ws=>some (w::ws):=rfl
theorem zyo:zbn []=some []:=rfl
theorem z3q {en:En}{x:W ⊕ Nat}{xs:List (W ⊕ Nat)}:za3 en (x::xs)=(resA en x).bind fun w=>(za3 en xs).bind fun ws=>some (w::ws):=rfl
theorem z2o {en:En}:za3 en []=some []:=rfl
theorem z0v {b:Bool}{m:List Bool}{w:W}{ws:List W}:za8 (b::m) (w::ws)=some (w,b)::za8 m ws:=rfl
theorem z1g {ws:List W}:za8 [] ws=[]:=by unfold za8;simp
theorem z5z {en:En}:zcl [] [] en=some []:=rfl
theorem z6o {m:List Bool}{w u:W}{ws:List W}{en:En}:zcl (true::m) (u::ws) (#v[w,5]::en)=(zcl m ws en).bind fun r=>some (w::r):=rfl
theorem z54 {m:List Bool}{w:W}{ws:List W}{x:Option (W × Bool)}{en:En}:zcl (false::m) (w::ws) (x::en)=(zcl m ws en).bind fun r=>some (w::r):=rfl
theorem z92 {x:W}{xs:List W}:atI (x::xs) 0=some x:=by
 have:=zdc (xs:=x::xs) (i:=0) rfl;exact this
theorem z8v {x y:W}{xs:List W}:atI (x::y::xs) 1=some y:=by
 have:=zdc (xs:=x::y::xs) (i:=1) rfl;exact this
theorem z8g {x y z:W}{xs:List W}:atI (x::y::z::xs) 2=some z:=by
 have:=zdc (xs:=x::y::z::xs) (i:=2) rfl;exact this
theorem zwv {n:Nat}:((no_index (OfNat.ofNat n):Nat):Int)=(OfNat.ofNat n:Int):=rfl
theorem zoy {xs ys:List W}:oAdd (.lst xs) (.lst ys)=if xs.length+ys.length<=sizeLine then #v[(xs++ys),2] else none:=by
 by_cases h:xs.length+ys.length<=sizeLine
 ·rw[if_pos h];exact zne h
 ·rw [if_neg h];show oOr oCat (oOr zxz (oOr z27 zwm)) (.lst xs) (.lst ys)=none;have e:oCat (.lst xs) (.lst ys)=none:=by
   show (if xs.length+ys.length<=sizeLine then _ else none)=none;rw[if_neg h]
  unfold oOr;rw[e]
  rfl
theorem zmb:oIsi .int .non=some (.bl false,false):=rfl
theorem zqm {b:Bool}:oIsi .int (.bl b)=some (.bl true,false):=rfl
theorem zna {n:Int}:oIsi .int (.int n)=some (.bl true,false):=rfl
theorem zn0 {x:Str}:oIsi .int (.str x)=some (.bl false,false):=rfl
theorem zn1 {xs:List W}:oIsi .int (.tup xs)=some (.bl false,false):=rfl
theorem znk {xs:List W}:oIsi .int (.lst xs)=some (.bl false,false):=rfl
theorem zl4:oIsi .int .dic=some (.bl false,false):=rfl
theorem zkr:oIsi .bool .non=some (.bl false,false):=rfl
theorem zm3 {b:Bool}:oIsi .bool (.bl b)=some (.bl true,false):=rfl
theorem zku {n:Int}:oIsi .bool (.int n)=some (.bl false,false):=rfl
theorem zkd {x:Str}:oIsi .bool (.str x)=some (.bl false,false):=rfl
theorem zlm {xs:List W}:oIsi .bool (.tup xs)=some (.bl false,false):=rfl
theorem zk3 {xs:List W}:oIsi .bool (.lst xs)=some (.bl false,false):=rfl
theorem zlc:oIsi .bool .dic=some (.bl false,false):=rfl
theorem zmn:oIsi .str .non=some (.bl false,false):=rfl
theorem zq3 {b:Bool}:oIsi .str (.bl b)=some (.bl false,false):=rfl
theorem zn2 {n:Int}:oIsi .str (.int n)=some (.bl false,false):=rfl
theorem zml {x:Str}:oIsi .str (.str x)=some (.bl true,false):=rfl
theorem zmx {xs:List W}:oIsi .str (.tup xs)=some (.bl false,false):=rfl
theorem znt {xs:List W}:oIsi .str (.lst xs)=some (.bl false,false):=rfl
theorem zns:oIsi .str .dic=some (.bl false,false):=rfl
theorem zix:oIsi .tuple .non=some (.bl false,false):=rfl
theorem zlo {b:Bool}:oIsi .tuple (.bl b)=some (.bl false,false):=rfl
theorem zik {n:Int}:oIsi .tuple (.int n)=some (.bl false,false):=rfl
theorem zim {x:Str}:oIsi .tuple (.str x)=some (.bl false,false):=rfl
theorem zjj {xs:List W}:oIsi .tuple (.tup xs)=some (.bl true,false):=rfl
theorem zjp {xs:List W}:oIsi .tuple (.lst xs)=some (.bl false,false):=rfl
theorem zjo:oIsi .tuple .dic=some (.bl false,false):=rfl
theorem zl3:oIsi .list .non=some (.bl false,false):=rfl
theorem zm1 {b:Bool}:oIsi .list (.bl b)=some (.bl false,false):=rfl
theorem zle {n:Int}:oIsi .list (.int n)=some (.bl false,false):=rfl
theorem zko {x:Str}:oIsi .list (.str x)=some (.bl false,false):=rfl
theorem zlu {xs:List W}:oIsi .list (.tup xs)=some (.bl false,false):=rfl
theorem zkt {xs:List W}:oIsi .list (.lst xs)=some (.bl true,false):=rfl
theorem zk4:oIsi .list .dic=some (.bl false,false):=rfl
theorem z8f {i j:Bool}:oEq (.bl i) (.bl j)=some (.bl (decide (i=j)),false):=rfl
theorem z89 {i j:Bool}:oNe (.bl i) (.bl j)=some (.bl (!decide (i=j)),false):=rfl
theorem z9k {i j:Str}:oEq (.str i) (.str j)=some (.bl (decide (i=j)),false):=rfl
theorem z9x {i j:Str}:oNe (.str i) (.str j)=some (.bl (!decide (i=j)),false):=rfl
theorem z9h {i j:Bool}:oIs (.bl i) (.bl j)=some (.bl (decide (i=j)),false):=rfl
theorem z76 {f:List Bool->Bool}{bs:List Bool}:oBl f [.lst (bs.map W.bl)]=some (.bl (f bs),false):=by
 show (znc (bs.map W.bl)).bind _=_;rw[zj9];rfl
theorem zek {cap:Cap}{it:GL}{te:GE}{en e0:En}{ws rs:List W}{xs:En} (hi:it en=some (e0,ws)) (hz:ws.length<=1000) (hl:rs.length=ws.length) (hn:zce cap=true) (hk:(capKeep cap).contains 1=false) (hx:zf2 cap e0=none::none::xs) (hb:∀v0 v1,zbb cap e0 (v0::v1::xs)=e0)
  (ht:∀(i:Nat) v0 w r,ws[i]?=some w->rs[i]?=some r->∃u f,te (v0::#v[w,6]::xs)=some (v0::u::xs,(r,f))) :
  zck cap (.nm 1) it gYes te en=some (e0,(.lst rs,true)):=by
 have s9:(1000:Nat)<=sizeLine:=by decide
 obtain⟨ce',out,hc,hp⟩:=zf5 (cap:=cap) (T:=.nm 1) (tc:=gYes) (te:=te) (fun i c dn=>(∃v0 v1,c=v0::v1::xs)/\dn=rs.take i) hi hn #v[] ⟨⟨_,_,hx⟩,rfl⟩
  (fun i w c dn hw hp=>by
   obtain⟨⟨v0,v1,rfl⟩,rfl⟩:=hp;have lt:i < ws.length:=(Am.mp hw).1;have hr:rs[i]?=some rs[i]:=Ab #v[];obtain⟨u,f,h⟩:=ht i v0 w _ hw hr;refine⟨v0::#v[w,6]::xs,?_,.inl ⟨_,_,_,rfl,h,⟨_,_,rfl⟩,?_⟩⟩
   ·show (if (capKeep cap).contains 1 || !decide (1 < (v0 :: v1 :: xs).length) then none else _) = _;rw[hk,Ag (by rw[Bb,Bb];omega)]
    rfl
   ·show rs.take i ++ [rs[i]] = rs.take (i + 1);rw[Fj,hr];rfl)
 obtain⟨⟨v0,v1,rfl⟩,rfl⟩:=hp;rw[hb,<-hl,Cg] at hc;exact hc
theorem zbz {T:List Fd}{bn:List Str}{d:Nat}{x:Str}{t:Fd}{g:GS}(h:T.find? (·.nm == x)=some t)(hb:zaq T bn (sem T bn (d+2)) (d+2) t=some g):sem T bn (d+3) x=zaj t.m t.N.length g:=by
 show (match T.find? (·.nm == x) with | some t=>fnAt T bn (sem T bn (d+2)) (d+2) t | none=>fun _=>none)=_;rw[h];show fnAt T bn (sem T bn (d+2)) (d+2) t=_;unfold fnAt;rw[hb]
noncomputable def evA:=And.intro @oI_e ( And.intro @z56 ( And.intro @zum ( And.intro @zoy ( And.intro @zxj ( And.intro @zxc ( And.intro @zys ( And.intro @z9y ( And.intro @z74 ( And.intro @z5l ( And.intro @z9b ( And.intro @z9i ( And.intro @z8f ( And.intro @z89 ( And.intro @z9k ( And.intro @z9x ( And.intro @z9h ( And.intro @z76 ( And.intro @zyv ( And.intro @zyo ( And.intro @z3q ( And.intro @z2o ( And.intro @z0v ( And.intro @z1g ( And.intro @z5z ( And.intro @z6o ( And.intro @z54 ( And.intro (fun Φ as en=>zc1 [false] Φ as en rfl) ( And.intro (fun Φ as en=>zc1 [false,false] Φ as en rfl) ( And.intro (fun Φ as en=>zc1 [false,false,false] Φ as en rfl) ( And.intro (fun Φ as en=>zc1 [false,false,false,false] Φ as en rfl) ( And.intro (fun Φ as en=>zd4 [] Φ as en rfl) ( And.intro (fun Φ as en=>zd4 [false] Φ as en rfl) ( And.intro (fun Φ as en=>zd4 [false,false] Φ as en rfl) ( And.intro (fun Φ as en=>zd4 [false,false,false] Φ as en rfl) ( And.intro @z92 ( And.intro @z8v ( And.intro @z8g ( And.intro @Fs ( And.intro @zmb ( And.intro @zqm ( And.intro @zna ( And.intro @zn0 ( And.intro @zn1 ( And.intro @znk ( And.intro @zl4 ( And.intro @zkr ( And.intro @zm3 ( And.intro @zku ( And.intro @zkd ( And.intro @zlm ( And.intro @zk3 ( And.intro @zlc ( And.intro @zmn ( And.intro @zq3 ( And.intro @zn2 ( And.intro @zml ( And.intro @zmx ( And.intro @znt ( And.intro @zns ( And.intro @zix ( And.intro @zlo ( And.intro @zik ( And.intro @zim ( And.intro @zjj ( And.intro @zjp ( And.intro @zjo ( And.intro @zl3 ( And.intro @zm1 ( And.intro @zle ( And.intro @zko ( And.intro @zlu ( And.intro @zkt ( And.intro @zk4 ( And.intro @zwv ( And.intro @Option.bind_some.{0,0} ( And.intro @Option.bind_none.{0,0} ( And.intro @List.length_cons.{0} ( And.intro @List.length_nil.{0} ( And.intro @List.getElem?_cons_zero.{0} ( And.intro @List.getElem?_cons_succ.{0} ( And.intro @List.set_cons_zero.{0} ( And.intro @List.set_cons_succ.{0} ( And.intro @List.nil_append.{0} ( And.intro @List.cons_append.{0} ( And.intro @List.contains_nil.{0} ( And.intro @Bool.false_or ( And.intro @Bool.or_false ( And.intro @Bool.not_true ( And.intro @Bool.not_false ( And.intro @Cj ( And.intro @Nat.lt_add_one ( And.intro @Nat.zero_lt_succ ( And.intro @decide_true ( And.intro @decide_false ( And.intro @Ds ( And.intro @List.elem_nil.{0} ( And.intro @List.elem_cons.{0} ( And.intro @Eh ( And.intro @Bool.true_eq_false ( And.intro @Bool.or_self ( And.intro @Bool.and_self ( And.intro @Bool.true_and ( And.intro @Es ( And.intro @Fu ( And.intro @Bool.and_false ( And.intro @Bool.true_or ( And.intro @Bool.or_true ( And.intro @Ch ( And.intro @gVar.eq_1 ( And.intro @zaa.eq_1 ( And.intro @gC.eq_1 ( And.intro @gArg.eq_1 ( And.intro @gA0.eq_1 ( And.intro @gCns.eq_1 ( And.intro @gOp1.eq_1 ( And.intro @gOp2.eq_1 ( And.intro @gOpN.eq_1 ( And.intro @zan.eq_1 ( And.intro @gAnd.eq_1 ( And.intro @gOr.eq_1 ( And.intro @gNot.eq_1 ( And.intro @zg5.eq_1 ( And.intro @gOrT.eq_1 ( And.intro @zrs.eq_1 ( And.intro @gIf.eq_1 ( And.intro @zjz.eq_1 ( And.intro @zap.eq_1 ( And.intro @z72.eq_1 ( And.intro @zca.eq_1 ( And.intro @zgv.eq_1 ( And.intro @gSl.eq_1 ( And.intro @zas.eq_1 ( And.intro @zeg.eq_1 ( And.intro @z98.eq_1 ( And.intro @gRev.eq_1 ( And.intro @zb3.eq_1 ( And.intro @gBrk.eq_1 ( And.intro @gCnt.eq_1 ( And.intro @gSeq.eq_1 ( And.intro @gRet.eq_1 ( And.intro @z87.eq_1 ( And.intro @gIfS.eq_1 ( And.intro @zf1.eq_1 ( And.intro @gSet.eq_1 ( And.intro @gAsg.eq_1 ( And.intro @gPar.eq_1 ( And.intro @za7.eq_1 ( And.intro @gApp.eq_1 ( And.intro @gExt.eq_1 ( And.intro @gAug.eq_1 ( And.intro @gYes.eq_1 ( And.intro @zdi.eq_1 ( And.intro @gZip.eq_1 ( And.intro @zqk.eq_1 ( And.intro @zaj.eq_1 ( And.intro @z85.eq_1 (@z9w.eq_1)))))))))))))))))))))))))))))))))))))))))))))))))))))))))))))))))))))))))))))))))))))))))))))))))))))))))))))))))))))))))))))))))))))))))))))))))))))))))))))
end L2
local macro_rules | `(tactic| simp! [$xs,*])=>`(tactic| simp only [L2.evA,L2.tgSet,L2.keyW,L2.oNeg,L2.oLen,L2.setAll,List.replicate,List.contains,eq_self,Nat.reduceAdd,Nat.reduceSub,Nat.reduceLT,Nat.reduceLeDiff,reduceIte,reduceCtorEq,Nat.reduceEqDiff,Nat.reduceBEq,↓reduceIte,Int.reduceEq,Int.reduceLE,Int.reduceLT,Int.reduceAdd,Int.reduceSub,Int.reduceMul,Int.reduceNeg,$xs,*])
namespace L2
open PySem PySem.Spec PyProof.Rows
theorem z0g {α:Type}{cap:Cap}{it:GL}{tc:GT}{te:GE}{en e0:En}{ts:List α}{xs:En} (f:α->W) (p:α->Bool) (g:α->W) (hi:it en=some (e0,ts.map f)) (hz:ts.length<=1000) (hn:zce cap=true) (hk:(capKeep cap).contains 1=false) (hx:zf2 cap e0=none::none::xs) (hb:∀v0 v1,zbb cap e0 (v0::v1::xs)=e0)
    (ht:∀v0 a,a∈ts->∃u,tc (v0::#v[f a,6]::xs)=some (v0::u::xs,p a)/\(p a=true->∃u' b,te (v0::u::xs)=some (v0::u' :: xs,(g a,b)))) :
    zck cap (.nm 1) it tc te en=some (e0,(.lst ((ts.filter p).map g),true)):=by
  have s9:(1000:Nat)<=sizeLine:=by decide
  obtain ⟨ce',out,hc,hp⟩:=zf5 (cap:=cap) (T:=.nm 1) (tc:=tc) (te:=te) (fun i c dn=>(∃v0 v1,c=v0::v1::xs)/\dn=((ts.take i).filter p).map g) hi hn (by rw [Ad];omega) ⟨⟨_,_,hx⟩,rfl⟩
    (fun i w c dn hw hp=>by
      obtain⟨⟨v0,v1,rfl⟩,rfl⟩:=hp;rw[Au] at hw;cases ha:ts[i]? with
      | none=>rw[ha] at hw;exact noSome hw
      | some a =>
        rw[ha] at hw;obtain rfl:=sI hw;obtain⟨u,h1,h2⟩:=ht v0 a (Bn ha);have tk:ts.take (i+1)=ts.take i++[a]:=by rw[Fj,ha];rfl
        refine⟨v0::#v[f a,6]::xs,?_,?_⟩
        · show (if (capKeep cap).contains 1 || !decide (1 < (v0 :: v1 :: xs).length) then none else _) = _
          rw[hk,Ag (by rw[Bb,Bb];omega)]
          rfl
        · cases q : p a with
          | true =>
            obtain⟨u',b,h3⟩:=h2 q;rw[q] at h1;refine .inl ⟨_,_,_,h1,h3,⟨_,_,rfl⟩,?_⟩;rw[tk,Eg,Bq,List.filter_cons_of_pos q];rfl
          | false =>
            rw[q] at h1;refine .inr ⟨_,h1,⟨_,_,rfl⟩,?_⟩;rw[tk,Eg,List.filter_cons_of_neg (by rw[q];decide),Ei,Br])
  obtain⟨⟨v0,v1,rfl⟩,rfl⟩:=hp;rw[hb,Ad,Cg] at hc;exact hc
theorem ztr {a:GA}{en e1:En}{n:Nat}(h:a en=some (e1,.inl (.int (n:Nat))))(hn:n<=1000000):zeg (gCns a gA0) en=some (e1,rngW 0 n):=by
 have r:zea (n:Int)=true:=by
  unfold zea;rw[Ag #v[],Ag #v[]];rfl
 have h2:gCns a gA0 en=some (e1,[.inl (.int (n:Nat))]):=by unfold gCns;rw[h];rfl
 have:=zr4 h2 rfl r;rw[Ch] at this;exact this
theorem pow1 {l:Nat}(h:l<=100):cPow 1 (l:Int)=true:=by
 unfold cPow;rw[Ag #v[],Ag #v[]];rfl
theorem za0 (l:Nat):(1:Int) * 2 ^ l=((2 ^ l:Nat):Int):=by rw[Int.one_mul];norm_cast
theorem zgi {m:Nat}(h:m<=6):2 ^ m<=64:=Dt #v[0,9] h
theorem zos {c:Nat}:∀{ts:List Str},(∀t∈ts,t.length<=c)->piled ts<=(c+2) * ts.length
  | [],_=>by rw[piled_nil];omega
  | t::ts,h=>by
    have h1:=h t (Aq ..);have h2:=zos (c:=c) (ts:=ts) fun x hx=>h x (Ar _ hx);rw[piled_cons,Bb,Nat.mul_succ];omega
theorem zh7 {c:Nat}{ts:List Str}(h:∀t∈ts,t.length<=c):(tupleText ts).length<=(c+2) * ts.length+3:=by
 have hp:=zos h;have hj:(Str.join ", " ts).length<=piled ts:=by
  cases ts with
  | nil=>exact Bv _
  | cons x xs=>have:=join_length_add (x::xs) (by simp);omega
 unfold tupleText;rw[Str.length_append,Str.length_append];have a:(Str.ofString "(").length=1:=by decide
 have b:(Str.ofString (if (ts.length == 1)=true then ",)" else ")")).length<=2:=by
  split
  ·decide
  ·decide
 omega
theorem zfz {α:Type}(f:α->PyData):∀l:List α,PyData.shownAll (l.map f)=l.map fun x=>(f x).shown
 | []=>rfl
 | x::l=>by rw[Ak,PyData.shownAll,zfz f l];rfl
theorem zg4 {α:Type}(f:α->PyData):∀l:List α,(∀x∈l,(f x).showable=true)->PyData.showableAll (l.map f)=true
 | [],_=>rfl
 | x::l,h=>by rw[Ak,PyData.showableAll,h x (Aq ..),zg4 f l fun y hy=>h y (Ar _ hy)];rfl
theorem zg1 {α:Type}(f:α->PyData):∀l:List α,(∀x∈l,(f x).hasDict=false)->PyData.hasDictAll (l.map f)=false
 | [],_=>rfl
 | x::l,h=>by rw[Ak,PyData.hasDictAll,h x (Aq ..),zg1 f l fun y hy=>h y (Ar _ hy)];rfl
theorem depAll_map {α:Type}{c:Nat} (f:α->PyData):∀l:List α,(∀x∈l,(f x).depth<=c)->PyData.depthAll (l.map f)<=c
  | [],_=>Bv _
  | x::l,h=>by
    rw[Ak,PyData.depthAll];have:=h x (Aq ..);have:=depAll_map f l fun y hy=>h y (Ar _ hy);omega
theorem zfb {α:Type}(f:α->PyData):∀l:List α,(∀x∈l,(f x).canLay0=true)->PyData.canLayAll0 (l.map f)=true
 | [],_=>rfl
 | x::l,h=>by rw[Ak,PyData.canLayAll0,h x (Aq ..),zfb f l fun y hy=>h y (Ar _ hy)];rfl
theorem znz {α:Type}(f:α->W)(g:α->PyData)(h:∀x,dW (f x)=some (g x)):∀l:List α,dWs (l.map f)=some (l.map g)
 | []=>rfl
 | x::l=>by rw[Ak,dWs,h x,znz f g h l];rfl
noncomputable def zw0 (n:Int):Prop:=n.natAbs.log2 < 1920
noncomputable def ndI (ns:List Int):PyData:=.tuple (ns.map .int)
theorem z2w (ns:List Int):dW (.tup (ns.map W.int))=some (ndI ns):=by
 rw[dW,znz W.int .int (fun _=>by rw[dW]) ns];rfl
theorem z52 {ns:List Int}(h:∀n∈ns,zw0 n):(ndI ns).showable=true/\(ndI ns).hasDict=false/\(ndI ns).depth<=1/\(ndI ns).canLay0=true/\(ndI ns).shown.length<=1923 * ns.length+3:=by
 refine⟨?_,?_,?_,?_,?_⟩
 ·unfold ndI;rw[PyData.showable];exact zg4 _ _ fun n hn=>by rw[PyData.showable];exact Ag (h n hn)
 ·unfold ndI;rw[PyData.hasDict];exact zg1 _ _ fun n hn=>by rw[PyData.hasDict]
 ·unfold ndI; rw[PyData.depth]; have := depAll_map (c := 0) PyData.int ns fun n hn => by rw[PyData.depth]; exact Ae _
  omega
 ·unfold ndI;rw[PyData.canLay0];exact zfb _ _ fun n hn=>by rw[PyData.canLay0]
 ·unfold ndI;rw [PyData.shown,zfz];have:=zh7 (c:=1921) (ts:=ns.map fun x=>(PyData.int x).shown) fun t ht=>by
   obtain⟨n,hn,rfl⟩:=Ay.mp ht;rw[PyData.shown];exact int_text_len_1921 (h n hn)
  rw[Ad] at this;exact this
theorem zxu {n:Int}{k:Nat}(h:n.natAbs < 2 ^ k)(hk:k<=1919):zw0 n:=by
 unfold zw0;by_cases z:n.natAbs=0
 ·rw[z];decide
 ·have := (Nat.log2_lt z).mpr h;omega
theorem and1 {a:Int}(h:0<=a):Builtin.bitAnd a 1=a % 2:=by
 have b:Bit (a % 2):=by unfold Bit;omega
 have s:=zf7 (a:=a / 2) (b:=0) #v[] (Int.le_refl 0) b (show Bit 1 from .inr rfl);rw[bitAnd_zero] at s;have e:(2 * 0+1:Int)=1:=rfl;have e2:2 * (a / 2)+a % 2=a:=by omega
 rw[e,e2] at s;rw[s];omega
noncomputable def bitF (p i:Nat):Int:=((p / 2 ^ i % 2:Nat):Int)
noncomputable def letL (p:Nat):List Nat:=dueL (bitF p) 6
noncomputable def z6j (t:List Nat):Nat:=(t.map fun l=>2 ^ l).sum
theorem zoq:∀p:Fin 64,z6j (letL p.val)=p.val:=by decide +kernel
noncomputable def plL (m:Nat) (f:Nat->Int):List Nat:=(List.range (2 ^ m)).filter fun q=>decide (z91 f q=1)
theorem pl_nodup {m:Nat}(f:Nat->Int)(hm:m<=6):((plL m f).map letL).Nodup:=by
 have p6:=zgi hm;rw[Bi,By];have n:(plL m f).Nodup:=List.Nodup.sublist List.filter_sublist List.nodup_range;rw[Bi] at n;refine n.imp_of_mem fun {a b} ha hb ne e=>ne ?_;have la:=Bt.mp (Cv.mp ha).1;have lb:=Bt.mp (Cv.mp hb).1;have:=congrArg z6j e;rw[zoq ⟨a,by omega⟩,zoq ⟨b,by omega⟩] at this;exact this
section
variable {en:En}{P Q:W->Prop}
end
set_option maxHeartbeats 2000000
noncomputable def dkN (p:Nat):DKey:=.inl (.inl (p:Int))
theorem dkN_inj (a b:Nat)(h:dkN a=dkN b):a=b:=Int.ofNat.inj (Sum.inl.inj (Sum.inl.inj h))
section
variable {κ:Type} [DecidableEq κ] {f:κ->DKey}
theorem zm9 (hf:∀a b,f a=f b->a=b) (g:κ->W) (p:κ):∀L:List κ,valW ((L.map f).zip (L.map g)) (f p)=if p∈L then some (g p) else none
  | []=>rfl
  | q::L=>by
    rw[Ak,Ak,Bm,zdp,zm9 hf g p L];by_cases h:q=p
    · subst h;rw[if_pos rfl,if_pos Aq]
    · rw [if_neg fun e => h (hf _ _ e)]
      by_cases m:p∈L
      · rw[if_pos m,if_pos (Ar _ m)]
      · rw[if_neg m,if_neg fun z=>by rcases Ax.mp z with z | z;exact h z.symm;exact m z]
theorem zod (hf:∀a b,f a=f b->a=b){L:List κ}{p:κ}:f p∈L.map f↔p∈L:=by
 rw[Ay];exact⟨fun ⟨a,h,e⟩=>hf _ _ e ▸ h,fun h=>⟨p,h,rfl⟩⟩
theorem zpy (hf:∀a b,f a=f b->a=b)(ws:List W){p:κ}(w:W){L:List κ}(h:p ∉ L):zeb (L.map f) ws (f p) w=ws++[w]:=by
 unfold zeb;rw[if_neg (mt (zod hf).mp h)]
theorem zo7 (hf:∀a b,f a=f b->a=b){p:κ}{L:List κ}(h:p ∉ L):zeh (L.map f) (f p)=L.map f++[f p]:=by
 unfold zeh;rw[if_neg (mt (zod hf).mp h)]
end
theorem zio (p:Nat)(L:List Nat):zcj (dkN p) (L.map dkN)=true:=by
 unfold zcj;rw[List.all_map];exact Bg.mpr fun _ _=>rfl
theorem z84 {i:Nat}{k g:GE}{en e1:En}{ks:List DKey}{ws:List W}{f f2:Bool}{u w:W}{d:DKey}(h:g en=some (e1,(w,f)))(hk:k e1=some (e1,(u,f2)))(hi:e1[i]?=some (some (.dct ks ws,true)))(hd:keyD u=some d)(hs:zcj d ks=true)(hl:ks.length < sizeLine):zug i k g en=some (e1.set i (some (.dct (zeh ks d) (zeb ks ws d w),true)),.nx):=by
 unfold zug;simp only [h,hk,hi,Db,hd,hs,Bool.true_and,Ag hl,Fg]
theorem zjs:∀L:List Nat,zin (L.map dkN)=some (L.map fun p:Nat=>W.int (p:Int))
  | []=>rfl
  | p::L=>by
    show (zin (L.map dkN)).bind _=_;rw[zjs L];rfl
noncomputable def tp (w:Nat):Nat:=w.log2
theorem zah {a b:GS}{en e1:En}{r:Option (En × Fl)}(h1:a en=some (e1,.nx))(h2:b e1=r):gSeq a b en=r:=(seq_nx h1).trans h2
theorem zbo {w:Nat}(h:w≠0):w.testBit (tp w)=true:=Nat.testBit_log2 h
theorem zh3 {w i:Nat}(h:w.testBit i=true):i<=tp w:=by
 have hw:w≠0:=fun z=>by rw[z,Cf] at h;exact Ah h
 exact (Nat.le_log2 hw).mpr (Nat.ge_two_pow_of_testBit h)
theorem zcp {w i:Nat}(h:tp w < i):w.testBit i=false:=by
 cases q:w.testBit i with
 | false=>rfl
 | true=>have:=zh3 q;omega
theorem zxf {w t:Nat}(h:w.testBit t=true)(h2:∀i,t < i->w.testBit i=false):tp w=t:=by
 have a:=zh3 h;have hw:w≠0:=fun z=>by rw[z,Cf] at h;exact Ah h
 rcases Nat.lt_or_ge t (tp w) with c | c
 ·have := h2 _ c;rw[zbo hw] at this;exact absurd this.symm Ah
 ·omega
noncomputable def sel:List Nat->Nat->Nat
 | [],_=>0
 | b::B,w=>(if w.testBit (tp b) then b else 0) ^^^ sel B w
noncomputable def RB (B:List Nat):Prop:=(∀b∈B,b≠0)/\B.Pairwise fun a b=>a.testBit (tp b)=false/\b.testBit (tp a)=false
theorem RB.tail {b:Nat}{B:List Nat}(h:RB (b::B)):RB B:=⟨fun x hx=>h.1 x (Ar _ hx),(Ck.mp h.2).2⟩
theorem RB.two {B:List Nat} (h:RB B) {a b:Nat} (ha:a∈B) (hb:b∈B) (ne:a≠b):a.testBit (tp b)=false:=by
  induction B with
  | nil=>cases ha
  | cons x B ih =>
    have hp:=Ck.mp h.2;rcases Ax.mp ha with rfl | ha
    · rcases Ax.mp hb with rfl | hb
      · exact absurd rfl ne
      · exact (hp.1 b hb).1
    · rcases Ax.mp hb with rfl | hb
      · rename_i ha'
        exact (hp.1 a (by assumption)).2
      · exact ih h.tail ha hb
theorem sel_no {t w:Nat}:∀{B:List Nat},(∀b∈B,b.testBit t=false)->(sel B w).testBit t=false
  | [],_=>Cf t
  | b::B,h=>by
    show ((if w.testBit (tp b) then b else 0) ^^^ sel B w).testBit t=false;rw[Bh,sel_no fun x hx=>h x (Ar _ hx)];have hb:=h b Aq;split
    · rw[hb];rfl
    · rw[Cf];rfl
theorem sel_bit {w:Nat}:∀{B:List Nat},RB B->∀b∈B,(sel B w).testBit (tp b)=w.testBit (tp b)
  | [],_,b,hb=>by cases hb
  | a::B,h,b,hb=>by
    have hp:=Ck.mp h.2;show ((if w.testBit (tp a) then a else 0) ^^^ sel B w).testBit (tp b)=_;rw[Bh];rcases Ax.mp hb with rfl | hb
    · rw [sel_no fun x hx => (hp.1 x hx).2, Bool.xor_false]
      cases q:w.testBit (tp b) with
      | true=>rw[if_pos rfl];exact zbo (h.1 b Aq)
      | false=>rw[if_neg Ah];exact Cf _
    · rw [sel_bit h.tail b hb]
      have:=(hp.1 b hb).1;split
      · rw[this,Bool.false_xor]
      · rw[Cf,Bool.false_xor]
theorem zuz (u v:Nat):∀B:List Nat,sel B (u ^^^ v)=sel B u ^^^ sel B v
  | []=>(Ef 0).symm
  | b::B=>by
    show (if (u ^^^ v).testBit (tp b) then b else 0) ^^^ sel B (u ^^^ v)=((if u.testBit (tp b) then b else 0) ^^^ sel B u) ^^^ ((if v.testBit (tp b) then b else 0) ^^^ sel B v);rw[zuz u v B,Bh];have sw:∀a b c d:Nat,(a ^^^ b) ^^^ (c ^^^ d)=(a ^^^ c) ^^^ (b ^^^ d):=fun a b c d=>by rw[Bp,Bp,<-Bp b c d,Et b c,Bp]
    rw[sw];congr 1;cases u.testBit (tp b)<;>cases v.testBit (tp b)<;>simp
theorem zpg:∀B:List Nat,sel B 0=0
  | []=>rfl
  | b::B=>by
    show (if (0:Nat).testBit (tp b) then b else 0) ^^^ sel B 0=0;rw[zpg B,Cf,if_neg Ah,Ef]
theorem zmj {w:Nat}:∀{B:List Nat},(∀b∈B,w.testBit (tp b)=false)->sel B w=0
  | [],_=>rfl
  | b::B,h=>by
    show (if w.testBit (tp b) then b else 0) ^^^ sel B w=0;rw[zmj fun x hx=>h x (Ar _ hx),h b Aq,if_neg Ah,Ef]
theorem zo8:∀{B:List Nat},RB B->∀b∈B,sel B b=b
  | [],_,b,hb=>by cases hb
  | a::B,h,b,hb=>by
    have hp:=Ck.mp h.2;show (if b.testBit (tp a) then a else 0) ^^^ sel B b=b;rcases Ax.mp hb with rfl | hb
    · rw[zmj fun x hx=>(hp.1 x hx).1,zbo (h.1 b Aq),if_pos rfl,Ce]
    · rw[zo8 h.tail b hb,(hp.1 b hb).2,if_neg Ah,Fh]
theorem zo1 {w t:Nat}:∀{B:List Nat},(sel B w).testBit t=true->∃b∈B,w.testBit (tp b)=true/\b.testBit t=true
  | [],h=>by
    have h:(0:Nat).testBit t=true:=h;rw[Cf] at h;exact absurd h Ah
  | a::B,h=>by
    have h:((if w.testBit (tp a) then a else 0) ^^^ sel B w).testBit t=true:=h;rw[Bh] at h;cases q:(sel B w).testBit t with
    | true =>
      obtain⟨b,hb,r⟩:=zo1 q;exact⟨b,Ar _ hb,r⟩
    | false =>
      rw[q,Bool.xor_false] at h;split at h
      · rename_i z;exact⟨a,Aq,z,h⟩
      · rw[Cf] at h;exact absurd h Ah
inductive SpN (S:List Nat):Nat->Prop where
 | zero:SpN S 0
 | add {v b:Nat} (h:SpN S v) (hb:b∈S):SpN S (v ^^^ b)
theorem SpN.one {S:List Nat}{b:Nat}(h:b∈S):SpN S b:=by
 have:=SpN.add SpN.zero h
 rwa [Fh] at this
theorem SpN.xor {S:List Nat}{u v:Nat}(hu:SpN S u)(hv:SpN S v):SpN S (u ^^^ v):=by
 induction hv with
 | zero=>rwa [Ce]
 | add _ hb ih=>rw[<-Bp];exact ih.add hb
theorem SpN.go {S T:List Nat}{v:Nat}(h:SpN S v)(hs:∀b∈S,SpN T b):SpN T v:=by
 induction h with
 | zero=>exact .zero
 | add _ hb ih=>exact ih.xor (hs _ hb)
noncomputable def zbc (S T:List Nat):Prop:=(∀b∈S,SpN T b)/\∀b∈T,SpN S b
theorem zbc.refl (S:List Nat):zbc S S:=⟨fun _ h=>.one h,fun _ h=>.one h⟩
theorem zbc.symm {S T:List Nat}(h:zbc S T):zbc T S:=⟨h.2,h.1⟩
theorem zbc.trans {S T U:List Nat}(h:zbc S T)(k:zbc T U):zbc S U:=⟨fun b hb=>(h.1 b hb).go k.1,fun b hb=>(k.2 b hb).go h.2⟩
theorem zbc.mem {S T:List Nat}(h:∀x,x∈S↔x∈T):zbc S T:=⟨fun b hb=>.one ((h b).mp hb),fun b hb=>.one ((h b).mpr hb)⟩
theorem zbc.app {S T U V:List Nat}(h:zbc S T)(k:zbc U V):zbc (S++U) (T++V):=by
 have l:∀{A B:List Nat}{v},SpN A v->SpN (A++B) v:=fun h=>h.go fun b hb=>.one (Bk _ hb);have r:∀{A B:List Nat}{v},SpN B v->SpN (A++B) v:=fun h=>h.go fun b hb=>.one (Bc _ hb);exact⟨fun b hb=>(Bd.mp hb).elim (fun h1=>l (h.1 b h1)) fun h1=>r (k.1 b h1),fun b hb=>(Bd.mp hb).elim (fun h1=>l (h.2 b h1)) fun h1=>r (k.2 b h1)⟩
theorem zz6 (w:Nat):∀{B C:List Nat},(∀b∈B,b∈C)->SpN C (sel B w)
  | [],_,_=>.zero
  | b::B,C,h=>by
    have ih:=zz6 w (B:=B) (C:=C) fun x hx=>h x (Ar _ hx);show SpN C ((if w.testBit (tp b) then b else 0) ^^^ sel B w);split
    · exact (SpN.one (h b Aq)).xor ih
    · rwa [Fh]
theorem zzi {B:List Nat}(h:RB B){v:Nat}(hv:SpN B v):sel B v=v:=by
 induction hv with
 | zero=>exact zpg B
 | add _ hb ih=>rw[zuz,ih,zo8 h _ hb]
theorem zs3 {a b:Nat}(h:a ^^^ b=0):a=b:=by
 have:(a ^^^ b) ^^^ b=0 ^^^ b:=by rw[h]
 rwa [Bp,Ef,Ce,Fh] at this
theorem zpe {B C:List Nat}(hB:RB B)(hC:RB C)(s:zbc B C):∀b∈B,b∈C:=fun b hb=>by
 have top:∀{B C:List Nat},RB B->RB C->zbc B C->∀b∈B,∃c∈C,tp c=tp b:=fun {B C} hB hC s b hb=>by
  have e:=zzi hC (s.1 b hb);have t1:=zbo (hB.1 b hb);rw[<-e] at t1;obtain⟨c,hc,c1,c2⟩:=zo1 (w:=b) (t:=tp (sel C b)) (B:=C) (by rw[e] at t1 ⊢;exact t1);rw[e] at c2;have:=zh3 c1;have:=zh3 c2;exact⟨c,hc,by omega⟩
 obtain⟨c,hc,ec⟩:=top hB hC s b hb;have hv:SpN B (b ^^^ c):=(SpN.one hb).xor (s.2 c hc);have z:sel B (b ^^^ c)=0:=zmj fun b' hb'=>by
  rw[Bh];by_cases e:b'=b
  ·rw[e,zbo (hB.1 b hb),<-ec,zbo (hC.1 c hc)];rfl
  ·obtain ⟨c', hc', ec'⟩ := top hB hC s b' hb';have n1:=hB.two hb hb' (Ne.symm e);have n2:c≠c':=fun q=>by
    subst q;have:=zbo (hB.1 b hb);rw[<-ec,ec',n1] at this;exact Ah this
   rw[n1,<-ec',hC.two hc hc' n2];rfl
 rw[zzi hB hv] at z;rw[zs3 z];exact hc
theorem RB.nodup {B:List Nat}(h:RB B):B.Nodup:=by
 rw[Bi];refine h.2.imp_of_mem fun {a b} ha hb q e=>?_;subst e;rw[zbo (h.1 a ha)] at q;exact Ah q.1.symm
theorem zse {B C:List Nat}(hB:RB B)(hC:RB C)(s:zbc B C):B.Perm C:=by
 rw[List.perm_iff_count];intro a;rw[hB.nodup.count,hC.nodup.count];by_cases c:a∈B
 ·rw[if_pos c,if_pos (zpe hB hC s a c)]
 ·rw[if_neg c,if_neg fun z=>c (zpe hC hB s.symm a z)]
noncomputable def boS (B:List Nat) (w:Nat):List Nat:=if w ^^^ sel B w=0 then B else B.map (fun r=>r ^^^ sel [w ^^^ sel B w] r)++[w ^^^ sel B w]
theorem zff (l r:Nat):sel [l] r=if r.testBit (tp l) then l else 0:=by
 show (if r.testBit (tp l) then l else 0) ^^^ 0=_;rw[Ce]
theorem zzj {S:List Nat}{u v:Nat}(h:SpN S (u ^^^ v))(hv:SpN S v):SpN S u:=by
 have:=h.xor hv
 rwa [Bp,Ef,Ce] at this
theorem z0p {B:List Nat}(h:RB B)(w:Nat):RB (boS B w)/\zbc (boS B w) (B++[w]):=by
 unfold boS;have lb:∀b∈B,(w ^^^ sel B w).testBit (tp b)=false:=fun b hb=>by rw[Bh,sel_bit h b hb,Bool.xor_self]
 have ss:SpN B (sel B w):=zz6 w fun _ h=>h;by_cases z:w ^^^ sel B w=0
 ·rw[if_pos z];refine⟨h,fun b hb=>.one (Bk _ hb),fun b hb=>?_⟩;rcases Bd.mp hb with hb | hb
  ·exact .one hb
  ·rw[Aj.mp hb,zs3 z];exact ss
 ·rw[if_neg z];have sw:SpN (B++[w]) (w ^^^ sel B w):=(SpN.one (Bc _ (Aj.mpr rfl))).xor (ss.go fun b hb=>.one (Bk _ hb));generalize hl:w ^^^ sel B w=l at *
  have tl:=zbo z;have ne:∀b∈B,tp b≠tp l:=fun b hb e=>by have:=lb b hb;rw[e,tl] at this;exact Ah this.symm
  have rt:∀b∈B,tp (b ^^^ sel [l] b)=tp b/\b ^^^ sel [l] b≠0:=fun b hb=>by
   have tb:=zbo (h.1 b hb);have b1:(b ^^^ sel [l] b).testBit (tp b)=true:=by
    rw[zff];split
    ·rw[Bh,tb,lb b hb];rfl
    ·rw[Ce];exact tb
   refine⟨zxf b1 fun i hi=>?_,fun e=>by rw[e,Cf] at b1;exact Ah b1⟩;rw[zff];split
   ·rename_i q;have:=zh3 q;have:=ne b hb;rw[Bh,zcp hi,zcp (w:=l) #v[]];rfl
   ·rw[Ce];exact zcp hi
  have cut:∀b,(b ^^^ sel [l] b).testBit (tp l)=false:=fun b=>by
   rw[zff,Bh];cases q:b.testBit (tp l) with
   | true=>rw[if_pos rfl,tl];rfl
   | false=>rw[if_neg Ah,Cf];rfl
  refine⟨⟨fun b hb=>?_,?_⟩,fun b hb=>?_,fun b hb=>?_⟩
  ·rcases Bd.mp hb with hb | hb
   ·obtain⟨a, ha, rfl⟩ := Ay.mp hb;exact (rt a ha).2
   ·rw[Aj.mp hb];exact z
  ·rw[Bz];refine⟨?_,Fe _ _,fun a ha b hb=>?_⟩
   ·rw [By];refine h.2.imp_of_mem fun {a b} ha hb q=>?_;have oth:∀{x y:Nat},y∈B->x.testBit (tp y)=false->(x ^^^ sel [l] x).testBit (tp y)=false:=fun {x y} hy hx=>by
     rw[zff];split
     ·rw[Bh,hx,lb y hy];rfl
     ·rw[Ce];exact hx
    rw[(rt a ha).1,(rt b hb).1];exact⟨oth hb q.1,oth ha q.2⟩
   ·obtain⟨x, hx, rfl⟩ := Ay.mp ha;rw[Aj.mp hb,(rt x hx).1];exact⟨cut x,lb x hx⟩
  ·rcases Bd.mp hb with hb | hb
   ·obtain⟨a, ha, rfl⟩ := Ay.mp hb;have sa:SpN (B++[w]) a:=.one (Bk _ ha);rw[zff];split
    ·exact sa.xor sw
    ·rwa [Ce]
   ·rw[Aj.mp hb];exact sw
  ·have sl : SpN (B.map (fun r => r ^^^ sel [l] r) ++ [l]) l := .one (Bc _ (Aj.mpr rfl));have sb:∀a∈B,SpN (B.map (fun r=>r ^^^ sel [l] r)++[l]) a:=fun a ha=>by
    have s1:SpN (B.map (fun r=>r ^^^ sel [l] r)++[l]) (a ^^^ sel [l] a):=.one (Bk _ (Ay.mpr ⟨a,ha,rfl⟩));rw[zff] at s1;split at s1
    ·exact zzj s1 sl
    ·rwa [Ce] at s1
   rcases Bd.mp hb with hb | hb
   ·exact sb b hb
   ·rw[Aj.mp hb];refine zzj (v:=sel B w) (by rw[hl];exact sl) (ss.go sb)
noncomputable def bo (ws:List Nat):List Nat:=ws.foldl boS []
theorem z2g (ws:List Nat):RB (bo ws)/\zbc (bo ws) ws:=by
  have go:∀(ws B S:List Nat),RB B->zbc B S->RB (ws.foldl boS B)/\zbc (ws.foldl boS B) (S++ws):=by
    intro ws
    induction ws with
    | nil=>intro B S h s;rw[Br];exact⟨h,s⟩
    | cons w ws ih =>
      intro B S h s;obtain⟨a,b⟩:=z0p h w;have:=ih (boS B w) (S++[w]) a (b.trans (s.app (.refl [w])))
      rwa [Az] at this
  exact go ws [] [] ⟨fun b hb=>(nomatch hb),List.Pairwise.nil⟩ (.refl [])
noncomputable def bitN (w i:Nat):Int:=if w.testBit i then 1 else 0
theorem ziv (w i:Nat):Bit (bitN w i):=by unfold bitN;split<;>first | exact .inr rfl | exact .inl rfl
theorem z3j (w i:Nat):decide (bitN w i=1)=w.testBit i:=by unfold bitN;cases w.testBit i<;>rfl
theorem zpw (n:Nat)(f:Nat->Int):tab (n+1) f=f 0::tab n fun i=>f (i+1):=by
 unfold tab;rw[List.range_succ_eq_map,Ak,Ca]
 rfl
theorem zb1:∀(n w:Nat),w < 2 ^ n->zac (tab n (bitN w))=(w:Int)
  | 0,w,h=>by
    have:w=0:=by have:2 ^ 0=1:=rfl;omega
    subst this;rfl
  | n+1,w,h=>by
    have p2:2 ^ (n+1)=2 * 2 ^ n:=by rw[Nat.pow_succ];omega
    rw[zpw,zbl,zcz (f:=fun i=>bitN w (i+1)) (g:=bitN (w / 2)) fun i _=>by unfold bitN;rw[Dz],zb1 n (w / 2) #v[]];unfold bitN;rw[Nat.testBit_zero];by_cases c:w % 2=1
    · rw[if_pos (Ag c)];omega
    · rw[if_neg (by rw[Av c];exact Ah)];omega
theorem zpq:∀xs:List Int,Bits xs->∃w,w < 2 ^ xs.length/\xs=tab xs.length (bitN w)
  | [],_=>⟨0,by decide,rfl⟩
  | x::xs,h=>by
    obtain⟨w,hw,e⟩:=zpq xs h.tail;have p2:2 ^ (x::xs).length=2 * 2 ^ xs.length:=by rw[Bb,Nat.pow_succ];omega
    have go:∀b:Nat,b < 2->tab (xs.length+1) (bitN (2 * w+b))=bitN (2 * w+b) 0::xs:=fun b hb=>by
      rw[zpw,zcz (f:=fun i=>bitN (2 * w+b) (i+1)) (g:=bitN w) fun i _=>by unfold bitN;rw[Dz,show (2 * w+b) / 2=w by omega],<-e]
    rcases h.head with rfl | rfl
    · refine ⟨2 * w + 0, by omega, ?_⟩
      rw[Bb,go 0 #v[]];unfold bitN;rw[Nat.testBit_zero,if_neg (by rw[Av #v[]];exact Ah)]
    · refine ⟨2 * w + 1, by omega, ?_⟩
      rw[Bb,go 1 #v[]];unfold bitN;rw[Nat.testBit_zero,if_pos (Ag #v[])]
theorem zwg (a b i:Nat):dif (bitN a i) (bitN b i)=bitN (a ^^^ b) i:=by
 unfold bitN dif;rw[Bh];cases a.testBit i<;>cases b.testBit i<;>rfl
theorem zch (a b:Nat):Builtin.bitXor (a:Int) (b:Int)=((a ^^^ b:Nat):Int):=by
 have ha:a < 2 ^ (a+b):=Nat.lt_of_le_of_lt (Nat.le_add_right a b) Nat.lt_two_pow_self;have hb:b < 2 ^ (a+b):=Nat.lt_of_le_of_lt (Nat.le_add_left b a) Nat.lt_two_pow_self;have x:=zkq (xs:=tab (a+b) (bitN a)) (ys:=tab (a+b) (bitN b)) (zb8 fun i _=>ziv a i) (zb8 fun i _=>ziv b i) (by rw[zb0,zb0]);rw[zb1 _ a ha,zb1 _ b hb,zu2,zcz fun i _=>zwg a b i,zb1 _ _ (Cc ha hb)] at x;exact x
theorem z1q {w n i:Nat}(h:w < 2 ^ n)(hi:n<=i):bitN w i=0:=by
 unfold bitN;rw[Nat.testBit_lt_two_pow (Be h (Dt #v[0,9] hi)),if_neg Ah]
noncomputable def z6b (Φ:Fn):Prop:=∀w p:Nat,Φ [.int (w:Nat),.int (p:Nat)]=some ([.int (w:Nat),.int (p:Nat)],(.int (bitN w p),false))
theorem z6q {Φ:Fn}(h:zs1 Φ):z6b Φ:=fun w p=>by
 have hw:w < 2 ^ w:=Nat.lt_two_pow_self;have:=h w p (bitN w) (ziv w) fun i hi=>z1q hw hi
 rwa [zb1 w w hw] at this
noncomputable def XorN (Φ:Fn):Prop:=∀a b:Nat,Φ [.int (a:Nat),.int (b:Nat)]=some ([.int (a:Nat),.int (b:Nat)],(.int ((a ^^^ b:Nat):Int),false))
theorem z8k {Φ:Fn}(h:z7s Φ):XorN Φ:=fun a b=>by rw[<-zch];exact h a b
noncomputable def zzt (Ψ:Str->Fn):GS:=(gRet (gOp2 #v[0,0,0] (gArg (gOp1 zbe (zaa 0))) #v[1]))
noncomputable def TopN (Φ:Fn):Prop:=∀w:Nat,w≠0->Φ [.int (w:Nat)]=some ([.int (w:Nat)],(.int (tp w:Nat),false))
theorem z9t (Ψ:Str->Fn):TopN (zaj [false] 1 (zzt Ψ)):=fun w hw=>by
 have e:(Builtin.Int.intBits (w:Int):Int) - 1=(tp w:Nat):=by
  unfold Builtin.Int.intBits tp;rw[if_neg (by simp;exact hw),Int.natAbs_natCast];omega
 have ob:zbe (.int (w:Nat))=#v[(Builtin.Int.intBits (w:Int)),0]:=rfl;unfold zzt;simp! [ob,e]
noncomputable def zry (Ψ:Str->Fn):GS:=(gIfS (zan (gOp2 oEq (gArg (zae [false,false] (Ψ "says") (gCns #v[1,4] (gCns (gArg (zae [false] (Ψ "top") (gCns #v[3,4] gA0))) gA0)))) #v[1])) (gSet [] 2 (zae [false,false] (Ψ "plus") (gCns #v[2,4] (gCns #v[3,4] gA0)))) zb3)
noncomputable def zr7 (Ψ:Str->Fn):GS:=gFor [] (.nm 3) (zas (gVar 0)) (zry Ψ)
noncomputable def z8a (Ψ:Str->Fn):GS:=(gSeq (gSet [] 2 (gVar 1)) (gSeq (zr7 Ψ) (zdi [] 2)))
noncomputable def WtN (Φ:Fn):Prop:=∀(B:List Nat) (w:Nat) (x:W),(x=.lst (zab B)\/x=.tup (zab B))->(∀b∈B,b≠0)->Φ [x,.int (w:Nat)]=some ([x,.int (w:Nat)],(.int ((w ^^^ sel B w:Nat):Int),false))
theorem zpv (b w:Nat):∀B:List Nat,sel (B++[b]) w=sel B w ^^^ (if w.testBit (tp b) then b else 0)
  | []=>by
    show (if w.testBit (tp b) then b else 0) ^^^ 0=0 ^^^ (if w.testBit (tp b) then b else 0);rw[Ce,Fh]
  | a::B=>by
    show (if w.testBit (tp a) then a else 0) ^^^ sel (B++[b]) w=((if w.testBit (tp a) then a else 0) ^^^ sel B w) ^^^ _;rw[zpv b w B,Bp]
theorem wt_n {Ψ:Str->Fn} (hS:z6b (Ψ "says")) (hX:XorN (Ψ "plus")) (hT:TopN (Ψ "top")):WtN (zaj [false,false] 4 (z8a Ψ)):=fun B w x hx h0=>by
  have sx:seqW x=some (zab B):=by rcases hx with rfl | rfl<;>rfl
  have si:zas (gVar 0) [#v[x,6],#v[(w:Nat),0],#v[(w:Nat),0],none]=some ([#v[x,6],#v[(w:Nat),0],#v[(w:Nat),0],none],zab B):=by rcases hx with rfl | rfl<;>rfl
  have lp:∃w3,zr7 Ψ [some (x,false),some (.int (w:Nat),false),some (.int (w:Nat),false),none]=some ([some (x,false),some (.int (w:Nat),false),some (.int ((w ^^^ sel B w:Nat):Int),false),w3],.nx):=by
    unfold zr7;obtain ⟨en',h,w3,rfl⟩:=zbi (mp:=[]) (T:=.nm 3) (body:=zry Ψ) (fun i e=>∃w3,e=[some (x,false),some (.int (w:Nat),false),some (.int ((w ^^^ sel (B.take i) w:Nat):Int),false),w3]) si ⟨none,by rw [Ea];show _=[_,_,some (W.int ((w ^^^ 0:Nat):Int),false),_];rw [Ce]⟩ fun i u e hw hp=>by
      obtain ⟨w3,rfl⟩:=hp;obtain ⟨b,hb,rfl⟩:=castL_get hw;have bm:=Bn hb;have t1:=hT b (h0 b bm);have s1:=hS w (tp b);have x1:=hX (w ^^^ sel (B.take i) w) b;have e1:sel (B.take (i+1)) w=sel (B.take i) w ^^^ (if w.testBit (tp b) then b else 0):=by
        rw[De,hb];exact zpv b w _
      have be:=z3j w (tp b);refine⟨[#v[x,6],#v[(w:Nat),0],#v[((w ^^^ sel (B.take i) w:Nat):Int),0],#v[(b:Nat),0]],[#v[x,6],#v[(w:Nat),0],#v[((w ^^^ sel (B.take (i+1)) w:Nat):Int),0],#v[(b:Nat),0]],rfl,.inl ?_,_,rfl⟩;unfold zry;rw[e1];cases q:w.testBit (tp b) with
      | true =>
        rw[q] at be;rw[if_pos rfl,<-Bp];simp! [t1,s1,be,x1]
      | false =>
        rw[q] at be;rw[if_neg Ah,Ce];simp! [t1,s1,be]
    rw[zad,Cg] at h;exact⟨_,h⟩
  obtain⟨w3,lp⟩:=lp;unfold z8a;refine za2 (en:=[#v[x,6],#v[(w:Nat),0],#v[((w ^^^ sel B w:Nat):Int),0],w3]) rfl (zah ?_ (zah lp ?_)) rfl
  · show gSet [] 2 (gVar 1) [some (x, false), some (.int (w : Nat), false), none, none] = some ([some (x, false), some (.int (w : Nat), false), some (.int (w : Nat), false), none], .nx)
    simp! []
  · simp! []
noncomputable def zvf (Ψ:Str->Fn):GE:=zck [none,none,some 3] (.nm 1) (zas (gVar 1)) gYes (zae [false,false] (Ψ "without_tops") (gCns (gArg (zap (gCns #v[2,4] gA0))) (gCns #v[1,4] gA0)))
noncomputable def zon (Ψ:Str->Fn):GS:=(gSeq (gSet [] 3 (zae [false,false] (Ψ "without_tops") (gCns #v[1,4] (gCns #v[2,4] gA0)))) (gIfS (zan (gOp2 oNe (zaa 3) #v[0])) (gSet [] 1 (gOp2 oAdd (gArg (zvf Ψ)) (gArg (zap (gCns #v[3,4] gA0))))) zb3))
noncomputable def ztf (Ψ:Str->Fn):GS:=gFor [] (.nm 2) (zas (gVar 0)) (zon Ψ)
noncomputable def z75 (Ψ:Str->Fn):GS:=(gSeq (gSet [] 1 (zap gA0)) (gSeq (ztf Ψ) (gRet (gOpN zdt (gCns (gArg (gOpN zcc (gCns (zaa 1) gA0))) gA0)))))
theorem ze9 (B:List Nat)(b:Nat):zab (B++[b])=zab B++[.int (b:Nat)]:=by unfold zab;rw[Bq];rfl
theorem z8z {Ψ:Str->Fn}(hW:WtN (Ψ "without_tops")){B:List Nat}{l:Nat}{v0 v2:Option (W × Bool)}{o:Bool}(hl:l≠0)(hB:B.length<=1000):zvf Ψ [v0,some (.lst (zab B),o),v2,#v[(l:Nat),0]]=some ([v0,#v[(zab B),1],v2,#v[(l:Nat),0]],(.lst (zab (B.map fun r=>r ^^^ sel [l] r)),true)):=by
 unfold zvf;refine zek (xs:=[#v[(l:Nat),0]]) (e0:=[v0,#v[(zab B),1],v2,#v[(l:Nat),0]]) (ws:=zab B) (by cases o<;>simp! []) (by rw[zad];exact hB) (by rw[zad,zad,Ad]) rfl rfl rfl (fun _ _=>rfl) fun i u w r hw hr=>?_;obtain⟨b,hb,rfl⟩:=castL_get hw;obtain⟨c,hc,rfl⟩:=castL_get hr;rw[Au,hb] at hc;obtain rfl:=sI hc;have e:=hW [l] b (.lst (zab [l])) (.inl rfl) fun x hx=>by rw[Aj.mp hx];exact hl
 have e:Ψ "without_tops" [.lst [.int (l:Nat)],.int (b:Nat)]=some ([.lst [.int (l:Nat)],.int (b:Nat)],(.int ((b ^^^ sel [l] b:Nat):Int),false)):=e;refine⟨#v[(b:Nat),0],false,?_⟩;simp! [e]
theorem z0c:∀(ws B:List Nat),(ws.foldl boS B).length<=B.length+ws.length
  | [],B=>Ae _
  | w::ws,B=>by
    have:=z0c ws (boS B w);have h:(boS B w).length<=B.length+1:=by
      unfold boS;split
      · omega
      · rw[Ba,Ad];exact Ae _
    rw[List.foldl_cons,Bb];omega
noncomputable def z4n (Φ:Fn):Prop:=∀(ws:List Nat) (x:W),(x=.lst (zab ws)\/x=.tup (zab ws))->ws.length<=200->Φ [x]=some ([x],(.tup ((zbg ((bo ws).map fun b:Nat=>(b:Int))).map W.int),false))
theorem z6e {Ψ:Str->Fn}(hW:WtN (Ψ "without_tops")):z4n (zaj [false] 4 (z75 Ψ)):=fun ws x hx hl=>by
 have si:zas (gVar 0) [#v[x,6],#v[[],2],none,none]=some ([#v[x,6],#v[[],2],none,none],zab ws):=by rcases hx with rfl | rfl<;>rfl
 have lp:∃o w2 w3,ztf Ψ [#v[x,6],#v[[],2],none,none]=some ([#v[x,6],some (.lst (zab (bo ws)),o),w2,w3],.nx):=by
  unfold ztf;obtain⟨en',h,o,w2,w3,rfl⟩:=zbi (mp:=[]) (T:=.nm 2) (body:=zon Ψ) (fun i e=>∃o w2 w3,e=[#v[x,6],some (.lst (zab (bo (ws.take i))),o),w2,w3]) si ⟨true,none,none,rfl⟩ fun i u e hw hp=>by
   obtain⟨o,w2,w3,rfl⟩:=hp;obtain⟨b,hb,rfl⟩:=castL_get hw;have e1:bo (ws.take (i+1))=boS (bo (ws.take i)) b:=by
    unfold bo;rw[De,hb];show (ws.take i++[b]).foldl boS []=_;rw[Dg];rfl
   have bl:(bo (ws.take i)).length<=200:=by
    have:=z0c (ws.take i) [];have h2:(ws.take i).length<=ws.length:=by rw[Eb];omega
    have h3:([]:List Nat).length=0:=rfl;unfold bo;omega
   obtain⟨rb,_⟩:=z2g (ws.take i);generalize bo (ws.take i)=B at *
   have a1:=hW B b (.lst (zab B)) (.inl rfl) rb.1;rw[e1];unfold boS;generalize b ^^^ sel B b=l at *
   by_cases z:l=0
   ·rw[if_pos z];have dz:(!decide ((l:Int)=0))=false:=by rw[Ag #v[]];rfl
    refine⟨[#v[x,6],some (.lst (zab B),o),#v[(b:Nat),0],w3],[#v[x,6],#v[(zab B),1],#v[(b:Nat),0],#v[(l:Nat),0]],rfl,.inl ?_,false,#v[(b:Nat),0],#v[(l:Nat),0],rfl⟩;unfold zon;refine zah (e1:=[#v[x,6],#v[(zab B),1],#v[(b:Nat),0],#v[(l:Nat),0]]) ?_ ?_
    ·simp! [a1]
    ·simp! [dz]
   ·rw[if_neg z];have dz:(!decide ((l:Int)=0))=true:=by rw[Av #v[]];rfl
    have c1:=z8z (Ψ:=Ψ) hW (B:=B) (l:=l) (v0:=#v[x,6]) (v2:=#v[(b:Nat),0]) (o:=false) z #v[];have ad:oAdd (.lst (zab (B.map fun r=>r ^^^ sel [l] r))) (.lst [.int (l:Nat)])=#v[(zab (B.map (fun r=>r ^^^ sel [l] r)++[l])),2]:=by
     rw[zne (by rw[zad,Ad,Fs];show _+1<=_;omega),ze9]
    refine⟨[#v[x,6],some (.lst (zab B),o),#v[(b:Nat),0],w3],[#v[x,6],#v[(zab (B.map (fun r=>r ^^^ sel [l] r)++[l])),2],#v[(b:Nat),0],#v[(l:Nat),0]],rfl,.inl ?_,true,#v[(b:Nat),0],#v[(l:Nat),0],rfl⟩;unfold zon;refine zah (e1:=[#v[x,6],#v[(zab B),1],#v[(b:Nat),0],#v[(l:Nat),0]]) ?_ ?_
    ·simp! [a1]
    ·simp! [dz,c1,ad]
  rw[zad,Cg] at h;exact⟨_,_,_,h⟩
 obtain⟨o,w2,w3,lp⟩:=lp;have so:zcc [.lst (zab (bo ws))]=#v[((zbg ((bo ws).map fun b:Nat=>(b:Int))).map W.int),2]:=by
  rw[zay];show (zbp (((bo ws).map fun b:Nat=>(b:Int)).map W.int)).bind _=_;rw[za1];rfl
 have ot:zdt [.lst ((zbg ((bo ws).map fun b:Nat=>(b:Int))).map W.int)]=#v[((zbg ((bo ws).map fun b:Nat=>(b:Int))).map W.int),3]:=rfl;unfold z75;refine za2 (en:=[#v[x,6],some (.lst (zab (bo ws)),o),w2,w3]) rfl (zah (e1:=[#v[x,6],#v[[],2],none,none]) ?_ (zah lp ?_)) rfl
 ·simp! []
 ·cases o<;>simp! [so,ot]
theorem base_sorted {ws D:List Nat}(hD:RB D)(ha:D.Pairwise (· < ·))(s:zbc D ws):zbg ((bo ws).map fun b:Nat=>(b:Int))=D.map fun b:Nat=>(b:Int):=by
 obtain⟨r,q⟩:=z2g ws;exact zeq ((zse hD r (s.trans q.symm)).map _) (by rw[By];exact ha.imp fun h=>by omega)
end L2
namespace My
open PySem PySem.Spec PyProof.Rows L2
noncomputable def top (i:Nat):Stmt:=PySem.Challenge.pw_yesnowords_k34_flats_of_words.main.body.getD i (.Pass ⟨0,0,0,0⟩)
noncomputable def zpu:Fd:=⟨"says",["word","place"],["word","place"],[false,false],top 1⟩
noncomputable def zil:Fd:=⟨"where",["word"],["word"],[false],top 2⟩
noncomputable def zes:Fd:=⟨"word_at",["some"],["some","word","place"],[false],top 3⟩
noncomputable def zo2:Fd:=⟨"plus",["one","other"],["one","other"],[false,false],top 4⟩
noncomputable def zw1:Fd:=⟨"top",["word"],["word"],[false],top 6⟩
noncomputable def zbk:Fd:=⟨"without_tops",["rows","word"],["rows","word","left","row"],[false,false],top 7⟩
noncomputable def zej:Fd:=⟨"base_of",["some"],["some","rows","word","left"],[false],top 8⟩
noncomputable def zbw:Fd:=⟨"flat_places",["flat"],["flat","place","directions","told","direction"],[false],top 10⟩
noncomputable def zc3:Fd:=⟨"flat_word",["flat"],["flat"],[false],top 11⟩
noncomputable def zez:Fd:=⟨"flat_of",["many","word"],["many","word","places","directions","flat"],[false,false],top 12⟩
noncomputable def zcx:Fd:=⟨"_law_hand",["_law_script"],["_law_script","_law_state","_law_weighs","_law_cell","_law_k","_law_one"],[false],top 14⟩
noncomputable def zc5:Fd:=⟨"_law_take",["_law_state","_law_count"],["_law_state","_law_count","_law_digit","_law_mixed"],[true,false],top 15⟩
noncomputable def zdg:Fd:=⟨"_law_many",["_law_state"],["_law_state"],[true],top 16⟩
noncomputable def zc6:Fd:=⟨"_law_bits",["_law_state","_law_count"],["_law_state","_law_count","_law_way","_law_found","_law_k","_law_one"],[true,false],top 17⟩
noncomputable def zcv:Fd:=⟨"_law_word",["_law_bits_here"],["_law_bits_here","_law_found","_law_bit"],[false],top 18⟩
noncomputable def zc0:Fd:=⟨"_law_sums",["_law_some"],["_law_some","_law_found","_law_one"],[false],top 19⟩
noncomputable def zde:Fd:=⟨"_law_base",["_law_sums_here"],["_law_sums_here","_law_found","_law_one"],[false],top 20⟩
noncomputable def zcu:Fd:=⟨"_law_flat",["_law_state","_law_many_here","_law_count"],["_law_state","_law_many_here","_law_count","_law_sums_here","_law_first"],[true,false,false],top 21⟩
noncomputable def zbv:Fd:=⟨"_law_places",["_law_flat_here"],["_law_flat_here"],[false],top 22⟩
noncomputable def ze4:Fd:=⟨"_law_at",["_law_some"],["_law_some","_law_found","_law_place"],[false],top 23⟩
noncomputable def zd0:Fd:=⟨"_law_due",["_law_many_here","_law_word_here"],["_law_many_here","_law_word_here","_law_some","_law_moves","_law_one"],[false,false],top 24⟩
noncomputable def zax:Fd:=⟨"_law_some_words",["_law_state","_law_many_here"],["_law_state","_law_many_here","_law_count","_law_flat_here","_law_other","_law_word_here","_law_one","_law_two","_law_move","_law_moved","_law_found"],[true,false],top 25⟩
noncomputable def znb:Fd:=⟨"law",["_law_script"],["_law_script","_law_state","_law_turn","_law_many_here","_law_word_here"],[false],top 26⟩
noncomputable def T:List Fd:=[zpu,zil,zes,zo2,zw1,zbk,zej,zbw,zc3,zez,zcx,zc5,zdg,zc6,zcv,zc0,zde,zcu,zbv,ze4,zd0,zax,znb]
noncomputable def bn:List Str:=["abs","all","d _law_found","d _law_moves","dict","enumerate","int","len","list","min","range","repr","reversed","sorted","tuple"]
noncomputable def zzs (Ψ:Str->Fn):GS:=(gRet (gOp2 (oI yes2 fun i j=>.int (Builtin.bitAnd i j)) (gArg (gOp2 (oI (fun _ j=>decide (0<=j)) fun i j=>.int (i / 2 ^ j.toNat)) (zaa 0) (zaa 1))) #v[1]))
theorem z39 (Ψ:Str->Fn)(d:Nat):zaq T bn Ψ (d+2) zpu=some (zzs Ψ):=by kernel_rfl
theorem z4m:T.find? (·.nm == ("says" : Str))=some zpu:=by kernel_rfl
theorem zy6 (d:Nat):sem T bn (d+3) "says" = zaj [false,false] 2 (zzs (sem T bn (d+2))):=zbz z4m (z39 _ d)
noncomputable def zya (Ψ:Str->Fn):GE:=zck [none,none,some 0] (.nm 1) (zeg (gCns (gArg (gOp1 zbe (zaa 0))) gA0)) (zan (gOp2 oEq (gArg (zae [false,false] (Ψ "says") (gCns #v[2,4] (gCns #v[1,4] gA0)))) #v[1])) (gVar 1)
noncomputable def zrx (Ψ:Str->Fn):GS:=(gRet (gOpN zdt (gCns (gArg (zya Ψ)) gA0)))
theorem z1e (Ψ:Str->Fn)(d:Nat):zaq T bn Ψ (d+2) zil=some (zrx Ψ):=by kernel_rfl
theorem z2c:T.find? (·.nm == ("where" : Str))=some zil:=by kernel_rfl
theorem z03 (d:Nat):sem T bn (d+3) "where" = zaj [false] 1 (zrx (sem T bn (d+2))):=zbz z2c (z1e _ d)
noncomputable def zqb (Ψ:Str->Fn):GS:=(gAug [] (oI yes2 fun i j=>.int (Builtin.bitOr i j)) 1 (gArg (gOp2 #v[0,0,1] #v[1] (zaa 2))))
noncomputable def zp9 (Ψ:Str->Fn):GS:=gFor [] (.nm 2) (zas (gVar 0)) (zqb Ψ)
noncomputable def zkw (Ψ:Str->Fn):GS:=(gSeq (gSet [] 1 (gC (.int 0))) (gSeq (zp9 Ψ) (zdi [] 1)))
theorem zwb (Ψ:Str->Fn)(d:Nat):zaq T bn Ψ (d+2) zes=some (zkw Ψ):=by kernel_rfl
theorem zuc:T.find? (·.nm == ("word_at" : Str))=some zes:=by kernel_rfl
theorem zvi (d:Nat):sem T bn (d+3) "word_at" = zaj [false] 3 (zkw (sem T bn (d+2))):=zbz zuc (zwb _ d)
noncomputable def zzz (Ψ:Str->Fn):GS:=(gRet (gOp2 (oI yes2 fun i j=>.int (Builtin.bitXor i j)) (zaa 0) (zaa 1)))
theorem z4f (Ψ:Str->Fn)(d:Nat):zaq T bn Ψ (d+2) zo2=some (zzz Ψ):=by kernel_rfl
theorem z66:T.find? (·.nm == ("plus" : Str))=some zo2:=by kernel_rfl
theorem z6f (d:Nat):sem T bn (d+3) "plus" = zaj [false,false] 2 (zzz (sem T bn (d+2))):=zbz z66 (z4f _ d)
noncomputable def z6t (Ψ:Str->Fn):GS:=(gRet (gOp2 #v[0,0,0] (gArg (gOp1 zbe (zaa 0))) #v[1]))
theorem z8y (Ψ:Str->Fn)(d:Nat):zaq T bn Ψ (d+2) zw1=some (z6t Ψ):=by kernel_rfl
theorem z90:T.find? (·.nm == ("top" : Str))=some zw1:=by kernel_rfl
theorem z95 (d:Nat):sem T bn (d+3) "top" = zaj [false] 1 (z6t (sem T bn (d+2))):=zbz z90 (z8y _ d)
noncomputable def zhd (Ψ:Str->Fn):GS:=(gIfS (zan (gOp2 oEq (gArg (zae [false,false] (Ψ "says") (gCns #v[1,4] (gCns (gArg (zae [false] (Ψ "top") (gCns #v[3,4] gA0))) gA0)))) #v[1])) (gSet [] 2 (zae [false,false] (Ψ "plus") (gCns #v[2,4] (gCns #v[3,4] gA0)))) zb3)
noncomputable def zgx (Ψ:Str->Fn):GS:=gFor [] (.nm 3) (zas (gVar 0)) (zhd Ψ)
noncomputable def zd8 (Ψ:Str->Fn):GS:=(gSeq (gSet [] 2 (gVar 1)) (gSeq (zgx Ψ) (zdi [] 2)))
theorem zhp (Ψ:Str->Fn)(d:Nat):zaq T bn Ψ (d+2) zbk=some (zd8 Ψ):=by kernel_rfl
theorem zhl:T.find? (·.nm == ("without_tops" : Str))=some zbk:=by kernel_rfl
theorem zhu (d:Nat):sem T bn (d+3) "without_tops" = zaj [false,false] 4 (zd8 (sem T bn (d+2))):=zbz zhl (zhp _ d)
noncomputable def zq0 (Ψ:Str->Fn):GE:=zck [none,none,some 3] (.nm 1) (zas (gVar 1)) gYes (zae [false,false] (Ψ "without_tops") (gCns (gArg (zap (gCns #v[2,4] gA0))) (gCns #v[1,4] gA0)))
noncomputable def zqx (Ψ:Str->Fn):GS:=(gSeq (gSet [] 3 (zae [false,false] (Ψ "without_tops") (gCns #v[1,4] (gCns #v[2,4] gA0)))) (gIfS (zan (gOp2 oNe (zaa 3) #v[0])) (gSet [] 1 (gOp2 oAdd (gArg (zq0 Ψ)) (gArg (zap (gCns #v[3,4] gA0))))) zb3))
noncomputable def zrc (Ψ:Str->Fn):GS:=gFor [] (.nm 2) (zas (gVar 0)) (zqx Ψ)
noncomputable def zly (Ψ:Str->Fn):GS:=(gSeq (gSet [] 1 (zap gA0)) (gSeq (zrc Ψ) (gRet (gOpN zdt (gCns (gArg (gOpN zcc (gCns (zaa 1) gA0))) gA0)))))
theorem zsl (Ψ:Str->Fn)(d:Nat):zaq T bn Ψ (d+2) zej=some (zly Ψ):=by kernel_rfl
theorem zuj:T.find? (·.nm == ("base_of" : Str))=some zej:=by kernel_rfl
theorem zsy (d:Nat):sem T bn (d+3) "base_of" = zaj [false] 4 (zly (sem T bn (d+2))):=zbz zuj (zsl _ d)
noncomputable def zcf (Ψ:Str->Fn):GE:=zck [none,none,some 4] (.nm 1) (zas (gVar 3)) gYes (zae [false,false] (Ψ "plus") (gCns #v[1,4] (gCns #v[2,4] gA0)))
noncomputable def zcd (Ψ:Str->Fn):GS:=(gSet [] 3 (gOp2 oAdd (zaa 3) (gArg (zcf Ψ))))
noncomputable def zcb (Ψ:Str->Fn):GS:=gFor [] (.nm 4) (zas (gVar 2)) (zcd Ψ)
noncomputable def zbu (Ψ:Str->Fn):GS:=(gSeq (gAsg [] (.tp [1,2]) (gVar 0)) (gSeq (gSet [] 3 (zap (gCns #v[1,4] gA0))) (gSeq (zcb Ψ) (gRet (gOpN zdt (gCns (gArg (gOpN zcc (gCns (zaa 3) gA0))) gA0))))))
theorem zi2 (Ψ:Str->Fn)(d:Nat):zaq T bn Ψ (d+2) zbw=some (zbu Ψ):=by kernel_rfl
theorem zi5:T.find? (·.nm == ("flat_places" : Str))=some zbw:=by kernel_rfl
theorem ziq (d:Nat):sem T bn (d+3) "flat_places" = zaj [false] 5 (zbu (sem T bn (d+2))):=zbz zi5 (zi2 _ d)
noncomputable def zcy (Ψ:Str->Fn):GS:=(gRet (zae [false] (Ψ "word_at") (gCns (gArg (zae [false] (Ψ "flat_places") (gCns #v[0,4] gA0))) gA0)))
theorem znv (Ψ:Str->Fn)(d:Nat):zaq T bn Ψ (d+2) zc3=some (zcy Ψ):=by kernel_rfl
theorem zmi:T.find? (·.nm == ("flat_word" : Str))=some zc3:=by kernel_rfl
theorem zmk (d:Nat):sem T bn (d+3) "flat_word" = zaj [false] 1 (zcy (sem T bn (d+2))):=zbz zmi (znv _ d)
noncomputable def zfm (Ψ:Str->Fn):GE:=zck [none,none,some 2] (.nm 1) (zas (gVar 2)) gYes (zae [false,false] (Ψ "plus") (gCns (gArg (gOp2 oIx (zaa 2) #v[0])) (gCns #v[1,4] gA0)))
noncomputable def zcr (Ψ:Str->Fn):GS:=(gSeq (gIfS (zan (gOp2 oEq (zaa 1) #v[0])) (gRet (gC .non)) zb3) (gSeq (gSet [] 2 (zae [false] (Ψ "where") (gCns #v[1,4] gA0))) (gSeq (gSet [] 3 (zae [false] (Ψ "base_of") (gCns (gArg (zfm Ψ)) gA0))) (gSeq (gSet [] 4 (zjz (gCns (gArg (gOp2 oIx (zaa 2) #v[0])) (gCns #v[3,4] gA0)))) (gRet (gIf (zan (gOp2 oEq (gArg (zae [false] (Ψ "flat_word") (gCns #v[4,4] gA0))) (zaa 1))) (gVar 4) (gC .non)))))))
theorem zuy (Ψ:Str->Fn)(d:Nat):zaq T bn Ψ (d+2) zez=some (zcr Ψ):=by kernel_rfl
theorem zvb:T.find? (·.nm == ("flat_of" : Str))=some zez:=by kernel_rfl
theorem zv6 (d:Nat):sem T bn (d+3) "flat_of" = zaj [false,false] 5 (zcr (sem T bn (d+2))):=zbz zvb (zuy _ d)
noncomputable def zkn (Ψ:Str->Fn):GS:=(gSeq (za7 1 (gC (.int 0)) (gOp2 oAdd (gArg (gOp2 oIx (zaa 1) #v[0])) (gArg (gOp2 oMult (gArg (gOp2 #v[0,0,2] (gArg (gOpN oAbs (gCns (zaa 3) gA0))) (gArg (gOp2 (oI cPow fun i j=>.int (i ^ j.toNat)) #v[10] #v[60])))) (zaa 2))))) (gSet [] 2 (gOp2 oMult (zaa 2) (gArg (gOp2 (oI cPow fun i j=>.int (i ^ j.toNat)) #v[10] #v[60])))))
noncomputable def zlz (Ψ:Str->Fn):GS:=gFor [] (.nm 3) (zas (gSl (zaa 0) zca (zgv (gC (.int 63))))) (zkn Ψ)
noncomputable def zl2 (Ψ:Str->Fn):GS:=(gSeq (gSet [] 5 (gOp2 oAdd (gArg (gOp2 oAdd (gArg (gOp2 #v[0,0,2] (zaa 3) #v[2305843009213693951])) (gArg (gOp2 oMult #v[7919] (zaa 4))))) #v[3])) (za7 1 (gC (.int 1)) (gOp2 #v[0,0,2] (gArg (gOp2 oAdd (gArg (gOp2 oMult (gArg (gOp2 oIx (zaa 1) #v[1])) #v[48271])) (zaa 5))) #v[2305843009213693951])))
noncomputable def zk2 (Ψ:Str->Fn):GS:=gFor [] (.tp [4,3]) (zqk (gSl (zaa 0) zca (zgv (gC (.int 63))))) (zl2 Ψ)
noncomputable def zgq (Ψ:Str->Fn):GS:=(gSeq (gSet [] 1 (zap (gCns #v[0] (gCns #v[0] (gCns #v[0] gA0))))) (gSeq (gIfS (zg5 (zan (gOp2 (oI yes2 fun i j=>.bl (decide (j < i))) (gArg (gOpN oLen (gCns (zaa 0) gA0))) #v[0])) (zan (gOp2 (oI yes2 fun i j=>.bl (decide (j<=i))) (gArg (gOp2 oIx (zaa 0) #v[0])) (gArg (gOp2 (oI cPow fun i j=>.int (i ^ j.toNat)) #v[10] #v[18]))))) (gSeq (gSet [] 2 (gC (.int 1))) (zlz Ψ)) zb3) (gSeq (zk2 Ψ) (zdi [] 1))))
theorem znu (Ψ:Str->Fn)(d:Nat):zaq T bn Ψ (d+2) zcx=some (zgq Ψ):=by kernel_rfl
theorem zm2:T.find? (·.nm == ("_law_hand" : Str))=some zcx:=by kernel_rfl
theorem znq (d:Nat):sem T bn (d+3) "_law_hand" = zaj [false] 6 (zgq (sem T bn (d+2))):=zbz zm2 (znu _ d)
noncomputable def zhc (Ψ:Str->Fn):GS:=(gSeq (gIfS (zan (gOp2 (oI yes2 fun i j=>.bl (decide (j < i))) (gArg (gOp2 oIx (zaa 0) #v[0])) #v[0])) (gSeq (gSet [0] 2 (gOp2 #v[0,0,2] (gArg (gOp2 oIx (zaa 0) #v[0])) (zaa 1))) (gSeq (za7 0 (gC (.int 0)) (gOp2 #v[0,0,3] (gArg (gOp2 oIx (zaa 0) #v[0])) (zaa 1))) (zdi [0] 2))) zb3) (gSeq (za7 0 (gC (.int 2)) (gOp2 oAdd (gArg (gOp2 oIx (zaa 0) #v[2])) #v[1])) (gSeq (gSet [0] 3 (gOp2 #v[0,0,2] (gArg (gOp2 oMult (gArg (gOp2 oAdd (gArg (gOp2 oAdd (gArg (gOp2 oIx (zaa 0) #v[1])) (gArg (gOp2 oMult (gArg (gOp2 oMult #v[65537] (gArg (gOp2 oIx (zaa 0) #v[2])))) (gArg (gOp2 oIx (zaa 0) #v[2])))))) #v[11])) #v[48271])) #v[2305843009213693921])) (gSeq (gSet [0] 3 (gOp2 #v[0,0,2] (gArg (gOp2 oMult (zaa 3) (gArg (gOp2 oAdd (gArg (gOp2 #v[0,0,2] (zaa 3) #v[1000003])) (gArg (gOp2 oMult #v[99991] (gArg (gOp2 oIx (zaa 0) #v[2])))))))) #v[2305843009213693907])) (gRet (gOp2 #v[0,0,2] (gArg (gOp2 oAdd (gArg (gOp2 #v[0,0,3] (zaa 3) #v[97])) (gArg (gOp2 #v[0,0,3] (zaa 3) #v[1000033])))) (zaa 1)))))))
theorem zmy (Ψ:Str->Fn)(d:Nat):zaq T bn Ψ (d+2) zc5=some (zhc Ψ):=by kernel_rfl
theorem zn9:T.find? (·.nm == ("_law_take" : Str))=some zc5:=by kernel_rfl
theorem zmc (d:Nat):sem T bn (d+3) "_law_take" = zaj [true,false] 4 (zhc (sem T bn (d+2))):=zbz zn9 (zmy _ d)
noncomputable def zb2 (Ψ:Str->Fn):GS:=(gRet (gOp2 oIx (gArg (zap (gCns (gArg (gOp2 oAdd #v[1] (gArg (zae [true,false] (Ψ "_law_take") (gCns (zaa 0) (gCns #v[5] gA0)))))) (gCns #v[6] gA0)))) (gArg (gOpN oInt (gCns (gArg (gOp2 oEq (gArg (zae [true,false] (Ψ "_law_take") (gCns (zaa 0) (gCns #v[8] gA0)))) #v[0])) gA0)))))
theorem zmh (Ψ:Str->Fn)(d:Nat):zaq T bn Ψ (d+2) zdg=some (zb2 Ψ):=by kernel_rfl
theorem zms:T.find? (·.nm == ("_law_many" : Str))=some zdg:=by kernel_rfl
theorem zm8 (d:Nat):sem T bn (d+3) "_law_many" = zaj [true] 1 (zb2 (sem T bn (d+2))):=zbz zms (zmh _ d)
noncomputable def zj4 (Ψ:Str->Fn):GS:=(gSeq (gSet [0] 5 (zae [true,false] (Ψ "_law_take") (gCns (zaa 0) (gCns (gArg (gOp2 oIx (gArg (zap (gCns #v[2] (gCns #v[5] (gCns #v[5] gA0))))) (zaa 2))) gA0)))) (zf1 (gApp 3 (gOp2 oIx (gArg (zap (gCns #v[5,4] (gCns (gArg (gOpN oInt (gCns (gArg (gOp2 oEq (zaa 5) #v[0])) gA0))) (gCns (gArg (gOpN oInt (gCns (gArg (gOp2 (oI yes2 fun i j=>.bl (decide (j < i))) (zaa 5) #v[0])) gA0))) gA0))))) (zaa 2)))))
noncomputable def zkp (Ψ:Str->Fn):GS:=gFor [0] (.nm 4) (zeg (gCns (zaa 1) gA0)) (zj4 Ψ)
noncomputable def zg8 (Ψ:Str->Fn):GS:=(gSeq (gSet [0] 2 (zae [true,false] (Ψ "_law_take") (gCns (zaa 0) (gCns #v[4] gA0)))) (gSeq (gIfS (zan (gOp2 oEq (zaa 2) #v[3])) (gRet (gOp2 oMult (gArg (zap (gCns (gArg (zae [true,false] (Ψ "_law_take") (gCns (zaa 0) (gCns #v[2] gA0)))) gA0))) (zaa 1))) zb3) (gSeq (gSet [0] 3 (zap gA0)) (gSeq (zkp Ψ) (zdi [0] 3)))))
theorem zma (Ψ:Str->Fn)(d:Nat):zaq T bn Ψ (d+2) zc6=some (zg8 Ψ):=by kernel_rfl
theorem zn5:T.find? (·.nm == ("_law_bits" : Str))=some zc6:=by kernel_rfl
theorem zmu (d:Nat):sem T bn (d+3) "_law_bits" = zaj [true,false] 6 (zg8 (sem T bn (d+2))):=zbz zn5 (zma _ d)
noncomputable def zkh (Ψ:Str->Fn):GS:=(gSet [] 1 (gOp2 oAdd (gArg (gOp2 oMult #v[2] (zaa 1))) (zaa 2)))
noncomputable def zj6 (Ψ:Str->Fn):GS:=gFor [] (.nm 2) (gRev (gVar 0)) (zkh Ψ)
noncomputable def zg3 (Ψ:Str->Fn):GS:=(gSeq (gSet [] 1 (gC (.int 0))) (gSeq (zj6 Ψ) (zdi [] 1)))
theorem zl7 (Ψ:Str->Fn)(d:Nat):zaq T bn Ψ (d+2) zcv=some (zg3 Ψ):=by kernel_rfl
theorem zn3:T.find? (·.nm == ("_law_word" : Str))=some zcv:=by kernel_rfl
theorem zmt (d:Nat):sem T bn (d+3) "_law_word" = zaj [false] 3 (zg3 (sem T bn (d+2))):=zbz zn3 (zl7 _ d)
noncomputable def zb7 (Ψ:Str->Fn):GE:=zck [none,none,some 2] (.nm 1) (zas (gOpN zld (gCns (zaa 1) gA0))) gYes (zjz (gCns (gArg (gOp2 (oI yes2 fun i j=>.int (Builtin.bitXor i j)) (zaa 2) (zaa 1))) (gCns (gArg (gC (.bl true))) gA0)))
noncomputable def zdw (Ψ:Str->Fn):GS:=(gIfS (zan (gOp2 (oInD true) (zaa 2) (zaa 1))) (zf1 (zq2 1 (zb7 Ψ))) zb3)
noncomputable def zdm (Ψ:Str->Fn):GS:=gFor [] (.nm 2) (zas (gVar 0)) (zdw Ψ)
noncomputable def zc8 (Ψ:Str->Fn):GS:=(gSeq (gSet [] 1 (z2q (gC (.int 0)) (gC (.bl true)))) (gSeq (zdm Ψ) (gRet (gOpN zfu (gCns (zaa 1) gA0)))))
theorem znn (Ψ:Str->Fn)(d:Nat):zaq T bn Ψ (d+2) zc0=some (zc8 Ψ):=by kernel_rfl
theorem zno:T.find? (·.nm == ("_law_sums" : Str))=some zc0:=by kernel_rfl
theorem zm7 (d:Nat):sem T bn (d+3) "_law_sums" = zaj [false] 3 (zc8 (sem T bn (d+2))):=zbz zno (znn _ d)
noncomputable def B1__law_base (Ψ:Str->Fn):GS:=(gIfS (zg5 (zan (gOp2 (oI yes2 fun i j=>.bl (decide (j < i))) (zaa 2) #v[0])) (zan (gOp2 (oInD true) (gArg (gOp1 zbe (zaa 2))) (zaa 1)))) (zug 1 (gOp1 zbe (zaa 2)) (gVar 2)) zb3)
noncomputable def zdv (Ψ:Str->Fn):GS:=gFor [] (.nm 2) (zas (gVar 0)) (B1__law_base Ψ)
noncomputable def zc4 (Ψ:Str->Fn):GS:=(gSeq (gSet [] 1 z09) (gSeq (zdv Ψ) (gRet (gOpN zdt (gCns (gArg (zlx 1)) gA0)))))
theorem zmo (Ψ:Str->Fn)(d:Nat):zaq T bn Ψ (d+2) zde=some (zc4 Ψ):=by kernel_rfl
theorem zl5:T.find? (·.nm == ("_law_base" : Str))=some zde:=by kernel_rfl
theorem znf (d:Nat):sem T bn (d+3) "_law_base" = zaj [false] 3 (zc4 (sem T bn (d+2))):=zbz zl5 (zmo _ d)
noncomputable def zdo (Ψ:Str->Fn):GE:=zck [none,none,some 1,some 0] (.nm 1) (zeg (gCns (zaa 2) gA0)) gYes (zae [true,false] (Ψ "_law_take") (gCns (zaa 3) (gCns (gArg (gOp2 #v[0,0,1] #v[1] (zaa 2))) gA0)))
noncomputable def zdx (Ψ:Str->Fn):GE:=zck [none,none,some 4] (.nm 1) (zas (gVar 3)) gYes (gOp2 (oI yes2 fun i j=>.int (Builtin.bitXor i j)) (zaa 2) (zaa 1))
noncomputable def zda (Ψ:Str->Fn):GS:=(gSeq (gSet [0] 3 (zae [false] (Ψ "_law_sums") (gCns (gArg (zdo Ψ)) gA0))) (gSeq (gSet [0] 4 (zae [true,false] (Ψ "_law_take") (gCns (zaa 0) (gCns (gArg (gOp2 #v[0,0,1] #v[1] (zaa 1))) gA0)))) (gRet (zjz (gCns (gArg (gOpN oMin (gCns (gArg (zdx Ψ)) gA0))) (gCns (gArg (zae [false] (Ψ "_law_base") (gCns #v[3,4] gA0))) gA0))))))
theorem zng (Ψ:Str->Fn)(d:Nat):zaq T bn Ψ (d+2) zcu=some (zda Ψ):=by kernel_rfl
theorem zm4:T.find? (·.nm == ("_law_flat" : Str))=some zcu:=by kernel_rfl
theorem zn4 (d:Nat):sem T bn (d+3) "_law_flat" = zaj [true,false,false] 5 (zda (sem T bn (d+2))):=zbz zm4 (zng _ d)
noncomputable def zcg (Ψ:Str->Fn):GE:=zck [none,none,some 0] (.nm 1) (zas (zae [false] (Ψ "_law_sums") (gCns (gArg (gOp2 oIx (zaa 0) #v[1])) gA0))) gYes (gOp2 (oI yes2 fun i j=>.int (Builtin.bitXor i j)) (gArg (gOp2 oIx (zaa 2) #v[0])) (zaa 1))
noncomputable def G__law_places (Ψ:Str->Fn):GS:=(gRet (gOpN zcc (gCns (gArg (zcg Ψ)) gA0)))
theorem zjr (Ψ:Str->Fn)(d:Nat):zaq T bn Ψ (d+2) zbv=some (G__law_places Ψ):=by kernel_rfl
theorem ziz:T.find? (·.nm == ("_law_places" : Str))=some zbv:=by kernel_rfl
theorem zju (d:Nat):sem T bn (d+3) "_law_places" = zaj [false] 1 (G__law_places (sem T bn (d+2))):=zbz ziz (zjr _ d)
noncomputable def zfp (Ψ:Str->Fn):GS:=(gSet [] 1 (gOp2 oAdd (zaa 1) (gArg (gOp2 #v[0,0,1] #v[1] (zaa 2)))))
noncomputable def zfn (Ψ:Str->Fn):GS:=gFor [] (.nm 2) (zas (gVar 0)) (zfp Ψ)
noncomputable def ze2 (Ψ:Str->Fn):GS:=(gSeq (gSet [] 1 (gC (.int 0))) (gSeq (zfn Ψ) (zdi [] 1)))
theorem zr1 (Ψ:Str->Fn)(d:Nat):zaq T bn Ψ (d+2) ze4=some (ze2 Ψ):=by kernel_rfl
theorem zv9:T.find? (·.nm == ("_law_at" : Str))=some ze4:=by kernel_rfl
theorem zrt (d:Nat):sem T bn (d+3) "_law_at" = zaj [false] 3 (ze2 (sem T bn (d+2))):=zbz zv9 (zr1 _ d)
noncomputable def zb4 (Ψ:Str->Fn):GE:=zck [none,none,some 1] (.nm 1) (zeg (gCns (gArg (gOp2 #v[0,0,1] #v[1] (zaa 0))) gA0)) (zan (gOp2 oEq (gArg (gOp2 (oI yes2 fun i j=>.int (Builtin.bitAnd i j)) (gArg (gOp2 (oI (fun _ j=>decide (0<=j)) fun i j=>.int (i / 2 ^ j.toNat)) (zaa 2) (zaa 1))) #v[1])) #v[1])) (gVar 1)
noncomputable def zdd (Ψ:Str->Fn):GE:=zck [none,none,some 2] (.nm 1) (zas (gVar 2)) gYes (zjz (gCns (gArg (gOp2 (oI yes2 fun i j=>.int (Builtin.bitXor i j)) (zaa 1) (gArg (gOp2 oIx (zaa 2) #v[0])))) (gCns (gArg (gC (.bl true))) gA0)))
noncomputable def zee (Ψ:Str->Fn):GE:=zck [none,none,some 3,some 4] (.nm 1) (zmf 3) gYes (gOp2 (oInD false) (gArg (gOp2 (oI yes2 fun i j=>.int (Builtin.bitXor i j)) (zaa 3) (zaa 1))) (zaa 2))
noncomputable def zct (Ψ:Str->Fn):GS:=(gIfS (zrs (zan (gOpN (oBl fun bs=>bs.all id) (gCns (gArg (zee Ψ)) gA0)))) (gRet (gC .non)) zb3)
noncomputable def zd9 (Ψ:Str->Fn):GS:=gFor [] (.nm 4) (zmf 3) (zct Ψ)
noncomputable def zbx (Ψ:Str->Fn):GS:=(gSeq (gSet [] 2 (zb4 Ψ)) (gSeq (gIfS (zan (gOp2 oEq (zaa 2) (gArg (zap gA0)))) (gRet (gC .non)) zb3) (gSeq (gSet [] 3 (zid (zdd Ψ))) (gSeq (zd9 Ψ) (gRet (zjz (gCns (gArg (gOp2 oIx (zaa 2) #v[0])) (gCns (gArg (zae [false] (Ψ "_law_base") (gCns (gArg (gOpN zfu (gCns (zaa 3) gA0))) gA0))) gA0))))))))
theorem zrp (Ψ:Str->Fn)(d:Nat):zaq T bn Ψ (d+2) zd0=some (zbx Ψ):=by kernel_rfl
theorem zre:T.find? (·.nm == ("_law_due" : Str))=some zd0:=by kernel_rfl
theorem zqw (d:Nat):sem T bn (d+3) "_law_due" = zaj [false,false] 5 (zbx (sem T bn (d+2))):=zbz zre (zrp _ d)
noncomputable def za5 (Ψ:Str->Fn):GE:=zck [none,none,some 8] (.nm 1) (zas (zae [false] (Ψ "_law_places") (gCns #v[3,4] gA0))) gYes (gOp2 (oI yes2 fun i j=>.int (Builtin.bitXor i j)) (zaa 1) (zaa 2))
noncomputable def zaw (Ψ:Str->Fn):GS:=(gSeq (gSet [0] 2 (zae [true,false] (Ψ "_law_take") (gCns (zaa 0) (gCns (gArg (gOp2 oAdd (zaa 1) #v[2])) gA0)))) (gSeq (gPar [0] 3 4 (zae [true,false,false] (Ψ "_law_flat") (gCns (zaa 0) (gCns #v[1,4] (gCns #v[2,4] gA0)))) (zae [true,false,false] (Ψ "_law_flat") (gCns (zaa 0) (gCns #v[1,4] (gCns (gArg (zae [true,false] (Ψ "_law_take") (gCns (zaa 0) (gCns (gArg (gOp2 oAdd (zaa 1) #v[2])) gA0)))) gA0))))) (gSeq (gSet [0] 5 (zae [false] (Ψ "_law_at") (gCns (gArg (zae [false] (Ψ "_law_places") (gCns #v[3,4] gA0))) gA0))) (gSeq (gPar [0] 6 7 (gOp2 #v[0,0,1] #v[1] (gArg (zae [true,false] (Ψ "_law_take") (gCns (zaa 0) (gCns (gArg (gOp2 #v[0,0,1] #v[1] (zaa 1))) gA0))))) (gOp2 #v[0,0,1] #v[1] (gArg (zae [true,false] (Ψ "_law_take") (gCns (zaa 0) (gCns (gArg (gOp2 #v[0,0,1] #v[1] (zaa 1))) gA0)))))) (gSeq (gSet [0] 8 (zae [true,false] (Ψ "_law_take") (gCns (zaa 0) (gCns (gArg (gOp2 #v[0,0,1] #v[1] (zaa 1))) gA0)))) (gSeq (gSet [0] 9 (zae [false] (Ψ "_law_at") (gCns (gArg (za5 Ψ)) gA0))) (gSeq (gSet [0] 10 (zap (gCns #v[5,4] (gCns (gArg (gOp2 (oI yes2 fun i j=>.int (Builtin.bitXor i j)) (zaa 5) (zaa 6))) (gCns (gArg (gOp2 (oI yes2 fun i j=>.int (Builtin.bitXor i j)) (gArg (gOp2 (oI yes2 fun i j=>.int (Builtin.bitXor i j)) (zaa 5) (zaa 6))) (zaa 7))) (gCns (gArg (gOp2 (oI yes2 fun i j=>.int (Builtin.bitOr i j)) (zaa 5) (zaa 6))) (gCns (gArg (gOp2 (oI yes2 fun i j=>.int (Builtin.bitOr i j)) (zaa 5) (zaa 9))) (gCns (gArg (gOp2 (oI yes2 fun i j=>.int (Builtin.bitXor i j)) (zaa 5) (zaa 9))) (gCns #v[9,4] gA0))))))))) (gSeq (gSet [0] 10 (gOp2 oAdd (zaa 10) (gArg (zap (gCns (gArg (gOp2 (oI yes2 fun i j=>.int (Builtin.bitOr i j)) (zaa 5) (gArg (zae [false] (Ψ "_law_at") (gCns (gArg (zae [false] (Ψ "_law_places") (gCns #v[4,4] gA0))) gA0))))) (gCns (gArg (zae [false] (Ψ "_law_word") (gCns (gArg (zae [true,false] (Ψ "_law_bits") (gCns (zaa 0) (gCns (gArg (gOp2 #v[0,0,1] #v[1] (zaa 1))) gA0)))) gA0))) gA0)))))) (gRet (gOp2 oAdd (zaa 10) (gArg (zap (gCns #v[0] (gCns (gArg (gOp2 #v[0,0,0] (gArg (gOp2 #v[0,0,1] #v[1] (gArg (gOp2 #v[0,0,1] #v[1] (zaa 1))))) #v[1])) gA0))))))))))))))
theorem zfc (Ψ:Str->Fn)(d:Nat):zaq T bn Ψ (d+2) zax=some (zaw Ψ):=by kernel_rfl
theorem zfl:T.find? (·.nm == ("_law_some_words" : Str))=some zax:=by kernel_rfl
theorem zfd (d:Nat):sem T bn (d+3) "_law_some_words" = zaj [true,false] 11 (zaw (sem T bn (d+2))):=zbz zfl (zfc _ d)
noncomputable def zp5 (Ψ:Str->Fn):GS:=(gIfS (zan (gOp2 oNe (gArg (gOpN zqt (gCns (gArg (zae [false,false] (Ψ "flat_of") (gCns #v[3,4] (gCns #v[4,4] gA0)))) gA0))) (gArg (gOpN zqt (gCns (gArg (zae [false,false] (Ψ "_law_due") (gCns #v[3,4] (gCns #v[4,4] gA0)))) gA0))))) (gRet (gC (.bl false))) zb3)
noncomputable def zv1 (Ψ:Str->Fn):GS:=gFor [] (.nm 4) (zas (zae [true,false] (Ψ "_law_some_words") (gCns (zaa 1) (gCns #v[3,4] gA0)))) (zp5 Ψ)
noncomputable def zvl (Ψ:Str->Fn):GS:=(gSeq (gSet [] 3 (zae [true] (Ψ "_law_many") (gCns (zaa 1) gA0))) (zv1 Ψ))
noncomputable def zs5 (Ψ:Str->Fn):GS:=gFor [] (.nm 2) (zeg (gCns (gArg (gOp2 oAdd #v[4] (gArg (gOpN oMin (gCns #v[10] (gCns (gArg (gOpN oLen (gCns (zaa 0) gA0))) gA0)))))) gA0)) (zvl Ψ)
noncomputable def z1y (Ψ:Str->Fn):GS:=(gSeq (gSet [] 1 (zae [false] (Ψ "_law_hand") (gCns #v[0,4] gA0))) (gSeq (zs5 Ψ) (gRet (gC (.bl true)))))
theorem z9s (Ψ:Str->Fn)(d:Nat):zaq T bn Ψ (d+2) znb=some (z1y Ψ):=by kernel_rfl
theorem z9v:T.find? (·.nm == ("law" : Str))=some znb:=by kernel_rfl
theorem z96 (d:Nat):sem T bn (d+3) "law" = zaj [false] 5 (z1y (sem T bn (d+2))):=zbz z9v (z9s _ d)
noncomputable def sumP:List Nat->Nat
 | []=>0
 | q::M=>2 ^ q ^^^ sumP M
theorem zdb:∀{M:List Nat},M.Nodup->∀i,(sumP M).testBit i=decide (i∈M)
  | [],_,i=>by rw[Av Dc];exact Cf i
  | q::M,h,i=>by
    obtain⟨h1,h2⟩:=Do.mp h;show (2 ^ q ^^^ sumP M).testBit i=_;rw[Bh,Nat.testBit_two_pow,zdb h2];by_cases e:q=i
    · subst e;rw[Ag rfl,Av h1,Ag Aq];rfl
    · rw [Av e]
      by_cases m:i∈M
      · rw[Ag m,Ag (Ar _ m)];rfl
      · rw[Av m,Av fun z=>by rcases Ax.mp z with z | z;exact e z.symm;exact m z];rfl
theorem zt4 {n:Nat}:∀{M:List Nat},(∀q∈M,q < n)->sumP M < 2 ^ n
 | [],_=>Ez n
 | q::M,h=>Cc (Nat.pow_lt_pow_right #v[0,9] (h q Aq)) (zt4 fun x hx=>h x (Ar _ hx))
theorem zh4 {L:List Nat}(h:L.Nodup):∃P:List Nat,P.Perm L/\P.Pairwise (· < ·):=by
 refine⟨L.mergeSort (fun a b=>decide (a<=b)),List.mergeSort_perm _ _,?_⟩;have s:=List.pairwise_mergeSort (le:=fun a b:Nat=>decide (a<=b)) (fun a b c h1 h2=>Ag (Cq (An h1) (An h2))) (fun a b=>by rw[Cn,Ds,Ds];exact Nat.le_total a b) L;have nd:(L.mergeSort (fun a b=>decide (a<=b))).Nodup:=(List.mergeSort_perm L _).nodup_iff.mpr h;rw[Bi] at nd;exact (s.and nd).imp fun {a b} q=>by have:=An q.1;have:=q.2;omega
theorem zd3 {L P:List Nat}(hp:P.Perm L)(ha:P.Pairwise (· < ·)):zbg (L.map fun p:Nat=>(p:Int))=P.map fun p:Nat=>(p:Int):=zeq (hp.map _) (by rw[By];exact ha.imp fun h=>by omega)
theorem zwq {Ψ:Str->Fn}(hT:zhy (Ψ "_law_take")):∀(k:Nat) (st:W),HS k st->k+10 < big->∃st' m,zaj [true] 1 (zb2 Ψ) [st]=some ([st'],(.int (m:Nat),false))/\HS (k+2) st'/\m<=6:=fun k st hs hk=>by
 obtain⟨st1,r,e1,g1,r0,r5⟩:=hT k st 5 hs #v[] #v[0,9] #v[0,9];obtain⟨st2,q,e2,g2,q0,q8⟩:=hT (k+1) st1 8 g1 #v[] #v[0,9] #v[0,9];obtain⟨r,rfl⟩:=Cp r0;by_cases c:q=0
 ·subst c;refine⟨st2,6,?_,g2,Ae _⟩;have oi:oInt [.bl true]=#v[1,0]:=rfl;unfold zb2;simp! [e1,e2,oi]
 ·refine⟨st2, 1 + r, ?_, g2, by omega⟩;have d:decide (q=0)=false:=Av c;have oi:oInt [.bl false]=#v[0,0]:=rfl;have ec:(1:Int)+(r:Int)=((1+r:Nat):Int):=by omega
  unfold zb2;simp! [e1,e2,d,oi,ec]
theorem zn7:∀{l l' : List Nat},l.Nodup->(∀a∈l,a∈l')->l.length<=l'.length
  | [],_,_,_=>Bv _
  | a::l,l',hn,hs=>by
    have ha:=hs a (Aq ..);have hn':=Do.mp hn;have:=zn7 (l:=l) (l':=l'.erase a) hn'.2 fun b hb=>(List.mem_erase_of_ne (show b≠a from fun e=>hn'.1 (by rw[<-e];exact hb))).mpr (hs b (Ar _ hb));rw[List.length_erase_of_mem ha] at this;have:=List.length_pos_of_mem ha;rw[Bb];omega
noncomputable def Clo (L:List Nat):Prop:=L.Nodup/\0∈L/\∀a∈L,∀b∈L,a ^^^ b∈L
noncomputable def smF (L:List Nat) (x:Nat):List Nat:=if x∈L then L else L++L.map (x ^^^ ·)
theorem zam (x a:Nat):x ^^^ (x ^^^ a)=a:=by rw[<-Bp,Ef,Fh]
theorem z23 {L:List Nat}{x:Nat}(h:Clo L)(hx:x ∉ L){a:Nat}(ha:a∈L):x ^^^ a ∉ L:=fun z=>by
 have:=h.2.2 _ z _ ha;rw[Bp,Ef,Ce] at this;exact hx this
theorem zdk {L:List Nat}(h:L.Nodup)(x:Nat):(L.map (x ^^^ ·)).Nodup:=by
 rw[Bi,By];rw[Bi] at h;refine h.imp fun {a b} ne e=>ne ?_;have:=congrArg (x ^^^ ·) e
 rwa [zam,zam] at this
theorem zme {L:List Nat}(h:Clo L)(x:Nat):Clo (smF L x):=by
 unfold smF;split
 ·exact h
 ·rename_i hx;refine⟨?_,Bk _ h.2.1,fun a ha b hb=>?_⟩
  ·rw[Go];refine⟨h.1,zdk h.1 x,fun a ha b hb e=>?_⟩;obtain⟨c,hc,rfl⟩:=Ay.mp hb;rw[e] at ha;exact z23 h hx hc ha
  ·rcases Bd.mp ha with ha | ha <;> rcases Bd.mp hb with hb | hb
   ·exact Bk _ (h.2.2 a ha b hb)
   ·obtain⟨c, hc, rfl⟩ := Ay.mp hb;refine Bc _ (Ay.mpr ⟨a ^^^ c,h.2.2 a ha c hc,?_⟩);rw[<-Bp,Et x a,Bp]
   ·obtain⟨c, hc, rfl⟩ := Ay.mp ha;refine Bc _ (Ay.mpr ⟨c ^^^ b,h.2.2 c hc b hb,?_⟩);rw[Bp]
   ·obtain⟨c, hc, rfl⟩ := Ay.mp ha;obtain⟨e,he,rfl⟩:=Ay.mp hb;refine Bk _ ?_;have:(x ^^^ c) ^^^ (x ^^^ e)=c ^^^ e:=by rw[Et x c,Bp,zam]
    rw[this];exact h.2.2 c hc e he
theorem z32 {n:Nat}{L:List Nat}(h:∀a∈L,a < 2 ^ n){x:Nat}(hx:x < 2 ^ n):∀a∈smF L x,a < 2 ^ n:=fun a ha=>by
 unfold smF at ha;split at ha
 ·exact h a ha
 ·rcases Bd.mp ha with ha | ha
  ·exact h a ha
  ·obtain⟨c, hc, rfl⟩ := Ay.mp ha;exact Cc hx (h c hc)
noncomputable def smX (xs:List Nat):List Nat:=xs.foldl smF [0]
theorem zgr {n:Nat}{L:List Nat}(h:L.Nodup)(hl:∀a∈L,a < 2 ^ n):L.length<=2 ^ n:=by
 have:=zn7 h (l':=List.range (2 ^ n)) fun a ha=>Bt.mpr (hl a ha)
 rwa [Ct] at this
theorem z5p {a b:Nat}(ha:a≠0)(hb:b≠0)(ne:tp a≠tp b):tp (a ^^^ b)=tp a\/tp (a ^^^ b)=tp b:=by
 rcases Nat.lt_or_gt_of_ne ne with h | h
 ·right
  refine zxf ?_ fun i hi=>?_
  ·rw[Bh,zcp h,zbo hb];rfl
  ·rw[Bh,zcp hi,zcp (Nat.lt_trans h hi)];rfl
 ·left
  refine zxf ?_ fun i hi=>?_
  ·rw[Bh,zcp h,zbo ha];rfl
  ·rw[Bh,zcp hi,zcp (Nat.lt_trans h hi)];rfl
theorem z3p {L B:List Nat}{b:Nat}(h:∀l∈L,l≠0->tp l∈B.map tp)(hb:b≠0)(nb:tp b ∉ B.map tp):b ∉ L/\∀l∈smF L b,l≠0->tp l∈(B++[b]).map tp:=by
 have out:b ∉ L:=fun m=>nb (h b m hb);refine⟨out,fun l hl hz=>?_⟩;unfold smF at hl;rw[if_neg out] at hl;rw[Bq];rcases Bd.mp hl with hl | hl
 ·exact Bk _ (h l hl hz)
 ·obtain⟨c, hc, rfl⟩ := Ay.mp hl;by_cases z:c=0
  ·subst z;rw[Ce];exact Bc _ (Aj.mpr rfl)
  ·have cm := h c hc z;rcases z5p hb z (fun e=>nb (by rw[e];exact cm)) with e | e
   ·rw[e];exact Bc _ (Aj.mpr rfl)
   ·rw[e];exact Bk _ cm
noncomputable def flF (T:List Nat) (b:Nat):List Nat:=T++T.map (· ^^^ b)
theorem z48 {p:Nat}{B:List Nat} (hB:∀b∈B,b≠0) (nd:(B.map tp).Nodup):∀i,i<=B.length->(B.take i).foldl flF [p]=((B.take i).foldl smF [0]).map (p ^^^ ·)/\∀l∈(B.take i).foldl smF [0],l≠0->tp l∈(B.take i).map tp
  | 0,_=>⟨by show [p]=[p ^^^ 0];rw[Ce],fun l hl hz=>absurd (Aj.mp hl) hz⟩
  | i+1,hi=>by
    have li:i < B.length:=hi;obtain⟨h1,h2⟩:=z48 (p:=p) hB nd i #v[];have hbi:B[i]?=some B[i]:=Ab li;have dr:B.drop i=B[i]::B.drop (i+1):=Ci li;have tk:B.take (i+1)=B.take i++[B[i]]:=by rw[De,hbi];rfl
    rw[<-Bl i B,dr,Bq,Go] at nd;generalize B[i]=b at *
    have nb:tp b ∉ (B.take i).map tp:=fun m=>nd.2.2 _ m (tp b) Aq rfl;obtain⟨out,h3⟩:=z3p h2 (hB b (Bn hbi)) nb;rw[tk,Dg,Dg];refine⟨?_,h3⟩;show flF _ b=(smF _ b).map _;rw[h1];generalize (B.take i).foldl smF [0]=L at *
    unfold smF flF;rw[if_neg out,Bq,Ca,Ca];congr 1;refine List.map_congr_left fun l _=>?_;show (p ^^^ l) ^^^ b=p ^^^ (b ^^^ l);rw[Bp,Et l b]
theorem ztp (q:Nat):∀M:List Nat,sumP (M++[q])=sumP M ^^^ 2 ^ q
 | []=>by show 2 ^ q ^^^ 0=0 ^^^ 2 ^ q;rw[Ce,Fh]
 | a::M=>by show 2 ^ a ^^^ sumP (M++[q])=(2 ^ a ^^^ sumP M) ^^^ 2 ^ q;rw[ztp q M,Bp]
theorem zkk {n:Nat}{M:List Nat}(hM:M.Nodup)(hl:∀p∈M,p < n):zac (tab n fun i=>if i∈M then 1 else 0)=(sumP M:Nat):=by
 rw[zcz (g:=bitN (sumP M)) fun i _=>by
  unfold bitN;rw[zdb hM];by_cases m:i∈M
  ·rw[if_pos m,Ag m];rfl
  ·rw[if_neg m,Av m];rfl,zb1 n _ (zt4 hl)]
theorem z50:∀(L:List Int) (n:Int),mn1 n L=n\/mn1 n L∈L
  | [],n=>.inl rfl
  | y::L,n=>by
    have e:mn1 n (y::L)=mn1 (if y < n then y else n) L:=rfl;rw[e];rcases z50 L (if y < n then y else n) with h | h
    · by_cases c : y < n
      · rw[if_pos c] at h ⊢;exact .inr (by rw[h];exact Aq)
      · rw[if_neg c] at h ⊢;exact .inl h
    · exact .inr (Ar _ h)
theorem sp_lt {n v:Nat}{S:List Nat}(hs:∀c∈S,c < 2 ^ n)(h:SpN S v):v < 2 ^ n:=by
 induction h with
 | zero=>exact Ez n
 | add _ hb ih=>exact Cc ih (hs _ hb)
noncomputable def SumW (L:List Nat):W:=.dct (L.map dkN) (L.map fun _=>.bl true)
theorem z4p {κ:Type}{ks:List DKey}{ws:List W}{u:W}{d:DKey}{o:Option W}(neg:Bool)(hd:keyD u=some d)(hv:valW (ks.zip ws) d=o)(hs:zcj d ks=true):oInD neg u (.dct ks ws)=some (.bl (if o.isSome then !neg else neg),false):=by
 show (keyD u).bind _=_;rw[hd];show (match valW (ks.zip ws) d with
  | some _=>#v[W.bl (!neg),6]
  | none=>if zcj d ks then #v[W.bl neg,6] else none)=_
 rw[hv];cases o with
 | none=>show (if zcj d ks then #v[W.bl neg,6] else none)=_;rw[hs];rfl
 | some w=>rfl
theorem z7p (x:Nat)(L:List Nat):oInD true (.int (x:Nat)) (SumW L)=some (.bl (!decide (x∈L)),false):=by
 have:=z4p (κ:=Nat) (ks:=L.map dkN) (ws:=L.map fun _=>W.bl true) (u:=.int (x:Nat)) (d:=dkN x) true rfl (zm9 dkN_inj _ x L) (zio x L);rw[show SumW L=.dct (L.map dkN) (L.map fun _=>W.bl true) from rfl,this];by_cases h:x∈L
 ·rw[if_pos h,Ag h];rfl
 ·rw[if_neg h,Av h];rfl
noncomputable def zht (y:Nat):W:=.tup [.int (y:Nat),.bl true]
noncomputable def keyX (y:Nat):Key:=.inl (y:Int)
theorem znx:∀N:List Nat,ze0 (N.map zht)=some (N.map fun y=>(keyX y,W.bl true))
  | []=>rfl
  | y::N=>by
    show (zu7 (zht y)).bind _=_;rw[show zu7 (zht y)=some (keyX y,W.bl true) from rfl];show (ze0 (N.map zht)).bind _=_;rw[znx N];rfl
theorem z0o:∀(N L:List Nat),(L++N).Nodup->updW (N.map fun y=>(keyX y,W.bl true)) (L.map dkN) (L.map fun _=>W.bl true)=((L++N).map dkN,(L++N).map fun _=>W.bl true)
  | [],L,_=>by rw[Br];rfl
  | y::N,L,h=>by
    have out:y ∉ L:=fun m=>by
      rw[Go] at h;exact h.2.2 y m y Aq rfl
    show updW (N.map fun y=>(keyX y,W.bl true)) (zeh (L.map dkN) (dkN y)) (zeb (L.map dkN) (L.map fun _=>W.bl true) (dkN y) (W.bl true))=_;rw[zo7 dkN_inj out,zpy dkN_inj _ _ out];have h' : ((L++[y])++N).Nodup:=by rw[Az];exact h
    have:=z0o N (L++[y]) h';rw[Bq,Bq] at this;show updW _ (L.map dkN++[y].map dkN) (L.map (fun _=>W.bl true)++[y].map fun _=>W.bl true)=_;rw[this,Az];rfl
theorem z5g {i:Nat}{g:GE}{en e1:En}{ks0 ks:List DKey}{ws0 ws us:List W}{ps:List (Key × W)}(h0:en[i]?=some (some (.dct ks0 ws0,true)))(h1:g en=some (e1,(.lst us,true)))(h2:ze0 us=some ps)(h3:e1[i]?=some (some (.dct ks ws,true)))(hz:((ks.all fun k=>k.isLeft) && decide (ks.length+ps.length<=sizeLine))=true):zq2 i g en=some (e1.set i (some (.dct (updW ps ks ws).1 (updW ps ks ws).2,true)),(.non,false)):=by
 unfold zq2;simp only [h0,h1,Db,h2,h3,hz,Fg]
theorem zoc (L:List Nat):((L.map dkN).all fun k=>k.isLeft)=true:=by rw[List.all_map,Bg];exact fun _ _=>rfl
noncomputable def zoi (Φ:Fn):Prop:=∀(m:Nat) (xs:List Nat) (x0:W),(x0=.lst (zab xs)\/x0=.tup (zab xs))->m<=6->(∀x∈xs,x < 2 ^ m)->∃S:List Nat,Φ [x0]=some ([x0],(.lst (zab S),true))/\S.Perm (smX xs)/\S.Pairwise (· < ·)/\Clo (smX xs)/\∀s∈S,s < 2 ^ m
theorem z02 (Ψ:Str->Fn):zoi (zaj [false] 3 (zc8 Ψ)):=fun m xs x0 hx hm hl=>by
 have p6:=zgi hm;have s9:(1000:Nat)<=sizeLine:=by decide
 have sq:seqW x0=some (zab xs):=by rcases hx with e | e<;>rw[e]<;>rfl
 have l2:∃w2,zdm Ψ [#v[x0,6],#v[SumW [0],5],none]=some ([#v[x0,6],#v[SumW (smX xs),5],w2],.nx)/\Clo (smX xs)/\∀s∈smX xs,s < 2 ^ m:=by
  unfold zdm;obtain⟨en',h,w2,rfl,k1,k2⟩:=zbi (mp:=[]) (T:=.nm 2) (it:=zas (gVar 0)) (body:=zdw Ψ) (fun i e=>∃w2,e=[#v[x0,6],#v[SumW ((xs.take i).foldl smF [0]),5],w2]/\Clo ((xs.take i).foldl smF [0])/\∀s∈(xs.take i).foldl smF [0],s < 2 ^ m) (en:=[#v[x0,6],#v[SumW [0],5],none]) (e0:=[#v[x0,6],#v[SumW [0],5],none]) (ws:=zab xs) (by simp! [sq]) ⟨none,rfl,⟨by simp,Aj.mpr rfl,fun a ha b hb=>by rw[Aj.mp ha,Aj.mp hb];exact Aj.mpr rfl⟩,fun s hs=>by rw[Aj.mp hs];exact Ez m⟩ fun i w e hw hp=>by
   obtain⟨w2,rfl,k1,k2⟩:=hp;obtain⟨x,hxi,rfl⟩:=castL_get hw;have tk:(xs.take (i+1)).foldl smF [0]=smF ((xs.take i).foldl smF [0]) x:=by rw[De,hxi];show (xs.take i++[x]).foldl smF [0]=_;rw[Dg];rfl
   rw[tk];generalize (xs.take i).foldl smF [0]=L at *
   have xl:=hl x (Bn hxi);have ll:=zgr k1.1 k2;have is:=z7p x L;refine⟨[#v[x0,6],#v[SumW L,5],#v[(x:Nat),0]],[#v[x0,6],#v[SumW (smF L x),5],#v[(x:Nat),0]],rfl,.inl ?_,_,rfl,zme k1 x,z32 k2 xl⟩;unfold zdw;by_cases c:x∈L
   ·rw[Ag c] at is;rw[show smF L x=L from if_pos c];simp! [is]
   ·rw [Av c] at is;have sm:smF L x=L++L.map (x ^^^ ·):=if_neg c;have nd:=(zme k1 x).1;rw [sm] at nd;have ld:zld [SumW L]=some (.lst (zab L),true):=by
     show (zin (L.map dkN)).bind _=_;rw[zjs];rfl
    have c1:zb7 Ψ [#v[x0,6],#v[SumW L,5],#v[(x:Nat),0]]=some ([#v[x0,6],#v[SumW L,5],#v[(x:Nat),0]],(.lst ((L.map (x ^^^ ·)).map zht),true)):=by
     unfold zb7;refine zek (cap:=[none,none,some 2]) (xs:=[#v[(x:Nat),0]]) (e0:=[#v[x0,6],#v[SumW L,5],#v[(x:Nat),0]]) (ws:=zab L) (by simp! [ld]) (by rw[zad];omega) (by rw[zad,Ad,Ad]) rfl rfl rfl (fun _ _=>rfl) fun j u w r hw hr=>?_;obtain⟨o,ho,rfl⟩:=castL_get hw;rw[Au,Au,ho] at hr;have hr:zht (x ^^^ o)=r:=sI hr;subst hr;have xn:=zch x o;unfold zht;refine⟨#v[(o:Nat),0],false,?_⟩;simp! [xn]
    have ud:=z5g (i:=1) (g:=zb7 Ψ) (en:=[#v[x0,6],#v[SumW L,5],#v[(x:Nat),0]]) (e1:=[#v[x0,6],#v[SumW L,5],#v[(x:Nat),0]]) (ks0:=L.map dkN) (ws0:=L.map fun _=>W.bl true) (ks:=L.map dkN) (ws:=L.map fun _=>W.bl true) rfl c1 (znx _) rfl (by rw[zoc,Bool.true_and,Ag];rw[Ad,Ad,Ad];omega);rw[z0o _ _ nd,<-sm] at ud;rw[zxi (e1:=[#v[x0,6],#v[SumW L,5],#v[(x:Nat),0]]) (by simp! [is])];rw[zwe ud]
    rfl
  rw[zad,Cg] at h k1 k2;exact⟨w2,h,k1,k2⟩
 obtain⟨w2,l2,k1,k2⟩:=l2;obtain⟨S,sp,sa⟩:=zh4 k1.1;refine⟨S,?_,sp,sa,k1,fun s hs=>k2 s (sp.mem_iff.mp hs)⟩;have so:zfu [SumW (smX xs)]=#v[(zab S),2]:=by
  have ne:(smX xs)≠[]:=fun z=>by have:=k1.2.1;rw[z] at this;exact nomatch this
  show (zin ((smX xs).map dkN)).bind _=_;rw[zjs];show (zbp (zab (smX xs))).bind _=_;rw[zay,za1];show (if ((smX xs).map dkN).isEmpty then none else some (W.lst ((zbg ((smX xs).map fun p:Nat=>(p:Int))).map W.int),true))=_;rw[zd3 sp sa,<-zay,if_neg (by rw[List.isEmpty_iff,List.map_eq_nil_iff];exact ne)]
 unfold zc8;refine za2 (en:=[#v[x0,6],#v[SumW (smX xs),5],w2]) rfl (zah (e1:=[#v[x0,6],#v[SumW [0],5],none]) rfl (zah l2 (by simp! [so]))) rfl
noncomputable def BasW (B:List Nat):W:=.dct ((B.map fun b=>tp b+1).map dkN) (zab B)
theorem z18 {w:Nat}(hw:w≠0):zbe (.int (w:Nat))=#v[((tp w+1:Nat):Int),0]:=by
 have e:(Builtin.Int.intBits (w:Int):Int)=((tp w+1:Nat):Int):=by
  unfold Builtin.Int.intBits tp;rw[if_neg (by simp;exact hw),Int.natAbs_natCast]
 show #v[W.int (Builtin.Int.intBits (w:Int)),6]=_;rw[e]
theorem val_bas (k:Nat):∀B:List Nat,(valW (((B.map fun b=>tp b+1).map dkN).zip (zab B)) (dkN k)).isSome=decide (k∈B.map fun b=>tp b+1)
  | []=>rfl
  | b::B=>by
    show (valW ((dkN (tp b+1),W.int (b:Nat))::(((B.map fun b=>tp b+1).map dkN).zip (zab B))) (dkN k)).isSome=_;rw[zdp];by_cases e:tp b+1=k
    · rw[if_pos (by show dkN _=dkN k;rw[e]),Ag (by rw[<-e];exact Aq)];rfl
    · rw [if_neg fun z => e (dkN_inj _ _ z), val_bas k B]
      by_cases m:k∈B.map fun b=>tp b+1
      · rw[Ak,Ag m,Ag (Ar _ m)]
      · rw[Ak,Av m,Av fun z=>by rcases Ax.mp z with z | z;exact e z.symm;exact m z]
theorem z5h (k:Nat)(B:List Nat):oInD true (.int (k:Nat)) (BasW B)=some (.bl (!decide (k∈B.map fun b=>tp b+1)),false):=by
 have:=z4p (κ:=Nat) (ks:=(B.map fun b=>tp b+1).map dkN) (ws:=zab B) (u:=.int (k:Nat)) (d:=dkN k) true rfl rfl (zio k _);rw[show BasW B=.dct ((B.map fun b=>tp b+1).map dkN) (zab B) from rfl,this,val_bas];cases decide (k∈B.map fun b=>tp b+1)<;>rfl
theorem z34 {S:List Nat}(h:S.Pairwise (· < ·)){i j a b:Nat}(hij:i < j)(ha:S[i]?=some a)(hb:S[j]?=some b):a < b:=by
 obtain⟨l1,rfl⟩:=Am.mp ha;obtain⟨l2,rfl⟩:=Am.mp hb;exact Gm.mp h i j l1 l2 hij
noncomputable def zxp (Φ:Fn):Prop:=∀(m:Nat) (S:List Nat),m<=6->S.length<=64->(∀s∈S,s < 2 ^ m)->S.Pairwise (· < ·)->∃B:List Nat,Φ [.lst (zab S)]=some ([.lst (zab S)],(.tup (zab B),false))/\(∀b∈B,b≠0/\b < 2 ^ m)/\(B.map tp).Nodup/\B.length<=64/\B.Pairwise (· < ·)/\(∀b∈B,b∈S)/\∀s∈S,s≠0->∃b∈B,tp b=tp s/\b<=s
theorem zws (Ψ:Str->Fn):zxp (zaj [false] 3 (zc4 Ψ)):=fun m S hm hl hS sa=>by
 have s9:(1000:Nat)<=sizeLine:=by decide
 have l1:∃B w2,zdv Ψ [#v[(zab S),1],#v[BasW [],5],none]=some ([#v[(zab S),1],#v[BasW B,5],w2],.nx)/\(∀b∈B,b≠0/\b < 2 ^ m)/\(B.map tp).Nodup/\B.length<=S.length/\(∀b∈B,b∈S)/\∀s∈S,s≠0->∃b∈B,tp b=tp s/\b<=s:=by
  unfold zdv;obtain⟨en',h,B,w2,rfl,k1,k2,k3,k4,k5⟩:=zbi (mp:=[]) (T:=.nm 2) (it:=zas (gVar 0)) (body:=B1__law_base Ψ) (fun i e=>∃B w2,e=[#v[(zab S),1],#v[BasW B,5],w2]/\(∀b∈B,b≠0/\b < 2 ^ m)/\(B.map tp).Nodup/\B.length<=i/\(∀b∈B,∃j,j < i/\S[j]?=some b)/\∀j s,j < i->S[j]?=some s->s≠0->∃b∈B,tp b=tp s/\b<=s) (en:=[#v[(zab S),1],#v[BasW [],5],none]) (e0:=[#v[(zab S),1],#v[BasW [],5],none]) (ws:=zab S) (by simp! []) ⟨[],none,rfl,(fun _ h=>nomatch h),List.nodup_nil,Ae _,(fun _ h=>nomatch h),fun j s hj=>absurd hj (Nat.not_lt_zero _)⟩ fun i w e hw hp=>by
   obtain⟨B,w2,rfl,k1,k2,k3,k4,k5⟩:=hp;have k4' : ∀b∈B,∃j,j < i+1/\S[j]?=some b:=fun b hb=>by obtain⟨j,hj,e⟩:=k4 b hb;exact⟨j,by omega,e⟩
   obtain⟨x,hxi,rfl⟩:=castL_get hw;have li:=(Am.mp hxi).1;have xl:=hS x (Bn hxi);by_cases z:x=0
   ·subst z;refine ⟨[some (.lst (zab S),false),some (BasW B,true),some (.int 0,false)],[some (.lst (zab S),false),some (BasW B,true),some (.int 0,false)],rfl,.inl ?_,B,_,rfl,k1,k2,by omega,k4',fun j s hj hs ns=>by
     by_cases q:j=i
     ·subst q;rw[hxi] at hs;exact absurd (sI hs).symm ns
     ·exact k5 j s #v[] hs ns⟩
    unfold B1__law_base;simp! []
   ·have dz : decide ((0 : Int) < (x : Int)) = true := Ag #v[];have bt:=z18 z;have ib:=z5h (tp x+1) B;by_cases c:tp x+1∈B.map fun b=>tp b+1
    ·rw [Ag c] at ib;refine ⟨[some (.lst (zab S),false),some (BasW B,true),some (.int (x:Nat),false)],[some (.lst (zab S),false),some (BasW B,true),some (.int (x:Nat),false)],rfl,.inl ?_,B,_,rfl,k1,k2,by omega,k4',fun j s hj hs ns=>by
      by_cases q:j=i
      ·subst q; rw[hxi] at hs; obtain rfl := sI hs;obtain⟨b,hb,eb⟩:=Ay.mp c;obtain⟨j',hj',e'⟩:=k4 b hb;exact⟨b,hb,by omega,Nat.le_of_lt (z34 sa hj' e' hxi)⟩
      ·exact k5 j s #v[] hs ns⟩
     unfold B1__law_base;simp! [dz,bt,ib]
    ·rw [Av c] at ib;have pt:=z84 (i:=1) (k:=gOp1 zbe (zaa 2)) (g:=gVar 2) (en:=[some (.lst (zab S),false),some (BasW B,true),some (.int (x:Nat),false)]) (e1:=[some (.lst (zab S),false),some (BasW B,true),some (.int (x:Nat),false)]) (ks:=(B.map fun b=>tp b+1).map dkN) (ws:=zab B) (w:=.int (x:Nat)) (f:=false) (f2:=false) (u:=.int ((tp x+1:Nat):Int)) (d:=dkN (tp x+1)) (by simp! []) (by simp! [bt]) rfl rfl (zio _ _) (by rw [Ad,Ad];omega);rw [zo7 dkN_inj c,zpy dkN_inj _ _ c] at pt;have dd:W.dct ((B.map fun b=>tp b+1).map dkN++[dkN (tp x+1)]) (zab B++[W.int (x:Nat)])=BasW (B++[x]):=by
      unfold BasW;rw[Bq,Bq,ze9];rfl
     rw[dd] at pt;refine⟨[#v[(zab S),1],#v[BasW B,5],#v[(x:Nat),0]],[#v[(zab S),1],#v[BasW (B++[x]),5],#v[(x:Nat),0]],rfl,.inl ?_,B++[x],_,rfl,fun b hb=>?_,?_,by rw[Ba];show B.length+1<=_;omega,fun b hb=>?_,fun j s hj hs ns=>?_⟩
     ·unfold B1__law_base;rw[zxi (e1:=[#v[(zab S),1],#v[BasW B,5],#v[(x:Nat),0]]) (by simp! [dz,bt,ib])];exact pt
     ·rcases Bd.mp hb with hb | hb
      ·exact k1 b hb
      ·rw[Aj.mp hb];exact⟨z,xl⟩
     ·rw[Bq, Go];refine⟨k2,by simp,fun a ha b hb e=>?_⟩;obtain⟨y,hy,rfl⟩:=Ay.mp ha;rw[Aj.mp hb] at e;exact c (Ay.mpr ⟨y,hy,by rw[e]⟩)
     ·rcases Bd.mp hb with hb | hb
      ·exact k4' b hb
      ·rw[Aj.mp hb];exact⟨i,by omega,hxi⟩
     ·by_cases q : j = i
      ·subst q; rw[hxi] at hs; obtain rfl := sI hs;exact⟨x,Bc _ (Aj.mpr rfl),rfl,Ae _⟩
      ·obtain⟨b, hb, e⟩ := k5 j s #v[] hs ns;exact⟨b,Bk _ hb,e⟩
  rw[zad] at k3;refine⟨B,w2,h,k1,k2,k3,fun b hb=>?_,fun s hs ns=>?_⟩
  ·obtain⟨j,_,e⟩:=k4 b hb;exact Bn e
  ·obtain⟨j, hj, rfl⟩ := List.getElem_of_mem hs;exact k5 j _ (by rw[zad];exact hj) (Ab hj) ns
 obtain⟨B,w2,l1,k1,k2,k3,k4,k5⟩:=l1;have nB:B.Nodup:=by
  rw[Bi,By] at k2;rw[Bi];exact k2.imp fun ne e=>ne (congrArg tp e)
 obtain⟨C,cp,ca⟩:=zh4 nB;refine⟨C,?_,fun b hb=>k1 b (cp.mem_iff.mp hb),(cp.map tp).nodup_iff.mpr k2,by rw[cp.length_eq];omega,ca,fun b hb=>k4 b (cp.mem_iff.mp hb),fun s hs ns=>by
  obtain⟨b,hb,e⟩:=k5 s hs ns;exact⟨b,cp.mem_iff.mpr hb,e⟩⟩
 have sv:zlx 1 [#v[(zab S),1],#v[BasW B,5],w2]=some ([#v[(zab S),1],#v[BasW B,5],w2],(.lst (zab C),true)):=by
  show (zbp (zab B)).bind _=_;rw[zay,za1];show (if (((B.map fun b=>tp b+1).map dkN).all fun k=>k.isLeft) then some (_,(W.lst ((zbg (B.map fun p:Nat=>(p:Int))).map W.int),true)) else none)=_;rw[zoc,if_pos rfl,zd3 cp ca,<-zay]
 have ot:zdt [.lst (zab C)]=#v[(zab C),3]:=rfl;unfold zc4;refine za2 (en:=[#v[(zab S),1],#v[BasW B,5],w2]) rfl (zah (e1:=[#v[(zab S),1],#v[BasW [],5],none]) rfl (zah l1 (by simp! [sv,ot]))) rfl
noncomputable def flW (p:Nat) (B:List Nat):W:=.tup [.int (p:Nat),.tup (zab B)]
noncomputable def zt0 (m p:Nat) (B:List Nat):Prop:=p < 2 ^ m/\(∀b∈B,b < 2 ^ m)/\RB B/\B.Pairwise (· < ·)/\∀b∈B,p.testBit (tp b)=false
theorem zt0.len {m p:Nat}{B:List Nat}(hm:m<=6)(h:zt0 m p B):B.length<=6:=by
 obtain⟨_,h2,h3,_,_⟩:=h;have nd:(B.map tp).Nodup:=by
  rw[Bi,By];refine h3.2.imp_of_mem fun {a b} ha hb q e=>?_;rw[e,zbo (h3.1 b hb)] at q;cases q.2
 have:=zn7 (l:=B.map tp) (l':=List.range 6) nd fun t ht=>by
  obtain⟨b,hb,rfl⟩:=Ay.mp ht;have l1:=h2 b hb;have l2:2 ^ m<=2 ^ 6:=Dt #v[0,9] hm;exact Bt.mpr ((Nat.log2_lt (h3.1 b hb)).mpr #v[])
 rw[Ad,Ct] at this;exact this
theorem z5q:∀(L:List Int) (n:Int),mn1 n L<=n/\∀y∈L,mn1 n L<=y
  | [],n=>⟨Int.le_refl _,fun _ h=>nomatch h⟩
  | y::L,n=>by
    have e:mn1 n (y::L)=mn1 (if y < n then y else n) L:=rfl;rw[e];obtain⟨h1,h2⟩:=z5q L (if y < n then y else n);have h3:(if y < n then y else n)<=n/\(if y < n then y else n)<=y:=by split<;>omega
    refine⟨by omega,fun z hz=>?_⟩;rcases Ax.mp hz with rfl | hz
    · omega
    · exact h2 z hz
theorem z40:∀{B:List Nat},(B.map tp).Nodup->∀a∈B,∀b∈B,tp a=tp b->a=b
  | [],_,_,h,_,_,_=>nomatch h
  | x::B,nd,a,ha,b,hb,e=>by
    obtain⟨n1,n2⟩:=Do.mp nd;rcases Ax.mp ha with h1 | h1<;>rcases Ax.mp hb with h2 | h2
    · rw[h1,h2]
    · exact absurd (Ay.mpr ⟨b,h2,by rw[<-e,h1]⟩) n1
    · exact absurd (Ay.mpr ⟨a,h1,by rw[e,h2]⟩) n1
    · exact z40 n2 a h1 b h2 e
theorem zlb:∀(i:Nat) {a c:Nat},c.testBit i=false->a.testBit i=true->(∀j,i < j->c.testBit j=a.testBit j)->c < a
  | 0,a,c,h1,h2,h=>by
    have e:c / 2=a / 2:=Nat.eq_of_testBit_eq fun j=>by rw[<-Dz,<-Dz];exact h (j+1) #v[]
    rw[Nat.testBit_zero] at h1 h2;have h1:=Ee h1;have h2:=An h2;omega
  | i+1,a,c,h1,h2,h=>by
    rw[Dz] at h1 h2;have:=zlb i h1 h2 fun j hj=>by rw[<-Dz,<-Dz];exact h (j+1) #v[]
    omega
theorem zfk {a b:Nat}(hb:b≠0)(h:a.testBit (tp b)=true):a ^^^ b < a :=
 zlb (tp b) (by rw[Bh,h,zbo hb];rfl) h fun j hj=>by rw[Bh,zcp hj,Bool.xor_false]
theorem zok {S B:List Nat} (cl:∀a∈S,∀b∈S,a ^^^ b∈S) (sub:∀b∈B,b∈S) (nz:∀b∈B,b≠0) (nd:(B.map tp).Nodup) (ls:∀s∈S,s≠0->∃b∈B,tp b=tp s/\b<=s):RB B:=by
  have key:∀a∈B,∀b∈B,tp a≠tp b->a.testBit (tp b)=false:=fun a ha b hb ne=>by
    cases h:a.testBit (tp b) with
    | false=>rfl
    | true =>
      have hle:=zh3 h;have hlt:tp b < tp a:=by omega
      have c1:=zfk (nz b hb) h;have tc:tp (a ^^^ b)=tp a:=zxf (by rw[Bh,zbo (nz a ha),zcp hlt];rfl) fun i hi=>by rw[Bh,zcp hi,zcp #v[]];rfl
      have nz' : a ^^^ b≠0:=fun z=>ne (congrArg tp (zs3 z));obtain⟨d,hd,e1,e2⟩:=ls _ (cl a (sub a ha) b (sub b hb)) nz';have:=z40 nd d hd a ha #v[];omega
  refine⟨nz,?_⟩;rw[Bi,By] at nd;refine nd.imp_of_mem fun {a b} ha hb ne=>⟨key a ha b hb ne,key b hb a ha (Ne.symm ne)⟩
noncomputable def zy5 (Φ:Fn):Prop:=∀(k:Nat) (st:W) (m c:Nat),HS k st->k+100 < big->m<=6->c<=8->∃(st' : W) (p:Nat) (B:List Nat),Φ [st,.int (m:Nat),.int (c:Nat)]=some ([st',.int (m:Nat),.int (c:Nat)],(flW p B,false))/\HS (k+10) st'/\zt0 m p B
theorem z24 {Ψ:Str->Fn} (hT:zhy (Ψ "_law_take")) (hS:zoi (Ψ "_law_sums")) (hB:zxp (Ψ "_law_base")):zy5 (zaj [true,false,false] 5 (zda Ψ)):=fun k st m c hs hk hm hc=>by
  have p6:=zgi hm;have pp:=Ez m;have pw:=pow1 (l:=m) (by omega);have om:=za0 m;have c1:∃st1 xs,zdo Ψ [some (st,true),some (.int (m:Nat),false),some (.int (c:Nat),false),none,none]=some ([some (st1,true),some (.int (m:Nat),false),some (.int (c:Nat),false),none,none],(.lst (zab xs),true))/\HS (k+c) st1/\∀x∈xs,x < 2 ^ m:=by
    unfold zdo;obtain ⟨ce',out,h,v0',v1',st',xs,rfl,rfl,g,xl⟩:=zf5 (cap:=[none,none,some 1,some 0]) (T:=.nm 1) (tc:=gYes) (te:=(zae [true,false] (Ψ "_law_take") (gCns (zaa 3) (gCns (gArg (gOp2 (oI cPow fun i j=>.int (i * 2 ^ j.toNat)) (gArg (gC (.int 1))) (zaa 2))) gA0)))) (fun i e dn=>∃v0 v1 st' xs,e=[v0,v1,some (.int (m:Nat),false),some (st',true)]/\dn=zab xs/\HS (k+i) st'/\∀x∈xs,x < 2 ^ m) (ztr (a:=zaa 2) (en:=[some (st,true),some (.int (m:Nat),false),some (.int (c:Nat),false),none,none]) (e1:=[some (st,true),some (.int (m:Nat),false),some (.int (c:Nat),false),none,none]) (n:=c) rfl (by omega)) rfl (by rw [zen,Fs];omega) ⟨_,_,st,[],rfl,rfl,hs,(fun _ h=>nomatch h)⟩ fun i w e dn hw hp=>by
      obtain⟨u0,u1,st',xs,rfl,rfl,g,xl⟩:=hp;obtain⟨li,rfl⟩:=zf3 hw;obtain⟨st2,x,e2,g2,x0,x1⟩:=hT (k+i) st' ((2 ^ m:Nat):Int) g #v[] #v[] #v[];obtain⟨x,rfl⟩:=Cp x0;refine⟨[u0,#v[(0+(i:Int)),0],#v[(m:Nat),0],#v[st',5]],rfl,.inl ⟨[u0,#v[(0+(i:Int)),0],#v[(m:Nat),0],#v[st',5]],[u0,#v[(0+(i:Int)),0],#v[(m:Nat),0],#v[st2,5]],(.int (x:Nat),false),rfl,?_,u0,#v[(0+(i:Int)),0],st2,xs++[x],rfl,by rw[ze9],g2.mono #v[],fun y hy=>?_⟩⟩
      · generalize W.int (0 + (i : Int)) = u
        simp! [pw,om,e2]
      · rcases Bd.mp hy with hy | hy
        · exact xl y hy
        · rw[Aj.mp hy];exact Int.ofNat_lt.mp x1
    rw[zen] at g;exact⟨st',xs,h,g,xl⟩
  obtain ⟨st1,xs,c1,g1,xl⟩:=c1;obtain ⟨S,e1,sp,sa,sc,sl⟩:=hS m xs (.lst (zab xs)) (.inl rfl) hm xl;obtain ⟨st2,f,e2,g2,f0,f1⟩:=hT (k+c) st1 ((2 ^ m:Nat):Int) g1 (by omega) (by omega) (by omega);obtain ⟨f,rfl⟩:=Cp f0;have fl:f < 2 ^ m:=Int.ofNat_lt.mp f1;have Sl:S.length<=64:=by
    have:=zgr (n:=m) (sp.nodup_iff.mpr sc.1) sl;omega
  obtain ⟨B,e3,b1,b2,b3,b4,b5,b6⟩:=hB m S hm Sl sl sa;have cl:∀a∈S,∀b∈S,a ^^^ b∈S:=fun a ha b hb=>sp.mem_iff.mpr (sc.2.2 a (sp.mem_iff.mp ha) b (sp.mem_iff.mp hb));have c2:zdx Ψ [some (st2,true),some (.int (m:Nat),false),some (.int (c:Nat),false),some (.lst (zab S),true),some (.int (f:Nat),false)]=some ([some (st2,true),some (.int (m:Nat),false),some (.int (c:Nat),false),some (.lst (zab S),false),some (.int (f:Nat),false)],(.lst (zab (S.map (f ^^^ ·))),true)):=by
    unfold zdx;refine zek (cap:=[none,none,some 4]) (xs:=[#v[(f:Nat),0]]) (e0:=[#v[st2,5],#v[(m:Nat),0],#v[(c:Nat),0],#v[(zab S),1],#v[(f:Nat),0]]) (ws:=zab S) (by simp! []) (by rw[zad];omega) (by rw[zad,zad,Ad]) rfl rfl rfl (fun _ _=>rfl) fun j u w r hw hr=>?_;obtain⟨o,ho,rfl⟩:=castL_get hw;obtain⟨q,hq,rfl⟩:=castL_get hr;rw[Au,ho] at hq;have hq:f ^^^ o=q:=sI hq;subst hq;have xn:=zch f o;refine⟨#v[(o:Nat),0],false,?_⟩;simp! [xn]
  have mn:∃p:Nat,oMin [.lst (zab (S.map (f ^^^ ·)))]=some (.int (p:Nat),false)/\p < 2 ^ m/\(∃s∈S,p=f ^^^ s)/\∀s∈S,p<=f ^^^ s:=by
    have ne:S≠[]:=fun z=>by have:=sp.mem_iff.mpr sc.2.1;rw[z] at this;exact nomatch this
    cases S with
    | nil=>exact absurd rfl ne
    | cons a S =>
      have e:oMin [.lst (zab ((a::S).map (f ^^^ ·)))]=some (.int (mn1 ((f ^^^ a:Nat):Int) ((S.map (f ^^^ ·)).map fun p:Nat=>(p:Int))),false):=by
        rw[zay];show (zbp ((((a::S).map (f ^^^ ·)).map fun p:Nat=>(p:Int)).map W.int)).bind _=_;rw[za1];rfl
      have each:∀s∈a::S,f ^^^ s < 2 ^ m:=fun s hs=>Cc fl (sl s hs);have lo:=z5q ((S.map (f ^^^ ·)).map fun p:Nat=>(p:Int)) ((f ^^^ a:Nat):Int);have lo' : ∀s∈a::S,mn1 ((f ^^^ a:Nat):Int) ((S.map (f ^^^ ·)).map fun p:Nat=>(p:Int))<=((f ^^^ s:Nat):Int):=fun s hs=>by
        rcases Ax.mp hs with rfl | hs
        · exact lo.1
        · exact lo.2 _ (Ay.mpr ⟨_,Ay.mpr ⟨s,hs,rfl⟩,rfl⟩)
      rcases z50 ((S.map (f ^^^ ·)).map fun p:Nat=>(p:Int)) ((f ^^^ a:Nat):Int) with h | h
      · exact⟨f ^^^ a,by rw[e,h],each a Aq,⟨a,Aq,rfl⟩,fun s hs=>by have:=lo' s hs;rw[h] at this;exact Int.ofNat_le.mp this⟩
      · obtain ⟨q, hq, e2⟩ := Ay.mp h
        obtain⟨s,hs,rfl⟩:=Ay.mp hq;exact⟨f ^^^ s,by rw[e,<-e2],each s (Ar _ hs),⟨s,Ar _ hs,rfl⟩,fun s' hs'=>by have:=lo' s' hs';rw[<-e2] at this;exact Int.ofNat_le.mp this⟩
  obtain⟨p,mn,pl,⟨s0,hs0,ep⟩,pm⟩:=mn;refine⟨st2,p,B,?_,g2.mono #v[],pl,fun b hb=>(b1 b hb).2,zok cl b5 (fun b hb=>(b1 b hb).1) b2 b6,b4,fun b hb=>?_⟩
  rotate_left
  · cases h : p.testBit (tp b) with
    | false=>rfl
    | true =>
      have c1:=zfk (b1 b hb).1 h;have c2:=pm _ (cl s0 hs0 b (b5 b hb));rw[ep,Bp] at c1;omega
  unfold zda flW;refine za2 (en:=[#v[st2,5],#v[(m:Nat),0],#v[(c:Nat),0],#v[(zab S),1],#v[(f:Nat),0]]) rfl (zah (e1:=[#v[st1,5],#v[(m:Nat),0],#v[(c:Nat),0],#v[(zab S),2],none]) (by simp! [c1,e1]) (zah (e1:=[#v[st2,5],#v[(m:Nat),0],#v[(c:Nat),0],#v[(zab S),2],#v[(f:Nat),0]]) (by simp! [pw,om,e2]) (by simp! [c2,mn,e3]))) rfl
noncomputable def zsa (m p:Nat) (B:List Nat):Prop:=p < 2 ^ m/\(∀b∈B,b≠0/\b < 2 ^ m)/\(B.map tp).Nodup/\B.length<=64
noncomputable def plcs (p:Nat) (B:List Nat):List Nat:=(smX B).map (p ^^^ ·)
noncomputable def IsPl (m p:Nat) (B P:List Nat):Prop:=P.Perm (plcs p B)/\P.Pairwise (· < ·)/\(∀q∈P,q < 2 ^ m)
noncomputable def zpk (Φ:Fn):Prop:=∀(m p:Nat) (B:List Nat),m<=6->zsa m p B->∃P,Φ [flW p B]=some ([flW p B],(.lst (zab P),true))/\IsPl m p B P
theorem zrz {Ψ:Str->Fn}(hS:zoi (Ψ "_law_sums")):zpk (zaj [false] 1 (G__law_places Ψ)):=fun m p B hm hg=>by
 have p6:=zgi hm;obtain⟨S,e1,sp,sa,sc,sl⟩:=hS m B (.tup (zab B)) (.inr rfl) hm fun x hx=>(hg.2.1 x hx).2;have Sl:S.length<=64:=by
  have:=zgr (n:=m) (sp.nodup_iff.mpr sc.1) sl;omega
 have sq:seqW (flW p B)=some [.int (p:Nat),.tup (zab B)]:=rfl;have a0:atI [W.int (p:Nat),.tup (zab B)] 0=some (.int (p:Nat)):=rfl;have a1:atI [W.int (p:Nat),.tup (zab B)] 1=some (.tup (zab B)):=rfl;have c1:zcg Ψ [#v[flW p B,6]]=some ([#v[flW p B,6]],(.lst (zab (S.map (p ^^^ ·))),true)):=by
  unfold zcg;refine zek (cap:=[none,none,some 0]) (xs:=[#v[flW p B,6]]) (e0:=[#v[flW p B,6]]) (ws:=zab S) (by simp! [sq,a1,e1]) (by rw[zad];omega) (by rw[zad,zad,Ad]) rfl rfl rfl (fun _ _=>rfl) fun j u w r hw hr=>?_;obtain⟨o,ho,rfl⟩:=castL_get hw;obtain⟨q,hq,rfl⟩:=castL_get hr;rw[Au,ho] at hq;have hq:p ^^^ o=q:=sI hq;subst hq;have xn:=zch p o;refine⟨#v[(o:Nat),0],false,?_⟩;simp! [sq,a0,xn]
 have nd:(S.map (p ^^^ ·)).Nodup:=zdk (sp.nodup_iff.mpr sc.1) p;obtain⟨P,pp,pa⟩:=zh4 nd;have so:zcc [.lst (zab (S.map (p ^^^ ·)))]=#v[(zab P),2]:=by
  rw[zay];show (zbp (((S.map (p ^^^ ·)).map fun b:Nat=>(b:Int)).map W.int)).bind _=_;rw[za1];show some (W.lst ((zbg ((S.map (p ^^^ ·)).map fun b:Nat=>(b:Int))).map W.int),true)=_;rw[zd3 pp pa,<-zay]
 refine⟨P,?_,pp.trans (sp.map _),pa,fun q hq=>?_⟩
 ·unfold G__law_places;simp! [c1,so]
 ·obtain⟨s, hs, rfl⟩ := Ay.mp (pp.mem_iff.mp hq);exact Cc hg.1 (sl s hs)
noncomputable def zzq (Φ:Fn):Prop:=∀(m p:Nat) (B P:List Nat),m<=6->zsa m p B->IsPl m p B P->Φ [flW p B]=some ([flW p B],(.tup (zab P),false))
theorem zu6 {Ψ:Str->Fn}(hX:XorN (Ψ "plus")):zzq (zaj [false] 5 (zbu Ψ)):=fun m p B P hm hg hP=>by
 have p6:=zgi hm;have s9:(1000:Nat)<=sizeLine:=by decide
 have pl:P.length<=64:=by
  have:=zgr (n:=m) (hP.2.1.imp fun h=>At h) hP.2.2;omega
 have tl:(B.foldl flF [p]).length<=64/\B.foldl flF [p]=plcs p B:=by
  have:=(z48 (p:=p) (fun b hb=>(hg.2.1 b hb).1) hg.2.2.1 B.length (Ae _)).1;rw[Cg] at this;refine⟨?_,this⟩;rw[this,show ((B.foldl smF [0]).map (p ^^^ ·)).length=P.length from hP.1.length_eq.symm];exact pl
 have grow:∀(C:List Nat) (T:List Nat),T.length<=(C.foldl flF T).length:=fun C=>by
  induction C with
  | nil=>exact fun T=>Ae _
  | cons b C ih=>exact fun T=>Cq (by unfold flF;rw[Ba];omega) (ih (flF T b))
 have l2:∃w4,zcb Ψ [#v[flW p B,6],#v[(p:Nat),0],#v[(zab B),3],#v[(zab [p]),2],none]=some ([#v[flW p B,6],#v[(p:Nat),0],#v[(zab B),3],#v[(zab (B.foldl flF [p])),2],w4],.nx):=by
  unfold zcb;obtain⟨en',h,w4,rfl⟩:=zbi (mp:=[]) (T:=.nm 4) (it:=zas (gVar 2)) (body:=zcd Ψ) (fun i e=>∃w4,e=[#v[flW p B,6],#v[(p:Nat),0],#v[(zab B),3],#v[(zab ((B.take i).foldl flF [p])),2],w4]) (en:=[#v[flW p B,6],#v[(p:Nat),0],#v[(zab B),3],#v[(zab [p]),2],none]) (e0:=[#v[flW p B,6],#v[(p:Nat),0],#v[(zab B),3],#v[(zab [p]),2],none]) (ws:=zab B) (by simp! []) ⟨none,rfl⟩ fun i w e hw hp=>by
   obtain⟨w4,rfl⟩:=hp;obtain⟨b,hb,rfl⟩:=castL_get hw;have li:=(Am.mp hb).1;have tk:(B.take (i+1)).foldl flF [p]=flF ((B.take i).foldl flF [p]) b:=by rw[De,hb];show (B.take i++[b]).foldl flF [p]=_;rw[Dg];rfl
   have ll:(flF ((B.take i).foldl flF [p]) b).length<=64:=by
    rw[<-tk];have:=grow (B.drop (i+1)) ((B.take (i+1)).foldl flF [p]);rw[<-Dg,Bl] at this;omega
   rw[tk];generalize (B.take i).foldl flF [p]=T at *
   have tl2:T.length+T.length<=64:=by unfold flF at ll;rw[Ba,Ad] at ll;exact ll
   have c1:zcf Ψ [#v[flW p B,6],#v[(p:Nat),0],#v[(zab B),3],#v[(zab T),2],#v[(b:Nat),0]]=some ([#v[flW p B,6],#v[(p:Nat),0],#v[(zab B),3],#v[(zab T),1],#v[(b:Nat),0]],(.lst (zab (T.map (· ^^^ b))),true)):=by
    unfold zcf;refine zek (cap:=[none,none,some 4]) (xs:=[#v[(b:Nat),0]]) (e0:=[#v[flW p B,6],#v[(p:Nat),0],#v[(zab B),3],#v[(zab T),1],#v[(b:Nat),0]]) (ws:=zab T) (by simp! []) (by rw[zad];omega) (by rw[zad,zad,Ad]) rfl rfl rfl (fun _ _=>rfl) fun j u w r hw hr=>?_;obtain⟨o,ho,rfl⟩:=castL_get hw;obtain⟨q,hq,rfl⟩:=castL_get hr;rw[Au,ho] at hq;have hq:o ^^^ b=q:=sI hq;subst hq;have xn:=hX o b;refine⟨#v[(o:Nat),0],false,?_⟩;simp! [xn]
   have ad:oAdd (.lst (zab T)) (.lst (zab (T.map (· ^^^ b))))=#v[(zab (flF T b)),2]:=by
    rw[zne (by rw[zad,zad,Ad];omega)];unfold flF zab;rw[Bq]
   refine⟨[#v[flW p B,6],#v[(p:Nat),0],#v[(zab B),3],#v[(zab T),2],#v[(b:Nat),0]],[#v[flW p B,6],#v[(p:Nat),0],#v[(zab B),3],#v[(zab (flF T b)),2],#v[(b:Nat),0]],rfl,.inl ?_,_,rfl⟩;unfold zcd;simp! [c1,ad]
  rw[zad,Cg] at h;exact⟨_,h⟩
 obtain⟨w4,l2⟩:=l2;have so:zcc [.lst (zab (B.foldl flF [p]))]=#v[(zab P),2]:=by
  rw[zay];show (zbp (((B.foldl flF [p]).map fun b:Nat=>(b:Int)).map W.int)).bind _=_;rw[za1];show some (W.lst ((zbg ((B.foldl flF [p]).map fun b:Nat=>(b:Int))).map W.int),true)=_;rw[zd3 (by rw[tl.2];exact hP.1) hP.2.1,<-zay]
 have ot:zdt [.lst (zab P)]=#v[(zab P),3]:=rfl;unfold zbu;refine za2 (en:=[#v[flW p B,6],#v[(p:Nat),0],#v[(zab B),3],#v[(zab (B.foldl flF [p])),2],w4]) rfl (zah (e1:=[#v[flW p B,6],#v[(p:Nat),0],#v[(zab B),3],none,none]) rfl (zah (e1:=[#v[flW p B,6],#v[(p:Nat),0],#v[(zab B),3],#v[(zab [p]),2],none]) (by simp! [];rfl) (zah l2 (by simp! [so,ot])))) rfl
noncomputable def zy8 (Φ:Fn):Prop:=∀(m p:Nat) (B P:List Nat),m<=6->zsa m p B->IsPl m p B P->Φ [flW p B]=some ([flW p B],(.int (sumP P:Nat),false))
theorem pl_nodup {P:List Nat}(h:P.Pairwise (· < ·)):P.Nodup:=h.imp fun h=>At h
theorem zvd {Ψ:Str->Fn}(hA:zp6 (Ψ "word_at"))(hF:zzq (Ψ "flat_places")):zy8 (zaj [false] 1 (zcy Ψ)):=fun m p B P hm hg hP=>by
 have e1:=hF m p B P hm hg hP;have e2:=hA (2 ^ m) P (zgi hm) hP.2.2;rw[zkk (pl_nodup hP.2.1) hP.2.2] at e2;unfold zcy;simp! [e1,e2]
theorem zr9 (a b:Nat):Builtin.bitOr (a:Int) (b:Int)=((a ||| b:Nat):Int):=by
 have e:∀x:Int,Builtin.bitNot (Builtin.bitNot x)=x:=fun x=>by unfold Builtin.bitNot;omega
 have n:∀x:Nat,decide (0<=Builtin.bitNot (x:Int))=false:=fun x=>Av (by unfold Builtin.bitNot;omega);unfold Builtin.bitOr Builtin.bitAnd;rw[n a,n b];show Builtin.bitNot (Builtin.bitNot ((((Builtin.bitNot (Builtin.bitNot (a:Int))).toNat ||| (Builtin.bitNot (Builtin.bitNot (b:Int))).toNat:Nat)):Int))=_;rw[e,e,e,Ch,Ch]
theorem z6x {B:List Nat}(h:RB B):(B.map tp).Nodup:=by
 rw[Bi,By];exact h.2.imp_of_mem fun {a b} ha hb q e=>by
  rw[<-e,zbo (h.1 a ha)] at q;exact Ah q.1.symm
theorem z3m {B C:List Nat}(h:RB B)(p:C.Perm B):RB C:=⟨fun b hb=>h.1 b (p.mem_iff.mp hb),(p.pairwise_iff fun h=>⟨h.2,h.1⟩).mpr h.2⟩
theorem zt0.good {m p:Nat}{B:List Nat}(hm:m<=6)(h:zt0 m p B):zsa m p B:=⟨h.1,fun b hb=>⟨h.2.2.1.1 b hb,h.2.1 b hb⟩,z6x h.2.2.1,by have:=h.len hm;omega⟩
theorem z1m {S:List Nat}{x v:Nat}:SpN (S++[x]) v↔SpN S v\/SpN S (x ^^^ v):=by
  constructor
  · intro h
    induction h with
    | zero=>exact .inl .zero
    | @add u b _ hb ih =>
      rcases Bd.mp hb with hb | hb
      · rcases ih with ih | ih
        · exact .inl (ih.add hb)
        · refine .inr ?_
          rw[<-Bp];exact ih.add hb
      · rw [Aj.mp hb]
        rcases ih with ih | ih
        · refine .inr ?_
          rw[Et u x,zam];exact ih
        · exact .inl (by rw[Et u x];exact ih)
  · intro h
    have up:∀{w},SpN S w->SpN (S++[x]) w:=fun h=>h.go fun b hb=>.one (Bk _ hb);rcases h with h | h
    · exact up h
    · have := (SpN.one (S := S ++ [x]) (Bc _ (Aj.mpr rfl))).xor (up h)
      rw[zam] at this;exact this
theorem z1p {L:List Nat}(cl:∀a∈L,∀b∈L,a ^^^ b∈L){x v:Nat}:v∈smF L x↔v∈L\/x ^^^ v∈L:=by
 unfold smF;by_cases hx:x∈L
 ·rw[if_pos hx];refine⟨.inl,fun h=>h.elim id fun h=>?_⟩;have:=cl x hx _ h;rw[zam] at this;exact this
 ·rw[if_neg hx, Bd];refine or_congr Iff.rfl ⟨fun h=>?_,fun h=>Ay.mpr ⟨_,h,zam x v⟩⟩;obtain⟨l,hl,rfl⟩:=Ay.mp h;show x ^^^ (x ^^^ l)∈L;rw[zam];exact hl
theorem zza:∀(xs S L:List Nat),(∀v,v∈L↔SpN S v)->∀v,v∈xs.foldl smF L↔SpN (S++xs) v
  | [],S,L,h,v=>by rw[Br];exact h v
  | x::xs,S,L,h,v=>by
    have cl:∀a∈L,∀b∈L,a ^^^ b∈L:=fun a ha b hb=>(h _).mpr (((h a).mp ha).xor ((h b).mp hb));have:=zza xs (S++[x]) (smF L x) (fun w=>by rw[z1p cl,z1m,h,h]) v;rw[Az] at this;exact this
theorem z3k {xs:List Nat}(v:Nat):v∈smX xs↔SpN xs v:=zza xs [] [0] (fun v=>by
 rw[Aj];refine⟨fun h=>by rw[h];exact .zero,fun h=>?_⟩;cases h with
 | zero=>rfl
 | add _ hb=>exact nomatch hb) v
theorem zoe {P Q:List Nat}(hp:P.Pairwise (· < ·))(hq:Q.Pairwise (· < ·))(h:∀x,x∈P↔x∈Q):P=Q:=by
 have np:P.Nodup:=hp.imp fun h=>At h;have nq:Q.Nodup:=hq.imp fun h=>At h;have pm:P.Perm Q:=by
  rw[List.perm_iff_count];intro a;rw[np.count,nq.count];by_cases c:a∈P
  ·rw[if_pos c,if_pos ((h a).mp c)]
  ·rw[if_neg c,if_neg fun z=>c ((h a).mpr z)]
 exact List.Perm.eq_of_pairwise (le:=(· < ·)) (fun a b _ _ h1 h2=>by omega) hp hq pm
theorem z1w {P Q:List Nat}(hp:P.Pairwise (· < ·))(hq:Q.Pairwise (· < ·))(h:sumP P=sumP Q):P=Q:=zoe hp hq fun x=>by
 have a:=zdb (hp.imp fun h=>At h) x;have b:=zdb (hq.imp fun h=>At h) x;rw[h,b] at a;exact⟨fun z=>An (a.trans (Ag z)),fun z=>An (a.symm.trans (Ag z))⟩
theorem zit (n:Nat)(f:Nat->Bool):((List.range n).filter f).Pairwise (· < ·):=List.pairwise_lt_range.sublist List.filter_sublist
theorem z0d {n w:Nat} (h:w < 2 ^ n):∃P:List Nat,P.Pairwise (· < ·)/\(∀p∈P,p < n)/\w=sumP P:=by
  refine⟨(List.range n).filter fun i=>w.testBit i,zit n _,fun p hp=>Bt.mp (Cv.mp hp).1,Nat.eq_of_testBit_eq fun i=>?_⟩;rw[zdb ((zit n _).imp fun h=>At h)];cases q:w.testBit i with
  | false=>exact (Av fun z=>by rw[(Cv.mp z).2] at q;cases q).symm
  | true =>
    refine (Ag (Cv.mpr ⟨Bt.mpr ?_,q⟩)).symm;rcases Nat.lt_or_ge i n with l | l
    · exact l
    · rw[Nat.testBit_lt_two_pow (Be h (Dt #v[0,9] l))] at q;cases q
theorem z2u {n:Nat}{P:List Nat}(ha:P.Pairwise (· < ·))(hl:∀p∈P,p < n):dueL (fun i=>if i∈P then 1 else 0) n=P:=zoe (zit n _) ha fun x=>by
 unfold dueL;rw[Cv,Bt];constructor
 ·intro h;have:(if x∈P then (1:Int) else 0)=1:=An h.2;split at this
  ·assumption
  ·exact nomatch this
 ·intro h;exact⟨hl x h,Ag (if_pos h)⟩
noncomputable def movs (P:List Nat):List Nat:=P.map (P.headD 0 ^^^ ·)
noncomputable def Cl (M:List Nat):Prop:=∀a∈M,∀b∈M,a ^^^ b∈M
noncomputable def Due (P:List Nat) (r:W):Prop:=(P=[]/\r=.non)\/(P≠[]/\((Cl (movs P)/\∃D,r=flW (P.headD 0) D/\RB D/\D.Pairwise (· < ·)/\zbc D (movs P))\/(¬ Cl (movs P)/\r=.non)))
theorem z2d {P:List Nat}{r r' : W}(h:Due P r)(h' : Due P r'):r=r':=by
 rcases h with ⟨e,h⟩ | ⟨e,h⟩
 ·rcases h' with ⟨_, h'⟩ | ⟨e', _⟩
  ·rw[h,h']
  ·exact absurd e e'
 ·rcases h' with ⟨e', _⟩ | ⟨_, h'⟩
  ·exact absurd e' e
  ·rcases h with ⟨c, D, h, h1, h2, h3⟩ | ⟨c, h⟩
   ·rcases h' with ⟨_, D', h', h4, h5, h6⟩ | ⟨c', _⟩
    ·have e1 := base_sorted h1 h2 h3;have e2:=base_sorted h4 h5 h6;rw[e1] at e2;have:D=D':=List.map_inj_right (fun a b z=>Int.ofNat.inj z) |>.mp e2;rw[h,h',this]
    ·exact absurd c c'
   ·rcases h' with ⟨c', _⟩ | ⟨_, h'⟩
    ·exact absurd c' c
    ·rw[h,h']
theorem z5j {M:List Nat}(h0:0∈M):Cl M↔∀v,SpN M v->v∈M:=by
 constructor
 ·intro h v hv
  induction hv with
  | zero=>exact h0
  | add _ hb ih=>exact h _ ih _ hb
 ·exact fun h a ha b hb=>h _ ((SpN.one ha).xor (.one hb))
theorem zi1 {P:List Nat}(h:P≠[]):0∈movs P:=by
 cases P with
 | nil=>exact absurd rfl h
 | cons p P=>exact Ay.mpr ⟨p,Aq,Ef p⟩
theorem zn6 {P:List Nat}{v:Nat}:v∈movs P↔P.headD 0 ^^^ v∈P:=by
 unfold movs;constructor
 ·intro h;obtain⟨p,hp,rfl⟩:=Ay.mp h;show P.headD 0 ^^^ (P.headD 0 ^^^ p)∈P;rw[zam];exact hp
 ·exact fun h=>Ay.mpr ⟨_,h,zam _ _⟩
theorem zf4 {P:List Nat}(h:P≠[]):P.headD 0∈P:=by
 cases P with
 | nil=>exact absurd rfl h
 | cons p P=>exact Aq
theorem mov_lt {n:Nat}{P:List Nat}(hl:∀p∈P,p < 2 ^ n):∀v∈movs P,v < 2 ^ n:=fun v hv=>by
 obtain⟨p,hp,rfl⟩:=Ay.mp hv;refine Cc ?_ (hl p hp);exact hl _ (zf4 fun z=>by rw[z] at hp;exact nomatch hp)
theorem zth {P:List Nat}(h:P.Pairwise (· < ·)):(movs P).Nodup:=zdk (h.imp fun h=>At h) _
theorem z7b {m:Nat}{P Q D:List Nat}(hP:P≠[])(ha:P.Pairwise (· < ·))(hs:zbc D (movs P))(hQ:IsPl m (P.headD 0) D Q):sumP Q=sumP P↔Cl (movs P):=by
 have mq:∀x,x∈Q↔SpN (movs P) (P.headD 0 ^^^ x):=fun x=>by
  rw[hQ.1.mem_iff];unfold plcs;constructor
  ·intro h;obtain⟨l,hl,rfl⟩:=Ay.mp h;show SpN _ (P.headD 0 ^^^ (P.headD 0 ^^^ l));rw[zam];exact ((z3k l).mp hl).go hs.1
  ·exact fun h=>Ay.mpr ⟨_,(z3k _).mpr (h.go hs.2),zam _ _⟩
 constructor
 ·intro h;have e:=z1w hQ.2.1 ha h;refine (z5j (zi1 hP)).mpr fun v hv=>zn6.mpr ?_;rw[<-e,mq,e,zam];exact hv
 ·intro h;rw[zoe hQ.2.1 ha fun x=>?_];rw[mq];refine⟨fun z=>?_,fun z=>.one (zn6.mpr (by rw[zam];exact z))⟩;have:=zn6.mp ((z5j (zi1 hP)).mp h _ z);rw[zam] at this;exact this
noncomputable def zh2 (Φ:Fn):Prop:=∀(m:Nat) (P:List Nat),m<=6->P.Pairwise (· < ·)->(∀p∈P,p < 2 ^ m)->∃r,Φ [.int (m:Nat),.int (sumP P:Nat)]=some ([.int (m:Nat),.int (sumP P:Nat)],(r,false))/\Due P r
theorem zow:∀(xs L:List Nat),Clo L->Clo (xs.foldl smF L)
 | [],_,h=>h
 | x::xs,L,h=>zow xs _ (zme h x)
theorem z25 (xs:List Nat):Clo (smX xs):=zow xs [0] ⟨by decide,Aj.mpr rfl,fun a ha b hb=>by rw[Aj.mp ha,Aj.mp hb];decide⟩
theorem sum_nz {P:List Nat}(ha:P.Pairwise (· < ·))(h:P≠[]):sumP P≠0:=fun z=>by
 have:=zdb (ha.imp fun h=>At h) (P.headD 0);rw[z,Ag (zf4 h),Cf] at this;cases this
theorem zis {P:List Nat}(h:P≠[]):atI (zab P) 0=some (.int (P.headD 0:Nat)):=by
 cases P with
 | nil=>exact absurd rfl h
 | cons p P=>exact zdc (i:=0) rfl
theorem len64 {m:Nat}{P:List Nat}(hm:m<=6)(ha:P.Nodup)(hl:∀p∈P,p < 2 ^ m):P.length<=64:=by
 have:=zgr ha hl;have:=zgi hm;omega
theorem zje (P:List Nat):(movs P).length=P.length:=by unfold movs;rw[Ad]
theorem z9a {Ψ:Str->Fn}(hX:XorN (Ψ "plus")){P:List Nat}{v0 v1 v3 v4:Option (W × Bool)}(hP:P≠[])(hl:P.length<=64):zfm Ψ [v0,v1,#v[(zab P),3],v3,v4]=some ([v0,v1,#v[(zab P),3],v3,v4],(.lst (zab (movs P)),true)):=by
 have a0:=zis hP;unfold zfm;refine zek (cap:=[none,none,some 2]) (xs:=[#v[(zab P),3]]) (e0:=[v0,v1,#v[(zab P),3],v3,v4]) (ws:=zab P) rfl (by rw[zad];omega) (by rw[zad,zad,zje]) rfl rfl rfl (fun _ _=>rfl) fun j u w r hw hr=>?_;obtain⟨p,hp,rfl⟩:=castL_get hw;obtain⟨q,hq,rfl⟩:=castL_get hr;unfold movs at hq;rw[Au,hp] at hq;have hq:P.headD 0 ^^^ p=q:=sI hq;subst hq;have x:=hX (P.headD 0) p;generalize P.headD 0=h at *
 refine⟨#v[(p:Nat),0],false,?_⟩;simp! [a0,x]
theorem zr8 {Ψ:Str->Fn}(hW:zue (Ψ "where"))(hB:z4n (Ψ "base_of"))(hX:XorN (Ψ "plus"))(hF:zy8 (Ψ "flat_word")):zh2 (zaj [false,false] 5 (zcr Ψ)):=fun m P hm ha hl=>by
 have p6:=zgi hm;have nd:P.Nodup:=ha.imp fun h=>At h;by_cases hP:P=[]
 ·subst hP;refine⟨.non,?_,.inl ⟨rfl,rfl⟩⟩;unfold zcr;have z:((sumP []:Nat):Int)=0:=rfl;rw[z];simp! []
 ·have nz := sum_nz ha hP;have l64:=len64 hm nd hl;have w1:=hW (2 ^ m) (fun i=>if i∈P then 1 else 0) (fun i=>by show Bit (if i∈P then 1 else 0);split;exact .inr rfl;exact .inl rfl) (fun i hi=>if_neg fun z=>by have:=hl i z;omega) (by omega);rw [zkk nd hl,z2u ha hl] at w1;have c1:=fun v0 v1 v3 v4=>z9a (Ψ:=Ψ) (v0:=v0) (v1:=v1) (v3:=v3) (v4:=v4) hX hP l64;have b1:=hB (movs P) _ (.inl rfl) (by rw [zje];omega);obtain ⟨hr,hs⟩:=z2g (movs P);obtain ⟨D,pd,ad⟩:=zh4 hr.nodup;rw [zd3 pd ad,<-zay] at b1;have rD:RB D:=z3m hr pd;have sD:zbc D (movs P):=(zbc.mem fun x=>pd.mem_iff).trans hs;have lD:∀b∈D,b < 2 ^ m:=fun b hb=>sp_lt (mov_lt hl) (sD.1 b hb);have gd:zsa m (P.headD 0) D:=⟨hl _ (zf4 hP),fun b hb=>⟨rD.1 b hb,lD b hb⟩,z6x rD,len64 hm rD.nodup lD⟩;obtain ⟨Q,pq,aq⟩:=zh4 (zdk (z25 D).1 (P.headD 0));have iq:IsPl m (P.headD 0) D Q:=⟨pq,aq,fun q hq=>by
   obtain⟨l,hl',rfl⟩:=Ay.mp (pq.mem_iff.mp hq);exact Cc gd.1 (sp_lt lD ((z3k l).mp hl'))⟩
  have f1:=hF m (P.headD 0) D Q hm gd iq;have pi:=z7b hP ha sD iq;have a0:=zis hP;have z0:oEq (.int (sumP P:Nat)) (.int 0)=some (.bl false,false):=by
   show #v[W.bl (decide (((sumP P:Nat):Int)=0)),6]=_;rw[Av #v[]]
  have td:W.tup [.int (P.headD 0:Nat),.tup (zab D)]=flW (P.headD 0) D:=rfl;generalize hh:P.headD 0=h at *
  generalize hw:sumP P=w at *
  generalize sumP Q=u at *
  generalize hM:movs P=M at *
  have steps:∀r,gRet (gIf (zan (gOp2 oEq (gArg (zae [false] (Ψ "flat_word") (gCns #v[4,4] gA0))) (zaa 1))) (gVar 4) (gC .non)) [#v[(m:Nat),0],#v[(w:Nat),0],#v[(zab P),3],#v[(zab D),3],#v[flW h D,6]]=some ([#v[(m:Nat),0],#v[(w:Nat),0],#v[(zab P),3],#v[(zab D),3],#v[flW h D,6]],.ret (r,false))->zaj [false,false] 5 (zcr Ψ) [.int (m:Nat),.int (w:Nat)]=some ([.int (m:Nat),.int (w:Nat)],(r,false)):=fun r hr'=>by
   unfold zcr;refine za2 (en:=[#v[(m:Nat),0],#v[(w:Nat),0],#v[(zab P),3],#v[(zab D),3],#v[flW h D,6]]) rfl (zah (e1:=[#v[(m:Nat),0],#v[(w:Nat),0],none,none,none]) ?_ (zah (e1:=[#v[(m:Nat),0],#v[(w:Nat),0],#v[(zab P),3],none,none]) ?_ (zah (e1:=[#v[(m:Nat),0],#v[(w:Nat),0],#v[(zab P),3],#v[(zab D),3],none]) ?_ (zah (e1:=[#v[(m:Nat),0],#v[(w:Nat),0],#v[(zab P),3],#v[(zab D),3],#v[flW h D,6]]) ?_ hr')))) rfl
   ·simp! [z0]
   ·simp! [w1]
   ·simp! [c1,b1]
   ·rw[<- td];simp! [a0]
  by_cases c:Cl M
  ·have e := pi.mpr c;subst e;have q1:oEq (.int (u:Nat)) (.int (u:Nat))=some (.bl true,false):=by
    show #v[W.bl (decide (((u:Nat):Int)=(u:Nat))),6]=_;rw[Ag rfl]
   refine⟨flW h D,steps _ ?_,.inr ⟨hP,.inl ⟨by rw[hM];exact c,D,?_,rD,ad,by rw[hM];exact sD⟩⟩⟩
   ·generalize flW h D = t at *
    simp! [f1,q1]
   ·rw[hh]
  ·have e : ¬ u = w := fun z => c (pi.mp z);have q1:oEq (.int (u:Nat)) (.int (w:Nat))=some (.bl false,false):=by
    show #v[W.bl (decide (((u:Nat):Int)=(w:Nat))),6]=_;rw[Av #v[]]
   refine⟨.non,steps _ ?_,.inr ⟨hP,.inr ⟨by rw[hM];exact c,rfl⟩⟩⟩;generalize flW h D=t at *
   simp! [f1,q1]
noncomputable def ZW (M:List Nat):W:=.dcz (M.map dkN) (M.map fun _=>.bl true)
theorem in_z (x:Nat){M:List Nat}(hM:M≠[]):oInD false (.int (x:Nat)) (ZW M)=some (.bl (decide (x∈M)),false):=by
 have v:=zm9 dkN_inj (fun _=>W.bl true) x M;have em:(M.map dkN).isEmpty=false:=by cases M with
  | nil=>exact absurd rfl hM
  | cons _ _=>rfl
 show (match valW ((M.map dkN).zip (M.map fun _=>W.bl true)) (dkN x) with
  | some _=>#v[W.bl (!false),6]
  | none=>if zcj (dkN x) (M.map dkN) && !(M.map dkN).isEmpty then #v[W.bl false,6] else none)=_
 rw[v];by_cases h:x∈M
 ·rw[if_pos h,Ag h];rfl
 ·rw[if_neg h, Av h];show (if zcj (dkN x) (M.map dkN) && !(M.map dkN).isEmpty then #v[W.bl false,6] else none)=_;rw[zio,em];rfl
theorem z4d {M S:List Nat}(hM:M≠[])(hp:S.Perm M)(ha:S.Pairwise (· < ·)):zfu [ZW M]=#v[(zab S),2]:=by
 have e:zbp (M.map fun p:Nat=>W.int (p:Int))=some (M.map fun p:Nat=>(p:Int)):=by
  have:=za1 (M.map fun p:Nat=>(p:Int));rw[Ca] at this;exact this
 have em:(M.map dkN).isEmpty=false:=by cases M with
  | nil=>exact absurd rfl hM
  | cons _ _=>rfl
 unfold zfu ZW;simp only [zjs,Db,e,em,zd3 hp ha];rw[if_neg Ah,<-zay]
theorem z1a {g:GE}{en e1:En}{us:List W}{fl:Bool}{ps:List (Key × W)}(h:g en=some (e1,(.lst us,fl)))(h2:ze0 us=some ps)(hz:ps.length<=sizeLine):zid g en=some (e1,(.dct (updW ps [] []).1 (updW ps [] []).2,true)):=by
 unfold zid;rw[h];show (ze0 us).bind _=_;rw[h2];show (if ps.length<=sizeLine then _ else none)=_;rw[if_pos hz]
theorem zxv {mp:List Nat}{T:Tg}{it:GL}{body:GS} (r:W × Bool) (P:En->Prop) (c:W->Bool) {en e0:En}{ws:List W} (hi:it en=some (e0,ws)) (h0:P e0) (hs:∀w e,w∈ws->P e->∃e1 e2,tgSet mp T w e=some e1/\P e2/\body e1=some (e2,if c w then .nx else .ret r)) :
    ∃en',P en'/\gFor mp T it body en=some (en',if ws.all c then .nx else .ret r):=by
  have go:∀(us:List W) (e:En),(∀w∈us,w∈ws)->P e->∃en',P en'/\zf0 mp T body us e=some (en',if us.all c then .nx else .ret r):=by
    intro us
    induction us with
    | nil=>intro e _ p;exact⟨e,p,rfl⟩
    | cons w us ih =>
      intro e hm p;obtain ⟨e1,e2,h1,p2,h2⟩:=hs w e (hm w Aq) p;have sh:zf0 mp T body (w::us) e=(match body e1 with | some (e2,.nx)=>zf0 mp T body us e2 | some (e2,.cnt)=>zf0 mp T body us e2 | some (e2,.brk)=>some (e2,.nx) | some (e2,.ret r)=>some (e2,.ret r) | none=>none):=by
        show (tgSet mp T w e).bind _=_;rw[h1];rfl
      rw[sh,h2,Bf];cases hc:c w with
      | true =>
        obtain⟨en',p',h'⟩:=ih e2 (fun x hx=>hm x (Ar _ hx)) p2;exact⟨en',p',h'⟩
      | false=>exact⟨e2,p2,rfl⟩
  obtain⟨en',p,h⟩:=go ws e0 (fun _ h=>h) h0;refine⟨en',p,?_⟩;unfold gFor;rw[hi];exact h
theorem z5b {M B:List Nat} (cl:Cl M) (nz:∀b∈B,b≠0) (sub:∀b∈B,b∈M) (h:∀s∈M,s≠0->∃b∈B,tp b=tp s/\b<=s):∀s∈M,SpN B s:=fun s=>by
  induction s using Nat.strongRecOn with
  | _ s ih =>
    intro hs;by_cases z:s=0
    · rw[z];exact .zero
    · obtain ⟨b, hb, ht, _⟩ := h s hs z
      have bt:s.testBit (tp b)=true:=by rw[ht];exact zbo z
      have:=(ih (s ^^^ b) (zfk (nz b hb) bt) (cl s hs b (sub b hb))).add hb;rw[Bp,Ef,Ce] at this;exact this
theorem z9p {Ψ:Str->Fn}{m:Nat}{P:List Nat}{v2 v3 v4:Option (W × Bool)}(hm:m<=6)(ha:P.Pairwise (· < ·))(hl:∀p∈P,p < 2 ^ m):zb4 Ψ [#v[(m:Nat),0],#v[(sumP P:Nat),0],v2,v3,v4]=some ([#v[(m:Nat),0],#v[(sumP P:Nat),0],v2,v3,v4],(.lst (zab P),true)):=by
 have p6:=zgi hm;have e1:=pow1 (l:=m) #v[];have nd:P.Nodup:=ha.imp fun h=>At h;have ef:(List.range (2 ^ m)).filter (fun p=>decide (p∈P))=P:=zoe (zit _ _) ha fun x=>by
  rw[Cv,Bt,Ds];exact⟨fun h=>h.2,fun h=>⟨hl x h,h⟩⟩
 have key:zb4 Ψ [#v[(m:Nat),0],#v[(sumP P:Nat),0],v2,v3,v4]=some ([#v[(m:Nat),0],#v[(sumP P:Nat),0],v2,v3,v4],(.lst (((List.range (2 ^ m)).filter fun p=>decide (p∈P)).map fun p:Nat=>W.int (p:Nat)),true)):=by
  unfold zb4;refine z0g (xs:=[#v[(sumP P:Nat),0]]) (fun p:Nat=>W.int (0+(p:Int))) (fun p=>decide (p∈P)) (fun p:Nat=>W.int (p:Nat)) (e0:=[#v[(m:Nat),0],#v[(sumP P:Nat),0],v2,v3,v4]) (ts:=List.range (2 ^ m)) (ztr (n:=2 ^ m) (by simp! [e1,za0]) #v[]) (by rw[Ct];omega) rfl rfl rfl (fun _ _=>rfl) fun v0 p hp=>?_;rw[Int.zero_add];refine⟨#v[(p:Nat),0],?_,fun _=>⟨#v[(p:Nat),0],false,by simp! []⟩⟩;have tb:=zdb nd p;rw[Nat.testBit_eq_decide_div_mod_eq] at tb;generalize sumP P=w at *
  have z:(0<=(p:Int))=True:=eq_true #v[];have eb:(w:Int) / 2 ^ p=((w / 2 ^ p:Nat):Int):=by norm_cast
  have ea:=and1 (a:=((w / 2 ^ p:Nat):Int)) (Int.natCast_nonneg _);have ec:((w / 2 ^ p:Nat):Int) % 2=((w / 2 ^ p % 2:Nat):Int):=by omega
  rw[ec] at ea;rw[<-tb];by_cases c:w / 2 ^ p % 2=1
  ·rw[c] at ea;rw[Ag c];simp! [z,eb,ea]
  ·have c0 : w / 2 ^ p % 2 = 0 := by omega
   rw[c0] at ea;rw[Av c];simp! [z,eb,ea]
 rw[ef] at key;exact key
theorem z8o {Ψ:Str->Fn}{P:List Nat}{v0 v1 v3 v4:Option (W × Bool)}(hP:P≠[])(hl:P.length<=64):zdd Ψ [v0,v1,#v[(zab P),2],v3,v4]=some ([v0,v1,#v[(zab P),1],v3,v4],(.lst ((movs P).map zht),true)):=by
 have a0:=zis hP;unfold zdd;refine zek (cap:=[none,none,some 2]) (it:=zas (gVar 2)) (en:=[v0,v1,#v[(zab P),2],v3,v4]) (xs:=[#v[(zab P),1]]) (e0:=[v0,v1,#v[(zab P),1],v3,v4]) (ws:=zab P) rfl (by rw[zad];omega) (by rw[zad,Ad,zje]) rfl rfl rfl (fun _ _=>rfl) fun j u w r hw hr=>?_;obtain⟨p,hp,rfl⟩:=castL_get hw;unfold movs at hr;rw[Au,Au,hp] at hr;have hr:zht (P.headD 0 ^^^ p)=r:=sI hr;subst hr;rw[Et];have x:=zch p (P.headD 0);unfold zht;generalize P.headD 0=h at *
 refine⟨#v[(p:Nat),0],false,?_⟩;simp! [a0,x]
theorem z5f {P:List Nat}(hP:P≠[]):oEq (.lst (zab P)) (.lst [])=some (.bl false,false):=by
 have d1:dW (.lst (zab P))=some (.list (P.map fun p:Nat=>PyData.int (p:Int))):=by
  unfold zab;rw[dW,znz (fun p:Nat=>W.int (p:Int)) (fun p:Nat=>PyData.int (p:Int)) (fun _=>by rw[dW]) P];rfl
 have d2:dW (.lst [])=some (.list []):=by rw[dW,dWs];rfl
 have c1:(PyData.list (P.map fun p:Nat=>PyData.int (p:Int))).canLay0=true:=by
  rw[PyData.canLay0];exact zfb _ _ fun n hn=>by rw[PyData.canLay0]
 have c2:(PyData.list []).canLay0=true:=by rw[PyData.canLay0];rfl
 have dp:(PyData.list (P.map fun p:Nat=>PyData.int (p:Int))).depth<=100:=by
  rw[PyData.depth];have:=depAll_map (c:=0) (fun p:Nat=>PyData.int (p:Int)) P fun n hn=>by rw[PyData.depth];exact Ae _
  omega
 have eq:PyData.eqv (.list (P.map fun p:Nat=>PyData.int (p:Int))) (.list [])=false:=by
  cases P with
  | nil=>exact absurd rfl hP
  | cons p P=>rw[PyData.eqv,Ak,PyData.eqvAll]
 have e:eqD (.lst (zab P)) (.lst [])=some false:=by
  unfold eqD;rw[d1,d2];show (if (PyData.list (P.map fun p:Nat=>PyData.int (p:Int))).canLay0 && (PyData.list []).canLay0 && decide ((PyData.list (P.map fun p:Nat=>PyData.int (p:Int))).depth<=100) then some (PyData.eqv _ _) else none)=_;rw[c1,c2,Ag dp,eq];rfl
 show (eqD (.lst (zab P)) (.lst [])).bind _=_;rw[e];rfl
theorem zzy (M:List Nat):(M.map dkN).map dkW=zab M:=by
 unfold zab;rw[Ca];rfl
theorem z8h {Ψ:Str->Fn}{a:Nat}{M:List Nat}{v0 v1 v2:Option (W × Bool)}(hM:M≠[])(hl:M.length<=64):zee Ψ [v0,v1,v2,#v[ZW M,6],#v[(a:Nat),0]]=some ([v0,v1,v2,#v[ZW M,6],#v[(a:Nat),0]],(.lst ((M.map fun b=>decide (a ^^^ b∈M)).map W.bl),true)):=by
 unfold zee;refine zek (cap:=[none,none,some 3,some 4]) (it:=zmf 3) (xs:=[#v[ZW M,6],#v[(a:Nat),0]]) (e0:=[v0,v1,v2,#v[ZW M,6],#v[(a:Nat),0]]) (ws:=zab M) ?_ (by rw[zad];omega) (by rw[zad,Ad,Ad]) rfl rfl rfl (fun _ _=>rfl) fun j u w r hw hr=>?_
 ·rw[<-zzy M];rfl
 ·obtain⟨b, hb, rfl⟩ := castL_get hw;rw[Au,Au,hb] at hr;have hr:W.bl (decide (a ^^^ b∈M))=r:=sI hr;subst hr;have x:=zch a b;have z:=in_z (a ^^^ b) hM;generalize decide (a ^^^ b∈M)=t at *
  generalize ZW M=zz at *
  refine⟨#v[(b:Nat),0],false,?_⟩;simp! [x,z]
noncomputable def clB (M:List Nat) (a:Nat):Bool:=M.all fun b=>decide (a ^^^ b∈M)
noncomputable def clW (M:List Nat):W->Bool
 | .int i=>clB M i.toNat
 | _=>true
theorem z9q {Ψ:Str->Fn}{a:Nat}{M:List Nat}{v0 v1 v2:Option (W × Bool)}(hM:M≠[])(hl:M.length<=64):zct Ψ [v0,v1,v2,#v[ZW M,6],#v[(a:Nat),0]]=some ([v0,v1,v2,#v[ZW M,6],#v[(a:Nat),0]],if clB M a then .nx else .ret (.non,false)):=by
 have c3:=z8h (Ψ:=Ψ) (a:=a) (v0:=v0) (v1:=v1) (v2:=v2) hM hl;have al:(M.map fun b=>decide (a ^^^ b∈M)).all id=clB M a:=by unfold clB;rw[List.all_map];rfl
 unfold zct;generalize (M.map fun b=>decide (a ^^^ b∈M))=bs at *
 generalize ZW M=zz at *
 cases q:clB M a with
 | true=>rw[q] at al;simp! [c3,al]
 | false=>rw[q] at al;simp! [c3,al]
theorem all_cl {M:List Nat}:(zab M).all (clW M)=true↔Cl M:=by
 unfold zab;rw[List.all_map,Bg];constructor
 ·intro h a ha b hb;have:=h a ha;have this:clB M ((a:Int).toNat)=true:=this;rw[Ch] at this;exact An (Bg.mp this b hb)
 ·intro h a ha;show clB M ((a:Int).toNat)=true;rw[Ch];exact Bg.mpr fun b hb=>Ag (h a ha b hb)
theorem z81 {Ψ:Str->Fn}{M:List Nat}{v0 v1 v2:Option (W × Bool)}(hM:M≠[])(hl:M.length<=64):∃v4,zd9 Ψ [v0,v1,v2,#v[SumW M,5],none]=some ([v0,v1,v2,#v[ZW M,6],v4],if (zab M).all (clW M) then .nx else .ret (.non,false)):=by
 unfold zd9;obtain⟨en',⟨v4,rfl⟩,h⟩:=zxv (mp:=[]) (T:=.nm 4) (it:=zmf 3) (body:=zct Ψ) (.non,false) (fun e=>∃v4,e=[v0,v1,v2,#v[ZW M,6],v4]) (clW M) (en:=[v0,v1,v2,#v[SumW M,5],none]) (e0:=[v0,v1,v2,#v[ZW M,6],none]) (ws:=zab M) (by rw[<-zzy M];rfl) ⟨none,rfl⟩ fun w e hw hp=>by
  obtain⟨v4,rfl⟩:=hp;unfold zab at hw;obtain⟨a,_,rfl⟩:=Ay.mp hw;refine⟨[v0,v1,v2,#v[ZW M,6],#v[(a:Nat),0]],[v0,v1,v2,#v[ZW M,6],#v[(a:Nat),0]],rfl,⟨_,rfl⟩,?_⟩;rw[z9q hM hl];show _=some (_,if clB M ((a:Int).toNat) then _ else _);rw[Ch]
 exact⟨v4,h⟩
theorem z57 {Ψ:Str->Fn}(hB:zxp (Ψ "_law_base")):zh2 (zaj [false,false] 5 (zbx Ψ)):=fun m P hm ha hl=>by
 have s9:(1000:Nat)<=sizeLine:=by decide
 have nd:P.Nodup:=ha.imp fun h=>At h;have c1:=z9p (Ψ:=Ψ) (v2:=none) (v3:=none) (v4:=none) hm ha hl;by_cases hP:P=[]
 ·subst hP;refine⟨.non,?_,.inl ⟨rfl,rfl⟩⟩;unfold zbx;refine za2 (en:=[#v[(m:Nat),0],#v[(sumP []:Nat),0],#v[(zab []),2],none,none]) rfl (zah (e1:=[#v[(m:Nat),0],#v[(sumP []:Nat),0],#v[(zab []),2],none,none]) ?_ (zuk ?_)) rfl
  ·simp! [c1]
  ·rfl
 ·have l64 := len64 hm nd hl;have ne:=z5f hP;have c2:=z8o (Ψ:=Ψ) (v0:=#v[(m:Nat),0]) (v1:=#v[(sumP P:Nat),0]) (v3:=none) (v4:=none) hP l64;have hM:movs P≠[]:=fun z=>by have:=zi1 hP;rw[z] at this;exact nomatch this
  have lM:(movs P).length<=64:=by rw[zje];exact l64
  have md:=zth ha;have dl:=z1a c2 (znx (movs P)) (by rw[Ad];omega);have ux:updW ((movs P).map fun y=>(keyX y,W.bl true)) [] []=(([]++movs P).map dkN,([]++movs P).map fun _=>W.bl true):=z0o (movs P) [] md;rw[ux,Ga] at dl;obtain⟨v4,l4⟩:=z81 (Ψ:=Ψ) (v0:=#v[(m:Nat),0]) (v1:=#v[(sumP P:Nat),0]) (v2:=#v[(zab P),1]) hM lM;have s1:gSet [] 2 (zb4 Ψ) [#v[(m:Nat),0],#v[(sumP P:Nat),0],none,none,none]=some ([#v[(m:Nat),0],#v[(sumP P:Nat),0],#v[(zab P),2],none,none],.nx):=zfv (mp:=[]) (i:=2) c1 rfl;have s2:gIfS (zan (gOp2 oEq (zaa 2) (gArg (zap gA0)))) (gRet (gC .non)) zb3 [#v[(m:Nat),0],#v[(sumP P:Nat),0],#v[(zab P),2],none,none]=some ([#v[(m:Nat),0],#v[(sumP P:Nat),0],#v[(zab P),2],none,none],.nx):=by simp! [ne]
  have s3:gSet [] 3 (zid (zdd Ψ)) [#v[(m:Nat),0],#v[(sumP P:Nat),0],#v[(zab P),2],none,none]=some ([#v[(m:Nat),0],#v[(sumP P:Nat),0],#v[(zab P),1],#v[SumW (movs P),5],none],.nx):=zfv (mp:=[]) (i:=3) dl rfl;by_cases c:Cl (movs P)
  ·rw[all_cl.mpr c] at l4;obtain⟨S,ps,sa⟩:=zh4 md;have so:=z4d hM ps sa;have sl:∀s∈S,s < 2 ^ m:=fun s hs=>mov_lt hl s (ps.mem_iff.mp hs);obtain⟨B,e3,b1,b2,b3,b4,b5,b6⟩:=hB m S hm (by rw[ps.length_eq];exact lM) sl sa;have cl:∀a∈S,∀b∈S,a ^^^ b∈S:=fun a ha b hb=>ps.mem_iff.mpr (c a (ps.mem_iff.mp ha) b (ps.mem_iff.mp hb));have rb:=zok cl b5 (fun b hb=>(b1 b hb).1) b2 b6;have sm:zbc B (movs P):=⟨fun b hb=>.one (ps.mem_iff.mp (b5 b hb)),fun s hs=>z5b cl (fun b hb=>(b1 b hb).1) b5 b6 s (ps.mem_iff.mpr hs)⟩;have a0:=zis hP;refine⟨flW (P.headD 0) B,?_,.inr ⟨hP,.inl ⟨c,B,rfl,rb,b4,sm⟩⟩⟩;unfold zbx;refine za2 (en:=[#v[(m:Nat),0],#v[(sumP P:Nat),0],#v[(zab P),1],#v[ZW (movs P),6],v4]) rfl (zah s1 (zah s2 (zah s3 (zah l4 ?_)))) rfl;unfold flW;generalize P.headD 0=h at *
   generalize sumP P=w at *
   generalize ZW (movs P)=zz at *
   simp! [a0,so,e3]
  ·have q:(zab (movs P)).all (clW (movs P))=false:=by
    cases q:(zab (movs P)).all (clW (movs P)) with
    | false=>rfl
    | true=>exact absurd (all_cl.mp q) c
   rw[q] at l4;refine⟨.non,?_,.inr ⟨hP,.inr ⟨c,rfl⟩⟩⟩;unfold zbx;exact za2 (en:=[#v[(m:Nat),0],#v[(sumP P:Nat),0],#v[(zab P),1],#v[ZW (movs P),6],v4]) rfl (zah s1 (zah s2 (zah s3 (zuk l4)))) rfl
noncomputable def sumL (M:List Nat):Nat:=(M.map fun q=>2 ^ q).sum
theorem zu8 (M:List Nat)(q:Nat):sumL (M++[q])=sumL M+2 ^ q:=by unfold sumL;rw[Bq,List.sum_append];rfl
theorem zhh:∀(n:Nat) {M:List Nat},M.Nodup->(∀q∈M,q < n)->sumL M < 2 ^ n
  | 0,M,_,h=>by
    cases M with
    | nil=>exact Nat.one_pos
    | cons q M=>exact absurd (h q Aq) (Nat.not_lt_zero q)
  | n+1,M,hn,h=>by
    have p2:2 ^ (n+1)=2 ^ n+2 ^ n:=by rw[Nat.pow_succ];omega
    by_cases c:n∈M
    · have pm := List.perm_cons_erase c
      have:=zhh n (M:=M.erase n) (hn.erase n) fun q hq=>by
        have h1:=h q (List.mem_of_mem_erase hq);have h2:q≠n:=fun z=>by rw[z] at hq;exact (hn.not_mem_erase) hq
        omega
      have e:sumL M=2 ^ n+sumL (M.erase n):=by
        unfold sumL;rw[(pm.map fun q=>2 ^ q).sum_nat,Ak,List.sum_cons]
      omega
    · have:=zhh n hn fun q hq=>by
        have h1:=h q hq;have h2:q≠n:=fun z=>c (z ▸ hq);omega
      omega
noncomputable def AtL (Φ:Fn):Prop:=∀M:List Nat,(∀q∈M,q < 64)->Φ [.lst (zab M)]=some ([.lst (zab M)],(.int (sumL M:Nat),false))
theorem z6a (Ψ:Str->Fn):AtL (zaj [false] 3 (ze2 Ψ)):=fun P hl=>by
 have l1:∃w2,zfn Ψ [#v[(zab P),1],#v[0,0],none]=some ([#v[(zab P),1],#v[(sumL P:Nat),0],w2],.nx):=by
  unfold zfn;obtain⟨en',h,w2,rfl⟩:=zbi (mp:=[]) (T:=.nm 2) (it:=zas (gVar 0)) (body:=zfp Ψ) (fun i e=>∃w2,e=[#v[(zab P),1],#v[(sumL (P.take i):Nat),0],w2]) (en:=[#v[(zab P),1],#v[0,0],none]) (e0:=[#v[(zab P),1],#v[0,0],none]) (ws:=zab P) (by simp! []) ⟨none,rfl⟩ fun i w e hw hp=>by
   obtain⟨w2,rfl⟩:=hp;obtain⟨q,hq,rfl⟩:=castL_get hw;have tk:P.take (i+1)=P.take i++[q]:=by rw[De,hq];rfl
   rw[tk,zu8];generalize sumL (P.take i)=x at *
   have q64:=hl q (Bn hq);have pq:=pow1 (l:=q) #v[];have oq:=za0 q;have ec:(x:Int)+((2 ^ q:Nat):Int)=((x+2 ^ q:Nat):Int):=by omega
   refine⟨[#v[(zab P),1],#v[(x:Nat),0],#v[(q:Nat),0]],[#v[(zab P),1],#v[((x+2 ^ q:Nat):Int),0],#v[(q:Nat),0]],rfl,.inl ?_,_,rfl⟩;unfold zfp;simp! [pq,oq,ec]
  rw[zad,Cg] at h;exact⟨_,h⟩
 obtain⟨w2,l1⟩:=l1;unfold ze2;refine za2 (en:=[#v[(zab P),1],#v[(sumL P:Nat),0],w2]) rfl (zah (e1:=[#v[(zab P),1],#v[0,0],none]) (by simp! []) (zah l1 (by simp! []))) rfl
noncomputable def IsW (m:Nat) (w:W):Prop:=∃n:Nat,w=.int (n:Nat)/\n < 2 ^ 2 ^ m
noncomputable def z44 (Φ:Fn):Prop:=∀(k:Nat) (st:W) (m:Nat),HS k st->k+400 < big->m<=6->∃st' ws,Φ [st,.int (m:Nat)]=some ([st',.int (m:Nat)],(.lst ws,true))/\HS (k+150) st'/\ws.length<=20/\∀w∈ws,IsW m w
theorem z97 {Ψ:Str->Fn}{st:W}{m c:Nat}{f:W}{P:List Nat}{v0 v1 v2 v4 v5 v6 v7 v9 v10:Option (W × Bool)}(hp:Ψ "_law_places" [f]=some ([f],(.lst (zab P),true)))(hl:P.length<=64):za5 Ψ [v0,v1,v2,#v[f,6],v4,v5,v6,v7,#v[(c:Nat),0],v9,v10]=some ([v0,v1,v2,#v[f,6],v4,v5,v6,v7,#v[(c:Nat),0],v9,v10],(.lst (zab (P.map (c ^^^ ·))),true)):=by
 unfold za5;refine zek (cap:=[none,none,some 8]) (xs:=[#v[(c:Nat),0]]) (e0:=[v0,v1,v2,#v[f,6],v4,v5,v6,v7,#v[(c:Nat),0],v9,v10]) (ws:=zab P) (by simp! [hp]) (by rw[zad];omega) (by rw[zad,zad,Ad]) rfl rfl rfl (fun _ _=>rfl) fun j u w r hw hr=>?_;obtain⟨p,hp,rfl⟩:=castL_get hw;obtain⟨q,hq,rfl⟩:=castL_get hr;rw[Au,hp] at hq;have hq:c ^^^ p=q:=sI hq;subst hq;have x:=zch p c;rw[Et] at x;refine⟨#v[(p:Nat),0],false,?_⟩;simp! [x]
theorem z6z {a b:List W}(h:a.length+b.length<=1000):oAdd (.lst a) (.lst b)=#v[(a++b),2]:=by
 have s9:(1000:Nat)<=sizeLine:=by decide
 rw[zoy];exact if_pos #v[]
noncomputable def EW7 (st:W) (m c:Nat) (f f' : W) (x A A' r y:Nat) (v10:Option (W × Bool)):En:=[#v[st,5],#v[(m:Nat),0],#v[(c:Nat),0],#v[f,6],#v[f',6],#v[(x:Nat),0],#v[(A:Nat),0],#v[(A' : Nat),0],#v[(r:Nat),0],#v[(y:Nat),0],v10]
theorem z4y {Ψ:Str->Fn}{st7 st8 f f' : W}{m c x A A' r y z u N:Nat}{P' : List Nat}{xs:List Int} (pw:cPow 1 (m:Int)=true) (om:(1:Int) * 2 ^ m=((2 ^ m:Nat):Int)) (pw2:cPow 1 ((2 ^ m:Nat):Int)=true) (om2:(1:Int) * 2 ^ 2 ^ m=(N:Int)) (sb:(N:Int) - 1=((N - 1:Nat):Int)) (e6:Ψ "_law_places" [f']=some ([f'],(.lst (zab P'),true))) (e8:Ψ "_law_at" [.lst (zab P')]=some ([.lst (zab P')],(.int (z:Nat),false))) (e13:Ψ "_law_bits" [st7,.int ((2 ^ m:Nat):Int)]=some ([st8,.int ((2 ^ m:Nat):Int)],(.lst (xs.map W.int),true))) (e14:Ψ "_law_word" [.lst (xs.map W.int)]=some ([.lst (xs.map W.int)],(.int (u:Nat),false))) :
  (gSeq (gSet [0] 10 (zap (gCns #v[5,4] (gCns (gArg (gOp2 (oI yes2 fun i j=>.int (Builtin.bitXor i j)) (zaa 5) (zaa 6))) (gCns (gArg (gOp2 (oI yes2 fun i j=>.int (Builtin.bitXor i j)) (gArg (gOp2 (oI yes2 fun i j=>.int (Builtin.bitXor i j)) (zaa 5) (zaa 6))) (zaa 7))) (gCns (gArg (gOp2 (oI yes2 fun i j=>.int (Builtin.bitOr i j)) (zaa 5) (zaa 6))) (gCns (gArg (gOp2 (oI yes2 fun i j=>.int (Builtin.bitOr i j)) (zaa 5) (zaa 9))) (gCns (gArg (gOp2 (oI yes2 fun i j=>.int (Builtin.bitXor i j)) (zaa 5) (zaa 9))) (gCns #v[9,4] gA0))))))))) (gSeq (gSet [0] 10 (gOp2 oAdd (zaa 10) (gArg (zap (gCns (gArg (gOp2 (oI yes2 fun i j=>.int (Builtin.bitOr i j)) (zaa 5) (gArg (zae [false] (Ψ "_law_at") (gCns (gArg (zae [false] (Ψ "_law_places") (gCns #v[4,4] gA0))) gA0))))) (gCns (gArg (zae [false] (Ψ "_law_word") (gCns (gArg (zae [true,false] (Ψ "_law_bits") (gCns (zaa 0) (gCns (gArg (gOp2 #v[0,0,1] #v[1] (zaa 1))) gA0)))) gA0))) gA0)))))) (gRet (gOp2 oAdd (zaa 10) (gArg (zap (gCns #v[0] (gCns (gArg (gOp2 #v[0,0,0] (gArg (gOp2 #v[0,0,1] #v[1] (gArg (gOp2 #v[0,0,1] #v[1] (zaa 1))))) #v[1])) gA0)))))))) (EW7 st7 m c f f' x A A' r y none)=some (EW7 st8 m c f f' x A A' r y (#v[([W.int (x:Nat),W.int ((x ^^^ A:Nat):Int),W.int (((x ^^^ A) ^^^ A' : Nat):Int),W.int ((x ||| A:Nat):Int),W.int ((x ||| y:Nat):Int),W.int ((x ^^^ y:Nat):Int),W.int (y:Nat)]++[W.int ((x ||| z:Nat):Int),W.int (u:Nat)]),2]),.ret (.lst ([W.int (x:Nat),W.int ((x ^^^ A:Nat):Int),W.int (((x ^^^ A) ^^^ A' : Nat):Int),W.int ((x ||| A:Nat):Int),W.int ((x ||| y:Nat):Int),W.int ((x ^^^ y:Nat):Int),W.int (y:Nat)]++[W.int ((x ||| z:Nat):Int),W.int (u:Nat)]++[W.int 0,W.int ((N - 1:Nat):Int)]),true)):=by
 have n1:=zch x A;have n2:=zch (x ^^^ A) A';have n3:=zr9 x A;have n4:=zr9 x y;have n5:=zch x y;have n6:=zr9 x z;have d7:zap (gCns #v[5,4] (gCns (gArg (gOp2 (oI yes2 fun i j=>.int (Builtin.bitXor i j)) (zaa 5) (zaa 6))) (gCns (gArg (gOp2 (oI yes2 fun i j=>.int (Builtin.bitXor i j)) (gArg (gOp2 (oI yes2 fun i j=>.int (Builtin.bitXor i j)) (zaa 5) (zaa 6))) (zaa 7))) (gCns (gArg (gOp2 (oI yes2 fun i j=>.int (Builtin.bitOr i j)) (zaa 5) (zaa 6))) (gCns (gArg (gOp2 (oI yes2 fun i j=>.int (Builtin.bitOr i j)) (zaa 5) (zaa 9))) (gCns (gArg (gOp2 (oI yes2 fun i j=>.int (Builtin.bitXor i j)) (zaa 5) (zaa 9))) (gCns #v[9,4] gA0))))))) (EW7 st7 m c f f' x A A' r y none)=some (EW7 st7 m c f f' x A A' r y none,(.lst [.int (x:Nat),.int ((x ^^^ A:Nat):Int),.int (((x ^^^ A) ^^^ A' : Nat):Int),.int ((x ||| A:Nat):Int),.int ((x ||| y:Nat):Int),.int ((x ^^^ y:Nat):Int),.int (y:Nat)],true)):=by
  unfold EW7;simp! [n1,n2,n3,n4,n5]
 generalize hL7:[W.int (x:Nat),W.int ((x ^^^ A:Nat):Int),W.int (((x ^^^ A) ^^^ A' : Nat):Int),W.int ((x ||| A:Nat):Int),W.int ((x ||| y:Nat):Int),W.int ((x ^^^ y:Nat):Int),W.int (y:Nat)]=L7 at *
 have len7:L7.length=7:=by rw[<-hL7];rfl
 have d8:zap (gCns (gArg (gOp2 (oI yes2 fun i j=>.int (Builtin.bitOr i j)) (zaa 5) (gArg (zae [false] (Ψ "_law_at") (gCns (gArg (zae [false] (Ψ "_law_places") (gCns #v[4,4] gA0))) gA0))))) (gCns (gArg (zae [false] (Ψ "_law_word") (gCns (gArg (zae [true,false] (Ψ "_law_bits") (gCns (zaa 0) (gCns (gArg (gOp2 #v[0,0,1] #v[1] (zaa 1))) gA0)))) gA0))) gA0)) (EW7 st7 m c f f' x A A' r y (#v[L7,2]))=some (EW7 st8 m c f f' x A A' r y (#v[L7,2]),(.lst [.int ((x ||| z:Nat):Int),.int (u:Nat)],true)):=by
  unfold EW7;simp! [e6,e8,n6,pw,om,e13,e14]
 have d9:zap (gCns #v[0] (gCns (gArg (gOp2 #v[0,0,0] (gArg (gOp2 #v[0,0,1] #v[1] (gArg (gOp2 #v[0,0,1] #v[1] (zaa 1))))) #v[1])) gA0)) (EW7 st8 m c f f' x A A' r y (#v[(L7++[W.int ((x ||| z:Nat):Int),W.int (u:Nat)]),2]))=some (EW7 st8 m c f f' x A A' r y (#v[(L7++[W.int ((x ||| z:Nat):Int),W.int (u:Nat)]),2]),(.lst [.int 0,.int ((N - 1:Nat):Int)],true)):=by
  unfold EW7;simp! [pw,om,pw2,om2,sb]
 exact zah (e1:=EW7 st7 m c f f' x A A' r y (#v[L7,2])) (zfv (mp:=[0]) (i:=10) d7 rfl) (zah (e1:=EW7 st8 m c f f' x A A' r y (#v[(L7++[W.int ((x ||| z:Nat):Int),W.int (u:Nat)]),2])) (zfv (mp:=[0]) (i:=10) (zbd (e1:=EW7 st7 m c f f' x A A' r y (#v[L7,2])) (x:=.inr 10) rfl (zbm d8) rfl rfl (z6z (by rw[len7];show 7+2<=1000;decide))) rfl) (zot (zbd (e1:=EW7 st8 m c f f' x A A' r y (#v[(L7++[W.int ((x ||| z:Nat):Int),W.int (u:Nat)]),2])) (x:=.inr 10) rfl (zbm d9) rfl rfl (z6z (by rw[Ba,len7];show 7+2+2<=1000;decide)))))
theorem z2e {Ψ:Str->Fn}(hT:zhy (Ψ "_law_take"))(hL:zy5 (Ψ "_law_flat"))(hP:zpk (Ψ "_law_places"))(hA:AtL (Ψ "_law_at"))(hBt:zze (Ψ "_law_bits"))(hWd:zy7 (Ψ "_law_word")):z44 (zaj [true,false] 11 (zaw Ψ)):=fun k st m hs hk hm=>by
 have p6:=zgi hm;have pp:=Ez m;have pw:=pow1 (l:=m) #v[];have om:=za0 m;have pw2:=pow1 (l:=2 ^ m) #v[];have om2:=za0 (2 ^ m);have pl2:=Ez (2 ^ m);obtain⟨st1,c,e1,g1,c0,c1⟩:=hT k st ((m:Int)+2) hs #v[] #v[] #v[];obtain⟨c,rfl⟩:=Cp c0;obtain⟨st2,p,B,e2,g2,hf⟩:=hL (k+1) st1 m c g1 #v[] hm #v[];obtain⟨st3,d,e3,g3,d0,d1⟩:=hT (k+11) st2 ((m:Int)+2) g2 #v[] #v[] #v[];obtain⟨d,rfl⟩:=Cp d0;obtain⟨st4,p',B',e4,g4,hf'⟩:=hL (k+12) st3 m d g3 #v[] hm #v[];obtain⟨P,e5,i5⟩:=hP m p B hm (hf.good hm);obtain⟨P',e6,i6⟩:=hP m p' B' hm (hf'.good hm);have nP:P.Nodup:=i5.2.1.imp fun h=>At h;have nP' : P'.Nodup:=i6.2.1.imp fun h=>At h;have e7:=hA P fun q hq=>by have:=i5.2.2 q hq;omega
 have e8:=hA P' fun q hq=>by have:=i6.2.2 q hq;omega
 have x1:=zhh (2 ^ m) nP i5.2.2;have z1:=zhh (2 ^ m) nP' i6.2.2;obtain⟨st5,a,e9,g5,a0,a1⟩:=hT (k+22) st4 ((2 ^ m:Nat):Int) g4 #v[] #v[] #v[];obtain⟨a,rfl⟩:=Cp a0;obtain⟨st6,b,e10,g6,b0,b1⟩:=hT (k+23) st5 ((2 ^ m:Nat):Int) g5 #v[] #v[] #v[];obtain⟨b,rfl⟩:=Cp b0;obtain⟨st7,r,e11,g7,r0,r1⟩:=hT (k+24) st6 ((2 ^ m:Nat):Int) g6 #v[] #v[] #v[];obtain⟨r,rfl⟩:=Cp r0;have ml:∀q∈P.map (r ^^^ ·),q < 2 ^ m:=fun q hq=>by
  obtain⟨y,hy,rfl⟩:=Ay.mp hq;exact Cc #v[] (i5.2.2 y hy)
 have e12:=hA (P.map (r ^^^ ·)) fun q hq=>by have:=ml q hq;omega
 have y1:=zhh (2 ^ m) (zdk nP r) ml;obtain⟨st8,xs,e13,g8,xl,xb⟩:=hBt (k+25) st7 ((2 ^ m:Nat):Int) g7 #v[] #v[] #v[];have e14:=hWd xs;obtain⟨u,u1,ux⟩:=zpq xs xb;have xl' : xs.length=2 ^ m:=by omega
 rw[xl'] at ux u1;rw[ux,zb1 _ u u1,<-ux] at e14;have pa:=pow1 (l:=a) #v[];have oa:=za0 a;have pb:=pow1 (l:=b) #v[];have ob:=za0 b;have la:2 ^ a < 2 ^ 2 ^ m:=Nat.pow_lt_pow_right #v[0,9] #v[];have lb:2 ^ b < 2 ^ 2 ^ m:=Nat.pow_lt_pow_right #v[0,9] #v[];have l64:P.length<=64:=len64 hm nP i5.2.2;have sb:((2 ^ 2 ^ m:Nat):Int) - 1=((2 ^ 2 ^ m - 1:Nat):Int):=by omega
 have cw:=fun v0 v1 v2 v4 v5 v6 v7 v9 v10=>z97 (Ψ:=Ψ) (st:=st) (m:=m) (c:=r) (f:=flW p B) (P:=P) (v0:=v0) (v1:=v1) (v2:=v2) (v4:=v4) (v5:=v5) (v6:=v6) (v7:=v7) (v9:=v9) (v10:=v10) e5 l64;generalize flW p B=f at *
 generalize flW p' B'=f' at *
 generalize sumL (P.map (r ^^^ ·))=y at *
 generalize sumL P=x at *
 generalize sumL P'=z at *
 generalize 2 ^ a=A at *
 generalize 2 ^ b=A' at *
 have q1:=Cc x1 la;have q2:=Cc q1 lb;have q3:=Nat.or_lt_two_pow x1 la;have q4:=Nat.or_lt_two_pow x1 y1;have q5:=Cc x1 y1;have q6:=Nat.or_lt_two_pow x1 z1;generalize hN:2 ^ 2 ^ m=N at *
 have hq:∀w∈[W.int (x:Nat),W.int ((x ^^^ A:Nat):Int),W.int (((x ^^^ A) ^^^ A' : Nat):Int),W.int ((x ||| A:Nat):Int),W.int ((x ||| y:Nat):Int),W.int ((x ^^^ y:Nat):Int),W.int (y:Nat)]++[W.int ((x ||| z:Nat):Int),W.int (u:Nat)]++[W.int 0,W.int ((N - 1:Nat):Int)],∃n:Nat,w=.int (n:Nat)/\n < N:=fun w hw=>by
  simp only [List.cons_append,Ga,Ax,Dc,or_false] at hw;rcases hw with h | h | h | h | h | h | h | h | h | h | h
  ·exact⟨_,h,x1⟩
  ·exact⟨_,h,q1⟩
  ·exact⟨_,h,q2⟩
  ·exact⟨_,h,q3⟩
  ·exact⟨_,h,q4⟩
  ·exact⟨_,h,q5⟩
  ·exact⟨_,h,y1⟩
  ·exact⟨_,h,q6⟩
  ·exact⟨_,h,u1⟩
  ·exact⟨0,h,pl2⟩
  ·exact⟨N - 1,h,by omega⟩
 have en:=z4y (Ψ:=Ψ) (m:=m) (c:=c) (f:=f) (f':=f') (x:=x) (A:=A) (A':=A') (r:=r) (y:=y) (z:=z) (u:=u) (N:=N) pw om pw2 om2 sb e6 e8 e13 e14;have l9:([W.int (x:Nat),W.int ((x ^^^ A:Nat):Int),W.int (((x ^^^ A) ^^^ A' : Nat):Int),W.int ((x ||| A:Nat):Int),W.int ((x ||| y:Nat):Int),W.int ((x ^^^ y:Nat):Int),W.int (y:Nat)]++[W.int ((x ||| z:Nat):Int),W.int (u:Nat)]).length<=18:=by show 9<=18;decide
 generalize [W.int (x:Nat),W.int ((x ^^^ A:Nat):Int),W.int (((x ^^^ A) ^^^ A' : Nat):Int),W.int ((x ||| A:Nat):Int),W.int ((x ||| y:Nat):Int),W.int ((x ^^^ y:Nat):Int),W.int (y:Nat)]++[W.int ((x ||| z:Nat):Int),W.int (u:Nat)]=L9 at *
 refine⟨st8,L9++[W.int 0,W.int ((N - 1:Nat):Int)],?_,g8.mono #v[],by rw[Ba];show _+2<=20;omega,fun w hw=>by obtain⟨n,e,l⟩:=hq w hw;exact⟨n,e,by rw[hN];exact l⟩⟩;unfold zaw;refine za2 (en:=EW7 st8 m c f f' x A A' r y (#v[L9,2])) rfl (zah (e1:=[#v[st1,5],#v[(m:Nat),0],#v[(c:Nat),0],none,none,none,none,none,none,none,none]) ?_ (zah (e1:=[#v[st4,5],#v[(m:Nat),0],#v[(c:Nat),0],#v[f,6],#v[f',6],none,none,none,none,none,none]) ?_ (zah (e1:=[#v[st4,5],#v[(m:Nat),0],#v[(c:Nat),0],#v[f,6],#v[f',6],#v[(x:Nat),0],none,none,none,none,none]) ?_ (zah (e1:=[#v[st6,5],#v[(m:Nat),0],#v[(c:Nat),0],#v[f,6],#v[f',6],#v[(x:Nat),0],#v[(A:Nat),0],#v[(A' : Nat),0],none,none,none]) ?_ (zah (e1:=[#v[st7,5],#v[(m:Nat),0],#v[(c:Nat),0],#v[f,6],#v[f',6],#v[(x:Nat),0],#v[(A:Nat),0],#v[(A' : Nat),0],#v[(r:Nat),0],none,none]) ?_ (zah (e1:=EW7 st7 m c f f' x A A' r y none) ?_ en)))))) rfl
 ·simp! [e1]
 ·simp! [e2,e3,e4]
 ·simp! [e5,e7]
 ·simp! [pw,om,e9,pa,oa,e10,pb,ob]
 ·simp! [pw,om,e11]
 ·unfold EW7;simp! [cw,e12]
theorem zv2 {p:Nat}{D:List Nat}(hp:p < 64)(hD:∀b∈D,b < 64)(hl:D.length<=64):∃s,zqt [flW p D]=some (.str s,false):=by
 have sm:∀{n:Nat},n < 64->zw0 (n:Int):=fun {n} h=>zxu (k:=6) (by rw[Int.natAbs_natCast];exact h) #v[0,9];obtain⟨h1,h2,h3,h5,h4⟩:=z52 (ns:=D.map fun b:Nat=>(b:Int)) fun n hn=>by
  obtain⟨b,hb,rfl⟩:=Ay.mp hn;exact sm (hD b hb)
 rw[Ad] at h4;have dd:dW (flW p D)=some (.tuple [.int (p:Int),ndI (D.map fun b:Nat=>(b:Int))]):=by
  unfold flW;rw[zay,dW,dWs,dWs,dWs,z2w,dW];rfl
 have it:=int_text_len_1921 (sm hp);have ok:okD (.tuple [.int (p:Int),ndI (D.map fun b:Nat=>(b:Int))])=true:=by
  unfold okD;have a1:(PyData.tuple [.int (p:Int),ndI (D.map fun b:Nat=>(b:Int))]).showable=true:=by
   rw[PyData.showable,PyData.showableAll,PyData.showableAll,PyData.showableAll,h1,PyData.showable];rw[show decide (((p:Nat):Int).natAbs.log2 < 1920)=true from Ag (sm hp)];rfl
  have a2:(PyData.tuple [.int (p:Int),ndI (D.map fun b:Nat=>(b:Int))]).hasDict=false:=by
   rw[PyData.hasDict,PyData.hasDictAll,PyData.hasDictAll,PyData.hasDictAll,h2,PyData.hasDict];rfl
  have a3:(PyData.tuple [.int (p:Int),ndI (D.map fun b:Nat=>(b:Int))]).depth<=2:=by
   rw[PyData.depth,PyData.depthAll,PyData.depthAll,PyData.depthAll,PyData.depth];omega
  have a4:(PyData.tuple [.int (p:Int),ndI (D.map fun b:Nat=>(b:Int))]).shown.length<=300000:=by
   rw[PyData.shown,PyData.shownAll,PyData.shownAll,PyData.shownAll,PyData.shown];have:=zh7 (c:=123075) (ts:=[Str.ofString (toString (p:Int)),(ndI (D.map fun b:Nat=>(b:Int))).shown]) fun t ht=>by
    rcases Ax.mp ht with rfl | ht
    ·omega
    ·rw[Aj.mp ht];omega
   have e2:[Str.ofString (toString (p:Int)),(ndI (D.map fun b:Nat=>(b:Int))).shown].length=2:=rfl;omega
  rw[a1,a2,Ag #v[],Ag (by rw[Fs];omega)];rfl
 refine⟨(PyData.tuple [.int (p:Int),ndI (D.map fun b:Nat=>(b:Int))]).shown,?_⟩;show (dW (flW p D)).bind _=_;rw[dd];show (if okD (.tuple [.int (p:Int),ndI (D.map fun b:Nat=>(b:Int))]) then _ else none)=_;rw[if_pos ok]
theorem zye {m:Nat}{P:List Nat}{r:W}(hm:m<=6)(hl:∀p∈P,p < 2 ^ m)(h:Due P r):∃s,zqt [r]=some (.str s,false):=by
 have p6:=zgi hm;rcases h with ⟨_,rfl⟩ | ⟨hP,⟨_,D,rfl,rb,_,sm⟩ | ⟨_,rfl⟩⟩
 ·exact⟨_,rfl⟩
 ·have lD : ∀ b ∈ D, b < 2 ^ m := fun b hb => sp_lt (mov_lt hl) (sm.1 b hb);exact zv2 (by have:=hl _ (zf4 hP);omega) (fun b hb=>by have:=lD b hb;omega) (len64 hm rb.nodup lD)
 ·exact⟨_,rfl⟩
theorem z58 {Ψ:Str->Fn}(hF:zh2 (Ψ "flat_of"))(hG:zh2 (Ψ "_law_due")){m:Nat}{w:W}{v0 v1 v2:Option (W × Bool)}(hm:m<=6)(hw:IsW m w):zp5 Ψ [v0,v1,v2,#v[(m:Nat),0],#v[w,6]]=some ([v0,v1,v2,#v[(m:Nat),0],#v[w,6]],.nx):=by
 obtain⟨n,rfl,hn⟩:=hw;obtain⟨P,ha,hl,rfl⟩:=z0d hn;obtain⟨r,e1,d1⟩:=hF m P hm ha hl;obtain⟨r',e2,d2⟩:=hG m P hm ha hl;obtain rfl:=z2d d1 d2;obtain⟨s,hr⟩:=zye hm hl d1;generalize sumP P=u at *
 unfold zp5;simp! [e1,e2,hr]
structure Fns (Ψ:Str->Fn):Prop where
 hM:∀(k:Nat) (st:W),HS k st->k+10 < big->∃st' m,Ψ "_law_many" [st]=some ([st'],(.int (m:Nat),false))/\HS (k+2) st'/\m<=6
 hS:z44 (Ψ "_law_some_words")
 hF:zh2 (Ψ "flat_of")
 hG:zh2 (Ψ "_law_due")
theorem z68 {Ψ:Str->Fn}(F:Fns Ψ){k m:Nat}{st:W}{v0 v2 v4:Option (W × Bool)}(hs:HS k st)(hk:k+500 < big)(hm:m<=6):∃st' w4,zv1 Ψ [v0,#v[st,5],v2,#v[(m:Nat),0],v4]=some ([v0,#v[st',5],v2,#v[(m:Nat),0],w4],.nx)/\HS (k+150) st':=by
 obtain⟨st1,ws,e1,g1,lw,qw⟩:=F.hS k st m hs #v[] hm;unfold zv1;obtain⟨en',h,w4,rfl⟩:=zbi (mp:=[]) (T:=.nm 4) (it:=zas (zae [true,false] (Ψ "_law_some_words") (gCns (zaa 1) (gCns #v[3,4] gA0)))) (body:=zp5 Ψ) (fun i e=>∃w4,e=[v0,#v[st1,5],v2,#v[(m:Nat),0],w4]) (en:=[v0,#v[st,5],v2,#v[(m:Nat),0],v4]) (e0:=[v0,#v[st1,5],v2,#v[(m:Nat),0],v4]) (ws:=ws) (by simp! [e1]) ⟨_,rfl⟩ fun i w e h hp=>by
  obtain⟨w4,rfl⟩:=hp;exact⟨_,_,rfl,.inl (z58 F.hF F.hG hm (qw w (Bn h))),_,rfl⟩
 exact⟨st1,w4,h,g1⟩
theorem zwx (ns:List Int)(hl:ns.length<=63):sem T bn 40 "law" [.frl (ns.map W.int)]=some ([.frl (ns.map W.int)],(.bl true,false)):=by
 have bb:(20000:Nat) < big:=by decide
 rw[z96];generalize hΨ:sem T bn 39=Ψ;have hH:zz9 (Ψ "_law_hand"):=by rw[<-hΨ,znq];exact z12 (sem T bn 0)
 have hTk:∀d,zhy (sem T bn (d+3) "_law_take"):=fun d=>by rw[zmc];exact z2n (sem T bn 0)
 have hX:∀d,XorN (sem T bn (d+3) "plus"):=fun d=>by rw[z6f];exact z8k (z1h (sem T bn 0))
 have hW:∀d,WtN (sem T bn (d+6) "without_tops"):=fun d=>by
  rw[zhu];exact wt_n (by rw[zy6];exact z6q (zst (sem T bn 0))) (hX (d+2)) (by rw[z95];exact z9t (sem T bn 0))
 have hLb:∀d,zxp (sem T bn (d+3) "_law_base"):=fun d=>by rw[znf];exact zws _
 have hSm:∀d,zoi (sem T bn (d+3) "_law_sums"):=fun d=>by rw[zm7];exact z02 _
 have F:Fns Ψ:=by
  refine⟨?_,?_,?_,?_⟩
  ·rw[<-hΨ,zm8];exact zwq (hTk 35)
  ·rw[<-hΨ,zfd];exact z2e (hTk 35) (by rw[zn4];exact z24 (hTk 34) (hSm 34) (hLb 34)) (by rw[zju];exact zrz (hSm 34)) (by rw[zrt];exact z6a _) (by rw[zmu];exact z1s (hTk 34)) (by rw[zmt];exact z14 (sem T bn 0))
  ·rw[<-hΨ,zv6];exact zr8 (by rw[z03];exact zyr (by rw[zy6];exact zst (sem T bn 0))) (by rw[zsy];exact z6e (hW 31)) (hX 35) (by rw[zmk];exact zvd (by rw[zvi];exact zqz (sem T bn 0)) (by rw[ziq];exact zu6 (hX 33)))
  ·rw[<-hΨ,zqw];exact z57 (hLb 35)
 clear hTk hX hW hLb hSm;obtain⟨st0,h0,g0⟩:=hH ns hl;have om:oMin [.int 10,.int (ns.length:Nat)]=#v[((min 10 ns.length:Nat):Int),0]:=by
  show #v[W.int (mn1 10 [(ns.length:Int)]),6]=_;show some (W.int (if (ns.length:Int) < 10 then (ns.length:Int) else 10),false)=_;congr 3;split<;>omega
 have ec:(4:Int)+((min 10 ns.length:Nat):Int)=((4+min 10 ns.length:Nat):Int):=by omega
 have sf:seqW (.frl (ns.map W.int))=some (ns.map W.int):=rfl;have l2:∃en',zs5 Ψ [some (.frl (ns.map W.int),false),#v[st0,5],none,none,none]=some (some (.frl (ns.map W.int),false)::en',.nx):=by
  unfold zs5;obtain⟨en',h,st',w2,w3,w4,rfl,_⟩:=zbi (mp:=[]) (T:=.nm 2) (body:=zvl Ψ) (fun i e=>∃st' w2 w3 w4,e=[some (.frl (ns.map W.int),false),#v[st',5],w2,w3,w4]/\HS (200 * i) st') (ztr (a:=gArg (gOp2 oAdd #v[4] (gArg (gOpN oMin (gCns #v[10] (gCns (gArg (gOpN oLen (gCns (zaa 0) gA0))) gA0)))))) (en:=[some (.frl (ns.map W.int),false),#v[st0,5],none,none,none]) (e1:=[some (.frl (ns.map W.int),false),#v[st0,5],none,none,none]) (n:=4+min 10 ns.length) (by simp! [sf,Ad,om,ec]) #v[]) ⟨_,_,_,_,rfl,g0⟩ fun i w e hw hp=>by
   obtain⟨st',w2,w3,w4,rfl,g⟩:=hp;obtain⟨li,rfl⟩:=zf3 hw;obtain⟨st1,m,e1,g1,hm⟩:=F.hM (200 * i) st' g #v[];obtain⟨st2,x4,l1,g2⟩:=z68 (Ψ:=Ψ) F (m:=m) (v0:=some (.frl (ns.map W.int),false)) (v2:=#v[(0+(i:Int)),0]) (v4:=w4) g1 #v[] hm;refine⟨[some (.frl (ns.map W.int),false),#v[st',5],#v[(0+(i:Int)),0],w3,w4],[some (.frl (ns.map W.int),false),#v[st2,5],#v[(0+(i:Int)),0],#v[(m:Nat),0],x4],rfl,.inl ?_,_,_,_,_,rfl,g2.mono #v[]⟩;unfold zvl;refine zah (e1:=[some (.frl (ns.map W.int),false),#v[st1,5],#v[(0+(i:Int)),0],#v[(m:Nat),0],w4]) ?_ l1;generalize W.int (0+(i:Int))=u;simp! [e1]
  exact⟨_,h⟩
 obtain⟨en',l2⟩:=l2;unfold z1y;refine za2 (en:=some (.frl (ns.map W.int),false)::en') rfl (zah (e1:=[some (.frl (ns.map W.int),false),#v[st0,5],none,none,none]) ?_ (zah l2 ?_)) rfl
 ·simp! [h0]
 ·simp! []
noncomputable abbrev nA (K:PySem.W.Frag) (n:Str) (f:Addr):Prop:=PySem.W.nsIn K mainGlobals n=some (some (.ref f))
noncomputable abbrev nL (K:PySem.W.Frag) (f:Addr) (oc:Value) (od:Option Addr) (n:Str) (st:Stmt) (kV dc pm:Value) (an:Option Addr) (cd ct:Value) (sl:Array (Option Value)):Prop:=K.lookup f=some ⟨oc,od,.func (PySem.W.fnOf n n (zfj st) (zdl st) (zar st) .none kV dc pm an cd ct),sl⟩
noncomputable abbrev nC (K:PySem.W.Frag) (cd:Value) (n:Str):Prop:=PySem.W.codeIn K cd n=true
noncomputable abbrev nK (K:PySem.W.Frag) (f:Addr):Prop:=PySem.W.keepIn K (.ref f)=true
noncomputable def nD (K:PySem.W.Frag) (t:Fd):Prop:=∃(f:Addr) (oc:Value) (od:Option Addr) (kV dc pm:Value) (an:Option Addr) (cd ct:Value) (sl:Array (Option Value)),nA K t.nm f/\nL K f oc od t.nm t.st kV dc pm an cd ct sl/\nC K cd t.nm/\nK K f
theorem nD_i {K:PySem.W.Frag}{n:Str}{t:Fd}{f:Addr}{oc:Value}{od:Option Addr}{kV dc pm:Value}{an:Option Addr}{cd ct:Value}{sl:Array (Option Value)}(e:t.nm=n)(a:nA K n f)(l:nL K f oc od n t.st kV dc pm an cd ct sl)(c:nC K cd n)(k:nK K f):nD K t:=by
 subst e;exact⟨_,_,_,_,_,_,_,_,_,_,a,l,c,k⟩
noncomputable def bO (t:Fd):Prop:=FnScope t.N t.ps (zar t.st)/\t.m.length=t.ps.length/\∀(kV doc pm:Value) (an:Option Addr) (cdv ct:Value) (us:List Value),us.length=t.ps.length->bindArgs (PySem.W.fnOf t.nm t.nm (zfj t.st) (zdl t.st) (zar t.st) .none kV doc pm an cdv ct) ⟨us,[]⟩=pure (t.ps.zip us)
theorem z9d {K:PySem.W.Frag}{h:Heap}{mg:Str->Option Value}(X:K.In h)(G:h.Ns mainGlobals mg){t:Fd}(b:bO t)(lm:t.nm∈lams->zw7 K t.nm=true)(d:nD K t):FdOk K mg t:=by
 obtain⟨f,oc,od,kV,dc,pm,an,cd,ct,sl,a,l,c,k⟩:=d;have F:=zz4 (st:=t.st) l c k;exact⟨b.1,b.2.1,⟨_,_,F,F.binds b.2.2,PySem.W.mg_of X G a⟩,lm⟩
theorem nd_T:(T.map (·.nm)).Nodup:=by decide +kernel
theorem all_c {α:Type}{P:α->Prop}{a:α}{l:List α}(h:P a)(r:∀x∈l,P x):∀x∈a::l,P x:=List.forall_mem_cons.mpr ⟨h,r⟩
theorem all_n {α:Type}{P:α->Prop}:∀x∈([]:List α),P x:=fun _ h=>nomatch h
@[elab_as_elim] theorem lenS {α:Type}{P:List α->Prop}{n:Nat} (us:List α) (hl:us.length=n+1) (h:∀a l,l.length=n->P (a::l)):P us:=by
 cases us with
 | nil=>cases hl
 | cons a l=>exact h a l (Eu hl)
@[elab_as_elim] theorem len0 {α:Type}{P:List α->Prop} (us:List α) (hl:us.length=0) (h:P []):P us:=by
 cases us with
 | nil=>exact h
 | cons a l=>cases hl
@[elab_as_elim] theorem len1 {α:Type}{P:List α->Prop} (us:List α) (hl:us.length=1) (h:∀a,P [a]):P us:=lenS us hl fun a l e=>len0 l e (h a)
@[elab_as_elim] theorem len2 {α:Type}{P:List α->Prop} (us:List α) (hl:us.length=2) (h:∀a b,P [a,b]):P us:=lenS us hl fun a l e=>lenS l e fun b l e=>len0 l e (h a b)
@[elab_as_elim] theorem len3 {α:Type}{P:List α->Prop} (us:List α) (hl:us.length=3) (h:∀a b c,P [a,b,c]):P us:=lenS us hl fun a l e=>len2 l e (h a)
theorem z3i:bO zpu:=⟨#v[0,0,5],rfl,fun _ _ _ _ _ _ us hl=>len2 us hl fun _ _=>rfl⟩
theorem zx5:bO zil:=⟨#v[0,0,5],rfl,fun _ _ _ _ _ _ us hl=>len1 us hl fun _=>rfl⟩
theorem zqn:bO zes:=⟨#v[0,0,5],rfl,fun _ _ _ _ _ _ us hl=>len1 us hl fun _=>rfl⟩
theorem z2f:bO zo2:=⟨#v[0,0,5],rfl,fun _ _ _ _ _ _ us hl=>len2 us hl fun _ _=>rfl⟩
theorem z60:bO zw1:=⟨#v[0,0,5],rfl,fun _ _ _ _ _ _ us hl=>len1 us hl fun _=>rfl⟩
theorem zhe:bO zbk:=⟨#v[0,0,5],rfl,fun _ _ _ _ _ _ us hl=>len2 us hl fun _ _=>rfl⟩
theorem zq4:bO zej:=⟨#v[0,0,5],rfl,fun _ _ _ _ _ _ us hl=>len1 us hl fun _=>rfl⟩
theorem zhj:bO zbw:=⟨#v[0,0,5],rfl,fun _ _ _ _ _ _ us hl=>len1 us hl fun _=>rfl⟩
theorem zlh:bO zc3:=⟨#v[0,0,5],rfl,fun _ _ _ _ _ _ us hl=>len1 us hl fun _=>rfl⟩
theorem zqj:bO zez:=⟨#v[0,0,5],rfl,fun _ _ _ _ _ _ us hl=>len2 us hl fun _ _=>rfl⟩
theorem zkm:bO zcx:=⟨#v[0,0,5],rfl,fun _ _ _ _ _ _ us hl=>len1 us hl fun _=>rfl⟩
theorem zkb:bO zc5:=⟨#v[0,0,5],rfl,fun _ _ _ _ _ _ us hl=>len2 us hl fun _ _=>rfl⟩
theorem zl0:bO zdg:=⟨#v[0,0,5],rfl,fun _ _ _ _ _ _ us hl=>len1 us hl fun _=>rfl⟩
theorem zk0:bO zc6:=⟨#v[0,0,5],rfl,fun _ _ _ _ _ _ us hl=>len2 us hl fun _ _=>rfl⟩
theorem zlf:bO zcv:=⟨#v[0,0,5],rfl,fun _ _ _ _ _ _ us hl=>len1 us hl fun _=>rfl⟩
theorem zkl:bO zc0:=⟨#v[0,0,5],rfl,fun _ _ _ _ _ _ us hl=>len1 us hl fun _=>rfl⟩
theorem zlr:bO zde:=⟨#v[0,0,5],rfl,fun _ _ _ _ _ _ us hl=>len1 us hl fun _=>rfl⟩
theorem zkj:bO zcu:=⟨#v[0,0,5],rfl,fun _ _ _ _ _ _ us hl=>len3 us hl fun _ _ _=>rfl⟩
theorem zhq:bO zbv:=⟨#v[0,0,5],rfl,fun _ _ _ _ _ _ us hl=>len1 us hl fun _=>rfl⟩
theorem zq6:bO ze4:=⟨#v[0,0,5],rfl,fun _ _ _ _ _ _ us hl=>len1 us hl fun _=>rfl⟩
theorem zm0:bO zd0:=⟨#v[0,0,5],rfl,fun _ _ _ _ _ _ us hl=>len2 us hl fun _ _=>rfl⟩
theorem zew:bO zax:=⟨#v[0,0,5],rfl,fun _ _ _ _ _ _ us hl=>len2 us hl fun _ _=>rfl⟩
theorem z69:bO znb:=⟨#v[0,0,5],rfl,fun _ _ _ _ _ _ us hl=>len1 us hl fun _=>rfl⟩
theorem all_mk {l:PySem.W.OpenLaw}{w:World}{K:PySem.W.Frag}{h:Heap}{mg:Str->Option Value}{fa:Addr} (X:K.In h) (G:h.Ns mainGlobals mg) (hfa:mg "law" = some (.ref fa)) (D:∀t∈T,nD K t) (M:∀x∈(["law"]:List Str),zw7 K x=true) (Z:∀x∈bn,PySem.W.nsIn K mainGlobals x=some none) :
  ∃fd:FuncData,(∀(s:Shared) (v:Value),BindsTo s fd ⟨[v],[]⟩ [("_law_script",v)])/\∀base:Heap,K.In base->base.Ns mainGlobals mg->FnOk l.prog w K mg base CX0 40 fa fd ["_law_script"] (spF K [false] (sem T bn 40 "law")):=by
 have B:∀t∈T,bO t:=all_c z3i (all_c zx5 (all_c zqn (all_c z2f (all_c z60 (all_c zhe (all_c zq4 (all_c zhj (all_c zlh (all_c zqj (all_c zkm (all_c zkb (all_c zl0 (all_c zk0 (all_c zlf (all_c zkl (all_c zlr (all_c zkj (all_c zhq (all_c zq6 (all_c zm0 (all_c zew (all_c z69 (all_n)))))))))))))))))))))));have q:∀t∈T,t.nm∈lams->t.nm∈(["law"]:List Str):=by decide +kernel
 obtain⟨f,oc,od,kV,dc,pm,an,cd,ct,sl,a,lk,c,k⟩:=D znb (by simp [T]);have F:=zz4 (st:=znb.st) lk c k;have e:=hfa.symm.trans (PySem.W.mg_of X G a);cases e;exact⟨_,fun s v=>.of_eq rfl,fun base kb nb=>zv7 nd_T (fun t ht=>z9d X G (B t ht) (fun hl=>M _ (q t ht hl)) (D t ht)) (fun x hx=>PySem.W.mg_none_of X G (Z x hx)) kb nb 40 znb (by simp [T]) _ _ F (PySem.W.mg_of X G a)⟩
theorem walk {l:PySem.W.OpenLaw}{q:Program}{loose:List Str}{XP:(Str->Option Value)->Heap->Prop}{YP:World->Heap->Prop}{d:DefRec}{K:Params->PySem.W.Frag} (hn:l.most=some 63) (hdf:d.params.defaults=[])
  (hY:∀(w:World) (h:Heap),YP w h->(K w.params).In h)
  (nt:∀w:World,PySem.W.noTabs (K w.params)=true) (nd:∀w:World,zu9 (K w.params)=true) (hrec:∀(w:World),∀x∈lams,∀c P,PySem.W.tabIn (K w.params) x=some (c,P)->∃d,(recsOf q).find? (fun e=>e.name == x)=some d)
  (F:∀(w:World) (mg:Str->Option Value) (fa:Addr) (h:Heap),(K w.params).In h->h.Ns mainGlobals mg->mg d.name=some (.ref fa) ->
   ∃fd:FuncData,(∀(s:Shared) (u:Value),BindsTo s fd ⟨[u],[]⟩ [("_law_script",u)])/\∀base:Heap,(K w.params).In base->base.Ns mainGlobals mg->FnOk l.prog w (K w.params) mg base CX0 40 fa fd ["_law_script"] (spF (K w.params) [false] (sem T bn 40 "law"))) :
  PySem.W.WalkO q loose XP YP l.row.toRowW d [] (fun f vs=>PySem.call f vs) :=
 L2.walk_ofT (n:=63) (k:=40) (x := "_law_script") (CX:=fun _=>CX0) (sp:=fun w=>spF (K w.params) [false] (sem T bn 40 "law")) hn #v[0,9] hdf ⟨rfl,by decide,by decide,rfl⟩ hY nt nd hrec F (fun _ _ _ a ns hl st hS=>zqa st.sub st.tb hS (ws':=[.frl (ns.map W.int)]) (zwx ns hl) rfl) fun _ _ _ _ _ z=>z
end My
open PySem PySem.W PyProof.Rows
set_option maxRecDepth 100000 in
set_option maxHeartbeats 0 in
theorem PySem.Challenge.cw_yesnowords_k34_flats_of_words_holds : PySem.Challenge.rw_yesnowords_k34_flats_of_words.Holds := by
 w_on;o_law;k_head;(case hw=>w_witness2)
 k_fill
 refine My.walk (l:=PySem.Challenge.rw_yesnowords_k34_flats_of_words) rfl rfl (fun w h Y=>by first | exact PySem.W.kIn_of Y | exact PySem.W.km_in_of Y) ?nt ?nd ?hrec ?F
 case nt=>exact fun w=>by kernel_rfl
 case nd=>exact fun w=>by kernel_rfl
 case hrec =>
  intro w x hx c P e;simp only [L2.lams,Ax,Dc,or_false] at hx;rcases hx with rfl | rfl | rfl | rfl | rfl
  ·exact nomatch (Eq.trans (by kernel_rfl) e:(none:Option (Addr × Addr))=some (c,P))
  ·exact nomatch (Eq.trans (by kernel_rfl) e:(none:Option (Addr × Addr))=some (c,P))
  ·exact nomatch (Eq.trans (by kernel_rfl) e:(none:Option (Addr × Addr))=some (c,P))
  ·exact nomatch (Eq.trans (by kernel_rfl) e:(none:Option (Addr × Addr))=some (c,P))
  ·exact Gs.mp (by kernel_rfl)
 case F =>
  intro w mg fa h KX G hmg;refine My.all_mk KX G hmg ?xD ?xM ?xZ
  case xM=>exact My.all_c (by kernel_rfl) (My.all_n)
  case xZ =>
   refine' My.all_c ?_ (My.all_c ?_ (My.all_c ?_ (My.all_c ?_ (My.all_c ?_ (My.all_c ?_ (My.all_c ?_ (My.all_c ?_ (My.all_c ?_ (My.all_c ?_ (My.all_c ?_ (My.all_c ?_ (My.all_c ?_ (My.all_c ?_ (My.all_c ?_ (My.all_n)))))))))))))))
   any_goals k_is
  case xD =>
   refine' My.all_c (My.nD_i (n := "says") rfl ?_ ?_ ?_ ?_) (My.all_c (My.nD_i (n := "where") rfl ?_ ?_ ?_ ?_) (My.all_c (My.nD_i (n := "word_at") rfl ?_ ?_ ?_ ?_) (My.all_c (My.nD_i (n := "plus") rfl ?_ ?_ ?_ ?_) (My.all_c (My.nD_i (n := "top") rfl ?_ ?_ ?_ ?_) (My.all_c (My.nD_i (n := "without_tops") rfl ?_ ?_ ?_ ?_) (My.all_c (My.nD_i (n := "base_of") rfl ?_ ?_ ?_ ?_) (My.all_c (My.nD_i (n := "flat_places") rfl ?_ ?_ ?_ ?_) (My.all_c (My.nD_i (n := "flat_word") rfl ?_ ?_ ?_ ?_) (My.all_c (My.nD_i (n := "flat_of") rfl ?_ ?_ ?_ ?_) (My.all_c (My.nD_i (n := "_law_hand") rfl ?_ ?_ ?_ ?_) (My.all_c (My.nD_i (n := "_law_take") rfl ?_ ?_ ?_ ?_) (My.all_c (My.nD_i (n := "_law_many") rfl ?_ ?_ ?_ ?_) (My.all_c (My.nD_i (n := "_law_bits") rfl ?_ ?_ ?_ ?_) (My.all_c (My.nD_i (n := "_law_word") rfl ?_ ?_ ?_ ?_) (My.all_c (My.nD_i (n := "_law_sums") rfl ?_ ?_ ?_ ?_) (My.all_c (My.nD_i (n := "_law_base") rfl ?_ ?_ ?_ ?_) (My.all_c (My.nD_i (n := "_law_flat") rfl ?_ ?_ ?_ ?_) (My.all_c (My.nD_i (n := "_law_places") rfl ?_ ?_ ?_ ?_) (My.all_c (My.nD_i (n := "_law_at") rfl ?_ ?_ ?_ ?_) (My.all_c (My.nD_i (n := "_law_due") rfl ?_ ?_ ?_ ?_) (My.all_c (My.nD_i (n := "_law_some_words") rfl ?_ ?_ ?_ ?_) (My.all_c (My.nD_i (n := "law") rfl ?_ ?_ ?_ ?_) (My.all_n)))))))))))))))))))))))
   any_goals (first | (delta My.nA;k_is) | (delta My.nL;k_is) | (delta My.nC;k_is) | (delta My.nK;k_is) | k_is)