import PyProof.Rows.All
import Wide.All
import OpenK.AllK
import Wide.FinOn
import Lean
import PyProof.EqAt
import PyProof.EqKinds
import PyProof.TupleCall
import PySem.Challenge.RW_yesnowords_k11_polynomials_together
set_option Elab.async false
set_option linter.all false
set_option compiler.extract_closed false
set_option bootstrap.genMatcherCode false
set_option maxRecDepth 100000
open Option renaming some → Za, none → Zb
open Bool renaming false → Zc, true → Zd
open PySem renaming Value → Ze, Shared → Zf, Addr → Zh, Expr → Zi
open PySem.W renaming Frag → Zg
def Aa:=@PySem.wpAny_bind
def Ab:=@PySem.Heap.get?_push_of_some
def Ac:=@PySem.wpAny_pure
def Ad:=@List.length_map
def Ae:=@Bool.and_eq_true
def Af:=@List.getElem?_eq_getElem
def Ag:=@Nat.le_refl
def Ah:=@PySem.Heap.get?_push_size
def Ai:=@List.getElem?_eq_some_iff
def Aj:=@PySem.Heap.lt_size
def Ak:=@List.map_cons
def Am:=@List.size_toArray
def An:=@decide_eq_true
def Ao:=@List.mem_singleton
def Ap:=@PyProof.Rows.wpS_bind
def Aq:=@Bool.false_ne_true
def Ar:=@List.mem_cons
def As:=@of_decide_eq_true
def At:=@List.getElem?_map
def Au:=@List.mem_cons_of_mem
def Av:=@PyProof.Rows.wpS_pure
def Aw:=@Nat.ne_of_lt
def Ax:=@List.length_append
def Ay:=@Array.length_toList
def Az:=@List.mem_cons_self
def Ba:=@List.mem_append_right
def Bb:=@List.append_assoc
def Bc:=@decide_eq_false
def Bd:=@List.length_cons
def Be:=@Nat.lt_of_lt_of_le
def Bf:=@List.all_eq_true
def Bg:=@List.mem_append
def Bh:=@List.zip_cons_cons
def Bi:=@Nat.zero_le
def Bj:=@List.map_append
def Bk:=@List.all_cons
def Bl:=@PySem.Heap.SameBut.update
def Bm:=@LawfulBEq.eq_of_beq
def Bn:=@List.lookup_cons
def Bo:=@Array.toList_append
def Bp:=@PySem.wpAny_newObj_type
def Bq:=@PySem.wpAny_holding
def Br:=@List.take_append_drop
def Bs:=@PySem.wpAny_callSpecial?_slot
def Bt:=@PySem.mem_of_lookup
def Bu:=@List.pairwise_append
def Bv:=@List.append_nil
def Bw:=@Array.getElem?_eq_getElem
def Bx:=@List.not_mem_nil
def By:=@Bool.not_eq_true
def Bz:=@List.mem_map
def Ca:=@List.map_map
def Cb:=@Array.getElem?_eq_none
def Cc:=@PySem.wpAny_call_entry
def Cd:=@Array.getElem?_toList
def Ce:=@Nat.zero_add
def Cf:=@Nat.le_trans
def Cg:=@Nat.lt_irrefl
def Ch:=@List.mem_iff_getElem
def Ci:=@PyProof.Rows.wpS_forRange
def Cj:=@List.mem_range
def Ck:=@Bool.or_eq_true
def Cm:=@List.length_take
def Cn:=@List.any_cons
def Co:=@List.map_congr_left
def Cp:=@PySem.codeAny_builtin
def Cq:=@PySem.Heap.size_push
def Cr:=@Array.toList_push
def Cs:=@PySem.wpAny_rule
def Ct:=@PySem.wpAny_mono
def Cu:=@Bool.false_eq_true
def Cv:=@List.mem_filter
def Cw:=@PySem.Obj.data_mapFields
def Cy:=@List.drop_eq_getElem_cons
def Cz:=@PySem.Around.under_plainId
def Da:=@List.replicate_succ
def Db:=@List.pairwise_map
def Dc:=@PySem.W.kia_one
def Dd:=@List.nodup_cons
def De:=@PySem.wpAny_field
def Df:=@List.pairwise_cons
def Dg:=@List.mem_of_getElem?
def Dh:=@List.getElem?_set_ne
def Di:=@List.filter_cons
def Dj:=@List.any_eq_true
def Dk:=@PySem.wpAny_loadPart'
def Dl:=@List.ext_getElem?
def Dm:=@List.getElem?_append_left
def Dn:=@List.getElem?_eq_none
def Do:=@Option.bind_some
def Dp:=@List.take_length
def Dq:=@Nat.lt_succ_of_lt
def Dr:=@List.take_sublist
def Ds:=@List.flatMap_cons
def Dt:=@List.filter_congr
def Du:=@List.count_append
def Dv:=@PySem.wpAny_attempt
def Dw:=@PyProof.Rows.callWith_type1
def Dx:=@List.getElem?_set_self
def Dy:=@Nat.le_add_right
def Dz:=@List.getD_eq_getElem?_getD
def Ea:=@Bool.not_eq_false'
def Eb:=@PyProof.Rows.wpS_mono
def Ec:=@List.of_mem_zip
def Ed:=@List.length_set
def Ee:=@List.length_nil
def Ef:=@List.find?_cons
def Eg:=@Bool.eq_iff_iff
def Eh:=@PySem.wpAny_seqItems
def Ei:=@decide_eq_true_eq
def Ej:=@Nat.ne_of_gt
def Ek:=@List.length_range
def El:=@List.flatten_cons
def Em:=@Int.toNat_natCast
def Eo:=@PyProof.Rows.boot_sorted
def Ep:=@Option.isSome_iff_exists
def Er:=@PyProof.Rows.slot_tuple_getitem
def Es:=@PySem.codeAny_mono
def Et:=@List.take_zero
def Eu:=@List.length_eq_zero_iff
def Ev:=@List.length_drop
def Ew:=@Nat.min_self
def Ex:=@List.take_of_length_le
def Ey:=@PySem.wpAny_is_plain
def Ez:=@PySem.wpAny_isInstance
def Fa:=@if_false
def Fb:=@PySem.wpAny_typeNameOfWhole_keyiter
def Fc:=@PySem.wpAny_of_eq
def Fe:=@if_true
def Ff:=@List.drop_sublist
def Fg:=@PySem.wpAny_setField_rec
def Fh:=@PySem.wpAny_Call_Name_kw
def Fi:=@Nat.pow_le_pow_right
def Fj:=@List.nodup_nil
def Fm:=@List.getElem?_mapIdx
def Fp:=@List.getElem?_append_right
def Fq:=@List.forIn_nil
def Fs:=@List.drop_zero
def Ft:=@PySem.F.slot_dict_keyiterator_next
def Fu:=@Bool.false_and
def Fv:=@Array.perm_iff_toList_perm
def Fw:=@PySem.wpAny_standAt
def Fx:=@Nat.succ.inj
def Fy:=@List.map_nil
def Ga:=@List.getElem_mem
def Gb:=@PySem.Heap.get?_update_self
def Gc:=@Array.toList_map
def Ge:=@PySem.wpAny_truthy_bool
def Gf:=@PySem.wpAny_pyIter_list
def Gh:=@PyProof.Rows.F.plain_set_update_loop
def Gi:=@List.eraseDups_cons
def Gj:=@PySem.wpAny_setField
def Gk:=@or_false
def Gm:=@PySem.F.slot_tuple_iterator_next
def Gn:=@LawfulMonad.pure_bind
def Go:=@List.filter_nil
def Gp:=@PySem.wpAny_askSetting
def Gq:=@of_decide_eq_false
def Gr:=@PyProof.Rows.listUpdate_at
def Gs:=@Int.emod_lt_of_pos
def Gu:=@PySem.F.plain_list_iadd
def Gv:=@List.pairwise_singleton
def Gw:=@List.findIdx?_eq_some_iff_getElem
def Gx:=@PySem.wpAny_typeNameOf_keyiter
def Gy:=@PySem.wpAny_newList
def Gz:=@PySem.W.cellsFrom_some
def Ha:=@Option.map_eq_some_iff
def Hb:=@Nat.le_of_succ_le
def Hd:=@List.zipWith_cons_cons
def He:=@PySem.wpAny_pyIter_tuple
def Hg:=@List.length_replicate
def Hh:=@beq_self_eq_true
def Hi:=@Bool.and_true
def Hj:=@Array.toList_reverse
def Hk:=@Array.toArray_toList
def Hl:=@PyProof.Rows.get?_update_seq
def Hm:=@Option.map_some
def Hn:=@List.nil_append
def Ho:=@List.forIn_cons
def Hq:=@Int.emod_nonneg
def Hr:=@PySem.Obj.isFreed_of_fields
def Hs:=@Nat.add_sub_cancel'
def Ht:=@List.filterMap_cons
def Hu:=@Nat.le_of_eq
def Hv:=@PySem.plainId_quiet
def Hw:=@beq_iff_eq
def Hy:=@Nat.mod_two_eq_zero_or_one
def Hz:=@List.take_succ
def Ia:=@List.perm_ext_iff_of_nodup
def Ib:=@List.filter_append
def Ic:=@Bool.not_false
def Ie:=@PyProof.Rows.call_function_entry_kw
def Ig:=@PySem.wpAny_passesOwn
def Ih:=@List.pairwise_iff_getElem
def Ii:=@List.nodup_append
def Ij:=@PySem.F.args_tuple_add_2
def Ik:=@List.cons.inj
def Il:=@PySem.wpAny_runValue
def Im:=@PySem.Calls.spliced_cons
def Io:=@PySem.wpAny_setState_of
def Ip:=@PySem.wpAny_pyIter_enum
def Iq:=@PySem.Obj.cls_mapFields
def Ir:=@PySem.Heap.get?_push_ne
def Iu:=@PySem.Calls.spliced_nil
def Iv:=@PyProof.Rows.wpAny_call_entry_kw
def Iw:=@PyProof.Rows.wpS_get
namespace PySem.W.Fast
def tw2498807746094830264:=0
def tw15464788064940464711:=0
def tw12454999320516695748:=0
def tw8984174287830639699:=0
def tw9301240762747714587:=0
def tw11288272194655175690:=0
def tw2585193122714083383:=0
def tw11153685480980248724:=0
def tw11492144840870481439:=0
def tw2391917830501955965:=0
def tw13981451908815780202:=0
def tw12494205662145236319:=0
def tw896494938623561070:=0
def tw16245740914770643017:=0
def tw11562657350250432797:=0
def tw11401805296066884484:=0
def tw5569792620505816257:=0
def tw4510264429273580183:=0
def tw8380622804535030580:=0
def tw6375685004488451676:=0
def tw3870388022478279509:=0
def tw1454338196217928475:=0
def tw10049590631652484082:=0
def tw1055184151143752312:=0
def tw6798788434733592091:=0
def tw17701605573553762131:=0
def tw3054732654492458419:=0
def tw6922842332648883844:=0
def tw16992055611360527761:=0
def tw13410409297604276650:=0
def tw10605923425550429491:=0
def tw11385316872356911403:=0
def tw12930437133502223686:=0
def tw12656052495280091934:=0
def tw5913449019525935490:=0
def tw1775254981730356563:=0
def tw17428641479523669154:=0
def tw7696458617743362271:=0
def tw8031591461964662251:=0
def tw13341659950322076303:=0
def tw7575318749457863215:=0
def tw16739370085705259396:=0
def tw901334399784691881:=0
def tw9933897176324872251:=0
def tw16151294743078820785:=0
def tw11906516605015592307:=0
def tw11970730342023553092:=0
def tw16354482541932401989:=0
def tw16409244047895500933:=0
def tw13749433847981326714:=0
def tw9879539640067090025:=0
def tw2582912129137716114:=0
def tw1133699692091786508:=0
def tw1337529584241399691:=0
def tw12851384148851726690:=0
def tw11876217152794520004:=0
def tw4420336255348504847:=0
def tw2370367761128882523:=0
def tw8033164089253185322:=0
def tw3427596293033058274:=0
def tw2204030985019734129:=0
def tw8878592175724472007:=0
def tw6496853614476500978:=0
def tw9361211721429171679:=0
def tw16449972748218371431:=0
def tw812561496975486642:=0
def tw8254871261900936852:=0
def tw10598503638979366520:=0
def tw9716330247649048957:=0
def tw4984690123735761644:=0
def tw4331333340537812559:=0
def tw4245305406619373808:=0
def tw5371788564288412743:=0
def tw127000321596522582:=0
def tw12209669299323663827:=0
def tw11826343685286528852:=0
def tw5793794135681367884:=0
def tw11674481721839731670:=0
def tw844141707742072090:=0
def tw1067412472426716409:=0
def tw14733107897635998824:=0
def tw13153579112168199940:=0
def tw3863790967984565822:=0
def tw15568865444623247185:=0
def tw13991983522989037407:=0
def tw4389627768685251017:=0
def tw5445143924185123247:=0
def tw3361023179406367357:=0
def tw10114966235770737898:=0
def tw9855008917889099907:=0
def tw7669529968066721183:=0
end PySem.W.Fast
theorem bS {α β}{o:Option α}{f:α->Option β}{b}(h:o.bind f=Za b):∃a,o=Za a/\f a=Za b:=Option.bind_eq_some_iff.mp h
theorem sI {α}{a b:α}(h:Za a=Za b):a=b:=Option.some.inj h
namespace L2
open PySem PySem.Spec PyProof.Rows
theorem aG {P:Prop}(h:∀G:Prop,(P->G)->G):P:=h P id
end L2
set_option hygiene false
local macro_rules | `(tactic| nofun) => `(tactic| refine L2.aG fun _ qG=>?_)
local macro_rules | `(tactic| ac_rfl) => `(tactic| (refine qG ?_;clear qG))
local macro_rules | `(#v[$x]) => `((gArg (gC (.int $x))))
local macro_rules | `(#v[$x,0]) => `(some (.int $x,false))
local macro_rules | `(#v[$x,1]) => `(some (.lst $x,false))
local macro_rules | `(#v[$x,2]) => `(some (.lst $x,true))
local macro_rules | `(#v[$x,3]) => `(some (.tup $x,false))
local macro_rules | `(#v[$x,4]) => `((gArg (gVar $x)))
local macro_rules | `(#v[$x,5]) => `(some ($x,true))
local macro_rules | `(#v[$x,6]) => `(some ($x,false))
local macro_rules | `(#v[0,0,0]) => `((oI yes2 fun i j=>.int (i - j)))
local macro_rules | `(#v[0,0,1]) => `((oI cPow fun i j=>.int (i * 2 ^ j.toNat)))
local macro_rules | `(#v[0,0,2]) => `((oI (fun _ j=>decide (0 < j)) fun i j=>.int (i % j)))
local macro_rules | `(#v[0,0,3]) => `((oI cDiv fun i j=>.int (i / j)))
local macro_rules | `(#v[]) => `((by omega))
local macro_rules | `(#v[0,0,5]) => `(⟨by kernel_rfl,by kernel_rfl,by kernel_rfl,by decide +kernel,rfl,by decide +kernel,by decide +kernel⟩)
local macro_rules | `(#v[0,9]) => `((by decide))
local macro_rules | `(#v[0,0,7]) => `((by decide +kernel))
local macro_rules | `(tactic| omega) => `(tactic| first | lia | omega +splitDisjunctions)

set_option hygiene true
namespace L2
open PySem PySem.Spec PyProof.Rows
noncomputable abbrev Key:=Sum Int Str
noncomputable def zmj:Key->Ze->Bool
 |.inl k,v=>Ze.isInt k v
 |.inr x,v=>Ze.isStrOf x v
noncomputable def keyH (w:World):Key->Int
 |.inl k=>hashInt k
 |.inr x=>hashStr w x
theorem keyIs_shape:∀{k:Key}{v:Ze},zmj k v=Zd->(∃i t,k=Sum.inl i/\v=Ze.int i t)\/(∃x t,k=Sum.inr x/\v=Ze.str x t)
 | .inl i,v,h=>by
  obtain⟨t,e⟩:=Ze.isInt_shape (k:=i) (v:=v) h;exact .inl ⟨i,t,rfl,e⟩
 | .inr x,v,h=>by
  obtain⟨t,e⟩:=Ze.isStrOf_shape (x:=x) (v:=v) h;exact .inr ⟨x,t,rfl,e⟩
theorem zs8 (i:Int)(t:Tok):zmj (.inl i) (.int i t)=Zd:=by simp [zmj,Ze.isInt]
theorem zsu (x:Str)(t:Tok):zmj (.inr x) (.str x t)=Zd:=by simp [zmj,Ze.isStrOf]
theorem z7t (a b:Int):decide ((Sum.inl a:Key)=Sum.inl b)=(a==b):=by
 by_cases e:a=b
 ·subst e;simp
 ·have h : ¬ (Sum.inl a:Key)=Sum.inl b:=λq=>e (Sum.inl.inj q);rw[Bc h];exact (beq_eq_false_iff_ne.mpr e).symm
theorem z78 (a b:Str):decide ((Sum.inr a:Key)=Sum.inr b)=decide (a=b):=by
 by_cases e:a=b
 ·subst e;simp
 ·have h : ¬ (Sum.inr a:Key)=Sum.inr b:=λq=>e (Sum.inr.inj q);rw[Bc h,Bc e]
theorem z70 (a:Int)(b:Str):decide ((Sum.inl a:Key)=Sum.inr b)=Zc:=Bc (λq=>nomatch q)
theorem z5p (a:Str)(b:Int):decide ((Sum.inr a:Key)=Sum.inl b)=Zc:=Bc (λq=>nomatch q)
noncomputable def zak (prog:Program) (w:World):PySem.KeyKind prog w Key where
 is:=zmj
 hash:=keyH w
 inj:=λv a b f d=>by
  rcases keyIs_shape f with⟨i,t,rfl,rfl⟩|⟨x,t,rfl,rfl⟩
  ·rcases keyIs_shape d with⟨j,u,rfl,e⟩|⟨y,u,rfl,e⟩
   ·injection e with e1 _;rw[e1]
   ·exact nomatch e
  ·rcases keyIs_shape d with⟨j,u,rfl,e⟩|⟨y,u,rfl,e⟩
   ·exact nomatch e
   ·injection e with e1 _;rw[e1]
 byValue:=λk v h=>by
  rcases keyIs_shape h with⟨i,t,rfl,rfl⟩|⟨x,t,rfl,rfl⟩<;>rfl
 pyHash:=λc h=>by
  rcases keyIs_shape c with⟨i,t,rfl,rfl⟩|⟨x,t,rfl,rfl⟩
  ·exact wpAny_pyHash_int h
  ·exact wpAny_pyHash_str h
 eqBool:=λg c h=>by
  rcases keyIs_shape g with⟨i,t,rfl,rfl⟩|⟨x,t,rfl,rfl⟩
  ·rcases keyIs_shape c with⟨j,u,rfl,rfl⟩|⟨y,u,rfl,rfl⟩
   ·rw[z7t] at h;exact wpAny_eqBool_int h
   ·rw[z70] at h;exact SeqAt.EqAt.int_str i t y u _ _ _ _ h
  ·rcases keyIs_shape c with⟨j,u,rfl,rfl⟩|⟨y,u,rfl,rfl⟩
   ·rw[z5p] at h;exact SeqAt.EqAt.str_int x t j u _ _ _ _ h
   ·rw[z78] at h;exact wpAny_eqBool_str h
 «strs»:=λk x t v h=>by
  rcases keyIs_shape h with⟨i,u,rfl,e⟩|⟨y,u,rfl,e⟩
  ·exact nomatch e
  ·injection e with e1 _;subst e1;cases v<;>rfl
theorem znc (prog:Program)(w:World)(i:Int)(t:Tok):(zak prog w).is (.inl i) (.int i t)=Zd:=zs8 i t
theorem zn9 (prog:Program)(w:World)(x:Str)(t:Tok):(zak prog w).is (.inr x) (.str x t)=Zd:=zsu x t
inductive V where
 |non|bl (b:Bool)|int (i:Int)|str (x:Str)|byt (b:Array UInt8)|flt (b:UInt64)|ref (a:Zh)|ty (n:String)
 deriving DecidableEq
noncomputable def RelV:V->Ze->Prop
 |.non,u=>u=Ze.none
 |.bl b,u=>u=Ze.bool b
 |.int i,u=>∃t,u=Ze.int i t
 |.str x,u=>∃t,u=Ze.str x t
 |.byt b,u=>∃t,u=Ze.bytes b t
 |.flt b,u=>∃t,u=Ze.float b t
 |.ref a,u=>u=Ze.ref a
 |.ty n,u=>u=Ze.type n
noncomputable abbrev Vals:List V->List Ze->Prop:=Paired RelV
theorem Vals.length {xs:List V}{us:List Ze}(r:Vals xs us):xs.length=us.length:=Paired.length r
theorem Vals.get:∀{b:List V}{a:List Ze}{i:Nat}{x:V},Vals b a->b[i]?=Za x->∃u,a[i]?=Za u/\RelV x u
 |_,_,_,_,.nil,e=>by simp at e
 |_,_,0,_,.cons r _,e=>by simp at e;subst e;exact⟨_,rfl,r⟩
 | _,_,i+1,x,.cons _ t,e=>by
  obtain⟨u,h,c⟩:=Vals.get (i:=i) (x:=x) t (by simpa using e);exact⟨u,by simpa using h,c⟩
theorem Vals.set {x:V}{u:Ze}(r:RelV x u):∀{b:List V}{a:List Ze} (i:Nat),Vals b a->Vals (b.set i x) (a.set i u)
 |_,_,_,.nil=>.nil
 |_,_,0,.cons _ t=>.cons r t
 |_,_,i+1,.cons q t=>.cons q (Vals.set r i t)
theorem Vals.append:∀{x y:List V}{u w:List Ze},Vals x u->Vals y w->Vals (x++y) (u++w)
 |_,_,_,_,.nil,s=>s
 |_,_,_,_,.cons r t,s=>.cons r (Vals.append t s)
theorem Vals.take:∀{x:List V}{u:List Ze} (n:Nat),Vals x u->Vals (x.take n) (u.take n)
 |_,_,0,_=>.nil
 |_,_,_+1,.nil=>.nil
 |_,_,n+1,.cons r t=>.cons r (Vals.take n t)
theorem Vals.drop:∀{x:List V}{u:List Ze} (n:Nat),Vals x u->Vals (x.drop n) (u.drop n)
 |_,_,0,r=>r
 |_,_,_+1,.nil=>.nil
 |_,_,n+1,.cons _ t=>Vals.drop n t
noncomputable def RelO:Option V->Option Ze->Prop
 |some v,Za u=>RelV v u
 |none,Zb=>True
 |_,_=>False
noncomputable def KV {κ:Type}:List (κ×V)->List (κ×Ze)->Prop:=Paired λ(p:κ×V) (q:κ×Ze)=>p.1=q.1/\RelV p.2 q.2
noncomputable def kV:Key->V
 |.inl i=>.int i
 |.inr x=>.str x
inductive HO where
 /-- a list -/
 |lst (xs:List V)
 /-- a tuple (never changes) -/
 |tup (xs:List V)
 /-- a dict whose keys are ints and texts;one whose keys are tuples of ints and texts (the empty one is both) -/
 |dK (kvs:List (Key×V))|dT (kvs:List (List Key×V))
 /-- a set of ints: its members,its size -/
 |set (S:Int->Bool) (n:Nat)
 /-- an instance of the class at C,its dict at dx,its attributes -/
 |ins (C dx:Zh) (fs:List (Str×V))
 /-- the dict of the instance at x -/
 |own (x:Zh)
 /-- the dict of an exception -/
 |xd (fs:List (Str×V))
 /-- a bound method,f of x -/
 |met (f x:Zh)
 /-- a range object lo,lo+1,.. below hi -/
 |rng (lo hi:Int)
 /-- a thing that is known to the object (the script;a dict while a loop walks it): read,never written while it is so -/
 |frz (o:Obj) (u:HO)
 /-- a code object's table -/
 |tbl (ps:Array Ze)
 /-- any other thing,by what is Zd of its one object (a def of one's own: SetO a S n:=HO.ext λh=>..) -/
 |ext (φ:Heap->Prop)
noncomputable abbrev Hp:=Zh->Option HO
noncomputable def upd (H:Hp) (a:Zh) (o:HO):Hp:=λb=>if b=a then Za o else H b
theorem upd_same {H:Hp}{a:Zh}{o:HO}:upd H a o a=Za o:=by unfold upd;rw[if_pos rfl]
theorem upd_ne {H:Hp}{a b:Zh}{o:HO}(h:b≠a):upd H a o b=H b:=by unfold upd;rw[if_neg h]
theorem znx {H:Hp}{a:Zh}{o u:HO}:upd (upd H a o) a u=upd H a u:=by
 funext b;unfold upd;split<;>rfl
theorem zzv {H:Hp}{a b:Zh}{o u:HO}(h:H a=Za o)(h':H b=Za u)(d:o≠u):a≠b:=by
 intro e;subst e;rw[h] at h';exact d (sI h')
theorem zad {H:Hp}{a b:Zh}{o:HO}(h:H a=Za o)(h':H b=Zb):a≠b:=by
 intro e;subst e;rw[h] at h';cases h'
section
variable (P:Program) (w:World)
noncomputable def ObjOk (H:Hp) (h:Heap) (a:Zh):HO->Prop
 |.lst b=>b.length<=sizeLine/\∃(i:List Ze) (n:Nat),Vals b i/\h.get? a=Za { cls:=.type "list",data:=.seq i.toArray n }
 |.tup b=>b.length<=sizeLine/\∃i:List Ze,Vals b i/\IsTup h a i.toArray
 |.dK kvs=>kvs.length<=sizeLine/\(a==sysModules)=Zc/\∃c,KV kvs c/\h.DictOf (zak P w) a c
 | .dT kvs=>kvs.length<=sizeLine/\(a==sysModules)=Zc/\∃b:List (List Key×Zh×Ze),
  Paired (λ(p:List Key×V) (q:List Key×Zh×Ze)=>p.1=q.1/\H q.2.1=Za (.tup (p.1.map kV))/\RelV p.2 q.2.2) kvs b /\
  ∃o e l,h.get? a=Za o/\o.ExactDict/\o.data=.dict e l/\e.toList=b.map (entryOfKey (tupleKind (zak P w)))/\(b.map (·.1)).Nodup
 |.set S n=>h.SetOf (intKind P w) a S n
 | .ins C d fs=>H d=Za (.own a)/\fs.length<=1000/\d≠a/\h.get? a=Za (PySem.W.instObj C d) /\
  ∃mA,h.Ns1 d mA/\(∀f,RelO (fs.lookup f) (mA f))/\PySem.Within mA (fs.map (·.1))
 |.own _=>∃o,h.get? a=Za o
 |.xd fs=>∃mA,h.Ns1 a mA/\∀f,RelO (fs.lookup f) (mA f)
 |.rng r m=>∃t u v,h.get? a=Za { cls:=.type "range",data:=.fields #[.int r t,.int m u,.int 1 v] }
 |.frz o u=>h.get? a=Za o/\ObjOk H h a u
 |.tbl k=>h.get? a=Za { cls:=.none,data:=.fields k }
 |.met f x=>h.get? a=Za (PySem.W.methodObj (.ref f) (.ref x))
 |.ext φ=>φ h/\(∃o,h.get? a=Za o)/\∀g j:Heap,φ g->(∀o,g.get? a=Za o->j.get? a=Za o)->φ j
noncomputable def HOk (H:Hp) (h:Heap):Prop:=∀a o,H a=Za o->ObjOk P w H h a o
end
section
variable {P:Program}{w:World}{H H' : Hp}{h h' : Heap}{a:Zh}{o:HO}
theorem ObjOk.lt (x:ObjOk P w H h a o):a<h.objs.size:=by
 cases o with
 |lst b=>obtain⟨_,_,_,_,e⟩:=x;exact Aj e
 |tup b=>obtain⟨_,_,_,p⟩:=x;exact p.lt
 |dK kvs=>obtain⟨_,_,_,_,o,_,_,e,_⟩:=x;exact Aj e
 |dT kvs=>obtain⟨_,_,_,_,o,_,_,e,_⟩:=x;exact Aj e
 |set S n=>obtain⟨o,_,_,_,e,_⟩:=x;exact Aj e
 |ins C g fs=>obtain⟨_,_,_,e,_⟩:=x;exact Aj e
 |own y=>obtain⟨_,e⟩:=x;exact Aj e
 |xd fs=>obtain⟨_,⟨_,_,_,e,_⟩,_⟩:=x;exact Aj e
 |rng l d=>obtain⟨_,_,_,e⟩:=x;exact Aj e
 |frz ob u=>obtain⟨e,_⟩:=x;exact Aj e
 |tbl c=>exact Aj (show h.get? a=Za _ from x)
 |met f y=>exact Aj (show h.get? a=Za _ from x)
 |ext φ=>obtain⟨_,⟨_,e⟩,_⟩:=x;exact Aj e
theorem Paired.mapP {α β:Type}{F G:α->β->Prop}:∀{c:List α}{l:List β},Paired F c l->(∀a b,F a b->G a b)->Paired G c l
 |_,_,.nil,_=>.nil
 |_,_,.cons r t,f=>.cons (f _ _ r) (Paired.mapP t f)
theorem ObjOk.stay (x:ObjOk P w H h a o) (k:∀b u,(b=a\/H b=Za (.own a))->h.get? b=Za u->h'.get? b=Za u)
  (D:∀b,H b=Za (.own a)->H' b=Za (.own a)) (G:∀b l,H b=Za (.tup l)->H' b=Za (.tup l)):ObjOk P w H' h' a o:=by
 induction o with
 |lst l=>obtain⟨z,j,n,r,e⟩:=x;exact⟨z,j,n,r,k _ _ (.inl rfl) e⟩
 |tup l=>obtain⟨z,j,r,ob,e,c⟩:=x;exact⟨z,j,r,ob,k _ _ (.inl rfl) e,c⟩
 |dK kvs=>obtain⟨z,y,E,r,ob,g,i,e,c⟩:=x;exact⟨z,y,E,r,ob,g,i,k _ _ (.inl rfl) e,c⟩
 | dT kvs =>
  obtain⟨z,y,l,r,ob,g,i,e,c⟩:=x;exact⟨z,y,l,Paired.mapP r λp q z=>⟨z.1,G _ _ z.2.1,z.2.2⟩,ob,g,i,k _ _ (.inl rfl) e,c⟩
 |set S n=>obtain⟨ob,g,i,t,e,c⟩:=x;exact⟨ob,g,i,t,k _ _ (.inl rfl) e,c⟩
 | ins C I fs =>
  obtain⟨d,z,ne,e,mA,⟨m,g,i,F,c⟩,r⟩:=x;exact⟨D _ d,z,ne,k _ _ (.inl rfl) e,mA,⟨m,g,i,k _ _ (.inr d) F,c⟩,r⟩
 |own y=>obtain⟨ob,e⟩:=x;exact⟨ob,k _ _ (.inl rfl) e⟩
 |xd fs=>obtain⟨mA,⟨m,g,i,e,c⟩,r⟩:=x;exact⟨mA,⟨m,g,i,k _ _ (.inl rfl) e,c⟩,r⟩
 |rng K J=>obtain⟨t,u,v,e⟩:=x;exact⟨t,u,v,k _ _ (.inl rfl) e⟩
 |frz ob u B=>obtain⟨e,q⟩:=x;exact⟨k _ _ (.inl rfl) e,B q⟩
 | tbl s =>
  have e:h.get? a=Za { cls:=.none,data:=.fields s }:=x;show h'.get? a=Za { cls:=.none,data:=.fields s };exact k a _ (.inl rfl) e
 | met f y =>
  have e:h.get? a=Za (PySem.W.methodObj (.ref f) (.ref y)):=x;show h'.get? a=Za (PySem.W.methodObj (.ref f) (.ref y));exact k a _ (.inl rfl) e
 |ext φ=>obtain⟨p,⟨o,e⟩,A⟩:=x;exact⟨A _ _ p λo q=>k _ _ (.inl rfl) q,⟨o,k _ _ (.inl rfl) e⟩,A⟩
theorem HOk.lt (x:HOk P w H h)(e:H a=Za o):a<h.objs.size:=(x a o e).lt
theorem HOk.fresh (x:HOk P w H h)(e:h.objs.size<=a):H a=Zb:=by
 cases q:H a with
 |none=>rfl
 |some u=>exact absurd (Be (x.lt q) e) (Cg _)
theorem HOk.kept (x:HOk P w H h)(k:∀b u,h.get? b=Za u->h'.get? b=Za u):HOk P w H h':=λa o e =>
 (x a o e).stay (λb u _ q=>k b u q) (λ_ q=>q) λ_ _ q=>q
theorem HOk.laid (x:HOk P w H h)(k:∀b u,h.get? b=Za u->h'.get? b=Za u)(g:h.objs.size<=a)(new:ObjOk P w (upd H a o) h' a o):HOk P w (upd H a o) h':=λb u e=>by
 have d:=x.fresh g;by_cases f:b=a
 ·subst f;rw[upd_same] at e;cases e;exact new
 ·rw[upd_ne f] at e;exact (x b u e).stay (λc v _ q=>k c v q) (λc q=>by rw[upd_ne (zad q d)];exact q) λc i q=>by rw[upd_ne (zad q d)];exact q
end
noncomputable def Rd (H:Hp) (a:Zh) (u:HO):Prop:=H a=Za u\/∃o,H a=Za (.frz o u)
theorem Rd.ok {P:Program}{w:World}{H:Hp}{h:Heap}{a:Zh}{u:HO}(r:Rd H a u)(x:HOk P w H h):ObjOk P w H h a u:=by
 rcases r with r|⟨o,r⟩
 ·exact x a u r
 ·obtain⟨_,q⟩:=x a _ r;exact q
noncomputable def Mut:Option HO->Prop
 |some (.lst _)=>True
 |some (.dK _)=>True
 |some (.dT _)=>True
 |some (.set _ _)=>True
 |some (.ins _ _ _)=>True
 |some (.ext _)=>True
 |_=>False
section
variable {P:Program}{w:World}{H:Hp}{h h' : Heap}{x e:Zh}{o' : HO}
theorem HOk.write (ok:HOk P w H h) (m:Mut (H x)) (l:e=x\/H e=Za (.own x)) (k:∀b u,b≠e->h.get? b=Za u->h'.get? b=Za u) (j:∃u,h'.get? e=Za u)
  (new:ObjOk P w (upd H x o') h' x o'):HOk P w (upd H x o') h':=λb u q=>by
 have n:∀c y,H c=Za (.own y)->c≠x:=λc y r z=>by subst z;rw[r] at m;exact m
 have d:∀c g,H c=Za (.tup g)->c≠x:=λc g r z=>by subst z;rw[r] at m;exact m
 by_cases i:b=x
 ·subst i;rw[upd_same] at q;cases q;exact new
 ·rw[upd_ne i] at q;by_cases a:b=e
  ·have o:H b=Za (.own x):=by
    rcases l with z|z
    ·exact absurd (a.trans z) i
    ·rw[a];exact z
   rw[q] at o;cases o;obtain⟨v,p⟩:=j;exact⟨v,by rw[a];exact p⟩
  ·refine (ok b u q).stay (λc v f r=>k c v ?_ r) (λc r=>by rw[upd_ne (n c b r)];exact r) λc g r=>by rw[upd_ne (d c g r)];exact r
   rcases f with rfl|f
   ·exact a
   ·rintro rfl;rcases l with z|z
    ·exact n c b f z
    ·rw[f] at z;cases z;exact i rfl
end
structure Un (fs ex:List Zh) (H H':Hp) (h h':Heap):Prop where
 keep:∀b o,h.get? b=Za o->H b=Zb->b ∉ fs->b ∉ ex->h'.get? b=Za o
 slot:∀b o,h.get? b=Za o->H b=Zb->b∈fs->b ∉ ex->∃sl,h'.get? b=Za { o with slots:=sl }
 free:∀b o,h.get? b=Za o->H b=Zb->b ∉ ex->H' b=Zb
 there:∀b o,h.get? b=Za o->b ∉ ex->∃o',h'.get? b=Za o'
 tups:∀b xs,H b=Za (.tup xs)->H' b=Za (.tup xs)
 frzs:∀b o u,H b=Za (.frz o u)->H' b=Za (.frz o u)
 tbls:∀b ps,H b=Za (.tbl ps)->∃more,H' b=Za (.tbl (ps++more))
section
variable {fs fs' ex ex' : List Zh}{H H1 H2:Hp}{h h1 h2 h' : Heap}{a x e:Zh}{o:HO}
theorem Un.any (u:Un fs ex H H1 h h1){b:Zh}{ob:Obj}(q:h.get? b=Za ob)(n:H b=Zb)(a:b ∉ ex):∃s,h1.get? b=Za { ob with slots:=s }:=by
 by_cases c:b∈fs
 ·exact u.slot b ob q n c a
 ·exact⟨ob.slots,u.keep b ob q n c a⟩
theorem Un.kept (k:∀b u,h.get? b=Za u->h'.get? b=Za u):Un fs ex H H h h' :=
 ⟨λb ob q _ _ _=>k b ob q,λb ob q _ _ _=>⟨ob.slots,k b ob q⟩,λ_ _ _ n _=>n,λb ob q _=>⟨ob,k b ob q⟩,λ_ _ q=>q,λ_ _ _ q=>q,λ_ p q=>⟨#[],by rw[q];simp⟩⟩
theorem Un.refl:Un fs ex H H h h:=Un.kept λ_ _ q=>q
theorem Un.laid (k:∀b u,h.get? b=Za u->h'.get? b=Za u)(d:h.objs.size<=a)(c:H a=Zb):Un fs ex H (upd H a o) h h' where
 keep:=λb u q _ _ _=>k b u q
 slot:=λb u q _ _ _=>⟨u.slots,k b u q⟩
 free:=λb u q n _=>by rw[upd_ne (Aw (Be (Aj q) d))];exact n
 there:=λb u q _=>⟨u,k b u q⟩
 tups:=λb x q=>by rw[upd_ne (zad q c)];exact q
 frzs:=λb u x q=>by rw[upd_ne (zad q c)];exact q
 tbls:=λb p q=>⟨#[],by rw[upd_ne (zad q c),q];simp⟩
theorem Un.write (m:Mut (H x))(i:e=x\/H e=Za (.own x))(k:∀b u,b≠e->h.get? b=Za u->h'.get? b=Za u)(d:∃u,h'.get? e=Za u):Un fs ex H (upd H x o) h h':=by
 have f:∀b,H b=Zb->b≠x:=λb n z=>by subst z;rw[n] at m;exact m
 have g:∀b,H b=Zb->b≠e:=λb n z=>by
  subst z;rcases i with r|r
  ·exact f b n r
  ·rw[n] at r;cases r
 have c:∀b u,H b=Za u->¬ Mut (Za u)->b≠x:=λb u q nm z=>by subst z;rw[q] at m;exact nm m
 refine⟨λb u q n _ _=>k b u (g b n) q,λb u q n _ _=>⟨u.slots,k b u (g b n) q⟩,λb u q n _=>by rw[upd_ne (f b n)];exact n,λb u q _=>?_,
  λb j q=>by rw[upd_ne (c b _ q λz=>z)];exact q,λb u j q=>by rw[upd_ne (c b _ q λz=>z)];exact q,λb p q=>⟨#[],by rw[upd_ne (c b _ q λz=>z),q];simp⟩⟩
 by_cases a:b=e
 ·subst a;exact d
 ·exact⟨u,k b u a q⟩
end
noncomputable def trk (h:Heap) (H:Hp):List Zh:=(List.range h.objs.size).filter λa=>(H a).isSome
noncomputable def hidT (h:Heap) (H:Hp):Heap:=PySem.W.hideAll h (trk h H)
theorem zvi (h:Heap)(H:Hp):(hidT h H).objs.size=h.objs.size:=PySem.W.hideAll_size _ _
theorem zzu {h:Heap}{H:Hp}{b:Zh}{o:Obj}(e:h.get? b=Za o)(n:H b=Zb):(hidT h H).get? b=Za o :=
 PySem.W.hideAll_get _ e λa=>by
  have q:(H b).isSome=Zd:=(Cv.mp a).2;rw[n] at q;simp at q
theorem z38 {h:Heap}{H:Hp}{b:Zh}{o:Obj} (e:(hidT h H).get? b=Za o):h.get? b=Za o/\H b=Zb:=by
 have a:h.get? b=Za o:=PySem.W.of_hideAll (trk h H) e;refine⟨a,?_⟩;cases q:H b with
 |none=>rfl
 | some x =>
  have c:b∈trk h H:=Cv.mpr ⟨Cj.mpr (Aj a),by simp [q]⟩;have z:(hidT h H).get? b=Zb:=PySem.W.hideAll_none (trk h H) c;rw[z] at e;cases e
noncomputable def z2m (g h:Heap) (L:Zh):List (Zh×Obj):=(List.range h.objs.size).filterMap λa=>if a=L\/(g.get? a).isSome=Zd then Zb else (h.get? a).map λo=>(a,o)
noncomputable def rest (g h:Heap) (L d:Zh):List (Zh×Obj):=(z2m g h L).filter λp=>decide (p.1≠d)
structure Mod (K:Zg) (mg:Str->Option Ze) (base:Heap):Prop where
 kin:K.In base
 glob:base.Ns mainGlobals mg
 blt:∃mb,base.Ns builtinsNs mb/\∀x:Str,x≠"__name__" -> mb x=bootBuiltins x
 nolimit:base.NoLimit
 bmn:∃(b:Zh) (ob:Obj),mg "__builtins__" = Za (.ref b)/\b≠builtinsNs/\base.get? b=Za ob/\ob.cls=.type "module"/\ob.dict=Za builtinsNs/\ob.data=.plain
structure Cx where
 prog:Program
 w:World
 K:Zg
 mg:Str->Option Ze
 base:Heap
 A:Around
 N:List Str
 s₀:Zf
 H₀:Hp
 env:Env
 outer:List Env
 stack:List Env
 ex:List Zh
 fn:Str->Bool
 calm:Bool
 pn:List (Zh×Obj)
 xe:Ze->Zf->Prop
noncomputable def frs (l:List Env):List Zh:=l.filterMap (·.frame)
noncomputable abbrev Cx.fs (X:Cx):List Zh:=frs X.outer
noncomputable def Vis (s:Scope) (x:Str):Prop:=s.names.lookup x=Za .local\/s.names.lookup x=Za .cell\/s.names.lookup x=Za .free
noncomputable def Loc (s:Scope) (x:Str):Prop:=s.names.lookup x=Za .local\/s.names.lookup x=Za .cell
noncomputable def Look (env:Env) (h:Heap) (m:Str->Option Ze) (x:Str) (u:Ze):Prop :=
 (env.kindOf x=Za .local/\m x=Za u)\/((env.kindOf x=Za .cell\/env.kindOf x=Za .free)/\∃c,env.cells.lookup x=Za c/\h.IsCell c (Za u))
structure Cx.Ok (X:Cx):Prop where
 mod:Mod X.K X.mg X.base
 kind:X.env.scope.kind=.function
 glob:X.env.globals=mainGlobals
 blt:X.env.builtins=builtinsNs
 above:X.s₀.heap.objs.size<=X.env.locals
 inj:∀x y c,X.env.cells.lookup x=Za c->X.env.cells.lookup y=Za c->x=y
 has:∀x,(X.env.kindOf x=Za .cell\/X.env.kindOf x=Za .free)->∃c,X.env.cells.lookup x=Za c
 cab:∀x c,X.fn x=Zd->X.env.cells.lookup x=Za c->X.s₀.heap.objs.size<=c
 hd:X.calm=Zd->X.A.handled=Zb
 frames:X.A.frames=Za X.stack
 stk:X.stack=X.outer\/(X.stack=X.env::X.outer/\X.env.frame=Za X.env.locals)
 exf:∀b∈X.ex,b≠X.env.locals/\∀x c,X.env.cells.lookup x=Za c->c≠b
 bs:∀b o,X.base.get? b=Za o->X.s₀.heap.get? b=Za o/\X.H₀ b=Zb
 bsz:X.base.objs.size<=X.s₀.heap.objs.size
 noex:∀b o,X.base.get? b=Za o->b ∉ X.ex
 exfs:∀b∈X.ex,b ∉ X.fs
 funs:X.s₀.heap.FunFrames X.base X.outer
 frf:∀b∈X.fs,X.H₀ b=Zb
structure Inv (X:Cx) (pins:List (Zh×Obj)) (σ:List (Option V)) (H:Hp) (s:Zf):Prop where
 ok:X.Ok
 os:s.os=X.s₀.os
 bare:AllBare s.gens
 base:Un X.fs X.ex X.H₀ H X.s₀.heap s.heap
 loc:∃m,s.heap.Ns X.env.locals m/\∀(i:Nat) (x:Str) (v:V),X.N[i]?=Za x->σ[i]?=Za (Za v)->Vis X.env.scope x->∃u,RelV v u/\Look X.env s.heap m x u
 cell:∀x c,X.env.cells.lookup x=Za c->∃v,s.heap.IsCell c v
 free:H X.env.locals=Zb
 freeC:∀x c,X.env.cells.lookup x=Za c->H c=Zb
 pin:∀p∈X.pn++pins,s.heap.get? p.1=Za p.2/\H p.1=Zb/\p.1≠X.env.locals/\p.1 ∉ X.fs/\∀v,p.2.data≠.cell v
 hok:HOk X.prog X.w H s.heap
 len:σ.length=X.N.length
section
variable {X:Cx}{pins:List (Zh × Obj)}{σ:List (Option V)}{H H' : Hp}{s:Zf}{h' : Heap}
theorem Cx.Ok.nofr (ok:X.Ok){b:Zh}{o:Obj}(e:X.base.get? b=Za o):b ∉ X.fs:=λh=>by
 have:=(ok.funs.mem h).1;rw[e] at this;cases this
theorem Inv.bs (I:Inv X pins σ H s):∀b o,X.base.get? b=Za o->s.heap.get? b=Za o/\H b=Zb:=λb o e =>
 ⟨I.base.keep b o (I.ok.bs b o e).1 (I.ok.bs b o e).2 (I.ok.nofr e) (I.ok.noex b o e),I.base.free b o (I.ok.bs b o e).1 (I.ok.bs b o e).2 (I.ok.noex b o e)⟩
theorem Inv.bk (I:Inv X pins σ H s):∀b o,X.base.get? b=Za o->s.heap.get? b=Za o:=λb o e=>(I.bs b o e).1
theorem Inv.mod (I:Inv X pins σ H s):Mod X.K X.mg X.base:=I.ok.mod
theorem Inv.kIn (I:Inv X pins σ H s):X.K.In s.heap:=I.ok.mod.kin.keeps I.bk
theorem Inv.lt (I:Inv X pins σ H s):X.env.locals<s.heap.objs.size:=let ⟨_,h,_⟩:=I.loc;h.lt
theorem Inv.sz (I:Inv X pins σ H s):X.s₀.heap.objs.size<=s.heap.objs.size:=Cf I.ok.above (Nat.le_of_lt I.lt)
theorem Inv.nofs (I:Inv X pins σ H s){a:Zh}(h:s.heap.objs.size<=a):a ∉ X.fs:=λc=>by
 obtain⟨_,o,b,_⟩:=I.ok.funs.mem c;exact absurd (Be (Aj b) (Cf I.sz h)) (Cg _)
theorem Inv.cne (I:Inv X pins σ H s):∀x c,X.env.cells.lookup x=Za c->c≠X.env.locals:=λx c e z=>by
 obtain⟨v,o,b,d⟩:=I.cell x c e;obtain⟨m,⟨i,f,g,h,a,_⟩,_⟩:=I.loc;rw[z,h] at b;cases b;rw[a] at d;cases d
theorem Inv.funs (I:Inv X pins σ H s):s.heap.FunFrames X.base X.outer:=by
 have all:∀(l:List Env),(∀b∈frs l,b∈X.fs)->X.s₀.heap.FunFrames X.base l->s.heap.FunFrames X.base l:=by
  intro l
  induction l with
  |nil=>intro _ _;trivial
  | cons env r i =>
   intro d n;obtain⟨g,⟨L,o,a,j,f,k⟩,m⟩:=n;have h:L∈X.fs:=d L (by unfold frs;rw[Ht,a];exact Az);obtain⟨p,e⟩:=I.base.slot L o f (I.ok.frf L h) h λz=>I.ok.exfs L z h;exact⟨g,⟨L,_,a,j,e,k⟩,i (λb c=>d b (by unfold frs;rw[Ht,a];exact Au _ c)) m⟩
 exact all X.outer (λ_ c=>c) I.ok.funs
theorem Inv.stack (I:Inv X pins σ H s):s.heap.FunFrames X.base X.stack:=by
 rcases I.ok.stk with e|⟨e,h⟩
 ·rw[e];exact I.funs
 ·rw[e];obtain⟨m,a,_⟩:=I.loc;refine .cons (by rw[I.ok.kind];decide) h a ?_ I.funs;exact Heap.get?_none_of_le (Cf I.ok.bsz I.ok.above)
theorem Inv.stkSub (I:Inv X pins σ H s):∀b∈frs X.stack,b∈X.env.locals::X.fs:=λb h=>by
 rcases I.ok.stk with e|⟨e,a⟩
 ·rw[e] at h;exact Au _ h
 ·rw[e] at h;unfold frs at h;rw[Ht,a] at h;exact h
theorem Inv.stkFree (I:Inv X pins σ H s):∀b∈frs X.stack,H b=Zb:=λb h=>by
 rcases Ar.mp (I.stkSub b h) with e|h
 ·rw[e];exact I.free
 ·obtain⟨_,o,a,_⟩:=I.ok.funs.mem h;exact I.base.free b o a (I.ok.frf b h) λz=>I.ok.exfs b z h
theorem Inv.step {g':Array GenState}{t':Nat}{d':Drawn}{ch:List Zh} (I:Inv X pins σ H s)
  (a:∀b∈ch,(b∈X.ex\/X.s₀.heap.objs.size<=b)/\b≠X.env.locals/\(∀x c,X.env.cells.lookup x=Za c->c≠b)/\∀p∈X.pn++pins,p.1≠b)
  (keep:∀b o,b≠X.env.locals->b ∉ X.fs->b ∉ ch->s.heap.get? b=Za o->H b=Zb->h'.get? b=Za o)
  (slot:∀b o,b≠X.env.locals->b∈X.fs->b ∉ ch->s.heap.get? b=Za o->H b=Zb->∃G,h'.get? b=Za { o with slots:=G }) (free:∀b o,b ∉ ch->s.heap.get? b=Za o->H b=Zb->H' b=Zb)
  (there:∀b o,b ∉ ch->s.heap.get? b=Za o->∃D,h'.get? b=Za D)
  (tups:∀b w,H b=Za (.tup w)->H' b=Za (.tup w)) (frzs:∀b o u,H b=Za (.frz o u)->H' b=Za (.frz o u)) (tbls:∀b E,H b=Za (.tbl E)->∃more,H' b=Za (.tbl (E++more)))
  (ns:∀m,s.heap.Ns X.env.locals m->h'.Ns X.env.locals m) (K:HOk X.prog X.w H' h') (Q:AllBare g') :
  Inv X pins σ H' { s with heap:=h',gens:=g',drawn:=d',toks:=t' }:=by
 have C:∀b o,X.s₀.heap.get? b=Za o->b≠X.env.locals:=λb o e=>Aw (Be (Aj e) I.ok.above);have j:∀b o,X.s₀.heap.get? b=Za o->b ∉ X.ex->b ∉ ch:=λb o e h y=>by
  rcases (a b y).1 with z|z
  ·exact h z
  ·exact absurd (Be (Aj e) z) (Cg _)
 have g:∀x c,X.env.cells.lookup x=Za c->∀v,s.heap.IsCell c v->h'.IsCell c v:=λx c e v ⟨o,A,F⟩=>by
  have f:c ∉ ch:=λz=>(a c z).2.2.1 x c e rfl;by_cases L:c∈X.fs
  ·obtain⟨G,q⟩:=slot c o (I.cne x c e) L f A (I.freeC x c e);exact⟨_,q,F⟩
  ·exact⟨o,keep c o (I.cne x c e) L f A (I.freeC x c e),F⟩
 refine⟨I.ok,I.os,Q,⟨λb o e n y h=>?_,λb o e n y h=>?_,λb o e n h=>?_,λb o e h=>?_,λb w e=>tups b w (I.base.tups b w e),λb o w e=>frzs b o w (I.base.frzs b o w e),λb E e=>?_⟩,?_,λx c e=>?_,?_,λx c e=>?_,λp M=>?_,K,I.len⟩
 ·exact keep b o (C b o e) y (j b o e h) (I.base.keep b o e n y h) (I.base.free b o e n h)
 ·obtain⟨G,t⟩:=I.base.slot b o e n y h;obtain⟨J,B⟩:=slot b _ (C b o e) y (j b o e h) t (I.base.free b o e n h);exact⟨J,B⟩
 ·obtain⟨D, t⟩:=I.base.there b o e h;exact free b D (j b o e h) t (I.base.free b o e n h)
 ·obtain⟨D, t⟩:=I.base.there b o e h;exact there b D (j b o e h) t
 ·obtain⟨S,t⟩:=I.base.tbls b E e;obtain⟨T,B⟩:=tbls b _ t;exact⟨S++T,by rw[B,Array.append_assoc]⟩
 ·obtain⟨m,P,O⟩:=I.loc;refine⟨m,ns m P,λi x v t B R=>?_⟩;obtain⟨u,r,l⟩:=O i x v t B R;refine⟨u,r,?_⟩;rcases l with l|⟨k,c,e,z⟩
  ·exact .inl l
  ·exact .inr ⟨k,c,e,g x c e _ z⟩
 ·obtain⟨v,z⟩:=I.cell x c e;exact⟨v,g x c e v z⟩
 ·obtain⟨m,⟨o,_,_,A,_⟩,_⟩:=I.loc;exact free _ o (λz=>(a _ z).2.1 rfl) A I.free
 ·obtain⟨v,o,A,F⟩:=I.cell x c e;exact free c o (λz=>(a c z).2.2.1 x c e rfl) A (I.freeC x c e)
 ·obtain⟨e,n,ne,N,d⟩:=I.pin p M;have f:p.1 ∉ ch:=λz=>(a p.1 z).2.2.2 p M rfl;exact⟨keep p.1 p.2 ne N f e n,free p.1 p.2 f e n,ne,N,d⟩
theorem Inv.un {t':Nat}(I:Inv X pins σ H s)(u:Un X.fs [] H H' s.heap h')(a:HOk X.prog X.w H' h'):Inv X pins σ H' { s with heap:=h',toks:=t' }:=by
 obtain⟨m,⟨o,p,t,g,r⟩,_⟩:=id I.loc;obtain⟨l,i⟩:=u.any g I.free (by simp);exact I.step (g':=s.gens) (d':=s.drawn) (ch:=[]) (λ_ z=>nomatch z) (λb o _ f _ e n=>u.keep b o e n f (by simp)) (λb o _ f _ e n=>u.slot b o e n f (by simp)) (λb o _ e n=>u.free b o e n (by simp)) (λb o _ e=>u.there b o e (by simp)) u.tups u.frzs u.tbls (λq j=>by
  obtain⟨v,d,c,h,k⟩:=j;rw[g] at h;cases h;exact⟨_,d,c,i,k⟩) a I.bare
theorem Inv.call {g':Array GenState}{t':Nat}{d':Drawn}{ch:List Zh} (I:Inv X pins σ H s) (u:Un (frs X.stack) ch H H' s.heap h') (i:HOk X.prog X.w H' h') (t:AllBare g')
  (d:∀b∈ch,(b∈X.ex\/X.s₀.heap.objs.size<=b)/\b≠X.env.locals/\(∀x c,X.env.cells.lookup x=Za c->c≠b)/\∀p∈X.pn++pins,p.1≠b) :
  Inv X pins σ H' { s with heap:=h',gens:=g',drawn:=d',toks:=t' }:=by
 obtain⟨m,⟨o,w,B,k,r⟩,_⟩:=id I.loc;obtain⟨y,g⟩:=u.any k I.free λz=>(d _ z).2.1 rfl;exact I.step (ch:=ch) d (λb o g q h e n=>u.keep b o e n (λz=>(Ar.mp (I.stkSub b z)).elim g q) h) (λb o _ _ h e n=>u.any e n h) (λb o h e n=>u.free b o e n h) (λb o h e=>u.there b o e h) u.tups u.frzs u.tbls (λA l=>by
  obtain⟨C,f,j,a,v⟩:=l;rw[k] at a;cases a;exact⟨_,f,j,g,v⟩) i t
theorem Inv.turned {t':Nat}{it:Zh} (I:Inv X pins σ H s) (k:∀b o,b≠it->s.heap.get? b=Za o->h'.get? b=Za o) (l:H it=Zb) (d:it≠X.env.locals)
  (w:it∈X.ex\/X.s₀.heap.objs.size<=it) (A:∀x c,X.env.cells.lookup x=Za c->c≠it) (f:∀p∈X.pn++pins,p.1≠it):Inv X pins σ H { s with heap:=h',toks:=t' }:=by
 have a:∀b u,H b=Za u->b≠it:=λb u e z=>by rw[z,l] at e;cases e
 refine I.step (g':=s.gens) (d':=s.drawn) (ch:=[it]) (λb y=>?_) (λb o _ _ h e _=>k b o (λz=>h (by simp [z])) e) (λb o _ _ h e _=>⟨o.slots,k b o (λz=>h (by simp [z])) e⟩) (λ_ _ _ _ n=>n)
  (λb o h e=>⟨o,k b o (λz=>h (by simp [z])) e⟩) (λ_ _ e=>e) (λ_ _ _ e=>e) (λb B e=>⟨#[],by rw[e];simp⟩) (λm i=>?_) (λb u e=>?_) I.bare
 ·have e:b=it:=by simpa using y
  subst e;exact⟨w,d,A,f⟩
 ·obtain⟨o,g,t,j,r⟩:=i;exact⟨o,g,t,k _ o (Ne.symm d) j,r⟩
 ·refine (I.hok b u e).stay (λc v h q=>k c v ?_ q) (λ_ q=>q) λ_ _ q=>q;rcases h with z|z
  ·rw[z];exact a b u e
  ·exact a c _ z
theorem Inv.tok (I:Inv X pins σ H s)(t:Nat):Inv X pins σ H { s with toks:=t }:=I.un (h':=s.heap) (t':=t) Un.refl I.hok
theorem Inv.kept {t':Nat}(I:Inv X pins σ H s)(k:∀b u,s.heap.get? b=Za u->h'.get? b=Za u):Inv X pins σ H { s with heap:=h',toks:=t' }:=I.un (Un.kept k) (I.hok.kept k)
theorem Inv.laid {a:Zh}{o:HO}{t':Nat} (I:Inv X pins σ H s) (k:∀b u,s.heap.get? b=Za u->h'.get? b=Za u) (h:s.heap.objs.size<=a) (new:ObjOk X.prog X.w (upd H a o) h' a o) :
 Inv X pins σ (upd H a o) { s with heap:=h',toks:=t' }:=I.un (Un.laid k h (I.hok.fresh h)) (I.hok.laid k h new)
theorem Inv.write {x e:Zh}{o:HO}{t':Nat} (I:Inv X pins σ H s) (m:Mut (H x)) (a:e=x\/H e=Za (.own x)) (k:∀b u,b≠e->s.heap.get? b=Za u->h'.get? b=Za u) (h:∃u,h'.get? e=Za u)
 (new:ObjOk X.prog X.w (upd H x o) h' x o):Inv X pins σ (upd H x o) { s with heap:=h',toks:=t' }:=I.un (Un.write m a k h) (I.hok.write m a k h new)
theorem Inv.pins_of {pins':List (Zh×Obj)}(I:Inv X pins σ H s)(h:∀p∈pins',s.heap.get? p.1=Za p.2/\H p.1=Zb/\p.1≠X.env.locals/\p.1 ∉ X.fs/\∀v,p.2.data≠.cell v):Inv X pins' σ H s :=
 ⟨I.ok,I.os,I.bare,I.base,I.loc,I.cell,I.free,I.freeC,λp a=>(Bg.mp a).elim (λz=>I.pin p (List.mem_append_left _ z)) (h p),I.hok,I.len⟩
theorem zp3 {N:List Str}(h:N.Nodup){i j:Nat}{x:Str}(a:N[i]?=Za x)(b:N[j]?=Za x):i=j:=by
 obtain⟨d,c⟩:=Ai.mp a;obtain⟨f,e⟩:=Ai.mp b;exact (List.getElem_inj h).mp (c.trans e.symm)
theorem zli {M:Model}{A:Around}{E:Ze->Zf->Prop}{i:Nat}{x:Str}{v:V}{u:Ze}{Q:Unit->Zf->Prop} (I:Inv X pins σ H s) (hN:X.N.Nodup) (R:X.N[i]?=Za x) (w:Loc X.env.scope x) (r:RelV v u)
  (h:∀s',Inv X pins (σ.set i (Za v)) H s'->(∃a,Heap.SameBut a s.heap s'.heap/\(a=X.env.locals\/X.env.cells.lookup x=Za a))->Q () s') (hf:X.fn x=Zd\/X.env.scope.names.lookup x=Za .local:=by first|exact .inl rfl|exact .inr rfl|assumption):wpAny M A (storeName X.env x u) Q E s:=by
 obtain⟨m,hn,hl⟩:=id I.loc;have N:(X.env.scope.kind == .class || (X.env.scope.kind == .module && X.env.locals != X.env.globals))=Zc:=by rw[I.ok.kind];rfl
 have F:i<σ.length:=by rw[I.len];exact (Ai.mp R).1
 have cne:=I.cne;have t:∀{a:Zh}{h' : Heap},(∃o,s.heap.get? a=Za o/\H a=Zb)->Heap.SameBut a s.heap h'->HOk X.prog X.w H h':=λ{a h'} ha f b ob e=>by
  obtain⟨_,_,B⟩:=ha;refine (I.hok b ob e).stay (λc T l q=>(f.2 c ?_).trans q) (λ_ q=>q) λ_ _ q=>q;rintro rfl;rcases l with rfl|l
  ·rw[B] at e;cases e
  ·rw[B] at l;cases l
 rcases w with D|D
 ·refine wpAny_storeName_local D hn (λh' Y f => ?_) N;obtain⟨oL,_,_,hoL,_⟩:=id hn;refine h _ ⟨I.ok,I.os,I.bare,⟨λb o e n K w=>?_,λb o e n K w=>?_,I.base.free,λb o e w=>?_,I.base.tups,I.base.frzs,I.base.tbls⟩,⟨_,Y,λj y Z g C e3=>?_⟩,λy c e=>?_,I.free,I.freeC,λp hp=>?_,t ⟨oL,hoL,I.free⟩ f,by simpa using I.len⟩ ⟨_,f,.inl rfl⟩
  ·exact (f.2 b (Aw (Be (Aj e) I.ok.above))).trans (I.base.keep b o e n K w)
  ·obtain⟨sl,g⟩:=I.base.slot b o e n K w;exact⟨sl,(f.2 b (Aw (Be (Aj e) I.ok.above))).trans g⟩
  ·obtain⟨o', g⟩:=I.base.there b o e w;exact⟨o',(f.2 b (Aw (Be (Aj e) I.ok.above))).trans g⟩
  ·by_cases G : j = i
   ·subst G;rw[R] at g;cases g;rw[Dx F] at C;cases C;exact⟨u,r,.inl ⟨D,by simp⟩⟩
   ·rw[Dh (Ne.symm G)] at C;obtain⟨W,r',q⟩:=hl j y Z g C e3;refine⟨W,r',?_⟩;rcases q with⟨k,e⟩|⟨k,c,e,z⟩
    ·refine .inl ⟨k, ?_⟩;have:y≠x:=λe=>G (zp3 hN g (e ▸ R));simp [this,e]
    ·exact .inr ⟨k,c,e,z.sameBut f (cne y c e)⟩
  ·obtain⟨T, z⟩:=I.cell y c e;exact⟨T,z.sameBut f (cne y c e)⟩
  ·obtain⟨e,n,ne,nf,d⟩:=I.pin p hp;exact⟨(f.2 p.1 ne).trans e,n,ne,nf,d⟩
 ·have J:X.fn x=Zd:=by
   rcases hf with z|z
   ·exact z
   ·rw[z] at D;cases D
  obtain⟨c,l⟩:=I.ok.has x (.inl D);obtain⟨T,z⟩:=I.cell x c l;refine wpAny_storeName_cell I.ok.kind D l z (λh' S f=>?_);obtain⟨oc,P,L⟩:=id z;refine h { s with heap:=h' } ⟨I.ok,I.os,I.bare,⟨λb o e n K w=>?_,λb o e n K w=>?_,I.base.free,λb o e w=>?_,I.base.tups,I.base.frzs,I.base.tbls⟩,⟨m,hn.sameBut f (Ne.symm (cne x c l)),λj y Z g C e3=>?_⟩,λy U e=>?_,I.free,I.freeC,λp hp=>?_,t ⟨oc,P,I.freeC x c l⟩ f,by simpa using I.len⟩ ⟨c,f,.inr l⟩
  ·exact (f.2 b (Aw (Be (Aj e) (I.ok.cab x c J l)))).trans (I.base.keep b o e n K w)
  ·obtain⟨sl,g⟩:=I.base.slot b o e n K w;exact⟨sl,(f.2 b (Aw (Be (Aj e) (I.ok.cab x c J l)))).trans g⟩
  ·obtain⟨o', g⟩:=I.base.there b o e w;exact⟨o',(f.2 b (Aw (Be (Aj e) (I.ok.cab x c J l)))).trans g⟩
  ·by_cases G : j = i
   ·subst G;rw[R] at g;cases g;rw[Dx F] at C;cases C;exact⟨u,r,.inr ⟨.inl D,c,l,S⟩⟩
   ·rw[Dh (Ne.symm G)] at C;obtain⟨W,r',q⟩:=hl j y Z g C e3;refine⟨W,r',?_⟩;rcases q with q|⟨k,U,e,z'⟩
    ·exact .inl q
    ·refine .inr ⟨k,U, e,z'.sameBut f ?_⟩;rintro rfl;exact G (zp3 hN g (I.ok.inj _ _ _ e l ▸ R))
  ·by_cases O : U = c
   ·subst O;exact⟨_,S⟩
   ·obtain⟨w2,z2⟩:=I.cell y U e;exact⟨w2,z2.sameBut f O⟩
  ·obtain⟨e,n,ne,nf,d⟩:=I.pin p hp;refine⟨(f.2 p.1 ?_).trans e,n,ne,nf,d⟩;intro q;rw[q,P] at e;have q' : oc=p.2:=sI e;exact d T (by rw[<-q'];exact L)
theorem zf3 {M:Model}{A:Around}{E:Ze->Zf->Prop}{i:Nat}{x:Str}{v:V}{u:Ze}{Q:Unit->Zf->Prop} (I:Inv X pins σ H s) (b:X.N.Nodup) (c:X.N[i]?=Za x) (e:Loc X.env.scope x) (r:RelV v u)
  (h:∀a,Inv X pins (σ.set i (Za v)) H a->Q () a) (d:X.fn x=Zd\/X.env.scope.names.lookup x=Za .local:=by first|exact .inl rfl|exact .inr rfl|assumption):wpAny M A (storeName X.env x u) Q E s :=
 zli I b c e r (λa f _=>h a f) d
theorem Inv.call' {s':Zf}{ch:List Zh} (I:Inv X pins σ H s) (f:s'.os=s.os) (u:Un (frs X.stack) ch H H' s.heap s'.heap) (h:HOk X.prog X.w H' s'.heap) (i:AllBare s'.gens)
  (a:∀b∈ch,(b∈X.ex\/X.s₀.heap.objs.size<=b)/\b≠X.env.locals/\(∀x c,X.env.cells.lookup x=Za c->c≠b)/\∀p∈X.pn++pins,p.1≠b):Inv X pins σ H' s':=by
 obtain⟨h',g,d,t,o⟩:=s';have e:o=s.os:=f;subst e;exact I.call (g':=g) (t':=t) (d':=d) u h i a
end
noncomputable abbrev XK:=Ze->Option Zh->Hp->Prop
noncomputable abbrev St:=List (Option V)
noncomputable abbrev VK:=V->Hp->Prop
noncomputable abbrev TE:=St->Hp->VK->Prop
noncomputable abbrev TT:=St->Hp->(Bool->Hp->Prop)->Prop
noncomputable abbrev TA:=St->Hp->(List V->Hp->Prop)->Prop
structure Ends where
 nx:St->Hp->Prop
 rt:VK
 bk:St->Hp->Prop:=λ_ _=>False
 ct:St->Hp->Prop:=λ_ _=>False
noncomputable abbrev TS:=Ends->St->Hp->Prop
noncomputable def EP (X:Cx) (pins:List (Zh×Obj)) (σ:St) (Q:VK) (u:Ze) (s':Zf):Prop:=∃v H,Inv X pins σ H s'/\RelV v u/\Q v H
noncomputable def TP (X:Cx) (pins:List (Zh×Obj)) (σ:St) (Q:Bool->Hp->Prop) (b:Bool) (s':Zf):Prop:=∃H,Inv X pins σ H s'/\Q b H
noncomputable def AP (X:Cx) (pins:List (Zh×Obj)) (σ:St) (Q:List V->Hp->Prop) (us:List Ze) (s':Zf):Prop:=∃v H,Inv X pins σ H s'/\Vals v us/\Q v H
noncomputable def SP (X:Cx) (pins:List (Zh×Obj)) (D:Ends) (f:Flow) (s':Zf):Prop :=
 match f with
 |.next=>∃a H,Inv X pins a H s'/\D.nx a H
 |.brk=>∃a H,Inv X pins a H s'/\D.bk a H
 |.cont=>∃a H,Inv X pins a H s'/\D.ct a H
 |.ret u=>∃v a H,Inv X pins a H s'/\RelV v u/\D.rt v H
noncomputable def PE (X:Cx) (e:Zi) (t:TE):Prop :=
 ∀(pins:List (Zh×Obj)) (s:Zf) (σ:St) (H:Hp) (Q:VK),Inv X pins σ H s->t σ H Q->wpAny (model X.prog X.w) X.A (eval e X.env) (EP X pins σ Q) X.xe s
noncomputable def PT (X:Cx) (e:Zi) (t:TT):Prop :=
 ∀(pins:List (Zh×Obj)) (s:Zf) (σ:St) (H:Hp) (Q:Bool->Hp->Prop),Inv X pins σ H s->t σ H Q->wpAny (model X.prog X.w) X.A (isTrue e X.env (eval e X.env)) (TP X pins σ Q) X.xe s
noncomputable def PW (X:Cx) (e:Zi) (t:TT):Prop :=
 ∀(w:Sem Ze) (pins:List (Zh×Obj)) (s:Zf) (σ:St) (H:Hp) (Q:Bool->Hp->Prop),Inv X pins σ H s->t σ H Q->wpAny (model X.prog X.w) X.A (isTrue e X.env w) (TP X pins σ Q) X.xe s
theorem PW.pt {X:Cx}{e:Zi}{t:TT}(h:PW X e t):PT X e t:=h _
noncomputable def PA (X:Cx) (es:List Zi) (t:TA):Prop :=
 ∀(pos:Pos) (pins:List (Zh×Obj)) (s:Zf) (σ:St) (H:Hp) (Q:List V->Hp->Prop),Inv X pins σ H s->t σ H Q->wpAny (model X.prog X.w) X.A (spliced (backTo pos (starEach es X.env))) (AP X pins σ Q) X.xe s
noncomputable def PS (X:Cx) (st:Stmt) (t:TS):Prop :=
 ∀(pins:List (Zh×Obj)) (s:Zf) (σ:St) (H:Hp) (D:Ends),Inv X pins σ H s->t D σ H->wpAny (model X.prog X.w) X.A (exec st X.env) (SP X pins D) X.xe s
noncomputable def PSs (X:Cx) (st:List Stmt) (t:TS):Prop :=
 ∀(pins:List (Zh×Obj)) (s:Zf) (σ:St) (H:Hp) (D:Ends),Inv X pins σ H s->t D σ H->wpAny (model X.prog X.w) X.A (execs st X.env) (SP X pins D) X.xe s
theorem thn {α:Type}{t:Sem α}{Q b:α->Zf->Prop}{M:Model}{A:Around}{E:Ze->Zf->Prop}{s:Zf}(h:wpAny M A t Q E s)(c:∀a s,Q a s->b a s):wpAny M A t b E s:=Ct h c λ_ _ x=>x
section
variable {X:Cx}
theorem bin {a b:Zi}{t j:TE} (m:PE X a t) (z:PE X b j) {pins:List (Zh×Obj)}{s:Zf}{σ:St}{H:Hp}{R:V->V->Hp->Prop} (I:Inv X pins σ H s) (h:t σ H λx i=>j σ i λy c=>R x y c)
  {α:Type}{Q:α->Zf->Prop}{f:Ze->Ze->Sem α}
  (l:∀v u g x y c,Inv X pins σ c g->RelV x v->RelV y u->R x y c->wpAny (model X.prog X.w) X.A (f v u) Q X.xe g) :
  wpAny (model X.prog X.w) X.A (eval a X.env) (λv e=>wpAny (model X.prog X.w) X.A (eval b X.env) (λu d=>wpAny (model X.prog X.w) X.A (f v u) Q X.xe d) X.xe e) X.xe s:=by
 refine thn (m pins s σ H _ I h) λv o ⟨x,i,k,w,n⟩=>?_;refine thn (z pins o σ i _ k n) λu g ⟨y,c,p,r,q⟩=>?_;exact l v u g x y c p w r q
noncomputable def tVar (i:Nat):TE:=λσ H Q=>∃v,σ[i]?=Za (Za v)/\Q v H
noncomputable def tC (v:V):TE:=λ_ H Q=>Q v H
theorem zqb {i:Nat}{x:Str}{pos:Pos}(j:X.N[i]?=Za x)(p:Vis X.env.scope x)(d:(x==("__debug__" : Str))=Zc:=by decide)(f:(x==("__classdict__" : Str))=Zc:=by decide):PE X (.Name x pos) (tVar i):=by
 intro pins s σ H Q I h;obtain⟨v,e,h⟩:=h;obtain⟨m,n,o⟩:=I.loc;obtain⟨u,r,l⟩:=o i x v j e p;have fin:EP X pins σ Q u s:=⟨v,H,I,r,h⟩;rcases l with⟨b,k⟩|⟨b,c,g,a⟩
 ·exact wpAny_Name (wpAny_loadName_local I.ok.kind b n k fin) d
 ·rcases b with b|b
  ·exact wpAny_Name (wpAny_loadName_cell I.ok.kind b g a fin) d
  ·exact wpAny_Name (wpAny_loadName_free I.ok.kind b g a fin f) d
theorem z8o {i j pos}:PE X (.Constant (.int i) j pos) (tC (.int i)):=λ_ _ _ H _ I h=>wpAny_Constant_int ⟨.int i,H,I.tok _,⟨_,rfl⟩,h⟩
theorem yaz {b j pos}:PE X (.Constant (.bool b) j pos) (tC (.bl b)):=λ_ _ _ H _ I h=>Constant_bool ⟨.bl b,H,I,rfl,h⟩
theorem z8m {j pos}:PE X (.Constant .none j pos) (tC .non):=λ_ _ _ H _ I h=>Constant_none ⟨.non,H,I,rfl,h⟩
theorem z6b {x j pos}:PE X (.Constant (.str x) j pos) (tC (.str x)):=λ_ _ _ H _ I h=>Calls.Constant_str ⟨.str x,H,I.tok _,⟨_,rfl⟩,h⟩
noncomputable def Gl (X:Cx) (x:Str):Prop:=X.env.kindOf x=Za .globalImplicit
theorem zuy {E:Ze->Zf->Prop}{pins:List (Zh×Obj)}{s:Zf}{σ:St}{H:Hp}{x:Str}{u:Ze}{pos:Pos}{Q:Ze->Zf->Prop} (I:Inv X pins σ H s) (c:Gl X x) (a:X.mg x=Za u) (h:Q u s)
  (b:(x==("__debug__" : Str))=Zc:=by decide):wpAny (model X.prog X.w) X.A (eval (.Name x pos) X.env) Q E s :=
 Calls.Name_function_global I.ok.kind c (Calls.loadGlobal_global (by rw[I.ok.glob];exact I.mod.glob.keeps I.bk) a h) b
theorem zdu {E:Ze->Zf->Prop}{pins:List (Zh×Obj)}{s:Zf}{σ:St}{H:Hp}{x:Str}{u:Ze}{pos:Pos}{Q:Ze->Zf->Prop} (I:Inv X pins σ H s) (g:Gl X x) (a:X.mg x=Zb) (f:bootBuiltins x=Za u) (h:Q u s)
  (b:x≠"__name__" := by decide) (c:(x==("__debug__" : Str))=Zc:=by decide):wpAny (model X.prog X.w) X.A (eval (.Name x pos) X.env) Q E s:=by
 obtain⟨m,d,e⟩:=I.mod.blt;exact Calls.Name_function_global I.ok.kind g (Calls.loadGlobal_builtin (by rw[I.ok.glob];exact I.mod.glob.keeps I.bk) a (by rw[I.ok.blt];exact d.keeps I.bk) ((e x b).trans f) h) c
theorem z4u {x:Str}{v:V}{u:Ze}{pos:Pos}(e:Gl X x)(a:X.mg x=Zb)(d:bootBuiltins x=Za u)(r:RelV v u)(b:x≠"__name__" := by decide)(c:(x==("__debug__" : Str))=Zc:=by decide):PE X (.Name x pos) (tC v) :=
 λ_ _ _ H _ I h=>zdu I e a d ⟨v,H,I,r,h⟩ b c
variable {a b:Zi}{ta tb:TE}{pos:Pos}
noncomputable def PC (X:Cx) (op:CmpOp) (a b:Zi) (t:TE):Prop :=
 ∀(pins:List (Zh×Obj)) (s:Zf) (σ:St) (H:Hp) (Q:VK),Inv X pins σ H s->t σ H Q ->
  wpAny (model X.prog X.w) X.A (eval a X.env) (λv d=>wpAny (model X.prog X.w) X.A (eval b X.env) (λu c=>wpAny (model X.prog X.w) X.A (compareOp op v u) (EP X pins σ Q) X.xe c) X.xe d) X.xe s
theorem zy9 (b:Zi){op:CmpOp}(h:op≠.In)(c:op≠.NotIn):behindInMarks op b=Zc:=by
 have e:(op==CmpOp.In)=Zc:=by cases op<;>first|rfl|exact absurd rfl h
 have a:(op==CmpOp.NotIn)=Zc:=by cases op<;>first|rfl|exact absurd rfl c
 cases b<;>simp [behindInMarks,e,a]
noncomputable def tB (t:TE):TT:=λσ H Q=>t σ H λx a=>∃c,x=.bl c/\Q c a
theorem ya9 {op:CmpOp}{t:TE}(h:PC X op a b t)(e:behindInMarks op b=Zc:=by first|exact zy9 _ #v[0,9] #v[0,9]|rfl):PT X (.Compare a [op] [b] pos) (tB t):=by
 intro pins s σ H Q I k;refine wpAny_isTrue_Compare1 (thn (h pins s σ H _ I k) λv n e=>thn e λu m j=>thn j λc l ⟨x,g,f,r,i⟩=>?_) e;obtain⟨d,rfl,q⟩:=i;cases r;exact Ge ⟨g,f,q⟩
theorem z6z {e:Zi}{t:TE}(h:PE X e t)(b:∀w,isTrue e X.env w=(do let v <- w;standAt e.pos;holding [v] (truthy v)):=by intro _;rfl):PT X e (tB t):=by
 intro pins s σ H Q I g;refine isTrue_plain (thn (h pins s σ H _ I g) λv i ⟨x,c,a,r,f⟩=>?_) (b _);obtain⟨d,rfl,q⟩:=f;cases r;exact Ge ⟨c,a,q⟩
variable {tA tB' : TT}{rest:List Zi}
noncomputable def tAnd (t u:TT):TT:=λσ H Q=>t σ H λc a=>if c=Zd then u σ a Q else Q Zc a
noncomputable def tOr (t u:TT):TT:=λσ H Q=>t σ H λc a=>if c=Zd then Q Zd a else u σ a Q
noncomputable def tNot (t:TT):TT:=λσ H Q=>t σ H λc a=>Q (!c) a
theorem z3g (b:PT X a tA):PW X (.BoolOp .And [a] pos) tA:=by
 intro w pins s σ H Q I h;refine isTrue_and (thn (b pins s σ H Q I h) λc d e=>?_);cases c with
 |true=>exact isTrue_and_nil e
 |false=>exact e
theorem z7i (b:PT X a tA):PW X (.BoolOp .Or [a] pos) tA:=by
 intro w pins s σ H Q I h;refine isTrue_or (thn (b pins s σ H Q I h) λc d e=>?_);cases c with
 |false=>exact isTrue_or_nil e
 |true=>exact e
theorem z8j (f:PT X a tA)(i:PW X (.BoolOp .And (b::rest) pos) tB'):PW X (.BoolOp .And (a::b::rest) pos) (tAnd tA tB'):=by
 intro w pins s σ H Q I h;refine isTrue_and (thn (f pins s σ H _ I h) λc g ⟨e,d,q⟩=>?_);cases c with
 |true=>exact i w pins g σ e Q d q
 |false=>exact⟨e,d,q⟩
theorem z90 (f:PT X a tA)(i:PW X (.BoolOp .Or (b::rest) pos) tB'):PW X (.BoolOp .Or (a::b::rest) pos) (tOr tA tB'):=by
 intro w pins s σ H Q I h;refine isTrue_or (thn (f pins s σ H _ I h) λc g ⟨e,d,q⟩=>?_);cases c with
 |true=>exact⟨e,d,q⟩
 |false=>exact i w pins g σ e Q d q
theorem z8e (b:PT X a tA):PT X (.UnaryOp .Not a pos) (tNot tA):=by
 intro pins s σ H Q I h;exact isTrue_not (b pins s σ H (λc d=>Q (!c) d) I h)
noncomputable def z5u (ta tb:TE):TE:=λσ H Q=>ta σ H λx a=>∃c,x=.bl c/\if c=Zd then tb σ a Q else Q (.bl Zc) a
noncomputable def z54 (ta:TE):TE:=λσ H Q=>ta σ H λx a=>∃c,x=.bl c/\Q (.bl (!c)) a
theorem z8k {op}{t:TE}(h:PE X a t):PE X (.BoolOp op [a] pos) t:=λpins s σ H Q I b=>BoolOp_one (h pins s σ H Q I b)
theorem z6g (f:PE X a ta)(i:PE X (.BoolOp .And (b::rest) pos) tb):PE X (.BoolOp .And (a::b::rest) pos) (z5u ta tb):=by
 intro pins s σ H Q I h;refine BoolOp_and (thn (f pins s σ H _ I h) λv g ⟨x,e,d,r,q⟩=>?_);obtain⟨c,rfl,q⟩:=q;cases r;refine Ge ?_;cases c with
 |true=>exact i pins g σ e Q d q
 |false=>exact⟨.bl Zc,e,d,rfl,q⟩
theorem z60 (b:PE X a ta):PE X (.UnaryOp .Not a pos) (z54 ta):=by
 intro pins s σ H Q I h;refine UnaryOp_ (thn (b pins s σ H _ I h) λv f ⟨x,e,d,r,q⟩=>?_);obtain⟨c,rfl,q⟩:=q;cases r;exact not_of (Ge ⟨.bl (!c),e,d,rfl,q⟩)
end
noncomputable def SqL (K:Zg) (H:Hp) (a:Zh) (xs:List V):Prop :=
 Rd H a (.lst xs) \/
  ∃(o:Obj) (i:Array Ze) (n:Nat),K.lookup a=Za o/\o.cls=.type "list"/\o.dict=Zb/\o.data=.seq i n/\i.size<=sizeLine/\Vals xs i.toList
noncomputable def SqT (K:Zg) (H:Hp) (a:Zh) (xs:List V):Prop :=
 Rd H a (.tup xs) \/
  ∃(o:Obj) (i:Array Ze) (n:Nat),K.lookup a=Za o/\o.cls=.type "tuple"/\o.data=.seq i n/\i.size<=sizeLine/\Vals xs i.toList
noncomputable def absV:Ze->Option V
 |.none=>Za .non
 |.bool b=>Za (.bl b)
 |.int i _=>Za (.int i)
 |.str x _=>Za (.str x)
 |.bytes b _=>Za (.byt b)
 |.float b _=>Za (.flt b)
 |.ref a=>Za (.ref a)
 |.type n=>Za (.ty n)
 |_=>Zb
theorem RelV.abs {x:V}{u:Ze}(r:RelV x u):absV u=Za x:=by
 cases x with
 |non=>cases r;rfl
 |bl _=>cases r;rfl
 |int _=>obtain⟨t,rfl⟩:=r;rfl
 |str _=>obtain⟨t,rfl⟩:=r;rfl
 |byt _=>obtain⟨t,rfl⟩:=r;rfl
 |flt _=>obtain⟨t,rfl⟩:=r;rfl
 |ref _=>cases r;rfl
 |ty _=>cases r;rfl
theorem RelV.inj {x y:V}{u:Ze}(r:RelV x u)(q:RelV y u):x=y:=sI (r.abs.symm.trans q.abs)
theorem Vals.inj:∀{x y:List V}{u:List Ze},Vals x u->Vals y u->x=y
 |_,_,_,.nil,.nil=>rfl
 |_,_,_,.cons r t,.cons b a=>by rw[r.inj b,Vals.inj t a]
section
variable {X:Cx}{pins:List (Zh × Obj)}{σ:St}{H:Hp}{s:Zf}{a:Zh}{xs ys:List V}
theorem Inv.list (I:Inv X pins σ H s)(h:SqL X.K H a xs):∃i:List Ze,Vals xs i/\PlainL s.heap a i.toArray/\xs.length<=sizeLine:=by
 rcases h with h|⟨o,i,n,d,b,f,c,g,r⟩
 ·obtain⟨z,i,n,r,e⟩:=h.ok I.hok;exact⟨i,r,⟨_,n,e,rfl,rfl,rfl⟩,z⟩
 ·refine⟨i.toList,r,⟨o,n,I.kIn a o d,b,f,by simpa using c⟩, ?_⟩;have e:=r.length;simp only [Ay] at e;omega
theorem Inv.tuple (I:Inv X pins σ H s)(h:SqT X.K H a xs):∃i:List Ze,Vals xs i/\IsTup s.heap a i.toArray/\xs.length<=sizeLine:=by
 rcases h with h|⟨o,i,n,d,b,c,f,r⟩
 ·obtain⟨z,i,r,p⟩:=h.ok I.hok;exact⟨i,r,p,z⟩
 ·refine⟨i.toList,r,⟨o,I.kIn a o d,b,n,by simpa using c⟩, ?_⟩;have e:=r.length;simp only [Ay] at e;omega
theorem Inv.list_inj (I:Inv X pins σ H s)(h:SqL X.K H a xs)(h':SqL X.K H a ys):xs=ys:=by
 obtain⟨i,r,⟨o,n,e,_,_,d⟩,_⟩:=I.list h;obtain⟨its',f,⟨g,j,b,_,_,c⟩,_⟩:=I.list h';rw[e] at b;cases b;rw[d] at c;injection c with d1 _;have:i=its':=by simpa using congrArg Array.toList d1
 subst this;exact r.inj f
theorem Inv.tuple_inj (I:Inv X pins σ H s)(h:SqT X.K H a xs)(h':SqT X.K H a ys):xs=ys:=by
 obtain⟨i,r,⟨o,e,_,n,d⟩,_⟩:=I.tuple h;obtain⟨its',f,⟨j,b,_,g,c⟩,_⟩:=I.tuple h';rw[e] at b;cases b;rw[d] at c;injection c with d1 _;have:i=its':=by simpa using congrArg Array.toList d1
 subst this;exact r.inj f
end
noncomputable abbrev Cx.wish (X:Cx) (E:Ze->Zf->Prop):Cx:={ X with xe:=E }
noncomputable abbrev Cx.nox (X:Cx):Cx:=X.wish λ_ _=>False
theorem Cx.Ok.wish {X:Cx}(ok:X.Ok)(E:Ze->Zf->Prop):(X.wish E).Ok :=
 ⟨ok.mod,ok.kind,ok.glob,ok.blt,ok.above,ok.inj,ok.has,ok.cab,ok.hd,ok.frames,ok.stk,ok.exf,ok.bs,ok.bsz,ok.noex,ok.exfs,ok.funs,ok.frf⟩
theorem Cx.Ok.unwish {X:Cx}{E:Ze->Zf->Prop}(ok:(X.wish E).Ok):X.Ok :=
 ⟨ok.mod,ok.kind,ok.glob,ok.blt,ok.above,ok.inj,ok.has,ok.cab,ok.hd,ok.frames,ok.stk,ok.exf,ok.bs,ok.bsz,ok.noex,ok.exfs,ok.funs,ok.frf⟩
section
variable {X:Cx}{pins:List (Zh × Obj)}{σ:St}{H:Hp}{s:Zf}{E:Ze->Zf->Prop}
theorem Inv.wish (I:Inv X pins σ H s)(E:Ze->Zf->Prop):Inv (X.wish E) pins σ H s:=⟨I.ok.wish E,I.os,I.bare,I.base,I.loc,I.cell,I.free,I.freeC,I.pin,I.hok,I.len⟩
theorem Inv.unwish (I:Inv (X.wish E) pins σ H s):Inv X pins σ H s:=⟨I.ok.unwish,I.os,I.bare,I.base,I.loc,I.cell,I.free,I.freeC,I.pin,I.hok,I.len⟩
theorem SP.unwish {D:Ends}{f:Flow}{s':Zf}(h:SP (X.wish E) pins D f s'):SP X pins D f s':=by
 cases f with
 |next=>obtain⟨a,H,I,q⟩:=h;exact⟨a,H,I.unwish,q⟩
 |brk=>obtain⟨a,H,I,q⟩:=h;exact⟨a,H,I.unwish,q⟩
 |cont=>obtain⟨a,H,I,q⟩:=h;exact⟨a,H,I.unwish,q⟩
 |ret u=>obtain⟨v,a,H,I,r,q⟩:=h;exact⟨v,a,H,I.unwish,r,q⟩
theorem PE.nox {e:Zi}{t:TE}(h:PE X.nox e t):PE X e t:=λpins s σ H Q I c =>
 Ct (h pins s σ H Q (I.wish _) c) (λ_ _ ⟨v,a,b,r,q⟩=>⟨v,a,b.unwish,r,q⟩) λ_ _ z=>False.elim z
theorem PSs.nox {st:List Stmt}{t:TS}(h:PSs X.nox st t):PSs X st t:=λpins s σ H D I a =>
 Ct (h pins s σ H D (I.wish _) a) (λ_ _ q=>q.unwish) λ_ _ z=>False.elim z
end
section
variable {X:Cx}{st:Stmt}{rest:List Stmt}{t u:TS}{e:Zi}{te:TE}{pos:Pos}
noncomputable def z3e:TS:=λD σ H=>D.nx σ H
noncomputable def tSeq (t u:TS):TS:=λD σ H=>t { D with nx:=u D } σ H
theorem z2w:PSs X [] z3e:=λ_ _ σ H _ I h=>wpAny_execs_nil ⟨σ,H,I,h⟩
theorem zz6 (d:PS X st t) (g:PSs X rest u):PSs X (st::rest) (tSeq t u):=by
 intro pins s σ H D I h;refine wpAny_execs_cons (thn (d pins s σ H { D with nx:=u D } I h) λf c q=>?_);cases f with
 | next =>
  obtain⟨a,b,e,q⟩:=q;exact g pins c a b D e q
 |ret v=>exact q
 |brk=>exact q
 |cont=>exact q
theorem z10 (a:PS X st t):PSs X [st] t:=by
 intro pins s σ H D I h;refine wpAny_execs_cons (thn (a pins s σ H D I h) λf b q=>?_);cases f with
 |next=>exact wpAny_execs_nil q
 |ret v=>exact q
 |brk=>exact q
 |cont=>exact q
theorem z2d:PS X (.Pass pos) z3e:=λ_ _ σ H _ I h=>wpAny_Pass ⟨σ,H,I,h⟩
theorem Inv.quiet {pins:List (Zh×Obj)}{σ:St}{H:Hp}{s:Zf}(I:Inv X pins σ H s):interactive X.env=Zc:=by simp [interactive,I.ok.kind]
noncomputable def z6f (te:TE):TS:=λD σ H=>te σ H λ_ a=>D.nx σ a
theorem z2o (b:PE X e te)(d:swapsWith e Zb pos.line X.env=pure Zc:=by rfl):PS X (.Expr e pos) (z6f te):=by
 intro pins s σ H D I h;exact wpAny_Expr_any (thn (b pins s σ H _ I h) λv f ⟨x,c,a,r,q⟩=>⟨σ,c,a,q⟩) I.quiet d
noncomputable def tRet (te:TE):TS:=λD σ H=>te σ H D.rt
theorem z0o (b:PE X e te):PS X (.Return (Za e) pos) (tRet te):=by
 intro pins s σ H D I h;exact wpAny_Return_some (thn (b pins s σ H _ I h) λv d ⟨x,c,a,r,q⟩=>⟨x,σ,c,a,r,q⟩)
noncomputable def tIfS (c:TT) (t u:TS):TS:=λD σ H=>c σ H λb a=>if b=Zd then t D σ a else u D σ a
theorem z9n {c:Zi}{a b:List Stmt}{tc:TT}(j:PT X c tc)(i:PSs X a t)(k:PSs X b u):PS X (.If c a b pos) (tIfS tc t u):=by
 intro pins s σ H D I h;refine wpAny_If (thn (j pins s σ H _ I h) λd g ⟨f,e,q⟩=>?_);cases d with
 |true=>exact i pins g σ f D e q
 |false=>exact k pins g σ f D e q
end
noncomputable abbrev TG:=V->St->Hp->(St->Hp->Prop)->Prop
noncomputable abbrev TGs:=List V->St->Hp->(St->Hp->Prop)->Prop
noncomputable def PG (X:Cx) (a:Zi) (t:TG):Prop :=
 ∀(pins:List (Zh×Obj)) (s:Zf) (σ:St) (H:Hp) (v:V) (u:Ze) (Q:St->Hp->Prop),Inv X pins σ H s->RelV v u->t v σ H Q ->
  wpAny (model X.prog X.w) X.A (assign a X.env u) (λ_ d=>∃b c,Inv X pins b c d/\Q b c) X.xe s
noncomputable def PGs (X:Cx) (ts:List Zi) (t:TGs):Prop :=
 ∀(pins:List (Zh×Obj)) (s:Zf) (σ:St) (H:Hp) (c:List V) (u:List Ze) (Q:St->Hp->Prop),Inv X pins σ H s->Vals c u->t c σ H Q ->
  wpAny (model X.prog X.w) X.A (assignInOrder ((assignEach ts X.env).map (·.2)) u) (λ_ d=>∃a b,Inv X pins a b d/\Q a b) X.xe s
noncomputable abbrev TSet:=V->V->V->Hp->(Hp->Prop)->Prop
noncomputable def PSet (X:Cx) (t:TSet):Prop :=
 ∀(pins:List (Zh×Obj)) (s:Zf) (σ:St) (H:Hp) (o i v:V) (b c u:Ze) (Q:Hp->Prop),Inv X pins σ H s->RelV o b->RelV i c->RelV v u->t o i v H Q ->
  wpAny (model X.prog X.w) X.A (setItem b c u) (λ_ d=>∃a,Inv X pins σ a d/\Q a) X.xe s
section
variable {X:Cx}{pos:Pos}
noncomputable def zr6 (i:Nat):TG:=λv σ H Q=>Q (σ.set i (Za v)) H
theorem zuj {i:Nat}{x:Str}(a:X.N.Nodup)(b:X.N[i]?=Za x)(d:Loc X.env.scope x)(c:X.fn x=Zd\/X.env.scope.names.lookup x=Za .local:=by first|exact .inl rfl|exact .inr rfl|assumption):PG X (.Name x pos) (zr6 i):=by
 intro pins s σ H v u Q I r h;exact wpAny_assign_Name (zf3 I a b d r (λf e=>⟨_,H,e,h⟩) c)
noncomputable def gNil:TGs:=λv σ H Q=>v=[]/\Q σ H
noncomputable def z6p (t:TG) (u:TGs):TGs:=λc σ H Q=>∃v r,c=v::r/\t v σ H λa b=>u r a b Q
theorem z13:PGs X [] gNil:=by
 intro pins s σ H v u Q I r h;obtain⟨e,h⟩:=h;subst e;cases r;exact assignInOrder_nil ⟨σ,H,I,h⟩
theorem zx4 {e:Zi}{es:List Zi}{t:TG}{u:TGs} (i:PG X e t) (k:PGs X es u)
  (f:(assignEach (e::es) X.env).map (·.2)=assign e X.env::(assignEach es X.env).map (·.2):=by rfl):PGs X (e::es) (z6p t u):=by
 intro pins s σ H n l Q I r h;obtain⟨v,m,g,h⟩:=h;subst g;cases r with
 | cons r d =>
  rw[f];refine assignInOrder_cons (thn (i pins s σ H _ _ _ I r h) λ_ j ⟨a,c,b,q⟩=>?_);exact k pins j a c _ _ Q b d q
noncomputable def gTup (K:Zg) (n:Nat) (t:TGs):TG:=λv σ H Q=>∃a x,v=.ref a/\SqT K H a x/\x.length=n/\t x σ H Q
theorem z7j {es:List Zi}{k:Nat}{t:TGs}{n:Nat} (g:X.calm=Zd) (h:PGs X es t)
  (l:(assignEach es X.env).length=n:=by rfl) (c:(assignEach es X.env).findIdx? (·.1)=Zb:=by rfl):PG X (.Tuple es k pos) (gTup X.K n t):=by
 intro pins s σ H v u Q I r d;obtain⟨a,x,m,z,p,d⟩:=d;subst m;cases r;obtain⟨w,f,j,A⟩:=I.tuple z;refine assign_Tuple_tuple (I.ok.hd g) j (by simp [l,<-p,f.length]) c λy q=>?_;have i:Inv X pins σ H { s with heap:=y }:=I.kept (t':=s.toks) λb o e=>q b o (Aw (Aj e)) e;exact h pins _ σ H x _ Q i (by simpa using f) d
noncomputable def gSub (c a:TE) (t:TSet):TG:=λv σ H Q=>c σ H λo d=>a σ d λi b=>t o i v b λe=>Q σ e
theorem z0n {o i:Zi}{c d:TE}{t:TSet} (f:PE X o c) (A:PE X i d) (p:PSet X t)
  (k:∀v,assign (.Subscript o i pos) X.env v=(do
   let a <- holding [v] (eval o X.env)
   let b <- holding [v,a] (eval i X.env)
   standAt pos
   holding [v,a,b] (setItem a b v)
   release [v,a,b] []):=by intro _;rfl):PG X (.Subscript o i pos) (gSub c d t):=by
 intro pins s σ H v u Q I r h;rw[k];refine Aa (Bq (thn (f pins s σ H _ I h) λa z ⟨x,m,e,C,w⟩=>?_));refine Aa (Bq (thn (A pins z σ m _ e w) λb E ⟨y,n,B,j,g⟩=>?_));refine Aa (Fw (Aa (Bq (thn (p pins E σ n x y v a b u _ B C j r g) λ_ F ⟨D,l,q⟩=>?_))));exact wpAny_release ⟨σ,D,l,q⟩
noncomputable def tAsg (te:TE) (g:TG):TS:=λD σ H=>te σ H λx a=>g x σ a D.nx
theorem z1g {t e:Zi}{te:TE}{g:TG} (c:PE X e te) (l:PG X t g) (d:swapsWithSole [t] e pos.line X.env=pure Zc:=by rfl) (k:swappedStores [t] e X.env=pure Zb:=by rfl)
  (j:(assignEach [t] X.env).map (·.2)=[assign t X.env]:=by rfl):PS X (.Assign [t] e pos) (tAsg te g):=by
 intro pins s σ H D I h;refine wpAny_Assign_stores (thn (c pins s σ H _ I h) λv i ⟨x,b,a,r,f⟩=>?_) d k;rw[j];exact thn (l pins i σ b x v _ a r f) λ_ m q=>q
theorem z1i {i:Nat}{x:Str}{e:Zi}{te:TE}{pos':Pos} (f:X.N.Nodup) (k:X.N[i]?=Za x) (j:Loc X.env.scope x) (c:PE X e te) (d:swapsWith e (Za (.Name x pos')) pos.line X.env=pure Zc:=by rfl) (g:X.fn x=Zd\/X.env.scope.names.lookup x=Za .local:=by first | exact .inl rfl | exact .inr rfl | assumption) :
  PS X (.Assign [.Name x pos'] e pos) (tAsg te (zr6 i)):=by
 intro pins s σ H D I h;refine wpAny_Assign_Name (thn (c pins s σ H _ I h) λv n ⟨y,b,a,r,q⟩=>?_) d;exact zf3 a f k j r (λm l=>⟨_,b,l,q⟩) g
noncomputable def tPar (i j:Nat) (t:TA):TS:=λD σ H=>t σ H λb a=>∃v w,b=[v,w]/\D.nx ((σ.set i (Za v)).set j (Za w)) a
theorem z81 {i j:Nat}{x y:Str}{a b:Zi}{A:TA}{n l pt:Pos}{kt k2 pt2} (M:X.calm=Zd) (E:X.N.Nodup) (R:X.N[i]?=Za x) (N:X.N[j]?=Za y) (m:i≠j)
  (t:X.env.scope.names.lookup x=Za .local) (z:X.env.scope.names.lookup y=Za .local) (J:PA X [a,b] A)
  (P:swappedStores [.Tuple [.Name x n,.Name y l] kt pt] (.Tuple [a,b] k2 pt2) X.env=pure (Za [x,y]))
  (O:swapsWithSole [.Tuple [.Name x n,.Name y l] kt pt] (.Tuple [a,b] k2 pt2) pos.line X.env=pure Zc:=by rfl) :
  PS X (.Assign [.Tuple [.Name x n,.Name y l] kt pt] (.Tuple [a,b] k2 pt2) pos) (tPar i j A):=by
 intro pins s σ H D I h;rw [exec_Assign_arm];refine Aa (Fw ?_);rw [O];refine Aa (Ac ?_);rw [if_neg (by decide)];refine Aa (Tuple_ (thn (J _ pins s σ H _ I h) λQ d ⟨vs,B,G,T,k⟩=>?_));obtain ⟨v,w,U,k⟩:=k;subst U;obtain ⟨f,u,rfl,Y,r⟩ : ∃f u,Q=[f,u]/\RelV v f/\RelV w u:=by
  cases T with
  | cons p q =>
   cases q with
   | cons K W =>
    cases W;exact⟨_,_,rfl,p,K⟩
 refine Bp ?_ (by show 2<=sizeLine;decide);have S:Inv X pins σ B { d with heap:=d.heap.push { cls:=.type "tuple",data:=.seq [f,u].toArray } }:=G.kept (t':=d.toks) λb o e=>Ab _ e;rw[P];refine Aa (Ac ?_);show wpAny (model X.prog X.w) X.A (do rule "assign.swapped-stores";let c <- unpackItems (.ref d.heap.objs.size) 2 Zb;assignInOrder [λv=>bindName X.env y v,λv=>bindName X.env x v] c.reverse;pure Flow.next) _ _ _;refine Aa (Cs (Aa (unpackItems_tuple (items:=#[f,u]) (I.ok.hd M) (IsTup.new d.heap _) λF g=>?_)));have L:=S.kept (h':=F) (t':=d.toks) λb o e=>g b o (Aw (Aj e)) e;show wpAny _ _ (assignInOrder [λv=>bindName X.env y v,λv=>bindName X.env x v] [u,f]>>=λ_=>pure Flow.next) _ _ _;refine Aa (assignInOrder_cons (wpAny_bindName (zf3 L E N (.inl z) r (λs2 V=>?_) (.inr z))));refine assignInOrder_cons (wpAny_bindName (zf3 V E R (.inl t) Y (λZ C=>assignInOrder_nil (Ac ?_)) (.inr t)));rw[List.set_comm _ _ (Ne.symm m)] at C;exact⟨_,B,C,k⟩
end
section
variable {X:Cx}{pos:Pos}
end
structure It where
 go:Nat->Hp->Prop
 yld:Nat->Hp->V->Hp->Prop
 stop:Nat->Hp->Prop
noncomputable def FpOk (X:Cx) (pins:List (Zh×Obj)) (H:Hp) (b:Zh):Prop :=
 H b=Zb/\b≠X.env.locals/\b ∉ X.fs/\(b∈X.ex\/X.s₀.heap.objs.size<=b)/\(∀x c,X.env.cells.lookup x=Za c->c≠b)/\∀p∈X.pn++pins,p.1≠b
theorem Inv.fpOk {X:Cx}{pins:List (Zh×Obj)}{σ:St}{H H':Hp}{s:Zf}{b:Zh}(I:Inv X pins σ H s)(h:s.heap.objs.size<=b)(d:H' b=Zb):FpOk X pins H' b:=by
 refine⟨d,Ej (Be I.lt h),I.nofs h,.inr (Cf I.sz h),λx c e z=>?_,λp a z=>?_⟩
 ·obtain⟨v,q⟩:=I.cell x c e;exact absurd (Be q.lt (by rw[z];exact h)) (Cg _)
 ·exact absurd (Be (Aj (I.pin p a).1) (by rw[z];exact h)) (Cg _)
structure Turn (P:Program) (w:World) (K:Zg) (tg:Zi) (J:It) (fp:List Zh) (it:Zh) (tn:Nat->Heap->Prop):Prop where
 mem:it∈fp
 obj:∀i h,tn i h->∀b∈fp,∃o,h.get? b=Za o/\∀v,o.data≠.cell v
 keep:∀i h h',tn i h->(∀b∈fp,∀o,h.get? b=Za o->h'.get? b=Za o)->tn i h'
 item:∀(X:Cx),X.prog=P->X.w=w->X.K=K->X.calm=Zd->∀(i:Nat) (pins:List (Zh×Obj)) (s:Zf) (σ:St) (H:Hp) (E:Ze->Zf->Prop),Inv X pins σ H s->(∀b∈fp,FpOk X pins H b)->tn i s.heap->J.go i H ->
  wpAny (model P w) X.A (pyNext (.ref it)) (λr s1=>∃u,r=Za u /\
   wpAny (model P w) X.A (letOwnedTupleGo tg (.ref it) u) (λ_ s2=>∃x H',Inv X pins σ H' s2/\RelV x u/\J.yld i H x H'/\tn (i+1) s2.heap/\∀b∈fp,H' b=Zb) E s1) E s
 done:∀(X:Cx),X.prog=P->X.w=w->X.K=K->X.calm=Zd->∀(i:Nat) (pins:List (Zh×Obj)) (s:Zf) (σ:St) (H:Hp) (E:Ze->Zf->Prop),Inv X pins σ H s->(∀b∈fp,FpOk X pins H b)->tn i s.heap->J.stop i H ->
  wpAny (model P w) X.A (pyNext (.ref it)) (λr s1=>r=Zb/\Inv X pins σ H s1) E s
 self:∀(A:Around) (i:Nat) (s:Zf) (Q:Ze->Zf->Prop) (E:Ze->Zf->Prop),tn i s.heap->Q (.ref it) s->wpAny (model P w) A (pyIter (.ref it)) Q E s
noncomputable abbrev TI:=St->Hp->(It->Hp->Prop)->Prop
noncomputable def PIE (X:Cx) (pins:List (Zh×Obj)) (σ:St) (c:Zi) (R:It->Hp->Prop) (i:Ze) (s:Zf):Prop :=
 ∃(a:Zh) (fp:List Zh) (t:Nat->Heap->Prop) (J:It) (H:Hp),i=.ref a/\Inv X pins σ H s/\Turn X.prog X.w X.K c J fp a t/\t 0 s.heap/\(∀b∈fp,FpOk X pins H b)/\R J H
noncomputable def PI (X:Cx) (t iter:Zi) (w:TI):Prop :=
 ∀(pins:List (Zh×Obj)) (s:Zf) (σ:St) (H:Hp) (R:It->Hp->Prop),Inv X pins σ H s->w σ H R ->
  wpAny (model X.prog X.w) X.A (eval iter X.env) (λv a=>wpAny (model X.prog X.w) X.A (pyIter v) (PIE X pins σ t R) X.xe a) X.xe s
theorem zxl {M:Model}{A:Around}{E:Ze->Zf->Prop}{s:Zf}{t:Zi}{it:Zh}{u:Ze}{o:Obj}{n:String}{vs:Array Ze}{Q:Unit->Zf->Prop} (c:s.heap.get? it=Za o) (b:o.cls=.type n) (e:o.data=.fields vs)
    (d:["enumerate","zip","dict_itemiterator","dict_reverseitemiterator","odict_iterator","itertools.zip_longest","itertools.pairwise"].contains n=Zc) (a:Q () s):wpAny M A (letOwnedTupleGo t (.ref it) u) Q E s:=by
  unfold letOwnedTupleGo;cases t<;>first
    |exact Ac a
    | (cases u<;>first
        |exact Ac a
        | (refine Aa (wpAny_load c ?_)
           rw[b,e];show wpAny M A (if (["enumerate","zip","dict_itemiterator","dict_reverseitemiterator","odict_iterator","itertools.zip_longest","itertools.pairwise"].contains n&&vs[0]? == Za (rawInt _))=Zd then _ else _) Q E s;rw[if_neg (by intro h;rw[d,Fu] at h;cases h)];exact Ac a))
noncomputable def Itl (K:Zg) (a:Zh):It :=
 ⟨λi H=>∃b x,SqL K H a b/\b[i]?=Za x,λi H x c=>c=H/\∀b,SqL K H a b->b[i]?=Za x,λi H=>∃b,SqL K H a b/\b.length<=i⟩
noncomputable def Itt (K:Zg) (a:Zh):It :=
 ⟨λi H=>∃b x,SqT K H a b/\b[i]?=Za x,λi H x c=>c=H/\∀b,SqT K H a b->b[i]?=Za x,λi H=>∃b,SqT K H a b/\b.length<=i⟩
noncomputable def Itr (lo:Int) (n:Nat):It:=⟨λi _=>i<n,λi H x a=>a=H/\x=.int (lo+i),λi _=>n<=i⟩
theorem zu1 {P:Program}{w:World}{K:Zg}{U:Zi}(a it:Zh):Turn P w K U (Itl K a) [it] it (λi h=>h.IsListIter it a i) where
 mem:=by simp
 obj:=λi h f b g=>by
  have e:b=it:=by simpa using g
  subst e;obtain⟨o,e,c,d⟩:=f;exact⟨o,e,λv z=>by rw[d] at z;cases z⟩
 keep:=λi h n f k=>f.at λo e=>k it (by simp) o e
 item:=by
  intro X r A D L i pins s σ H E I l f B;subst r A D;obtain⟨V,x,m,q⟩:=B;obtain⟨y,J,p,W⟩:=I.list m;obtain⟨u,S,T⟩:=J.get q;obtain⟨C,t,Q,f3,F,G⟩:=l it (by simp);refine wpAny_pyNext_list_item f p.isList (x:=u) (by simpa using S) λn j O=>?_;have M:Inv X pins σ H { s with heap:=n }:=I.turned (t':=s.toks) (λb o g e=>(O.2 b g).trans e) C t f3 F G;obtain⟨o,e,c,d⟩:=id j;exact⟨u,rfl,zxl (s:={ s with heap:=n }) e c d #v[0,9] ⟨x,H,M,T,⟨rfl,λZ R=>by rw[I.list_inj R m];exact q⟩,j,λb g=>(l b g).1⟩⟩
 done:=by
  intro X r A D L i pins s σ H E I l f B;subst r A D;obtain⟨V,m,q⟩:=B;obtain⟨y,J,p,W⟩:=I.list m;obtain⟨C,t,Q,f3,F,G⟩:=l it (by simp);have Y:=J.length;exact wpAny_pyNext_list_end (I.ok.hd L) f p.isList (by simp;omega) λn N=>⟨rfl,I.turned (t':=s.toks) (λb o g e=>N b o g e) C t f3 F G⟩
 self:=λ_ _ _ _ _ f h=>wpAny_pyIter_listiter f h
theorem zrv {P:Program}{w:World}{K:Zg}{U:Zi}(a it:Zh):Turn P w K U (Itt K a) [it] it (λi h=>h.IsTupleIter it a i) where
 mem:=by simp
 obj:=λi h f b j=>by
  have e:b=it:=by simpa using j
  subst e;obtain⟨o,e,c,d⟩:=f;exact⟨o,e,λv z=>by rw[d] at z;cases z⟩
 keep:=λi h q f k=>f.at λo e=>k it (by simp) o e
 item:=by
  intro X t A D L i pins s σ H E I m f B;subst t A D;obtain⟨V,x,n,r⟩:=B;obtain⟨g,J,p,W⟩:=I.tuple n;obtain⟨u,S,T⟩:=J.get r;obtain⟨C,y,Q,f3,F,G⟩:=m it (by simp);refine wpAny_pyNext_tuple_item f (show s.heap.IsTuple a g.toArray from p) (x:=u) (by simpa using S) λq l O=>?_;have M:Inv X pins σ H { s with heap:=q }:=I.turned (t':=s.toks) (λb o j e=>(O.2 b j).trans e) C y f3 F G;obtain⟨o,e,c,d⟩:=id l;exact⟨u,rfl,zxl (s:={ s with heap:=q }) e c d #v[0,9] ⟨x,H,M,T,⟨rfl,λZ R=>by rw[I.tuple_inj R n];exact r⟩,l,λb j=>(m b j).1⟩⟩
 done:=by
  intro X t A D L i pins s σ H E I m f B;subst t A D;obtain⟨V,n,r⟩:=B;obtain⟨g,J,p,W⟩:=I.tuple n;obtain⟨C,y,Q,f3,F,G⟩:=m it (by simp);have Y:=J.length;exact wpAny_pyNext_tuple_end (I.ok.hd L) f (show s.heap.IsTuple a g.toArray from p) (by simp;omega) λq N=>⟨rfl,I.turned (t':=s.toks) (λb o j e=>N b o j e) C y f3 F G⟩
 self:=λ_ _ _ _ _ f h=>wpAny_pyIter_tupleiter f h
theorem zrd {P:Program}{w:World}{K:Zg}{G:Zi}(it:Zh)(lo:Int)(n:Nat):Turn P w K G (Itr lo n) [it] it (λi h=>IsRangeIter h it (lo+(i:Nat)*1) ((n:Int)-(i:Nat)) 1) where
 mem:=by simp
 obj:=λi h a b c=>by
  have e:b=it:=by simpa using c
  subst e;exact⟨_,a,λv z=>by
   have L:Data.fields _=Data.cell v:=z;cases L⟩
 keep:=λi h g a k=>k it (by simp) _ a
 item:=by
  intro X j p u l i pins s σ H E I f a q;subst j p u;obtain⟨r,m,D,f3,x,y⟩:=f it (by simp);have W:=Walks.range (prog:=X.prog) (w:=X.w) (I.ok.hd l) it lo 1 n;refine W.item i s _ _ q a λv g A J d F=>?_;obtain⟨t,rfl⟩:=J;have B:Inv X pins σ H { s with heap:=g,toks:=A }:=I.turned (λb o c e=>F b o (by simpa using c) e) r m f3 x y;refine⟨_,rfl,zxl (s:={ s with heap:=g,toks:=A }) (n := "range_iterator") d rfl rfl #v[0,9] ⟨.int (lo+i),H,B,⟨t,?_⟩,⟨rfl,rfl⟩,d,λb c=>(f b c).1⟩⟩;rw[Int.mul_one]
 done:=by
  intro X j p u l i pins s σ H E I f a q;subst j p u;obtain⟨r,m,D,f3,x,y⟩:=f it (by simp);exact wpAny_pyNext_range_end (I.ok.hd l) a (by have:n<=i:=q;omega) λg C=>⟨rfl,I.turned (t':=s.toks) (λb o c e=>C b o c e) r m f3 x y⟩
 self:=λ_ _ _ _ _ a h=>wpAny_pyIter_rangeiter a h
section
variable {X:Cx}{tg:Zi}
theorem zzk {pins:List (Zh×Obj)}{σ:St}{H:Hp}{s:Zf}{R:It->Hp->Prop}{E:Ze->Zf->Prop}{lo h:Int}{t u v:Tok}{tk:Nat} (I:Inv X pins σ H s) (g:-(2^62)<=lo) (i:lo<2^62) (c:-(2^62)<=h) (h4:h<2^62)
  (q:R (Itr lo (h-lo).toNat) H):wpAny (model X.prog X.w) X.A (pyIter (.ref s.heap.objs.size)) (PIE X pins σ tg R) E { s with heap:=s.heap.push { cls:=.type "range",data:=.fields #[.int lo t,.int h u,.int 1 v] },toks:=tk }:=by
 refine wpAny_pyIter_range (IsRange.new ..) (small_one g i c h4) ?_;have a:Inv X pins σ H { s with heap:=s.heap.push { cls:=.type "range",data:=.fields #[.int lo t,.int h u,.int 1 v] },toks:=tk }:=I.kept λb o e=>Ab _ e;refine⟨(s.heap.push { cls:=.type "range",data:=.fields #[.int lo t,.int h u,.int 1 v] }).objs.size,[(s.heap.push { cls:=.type "range",data:=.fields #[.int lo t,.int h u,.int 1 v] }).objs.size],_,_,H,rfl,
  a.kept (t':=tk) λb o e=>Ab _ e,zrd _ lo (h-lo).toNat,?_,λb j=>?_,q⟩
 ·have f:lo+((0:Nat):Int)*1=lo:=by simp
  have d:(((h-lo).toNat:Nat):Int)-((0:Nat):Int)=Builtin.Range.rangeSize lo h 1:=by rw[rangeSize_one];split<;>omega
  show IsRangeIter _ _ (lo+((0:Nat):Int)*1) ((((h-lo).toNat:Nat):Int)-((0:Nat):Int)) 1;rw[f,d];exact Ah _ rfl
 ·have e:b=(s.heap.push { cls:=.type "range", data:=.fields #[.int lo t,.int h u,.int 1 v] }).objs.size:=by simpa using j
  subst e;exact a.fpOk (Ag _) (a.hok.fresh (Ag _))
noncomputable def z7l (t:TA):TI:=λσ H R=>t σ H λv a=>∃j:Int,v=[.int j]/\-(2^62)<=j/\j<2^62/\R (Itr 0 j.toNat) a
theorem zvo {a:Zi}{c:TA}{p pos:Pos} (n:Gl X "range") (k:X.mg "range" = Zb) (d:PA X [a] c) (g:starEach [a] X.env=[(Zc,eval a X.env)]:=by rfl):PI X tg (.Call (.Name "range" p) [a] [] pos) (z7l c):=by
 intro pins s σ H R I h;refine Call_ (zdu I n k boot_range (Dw (thn (d pos pins s σ H _ I h) λu x ⟨w,o,f,m,b⟩=>?_) g rfl));obtain⟨j,e,b,l,q⟩:=b;subst e;cases m with
 | cons r i =>
  cases i;obtain⟨t,rfl⟩:=r;exact call_range_1 (zzk f #v[] #v[] b l (by simpa using q))
noncomputable def tFor (w:TI) (g:TG) (t:TS):TS:=λD σ H=>w σ H λJ e=>∃W:Nat->Nat->St->Hp->Prop,(∃m,W 0 m σ e)/\∀i m σ H,W i m σ H ->
 (J.stop i H/\D.nx σ H)\/(J.go i H/\∃N:St->Hp->Prop,(∀b a,N b a->∃d,d<m/\W (i+1) d b a)/\∀x a,J.yld i H x a->g x σ a λc f=>t { D with nx:=N,ct:=N,bk:=D.nx } c f)
noncomputable def zlu (fp:List Zh) (h:Heap):List (Zh×Obj):=fp.filterMap λb=>(h.get? b).map λo=>(b,o)
theorem zdo {fp:List Zh}{h:Heap}{b:Zh}{o:Obj}(a:b∈fp)(e:h.get? b=Za o):(b,o)∈zlu fp h:=List.mem_filterMap.mpr ⟨b,a,by rw[e];rfl⟩
theorem ztm {fp:List Zh}{h:Heap}{p:Zh×Obj} (a:p∈zlu fp h):p.1∈fp/\h.get? p.1=Za p.2:=by
 obtain⟨b,d,e⟩:=List.mem_filterMap.mp a;cases q:h.get? b with
 |none=>rw[q] at e;cases e
 | some o =>
  rw[q] at e;have c:(b,o)=p:=sI e;subst c;exact⟨d,q⟩
theorem Inv.pinned {pins:List (Zh×Obj)}{σ:St}{H:Hp}{s:Zf}{fp:List Zh}(I:Inv X pins σ H s)(g:∀b∈fp,FpOk X pins H b)(f:∀b∈fp,∃o,s.heap.get? b=Za o/\∀v,o.data≠.cell v):Inv X (pins++zlu fp s.heap) σ H s :=
 I.pins_of λp c=>(Bg.mp c).elim (λz=>I.pin p (Ba _ z)) λz=>by
  obtain⟨h,e⟩:=ztm z;obtain⟨k,i,j,_⟩:=g p.1 h;obtain⟨o,a,d⟩:=f p.1 h;rw[e] at a;cases a;exact⟨e,k,i,j,d⟩
theorem Inv.unpinned {pins a:List (Zh×Obj)}{σ:St}{H:Hp}{s:Zf}(I:Inv X (pins++a) σ H s):Inv X pins σ H s:=I.pins_of λp h=>I.pin p (Ba _ (List.mem_append_left _ h))
theorem z5x {iter:Zi}{body:List Stmt}{Y:TI}{g:TG}{tb:TS}{pos:Pos} (z:PassesOwn (model X.prog X.w) X.A X.env X.xe) (V:X.calm=Zd) (hi:PI X tg iter Y) (hg:PG X tg g) (q:PSs X body tb)
  (hs:∀x,foldedSetIterable iter X.env x=pure x:=by intro _;rfl):PS X (.For tg iter body [] pos) (tFor Y g tb):=by
 intro pins s σ H D I h;refine wpAny_For (thn (hi pins s σ H _ I h) λv s1 h1=>thn h1 λitv s2 h2=>?_) hs;obtain⟨it,fp,tn,J,H2,e,I2,T,O,S,W,⟨m0,w0⟩,turn⟩:=h2;subst e;have k:∀{t:Hp},(∀b∈fp,t b=Zb)->∀b∈fp,FpOk X pins t b:=λhn b q=>⟨hn b q,(S b q).2⟩;refine codeAny_forLoop_any (λn Z=>∃i j t,Inv X pins j t Z/\tn i Z.heap/\(∀b∈fp,t b=Zb)/\W i n j t) ?_ m0 ⟨0,σ,H2,I2,O,λb q=>(S b q).1,w0⟩;rintro n R ⟨i,c,E,U,C,B,w3⟩;rcases turn i n c E w3 with⟨stop,qn⟩|⟨go,N,hN,step⟩
 ·refine Ig z (thn (T.done X rfl rfl rfl V i pins R c E X.xe U (k B) C stop) λr s4 ⟨L,I4⟩ => ?_);subst L;exact wpAny_execs_nil ⟨c,E,I4,qn⟩
 ·refine Ig z (thn (T.item X rfl rfl rfl V i pins R c E X.xe U (k B) C go) λr s4 ⟨u,L,h4⟩ => ?_);subst L;refine Ig z (thn h4 λ_ Q ⟨x,P,I5,r5,y5,y,G⟩=>?_);have K:=I5.pinned (k G) (T.obj _ _ y);refine Ig z (thn (hg _ Q c P x u _ K r5 (step x P y5)) λ_ s6 ⟨M,H6,I6,q6⟩=>?_);refine Ig z (thn (q _ s6 M H6 _ I6 q6) λf F w=>?_);have again:∀{a:St}{l:Hp},Inv X (pins++zlu fp Q.heap) a l F->N a l->∃m,m<n/\∃i j t,Inv X pins j t F/\tn i F.heap/\(∀b∈fp,t b=Zb)/\W i m j t:=λ{a l} p A=>by
   obtain⟨m',hm,w7⟩:=hN a l A;refine⟨m',hm,i+1,a,l,p.unpinned,T.keep _ _ _ y λb q o e=>(p.pin (b,o) (Ba _ (Ba _ (zdo q e)))).1,λb q=>?_,w7⟩;obtain⟨o,e,d⟩:=T.obj _ _ y b q;exact (p.pin (b,o) (Ba _ (Ba _ (zdo q e)))).2.1
  cases f with
  |next=>obtain⟨a,l,p,A⟩:=w;exact again p A
  |cont=>obtain⟨a,l,p,A⟩:=w;exact again p A
  |brk=>obtain⟨a,l,p,w⟩:=w;exact⟨a,l,p.unpinned,w⟩
  |ret v=>obtain⟨x7,a,l,p,r7,w⟩:=w;exact⟨x7,a,l,p.unpinned,r7,w⟩
end
noncomputable abbrev R2:=V->V->Hp->VK->Prop
noncomputable def OpR (X:Cx) (f:Ze->Ze->Sem Ze) (r:R2):Prop :=
 ∀(pins:List (Zh×Obj)) (s:Zf) (σ:St) (H:Hp) (x y:V) (v u:Ze) (Q:VK),Inv X pins σ H s->RelV x v->RelV y u->r x y H Q ->
  wpAny (model X.prog X.w) X.A (f v u) (EP X pins σ Q) X.xe s
noncomputable def UnR (X:Cx) (f:Ze->Sem Ze) (r:V->Hp->VK->Prop):Prop :=
 ∀(pins:List (Zh×Obj)) (s:Zf) (σ:St) (H:Hp) (x:V) (v:Ze) (Q:VK),Inv X pins σ H s->RelV x v->r x H Q ->
  wpAny (model X.prog X.w) X.A (f v) (EP X pins σ Q) X.xe s
noncomputable def zcw (X:Cx) (f:Ze) (r:List V->Hp->VK->Prop):Prop :=
 ∀(pins:List (Zh×Obj)) (s:Zf) (σ:St) (H:Hp) (x:List V) (u:List Ze) (Q:VK),Inv X pins σ H s->Vals x u->r x H Q ->
  wpAny (model X.prog X.w) X.A (call f u) (EP X pins σ Q) X.xe s
noncomputable def tOp (r:R2) (c t:TE):TE:=λσ H Q=>c σ H λx a=>t σ a λy b=>r x y b Q
noncomputable def tUn (r:V->Hp->VK->Prop) (t:TE):TE:=λσ H Q=>t σ H λx a=>r x a Q
noncomputable def rI (C:Int->Int->Prop) (g:Int->Int->V):R2:=λx y H Q=>∃i j,x=.int i/\y=.int j/\C i j/\Q (g i j) H
noncomputable def rI0 (g:Int->Int->V):R2:=λx y H Q=>∃i j,x=.int i/\y=.int j/\Q (g i j) H
noncomputable def rU (g:Int->V):V->Hp->VK->Prop:=λx H Q=>∃i,x=.int i/\Q (g i) H
section
variable {X:Cx}{a b c:Zi}{ta tb tc:TE}{pos:Pos}
theorem binT (j:PE X a ta) (t:PE X b tb) {pins:List (Zh×Obj)}{s:Zf}{σ:St}{H:Hp}{R:V->V->Hp->Prop} (I:Inv X pins σ H s)
  (h:ta σ H λx i=>tb σ i λy c=>R x y c) {Q:Ze->Zf->Prop}{f:Ze->Ze->Sem Ze}
  (o:∀v u g x y c,Inv X pins σ c g->RelV x v->RelV y u->R x y c->wpAny (model X.prog X.w) X.A (f v u) Q X.xe g) :
  wpAny (model X.prog X.w) X.A (eval a X.env) (λv e=>wpAny (model X.prog X.w) X.A (eval b X.env) (λu d=>wpAny (model X.prog X.w) X.A (f v u) Q X.xe d) X.xe e) X.xe s:=by
 refine thn (j pins s σ H _ I h) λv l ⟨x,i,k,r,q⟩=>?_;refine thn (t pins l σ i _ k q) λu g ⟨y,c,n,p,m⟩=>?_;exact o v u g x y c n r p m
theorem z9h {op:Operator}{r:R2}(g:OpR X (binaryOp op) r)(c:PE X a ta)(j:PE X b tb):PE X (.BinOp a op b pos) (tOp r ta tb):=by
 intro pins s σ H Q I h;exact wpAny_BinOp (binT c j I h λv u e x y d i k f q=>g pins e σ d x y v u Q i k f q)
theorem z9k {op:UnaryOp}{r:V->Hp->VK->Prop}(e:UnR X (unaryOp op) r)(b:PE X a ta):PE X (.UnaryOp op a pos) (tUn r ta):=by
 intro pins s σ H Q I h;exact UnaryOp_ (thn (b pins s σ H _ I h) λv f ⟨x,d,c,g,q⟩=>e pins f σ d x v Q c g q)
theorem opI {f:Ze->Ze->Sem Ze}{C:Int->Int->Prop}{g:Int->Int->Int}
  (rule:∀(i j:Int) (t u:Tok) (s:Zf) (Q:Ze->Zf->Prop) (E:Ze->Zf->Prop),C i j->Q (.int (g i j) s.toks) { s with toks:=s.toks+1 }->wpAny (model X.prog X.w) X.A (f (.int i t) (.int j u)) Q E s) :
  OpR X f (rI C λi j=>.int (g i j)):=by
 intro pins s σ H x y v u Q I c r h;obtain⟨i,j,rfl,rfl,a,q⟩:=h;obtain⟨t,rfl⟩:=c;obtain⟨b,rfl⟩:=r;exact rule i j t b s _ _ a ⟨.int (g i j),H,I.tok _,⟨_,rfl⟩,q⟩
theorem opI0 {f:Ze->Ze->Sem Ze}{g:Int->Int->Int}
  (rule:∀(i j:Int) (t u:Tok) (s:Zf) (Q:Ze->Zf->Prop) (E:Ze->Zf->Prop),Q (.int (g i j) s.toks) { s with toks:=s.toks+1 }->wpAny (model X.prog X.w) X.A (f (.int i t) (.int j u)) Q E s) :
  OpR X f (rI0 λi j=>.int (g i j)):=by
 intro pins s σ H x y v u Q I b r h;obtain⟨i,j,rfl,rfl,q⟩:=h;obtain⟨t,rfl⟩:=b;obtain⟨a,rfl⟩:=r;exact rule i j t a s _ _ ⟨.int (g i j),H,I.tok _,⟨_,rfl⟩,q⟩
theorem opB0 {f:Ze->Ze->Sem Ze}{g:Int->Int->Bool}
  (rule:∀(i j:Int) (t u:Tok) (s:Zf) (Q:Ze->Zf->Prop) (E:Ze->Zf->Prop),Q (.bool (g i j)) s->wpAny (model X.prog X.w) X.A (f (.int i t) (.int j u)) Q E s) :
  OpR X f (rI0 λi j=>.bl (g i j)):=by
 intro pins s σ H x y v u Q I b r h;obtain⟨i,j,rfl,rfl,q⟩:=h;obtain⟨t,rfl⟩:=b;obtain⟨a,rfl⟩:=r;exact rule i j t a s _ _ ⟨.bl (g i j),H,I,rfl,q⟩
noncomputable def CPow (i j:Int):Prop:=0<=j/\j<=1000000/\i.natAbs<2^64
noncomputable def CMul (i j:Int):Prop:=(-(2^64)<i/\i<2^64)\/(-(2^64)<j/\j<2^64)
theorem CMul.ok {i j:Int}(h:CMul i j):IntMulOk i j:=by
 rcases h with⟨a,b⟩|⟨a,b⟩
 ·exact .of_left (intBits_le_64 a b)
 ·exact .of_right (intBits_le_64 a b)
theorem zr9 (k:Nat):(0:Int)<=2^k:=by
 rw[two_pow_cast];exact Int.natCast_nonneg _
theorem z58:OpR X (binaryOp .Add) (rI0 λi j=>.int (i+j)):=opI0 λ_ _ _ _ _ _ _ q=>add_int q
theorem z6t:OpR X (binaryOp .Sub) (rI0 λi j=>.int (i-j)):=opI0 λ_ _ _ _ _ _ _ q=>sub_int q
theorem z5w:OpR X (binaryOp .Mult) (rI CMul λi j=>.int (i*j)):=opI λ_ _ _ _ _ _ _ h q=>mul_int q h.ok
theorem z83:OpR X (binaryOp .Mod) (rI (λ_ j=>0<j) λi j=>.int (i%j)):=opI λi j _ _ _ _ _ h q=>by
 have a:(0:Int)<j:=h;exact mod_int' #v[] (by rw[Int.fmod_eq_emod_of_nonneg i #v[]];exact q)
theorem z7c:OpR X (binaryOp .Pow) (rI CPow λi j=>.int (i^j.toNat)):=opI λ_ _ _ _ _ _ _ h q=>pow_int_small h.1 h.2.1 h.2.2 q
theorem z5v:OpR X (binaryOp .LShift) (rI CPow λi j=>.int (i*2^j.toNat)):=opI λ_ _ _ _ _ _ _ h q=>lshift_int_small h.1 h.2.1 h.2.2 q
theorem z52:OpR X (binaryOp .RShift) (rI (λ_ j=>0<=j) λi j=>.int (i/2^j.toNat)):=opI λi j _ _ _ _ _ h q =>
 rshift_int h (by rw[Int.fdiv_eq_ediv_of_nonneg i (zr9 _)];exact q)
theorem z7a:OpR X (binaryOp .BitAnd) (rI0 λi j=>.int (Builtin.bitAnd i j)):=opI0 λ_ _ _ _ _ _ _ q=>and_int q
theorem yay:OpR X (binaryOp .BitOr) (rI0 λi j=>.int (Builtin.bitOr i j)):=opI0 λ_ _ _ _ _ _ _ q=>or_int q
theorem z7d:OpR X (binaryOp .BitXor) (rI0 λi j=>.int (Builtin.bitXor i j)):=opI0 λ_ _ _ _ _ _ _ q=>xor_int q
theorem unI {f:Ze->Sem Ze}{g:Int->Int}
  (rule:∀(i:Int) (t:Tok) (s:Zf) (Q:Ze->Zf->Prop) (E:Ze->Zf->Prop),Q (.int (g i) s.toks) { s with toks:=s.toks+1 }->wpAny (model X.prog X.w) X.A (f (.int i t)) Q E s) :
  UnR X f (rU λi=>.int (g i)):=by
 intro pins s σ H x v Q I r h;obtain⟨i,rfl,q⟩:=h;obtain⟨t,rfl⟩:=r;exact rule i t s _ _ ⟨.int (g i),H,I.tok _,⟨_,rfl⟩,q⟩
theorem z6y:UnR X (unaryOp .USub) (rU λi=>.int (-i)):=unI λ_ _ _ _ _ q=>neg_int q
end
noncomputable def scal:V->V->Bool
 |.non,.non=>Zd|.non,.int _=>Zd|.int _,.non=>Zd|.non,.bl _=>Zd|.bl _,.non=>Zd|.non,.str _=>Zd|.str _,.non=>Zd
 |.int _,.int _=>Zd|.bl _,.bl _=>Zd|.str _,.str _=>Zd|.byt _,.byt _=>Zd
 |.int _,.str _=>Zd|.str _,.int _=>Zd|.bl _,.str _=>Zd|.str _,.bl _=>Zd
 |_,_=>Zc
noncomputable def rEq:R2:=λx y H Q=>scal x y=Zd/\Q (.bl (decide (x=y))) H
noncomputable def rNe:R2:=λx y H Q=>scal x y=Zd/\Q (.bl (!decide (x=y))) H
theorem zv1 {i j:Int}:decide (V.int i=V.int j)=(i==j):=by
 rw[Eg];simp
theorem z1o {i j:Bool}:decide (V.bl i=V.bl j)=(i==j):=by
 rw[Eg];simp
theorem ztu {i j:Str}:decide (V.str i=V.str j)=(i==j):=by
 rw[Eg];simp
theorem zui {i j:Array UInt8}:decide (V.byt i=V.byt j)=(i.toList==j.toList):=by
 rw[Eg];cases i;cases j;simp
section
variable {X:Cx}{a b c:Zi}{ta tb tc:TE}{pos:Pos}
theorem zai {pins:List (Zh×Obj)}{σ:St}{H:Hp}{s:Zf}{Q:VK}{k a:Bool}(I:Inv X pins σ H s)(q:Q (.bl k) H)(e:k=a):EP X pins σ Q (.bool a) s:=by
 subst e;exact⟨.bl k,H,I,rfl,q⟩
theorem yae:OpR X (compareOp .Eq) rEq:=by
 intro pins s σ H x y v u Q I c r h;obtain⟨b,q⟩:=h;cases x with
 | non =>
  cases c;cases y with
  |non=>cases r;exact PySem.EqNone.eq_none_none (zai I q (by simp))
  |bl j=>cases r;exact PySem.EqNone.eq_none_bool (zai I q (by simp))
  |int j=>obtain⟨a,rfl⟩:=r;exact PySem.EqNone.eq_none_int (zai I q (by simp))
  |str j=>obtain⟨a,rfl⟩:=r;exact PySem.EqNone.eq_none_str (zai I q (by simp))
  |_=>exact absurd (show Zc=Zd from b) Aq
 | bl i =>
  cases c;cases y with
  |non=>cases r;exact PySem.EqNone.eq_bool_none (zai I q (by simp))
  |bl j=>cases r;exact eq_bool (zai I q z1o)
  |str j=>obtain⟨a,rfl⟩:=r;exact PySem.EqMixed.eq_bool_str (zai I q (by simp))
  |_=>exact absurd (show Zc=Zd from b) Aq
 | int i =>
  obtain⟨t,rfl⟩:=c;cases y with
  |non=>cases r;exact PySem.EqNone.eq_int_none (zai I q (by simp))
  |int j=>obtain⟨a,rfl⟩:=r;exact eq_int (zai I q zv1)
  |str j=>obtain⟨a,rfl⟩:=r;exact PySem.EqMixed.eq_int_str (zai I q (by simp))
  |_=>exact absurd (show Zc=Zd from b) Aq
 | str i =>
  obtain⟨t,rfl⟩:=c;cases y with
  |non=>cases r;exact PySem.EqNone.eq_str_none (zai I q (by simp))
  |bl j=>cases r;exact PySem.EqMixed.eq_str_bool (zai I q (by simp))
  |int j=>obtain⟨a,rfl⟩:=r;exact PySem.EqMixed.eq_str_int (zai I q (by simp))
  |str j=>obtain⟨a,rfl⟩:=r;exact eq_str (zai I q ztu)
  |_=>exact absurd (show Zc=Zd from b) Aq
 | byt i =>
  obtain⟨t,rfl⟩:=c;cases y with
  |byt j=>obtain⟨a,rfl⟩:=r;exact PySem.W.eq_bytes (zai I q zui)
  |_=>exact absurd (show Zc=Zd from b) Aq
 |_=>cases y<;>exact absurd (show Zc=Zd from b) Aq
theorem z9l:OpR X (compareOp .NotEq) rNe:=by
 intro pins s σ H x y v u Q I c r h;obtain⟨b,q⟩:=h;cases x with
 | non =>
  cases c;cases y with
  |non=>cases r;exact PySem.EqNone.ne_none_none (zai I q (by simp))
  |bl j=>cases r;exact PySem.EqNone.ne_none_bool (zai I q (by simp))
  |int j=>obtain⟨a,rfl⟩:=r;exact PySem.EqNone.ne_none_int (zai I q (by simp))
  |str j=>obtain⟨a,rfl⟩:=r;exact PySem.EqNone.ne_none_str (zai I q (by simp))
  |_=>exact absurd (show Zc=Zd from b) Aq
 | bl i =>
  cases c;cases y with
  |non=>cases r;exact PySem.EqNone.ne_bool_none (zai I q (by simp))
  |bl j=>cases r;exact ne_bool (zai I q (congrArg not z1o))
  |str j=>obtain⟨a,rfl⟩:=r;exact PySem.EqMixed.ne_bool_str (zai I q (by simp))
  |_=>exact absurd (show Zc=Zd from b) Aq
 | int i =>
  obtain⟨t,rfl⟩:=c;cases y with
  |non=>cases r;exact PySem.EqNone.ne_int_none (zai I q (by simp))
  |int j=>obtain⟨a,rfl⟩:=r;exact ne_int (zai I q (congrArg not zv1))
  |str j=>obtain⟨a,rfl⟩:=r;exact PySem.EqMixed.ne_int_str (zai I q (by simp))
  |_=>exact absurd (show Zc=Zd from b) Aq
 | str i =>
  obtain⟨t,rfl⟩:=c;cases y with
  |non=>cases r;exact PySem.EqNone.ne_str_none (zai I q (by simp))
  |bl j=>cases r;exact PySem.EqMixed.ne_str_bool (zai I q (by simp))
  |int j=>obtain⟨a,rfl⟩:=r;exact PySem.EqMixed.ne_str_int (zai I q (by simp))
  |str j=>obtain⟨a,rfl⟩:=r;exact ne_str (zai I q (congrArg not ztu))
  |_=>exact absurd (show Zc=Zd from b) Aq
 | byt i =>
  obtain⟨t,rfl⟩:=c;cases y with
  |byt j=>obtain⟨a,rfl⟩:=r;exact PySem.W.ne_bytes (zai I q (congrArg not zui))
  |_=>exact absurd (show Zc=Zd from b) Aq
 |_=>cases y<;>exact absurd (show Zc=Zd from b) Aq
theorem z9g:OpR X (compareOp .Lt) (rI0 λi j=>.bl (decide (i<j))):=opB0 λ_ _ _ _ _ _ _ q=>lt_int q
theorem yaf:OpR X (compareOp .LtE) (rI0 λi j=>.bl (decide (i<=j))):=opB0 λ_ _ _ _ _ _ _ q=>le_int q
theorem z9f:OpR X (compareOp .Gt) (rI0 λi j=>.bl (decide (j<i))):=opB0 λ_ _ _ _ _ _ _ q=>gt_int q
theorem z9x:OpR X (compareOp .GtE) (rI0 λi j=>.bl (decide (j<=i))):=opB0 λ_ _ _ _ _ _ _ q=>ge_int q
theorem z84:OpR X (compareOp .Is) (λx y H Q=>y=.non/\Q (.bl (decide (x=.non))) H):=by
 intro pins s σ H x y v u Q I r a h;obtain⟨rfl,q⟩:=h;cases a;refine is_none_gen (zai I q ?_);cases x<;>first
  |(cases r;rfl)
  |(obtain⟨t,rfl⟩:=r;rfl)
theorem OpR.or {f:Ze->Ze->Sem Ze}{r b:R2}(h:OpR X f r)(h':OpR X f b):OpR X f (λx y H Q=>r x y H Q\/b x y H Q):=by
 intro pins s σ H x y v u Q I c a q;rcases q with q|q
 ·exact h pins s σ H x y v u Q I c a q
 ·exact h' pins s σ H x y v u Q I c a q
theorem zwf {op:CmpOp}{r:R2}(i:OpR X (compareOp op) r)(c:PE X a ta)(k:PE X b tb)(g:behindInMarks op b=Zc):PE X (.Compare a [op] [b] pos) (tOp r ta tb):=by
 intro pins s σ H Q I h;exact wpAny_Compare1 (binT c k I h λv u e x y d j l f q=>i pins e σ d x y v u Q j l f q) g
noncomputable def z6u (t:TE):TT:=λσ H Q=>t σ H λx a=>∃k,x=.bl k/\Q k a
theorem zwh {op:CmpOp}{r:R2}(f:OpR X (compareOp op) r)(m:PE X a ta)(l:PE X b tb)(g:behindInMarks op b=Zc):PT X (.Compare a [op] [b] pos) (z6u (tOp r ta tb)):=by
 intro pins s σ H Q I h;refine wpAny_isTrue_Compare1 (thn (m pins s σ H _ I h) λv w ⟨x,o,d,C,t⟩=>thn (l pins w σ o _ d t) λu E ⟨y,p,B,j,i⟩ =>
  thn (f pins E σ p x y v u _ B C j i) λc F ⟨z,D,n,A,k,e,q⟩=>?_) g
 subst e;cases A;exact Ge ⟨D,n,q⟩
theorem zqw:(sizeLine:Nat)<2^63:=by rw[sizeLine_eq];decide
theorem zr3:OpR X (binaryOp .Add) (λx y H Q=>∃i j,x=.str i/\y=.str j/\i.length+j.length<=sizeLine/\Q (.str (i++j)) H):=by
 intro pins s σ H x y v u Q I c r h;obtain⟨i,j,rfl,rfl,b,q⟩:=h;obtain⟨t,rfl⟩:=c;obtain⟨a,rfl⟩:=r;exact add_str (λa d=>⟨.str (i++j),H,I.tok _,⟨_,rfl⟩,q⟩) b
theorem vals1 {x:V}{us:List Ze}(r:Vals [x] us):∃u,us=[u]/\RelV x u:=by
 cases r with
 |cons b a=>cases a;exact⟨_,rfl,b⟩
theorem zzz:zcw X (.builtin "abs") (λx H Q=>∃i,x=[.int i]/\Q (.int (if i<0 then -i else i)) H):=by
 intro pins s σ H x a Q I r h;obtain⟨i,rfl,q⟩:=h;obtain⟨u,rfl,t,rfl⟩:=vals1 r;exact call_abs_int λu b=>⟨.int (if i<0 then -i else i),H,I.tok _,⟨_,rfl⟩,q⟩
theorem zu7:zcw X (.type "int") (λx H Q=>(∃i,x=[.int i]/\Q (.int i) H)\/∃k,x=[.bl k]/\Q (.int (if k then 1 else 0)) H):=by
 intro pins s σ H x b Q I r h;rcases h with⟨i,rfl,q⟩|⟨k,rfl,q⟩
 ·obtain⟨u,rfl,t,rfl⟩:=vals1 r;exact call_int_int ⟨.int i,H,I,⟨_,rfl⟩,q⟩
 ·obtain⟨u,rfl,a⟩:=vals1 r;cases a;exact call_int_bool ⟨.int (if k then 1 else 0),H,I.tok _,⟨_,rfl⟩,q⟩
end
structure ObjM (h:Heap) (x dx C:Zh) (mA:Str->Option Ze):Prop where
 obj:h.get? x=Za (PySem.W.instObj C dx)
 ns:h.Ns1 dx mA
 ne:dx≠x
theorem zvh {h:Heap}{f:Zh}{mA:Str->Option Ze}(n:h.Ns1 f mA):∃d,h.get? f=Za d/\∀name,PySem.W.lookIn name d=Za (mA name):=by
 obtain⟨o,c,p,i,k,j,_,g⟩:=n;refine⟨o,i,λname=>?_⟩;have e:=g name;unfold nsFind findBy at e;rw[<-Array.find?_toList] at e;unfold PySem.W.lookIn;rw[k];dsimp only;split
 ·rename_i y q;rw[q] at e;exact congrArg Za e
 ·rename_i q;rw [q] at e;have a:c.toList.any (·.refKey)=Zc:=by
   rw[List.any_eq_false];intro y m;obtain⟨z,t,b⟩:=j y (Array.mem_toList_iff.mp m);simp [DictEntry.refKey,b]
  have l : ¬ c.toList.any (·.refKey)=Zd:=by rw[a];exact Aq
  rw[if_neg l];exact congrArg Za e
theorem ObjM.look {h:Heap}{x d C:Zh}{mA:Str->Option Ze}(I:ObjM h x d C mA):∃o,PySem.W.InstAt h x (PySem.W.instObj C d) C (Za o)/\∀name,PySem.W.lookIn name o=Za (mA name) :=
 let ⟨o,a,b⟩:=zvh I.ns
 ⟨o,⟨I.obj,rfl,rfl,a⟩,b⟩
section
variable {prog:Program}{w:World}{A:Around}{E:Ze->Zf->Prop}{s:Zf}{K:Zg}{x dx C f:Zh}{mA:Str->Option Ze}{name:Str}{v:Ze}
end
theorem RelO.some_of {v:V}{o:Option Ze}(r:RelO (Za v) o):∃u,o=Za u/\RelV v u:=by
 cases o with
 |none=>exact (show False from r).elim
 |some u=>exact⟨u,rfl,r⟩
section
variable {P:Program}{w:World}{H H' : Hp}{h h' : Heap}{a C dx:Zh}{fs fs' : List (Str × V)}
theorem z3z (b:HOk P w H h)(e:H a=Za (.ins C dx fs)):∃mA,ObjM h a dx C mA/\(∀f,RelO (fs.lookup f) (mA f))/\PySem.Within mA (fs.map (·.1))/\fs.length<=1000/\H dx=Za (.own a):=by
 obtain⟨d,z,ne,ob,mA,n,r,q⟩:=(show ObjOk P w H h a (.ins C dx fs) from b a _ e);exact⟨mA,⟨ob,n,ne⟩,r,q,z,d⟩
end
structure Cls (K:Zg) (C:Zh):Prop where
 pg:PySem.W.plainGet K C Str.empty=Zd
 hd:PySem.W.hasDictIn K C=Zd
 po:PySem.W.plainOver K C=Zd
 sa:PySem.W.findIn K (.ref C) "__setattr__" = Za (Za (.builtin "object.__setattr__"))
theorem Cls.get {K:Zg}{C:Zh}(c:Cls K C)(f:Str):PySem.W.plainGet K C f=Zd:=c.pg
section
variable {X:Cx}{pins:List (Zh × Obj)}{σ:St}{H:Hp}{s:Zf}{a C dx:Zh}{fs:List (Str × V)}{f:Str}{v:V}{A:Around}{E:Ze->Zf->Prop}
end
section
variable {X:Cx}{o e value:Zi}{f:Str}{pos pos' tpos:Pos}{ta tv:TE}
end
section
variable {X:Cx}{pins:List (Zh × Obj)}{σ:St}{H:Hp}{s:Zf}{A:Around}{E:Ze->Zf->Prop}{Q:Ze->Zf->Prop}{c:Ze}{b:Bool}
inductive TyOf (K:Zg) (H:Hp):V->Ze->Prop where
 |non:TyOf K H .non (.type "NoneType")
 |bl (x:Bool):TyOf K H (.bl x) (.type "bool")
 |int (i:Int):TyOf K H (.int i) (.type "int")
 |str (x:Str):TyOf K H (.str x) (.type "str")
 |flt (x:UInt64):TyOf K H (.flt x) (.type "float")
 |lst {a:Zh}{xs:List V} (e:H a=Za (.lst xs)):TyOf K H (.ref a) (.type "list")
 |frz {a:Zh}{o:Obj}{xs:List V} (e:H a=Za (.frz o (.lst xs))):TyOf K H (.ref a) (.type "list")
 |tup {a:Zh}{xs:List V} (e:H a=Za (.tup xs)):TyOf K H (.ref a) (.type "tuple")
 |dK {a:Zh}{kvs:List (Key×V)} (e:H a=Za (.dK kvs)):TyOf K H (.ref a) (.type "dict")
 |dT {a:Zh}{kvs:List (List Key×V)} (e:H a=Za (.dT kvs)):TyOf K H (.ref a) (.type "dict")
 | ins {a C dx:Zh}{fs:List (Str×V)} (e:H a=Za (.ins C dx fs)) (cl:Cls K C) (ha:PySem.W.findIn K (.ref C) "__class__" = Za (Za (.builtin "object.__class__")))
  (hn:PySem.W.specialIn K (.builtin "object.__class__") "__get__" = Za (Za (.builtin "getset_descriptor.__get__"))) (htk:PySem.W.takesIn K (.builtin "object.__class__")=Za Zd)
  (hm:PySem.W.mroIn K C (.type "object")=Za Zd):TyOf K H (.ref a) (.ref C)
theorem zu5 {x:V}{u t:Ze} (I:Inv X pins σ H s) (r:RelV x u) (ty:TyOf X.K H x t) (e:PySem.W.kitOne X.K t c=Za b) (h:∀D,Q (.bool b) { s with toks:=D }) :
  wpAny (model X.prog X.w) A (call (.builtin "isinstance") [u,c]) Q E s:=by
 cases ty with
 |non=>cases (show u=Ze.none from r);exact Dc PySem.W.kitx_none I.kIn True.intro e (λz=>nomatch z) h
 |bl y=>cases (show u=Ze.bool y from r);exact Dc PySem.W.kitx_bool I.kIn True.intro e (λz=>nomatch z) h
 |int i=>obtain⟨t,q⟩:=(show ∃t,u=Ze.int i t from r);cases q;exact Dc PySem.W.kitx_int I.kIn True.intro e (λz=>nomatch z) h
 |str y=>obtain⟨t,q⟩:=(show ∃t,u=Ze.str y t from r);cases q;exact Dc PySem.W.kitx_str I.kIn True.intro e (λz=>nomatch z) h
 |flt y=>obtain⟨t,q⟩:=(show ∃t,u=Ze.float y t from r);cases q;exact Dc PySem.W.kitx_float I.kIn True.intro e (λz=>nomatch z) h
 | @lst a g d =>
  cases (show u=Ze.ref a from r);obtain⟨_,_,n,_,f⟩:=(show ObjOk X.prog X.w H s.heap a (.lst g) from I.hok a _ d);exact Dc PySem.W.kitx_list I.kIn ⟨_,f,rfl⟩ e (λz=>nomatch z) h
 | @frz a ob g d =>
  cases (show u=Ze.ref a from r);obtain⟨_,_,_,n,_,f⟩:=(show ObjOk X.prog X.w H s.heap a (.frz ob (.lst g)) from I.hok a _ d);exact Dc PySem.W.kitx_list I.kIn ⟨_,f,rfl⟩ e (λz=>nomatch z) h
 | @tup a g d =>
  cases (show u=Ze.ref a from r);obtain⟨_,_,_,p⟩:=(show ObjOk X.prog X.w H s.heap a (.tup g) from I.hok a _ d);obtain⟨o,f,j,_⟩:=p;exact Dc PySem.W.kitx_tuple I.kIn ⟨o,f,j⟩ e (λz=>nomatch z) h
 | @dK a kvs d =>
  cases (show u=Ze.ref a from r);obtain⟨_,_,K,_,p⟩:=(show ObjOk X.prog X.w H s.heap a (.dK kvs) from I.hok a _ d);obtain⟨o,B,G,f,j,_⟩:=p;exact Dc PySem.W.kitx_dict I.kIn ⟨o,f,j.1⟩ e (λz=>nomatch z) h
 | @dT a kvs d =>
  cases (show u=Ze.ref a from r);obtain⟨_,_,g,_,o,B,G,f,j,_⟩:=(show ObjOk X.prog X.w H s.heap a (.dT kvs) from I.hok a _ d);exact Dc PySem.W.kitx_dict I.kIn ⟨o,f,j.1⟩ e (λz=>nomatch z) h
 | @ins a C L fs d l w F k m =>
  cases (show u=Ze.ref a from r);obtain⟨mA,O,_⟩:=z3z I.hok d;obtain⟨M,J,_⟩:=O.look;exact Dc (PySem.W.kitx_own (l.get _) l.hd w F k m) I.kIn J e (λz=>nomatch z) h
end
structure Room (k:Nat) (A:Around):Prop where
 hd:A.handled=Zb
 dp:A.depth+3*k+5<recursionLimit
 un:A.units+16*k+200<cLine
 gd:A.guards=Za []
theorem Room.mono {j k:Nat}{A:Around}(r:Room k A)(h:j<=k):Room j A:=⟨r.hd,by have:=r.dp;omega,by have:=r.un;omega,r.gd⟩
theorem Room.deeper {k:Nat}{A:Around}(r:Room (k+1) A)(env:Env):Room k (A.deeper env) :=
 ⟨r.hd,by have:=r.dp;show A.depth+1+3*k+5<_;omega,by have:=r.un;show A.units+3+16*k+200<_;omega,r.gd⟩
theorem Room.depth {k:Nat}{A:Around}(r:Room k A):A.depth<recursionLimit:=by have:=r.dp;omega
noncomputable def tNil:TA:=λ_ H Q=>Q [] H
noncomputable def zek (d:TE) (t:TA):TA:=λσ H Q=>d σ H λx a=>t σ a λc b=>Q (x::c) b
section
variable {X:Cx}{e:Zi}{es:List Zi}{te:TE}{t:TA}{pos:Pos}
theorem zdw:PA X [] tNil:=λ_ _ _ _ H Q I h=>Iu ⟨[],H,I,.nil,h⟩
theorem zne (a:PE X e te)(g:PA X es t)(f:starEach (e::es) X.env=(Zc,eval e X.env)::starEach es X.env:=by rfl):PA X (e::es) (zek te t):=by
 intro pos pins s σ H Q I h;rw[f];show wpAny _ _ (spliced ((Zc,eval e X.env)::backTo pos (starEach es X.env))) _ _ s;refine Im (thn (a pins s σ H _ I h) λu i ⟨x,c,b,r,q⟩=>?_);exact thn (g pos pins i σ c _ b q) λn o ⟨k,d,j,m,l⟩=>⟨x::k,d,j,.cons r m,l⟩
noncomputable def tTup (t:TA):TE:=λσ H Q=>t σ H λx a=>x.length<=sizeLine/\∀p,a p=Zb->Q (.ref p) (upd a p (.tup x))
noncomputable def tLst (t:TA):TE:=λσ H Q=>t σ H λx a=>x.length<=sizeLine/\∀p,a p=Zb->Q (.ref p) (upd a p (.lst x))
theorem z76 {x}(h:PA X es t):PE X (.Tuple es x pos) (tTup t):=by
 intro pins s σ H Q I j;refine wpAny_Tuple_spliced (thn (h pos pins s σ H _ I j) λf a ⟨i,d,c,r,z,q⟩=>⟨by rw[<-r.length];exact z,?_⟩);have g:d a.heap.objs.size=Zb:=c.hok.fresh (Ag _);refine⟨.ref a.heap.objs.size,upd d a.heap.objs.size (.tup i),c.laid (t':=a.toks) (λb u e=>Ab _ e) (Ag _) ?_,rfl,q _ g⟩;exact⟨z,f,r,⟨_,Ah _ rfl,rfl,_,rfl⟩⟩
theorem z8n (h:PA X es t):PE X (.List es pos) (tLst t):=by
 intro pins s σ H Q I i;refine wpAny_List_spliced (thn (h pos pins s σ H _ I i) λf a ⟨x,d,c,r,z,q⟩=>⟨by rw[<-r.length];exact z,?_⟩);have g:d a.heap.objs.size=Zb:=c.hok.fresh (Ag _);refine⟨.ref a.heap.objs.size,upd d a.heap.objs.size (.lst x),c.laid (t':=a.toks) (λb u e=>Ab _ e) (Ag _) ?_,rfl,q _ g⟩;exact⟨z,f,0,r,Ah _ rfl⟩
end
noncomputable abbrev Sp:=List V->Hp->VK->XK->Prop
noncomputable abbrev CXT:=List Env->Hp->Zf->XK->Ze->Zf->Prop
structure Env0 (P:Program) (w:World) (K:Zg) (mg:Str->Option Ze) (base:Heap) (A:Around) (outer:List Env) (s:Zf) (H:Hp):Prop where
 frames:A.frames=Za outer
 mod:Mod K mg base
 bs:∀b o,base.get? b=Za o->s.heap.get? b=Za o/\H b=Zb
 bsz:base.objs.size<=s.heap.objs.size
 funs:s.heap.FunFrames base outer
 frf:∀b∈frs outer,H b=Zb
 hok:HOk P w H s.heap
 bare:AllBare s.gens
noncomputable def CE (outer:List Env) (P:Program) (w:World) (H:Hp) (s:Zf) (Q:VK) (u:Ze) (s':Zf):Prop :=
 ∃v a,s'.os=s.os/\AllBare s'.gens/\Un (frs outer) [] H a s.heap s'.heap/\HOk P w a s'.heap/\RelV v u/\Q v a
noncomputable def CR (CX:CXT) (outer:List Env) (P:Program) (w:World) (H:Hp) (s:Zf) (Q:VK) (E:XK) (r:Result) (s':Zf):Prop :=
 match r with
 |.ok (.ret u)=>CE outer P w H s Q u s'
 |.ok _=>False
 |.error e=>CX outer H s E e s'
structure FnOk (P:Program) (w:World) (K:Zg) (mg:Str->Option Ze) (base:Heap) (CX:CXT) (k:Nat) (f:Zh) (fd:FuncData) (ps:List Str) (sp:Sp):Prop where
 len:∀vs H Q E,sp vs H Q E->vs.length=ps.length
 run:∀(A:Around) (outer:List Env) (s:Zf) (H:Hp) (args:Args) (us:List Ze) (vs:List V) (Q:VK) (E:XK),Room k A->Env0 P w K mg base A outer s H->BindsTo s fd args (ps.zip us)->Vals vs us->sp vs H Q E ->
  codeAny (model P w) A (.call (.ref f) args) (CR CX outer P w H s Q E) s
section
variable {X:Cx}{pins:List (Zh × Obj)}{σ:St}{H:Hp}{s s' : Zf}
theorem Inv.env0 (I:Inv X pins σ H s):Env0 X.prog X.w X.K X.mg X.base X.A X.stack s H :=
 ⟨I.ok.frames,I.ok.mod,I.bs,Cf I.ok.bsz I.sz,I.stack,I.stkFree,I.hok,I.bare⟩
theorem Inv.after {Q:VK}{u:Ze}(I:Inv X pins σ H s)(h:CE X.stack X.prog X.w H s Q u s'):EP X pins σ Q u s':=by
 obtain⟨v,c,f,bare,un,a,r,q⟩:=h;obtain⟨e,g,d,t,o⟩:=s';obtain rfl:o=s.os:=f;exact⟨v,c,I.call (h':=e) (g':=g) (d':=d) (t':=t) (ch:=[]) un a bare (λb z=>absurd z (by simp)),r,q⟩
end
noncomputable def z4w (sp:Sp) (dvs:List V) (E:XK) (t:TA):TE:=λσ H Q=>t σ H λv a=>sp (v++dvs) a Q E
noncomputable def zlc (K:Zg) (f:FuncData) (ps:List Str) (d:List Ze):Prop :=
 ∀(s:Zf) (u:List Ze),K.In s.heap->(u++d).length=ps.length->BindsTo s f ⟨u,[]⟩ (ps.zip (u++d))
theorem zlc.all {K:Zg}{f:FuncData}{ps:List Str}(h:∀u:List Ze,u.length=ps.length->bindArgs f ⟨u,[]⟩=pure (ps.zip u)):zlc K f ps []:=λs u _ a=>by
 rw[Bv] at a ⊢;exact .of_eq (h u a)
noncomputable def zvu (CX:CXT) (X:Cx) (E:XK):Prop:=∀(pins:List (Zh×Obj)) (σ:St) (H:Hp) (s:Zf) (e:Ze) (a:Zf),Inv X pins σ H s->CX X.stack H s E e a->X.xe e a
section
variable {X:Cx}{CX:CXT}{k:Nat}{f C:Zh}{fd:FuncData}{ps:List Str}{sp:Sp}{dvs:List V}{ds:List Ze}{E:XK}{x m:Str}{p pos apos:Pos}{e o:Zi}{es:List Zi}{ta:TE}{t:TA}
theorem z1v {pins:List (Zh×Obj)}{σ:St}{H:Hp}{s:Zf}{Q:VK}{us:List Ze}{vs:List V} (F:FnOk X.prog X.w X.K X.mg X.base CX k f fd ps sp) (i:Room k X.A) (m:zlc X.K fd ps ds) (d:Vals dvs ds) (j:zvu CX X E)
  (I:Inv X pins σ H s) (r:Vals vs us) (h:sp (vs++dvs) H Q E):wpAny (model X.prog X.w) X.A (call (.ref f) us) (EP X pins σ Q) X.xe s:=by
 have b:Vals (vs++dvs) (us++ds):=r.append d;have l:(us++ds).length=ps.length:=by rw[<-b.length];exact F.len _ _ _ _ h
 refine wpAny_call (Es (F.run X.A X.stack s H ⟨us,[]⟩ (us++ds) (vs++dvs) Q E i I.env0 (m s us I.kIn l) b h) λr g a=>?_);cases r with
 |error e=>exact j pins σ H s e g I a
 | ok c =>
  cases c with
  |ret u=>exact I.after a
  |next=>exact False.elim a
  |brk=>exact False.elim a
  |cont=>exact False.elim a
theorem z4f (F:FnOk X.prog X.w X.K X.mg X.base CX k f fd ps sp) (m:Room k X.A) (u:Gl X x) (i:X.mg x=Za (.ref f)) (j:PySem.W.keepIn X.K (.ref f)=Zd) (o:zlc X.K fd ps ds) (l:Vals dvs ds) (n:zvu CX X E)
  (d:PA X (e::es) t) (a:(x==("__debug__" : Str))=Zc:=by decide) (g:starEach (e::es) X.env=(Zc,eval e X.env)::starEach es X.env:=by rfl) (b:(backTo pos (starEach es X.env)).any (·.1)=Zc:=by rfl) :
  PE X (.Call (.Name x p) (e::es) [] pos) (z4w sp dvs E t):=by
 intro pins s σ H Q I h;refine Fh (zuy I u i ?_ a);refine PySem.W.callWith_K (h₀:=X.base) I.ok.mod.kin j (thn (d pos pins s σ H _ I h) λv z ⟨y,w,c,r,q⟩=>⟨c.kIn,?_⟩) g b;exact z1v F m o l n c r q
end
section
variable {X:Cx}{CX:CXT}{k:Nat}{f C:Zh}{fd:FuncData}{ps ks:List Str}{sp:Sp}{E:XK}{x m:Str}{p pos apos kpos:Pos}{e o:Zi}{es:List Zi}{kws:List Keyword}{te ta:TE}{t tk:TA}{nm:Option Str}
variable {g:List Ze->List Ze->List Ze}{gV:List V->List V->List V}
end
structure FnScope (N P:List Str) (sc:Scope):Prop where
 kind:sc.kind=.function
 co:sc.isCoroutine=Zc
 gen:sc.isGenerator=Zc
 nd:N.Nodup
 pre:N.take P.length=P
 par:∀x∈P,sc.names.lookup x=Za .local\/sc.names.lookup x=Za .cell
 nofree:∀y∈sc.names,y.2≠.free
theorem zm2 {kindOf:Str->Option NameKind}{x:Str}:∀{binds:List (Str×Ze)}{m:Str->Option Ze},(∀v,(x,v) ∉ binds)->bindL kindOf binds m x=m x
 |[],_,_=>rfl
 | (n,v)::r,m,h=>by
  unfold bindL;rw[zm2 λw a=>h w (Au _ a)];split
  ·have:x≠n:=by rintro rfl;exact h v Az
   simp [this]
  ·rfl
theorem zl2 {kindOf:Str->Option NameKind}{x:Str}:∀{binds:List (Str×Ze)}{m:Str->Option Ze},(∀v,(x,v) ∉ binds)->bindC kindOf binds m x=m x
 |[],_,_=>rfl
 | (n,v)::r,m,h=>by
  unfold bindC;rw[zl2 λw a=>h w (Au _ a)];split
  ·rfl
  ·have:x≠n:=by rintro rfl;exact h v Az
   simp [this]
theorem zkz {kindOf:Str->Option NameKind}{x:Str}{v:Ze}:∀{P:List Str}{a:List Ze}{i:Nat}{m:Str->Option Ze},P.Nodup->P[i]?=Za x->a[i]?=Za v->kindOf x=Za .local ->
  bindL kindOf (P.zip a) m x=Za v
 |[],_,_,_,_,h,_,_=>by simp at h
 |_::_,[],_,_,_,_,h,_=>by simp at h
 | p::P,w::a,0,m,n,b,c,d=>by
  simp at b c;subst b;subst c;show bindL kindOf ((p,w)::P.zip a) m p=_;unfold bindL;rw[zm2 λv e=>(Dd.mp n).1 (Ec e).1,if_pos d];simp
 | p::P,w::a,i+1,m,n,b,c,d=>by
  show bindL kindOf ((p,w)::P.zip a) m x=_;unfold bindL;exact zkz (i:=i) (Dd.mp n).2 (by simpa using b) (by simpa using c) d
theorem zmk {kindOf:Str->Option NameKind}{x:Str}{v:Ze}:∀{P:List Str}{a:List Ze}{i:Nat}{m:Str->Option Ze},P.Nodup->P[i]?=Za x->a[i]?=Za v->kindOf x≠Za .local ->
  bindC kindOf (P.zip a) m x=Za v
 |[],_,_,_,_,h,_,_=>by simp at h
 |_::_,[],_,_,_,_,h,_=>by simp at h
 | p::P,w::a,0,m,n,b,c,d=>by
  simp at b c;subst b;subst c;show bindC kindOf ((p,w)::P.zip a) m p=_;unfold bindC;rw[zl2 λv e=>(Dd.mp n).1 (Ec e).1,if_neg d];simp
 | p::P,w::a,i+1,m,n,b,c,d=>by
  show bindC kindOf ((p,w)::P.zip a) m x=_;unfold bindC;exact zmk (i:=i) (Dd.mp n).2 (by simpa using b) (by simpa using c) d
noncomputable def start (N:List Str) (vs:List V):St:=vs.map Za++List.replicate (N.length-vs.length) Zb
noncomputable def cxOf (CX:CXT) (P:Program) (w:World) (K:Zg) (mg:Str->Option Ze) (base:Heap) (N:List Str) (qual:Str) (scope:Scope) (f:Zh) (c:Ze) (A:Around) (outer:List Env) (s:Zf) (H:Hp) (E:XK):Cx where
 prog:=P
 w:=w
 K:=K
 mg:=mg
 base:=base
 A:=A.deeper (envOfC qual scope s.heap.objs.size f c)
 N:=N
 s₀:=s
 H₀:=H
 env:=envOfC qual scope s.heap.objs.size f c
 outer:=outer
 stack:=envOfC qual scope s.heap.objs.size f c::outer
 ex:=[]
 calm:=Zd
 fn:=λ_=>Zd
 pn:=[]
 xe:=λe b=>wpAny (model P w) (A.deeper (envOfC qual scope s.heap.objs.size f c)) (leaving (envOfC qual scope s.heap.objs.size f c) e) (λ_ a=>CX outer H s E e a) (λd a=>CX outer H s E d a) b
theorem cell_has {s:Scope}{n:Nat}{x:Str}(h:s.names.lookup x=Za .cell):∃c,(cellsFrom n s.names []).lookup x=Za c:=by
 have q:=Gz s.names n [] (.inl h);exact Ep.mp q
theorem zlr {CX:CXT}{P:Program}{w:World}{K:Zg}{C:Str->Option Ze}{base:Heap}{N ps:List Str}{qual:Str}{scope:Scope}{f:Zh}{o:Ze}{A:Around}{outer:List Env}{s G:Zf}{H:Hp}{E:XK}{us:List Ze}{vs:List V}
  (S:FnScope N ps scope) (J:A.handled=Zb) (e0:Env0 P w K C base A outer s H) (O:vs.length=ps.length) (r:Vals vs us)
  (x:InCallC s s.heap.objs.size (bindL (envOfC qual scope s.heap.objs.size f o).kindOf (ps.zip us) λ_=>Zb) (cellsFrom (s.heap.objs.size+1) scope.names []) (bindC (envOfC qual scope s.heap.objs.size f o).kindOf (ps.zip us) λ_=>Zb) G) :
  Inv (cxOf CX P w K C base N qual scope f o A outer s H E) [] (start N vs) H G:=by
 have L:ps.length<=N.length:=by have:=congrArg List.length S.pre;rw[Cm] at this;omega
 obtain⟨t,Q,rfl,D⟩:=x.done;have j:∀b:Zh,b ∉ (cxOf CX P w K C base N qual scope f o A outer s H E).ex:=λb z=>absurd (show b∈([]:List Zh) from z) (by simp);refine⟨⟨e0.mod,S.kind,rfl,rfl,Ag _,λy z c t d=>?_,λy g=>?_,λy c _ h=>?_,λ_=>J,Around.frames_deeper e0.frames,.inr ⟨rfl,rfl⟩,λb z=>absurd z (j b),e0.bs,e0.bsz,λb _ _=>j b,λb z=>absurd z (j b),e0.funs,e0.frf⟩,
  rfl,e0.bare,Un.kept D,⟨_,x.toInCall.ns,λi y v t d R=>?_⟩,λy c h=>⟨_,x.cell y c h⟩,e0.hok.fresh (Ag _),λy c h=>?_,λp l=>absurd (show p∈([]:List (Zh×Obj)) from l) (by simp),e0.hok.kept D,?_⟩
 ·exact name_of_addr x.apart (Bt t) (Bt d)
 ·have g:scope.names.lookup y=Za .cell \/ scope.names.lookup y=Za .free:=g;rcases g with g|g
  ·exact cell_has g
  ·exact absurd rfl (S.nofree _ (Bt g))
 ·exact Nat.le_of_lt (x.above y c (Bt h))
 ·have B:i<vs.length:=by
   unfold start at d;by_cases B:i<vs.length
   ·exact B
   ·rw[Fp (by simpa using B)] at d;rw[List.getElem?_replicate] at d;split at d<;>cases d
  have I:vs[i]?=Za v:=by
   unfold start at d;rw[Dm (by simpa using B),At] at d;cases e:vs[i]? with
   |none=>rw[e] at d;cases d
   |some a=>rw[e] at d;cases d;rfl
  obtain⟨u,F,M⟩:=r.get I;have l:ps[i]?=Za y:=by
   rw[<-S.pre,List.getElem?_take_of_lt #v[]];exact t
  have m:ps.Nodup:=by rw[<-S.pre];exact S.nd.sublist (Dr _ _)
  refine⟨u,M,?_⟩;rcases S.par y (Dg l) with k|k
  ·exact .inl ⟨k,zkz m l F k⟩
  ·obtain⟨c,e⟩:=cell_has (n:=s.heap.objs.size+1) k;refine .inr ⟨.inl k,c,e,?_⟩;have q:=x.cell y c e;rw[zmk m l F (by show scope.names.lookup y≠_;rw[k];decide)] at q;exact q
 ·exact e0.hok.fresh (Nat.le_of_lt (x.above y c (Bt h)))
 ·unfold start;show _=N.length;rw[Ax,Ad,Hg];omega
theorem yan {CX:CXT}{P:Program}{w:World}{K:Zg}{m:Str->Option Ze}{base:Heap}{k:Nat}{f:Zh}{name qual:Str}{p:Arguments}{body:List Stmt}{scope:Scope}{M kV doc pm cdv G oc:Ze}{R od:Option Zh}
  {osl:Array (Option Ze)}{N ps:List Str}{sp:Sp} (T:K.lookup f=Za ⟨oc,od,.func (PySem.W.fnOf name qual p body scope M kV doc pm R cdv G),osl⟩) (C:PySem.W.codeIn K cdv qual=Zd) (S:FnScope N ps scope)
  (len:∀a H Q E,sp a H Q E->a.length=ps.length)
  (h:∀(A:Around) (outer:List Env) (s:Zf) (H:Hp) (a:List V) (Q:VK) (E:XK),(Room k (A.deeper (envOfC qual scope s.heap.objs.size f cdv))/\Room (k+1) A)->sp a H Q E ->
   ∃t,PSs (cxOf CX P w K m base N qual scope f cdv A outer s H E) body t/\t { nx:=λ_ d=>Q .non d,rt:=Q } (start N a) H) :
  FnOk P w K m base CX (k+1) f (PySem.W.fnOf name qual p body scope M kV doc pm R cdv G) ps sp:=by
 refine ⟨len,λA outer s H args Y a Q E z l hb r j=>?_⟩;have U:=len _ _ _ _ j;have O:K.In s.heap:=l.mod.kin.keeps λb o e=>(l.bs b o e).1;have F:s.heap.NoLimit:=l.mod.nolimit.keeps λb o e=>(l.bs b o e).1;have g:∀y∈ps.zip Y,scope.names.lookup y.1=Za .local\/(scope.names.lookup y.1=some .cell/\((cellsFrom (s.heap.objs.size+1) scope.names []).lookup y.1).isSome=true):=λ⟨n,v⟩ W=>by
  rcases S.par n (Ec W).1 with q|q
  ·exact .inl q
  ·exact .inr ⟨q,Gz _ _ _ (.inl q)⟩
 refine codeAny_call_function z.depth (O _ _ T) rfl S.co S.gen rfl (PySem.W.codeRec_of O C) (hb _ _ _ _ ?_);refine wpAny_newFunctionEnv_cells S.kind g λenv Z L x=>?_;subst Z;refine ⟨F.keeps x.toInCall.keep,codeAny_func ?_⟩;obtain ⟨t,ht,X⟩:=h A outer s H a Q E ⟨z.deeper _,z⟩ j;have I:Inv (cxOf CX P w K m base N qual scope f cdv A outer s H E) [] (start N a) H L:=zlr S z.hd l U r x;refine Ct (ht [] L (start N a) H _ I X) (λfl D i=>?_) λe D i=>i;have fin:∀{c:St}{d:Hp}{v:V}{u:Ze},Inv (cxOf CX P w K m base N qual scope f cdv A outer s H E) [] c d D->RelV v u->Q v d->CE outer P w H s Q u D :=
  λ{c d v u} J B q=>⟨v,d,J.os,J.bare,J.base,J.hok,B,q⟩
 cases fl with
 | ret u =>
  obtain⟨v,c,d,J,B,q⟩:=i;exact fin J B q
 | next =>
  obtain⟨c,d,J,q⟩:=i;exact fin (v:=V.non) (u:=Ze.none) J rfl q
 | brk =>
  obtain⟨_,_,_,q⟩:=i;exact False.elim q
 | cont =>
  obtain⟨_,_,_,q⟩:=i;exact False.elim q
section
variable {X:Cx}{x:Str}{p pos:Pos}{e:Zi}{es:List Zi}{t:TA}{id T:String}{r:List V->Hp->VK->Prop}
noncomputable def tCB (r:List V->Hp->VK->Prop) (t:TA):TE:=λσ H Q=>t σ H λv a=>r v a Q
theorem zcr (d:zcw X (.builtin id) r) (o:Gl X x) (j:X.mg x=Zb) (n:bootBuiltins x=Za (.builtin id)) (c:PA X (e::es) t) (k:x≠"__name__" := by decide) (a:(x==("__debug__" : Str))=Zc:=by decide)
  (i:starEach (e::es) X.env=(Zc,eval e X.env)::starEach es X.env:=by rfl) (b:(backTo pos (starEach es X.env)).any (·.1)=Zc:=by rfl):PE X (.Call (.Name x p) (e::es) [] pos) (tCB r t):=by
 intro pins s σ H Q I h;refine Fh (zdu I o j n ?_ k a);exact PyProof.Rows.callWith_builtin1 (thn (c pos pins s σ H _ I h) λu l ⟨v,g,f,m,q⟩=>d pins l σ g v u Q f m q) i b
theorem zem (d:zcw X (.type T) r) (o:Gl X x) (j:X.mg x=Zb) (n:bootBuiltins x=Za (.type T)) (c:PA X (e::es) t) (k:x≠"__name__" := by decide) (a:(x==("__debug__" : Str))=Zc:=by decide)
  (i:starEach (e::es) X.env=(Zc,eval e X.env)::starEach es X.env:=by rfl) (b:(backTo pos (starEach es X.env)).any (·.1)=Zc:=by rfl):PE X (.Call (.Name x p) (e::es) [] pos) (tCB r t):=by
 intro pins s σ H Q I h;refine Fh (zdu I o j n ?_ k a);exact Dw (thn (c pos pins s σ H _ I h) λu l ⟨v,g,f,m,q⟩=>d pins l σ g v u Q f m q) i b
end
end L2
namespace HT
open PySem PyProof.Rows
section
open PySem.SeqAt
open PySem.AutoSeq1 (wpAny_loadPart')
open PySem.MeetsSeq PySem.MeetsSeq2 PySem.MeetsSeq3
end
section
variable {prog:Program}{w:World}{A:Around}{E:Ze->Zf->Prop}{s:Zf}
theorem cat_tup {t b:Zh}{vs ws:List Ze}{Q:Ze->Zf->Prop} (v:IsTup s.heap t vs.toArray) (y:IsTup s.heap b ws.toArray) (r:vs≠[])
  (u:ws=[]->Q (.ref t) s) (x:ws≠[]->Q (.ref s.heap.objs.size) { s with heap:=s.heap.push { cls:=.type "tuple",data:=.seq (vs++ws).toArray } })
  (hsz:vs.length+ws.length<=sizeLine):wpAny (model prog w) A (binaryOp .Add (.ref t) (.ref b)) Q E s:=by
 obtain⟨⟨cls,o,data,p⟩,g,l,n,m⟩:=id v;obtain⟨⟨q,f,j,a⟩,h,c,k,d⟩:=id y;simp only at l m c d;subst l m c d;have e:vs.toArray++ws.toArray=(vs++ws).toArray:=by simp
 by_cases i:ws=[]
 ·exact concat_meets ⟨_,g,rfl⟩ ⟨_,h,rfl⟩ noFill_tuple_add seq_tuple_add PySem.F.slot_tuple_add PySem.F.entry_tuple_add (Ij _ _)
   (tuple_addW1 t b vs.toArray ws.toArray n k o f p a (by simpa using r) (by simp [i])) ⟨g,h,u i⟩
 ·refine concat_meets ⟨_,g,rfl⟩ ⟨_,h,rfl⟩ noFill_tuple_add seq_tuple_add PySem.F.slot_tuple_add PySem.F.entry_tuple_add (Ij _ _)
   (tuple_addW2 t b vs.toArray ws.toArray n k o f p a (by simpa using r) (by simpa using i) (by rw[Am,Am];exact hsz)) ⟨g,h,?_⟩
  rw[e];exact x i
noncomputable def sIx (n d:Nat):Option Int->Nat
 |none=>d
 |some v=>if v<0 then (v+(n:Int)).toNat else min v.toNat n
theorem sIx_nat (n d k:Nat):sIx n d (Za (k:Int))=min k n:=by
 show (if (k:Int)<0 then ((k:Int)+(n:Int)).toNat else min (k:Int).toNat n)=min k n;rw[if_neg #v[],Em]
theorem z8w (n d:Nat) (a:d<=n) (o:Option Int):sIx n d o<=n:=by
 cases o with
 |none=>exact a
 | some v =>
  show (if v<0 then (v+(n:Int)).toNat else min v.toNat n)<=n;by_cases h:v<0
  ·rw[if_pos h];omega
  ·rw[if_neg h];exact Nat.min_le_right _ _
theorem zw2 (v:Int)(n d:Nat):(if v<0 then max (v+(n:Int)) 0 else min v (n:Int))=((sIx n d (Za v):Nat):Int):=by
 show (if v<0 then max (v+(n:Int)) 0 else min v (n:Int))=(((if v<0 then (v+(n:Int)).toNat else min v.toNat n):Nat):Int);by_cases h:v<0
 ·simp only [if_pos h];omega
 ·simp only [if_neg h];omega
theorem zr2 (lo h:Option Int)(n:Nat):Builtin.Slice.sliceAdjust lo h 1 (n:Int)=(((sIx n 0 lo:Nat):Int),((sIx n n h:Nat):Int)):=by
 have a:¬ ((1:Int)<0):=by omega
 unfold Builtin.Slice.sliceAdjust;simp only [a,Fa];refine Prod.ext ?_ ?_
 ·cases lo with
  |none=>rfl
  |some v=>exact zw2 v n 0
 ·cases h with
  |none=>rfl
  |some v=>exact zw2 v n n
theorem zsb (i j:Nat):Builtin.Slice.slicePlaces (i:Int) (j:Int) 1=j-i:=by
 unfold Builtin.Slice.slicePlaces;have h:(1:Int) > 0:=by omega
 simp only [h,Fe,Int.ediv_one];split<;>omega
theorem zio {v:Ze}{o:Option Int}{Q:Option Int->Zf->Prop}(p:IsPart v o)(h:Q o s):wpAny (model prog w) A (Builtin.Slice.slicePartIndex v) Q E s:=by
 cases p with
 |none=>exact slicePart_none h
 |int i t=>exact slicePart_int h
theorem zcu {f:Zh}{e d:Ze}{lo b:Option Int}{n:Nat}{Q:Int×Int×Nat->Zf->Prop} (g:s.heap.IsSliceOf f e d .none) (p:IsPart e lo) (i:IsPart d b)
  (h:Q (((sIx n 0 lo:Nat):Int),1,sIx n n b-sIx n 0 lo) s):wpAny (model prog w) A (Builtin.Slice.sliceApplied (.ref f) (pure (n:Int))) Q E s:=by
 obtain⟨o,c,j,a⟩:=id g;unfold Builtin.Slice.sliceApplied Builtin.Slice.sliceFields;refine Aa (Aa (De c a (x:=e) rfl (Aa (De c a (x:=d) rfl (Aa (De c a (x:=.none) rfl (Ac ?_)))))));refine Aa (slicePart_none ?_);show wpAny _ _ (if ((1:Int)==0)=Zd then _ else _) _ _ s;rw[if_neg #v[0,9]];refine Aa (zio p (Aa (zio i (Aa (Ac ?_)))));show wpAny _ _ (match Builtin.Slice.sliceAdjust lo b 1 (n:Int) with|(lo,b)=>pure (lo,(1:Int),Builtin.Slice.slicePlaces lo b 1)) _ _ s;rw[zr2 lo b n];show wpAny _ _ (pure (((sIx n 0 lo:Nat):Int),(1:Int),Builtin.Slice.slicePlaces ((sIx n 0 lo:Nat):Int) ((sIx n n b:Nat):Int) 1)) _ _ s;rw[zsb];exact Ac h
theorem zxc (xs:Array Ze)(i k:Nat):((List.range k).filterMap λ(m:Nat)=>xs[((i:Int)+(m:Int)*1).toNat]?).toArray=((xs.toList.drop i).take k).toArray:=by
 have e:(λ(m:Nat)=>xs[((i:Int)+(m:Int)*1).toNat]?)=λm=>xs[i+m]?:=by
  funext m
  have:((i:Int)+(m:Int)*1).toNat=i+m:=by omega
  rw[this]
 rw[e];have:=pick_run xs i k;rw[List.filterMap_map] at this;have a:((λx=>xs[x]?) ∘ λx=>i+x)=λm=>xs[i+m]?:=rfl;rw[a] at this;rw[this]
theorem getItem_tuple_cut {t f:Zh}{items:Array Ze}{j l:Ze}{lo b:Option Int}{Q:Ze->Zf->Prop} (c:IsTup s.heap t items) (k:s.heap.IsSliceOf f j l .none) (p:IsPart j lo) (r:IsPart l b)
  (o:¬ (sIx items.size 0 lo=0/\sIx items.size items.size b=items.size))
  (h:Q (.ref s.heap.objs.size) { s with heap:=s.heap.push { cls:=.type "tuple",data:=.seq ((items.toList.drop (sIx items.size 0 lo)).take (sIx items.size items.size b-sIx items.size 0 lo)).toArray } })
  (hsz:items.size<=sizeLine):wpAny (model prog w) A (getItem (.ref t) (.ref f)) Q E s:=by
 have a:sizeOk (.seq ((items.toList.drop (sIx items.size 0 lo)).take (sIx items.size items.size b-sIx items.size 0 lo)).toArray):=by
  show ((items.toList.drop (sIx items.size 0 lo)).take (sIx items.size items.size b-sIx items.size 0 lo)).toArray.size<=sizeLine;rw[Am,Cm,Ev,Ay];omega
 have y:sIx items.size items.size b<=items.size:=z8w _ _ (Ag _) b;obtain⟨u,e,i,n⟩:=id k;have d:s.TypeIs (.ref f) "slice" := ⟨u,e,i⟩;unfold getItem
 try with_reducible refine Bq ?_
 first|refine Aa (Ac ?_)|skip
 refine Aa (wpAny_sequenceKey c.typeIs #v[0,9] ?_);refine Aa (Bs (name:=Str.ofString "__getitem__") c.typeIs Er
  (Cc Er c.typeIs entry_tuple_getitem ?_ (args_tuple_getitem _ _)))
 show wpAny _ _ (Builtin.Tuple.tupleItemsOf (.ref t)>>=_) _ _ s;refine Aa (tupleItemsOf_ c ?_);refine Aa (wpAny_typeOf d ?_);rw[if_pos #v[0,9]];refine Aa (zcu k p r ?_);have g:¬ ((((sIx items.size 0 lo:Nat):Int)==0&&(1:Int)==1&&(sIx items.size items.size b-sIx items.size 0 lo)==items.size)=Zd):=by
  intro q;rw[Ae,Ae] at q;have z:((sIx items.size 0 lo:Nat):Int)=0:=Bm q.1.1;have x:sIx items.size items.size b-sIx items.size 0 lo=items.size:=Bm q.2;exact o ⟨by omega,by omega⟩
 show wpAny _ _ (if (((sIx items.size 0 lo:Nat):Int)==0&&(1:Int)==1&&(sIx items.size items.size b-sIx items.size 0 lo)==items.size)=Zd then _ else _) _ _ s;rw[if_neg g,zxc]
 first
  |exact Aa (m:=Builtin.Tuple.tupleExact _) (Bp (Ac ⟨_,rfl,Ac h⟩) a)
  |exact Aa (m:=Builtin.Tuple.tupleExact _) (Bp (Aa (Ac (Ac ⟨_,rfl,Ac h⟩))) a)
  |exact Aa (Aa (m:=Builtin.Tuple.tupleExact _) (Bp (Ac (Ac ⟨_,rfl,Ac h⟩)) a))
  |exact Aa (Aa (m:=Builtin.Tuple.tupleExact _) (Bp (Ac ⟨_,rfl,Ac h⟩) a))
end
end HT
namespace L2
open PySem PySem.Spec PyProof.Rows
noncomputable abbrev TO:=St->Hp->(Option Int->Hp->Prop)->Prop
noncomputable def PO (X:Cx) (e:Option Zi) (t:TO):Prop :=
 ∀(pins:List (Zh×Obj)) (s:Zf) (σ:St) (H:Hp) (Q:Option Int->Hp->Prop),Inv X pins σ H s->t σ H Q ->
  wpAny (model X.prog X.w) X.A (evalPart e X.env) (λu b=>∃o a,Inv X pins σ a b/\IsPart u o/\Q o a) X.xe s
noncomputable def zwk:TO:=λ_ H Q=>Q Zb H
noncomputable def z7n (t:TE):TO:=λσ H Q=>t σ H λx a=>∃i,x=.int i/\Q (Za i) a
theorem ziw {ns:List Int}:∀{u:List Ze},Vals (ns.map V.int) u->IntsAre u ns:=by
 induction ns with
 |nil=>intro u r;rw[Fy] at r;cases r;exact .nil
 | cons n ns i =>
  intro u r;rw[Ak] at r;cases r with
  | cons a b =>
   obtain⟨t,e⟩:=a;subst e;exact .cons n t (i b)
section
variable {X:Cx}{e:Zi}{te:TE}{lo hi:Option Zi}{tl th:TO}{pos p2:Pos}
theorem z4x:PO X Zb zwk:=by
 intro pins s σ H Q I h;rw[evalPart_none];exact Ac ⟨Zb,H,I,.none,h⟩
theorem z1y (h:PE X e te):PO X (Za e) (z7n te):=by
 intro pins s σ H Q I d;rw[evalPart_some];refine thn (h pins s σ H _ I d) λu f ⟨x,b,a,r,c⟩=>?_;obtain⟨i,rfl,q⟩:=c;obtain⟨t,rfl⟩:=r;exact⟨Za i,b,a,.int i t,q⟩
noncomputable def SlR (X:Cx) (r:V->Option Int->Option Int->Hp->VK->Prop):Prop :=
 ∀(pins:List (Zh×Obj)) (s:Zf) (σ:St) (H:Hp) (x:V) (v c b:Ze) (lo hi:Option Int) (a:Zh) (Q:VK),Inv X pins σ H s->RelV x v->s.heap.IsSliceOf a c b .none->IsPart c lo->IsPart b hi->r x lo hi H Q ->
  ∃T id,typeLookup (.type T) "__getitem__" = pure (Za (.builtin id))/\s.TypeIs v T/\wpAny (model X.prog X.w) X.A (getItem v (.ref a)) (EP X pins σ Q) X.xe s
theorem SlR.or {r f:V->Option Int->Option Int->Hp->VK->Prop}(h:SlR X r)(h':SlR X f):SlR X (λx lo hi H Q=>r x lo hi H Q\/f x lo hi H Q):=by
 intro pins s σ H x v d c lo hi a Q I g b p e q;rcases q with q|q
 ·exact h pins s σ H x v d c lo hi a Q I g b p e q
 ·exact h' pins s σ H x v d c lo hi a Q I g b p e q
noncomputable def tSl (r:V->Option Int->Option Int->Hp->VK->Prop) (te:TE) (tl th:TO):TE:=λσ H Q=>te σ H λx b=>tl σ b λl a=>th σ a λu c=>r x l u c Q
theorem zzn {r:V->Option Int->Option Int->Hp->VK->Prop}(C:SlR X r)(A:PE X e te)(m:PO X lo tl)(t:PO X hi th):PE X (.Subscript e (.Slice lo hi Zb p2) pos) (tSl r te tl th):=by
 intro pins s σ H Q I h;refine Subscript_ (thn (A pins s σ H _ I h) λv y ⟨x,o,i,F,w⟩=>?_);refine wpAny_Slice (thn (m pins y σ o _ i w) λc G ⟨l,p,E,B,k⟩=>thn (t pins G σ p _ E k) λd a ⟨u,f,n,D,j⟩=>?_);rw[evalPart_none];refine Ac ?_;have K:Inv X pins σ f { a with heap:=a.heap.push { cls:=.type "slice",data:=.fields #[c,d,.none] } }:=n.kept (t':=a.toks) λb ob q=>Ab _ q;obtain⟨T,id,g,J,z⟩:=C pins { a with heap:=a.heap.push { cls:=.type "slice",data:=.fields #[c,d,.none] } } σ f x v c d l u a.heap.objs.size Q K F (Heap.IsSliceOf.new ..) B D j;show wpAny (model X.prog X.w) X.A (subscriptTail e (.Slice lo hi Zb p2) v (.ref a.heap.objs.size)) (EP X pins σ Q) X.xe { a with heap:=a.heap.push { cls:=.type "slice",data:=.fields #[c,d,.none] } };exact tail_any (ops:=[.ref a.heap.objs.size,v]) J g z (by with_unfolding_all rfl)
noncomputable def cutV (xs:List V) (lo hi:Option Int):List V:=(xs.drop (HT.sIx xs.length 0 lo)).take (HT.sIx xs.length xs.length hi-HT.sIx xs.length 0 lo)
theorem zgu (xs:List V)(lo hi:Option Int):(cutV xs lo hi).length<=xs.length:=by
 unfold cutV;rw[Cm,Ev];omega
noncomputable def rSlT (K:Zg):V->Option Int->Option Int->Hp->VK->Prop:=λx lo hi H Q=>∃a b,x=.ref a/\SqT K H a b /\
 ¬ (HT.sIx b.length 0 lo=0/\HT.sIx b.length b.length hi=b.length)/\∀p,H p=Zb->Q (.ref p) (upd H p (.tup (cutV b lo hi)))
theorem z7f:SlR X (rSlT X.K):=by
 intro pins s σ H x v n t lo hi u Q I m j p l h;obtain⟨a,d,rfl,g,k,q⟩:=h;cases m;obtain⟨i,r,f,e⟩:=I.tuple g;have c:i.toArray.size=d.length:=by rw[Am];exact r.length.symm
 refine⟨"tuple",_,PyProof.Rows.slot_tuple_getitem.lookup,f.typeIs,?_⟩;refine HT.getItem_tuple_cut f j p l (by rw[c];exact k) ?_ (by rw[c];exact e);rw[c];refine⟨.ref s.heap.objs.size,_,I.laid (t':=s.toks) (o:=.tup (cutV d lo hi)) (λb ob q=>Ab _ q) (Ag _) ?_,rfl,q _ (I.hok.fresh (Ag _))⟩;exact⟨Cf (zgu d lo hi) e,_,(r.drop (HT.sIx d.length 0 lo)).take (HT.sIx d.length d.length hi-HT.sIx d.length 0 lo),IsTup.new _ _⟩
noncomputable def z7b (K:Zg):R2:=λx y H Q=>∃a b d c,x=.ref a/\y=.ref b/\SqT K H a d/\SqT K H b c/\d≠[]/\d.length+c.length<=sizeLine /\
 (c=[]->Q (.ref a) H)/\(c≠[]->∀p,H p=Zb->Q (.ref p) (upd H p (.tup (d++c))))
theorem Vals.nil_iff {xs:List V}{us:List Ze}(r:Vals xs us):us=[]↔xs=[]:=by
 cases r with
 |nil=>simp
 |cons _ _=>simp
theorem z33:OpR X (binaryOp .Add) (z7b X.K):=by
 intro pins s σ H x y v u Q I A l h;obtain⟨a,b,m,n,rfl,rfl,g,t,f,d,j,e⟩:=h;cases A;cases l;obtain⟨k,c,p,_⟩:=I.tuple g;obtain⟨i,r,p2,_⟩:=I.tuple t;refine HT.cat_tup p p2 (λz=>f (c.nil_iff.mp z)) (λz=>⟨.ref a,H,I,rfl,j (r.nil_iff.mp z)⟩) (λz=>?_) (by rw[<-c.length,<-r.length];exact d);refine⟨.ref s.heap.objs.size,_,I.laid (t':=s.toks) (o:=.tup (m++n)) (λb ob q=>Ab _ q) (Ag _) ?_,rfl,e (λw=>z (r.nil_iff.mpr w)) _ (I.hok.fresh (Ag _))⟩;exact⟨by rw[Ax];exact d,_,c.append r,IsTup.new _ _⟩
end
noncomputable def ixN (n:Nat) (i:Int):Option Nat:=if 0<=i then (if i<n then Za i.toNat else Zb) else if -(n:Int)<=i then Za (i+n).toNat else Zb
noncomputable def atI {α:Type} (xs:List α) (i:Int):Option α:=(ixN xs.length i).bind λj=>xs[j]?
theorem zvr {n:Nat}{i:Int}{j:Nat}(h:ixN n i=Za j):seqIndex? i n=Za j/\j<n/\-(n:Int)<=i/\i<n:=by
 unfold ixN at h;by_cases b:0<=i
 ·rw[if_pos b] at h;by_cases a:i<n
  ·rw[if_pos a] at h;have e:i.toNat=j:=sI h;exact⟨by rw[seqIndex_of b a,e],by omega,by omega,a⟩
  ·rw[if_neg a] at h;cases h
 ·rw[if_neg b] at h;by_cases a:-(n:Int)<=i
  ·rw[if_pos a] at h;have e:(i+n).toNat=j:=sI h;exact⟨by rw[seqIndex_neg #v[] a,e],by omega,a,by omega⟩
  ·rw[if_neg a] at h;cases h
theorem zvn {α:Type}{xs:List α}{i:Int}{v:α} (h:atI xs i=Za v):∃j,seqIndex? i xs.length=Za j/\xs[j]?=Za v/\j<xs.length/\-(xs.length:Int)<=i/\i<xs.length:=by
 unfold atI at h;cases e:ixN xs.length i with
 |none=>rw[e] at h;cases h
 | some j =>
  rw[e] at h;obtain⟨c,d,a,b⟩:=zvr e;exact⟨j,c,h,d,a,b⟩
theorem z40 {α:Type}{xs:List α}{j:Nat}{v:α}(h:xs[j]?=Za v):atI xs (j:Int)=Za v:=by
 have a:j<xs.length:=(Ai.mp h).1;have e:ixN xs.length (j:Int)=Za j:=by
  unfold ixN;rw[if_pos #v[],if_pos #v[]];simp
 unfold atI;rw[e];exact h
noncomputable def zt5 (b:Zi):Prop:=∀o i,subscripted b Zc o i=operate [o,i] (getItem o i)
noncomputable def IxR (X:Cx) (r:R2):Prop :=
 ∀(value a:Zi) (pins:List (Zh×Obj)) (s:Zf) (σ:St) (H:Hp) (x y:V) (v u:Ze) (Q:VK),Inv X pins σ H s->RelV x v->RelV y u->r x y H Q ->
  subscripted a Zc v u=operate [v,u] (getItem v u)->wpAny (model X.prog X.w) X.A (subscriptTail value a v u) (EP X pins σ Q) X.xe s
noncomputable def MtR (X:Cx) (id:String) (r:V->List V->Hp->VK->Prop):Prop :=
 ∀(pins:List (Zh×Obj)) (s:Zf) (σ:St) (H:Hp) (x:V) (a:List V) (v:Ze) (u:List Ze) (Q:VK),Inv X pins σ H s->RelV x v->Vals a u->r x a H Q ->
  wpAny (model X.prog X.w) X.A (call (.builtin id) (v::u)) (EP X pins σ Q) X.xe s
section
variable {X:Cx}{a b:Zi}{ta tb:TE}{pos:Pos}
theorem IxR.or {r d:R2}(h:IxR X r)(h':IxR X d):IxR X (λx y H Q=>r x y H Q\/d x y H Q):=by
 intro value a pins s σ H x y v u Q I e c q b;rcases q with q|q
 ·exact h value a pins s σ H x y v u Q I e c q b
 ·exact h' value a pins s σ H x y v u Q I e c q b
theorem z79 {r:R2}(i:IxR X r)(c:PE X a ta)(k:PE X b tb)(f:zt5 b):PE X (.Subscript a b pos) (tOp r ta tb):=by
 intro pins s σ H Q I h;exact Subscript_ (binT c k I h λv u e x y d j l g q=>i a b pins e σ d x y v u Q j l g q (f _ _))
noncomputable def rIxL (K:Zg):R2:=λx y H Q=>∃p a i v,x=.ref p/\y=.int i/\SqL K H p a/\atI a i=Za v/\Q v H
noncomputable def rIxT (K:Zg):R2:=λx y H Q=>∃p a i v,x=.ref p/\y=.int i/\SqT K H p a/\atI a i=Za v/\Q v H
theorem zwo:IxR X (rIxL X.K):=by
 intro value f pins s σ H x y v u Q I F A h g;obtain⟨p,K,i,z,rfl,rfl,n,o,q⟩:=h;cases F;obtain⟨t,rfl⟩:=A;obtain⟨d,r,e,L⟩:=I.list n;obtain⟨j,a,E,J,C,D⟩:=zvn o;obtain⟨w,k,b⟩:=r.get E;have m:=r.length;have G:=zqw;have fin:EP X pins σ Q w s:=⟨z,H,I,b,q⟩;by_cases l:0<=i
 ·have c:i.toNat=j:=by
   rw[seqIndex_of l D] at a;exact sI a
  exact item_listR e.isList l #v[] (by rw[c];simpa using k) fin g
 ·have c:(i+(d.toArray.size:Int)).toNat=j:=by
   rw[seqIndex_neg #v[] C] at a;rw[Am,<-m];exact sI a
  exact subscriptTail_builtinR (x:=w) e.isList.typeIs slot_list_getitem.lookup
   (wpAny_getItem_list_neg (Q:=λr B=>r=w/\EP X pins σ Q r B) e.isList #v[] (by rw[Am]<;>omega) #v[] (by rw[c];simpa using k) ⟨rfl,fin⟩) g
theorem z1m:IxR X (rIxT X.K):=by
 intro value b pins s σ H x y v u Q I B m h e;obtain⟨p,E,i,z,rfl,rfl,k,l,q⟩:=h;cases B;obtain⟨t,rfl⟩:=m;obtain⟨f,r,c,F⟩:=I.tuple k;obtain⟨j,o,A,D,G,J⟩:=zvn l;obtain⟨w,g,a⟩:=r.get A;have d:=r.length;have C:=zqw;have fin:EP X pins σ Q w s:=⟨z,H,I,a,q⟩;exact subscriptTail_builtinR (x:=w) c.typeIs slot_tuple_getitem.lookup
  (getItem_tuple (j:=j) (Q:=λr n=>r=w/\EP X pins σ Q r n) c #v[] #v[] (by rw[Am,<-d];exact o) (by simpa using g) ⟨rfl,fin⟩) e
theorem zr1 (i:List Ze)(n j:Nat)(u:Ze):Obj.mapSeq (·.setIfInBounds j u) { cls:=.type "list",data:=.seq i.toArray n }={ cls:=.type "list",data:=.seq (i.set j u).toArray n }:=by
 simp [Obj.mapSeq]
theorem Inv.lst {pins:List (Zh×Obj)}{σ:St}{H:Hp}{s:Zf}{p:Zh}{xs:List V} (I:Inv X pins σ H s) (h:H p=Za (.lst xs)) :
  ∃(i:List Ze) (n:Nat),Vals xs i/\s.heap.get? p=Za { cls:=.type "list",data:=.seq i.toArray n }/\xs.length<=sizeLine:=by
 obtain⟨z,i,n,r,e⟩:=I.hok p _ h;exact⟨i,n,r,e,z⟩
theorem Inv.lstUpd {pins:List (Zh×Obj)}{σ:St}{H:Hp}{s:Zf}{p:Zh}{xs ys:List V}{i its':List Ze}{n a:Nat}{f:Obj->Obj} (I:Inv X pins σ H s) (h:H p=Za (.lst xs))
  (d:s.heap.get? p=Za { cls:=.type "list",data:=.seq i.toArray n }) (c:f { cls:=.type "list",data:=.seq i.toArray n }={ cls:=.type "list",data:=.seq its'.toArray a }) (r:Vals ys its') (g:ys.length<=sizeLine) (t:Nat) :
  Inv X pins σ (upd H p (.lst ys)) { s with heap:=s.heap.update p f,toks:=t }:=by
 have e:(s.heap.update p f).get? p=Za { cls:=.type "list",data:=.seq its'.toArray a }:=by
  rw[Gb f d (by rw[c]<;>rfl),c]
 refine I.write (x:=p) (e:=p) (by rw[h];trivial) (.inl rfl) (λb u j q=>(Heap.get?_update_other _ _ (Ne.symm j)).trans q) ⟨_,e⟩ ?_;exact⟨g,its',a,r,e⟩
noncomputable def z3o:V->V->V->Hp->(Hp->Prop)->Prop:=λo i v H Q=>∃p x k j,o=.ref p/\i=.int k/\H p=Za (.lst x)/\ixN x.length k=Za j/\Q (upd H p (.lst (x.set j v)))
theorem zpg:PSet X z3o:=by
 intro pins s σ H o i v E D u Q I z x C h;obtain⟨p,A,k,j,rfl,rfl,f,y,q⟩:=h;cases z;obtain⟨t,rfl⟩:=x;obtain⟨a,n,r,c,B⟩:=I.lst f;obtain⟨b,G,l,w⟩:=zvr y;have e:=r.length;have F:=zqw;have m:Inv X pins σ (upd H p (.lst (A.set j v))) { s with heap:=s.heap.update p (Obj.mapSeq (·.setIfInBounds j u)) } :=
  I.lstUpd f c (zr1 a n j u) (r.set C j) (by rw[Ed];exact B) s.toks
 by_cases g:0<=k
 ·have d:k.toNat=j:=by
   rw[seqIndex_of g w] at b;exact sI b
  exact PySem.W.ki_setAt c g #v[] (by rw[Am,<-e];exact w) (by rw[d];exact⟨_,m,q⟩)
 ·have d:(k+(a.toArray.size:Int)).toNat=j:=by
   rw[seqIndex_neg #v[] l] at b;rw[Am,<-e];exact sI b
  exact PySem.W.ki_setBack c #v[] (by rw[Am,<-e];exact l) #v[] (by rw[d];exact⟨_,m,q⟩)
theorem zks (lo a:Option Int) (n:Nat):(sliceBounds lo a Zb n).1=((HT.sIx n 0 lo:Nat):Int)/\(sliceBounds lo a Zb n).2.1=((HT.sIx n n a:Nat):Int)/\(sliceBounds lo a Zb n).2.2=1:=by
 refine⟨?_,?_,rfl⟩
 ·cases lo with
  |none=>simp [sliceBounds,HT.sIx]
  | some i =>
   simp only [sliceBounds,HT.sIx,Option.getD_none,show (1:Int) > 0 by decide,Fe];by_cases h:i<0
   ·simp only [h,Fe]<;>omega
   ·simp only [h,Fa]<;>omega
 ·cases a with
  |none=>simp [sliceBounds,HT.sIx]
  | some i =>
   simp only [sliceBounds,HT.sIx,Option.getD_none,show (1:Int) > 0 by decide,Fe];by_cases h:i<0
   ·simp only [h,Fe]<;>omega
   ·simp only [h,Fa]<;>omega
theorem zj1 (i:List Ze)(lo h:Option Int):slicePick i.toArray lo h Zb=((i.drop (HT.sIx i.length 0 lo)).take (HT.sIx i.length i.length h-HT.sIx i.length 0 lo)).toArray:=by
 obtain⟨b,c,a⟩:=zks lo h i.toArray.size;unfold slicePick;rw[b,c,a];simp only [sliceRange_one,pick_run,Am]<;>rfl
noncomputable def rSlL (K:Zg):V->Option Int->Option Int->Hp->VK->Prop:=λx l h H Q=>∃a b,x=.ref a/\SqL K H a b/\∀p,H p=Zb->Q (.ref p) (upd H p (.lst (cutV b l h)))
theorem z4v:SlR X (rSlL X.K):=by
 intro pins s σ H x v w u l e t Q I n g p i h;obtain⟨a,c,rfl,j,q⟩:=h;cases n;obtain⟨m,r,f,k⟩:=I.list j;have d:=r.length;refine⟨"list",_,slot_list_getitem.lookup,f.isList.typeIs,?_⟩;refine wpAny_getItem_list_slice f.isList g p i .none (by simp) ?_ (by rw[Am]<;>omega);rw[zj1,<-d];refine⟨.ref s.heap.objs.size,_,I.laid (t':=s.toks) (o:=.lst (cutV c l e)) (λb ob q=>Ab _ q) (Ag _) ?_,rfl,q _ (I.hok.fresh (Ag _))⟩;exact⟨Cf (zgu c l e) k,_,0,(r.drop (HT.sIx c.length 0 l)).take (HT.sIx c.length c.length e-HT.sIx c.length 0 l),Ah _ rfl⟩
noncomputable def zh5:V->Bool
 |.non=>Zd
 |.bl _=>Zd
 |.int _=>Zd
 |.str _=>Zd
 |_=>Zc
noncomputable def eqV:V->V->Bool
 |.non,.non=>Zd
 |.bl a,.bl b=>a==b
 |.bl a,.int b=>(if a then 1 else 0)==b
 |.int a,.bl b=>a==(if b then 1 else 0)
 |.int a,.int b=>a==b
 |.str a,.str b=>a==b
 |_,_=>Zc
theorem z56 {A:Around}{s:Zf}{y x:V}{u v:Ze} (d:RelV y u) (r:RelV x v) (e:zh5 y=Zd) (f:zh5 x=Zd):SeqAt.EqAt A s u v (eqV y x):=by
 cases y with
 | non =>
  cases d;cases x with
  |non=>cases r;exact SeqAt.EqAt.same _
  |bl b=>cases r;exact SeqAt.EqAt.none_bool b
  |int b=>obtain⟨t,rfl⟩:=r;exact SeqAt.EqAt.none_int b t
  |str b=>obtain⟨t,rfl⟩:=r;exact SeqAt.EqAt.none_str b t
  |_=>exact absurd (show Zc=Zd from f) Aq
 | bl a =>
  cases d;cases x with
  |non=>cases r;exact SeqAt.EqAt.bool_none a
  |bl b=>cases r;exact SeqAt.EqAt.bool_bool a b
  |int b=>obtain⟨t,rfl⟩:=r;exact SeqAt.EqAt.bool_int a b t
  |str b=>obtain⟨t,rfl⟩:=r;exact SeqAt.EqAt.bool_str a b t
  |_=>exact absurd (show Zc=Zd from f) Aq
 | int a =>
  obtain⟨c,rfl⟩:=d;cases x with
  |non=>cases r;exact SeqAt.EqAt.int_none a c
  |bl b=>cases r;exact SeqAt.EqAt.int_bool a c b
  |int b=>obtain⟨t,rfl⟩:=r;exact SeqAt.EqAt.int_int a c b t
  |str b=>obtain⟨t,rfl⟩:=r;exact SeqAt.EqAt.int_str a c b t
  |_=>exact absurd (show Zc=Zd from f) Aq
 | str a =>
  obtain⟨c,rfl⟩:=d;cases x with
  |non=>cases r;exact SeqAt.EqAt.str_none a c
  |bl b=>cases r;exact SeqAt.EqAt.str_bool a c b
  |int b=>obtain⟨t,rfl⟩:=r;exact SeqAt.EqAt.str_int a c b t
  |str b=>obtain⟨t,rfl⟩:=r;exact SeqAt.EqAt.str_str a c b t
  |_=>exact absurd (show Zc=Zd from f) Aq
 |_=>exact absurd (show Zc=Zd from e) Aq
noncomputable def eqU (x:V) (u:Ze):Bool:=match u with
 |.none=>eqV .non x
 |.bool b=>eqV (.bl b) x
 |.int i _=>eqV (.int i) x
 |.str z _=>eqV (.str z) x
 |_=>Zc
theorem z1f {x y:V}{u:Ze}(r:RelV y u)(f:zh5 y=Zd):eqU x u=eqV y x:=by
 cases y with
 |non=>cases r;rfl
 |bl b=>cases r;rfl
 |int i=>obtain⟨t,rfl⟩:=r;rfl
 |str z=>obtain⟨t,rfl⟩:=r;rfl
 |_=>exact absurd (show Zc=Zd from f) Aq
theorem zg5 {x:V}:∀{a:List V}{b:List Ze},Vals a b->a.all zh5=Zd->b.any (eqU x)=a.any λy=>eqV y x
 |_,_,.nil,_=>rfl
 | y::a,u::b,.cons r t,f=>by
  rw[Bk,Ae] at f;rw[Cn,Cn,z1f r f.1,zg5 t f.2]
theorem zew {A:Around}{s:Zf}{x:V}{v:Ze} (d:RelV x v) (c:zh5 x=Zd):∀{b:List V}{a:List Ze},Vals b a->b.all zh5=Zd->∀u∈a,SeqAt.EqAt A s u v (eqU x u)
 |_,_,.nil,_=>λu h=>by cases h
 | y::b,u::a,.cons r t,f=>λe h=>by
  rw[Bk,Ae] at f;rcases Ar.mp h with rfl|h
  ·rw[z1f r f.1];exact z56 r d f.1 c
  ·exact zew d c t f.2 e h
noncomputable def inV (x:V) (xs:List V):Bool:=xs.any λy=>eqV y x
noncomputable def rIn (K:Zg) (n:Bool):R2:=λx y H Q=>∃p a,y=.ref p/\(SqL K H p a\/SqT K H p a)/\zh5 x=Zd/\a.all zh5=Zd/\Q (.bl (if n then !inV x a else inV x a)) H
theorem zl1:OpR X (compareOp .In) (rIn X.K Zc):=by
 intro pins s σ H x y v u Q I d e h;obtain⟨p,j,rfl,a,f,fs,q⟩:=h;cases e;rcases a with a|a
 ·obtain⟨i,r,b,g⟩:=I.list a;refine SeqAt.in_listAt (eqU x) b.isList (λw c=>zew d f r fs w (by simpa using c)) ⟨.bl _,H,I,rfl,?_⟩;rw[show i.toArray.any (eqU x)=i.any (eqU x) by simp,zg5 r fs];exact q
 ·obtain⟨i,r,b,g⟩:=I.tuple a;refine SeqAt.in_tupleAt (eqU x) b (λw c=>zew d f r fs w (by simpa using c)) ⟨.bl _,H,I,rfl,?_⟩;rw[show i.toArray.any (eqU x)=i.any (eqU x) by simp,zg5 r fs];exact q
theorem zfq:OpR X (compareOp .NotIn) (rIn X.K Zd):=by
 intro pins s σ H x y v u Q I d e h;obtain⟨p,j,rfl,a,f,fs,q⟩:=h;cases e;rcases a with a|a
 ·obtain⟨i,r,b,g⟩:=I.list a;refine SeqAt.notIn_listAt (eqU x) b.isList (λw c=>zew d f r fs w (by simpa using c)) ⟨.bl _,H,I,rfl,?_⟩;rw[show i.toArray.any (eqU x)=i.any (eqU x) by simp,zg5 r fs];exact q
 ·obtain⟨i,r,b,g⟩:=I.tuple a;refine SeqAt.notIn_tupleAt (eqU x) b (λw c=>zew d f r fs w (by simpa using c)) ⟨.bl _,H,I,rfl,?_⟩;rw[show i.toArray.any (eqU x)=i.any (eqU x) by simp,zg5 r fs];exact q
theorem zm4:zcw X (.builtin "len") (λx H Q=>∃p y,x=[.ref p]/\(SqL X.K H p y\/SqT X.K H p y)/\Q (.int y.length) H):=by
 intro pins s σ H x g Q I r h;obtain⟨p,y,rfl,b,q⟩:=h;obtain⟨u,rfl,f⟩:=vals1 r;cases f;have j:=zqw;rcases b with b|b
 ·obtain⟨i,d, c,e⟩:=I.list b;have a:=d.length;exact Calls.call_len_list c.isList (by simp only [Am]<;>omega) ⟨.int y.length,H,I.tok _,⟨s.toks+1,by rw[Am,a]⟩,q⟩
 ·obtain⟨i,d, c,e⟩:=I.tuple b;have a:=d.length;exact len_tuple c (by simp only [Am]<;>omega) ⟨.int y.length,H,I.tok _,⟨s.toks+1,by rw[Am,a]⟩,q⟩
theorem zcw.or {f:Ze}{r b:List V->Hp->VK->Prop}(h:zcw X f r)(h':zcw X f b):zcw X f (λx H Q=>r x H Q\/b x H Q):=by
 intro pins s σ H x u Q I a q;rcases q with q|q
 ·exact h pins s σ H x u Q I a q
 ·exact h' pins s σ H x u Q I a q
theorem zk7:zcw X (.type "list") (λx H Q=>∃p y,x=[.ref p]/\(SqL X.K H p y\/SqT X.K H p y)/\∀l,H l=Zb->Q (.ref l) (upd H l (.lst y))):=by
 intro pins s σ H x B Q I r h;obtain ⟨p,y,rfl,f,q⟩:=h;obtain ⟨u,rfl,A⟩:=vals1 r;cases A;have fin:∀(i:List Ze),Vals y i->y.length<=sizeLine->∀(a:Heap) (c:Nat),(∀b z,s.heap.get? b=Za z->a.get? b=Za z) ->
   a.get? s.heap.objs.size=Za { cls:=.type "list",dict:=Zb,data:=.seq i.toArray c,slots:=#[] }->EP X pins σ Q (.ref s.heap.objs.size) { s with heap:=a }:=λi d g a c k e =>
  ⟨.ref s.heap.objs.size,_,I.laid (t':=s.toks) k (Ag _) (show ObjOk X.prog X.w _ a _ (.lst y) from ⟨g,i,c,d,e⟩),rfl,q _ (I.hok.fresh (Ag _))⟩
 rcases f with f|f
 ·obtain⟨i,d, w,g⟩:=I.list f;have j:=d.length;obtain⟨o,m,t,n,v⟩:=w.isList;exact call_list_seq p (.inl rfl) m t v (λa c k e=>fin i d g a c k e) (by simp only [Am]<;>omega)
 ·obtain⟨i,d, w,g⟩:=I.tuple f;have j:=d.length;obtain⟨o,m,t,n,v⟩:=w;exact call_list_seq p (.inr rfl) m t v (λa c k e=>fin i d g a c k e) (by simp only [Am]<;>omega)
theorem zi5:zcw X (.type "tuple") (λx H Q=>∃p y,x=[.ref p]/\((SqL X.K H p y/\∀l,H l=Zb->Q (.ref l) (upd H l (.tup y)))\/(SqT X.K H p y/\Q (.ref p) H))):=by
 intro pins s σ H x v Q I r h;obtain⟨p,y,rfl,h⟩:=h;obtain⟨u,rfl,t⟩:=vals1 r;cases t;rcases h with⟨f,q⟩|⟨f,q⟩
 ·obtain ⟨i,d, c,k⟩:=I.list f;have j:=d.length;refine call_tuple_list c.isList (λa m=>?_) (by simp only [Am]<;>omega);have g:Inv X pins σ H { s with heap:=a }:=I.kept (t':=s.toks) m;have n:Inv X pins σ (upd H a.objs.size (.tup y)) { s with heap:=a.push { cls:=.type "tuple",data:=.seq i.toArray } } :=
   g.laid (t':=s.toks) (λb o e=>Ab _ e) (Ag _) (show ObjOk X.prog X.w _ _ _ (.tup y) from ⟨k,i,d,IsTup.new _ _⟩)
  exact⟨.ref a.objs.size,_,n,rfl,q _ (g.hok.fresh (Ag _))⟩
 ·obtain⟨i,d, c,k⟩:=I.tuple f;exact call_tuple_same c ⟨.ref p,H,I,rfl,q⟩
noncomputable def tyV (K:Zg) (T:String) (x:V) (H:Hp):Prop:=match x with
 |.str _=>T = "str"
 |.int _=>T = "int"
 | .ref p=>(T = "list"/\∃a,SqL K H p a)\/(T = "tuple"/\∃o,K.lookup p=Za o/\o.cls=.type "tuple"/\o.dict=Zb) \/
  (T = "dict"/\((∃kvs,H p=Za (.dK kvs))\/∃kvs,H p=Za (.dT kvs)))\/(T = "set"/\∃S n,H p=Za (.set S n))
 |_=>False
theorem z75 {pins:List (Zh×Obj)}{σ:St}{H:Hp}{s:Zf}{T:String}{x:V}{v:Ze} (I:Inv X pins σ H s) (r:RelV x v) (ty:tyV X.K T x H) :
  s.TypeIs v T/\∀a,v=.ref a->∃ob,s.heap.get? a=Za ob/\ob.dict=Zb:=by
 cases x with
 | str z =>
  obtain⟨t,rfl⟩:=r;cases (show T = "str" from ty);exact⟨typeIs_str s z t,λ_ e=>nomatch e⟩
 | int i =>
  obtain⟨t,rfl⟩:=r;cases (show T = "int" from ty);exact⟨typeIs_int s i t,λ_ e=>nomatch e⟩
 | ref p =>
  cases r;rcases ty with⟨rfl,m,l⟩|⟨rfl,o,h,j,f⟩|⟨rfl,h⟩|⟨rfl,S,n,h⟩
  ·obtain ⟨k,_,g,_⟩:=I.list l
   refine⟨g.isList.typeIs,λa e=>?_⟩;cases e;obtain⟨o,n,e,c,f,_⟩:=g;exact⟨o,e,f⟩
  ·refine ⟨⟨o,I.kIn p o h,j⟩,λa e => ?_⟩
   cases e;exact⟨o,I.kIn _ o h,f⟩
  ·have z:∃o,s.heap.get? p=Za o/\o.ExactDict:=by
    rcases h with⟨kvs,h⟩|⟨kvs,h⟩
    ·obtain ⟨_,_,_,_,o,_,_,e,b,_⟩:=I.hok p _ h
     exact⟨o,e,b⟩
    ·obtain ⟨_,_,_,_,o,_,_,e,b,_⟩:=I.hok p _ h
     exact⟨o,e,b⟩
   obtain⟨o,e,b⟩:=z;refine⟨⟨o,e,b.1⟩,λa d=>?_⟩;cases d;exact⟨o,e,b.2.1⟩
  ·obtain ⟨o,_,_,_,e,b,_⟩:=I.hok p _ h
   refine⟨⟨o,e,b.1⟩,λa d=>?_⟩;cases d;exact⟨o,e,b.2.1⟩
 |_=>exact False.elim ty
noncomputable def tBM (K:Zg) (T:String) (r:V->List V->Hp->VK->Prop) (b:TE) (t:TA):TE:=λσ H Q=>b σ H λx a=>tyV K T x a/\t σ a λd c=>r x d c Q
variable {o e:Zi}{es:List Zi}{to:TE}{t:TA}{name:Str}{apos cpos:Pos}{T id:String}{r:V->List V->Hp->VK->Prop}
theorem z9e (C:PlainAttrs T) (slot:Slot T name id) (f:typeOf (.builtin id)=pure (.type "method_descriptor")) (k:MtR X id r) (l:PE X o to) (p:PA X (e::es) t)
  (c:attributeBase o name X.env (eval o X.env)=eval o X.env:=by rfl)
  (d:((backTo cpos (starEach (e::es) X.env)).all (λx=>!x.1)&&(backToKw cpos (keywordEach [] X.env)).all (λx=>x.1.isSome)
   && decide ((e::es).length+([]:List Keyword).length+(if ([]:List Keyword).isEmpty then 0 else 1)<30))=Zd:=by rfl)
  (b:(apos.endLine==cpos.line)=Zd:=by rfl) (y:starEach (e::es) X.env=(Zc,eval e X.env)::starEach es X.env:=by rfl) (a:(backTo cpos (starEach es X.env)).any (·.1)=Zc:=by rfl) :
  PE X (.Call (.Attribute o name apos) (e::es) [] cpos) (tBM X.K T r to t):=by
 intro pins s σ H Q I h;refine wpAny_Call_method_late c d b rfl (thn (l pins s σ H _ I h) λv A ⟨x,u,g,i,ty,z⟩=>?_);obtain⟨D,G⟩:=z75 g i ty;refine⟨T,id,C,slot,f,D,G,?_⟩;have j:=p cpos pins A σ u _ g z;rw[y] at j ⊢;refine Calls.callWith_builtin (by show (Zc||(backTo cpos (starEach es X.env)).any (·.1))=Zc;rw[a]<;>rfl) (Calls.evalArgs_plain ?_);exact thn j λB F ⟨m,w,E,n,q⟩=>k pins F σ w x m v B Q E i n q
end
noncomputable def MtM (X:Cx) (id:String) (r:V->List V->Hp->VK->Prop):Prop :=
 ∀(pins:List (Zh×Obj)) (s:Zf) (σ:St) (H:Hp) (x:V) (a:List V) (v:Ze) (u:List Ze) (Q:VK),Inv X pins σ H s->RelV x v->Vals a u->r x a H Q ->
  wpAny (model X.prog X.w) X.A (call (.builtin id) (v::u)) (EP X pins σ Q) X.xe s
theorem Vals.one:∀{x:V}{a:List Ze},Vals [x] a->∃u,a=[u]/\RelV x u
 |_,_,.cons r .nil=>⟨_,rfl,r⟩
theorem Vals.rep {xs:List V}{us:List Ze} (h:Vals xs us):∀k:Nat,Vals (List.replicate k xs).flatten (List.replicate k us).flatten
 |0=>.nil
 | k+1=>by
  rw[Da,Da,El,El];exact Vals.append h (Vals.rep h k)
theorem zlf (i:List Ze):∀(k:Nat) (a:List Ze),
  List.foldl (λx c=>x++c) a.toArray (List.replicate k i.toArray)=(a++(List.replicate k i).flatten).toArray
 |0,a=>by simp
 | k+1,a=>by
  have e:a.toArray++i.toArray=(a++i).toArray:=by simp
  have b:(a++i)++(List.replicate k i).flatten=a++(List.replicate (k+1) i).flatten:=by
   rw[Da,El,Bb]
  rw[<-b,<-zlf i k (a++i),<-e,Da,List.foldl_cons]
section
variable {X:Cx}{pins:List (Zh × Obj)}{σ:St}{H:Hp}{s:Zf}{l b:Zh}{xs ys zs:List V}
theorem Inv.lset {i its':List Ze}{n:Nat}{f:Array Ze->Array Ze}{t':Nat} (I:Inv X pins σ H s) (a:H l=Za (.lst xs))
  (e:s.heap.get? l=Za { cls:=.type "list",data:=.seq i.toArray n }) (b:f i.toArray=its'.toArray) (g:Vals ys its') (c:ys.length<=sizeLine) :
  Inv X pins σ (upd H l (.lst ys)) { s with heap:=s.heap.update l (Obj.mapSeq f),toks:=t' }:=by
 have q:=PySem.IsL.update e f;rw[b] at q;refine I.write (x:=l) (e:=l) (by rw[a];exact trivial) (.inl rfl) (λj u d h=>(Heap.get?_update_other s.heap (Obj.mapSeq f) (Ne.symm d)).trans h) ⟨_,q⟩ ?_;exact⟨c,its',_,g,q⟩
theorem Inv.lnew {i:List Ze}{t':Nat} (I:Inv X pins σ H s) (a:Vals ys i) (h:ys.length<=sizeLine) :
  Inv X pins σ (upd H s.heap.objs.size (.lst ys)) { s with heap:=s.heap.push { cls:=.type "list",data:=.seq i.toArray },toks:=t' } :=
 I.laid (λ_ _ q=>Ab _ q) (Ag _) ⟨h,i,0,a,Ah _ rfl⟩
theorem Inv.fresh (I:Inv X pins σ H s):H s.heap.objs.size=Zb:=I.hok.fresh (Ag _)
theorem Inv.lstM (I:Inv X pins σ H s)(h:H l=Za (.lst xs)):xs.length<=sizeLine/\∃(i:List Ze) (n:Nat),Vals xs i/\xs.length=i.length/\s.heap.get? l=Za { cls:=.type "list",data:=.seq i.toArray n }:=by
 obtain⟨z,i,n,r,e⟩:=I.hok l _ h;exact⟨z,i,n,r,r.length,e⟩
theorem zq8 {n:Nat}(h:n<=sizeLine):Builtin.List.listTooLong n=Zc:=by
 unfold Builtin.List.listTooLong;exact Bc #v[]
end
section
variable {X:Cx}
noncomputable def zvk:V->List V->Hp->VK->Prop:=λx v H Q=>∃l a y,x=.ref l/\v=[y]/\H l=Za (.lst a)/\a.length<sizeLine/\Q .non (upd H l (.lst (a++[y])))
theorem zko:MtM X "list.append" zvk:=by
 intro pins s σ H x g v f Q I d c h;obtain⟨l,j,y,rfl,rfl,a,k,q⟩:=h;cases d;obtain⟨u,rfl,b⟩:=c.one;obtain⟨z,i,n,r,m,e⟩:=I.lstM a;refine call_meets F.slot_list_append ⟨_,e,rfl⟩ F.entry_list_append (F.args_list_append_2 _ _) (PySem.list_append l i.toArray n u (by rw[Am];omega)) ⟨e,?_⟩;refine⟨.non,_,I.lset (its':=i++[u]) a e (by simp) (r.append (.cons b .nil)) ?_,rfl,q⟩;rw[Ax,List.length_singleton];omega
noncomputable def z2v:V->List V->Hp->VK->Prop:=λx v H Q=>∃l b a z,x=.ref l/\v=[.ref b]/\H l=Za (.lst a)/\H b=Za (.lst z)/\a.length+z.length<=sizeLine/\Q .non (upd H l (.lst (a++z)))
theorem z8g:MtM X "list.extend" z2v:=by
 intro pins s σ H x A v C Q I w t h;obtain⟨l,b,D,y,rfl,rfl,f,o,E,q⟩:=h;cases w;obtain⟨u,rfl,m⟩:=t.one;cases m;obtain⟨z,a,n,r,B,e⟩:=I.lstM f;obtain⟨G,i,g,j,p,k⟩:=I.lstM o;have d:a.toArray.size+i.toArray.size<=sizeLine:=by rw[Am,Am];omega
 have c:¬ (!a.toArray.isEmpty&&Builtin.List.listTooLong (a.toArray.size+i.toArray.size))=Zd:=by
  rw[zq8 d,Bool.and_false];exact Aq
 refine call_meets F.slot_list_extend ⟨_,e,rfl⟩ F.entry_list_extend (F.args_list_extend_2 _ _)
  (AutoSeq1.list_extend_list_list_0 l a.toArray n b i.toArray g c (by rw[Am];omega) #v[]) ⟨e,k,?_⟩
 refine⟨.non,_,I.lset (its':=a++i) f e (by simp) (r.append j) ?_,rfl,q⟩;rw[Ax];omega
noncomputable def rCat:R2:=λx y H Q=>∃l b a z,x=.ref l/\y=.ref b/\H l=Za (.lst a)/\H b=Za (.lst z)/\a.length+z.length<=sizeLine/\∀p,H p=Zb->Q (.ref p) (upd H p (.lst (a++z)))
theorem z6d:OpR X (binaryOp .Add) rCat:=by
 intro pins s σ H x y v u Q I m f h;obtain⟨l,b,A,p,rfl,rfl,g,c,B,q⟩:=h;cases m;cases f;obtain⟨z,a,n,r,C,e⟩:=I.lstM g;obtain⟨w,i,t,k,o,d⟩:=I.lstM c;refine PySem.P.add_list e d ?_ (by rw[Am,Am];omega);have j:a.toArray++i.toArray=(a++i).toArray:=by simp
 rw[j];exact⟨.ref _,_,I.lnew (t':=s.toks) (r.append k) (by rw[Ax];omega),rfl,q _ I.fresh⟩
noncomputable def rRep:R2:=λx y H Q=>∃l k a,x=.ref l/\y=.int k/\H l=Za (.lst a)/\-(2^63)<=k/\k<2^63/\a.length*k.toNat<=sizeLine /\
 ∀p,H p=Zb->Q (.ref p) (upd H p (.lst (List.replicate k.toNat a).flatten))
theorem z4e {α:Type}(xs:List α)(k:Nat):(List.replicate k xs).flatten.length=k*xs.length:=by
 induction k with
 |zero=>simp
 |succ k i=>rw[Da,El,Ax,i,Nat.succ_mul,Nat.add_comm]
theorem z8p:OpR X (binaryOp .Mult) rRep:=by
 intro pins s σ H x y v u Q I J A h;obtain⟨l,k,K,rfl,rfl,E,C,G,p,q⟩:=h;cases J;obtain⟨t,rfl⟩:=A;obtain⟨z,i,n,r,w,e⟩:=I.lstM E;have g:i.toArray.size*k.toNat<=sizeLine:=by rw[Am,<-w];exact p
 have f:¬ i.toArray.size*k.toNat > (2^63-1)/8:=by
  have:(sizeLine:Nat)<=(2^63-1)/8:=by decide
  omega
 have d:¬ (!Builtin.List.listFitsIndex k)=Zd:=by
  rw[fitsIndex_both C G];exact Aq
 have b:¬ Builtin.List.listTooLong (i.toArray.size*k.toNat)=Zd:=by
  rw[zq8 g];exact Aq
 have c:List.foldl (λj o=>j++o) #[] (List.replicate (if i.toArray.isEmpty=Zd then 0 else k.toNat) i.toArray)=(List.replicate k.toNat i).flatten.toArray:=by
  have D:∀m:Nat,List.foldl (λj o=>j++o) #[] (List.replicate m i.toArray)=(List.replicate m i).flatten.toArray:=λm=>by
   have:=zlf i m [];rw[Hn] at this;exact this
  rw[D];cases i with
  |nil=>simp
  |cons a L=>rw[if_neg (by simp)]
 refine wpAny_binaryOp_repeat_ref (T := "list") (U := "int") #v[0,9] ⟨_,e,rfl⟩ (λB=>typeIs_int B k t) noFill_list_mul F.fills_int_mul F.slot_int_rmul repeat_list F.slot_int_index.lookup
  (call_meets F.slot_int_rmul (typeIs_int s k t) F.entry_int_rmul (F.args_int_rmul_2 _ _) (int___rmul___int_list k t l i.toArray n)
   ⟨e,rfl,⟨_,e,rfl⟩,call_meets F.slot_list_mul ⟨_,e,rfl⟩ F.entry_list_mul (F.args_list_mul_2 _ _) (AutoListH.list___mul___list_int_3 l i.toArray n k t d f b) ⟨e,?_⟩⟩)
 rw[c];exact⟨.ref _,_,I.lnew (t':=s.toks) (r.rep k.toNat) (by rw[z4e,Nat.mul_comm];exact p),rfl,q _ I.fresh⟩
end
section
variable {prog:Program}{w:World}{A:Around}{E:Ze->Zf->Prop}{s:Zf}
end
section
variable {X:Cx}
end
end L2
namespace Att
open PySem PySem.W PySem.Calls PyProof.Rows
theorem zgs {P:Params}{h:Heap}:∀(c:List Int) (v:List Ze),WellAll P h v (c.map WData.int)->IntsAre v c:=by
 intro c
 induction c with
 | nil =>
  intro v w;rw[Fy] at w;cases w;exact .nil
 | cons n c i =>
  intro v w;rw[Ak] at w;cases w with
  | cons a b =>
   cases a;exact .cons _ _ (i _ b)
theorem zu9 {l:OpenLaw}{n:Nat} (t:l.most=Za n) {P:Params}{h:Heap}{args:List WData}{c:List Ze}
  (e:l.row.toRowW.claim.pre args=Zd) (m:WellAll P h c args) :
  ∃a o b,c=[Ze.ref a]/\args=[WData.list (b.map WData.int)]/\h.get? a=Za { cls:=.type "list",data:=.seq o.toArray }/\IntsAre o b/\b.length<=n:=by
 have k:WShape.hasAll [] args [.list .int]=Zd:=(pre_splitW e).1;have p:l.pre.holds [] { args:=args }=Zd:=(pre_splitW e).2;obtain ⟨d,r,rfl,x,A⟩:=hasAllW_cons k;obtain rfl:=hasAllW_nil A;obtain ⟨B,rfl,u⟩:=hasW_list x;obtain ⟨b,rfl⟩:=items_int u;have g:b.length<=n:=by
  unfold OpenLaw.pre at p;have i:(WTm.not (.lt (.lit (.int (n:Int))) (.len (.arg 0)))).holds [] { args:=[.list (b.map .int)] }=Zd:=by
   have i:=(holds_andW p).1;rw[t] at i;exact i
  have j:=condW_of i (w_not (w_lt w_lit (w_len_list (w_arg rfl))));rw[Ad] at j;refine Nat.le_of_not_lt λq=>?_;have z:(n:Int)<((b.length:Nat):Int):=by omega
  first
   |(rw[An z] at j;exact absurd j #v[0,9])
   |(simp at j;omega)
 cases m with
 | cons w y =>
  cases y;cases w with
  |list s f=>exact⟨_,_,b,rfl,rfl,s,zgs b _ f,g⟩
theorem zu2 (l:OpenLaw)(args:List WData):l.row.toRowW.claim.post args (.bool Zd) args=Zd :=
 postW_of (r:=l.row.toRowW) (X:=(Zd==Zd))
  (show WShape.has [] (.bool Zd) .bool=Zd by first|rfl|decide|simp [WShape.has,WShape.arms,WShape.armsAll])
  (show (WTm.eq .res (.lit (.bool Zd))).value [] { args:=args,res:=Za (.bool Zd),after:=args }=Za (.bool (Zd==Zd)) from w_eq_bool (w_res rfl) w_lit) rfl
theorem attach_call {l:OpenLaw}{n:Nat}{q:Program}{b:List Str}{X:(Str->Option Ze)->Heap->Prop}{E:World->Heap->Prop}{d:DefRec}
  (J:l.most=Za n) (A:d.params.defaults=[])
  (call:∀(w:World) (s₀ s:Zf) (m x:Str->Option Ze) (e:Zh) (o:Obj) (y j doc:Ze) (a:Zh) (v:List Ze) (p:List Int),
   Ground q b [] X w s₀ m x s.heap->E w s.heap ->
   s.heap.get? e=Za o->o.data=.func (docDef d.name d.params d.body d.scope y j doc)->s.heap.CodeRec j d.name->m d.name=Za (.ref e) ->
   s.heap.get? a=Za { cls:=.type "list",data:=.seq v.toArray }->IntsAre v p->p.length<=n->s.gens=#[] ->
   codeAny (model l.prog w) callerA (.call (.ref e) ⟨[.ref a],[]⟩) (λr k=>r=.ok (.ret (.bool Zd))/\OldK s.heap k.heap/\k.os=s.os/\AllBare k.gens) s) :
  WalkO q b X E l.row.toRowW d [] (λf v=>PySem.call f v):=by
 intro w s₀ s m x G Y e o y j doc O kV H I t B z K args D S c C R u N;obtain rfl:O=.none:=Dflts.none B A;obtain rfl:kV=.none:=Dflts.noKw B;obtain⟨a,v,p,rfl,rfl,i,h,g⟩:=zu9 J c u;refine enter_call (Es (call w s₀ s m x e o y j doc a v p G Y H (fd_plain I) t z i h g K) λr k L=>?_);obtain⟨rfl,Q,M,P⟩:=L;exact⟨.inl ⟨.bool Zd,.bool Zd,[],rfl,λ_=>rfl,.bool Zd,zu2 l _,λ_=>⟨List.Pairwise.nil,λ_ F=>(nomatch F)⟩⟩,Q,M,P⟩
section
variable {prog:Program}{w:World}{A:Around}{E:Ze->Zf->Prop}{s:Zf}{K:Frag}
end
end Att
namespace L2
open PySem PySem.Spec PyProof.Rows
theorem zmp:∀{v:List Ze}{a:List Int},IntsAre v a->Vals (a.map V.int) v
 |_,_,.nil=>.nil
 |_,_,.cons n t h=>.cons ⟨t,rfl⟩ (zmp h)
noncomputable def ze0 (s:Stmt):Arguments:=match s with
 |.FunctionDef _ a _ _ _ _ _ _ _ _=>a
 |_=>{ posonlyargs:=[],args:=[],vararg:=Zb,kwonlyargs:=[],kw_defaults:=[],kwarg:=Zb,defaults:=[] }
noncomputable def zc8 (s:Stmt):List Stmt:=match s with
 |.FunctionDef _ _ b _ _ _ _ _ _ _=>b
 |_=>[]
noncomputable def zan (s:Stmt):Scope:=match s with
 |.FunctionDef _ _ _ _ _ _ a _ _ _=>a
 |_=>{ kind:=.function,names:=[],isGenerator:=Zc,isCoroutine:=Zc }
noncomputable abbrev CX0:CXT:=λ_ _ _ _ _ _=>False
noncomputable abbrev E0:XK:=λ_ _ _=>False
theorem z66 {X:Cx}:zvu CX0 X E0:=λ_ _ _ _ _ _ _ h=>h.elim
structure Fun (K:Zg) (x qual:Str) (st:Stmt) (f:Zh) (fd:FuncData):Prop where
 ex:∃(oc:Ze) (od:Option Zh) (kV doc pm:Ze) (an:Option Zh) (cdv ct:Ze) (osl:Array (Option Ze)),
  fd=PySem.W.fnOf x qual (ze0 st) (zc8 st) (zan st) .none kV doc pm an cdv ct/\K.lookup f=Za ⟨oc,od,.func fd,osl⟩/\PySem.W.codeIn K cdv qual=Zd
 kp:PySem.W.keepIn K (.ref f)=Zd
section
variable {P:Program}{w:World}{K:Zg}{mg:Str->Option Ze}{base:Heap}
theorem Fun.binds {x qual:Str}{st:Stmt}{f:Zh}{b:FuncData}{ps:List Str} (F:Fun K x qual st f b)
  (h:∀(kV doc p:Ze) (a:Option Zh) (cdv c:Ze) (u:List Ze),u.length=ps.length->bindArgs (PySem.W.fnOf x qual (ze0 st) (zc8 st) (zan st) .none kV doc p a cdv c) ⟨u,[]⟩=pure (ps.zip u)):zlc K b ps []:=by
 obtain⟨oc,o,kV,doc,p,a,cdv,c,osl,rfl,l,d⟩:=F.ex;exact .all (h kV doc p a cdv c)
theorem z01 {x qual:Str}{st:Stmt}{f:Zh}{oc:Ze}{o a:Option Zh}{osl:Array (Option Ze)}{kV doc pm cdv b:Ze} (l:K.lookup f=Za ⟨oc,o,.func (PySem.W.fnOf x qual (ze0 st) (zc8 st) (zan st) .none kV doc pm a cdv b),osl⟩)
 (c:PySem.W.codeIn K cdv qual=Zd) (k:PySem.W.keepIn K (.ref f)=Zd):Fun K x qual st f (PySem.W.fnOf x qual (ze0 st) (zc8 st) (zan st) .none kV doc pm a cdv b):=⟨⟨oc,o,kV,doc,pm,a,cdv,b,osl,rfl,l,c⟩,k⟩
end
section
variable {X:Cx}
theorem pv (i:Nat) {x:Str}{pos:Pos} (a:X.N[i]?=Za x:=by rfl) (c:Vis X.env.scope x:=by first | exact Or.inl rfl | exact Or.inr (Or.inl rfl) | exact Or.inr (Or.inr rfl)) (b:(x==("__debug__" : Str))=Zc:=by decide)
 (h:(x==("__classdict__" : Str))=Zc:=by decide):PE X (.Name x pos) (tVar i):=zqb a c b h
end
theorem iteF {A B:Prop}(h:B):if Zc=Zd then A else B:=by
 rw[if_neg Aq];exact h
theorem iteT {A B:Prop}(h:A):if Zd=Zd then A else B:=by
 rw[if_pos rfl];exact h
noncomputable def Same (H H':Hp):Prop:=∀b o,H b=Za o->H' b=Za o
theorem Same.refl (H:Hp):Same H H:=λ_ _ h=>h
theorem Same.trans {H e d:Hp}(a:Same H e)(b:Same e d):Same H d:=λc o h=>b c o (a c o h)
theorem Same.free {H H':Hp} (e:Same H H') {l:Zh} (h:H' l=Option.none):H l=Option.none:=by
 cases q:H l with
 |none=>rfl
 | some o =>
  rw[e l o q] at h;cases h
theorem Same.seq {K:Zg}{H H':Hp}{a:Zh}{xs:List V}(e:Same H H')(h:SqL K H a xs):SqL K H' a xs:=by
 rcases h with (h|⟨o,h⟩)|h
 ·exact .inl (.inl (e _ _ h))
 ·exact .inl (.inr ⟨o,e _ _ h⟩)
 ·exact .inr h
noncomputable def capSt (cap:List (Option Nat)) (σ:St):St:=cap.map λo=>match o with
 |some i=>(σ[i]?).getD Zb
 |none=>Zb
noncomputable def zh4 (cap:List (Option Nat)) (Nc N:List Str) (scope:Scope):Bool :=
 decide (cap.length=Nc.length)&&(cap.zip Nc).all λp=>match p.1 with
  |some i=>decide (N[i]?=Za p.2)&&decide (scope.names.lookup p.2=Za NameKind.free)
  |none=>Zd
theorem zuu {cap Nc N scope}(h:zh4 cap Nc N scope=Zd):cap.length=Nc.length:=by
 unfold zh4 at h;rw[Ae] at h;exact As h.1
theorem zul {cap:List (Option Nat)}{Nc N:List Str}{scope:Scope}(h:zh4 cap Nc N scope=Zd){j i:Nat}{x:Str}(b:cap[j]?=Za (Za i))(c:Nc[j]?=Za x):N[i]?=Za x/\scope.names.lookup x=Za .free:=by
 unfold zh4 at h;rw[Ae] at h;have a:(Za i,x)∈cap.zip Nc:=by
  refine Dg (i:=j) ?_;rw[List.getElem?_zip_eq_some];exact⟨b,c⟩
 have q:=Bf.mp h.2 _ a;simp only [Ae,Ei] at q;exact q
noncomputable def zhb (scope:Scope) (out:Scope):Bool:=scope.names.all λp=>!(p.2==NameKind.free)||decide (out.names.lookup p.1=Za .cell)||decide (out.names.lookup p.1=Za .free)
theorem zfe {env:Env}:∀(names:List (Str × NameKind)) (f:List (Str × Zh)),(∀x,(x,NameKind.free)∈names->∃c,env.cells.lookup x=Za c)->(∀x c,f.lookup x=Za c->env.cells.lookup x=Za c) ->
    ∃i,(forIn names f fun (p:Str × NameKind) s=>if p.2 == NameKind.free then do let c <- cellOf env p.1;pure (ForInStep.yield ((p.1,c)::s)) else pure (ForInStep.yield s):Sem (List (Str × Zh)))=pure i /\
      (∀x c,i.lookup x=Za c->env.cells.lookup x=Za c)/\(∀x,(x,NameKind.free)∈names\/(∃c,f.lookup x=Za c)->∃c,i.lookup x=Za c)
  | [],f,_,l=>⟨f,by rw [Fq],l,fun x h=>by
      rcases h with h|h
      · cases h
      · exact h⟩
  | (n,k)::r,f,o,l=>by
    rw[Ho];by_cases t:(k == NameKind.free)=Zd
    · have w : k = .free := by simpa using t
      subst w;obtain ⟨c,q⟩:=o n Az;have m : ∀x d,((n,c)::f).lookup x=Za d->env.cells.lookup x=Za d:=fun x d h=>by
        rw[Bn] at h;cases e:x == n with
        | true => rw [e] at h; obtain rfl := sI h; have : x = n := by simpa using e
                  rw[this];exact q
        |false=>rw[e] at h;exact l x d h
      obtain⟨i,e,a,b⟩:=zfe r ((n,c)::f) (λx h=>o x (Au _ h)) m;refine⟨i,?_,a,λx h=>b x ?_⟩
      · rw [<- e]
        have g:cellOf env n=pure c:=by unfold cellOf;rw[q]
        simp only [Hh,Fe,g]
        rfl
      · have gen:∀y d,f.lookup y=Za d->∃u,((n,c)::f).lookup y=Za u:=fun y d v=>by
          rw[Bn];cases e:y == n with
          |true=>exact⟨_,rfl⟩
          |false=>exact⟨d,v⟩
        rcases h with h|⟨d,h⟩
        · rcases Ar.mp h with h | h
          · injection h with h _
            subst h;exact .inr ⟨c,by rw[Bn];simp⟩
          · exact .inl h
        · exact .inr (gen x d h)
    · have j : (k == NameKind.free) = Zc := by simpa using t
      obtain⟨i,e,a,b⟩:=zfe r f (λx h=>o x (Au _ h)) l;refine⟨i,?_,a,λx h=>b x ?_⟩
      · rw [<- e]
        simp only [j,Cu,Fa]
        rfl
      · rcases h with h | h
        · rcases Ar.mp h with h | h
          · injection h with _ h
            subst h;simp at j
          · exact .inl h
        · exact .inr h
theorem zdc {env:Env}{scope:Scope} (h:∀x,(x,NameKind.free)∈scope.names->∃c,env.cells.lookup x=Za c) :
  ∃d,closureFor scope env=pure d/\(∀x c,d.lookup x=Za c->env.cells.lookup x=Za c)/\(∀x,(x,NameKind.free)∈scope.names->∃c,d.lookup x=Za c):=by
 nofun;obtain⟨d,e,a,b⟩:=zfe (env:=env) scope.names [] h (λx c f=>by simp at f);ac_rfl;refine⟨d,?_,a,λx f=>b x (.inl f)⟩;rw[closureFor];have g:=e;simp only [bind_assoc,Gn] at g ⊢;exact congrArg (λm=>m>>=λr=>pure r) e |>.trans (by rw[Gn])
noncomputable def za2 (X:Cx) (Nc:List Str) (scope:Scope) (c:List (Str×Zh)) (C:Zh) (s:Zf) (H:Hp) (fp:List Zh):Cx where
 prog:=X.prog
 w:=X.w
 K:=X.K
 mg:=X.mg
 base:=X.base
 A:=X.A
 N:=Nc
 s₀:=s
 H₀:=H
 env:=compEnvC scope c C X.env
 outer:=X.stack
 stack:=X.stack
 ex:=fp
 fn:=λx=>decide (scope.names.lookup x=Za NameKind.cell)
 calm:=X.calm
 pn:=[]
 xe:=λ_ _=>False
noncomputable def z1r:TT:=λσ H Q=>Q Zd H
noncomputable def PTs (X:Cx) (ifs:List Zi) (t:TT):Prop :=
 ∀(pins:List (Zh×Obj)) (s:Zf) (σ:St) (H:Hp) (Q:Bool->Hp->Prop),Inv X pins σ H s->t σ H Q ->
  wpAny (model X.prog X.w) X.A (forIn ifs Zd λc r=>if r=Zd then do let ok <- isTrue c X.env (eval c X.env);pure (ForInStep.yield ok) else pure (ForInStep.yield r)) (TP X pins σ Q) X.xe s
theorem z2e {X:Cx}:PTs X [] z1r:=λpins s σ H Q I h=>by
 rw[Fq];exact Ac ⟨H,I,h⟩
theorem z12 {X:Cx}{c:Zi}{t:TT}(h:PT X c t):PTs X [c] t:=λpins s σ H Q I q=>by
 rw[Ho];simp only [Fe];refine Aa (Aa (thn (h pins s σ H Q I q) λb d a=>?_));refine Ac ?_;dsimp only;rw[Fq];exact Ac a
section
variable {X:Cx}
theorem zax {env:Env}:∀{names:List (Str×NameKind)}{x:Str},names.lookup x=Za .free ->
  (names.map λ(n,k)=>if (k == NameKind.free && env.scope.kind == .function && env.kindOf n == some .cell) then (n,NameKind.cell) else (n,k)).lookup x=Za .cell \/
  (names.map λ(n,k)=>if (k == NameKind.free && env.scope.kind == .function && env.kindOf n == some .cell) then (n,NameKind.cell) else (n,k)).lookup x=Za .free
 |[],_,h=>by simp at h
 | (n,k)::r,x,h=>by
  have i:=@zax env r x;rw[Ak];rw[Bn] at h;cases hx:x==n with
  | true =>
   rw[hx] at h;obtain rfl:=sI h;dsimp only;split
   ·rw[Bn,hx];exact .inl rfl
   ·rw[Bn,hx];exact .inr rfl
  | false =>
   rw[hx] at h;dsimp only;split
   ·rw[Bn,hx];exact i h
   ·rw[Bn,hx];exact i h
theorem zbd {env:Env}:∀{names:List (Str×NameKind)}{x:Str}{k:NameKind},(k=.cell\/k=.free) ->
  (names.map λ(n,k)=>if (k == NameKind.free && env.scope.kind == .function && env.kindOf n == some .cell) then (n,NameKind.cell) else (n,k)).lookup x=Za k->names.lookup x=Za .free\/names.lookup x=Za .cell
 |[],_,_,_,h=>by simp at h
 | (n,c)::r,x,k,a,h=>by
  rw[Ak] at h;rw[Bn];cases hx:x==n with
  | true =>
   dsimp only at h;split at h
   ·rename_i b
    rw[Bn,hx] at h;simp only [Ae,Hw] at b;rw[b.1.1];exact .inl rfl
   ·rw [Bn,hx] at h
    obtain rfl:=sI h;rcases a with rfl|rfl
    ·exact .inr rfl
    ·exact .inl rfl
  | false =>
   dsimp only at h;split at h
   ·rw[Bn,hx] at h;exact zbd a h
   ·rw[Bn,hx] at h;exact zbd a h
theorem zdr {scope out:Scope}(h:zhb scope out=Zd){x:Str}(a:(x,NameKind.free)∈scope.names):out.names.lookup x=Za .cell\/out.names.lookup x=Za .free:=by
 have q:=Bf.mp h _ a;simpa using q
theorem capSt_get {cap:List (Option Nat)}{σ:St}{j:Nat}{v:V} (h:(capSt cap σ)[j]?=Za (Za v)):∃i,cap[j]?=Za (Za i)/\σ[i]?=Za (Za v):=by
 unfold capSt at h;rw[At] at h;cases e:cap[j]? with
 |none=>rw[e] at h;cases h
 | some o =>
  rw[e] at h;cases o with
  |none=>cases h
  | some i =>
   refine⟨i,rfl,?_⟩;have a:(σ[i]?).getD Zb=Za v:=sI h;cases e2:σ[i]? with
   |none=>rw[e2] at a;cases a
   |some z=>rw[e2] at a;exact congrArg Za a
theorem za5 {env:Env}:∀{names:List (Str×NameKind)}{x:Str}{k:NameKind},k≠.free->names.lookup x=Za k ->
  (names.map λ(n,k)=>if (k == NameKind.free && env.scope.kind == .function && env.kindOf n == some .cell) then (n,NameKind.cell) else (n,k)).lookup x=Za k
 |[],_,_,_,h=>by simp at h
 | (n,b)::r,x,k,a,h=>by
  have i:=@za5 env r x k a;rw[Ak];rw[Bn] at h;cases hx:x==n with
  | true =>
   rw[hx] at h;obtain rfl:=sI h;have:(b==NameKind.free)=Zc:=by cases b<;>first|rfl|exact absurd rfl a
   dsimp only;rw[this,Fu,Fu,if_neg Aq,Bn,hx]
  | false =>
   rw[hx] at h;dsimp only;split
   ·rw[Bn,hx];exact i h
   ·rw[Bn,hx];exact i h
noncomputable def zfo (scope:Scope):Bool:=scope.names.all λp=>!(p.2==NameKind.cell)||decide (scope.names.lookup p.1=Za .cell)
theorem zrs {scope:Scope}(h:zfo scope=Zd){x:Str}(a:(x,NameKind.cell)∈scope.names):scope.names.lookup x=Za .cell:=by
 have q:=Bf.mp h _ a;simpa using q
theorem zb9:∀(names:List (Str×NameKind)) (n:Nat) (a:List (Str×Zh)),cellsFrom n names a=cellsFrom n names []++a
 |[],_,_=>rfl
 | (x,k)::r,n,a=>by
  unfold cellsFrom;split
  ·rw[zb9 r (n+1) ((x,n)::a),zb9 r (n+1) [(x,n)],Bb];rfl
  ·exact zb9 r n a
theorem zhm:∀(names:List (Str×NameKind)) (n:Nat) {x:Str}{c:Zh},(x,c)∈cellsFrom n names []->(x,NameKind.cell)∈names
 |[],_,_,_,h=>by cases h
 | (y,k)::r,n,x,c,h=>by
  unfold cellsFrom at h;split at h
  ·rename_i a
   rw[zb9] at h;rcases Bg.mp h with h|h
   ·exact Au _ (zhm r _ h)
   ·have e:=Ao.mp h
    cases e;have:k=NameKind.cell:=by simpa using a
    rw[this];exact Az
  ·exact Au _ (zhm r _ h)
theorem cells_of {names:List (Str×NameKind)}{n:Nat}{a:List (Str×Zh)}{x:Str}{c:Zh}(h:(cellsFrom n names a).lookup x=Za c):(cellsFrom n names []).lookup x=Za c\/((cellsFrom n names []).lookup x=Zb/\a.lookup x=Za c):=by
 rw[zb9,List.lookup_append] at h;cases e:(cellsFrom n names []).lookup x with
 |some d=>rw[e] at h;exact .inl h
 |none=>rw[e] at h;exact .inr ⟨rfl,h⟩
theorem zii {scope:Scope} (h:zfo scope=Zd) {n:Nat}{a:List (Str×Zh)}{x:Str}{c:Zh} (f:scope.names.lookup x=Za .free) (b:a.lookup x=Za c):(cellsFrom n scope.names a).lookup x=Za c:=by
 rw[zb9,List.lookup_append];cases e:(cellsFrom n scope.names []).lookup x with
 |none=>exact b
 | some d =>
  have:=zrs h (zhm _ _ (Bt e));rw[f] at this;cases this
theorem zx3 {pins:List (Zh×Obj)}{σ:St}{N:Hp}{s:Zf}{Nc:List Str}{scope:Scope}{M:List (Str×Zh)}{cap:List (Option Nat)}{fp:List Zh}{h4:Heap}{tk:Nat}
  (I:Inv X pins σ N s) (Z:scope.kind=.function) (t:zh4 cap Nc X.N scope=Zd) (K:zhb scope X.env.scope=Zd) (H:zfo scope=Zd)
  (C:∀x c,M.lookup x=Za c->X.env.cells.lookup x=Za c) (W:∀x,(x,NameKind.free)∈scope.names->∃c,M.lookup x=Za c)
  (P:∀b∈fp,FpOk X pins N b) (U:∀b∈fp,b<s.heap.objs.size)
  (S:h4.Ns s.heap.objs.size (λ_=>Zb)) (f:∀b o,s.heap.get? b=Za o->h4.get? b=Za o) (J:CellsOk h4 (s.heap.objs.size+1) (cellsFrom (s.heap.objs.size+1) scope.names [])) :
  Inv (za2 X Nc scope (cellsFrom (s.heap.objs.size+1) scope.names M) s.heap.objs.size s N fp) [] (capSt cap σ) N { s with heap:=h4,toks:=tk }:=by
 have B:∀b∈fp,b ∉ frs X.stack:=λb E z=>by
  obtain⟨_,g1,Y,_⟩:=P b E;rcases Ar.mp (I.stkSub b z) with e|e
  ·exact g1 e
  ·exact Y e
 have own:∀x c,(cellsFrom (s.heap.objs.size+1) scope.names []).lookup x=Za c->h4.IsCell c Zb/\s.heap.objs.size+1<=c:=λx c h=>J.empty x c (Bt h);have old:∀x c,M.lookup x=Za c->c<s.heap.objs.size:=λx c h=>by
  obtain⟨v,q⟩:=I.cell x c (C x c h);exact q.lt
 refine⟨⟨I.mod,Z,I.ok.glob,I.ok.blt,Ag _,λx y c L O=>?_,λx A=>?_,λx c h h'=>?_,I.ok.hd,I.ok.frames,.inl rfl,λb E=>⟨Aw (U b E),λx c h=>?_⟩,
  λb o e=>I.bs b o e,Cf I.ok.bsz I.sz,λb o e E=>?_,B,I.stack,I.stkFree⟩,rfl,I.bare,Un.kept f,⟨_,S,λj x v L O h3=>?_⟩,λx c h=>?_,I.hok.fresh (Ag _),λx c h=>?_,λp hp=>absurd (show p∈([]:List (Zh×Obj)) from hp) (by simp),I.hok.kept f,?_⟩
 ·rcases cells_of L with G|⟨_,G⟩
  ·rcases cells_of O with D|⟨_,D⟩
   ·exact name_of_addr J.apart (Bt G) (Bt D)
   ·have a:=(own x c G).2;have b:=old y c D;exact absurd (Be b (Hb a)) (Cg _)
  ·rcases cells_of O with D|⟨_,D⟩
   ·have a:=(own y c D).2;have b:=old x c G;exact absurd (Be b (Hb a)) (Cg _)
   ·exact I.ok.inj x y c (C x c G) (C y c D)
 ·have g:scope.names.lookup x=Za .free\/scope.names.lookup x=Za .cell:=by
   rcases A with A|A
   ·exact zbd (env:=X.env) (.inl rfl) A
   ·exact zbd (env:=X.env) (.inr rfl) A
  rcases g with g|g
  ·obtain⟨c,e⟩:=W x (Bt g);exact⟨c,zii H g e⟩
  ·exact Ep.mp (Gz scope.names _ M (.inl g))
 ·have A:scope.names.lookup x=Za .cell:=As h;rcases cells_of h' with z|⟨z,_⟩
  ·exact Hb (own x c z).2
  ·obtain⟨d,e⟩:=cell_has (n:=s.heap.objs.size+1) A;rw[z] at e;cases e
 ·rcases cells_of h with z|⟨_,z⟩
  ·have a:=(own x c z).2;have:=U b E;exact Ne.symm (Aw (Be this (Hb a)))
  ·exact (P b E).2.2.2.2.1 x c (C x c z)
 ·rcases (P b E).2.2.2.1 with z|z
  ·exact I.ok.noex b o e z
  ·have L:b<X.base.objs.size:=Aj e;exact absurd (Be L (Cf I.ok.bsz z)) (Cg _)
 ·obtain ⟨i,e1,e2⟩:=capSt_get O;have Q:Nc[j]?=Za x:=L;obtain ⟨n1,F⟩:=zul t e1 Q;have vis:Vis X.env.scope x:=by
   rcases zdr K (Bt F) with z|z
   ·exact .inr (.inl z)
   ·exact .inr (.inr z)
  obtain⟨m,hn,hl⟩:=I.loc;obtain⟨u,r,l⟩:=hl i x v n1 e2 vis;refine⟨u,r,?_⟩;rcases l with⟨T,_⟩|⟨_,c,e,z⟩
  ·have k:X.env.scope.names.lookup x=Za .local:=T;rcases zdr K (Bt F) with z|z
   ·rw[z] at k;cases k
   ·rw[z] at k;cases k
  ·obtain⟨c', V⟩:=W x (Bt F);have:=C x c' V;rw[e] at this;obtain rfl:=sI this;refine .inr ⟨zax (env:=X.env) F,c,zii H F V,?_⟩;obtain⟨o,w,R⟩:=z;exact⟨o,f _ _ w,R⟩
 ·rcases cells_of h with z|⟨_,z⟩
  ·exact⟨Zb,(own x c z).1⟩
  ·obtain⟨v,o,w, R⟩:=I.cell x c (C x c z);exact⟨v,o,f _ _ w,R⟩
 ·rcases cells_of h with z|⟨_,z⟩
  ·exact I.hok.fresh (Hb (own x c z).2)
  ·exact I.freeC x c (C x c z)
 ·show (capSt cap σ).length=Nc.length;rw[<-zuu t];unfold capSt;rw[Ad]
theorem zjj {M:Model}{A:Around}{E:Ze->Zf->Prop}{s:Zf}{scope:Scope}{g:Zh}{a:List (Str×Zh)}{qual:Str}{outer:Env}{Q:Env->Zf->Prop}
  (d:∀h,h.Ns s.heap.objs.size (λ_=>Zb)->(∀b o,s.heap.get? b=Za o->h.get? b=Za o)->CellsOk h (s.heap.objs.size+1) (cellsFrom (s.heap.objs.size+1) scope.names []) ->
   Q (newEnv scope s.heap.objs.size g (cellsFrom (s.heap.objs.size+1) scope.names a) qual Zb .none (Za outer) builtinsNs) { s with heap:=h }) :
  wpAny M A (newFunctionEnv scope g a [] qual Zb .none (Za outer)) Q E s:=by
 simp only [newFunctionEnv,Option.isSome_some,Fe];refine Aa (wpAny_alloc ?_);refine Aa (wpAny_layCells _ (λname kind c=>by cases hkc:kind==NameKind.cell<;>simp [hkc]) _ _ _ _ ?_);have ok:=cellsFrom_ok scope.names (s.heap.push { cls:=.type "dict",data:=.dict #[] }) (s.heap.objs.size+1) [] ⟨λ_ _ f=>(nomatch f),List.Pairwise.nil⟩ (by rw[Cq];exact Ag _);rw[Cq] at ok;rw[show ({ s with heap:=s.heap.push { cls:=.type "dict",data:=.dict #[] } }:Zf).heap.objs.size=s.heap.objs.size+1 from Cq ..];refine Aa ?_;rw[Fq];exact Ac (Ac (d _ ((Heap.Ns.new s.heap (.type "dict")).keeps (pushCells_keeps _ _)) (λb o e=>pushCells_keeps _ _ b o (Ab _ e)) ok))
end
noncomputable abbrev TM:=St->Hp->(St->Hp->Prop)->Prop
noncomputable def PM (X:Cx) (em:Sem Unit) (t:TM):Prop :=
 ∀(pins:List (Zh×Obj)) (s:Zf) (σ:St) (H:Hp) (N:St->Hp->Prop),Inv X pins σ H s->t σ H N ->
  wpAny (model X.prog X.w) X.A em (λ_ c=>∃a b,Inv X pins a b c/\N a b) X.xe s
noncomputable def zmx (e:Zi) (d:Nat) (tg iter:Zi) (ifs:List Zi) (em:Sem Unit) (it acc:Ze) (env:Env):Sem Fin:=do
 standAt iter.pos
 match <- pyNext it with
 |none=>pure (.done .next)
 | some v =>
  letOwnedTupleGo tg it v
  assign tg env v
  let mut ok:=Zd
  for c in ifs do
   if ok then ok <- isTrue c env (eval c env)
  if ok then em
  again (.compLoop e d it acc env)
noncomputable def zls (J:It) (g:TG) (tc:TT) (t:TM) (σ:St) (H:Hp) (Q:St->Hp->Prop):Prop:=∃W:Nat->Nat->St->Hp->Prop,(∃m,W 0 m σ H) /\
 ∀i m a e,W i m a e->(J.stop i e/\Q a e)\/(J.go i e/\∃N:St->Hp->Prop,(∀f d,N f d->∃h,h<m/\W (i+1) h f d)/\∀x d,J.yld i e x d->g x a d λc k =>
  tc c k λb j=>if b=Zd then t c j N else N c j)
noncomputable def zv5 (w:TI) (cap:List (Option Nat)) (g:TG) (tc:TT) (t:Zh->TM):TE:=λσ H Q=>w σ H λJ b=>∀a,b a=Zb->zls J g tc (t a) (capSt cap σ) (upd b a (.lst [])) λ_ c=>Q (.ref a) c
section
variable {X:Cx}
theorem zmd {elt:Zi}{gens:List Comprehension}{scope:Scope}{pos:Pos}{d:Nat}{G iter:Zi}{ifs:List Zi}{em:Sem Unit}{p:Ze}{g:TG}{tc:TT}{U:TM}{pins:List (Zh×Obj)}{σ:St}{H:Hp}{s:Zf}{it:Zh}{fp:List Zh}{E:Nat->Heap->Prop}{J:It}{V:St->Hp->Prop}{R:Result->Zf->Prop}
  (O:∀v s,¬ X.xe v s) (hc:X.calm=Zd) (ht:compTurn (.ListComp elt gens scope pos) d (.ref it) p X.env=zmx (.ListComp elt gens scope pos) d G iter ifs em (.ref it) p X.env)
  (hg:PG X G g) (hs:PTs X ifs tc) (M:PM X em U) (I:Inv X pins σ H s) (T:Turn X.prog X.w X.K G J fp it E) (st:E 0 s.heap) (f:∀b∈fp,FpOk X pins H b)
  (hW:zls J g tc U σ H V)
  (hR:∀a c B,Inv X pins a c B->V a c->R (.ok .next) B):codeAny (model X.prog X.w) X.A (.compLoop (.ListComp elt gens scope pos) d (.ref it) p X.env) R s:=by
 have k:∀{c:Hp},(∀b∈fp,c b=Zb)->∀b∈fp,FpOk X pins c b:=λhn b l=>⟨hn b l,(f b l).2⟩;nofun;obtain⟨W,⟨m0,w0⟩,turn⟩:=hW;ac_rfl;refine codeAny_loop rfl (λn B=>∃i a c,Inv X pins a c B/\E i B.heap/\(∀b∈fp,c b=Zb)/\W i n a c) ?_ m0 ⟨0,σ,H,I,st,λb l=>(f b l).1,w0⟩;rintro n F ⟨i,j,C,I3,A,t,w3⟩;show wpAny _ X.A ((compTurn (.ListComp elt gens scope pos) d (.ref it) p X.env).onRaise (λx=>do noteFrame x X.env;theTreesLotGoes x)) _ _ F;refine wpAny_noted ?_;rw[ht];unfold zmx;refine Aa (Fw (Aa ?_));rcases turn i n j C w3 with⟨stop,qn⟩|⟨go,N,hN,step⟩
 ·refine Ct (T.done X rfl rfl rfl hc i pins F j C (λ_ _=>False) I3 (k t) A stop) (λr s4 ⟨K,I4⟩ => ?_) λ_ _ z=>z.elim;subst K;exact Ac (hR j C s4 I4 qn)
 ·refine Ct (T.item X rfl rfl rfl hc i pins F j C (λ_ _=>False) I3 (k t) A go) (λr s4 ⟨u,K,h4⟩ => ?_) λ_ _ z=>z.elim;subst K;refine Aa (Ct h4 (λ_ Y ⟨x,S,I5,r5,y5,q,L⟩=>?_) λ_ _ z=>z.elim);have P:=I5.pinned (k L) (T.obj _ _ q);refine Aa (Ct (hg _ Y j S x u _ P r5 (step x S y5)) (λ_ s6 ⟨w,H6,I6,q6⟩=>?_) λv s z=>(O v s z).elim);refine Aa (Ct (hs _ s6 w H6 _ I6 q6) (λok s7 ⟨H7,Z,q7⟩=>?_) λv s z=>(O v s z).elim);have again:∀{D:Zf}{h:St}{y:Hp},Inv X (pins++zlu fp Y.heap) h y D->N h y->∃m,m<n/\∃i a c,Inv X pins a c D/\E i D.heap/\(∀b∈fp,c b=Zb)/\W i m a c:=λ{D h y} Q nx=>by
   obtain⟨m',M,wx⟩:=hN h y nx;refine⟨m',M,i+1,h,y,Q.unpinned,T.keep _ _ _ q λb l o e=>(Q.pin (b,o) (Ba _ (Ba _ (zdo l e)))).1,λb l=>?_,wx⟩;obtain⟨o,e,d⟩:=T.obj _ _ q b l;exact (Q.pin (b,o) (Ba _ (Ba _ (zdo l e)))).2.1
  cases ok with
  |false=>exact Ac ⟨rfl,again Z q7⟩
  |true=>exact Aa (Ct (M _ s7 w H7 N Z q7) (λ_ s8 ⟨σ8,H8,I8,n8⟩=>Ac ⟨rfl,again I8 n8⟩) λv s z=>(O v s z).elim)
noncomputable def zr7 (a:Zh) (te:TE):TM:=λσ H N=>te σ H λy c=>∃b,c a=Za (.lst b)/\b.length<sizeLine/\N σ (upd c a (.lst (b++[y])))
noncomputable def zz1 (elt:Zi) (a:Ze) (env:Env):Sem Unit:=do let _ <- call (.builtin "list.append") [a,<-eval elt env]
theorem z1t {elt:Zi}{te:TE}{a:Zh}(j:PE X elt te):PM X (zz1 elt (.ref a) X.env) (zr7 a te):=by
 intro pins s σ H N I h;unfold zz1;refine Aa (thn (j pins s σ H _ I h) λk f ⟨y,g,c,r,o,i,m,e⟩=>?_);refine Aa (thn (zko _ f σ g (.ref a) [y] _ [k] (λ_ n=>N σ n) c rfl (.cons r .nil) ⟨_,o,y,rfl,rfl,i,m,e⟩) λ_ l ⟨_,d,b,_,q⟩=>?_);exact Ac ⟨σ,d,b,q⟩
noncomputable def tTwo (w:TI) (g:TG) (tc:TT) (t:TM):TM:=λσ H N=>w σ H λJ a=>zls J g tc t σ a N
noncomputable def ztl (e iter:Zi) (a:Ze) (env:Env):Sem Unit:=do
 let x <- eval iter env
 standAt iter.pos
 let x <- foldedSetIterable iter env x
 let _ <- runOwn (.compStart e 1 (<- holding [x] (pyIter x)) a env) env
theorem zze {elt tg iter tg2 iter2:Zi}{ifs ifs2:List Zi}{scope:Scope}{pos:Pos}{it a:Ze}{env:Env} :
  compTurn (.ListComp elt [⟨tg,iter,ifs,0⟩,⟨tg2,iter2,ifs2,0⟩] scope pos) 0 it a env=zmx (.ListComp elt [⟨tg,iter,ifs,0⟩,⟨tg2,iter2,ifs2,0⟩] scope pos) 0 tg iter ifs (ztl (.ListComp elt [⟨tg,iter,ifs,0⟩,⟨tg2,iter2,ifs2,0⟩] scope pos) iter2 a env) it a env:=by
 unfold zmx ztl;simp only [bind_assoc,Gn]
 rfl
theorem zt6 {A:Around}{R:Result->Zf->Prop}{s:Zf}{elt tg iter tg2 iter2:Zi}{ifs ifs2:List Zi}{scope:Scope}{pos:Pos}{it a:Ze}{env:Env}{prog:Program}{w:World}
  (d:codeAny (model prog w) A (.compLoop (.ListComp elt [⟨tg,iter,ifs,0⟩,⟨tg2,iter2,ifs2,0⟩] scope pos) 1 it a env) R s)
  (h:wpAny (model prog w) A (pyIter it) (λi b=>codeAny (model prog w) A (.compLoop (.ListComp elt [⟨tg,iter,ifs,0⟩,⟨tg2,iter2,ifs2,0⟩] scope pos) 1 i a env) R b)
   (notedBy (model prog w) A env λx b=>R (.error x) b) s) :
  codeAny (model prog w) A (.compStart (.ListComp elt [⟨tg,iter,ifs,0⟩,⟨tg2,iter2,ifs2,0⟩] scope pos) 1 it a env) R s:=by
 refine codeAny_of_tree ?_;show wpAny _ _ ((compStart (.ListComp elt [⟨tg,iter,ifs,0⟩,⟨tg2,iter2,ifs2,0⟩] scope pos) 1 it a env).onRaise (λx=>do noteFrame x env;standAt theWindowsPlace)) _ _ s;refine wpAny_notedAt ?_;unfold compStart;show wpAny _ _ (ask>>=_) _ _ s;refine Aa (Gp (wpAny_ite ?_));split
 ·first
   |exact Aa (Ac (Ac (And.intro rfl d)))
   |exact Ac (And.intro rfl d)
 ·first
   |exact Aa (Cs (Aa (Fw (Aa (Ct h (λi b c=>Ac (And.intro rfl c)) λ_ _ x=>x)))))
   |(refine Aa (Cs ?_);show wpAny _ _ (standAt iter2.pos>>=_) _ _ s;exact Aa (Fw (Aa (Ct h (λi b c=>Ac (And.intro rfl c)) λ_ _ x=>x))))
theorem z9c {elt tg iter tg2 iter2:Zi}{ifs ifs2:List Zi}{scope:Scope}{pos:Pos}{w:TI}{g:TG}{tc:TT}{te:TE}{b:Zh} (j:∀v s,¬ X.xe v s) (l:X.calm=Zd) (y:PI X tg2 iter2 w) (p:PG X tg2 g) (C:PTs X ifs2 tc) (q:PE X elt te) (m:∀x,foldedSetIterable iter2 X.env x=pure x) :
  PM X (ztl (.ListComp elt [⟨tg,iter,ifs,0⟩,⟨tg2,iter2,ifs2,0⟩] scope pos) iter2 (.ref b) X.env) (tTwo w g tc (zr7 b te)):=by
 intro pins s σ H N I h;unfold ztl;refine Aa (thn (y pins s σ H _ I h) λv G t=>Aa (Fw (Aa (Fc (m v) (Aa (Bq (thn t λB A E=>?_)))))));nofun;obtain⟨n,fp,K,J,F,e,u,T,d,k,D⟩:=E;ac_rfl;subst e;refine Aa (wpAny_runOwn ?_);have loop:codeAny (model X.prog X.w) X.A (.compLoop (.ListComp elt [⟨tg,iter,ifs,0⟩,⟨tg2,iter2,ifs2,0⟩] scope pos) 1 (.ref n) (.ref b) X.env) (λr c=>match r with|.ok f=>(λ_ c=>wpAny (model X.prog X.w) X.A (pure ()) (λ_ c=>∃a i,Inv X pins a i c/\N a i) X.xe c) f c|.error e=>cameBackBy (model X.prog X.w) X.A X.env X.xe e c) A :=
  zmd (em:=zz1 elt (.ref b) X.env) j l rfl p C (z1t q) u T d k D λa i c z o=>Ac ⟨a,i,z,o⟩
 exact zt6 loop (T.self _ 0 _ _ _ d loop)
end
theorem HOk.but {P:Program}{w:World}{H:Hp}{h h':Heap}{a:Zh}(x:HOk P w H h)(f:H a=Zb)(g:Heap.SameBut a h h'):HOk P w H h':=λb ob e=>by
 refine (x b ob e).stay (λc i d q=>(g.2 c ?_).trans q) (λ_ q=>q) λ_ _ q=>q;rintro rfl;rcases d with rfl|d
 ·rw[f] at e;cases e
 ·rw[f] at d;cases d
section
variable {X:Cx}
theorem zis {elt tg iter:Zi}{ifs:List Zi}{gs:List Comprehension}{scope:Scope}{pos:Pos}{f:List (Str×Zh)}{Nc:List Str}{cap:List (Option Nat)}{g:TG}{tc:TT}{em:Ze->Env->Sem Unit}{tm:Zh->TM}{pins:List (Zh×Obj)}{σ:St}{H:Hp}{s:Zf}{it:Zh}{fp:List Zh}{tn:Nat->Heap->Prop}{J:It}{Q:VK}{RR:Ze->Zh->Result->Zf->Prop}{E:Ze->Zf->Prop}
  (hc:X.calm=Zd) (hk:scope.kind=.function) (B:zh4 cap Nc X.N scope=Zd) (Z:zhb scope X.env.scope=Zd) (hnc:zfo scope=Zd)
  (q:∀it a env,compTurn (.ListComp elt (⟨tg,iter,ifs,0⟩ :: gs) scope pos) 0 it a env=zmx (.ListComp elt (⟨tg,iter,ifs,0⟩ :: gs) scope pos) 0 tg iter ifs (em a env) it a env)
  (hg:∀f C w y fp,PG (za2 X Nc scope f C w y fp) tg g) (ht:∀f C w y fp,PTs (za2 X Nc scope f C w y fp) ifs tc) (hm:∀f C w y fp a,PM (za2 X Nc scope f C w y fp) (em (.ref a) (za2 X Nc scope f C w y fp).env) (tm a))
  (c1:∀x c,f.lookup x=Za c->X.env.cells.lookup x=Za c) (c2:∀x,(x,NameKind.free)∈scope.names->∃c,f.lookup x=Za c)
  (I2:Inv X pins σ H s) (T:Turn X.prog X.w X.K tg J fp it tn) (t:tn 0 s.heap) (f2:∀b∈fp,FpOk X pins H b)
  (hW:∀a,H a=Zb->zls J g tc (tm a) (capSt cap σ) (upd H a (.lst [])) λ_ Hc=>Q (.ref a) Hc)
  (hR:∀a C K R,(∃m,K.heap.Ns C m)->(∀M,Heap.SameBut C K.heap M->Inv X pins σ R { K with heap:=M })->FpOk X pins R C->Q (.ref a) R->RR (.ref a) C (.ok .next) K) :
  wpAny (model X.prog X.w) X.A (newList []) (λa L=>wpAny (model X.prog X.w) X.A (newFunctionEnv scope X.env.globals f [] X.env.qual Zb .none (Za X.env)) (λl A =>
   codeAny (model X.prog X.w) X.A (.compStart (.ListComp elt (⟨tg,iter,ifs,0⟩ :: gs) scope pos) 0 (.ref it) a { l with scope:=relabel scope X.env }) (RR a l.locals) A) E L) E s:=by
 refine Bp (zjj λi d k r=>?_);dsimp only at d k r ⊢;have F:H s.heap.objs.size=Zb:=I2.hok.fresh (Ag _);have N:Inv X pins σ (upd H s.heap.objs.size (.lst [])) { s with heap:=s.heap.push { cls:=.type "list",dict:=Zb,data:=.seq ([]:List Ze).toArray },toks:=s.toks } :=
  I2.laid (t':=s.toks) (λb u e=>Ab _ e) (Ag _) ⟨by simp,[],0,.nil,Ah _ rfl⟩
 have hW':=hW s.heap.objs.size F;generalize hH:s.heap.push { cls:=.type "list",dict:=Zb,data:=.seq ([]:List Ze).toArray }=hp at d k r N ⊢;have f3:∀b∈fp,FpOk X pins (upd H s.heap.objs.size (.lst [])) b:=λb h=>by
  obtain⟨o,V,_⟩:=T.obj _ _ t b h;exact⟨by rw[upd_ne (Aw (Aj V))];exact (f2 b h).1,(f2 b h).2⟩
 have up:∀b o,s.heap.get? b=Za o->hp.get? b=Za o:=λb o e=>hH ▸ Ab _ e;have O:=zx3 (Nc:=Nc) (cap:=cap) (fp:=fp) (h4:=i) (tk:=s.toks) N hk B Z hnc c1 c2 f3 (λb h=>by
  obtain⟨o,V,_⟩:=T.obj _ _ t b h;exact Aj (up b o V)) d k r
 have D:tn 0 i:=T.keep _ _ _ t λb _ o e=>k b o (up b o e);have loop:codeAny (model X.prog X.w) X.A (.compLoop (.ListComp elt (⟨tg,iter,ifs,0⟩ :: gs) scope pos) 0 (.ref it) (.ref s.heap.objs.size) (compEnvC scope (cellsFrom (hp.objs.size+1) scope.names f) hp.objs.size X.env)) (RR (.ref s.heap.objs.size) hp.objs.size) { s with heap:=i,toks:=s.toks }:=by
  refine zmd (X:=za2 X Nc scope (cellsFrom (hp.objs.size+1) scope.names f) hp.objs.size { s with heap:=hp,toks:=s.toks } (upd H s.heap.objs.size (.lst [])) fp) (λ_ _ z=>z) hc (q _ _ _) (hg _ _ _ _ _) (ht _ _ _ _ _) (hm _ _ _ _ _ _) O T D
   (λb h=>⟨(f3 b h).1,(O.ok.exf b h).1,O.ok.exfs b h,.inl h,(O.ok.exf b h).2,λp W=>absurd (show p∈([]:List (Zh×Obj)) from W) (by simp)⟩) hW' λσ5 P s6 I qn=>?_
  obtain⟨m6,Y,_⟩:=I.loc;have fC:P hp.objs.size=Zb:=I.free;refine hR _ _ _ P ⟨m6,Y⟩ (λM j=>?_) (N.fpOk (Ag _) fC) qn;refine N.call' (s':={ s6 with heap:=M }) (ch:=fp) I.os ?_ (I.hok.but fC j) I.bare λb h=>⟨(f3 b h).2.2.2.1,(f3 b h).2.1,(f3 b h).2.2.2.2.1,(f3 b h).2.2.2.2.2⟩;have U:Un (frs X.stack) fp (upd H s.heap.objs.size (.lst [])) P hp s6.heap:=I.base;have S:∀b o,hp.get? b=Za o->b≠hp.objs.size:=λb o e=>Aw (Aj e);exact⟨λb o e n h G=>(j.2 b (S b o e)).trans (U.keep b o e n h G),λb o e n h G=>let ⟨sl,z⟩:=U.slot b o e n h G;⟨sl,(j.2 b (S b o e)).trans z⟩,U.free,λb o e G=>let ⟨o',z⟩:=U.there b o e G;⟨o',(j.2 b (S b o e)).trans z⟩,U.tups,U.frzs,U.tbls⟩
 exact codeAny_compStart_list loop (T.self _ 0 _ _ _ D loop)
theorem z2x {elt tg iter:Zi}{ifs:List Zi}{gs:List Comprehension}{scope:Scope}{pos:Pos}{Nc:List Str}{cap:List (Option Nat)}{z:TI}{g:TG}{tc:TT}{em:Ze->Env->Sem Unit}{A:Zh->TM} (M:PI X tg iter z)
  (G:∀d C i j fp,PG (za2 X Nc scope d C i j fp) tg g) (S:∀d C i j fp,PTs (za2 X Nc scope d C i j fp) ifs tc) (p:∀d C i j fp a,PM (za2 X Nc scope d C i j fp) (em (.ref a) (za2 X Nc scope d C i j fp).env) (A a))
  (c:∀u a env,compTurn (.ListComp elt (⟨tg,iter,ifs,0⟩ :: gs) scope pos) 0 u a env=zmx (.ListComp elt (⟨tg,iter,ifs,0⟩ :: gs) scope pos) 0 tg iter ifs (em a env) u a env)
  (E:X.calm=Zd:=by rfl) (y:scope.kind=.function:=by rfl) (l:zh4 cap Nc X.N scope=Zd:=by rfl) (k:zhb scope X.env.scope=Zd:=by rfl) (o:zfo scope=Zd:=by rfl)
  (n:(scope.names.all λp=>!(p.2 == NameKind.local) || decide (scope.names.lookup p.1=some .local))=Zd:=by rfl)
  (F:∀x,foldedSetIterable iter X.env x=pure x:=by intro _;rfl):PE X (.ListComp elt (⟨tg,iter,ifs,0⟩ :: gs) scope pos) (zv5 z cap g tc A):=by
 intro pins s σ H Q I h;rw[eval_ListComp];nofun;obtain⟨d,f,P,N⟩:=zdc (env:=X.env) (scope:=scope) λx r=>I.ok.has x (zdr k r);ac_rfl;have b:∀x∈scope.names,x.2=.local->scope.names.lookup x.1=Za .local:=λx r e=>by
  have q:=Bf.mp n _ r;simpa [e] using q
 refine wpAny_comprehension_free (use:=Zb) rfl F f y b (thn (M pins s σ H _ I h) λv s1 K=>thn K λR s2 V=>?_);nofun;obtain⟨u,fp,tn,J,Z,e,L,T,w,D,U⟩:=V;ac_rfl;subst e;refine zis (RR:=λa C=>compPost (model X.prog X.w) X.A X.xe Zb (EP X pins σ Q) a C) E y l k o c G S p P N L T w D U ?_;intro a C s' O ⟨m,p⟩ B Y q;exact⟨m,p,λW t=>⟨.ref a,O,B W t,rfl,q⟩⟩
theorem z4h {y:Str}{t:Pos}{f:Pos}{i:Nat}{elt tg iter:Zi}{ifs:List Zi}{gs:List Comprehension}{scope:Scope}{pos:Pos}{Nc:List Str}{cap:List (Option Nat)}{W:TI}{g:TG}{tc:TT}{em:Ze->Env->Sem Unit}{Y:Zh->TM} (hN:X.N.Nodup) (P:X.N[i]?=Za y) (hy:Loc X.env.scope y) (hi:PI X tg iter W)
  (hg:∀n C r u fp,PG (za2 X Nc scope n C r u fp) tg g) (ht:∀n C r u fp,PTs (za2 X Nc scope n C r u fp) ifs tc) (K:∀n C r u fp c,PM (za2 X Nc scope n C r u fp) (em (.ref c) (za2 X Nc scope n C r u fp).env) (Y c))
  (l:∀O c env,compTurn (.ListComp elt (⟨tg,iter,ifs,0⟩ :: gs) scope pos) 0 O c env=zmx (.ListComp elt (⟨tg,iter,ifs,0⟩ :: gs) scope pos) 0 tg iter ifs (em c env) O c env)
  (F:swapsWith (.ListComp elt (⟨tg,iter,ifs,0⟩ :: gs) scope pos) (Za (.Name y t)) f.line X.env=pure Zd:=by rfl)
  (hc:X.calm=Zd:=by rfl) (V:scope.kind=.function:=by rfl) (B:zh4 cap Nc X.N scope=Zd:=by rfl) (A:zhb scope X.env.scope=Zd:=by rfl) (G:zfo scope=Zd:=by rfl)
  (E:(scope.names.all λp=>!(p.2 == NameKind.local) || decide (scope.names.lookup p.1=some .local))=Zd:=by rfl)
  (hs:∀x,foldedSetIterable iter X.env x=pure x:=by intro _;rfl) (hf:X.fn y=Zd\/X.env.scope.names.lookup y=Za .local:=by first|exact .inl rfl|exact .inr rfl|assumption) :
  PS X (.Assign [.Name y t] (.ListComp elt (⟨tg,iter,ifs,0⟩ :: gs) scope pos) f) (tAsg (zv5 W cap g tc Y) (zr6 i)):=by
 intro pins s σ H D I h;nofun;obtain⟨n,p,c1,c2⟩:=zdc (env:=X.env) (scope:=scope) λx L=>I.ok.has x (zdr A L);ac_rfl;have d:∀x∈scope.names,x.2=.local->scope.names.lookup x.1=Za .local:=λx L e=>by
  have q:=Bf.mp E _ L;simpa [e] using q
 rw[exec_Assign_Name_used _ _ _ _ F];refine Aa (Fw (Aa ?_));show wpAny _ X.A (do let _ <- comprehension (.ListComp elt (⟨tg,iter,ifs,0⟩ :: gs) scope pos) scope X.env _ (newList []) Zc (eval iter X.env) (Za (assign (.Name y t) X.env))) _ _ s;refine Aa (Ct (wpAny_comprehension_free (use:=Za (assign (.Name y t) X.env)) (Q:=λ_ k=>SP X pins D .next k) rfl hs p V d
  (thn (hi pins s σ H _ I h) λv s1 h1=>thn h1 λitv s2 h2=>?_)) (λ_ k hq=>Ac (Ac hq)) λ_ _ e=>e)
 nofun;obtain⟨O,fp,tn,J,H2,e,I2,T,U,f2,hW⟩:=h2;ac_rfl;subst e;refine zis (Q:=λx H1=>D.nx (σ.set i (Za x)) H1) (RR:=λc C=>compPost (model X.prog X.w) X.A X.xe (Za (assign (.Name y t) X.env)) (λ_ k=>SP X pins D .next k) c C) hc V B A G l hg ht K c1 c2 I2 T U f2 hW ?_;intro c C k Z ⟨m,K⟩ hI j q;show wpAny _ X.A (assign (.Name y t) X.env (.ref c)) _ _ _;have I':Inv X pins σ Z k:=hI k.heap (.refl ..);refine wpAny_assign_Name (zli I' hN P hy (v:=.ref c) rfl (λR S ⟨a,N,M⟩=>?_) hf);have ne:C≠a:=by
  rcases M with rfl|M
  ·exact j.2.1
  ·exact λz=>j.2.2.2.2.1 y a M z.symm
 refine⟨m,K.sameBut N ne,λh' w=>⟨_,Z,?_,q⟩⟩;exact S.turned (t':=R.toks) (λb o hb e=>(w.2 b hb).trans e) j.1 j.2.1 j.2.2.2.1 j.2.2.2.2.1 j.2.2.2.2.2
end
section
variable {X:Cx}{pins:List (Zh × Obj)}{σ:St}{H:Hp}{s:Zf}
theorem Inv.turnLay {h':Heap}{t':Nat}{ch:List Zh}{T:Zh}{o:HO} (I:Inv X pins σ H s) (k:∀b o,b ∉ ch->s.heap.get? b=Za o->h'.get? b=Za o) (A:∀b∈ch,∃t,h'.get? b=Za t) (h:∀b∈ch,FpOk X pins H b) (i:s.heap.objs.size<=T)
  (new:ObjOk X.prog X.w (upd H T o) h' T o):Inv X pins σ (upd H T o) { s with heap:=h',toks:=t' }:=by
 have f:H T=Zb:=I.hok.fresh i;have ne:∀b u,s.heap.get? b=Za u->b≠T:=λb u e=>Aw (Be (Aj e) i);have g:∀b u,H b=Za u->b ∉ ch:=λb u e a=>by rw[(h b a).1] at e;cases e
 refine I.step (g':=s.gens) (d':=s.drawn) (ch:=ch) (λb a=>⟨(h b a).2.2.2.1,(h b a).2.1,(h b a).2.2.2.2.1,(h b a).2.2.2.2.2⟩) (λb o _ _ d e _=>k b o d e) (λb o _ _ d e _=>⟨o.slots,k b o d e⟩) (λb u _ e n=>by rw[upd_ne (ne b u e)];exact n)
  (λb u d e=>⟨u,k b u d e⟩) (λb x e=>by rw[upd_ne (zad e f)];exact e) (λb u x e=>by rw[upd_ne (zad e f)];exact e) (λb y e=>⟨#[],by rw[upd_ne (zad e f),e];simp⟩) (λm j=>?_) (λb u e=>?_) I.bare
 ·obtain⟨o,p,w,l,r⟩:=j;exact⟨o,p,w,k _ o (λz=>(h _ z).2.1 rfl) l,r⟩
 ·by_cases a:b=T
  ·subst a;rw[upd_same] at e;obtain rfl:=sI e;exact new
  ·rw[upd_ne a] at e;refine (I.hok b u e).stay (λc v d q=>k c v ?_ q) (λc q=>by rw[upd_ne (zad q f)];exact q) λc x q=>by rw[upd_ne (zad q f)];exact q
   rcases d with z|z
   ·rw[z];exact g b u e
   ·exact g c _ z
theorem Inv.turnL {h':Heap}{t':Nat}{ch:List Zh}(I:Inv X pins σ H s)(k:∀b o,b ∉ ch->s.heap.get? b=Za o->h'.get? b=Za o)(h:∀b∈ch,FpOk X pins H b):Inv X pins σ H { s with heap:=h',toks:=t' }:=by
 have f:∀b u,H b=Za u->b ∉ ch:=λb u e d=>by rw[(h b d).1] at e;cases e
 refine I.step (g':=s.gens) (d':=s.drawn) (ch:=ch) (λb d=>⟨(h b d).2.2.2.1,(h b d).2.1,(h b d).2.2.2.2.1,(h b d).2.2.2.2.2⟩) (λb o _ _ a e _=>k b o a e) (λb o _ _ a e _=>⟨o.slots,k b o a e⟩) (λb u _ e n=>n)
  (λb u a e=>⟨u,k b u a e⟩) (λb x e=>e) (λb u x e=>e) (λb p e=>⟨#[],by rw[e];simp⟩) (λm i=>?_) (λb u e=>?_) I.bare
 ·obtain⟨o,g,l,j,r⟩:=i;exact⟨o,g,l,k _ o (λz=>(h _ z).2.1 rfl) j,r⟩
 ·refine (I.hok b u e).stay (λc v a q=>k c v ?_ q) (λc q=>q) λc x q=>q;rcases a with z|z
  ·rw[z];exact f b u e
  ·exact f c _ z
end
noncomputable def Ite (K:Zg) (a:Zh):It :=
 ⟨λi H=>∃b x,SqL K H a b/\b[i]?=Za x,λi H x c=>∃p v,x=.ref p/\H p=Zb/\c=upd H p (.tup [.int i,v])/\∀b,SqL K H a b->b[i]?=Za v,λi H=>∃b,SqL K H a b/\b.length<=i⟩
theorem zt0 {P:Program}{w:World}{K:Zg}{es:List Zi}{x1}{px:Pos}(a e it:Zh)(C:e≠it):Turn P w K (.Tuple es x1 px) (Ite K a) [e,it] e (λi h=>(∃old,IsEnum h e it i old)/\h.IsListIter it a i) where
 mem:=by simp
 obj:=λi h l b f=>by
  nofun;obtain⟨⟨old,m⟩,o,hi,c,d⟩:=l;ac_rfl;rcases Ar.mp f with rfl|f
  ·exact⟨_,m,λv z=>by cases z⟩
  ·have:b=it:=by simpa using f
   subst this;exact⟨o,hi,λv z=>by rw[d] at z;cases z⟩
 keep:=λi h T l k=>⟨let ⟨old,m⟩:=l.1;⟨old,k e (by simp) _ m⟩,l.2.at λo z=>k it (by simp) o z⟩
 item:=by
  intro X J M O R i pins s σ H E I D l N;subst J M O;nofun;obtain⟨xs,x,F,G⟩:=N;obtain⟨L,Q,p,hz⟩:=I.list F;obtain⟨u,hu,ru⟩:=Q.get G;obtain⟨⟨old,m⟩,n⟩:=l;ac_rfl;refine wpAny_pyNext_enum_item m n p.isList (x:=u) (by simpa using hu) C λT W t V U Y=>⟨_,rfl,?_⟩;refine wpAny_letOwnedTupleGo_enum W λB r g=>?_;have kk:∀b o,b ∉ [e,it]->s.heap.get? b=Za o->B.get? b=Za o:=λb o f q=>by
   have S:b≠e:=λz=>f (by simp [z]);have h2:b≠it:=λz=>f (by simp [z]);exact (g.2 b S).trans (Y b o S h2 q)
  have A:s.heap.objs.size≠e:=λz=>absurd (Aj m) (by rw[z];exact Cg _);have j:B.IsListIter it a (i+1):=t.at λo y=>(g.2 it C.symm).trans y;refine⟨.ref s.heap.objs.size,upd H s.heap.objs.size (.tup [.int i,x]),I.turnLay kk (λb f=>?_) D (Ag _) ⟨by show 2<=sizeLine;decide,[.int i s.toks,u],.cons ⟨_,rfl⟩ (.cons ru .nil),?_⟩,rfl,⟨_,x,rfl,I.hok.fresh (Ag _),rfl,λys hy=>by rw[I.list_inj hy F];exact G⟩,⟨⟨_,by simpa using r⟩,j⟩,λb f=>?_⟩
  ·rcases Ar.mp f with rfl|f
   ·exact⟨_,r⟩
   ·have:b=it:=by simpa using f
    subst this;obtain⟨o,z,_⟩:=j;exact⟨o,z⟩
  ·exact⟨_,(g.2 _ A).trans V,rfl,_,rfl⟩
  ·have:b≠s.heap.objs.size:=by
    rcases Ar.mp f with rfl|f
    ·exact A.symm
    ·have e2:b=it:=by simpa using f
     subst e2;obtain⟨o,z,_⟩:=n;exact Aw (Aj z)
   rw[upd_ne this];exact (D b f).1
 done:=by
  intro X J M O R i pins s σ H E I D l N;subst J M O;nofun;obtain⟨xs,F,G⟩:=N;obtain⟨L,Q,p,hz⟩:=I.list F;obtain⟨⟨old,m⟩,n⟩:=l;obtain⟨f0,f1,f2,f3,f4,f5⟩:=D it (by simp);ac_rfl;have hl:=Q.length;exact wpAny_pyNext_enum_end (I.ok.hd R) m n p.isList (Cb (by simp;omega)) λT Z=>⟨rfl,I.turned (t':=s.toks) (λb o f e=>Z b o f e) f0 f1 f3 f4 f5⟩
 self:=λ_ _ _ _ _ l h=>let ⟨_,m⟩:=l.1;Ip m h
section
variable {X:Cx}
end
section
variable {X:Cx}{tg:Zi}
end
section
variable {κ:Type} [DecidableEq κ]
noncomputable def valV (kvs:List (κ×V)) (k:κ):Option V:=(kvs.find? λa=>decide (a.1=k)).map (·.2)
noncomputable def putK (kvs:List (κ×V)) (k:κ) (v:V):List (κ×V) :=
 if (kvs.any λa=>decide (a.1=k))=Zd then kvs.map (λa=>if a.1=k then (a.1,v) else a) else kvs++[(k,v)]
theorem zgd {p:κ×V}{r:List (κ×V)}{k:κ}(e:p.1=k):valV (p::r) k=Za p.2:=by simp [valV,Ef,e]
theorem zfy {p:κ×V}{r:List (κ×V)}{k:κ}(e:¬ p.1=k):valV (p::r) k=valV r k:=by simp [valV,Ef,e]
theorem zq2 (k:κ):∀kvs:List (κ×V),(kvs.any λa=>decide (a.1=k))=(valV kvs k).isSome
 |[]=>rfl
 | p::r=>by
  rw[Cn];by_cases e:p.1=k
  ·simp only [zgd e,An e,Bool.true_or,Option.isSome_some]
  ·rw[zfy e,Bc e,Bool.false_or];exact zq2 k r
theorem zd0 (kvs:List (κ×V))(k:κ)(v:V):(putK kvs k v).length<=kvs.length+1:=by
 unfold putK;split
 ·rw[Ad];omega
 ·rw[Ax,Bd,Ee];omega
theorem RelO.isSome_eq {o:Option V}{u:Option Ze} (r:RelO o u):o.isSome=u.isSome:=by
 cases o with
 | none=>cases u with
  |none=>rfl
  |some _=>exact (show False from r).elim
 | some _=>cases u with
  |none=>exact (show False from r).elim
  |some _=>rfl
theorem RelO.getD {o:Option V}{u:Option Ze}{d:V}{d':Ze} (r:RelO o u) (rd:RelV d d'):RelV (o.getD d) (u.getD d'):=by
 cases o with
 | none=>cases u with
  |none=>exact rd
  |some _=>exact (show False from r).elim
 | some _=>cases u with
  |none=>exact (show False from r).elim
  |some _=>exact r
theorem KV.val {kvs:List (κ×V)}{vs:List (κ×Ze)} (r:KV kvs vs) (k:κ):RelO (valV kvs k) (valueAt vs k):=by
 unfold KV at r
 induction r with
 |nil=>exact True.intro
 | @cons p q g a h t i =>
  obtain⟨d,f⟩:=h;by_cases e:p.1=k
  ·have c:q.1=k:=d.symm.trans e
   have b:valueAt (q::a) k=Za q.2:=by simp [valueAt,Ef,c]
   rw[zgd e,b];exact f
  ·have c : ¬ q.1=k:=λz=>e (d.trans z)
   have b:valueAt (q::a) k=valueAt a k:=by simp [valueAt,Ef,c]
   rw[zfy e,b];exact i
theorem KV.any {kvs:List (κ×V)}{vs:List (κ×Ze)}(r:KV kvs vs)(k:κ):(kvs.any λa=>decide (a.1=k))=vs.any λa=>decide (a.1=k):=by
 unfold KV at r
 induction r with
 |nil=>rfl
 |cons h t i=>rw[Cn,Cn,i,h.1]
theorem KV.repl {kvs:List (κ×V)}{vs:List (κ×Ze)} (r:KV kvs vs) (k:κ) {y:V}{u:Ze} (c:RelV y u) :
  KV (kvs.map λa=>if a.1=k then (a.1,y) else a) (vs.map λa=>if a.1=k then (a.1,u) else a):=by
 unfold KV at r ⊢
 induction r with
 |nil=>exact .nil
 | @cons p q f g h t i =>
  rw[Ak,Ak];refine .cons ?_ i;obtain⟨b,d⟩:=h;by_cases e:p.1=k
  ·rw[if_pos e,if_pos (b.symm.trans e)];exact⟨b,c⟩
  ·rw[if_neg e,if_neg (λz=>e (b.trans z))];exact⟨b,d⟩
theorem KV.put {kvs:List (κ×V)}{vs:List (κ×Ze)}(r:KV kvs vs)(k:κ){y:V}{u:Ze}(a:RelV y u):KV (putK kvs k y) (stored vs k u):=by
 unfold putK stored;rw[r.any k];by_cases e:(vs.any λb=>decide (b.1=k))=Zd
 ·rw[if_pos e,if_pos e];exact r.repl k a
 ·rw[if_neg e,if_neg e];exact Paired.snoc r ⟨rfl,a⟩
theorem KV.keys {kvs:List (κ×V)}{vs:List (κ×Ze)}(r:KV kvs vs):kvs.map (·.1)=vs.map (·.1):=by
 unfold KV at r
 induction r with
 |nil=>rfl
 |cons h t i=>rw[Ak,Ak,i,h.1]
theorem KV.length {kvs:List (κ×V)}{vs:List (κ×Ze)}(r:KV kvs vs):kvs.length=vs.length:=Paired.length r
end
theorem zvs {P:Program}{w:World}{k:Key}{u:Ze}(r:RelV (kV k) u):(zak P w).is k u=Zd:=by
 cases k with
 |inl i=>obtain⟨t,e⟩:=(show ∃t,u=Ze.int i t from r);subst e;exact znc P w i t
 |inr x=>obtain⟨t,e⟩:=(show ∃t,u=Ze.str x t from r);subst e;exact zn9 P w x t
theorem zmt {P:Program}{w:World}:∀{a:List Key}{u:List Ze},Vals (a.map kV) u->ItemsAre (zak P w) a u
 |[],_,r=>by rw[Fy] at r;cases r;exact .nil
 | k::a,_,r=>by
  rw[Ak] at r;cases r with
  |cons h t=>exact .cons (zvs h) (zmt t)
noncomputable abbrev KT (H:Hp):List (List Key×V)->List (List Key×Zh×Ze)->Prop:=Paired λp q=>p.1=q.1/\H q.2.1=Za (.tup (p.1.map kV))/\RelV p.2 q.2.2
theorem KT.val {H:Hp}{kvs:List (List Key×V)}{xs:List (List Key×Zh×Ze)} (r:KT H kvs xs) (k:List Key):RelO (valV kvs k) ((atKey xs k).map (·.2)):=by
 induction r with
 |nil=>exact True.intro
 | @cons p q g a h t i =>
  obtain⟨d,_,f⟩:=h;by_cases e:p.1=k
  ·have c:q.1=k:=d.symm.trans e
   have b:atKey (q::a) k=Za q.2:=by simp [atKey,Ef,c]
   rw[zgd e,b];exact f
  ·have c : ¬ q.1=k:=λz=>e (d.trans z)
   have b:atKey (q::a) k=atKey a k:=by simp [atKey,Ef,c]
   rw[zfy e,b];exact i
theorem KT.repl {H:Hp}{kvs:List (List Key×V)}{xs:List (List Key×Zh×Ze)} (r:KT H kvs xs) (k:List Key) {y:V}{u:Ze} (f:RelV y u) :
  KT H (kvs.map λb=>if b.1=k then (b.1,y) else b) (xs.map (putAt k u)):=by
 induction r with
 |nil=>exact .nil
 | @cons p q g j h t i =>
  rw[Ak,Ak];refine .cons ?_ i;obtain⟨a,c,d⟩:=h;unfold putAt;by_cases e:p.1=k
  ·rw[if_pos e,if_pos (a.symm.trans e)];exact⟨a,c,f⟩
  ·rw[if_neg e,if_neg (λz=>e (a.trans z))];exact⟨a,c,d⟩
theorem KT.put {H:Hp}{kvs:List (List Key×V)}{xs:List (List Key×Zh×Ze)} (r:KT H kvs xs) (k:List Key) {b:Zh}{y:V}{u:Ze} (h:H b=Za (.tup (k.map kV))) (a:RelV y u) :
  KT H (putK kvs k y) (storedH xs k b u):=by
 have e:(kvs.any λc=>decide (c.1=k))=(atKey xs k).isSome:=by
  rw[zq2,(r.val k).isSome_eq,Option.isSome_map]
 unfold putK storedH;rw[e];by_cases q:(atKey xs k).isSome=Zd
 ·rw[if_pos q,if_pos q];exact r.repl k a
 ·rw[if_neg q,if_neg q];exact Paired.snoc r ⟨rfl,h,a⟩
theorem KT.keeps {H H':Hp}{kvs:List (List Key×V)}{xs:List (List Key×Zh×Ze)}(r:KT H kvs xs)(h:∀b y,H b=Za (.tup y)->H' b=Za (.tup y)):KT H' kvs xs :=
 Paired.mapP r λ_ _ z=>⟨z.1,h _ _ z.2.1,z.2.2⟩
section
variable {P:Program}{w:World}{H:Hp}{h:Heap}{a:Zh}
theorem rd_of {u:HO}(ok:HOk P w H h)(e:Rd H a u):ObjOk P w H h a u:=e.ok ok
theorem dk_rd {kvs:List (Key×V)}(ok:HOk P w H h)(e:Rd H a (.dK kvs)):kvs.length<=sizeLine/\(a==sysModules)=Zc/\∃v,KV kvs v/\h.DictOf (zak P w) a v :=
 show ObjOk P w H h a (.dK kvs) from rd_of ok e
theorem z5b {kvs:List (Key×V)}(ok:HOk P w H h)(e:H a=Za (.dK kvs)):kvs.length<=sizeLine/\(a==sysModules)=Zc/\∃v,KV kvs v/\h.DictOf (zak P w) a v:=dk_rd ok (.inl e)
theorem zqm {ks:List Key}(ok:HOk P w H h)(e:H a=Za (.tup (ks.map kV))):(tupleKind (zak P w)).is h ks a:=by
 obtain⟨_,i,r,o,c,d,n,b⟩:=(show ObjOk P w H h a (.tup (ks.map kV)) from ok a _ e);exact⟨o,i.toArray,n,c,d,b,by simpa using zmt r⟩
theorem dt_rd {kvs:List (List Key×V)} (ok:HOk P w H h) (e:Rd H a (.dT kvs)):kvs.length<=sizeLine/\(a==sysModules)=Zc /\
  ∃c,KT H kvs c/\h.DictOfH (tupleKind (zak P w)) a c:=by
 obtain ⟨z,y,c,r,o,g,k,s,u,f,j,n⟩:=(show ObjOk P w H h a (.dT kvs) from rd_of ok e);refine ⟨z,y,c,r,o,g,k,s,u,f,j,λx b=>?_,n⟩;have all:∀{l:List (List Key×V)}{m:List (List Key×Zh×Ze)},KT H l m->∀x∈m,(tupleKind (zak P w)).is h x.1 x.2.1:=by
  intro l m q
  induction q with
  |nil=>intro x b;exact nomatch b
  | @cons p q v A d t i =>
   intro x b;rcases Ar.mp b with e|b
   ·subst e
    exact zqm ok (by rw[<-d.1];exact d.2.1)
   ·exact i x b
 exact all r x b
theorem ya5 {kvs:List (List Key×V)} (ok:HOk P w H h) (e:H a=Za (.dT kvs)):kvs.length<=sizeLine/\(a==sysModules)=Zc /\
 ∃x,KT H kvs x/\h.DictOfH (tupleKind (zak P w)) a x:=dt_rd ok (.inl e)
end
noncomputable def DGet (H:Hp) (a:Zh) (y:V) (r:Option V):Prop :=
 (∃kvs k,Rd H a (.dK kvs)/\y=kV k/\r=valV kvs k)\/∃kvs k b,Rd H a (.dT kvs)/\y=.ref b/\H b=Za (.tup (k.map kV))/\r=valV kvs k
noncomputable def DPut (H:Hp) (a:Zh) (y v:V) (H':Hp):Prop :=
 (∃kvs k,H a=Za (.dK kvs)/\y=kV k/\kvs.length<sizeLine/\H'=upd H a (.dK (putK kvs k v))) \/
 ∃kvs k b,H a=Za (.dT kvs)/\y=.ref b/\H b=Za (.tup (k.map kV))/\kvs.length<sizeLine/\H'=upd H a (.dT (putK kvs k v))
section
variable {X:Cx}{pins:List (Zh × Obj)}{σ:St}{H:Hp}{s:Zf}{a:Zh}{y v:V}{u r:Ze}{o:Option V}{A:Around}{E:Ze->Zf->Prop}
theorem Inv.big (I:Inv X pins σ H s):sysModules<s.heap.objs.size:=by
 have h:mainGlobals<s.heap.objs.size:=(I.mod.glob.keeps I.bk).lt;exact Nat.lt_trans #v[0,9] h
theorem zsl {Q:Ze->Zf->Prop} (q:A.units+1<cLine) (I:Inv X pins σ H s) (g:DGet H a y (Za v)) (m:RelV y u) (h:∀w n,Inv X pins σ H n->RelV v w->Q w n) :
  wpAny (model X.prog X.w) A (getItem (.ref a) u) Q E s:=by
 rcases g with⟨kvs,k,e,d,l⟩|⟨kvs,k,b,e,d,D,l⟩
 ·subst d;obtain⟨z,x,B,c,f⟩:=dk_rd I.hok e;obtain⟨w,j,r⟩:=RelO.some_of (v:=v) (o:=valueAt B k) (by rw[l];exact c.val k);exact wpAny_getItem_of (zvs m) f.mapOf j (h w _ (I.tok _) r)
 ·subst d;cases (show u=Ze.ref b from m);obtain⟨z,x,C,c,f⟩:=dt_rd I.hok e;obtain⟨w,j,r⟩:=RelO.some_of (v:=v) (o:=(atKey C k).map (·.2)) (by rw[l];exact c.val k);obtain⟨p,t,i⟩:=Ha.mp j;refine wpAny_getItem_heap (tupleKind_room_in1 q) (zqm I.hok D) f t ?_;rw[i];exact h w _ (I.tok _) r
theorem zg3 {h':Heap}{t':Nat}{ob:HO} (I:Inv X pins σ H s) (m:Mut (H a)) (c:Heap.SameBut a s.heap h') (h:∃q,h'.get? a=Za q) (new:ObjOk X.prog X.w (upd H a ob) h' a ob) :
  Inv X pins σ (upd H a ob) { s with heap:=h',toks:=t' } :=
 I.write (x:=a) (e:=a) m (.inl rfl) (λb q d z=>(c.2 b d).trans z) h new
theorem z0m {P:Program}{w:World}{H':Hp}{h':Heap}{kvs:List (Key×V)}{vs:List (Key×Ze)} (z:kvs.length<=sizeLine) (h:(a==sysModules)=Zc) (r:KV kvs vs) (d:h'.DictOf (zak P w) a vs) :
 ObjOk P w H' h' a (.dK kvs):=⟨z,h,vs,r,d⟩
theorem d_setItem {H':Hp}{Q:Unit->Zf->Prop} (L:A.units+1<cLine) (I:Inv X pins σ H s) (g:DPut H a y v H') (B:RelV y u) (F:RelV v r) (h:∀C,Inv X pins σ H' C->Q () C) :
  wpAny (model X.prog X.w) A (setItem (.ref a) u r) Q E s:=by
 rcases g with⟨kvs,k,e,n,l,m⟩|⟨kvs,k,b,e,n,x,l,m⟩
 ·subst n m;obtain⟨z,p,J,d,t⟩:=z5b I.hok e;have w:J.length<=sizeLine:=by rw[<-d.length];exact z
  have j:(putK kvs k v).length<=sizeLine:=by have:=zd0 kvs k v;omega
  refine wpAny_setItem_pairs (hsz:=w) (zvs B) t λG f o=>h _ ?_;have N:∃q,G.get? a=Za q:=let ⟨q,_,_,i,_⟩:=f;⟨q,i⟩;exact zg3 I (by rw[e];exact True.intro) o N (z0m j p (d.put k F) f)
 ·subst n m;cases (show u=Ze.ref b from B);obtain⟨z,p,O,d,t⟩:=ya5 I.hok e;have w:O.length<=sizeLine:=by rw[<-Paired.length d];exact z
  have j:(putK kvs k v).length<=sizeLine:=by have:=zd0 kvs k v;omega
  refine wpAny_setItem_heap (hsz:=w) (tupleKind_room_in1 L) (zqm I.hok x) t λG f o=>h _ ?_;obtain⟨q,K,R,i,T,M,P,_,S⟩:=f;refine zg3 I (by rw[e];exact True.intro) o ⟨q,i⟩ ⟨j,p,_,(d.put k x F).keeps λc U D=>?_,q,K,R,i,T,M,P,S⟩;rw[upd_ne (zzv D e (λz=>nomatch z))];exact D
end
section
variable {X:Cx}{pins:List (Zh × Obj)}{σ:St}{H:Hp}{s:Zf}{a:Zh}{kvs:List (Key × V)}{k:Key}{u:Ze}{A:Around}{E:Ze->Zf->Prop}
end
theorem zos {X:Cx}{pins:List (Zh×Obj)}{σ:St}{H:Hp}{s:Zf}{a:Zh}{y:V}{o:Option V}(I:Inv X pins σ H s)(g:DGet H a y o):s.TypeIs (.ref a) "dict" := by
 rcases g with⟨kvs,k,e,_,_⟩|⟨kvs,k,b,e,_,_,_⟩
 ·obtain⟨_,_,v,_,d⟩:=dk_rd I.hok e;exact d.typeIs
 ·obtain⟨_,_,x,_,d⟩:=dt_rd I.hok e;exact d.typeIs
section
variable {X:Cx}{o i e value:Zi}{pos pos' tpos:Pos}{td ty tv:TE}
end
theorem zxm {P:Program}{w:World}{H:Hp}(h:Heap)(a:sysModules<h.objs.size):ObjOk P w H (h.push { cls:=.type "dict",data:=.dict #[] }) h.objs.size (.dK []) :=
 ⟨Bi _,beq_eq_false_iff_ne.mpr (Ne.symm (Aw a)),[],.nil,Heap.DictOf.new h⟩
noncomputable def z1l:TE:=λ_ H Q=>∀p,H p=Zb->Q (.ref p) (upd H p (.dK []))
section
variable {X:Cx}{pos:Pos}
theorem zx0:PE X (.Dict [] [] pos) z1l:=λpins s σ H Q I h =>
 wpAny_Dict_empty ⟨.ref s.heap.objs.size,_,I.laid (a:=s.heap.objs.size) (o:=.dK []) (t':=s.toks) (λ_ _ q=>Ab _ q) (Ag _) (zxm s.heap I.big),rfl,h _ (I.hok.fresh (Ag _))⟩
end
noncomputable def zfs (kvs more:List (Key×V)):List (Key×V):=more.foldl (λa k=>putK a k.1 k.2) kvs
theorem KV.merge:∀{more:List (Key×V)}{a:List (Key×Ze)}{kvs:List (Key×V)}{v:List (Key×Ze)},KV more a->KV kvs v->KV (zfs kvs more) (merged v a):=by
 intro more a kvs v r;unfold KV at r
 induction r generalizing kvs v with
 |nil=>intro q;exact q
 | @cons p q c d h t i =>
  intro b;have e:KV (putK kvs p.1 p.2) (stored v q.1 q.2):=by
   have:=b.put p.1 h.2;rw[<-h.1];exact this
  exact i e
theorem zee:∀(more kvs:List (Key×V)),(zfs kvs more).length<=kvs.length+more.length
 |[],kvs=>by show kvs.length<=kvs.length+0;omega
 | p::r,kvs=>by
  have h:=zee r (putK kvs p.1 p.2);have a:=zd0 kvs p.1 p.2;show (zfs (putK kvs p.1 p.2) r).length<=_;rw[Bd];omega
structure M2 (X:Cx) (o:Zi) (m:Str) (apos:Pos) (e f:Zi) (cpos:Pos):Prop where
 base:attributeBase o m X.env (eval o X.env)=eval o X.env
 few:((backTo cpos (starEach [e,f] X.env)).all (λx=>!x.1)&&(backToKw cpos (keywordEach [] X.env)).all (λx=>x.1.isSome)
  && decide (([e,f]:List Zi).length+([]:List Keyword).length+(if ([]:List Keyword).isEmpty then 0 else 1)<30))=Zd
 line:(apos.endLine==cpos.line)=Zd
 trees:backTo cpos (starEach [e,f] X.env)=[(Zc,eval e X.env),(Zc,eval f X.env)]
noncomputable def IsD (H:Hp) (a:Zh):Prop:=(∃kvs,Rd H a (.dK kvs))\/∃kvs,Rd H a (.dT kvs)
theorem z8x {X:Cx}{pins:List (Zh×Obj)}{σ:St}{H:Hp}{s:Zf}{a:Zh} (I:Inv X pins σ H s) (d:IsD H a) :
  s.TypeIs (.ref a) "dict"/\(∀b,Ze.ref a=.ref b->∃ob,s.heap.get? b=Za ob/\ob.dict=Zb)/\(a==sysModules)=Zc:=by
 rcases d with⟨kvs,e⟩|⟨kvs,e⟩
 ·obtain⟨_,h,v,_,c⟩:=dk_rd I.hok e;refine⟨c.typeIs,λb q=>?_,h⟩;cases q;obtain⟨ob,_,_,f,g,_⟩:=c;exact⟨ob,f,g.2.1⟩
 ·obtain⟨_,h,x,_,c⟩:=dt_rd I.hok e;refine⟨c.typeIs,λb q=>?_,h⟩;cases q;obtain⟨ob,_,_,f,g,_⟩:=c;exact⟨ob,f,g.2.1⟩
section
variable {X:Cx}{pins:List (Zh × Obj)}{σ:St}{H:Hp}{s:Zf}{a:Zh}{y d:V}{u r:Ze}{o:Option V}{A:Around}{E:Ze->Zf->Prop}
theorem d_get2 {Q:Ze->Zf->Prop} (p:A.units+1<cLine) (I:Inv X pins σ H s) (g:DGet H a y o) (m:RelV y u) (rd:RelV d r) (h:∀w n,Inv X pins σ H n->RelV (o.getD d) w->Q w n) :
  wpAny (model X.prog X.w) A (call (.builtin "dict.get") [.ref a,u,r]) Q E s:=by
 rcases g with⟨kvs,k,e,i,l⟩|⟨kvs,k,b,e,i,q,l⟩
 ·subst i;obtain⟨z,j,t,c,f⟩:=dk_rd I.hok e;refine call_meetsIn PySem.F.slot_dict_get f.typeIs PySem.F.entry_dict_get (PySem.F.args_dict_get_3 _ _ _) (meets_dict_get_default (zak X.prog X.w) a (zvs m) j r) ⟨_,f.mapOf,h _ _ (I.tok _) ?_⟩;rw[l];exact (c.val k).getD rd
 ·subst i;cases (show u=Ze.ref b from m);obtain⟨z,j,x,c,f⟩:=dt_rd I.hok e;refine call_meetsIn PySem.F.slot_dict_get f.typeIs PySem.F.entry_dict_get (PySem.F.args_dict_get_3 _ _ _) (meetsH_dict_get_default (tupleKind (zak X.prog X.w)) a b j r) ⟨tupleKind_room_in1 p,k,x,zqm I.hok q,f,h _ _ (I.tok _) ?_⟩;rw[l];exact (c.val k).getD rd
end
section
variable {X:Cx}{o e f:Zi}{apos cpos:Pos}{td ty tx:TE}
end
section
variable {X:Cx}{pins:List (Zh × Obj)}{σ:St}{H:Hp}{s:Zf}{a:Zh}{kvs:List (Key × V)}{A:Around}{E:Ze->Zf->Prop}
end
section
variable {X:Cx}{pins:List (Zh × Obj)}{σ:St}{H:Hp}{s:Zf}{a:Zh}{y:V}{u:Ze}{A:Around}{E:Ze->Zf->Prop}
end
section
variable {X:Cx}
theorem z8q {bs:List Bool}{a:List Ze}{i:Nat}{v:Ze}(r:Vals (bs.map V.bl) a)(h:a[i]?=Za v):∃b,bs[i]?=Za b/\v=.bool b:=by
 have e:=r.length;rw[Ad] at e;have d:i<bs.length:=by rw[e];exact (Ai.mp h).1
 obtain⟨u,c,f⟩:=r.get (i:=i) (x:=.bl bs[i]) (by rw[At,Af d];rfl);rw[h] at c;obtain rfl:=sI c;exact⟨bs[i],Af d,f⟩
theorem zjx {bs:List Bool}{i:Nat}(h:i<bs.length):bs.getD i Zc=bs[i]:=by rw[Dz,Af h];rfl
theorem zut (bs:List Bool):((List.range bs.length).any λi=>bs.getD i Zc)=bs.any id:=by
 rw[Eg,Dj,Dj];constructor
 ·rintro ⟨i,a,h⟩;rw[Cj] at a;refine⟨bs[i],Ga a,?_⟩;rw[zjx a] at h;exact h
 ·rintro ⟨b,c,h⟩;obtain⟨i,a,e⟩:=Ch.mp c;refine⟨i,Cj.mpr a,?_⟩;rw[zjx a,e];exact h
theorem zsr (bs:List Bool):((List.range bs.length).all λi=>bs.getD i Zc)=bs.all id:=by
 rw[Eg,Bf,Bf];constructor
 ·intro h b c;obtain⟨i,a,e⟩:=Ch.mp c;have:=h i (Cj.mpr a);rw[zjx a,e] at this;exact this
 ·intro h i a;rw[Cj] at a;rw[zjx a];exact h _ (Ga a)
theorem zp9 {P:Program}{w:World}{A:Around}{bs:List Bool}{a:List Ze}(r:Vals (bs.map V.bl) a):TruthOf P w A (λi v=>a.toArray[i]?=Za v) (λi=>bs.getD i Zc):=λi v s Q E c d=>by
 obtain⟨b,f,e⟩:=z8q r (by simpa using c);subst e;have:bs.getD i Zc=b:=by rw[Dz,f];rfl
 have h:Q (bs.getD i Zc) s:=d;rw[this] at h;exact Ge h
theorem zxx (g:X.calm=Zd):zcw X (.builtin "any") (λx H Q=>∃(a:Zh) (bs:List Bool),x=[.ref a]/\SqL X.K H a (bs.map V.bl)/\Q (.bl (bs.any id)) H):=by
 intro pins s σ H x n Q I r h;obtain⟨a,bs,rfl,j,q⟩:=h;obtain⟨u,rfl,m⟩:=vals1 r;cases m;obtain⟨i,c,p,v⟩:=I.list j;have l:=c.length;rw[Ad] at l;have f:a<s.heap.objs.size:=by obtain⟨o,e,_⟩:=p.isList;exact Aj e
 refine call_any_walk (Gf p.isList ?_);refine⟨s.heap.objs.size,_,[s.heap.objs.size],i.toArray.size,_,_,_,rfl,Walks.list (A:=X.A.in1) (show X.A.in1.handled=Zb from I.ok.hd g) _ a (Aw f) i.toArray,⟨⟨_,Ah _ rfl,rfl,rfl⟩,p.isList.push _⟩,zp9 c,λw t k=>?_⟩;have e:i.toArray.size=bs.length:=by simp;omega
 rw[e,zut];refine⟨.bl _,H,I.kept λb o d=>?_,rfl,q⟩;exact k b o (by intro z;rw[Ao] at z;subst z;exact absurd (Aj d) (Cg _)) (Ab _ d)
theorem zyb (g:X.calm=Zd):zcw X (.builtin "all") (λx H Q=>∃(a:Zh) (bs:List Bool),x=[.ref a]/\SqL X.K H a (bs.map V.bl)/\Q (.bl (bs.all id)) H):=by
 intro pins s σ H x n Q I r h;obtain⟨a,bs,rfl,j,q⟩:=h;obtain⟨u,rfl,m⟩:=vals1 r;cases m;obtain⟨i,c,p,v⟩:=I.list j;have l:=c.length;rw[Ad] at l;have f:a<s.heap.objs.size:=by obtain⟨o,e,_⟩:=p.isList;exact Aj e
 refine call_all_walk (Gf p.isList ?_);refine⟨s.heap.objs.size,_,[s.heap.objs.size],i.toArray.size,_,_,_,rfl,Walks.list (A:=X.A.in1) (show X.A.in1.handled=Zb from I.ok.hd g) _ a (Aw f) i.toArray,⟨⟨_,Ah _ rfl,rfl,rfl⟩,p.isList.push _⟩,zp9 c,λw t k=>?_⟩;have e:i.toArray.size=bs.length:=by simp;omega
 rw[e,zsr];refine⟨.bl _,H,I.kept λb o d=>?_,rfl,q⟩;exact k b o (by intro z;rw[Ao] at z;subst z;exact absurd (Aj d) (Cg _)) (Ab _ d)
theorem zz3:zcw X (.builtin "isinstance") (λa H Q=>∃x t c b,a=[x,.ty c]/\TyOf X.K H x t/\PySem.W.kitOne X.K t (.type c)=Za b/\Q (.bl b) H):=by
 intro pins s σ H a i Q I r h;nofun;obtain⟨x,t,c,b,rfl,ty,e,q⟩:=h;ac_rfl;cases r with
 | cons g f =>
  obtain⟨u,rfl,d⟩:=vals1 f;cases (show u=Ze.type c from d);exact zu5 I g ty e λj=>⟨.bl b,H,I.tok _,rfl,q⟩
theorem z7y:OpR X (compareOp .Is) (λx y H Q=>∃b,y=.bl b/\Q (.bl (decide (x=.bl b))) H):=by
 intro pins s σ H x y v u Q I r a h;obtain⟨b,rfl,q⟩:=h;cases a;cases x with
 |bl c=>cases r;exact Ey rfl (zai I q (by cases b<;>cases c<;>rfl))
 |non=>cases r;exact Ey rfl (zai I q (by cases b<;>rfl))
 |ref _=>cases r;exact Ey rfl (zai I q (by cases b<;>rfl))
 |ty _=>cases r;exact Ey rfl (zai I q (by cases b<;>rfl))
 |int _=>obtain⟨t,e⟩:=r;subst e;exact Ey rfl (zai I q (by cases b<;>rfl))
 |str _=>obtain⟨t,e⟩:=r;subst e;exact Ey rfl (zai I q (by cases b<;>rfl))
 |byt _=>obtain⟨t,e⟩:=r;subst e;exact Ey rfl (zai I q (by cases b<;>rfl))
 |flt _=>obtain⟨t,e⟩:=r;subst e;exact Ey rfl (zai I q (by cases b<;>rfl))
end
noncomputable def z7u (i j:Int):Prop:=Builtin.Int.intBits i<=2^20/\Builtin.Int.intBits j<=2^20
theorem z20 {X:Cx}:OpR X (binaryOp .Mult) (rI z7u λi j=>.int (i*j)):=opI λ_ _ _ _ _ _ _ h q=>mul_int q (IntMulOk.of_bits h.1 h.2)
structure Cal (P:Program) (w:World) (K:Zg) (mg:Str->Option Ze) (base:Heap) (n:Nat) (x:Str) (ps:List Str) (sp:Sp):Prop where
 ex:∃f fd,FnOk P w K mg base CX0 n f fd ps sp/\zlc K fd ps []/\PySem.W.keepIn K (.ref f)=Zd/\mg x=Za (.ref f)
theorem z7q {X:Cx}{n k:Nat}{x:Str}{ps:List Str}{sp:Sp}{e:Zi}{es:List Zi}{t:TA}{p pos:Pos} (C:Cal X.prog X.w X.K X.mg X.base n x ps sp) (j:Room k X.A) (l:Gl X x) (c:PA X (e::es) t) (i:n<=k:=by decide)
  (h:(x==("__debug__" : Str))=Zc:=by decide) (g:starEach (e::es) X.env=(Zc,eval e X.env)::starEach es X.env:=by rfl) (a:(backTo pos (starEach es X.env)).any (·.1)=Zc:=by rfl) :
  PE X (.Call (.Name x p) (e::es) [] pos) (z4w sp [] E0 t):=by
 nofun;obtain⟨f,o,F,b,d,m⟩:=C.ex;ac_rfl;exact z4f F (j.mono i) l m d b .nil z66 c h g a
theorem Same.new {p:Zh}{H:Hp}(h:H p=Zb)(o:HO):Same H (L2.upd H p o):=λb u e=>by rw[upd_ne (zad e h)];exact e
theorem SqL.of' {K:Zg}{H:Hp}{a:Zh}{xs:List V}(h:H a=Za (.lst xs)):SqL K H a xs:=.inl (.inl h)
noncomputable def MM:Int:=2305843009213693951
noncomputable def big:Nat:=1099511627776
noncomputable def Bits (xs:List Int):Prop:=∀x∈xs,x=0\/x=1
noncomputable def zac (xs:List Int):Int:=xs.foldr (λb a=>2*a+b) 0
theorem z6o:bootBuiltins "len" = Za (.builtin "len"):=by decide +kernel
theorem z5r:bootBuiltins "abs" = Za (.builtin "abs"):=by decide +kernel
theorem z6q:bootBuiltins "any" = Za (.builtin "any"):=by decide +kernel
theorem z8a:bootBuiltins "all" = Za (.builtin "all"):=by decide +kernel
theorem zj6:bootBuiltins "isinstance" = Za (.builtin "isinstance"):=by decide +kernel
theorem z03:bootBuiltins "int" = Za (.type "int"):=by decide +kernel
theorem z5h:bootBuiltins "bool" = Za (.type "bool"):=by decide +kernel
theorem z6e:bootBuiltins "str" = Za (.type "str"):=by decide +kernel
theorem zpe:bootBuiltins "tuple" = Za (.type "tuple"):=by decide +kernel
theorem zvf:bootBuiltins "list" = Za (.type "list"):=by decide +kernel
theorem zyl {w:Int}{i:Nat}(a:0<w)(h:w<=2^(200*i)):0<w*10^60/\w*10^60<=2^(200*(i+1)):=by
 have e:(2:Int)^(200*(i+1))=2^(200*i)*2^200:=by rw[Nat.mul_add,Int.pow_add]
 rw[e];refine⟨Int.mul_pos a #v[0,9],?_⟩;have c:w*10^60<=2^(200*i)*10^60:=Int.mul_le_mul_of_nonneg_right h #v[0,9];have b:(2:Int)^(200*i)*10^60<=2^(200*i)*2^200:=Int.mul_le_mul_of_nonneg_left #v[0,9] #v[];omega
theorem zjk {w:Int}{i:Nat}(d:0<=w)(h:w<=2^(200*i))(c:i<=63):Builtin.Int.intBits w<=2^20:=by
 have a:(2:Int)^(200*i)<2^(200*i+1):=by rw[Int.pow_succ];have:(0:Int)<2^(200*i):=Int.pow_pos #v[0,9];omega
 have b:w.natAbs<2^(200*i+1):=by
  have:((w.natAbs:Nat):Int)<((2^(200*i+1):Nat):Int):=by
   rw[Int.natCast_pow];have e:((w.natAbs:Nat):Int)=w:=by omega
   rw[e];exact Int.lt_of_le_of_lt h a
  exact Int.ofNat_lt.mp this
 have:=PyProof.Rows.intBits_le b;omega
theorem zd4:∀{xs:List Int},Bits xs->0<=zac xs/\zac xs<2^xs.length
 |[],_=>by decide
 | x::r,h=>by
  have hx:=h x Az;have ih:=zd4 (xs:=r) λy hy=>h y (Au _ hy);show 0<=2*zac r+x/\2*zac r+x<2^(r.length+1);rw[Int.pow_succ];omega
noncomputable def zae:Zi->Bool
 |.Starred ..=>Zc
 |_=>Zd
theorem zag {e:Zi}{es:List Zi}{env:Env}(h:zae e=Zd):starEach (e::es) env=(Zc,eval e env)::starEach es env:=by
 cases e<;>first|rfl|(cases h)
theorem pac {X:Cx}{e:Zi}{es:List Zi}{te:TE}{t:TA}(a:PE X e te)(b:PA X es t)(h:zae e=Zd:=by rfl):PA X (e::es) (zek te t):=zne a b (zag h)
end L2
namespace L2
theorem noSome {α:Type}{a:α}{P:Prop}(h:Zb=Za a):P:=by cases h
open PySem PySem.Spec PyProof.Rows
noncomputable abbrev DKey:=Key ⊕ List Key
inductive W where
 |non|bl (b:Bool)|int (i:Int)|str (x:Str)|tup (xs:List W)|lst (xs:List W)|frl (xs:List W)|dic|dct (ks:List DKey) (vs:List W)|dcz (ks:List DKey) (vs:List W)
 deriving BEq,Inhabited
mutual
inductive Rep (K:Zg) (F:Hp):W->V->Prop where
 |non:Rep K F .non .non
 |bl (b:Bool):Rep K F (.bl b) (.bl b)
 |int (i:Int):Rep K F (.int i) (.int i)
 |str (x:Str):Rep K F (.str x) (.str x)
 |tup {ws:List W}{a:Zh}{vs:List V} (h:F a=Za (.tup vs)) (r:Reps K F ws vs):Rep K F (.tup ws) (.ref a)
 |lst {ws:List W}{a:Zh}{vs:List V} (h:F a=Za (.lst vs)) (r:Reps K F ws vs):Rep K F (.lst ws) (.ref a)
 |frl {ws:List W}{a:Zh}{vs:List V} (h:SqL K F a vs) (r:Reps K F ws vs):Rep K F (.frl ws) (.ref a)
 |dic {a:Zh}{kvs:List (Key×V)} (h:F a=Za (.dK kvs)):Rep K F .dic (.ref a)
 |dct {a:Zh}{ks:List Key}{ws:List W}{vs:List V} (h:F a=Za (.dK (ks.zip vs))) (hl:ks.length=vs.length) (r:Reps K F ws vs):Rep K F (.dct (ks.map .inl) ws) (.ref a)
 |dctT {a:Zh}{ks:List (List Key)}{ws:List W}{vs:List V} (h:F a=Za (.dT (ks.zip vs))) (hl:ks.length=vs.length) (r:Reps K F ws vs):Rep K F (.dct (ks.map .inr) ws) (.ref a)
 |dcz {a:Zh}{o:Obj}{ks:List Key}{ws:List W}{vs:List V} (h:F a=Za (.frz o (.dK (ks.zip vs)))) (hl:ks.length=vs.length) (r:Reps K F ws vs):Rep K F (.dcz (ks.map .inl) ws) (.ref a)
 |dczT {a:Zh}{o:Obj}{ks:List (List Key)}{ws:List W}{vs:List V} (h:F a=Za (.frz o (.dT (ks.zip vs)))) (hl:ks.length=vs.length) (r:Reps K F ws vs):Rep K F (.dcz (ks.map .inr) ws) (.ref a)
inductive Reps (K:Zg) (F:Hp):List W->List V->Prop where
 |nil:Reps K F [] []
 |cons {w:W}{v:V}{ws:List W}{vs:List V} (h:Rep K F w v) (r:Reps K F ws vs):Reps K F (w::ws) (v::vs)
end
theorem zca {α:Type}{l:List α}{i j:Nat}{x y:α}(a:i<l.length)(h:(l.set i x)[j]?=Za y):(j=i/\y=x)\/(j≠i/\l[j]?=Za y):=by
 by_cases e:j=i
 ·subst e;rw[Dx a] at h;exact .inl ⟨rfl,(sI h).symm⟩
 ·rw[Dh (Ne.symm e)] at h;exact .inr ⟨e,h⟩
theorem zxv {α:Type}{l:List α}{i:Nat}{x:α}(h:l[i]?=Za x):l.set i x=l:=by
 apply Dl;intro j;by_cases e:j=i
 ·subst e;rw[Dx (Ai.mp h).1,h]
 ·rw[Dh (Ne.symm e)]
section
variable {K:Zg}{F F' H H' : Hp}
mutual
theorem Rep.mono (s:Same F F'):∀{w:W}{v:V},Rep K F w v->Rep K F' w v
 |_,_,.non=>.non
 |_,_,.bl b=>.bl b
 |_,_,.int i=>.int i
 |_,_,.str x=>.str x
 |_,_,.tup h r=>.tup (s _ _ h) (Reps.mono s r)
 |_,_,.lst h r=>.lst (s _ _ h) (Reps.mono s r)
 |_,_,.frl h r=>.frl (s.seq h) (Reps.mono s r)
 |_,_,.dic h=>.dic (s _ _ h)
 |_,_,.dct h a r=>.dct (s _ _ h) a (Reps.mono s r)
 |_,_,.dctT h a r=>.dctT (s _ _ h) a (Reps.mono s r)
 |_,_,.dcz h a r=>.dcz (s _ _ h) a (Reps.mono s r)
 |_,_,.dczT h a r=>.dczT (s _ _ h) a (Reps.mono s r)
theorem Reps.mono (s:Same F F'):∀{w:List W}{v:List V},Reps K F w v->Reps K F' w v
 |_,_,.nil=>.nil
 |_,_,.cons h r=>.cons (Rep.mono s h) (Reps.mono s r)
end
theorem Reps.length:∀{w:List W}{v:List V},Reps K F w v->w.length=v.length
 |_,_,.nil=>rfl
 |_,_,.cons _ r=>congrArg (· + 1) (Reps.length r)
theorem Reps.get:∀{a:List W}{b:List V}{i:Nat}{w:W},Reps K F a b->a[i]?=Za w->∃v,b[i]?=Za v/\Rep K F w v
 |_,_,_,_,.nil,e=>by simp at e
 |_,_,0,_,.cons h _,e=>by simp at e;subst e;exact⟨_,rfl,h⟩
 | _,_,i+1,w,.cons _ r,e=>by
  obtain⟨v,d,c⟩:=Reps.get (i:=i) (w:=w) r (by simpa using e);exact⟨v,by simpa using d,c⟩
theorem Reps.getV:∀{a:List W}{b:List V}{i:Nat}{v:V},Reps K F a b->b[i]?=Za v->∃w,a[i]?=Za w/\Rep K F w v
 |_,_,_,_,.nil,e=>by simp at e
 |_,_,0,_,.cons h _,e=>by simp at e;subst e;exact⟨_,rfl,h⟩
 | _,_,i+1,v,.cons _ r,e=>by
  obtain⟨w,d,c⟩:=Reps.getV (i:=i) (v:=v) r (by simpa using e);exact⟨w,by simpa using d,c⟩
theorem Reps.append:∀{x y:List W}{u w:List V},Reps K F x u->Reps K F y w->Reps K F (x++y) (u++w)
 |_,_,_,_,.nil,s=>s
 |_,_,_,_,.cons h r,s=>.cons h (Reps.append r s)
theorem Reps.take:∀{x:List W}{u:List V} (n:Nat),Reps K F x u->Reps K F (x.take n) (u.take n)
 |_,_,0,_=>.nil
 |_,_,_+1,.nil=>.nil
 |_,_,n+1,.cons h r=>.cons h (Reps.take n r)
theorem Reps.drop:∀{x:List W}{u:List V} (n:Nat),Reps K F x u->Reps K F (x.drop n) (u.drop n)
 |_,_,0,r=>r
 |_,_,_+1,.nil=>.nil
 |_,_,n+1,.cons _ r=>Reps.drop n r
theorem Reps.set {w:W}{v:V}(h:Rep K F w v):∀{x:List W}{u:List V} (i:Nat),Reps K F x u->Reps K F (x.set i w) (u.set i v)
 |_,_,_,.nil=>.nil
 |_,_,0,.cons _ r=>.cons h r
 |_,_,i+1,.cons q r=>.cons q (Reps.set h i r)
theorem Reps.rep {xs:List W}{us:List V}(r:Reps K F xs us):∀k:Nat,Reps K F (List.replicate k xs).flatten (List.replicate k us).flatten
 |0=>.nil
 |k+1=>by rw[Da,Da,El,El];exact r.append (r.rep k)
noncomputable def isIt:W->V->Prop
 |.int i,v=>v=.int i
 |.bl b,v=>v=.bl b
 |_,_=>True
theorem Rep.isIt {w:W}{v:V}(h:Rep K F w v):isIt w v:=by cases h<;>first|rfl|trivial
theorem Reps.uncons {w:W}{ws:List W}{vs:List V}(h:Reps K F (w::ws) vs):∃v u,vs=v::u/\Rep K F w v/\Reps K F ws u:=by
 cases h with
 |cons h r=>exact⟨_,_,rfl,h,r⟩
theorem Reps.ints:∀{a:List Int}{b:List V},Reps K F (a.map W.int) b->b=a.map V.int:=by
 intro a
 induction a with
 |nil=>intro b h;cases h;rfl
 | cons n a i =>
  intro b h;obtain⟨v,u,e,c,d⟩:=Reps.uncons h;rw[e,i d,show v=.int n from c.isIt];rfl
theorem Reps.ofInts:∀(a:List Int),Reps K F (a.map W.int) (a.map V.int)
 |[]=>.nil
 |n::a=>.cons (.int n) (Reps.ofInts a)
theorem Reps.bls:∀{bs:List Bool}{a:List V},Reps K F (bs.map W.bl) a->a=bs.map V.bl:=by
 intro b
 induction b with
 |nil=>intro a h;cases h;rfl
 | cons n b i =>
  intro a h;obtain⟨v,u,e,c,d⟩:=Reps.uncons h;rw[e,i d,show v=.bl n from c.isIt];rfl
noncomputable abbrev En:=List (Option (W×Bool))
noncomputable abbrev Prt:=Zh->HO->Prop
inductive OwnR (K:Zg) (F:Hp):W->HO->Prop where
 |lst {ws:List W}{vs:List V} (r:Reps K F ws vs):OwnR K F (.lst ws) (.lst vs)
 |dct {ks:List Key}{ws:List W}{vs:List V} (hl:ks.length=vs.length) (r:Reps K F ws vs):OwnR K F (.dct (ks.map .inl) ws) (.dK (ks.zip vs))
 |dctT {ks:List (List Key)}{ws:List W}{vs:List V} (hl:ks.length=vs.length) (r:Reps K F ws vs):OwnR K F (.dct (ks.map .inr) ws) (.dT (ks.zip vs))
theorem OwnR.mono {w:W}{o:HO}(s:Same F F')(h:OwnR K F w o):OwnR K F' w o:=by
 cases h with
 |lst r=>exact .lst (r.mono s)
 |dct a r=>exact .dct a (r.mono s)
 |dctT a r=>exact .dctT a (r.mono s)
theorem OwnR.rep {w:W}{o:HO}{a:Zh}(h:OwnR K F w o)(e:F a=Za o):Rep K F w (.ref a):=by
 cases h with
 |lst r=>exact .lst e r
 |dct b r=>exact .dct e b r
 |dctT b r=>exact .dctT e b r
theorem OwnR.list {ws:List W}{o:HO}(h:OwnR K F (.lst ws) o):∃v,o=.lst v/\Reps K F ws v:=by
 cases h with
 |lst r=>exact⟨_,rfl,r⟩
noncomputable def lams:List Str:=["_law_terms","_law_in_order","_law_poly_of","voted_terms","law"]
noncomputable def lamQ (x:Str):Str:=x++".<locals>."++"<lambda>"
noncomputable def zdb (c:Zh) (q:Str) (h:Heap):Prop:=∃oc v t,h.get? c=Za oc/\oc.data=.fields v/\v[1]?=Za (.str q t)
noncomputable def z5i (K:Zg):Prop:=∀x∈lams,∀a∈lams,∀c b P,PySem.W.tabIn K x=Za (c,P)->PySem.W.tabIn K a=Za (b,P)->x=a
noncomputable def NoT (p:Prt):Prop:=∀b x,¬ p b (.tup x)
noncomputable def zrl (K:Zg) (F:Hp) (b:Prt) (H:Hp):Prop:=(z5i K/\NoT b)/\∀x∈lams,∀c P,PySem.W.tabIn K x=Za (c,P)->∃p:Array Ze,H P=Za (.tbl p)/\F P=Zb/\(∀o,¬ b P o)/\TriplesOk p.toList /\
 ∀pos d,codeAmong pos p.toList=Za d->∃a,d=.ref a/\F a=Za (.ext (zdb a (lamQ x)))
theorem zrl.go {F g H H':Hp}{h a:Prt}(T:zrl K F h H)(h4:∀b d,a b (.tup d)->h b (.tup d))(j:∀b p,H b=Za (.tbl p)->F b=Zb->H' b=Za (.tbl p)/\g b=Zb)(w:Same F g)(r:∀b p,H b=Za (.tbl p)->(∀o,¬ h b o)->∀o,¬ a b o):zrl K g a H':=⟨⟨T.1.1,λb d z=>T.1.2 b d (h4 b d z)⟩,λx m c P e=>by
 nofun;obtain⟨p,f,i,n,v,u⟩:=T.2 x m c P e;ac_rfl;refine⟨p,(j P p f i).1,(j P p f i).2,r P p f n,v,λpos l q=>?_⟩;obtain⟨s,k,t⟩:=u pos l q;exact⟨s,k,w _ _ t⟩⟩
structure Rel (K:Zg) (F:Hp) (pr:Prt) (en:En) (σ:St) (H:Hp):Prop where
 len:en.length=σ.length
 sub:Same F H
 val:∀(i:Nat) (w:W),en[i]?=Za (#v[w,6])->∃v,σ[i]?=Za (Za v)/\Rep K F w v
 own:∀(i:Nat) (w:W),en[i]?=Za (#v[w,5])->∃(a:Zh) (o:HO) (w':W),w=w'/\σ[i]?=Za (Za (V.ref a))/\H a=Za o/\F a=Zb/\OwnR K F w' o
 inj:∀(i j:Nat) (a:Zh) (w w':W),en[i]?=Za (#v[w,5])->en[j]?=Za (#v[w',5])->σ[i]?=Za (Za (V.ref a))->σ[j]?=Za (Za (V.ref a))->i=j
 prt:∀b o,pr b o->H b=Za o/\F b=Zb/\∀(i:Nat) (w:W),en[i]?=Za (#v[w,5])->σ[i]?≠Za (Za (V.ref b))
 tb:zrl K F pr H
noncomputable def Res (K:Zg) (F H:Hp) (p:Prt) (en:En) (σ:St):W×Bool->V->Prop
 |(w,Zc),v=>Rep K F w v
 |(w,Zd),v=>∃(a:Zh) (o:HO) (c:W),w=c/\v=V.ref a/\H a=Za o/\F a=Zb/\OwnR K F c o/\(∀(i:Nat) (c:W),en[i]?=Za (#v[c,5])->σ[i]?≠Za (Za (V.ref a)))/\∀b o,p b o->b≠a
noncomputable def RepB (K:Zg) (F H:Hp) (w:W) (v:V):Prop:=Rep K F w v\/∃(a:Zh) (o:HO) (b:W),w=b/\v=V.ref a/\H a=Za o/\OwnR K F b o
inductive Out (K:Zg) (F H:Hp):W×Bool->V->Hp->Prop where
 |val {w:W}{v:V} (r:Rep K F w v):Out K F H (w,Zc) v H
 |lst {p:Zh}{ws:List W}{vs:List V} (n:H p=Zb) (r:Reps K F ws vs):Out K F H (.lst ws,Zd) (.ref p) (upd H p (.lst vs))
 |tup {p:Zh}{ws:List W}{vs:List V} (n:H p=Zb) (r:Reps K F ws vs):Out K F H (.tup ws,Zc) (.ref p) (upd H p (.tup vs))
theorem Same.upd_both {F H:Hp}(s:Same F H)(p:Zh)(o:HO):Same (upd F p o) (upd H p o):=λb u e=>by
 by_cases h:b=p
 ·subst h;rw[upd_same] at e ⊢;exact e
 ·rw[upd_ne h] at e ⊢;exact s _ _ e
variable {pr:Prt}{en:En}{σ:St}
theorem Rel.lay (R:Rel K F pr en σ H){p:Zh}(j:H p=Zb)(o:HO):Rel K F pr en σ (upd H p o):=by
 have ne:∀a u,H a=Za u->a≠p:=λa u e=>zad e j;refine⟨R.len,R.sub.trans (Same.new j o),R.val,λi w e=>?_,R.inj,λq k s=>?_,R.tb.go (λ_ _ z=>z) (λb l e f=>⟨by rw[upd_ne (ne b _ e)];exact e,f⟩) (.refl F) λb l e h=>h⟩
 ·refine aG λG qG => ?_;obtain⟨a,v,n,d,g,c,m,r⟩:=R.own i w e;ac_rfl;exact⟨a,v,n,d,g,by rw[upd_ne (ne a _ c)];exact c,m,r⟩
 ·obtain⟨d,g,c⟩:=R.prt q k s;exact⟨by rw[upd_ne (ne _ _ d)];exact d,g,c⟩
theorem Rel.layF (R:Rel K F pr en σ H){p:Zh}(j:H p=Zb)(o:HO):Rel K (upd F p o) pr en σ (upd H p o):=by
 have ne:∀a u,H a=Za u->a≠p:=λa u e=>zad e j;have fp:F p=Zb:=R.sub.free j;have s:Same F (upd F p o):=Same.new fp o;refine⟨R.len,R.sub.upd_both p o,λi w e=>?_,λi w e=>?_,R.inj,λq k x=>?_,R.tb.go (λ_ _ z=>z) (λb l e f=>⟨by rw[upd_ne (ne b _ e)];exact e,by rw[upd_ne (ne b _ e)];exact f⟩) s λb l e h=>h⟩
 ·obtain⟨v,c,g⟩:=R.val i w e;exact⟨v,c,g.mono s⟩
 ·refine aG λG qG => ?_;obtain⟨a,n,r,c,g,d,m,t⟩:=R.own i w e;ac_rfl;exact⟨a,n,r,c,g,by rw[upd_ne (ne a _ d)];exact d,by rw[upd_ne (ne a _ d)];exact m,t.mono s⟩
 ·obtain⟨c,g,d⟩:=R.prt q k x;exact⟨by rw[upd_ne (ne _ _ c)];exact c,by rw[upd_ne (ne _ _ c)];exact g,d⟩
theorem Out.close {r:W×Bool}{v:V} (R:Rel K F pr en σ H) (o:Out K F H r v H'):∃b,Same F b/\Rel K b pr en σ H'/\Res K b H' pr en σ r v:=by
 cases o with
 |val r=>exact⟨F,.refl F,R,r⟩
 | @lst p w c n r =>
  refine⟨F,.refl F,R.lay n _,p,_,_,rfl,rfl,upd_same,R.sub.free n,.lst r,λi f e z=>?_,λq d j z=>?_⟩
  ·obtain ⟨a,c,w,m,g,h,k,l⟩:=R.own i f e
   rw[g] at z;cases z;rw[n] at h;exact noSome h
  ·have:=(R.prt q d j).1
   rw[z,n] at this;exact noSome this
 |@tup p w c n r=>exact⟨upd F p (.tup c),Same.new (R.sub.free n) _,R.layF n _,.tup upd_same (r.mono (Same.new (R.sub.free n) _))⟩
theorem Out.mono {r:W×Bool}{v:V}(s:Same F F')(o:Out K F H r v H'):Out K F' H r v H':=by
 cases o with
 |val r=>exact .val (r.mono s)
 |lst n r=>exact .lst n (r.mono s)
 |tup n r=>exact .tup n (r.mono s)
theorem Res.freeze {r:W×Bool}{v:V} (R:Rel K F pr en σ H) (h:Res K F H pr en σ r v):∃l,Same F l/\Rel K l pr en σ H/\Rep K l r.1 v:=by
 obtain⟨w,b⟩:=r;cases b with
 |false=>exact⟨F,.refl F,R,h⟩
 | true =>
  nofun;obtain⟨a,g,L,rfl,rfl,y,G,x,D,E⟩:=h;ac_rfl;have s:Same F (upd F a g):=Same.new G _;have B:∀p,g≠.tbl p:=λp z=>by cases x<;>cases z
  refine⟨upd F a g,s,⟨R.len,λb u e=>?_,λi w e=>?_,λi w e=>?_,R.inj,λq o t=>?_,R.tb.go (λ_ _ z=>z) (λb p e f=>⟨e,by rw[upd_ne (λz=>by subst z;rw[y] at e;exact B p (sI e))];exact f⟩) s λb p e h=>h⟩,(x.mono s).rep upd_same⟩
  ·by_cases A:b=a
   ·subst A;rw[upd_same] at e;obtain rfl:=sI e;exact y
   ·rw[upd_ne A] at e;exact R.sub _ _ e
  ·obtain ⟨v,d,c⟩:=R.val i w e
   exact⟨v,d,c.mono s⟩
  ·refine aG λJ qG => ?_
   obtain⟨n,k,m,d,c,j,I,C⟩:=R.own i w e;ac_rfl;have ne:n≠a:=λz=>by subst z;exact D i w e c
   exact⟨n,k,m,d,c,j,by rw[upd_ne ne];exact I,C.mono s⟩
  ·obtain ⟨d,c,j⟩:=R.prt q o t
   exact⟨d,by rw[upd_ne (E q o t)];exact c,j⟩
theorem Rel.freeze (R:Rel K F pr en σ H) {i:Nat}{w:W}{v:V}{I:Bool} (e:en[i]?=Za (Za (w,I))) (n:σ[i]?=Za (Za v)):∃A,Same F A/\Rel K A pr (en.set i (Za (w,Zc))) σ H/\Rep K A w v:=by
 have U:i<en.length:=(Ai.mp e).1;cases I with
 | false =>
  obtain⟨E,J,r⟩:=R.val i w e;rw[n] at J;cases J;refine⟨F,.refl F,?_,r⟩;rw[zxv e];exact R
 | true =>
  nofun;obtain⟨a,t,ws,e0,r,G,Z,C⟩:=R.own i w e;ac_rfl;subst e0;rw[n] at r;cases r;have s:Same F (upd F a t):=Same.new Z _;have N:∀p,t≠.tbl p:=λp z=>by cases C<;>cases z
  have g:∀j c b,(en.set i (Za (w,Zc)))[j]?=Za (Za (c,b))->(j=i/\c=w/\b=Zc)\/(j≠i/\en[j]?=Za (Za (c,b))):=λj c b h=>by
   rcases zca U h with⟨z,q⟩|z
   ·cases q;exact .inl ⟨z,rfl,rfl⟩
   ·exact .inr z
  refine⟨upd F a t,s,⟨by rw[Ed];exact R.len,λb u d=>?_,λj c d=>?_,λj c d=>?_,λj k b T Y e1 P=>?_,λq O S=>?_,R.tb.go (λ_ _ z=>z) (λb p e f=>⟨e,by rw[upd_ne (λz=>by subst z;rw[G] at e;exact N p (sI e))];exact f⟩) s λb p e h=>h⟩,(C.mono s).rep upd_same⟩
  ·by_cases L:b=a
   ·subst L;rw[upd_same] at d;obtain rfl:=sI d;exact G
   ·rw[upd_ne L] at d;exact R.sub _ _ d
  ·rcases g j c Zc d with ⟨rfl,rfl,_⟩ | ⟨_,z⟩
   ·exact⟨_,n,(C.mono s).rep upd_same⟩
   ·obtain ⟨E, m,l⟩:=R.val j c z
    exact⟨E,m,l.mono s⟩
  ·rcases g j c Zd d with ⟨_,_,z⟩ | ⟨ne,z⟩
   ·cases z
   ·refine aG λGg qG => ?_
    obtain⟨x,y,B,m,l,o,q4,Q⟩:=R.own j c z;ac_rfl;have D:x≠a:=λq=>by subst q;exact ne (R.inj j i x _ _ z e l n)
    exact⟨x,y,B,m,l,o,by rw[upd_ne D];exact q4,Q.mono s⟩
  ·rcases g j T Zd e1 with ⟨_,_,z⟩ | ⟨_,M⟩
   ·cases z
   ·rcases g k Y Zd P with ⟨_,_,z⟩ | ⟨_,X⟩
    ·cases z
    ·exact R.inj j k b _ _ M X
  ·obtain ⟨m,l,o⟩:=R.prt q O S
   have ne:q≠a:=λz=>by
    have:=o i _ e;rw[n,z] at this;exact this rfl
   refine⟨m,by rw[upd_ne ne];exact l,λj c d=>?_⟩;rcases g j c Zd d with⟨_,_,z⟩|⟨_,z⟩
   ·cases z
   ·exact o j c z
theorem Rel.repB (R:Rel K F pr en σ H) {i:Nat}{w:W}{f:Bool}{v:V} (e:en[i]?=Za (Za (w,f))) (c:σ[i]?=Za (Za v)):RepB K F H w v:=by
 cases f with
 | false =>
  obtain⟨l,h,b⟩:=R.val i w e;rw[c] at h;cases h;exact .inl b
 | true =>
  nofun;obtain⟨a,o,g,h,b,d,k,j⟩:=R.own i w e;ac_rfl;rw[c] at b;cases b;exact .inr ⟨a,o,g,h,rfl,d,j⟩
theorem Rel.has (R:Rel K F pr en σ H){i:Nat}{w:W}{f:Bool}(e:en[i]?=Za (Za (w,f))):∃v,σ[i]?=Za (Za v):=by
 cases f with
 |false=>obtain⟨v,h,_⟩:=R.val i w e;exact⟨v,h⟩
 |true=>obtain⟨a,_,_,_,h,_⟩:=R.own i w e;exact⟨_,h⟩
theorem Rel.store (R:Rel K F pr en σ H){i:Nat}{r:W×Bool}{v:V}(h:Res K F H pr en σ r v)(L:i<en.length):Rel K F pr (en.set i (Za r)) (σ.set i (Za v)) H:=by
 have D:i<σ.length:=by rw[<-R.len];exact L
 have g:∀j x,(en.set i (Za r))[j]?=Za (Za x)->(j=i/\x=r)\/(j≠i/\en[j]?=Za (Za x)):=λj x h=>by
  rcases zca L h with⟨z,q⟩|z
  ·obtain rfl:=sI q;exact .inl ⟨z,rfl⟩
  ·exact .inr z
 have m:(σ.set i (Za v))[i]?=Za (Za v):=Dx D;have s:∀j,j≠i->(σ.set i (Za v))[j]?=σ[j]?:=λj b=>Dh (Ne.symm b);refine⟨by rw[Ed,Ed];exact R.len,R.sub,λj w e=>?_,λj w e=>?_,λj k a Q S N I=>?_,λq G J=>?_,R.tb⟩
 ·rcases g j _ e with⟨rfl,z⟩|⟨b,z⟩
  ·subst z;exact⟨v,m,h⟩
  ·rw[s j b];exact R.val j w z
 ·rcases g j _ e with⟨rfl,z⟩|⟨b,z⟩
  ·subst z;obtain⟨a,p,A,u,f,t,y,B,_⟩:=h;exact⟨a,p,A,u,by rw[m,f],t,y,B⟩
  ·rw[s j b];exact R.own j w z
 ·intro d c;rcases g j _ N with⟨rfl,o⟩|⟨b,o⟩
  ·rcases g k _ I with⟨rfl,l⟩|⟨C,l⟩
   ·rfl
   ·subst o;obtain⟨E,p,A,u,f,t,y,B,n,_⟩:=h;rw[m,f] at d;cases d;rw[s k C] at c;exact absurd c (n k _ l)
  ·rcases g k _ I with⟨rfl,l⟩|⟨C,l⟩
   ·subst l;obtain⟨E,p,A,u,f,t,y,B,n,_⟩:=h;rw[m,f] at c;cases c;rw[s j b] at d;exact absurd d (n j _ o)
   ·rw[s j b] at d;rw[s k C] at c;exact R.inj j k a _ _ o l d c
 ·obtain⟨d,c,M⟩:=R.prt q G J;refine⟨d,c,λj w e=>?_⟩;rcases g j _ e with⟨rfl,z⟩|⟨b,z⟩
  ·subst z;obtain⟨E,p,A,u,f,t,y,B,n,O⟩:=h;rw[m,f];intro P;cases P;exact O q G J rfl
  ·rw[s j b];exact M j w z
theorem Rel.changeO (R:Rel K F pr en σ H){i:Nat}{w c:W}{a:Zh}{C:HO}(e:en[i]?=Za (#v[w,5]))(s:σ[i]?=Za (Za (.ref a)))(r:OwnR K F c C):Rel K F pr (en.set i (#v[c,5])) σ (upd H a C):=by
 have U:i<en.length:=(Ai.mp e).1;nofun;obtain⟨a0,G,ws,h1,L,T,I,J⟩:=R.own i w e;ac_rfl;rw[s] at L;cases L;have M:∀p,G≠.tbl p:=λp z=>by cases J<;>cases z
 have nx:∀φ,G≠.ext φ:=λp z=>by cases J<;>cases z
 have g:∀j x,(en.set i (#v[c,5]))[j]?=Za (Za x)->(j=i/\x=(c,Zd))\/(j≠i/\en[j]?=Za (Za x)):=λj x h=>by
  rcases zca U h with⟨z,q⟩|z
  ·obtain rfl:=sI q;exact .inl ⟨z,rfl⟩
  ·exact .inr z
 refine⟨by rw[Ed];exact R.len,λb u E=>?_,λj m o=>?_,λj m o=>?_,λj k b w1 w2 X P n d=>?_,λq N S=>?_,R.tb.go (λ_ _ z=>z) (λb p e f=>⟨by rw[upd_ne (λz=>by subst z;rw[T] at e;exact M p (sI e))];exact e,f⟩) (.refl F) λb p e h=>h⟩
 ·have:b≠a:=λz=>by subst z;rw[I] at E;cases E
  rw[upd_ne this];exact R.sub _ _ E
 ·rcases g j _ o with⟨_,z⟩|⟨_,z⟩
  ·cases z
  ·exact R.val j m z
 ·rcases g j _ o with⟨rfl,z⟩|⟨O,z⟩
  ·cases z;exact⟨a,C,c,rfl,s,upd_same,I,r⟩
  ·refine aG λZ qG => ?_;obtain⟨y,B,A,n,d,l,Y,Q⟩:=R.own j m z;ac_rfl;have ne:y≠a:=λV=>by subst V;exact O (R.inj j i y _ _ z e d s)
   exact⟨y,B,A,n,d,by rw[upd_ne ne];exact l,Y,Q⟩
 ·have t:∃c,en[j]?=Za (Za (c,Zd)):=by
   rcases g j _ X with⟨rfl,_⟩|⟨_,z⟩
   ·exact⟨_,e⟩
   ·exact⟨_,z⟩
  have D:∃c,en[k]?=Za (#v[c,5]):=by
   rcases g k _ P with⟨rfl,_⟩|⟨_,z⟩
   ·exact⟨_,e⟩
   ·exact⟨_,z⟩
  obtain⟨_,t⟩:=t;obtain⟨_,D⟩:=D;exact R.inj j k b _ _ t D n d
 ·obtain ⟨n,d,l⟩:=R.prt q N S;have ne:q≠a:=λz=>by
   have:=l i _ e;rw[s,z] at this;exact this rfl
  refine⟨by rw[upd_ne ne];exact n,d,λj m o=>?_⟩;rcases g j _ o with⟨rfl,_⟩|⟨_,z⟩
  ·exact l j _ e
  ·exact l j m z
theorem Rel.change (R:Rel K F pr en σ H){i:Nat}{w:W}{a:Zh}{ws':List W}{b:List V}(e:en[i]?=Za (#v[w,5]))(h:σ[i]?=Za (Za (.ref a)))(r:Reps K F ws' b):Rel K F pr (en.set i (#v[ws',2])) σ (upd H a (.lst b)):=R.changeO e h (.lst r)
theorem Rel.ownL (R:Rel K F pr en σ H){i:Nat}{ws:List W}(e:en[i]?=Za (#v[ws,2])):∃(a:Zh) (b:List V) (w:List W),W.lst ws=.lst w/\σ[i]?=Za (Za (V.ref a))/\H a=Za (.lst b)/\F a=Zb/\Reps K F w b:=by
 nofun;obtain⟨a,o,j,d,g,h,c,f⟩:=R.own i _ e;ac_rfl;subst d;obtain⟨b,rfl,r⟩:=f.list;exact⟨a,b,ws,rfl,g,h,c,r⟩
end
end L2
namespace L2
open PySem PySem.Spec PyProof.Rows
noncomputable abbrev GE:=En->Option (En×(W×Bool))
noncomputable abbrev GA:=En->Option (En×(W ⊕ Nat))
noncomputable abbrev GT:=En->Option (En×Bool)
noncomputable abbrev GAs:=En->Option (En×List (W ⊕ Nat))
noncomputable abbrev GL:=En->Option (En×List W)
noncomputable def ArgR (K:Zg) (F:Hp) (σ:St):W ⊕ Nat->V->Prop
 |.inl w,v=>Rep K F w v
 |.inr i,v=>σ[i]?=Za (Za v)
inductive ArgRs (K:Zg) (F:Hp) (σ:St):List (W ⊕ Nat)->List V->Prop where
 |nil:ArgRs K F σ [] []
 |cons {x:W ⊕ Nat}{v:V}{xs:List (W ⊕ Nat)}{vs:List V} (h:ArgR K F σ x v) (r:ArgRs K F σ xs vs):ArgRs K F σ (x::xs) (v::vs)
noncomputable def resA (en:En):W ⊕ Nat->Option W
 |.inl w=>Za w
 | .inr i=>match en[i]? with
  |some (Za (w,_))=>Za w
  |_=>Zb
section
variable {K:Zg}{F F' H:Hp}{pr:Prt}{en:En}{σ:St}
theorem ArgR.mono (s:Same F F'){x:W ⊕ Nat}{v:V}(h:ArgR K F σ x v):ArgR K F' σ x v:=by
 cases x with
 |inl w=>exact Rep.mono s h
 |inr i=>exact h
theorem ArgR.repB (R:Rel K F pr en σ H) {x:W ⊕ Nat}{v:V}{w:W} (h:ArgR K F σ x v) (e:resA en x=Za w):RepB K F H w v:=by
 cases x with
 |inl u=>obtain rfl:=sI e;exact .inl h
 | inr i =>
  unfold resA at e;cases q:en[i]? with
  |none=>simp only [q] at e;exact noSome e
  | some o =>
   cases o with
   |none=>simp only [q] at e;exact noSome e
   | some p =>
    obtain⟨u,f⟩:=p;simp only [q] at e;obtain rfl:=sI e;exact R.repB q h
end
noncomputable def tE (K:Zg) (g:GE):TE:=λσ H Q=>∃F pr en e r,Rel K F pr en σ H/\g en=Za (e,r)/\∀a b v,Same F a->Rel K a pr e σ b->Res K a b pr e σ r v->Q v b
noncomputable def tA (K:Zg) (g:GA):TE:=λσ H Q=>∃F pr en e x,Rel K F pr en σ H/\g en=Za (e,x)/\∀a b v,Same F a->Rel K a pr e σ b->ArgR K a σ x v->Q v b
noncomputable def tT (K:Zg) (g:GT):TT:=λσ H Q=>∃F pr en e b,Rel K F pr en σ H/\g en=Za (e,b)/\∀a c,Same F a->Rel K a pr e σ c->Q b c
noncomputable def tAs (K:Zg) (g:GAs):TA:=λσ H Q=>∃F pr en e x,Rel K F pr en σ H/\g en=Za (e,x)/\∀a b v,Same F a->Rel K a pr e σ b->ArgRs K a σ x v->Q v b
theorem PE.wk {X:Cx}{e:Zi}{t t':TE}(h:PE X e t)(i:∀σ H Q,t' σ H Q->t σ H Q):PE X e t':=λpins s σ H Q I q=>h pins s σ H Q I (i σ H Q q)
theorem PT.wk {X:Cx}{e:Zi}{t t':TT}(h:PT X e t)(i:∀σ H Q,t' σ H Q->t σ H Q):PT X e t':=λpins s σ H Q I q=>h pins s σ H Q I (i σ H Q q)
theorem PW.wk {X:Cx}{e:Zi}{t t':TT}(h:PW X e t)(i:∀σ H Q,t' σ H Q->t σ H Q):PW X e t':=λw pins s σ H Q I q=>h w pins s σ H Q I (i σ H Q q)
theorem PA.wk {X:Cx}{es:List Zi}{t t':TA}(h:PA X es t)(i:∀σ H Q,t' σ H Q->t σ H Q):PA X es t':=λpos pins s σ H Q I q=>h pos pins s σ H Q I (i σ H Q q)
theorem PS.wk {X:Cx}{st:Stmt}{t t':TS}(h:PS X st t)(i:∀D σ H,t' D σ H->t D σ H):PS X st t':=λpins s σ H D I q=>h pins s σ H D I (i D σ H q)
theorem PSs.wk {X:Cx}{st:List Stmt}{t t':TS}(h:PSs X st t)(i:∀D σ H,t' D σ H->t D σ H):PSs X st t':=λpins s σ H D I q=>h pins s σ H D I (i D σ H q)
theorem PI.wk {X:Cx}{a e:Zi}{t t':TI}(h:PI X a e t)(i:∀σ H R,t' σ H R->t σ H R):PI X a e t':=λpins s σ H R I q=>h pins s σ H R I (i σ H R q)
noncomputable def gVar (i:Nat):GE:=λen=>match en[i]? with
 |some (Za (w,_))=>Za (en.set i (#v[w,6]),(w,Zc))
 |_=>Zb
noncomputable def zaa (i:Nat):GA:=λen=>match en[i]? with
 |some (#v[w,5])=>Za (en,.inr i)
 |some (#v[w,6])=>Za (en,.inl w)
 |_=>Zb
noncomputable def gC (w:W):GE:=λen=>Za (en,(w,Zc))
noncomputable def gArg (g:GE):GA:=λen=>(g en).bind λp=>Za (p.1,.inl p.2.1)
noncomputable def gA0:GAs:=λen=>Za (en,[])
noncomputable def gCns (a:GA) (as:GAs):GAs:=λen=>(a en).bind λp=>(as p.1).bind λq=>Za (q.1,p.2::q.2)
noncomputable def gOp1 (o:W->Option (W×Bool)) (a:GA):GE:=λen=>(a en).bind λp=>(resA p.1 p.2).bind λw=>(o w).bind λr=>Za (p.1,r)
noncomputable def gOp2 (o:W->W->Option (W×Bool)) (a b:GA):GE:=λen=>(a en).bind λp=>(b p.1).bind λq=>(resA q.1 p.2).bind λw=>(resA q.1 q.2).bind λu=>(o w u).bind λr=>Za (q.1,r)
noncomputable def zar (en:En):List (W ⊕ Nat)->Option (List W)
 |[]=>Za []
 |x::b=>(resA en x).bind λw=>(zar en b).bind λa=>Za (w::a)
noncomputable def gOpN (o:List W->Option (W×Bool)) (as:GAs):GE:=λen=>(as en).bind λp=>(zar p.1 p.2).bind λw=>(o w).bind λr=>Za (p.1,r)
noncomputable def zaj (g:GE):GT:=λen=>match g en with
 |some (e,(.bl b,_))=>Za (e,b)
 |_=>Zb
noncomputable def gAnd (a b:GE):GE:=λen=>match a en with
 |some (e,(.bl Zd,_))=>b e
 |some (e,(.bl Zc,_))=>Za (e,(.bl false,false))
 |_=>Zb
noncomputable def gOr (a b:GE):GE:=λen=>match a en with
 |some (e,(.bl Zd,_))=>Za (e,(.bl true,false))
 |some (e,(.bl Zc,_))=>b e
 |_=>Zb
noncomputable def gNot (a:GE):GE:=λen=>match a en with
 |some (e,(.bl b,_))=>Za (e,(.bl (!b),Zc))
 |_=>Zb
noncomputable def zhx (a b:GT):GT:=λen=>match a en with
 |#v[e,5]=>b e
 |#v[e,6]=>#v[e,6]
 |none=>Zb
noncomputable def gOrT (a b:GT):GT:=λen=>match a en with
 |#v[e,5]=>#v[e,5]
 |#v[e,6]=>b e
 |none=>Zb
noncomputable def zhr (a:GT):GT:=λen=>match a en with
 |some (e,b)=>Za (e,!b)
 |none=>Zb
noncomputable def gIf (c:GT) (a b:GE):GE:=λen=>match c en with
 |#v[e,5]=>a e
 |#v[e,6]=>b e
 |none=>Zb
section
variable {K:Zg}{σ:St}{H:Hp}
theorem zpi {i:Nat}{Q:VK} (h:tE K (gVar i) σ H Q):tVar i σ H Q:=by
 obtain⟨F,pr,en,d,r,R,h,q⟩:=h;unfold gVar at h;cases e:en[i]? with
 |none=>simp only [e] at h;exact noSome h
 | some o =>
  cases o with
  |none=>simp only [e] at h;exact noSome h
  | some p =>
   obtain⟨w,f⟩:=p;simp only [e] at h;cases h;obtain⟨v,a⟩:=R.has e;obtain⟨b,s,c,z⟩:=R.freeze e a;exact⟨v,a,q b H v s c z⟩
theorem zv3 {i:Nat}{Q:VK} (h:tA K (zaa i) σ H Q):tVar i σ H Q:=by
 obtain⟨F,pr,en,b,r,R,h,q⟩:=h;unfold zaa at h;cases e:en[i]? with
 |none=>simp only [e] at h;exact noSome h
 | some o =>
  cases o with
  |none=>simp only [e] at h;exact noSome h
  | some p =>
   obtain⟨w,f⟩:=p;cases f with
   | true =>
    simp only [e] at h;cases h;obtain⟨v,a⟩:=R.has e;exact⟨v,a,q F H v (.refl F) R a⟩
   | false =>
    simp only [e] at h;cases h;obtain⟨v,a,z⟩:=R.val i w e;exact⟨v,a,q F H v (.refl F) R z⟩
theorem zdk {w:W}{v:V}{Q:VK}(a:∀F,Rep K F w v)(h:tE K (gC w) σ H Q):tC v σ H Q:=by
 obtain⟨F,pr,en,e,r,R,h,q⟩:=h;cases h;exact q F H v (.refl F) R (a F)
theorem zjg {g:GE}{Q:VK}(h:tA K (gArg g) σ H Q):tE K g σ H Q:=by
 obtain⟨F,pr,en,i,x,R,h,q⟩:=h;obtain⟨⟨e,r⟩,b,h⟩:=bS h;cases h;refine⟨F,pr,en,e,r,R,b,λj a v d c z=>?_⟩;obtain⟨f,s,R2,y⟩:=z.freeze c;exact q f a v (d.trans s) R2 y
theorem zpb {Q:List V->Hp->Prop}(h:tAs K gA0 σ H Q):tNil σ H Q:=by
 obtain⟨F,pr,en,e,x,R,h,q⟩:=h;cases h;exact q F H [] (.refl F) R .nil
theorem zpy {a:GA}{as:GAs}{Q:List V->Hp->Prop}(h:tAs K (gCns a as) σ H Q):tA K a σ H λx c=>tAs K as σ c λn b=>Q (x::n) b:=by
 nofun;obtain⟨F,pr,en,k,x,R,h,q⟩:=h;obtain⟨⟨e,y⟩,m,h⟩:=bS h;obtain⟨⟨f,p⟩,t,h⟩:=bS h;ac_rfl;cases h;exact⟨F,pr,en,e,y,R,m,λo c v i r l=>⟨o,pr,e,f,p,r,t,λj b d s R2 g=>q j b (v::d) (i.trans s) R2 (.cons (l.mono s) g)⟩⟩
noncomputable def OpS (K:Zg) (r:R2) (o:W->W->Option (W×Bool)):Prop:=∀F H c w d b e Q,Same F H->RepB K F H c d->RepB K F H w b->o c w=Za e->(∀v a,Out K F H e v a->Q v a)->r d b H Q
theorem zco {r:R2}{o:W->W->Option (W×Bool)}{a b:GA}{Q:VK}(g:OpS K r o)(h:tE K (gOp2 o a b) σ H Q):tOp r (tA K a) (tA K b) σ H Q:=by
 nofun;obtain⟨F,pr,en,p,N,R,h,q⟩:=h;obtain⟨⟨e,x⟩,C,h⟩:=bS h;obtain⟨⟨j,J⟩,M,h⟩:=bS h;obtain⟨w,d,h⟩:=bS h;obtain⟨I,c,h⟩:=bS h;obtain⟨P,A,h⟩:=bS h;ac_rfl;cases h;refine⟨F,pr,en,e,x,R,C,λE O B m L t=>⟨E,pr,e,j,J,L,M,λn k G s R2 l=>?_⟩⟩;refine g n k w I B G N Q R2.sub ((t.mono s).repB R2 d) (l.repB R2 c) A λv D z=>?_;nofun;obtain⟨u,f,i,y⟩:=z.close R2;ac_rfl;exact q u D v (m.trans (s.trans f)) i y
noncomputable def OpS1 (K:Zg) (r:V->Hp->VK->Prop) (o:W->Option (W×Bool)):Prop:=∀F H w v a Q,Same F H->RepB K F H w v->o w=Za a->(∀u b,Out K F H a u b->Q u b)->r v H Q
theorem zyu {r:V->Hp->VK->Prop}{o:W->Option (W×Bool)}{a:GA}{Q:VK}(d:OpS1 K r o)(h:tE K (gOp1 o a) σ H Q):tUn r (tA K a) σ H Q:=by
 nofun;obtain⟨F,pr,en,i,A,R,h,q⟩:=h;obtain⟨⟨u,x⟩,n,h⟩:=bS h;obtain⟨w,b,h⟩:=bS h;obtain⟨B,l,h⟩:=bS h;ac_rfl;cases h;refine⟨F,pr,en,u,x,R,n,λt f m g c j=>?_⟩;refine d t f w m A Q c.sub (j.repB c b) l λv p z=>?_;nofun;obtain⟨k,s,e,y⟩:=z.close c;ac_rfl;exact q k p v (g.trans s) e y
inductive RepBs (K:Zg) (F H:Hp):List W->List V->Prop where
 |nil:RepBs K F H [] []
 |cons {w:W}{v:V}{ws:List W}{vs:List V} (h:RepB K F H w v) (r:RepBs K F H ws vs):RepBs K F H (w::ws) (v::vs)
theorem ArgRs.repBs {F:Hp}{pr:Prt}{en:En} (R:Rel K F pr en σ H):∀{x:List (W ⊕ Nat)}{v:List V}{b:List W},ArgRs K F σ x v->zar en x=Za b->RepBs K F H b v
 |_,_,_,.nil,e=>by obtain rfl:=sI e;exact .nil
 | _,_,_,.cons h r,e=>by
  obtain⟨w,c,e⟩:=bS e;obtain⟨b,a,e⟩:=bS e;obtain rfl:=sI e;exact .cons (h.repB R c) (ArgRs.repBs R r a)
noncomputable def OpSN (K:Zg) (r:List V->Hp->VK->Prop) (o:List W->Option (W×Bool)):Prop:=∀F H w v a Q,Same F H->RepBs K F H w v->o w=Za a->(∀u b,Out K F H a u b->Q u b)->r v H Q
theorem zj3 {r:List V->Hp->VK->Prop}{o:List W->Option (W×Bool)}{as:GAs}{Q:VK}(c:OpSN K r o)(h:tE K (gOpN o as) σ H Q):tCB r (tAs K as) σ H Q:=by
 nofun;obtain⟨F,pr,en,g,u,R,h,q⟩:=h;obtain⟨⟨t,x⟩,m,h⟩:=bS h;obtain⟨w,a,h⟩:=bS h;obtain⟨A,k,h⟩:=bS h;ac_rfl;cases h;refine⟨F,pr,en,t,x,R,m,λp e l f b i=>?_⟩;refine c p e w l u Q b.sub (i.repBs b a) k λv n z=>?_;nofun;obtain⟨j,s,d,y⟩:=z.close b;ac_rfl;exact q j n v (f.trans s) d y
theorem Res.isBl {F H:Hp}{pr:Prt}{en:En}{σ:St}{b f:Bool}{v:V}(h:Res K F H pr en σ (.bl b,f) v):v=.bl b:=by
 cases f with
 |false=>cases (show Rep K F (.bl b) v from h);rfl
 |true=>obtain⟨_,_,_,e,_,_,_,q,_⟩:=h;subst e;cases q
theorem zhj {g:GE}{t:TE}{Q:Bool->Hp->Prop} (f:∀σ H Q,tE K g σ H Q->t σ H Q) (h:tT K (zaj g) σ H Q):z6u t σ H Q:=by
 obtain⟨F,pr,en,j,b,R,h,q⟩:=h;unfold zaj at h;refine f σ H _ ?_;cases e:g en with
 |none=>simp only [e] at h;exact noSome h
 | some p =>
  obtain⟨l,w,k⟩:=p;cases w with
  |bl c=>simp only [e] at h;cases h;exact⟨F,pr,en,_,_,R,e,λa d v s i z=>⟨b,z.isBl,q a d s i⟩⟩
  |_=>simp only [e] at h;exact noSome h
theorem zz8 {a b:GE}{Q:VK} (h:tE K (gAnd a b) σ H Q):z5u (tE K a) (tE K b) σ H Q:=by
 nofun;obtain⟨F,pr,en,d,r,R,h,q⟩:=h;ac_rfl;unfold gAnd at h;cases e:a en with
 |none=>simp only [e] at h;exact noSome h
 | some p =>
  obtain⟨m,w,o⟩:=p;cases w with
  | bl c =>
   refine⟨F,pr,en,_,_,R,e,λf i v s g z=>⟨c,z.isBl,?_⟩⟩;cases c with
   | true =>
    simp only [e] at h;exact iteT ⟨f,pr,m,d,r,g,h,λn j v k R2 l=>q n j v (s.trans k) R2 l⟩
   | false =>
    simp only [e] at h;cases h;exact iteF (q f i _ s g (.bl Zc))
  |_=>simp only [e] at h;exact noSome h
theorem zz0 {a:GE}{Q:VK} (h:tE K (gNot a) σ H Q):z54 (tE K a) σ H Q:=by
 obtain⟨F,pr,en,g,r,R,h,q⟩:=h;unfold gNot at h;cases e:a en with
 |none=>simp only [e] at h;exact noSome h
 | some p =>
  obtain⟨j,w,i⟩:=p;cases w with
  | bl c =>
   simp only [e] at h;cases h;exact⟨F,pr,en,_,_,R,e,λb d v s f z=>⟨c,z.isBl,q b d _ s f (.bl _)⟩⟩
  |_=>simp only [e] at h;exact noSome h
theorem zv8 {a b:GT}{Q:Bool->Hp->Prop} (h:tT K (zhx a b) σ H Q):tAnd (tT K a) (tT K b) σ H Q:=by
 nofun;obtain⟨F,pr,en,d,r,R,h,q⟩:=h;ac_rfl;unfold zhx at h;cases e:a en with
 |none=>simp only [e] at h;exact noSome h
 | some p =>
  obtain⟨l,c⟩:=p;refine⟨F,pr,en,_,_,R,e,λf i s g=>?_⟩;cases c with
  |true=>simp only [e] at h;exact iteT ⟨f,pr,l,d,r,g,h,λm k j R2=>q m k (s.trans j) R2⟩
  |false=>simp only [e] at h;cases h;exact iteF (q f i s g)
theorem z0f {a b:GT}{Q:Bool->Hp->Prop} (h:tT K (gOrT a b) σ H Q):tOr (tT K a) (tT K b) σ H Q:=by
 nofun;obtain⟨F,pr,en,d,r,R,h,q⟩:=h;ac_rfl;unfold gOrT at h;cases e:a en with
 |none=>simp only [e] at h;exact noSome h
 | some p =>
  obtain⟨l,c⟩:=p;refine⟨F,pr,en,_,_,R,e,λf i s g=>?_⟩;cases c with
  |false=>simp only [e] at h;exact iteF ⟨f,pr,l,d,r,g,h,λm k j R2=>q m k (s.trans j) R2⟩
  |true=>simp only [e] at h;cases h;exact iteT (q f i s g)
theorem zu4 {a:GT}{Q:Bool->Hp->Prop} (h:tT K (zhr a) σ H Q):tNot (tT K a) σ H Q:=by
 obtain⟨F,pr,en,g,r,R,h,q⟩:=h;unfold zhr at h;cases e:a en with
 |none=>simp only [e] at h;exact noSome h
 | some p =>
  obtain⟨i,c⟩:=p;simp only [e] at h;cases h;exact⟨F,pr,en,_,_,R,e,λb d s f=>q b d s f⟩
end
noncomputable def zbi:List (W ⊕ Nat)->Option (List W)
 |[]=>Za []
 |.inl w::x=>(zbi x).bind λa=>Za (w::a)
 |.inr _::_=>Zb
theorem ArgRs.reps {K:Zg}{F:Hp}{σ:St}:∀{x:List (W ⊕ Nat)}{v:List V}{b:List W},ArgRs K F σ x v->zbi x=Za b->Reps K F b v
 |_,_,_,.nil,e=>by obtain rfl:=sI e;exact .nil
 | .inl w::x,_,_,.cons h r,e=>by
  obtain⟨b,a,e⟩:=bS (show (zbi x).bind _=_ from e);obtain rfl:=sI e;exact .cons h (ArgRs.reps r a)
 |.inr i::x,_,_,.cons h r,e=>by exact noSome e
noncomputable def zd5 (as:GAs):GE:=λen=>(as en).bind λp=>(zbi p.2).bind λw=>if w.length<=sizeLine then Za (p.1,(.tup w,Zc)) else Zb
noncomputable def za0 (as:GAs):GE:=λen=>(as en).bind λp=>(zbi p.2).bind λw=>if w.length<=sizeLine then Za (p.1,(.lst w,Zd)) else Zb
section
variable {K:Zg}{σ:St}{H:Hp}
theorem zy0 {as:GAs}{Q:VK}(h:tE K (zd5 as) σ H Q):tTup (tAs K as) σ H Q:=by
 obtain⟨F,pr,en,e,r,R,h,q⟩:=h;obtain⟨⟨j,x⟩,f,h⟩:=bS h;obtain⟨w,l,h⟩:=bS h;split at h
 ·rename_i g;cases h;refine⟨F,pr,en,j,x,R,f,λn m v s k d=>?_⟩;have a:=d.reps l;refine⟨by rw[<-a.length];exact g,λp b=>?_⟩;obtain⟨c,i,R2,z⟩:=(Out.tup (K:=K) b a).close k;exact q c _ _ (s.trans i) R2 z
 ·exact noSome h
theorem z0g {as:GAs}{Q:VK}(h:tE K (za0 as) σ H Q):tLst (tAs K as) σ H Q:=by
 nofun;obtain⟨F,pr,en,e,r,R,h,q⟩:=h;obtain⟨⟨j,x⟩,f,h⟩:=bS h;obtain⟨w,l,h⟩:=bS h;ac_rfl;split at h
 ·rename_i g;cases h;refine⟨F,pr,en,j,x,R,f,λn m v s k d=>?_⟩;have a:=d.reps l;refine⟨by rw[<-a.length];exact g,λp b=>?_⟩;nofun;obtain⟨c,i,R2,z⟩:=(Out.lst (K:=K) b a).close k;ac_rfl;exact q c _ _ (s.trans i) R2 z
 ·exact noSome h
noncomputable def z7g (o e:W->W->Option (W×Bool)) (a b c:GA):GE:=λen=>(a en).bind λp=>(b p.1).bind λq=>(resA q.1 p.2).bind λw=>(resA q.1 q.2).bind λu=>match o w u with
 |some (.bl true,false)=>(c q.1).bind λt=>(resA t.1 q.2).bind λd=>(resA t.1 t.2).bind λz=>(e d z).bind λr=>Za (t.1,r)
 |some (.bl false,false)=>Za (q.1,(.bl false,false))
 |_=>Zb
end
section
variable {K:Zg}{F H:Hp}{v:V}
theorem RepB.int {i:Int}(h:RepB K F H (.int i) v):v=.int i:=by
 rcases h with h|⟨_,_,_,e,_,_,q⟩
 ·cases h;rfl
 ·subst e;cases q
theorem RepB.bl {b:Bool}(h:RepB K F H (.bl b) v):v=.bl b:=by
 rcases h with h|⟨_,_,_,e,_,_,q⟩
 ·cases h;rfl
 ·subst e;cases q
theorem RepB.str {x:Str}(h:RepB K F H (.str x) v):v=.str x:=by
 rcases h with h|⟨_,_,_,e,_,_,q⟩
 ·cases h;rfl
 ·subst e;cases q
theorem RepB.non (h:RepB K F H .non v):v=.non:=by
 rcases h with h|⟨_,_,_,e,_,_,q⟩
 ·cases h;rfl
 ·subst e;cases q
theorem RepB.lst {ws:List W}(s:Same F H)(h:RepB K F H (.lst ws) v):∃a b,v=.ref a/\H a=Za (.lst b)/\Reps K F ws b:=by
 rcases h with h|⟨a,o,w,e,c,h,r⟩
 ·cases h with
  |lst h r=>exact⟨_,_,rfl,s _ _ h,r⟩
 ·subst e;obtain⟨b,rfl,d⟩:=r.list;exact⟨a,b,c,h,d⟩
theorem RepB.tup {ws:List W}(s:Same F H)(h:RepB K F H (.tup ws) v):∃a b,v=.ref a/\H a=Za (.tup b)/\F a=Za (.tup b)/\Reps K F ws b:=by
 rcases h with h|⟨_,_,_,e,_,_,q⟩
 ·cases h with
  |tup h r=>exact⟨_,_,rfl,s _ _ h,h,r⟩
 ·subst e;cases q
theorem RepB.frl {ws:List W}(s:Same F H)(h:RepB K F H (.frl ws) v):∃a b,v=.ref a/\SqL K H a b/\Reps K F ws b:=by
 rcases h with h|⟨_,_,_,e,_,_,q⟩
 ·cases h with
  |frl h r=>exact⟨_,_,rfl,s.seq h,r⟩
 ·subst e;cases q
noncomputable def seqL:W->Option (List W)
 |.lst w=>Za w
 |.frl w=>Za w
 |_=>Zb
noncomputable def seqW:W->Option (List W)
 |.lst w=>Za w
 |.frl w=>Za w
 |.tup w=>Za w
 |_=>Zb
theorem RepB.seqL {w:W}{ws:List W}(s:Same F H)(h:RepB K F H w v)(e:L2.seqL w=Za ws):∃a b,v=.ref a/\SqL K H a b/\Reps K F ws b:=by
 cases w with
 |lst x=>obtain rfl:=sI e;obtain⟨a,b,e,h,r⟩:=h.lst s;exact⟨a,b,e,SqL.of' h,r⟩
 |frl x=>obtain rfl:=sI e;exact h.frl s
 |_=>exact noSome e
theorem RepB.seqW {w:W}{ws:List W}(s:Same F H)(h:RepB K F H w v)(e:L2.seqW w=Za ws):∃a b,v=.ref a/\(SqL K H a b\/SqT K H a b)/\Reps K F ws b:=by
 cases w with
 |lst x=>obtain rfl:=sI e;obtain⟨a,b,e,h,r⟩:=h.lst s;exact⟨a,b,e,.inl (SqL.of' h),r⟩
 |frl x=>obtain rfl:=sI e;obtain⟨a,b,e,h,r⟩:=h.frl s;exact⟨a,b,e,.inl h,r⟩
 |tup x=>obtain rfl:=sI e;obtain⟨a,b,e,h,_,r⟩:=h.tup s;exact⟨a,b,e,.inr (.inl (.inl h)),r⟩
 |_=>exact noSome e
end
noncomputable abbrev O2:=W->W->Option (W×Bool)
noncomputable def oI (c:Int->Int->Bool) (g:Int->Int->W):O2
 |.int i,.int j=>if c i j then #v[g i j,6] else Zb
 |_,_=>Zb
section
variable {K:Zg}
theorem znu {c:Int->Int->Bool}{C:Int->Int->Prop}{g:Int->Int->W}{g':Int->Int->V} (h:∀i j,c i j=Zd->C i j) (d:∀F i j,Rep K F (g i j) (g' i j)):OpS K (rI C g') (oI c g):=λF H w a f v k Q s r b e q=>by
 cases w with
 | int i =>
  cases a with
  | int j =>
   unfold oI at e;simp only at e;split at e
   ·rename_i z
    obtain rfl:=sI e;exact⟨i,j,r.int,b.int,h i j z,q _ _ (.val (d F i j))⟩
   ·exact noSome e
  |_=>exact noSome e
 |_=>exact noSome e
theorem zeb {g:Int->Int->W}{g':Int->Int->V} (h:∀F i j,Rep K F (g i j) (g' i j)):OpS K (rI0 g') (oI (λ_ _=>Zd) g):=λF H w a c v d Q s r b e q=>by
 cases w with
 | int i =>
  cases a with
  |int j=>obtain rfl:=sI e;exact⟨i,j,r.int,b.int,q _ _ (.val (h F i j))⟩
  |_=>exact noSome e
 |_=>exact noSome e
theorem OpS.or {r i:R2}{o g:O2}(h:OpS K r o)(h':OpS K i g):OpS K (λx y H Q=>r x y H Q\/i x y H Q) (λa b=>match o a b with|some p=>Za p|none=>g a b):=λF H w c d v k Q s f j e q=>by
 cases z:o w c with
 |some p=>simp only [z] at e;obtain rfl:=sI e;exact .inl (h F H w c d v _ Q s f j z q)
 |none=>simp only [z] at e;exact .inr (h' F H w c d v _ Q s f j e q)
end
noncomputable def oOr (o c:O2):O2:=λa b=>match o a b with|some p=>Za p|none=>c a b
noncomputable def oCat:O2
 |.lst x,.lst y=>if x.length+y.length<=sizeLine then #v[(x++y),2] else Zb
 |_,_=>Zb
noncomputable def zyx:O2
 |.tup (x::a),.tup y=>if (x::a).length+y.length<=sizeLine then #v[(x::a++y),3] else Zb
 |_,_=>Zb
noncomputable def z3m:O2
 |.tup [],.tup y=>#v[y,3]
 |_,_=>Zb
noncomputable def zyd:O2
 |.str x,.str y=>if x.length+y.length<=sizeLine then Za (.str (x++y),Zc) else Zb
 |_,_=>Zb
noncomputable def oRep:O2
 |.lst x,.int k=>if -(2^63)<=k/\k<2^63/\x.length*k.toNat<=sizeLine then #v[(List.replicate k.toNat x).flatten,2] else Zb
 |_,_=>Zb
section
variable {K:Zg}
theorem z2k:OpS K rCat oCat:=λF H w g n m o Q s r l e q=>by
 cases w with
 | lst x =>
  cases g with
  | lst y =>
   unfold oCat at e;simp only at e;split at e
   ·rename_i z
    obtain rfl:=sI e;nofun;obtain⟨a,v,i,j,d⟩:=r.lst s;obtain⟨b,u,f,k,c⟩:=l.lst s;ac_rfl;exact⟨a,b,v,u,i,f,j,k,by rw[<-d.length,<-c.length];exact z,λp h=>q _ _ (.lst h (d.append c))⟩
   ·exact noSome e
  |_=>exact noSome e
 |_=>exact noSome e
theorem z42:OpS K rRep oRep:=λF H w c j i l Q s r g e q=>by
 cases w with
 | lst x =>
  cases c with
  | int k =>
   unfold oRep at e;simp only at e;split at e
   ·rename_i z
    obtain rfl:=sI e;obtain⟨a,v,d,f,b⟩:=r.lst s;exact⟨a,k,v,d,g.int,f,z.1,z.2.1,by rw[<-b.length];exact z.2.2,λp h=>q _ _ (.lst h (b.rep _))⟩
   ·exact noSome e
  |_=>exact noSome e
 |_=>exact noSome e
theorem zzy:OpS K (z7b K) zyx:=λF H k w y A C Q s m r e q=>by
 cases k with
 | tup f =>
  cases f with
  |nil=>cases w<;>exact noSome e
  | cons x f =>
   cases w with
   | tup B =>
    unfold zyx at e;simp only at e;split at e
    ·rename_i z
     obtain rfl:=sI e;nofun;obtain⟨a,v,n,l,j,c⟩:=m.tup s;obtain⟨b,u,g,o,t,d⟩:=r.tup s;ac_rfl;refine⟨a,b,v,u,n,g,.inl (.inl l),.inl (.inl o),?_,by rw[<-c.length,<-d.length];exact z,λh=>?_,λ_ p i=>q _ _ (.tup i (c.append d))⟩
     ·intro e;subst e;cases c
     ·subst h
      cases d;rw[Bv] at q;exact q _ _ (.val (.tup j c))
    ·exact noSome e
   |_=>exact noSome e
 |_=>exact noSome e
mutual
inductive DV (H:Hp):V->PyData->Prop where
 |non:DV H .non .none
 |bl (b:Bool):DV H (.bl b) (.bool b)
 |int (i:Int):DV H (.int i) (.int i)
 |str (x:Str):DV H (.str x) (.str x)
 |tup {a:Zh}{vs:List V}{ds:List PyData} (h:H a=Za (.tup vs)) (r:DVs H vs ds):DV H (.ref a) (.tuple ds)
 |lst {a:Zh}{vs:List V}{ds:List PyData} (h:H a=Za (.lst vs)) (r:DVs H vs ds):DV H (.ref a) (.list ds)
inductive DVs (H:Hp):List V->List PyData->Prop where
 |nil:DVs H [] []
 |cons {v:V}{d:PyData}{vs:List V}{ds:List PyData} (h:DV H v d) (r:DVs H vs ds):DVs H (v::vs) (d::ds)
end
section
variable {X:Cx}{pins:List (Zh × Obj)}{σ:St}{H:Hp}{s:Zf}
mutual
theorem DV.reads (I:Inv X pins σ H s):∀{v:V}{d:PyData}{u:Ze},DV H v d->RelV v u->∃a,Reads s.heap u d a
 |_,_,_,.non,r=>by cases (show _=Ze.none from r);exact⟨_,.none⟩
 |_,_,_,.bl b,r=>by cases (show _=Ze.bool b from r);exact⟨_,.bool b⟩
 |_,_,_,.int i,r=>by obtain⟨t,e⟩:=(show ∃t,_=Ze.int i t from r);subst e;exact⟨_,.int i t⟩
 |_,_,_,.str x,r=>by obtain⟨t,e⟩:=(show ∃t,_=Ze.str x t from r);subst e;exact⟨_,.str x t⟩
 | _,_,_,.tup h q,r=>by
  cases r;obtain⟨j,g,⟨o,e,c,n,k⟩,_⟩:=I.tuple (.inl (.inl h));obtain⟨a,f⟩:=DVs.reads I q g;exact⟨a,.tuple e c k (by simpa using f)⟩
 | _,_,_,.lst h q,r=>by
  cases r;obtain⟨j,g,⟨o,n,e,c,_,k⟩,_⟩:=I.list (SqL.of' h);obtain⟨a,f⟩:=DVs.reads I q g;exact⟨_,.list e c k (by simpa using f)⟩
theorem DVs.reads (I:Inv X pins σ H s):∀{v:List V}{d:List PyData}{u:List Ze},DVs H v d->Vals v u->∃c,ReadsAll s.heap u d c
 |_,_,_,.nil,r=>by cases r;exact⟨_,.nil⟩
 | _,_,_,.cons h q,r=>by
  cases r with
  | cons e f =>
   obtain⟨c,a⟩:=DV.reads I h e;obtain⟨bs,b⟩:=DVs.reads I q f;exact⟨_,.cons a b⟩
end
end
mutual
noncomputable def dW:W->Option PyData
 |.non=>Za .none
 |.bl b=>Za (.bool b)
 |.int i=>Za (.int i)
 |.str x=>Za (.str x)
 |.tup w=>(dWs w).bind λd=>Za (.tuple d)
 |.lst w=>(dWs w).bind λd=>Za (.list d)
 |_=>Zb
noncomputable def dWs:List W->Option (List PyData)
 |[]=>Za []
 |w::a=>(dW w).bind λd=>(dWs a).bind λb=>Za (d::b)
end
section
variable {K:Zg}{F H:Hp}
mutual
theorem z0j (s:Same F H):∀{w:W}{v:V}{d:PyData},Rep K F w v->dW w=Za d->DV H v d
 |_,_,_,.non,e=>by obtain rfl:=sI e;exact .non
 |_,_,_,.bl b,e=>by obtain rfl:=sI e;exact .bl b
 |_,_,_,.int i,e=>by obtain rfl:=sI e;exact .int i
 |_,_,_,.str x,e=>by obtain rfl:=sI e;exact .str x
 | _,_,_,.tup h r,e=>by
  rw[dW] at e;obtain⟨f,a,c⟩:=bS e;obtain rfl:=sI c;exact .tup (s _ _ h) (zhl s r a)
 | _,_,_,.lst h r,e=>by
  rw[dW] at e;obtain⟨f,a,c⟩:=bS e;obtain rfl:=sI c;exact .lst (s _ _ h) (zhl s r a)
 |_,_,_,.frl _ _,e=>by exact noSome e
 |_,_,_,.dic _,e=>by exact noSome e
 |_,_,_,.dct _ _ _,e=>by exact noSome e
 |_,_,_,.dctT _ _ _,e=>by exact noSome e
 |_,_,_,.dcz _ _ _,e=>by exact noSome e
 |_,_,_,.dczT _ _ _,e=>by exact noSome e
theorem zhl (s:Same F H):∀{w:List W}{v:List V}{a:List PyData},Reps K F w v->dWs w=Za a->DVs H v a
 |_,_,_,.nil,e=>by cases e;exact .nil
 | _,_,_,.cons h r,e=>by
  rw[dWs] at e;obtain⟨d,f,e⟩:=bS e;obtain⟨a,b,c⟩:=bS e;cases c;exact .cons (z0j s h f) (zhl s r b)
end
theorem zov {w:W}{v:V}{d:PyData} (s:Same F H) (r:RepB K F H w v) (b:dW w=Za d):DV H v d:=by
 rcases r with r|⟨a,o,u,z,rfl,h,q⟩
 ·exact z0j s r b
 ·subst z
  cases q with
  |dct f q=>exact noSome b
  |dctT f q=>exact noSome b
  | lst q =>
   rw[dW] at b;obtain⟨g,c,e⟩:=bS b;obtain rfl:=sI e;exact .lst h (zhl s q c)
end
noncomputable def rEqD (g:Bool->Bool):R2:=λx y H Q=>∃d a,DV H x d/\DV H y a/\d.canLay0=Zd/\a.canLay0=Zd/\d.depth<=100/\Q (.bl (g (PyData.eqv d a))) H
theorem z5o {X:Cx}{k:Nat}(c:Room k X.A):OpR X (compareOp .Eq) (rEqD id):=by
 intro pins s σ H x y v u Q I i r h;nofun;obtain⟨d,n,j,a,e,g,l,q⟩:=h;obtain⟨m,b⟩:=j.reads I i;obtain⟨bs,f⟩:=a.reads I r;ac_rfl;exact SeqAt.compareEq_reads b f e g (by have:=c.un;omega) ⟨.bl _,H,I,rfl,q⟩
theorem z50 {X:Cx}{k:Nat}(e:Room k X.A):OpR X (compareOp .NotEq) (rEqD not):=by
 intro pins s σ H x y v u Q I l r h;nofun;obtain⟨d,j,m,b,f,i,n,q⟩:=h;obtain⟨a,c⟩:=m.reads I l;obtain⟨bs,g⟩:=b.reads I r;ac_rfl;exact SeqAt.neOverData X.prog X.w X.A X.xe s v u d j a bs _ c g f i (by have:=e.un;omega) ⟨.bl _,H,I,rfl,q⟩
noncomputable def eqD (a b:W):Option Bool:=(dW a).bind λd=>(dW b).bind λc=>if d.canLay0&&c.canLay0&&decide (d.depth<=100) then Za (PyData.eqv d c) else Zb
theorem z0x {K:Zg}{F H:Hp}{w b:W}{v1 v2:V}{k:Bool}(s:Same F H)(r:RepB K F H w v1)(f:RepB K F H b v2)(e:eqD w b=Za k):∃d a,DV H v1 d/\DV H v2 a/\d.canLay0=Zd/\a.canLay0=Zd/\d.depth<=100/\k=PyData.eqv d a:=by
 nofun;obtain⟨d,h,e⟩:=bS e;obtain⟨a,c,e⟩:=bS e;ac_rfl;split at e
 ·rename_i z;rw[Ae,Ae] at z;obtain rfl:=sI e;exact⟨d,a,zov s r h,zov s f c,z.1.1,z.1.2,As z.2,rfl⟩
 ·exact noSome e
noncomputable def z29:W->W->Option Bool
 |.non,.non=>Za Zd|.non,.int _=>Za Zc|.int _,.non=>Za Zc|.non,.bl _=>Za Zc|.bl _,.non=>Za Zc|.non,.str _=>Za Zc|.str _,.non=>Za Zc
 |.int i,.int j=>Za (decide (i=j))|.bl i,.bl j=>Za (decide (i=j))|.str i,.str j=>Za (decide (i=j))
 |.int _,.str _=>Za Zc|.str _,.int _=>Za Zc|.bl _,.str _=>Za Zc|.str _,.bl _=>Za Zc
 |_,_=>Zb
noncomputable def oEq:O2:=λa b=>match z29 a b with
 |some k=>Za (.bl k,Zc)
 |none=>(eqD a b).bind λk=>Za (.bl k,Zc)
noncomputable def oNe:O2:=λa b=>match z29 a b with
 |some k=>Za (.bl (!k),Zc)
 |none=>(eqD a b).bind λk=>Za (.bl (!k),Zc)
theorem zpo {F H:Hp}{b w:W}{v1 v2:V}{k:Bool} (a:RepB K F H b v1) (r:RepB K F H w v2) (e:z29 b w=Za k):scal v1 v2=Zd/\decide (v1=v2)=k:=by
 cases b with
 | non =>
  have:=a.non;subst this;cases w with
  |non=>have:=r.non;subst this;obtain rfl:=sI e;exact⟨rfl,by decide⟩
  |int j=>have:=r.int;subst this;obtain rfl:=sI e;exact⟨rfl,by simp⟩
  |bl j=>have:=r.bl;subst this;obtain rfl:=sI e;exact⟨rfl,by simp⟩
  |str j=>have:=r.str;subst this;obtain rfl:=sI e;exact⟨rfl,by simp⟩
  |_=>exact noSome e
 | int i =>
  have:=a.int;subst this;cases w with
  |non=>have:=r.non;subst this;obtain rfl:=sI e;exact⟨rfl,by simp⟩
  |int j=>have:=r.int;subst this;obtain rfl:=sI e;exact⟨rfl,by simp⟩
  |str j=>have:=r.str;subst this;obtain rfl:=sI e;exact⟨rfl,by simp⟩
  |_=>exact noSome e
 | bl i =>
  have:=a.bl;subst this;cases w with
  |non=>have:=r.non;subst this;obtain rfl:=sI e;exact⟨rfl,by simp⟩
  |bl j=>have:=r.bl;subst this;obtain rfl:=sI e;exact⟨rfl,by simp⟩
  |str j=>have:=r.str;subst this;obtain rfl:=sI e;exact⟨rfl,by simp⟩
  |_=>exact noSome e
 | str i =>
  have:=a.str;subst this;cases w with
  |non=>have:=r.non;subst this;obtain rfl:=sI e;exact⟨rfl,by simp⟩
  |int j=>have:=r.int;subst this;obtain rfl:=sI e;exact⟨rfl,by simp⟩
  |bl j=>have:=r.bl;subst this;obtain rfl:=sI e;exact⟨rfl,by simp⟩
  |str j=>have:=r.str;subst this;obtain rfl:=sI e;exact⟨rfl,by simp⟩
  |_=>exact noSome e
 |_=>cases w<;>exact noSome e
theorem z89:OpS K (λx y H Q=>rEq x y H Q\/rEqD id x y H Q) oEq:=λF H w l m v n Q s r c e q=>by
 unfold oEq at e;split at e
 ·rename_i k h;obtain rfl:=sI e;obtain⟨a,b⟩:=zpo r c h;refine .inl ⟨a,?_⟩;rw[b];exact q _ _ (.val (.bl k))
 ·obtain⟨k,h,e⟩:=bS e;obtain rfl:=sI e;nofun;obtain⟨d,i,j,g,a,b,f,rfl⟩:=z0x s r c h;ac_rfl;exact .inr ⟨d,i,j,g,a,b,f,q _ _ (.val (.bl _))⟩
theorem z6w:OpS K (λx y H Q=>rNe x y H Q\/rEqD not x y H Q) oNe:=λF H w l m v n Q s r c e q=>by
 unfold oNe at e;split at e
 ·rename_i k h;obtain rfl:=sI e;obtain⟨a,b⟩:=zpo r c h;refine .inl ⟨a,?_⟩;rw[b];exact q _ _ (.val (.bl _))
 ·obtain⟨k,h,e⟩:=bS e;obtain rfl:=sI e;nofun;obtain⟨d,i,j,g,a,b,f,rfl⟩:=z0x s r c h;ac_rfl;exact .inr ⟨d,i,j,g,a,b,f,q _ _ (.val (.bl _))⟩
noncomputable def isW:W->W->Option Bool
 |.non,.non=>Za Zd
 |_,.non=>Za Zc
 |.bl a,.bl b=>Za (decide (a=b))
 |_,.bl _=>Za Zc
 |_,_=>Zb
noncomputable def rIs:R2:=λx y H Q=>(y=.non/\Q (.bl (decide (x=.non))) H)\/(∃b,y=.bl b/\Q (.bl (decide (x=.bl b))) H)
noncomputable def oIs:O2:=λa b=>(isW a b).bind λk=>Za (.bl k,Zc)
theorem RepB.noBl {F H:Hp}{w:W}{v:V}(r:RepB K F H w v)(h:∀b,w≠.bl b)(b:Bool):v≠.bl b:=λe=>by
 subst e;rcases r with r|⟨_,_,_,_,e,_⟩
 ·cases r;exact h b rfl
 ·cases e
theorem RepB.noNon {F H:Hp}{w:W}{v:V}(r:RepB K F H w v)(h:w≠.non):v≠.non:=λe=>by
 subst e;rcases r with r|⟨_,_,_,_,e,_⟩
 ·cases r;exact h rfl
 ·cases e
theorem z5s {F H:Hp}{w c:W}{v1 v2:V}{k:Bool} (r:RepB K F H w v1) (d:RepB K F H c v2) (e:isW w c=Za k):(v2=.non/\decide (v1=.non)=k)\/(∃b,v2=.bl b/\decide (v1=.bl b)=k):=by
 cases c with
 | non =>
  refine .inl ⟨d.non,?_⟩;cases w with
  |non=>obtain rfl:=sI e;rw[r.non];rfl
  |_=>obtain rfl:=sI e;exact Bc (r.noNon (by simp))
 | bl b =>
  refine .inr ⟨b,d.bl,?_⟩;cases w with
  |bl a=>obtain rfl:=sI e;rw[r.bl];simp
  |_=>obtain rfl:=sI e;exact Bc (r.noBl (by simp) b)
 |_=>cases w<;>exact noSome e
theorem z8h:OpS K rIs oIs:=λF H w f g v i Q s r d e q=>by
 obtain⟨k,c,e⟩:=bS e;obtain rfl:=sI e;rcases z5s r d c with⟨h,a⟩|⟨b,h,a⟩
 ·exact .inl ⟨h,by rw[a];exact q _ _ (.val (.bl k))⟩
 ·exact .inr ⟨b,h,by rw[a];exact q _ _ (.val (.bl k))⟩
noncomputable def zlq:W->Bool
 |.non=>Zd
 |.bl _=>Zd
 |.int _=>Zd
 |.str _=>Zd
 |_=>Zc
noncomputable def eqF:W->W->Bool
 |.non,.non=>Zd
 |.bl a,.bl b=>a==b
 |.bl a,.int b=>(if a then 1 else 0)==b
 |.int a,.bl b=>a==(if b then 1 else 0)
 |.int a,.int b=>a==b
 |.str a,.str b=>a==b
 |_,_=>Zc
theorem Rep.flat {F:Hp}{w:W}{v:V}(h:Rep K F w v)(f:zlq w=Zd):zh5 v=Zd:=by
 cases h<;>first|rfl|(cases f)
theorem Reps.flat {F:Hp}:∀{w:List W}{v:List V},Reps K F w v->w.all zlq=Zd->v.all zh5=Zd
 |_,_,.nil,_=>rfl
 | _,_,.cons h r,f=>by
  rw[Bk,Ae] at f ⊢;exact⟨h.flat f.1,r.flat f.2⟩
theorem z71 {F a:Hp}{w u:W}{v z:V}(h:Rep K F w v)(b:Rep K a u z)(f:zlq w=Zd)(c:zlq u=Zd):eqV v z=eqF w u:=by
 cases h<;>first|(cases f;done)|(cases b<;>first|rfl|(cases c))
theorem z0u {F c:Hp}{u:W}{z:V} (a:Rep K c u z) (b:zlq u=Zd):∀{w:List W}{v:List V},Reps K F w v->w.all zlq=Zd->inV z v=w.any λy=>eqF y u
 |_,_,.nil,_=>rfl
 | _,_,.cons h r,f=>by
  rw[Bk,Ae] at f;have i:=z0u a b r f.2;unfold inV at i ⊢;rw[Cn,Cn,i,z71 h a f.1 b]
noncomputable def oIn (n:Bool):O2:=λa b=>(seqW b).bind λw=>if zlq a&&w.all zlq then Za (.bl (if n then !(w.any λy=>eqF y a) else w.any λy=>eqF y a),Zc) else Zb
theorem zty (n:Bool):OpS K (rIn K n) (oIn n):=λF H w k v j l Q s f g e q=>by
 obtain⟨m,h,e⟩:=bS e;split at e
 ·rename_i z;rw [Ae] at z;obtain rfl:=sI e;obtain ⟨a,d,c,i,p⟩:=g.seqW s h;have b:Rep K F w v:=by
   rcases f with r|⟨_,_,_,e,_,_,y⟩
   ·exact r
   ·subst e;cases y<;>cases z.1
  refine⟨a,d,c,i,b.flat z.1,p.flat z.2,?_⟩;rw[z0u b z.1 p z.2];exact q _ _ (.val (.bl _))
 ·exact noSome e
noncomputable def oIx:O2
 |a,.int i=>(seqW a).bind λb=>(atI b i).bind λw=>#v[w,6]
 |_,_=>Zb
theorem zw8 {F:Hp}{ws:List W}{vs:List V}{i:Int}{w:W}(r:Reps K F ws vs)(h:atI ws i=Za w):∃v,atI vs i=Za v/\Rep K F w v:=by
 unfold atI at h ⊢;rw[<-r.length];obtain⟨j,c,d⟩:=bS h;obtain⟨v,a,b⟩:=r.get d;exact⟨v,by rw[c];exact a,b⟩
noncomputable def rIxB (K:Zg):R2:=λx y H Q=>rIxL K x y H Q\/rIxT K x y H Q
theorem z1s:OpS K (rIxB K) oIx:=λF H b j o n r Q s l f e q=>by
 cases j with
 | int i =>
  obtain⟨t,k,e⟩:=bS (show (seqW b).bind _=_ from e);obtain⟨w,m,e⟩:=bS e;obtain rfl:=sI e;obtain⟨a,c,d,h,p⟩:=l.seqW s k;obtain⟨v,g,r⟩:=zw8 p m;rcases h with h|h
  ·exact .inl ⟨a,c,i,v,d,f.int,h,g,q _ _ (.val r)⟩
  ·exact .inr ⟨a,c,i,v,d,f.int,h,g,q _ _ (.val r)⟩
 |_=>cases b<;>exact noSome e
noncomputable def oNeg:W->Option (W×Bool)
 |.int i=>#v[(-i),0]
 |_=>Zb
theorem z4n:OpS1 K (rU λi=>.int (-i)) oNeg:=λF H w v a Q s r e q=>by
 cases w with
 |int i=>obtain rfl:=sI e;exact⟨i,r.int,q _ _ (.val (.int _))⟩
 |_=>exact noSome e
end
section
variable {X:Cx}
theorem z4a:OpR X (binaryOp .Add) (λx y H Q=>∃a b j,x=.ref a/\y=.ref b/\SqT X.K H a []/\SqT X.K H b j/\Q (.ref b) H):=by
 intro pins s σ H x y v u Q I D A h;nofun;obtain⟨a,b,j,rfl,rfl,o,E,q⟩:=h;ac_rfl;cases D;cases A;nofun;obtain⟨i,B,z,_⟩:=I.tuple o;obtain⟨f,G,p,_⟩:=I.tuple E;obtain⟨⟨M,m,L,C⟩,l,e,t,d⟩:=id z;obtain⟨⟨K,w,J,r⟩,g,k,n,c⟩:=id p;ac_rfl;simp only at e d k c;subst e d k c;have F:i=[]:=by cases B;rfl
 subst F;exact concat_meets (T := "tuple") ⟨_,l,rfl⟩ ⟨_,g,rfl⟩ noFill_tuple_add seq_tuple_add PySem.F.slot_tuple_add PySem.F.entry_tuple_add (Ij _ _)
  (tuple_addW0 a b _ _ t n m w C r rfl) ⟨l,g,⟨.ref b,H,I.tok _,rfl,q⟩⟩
theorem zxp:OpR X (binaryOp .FloorDiv) (rI (λ_ j=>0<j/\j.natAbs.log2<9000) λi j=>.int (i/j)):=opI λi j _ _ _ _ _ h q=>by
 have a:(0:Int)<j:=h.1;exact floordiv_int #v[] (by rw[Int.fdiv_eq_ediv_of_nonneg i #v[]];exact q) (.inl (PyProof.noPylong_of_log2 h.2))
end
section
variable {K:Zg}
noncomputable def ya8 (K:Zg):R2:=λx y H Q=>∃a b c,x=.ref a/\y=.ref b/\SqT K H a []/\SqT K H b c/\Q (.ref b) H
theorem zyp:OpS K (ya8 K) z3m:=λF H g w m n o Q s i r e q=>by
 cases g with
 | tup x =>
  cases x with
  |cons _ _=>cases w<;>exact noSome e
  | nil =>
   cases w with
   | tup y =>
    obtain rfl:=sI e;nofun;obtain⟨a,v,j,h,l,d⟩:=i.tup s;obtain⟨b,u,c,k,f,p⟩:=r.tup s;ac_rfl;cases d;subst c;exact⟨a,b,u,j,rfl,.inl (.inl h),.inl (.inl k),q _ _ (.val (.tup f p))⟩
   |_=>exact noSome e
 |_=>exact noSome e
noncomputable def yab:R2:=λx y H Q=>∃i j,x=.str i/\y=.str j/\i.length+j.length<=sizeLine/\Q (.str (i++j)) H
theorem zzg:OpS K yab zyd:=λF H a w c v d Q s r b e q=>by
 cases a with
 | str x =>
  cases w with
  | str y =>
   unfold zyd at e;simp only at e;split at e
   ·rename_i z;obtain rfl:=sI e;exact⟨x,y,r.str,b.str,z,q _ _ (.val (.str _))⟩
   ·exact noSome e
  |_=>exact noSome e
 |_=>exact noSome e
noncomputable abbrev ON:=List W->Option (W×Bool)
noncomputable def oLen:ON
 |[w]=>(seqW w).bind λa=>#v[a.length,0]
 |_=>Zb
theorem z1z:OpSN K (λx H Q=>∃p y,x=[.ref p]/\(SqL K H p y\/SqT K H p y)/\Q (.int y.length) H) oLen:=λF H w v f Q s r e q=>by
 cases r with
 |nil=>exact noSome e
 | cons h r =>
  cases r with
  |cons _ _=>exact noSome e
  | nil =>
   obtain⟨w,b,e⟩:=bS (show (seqW _).bind _=_ from e);obtain rfl:=sI e;obtain⟨a,v,c,d,p⟩:=h.seqW s b;subst c;exact⟨a,v,rfl,d,by rw[<-p.length];exact q _ _ (.val (.int _))⟩
noncomputable def oAbs:ON
 |[.int i]=>#v[(if i<0 then -i else i),0]
 |_=>Zb
theorem RepBs.one {F H:Hp}{w:W}{vs:List V}(r:RepBs K F H [w] vs):∃v,vs=[v]/\RepB K F H w v:=by
 cases r with
 |cons h r=>cases r;exact⟨_,rfl,h⟩
theorem z11:OpSN K (λx H Q=>∃i,x=[.int i]/\Q (.int (if i<0 then -i else i)) H) oAbs:=λF H w b c Q s r e q=>by
 match w,e with
 | [.int i],e =>
  obtain rfl:=sI e;obtain⟨v,a,h⟩:=r.one;subst a;exact⟨i,by rw[h.int],q _ _ (.val (.int _))⟩
noncomputable def oInt:ON
 |[.int i]=>#v[i,0]
 |[.bl k]=>#v[(if k then 1 else 0),0]
 |_=>Zb
theorem z5d:OpSN K (λx H Q=>(∃i,x=[.int i]/\Q (.int i) H)\/∃k,x=[.bl k]/\Q (.int (if k then 1 else 0)) H) oInt:=λF H w b c Q s r e q=>by
 match w,e with
 | [.int i],e =>
  obtain rfl:=sI e;obtain⟨v,a,h⟩:=r.one;subst a;exact .inl ⟨i,by rw[h.int],q _ _ (.val (.int _))⟩
 | [.bl k],e =>
  obtain rfl:=sI e;obtain⟨v,a,h⟩:=r.one;subst a;exact .inr ⟨k,by rw[h.bl],q _ _ (.val (.int _))⟩
noncomputable def z6x:ON
 |[w]=>(seqW w).bind λa=>#v[a,2]
 |_=>Zb
theorem zw4:OpSN K (λx H Q=>∃p y,x=[.ref p]/\(SqL K H p y\/SqT K H p y)/\∀l,H l=Zb->Q (.ref l) (upd H l (.lst y))) z6x:=λF H b j k Q s r e q=>by
 match b,e with
 | [w],e =>
  obtain⟨b,d,e⟩:=bS (show (seqW _).bind _=_ from e);obtain rfl:=sI e;nofun;obtain⟨v,f,h⟩:=r.one;obtain⟨a,u,c,i,p⟩:=h.seqW s d;ac_rfl;subst f c;exact⟨a,u,rfl,i,λl g=>q _ _ (.lst g p)⟩
noncomputable def za9:ON
 |[.tup a]=>#v[a,3]
 |[w]=>(seqL w).bind λa=>#v[a,3]
 |_=>Zb
theorem zwx:OpSN K (λx H Q=>∃p y,x=[.ref p]/\((SqL K H p y/\∀l,H l=Zb->Q (.ref l) (upd H l (.tup y)))\/(SqT K H p y/\Q (.ref p) H))) za9:=λF H w i j Q s r e q=>by
 match w,e with
 | [.tup w],e =>
  obtain rfl:=sI e;nofun;obtain⟨v,c,h⟩:=r.one;obtain⟨a,u,b,d,f,p⟩:=h.tup s;ac_rfl;subst c b;exact⟨a,u,rfl,.inr ⟨.inl (.inl d),q _ _ (.val (.tup f p))⟩⟩
 | [.lst w],e =>
  obtain rfl:=sI e;nofun;obtain⟨v,c,h⟩:=r.one;obtain⟨a,u,b,d,p⟩:=h.lst s;ac_rfl;subst c b;exact⟨a,u,rfl,.inl ⟨SqL.of' d,λl g=>q _ _ (.tup g p)⟩⟩
 | [.frl w],e =>
  obtain rfl:=sI e;nofun;obtain⟨v,c,h⟩:=r.one;obtain⟨a,u,b,d,p⟩:=h.frl s;ac_rfl;subst c b;exact⟨a,u,rfl,.inl ⟨d,λl g=>q _ _ (.tup g p)⟩⟩
 |[.non],e=>exact noSome e
 |[.bl _],e=>exact noSome e
 |[.int _],e=>exact noSome e
 |[.str _],e=>exact noSome e
 |[.dic],e=>exact noSome e
 |[.dct _ _],e=>exact noSome e
 |[.dcz _ _],e=>exact noSome e
noncomputable def blsOf:List W->Option (List Bool)
 |[]=>Za []
 |.bl b::w=>(blsOf w).bind λbs=>Za (b::bs)
 |_=>Zb
noncomputable def zct:List W->Option (List Int)
 |[]=>Za []
 |.int b::w=>(zct w).bind λbs=>Za (b::bs)
 |_=>Zb
theorem zqs:∀{w:List W}{bs:List Bool},blsOf w=Za bs->w=bs.map W.bl
 |[],_,e=>by obtain rfl:=sI e;rfl
 | .bl b::w,_,e=>by
  obtain⟨bs,h,e⟩:=bS (show (blsOf w).bind _=_ from e);obtain rfl:=sI e;rw[zqs h];rfl
 |.non::_,_,e=>by exact noSome e
 |.int _::_,_,e=>by exact noSome e
 |.str _::_,_,e=>by exact noSome e
 |.tup _::_,_,e=>by exact noSome e
 |.lst _::_,_,e=>by exact noSome e
 |.frl _::_,_,e=>by exact noSome e
theorem zcy:∀{w:List W}{bs:List Int},zct w=Za bs->w=bs.map W.int
 |[],_,e=>by obtain rfl:=sI e;rfl
 | .int b::w,_,e=>by
  obtain⟨bs,h,e⟩:=bS (show (zct w).bind _=_ from e);obtain rfl:=sI e;rw[zcy h];rfl
 |.non::_,_,e=>by exact noSome e
 |.bl _::_,_,e=>by exact noSome e
 |.str _::_,_,e=>by exact noSome e
 |.tup _::_,_,e=>by exact noSome e
 |.lst _::_,_,e=>by exact noSome e
 |.frl _::_,_,e=>by exact noSome e
theorem ze2:∀(a:List Int),zct (a.map W.int)=Za a
 |[]=>rfl
 |n::a=>by show (zct (a.map W.int)).bind _=_;rw[ze2 a];rfl
theorem zg6:∀(a:List Bool),blsOf (a.map W.bl)=Za a
 |[]=>rfl
 |n::a=>by show (blsOf (a.map W.bl)).bind _=_;rw[zg6 a];rfl
noncomputable def oBl (f:List Bool->Bool):ON
 |[w]=>(seqL w).bind λa=>(blsOf a).bind λbs=>Za (.bl (f bs),Zc)
 |_=>Zb
theorem z00 {f:List Bool->Bool}:OpSN K (λx H Q=>∃(a:Zh) (bs:List Bool),x=[.ref a]/\SqL K H a (bs.map V.bl)/\Q (.bl (f bs)) H) (oBl f):=λF H b k l Q s r e q=>by
 match b,e with
 | [w],e =>
  nofun;obtain⟨b,g,e⟩:=bS (show (seqL _).bind _=_ from e);obtain⟨bs,j,e⟩:=bS e;ac_rfl;obtain rfl:=sI e;nofun;obtain⟨v,i,h⟩:=r.one;obtain⟨a,u,d,c,p⟩:=h.seqL s g;ac_rfl;subst i d;rw[zqs j] at p;rw[p.bls] at c;exact⟨a,bs,rfl,c,q _ _ (.val (.bl _))⟩
noncomputable def tyW:W->Option String
 |.non=>Za "NoneType"
 |.bl _=>Za "bool"
 |.int _=>Za "int"
 |.str _=>Za "str"
 |.tup _=>Za "tuple"
 |.lst _=>Za "list"
 |.frl _=>Zb
 |.dic=>Zb
 |.dct _ _=>Zb
 |.dcz _ _=>Zb
inductive Kd where
 |int|bool|str|tuple|list
 deriving DecidableEq
noncomputable def Kd.nm:Kd->String
 |.int => "int" | .bool => "bool" | .str => "str" | .tuple => "tuple" | .list => "list"
noncomputable def isiW (k:Kd):W->Option Bool
 |.non=>Za Zc
 |.bl _=>Za (k==.bool||k==.int)
 |.int _=>Za (k==.int)
 |.str _=>Za (k==.str)
 |.tup _=>Za (k==.tuple)
 |.lst _=>Za (k==.list)
 |.frl _=>Zb
 |.dic=>Za Zc
 |.dct _ _=>Za Zc
 |.dcz _ _=>Zb
noncomputable def oIsi (k:Kd) (w:W):Option (W×Bool):=(isiW k w).bind λb=>Za (.bl b,Zc)
theorem z15 {F H:Hp}{w:W}{v:V}{k:Kd}{b:Bool} (s:Same F H) (r:RepB K F H w v) (e:isiW k w=Za b):∃t,TyOf K H v t/\PySem.W.kitOne K t (.type k.nm)=Za b:=by
 cases w with
 |non=>rw[r.non];obtain rfl:=sI e;exact⟨_,.non,by cases k<;>(with_unfolding_all rfl)⟩
 |bl x=>rw[r.bl];obtain rfl:=sI e;exact⟨_,.bl x,by cases k<;>(with_unfolding_all rfl)⟩
 |int x=>rw[r.int];obtain rfl:=sI e;exact⟨_,.int x,by cases k<;>(with_unfolding_all rfl)⟩
 |str x=>rw[r.str];obtain rfl:=sI e;exact⟨_,.str x,by cases k<;>(with_unfolding_all rfl)⟩
 |tup x=>obtain⟨a,g,c,h,_⟩:=r.tup s;subst c;obtain rfl:=sI e;exact⟨_,.tup h,by cases k<;>(with_unfolding_all rfl)⟩
 |lst x=>obtain⟨a,g,c,h,_⟩:=r.lst s;subst c;obtain rfl:=sI e;exact⟨_,.lst h,by cases k<;>(with_unfolding_all rfl)⟩
 |frl x=>exact noSome e
 | dic =>
  rcases r with r|⟨_,_,_,z,_,_,q⟩
  ·cases r with
   |dic h=>obtain rfl:=sI e;exact⟨_,.dK (s _ _ h),by cases k<;>(with_unfolding_all rfl)⟩
  ·subst z;cases q
 | dct d f =>
  obtain rfl:=sI e;rcases r with r|⟨_,_,_,z,c,h,q⟩
  ·cases r with
   |dct h _ _=>exact⟨_,.dK (s _ _ h),by cases k<;>(with_unfolding_all rfl)⟩
   |dctT h _ _=>exact⟨_,.dT (s _ _ h),by cases k<;>(with_unfolding_all rfl)⟩
  ·subst z c
   cases q with
   |dct _ _=>exact⟨_,.dK h,by cases k<;>(with_unfolding_all rfl)⟩
   |dctT _ _=>exact⟨_,.dT h,by cases k<;>(with_unfolding_all rfl)⟩
 |dcz d f=>exact noSome e
noncomputable def rIsi (K:Zg):List V->Hp->VK->Prop:=λa H Q=>∃x t c b,a=[x,.ty c]/\TyOf K H x t/\PySem.W.kitOne K t (.type c)=Za b/\Q (.bl b) H
theorem zyq {k:Kd}{a:GA}{σ:St}{H:Hp}{Q:VK}(h:tE K (gOp1 (oIsi k) a) σ H Q):tCB (rIsi K) (zek (tA K a) (zek (tC (.ty k.nm)) tNil)) σ H Q:=by
 nofun;obtain⟨F,pr,en,g,r,R,h,q⟩:=h;obtain⟨⟨m,x⟩,j,h⟩:=bS h;obtain⟨w,d,h⟩:=bS h;obtain⟨p,c,h⟩:=bS h;obtain⟨b,n,c⟩:=bS c;ac_rfl;obtain rfl:=sI c;cases h;refine⟨F,pr,en,m,x,R,j,λl f v s e i=>?_⟩;obtain⟨t,ty,o⟩:=z15 e.sub (i.repB e d) n;exact⟨v,t,_,b,rfl,ty,o,q l f _ s e (.bl b)⟩
noncomputable abbrev GO:=En->Option (En×Option Int)
noncomputable def zbb:GO:=λen=>Za (en,Zb)
noncomputable def zej (g:GE):GO:=λen=>match g en with
 |some (e,(.int i,_))=>Za (e,Za i)
 |_=>Zb
noncomputable def tO (K:Zg) (g:GO):TO:=λσ H Q=>∃F pr en e o,Rel K F pr en σ H/\g en=Za (e,o)/\∀a b,Same F a->Rel K a pr e σ b->Q o b
theorem Res.isInt {F H:Hp}{pr:Prt}{en:En}{σ:St}{i:Int}{f:Bool}{v:V}(h:Res K F H pr en σ (.int i,f) v):v=.int i:=by
 cases f with
 |false=>cases (show Rep K F (.int i) v from h);rfl
 |true=>obtain⟨_,_,_,e,_,_,_,q,_⟩:=h;subst e;cases q
theorem zoj {σ:St}{H:Hp}{Q:Option Int->Hp->Prop}(h:tO K zbb σ H Q):zwk σ H Q:=by
 obtain⟨F,pr,en,e,o,R,h,q⟩:=h;cases h;exact q F H (.refl F) R
theorem zva {g:GE}{σ:St}{H:Hp}{Q:Option Int->Hp->Prop} (h:tO K (zej g) σ H Q):z7n (tE K g) σ H Q:=by
 nofun;obtain⟨F,pr,en,f,o,R,h,q⟩:=h;ac_rfl;unfold zej at h;cases e:g en with
 |none=>simp only [e] at h;exact noSome h
 | some p =>
  obtain⟨j,w,i⟩:=p;cases w with
  |int c=>simp only [e] at h;cases h;exact⟨F,pr,en,_,_,R,e,λa b v s d z=>⟨c,z.isInt,q a b s d⟩⟩
  |_=>simp only [e] at h;exact noSome h
open HT in
theorem zrw {prog:Program}{w:World}{A:Around}{E:Ze->Zf->Prop}{s:Zf}{t b:Zh}{items:Array Ze}{e d:Ze}{lo f:Option Int}{Q:Ze->Zf->Prop} (a:IsTup s.heap t items) (c:s.heap.IsSliceOf b e d .none) (p:IsPart e lo) (i:IsPart d f)
  (l:sIx items.size 0 lo=0) (k:sIx items.size items.size f=items.size) (h:Q (.ref t) s):wpAny (model prog w) A (getItem (.ref t) (.ref b)) Q E s:=by
 obtain⟨o,j,g,_⟩:=id c;have ty:s.TypeIs (.ref b) "slice" := ⟨o,j,g⟩;unfold getItem
 try with_reducible refine Bq ?_
 first|refine Aa (Ac ?_)|skip
 refine Aa (wpAny_sequenceKey a.typeIs #v[0,9] ?_);refine Aa (Bs (name:=Str.ofString "__getitem__") a.typeIs Er (Cc Er a.typeIs entry_tuple_getitem ?_ (args_tuple_getitem _ _)));show wpAny _ _ (Builtin.Tuple.tupleItemsOf (.ref t)>>=_) _ _ s;refine Aa (tupleItemsOf_ a ?_);refine Aa (wpAny_typeOf ty ?_);rw[if_pos #v[0,9]];refine Aa (zcu c p i ?_);rw[l,k];show wpAny _ _ (if ((((0:Nat):Int)==0&&(1:Int)==1&&(items.size-0)==items.size)=Zd) then _ else _) _ _ s;rw[if_pos (by simp)];unfold Builtin.Tuple.tupleIsExact;refine Aa (Aa (wpAny_typeOf a.typeIs (Ac ?_)));rw[if_pos #v[0,9]];refine Aa (Cs (Ac ⟨_,rfl,?_⟩));exact Ac h
noncomputable def rSlW (K:Zg):V->Option Int->Option Int->Hp->VK->Prop:=λx l h H Q=>∃a b,x=.ref a/\SqT K H a b/\HT.sIx b.length 0 l=0/\HT.sIx b.length b.length h=b.length/\Q x H
theorem z2u {X:Cx}:SlR X (rSlW X.K):=by
 intro pins s σ H x v m n w t o Q I l e p g h;nofun;obtain⟨a,k,rfl,d,f,j,q⟩:=h;ac_rfl;cases l;nofun;obtain⟨i,r,c,u⟩:=I.tuple d;ac_rfl;have b:i.toArray.size=k.length:=by rw[Am];exact r.length.symm
 exact⟨"tuple",_,PyProof.Rows.slot_tuple_getitem.lookup,c.typeIs,zrw c e p g (by rw[b];exact f) (by rw[b];exact j) ⟨.ref a,H,I,rfl,q⟩⟩
noncomputable def cutW (xs:List W) (lo h:Option Int):List W:=(xs.drop (HT.sIx xs.length 0 lo)).take (HT.sIx xs.length xs.length h-HT.sIx xs.length 0 lo)
noncomputable def oSl (w:W) (lo h:Option Int):Option (W×Bool):=match w with
 |.lst a=>#v[(cutW a lo h),2]
 |.frl a=>#v[(cutW a lo h),2]
 |.tup a=>#v[(cutW a lo h),3]
 |_=>Zb
noncomputable def rSlB (K:Zg):V->Option Int->Option Int->Hp->VK->Prop:=λx l h H Q=>(rSlL K x l h H Q\/rSlT K x l h H Q)\/rSlW K x l h H Q
theorem z55 {F H:Hp}{w:W}{v:V}{lo f:Option Int}{j:W×Bool}{Q:VK} (s:Same F H) (r:RepB K F H w v) (e:oSl w lo f=Za j) (q:∀u i,Out K F H j u i->Q u i):rSlB K v lo f H Q:=by
 have cut:∀{c:List W}{b:List V},Reps K F c b->Reps K F (cutW c lo f) (cutV b lo f):=λ{c b} p=>by
  unfold cutW cutV;rw[<-p.length];exact (p.drop _).take _
 cases w with
 |lst c=>obtain rfl:=sI e;obtain⟨a,b,d,h,p⟩:=r.lst s;exact .inl (.inl ⟨a,b,d,SqL.of' h,λl g=>q _ _ (.lst g (cut p))⟩)
 |frl c=>obtain rfl:=sI e;obtain⟨a,b,d,h,p⟩:=r.frl s;exact .inl (.inl ⟨a,b,d,h,λl g=>q _ _ (.lst g (cut p))⟩)
 | tup c =>
  obtain rfl:=sI e;obtain⟨a,b,d,h,k,p⟩:=r.tup s;by_cases y:HT.sIx b.length 0 lo=0/\HT.sIx b.length b.length f=b.length
  ·refine .inr ⟨a,b,d,.inl (.inl h),y.1,y.2, ?_⟩
   have m:cutW c lo f=c:=by
    unfold cutW;rw[p.length,y.1,y.2,Fs,Nat.sub_zero,<-p.length,Dp]
   rw[m] at q;subst d;exact q _ _ (.val (.tup k p))
  ·exact .inl (.inr ⟨a,b,d,.inl (.inl h),y,λl g=>q _ _ (.tup g (cut p))⟩)
 |_=>exact noSome e
noncomputable def gSl (a:GA) (lo b:GO):GE:=λen=>(a en).bind λp=>(lo p.1).bind λl=>(b l.1).bind λh=>(resA h.1 p.2).bind λw=>(oSl w l.2 h.2).bind λr=>Za (h.1,r)
theorem z4g {a:GA}{lo d:GO}{σ:St}{H:Hp}{Q:VK}(h:tE K (gSl a lo d) σ H Q):tSl (rSlB K) (tA K a) (tO K lo) (tO K d) σ H Q:=by
 nofun;obtain⟨F,pr,en,o,O,R,h,q⟩:=h;obtain⟨⟨g,x⟩,A,h⟩:=bS h;obtain⟨⟨e,l⟩,E,h⟩:=bS h;obtain⟨⟨t,u⟩,r,h⟩:=bS h;obtain⟨J,c,h⟩:=bS h;obtain⟨P,w,h⟩:=bS h;ac_rfl;cases h;refine⟨F,pr,en,g,x,R,A,λC G M k D p=>⟨C,pr,g,e,l,D,E,λm I f R2=>⟨m,pr,e,t,u,R2,r,λL N s b=>?_⟩⟩⟩;refine z55 b.sub ((p.mono (f.trans s)).repB b c) w λv B z=>?_;nofun;obtain⟨j,n,i,y⟩:=z.close b;ac_rfl;exact q j B v (k.trans (f.trans (s.trans n))) i y
end
structure ItOk (K:Zg) (F:Hp) (J:It) (ws:List W):Prop where
 go:∀i H,Same F H->i<ws.length->J.go i H
 stop:∀H,Same F H->J.stop ws.length H
 yld:∀i H x H',Same F H->i<ws.length->J.yld i H x H'->∃w,ws[i]?=Za w/\Out K F H (w,Zc) x H'
noncomputable def tI (K:Zg) (g:GL):TI:=λσ H R=>∃F pr en e w,Rel K F pr en σ H/\g en=Za (e,w)/\∀a b J,Same F a->Rel K a pr e σ b->ItOk K a J w->R J b
section
variable {K:Zg}{F H:Hp}
theorem zb2 {F b:Hp}{a:Zh}{vs:List V}(s:Same F b)(h:SqT K F a vs):SqT K b a vs:=by
 rcases h with (h|⟨o,h⟩)|h
 ·exact .inl (.inl (s _ _ h))
 ·exact .inl (.inr ⟨o,s _ _ h⟩)
 ·exact .inr h
theorem zpk {a:Zh}{vs:List V}{ws:List W}(h:SqL K F a vs)(r:Reps K F ws vs):ItOk K F (Itl K a) ws where
 go:=λi H s b=>⟨vs,vs[i]'(by rw[<-r.length];exact b),s.seq h,by rw[Af]⟩
 stop:=λH s=>⟨vs,s.seq h,by rw[r.length];exact Ag _⟩
 yld:=λi H x c s b y=>by
  obtain⟨e,y⟩:=y;subst e;obtain⟨w,e,q⟩:=r.getV (y vs (s.seq h));exact⟨w,e,.val q⟩
theorem z68 {a:Zh}{vs:List V}{ws:List W}(h:SqT K F a vs)(r:Reps K F ws vs):ItOk K F (Itt K a) ws where
 go:=λi H s b=>⟨vs,vs[i]'(by rw[<-r.length];exact b),zb2 s h,by rw[Af]⟩
 stop:=λH s=>⟨vs,zb2 s h,by rw[r.length];exact Ag _⟩
 yld:=λi H x c s b y=>by
  obtain⟨e,y⟩:=y;subst e;obtain⟨w,e,q⟩:=r.getV (y vs (zb2 s h));exact⟨w,e,.val q⟩
noncomputable def rngW (lo:Int) (n:Nat):List W:=(List.range n).map λk=>W.int (lo+(k:Nat))
theorem zzx (lo:Int)(n:Nat):ItOk K F (Itr lo n) (rngW lo n) where
 go:=λi H s h=>by unfold rngW at h;rw[Ad,Ek] at h;exact h
 stop:=λH s=>by unfold rngW;rw[Ad,Ek];exact Ag n
 yld:=λi H x a s h y=>by
  obtain⟨e,y⟩:=y;subst e y;unfold rngW at h ⊢;rw[Ad,Ek] at h;exact⟨_,by rw[At,List.getElem?_range h];rfl,.val (.int _)⟩
noncomputable def zfv (ws:List W) (k:Nat):List W:=match ws with
 |[]=>[]
 |w::ws=>.tup [.int k,w]::zfv ws (k+1)
theorem zbw:∀(w:List W) (k:Nat),(zfv w k).length=w.length
 |[],_=>rfl
 |_::w,k=>congrArg (· + 1) (zbw w (k+1))
theorem zeh:∀{ws:List W}{k i:Nat}{w:W},ws[i]?=Za w->(zfv ws k)[i]?=Za (.tup [.int (k+i:Nat),w])
 |[],_,_,_,e=>by simp at e
 |w::ws,k,0,_,e=>by simp at e;subst e;rfl
 | w::ws,k,i+1,u,e=>by
  have:=zeh (ws:=ws) (k:=k+1) (i:=i) (w:=u) (by simpa using e);show (zfv ws (k+1))[i]?=_;rw[this];have:k+1+i=k+(i+1):=by omega
  rw[this]
theorem z39 {a:Zh}{vs:List V}{ws:List W}(h:SqL K F a vs)(r:Reps K F ws vs):ItOk K F (Ite K a) (zfv ws 0) where
 go:=λi H s b=>by rw[zbw] at b;exact⟨vs,vs[i]'(by rw[<-r.length];exact b),s.seq h,by rw[Af]⟩
 stop:=λH s=>⟨vs,s.seq h,by rw[zbw,r.length];exact Ag _⟩
 yld:=λi H x f s b y=>by
  nofun;obtain⟨p,v,e,d,c,y⟩:=y;ac_rfl;subst e c;obtain⟨w,e,q⟩:=r.getV (y vs (s.seq h));refine⟨_,zeh e,?_⟩;rw[Ce];exact .tup d (.cons (.int _) (.cons q .nil))
end
section
variable {X:Cx}{tg:Zi}
noncomputable def iSeq (K:Zg) (t:TE):TI:=λσ H R=>t σ H λx b=>∃a,x=.ref a/\((∃c,SqL K b a c)/\R (Itl K a) b\/(∃c,SqT K b a c)/\R (Itt K a) b)
theorem zt8 {l:Zi}{t:TE}(n:PE X l t):PI X tg l (iSeq X.K t):=λpins s σ H R I h =>
 thn (n pins s σ H _ I h) λv d ⟨x,f,c,r,a,e,k⟩=>by
  subst e;cases r;have fp:∀b∈[d.heap.objs.size],FpOk X pins f b:=λb j=>by
   rw[Ao] at j;subst j;exact c.fpOk (Ag _) (c.hok.fresh (Ag _))
  rcases k with⟨⟨m,g⟩,q⟩|⟨⟨m,g⟩,q⟩
  ·obtain⟨i,_,p,_⟩:=c.list g;exact Gf p.isList ⟨_,_,_,_,f,rfl,c.kept (t':=d.toks) λb o e=>Ab _ e,zu1 a _,⟨_,Ah _ rfl,rfl,rfl⟩,fp,q⟩
  ·obtain⟨i,_,p,_⟩:=c.tuple g;exact He (show d.heap.IsTuple a i.toArray from p) ⟨_,_,_,_,f,rfl,c.kept (t':=d.toks) λb o e=>Ab _ e,zrv a _,⟨_,Ah _ rfl,rfl,rfl⟩,fp,q⟩
end
noncomputable def za1 (g:GE):GL:=λen=>(g en).bind λp=>(seqW p.2.1).bind λw=>Za (p.1,w)
noncomputable def ze6 (i:Int):Bool:=decide (-(2^62)<=i)&&decide (i<2^62)
noncomputable def zd3 (as:GAs):GL:=λen=>(as en).bind λp=>match zar p.1 p.2 with
 |some [.int j]=>if ze6 j then Za (p.1,rngW 0 j.toNat) else Zb
 |_=>Zb
noncomputable def z9q (as:GAs):GL:=λen=>(as en).bind λp=>match zar p.1 p.2 with
 |some [.int i,.int j]=>if ze6 i&&ze6 j then Za (p.1,rngW i (j-i).toNat) else Zb
 |_=>Zb
noncomputable def gRev (g:GE):GL:=λen=>(g en).bind λp=>(seqL p.2.1).bind λw=>Za (p.1,w.reverse)
theorem zqf {i:Int}(h:ze6 i=Zd):-(2^62)<=i/\i<2^62:=by
 unfold ze6 at h;rw[Ae] at h;exact⟨As h.1,As h.2⟩
section
variable {K:Zg}{σ:St}{H:Hp}
theorem zg9 {g:GE}{R:It->Hp->Prop} (h:tI K (za1 g) σ H R):iSeq K (tE K g) σ H R:=by
 nofun;obtain⟨F,pr,en,f,n,Re,h,q⟩:=h;obtain⟨⟨j,e⟩,i,h⟩:=bS h;obtain⟨u,a,h⟩:=bS h;ac_rfl;cases h;refine⟨F,pr,en,j,e,Re,i,λm b v s k z=>?_⟩;nofun;obtain⟨c,d,R2,y⟩:=z.freeze k;obtain⟨w,l⟩:=e;ac_rfl;cases w with
 | lst x=>obtain rfl:=sI a;cases y with
  |lst y r=>exact⟨_,rfl,.inl ⟨⟨_,SqL.of' (R2.sub _ _ y)⟩,q c b _ (s.trans d) R2 (zpk (SqL.of' y) r)⟩⟩
 | frl x=>obtain rfl:=sI a;cases y with
  |frl y r=>exact⟨_,rfl,.inl ⟨⟨_,R2.sub.seq y⟩,q c b _ (s.trans d) R2 (zpk y r)⟩⟩
 | tup x=>obtain rfl:=sI a;cases y with
  |tup y r=>exact⟨_,rfl,.inr ⟨⟨_,.inl (.inl (R2.sub _ _ y))⟩,q c b _ (s.trans d) R2 (z68 (.inl (.inl y)) r)⟩⟩
 |_=>cases a
theorem zv9 {as:GAs}{R:It->Hp->Prop} (h:tI K (zd3 as) σ H R):z7l (tAs K as) σ H R:=by
 nofun;obtain⟨F,pr,en,g,w,Re,h,q⟩:=h;obtain⟨⟨a,x⟩,f,h⟩:=bS h;ac_rfl;refine⟨F,pr,en,a,x,Re,f,λd c l s b k=>?_⟩;cases e:zar a x with
 |none=>simp only [e] at h;exact noSome h
 | some u =>
  have r:=k.repBs b e
  match u,e,r with
  | [.int j],e,r =>
   simp only [e] at h;split at h
   ·rename_i z
    cases h;obtain⟨v,a,i⟩:=r.one;subst a;exact⟨j,by rw[i.int],(zqf z).1,(zqf z).2,q d c _ s b (zzx 0 j.toNat)⟩
   ·exact noSome h
  |[],e,_=>simp only [e] at h;exact noSome h
  |.non::_,e,_=>simp only [e] at h;exact noSome h
  |.bl _::_,e,_=>simp only [e] at h;exact noSome h
  |.str _::_,e,_=>simp only [e] at h;exact noSome h
  |.tup _::_,e,_=>simp only [e] at h;exact noSome h
  |.lst _::_,e,_=>simp only [e] at h;exact noSome h
  |.frl _::_,e,_=>simp only [e] at h;exact noSome h
  |.dic::_,e,_=>simp only [e] at h;exact noSome h
  |.dct _ _::_,e,_=>simp only [e] at h;exact noSome h
  |.dcz _ _::_,e,_=>simp only [e] at h;exact noSome h
  |.int _::_::_,e,_=>simp only [e] at h;exact noSome h
end
inductive Tg where
 |nm (i:Nat)
 |tp (is:List Nat)
noncomputable def setAll (mp:List Nat):List Nat->List W->En->Option En
 |[],[],en=>Za en
 |i::b,w::a,en=>if mp.contains i || !decide (i<en.length) then Zb else setAll mp b a (en.set i (#v[w,6]))
 |_,_,_=>Zb
noncomputable def tgSet (mp:List Nat):Tg->W->En->Option En
 |.nm i,w,en=>if mp.contains i || !decide (i<en.length) then Zb else Za (en.set i (#v[w,6]))
 |.tp b,.tup a,en=>setAll mp b a en
 |.tp b,.lst a,en=>setAll mp b a en
 |_,_,_=>Zb
noncomputable def zqo:List Nat->TGs
 |[]=>gNil
 |i::a=>z6p (zr6 i) (zqo a)
noncomputable def z6l (K:Zg) (n:Nat) (t:TGs):TG:=λv σ H Q=>∃a x,v=.ref a/\(SqT K H a x\/SqL K H a x)/\x.length=n/\t x σ H Q
theorem z19 {X:Cx}{es:List Zi}{k:Nat}{t:TGs}{n:Nat}{pos:Pos}(j:X.calm=Zd)(h:PGs X es t)(l:(assignEach es X.env).length=n)(d:(assignEach es X.env).findIdx? (·.1)=Zb):PG X (.Tuple es k pos) (z6l X.K n t):=by
 intro pins s σ H v u Q I r f;nofun;obtain⟨a,x,p,c,g,f⟩:=f;ac_rfl;rcases c with c|c
 ·exact z7j j h l d pins s σ H v u Q I r ⟨a,x,p,c,g,f⟩
 ·subst p;cases r;nofun;obtain⟨i,q,⟨o,m,C,z,_,y⟩,E⟩:=I.list c;ac_rfl;rw[assign_Tuple];refine Aa (Fw ?_);unfold unpack;have B:(assignEach es X.env).length=i.toArray.size:=by rw[Am,l,<-g,q.length]
  rw[B,d];refine Aa (Bq (PySem.W.kun_itemsOf (I.ok.hd j) ⟨o,C,z,m,y⟩ λD A=>?_));have w:Inv X pins σ H { s with heap:=D }:=I.kept (t':=s.toks) λb o e=>A b o (Aw (Aj e)) e;exact h pins _ σ H x _ Q w (by simpa using q) f
noncomputable def TGof (K:Zg):Tg->TG
 |.nm i=>zr6 i
 |.tp a=>z6l K a.length (zqo a)
noncomputable def Keep (mp:List Nat) (σ a:St):Prop:=∀i∈mp,a[i]?=σ[i]?
theorem Keep.refl (mp:List Nat)(σ:St):Keep mp σ σ:=λ_ _=>rfl
theorem Keep.trans {mp:List Nat}{σ c d:St}(a:Keep mp σ c)(b:Keep mp c d):Keep mp σ d:=λi h=>(b i h).trans (a i h)
theorem Keep.set {mp:List Nat}{σ:St}{i:Nat}(h:mp.contains i=Zc)(v:Option V):Keep mp σ (σ.set i v):=λj a=>by
 have:i≠j:=λe=>by subst e;rw[List.contains_iff_mem.mpr a] at h;cases h
 exact Dh this
section
variable {K:Zg}{F H:Hp}{pr:Prt}
theorem zd2 {mp:List Nat}{Q:St->Hp->Prop}:∀{d:List Nat}{c:List W}{b:List V}{en e:En}{σ:St},Rel K F pr en σ H->Reps K F c b->setAll mp d c en=Za e->(∀a,Rel K F pr e a H->Keep mp σ a->Q a H)->zqo d b σ H Q
 |[],[],_,en,e,σ,R,.nil,h,q=>by obtain rfl:=sI h;exact⟨rfl,q σ R (.refl _ _)⟩
 | i::d,w::c,_,en,e,σ,R,.cons (v:=v) (vs:=b) h0 r,h,q=>by
  unfold setAll at h;split at h
  ·exact noSome h
  ·rename_i z
   rw[Ck,not_or,By,By,Ea] at z;refine⟨v,b,rfl,?_⟩;exact zd2 (R.store (r:=(w,Zc)) (i:=i) h0 (As z.2)) r h λa f k=>q a f ((Keep.set z.1 _).trans k)
 |[],_::_,_,_,_,_,_,_,h,_=>by exact noSome h
 |_::_,[],_,_,_,_,_,_,h,_=>by exact noSome h
theorem zwl {mp:List Nat}{T:Tg}{w:W}{v:V}{en en':En}{σ:St}{Q:St->Hp->Prop} (R:Rel K F pr en σ H) (e:Rep K F w v) (h:tgSet mp T w en=Za en') (q:∀c,Rel K F pr en' c H->Keep mp σ c->Q c H):TGof K T v σ H Q:=by
 cases T with
 | nm i =>
  unfold tgSet at h;simp only at h;split at h
  ·exact noSome h
  ·rename_i z
   rw[Ck,not_or,By,By,Ea] at z;obtain rfl:=sI h;exact q _ (R.store (r:=(w,Zc)) e (As z.2)) (Keep.set z.1 _)
 | tp b =>
  have go:∀(b:List Nat) (a:List W) (en en':En),setAll mp b a en=Za en'->b.length=a.length:=by
   intro b
   induction b with
   | nil=>intro a en en' h;cases a with
    |nil=>rfl
    |cons _ _=>exact noSome h
   | cons i b f=>intro a en en' h;cases a with
    |nil=>exact noSome h
    | cons w a =>
     unfold setAll at h;split at h
     ·exact noSome h
     ·exact congrArg (· + 1) (f _ _ _ h)
  cases w with
  | tup a =>
   cases e with
   | tup d r =>
    exact⟨_,_,rfl,.inl (.inl (.inl (R.sub _ _ d))),by rw[go b a en en' h,r.length],zd2 R r h q⟩
  | lst a =>
   cases e with
   | lst d r =>
    exact⟨_,_,rfl,.inr (SqL.of' (R.sub _ _ d)),by rw[go b a en en' h,r.length],zd2 R r h q⟩
  |_=>exact noSome h
end
inductive Fl where
 |nx|ret (r:W×Bool)|brk|cnt
noncomputable abbrev GS:=En->Option (En×Fl)
noncomputable def zym (K:Zg) (mp:List Nat) (F:Hp) (pr:Prt) (σ:St) (D:Ends) (en':En):Fl->Prop
 |.nx=>∀b a H,Same F b->Rel K b pr en' a H->Keep mp σ a->D.nx a H
 |.brk=>∀b a H,Same F b->Rel K b pr en' a H->Keep mp σ a->D.bk a H
 |.cnt=>∀b a H,Same F b->Rel K b pr en' a H->Keep mp σ a->D.ct a H
 |.ret r=>∀b a H v,Same F b->Rel K b pr en' a H->Keep mp σ a->Res K b H pr en' a r v->D.rt v H
noncomputable def tS (K:Zg) (mp:List Nat) (g:GS):TS:=λD σ H=>∃F pr en e f,Rel K F pr en σ H/\g en=Za (e,f)/\zym K mp F pr σ D e f
theorem zym.step {K:Zg}{mp:List Nat}{F g:Hp}{pr:Prt}{σ e:St}{D:Ends}{en':En}{f:Fl}(s:Same F g)(k:Keep mp σ e)(h:zym K mp F pr σ D en' f):zym K mp g pr e D en' f:=by
 cases f with
 |nx=>exact λb a H d R c=>h b a H (s.trans d) R (k.trans c)
 |brk=>exact λb a H d R c=>h b a H (s.trans d) R (k.trans c)
 |cnt=>exact λb a H d R c=>h b a H (s.trans d) R (k.trans c)
 |ret r=>exact λb a H v d R c z=>h b a H v (s.trans d) R (k.trans c) z
noncomputable def zbx:GS:=λen=>Za (en,.nx)
noncomputable def gBrk:GS:=λen=>Za (en,.brk)
noncomputable def gCnt:GS:=λen=>Za (en,.cnt)
noncomputable def gSeq (a b:GS):GS:=λen=>match a en with
 |some (e,.nx)=>b e
 |some (e,f)=>Za (e,f)
 |none=>Zb
noncomputable def gRet (g:GE):GS:=λen=>(g en).bind λp=>Za (p.1,.ret p.2)
noncomputable def ya6:GS:=λen=>Za (en,.ret (.non,Zc))
noncomputable def gIfS (c:GT) (a b:GS):GS:=λen=>match c en with
 |#v[e,5]=>a e
 |#v[e,6]=>b e
 |none=>Zb
noncomputable def zfd (g:GE):GS:=λen=>(g en).bind λp=>Za (p.1,.nx)
noncomputable def gSet (mp:List Nat) (i:Nat) (g:GE):GS:=λen=>(g en).bind λp=>if mp.contains i || !decide (i<p.1.length) then Zb else Za (p.1.set i (Za p.2),.nx)
noncomputable def gAsg (mp:List Nat) (T:Tg) (g:GE):GS:=λen=>(g en).bind λp=>(tgSet mp T p.2.1 p.1).bind λe=>Za (e,.nx)
section
variable {K:Zg}{mp:List Nat}{D:Ends}{σ:St}{H:Hp}
theorem zld (h:tS K mp zbx D σ H):z3e D σ H:=by
 obtain⟨F,pr,en,e,f,R,h,q⟩:=h;cases h;exact q F σ H (.refl F) R (.refl _ _)
theorem zyw {a b:GS} (h:tS K mp (gSeq a b) D σ H):tSeq (tS K mp a) (tS K mp b) D σ H:=by
 nofun;obtain⟨F,pr,en,c,j,R,h,q⟩:=h;ac_rfl;unfold gSeq at h;cases e:a en with
 |none=>simp only [e] at h;exact noSome h
 | some p =>
  obtain⟨d,f⟩:=p;refine⟨F,pr,en,d,f,R,e,?_⟩;cases f with
  | nx =>
   simp only [e] at h;exact λi g m s k l=>⟨i,pr,d,c,j,k,h,q.step s l⟩
  |brk=>simp only [e] at h;cases h;exact q
  |cnt=>simp only [e] at h;cases h;exact q
  |ret r=>simp only [e] at h;cases h;exact q
theorem zqh {g:GE}(h:tS K mp (gRet g) D σ H):tRet (tE K g) D σ H:=by
 nofun;obtain⟨F,pr,en,f,i,R,h,q⟩:=h;obtain⟨⟨e,r⟩,c,h⟩:=bS h;ac_rfl;cases h;exact⟨F,pr,en,e,r,R,c,λa b v s d z=>q a σ b v s d (.refl _ _) z⟩
theorem zzp {c:GT}{a b:GS} (h:tS K mp (gIfS c a b) D σ H):tIfS (tT K c) (tS K mp a) (tS K mp b) D σ H:=by
 nofun;obtain⟨F,pr,en,f,j,R,h,q⟩:=h;ac_rfl;unfold gIfS at h;cases e:c en with
 |none=>simp only [e] at h;exact noSome h
 | some p =>
  obtain⟨g,d⟩:=p;refine⟨F,pr,en,g,d,R,e,λi l s k=>?_⟩;cases d with
  |true=>simp only [e] at h;exact iteT ⟨i,pr,g,f,j,k,h,q.step s (.refl _ _)⟩
  |false=>simp only [e] at h;exact iteF ⟨i,pr,g,f,j,k,h,q.step s (.refl _ _)⟩
theorem zud {g:GE}(h:tS K mp (zfd g) D σ H):z6f (tE K g) D σ H:=by
 nofun;obtain⟨F,pr,en,f,i,R,h,q⟩:=h;obtain⟨⟨e,r⟩,c,h⟩:=bS h;ac_rfl;cases h;exact⟨F,pr,en,e,r,R,c,λa b v s d z=>q a σ b s d (.refl _ _)⟩
theorem zjf {i:Nat}{g:GE}(h:tS K mp (gSet mp i g) D σ H):tAsg (tE K g) (zr6 i) D σ H:=by
 nofun;obtain⟨F,pr,en,f,j,R,h,q⟩:=h;obtain⟨⟨e,r⟩,c,h⟩:=bS h;ac_rfl;split at h
 ·exact noSome h
 ·rename_i z;rw[Ck,not_or,By,By,Ea] at z;cases h;exact⟨F,pr,en,e,r,R,c,λa b v s d y=>q a _ b s (d.store y (As z.2)) (Keep.set z.1 _)⟩
noncomputable def gPar (mp:List Nat) (i j:Nat) (a b:GE):GS:=λen=>(a en).bind λp=>(b p.1).bind λq=>if mp.contains i||mp.contains j || !decide (i<q.1.length) || !decide (j<q.1.length) then Zb else Za ((q.1.set i (#v[p.2.1,6])).set j (Za q.2),.nx)
theorem zya {i j:Nat}{a b:GE} (h:tS K mp (gPar mp i j a b) D σ H):tPar i j (zek (tE K a) (zek (tE K b) tNil)) D σ H:=by
 nofun;obtain⟨F,pr,en,Q,fl,R,h,q⟩:=h;obtain⟨⟨u,c⟩,T,h⟩:=bS h;obtain⟨⟨f,d⟩,h2,h⟩:=bS h;ac_rfl;split at h
 ·exact noSome h
 ·rename_i z
  simp only [Ck,not_or,By,Ea,Ei] at z;refine aG λ_ qG=>?_;obtain ⟨⟨⟨w,W⟩,o⟩,U⟩:=z;refine qG ?_;clear qG;cases h;refine ⟨F,pr,en,u,c,R,T,λF1 H1 v O Z J=>?_⟩;refine aG λ_ qG=>?_;obtain ⟨P,X,R2,S⟩:=J.freeze Z;refine qG ?_;clear qG;refine ⟨P,pr,u,f,d,R2,h2,λl m t s I p=>⟨v,t,rfl,?_⟩⟩;have V:Rel K l pr (f.set i (Za (c.1,Zc))) (σ.set i (Za v)) m:=I.store (r:=(c.1,Zc)) (S.mono s) o;have y:Res K l m pr (f.set i (Za (c.1,Zc))) (σ.set i (Za v)) d t:=by
   obtain⟨w2,n⟩:=d;cases n with
   |false=>exact p
   | true =>
    nofun;obtain⟨a,A,Y,L,E,B,q4,N,C,G⟩:=p;ac_rfl;refine⟨a,A,Y,L,E,B,q4,N,λk M x=>?_,G⟩;rcases zca o x with⟨_,e⟩|⟨g,e⟩
    ·cases e
    ·rw[Dh (Ne.symm g)];exact C k M e
  exact q l _ m (O.trans (X.trans s)) (V.store y (by rw[Ed];exact U)) ((Keep.set w _).trans (Keep.set W _))
noncomputable def za3 (i:Nat) (k:GE) (g:GE):GS:=λen=>(g en).bind λp=>match p.1[i]? with
 | some (Za _)=>(k p.1).bind λq=>match q.2,q.1[i]? with
  |(.int n,_),Za (#v[w,2])=>(ixN w.length n).bind λj=>Za (q.1.set i (#v[(w.set j p.2.1),2]),.nx)
  |_,_=>Zb
 |_=>Zb
theorem zra {i:Nat}{k g:GE}(h:tS K mp (za3 i k g) D σ H):tAsg (tE K g) (gSub (tVar i) (tE K k) z3o) D σ H:=by
 obtain⟨F,pr,en,B,U,R,h,q⟩:=h;obtain⟨⟨o,J⟩,I,h⟩:=bS h;refine⟨F,pr,en,o,J,R,I,λY S V x O y=>?_⟩;obtain⟨z,M,R2,C⟩:=y.freeze O;split at h
 ·rename_i Q d;obtain⟨⟨u,r⟩,P,h⟩:=bS h;obtain⟨T,X⟩:=Q;obtain⟨A,b⟩:=R2.has d;refine⟨A,b,z,pr,o,u,r,R2,P,λG W Z s l E=>?_⟩;split at h
  ·rename_i n N ws e c;simp only at e;subst e;obtain⟨j,t,h⟩:=bS h;cases h;obtain⟨a,v,L,w,f,p,q4,m⟩:=l.ownL c;cases w;rw[b] at f;cases f;refine⟨a,v,n,j,rfl,E.isInt,p,by rw[<-m.length];exact t,?_⟩;exact q G σ _ (x.trans (M.trans s)) (l.change c b (m.set (C.mono s) j)) (.refl _ _)
  ·exact noSome h
 ·exact noSome h
noncomputable def gApp (i:Nat) (g:GE):GE:=λen=>match en[i]? with
 | some (Za (.lst _,Zd))=>(g en).bind λp=>match p.1[i]? with
  |some (#v[w,2])=>if w.length<sizeLine then Za (p.1.set i (#v[(w++[p.2.1]),2]),(.non,Zc)) else Zb
  |_=>Zb
 |_=>Zb
theorem zxa {i:Nat}{g:GE}{Q:VK}(h:tE K (gApp i g) σ H Q):tBM K "list" zvk (tVar i) (zek (tE K g) tNil) σ H Q:=by
 nofun;obtain⟨F,pr,en,m,r,R,h,q⟩:=h;ac_rfl;unfold gApp at h;split at h
 ·rename_i L c;nofun;obtain⟨a,f,w,J,d,j,P,M⟩:=R.ownL c;obtain⟨⟨B,u⟩,o,h⟩:=bS h;ac_rfl;refine⟨.ref a,d,.inl ⟨rfl,f,SqL.of' j⟩,F,pr,en,B,u,R,o,λN G n s C y=>?_⟩;nofun;obtain⟨l,A,R2,x⟩:=y.freeze C;ac_rfl;split at h
  ·rename_i O b;split at h
   ·rename_i t;cases h;nofun;obtain⟨E,v,z,k,p,D,I,e⟩:=R2.ownL b;ac_rfl;cases k;rw[d] at p;cases p;refine⟨a,v,n,rfl,rfl,D,by rw[<-e.length];exact t,?_⟩;exact q l _ _ (s.trans A) (R2.change b d (e.append (.cons x .nil))) .non
   ·exact noSome h
  ·exact noSome h
 ·exact noSome h
noncomputable def gExt (i:Nat) (g:GE):GE:=λen=>match en[i]? with
 | some (Za (.lst _,Zd))=>(g en).bind λp=>match p.2.1,p.1[i]? with
  |.lst u,Za (#v[w,2])=>if w.length+u.length<=sizeLine then Za (p.1.set i (#v[(w++u),2]),(.non,Zc)) else Zb
  |_,_=>Zb
 |_=>Zb
noncomputable def gAug (mp:List Nat) (o:O2) (i:Nat) (g:GA):GS:=λen=>match en[i]? with
 |some (#v[w,6])=>(g en).bind λp=>(resA p.1 p.2).bind λu=>(o w u).bind λr=>if mp.contains i || !decide (i<p.1.length) then Zb else Za (p.1.set i (Za r),.nx)
 |_=>Zb
noncomputable def zk8 (mp:List Nat) (T:Tg) (body:GS):List W->En->Option (En×Fl)
 |[],en=>Za (en,.nx)
 | w::a,en=>(tgSet mp T w en).bind λb=>match body b with
  |some (e,.nx)=>zk8 mp T body a e
  |some (e,.cnt)=>zk8 mp T body a e
  |some (e,.brk)=>Za (e,.nx)
  |some (e,.ret r)=>Za (e,.ret r)
  |none=>Zb
noncomputable def gFor (mp:List Nat) (T:Tg) (it:GL) (body:GS):GS:=λen=>(it en).bind λp=>zk8 mp T body p.2 p.1
theorem zy3 {T:Tg}{it:GL}{body:GS} (h:tS K mp (gFor mp T it body) D σ H):tFor (tI K it) (TGof K T) (tS K mp body) D σ H:=by
 nofun;obtain⟨F,pr,en,u,W,R,h,q⟩:=h;obtain⟨⟨Y,b⟩,h1,h⟩:=bS h;ac_rfl;refine⟨F,pr,en,Y,b,R,h1,λM H1 J P R1 ok=>?_⟩;refine⟨λi m f o=>m=b.length-i/\i<=b.length/\∃I O,Same M I/\Rel K I pr O f o/\Keep mp σ f/\zk8 mp T body (b.drop i) O=Za (u,W),⟨_,rfl,Bi _,M,Y,.refl _,R1,.refl _ _,by simpa using h⟩,?_⟩;rintro i m f o ⟨rfl,hi,I,O,n,A,t,a⟩;by_cases d:i<b.length
 ·refine .inr ⟨ok.go i o (n.trans A.sub) d, ?_⟩
  have hd:b.drop i=b[i]::b.drop (i+1):=(Cy d);rw[hd] at a;obtain⟨U,h2,a⟩:=bS (show (tgSet mp T b[i] O).bind _=_ from a);refine⟨λj C=>∃E G,Same M E/\Rel K E pr G j C/\Keep mp σ j/\zk8 mp T body (b.drop (i+1)) G=Za (u,W),?_,?_⟩
  ·rintro j C ⟨E,G,s2,R2,k2,S⟩
   exact⟨b.length-(i+1),by omega,rfl,d,E,G,s2,R2,k2,S⟩
  ·intro x C y
   obtain⟨w,V,out⟩:=ok.yld i o x C (n.trans A.sub) d y;rw[Af d] at V;obtain rfl:=sI V;nofun;obtain⟨X,s3,R3,z⟩:=(out.mono n).close A;ac_rfl;refine zwl (w:=b[i]) R3 z h2 λσ3 R4 L=>?_;cases eb:body U with
   |none=>simp only [eb] at a;exact noSome a
   | some p =>
    obtain⟨Q,Z⟩:=p;refine⟨X,pr,U,Q,Z,R4,eb,?_⟩;have N:Same M X:=n.trans s3;cases Z with
    | nx =>
     simp only [eb] at a;exact λg c B s l k=>⟨g,Q,N.trans s,l,(t.trans L).trans k,a⟩
    | cnt =>
     simp only [eb] at a;exact λg c B s l k=>⟨g,Q,N.trans s,l,(t.trans L).trans k,a⟩
    | brk =>
     simp only [eb] at a;cases a;exact λg c B s l k=>q g c B (P.trans (N.trans s)) l ((t.trans L).trans k)
    | ret r =>
     simp only [eb] at a;cases a;exact λg c B v s l k z=>q g c B v (P.trans (N.trans s)) l ((t.trans L).trans k) z
 ·have e:i=b.length:=by omega
  subst e;rw[List.drop_length] at a;cases a;exact .inl ⟨ok.stop o (n.trans A.sub),q I f o (P.trans n) A t⟩
end
section
variable {X:Cx}
end
section
variable {K:Zg}{σ:St}{H:Hp}
noncomputable def intW:W->Option Int
 |.int k=>Za k
 |_=>Zb
end
section
variable {prog:Program}{w:World}{A:Around}{E:Ze->Zf->Prop}{s:Zf}{it d:Zh}{o:Obj}{es:Array DictEntry}{i ep:Nat}
theorem zsz {Q:Ze->Zf->Prop} (e:(d==sysModules)=Zc) (b:s.heap.get? d=Za o) (f:o.ExactDict) (h:o.data=.dict es ep)
  (c:Q (.ref s.heap.objs.size) { s with heap:=s.heap.push { cls:=.type "dict_keyiterator",data:=.fields #[.ref d,.int 0 0,.int es.size 0,.int ep 0] } }):wpAny (model prog w) A (pyIter (.ref d)) Q E s:=by
 have a:s.TypeIs (.ref d) "dict" := ⟨o,b,f.1⟩;refine wpAny_pyIter_slot a F.slot_dict_iter (Cc F.slot_dict_iter a F.entry_dict_iter ?_ (F.args_dict_iter_1 _));unfold Builtin.«dict.__iter__» Builtin.Dict.dictSlotNone;refine Aa (Aa (wpAny_notOrdered_dict a ?_));show wpAny _ _ (pure (Ze.ref d)) _ _ s;refine Ac ?_;show wpAny _ _ (Builtin.Dict.showsAll d>>=_) _ _ s;unfold Builtin.Dict.showsAll;rw[if_neg (by rw[e];decide)];refine Aa (Ac (Aa (wpAny_dictEntries b h (Aa (wpAny_dictEpoch b h ?_)))));refine Aa (Bp (Ac ⟨_,rfl,"dict_keyiterator",_,⟨_,Ah _ rfl,rfl⟩,F.slot_dict_keyiterator_next.lookup,?_⟩));simpa [rawInt] using c
theorem z47 {Q:Option Ze->Zf->Prop} (h:s.heap.IsKeyIter it d i es.size ep) (g:s.heap.get? d=Za o) (b:o.data=.dict es ep) (l:i<es.size)
  (k:∀f,f.IsKeyIter it d (i+1) es.size ep->Heap.SameBut it s.heap f->Q (Za es[i].key) { s with heap:=f }):wpAny (model prog w) A (pyNext (.ref it)) Q E s:=by
 obtain⟨m,c,j,e⟩:=id h;unfold pyNext;refine Aa (Dv (Bs (name:=Str.ofString "__next__") h.typeIs Ft (Cc Ft h.typeIs F.entry_dict_keyiterator_next ?_ (F.args_dict_keyiterator_next_1 _))));refine Aa (Ac (Aa (Aa ?_)))
 first|refine Aa (Fb h.typeIs (Ac ?_))|refine Aa (Gx h.typeIs (Ac ?_))
 refine Aa (wpAny_fieldsOf c e ?_);have own:Builtin.Dict_items.ownsTuple "dict_keyiterator" = Zc:=by decide
 simp only [own,Cu,Fa];show wpAny _ _ (if (Ze.ref d==Ze.none)=Zd then _ else _) _ _ s;rw[if_neg (show ¬ ((Ze.ref d==Ze.none)=Zd) from Aq)];refine Aa (Ac (Aa (wpAny_dictEntries g b ?_)));rw[if_neg (by simp)];refine Aa (Ac (Aa (wpAny_dictEpoch g b ?_)));rw[if_neg (by simp)];refine Ac ?_;simp only [show ¬ ((i:Int)<0) from by omega,Fa,Em,Bw l];refine Aa ?_
 first|refine Aa (Fb h.typeIs (Ac ?_))|refine Aa (Gx h.typeIs (Ac ?_))
 refine Aa (wpAny_isOneOf_keyiter h.typeIs ?_);show wpAny _ _ (setField (.ref it) 1 (rawInt ((i:Int)+1))>>=_) _ _ s;refine Aa (Gj c e (by simp) ?_);have a:(s.heap.update it (Obj.mapFields (·.setIfInBounds 1 (rawInt ((i:Int)+1))))).IsKeyIter it d (i+1) es.size ep :=
  ⟨_,Gb _ c (Hr (Cw e _)),(Iq ..).trans j,by rw[Cw e];simp [rawInt]⟩
 refine Aa (Bq (Aa (wpAny_isOneOf_keyiter (s:={ s with heap:=s.heap.update it (Obj.mapFields (·.setIfInBounds 1 (rawInt ((i:Int)+1)))) }) a.typeIs ?_)));show wpAny _ _ (pure es[i].key) _ _ _;exact Ac (Ac ⟨_,rfl,Ac (k _ a (Bl ..))⟩)
theorem z8f {Q:Option Ze->Zf->Prop} (n:A.handled=Zb) (h:s.heap.IsKeyIter it d i es.size ep) (f:s.heap.get? d=Za o) (c:o.data=.dict es ep) (l:es.size<=i)
  (k:∀j,Heap.ExtBut it s.heap j->Q Zb { s with heap:=j }):wpAny (model prog w) A (pyNext (.ref it)) Q E s:=by
 obtain⟨q,e,p,g⟩:=id h;unfold pyNext;refine Aa (Dv (Bs (name:=Str.ofString "__next__") h.typeIs Ft (Cc Ft h.typeIs F.entry_dict_keyiterator_next ?_ (F.args_dict_keyiterator_next_1 _))));refine Aa (Ac (Aa (Aa ?_)))
 first|refine Aa (Fb h.typeIs (Ac ?_))|refine Aa (Gx h.typeIs (Ac ?_))
 refine Aa (wpAny_fieldsOf e g ?_);have own:Builtin.Dict_items.ownsTuple "dict_keyiterator" = Zc:=by decide
 simp only [own,Cu,Fa];show wpAny _ _ (if (Ze.ref d==Ze.none)=Zd then _ else _) _ _ s;rw[if_neg (show ¬ ((Ze.ref d==Ze.none)=Zd) from Aq)];refine Aa (Ac (Aa (wpAny_dictEntries f c ?_)));rw[if_neg (by simp)];refine Aa (Ac (Aa (wpAny_dictEpoch f c ?_)));rw[if_neg (by simp)];refine Ac ?_;simp only [show ¬ ((i:Int)<0) from by omega,Fa,Em,Cb l];refine Aa ?_
 first|refine Aa (Fb h.typeIs (Ac ?_))|refine Aa (Gx h.typeIs (Ac ?_))
 show wpAny _ _ (setField (.ref it) 0 .none>>=_) _ _ s;refine Aa (Gj e g (by simp) ?_);show wpAny _ _ (newExc (.type "StopIteration") []>>=_) _ _ _;refine Aa ?_;simp only [newExc,newTuple];refine Aa (Bp ?_ (by size_fits));refine Aa (m:=firstArgMember _ _) (Fc (a:=Ze.none) (by first|rfl|(simp only [firstArgMember];rfl)) ?_);refine Bp ?_ (by size_fits);simp only [raiseNew];refine Aa (wpAny_handled ?_);rw[show A.in1.handled=Zb from n];refine Aa (Ac (wpAny_throw ?_));refine Aa (Ez (T := "StopIteration") (b:=Zd) ⟨_,Ah _ rfl,rfl⟩ isSubtype_stop ?_);exact Ac (k _ (((Bl ..).extBut.push _).push _))
end
theorem zjr {P:Program}{w:World}:∀{b:List (Key×Ze)}{a:List Ze},a.length=b.length->(∀(j:Nat) (v:Ze),a[j]?=Za v->∃k x,b[j]?=Za (k,x)/\(zak P w).is k v=Zd)->Vals (b.map λp=>kV p.1) a
 |[],[],_,_=>.nil
 |[],_::_,h,_=>nomatch h
 |_::_,[],h,_=>nomatch h
 | (k,x)::b,u::a,h,q=>by
  refine .cons ?_ (zjr (Fx h) λj v e=>q (j+1) v e);obtain⟨d,f,e,c⟩:=q 0 u rfl;cases e;rcases keyIs_shape (show zmj k u=Zd from c) with⟨i,t,rfl,rfl⟩|⟨i,t,rfl,rfl⟩
  ·exact⟨t,rfl⟩
  ·exact⟨t,rfl⟩
theorem zok {kvs:List (Key×V)}{vs:List (Key×Ze)}(r:KV kvs vs):(kvs.map λp=>kV p.1)=vs.map λp=>kV p.1:=by
 have:=congrArg (List.map kV) r.keys;rw[Ca,Ca] at this;exact this
noncomputable def ItDz (a:Zh) (o:Obj) (xs:List V):It:=⟨λi H=>i<xs.length/\∃u,H a=Za (.frz o u),λi H x b=>b=H/\xs[i]?=Za x,λi H=>xs.length<=i/\∃u,H a=Za (.frz o u)⟩
theorem zvw {P:Program}{w:World}{K:Zg}{W:Zi}{a it:Zh}{o:Obj}{es:Array DictEntry}{ep:Nat}{xs:List V}(g:o.data=.dict es ep)(D:Vals xs (es.toList.map (·.key))):Turn P w K W (ItDz a o xs) [it] it (λi h=>h.IsKeyIter it a i es.size ep) where
 mem:=by simp
 obj:=λi h f b j=>by
  have e:b=it:=by simpa using j
  subst e;obtain⟨o,e,c,d⟩:=f;exact⟨o,e,λv z=>by rw[d] at z;cases z⟩
 keep:=λi h p f k=>f.at λo e=>k it (by simp) o e
 item:=by
  intro X r A G N i pins s σ H E I n f B;subst r A G;obtain⟨C,u,t⟩:=B;have q:s.heap.get? a=Za o:=(show ObjOk X.prog X.w H s.heap a (.frz o u) from I.hok a _ t).1;have R:xs.length=es.size:=by have:=D.length;simpa using this
  obtain⟨F,x,T,f3,J,L⟩:=n it (by simp);have l:i<es.size:=by omega
  obtain⟨y,M,U⟩:=D.get (Af C);rw[At,Cd,Bw l] at M;obtain rfl:=sI M;refine z47 f q g l λp m S=>?_;have O:Inv X pins σ H { s with heap:=p }:=I.turned (t':=s.toks) (λb o j e=>(S.2 b j).trans e) F x f3 J L;obtain⟨Y,e,c,d⟩:=id m;exact⟨_,rfl,zxl (s:={ s with heap:=p }) e c d #v[0,9] ⟨xs[i],H,O,U,⟨rfl,Af C⟩,m,λb j=>(n b j).1⟩⟩
 done:=by
  intro X r A G N i pins s σ H E I n f B;subst r A G;obtain⟨C,u,t⟩:=B;have q:s.heap.get? a=Za o:=(show ObjOk X.prog X.w H s.heap a (.frz o u) from I.hok a _ t).1;have R:xs.length=es.size:=by have:=D.length;simpa using this
  obtain⟨F,x,T,f3,J,L⟩:=n it (by simp);exact z8f (I.ok.hd N) f q g #v[] λp Q=>⟨rfl,I.turned (t':=s.toks) (λb o j e=>Q b o j e) F x f3 J L⟩
 self:=λ_ _ _ _ _ f h=>wpAny_pyIter_keyiter f h
noncomputable def Fz (H:Hp) (a:Zh) (u:HO) (o:Obj) (H':Hp):Prop:=(H a=Za u/\H'=upd H a (.frz o u))\/(H a=Za (.frz o u)/\H'=H)
noncomputable def KAt (H:Hp):List (List Key×V)->List Zh->Prop:=Paired λp b=>H b=Za (.tup (p.1.map kV))
noncomputable def iDz (i:Nat):TI:=λσ H R=>∃a,σ[i]?=Za (Za (V.ref a)) /\
 ((∃ kvs:List (Key×V),Rd H a (.dK kvs) /\ ∀ o b, Fz H a (.dK kvs) o b → R (ItDz a o (kvs.map λp=>kV p.1)) b) \/
  ∃kvs:List (List Key×V),Rd H a (.dT kvs)/\∀o b bs,Fz H a (.dT kvs) o b->KAt H kvs bs->R (ItDz a o (bs.map V.ref)) b)
theorem zlh {P:Program}{w:World}:∀{a:List DictEntry}{v:List (Key×Ze)},Pairs (zak P w) a v->Vals (v.map λp=>kV p.1) (a.map (·.key))
 |_,_,.nil=>.nil
 | _,_,.cons (kv:=(k,x)) h _ q=>by
  refine .cons ?_ (zlh q);rcases keyIs_shape (show zmj k _=Zd from h) with⟨i,t,rfl,e⟩|⟨i,t,rfl,e⟩
  ·exact⟨t,e⟩
  ·exact⟨t,e⟩
theorem z6n {H:Hp}{κ:List (List Key×Zh×Ze)->List DictEntry}:∀{kvs:List (List Key×V)}{x:List (List Key×Zh×Ze)},KT H kvs x->KAt H kvs (x.map (·.2.1))
 |_,_,.nil=>.nil
 |_,_,.cons h q=>.cons h.2.1 (z6n (κ:=κ) q)
theorem zle:∀bs:List Zh,Vals (bs.map V.ref) (bs.map Ze.ref)
 |[]=>.nil
 |_::bs=>.cons rfl (zle bs)
section
variable {X:Cx}{tg:Zi}
theorem frzI {pins:List (Zh×Obj)}{σ:St}{H:Hp}{s:Zf}{a:Zh}{u:HO}{o:Obj}(I:Inv X pins σ H s)(d:Mut (Za u))(g:Rd H a u)(h:s.heap.get? a=Za o)(f:H a=Za u->ObjOk X.prog X.w H s.heap a u->ObjOk X.prog X.w (upd H a (.frz o u)) s.heap a u):∃b,Fz H a u o b/\Inv X pins σ b s:=by
 rcases g with e|⟨i,e⟩
 ·refine⟨_,.inl ⟨e,rfl⟩, ?_⟩;have:=zg3 (h':=s.heap) (t':=s.toks) (ob:=.frz o u) I (by rw[e];exact d) ⟨rfl,λ_ _=>rfl⟩ ⟨o,h⟩ ⟨h,f e (I.hok a _ e)⟩;exact this
 ·obtain⟨c,_⟩:=(show ObjOk X.prog X.w H s.heap a (.frz i u) from I.hok a _ e);rw[h] at c;obtain rfl:=sI c;exact⟨H,.inr ⟨e,rfl⟩,I⟩
theorem yaj {l:Zi}{i:Nat}(L:PE X l (tVar i)):PI X tg l (iDz i):=λpins s σ H R I h=>by
 obtain⟨a,N,h⟩:=h;refine thn (L pins s σ H (λx k=>x=.ref a/\k=H) I ⟨_,N,rfl,rfl⟩) λv n ⟨x,k,A,Q,e,M⟩=>?_;subst e M;cases Q;have fp:∀{f},Inv X pins σ f n->∀b∈[n.heap.objs.size],FpOk X pins f b:=λG b K=>by
  rw[Ao] at K;subst K;exact G.fpOk (Ag _) (G.hok.fresh (Ag _))
 rcases h with⟨kvs,t,q⟩|⟨kvs,t,q⟩
 ·obtain⟨z,m,W,r,o,E,S,j,B,d,U,O,P⟩:=dk_rd A.hok t;obtain⟨f,C,y⟩:=frzI (u:=.dK kvs) A True.intro t j λ_ z=>z;have F:Vals (kvs.map λp=>kV p.1) (E.toList.map (·.key)):=by rw[zok r];exact zlh O
  exact zsz m j B d ⟨_,_,_,_,f,rfl,y.kept (t':=n.toks) λb o e=>Ab _ e,zvw d F,⟨_,Ah _ rfl,rfl,rfl⟩,fp y,q o f C⟩
 ·obtain ⟨z,m,g,r,o,E,S,j,B,d,D,P⟩:=(show ObjOk X.prog X.w k n.heap a (.dT kvs) from rd_of A.hok t);have T:KAt k kvs (g.map (·.2.1)):=z6n (κ:=λ_=>[]) r;obtain ⟨f,C,y⟩:=frzI (u:=.dT kvs) A True.intro t j λe z=>by
   obtain⟨z,m,g,r,w⟩:=z;exact⟨z,m,g,KT.keeps (show KT k kvs g from r) λc Y J=>by rw[upd_ne (zzv J e (by intro z;cases z))];exact J,w⟩
  have F:Vals ((g.map (·.2.1)).map V.ref) (E.toList.map (·.key)):=by
   have:=zle (g.map (·.2.1));rw[Ca,Ca] at this;rw[D,Ca,Ca];exact this
  exact zsz m j B d ⟨_,_,_,_,f,rfl,y.kept (t':=n.toks) λb o e=>Ab _ e,zvw d F,⟨_,Ah _ rfl,rfl,rfl⟩,fp y,q o f _ C T⟩
end
noncomputable def zve:Key->W
 |.inl i=>.int i
 |.inr x=>.str x
noncomputable def dkW:DKey->W
 |.inl k=>zve k
 |.inr a=>.tup (a.map zve)
noncomputable def zo7 (i:Nat):GL:=λen=>match en[i]? with
 |some (Za (.dct k w,Zd))=>Za (en.set i (Za (.dcz k w,Zc)),k.map dkW)
 |some (Za (.dcz k w,Zc))=>Za (en,k.map dkW)
 |_=>za1 (gVar i) en
section
variable {K:Zg}{F F' H:Hp}{pr:Prt}{en:En}{σ:St}
theorem z8t:∀k:Key,Rep K F (zve k) (kV k)
 |.inl i=>.int i
 |.inr x=>.str x
theorem zof:∀a:List Key,Reps K F (a.map zve) (a.map kV)
 |[]=>.nil
 |k::a=>.cons (z8t k) (zof a)
theorem z1p:∀{a:List Key}{b:List V},a.length=b.length->((a.zip b).map λp=>kV p.1)=a.map kV
 |[],_,_=>rfl
 |_::_,[],h=>nomatch h
 | j::a,v::b,h=>by
  rw[Bh,Ak,Ak,z1p (Fx h)]
theorem zpc {ks:List Key}{vs:List V}(h:ks.length=vs.length):Reps K F ((ks.map .inl).map dkW) ((ks.zip vs).map λp=>kV p.1):=by
 rw[z1p h,Ca];exact zof ks
theorem zi7:∀{a:List (List Key)}{b:List V}{bs:List Zh},a.length=b.length->KAt F (a.zip b) bs->Reps K F ((a.map .inr).map dkW) (bs.map V.ref)
 |[],_,_,_,.nil=>.nil
 |_::_,[],_,h,_=>nomatch h
 |k::a,v::b,_,h,.cons e q=>.cons (.tup e (zof k)) (zi7 (Fx h) q)
theorem zw5 {a:Zh}{o:Obj}{u:HO}{xs:List V}{ws:List W}(h:F a=Za (.frz o u))(r:Reps K F ws xs):ItOk K F (ItDz a o xs) ws where
 go:=λi H s b=>⟨by rw[<-r.length];exact b,u,s _ _ h⟩
 stop:=λH s=>⟨by rw[r.length];exact Ag _,u,s _ _ h⟩
 yld:=λi H x c s b y=>by
  obtain⟨e,y⟩:=y;subst e;obtain⟨w,e,q⟩:=r.getV y;exact⟨w,e,.val q⟩
theorem Rel.addT (R:Rel K F pr en σ H) {b:Zh}{xs:List V} (h:H b=Za (.tup xs)):∃F',Same F F'/\F' b=Za (.tup xs)/\Rel K F' pr en σ H:=by
 cases e:F b with
 | some u =>
  have:=R.sub b u e;rw[h] at this;obtain rfl:=sI this;exact⟨F,.refl F,e,R⟩
 | none =>
  have s:Same F (upd F b (.tup xs)):=Same.new e _;refine⟨_,s,upd_same,R.len,λc u g=>?_,λi w l=>?_,λi w l=>?_,R.inj,λq o p=>?_,R.tb.go (λ_ _ z=>z) (λc r g f=>⟨g,by rw[upd_ne (zzv g h (by intro z;cases z))];exact f⟩) s λb r e h=>h⟩
  ·by_cases n:c=b
   ·subst n;rw[upd_same] at g;obtain rfl:=sI g;exact h
   ·rw[upd_ne n] at g;exact R.sub _ _ g
  ·obtain ⟨v,d,k⟩:=R.val i w l
   exact⟨v,d,k.mono s⟩
  ·obtain ⟨a,o,x, d,k,j,t,m⟩:=R.own i w l
   have ne:a≠b:=λz=>by subst z;rw[h] at j;obtain rfl:=sI j;cases m
   exact⟨a,o,x,d,k,j,by rw[upd_ne ne];exact t,m.mono s⟩
  ·obtain ⟨d,k,j⟩:=R.prt q o p
   have ne:q≠b:=λz=>by subst z;rw[h] at d;obtain rfl:=sI d;exact R.tb.1.2 _ _ p
   exact⟨d,by rw[upd_ne ne];exact k,j⟩
theorem KAt.mono (s:Same F F'):∀{kvs:List (List Key×V)}{bs:List Zh},KAt F kvs bs->KAt F' kvs bs
 |_,_,.nil=>.nil
 |_,_,.cons e q=>.cons (s _ _ e) (KAt.mono s q)
theorem KAt.upd {a:Zh}{us:List (List Key×V)}{o:HO}(h:H a=Za (.dT us)):∀{kvs:List (List Key×V)}{bs:List Zh},KAt H kvs bs->KAt (L2.upd H a o) kvs bs
 |_,_,.nil=>.nil
 |_,_,.cons e q=>.cons (by rw[upd_ne (zzv e h (by intro z;cases z))];exact e) (KAt.upd h q)
theorem Rel.addTs:∀{kvs:List (List Key×V)}{bs:List Zh}{F:Hp},Rel K F pr en σ H->KAt H kvs bs->∃F',Same F F'/\KAt F' kvs bs/\Rel K F' pr en σ H
 |_,_,F,R,.nil=>⟨F,.refl F,.nil,R⟩
 | _,_,F,R,.cons e q=>by
  obtain⟨g,b,a,c⟩:=R.addT e;obtain⟨f,s,d,R2⟩:=Rel.addTs c q;exact⟨f,b.trans s,.cons (s _ _ a) d,R2⟩
theorem Rel.frz (R:Rel K F pr en σ H) {i:Nat}{w l:W}{a:Zh}{u:HO} (o:Obj) (e:en[i]?=Za (Za (w,Zd))) (y:σ[i]?=Za (Za (V.ref a))) (X:H a=Za u) (D:F a=Zb) (Z:OwnR K F w u) (N:∀F',Same F F'->F' a=Za (.frz o u)->Rep K F' l (.ref a)) :
  Same F (upd F a (.frz o u))/\Rel K (upd F a (.frz o u)) pr (en.set i (#v[l,6])) σ (upd H a (.frz o u)):=by
 have Q:i<en.length:=(Ai.mp e).1;have s:Same F (upd F a (.frz o u)):=Same.new D _;have I:∀p,u≠.tbl p:=λp z=>by cases Z<;>cases z
 have g:∀j x b,(en.set i (#v[l,6]))[j]?=Za (Za (x,b))->(j=i/\x=l/\b=Zc)\/(j≠i/\en[j]?=Za (Za (x,b))):=λj x b h=>by
  rcases zca Q h with⟨z,q⟩|z
  ·cases q;exact .inl ⟨z,rfl,rfl⟩
  ·exact .inr z
 refine⟨s,by rw[Ed];exact R.len,R.sub.upd_both a _,λj x c=>?_,λj x c=>?_,λj k b P U Y L=>?_,λq J O=>?_,R.tb.go (λ_ _ z=>z) (λb p e f=>?_) s λb p e h=>h⟩
 ·rcases g j x Zc c with⟨rfl,rfl,_⟩|⟨_,z⟩
  ·exact⟨_,y,N _ s upd_same⟩
  ·obtain⟨G, r,d⟩:=R.val j x z;exact⟨G,r,d.mono s⟩
 ·rcases g j x Zd c with⟨_,_,z⟩|⟨ne,z⟩
  ·cases z
  ·obtain⟨m, t, A, r,d,E,q4,M⟩:=R.own j x z;have n:m≠a:=λq=>by subst q;exact ne (R.inj j i m _ _ z e d y)
   exact⟨m,t,A,r,d,by rw[upd_ne n];exact E,by rw[upd_ne n];exact q4,M.mono s⟩
 ·rcases g j P Zd Y with⟨_,_,z⟩|⟨_,C⟩
  ·cases z
  ·rcases g k U Zd L with⟨_,_,z⟩|⟨_,T⟩
   ·cases z
   ·exact R.inj j k b _ _ C T
 ·obtain⟨S,h2,B⟩:=R.prt q J O;have ne:q≠a:=λz=>by subst z;exact B i w e y
  refine⟨by rw[upd_ne ne];exact S,by rw[upd_ne ne];exact h2,λj x c=>?_⟩;rcases g j x Zd c with⟨_,_,z⟩|⟨_,z⟩
  ·cases z
  ·exact B j x z
 ·have ne:b≠a:=λz=>by subst z;rw[X] at e;exact I p (sI e)
  exact⟨by rw[upd_ne ne];exact e,by rw[upd_ne ne];exact f⟩
theorem Fz.new {a:Zh}{u:HO}{o:Obj}{H H':Hp}(h:Fz H a u o H')(e:H a=Za u)(n:∀c b,u≠.frz c b):H'=upd H a (.frz o u):=by
 rcases h with⟨_,h⟩|⟨h,_⟩
 ·exact h
 ·rw[e] at h;exact absurd (sI h) (n _ _)
theorem Fz.old {a:Zh}{u:HO}{o b:Obj}{H H':Hp}(h:Fz H a u o H')(e:H a=Za (.frz b u))(n:∀b c,u≠.frz b c):H'=H/\o=b:=by
 rcases h with⟨h,_⟩|⟨h,d⟩
 ·rw[e] at h;exact absurd (sI h).symm (n _ _)
 ·rw[e] at h;injection h with h;injection h with h;exact⟨d,h.symm⟩
noncomputable def iDzs (K:Zg) (i:Nat):TI:=λσ H R=>iDz i σ H R\/iSeq K (tVar i) σ H R
theorem z6s {X:Cx}{t l:Zi}{i:Nat}(a:PE X l (tVar i)):PI X t l (iDzs X.K i):=λpins s σ H R I h=>h.elim (yaj a pins s σ H R I) (zt8 a pins s σ H R I)
theorem zto {i:Nat}{R:It->Hp->Prop} (h:tI K (zo7 i) σ H R):iDzs K i σ H R:=by
 obtain⟨F,pr,en,n,G,Re,h,q⟩:=h;unfold zo7 at h;split at h
 ·rename_i l p e
  injection h with h;obtain⟨rfl,rfl⟩:=Prod.mk.inj h;obtain⟨a,u,J,I,g,d,B,D⟩:=Re.own i _ e;subst I;refine .inl ⟨a,g,?_⟩;generalize c:W.dct l p=w at D;cases D with
  |lst r=>cases c
  | dct b r =>
   cases c;refine .inl ⟨_,.inl d,λo t f=>?_⟩;rw[f.new d (λ_ _ z=>nomatch z)];obtain⟨m,x⟩:=Re.frz o e g d B (.dct b r) λF' s A=>.dcz A b (r.mono s);exact q _ _ _ m x (zw5 upd_same (zpc b))
  | dctT b r =>
   cases c;refine .inr ⟨_,.inl d,λo t bs f y=>?_⟩;rw[f.new d (λ_ _ z=>nomatch z)];obtain⟨m,x⟩:=Re.frz o e g d B (.dctT b r) λF' s A=>.dczT A b (r.mono s);obtain⟨E,j,k,R2⟩:=x.addTs (y.upd d);exact q _ _ _ (m.trans j) R2 (zw5 (j _ _ upd_same) (zi7 b k))
 ·rename_i l p e
  injection h with h;obtain⟨rfl,rfl⟩:=Prod.mk.inj h;obtain⟨v,g,C⟩:=Re.val i _ e;clear h;generalize c:W.dcz l p=w at C;cases C with
  | dcz h b r =>
   cases c;refine .inl ⟨_,g,.inl ⟨_,.inr ⟨_,Re.sub _ _ h⟩,λo t f=>?_⟩⟩;obtain⟨rfl,rfl⟩:=f.old (Re.sub _ _ h) (λ_ _ z=>nomatch z);exact q _ _ _ (.refl _) Re (zw5 h (zpc b))
  | dczT h b r =>
   cases c;refine .inl ⟨_,g,.inr ⟨_,.inr ⟨_,Re.sub _ _ h⟩,λo t bs f y=>?_⟩⟩;obtain⟨rfl,rfl⟩:=f.old (Re.sub _ _ h) (λ_ _ z=>nomatch z);obtain⟨E,j,k,R2⟩:=Re.addTs y;exact q _ _ _ j R2 (zw5 (j _ _ h) (zi7 b k))
  |_=>cases c
 ·exact .inr (zpi (zg9 ⟨F,pr,en,n,G,Re,h,q⟩))
end
theorem Rel.drop {K:Zg}{F H:Hp}{pr:Prt}{en:En}{σ:St}(R:Rel K F pr en σ H){i:Nat}{w:W}(e:en[i]?=Za (#v[w,5])):∃v,σ[i]?=Za (Za v)/\Rel K F pr (en.set i Zb) σ H/\Res K F H pr (en.set i Zb) σ (w,Zd) v:=by
 have r:i<en.length:=(Ai.mp e).1;nofun;obtain⟨a,m,n,s,c,d,l,p⟩:=R.own i w e;ac_rfl;have g:∀(j:Nat) (x:W×Bool),(en.set i Zb)[j]?=Za (Za x)->j≠i/\en[j]?=Za (Za x):=λj x h=>by
  rcases zca r h with⟨_,q⟩|z
  ·cases q
  ·exact z
 refine⟨_,c,⟨by rw[Ed];exact R.len,R.sub,λj u q=>R.val j u (g j _ q).2,λj u q=>R.own j u (g j _ q).2,λj k b u f q t=>R.inj j k b u f (g j _ q).2 (g k _ t).2,λb o q=>⟨(R.prt b o q).1,(R.prt b o q).2.1,λj u z=>(R.prt b o q).2.2 j u (g j _ z).2⟩,R.tb⟩,a,m,n,s,rfl,d,l,p,λj u q z=>?_,λb o q z=>?_⟩
 ·exact (g j _ q).1 (R.inj j i a _ _ (g j _ q).2 e z c)
 ·subst z;exact (R.prt b o q).2.2 i w e c
section
variable {prog:Program}{w:World}{A:Around}{E:Ze->Zf->Prop}{s:Zf}{d:Zh}{o:Obj}{es:Array DictEntry}{ep:Nat}
end
noncomputable abbrev Cap:=List (Option Nat)
noncomputable def zft (cap:Cap) (en:En):En:=cap.map λo=>match o with
 |some i=>(en[i]?).getD Zb
 |none=>Zb
noncomputable def zap (cap:Cap) (i:Nat):Option Nat:=cap.findIdx? (· == Za i)
noncomputable def zb6 (cap:Cap):Bool:=(List.range cap.length).all λj=>match cap[j]? with
 |some (Za i)=>zap cap i==Za j
 |_=>Zd
noncomputable def capKeep (cap:Cap):List Nat:=(List.range cap.length).filter λj=>match cap[j]? with
 |some (Za _)=>Zd
 |_=>Zc
noncomputable def zao (cap:Cap) (en c:En):En:=en.mapIdx λi x=>match zap cap i with
 |some j=>(c[j]?).getD Zb
 |none=>x
theorem zba {cap:Cap}{i j:Nat}(h:zap cap i=Za j):cap[j]?=Za (Za i):=by
 unfold zap at h;obtain⟨b,a,_⟩:=Gw.mp h;rw[Af b];have:cap[j]=Za i:=by simpa using a
 rw[this]
theorem zcg {cap:Cap}{i:Nat}(h:zap cap i=Zb)(j:Nat):cap[j]?≠Za (Za i):=λe=>by
 unfold zap at h;have:=List.findIdx?_eq_none_iff.mp h (Za i) (Dg e);simp at this
theorem zf7 {cap:Cap}(h:zb6 cap=Zd){i j:Nat}(e:cap[j]?=Za (Za i)):zap cap i=Za j:=by
 unfold zb6 at h;have a:j<cap.length:=(Ai.mp e).1;have:=Bf.mp h j (Cj.mpr a);simp only [e] at this;simpa using this
theorem zna {cap:Cap}{i j:Nat}(e:cap[j]?=Za (Za i)):j∈capKeep cap:=by
 unfold capKeep;exact Cv.mpr ⟨Cj.mpr (Ai.mp e).1,by simp only [e]⟩
theorem zc3 {cap:Cap}{en:En}{j:Nat}{x:W×Bool} (h:(zft cap en)[j]?=Za (Za x)):∃i,cap[j]?=Za (Za i)/\en[i]?=Za (Za x):=by
 unfold zft at h;rw[At] at h;cases e:cap[j]? with
 |none=>rw[e] at h;exact noSome h
 | some o =>
  rw[e] at h;cases o with
  |none=>cases h
  | some i =>
   refine⟨i,rfl,?_⟩;have a:(en[i]?).getD Zb=Za x:=sI h;cases e2:en[i]? with
   |none=>rw[e2] at a;exact noSome a
   |some z=>rw[e2] at a;exact congrArg Za a
theorem zqv {cap:Cap}{σ:St}{i j:Nat}(h:cap[j]?=Za (Za i)):(capSt cap σ)[j]?=Za ((σ[i]?).getD Zb):=by
 unfold capSt;rw[At,h]
 rfl
theorem ze1 {cap:Cap}{σ:St}{i j:Nat}{v:V}(h:cap[j]?=Za (Za i))(a:σ[i]?=Za (Za v)):(capSt cap σ)[j]?=Za (Za v):=by
 rw[zqv h,a];rfl
theorem backEn_get {cap:Cap}{en b:En}{i:Nat}{x:W×Bool} (h:(zao cap en b)[i]?=Za (Za x)):(∃j,zap cap i=Za j/\b[j]?=Za (Za x))\/(zap cap i=Zb/\en[i]?=Za (Za x)):=by
 unfold zao at h;rw[Fm] at h;cases e:en[i]? with
 |none=>rw[e] at h;exact noSome h
 | some o =>
  rw[e] at h;cases c:zap cap i with
  |none=>simp only [c,Hm] at h;exact .inr ⟨rfl,h⟩
  | some j =>
   simp only [c,Hm] at h;have a:(b[j]?).getD Zb=Za x:=sI h;refine .inl ⟨j,rfl,?_⟩;cases e2:b[j]? with
   |none=>rw[e2] at a;exact noSome a
   |some z=>rw[e2] at a;exact congrArg Za a
noncomputable def zbm (pr:Prt) (cap:Cap) (en:En) (σ:St) (H:Hp):Prt:=λb o=>pr b o\/∃(j:Nat) (w:W),en[j]?=Za (#v[w,5])/\zap cap j=Zb/\σ[j]?=Za (Za (V.ref b))/\H b=Za o
noncomputable def zh9 (p:Prt) (a:Zh) (vs:List V):Prt:=λb o=>p b o\/(b=a/\o=.lst vs)
section
variable {K:Zg}{F H:Hp}{pr pb:Prt}{en:En}{σ:St}
theorem Rel.ownT (R:Rel K F pr en σ H){j:Nat}{w:W}{b:Zh}{ps:Array Ze}(e:en[j]?=Za (#v[w,5]))(s:σ[j]?=Za (Za (V.ref b))):H b≠Za (.tbl ps):=λz=>by
 obtain⟨a,o,f,_,c,h,_,d⟩:=R.own j w e;rw[s] at c;cases c;rw[z] at h;obtain rfl:=sI h;cases d
theorem zix {cap:Cap}{b:Zh}{ps:Array Ze}(R:Rel K F pr en σ H)(e:H b=Za (.tbl ps))(h:∀o,¬ pr b o):∀o,¬ zbm pr cap en σ H b o:=λo z=>by
 rcases z with z|⟨j,w,q,_,a,_⟩
 ·exact h o z
 ·exact R.ownT q a e
theorem ziv {cap:Cap}{b:Zh}{xs:List V}(R:Rel K F pr en σ H)(z:zbm pr cap en σ H b (.tup xs)):pr b (.tup xs):=by
 rcases z with z|⟨j,w,q,_,f,d⟩
 ·exact z
 ·obtain⟨a,o,g, _,c,h,_,e⟩:=R.own j w q;rw[f] at c;cases c;rw[d] at h;obtain rfl:=sI h;cases e
theorem Rel.accUpd {c:Zh}{vs us:List V}(R:Rel K F (zh9 pb c vs) en σ H)(A:∀b o,pb b o->b≠c):Rel K F (zh9 pb c us) en σ (upd H c (.lst us)):=by
 obtain⟨h,g,d⟩:=R.prt c (.lst vs) (.inr ⟨rfl,rfl⟩);have n:∀b p,H b=Za (.tbl p)->b≠c:=λb p e z=>by subst z;rw[h] at e;cases e
 have nx:∀b φ,H b=Za (.ext φ)->b≠c:=λb φ e z=>by subst z;rw[h] at e;cases e
 refine⟨R.len,λb o e=>?_,R.val,λi w e=>?_,R.inj,λb o q=>?_,R.tb.go (λb B z=>z.elim .inl λz=>nomatch z.2) (λb p e f=>⟨by rw[upd_ne (n b p e)];exact e,f⟩) (.refl F) λb p e s o z=>z.elim (λz=>s o (.inl z)) λz=>n b p e z.1⟩
 ·have:b≠c:=λz=>by subst z;rw[g] at e;exact noSome e
  rw[upd_ne this];exact R.sub _ _ e
 ·refine aG λG qG => ?_;obtain⟨a,v,x,m,j,l,t,y⟩:=R.own i w e;ac_rfl;have:a≠c:=λz=>by subst z;exact d i w e j
  exact⟨a,v,x,m,j,by rw[upd_ne this];exact l,t,y⟩
 ·rcases q with q|⟨rfl,rfl⟩
  ·obtain⟨k,r,u⟩:=R.prt b o (.inl q);exact⟨by rw[upd_ne (A b o q)];exact k,r,u⟩
  ·exact⟨upd_same,g,d⟩
theorem zwz {cap:Cap}{a:Zh}(R:Rel K F pr en σ H)(h:H a=Zb):∀b o,zbm pr cap en σ H b o->b≠a:=λb o q=>by
 rcases q with q|⟨j,w,_,_,_,q⟩
 ·exact zad (R.prt b o q).1 h
 ·exact zad q h
theorem Rel.block {cap:Cap}{m:Zh}(R:Rel K F pr en σ H)(p:H m=Zb)(M:zb6 cap=Zd):Rel K F (zh9 (zbm pr cap en σ H) m []) (zft cap en) (capSt cap σ) (upd H m (.lst [])):=by
 have Y:F m=Zb:=R.sub.free p;have R2:=R.lay p (.lst []);refine⟨by unfold zft capSt;rw[Ad,Ad],R2.sub,λj w e=>?_,λj w e=>?_,λj l a w w' D A B y=>?_,λb o q=>?_,R.tb.go (λb xs z=>z.elim (ziv R) λz=>nomatch z.2) (λb S e f=>⟨by rw[upd_ne (zad e p)];exact e,f⟩) (.refl F) λb S e Z o z=>z.elim (zix R e Z o) λz=>zad e p z.1⟩
 ·refine aG λG qG => ?_;obtain⟨i,c,e⟩:=zc3 e;obtain⟨v,t,h⟩:=R.val i w e;ac_rfl;exact⟨v,ze1 c t,h⟩
 ·refine aG λG qG => ?_;obtain⟨i,c,e⟩:=zc3 e;obtain⟨a,u,C,t,h,g,n,E⟩:=R2.own i w e;ac_rfl;exact⟨a,u,C,t,ze1 c h,g,n,E⟩
 ·refine aG λG qG => ?_;obtain⟨i,O,D⟩:=zc3 D;obtain⟨k,N,A⟩:=zc3 A;obtain⟨i',s,B⟩:=capSt_get B;obtain⟨k',r,y⟩:=capSt_get y;ac_rfl;rw[O] at s;cases s;rw[N] at r;cases r;have:=R.inj i k a _ _ D A B y;subst this;have x:=zf7 M O;rw[zf7 M N] at x;exact (sI x).symm
 ·have d:∀(j:Nat) (w:W),(zft cap en)[j]?=Za (Za (w,Zd))->∃(i:Nat) (a:Zh),cap[j]?=Za (Za i)/\en[i]?=Za (Za (w,Zd))/\σ[i]?=Za (Za (V.ref a))/\(capSt cap σ)[j]?=Za (Za (V.ref a))/\∃o,H a=Za o:=λj w e=>by
   nofun;obtain⟨i,c,e⟩:=zc3 e;obtain⟨a,u,C,t,h,g,n,E⟩:=R.own i w e;ac_rfl;exact⟨i,a,c,e,h,ze1 c h,_,g⟩
  rcases q with (q|⟨L,U,P,T,I,J⟩)|⟨rfl,rfl⟩
  ·obtain⟨Q,X,b3⟩:=R2.prt b o q;refine⟨Q,X,λj w e=>?_⟩;nofun;obtain⟨i,a,_,e,h,g,_⟩:=d j w e;ac_rfl;rw[g];intro z;cases z;exact b3 i w e h
  ·refine aG λG qG => ?_;obtain⟨a,u,C,t,h,g,n,E⟩:=R.own L U P;ac_rfl;rw[I] at h;cases h;refine⟨by rw[upd_ne (zad J p)];exact J,n,λj w e=>?_⟩;nofun;obtain⟨i,a,c,e,h,g,_⟩:=d j w e;ac_rfl;rw[g];intro z;cases z;have:=R.inj i L _ _ _ e P h I;subst this;exact zcg T j c
  ·refine⟨upd_same,Y,λj w e => ?_⟩;nofun;obtain⟨i,a,c,e,h,g,o,n⟩:=d j w e;ac_rfl;rw[g];intro z;cases z;rw[p] at n;exact noSome n
theorem Rel.unblock {cap:Cap}{p:Zh}{t H':Hp}{J:En}{n:St}{vs:List V}{ws:List W} (R:Rel K F pr en σ H) (T:H p=Zb) (s:Same F t) (y:Rel K t (zh9 (zbm pr cap en σ H) p vs) J n H') (X:Keep (capKeep cap) (capSt cap σ) n) (rs:Reps K t ws vs) :
  Rel K t pr (zao cap en J) σ H'/\Res K t H' pr (zao cap en J) σ (.lst ws,Zd) (.ref p):=by
 have slot:∀(i j:Nat) (v:V),zap cap i=Za j->n[j]?=Za (Za v)->σ[i]?=Za (Za v):=λi j v c e=>by
  have U:=zba c;rw[X j (zna U),zqv U] at e;have N:(σ[i]?).getD Zb=Za v:=sI e;cases q:σ[i]? with
  |none=>rw[q] at N;exact noSome N
  |some z=>rw[q] at N;exact congrArg Za N
 obtain⟨a1,a2,Z⟩:=y.prt p (.lst vs) (.inr ⟨rfl,rfl⟩);have un:∀(i:Nat) (w:W),zap cap i=Zb->en[i]?=Za (#v[w,5])->∃(a:Zh) (vs:HO) (ws:W),w=ws/\σ[i]?=Za (Za (V.ref a))/\H a=Za vs/\H' a=Za vs/\t a=Zb/\OwnR K F ws vs/\∀(j:Nat) (D:W),J[j]?=Za (#v[D,5])->n[j]?≠Za (Za (V.ref a)):=λi w c e=>by
  nofun;obtain⟨a,vs,ws,r,h,d,E,C⟩:=R.own i w e;obtain⟨O,Q,S⟩:=y.prt a vs (.inl (.inr ⟨i,w,e,c,h,d⟩));ac_rfl;exact⟨a,vs,ws,r,h,d,O,Q,C,S⟩
 have g:∀(i j:Nat) (w:W),zap cap i=Za j->J[j]?=Za (#v[w,5])->∃(a:Zh) (vs:HO) (ws:W),w=ws/\σ[i]?=Za (Za (V.ref a))/\n[j]?=Za (Za (V.ref a))/\H' a=Za vs/\t a=Zb/\OwnR K t ws vs:=λi j w c e=>by
  nofun;obtain⟨a,vs,ws,r,h,d,E,C⟩:=y.own j w e;ac_rfl;exact⟨a,vs,ws,r,slot i j _ c h,h,d,E,C⟩
 refine⟨⟨by unfold zao;rw[List.length_mapIdx];exact R.len,y.sub,λi w e=>?_,λi w e=>?_,λi k a w D A m P M=>?_,λb o q=>?_,y.tb.go (λb xs z=>.inl (.inl z)) (λb Y e f=>⟨e,f⟩) (.refl t) λb Y e hh o z=>hh o (.inl (.inl z))⟩,p,_,_,rfl,rfl,a1,a2,.lst rs,λi w e=>?_,λb o q=>zad (R.prt b o q).1 T⟩
 ·rcases backEn_get e with⟨j,c,e⟩|⟨c,e⟩
  ·obtain⟨v,r,h⟩:=y.val j w e;exact⟨v,slot i j v c r,h⟩
  ·obtain⟨v,r,h⟩:=R.val i w e;exact⟨v,r,h.mono s⟩
 ·rcases backEn_get e with⟨j,c,e⟩|⟨c,e⟩
  ·refine aG λG qG => ?_;obtain⟨a,vs,ws,r,h,_,d,E,C⟩:=g i j w c e;ac_rfl;exact⟨a,vs,ws,r,h,d,E,C⟩
  ·refine aG λG qG => ?_;obtain⟨a,vs,ws,r,h,_,d,E,C,_⟩:=un i w c e;ac_rfl;exact⟨a,vs,ws,r,h,d,E,C.mono s⟩
 ·rcases backEn_get A with⟨j,c,A⟩|⟨c,A⟩
  ·refine aG λG qG => ?_;obtain⟨L,_,_,_,h,d,_⟩:=g i j w c A;ac_rfl;rw[P] at h;cases h;rcases backEn_get m with⟨l,B,m⟩|⟨B,m⟩
   ·refine aG λG qG => ?_;obtain⟨L,_,_,_,u,I,_⟩:=g k l D B m;ac_rfl;rw[M] at u;cases u;have:=y.inj j l a _ _ A m d I;subst this;have x:=zba c;rw[zba B] at x;cases x;rfl
   ·refine aG λG qG => ?_;obtain⟨L,_,_,_,u,_,_,_,_,I⟩:=un k D B m;ac_rfl;rw[M] at u;cases u;exact absurd d (I j w A)
  ·refine aG λG qG => ?_;obtain⟨L,_,_,_,h,_,_,_,_,d⟩:=un i w c A;ac_rfl;rw[P] at h;cases h;rcases backEn_get m with⟨l,B,m⟩|⟨B,m⟩
   ·refine aG λG qG => ?_;obtain⟨L,_,_,_,u,I,_⟩:=g k l D B m;ac_rfl;rw[M] at u;cases u;exact absurd I (d l D m)
   ·exact R.inj i k a _ _ A m P M
 ·obtain⟨O,Q,S⟩:=y.prt b o (.inl (.inl q));refine⟨O,Q,λi w e=>?_⟩;rcases backEn_get e with⟨j,c,e⟩|⟨c,e⟩
  ·refine aG λG qG => ?_;obtain⟨a,_,_,_,h,d,_⟩:=g i j w c e;ac_rfl;rw[h];intro z;cases z;exact S j w e d
  ·exact (R.prt b o q).2.2 i w e
 ·rcases backEn_get e with⟨j,c,e⟩|⟨c,e⟩
  ·refine aG λG qG => ?_;obtain⟨a,_,_,_,h,d,_⟩:=g i j w c e;ac_rfl;rw[h];intro z;cases z;exact Z j w e d
  ·refine aG λG qG => ?_;obtain⟨a,_,_,_,h,d,_⟩:=un i w c e;ac_rfl;rw[h];intro z;cases z;rw[T] at d;exact noSome d
end
noncomputable def zhk (mp:List Nat) (T:Tg) (tc:GT) (te:GE):List W->En->Option (En×List W)
 |[],c=>Za (c,[])
 | w::b,c=>(tgSet mp T w c).bind λd=>match tc d with
  |#v[a,5]=>(te a).bind λp=>(zhk mp T tc te b p.1).bind λq=>Za (q.1,p.2.1::q.2)
  |#v[a,6]=>zhk mp T tc te b a
  |none=>Zb
noncomputable def zbp (cap:Cap) (T:Tg) (it:GL) (tc:GT) (te:GE):GE:=λen=>(it en).bind λp=>if zb6 cap&&decide (p.2.length<=sizeLine) then (zhk (capKeep cap) T tc te p.2 (zft cap p.1)).bind λq=>Za (zao cap p.1 q.1,(.lst q.2,Zd)) else Zb
noncomputable def gYes:GT:=λen=>#v[en,5]
noncomputable def zcj (mp:List Nat) (T:Tg) (tc:GT) (em:GL):List W->En->Option (En×List W)
 |[],c=>Za (c,[])
 | w::b,c=>(tgSet mp T w c).bind λd=>match tc d with
  |#v[a,5]=>(em a).bind λp=>(zcj mp T tc em b p.1).bind λq=>Za (q.1,p.2++q.2)
  |#v[a,6]=>zcj mp T tc em b a
  |none=>Zb
noncomputable def gOne (te:GE):GL:=λen=>(te en).bind λp=>Za (p.1,[p.2.1])
noncomputable def gTwo (mp:List Nat) (T:Tg) (it:GL) (tc:GT) (em:GL):GL:=λen=>(it en).bind λp=>zcj mp T tc em p.2 p.1
noncomputable def zq6 (cap:Cap) (T:Tg) (it:GL) (tc:GT) (em:GL):GE:=λen=>(it en).bind λp=>if zb6 cap then (zcj (capKeep cap) T tc em p.2 (zft cap p.1)).bind λq=>if q.2.length<=sizeLine then Za (zao cap p.1 q.1,(.lst q.2,Zd)) else Zb else Zb
noncomputable def zsm (cap:Cap) (T:Tg) (it:GL) (tc:GT) (a:Tg) (i:GL) (t:GT) (te:GE):GE:=zq6 cap T it tc (gTwo (capKeep cap) a i t (gOne te))
theorem zgw {mp:List Nat}{T:Tg}{tc:GT}{te:GE}:∀{a:List W}{d c:En}{out:List W},zhk mp T tc te a d=Za (c,out)->zcj mp T tc (gOne te) a d=Za (c,out)/\out.length<=a.length
 |[],_,_,_,h=>by cases h;exact⟨rfl,Ag _⟩
 | w::a,d,c,out,h=>by
  obtain ⟨i,j,h⟩:=bS (show (tgSet mp T w d).bind _=_ from h);have e:zcj mp T tc (gOne te) (w::a) d=match tc i with
   |#v[f,5]=>(gOne te f).bind λp=>(zcj mp T tc (gOne te) a p.1).bind λq=>Za (q.1,p.2++q.2)
   |#v[f,6]=>zcj mp T tc (gOne te) a f
   |none=>Zb:=by rw[zcj,j];rfl
  rw[e];cases et:tc i with
  |none=>simp only [et] at h;exact noSome h
  | some p =>
   obtain⟨f,b⟩:=p;cases b with
   |false=>simp only [et] at h;exact⟨(zgw h).1,Nat.le_succ_of_le (zgw h).2⟩
   | true =>
    simp only [et] at h;obtain⟨⟨l,r⟩,k,h⟩:=bS h;obtain⟨⟨m,rest⟩,g,h⟩:=bS h;cases h;refine⟨?_,Nat.succ_le_succ (zgw g).2⟩;show (gOne te f).bind _=_;rw[gOne,k];show (zcj mp T tc (gOne te) a l).bind _=_;rw[(zgw g).1]
    rfl
noncomputable def MOk (K:Zg) (mp:List Nat) (p:Prt) (b:Zh) (em:GL) (t:TM):Prop:=∀(F:Hp) (f:En) (σ:St) (H:Hp) (v:List V) (c:En) (out:List W) (N:St->Hp->Prop),Rel K F (zh9 p b v) f σ H->em f=Za (c,out)->v.length+out.length<=sizeLine ->
 (∀d a e u,Same F d->Rel K d (zh9 p b (v++u)) c a e->Keep mp σ a->Reps K d out u->N a e)->t σ H N
section
variable {K:Zg}{mp:List Nat}{pb:Prt}{acc:Zh}
theorem z8b {te:GE}(p:∀b o,pb b o->b≠acc):MOk K mp pb acc (gOne te) (zr7 acc (tE K te)):=by
 intro F m σ H c f out N R h j q;nofun;obtain⟨⟨g,r⟩,n,h⟩:=bS h;ac_rfl;cases h;refine⟨F,_,m,g,r,R,n,λt u v e l d=>?_⟩;nofun;obtain⟨k,s,a,y⟩:=d.freeze l;obtain⟨i,_,_⟩:=a.prt acc (.lst c) (.inr ⟨rfl,rfl⟩);ac_rfl;exact⟨c,i,j,q k σ _ [v] (e.trans s) (a.accUpd p) (.refl _ _) (.cons y .nil)⟩
theorem zs6 {em:GL}{Z:TM}{T:Tg}{tc:GT}{C:Hp}{v:List V}{t g:En}{c:St}{Y:Hp}{J:It}{ws out:List W}{N0:St->Hp->Prop} (M:MOk K mp pb acc em Z) (R:Rel K C (zh9 pb acc v) t c Y) (ok:ItOk K C J ws) (h:zcj mp T tc em ws t=Za (g,out)) (hz:v.length+out.length<=sizeLine)
  (q:∀F l H' u,Same C F->Rel K F (zh9 pb acc (v++u)) g l H'->Keep mp c l->Reps K F out u->N0 l H'):zls J (TGof K T) (tT K tc) Z c Y N0:=by
 refine ⟨λi m f H=>m=ws.length-i/\i<=ws.length/\∃F A j u rest,Same C F/\Rel K F (zh9 pb acc (v++u)) A f H/\Keep mp c f/\Reps K F j u/\zcj mp T tc em (ws.drop i) A=Za (g,rest)/\j++rest=out,
  ⟨_,rfl,Bi _,C,t,[],[],out,.refl _,by rw[Bv];exact R,.refl _ _,.nil,h,rfl⟩,?_⟩
 rintro i m f H ⟨rfl,hi,F,A,j,u,rest,n,D,L,rd,a,B⟩;by_cases d:i<ws.length
 ·refine .inr ⟨ok.go i H (n.trans D.sub) d, ?_⟩
  have hd:ws.drop i=ws[i]::ws.drop (i+1):=(Cy d);rw[hd] at a;obtain⟨c1,h3,a⟩:=bS (show (tgSet mp T ws[i] A).bind _=_ from a);refine⟨λk E=>∃F A j u rest,Same C F/\Rel K F (zh9 pb acc (v++u)) A k E/\Keep mp c k/\Reps K F j u/\zcj mp T tc em (ws.drop (i+1)) A=Za (g,rest)/\j++rest=out,λk E z=>⟨ws.length-(i+1),by omega,rfl,d,z⟩,?_⟩;intro x E y;obtain⟨w,X,o⟩:=ok.yld i H x E (n.trans D.sub) d y;rw[Af d] at X;obtain rfl:=sI X;nofun;obtain⟨F3,I,R3,z3⟩:=(o.mono n).close D;ac_rfl;refine zwl (w:=ws[i]) R3 z3 h3 λN R4 k4=>?_;cases et:tc c1 with
  |none=>simp only [et] at a;exact noSome a
  | some p =>
   obtain⟨P,b⟩:=p;refine⟨F3,_,c1,P,b,R4,et,λF5 H5 G S=>?_⟩;cases b with
   | false =>
    simp only [et] at a;exact iteF ⟨F5,P,j,u,rest,n.trans (I.trans G),S,L.trans k4,rd.mono (I.trans G),a,B⟩
   | true =>
    simp only [et] at a;nofun;obtain⟨⟨U,o1⟩,h5,a⟩:=bS a;obtain⟨⟨c4,r⟩,h6,a⟩:=bS a;ac_rfl;cases a;refine iteT (M F5 P N H5 (v++u) U o1 _ S h5 ?_ λQ σ6 H6 O s6 R6 k6 r6=>?_)
    ·dsimp only at B
     rw[<-B,Ax,Ax,rd.length] at hz;rw[Ax];omega
    ·have s:Same F Q:=I.trans (G.trans s6)
     exact⟨Q,U,j++o1,u++O,r,n.trans s,by rw[<-Bb];exact R6,L.trans (k4.trans k6),(rd.mono s).append r6,h6,by rw[Bb];exact B⟩
 ·have e:i=ws.length:=by omega
  subst e;rw[List.drop_length] at a;cases a;rw[Bv] at B;subst B;exact .inl ⟨ok.stop H (n.trans D.sub),q F f H u n D L rd⟩
theorem yat {em:GL}{t:TM}{T:Tg}{it:GL}{tc:GT}(M:MOk K mp pb acc em t):MOk K mp pb acc (gTwo mp T it tc em) (tTwo (tI K it) (TGof K T) (tT K tc) t):=by
 intro F i σ H v c out N R h e q;nofun;obtain⟨⟨j,w⟩,d,h⟩:=bS h;ac_rfl;exact⟨F,_,i,j,w,R,d,λm l J s k ok=>zs6 M k ok h e λf a g u b=>q f a g u (s.trans b)⟩
end
theorem zij {K:Zg}{cap:Cap}{T:Tg}{it:GL}{tc:GT}{em:GL}{t:Zh->TM}{σ:St}{H:Hp}{Q:VK}(M:∀(p:Prt) (c:Zh),(∀b o,p b o->b≠c)->MOk K (capKeep cap) p c em (t c))(h:tE K (zq6 cap T it tc em) σ H Q):zv5 (tI K it) cap (TGof K T) (tT K tc) t σ H Q:=by
 nofun;obtain⟨F,pr,en,g,r,R,h,q⟩:=h;obtain⟨⟨x,y⟩,j,h⟩:=bS h;ac_rfl;refine⟨F,pr,en,x,y,R,j,λD B J e d ok c a=>?_⟩;split at h
 ·rename_i n;nofun;obtain⟨⟨f,out⟩,A,h⟩:=bS h;ac_rfl;split at h
  ·rename_i m;cases h;refine zs6 (M _ c (zwz (cap:=cap) d a)) (d.block a n) ok A (by rw[Ee,Ce];exact m) λv i w C s z k rd=>?_;obtain⟨u,l⟩:=d.unblock a s z k rd;exact q v w _ (e.trans s) u l
  ·exact noSome h
 ·exact noSome h
theorem zwm {K:Zg}{cap:Cap}{T:Tg}{it:GL}{tc:GT}{te:GE}{σ:St}{H:Hp}{Q:VK}(h:tE K (zbp cap T it tc te) σ H Q):zv5 (tI K it) cap (TGof K T) (tT K tc) (λa=>zr7 a (tE K te)) σ H Q:=by
 refine zij (λp a j=>z8b j) ?_;obtain⟨F,pr,en,e,r,R,h,q⟩:=h;refine⟨F,pr,en,e,r,R,?_,q⟩;nofun;obtain⟨⟨g,w⟩,d,h⟩:=bS h;ac_rfl;split at h
 ·rename_i z;rw[Ae] at z;nofun;obtain⟨⟨c,out⟩,i,h⟩:=bS h;ac_rfl;obtain⟨b,f⟩:=zgw i;rw[zq6,d];show (if zb6 cap=Zd then (zcj (capKeep cap) T tc (gOne te) w (zft cap g)).bind _ else Zb)=_;rw[if_pos z.1,b];show (if out.length<=sizeLine then _ else Zb)=_;rw[if_pos (Cf f (As z.2))];exact h
 ·exact noSome h
noncomputable def z93:GE:=λen=>Za (en,(.dic,Zc))
noncomputable def keyW:W->Bool
 |.int _=>Zd
 |.str _=>Zd
 |_=>Zc
noncomputable def z9i (k v:GE):GE:=λen=>(k en).bind λp=>if keyW p.2.1 then (v p.1).bind λq=>Za (q.1,(.dic,Zc)) else Zb
noncomputable def Src (h:Heap) (it l:Zh) (k:Nat) (xs:Array Ze):Prop:=(h.IsListIter it l k/\h.IsList l xs)\/(h.IsTupleIter it l k/\h.IsTuple l xs)
theorem Src.at {h h':Heap}{it l:Zh}{k:Nat}{xs:Array Ze}(c:Src h it l k xs)(a:∀o,h.get? it=Za o->h'.get? it=Za o)(b:∀o,h.get? l=Za o->h'.get? l=Za o):Src h' it l k xs:=by
 rcases c with⟨p,q⟩|⟨p,q⟩
 ·exact .inl ⟨p.at a,q.at b⟩
 ·obtain⟨o,e,r⟩:=q;exact .inr ⟨p.at a,o,b o e,r⟩
theorem Src.src {h:Heap}{it l:Zh}{k:Nat}{xs:Array Ze}(c:Src h it l k xs):∃o,h.get? l=Za o:=by
 rcases c with⟨_,⟨o,e,_⟩⟩|⟨_,⟨o,e,_⟩⟩<;>exact⟨o,e⟩
section
variable {prog:Program}{w:World}{A:Around}{E:Ze->Zf->Prop}{s:Zf}
theorem zfz {it l:Zh}{k:Nat}{xs:Array Ze}{x:Ze}{Q:Ze->Zf->Prop} (c:Src s.heap it l k xs) (n:xs[k]?=Za x) (ne:l≠it)
  (q:∀h,Src h it l (k+1) xs->Heap.SameBut it s.heap h->Q x { s with heap:=h }):wpAny (model prog w) A (Builtin.SmallTypes.nextOf (.ref it)) Q E s:=by
 rcases c with⟨d,g⟩|⟨d,g⟩
 ·exact wpAny_nextOf_list_item d g n λh a b=>q h (.inl ⟨a,g.at λo e=>(b.2 l ne).trans e⟩) b
 ·refine aG λG qG => ?_;obtain⟨v,i,t,f⟩:=id d;obtain⟨u,j,p,r,m⟩:=id g;ac_rfl;unfold Builtin.SmallTypes.nextOf;refine Aa (Bs (name:=Str.ofString "__next__") d.typeIs Gm (Cc Gm d.typeIs F.entry_tuple_iterator_next ?_ (F.args_tuple_iterator_next_1 _)));refine (show wpAny _ _ (field (.ref it) 0>>=_) _ _ s from Aa (De i f (x:=.ref l) rfl ?_));refine (show wpAny _ _ (if (Ze.ref l==Ze.none)=Zd then _ else _) _ _ s from ?_);rw[if_neg (by intro z;cases z)];refine (show wpAny _ _ (field (.ref it) 1>>=_) _ _ s from Aa (De i f (x:=.int k 0) rfl ?_));refine (show wpAny _ _ (seqItems? (.ref l)>>=_) _ _ s from Aa (Eh j m ?_));simp only [Em,n];refine Aa (Gj i f (by simp) (Ac ⟨x,rfl,Ac ?_⟩));refine q _ (.inr ⟨⟨_,Gb _ i (Hr (Cw f _)),(Iq ..).trans t,by rw[Cw f];simp [rawInt]⟩,u,?_,p,r,m⟩) (Bl ..);exact ((Bl ..).2 l ne).trans j
theorem zka {it l:Zh}{k:Nat}{xs:Array Ze}{Q:Ze->Zf->Prop} (i:A.handled=Zb) (c:Src s.heap it l k xs) (j:xs[k]?=Zb)
  (q:∀h e,Heap.ExtBut it s.heap h->(∃o,h.get? e=Za o/\o.cls=.type "StopIteration")->E (.ref e) { s with heap:=h }):wpAny (model prog w) A (Builtin.SmallTypes.nextOf (.ref it)) Q E s:=by
 rcases c with⟨b,f⟩|⟨b,f⟩
 ·exact wpAny_nextOf_list_end i b f j q
 ·obtain⟨t,g,v,d⟩:=id b;obtain⟨y,n,r,u,p⟩:=id f;unfold Builtin.SmallTypes.nextOf;refine Aa (Bs (name:=Str.ofString "__next__") b.typeIs Gm (Cc Gm b.typeIs F.entry_tuple_iterator_next ?_ (F.args_tuple_iterator_next_1 _)));refine (show wpAny _ _ (field (.ref it) 0>>=_) _ _ s from Aa (De g d (x:=.ref l) rfl ?_));refine (show wpAny _ _ (if (Ze.ref l==Ze.none)=Zd then _ else _) _ _ s from ?_);rw[if_neg (by intro z;cases z)];refine (show wpAny _ _ (field (.ref it) 1>>=_) _ _ s from Aa (De g d (x:=.int k 0) rfl ?_));refine (show wpAny _ _ (seqItems? (.ref l)>>=_) _ _ s from Aa (Eh n p ?_));simp only [Em,j];refine Aa (Cs (Aa (Gj g d (by simp) (show wpAny _ _ (newExc (.type "StopIteration") []>>=_) _ _ _ from Aa ?_))));simp only [newExc,newTuple];refine Aa (Bp (Aa (m:=firstArgMember _ _) (Fc (a:=Ze.none) (by first|rfl|(simp only [firstArgMember];rfl)) (Bp ?_ (by size_fits)))) (by size_fits));simp only [raiseNew];refine Aa (wpAny_handled ?_);rw[show A.in1.handled=Zb from i];exact Aa (Ac (wpAny_throw (q _ _ (((Bl ..).extBut.push _).push _) ⟨_,Ah _ rfl,rfl⟩)))
theorem z3i {z TI TO i d K H:Zh}{J k2:Nat}{xs ys:Array Ze}{x y a b:Ze}{Q:Ze->Zf->Prop} (D:ZipApart z TI TO i d K H) (B:IsZip s.heap z TI TO .none) (gi:IsPair s.heap TI (.ref i) (.ref d)) (go:IsPair s.heap TO a b)
  (c1:Src s.heap i K J xs) (c2:Src s.heap d H k2 ys) (ex:xs[J]?=Za x) (ey:ys[k2]?=Za y)
  (q:∀j,IsZip j z TI TO (rawInt s.heap.objs.size)->IsPair j TO x y->Src j i K (J+1) xs->Src j d H (k2+1) ys->IsPair j s.heap.objs.size x y ->
   (∀c o,c≠z->c≠TO->c≠i->c≠d->s.heap.get? c=Za o->j.get? c=Za o)->Q (.ref s.heap.objs.size) { s with heap:=j }) :
  wpAny (model prog w) A (Builtin.«zip.__next__» ⟨[.ref z],[]⟩) (λfin s'=>∃v,fin=.done (.ret v)/\Q v s') E s:=by
 refine (show wpAny _ _ (field (.ref z) 2>>=_) _ _ _ from Aa (De B rfl (x:=.bool Zc) rfl ?_));refine (show wpAny _ _ (field (.ref z) 3>>=_) _ _ _ from Aa (De B rfl (x:=.ref TI) rfl (Aa (Eh gi rfl ?_))));refine (show wpAny _ _ (Builtin.SmallTypes.ownedTupleIsFree (.ref z)>>=_) _ _ _ from Aa ?_);unfold Builtin.SmallTypes.ownedTupleIsFree;refine Aa (De B rfl (x:=.none) rfl (Ac ?_));simp only [Fe];refine Aa (Cs (Aa (De B rfl (x:=.ref TO) rfl (Aa (Fg B (by simp) λg1 z1 Z=>?_)))));have P:IsZip g1 z TI TO .ellipsis:=z1;refine Aa ?_;simp only [List.zipIdx_cons,List.zipIdx_nil,Ho,Fq];have f : ∀c o,c≠z->s.heap.get? c=Za o->g1.get? c=Za o:=λc o n e=>Z.extBut _ _ n e;refine Aa (Aa (wpAny_onRaise (show wpAny _ _ (Builtin.SmallTypes.nextOf (.ref i)>>=_) _ _ _ from Aa (zfz (c1.at (λo=>f _ o D.i1z) λo=>f _ o D.l1z) ex D.l1i1 λg2 d2 L=>Ac ?_))));have h : ∀c o,c≠z->c≠i->s.heap.get? c=Za o->g2.get? c=Za o:=λc o n m e=>L.extBut _ _ m (f c o n e);refine Aa (Eh (h _ _ D.TOz D.TOi1 go) rfl (Aa (wpAny_updateSeq_pair (h _ _ D.TOz D.TOi1 go) λY t3 G=>Aa (wpAny_letGo (Ac ?_)))));have O:IsPair Y TO x b:=t3;have k : ∀c o,c≠z->c≠i->c≠TO->s.heap.get? c=Za o->Y.get? c=Za o:=λc o n m r e=>G.extBut _ _ r (h c o n m e);refine Aa (Aa (wpAny_onRaise (show wpAny _ _ (Builtin.SmallTypes.nextOf (.ref d)>>=_) _ _ _ from Aa (zfz (c2.at (λo=>k _ o D.i2z D.i12.symm D.TOi2.symm) λo=>k _ o D.l2z D.l2i1 D.l2TO) ey D.l2i2 λg4 d4 t=>Ac ?_))));have W:IsPair g4 TO x b:=t.extBut _ _ D.TOi2 O;refine Aa (Eh W rfl (Aa (wpAny_updateSeq_pair W λg t5 u=>Aa (wpAny_letGo (Ac (Ac ?_))))));have F:IsPair g TO x y:=t5;refine Aa (Eh F rfl (Aa (wpAny_newTuple ?_)));have U:g.objs.size=s.heap.objs.size:=by rw[u.1,t.1,G.1,L.1,Z.1]
 have R:IsZip g z TI TO .ellipsis:=u.extBut _ _ D.TOz.symm (t.extBut _ _ D.i2z.symm (G.extBut _ _ D.TOz.symm (L.extBut _ _ D.i1z.symm P)));have k5:∀c o,c≠z->c≠TO->c≠i->c≠d->s.heap.get? c=Za o->g.get? c=Za o:=λc o n r m p e=>u.extBut _ _ r (t.extBut _ _ p (k c o n m r e));have N:Src g i K (J+1) xs:=d2.at (λo e=>u.extBut _ _ D.TOi1.symm (t.extBut _ _ D.i12 (G.extBut _ _ D.TOi1.symm e))) λo e=>u.extBut _ _ D.l1TO (t.extBut _ _ D.l1i2 (G.extBut _ _ D.l1TO e));have M:Src g d H (k2+1) ys:=d4.at (λo e=>u.extBut _ _ D.TOi2.symm e) λo e=>u.extBut _ _ D.l2TO e;refine (show wpAny _ _ (Builtin.SmallTypes.ownedTupleHandOut (.ref z) (.ref g.objs.size)>>=_) _ _ _ from Aa ?_);unfold Builtin.SmallTypes.ownedTupleHandOut;have z6:IsZip (g.push { cls:=.type "tuple",data:=.seq #[x,y] }) z TI TO .ellipsis:=Ab _ R;refine Aa (Fg z6 (by simp) λg7 z7 S=>Fg (show IsZip g7 z TI TO (rawInt g.objs.size) from z7) (by simp) λI z8 V=>Ac ⟨_,rfl,?_⟩);have l:∀c o,c≠z->g.get? c=Za o->I.get? c=Za o:=λc o n e=>V.extBut _ _ n (S.extBut _ _ n (Ab _ e));have T:g.objs.size≠z:=Ej (Aj R);have X:IsPair I g.objs.size x y:=V.extBut _ _ T (S.extBut _ _ T (Ah _ rfl));have C:IsZip I z TI TO (rawInt g.objs.size):=z8;rw[U] at X C;show Q (.ref g.objs.size) _;rw[U];exact q I C (l _ _ D.TOz F) (N.at (λo=>l _ o D.i1z) λo=>l _ o D.l1z) (M.at (λo=>l _ o D.i2z) λo=>l _ o D.l2z) X λc o n r m p e=>l c o n (k5 c o n r m p e)
theorem z8v {z TI TO i t H M:Zh}{y k2:Nat}{xs ys:Array Ze}{a b:Ze}{Q:Fin->Zf->Prop} (N:A.handled=Zb) (D:ZipApart z TI TO i t H M) (h:IsZip s.heap z TI TO .none) (V:IsPair s.heap TI (.ref i) (.ref t)) (go:IsPair s.heap TO a b)
  (Y:Src s.heap i H y xs) (W:Src s.heap t M k2 ys) (U:xs[y]?=Zb\/ys[k2]?=Zb)
  (q:∀J e,(∀c o,c≠z->c≠TO->c≠i->c≠t->s.heap.get? c=Za o->J.get? c=Za o)->(∃o,J.get? e=Za o/\o.cls=.type "StopIteration")->E (.ref e) { s with heap:=J }) :
  wpAny (model prog w) A (Builtin.«zip.__next__» ⟨[.ref z],[]⟩) Q E s:=by
 refine (show wpAny _ _ (field (.ref z) 2>>=_) _ _ _ from Aa (De h rfl (x:=.bool Zc) rfl ?_));refine (show wpAny _ _ (field (.ref z) 3>>=_) _ _ _ from Aa (De h rfl (x:=.ref TI) rfl (Aa (Eh V rfl ?_))));refine (show wpAny _ _ (Builtin.SmallTypes.ownedTupleIsFree (.ref z)>>=_) _ _ _ from Aa ?_);unfold Builtin.SmallTypes.ownedTupleIsFree;refine Aa (De h rfl (x:=.none) rfl (Ac ?_));simp only [Fe];refine Aa (Cs (Aa (De h rfl (x:=.ref TO) rfl (Aa (Fg h (by simp) λI S X=>?_)))));have v:IsZip I z TI TO .ellipsis:=S;refine Aa ?_;simp only [List.zipIdx_cons,List.zipIdx_nil,Ho,Fq];have k : ∀c o,c≠z->s.heap.get? c=Za o->I.get? c=Za o:=λc o n e=>X.extBut _ _ n e;refine Aa (Aa (wpAny_onRaise (show wpAny _ _ (Builtin.SmallTypes.nextOf (.ref i)>>=_) _ _ _ from Aa ?_)));have L:Src I i H y xs:=Y.at (λo=>k _ o D.i1z) λo=>k _ o D.l1z;cases hx:xs[y]? with
 | none =>
  refine zka N L hx λB e u F=>?_;obtain⟨G,g,l⟩:=F;have R:IsZip B z TI TO .ellipsis:=u _ _ D.i1z.symm v;have ne:e≠z:=λr=>by subst r;rw[R] at g;obtain rfl:=sI g;simp at l
  exact Fg R (by simp) λC _ j=>q C e (λc o n _ m _ x=>j.extBut _ _ n (u _ _ m (k c o n x))) ⟨G,j.extBut _ _ ne g,l⟩
 | some x =>
  have T:ys[k2]?=Zb:=U.resolve_left (by rw[hx];simp);refine zfz L hx D.l1i1 λB d2 u=>Ac ?_;have f : ∀c o,c≠z->c≠i->s.heap.get? c=Za o->B.get? c=Za o:=λc o n m e=>u.extBut _ _ m (k c o n e);refine Aa (Eh (f _ _ D.TOz D.TOi1 go) rfl (Aa (wpAny_updateSeq_pair (f _ _ D.TOz D.TOi1 go) λC t3 j=>Aa (wpAny_letGo (Ac ?_)))));have d : ∀c o,c≠z->c≠i->c≠TO->s.heap.get? c=Za o->C.get? c=Za o:=λc o n m r e=>j.extBut _ _ r (f c o n m e);refine Aa (Aa (wpAny_onRaise (show wpAny _ _ (Builtin.SmallTypes.nextOf (.ref t)>>=_) _ _ _ from Aa (zka N (W.at (λo=>d _ o D.i2z D.i12.symm D.TOi2.symm) λo=>d _ o D.l2z D.l2i1 D.l2TO) T λg4 e P F=>?_))));obtain⟨G,g,l⟩:=F;have O:IsZip g4 z TI TO .ellipsis:=P _ _ D.i2z.symm (j.extBut _ _ D.TOz.symm (u.extBut _ _ D.i1z.symm v));have ne:e≠z:=λr=>by subst r;rw[O] at g;obtain rfl:=sI g;simp at l
  exact Fg O (by simp) λZ _ K=>q Z e (λc o n r m p x=>K.extBut _ _ n (P _ _ p (d c o n m r x))) ⟨G,K.extBut _ _ ne g,l⟩
theorem z3n {z TI TO i d e l:Zh}{k k2:Nat}{xs ys:Array Ze}{x y a b:Ze}{Q:Option Ze->Zf->Prop} (D:ZipApart z TI TO i d e l) (g:IsZip s.heap z TI TO .none) (r:IsPair s.heap TI (.ref i) (.ref d)) (go:IsPair s.heap TO a b)
  (B:Src s.heap i e k xs) (u:Src s.heap d l k2 ys) (C:xs[k]?=Za x) (j:ys[k2]?=Za y)
  (q:∀h,IsZip h z TI TO (rawInt s.heap.objs.size)->IsPair h TO x y->Src h i e (k+1) xs->Src h d l (k2+1) ys->IsPair h s.heap.objs.size x y ->
   (∀c o,c≠z->c≠TO->c≠i->c≠d->s.heap.get? c=Za o->h.get? c=Za o)->Q (Za (.ref s.heap.objs.size)) { s with heap:=h }):wpAny (model prog w) A (pyNext (.ref z)) Q E s:=by
 have ty:s.TypeIs (.ref z) "zip" := ⟨_,g,rfl⟩;unfold pyNext;exact Aa (Dv (Bs (name:=Str.ofString "__next__") ty F.slot_zip_next (Cc F.slot_zip_next ty F.entry_zip_next (z3i D g r go B u C j λh n m f v t p=>Ac (q h n m f v t p)) (F.args_zip_next_1 _))))
theorem z53 {z TI TO i d m l:Zh}{j k2:Nat}{xs ys:Array Ze}{a b:Ze}{Q:Option Ze->Zf->Prop} (p:A.handled=Zb) (D:ZipApart z TI TO i d m l) (f:IsZip s.heap z TI TO .none) (t:IsPair s.heap TI (.ref i) (.ref d)) (go:IsPair s.heap TO a b)
  (x:Src s.heap i m j xs) (v:Src s.heap d l k2 ys) (r:xs[j]?=Zb\/ys[k2]?=Zb)
  (q:∀h,(∀c o,c≠z->c≠TO->c≠i->c≠d->s.heap.get? c=Za o->h.get? c=Za o)->Q Zb { s with heap:=h }):wpAny (model prog w) A (pyNext (.ref z)) Q E s:=by
 have ty:s.TypeIs (.ref z) "zip" := ⟨_,f,rfl⟩;unfold pyNext;refine Aa (Dv (Bs (name:=Str.ofString "__next__") ty F.slot_zip_next (Cc F.slot_zip_next ty F.entry_zip_next (z8v p D f t go x v r λh e k u=>?_) (F.args_zip_next_1 _))));obtain⟨o,g,n⟩:=u;exact Aa (Ez (T := "StopIteration") (b:=Zd) ⟨o,g,n⟩ isSubtype_stop (Ac (q _ k)))
end
noncomputable def SrcO (h:Heap) (b:Bool) (l:Zh) (xs:Array Ze):Prop:=match b with
 |true=>h.IsList l xs
 |false=>h.IsTuple l xs
noncomputable def itO (b:Bool) (l:Zh):Obj:={ cls:=.type (if b then "list_iterator" else "tuple_iterator"),data:=.fields #[.ref l,.int 0 0] }
theorem SrcO.push {h:Heap}{b:Bool}{l:Zh}{xs:Array Ze} (c:SrcO h b l xs) (o:Obj):SrcO (h.push o) b l xs:=by
 cases b with
 |true=>exact Heap.IsList.push c o
 | false =>
  obtain⟨q,e,r⟩:=c;exact⟨q,Ab _ e,r⟩
section
variable {prog:Program}{w:World}{A:Around}{E:Ze->Zf->Prop}{s:Zf}
theorem zk2 {b:Bool}{l:Zh}{xs:Array Ze}{Q:Ze->Zf->Prop}(c:SrcO s.heap b l xs)(q:Q (.ref s.heap.objs.size) { s with heap:=s.heap.push (itO b l) }):wpAny (model prog w) A (pyIter (.ref l)) Q E s:=by
 cases b with
 |true=>exact Gf c q
 |false=>exact He c q
end
noncomputable abbrev zA (h:Heap) (b:Bool) (l:Zh):Heap:=h.push (itO b l)
noncomputable abbrev zB (h:Heap) (b c:Bool) (l m:Zh):Heap:=(zA h b l).push (itO c m)
noncomputable abbrev zC (h:Heap) (b c:Bool) (l m:Zh):Heap:=(zB h b c l m).push { cls:=.type "tuple",data:=.seq #[.ref h.objs.size,.ref (zA h b l).objs.size] }
noncomputable abbrev zD (h:Heap) (b c:Bool) (l m:Zh):Heap:=(zC h b c l m).push { cls:=.type "tuple",data:=.seq #[.none,.none] }
noncomputable abbrev zE (h:Heap) (b c:Bool) (l m:Zh):Heap:=(zD h b c l m).push { cls:=.type "zip",data:=.fields #[.none,.bool Zc,.bool Zc,.ref (zB h b c l m).objs.size,.ref (zC h b c l m).objs.size] }
theorem zts (b c:Bool)(l m:Zh)(xs ys:Array Ze):Meets (Builtin.«zip.__new__» ⟨[.type "zip",.ref l,.ref m],[]⟩) (λ_ R s=>SrcO s.heap b l xs/\SrcO s.heap c m ys/\R (.ok (.ret (.ref (zD s.heap b c l m).objs.size))) { s with heap:=zE s.heap b c l m }) :=
 .of_wp λprog w A R s h=>by
  obtain⟨e,g,d,t,o⟩:=s;obtain⟨x,i,h⟩:=h;have a:=sub_zip;have y:SrcO (Zf.heap ⟨e,g,d,t,o⟩) b l xs:=x;have f:SrcO (Zf.heap ⟨e.push (itO b l),g,d,t,o⟩) c m ys:=SrcO.push i _
  wp_walk using zk2 y,zk2 f
  exact⟨_,rfl,h⟩
section
variable {prog:Program}{w:World}{A:Around}{E:Ze->Zf->Prop}{s:Zf}
theorem zxs {b c:Bool}{l m:Zh}{xs ys:Array Ze}{Q:Ze->Zf->Prop} (p:SrcO s.heap b l xs) (q:SrcO s.heap c m ys)
  (h:∀a,IsZip a (s.heap.objs.size+4) (s.heap.objs.size+2) (s.heap.objs.size+3) .none->IsPair a (s.heap.objs.size+2) (.ref s.heap.objs.size) (.ref (s.heap.objs.size+1))->IsPair a (s.heap.objs.size+3) .none .none ->
   a.get? s.heap.objs.size=Za (itO b l)->a.get? (s.heap.objs.size+1)=Za (itO c m)->(∀c o,s.heap.get? c=Za o->a.get? c=Za o)->Q (.ref (s.heap.objs.size+4)) { s with heap:=a }) :
  wpAny (model prog w) A (call (.type "zip") [.ref l,.ref m]) Q E s:=by
 refine callType_new F.called_zip #v[0,9] (F.typeCall_zip_2 _ _) (F.newCall_zip_2 _ _) (λobj=>F.args_object_init_3 obj _ _) F.entry_zip_new (zts b c l m xs ys) ⟨p,q,?_⟩;have e:(zA s.heap b l).objs.size=s.heap.objs.size+1:=Cq ..;have d:(zB s.heap b c l m).objs.size=s.heap.objs.size+2:=by rw[Cq,e]
 have n:(zC s.heap b c l m).objs.size=s.heap.objs.size+3:=by rw[Cq,d]
 have k:(zD s.heap b c l m).objs.size=s.heap.objs.size+4:=by rw[Cq,n]
 have u:∀r o,s.heap.get? r=Za o->(zE s.heap b c l m).get? r=Za o:=λr o x=>Ab _ (Ab _ (Ab _ (Ab _ (Ab _ x))));have f:(zE s.heap b c l m).get? (zD s.heap b c l m).objs.size=Za _:=Ah _ rfl;have j:(zE s.heap b c l m).get? (zC s.heap b c l m).objs.size=Za _:=Ab _ (Ah _ rfl);have i:(zE s.heap b c l m).get? (zB s.heap b c l m).objs.size=Za _:=Ab _ (Ab _ (Ah _ rfl));have g:(zE s.heap b c l m).get? (zA s.heap b l).objs.size=Za (itO c m):=Ab _ (Ab _ (Ab _ (Ah _ rfl)));have t:(zE s.heap b c l m).get? s.heap.objs.size=Za (itO b l):=Ab _ (Ab _ (Ab _ (Ab _ (Ah _ rfl))));show _/\_;rw[d,n,k] at f;rw[e,d] at i;rw[n] at j;rw[e] at g;rw[k];exact⟨⟨_,f,rfl⟩,h _ f i j t g u⟩
end
noncomputable def SqK (K:Zg) (k:Bool) (H:Hp) (a:Zh) (xs:List V):Prop:=match k with
 |true=>SqL K H a xs
 |false=>SqT K H a xs
noncomputable def ItI (h:Heap) (k:Bool) (it l:Zh) (i:Nat):Prop:=match k with
 |true=>h.IsListIter it l i
 |false=>h.IsTupleIter it l i
theorem SqK.mono {K:Zg}{k:Bool}{F H:Hp}{a:Zh}{xs:List V}(s:Same F H)(h:SqK K k F a xs):SqK K k H a xs:=by
 cases k with
 |true=>exact s.seq h
 |false=>exact zb2 s h
theorem Inv.sqK {X:Cx}{pins:List (Zh×Obj)}{σ:St}{H:Hp}{s:Zf}{k:Bool}{a:Zh}{xs:List V}(I:Inv X pins σ H s)(h:SqK X.K k H a xs):∃i:List Ze,Vals xs i/\SrcO s.heap k a i.toArray:=by
 cases k with
 |true=>obtain⟨i,r,p,_⟩:=I.list h;exact⟨i,r,p.isList⟩
 |false=>obtain⟨i,r,p,_⟩:=I.tuple h;exact⟨i,r,p⟩
theorem Inv.sqK_inj {X:Cx}{pins:List (Zh×Obj)}{σ:St}{H:Hp}{s:Zf}{k:Bool}{a:Zh}{xs ys:List V}(I:Inv X pins σ H s)(h:SqK X.K k H a xs)(h':SqK X.K k H a ys):xs=ys:=by
 cases k with
 |true=>exact I.list_inj h h'
 |false=>exact I.tuple_inj h h'
theorem ItI.src {h:Heap}{k:Bool}{it l:Zh}{i:Nat}{xs:Array Ze}(a:ItI h k it l i)(b:SrcO h k l xs):Src h it l i xs:=by
 cases k with
 |true=>exact .inl ⟨a,b⟩
 |false=>exact .inr ⟨a,b⟩
theorem Src.itI {h:Heap}{k:Bool}{it l:Zh}{i:Nat}{xs:Array Ze} (c:Src h it l i xs) (b:SrcO h k l xs):ItI h k it l i:=by
 cases k with
 | true =>
  rcases c with⟨c,_⟩|⟨_,⟨o,e,q,_⟩⟩
  ·exact c
  ·obtain ⟨f, d, a, _⟩:=b
   rw[e] at d;obtain rfl:=sI d;rw[q] at a;simp at a
 | false =>
  rcases c with⟨_,⟨o,e,q,_⟩⟩|⟨c,_⟩
  ·obtain ⟨f, d, a, _⟩:=b
   rw[e] at d;obtain rfl:=sI d;rw[q] at a;simp at a
  ·exact c
theorem ItI.at {h h':Heap}{k:Bool}{it l:Zh}{i:Nat}(a:ItI h k it l i)(q:∀o,h.get? it=Za o->h'.get? it=Za o):ItI h' k it l i:=by
 cases k with
 |true=>exact Heap.IsListIter.at a q
 |false=>exact Heap.IsTupleIter.at a q
theorem ItI.obj {h:Heap}{k:Bool}{it l:Zh}{i:Nat}(a:ItI h k it l i):∃o,h.get? it=Za o/\∀v,o.data≠.cell v:=by
 cases k with
 |true=>obtain⟨o,e,_,d⟩:=a;exact⟨o,e,λv z=>by rw[d] at z;cases z⟩
 |false=>obtain⟨o,e,_,d⟩:=a;exact⟨o,e,λv z=>by rw[d] at z;cases z⟩
noncomputable def Itz (K:Zg) (k e:Bool) (a b:Zh):It :=
 ⟨λi H=>∃d c x y,SqK K k H a d/\SqK K e H b c/\d[i]?=Za x/\c[i]?=Za y,
  λi H x f=>∃p v u,x=.ref p/\H p=Zb/\f=upd H p (.tup [v,u])/\(∀d,SqK K k H a d->d[i]?=Za v)/\(∀c,SqK K e H b c->c[i]?=Za u),
  λi H=>∃d c,SqK K k H a d/\SqK K e H b c/\(d.length<=i\/c.length<=i)⟩
noncomputable def zSt (e k:Bool) (z TI TO d c a b:Zh) (i:Nat) (h:Heap):Prop:=IsZip h z TI TO .none/\IsPair h TI (.ref d) (.ref c)/\(∃u v,IsPair h TO u v)/\ItI h e d a i/\ItI h k c b i
theorem zzi {P:Program}{w:World}{K:Zg}{es:List Zi}{x1}{px:Pos}(R S:Bool)(z TI TO n B a b:Zh)(D:ZipApart z TI TO n B a b):Turn P w K (.Tuple es x1 px) (Itz K R S a b) [z,TI,TO,n,B] z (zSt R S z TI TO n B a b) where
 mem:=by simp
 obj:=λi h m c J=>by
  nofun;obtain⟨l,p,⟨u,v,go⟩,A,t⟩:=m;ac_rfl;simp only [Ar,Ao,Bx,Gk] at J;rcases J with rfl|rfl|rfl|rfl|rfl
  ·exact⟨_,l,λv q=>by cases q⟩
  ·exact⟨_,p,λv q=>by cases q⟩
  ·exact⟨_,go,λv q=>by cases q⟩
  ·exact A.obj
  ·exact t.obj
 keep:=λi h Y m k=>by
  nofun;obtain⟨l,p,⟨u,v,go⟩,A,t⟩:=m;ac_rfl;exact⟨k z (by simp) _ l,k TI (by simp) _ p,⟨u,v,k TO (by simp) _ go⟩,A.at λo e=>k n (by simp) o e,t.at λo e=>k B (by simp) o e⟩
 item:=by
  intro X hP hw hK J i pins s σ H E I U m hg;subst hP hw hK;nofun;obtain⟨xs,ys,x,y,W,V,e1,e2⟩:=hg;obtain⟨l,p,⟨u0,v0,go⟩,A,t⟩:=m;obtain⟨L,r1,g⟩:=I.sqK W;obtain⟨its',Z,f⟩:=I.sqK V;obtain⟨u,hu,ru⟩:=r1.get e1;obtain⟨v,hv,rv⟩:=Z.get e2;ac_rfl;refine z3n D l p go (A.src g) (t.src f) (x:=u) (y:=v) (by simpa using hu) (by simpa using hv) λY g1 g2 g3 g4 g5 F=>⟨_,rfl,?_⟩;refine wpAny_letOwnedTupleGo_zip g1 λj k1 C=>?_;have lt:∀c o,s.heap.get? c=Za o->c≠s.heap.objs.size:=λc o e=>Aw (Aj e);have kk:∀c o,c ∉ [z,TI,TO,n,B]->s.heap.get? c=Za o->j.get? c=Za o:=λc o d e=>by
   simp only [Ar,Ao,Bx,Gk,not_or] at d;exact (C.2 c d.1).trans (F c o d.1 d.2.2.1 d.2.2.2.1 d.2.2.2.2 e)
  obtain⟨o1,eo1⟩:=(A.src g).src;obtain⟨o2,eo2⟩:=(t.src f).src;have M:SrcO Y R a L.toArray:=by
   cases R with
   |true=>exact g.at λo e=>F a o D.l1z D.l1TO D.l1i1 D.l1i2 e
   |false=>obtain⟨o,e,r⟩:=g;exact⟨o,F a o D.l1z D.l1TO D.l1i1 D.l1i2 e,r⟩
  have O:SrcO Y S b its'.toArray:=by
   cases S with
   |true=>exact f.at λo e=>F b o D.l2z D.l2TO D.l2i1 D.l2i2 e
   |false=>obtain⟨o,e,r⟩:=f;exact⟨o,F b o D.l2z D.l2TO D.l2i1 D.l2i2 e,r⟩
  have G:ItI j R n a (i+1):=(g3.itI M).at λo e=>(C.2 n D.i1z).trans e;have Q:ItI j S B b (i+1):=(g4.itI O).at λo e=>(C.2 B D.i2z).trans e;have N:IsPair j TI (.ref n) (.ref B):=(C.2 TI D.TIz).trans (F TI _ D.TIz D.TITO D.TIi1 D.TIi2 p);have T:IsPair j TO u v:=(C.2 TO D.TOz).trans g2;have Tz:s.heap.objs.size≠z:=(lt z _ l).symm;refine⟨.ref s.heap.objs.size,upd H s.heap.objs.size (.tup [x,y]),I.turnLay kk (λc d=>?_) U (Ag _) ⟨by show 2<=sizeLine;decide,[u,v],.cons ru (.cons rv .nil),?_⟩,rfl,⟨_,x,y,rfl,I.hok.fresh (Ag _),rfl,λzs hz=>by rw[I.sqK_inj hz W];exact e1,λzs hz=>by rw[I.sqK_inj hz V];exact e2⟩,⟨k1,N,⟨u,v,T⟩,G,Q⟩,λc d=>?_⟩
  ·simp only [Ar,Ao,Bx,Gk] at d;rcases d with rfl|rfl|rfl|rfl|rfl
   ·exact⟨_,k1⟩
   ·exact⟨_,N⟩
   ·exact⟨_,T⟩
   ·obtain⟨o,e,_⟩:=G.obj;exact⟨o,e⟩
   ·obtain⟨o,e,_⟩:=Q.obj;exact⟨o,e⟩
  ·exact⟨_,(C.2 _ Tz).trans g5,rfl,_,rfl⟩
  ·have ne:c≠s.heap.objs.size:=by
    simp only [Ar,Ao,Bx,Gk] at d;rcases d with rfl|rfl|rfl|rfl|rfl
    ·exact lt _ _ l
    ·exact lt _ _ p
    ·exact lt _ _ go
    ·obtain⟨o,e,_⟩:=A.obj;exact lt _ _ e
    ·obtain⟨o,e,_⟩:=t.obj;exact lt _ _ e
   rw[upd_ne ne];exact (U c d).1
 done:=by
  intro X hP hw hK J i pins s σ H E I U m hg;subst hP hw hK;nofun;obtain⟨xs,ys,W,V,he⟩:=hg;obtain⟨l,p,⟨u0,v0,go⟩,A,t⟩:=m;obtain⟨L,r1,g⟩:=I.sqK W;obtain⟨its',Z,f⟩:=I.sqK V;ac_rfl;have l1:=r1.length;have l2:=Z.length;refine z53 (I.ok.hd J) D l p go (A.src g) (t.src f) ?_ λY k=>⟨rfl,I.turnL (t':=s.toks) (ch:=[z,TI,TO,n,B]) (λc o d e=>?_) U⟩
  ·rcases he with he|he
   ·exact .inl (Cb (by simp;omega))
   ·exact .inr (Cb (by simp;omega))
  ·simp only [Ar,Ao,Bx,Gk,not_or] at d;exact k c o d.1 d.2.2.1 d.2.2.2.1 d.2.2.2.2 e
 self:=λ_ _ _ _ _ m h=>wpAny_pyIter_zip m.1 h
theorem zye:bootBuiltins "zip" = Za (.type "zip"):=by decide +kernel
section
variable {X:Cx}
noncomputable def iZip (K:Zg) (t:TA):TI:=λσ H R=>t σ H λv c=>∃a b k d x y,v=[.ref a,.ref b]/\SqK K k c a x/\SqK K d c b y/\R (Itz K k d a b) c
theorem z5t {es:List Zi}{S}{Z:Pos}{l m:Zi}{B:TA}{p pos:Pos} (Q:Gl X "zip") (F:X.mg "zip" = Zb) (K:PA X [l,m] B) (N:starEach [l,m] X.env=[(Zc,eval l X.env),(Zc,eval m X.env)]) (j:starEach [m] X.env=[(Zc,eval m X.env)]) :
  PI X (.Tuple es S Z) (.Call (.Name "zip" p) [l,m] [] pos) (iZip X.K B):=by
 intro pins s σ H R I h;refine Call_ (zdu I Q F zye (Dw (thn (K pos pins s σ H _ I h) λus d ⟨vs,L,i,V,O⟩=>?_) (by rw[N,j]) (by rw[j];rfl)));nofun;obtain⟨a,b,v,w,xs,ys,e,J,G,q⟩:=O;ac_rfl;subst e;cases V with
 | cons r x =>
  cases x with
  | cons r' x =>
   cases x;cases r;cases r';refine aG λ_ qG=>?_;obtain ⟨P,T,g⟩:=i.sqK J;obtain ⟨its',W,f⟩:=i.sqK G;refine qG ?_;clear qG;refine zxs g f λC y E U g4 g5 u=>wpAny_pyIter_zip y ?_;have t:a<d.heap.objs.size:=by
    cases v with
    |true=>obtain⟨o,e,_⟩:=g;exact Aj e
    |false=>obtain⟨o,e,_⟩:=g;exact Aj e
   have n:b<d.heap.objs.size:=by
    cases w with
    |true=>obtain⟨o,e,_⟩:=f;exact Aj e
    |false=>obtain⟨o,e,_⟩:=f;exact Aj e
   have D:ZipApart (d.heap.objs.size+4) (d.heap.objs.size+2) (d.heap.objs.size+3) d.heap.objs.size (d.heap.objs.size+1) a b:=by
    have u:∀{c:Zh} (k:Nat),c<d.heap.objs.size->c≠d.heap.objs.size+k:=λk h=>Aw (Be h (Dy _ k));refine⟨?_,?_,?_,?_,?_,?_,?_,?_,?_,?_,u 4 t,u 3 t,u 0 t,u 1 t,u 4 n,u 3 n,u 0 n,u 1 n⟩<;>(intro z;have z':(_:Nat)=_:=z;omega)
   have Y:ItI C v d.heap.objs.size a 0:=by cases v<;>exact⟨_,g4,rfl,rfl⟩
   have M:ItI C w (d.heap.objs.size+1) b 0:=by cases w<;>exact⟨_,g5,rfl,rfl⟩
   refine ⟨_,_,_,_,L,rfl,i.kept (t':=d.toks) u,zzi v w _ _ _ _ _ a b D,⟨y,E,⟨_,_,U⟩,Y,M⟩,λc A=>?_,q⟩;have le:d.heap.objs.size<=c:=by
    simp only [Ar,Ao,Bx,Gk] at A;rcases A with rfl|rfl|rfl|rfl|rfl
    ·exact Dy _ _
    ·exact Dy _ _
    ·exact Dy _ _
    ·exact Ag _
    ·exact Dy _ _
   exact i.fpOk le (i.hok.fresh le)
end
noncomputable def zipW:List W->List W->List W
 |x::a,y::b=>.tup [x,y]::zipW a b
 |_,_=>[]
theorem zb5:∀(x y:List W),(zipW x y).length=min x.length y.length
 |[],_=>by simp [zipW]
 |_::_,[]=>by simp [zipW]
 |_::x,_::y=>by simp only [zipW,Bd,zb5 x y];omega
theorem zf9:∀{a b:List W}{i:Nat}{x y:W},a[i]?=Za x->b[i]?=Za y->(zipW a b)[i]?=Za (.tup [x,y])
 |[],_,_,_,_,e,_=>by simp at e
 |_::_,[],_,_,_,_,e=>by simp at e
 |_::a,_::b,0,_,_,e,c=>by simp at e c;subst e c;rfl
 | _::a,_::b,i+1,x,y,e,c=>by
  show (zipW a b)[i]?=_;exact zf9 (by simpa using e) (by simpa using c)
noncomputable def gZip (g g':GE):GL:=λen=>(g en).bind λp=>(g' p.1).bind λq=>(seqW p.2.1).bind λw=>(seqW q.2.1).bind λu=>Za (q.1,zipW w u)
section
variable {K:Zg}{F H:Hp}{σ:St}
theorem zdy {w:W}{ws:List W}{v:V} (y:Rep K F w v) (h:seqW w=Za ws):∃a k b,v=.ref a/\SqK K k F a b/\Reps K F ws b:=by
 cases w with
 | lst x=>obtain rfl:=sI h;cases y with
  |lst y r=>exact⟨_,Zd,_,rfl,SqL.of' y,r⟩
 | frl x=>obtain rfl:=sI h;cases y with
  |frl y r=>exact⟨_,Zd,_,rfl,y,r⟩
 | tup x=>obtain rfl:=sI h;cases y with
  |tup y r=>exact⟨_,Zc,_,rfl,.inl (.inl y),r⟩
 |_=>exact noSome h
theorem z7x {a b:Zh}{k e:Bool}{vs us:List V}{ws z:List W}(h:SqK K k F a vs)(h':SqK K e F b us)(r:Reps K F ws vs)(c:Reps K F z us):ItOk K F (Itz K k e a b) (zipW ws z) where
 go:=λi H s d=>by
  rw[zb5] at d;have t:i<vs.length:=by rw[<-r.length];omega
  have l:i<us.length:=by rw[<-c.length];omega
  exact⟨vs,us,vs[i],us[i],h.mono s,h'.mono s,Af t,Af l⟩
 stop:=λH s=>⟨vs,us,h.mono s,h'.mono s,by rw[zb5,r.length,c.length];omega⟩
 yld:=λi H x C s d y=>by
  nofun;obtain⟨p,v,u,A,m,f,j,o⟩:=y;ac_rfl;subst A f;nofun;obtain⟨B,w,n⟩:=r.getV (j vs (h.mono s));obtain⟨D,g,q⟩:=c.getV (o us (h'.mono s));ac_rfl;exact⟨_,zf9 w g,.tup m (.cons n (.cons q .nil))⟩
theorem zyh {g g':GE}{R:It->Hp->Prop}(h:tI K (gZip g g') σ H R):iZip K (zek (tE K g) (zek (tE K g') tNil)) σ H R:=by
 nofun;obtain⟨F,pr,en,B,X,Re,h,q⟩:=h;obtain⟨⟨i,E⟩,D,h⟩:=bS h;obtain⟨⟨u,r⟩,P,h⟩:=bS h;obtain⟨U,w,h⟩:=bS h;obtain⟨Q,e,h⟩:=bS h;ac_rfl;cases h;refine⟨F,pr,en,i,E,Re,D,λW T v x M z=>?_⟩;nofun;obtain⟨A,J,R2,y⟩:=z.freeze M;ac_rfl;refine⟨A,pr,i,u,r,R2,P,λV G S s t I=>?_⟩;nofun;obtain⟨l,f,c,C⟩:=I.freeze t;obtain⟨a,N,m,n,j,L⟩:=zdy (y.mono (s.trans f)) w;obtain⟨b,O,d,o,k,p⟩:=zdy C e;ac_rfl;subst n o;exact⟨a,b,N,O,m,d,rfl,j.mono c.sub,k.mono c.sub,q l G _ (x.trans (J.trans (s.trans f))) c (z7x j k L p)⟩
end
open AutoSeq1 (wpAny_loadPart')
section
variable {prog:Program}{w:World}{A:Around}{E:Ze->Zf->Prop}{s:Zf}
theorem zwt {it l:Zh}{xs:Array Ze}(ne:l≠it)(p:A.handled=Zb):Draws prog w A.in1 it [it,l] xs.size (λi x=>xs[i]?=Za x) (λk h=>h.IsTupleIter it l k/\h.IsTuple l xs) where
 live:=λi h a=>let ⟨⟨o,e,_⟩,_⟩:=a;⟨o,e⟩
 frame:=λi h m a k=>⟨a.1.at λo e=>k it (by simp) o e,let ⟨o,e,r⟩:=a.2;⟨o,k l (by simp) o e,r⟩⟩
 item:=λi s Q E j a q=>zfz (k:=i) (xs:=xs) (x:=xs[i]) (.inr a) (Bw j) ne λm c d=>by
  rcases c with⟨⟨o,e,C,_⟩,b⟩|c
  ·obtain ⟨D, B, n, _⟩:=a.1;have:=a.2;exact absurd b (λb=>by
   obtain⟨y,f,g,_⟩:=b;obtain⟨z,t,u,_⟩:=a.2;rw[(d.2 l ne).trans t] at f;obtain rfl:=sI f;rw[u] at g;exact absurd (Ze.type.inj g) #v[0,9])
  ·exact q xs[i] m s.toks (Bw j) c d
 done:=λs Q E a q=>zka (k:=xs.size) (xs:=xs) (show A.in1.handled=Zb from p) (.inr a) (Cb (Ag _)) q
theorem zo9 (l:Zh) (items:Array Ze) (n:Nat) (dct:Option Zh) (f:Array (Option Ze)) :
  Meets (Builtin.«enumerate.__new__» ⟨[.type "enumerate",.ref l],[]⟩) (λ_ R s=>s.heap.get? l=Za { cls:=.type "tuple",dict:=dct,data:=.seq items n,slots:=f } /\
   R (.ok (.ret (.ref (s.heap.push { cls:=.type "tuple_iterator",data:=.fields #[.ref l,.int 0 0] }).objs.size)))
    { s with heap:=(s.heap.push { cls:=.type "tuple_iterator",data:=.fields #[.ref l,.int 0 0] }).push { cls:=.type "enumerate",data:=.fields #[.none,.bool Zc,.ref s.heap.objs.size,rawInt 0,.none,.none] } }) :=
 .of_wp λprog w A R s h=>by
  obtain⟨i,g,d,t,o⟩:=s;obtain⟨a,h⟩:=h;have e:=sub_enumerate;have b:Heap.IsTuple (Zf.heap ⟨i,g,d,t,o⟩) l items:=⟨_,a,rfl,n,rfl⟩
  wp_walk using Dk a
  refine wpAny_stack_any λj=>Ac ?_;split
  ·rename_i c _ _ _ _ _;cases (c==Ze.type "enumerate")<;>(wp_walk using Dk a,He b)<;>exact⟨_,rfl,h⟩
  ·wp_walk using Dk a,He b
   exact⟨_,rfl,h⟩
theorem zr0 {l:Zh}{items:Array Ze}{Q:Ze->Zf->Prop} (i:s.heap.IsTuple l items)
  (h:∀a,IsEnum a (s.heap.objs.size+1) s.heap.objs.size 0 .none->a.IsTupleIter s.heap.objs.size l 0->(∀b o,s.heap.get? b=Za o->a.get? b=Za o)->Q (.ref (s.heap.objs.size+1)) { s with heap:=a }) :
  wpAny (model prog w) A (call (.type "enumerate") [.ref l]) Q E s:=by
 nofun;obtain⟨⟨c,dct,m,f⟩,k,g,n,j⟩:=i;ac_rfl;cases (show c=.type "tuple" from g);cases (show m=.seq items n from j);refine callType_new F.called_enumerate #v[0,9] (F.typeCall_enumerate_1 _) (F.newCall_enumerate_1 _) (λobj=>F.args_object_init_2 obj _) F.entry_enumerate_new (zo9 l items n dct f) ⟨k,?_⟩;have e:(s.heap.push { cls:=.type "tuple_iterator",data:=.fields #[.ref l,.int 0 0] }).objs.size=s.heap.objs.size+1:=Cq ..;show _/\_;rw[e];have d:=Ah (s.heap.push { cls:=.type "tuple_iterator",data:=.fields #[.ref l,.int 0 0] }) (o:={ cls:=.type "enumerate",data:=.fields #[.none,.bool Zc,.ref s.heap.objs.size,rawInt 0,.none,.none] }) rfl;rw[e] at d;exact⟨⟨_,d,rfl⟩,h _ d ⟨_,Ab _ (Ah _ rfl),rfl,rfl⟩ λb o x=>Ab _ (Ab _ x)⟩
end
noncomputable def IteT (K:Zg) (a:Zh):It :=
 ⟨λi H=>∃b x,SqT K H a b/\b[i]?=Za x,λi H x c=>∃p v,x=.ref p/\H p=Zb/\c=upd H p (.tup [.int i,v])/\∀b,SqT K H a b->b[i]?=Za v,λi H=>∃b,SqT K H a b/\b.length<=i⟩
theorem zrt {P:Program}{w:World}{K:Zg}{es:List Zi}{x1}{px:Pos}(a e it:Zh)(A:e≠it)(V:e≠a)(hai:a≠it):Turn P w K (.Tuple es x1 px) (IteT K a) [e,it] e (λi h=>(∃old,IsEnum h e it i old)/\h.IsTupleIter it a i) where
 mem:=by simp
 obj:=λi h n b f=>by
  nofun;obtain⟨⟨old,l⟩,o,hi,c,d⟩:=n;ac_rfl;rcases Ar.mp f with rfl|f
  ·exact⟨_,l,λv z=>by cases z⟩
  ·have:b=it:=by simpa using f
   subst this;exact⟨o,hi,λv z=>by rw[d] at z;cases z⟩
 keep:=λi h h' n k=>⟨let ⟨old,l⟩:=n.1;⟨old,k e (by simp) _ l⟩,n.2.at λo z=>k it (by simp) o z⟩
 item:=by
  intro X S W hK U i pins s σ H E I G n Y;subst S W hK;nofun;obtain⟨xs,x,J,Q⟩:=Y;obtain⟨j,rv,p,hz⟩:=I.tuple J;obtain⟨u,hu,ru⟩:=rv.get Q;obtain⟨⟨old,l⟩,r⟩:=n;ac_rfl;have L:s.heap.IsTuple a j.toArray:=p;have lt:i<j.toArray.size:=by
   rw[Am];exact (Ai.mp hu).1
  refine wpAny_pyNext_enum_itemD (zwt hai (I.ok.hd U)) l ⟨r,L⟩ lt A (by simp [A,V]) λy h' tk R N Z O hsz hk=>⟨_,rfl,?_⟩;have eu:y=u:=by
   have:j[i]?=Za y:=by simpa using R
   rw[hu] at this;exact (sI this).symm
  subst eu;refine wpAny_letOwnedTupleGo_enum N λC t g=>?_;have kk:∀b o,b ∉ [e,it]->s.heap.get? b=Za o->C.get? b=Za o:=λb o f q=>by
   have h1:b≠e:=λz=>f (by simp [z]);have h2:b≠it:=λz=>f (by simp [z]);exact (g.2 b h1).trans (hk b o h1 h2 q)
  have B:s.heap.objs.size≠e:=λz=>absurd (Aj l) (by rw[z];exact Cg _);have m:C.IsTupleIter it a (i+1):=Z.1.at λo y=>(g.2 it A.symm).trans y;refine⟨.ref s.heap.objs.size,upd H s.heap.objs.size (.tup [.int i,x]),I.turnLay kk (λb f=>?_) G (Ag _) ⟨by show 2<=sizeLine;decide,[.int i tk,y],.cons ⟨_,rfl⟩ (.cons ru .nil),?_⟩,rfl,⟨_,x,rfl,I.hok.fresh (Ag _),rfl,λys R=>by rw[I.tuple_inj R J];exact Q⟩,⟨⟨_,by simpa using t⟩,m⟩,λb f=>?_⟩
  ·rcases Ar.mp f with rfl|f
   ·exact⟨_,t⟩
   ·have:b=it:=by simpa using f
    subst this;obtain⟨o,z,_⟩:=m;exact⟨o,z⟩
  ·exact⟨_,(g.2 _ B).trans O,rfl,_,rfl⟩
  ·have:b≠s.heap.objs.size:=by
    rcases Ar.mp f with rfl|f
    ·exact B.symm
    ·have e2:b=it:=by simpa using f
     subst e2;obtain⟨o,z,_⟩:=r;exact Aw (Aj z)
   rw[upd_ne this];exact (G b f).1
 done:=by
  intro X S W hK U i pins s σ H E I G n Y;subst S W hK;nofun;obtain⟨xs,J,Q⟩:=Y;obtain⟨j,rv,p,hz⟩:=I.tuple J;obtain⟨⟨old,l⟩,r⟩:=n;obtain⟨f0,f1,f2,f3,f4,f5⟩:=G it (by simp);ac_rfl;have hl:=rv.length;have L:s.heap.IsTuple a j.toArray:=p;have D:s.TypeIs (.ref e) "enumerate" := ⟨_,l,rfl⟩;unfold pyNext;refine Aa (Dv (Bs (name:=Str.ofString "__next__") D F.slot_enumerate_next (Cc F.slot_enumerate_next D F.entry_enumerate_next ?_ (F.args_enumerate_next_1 _))));show wpAny _ _ (field (.ref e) 2>>=_) _ _ _;refine Aa (De l rfl (x:=.ref it) rfl ?_);refine Aa (zka (show _=Zb from I.ok.hd U) (.inr ⟨r,L⟩) (Cb (by simp;omega)) λh' x eb M=>?_);obtain⟨o,N,hc'⟩:=M;refine Aa (Ez (T := "StopIteration") (b:=Zd) ⟨o,N,hc'⟩ isSubtype_stop ?_);exact Ac ⟨rfl,I.turned (t':=s.toks) (λb o f e=>eb b o f e) f0 f1 f3 f4 f5⟩
 self:=λ_ _ _ _ _ n h=>let ⟨_,l⟩:=n.1;Ip l h
section
variable {X:Cx}
noncomputable def z06 (K:Zg) (t:TA):TI:=λσ H R=>t σ H λv b=>∃a x,v=[.ref a]/\(SqL K b a x/\R (Ite K a) b\/SqT K b a x/\R (IteT K a) b)
theorem zy2 {es:List Zi}{F}{L:Pos}{l:Zi}{w:TA}{p pos:Pos} (E:Gl X "enumerate") (y:X.mg "enumerate" = Zb) (A:PA X [l] w) (C:starEach [l] X.env=[(Zc,eval l X.env)]:=by rfl) :
  PI X (.Tuple es F L) (.Call (.Name "enumerate" p) [l] [] pos) (z06 X.K w):=by
 intro pins s σ H R I h;refine Call_ (zdu I E y boot_enumerate (Dw (thn (A pos pins s σ H _ I h) λO c ⟨N,m,f,K,D⟩=>?_) C rfl));obtain⟨a,P,e,q⟩:=D;subst e;cases K with
 | cons r G =>
  cases G;cases r;have fp:∀b∈[c.heap.objs.size+1,c.heap.objs.size],FpOk X pins m b:=λb t=>by
   have e:c.heap.objs.size<=b:=by
    rcases Ar.mp t with rfl|t
    ·exact Nat.le_succ _
    ·have B:b=c.heap.objs.size:=by simpa using t
     rw[B];exact Ag _
   exact f.fpOk e (f.hok.fresh e)
  rcases q with⟨n,q⟩|⟨n,q⟩
  ·obtain ⟨i,z,k, J⟩:=f.list n
   refine call_enumerate_list k.isList λM g d x j=>Ip g ?_;exact⟨c.heap.objs.size+1,[c.heap.objs.size+1,c.heap.objs.size],_,_,m,rfl,f.kept (t':=c.toks) j,zt0 a _ _ (Nat.succ_ne_self _),⟨⟨_,by simpa using g⟩,d⟩,fp,q⟩
  ·obtain ⟨i,z,k, J⟩:=f.tuple n
   have u:c.heap.IsTuple a i.toArray:=k;have v:a<c.heap.objs.size:=let ⟨o,e,_⟩:=u;Aj e;refine zr0 u λM g d j=>Ip g ?_;exact⟨c.heap.objs.size+1,[c.heap.objs.size+1,c.heap.objs.size],_,_,m,rfl,f.kept (t':=c.toks) j,zrt a _ _ (Nat.succ_ne_self _) (Ej (Dq v)) (Aw v),⟨⟨_,by simpa using g⟩,d⟩,fp,q⟩
end
section
variable {K:Zg}{F H:Hp}{σ:St}
theorem zz2 {a:Zh}{vs:List V}{ws:List W}(h:SqT K F a vs)(r:Reps K F ws vs):ItOk K F (IteT K a) (zfv ws 0) where
 go:=λi H s b=>by rw[zbw] at b;exact⟨vs,vs[i]'(by rw[<-r.length];exact b),zb2 s h,by rw[Af]⟩
 stop:=λH s=>⟨vs,zb2 s h,by rw[zbw,r.length];exact Ag _⟩
 yld:=λi H x f s b y=>by
  nofun;obtain⟨p,v,e,d,c,y⟩:=y;ac_rfl;subst e c;obtain⟨w,e,q⟩:=r.getV (y vs (zb2 s h));refine⟨_,zeh e,?_⟩;rw[Ce];exact .tup d (.cons (.int _) (.cons q .nil))
noncomputable def zl7 (g:GE):GL:=λen=>(g en).bind λp=>(seqW p.2.1).bind λw=>Za (p.1,zfv w 0)
theorem zuh {g:GE}{R:It->Hp->Prop}(h:tI K (zl7 g) σ H R):z06 K (zek (tE K g) tNil) σ H R:=by
 nofun;obtain⟨F,pr,en,l,w,Re,h,q⟩:=h;obtain⟨⟨n,p⟩,m,h⟩:=bS h;obtain⟨u,j,h⟩:=bS h;ac_rfl;cases h;refine⟨F,pr,en,n,p,Re,m,λt d v s o z=>?_⟩;nofun;obtain⟨f,i,R2,y⟩:=z.freeze o;obtain⟨a,k,c,e,b,r⟩:=zdy y j;ac_rfl;subst e;cases k with
 |true=>exact⟨a,c,rfl,.inl ⟨R2.sub.seq b,q f d _ (s.trans i) R2 (z39 b r)⟩⟩
 |false=>exact⟨a,c,rfl,.inr ⟨zb2 R2.sub b,q f d _ (s.trans i) R2 (zz2 b r)⟩⟩
end
end L2
namespace L2
open PySem PySem.Spec PyProof.Rows
section
variable {X:Cx}{pins:List (Zh × Obj)}{σ:St}{H:Hp}{s:Zf}
end
section
variable {K:Zg}{F H:Hp}
end
noncomputable abbrev Fn:=List W->Option (List W×(W×Bool))
noncomputable def zau (m:List Bool) (ws:List W):En:=List.zipWith (λw b=>Za (w,b)) ws m
noncomputable def spF (K:Zg) (m:List Bool) (Φ:Fn):Sp:=λc H Q _=>∃F pr d w r,d.length=m.length/\w.length=m.length/\Rel K F pr (zau m d) (c.map Za) H/\Φ d=Za (w,r) /\
 ∀a b v,Same F a->Rel K a pr (zau m w) (c.map Za) b->Res K a b pr (zau m w) (c.map Za) r v->Q v b
theorem zer {m:List Bool}{ws:List W}{k:Nat}{w:W}{b:Bool}:(zau m ws)[k]?=Za (Za (w,b))↔ws[k]?=Za w/\m[k]?=Za b:=by
 unfold zau;rw[List.getElem?_zipWith];cases ws[k]?<;>cases m[k]?<;>simp
theorem zeg {m:List Bool}{ws:List W}(h:ws.length=m.length):(zau m ws).length=m.length:=by
 unfold zau;rw[List.length_zipWith,h,Ew]
theorem zt9 {K:Zg}{m:List Bool}{Φ:Fn}{vs:List V}{H:Hp}{Q:VK}{E:XK}(h:spF K m Φ vs H Q E):vs.length=m.length:=by
 obtain⟨F,pr,b,w,r,a,_,R,_⟩:=h;have:=R.len;rw[zeg a,Ad] at this;exact this.symm
noncomputable def isR:W ⊕ Nat->Bool
 |.inr _=>Zd
 |.inl _=>Zc
noncomputable def zav (xs:List (W ⊕ Nat)):Cap:=xs.map λx=>match x with
 |.inr i=>Za i
 |.inl _=>Zb
noncomputable def zaq (en:En) (xs:List (W ⊕ Nat)):Bool:=xs.all λx=>match x with
 | .inr i=>match en[i]? with
  |some (#v[_,5])=>Zd
  |_=>Zc
 |.inl _=>Zd
noncomputable def zaf (m:List Bool) (Φ:Fn) (as:GAs):GE:=λen=>(as en).bind λp=>if decide (p.2.map isR=m)&&zaq p.1 p.2&&zb6 (zav p.2) then (zar p.1 p.2).bind λw=>(Φ w).bind λq=>if q.1.length=m.length then Za (zao (zav p.2) p.1 (zau m q.1),q.2) else Zb else Zb
theorem ArgRs.get {K:Zg}{F:Hp}{σ:St}:∀{b:List (W ⊕ Nat)}{a:List V}{k:Nat}{x:W ⊕ Nat},ArgRs K F σ b a->b[k]?=Za x->∃v,a[k]?=Za v/\ArgR K F σ x v
 |_,_,_,_,.nil,e=>by simp at e
 |_,_,0,_,.cons h _,e=>by simp at e;subst e;exact⟨_,rfl,h⟩
 | _,_,k+1,x,.cons _ r,e=>by
  obtain⟨v,c,d⟩:=ArgRs.get (k:=k) (x:=x) r (by simpa using e);exact⟨v,by simpa using c,d⟩
theorem ArgRs.length {K:Zg}{F:Hp}{σ:St}:∀{x:List (W ⊕ Nat)}{v:List V},ArgRs K F σ x v->x.length=v.length
 |_,_,.nil=>rfl
 |_,_,.cons _ r=>congrArg (· + 1) (ArgRs.length r)
theorem zl3 {en:En}:∀{b:List (W ⊕ Nat)}{a:List W},zar en b=Za a->a.length=b.length
 |[],_,e=>by obtain rfl:=sI e;rfl
 | x::b,_,e=>by
  obtain⟨w,_,e⟩:=bS e;obtain⟨a,h,e⟩:=bS e;obtain rfl:=sI e;exact congrArg (· + 1) (zl3 h)
theorem zk4 {en:En}:∀{a:List (W ⊕ Nat)}{b:List W}{k:Nat}{w:W},zar en a=Za b->b[k]?=Za w->∃x,a[k]?=Za x/\resA en x=Za w
 |[],_,_,_,e,h=>by obtain rfl:=sI e;simp at h
 | x::a,_,k,w,e,h=>by
  obtain⟨u,d,e⟩:=bS e;obtain⟨i,g,e⟩:=bS e;obtain rfl:=sI e;cases k with
  |zero=>simp at h;subst h;exact⟨x,rfl,d⟩
  |succ k=>obtain⟨y,c,f⟩:=zk4 (k:=k) g (by simpa using h);exact⟨y,by simpa using c,f⟩
theorem zev {xs:List (W ⊕ Nat)}{k i:Nat}:(zav xs)[k]?=Za (Za i)↔xs[k]?=Za (.inr i):=by
 unfold zav;rw[At];cases e:xs[k]? with
 |none=>simp
 |some x=>cases x<;>simp
section
variable {K:Zg}{F H:Hp}{pr:Prt}{en:En}{σ:St}
theorem Rel.back {cap:Cap}{B H':Hp}{N:En}{y:St} (R:Rel K F pr en σ H) (s:Same F B) (G:Rel K B (zbm pr cap en σ H) N y H') (slot:∀(i j:Nat) (v:V),zap cap i=Za j->y[j]?=Za (Za v)->σ[i]?=Za (Za v)) :
  Rel K B pr (zao cap en N) σ H'/\∀r v,Res K B H' (zbm pr cap en σ H) N y r v->Res K B H' pr (zao cap en N) σ r v:=by
 have un:∀(i:Nat) (w:W),zap cap i=Zb->en[i]?=Za (Za (w,Zd))->∃(a:Zh) (m:HO) (n:W),w=n/\σ[i]?=Za (Za (V.ref a))/\H a=Za m/\H' a=Za m/\B a=Zb/\OwnR K F n m/\∀(j:Nat) (A:W),N[j]?=Za (Za (A,Zd))->y[j]?≠Za (Za (V.ref a)):=λi w c e=>by
  obtain⟨a,m,n,u,h,g,J,D⟩:=R.own i w e;obtain⟨Q,T,U⟩:=G.prt a m (.inr ⟨i,w,e,c,h,g⟩);exact⟨a,m,n,u,h,g,Q,T,D,U⟩
 have d:∀(i j:Nat) (w:W),zap cap i=Za j->N[j]?=Za (Za (w,Zd))->∃(a:Zh) (m:HO) (n:W),w=n/\σ[i]?=Za (Za (V.ref a))/\y[j]?=Za (Za (V.ref a))/\H' a=Za m/\B a=Zb/\OwnR K B n m:=λi j w c e=>by
  obtain⟨a,m,n,u,h,g,J,D⟩:=G.own j w e;exact⟨a,m,n,u,slot i j _ c h,h,g,J,D⟩
 refine⟨⟨by unfold zao;rw[List.length_mapIdx];exact R.len,G.sub,λi w e=>?_,λi w e=>?_,λi k a w A E t O M=>?_,λb o q=>?_,G.tb.go (λb xs z=>.inl z) (λb Y e f=>⟨e,f⟩) (.refl B) λb Y e hh o z=>hh o (.inl z)⟩,λr v z=>?_⟩
 ·rcases backEn_get e with ⟨j,c,e⟩ | ⟨c,e⟩
  ·obtain ⟨v,u,h⟩:=G.val j w e
   exact⟨v,slot i j v c u,h⟩
  ·obtain ⟨v,u,h⟩:=R.val i w e
   exact⟨v,u,h.mono s⟩
 ·rcases backEn_get e with ⟨j,c,e⟩ | ⟨c,e⟩
  ·obtain ⟨a,m,n,u,h,_,g,J,D⟩:=d i j w c e
   exact⟨a,m,n,u,h,g,J,D⟩
  ·obtain ⟨a,m,n,u,h,_,g,J,D,_⟩:=un i w c e
   exact⟨a,m,n,u,h,g,J,D.mono s⟩
 ·rcases backEn_get E with ⟨j,c,E⟩ | ⟨c,E⟩
  ·obtain ⟨L, _,_,_,h,g,_⟩:=d i j w c E
   rw[O] at h;cases h;rcases backEn_get t with⟨l,I,t⟩|⟨I,t⟩
   ·obtain ⟨L, _,_,_,C,P,_⟩:=d k l A I t
    rw[M] at C;cases C;have:=G.inj j l a _ _ E t g P;subst this;have x:=zba c;rw[zba I] at x;cases x;rfl
   ·obtain ⟨L, _,_,_,C,_,_,_,_,P⟩:=un k A I t
    rw[M] at C;cases C;exact absurd g (P j w E)
  ·obtain ⟨L, _,_,_,h,_,_,_,_,g⟩:=un i w c E
   rw[O] at h;cases h;rcases backEn_get t with⟨l,I,t⟩|⟨I,t⟩
   ·obtain ⟨L, _,_,_,C,P,_⟩:=d k l A I t
    rw[M] at C;cases C;exact absurd P (g l A t)
   ·exact R.inj i k a _ _ E t O M
 ·obtain ⟨Q,T,U⟩:=G.prt b o (.inl q)
  refine⟨Q,T,λi w e=>?_⟩;rcases backEn_get e with⟨j,c,e⟩|⟨c,e⟩
  ·obtain ⟨a,_,_,_,h,g,_⟩:=d i j w c e
   rw[h];intro z;cases z;exact U j w e g
  ·exact (R.prt b o q).2.2 i w e
 ·obtain ⟨w,fl⟩:=r
  cases fl with
  |false=>exact z
  | true =>
   obtain⟨a,m,n,O,M,Z,q4,q5,q6,X⟩:=z;refine⟨a,m,n,O,M,Z,q4,q5,λi A e=>?_,λb o p=>X b o (.inl p)⟩;rcases backEn_get e with⟨j,c,e⟩|⟨c,e⟩
   ·obtain ⟨L, _,_,_,h,g,_⟩:=d i j A c e
    rw[h];intro z;cases z;exact q6 j A e g
   ·obtain ⟨L, S, ws', u,h,g,J,D⟩:=R.own i A e
    rw[h];intro z;cases z;exact X a S (.inr ⟨i,A,e,c,h,g⟩) rfl
theorem zoc {m:List Bool}{Φ:Fn}{xs:List (W ⊕ Nat)}{e1 en':En}{F H:Hp}{vs:List V}{r:W×Bool}{Q:VK}{E:XK} (R:Rel K F pr e1 σ H) (O:ArgRs K F σ xs vs)
  (h:(if decide (xs.map isR=m)&&zaq e1 xs&&zb6 (zav xs) then (zar e1 xs).bind λt=>(Φ t).bind λq=>if q.1.length=m.length then Za (zao (zav xs) e1 (zau m q.1),q.2) else Zb else Zb)=Za (en',r))
  (q:∀P S v,Same F P->Rel K P pr en' σ S->Res K P S pr en' σ r v->Q v S):spF K m Φ vs H Q E:=by
 split at h
 ·rename_i z
  rw[Ae,Ae] at z;obtain⟨⟨z1,z2⟩,Y⟩:=z;have U:xs.map isR=m:=As z1;nofun;obtain⟨t,h2,h⟩:=bS h;obtain⟨⟨T,r'⟩,h3,h⟩:=bS h;ac_rfl;split at h
  ·rename_i hl
   cases h;have lx:t.length=xs.length:=zl3 h2;have lm:xs.length=m.length:=by rw[<-U,Ad]
   have lv:=O.length;have at' : ∀(k:Nat) (w:W) (b:Bool),(zau m t)[k]?=Za (Za (w,b))->∃x v,xs[k]?=Za x/\isR x=b/\resA e1 x=Za w/\vs[k]?=Za v/\ArgR K F σ x v:=λk w b e=>by
    nofun;obtain⟨s,d⟩:=zer.mp e;obtain⟨x,g,n⟩:=zk4 h2 s;obtain⟨v,C,g6⟩:=O.get g;ac_rfl;rw[<-U,At,g] at d;exact⟨x,v,g,sI d,n,C,g6⟩
   have B:∀(k:Nat) (w:W),(zau m t)[k]?=Za (Za (w,Zd))->∃i v,xs[k]?=Za (.inr i)/\e1[i]?=Za (Za (w,Zd))/\vs[k]?=Za v/\σ[i]?=Za (Za v):=λk w e=>by
    nofun;obtain⟨x,v,s,d,g,n,C⟩:=at' k w Zd e;ac_rfl;cases x with
    |inl _=>cases d
    | inr i =>
     refine⟨i,v,s,?_,n,C⟩;have o:=Bf.mp z2 _ (Dg s);simp only at o;split at o
     ·rename_i w0 e0
      unfold resA at g;simp only [e0] at g;obtain rfl:=sI g;exact e0
     ·cases o
   have RC:Rel K F (zbm pr (zav xs) e1 σ H) (zau m t) (vs.map Za) H:=by
    refine⟨by rw[zeg #v[],Ad];omega,R.sub,λk w e=>?_,λk w e=>?_,λk l a w N s d g n=>?_,λb o p=>?_,R.tb.go (λb xs z=>ziv R z) (λb ps e f=>⟨e,f⟩) (.refl F) λb ps e hh o z=>zix R e hh o z⟩
    ·refine aG λL qG => ?_
     obtain⟨x,v,s,d,g,n,C⟩:=at' k w Zc e;ac_rfl;cases x with
     |inr _=>cases d
     |inl u=>obtain rfl:=sI g;exact⟨v,by rw[At,n];rfl,C⟩
    ·refine aG λL qG => ?_
     obtain⟨i,v,s,d,g,n⟩:=B k w e;obtain⟨a,X,Z,G,D,I,M,p5⟩:=R.own i w d;ac_rfl;rw[n] at D;cases D;exact⟨a,X,Z,G,by rw[At,g];rfl,I,M,p5⟩
    ·refine aG λL qG => ?_
     obtain⟨i,v,k1,k2,k3,k4⟩:=B k w s;obtain⟨i',v',l1,l2,l3,l4⟩:=B l N d;ac_rfl;rw[At,k3] at g;cases g;rw[At,l3] at n;cases n;have:=R.inj i i' a _ _ k2 l2 k4 l4;subst this;have y:=zf7 Y (zev.mpr k1);rw[zf7 Y (zev.mpr l1)] at y;exact (sI y).symm
    ·rcases p with p | ⟨j,w,G,D,I,M⟩
     ·obtain ⟨b1,b2,b3⟩:=R.prt b o p
      refine⟨b1,b2,λk w e=>?_⟩;nofun;obtain⟨i,v,s,d,g,n⟩:=B k w e;ac_rfl;rw[At,g];intro y;cases y;exact b3 i w d n
     ·refine aG λL qG => ?_
      obtain⟨a,X,Z,p1',A,p3',J,p5'⟩:=R.own j w G;ac_rfl;rw[I] at A;cases A;refine⟨M,J,λk N e=>?_⟩;nofun;obtain⟨i,v,s,d,g,n⟩:=B k N e;ac_rfl;rw[At,g];intro y;cases y;have:=R.inj i j _ _ _ d G n I;subst this;exact zcg D k (zev.mpr s)
   refine ⟨F,zbm pr (zav xs) e1 σ H,t,T,_,by omega,hl,RC,h3,λF2 H2 v s2 R2 y2=>?_⟩;obtain ⟨Ro,rz⟩:=R.back s2 R2 λi j v c e=>by
    have c':=zev.mp (zba c);obtain⟨v',s,d⟩:=O.get c';rw[At,s] at e;cases e;exact d
   exact q F2 H2 v s2 Ro (rz _ _ y2)
  ·cases h
 ·cases h
theorem zth {m:List Bool}{Φ:Fn}{as:GAs}{Q:VK}(h:tE K (zaf m Φ as) σ H Q):z4w (spF K m Φ) [] E0 (tAs K as) σ H Q:=by
 nofun;obtain⟨F,pr,en,j,r,R,h,q⟩:=h;obtain⟨⟨e,x⟩,f,h⟩:=bS h;ac_rfl;refine⟨F,pr,en,e,x,R,f,λl c d i g k=>?_⟩;show spF K m Φ (d++[]) c Q E0;rw[Bv];exact zoc g k h λa b v s=>q a b v (i.trans s)
end
noncomputable def zb7:List Bool->List W->En->Option (List W)
 |[],[],_=>Za []
 |true::m,_::a,#v[w,5]::en=>(zb7 m a en).bind λr=>Za (w::r)
 |false::m,w::a,_::en=>(zb7 m a en).bind λr=>Za (w::r)
 |_,_,_=>Zb
noncomputable def mpOf (m:List Bool):List Nat:=(List.range m.length).filter λk=>m[k]? == Za Zd
noncomputable def zal (m:List Bool) (n:Nat) (g:GS):Fn:=λa=>if a.length=m.length then match g (zau m a++List.replicate (n-m.length) Zb) with
 |some (en,.ret r)=>(zb7 m a en).bind λw=>Za (w,r)
 |some (en,.nx)=>(zb7 m a en).bind λw=>Za (w,(.non,Zc))
 |_=>Zb else Zb
theorem zjz:∀{m:List Bool}{c:List W}{en:En}{a:List W},zb7 m c en=Za a->a.length=m.length/\∀(k:Nat) (w:W),a[k]?=Za w->(m[k]?=Za Zd->en[k]?=Za (Za (w,Zd)))/\(m[k]?=Za Zc->c[k]?=Za w)
 |[],[],_,_,e=>by obtain rfl:=sI e;exact⟨rfl,λk w h=>by simp at h⟩
 | true::m,_::c,Za (u,Zd)::en,_,e=>by
  obtain⟨r,h,e⟩:=bS (show (zb7 m c en).bind _=_ from e);obtain rfl:=sI e;obtain⟨d,f⟩:=zjz h;refine⟨congrArg (· + 1) d,λk w b=>?_⟩;cases k with
  |zero=>simp at b;subst b;exact⟨λ_=>rfl,λz=>by simp at z⟩
  | succ k =>
   have:=f k w (by simpa using b);exact⟨λz=>by simpa using this.1 (by simpa using z),λz=>by simpa using this.2 (by simpa using z)⟩
 | false::m,u::c,_::en,_,e=>by
  obtain⟨r,h,e⟩:=bS (show (zb7 m c en).bind _=_ from e);obtain rfl:=sI e;obtain⟨d,f⟩:=zjz h;refine⟨congrArg (· + 1) d,λk w b=>?_⟩;cases k with
  |zero=>simp at b;subst b;exact⟨λz=>by simp at z,λ_=>rfl⟩
  | succ k =>
   have:=f k w (by simpa using b);exact⟨λz=>by simpa using this.1 (by simpa using z),λz=>by simpa using this.2 (by simpa using z)⟩
 |[],_::_,_,_,e=>by exact noSome e
 |true::_,[],_,_,e=>by exact noSome e
 |false::_,[],_,_,e=>by exact noSome e
 |true::_,_::_,[],_,e=>by exact noSome e
 |false::_,_::_,[],_,e=>by exact noSome e
 |true::_,_::_,Zb::_,_,e=>by exact noSome e
 |true::_,_::_,#v[_,6]::_,_,e=>by exact noSome e
theorem zs7 {K:Zg}{m:List Bool}{N:List Str}{g:GS}{vs:List V}{H:Hp}{Q:VK}{E:XK} (h:spF K m (zal m N.length g) vs H Q E):tS K (mpOf m) g { nx:=λ_ t=>Q .non t,rt:=Q } (start N vs) H:=by
 have hv:=zt9 h;refine aG λ_ qG=>?_;obtain ⟨F,pr,G,S,r,h1,h2,R,n,q⟩:=h;refine qG ?_;clear qG;unfold zal at n;rw [if_pos h1] at n;have la:=zeg h1;have f:∀(i:Nat) (x:W×Bool),(zau m G++List.replicate (N.length-m.length) Zb)[i]?=Za (Za x)->(zau m G)[i]?=Za (Za x):=λi x e=>by
  by_cases hi:i<(zau m G).length
  ·rw[Dm hi] at e;exact e
  ·rw [Fp (by omega),List.getElem?_replicate] at e
   split at e<;>cases e
 have Z:∀(i:Nat) (v:V),(vs.map Za)[i]?=Za (Za v)->(start N vs)[i]?=Za (Za v):=λi v e=>by
  unfold start;rw[Dm (by have:=(Ai.mp e).1;exact this)];exact e
 have B : ∀(i:Nat) (v:V),i<m.length->(start N vs)[i]?=Za (Za v)->(vs.map Za)[i]?=Za (Za v):=λi v hi e=>by
  unfold start at e;rw[Dm (by rw[Ad];omega)] at e;exact e
 have R0:Rel K F pr (zau m G++List.replicate (N.length-m.length) Zb) (start N vs) H:=by
  refine⟨?_,R.sub,λi w e=>?_,λi w e=>?_,λi j a w w' X T M L=>?_,λb o p=>?_,R.tb⟩
  ·unfold start
   rw[Ax,Ax,Hg,Hg,Ad,la,hv]
  ·obtain ⟨v,s,d⟩:=R.val i w (f i _ e)
   exact⟨v,Z i v s,d⟩
  ·refine aG λGg qG => ?_
   obtain⟨a,O,A,s,d,P⟩:=R.own i w (f i _ e);ac_rfl;exact⟨a,O,A,s,Z i _ d,P⟩
  ·have l1:i<m.length:=by have:=(Ai.mp (f i _ X)).1;omega
   have l2:j<m.length:=by have:=(Ai.mp (f j _ T)).1;omega
   exact R.inj i j a w w' (f i _ X) (f j _ T) (B i _ l1 M) (B j _ l2 L)
  ·obtain ⟨Y,b2,b3⟩:=R.prt b o p
   refine⟨Y,b2,λi w e z=>?_⟩;have l1:i<m.length:=by have:=(Ai.mp (f i _ e)).1;omega
   exact b3 i w (f i _ e) (B i _ l1 z)
 have back:∀(en:En) (A:List W) (u:Hp) (c:St) (t:Hp),zb7 m G en=Za A->Same F u->Rel K u pr en c t->Keep (mpOf m) (start N vs) c ->
   Rel K u pr (zau m A) (vs.map Za) t/\∀r v,Res K u t pr en c r v->Res K u t pr (zau m A) (vs.map Za) r v:=λen A u c t J D C I=>by
  obtain ⟨o1,o2⟩:=zjz J;have own:∀(k:Nat) (w:W),(zau m A)[k]?=Za (Za (w,Zd))->en[k]?=Za (Za (w,Zd))/\∀v,c[k]?=Za (Za v)↔(vs.map Za)[k]?=Za (Za v):=λk w e=>by
   obtain⟨s,d⟩:=zer.mp e;have lk:k<m.length:=(Ai.mp d).1;have hk:k∈mpOf m:=Cv.mpr ⟨Cj.mpr lk,by rw[d];simp⟩;refine⟨(o2 k w s).1 d,λv=>?_⟩;rw[I k hk];exact⟨B k v lk,Z k v⟩
  refine⟨⟨by rw[zeg o1,Ad,hv],C.sub,λk w e=>?_,λk w e=>?_,λk l a w w' X T M L=>?_,λb o p=>?_,C.tb⟩,λr v z=>?_⟩
  ·refine aG λGg qG => ?_
   obtain⟨s,d⟩:=zer.mp e;obtain⟨v,P,g4⟩:=R.val k w (zer.mpr ⟨(o2 k w s).2 d,d⟩);ac_rfl;exact⟨v,P,g4.mono D⟩
  ·refine aG λGg qG => ?_
   obtain⟨s,d⟩:=own k w e;obtain⟨a,O,A,p1,p2,p3⟩:=C.own k w s;ac_rfl;exact⟨a,O,A,p1,(d _).mp p2,p3⟩
  ·obtain ⟨s,d⟩:=own k w X
   obtain⟨P,g4⟩:=own l w' T;exact C.inj k l a _ _ s P ((d _).mpr M) ((g4 _).mpr L)
  ·obtain ⟨Y,b2,b3⟩:=C.prt b o p
   refine⟨Y,b2,λk w e z=>?_⟩;obtain⟨s,d⟩:=own k w e;exact b3 k w s ((d _).mpr z)
  ·obtain ⟨w0,U⟩:=r
   cases U with
   |false=>exact z
   | true =>
    nofun;obtain⟨a,O,wz',M,L,q3,q4,q5,q6,q7⟩:=z;ac_rfl;refine⟨a,O,wz',M,L,q3,q4,q5,λk w e y=>?_,q7⟩;obtain⟨s,d⟩:=own k w e;exact q6 k w s ((d _).mpr y)
 cases eg:g (zau m G++List.replicate (N.length-m.length) Zb) with
 |none=>simp only [eg] at n;exact noSome n
 | some p =>
  obtain⟨en,U⟩:=p;refine⟨F,pr,_,en,U,R0,eg,?_⟩;cases U with
  |brk=>simp only [eg] at n;exact noSome n
  |cnt=>simp only [eg] at n;exact noSome n
  | nx =>
   simp only [eg] at n;obtain⟨A,J,n⟩:=bS n;cases n;intro u c t D C I;obtain⟨Rb,_⟩:=back en S u c t J D C I;exact q u t .non D Rb .non
  | ret r' =>
   simp only [eg] at n;obtain⟨A,J,n⟩:=bS n;cases n;intro u c t v D C I z;obtain⟨Rb,rb⟩:=back en S u c t J D C I;exact q u t v D Rb (rb _ _ z)
end L2
set_option maxHeartbeats 4000000
namespace L2
open PySem PyProof.Rows
namespace Tim
noncomputable def gal:Bool->Keyed->Array Keyed->Nat->Nat->Nat->StateT SortSt Sem (Option Nat):=sortPriv% PySem.Builtin.gallop
noncomputable def mLo:Array Keyed->Array Keyed->StateT SortSt Sem (Array Keyed):=sortPriv% PySem.Builtin.mergeLo
noncomputable def mHi:Array Keyed->Array Keyed->StateT SortSt Sem (Array Keyed):=sortPriv% PySem.Builtin.mergeHi
theorem aG {P:Prop}(h:∀G:Prop,(P->G)->G):P:=h P id
structure Ord (lt:Keyed->Keyed->Bool) (bf le:Keyed->Keyed->Prop):Prop where
 tr:∀{x y z},le x y->le y z->le x z
 tot:∀x y,le x y\/le y x
 f1:∀{x y},bf x y->(lt y x=Zc↔le x y)
 f2:∀{x y},lt x y=Zd->le x y
 irr:∀x,lt x x=Zc
 ltr:∀{x y z},lt x y=Zd->lt y z=Zd->lt x z=Zd
 nt:∀{x z} (y),lt x z=Zd->lt x y=Zd\/lt y z=Zd
section
variable {lt:Keyed->Keyed->Bool}{bf le:Keyed->Keyed->Prop} (O:Ord lt bf le)
include O
theorem Ord.rf (x:Keyed):le x x:=(O.tot x x).elim id id
theorem Ord.f3 {x y:Keyed}(h:bf x y)(q:lt y x=Zd):¬ le x y:=λz=>by rw[(O.f1 h).mpr z] at q;cases q
end
noncomputable abbrev d0:Keyed:=(Ze.none,Ze.none)
noncomputable def G (xs:Array Keyed) (i:Nat):Keyed:=(xs[i]?).getD d0
theorem z1u {xs:Array Keyed}{i:Nat}(h:i<xs.size):xs[i]?=Za (G xs i):=by unfold G;rw[getElem?_pos xs i h];rfl
theorem z35 {xs a₀:Array Keyed}(p:xs.Perm a₀){i:Nat}(h:i<xs.size):G xs i∈a₀.toList:=by
 refine (Fv.mp p).mem_iff.mp ?_;unfold G;rw[getElem?_pos xs i h];simp
theorem zgj {xs ys:Array Keyed}{i j:Nat}(h:xs[i]?=ys[j]?):G xs i=G ys j:=by unfold G;rw[h]
noncomputable def Asks (prog:Program) (w:World) (A:Around) (E:Ze->Zf->Prop) (s:Zf) (κ:SortKind) (a₀:Array Keyed) (lt:Keyed->Keyed->Bool):Prop :=
 ∀(x y:Keyed) (a:SortSt) (Q:Option Bool->SortSt->Prop),x∈a₀.toList->y∈a₀.toList->kindOf a=κ->Q (Za (lt x y)) a->wpS (model prog w) A E s (lt' x y) Q a
section
variable {prog:Program}{w:World}{A:Around}{E:Ze->Zf->Prop}{s:Zf}{κ:SortKind}{a₀:Array Keyed}{lt:Keyed->Keyed->Bool}{st:SortSt}
theorem zas {arr:Array Keyed}{i:Nat}{Q:Keyed->SortSt->Prop}(a:i<arr.size)(h:Q (G arr i) st):wpS (model prog w) A E s (elem' arr i) Q st:=by
 rw[elem'_eq,z1u a];exact Av h
theorem zig {i j:Nat}{Q:Option Bool->SortSt->Prop} (C:Asks prog w A E s κ a₀ lt) (a:kindOf st=κ) (p:(arrOf st).Perm a₀) (b:i<a₀.size) (c:j<a₀.size) (h:Q (Za (lt (G (arrOf st) i) (G (arrOf st) j))) st) :
  wpS (model prog w) A E s (ltAt' i j) Q st:=by
 have e:=p.size_eq;rw[ltAt'_eq];refine Ap (Iw ?_);exact Ap (zas #v[] (Ap (zas #v[] (C _ _ _ _ (z35 p #v[]) (z35 p #v[]) a h))))
theorem zry {left:Bool}{key:Keyed}{arr:Array Keyed}{base n hint:Nat}{B:Nat->Bool}{Q:Option Nat->SortSt->Prop} (C:Asks prog w A E s κ a₀ lt) (O:kindOf st=κ) (H:key∈a₀.toList)
  (V:base+n<=arr.size) (N:∀i,i<n->G arr (base+i)∈a₀.toList) (T:∀i,i<n->B i=if left then lt (G arr (base+i)) key else !lt key (G arr (base+i)))
  (mono:∀i j,i<=j->j<n->B j=Zd->B i=Zd) (U:hint<n)
  (h:∀k,k<=n->(∀i,i<k->B i=Zd)->(∀i,k<=i->i<n->B i=Zc)->Q (Za k) st):wpS (model prog w) A E s (gal left key arr base n hint) Q st:=by
 have t : ∀i j,i<=j->j<n->B i=Zc->B j=Zc:=λi j J F S=>by
  cases q:B j with
  |false=>rfl
  |true=>rw[mono i j J F q] at S;cases S
 let D:Nat->StateT SortSt Sem (Option Bool):=λi=>do
  let x <- elem' arr (base+i)
  if left=Zd then lt' x key else do
   let r <- lt' key x
   pure (r.map (!·))
 have K:∀(i:Nat) (R:Option Bool->SortSt->Prop),i<n->R (Za (B i)) st->wpS (model prog w) A E s (D i) R st:=λi R a P=>by
  refine Ap (zas #v[] ?_);have e:=T i a;cases left with
  | true =>
   rw[if_pos rfl] at e;rw[if_pos rfl];exact C _ _ _ _ (N i a) H O (by rw[<-e];exact P)
  | false =>
   rw[if_neg #v[0,9]] at e;rw[if_neg #v[0,9]];exact Ap (C _ _ _ _ H (N i a) O (Av (by show R (Za (!lt key (G arr (base+i)))) st;rw[<-e];exact P)))
 show wpS (model prog w) A E s (do let o <- D hint;_) Q st;refine Ap (K _ _ U ?_);cases q:B hint with
 | true =>
  refine Ap (Eb (Ci (I:=λx c f=>f=st/\∃l o,c=(Zb,l,o)/\l<o/\x<o/\hint+l<n/\B (hint+l)=Zd)
   (Q:=λc f=>f=st/\∃l o,c=(Zb,l,o)/\l<o/\hint+l<n/\B (hint+l)=Zd/\(n-hint<=o\/hint+o<n/\B (hint+o)=Zc)) ?step ?fin ⟨rfl,0,1,rfl,by omega,by omega,by omega,q⟩) ?post)
  case fin =>
   rintro c f ⟨rfl,l,o,rfl,z,u,y,m⟩;exact⟨rfl,l,o,rfl,z,y,m,.inl #v[]⟩
  case step =>
   rintro x c f _ L ⟨rfl,l,o,rfl,z,u,y,m⟩;dsimp only;by_cases g:o ≥ n-hint
   ·rw [if_pos g]
    exact Av ⟨rfl,l,o,rfl,z,y,m,.inl g⟩
   ·rw [if_neg g]
    refine Ap (K _ _ #v[] ?_);cases q2:B (hint+o) with
    | true =>
     dsimp only;rw[if_neg #v[0,9]];exact Av ⟨rfl,o,2*o+1,rfl,by omega,by omega,by omega,q2⟩
    | false =>
     dsimp only;rw[if_pos #v[0,9]];exact Av ⟨rfl,l,o,rfl,z,y,m,.inr ⟨by omega,q2⟩⟩
  case post =>
   rintro c f ⟨rfl,l,o,rfl,z,y,m,p⟩;dsimp only;refine Ap (Eb (Ci (I:=λx c d=>d=f/\∃b a,c=(Zb,b,a)/\b<=a/\a<=n/\a-b<=n-x/\(∀i,i<b->B i=Zd)/\∀i,a<=i->i<n->B i=Zc)
    (Q:=λc d=>d=f/\∃b a,c=(Zb,b,a)/\b=a/\a<=n/\(∀i,i<b->B i=Zd)/\∀i,a<=i->i<n->B i=Zc) ?s3 ?f3 ⟨rfl,hint+l+1,hint+min o (n-hint),rfl,by omega,by omega,by omega,λi a=>mono i _ #v[] y m,λi J F=>p.elim (λp=>by omega) λp=>t _ i #v[] F p.2⟩) ?p3)
   case f3 =>
    rintro c d ⟨rfl,b,a,rfl,z,u,y,m,p⟩;exact⟨rfl,b,a,rfl,by omega,u,m,p⟩
   case s3 =>
    rintro x c d _ L ⟨rfl,b,a,rfl,z,u,y,m,p⟩;dsimp only;by_cases g:b ≥ a
    ·rw [if_pos g]
     exact Av ⟨rfl,b,a,rfl,by omega,u,m,p⟩
    ·rw [if_neg g]
     refine Ap (K _ _ #v[] ?_);cases q:B (b+(a-b)/2) with
     | true =>
      dsimp only;rw[if_pos rfl];refine Av ⟨rfl,b+(a-b)/2+1,a,rfl,by omega,u,by omega,λi M=>?_,p⟩;exact mono i _ #v[] #v[] q
     | false =>
      dsimp only;rw[if_neg #v[0,9]];refine Av ⟨rfl,b,b+(a-b)/2,rfl,by omega,by omega,by omega,m,λi J F=>?_⟩;exact t _ i J F q
   case p3 =>
    rintro c d ⟨rfl,b,a,rfl,rfl,u,m,p⟩;exact Av (h b u m p)
 | false =>
  refine Ap (Eb (Ci (I:=λx c f=>f=st/\∃l o,c=(Zb,l,o)/\l<o/\x<o/\l<=hint/\B (hint-l)=Zc)
   (Q:=λc f=>f=st/\∃l o,c=(Zb,l,o)/\l<o/\l<=hint/\B (hint-l)=Zc/\(hint+1<=o\/o<=hint/\B (hint-o)=Zd)) ?step ?fin ⟨rfl,0,1,rfl,by omega,by omega,by omega,q⟩) ?post)
  case fin =>
   rintro c f ⟨rfl,l,o,rfl,z,u,y,m⟩;exact⟨rfl,l,o,rfl,z,y,m,.inl #v[]⟩
  case step =>
   rintro x c f _ L ⟨rfl,l,o,rfl,z,u,y,m⟩;dsimp only;by_cases g:o ≥ hint+1
   ·rw [if_pos g]
    exact Av ⟨rfl,l,o,rfl,z,y,m,.inl g⟩
   ·rw [if_neg g]
    refine Ap (K _ _ #v[] ?_);cases q2:B (hint-o) with
    | true =>
     dsimp only;rw[if_pos rfl];exact Av ⟨rfl,l,o,rfl,z,y,m,.inr ⟨by omega,q2⟩⟩
    | false =>
     dsimp only;rw[if_neg #v[0,9]];exact Av ⟨rfl,o,2*o+1,rfl,by omega,by omega,by omega,q2⟩
  case post =>
   rintro c f ⟨rfl,l,o,rfl,z,y,m,p⟩;dsimp only;refine Ap (Eb (Ci (I:=λx c d=>d=f/\∃b a,c=(Zb,b,a)/\b<=a/\a<=n/\a-b<=n-x/\(∀i,i<b->B i=Zd)/\∀i,a<=i->i<n->B i=Zc)
    (Q:=λc d=>d=f/\∃b a,c=(Zb,b,a)/\b=a/\a<=n/\(∀i,i<b->B i=Zd)/\∀i,a<=i->i<n->B i=Zc) ?s4 ?f4 ⟨rfl,hint+1-min o (hint+1),hint-l,rfl,by omega,by omega,by omega,λi a=>p.elim (λp=>by omega) λp=>mono i _ #v[] #v[] p.2,λi J F=>t _ i J F m⟩) ?p4)
   case f4 =>
    rintro c d ⟨rfl,b,a,rfl,z,u,y,m,p⟩;exact⟨rfl,b,a,rfl,by omega,u,m,p⟩
   case s4 =>
    rintro x c d _ L ⟨rfl,b,a,rfl,z,u,y,m,p⟩;dsimp only;by_cases g:b ≥ a
    ·rw [if_pos g]
     exact Av ⟨rfl,b,a,rfl,by omega,u,m,p⟩
    ·rw [if_neg g]
     refine Ap (K _ _ #v[] ?_);cases q:B (b+(a-b)/2) with
     | true =>
      dsimp only;rw[if_pos rfl];refine Av ⟨rfl,b+(a-b)/2+1,a,rfl,by omega,u,by omega,λi M=>?_,p⟩;exact mono i _ #v[] #v[] q
     | false =>
      dsimp only;rw[if_neg #v[0,9]];refine Av ⟨rfl,b,b+(a-b)/2,rfl,by omega,by omega,by omega,m,λi J F=>?_⟩;exact t _ i J F q
   case p4 =>
    rintro c d ⟨rfl,b,a,rfl,rfl,u,m,p⟩;exact Av (h b u m p)
end
end Tim
namespace Tim
noncomputable def Srt (le:Keyed->Keyed->Prop) (xs:Array Keyed) (lo h:Nat):Prop:=∀i j,lo<=i->i<j->j<h->le (G xs i) (G xs j)
noncomputable def Cut (bf:Keyed->Keyed->Prop) (xs:Array Keyed) (c:Nat):Prop:=∀i j,i<c->c<=j->j<xs.size->bf (G xs i) (G xs j)
structure Re (xs ys:Array Keyed) (lo hi:Nat):Prop where
 perm:ys.Perm xs
 out:∀i,i<lo\/hi<=i->G ys i=G xs i
 inn:∀i,lo<=i->i<hi->∃j,lo<=j/\j<hi/\G ys i=G xs j
theorem Re.refl (xs:Array Keyed)(lo h:Nat):Re xs xs lo h:=⟨.refl _,λ_ _=>rfl,λi a b=>⟨i,a,b,rfl⟩⟩
theorem Re.trans {xs ys z:Array Keyed}{lo c:Nat}(a:Re xs ys lo c)(b:Re ys z lo c):Re xs z lo c :=
 ⟨b.perm.trans a.perm,λi h=>(b.out i h).trans (a.out i h),λi l n=>by
  obtain⟨j,f,g,e⟩:=b.inn i l n;obtain⟨k,m,d,o⟩:=a.inn j f g;exact⟨k,m,d,e.trans o⟩⟩
theorem Re.mono {xs ys:Array Keyed}{lo d l b:Nat}(a:Re xs ys lo d)(m:l<=lo)(o:d<=b):Re xs ys l b :=
 ⟨a.perm,λi h=>a.out i #v[],λi f g=>by
  by_cases c:lo<=i/\i<d
  ·obtain⟨j,n,k,e⟩:=a.inn i c.1 c.2;exact⟨j,by omega,by omega,e⟩
  ·exact⟨i,f,g,a.out i #v[]⟩⟩
theorem Re.size {xs ys:Array Keyed}{lo h:Nat}(a:Re xs ys lo h):ys.size=xs.size:=a.perm.size_eq
theorem Cut.re {bf:Keyed->Keyed->Prop}{xs ys:Array Keyed}{lo f c:Nat}(h:Cut bf xs c)(a:Re xs ys lo f)(x:f<=xs.size)(u:c<=lo\/f<=c):Cut bf ys c:=λi j q t y=>by
 have e:=a.size;have p:∃d,d<c/\G ys i=G xs d:=by
  by_cases k:lo<=i/\i<f
  ·obtain⟨d, r,g,e⟩:=a.inn i k.1 k.2;exact⟨d,by omega,e⟩
  ·exact⟨i,q,a.out i #v[]⟩
 have w:∃b,c<=b/\b<xs.size/\G ys j=G xs b:=by
  by_cases k:lo<=j/\j<f
  ·obtain⟨b, r,g,e⟩:=a.inn j k.1 k.2;exact⟨b,by omega,by omega,e⟩
  ·exact⟨j,t,by omega,a.out j #v[]⟩
 obtain⟨d,s,m⟩:=p;obtain⟨b,o,l,n⟩:=w;rw[m,n];exact h d b s o l
theorem Srt.re {le:Keyed->Keyed->Prop}{xs ys:Array Keyed}{lo c a b:Nat}(h:Srt le xs a b)(r:Re xs ys lo c)(g:b<=lo\/c<=a):Srt le ys a b:=λi j e f d=>by
 rw[r.out i #v[],r.out j #v[]];exact h i j e f d
noncomputable def mir (xs:Array Keyed) (i j:Nat):Array Keyed:=mirror xs i j ((j-i)/2)
theorem zhz {xs:Array Keyed}{i j:Nat}(a:j<=xs.size)(k:Nat):G (mir xs i j) k=if i<=k/\k<j then G xs (i+j-1-k) else G xs k:=by
 have e:=getElem?_mirror_all (i:=i) a k;unfold mir;by_cases h:i<=k/\k<j
 ·rw[if_pos h] at e ⊢;exact zgj e
 ·rw[if_neg h] at e ⊢;exact zgj e
theorem Re.mir {xs:Array Keyed}{i j:Nat}(a:j<=xs.size):Re xs (mir xs i j) i j :=
 ⟨mirror_perm _ _ _ _,λk h=>by rw[zhz a,if_neg #v[]],λk b c=>⟨i+j-1-k,by omega,by omega,by rw[zhz a,if_pos ⟨b,c⟩]⟩⟩
theorem zyn {xs:Array Keyed}{src d:Nat}(b:src<xs.size)(c:d<=src)(k:Nat):G (bubble xs src d) k=if k=src-d then G xs src else if src-d<k/\k<=src then G xs (k-1) else G xs k:=by
 have e:=getElem?_bubble b d c k;by_cases h:k=src-d
 ·rw[if_pos h] at e ⊢;exact zgj e
 ·rw[if_neg h] at e ⊢;by_cases a:src-d<k/\k<=src
  ·rw[if_pos a] at e ⊢;exact zgj e
  ·rw[if_neg a] at e ⊢;exact zgj e
theorem Re.bub {xs:Array Keyed}{src d:Nat}(a:src<xs.size)(b:d<=src):Re xs (bubble xs src d) (src-d) (src+1) :=
 ⟨bubble_perm _ _ _,λk h=>by rw[zyn a b,if_neg #v[],if_neg #v[]],λk e f=>by
  rw[zyn a b];by_cases c:k=src-d
  ·exact⟨src,by omega,by omega,by rw[if_pos c]⟩
  ·exact⟨k-1,by omega,by omega,by rw[if_neg c,if_pos ⟨by omega,by omega⟩]⟩⟩
structure SI (κ:SortKind) (a₀:Array Keyed) (pd:Array (Nat×Nat×Nat)) (st:SortSt):Prop where
 kind:kindOf st=κ
 failed:failedOf st=Zb
 perm:(arrOf st).Perm a₀
 pend:pendingOf st=pd
theorem SI.size {κ a₀ p st}(h:SI κ a₀ p st):(arrOf st).size=a₀.size:=h.perm.size_eq
theorem SI.set {κ a₀ a st}(h:SI κ a₀ a st){ys:Array Keyed}(p:ys.Perm (arrOf st)):SI κ a₀ a (setArr st ys):=⟨h.kind,h.failed,p.trans h.perm,h.pend⟩
section
variable {prog:Program}{w:World}{A:Around}{E:Ze->Zf->Prop}{s:Zf}{κ:SortKind}{a₀:Array Keyed}{lt:Keyed->Keyed->Bool}{bf le:Keyed->Keyed->Prop}{st:SortSt}{pd:Array (Nat × Nat × Nat)}
theorem zza {i j:Nat}{Q:Unit->SortSt->Prop}(h:Q () (setArr st (mir (arrOf st) i j))):wpS (model prog w) A E s (reverseSlice' i j) Q st:=by
 rw[reverseSlice'_eq];exact wpS_modify h
theorem z72 {i j:Nat}{Q:Unit->SortSt->Prop}(h:Q () (setArr st (bubble (arrOf st) i (i-j)))):wpS (model prog w) A E s (moveDown' i j) Q st:=by
 rw[moveDown'_eq];exact wpS_modify h
theorem grp (O:Ord lt bf le) {xs ys:Array Keyed}{lo n c:Nat} (r:lo<=c) (s:c<lo+n) (e:∀k,G ys k=if c<=k/\k<lo+n then G xs (c+(lo+n)-1-k) else G xs k)
  (p:∀i j,lo<=i->i<j->j<c->le (G xs j) (G xs i)) (f:∀i j,lo<=i->i<c->c<=j->j<lo+n->lt (G xs j) (G xs i)=Zd)
  (m:∀i j,c<=i->i<j->j<lo+n->le (G xs i) (G xs j)) (o:∀i j,c<=i->i<lo+n->c<=j->j<lo+n->lt (G xs i) (G xs j)=Zc) :
  (∀i j,lo<=i->i<j->j<lo+n->le (G ys j) (G ys i))/\∀y,lt y (G xs (lo+n-1))=Zd->∀i,lo<=i->i<lo+n->lt y (G ys i)=Zd:=by
 constructor
 ·intro i j d g l;rw[e i,e j];by_cases a:j<c
  ·rw[if_neg #v[],if_neg #v[]];exact p i j d g a
  ·rw[if_pos ⟨by omega,l⟩];by_cases b:i<c
   ·rw[if_neg #v[]];exact O.f2 (f i _ d b #v[] #v[])
   ·rw[if_pos ⟨by omega,by omega⟩];exact m _ _ #v[] #v[] #v[]
 ·intro y h i d g;rw[e i];by_cases b:c<=i/\i<lo+n
  ·rw[if_pos b];exact (O.nt _ h).resolve_right (λq=>by rw[o _ _ #v[] #v[] #v[] #v[]] at q;cases q)
  ·rw[if_neg b];exact O.ltr h (f i _ d #v[] #v[] #v[])
structure DI (lt:Keyed->Keyed->Bool) (le:Keyed->Keyed->Prop) (lo n neq:Nat) (xs:Array Keyed):Prop where
 nq:neq+1<=n
 d1:∀i j,lo<=i->i<j->j<lo+n-(neq+1)->le (G xs j) (G xs i)
 d2:∀i j,lo<=i->i<lo+n-(neq+1)->lo+n-(neq+1)<=j->j<lo+n->lt (G xs j) (G xs i)=Zd
 d3:∀i j,lo+n-(neq+1)<=i->i<j->j<lo+n->le (G xs i) (G xs j)
 d4:∀i j,lo+n-(neq+1)<=i->i<lo+n->lo+n-(neq+1)<=j->j<lo+n->lt (G xs i) (G xs j)=Zc
theorem DI.turn (O:Ord lt bf le) {lo n neq:Nat}{xs:Array Keyed} (d:DI lt le lo n neq xs) (h:lo+n<=xs.size) :
  (∀i j,lo<=i->i<j->j<lo+n->le (G (mir xs (lo+n-(neq+1)) (lo+n)) j) (G (mir xs (lo+n-(neq+1)) (lo+n)) i))/\∀y,lt y (G xs (lo+n-1))=Zd->∀i,lo<=i->i<lo+n->lt y (G (mir xs (lo+n-(neq+1)) (lo+n)) i)=Zd :=
 grp O (by have:=d.nq;omega) (by have:=d.nq;omega) (λk=>zhz h k) d.d1 d.d2 d.d3 d.d4
theorem DI.turn0 (O:Ord lt bf le) {lo n:Nat}{xs:Array Keyed} (d:DI lt le lo n 0 xs) :
  (∀i j,lo<=i->i<j->j<lo+n->le (G xs j) (G xs i))/\∀y,lt y (G xs (lo+n-1))=Zd->∀i,lo<=i->i<lo+n->lt y (G xs i)=Zd :=
 grp (c:=lo+n-1) O (by have:=d.nq;omega) (by have:=d.nq;omega) (λk=>by
  split
  ·congr 1;omega
  ·rfl) d.d1 d.d2 d.d3 d.d4
theorem DI.next (O:Ord lt bf le){lo n:Nat}{xs:Array Keyed}(h:∀i j,lo<=i->i<j->j<lo+n->le (G xs j) (G xs i))(f:∀i,lo<=i->i<lo+n->lt (G xs (lo+n)) (G xs i)=Zd):DI lt le lo (n+1) 0 xs :=
 ⟨by omega,λi j a b c=>h i j a b #v[],λi j a b c d=>by
  have e:j=lo+n:=by omega
  rw[e];exact f i a #v[],λi j a b c=>by omega,λi j a b c d=>by
  have e:j=i:=by omega
  rw[e];exact O.irr _⟩
theorem DI.like (O:Ord lt bf le) {lo n neq:Nat}{xs:Array Keyed} (d:DI lt le lo n neq xs) (r:∀i,lo<=i->i<lo+n->bf (G xs i) (G xs (lo+n))) (o:lt (G xs (lo+n)) (G xs (lo+n-1))=Zc) (l:lt (G xs (lo+n-1)) (G xs (lo+n))=Zc):DI lt le lo (n+1) (neq+1) xs:=by
 have s:=d.nq;have p:lo+(n+1)-(neq+1+1)=lo+n-(neq+1):=by omega
 have t:∀i,lo+n-(neq+1)<=i->i<lo+n->lt (G xs (lo+n)) (G xs i)=Zc:=λi a b=>by
  cases q:lt (G xs (lo+n)) (G xs i) with
  |false=>rfl
  | true =>
   rcases O.nt (G xs (lo+n-1)) q with z|z
   ·rw[o] at z;cases z
   ·rw[d.d4 _ _ #v[] #v[] a b] at z;cases z
 have m:∀i,lo+n-(neq+1)<=i->i<lo+n->lt (G xs i) (G xs (lo+n))=Zc:=λi a b=>by
  cases q:lt (G xs i) (G xs (lo+n)) with
  |false=>rfl
  | true =>
   rcases O.nt (G xs (lo+n-1)) q with z|z
   ·rw[d.d4 _ _ a b #v[] #v[]] at z;cases z
   ·rw[l] at z;cases z
 refine⟨by omega,?_,?_,?_,?_⟩<;>rw[p]
 ·exact d.d1
 ·intro i j a b c e
  by_cases k:j<lo+n
  ·exact d.d2 i j a b c k
  ·have f:j=lo+n:=by omega
   rw[f];exact (O.nt (G xs (lo+n)) (d.d2 i (lo+n-1) a b #v[] #v[])).resolve_left (λz=>by rw[l] at z;cases z)
 ·intro i j a b c
  by_cases k:j<lo+n
  ·exact d.d3 i j a b k
  ·have f:j=lo+n:=by omega
   rw[f];exact (O.f1 (r i #v[] #v[])).mp (t i a #v[])
 ·intro i j a b c e
  by_cases k:j<lo+n
  ·by_cases g:i<lo+n
   ·exact d.d4 i j a g c k
   ·have h:i=lo+n:=by omega
    rw[h];exact t j c k
  ·have f:j=lo+n:=by omega
   rw[f];by_cases g:i<lo+n
   ·exact m i a g
   ·have h:i=lo+n:=by omega
    rw[h];exact O.irr _
theorem z86 {α:Type}{c:Prop} [Decidable c] {x y:StateT SortSt Sem α}{Q:α->SortSt->Prop}{T:SortSt->Prop}(h:∀a,T a->wpS (model prog w) A E s y Q a)(d:¬ c->T st)(b:c->(∀a,T a->wpS (model prog w) A E s y Q a)->wpS (model prog w) A E s x Q st):wpS (model prog w) A E s (if c then x else y) Q st:=by
 by_cases k:c
 ·rw[if_pos k];exact b k h
 ·rw[if_neg k];exact h st (d k)
theorem z44 (C:Asks prog w A E s κ a₀ lt) (O:Ord lt bf le) {lo a:Nat}{Q:Option Nat->SortSt->Prop} (I:SI κ a₀ pd st) (hsz:lo+a<=a₀.size) (u:1<=a) (X:∀c,lo<=c->Cut bf (arrOf st) c)
  (h:∀m t,SI κ a₀ pd t->1<=m->m<=a->Re (arrOf st) (arrOf t) lo (lo+m)->Srt le (arrOf t) lo (lo+m)->Q (Za m) t):wpS (model prog w) A E s (countRun' lo a) Q st:=by
 have sz:=I.size;rw [countRun'_eq];refine Ap (Eb (Ci (I:=λx c d=>d=st/\c=(Zb,x)/\1<=x/\x<=a/\Srt le (arrOf st) lo (lo+x))
  (Q:=λc d=>d=st/\∃k,c=(Zb,k)/\1<=k/\k<=a/\Srt le (arrOf st) lo (lo+k)/\(k=a\/lt (G (arrOf st) (lo+k)) (G (arrOf st) (lo+k-1))=Zd)) ?as1 ?af1 ⟨rfl,rfl,Ag _,u,(λi j L F g3=>by omega)⟩) ?ap1)
 case af1 =>
  rintro c d ⟨r,rfl,S,W,g⟩;rw[show max 1 a=a by omega] at *
  exact⟨r,a,rfl,by omega,Ag _,g,.inl rfl⟩
 case as1 =>
  rintro x c d N b2 ⟨r,rfl,S,W,g⟩;subst r;dsimp only;refine Ap (zig C I.kind I.perm #v[] #v[] ?_);cases q:lt (G (arrOf d) (lo+x)) (G (arrOf d) (lo+x-1)) with
  | true =>
   dsimp only;rw[if_pos rfl];exact Av ⟨rfl,x,rfl,S,W,g,.inr q⟩
  | false =>
   dsimp only;rw[if_neg #v[0,9]];refine Av ⟨rfl,rfl,by omega,by omega,λi j u h2 h3=>?_⟩;by_cases hj:j<lo+x
   ·exact g i j u h2 hj
   ·have ej:j=lo+x:=by omega
    subst ej;have b:le (G (arrOf d) (lo+x-1)) (G (arrOf d) (lo+x)):=(O.f1 (X (lo+x) #v[] (lo+x-1) (lo+x) #v[] (Ag _) (by rw[I.size];omega))).mp q;by_cases hi:i=lo+x-1
    ·rw[hi];exact b
    ·exact O.tr (g i (lo+x-1) u #v[] #v[]) b
 case ap1 =>
  rintro c d ⟨r,n,rfl,S,W,g,a3⟩;subst r;dsimp only;by_cases en:n=a
  ·rw [if_pos (by simpa using en)]
   exact Av (h n d I S W (.refl _ _ _) g)
  ·rw [if_neg (by simpa using en)]
   have q3:=a3.resolve_left en;refine z86 (T:=λp=>SI κ a₀ pd p/\Re (arrOf d) (arrOf p) lo (lo+(n+1))/\DI lt le lo (n+1) 0 (arrOf p)) (λp ⟨I3,R3,D3⟩=>?main) (λn1=>?no) (λn1 H=>?yes)
   case yes =>
    refine Ap (zig C I.kind I.perm #v[] #v[] ?_);cases q:lt (G (arrOf d) lo) (G (arrOf d) (lo+n-1)) with
    | true =>
     dsimp only;rw[if_pos rfl];exact Av (h n d I S W (.refl _ _ _) g)
    | false =>
     dsimp only;rw [if_neg (by decide)];refine Ap (zza ?_);have lk:∀i,lo<=i->i<lo+n->lt (G (arrOf d) (lo+n)) (G (arrOf d) i)=Zd:=λi L F=>by
      have z1:lt (G (arrOf d) i) (G (arrOf d) (lo+n-1))=Zc:=by
       cases z:lt (G (arrOf d) i) (G (arrOf d) (lo+n-1)) with
       |false=>rfl
       | true =>
        rcases O.nt (G (arrOf d) lo) z with y|y
        ·by_cases ei:i=lo
         ·rw[ei,O.irr] at y;cases y
         ·have:=O.f3 (X i L lo i (by omega) (Ag _) (by omega)) y
          exact absurd (g lo i (Ag _) #v[] F) this
        ·rw[q] at y;cases y
      exact (O.nt _ q3).resolve_right (λy=>by rw[z1] at y;cases y)
     obtain ⟨p,e3,I3,R3,D3⟩ : ∃p,p=(setArr d (mir (arrOf d) lo (lo+n)))/\SI κ a₀ pd p/\Re (arrOf d) (arrOf p) lo (lo+(n+1))/\DI lt le lo (n+1) 0 (arrOf p):=⟨_,rfl,I.set (Re.mir (by omega)).perm,(Re.mir (by omega)).mono (Ag _) (by omega),DI.next O (λi j L F g3=>by
           show le (G (mir (arrOf d) lo (lo+n)) j) (G (mir (arrOf d) lo (lo+n)) i);rw[zhz #v[],zhz #v[],if_pos ⟨by omega,by omega⟩,if_pos ⟨by omega,by omega⟩];exact g _ _ #v[] #v[] #v[]) (λi L F=>by
           show lt (G (mir (arrOf d) lo (lo+n)) (lo+n)) (G (mir (arrOf d) lo (lo+n)) i)=Zd;rw[zhz #v[],zhz #v[],if_neg #v[],if_pos ⟨by omega,by omega⟩];exact lk _ #v[] #v[])⟩
     rw[<-e3];exact H p ⟨I3,R3,D3⟩
   case no =>
    have en1:n=1:=by omega
    subst en1;exact ⟨I,.refl _ _ _,DI.next O (λi j L F g3=>by omega) (λi L F=>by
     have ei:i=lo:=by omega
     rw[ei];exact q3)⟩
   case main =>
    refine Ap (wpS_lift (Cs ⟨rfl,?_⟩));refine Ap (Eb (Ci (I:=λx c f=>∃neq,c=(Zb,x,neq)/\n+1<=x/\x<=a/\SI κ a₀ pd f/\Re (arrOf d) (arrOf f) lo (lo+x)/\DI lt le lo x neq (arrOf f))
     (Q:=λc f=>∃m neq,c=(Zb,m,neq)/\n+1<=m/\m<=a/\SI κ a₀ pd f/\Re (arrOf d) (arrOf f) lo (lo+m)/\DI lt le lo m neq (arrOf f)) ?dsd1 ?dfd1 ⟨0,rfl,Ag _,by omega,I3,R3,D3⟩) ?dpd1)
    case dfd1 =>
     rintro c f ⟨neq,rfl,V,N,b2,b3,b4⟩;have e:max (n+1) a=a:=by omega
     rw[e] at V N b3 b4 ⊢;exact⟨a,neq,rfl,V,N,b2,b3,b4⟩
    case dsd1 =>
     rintro x c f L F ⟨neq,rfl,V,N,o,R,D⟩;dsimp only;have z4:=o.size;have U:∀c,lo+x<=c->Cut bf (arrOf f) c:=λc M=>(X c #v[]).re R #v[] (.inr M);refine Ap (zig C o.kind o.perm #v[] #v[] ?_);cases q5:lt (G (arrOf f) (lo+x)) (G (arrOf f) (lo+x-1)) with
     | true =>
      dsimp only;rw[if_pos rfl];by_cases Z:neq > 0
      ·rw [if_pos Z]
       refine Ap (zza (Av ⟨0,rfl,by omega,by omega,o.set (Re.mir #v[]).perm,(R.trans ((Re.mir #v[]).mono (by have:=D.nq;omega) (Ag _))).mono (Ag _) #v[],?_⟩));obtain⟨K,t2⟩:=D.turn O #v[];refine DI.next O K λi k1 P=>?_;have:=t2 _ q5 i k1 P;show lt (G (mir (arrOf f) (lo+x-(neq+1)) (lo+x)) (lo+x)) _=Zd;rw[zhz #v[],if_neg #v[]];exact this
      ·rw [if_neg Z]
       have e0:neq=0:=by omega
       subst e0;obtain⟨K,t2⟩:=D.turn0 O;exact Av ⟨0,rfl,by omega,by omega,o,R.mono (Ag _) #v[],DI.next O K λi k1 P=>t2 _ q5 i k1 P⟩
     | false =>
      dsimp only;rw[if_neg #v[0,9]];refine Ap (zig C o.kind o.perm #v[] #v[] ?_);cases q6:lt (G (arrOf f) (lo+x-1)) (G (arrOf f) (lo+x)) with
      | true =>
       dsimp only;rw[if_pos rfl];exact Av ⟨x,neq,rfl,V,N,o,R,D⟩
      | false =>
       dsimp only;rw[if_neg #v[0,9]];exact Av ⟨neq+1,rfl,by omega,by omega,o,R.mono (Ag _) #v[],D.like O (λi k1 P=>U (lo+x) (Ag _) i (lo+x) P (Ag _) #v[]) q5 q6⟩
    case dpd1 =>
     rintro c f ⟨n,neq,rfl,V,n2,o,R,D⟩;dsimp only;have z4:=o.size;refine z86 (T:=λl=>SI κ a₀ pd l/\Re (arrOf d) (arrOf l) lo (lo+n)/\∀i j,lo<=i->i<j->j<lo+n->le (G (arrOf l) j) (G (arrOf l) i)) (λl ⟨I6,R6,K⟩=>?tl) (λZ=>?tn) (λZ H=>?ty)
     case ty =>
      refine Ap (zza ?_);have I6:SI κ a₀ pd (setArr f (mir (arrOf f) (lo+n-(neq+1)) (lo+n))):=o.set (Re.mir #v[]).perm;have R6:Re (arrOf d) (mir (arrOf f) (lo+n-(neq+1)) (lo+n)) lo (lo+n):=R.trans ((Re.mir #v[]).mono (by have:=D.nq;omega) (Ag _));have K:=(D.turn O #v[]).1;exact H _ ⟨I6,R6,K⟩
     case tn =>
      have e0:neq=0:=by omega
      subst e0;exact⟨o,R,(D.turn0 O).1⟩
     case tl =>
      have z6:=I6.size;refine Ap (zza ?_);have J:SI κ a₀ pd (setArr l (mir (arrOf l) lo (lo+n))):=I6.set (Re.mir (by omega)).perm;have R5:Re (arrOf d) (mir (arrOf l) lo (lo+n)) lo (lo+n):=R6.trans (Re.mir (by omega));have z5:Srt le (mir (arrOf l) lo (lo+n)) lo (lo+n):=λi j u h2 h3=>by
       rw[zhz #v[],zhz #v[],if_pos ⟨by omega,by omega⟩,if_pos ⟨by omega,by omega⟩];exact K _ _ #v[] #v[] #v[]
      have ea:mir (arrOf l) lo (lo+n)=arrOf (setArr l (mir (arrOf l) lo (lo+n))):=rfl
      revert J R5 z5
      rw [ea];generalize (setArr l (mir (arrOf l) lo (lo+n)))=B;intro J R5 z5;have hz5:=J.size;have hc5:∀c,lo+n<=c->Cut bf (arrOf B) c:=λc M=>(X c (by omega)).re R5 (by omega) (.inr M);refine Ap (Eb (Ci (I:=λx c d=>d=B/\c=(Zb,x)/\n<=x/\x<=a/\Srt le (arrOf B) lo (lo+x))
       (Q:=λc d=>d=B/\∃k,c=(Zb,k)/\n<=k/\k<=a/\Srt le (arrOf B) lo (lo+k)/\(k=a\/lt (G (arrOf B) (lo+k)) (G (arrOf B) (lo+k-1))=Zd)) ?asd11 ?afd11 ⟨rfl,rfl,Ag _,n2,z5⟩) ?apd11)
      case afd11 =>
       rintro c d ⟨r,rfl,y0,Y,g⟩;rw[show max n a=a by omega] at *
       exact⟨r,a,rfl,by omega,Ag _,g,.inl rfl⟩
      case asd11 =>
       rintro x c d N b2 ⟨r,rfl,y0,Y,g⟩;subst r;dsimp only;refine Ap (zig C J.kind J.perm #v[] #v[] ?_);cases q:lt (G (arrOf d) (lo+x)) (G (arrOf d) (lo+x-1)) with
       | true =>
        dsimp only;rw[if_pos rfl];exact Av ⟨rfl,x,rfl,y0,Y,g,.inr q⟩
       | false =>
        dsimp only;rw[if_neg #v[0,9]];refine Av ⟨rfl,rfl,by omega,by omega,λi j u h2 h3=>?_⟩;by_cases hj:j<lo+x
        ·exact g i j u h2 hj
        ·have ej:j=lo+x:=by omega
         subst ej;have b:le (G (arrOf d) (lo+x-1)) (G (arrOf d) (lo+x)):=(O.f1 (hc5 (lo+x) #v[] (lo+x-1) (lo+x) #v[] (Ag _) (by rw[J.size];omega))).mp q;by_cases hi:i=lo+x-1
         ·rw[hi];exact b
         ·exact O.tr (g i (lo+x-1) u #v[] #v[]) b
      case apd11 =>
       rintro c s7 ⟨e7,m,rfl,y0,Y,y2,y3⟩;subst e7;exact Av (h m s7 J #v[] Y (R5.mono (Ag _) #v[]) y2)
end
end Tim
namespace Tim
section
variable {prog:Program}{w:World}{A:Around}{E:Ze->Zf->Prop}{s:Zf}{κ:SortKind}{a₀:Array Keyed}{lt:Keyed->Keyed->Bool}{bf le:Keyed->Keyed->Prop}{st:SortSt}{pd:Array (Nat × Nat × Nat)}
theorem yar (C:Asks prog w A E s κ a₀ lt) (O:Ord lt bf le) {lo n ok:Nat}{Q:Bool->SortSt->Prop} (I:SI κ a₀ pd st) (hsz:lo+n<=a₀.size) (D:ok<=n) (K:1<=ok) (T:Srt le (arrOf st) lo (lo+ok)) (B:∀c,lo+ok<=c->Cut bf (arrOf st) c)
  (h:∀f,SI κ a₀ pd f->Re (arrOf st) (arrOf f) lo (lo+n)->Srt le (arrOf f) lo (lo+n)->Q Zd f):wpS (model prog w) A E s (binarySort' lo n ok) Q st:=by
 have sz:=I.size;rw[binarySort'_eq];have N:max ok 1=ok:=by omega
 rw [N];refine Ap (Eb (Ci (I:=λk c a=>c=(Zb,())/\ok<=k/\k<=n/\SI κ a₀ pd a/\Re (arrOf st) (arrOf a) lo (lo+k)/\Srt le (arrOf a) lo (lo+k))
  (Q:=λc a=>c=(Zb,())/\SI κ a₀ pd a/\Re (arrOf st) (arrOf a) lo (lo+n)/\Srt le (arrOf a) lo (lo+n)) ?step ?fin ⟨rfl,Ag _,D,I,.refl _ _ _,T⟩) ?post)
 case post =>
  rintro c a ⟨rfl,m,R2,S⟩;exact Av (h a m R2 S)
 case fin =>
  rintro c a ⟨B,R,M,m,R2,S⟩;have e:max ok n=n:=by omega
  rw[e] at R2 S;exact⟨B,m,R2,S⟩
 case step =>
  rintro k c a g1 g2 ⟨rfl,R,M,m,R2,S⟩;have z2:=m.size;have P:Cut bf (arrOf a) (lo+k):=(B (lo+k) (by omega)).re R2 (by omega) (.inr (Ag _));refine Ap (Eb (Ci (I:=λx c d=>d=a/\∃l r,c=(Zb,l,r)/\l<=r/\r<=k/\r-l<=k-x/\(∀i,i<l->le (G (arrOf a) (lo+i)) (G (arrOf a) (lo+k)))/\∀i,r<=i->i<k->le (G (arrOf a) (lo+k)) (G (arrOf a) (lo+i)))
   (Q:=λc d=>d=a/\∃l,c=(Zb,l,l)/\l<=k/\(∀i,i<l->le (G (arrOf a) (lo+i)) (G (arrOf a) (lo+k)))/\∀i,l<=i->i<k->le (G (arrOf a) (lo+k)) (G (arrOf a) (lo+i))) ?istep ?ifin ⟨rfl,0,k,rfl,by omega,by omega,by omega,λi hi=>by omega,λi u z=>by omega⟩) ?ipost)
  case ifin =>
   rintro c d ⟨t,l,r,rfl,X,y,V,p,o⟩;have e:r=l:=by omega
   subst e;exact⟨t,r,rfl,y,p,o⟩
  case istep =>
   rintro x c d _ hx ⟨t,l,r,rfl,X,y,V,p,o⟩;subst t;dsimp only;by_cases g:l ≥ r
   ·rw [if_pos g]
    have e:r=l:=by omega
    subst e;exact Av ⟨rfl,r,rfl,y,p,o⟩
   ·rw [if_neg g]
    refine Ap (zig C m.kind m.perm #v[] #v[] ?_);have b:=P (lo+(l+r)/2) (lo+k) #v[] (Ag _) #v[];cases q:lt (G (arrOf d) (lo+k)) (G (arrOf d) (lo+(l+r)/2)) with
    | true =>
     dsimp only;rw[if_pos rfl];refine Av ⟨rfl,l,(l+r)/2,rfl,by omega,by omega,by omega,p,λi u z=>?_⟩;by_cases e:i=(l+r)/2
     ·rw[e];exact O.f2 q
     ·exact O.tr (O.f2 q) (S _ _ #v[] #v[] #v[])
    | false =>
     dsimp only;rw[if_neg #v[0,9]];refine Av ⟨rfl,(l+r)/2+1,r,rfl,by omega,by omega,by omega,λi u=>?_,o⟩;by_cases e:i=(l+r)/2
     ·rw[e];exact (O.f1 b).mp q
     ·exact O.tr (S _ _ #v[] #v[] #v[]) ((O.f1 b).mp q)
  case ipost =>
   rintro c d ⟨t,l,rfl,y,p,o⟩;subst t;refine Ap (z72 (Av ⟨rfl,by omega,by omega,m.set (bubble_perm _ _ _),?_,?_⟩))
   ·refine (R2.mono (Ag _) #v[]).trans ((Re.bub #v[] #v[]).mono #v[] #v[])
   ·intro i j K h2 h3
    show le (G (bubble (arrOf d) (lo+k) (lo+k-(lo+l))) i) (G (bubble (arrOf d) (lo+k) (lo+k-(lo+l))) j);have Y:lo+k-(lo+k-(lo+l))=lo+l:=by omega
    rw [zyn (by omega) (by omega),zyn (by omega) (by omega),Y];have U:∀i,lo<=i->i<lo+l->le (G (arrOf d) i) (G (arrOf d) (lo+k)):=λi u z=>by
     have:=p (i-lo) #v[];rw[show lo+(i-lo)=i by omega] at this;exact this
    have Z:∀i,lo+l<=i->i<lo+k->le (G (arrOf d) (lo+k)) (G (arrOf d) i):=λi u z=>by
     have:=o (i-lo) #v[] #v[];rw[show lo+(i-lo)=i by omega] at this;exact this
    by_cases J:i=lo+l
    ·rw [if_pos J,if_neg (by omega),if_pos ⟨by omega,by omega⟩]
     exact Z _ #v[] #v[]
    ·rw [if_neg J]
     by_cases H:j=lo+l
     ·rw [if_neg (by omega),if_pos H]
      exact U _ K #v[]
     ·rw [if_neg H]
      by_cases F:lo+l<i/\i<=lo+k
      ·rw [if_pos F,if_pos ⟨by omega,by omega⟩]
       exact S _ _ #v[] #v[] #v[]
      ·rw [if_neg F]
       by_cases L:lo+l<j/\j<=lo+k
       ·rw [if_pos L]
        by_cases W:i=j-1
        ·rw[W];exact O.rf _
        ·exact S _ _ #v[] #v[] #v[]
       ·rw [if_neg L]
        exact S _ _ #v[] #v[] #v[]
end
end Tim
namespace Tim
theorem G_list {a:Array Keyed}{i:Nat}(h:i<a.size):a.toList[i]?=Za (G a i):=by rw[Cd];exact z1u h
theorem take_G {a:Array Keyed}{i:Nat}(h:i<a.size):a.toList.take (i+1)=a.toList.take i++[G a i]:=by rw[List.take_add_one,G_list h];rfl
theorem zv4 {a:Array Keyed}{i:Nat}(h:i<a.size):a.toList.drop i=G a i::a.toList.drop (i+1):=by
 have b:i<a.toList.length:=by simpa using h
 rw[Cy b];have e:=G_list h;rw[Af b] at e;rw[sI e]
theorem mem_drop {a:Array Keyed}{n:Nat}{x:Keyed}(h:x∈a.toList.drop n):∃i,n<=i/\i<a.size/\x=G a i:=by
 obtain⟨i,d,e⟩:=Ch.mp h;have b:n+i<a.toList.length:=by rw[Ev] at d;omega
 have c:n+i<a.size:=by simpa using b
 refine⟨n+i,by omega,c,?_⟩;rw[List.getElem_drop] at e;have g:=G_list c;rw[Af b] at g;rw[<-e];exact sI g
theorem mem_take {a:Array Keyed}{n:Nat}{x:Keyed}(h:x∈a.toList.take n):∃i,i<n/\i<a.size/\x=G a i:=by
 obtain⟨i,d,e⟩:=Ch.mp h;rw[Cm] at d;have b:i<a.toList.length:=by omega
 have c:i<a.size:=by simpa using b
 refine⟨i,by omega,c,?_⟩;rw[List.getElem_take] at e;have g:=G_list c;rw[Af b] at g;rw[<-e];exact sI g
theorem srt_list {le:Keyed->Keyed->Prop}{a:Array Keyed}(h:Srt le a 0 a.size):a.toList.Pairwise le:=by
 rw[Ih];intro i j k e c;have d:i<a.size:=by simpa using k
 have b:j<a.size:=by simpa using e
 have g:=G_list d;have f:=G_list b;rw[Af k] at g;rw[Af e] at f;rw[sI g,sI f];exact h i j (Bi _) c b
theorem zcl (a:Array Keyed)(i j:Nat):(a.extract i j).toList=(a.toList.drop i).take (j-i):=by rw[Array.toList_extract]
theorem zkc (a:Array Keyed)(i:Nat):(a.extract i a.size).toList=a.toList.drop i:=by
 rw[zcl,Ex];rw[Ev];simp
structure Fin (le:Keyed->Keyed->Prop) (a b:Array Keyed) (r:List Keyed):Prop where
 p:r.Perm (a.toList++b.toList)
 s:r.Pairwise le
structure MI (le:Keyed->Keyed->Prop) (a b:Array Keyed) (o:List Keyed) (ia ib:Nat):Prop where
 p:o.Perm (a.toList.take ia++b.toList.take ib)
 s:o.Pairwise le
 oa:∀x∈o,∀i,ia<=i->i<a.size->le x (G a i)
 ob:∀x∈o,∀j,ib<=j->j<b.size->le x (G b j)
structure MH (le:Keyed->Keyed->Prop) (a b:Array Keyed) (o:List Keyed) (na nb:Nat):Prop where
 p:o.Perm (a.toList.drop na++b.toList.drop nb)
 s:o.Pairwise le
 oa:∀x∈o,∀i,i<na->le (G a i) x
 ob:∀x∈o,∀j,j<nb->le (G b j) x
section
variable {lt:Keyed->Keyed->Bool}{bf le:Keyed->Keyed->Prop} (O:Ord lt bf le) {a b:Array Keyed}{o:List Keyed}{ia ib na nb:Nat} (Sa:Srt le a 0 a.size) (Sb:Srt le b 0 b.size)
theorem z0c {x:Keyed}{o p q:List Keyed}(h:o.Perm (p++q)):(o++[x]).Perm ((p++[x])++q):=by
 refine (h.append_right [x]).trans ?_;rw[Bb,Bb];exact List.perm_append_comm.append_left p
theorem MI.pushA (Sa:Srt le a 0 a.size)(m:MI le a b o ia ib)(e:ia<a.size)(f:∀j,ib<=j->j<b.size->le (G a ia) (G b j)):MI le a b (o++[G a ia]) (ia+1) ib:=by
 refine⟨by rw[take_G e];exact z0c m.p,?_,λx h i d c=>?_,λx h j d c=>?_⟩
 ·rw[Bu];refine⟨m.s,Gv _ _,λx h y g=>?_⟩;rw[Ao.mp g];exact m.oa x h ia (Ag _) e
 ·rcases Bg.mp h with z|z
  ·exact m.oa x z i #v[] c
  ·rw[Ao.mp z];exact Sa _ _ (Bi _) #v[] c
 ·rcases Bg.mp h with z|z
  ·exact m.ob x z j d c
  ·rw[Ao.mp z];exact f j d c
theorem MI.pushB (Sb:Srt le b 0 b.size)(m:MI le a b o ia ib)(e:ib<b.size)(f:∀i,ia<=i->i<a.size->le (G b ib) (G a i)):MI le a b (o++[G b ib]) ia (ib+1):=by
 refine⟨?_,?_,λx h i d c=>?_,λx h j d c=>?_⟩
 ·rw[take_G e];have:=m.p.append_right [G b ib];rw[Bb] at this;exact this
 ·rw[Bu];refine⟨m.s,Gv _ _,λx h y g=>?_⟩;rw[Ao.mp g];exact m.ob x h ib (Ag _) e
 ·rcases Bg.mp h with z|z
  ·exact m.oa x z i d c
  ·rw[Ao.mp z];exact f i d c
 ·rcases Bg.mp h with z|z
  ·exact m.ob x z j #v[] c
  ·rw[Ao.mp z];exact Sb _ _ (Bi _) #v[] c
theorem zqe {a:Array Keyed}{i k:Nat}(h:i+k<a.size):(a.toList.drop i).take (k+1)=(a.toList.drop i).take k++[G a (i+k)]:=by
 rw[List.take_add_one,List.getElem?_drop,G_list h];rfl
theorem MI.appA (Sa:Srt le a 0 a.size) (m:MI le a b o ia ib):∀k,ia+k<=a.size->(∀i,ia<=i->i<ia+k->∀j,ib<=j->j<b.size->le (G a i) (G b j))->MI le a b (o++(a.toList.drop ia).take k) (ia+k) ib
 |0,_,_=>by rw[Et,Bv];exact m
 | k+1,d,h=>by
  have:=(m.appA Sa k #v[] λi g c=>h i g #v[]).pushA Sa #v[] (h (ia+k) #v[] #v[]);rw[zqe #v[],<-Bb];exact this
theorem MI.appB (Sb:Srt le b 0 b.size) (m:MI le a b o ia ib):∀k,ib+k<=b.size->(∀j,ib<=j->j<ib+k->∀i,ia<=i->i<a.size->le (G b j) (G a i))->MI le a b (o++(b.toList.drop ib).take k) ia (ib+k)
 |0,_,_=>by rw[Et,Bv];exact m
 | k+1,d,h=>by
  have:=(m.appB Sb k #v[] λi g c=>h i g #v[]).pushB Sb #v[] (h (ib+k) #v[] #v[]);rw[zqe #v[],<-Bb];exact this
theorem zq3 (b:Array Keyed):b.toList.take b.size=b.toList:=Ex (by simp)
theorem MI.finB (Sa:Srt le a 0 a.size)(m:MI le a b o ia b.size):Fin le a b (o++a.toList.drop ia):=by
 refine⟨?_,?_⟩
 ·have h:=m.p;rw[zq3] at h;refine (h.append_right _).trans ?_;rw[Bb];refine (List.perm_append_comm.append_left _).trans ?_;rw[<-Bb,Br]
 ·rw[Bu];refine⟨m.s,(srt_list Sa).sublist (Ff _ _),λx d y f=>?_⟩;obtain⟨i,c,e,rfl⟩:=mem_drop f;exact m.oa x d i c e
theorem MI.finA (Sb:Srt le b 0 b.size)(m:MI le a b o a.size ib):Fin le a b (o++b.toList.drop ib):=by
 refine⟨?_,?_⟩
 ·have h:=m.p;rw[zq3] at h;refine (h.append_right _).trans ?_;rw[Bb,Br]
 ·rw[Bu];refine⟨m.s,(srt_list Sb).sublist (Ff _ _),λx d y f=>?_⟩;obtain⟨i,c,e,rfl⟩:=mem_drop f;exact m.ob x d i c e
theorem MI.finL (Sa:Srt le a 0 a.size)(Sb:Srt le b 0 b.size)(m:MI le a b o ia ib)(e:ia+1=a.size)(H:∀j,j<b.size->le (G b j) (G a (a.size-1))):Fin le a b (o++b.toList.drop ib++a.toList.drop ia):=by
 refine⟨?_,?_⟩
 ·refine ((m.p.append_right _).append_right _).trans ?_;rw[Bb,Bb,<-Bb (b.toList.take ib),Br];refine (List.perm_append_comm.append_left _).trans ?_;rw[<-Bb,Br]
 ·rw[Bu,Bu];refine⟨⟨m.s,(srt_list Sb).sublist (Ff _ _),λx c y f=>?_⟩,(srt_list Sa).sublist (Ff _ _),λx c y f=>?_⟩
  ·obtain⟨i,h,d,rfl⟩:=mem_drop f;exact m.ob x c i h d
  ·obtain⟨i,h,d,rfl⟩:=mem_drop f;rcases Bg.mp c with z|z
   ·exact m.oa x z i h d
   ·obtain⟨j,k,g,rfl⟩:=mem_drop z;have:i=a.size-1:=by omega
    rw[this];exact H j g
theorem MH.pushA (Sa:Srt le a 0 a.size)(m:MH le a b o (na+1) nb)(h:na<a.size)(e:∀j,j<nb->le (G b j) (G a na)):MH le a b (G a na::o) na nb:=by
 refine⟨?_,Df.mpr ⟨λx c=>m.oa x c na #v[],m.s⟩,λx c i d=>?_,λx c j d=>?_⟩
 ·rw[zv4 h];exact m.p.cons _
 ·rcases Ar.mp c with z|z
  ·rw[z];exact Sa _ _ (Bi _) d h
  ·exact m.oa x z i #v[]
 ·rcases Ar.mp c with z|z
  ·rw[z];exact e j d
  ·exact m.ob x z j d
theorem MH.pushB (Sb:Srt le b 0 b.size)(m:MH le a b o na (nb+1))(h:nb<b.size)(e:∀i,i<na->le (G a i) (G b nb)):MH le a b (G b nb::o) na nb:=by
 refine⟨?_,Df.mpr ⟨λx c=>m.ob x c nb #v[],m.s⟩,λx c i d=>?_,λx c j d=>?_⟩
 ·rw[zv4 h];exact (m.p.cons _).trans List.perm_middle.symm
 ·rcases Ar.mp c with z|z
  ·rw[z];exact e i d
  ·exact m.oa x z i d
 ·rcases Ar.mp c with z|z
  ·rw[z];exact Sb _ _ (Bi _) d h
  ·exact m.ob x z j #v[]
theorem zpm {a:Array Keyed}{i k:Nat}(h:i<a.size):(a.toList.drop i).take (k+1)=G a i::(a.toList.drop (i+1)).take k:=by
 rw[zv4 h,List.take_succ_cons]
theorem MH.appA (Sa:Srt le a 0 a.size):∀(k at_:Nat),MH le a b o (at_+k) nb->at_+k<=a.size->(∀i,at_<=i->i<at_+k->∀j,j<nb->le (G b j) (G a i))->MH le a b ((a.toList.drop at_).take k++o) at_ nb
 |0,at_,m,_,_=>by rw[Et];exact m
 | k+1,at_,m,d,h=>by
  have:=(MH.appA Sa k (at_+1) (by rw[show at_+1+k=at_+(k+1) by omega];exact m) #v[] λi c g=>h i #v[] #v[]).pushA Sa #v[] (h at_ (Ag _) #v[]);rw[zpm #v[]];exact this
theorem MH.appB (Sb:Srt le b 0 b.size):∀(k at_:Nat),MH le a b o na (at_+k)->at_+k<=b.size->(∀j,at_<=j->j<at_+k->∀i,i<na->le (G a i) (G b j))->MH le a b ((b.toList.drop at_).take k++o) na at_
 |0,at_,m,_,_=>by rw[Et];exact m
 | k+1,at_,m,d,h=>by
  have:=(MH.appB Sb k (at_+1) (by rw[show at_+1+k=at_+(k+1) by omega];exact m) #v[] λi c g=>h i #v[] #v[]).pushB Sb #v[] (h at_ (Ag _) #v[]);rw[zpm #v[]];exact this
theorem MH.finA (Sb:Srt le b 0 b.size)(m:MH le a b o 0 nb):Fin le a b (b.toList.take nb++o):=by
 refine⟨?_,?_⟩
 ·refine (m.p.append_left _).trans ?_;rw[Fs];refine List.perm_append_comm_assoc _ _ _ |>.trans ?_;rw[Br]
 ·rw[Bu];refine⟨(srt_list Sb).sublist (Dr _ _),m.s,λx c y d=>?_⟩;obtain⟨i,h,e,rfl⟩:=mem_take c;exact m.ob y d i h
theorem MH.finB (Sa:Srt le a 0 a.size)(m:MH le a b o na 0):Fin le a b (a.toList.take na++o):=by
 refine⟨?_,?_⟩
 ·refine (m.p.append_left _).trans ?_;rw[Fs,<-Bb,Br]
 ·rw[Bu];refine⟨(srt_list Sa).sublist (Dr _ _),m.s,λx c y d=>?_⟩;obtain⟨i,h,e,rfl⟩:=mem_take c;exact m.oa y d i h
theorem MH.finF (Sa:Srt le a 0 a.size)(Sb:Srt le b 0 b.size)(m:MH le a b o na 1)(H:∀i,i<a.size->le (G b 0) (G a i)):Fin le a b (b.toList.take 1++a.toList.take na++o):=by
 refine⟨?_,?_⟩
 ·refine (m.p.append_left _).trans ?_;rw[Bb,<-Bb (a.toList.take na),Br];refine List.perm_append_comm_assoc _ _ _ |>.trans ?_;rw[Br]
 ·rw[Bu,Bu];refine⟨⟨(srt_list Sb).sublist (Dr _ _),(srt_list Sa).sublist (Dr _ _),λx d y c=>?_⟩,m.s,λx d y c=>?_⟩
  ·obtain⟨i,h,e,rfl⟩:=mem_take d;obtain⟨j,f,g,rfl⟩:=mem_take c;have:i=0:=by omega
   rw[this];exact H j g
  ·rcases Bg.mp d with z|z
   ·obtain⟨i,h,e,rfl⟩:=mem_take z;exact m.ob y c i h
   ·obtain⟨i,h,e,rfl⟩:=mem_take z;exact m.oa y c i h
end
end Tim
namespace Tim
noncomputable def setG:Nat->StateT SortSt Sem Unit:=sortPriv% PySem.Builtin.setMinGallop
section
variable {prog:Program}{w:World}{A:Around}{E:Ze->Zf->Prop}{s:Zf}{κ:SortKind}{a₀:Array Keyed}{lt:Keyed->Keyed->Bool}{bf le:Keyed->Keyed->Prop}{st:SortSt}{pd:Array (Nat × Nat × Nat)}
structure SG (κ:SortKind) (a₀:Array Keyed) (pd:Array (Nat×Nat×Nat)) (xs:Array Keyed) (st:SortSt):Prop where
 i:SI κ a₀ pd st
 e:arrOf st=xs
theorem zqc {xs:Array Keyed}{g:Nat}{Q:Unit->SortSt->Prop}(S:SG κ a₀ pd xs st)(h:∀a,SG κ a₀ pd xs a->Q () a):wpS (model prog w) A E s (setG g) Q st :=
 wpS_modify (h _ ⟨⟨S.i.kind,S.i.failed,S.i.perm,S.i.pend⟩,S.e⟩)
theorem q_lt {x y:Keyed}{Q:Option Bool->SortSt->Prop}(C:Asks prog w A E s κ a₀ lt){xs:Array Keyed}(S:SG κ a₀ pd xs st)(b:x∈a₀.toList)(a:y∈a₀.toList)(h:Q (Za (lt x y)) st):wpS (model prog w) A E s (lt' x y) Q st:=C _ _ _ _ b a S.i.kind h
theorem zlz {out a b:Array Keyed}{ia ib:Nat}:(out++a.extract ia a.size++b.extract ib b.size).toList=out.toList++a.toList.drop ia++b.toList.drop ib:=by
 rw[Bo,Bo,zkc,zkc]
theorem zpq {le:Keyed->Keyed->Prop}{out a b:Array Keyed}{ia ib:Nat}(e:ib=b.size)(h:Fin le a b (out.toList++a.toList.drop ia)):Fin le a b (out++a.extract ia a.size++b.extract ib b.size).toList:=by
 subst e;rw[zlz,List.drop_of_length_le (l:=b.toList) (by simp),Bv];exact h
theorem z8z {le:Keyed->Keyed->Prop}{out a b:Array Keyed}{ia ib:Nat}(e:ia=a.size)(h:Fin le a b (out.toList++b.toList.drop ib)):Fin le a b (out++a.extract ia a.size++b.extract ib b.size).toList:=by
 subst e;rw[zlz,List.drop_of_length_le (l:=a.toList) (by simp),Bv];exact h
theorem zqp {le:Keyed->Keyed->Prop}{out a b:Array Keyed}{ia ib:Nat}(h:Fin le a b (out.toList++b.toList.drop ib++a.toList.drop ia)):Fin le a b (out++b.extract ib b.size++a.extract ia a.size).toList:=by
 rw[Bo,Bo,zkc,zkc];exact h
theorem q_if {α:Type}{c:Prop} [Decidable c] {x y:StateT SortSt Sem α}{Q:α->SortSt->Prop}(a:c->wpS (model prog w) A E s x Q st)(b:¬ c->wpS (model prog w) A E s y Q st):wpS (model prog w) A E s (if c then x else y) Q st:=by
 by_cases h:c
 ·rw[if_pos h];exact a h
 ·rw[if_neg h];exact b h
theorem zum {α:Type}{x:StateT SortSt Sem α}{Q:α->SortSt->Prop}(h:∀a,(∀r t,Q r t->a r t)->wpS (model prog w) A E s x a st):wpS (model prog w) A E s x Q st:=h Q λ_ _ z=>z
theorem q_eq {α β:Type}{c:β->Prop} [∀m,Decidable (c m)] {x:β->StateT SortSt Sem α}{Q:α->SortSt->Prop}{g:β->β}{f:β->StateT SortSt Sem α}(e:∀m,x m=f (g m))(h:∀u,wpS (model prog w) A E s (f u) Q st):∀m,wpS (model prog w) A E s (if c m then x m else f m) Q st:=λm=>by
 rw[e];exact q_if (λ_=>h _) λ_=>h _
theorem zzf {α β a:Type}{c:Prop} [Decidable c] {x:β->a->StateT SortSt Sem α}{Q:α->SortSt->Prop}{v:β}{u:a}{f:β->a->StateT SortSt Sem α} (P:β->a->Prop) (g:¬ c->P v u) (e:c->(∀v u,P v u->wpS (model prog w) A E s (f v u) Q st)->wpS (model prog w) A E s (x v u) Q st)
  (h:∀v u,P v u->wpS (model prog w) A E s (f v u) Q st):∀d,v=d->∀b,u=b->wpS (model prog w) A E s (if c then x d b else f d b) Q st:=by
 rintro _ rfl _ rfl;exact q_if (λk=>e k h) λk=>h _ _ (g k)
theorem MI.finA' {le:Keyed->Keyed->Prop}{a b:Array Keyed}{o:List Keyed}{ia ib:Nat}(S:Srt le b 0 b.size)(m:MI le a b o ia ib)(e:ia=a.size):Fin le a b (o++b.toList.drop ib):=by subst e;exact m.finA S
theorem MI.finB' {le:Keyed->Keyed->Prop}{a b:Array Keyed}{o:List Keyed}{ia ib:Nat}(S:Srt le a 0 a.size)(m:MI le a b o ia ib)(e:ib=b.size):Fin le a b (o++a.toList.drop ia):=by subst e;exact m.finB S
structure MP (lt:Keyed->Keyed->Bool) (bf le:Keyed->Keyed->Prop) (a₀ a b:Array Keyed):Prop where
 sa:Srt le a 0 a.size
 sb:Srt le b 0 b.size
 ma:∀i,i<a.size->G a i∈a₀.toList
 mb:∀i,i<b.size->G b i∈a₀.toList
 bf:∀i j,i<a.size->j<b.size->bf (G a i) (G b j)
 a1:1<=a.size
 b1:1<=b.size
 h0:∀i,i<a.size->le (G b 0) (G a i)
 ha:∀j,j<b.size->le (G b j) (G a (a.size-1))
theorem yap (C:Asks prog w A E s κ a₀ lt) (O:Ord lt bf le) {a b xs:Array Keyed}{Q:Array Keyed->SortSt->Prop} (S:SG κ a₀ pd xs st) (P:MP lt bf le a₀ a b)
  (h:∀r st',SG κ a₀ pd xs st'->Fin le a b r.toList->Q r st'):wpS (model prog w) A E s (mLo a b) Q st:=by
 have leA:∀i j,i<=j->j<a.size->le (G a i) (G a j):=λi j h1 h2=>by
  by_cases e:i=j
  ·rw[e];exact O.rf _
  ·exact P.sa i j (Bi _) #v[] h2
 have leB:∀i j,i<=j->j<b.size->le (G b i) (G b j):=λi j h1 h2=>by
  by_cases e:i=j
  ·rw[e];exact O.rf _
  ·exact P.sb i j (Bi _) #v[] h2
 have pa:=P.a1;have pb:=P.b1;show wpS (model prog w) A E s (liftM (rule _)>>=_) Q st;refine Ap (wpS_lift (Cs ⟨rfl,?_⟩));refine Ap (zas pb ?_);have m0:MI le a b (#[G b 0]:Array Keyed).toList 0 1:=by
  have:=MI.pushB (o:=[]) (ia:=0) (ib:=0) P.sb ⟨by simp,.nil,λx hx=>by simp at hx,λx hx=>by simp at hx⟩ #v[] (λi _ h2=>P.h0 i h2);simpa using this
 dsimp only;by_cases V:1=b.size
 ·rw [if_pos (by simpa using V)]
  refine Av (h _ _ S (zpq V (m0.finB' P.sa V)))
 rw[if_neg (by simpa using V)];by_cases W:0+1=a.size
 ·rw [if_pos (by simpa using W)]
  exact Av (h _ _ S (zqp (m0.finL P.sa P.sb W P.ha)))
 rw [if_neg (by simpa using W)];refine Ap (Iw ?_);refine Ap (Eb (Ci (I:=λx c s2=>∃(out:Array Keyed) (m d u:Nat),c=(Zb,out,m,d,u)/\SG κ a₀ pd xs s2/\MI le a b out.toList m d/\m+1<a.size/\d<b.size/\x<=m+d)
  (Q:=λc s2=>∃(r out:Array Keyed) (m d u:Nat),c=(Za r,out,m,d,u)/\SG κ a₀ pd xs s2/\Fin le a b r.toList) ?os ?of ⟨_,0,1,_,rfl,S,m0,by omega,by omega,by omega⟩) ?op)
 case of =>
  rintro c s2 Z;refine aG λG t=>?_;obtain⟨out,m,d,u,D,b1,b2,b3,b4,b5⟩:=Z;refine t ?_;clear t;clear G;subst D;exfalso;omega
 case op =>
  rintro c s2 Z;refine aG λG t=>?_;obtain⟨r,out,m,d,u,D,b1,b2⟩:=Z;refine t ?_;clear t;clear G;subst D;exact Av (h _ _ b1 b2)
 case os =>
  rintro x c s2 _ hx Z;refine aG λG t=>?_;obtain ⟨out,m,d,u,D,S2,m2,b3,b4,b5⟩:=Z;refine t ?_;clear t;clear G;subst D;dsimp only;refine Ap (Eb (Ci (I:=λy c s3=>s3=s2/\∃(out:Array Keyed) (m d J F:Nat),c=(Zb,out,m,d,J,F)/\MI le a b out.toList m d/\m+1<a.size/\d<b.size/\x<=m+d)
   (Q:=λc s3=>s3=s2/\((∃(r out:Array Keyed) (m d J F:Nat),c=(Za r,out,m,d,J,F)/\Fin le a b r.toList)\/∃(out:Array Keyed) (m d J F:Nat),c=(Zb,out,m,d,J,F)/\MI le a b out.toList m d/\m+1<a.size/\d<b.size/\x<=m+d)) ?is1 ?if1 ⟨rfl,out,m,d,0,0,rfl,m2,b3,b4,b5⟩) ?ip1)
  case if1 =>
   rintro c s3 ⟨N,z⟩;exact⟨N,.inr z⟩
  case is1 =>
   rintro y c s3 _ hy Z;refine aG λG t=>?_;obtain⟨N,out,m,d,J,F,D,m3,c3,c4,c5⟩:=Z;refine t ?_;clear t;clear G;subst D;subst N;dsimp only;refine Ap (zas c4 (Ap (zas #v[] (Ap (q_lt C S2 (P.mb _ c4) (P.ma _ #v[]) ?_)))));have bb:=P.bf m d #v[] c4;cases q:lt (G b d) (G a m) with
   | true =>
    dsimp only;rw [if_pos rfl];refine Ap (zas c4 ?_);have L:MI le a b (out.push (G b d)).toList m (d+1):=by
     rw[Cr];exact m3.pushB P.sb c4 λi M T=>O.tr (O.f2 q) (leA _ _ M T)
    by_cases e:d+1=b.size
    ·rw [if_pos (by simpa using e)]
     refine Av ⟨rfl,.inl ⟨_,_,_,_,_,_,rfl,zpq e ?_⟩⟩;rw[e] at L;exact L.finB P.sa
    ·rw [if_neg (by simpa using e)]
     split
     ·exact Av ⟨rfl,.inr ⟨_,_,_,_,_,rfl,L,c3,by omega,by omega⟩⟩
     ·exact Av ⟨rfl,_,_,_,_,_,rfl,L,c3,by omega,by omega⟩
   | false =>
    dsimp only;rw [if_neg (by decide)];refine Ap (zas (by omega) ?_);have L:MI le a b (out.push (G a m)).toList (m+1) d:=by
     rw[Cr];exact m3.pushA P.sa #v[] λj M T=>O.tr ((O.f1 bb).mp q) (leB _ _ M T)
    by_cases e:m+1+1=a.size
    ·rw [if_pos (by simpa using e)]
     exact Av ⟨rfl,.inl ⟨_,_,_,_,_,_,rfl,zqp (L.finL P.sa P.sb e P.ha)⟩⟩
    ·rw [if_neg (by simpa using e)]
     split
     ·exact Av ⟨rfl,.inr ⟨_,_,_,_,_,rfl,L,by omega,c4,by omega⟩⟩
     ·exact Av ⟨rfl,_,_,_,_,_,rfl,L,by omega,c4,by omega⟩
  case ip1 =>
   rintro c s3 ⟨N,z⟩;subst N;refine aG λG t=>?_;rcases z with⟨r,out,m,d,J,F,D,f⟩|⟨out,m,d,J,F,D,m3,c3,c4,c5⟩
   ·refine t ?_
    clear t;clear G;subst D;exact Av ⟨_,_,_,_,_,rfl,S2,f⟩
   ·refine t ?_
    clear t;clear G;subst D;dsimp only;refine Ap (wpS_lift (Cs ⟨rfl,?_⟩));refine Ap (Eb (Ci (I:=λy c s4=>∃(out:Array Keyed) (m d u J F:Nat),c=(Zb,out,m,d,u,J,F)/\SG κ a₀ pd xs s4/\MI le a b out.toList m d/\m+1<a.size/\d<b.size/\x+y<=m+d)
     (Q:=λc s4=>SG κ a₀ pd xs s4/\((∃(r out:Array Keyed) (m d u J F:Nat),c=(Za r,out,m,d,u,J,F)/\Fin le a b r.toList)\/∃(out:Array Keyed) (m d u J F:Nat),c=(Zb,out,m,d,u,J,F)/\MI le a b out.toList m d/\m+1<a.size/\d<b.size/\x+1<=m+d)) ?gs ?gf ⟨out,m,d,_,J,F,rfl,S2,m3,c3,c4,by omega⟩) ?gp)
    case gf =>
     rintro c s4 Z;refine aG λG t=>?_;obtain⟨out,m,d,u,J,F,D,S4,L,d3,Y,d5⟩:=Z;refine t ?_;clear t;clear G;subst D;exact⟨S4,.inr ⟨_,_,_,_,_,_,rfl,L,d3,Y,by omega⟩⟩
    case gp =>
     rintro c s4 ⟨S4,z⟩;refine aG λG t=>?_;rcases z with⟨r,out,m,d,u,J,F,D,f⟩|⟨out,m,d,u,J,F,D,L,d3,Y,d5⟩
     ·refine t ?_
      clear t;clear G;subst D;exact Av ⟨_,_,_,_,_,rfl,S4,f⟩
     ·refine t ?_
      clear t;clear G;subst D;dsimp only;exact Ap (zqc S4 λs5 U=>Av ⟨_,_,_,_,rfl,U,L,d3,Y,d5⟩)
    case gs =>
     rintro y c s4 _ hy Z;refine aG λG t=>?_;obtain⟨out,m,d,u,J,F,D,S4,L,d3,Y,d5⟩:=Z;refine t ?_;clear t;clear G;subst D;simp (config:={ maxSteps:=10000000,failIfUnchanged:=Zc }) only [];refine zum λQ' hQ=>?_;generalize u=u
     revert u
     refine q_eq (g:=λu=>u-1) (λ_=>rfl) λu=>?_;dsimp (config:={ failIfUnchanged:=Zc }) only;refine Ap (zqc S4 λs5 U=>Ap (zas Y (Ap (zry (left:=Zc) (key:=G b d) (arr:=a) (base:=m) (n:=a.size-m) (hint:=0) (B:=λi=>!lt (G b d) (G a (m+i))) C U.i.kind (P.mb _ Y) #v[] (λi hi=>P.ma _ #v[]) (λi hi=>rfl) (λi j h1 h2 h3=>?mono1) #v[] λk k1 k2 k3=>?_))))
     case mono1 =>
      have h3':lt (G b d) (G a (m+j))=Zc:=by simpa using h3
      have l1:=(O.f1 (P.bf (m+j) d #v[] Y)).mp h3';have l2:=(O.f1 (P.bf (m+i) d #v[] Y)).mpr (O.tr (leA _ _ #v[] #v[]) l1);show (!lt (G b d) (G a (m+i)))=Zd;rw[l2];rfl
     have w1:∀i,m<=i->i<m+k->le (G a i) (G b d):=λi M T=>by
      have:=k2 (i-m) #v[];rw[Hs M] at this;exact (O.f1 (P.bf i d #v[] Y)).mp (by simpa using this)
     have w2:∀i,m+k<=i->i<a.size->le (G b d) (G a i):=λi M T=>by
      have:=k3 (i-m) #v[] #v[];rw[Hs (Cf (Dy _ _) M)] at this;exact O.f2 (by simpa using this)
     have m5:MI le a b (out++a.extract m (m+k)).toList (m+k) d:=by
      rw[Bo,zcl,Nat.add_sub_cancel_left];exact L.appA P.sa k #v[] λi M T j g3 g4=>O.tr (w1 i M T) (leB _ _ g3 g4)
     dsimp (config:={ failIfUnchanged:=Zc }) only;generalize eou:out=out'
     revert out'
     generalize ena:m=na'
     revert na'
     refine zzf (λp K=>MI le a b K.toList p d/\(∀i,p<=i->i<a.size->le (G b d) (G a i))/\p+1<a.size/\x+y<=p+d) (λhk0=>?_) (λhc H=>?_) λp K ⟨n5,u1,b6,p6⟩=>?_
     ·have k0:k=0:=by omega
      subst k0;exact⟨L,w2,d3,d5⟩
     ·refine q_if (λV => ?_) λV => ?_
      ·have V:m+k+1=a.size:=by simpa using V
       exact Av (hQ _ _ ⟨U,.inl ⟨_,_,_,_,_,_,_,rfl,zqp (m5.finL P.sa P.sb V P.ha)⟩⟩)
      have V:¬ m+k+1=a.size:=by simpa using V
      refine q_if (λW=>?_) λW=>?_
      ·have W:m+k=a.size:=by simpa using W
       exact Av (hQ _ _ ⟨U,.inl ⟨_,_,_,_,_,_,_,rfl,z8z W (m5.finA' P.sb W)⟩⟩)
      have W:¬ m+k=a.size:=by simpa using W
      exact H _ _ ⟨m5,w2,by omega,by omega⟩
     clear m5 L w2 w1 k3 k2 k1;dsimp (config:={ failIfUnchanged:=Zc }) only;refine Ap (zas Y ?_);have m6:MI le a b (K.push (G b d)).toList p (d+1):=by
      rw[Cr];exact n5.pushB P.sb Y u1
     refine q_if (λN=>?_) λN=>?_
     ·have N:d+1=b.size:=by simpa using N
      exact Av (hQ _ _ ⟨U,.inl ⟨_,_,_,_,_,_,_,rfl,zpq N (m6.finB' P.sa N)⟩⟩)
     have N:¬ d+1=b.size:=by simpa using N
     refine Ap (zas #v[] (Ap (zry (left:=Zd) (key:=G a p) (arr:=b) (base:=d+1) (n:=b.size-(d+1)) (hint:=0) (B:=λj=>lt (G b (d+1+j)) (G a p)) C U.i.kind (P.ma _ #v[]) #v[] (λj hj=>P.mb _ #v[]) (λj hj=>rfl) (λi j h1 h2 h3=>?mono2) #v[] λl l1 l2 l3=>?_)))
     case mono2 =>
      have n1:=O.f3 (P.bf p (d+1+j) #v[] #v[]) h3;cases q:lt (G b (d+1+i)) (G a p) with
      |true=>rfl
      |false=>exact absurd (O.tr ((O.f1 (P.bf p (d+1+i) #v[] #v[])).mp q) (leB _ _ #v[] #v[])) n1
     have v1:∀j,d+1<=j->j<d+1+l->le (G b j) (G a p):=λj M T=>by
      have:=l2 (j-(d+1)) #v[];rw[Hs M] at this;exact O.f2 this
     have v2:∀j,d+1+l<=j->j<b.size->le (G a p) (G b j):=λj M T=>by
      have:=l3 (j-(d+1)) #v[] #v[];rw[Hs (Cf (Dy _ _) M)] at this;exact (O.f1 (P.bf p j #v[] T)).mp this
     have m7:MI le a b (K.push (G b d)++b.extract (d+1) (d+1+l)).toList p (d+1+l):=by
      rw[Bo,zcl,Nat.add_sub_cancel_left];exact m6.appB P.sb l #v[] λj M T i g3 g4=>O.tr (v1 j M T) (leA _ _ g3 g4)
     dsimp (config:={ failIfUnchanged:=Zc }) only;generalize hnb:d+1=ib1 at m7 m6 v2 N ⊢;generalize hout:K.push (G b d)=X at m7 m6 ⊢;generalize eou:X=out'
     revert out'
     generalize ena:ib1=na'
     revert na'
     refine zzf (λR X=>MI le a b X.toList p R/\(∀j,R<=j->j<b.size->le (G a p) (G b j))/\R<b.size/\x+y+1<=p+R) (λhl0=>?_) (λhc H=>?_) λR out3 ⟨n7,u2,b7,p7⟩=>?_
     ·have k0:l=0:=by omega
      subst k0;exact⟨m6,v2,by omega,by omega⟩
     ·refine q_if (λe4 => ?_) λe4 => ?_
      ·have e4:ib1+l=b.size:=by simpa using e4
       exact Av (hQ _ _ ⟨U,.inl ⟨_,_,_,_,_,_,_,rfl,zpq e4 (m7.finB' P.sa e4)⟩⟩)
      have e4:¬ ib1+l=b.size:=by simpa using e4
      exact H _ _ ⟨m7,v2,by omega,by omega⟩
     dsimp (config:={ failIfUnchanged:=Zc }) only;refine Ap (zas (by omega) ?_);have m8:MI le a b (out3.push (G a p)).toList (p+1) R:=by
      rw[Cr];exact n7.pushA P.sa #v[] u2
     refine q_if (λe5=>?_) λe5=>?_
     ·have e5:p+1+1=a.size:=by simpa using e5
      exact Av (hQ _ _ ⟨U,.inl ⟨_,_,_,_,_,_,_,rfl,zqp (m8.finL P.sa P.sb e5 P.ha)⟩⟩)
     have e5:¬ p+1+1=a.size:=by simpa using e5
     refine q_if (λ_=>?_) λ_=>?_
     ·exact Av (hQ _ _ ⟨U,.inr ⟨_,_,_,_,_,_,rfl,m8,by omega,b7,by omega⟩⟩)
     ·exact Av (hQ _ _ ⟨_,_,_,_,_,_,rfl,U,m8,by omega,b7,by omega⟩)
end
end Tim
namespace Tim
section
variable {prog:Program}{w:World}{A:Around}{E:Ze->Zf->Prop}{s:Zf}{κ:SortKind}{a₀:Array Keyed}{lt:Keyed->Keyed->Bool}{bf le:Keyed->Keyed->Prop}{st:SortSt}{pd:Array (Nat × Nat × Nat)}
variable {a b out:Array Keyed}{o:List Keyed}{na nb at_:Nat}
theorem MH.pushA' (S:Srt le a 0 a.size)(m:MH le a b out.toList.reverse na nb)(d:1<=na)(h:na<=a.size)(c:∀j,j<nb->le (G b j) (G a (na-1))):MH le a b (out.push (G a (na-1))).toList.reverse (na-1) nb:=by
 obtain⟨n,rfl⟩ : ∃n,na=n+1:=⟨na-1,by omega⟩;rw[Cr,List.reverse_append];exact m.pushA S #v[] c
theorem MH.pushB' (S:Srt le b 0 b.size)(m:MH le a b out.toList.reverse na nb)(d:1<=nb)(h:nb<=b.size)(c:∀i,i<na->le (G a i) (G b (nb-1))):MH le a b (out.push (G b (nb-1))).toList.reverse na (nb-1):=by
 obtain⟨n,rfl⟩ : ∃n,nb=n+1:=⟨nb-1,by omega⟩;rw[Cr,List.reverse_append];exact m.pushB S #v[] c
theorem zsg (x:Array Keyed)(i j:Nat):(out++(x.extract i j).reverse).toList.reverse=(x.toList.drop i).take (j-i)++out.toList.reverse:=by
 rw[Bo,List.reverse_append,Hj,List.reverse_reverse,zcl]
theorem MH.appA' (S:Srt le a 0 a.size)(m:MH le a b out.toList.reverse na nb)(d:at_<=na)(h:na<=a.size)(c:∀i,at_<=i->i<na->∀j,j<nb->le (G b j) (G a i)):MH le a b (out++(a.extract at_ na).reverse).toList.reverse at_ nb:=by
 rw[zsg];obtain⟨k,rfl⟩ : ∃k,na=at_+k:=⟨na-at_,by omega⟩;rw[show at_+k-at_=k by omega];exact MH.appA S k at_ m h c
theorem MH.appB' (S:Srt le b 0 b.size)(m:MH le a b out.toList.reverse na nb)(d:at_<=nb)(h:nb<=b.size)(c:∀j,at_<=j->j<nb->∀i,i<na->le (G a i) (G b j)):MH le a b (out++(b.extract at_ nb).reverse).toList.reverse na at_:=by
 rw[zsg];obtain⟨k,rfl⟩ : ∃k,nb=at_+k:=⟨nb-at_,by omega⟩;rw[show at_+k-at_=k by omega];exact MH.appB S k at_ m h c
theorem zdi (x:Array Keyed)(n:Nat):(x.extract 0 n).toList=x.toList.take n:=by rw[zcl,Fs,Nat.sub_zero]
theorem MH.done0 (S:Srt le b 0 b.size)(m:MH le a b out.toList.reverse na nb)(e:na=0):Fin le a b (a.extract 0 na++b.extract 0 nb++out.reverse).toList:=by
 subst e;rw[Bo,Bo,zdi,zdi,Et,Hn,Hj];exact m.finA S
theorem MH.done1 (S:Srt le a 0 a.size)(m:MH le a b out.toList.reverse na nb)(e:nb=0):Fin le a b (a.extract 0 na++b.extract 0 nb++out.reverse).toList:=by
 subst e;rw[Bo,Bo,zdi,zdi,Et,Bv,Hj];exact m.finB S
theorem MH.first (S:Srt le a 0 a.size)(c:Srt le b 0 b.size)(m:MH le a b out.toList.reverse na nb)(e:nb=1)(H:∀i,i<a.size->le (G b 0) (G a i)):Fin le a b (b.extract 0 nb++a.extract 0 na++out.reverse).toList:=by
 subst e;rw[Bo,Bo,zdi,zdi,Hj];exact m.finF S c H
theorem z9u (C:Asks prog w A E s κ a₀ lt) (O:Ord lt bf le) {a b xs:Array Keyed}{Q:Array Keyed->SortSt->Prop} (S:SG κ a₀ pd xs st) (P:MP lt bf le a₀ a b)
  (h:∀r st',SG κ a₀ pd xs st'->Fin le a b r.toList->Q r st'):wpS (model prog w) A E s (mHi a b) Q st:=by
 have W:∀i j,i<=j->j<a.size->le (G a i) (G a j):=λi j h1 h2=>by
  by_cases e:i=j
  ·rw[e];exact O.rf _
  ·exact P.sa i j (Bi _) #v[] h2
 have V:∀i j,i<=j->j<b.size->le (G b i) (G b j):=λi j h1 h2=>by
  by_cases e:i=j
  ·rw[e];exact O.rf _
  ·exact P.sb i j (Bi _) #v[] h2
 have pa:=P.a1;have pb:=P.b1;show wpS (model prog w) A E s (liftM (rule _)>>=_) Q st;refine Ap (wpS_lift (Cs ⟨rfl,?_⟩));refine Ap (zas (show a.size-1<a.size by omega) ?_);have m0:MH le a b (#[G a (a.size-1)]:Array Keyed).toList.reverse (a.size-1) b.size:=by
  have:=MH.pushA' (out:=#[]) (na:=a.size) (nb:=b.size) (a:=a) (b:=b) P.sa ⟨by simp,.nil,λx hx=>by simp at hx,λx hx=>by simp at hx⟩ pa (Ag _) P.ha;simpa using this
 dsimp only;by_cases R:a.size-1=0
 ·rw [if_pos (by simpa using R)]
  exact Av (h _ _ S (m0.done0 P.sb R))
 rw[if_neg (by simpa using R)];by_cases e2:b.size=1
 ·rw [if_pos (by simpa using e2)]
  exact Av (h _ _ S (m0.first P.sa P.sb e2 P.h0))
 rw [if_neg (by simpa using e2)];refine Ap (Iw ?_);refine Ap (Eb (Ci (I:=λx c U=>∃(out:Array Keyed) (na nb o:Nat),c=(Zb,na,nb,out,o)/\SG κ a₀ pd xs U/\MH le a b out.toList.reverse na nb/\1<=na/\2<=nb/\na<=a.size/\nb<=b.size/\x+na+nb<=a.size+b.size)
  (Q:=λc U=>∃(r out:Array Keyed) (na nb o:Nat),c=(Za r,na,nb,out,o)/\SG κ a₀ pd xs U/\Fin le a b r.toList) ?os ?of ⟨_,a.size-1,b.size,_,rfl,S,m0,by omega,by omega,by omega,by omega,by omega⟩) ?op)
 case of =>
  rintro c U N;refine aG λG m=>?_;obtain⟨out,na,nb,o,p,b1,b2,b3,b4,b5,b6,b7⟩:=N;refine m ?_;clear m;clear G;subst p;exfalso;omega
 case op =>
  rintro c U N;refine aG λG m=>?_;obtain⟨r,out,na,nb,o,p,b1,b2⟩:=N;refine m ?_;clear m;clear G;subst p;exact Av (h _ _ b1 b2)
 case os =>
  rintro x c U _ hx N;refine aG λG m=>?_;obtain ⟨out,na,nb,o,p,S2,m2,b3,b4,b5,b6,b7⟩:=N;refine m ?_;clear m;clear G;subst p;dsimp only;refine Ap (Eb (Ci (I:=λy c Y=>Y=U/\∃(out:Array Keyed) (na nb u t:Nat),c=(Zb,na,nb,out,u,t)/\MH le a b out.toList.reverse na nb/\1<=na/\2<=nb/\na<=a.size/\nb<=b.size/\x+na+nb<=a.size+b.size)
   (Q:=λc Y=>Y=U/\((∃(r out:Array Keyed) (na nb u t:Nat),c=(Za r,na,nb,out,u,t)/\Fin le a b r.toList)\/∃(out:Array Keyed) (na nb u t:Nat),c=(Zb,na,nb,out,u,t)/\MH le a b out.toList.reverse na nb/\1<=na/\2<=nb/\na<=a.size/\nb<=b.size/\x+na+nb<=a.size+b.size)) ?is1 ?if1 ⟨rfl,out,na,nb,0,0,rfl,m2,b3,b4,b5,b6,b7⟩) ?ip1)
  case if1 =>
   rintro c Y ⟨J,z⟩;exact⟨J,.inr z⟩
  case is1 =>
   rintro y c Y _ hy N;refine aG λG m=>?_;obtain⟨J,out,na,nb,u,t,p,m3,c3,c4,c5,c6,c7⟩:=N;refine m ?_;clear m;clear G;subst p;subst J;dsimp only;refine Ap (zas #v[] (Ap (zas #v[] (Ap (q_lt C S2 (P.mb _ #v[]) (P.ma _ #v[]) ?_)))));have bb:=P.bf (na-1) (nb-1) #v[] #v[];cases q:lt (G b (nb-1)) (G a (na-1)) with
   | true =>
    dsimp only;rw[if_pos rfl];refine Ap (zas #v[] ?_);have D:=m3.pushA' P.sa c3 c5 λj g=>O.tr (V j (nb-1) #v[] #v[]) (O.f2 q);by_cases e:na-1=0
    ·rw [if_pos (by simpa using e)]
     exact Av ⟨rfl,.inl ⟨_,_,_,_,_,_,rfl,D.done0 P.sb e⟩⟩
    ·rw [if_neg (by simpa using e)]
     split
     ·exact Av ⟨rfl,.inr ⟨_,_,_,_,_,rfl,D,by omega,by omega,by omega,by omega,by omega⟩⟩
     ·exact Av ⟨rfl,_,_,_,_,_,rfl,D,by omega,by omega,by omega,by omega,by omega⟩
   | false =>
    dsimp only;rw[if_neg #v[0,9]];refine Ap (zas #v[] ?_);have D:=m3.pushB' P.sb #v[] c6 λi g=>O.tr (W i (na-1) #v[] #v[]) ((O.f1 bb).mp q);by_cases e:nb-1=1
    ·rw [if_pos (by simpa using e)]
     exact Av ⟨rfl,.inl ⟨_,_,_,_,_,_,rfl,D.first P.sa P.sb e P.h0⟩⟩
    ·rw [if_neg (by simpa using e)]
     split
     ·exact Av ⟨rfl,.inr ⟨_,_,_,_,_,rfl,D,by omega,by omega,by omega,by omega,by omega⟩⟩
     ·exact Av ⟨rfl,_,_,_,_,_,rfl,D,by omega,by omega,by omega,by omega,by omega⟩
  case ip1 =>
   rintro c Y ⟨J,z⟩;subst J;refine aG λG m=>?_;rcases z with⟨r,out,na,nb,u,t,p,f⟩|⟨out,na,nb,u,t,p,m3,c3,c4,c5,c6,c7⟩
   ·refine m ?_
    clear m;clear G;subst p;exact Av ⟨_,_,_,_,_,rfl,S2,f⟩
   ·refine m ?_
    clear m;clear G;subst p;dsimp only;refine Ap (wpS_lift (Cs ⟨rfl,?_⟩));refine Ap (Eb (Ci (I:=λy c s4=>∃(out:Array Keyed) (na nb o u t:Nat),c=(Zb,na,nb,out,o,u,t)/\SG κ a₀ pd xs s4/\MH le a b out.toList.reverse na nb/\1<=na/\2<=nb/\na<=a.size/\nb<=b.size/\x+y+na+nb<=a.size+b.size)
     (Q:=λc s4=>SG κ a₀ pd xs s4/\((∃(r out:Array Keyed) (na nb o u t:Nat),c=(Za r,na,nb,out,o,u,t)/\Fin le a b r.toList)\/∃(out:Array Keyed) (na nb o u t:Nat),c=(Zb,na,nb,out,o,u,t)/\MH le a b out.toList.reverse na nb/\1<=na/\2<=nb/\na<=a.size/\nb<=b.size/\x+1+na+nb<=a.size+b.size)) ?gs ?gf ⟨out,na,nb,_,u,t,rfl,S2,m3,c3,c4,c5,c6,by omega⟩) ?gp)
    case gf =>
     rintro c s4 N;refine aG λG m=>?_;obtain⟨out,na,nb,o,u,t,p,S4,D,d3,d4,d5,d6,d7⟩:=N;refine m ?_;clear m;clear G;subst p;exact⟨S4,.inr ⟨_,_,_,_,_,_,rfl,D,d3,d4,d5,d6,by omega⟩⟩
    case gp =>
     rintro c s4 ⟨S4,z⟩;refine aG λG m=>?_;rcases z with⟨r,out,na,nb,o,u,t,p,f⟩|⟨out,na,nb,o,u,t,p,D,d3,d4,d5,d6,d7⟩
     ·refine m ?_
      clear m;clear G;subst p;exact Av ⟨_,_,_,_,_,rfl,S4,f⟩
     ·refine m ?_
      clear m;clear G;subst p;dsimp only;exact Ap (zqc S4 λs5 K=>Av ⟨_,_,_,_,rfl,K,D,d3,d4,d5,d6,d7⟩)
    case gs =>
     rintro y c s4 _ hy N;refine aG λG m=>?_;obtain⟨out,na,nb,o,u,t,p,S4,D,d3,d4,d5,d6,d7⟩:=N;refine m ?_;clear m;clear G;subst p;simp (config:={ maxSteps:=10000000,failIfUnchanged:=Zc }) only [];refine zum λQ' X=>?_;generalize o=o
     revert o
     refine q_eq (g:=λo=>o-1) (λ_=>rfl) λo=>?_;dsimp (config:={ failIfUnchanged:=Zc }) only;refine Ap (zqc S4 λs5 K=>Ap (zas (show nb-1<b.size by omega) (Ap (zry (left:=Zc) (key:=G b (nb-1)) (arr:=a) (base:=0) (n:=na) (hint:=na-1) (B:=λi=>!lt (G b (nb-1)) (G a (0+i))) C K.i.kind (P.mb _ #v[]) #v[] (λi hi=>P.ma _ #v[]) (λi hi=>rfl) (λi j h1 h2 h3=>?mono1) #v[] λk k1 k2 k3=>?_))))
     case mono1 =>
      have h3':lt (G b (nb-1)) (G a (0+j))=Zc:=by simpa using h3
      have l1:=(O.f1 (P.bf (0+j) (nb-1) #v[] #v[])).mp h3';have l2:=(O.f1 (P.bf (0+i) (nb-1) #v[] #v[])).mpr (O.tr (W _ _ #v[] #v[]) l1);show (!lt (G b (nb-1)) (G a (0+i)))=Zd;rw[l2];rfl
     have w1:∀i,i<k->le (G a i) (G b (nb-1)):=λi T=>by
      have:=k2 i T;rw[Ce] at this;exact (O.f1 (P.bf i (nb-1) #v[] #v[])).mp (by simpa using this)
     have w2:∀i,k<=i->i<na->le (G b (nb-1)) (G a i):=λi T g2=>by
      have:=k3 i #v[] #v[];rw[Ce] at this;exact O.f2 (by simpa using this)
     have m5:=D.appA' P.sa k1 d5 λi T g2 j g3=>O.tr (V j (nb-1) #v[] #v[]) (w2 i T g2);dsimp (config:={ failIfUnchanged:=Zc }) only;generalize hac:na-k=ac1 at m5 ⊢;generalize eou:out=out'
     revert out'
     generalize ena:na=na'
     revert na'
     refine zzf (λd M=>MH le a b M.toList.reverse d nb/\(∀i,i<d->le (G a i) (G b (nb-1)))/\(1<=d/\d<=a.size)/\x+y+d+nb<=a.size+b.size) (λhk0=>?_) (λhc H=>?_) λd M ⟨n5,u1,b8,p6⟩=>?_
     ·have k0:k=na:=by omega
      exact⟨D,k0 ▸ w1,by omega,by omega⟩
     ·refine q_if (λR => ?_) λR => ?_
      ·have R:k=0:=by simpa using R
       exact Av (X _ _ ⟨K,.inl ⟨_,_,_,_,_,_,_,rfl,m5.done0 P.sb R⟩⟩)
      have R:¬ k=0:=by simpa using R
      exact H _ _ ⟨m5,w1,by omega,by omega⟩
     clear m5 D w2 w1 k3 k2 k1 hac;dsimp (config:={ failIfUnchanged:=Zc }) only;refine Ap (zas #v[] ?_);have m6:=n5.pushB' P.sb #v[] d6 u1;refine q_if (λJ=>?_) λJ=>?_
     ·have J:nb-1=1:=by simpa using J
      exact Av (X _ _ ⟨K,.inl ⟨_,_,_,_,_,_,_,rfl,m6.first P.sa P.sb J P.h0⟩⟩)
     have J:¬ nb-1=1:=by simpa using J
     refine Ap (zas (show d-1<a.size by omega) (Ap (zry (left:=Zd) (key:=G a (d-1)) (arr:=b) (base:=0) (n:=nb-1) (hint:=nb-1-1) (B:=λj=>lt (G b (0+j)) (G a (d-1))) C K.i.kind (P.ma _ #v[]) #v[] (λj hj=>P.mb _ #v[]) (λj hj=>rfl) (λi j h1 h2 h3=>?mono2) #v[] λl l1 l2 l3=>?_)))
     case mono2 =>
      have n1:=O.f3 (P.bf (d-1) (0+j) #v[] #v[]) h3;cases q:lt (G b (0+i)) (G a (d-1)) with
      |true=>rfl
      |false=>exact absurd (O.tr ((O.f1 (P.bf (d-1) (0+i) #v[] #v[])).mp q) (V _ _ #v[] #v[])) n1
     have v1:∀j,j<l->le (G b j) (G a (d-1)):=λj T=>by
      have:=l2 j T;rw[Ce] at this;exact O.f2 this
     have v2:∀j,l<=j->j<nb-1->le (G a (d-1)) (G b j):=λj T g2=>by
      have:=l3 j #v[] #v[];rw[Ce] at this;exact (O.f1 (P.bf (d-1) j #v[] #v[])).mp this
     have Z:=m6.appB' P.sb l1 #v[] λj T g2 i g3=>O.tr (W i (d-1) #v[] #v[]) (v2 j T g2);dsimp (config:={ failIfUnchanged:=Zc }) only;generalize hbc:nb-1-l=bc1 at Z ⊢;generalize hnb:nb-1=nb1 at hbc Z m6 ⊢;generalize hout:M.push (G b nb1)=L at Z m6 ⊢;generalize eou:L=out'
     revert out'
     generalize ena:nb1=na'
     revert na'
     refine zzf (λF L=>MH le a b L.toList.reverse d F/\(∀j,j<F->le (G b j) (G a (d-1)))/\(2<=F/\F<=b.size)/\x+y+1+d+F<=a.size+b.size) (λhl0=>?_) (λhc H=>?_) λF out3 ⟨n7,u2,b7,p7⟩=>?_
     ·have k0:l=nb1:=by omega
      exact⟨m6,k0 ▸ v1,by omega,by omega⟩
     ·refine q_if (λe4 => ?_) λe4 => ?_
      ·have e4:l=1:=by simpa using e4
       exact Av (X _ _ ⟨K,.inl ⟨_,_,_,_,_,_,_,rfl,Z.first P.sa P.sb e4 P.h0⟩⟩)
      have e4:¬ l=1:=by simpa using e4
      refine q_if (λe6=>?_) λe6=>?_
      ·have e6:l=0:=by simpa using e6
       exact Av (X _ _ ⟨K,.inl ⟨_,_,_,_,_,_,_,rfl,Z.done1 P.sa e6⟩⟩)
      have e6:¬ l=0:=by simpa using e6
      exact H _ _ ⟨Z,v1,by omega,by omega⟩
     dsimp (config:={ failIfUnchanged:=Zc }) only;refine Ap (zas #v[] ?_);have m8:=n7.pushA' P.sa b8.1 b8.2 u2;refine q_if (λe5=>?_) λe5=>?_
     ·have e5:d-1=0:=by simpa using e5
      exact Av (X _ _ ⟨K,.inl ⟨_,_,_,_,_,_,_,rfl,m8.done0 P.sb e5⟩⟩)
     have e5:¬ d-1=0:=by simpa using e5
     refine q_if (λ_=>?_) λ_=>?_
     ·exact Av (X _ _ ⟨K,.inr ⟨_,_,_,_,_,_,rfl,m8,by omega,by omega,by omega,by omega,by omega⟩⟩)
     ·exact Av (X _ _ ⟨_,_,_,_,_,_,rfl,K,m8,by omega,by omega,by omega,by omega,by omega⟩)
end
end Tim
namespace Tim
noncomputable def wr (xs:Array Keyed) (s0:Nat) (l:List Keyed) (m:Nat):Array Keyed:=(l.zipIdx m).foldl (λa (x:Keyed×Nat)=>match x with|(p,j)=>a.setIfInBounds (s0+j) p) xs
theorem zsd (xs:Array Keyed)(s0:Nat)(p:Keyed)(l:List Keyed)(m:Nat):wr xs s0 (p::l) m=wr (xs.setIfInBounds (s0+m) p) s0 l (m+1):=by unfold wr;rw[List.zipIdx_cons,List.foldl_cons]
theorem zsk (s0:Nat):∀(l:List Keyed) (m:Nat) (x:Array Keyed),(wr x s0 l m).size=x.size
 |[],m,x=>rfl
 |p::l,m,x=>by rw[zsd,zsk s0 l,Array.size_setIfInBounds]
theorem z91 {xs:Array Keyed}{i k:Nat}{p:Keyed}(h:i<xs.size):G (xs.setIfInBounds i p) k=if i=k then p else G xs k:=by
 unfold G;rw[Array.getElem?_setIfInBounds];split
 ·rename_i e;subst e
  first|rfl|(rw[if_pos h];rfl)
 ·rfl
theorem G_wr (s0:Nat):∀(l:List Keyed) (m:Nat) (x:Array Keyed),s0+m+l.length<=x.size->∀i,G (wr x s0 l m) i=if s0+m<=i/\i<s0+m+l.length then (l[i-(s0+m)]?).getD d0 else G x i
 |[],m,x,h,i=>by rw[if_neg (by simp)];rfl
 | p::l,m,x,h,i=>by
  rw[Bd] at h;rw[zsd,G_wr s0 l (m+1) _ (by rw[Array.size_setIfInBounds];omega),z91 #v[]];rw[Bd];by_cases c:i=s0+m
  ·subst c
   rw[if_neg #v[],if_pos rfl,if_pos ⟨by omega,by omega⟩,Nat.sub_self]
   rfl
  ·by_cases a:s0+m ≤ i /\ i<s0+m+(l.length+1)
   ·rw[if_pos ⟨by omega,by omega⟩,if_pos a,show i-(s0+m)=i-(s0+(m+1))+1 by omega,List.getElem?_cons_succ]
   ·rw[if_neg #v[],if_neg #v[],if_neg a]
theorem zq1 {xs:Array Keyed}{i:Nat}(h:i<xs.size):G xs i=xs[i]:=by unfold G;rw[getElem?_pos xs i h];rfl
theorem zql {xs:Array Keyed}{i j k:Nat}(a:j<=xs.size)(b:i+k<j):G (xs.extract i j) k=G xs (i+k):=by
 have h:k<(xs.extract i j).size:=by rw[Array.size_extract];omega
 rw[zq1 h,Array.getElem_extract,zq1 #v[]]
theorem zdh {xs:Array Keyed}{i j:Nat}(h:j<=xs.size):(xs.extract i j).size=j-i:=by rw[Array.size_extract];omega
theorem yak {xs:Array Keyed}{s0 m e:Nat}{r:List Keyed}(B:s0<=m)(E:m<=e)(c:e<=xs.size)(p:r.Perm ((xs.extract s0 m).toList++(xs.extract m e).toList)):Re xs (wr xs s0 r 0) s0 e/\r.length=e-s0:=by
 have g:r.length=e-s0:=by
  rw[p.length_eq,Ax,Ay,Ay,zdh #v[],zdh c];omega
 have h:=G_wr s0 r 0 xs #v[];refine⟨⟨?_,λi d=>?_,λi D A=>?_⟩,g⟩
 ·have y:(wr xs s0 r 0).toList=xs.toList.take s0++r++xs.toList.drop e:=by
   apply Dl;intro i;have sz:(wr xs s0 r 0).size=xs.size:=zsk _ _ _ _;by_cases d:i<xs.size
   ·have u:(wr xs s0 r 0).toList[i]? = Za (G (wr xs s0 r 0) i):=G_list #v[];rw[u,h i];by_cases x:i<s0
    ·rw[if_neg #v[],Bb,Dm (by simp;omega),List.getElem?_take_of_lt x,G_list d]
    ·by_cases C:i<e
     ·rw[if_pos ⟨by omega,by omega⟩,Bb,Fp (by simp;omega),Dm (by simp;omega)];have:(List.take s0 xs.toList).length=s0:=by simp;omega
      rw[this,Nat.add_zero,Af #v[]]
      rfl
     ·rw[if_neg #v[],Fp (by simp;omega),List.getElem?_drop];have:(List.take s0 xs.toList++r).length=e:=by simp;omega
      rw[this,show e+(i-e)=i by omega,G_list d]
   ·rw[Dn (by simp;omega),Dn (by simp;omega)]
  have o:xs.toList=xs.toList.take s0++((xs.extract s0 m).toList++(xs.extract m e).toList)++xs.toList.drop e:=by
   rw[zcl,zcl];have w:(xs.toList.drop s0).take (m-s0)++(xs.toList.drop m).take (e-m)=(xs.toList.drop s0).take (e-s0):=by
    rw[show e-s0=(m-s0)+(e-m) by omega,List.take_add,List.drop_drop,show s0+(m-s0)=m by omega]
   rw[w,Bb];have t:(xs.toList.drop s0).take (e-s0)++xs.toList.drop e=xs.toList.drop s0:=by
    have:=Br (e-s0) (xs.toList.drop s0);rw[List.drop_drop,show s0+(e-s0)=e by omega] at this;exact this
   rw[t,Br]
  refine Fv.mpr ?_;rw[y];have q:=(p.append_left (xs.toList.take s0)).append_right (xs.toList.drop e);rw[<-o] at q;exact q
 ·rw[h i,if_neg #v[]]
 ·rw[h i,if_pos ⟨by omega,by omega⟩,Af #v[]];have f:=p.mem_iff.mp (Ga (l:=r) (n:=i-(s0+0)) #v[]);show ∃j,s0<=j/\j<e/\r[i-(s0+0)]=G xs j;rcases Bg.mp f with z|z
  ·obtain⟨k,s,a,b⟩:=mem_drop (n:=0) (by rw[Fs];exact z);rw[zdh #v[]] at a;exact⟨s0+k,by omega,by omega,by rw[b,zql #v[] #v[]]⟩
  ·obtain⟨k,s,a,b⟩:=mem_drop (n:=0) (by rw[Fs];exact z);rw[zdh c] at a;exact⟨m+k,by omega,by omega,by rw[b,zql c #v[]]⟩
section
variable (bf le:Keyed->Keyed->Prop)
noncomputable def Chain (xs:Array Keyed):Nat->List (Nat×Nat×Nat)->Nat->Prop
 |c,[],h=>c=h
 |c,(s,n,_)::r,h=>s=c/\1<=n/\Srt le xs c (c+n)/\Cut bf xs c/\Chain xs (c+n) r h
end
section
variable {bf le:Keyed->Keyed->Prop}{xs ys:Array Keyed}
theorem Chain.len:∀{l:List (Nat×Nat×Nat)}{c a:Nat},Chain bf le xs c l a->c+l.length<=a
 |[],c,a,h=>by cases h;simp
 | (s,n,_)::r,c,a,h=>by
  have:=Chain.len h.2.2.2.2;have:=h.2.1;rw[Bd];omega
theorem Chain.app:∀{l b:List (Nat×Nat×Nat)}{c a:Nat},Chain bf le xs c (l++b) a↔∃m,Chain bf le xs c l m/\Chain bf le xs m b a
 |[],b,c,a=>⟨λh=>⟨c,rfl,h⟩,λ⟨m,e,h⟩=>by cases e;exact h⟩
 | (s,n,_)::r,b,c,a=>⟨λ⟨k,g,j,f,o⟩=>by
  obtain⟨m,d,i⟩:=Chain.app.mp o;exact⟨m,⟨k,g,j,f,d⟩,i⟩,λ⟨m,⟨k,g,j,f,d⟩,i⟩=>⟨k,g,j,f,Chain.app.mpr ⟨m,d,i⟩⟩⟩
theorem Chain.re:∀{l:List (Nat×Nat×Nat)}{c d b a:Nat},Chain bf le xs c l d->Re xs ys b a->a<=xs.size->(d<=b\/a<=c)->Chain bf le ys c l d
 |[],c,d,b,a,h,_,_,_=>h
 | (s,n,q)::r,c,d,b,a,⟨k,i,j,g,f⟩,R,e,m=>by
  have:=Chain.len f;exact⟨k,i,j.re R #v[],g.re R e #v[],Chain.re f R e #v[]⟩
end
section
variable {prog:Program}{w:World}{A:Around}{E:Ze->Zf->Prop}{s:Zf}{κ:SortKind}{a₀:Array Keyed}{lt:Keyed->Keyed->Bool}{bf le:Keyed->Keyed->Prop}{st:SortSt}{pd:Array (Nat × Nat × Nat)}
theorem z9s {a:SortSt}{Q:PUnit->SortSt->Prop}(h:Q ⟨⟩ a):wpS (model prog w) A E s (set a:StateT SortSt Sem PUnit) Q st:=by
 unfold wpS;rw[StateT.run_set];exact Ac ⟨rfl,h⟩
theorem z62 {b:SortSt}{P:SortSt->Prop}{Q:PUnit->SortSt->Prop}(c:P b)(h:∀a,P a->Q ⟨⟩ a):wpS (model prog w) A E s (set b:StateT SortSt Sem PUnit) Q st:=z9s (h _ c)
theorem z8y {l:List (Nat×Nat×Nat)}{i:Nat}(h:i+1<l.length):l=l.take i++l[i]::l[i+1]::l.drop (i+2):=by
 have e:=Cy (l:=l) (i:=i) #v[];have a:=Cy (l:=l) (i:=i+1) #v[];have:=Br i l;rw[e,a] at this;exact this.symm
theorem zkv (C:Asks prog w A E s κ a₀ lt) (O:Ord lt bf le) {i lo:Nat}{Q:Bool->SortSt->Prop} (I:SI κ a₀ pd st) (u:i+1<pd.size) (ch:Chain bf le (arrOf st) 0 pd.toList lo) (hlo:lo<=a₀.size)
  (h:∀f p,SI κ a₀ p f->p.size+1=pd.size->Chain bf le (arrOf f) 0 p.toList lo->Re (arrOf st) (arrOf f) 0 lo->Q Zd f):wpS (model prog w) A E s (mergeAt' i) Q st:=by
 have sz:=I.size;have M:i+1<pd.toList.length:=by simpa using u
 have es:=z8y M;obtain⟨⟨a,b,V⟩,ea⟩ : ∃t,pd.toList[i]=t:=⟨_,rfl⟩;obtain⟨⟨sb,y,pw'⟩,eb⟩ : ∃t,pd.toList[i+1]=t:=⟨_,rfl⟩;rw[ea,eb] at es;have ch0:=ch;rw[es] at ch;obtain⟨m,Y,⟨e1,a2,a3,a4,⟨e2,b2,b3,b4,c2⟩⟩⟩:=Chain.app.mp ch;subst e1;subst e2;have l2:=Chain.len c2;have l1:=Chain.len Y;have np:∃p:Array (Nat×Nat×Nat),p=(pd.setIfInBounds i (a,b+y,V)).eraseIdxIfInBounds (i+1)/\p.size+1=pd.size/\p.toList=pd.toList.take i++(a,b+y,V)::pd.toList.drop (i+2):=by
  refine (λ(q:((pd.setIfInBounds i (a,b+y,V)).eraseIdxIfInBounds (i+1)).toList=_)=>⟨_,rfl,by
   have N:=congrArg List.length q;rw[Ay,Ax,Bd,Cm,Ev,Ay] at N;omega,q⟩) ?_
  ·rw [Array.toList_eraseIdxIfInBounds,Array.toList_setIfInBounds];have:(pd.toList.set i (a,b+y,V))=pd.toList.take i++(a,b+y,V)::(a+b,y,pw')::pd.toList.drop (i+2):=by
    rw[List.set_eq_take_append_cons_drop,if_pos #v[],Cy M,eb]
   rw[this];have l3:(pd.toList.take i).length=i:=by rw[Cm];omega
   rw[List.eraseIdx_append_of_length_le #v[],l3,show i+1-i=1 by omega]
   rfl
 obtain⟨p,epd,zpd,lpd⟩:=np;have fin:∀f,kindOf f=κ->failedOf f=Zb->pendingOf f=p->Re (arrOf st) (arrOf f) a (a+b+y)->Srt le (arrOf f) a (a+b+y)->Q Zd f:=λf k1 k2 k3 R S=>by
  refine h f p ⟨k1,k2,R.perm.trans I.perm,k3⟩ zpd ?_ (R.mono #v[] #v[]);rw[lpd];refine Chain.app.mpr ⟨a,Y.re R #v[] (.inl (Ag _)),rfl,by omega,?_,a4.re R #v[] (.inl (Ag _)),?_⟩
  ·rw[<-Nat.add_assoc];exact S
  ·rw[<-Nat.add_assoc];exact c2.re R #v[] (.inr (Ag _))
 have K:∀i j,a<=i->i<=j->j<a+b->le (G (arrOf st) i) (G (arrOf st) j):=λi j o x g=>by
  by_cases e:i=j
  ·rw[e];exact O.rf _
  ·exact a3 i j o #v[] g
 have L:∀i j,a+b<=i->i<=j->j<a+b+y->le (G (arrOf st) i) (G (arrOf st) j):=λi j o x g=>by
  by_cases e:i=j
  ·rw[e];exact O.rf _
  ·exact b3 i j o #v[] g
 have D:∀i j,i<a+b->a+b<=j->j<a+b+y->bf (G (arrOf st) i) (G (arrOf st) j):=λi j o x g=>b4 i j o x #v[];have mem:∀i,i<a₀.size->G (arrOf st) i∈a₀.toList:=λi u=>z35 I.perm #v[];show wpS (model prog w) A E s (get>>=_) Q st;refine Ap (Iw ?_);have g1:(pendingOf st)[i]?=Za (a,b,V):=by
  rw[I.pend,<-Cd,Af #v[],ea]
 have T:(pendingOf st)[i+1]?=Za (a+b,y,pw'):=by
  rw[I.pend,<-Cd,Af M,eb]
 dsimp only;rw[g1,T];refine Ap (z62 (P:=SG κ a₀ p (arrOf st)) ⟨⟨I.kind,I.failed,I.perm,by have q:=I.pend;subst epd;subst q;rfl⟩,rfl⟩ λst1 H=>?_);refine Ap (zas (show a+b<(arrOf st).size by omega) (Ap (zry (left:=Zc) (key:=G (arrOf st) (a+b)) (arr:=arrOf st) (base:=a) (n:=b) (hint:=0) (B:=λi=>!lt (G (arrOf st) (a+b)) (G (arrOf st) (a+i))) C H.i.kind (mem _ #v[]) #v[] (λi u=>mem _ #v[]) (λi u=>rfl) (λi j o x g=>?mono1) #v[] λk k1 k2 k3=>?_)))
 case mono1 =>
  have h3':lt (G (arrOf st) (a+b)) (G (arrOf st) (a+j))=Zc:=by simpa using g
  have z1:=(O.f1 (D (a+j) (a+b) #v[] #v[] #v[])).mp h3';have z2:=(O.f1 (D (a+i) (a+b) #v[] #v[] #v[])).mpr (O.tr (K _ _ #v[] #v[] #v[]) z1);show (!lt (G (arrOf st) (a+b)) (G (arrOf st) (a+i)))=Zd;rw[z2];rfl
 have w1:∀i,a<=i->i<a+k->le (G (arrOf st) i) (G (arrOf st) (a+b)):=λi g1 T=>by
  have:=k2 (i-a) #v[];rw[show a+(i-a)=i by omega] at this;exact (O.f1 (D i (a+b) #v[] #v[] #v[])).mp (by simpa using this)
 have w2:∀i,a+k<=i->i<a+b->le (G (arrOf st) (a+b)) (G (arrOf st) i):=λi g1 T=>by
  have:=k3 (i-a) #v[] #v[];rw[show a+(i-a)=i by omega] at this;exact O.f2 (by simpa using this)
 refine q_if (λq1=>?_) λq1=>?_
 ·have q1:b-k=0:=by simpa using q1
  refine Av (fin _ H.i.kind H.i.failed H.i.pend (by rw[H.e];exact .refl _ _ _) ?_);rw[H.e];intro i j o x g;by_cases Y:j<a+b
  ·exact a3 i j o x Y
  ·by_cases c2:i<a+b
   ·exact O.tr (w1 i o #v[]) (L _ _ (Ag _) #v[] g)
   ·exact b3 i j #v[] x g
 have q1:¬ b-k=0:=by simpa using q1
 have e3:a+k+(b-k)-1=a+b-1:=by omega
 refine Ap (zas (show a+k+(b-k)-1<(arrOf st).size by omega) (Ap (zry (left:=Zd) (key:=G (arrOf st) (a+k+(b-k)-1)) (arr:=arrOf st) (base:=a+b) (n:=y) (hint:=y-1) (B:=λi=>lt (G (arrOf st) (a+b+i)) (G (arrOf st) (a+k+(b-k)-1))) C H.i.kind (mem _ #v[]) #v[] (λi u=>mem _ #v[]) (λi u=>rfl) (λi j o x g=>?mono2) #v[] λl l1 l2 l3=>?_)))
 case mono2 =>
  have n1:=O.f3 (D (a+k+(b-k)-1) (a+b+j) #v[] #v[] #v[]) g;cases q:lt (G (arrOf st) (a+b+i)) (G (arrOf st) (a+k+(b-k)-1)) with
  |true=>rfl
  |false=>exact absurd (O.tr ((O.f1 (D _ (a+b+i) #v[] #v[] #v[])).mp q) (L _ _ #v[] #v[] #v[])) n1
 rw[e3] at l2 l3;have v1:∀j,a+b<=j->j<a+b+l->le (G (arrOf st) j) (G (arrOf st) (a+b-1)):=λj g1 T=>by
  have:=l2 (j-(a+b)) #v[];rw[show a+b+(j-(a+b))=j by omega] at this;exact O.f2 this
 have v2:∀j,a+b+l<=j->j<a+b+y->le (G (arrOf st) (a+b-1)) (G (arrOf st) j):=λj g1 T=>by
  have:=l3 (j-(a+b)) #v[] #v[];rw[show a+b+(j-(a+b))=j by omega] at this;exact (O.f1 (D _ j #v[] #v[] T)).mp this
 refine q_if (λN=>?_) λN=>?_
 ·have N:l=0:=by simpa using N
  refine Av (fin _ H.i.kind H.i.failed H.i.pend (by rw[H.e];exact .refl _ _ _) ?_);rw[H.e];intro i j o x g;by_cases Y:j<a+b
  ·exact a3 i j o x Y
  ·by_cases c2:i<a+b
   ·exact O.tr (K i (a+b-1) o #v[] #v[]) (v2 j #v[] g)
   ·exact b3 i j #v[] x g
 have N:¬ l=0:=by simpa using N
 have W:((arrOf st).extract (a+k) (a+b)).size=b-k:=by rw[zdh #v[]];omega
 have Z:((arrOf st).extract (a+b) (a+b+l)).size=l:=by rw[zdh #v[]];omega
 have X:∀i,i<b-k->G ((arrOf st).extract (a+k) (a+b)) i=G (arrOf st) (a+k+i):=λi u=>zql #v[] #v[];have U:∀i,i<l->G ((arrOf st).extract (a+b) (a+b+l)) i=G (arrOf st) (a+b+i):=λi u=>zql #v[] #v[];have P:MP lt bf le a₀ ((arrOf st).extract (a+k) (a+b)) ((arrOf st).extract (a+b) (a+b+l)):=by
  refine⟨?_,?_,?_,?_,?_,?_,?_,?_,?_⟩
  ·intro i j o x g;rw[W] at g;rw[X i #v[],X j g];exact a3 _ _ #v[] #v[] #v[]
  ·intro i j o x g;rw[Z] at g;rw[U i #v[],U j g];exact b3 _ _ #v[] #v[] #v[]
  ·intro i u;rw[W] at u;rw[X i u];exact mem _ #v[]
  ·intro i u;rw[Z] at u;rw[U i u];exact mem _ #v[]
  ·intro i j u hj;rw[W] at u;rw[Z] at hj;rw[X i u,U j hj];exact D _ _ #v[] #v[] #v[]
  ·rw[W];omega
  ·rw[Z];omega
  ·intro i u;rw[W] at u;rw[X i u,U 0 #v[]];exact w2 _ #v[] #v[]
  ·intro j hj;rw[Z] at hj;rw[U j hj,W,X _ #v[],show a+k+(b-k-1)=a+b-1 by omega];exact v1 _ #v[] #v[]
 have close:∀(r:Array Keyed) (d:SortSt),SG κ a₀ p (arrOf st) d->Fin le ((arrOf st).extract (a+k) (a+b)) ((arrOf st).extract (a+b) (a+b+l)) r.toList ->
   Q Zd (setArr d (wr (arrOf d) (a+k) r.toList 0)):=λr d J F=>by
  obtain⟨R,hl⟩:=yak (xs:=arrOf st) (s0:=a+k) (m:=a+b) (e:=a+b+l) #v[] #v[] #v[] F.p;have hg:=G_wr (a+k) r.toList 0 (arrOf st) #v[];refine fin _ J.i.kind J.i.failed J.i.pend ?_ ?_
  ·show Re (arrOf st) (wr (arrOf d) (a+k) r.toList 0) a (a+b+y);rw[J.e];exact R.mono #v[] #v[]
  ·show Srt le (wr (arrOf d) (a+k) r.toList 0) a (a+b+y);rw[J.e];have inm:∀i,a+k<=i->i<a+b+l->(∃j,a+k<=j/\j<a+b+l/\G (wr (arrOf st) (a+k) r.toList 0) i=G (arrOf st) j):=λi o x=>R.inn i o x;intro i j o x g;by_cases ci:i<a+k
   ·rw[R.out i (.inl ci)];by_cases cj:j<a+k
    ·rw[R.out j (.inl cj)];exact a3 i j o x #v[]
    ·have below:∀z,a+k<=z->z<a+b+y->le (G (arrOf st) i) (G (arrOf st) z):=λz z1 z2=>by
      by_cases c:z<a+b
      ·exact K i z o #v[] c
      ·exact O.tr (w1 i o ci) (L _ _ (Ag _) #v[] z2)
     by_cases cj2:j<a+b+l
     ·obtain⟨z,z1,z2,z3⟩:=inm j #v[] cj2;rw[z3];exact below z z1 #v[]
     ·rw[R.out j (.inr #v[])];exact below j #v[] g
   ·by_cases ci2:i<a+b+l
    ·by_cases cj2:j<a+b+l
     ·rw[hg i,hg j,if_pos ⟨by omega,by omega⟩,if_pos ⟨by omega,by omega⟩,Af #v[],Af #v[]];exact (Ih.mp F.s) _ _ _ _ #v[]
     ·rw[R.out j (.inr #v[])];obtain⟨z,z1,z2,z3⟩:=inm i #v[] ci2;rw[z3];by_cases c:z<a+b
      ·exact O.tr (K z (a+b-1) #v[] #v[] #v[]) (v2 j #v[] g)
      ·exact L z j #v[] #v[] g
    ·rw[R.out i (.inr #v[]),R.out j (.inr #v[])];exact b3 i j #v[] x g
 have en:∀(r:Array Keyed) (d:SortSt),SG κ a₀ p (arrOf st) d->Fin le ((arrOf st).extract (a+k) (a+b)) ((arrOf st).extract (a+b) (a+b+l)) r.toList ->
   Q ((failedOf (setArr d (wr (arrOf d) (a+k) r.toList 0))).isNone) (setArr d (wr (arrOf d) (a+k) r.toList 0)):=λr d J F=>by
  have e:failedOf (setArr d (wr (arrOf d) (a+k) r.toList 0))=Zb:=J.i.failed;rw[e];exact close r d J F
 refine q_if (λ_=>?_) λ_=>?_
 ·exact Ap (yap C O H P λr d J F=>Ap (wpS_modify (Ap (Iw (Av (en r d J F))))))
 ·exact Ap (z9u C O H P λr d J F=>Ap (wpS_modify (Ap (Iw (Av (en r d J F))))))
end
end Tim
namespace Tim
section
variable {prog:Program}{w:World}{A:Around}{E:Ze->Zf->Prop}{s:Zf}{κ:SortKind}{a₀:Array Keyed}{lt:Keyed->Keyed->Bool}{bf le:Keyed->Keyed->Prop}{st:SortSt}{pd:Array (Nat × Nat × Nat)}
structure SP (κ:SortKind) (bf le:Keyed->Keyed->Prop) (a₀:Array Keyed) (lo:Nat) (st:SortSt):Prop where
 kind:kindOf st=κ
 failed:failedOf st=Zb
 perm:(arrOf st).Perm a₀
 ch:Chain bf le (arrOf st) 0 (pendingOf st).toList lo
 cut:∀c,lo<=c->Cut bf (arrOf st) c
theorem SP.si {lo:Nat}(h:SP κ bf le a₀ lo st):SI κ a₀ (pendingOf st) st:=⟨h.kind,h.failed,h.perm,rfl⟩
theorem zll:∀{l:List (Nat×Nat×Nat)}{i c d p:Nat}{e:Array Keyed},Chain bf le e c l d->Chain bf le e c (l.modify i λx=>match x with|(a,b,_)=>(a,b,p)) d
 |[],i,c,d,p,e,h=>by cases i<;>exact h
 |(s,n,q)::r,0,c,d,p,e,h=>h
 |(s,n,q)::r,i+1,c,d,p,e,⟨m,g,k,f,j⟩=>⟨m,g,k,f,zll j⟩
theorem zvd {f:SortSt->SortSt}{P:SortSt->Prop}{Q:PUnit->SortSt->Prop}(b:P (f st))(h:∀a,P a->Q ⟨⟩ a):wpS (model prog w) A E s (modify f:StateT SortSt Sem PUnit) Q st:=wpS_modify (h _ b)
theorem q_sort (C:Asks prog w A E s κ a₀ lt) (O:Ord lt bf le) {Q:Unit->SortSt->Prop} (I:SI κ a₀ #[] st) (ea:arrOf st=a₀) (hb:∀c,Cut bf a₀ c)
  (h:∀F,failedOf F=Zb->(arrOf F).Perm a₀->Srt le (arrOf F) 0 a₀.size->Q () F):wpS (model prog w) A E s sortRuns' Q st:=by
 rw [sortRuns'_eq];refine Ap (Iw ?_);have sz:=I.size;rw [sz];dsimp only;have P0:SP κ bf le a₀ 0 st:=⟨I.kind,I.failed,I.perm,by rw [I.pend];rfl,λc _=>by rw [ea];exact hb c⟩;refine Ap (Eb (Ci (I:=λx c G=>∃a,c=(Zb,a)/\x<=a/\a<=a₀.size/\SP κ bf le a₀ a G)
  (Q:=λc G=>c=(Zb,a₀.size)/\SP κ bf le a₀ a₀.size G) ?os ?of ⟨0,rfl,by omega,by omega,P0⟩) ?op)
 case of =>
  rintro c G ⟨a,rfl,h1,h2,P⟩;have e:a=a₀.size:=by omega
  subst e;exact⟨rfl,P⟩
 case os =>
  rintro x c G _ hx ⟨a,rfl,h1,h2,P⟩;refine q_if (λg=>?_) λg=>?_
  ·have e:a=a₀.size:=by omega
   subst e;exact Av ⟨rfl,P⟩
  have g:a<a₀.size:=by omega
  refine Ap (z44 C O P.si (show a+(a₀.size-a)<=a₀.size by omega) #v[] P.cut λn f W n1 n2 T Y=>?_);have z3:=W.size;have z2:=P.si.size;have c3:∀c,a+n<=c->Cut bf (arrOf f) c:=λc o=>(P.cut c #v[]).re T #v[] (.inr o);dsimp only;refine q_if (λX=>?_) λX=>?_;refine Ap (wpS_lift (Cs ⟨rfl,?_⟩));refine Ap (yar C O W (show a+min (a₀.size-a) (minRun' a₀.size a₀.size 0)<=a₀.size by omega) #v[] n1 Y c3 λk p V S=>?_);refine q_if (λz=>by simp at z) λ_=>?_;have hm:1<=min (a₀.size-a) (minRun' a₀.size a₀.size 0):=by omega
  have N:a+min (a₀.size-a) (minRun' a₀.size a₀.size 0)<=a₀.size:=by omega
  have R:Re (arrOf G) (arrOf k) a (a+min (a₀.size-a) (minRun' a₀.size a₀.size 0)):=(T.mono (Ag _) #v[]).trans V;generalize min (a₀.size-a) (minRun' a₀.size a₀.size 0)=m at p V S hm N R ⊢;clear W T Y z3 c3 V X
  rotate_left
  have hm:=n1;have N:a+n<=a₀.size:=by omega
  have R:=T;have p:=W;have S:=Y;clear W T Y z3 c3 X;generalize n=m at p S hm N R ⊢;generalize f=k at p S R ⊢
  rotate_left
  all_goals
   have z4:=p.size;have c4:∀c,a+m<=c->Cut bf (arrOf k) c:=λc o=>(P.cut c (by omega)).re R (by omega) (.inr o);have k4:Cut bf (arrOf k) a:=(P.cut a (Ag _)).re R (by omega) (.inl (Ag _));have D:Chain bf le (arrOf k) 0 (pendingOf k).toList a:=by
    rw[p.pend];exact P.ch.re R #v[] (.inl (Ag _))
   have K4:kindOf k=κ/\failedOf k=Zb/\(arrOf k).Perm a₀:=⟨p.kind,p.failed,p.perm⟩;clear p R;refine Ap (Iw ?_);have push:∀d,kindOf d=κ->failedOf d=Zb->(arrOf d).Perm a₀->Chain bf le (arrOf d) 0 (pendingOf d).toList a->Srt le (arrOf d) a (a+m)->Cut bf (arrOf d) a->(∀c,a+m<=c->Cut bf (arrOf d) c) ->
     SP κ bf le a₀ (a+m) (setPending d ((pendingOf d).push (a,m,0))):=λd a1 a2 a3 a4 a5 a6 a7=>by
    refine⟨a1,a2,a3,?_,a7⟩;show Chain bf le (arrOf d) 0 ((pendingOf d).push (a,m,0)).toList (a+m);rw[Cr];exact Chain.app.mpr ⟨a,a4,rfl,hm,a5,a6,rfl⟩
   cases q:(pendingOf k).back? with
   | none =>
    exact Ap (zvd (P:=SP κ bf le a₀ (a+m)) (push k K4.1 K4.2.1 K4.2.2 D S k4 c4) λu P6=>Av ⟨a+m,rfl,by omega,N,P6⟩)
   | some t =>
    obtain ⟨s1,n1',p1⟩:=t;dsimp only;refine Ap (Eb (Ci (I:=λy c d=>c=(Zb,())/\(kindOf d=κ/\failedOf d=Zb/\(arrOf d).Perm a₀)/\Chain bf le (arrOf d) 0 (pendingOf d).toList a/\Srt le (arrOf d) a (a+m)/\Cut bf (arrOf d) a/\∀c,a+m<=c->Cut bf (arrOf d) c)
     (Q:=λc d=>c=(Zb,())/\(kindOf d=κ/\failedOf d=Zb/\(arrOf d).Perm a₀)/\Chain bf le (arrOf d) 0 (pendingOf d).toList a/\Srt le (arrOf d) a (a+m)/\Cut bf (arrOf d) a/\∀c,a+m<=c->Cut bf (arrOf d) c) ?ms ?mf ⟨rfl,K4,D,S,k4,c4⟩) ?mp)
    case mf =>
     intro c d z;exact z
    case mp =>
     rintro c d ⟨rfl,K,B,J,M,U⟩;dsimp only;refine Ap (zvd (P:=λu=>(kindOf u=κ/\failedOf u=Zb/\(arrOf u).Perm a₀)/\Chain bf le (arrOf u) 0 (pendingOf u).toList a/\Srt le (arrOf u) a (a+m)/\Cut bf (arrOf u) a/\∀c,a+m<=c->Cut bf (arrOf u) c) ⟨K,?_,J,M,U⟩ λu z6=>?_)
     ·show Chain bf le (arrOf d) 0 ((pendingOf d).modify _ _).toList a
      rw[Array.toList_modify];exact zll B
     ·refine aG λGg qG => ?_
      obtain⟨K6,H,S6,k6,c6⟩:=z6;ac_rfl;exact Ap (zvd (P:=SP κ bf le a₀ (a+m)) (push u K6.1 K6.2.1 K6.2.2 H S6 k6 c6) λs7 P7=>Av ⟨a+m,rfl,by omega,N,P7⟩)
    case ms =>
     rintro y c d _ hy ⟨rfl,K,B,J,M,U⟩;refine Ap (Iw ?_)
     try dsimp only
     by_cases g4:(pendingOf d).size > 1
     ·rw [if_pos g4]
      obtain⟨⟨t1,t2,t3⟩,et⟩ : ∃t,(pendingOf d)[(pendingOf d).size-2]?=Za t:=⟨_,getElem?_pos _ _ #v[]⟩;rw[et];dsimp only;refine q_if (λ_=>Av ⟨rfl,K,B,J,M,U⟩) λ_=>?_;refine Ap (zkv C O (i:=(pendingOf d).size-2) (lo:=a) ⟨K.1,K.2.1,K.2.2,rfl⟩ #v[] B h2 λu pd6 Z z6 H R6=>?_);have zz:=K.2.2.size_eq;refine q_if (λz=>by simp at z) λ_=>?_;refine Av ⟨rfl,⟨Z.kind,Z.failed,Z.perm⟩,by rw[Z.pend];exact H,J.re R6 (.inr (Ag _)),M.re R6 #v[] (.inr (Ag _)),λc o=>(U c o).re R6 #v[] (.inr #v[])⟩
     ·rw [if_neg g4]
      exact Av ⟨rfl,K,B,J,M,U⟩
 case op =>
  rintro c G ⟨rfl,P⟩;have l0:=Chain.len P.ch;rw [Ay] at l0;have one:∀f,SP κ bf le a₀ a₀.size f->(pendingOf f).size<=1->Srt le (arrOf f) 0 a₀.size:=λf r h1=>by
   have o:=r.ch;have L:(pendingOf f).toList.length<=1:=by simpa using h1
   revert o L
   generalize (pendingOf f).toList=l;intro o L
   match l,o,L with
   | [],o,_ =>
    have:0=a₀.size:=o;intro i j g1 X g3;omega
   | [(s0,n,q)],⟨b1,b2,b3,b4,b5⟩,_ =>
    have:0+n=a₀.size:=b5;rw[<-this];exact b3
   |_::_::_,_,L=>simp at L
  refine Ap (Eb (Ci (I:=λy c f=>c=(Zb,())/\SP κ bf le a₀ a₀.size f/\((pendingOf f).size<=1\/(pendingOf f).size+y<=a₀.size)) (Q:=λc f=>c=(Zb,())/\SP κ bf le a₀ a₀.size f/\(pendingOf f).size<=1) ?fs ?ff ⟨rfl,P,.inr #v[]⟩) ?fp)
  case ff =>
   rintro c f ⟨o,r,z⟩;exact⟨o,r,by omega⟩
  case fp =>
   rintro c f ⟨rfl,r,z⟩;exact Av (h f r.failed r.perm (one f r z))
  case fs =>
   rintro y c f _ hy ⟨rfl,r,z⟩;refine Ap (Iw ?_);refine q_if (λg=>Av ⟨rfl,r,g⟩) λg=>?_;have zz:=r.perm.size_eq;have go:∀i,i+1<(pendingOf f).size->wpS (model prog w) A E s (mergeAt' i) (λb k=>b=Zd/\SP κ bf le a₀ a₀.size k/\((pendingOf k).size<=1\/(pendingOf k).size+(y+1)<=a₀.size)) f:=λi hi =>
    zkv C O (lo:=a₀.size) r.si hi r.ch (Ag _) λk pd4 p z4 D V=>⟨rfl,⟨p.kind,p.failed,p.perm,by rw[p.pend];exact D,λc o=>(r.cut c o).re V #v[] (.inr o)⟩,by rw[p.pend];omega⟩
   refine Ap (Eb (go _ (by
    have g' : ¬ (pendingOf f).size<=1:=g;generalize (if (pendingOf f).size-2 > 0 then Option.map (λx=>x.snd.fst) (pendingOf f)[(pendingOf f).size-2-1]? else Zb)=bf9
    try dsimp only
    split<;>omega)) λb k z4=>?_)
   obtain⟨rfl,P4,z5⟩:=z4;refine q_if (λz=>by simp at z) λ_=>?_;exact Av ⟨rfl,P4,z5⟩
end
end Tim
end L2
namespace L2
open PySem PySem.Spec PyProof.Rows
open PySem.AutoSeq1 (wpAny_loadPart')
open PySem.SeqAt
noncomputable def lexI:List Int->List Int->Bool
 |[],[]=>Zc
 |[],_::_=>Zd
 |_::_,[]=>Zc
 |a::c,b::bs=>if a=b then lexI c bs else decide (a<b)
theorem zdq:∀x,lexI x x=Zc
 |[]=>rfl
 |a::b=>by unfold lexI;rw[if_pos rfl];exact zdq b
theorem ze3:∀{x y z:List Int},lexI x y=Zd->lexI y z=Zd->lexI x z=Zd
 |[],[],_,h,_=>by cases h
 |[],_::_,[],_,h=>by cases h
 |[],_::_,_::_,_,_=>rfl
 |_::_,[],_,h,_=>by cases h
 |_::_,_::_,[],_,h=>by cases h
 | a::i,b::bs,c::j,e,d=>by
  unfold lexI at e d ⊢;by_cases g:a=b
  ·subst g
   rw[if_pos rfl] at e;by_cases f:a=c
   ·rw[if_pos f] at d ⊢;exact ze3 e d
   ·rw[if_neg f] at d ⊢;exact d
  ·rw [if_neg g] at e
   have k:=As e;by_cases f:b=c
   ·subst f;rw[if_neg g];exact e
   ·rw [if_neg f] at d
    have l:=As d;rw[if_neg #v[]];exact An #v[]
theorem zkb:∀{x y:List Int},lexI x y=Zc->lexI y x=Zc->x=y
 |[],[],_,_=>rfl
 |[],_::_,h,_=>by cases h
 |_::_,[],_,h=>by cases h
 | a::f,b::bs,c,d=>by
  unfold lexI at c d;by_cases e:a=b
  ·subst e
   rw[if_pos rfl] at c d;rw[zkb c d]
  ·rw [if_neg e] at c
   rw[if_neg (λz=>e z.symm)] at d;have:=Gq c;have:=Gq d;omega
theorem zrb (l b:Zh) (items i:Array Ze) (n K:Nat) (N E:Option Zh) (O C:Array (Option Ze)) (ns v:List Int) (H:IntsAre items.toList ns) (J:IntsAre i.toList v) :
  Meets (Builtin.«tuple.__lt__» ⟨[.ref l,.ref b],[]⟩)
   (λA R s=>s.heap.get? l=Za { cls:=.type "tuple",dict:=N,data:=.seq items n,slots:=O }/\s.heap.get? b=Za { cls:=.type "tuple",dict:=E,data:=.seq i K,slots:=C } /\
    R (.ok (.ret (.bool (lexI ns v)))) s) :=
 .of_wp λprog w A R s h=>by
  obtain⟨F,g,d,G,I⟩:=s;obtain⟨L,Q,h⟩:=h;have T:=AutoSeq1.sub_tuple_tuple;have P:items.size=ns.length:=by have:=H.length;simpa using this
  have M:i.size=v.length:=by have:=J.length;simpa using this
  wp_walk using Dk L,Dk Q,wpAny_forIn_list _ (λrest b D=>b.1=Zb/\D=⟨F,g,d,G,I⟩/\∃z B e m,rest=List.zip z B/\IntsAre z e/\IntsAre B m/\ns.length+m.length=e.length+v.length /\
   R (.ok (.ret (.bool (lexI e m)))) ⟨F,g,d,G,I⟩) _
  case turn =>
   rintro ⟨y,x⟩ rest b D ⟨o,rfl,z,B,e,m,r,p,k,f,j⟩;cases p with
   |nil=>simp at r
   | cons a t p =>
    cases k with
    |nil=>simp at r
    | cons c u k =>
     rw[Bh] at r;injection r with hyx hrest;cases hyx;unfold lexI at j;refine Aa (wpAny_eqBool_int ?_);by_cases q:a=c
     ·rw [if_pos q] at j
      have:(a==c)=Zd:=by simpa using q
      rw[this]
      wp_walk
      exact⟨rfl,rfl,_,_,_,_,hrest,p,k,by simp at f;omega,j⟩
     ·rw [if_neg q] at j
      have:(a==c)=Zc:=by simpa using q
      rw[this];simp only [Ic,Fe];refine Aa (Cs ?_);refine Aa (show wpAny _ _ (compareOp .Lt _ _) _ _ _ from PyProof.Rows.lt_int ?_)
      wp_walk
      exact⟨_,rfl,by simpa using j⟩
  case fin =>
   rintro ⟨S,U⟩ D ⟨o,rfl,z,B,e,m,r,p,k,f,j⟩;simp only at o;subst o
   wp_walk
   refine ⟨_,rfl,?_⟩;have:lexI e m=decide (items.size<i.size):=by
    rw[P,M];cases p with
    | nil =>
     cases k with
     |nil=>unfold lexI;symm;apply Bc;simp at f;omega
     |cons c u k=>unfold lexI;symm;apply An;simp at f;omega
    | cons a t p =>
     cases k with
     |nil=>unfold lexI;symm;apply Bc;simp at f;omega
     |cons c u k=>simp at r
   rw[this] at j;simpa [Builtin.Tuple.tupleCompareSizes] using j
  case h =>
   exact⟨rfl,rfl,items.toList,i.toList,ns,v,rfl,H,J,by omega,by simpa using h⟩
theorem znp {xs ys z:List Int} (h:lexI xs z=Zd):lexI xs ys=Zd\/lexI ys z=Zd:=by
 cases q:lexI xs ys with
 |true=>exact .inl rfl
 | false =>
  cases q2:lexI ys xs with
  |true=>exact .inr (ze3 q2 h)
  |false=>rw[zkb q q2] at h;exact .inr h
theorem zwe (kf:Ze->List Int):Tim.Ord (λx y:Keyed=>lexI (kf x.1) (kf y.1)) (λ_ _=>True) (λx y=>lexI (kf y.1) (kf x.1)=Zc) where
 tr:=λ{x y z} b c=>by
  cases q:lexI (kf z.1) (kf x.1) with
  |false=>rfl
  | true =>
   rcases znp (ys:=kf y.1) q with a|a
   ·rw[c] at a;cases a
   ·rw[b] at a;cases a
 tot:=λx y=>by
  cases q:lexI (kf y.1) (kf x.1) with
  |false=>exact .inl rfl
  | true =>
   right
   cases q2:lexI (kf x.1) (kf y.1) with
   |false=>rfl
   | true =>
    have:=ze3 q q2;rw[zdq] at this;cases this
 f1:=λ_=>Iff.rfl
 f2:=λ{x y} h=>by
  cases q2:lexI (kf y.1) (kf x.1) with
  |false=>rfl
  | true =>
   have:=ze3 h q2;rw[zdq] at this;cases this
 irr:=λx=>zdq _
 ltr:=λb c=>ze3 b c
 nt:=λy h=>znp h
section
variable {prog:Program}{w:World}{A:Around}{E:Ze->Zf->Prop}{s:Zf}{a₀:Array Keyed}
theorem ztv {κ:SortKind}{lt:Keyed->Keyed->Bool}(h:∀(x y:Keyed) (E:Ze->Zf->Prop) (Q:Bool->Zf->Prop),x∈a₀.toList->y∈a₀.toList->Q (lt x y) s->wpAny (model prog w) A (keyLt' κ x.1 y.1) Q E s):Tim.Asks prog w A E s κ a₀ lt:=λx y e Q b c a d=>by
 rw[lt'_eq];refine Ap (Iw ?_);rw[a];refine Ap (wpS_lift (Dv (h x y _ _ b c ⟨rfl,?_⟩)));exact Av d
theorem zq4 {kf:Ze->List Int}(h:∀x∈a₀.toList,∃n t,x.1=.int n t/\kf x.1=[n]):Tim.Asks prog w A E s oneType' a₀ (λx y=>lexI (kf x.1) (kf y.1)):=ztv λx y E Q g i b=>by
 nofun;obtain⟨n,t,f,a⟩:=h x g;obtain⟨m,u,c,d⟩:=h y i;ac_rfl;rw[keyLt'_oneType,f,c];refine oneLt_int ?_;have e:lexI (kf x.1) (kf y.1)=decide (n<m):=by
  rw[a,d];unfold lexI;by_cases q:n=m
  ·rw[if_pos q];subst q;simp [lexI]
  ·rw[if_neg q]
 rw[<-e];exact b
theorem eqv_ints:∀n m:List Int,PyData.eqvAll (n.map .int) (m.map .int)=decide (n=m)
 |[],[]=>by simp [PyData.eqvAll]
 |[],_::_=>by simp [PyData.eqvAll]
 |_::_,[]=>by simp [PyData.eqvAll]
 | a::n,b::m=>by
  rw[Ak,Ak,PyData.eqvAll,eqv_ints n m,PyData.eqv];by_cases h:a=b
  ·simp [h]
  ·simp [h]
theorem zef {h:Heap}:∀{i:List Ze}{a:List Int},IntsAre i a->ReadsAll h i (a.map .int) []
 |_,_,.nil=>.nil
 |_,_,.cons n t r=>.cons (.int n t) (zef r)
theorem zlk {h:Heap}{b:Zh}{i:List Ze}{ns:List Int}(q:IsTup h b i.toArray)(r:IntsAre i ns):Reads h (.ref b) (.tuple (ns.map .int)) []:=by
 obtain⟨o,a,g,n,c⟩:=id q;exact .tuple a g c (by simpa using zef r)
theorem zp6 (ns:List Int):PyData.canLay0 (.tuple (ns.map .int))=Zd:=by
 rw[PyData.canLay0];exact canLayAll_ints ns
theorem depth_ints (ns:List Int):PyData.depth (.tuple (ns.map .int))<=1:=by
 rw[PyData.depth,depthAll_ints]
 decide
theorem zxq {b a:Zh}{i its':List Ze}{ns n:List Int}{Q:Bool->Zf->Prop} (f:A.units+1<cLine) (c:IsTup s.heap b i.toArray) (q:IntsAre i ns) (p:IsTup s.heap a its'.toArray) (d:IntsAre its' n) (h:Q (decide (ns=n)) s) :
  wpAny (model prog w) A (eqBool (.ref b) (.ref a)) Q E s:=by
 refine PySem.SeqAt.eqBoolOverData prog w A E s _ _ _ _ [] [] Q (zlk c q) (zlk p d) (zp6 ns) (zp6 n) ?_ ?_
 ·have:=depth_ints ns;omega
 ·have e:PyData.eqv (.tuple (ns.map .int)) (.tuple (n.map .int))=decide (ns=n):=by rw[PyData.eqv];exact eqv_ints ns n
  rw[e];exact h
theorem zxf {b g:Zh}{i its':List Ze}{ns a:List Int}{Q:Ze->Zf->Prop} (v:A.units<cLine) (u:IsTup s.heap b i.toArray) (t:IntsAre i ns) (r:IsTup s.heap g its'.toArray) (B:IntsAre its' a) (h:Q (.bool (lexI ns a)) s) :
  wpAny (model prog w) A (compareOp .Lt (.ref b) (.ref g)) Q E s:=by
 nofun;obtain⟨⟨cls,y,data,z⟩,l,m,n,o⟩:=id u;obtain⟨⟨p,k,j,f⟩,c,d,q,e⟩:=id r;ac_rfl;simp only at m o d e;subst m o d e;exact richCompare_meets_room (op:=.Lt) ⟨_,l,rfl⟩ ⟨_,c,rfl⟩ F.slot_tuple_lt F.entry_tuple_lt (F.args_tuple_lt_2 _ _) (zrb b g i.toArray its'.toArray n q y k z f ns a (by simpa using t) (by simpa using B))
  ⟨l,c,show Ze.bool (lexI ns a)≠Ze.notImplemented/\Q (.bool (lexI ns a)) s from ⟨(λx=>nomatch x),h⟩⟩ v
structure KeyT (h:Heap) (v:Ze) (k:List Int):Prop where
 ex:∃(a b:Zh) (i:Int) (t:Tok) (ns:List Int) (its:List Ze) (c:Ze),v=.ref a/\k=i::ns/\IsTup h a [.int i t,c].toArray/\c=.ref b/\IsTup h b its.toArray/\IntsAre its ns
theorem zxj {kf:Ze->List Int}(R:A.units+2<cLine)(h:∀x∈a₀.toList,KeyT s.heap x.1 (kf x.1)):Tim.Asks prog w A E s (tuples' Zd) a₀ (λx y=>lexI (kf x.1) (kf y.1)):=ztv λx y E Q r B d=>by
 nofun;obtain⟨a,b,i,t,M,I,c,L,C,D,rfl,k,q⟩:=(h x r).ex;obtain⟨P,S,e,V,f,its',U,G,u,F,rfl,p,l⟩:=(h y B).ex;ac_rfl;rw[C,u] at d;rw[L,G];nofun;obtain⟨o,K,O,n,J⟩:=id D;obtain⟨W,H,N,T,m⟩:=id F;ac_rfl;refine PySem.W.kat_lt K J H m ?_;refine PySem.W.kat_cons (wpAny_eqBool_int ?_);unfold lexI at d;by_cases z:i=e
 ·have g:(i==e)=Zd:=by simpa using z
  rw[g];rw[if_pos z] at d;refine PySem.W.kat_yes (PySem.W.kat_cons (zxq #v[] k q p l ?_));by_cases j:M=f
  ·rw[An j];refine PySem.W.kat_yes (PySem.W.kat_nil ?_);subst j;rw[zdq] at d;exact d
  ·rw[Bc j];refine PySem.W.kat_no ?_;exact PySem.W.kat_one _ _ (zxf #v[] k q p l d)
 ·have g:(i==e)=Zc:=by simpa using z
  rw[g];rw[if_neg z] at d;refine PySem.W.kat_no ?_;exact oneLt_int d
end
end L2
namespace L2
open PySem PySem.Spec PyProof.Rows
section
variable {prog:Program}{w:World}{A:Around}{E:Ze->Zf->Prop}{s:Zf}{a kS:Zh}{e e1:Nat}{keys:Array Ze}{vs:List Ze}{P:PySem.Fin->Zf->Prop}
theorem zxg {st:SortSt} (p:s.heap.get? kS=Za (seqObj "list" keys e)) (i:s.heap.get? a=Za (seqObj "list" #[] e1)) (d:kS≠a) (r:keys.size<=sizeLine) (k:(arrOf st).size<=sizeLine) (q:failedOf st=Zb)
  (h:∀f c,f.get? a=Za (seqObj "list" ((arrOf st).map (·.2)) c)->(∀b o,b≠a->b≠kS->s.heap.get? b=Za o->f.get? b=Za o)->P (.done (.ret .none)) { s with heap:=f }):wpAny (model prog w) A (ksk_tail a Zc e1 (.ref kS) st) P E s:=by
 have g:=Bl s.heap kS (Obj.mapSeq λ_=>(#[]:Array Value));have n:(s.heap.update kS (Obj.mapSeq λ_=>(#[]:Array Value))).get? a=Za (seqObj "list" #[] e1):=(g.2 a d.symm).trans i;have m:=Bl (s.heap.update kS (Obj.mapSeq λ_=>(#[]:Array Value))) a (Obj.mapSeq λ_=>(arrOf st).map (·.2));unfold ksk_tail
 try dsimp only
 refine Aa (Gr p rfl ?_ r (Bi _));refine Aa (wpAny_letGo ?_);refine Aa (seqEpoch_at n rfl ?_);refine Aa (Gr n rfl ?_ (Bi _) (by simp only [Cu,Fa,Array.size_map];omega));rw[q];simp only [bne_self_eq_false,Cu,Fa];refine Ac (h _ _ (Hl n λ_=>(arrOf st).map (·.2)) λb o l j t=>?_);exact (m.2 b l).trans ((g.2 b j).trans t)
theorem z21 {κ:SortKind}{kf:Ze->List Int} (z:s.heap.get? kS=Za (seqObj "list" keys e)) (G:s.heap.get? a=Za (seqObj "list" #[] e1)) (q:kS≠a) (D:keys.size=vs.length) (J:vs.length<=sizeLine)
  (K:2<=vs.length->∀t:SortKind->Zf->Prop,t κ s->wpAny (model prog w) A (keyKind' keys) t E s)
  (C:Tim.Asks prog w A E s κ (keys.zip vs.toArray) (λx y=>lexI (kf x.1) (kf y.1)))
  (h:∀(r:List Keyed) l c,r.Perm (keys.toList.zip vs)->r.Pairwise (λx y=>lexI (kf y.1) (kf x.1)=Zc)->l.get? a=Za (seqObj "list" (r.map (·.2)).toArray c)->(∀b o,b≠a->b≠kS->s.heap.get? b=Za o->l.get? b=Za o)->P (.done (.ret .none)) { s with heap:=l }) :
  wpAny (model prog w) A (ksk_end a Zc vs.toArray e1 (.ref kS) keys) P E s:=by
 have n:(keys.zip vs.toArray).size=vs.length:=by rw[Array.size_zip,D,Am,Ew]
 have fin:∀f:SortSt,(arrOf f).Perm (keys.zip vs.toArray)->failedOf f=Zb->Tim.Srt (λx y=>lexI (kf y.1) (kf x.1)=Zc) (arrOf f) 0 (keys.zip vs.toArray).size->wpAny (model prog w) A (ksk_tail a Zc e1 (.ref kS) f) P E s:=λf k m p=>by
  refine zxg z G q #v[] (by rw[k.size_eq,n];exact J) m λl c B u=>?_;refine h (arrOf f).toList l c ?_ (Tim.srt_list (by rw[k.size_eq];exact p)) (by rw[B,<-Gc,Hk]) u;rw[<-ksk_zip];exact Fv.mp k
 unfold ksk_end
 try dsimp only
 simp only [Cu,Fa];by_cases g:vs.toArray.size<2
 ·rw[if_pos g,if_pos g];refine Aa (Ac ?_);rw[StateT.run_pure];refine Aa (Ac ?_)
  try dsimp only
  refine fin (SortSt.mk' general' (keys.zip vs.toArray) #[] 7 Zb) (Array.Perm.refl _) rfl λi j _ L N=>?_;rw[Am] at g;omega
 ·rw [if_neg g,if_neg g];rw [Am] at g;refine Aa (K (by omega) _ ?_);refine Aa (Ct (Tim.q_sort (bf:=λ_ _=>True) (st:=SortSt.mk' κ (keys.zip vs.toArray) #[] 7 Zb) (Q:=λ_ d=>(arrOf d).Perm (keys.zip vs.toArray)/\failedOf d=Zb/\Tim.Srt (λx y=>lexI (kf y.1) (kf x.1)=Zc) (arrOf d) 0 (keys.zip vs.toArray).size)
   C (zwe kf) ⟨rfl,rfl,Array.Perm.refl _,rfl⟩ rfl (λ_ _ _ _ _ _=>trivial) λd I H F=>⟨H,I,F⟩) ?_ λ_ _ e=>e)
  rintro ⟨⟨⟩,d⟩ M ⟨rfl,k,m,p⟩
  try dsimp only
  exact fin d k m p
end
noncomputable abbrev KP:=List Int×W
noncomputable def insK (x:KP):List KP->List KP
 |[]=>[x]
 |y::a=>if lexI x.1 y.1 then x::y::a else y::insK x a
noncomputable def zgr:List KP->List KP
 |[]=>[]
 |x::a=>insK x (zgr a)
theorem zgo (x:KP):∀l,(insK x l).Perm (x::l)
 |[]=>.refl _
 | y::a=>by
  unfold insK;split
  ·exact .refl _
  ·exact ((zgo x a).cons y).trans (.swap x y a)
theorem zdp:∀l:List KP,(zgr l).Perm l
 |[]=>.refl _
 |x::a=>(zgo x _).trans ((zdp a).cons x)
noncomputable abbrev leK (x y:KP):Prop:=lexI y.1 x.1=Zc
theorem z77 {x y z:KP} (h:leK x y) (b:leK y z):leK x z:=by
 unfold leK at *
 cases q:lexI z.1 x.1 with
 |false=>rfl
 | true =>
  rcases znp (ys:=y.1) q with a|a
  ·rw[b] at a;cases a
  ·rw[h] at a;cases a
theorem zlg {x y:KP} (h:lexI x.1 y.1=Zd):leK x y:=by
 unfold leK;cases q:lexI y.1 x.1 with
 |false=>rfl
 | true =>
  have:=ze3 h q;rw[zdq] at this;cases this
theorem zg7 {x:KP}:∀{l:List KP},l.Pairwise leK->(insK x l).Pairwise leK
 |[],_=>Gv _ _
 | y::c,h=>by
  have b:=Df.mp h;unfold insK;split
  ·rename_i q
   refine Df.mpr ⟨λz a=>?_,h⟩;rcases Ar.mp a with rfl|a
   ·exact zlg q
   ·exact z77 (zlg q) (b.1 z a)
  ·rename_i q
   refine Df.mpr ⟨λz a=>?_,zg7 b.2⟩;rcases Ar.mp ((zgo x c).mem_iff.mp a) with rfl|a
   ·unfold leK;simpa using q
   ·exact b.1 z a
theorem zb1:∀l:List KP,(zgr l).Pairwise leK
 |[]=>.nil
 |x::a=>zg7 (zb1 a)
theorem zdf:∀{l a:List KP},l.Perm a->l.Pairwise leK->a.Pairwise leK->(∀x∈l,∀y∈l,x.1=y.1->x=y)->l=a
 |[],a,p,_,_,_=>p.nil_eq
 |x::j,[],p,_,_,_=>by simpa using p.length_eq
 | x::j,y::n,p,o,r,f=>by
  have g:=Df.mp o;have i:=Df.mp r;have k:y∈x::j:=p.mem_iff.mpr Az;have q:x∈y::n:=p.mem_iff.mp Az;have d:x=y:=by
   rcases Ar.mp k with e|c
   ·exact e.symm
   ·rcases Ar.mp q with e | h
    ·exact e
    ·exact f x Az y k (zkb (show lexI x.1 y.1=Zc from i.1 x h) (show lexI y.1 x.1=Zc from g.1 y c))
  subst d;have m:=(List.perm_cons x).mp p;rw[zdf m g.2 i.2 λu b v s=>f u (Au _ b) v (Au _ s)]
inductive All2 {α β:Type} (R:α->β->Prop):List α->List β->Prop where
 |nil:All2 R [] []
 |cons {a b as bs} (h:R a b) (t:All2 R as bs):All2 R (a::as) (b::bs)
theorem All2.perm {α β:Type}{R:α->β->Prop}{bs c:List β} (p:bs.Perm c):∀{b:List α},All2 R b bs->∃a,b.Perm a/\All2 R a c:=by
 induction p with
 |nil=>exact λh=>⟨_,.refl _,h⟩
 | cons x p k =>
  intro b h;cases h with
  | cons h t =>
   obtain⟨a,q,f⟩:=k t;exact⟨_,q.cons _,.cons h f⟩
 | swap x y l =>
  intro b h;cases h with
  | cons e t =>
   cases t with
   |cons g t=>exact⟨_,.swap _ _ _,.cons g (.cons e t)⟩
 | trans o n i j =>
  intro b h;obtain⟨m,q,e⟩:=i h;obtain⟨d,f,g⟩:=j e;exact⟨d,q.trans f,g⟩
theorem All2.pair {α β:Type}{R:α->β->Prop}{P:α->α->Prop}{Q:β->β->Prop} (e:∀a b f c,R a b->R f c->Q b c->P a f):∀{d:List α}{bs:List β},All2 R d bs->bs.Pairwise Q->d.Pairwise P
 |_,_,.nil,_=>.nil
 | _,_,.cons h t,l=>by
  have j:=Df.mp l;refine Df.mpr ⟨λf i=>?_,All2.pair e t j.2⟩;have:∀{d:List α}{bs:List β},All2 R d bs->f∈d->∃c,c∈bs/\R f c:=by
   intro d bs h
   induction h with
   |nil=>intro z;cases z
   | cons h t k =>
    intro z;rcases Ar.mp z with rfl|z
    ·exact⟨_,Az,h⟩
    ·obtain ⟨c, q,n⟩:=k z
     exact⟨c,Au _ q,n⟩
  obtain⟨c,g,m⟩:=this t i;exact e _ _ _ _ h m (j.1 c g)
noncomputable def zm9:List W->Option (List Int)
 |[]=>Za []
 |.int i::w=>(zm9 w).bind λa=>Za (i::a)
 |_=>Zb
noncomputable def kI:W->Option (List Int)
 |.int i=>Za [i]
 |_=>Zb
noncomputable def kT:W->Option (List Int)
 |.tup [.int i,.tup x]=>(zm9 x).bind λa=>Za (i::a)
 |_=>Zb
noncomputable def mapO {α β:Type} (f:α->Option β):List α->Option (List β)
 |[]=>Za []
 |a::c=>(f a).bind λb=>(mapO f c).bind λbs=>Za (b::bs)
noncomputable def zby:List (List Int)->Bool
 |[]=>Zd
 |x::a=>a.all (λy=>decide (x≠y))&&zby a
theorem zhn:∀{l:List (List Int)},zby l=Zd->l.Nodup
 |[],_=>Fj
 | x::a,h=>by
  unfold zby at h;rw[Ae] at h;refine Dd.mpr ⟨λz=>?_,zhn h.2⟩;have:=Bf.mp h.1 x z;simp at this
noncomputable def zkk (ks ws:List W):Option (List W):=((mapO kI ks).orElse λ_=>mapO kT ks).bind λk=>if zby k&&decide (k.length=ws.length) then Za ((zgr (k.zip ws)).map (·.2)) else Zb
noncomputable def Cx.inn (X:Cx):Cx:={ X with A:=X.A.in1.in1 }
section
variable {X:Cx}{pins:List (Zh × Obj)}{σ:St}{H:Hp}{s:Zf}
theorem Cx.Ok.inn (o:X.Ok):X.inn.Ok:=⟨o.mod,o.kind,o.glob,o.blt,o.above,o.inj,o.has,o.cab,o.hd,o.frames,o.stk,o.exf,o.bs,o.bsz,o.noex,o.exfs,o.funs,o.frf⟩
theorem Cx.Ok.out (o:X.inn.Ok):X.Ok:=⟨o.mod,o.kind,o.glob,o.blt,o.above,o.inj,o.has,o.cab,o.hd,o.frames,o.stk,o.exf,o.bs,o.bsz,o.noex,o.exfs,o.funs,o.frf⟩
theorem Inv.inn (I:Inv X pins σ H s):Inv X.inn pins σ H s:=⟨I.ok.inn,I.os,I.bare,I.base,I.loc,I.cell,I.free,I.freeC,I.pin,I.hok,I.len⟩
theorem Inv.out (I:Inv X.inn pins σ H s):Inv X pins σ H s:=⟨I.ok.out,I.os,I.bare,I.base,I.loc,I.cell,I.free,I.freeC,I.pin,I.hok,I.len⟩
theorem Inv.adopt {h':Heap}{t':Nat}{ch:List Zh}{T:Zh}{o:HO} (I:Inv X pins σ H s) (k:∀b o,b ∉ ch->s.heap.get? b=Za o->h'.get? b=Za o) (h:∀b∈ch,FpOk X pins H b) (i:T∈ch)
  (new:ObjOk X.prog X.w (upd H T o) h' T o):Inv X pins σ (upd H T o) { s with heap:=h',toks:=t' }:=by
 have f:H T=Zb:=(h T i).1;have g:∀b u,H b=Za u->b ∉ ch:=λb u e d=>by rw[(h b d).1] at e;exact noSome e
 refine I.step (g':=s.gens) (d':=s.drawn) (ch:=ch) (λb d=>⟨(h b d).2.2.2.1,(h b d).2.1,(h b d).2.2.2.2.1,(h b d).2.2.2.2.2⟩) (λb o _ _ a e _=>k b o a e) (λb o _ _ a e _=>⟨o.slots,k b o a e⟩) (λb u a e n=>by rw[upd_ne (λz=>a (by rw[z];exact i))];exact n)
  (λb u a e=>⟨u,k b u a e⟩) (λb x e=>by rw[upd_ne (zad e f)];exact e) (λb u x e=>by rw[upd_ne (zad e f)];exact e) (λb w e=>⟨#[],by rw[upd_ne (zad e f),e];simp⟩) (λm l=>?_) (λb u e=>?_) I.bare
 ·obtain⟨o,j,t,p,r⟩:=l;exact⟨o,j,t,k _ o (λz=>(h _ z).2.1 rfl) p,r⟩
 ·by_cases d:b=T
  ·subst d;rw[upd_same] at e;obtain rfl:=sI e;exact new
  ·rw[upd_ne d] at e;refine (I.hok b u e).stay (λc v a q=>k c v ?_ q) (λc q=>by rw[upd_ne (zad q f)];exact q) λc x q=>by rw[upd_ne (zad q f)];exact q
   rcases a with z|z
   ·rw[z];exact g b u e
   ·exact g c _ z
structure KCall (X:Cx) (f:Ze) (Φ:W->Option W) (Al:List (Zh×Obj)->Hp->Prop):Prop where
 mono:∀{pins pins':List (Zh×Obj)}{F F':Hp},Al pins F->(∀p∈pins,p∈pins')->Same F F'->Al pins' F'
 run:∀(pins:List (Zh×Obj)) (s:Zf) (σ:St) (H F:Hp) (pr:Prt) (en:En) (w k:W) (v:V) (u:Ze),Al pins F->Inv X pins σ H s->Rel X.K F pr en σ H->Rep X.K F w v->RelV v u->Φ w=Za k ->
  wpAny (model X.prog X.w) X.A (call f [u]) (λu' s'=>∃v' F' H',Inv X pins σ H' s'/\Same F F'/\Rel X.K F' pr en σ H'/\RelV v' u'/\Rep X.K F' k v') (λ_ _=>False) s
structure Apart (X:Cx) (pins:List (Zh×Obj)) (b:Zh):Prop where
 l:b≠X.env.locals
 f:b ∉ X.fs
 x:b∈X.ex\/X.s₀.heap.objs.size<=b
 c:∀x c,X.env.cells.lookup x=Za c->c≠b
 p:∀p∈X.pn++pins,p.1≠b
theorem Apart.fp {b:Zh}(a:Apart X pins b)(h:H b=Zb):FpOk X pins H b:=⟨h,a.l,a.f,a.x,a.c,a.p⟩
theorem FpOk.apart {b:Zh}(h:FpOk X pins H b):Apart X pins b:=⟨h.2.1,h.2.2.1,h.2.2.2.1,h.2.2.2.2.1,h.2.2.2.2.2⟩
theorem zf4 {α β:Type}{f:α->Option β}:∀{d:List α}{bs:List β}{i:Nat}{a:α},mapO f d=Za bs->d[i]?=Za a->∃b,f a=Za b/\bs[i]?=Za b
 |[],_,_,_,_,h=>by simp at h
 | x::m,bs,i,a,e,h=>by
  obtain⟨b,g,e⟩:=bS e;obtain⟨k,l,e⟩:=bS e;obtain rfl:=sI e;cases i with
  |zero=>simp at h;subst h;exact⟨b,g,rfl⟩
  | succ i =>
   obtain⟨c,q,j⟩:=zf4 (i:=i) l (by simpa using h);exact⟨c,q,by simpa using j⟩
theorem zga {α β:Type}{f:α->Option β}:∀{a:List α}{bs:List β},mapO f a=Za bs->bs.length=a.length
 |[],_,e=>by obtain rfl:=sI e;rfl
 | x::g,bs,e=>by
  obtain⟨b,d,e⟩:=bS e;obtain⟨c,h,e⟩:=bS e;obtain rfl:=sI e;exact congrArg (· + 1) (zga h)
theorem zzd {f:Ze}{Φ:W->Option W}{Al:List (Zh×Obj)->Hp->Prop} (KC:KCall X f Φ Al) {F:Hp}{pr:Prt}{en:En}{a kS:Zh}{e1:Nat}{vs:List Ze}{t:List V}{ws ks:List W}{P:PySem.Fin->Zf->Prop}{E:Ze->Zf->Prop}
  (I:Inv X ((kS,seqObj "list" #[] 0)::(a,seqObj "list" #[] e1)::pins) σ H s) (al:Al pins F) (R:Rel X.K F pr en σ H) (rv:Vals t vs) (q:Reps X.K F ws t) (Y:mapO Φ ws=Za ks) (hz:vs.length<=sizeLine)
  (m:Apart X ((a,seqObj "list" #[] e1)::pins) kS)
  (fin:∀g d c keys e kvs,Inv X ((kS,seqObj "list" keys e)::(a,seqObj "list" #[] e1)::pins) σ d g->Same F c->Rel X.K c pr en σ d->Vals kvs keys.toList->Reps X.K c ks kvs->wpAny (model X.prog X.w) X.A (ksk_end a Zc vs.toArray e1 (.ref kS) keys) P E g) :
  wpAny (model X.prog X.w) X.A (ksk_rest a f Zc vs.toArray e1 (.ref kS)) P E s:=by
 have lw:ws.length=vs.length:=by rw[q.length,rv.length]
 have lk:ks.length=vs.length:=by rw[zga Y,lw]
 unfold ksk_rest;refine Aa (Cs ?_);rw[List.forIn_toArray];refine Aa (ksk_fold (λi g=>∃d c keys e kvs,Inv X ((kS,seqObj "list" keys e)::(a,seqObj "list" #[] e1)::pins) σ d g/\Same F c/\Rel X.K c pr en σ d/\Vals kvs keys.toList/\Reps X.K c (ks.take i) kvs) vs 0 s
  ⟨H,F,#[],0,[],I,.refl F,R,.nil,.nil⟩ ?step ?done)
 case step =>
  rintro j x g Z ⟨d,c,keys,e,kvs,C,y,S,B,r⟩;simp only [Ce] at r ⊢;have hj:j<vs.length:=(Ai.mp Z).1;obtain⟨w,hw⟩ : ∃w,ws[j]?=Za w:=⟨_,Af #v[]⟩;nofun;obtain⟨k,M,G⟩:=zf4 Y hw;obtain⟨v,hv,N⟩:=q.get hw;obtain⟨u,hu,ru⟩:=rv.get hv;ac_rfl;rw[Z] at hu;obtain rfl:=sI hu;have zk:keys.size<=vs.length:=by
   have a1:kvs.length=keys.size:=B.length.trans Ay;have a2:min j ks.length=kvs.length:=by rw[<-Cm];exact r.length
   omega
  refine Aa (Dv (Ct (KC.run _ g σ d c pr en w k v x (KC.mono al (λp h=>Au _ (Au _ h)) y) C S (N.mono y) ru M) (λl n he=>?_) λ_ _ hF=>hF.elim));nofun;obtain⟨v',F2,L,O,A,R2,K,T⟩:=he;obtain⟨D,U,_,_,_⟩:=O.pin (kS,seqObj "list" keys e) (Ba _ Az);ac_rfl
  try dsimp only
  refine Aa (Gr D rfl ?_ #v[] (Cf (Hu (Array.size_push ..)) #v[]));have sb:=Bl n.heap kS (Obj.mapSeq (·.push l));obtain⟨Q,J⟩ : ∃Q,(n.heap.update kS (Obj.mapSeq (·.push l))).get? kS=Za (seqObj "list" (keys.push l) Q):=⟨_,Hl D (·.push l)⟩;have I3:Inv X ((a,seqObj "list" #[] e1)::pins) σ L n:=O.pins_of λp h=>O.pin p (Ba _ (Au _ h));have I4:Inv X ((a,seqObj "list" #[] e1)::pins) σ L { n with heap:=n.heap.update kS (Obj.mapSeq (·.push l)) }:=I3.turned (t':=n.toks) (it:=kS) (λb o hb eb=>(sb.2 b hb).trans eb) U m.l m.x m.c m.p;refine Ac ⟨rfl,L,F2,keys.push l,Q,kvs++[v'],?_,y.trans A,R2,?_,?_⟩
  ·refine I4.pins_of λp h => ?_;rcases Ar.mp h with rfl|h
   ·exact⟨J,U,m.l,m.f,λv z=>by cases z⟩
   ·exact I4.pin p (Ba _ h)
  ·rw[Cr];exact Vals.append B (.cons K .nil)
  ·rw[List.take_add_one,G];exact (r.mono A).append (.cons T .nil)
 case done =>
  rintro g ⟨d,c,keys,e,kvs,C,y,S,B,r⟩;rw[Ce,Ex #v[]] at r;obtain⟨D,_⟩:=C.pin (kS,seqObj "list" keys e) (Ba _ Az)
  try dsimp only
  refine Aa (listItems_at D rfl ?_);exact fin g d c keys e kvs C y S B r
end
noncomputable def intV:V->Option Int
 |.int j=>Za j
 |_=>Zb
noncomputable def kfV (H:Hp):Ze->List Int
 |.int n _=>[n]
 | .ref a=>match H a with
  | some (.tup [.int i,.ref b])=>(match H b with
   |some (.tup v)=>i::v.filterMap intV
   |_=>[])
  |_=>[]
 |_=>[]
theorem zge:∀a:List Int,(a.map V.int).filterMap intV=a
 |[]=>rfl
 |i::a=>by rw[Ak,Ht];show i::_=_;rw[zge a]
theorem zia {K:Zg}{F:Hp}:∀{a:List W}{b:List Int}{v:List V},zm9 a=Za b->Reps K F a v->v=b.map V.int
 |[],_,_,e,r=>by obtain rfl:=sI e;cases r;rfl
 | w::a,b,v,e,r=>by
  cases w with
  | int i =>
   obtain⟨d,h,e⟩:=bS (show (zm9 a).bind _=_ from e);obtain rfl:=sI e;cases r with
   | cons c r =>
    cases c;rw[zia h r];rfl
  |_=>exact noSome e
theorem zex {b:List Int}{a:List Ze} (h:Vals (b.map V.int) a):IntsAre a b:=by
 induction b generalizing a with
 |nil=>cases h;exact .nil
 | cons i b d =>
  cases h with
  | cons e t =>
   obtain⟨c,rfl⟩:=e;exact .cons i c (d t)
section
variable {X:Cx}{pins:List (Zh × Obj)}{σ:St}{H F:Hp}{s:Zf}
theorem zsn {k:W}{a:List Int}{v:V}{u:Ze} (e:kI k=Za a) (r:Rep X.K F k v) (b:RelV v u):(∃n t,u=.int n t/\kfV H u=[n])/\kfV H u=a:=by
 cases k with
 | int i =>
  obtain rfl:=sI e;cases r;obtain⟨t,rfl⟩:=b;exact⟨⟨i,t,rfl,rfl⟩,rfl⟩
 |_=>exact noSome e
theorem zt1 (I:Inv X pins σ H s) (g:Same F H) {k:W}{j:List Int}{v:V}{u:Ze} (e:kT k=Za j) (r:Rep X.K F k v) (z:RelV v u):KeyT s.heap u j/\kfV H u=j:=by
 unfold kT at e;split at e
 ·rename_i i M
  obtain⟨J,C,e⟩:=bS e;obtain rfl:=sI e;cases r with
  | @tup O a l h c =>
   cases c with
   | @cons _ L _ n B c =>
    cases B;cases c with
    | @cons _ N _ y G c =>
     cases c;cases G with
     | @tup _ b K m p =>
      have E:=zia C p;subst E;cases (show u=Ze.ref a from z);nofun;obtain⟨A,d,D,_⟩:=I.tuple (.inl (.inl (g _ _ h)));obtain⟨f,o,w,_⟩:=I.tuple (.inl (.inl (g _ _ m)));ac_rfl;cases d with
      | cons x d =>
       cases d with
       | cons q d =>
        cases d;obtain⟨t,rfl⟩:=x;cases (show _=Ze.ref b from q);refine⟨⟨a,b,i,t,J,f,.ref b,rfl,rfl,D,rfl,w,zex o⟩,?_⟩;show (match H a with|some (.tup [.int i,.ref b])=>_|_=>_)=_;rw[g _ _ h];show (match H b with|some (.tup l)=>i::l.filterMap intV|_=>[])=_;rw[g _ _ m];show i::_=_;rw[zge]
 ·exact noSome e
theorem zy4 {keys:Array Ze}{vs:List Ze}{ks:List W}{kvs:List V}{B:List (List Int)}{A:Around}{E:Ze->Zf->Prop} (I:Inv X pins σ H s) (sm:Same F H) (w:A.units+2<cLine) (R:Vals kvs keys.toList) (Y:Reps X.K F ks kvs) (d:((mapO kI ks).orElse λ_=>mapO kT ks)=Za B) (hl:keys.size=vs.length) :
  ∃κ:SortKind,(2<=vs.length->∀K:SortKind->Zf->Prop,K κ s->wpAny (model X.prog X.w) A (keyKind' keys) K E s)/\Tim.Asks X.prog X.w A E s κ (keys.zip vs.toArray) (λx y=>lexI (kfV H x.1) (kfV H y.1))/\keys.toList.map (kfV H)=B:=by
 have lk:ks.length=keys.size:=by rw[Y.length,R.length,Ay]
 have mem:∀x∈(keys.zip vs.toArray).toList,∃i,keys.toList[i]?=Za x.1:=λx G=>by
  rw[ksk_zip] at G;obtain⟨a,b⟩:=x;have:=(Ec G).1;obtain⟨i,m,e⟩:=Ch.mp this;exact⟨i,by rw[Af m,e]⟩
 have back:∀(f:W->Option (List Int)),mapO f ks=Za B->(∀(k:W) (l:List Int) (v:V) (u:Ze),f k=Za l->Rep X.K F k v->RelV v u->kfV H u=l)->keys.toList.map (kfV H)=B:=λf N hk=>by
  apply Dl;intro i;rw[At];by_cases m:i<keys.size
  ·obtain ⟨k,L⟩ : ∃ k,ks[i]? = Za k:=⟨_,Af (by omega)⟩
   nofun;obtain⟨l,g,P⟩:=zf4 N L;obtain⟨v,Z,j⟩:=Y.get L;obtain⟨u,O,r⟩:=R.get Z;ac_rfl;rw[O,P];exact congrArg Za (hk k l v u g j r)
  ·rw[Dn (by simpa using m),Dn (by rw[zga N];omega)];rfl
 have at' : ∀(f:W->Option (List Int)),mapO f ks=Za B->∀(i:Nat) (u:Ze),keys.toList[i]?=Za u->∃k l v,f k=Za l/\Rep X.K F k v/\RelV v u:=λf N i u w=>by
  have m:i<keys.size:=by have:=(Ai.mp w).1;simpa using this
  obtain⟨k,L⟩ : ∃k,ks[i]?=Za k:=⟨_,Af #v[]⟩;nofun;obtain⟨l,g,P⟩:=zf4 N L;obtain⟨v,Z,j⟩:=Y.get L;obtain⟨u',O,r⟩:=R.get Z;ac_rfl;rw[w] at O;obtain rfl:=sI O;exact⟨k,l,v,g,j,r⟩
 cases q:mapO kI ks with
 | some S =>
  rw [q] at d;cases (show Za S=Za B from d);have all:∀(i:Nat) (u:Ze),keys.toList[i]?=Za u->∃n t,u=.int n t/\kfV H u=[n]:=λi u w=>by
   nofun;obtain⟨k,l,v,g,j,r⟩:=at' kI q i u w;ac_rfl;exact (zsn (H:=H) g j r).1
  refine⟨oneType',λh2 K U=>?_,zq4 λx G=>?_,back kI q λk l v u g j r=>(zsn (H:=H) g j r).2⟩
  ·have ia:=intsAre_map keys.toList λv p=>by
    nofun;obtain⟨i,m,e⟩:=Ch.mp p;obtain⟨n,t,h,_⟩:=all i v (by rw[Af m,e]);ac_rfl;exact⟨n,t,h⟩
   rw[ksk_kind ia #v[]];exact Ac U
  ·obtain ⟨i,m⟩:=mem x G
   exact all i x.1 m
 | none =>
  rw [q] at d;have d:mapO kT ks=Za B:=d;have all:∀(i:Nat) (u:Ze),keys.toList[i]?=Za u->KeyT s.heap u (kfV H u):=λi u w=>by
   nofun;obtain⟨k,l,v,g,j,r⟩:=at' kT d i u w;obtain⟨C,D⟩:=zt1 I sm g j r;ac_rfl;rw[D];exact C
  refine⟨tuples' Zd,λh2 K U=>?_,zxj w λx G=>?_,back kT d λk l v u g j r=>(zt1 I sm g j r).2⟩
  ·have kt:∃fs:List Ze,PySem.W.KatTups s.heap keys.toList fs/\fs.length=keys.size/\∀v∈fs,∃n t,v=.int n t:=by
    have gen:∀l:List Ze,(∀(i:Nat) (u:Ze),l[i]?=Za u->KeyT s.heap u (kfV H u))->∃fs:List Ze,PySem.W.KatTups s.heap l fs/\fs.length=l.length/\∀v∈fs,∃n t,v=.int n t:=by
     intro l
     induction l with
     |nil=>exact λ_=>⟨[],trivial,rfl,λv p=>by simp at p⟩
     | cons u l ih =>
      intro h;nofun;obtain⟨fs,C,D,J⟩:=ih λi v p=>h (i+1) v (by simpa using p);obtain⟨a,b,i,t,ns,its,c,g,P,q1,rfl,q2,q3⟩:=(h 0 u rfl).ex;obtain⟨o,k1,k2,n,k3⟩:=id q1;ac_rfl;subst g;exact⟨.int i t::fs,PySem.W.KatTups.cons k1 k2 k3 rfl C,by simpa using D,λv p=>(Ar.mp p).elim (λz=>⟨i,t,z⟩) (J v)⟩
    nofun;obtain⟨fs,C,D,J⟩:=gen keys.toList all;ac_rfl;exact⟨fs,C,by simpa using D,J⟩
   refine aG λ_ qG=>?_;obtain ⟨fs,C,D,J⟩:=kt;refine qG ?_;clear qG;have:=PySem.W.kat_kind (M:=model X.prog X.w) (A:=A) (E:=E) (s:=s) (T:=.type "int") (Q:=K) C (by omega) (λv p=>by
    obtain⟨n,t,rfl⟩:=J v p;exact .now) rfl U
   rw[Hk] at this;exact this
  ·obtain ⟨i,m⟩:=mem x G
   exact all i x.1 m
end
section
variable {X:Cx}{pins:List (Zh × Obj)}{σ:St}{H F:Hp}{s:Zf}{pr:Prt}{en:En}
theorem zup {α:Type} [DecidableEq α] {β:Type}:∀{d:List α}{f:List β},d.Nodup->∀x∈d.zip f,∀y∈d.zip f,x.1=y.1->x=y
 |[],_,_,x,h,_,_,_=>by simp at h
 |_::_,[],_,x,h,_,_,_=>by simp at h
 | k::d,w::f,g,x,h,y,c,e=>by
  have n:=Dd.mp g;rw[Bh] at h c;rcases Ar.mp h with rfl|h
  ·rcases Ar.mp c with rfl | c
   ·rfl
   ·have:=(Ec (a:=y.1) (b:=y.2) c).1
    exact absurd (by rw[<-e] at this;exact this) n.1
  ·rcases Ar.mp c with rfl | c
   ·have:=(Ec (a:=x.1) (b:=x.2) h).1
    exact absurd (by rw[e] at this;exact this) n.1
   ·exact zup n.2 x h y c e
theorem zqg {K:Zg}{F:Hp}{kf:Ze->List Int}:∀{ku:List Ze}{ws:List W}{vvs:List V}{vs:List Ze},Vals vvs vs->Reps K F ws vvs->All2 (λ(z:KP) (x:Keyed)=>kf x.1=z.1/\∃v,RelV v x.2/\Rep K F z.2 v) ((ku.map kf).zip ws) (ku.zip vs)
 |[],_,_,_,_,_=>by simp;exact .nil
 |k::ku,_,_,_,.nil,.nil=>by simp;exact .nil
 |k::ku,_,_,_,.cons r rv,.cons h hr=>.cons ⟨rfl,_,r,h⟩ (zqg rv hr)
theorem zqq {K:Zg}{F:Hp}{kf:Ze->List Int}:∀{d:List KP}{r:List Keyed},All2 (λ(z:KP) (x:Keyed)=>kf x.1=z.1/\∃v,RelV v x.2/\Rep K F z.2 v) d r->∃c,Vals c (r.map (·.2))/\Reps K F (d.map (·.2)) c
 |_,_,.nil=>⟨[],.nil,.nil⟩
 | _,_,.cons ⟨_,v,h,e⟩ t=>by
  obtain⟨c,a,b⟩:=zqq t;exact⟨v::c,.cons h a,.cons e b⟩
theorem ziq {q l:Zh}{Φ:W->Option W}{Al:List (Zh×Obj)->Hp->Prop}{J:List V}{ws ks out:List W}{Q:VK}{E:Ze->Zf->Prop} (KC:KCall X.inn (.ref q) Φ Al) (I:Inv X pins σ H s) (al:Al pins F) (R:Rel X.K F pr en σ H) (hl:SqL X.K H l J) (D:Reps X.K F ws J)
  (hk:mapO Φ ws=Za ks) (L:zkk ks ws=Za out) (hu:X.A.units+4<cLine) (h:∀M f v,Same F M->Rel X.K M pr en σ f->Res X.K M f pr en σ (.lst out,Zd) v->Q v f) :
  wpAny (model X.prog X.w) X.A (call (.builtin "sorted") [.ref l] [(Str.ofString "key",.ref q)]) (EP X pins σ Q) E s:=by
 nofun;obtain⟨vs,rv,pl,hz⟩:=I.list hl;ac_rfl;have lv:J.length=vs.length:=rv.length;have g:vs.length<=sizeLine:=by omega
 have il:s.heap.IsList l vs.toArray:=by
  nofun;obtain⟨o,n,g1,g2,g3,g4⟩:=pl;ac_rfl;exact⟨o,g1,g2,_,g4⟩
 have lw:ws.length=vs.length:=by rw[D.length,lv]
 have lk:ks.length=vs.length:=by rw[zga hk,lw]
 refine Ie kind_sorted plain_sorted entry_sorted (ksk_s1 _ _) ?_;unfold Builtin.«sorted»;refine Aa (m:=checkCount "sorted" 1 1 _) (Ac ?_);refine Aa (collect_list il ?_ g);refine Aa (Gy ?_ g);have t:((s.heap.push (seqObj "list" #[] 0)).update s.heap.objs.size (Obj.mapSeq (·++vs.toArray))).objs.size=s.heap.objs.size+1:=by
  rw[Heap.size_update,size_push']
 have d:(((s.heap.push (seqObj "list" #[] 0)).update s.heap.objs.size (Obj.mapSeq (·++vs.toArray))).push (seqObj "list" vs.toArray 0)).get? (s.heap.objs.size+1)=Za (seqObj "list" vs.toArray 0):=by
  rw[<-t];exact Ah _ rfl
 have keep:∀b o,s.heap.get? b=Za o->(((s.heap.push (seqObj "list" #[] 0)).update s.heap.objs.size (Obj.mapSeq (·++vs.toArray))).push (seqObj "list" vs.toArray 0)).get? b=Za o:=λb o q=>by
  have k:b<s.heap.objs.size:=Aj q;rw[Ir _ _ _ (by rw[t];exact Aw (Dq k)),Heap.get?_update_ne _ _ _ _ (Aw k),Ir _ _ _ (Aw k)];exact q
 have B:(((s.heap.push (seqObj "list" #[] 0)).update s.heap.objs.size (Obj.mapSeq (·++vs.toArray))).push (seqObj "list" vs.toArray 0)).objs.size=s.heap.objs.size+2:=by rw[size_push',t]
 show wpAny _ _ _ _ _ { s with heap:=((s.heap.push (seqObj "list" #[] 0)).update s.heap.objs.size (Obj.mapSeq (·++vs.toArray))).push (seqObj "list" vs.toArray 0) };rw[t];generalize ((s.heap.push (seqObj "list" #[] 0)).update s.heap.objs.size (Obj.mapSeq (·++vs.toArray))).push (seqObj "list" vs.toArray 0)=h3 at d keep B ⊢;obtain⟨a,ea⟩ : ∃a,a=s.heap.objs.size+1:=⟨_,rfl⟩;rw[<-ea] at d ⊢;refine Aa (Bq (Iv slot_list_sort ⟨_,d,rfl⟩ entry_list_sort ?body (ksk_l1 _ _)))
 case body =>
  show wpAny (model X.prog X.w) X.A.in1.in1 (Builtin.«list.sort» ⟨[.ref a],[(Str.ofString "key",.ref q)]⟩) _ _ _;rw[ksk_t1];have ha:a<h3.objs.size:=by omega
  have s1:=Bl h3 a (Obj.mapSeq λ_=>(#[]:Array Value));obtain⟨G,Y⟩ : ∃G,(h3.update a (Obj.mapSeq λ_=>(#[]:Array Value))).get? a=Za (seqObj "list" #[] G):=⟨_,Hl d λ_=>#[]⟩;unfold ksk_tree;refine Aa (listItems_at d rfl ?_);refine Aa (Gr d rfl ?_ (by rw[Am];omega) (Bi _));refine Aa (seqEpoch_at Y rfl ?_);refine Aa (wpAny_newTuple ?_ g);refine Aa (Gy ?_ (Bi _));refine Bq ?_;have hz4:((h3.update a (Obj.mapSeq λ_=>(#[]:Array Value))).push (seqObj "tuple" vs.toArray 0)).objs.size=s.heap.objs.size+3:=by rw[size_push',Heap.size_update,B]
  show wpAny _ _ (ksk_rest a (.ref q) Zc vs.toArray G (.ref ((h3.update a (Obj.mapSeq λ_=>(#[]:Array Value))).push (seqObj "tuple" vs.toArray 0)).objs.size)) _ _ { s with heap:=((h3.update a (Obj.mapSeq λ_=>(#[]:Array Value))).push (seqObj "tuple" vs.toArray 0)).push (seqObj "list" #[] 0) };obtain⟨kS,ek⟩ : ∃kS,kS=((h3.update a (Obj.mapSeq λ_=>(#[]:Array Value))).push (seqObj "tuple" vs.toArray 0)).objs.size:=⟨_,rfl⟩;rw[<-ek] at hz4 ⊢;have S:∀b o,s.heap.get? b=Za o->(((h3.update a (Obj.mapSeq λ_=>(#[]:Array Value))).push (seqObj "tuple" vs.toArray 0)).push (seqObj "list" #[] 0)).get? b=Za o:=λb o eb=>by
   refine Ab _ (Ab _ ?_);have k:b<s.heap.objs.size:=Aj eb;exact (s1.2 b (Aw (by rw[ea];exact Dq k))).trans (keep b o eb)
  have ga:(((h3.update a (Obj.mapSeq λ_=>(#[]:Array Value))).push (seqObj "tuple" vs.toArray 0)).push (seqObj "list" #[] 0)).get? a=Za (seqObj "list" #[] G):=Ab _ (Ab _ Y);have gk:(((h3.update a (Obj.mapSeq λ_=>(#[]:Array Value))).push (seqObj "tuple" vs.toArray 0)).push (seqObj "list" #[] 0)).get? kS=Za (seqObj "list" #[] 0):=by rw[ek];exact Ah _ rfl
  generalize ((h3.update a (Obj.mapSeq λ_=>(#[]:Array Value))).push (seqObj "tuple" vs.toArray 0)).push (seqObj "list" #[] 0)=h6 at S ga gk ⊢;have na:H a=Zb:=I.hok.fresh #v[];have nk:H kS=Zb:=I.hok.fresh #v[];have pa:Apart X pins a:=(I.fpOk (H':=H) #v[] na).apart;have u:Apart X pins kS:=(I.fpOk (H':=H) #v[] nk).apart;have O:kS≠a:=by omega
  have j:Apart X ((a,seqObj "list" #[] G)::pins) kS:=⟨u.l,u.f,u.x,u.c,λp w=>by
   rcases Bg.mp w with z|z
   ·exact u.p p (List.mem_append_left _ z)
   ·rcases Ar.mp z with rfl|z
    ·exact O.symm
    ·exact u.p p (Ba _ z)⟩
  have I6:Inv X pins σ H { s with heap:=h6 }:=I.kept (t':=s.toks) S;have I7:Inv X ((kS,seqObj "list" #[] 0)::(a,seqObj "list" #[] G)::pins) σ H { s with heap:=h6 }:=I6.pins_of λp w=>by
   rcases Ar.mp w with rfl|w
   ·exact⟨gk,nk,u.l,u.f,λv z=>by cases z⟩
   ·rcases Ar.mp w with rfl|w
    ·exact⟨ga,na,pa.l,pa.f,λv z=>by cases z⟩
    ·exact I6.pin p (Ba _ w)
  refine zzd (X:=X.inn) (pins:=pins) KC I7.inn al R rv D hk g ⟨j.l,j.f,j.x,j.c,j.p⟩ λs' f M keys e kvs I8 s8 R8 rk rp=>?_;have i:=I8.out;nofun;obtain⟨g1,g2,_⟩:=i.pin (kS,seqObj "list" keys e) (Ba _ Az);obtain⟨g3,g4,_⟩:=i.pin (a,seqObj "list" #[] G) (Ba _ (Au _ Az));ac_rfl;have T:keys.size=vs.length:=by
   have a1:kvs.length=keys.size:=rk.length.trans Ay;have a2:ks.length=kvs.length:=rp.length;omega
  unfold zkk at L;obtain⟨kl,hkl,L⟩:=bS L;split at L
  ·rename_i dc;rw[Ae] at dc;nofun;obtain⟨κ,kd,C,ekl⟩:=zy4 (A:=X.A.in1.in1) (E:=E) (vs:=vs) i R8.sub (by show X.A.units+1+1+2<cLine;omega) rk rp hkl T;ac_rfl;refine z21 (kf:=kfV f) g1 g3 O T g kd C λr h' c pm pw ga' kp'=>⟨_,rfl,?_⟩;obtain⟨zs,U,Z⟩:=All2.perm pm.symm (zqg (K:=X.K) (F:=M) (kf:=kfV f) (ku:=keys.toList) rv (D.mono s8));rw[ekl] at U;have ps:zs.Pairwise leK:=All2.pair (P:=leK) (Q:=λx y:Keyed=>lexI (kfV f y.1) (kfV f x.1)=Zc) (λz x z' x' h1 h2 q=>by show lexI z'.1 z.1=Zc;rw[<-h1.1,<-h2.1];exact q) Z pw;have ez:zs=zgr (kl.zip ws):=zdf (U.symm.trans (zdp _).symm) ps (zb1 _) λx hx y hy=>zup (zhn dc.1) x (U.symm.mem_iff.mp hx) y (U.symm.mem_iff.mp hy);obtain⟨ov,o1,o2⟩:=zqq Z;have eo:out=zs.map (·.2):=by rw[ez];exact (sI L).symm
   rw[<-eo] at o2;have lo:ov.length<=sizeLine:=by
    have:out.length=ov.length:=o2.length;have l2:out.length=zs.length:=by rw[eo,Ad]
    have l3:=U.length_eq;rw[List.length_zip] at l3;omega
   have I9:Inv X pins σ f s':=i.pins_of λp w=>i.pin p (Ba _ (Au _ (Au _ w)));have I10:Inv X pins σ (upd f a (.lst ov)) { s' with heap:=h' }:=I9.adopt (t':=s'.toks) (ch:=[a,kS]) (λb o N eb=>kp' b o (λz=>N (by simp [z])) (λz=>N (by simp [z])) eb) (λb N=>by
    rcases Ar.mp N with rfl|N
    ·exact pa.fp g4
    ·rw[Ao.mp N];exact u.fp g2) Az ⟨lo,r.map (·.2),c,o1,ga'⟩
   refine Ac ⟨_,rfl,.ref a,_,I10,rfl,?_⟩;nofun;obtain⟨F9,s9,R9,y9⟩:=(Out.lst (K:=X.K) (F:=M) (H:=f) (p:=a) g4 o2).close R8;ac_rfl;exact h F9 _ _ (s8.trans s9) R9 y9
  ·exact noSome L
end
section
variable {prog:Program}{w:World}{A:Around}{E:Ze->Zf->Prop}{s:Zf}{a:Zh}{vs:List Ze}{P:PySem.Fin->Zf->Prop}
noncomputable def kN:Ze->List Int
 |.int n _=>[n]
 |_=>[]
theorem zgg {ns:List Int}{n:Nat} (p:s.heap.get? a=Za (seqObj "list" vs.toArray n)) (ia:IntsAre vs ns) (I:vs.length<=sizeLine)
  (h:∀(r:List Keyed) C c,r.Perm (vs.zip vs)->r.Pairwise (λx y=>lexI (kN y.1) (kN x.1)=Zc)->C.get? a=Za (seqObj "list" (r.map (·.2)).toArray c)->(∀b o,b≠a->s.heap.get? b=Za o->C.get? b=Za o)->P (.done (.ret .none)) { s with heap:=C }) :
  wpAny (model prog w) A (Builtin.«list.sort» ⟨[.ref a],[]⟩) P E s:=by
 have lt:a<s.heap.objs.size:=Aj p;have T:=Bl s.heap a (Obj.mapSeq λ_=>(#[]:Array Value));rw[list_sort_plain];refine Aa (listItems_at p rfl ?_);refine Aa (Gr p rfl ?_ (by rw[Am];exact I) (Bi _));obtain⟨B,K⟩ : ∃B,(s.heap.update a (Obj.mapSeq λ_=>(#[]:Array Value))).get? a=Za (seqObj "list" #[] B):=⟨_,Hl p λ_=>#[]⟩;refine Aa (seqEpoch_at K rfl ?_);refine Aa (wpAny_newTuple ?_ I);refine Aa (Gy ?_ (Bi _));refine Bq ?_;have k:(((s.heap.update a (Obj.mapSeq λ_=>(#[]:Array Value))).push (seqObj "tuple" vs.toArray 0)).push (seqObj "list" #[] 0)).get? a=Za (seqObj "list" #[] B):=Ab _ (Ab _ K);have F:∀b o,b≠a->s.heap.get? b=Za o->(((s.heap.update a (Obj.mapSeq λ_=>(#[]:Array Value))).push (seqObj "tuple" vs.toArray 0)).push (seqObj "list" #[] 0)).get? b=Za o:=λb o q u=>Ab _ (Ab _ ((T.2 b q).trans u));show wpAny _ _ _ _ _ { s with heap:=((s.heap.update a (Obj.mapSeq λ_=>(#[]:Array Value))).push (seqObj "tuple" vs.toArray 0)).push (seqObj "list" #[] 0) };generalize ((s.heap.update a (Obj.mapSeq λ_=>(#[]:Array Value))).push (seqObj "tuple" vs.toArray 0)).push (seqObj "list" #[] 0)=D at k F ⊢;have L:(vs.toArray.zip vs.toArray).size=vs.length:=by rw[Array.size_zip,Am,Ew]
 have fin:∀f:SortSt,(arrOf f).Perm (vs.toArray.zip vs.toArray)->Tim.Srt (λx y=>lexI (kN y.1) (kN x.1)=Zc) (arrOf f) 0 (vs.toArray.zip vs.toArray).size->P (.done (.ret .none)) { s with heap:=D.update a (Obj.mapSeq λ_=>(arrOf f).map (·.2)) }:=λf g z=>by
  have X:=Bl D a (Obj.mapSeq λ_=>(arrOf f).map (·.2));refine h (arrOf f).toList _ _ ?_ (Tim.srt_list (by rw[g.size_eq];exact z)) (by rw[<-Gc,Hk];exact Hl k λ_=>(arrOf f).map (·.2)) λb o q u=>(X.2 b q).trans (F b o q u);have:=Fv.mp g;rw[ksk_zip] at this;exact this
 have H:∀f:SortSt,(arrOf f).Perm (vs.toArray.zip vs.toArray)->((arrOf f).map (·.2)).size<=sizeLine+1:=λf g=>by rw[Array.size_map,g.size_eq,L];omega
 dsimp only;by_cases l:vs.toArray.size<2
 ·rw[if_pos l,if_pos l];refine Aa (Ac ?_);rw[StateT.run_pure];refine Aa (Ac ?_);dsimp only;have g:(arrOf (SortSt.mk' general' (vs.toArray.zip vs.toArray) #[] 7 Zb)).Perm (vs.toArray.zip vs.toArray):=Array.Perm.refl _;refine Aa (seqEpoch_at k rfl ?_);refine Aa (Gr k rfl ?_ (Bi _) (H _ g));simp only [bne_self_eq_false,Cu,Fa];refine Ac (fin (SortSt.mk' general' (vs.toArray.zip vs.toArray) #[] 7 Zb) g λi j _ Z h4=>?_);rw[Am] at l;omega
 ·rw [if_neg l,if_neg l];rw [Am] at l;have M:∀v∈vs,∃m t,v=.int m t/\kN v=[m]:=λv W=>by
   obtain⟨i,V,e⟩:=Ch.mp W;have Y:=ia.length;obtain⟨t,J⟩:=ia.get i ns[i] (Af #v[]);rw[Af V,e] at J;obtain rfl:=sI J;exact⟨_,t,rfl,rfl⟩
  have R:∀s,Tim.Asks prog w A E s oneType' (vs.toArray.zip vs.toArray) (λx y=>lexI (kN x.1) (kN y.1)):=λs=>zq4 λx G=>by
   rw[ksk_zip] at G;exact M x.1 (Ec (a:=x.1) (b:=x.2) G).1
  rw[ksk_kind (keys:=vs.toArray) (by rw[List.toList_toArray];exact ia) (by rw[Am];omega)];refine Aa (Ac ?_);refine Aa (Ct (Tim.q_sort (bf:=λ_ _=>True) (st:=SortSt.mk' oneType' (vs.toArray.zip vs.toArray) #[] 7 Zb) (Q:=λ_ d=>(arrOf d).Perm (vs.toArray.zip vs.toArray)/\failedOf d=Zb/\Tim.Srt (λx y=>lexI (kN y.1) (kN x.1)=Zc) (arrOf d) 0 (vs.toArray.zip vs.toArray).size)
   (R _) (zwe kN) ⟨rfl,rfl,Array.Perm.refl _,rfl⟩ rfl (λ_ _ _ _ _ _=>trivial) λd U S O=>⟨S,U,O⟩) ?_ λ_ _ e=>e)
  rintro ⟨⟨⟩,d⟩ s' ⟨rfl,g,N,z⟩;dsimp only;refine Aa (seqEpoch_at k rfl ?_);refine Aa (Gr k rfl ?_ (Bi _) (H _ g));rw[N];simp only [bne_self_eq_false,Cu,Fa];exact Ac (fin d g z)
end
noncomputable def zbt (ns:List Int):List Int:=(zgr (ns.map λn=>([n],W.int n))).map λz=>z.1.headD 0
noncomputable def pz (n:Int):KP:=([n],W.int n)
theorem zf2 (a b:Int):lexI [a] [b]=decide (a<b):=by
 unfold lexI;by_cases c:a<b
 ·have : ¬ a=b:=by omega
  simp [c,this]
 ·simp [c,lexI]
theorem zf1 {ns m:List Int}(p:m.Perm ns)(s:m.Pairwise (·<=·)):zbt ns=m:=by
 have e:m.map pz=zgr (ns.map pz):=zdf ((p.map pz).trans (zdp _).symm) (by
  rw[Db];exact s.imp λ{a b} h=>by show lexI [b] [a]=Zc;rw[zf2];exact Bc #v[]) (zb1 _) λx d y c h=>by
   obtain⟨a,_,rfl⟩:=Bz.mp d;obtain⟨b,_,rfl⟩:=Bz.mp c;have:a=b:=by injection h
   rw[this]
 show (zgr (ns.map pz)).map _=m;rw[<-e,Ca];exact (Co λa _=>rfl).trans (List.map_id m)
section
variable {X:Cx}
theorem zet:∀{l:List Keyed},(∀x∈l,x.2=x.1/\∃n t,x.1=.int n t)->Vals ((l.map λx=>(kN x.1).headD 0).map V.int) (l.map (·.2))
 |[],_=>.nil
 | x::l,h=>by
  obtain⟨e,n,t,q⟩:=h x (.head _);refine .cons ?_ (zet λy a=>h y (.tail _ a));show RelV (V.int ((kN x.1).headD 0)) x.2;rw[e,q];exact⟨t,rfl⟩
theorem zjl {vs:List Ze}{x:Keyed} (h:x∈vs.zip vs):x.2=x.1/\x.1∈vs:=by
 induction vs with
 |nil=>exact absurd h Bx
 | cons v vs i =>
  rw[Bh] at h;rcases Ar.mp h with rfl|h
  ·exact⟨rfl,.head _⟩
  ·exact⟨(i h).1,.tail _ (i h).2⟩
theorem zm1 {prog:Program}{w:World}{A:Around}{E:Ze->Zf->Prop}{s:Zf}{l:Zh}{vs:List Ze}{Q:List Ze->Zf->Prop}{T:String}{o:Obj}{n:Nat} (b:T = "list"\/T = "tuple") (e:s.heap.get? l=Za o) (c:o.cls=.type T) (f:o.data=.seq vs.toArray n)
  (h:Q vs { s with heap:=(s.heap.push (seqObj "list" #[] 0)).update s.heap.objs.size (Obj.mapSeq (·++vs.toArray)) }) (hsz:vs.length<=sizeLine) :
  wpAny (model prog w) A (collect (.ref l)) Q E s:=by
 unfold collect;refine Aa (Il (Cp entry_proto_collect' ?_));show wpAny _ _ (do again (.builtin "list.__iadd__" ⟨[<-newList [],.ref l],[]⟩)) _ _ s;refine Aa (Gy (Ac ⟨Code.quiet_builtin _ #v[0,0,7],Cp entry_list_iadd' ?_⟩));show wpAny _ _ (Builtin.List.listExtendWith (.ref s.heap.objs.size) (.ref l) (.ref s.heap.objs.size)) _ _ { s with heap:=s.heap.push (seqObj "list" #[] 0) };unfold Builtin.List.listExtendWith;have a : (s.heap.push (seqObj "list" #[] 0)).get? l=Za o:=Ab _ e;refine Aa (wpAny_typeOf (T:=T) ⟨o,a,c⟩ ?_);have d:(Ze.type T==Ze.type "list" || Value.type T==Ze.type "tuple")=Zd:=by rcases b with rfl|rfl<;>rfl
 rw [if_pos (by rw [Bool.or_assoc,d,Bool.or_true])];refine Aa (listItems_at a f ?_);refine Aa (listItems_at (xs:=#[]) (n:=0) (Ah _ rfl) rfl ?_);rw [if_neg (by simp)];refine Aa (Gr (xs:=#[]) (n:=0) (Ah _ rfl) rfl ?_ (Bi _) (by show (#[]++vs.toArray).size<=sizeLine+1;simp only [Array.size_append,Am,Ee];omega));refine Ac ?_;show wpAny (model prog w) A (do
   let o <- load s.heap.objs.size
   match o.data with
   |.seq x _=>pure x.toList
   |_=>unsupported "internal:collect") Q E { s with heap:=(s.heap.push (seqObj "list" #[] 0)).update s.heap.objs.size (Obj.mapSeq (·++vs.toArray)) }
 refine Aa (wpAny_load (Hl (Ah _ rfl) _) ?_);show wpAny _ _ (pure ((#[]:Array Ze)++vs.toArray).toList) Q E _;rw[show ((#[]:Array Ze)++vs.toArray).toList=vs by simp];exact Ac h
theorem zit:zcw X (.builtin "sorted") (λR H Q=>∃(l:Zh) (d:List Int),R=[.ref l]/\(SqL X.K H l (d.map V.int)\/SqT X.K H l (d.map V.int))/\∀p,H p=Zb->Q (.ref p) (upd H p (.lst ((zbt d).map V.int)))):=by
 intro pins s σ H R us Q I r h;obtain⟨l,d,rfl,D,q⟩:=h;obtain⟨u,rfl,rx⟩:=vals1 r;cases rx;obtain⟨vs,w,T,o,n,Y,A,B,C,E⟩ : ∃vs,Vals (d.map V.int) vs/\∃T o n,(T = "list"\/T = "tuple")/\s.heap.get? l=Za o/\o.cls=.type T/\o.data=.seq vs.toArray n/\(d.map V.int).length<=sizeLine:=by
  rcases D with D|D
  ·obtain⟨vs,w,⟨o,n,A,B,_,C⟩,E⟩:=I.list D;exact⟨vs,w,_,o,n,.inl rfl,A,B,C,E⟩
  ·obtain⟨vs,w,⟨o,A,B,n,C⟩,E⟩:=I.tuple D;exact⟨vs,w,_,o,n,.inr rfl,A,B,C,E⟩
 have lv:d.length=vs.length:=by have:=w.length;rw[Ad] at this;exact this
 have j:vs.length<=sizeLine:=by rw[Ad] at E;omega
 have K:IntsAre vs d:=zex w;refine Ie kind_sorted plain_sorted entry_sorted (args_sorted1 _) ?_;unfold Builtin.«sorted»;refine Aa (m:=checkCount "sorted" 1 1 _) (Ac ?_);refine Aa (zm1 Y A B C ?_ j);refine Aa (Gy ?_ j);have g:((s.heap.push (seqObj "list" #[] 0)).update s.heap.objs.size (Obj.mapSeq (·++vs.toArray))).objs.size=s.heap.objs.size+1:=by
  rw[Heap.size_update,size_push']
 have f:(((s.heap.push (seqObj "list" #[] 0)).update s.heap.objs.size (Obj.mapSeq (·++vs.toArray))).push (seqObj "list" vs.toArray 0)).get? (s.heap.objs.size+1)=Za (seqObj "list" vs.toArray 0):=by
  rw[<-g];exact Ah _ rfl
 have keep:∀b o,s.heap.get? b=Za o->(((s.heap.push (seqObj "list" #[] 0)).update s.heap.objs.size (Obj.mapSeq (·++vs.toArray))).push (seqObj "list" vs.toArray 0)).get? b=Za o:=λb o q=>by
  have k:b<s.heap.objs.size:=Aj q;rw[Ir _ _ _ (by rw[g];exact Aw (Dq k)),Heap.get?_update_ne _ _ _ _ (Aw k),Ir _ _ _ (Aw k)];exact q
 show wpAny _ _ _ _ _ { s with heap:=((s.heap.push (seqObj "list" #[] 0)).update s.heap.objs.size (Obj.mapSeq (·++vs.toArray))).push (seqObj "list" vs.toArray 0) };rw[g];generalize ((s.heap.push (seqObj "list" #[] 0)).update s.heap.objs.size (Obj.mapSeq (·++vs.toArray))).push (seqObj "list" vs.toArray 0)=h3 at f keep ⊢;obtain⟨a,N⟩ : ∃a,a=s.heap.objs.size+1:=⟨_,rfl⟩;rw[<-N] at f ⊢;refine Aa (Bq (Iv slot_list_sort ⟨_,f,rfl⟩ entry_list_sort ?body (args_list_sort _)))
 case body =>
  refine zgg (s:={ s with heap:=h3 }) f K j λr h' c S pw ga kp=>⟨_,rfl,?_⟩;have L:∀x∈r,x.2=x.1/\∃n t,x.1=Ze.int n t:=λx G=>by
   obtain⟨M,J⟩:=zjl (S.mem_iff.mp G);obtain⟨i,hi,e⟩:=Ch.mp J;obtain⟨t,W⟩:=K.get i d[i] (Af #v[]);rw[Af hi,e] at W;exact⟨M,_,t,sI W⟩
  have U:(r.map λx=>(kN x.1).headD 0).Perm d:=by
   refine (S.map _).trans ?_;have:∀{vs:List Ze}{d:List Int},IntsAre vs d->(vs.zip vs).map (λx=>(kN x.1).headD 0)=d:=λ{vs d} h=>by
    induction h with
    |nil=>rfl
    |cons n t h Z=>rw[Bh,Ak,Z];rfl
   rw[this K]
  have ps:(r.map λx=>(kN x.1).headD 0).Pairwise (·<=·):=by
   rw[Db];refine pw.imp_of_mem λ{x y} G hy z=>?_;obtain⟨_,n,t,M⟩:=L x G;obtain⟨_,m,t',J⟩:=L y hy;rw[M,J] at z ⊢;have z:lexI [m] [n]=Zc:=z;rw[zf2] at z;have:=Gq z;show n<=m;omega
  have P:=zf1 U ps;have F:=zet L;rw[<-P] at F;refine Ac ⟨_,rfl,.ref a,_,I.laid (t':=s.toks) (o:=.lst ((zbt d).map V.int)) (λb o O=>kp b o (λz=>Cg _ (Nat.lt_trans (Aj O) (by rw[z,N];exact Nat.lt_succ_self _))) (keep b o O)) #v[] ?_,rfl,q a (I.hok.fresh #v[])⟩;exact⟨by rw[P,Ad,U.length_eq];omega,_,c,F,ga⟩
end
noncomputable def zdz:ON
 |[w]=>(seqW w).bind λa=>(zct a).bind λn=>#v[((zbt n).map W.int),2]
 |_=>Zb
theorem zc1 {K:Zg}{F:Hp}:∀a:List Int,Reps K F (a.map W.int) (a.map V.int)
 |[]=>.nil
 |n::a=>.cons (.int n) (zc1 a)
theorem zik {K:Zg}:OpSN K (λx H Q=>∃(l:Zh) (n:List Int),x=[.ref l]/\(SqL K H l (n.map V.int)\/SqT K H l (n.map V.int))/\∀p,H p=Zb->Q (.ref p) (upd H p (.lst ((zbt n).map V.int)))) zdz:=λF H b k m Q s r e q=>by
 match b,e with
 | [w],e =>
  nofun;obtain⟨b,f,e⟩:=bS (show (seqW _).bind _=_ from e);obtain⟨n,j,e⟩:=bS e;ac_rfl;obtain rfl:=sI e;nofun;obtain⟨v,g,h⟩:=r.one;obtain⟨a,u,d,c,p⟩:=h.seqW s f;ac_rfl;subst g d;rw[zcy j] at p;rw[p.ints] at c;exact⟨a,n,rfl,c,λl i=>q _ _ (.lst i (zc1 _))⟩
structure Sx where
 N:List Str
 kd:List (Str×NameKind)
 bn:List Str
 fs:List (Str×(List Bool×Fn))
 mp:List Nat
 top:Bool
 nm:Str := ""
 dp:Nat:=0
noncomputable def Sx.rd (S:Sx) (x:Str):Option Nat:=if x==("__debug__" : Str)||x==("__classdict__" : Str) then Zb else match S.kd.lookup x with
 |some .local=>S.N.findIdx? (· == x)
 |some .cell=>S.N.findIdx? (· == x)
 |some .free=>S.N.findIdx? (· == x)
 |_=>Zb
noncomputable def Sx.wr (S:Sx) (x:Str):Option Nat:=match S.kd.lookup x with
 |some .local=>S.N.findIdx? (· == x)
 |some .cell=>S.N.findIdx? (· == x)
 |_=>Zb
noncomputable def Sx.bl (S:Sx) (x:Str):Bool:=S.kd.lookup x==Za .globalImplicit&&S.bn.contains x
structure CxOk (X:Cx) (S:Sx) (d:Nat):Prop where
 N:X.N=S.N
 nd:S.N.Nodup
 loc:∀x,S.kd.lookup x=Za .local->X.env.scope.names.lookup x=Za .local
 cel:∀x,S.kd.lookup x=Za .cell->X.env.scope.names.lookup x=Za .cell/\X.fn x=Zd
 vis:∀x,S.kd.lookup x=Za .cell\/S.kd.lookup x=Za .free->X.env.scope.names.lookup x=Za .cell\/X.env.scope.names.lookup x=Za .free
 gl:∀x,S.kd.lookup x=Za .globalImplicit->Gl X x
 calm:X.calm=Zd
 xe:X.xe=λ_ _=>False
 bn:∀x∈S.bn,X.mg x=Zb
 fs:∀x m Φ,S.fs.lookup x=Za (m,Φ)->∃ps,ps.length=m.length/\Cal X.prog X.w X.K X.mg X.base d x ps (spF X.K m Φ)
 room:Room d X.A
 sl:X.A.units+16*d+205<cLine
 bk:X.env.blockKind=.function
 lam:S.nm∈lams->∃c P,PySem.W.tabIn X.K S.nm=Za (c,P)/\PySem.W.codeHdIn X.K c P=Zd/\X.env.code=.ref c/\X.env.qual=S.nm++".<locals>."
 dpo:S.dp<=d
theorem zgp {N:List Str}{x:Str}{i:Nat}(h:N.findIdx? (· == x)=Za i):N[i]?=Za x:=by
 obtain⟨b,a,_⟩:=Gw.mp h;rw[Af b];have:N[i]=x:=by simpa using a
 rw[this]
section
variable {X:Cx}{S:Sx}{d:Nat}
theorem zme (C:CxOk X S d){x:Str}{i:Nat}{pos:Pos}(h:S.rd x=Za i):PE X (.Name x pos) (tVar i):=by
 unfold Sx.rd at h;split at h
 ·exact noSome h
 ·rename_i z;rw[Ck,not_or,By,By] at z;split at h
  ·rename_i e;exact zqb (by rw[C.N];exact zgp h) (.inl (C.loc x e)) z.1 z.2
  ·rename_i e;exact zqb (by rw[C.N];exact zgp h) (.inr (C.vis x (.inl e))) z.1 z.2
  ·rename_i e;exact zqb (by rw[C.N];exact zgp h) (.inr (C.vis x (.inr e))) z.1 z.2
  ·exact noSome h
theorem zwq (C:CxOk X S d){x:Str}{i:Nat}(h:S.wr x=Za i):X.N[i]?=Za x/\Loc X.env.scope x/\(X.fn x=Zd\/X.env.scope.names.lookup x=Za .local):=by
 unfold Sx.wr at h;split at h
 ·rename_i e;exact⟨by rw[C.N];exact zgp h,.inl (C.loc x e),.inr (C.loc x e)⟩
 ·rename_i e;exact⟨by rw[C.N];exact zgp h,.inr (C.cel x e).1,.inl (C.cel x e).2⟩
 ·exact noSome h
theorem zed (C:CxOk X S d){x:Str}(h:S.bl x=Zd):Gl X x/\X.mg x=Zb:=by
 unfold Sx.bl at h;rw[Ae] at h;exact⟨C.gl x (by simpa using h.1),C.bn x (by simpa using h.2)⟩
theorem ndN (C:CxOk X S d):X.N.Nodup:=by rw[C.N];exact C.nd
end
noncomputable def zmw:Zi->Bool
 |.Set ..=>Zc
 |_=>Zd
noncomputable def zbz:Zi->Bool
 |.Slice ..=>Zc
 |_=>Zd
noncomputable def zhi:Zi->Bool
 |.ListComp ..=>Zc
 |.SetComp ..=>Zc
 |.DictComp ..=>Zc
 |_=>Zd
noncomputable def zqy:Zi->Bool
 |.UnaryOp .Not _ _=>Zc
 |.BoolOp ..=>Zc
 |.IfExp ..=>Zc
 |.Compare ..=>Zc
 |_=>Zd
theorem zvm {e:Zi}{env:Env}(h:zmw e=Zd):∀x,foldedSetIterable e env x=pure x:=by
 intro x;cases e<;>first|rfl|(cases h)
theorem zf6 {op:CmpOp}{e:Zi}(h:zmw e=Zd):behindInMarks op e=Zc:=by
 cases e<;>first|rfl|(cases h)
theorem zie {e:Zi}(h:zbz e=Zd):zt5 e:=λo i=>by
 cases e<;>first|rfl|(cases h)
theorem zpz {e:Zi}{t:Option Zi}{l:Nat}{env:Env}(h:zhi e=Zd):swapsWith e t l env=pure Zc:=by
 cases e<;>first|rfl|(cases h)
theorem zrh {e:Zi}{env:Env}(h:zqy e=Zd):∀w,isTrue e env w=(do let v <- w;standAt e.pos;holding [v] (truthy v)):=by
 intro w;cases e with
 |UnaryOp o _ _=>cases o<;>first|rfl|(cases h)
 |_=>first|rfl|(cases h)
theorem zjy {es:List Zi}{env:Env}{pos:Pos} (h:es.all zae=Zd):(backTo pos (starEach es env)).any (·.1)=Zc:=by
 induction es with
 |nil=>rfl
 | cons e es i =>
  rw[Bk,Ae] at h;rw[zag h.1];show (Zc||(backTo pos (starEach es env)).any (·.1))=Zc;rw[i h.2]
  rfl
noncomputable def cPow (i j:Int):Bool:=decide (0<=j)&&decide (j<=1000000)&&decide (i.natAbs<2^64)
noncomputable def cMul (i j:Int):Bool:=(decide (-(2^64)<i)&&decide (i<2^64))||(decide (-(2^64)<j)&&decide (j<2^64))
noncomputable def zre (i j:Int):Bool:=decide (Builtin.Int.intBits i<=2^20)&&decide (Builtin.Int.intBits j<=2^20)
noncomputable def cDiv (i j:Int):Bool:=decide (0<j)&&decide (j.natAbs.log2<9000)
noncomputable def yes2 (_ _:Int):Bool:=Zd
noncomputable def oAdd:O2:=oOr (oI yes2 λi j=>.int (i+j)) (oOr oCat (oOr zyx (oOr z3m zyd)))
noncomputable def oMult:O2:=oOr (oI cMul λi j=>.int (i*j)) (oOr (oI zre λi j=>.int (i*j)) oRep)
noncomputable def binO:Operator->Option O2
 |.Add=>Za oAdd
 |.Sub=>Za #v[0,0,0]
 |.Mult=>Za oMult
 |.FloorDiv=>Za #v[0,0,3]
 |.Mod=>Za #v[0,0,2]
 |.Pow=>Za (oI cPow λi j=>.int (i^j.toNat))
 |.LShift=>Za #v[0,0,1]
 |.RShift=>Za (oI (λ_ j=>decide (0<=j)) λi j=>.int (i/2^j.toNat))
 |.BitAnd=>Za (oI yes2 λi j=>.int (Builtin.bitAnd i j))
 |.BitOr=>Za (oI yes2 λi j=>.int (Builtin.bitOr i j))
 |.BitXor=>Za (oI yes2 λi j=>.int (Builtin.bitXor i j))
 |_=>Zb
theorem zur {i j:Int}(h:cPow i j=Zd):CPow i j:=by
 unfold cPow at h;rw[Ae,Ae] at h;exact⟨As h.1.1,As h.1.2,As h.2⟩
theorem z31 {i j:Int}(h:cMul i j=Zd):CMul i j:=by
 unfold cMul at h;rw[Ck,Ae,Ae] at h;rcases h with h|h
 ·exact .inl ⟨As h.1,As h.2⟩
 ·exact .inr ⟨As h.1,As h.2⟩
theorem zxo {i j:Int}(h:zre i j=Zd):z7u i j:=by
 unfold zre at h;rw[Ae] at h;exact⟨As h.1,As h.2⟩
theorem z3k {i j:Int}(h:cDiv i j=Zd):0<j/\j.natAbs.log2<9000:=by
 unfold cDiv at h;rw[Ae] at h;exact⟨As h.1,As h.2⟩
section
variable {X:Cx}
theorem z4y {op:Operator}{o:O2}(h:binO op=Za o):∃r,OpR X (binaryOp op) r/\OpS X.K r o:=by
 cases op with
 |Add=>obtain rfl:=sI h;exact⟨_,z58.or (z6d.or (z33.or (z4a.or zr3))),(zeb λ_ _ _=>.int _).or (z2k.or (zzy.or (zyp.or zzg)))⟩
 |Sub=>obtain rfl:=sI h;exact⟨_,z6t,zeb λ_ _ _=>.int _⟩
 |Mult=>obtain rfl:=sI h;exact⟨_,z5w.or (z20.or z8p),(znu (λ_ _=>z31) λ_ _ _=>.int _).or ((znu (λ_ _=>zxo) λ_ _ _=>.int _).or z42)⟩
 |FloorDiv=>obtain rfl:=sI h;exact⟨_,zxp,znu (λ_ _=>z3k) λ_ _ _=>.int _⟩
 |Mod=>obtain rfl:=sI h;exact⟨_,z83,znu (λ_ _=>As) λ_ _ _=>.int _⟩
 |Pow=>obtain rfl:=sI h;exact⟨_,z7c,znu (λ_ _=>zur) λ_ _ _=>.int _⟩
 |LShift=>obtain rfl:=sI h;exact⟨_,z5v,znu (λ_ _=>zur) λ_ _ _=>.int _⟩
 |RShift=>obtain rfl:=sI h;exact⟨_,z52,znu (λ_ _=>As) λ_ _ _=>.int _⟩
 |BitAnd=>obtain rfl:=sI h;exact⟨_,z7a,zeb λ_ _ _=>.int _⟩
 |BitOr=>obtain rfl:=sI h;exact⟨_,yay,zeb λ_ _ _=>.int _⟩
 |BitXor=>obtain rfl:=sI h;exact⟨_,z7d,zeb λ_ _ _=>.int _⟩
 |_=>exact noSome h
noncomputable def cmpO:CmpOp->Option O2
 |.Eq=>Za oEq
 |.NotEq=>Za oNe
 |.Lt=>Za (oI yes2 λi j=>.bl (decide (i<j)))
 |.LtE=>Za (oI yes2 λi j=>.bl (decide (i<=j)))
 |.Gt=>Za (oI yes2 λi j=>.bl (decide (j<i)))
 |.GtE=>Za (oI yes2 λi j=>.bl (decide (j<=i)))
 |.Is=>Za oIs
 |.In=>Za (oIn Zc)
 |.NotIn=>Za (oIn Zd)
 |_=>Zb
theorem z4l {k:Nat}(a:Room k X.A){op:CmpOp}{o:O2}(h:cmpO op=Za o):∃r,OpR X (compareOp op) r/\OpS X.K r o:=by
 cases op with
 |Eq=>obtain rfl:=sI h;exact⟨_,.or yae (z5o a),z89⟩
 |NotEq=>obtain rfl:=sI h;exact⟨_,.or z9l (z50 a),z6w⟩
 |Lt=>obtain rfl:=sI h;exact⟨_,z9g,zeb λ_ _ _=>.bl _⟩
 |LtE=>obtain rfl:=sI h;exact⟨_,yaf,zeb λ_ _ _=>.bl _⟩
 |Gt=>obtain rfl:=sI h;exact⟨_,z9f,zeb λ_ _ _=>.bl _⟩
 |GtE=>obtain rfl:=sI h;exact⟨_,z9x,zeb λ_ _ _=>.bl _⟩
 |Is=>obtain rfl:=sI h;exact⟨_,z84.or z7y,z8h⟩
 |In=>obtain rfl:=sI h;exact⟨_,zl1,zty Zc⟩
 |NotIn=>obtain rfl:=sI h;exact⟨_,zfq,zty Zd⟩
 |_=>exact noSome h
end
noncomputable def zaz (f:Sx->Zi->Option GE) (S:Sx) (e:Zi):Option GA:=match e with
 |.Name x _=>(S.rd x).bind λi=>Za (zaa i)
 |_=>(f S e).bind λg=>Za (gArg g)
noncomputable def asL (f:Zi->Option GA):List Zi->Option GAs
 |[]=>Za gA0
 |e::c=>if zae e then (f e).bind λa=>(asL f c).bind λb=>Za (gCns a b) else Zb
noncomputable def asM (f:Sx->Zi->Option GE) (S:Sx):List Zi->List Bool->Option GAs
 |[],[]=>Za gA0
 |e::d,b::m=>if zae e then (if b then zaz f S e else (f S e).bind λg=>Za (gArg g)).bind λa=>(asM f S d m).bind λc=>Za (gCns a c) else Zb
 |_,_=>Zb
noncomputable def zaw (f:Sx->Zi->Option GE):Prop:=∀X S d,CxOk X S d->∀e g,f S e=Za g->PE X e (tE X.K g)
noncomputable def zlx (f:Sx->Zi->Option GT):Prop:=∀X S d,CxOk X S d->∀e g,f S e=Za g->PT X e (tT X.K g)
section
variable {X:Cx}{S:Sx}{d:Nat}{f:Sx->Zi->Option GE}
theorem zah (H:zaw f)(C:CxOk X S d){e:Zi}{a:GA}(h:zaz f S e=Za a):PE X e (tA X.K a):=by
 unfold zaz at h;split at h
 ·obtain⟨i,b,h⟩:=bS h;obtain rfl:=sI h;exact (zme C b).wk λ_ _ _=>zv3
 ·obtain⟨g,c,h⟩:=bS h;obtain rfl:=sI h;exact (H X S d C _ _ c).wk λ_ _ _=>zjg
theorem zfr {f:Zi->Option GA} (H:∀e a,f e=Za a->PE X e (tA X.K a)):∀{b:List Zi}{c:GAs},asL f b=Za c->PA X b (tAs X.K c)/\b.all zae=Zd
 |[],_,h=>by obtain rfl:=sI h;exact⟨zdw.wk λ_ _ _=>zpb,rfl⟩
 | e::b,_,h=>by
  unfold asL at h;split at h
  ·rename_i z
   obtain⟨a,d,h⟩:=bS h;obtain⟨c,has,h⟩:=bS h;obtain rfl:=sI h;obtain⟨p,q⟩:=zfr H has;exact⟨(pac (H e a d) p z).wk λ_ _ _=>zpy,by rw[Bk,z,q];rfl⟩
  ·exact noSome h
theorem z1q (H:zaw f) (C:CxOk X S d):∀{i:List Zi}{m:List Bool}{j:GAs},asM f S i m=Za j->PA X i (tAs X.K j)/\i.all zae=Zd
 |[],[],_,h=>by obtain rfl:=sI h;exact⟨zdw.wk λ_ _ _=>zpb,rfl⟩
 | e::i,b::m,_,h=>by
  unfold asM at h;split at h
  ·rename_i z
   obtain ⟨a,c,h⟩:=bS h;obtain ⟨j,has,h⟩:=bS h;obtain rfl:=sI h;obtain ⟨p,q⟩:=z1q H C has;have k:PE X e (tA X.K a):=by
    cases b with
    |true=>exact zah H C (by simpa using c)
    | false =>
     obtain⟨g,l,c⟩:=bS (show (f S e).bind _=Za a from by simpa using c);obtain rfl:=sI c;exact (H X S d C _ _ l).wk λ_ _ _=>zjg
   exact⟨(pac k p z).wk λ_ _ _=>zpy,by rw[Bk,z,q];rfl⟩
  ·exact noSome h
 |[],_::_,_,h=>by exact noSome h
 |_::_,[],_,h=>by exact noSome h
end
noncomputable def cmpE (f:Sx->Zi->Option GE) (S:Sx) (a:Zi) (ops:List CmpOp) (c:List Zi):Option GE:=match ops,c with
 |[d],[b]=>if zmw b then (zaz f S a).bind λx=>(zaz f S b).bind λy=>(cmpO d).bind λo=>Za (gOp2 o x y) else Zb
 |_,_=>Zb
noncomputable def z49 (f:Zi->Option GE) (op:BoolOp):Zi->List Zi->Option GE
 |v,[]=>f v
 |v,u::c=>match op with|.And=>(f v).bind λa=>(z49 f op u c).bind λb=>Za (gAnd a b)|.Or=>Zb
noncomputable def z2l (f:Zi->Option GT) (op:BoolOp):Zi->List Zi->Option GT
 |v,[]=>f v
 |v,u::c=>(f v).bind λa=>(z2l f op u c).bind λb=>Za (match op with|.And=>zhx a b|.Or=>gOrT a b)
section
variable {X:Cx}{S:Sx}{d:Nat}{f:Sx->Zi->Option GE}
theorem z2g (H:zaw f)(C:CxOk X S d){a:Zi}{ops:List CmpOp}{c:List Zi}{g:GE}{pos:Pos}(h:cmpE f S a ops c=Za g):PE X (.Compare a ops c pos) (tE X.K g)/\PT X (.Compare a ops c pos) (tT X.K (zaj g)):=by
 unfold cmpE at h;split at h
 ·rename_i m b;split at h
  ·rename_i z;nofun;obtain⟨x,i,h⟩:=bS h;obtain⟨y,k,h⟩:=bS h;obtain⟨o,l,h⟩:=bS h;ac_rfl;obtain rfl:=sI h;obtain⟨r,e,j⟩:=z4l (X:=X) C.room l;exact⟨(zwf e (zah H C i) (zah H C k) (zf6 z)).wk λ_ _ _=>zco j,(zwh e (zah H C i) (zah H C k) (zf6 z)).wk λ_ _ _=>zhj λ_ _ _=>zco j⟩
  ·exact noSome h
 ·exact noSome h
theorem zqk {f:Zi->Option GE} (H:∀e g,f e=Za g->PE X e (tE X.K g)) {op:BoolOp}{pos:Pos}:∀{v:Zi}{c:List Zi}{g:GE},z49 f op v c=Za g->PE X (.BoolOp op (v::c) pos) (tE X.K g)
 |v,[],g,h=>z8k (H v g h)
 | v,u::j,g,h=>by
  cases op with
  | And =>
   obtain⟨a,d,h⟩:=bS h;obtain⟨b,i,h⟩:=bS h;obtain rfl:=sI h;exact (z6g (H v a d) (zqk H i)).wk λ_ _ _=>zz8
  |Or=>exact noSome h
theorem zjv {f:Zi->Option GT} (H:∀e g,f e=Za g->PT X e (tT X.K g)) {op:BoolOp}{pos:Pos}:∀{v:Zi}{d:List Zi}{g:GT},z2l f op v d=Za g->PW X (.BoolOp op (v::d) pos) (tT X.K g)
 | v,[],g,h=>by
  cases op with
  |And=>exact z3g (H v g h)
  |Or=>exact z7i (H v g h)
 | v,u::j,g,h=>by
  obtain⟨a,c,h⟩:=bS h;obtain⟨b,i,h⟩:=bS h;obtain rfl:=sI h;cases op with
  |And=>exact (z8j (H v a c) (zjv H i)).wk λ_ _ _=>zv8
  |Or=>exact (z90 (H v a c) (zjv H i)).wk λ_ _ _=>z0f
end
noncomputable def bltO (x:Str):Option ON :=
 if x==("len" : Str) then Za oLen else if x==("abs" : Str) then Za oAbs else if x==("int" : Str) then Za oInt else if x==("tuple" : Str) then Za za9 else if x==("all" : Str) then Za (oBl λbs=>bs.all id) else if x==("any" : Str) then Za (oBl λbs=>bs.any id)
 else Zb
section
variable {X:Cx}{S:Sx}{d:Nat}
set_option maxHeartbeats 4000000 in
theorem z2b (C:CxOk X S d){x:Str}{o:ON}{e:Zi}{es:List Zi}{t:TA}{p pos:Pos}(f:S.bl x=Zd)(h:bltO x=Za o)(b:PA X (e::es) t)(a:(e::es).all zae=Zd):∃r,PE X (.Call (.Name x p) (e::es) [] pos) (tCB r t)/\OpSN X.K r o:=by
 obtain⟨g,m⟩:=zed C f;rw[Bk,Ae] at a;have c:=zag (env:=X.env) (es:=es) a.1;have s:=zjy (env:=X.env) (pos:=pos) a.2;unfold bltO at h;split at h
 ·rename_i z;obtain rfl:=sI h;have e:=Bm z;subst e;exact⟨_,zcr zm4 g m z6o b #v[0,9] #v[0,9] c s,z1z⟩
 split at h
 ·rename_i z;obtain rfl:=sI h;have e:=Bm z;subst e;exact⟨_,zcr zzz g m z5r b #v[0,9] #v[0,9] c s,z11⟩
 split at h
 ·rename_i z;obtain rfl:=sI h;have e:=Bm z;subst e;exact⟨_,zem zu7 g m z03 b #v[0,9] #v[0,9] c s,z5d⟩
 split at h
 ·rename_i z;obtain rfl:=sI h;have e:=Bm z;subst e;exact⟨_,zem zi5 g m zpe b #v[0,9] #v[0,9] c s,zwx⟩
 split at h
 ·rename_i z;obtain rfl:=sI h;have e:=Bm z;subst e;exact⟨_,zcr (zyb C.calm) g m z8a b #v[0,9] #v[0,9] c s,z00⟩
 split at h
 ·rename_i z;obtain rfl:=sI h;have e:=Bm z;subst e;exact⟨_,zcr (zxx C.calm) g m z6q b #v[0,9] #v[0,9] c s,z00⟩
 exact noSome h
noncomputable def z4k (x:Str):Option ON:=if x==("sorted" : Str) then Za zdz else bltO x
theorem zxr (C:CxOk X S d){x:Str}{o:ON}{e:Zi}{es:List Zi}{t:TA}{p pos:Pos}(c:S.bl x=Zd)(h:z4k x=Za o)(b:PA X (e::es) t)(a:(e::es).all zae=Zd):∃r,PE X (.Call (.Name x p) (e::es) [] pos) (tCB r t)/\OpSN X.K r o:=by
 unfold z4k at h;split at h
 ·rename_i z;obtain rfl:=sI h;have e:=Bm z;subst e;obtain⟨g,m⟩:=zed C c;rw[Bk,Ae] at a;exact⟨_,zcr zit g m (show bootBuiltins "sorted" = Za (.builtin "sorted") from Eo) b #v[0,9] #v[0,9] (zag a.1) (zjy a.2),zik⟩
 ·exact z2b C c h b a
end
noncomputable def kdOf (x:Str):Option Kd:=if x==("int" : Str) then Za .int else if x==("bool" : Str) then Za .bool else if x==("str" : Str) then Za .str else if x==("tuple" : Str) then Za .tuple else if x==("list" : Str) then Za .list else Zb
theorem z2z {x:Str}{k:Kd}(h:kdOf x=Za k):bootBuiltins x=Za (.type k.nm)/\x≠("__name__" : Str)/\(x==("__debug__" : Str))=Zc:=by
 unfold kdOf at h;split at h
 ·rename_i z;obtain rfl:=sI h;have e:=Bm z;subst e;exact⟨z03,by decide,by decide⟩
 split at h
 ·rename_i z;obtain rfl:=sI h;have e:=Bm z;subst e;exact⟨z5h,by decide,by decide⟩
 split at h
 ·rename_i z;obtain rfl:=sI h;have e:=Bm z;subst e;exact⟨z6e,by decide,by decide⟩
 split at h
 ·rename_i z;obtain rfl:=sI h;have e:=Bm z;subst e;exact⟨zpe,by decide,by decide⟩
 split at h
 ·rename_i z;obtain rfl:=sI h;have e:=Bm z;subst e;exact⟨zvf,by decide,by decide⟩
 exact noSome h
noncomputable def ztj:Zi->Bool
 |.Call _ _ _ _=>Zd
 |_=>Zc
theorem zs4 {o:Zi}{a:Str}{env:Env}{w:Sem Ze}(h:ztj o=Zc):attributeBase o a env w=w:=by
 cases o<;>first|rfl|(cases h)
noncomputable def z4z (f:Sx->Zi->Option GE) (S:Sx) (o:Zi) (name:Str) (apos:Pos) (args:List Zi) (cpos:Pos):Option GE :=
 if !(apos.endLine==cpos.line)||ztj o then Zb else match args with
 | [e]=>if !zae e then Zb else match o with
  |.Name x _=>(S.rd x).bind λi=>(f S e).bind λg=>if name==("append" : Str) then Za (gApp i g) else Zb
  |_=>Zb
 |_=>Zb
theorem z48 {e:Zi}{env:Env}{cpos:Pos}(h:zae e=Zd):((backTo cpos (starEach [e] env)).all (λx=>!x.1)&&(backToKw cpos (keywordEach [] env)).all (λx=>x.1.isSome)&&decide (([e]:List Zi).length+([]:List Keyword).length+(if ([]:List Keyword).isEmpty then 0 else 1)<30))=Zd:=by
 rw[zag h];rfl
theorem z25 {e a:Zi}{env:Env}{cpos:Pos}(h:zae e=Zd)(h':zae a=Zd):((backTo cpos (starEach [e,a] env)).all (λx=>!x.1)&&(backToKw cpos (keywordEach [] env)).all (λx=>x.1.isSome)&&decide (([e,a]:List Zi).length+([]:List Keyword).length+(if ([]:List Keyword).isEmpty then 0 else 1)<30))=Zd:=by
 rw[zag h,zag h'];rfl
section
variable {X:Cx}{S:Sx}{d:Nat}{f:Sx->Zi->Option GE}
theorem zzt (H:zaw f)(C:CxOk X S d){o:Zi}{name:Str}{apos cpos:Pos}{args:List Zi}{g:GE}(h:z4z f S o name apos args cpos=Za g):PE X (.Call (.Attribute o name apos) args [] cpos) (tE X.K g):=by
 unfold z4z at h;split at h
 ·exact noSome h
 ·rename_i z;rw[Ck,not_or,By,By,Ea] at z;have c:=zs4 (a:=name) (env:=X.env) (w:=eval o X.env) z.2;split at h
  ·rename_i e;split at h
   ·exact noSome h
   ·rename_i y;rw[By,Ea] at y;split at h
    ·rename_i x m;obtain⟨i,b,h⟩:=bS h;obtain⟨k,l,h⟩:=bS h;have p:PA X [e] (zek (tE X.K k) tNil):=pac (H X S d C _ _ l) zdw y;split at h
     ·rename_i q;obtain rfl:=sI h;have j:=Bm q;subst j;exact (z9e PySem.F.plainAttrs_list PySem.F.slot_list_append PySem.F.type_list_append zko (zme C b) p c (z48 y) z.1 (zag y) rfl).wk λ_ _ _=>zxa
     ·exact noSome h
    ·exact noSome h
  ·exact noSome h
end
noncomputable def z2t (f:Sx->Zi->Option GE) (S:Sx) (x:Str) (args:List Zi):Option GE:=if x==("__debug__" : Str) then Zb else match args with
 |[]=>Zb
 | e::c=>match S.fs.lookup x with
  |some (m,Φ)=>if S.kd.lookup x==Za .globalImplicit then (asM f S (e::c) m).bind λb=>Za (zaf m Φ b) else Zb
  | none=>if x==("isinstance" : Str)&&S.bl x then (match e,c with
    |e,[.Name t _]=>if zae e&&S.bl t then (kdOf t).bind λk=>(zaz f S e).bind λa=>Za (gOp1 (oIsi k) a) else Zb
    |_,_=>Zb)
   else if S.bl x then (z4k x).bind λo=>(asL (zaz f S) (e::c)).bind λb=>Za (gOpN o b) else Zb
theorem z0b {X:Cx}{S:Sx}{d:Nat}{f:Sx->Zi->Option GE}(H:zaw f)(C:CxOk X S d){x:Str}{args:List Zi}{g:GE}{p pos:Pos}(h:z2t f S x args=Za g):PE X (.Call (.Name x p) args [] pos) (tE X.K g):=by
 unfold z2t at h;split at h
 ·exact noSome h
 ·rename_i b;rw[By] at b;split at h
  ·exact noSome h
  ·rename_i e Q;split at h
   ·rename_i m Φ l;split at h
    ·rename_i q;obtain⟨F,has,h⟩:=bS h;obtain rfl:=sI h;obtain⟨O,P,u⟩:=C.fs x m Φ l;obtain⟨c,s⟩:=z1q H C has;rw[Bk,Ae] at s;exact (z7q u C.room (C.gl x (by simpa using q)) c (Ag _) b (zag s.1) (zjy s.2)).wk λ_ _ _=>zth
    ·exact noSome h
   ·split at h
    ·rename_i n;rw[Ae] at n;have N:=Bm n.1;subst N;obtain⟨K,E⟩:=zed C n.2;split at h
     ·rename_i t pt;split at h
      ·rename_i z;rw[Ae] at z;obtain⟨k,A,h⟩:=bS h;obtain⟨a,j,h⟩:=bS h;obtain rfl:=sI h;obtain⟨G,w,D⟩:=z2z A;obtain⟨y,J⟩:=zed C z.2;have i:PE X (.Name t pt) (tC (.ty k.nm)):=z4u y J G rfl w D;have c:PA X [e,.Name t pt] (zek (tA X.K a) (zek (tC (.ty k.nm)) tNil)):=pac (zah H C j) (pac i zdw rfl) z.1;exact (zcr zz3 K E zj6 c #v[0,9] b (zag z.1) rfl).wk λ_ _ _=>zyq
      ·exact noSome h
     ·exact noSome h
    ·split at h
     ·rename_i M;obtain⟨o,B,h⟩:=bS h;obtain⟨F,has,h⟩:=bS h;obtain rfl:=sI h;obtain⟨c,s⟩:=zfr (λe a j=>zah H C j) has;obtain⟨r,I,L⟩:=zxr (pos:=pos) (p:=p) C M B c s;exact I.wk λ_ _ _=>zj3 L
     ·exact noSome h
noncomputable def dOn (S:Sx) (x:Str):Bool:=S.bn.contains (("d " : Str)++x)
noncomputable def z2i (S:Sx):Zi->Option Nat
 |.Name x _=>if dOn S x then S.rd x else Zb
 |_=>Zb
theorem zw9 {X:Cx}{S:Sx}{d:Nat}(C:CxOk X S d){e:Zi}{i:Nat}(h:z2i S e=Za i):PE X e (tVar i):=by
 unfold z2i at h;split at h
 ·split at h
  ·exact zme C h
  ·exact noSome h
 ·exact noSome h
noncomputable def znt (f:Sx->Zi->Option GE) (S:Sx) (t e:Zi):Option GL:=if !zmw e then Zb else match z2i S e with
 |some i=>Za (zo7 i)
 |none=>match e with
 | .Call (.Name x _) args [] _ =>
  if x==("range" : Str)&&S.bl x then (match args with
   |[a]=>if zae a then (asL (zaz f S) [a]).bind λd=>Za (zd3 d) else Zb
   |_=>Zb)
  else if x==("enumerate" : Str)&&S.bl x then (match args,t with
   |[a],.Tuple _ _ _=>if zae a then (f S a).bind λg=>Za (zl7 g) else Zb
   |_,_=>Zb)
  else if x==("reversed" : Str)&&S.bl x then (match args with
   |[a]=>if zae a then Zb else Zb
   |_=>Zb)
  else if x==("zip" : Str)&&S.bl x then (match args,t with
   |[a,b],.Tuple _ _ _=>if zae a&&zae b then (f S a).bind λg=>(f S b).bind λc=>Za (gZip g c) else Zb
   |_,_=>Zb)
  else (f S e).bind λg=>Za (za1 g)
 |_=>(f S e).bind λg=>Za (za1 g)
theorem zei {X:Cx}{S:Sx}{d:Nat}{f:Sx->Zi->Option GE}(H:zaw f)(C:CxOk X S d){t e:Zi}{g:GL}(h:znt f S t e=Za g):PI X t e (tI X.K g)/\∀x,foldedSetIterable e X.env x=pure x:=by
 unfold znt at h;split at h
 ·exact noSome h
 ·rename_i o;rw[By,Ea] at o;refine⟨?_,zvm o⟩;split at h
  ·rename_i i w;obtain rfl:=sI h;exact (z6s (zw9 C w)).wk λ_ _ _=>zto
  split at h
  ·rename_i x B args pc;split at h
   ·rename_i z;rw[Ae] at z;have j:=Bm z.1;subst j;obtain⟨k,m⟩:=zed C z.2;split at h
    ·rename_i a;split at h
     ·rename_i y;obtain⟨A,has,h⟩:=bS h;obtain rfl:=sI h;obtain⟨v,_⟩:=zfr (λe a q=>zah H C q) has;exact (zvo k m v (zag y)).wk λ_ _ _=>zv9
     ·exact noSome h
    ·exact noSome h
   ·split at h
    ·rename_i z;rw[Ae] at z;have j:=Bm z.1;subst j;obtain⟨k,m⟩:=zed C z.2;split at h
     ·rename_i a r u s;split at h
      ·rename_i y;obtain⟨n,c,h⟩:=bS h;obtain rfl:=sI h;exact (zy2 k m (pac (H X S d C _ _ c) zdw y) (zag y)).wk λ_ _ _=>zuh
      ·exact noSome h
     ·exact noSome h
    ·split at h
     ·rename_i z;rw[Ae] at z;have j:=Bm z.1;subst j;obtain⟨k,m⟩:=zed C z.2;split at h
      ·rename_i a;split at h
       ·rename_i y;exact noSome h
       ·exact noSome h
      ·exact noSome h
     ·split at h
      ·rename_i z;rw[Ae] at z;have j:=Bm z.1;subst j;obtain⟨k,m⟩:=zed C z.2;split at h
       ·rename_i a b r u s;split at h
        ·rename_i y;rw[Ae] at y;nofun;obtain⟨n,c,h⟩:=bS h;obtain⟨p,l,h⟩:=bS h;ac_rfl;obtain rfl:=sI h;exact (z5t k m (pac (H X S d C _ _ c) (pac (H X S d C _ _ l) zdw y.2) y.1) (by rw[zag y.1,zag y.2];rfl) (zag y.2)).wk λ_ _ _=>zyh
        ·exact noSome h
       ·exact noSome h
      ·obtain⟨n,c,h⟩:=bS h;obtain rfl:=sI h;exact (zt8 (H X S d C _ _ c)).wk λ_ _ _=>zg9
  ·obtain⟨n,c,h⟩:=bS h;obtain rfl:=sI h;exact (zt8 (H X S d C _ _ c)).wk λ_ _ _=>zg9
noncomputable def znz (S:Sx):List Zi->Option (List Nat)
 |[]=>Za []
 |.Name x _::e=>(S.wr x).bind λi=>(znz S e).bind λa=>Za (i::a)
 |_=>Zb
noncomputable def tgE (S:Sx):Zi->Option Tg
 |.Name x _=>(S.wr x).bind λi=>Za (.nm i)
 |.Tuple e _ _=>(znz S e).bind λa=>Za (.tp a)
 |_=>Zb
section
variable {X:Cx}{S:Sx}{d:Nat}
theorem zrj (C:CxOk X S d):∀(f:List Zi) {g:List Nat},znz S f=Za g->PGs X f (zqo g)/\(assignEach f X.env).length=g.length/\(assignEach f X.env).findIdx? (·.1)=Zb:=by
 intro f
 induction f with
 |nil=>intro g h;obtain rfl:=sI h;exact⟨z13,rfl,rfl⟩
 | cons e f k =>
  intro g h;obtain ⟨x,p,rfl⟩ : ∃x p,e=.Name x p:=by
   cases e with
   |Name x p=>exact⟨x,p,rfl⟩
   |_=>exact noSome h
  nofun;obtain⟨i,n,h⟩:=bS (show (S.wr x).bind _=_ from h);obtain⟨g,j,h⟩:=bS h;ac_rfl;obtain rfl:=sI h;nofun;obtain⟨a,b,c⟩:=k j;obtain⟨m,l,w⟩:=zwq C n;ac_rfl;refine⟨zx4 (zuj (ndN C) m l w) a rfl,congrArg (· + 1) b,?_⟩;show List.findIdx? (·.1) ((Zc,assign (.Name x p) X.env)::assignEach f X.env)=Zb;rw[List.findIdx?_cons,c]
  rfl
theorem zpr (C:CxOk X S d){e:Zi}{T:Tg}(h:tgE S e=Za T):PG X e (TGof X.K T):=by
 unfold tgE at h;split at h
 ·obtain⟨i,k,h⟩:=bS h;obtain rfl:=sI h;obtain⟨g,j,w⟩:=zwq C k;exact zuj (ndN C) g j w
 ·obtain⟨l,f,h⟩:=bS h;obtain rfl:=sI h;obtain⟨a,b,c⟩:=zrj C _ f;exact z19 C.calm a b c
 ·exact noSome h
end
noncomputable def z5e (te:GE):Fn:=zal [Zc] 1 (gRet te)
noncomputable def lamΦ (te:GE) (w:W):Option W:=(z5e te [w]).bind λp=>if p.1.length=1 then Za p.2.1 else Zb
noncomputable def zha (te:GE) (a:GA):GE:=λen=>(a en).bind λp=>(resA p.1 p.2).bind λw=>(seqL w).bind λb=>(mapO (lamΦ te) b).bind λk=>(zkk k b).bind λout=>Za (p.1,(.lst out,Zd))
theorem zl9 {scope:Scope}{env:Env} (h:(scope.names.all λp=>!(p.2==NameKind.free))=Zd):closureFor scope env=pure []:=by
 unfold closureFor;have go:∀(names:List (Str×NameKind)) (a:List (Str×Zh)),(names.all λp=>!(p.2==NameKind.free))=Zd->(forIn names a λ(p:Str×NameKind) a=>(if p.2==NameKind.free then do let c <- cellOf env p.1;pure (ForInStep.yield ((p.1,c)::a)) else pure (ForInStep.yield a):Sem (ForInStep (List (Str×Zh)))))=pure a:=by
  intro names
  induction names with
  |nil=>intro a _;rw[Fq]
  | cons p r i =>
   intro a h;rw[Bk,Ae] at h;rw[Ho];have e:(p.2==NameKind.free)=Zc:=by simpa using h.1
   simp only [e,Cu,Fa,Gn];exact i a h.2
 have:=go scope.names [] h;simpa using this
theorem z4t {P:Program}{w:World}{K:Zg}{m:Str->Option Ze}{base:Heap}{k:Nat}{f c':Zh}{qual:Str}{p:Arguments}{body:Zi}{scope:Scope}{pm ctv:Ze}{N ps:List Str}{A:Around}{outer:List Env}{s:Zf}{H:Hp}{us:List Ze}{vs:List V}{Q:VK}{E:XK}
  (j:s.heap.get? f=Za (PySem.W.kla_obj "<lambda>" qual p body scope [] pm c' ctv)) (c:s.heap.CodeRec (.ref c') qual) (S:FnScope N ps scope) (g:Room (k+1) A) (e0:Env0 P w K m base A outer s H)
  (M:bindArgs (PySem.W.kla_fn "<lambda>" qual p body scope [] pm (.ref c') ctv) ⟨us,[]⟩=pure (ps.zip us)) (r:Vals vs us) (z:vs.length=ps.length)
  (h:Room k (A.deeper (envOfC qual scope s.heap.objs.size f (.ref c')))->∃t,PE (cxOf CX0 P w K m base N qual scope f (.ref c') A outer s H E).nox body t/\t (start N vs) H Q) :
  codeAny (model P w) A (.call (.ref f) ⟨us,[]⟩) (CR CX0 outer P w H s Q E) s:=by
 have l:s.heap.NoLimit:=e0.mod.nolimit.keeps λb o e=>(e0.bs b o e).1;have a:∀y∈ps.zip us,scope.names.lookup y.1=Za .local\/(scope.names.lookup y.1=some .cell/\((cellsFrom (s.heap.objs.size+1) scope.names []).lookup y.1).isSome=true):=λ⟨n,v⟩ B=>by
  rcases S.par n (Ec B).1 with q|q
  ·exact .inl q
  ·exact .inr ⟨q,Gz _ _ _ (.inl q)⟩
 refine PySem.W.kla_callFunE g.depth j rfl S.co S.gen rfl c ?_;rw[M];refine Ac (wpAny_newFunctionEnv_cells S.kind a λenv D i x=>?_);subst D;refine⟨l.keeps x.toInCall.keep,PySem.W.kla_codeExpr ?_⟩;obtain⟨t,L,C⟩:=h (g.deeper _);have I:Inv (cxOf CX0 P w K m base N qual scope f (.ref c') A outer s H E) [] (start N vs) H i:=zlr S g.hd e0 z r x;refine Ct (L.nox [] i (start N vs) H Q I C) (λu F d=>?_) λe F d=>d;obtain⟨v,G,J,O,q⟩:=d;exact⟨v,G,J.os,J.bare,J.base,J.hok,O,q⟩
noncomputable def zgy (p:Arguments):Option Str:=match p.posonlyargs,p.args,p.vararg,p.kwonlyargs,p.kwarg,p.defaults,p.kw_defaults with
 |[],[a],Zb,[],Zb,[],[]=>Za a.arg
 |_,_,_,_,_,_,_=>Zb
theorem zyi {b:Arguments}{p:Str}(h:zgy b=Za p){qual:Str}{body:Zi}{scope:Scope}{pm ctv:Ze}{c':Zh}{u:Ze}:bindArgs (PySem.W.kla_fn "<lambda>" qual b body scope [] pm (.ref c') ctv) ⟨[u],[]⟩=pure ([p].zip [u]):=by
 nofun;obtain⟨n,m,v,s,r,o,l⟩:=b;ac_rfl;unfold zgy at h;split at h
 ·rename_i a i f q k j c g;simp only at i f q k j c g;subst i f q k j c g;obtain rfl:=sI h;have e:([(a.arg,u)]:List (Str×Ze)).lookup a.arg=Za u:=by simp [List.lookup]
  have d:seqItems? (Ze.none)=(pure Zb:Sem _):=rfl;unfold bindArgs;simp [e,d]
 ·exact noSome h
noncomputable def zoz (scope:Scope) (p:Str):Bool:=decide (scope.kind=.function) && !scope.isCoroutine && !scope.isGenerator&&decide (scope.names.lookup p=Za .local)&&(scope.names.all λq=>!(q.2==NameKind.free))
theorem zx6 {scope:Scope}{p:Str}(h:zoz scope p=Zd):FnScope [p] [p] scope:=by
 unfold zoz at h;simp only [Ae,Bool.not_eq_true',Ei] at h;obtain⟨⟨⟨⟨d,f⟩,a⟩,b⟩,c⟩:=h;refine⟨d,f,a,by simp,rfl,λx e=>.inl (by rw[Ao.mp e];exact b),λy g z=>?_⟩;have:=Bf.mp c y g;rw[z] at this;cases this
noncomputable def lamS (S:Sx) (scope:Scope) (p:Str):Sx:={ N:=[p],kd:=scope.names,bn:=S.bn,fs:=[],mp:=[],top:=Zd }
section
variable {X:Cx}{S:Sx}{d:Nat}
theorem zzb {fE:Sx->Zi->Option GE} (HE:zaw fE) {f c':Zh}{qual:Str}{a:Arguments}{body:Zi}{scope:Scope}{pm ctv:Ze}{p:Str}{te:GE} (o:zgy a=Za p) (hs:zoz scope p=Zd) (ht:fE (lamS S scope p) body=Za te) (l:∀x∈S.bn,X.mg x=Zb) (O:Room 1 X.A) :
  KCall X (.ref f) (lamΦ te) (λpins F=>(f,PySem.W.kla_obj "<lambda>" qual a body scope [] pm c' ctv)∈pins/\F c'=Za (.ext (zdb c' qual))) where
 mono:=λh o sm=>⟨o _ h.1,sm _ _ h.2⟩
 run:=λpins s σ H F pr en w k v u P I R rp ru D=>by
  have L:=zx6 hs;nofun;obtain⟨⟨c,r⟩,e1,n⟩:=bS D;ac_rfl;split at n
  ·rename_i J
   obtain rfl:=sI n;have Y:s.heap.CodeRec (.ref c') qual:=by
    nofun;obtain⟨φ,_,_⟩:=(show ObjOk X.prog X.w H s.heap c' (.ext (zdb c' qual)) from I.hok c' _ (R.sub _ _ P.2));obtain⟨oc,V,t,g1,T,g3⟩:=φ;ac_rfl;exact⟨c',oc,V,t,rfl,g1,T,g3⟩
   have U:=(I.pin _ (Ba _ P.1)).1;have bk:zao (zav [(Sum.inl w:W ⊕ Nat)]) en (zau [Zc] c)=en:=by
    unfold zao;apply Dl;intro i;rw[Fm];cases en[i]? with
    |none=>rfl
    |some x=>rfl
   have sp:spF X.K [Zc] (z5e te) [v] H (λd g=>∃b,Same F b/\Rel X.K b pr en σ g/\Rep X.K b r.1 d) E0:=by
    refine zoc (xs:=[.inl w]) (en':=en) (r:=r) R (.cons rp .nil) ?_ λb g d M R' y=>?_
    ·show (if (Zd&&Zd&&_)=Zd then _ else Zb)=_
     rw[if_pos (by rfl)];show ((z5e te) [w]).bind _=_;rw[e1];show (if c.length=1 then Za (zao (zav [(Sum.inl w:W ⊕ Nat)]) en (zau [Zc] c),r) else Zb)=_;rw[if_pos J,bk]
    ·refine aG λGg qG => ?_
     obtain⟨q,z,K,A⟩:=y.freeze R';ac_rfl;exact⟨q,M.trans z,K,A⟩
   refine wpAny_call (Es (z4t (N:=[p]) (ps:=[p]) (E:=E0) (Q:=λd g=>∃b,Same F b/\Rel X.K b pr en σ g/\Rep X.K b r.1 d) U Y L O I.env0 ?bind (.cons ru .nil) rfl λB=>?body) λres M j=>?_)
   case bind =>
    exact zyi o
   case body =>
    have rd:=zs7 (N:=[p]) sp;have C:CxOk (cxOf CX0 X.prog X.w X.K X.mg X.base [p] qual scope f (.ref c') X.A X.stack s H E0).nox (lamS S scope p) 0:={
     N:=rfl
     nd:=by show [p].Nodup;simp
     loc:=λx e=>e
     cel:=λx e=>⟨e,rfl⟩
     vis:=λx e=>e
     gl:=λx e=>e
     calm:=rfl
     xe:=rfl
     bn:=l
     fs:=λx m Φ e=>by exact noSome e
     room:=B
     sl:=by have:=O.un;show X.A.units+3+16*0+205<cLine;omega
     bk:=by
      show (if scope.kind.isAnnotationScope then ScopeKind.function else scope.kind)=.function;rw[L.kind];rfl
     lam:=λh=>absurd (show ("" : Str)∈lams from h) #v[0,0,7]
     dpo:=Bi _ }
    exact⟨_,HE _ _ _ C _ _ ht,zqh rd⟩
   cases res with
   |error e=>exact j.elim
   | ok fl =>
    cases fl with
    | ret u' =>
     nofun;obtain⟨d,g,I',G,b,s1,R1,Z⟩:=I.after j;ac_rfl;exact⟨d,b,g,I',s1,R1,G,Z⟩
    |next=>exact False.elim j
    |brk=>exact False.elim j
    |cont=>exact False.elim j
  ·exact noSome n
variable {pins:List (Zh × Obj)}{σ:St}{H F:Hp}{s:Zf}{pr:Prt}{en:En}
theorem zyv (C:CxOk X S d) (hn:S.nm∈lams) {g:Arguments}{body:Zi}{scope:Scope}{pos:Pos}{p:Str} (hp:zgy g=Za p) (hs:zoz scope p=Zd) (I:Inv X pins σ H s) (R:Rel X.K F pr en σ H) {Q:Ze->Zf->Prop}{E:Ze->Zf->Prop}
  (h:∀f j pm G s' K F',Inv X pins σ K s'->Same F F'->Rel X.K F' pr en σ K->s'.heap.get? f=Za (PySem.W.kla_obj "<lambda>" (lamQ S.nm) g body scope [] pm j G)->K f=Zb->Apart X pins f->F' j=Za (.ext (zdb j (lamQ S.nm)))->Q (.ref f) s') :
  wpAny (model X.prog X.w) X.A (eval (.Lambda g body scope pos) X.env) Q E s:=by
 refine aG λ_ qG=>?_;obtain ⟨c,P,ht,hc,ecd,eq⟩:=C.lam hn;obtain ⟨ps,t1,t2,t3,t4,t5⟩:=R.tb.2 S.nm hn c P ht;refine qG ?_;clear qG;have hcl:closureFor scope X.env=pure []:=zl9 (by unfold zoz at hs;simp only [Ae] at hs;exact hs.2);have hg:=I.mod.glob.keeps I.bk;have CH:PySem.W.CodeHd s.heap c P:=PySem.W.codeHd_of_K I.kIn hc;have hP:s.heap.get? P=Za (PySem.W.tabObj ps):=I.hok P _ t1;have hgP:mainGlobals≠P:=λz=>by
  nofun;obtain⟨o,es,ep,L,O,_⟩:=hg;ac_rfl;rw[z,hP] at L;obtain rfl:=sI L;cases O
 refine aG λ_ qG=>?_;obtain ⟨bm,ob,b1,b2,b3,b4,b5,b6⟩:=I.mod.bmn;refine qG ?_;clear qG;have T:=I.bk _ _ b3;have hbG:bm≠mainGlobals:=λz=>by
  nofun;obtain⟨o,es,ep,L,O,_⟩:=hg;ac_rfl;rw[z,L] at T;obtain rfl:=sI T;rw[O] at b6;cases b6
 have hbP:bm≠P:=λz=>by
  rw[z,hP] at T;obtain rfl:=sI T;cases b4
 have hbm:s.heap.BuiltinsAt X.mg P:=⟨bm,ob,b1,b2,hbG,hbP,T,b4,b5,b6⟩;have hdef:defaultsOf g X.env=([],[]):=by
  nofun;obtain⟨po,ar,va,ko,kd,ka,df⟩:=g;ac_rfl;unfold zgy at hp;split at hp
  ·rename_i a q1 q2 q3 q4 q5 q6 q7
   simp only at q1 q2 q3 q4 q5 q6 q7;subst q1 q2 q3 q4 q5 q6 q7
   rfl
  ·cases hp
 have eq':X.env.qual++"<lambda>" = lamQ S.nm:=by rw[eq];rfl
 refine PySem.W.kla_eval hdef ?_;rw[eq'];cases hf:codeAmong pos ps.toList with
 | some V =>
  obtain⟨j,rfl,hc'⟩:=t5 pos V hf;refine PySem.W.kla_makeFunctionHit hcl I.ok.glob hg ecd CH hP t4 hf hbm λG Z tk k hz=>?_;have k2:∀b o,s.heap.get? b=Za o->(Z.push (PySem.W.kla_obj "<lambda>" (lamQ S.nm) g body scope [] ((X.mg "__name__").getD .none) j G)).get? b=Za o:=λb o e=>Ab _ (k b o e);exact h Z.objs.size j _ G _ H F (I.kept k2) (.refl F) R (Ah _ rfl) (I.hok.fresh hz) (I.fpOk (H':=H) hz (I.hok.fresh hz)).apart hc'
 | none =>
  refine PySem.W.kla_makeFunction hcl I.ok.glob hg ecd CH hP t4 hf hgP hbm λj G Z tk hx hge hlt hrec htb=>?_;have W:H j=Zb:=I.hok.fresh hge;have nP:j≠P:=λz=>by rw[z,t1] at W;cases W
  obtain⟨N,U⟩ : ∃N,N=ps++#[rawInt pos.line,rawInt pos.col,.ref j]:=⟨_,rfl⟩;rw[<-U] at htb;have B:s.heap.objs.size<=Z.objs.size:=Nat.le_of_lt (Nat.lt_of_le_of_lt hge hlt);have Y:∀b,H b=Zb->b≠P:=λb e z=>by rw[z,t1] at e;cases e
  let fo:=PySem.W.kla_obj "<lambda>" (lamQ S.nm) g body scope [] ((X.mg "__name__").getD .none) j G
  have k2:∀b o,b≠P->s.heap.get? b=Za o->(Z.push fo).get? b=Za o:=λb o D e=>Ab _ (hx b o D e)
  let K:Hp:=upd (upd H P (.tbl N)) j (.ext (zdb j (lamQ S.nm)))
  have M:∀b,b≠P->b≠j->K b=H b:=λb h1 h2=>by show upd (upd H P _) j _ b=_;rw[upd_ne h2,upd_ne h1]
  have hHP:K P=Za (.tbl N):=by show upd (upd H P _) j _ P=_;rw[upd_ne nP.symm,upd_same]
  have hHc:K j=Za (.ext (zdb j (lamQ S.nm))):=upd_same;have nc:∀b o,s.heap.get? b=Za o->b≠j:=λb o e z=>by subst z;exact absurd (Aj e) (Nat.not_lt_of_le hge)
  have nH:∀b u,H b=Za u->b≠j:=λb u e z=>by rw[z,W] at e;cases e
  have J:∀b u,H b=Za u->(∀q,u≠.tbl q)->b≠P:=λb u e hu z=>by rw[z,t1] at e;obtain rfl:=sI e;exact hu _ rfl
  have I':Inv X pins σ K { s with heap:=Z.push fo,toks:=tk }:=by
   refine I.step (g':=s.gens) (d':=s.drawn) (ch:=[]) (λb D=>by cases D) (λb o _ _ _ e n=>k2 b o (Y b n) e) (λb o _ _ _ e n=>⟨o.slots,k2 b o (Y b n) e⟩) (λb u _ e n=>by rw [M b (Y b n) (nc b u e)];exact n)
    (λb u _ e=>?_) (λb xs e=>by rw[M b (J b _ e λ_ z=>by cases z) (nH b _ e)];exact e) (λb u xs e=>by rw[M b (J b _ e λ_ z=>by cases z) (nH b _ e)];exact e) (λb qs e=>?_) (λm hm=>?_) (λb u e=>?_) I.bare
   ·by_cases D:b=P
    ·subst D;exact⟨_,Ab _ htb⟩
    ·exact⟨u,k2 b u D e⟩
   ·by_cases D:b=P
    ·subst D
     rw[t1] at e;cases e;exact⟨#[rawInt pos.line,rawInt pos.col,.ref j],by rw[hHP,U]⟩
    ·exact⟨#[],by rw[M b D (nH b _ e),e];simp⟩
   ·refine aG λGg qG => ?_
    obtain⟨o,es,ep,ho,r⟩:=hm;ac_rfl;exact⟨o,es,ep,k2 _ o (Y _ I.free) ho,r⟩
   ·by_cases D:b=j
    ·subst D
     rw[hHc] at e;obtain rfl:=sI e;nofun;obtain⟨c2,oc,vs,t,e2,hoc,hd,hv⟩:=hrec;ac_rfl;cases e2;refine⟨⟨oc,vs,t,Ab _ hoc,hd,hv⟩,⟨oc,Ab _ hoc⟩,λh1 h2 ⟨oc,vs,t,L,O,g3⟩ kk=>⟨oc,vs,t,kk oc L,O,g3⟩⟩
    ·by_cases hb2:b=P
     ·subst hb2
      rw[hHP] at e;obtain rfl:=sI e;exact Ab _ htb
     ·rw [M b hb2 D] at e
      refine (I.hok b u e).stay (λc v hc q=>k2 c v ?_ q) (λc q=>by rw[M c (J c _ q λ_ z=>by cases z) (nH c _ q)];exact q) λc xs q=>by rw[M c (J c _ q λ_ z=>by cases z) (nH c _ q)];exact q
      rcases hc with z|z
      ·rw[z];exact hb2
      ·exact J c _ z λ_ y=>by cases y
  have fc:F j=Zb:=R.sub.free W;have sF:Same F (upd F j (.ext (zdb j (lamQ S.nm)))):=Same.new fc _;have R':Rel X.K (upd F j (.ext (zdb j (lamQ S.nm)))) pr en σ K:=by
   refine⟨R.len,λb u e=>?_,λi w e=>?_,λi w e=>?_,R.inj,λb o q=>?_,R.tb.1,λx hx' c0 P0 e0=>?_⟩
   ·by_cases D:b=j
    ·subst D;rw[upd_same] at e;rw[hHc];exact e
    ·rw [upd_ne D] at e
     have e':=R.sub _ _ e;rw[M b (λz=>by rw[z,t2] at e;cases e) D];exact e'
   ·obtain ⟨v,L,O⟩:=R.val i w e
    exact⟨v,L,O.mono sF⟩
   ·refine aG λGg qG => ?_
    obtain⟨a,o,w',L,O,g3,g4,g5⟩:=R.own i w e;ac_rfl;have na:a≠j:=nH a _ g3;exact⟨a,o,w',L,O,by rw[M a (J a _ g3 λ_ z=>by cases g5<;>cases z) na];exact g3,by rw[upd_ne na];exact g4,g5.mono sF⟩
   ·obtain ⟨L,O,g3⟩:=R.prt b o q
    have nb:b≠j:=nH b _ L;exact⟨by rw[M b (λz=>by subst z;exact t3 o q) nb];exact L,by rw[upd_ne nb];exact O,g3⟩
   ·refine aG λGg qG => ?_
    obtain⟨qs,u1,u2,u3,u4,u5⟩:=R.tb.2 x hx' c0 P0 e0;ac_rfl;by_cases hp0:P0=P
    ·subst hp0
     have ex:x=S.nm:=R.tb.1.1 x hx' S.nm hn c0 c P0 e0 ht;subst ex;rw[t1] at u1;cases u1;refine⟨N,hHP,by rw[upd_ne nP.symm];exact t2,t3,?_,λA V e2=>?_⟩
     ·rw [U]
      have:=TriplesOk_snoc pos.line pos.col (.ref j) ps.toList t4;simpa using this
     ·rw [U] at e2
      have e3:codeAmong A (ps.toList++[rawInt pos.line,rawInt pos.col,.ref j])=Za V:=by simpa using e2
      have gen:∀l:List Ze,TriplesOk l->codeAmong A (l++[rawInt pos.line,rawInt pos.col,.ref j])=Za V->codeAmong A l=Za V\/V=.ref j:=λl hl=>by
       fun_induction TriplesOk l with
       | case1 =>
        intro z;show _\/_
        right
        simp only [Hn,rawInt,codeAmong] at z;split at z
        ·exact (sI z).symm
        ·cases z
       | case2 a b c d e rest ih =>
        intro z;simp only [List.cons_append,codeAmong] at z ⊢;split at z
        ·rename_i q;rw[if_pos q];exact .inl z
        ·rename_i q;rw[if_neg q];exact ih hl z
       |case3=>exact hl.elim
      rcases gen ps.toList t4 e3 with z|z
      ·obtain ⟨c2,q1,q2⟩:=u5 A V z
       exact⟨c2,q1,sF _ _ q2⟩
      ·exact⟨j,z,upd_same⟩
    ·have np0:P0≠j:=nH P0 _ u1
     refine⟨qs,by rw[M P0 hp0 np0];exact u1,by rw[upd_ne np0];exact u2,u3,u4,λA V e2=>?_⟩;obtain⟨c2,q1,q2⟩:=u5 A V e2;exact⟨c2,q1,sF _ _ q2⟩
  have nf:K Z.objs.size=Zb:=by
   rw[M _ (λz=>?_) (Ej hlt)]
   ·exact I.hok.fresh B
   ·have:=I.hok.fresh B
    rw[z,t1] at this;cases this
  exact h Z.objs.size j _ G _ K _ I' sF R' (Ah _ rfl) nf (I.fpOk (H':=H) B (I.hok.fresh B)).apart upd_same
theorem zyf (h:Room 2 X.A):Room 1 X.inn.A:=⟨h.hd,by have:=h.dp;show X.A.depth+3*1+5<_;omega,by have:=h.un;show X.A.units+1+1+16*1+200<_;omega,h.gd⟩
theorem z0a {fE:Sx->Zi->Option GE} (HE:zaw fE) (C:CxOk X S d) {e:Zi}{a:GA} (ha:zaz fE S e=Za a) (B:zae e=Zd) {b:Arguments}{body:Zi}{scope:Scope}{n kpos px pos:Pos}{p:Str}{te:GE} (hn:S.nm∈lams) (h2:2<=S.dp) (Y:zgy b=Za p) (Z:zoz scope p=Zd) (ht:fE (lamS S scope p) body=Za te) (t:S.bl "sorted" = Zd) :
  PE X (.Call (.Name "sorted" px) [e] [⟨Za "key",.Lambda b body scope n,kpos⟩] pos) (tE X.K (zha te a)):=by
 intro pins s σ H Q I h;nofun;nofun;obtain⟨F,pr,en,en',r,R,c,q⟩:=h;obtain⟨⟨e1,x⟩,h1,c⟩:=bS c;obtain⟨w,hw,c⟩:=bS c;obtain⟨ws,G,c⟩:=bS c;obtain⟨ks,T,c⟩:=bS c;obtain⟨out,ho,c⟩:=bS c;ac_rfl;ac_rfl;cases c;obtain⟨gl,mn⟩:=zed C t;have hr:Room 2 X.A:=C.room.mono (Cf h2 C.dpo);have i:starEach [e] X.env=(Zc,eval e X.env)::starEach [] X.env:=by cases e<;>first|rfl|(cases B)
 refine Fh (zdu I gl mn (show bootBuiltins "sorted" = Za (.builtin "sorted") from Eo) ?_);refine PyProof.Rows.callWith_kw ?_ (by rw[i];rfl) (by rw[i];rfl);refine thn (zne (zah HE C ha) zdw i pos pins s σ H (λW A=>∃v j,W=[v]/\Same F j/\Rel X.K j pr e1 σ A/\ArgR X.K j σ x v) I ⟨F,pr,en,e1,x,R,h1,λj A v s1 P D=>⟨v,j,rfl,s1,P,D⟩⟩) λus s1 ⟨W,A,I1,U,v,j,K,O,P,D⟩=>?_;subst K;cases U with
 | cons ru U =>
  cases U;refine PyProof.Rows.kws_cons (zyv C hn Y Z I1 P λf J L g s2 H2 F2 I2 k R2 gf nf o gc=>PyProof.Rows.kws_nil ?_);have I3:Inv X ((f,PySem.W.kla_obj "<lambda>" (lamQ S.nm) b body scope [] L J g)::pins) σ H2 s2:=I2.pins_of λy m=>by
   rcases Ar.mp m with rfl|m
   ·exact⟨gf,nf,o.l,o.f,λv z=>by cases z⟩
   ·exact I2.pin y (Ba _ m)
  have rb:=(D.mono k).repB R2 hw;nofun;nofun;obtain⟨l,vvs,K,sq,V⟩:=rb.seqL R2.sub G;ac_rfl;ac_rfl;subst K;cases (show _=Ze.ref l from ru);refine thn (ziq (E:=X.xe) (Q:=Q) (zzb (X:=X.inn) (S:=S) (f:=f) (c':=J) (qual:=lamQ S.nm) (pm:=L) (ctv:=g) HE Y Z ht C.bn (zyf hr)) I3 ⟨Az,gc⟩ R2 sq V T ho (by have:=hr.un;omega) λF' M v s' R' y=>q F' M v (O.trans (k.trans s')) R' y) λu s' ⟨v,M,I',N,q'⟩=>⟨v,M,I'.pins_of λy m=>I'.pin y (Ba _ (Au _ m)),N,q'⟩
noncomputable def z28 (fE:Sx->Zi->Option GE) (S:Sx) (x:Str) (e:Zi) (key:Str) (b:Arguments) (body:Zi) (scope:Scope):Option GE :=
 if x==("sorted" : Str)&&key==("key" : Str)&&S.bl x&&zae e&&lams.contains S.nm&&decide (2<=S.dp) then (zgy b).bind λp=>if zoz scope p then (zaz fE S e).bind λa=>(fE (lamS S scope p) body).bind λt=>Za (zha t a) else Zb else Zb
theorem zz9 {fE:Sx->Zi->Option GE}(H:zaw fE)(C:CxOk X S d){x key:Str}{e:Zi}{b:Arguments}{body:Zi}{scope:Scope}{l kpos q pos:Pos}{g:GE}(h:z28 fE S x e key b body scope=Za g):PE X (.Call (.Name x q) [e] [⟨Za key,.Lambda b body scope l,kpos⟩] pos) (tE X.K g):=by
 unfold z28 at h;split at h
 ·rename_i z;simp only [Ae,Ei,List.contains_iff_mem] at z;nofun;obtain⟨⟨⟨⟨⟨f,r⟩,j⟩,o⟩,c⟩,i⟩:=z;ac_rfl;have t:=Bm f;have m:=Bm r;subst t m;obtain⟨p,n,h⟩:=bS h;split at h
  ·rename_i y;nofun;obtain⟨a,k,h⟩:=bS h;obtain⟨u,s,h⟩:=bS h;ac_rfl;obtain rfl:=sI h;exact z0a H C k o c i n y s j
  ·exact noSome h
 ·exact noSome h
end
section
variable {prog:Program}{w:World}{A:Around}{E:Ze->Zf->Prop}{s:Zf}
variable {I:Zh}{fp wr:List Zh}{n:Nat}{P:Nat->Ze->Prop}{St:Nat->Heap->Prop}{R:Result->Zf->Prop}
end
section
variable {X:Cx}{S:Sx}{d:Nat}
end
section
variable {X:Cx}
end
noncomputable def fnW (Φ:Fn) (w:W):Option W:=(Φ [w]).bind λp=>if p.1.length=1 then Za p.2.1 else Zb
noncomputable def zms (Φ:Fn) (a:GA):GE:=λen=>(a en).bind λp=>(resA p.1 p.2).bind λw=>(seqL w).bind λb=>(mapO (fnW Φ) b).bind λk=>(zkk k b).bind λout=>Za (p.1,(.lst out,Zd))
section
variable {X:Cx}{S:Sx}{d:Nat}
theorem zzj {n:Nat}{ps:List Str}{Φ:Fn}{f:Zh}{q:FuncData}(D:FnOk X.prog X.w X.K X.mg X.base CX0 n f q ps (spF X.K [Zc] Φ))(B:zlc X.K q ps [])(K:Room n X.A)(A:X.xe=λ_ _=>False):KCall X (.ref f) (fnW Φ) (λ_ _=>True) where
 mono:=λ_ _ _=>trivial
 run:=λpins s σ H F pr en w k v u _ I R J G l=>by
  nofun;obtain⟨⟨a,r⟩,M,e⟩:=bS l;ac_rfl;split at e
  ·rename_i o;obtain rfl:=sI e;have bk:zao (zav [(Sum.inl w:W ⊕ Nat)]) en (zau [Zc] a)=en:=by
    unfold zao;apply Dl;intro i;rw[Fm];cases en[i]? with
    |none=>rfl
    |some x=>rfl
   have O:spF X.K [Zc] Φ [v] H (λc d=>∃b,Same F b/\Rel X.K b pr en σ d/\Rep X.K b r.1 c) E0:=by
    refine zoc (xs:=[.inl w]) (en':=en) (r:=r) R (.cons J .nil) ?_ λb d c t N y=>?_
    ·show (if (Zd&&Zd&&_)=Zd then _ else Zb)=_;rw[if_pos (by rfl)];show (Φ [w]).bind _=_;rw[M];show (if a.length=1 then Za (zao (zav [(Sum.inl w:W ⊕ Nat)]) en (zau [Zc] a),r) else Zb)=_;rw[if_pos o,bk]
    ·refine aG λS qG => ?_;obtain⟨g,h,p,j⟩:=y.freeze N;ac_rfl;exact⟨g,t.trans h,p,j⟩
   have:=z1v (X:=X) (us:=[u]) (vs:=[v]) (dvs:=[]) D K B .nil z66 I (.cons G .nil) O;rw[A] at this;exact Ct this (λQ t ⟨c,d,L,m,b,E,P,C⟩=>⟨c,b,d,L,E,P,m,C⟩) λ_ _ z=>z
  ·exact noSome e
theorem zx7 {fE:Sx->Zi->Option GE} (HE:zaw fE) (C:CxOk X S d) {e:Zi}{a:GA} (W:zaz fE S e=Za a) (m:zae e=Zd) {y:Str}{Φ:Fn}{Z kpos px pos:Pos} (T:S.fs.lookup y=Za ([Zc],Φ)) (u:S.kd.lookup y=Za .globalImplicit) (t:(y==("__debug__" : Str))=Zc) (j:S.bl "sorted" = Zd) :
  PE X (.Call (.Name "sorted" px) [e] [⟨Za "key",.Name y Z,kpos⟩] pos) (tE X.K (zms Φ a)):=by
 intro pins s σ H Q I h;nofun;nofun;obtain⟨F,pr,en,en',r,R,b,q⟩:=h;obtain⟨⟨M,x⟩,h1,b⟩:=bS b;obtain⟨w,hw,b⟩:=bS b;obtain⟨ws,o,b⟩:=bS b;obtain⟨ks,A,b⟩:=bS b;obtain⟨out,P,b⟩:=bS b;ac_rfl;ac_rfl;cases b;nofun;obtain⟨N,mn⟩:=zed C j;obtain⟨ps,_,⟨f,fd,Y,B,kp,mf⟩⟩:=C.fs y _ _ T;ac_rfl;have c:starEach [e] X.env=(Zc,eval e X.env)::starEach [] X.env:=zag m;refine Fh (zdu I N mn (show bootBuiltins "sorted" = Za (.builtin "sorted") from Eo) ?_);refine PyProof.Rows.callWith_kw ?_ (by rw[c];rfl) (by rw[c];rfl);refine thn (zne (zah HE C W) zdw c pos pins s σ H (λK k=>∃v g,K=[v]/\Same F g/\Rel X.K g pr M σ k/\ArgR X.K g σ x v) I ⟨F,pr,en,M,x,R,h1,λg k v L i n=>⟨v,g,rfl,L,i,n⟩⟩) λus L ⟨K,k,J,D,v,g,p,z,i,n⟩=>?_;subst p;cases D with
 | cons ru D =>
  cases D;refine PyProof.Rows.kws_cons (zuy J (C.gl y u) mf (PyProof.Rows.kws_nil ?_) t);have V:=n.repB i hw;nofun;obtain⟨l,U,p,O,G⟩:=V.seqL i.sub o;ac_rfl;subst p;cases (show _=Ze.ref l from ru);have rm:Room d X.inn.A:=⟨C.room.hd,C.room.dp,by have:=C.sl;show X.A.units+1+1+16*d+200<cLine;omega,C.room.gd⟩;exact ziq (E:=X.xe) (Q:=Q) (Al:=λ_ _=>True) (zzj (X:=X.inn) Y B rm C.xe) J trivial i O G A P (by have:=C.sl;omega) λF' H' v s' R' y=>q F' H' v (z.trans s') R' y
noncomputable def zps (fE:Sx->Zi->Option GE) (S:Sx) (e:Zi) (y:Str):Option GE:=if zae e&&S.bl "sorted" && S.kd.lookup y==Za .globalImplicit && !(y==("__debug__" : Str)) then (match S.fs.lookup y with
 |some (m,Φ)=>if m==[Zc] then (zaz fE S e).bind λa=>Za (zms Φ a) else Zb
 |none=>Zb) else Zb
theorem zu0 {fE:Sx->Zi->Option GE}(H:zaw fE)(C:CxOk X S d){e:Zi}{y:Str}{g:GE}{i kpos p pos:Pos}(h:zps fE S e y=Za g):PE X (.Call (.Name "sorted" p) [e] [⟨Za "key",.Name y i,kpos⟩] pos) (tE X.K g):=by
 unfold zps at h;split at h
 ·rename_i z;simp only [Ae,Bool.not_eq_true',Hw] at z;nofun;obtain⟨⟨⟨f,c⟩,l⟩,k⟩:=z;ac_rfl;split at h
  ·rename_i m Φ j;split at h
   ·rename_i q;obtain⟨a,b,h⟩:=bS h;obtain rfl:=sI h;have n:m=[Zc]:=Bm q;subst n;exact zx7 H C b f j l k c
   ·exact noSome h
  ·exact noSome h
 ·exact noSome h
end
section
variable {K:Zg}{σ:St}{H:Hp}
end
noncomputable def zhy (x:Zi->Option GE) (X:Cx):Prop:=∀e g,x e=Za g->PE X e (tE X.K g)
section
variable {X:Cx}{S:Sx}{d:Nat}{fE:Sx->Zi->Option GE}
end
noncomputable def keyF:W->Option Key
 |.int i=>Za (.inl i)
 |.str s=>Za (.inr s)
 |_=>Zb
noncomputable def keysF:List W->Option (List Key)
 |[]=>Za []
 |w::a=>(keyF w).bind λk=>(keysF a).bind λb=>Za (k::b)
noncomputable def keyD:W->Option DKey
 |.tup a=>(keysF a).bind λb=>Za (.inr b)
 |w=>(keyF w).bind λk=>Za (.inl k)
noncomputable def KeyR (F:Hp):DKey->V->Prop
 |.inl k,v=>v=kV k
 |.inr a,v=>∃b,v=.ref b/\F b=Za (.tup (a.map kV))
section
variable {K:Zg}{F H:Hp}
theorem Rep.keyF {w:W}{v:V}{k:Key}(h:Rep K F w v)(e:keyF w=Za k):v=kV k:=by
 cases w with
 |int i=>obtain rfl:=sI e;exact h.isIt
 |str s=>obtain rfl:=sI e;cases h;rfl
 |_=>exact noSome e
theorem Reps.keysF:∀{w:List W}{v:List V}{a:List Key},Reps K F w v->keysF w=Za a->v=a.map kV
 |_,_,_,.nil,e=>by obtain rfl:=sI e;rfl
 | _,_,_,.cons h r,e=>by
  obtain⟨k,b,e⟩:=bS e;obtain⟨a,c,e⟩:=bS e;obtain rfl:=sI e;rw[h.keyF b,Reps.keysF r c];rfl
theorem Rep.keyD {w:W}{v:V}{k:DKey} (h:Rep K F w v) (e:keyD w=Za k):KeyR F k v:=by
 have flat:(L2.keyF w).bind (λk=>Za (Sum.inl k:DKey))=Za k->KeyR F k v:=λe=>by
  obtain⟨f,a,e⟩:=bS e;obtain rfl:=sI e;exact h.keyF a
 cases w with
 | tup b =>
  obtain⟨d,a,e⟩:=bS (show (L2.keysF b).bind _=_ from e);obtain rfl:=sI e;cases h with
  |tup c r=>exact⟨_,rfl,by rw[c,r.keysF a]⟩
 |_=>exact flat e
noncomputable def valW (kvs:List (DKey×W)) (k:DKey):Option W:=(kvs.find? λa=>decide (a.1=k)).map (·.2)
theorem zeq (p:DKey×W)(r:List (DKey×W))(k:DKey):valW (p::r) k=if p.1=k then Za p.2 else valW r k:=by
 unfold valW;rw[Ef];by_cases h:p.1=k
 ·rw[An h,if_pos h];rfl
 ·rw[Bc h,if_neg h]
theorem zkl {κ:Type} [DecidableEq κ] (p:κ×V)(r:List (κ×V))(k:κ):valV (p::r) k=if p.1=k then Za p.2 else valV r k:=by
 by_cases h:p.1=k
 ·rw[zgd h,if_pos h]
 ·rw[zfy h,if_neg h]
theorem zeu {κ:Type} [DecidableEq κ] {f:κ->DKey} (i:∀a b,f a=f b->a=b):∀{d:List κ}{g:List W}{c:List V}{k:κ}{w:W},d.length=c.length->Reps K F g c->valW ((d.map f).zip g) (f k)=Za w->∃v,valV (d.zip c) k=Za v/\Rep K F w v
 |[],_,_,_,_,_,_,e=>by simp [valW] at e
 |_::_,_,_,_,_,_,.nil,e=>by simp [valW] at e
 | j::d,m::g,n::c,k,w,l,.cons h r,e=>by
  rw[Ak,Bh,zeq] at e;rw[Bh,zkl];by_cases z:j=k
  ·subst z
   rw[if_pos rfl] at e ⊢;obtain rfl:=sI e;exact⟨_,rfl,h⟩
  ·rw [if_neg λq=>z (i _ _ q)] at e
   rw[if_neg z];exact zeu i (Fx l) r e
theorem zi2 {κ:Type} [DecidableEq κ] {f:κ->DKey} (g:∀a b,f a=f b->a=b):∀{c:List κ}{w:List W}{v:List V}{k:κ},c.length=v.length->Reps K F w v->valW ((c.map f).zip w) (f k)=Zb->valV (c.zip v) k=Zb
 |[],_,_,_,_,_,_=>rfl
 |_::_,_,_,_,d,.nil,_=>by simp at d
 | i::c,j::w,l::v,k,d,.cons h r,e=>by
  rw[Ak,Bh,zeq] at e;rw[Bh,zkl];by_cases z:i=k
  ·subst z;rw[if_pos rfl] at e;exact nomatch e
  ·rw [if_neg λq=>z (g _ _ q)] at e
   rw[if_neg z];exact zi2 g (Fx d) r e
theorem zc0 {κ:Type}{f:κ->DKey}{k:DKey} (h:∀a,f a≠k):∀{b:List κ}{w:List W},valW ((b.map f).zip w) k=Zb
 |[],_=>rfl
 |_::_,[]=>rfl
 | c::b,d::w=>by
  rw[Ak,Bh,zeq,if_neg (h c)];exact zc0 h
noncomputable def zcx {κ:Type} [DecidableEq κ] (ks:List κ) (k:κ):List κ:=if k∈ks then ks else ks++[k]
noncomputable def zc4 {κ α:Type} [DecidableEq κ] (ks:List κ) (vs:List α) (k:κ) (v:α):List α:=if k∈ks then List.zipWith (λa b=>if a=k then v else b) ks vs else vs++[v]
theorem zgx {κ:Type} [DecidableEq κ] {f:κ->DKey}(c:∀a b,f a=f b->a=b)(ks:List κ)(k:κ):zcx (ks.map f) (f k)=(zcx ks k).map f:=by
 have m:f k∈ks.map f↔k∈ks:=by
  rw[Bz];exact⟨λ⟨a,h,e⟩=>c _ _ e ▸ h,λh=>⟨k,h,rfl⟩⟩
 unfold zcx;by_cases h:k∈ks
 ·rw[if_pos h,if_pos (m.mpr h)]
 ·rw[if_neg h,if_neg (mt m.mp h),Bj];rfl
theorem zln {κ:Type} [DecidableEq κ] {f:κ->DKey} (l:∀a b,f a=f b->a=b) {k:κ}{w:W}{v:V} (h:Rep K F w v):∀{d:List κ}{j:List W}{i:List V},Reps K F j i->Reps K F (List.zipWith (λc g=>if c=f k then w else g) (d.map f) j) (List.zipWith (λc g=>if c=k then v else g) d i)
 |[],_,_,_=>.nil
 |_::_,_,_,.nil=>.nil
 | c::d,_,_,.cons q r=>by
  rw[Ak,Hd,Hd];refine .cons ?_ (zln l h r);by_cases z:c=k
  ·subst z;rw[if_pos rfl,if_pos rfl];exact h
  ·rw[if_neg z,if_neg λe=>z (l _ _ e)];exact q
theorem ze9 {κ:Type} [DecidableEq κ] {f:κ->DKey}(c:∀a b,f a=f b->a=b){k:κ}{w:W}{v:V}(h:Rep K F w v){ks:List κ}{ws:List W}{vs:List V}(r:Reps K F ws vs):Reps K F (zc4 (ks.map f) ws (f k) w) (zc4 ks vs k v):=by
 have m:f k∈ks.map f↔k∈ks:=by
  rw[Bz];exact⟨λ⟨a,h,e⟩=>c _ _ e ▸ h,λh=>⟨k,h,rfl⟩⟩
 unfold zc4;by_cases z:k∈ks
 ·rw[if_pos z,if_pos (m.mpr z)];exact zln c h r
 ·rw[if_neg z,if_neg (mt m.mp z)];exact r.append (.cons h .nil)
theorem zou {κ α:Type} [DecidableEq κ] {ks:List κ}{vs:List α}(h:ks.length=vs.length)(k:κ)(v:α):(zcx ks k).length=(zc4 ks vs k v).length:=by
 unfold zcx zc4;split
 ·rw[List.length_zipWith,h,Ew]
 ·rw[Ax,Ax,h];rfl
theorem zwp {κ:Type} [DecidableEq κ] (k:κ) (v:V):∀{a:List κ}{c:List V},(a.zip c).map (λd=>if d.1=k then (d.1,v) else d)=a.zip (List.zipWith (λb e=>if b=k then v else e) a c)
 |[],_=>rfl
 |_::_,[]=>rfl
 | b::a,e::c=>by
  rw[Bh,Ak,zwp k v,Hd,Bh];by_cases z:b=k
  ·rw[if_pos z,if_pos z]
  ·rw[if_neg z,if_neg z]
theorem zvt {κ:Type} [DecidableEq κ] (k:κ):∀{a:List κ}{v:List V},a.length=v.length->((a.zip v).any λc=>decide (c.1=k))=decide (k∈a)
 |[],_,_=>rfl
 |_::_,[],h=>by simp at h
 | b::a,d::v,h=>by
  rw[Bh,Cn,zvt k (Fx h)];by_cases z:b=k
  ·subst z;simp
  ·have : ¬ k=b:=λe=>z e.symm
   simp [z,this]
theorem zj5 {κ:Type} [DecidableEq κ] {ks:List κ}{vs:List V}(h:ks.length=vs.length)(k:κ)(v:V):putK (ks.zip vs) k v=(zcx ks k).zip (zc4 ks vs k v):=by
 unfold putK zcx zc4;rw[zvt k h];by_cases z:k∈ks
 ·rw[if_pos (An z),if_pos z,if_pos z,zwp]
 ·rw[if_neg (λq=>z (As q)),if_neg z,if_neg z,List.zip_append h];rfl
noncomputable def DctR (K:Zg) (F H:Hp) (a:Zh) (ks:List DKey) (ws:List W):Prop :=
 (∃(j:List Key) (v:List V),ks=j.map .inl/\H a=Za (.dK (j.zip v))/\j.length=v.length/\Reps K F ws v) \/
 ∃(j:List (List Key)) (v:List V),ks=j.map .inr/\H a=Za (.dT (j.zip v))/\j.length=v.length/\Reps K F ws v
theorem OwnR.dct' {ks:List DKey}{ws:List W}{o:HO}{a:Zh}(h:OwnR K F (.dct ks ws) o)(e:H a=Za o):DctR K F H a ks ws:=by
 generalize b:W.dct ks ws=w at h;cases h with
 |lst r=>cases b
 |dct c r=>cases b;exact .inl ⟨_,_,rfl,e,c,r⟩
 |dctT c r=>cases b;exact .inr ⟨_,_,rfl,e,c,r⟩
theorem RepB.dct {ks:List DKey}{ws:List W}{v:V}(s:Same F H)(r:RepB K F H (.dct ks ws) v):∃a,v=.ref a/\DctR K F H a ks ws:=by
 rcases r with r|⟨a,o,d,e,rfl,h,q⟩
 ·generalize c:W.dct ks ws=w at r;cases r with
  |dct h b r=>cases c;exact⟨_,rfl,.inl ⟨_,_,rfl,s _ _ h,b,r⟩⟩
  |dctT h b r=>cases c;exact⟨_,rfl,.inr ⟨_,_,rfl,s _ _ h,b,r⟩⟩
  |_=>cases c
 ·subst e;exact⟨a,rfl,q.dct' h⟩
noncomputable def DczR (K:Zg) (F H:Hp) (a:Zh) (ks:List DKey) (ws:List W):Prop :=
 (∃(j:List Key) (v:List V),ks=j.map .inl/\(∃o,H a=Za (.frz o (.dK (j.zip v))))/\j.length=v.length/\Reps K F ws v) \/
 ∃(j:List (List Key)) (v:List V),ks=j.map .inr/\(∃o,H a=Za (.frz o (.dT (j.zip v))))/\j.length=v.length/\Reps K F ws v
theorem RepB.dcz {ks:List DKey}{ws:List W}{v:V}(s:Same F H)(r:RepB K F H (.dcz ks ws) v):∃a,v=.ref a/\DczR K F H a ks ws:=by
 rcases r with r|⟨a,o,d,e,rfl,h,q⟩
 ·generalize c:W.dcz ks ws=w at r;cases r with
  |dcz h b r=>cases c;exact⟨_,rfl,.inl ⟨_,_,rfl,⟨_,s _ _ h⟩,b,r⟩⟩
  |dczT h b r=>cases c;exact⟨_,rfl,.inr ⟨_,_,rfl,⟨_,s _ _ h⟩,b,r⟩⟩
  |_=>cases c
 ·subst e;cases q
theorem zc5 (a b:Key)(h:(Sum.inl a:DKey)=.inl b):a=b:=Sum.inl.inj h
theorem zhc (a b:List Key)(h:(Sum.inr a:DKey)=.inr b):a=b:=Sum.inr.inj h
theorem DctR.get {a:Zh}{ks:List DKey}{ws:List W}{d:DKey}{y:V}{w:W} (s:Same F H) (h:DctR K F H a ks ws) (j:KeyR F d y) (e:valW (ks.zip ws) d=Za w):∃v,DGet H a y (Za v)/\Rep K F w v:=by
 rcases h with⟨l,m,rfl,h,g,r⟩|⟨l,m,rfl,h,g,r⟩
 ·cases d with
  | inl k =>
   obtain⟨v,c,i⟩:=zeu zc5 g r e;exact⟨v,.inl ⟨_,k,.inl h,j,c.symm⟩,i⟩
  |inr k=>rw[zc0 (f:=Sum.inl) (λa z=>by cases z)] at e;exact nomatch e
 ·cases d with
  |inl k=>rw[zc0 (f:=Sum.inr) (λa z=>by cases z)] at e;exact nomatch e
  | inr k =>
   obtain⟨v,c,i⟩:=zeu zhc g r e;obtain⟨b,o,n⟩:=j;exact⟨v,.inr ⟨_,k,b,.inl h,o,s _ _ n,c.symm⟩,i⟩
theorem DczR.get {a:Zh}{ks:List DKey}{ws:List W}{d:DKey}{y:V}{w:W} (s:Same F H) (h:DczR K F H a ks ws) (j:KeyR F d y) (e:valW (ks.zip ws) d=Za w):∃v,DGet H a y (Za v)/\Rep K F w v:=by
 rcases h with⟨l,m,rfl,h,g,r⟩|⟨l,m,rfl,h,g,r⟩
 ·cases d with
  | inl k =>
   obtain⟨v,c,i⟩:=zeu zc5 g r e;exact⟨v,.inl ⟨_,k,.inr h,j,c.symm⟩,i⟩
  |inr k=>rw[zc0 (f:=Sum.inl) (λa z=>by cases z)] at e;exact nomatch e
 ·cases d with
  |inl k=>rw[zc0 (f:=Sum.inr) (λa z=>by cases z)] at e;exact nomatch e
  | inr k =>
   obtain⟨v,c,i⟩:=zeu zhc g r e;obtain⟨b,o,n⟩:=j;exact⟨v,.inr ⟨_,k,b,.inr h,o,s _ _ n,c.symm⟩,i⟩
noncomputable def DNo (H:Hp) (a:Zh) (y:V):Prop:=DGet H a y Zb\/(H a=Za (.dK [])/\∃(b:Zh) (k:List Key),y=.ref b/\H b=Za (.tup (k.map kV)))\/(H a=Za (.dT [])/\∃k,y=kV k)
noncomputable def zhf (d:DKey) (ks:List DKey):Bool:=ks.all λk=>k.isLeft==d.isLeft
theorem DctR.no {a:Zh}{ks:List DKey}{ws:List W}{d:DKey}{y:V} (s:Same F H) (h:DctR K F H a ks ws) (g:KeyR F d y) (c:zhf d ks=Zd) (e:valW (ks.zip ws) d=Zb):DNo H a y:=by
 rcases h with⟨f,v,rfl,h,l,r⟩|⟨f,v,rfl,h,l,r⟩
 ·cases d with
  |inl k=>exact .inl (.inl ⟨_,k,.inl h,g,(zi2 zc5 l r e).symm⟩)
  | inr k =>
   cases f with
   |nil=>obtain⟨b,m,i⟩:=g;exact .inr (.inl ⟨h,b,k,m,s _ _ i⟩)
   |cons j f=>unfold zhf at c;rw[Ak,Bk,Ae] at c;exact nomatch c.1
 ·cases d with
  | inl k =>
   cases f with
   |nil=>exact .inr (.inr ⟨h,k,g⟩)
   |cons j f=>unfold zhf at c;rw[Ak,Bk,Ae] at c;exact nomatch c.1
  |inr k=>obtain⟨b,m,i⟩:=g;exact .inl (.inr ⟨_,k,b,.inl h,m,s _ _ i,(zi2 zhc l r e).symm⟩)
end
section
variable {X:Cx}{pins:List (Zh × Obj)}{σ:St}{H:Hp}{s:Zf}{a:Zh}
theorem zke {H:Hp}{a:Zh}{o c:HO}(e:H a=Za o):upd (upd H a c) a o=H:=by
 rw[znx]
 funext b
 by_cases h:b=a
 ·subst h;rw[upd_same,e]
 ·rw[upd_ne h]
theorem reT (I:Inv X pins σ H s)(e:H a=Za (.dK [])):Inv X pins σ (upd H a (.dT [])) s:=by
 obtain⟨z,g,v,r,o,b,i,c,j,d,n,h,m⟩:=z5b I.hok e;have k:v=[]:=Eu.mp r.length.symm;subst k;have f:b.toList=[]:=by
  generalize b.toList=l at h;cases h
  rfl
 exact zg3 (h':=s.heap) (t':=s.toks) I (by rw[e];exact True.intro) ⟨rfl,λ_ _=>rfl⟩ ⟨o,c⟩ ⟨Bi _,g,[],.nil,o,b,i,c,j,d,f,Fj⟩
theorem reK (I:Inv X pins σ H s)(e:H a=Za (.dT [])):Inv X pins σ (upd H a (.dK [])) s:=by
 obtain⟨z,g,x,r,o,b,i,d,j,f,c,k⟩:=(show ObjOk X.prog X.w H s.heap a (.dT []) from I.hok a _ e);cases r;have h:b=#[]:=by cases b;simp at c;rw[c]
 subst h;exact zg3 (h':=s.heap) (t':=s.toks) I (by rw[e];exact True.intro) ⟨rfl,λ_ _=>rfl⟩ ⟨o,d⟩ ⟨Bi _,g,[],.nil,o,#[],i,d,j,f,(λe h=>absurd h (by simp)),.nil,Fj⟩
end
noncomputable def rIxD:R2:=λx y H Q=>∃a v,x=.ref a/\DGet H a y (Za v)/\Q v H
theorem z2r {X:Cx}(d:X.A.units+1<cLine):IxR X rIxD:=by
 intro value b pins s σ H x y v u Q I i f h e;obtain⟨a,z,rfl,g,q⟩:=h;cases i;exact tail_any (ops:=[.ref a,u]) (zos I g) PySem.F.slot_dict_getitem.lookup (zsl d I g f λw j c r=>⟨z,H,c,r,q⟩) e
noncomputable def oIxD:O2:=λa k=>match a with
 |.dct b c=>(keyD k).bind λd=>(valW (b.zip c) d).bind λw=>#v[w,6]
 |.dcz b c=>(keyD k).bind λd=>(valW (b.zip c) d).bind λw=>#v[w,6]
 |a=>oIx a k
theorem RepB.key {K:Zg}{F H:Hp}{w:W}{v:V}{d:DKey}(r:RepB K F H w v)(e:keyD w=Za d):KeyR F d v:=by
 rcases r with r|⟨a,o,b,z,rfl,h,q⟩
 ·exact r.keyD e
 ·subst z;cases q<;>exact noSome e
theorem z5l {K:Zg}:OpS K (λx y H Q=>rIxB K x y H Q\/rIxD x y H Q) oIxD:=λF H j b l k o Q s r g e q=>by
 cases j with
 | dct m n =>
  nofun;obtain⟨d,h,e⟩:=bS (show (keyD b).bind _=_ from e);obtain⟨w,i,e⟩:=bS e;obtain rfl:=sI e;obtain⟨a,rfl,D⟩:=r.dct s;obtain⟨v,c,f⟩:=D.get s (g.key h) i;ac_rfl;exact .inr ⟨a,v,rfl,c,q _ _ (.val f)⟩
 | dcz m n =>
  nofun;obtain⟨d,h,e⟩:=bS (show (keyD b).bind _=_ from e);obtain⟨w,i,e⟩:=bS e;obtain rfl:=sI e;obtain⟨a,rfl,D⟩:=r.dcz s;obtain⟨v,c,f⟩:=D.get s (g.key h) i;ac_rfl;exact .inr ⟨a,v,rfl,c,q _ _ (.val f)⟩
 |_=>exact .inl (z1s F H _ b l k o Q s r g e q)
section
variable {K:Zg}{F H:Hp}{pr:Prt}{en:En}{σ:St}
theorem Rel.newOwn (R:Rel K F pr en σ H){p:Zh}(b:H p=Zb){w:W}{o:HO}(h:OwnR K F w o):Rel K F pr en σ (upd H p o)/\Res K F (upd H p o) pr en σ (w,Zd) (.ref p):=by
 refine⟨R.lay b o,p,o,w,rfl,rfl,upd_same,R.sub.free b,h,λi f e z=>?_,λq d j z=>?_⟩
 ·obtain⟨a,v,l,n,g,c,k,m⟩:=R.own i f e;rw[g] at z;cases z;rw[b] at c;exact noSome c
 ·have:=(R.prt q d j).1;rw[z,b] at this;exact noSome this
end
noncomputable def zyz:GE:=λen=>Za (en,(.dct [] [],Zd))
theorem zvq {K:Zg}{σ:St}{H:Hp}{Q:VK}(h:tE K zyz σ H Q):z1l σ H Q:=by
 obtain⟨F,pr,en,e,r,R,h,q⟩:=h;cases h;intro p a;obtain⟨b,y⟩:=R.newOwn a (w:=.dct [] []) (o:=.dK []) (.dct (ks:=[]) (vs:=[]) rfl .nil);exact q F _ _ (.refl F) b y
theorem z2q {X:Cx}{pins:List (Zh×Obj)}{σ:St}{H:Hp}{s:Zf}{a:Zh}{y d:V}{u r:Ze}{A:Around}{E:Ze->Zf->Prop}{Q:Ze->Zf->Prop} (f:A.units+1<cLine) (I:Inv X pins σ H s) (g:DNo H a y) (i:RelV y u) (rd:RelV d r) (h:∀w c,Inv X pins σ H c->RelV d w->Q w c) :
  wpAny (model X.prog X.w) A (call (.builtin "dict.get") [.ref a,u,r]) Q E s:=by
 rcases g with g|⟨e,b,k,rfl,l⟩|⟨e,k,rfl⟩
 ·exact d_get2 f I g i rd h
 ·have ne:b≠a:=λz=>by subst z;rw[e] at l;exact nomatch l
  refine d_get2 f (reT I e) (.inr ⟨[],k,b,.inl upd_same,rfl,by rw[upd_ne ne];exact l,rfl⟩) i rd λw c j m=>h w c ?_ m;have:=reK j upd_same
  rwa [zke e] at this
 ·refine d_get2 f (reK I e) (.inl ⟨[],k,.inl upd_same,rfl,rfl⟩) i rd λw c j m=>h w c ?_ m;have:=reT j upd_same
  rwa [zke e] at this
noncomputable def z1k (t ty e:TE):TE:=λσ H Q=>t σ H λx c=>∃a,x=.ref a/\IsD c a/\ty σ c λy d=>e σ d λz b=>(∃v,DGet b a y (Za v)/\Q v b)\/(DNo b a y/\Q z b)
theorem zzr {X:Cx}{o e f:Zi}{apos cpos:Pos}{t ty l:TE}(j:X.A.units+1<cLine)(w:PE X o t)(L:PE X e ty)(B:PE X f l)(m:M2 X o "get" apos e f cpos):PE X (.Call (.Attribute o "get" apos) [e,f] [] cpos) (z1k t ty l):=by
 intro pins s σ H Q I h;refine wpAny_Call_method m.base m.few m.line PySem.F.plainAttrs_dict PySem.F.slot_dict_get PySem.F.type_dict_get (thn (w pins s σ H _ I h) λu J ⟨x,C,c,R,a,P,d,F⟩=>?_);subst P;obtain rfl:u=Ze.ref a:=R;obtain⟨N,D,_⟩:=z8x c d;refine⟨N,D,?_⟩;rw[m.trees];refine Calls.callWith_builtin rfl (Calls.evalArgs_plain (Im (thn (L pins J σ C _ c F) λT O ⟨y,E,M,k,A⟩ =>
  Im (thn (B pins O σ E _ M A) λU S ⟨z,p,i,n,q⟩=>Iu ?_))))
 rcases q with⟨v,g,q⟩|⟨g,q⟩
 ·exact d_get2 j i g k n λG K b r=>⟨v,p,b,r,q⟩
 ·exact z2q j i g k n λG K b r=>⟨z,p,b,r,q⟩
noncomputable def zfa (i:Nat) (g g':GE):GE:=λen=>match en[i]? with
 | some (Za (.dct _ _,_))=>(g en).bind λp=>(g' p.1).bind λq=>(keyD p.2.1).bind λd=>match q.1[i]? with
  | some (Za (.dct k a,_))=>(match valW (k.zip a) d with
   |some w=>Za (q.1,(w,Zc))
   |none=>if zhf d k then Za (q.1,q.2) else Zb)
  |_=>Zb
 |_=>Zb
theorem Rel.repD {K:Zg}{F H:Hp}{pr:Prt}{en:En}{σ:St}(R:Rel K F pr en σ H){i:Nat}{ks:List DKey}{ws:List W}{f:Bool}(e:en[i]?=Za (Za (.dct ks ws,f))):∃a,σ[i]?=Za (Za (.ref a))/\DctR K F H a ks ws:=by
 obtain⟨v,h⟩:=R.has e;obtain⟨a,rfl,D⟩:=(R.repB e h).dct R.sub;exact⟨a,h,D⟩
theorem DctR.isD {K:Zg}{F H:Hp}{a:Zh}{ks:List DKey}{ws:List W}(h:DctR K F H a ks ws):IsD H a:=by
 rcases h with⟨j,v,_,h,_⟩|⟨j,v,_,h,_⟩
 ·exact .inl ⟨_,.inl h⟩
 ·exact .inr ⟨_,.inl h⟩
theorem Res.key {K:Zg}{F H:Hp}{pr:Prt}{en:En}{σ:St}{r:W×Bool}{v:V}{d:DKey}(h:Res K F H pr en σ r v)(e:keyD r.1=Za d):KeyR F d v:=by
 obtain⟨w,b⟩:=r;cases b with
 |false=>exact Rep.keyD h e
 |true=>obtain⟨a,o,c,z,_,_,_,q,_⟩:=h;subst z;cases q<;>exact noSome e
theorem KeyR.mono {F a:Hp}{d:DKey}{v:V}(s:Same F a)(h:KeyR F d v):KeyR a d v:=by
 cases d with
 |inl k=>exact h
 |inr k=>obtain⟨b,c,e⟩:=h;exact⟨b,c,s _ _ e⟩
theorem zw1 {K:Zg}{i:Nat}{g g':GE}{σ:St}{H:Hp}{Q:VK}(h:tE K (zfa i g g') σ H Q):z1k (tVar i) (tE K g) (tE K g') σ H Q:=by
 nofun;obtain⟨F,pr,en,B,r,R,h,q⟩:=h;ac_rfl;unfold zfa at h;split at h
 ·rename_i E I X c;nofun;obtain⟨a,k,A⟩:=R.repD c;obtain⟨⟨o,L⟩,J,h⟩:=bS h;obtain⟨⟨u,t⟩,S,h⟩:=bS h;obtain⟨d,z,h⟩:=bS h;ac_rfl;refine⟨.ref a,k,a,rfl,A.isD,F,pr,en,o,L,R,J,λM U G m P y=>⟨M,pr,o,u,t,P,S,λf l N s R2 C=>?_⟩⟩;have n:KeyR f d G:=(y.key z).mono s;split at h
  ·rename_i V Y W e;obtain⟨T,b,D⟩:=R2.repD e;rw[k] at b;cases b;split at h
   ·rename_i w j;cases h;obtain⟨v,O,p⟩:=D.get R2.sub n j;exact .inl ⟨v,O,q f l v (m.trans s) R2 p⟩
   ·rename_i j;split at h
    ·rename_i x;cases h;exact .inr ⟨D.no R2.sub n x j,q f l N (m.trans s) R2 C⟩
    ·exact noSome h
  ·exact noSome h
 ·exact noSome h
theorem zr5 {X:Cx}{pins:List (Zh×Obj)}{σ:St}{H:Hp}{s:Zf}{a:Zh}{y v:V}{u r:Ze}{A:Around}{E:Ze->Zf->Prop}{Q:Unit->Zf->Prop} (f:A.units+1<cLine) (I:Inv X pins σ H s)
  (g:(∃d,DPut H a y v d/\∀c,Inv X pins σ d c->Q () c)\/(H a=Za (.dK [])/\∃(b:Zh) (k:List Key),y=.ref b/\H b=Za (.tup (k.map kV))/\∀c,Inv X pins σ (upd H a (.dT (putK [] k v))) c->Q () c)\/(H a=Za (.dT [])/\∃k,y=kV k/\∀c,Inv X pins σ (upd H a (.dK (putK [] k v))) c->Q () c)) (i:RelV y u) (m:RelV v r) :
  wpAny (model X.prog X.w) A (setItem (.ref a) u r) Q E s:=by
 rcases g with⟨d,g,h⟩|⟨e,b,k,rfl,l,h⟩|⟨e,k,rfl,h⟩
 ·exact d_setItem f I g i m h
 ·have ne:b≠a:=λz=>by subst z;rw[e] at l;exact nomatch l
  refine d_setItem f (reT I e) (.inr ⟨[],k,b,upd_same,rfl,by rw[upd_ne ne];exact l,by rw[sizeLine_eq];decide,rfl⟩) i m λc j=>h c ?_
  rwa [znx] at j
 ·refine d_setItem f (reK I e) (.inl ⟨[],k,upd_same,rfl,by rw[sizeLine_eq];decide,rfl⟩) i m λc j=>h c ?_
  rwa [znx] at j
noncomputable def z64:V->V->V->Hp->(Hp->Prop)->Prop:=λo y v H Q=>∃a,o=.ref a/\((∃c,DPut H a y v c/\Q c)\/(H a=Za (.dK [])/\∃(b:Zh) (k:List Key),y=.ref b/\H b=Za (.tup (k.map kV))/\Q (upd H a (.dT (putK [] k v))))\/(H a=Za (.dT [])/\∃k,y=kV k/\Q (upd H a (.dK (putK [] k v)))))
theorem zyg {X:Cx}(l:X.A.units+1<cLine):PSet X z64:=by
 intro pins s σ H o i v t w u Q I r p n h;obtain⟨a,rfl,h⟩:=h;cases r;refine zr5 l I ?_ p n;rcases h with⟨f,g,q⟩|⟨e,b,k,d,m,q⟩|⟨e,k,d,q⟩
 ·exact .inl ⟨f,g,λj c=>⟨f,c,q⟩⟩
 ·exact .inr (.inl ⟨e,b,k,d,m,λj c=>⟨_,c,q⟩⟩)
 ·exact .inr (.inr ⟨e,k,d,λj c=>⟨_,c,q⟩⟩)
theorem PSet.or {X:Cx}{t t':TSet}(h:PSet X t)(h':PSet X t'):PSet X λo i v H Q=>t o i v H Q\/t' o i v H Q:=by
 intro pins s σ H o i v a b u Q I r d c q;rcases q with q|q
 ·exact h pins s σ H o i v a b u Q I r d c q
 ·exact h' pins s σ H o i v a b u Q I r d c q
noncomputable def zrg (i:Nat) (k:GE) (g:GE):GS:=λen=>(g en).bind λp=>match p.1[i]? with
 | some (Za _)=>(k p.1).bind λq=>match q.1[i]? with
  |some (#v[w,2])=>(intW q.2.1).bind λn=>(ixN w.length n).bind λj=>Za (q.1.set i (#v[(w.set j p.2.1),2]),.nx)
  |some (Za (.dct a w,Zd))=>(keyD q.2.1).bind λd=>if zhf d a&&decide (a.length<sizeLine) then Za (q.1.set i (Za (.dct (zcx a d) (zc4 a w d p.2.1),Zd)),.nx) else Zb
  |_=>Zb
 |_=>Zb
theorem zww {K:Zg}{mp:List Nat}{D:Ends}{σ:St}{H:Hp}{i:Nat}{k g:GE} (h:tS K mp (zrg i k g) D σ H):tAsg (tE K g) (gSub (tVar i) (tE K k) (λo i v H Q=>z3o o i v H Q\/z64 o i v H Q)) D σ H:=by
 obtain⟨F,pr,en,en',fl,R,h,q⟩:=h;obtain⟨⟨W,r1⟩,h1,h⟩:=bS h;refine⟨F,pr,en,W,r1,R,h1,λF1 H1 U t R1 y1=>?_⟩;obtain⟨F2,y,R2,x⟩:=y1.freeze R1;split at h
 ·rename_i x0 E
  obtain⟨⟨Z,M⟩,h2,h⟩:=bS h;obtain⟨w0,f0⟩:=x0;obtain⟨v0,c⟩:=R2.has E;refine⟨v0,c,F2,pr,W,Z,M,R2,h2,λw H3 v2 s l T=>?_⟩;split at h
  ·rename_i ws e
   obtain ⟨n,O,h⟩:=bS h;obtain ⟨j,Y,h⟩:=bS h;cases h;obtain ⟨V,f2⟩:=M;have ew:V=.int n:=by
    cases V with
    |int j=>obtain rfl:=sI O;rfl
    |_=>exact noSome O
   subst ew;obtain⟨a,p,ws',q1,L,X,q4,P⟩:=l.ownL e;cases q1;rw[c] at L;cases L;refine .inl ⟨a,p,n,j,rfl,T.isInt,X,by rw[<-P.length];exact Y,?_⟩;exact q w σ _ (t.trans (y.trans s)) (l.change e c (P.set (x.mono s) j)) (.refl _ _)
  ·rename_i S ws e
   obtain⟨d,hd,h⟩:=bS h;split at h
   ·rename_i z
    rw[Ae] at z;have C:=As z.2;cases h;have B:=T.key hd;obtain⟨a,N,D⟩:=l.repD e;rw[c] at N;cases N;refine .inr ⟨a,rfl,?_⟩;rcases D with⟨u,p,rfl,A,f,r⟩|⟨u,p,rfl,A,f,r⟩
    ·cases d with
     | inl k =>
      refine .inl ⟨_,.inl ⟨_,k,A,B,by rw[List.length_zip,<-f,Ew];rw[Ad] at C;exact C,rfl⟩,?_⟩;rw[zj5 f];rw[zgx zc5] at q;exact q w σ _ (t.trans (y.trans s)) (l.changeO e c (.dct (zou f _ _) (ze9 zc5 (x.mono s) r))) (.refl _ _)
     | inr k =>
      cases u with
      |cons j u=>have m:=z.1;unfold zhf at m;rw[Ak,Bk,Ae] at m;exact nomatch m.1
      | nil =>
       have G:p=[]:=Eu.mp f.symm;subst G;obtain⟨b,J,I⟩:=B;refine .inr (.inl ⟨A,b,k,J,l.sub _ _ I,?_⟩);cases r;exact q w σ _ (t.trans (y.trans s)) (l.changeO e c (.dctT (ks:=[k]) (vs:=[U]) rfl (.cons (x.mono s) .nil))) (.refl _ _)
    ·cases d with
     | inr k =>
      obtain⟨b,J,I⟩:=B;refine .inl ⟨_,.inr ⟨_,k,b,A,J,l.sub _ _ I,by rw[List.length_zip,<-f,Ew];rw[Ad] at C;exact C,rfl⟩,?_⟩;rw[zj5 f];rw[zgx zhc] at q;exact q w σ _ (t.trans (y.trans s)) (l.changeO e c (.dctT (zou f _ _) (ze9 zhc (x.mono s) r))) (.refl _ _)
     | inl k =>
      cases u with
      |cons j u=>have m:=z.1;unfold zhf at m;rw[Ak,Bk,Ae] at m;exact nomatch m.1
      | nil =>
       have G:p=[]:=Eu.mp f.symm;subst G;refine .inr (.inr ⟨A,k,B,?_⟩);cases r;exact q w σ _ (t.trans (y.trans s)) (l.changeO e c (.dct (ks:=[k]) (vs:=[U]) rfl (.cons (x.mono s) .nil))) (.refl _ _)
   ·exact noSome h
  ·exact noSome h
 ·exact noSome h
theorem zcz {P:Nat->Ze->Prop}{a:Array Ze}{n:Nat}(h:ItemsOf P a n):a.toList.length=n/\∀(j:Nat) (v:Ze),a.toList[j]?=Za v->P j v :=
 ⟨by rw[Ay];exact h.1,λj v e=>h.2 j v (by rw[<-Cd];exact e)⟩
noncomputable def z09:List V->Hp->VK->Prop:=λx H Q=>∃(p:Zh) (kvs:List (Key×V)),x=[.ref p]/\(H p=Za (.dK kvs)\/(H p=Za (.dT [])/\kvs=[]))/\∀l,H l=Zb->Q (.ref l) (upd H l (.lst (kvs.map λp=>kV p.1)))
section
variable {X:Cx}
theorem call_listK (h:X.calm=Zd){pins:List (Zh×Obj)}{s:Zf}{σ:St}{H:Hp}{Q:Ze->Zf->Prop}{p:Zh}{kvs:List (Key×V)}(I:Inv X pins σ H s)(i:H p=Za (.dK kvs))(q:∀l b,H l=Zb->Inv X pins σ (upd H l (.lst (kvs.map λp=>kV p.1))) b->Q (.ref l) b):wpAny (model X.prog X.w) X.A (call (.type "list") [.ref p]) Q X.xe s:=by
 obtain⟨z,j,f,r,n⟩:=z5b I.hok i;obtain⟨e,u⟩:=n.dictAt;refine PySem.W.kdl_call (PySem.W.kdl_dict (knd:=zak X.prog X.w) (kvs:=f) (ep:=e) j) (I.ok.hd h) u (by rw[<-r.length];exact z) λy t a c k w m=>?_;obtain⟨x,g⟩:=zcz m;have d:=zjr x g;rw[<-zok r] at d;exact q _ _ (I.hok.fresh (Ag _)) (I.laid (t':=t) (o:=.lst (kvs.map λp=>kV p.1)) k (Ag _) ⟨by rw[Ad];exact z,a.toList,c,d,by rw[Hk];exact w⟩)
theorem zyt {H:Hp}{a b:Zh}{o u:HO}(ne:a≠b):upd (upd H a o) b u=upd (upd H b u) a o:=by
 funext c
 by_cases h:c=a
 ·subst h;rw[upd_ne ne,upd_same,upd_same]
 ·by_cases k:c=b
  ·subst k;rw[upd_same,upd_ne h,upd_same]
  ·rw[upd_ne k,upd_ne h,upd_ne h,upd_ne k]
theorem zrx (e:X.calm=Zd):zcw X (.type "list") z09:=by
 intro pins s σ H x j Q I r h;obtain⟨p,kvs,rfl,b,q⟩:=h;obtain⟨u,rfl,i⟩:=vals1 r;cases i;rcases b with b|⟨b,rfl⟩
 ·exact call_listK e I b λl g c d=>⟨.ref l,_,d,rfl,q l c⟩
 ·refine call_listK e (reK I b) upd_same λl g c d => ?_;have ne:l≠p:=λz=>by subst z;rw[upd_same] at c;exact nomatch c
  rw[upd_ne ne] at c;have f:=reT (a:=p) d (by rw[upd_ne (Ne.symm ne),upd_same]);rw[zyt ne,zke b] at f;exact⟨.ref l,_,f,rfl,q l c⟩
end
noncomputable def keyV:DKey->Option W
 |.inl (.inl i)=>Za (.int i)
 |.inl (.inr s)=>Za (.str s)
 |.inr _=>Zb
noncomputable def zmz:List DKey->Option (List W)
 |[]=>Za []
 |k::a=>(keyV k).bind λw=>(zmz a).bind λb=>Za (w::b)
theorem zfw {K:Zg}{F:Hp}:∀{a:List DKey}{b:List W},zmz a=Za b->∃j:List Key,a=j.map .inl/\Reps K F b (j.map kV)
 |[],_,e=>by obtain rfl:=sI e;exact⟨[],rfl,.nil⟩
 | k::a,_,e=>by
  obtain⟨w,h,e⟩:=bS e;obtain⟨b,c,e⟩:=bS e;obtain rfl:=sI e;obtain⟨j,rfl,r⟩:=zfw c
  match k,h with
  |.inl (.inl i),h=>obtain rfl:=sI h;exact⟨.inl i::j,rfl,.cons (.int i) r⟩
  |.inl (.inr s),h=>obtain rfl:=sI h;exact⟨.inr s::j,rfl,.cons (.str s) r⟩
  |.inr _,h=>exact noSome h
theorem zoa {as bs:List Key}(h:as.map (Sum.inl:Key->DKey)=bs.map .inl):as=bs:=List.map_inj_right (λa b=>zc5 a b) |>.mp h
theorem zf0:∀{a:List Key}{b:List V},a.length=b.length->((a.zip b).map λp=>kV p.1)=a.map kV
 |[],_,_=>rfl
 |_::_,[],h=>nomatch h
 | j::a,v::b,h=>by
  rw[Bh,Ak,Ak,zf0 (Fx h)]
noncomputable def zgi:ON
 |[.dct k _]=>(zmz k).bind λw=>#v[w,2]
 |w=>z6x w
theorem DctR.dK {K:Zg}{F H:Hp}{a:Zh}{js:List Key}{ws:List W} (d:js≠[]) (D:DctR K F H a (js.map .inl) ws):∃v,H a=Za (.dK (js.zip v))/\js.length=v.length:=by
 rcases D with⟨b,v,e,h,c,_⟩|⟨b,v,e,h,c,_⟩
 ·obtain rfl:=zoa e;exact⟨v,h,c⟩
 ·cases js with
  |nil=>exact absurd rfl d
  | cons j js=>cases b with
   |nil=>exact nomatch e
   |cons f b=>rw[Ak,Ak] at e;exact nomatch (Ik e).1
theorem DctR.dK0 {K:Zg}{F H:Hp}{a:Zh}{js:List Key}{ws:List W} (D:DctR K F H a (js.map .inl) ws):∃kvs:List (Key×V),(H a=Za (.dK kvs)\/(H a=Za (.dT [])/\kvs=[]))/\(kvs.map λp=>kV p.1)=js.map kV:=by
 rcases D with⟨b,v,e,h,c,_⟩|⟨b,v,e,h,c,_⟩
 ·obtain rfl:=zoa e;exact⟨_,.inl h,zf0 c⟩
 ·cases js with
  | nil =>
   cases b with
   |nil=>exact⟨[],.inr ⟨h,rfl⟩,rfl⟩
   |cons d b=>exact nomatch e
  | cons j js=>cases b with
   |nil=>exact nomatch e
   |cons d b=>rw[Ak,Ak] at e;exact nomatch (Ik e).1
theorem DczR.dK {K:Zg}{F H:Hp}{a:Zh}{js:List Key}{ws:List W} (d:js≠[]) (D:DczR K F H a (js.map .inl) ws):∃v,(∃o,H a=Za (.frz o (.dK (js.zip v))))/\js.length=v.length:=by
 rcases D with⟨b,v,e,h,c,_⟩|⟨b,v,e,h,c,_⟩
 ·obtain rfl:=zoa e;exact⟨v,h,c⟩
 ·cases js with
  |nil=>exact absurd rfl d
  | cons j js=>cases b with
   |nil=>exact nomatch e
   |cons f b=>rw[Ak,Ak] at e;exact nomatch (Ik e).1
theorem zta {K:Zg}:OpSN K (λx H Q=>(∃p y,x=[.ref p]/\(SqL K H p y\/SqT K H p y)/\∀l,H l=Zb->Q (.ref l) (upd H l (.lst y)))\/z09 x H Q) zgi:=λF H i g m Q s r e q=>by
 unfold zgi at e;split at e
 ·rename_i o u;nofun;obtain⟨w,c,e⟩:=bS e;obtain⟨v,k,h⟩:=r.one;obtain⟨n,rfl,j⟩:=zfw (K:=K) (F:=F) c;obtain⟨a,rfl,D⟩:=h.dct s;ac_rfl;rw[c] at e;obtain rfl:=sI e;subst k;obtain⟨kvs,d,f⟩:=D.dK0;exact .inr ⟨a,kvs,rfl,d,λl b=>by rw[f];exact q _ _ (.lst b j)⟩
 ·exact .inl (zw4 F H i g m Q s r e q)
noncomputable def z04:List V->Hp->VK->Prop:=λx H Q=>∃(l:Zh) (kvs:List (Key×V)) (n:List Int),x=[.ref l]/\Rd H l (.dK kvs)/\(kvs.map λp=>kV p.1)=n.map V.int/\∀p,H p=Zb->Q (.ref p) (upd H p (.lst ((zbt n).map V.int)))
theorem zd9 {prog:Program}{w:World}{A:Around}{E:Ze->Zf->Prop}{s:Zf}{Q:List Ze->Zf->Prop}{d:Zh}{vs:List (Key×Ze)}{ep:Nat} (L:A.handled=Zb) (G:(d==sysModules)=Zc) (z:s.heap.DictAt (zak prog w) d vs ep) (K:vs.length<=sizeLine)
  (D:∀(g:Heap) (t:Nat) (c:Array Ze),(∀b o,s.heap.get? b=Za o->g.get? b=Za o)->ItemsOf (λi v=>∃k x,vs[i]?=Za (k,x)/\(zak prog w).is k v=Zd) c vs.length->Q c.toList { s with heap:=g,toks:=t }) :
  wpAny (model prog w) A (collect (.ref d)) Q E s:=by
 have lt:d<s.heap.objs.size:=z.lt_size;unfold collect;refine Aa (Il (Cp PySem.F.entry_proto_collect ?_));rw [Cz PySem.F.plain_proto_collect _];show wpAny _ A.in1 (newList []>>=λl=>again (.builtin "list.__iadd__" ⟨[l,.ref d],[]⟩)) _ _ s;refine Aa (Bp ?_);refine Ac ⟨Hv Gu _,Cp PySem.F.entry_list_iadd ?_⟩;rw [Cz Gu _];show wpAny _ A.in1 (Builtin.List.listExtendWith (.ref s.heap.objs.size) (.ref d) (.ref s.heap.objs.size)) _ _ _;have M:(s.heap.push { cls:=.type "list",data:=.seq ([]:List Ze).toArray }).get? s.heap.objs.size=Za { cls:=.type "list",data:=.seq #[] 0 }:=Ah _ rfl;refine Ct (PySem.W.kdl_extend (A:=A) (R:=λres n=>∃(g:Heap) (t:Nat) (c:Array Ze) (j:Nat),res=.ok (.ret (.ref s.heap.objs.size))/\n={ s with heap:=g,toks:=t }/\(∀b o,s.heap.get? b=Za o->g.get? b=Za o)/\g.get? s.heap.objs.size=Za { cls:=.type "list",dict:=Zb,data:=.seq c j,slots:=#[] }/\ItemsOf (λi v=>∃k x,vs[i]?=Za (k,x)/\(zak prog w).is k v=Zd) c vs.length)
  (s:={ s with heap:=s.heap.push { cls:=.type "list",data:=.seq ([]:List Ze).toArray } }) (PySem.W.kdl_dict (knd:=zak prog w) (kvs:=vs) (ep:=ep) G) L (z.push _) s.heap.objs.size (Ej lt) (Ej lt) (.ref s.heap.objs.size) 0 M (λg t c j C u p=>⟨g,t,c,j,rfl,rfl,λb o e=>C b o (Aw (Aj e)) (Ab _ e),u,p⟩) K) (λfin n h=>?_) (λe n h=>?_)
 ·have m : ∀n,(∃(g:Heap) (t:Nat) (c:Array Ze) (j:Nat),n={ s with heap:=g,toks:=t }/\(∀b o,s.heap.get? b=Za o->g.get? b=Za o)/\g.get? s.heap.objs.size=Za { cls:=.type "list",dict:=Zb,data:=.seq c j,slots:=#[] }/\ItemsOf (λi v=>∃k x,vs[i]?=Za (k,x)/\(zak prog w).is k v=Zd) c vs.length)->wpAny (model prog w) A (match Ze.ref s.heap.objs.size with
   | Value.ref a=>do
    match (<- load a).data with
     |Data.seq J _=>pure J.toList
     |_=>unsupported "internal:collect"
   |_=>unsupported "internal:collect") Q E n:=by
   rintro n ⟨g,t,c,j,rfl,H,B,F⟩;show wpAny _ A (load s.heap.objs.size>>=_) _ _ _;refine Aa (wpAny_load B ?_);exact Ac (D g t c H F)
  cases fin with
  | done f =>
   obtain⟨g,t,c,j,e,r⟩:=h;cases e;exact m n ⟨g,t,c,j,r⟩
  |again j=>exact⟨h.1,Es h.2 λr y I=>by obtain⟨g,t,c,j,rfl,q⟩:=I;exact m y ⟨g,t,c,j,q⟩⟩
 ·obtain ⟨g, t,c,j, e,r⟩:=h
  cases e
section
variable {X:Cx}
theorem zrn (hc:X.calm=Zd):zcw X (.builtin "sorted") z04:=by
 intro pins s σ H xs us Q I r h;obtain⟨d,kvs,j,rfl,hp,ek,q⟩:=h;obtain⟨u,rfl,rx⟩:=vals1 r;cases rx;obtain⟨z,hd,kv,l,dd⟩:=dk_rd I.hok hp;obtain⟨ep,da⟩:=dd.dictAt;have T:kv.length<=sizeLine:=by rw[<-l.length];exact z
 refine Ie kind_sorted plain_sorted entry_sorted (args_sorted1 _) ?_;unfold Builtin.«sorted»;refine Aa (m:=checkCount "sorted" 1 1 _) (Ac ?_);refine Aa (zd9 (I.ok.hd hc) hd da T λg A G E it=>?_);obtain⟨K,l2⟩:=zcz it;have B:=zjr K l2;rw[<-zok l,ek] at B;generalize G.toList=vs at K B ⊢;have lv:j.length=vs.length:=by have:=B.length;rw[Ad] at this;exact this
 have k:vs.length<=sizeLine:=by rw[K];exact T
 have F:IntsAre vs j:=zex B;have M:Inv X pins σ H { s with heap:=g,toks:=A }:=I.kept E;refine Aa (Gy ?_ k);have f:(g.push (seqObj "list" vs.toArray 0)).get? g.objs.size=Za (seqObj "list" vs.toArray 0):=Ah _ rfl;have keep:∀b o,g.get? b=Za o->(g.push (seqObj "list" vs.toArray 0)).get? b=Za o:=λb o q=>Ab _ q;show wpAny _ _ _ _ _ { s with heap:=g.push (seqObj "list" vs.toArray 0),toks:=A };generalize g.push (seqObj "list" vs.toArray 0)=h3 at f keep ⊢;obtain⟨a,w⟩ : ∃a,a=g.objs.size:=⟨_,rfl⟩;show wpAny _ _ (holding [.ref g.objs.size] _>>=_) _ _ _;rw[<-w] at f ⊢;refine Aa (Bq (Iv slot_list_sort ⟨_,f,rfl⟩ entry_list_sort ?body (args_list_sort _)))
 case body =>
  refine zgg (s:={ s with heap:=h3,toks:=A }) f F k λr h' c R pw ga U=>⟨_,rfl,?_⟩;have J:∀x∈r,x.2=x.1/\∃n t,x.1=Ze.int n t:=λx C=>by
   obtain⟨L,D⟩:=zjl (R.mem_iff.mp C);obtain⟨i,hi,e⟩:=Ch.mp D;obtain⟨t,S⟩:=F.get i j[i] (Af #v[]);rw[Af hi,e] at S;exact⟨L,_,t,sI S⟩
  have P:(r.map λx=>(kN x.1).headD 0).Perm j:=by
   refine (R.map _).trans ?_;have:∀{vs:List Ze}{j:List Int},IntsAre vs j->(vs.zip vs).map (λx=>(kN x.1).headD 0)=j:=λ{vs j} h=>by
    induction h with
    |nil=>rfl
    |cons n t h W=>rw[Bh,Ak,W];rfl
   rw[this F]
  have Y:(r.map λx=>(kN x.1).headD 0).Pairwise (·<=·):=by
   rw[Db];refine pw.imp_of_mem λ{x y} C Z z=>?_;obtain⟨_,n,t,L⟩:=J x C;obtain⟨_,m,t',D⟩:=J y Z;rw[L,D] at z ⊢;have z:lexI [m] [n]=Zc:=z;rw[zf2] at z;have:=Gq z;show n<=m;omega
  have O:=zf1 P Y;have p:=zet J;rw[<-O] at p;refine Ac ⟨_,rfl,.ref a,_,M.laid (t':=A) (o:=.lst ((zbt j).map V.int)) (λb o N=>U b o (λz=>Cg _ (by have:=Aj N;rw[z,w] at this;exact this)) (keep b o N)) (Hu w.symm) ?_,rfl,q a (M.hok.fresh (Hu w.symm))⟩;exact⟨by rw[O,Ad,P.length_eq];omega,_,c,p,ga⟩
end
noncomputable def ztr:ON
 |[.dct k _]=>(zmz k).bind λw=>(zct w).bind λn=>if k.isEmpty then Zb else #v[((zbt n).map W.int),2]
 |[.dcz k _]=>(zmz k).bind λw=>(zct w).bind λn=>if k.isEmpty then Zb else #v[((zbt n).map W.int),2]
 |w=>zdz w
theorem zws {K:Zg}:OpSN K (λx H Q=>(∃(l:Zh) (n:List Int),x=[.ref l]/\(SqL K H l (n.map V.int)\/SqT K H l (n.map V.int))/\∀p,H p=Zb->Q (.ref p) (upd H p (.lst ((zbt n).map V.int))))\/z04 x H Q) ztr:=λF H t g A Q s r e q=>by
 unfold ztr at e;split at e
 ·rename_i y u;nofun;obtain⟨w,i,e⟩:=bS e;obtain⟨n,m,e⟩:=bS e;obtain⟨v,k,h⟩:=r.one;obtain⟨o,rfl,d⟩:=zfw (K:=K) (F:=F) i;obtain⟨a,rfl,D⟩:=h.dct s;ac_rfl;split at e
  ·exact noSome e
  ·rename_i c;obtain rfl:=sI e;subst k;obtain⟨g,f,j⟩:=D.dK (λz=>c (by rw[z];rfl));rw[zcy m] at d;exact .inr ⟨a,_,n,rfl,.inl f,by rw[zf0 j,d.ints],λl b=>q _ _ (.lst b (zc1 _))⟩
 ·rename_i y u;nofun;obtain⟨w,i,e⟩:=bS e;obtain⟨n,m,e⟩:=bS e;obtain⟨v,k,h⟩:=r.one;obtain⟨o,rfl,d⟩:=zfw (K:=K) (F:=F) i;obtain⟨a,rfl,D⟩:=h.dcz s;ac_rfl;split at e
  ·exact noSome e
  ·rename_i c;obtain rfl:=sI e;subst k;obtain⟨g,f,j⟩:=D.dK (λz=>c (by rw[z];rfl));rw[zcy m] at d;exact .inr ⟨a,_,n,rfl,.inr f,by rw[zf0 j,d.ints],λl b=>q _ _ (.lst b (zc1 _))⟩
 ·exact .inl (zik F H t g A Q s r e q)
noncomputable def zuo (S:Sx):Zi->Bool
 |.Name x _=>dOn S x
 |_=>Zc
section
variable {X:Cx}{S:Sx}{d:Nat}{fE:Sx->Zi->Option GE}
theorem z3v (C:CxOk X S d):X.A.units+1<cLine:=by have:=C.sl;omega
noncomputable def zny (fE:Sx->Zi->Option GE) (S:Sx):Zi->Option GE
 |.Dict k v _=>if S.bn.contains ("dict" : Str)&&k.isEmpty&&v.isEmpty then Za zyz else Zb
 |_=>Zb
theorem zru (H:zaw fE)(C:CxOk X S d):zhy (zny fE S) X:=λe g h=>by
 unfold zny at h;split at h
 ·split at h
  ·rename_i k v _ z;rw[Ae,Ae] at z;obtain rfl:=sI h;have b:k=[]:=List.isEmpty_iff.mp z.1.2;have a:v=[]:=List.isEmpty_iff.mp z.2;subst b a;exact zx0.wk λ_ _ _=>zvq
  ·exact noSome h
 ·exact noSome h
noncomputable def zsf (fE:Sx->Zi->Option GE) (S:Sx):Zi->Option GE
 |.Subscript a s _=>if zuo S a&&zbz s then (zaz fE S a).bind λx=>(zaz fE S s).bind λy=>Za (gOp2 oIxD x y) else Zb
 |_=>Zb
theorem ztf (H:zaw fE)(C:CxOk X S d):zhy (zsf fE S) X:=λe g h=>by
 unfold zsf at h;split at h
 ·split at h
  ·rename_i z;rw[Ae] at z;obtain⟨x,b,h⟩:=bS h;obtain⟨y,a,h⟩:=bS h;obtain rfl:=sI h;exact (z79 ((zwo.or z1m).or (z2r (z3v C))) (zah H C b) (zah H C a) (zie z.2)).wk λ_ _ _=>zco z5l
  ·exact noSome h
 ·exact noSome h
noncomputable def zo3 (fE:Sx->Zi->Option GE) (S:Sx):Zi->Option GE
 |.Call (.Attribute (.Name x _) name apos) [e,a] [] cpos=>if name==("get" : Str)&&(apos.endLine==cpos.line)&&zae e&&zae a then (S.rd x).bind λi=>(fE S e).bind λg=>(fE S a).bind λb=>Za (zfa i g b) else Zb
 |_=>Zb
theorem zrp (H:zaw fE)(C:CxOk X S d):zhy (zo3 fE S) X:=λe g h=>by
 unfold zo3 at h;split at h
 ·split at h
  ·rename_i z;rw[Ae,Ae,Ae] at z;obtain⟨⟨⟨j,f⟩,y⟩,c⟩:=z;have k:=Bm j;subst k;obtain⟨i,l,h⟩:=bS h;obtain⟨n,b,h⟩:=bS h;obtain⟨m,a,h⟩:=bS h;obtain rfl:=sI h;exact (zzr (z3v C) (zme C l) (H X S d C _ _ b) (H X S d C _ _ a) ⟨zs4 rfl,z25 y c,f,by rw[zag y,zag c];rfl⟩).wk λ_ _ _=>zw1
  ·exact noSome h
 ·exact noSome h
noncomputable def z46:Zi->Bool
 |.Call (.Name x _) _ _ _=>x==("dict" : Str)
 |_=>Zc
noncomputable def zvb (fE:Sx->Zi->Option GE) (S:Sx):Zi->Option GE
 |.Call (.Name x _) [e] [] _=>if (zuo S e||z46 e)&&S.bl x&&zae e then (if x==("list" : Str) then (asL (zaz fE S) [e]).bind λa=>Za (gOpN zgi a) else if x==("sorted" : Str) then (asL (zaz fE S) [e]).bind λa=>Za (gOpN ztr a) else Zb) else Zb
 |_=>Zb
theorem zsp (H:zaw fE)(C:CxOk X S d):zhy (zvb fE S) X:=λe g h=>by
 unfold zvb at h;split at h
 ·split at h
  ·rename_i z;rw[Ae,Ae] at z;obtain⟨i,m⟩:=zed C z.1.2;split at h
   ·rename_i c;have f:=Bm c;subst f;obtain⟨j,has,h⟩:=bS h;obtain rfl:=sI h;obtain⟨p,_⟩:=zfr (λe a b=>zah H C b) has;exact (zem (zk7.or (zrx C.calm)) i m zvf p #v[0,9] #v[0,9] (zag z.2) rfl).wk λ_ _ _=>zj3 zta
   ·split at h
    ·rename_i c;have f:=Bm c;subst f;obtain⟨j,has,h⟩:=bS h;obtain rfl:=sI h;obtain⟨p,_⟩:=zfr (λe a b=>zah H C b) has;exact (zcr (zit.or (zrn C.calm)) i m (show bootBuiltins "sorted" = Za (.builtin "sorted") from Eo) p #v[0,9] #v[0,9] (zag z.2) rfl).wk λ_ _ _=>zj3 zws
    ·exact noSome h
  ·exact noSome h
 ·exact noSome h
end
section
variable {X:Cx}{S:Sx}{d:Nat}{fE:Sx->Zi->Option GE}
end
section
variable {X:Cx}{pins:List (Zh × Obj)}{σ:St}{H:Hp}{s:Zf}{a:Zh}{y:V}{u:Ze}{A:Around}{E:Ze->Zf->Prop}{Q:Ze->Zf->Prop}
end
section
variable {K:Zg}{F H:Hp}{pr:Prt}{en:En}{σ:St}
end
noncomputable def z98:CmpOp->Option Bool
 |.In=>Za Zc
 |.NotIn=>Za Zd
 |_=>Zb
section
variable {X:Cx}{S:Sx}{d:Nat}{f:Sx->Zi->Option GE}
end
noncomputable def eqH (h:Heap) (d:PyData) (u:Ze):Bool:=@decide (∃a b,Reads h u a b/\a.canLay0=Zd/\PyData.eqv a d=Zd) (Classical.propDecidable _)
theorem eqH_of {h:Heap}{u:Ze}{d d':PyData}{as:List Zh} (r:Reads h u d' as) (c:d'.canLay0=Zd):eqH h d u=PyData.eqv d' d:=by
 unfold eqH;cases e:PyData.eqv d' d with
 |true=>exact @An _ (Classical.propDecidable _) ⟨d',as,r,c,e⟩
 | false =>
  refine @Bc _ (Classical.propDecidable _) ?_;rintro ⟨f,a,g,i,b⟩;rw[<-SeqAt.Reads.unique d' f u as a c r g,e] at b;exact nomatch b
theorem zm5 {h:Heap}{d:PyData}:∀{u:List Ze}{a:List PyData}{e:List Zh},ReadsAll h u a e->PyData.canLayAll0 a=Zd->u.any (eqH h d)=a.any λb=>PyData.eqv b d
 |_,_,_,.nil,_=>rfl
 | _,_,_,.cons r q,c=>by
  rw[PyData.canLayAll0,Ae] at c;rw[Cn,Cn,eqH_of r c.1,zm5 q c.2]
theorem zn8 {A:Around}{s:Zf}{d:PyData}{v:Ze}{bs:List Zh} (f:Reads s.heap v d bs) (e:d.canLay0=Zd) (h:A.units+d.depth<cLine):∀{b:List Ze}{g:List PyData}{i:List Zh},ReadsAll s.heap b g i->PyData.canLayAll0 g=Zd->∀u∈b,SeqAt.EqAt A s u v (eqH s.heap d u)
 |_,_,_,.nil,_=>λu h=>nomatch h
 | _,_,_,.cons r q,c=>λu a=>by
  rw[PyData.canLayAll0,Ae] at c;rcases Ar.mp a with rfl|a
  ·rw [eqH_of r c.1]
   exact SeqAt.eqAt_reads _ _ A s _ _ _ _ r f c.1 e (Nat.lt_of_le_of_lt (Nat.add_le_add_left (Nat.min_le_right _ _) _) h)
  ·exact zn8 f e h q c.2 u a
noncomputable def rInT (K:Zg) (n:Bool):R2:=λx y H Q=>∃p c d a,y=.ref p/\(SqL K H p c\/SqT K H p c)/\DV H x d/\DVs H c a/\d.canLay0=Zd/\PyData.canLayAll0 a=Zd/\d.depth<=90/\Q (.bl (if n then !(a.any λb=>PyData.eqv b d) else a.any λb=>PyData.eqv b d)) H
theorem zlv {k:Nat}{A:Around}(a:Room k A){n:Nat}(h:n<=90):A.in1.units+n<cLine:=by
 have:=a.un;have e:A.in1.units=A.units+1:=rfl;omega
theorem z0l {X:Cx}{k:Nat}(z:Room k X.A)(n:Bool):OpR X (compareOp (if n then .NotIn else .In)) (rInT X.K n):=by
 intro pins s σ H x y v u Q I J E h;nofun;obtain⟨p,K,d,B,rfl,a,D,o,A,f,t,q⟩:=h;obtain⟨bs,l⟩:=D.reads I J;ac_rfl;cases E;rcases a with a|a
 ·refine aG λG qG => ?_;obtain ⟨i,r,b,F⟩:=I.list a;obtain ⟨C,c⟩:=o.reads I r;refine qG ?_;clear qG;have e:i.toArray.any (eqH s.heap d)=B.any λj=>PyData.eqv j d:=by
   rw[show i.toArray.any (eqH s.heap d)=i.any (eqH s.heap d) by simp,zm5 c f]
  have m:∀w,w∈i.toArray->SeqAt.EqAt X.A.in1 s w v (eqH s.heap d w):=λw g=>zn8 l A (zlv z t) c f w (by simpa using g);cases n with
  |false=>refine SeqAt.in_listAt (eqH s.heap d) b.isList m ⟨.bl _,H,I,rfl,?_⟩;rw[e];exact q
  |true=>refine SeqAt.notIn_listAt (eqH s.heap d) b.isList m ⟨.bl _,H,I,rfl,?_⟩;rw[e];exact q
 ·refine aG λG qG => ?_;obtain ⟨i,r,b,F⟩:=I.tuple a;obtain ⟨C,c⟩:=o.reads I r;refine qG ?_;clear qG;have e:i.toArray.any (eqH s.heap d)=B.any λj=>PyData.eqv j d:=by
   rw[show i.toArray.any (eqH s.heap d)=i.any (eqH s.heap d) by simp,zm5 c f]
  have m:∀w,w∈i.toArray->SeqAt.EqAt X.A.in1 s w v (eqH s.heap d w):=λw g=>zn8 l A (zlv z t) c f w (by simpa using g);cases n with
  |false=>refine SeqAt.in_tupleAt (eqH s.heap d) b m ⟨.bl _,H,I,rfl,?_⟩;rw[e];exact q
  |true=>refine SeqAt.notIn_tupleAt (eqH s.heap d) b m ⟨.bl _,H,I,rfl,?_⟩;rw[e];exact q
noncomputable def oInT (n:Bool):O2:=λa b=>(seqW b).bind λw=>(dW a).bind λd=>(dWs w).bind λe=>if d.canLay0&&PyData.canLayAll0 e&&decide (d.depth<=90) then Za (.bl (if n then !(e.any λc=>PyData.eqv c d) else e.any λc=>PyData.eqv c d),Zc) else Zb
theorem z3y {K:Zg}(n:Bool):OpS K (rInT K n) (oInT n):=λF H w l m k t Q s r i e q=>by
 nofun;obtain⟨o,c,e⟩:=bS e;obtain⟨d,g,e⟩:=bS e;obtain⟨f,h,e⟩:=bS e;obtain⟨a,v,b,j,p⟩:=i.seqW s c;ac_rfl;split at e
 ·rename_i z;rw[Ae,Ae] at z;obtain rfl:=sI e;exact⟨a,v,d,f,b,j,zov s r g,zhl s p h,z.1.1,z.1.2,As z.2,q _ _ (.val (.bl _))⟩
 ·exact noSome e
noncomputable def oInV (n:Bool):O2:=λa b=>match oIn n a b with
 |some r=>Za r
 |none=>oInT n a b
theorem ztp {K:Zg}(n:Bool):OpS K (λx y H Q=>rIn K n x y H Q\/rInT K n x y H Q) (oInV n):=λF H w a b v d Q s r c e q=>by
 unfold oInV at e;split at e
 ·rename_i h;obtain rfl:=sI e;exact .inl (zty n F H w a b v _ Q s r c h q)
 ·exact .inr (z3y n F H w a b v d Q s r c e q)
noncomputable def cmpI (f:Sx->Zi->Option GE) (S:Sx) (a:Zi) (ops:List CmpOp) (c:List Zi):Option GE:=match ops,c with
 |[o],[b]=>(z98 o).bind λn=>if S.bn.contains ("inT" : Str)&&(!zuo S b&&zmw b) then (zaz f S a).bind λx=>(zaz f S b).bind λy=>Za (gOp2 (oInV n) x y) else Zb
 |_,_=>Zb
noncomputable def cmpV (f:Sx->Zi->Option GE) (S:Sx) (a:Zi) (ops:List CmpOp) (c:List Zi):Option GE:=match cmpI f S a ops c with
 |some g=>Za g
 |none=>cmpE f S a ops c
section
variable {X:Cx}{S:Sx}{d:Nat}{f:Sx->Zi->Option GE}
theorem z32 (c:zaw f)(C:CxOk X S d){a:Zi}{ops:List CmpOp}{e:List Zi}{g:GE}{pos:Pos}(h:cmpI f S a ops e=Za g):PE X (.Compare a ops e pos) (tE X.K g)/\PT X (.Compare a ops e pos) (tT X.K (zaj g)):=by
 unfold cmpI at h;split at h
 ·rename_i o b;obtain⟨n,i,h⟩:=bS h;split at h
  ·rename_i z;rw [Ae,Ae] at z;obtain ⟨x,k,h⟩:=bS h;obtain ⟨y,l,h⟩:=bS h;obtain rfl:=sI h;have j:OpR X (compareOp o) (λx y H Q=>rIn X.K n x y H Q\/rInT X.K n x y H Q):=by
    cases o with
    |In=>obtain rfl:=sI i;exact .or zl1 (z0l C.room Zc)
    |NotIn=>obtain rfl:=sI i;exact .or zfq (z0l C.room Zd)
    |_=>exact noSome i
   exact⟨(zwf j (zah c C k) (zah c C l) (zf6 z.2.2)).wk λ_ _ _=>zco (ztp n),(zwh j (zah c C k) (zah c C l) (zf6 z.2.2)).wk λ_ _ _=>zhj λ_ _ _=>zco (ztp n)⟩
  ·exact noSome h
 ·exact noSome h
theorem zvv (H:zaw f)(C:CxOk X S d){a:Zi}{ops:List CmpOp}{c:List Zi}{g:GE}{pos:Pos}(h:cmpV f S a ops c=Za g):PE X (.Compare a ops c pos) (tE X.K g)/\PT X (.Compare a ops c pos) (tT X.K (zaj g)):=by
 unfold cmpV at h;split at h
 ·rename_i q;obtain rfl:=sI h;exact z32 H C q
 ·exact z2g H C h
end
section
variable {prog:Program}{w:World}{A:Around}{E:Ze->Zf->Prop}{s:Zf}
theorem zel:entryFor table "dict.update.loop" = Za Builtin.«dict.update.loop»:=by kernel_rfl
theorem zbl:plainId "dict.update.loop" = Zd:=by decide +kernel
variable {K:Type} [DecidableEq K]
noncomputable def dmF (kf:Nat->K) (v:Nat->Ze):Nat->Nat->List (K×Ze)->List (K×Ze)
 |_,0,kvs=>kvs
 |j,k+1,kvs=>dmF kf v (j+1) k (stored kvs (kf j) (v j))
theorem zjp {a:Zh}{ps:Array Ze}{o:Obj}{Q:List Ze->Zf->Prop}(h:s.heap.get? a=Za o)(d:o.cls=.type "tuple")(b:∃c,o.data=.seq ps c)(q:Q ps.toList s):wpAny (model prog w) A (Builtin.Dict.pairItems (.ref a)) Q E s:=by
 obtain⟨c,b⟩:=b;show wpAny _ A (typeOf (.ref a)>>=_) Q E s;refine Aa (wpAny_typeOf_ref h ?_);rw[d];show wpAny _ A (seqItems? (.ref a)>>=_) Q E s;refine Aa (Eh h b (Ac ?_));exact q
variable {I:Zh}{fp wr:List Zh}{n:Nat}{P:Nat->Ze->Prop}{St:Nat->Heap->Prop}{R:Result->Zf->Prop}
noncomputable def zvp (prog:Program) (w:World) {K:Type} [DecidableEq K] (knd:KeyKind prog w K) (h:Heap) (v:Ze) (k:K) (x:Ze) (wr:List Zh) (D:Zh):Prop:=∃a o c key,v=.ref a/\h.get? a=Za o/\o.cls=.type "tuple"/\o.data=.seq #[key,x] c/\knd.is k key=Zd/\a ∉ wr/\a≠D
theorem z17 {knd:KeyKind prog w K} (W:Walks prog w A.in1 I fp wr n P St) (kf:Nat->K) (g:Nat->Ze) (D:Zh) (nD:D ∉ fp) :
  ∀(k j:Nat) (s:Zf) (kvs:List (K×Ze)) (i:Int) (t:Tok),n=j+k->(∀i v,P i v->zvp prog w knd s.heap v (kf i) (g i) wr D)->St j s.heap->Heap.DictOf knd s.heap D kvs->kvs.length+k<=sizeLine ->
   (∀f m,(∀a o,a ∉ wr->a≠D->s.heap.get? a=Za o->f.get? a=Za o)->Heap.DictOf knd f D (dmF kf g j k kvs)->R (.ok (.ret .none)) { s with heap:=f,toks:=m })->codeAny (model prog w) A (.builtin "dict.update.loop" ⟨[.ref D,.ref I,.int i t,.none],[]⟩) R s:=by
 have Y:D ∉ wr:=λh=>nD (W.sub _ h);intro k
 induction k with
 | zero =>
  intro j s kvs i t X F B y hz L;refine Cp zel ?_;rw[Cz zbl _];show wpAny _ A.in1 (pyNext (.ref I)>>=_) _ _ s;have O:St n s.heap:=by rw[X];exact B
  refine Aa (W.done s _ _ O λf m d=>?_);show wpAny _ A.in1 (Builtin.Dict.addKeywords D []>>=_) _ _ _;refine Aa (Fc (show Builtin.Dict.addKeywords D []=pure () from rfl) (Ac ?_));obtain⟨o,H,S,Q,r⟩:=y;exact L f m (λa o a1 _ e=>d a o a1 e) ⟨o,H,S,d D o Y Q,r⟩
 | succ k ih =>
  intro j s kvs i t X F B y hz L;refine Cp zel ?_;rw [Cz zbl _];show wpAny _ A.in1 (pyNext (.ref I)>>=_) _ _ s;refine Aa (W.item j s _ _ (by omega) B λv h1 m p1 q d=>?_);obtain ⟨a,o,c,key,rfl,E,G,J,u,l,N⟩:=F j v p1;have U:=d a o l E;have T:Heap.DictOf knd h1 D kvs:=by
   obtain⟨o,H,S,Q,r⟩:=y;exact⟨o,H,S,d D o Y Q,r⟩
  show wpAny _ A.in1 (holding [.ref a] (tryCatch (Builtin.Dict.pairItems (.ref a)) _>>=_)>>=_) _ _ _;refine Aa (Bq (Aa (wpAny_tryCatch (zjp U G ⟨c,J⟩ ?_))));show wpAny _ A.in1 (holding [key,g j] (dictSet D key (g j))) _ _ _;refine Bq (wpAny_dictSet_pairs u T (λh2 x C=>?_) #v[]);refine Ac ⟨Hv zbl _,ih (j+1) _ _ _ _ #v[] ?_ ?_ x ?_ λf M k2 d2=>?_⟩
  ·intro i v p
   obtain⟨a,o,c,key,rfl,E,G,J,u,l,N⟩:=F i v p;exact⟨a,o,c,key,rfl,(C.2 a N).trans (d a o l E),G,J,u,l,N⟩
  ·exact W.frame _ _ _ q λb hb o e=>(C.2 b λz=>nD (z ▸ hb)).trans e
  ·have:=PySem.stored_length_le kvs (kf j) (g j)
   omega
  ·refine L f M (λb o V Z e=>k2 b o V Z ((C.2 b Z).trans (d b o V e))) d2
end
section
variable {prog:Program}{w:World}{A:Around}{E:Ze->Zf->Prop}{s:Zf}
theorem zxz (v:Ze):bindSpecial (.builtin "list.__getattribute__") v=pure (.builtin "list.__getattribute__",[v]):=by
 have h:typeOf (.builtin "list.__getattribute__")=pure (.type "wrapper_descriptor"):=by kernel_rfl
 unfold bindSpecial;rw[h]
 rfl
theorem zsx:typeLookup (Ze.type "list") (Str.ofString "keys")=pure Zb:=am_miss_of_fast #v[0,0,7]
theorem zjm {l:Zh}{o:Obj}{xs:Array Ze}{k:Nat}{Q:Option Ze->Zf->Prop} (h:s.heap.get? l=Za o) (d:o.cls=.type "list") (g:o.data=.seq xs k) (f:o.dict=Zb) (m:A.handled=Zb)
  (q:∀a c,(∀b ob,s.heap.get? b=Za ob->a.get? b=Za ob)->Q Zb { s with heap:=a,toks:=c }):wpAny (model prog w) A (getAttr? (.ref l) (Str.ofString "keys")) Q E s:=by
 obtain⟨oc,n,j,osl⟩:=o;simp only at d g f;subst d g f;unfold getAttr?;refine Aa (wpAny_mkText ?_);unfold getAttrBy?;refine Aa (Dv ?_);unfold getAttrBy;refine Bq (Aa (wpAny_typeOf_ref h ?_));rw[list_getattribute];refine Aa (Ac ?_);show wpAny _ A (getAttrByItsOwn (.ref l) _ (.type "list") (.builtin "list.__getattribute__") Zc Zc) _ _ _;unfold getAttrByItsOwn;show wpAny _ A (hookBefore (.type "list")>>=_) _ _ _;refine Aa (Fc (show hookBefore (.type "list")=pure Zb from rfl) ?_);refine Aa (Dv (Bq ?_));show wpAny _ A (boundAndCalled (.builtin "list.__getattribute__") (.ref l) _) _ _ _;unfold boundAndCalled;rw[zxz];refine Aa (Ac ?_);show wpAny _ A (call (.builtin "list.__getattribute__") [.ref l,_]) _ _ _;refine call_meets PySem.F.slot_list_getattribute ⟨_,h,rfl⟩ am_entry_list_getattribute (PySem.F.args_list_getattribute_2 _ _) (meets_getattribute_miss_list l xs k osl (Str.ofString "keys") _ zsx #v[0,0,7]) ⟨h,m,λa c e ne=>?_⟩;show wpAny _ A (getattributeRaised (.ref l) _ (.type "list") (.ref e) Zb Zc Zc) _ _ _;obtain⟨t,u,i⟩:=ne.there;have ty:Zf.TypeIs { s with heap:=a,toks:=c } (.ref e) "AttributeError" := ⟨_,i,rfl⟩;unfold getattributeRaised;refine Aa (Ez ty sub_AttributeError ?_);rw[if_pos rfl];show wpAny _ A (typeLookup (.type "list") (Str.ofString "__getattr__")>>=_) _ _ _;rw[am_list_getattr_none];refine Aa (Ac ?_);show wpAny _ A (throw (.ref e)>>=_) _ _ _;refine Aa (wpAny_throw ?_);show wpAny _ A (isInstance (.ref e) (.type "AttributeError")>>=_) _ _ _;refine Aa (Ez ty sub_AttributeError ?_);rw[if_pos rfl];exact Ac (q a c ne.keeps)
end
section
variable {X:Cx}{pins:List (Zh × Obj)}{σ:St}{H:Hp}{s:Zf}{A:Around}{E:Ze->Zf->Prop}
noncomputable def PV (H:Hp):List V->List (Key×V)->Prop:=Paired λv p=>∃b,v=V.ref b/\Rd H b (.tup [kV p.1,p.2])
theorem z1n {K:Type} [DecidableEq K] {kf:Nat->K}{v:Nat->Ze}:∀(r:List (K×Ze)) (j:Nat) (kvs:List (K×Ze)),(∀i p,r[i]?=Za p->kf (j+i)=p.1/\v (j+i)=p.2)->dmF kf v j r.length kvs=merged kvs r
 |[],_,_,_=>rfl
 | p::r,j,kvs,h=>by
  obtain ⟨b,e⟩:=h 0 p rfl;show dmF kf v (j+1) r.length (stored kvs (kf (j+0)) (v (j+0)))=_;rw [b,e,z1n r (j+1) _ λi q a=>by
   have:=h (i+1) q a
   rwa [show j+(i+1)=j+1+i by omega] at this]
  rfl
end
noncomputable def z5a:W->Option (Key×W)
 |.tup [k,v]=>(keyF k).bind λd=>Za (d,v)
 |_=>Zb
noncomputable def zgv:List W->Option (List (Key×W))
 |[]=>Za []
 |w::a=>(z5a w).bind λp=>(zgv a).bind λb=>Za (p::b)
noncomputable def updW:List (Key×W)->List DKey->List W->List DKey×List W
 |[],k,w=>(k,w)
 |p::a,k,w=>updW a (zcx k (.inl p.1)) (zc4 k w (.inl p.1) p.2)
section
variable {K:Zg}{F H:Hp}
theorem zqd (s:Same F H):∀{u:List W}{c:List (Key×W)}{g:List V},zgv u=Za c->Reps K F u g->∃more:List (Key×V),PV H g more/\Paired (λ(p:Key×W) (q:Key×V)=>p.1=q.1/\Rep K F p.2 q.2) c more
 |[],_,_,e,.nil=>by obtain rfl:=sI e;exact⟨[],.nil,.nil⟩
 | w::u,_,_,e,.cons r m=>by
  obtain⟨p,a,e⟩:=bS (show (z5a w).bind _=_ from e);obtain⟨c,f,e⟩:=bS e;obtain rfl:=sI e;obtain⟨more,n,o⟩:=zqd s f m;unfold z5a at a;split at a
  ·rename_i k v
   obtain⟨d,l,a⟩:=bS a;obtain rfl:=sI a;cases r with
   | tup h b =>
    cases b with
    | cons j b =>
     cases b with
     | cons t b =>
      cases b;have i:=j.keyF l;subst i;exact⟨(d,_)::more,.cons ⟨_,rfl,.inl (s _ _ h)⟩ n,.cons ⟨rfl,t⟩ o⟩
  ·exact noSome a
theorem zs0:∀{ps:List (Key×W)}{more:List (Key×V)}{js:List Key}{vs:List V}{ws:List W},Paired (λ(p:Key×W) (q:Key×V)=>p.1=q.1/\Rep K F p.2 q.2) ps more->js.length=vs.length->Reps K F ws vs->OwnR K F (.dct (updW ps (js.map .inl) ws).1 (updW ps (js.map .inl) ws).2) (.dK (zfs (js.zip vs) more))
 |_,_,_,_,_,.nil,hl,r=>.dct hl r
 | p::ps,q::more,js,vs,ws,.cons ⟨e,rx⟩ h,hl,r=>by
  show OwnR K F (.dct (updW ps (zcx (js.map (Sum.inl:Key->DKey)) (.inl p.1)) (zc4 (js.map (Sum.inl:Key->DKey)) ws (.inl p.1) p.2)).1 (updW ps (zcx (js.map (Sum.inl:Key->DKey)) (.inl p.1)) (zc4 (js.map (Sum.inl:Key->DKey)) ws (.inl p.1) p.2)).2) (.dK (zfs (putK (js.zip vs) q.1 q.2) more));rw[zgx zc5,zj5 hl,<-e];exact zs0 h (zou hl _ _) (ze9 zc5 rx r)
end
section
variable {X:Cx}{S:Sx}{d:Nat}{fE:Sx->Zi->Option GE}
end
theorem ze4 {prog:Program}{w:World}{A:Around}{E:Ze->Zf->Prop}{s:Zf}{Q:List Ze->Zf->Prop}{T:String}{r d:Zh}{n:Nat}{P:Nat->Ze->Prop}{O:Heap->Prop} (C:PySem.W.KdlSrc prog w T r d n P O) (J:A.handled=Zb) (v:O s.heap) (I:n<=sizeLine)
  (z:∀(g:Heap) (t:Nat) (c:Array Ze),(∀b o,s.heap.get? b=Za o->g.get? b=Za o)->ItemsOf P c n->Q c.toList { s with heap:=g,toks:=t }) :
  wpAny (model prog w) A (collect (.ref r)) Q E s:=by
 obtain ⟨D,lt⟩:=C.there _ v;unfold collect;refine Aa (Il (Cp PySem.F.entry_proto_collect ?_));rw [Cz PySem.F.plain_proto_collect _];show wpAny _ A.in1 (newList []>>=λl=>again (.builtin "list.__iadd__" ⟨[l,.ref r],[]⟩)) _ _ s;refine Aa (Bp ?_);refine Ac ⟨Hv Gu _,Cp PySem.F.entry_list_iadd ?_⟩;rw [Cz Gu _];show wpAny _ A.in1 (Builtin.List.listExtendWith (.ref s.heap.objs.size) (.ref r) (.ref s.heap.objs.size)) _ _ _;have K:(s.heap.push { cls:=.type "list",data:=.seq ([]:List Ze).toArray }).get? s.heap.objs.size=Za { cls:=.type "list",data:=.seq #[] 0 }:=Ah _ rfl;refine Ct (PySem.W.kdl_extend (A:=A) (R:=λres k=>∃(g:Heap) (t:Nat) (c:Array Ze) (i:Nat),res=.ok (.ret (.ref s.heap.objs.size))/\k={ s with heap:=g,toks:=t }/\(∀b o,s.heap.get? b=Za o->g.get? b=Za o)/\g.get? s.heap.objs.size=Za { cls:=.type "list",dict:=Zb,data:=.seq c i,slots:=#[] }/\ItemsOf P c n)
  (s:={ s with heap:=s.heap.push { cls:=.type "list",data:=.seq ([]:List Ze).toArray } }) C J (C.keep _ _ v λb _ o e=>Ab _ e) s.heap.objs.size (Ej D) (Ej lt) (.ref s.heap.objs.size) 0 K (λg t c i y p m=>⟨g,t,c,i,rfl,rfl,λb o e=>y b o (Aw (Aj e)) (Ab _ e),p,m⟩) I) (λfin k h=>?_) (λe k h=>?_)
 ·have j : ∀k,(∃(g:Heap) (t:Nat) (c:Array Ze) (i:Nat),k={ s with heap:=g,toks:=t }/\(∀b o,s.heap.get? b=Za o->g.get? b=Za o)/\g.get? s.heap.objs.size=Za { cls:=.type "list",dict:=Zb,data:=.seq c i,slots:=#[] }/\ItemsOf P c n)->wpAny (model prog w) A (match Ze.ref s.heap.objs.size with
   | Value.ref a=>do
    match (<- load a).data with
     |Data.seq H _=>pure H.toList
     |_=>unsupported "internal:collect"
   |_=>unsupported "internal:collect") Q E k:=by
   rintro k ⟨g,t,c,i,rfl,F,x,B⟩;show wpAny _ A (load s.heap.objs.size>>=_) _ _ _;refine Aa (wpAny_load x ?_);exact Ac (z g t c F B)
  cases fin with
  | done f =>
   obtain⟨g,t,c,i,e,r⟩:=h;cases e;exact j k ⟨g,t,c,i,r⟩
  |again i=>exact⟨h.1,Es h.2 λr u G=>by obtain⟨g,t,c,i,rfl,q⟩:=G;exact j u ⟨g,t,c,i,q⟩⟩
 ·obtain ⟨g, t,c,i, e,r⟩:=h
  cases e
section
variable {X:Cx}{pins:List (Zh × Obj)}{σ:St}{H:Hp}
end
section
variable {X:Cx}
variable {S:Sx}{d:Nat}{fE:Sx->Zi->Option GE}
end
section
variable {prog:Program}{w:World}{A:Around}{E:Ze->Zf->Prop}{s:Zf}
theorem zuw {K:Type} [DecidableEq K] {knd:KeyKind prog w K}{l:Zh}{o:Obj}{xs:Array Ze}{k:Nat}{Q:Ze->Zf->Prop} (t:s.heap.get? l=Za o) (F:o.cls=.type "list") (S:o.data=.seq xs k) (J:o.dict=Zb) (X:s.heap.IsList l xs)
  (H:A.handled=Zb) (kf:Nat->K) (B:Nat->Ze) (N:∀i v,xs[i]?=Za v->∃a,v=.ref a/\a<s.heap.objs.size/\zvp prog w knd s.heap v (kf i) (B i) [] s.heap.objs.size) (hz:xs.size<=sizeLine)
  (q:∀n G,(∀a o,s.heap.get? a=Za o->n.get? a=Za o)->Heap.DictOf knd n s.heap.objs.size (dmF kf B 0 xs.size [])->Q (.ref s.heap.objs.size) { s with heap:=n,toks:=G }):wpAny (model prog w) A (call (.type "dict") [.ref l]) Q E s:=by
 have u:l<s.heap.objs.size:=Aj t;refine callType_codes (Q₁:=λobj g=>obj=.ref s.heap.objs.size/\g={ s with heap:=s.heap.push { cls:=.type "dict",data:=.dict #[] } }) PySem.F.kt_called_dict (PySem.F.kt_typeCall_dict_1 _) PySem.F.entry_dict_init (kt_code_dict_new _ ⟨rfl,rfl⟩) λobj g ⟨e1,O⟩=>?_;subst e1 O;have r:(s.heap.push { cls:=.type "dict",data:=.dict #[] }).get? s.heap.objs.size=Za { cls:=.type "dict",data:=.dict #[] }:=Ah _ rfl;have d:∀b ob,s.heap.get? b=Za ob->(s.heap.push { cls:=.type "dict",data:=.dict #[] }).get? b=Za ob:=λb ob e=>Ab _ e;refine⟨⟨_,r,rfl⟩,PySem.F.args_dict_init_2 _ _,?_⟩;show wpAny _ A.in1.in1 (Builtin.Dict.selfAndRest "__init__" ⟨[.ref s.heap.objs.size,.ref l],[]⟩>>=_) _ _ _;unfold Builtin.Dict.selfAndRest;refine Aa (Aa (wpAny_notOrdered_dict ⟨_,r,rfl⟩ ?_));show wpAny _ A.in1.in1 (pure s.heap.objs.size>>=_) _ _ _;refine Aa (Ac (Ac ?_));show wpAny _ A.in1.in1 (Builtin.Dict.updateFrom "dict.__init__" s.heap.objs.size (.ref l) [] .none) _ _ _;unfold Builtin.Dict.updateFrom;refine Aa (wpAny_typeOf_ref (d l o t) ?_);rw[F];show wpAny _ A.in1.in1 (getAttr? (.ref l) (Str.ofString "keys")>>=_) _ _ _;refine Aa (zjm (d l o t) F S J H λh G f=>?_);show wpAny _ A.in1.in1 (rule _>>=_) _ _ _;refine Aa (Cs ?_);have j:h.IsList l xs:=by
  obtain⟨C,U,R⟩:=X;exact⟨C,f l C (d l C U),R⟩
 refine Aa (Gf j (Ac ⟨Hv zbl _,?_⟩));have M:l<h.objs.size:=Aj (f l o (d l o t));have L:s.heap.objs.size<h.objs.size:=Aj (f _ _ r);refine z17 (knd:=knd) (Walks.list (A:=A.in1.in1) H h.objs.size l (Aw M) xs) kf B s.heap.objs.size (λm=>?_) xs.size 0 _ [] 0 0 #v[] (λi v p=>?_) ⟨⟨_,Ah _ rfl,rfl,rfl⟩,j.push _⟩ ⟨_,#[],0,Ab _ (f _ _ r),⟨rfl,rfl,rfl⟩,rfl,(λe W=>absurd W (by simp)),.nil,Fj⟩ (by show 0+_<=_;omega) λn x I P=>?_
 ·rcases Ar.mp m with z|z
  ·exact Aw L z
  ·exact Aw u (Ao.mp z).symm
 ·obtain⟨a', _,la,a,ob,c,key,rfl,D,V,Z,T,_,Y⟩:=N i v p;have y:a<h.objs.size:=Aj (f a ob (d a ob D));exact⟨a,ob,c,key,rfl,Ab _ (f a ob (d a ob D)),V,Z,T,λm=>Aw y (Ao.mp m),Y⟩
 ·refine⟨rfl,q n x (λa ob e => ?_) P⟩;have y:a<h.objs.size:=Aj (f a ob (d a ob e));exact I a ob (λm=>Aw y (Ao.mp m)) (Aw (Aj e)) (Ab _ (f a ob (d a ob e)))
end
section
variable {X:Cx}{pins:List (Zh × Obj)}{σ:St}{H:Hp}{s:Zf}{A:Around}{E:Ze->Zf->Prop}
theorem z1b (I:Inv X pins σ H s):∀{e:List V}{more:List (Key×V)}{c:List Ze},PV H e more->Vals e c->∃d:List (Key×Ze),KV more d/\d.length=c.length/\∀(i:Nat) (v:Ze),c[i]?=Za v->∃p a,d[i]?=Za p/\v=.ref a/\a<s.heap.objs.size/\zvp X.prog X.w (zak X.prog X.w) s.heap v p.1 p.2 [] s.heap.objs.size
 |_,_,_,.nil,.nil=>⟨[],.nil,rfl,λi v h=>by simp at h⟩
 | _,_,_,.cons (b:=p) ⟨b,ev,hb⟩ pv,.cons (b:=u) ru e=>by
  obtain⟨d,w,x,q⟩:=z1b I pv e;subst ev;obtain rfl:u=Ze.ref b:=ru;obtain⟨c,r,⟨o,f,j,n,l⟩,z⟩:=I.tuple (show SqT X.K H b _ from .inl hb);cases r with
  | cons k r =>
   cases r with
   | cons y r =>
    cases r;rename_i m t;refine⟨(p.1,t)::d,.cons ⟨rfl,y⟩ w,by rw[Bd,Bd,x],λi v g=>?_⟩;cases i with
    | zero =>
     obtain rfl:=sI g;have lt:=Aj f;exact⟨_,b,rfl,rfl,lt,b,o,n,m,rfl,f,j,l,zvs k,Bx,Aw lt⟩
    |succ i=>exact q i v g
theorem z6h {l:Zh}{more:List (Key×V)}{vs:List V}{Q:Ze->Zf->Prop} (F:A.handled=Zb) (I:Inv X pins σ H s) (G:H l=Za (.lst vs)) (pv:PV H vs more) (y:(s.heap.objs.size==sysModules)=Zc) (K:more.length<=sizeLine)
  (h:∀p u,H p=Zb->Inv X pins σ (upd H p (.dK (zfs [] more))) u->Q (.ref p) u):wpAny (model X.prog X.w) A (call (.type "dict") [.ref l]) Q E s:=by
 obtain⟨c,r,⟨o,n,g,k,e,t⟩,_⟩:=I.list (SqL.of' G);obtain⟨b,w,z,D⟩:=z1b I pv r;have J:more.length=b.length:=w.length;have get:∀i p,b[i]?=Za p->(b.getD (0+i) (Sum.inl 0,.none)).1=p.1/\(b.getD (0+i) (Sum.inl 0,.none)).2=p.2:=λi p d=>by
  rw[Ce,Dz,d];exact⟨rfl,rfl⟩
 refine zuw (knd:=zak X.prog X.w) (xs:=c.toArray) g k t e ⟨o,g,k,n,t⟩ F (λi=>(b.getD i (Sum.inl 0,.none)).1) (λi=>(b.getD i (Sum.inl 0,.none)).2) (λi v f=>?_) (by simp only [Am];omega) λL B C j=>h _ _ (I.hok.fresh (Ag _)) ?_
 ·have f:c[i]? = Za v:=by simpa using f
  obtain⟨p,a,d,q⟩:=D i v f;obtain⟨x,m⟩:=get i p d;rw[Ce] at x m;refine⟨a,q.1,q.2.1,?_⟩;rw[x,m];exact q.2.2
 ·have sz:c.toArray.size=b.length:=by simp only [Am];exact z.symm
  rw[sz,z1n b 0 [] get] at j;exact I.laid (t':=B) (o:=.dK (zfs [] more)) C (Ag _) (z0m (by have:=zee more [];rw[Ee] at this;omega) y (w.merge .nil) j)
end
noncomputable def z0i:List V->Hp->VK->Prop:=λx H Q=>∃l v more,x=[.ref l]/\H l=Za (.lst v)/\PV H v more/\more.length<=sizeLine/\∀p,H p=Zb->Q (.ref p) (upd H p (.dK (zfs [] more)))
theorem zr8 {X:Cx}(a:X.calm=Zd):zcw X (.type "dict") z0i:=by
 intro pins s σ H x j Q I r h;obtain⟨l,v,more,rfl,d,pv,f,q⟩:=h;obtain⟨u,rfl,i⟩:=vals1 r;cases i;have big:=I.big;have c:(s.heap.objs.size==sysModules)=Zc:=by
  cases e:s.heap.objs.size==sysModules with
  |false=>rfl
  |true=>have:=Bm e;rw[this] at big;exact absurd big (Cg _)
 exact z6h (I.ok.hd a) I d pv c f λp k b g=>⟨.ref p,_,g,rfl,q p b⟩
noncomputable def zg1 (g:GE):GE:=λen=>(g en).bind λp=>match p.2.1 with
 |.lst u=>(zgv u).bind λa=>if a.length<=sizeLine then Za (p.1,(.dct (updW a [] []).1 (updW a [] []).2,Zd)) else Zb
 |_=>Zb
theorem zrz {K:Zg}{g:GE}{σ:St}{H:Hp}{Q:VK} (h:tE K (zg1 g) σ H Q):tCB z0i (zek (tE K g) tNil) σ H Q:=by
 obtain⟨F,pr,en,l,r,R,h,q⟩:=h;obtain⟨⟨o,b⟩,m,h⟩:=bS h;refine⟨F,pr,en,o,b,R,m,λC A B s t i=>?_⟩;obtain⟨k,n,R2,x⟩:=i.freeze t;split at h
 ·rename_i u e
  obtain⟨w,a,h⟩:=bS h;split at h
  ·rename_i z
   cases h;have e:b.1=.lst u:=e;rw[e] at x;cases x with
   | lst f v =>
    obtain⟨more,pv,c⟩:=zqd R2.sub a v;refine⟨_,_,more,rfl,R2.sub _ _ f,pv,by have:=Paired.length c;omega,λp j=>?_⟩;obtain⟨d,y⟩:=R2.newOwn j (zs0 (js:=[]) (vs:=[]) (ws:=[]) c rfl .nil);exact q k _ _ (s.trans n) d y
  ·exact noSome h
 ·exact noSome h
section
variable {X:Cx}{S:Sx}{d:Nat}{fE:Sx->Zi->Option GE}
noncomputable def zi9 (fE:Sx->Zi->Option GE) (S:Sx):Zi->Option GE
 |.Call (.Name x _) [e] [] _=>if x==("dict" : Str)&&S.bl x&&zae e then (fE S e).bind λg=>Za (zg1 g) else Zb
 |_=>Zb
theorem zow (H:zaw fE)(C:CxOk X S d):zhy (zi9 fE S) X:=λe g h=>by
 unfold zi9 at h;split at h
 ·split at h
  ·rename_i z;simp only [Ae] at z;obtain⟨⟨f,c⟩,y⟩:=z;have i:=Bm f;subst i;obtain⟨j,a,h⟩:=bS h;obtain rfl:=sI h;obtain⟨b,m⟩:=zed C c;exact (zem (zr8 C.calm) b m (by kernel_rfl) (pac (H X S d C _ _ a) zdw y) #v[0,9] #v[0,9] (zag y) rfl).wk λ_ _ _=>zrz
  ·exact noSome h
 ·exact noSome h
end
section
variable {X:Cx}
end
section
variable {K:Zg}{F H:Hp}{pr pb:Prt}{en:En}{σ:St}
end
section
variable {K:Zg}{mp:List Nat}{pb:Prt}{acc:Zh}
end
section
variable {X:Cx}{S:Sx}{d:Nat}{f:Sx->Zi->Option GE}
end
section
variable {prog:Program}{w:World}{A:Around}{E:Ze->Zf->Prop}{s:Zf}
end
section
variable {K:Zg}{F:Hp}
end
section
variable {X:Cx}{tg:Zi}
end
section
variable {K:Zg}{σ:St}{H:Hp}
end
section
variable {X:Cx}{S:Sx}{d:Nat}{f:Sx->Zi->Option GE}
end
section
variable {K:Zg}
end
section
variable {K:Zg}{σ:St}{H:Hp}
end
section
open PySem.AutoSeq1 (wpAny_loadPart')
end
section
variable {X:Cx}{S:Sx}{d:Nat}{fE:Sx->Zi->Option GE}
end
set_option maxHeartbeats 1000000
section
variable {prog:Program}{w:World}{A:Around}{E:Ze->Zf->Prop}{s:Zf}
end
section
variable {prog:Program}{w:World}{A:Around}{E:Ze->Zf->Prop}{s:Zf}
end
section
variable {X:Cx}{S:Sx}{d:Nat}{fE:Sx->Zi->Option GE}
end
theorem z7z:bootBuiltins "set" = Za (.type "set"):=by decide +kernel
section
variable {X:Cx}{S:Sx}{d:Nat}{fE:Sx->Zi->Option GE}
end
namespace SetT
noncomputable def Ris (xs:Array Nat):Prop:=∀i j,i<j->j<xs.size->xs.getD i 0<xs.getD j 0
theorem z3w {xs:Array Nat}{i j:Nat}(h:i<xs.size):xs.getD i j=xs.getD i 0:=by
 unfold Array.getD;rw[dif_pos h,dif_pos h]
theorem zj9 (xs:Array Nat) (j:Nat) (R:Ris xs):∀(f l h:Nat),h-l<=f->l<=h->h<=xs.size->(∀i,i<l->xs.getD i 0<j)->(∀i,h<=i->i<xs.size->j<=xs.getD i 0) ->
  SetTable.below.go xs j f l h<=xs.size/\(∀i,i<SetTable.below.go xs j f l h->xs.getD i 0<j)/\∀i,SetTable.below.go xs j f l h<=i->i<xs.size->j<=xs.getD i 0
 | 0,l,h,n,o,g,a,b=>by
  unfold SetTable.below.go;have e:l=h:=by omega
  subst e;exact⟨g,a,b⟩
 | f+1,l,h,n,o,g,a,b=>by
  unfold SetTable.below.go;by_cases c:l<h
  ·rw [if_pos c]
   have p:(l+h)/2<h:=by omega
   have q:l<=(l+h)/2:=by omega
   dsimp only;rw[z3w (j:=j) #v[]];by_cases d:xs.getD ((l+h)/2) 0<j
   ·rw [if_pos d]
    refine zj9 xs j R f _ _ #v[] #v[] g (λi k=>?_) b;by_cases e:i=(l+h)/2
    ·rw[e];exact d
    ·have:=R i ((l+h)/2) (by omega) (by omega)
     omega
   ·rw [if_neg d]
    refine zj9 xs j R f _ _ #v[] #v[] #v[] a λi k m=>?_;by_cases e:i=(l+h)/2
    ·rw[e];omega
    ·have:=R ((l+h)/2) i (by omega) m
     omega
  ·rw [if_neg c]
   have e:l=h:=by omega
   subst e;exact⟨g,a,b⟩
theorem below_ok {xs:Array Nat}(R:Ris xs)(j:Nat):SetTable.below xs j<=xs.size/\(∀i,i<SetTable.below xs j->xs.getD i 0<j)/\∀i,SetTable.below xs j<=i->i<xs.size->j<=xs.getD i 0:=zj9 xs j R xs.size 0 xs.size #v[] #v[] (Ag _) (λi h=>absurd h (Nat.not_lt_zero i)) λi a b=>by omega
structure Ok (t:SetTable):Prop where
 ris:Ris t.place
 dum:t.dummies=#[]
theorem fresh_ok (f m:Nat)(l:Bool):Ok (.fresh f m l):=⟨λi j a h=>absurd h (Nat.not_lt_zero j),rfl⟩
theorem zwj (n:Nat):Ris (Array.range n):=λi j a h=>by
 rw[Array.size_range] at h;have e:∀k,k<n->(Array.range n).getD k 0=k:=λk b=>by
  unfold Array.getD;rw[dif_pos (by rw[Array.size_range];exact b)];simp
 rw[e i #v[],e j h];exact a
theorem zep (t:SetTable)(n:Nat):Ok (t.standIn n)/\(t.standIn n).led=t.led:=⟨⟨zwj n,rfl⟩,rfl⟩
theorem z1a {t:SetTable}(h:Ok t)(j:Nat):SetTable.has t.dummies j=Zc:=by
 rw[h.dum];unfold SetTable.has
 rfl
theorem zrf {t:SetTable}(h:Ok t){j:Nat}(e:t.slot j=.empty):t.place[SetTable.below t.place j]?≠Za j:=λz=>by
 unfold SetTable.slot at e;dsimp only at e;rw[z] at e;simp at e
theorem zwb {t:SetTable}(h:Ok t)(j:Nat):t.slot j≠.dummy:=λz=>by
 unfold SetTable.slot at z;rw[z1a h] at z;dsimp only at z;split at z
 ·cases z
 ·simp at z
theorem zq5 {t:SetTable} (h:Ok t) (f:Nat->Int) (x:Int):∀(a:Nat) (p:SetTable.Probe) (j:Nat) (d:Option Nat),p.dummy=Zb->SetTable.probe.go t f x a p=Za (.empty j d)->t.slot j=.empty/\d=Zb
 |0,p,j,d,_,e=>by unfold SetTable.probe.go at e;cases e
 | a+1,p,j,d,b,e=>by
  unfold SetTable.probe.go at e;have c:(t.advance p).dummy=Zb:=by
   unfold SetTable.advance;split
   ·exact b
   ·exact b
  cases q:t.slot p.j with
  | empty =>
   rw[q] at e;injection e with e;injection e with e1 e2;subst e1;exact⟨q,by rw[<-e2];exact b⟩
  |dummy=>exact absurd q (zwb h _)
  | live i =>
   rw[q] at e;dsimp only at e;split at e
   ·injection e with e;cases e
   ·exact zq5 h f x a _ j d c e
theorem z4i {t:SetTable} (h:Ok t) {x:Int}{s:Nat}{b:Bool} (e:t.freeSlot x=Za (s,b)):t.slot s=.empty:=by
 unfold SetTable.freeSlot at e;cases q:t.probe (λ_=>x+1) x (t.probeStart x) with
 |none=>rw[q] at e;cases e
 | some m =>
  rw[q] at e;cases m with
  |candidate _ _ _=>cases e
  | empty j d =>
   obtain⟨a,c⟩:=zq5 h _ x _ _ j d rfl q;subst c;injection e with e;injection e with e1 e2;rw[<-e1];exact a
theorem zu8 {xs:Array Nat}:Ris xs↔xs.toList.Pairwise (· < ·):=by
 rw[Ih];have g:∀i (h:i<xs.size),xs.getD i 0=xs.toList[i]'(by rw[Ay];exact h):=λi h=>by
  unfold Array.getD;rw[dif_pos h];simp
 constructor
 ·intro R i j b a h;rw[Ay] at b a;rw[<-g i b,<-g j a];exact R i j h a
 ·intro R i j h a;rw[g i #v[],g j a];exact R i j _ _ h
theorem z65 {xs:Array Nat}{i:Nat}{x:Nat}(h:xs.toList[i]?=Za x):i<xs.size/\xs.getD i 0=x:=by
 obtain⟨a,b⟩:=Ai.mp h;rw[Ay] at a;refine⟨a,?_⟩;unfold Array.getD;rw[dif_pos a];simpa using b
theorem zje {α:Type}(xs:Array α)(p:Nat)(x:α):(SetTable.insertAt xs p x).toList=xs.toList.take p++[x]++xs.toList.drop p:=by
 unfold SetTable.insertAt;rw[Bo,Cr,Array.toList_extract,Array.toList_extract];simp;exact Ex (by rw[Ev,Ay];exact Ag _)
theorem z4s {xs:Array Nat}(R:Ris xs){j:Nat}(s:xs[SetTable.below xs j]?≠Za j):Ris (SetTable.insertAt xs (SetTable.below xs j) j):=by
 obtain⟨w,t,m⟩:=below_ok R j;have P:=zu8.mp R;rw[zu8,zje];generalize SetTable.below xs j=p at *
 have n:∀x∈xs.toList.take p,x<j:=λx k=>by
  obtain⟨i,c⟩:=List.getElem?_of_mem k;have o:i<p:=by
   have:=(Ai.mp c).1;rw[Cm] at this;omega
  rw[List.getElem?_take,if_pos o] at c;obtain⟨_,e⟩:=z65 c;rw[<-e];exact t i o
 have u:∀x∈xs.toList.drop p,j<x:=λx k=>by
  obtain⟨i,c⟩:=List.getElem?_of_mem k;rw[List.getElem?_drop] at c;obtain⟨l,e⟩:=z65 c;have q:=m (p+i) #v[] l;rw[e] at q;rcases Nat.lt_or_eq_of_le q with h|h
  ·exact h
  ·exfalso;by_cases z:i=0
   ·subst z;apply s;rw[Cd] at c;rw[<-h] at c;simpa using c
   ·have r:=R p (p+i) #v[] l;have g:=m p (Ag _) #v[];rw[e] at r;omega
 rw[Bu,Bu];refine⟨⟨P.sublist (Dr _ _),Gv _ _,λa d b f=>by rw[Ao.mp f];exact n a d⟩,P.sublist (Ff _ _),λa d b f=>?_⟩;rcases Bg.mp d with d|d
 ·exact Nat.lt_trans (n a d) (u b f)
 ·rw[Ao.mp d];exact u b f
theorem put_ok {t:SetTable}(h:Ok t){j:Nat}(e:t.slot j=.empty):Ok (t.put j).1/\(t.put j).1.led=t.led:=by
 refine⟨⟨z4s h.ris (zrf h e),?_⟩,rfl⟩;show (if SetTable.has t.dummies j then _ else t.dummies)=#[];rw[z1a h,if_neg Aq,h.dum]
theorem z96 {t a:SetTable}(h:Ok t/\t.led=a.led)(n:Nat):Ok (t.orStandIn n)/\(t.orStandIn n).led=a.led:=by
 unfold SetTable.orStandIn;split
 ·exact h
 ·exact⟨(zep t n).1,(zep t n).2.trans h.2⟩
theorem z7r {t:SetTable} (h:Ok t) (es:Array (Int×Ze)) (x:Int) (v:Ze):Ok (layNew t es x v).2.1/\(layNew t es x v).2.1.led=t.led:=by
 unfold layNew;cases q:t.freeSlot x with
 |none=>exact zep t _
 | some p =>
  obtain⟨s,b⟩:=p;exact z96 (put_ok h (z4i h q)) _
theorem z37 {c f m:Nat}{l p:Bool}{d:Array Int}{t:SetTable}{o:Array Nat}(e:SetTable.laid c f m l p d=Za (t,o)):Ok t/\t.led=l:=by
 unfold SetTable.laid at e;obtain⟨i,_,e⟩:=bS e;have e:=sI e;obtain⟨rfl,_⟩:=Prod.mk.inj e;refine⟨⟨?_,rfl⟩,rfl⟩;rw[zu8];show (((List.range (c+1)).filterMap λj=>(i.getD j Zb).map (j,·)).map (·.1)).Pairwise (· < ·);rw[Db,List.pairwise_filterMap];refine List.pairwise_lt_range.imp λ{a b} h x g y k=>?_;obtain⟨u,_,rfl⟩:=Ha.mp g;obtain⟨w,_,rfl⟩:=Ha.mp k;exact h
theorem relay_ok {t:SetTable} (es:Array (Int×Ze)) (n:Nat):Ok (relayAll t es n).2.1/\(relayAll t es n).2.1.led=t.led:=by
 unfold relayAll;cases q:t.relaid (es.map (·.1)) n with
 |none=>exact zep t _
 | some p =>
  obtain⟨a,o⟩:=p;dsimp only;split
  ·exact z37 q
  ·exact zep t _
noncomputable abbrev HT:=Array Int×SetTable
noncomputable def dmy (H:Array Int):Array (Int×Ze):=H.map λx=>(x,Ze.none)
theorem dmy_fst (H:Array Int):(dmy H).map (·.1)=H:=by
 unfold dmy;rw[Array.map_map];exact Array.map_id'' (λ_=>rfl) H
noncomputable def addT (p:HT) (h:Int):HT :=
 let r:=layNew p.2 (dmy p.1) h .none
 if !r.2.2.1&&r.2.1.tooFull then ((relayAll r.2.1 r.1 (SetTable.grown r.1.size)).1.map (·.1),(relayAll r.2.1 r.1 (SetTable.grown r.1.size)).2.1) else (r.1.map (·.1),r.2.1)
theorem ztt {α β:Type}(f:α->β)(xs:Array α)(p:Nat)(x:α):(SetTable.insertAt xs p x).map f=SetTable.insertAt (xs.map f) p (f x):=by
 apply Array.toList_inj.mp;rw[Gc,zje,zje,Gc];simp
theorem size_fst {es e:Array (Int×Ze)}(h:es.map (·.1)=e.map (·.1)):es.size=e.size:=by
 have:=congrArg Array.size h;rw[Array.size_map,Array.size_map] at this;exact this
theorem lay_sim {t:SetTable}{es e:Array (Int×Ze)} (h:es.map (·.1)=e.map (·.1)) (x:Int) (v v0:Ze):(layNew t es x v).1.map (·.1)=(layNew t e x v0).1.map (·.1)/\(layNew t es x v).2=(layNew t e x v0).2:=by
 have sz:=size_fst h;unfold layNew;cases q:t.freeSlot x with
 | none =>
  dsimp only;refine⟨by rw[Array.map_push,Array.map_push,h],by rw[sz]⟩
 | some p =>
  obtain⟨s,b⟩:=p;dsimp only;have a:(SetTable.insertAt es (t.put s).2 (x,v)).map (·.1)=(SetTable.insertAt e (t.put s).2 (x,v0)).map (·.1):=by rw[ztt,ztt,h]
  refine⟨a,?_⟩;rw[size_fst a]
theorem z3q {es e:Array (Int×Ze)}(h:es.map (·.1)=e.map (·.1))(i:Nat):(es[i]?).map (·.1)=(e[i]?).map (·.1):=by
 rw[<-Array.getElem?_map,<-Array.getElem?_map,h]
theorem relay_sim {t:SetTable}{es e:Array (Int×Ze)} (h:es.map (·.1)=e.map (·.1)) (n:Nat):(relayAll t es n).1.map (·.1)=(relayAll t e n).1.map (·.1)/\(relayAll t es n).2=(relayAll t e n).2:=by
 have sz:=size_fst h;unfold relayAll;rw[h];cases q:t.relaid (e.map (·.1)) n with
 |none=>dsimp only;rw[sz];exact⟨h,rfl⟩
 | some p =>
  obtain ⟨a,o⟩:=p;dsimp only;have f:(o.filterMap (es[·]?)).map (·.1)=(o.filterMap (e[·]?)).map (·.1):=by
   apply Array.toList_inj.mp;rw[Gc,Gc,Array.toList_filterMap,Array.toList_filterMap,List.map_filterMap,List.map_filterMap];congr 1
   funext i
   exact z3q h i
  rw[sz,size_fst f];split
  ·exact⟨f,rfl⟩
  ·exact⟨h,rfl⟩
theorem add_ok {p:HT}(h:SetT.Ok p.2)(x:Int):SetT.Ok (addT p x).2/\(addT p x).2.led=p.2.led:=by
 have l:=z7r h (dmy p.1) x .none;unfold addT;dsimp only;split
 ·have r:=relay_ok (t:=(layNew p.2 (dmy p.1) x .none).2.1) (layNew p.2 (dmy p.1) x .none).1 (SetTable.grown (layNew p.2 (dmy p.1) x .none).1.size);exact⟨r.1,r.2.trans l.2⟩
 ·exact l
end SetT
section
variable {prog:Program}{w:World}{A:Around}{E:Ze->Zf->Prop}{s:Zf}
noncomputable def SetX (prog:Program) (w:World) (p:SetT.HT) (h:Heap) (a:Zh) (S:Int->Bool) (n:Nat):Prop :=
 ∃o b c,h.get? a=Za o/\o.ExactSet/\o.data=.set b c p.2/\b.map (·.1)=p.1/\ElemsOf (intKind prog w) b.toList/\(∀k,S k=Zd↔∃e∈b.toList,(intKind prog w).is k e.2=Zd)/\b.size<scanBound/\p.2.fits b.size=Zd/\b.size=n
theorem zir {p:SetT.HT}{h:Heap}{a:Zh}{o:Obj}{es:Array (Int×Ze)}{ep:Nat}{t:SetTable} (go:h.get? a=Za o) (g:o.ExactSet) (m:o.data=.set es ep t) {b:Array (Int×Ze)}{t':SetTable}{S:Int->Bool} (j:ElemsOf (intKind prog w) b.toList) (d:∀k,S k=Zd↔∃e∈b.toList,(intKind prog w).is k e.2=Zd) (i:b.size<scanBound) (c:t'.fits b.size=Zd) (l:(b.map (·.1),t')=p) :
  (h.update a (Obj.putSet b t')).get? a=Za { o with data:=.set b (ep+1) t' }/\SetX prog w p (h.update a (Obj.putSet b t')) a S b.size:=by
 subst l;have f:=(SetOf_store (knd:=intKind prog w) go g m j d i c).1;exact⟨f,_,b,ep+1,f,g,rfl,rfl,j,d,i,c,rfl⟩
theorem zmv {I:SetT.HT}{g:Bool->Sem Unit} (O:∀(b:Bool) (l:Zf) (Q:Unit->Zf->Prop),Q () l->wpAny (model prog w) A (g b) Q E l)
  {a:Zh}{o:Obj}{es:Array (Int×Ze)}{ep:Nat}{t:SetTable} (go:s.heap.get? a=Za o) (J:o.ExactSet) (K:o.data=.set es ep t)
  {d:Array (Int×Ze)}{f:SetTable}{S:Int->Bool} (M:ElemsOf (intKind prog w) d.toList) (L:∀k,S k=Zd↔∃e∈d.toList,(intKind prog w).is k e.2=Zd)
  (B:d.size<scanBound) (N:f.fits d.size=Zd) {x:Bool} (n:(if !x&&f.tooFull then ((relayAll f d (SetTable.grown d.size)).1.map (·.1),(relayAll f d (SetTable.grown d.size)).2.1) else (d.map (·.1),f))=I) {R:Option Bool->Zf->Prop}
  (h:∀G,Heap.SameBut a s.heap G->SetX prog w I G a S d.size->R (Za Zd) { s with heap:=G }) :
  wpAny (model prog w) A (do
   storeSet a d f
   if (!x&&f.tooFull)=Zd then do
     g (relayAll f d (SetTable.grown d.size)).2.2
     storeSet a (relayAll f d (SetTable.grown d.size)).1 (relayAll f d (SetTable.grown d.size)).2.1
     pure (Za Zd)
    else pure (Za Zd)) R E s:=by
 refine Aa (wpAny_storeSet_of go K ?_ (fits_of_scanBound B));have H:=Bl s.heap a (Obj.putSet d f);obtain⟨u,z⟩:=zir (prog:=prog) (w:=w) go J K M L B N rfl;by_cases c:(!x&&f.tooFull)=Zd
 ·rw [if_pos c] at n ⊢
  have i:=relayAll_perm f d (SetTable.grown d.size);have m:=relayAll_fits f d (SetTable.grown d.size);generalize relayAll f d (SetTable.grown d.size)=P at i m n ⊢;obtain⟨j,T,F⟩:=P;dsimp only at i m n ⊢;have C:ElemsOf (intKind prog w) j.toList:=M.perm i;have D:∀v,S v=Zd↔∃e∈j.toList,(intKind prog w).is v e.2=Zd:=λv=>(L v).trans ⟨λ⟨e,y,q⟩=>⟨e,i.mem_iff.mpr y,q⟩,λ⟨e,y,q⟩=>⟨e,i.mem_iff.mp y,q⟩⟩;have sz:j.size=d.size:=by rw[<-Ay,i.length_eq,Ay]
  have p:j.size<scanBound:=by rw[sz];exact B
  refine Aa (O _ _ _ (Aa (wpAny_storeSet_of u rfl ?_ (fits_of_scanBound p))));obtain⟨_,r⟩:=zir (prog:=prog) (w:=w) u J rfl C D p m n;rw[sz] at r;exact Ac (h _ (H.trans (Bl _ a _)) r)
 ·rw [if_neg c] at n ⊢
  rw[n] at z;exact Ac (h _ H z)
noncomputable def nxt (prog:Program) (w:World) (p:SetT.HT) (S:Int->Bool) (k:Int):SetT.HT:=if S k then p else SetT.addT p ((intKind prog w).hash k)
theorem zzw {p:SetT.HT}{a:Zh}{S:Int->Bool}{n:Nat}{k:Int}{tk:Nat}{Q:Bool->Zf->Prop} (W:SetX prog w p s.heap a S n) (rm:n+1<scanBound)
  (h:∀m,Heap.SameBut a s.heap m->SetX prog w (nxt prog w p S k) m a (λg=>S g||decide (g=k)) (if S k then n else n+1)->Q (!S k) { s with heap:=m }) :
  wpAny (model prog w) A (setAddHashed a (.int k tk) ((intKind prog w).hash k)) Q E s:=by
 have K:(intKind prog w).is k (.int k tk)=Zd:=intKind_is _ _ _ _;have F:(Ze.int k tk).scannable=Zd:=rfl;obtain⟨o,c,ep,go,I,u,U,D,C,R,G,O⟩:=W;have N:c.size+1<scanBound:=by rw[O];exact rm
 unfold setAddHashed setAddHashedIn;refine Bq (Aa (Io go u G ?_));dsimp only;rw[byScan_of F R D];simp only [↓reduceIte];unfold setAddByScan;refine Aa (Aa (Cs (Aa (wpAny_setScan_of K go u G D ?_))));cases fr:List.findIdx? (λe=>(intKind prog w).is k e.2) c.toList with
 | some j =>
  dsimp only;obtain⟨X,Y,_⟩:=Gw.mp fr;have i:S k=Zd:=(C k).mpr ⟨c.toList[j],Ga X,Y⟩;refine Ac (Ac ?_);have e:s={ s with heap:=s.heap }:=by cases s;rfl
  have nx:nxt prog w p S k=p:=by unfold nxt;rw[i];rfl
  rw [nx] at h;have:=h s.heap (Heap.SameBut.refl a s.heap) ⟨o,c,ep,go,I,u,U,D,λg=>by
   rw[Ck,Ei,<-C g];exact⟨λP=>P.elim id (λe=>e ▸ i),.inl⟩,R,G,by rw[i];exact O⟩
  rw[i] at this;rw[e];exact this
 | none =>
  dsimp only;have i:S k=Zc:=by
   cases P:S k with
   |false=>rfl
   |true=>obtain⟨e,Z,hp⟩:=(C k).mp P;have:=List.findIdx?_eq_none_iff.mp fr e Z;rw[hp] at this;exact Bool.noConfusion this
  have nx:nxt prog w p S k=SetT.addT p ((intKind prog w).hash k):=by unfold nxt;rw[i];rfl
  rw [nx] at h;have gw:∀(b:Bool) {d:Zf}{v:Unit->Zf->Prop},v () d->wpAny (model prog w) A (match b with | true=>rule "set.scan.the-table-gave-way" | false=>pure ()) v E d :=
   λb d v q=>by cases b<;>first|exact Ac q|exact Cs q
  have l:=layNew_perm p.2 c ((intKind prog w).hash k) (.int k tk);have B:=layNew_fits p.2 c ((intKind prog w).hash k) (.int k tk);have L:c.map (·.1)=(SetT.dmy p.1).map (·.1):=by rw[SetT.dmy_fst];exact U
  obtain ⟨J,s2⟩:=SetT.lay_sim (t:=p.2) L ((intKind prog w).hash k) (.int k tk) .none;have ad:SetT.addT p ((intKind prog w).hash k)=(if !(layNew p.2 c ((intKind prog w).hash k) (.int k tk)).2.2.1&&(layNew p.2 c ((intKind prog w).hash k) (.int k tk)).2.1.tooFull then ((relayAll (layNew p.2 c ((intKind prog w).hash k) (.int k tk)).2.1 (layNew p.2 c ((intKind prog w).hash k) (.int k tk)).1 (SetTable.grown (layNew p.2 c ((intKind prog w).hash k) (.int k tk)).1.size)).1.map (·.1),(relayAll (layNew p.2 c ((intKind prog w).hash k) (.int k tk)).2.1 (layNew p.2 c ((intKind prog w).hash k) (.int k tk)).1 (SetTable.grown (layNew p.2 c ((intKind prog w).hash k) (.int k tk)).1.size)).2.1) else ((layNew p.2 c ((intKind prog w).hash k) (.int k tk)).1.map (·.1),(layNew p.2 c ((intKind prog w).hash k) (.int k tk)).2.1)):=by
   unfold SetT.addT;dsimp only;rw[<-s2,<-J,SetT.size_fst J];have T:=SetT.relay_sim (t:=(layNew p.2 c ((intKind prog w).hash k) (.int k tk)).2.1) J (SetTable.grown (layNew p.2 (SetT.dmy p.1) ((intKind prog w).hash k) .none).1.size);rw[T.1,T.2]
  rw[ad] at h;generalize layNew p.2 c ((intKind prog w).hash k) (.int k tk)=L0 at l B h ⊢;obtain⟨f,t1,wd,V⟩:=L0;dsimp only at l B h ⊢;rw[Cr] at l;have r:ElemsOf (intKind prog w) f.toList:=(D.push K F).perm l;have y:∀g,(S g||decide (g=k))=Zd↔∃e∈f.toList,(intKind prog w).is g e.2=Zd:=mem_push_iff K C l;have x:f.size<scanBound:=by rw[<-Ay,l.length_eq,Ax,Ay];simpa using N
  refine Aa (gw _ ?_);have M:f.size=n+1:=by rw[<-Ay,l.length_eq,Ax,Ay,O];rfl
  rw[i] at h;rw[if_neg Aq,<-M] at h;split
  ·refine Aa ?_
   rw[hashByValue_scannable 8 F];refine Ac ?_;simp only [plainKind,↓reduceIte];refine zmv ?_ go I u r y x B rfl ?_
   ·intro b d v q;cases b<;>first|exact Ac q|exact Cs q
   ·intro m H z;dsimp only;exact Ac (h m H z)
  ·refine Aa (Ac ?_)
   simp only [↓reduceIte];refine zmv ?_ go I u r y x B rfl ?_
   ·intro b d v q;cases b<;>first|exact Ac q|exact Cs q
   ·intro m H z;dsimp only;exact Ac (h m H z)
end
noncomputable def zbh (w:World):Bool:=w.params.followText "set-order"
noncomputable def ptab (w:World) (val:Nat->Int):Nat->SetT.HT
 |0=>(#[],.fresh 0 0 (!zbh w))
 |i+1=>if (firstMet val i).any (· == val i) then ptab w val i else SetT.addT (ptab w val i) (hashInt (val i))
theorem SetX.congr {prog:Program}{w:World}{p:SetT.HT}{h:Heap}{a:Zh}{S b:Int->Bool}{n c:Nat}(z:SetX prog w p h a S n)(e:∀k,S k=b k)(en:n=c):SetX prog w p h a b c:=by
 have:S=b:=funext e;subst this;subst en;exact z
section
variable {prog:Program}{w:World}{A:Around}{R:Result->Zf->Prop}{I:Zh}{fp wr:List Zh}{G:Array GenState->Array GenState->Prop}{n:Nat}{P:Nat->Ze->Prop}{St:Nat->Zf->Prop}
theorem zk3 (W:WalksS prog w A.in1 I fp wr G n P St) (S:Zh) (F:S ∉ fp) (val:Nat->Int) (J:∀i v,P i v->∃t,v=.int (val i) t) (g:n+1<scanBound) :
  ∀(k i:Nat) (s:Zf),n-i=k->i<=n->St i s->SetX prog w (ptab w val i) s.heap S (λc=>(firstMet val i).any (· == c)) (firstMet val i).length ->
   (∀a,Moved (S::wr) G s a->SetX prog w (ptab w val n) a.heap S (λc=>(firstMet val n).any (· == c)) (firstMet val n).length->R (.ok (.ret .none)) a) ->
   codeAny (model prog w) A (.builtin "set.update.loop" ⟨[.ref S,.ref I],[]⟩) R s:=by
 have H:S ∉ wr:=λh=>F (W.sub _ h);have E:∀b∈wr,b∈S::wr:=λb g=>Au _ g;intro k
 induction k with
 | zero =>
  intro i s O L m l fin;have u:i=n:=by omega
  subst u;refine Cp PyProof.Rows.F.entry_set_update_loop ?_;rw [Cz Gh _];show wpAny _ A.in1 (pyNext (.ref I)>>=_) _ _ s;refine Aa (W.done s _ _ m λa f=>?_);show wpAny _ A.in1 (ret Ze.none) _ _ a;exact Ac (fin a (f.mono E) (by
   obtain⟨o,p,y,go,rest⟩:=l;exact⟨o,p,y,f.heap S _ H go,rest⟩))
 | succ k M =>
  intro i s O L m l fin;have C:i<n:=by omega
  refine Cp PyProof.Rows.F.entry_set_update_loop ?_;rw [Cz Gh _];show wpAny _ A.in1 (pyNext (.ref I)>>=_) _ _ s;refine Aa (W.item i s _ _ C m λv a K r f=>?_);obtain ⟨t,rfl⟩:=J i v K;have j:SetX prog w (ptab w val i) a.heap S (λc=>(firstMet val i).any (· == c)) (firstMet val i).length:=by
   obtain⟨o,p,y,go,rest⟩:=l;exact⟨o,p,y,f.heap S _ H go,rest⟩
  show wpAny _ A.in1 (holding [Ze.int (val i) t] (setAdd S (.int (val i) t))>>=_) _ _ a;refine Aa (Bq ?_);unfold setAdd;refine Bq ?_;refine Aa ((intKind prog w).pyHash (k:=val i) (intKind_is _ _ _ _) ?_);have N:(firstMet val i).length+1<scanBound:=by have:=firstMet_length_le val i;omega
  refine zzw (s:={ a with toks:=a.toks+1 }) j N λQ D x=>?_;have B:SetX prog w (ptab w val (i+1)) Q S (λc=>(firstMet val (i+1)).any (· == c)) (firstMet val (i+1)).length :=
   SetX.congr x (λc=>by rw[firstMet_succ,step_any]) (by rw[firstMet_succ,step_length])
  refine Ac ⟨Hv Gh _,M (i+1) _ #v[] C (W.frame _ a _ _ r (Nat.le_succ _) λb g o e=>?_) B λq d z=>?_⟩
  ·rw[D.2 b (λh:b=S=>F (by rw[<-h];exact g))];exact e
  ·refine fin q (Moved.trans W.gtrans ((f.mono E).then_heap (Nat.le_succ _) λb o g e => ?_) d) z
   rw[D.2 b (λh:b=S=>g (by rw[h];exact Az))];exact e
end
section
variable {prog:Program}{w:World}{A:Around}{E:Ze->Zf->Prop}{s:Zf}
noncomputable abbrev new0 (w:World):Obj:={ cls:=.type "set",dict:=Zb,data:=.set #[] 0 (.fresh 0 0 (!zbh w)) }
theorem zeo (a:Ze) {Q₁:Ze->Zf->Prop} (h:Q₁ (.ref s.heap.objs.size) { s with heap:=s.heap.push { cls:=.type "set",dict:=Zb,data:=.set #[] 0 (.fresh 0 0 (!zbh w)) } }) :
  codeAny (model prog w) A (.call (.builtin "set.__new__") ⟨[.type "set",a],[]⟩) (wants Q₁ E) s:=by
 refine codeAny_of_tree ?_;show wpAny _ A.in1 (do checkBuiltinCall "set.__new__" ⟨[.type "set",a],[]⟩;again (.builtin "set.__new__" ⟨[.type "set",a],[]⟩)) _ _ s;refine Aa (Fc (PySem.F.newCall_set_1 a) (Ac ⟨Hv PySem.F.plain_set_new _,Cp PySem.F.entry_set_new ?_⟩));rw[Cz PySem.F.plain_set_new _];unfold Builtin.«set.__new__» Builtin.Frozenset.newClass;have c:=sub_set_self;obtain⟨b,g,d,t,o⟩:=s;dsimp only
 wp_walk
 refine Gp (Ac ?_);dsimp only;simp only [newObj];refine Aa (wpAny_alloc (Ac ?_));exact Ac h
theorem zim {h:Heap}{a:Zh}(go:h.get? a=Za { cls:=.type "set",dict:=Zb,data:=.set #[] 0 (.fresh 0 0 (!zbh w)) }):SetX prog w (#[],.fresh 0 0 (!zbh w)) h a (λ_=>Zc) 0 :=
 ⟨_,#[],0,go,⟨rfl,rfl,rfl⟩,rfl,by simp,λe m=>by simp at m,λk=>by simp,by decide,rfl,rfl⟩
set_option maxRecDepth 100000 in
set_option maxHeartbeats 3200000 in
theorem zw3 {l:Zh}{items:Array Ze}{ns:List Int}{Q:Ze->Zf->Prop}
  (M:A.handled=Zb) (x:s.heap.IsList l items) (ia:PyProof.Rows.IntsAre items.toList ns) (m:items.size+1<scanBound)
  (h:∀(a:Heap) (n:Nat),SetX prog w (ptab w (λi=>ns.getD i 0) items.size) a s.heap.objs.size (λq=>(PyProof.Rows.firstMet (λi=>ns.getD i 0) items.size).any (· == q)) (PyProof.Rows.firstMet (λi=>ns.getD i 0) items.size).length ->
   (∀b o,b<s.heap.objs.size->s.heap.get? b=Za o->a.get? b=Za o)->Q (.ref s.heap.objs.size) { s with heap:=a,toks:=n }) :
  wpAny (model prog w) A (call (.type "set") [.ref l]) Q E s:=by
 obtain⟨c,tl,k0⟩:=PySem.F.called_set.mro;have k1:=PySem.F.called_set.made;have k2:=PySem.F.called_set.sub;refine wpAny_call (codeAny_of_tree ?_);show wpAny _ _ (callAny (.type "set") _) _ _ _;refine Ac ⟨Code.quiet_builtin _ #v[0,0,7],Cp PySem.F.entry_type_call ?_⟩;rw[Around.under_plain (weight_type_call_type "set" [.ref l] []) rfl];have h1:=PySem.F.called_set.notType;have h2:=PySem.F.called_set.canCreate;have k5:=PySem.F.typeCall_set_1 (.ref l)
 repeat (any_goals (first|assumption|wp_step))
 refine Es (zeo (.ref l) (E:=E) (Q₁:=λobj f=>obj=.ref s.heap.objs.size/\f={ s with heap:=s.heap.push (new0 w) }) ⟨rfl,rfl⟩) λr f y=>?_;cases r with
 |error e=>exact y
 | ok Y =>
  cases Y with
  | ret obj =>
   obtain⟨rfl,rfl⟩:=y;have G:(s.heap.push (new0 w)).get? s.heap.objs.size=Za (new0 w):=Ah _ rfl;have ty:Zf.TypeIs { s with heap:=s.heap.push (new0 w) } (.ref s.heap.objs.size) "set" := ⟨_,G,rfl⟩;have f1:=PySem.F.called_set.init.lookup;have f2:=PySem.F.called_set.init.bind (.ref s.heap.objs.size)
   repeat (any_goals (first|assumption|wp_step))
   refine Es (codeAny_call_builtin (R:=wants (λr d=>r=.none/\∃a n,d={ s with heap:=a,toks:=n } /\
     SetX prog w (ptab w (λi=>ns.getD i 0) items.size) a s.heap.objs.size (λq=>(PyProof.Rows.firstMet (λi=>ns.getD i 0) items.size).any (· == q)) (PyProof.Rows.firstMet (λi=>ns.getD i 0) items.size).length /\
     (∀b o,b<s.heap.objs.size->s.heap.get? b=Za o->a.get? b=Za o)) E) PySem.F.called_set.init.plain PySem.F.entry_set_init (check_set_init_1 ty ?_)) λk d B=>?_
   ·obtain ⟨T,K,H,L,J⟩:=x
    obtain⟨c1,c2,c3,c4⟩:=T;simp only at H J;subst H;subst J;have g4:(s.heap.push (new0 w)).get? l=Za { cls:=.type "list",dict:=c2,data:=.seq items L,slots:=c4 }:=Ab _ K;have u1:=PySem.F.sub_list_set;have u2:=PySem.F.sub_list_frozenset;have u3:(Ze.type "list" == Ze.type "dict")=Zc:=by decide
    have I:(s.heap.push (new0 w)).IsList l items:=⟨_,g4,rfl,L,rfl⟩;unfold Builtin.«set.__init__» noKeywords Builtin.Frozenset.updateFrom;generalize F:pyIter=P0
    wp_walk
    subst F;refine Gf I ?_;refine Aa (Il ?_);have j:l<s.heap.objs.size:=Aj K;have X:A.in1.in1.in1.handled=Zb:=by simp [M]
    have D:l≠(s.heap.push (new0 w)).objs.size:=by
     rw[Cq];exact Aw (Dq j)
    have nf:s.heap.objs.size ∉ [(s.heap.push (new0 w)).objs.size,l]:=by
     rw[Cq];simp only [Ar,Ao,Bx,Gk,not_or];exact⟨Aw (Nat.lt_succ_self _),Ej j⟩
    have N:∀(i:Nat) (v:Ze),items[i]?=Za v->∃t,v=.int ((λi=>ns.getD i 0) i) t:=λi v hv =>
     PyProof.Rows.IntsAre.int_at ia i v (by rw[Cd];exact hv)
    refine zk3 ((Walks.list X _ l D items).toS) s.heap.objs.size
     nf (λi=>ns.getD i 0) N m (items.size-0) 0 _ #v[] (Bi _)
     ⟨⟨_,Ah _ rfl,rfl,rfl⟩,(I.push _)⟩ ?hS0 ?fin
    case hS0 =>
     have V:((s.heap.push (new0 w)).push { cls:=.type "list_iterator",data:=.fields #[.ref l,.int 0 0] }).get? s.heap.objs.size
       = Za (new0 w):=Ab _ G
     exact zim V
    case fin =>
     intro Z p C;obtain ⟨a,g',d',z,u⟩:=Z;have W:g'=s.gens:=p.gens;have P:d'=s.drawn:=p.drawn;have O:u=s.os:=p.os;subst W;subst P;subst O;show wpAny _ _ _ _ _ _;refine Ac ?_;show wpAny _ _ (ret Ze.none) _ _ _;refine Ac ⟨rfl,a,z,rfl,C,λb o m e=>?_⟩;have r1:b≠s.heap.objs.size:=Aw m;have U:b≠(s.heap.push (new0 w)).objs.size:=by
      rw[Cq];exact Aw (Dq m)
     exact p.heap b o (by simp only [Ar,Ao,Bx,Gk,not_or];exact⟨r1,U⟩) (Ab _ (Ab _ e))
   ·cases k with
    |error e=>exact B
    | ok g =>
     cases g with
     | ret r =>
      obtain⟨rfl,a,n,rfl,C,S⟩:=B
      repeat (any_goals (first|assumption|wp_step))
      exact h _ _ C S
     |_=>exact B.elim
  |_=>exact y.elim
end
end L2
namespace L2
open PySem PySem.Spec PyProof.Rows
theorem zay:Slot "set_iterator" "__next__" "set_iterator.__next__" :=
 .of (owner := "set_iterator") (n := "__next__") (by rw[typeLookup_type,builtinLookup_eq_fast];kernel_rfl) #v[0,0,7] #v[0,0,7] #v[0,0,7]
  (by first|exact .inl #v[0,0,7]|exact .inr #v[0,0,7]) (by rw[isSubtype_type];kernel_rfl)
theorem zd7:entryFor table "set_iterator.__next__" = Za Builtin.«set_iterator.__next__»:=entryFor_of_tree (by kernel_rfl)
theorem zfm (a:Ze):argsOk "set_iterator.__next__" ⟨[a],[]⟩:=by unfold argsOk;kernel_rfl
theorem ziz:entryFor table "set.__iter__" = Za Builtin.«frozenset.__iter__»:=entryFor_alias (id' := "frozenset.__iter__") (by kernel_rfl) rfl #v[0,0,7] (by kernel_rfl)
noncomputable def IsSi (h:Heap) (r d:Zh) (slot i n ep:Nat):Prop:=∃o,h.get? r=Za o/\o.cls=.type "set_iterator"/\o.data=.fields #[rawInt slot,rawInt i,.ref d,rawInt n,rawInt ep]
structure Lies (w:World) (d:Zh) (es:Array (Int×Ze)) (ep:Nat) (t:SetTable) (h:Heap):Prop where
 obj:∃o,h.get? d=Za o/\o.cls=.type "set"/\o.data=.set es ep t
theorem Lies.at' {w:World}{d:Zh}{es:Array (Int×Ze)}{ep:Nat}{t:SetTable}{h h':Heap}(x:Lies w d es ep t h)(k:∀o,h.get? d=Za o->h'.get? d=Za o):Lies w d es ep t h':=let ⟨o,e,r⟩:=x.obj;⟨o,k o e,r⟩
noncomputable def wkL (w:World) (d:Zh) (es:Array (Int×Ze)) (ep:Nat):Array (Int×Ze):=if zbh w then pickOrder (w.params.setOrder d ep) es else es
noncomputable def zdt (t:SetTable) (i:Nat):Nat:=if i=0 then 0 else t.place.getD (i-1) 0+1
section
variable {prog:Program}{w:World}{A:Around}{E:Ze->Zf->Prop}{s:Zf}{it d:Zh}{es:Array (Int × Ze)}{ep slot i:Nat}{t:SetTable}
theorem IsSi.ty {n:Nat}(x:IsSi s.heap it d slot i n ep):s.TypeIs (.ref it) "set_iterator" := let ⟨o,a,h,_⟩:=x;⟨o,a,h⟩
theorem zxd {t:SetTable}(h:SetT.Ok t){i:Nat}(f:i<=t.place.size):SetTable.below t.place (zdt t i)=i:=by
 obtain⟨e,a,d⟩:=SetT.below_ok h.ris (zdt t i);generalize SetTable.below t.place (zdt t i)=b at *
 rcases Nat.lt_trichotomy b i with c|c|c
 ·exfalso;have:=d (i-1) #v[] #v[];unfold zdt at this;rw[if_neg #v[]] at this;omega
 ·exact c
 ·exfalso;have:=a i c;unfold zdt at this;by_cases z:i=0
  ·rw[if_pos z] at this;omega
  ·rw[if_neg z] at this;have r:=h.ris (i-1) i #v[] #v[];omega
theorem zin {Q:Option (Ze×Nat)->Zf->Prop} (L:Lies w d es ep t s.heap) (a:t.fits es.size=Zd) (ok:SetT.Ok t) (p:t.plain=Zd) (m:zbh w=Zc->t.led=Zd) (q:i<=es.size) (l:zbh w=Zc->slot=zdt t i)
  (h:Q (((wkL w d es ep)[i]?).map λe=>(e.2,if zbh w then slot else zdt t (i+1))) s):wpAny (model prog w) A (setNext d slot i ep) Q E s:=by
 obtain ⟨o,g,n,j⟩:=L.obj;unfold setNext;refine Aa (Io g j a ?_);dsimp only;unfold setsByText;refine Aa (Aa (Gp (Ac ?_)));have fs:t.place.size=es.size:=by
  unfold SetTable.fits at a;rw[Ae] at a;exact Bm a.1
 show wpAny _ _ (if zbh w=Zd then _ else _) _ _ s;cases b:zbh w with
 | true =>
  rw[if_pos rfl,if_neg (by simp)];refine Aa ?_;unfold setWalk;refine Aa (Io g j a ?_);dsimp only;unfold setsByText;refine Aa (Aa (Gp (Ac ?_)));show wpAny _ _ (if zbh w=Zd then _ else _) _ _ s;rw[if_pos b];refine Aa (Gp (Ac (Ac ?_)));have e:wkL w d es ep=pickOrder (w.params.setOrder d ep) es:=by unfold wkL;rw[b];rfl
  rw[e,b] at h;exact h
 | false =>
  rw[if_neg Aq];split
  ·rename_i z
   exfalso;have z:(!t.plain&&decide (es.size > 1))=Zd:=z;rw[p] at z;cases z
  ·show wpAny _ _ ((if (!t.led && !es.isEmpty)=Zd then unsupported "set:maker-not-led" else pure ())>>=_) _ _ s
   rw[if_neg (by rw[m b];exact Aq)];refine Aa (Ac (Ac ?_));rw[l b,zxd ok #v[]];have e:wkL w d es ep=es:=by unfold wkL;rw[b];rfl
   rw[e,b] at h;by_cases c:i<es.size
   ·have f:i<t.place.size:=by omega
    rw [Bw c] at h ⊢;rw [Bw f];have k:zdt t (i+1)=t.place[i]+1:=by
     unfold zdt;rw[if_neg #v[],Nat.add_sub_cancel];unfold Array.getD;rw[dif_pos f]
     rfl
    have h:Q (Za (es[i].2,zdt t (i+1))) s:=h;rw[k] at h;exact h
   ·rw [Cb (by omega)] at h ⊢
    exact h
theorem z5c {Q:Option Ze->Zf->Prop}{v:Ze} (g:IsSi s.heap it d slot i es.size ep) (L:Lies w d es ep t s.heap) (m:t.fits es.size=Zd) (ok:SetT.Ok t) (B:t.plain=Zd) (C:zbh w=Zc->t.led=Zd) (G:i<es.size) (x:zbh w=Zc->slot=zdt t i) (r:((wkL w d es ep)[i]?).map (·.2)=Za v)
  (p:∀l c,IsSi l it d c (i+1) es.size ep->(zbh w=Zc->c=zdt t (i+1))->(∀b o,b≠it->s.heap.get? b=Za o->l.get? b=Za o)->Q (Za v) { s with heap:=l }):wpAny (model prog w) A (pyNext (.ref it)) Q E s:=by
 obtain⟨D,f,j,h⟩:=id g;obtain⟨o,q,F,y⟩:=L.obj;unfold pyNext;refine Aa (Dv (Bs (name:=Str.ofString "__next__") g.ty zay (Cc zay g.ty zd7 ?_ (zfm _))));unfold Builtin.«set_iterator.__next__»;refine Aa (Fc (a:=(Ze.ref it,[])) rfl ?_)
 try dsimp only
 refine Aa (wpAny_fieldsOf f h ?_);show wpAny _ _ (setEntries d>>=_) _ _ s;refine Aa (wpAny_setEntries_of q y m ?_);rw[if_neg (by simp)];show wpAny _ _ (setNext d slot i ep>>=_) _ _ s;refine Aa (zin (slot:=slot) (i:=i) L m ok B C #v[] x ?_);obtain⟨e,z,rfl⟩:=Ha.mp r;rw[z];show wpAny _ _ (setField (.ref it) 0 (rawInt ((if zbh w then slot else zdt t (i+1):Nat):Int))>>=_) _ _ s;generalize k:(if zbh w then slot else zdt t (i+1))=sl;refine Aa (Gj f h (by simp) ?_);have n:=Gb (Obj.mapFields (·.setIfInBounds 0 (rawInt (sl:Int)))) f (Hr (Cw h _));refine Aa (Gj n (Cw h _) (by simp) ?_);refine Ac ⟨_,rfl,Ac (p _ sl ?_ (λb=>by rw[<-k,b];rfl) λb o ne u=>?_)⟩
 ·exact ⟨_,Gb _ n (Hr (Cw (Cw h _) _)),(Iq ..).trans ((Iq ..).trans j),by
   rw[Cw (Cw h _)];simp⟩
 ·exact (Bl ..).extBut b o ne ((Bl ..).extBut b o ne u)
theorem pick_go {α:Type} (f:Nat->Nat):∀(a k:Nat) (left:List α) (out:Array α),left.length=a->(pickOrder.go f a k left out).toList.Perm (out.toList++left)
 | 0,k,left,out,h=>by
  unfold pickOrder.go;rw[Eu.mp h,Bv]
 | a+1,k,left,out,h=>by
  unfold pickOrder.go;have lt:f k%left.length<left.length:=Nat.mod_lt _ #v[];rw[Af lt];dsimp only;refine (pick_go f a (k+1) _ _ (by rw[List.length_eraseIdx_of_lt lt];omega)).trans ?_;rw[Cr,Bb];refine List.Perm.append_left _ ?_;rw[List.singleton_append];have e:=Br (f k%left.length) left;rw[List.eraseIdx_eq_take_drop_succ];refine (List.perm_middle.symm).trans ?_
  conv=>rhs;rw[<-e,Cy lt]
theorem zo0:(wkL w d es ep).toList.Perm es.toList:=by
 unfold wkL;split
 ·have:=pick_go (w.params.setOrder d ep) es.size 0 es.toList #[] (Ay ..);unfold pickOrder;simpa using this
 ·exact .refl _
theorem zng:(wkL w d es ep).size=es.size:=by rw[<-Ay,zo0.length_eq,Ay]
theorem z67 {Q:Option Ze->Zf->Prop} (g:A.handled=Zb) (h:IsSi s.heap it d slot es.size es.size ep) (L:Lies w d es ep t s.heap) (f:t.fits es.size=Zd) (ok:SetT.Ok t) (p:t.plain=Zd) (r:zbh w=Zc->t.led=Zd) (k:zbh w=Zc->slot=zdt t es.size)
  (l:∀j,(∀b o,b≠it->s.heap.get? b=Za o->j.get? b=Za o)->Q Zb { s with heap:=j }):wpAny (model prog w) A (pyNext (.ref it)) Q E s:=by
 obtain⟨y,c,v,e⟩:=id h;obtain⟨o,n,x,q⟩:=L.obj;unfold pyNext;refine Aa (Dv (Bs (name:=Str.ofString "__next__") h.ty zay (Cc zay h.ty zd7 ?_ (zfm _))));unfold Builtin.«set_iterator.__next__»;refine Aa (Fc (a:=(Ze.ref it,[])) rfl ?_)
 try dsimp only
 refine Aa (wpAny_fieldsOf c e ?_);show wpAny _ _ (setEntries d>>=_) _ _ s;refine Aa (wpAny_setEntries_of n q f ?_);rw[if_neg (by simp)];show wpAny _ _ (setNext d slot es.size ep>>=_) _ _ s;refine Aa (zin (slot:=slot) (i:=es.size) L f ok p r (Ag _) k ?_);rw[Cb (by rw[zng];exact Ag _)];show wpAny _ _ (setField (.ref it) 2 .none>>=_) _ _ s;refine Aa (Gj c e (by simp) ?_);show wpAny _ _ (newExc (.type "StopIteration") []>>=_) _ _ _;refine Aa ?_;simp only [newExc,newTuple];refine Aa (Bp ?_ (by size_fits));refine Aa (m:=firstArgMember _ _) (Fc (a:=Ze.none) (by first|rfl|(simp only [firstArgMember];rfl)) ?_);refine Bp ?_ (by size_fits);simp only [raiseNew];refine Aa (wpAny_handled ?_)
 first|rw[show A.in1.handled=Zb from g]|rw[g]
 refine Aa (Ac (wpAny_throw ?_));refine Aa (Ez (T := "StopIteration") (b:=Zd) ⟨_,Ah _ rfl,rfl⟩ isSubtype_stop ?_);exact Ac (l _ λb o ne u=>Ab _ (Ab _ ((Bl ..).extBut b o ne u)))
theorem zfj:Slot "set_iterator" "__iter__" "set_iterator.__iter__" :=
 .of (owner := "set_iterator") (n := "__iter__") (by rw[typeLookup_type,builtinLookup_eq_fast];kernel_rfl) #v[0,0,7] #v[0,0,7] #v[0,0,7]
  (by first|exact .inl #v[0,0,7]|exact .inr #v[0,0,7]) (by rw[isSubtype_type];kernel_rfl)
theorem zkw (a:Ze):argsOk "set_iterator.__iter__" ⟨[a],[]⟩:=by unfold argsOk;kernel_rfl
theorem zkh:entryFor table "set_iterator.__iter__" = Za Builtin.«dict_keyiterator.__iter__» :=
 entryFor_alias (id' := "dict_keyiterator.__iter__") (by kernel_rfl) rfl #v[0,0,7] (by kernel_rfl)
theorem z3f {n:Nat}{Q:Ze->Zf->Prop}(a:IsSi s.heap it d slot i n ep)(h:Q (.ref it) s):wpAny (model prog w) A (pyIter (.ref it)) Q E s:=by
 refine wpAny_pyIter_slot a.ty zfj (Cc zfj a.ty zkh ?_ (zkw _));show wpAny _ _ (ret (.ref it)) _ _ s;exact Ac ⟨_,rfl,"set_iterator",_,a.ty,zay.lookup,h⟩
theorem z2y {Q:Ze->Zf->Prop} (L:Lies w d es ep t s.heap) (c:t.fits es.size=Zd) (p:t.plain=Zd)
  (g:Q (.ref s.heap.objs.size) { s with heap:=s.heap.push { cls:=.type "set_iterator",data:=.fields #[rawInt (0:Nat),rawInt (0:Nat),.ref d,rawInt es.size,rawInt ep] } }):wpAny (model prog w) A (pyIter (.ref d)) Q E s:=by
 obtain⟨o,h,f,b⟩:=L.obj;have e:s.TypeIs (.ref d) "set" := ⟨o,h,f⟩;refine wpAny_pyIter_slot e PySem.F.slot_set_iter (Cc PySem.F.slot_set_iter e ziz ?_ (PySem.F.args_set_iter_1 _));unfold Builtin.«frozenset.__iter__»;refine Aa (Fc (a:=d) rfl ?_);unfold Builtin.Frozenset.sizeOf;refine Aa (Aa (wpAny_setEntries_of h b c (Ac ?_)));unfold setDrawn;refine Aa (Aa (Io h b c ?_));dsimp only;unfold setsByText;refine Aa (Aa (Gp (Ac (Ac ?_))));split
 ·rename_i z;exfalso;have z:(!zbh w&&(!t.plain&&decide (es.size > 1)))=Zd:=z;rw[p] at z;simp at z
 ·refine Aa (Ac (Aa (wpAny_setEpoch_of h b c ?_)));refine Aa (show wpAny _ _ (newObj (.type "set_iterator") (.fields #[rawInt 0,rawInt 0,.ref d,rawInt es.size,rawInt ep])) _ _ _ from Bp ?_);exact Ac ⟨_,rfl,"set_iterator",_,⟨_,Ah _ rfl,rfl⟩,zay.lookup,g⟩
theorem zzo {Q:Bool->Zf->Prop}{r:Zh}(d:s.TypeIs (.ref r) "set")(h:Q Zc s):wpAny (model prog w) A (Builtin.List.listLengthHint (.ref r)) Q E s:=by
 unfold Builtin.List.listLengthHint;refine Aa (wpAny_specialOf d PySem.F.slot_set_len.lookup ?_);generalize c:("set.__len__" : String)=id0
 wp_delta
 rw[show splitId id0=Za ("set","__len__") from by subst c;decide +kernel];subst c;refine Aa (Ez (T := "set") (b:=Zd) d (by rw[isSubtype_type];kernel_rfl) ?_);refine wpAny_ite_split (λa=>absurd a #v[0,9]) (λ_=>?_);refine wpAny_ite_split (λ_=>?_) (λa=>absurd #v[0,0,7] a);refine Aa (wpAny_typeOf d ?_);exact Ac h
end
theorem z2s {prog:Program}{w:World}{d:Zh}{es:Array (Int×Ze)}{ep:Nat}{t:SetTable} (x:t.fits es.size=Zd) (ok:SetT.Ok t) (B:t.plain=Zd) (H:zbh w=Zc->t.led=Zd) :
  PySem.W.KdlSrc prog w "set" d d es.size (λi v=>((wkL w d es ep)[i]?).map (·.2)=Za v) (Lies w d es ep t) where
 type:=λ_ L=>let ⟨o,c,y,_⟩:=L.obj;⟨o,c,y⟩
 there:=λ_ L=>let ⟨_,c,_⟩:=L.obj;⟨Aj c,Aj c⟩
 keep:=λ_ _ L k=>L.at' λo e=>k d (.inl rfl) o e
 notList:=by decide
 notTuple:=by decide
 hint:=λ_ _ _ _ L q=>zzo (let ⟨o,c,y,_⟩:=L.obj;⟨o,c,y⟩) q
 iter:=λA s I L=>by
  have lt:d<s.heap.objs.size:=let ⟨_,c,_⟩:=L.obj;Aj c;refine⟨_,λi h=>∃slot,IsSi h s.heap.objs.size d slot i es.size ep/\(zbh w=Zc->slot=zdt t i)/\Lies w d es ep t h,λ_ _ q=>z2y L x B q,⟨?_,?_,?_,?_,?_⟩,0,⟨_,Ah _ rfl,rfl,rfl⟩,λ_=>rfl,L.at' λo e=>Ab _ e⟩
  ·intro b F;rw[Ao] at F;rw[F];exact Az
  ·intro i h u ⟨slot,⟨o,e,r⟩,l,g⟩ k;exact⟨slot,⟨o,k _ Az o e,r⟩,l,g.at' λo e=>k d (Au _ (Ao.mpr rfl)) o e⟩
  ·intro i p Q E G ⟨slot,a,l,g⟩ j;have n:∃v,((wkL w d es ep)[i]?).map (·.2)=Za v:=⟨_,by rw[Bw (by rw[zng];exact G)];rfl⟩;obtain⟨v,n⟩:=n;refine z5c a g x ok B H G l n λu f m C k=>?_;exact j v u p.toks n ⟨f,m,C,g.at' λo e=>k d o (Aw lt) e⟩ λb o D e=>k b o (λz=>D (by rw[z];exact Ao.mpr rfl)) e
  ·intro p Q E ⟨slot,a,l,g⟩ j;exact z67 I a g x ok B H l λu k=>j u p.toks λb o D e=>k b o (λz=>D (by rw[z];exact Ao.mpr rfl)) e
  ·intro i p Q E ⟨slot,a,_,_⟩ j;exact z3f a j
section
variable {prog:Program}{w:World}{A:Around}{E:Ze->Zf->Prop}{s:Zf}
set_option maxHeartbeats 3200000 in
theorem zrc {l:Zh}{items:Array Ze}{ns:List Int}{Q:Ze->Zf->Prop}
  (M:A.handled=Zb) (x:s.heap.IsTuple l items) (ia:PyProof.Rows.IntsAre items.toList ns) (m:items.size+1<scanBound)
  (h:∀(a:Heap) (n:Nat),SetX prog w (ptab w (λi=>ns.getD i 0) items.size) a s.heap.objs.size (λq=>(PyProof.Rows.firstMet (λi=>ns.getD i 0) items.size).any (· == q)) (PyProof.Rows.firstMet (λi=>ns.getD i 0) items.size).length ->
   (∀b o,b<s.heap.objs.size->s.heap.get? b=Za o->a.get? b=Za o)->Q (.ref s.heap.objs.size) { s with heap:=a,toks:=n }) :
  wpAny (model prog w) A (call (.type "set") [.ref l]) Q E s:=by
 obtain⟨c,tl,k0⟩:=PySem.F.called_set.mro;have k1:=PySem.F.called_set.made;have k2:=PySem.F.called_set.sub;refine wpAny_call (codeAny_of_tree ?_);show wpAny _ _ (callAny (.type "set") _) _ _ _;refine Ac ⟨Code.quiet_builtin _ #v[0,0,7],Cp PySem.F.entry_type_call ?_⟩;rw[Around.under_plain (weight_type_call_type "set" [.ref l] []) rfl];have h1:=PySem.F.called_set.notType;have h2:=PySem.F.called_set.canCreate;have k5:=PySem.F.typeCall_set_1 (.ref l)
 repeat (any_goals (first|assumption|wp_step))
 refine Es (zeo (.ref l) (E:=E) (Q₁:=λobj f=>obj=.ref s.heap.objs.size/\f={ s with heap:=s.heap.push (new0 w) }) ⟨rfl,rfl⟩) λr f y=>?_;cases r with
 |error e=>exact y
 | ok Y =>
  cases Y with
  | ret obj =>
   obtain⟨rfl,rfl⟩:=y;have G:(s.heap.push (new0 w)).get? s.heap.objs.size=Za (new0 w):=Ah _ rfl;have ty:Zf.TypeIs { s with heap:=s.heap.push (new0 w) } (.ref s.heap.objs.size) "set" := ⟨_,G,rfl⟩;have f1:=PySem.F.called_set.init.lookup;have f2:=PySem.F.called_set.init.bind (.ref s.heap.objs.size)
   repeat (any_goals (first|assumption|wp_step))
   refine Es (codeAny_call_builtin (R:=wants (λr d=>r=.none/\∃a n,d={ s with heap:=a,toks:=n } /\
     SetX prog w (ptab w (λi=>ns.getD i 0) items.size) a s.heap.objs.size (λq=>(PyProof.Rows.firstMet (λi=>ns.getD i 0) items.size).any (· == q)) (PyProof.Rows.firstMet (λi=>ns.getD i 0) items.size).length /\
     (∀b o,b<s.heap.objs.size->s.heap.get? b=Za o->a.get? b=Za o)) E) PySem.F.called_set.init.plain PySem.F.entry_set_init (check_set_init_1 ty ?_)) λk d B=>?_
   ·obtain ⟨T,K,H,L,J⟩:=x
    obtain⟨c1,c2,c3,c4⟩:=T;simp only at H J;subst H;subst J;have g4:(s.heap.push (new0 w)).get? l=Za { cls:=.type "tuple",dict:=c2,data:=.seq items L,slots:=c4 }:=Ab _ K;have u1:=PySem.F.sub_tuple_set;have u2:=PySem.F.sub_tuple_frozenset;have u3:(Ze.type "tuple" == Ze.type "dict")=Zc:=by decide
    have I:(s.heap.push (new0 w)).IsTuple l items:=⟨_,g4,rfl,L,rfl⟩;unfold Builtin.«set.__init__» noKeywords Builtin.Frozenset.updateFrom;generalize F:pyIter=P0
    wp_walk
    subst F;refine He I ?_;refine Aa (Il ?_);have j:l<s.heap.objs.size:=Aj K;have X:A.in1.in1.in1.handled=Zb:=by simp [M]
    have D:l≠(s.heap.push (new0 w)).objs.size:=by
     rw[Cq];exact Aw (Dq j)
    have nf:s.heap.objs.size ∉ [(s.heap.push (new0 w)).objs.size,l]:=by
     rw[Cq];simp only [Ar,Ao,Bx,Gk,not_or];exact⟨Aw (Nat.lt_succ_self _),Ej j⟩
    have N:∀(i:Nat) (v:Ze),items[i]?=Za v->∃t,v=.int ((λi=>ns.getD i 0) i) t:=λi v hv =>
     PyProof.Rows.IntsAre.int_at ia i v (by rw[Cd];exact hv)
    refine zk3 ((Walks.tuple X _ l D items).toS) s.heap.objs.size
     nf (λi=>ns.getD i 0) N m (items.size-0) 0 _ #v[] (Bi _)
     ⟨⟨_,Ah _ rfl,rfl,rfl⟩,(I.push _)⟩ ?hS0 ?fin
    case hS0 =>
     have V:((s.heap.push (new0 w)).push { cls:=.type "tuple_iterator",data:=.fields #[.ref l,.int 0 0] }).get? s.heap.objs.size
       = Za (new0 w):=Ab _ G
     exact zim V
    case fin =>
     intro Z p C;obtain ⟨a,g',d',z,u⟩:=Z;have W:g'=s.gens:=p.gens;have P:d'=s.drawn:=p.drawn;have O:u=s.os:=p.os;subst W;subst P;subst O;show wpAny _ _ _ _ _ _;refine Ac ?_;show wpAny _ _ (ret Ze.none) _ _ _;refine Ac ⟨rfl,a,z,rfl,C,λb o m e=>?_⟩;have r1:b≠s.heap.objs.size:=Aw m;have U:b≠(s.heap.push (new0 w)).objs.size:=by
      rw[Cq];exact Aw (Dq m)
     exact p.heap b o (by simp only [Ar,Ao,Bx,Gk,not_or];exact⟨r1,U⟩) (Ab _ (Ab _ e))
   ·cases k with
    |error e=>exact B
    | ok g =>
     cases g with
     | ret r =>
      obtain⟨rfl,a,n,rfl,C,S⟩:=B
      repeat (any_goals (first|assumption|wp_step))
      exact h _ _ C S
     |_=>exact B.elim
  |_=>exact y.elim
end
section
variable {X:Cx}{pins:List (Zh × Obj)}{σ:St}{H:Hp}
theorem zy5 {s:Zf}{T:String}{r d:Zh}{n:Nat}{P:Nat->Ze->Prop}{OK:Heap->Prop}{l:List Int}{Q:Ze->Zf->Prop}{E:Ze->Zf->Prop} (hc:X.calm=Zd) (I:Inv X pins σ H s) (C:PySem.W.KdlSrc X.prog X.w T r d n P OK) (da:OK s.heap) (zk:n<=sizeLine) (D:∀f:Array Ze,ItemsOf P f n->∃Z:List Int,Vals (Z.map V.int) f.toList/\Z.Perm l)
  (q:∀p Y,H p=Zb->Inv X pins σ (upd H p (.lst ((zbt l).map V.int))) Y->Q (.ref p) Y):wpAny (model X.prog X.w) X.A (call (.builtin "sorted") [.ref r]) Q E s:=by
 refine Ie kind_sorted plain_sorted entry_sorted (args_sorted1 _) ?_;unfold Builtin.«sorted»;refine Aa (m:=checkCount "sorted" 1 1 _) (Ac ?_);refine Aa (ze4 C (I.ok.hd hc) da zk λj B f J U=>?_);obtain⟨l1,l2⟩:=zcz U;obtain⟨k,O,M⟩:=D f U;generalize f.toList=vs at l1 O ⊢;have lv:k.length=vs.length:=by have:=O.length;rw[Ad] at this;exact this
 have u:vs.length<=sizeLine:=by rw[l1];exact zk
 have K:IntsAre vs k:=zex O;have R:Inv X pins σ H { s with heap:=j,toks:=B }:=I.kept J;refine Aa (Gy ?_ u);have g:(j.push (seqObj "list" vs.toArray 0)).get? j.objs.size=Za (seqObj "list" vs.toArray 0):=Ah _ rfl;have keep:∀b o,j.get? b=Za o->(j.push (seqObj "list" vs.toArray 0)).get? b=Za o:=λb o q=>Ab _ q;show wpAny _ _ _ _ _ { s with heap:=j.push (seqObj "list" vs.toArray 0),toks:=B };generalize j.push (seqObj "list" vs.toArray 0)=h3 at g keep ⊢;obtain⟨a,A⟩ : ∃a,a=j.objs.size:=⟨_,rfl⟩;show wpAny _ _ (holding [.ref j.objs.size] _>>=_) _ _ _;rw[<-A] at g ⊢;refine Aa (Bq (Iv slot_list_sort ⟨_,g,rfl⟩ entry_list_sort ?body (args_list_sort _)))
 case body =>
  refine zgg (s:={ s with heap:=h3,toks:=B }) g K u λr h' c pm pw ga kp=>⟨_,rfl,?_⟩;have L:∀x∈r,x.2=x.1/\∃n t,x.1=Ze.int n t:=λx F=>by
   obtain⟨N,G⟩:=zjl (pm.mem_iff.mp F);obtain⟨i,hi,e⟩:=Ch.mp G;obtain⟨t,ht⟩:=K.get i k[i] (Af #v[]);rw[Af hi,e] at ht;exact⟨N,_,t,sI ht⟩
  have pi:(r.map λx=>(kN x.1).headD 0).Perm k:=by
   refine (pm.map _).trans ?_;have:∀{vs:List Ze}{k:List Int},IntsAre vs k->(vs.zip vs).map (λx=>(kN x.1).headD 0)=k:=λ{vs k} h=>by
    induction h with
    |nil=>rfl
    |cons n t h ih=>rw[Bh,Ak,ih];rfl
   rw[this K]
  have ps:(r.map λx=>(kN x.1).headD 0).Pairwise (·<=·):=by
   rw[Db];refine pw.imp_of_mem λ{x y} F hy z=>?_;obtain⟨_,n,t,N⟩:=L x F;obtain⟨_,m,t',G⟩:=L y hy;rw[N,G] at z ⊢;have z:lexI [m] [n]=Zc:=z;rw[zf2] at z;have:=Gq z;show n<=m;omega
  have W:=zf1 (pi.trans M) ps;have w:=zet L;rw[<-W] at w;refine Ac ⟨_,rfl,q a _ (R.hok.fresh (Hu A.symm)) (R.laid (t':=B) (o:=.lst ((zbt l).map V.int)) (λb o S=>kp b o (λz=>Cg _ (by have:=Aj S;rw[z,A] at this;exact this)) (keep b o S)) (Hu A.symm) ?_)⟩;exact⟨by rw[W,Ad,pi.length_eq];omega,_,c,w,ga⟩
end
theorem zg4:∀{D M:List Int},D.Nodup->(∀k∈D,k∈M)->M.length=D.length->M.Perm D
 |[],M,_,_,l=>by rw[Ee] at l;rw[Eu.mp l]
 | x::D,M,n,h,l=>by
  have b:=h x (.head _);have c:=Dd.mp n;refine (List.perm_cons_erase b).trans (.cons x (zg4 c.2 (λk a=>?_) ?_))
  ·exact (List.mem_erase_of_ne (λ(z:k=x)=>c.1 (z ▸ a))).mpr (h k (.tail _ a))
  ·rw[List.length_erase_of_mem b,l,Bd];omega
theorem zc2 (val:Nat->Int):∀i,(firstMet val i).Nodup
 |0=>by rw[firstMet_zero];exact .nil
 | i+1=>by
  rw[firstMet_succ];unfold step_dedup;split
  ·exact zc2 val i
  ·rename_i h
   refine Ii.mpr ⟨zc2 val i,by simp,λa d b c=>?_⟩;rw[Ao] at c;subst c;exact λe=>h (Dj.mpr ⟨a,d,Hw.mpr e⟩)
noncomputable def ptB (b:Bool) (val:Nat->Int):Nat->SetT.HT
 |0=>(#[],.fresh 0 0 b)
 |i+1=>if (firstMet val i).any (· == val i) then ptB b val i else SetT.addT (ptB b val i) (hashInt (val i))
theorem z0z (w:World)(val:Nat->Int):∀i,ptab w val i=ptB (!zbh w) val i
 |0=>rfl
 |i+1=>by unfold ptab ptB;rw[z0z w val i]
theorem z02 (b:Bool) (val:Nat->Int):∀i,SetT.Ok (ptB b val i).2/\(ptB b val i).2.led=b
 |0=>⟨SetT.fresh_ok _ _ _,rfl⟩
 | i+1=>by
  unfold ptB;have a:=z02 b val i;split
  ·exact a
  ·have:=SetT.add_ok a.1 (hashInt (val i));exact⟨this.1,this.2.trans a.2⟩
noncomputable def valI (ns:List Int):Nat->Int:=λi=>ns.getD i 0
noncomputable def metI (ns:List Int):List Int:=firstMet (valI ns) ns.length
noncomputable def plB (ns:List Int):Bool:=(ptB Zd (valI ns) ns.length).2.plain&&(ptB Zc (valI ns) ns.length).2.plain
theorem z6r {ns:List Int}(h:plB ns=Zd):∀b,(ptB b (valI ns) ns.length).2.plain=Zd:=λb=>by
 have:=Bool.and_eq_true_iff.mp h;cases b with
 |true=>exact this.1
 |false=>exact this.2
theorem zub:∀{l:List Ze},(∀x∈l,∃n t,x=.int n t)->Vals ((l.map λx=>(kN x).headD 0).map V.int) l
 |[],_=>.nil
 | x::l,h=>by
  obtain⟨n,t,e⟩:=h x (.head _);refine .cons ?_ (zub λy a=>h y (.tail _ a));subst e;exact⟨t,rfl⟩
section
variable {X:Cx}{pins:List (Zh × Obj)}{σ:St}{H:Hp}
theorem zq7 {s:Zf}{a:Zh}{ns:List Int}{Q:Ze->Zf->Prop}{E:Ze->Zf->Prop} (J:X.calm=Zd) (I:Inv X pins σ H s) (K:plB ns=Zd) (L:SetX X.prog X.w (ptab X.w (valI ns) ns.length) s.heap a (λD=>(metI ns).any (· == D)) (metI ns).length)
  (q:∀p A,H p=Zb->Inv X pins σ (upd H p (.lst ((zbt (metI ns)).map V.int))) A->Q (.ref p) A):wpAny (model X.prog X.w) X.A (call (.builtin "sorted") [.ref a]) Q E s:=by
 nofun;obtain⟨o,l,g,G,c,r,_,O,F,R,j,M⟩:=L;ac_rfl;rw[z0z] at r j;have ok:=z02 (!zbh X.w) (valI ns) ns.length;have y:=z6r K (!zbh X.w);generalize (ptB (!zbh X.w) (valI ns) ns.length).2=t at r j ok y;refine zy5 J I (z2s (d:=a) (ep:=g) j ok.1 y λz=>by rw[ok.2,z];rfl) ⟨⟨o,G,c.1,r⟩⟩ (Cf (Nat.le_of_lt R) #v[0,9]) (λb N=>?_) q;have w:b.toList=(wkL X.w a l g).toList.map (·.2):=by
  refine Dl λi=>?_;obtain⟨z,f⟩:=N;rw[At,Cd,Cd];by_cases B:i<b.size
  ·rw[Bw B];exact (f i _ (Bw B)).symm
  ·rw[Cb #v[],Cb (by rw[zng];omega)];rfl
 have C:((wkL X.w a l g).toList.map (·.2)).Perm (l.toList.map (·.2)):=zo0.map _;have P:∀x∈b.toList,∃n t,x=Ze.int n t:=λx c=>by
  rw[w] at c;obtain⟨e,m,rfl⟩:=Bz.mp (C.mem_iff.mp c);obtain⟨⟨k,h,_⟩,_⟩:=O e m;obtain⟨t,u⟩:=Ze.isInt_shape h;exact⟨k,t,u⟩
 refine⟨_,zub P,zg4 (zc2 _ _) (λk h=>?_) ?_⟩
 ·obtain⟨e,m,h⟩:=(F k).mp (Dj.mpr ⟨k,h,Hh k⟩);obtain⟨t,u⟩:=Ze.isInt_shape h;refine Bz.mpr ⟨e.2,?_,by rw[u];rfl⟩;rw[w];exact C.mem_iff.mpr (Bz.mpr ⟨e,m,rfl⟩)
 ·rw[Ad,w,Ad,zo0.length_eq,Ay];exact M
end
noncomputable def tSS (K:Zg) (t:TA):TE:=λσ H Q=>t σ H λv b=>∃a,∃n:List Int,v=[.ref a]/\(SqL K b a (n.map V.int)\/SqT K b a (n.map V.int))/\n.length<=1000/\plB n=Zd/\∀p,b p=Zb->Q (.ref p) (upd b p (.lst ((zbt (metI n)).map V.int)))
noncomputable def ssW:W->Option (List W)
 |.lst w=>Za w
 |.tup w=>Za w
 |_=>Zb
noncomputable def gSS (as:GAs):GE:=λen=>(as en).bind λp=>match zar p.1 p.2 with
 |some [w]=>(ssW w).bind λa=>(zct a).bind λn=>if n.length<=1000/\plB n=Zd then Za (p.1,(.lst ((zbt (metI n)).map W.int),Zd)) else Zb
 |_=>Zb
theorem yad {as:GAs}{en e1:En}{xs:List (W ⊕ Nat)}{w:W}{ns:List Int}(h:as en=Za (e1,xs))(r:zar e1 xs=Za [w])(b:ssW w=Za (ns.map W.int))(q:ns.length<=1000)(p:plB ns=Zd):gSS as en=Za (e1,(.lst ((zbt (metI ns)).map W.int),Zd)):=by
 unfold gSS;rw[h];show (match zar e1 xs with
  |some [w]=>(ssW w).bind λa=>(zct a).bind λns=>if ns.length<=1000/\plB ns=Zd then Za (e1,(W.lst ((zbt (metI ns)).map W.int),Zd)) else Zb
  |_=>Zb)=_
 rw[r];show (ssW w).bind _=_;rw[b];show (zct (ns.map W.int)).bind _=_;rw[ze2];show (if ns.length<=1000/\plB ns=Zd then Za (e1,(W.lst ((zbt (metI ns)).map W.int),Zd)) else Zb)=_;rw[if_pos ⟨q,p⟩]
theorem yal {as:GAs}{en e1:En}{xs:List (W ⊕ Nat)}{ns:List Int}(h:as en=Za (e1,xs))(r:zar e1 xs=Za [.tup (ns.map W.int)])(q:ns.length<=1000)(p:plB ns=Zd):gSS as en=Za (e1,(.lst ((zbt (metI ns)).map W.int),Zd)):=yad h r rfl q p
section
variable {X:Cx}{S:Sx}{d:Nat}{fE:Sx->Zi->Option GE}
theorem yax {a:Zi}{w:TA}{p d pos pos':Pos} (k:X.calm=Zd) (y:Gl X "sorted") (M:X.mg "sorted" = Zb) (E:Gl X "set") (z:X.mg "set" = Zb) (A:PA X [a] w) (B:starEach [a] X.env=[(Zc,eval a X.env)]):PE X (.Call (.Name "sorted" p) [.Call (.Name "set" d) [a] [] pos'] [] pos) (tSS X.K w):=by
 intro pins s σ H Q I h;refine Fh (zdu I y M Eo ?_ #v[0,9] #v[0,9]);refine PyProof.Rows.callWith_builtin1 (Im ?_) rfl rfl;refine Call_ (zdu I E z z7z (Dw (thn (A pos' pins s σ H _ I h) λS D ⟨O,P,c,L,C⟩=>?_) B rfl));nofun;obtain⟨a,n,e,f,R,x,q⟩:=C;ac_rfl;subst e;cases L with
 | cons r F =>
  cases F;cases r;rcases f with f|f
  ·refine aG λG qG => ?_
   obtain⟨i,j,d,K⟩:=c.list f;ac_rfl;have sz:i.toArray.size=n.length:=by rw[Am,<-j.length,Ad]
   refine zw3 (ns:=n) (c.ok.hd k) d.isList (ziw j) (by rw[sz];show n.length+1<4096;omega) λN t g l=>?_;refine Iu ?_;rw[sz] at g;exact zq7 k (c.kept (t':=t) λb o e=>l b o (Aj e) e) x g λp J m u=>⟨.ref p,_,u,rfl,q p m⟩
  ·refine aG λG qG => ?_
   obtain⟨i,j,d,K⟩:=c.tuple f;ac_rfl;have sz:i.toArray.size=n.length:=by rw[Am,<-j.length,Ad]
   refine zrc (ns:=n) (c.ok.hd k) (show D.heap.IsTuple a i.toArray from d) (ziw j) (by rw[sz];show n.length+1<4096;omega) λN t g l=>?_;refine Iu ?_;rw[sz] at g;exact zq7 k (c.kept (t':=t) λb o e=>l b o (Aj e) e) x g λp J m u=>⟨.ref p,_,u,rfl,q p m⟩
theorem z4o {K:Zg}{as:GAs}{σ:St}{H:Hp}{Q:VK} (h:tE K (gSS as) σ H Q):tSS K (tAs K as) σ H Q:=by
 obtain⟨F,pr,en,y,r,Re,h,q⟩:=h;obtain⟨⟨l,x⟩,D,h⟩:=bS h;refine⟨F,pr,en,l,x,Re,D,λG b L t R B=>?_⟩;cases e:zar l x with
 |none=>simp only [e] at h;exact noSome h
 | some u =>
  have f:=B.repBs R e
  match u,e,f with
  | [w],e,f =>
   simp only [e] at h;obtain⟨k,c,h⟩:=bS h;obtain⟨n,E,h⟩:=bS h;split at h
   ·rename_i z
    obtain rfl:=(Prod.mk.inj (sI h)).1;obtain rfl:=(Prod.mk.inj (sI h)).2;obtain ⟨v,m,j⟩:=f.one;subst m;have fin:∀p,b p=Zb->Q (.ref p) (upd b p (.lst ((zbt (metI n)).map V.int))):=λp o=>by
     obtain⟨J,s,C,I⟩:=(Out.lst (K:=K) (F:=G) (H:=b) (p:=p) o (zc1 (zbt (metI n)))).close R;exact q J _ _ (t.trans s) C I
    have A:=zcy E;subst A;cases w with
    | lst k =>
     obtain rfl:=sI c;obtain⟨a,u,d,g,p⟩:=j.lst R.sub;subst d;have i:=p.ints;subst i;exact⟨a,n,rfl,.inl (SqL.of' g),z.1,z.2,fin⟩
    | tup k =>
     obtain rfl:=sI c;obtain⟨a,u,d,g,M,p⟩:=j.tup R.sub;subst d;have i:=p.ints;subst i;exact⟨a,n,rfl,.inr (.inl (.inl g)),z.1,z.2,fin⟩
    |_=>exact noSome c
   ·exact noSome h
  |[],e,_=>simp only [e] at h;exact noSome h
  |_::_::_,e,_=>simp only [e] at h;exact noSome h
noncomputable def z3s (fE:Sx->Zi->Option GE) (S:Sx):Zi->Option GE
 |.Call (.Name x _) [.Call (.Name y _) [a] [] _] [] _=>if x==("sorted" : Str)&&y==("set" : Str)&&S.bl x&&S.bl y&&zae a then (asL (zaz fE S) [a]).bind λb=>Za (gSS b) else Zb
 |_=>Zb
theorem zxn (H:zaw fE)(C:CxOk X S d):zhy (z3s fE S) X:=λe g h=>by
 unfold z3s at h;split at h
 ·split at h
  ·rename_i z;simp only [Ae] at z;obtain⟨⟨⟨⟨j,i⟩,r⟩,q⟩,c⟩:=z;have o:=Bm j;have f:=Bm i;subst o f;obtain⟨s,has,h⟩:=bS h;obtain rfl:=sI h;obtain⟨p,_⟩:=zfr (λe a b=>zah H C b) has;obtain⟨l,m⟩:=zed C r;obtain⟨k,n⟩:=zed C q;exact (yax C.calm l m k n p (zag c)).wk λ_ _ _=>z4o
  ·exact noSome h
 ·exact noSome h
end
section
open PySem.AutoSeq1 (wpAny_loadPart')
end
section
variable {X:Cx}{S:Sx}{d:Nat}{fE:Sx->Zi->Option GE}
end
section
open PySem.AutoSeq1 (wpAny_loadPart')
variable {prog:Program}{w:World}{A:Around}{E:Ze->Zf->Prop}{s:Zf}
end
section
variable {X:Cx}{S:Sx}{d:Nat}{fE:Sx->Zi->Option GE}
end
section
variable {prog:Program}{w:World}{A:Around}{E:Ze->Zf->Prop}{s:Zf}
open HT in
end
section
variable {X:Cx}{S:Sx}{d:Nat}{fE:Sx->Zi->Option GE}
noncomputable def orX (a b:Option GE):Option GE:=match a with
 |some g=>Za g
 |none=>b
theorem ziu {x y:Zi->Option GE}(c:zhy x X)(b:zhy y X):zhy (λe=>orX (x e) (y e)) X:=λe g h=>by
 have h:orX (x e) (y e)=Za g:=h;unfold orX at h;split at h
 ·rename_i a q;obtain rfl:=sI h;exact c e a q
 ·exact b e g h
noncomputable def extE (fE:Sx->Zi->Option GE) (S:Sx) (e:Zi):Option GE:=orX (z3s fE S e) (orX (zny fE S e) (orX (zsf fE S e) (orX (zo3 fE S e) (orX (zvb fE S e) (zi9 fE S e)))))
theorem z3l (H:zaw fE)(C:CxOk X S d):zhy (extE fE S) X:=ziu (zxn H C) (ziu (zru H C) (ziu (ztf H C) (ziu (zrp H C) (ziu (zsp H C) (zow H C)))))
end
noncomputable def ncOf (scope:Scope):List Str:=(scope.names.filter λp=>p.2==.free||p.2==.local||p.2==.cell).map (·.1)
noncomputable def capC (S:Sx) (scope:Scope):Cap:=(ncOf scope).map λx=>if scope.names.lookup x==Za .free then S.N.findIdx? (· == x) else Zb
noncomputable def inS (S:Sx) (scope:Scope):Sx:={ N:=ncOf scope,kd:=scope.names,bn:=S.bn,fs:=S.fs,mp:=capKeep (capC S scope),top:=Zc }
noncomputable def zi4 (S:Sx) (scope:Scope):Bool:=decide (scope.kind=.function)&&zh4 (capC S scope) (ncOf scope) S.N scope&&(scope.names.all λp=>!(p.2==.free)||S.kd.lookup p.1==Za .cell||S.kd.lookup p.1==Za .free) &&
 zfo scope && (scope.names.all λp=>!(p.2 == NameKind.local) || decide (scope.names.lookup p.1=some .local))&&decide (ncOf scope).Nodup
noncomputable def zqz (fT:Sx->Zi->Option GT) (S:Sx):List Zi->Option GT
 |[]=>Za gYes
 |[c]=>fT S c
 |_=>Zb
noncomputable def ztz (fE:Sx->Zi->Option GE) (fT:Sx->Zi->Option GT) (S:Sx) (elt:Zi) (gens:List Comprehension) (scope:Scope):Option GE:=match gens with
 |[c]=>if zi4 S scope&&decide (c.is_async=0) then (znt fE S c.target c.iter).bind λg=>(tgE (inS S scope) c.target).bind λT=>(zqz fT (inS S scope) c.ifs).bind λe=>(fE (inS S scope) elt).bind λt=>Za (zbp (capC S scope) T g e t) else Zb
 |[c,a]=>if zi4 S scope&&decide (c.is_async=0/\a.is_async=0) then (znt fE S c.target c.iter).bind λg=>(tgE (inS S scope) c.target).bind λT=>(zqz fT (inS S scope) c.ifs).bind λe=>(znt fE (inS S scope) a.target a.iter).bind λb=>(tgE (inS S scope) a.target).bind λf=>(zqz fT (inS S scope) a.ifs).bind λd=>(fE (inS S scope) elt).bind λt=>Za (zsm (capC S scope) T g e f b d t) else Zb
 |_=>Zb
structure ScOk (X:Cx) (S:Sx) (scope:Scope):Prop where
 kind:scope.kind=.function
 cap:zh4 (capC S scope) (ncOf scope) X.N scope=Zd
 fr:zhb scope X.env.scope=Zd
 nc:zfo scope=Zd
 nm:(scope.names.all λp=>!(p.2 == NameKind.local) || decide (scope.names.lookup p.1=some .local))=Zd
 nd:(ncOf scope).Nodup
section
variable {X:Cx}{S:Sx}{d:Nat}
theorem zpv (C:CxOk X S d){scope:Scope}(h:zi4 S scope=Zd):ScOk X S scope:=by
 unfold zi4 at h;simp only [Ae] at h;obtain⟨⟨⟨⟨⟨g,i⟩,a⟩,e⟩,f⟩,b⟩:=h;refine⟨As g,by rw[C.N];exact i,?_,e,f,As b⟩;unfold zhb;refine Bf.mpr λp c=>?_;have q:=Bf.mp a p c;simp only [Ck,Bool.not_eq_true',beq_eq_false_iff_ne,Hw,Ei] at q ⊢;rcases q with (q|q)|q
 ·exact .inl (.inl q)
 ·rcases C.vis p.1 (.inl q) with z|z
  ·exact .inl (.inr z)
  ·exact .inr z
 ·rcases C.vis p.1 (.inr q) with z|z
  ·exact .inl (.inr z)
  ·exact .inr z
theorem zh6 (C:CxOk X S d){scope:Scope}(h:ScOk X S scope)(c:List (Str×Zh))(L:Zh)(s:Zf)(H:Hp)(fp:List Zh):CxOk (za2 X (ncOf scope) scope c L s H fp) (inS S scope) d where
 N:=rfl
 nd:=h.nd
 loc:=λx e=>za5 (env:=X.env) #v[0,9] e
 cel:=λx e=>⟨za5 (env:=X.env) #v[0,9] e,An e⟩
 vis:=λx e=>by
  rcases e with e|e
  ·exact .inl (za5 (env:=X.env) #v[0,9] e)
  ·exact zax (env:=X.env) e
 gl:=λx e=>za5 (env:=X.env) #v[0,9] e
 calm:=C.calm
 xe:=rfl
 bn:=C.bn
 fs:=C.fs
 room:=C.room
 sl:=C.sl
 lam:=λh=>absurd (show ("" : Str)∈lams from h) #v[0,0,7]
 dpo:=Bi _
 bk:=by
  show (if scope.kind.isAnnotationScope then ScopeKind.function else scope.kind)=.function;rw[h.kind];rfl
end
theorem zzs {K:Zg}{σ:St}{H:Hp}{Q:Bool->Hp->Prop}(h:tT K gYes σ H Q):z1r σ H Q:=by
 obtain⟨F,pr,en,e,b,R,h,q⟩:=h;cases h;exact q F H (.refl F) R
structure CompP (X:Cx) (S:Sx) (elt:Zi) (gens:List Comprehension) (scope:Scope) (g:GE):Prop where
 ex:∃tg iter ifs gs gi T tc,∃(em:Pos->Ze->Env->Sem Unit) (tm:Zh->TM),gens=⟨tg,iter,ifs,0⟩::gs/\(∀pos it acc env,compTurn (.ListComp elt gens scope pos) 0 it acc env=zmx (.ListComp elt gens scope pos) 0 tg iter ifs (em pos acc env) it acc env)/\ScOk X S scope/\PI X tg iter (tI X.K gi)/\(∀x,foldedSetIterable iter X.env x=pure x) /\
  (∀cl C s3 H3 fp,PG (za2 X (ncOf scope) scope cl C s3 H3 fp) tg (TGof X.K T))/\(∀cl C s3 H3 fp,PTs (za2 X (ncOf scope) scope cl C s3 H3 fp) ifs (tT X.K tc))/\(∀pos cl C s3 H3 fp acc,PM (za2 X (ncOf scope) scope cl C s3 H3 fp) (em pos (.ref acc) (za2 X (ncOf scope) scope cl C s3 H3 fp).env) (tm acc)) /\
  ∀σ H Q,tE X.K g σ H Q->zv5 (tI X.K gi) (capC S scope) (TGof X.K T) (tT X.K tc) tm σ H Q
section
variable {X:Cx}{S:Sx}{d:Nat}{fE:Sx->Zi->Option GE}{fT:Sx->Zi->Option GT}
theorem PTs.wk {ifs:List Zi}{t t':TT}(h:PTs X ifs t)(i:∀σ H Q,t' σ H Q->t σ H Q):PTs X ifs t':=λpins s σ H Q I q=>h pins s σ H Q I (i σ H Q q)
theorem zki (HT:zlx fT)(C:CxOk X S d):∀{ifs:List Zi}{t:GT},zqz fT S ifs=Za t->PTs X ifs (tT X.K t)
 |[],_,h=>by obtain rfl:=sI h;exact z2e.wk λ_ _ _=>zzs
 |[_],_,h=>z12 (HT _ _ d C _ _ h)
 |_::_::_,_,h=>noSome h
theorem zg8 (j:zaw fE)(HT:zlx fT)(C:CxOk X S d){elt:Zi}{gens:List Comprehension}{scope:Scope}{g:GE}(h:ztz fE fT S elt gens scope=Za g):CompP X S elt gens scope g:=by
 unfold ztz at h;split at h
 ·rename_i c;obtain⟨tg,iter,ifs,p⟩:=c;split at h
  ·rename_i z;rw[Ae] at z;have o:p=0:=As z.2;subst o;obtain⟨x,y,h⟩:=bS h;obtain⟨T,m,h⟩:=bS h;obtain⟨D,i,h⟩:=bS h;obtain⟨t,f,h⟩:=bS h;obtain rfl:=sI h;have e:=zpv C z.1;obtain⟨A,B⟩:=zei j C y;exact⟨tg,iter,ifs,[],x,T,D,λ_=>zz1 elt,λb=>zr7 b (tE X.K t),rfl,λ_ _ _ _=>rfl,e,A,B,λa L s H fp=>zpr (zh6 C e a L s H fp) m,λa L s H fp=>zki HT (zh6 C e a L s H fp) i,λ_ a L s H fp b=>z1t (j _ _ d (zh6 C e a L s H fp) _ _ f),λ_ _ _=>zwm⟩
  ·exact noSome h
 ·rename_i c F;obtain⟨tg,iter,ifs,p⟩:=c;obtain⟨tg2,iter2,ifs2,q⟩:=F;split at h
  ·rename_i z;rw [Ae] at z;obtain ⟨o,r⟩:p=0/\q=0:=As z.2;subst o r;obtain ⟨x,y,h⟩:=bS h;obtain ⟨T,m,h⟩:=bS h;obtain ⟨D,i,h⟩:=bS h;obtain ⟨u,k,h⟩:=bS h;obtain ⟨E,w,h⟩:=bS h;obtain ⟨n,l,h⟩:=bS h;obtain ⟨t,f,h⟩:=bS h;obtain rfl:=sI h;have e:=zpv C z.1;obtain ⟨A,B⟩:=zei j C y;exact ⟨tg,iter,ifs,[⟨tg2,iter2,ifs2,0⟩],x,T,D,λpos=>ztl (.ListComp elt [⟨tg,iter,ifs,0⟩,⟨tg2,iter2,ifs2,0⟩] scope pos) iter2,λb=>tTwo (tI X.K u) (TGof X.K E) (tT X.K n) (zr7 b (tE X.K t)),rfl,λ_ _ _ _=>zze,e,A,B,λa L s H fp=>zpr (zh6 C e a L s H fp) m,λa L s H fp=>zki HT (zh6 C e a L s H fp) i,
   λpos a L s H fp b=>z9c (λ_ _ z=>z) C.calm (zei j (zh6 C e a L s H fp) k).1 (zpr (zh6 C e a L s H fp) w) (zki HT (zh6 C e a L s H fp) l) (j _ _ d (zh6 C e a L s H fp) _ _ f) (zei j (zh6 C e a L s H fp) k).2,λ_ _ _=>zij λI b G=>yat (z8b G)⟩
  ·exact noSome h
 ·exact noSome h
theorem zuc (C:CxOk X S d){elt:Zi}{gens:List Comprehension}{scope:Scope}{g:GE}{pos:Pos}(h:CompP X S elt gens scope g):PE X (.ListComp elt gens scope pos) (tE X.K g):=by
 nofun;obtain⟨t,iter,ifs,i,k,T,m,j,l,f,e,s,a,b,p,pt,c,rd⟩:=h.ex;ac_rfl;subst f;exact (z2x a p pt (c pos) (e pos) C.calm s.kind s.cap s.fr s.nc s.nm b).wk rd
noncomputable def kwE (fE:Sx->Zi->Option GE) (S:Sx) (x:Str) (e:Zi) (key:Str) (a:Zi):Option GE:=match a with
 |.Name y p=>if x==("sorted" : Str)&&key==("key" : Str) then zps fE S e y else Zb
 |_=>Zb
theorem z6k (H:zaw fE) (C:CxOk X S d) {x key:Str}{e a:Zi}{kpos c pos:Pos}{g:GE} (h:kwE fE S x e key a=Za g):PE X (.Call (.Name x c) [e] [⟨Za key,a,kpos⟩] pos) (tE X.K g):=by
 cases a with
 | Name y p =>
  have h:(if x==("sorted" : Str)&&key==("key" : Str) then zps fE S e y else Zb)=Za g:=h;split at h
  ·rename_i z
   rw[Ae] at z;have f:=Bm z.1;have b:=Bm z.2;subst f b;exact zu0 H C h
  ·exact noSome h
 |_=>exact noSome h
noncomputable def z45 (fE:Sx->Zi->Option GE) (S:Sx):Option Zi->Option GO
 |none=>Za zbb
 |some e=>(fE S e).bind λg=>Za (zej g)
noncomputable def zx1 (fE:Sx->Zi->Option GE) (fT:Sx->Zi->Option GT) (S:Sx) (e:Zi):Option GE:=match e with
 |.Name x _=>(S.rd x).bind λi=>Za (gVar i)
 | .Constant c _ _=>(match c with
  |.int i=>Za (gC (.int i))
  |.bool b=>Za (gC (.bl b))
  |.none=>Za (gC .non)
  |.str x=>Za (gC (.str x))
  |_=>Zb)
 |.BinOp a d b _=>(zaz fE S a).bind λx=>(zaz fE S b).bind λy=>(binO d).bind λo=>Za (gOp2 o x y)
 | .UnaryOp d a _=>(match d with
  |.USub=>(zaz fE S a).bind λx=>Za (gOp1 oNeg x)
  |.Not=>(fE S a).bind λg=>Za (gNot g)
  |_=>Zb)
 | .BoolOp d f _=>(match f with
  |v::f=>z49 (fE S) d v f
  |[]=>Zb)
 |.Compare a ops w _=>cmpV fE S a ops w
 | .Subscript a s _=>(match s with
  | .Slice z t q _=>(match q with
   |none=>(zaz fE S a).bind λx=>(z45 fE S z).bind λl=>(z45 fE S t).bind λh=>Za (gSl x l h)
   |some _=>Zb)
  |s=>if zbz s then (zaz fE S a).bind λx=>(zaz fE S s).bind λy=>Za (gOp2 oIx x y) else Zb)
 |.List k _=>(asL (λe=>(fE S e).bind λg=>Za (gArg g)) k).bind λj=>Za (za0 j)
 |.Tuple k _ _=>(asL (λe=>(fE S e).bind λg=>Za (gArg g)) k).bind λj=>Za (zd5 j)
 | .Call n args kws pos=>(match kws with
  | []=>(match n with
   |.Name x _=>z2t fE S x args
   |.Attribute o m u=>z4z fE S o m u args pos
   |_=>Zb)
  | [⟨Za key,.Lambda p body scope _,_⟩]=>(match n,args with
   |.Name x _,[e]=>z28 fE S x e key p body scope
   |_,_=>Zb)
  | [⟨Za key,r,_⟩]=>(match n,args with
   |.Name x _,[e]=>kwE fE S x e key r
   |_,_=>Zb)
  |_=>Zb)
 |.ListComp elt gens scope _=>ztz fE fT S elt gens scope
 |_=>Zb
noncomputable def z3d (fE:Sx->Zi->Option GE) (fT:Sx->Zi->Option GT) (S:Sx) (e:Zi):Option GT:=match e with
 | .BoolOp o b _=>(match b with
  |v::b=>z2l (fT S) o v b
  |[]=>Zb)
 |.Compare a ops c _=>(cmpV fE S a ops c).bind λg=>Za (zaj g)
 | .UnaryOp o a p=>(match o with
  |.Not=>(fT S a).bind λg=>Za (zhr g)
  |o=>if zqy (.UnaryOp o a p) then (fE S (.UnaryOp o a p)).bind λg=>Za (zaj g) else Zb)
 |e=>if zqy e then (fE S e).bind λg=>Za (zaj g) else Zb
theorem zq0 (a:zaw fE) (C:CxOk X S d) {o:Option Zi}{g:GO} (h:z45 fE S o=Za g):PO X o (tO X.K g):=by
 cases o with
 |none=>obtain rfl:=sI h;exact λpins s σ H Q I q=>z4x pins s σ H Q I (zoj q)
 | some e =>
  obtain⟨c,b,h⟩:=bS h;obtain rfl:=sI h;exact λpins s σ H Q I q=>z1y (a X S d C _ _ b) pins s σ H Q I (zva q)
theorem zzh (H:zaw fE) (HT:zlx fT):zaw (zx1 fE fT):=λX S d C e g h=>by
 have A:∀e a,((fE S e).bind λg=>Za (gArg g))=Za a->PE X e (tA X.K a):=λe a h=>by
  obtain⟨O,J,h⟩:=bS h;obtain rfl:=sI h;exact (H X S d C _ _ J).wk λ_ _ _=>zjg
 cases e with
 | Name x p =>
  obtain⟨i,w,h⟩:=bS (show (S.rd x).bind _=_ from h);obtain rfl:=sI h;exact (zme C w).wk λ_ _ _=>zpi
 | Constant c k p =>
  cases c with
  |int i=>obtain rfl:=sI h;exact z8o.wk λ_ _ _=>zdk λ_=>.int i
  |bool b=>obtain rfl:=sI h;exact yaz.wk λ_ _ _=>zdk λ_=>.bl b
  |none=>obtain rfl:=sI h;exact z8m.wk λ_ _ _=>zdk λ_=>.non
  |str x=>obtain rfl:=sI h;exact z6b.wk λ_ _ _=>zdk λ_=>.str x
  |_=>exact noSome h
 | BinOp a j b p =>
  obtain⟨x,f,h⟩:=bS (show (zaz fE S a).bind _=_ from h);obtain⟨y,n,h⟩:=bS h;obtain⟨o,D,h⟩:=bS h;obtain rfl:=sI h;obtain⟨r,L,N⟩:=z4y (X:=X) D;exact (z9h L (zah H C f) (zah H C n)).wk λ_ _ _=>zco N
 | UnaryOp j a p =>
  cases j with
  | USub =>
   obtain⟨x,f,h⟩:=bS (show (zaz fE S a).bind _=_ from h);obtain rfl:=sI h;exact (z9k z6y (zah H C f)).wk λ_ _ _=>zyu z4n
  | Not =>
   obtain⟨x,f,h⟩:=bS (show (fE S a).bind _=_ from h);obtain rfl:=sI h;exact (z60 (H X S d C _ _ f)).wk λ_ _ _=>zz0
  |_=>exact noSome h
 | BoolOp j t p =>
  cases t with
  |nil=>exact noSome h
  |cons v t=>exact zqk (λe g=>H X S d C e g) h
 |Compare a ops Q p=>exact (zvv H C h).1
 | Subscript a s p =>
  have M:∀s,(if zbz s then (zaz fE S a).bind λx=>(zaz fE S s).bind λy=>Za (gOp2 oIx x y) else Zb)=Za g->PE X (.Subscript a s p) (tE X.K g):=λs h=>by
   split at h
   ·rename_i z
    obtain⟨x,f,h⟩:=bS h;obtain⟨y,n,h⟩:=bS h;obtain rfl:=sI h;exact (z79 (zwo.or z1m) (zah H C f) (zah H C n) (zie z)).wk λ_ _ _=>zco z1s
   ·exact noSome h
  cases s with
  | Slice R w E B =>
   cases E with
   |some _=>exact noSome h
   | none =>
    obtain⟨x,f,h⟩:=bS (show (zaz fE S a).bind _=_ from h);obtain⟨l,F,h⟩:=bS h;obtain⟨u,I,h⟩:=bS h;obtain rfl:=sI h;exact (zzn ((z4v.or z7f).or z2u) (zah H C f) (zq0 H C F) (zq0 H C I)).wk λ_ _ _=>z4g
  |_=>exact M _ h
 | List q p =>
  obtain⟨G,has,h⟩:=bS (show (asL _ q).bind _=_ from h);obtain rfl:=sI h;exact (z8n (zfr A has).1).wk λ_ _ _=>z0g
 | Tuple q k p =>
  obtain⟨G,has,h⟩:=bS (show (asL _ q).bind _=_ from h);obtain rfl:=sI h;exact (z76 (zfr A has).1).wk λ_ _ _=>zy0
 | Call K args kws p =>
  simp only [zx1] at h;split at h
  ·cases K with
   |Name x B=>exact z0b H C h
   |Attribute o m P=>exact zzt H C h
   |_=>exact noSome h
  ·split at h
   ·exact zz9 H C h
   ·exact noSome h
  ·split at h
   ·exact z6k H C h
   ·exact noSome h
  ·exact noSome h
 |ListComp elt gens scope p=>exact zuc C (zg8 H HT C h)
 |_=>exact noSome h
theorem zzc (H:zaw fE) (HT:zlx fT):zlx (z3d fE fT):=λX S d C e g h=>by
 have b:∀e,(if zqy e then (fE S e).bind λg=>Za (zaj g) else Zb)=Za g->PT X e (tT X.K g):=λe h=>by
  split at h
  ·rename_i z
   obtain⟨x,c,h⟩:=bS h;obtain rfl:=sI h;exact (z6z (H X S d C _ _ c) (zrh z)).wk λ_ _ _=>zhj λ_ _ _ q=>q
  ·exact noSome h
 cases e with
 | BoolOp o f p =>
  cases f with
  |nil=>exact noSome h
  |cons v f=>exact (zjv (λe g=>HT X S d C e g) h).pt
 | Compare a ops i p =>
  obtain⟨x,c,h⟩:=bS (show (cmpV fE S a ops i).bind _=_ from h);obtain rfl:=sI h;exact (zvv H C c).2
 | UnaryOp o a p =>
  cases o with
  | Not =>
   obtain⟨x,c,h⟩:=bS (show (fT S a).bind _=_ from h);obtain rfl:=sI h;exact (z8e (HT X S d C _ _ c)).wk λ_ _ _=>zu4
  |_=>exact b _ h
 |_=>exact b _ h
end
noncomputable def z30:GE:=λ_=>Zb
noncomputable def ztq:GT:=λ_=>Zb
mutual
noncomputable def compE:Nat->Sx->Zi->Option GE
 |0,_,_=>Za z30
 |n+1,S,e=>Za ((orX (extE (compE n) S e) (zx1 (compE n) (compT n) S e)).getD z30)
noncomputable def compT:Nat->Sx->Zi->Option GT
 |0,_,_=>Za ztq
 |n+1,S,e=>Za ((z3d (compE n) (compT n) S e).getD ztq)
end
theorem zwa {X:Cx}{e:Zi}:PE X e (tE X.K z30):=λ_ _ _ _ _ _ q=>by obtain⟨_,_,_,_,_,_,h,_⟩:=q;exact noSome h
theorem zph {X:Cx}{e:Zi}:PT X e (tT X.K ztq):=λ_ _ _ _ _ _ q=>by obtain⟨_,_,_,_,_,_,h,_⟩:=q;exact noSome h
theorem zec:∀n,zaw (compE n)/\zlx (compT n)
 |0=>⟨λ_ _ _ _ _ _ h=>by rw[compE] at h;obtain rfl:=sI h;exact zwa,λ_ _ _ _ _ _ h=>by rw[compT] at h;obtain rfl:=sI h;exact zph⟩
 | n+1=>by
  obtain⟨a,b⟩:=zec n;refine⟨λX S d C e g h=>?_,λX S d C e g h=>?_⟩
  ·rw [compE] at h
   cases q:orX (extE (compE n) S e) (zx1 (compE n) (compT n) S e) with
   |none=>rw[q] at h;obtain rfl:=sI h;exact zwa
   |some c=>rw[q] at h;obtain rfl:=sI h;exact ziu (z3l a C) (zzh a b X S d C) e _ q
  ·rw [compT] at h
   cases q:z3d (compE n) (compT n) S e with
   |none=>rw[q] at h;obtain rfl:=sI h;exact zph
   |some c=>rw[q] at h;obtain rfl:=sI h;exact zzc a b X S d C e _ q
section
variable {X:Cx}{pos:Pos}
end
noncomputable def yaa (mp:List Nat) (i j k:Nat) (a b c:GE):GS:=λen=>(a en).bind λp=>(b p.1).bind λq=>(c q.1).bind λr=>if mp.contains i||mp.contains j||mp.contains k || !decide (i<r.1.length) || !decide (j<r.1.length) || !decide (k<r.1.length) then Zb else Za (((r.1.set i (#v[p.2.1,6])).set j (#v[q.2.1,6])).set k (#v[r.2.1,6]),.nx)
section
variable {K:Zg}{mp:List Nat}{D:Ends}{σ:St}{H:Hp}
end
noncomputable def ztc (S:Sx) (x:Str) (p:Pos) (y:Str) (d:Pos) (z:Str) (pz:Pos) (a b c:Zi):Bool:=S.kd.lookup x==Za .local&&S.kd.lookup y==Za .local&&S.kd.lookup z==Za .local&&p.line==d.line&&p.line==pz.line && !(x==y) && !(x==z) && !(y==z) && !(foldedForSure 8 a&&foldedForSure 8 b&&foldedForSure 8 c) && !(constantsAlone 8 a&&constantsAlone 8 b&&constantsAlone 8 c)&&zae a&&zae b&&zae c
section
variable {X:Cx}{S:Sx}{d:Nat}{fE:Sx->Zi->Option GE}
theorem zwu {x y:Str}(h:¬ x=y):(y==x)=Zc:=by
 cases q:y==x with
 |false=>rfl
 |true=>exact absurd (Bm q).symm h
theorem z9j (C:CxOk X S d){x y z:Str}{p f pz pt pt2:Pos}{a b c:Zi}{kt k2:Nat}(h:ztc S x p y f z pz a b c=Zd):swappedStores [.Tuple [.Name x p,.Name y f,.Name z pz] kt pt] (.Tuple [a,b,c] k2 pt2) X.env=pure (Za [x,y,z]):=by
 unfold ztc at h;simp only [Ae] at h;nofun;obtain⟨⟨⟨⟨⟨⟨⟨⟨⟨⟨⟨⟨H,P⟩,F⟩,K⟩,L⟩,q⟩,M⟩,B⟩,o⟩,g⟩,j⟩,k⟩,l⟩:=h;ac_rfl;have A:X.env.kindOf x=Za .local:=C.loc x (by simpa using H);have k2:X.env.kindOf y=Za .local:=C.loc y (by simpa using P);have t:X.env.kindOf z=Za .local:=C.loc z (by simpa using F);have r:p.line=f.line:=by simpa using K
 have D:p.line=pz.line:=by simpa using L
 have I:¬ x=y:=by simpa using q
 have u:¬ x=z:=by simpa using M
 have J:¬ y=z:=by simpa using B
 have s:∀e,zae e=Zd->(match e with|.Starred ..=>Zd|_=>Zc)=Zc:=λe h=>by cases e<;>first|rfl|(cases h)
 have n:([a,b,c].any λe=>match e with|.Starred ..=>Zd|_=>Zc)=Zc:=by
  rw[Cn,Cn,Cn,List.any_nil,s a j,s b k,s c l];rfl
 unfold swappedStores;simp only [Bd,Ee,C.bk,Gn];rw[if_neg #v[0,9]]
 try simp only [Gn]
 refine (if_neg (λz=>Aq (n.symm.trans z))).trans ?_;have nm:List.filterMap (λe=>match e with|.Name id pos=>if (X.env.kindOf id==Za .local&&pos.line==(Option.map (λe=>e.pos.line) ([Zi.Name x p,Zi.Name y f,Zi.Name z pz]:List Zi).head?).getD 0)=Zd then Za id else Zb|_=>Zb) ([Zi.Name x p,Zi.Name y f,Zi.Name z pz]:List Zi)=[x,y,z]:=by
  have N:((Zi.Name x p).pos.line)=p.line:=rfl;have Q:f.line=p.line:=r.symm;have w:pz.line=p.line:=D.symm;simp [A,k2,t,N,Q,w]
 try simp only [Gn]
 generalize E:List.filterMap _ ([Zi.Name x p,Zi.Name y f,Zi.Name z pz]:List Zi)=names;have i:names=[x,y,z]:=E.symm.trans nm;subst i;have G:([x,y,z]:List Str).eraseDups=[x,y,z]:=by
  rw[Gi,Di,zwu I,Di,zwu u];simp only [Ic,Fe,Go];rw[Gi,Di,zwu J];simp only [Ic,Fe,Go];rw[Gi,Go,List.eraseDups_nil]
 rw[G,if_neg (by simp)]
 try simp only [Gn]
 have O:¬ (foldedForSure 8 a&&foldedForSure 8 b&&foldedForSure 8 c)=Zd:=λz=>by rw[z] at o;cases o
 have m:¬ (constantsAlone 8 a&&constantsAlone 8 b&&constantsAlone 8 c)=Zd:=λz=>by rw[z] at g;cases g
 rw[if_neg (by simp only [Bk,List.all_nil,Hi,<-Bool.and_assoc];exact O),if_neg (by simp only [Bk,List.all_nil,Hi,<-Bool.and_assoc];exact m)]
end
noncomputable def zkn (x:Stmt->Option GS) (X:Cx) (S:Sx):Prop:=∀s g,x s=Za g->PS X s (tS X.K S.mp g)
noncomputable def nmOf:Zi->Option (Str×Pos)
 |.Name x p=>Za (x,p)
 |_=>Zb
noncomputable def z95 (fE:Sx->Zi->Option GE) (S:Sx) (es vs:List Zi):Option GS:=match es with
 | [e,d,n]=>(match vs with
  |[a,b,c]=>(nmOf e).bind λx=>(nmOf d).bind λy=>(nmOf n).bind λz=>if ztc S x.1 x.2 y.1 y.2 z.1 z.2 a b c then (S.wr x.1).bind λi=>(S.wr y.1).bind λj=>(S.wr z.1).bind λk=>(fE S a).bind λh=>(fE S b).bind λf=>(fE S c).bind λg=>Za (yaa S.mp i j k h f g) else Zb
  |_=>Zb)
 |_=>Zb
noncomputable def z5n:Zi->Option (List Zi×Nat×Pos)
 |.Tuple e k p=>Za (e,k,p)
 |_=>Zb
noncomputable def z9v (fE:Sx->Zi->Option GE) (S:Sx):Stmt->Option GS
 | .Assign a e _=>(match a with
  |[t]=>(z5n t).bind λx=>(z5n e).bind λy=>z95 fE S x.1 y.1
  |_=>Zb)
 |_=>Zb
section
variable {X:Cx}{S:Sx}{d:Nat}{fE:Sx->Zi->Option GE}
noncomputable def orS (a b:Option GS):Option GS:=match a with
 |some g=>Za g
 |none=>b
theorem z9a {x y:Stmt->Option GS}(c:zkn x X S)(b:zkn y X S):zkn (λe=>orS (x e) (y e)) X S:=λe g h=>by
 have h:orS (x e) (y e)=Za g:=h;unfold orS at h;split at h
 ·rename_i a q;obtain rfl:=sI h;exact c e a q
 ·exact b e g h
theorem z1j {o k e:Zi}{p:Pos}{env:Env}:swappedStores [.Subscript o k p] e env=pure Zb:=by
 cases e<;>rfl
theorem zqt {o k e:Zi}{p:Pos}{l:Nat}{env:Env}:swapsWithSole [.Subscript o k p] e l env=pure Zc:=by
 cases e<;>rfl
theorem zih {o k:Zi}{p:Pos}{env:Env} (h:zbz k=Zd):∀v,assign (.Subscript o k p) env v=(do
  let a <- holding [v] (eval o env)
  let i <- holding [v,a] (eval k env)
  standAt p
  holding [v,a,i] (setItem a i v)
  release [v,a,i] []):=by
 intro v;cases k<;>first|rfl|(cases h)
noncomputable def znk (fE:Sx->Zi->Option GE) (S:Sx):Stmt->Option GS
 |.Assign [.Subscript (.Name x _) k _] e _=>if dOn S x&&zbz k then (S.rd x).bind λi=>(fE S k).bind λa=>(fE S e).bind λg=>Za (zrg i a g) else Zb
 |_=>Zb
theorem zsa (H:zaw fE)(C:CxOk X S d):zkn (znk fE S) X S:=λs g h=>by
 unfold znk at h;split at h
 ·split at h
  ·rename_i z;rw[Ae] at z;obtain⟨i,b,h⟩:=bS h;obtain⟨e,a,h⟩:=bS h;obtain⟨f,c,h⟩:=bS h;obtain rfl:=sI h;exact (z1g (H X S d C _ _ c) (z0n (zme C b) (H X S d C _ _ a) (zpg.or (zyg (z3v C))) (zih z.2)) zqt z1j rfl).wk λ_ _ _=>zww
  ·exact noSome h
 ·exact noSome h
noncomputable def extS (fE:Sx->Zi->Option GE) (S:Sx) (st:Stmt):Option GS:=znk fE S st
theorem z2h (H:zaw fE)(C:CxOk X S d):zkn (extS fE S) X S:=zsa H C
end
noncomputable def zfg (mp:List Nat) (i:Nat):GS:=λen=>match en[i]? with
 |some (#v[w,5])=>if mp.contains i then Zb else Za (en.set i Zb,.ret (w,Zd))
 |some (#v[w,6])=>Za (en,.ret (w,Zc))
 |_=>Zb
theorem zuz {K:Zg}{mp:List Nat}{D:Ends}{σ:St}{H:Hp}{i:Nat}(h:tS K mp (zfg mp i) D σ H):tRet (tVar i) D σ H:=by
 obtain⟨F,pr,en,c,f,R,h,q⟩:=h;unfold zfg at h;split at h
 ·rename_i w e;split at h
  ·exact noSome h
  ·cases h;obtain⟨v,a,b,z⟩:=R.drop e;exact⟨v,a,q F σ H v (.refl F) b (.refl _ _) z⟩
 ·rename_i w e;cases h;obtain⟨v,a,z⟩:=R.val i w e;exact⟨v,a,q F σ H v (.refl F) R (.refl _ _) z⟩
 ·exact noSome h
noncomputable def zzq (f:Sx->Stmt->Option GS):Prop:=∀X S d,CxOk X S d->∀s g,f S s=Za g->PS X s (tS X.K S.mp g)
noncomputable def blk (f:Sx->Stmt->Option GS) (S:Sx):List Stmt->Option GS
 |[]=>Za zbx
 | c::s=>match s with
  |[]=>f S c
  |_::_=>(f S c).bind λa=>(blk f S s).bind λb=>Za (gSeq a b)
noncomputable def zjq (S:Sx) (x:Str) (p:Pos) (scope:Scope) (pos:Pos):Bool:=S.kd.lookup x==Za .local&&p.line==pos.line && !(scope.names.any λ(n,k)=>n == x && (k == .local || k == .cell))
noncomputable def zon (S:Sx) (x:Str):Bool:=S.top&&S.kd.lookup x==Za .cell
noncomputable def zz5 (S:Sx) (x:Str) (c:Pos) (y:Str) (p:Pos) (a b:Zi):Bool:=S.kd.lookup x==Za .local&&S.kd.lookup y==Za .local&&c.line==p.line && !(x==y) && !(foldedForSure 8 a&&foldedForSure 8 b) && !(constantsAlone 8 a&&constantsAlone 8 b)&&zae a&&zae b
noncomputable def yba:Zi->Bool
 |.Tuple ..=>Zd
 |_=>Zc
noncomputable def asgE (fE:Sx->Zi->Option GE) (fT:Sx->Zi->Option GT) (S:Sx) (t e:Zi):Option GS:=match t with
 | .Name x p=>(S.wr x).bind λi=>(match e with
  |.ListComp elt gens scope pos=>(ztz fE fT S elt gens scope).bind λg=>if zjq S x p scope pos||zon S x then Za (gSet S.mp i g) else Zb
  |e=>if zhi e then (fE S e).bind λg=>Za (gSet S.mp i g) else Zb)
 | .Tuple c _ _=>(match c,e with
  |[.Name x p,.Name y d],.Tuple [a,b] _ _=>if zz5 S x p y d a b then (S.wr x).bind λi=>(S.wr y).bind λj=>(fE S a).bind λl=>(fE S b).bind λh=>Za (gPar S.mp i j l h) else Zb
  |_,_=>Zb)
 | .Subscript o k _=>(match o with
  |.Name x _=>if zbz k then (S.rd x).bind λi=>(fE S k).bind λf=>(fE S e).bind λg=>Za (za3 i f g) else Zb
  |_=>Zb)
 |_=>Zb
noncomputable def z22 (fS:Sx->Stmt->Option GS) (fE:Sx->Zi->Option GE) (fT:Sx->Zi->Option GT) (S:Sx) (st:Stmt):Option GS:=match st with
 | .Return o _=>(match o with
  |none=>Zb
  | some e=>(match e with
   |.Name x _=>(S.rd x).bind λi=>Za (zfg S.mp i)
   |e=>(fE S e).bind λg=>Za (gRet g)))
 |.If c a b _=>(fT S c).bind λt=>(blk fS S a).bind λx=>(blk fS S b).bind λy=>Za (gIfS t x y)
 | .For d h body f _=>(match f with
  |[]=>(znt fE S d h).bind λj=>(tgE S d).bind λT=>(blk fS S body).bind λg=>Za (gFor S.mp T j g)
  |_=>Zb)
 |.Pass _=>Za zbx
 |.Expr e _=>if zhi e then (fE S e).bind λg=>Za (zfd g) else Zb
 | .Assign k e _=>(match k with
  |[d]=>asgE fE fT S d e
  |_=>Zb)
 |_=>Zb
section
variable {X:Cx}{S:Sx}{d:Nat}{fS:Sx->Stmt->Option GS}{fE:Sx->Zi->Option GE}{fT:Sx->Zi->Option GT}
theorem zma (HS:zzq fS) (C:CxOk X S d):∀{s:List Stmt}{g:GS},blk fS S s=Za g->PSs X s (tS X.K S.mp g)
 |[],_,h=>by obtain rfl:=sI h;exact z2w.wk λ_ _ _=>zld
 |[c],_,h=>z10 (HS X S d C _ _ h)
 | c::f::s,_,h=>by
  obtain⟨a,e,h⟩:=bS (show (fS S c).bind _=_ from h);obtain⟨b,i,h⟩:=bS h;obtain rfl:=sI h;exact (zz6 (HS X S d C _ _ e) (zma HS C i)).wk λ_ _ _=>zyw
theorem yac (C:CxOk X S d){x:Str}{p pos:Pos}{elt:Zi}{gens:List Comprehension}{scope:Scope}{l:Nat}(h:zjq S x p scope pos=Zd):swapsWith (.ListComp elt gens scope pos) (Za (.Name x p)) l X.env=pure Zd:=by
 unfold zjq at h;rw[Ae,Ae] at h;have a:X.env.kindOf x=Za .local:=C.loc x (by simpa using h.1.1);show (pure (X.env.blockKind==.function&&X.env.kindOf x==Za .local&&p.line==pos.line && !(scope.names.any λ(n,k)=>n == x && (k == .local || k == .cell))):Sem Bool)=pure Zd;rw[C.bk,a,h.1.2,h.2]
 rfl
theorem swNo (C:CxOk X S d){x:Str}{p pos:Pos}{elt:Zi}{gens:List Comprehension}{scope:Scope}{l:Nat}(h:zon S x=Zd):swapsWith (.ListComp elt gens scope pos) (Za (.Name x p)) l X.env=pure Zc:=by
 unfold zon at h;rw[Ae] at h;have a:X.env.kindOf x=Za .cell:=(C.cel x (by simpa using h.2)).1;show (pure (X.env.blockKind==.function&&X.env.kindOf x==Za .local&&p.line==pos.line && !(scope.names.any λ(n,k)=>n == x && (k == .local || k == .cell))):Sem Bool)=pure Zc;rw[a];have:(Za NameKind.cell==Za NameKind.local)=Zc:=rfl;rw[this,Bool.and_false,Fu,Fu]
theorem z8s (C:CxOk X S d){x y:Str}{p c pt pt2:Pos}{a b:Zi}{kt k2:Nat}(h:zz5 S x p y c a b=Zd):swappedStores [.Tuple [.Name x p,.Name y c] kt pt] (.Tuple [a,b] k2 pt2) X.env=pure (Za [x,y]):=by
 unfold zz5 at h;simp only [Ae] at h;nofun;obtain⟨⟨⟨⟨⟨⟨⟨w,F⟩,r⟩,B⟩,j⟩,g⟩,D⟩,m⟩:=h;ac_rfl;have l:X.env.kindOf x=Za .local:=C.loc x (by simpa using w);have k2:X.env.kindOf y=Za .local:=C.loc y (by simpa using F);have t:p.line=c.line:=by simpa using r
 have ne:¬ x=y:=by simpa using B
 have i:∀e,zae e=Zd->(match e with|.Starred ..=>Zd|_=>Zc)=Zc:=λe h=>by cases e<;>first|rfl|(cases h)
 have s:([a,b].any λe=>match e with|.Starred ..=>Zd|_=>Zc)=Zc:=by
  rw[Cn,Cn,List.any_nil,i a D,i b m];rfl
 unfold swappedStores;simp only [Bd,Ee,C.bk,Gn];rw[if_neg #v[0,9]]
 try simp only [Gn]
 refine (if_neg (λz=>Aq (s.symm.trans z))).trans ?_;have nm:List.filterMap (λe=>match e with|.Name id pos=>if (X.env.kindOf id==Za .local&&pos.line==(Option.map (λe=>e.pos.line) ([Zi.Name x p,Zi.Name y c]:List Zi).head?).getD 0)=Zd then Za id else Zb|_=>Zb) ([Zi.Name x p,Zi.Name y c]:List Zi)=[x,y]:=by
  have E:((Zi.Name x p).pos.line)=p.line:=rfl;simp [l,k2,E,t]
 try simp only [Gn]
 generalize o:List.filterMap _ ([Zi.Name x p,Zi.Name y c]:List Zi)=names;have f:names=[x,y]:=o.symm.trans nm;subst f;have k:(y==x)=Zc:=by
  cases q:y==x with
  |false=>rfl
  |true=>exact absurd (Bm q).symm ne
 have u:([x,y]:List Str).eraseDups=[x,y]:=by
  rw[Gi,Di,k];simp only [Ic,Fe,Go];rw[Gi,Go,List.eraseDups_nil]
 rw[u,if_neg (by simp)]
 try simp only [Gn]
 have n:¬ (foldedForSure 8 a&&foldedForSure 8 b)=Zd:=λz=>by rw[z] at j;cases j
 have A:¬ (constantsAlone 8 a&&constantsAlone 8 b)=Zd:=λz=>by rw[z] at g;cases g
 rw[if_neg (by simp only [Bk,List.all_nil,Hi];exact n),if_neg (by simp only [Bk,List.all_nil,Hi];exact A)]
theorem z0e {es:List Zi}{kt:Nat}{p:Pos}{e:Zi}{l:Nat}{env:Env}:swapsWithSole [.Tuple es kt p] e l env=pure Zc:=by
 cases e<;>rfl
theorem z5g (f:zaw fE) (HT:zlx fT) (C:CxOk X S d) {t e:Zi}{g:GS}{pos:Pos} (h:asgE fE fT S t e=Za g):PS X (.Assign [t] e pos) (tS X.K S.mp g):=by
 cases t with
 | Name x B =>
  refine aG λ_ qG=>?_;obtain ⟨i,m,h⟩:=bS (show (S.wr x).bind _=_ from h);obtain ⟨v,E,w⟩:=zwq C m;refine qG ?_;clear qG;have c:(if zhi e then (fE S e).bind λg=>Za (gSet S.mp i g) else Zb)=Za g->PS X (.Assign [.Name x B] e pos) (tS X.K S.mp g):=λh=>by
   split at h
   ·rename_i z
    obtain⟨N,l,h⟩:=bS h;obtain rfl:=sI h;exact (z1i (ndN C) v E (f X S d C _ _ l) (zpz z) w).wk λ_ _ _=>zjf
   ·exact noSome h
  cases e with
  | ListComp elt gens scope pc =>
   obtain⟨N,l,h⟩:=bS (show (ztz fE fT S elt gens scope).bind _=_ from h);have L:=zg8 f HT C l;split at h
   ·rename_i z
    obtain rfl:=sI h;rw[Ck] at z;rcases z with z|z
    ·refine aG λGg qG => ?_
     obtain ⟨t,iter,ifs,gs,gi,T,tc,em,tm,e1,R,s,W,Y,O,pt,Z,rd⟩:=L.ex;refine qG ?_;clear qG;subst e1;exact (z4h (ndN C) v E W O pt (Z pc) (R pc) (yac C z) C.calm s.kind s.cap s.fr s.nc s.nm Y w).wk λD σ H q=>by
      have q':=zjf q;exact rd _ _ _ q'
    ·exact (z1i (ndN C) v E (zuc C L) (swNo C z) w).wk λ_ _ _=>zjf
   ·exact noSome h
  |_=>exact c h
 | Tuple es M p =>
  unfold asgE at h;simp only at h;split at h
  ·rename_i x B y py a b I P
   split at h
   ·rename_i z
    refine aG λ_ qG=>?_;obtain ⟨i,m,h⟩:=bS h;obtain ⟨j,Q,h⟩:=bS h;obtain ⟨ga,A,h⟩:=bS h;obtain ⟨gb,F,h⟩:=bS h;refine qG ?_;clear qG;obtain rfl:=sI h;have n:=z8s (pt:=p) (pt2:=P) (kt:=M) (k2:=I) C z;unfold zz5 at z;simp only [Ae] at z;refine aG λ_ qG=>?_;obtain ⟨⟨⟨⟨⟨⟨⟨V,h2⟩,h3⟩,h4⟩,h5⟩,h6⟩,h7⟩,U⟩:=z;obtain ⟨K,_,_⟩:=zwq C m;obtain ⟨u,_,_⟩:=zwq C Q;refine qG ?_;clear qG;have ne:i≠j:=λe=>by
     subst e;rw[K] at u;obtain rfl:=sI u;simp at h4
    exact (z81 C.calm (ndN C) K u ne (C.loc x (by simpa using V)) (C.loc y (by simpa using h2)) (pac (f X S d C _ _ A) (pac (f X S d C _ _ F) zdw U) h7) n z0e).wk λ_ _ _=>zya
   ·exact noSome h
  ·exact noSome h
 | Subscript o k p =>
  cases o with
  | Name x B =>
   have G:(if zbz k then (S.rd x).bind λi=>(fE S k).bind λJ=>(fE S e).bind λg=>Za (za3 i J g) else Zb)=Za g:=h;split at G
   ·rename_i z
    nofun;obtain⟨i,m,h⟩:=bS G;obtain⟨J,r,h⟩:=bS h;obtain⟨N,l,h⟩:=bS h;ac_rfl;obtain rfl:=sI h;exact (z1g (f X S d C _ _ l) (z0n (zme C m) (f X S d C _ _ r) zpg (zih z)) zqt z1j rfl).wk λ_ _ _=>zra
   ·exact noSome G
  |_=>exact noSome h
 |_=>exact noSome h
theorem zzl (HS:zzq fS) (H:zaw fE) (HT:zlx fT):zzq (z22 fS fE fT):=λX S d C s g h=>by
 have E:PassesOwn (model X.prog X.w) X.A X.env X.xe:=by rw[C.xe];exact PassesOwn.never
 cases s with
 | Return o p =>
  cases o with
  |none=>cases h
  | some e =>
   have gen:((fE S e).bind λg=>Za (gRet g))=Za g->PS X (.Return (Za e) p) (tS X.K S.mp g):=λh=>by
    obtain⟨I,j,h⟩:=bS h;obtain rfl:=sI h;exact (z0o (H X S d C _ _ j)).wk λ_ _ _=>zqh
   cases e with
   | Name x L =>
    obtain⟨i,w,h⟩:=bS (show (S.rd x).bind _=_ from h);obtain rfl:=sI h;exact (z0o (zme C w)).wk λ_ _ _=>zuz
   |_=>exact gen h
 | If c a b p =>
  obtain⟨t,F,h⟩:=bS (show (fT S c).bind _=_ from h);obtain⟨x,q,h⟩:=bS h;obtain⟨y,r,h⟩:=bS h;obtain rfl:=sI h;exact (z9n (HT X S d C _ _ F) (zma HS C q) (zma HS C r)).wk λ_ _ _=>zzp
 | For m u body f p =>
  cases f with
  |cons _ _=>exact noSome h
  | nil =>
   obtain⟨K,k,h⟩:=bS (show (znt fE S m u).bind _=_ from h);obtain⟨T,n,h⟩:=bS h;obtain⟨J,G,h⟩:=bS h;obtain rfl:=sI h;obtain⟨B,D⟩:=zei H C k;exact (z5x E C.calm B (zpr C n) (zma HS C G) D).wk λ_ _ _=>zy3
 |Pass p=>obtain rfl:=sI h;exact z2d.wk λ_ _ _=>zld
 | Expr e p =>
  have l:(if zhi e then (fE S e).bind λg=>Za (zfd g) else Zb)=Za g:=h;split at l
  ·rename_i z
   obtain⟨I,j,h⟩:=bS l;obtain rfl:=sI h;exact (z2o (H X S d C _ _ j) (zpz z)).wk λ_ _ _=>zud
  ·exact noSome l
 | Assign A e p =>
  match A,h with
  |[m],h=>exact z5g H HT C h
  |[],h=>exact noSome h
  |_::_::_,h=>exact noSome h
 |_=>exact noSome h
end
noncomputable def zse:GS:=λ_=>Zb
noncomputable def zuf:Nat->Sx->Stmt->Option GS
 |0,_,_=>Za zse
 |n+1,S,s=>Za ((orS (extS (compE n) S s) (z22 (zuf n) (compE n) (compT n) S s)).getD zse)
theorem zpp {X:Cx}{st:Stmt}{mp:List Nat}:PS X st (tS X.K mp zse):=λ_ _ _ _ _ _ q=>by obtain⟨_,_,_,_,_,_,h,_⟩:=q;exact noSome h
theorem zil:∀n,zzq (zuf n)
 |0=>λ_ _ _ _ _ _ h=>by obtain rfl:=sI h;exact zpp
 | n+1=>λX S d C s g h=>by
  rw[zuf] at h;cases q:orS (extS (compE n) S s) (z22 (zuf n) (compE n) (compT n) S s) with
  |none=>rw[q] at h;obtain rfl:=sI h;exact zpp
  |some a=>rw[q] at h;obtain rfl:=sI h;exact z9a (z2h (zec n).1 C) (zzl (zil n) (zec n).1 (zec n).2 X S d C) s _ q
structure Fd where
 nm:Str
 ps:List Str
 N:List Str
 m:List Bool
 st:Stmt
noncomputable def deep:Nat:=60
noncomputable def sxOf (T:List Fd) (bn:List Str) (Ψ:Str->Fn) (d:Nat) (t:Fd):Sx:={ N:=t.N,kd:=(zan t.st).names,bn:=bn,fs:=T.map λu=>(u.nm,(u.m,Ψ u.nm)),mp:=mpOf t.m,top:=Zd,nm:=t.nm,dp:=d }
noncomputable def za8 (T:List Fd) (bn:List Str) (Ψ:Str->Fn) (d:Nat) (t:Fd):Option GS:=blk (zuf deep) (sxOf T bn Ψ d t) (zc8 t.st)
noncomputable def fnAt (T:List Fd) (bn:List Str) (Ψ:Str->Fn) (d:Nat) (t:Fd):Fn:=match za8 T bn Ψ d t with
 |some g=>zal t.m t.N.length g
 |none=>λ_=>Zb
noncomputable def sem (T:List Fd) (bn:List Str):Nat->Str->Fn
 |0,_=>λ_=>Zb
 | d+1,x=>match T.find? (·.nm==x) with
  |some t=>fnAt T bn (sem T bn d) d t
  |none=>λ_=>Zb
noncomputable def zx5 (K:Zg) (x:Str):Bool:=match PySem.W.tabIn K x with
 |some (c,P)=>PySem.W.codeHdIn K c P
 |none=>Zc
theorem Fun.okC {P:Program}{w:World}{K:Zg}{m:Str->Option Ze}{base:Heap}{x qual:Str}{st:Stmt}{f:Zh}{b:FuncData}{N ps:List Str}{k:Nat}{sp:Sp} (F:Fun K x qual st f b) (S:FnScope N ps (zan st)) (len:∀v H Q E,sp v H Q E->v.length=ps.length)
  (a:∀(A:Around) (outer:List Env) (s:Zf) (H:Hp) (v:List V) (Q:VK) (E:XK),(Room k (A.deeper (envOfC qual (zan st) s.heap.objs.size f b.code))/\Room (k+1) A)->sp v H Q E ->
   ∃t,PSs (cxOf CX0 P w K m base N qual (zan st) f b.code A outer s H E).nox (zc8 st) t/\t { nx:=λ_ g=>Q .non g,rt:=Q } (start N v) H):FnOk P w K m base CX0 (k+1) f b ps sp:=by
 nofun;obtain⟨oc,o,kV,doc,p,j,cdv,i,osl,rfl,l,d⟩:=F.ex;ac_rfl;refine yan l d S len λA outer s H v Q E e c=>?_;obtain⟨t,h,q⟩:=a A outer s H v Q E e c;exact⟨t,h.nox,q⟩
structure FdOk (K:Zg) (mg:Str->Option Ze) (t:Fd):Prop where
 sc:FnScope t.N t.ps (zan t.st)
 m:t.m.length=t.ps.length
 ex:∃f fd,Fun K t.nm t.nm t.st f fd/\zlc K fd t.ps []/\mg t.nm=Za (.ref f)
 lam:t.nm∈lams->zx5 K t.nm=Zd
theorem zrq {T:List Fd}{Ψ:Str->Fn}{x:Str}{m:List Bool}{Φ:Fn} (h:(T.map λu=>(u.nm,(u.m,Ψ u.nm))).lookup x=Za (m,Φ)):∃t∈T,t.nm=x/\t.m=m/\Φ=Ψ x:=by
 induction T with
 |nil=>exact noSome h
 | cons t T i =>
  rw[Ak,Bn] at h;cases q:x==t.nm with
  | true =>
   rw[q] at h;cases h;have:=Bm q;subst this;exact⟨t,Az,rfl,rfl,rfl⟩
  | false =>
   rw[q] at h;obtain⟨u,a,b⟩:=i h;exact⟨u,Au _ a,b⟩
theorem z23 {T:List Fd} (n:(T.map (·.nm)).Nodup) {t:Fd} (h:t∈T):T.find? (·.nm==t.nm)=Za t:=by
 induction T with
 |nil=>cases h
 | cons u T i =>
  rw[Ak,Dd] at n;rw[Ef];rcases Ar.mp h with rfl|h
  ·simp
  ·have:(u.nm==t.nm)=Zc:=by
    cases q:u.nm==t.nm with
    |false=>rfl
    |true=>exact absurd (Bz.mpr ⟨t,h,(Bm q).symm⟩) n.1
   rw[this];exact i n.2 h
theorem zuv {P:Program}{w:World}{K:Zg}{a:Str->Option Ze}{base:Heap}{T:List Fd}{bn:List Str} (nd:(T.map (·.nm)).Nodup) (ok:∀t∈T,FdOk K a t) (D:∀x∈bn,a x=Zb) (l:K.In base) (nb:base.Ns mainGlobals a) :
  ∀(d:Nat) (t:Fd),t∈T->∀f b,Fun K t.nm t.nm t.st f b->a t.nm=Za (.ref f)->FnOk P w K a base CX0 d f b t.ps (spF K t.m (sem T bn d t.nm))
 |0,t,_,f,b,_,_=>⟨λv H Q E h=>(by obtain⟨_,_,_,_,_,_,_,_,h,_⟩:=h;cases h),λA outer s H args W v Q E j X S Z h=>(by obtain⟨_,_,_,_,_,_,_,_,h,_⟩:=h;cases h)⟩
 | d+1,t,y,f,b,F,M=>by
  have o:=ok t y;refine F.okC (k:=d) o.sc (λv H Q E h=>(zt9 h).trans o.m) (λA outer s H v Q E j h=>?_);have L:sem T bn (d+1) t.nm=fnAt T bn (sem T bn d) d t:=by
   show (match T.find? (·.nm==t.nm) with|some t=>fnAt T bn (sem T bn d) d t|none=>λ_=>Zb)=_;rw[z23 nd y]
  rw[L] at h;unfold fnAt at h;cases e:za8 T bn (sem T bn d) d t with
  | none =>
   rw[e] at h;nofun;obtain⟨_,_,_,_,_,_,_,_,h,_⟩:=h;ac_rfl;exact noSome h
  | some g =>
   rw [e] at h;have C:CxOk (cxOf CX0 P w K a base t.N t.nm (zan t.st) f b.code A outer s H E).nox (sxOf T bn (sem T bn d) d t) d:={
    N:=rfl
    nd:=o.sc.nd
    loc:=λx e=>e
    cel:=λx e=>⟨e,rfl⟩
    vis:=λx e=>e
    gl:=λx e=>e
    calm:=rfl
    xe:=rfl
    bn:=D
    fs:=λx m Φ e=>by
     nofun;obtain⟨u,i,B,J,R⟩:=zrq e;ac_rfl;subst B J R;nofun;obtain⟨n,z,p,O,r⟩:=(ok u i).ex;ac_rfl;exact⟨u.ps,(ok u i).m.symm,⟨n,z,zuv nd ok D l nb d u i n z p r,O,p.kp,r⟩⟩
    room:=j.1
    sl:=by have:=j.2.un;show A.units+3+16*d+205<cLine;omega
    dpo:=Ag _
    lam:=λh=>by
     have q:=o.lam h;unfold zx5 at q;split at q
     ·rename_i c U e
      refine⟨c,U,e,q,?_,rfl⟩;nofun;obtain⟨oc,od,kV,doc,Y,an,cdv,V,osl,B,G,I⟩:=F.ex;ac_rfl;exact PySem.W.law_code l nb e M (l _ _ G) rfl
     ·cases q
    bk:=by
     show (if (zan t.st).kind.isAnnotationScope then ScopeKind.function else (zan t.st).kind)=.function;rw[o.sc.kind];rfl }
   exact⟨_,zma (zil deep) C e,zs7 h⟩
theorem zrk {K:Zg}{F H:Hp}{a:Zh}{ns:List Int}{Φ:Fn}{ws':List W}(c:Same F H)(t:zrl K F (λ_ _=>False) H)(h:SqL K F a (ns.map V.int))(e:Φ [.frl (ns.map W.int)]=Za (ws',(.bl true,false)))(d:ws'.length=1){E:XK}:spF K [Zc] Φ [.ref a] H (λv _=>v=.bl Zd) E:=by
 refine⟨F,λ_ _=>False,_,ws',_,rfl,d,⟨rfl,c,λi w q=>?_,λi w q=>?_,λi j a w k q=>?_,λb o q=>q.elim,t⟩,e,λf g v _ _ z=>?_⟩
 ·cases i with
  |zero=>cases q;exact⟨_,rfl,.frl h (Reps.ofInts ns)⟩
  |succ i=>cases i<;>exact noSome q
 ·cases i with
  |zero=>cases q
  |succ i=>cases i<;>exact noSome q
 ·cases i with
  |zero=>cases q
  |succ i=>cases i<;>exact noSome q
 ·exact z.isBl
noncomputable def tabsOf (K:Zg):List Zh:=lams.filterMap λx=>(PySem.W.tabIn K x).map (·.2)
theorem zj0 {K:Zg}{b:Zh}:b∈tabsOf K↔∃x∈lams,∃c,PySem.W.tabIn K x=Za (c,b):=by
 unfold tabsOf;rw[List.mem_filterMap];constructor
 ·rintro ⟨x,h,e⟩;cases q:PySem.W.tabIn K x with
  |none=>rw[q] at e;exact noSome e
  |some p=>rw[q] at e;obtain rfl:=sI e;exact⟨x,h,p.1,q⟩
 ·rintro ⟨x,h,c,e⟩;exact⟨x,h,by rw[e];rfl⟩
noncomputable def z8l (K:Zg) (h:Heap):Prop:=∀x∈lams,∀c P,PySem.W.tabIn K x=Za (c,P)->PySem.W.CodeHd h c P/\h.get? P=Za (PySem.W.tabObj #[])
structure Start (K:Zg) (F H:Hp):Prop where
 sub:Same F H
 tb:zrl K F (λ_ _=>False) H
theorem zwd {P:Program}{w:World}{K:Zg}{G mb:Str->Option Ze}{CX:CXT}{k:Nat}{fa a:Zh}{fd:FuncData}{x:Str}{sp:Sp}{f:Zf}{vs:List Ze}{ns:List Int}
  (KX:K.In f.heap) (nt:PySem.W.noTabs K=Zd) (nd:z5i K) (hT:z8l K f.heap) (J:f.heap.Ns mainGlobals G) (hb:f.heap.Ns builtinsNs mb) (Y:∀x:Str,x≠"__name__" -> mb x=bootBuiltins x) (Q:f.heap.NoLimit) (Z:∃(b:Zh) (ob:Obj),G "__builtins__" = Za (.ref b)/\b≠builtinsNs/\f.heap.get? b=Za ob/\ob.cls=.type "module"/\ob.dict=Za builtinsNs/\ob.data=.plain) (hg:f.gens=#[])
  (D:f.heap.get? a=Za { cls:=.type "list",data:=.seq vs.toArray }) (hi:IntsAre vs ns) (hl:ns.length<=sizeLine) (hr:Room k callerA)
  (Fk:∀base:Heap,K.In base->base.Ns mainGlobals G->FnOk P w K G base CX k fa fd [x] sp) (C:∀(s:Zf) (u:Ze),BindsTo s fd ⟨[u],[]⟩ [(x,u)])
  (X:∀F H:Hp,Start K F H->SqL K F a (ns.map V.int)->sp [.ref a] H (λv _=>v=.bl Zd) λ_ _ _=>False)
  (hCX:∀H e j,CX [] H f (λ_ _ _=>False) e j->False) :
  codeAny (model P w) callerA (.call (.ref fa) ⟨[.ref a],[]⟩) (λr j=>r=.ok (.ret (.bool Zd))/\OldK f.heap j.heap/\j.os=f.os/\AllBare j.gens) f:=by
 have rv:=zmp hi;have L:=hi.length;have t:∀b∈tabsOf K,f.heap.get? b=Za (PySem.W.tabObj #[]):=λb h=>by
  nofun;obtain⟨x,R,c,e⟩:=zj0.mp h;ac_rfl;exact (hT x R c b e).2
 have na:a ∉ tabsOf K:=λh=>by
  have:=t a h;rw[D] at this;cases this
 have B:∀F H:Hp,(∀b,H b=Zb\/(b∈tabsOf K/\H b=Za (.tbl #[])/\F b=Zb)\/(b=a/\K.lookup a=Zb/\F b=H b/\∃o xs,H b=Za (.frz o (.lst xs))))->(∀b,H b=Zb->F b=Zb)->(∀b∈tabsOf K,H b=Za (.tbl #[]))->SqL K F a (ns.map V.int)->HOk P w H f.heap ->
   codeAny (model P w) callerA (.call (.ref fa) ⟨[.ref a],[]⟩) (λr j=>r=.ok (.ret (.bool Zd))/\OldK f.heap j.heap/\j.os=f.os/\AllBare j.gens) f:=by
  intro F H I hF hB hS T;have g:∀{b:Zh}{o:Obj},f.heap.get? b=Za o->H b=Zb->(hidT f.heap H).get? b=Za o:=λe n=>zzu e n;have noA:∀{b:Zh}{o:Obj}{U:Array DictEntry}{O:Nat},f.heap.get? b=Za o->o.data=.dict U O->H b=Zb:=λ{b o U O} e d=>by
   rcases I b with z|⟨z,_⟩|⟨z,_⟩
   ·exact z
   ·rw[t b z] at e;obtain rfl:=sI e;cases d
   ·subst z
    rw[D] at e;obtain rfl:=sI e;have d':Data.seq vs.toArray _=Data.dict U O:=d;cases d'
  have l:∀{b:Zh}{m:Str->Option Ze},f.heap.Ns b m->(hidT f.heap H).Ns b m:=λ{b m} ⟨o,U,O,e,d,r⟩=>⟨o,U,O,g e (noA e d),d,r⟩;have M:K.In (hidT f.heap H):=λb o e=>g (KX b o e) (by
   rcases I b with z|⟨z,_⟩|⟨z,n,_⟩
   ·exact z
   ·have E:=KX b o e
    rw[t b z] at E;obtain rfl:=sI E;have:=Bf.mp nt (b,_) (PySem.W.mem_of_lookupK e);exact absurd (show Zc=Zd from this) Aq
   ·subst z
    rw[n] at e;cases e)
  have hM:Mod K G (hidT f.heap H):=⟨M,l J,⟨mb,l hb,Y⟩,let ⟨mc,h1,h2⟩:=Q;⟨mc,l h1,h2⟩,by
   nofun;obtain⟨b,ob,b1,b2,N,b4,b5,b6⟩:=Z;ac_rfl;refine⟨b,ob,b1,b2,g N ?_,b4,b5,b6⟩;rcases I b with z|⟨z,_⟩|⟨z,_⟩
   ·exact z
   ·rw[t b z] at N;obtain rfl:=sI N;cases b4
   ·subst z;rw[D] at N;obtain rfl:=sI N;exact absurd b4 (by simp)⟩
  have e0:Env0 P w K G (hidT f.heap H) callerA [] f H:=⟨rfl,hM,λb o e=>z38 e,Hu (zvi _ _),trivial,λb hb=>absurd (show b∈([]:List Zh) from hb) (by simp),T,.of_eq hg⟩;have st:Start K F H:=⟨λb o e=>by
   rcases I b with z|⟨_,_,z⟩|⟨_,_,z,_⟩
   ·rw[hF b z] at e;cases e
   ·rw[z] at e;cases e
   ·rw[<-z];exact e,⟨⟨nd,λ_ _ z=>z⟩,λx R c W e=>by
   have hm:W∈tabsOf K:=zj0.mpr ⟨x,R,c,e⟩;refine⟨#[],hB W hm,?_,λ_ z=>z,trivial,λpos cv q=>by cases q⟩;rcases I W with z|⟨_,_,z⟩|⟨z,_⟩
   ·exact hF W z
   ·exact z
   ·subst z;exact absurd hm na⟩⟩
  refine Es ((Fk _ M (l J)).run callerA [] f H ⟨[.ref a],[]⟩ [.ref a] [.ref a] _ _ hr e0 (C f (.ref a)) (.cons rfl .nil) (X F H st hS)) λr j h=>?_;cases r with
  |error e=>exact (hCX H e j h).elim
  | ok fl =>
   cases fl with
   |next=>exact False.elim h
   |brk=>exact False.elim h
   |cont=>exact False.elim h
   | ret u =>
    nofun;obtain⟨v,H',os,bare,un,A,r',q⟩:=h;ac_rfl;have q':v=.bl Zd:=q;subst q';obtain rfl:u=Ze.bool Zd:=r';refine⟨rfl,⟨λb o e=>?_,λb o e=>un.there b o e (by simp)⟩,os,bare⟩;rcases I b with z|⟨z,z1,_⟩|⟨_,_,_,ob,xs,z⟩
    ·exact .inl (un.keep b o e z (by intro y;exact absurd (show b∈([]:List Zh) from y) (by simp)) (by simp))
    ·refine aG λGg qG => ?_
     obtain⟨x,R,c,ex⟩:=zj0.mp z;obtain⟨t1,t2⟩:=hT x R c b ex;ac_rfl;rw[e] at t2;obtain rfl:=sI t2;obtain⟨more,E⟩:=un.tbls b #[] z1;exact .inr (.inl ⟨(t1.tab e).isCodeTable,rfl,#[],more,rfl,A b _ E⟩)
    ·have z2:=un.frzs b ob _ z
     obtain⟨e1,_⟩:=T b _ z;obtain⟨E,_⟩:=A b _ z2;rw[e] at e1;obtain rfl:=sI e1;exact .inl E
 have S:∀b,b∈tabsOf K->∀H,ObjOk P w H f.heap b (.tbl #[]):=λb h H=>t b h;cases hk:K.lookup a with
 | some o =>
  have e:=KX a o hk;rw[D] at e;obtain rfl:=sI e;refine B (λ_=>Zb) (λb=>if b∈tabsOf K then Za (.tbl #[]) else Zb) (λb=>?_) (λ_ _=>rfl) (λb h=>if_pos h) (.inr ⟨_,vs.toArray,_,hk,rfl,rfl,rfl,by rw[Am,L];exact hl,by simpa using rv⟩) (λb u z=>?_)
  ·by_cases h:b∈tabsOf K
   ·exact .inr (.inl ⟨h,if_pos h,rfl⟩)
   ·exact .inl (if_neg h)
  ·by_cases h:b∈tabsOf K
   ·have p:=(if_pos h).symm.trans z
    obtain rfl:=sI p;exact S b h _
   ·have p:=(if_neg h).symm.trans z
    cases p
 | none =>
  refine B (λb=>if b=a then Za (.frz { cls:=.type "list",data:=.seq vs.toArray } (.lst (ns.map V.int))) else Zb) (λb=>if b=a then Za (.frz { cls:=.type "list",data:=.seq vs.toArray } (.lst (ns.map V.int))) else if b∈tabsOf K then Za (.tbl #[]) else Zb) (λb=>?_) (λb z=>?_) (λb h=>?_) (.inl (.inr ⟨{ cls:=.type "list",data:=.seq vs.toArray },if_pos rfl⟩)) (λb u z=>?_)
  ·by_cases i:b=a
   ·exact .inr (.inr ⟨i,hk,by simp only [if_pos i],_,_,if_pos i⟩)
   ·by_cases h:b∈tabsOf K
    ·exact .inr (.inl ⟨h,by simp only [if_neg i,if_pos h],if_neg i⟩)
    ·exact .inl (by simp only [if_neg i,if_neg h])
  ·by_cases i:b=a
   ·simp only [if_pos i] at z;cases z
   ·exact if_neg i
  ·have i:b≠a:=λz=>by subst z;exact na h
   simp only [if_neg i,if_pos h]
  ·by_cases i:b=a
   ·have p:Za (HO.frz { cls:=.type "list", data:=.seq vs.toArray } (.lst (ns.map V.int)))=Za u:=by simpa only [if_pos i] using z
    obtain rfl:=sI p;subst i;exact⟨D,by rw[Ad];exact hl,vs,_,rv,D⟩
   ·by_cases h:b∈tabsOf K
    ·have p:Za (HO.tbl #[])=Za u:=by simpa only [if_neg i,if_pos h] using z
     obtain rfl:=sI p;exact S b h _
    ·have p:(Zb:Option HO)=Za u:=by simpa only [if_neg i,if_neg h] using z
     cases p
noncomputable def zt2 (K:Zg):Bool:=lams.all λx=>lams.all λa=>match PySem.W.tabIn K x,PySem.W.tabIn K a with
 |some p,Za b=>x==a || !(p.2==b.2)
 |_,_=>Zd
theorem zxt {K:Zg}(h:zt2 K=Zd):z5i K:=λx d b a c g P e f=>by
 have:=Bf.mp (Bf.mp h x d) b a;rw[e,f] at this;simpa using this
theorem walk_ofT {l:PySem.W.OpenLaw}{n k:Nat}{q:Program}{g:List Str}{X:(Str->Option Ze)->Heap->Prop}{M:World->Heap->Prop}{d:DefRec}{K:Params->Zg}{CX:World->CXT}{sp:World->Sp}{x:Str}
  (S:l.most=Za n) (I:n<=sizeLine) (E:d.params.defaults=[]) (W:Room k callerA)
  (hY:∀(w:World) (h:Heap),M w h->(K w.params).In h)
  (R:∀w:World,PySem.W.noTabs (K w.params)=Zd) (U:∀w:World,zt2 (K w.params)=Zd) (hrec:∀(w:World),∀x∈lams,∀c P,PySem.W.tabIn (K w.params) x=Za (c,P)->∃d,(recsOf q).find? (λe=>e.name==x)=Za d)
  (F:∀(w:World) (m:Str->Option Ze) (r:Zh) (h:Heap),(K w.params).In h->h.Ns mainGlobals m->m d.name=Za (.ref r) ->
   ∃A:FuncData,(∀(s:Zf) (u:Ze),BindsTo s A ⟨[u],[]⟩ [(x,u)]) /\
    ∀base:Heap,(K w.params).In base->base.Ns mainGlobals m->FnOk l.prog w (K w.params) m base (CX w) k r A [x] (sp w))
  (y:∀(w:World) (F H:Hp) (a:Zh) (t:List Int),t.length<=n->Start (K w.params) F H->SqL (K w.params) F a (t.map V.int)->sp w [.ref a] H (λv _=>v=.bl Zd) λ_ _ _=>False)
  (z:∀(w:World) (H:Hp) (s:Zf) (e:Ze) (B:Zf),CX w [] H s (λ_ _ _=>False) e B->False) :
  PySem.W.WalkO q g X M l.row.toRowW d [] (λf J=>PySem.call f J):=by
 refine Att.attach_call S E λw s₀ j m mb r o pm cd doc a J t G Y ho L O C p i b T=>?_;have D:=hY w _ Y;obtain⟨A,hb,N⟩:=F w m r _ D G.T.g C;refine zwd D (R w) (zxt (U w)) (λx Q c Z e=>?_) G.T.g G.T.b G.T.builtins G.T.nolimit G.T.bmain T p i (Cf b I) W N hb (λF H hO hS=>y w F H a t b hO hS) λH e B=>z w H j e B;obtain⟨d,L⟩:=hrec w x Q c Z e;exact PySem.W.tab_of G.T D L e
theorem zvj (i j:Int):oAdd (.int i) (.int j)=#v[(i+j),0]:=rfl
theorem ztn {i j:Int}(h:cMul i j=Zd):oMult (.int i) (.int j)=#v[(i*j),0]:=by
 show (match (if cMul i j then #v[W.int (i*j),6] else Zb) with|some p=>Za p|none=>_)=_;rw[if_pos h]
theorem oMult_l {i j:Int}(h:-(2^64)<i)(a:i<2^64):oMult (.int i) (.int j)=#v[(i*j),0]:=ztn (by
 unfold cMul;rw[Ck,Ae];exact .inl ⟨An h,An a⟩)
theorem znj {i j:Int}(h:-(2^64)<j)(a:j<2^64):oMult (.int i) (.int j)=#v[(i*j),0]:=ztn (by
 unfold cMul;rw[Ck,Ae,Ae];exact .inr ⟨An h,An a⟩)
theorem zti {i j:Int}(a:Builtin.Int.intBits i<=2^20)(b:Builtin.Int.intBits j<=2^20):oMult (.int i) (.int j)=#v[(i*j),0]:=by
 have h:zre i j=Zd:=by
  unfold zre;rw[Ae];exact⟨An a,An b⟩
 show (match (if cMul i j then #v[W.int (i*j),6] else Zb) with|some p=>Za p|none=>(match (if zre i j then #v[W.int (i*j),6] else Zb) with|some p=>Za p|none=>_))=_;rw[if_pos h];split<;>simp_all
theorem zsv {xs:List W}{k:Int}(h:-(2^63)<=k/\k<2^63/\xs.length*k.toNat<=sizeLine):oMult (.lst xs) (.int k)=#v[(List.replicate k.toNat xs).flatten,2]:=by
 show (if -(2^63)<=k/\k<2^63/\xs.length*k.toNat<=sizeLine then Za (W.lst (List.replicate k.toNat xs).flatten,Zd) else Zb)=_;rw[if_pos h]
theorem z4d {xs ys:List W}(h:xs.length+ys.length<=sizeLine):oAdd (.lst xs) (.lst ys)=#v[(xs++ys),2]:=by
 show (match (if xs.length+ys.length<=sizeLine then #v[W.lst (xs++ys),5] else Zb) with|some p=>Za p|none=>_)=_;rw[if_pos h]
theorem z88 {i j:Int}(c:0<j)(h:j<2^200):cDiv i j=Zd:=by
 unfold cDiv;rw[Ae];refine⟨An c,An ?_⟩;have b:j.natAbs≠0:=by omega
 have a:j.natAbs<2^200:=by
  have:((j.natAbs:Nat):Int)<((2^200:Nat):Int):=by
   rw[Int.natCast_pow];have e:((j.natAbs:Nat):Int)=j:=by omega
   rw[e];exact h
  exact Int.ofNat_lt.mp this
 exact Be ((Nat.log2_lt b).mpr a) #v[0,9]
theorem zv0 {i j:Int}(a:0<j)(h:j<18446744073709551617):cDiv i j=Zd:=z88 a (Int.lt_of_lt_of_le h #v[0,9])
theorem z0k {i j:Int}(h:0<=j)(a:j<=1000000)(b:i.natAbs<2^64):cPow i j=Zd:=by
 unfold cPow;rw[Ae,Ae];exact⟨⟨An h,An a⟩,An b⟩
theorem zpn {mp:List Nat}{T:Tg}{body:GS} (P:Nat->En->Prop):∀(b:List W) (k:Nat) (en:En),P k en->(∀i w e,b[i]?=Za w->P (k+i) e->∃d a,tgSet mp T w e=Za d/\(body d=Za (a,.nx)\/body d=Za (a,.cnt))/\P (k+i+1) a) ->
  ∃c,zk8 mp T body b en=Za (c,.nx)/\P (k+b.length) c
 |[],k,en,f,_=>⟨en,rfl,f⟩
 | w::b,k,en,f,g=>by
  refine aG λ_ qG=>?_;obtain ⟨d,a,o,h,j⟩:=g 0 w en rfl f;refine qG ?_;clear qG;obtain ⟨c,n,p⟩:=zpn P b (k+1) a j λi u e l m=>by
   have:=g (i+1) u e (by simpa using l) (by rw[show k+(i+1)=k+1+i by omega];exact m);rw[show k+(i+1)+1=k+1+i+1 by omega] at this;exact this
  refine⟨c,?_,by rw[show k+(w::b).length=k+1+b.length by rw[Bd];omega];exact p⟩;show (tgSet mp T w en).bind _=_;rw[o];show (match body d with|some (a,.nx)=>zk8 mp T body b a|some (a,.cnt)=>zk8 mp T body b a|some (a,.brk)=>Za (a,.nx)|some (a,.ret r)=>Za (a,.ret r)|none=>Zb)=_;rcases h with h|h<;>(rw[h];exact n)
theorem zcm {mp:List Nat}{T:Tg}{it:GL}{body:GS} (P:Nat->En->Prop) {en e0:En}{ws:List W} (k:it en=Za (e0,ws)) (g:P 0 e0) (f:∀i w e,ws[i]?=Za w->P i e->∃c b,tgSet mp T w e=Za c/\(body c=Za (b,.nx)\/body c=Za (b,.cnt))/\P (i+1) b) :
  ∃a,gFor mp T it body en=Za (a,.nx)/\P ws.length a:=by
 obtain⟨a,j,d⟩:=zpn P ws 0 e0 g λi w e l h=>by
  rw[Ce] at h ⊢;exact f i w e l h
 refine⟨a,?_,by rw[Ce] at d;exact d⟩;unfold gFor;rw[k];exact j
theorem zm0 {mp:List Nat}{T:Tg}{tc:GT}{te:GE} (P:Nat->En->List W->Prop):∀(e:List W) (k:Nat) (l:En) (g:List W),P k l g ->
  (∀i w c g,e[i]?=Za w->P (k+i) c g->∃m,tgSet mp T w c=Za m/\((∃b f r,tc m=#v[b,5]/\te b=Za (f,r)/\P (k+i+1) f (g++[r.1]))\/∃b,tc m=#v[b,6]/\P (k+i+1) b g)) ->
  ∃a rest,zhk mp T tc te e l=Za (a,rest)/\P (k+e.length) a (g++rest)
 |[],k,l,g,s,_=>⟨l,[],rfl,by rw[Bv];exact s⟩
 | w::e,k,l,g,s,y=>by
  obtain ⟨m,z,E⟩:=y 0 w l g rfl s;have next:∀f j,P (k+1) f j->∃a rest,zhk mp T tc te e f=Za (a,rest)/\P (k+1+e.length) a (j++rest):=λf j h=>zm0 P e (k+1) f j h λi u c d B C=>by
   have:=y (i+1) u c d (by simpa using B) (by rw[show k+(i+1)=k+1+i by omega];exact C);rw[show k+(i+1)+1=k+1+i+1 by omega] at this;exact this
  have A:k+(w::e).length=k+1+e.length:=by rw[Bd];omega
  rcases E with⟨b,f,r,t,D,x⟩|⟨b,t,x⟩
  ·obtain ⟨a, rest,o,n⟩:=next f _ x
   refine⟨a,r.1::rest,?_,by rw[A];rw[Bb] at n;exact n⟩;show (tgSet mp T w l).bind _=_;rw[z];show (match tc m with|#v[b,5]=>(te b).bind λp=>(zhk mp T tc te e p.1).bind λq=>Za (q.1,p.2.1::q.2)|#v[b,6]=>zhk mp T tc te e b|none=>Zb)=_;rw[t];show (te b).bind _=_;rw[D];show (zhk mp T tc te e f).bind _=_;rw[o]
   rfl
  ·obtain ⟨a, rest,o,n⟩:=next b _ x
   refine⟨a,rest,?_,by rw[A];exact n⟩;show (tgSet mp T w l).bind _=_;rw[z];show (match tc m with|#v[b,5]=>(te b).bind λp=>(zhk mp T tc te e p.1).bind λq=>Za (q.1,p.2.1::q.2)|#v[b,6]=>zhk mp T tc te e b|none=>Zb)=_;rw[t];exact o
theorem zdl {cap:Cap}{T:Tg}{it:GL}{tc:GT}{te:GE} (P:Nat->En->List W->Prop) {en e0:En}{ws:List W} (o:it en=Za (e0,ws)) (k:zb6 cap=Zd) (p:ws.length<=sizeLine) (l:P 0 (zft cap e0) [])
  (j:∀i w c d,ws[i]?=Za w->P i c d->∃e,tgSet (capKeep cap) T w c=Za e/\((∃b f r,tc e=#v[b,5]/\te b=Za (f,r)/\P (i+1) f (d++[r.1]))\/∃b,tc e=#v[b,6]/\P (i+1) b d)) :
  ∃a out,zbp cap T it tc te en=Za (zao cap e0 a,(.lst out,Zd))/\P ws.length a out:=by
 obtain⟨a,rest,n,g⟩:=zm0 P ws 0 (zft cap e0) [] l λi w c d m h=>by
  rw[Ce] at h ⊢;exact j i w c d m h
 refine⟨a,rest,?_,by rw[Ce] at g;exact g⟩;unfold zbp;rw[o];show (if zb6 cap&&decide (ws.length<=sizeLine) then _ else Zb)=_;rw[if_pos (by rw[k,An p];rfl),n]
 rfl
theorem zjn {lo:Int}{n i:Nat}{w:W} (h:(rngW lo n)[i]?=Za w):i<n/\w=.int (lo+i):=by
 unfold rngW at h;rw[At] at h;cases q:(List.range n)[i]? with
 |none=>rw[q] at h;exact noSome h
 | some k =>
  rw[q] at h;obtain⟨a,e⟩:=Ai.mp q;rw[Ek] at a;rw[List.getElem_range] at e;subst e;exact⟨a,(sI h).symm⟩
theorem zqn (lo:Int)(n:Nat):(rngW lo n).length=n:=by unfold rngW;rw[Ad,Ek]
theorem zcn {xs:List W}{i:Nat}{x:W}(h:xs[i]?=Za x):atI xs (i:Int)=Za x:=z40 h
theorem zu3 {en:En}:zb7 [] [] en=Za []:=rfl
theorem zs3 {m:List Bool}{ws:List W}{en:En}{x w:W}:zb7 (Zd::m) (x::ws) (#v[w,5]::en)=(zb7 m ws en).bind λr=>Za (w::r):=rfl
theorem zwv {m:List Bool}{ws:List W}{en:En}{w:W}{o:Option (W×Bool)}:zb7 (Zc::m) (w::ws) (o::en)=(zb7 m ws en).bind λr=>Za (w::r):=rfl
noncomputable def HS (k:Nat) (w:W):Prop:=∃a b c:Int,w=.lst [.int a,.int b,.int c]/\0<=a/\0<=b/\b<MM/\0<=c/\c<=k
theorem HS.mono {k d:Nat}{w:W}(h:HS k w)(l:k<=d):HS d w:=by
 obtain⟨a,b,c,e,i,j,f,g,m⟩:=h;exact⟨a,b,c,e,i,j,f,g,by omega⟩
noncomputable def zid (Φ:Fn):Prop:=∀(k:Nat) (a:W) (n:Int),HS k a->k<big->0<n->n<1073741824->∃s r,Φ [a,.int n]=Za ([s,.int n],(.int r,Zc))/\HS (k+1) s/\0<=r/\r<n
noncomputable def zwi (Ψ:Str->Fn):GS:=(gSeq (gIfS (zaj (gOp2 (oI yes2 λi j=>.bl (decide (j<i))) (gArg (gOp2 oIx (zaa 0) #v[0])) #v[0])) (gSeq (gSet [0] 2 (gOp2 #v[0,0,2] (gArg (gOp2 oIx (zaa 0) #v[0])) (zaa 1))) (gSeq (za3 0 (gC (.int 0)) (gOp2 #v[0,0,3] (gArg (gOp2 oIx (zaa 0) #v[0])) (zaa 1))) (zfg [0] 2))) zbx) (gSeq (za3 0 (gC (.int 2)) (gOp2 oAdd (gArg (gOp2 oIx (zaa 0) #v[2])) #v[1])) (gSeq (gSet [0] 3 (gOp2 #v[0,0,2] (gArg (gOp2 oMult (gArg (gOp2 oAdd (gArg (gOp2 oAdd (gArg (gOp2 oIx (zaa 0) #v[1])) (gArg (gOp2 oMult (gArg (gOp2 oMult #v[65537] (gArg (gOp2 oIx (zaa 0) #v[2])))) (gArg (gOp2 oIx (zaa 0) #v[2])))))) #v[11])) #v[48271])) #v[2305843009213693921])) (gSeq (gSet [0] 3 (gOp2 #v[0,0,2] (gArg (gOp2 oMult (zaa 3) (gArg (gOp2 oAdd (gArg (gOp2 #v[0,0,2] (zaa 3) #v[1000003])) (gArg (gOp2 oMult #v[99991] (gArg (gOp2 oIx (zaa 0) #v[2])))))))) #v[2305843009213693907])) (gRet (gOp2 #v[0,0,2] (gArg (gOp2 oAdd (gArg (gOp2 #v[0,0,3] (zaa 3) #v[97])) (gArg (gOp2 #v[0,0,3] (zaa 3) #v[1000033])))) (zaa 1)))))))
theorem zn4 (Ψ:Str->Fn):zid (zal [Zd,Zc] 4 (zwi Ψ)):=by
 rintro k x n ⟨a,b,c,rfl,h,f,j,t,A⟩ m d y;have C:(k:Int)<1099511627776:=by have:k<1099511627776:=m;omega
 by_cases g:0<a
 ·refine⟨.lst [.int (a/n),.int b,.int c],a%n, ?_,⟨_,_,_,rfl,Int.ediv_nonneg h #v[],f,j,t,by omega⟩,Hq _ #v[],Gs _ d⟩;have r:cDiv a n=Zd:=zv0 d #v[];simp [zal,zwi,zau,gSeq,gIfS,zaj,gOp2,gArg,zaa,gC,resA,oI,yes2,oIx,seqW,atI,ixN,gSet,za3,zfg,zu3,zs3,zwv,g,d,r]
 ·have u:oMult (.int 65537) (.int (c+1))=Za (.int (65537*(c+1)),Zc):=oMult_l #v[0,9] #v[0,9];have p:oMult (.int (65537*(c+1))) (.int (c+1))=#v[(65537*(c+1)*(c+1)),0]:=znj #v[] #v[];have e:oMult (.int (b+65537*(c+1)*(c+1)+11)) (.int 48271)=#v[((b+65537*(c+1)*(c+1)+11)*48271),0]:=znj #v[0,9] #v[0,9];generalize w:(b+65537*(c+1)*(c+1)+11)*48271=x0 at e;have l:oMult (.int 99991) (.int (c+1))=#v[(99991*(c+1)),0]:=oMult_l #v[0,9] #v[0,9];have z:0<=x0%2305843009213693921:=Hq _ #v[0,9];have B:x0%2305843009213693921<2305843009213693921:=Gs _ #v[0,9];have s:oMult (.int (x0%2305843009213693921)) (.int (x0%2305843009213693921%1000003+99991*(c+1)))=#v[(x0%2305843009213693921*(x0%2305843009213693921%1000003+99991*(c+1))),0]:=oMult_l #v[] #v[];have o:∀i,cDiv i 97=Zd:=λi=>zv0 #v[0,9] #v[0,9];have q:∀i,cDiv i 1000033=Zd:=λi=>zv0 #v[0,9] #v[0,9];refine⟨.lst [.int a,.int b,.int (c+1)],(x0%2305843009213693921*(x0%2305843009213693921%1000003+99991*(c+1))%2305843009213693907/97+x0%2305843009213693921*(x0%2305843009213693921%1000003+99991*(c+1))%2305843009213693907/1000033)%n,?_,⟨_,_,_,rfl,h,f,j,by omega,by omega⟩,Hq _ #v[],Gs _ d⟩
  ·simp [zal,zwi,zau,gSeq,gIfS,zaj,gOp2,gArg,zaa,gC,resA,oI,yes2,oIx,seqW,atI,ixN,gSet,za3,gRet,zbx,zu3,zs3,zwv,g,d,zvj,u,p,e,l,s,o,q]
theorem seq_nx {a b:GS}{en e1:En}(h:a en=Za (e1,.nx)):gSeq a b en=b e1:=by unfold gSeq;rw[h]
theorem zqr {a b:GS}{en e1:En}{r:W×Bool}(h:a en=Za (e1,.ret r)):gSeq a b en=Za (e1,.ret r):=by unfold gSeq;rw[h]
theorem zuq {mp:List Nat}{i:Nat}{g:GE}{en e1:En}{r:W×Bool}(h:g en=Za (e1,r))(a:(mp.contains i || !decide (i<e1.length))=Zc):gSet mp i g en=Za (e1.set i (Za r),.nx):=by
 unfold gSet;rw[h];show (if (mp.contains i || !decide (i<e1.length))=Zd then _ else _)=_;rw[a]
 rfl
theorem zuk {c:GT}{a b:GS}{en e1:En}(h:c en=#v[e1,5]):gIfS c a b en=a e1:=by unfold gIfS;rw[h]
theorem z4c {c:GT}{a b:GS}{en e1:En}(h:c en=#v[e1,6]):gIfS c a b en=b e1:=by unfold gIfS;rw[h]
theorem z3p {g:GE}{en e1:En}{b f:Bool}(h:g en=Za (e1,(.bl b,f))):zaj g en=Za (e1,b):=by unfold zaj;rw[h]
theorem zua {g:GE}{en e1:En}{r:W×Bool}(h:g en=Za (e1,r)):gRet g en=Za (e1,.ret r):=by unfold gRet;rw[h];rfl
theorem z24 {g:GE}{en e1:En}{r:W×Bool}(h:g en=Za (e1,r)):zfd g en=Za (e1,.nx):=by unfold zfd;rw[h];rfl
theorem zbr {g:GE}{en e1:En}{r:W×Bool}(h:g en=Za (e1,r)):gArg g en=Za (e1,.inl r.1):=by unfold gArg;rw[h];rfl
theorem z1w {a:GA}{as:GAs}{en e1 e:En}{x:W ⊕ Nat}{xs:List (W ⊕ Nat)}(h:a en=Za (e1,x))(b:as e1=Za (e,xs)):gCns a as en=Za (e,x::xs):=by
 unfold gCns;rw[h];show (as e1).bind _=_;rw[b]
 rfl
theorem zbu {o:O2}{a b:GA}{en e1 e:En}{x y:W ⊕ Nat}{w u:W}{r:W×Bool}(c:a en=Za (e1,x))(f:b e1=Za (e,y))(h:resA e x=Za w)(h4:resA e y=Za u)(d:o w u=Za r):gOp2 o a b en=Za (e,r):=by
 unfold gOp2;rw[c];show (b e1).bind _=_;rw[f];show (resA e x).bind _=_;rw[h];show (resA e y).bind _=_;rw[h4];show (o w u).bind _=_;rw[d]
 rfl
theorem z0q {o:ON}{as:GAs}{en e1:En}{xs:List (W ⊕ Nat)}{ws:List W}{r:W×Bool}(a:as en=Za (e1,xs))(b:zar e1 xs=Za ws)(h:o ws=Za r):gOpN o as en=Za (e1,r):=by
 unfold gOpN;rw[a];show (zar e1 xs).bind _=_;rw[b];show (o ws).bind _=_;rw[h]
 rfl
theorem zdv {m:List Bool}{n:Nat}{g:GS}{ws ws':List W}{en:En}{r:W×Bool}(b:ws.length=m.length)(h:g (zau m ws++List.replicate (n-m.length) Zb)=Za (en,.ret r))(a:zb7 m ws en=Za ws'):zal m n g ws=Za (ws',r):=by
 unfold zal;rw[if_pos b,h];show (zb7 m ws en).bind _=_;rw[a]
 rfl
theorem zb8:∀(a:List W) (i:Nat),zap (zav (a.map Sum.inl)) i=Zb
 |[],i=>rfl
 | w::a,i=>by
  have:=zb8 a i;unfold zap zav at this ⊢;rw[Ak,Ak,List.findIdx?_cons,this]
  rfl
theorem zgm (ws:List W):zb6 (zav (ws.map Sum.inl))=Zd:=by
 unfold zb6;refine Bf.mpr λj _=>?_;have:∀i,(zav (ws.map Sum.inl))[j]?≠Za (Za i):=λi=>zcg (zb8 ws i) j;cases q:(zav (ws.map Sum.inl))[j]? with
 |none=>rfl
 | some o =>
  cases o with
  |none=>rfl
  |some i=>exact absurd q (this i)
theorem zvz {cap:Cap}{en c:En}(h:∀i,zap cap i=Zb):zao cap en c=en:=by
 unfold zao;apply Dl;intro i;rw[Fm];cases en[i]? with
 |none=>rfl
 |some x=>simp only [Hm,h i]
theorem zbn (en:En):∀a:List W,zar en (a.map Sum.inl)=Za a
 |[]=>rfl
 |w::a=>by show (Za w).bind _=_;show (zar en (a.map Sum.inl)).bind _=_;rw[zbn en a];rfl
theorem zen (en:En)(ws:List W):zaq en (ws.map Sum.inl)=Zd:=by
 unfold zaq;refine Bf.mpr λx h=>?_;obtain⟨w,_,rfl⟩:=Bz.mp h
 rfl
theorem zk9 {m:List Bool}{Φ:Fn}{as:GAs}{en e1:En}{ws ws':List W}{r:W×Bool}(h:as en=Za (e1,ws.map Sum.inl))(b:(ws.map λ_=>Zc)=m)(a:Φ ws=Za (ws',r))(c:ws'.length=ws.length):zaf m Φ as en=Za (e1,r):=by
 unfold zaf;rw[h];show (if (decide ((ws.map Sum.inl).map isR=m)&&zaq e1 (ws.map Sum.inl)&&zb6 (zav (ws.map Sum.inl)))=Zd then _ else _)=_;have e:(ws.map Sum.inl).map isR=m:=by rw[<-b,Ca];rfl
 rw[An e,zen,zgm];show (zar e1 (ws.map Sum.inl)).bind _=_;rw[zbn];show (Φ ws).bind _=_;rw[a];show (if ws'.length=m.length then _ else _)=_;rw[if_pos (by rw[c,<-b,Ad]),zvz (zb8 ws)]
theorem zpu {m:List Bool}{Φ:Fn}{as:GAs}{en e1:En}{i:Nat}{ws wz:List W}{st s:W}{r:W×Bool} (h:as en=Za (e1,.inr i::ws.map Sum.inl)) (d:(Zd::ws.map λ_=>Zc)=m) (a:e1[i]?=Za (Za (st,Zd))) (b:Φ (st::ws)=Za (s::wz,r)) (p:wz.length=ws.length):zaf m Φ as en=Za (e1.set i (Za (s,Zd)),r):=by
 have f:∀j,zap (zav (.inr i::ws.map Sum.inl)) j=if j=i then Za 0 else Zb:=λj=>by
  have:=zb8 ws j;unfold zap zav at this ⊢;rw[Ak,List.findIdx?_cons];by_cases e:j=i
  ·subst e;simp
  ·have:(Za i==Za j)=Zc:=by simp;exact λz=>e z.symm
   simp only [this];rw[if_neg e]
   simp_all
 have n:zb6 (zav (.inr i::ws.map Sum.inl))=Zd:=by
  unfold zb6;refine Bf.mpr λj _=>?_;cases j with
  | zero =>
   show (match (zav (.inr i::ws.map Sum.inl))[0]? with|some (Za k)=>zap (zav (.inr i::ws.map Sum.inl)) k==Za 0|_=>Zd)=Zd;show (zap (zav (.inr i::ws.map Sum.inl)) i==Za 0)=Zd;rw[f i,if_pos rfl]
   rfl
  | succ j =>
   have:∀k,(zav (ws.map Sum.inl))[j]?≠Za (Za k):=λk=>zcg (zb8 ws k) j;have e:(zav (.inr i::ws.map Sum.inl))[j+1]?=(zav (ws.map Sum.inl))[j]?:=rfl;rw[e];cases q:(zav (ws.map Sum.inl))[j]? with
   |none=>rfl
   | some o =>
    cases o with
    |none=>rfl
    |some k=>exact absurd q (this k)
 unfold zaf;rw[h];show (if (decide ((.inr i::ws.map Sum.inl).map isR=m)&&zaq e1 (.inr i::ws.map Sum.inl)&&zb6 (zav (.inr i::ws.map Sum.inl)))=Zd then _ else _)=_;have e:(Sum.inr i::ws.map Sum.inl).map isR=m:=by rw[<-d,Ak,Ca];rfl
 have t:zaq e1 (.inr i::ws.map Sum.inl)=Zd:=by
  have:=zen e1 ws;unfold zaq at this ⊢;rw[Bk,this];simp only [a,Hi]
 rw [An e,t,n];have l:zar e1 (.inr i::ws.map Sum.inl)=Za (st::ws):=by
  show (resA e1 (.inr i)).bind _=_;have:resA e1 (.inr i)=Za st:=by unfold resA;simp only [a]
  rw[this];show (zar e1 (ws.map Sum.inl)).bind _=_;rw[zbn]
  rfl
 show (zar e1 (.inr i::ws.map Sum.inl)).bind _=_;rw[l];show (Φ (st::ws)).bind _=_;rw[b];show (if (s::wz).length=m.length then _ else _)=_;rw[if_pos (by rw[<-d,Bd,Bd,Ad,p])];refine congrArg Za (congrArg (·,r) ?_);unfold zao;apply Dl;intro j;rw[Fm];have g:i<e1.length:=(Ai.mp a).1;by_cases c:j=i
 ·subst c
  rw[Dx g,a];simp only [Hm,f j,if_pos];rw[<-d]
  rfl
 ·rw [Dh (Ne.symm c)]
  cases e1[j]? with
  |none=>rfl
  |some x=>simp only [Hm,f j,if_neg c]
theorem zd8 {m:List Bool}{Φ:Fn}{as:GAs}{en:En}{i:Nat}{ws wz:List W}{st s:W}{r:W×Bool}(h:as en=Za (en,.inr i::ws.map Sum.inl))(b:(Zd::ws.map λ_=>Zc)=m)(c:en[i]?=Za (#v[st,5]))(a:Φ (st::ws)=Za (s::wz,r))(d:wz.length=ws.length):zaf m Φ as en=Za (en.set i (#v[s,5]),r):=zpu h b c a d
theorem zp0 {a w:W}{ws:List W}{i:Int}(h:seqW a=Za ws)(b:atI ws i=Za w):oIx a (.int i)=#v[w,6]:=by
 unfold oIx;cases a<;>simp_all
theorem oI_t {c:Int->Int->Bool}{g:Int->Int->W}{i j:Int}(h:c i j=Zd):oI c g (.int i) (.int j)=#v[g i j,6]:=by
 show (if c i j then #v[g i j,6] else Zb)=_;rw[if_pos h]
theorem set_0 {mp:List Nat}{i:Nat}{g:GE}{en:En}{r:W×Bool}(h:g en=Za (en,r))(a:(mp.contains i || !decide (i<en.length))=Zc):gSet mp i g en=Za (en.set i (Za r),.nx):=zuq h a
theorem arg_0 {g:GE}{en:En}{r:W×Bool}(h:g en=Za (en,r)):gArg g en=Za (en,.inl r.1):=zbr h
theorem op2_0 {o:O2}{a b:GA}{en:En}{x y:W ⊕ Nat}{w u:W}{r:W×Bool}(d:a en=Za (en,x))(e:b en=Za (en,y))(h:resA en x=Za w)(h4:resA en y=Za u)(c:o w u=Za r):gOp2 o a b en=Za (en,r):=zbu d e h h4 c
theorem yag {o:ON}{as:GAs}{en:En}{xs:List (W ⊕ Nat)}{ws:List W}{r:W×Bool}(a:as en=Za (en,xs))(b:zar en xs=Za ws)(h:o ws=Za r):gOpN o as en=Za (en,r):=z0q a b h
theorem z41 {a:GA}{as:GAs}{en:En}{x:W ⊕ Nat}{xs:List (W ⊕ Nat)}(h:a en=Za (en,x))(b:as en=Za (en,xs)):gCns a as en=Za (en,x::xs):=z1w h b
theorem z9b {g:GE}{en:En}{r:W×Bool}(h:g en=Za (en,r)):gRet g en=Za (en,.ret r):=zua h
theorem ztw {m:List Bool}{Φ:Fn}{as:GAs}{en:En}{ws ws':List W}{r:W×Bool}(h:as en=Za (en,ws.map Sum.inl))(b:(ws.map λ_=>Zc)=m)(a:Φ ws=Za (ws',r))(c:ws'.length=ws.length):zaf m Φ as en=Za (en,r):=zk9 h b a c
theorem zsy {i:Nat}{k g:GE}{en:En}{w:W}{ws:List W}{n:Int}{j:Nat}{f d:Bool}(h:g en=Za (en,(w,f)))(b:k en=Za (en,(.int n,d)))(c:en[i]?=Za (#v[ws,2]))(a:ixN ws.length n=Za j):za3 i k g en=Za (en.set i (#v[(ws.set j w),2]),.nx):=by
 unfold za3;simp only [h,Do,c,b,a]
theorem z6a {i:Nat}{g:GE}{en e1:En}{us ws:List W}{r:W×Bool}(c:en[i]?=Za (#v[us,2]))(h:g en=Za (e1,r))(a:e1[i]?=Za (#v[ws,2]))(b:ws.length<sizeLine):gApp i g en=Za (e1.set i (#v[(ws++[r.1]),2]),(.non,Zc)):=by
 unfold gApp;simp only [c,h,Do,a];rw[if_pos b]
noncomputable def z07 (Ψ:Str->Fn):GS:=(gRet (gOp2 oIx (gArg (za0 (gCns #v[1] (gCns #v[2] (gCns #v[3] (gCns #v[4] (gCns #v[5] (gCns #v[6] (gCns #v[3] (gCns #v[4] gA0)))))))))) (gArg (zaf [Zd,Zc] (Ψ "_law_take") (gCns (zaa 0) (gCns #v[8] gA0))))))
noncomputable def zp7 (Φ:Fn):Prop:=∀(k:Nat) (a:W),HS k a->k<big->∃s m,Φ [a]=Za ([s],(.int m,Zc))/\HS (k+1) s/\1<=m/\m<=6
theorem yau {r:Int}(a:0<=r)(h:r<8):r=0\/r=1\/r=2\/r=3\/r=4\/r=5\/r=6\/r=7:=by omega
theorem z18 {Ψ:Str->Fn}(b:zid (Ψ "_law_take")):zp7 (zal [Zd] 1 (z07 Ψ)):=by
 intro k a d g;nofun;obtain⟨s,r,e,n,o,h⟩:=b k a 8 d g #v[0,9] #v[0,9];ac_rfl;have c:zaf [Zd,Zc] (Ψ "_law_take") (gCns (zaa 0) (gCns #v[8] gA0)) [#v[a,5]]=Za ([#v[s,5]],(.int r,Zc)):=zd8 (i:=0) (ws:=[.int 8]) (wz:=[.int 8]) rfl rfl rfl e rfl;have go:∀m,atI ([.int 1,.int 2,.int 3,.int 4,.int 5,.int 6,.int 3,.int 4]:List W) r=Za (.int m)->1<=m->m<=6->∃s m,zal [Zd] 1 (z07 Ψ) [a]=Za ([s],(.int m,Zc))/\HS (k+1) s/\1<=m/\m<=6:=λm f l j=>by
  refine⟨s,m,zdv (en:=[#v[s,5]]) rfl (zua (zbu (x:=.inl (.lst [.int 1,.int 2,.int 3,.int 4,.int 5,.int 6,.int 3,.int 4])) (y:=.inl (.int r)) rfl (zbr c) rfl rfl ?_)) rfl,n,l,j⟩;exact zp0 rfl f
 rcases yau o h with rfl|rfl|rfl|rfl|rfl|rfl|rfl|rfl
 ·exact go 1 rfl #v[0,9] #v[0,9]
 ·exact go 2 rfl #v[0,9] #v[0,9]
 ·exact go 3 rfl #v[0,9] #v[0,9]
 ·exact go 4 rfl #v[0,9] #v[0,9]
 ·exact go 5 rfl #v[0,9] #v[0,9]
 ·exact go 6 rfl #v[0,9] #v[0,9]
 ·exact go 3 rfl #v[0,9] #v[0,9]
 ·exact go 4 rfl #v[0,9] #v[0,9]
noncomputable def z57 (Ψ:Str->Fn):GS:=(gSeq (gSet [0] 2 (zaf [Zd,Zc] (Ψ "_law_take") (gCns (zaa 0) (gCns #v[4] gA0)))) (gSeq (gIfS (zaj (gOp2 oEq (zaa 2) #v[3])) (gRet (gOp2 oMult (gArg (za0 (gCns (gArg (zaf [Zd,Zc] (Ψ "_law_take") (gCns (zaa 0) (gCns #v[2] gA0)))) gA0))) (zaa 1))) zbx) (gSeq (gSet [0] 3 (za0 gA0)) (gSeq (gFor [0] (.nm 4) (zd3 (gCns (zaa 1) gA0)) (gSeq (gSet [0] 5 (zaf [true,false] (Ψ "_law_take") (gCns (zaa 0) (gCns (gArg (gOp2 oIx (gArg (za0 (gCns #v[2] (gCns #v[5] (gCns #v[5] gA0))))) (zaa 2))) gA0)))) (zfd (gApp 3 (gOp2 oIx (gArg (za0 (gCns #v[5,4] (gCns (gArg (gOpN oInt (gCns (gArg (gOp2 oEq (zaa 5) #v[0])) gA0))) (gCns (gArg (gOpN oInt (gCns (gArg (gOp2 (oI yes2 λi j=>.bl (decide (j<i))) (zaa 5) #v[0])) gA0))) gA0))))) (zaa 2)))))) (zfg [0] 3)))))
noncomputable def z08 (Φ:Fn):Prop:=∀(k:Nat) (a:W) (n:Int),HS k a->k+100<big->0<=n->n<=64->∃s x,Φ [a,.int n]=Za ([s,.int n],(.lst (x.map W.int),Zd))/\HS (k+66) s/\(x.length:Int)=n/\Bits x
theorem three {r:Int}(b:0<=r)(h:r<4)(a:r≠3):r=0\/r=1\/r=2:=by omega
theorem zpf {α:Type}(x:α):∀n:Nat,(List.replicate n [x]).flatten=List.replicate n x
 |0=>rfl
 |n+1=>by rw[Da,El,zpf x n];rfl
theorem z2j {Ψ:Str->Fn}(A:zid (Ψ "_law_take")):z08 (zal [Zd,Zc] 6 (z57 Ψ)):=by
 intro k st n M hk n0 n1;have hz:(64:Nat)<=sizeLine:=by decide
 nofun;obtain⟨c,way,u,G,h2,Q⟩:=A k st 4 M #v[] #v[0,9] #v[0,9];ac_rfl;have Z:zaf [Zd,Zc] (Ψ "_law_take") (gCns (zaa 0) (gCns #v[4] gA0)) [#v[st,5],#v[n,0],Zb,Zb,Zb,Zb]=Za ([#v[c,5],#v[n,0],Zb,Zb,Zb,Zb],(.int way,Zc)):=zd8 (i:=0) (ws:=[.int 4]) (wz:=[.int 4]) rfl rfl rfl u rfl;have D:=zuq (mp:=[0]) (i:=2) Z rfl;by_cases E:way=3
 ·subst E;refine aG λ_ qG=>?_;obtain ⟨d,b,B,g,f,l⟩:=A (k+1) c 2 G (by omega) (by decide) (by decide);refine qG ?_;clear qG;have V:zaf [Zd,Zc] (Ψ "_law_take") (gCns (zaa 0) (gCns (gArg (gC (.int 2))) gA0)) [Za (c,Zd),Za (.int n,Zc),Za (.int 3,Zc),Zb,Zb,Zb]=Za ([Za (d,Zd),Za (.int n,Zc),Za (.int 3,Zc),Zb,Zb,Zb],(.int b,Zc)):=zd8 (i:=0) (ws:=[.int 2]) (wz:=[.int 2]) rfl rfl rfl B rfl;have K:za0 (gCns (gArg (zaf [Zd,Zc] (Ψ "_law_take") (gCns (zaa 0) (gCns (gArg (gC (.int 2))) gA0)))) gA0) [Za (c,Zd),Za (.int n,Zc),Za (.int 3,Zc),Zb,Zb,Zb]=Za ([Za (d,Zd),Za (.int n,Zc),Za (.int 3,Zc),Zb,Zb,Zb],(.lst [.int b],Zd)):=by
   unfold za0;rw[z1w (zbr V) (show gA0 _=_ from rfl)]
   rfl
  have I:oMult (.lst [.int b]) (.int n)=#v[(List.replicate n.toNat (.int b)),2]:=by
   rw[zsv (by refine⟨by omega,by omega,?_⟩;show 1*n.toNat<=sizeLine;omega),zpf]
  refine⟨d,List.replicate n.toNat b,?_,g.mono #v[],by rw[Hg];omega,λx o=>by rw[List.eq_of_mem_replicate o];omega⟩;refine zdv (en:=[#v[d,5],#v[n,0],#v[3,0],Zb,Zb,Zb]) rfl ?_ rfl;refine (seq_nx D).trans (zqr ?_);refine (zuk (e1:=[#v[c,5],#v[n,0],#v[3,0],Zb,Zb,Zb]) rfl).trans (zua (zbu (zbr K) rfl rfl rfl ?_));rw[List.map_replicate];exact I
 ·have F:=three h2 Q E;have turn:∀(i:Nat) (st:W) (xs:List Int) (v5:Option (W×Bool)),HS (k+1+i) st->i<64->xs.length=i->∃s x one,HS (k+1+i+1) s/\(x=0\/x=1) /\
    (gSeq (gSet [0] 5 (zaf [true,false] (Ψ "_law_take") (gCns (zaa 0) (gCns (gArg (gOp2 oIx (gArg (za0 (gCns #v[2] (gCns #v[5] (gCns #v[5] gA0))))) (zaa 2))) gA0)))) (zfd (gApp 3 (gOp2 oIx (gArg (za0 (gCns #v[5,4] (gCns (gArg (gOpN oInt (gCns (gArg (gOp2 oEq (zaa 5) #v[0])) gA0))) (gCns (gArg (gOpN oInt (gCns (gArg (gOp2 (oI yes2 λi j=>.bl (decide (j<i))) (zaa 5) #v[0])) gA0))) gA0))))) (zaa 2))))) [#v[st,5],#v[n,0],#v[way,0],#v[(xs.map W.int),2],#v[(0+(i:Nat)),0],v5] =
     Za ([#v[s,5],#v[n,0],#v[way,0],#v[((xs++[x]).map W.int),2],#v[(0+(i:Nat)),0],#v[one,0]],.nx):=by
   intro i st xs v5 h S p;have U:(xs.map W.int).length<sizeLine:=by rw[Ad,p];omega
   have fin:∀(q:Int) (x:Int->Int),(∀one,0<=one->one<q->x one=0\/x one=1)->0<q->q<1073741824 ->
     (gCns (zaa 0) (gCns (gArg (gOp2 oIx (gArg (za0 (gCns #v[2] (gCns #v[5] (gCns #v[5] gA0))))) (zaa 2))) gA0)) [#v[st,5],#v[n,0],#v[way,0],#v[(xs.map W.int),2],#v[(0+(i:Nat)),0],v5]=Za ([#v[st,5],#v[n,0],#v[way,0],#v[(xs.map W.int),2],#v[(0+(i:Nat)),0],v5],[.inr 0,.inl (.int q)]) ->
     (∀(s:W) (one:Int),(gOp2 oIx (gArg (za0 (gCns #v[5,4] (gCns (gArg (gOpN oInt (gCns (gArg (gOp2 oEq (zaa 5) #v[0])) gA0))) (gCns (gArg (gOpN oInt (gCns (gArg (gOp2 (oI yes2 λi j=>.bl (decide (j<i))) (zaa 5) #v[0])) gA0))) gA0))))) (zaa 2)) [#v[s,5],#v[n,0],#v[way,0],#v[(xs.map W.int),2],#v[(0+(i:Nat)),0],#v[one,0]]=Za ([#v[s,5],#v[n,0],#v[way,0],#v[(xs.map W.int),2],#v[(0+(i:Nat)),0],#v[one,0]],(.int (x one),Zc))) ->
     ∃s x one,HS (k+1+i+1) s/\(x=0\/x=1)/\(gSeq (gSet [0] 5 (zaf [true,false] (Ψ "_law_take") (gCns (zaa 0) (gCns (gArg (gOp2 oIx (gArg (za0 (gCns #v[2] (gCns #v[5] (gCns #v[5] gA0))))) (zaa 2))) gA0)))) (zfd (gApp 3 (gOp2 oIx (gArg (za0 (gCns #v[5,4] (gCns (gArg (gOpN oInt (gCns (gArg (gOp2 oEq (zaa 5) #v[0])) gA0))) (gCns (gArg (gOpN oInt (gCns (gArg (gOp2 (oI yes2 λi j=>.bl (decide (j<i))) (zaa 5) #v[0])) gA0))) gA0))))) (zaa 2))))) [#v[st,5],#v[n,0],#v[way,0],#v[(xs.map W.int),2],#v[(0+(i:Nat)),0],v5] =
      Za ([#v[s,5],#v[n,0],#v[way,0],#v[((xs++[x]).map W.int),2],#v[(0+(i:Nat)),0],#v[one,0]],.nx):=by
    intro q x o Y O L X;nofun;obtain⟨s,one,B,g,f,l⟩:=A (k+1+i) st q h #v[] Y O;ac_rfl;have J:=zd8 (m:=[Zd,Zc]) (ws:=[.int q]) (wz:=[.int q]) L rfl rfl B rfl;refine⟨s,x one,one,g,o one f l,?_⟩;refine (seq_nx (zuq (mp:=[0]) (i:=5) J rfl)).trans (z24 (r:=(.non,Zc)) ?_);rw[Bj];exact z6a (i:=3) rfl (X s one) rfl U
   rcases F with rfl|rfl|rfl
   ·exact fin 2 (λone=>one) (λone a b=>by omega) #v[0,9] #v[0,9] rfl λs one=>rfl
   ·refine fin 5 (λone=>if decide (one=0) then 1 else 0) (λone a b => ?_) #v[0,9] #v[0,9] rfl λs one=>rfl;by_cases z:one=0<;>simp [z]
   ·refine fin 5 (λone=>if decide (0<one) then 1 else 0) (λone a b => ?_) #v[0,9] #v[0,9] rfl λs one=>rfl;by_cases z:0<one<;>simp [z]
  obtain⟨P,H,N⟩:=zcm (mp:=[0]) (T:=.nm 4) (it:=zd3 (gCns (zaa 1) gA0)) (body:=(gSeq (gSet [0] 5 (zaf [true,false] (Ψ "_law_take") (gCns (zaa 0) (gCns (gArg (gOp2 oIx (gArg (za0 (gCns #v[2] (gCns #v[5] (gCns #v[5] gA0))))) (zaa 2))) gA0)))) (zfd (gApp 3 (gOp2 oIx (gArg (za0 (gCns #v[5,4] (gCns (gArg (gOpN oInt (gCns (gArg (gOp2 oEq (zaa 5) #v[0])) gA0))) (gCns (gArg (gOpN oInt (gCns (gArg (gOp2 (oI yes2 λi j=>.bl (decide (j<i))) (zaa 5) #v[0])) gA0))) gA0))))) (zaa 2))))))
   (λi e=>∃st xs t v5,e=[#v[st,5],#v[n,0],#v[way,0],#v[(xs.map W.int),2],t,v5]/\HS (k+1+i) st/\xs.length=i/\Bits xs)
   (en:=[#v[c,5],#v[n,0],#v[way,0],#v[[],2],Zb,Zb]) (e0:=[#v[c,5],#v[n,0],#v[way,0],#v[[],2],Zb,Zb]) (ws:=rngW 0 n.toNat)
   (by
    have R:ze6 n=Zd:=by unfold ze6;rw[An #v[],An #v[]];rfl
    show (if ze6 n then Za (_,rngW 0 n.toNat) else Zb)=_;rw[R];rfl)
   ⟨c,[],Zb,Zb,rfl,G,rfl,λx o=>by cases o⟩
   (by
    rintro i w e C ⟨st,xs,t,v5,rfl,h,p,hb⟩;nofun;obtain⟨S,rfl⟩:=zjn C;obtain⟨s,x,one,g,f,l⟩:=turn i st xs v5 h #v[] p;ac_rfl;refine⟨_,_,rfl,.inl l,s,xs++[x],_,_,rfl,g,by rw[Ax,p];rfl,λy j=>?_⟩;rcases Bg.mp j with j|j
    ·exact hb y j
    ·rw[Ao] at j;subst j;exact f)
  nofun;obtain⟨d,xs,t,v5,rfl,g,f,l⟩:=N;ac_rfl;rw[zqn] at g f;refine⟨d,xs,?_,g.mono #v[],by omega,l⟩;refine zdv (en:=[#v[d,5],#v[n,0],#v[way,0],Zb,t,v5]) rfl ?_ rfl;refine (seq_nx D).trans ((seq_nx (e1:=[#v[c,5],#v[n,0],#v[way,0],Zb,Zb,Zb]) ?_).trans ((seq_nx (e1:=[#v[c,5],#v[n,0],#v[way,0],#v[[],2],Zb,Zb]) rfl).trans ((seq_nx H).trans rfl)));rcases F with rfl|rfl|rfl<;>rfl
noncomputable def z5z (Ψ:Str->Fn):GS:=(gSeq (gSet [] 1 (za0 (gCns #v[0] (gCns #v[0] (gCns #v[0] gA0))))) (gSeq (gIfS (zhx (zaj (gOp2 (oI yes2 λi j=>.bl (decide (j<i))) (gArg (gOpN oLen (gCns (zaa 0) gA0))) #v[0])) (zaj (gOp2 (oI yes2 λi j=>.bl (decide (j<=i))) (gArg (gOp2 oIx (zaa 0) #v[0])) (gArg (gOp2 (oI cPow λi j=>.int (i^j.toNat)) #v[10] #v[18]))))) (gSeq (gSet [] 2 (gC (.int 1))) (gFor [] (.nm 3) (za1 (gSl (zaa 0) zbb (zej (gC (.int 63))))) (gSeq (za3 1 (gC (.int 0)) (gOp2 oAdd (gArg (gOp2 oIx (zaa 1) #v[0])) (gArg (gOp2 oMult (gArg (gOp2 #v[0,0,2] (gArg (gOpN oAbs (gCns (zaa 3) gA0))) (gArg (gOp2 (oI cPow λi j=>.int (i^j.toNat)) #v[10] #v[60])))) (zaa 2))))) (gSet [] 2 (gOp2 oMult (zaa 2) (gArg (gOp2 (oI cPow λi j=>.int (i^j.toNat)) #v[10] #v[60]))))))) zbx) (gSeq (gFor [] (.tp [4,3]) (zl7 (gSl (zaa 0) zbb (zej (gC (.int 63))))) (gSeq (gSet [] 5 (gOp2 oAdd (gArg (gOp2 oAdd (gArg (gOp2 #v[0,0,2] (zaa 3) #v[2305843009213693951])) (gArg (gOp2 oMult #v[7919] (zaa 4))))) #v[3])) (za3 1 (gC (.int 1)) (gOp2 #v[0,0,2] (gArg (gOp2 oAdd (gArg (gOp2 oMult (gArg (gOp2 oIx (zaa 1) #v[1])) #v[48271])) (zaa 5))) #v[2305843009213693951])))) (zfg [] 1))))
noncomputable def z1e (Φ:Fn):Prop:=∀n:List Int,n.length<=63->∃s,Φ [.frl (n.map W.int)]=Za ([.frl (n.map W.int)],(s,Zd))/\HS 0 s
theorem z7v {ns:List Int}(h:ns.length<=63):cutW (ns.map W.int) Zb (Za 63)=ns.map W.int:=by
 unfold cutW;have e:HT.sIx (ns.map W.int).length 0 Zb=0:=rfl;have a:HT.sIx (ns.map W.int).length (ns.map W.int).length (Za 63)=(ns.map W.int).length:=by
  have:=HT.sIx_nat (ns.map W.int).length (ns.map W.int).length 63;rw[show ((63:Nat):Int)=63 from rfl] at this;rw[this,Ad];omega
 rw[e,a,Fs,Nat.sub_zero,Dp]
theorem zp2 {ns:List Int}{i:Nat}{w:W}(h:(zfv (ns.map W.int) 0)[i]?=Za w):∃hi:i<ns.length,w=.tup [.int i,.int ns[i]]:=by
 have hi:i<ns.length:=by have:=(Ai.mp h).1;rw[zbw,Ad] at this;exact this
 have:=zeh (ws:=ns.map W.int) (k:=0) (i:=i) (w:=.int ns[i]) (by rw[At,Af hi];rfl);rw[h,Ce] at this;exact⟨hi,sI this⟩
theorem z3c (Ψ:Str->Fn):z1e (zal [Zc] 6 (z5z Ψ)):=by
 intro ns A;have m:cPow 10 18=Zd:=by decide
 have p:cPow 10 60=Zd:=by decide
 have first:∃a0 v2 v3,0<=a0/\gIfS (zhx (zaj (gOp2 (oI yes2 λi j=>.bl (decide (j<i))) (gArg (gOpN oLen (gCns (zaa 0) gA0))) (gArg (gC (.int 0))))) (zaj (gOp2 (oI yes2 fun i j=>.bl (decide (j<=i))) (gArg (gOp2 oIx (zaa 0) (gArg (gC (.int 0))))) (gArg (gOp2 (oI cPow fun i j=>.int (i ^ j.toNat)) (gArg (gC (.int 10))) (gArg (gC (.int 18)))))))) (gSeq (gSet [] 2 (gC (.int 1))) (gFor [] (.nm 3) (za1 (gSl (zaa 0) zbb (zej (gC (.int 63))))) (gSeq (za3 1 (gC (.int 0)) (gOp2 oAdd (gArg (gOp2 oIx (zaa 1) (gArg (gC (.int 0))))) (gArg (gOp2 oMult (gArg (gOp2 (oI (λ_ j=>decide (0<j)) λi j=>.int (i%j)) (gArg (gOpN oAbs (gCns (zaa 3) gA0))) (gArg (gOp2 (oI cPow fun i j=>.int (i ^ j.toNat)) (gArg (gC (.int 10))) (gArg (gC (.int 60))))))) (zaa 2))))) (gSet [] 2 (gOp2 oMult (zaa 2) (gArg (gOp2 (oI cPow fun i j=>.int (i ^ j.toNat)) (gArg (gC (.int 10))) (gArg (gC (.int 60)))))))))) zbx
   [some (.frl (ns.map W.int),false),#v[[.int 0,.int 0,.int 0],2],none,none,none,none]=Za ([some (.frl (ns.map W.int),false),#v[[.int a0,.int 0,.int 0],2],v2,v3,none,none],.nx):=by
  have l:(zaj (gOp2 (oI yes2 λi j=>.bl (decide (j<i))) (gArg (gOpN oLen (gCns (zaa 0) gA0))) #v[0])) [some (.frl (ns.map W.int),false),#v[[.int 0,.int 0,.int 0],2],none,none,none,none]=Za ([some (.frl (ns.map W.int),false),#v[[.int 0,.int 0,.int 0],2],none,none,none,none],decide ((0:Int)<((ns.map W.int).length:Nat))):=rfl;cases ns with
  |nil=>exact⟨0,Zb,Zb,by decide,(z4c (by unfold zhx;rw[l];rfl)).trans rfl⟩
  | cons n0 nr =>
   have t:(zaj (gOp2 (oI yes2 fun i j=>.bl (decide (j<=i))) (gArg (gOp2 oIx (zaa 0) (gArg (gC (.int 0))))) (gArg (gOp2 (oI cPow fun i j=>.int (i ^ j.toNat)) (gArg (gC (.int 10))) (gArg (gC (.int 18))))))) [Za (.frl ((n0::nr).map W.int),false),Za (.lst [.int 0,.int 0,.int 0],Zd),Zb,Zb,Zb,Zb]=Za ([Za (.frl ((n0::nr).map W.int),false),Za (.lst [.int 0,.int 0,.int 0],Zd),Zb,Zb,Zb,Zb],decide (10^18<=n0)) :=
    z3p (zbu (zbr (zbu rfl rfl rfl rfl (zp0 rfl (zcn (i:=0) rfl)))) (zbr (zbu (x:=.inl (.int 10)) rfl rfl rfl rfl (oI_t m))) rfl rfl rfl)
   have g:decide ((0:Int)<(((n0::nr).map W.int).length:Nat))=Zd:=An (by simp);rw[g] at l;by_cases c:(10:Int)^18<=n0
   ·rw [An c] at t
    obtain ⟨r,k,o⟩:=zcm (mp:=[]) (T:=.nm 3) (it:=za1 (gSl (zaa 0) zbb (zej (gC (.int 63))))) (body:=(gSeq (za3 1 (gC (.int 0)) (gOp2 oAdd (gArg (gOp2 oIx (zaa 1) (gArg (gC (.int 0))))) (gArg (gOp2 oMult (gArg (gOp2 (oI (λ_ j=>decide (0<j)) λi j=>.int (i%j)) (gArg (gOpN oAbs (gCns (zaa 3) gA0))) (gArg (gOp2 (oI cPow fun i j=>.int (i ^ j.toNat)) (gArg (gC (.int 10))) (gArg (gC (.int 60))))))) (zaa 2))))) (gSet [] 2 (gOp2 oMult (zaa 2) (gArg (gOp2 (oI cPow fun i j=>.int (i ^ j.toNat)) (gArg (gC (.int 10))) (gArg (gC (.int 60)))))))))
     (λi e=>∃a0 wt v3,e=[Za (.frl ((n0::nr).map W.int),false),#v[[.int a0,.int 0,.int 0],2],#v[wt,0],v3,Zb,Zb]/\0<=a0/\0<wt/\wt<=2^(200*i))
     (en:=[some (.frl ((n0::nr).map W.int),false),#v[[.int 0,.int 0,.int 0],2],#v[1,0],none,none,none]) (e0:=[some (.frl ((n0::nr).map W.int),false),#v[[.int 0,.int 0,.int 0],2],#v[1,0],none,none,none]) (ws:=(n0::nr).map W.int)
     (by
      show Za (_,cutW ((n0::nr).map W.int) Zb (Za 63))=_;rw[z7v A])
     ⟨0,1,Zb,rfl,by decide,by decide,by decide⟩
     (by
      rintro i w e a ⟨a0,wt,v3,rfl,f,d,q⟩;rw [At] at a;have C:i<(n0::nr).length:=by
       rcases Nat.lt_or_ge i (n0::nr).length with z|z
       ·exact z
       ·rw[Dn z] at a;exact noSome a
      rw[Af C] at a;have K:w=.int (n0::nr)[i]:=(sI a).symm;subst K;generalize (n0::nr)[i]=n;have E:0<=(if n<0 then -n else n)%(10:Int)^60:=Hq _ #v[0,9];have I:(if n<0 then -n else n)%(10:Int)^60<10^60:=Gs _ #v[0,9];have O:i<=63:=by omega
      have G:Builtin.Int.intBits ((if n<0 then -n else n)%(10:Int)^60)<=2^20:=zjk (i:=1) E (Int.le_trans (Int.le_of_lt I) #v[0,9]) #v[0,9];have D:Builtin.Int.intBits wt<=2^20:=zjk #v[] q O;have s:=zti G D;have u:=zti D (zjk (w:=10^60) (i:=1) #v[0,9] #v[0,9] #v[0,9]);obtain⟨M,H⟩:=zyl d q;refine⟨_,[Za (.frl ((n0::nr).map W.int),false),#v[[.int (a0+(if n<0 then -n else n)%(10:Int)^60*wt),.int 0,.int 0],2],#v[(wt*10^60),0],#v[n,0],Zb,Zb],rfl,.inl ?_,_,_,_,rfl,?_,M,H⟩
      ·refine (seq_nx (e1:=[Za (.frl ((n0::nr).map W.int),Zc),Za (.lst [.int (a0+(if n<0 then -n else n)%(10:Int)^60*wt),.int 0,.int 0],Zd),Za (.int wt,Zc),Za (.int n,Zc),Zb,Zb]) ?_).trans (set_0 (op2_0 rfl (arg_0 (op2_0 (x:=.inl (.int 10)) rfl rfl rfl rfl (oI_t p))) rfl rfl u) rfl)
       have y:gOp2 oAdd (gArg (gOp2 oIx (zaa 1) (gArg (gC (.int 0))))) (gArg (gOp2 oMult (gArg (gOp2 (oI (λ_ j=>decide (0<j)) λi j=>.int (i%j)) (gArg (gOpN oAbs (gCns (zaa 3) gA0))) (gArg (gOp2 (oI cPow fun i j=>.int (i ^ j.toNat)) (gArg (gC (.int 10))) (gArg (gC (.int 60))))))) (zaa 2))) [some (.frl ((n0::nr).map W.int),false),some (.lst [.int a0,.int 0,.int 0],true),some (.int wt,false),some (.int n,false),none,none]=Za ([some (.frl ((n0::nr).map W.int),false),some (.lst [.int a0,.int 0,.int 0],true),some (.int wt,false),some (.int n,false),none,none],(.int (a0+(if n<0 then -n else n)%(10:Int)^60*wt),Zc)) :=
        zbu (zbr (zbu rfl rfl rfl rfl (zp0 rfl (zcn (i:=0) rfl)))) (zbr (zbu (zbr (zbu (zbr (z0q rfl rfl rfl)) (zbr (zbu (x:=.inl (.int 10)) rfl rfl rfl rfl (oI_t p))) rfl rfl (oI_t #v[0,9]))) rfl rfl rfl s)) rfl rfl rfl
       exact zsy (n:=0) (j:=0) (ws:=[.int a0,.int 0,.int 0]) y rfl rfl rfl
      ·have:=Int.mul_nonneg E (Int.le_of_lt d)
       omega)
    nofun;obtain⟨a0,wt,v3,rfl,f,_⟩:=o;ac_rfl;exact⟨a0,_,_,f,(zuk (by unfold zhx;rw[l];exact t)).trans ((seq_nx (e1:=[some (.frl ((n0::nr).map W.int),false),#v[[.int 0,.int 0,.int 0],2],#v[1,0],none,none,none]) rfl).trans k)⟩
   ·rw [Bc c] at t
    exact⟨0,Zb,Zb,by decide,(z4c (by unfold zhx;rw[l];exact t)).trans rfl⟩
 nofun;obtain⟨a0,v2,v3,f,h⟩:=first
 refine qG ?_;clear qG;obtain ⟨r,k,o⟩:=zcm (mp:=[]) (T:=.tp [4,3]) (it:=zl7 (gSl (zaa 0) zbb (zej (gC (.int 63))))) (body:=(gSeq (gSet [] 5 (gOp2 oAdd (gArg (gOp2 oAdd (gArg (gOp2 (oI (λ_ j=>decide (0<j)) λi j=>.int (i%j)) (zaa 3) (gArg (gC (.int 2305843009213693951))))) (gArg (gOp2 oMult (gArg (gC (.int 7919))) (zaa 4))))) (gArg (gC (.int 3))))) (za3 1 (gC (.int 1)) (gOp2 (oI (λ_ j=>decide (0<j)) λi j=>.int (i%j)) (gArg (gOp2 oAdd (gArg (gOp2 oMult (gArg (gOp2 oIx (zaa 1) (gArg (gC (.int 1))))) (gArg (gC (.int 48271))))) (zaa 5))) (gArg (gC (.int 2305843009213693951)))))))
  (λi e=>∃b v3 B F,e=[Za (.frl (ns.map W.int),false),#v[[.int a0,.int b,.int 0],2],v2,v3,B,F]/\0<=b/\b<MM)
  (en:=[some (.frl (ns.map W.int),false),#v[[.int a0,.int 0,.int 0],2],v2,v3,none,none]) (e0:=[some (.frl (ns.map W.int),false),#v[[.int a0,.int 0,.int 0],2],v2,v3,none,none]) (ws:=zfv (ns.map W.int) 0)
  (by
   show Za (_,zfv (cutW (ns.map W.int) Zb (Za 63)) 0)=_;rw[z7v A])
  ⟨0,v3,Zb,Zb,rfl,by decide,by decide⟩
  (by
   rintro i w e a ⟨b,v3,B,F,rfl,d,q⟩;obtain ⟨C,rfl⟩:=zp2 a;generalize ns[i]=n;have P:MM=2305843009213693951:=rfl;have s:oMult (.int 7919) (.int (i:Nat))=Za (.int (7919*(i:Nat)),Zc):=oMult_l (by decide) (by decide);have u:oMult (.int b) (.int 48271)=Za (.int (b*48271),Zc):=znj (by decide) (by decide);refine ⟨_,[Za (.frl (ns.map W.int),false),Za (.lst [.int a0,.int ((b*48271+(n%2305843009213693951+7919*(i:Nat)+3))%2305843009213693951),.int 0],Zd),v2,Za (.int n,Zc),Za (.int (i:Nat),Zc),Za (.int (n%2305843009213693951+7919*(i:Nat)+3),Zc)],rfl,.inl ?_,_,_,_,_,rfl,Hq _ (by decide),Gs _ (by decide)⟩;refine (seq_nx (e1:=[some (.frl (ns.map W.int),false),some (.lst [.int a0,.int b,.int 0],true),v2,some (.int n,false),some (.int (i:Nat),false),some (.int (n % 2305843009213693951+7919 * (i:Nat)+3),false)]) (set_0 (op2_0 (arg_0 (op2_0 (arg_0 (op2_0 rfl rfl rfl rfl (oI_t (by decide)))) (arg_0 (op2_0 (x:=.inl (.int 7919)) rfl rfl rfl rfl s)) rfl rfl rfl)) rfl rfl rfl rfl) rfl)).trans ?_;have y:gOp2 (oI (λ_ j=>decide (0<j)) λi j=>.int (i%j)) (gArg (gOp2 oAdd (gArg (gOp2 oMult (gArg (gOp2 oIx (zaa 1) (gArg (gC (.int 1))))) (gArg (gC (.int 48271))))) (zaa 5))) (gArg (gC (.int 2305843009213693951))) [some (.frl (ns.map W.int),false),some (.lst [.int a0,.int b,.int 0],true),v2,some (.int n,false),some (.int (i:Nat),false),some (.int (n % 2305843009213693951+7919 * (i:Nat)+3),false)]=Za ([some (.frl (ns.map W.int),false),some (.lst [.int a0,.int b,.int 0],true),v2,some (.int n,false),some (.int (i:Nat),false),some (.int (n % 2305843009213693951+7919 * (i:Nat)+3),false)],(.int ((b*48271+(n%2305843009213693951+7919*(i:Nat)+3))%2305843009213693951),Zc)) :=
    zbu (zbr (zbu (zbr (zbu (zbr (zbu rfl rfl rfl rfl (zp0 rfl (zcn (i:=1) rfl)))) rfl rfl rfl u)) rfl rfl rfl rfl)) rfl rfl rfl (oI_t #v[0,9])
   exact zsy (n:=1) (j:=1) (ws:=[.int a0,.int b,.int 0]) y rfl rfl rfl)
 nofun;obtain⟨b,J,N,L,rfl,d,q⟩:=o;ac_rfl;refine⟨.lst [.int a0,.int b,.int 0],zdv (en:=[Za (.frl (ns.map W.int),false),Zb,v2,J,N,L]) rfl ?_ rfl,⟨_,_,_,rfl,f,d,q,by decide,by decide⟩⟩;exact (seq_nx (e1:=[some (.frl (ns.map W.int),false),#v[[.int 0,.int 0,.int 0],2],none,none,none,none]) rfl).trans ((seq_nx h).trans ((seq_nx k).trans rfl))
noncomputable def z1d (Ψ:Str->Fn):GS:=(gSeq (gIfS (zaj (gOp1 (oIsi .tuple) (zaa 1))) (gSeq (gIfS (gOrT (zhr (zaj (gOp1 (oIsi .tuple) (zaa 0)))) (zaj (gOp2 oNe (gArg (gOpN oLen (gCns (zaa 0) gA0))) (gArg (gOpN oLen (gCns (zaa 1) gA0)))))) (gRet (gC (.bl false))) zbx) (gRet (gOpN (oBl λbs=>bs.all id) (gCns (gArg (zbp [Zb,Zb,Zb] (.tp [1,2]) (gZip (gVar 0) (gVar 1)) gYes (zaf [Zc,Zc] (Ψ "_law_same") (gCns #v[1,4] (gCns #v[2,4] gA0))))) gA0)))) zbx) (gSeq (gIfS (zaj (gOp2 oIs (zaa 1) (gArg (gC .non)))) (gRet (gOp2 oIs (zaa 0) (gArg (gC .non)))) zbx) (gSeq (gIfS (zaj (gOp1 (oIsi .str) (zaa 1))) (gRet (gAnd (gOp1 (oIsi .str) (zaa 0)) (gOp2 oEq (zaa 0) (zaa 1)))) zbx) (gRet (gAnd (gOp1 (oIsi .int) (zaa 0)) (gAnd (gNot (gOp1 (oIsi .bool) (zaa 0))) (gOp2 oEq (zaa 0) (zaa 1))))))))
noncomputable def z9d (Φ:Fn):Prop:=∀a b:Int,Φ [.int a,.int b]=Za ([.int a,.int b],(.bl (decide (a=b)),Zc))
noncomputable def z8u (Φ:Fn):Prop:=∀a bs:List Int,a.length<=1000->Φ [.tup (a.map W.int),.tup (bs.map W.int)]=Za ([.tup (a.map W.int),.tup (bs.map W.int)],(.bl (decide (a=bs)),Zc))
theorem zxb (Ψ:Str->Fn):z9d (zal [Zc,Zc] 2 (z1d Ψ)):=λa b=>rfl
noncomputable def dec2:List Int->List Int->List Bool
 |a::c,b::bs=>decide (a=b)::dec2 c bs
 |_,_=>[]
theorem zqj:∀{as bs:List Int},as.length=bs.length->(dec2 as bs).all id=decide (as=bs)
 |[],[],_=>rfl
 |[],_::_,h=>by cases h
 |_::_,[],h=>by cases h
 | a::as,b::bs,h=>by
  have ih:=zqj (as:=as) (bs:=bs) (by simpa using h);show (decide (a=b)&&(dec2 as bs).all id)=_;rw[ih];by_cases h1:a=b<;>by_cases h2:as=bs<;>simp [h1,h2]
theorem zqx:∀{as bs:List Int},as.length=bs.length->(dec2 as bs).length=as.length
 |[],[],_=>rfl
 |[],_::_,h=>by cases h
 |_::_,[],h=>by cases h
 |a::as,b::bs,h=>congrArg (· + 1) (zqx (as:=as) (bs:=bs) (by simpa using h))
theorem zue:∀{as bs:List Int}{i:Nat}{w:W},as.length=bs.length->(zipW (as.map W.int) (bs.map W.int))[i]?=Za w->∃a b,w=.tup [.int a,.int b]/\(dec2 as bs)[i]?=Za (decide (a=b))
 |[],[],_,_,_,e=>by simp [zipW] at e
 |[],_::_,_,_,h,_=>by cases h
 |_::_,[],_,_,h,_=>by cases h
 |a::as,b::bs,0,w,h,e=>⟨a,b,(sI e).symm,rfl⟩
 |a::as,b::bs,i+1,w,h,e=>zue (as:=as) (bs:=bs) (i:=i) (by simpa using h) e
theorem zyj {Ψ:Str->Fn}(r:z9d (Ψ "_law_same")):z8u (zal [Zc,Zc] 2 (z1d Ψ)):=by
 intro as bs t;have l:(zaj (gOp2 oNe (gArg (gOpN oLen (gCns (zaa 0) gA0))) (gArg (gOpN oLen (gCns (zaa 1) gA0))))) [#v[(as.map W.int),3],#v[(bs.map W.int),3]]=Za ([#v[(as.map W.int),3],#v[(bs.map W.int),3]],!decide (((as.map W.int).length:Int)=((bs.map W.int).length:Nat))):=rfl;by_cases h:as.length=bs.length
 ·rw[An (by rw[Ad,Ad,h])] at l;have s:(1000:Nat)<=sizeLine:=by decide
  have k:(zipW (as.map W.int) (bs.map W.int)).length=as.length:=by rw[zb5,Ad,Ad,<-h,Ew]
  obtain⟨p,out,j,n⟩:=zdl (cap:=[Zb,Zb,Zb]) (T:=.tp [1,2]) (it:=gZip (gVar 0) (gVar 1)) (tc:=gYes) (te:=zaf [Zc,Zc] (Ψ "_law_same") (gCns #v[1,4] (gCns #v[2,4] gA0)))
   (λi c m=>(∃d f g,c=[d,f,g])/\m=((dec2 as bs).take i).map W.bl)
   (en:=[#v[(as.map W.int),3],#v[(bs.map W.int),3]]) (e0:=[#v[(as.map W.int),3],#v[(bs.map W.int),3]]) (ws:=zipW (as.map W.int) (bs.map W.int)) rfl rfl (by rw[k];omega) ⟨⟨_,_,_,rfl⟩,rfl⟩
   (by
    rintro i w c m q ⟨⟨d,f,g,rfl⟩,rfl⟩;nofun;obtain⟨a,b,rfl,o⟩:=zue h q;ac_rfl;refine⟨[d,#v[a,0],#v[b,0]],rfl,.inl ⟨_,_,(.bl (decide (a=b)),Zc),rfl,ztw (ws:=[.int a,.int b]) rfl rfl (r a b) rfl,⟨_,_,_,rfl⟩,?_⟩⟩;rw[Hz,o,Bj]
    rfl)
  nofun;obtain⟨⟨d,f,g,rfl⟩,rfl⟩:=n;ac_rfl;rw[k,<-zqx h,Dp] at j;refine zdv (en:=[#v[(as.map W.int),3],#v[(bs.map W.int),3]]) rfl ?_ rfl;refine zqr ((zuk (e1:=[#v[(as.map W.int),3],#v[(bs.map W.int),3]]) rfl).trans ((seq_nx (e1:=[#v[(as.map W.int),3],#v[(bs.map W.int),3]]) ((z4c (e1:=[#v[(as.map W.int),3],#v[(bs.map W.int),3]]) ?_).trans rfl)).trans (z9b (yag (xs:=[.inl (.lst ((dec2 as bs).map W.bl))]) (z41 (arg_0 j) rfl) rfl ?_))))
  ·show gOrT _ _ _=_;unfold gOrT;exact l
  ·show (blsOf ((dec2 as bs).map W.bl)).bind _=_;rw[zg6];show #v[W.bl ((dec2 as bs).all id),6]=_;rw[zqj h]
 ·have ne : ¬ as=bs:=λe=>h (by rw[e]);rw[Bc (by rw[Ad,Ad];omega)] at l;rw[Bc ne];refine zdv (en:=[#v[(as.map W.int),3],#v[(bs.map W.int),3]]) rfl ?_ rfl;refine zqr ((zuk (e1:=[#v[(as.map W.int),3],#v[(bs.map W.int),3]]) rfl).trans (zqr ((zuk (e1:=[#v[(as.map W.int),3],#v[(bs.map W.int),3]]) ?_).trans rfl)));show gOrT _ _ _=_;unfold gOrT;exact l
theorem zsh (a b x y:Nat)(d:x<2)(g:y<2):(2*a+x) &&& (2*b+y)=2*(a &&& b)+x*y:=by
 have h:((2*a+x) &&& (2*b+y))/2=a &&& b:=by
  have:=Nat.and_div_two_pow (n:=1) (a:=2*a+x) (b:=2*b+y);rw[Nat.pow_one] at this;rw[this];have c:(2*a+x)/2=a:=by omega
  have e:(2*b+y)/2=b:=by omega
  rw[c,e]
 have f:((2*a+x) &&& (2*b+y))%2=x*y:=by
  have:=Nat.and_mod_two_pow (n:=1) (a:=2*a+x) (b:=2*b+y);rw[Nat.pow_one] at this;rw[this];have c:(2*a+x)%2=x:=by omega
  have e:(2*b+y)%2=y:=by omega
  rw[c,e];have:x=0\/x=1:=by omega
  have:y=0\/y=1:=by omega
  rcases ‹x=0\/x=1› with rfl|rfl<;>rcases ‹y=0\/y=1› with rfl|rfl<;>rfl
 omega
noncomputable def Bit (x:Int):Prop:=x=0\/x=1
theorem zw7 {a b x y:Int}(d:0<=a)(g:0<=b)(h:Bit x)(c:Bit y):Builtin.bitAnd (2*a+x) (2*b+y)=2*Builtin.bitAnd a b+x*y:=by
 have i:0<=x/\x<2:=by rcases h with rfl|rfl<;>decide
 have j:0<=y/\y<2:=by rcases c with rfl|rfl<;>decide
 rw[bitAnd_pp #v[] #v[],bitAnd_pp d g];have f:(2*a+x).toNat=2*a.toNat+x.toNat:=by omega
 have e:(2*b+y).toNat=2*b.toNat+y.toNat:=by omega
 rw[f,e,zsh _ _ _ _ #v[] #v[]];rcases h with rfl|rfl<;>rcases c with rfl|rfl<;>simp
theorem zom (x y:Int):Builtin.bitXor x y=x+y-2*Builtin.bitAnd x y:=by
 show Builtin.bitOr x y-Builtin.bitAnd x y=_;rw[bitOr_and];omega
theorem zx9 {a b x y:Int}(h:0<=a)(e:0<=b)(d:Bit x)(c:Bit y):Builtin.bitXor (2*a+x) (2*b+y)=2*Builtin.bitXor a b+(x+y-2*(x*y)):=by
 rw[zom,zom,zw7 h e d c];omega
theorem zxe (x:Int):Builtin.bitXor 0 x=x:=by rw[zom,bitAnd_comm,bitAnd_zero];omega
theorem zun {xs:List Int}(h:Bits xs):0<=zac xs:=(zd4 h).1
theorem ztk (x:Int)(xs:List Int):zac (x::xs)=2*zac xs+x:=rfl
theorem zkp:∀{l h:List Int},Bits l->Bits h->Builtin.bitXor (zac l) (zac h*2^l.length)=zac (l++h)
 |[],h,_,_=>by show Builtin.bitXor 0 (zac h*1)=zac h;rw[zxe,Int.mul_one]
 | x::l,h,a,b=>by
  have e:zac h*2^(x::l).length=2*(zac h*2^l.length)+0:=by
   show zac h*2^(l.length+1)=_;rw[Int.pow_succ,<-Int.mul_assoc,Int.mul_comm _ 2,Int.add_zero]
  have at_:Bits l:=λy hy=>a y (List.mem_cons_of_mem _ hy)
  have hn:0<=zac h*2^l.length:=Int.mul_nonneg (zun b) (Int.le_of_lt (Int.pow_pos #v[0,9]));rw[e,ztk,zx9 (zun at_) hn (a x List.mem_cons_self) (.inl rfl),zkp at_ b];show 2*zac (l++h)+(x+0-2*(x*0))=2*zac (l++h)+x;omega
noncomputable def yai (Φ:Fn):Prop:=∀a b:Int,Φ [.int a,.int b]=Za ([.int a,.int b],(.int (Builtin.bitXor a b),Zc))
theorem z4q {as:GAs}{en e1:En}{xs:List (W ⊕ Nat)}{j:Int}(h:as en=Za (e1,xs))(b:zar e1 xs=Za [.int j])(a:ze6 j=Zd):zd3 as en=Za (e1,rngW 0 j.toNat):=by
 unfold zd3;rw[h];show (match zar e1 xs with|some [.int j]=>if ze6 j then Za (e1,rngW 0 j.toNat) else Zb|_=>Zb)=_;rw[b];show (if ze6 j then Za (e1,rngW 0 j.toNat) else Zb)=_;rw[if_pos a]
noncomputable def tab (n:Nat) (f:Nat->Int):List Int:=(List.range n).map f
theorem zdd (n:Nat)(f:Nat->Int):(tab n f).length=n:=by unfold tab;rw[Ad,Ek]
theorem znd {n:Nat}{f:Nat->Int}{i:Nat}(h:i<n):(tab n f)[i]?=Za (f i):=by unfold tab;rw[At,List.getElem?_range h];rfl
theorem z3r {n:Nat}{f g:Nat->Int}(h:∀i,i<n->f i=g i):tab n f=tab n g:=by
 unfold tab;refine Co λi a=>h i (Cj.mp a)
theorem zi6 {n:Nat}{f:Nat->Int}(h:∀i,i<n->Bit (f i)):Bits (tab n f):=λx b=>by
 obtain⟨i,a,rfl⟩:=Bz.mp b;exact h i (Cj.mp a)
theorem z3j (a b:Nat)(f:Nat->Int):tab (a+b) f=tab a f++tab b λi=>f (a+i):=by
 unfold tab;rw[List.range_add,Bj,Ca]
 rfl
noncomputable def yav (s:Nat) (f:Nat->Int) (i:Nat):Int:=if i/s%2=1 then (f i+f (i-s))%2 else f i
theorem zw6 (n:Nat)(f:Nat->Int):tab (n+1) f=tab n f++[f n]:=by unfold tab;rw[List.range_succ,Bj];rfl
noncomputable def z99 (p:Nat):List Nat:=(List.range (p+1)).filter λo=>o &&& p==o
noncomputable def zsj (f:Nat->Int) (p:Nat):Int:=((z99 p).map f).sum%2
noncomputable def outF (r:Nat):Nat->(Nat->Int)->Nat->Int
 |0,f=>f
 |k+1,f=>yav (2^(r+k)) (outF r k f)
noncomputable def z26 (Φ:Fn):Prop:=∀(m r:Int) (f:Nat->Int),0<=r->r<=m->m<=6->(∀i,Bit (f i))->Φ [.int m,.int (zac (tab (2^m.toNat) f)),.int r]=Za ([.int m,.int (zac (tab (2^m.toNat) f)),.int r],(.int (zac (tab (2^m.toNat) (outF r.toNat (m-r).toNat f))),Zc))
theorem z5q {e:Nat}{x:Int}(h:x=(e:Int)):(2:Int)^x.toNat=2^e:=by rw[h];rfl
noncomputable def dueL (f:Nat->Int) (n:Nat):List Nat:=(List.range n).filter λp=>decide (f p=1)
theorem zey:∀a:List W,zbi (a.map Sum.inl)=Za a
 |[]=>rfl
 |w::a=>by show (zbi (a.map Sum.inl)).bind _=_;rw[zey a];rfl
theorem zg0:∀{x:List (W ⊕ Nat)}{a:List W},zbi x=Za a->x=a.map Sum.inl
 |[],_,e=>by obtain rfl:=sI e;rfl
 | .inl w::x,_,e=>by
  obtain⟨a,h,e⟩:=bS (show (zbi x).bind _=_ from e);obtain rfl:=sI e;rw[zg0 h];rfl
 |.inr _::_,_,e=>by exact noSome e
theorem zku {xs:List (W ⊕ Nat)} (m:List Bool) (a:(m.all λb=>!b)=Zd) (h:xs.map isR=m):∃c:List W,xs=c.map Sum.inl:=by
 induction xs generalizing m with
 |nil=>exact⟨[],rfl⟩
 | cons x xs d =>
  cases m with
  |nil=>cases h
  | cons b m =>
   rw[Ak] at h;injection h with h1 h2;rw[Bk,Ae] at a;obtain⟨c,e⟩:=d m a.2 h2;cases x with
   |inl w=>exact⟨w::c,by rw[e];rfl⟩
   |inr i=>rw[<-h1] at a;cases a.1
theorem zhd:∀{m:List Bool} (c:(m.all λb=>!b)=Zd) (a:List W),a.length=m.length->(a.map λ_=>Zc)=m
 |[],_,[],_=>rfl
 |[],_,_::_,h=>by cases h
 |_::_,_,[],h=>by cases h
 | b::m,c,w::a,h=>by
  rw[Bk,Ae] at c;rw[Ak,zhd c.2 a (by simpa using h)];cases b with
  |false=>rfl
  |true=>cases c.1
theorem zcc (m:List Bool) (Φ:Fn) (as:GAs) (en:En) (g:(m.all λb=>!b)=Zd):zaf m Φ as en=(as en).bind λp=>(zbi p.2).bind λw=>if w.length=m.length then (Φ w).bind λq=>if q.1.length=m.length then Za (p.1,q.2) else Zb else Zb:=by
 cases ha:as en with
 |none=>unfold zaf;rw[ha];rfl
 | some p =>
  obtain⟨c,x⟩:=p;show _=(zbi x).bind _;cases hf:zbi x with
  | none =>
   unfold zaf;rw[ha];show (if (decide (x.map isR=m)&&_&&_)=Zd then _ else Zb)=Zb;rw[Bc (λz=>by obtain⟨w,e⟩:=zku m g z;rw[e,zey] at hf;cases hf)]
   rfl
  | some w =>
   have i:=zg0 hf;subst i;show _=if w.length=m.length then _ else Zb;by_cases d:w.length=m.length
   ·rw [if_pos d]
    have f:=zhd g w d;cases hq:Φ w with
    | none =>
     unfold zaf;rw[ha];show (if (decide ((w.map Sum.inl).map isR=m)&&zaq c (w.map Sum.inl)&&zb6 (zav (w.map Sum.inl)))=Zd then _ else _)=_;have e:(w.map Sum.inl).map isR=m:=by rw[<-f,Ca];rfl
     rw[An e,zen,zgm];show (zar c (w.map Sum.inl)).bind _=_;rw[zbn];show (Φ w).bind _=_;rw[hq]
     rfl
    | some q =>
     obtain⟨a,r⟩:=q;show _=if a.length=m.length then Za (c,r) else Zb;by_cases h:a.length=m.length
     ·rw [if_pos h]
      exact zk9 ha f hq #v[]
     ·rw [if_neg h]
      unfold zaf;rw[ha];show (if (decide ((w.map Sum.inl).map isR=m)&&zaq c (w.map Sum.inl)&&zb6 (zav (w.map Sum.inl)))=Zd then _ else _)=_;have e:(w.map Sum.inl).map isR=m:=by rw[<-f,Ca];rfl
      rw[An e,zen,zgm];show (zar c (w.map Sum.inl)).bind _=_;rw[zbn];show (Φ w).bind _=_;rw[hq];show (if a.length=m.length then _ else Zb)=Zb;rw[if_neg h]
   ·rw [if_neg d]
    unfold zaf;rw[ha];show (if (decide ((w.map Sum.inl).map isR=m)&&_&&_)=Zd then _ else Zb)=Zb;rw[Bc (λz=>d (by rw[<-z,Ad,Ad]))]
    rfl
theorem zds (m:List Bool) (Φ:Fn) (as:GAs) (en:En) (A:(m.all λb=>!b)=Zd):zaf (Zd::m) Φ as en=(as en).bind λp=>match p.2 with
  | .inr i::x=>(zbi x).bind λa=>(match p.1[i]? with
   | some (Za (s,Zd))=>if a.length=m.length then (Φ (s::a)).bind λq=>(match q.1 with
    |n::y=>if y.length=m.length then Za (p.1.set i (#v[n,5]),q.2) else Zb
    |[]=>Zb) else Zb
   |_=>Zb)
  |_=>Zb:=by
 cases g:as en with
 |none=>unfold zaf;rw[g];rfl
 | some p =>
  obtain ⟨d,x⟩:=p;have base:zaf (Zd::m) Φ as en=if decide (x.map isR=Zd::m)&&zaq d x&&zb6 (zav x) then (zar d x).bind λa=>(Φ a).bind λq=>if q.1.length=(Zd::m).length then Za (zao (zav x) d (zau (Zd::m) q.1),q.2) else Zb else Zb:=by
   unfold zaf;rw[g];rfl
  have c:x.map isR≠Zd::m->zaf (Zd::m) Φ as en=Zb:=λz=>by rw[base,Bc z];rfl
  have f:zaq d x=Zc->zaf (Zd::m) Φ as en=Zb:=λz=>by rw[base,z,Bool.and_false];rfl
  simp only [Do]
  match x,g,base,c,f with
  |[],g,_,c,_=>rw[c (by simp)]
  |.inl w::x,g,_,c,_=>rw[c (by simp [isR])]
  | .inr i::x,g,base,c,f =>
   simp only;cases hf:zbi x with
   | none=>rw [c (λz=>by
     rw[Ak] at z;injection z with _ z;obtain⟨a,e⟩:=zku m A z;rw[e,zey] at hf;cases hf)];rfl
   | some a =>
    have C:=zg0 hf;subst C;simp only [Do];have no:(∀s,d[i]?≠Za (Za (s,Zd)))->zaq d (.inr i::a.map Sum.inl)=Zc:=λz=>by
     unfold zaq;rw [Bk];have:(match d[i]? with | some (Za (_,Zd))=>Zd | _=>Zc)=Zc:=by
      split
      ·rename_i q;exact absurd q (z _)
      ·rfl
     simp only [this,Fu]
    split
    ·rename_i s h
     by_cases t:a.length=m.length
     ·rw [if_pos t]
      have B:=zhd A a t;cases l:Φ (s::a) with
      | none =>
       rw[base];split
       ·have u:zar d (.inr i::a.map Sum.inl)=Za (s::a):=by
         show (resA d (.inr i)).bind _=_;have:resA d (.inr i)=Za s:=by unfold resA;simp only [h]
         rw[this];show (zar d (a.map Sum.inl)).bind _=_;rw[zbn]
         rfl
        rw[u];show (Φ (s::a)).bind _=_;rw[l]
        rfl
       ·rfl
      | some q =>
       obtain ⟨k,r⟩:=q;simp only [Do];have o:k.length≠(Zd::m).length->zaf (Zd::m) Φ as en=Zb:=λz=>by
        rw[base];split
        ·have u:zar d (.inr i::a.map Sum.inl)=Za (s::a):=by
          show (resA d (.inr i)).bind _=_;have:resA d (.inr i)=Za s:=by unfold resA;simp only [h]
          rw[this];show (zar d (a.map Sum.inl)).bind _=_;rw[zbn]
          rfl
         rw[u];show (Φ (s::a)).bind _=_;rw[l];show (if k.length=(Zd::m).length then _ else Zb)=Zb;rw[if_neg z]
        ·rfl
       match k,l,o with
       |[],l,o=>rw[o (by simp)]
       | n::y,l,o =>
        simp only;by_cases j:y.length=m.length
        ·rw [if_pos j]
         exact zpu g (by rw[B]) h l #v[]
        ·rw[if_neg j,o (by simpa using j)]
     ·rw [if_neg t,c (λz=>t (by
       have:=congrArg List.length z;simpa using this))]
    ·rename_i h
     exact f (no λs z=>h s z)
theorem oI_e {c:Int->Int->Bool}{g:Int->Int->W}{i j:Int}:oI c g (.int i) (.int j)=if c i j then #v[g i j,6] else Zb:=rfl
theorem z7p {i j:Int}:yes2 i j=Zd:=rfl
theorem zzm {ws:List W}:seqW (.tup ws)=Za ws:=rfl
theorem zyy {ws:List W}:seqW (.lst ws)=Za ws:=rfl
theorem zy1 {ws:List W}:seqL (.lst ws)=Za ws:=rfl
theorem yah {a:W}{i:Int}:oIx a (.int i)=(seqW a).bind λb=>(atI b i).bind λw=>#v[w,6]:=by cases a<;>rfl
theorem z74 {en:En}{w:W}:resA en (.inl w)=Za w:=rfl
theorem z63 {en:En}{i:Nat}:resA en (.inr i)=match en[i]? with|some (Za (w,_))=>Za w|_=>Zb:=by
 unfold resA;rfl
theorem ya3 {i j:Int}:oEq (.int i) (.int j)=Za (.bl (decide (i=j)),Zc):=rfl
theorem yaq {i j:Int}:oNe (.int i) (.int j)=Za (.bl (!decide (i=j)),Zc):=rfl
theorem zxk {w:W}{xs:List (W ⊕ Nat)}:zbi (.inl w::xs)=(zbi xs).bind λa=>Za (w::a):=rfl
theorem zz7:zbi []=Za []:=rfl
theorem z16 {en:En}{x:W ⊕ Nat}{xs:List (W ⊕ Nat)}:zar en (x::xs)=(resA en x).bind λw=>(zar en xs).bind λa=>Za (w::a):=rfl
theorem z3h {en:En}:zar en []=Za []:=rfl
theorem z5k {b:Bool}{m:List Bool}{w:W}{ws:List W}:zau (b::m) (w::ws)=Za (w,b)::zau m ws:=rfl
theorem z14 {ws:List W}:zau [] ws=[]:=by unfold zau;simp
theorem z7o {en:En}:zb7 [] [] en=Za []:=rfl
theorem z8r {m:List Bool}{w u:W}{ws:List W}{en:En}:zb7 (Zd::m) (u::ws) (#v[w,5]::en)=(zb7 m ws en).bind λr=>Za (w::r):=rfl
theorem z8d {m:List Bool}{w:W}{ws:List W}{x:Option (W×Bool)}{en:En}:zb7 (Zc::m) (w::ws) (x::en)=(zb7 m ws en).bind λr=>Za (w::r):=rfl
theorem ya7 {x:W}{xs:List W}:atI (x::xs) 0=Za x:=by
 have:=zcn (xs:=x::xs) (i:=0) rfl;exact this
theorem z9o {x y:W}{xs:List W}:atI (x::y::xs) 1=Za y:=by
 have:=zcn (xs:=x::y::xs) (i:=1) rfl;exact this
theorem yaw {x y z:W}{xs:List W}:atI (x::y::z::xs) 2=Za z:=by
 have:=zcn (xs:=x::y::z::xs) (i:=2) rfl;exact this
theorem zys {n:Nat}:((no_index (OfNat.ofNat n):Nat):Int)=(OfNat.ofNat n:Int):=rfl
theorem zxh {xs ys:List W}:oAdd (.lst xs) (.lst ys)=if xs.length+ys.length<=sizeLine then #v[(xs++ys),2] else Zb:=by
 by_cases h:xs.length+ys.length<=sizeLine
 ·rw[if_pos h];exact z4d h
 ·rw [if_neg h];show oOr oCat (oOr zyx (oOr z3m zyd)) (.lst xs) (.lst ys)=Zb;have e:oCat (.lst xs) (.lst ys)=Zb:=by
   show (if xs.length+ys.length<=sizeLine then _ else Zb)=Zb;rw[if_neg h]
  unfold oOr;rw[e]
  rfl
theorem z59 {ws:List W}{r:Int}(a:0<=r)(h:r<(ws.length:Nat)):∃w,atI ws r=Za w/\w∈ws:=by
 have lt:r.toNat<ws.length:=by omega
 refine⟨ws[r.toNat],?_,Ga _⟩;have:=zcn (xs:=ws) (i:=r.toNat) (Af lt);rw[Int.toNat_of_nonneg a] at this;exact this
theorem zm6:oIsi .int .non=Za (.bl false,false):=rfl
theorem zrr {b:Bool}:oIsi .int (.bl b)=Za (.bl true,false):=rfl
theorem zn1 {n:Int}:oIsi .int (.int n)=Za (.bl true,false):=rfl
theorem zoy {x:Str}:oIsi .int (.str x)=Za (.bl false,false):=rfl
theorem zn3 {xs:List W}:oIsi .int (.tup xs)=Za (.bl false,false):=rfl
theorem znr {xs:List W}:oIsi .int (.lst xs)=Za (.bl false,false):=rfl
theorem znb:oIsi .int .dic=Za (.bl false,false):=rfl
theorem zl4:oIsi .bool .non=Za (.bl false,false):=rfl
theorem zno {b:Bool}:oIsi .bool (.bl b)=Za (.bl true,false):=rfl
theorem zmf {n:Int}:oIsi .bool (.int n)=Za (.bl false,false):=rfl
theorem zlw {x:Str}:oIsi .bool (.str x)=Za (.bl false,false):=rfl
theorem zmo {xs:List W}:oIsi .bool (.tup xs)=Za (.bl false,false):=rfl
theorem zmr {xs:List W}:oIsi .bool (.lst xs)=Za (.bl false,false):=rfl
theorem zmm:oIsi .bool .dic=Za (.bl false,false):=rfl
theorem zns:oIsi .str .non=Za (.bl false,false):=rfl
theorem zri {b:Bool}:oIsi .str (.bl b)=Za (.bl false,false):=rfl
theorem zm8 {n:Int}:oIsi .str (.int n)=Za (.bl false,false):=rfl
theorem znw {x:Str}:oIsi .str (.str x)=Za (.bl true,false):=rfl
theorem znh {xs:List W}:oIsi .str (.tup xs)=Za (.bl false,false):=rfl
theorem zo4 {xs:List W}:oIsi .str (.lst xs)=Za (.bl false,false):=rfl
theorem zog:oIsi .str .dic=Za (.bl false,false):=rfl
theorem zjt:oIsi .tuple .non=Za (.bl false,false):=rfl
theorem zk6 {b:Bool}:oIsi .tuple (.bl b)=Za (.bl false,false):=rfl
theorem zjc {n:Int}:oIsi .tuple (.int n)=Za (.bl false,false):=rfl
theorem zkj {x:Str}:oIsi .tuple (.str x)=Za (.bl false,false):=rfl
theorem zja {xs:List W}:oIsi .tuple (.tup xs)=Za (.bl true,false):=rfl
theorem zji {xs:List W}:oIsi .tuple (.lst xs)=Za (.bl false,false):=rfl
theorem zi3:oIsi .tuple .dic=Za (.bl false,false):=rfl
theorem zm3:oIsi .list .non=Za (.bl false,false):=rfl
theorem zo6 {b:Bool}:oIsi .list (.bl b)=Za (.bl false,false):=rfl
theorem zlp {n:Int}:oIsi .list (.int n)=Za (.bl false,false):=rfl
theorem zkx {x:Str}:oIsi .list (.str x)=Za (.bl false,false):=rfl
theorem zk0 {xs:List W}:oIsi .list (.tup xs)=Za (.bl false,false):=rfl
theorem zlt {xs:List W}:oIsi .list (.lst xs)=Za (.bl true,false):=rfl
theorem zkq:oIsi .list .dic=Za (.bl false,false):=rfl
theorem z9m {i j:Bool}:oEq (.bl i) (.bl j)=Za (.bl (decide (i=j)),Zc):=rfl
theorem z9w {i j:Bool}:oNe (.bl i) (.bl j)=Za (.bl (!decide (i=j)),Zc):=rfl
theorem yam {i j:Str}:oEq (.str i) (.str j)=Za (.bl (decide (i=j)),Zc):=rfl
theorem z9r {i j:Str}:oNe (.str i) (.str j)=Za (.bl (!decide (i=j)),Zc):=rfl
theorem ya4 {i j:Bool}:oIs (.bl i) (.bl j)=Za (.bl (decide (i=j)),Zc):=rfl
theorem z80 {f:List Bool->Bool}{bs:List Bool}:oBl f [.lst (bs.map W.bl)]=Za (.bl (f bs),Zc):=by
 show (blsOf (bs.map W.bl)).bind _=_;rw[zg6];rfl
theorem z0r {cap:Cap}{it:GL}{te:GE}{en e0:En}{ws b:List W}{xs:En} (s:it en=Za (e0,ws)) (z:ws.length<=1000) (o:b.length=ws.length) (p:zb6 cap=Zd) (m:(capKeep cap).contains 1=Zc) (n:zft cap e0=Zb::Zb::xs) (x:∀a d,zao cap e0 (a::d::xs)=e0)
  (t:∀(i:Nat) a w r,ws[i]?=Za w->b[i]?=Za r->∃u f,te (a::#v[w,6]::xs)=Za (a::u::xs,(r,f))) :
  zbp cap (.nm 1) it gYes te en=Za (e0,(.lst b,Zd)):=by
 have y:(1000:Nat)<=sizeLine:=by decide
 obtain⟨q,out,g,e⟩:=zdl (cap:=cap) (T:=.nm 1) (tc:=gYes) (te:=te) (λi c k=>(∃a d,c=a::d::xs)/\k=b.take i) s p #v[] ⟨⟨_,_,n⟩,rfl⟩
  (λi w c k j e=>by
   obtain⟨⟨a,d,rfl⟩,rfl⟩:=e;have lt:i<ws.length:=(Ai.mp j).1;have l:b[i]?=Za b[i]:=Af #v[];obtain⟨u,f,h⟩:=t i a w _ j l;refine⟨a::#v[w,6]::xs,?_,.inl ⟨_,_,_,rfl,h,⟨_,_,rfl⟩,?_⟩⟩
   ·show (if (capKeep cap).contains 1 || !decide (1<(a::d::xs).length) then Zb else _)=_;rw[m,An (by rw[Bd,Bd];omega)]
    rfl
   ·show b.take i ++ [b[i]]=b.take (i+1);rw[Hz,l];rfl)
 obtain⟨⟨a,d,rfl⟩,rfl⟩:=e;rw[x,<-o,Dp] at g;exact g
theorem zd1 {T:List Fd}{bn:List Str}{d:Nat}{x:Str}{t:Fd}{g:GS}(h:T.find? (·.nm==x)=Za t)(a:za8 T bn (sem T bn (d+2)) (d+2) t=Za g):sem T bn (d+3) x=zal t.m t.N.length g:=by
 show (match T.find? (·.nm==x) with|some t=>fnAt T bn (sem T bn (d+2)) (d+2) t|none=>λ_=>Zb)=_;rw[h];show fnAt T bn (sem T bn (d+2)) (d+2) t=_;unfold fnAt;rw[a]
noncomputable def evA:=And.intro @oI_e ( And.intro @z7p ( And.intro @zvj ( And.intro @zxh ( And.intro @zzm ( And.intro @zyy ( And.intro @zy1 ( And.intro @yah ( And.intro @z74 ( And.intro @z63 ( And.intro @ya3 ( And.intro @yaq ( And.intro @z9m ( And.intro @z9w ( And.intro @yam ( And.intro @z9r ( And.intro @ya4 ( And.intro @z80 ( And.intro @zxk ( And.intro @zz7 ( And.intro @z16 ( And.intro @z3h ( And.intro @z5k ( And.intro @z14 ( And.intro @z7o ( And.intro @z8r ( And.intro @z8d ( And.intro (λΦ as en=>zcc [Zc] Φ as en rfl) ( And.intro (λΦ as en=>zcc [Zc,Zc] Φ as en rfl) ( And.intro (λΦ as en=>zcc [Zc,Zc,Zc] Φ as en rfl) ( And.intro (λΦ as en=>zcc [Zc,Zc,Zc,Zc] Φ as en rfl) ( And.intro (λΦ as en=>zds [] Φ as en rfl) ( And.intro (λΦ as en=>zds [Zc] Φ as en rfl) ( And.intro (λΦ as en=>zds [Zc,Zc] Φ as en rfl) ( And.intro (λΦ as en=>zds [Zc,Zc,Zc] Φ as en rfl) ( And.intro @ya7 ( And.intro @z9o ( And.intro @yaw ( And.intro @sizeLine_eq ( And.intro @zm6 ( And.intro @zrr ( And.intro @zn1 ( And.intro @zoy ( And.intro @zn3 ( And.intro @znr ( And.intro @znb ( And.intro @zl4 ( And.intro @zno ( And.intro @zmf ( And.intro @zlw ( And.intro @zmo ( And.intro @zmr ( And.intro @zmm ( And.intro @zns ( And.intro @zri ( And.intro @zm8 ( And.intro @znw ( And.intro @znh ( And.intro @zo4 ( And.intro @zog ( And.intro @zjt ( And.intro @zk6 ( And.intro @zjc ( And.intro @zkj ( And.intro @zja ( And.intro @zji ( And.intro @zi3 ( And.intro @zm3 ( And.intro @zo6 ( And.intro @zlp ( And.intro @zkx ( And.intro @zk0 ( And.intro @zlt ( And.intro @zkq ( And.intro @zys ( And.intro @Option.bind_some.{0,0} ( And.intro @Option.bind_none.{0,0} ( And.intro @List.length_cons.{0} ( And.intro @List.length_nil.{0} ( And.intro @List.getElem?_cons_zero.{0} ( And.intro @List.getElem?_cons_succ.{0} ( And.intro @List.set_cons_zero.{0} ( And.intro @List.set_cons_succ.{0} ( And.intro @List.nil_append.{0} ( And.intro @List.cons_append.{0} ( And.intro @List.contains_nil.{0} ( And.intro @Bool.false_or ( And.intro @Bool.or_false ( And.intro @Bool.not_true ( And.intro @Ic ( And.intro @Ce ( And.intro @Nat.lt_add_one ( And.intro @Nat.zero_lt_succ ( And.intro @decide_true ( And.intro @decide_false ( And.intro @Ei ( And.intro @List.elem_nil.{0} ( And.intro @List.elem_cons.{0} ( And.intro @Cu ( And.intro @Bool.true_eq_false ( And.intro @Bool.or_self ( And.intro @Bool.and_self ( And.intro @Bool.true_and ( And.intro @Fu ( And.intro @Hi ( And.intro @Bool.and_false ( And.intro @Bool.true_or ( And.intro @Bool.or_true ( And.intro @Em ( And.intro @gVar.eq_1 ( And.intro @zaa.eq_1 ( And.intro @gC.eq_1 ( And.intro @gArg.eq_1 ( And.intro @gA0.eq_1 ( And.intro @gCns.eq_1 ( And.intro @gOp1.eq_1 ( And.intro @gOp2.eq_1 ( And.intro @gOpN.eq_1 ( And.intro @zaj.eq_1 ( And.intro @gAnd.eq_1 ( And.intro @gOr.eq_1 ( And.intro @gNot.eq_1 ( And.intro @zhx.eq_1 ( And.intro @gOrT.eq_1 ( And.intro @zhr.eq_1 ( And.intro @gIf.eq_1 ( And.intro @zd5.eq_1 ( And.intro @za0.eq_1 ( And.intro @z7g.eq_1 ( And.intro @zbb.eq_1 ( And.intro @zej.eq_1 ( And.intro @gSl.eq_1 ( And.intro @za1.eq_1 ( And.intro @zd3.eq_1 ( And.intro @z9q.eq_1 ( And.intro @gRev.eq_1 ( And.intro @zbx.eq_1 ( And.intro @gBrk.eq_1 ( And.intro @gCnt.eq_1 ( And.intro @gSeq.eq_1 ( And.intro @gRet.eq_1 ( And.intro @ya6.eq_1 ( And.intro @gIfS.eq_1 ( And.intro @zfd.eq_1 ( And.intro @gSet.eq_1 ( And.intro @gAsg.eq_1 ( And.intro @gPar.eq_1 ( And.intro @za3.eq_1 ( And.intro @gApp.eq_1 ( And.intro @gExt.eq_1 ( And.intro @gAug.eq_1 ( And.intro @gYes.eq_1 ( And.intro @zfg.eq_1 ( And.intro @gZip.eq_1 ( And.intro @zl7.eq_1 ( And.intro @zal.eq_1 ( And.intro @z93.eq_1 (@z9i.eq_1)))))))))))))))))))))))))))))))))))))))))))))))))))))))))))))))))))))))))))))))))))))))))))))))))))))))))))))))))))))))))))))))))))))))))))))))))))))))))))))
end L2
local macro_rules | `(tactic| simp! [$xs,*])=>`(tactic| simp only [L2.evA,L2.tgSet,L2.keyW,L2.oNeg,L2.oLen,L2.setAll,List.replicate,List.contains,eq_self,Nat.reduceAdd,Nat.reduceSub,Nat.reduceLT,Nat.reduceLeDiff,reduceIte,reduceCtorEq,Nat.reduceEqDiff,Nat.reduceBEq,↓reduceIte,Int.reduceEq,Int.reduceLE,Int.reduceLT,Int.reduceAdd,Int.reduceSub,Int.reduceMul,Int.reduceNeg,$xs,*])
namespace L2
open PySem PySem.Spec PyProof.Rows
noncomputable def zvc (Ψ:Str->Fn):GE:=zbp [Zb,Zb,Za 3] (.nm 1) (za1 (gVar 2)) gYes (gOp2 oAdd (zaa 1) (gArg (zd5 (gCns #v[2,4] gA0))))
noncomputable def zwy (Ψ:Str->Fn):GS:=(gSet [] 2 (gOp2 oAdd (zaa 2) (gArg (zvc Ψ))))
noncomputable def zss (Ψ:Str->Fn):GS:=gFor [] (.nm 3) (zd3 (gCns (zaa 0) gA0)) (zwy Ψ)
noncomputable def zug (Ψ:Str->Fn):GE:=zbp [Zb,Zb,Za 1] (.nm 1) (za1 (gVar 2)) (zaj (gOp2 (oI yes2 λi j=>.bl (decide (i<=j))) (gArg (gOpN oLen (gCns (zaa 1) gA0))) (zaa 2))) (gVar 1)
noncomputable def zpa (Ψ:Str->Fn):GS:=(gSeq (gSet [] 2 (za0 (gCns (gArg (zd5 gA0)) gA0))) (gSeq (zss Ψ) (gRet (zha (zd5 (gCns (gArg (gOpN oLen (gCns (zaa 0) gA0))) (gCns #v[0,4] gA0))) (gArg (zug Ψ))))))
noncomputable def zfb (Ψ:Str->Fn):GE:=zbp [Zb,Zb,Za 2] (.nm 1) (za1 (gVar 1)) gYes (gOp2 oEq (gArg (gOp2 #v[0,0,2] (gArg (gOp2 #v[0,0,3] (zaa 2) (gArg (gOp2 #v[0,0,1] #v[1] (zaa 1))))) #v[2])) #v[1])
noncomputable def zfc (Ψ:Str->Fn):GE:=zbp [Zb,Zb,Za 3] (.nm 1) (za1 (gVar 1)) (zaj (gOpN (oBl λbs=>bs.all id) (gCns (gArg (zfb Ψ)) gA0))) (gVar 1)
noncomputable def zdn (Ψ:Str->Fn):GS:=(gSeq (gSet [] 4 (zfc Ψ)) (zfd (gApp 2 (gOp2 #v[0,0,2] (gArg (gOpN oLen (gCns (zaa 4) gA0))) #v[2]))))
noncomputable def ze7 (Ψ:Str->Fn):GS:=gFor [] (.nm 3) (zd3 (gCns (gArg (gOp2 #v[0,0,1] #v[1] (zaa 0))) gA0)) (zdn Ψ)
noncomputable def zml (Ψ:Str->Fn):GS:=(gSeq (gSet [] 2 (za0 gA0)) (gSeq (ze7 Ψ) (zfg [] 2)))
noncomputable def zkg (Ψ:Str->Fn):GE:=zbp [Zb,Zb,Zb] (.tp [1,2]) (gZip (gVar 3) (zaf [Zd,Zc] (Ψ "_law_bits") (gCns (zaa 0) (gCns (gArg (gOpN oLen (gCns (zaa 3) gA0))) gA0)))) (zaj (gOp2 oEq (zaa 2) #v[1])) (gVar 1)
noncomputable def zwn (Ψ:Str->Fn):GS:=(gSeq (gSet [0] 3 (zaf [Zc,Zc] (Ψ "_law_terms") (gCns #v[1,4] (gCns #v[2,4] gA0)))) (gRet (gOpN za9 (gCns (gArg (zkg Ψ)) gA0))))
noncomputable def tmW (t:List Nat):W:=.tup (t.map λl=>.int (l:Nat))
noncomputable def zsq:Nat->Nat->Nat->Nat->List (List Nat)
 |_,_,_,0=>[[]]
 |0,_,_,_+1=>[]
 |f+1,l,m,k+1=>(if l<m then (zsq f (l+1) m k).map (l :: ·)++zsq f (l+1) m (k+1) else [])
noncomputable def zab (m most:Nat):List (List Nat):=(List.range (most+1)).flatMap λk=>zsq (m+1) 0 m k
noncomputable def zvl (Φ:Fn):Prop:=∀m most:Nat,m<=6->most<=6->Φ [.int m,.int most]=Za ([.int m,.int most],(.lst ((zab m most).map tmW),Zd))
noncomputable def tmP (Ψ:Str->Fn) (m k:Nat):Prop:=zal [Zc,Zc] 4 (zpa Ψ) [.int (m:Int),.int (k:Int)]=Za ([.int (m:Int),.int (k:Int)],(.lst ((zab m k).map tmW),Zd))
theorem tm0 (Ψ:Str->Fn):tmP Ψ 0 0/\tmP Ψ 0 1/\tmP Ψ 0 2/\tmP Ψ 0 3/\tmP Ψ 0 4/\tmP Ψ 0 5/\tmP Ψ 0 6:=by
 unfold tmP;refine⟨?_,?_,?_,?_,?_,?_,?_⟩<;>kernel_rfl
theorem tm1 (Ψ:Str->Fn):tmP Ψ 1 0/\tmP Ψ 1 1/\tmP Ψ 1 2/\tmP Ψ 1 3/\tmP Ψ 1 4/\tmP Ψ 1 5/\tmP Ψ 1 6:=by
 unfold tmP;refine⟨?_,?_,?_,?_,?_,?_,?_⟩<;>kernel_rfl
theorem tm2 (Ψ:Str->Fn):tmP Ψ 2 0/\tmP Ψ 2 1/\tmP Ψ 2 2/\tmP Ψ 2 3/\tmP Ψ 2 4/\tmP Ψ 2 5/\tmP Ψ 2 6:=by
 unfold tmP;refine⟨?_,?_,?_,?_,?_,?_,?_⟩<;>kernel_rfl
theorem tm3 (Ψ:Str->Fn):tmP Ψ 3 0/\tmP Ψ 3 1/\tmP Ψ 3 2/\tmP Ψ 3 3/\tmP Ψ 3 4/\tmP Ψ 3 5/\tmP Ψ 3 6:=by
 unfold tmP;refine⟨?_,?_,?_,?_,?_,?_,?_⟩<;>kernel_rfl
theorem tm4 (Ψ:Str->Fn):tmP Ψ 4 0/\tmP Ψ 4 1/\tmP Ψ 4 2/\tmP Ψ 4 3/\tmP Ψ 4 4/\tmP Ψ 4 5/\tmP Ψ 4 6:=by
 unfold tmP;refine⟨?_,?_,?_,?_,?_,?_,?_⟩<;>kernel_rfl
theorem tm5 (Ψ:Str->Fn):tmP Ψ 5 0/\tmP Ψ 5 1/\tmP Ψ 5 2/\tmP Ψ 5 3/\tmP Ψ 5 4/\tmP Ψ 5 5/\tmP Ψ 5 6:=by
 unfold tmP;refine⟨?_,?_,?_,?_,?_,?_,?_⟩<;>kernel_rfl
theorem tm6 (Ψ:Str->Fn):tmP Ψ 6 0/\tmP Ψ 6 1/\tmP Ψ 6 2/\tmP Ψ 6 3/\tmP Ψ 6 4/\tmP Ψ 6 5/\tmP Ψ 6 6:=by
 unfold tmP;refine⟨?_,?_,?_,?_,?_,?_,?_⟩<;>kernel_rfl
theorem zy6 (Ψ:Str->Fn):zvl (zal [Zc,Zc] 4 (zpa Ψ)):=λm k a b=>by
 match m,k,a,b with
 |0,0,_,_=>exact (tm0 Ψ).1
 |0,1,_,_=>exact (tm0 Ψ).2.1
 |0,2,_,_=>exact (tm0 Ψ).2.2.1
 |0,3,_,_=>exact (tm0 Ψ).2.2.2.1
 |0,4,_,_=>exact (tm0 Ψ).2.2.2.2.1
 |0,5,_,_=>exact (tm0 Ψ).2.2.2.2.2.1
 |0,6,_,_=>exact (tm0 Ψ).2.2.2.2.2.2
 |1,0,_,_=>exact (tm1 Ψ).1
 |1,1,_,_=>exact (tm1 Ψ).2.1
 |1,2,_,_=>exact (tm1 Ψ).2.2.1
 |1,3,_,_=>exact (tm1 Ψ).2.2.2.1
 |1,4,_,_=>exact (tm1 Ψ).2.2.2.2.1
 |1,5,_,_=>exact (tm1 Ψ).2.2.2.2.2.1
 |1,6,_,_=>exact (tm1 Ψ).2.2.2.2.2.2
 |2,0,_,_=>exact (tm2 Ψ).1
 |2,1,_,_=>exact (tm2 Ψ).2.1
 |2,2,_,_=>exact (tm2 Ψ).2.2.1
 |2,3,_,_=>exact (tm2 Ψ).2.2.2.1
 |2,4,_,_=>exact (tm2 Ψ).2.2.2.2.1
 |2,5,_,_=>exact (tm2 Ψ).2.2.2.2.2.1
 |2,6,_,_=>exact (tm2 Ψ).2.2.2.2.2.2
 |3,0,_,_=>exact (tm3 Ψ).1
 |3,1,_,_=>exact (tm3 Ψ).2.1
 |3,2,_,_=>exact (tm3 Ψ).2.2.1
 |3,3,_,_=>exact (tm3 Ψ).2.2.2.1
 |3,4,_,_=>exact (tm3 Ψ).2.2.2.2.1
 |3,5,_,_=>exact (tm3 Ψ).2.2.2.2.2.1
 |3,6,_,_=>exact (tm3 Ψ).2.2.2.2.2.2
 |4,0,_,_=>exact (tm4 Ψ).1
 |4,1,_,_=>exact (tm4 Ψ).2.1
 |4,2,_,_=>exact (tm4 Ψ).2.2.1
 |4,3,_,_=>exact (tm4 Ψ).2.2.2.1
 |4,4,_,_=>exact (tm4 Ψ).2.2.2.2.1
 |4,5,_,_=>exact (tm4 Ψ).2.2.2.2.2.1
 |4,6,_,_=>exact (tm4 Ψ).2.2.2.2.2.2
 |5,0,_,_=>exact (tm5 Ψ).1
 |5,1,_,_=>exact (tm5 Ψ).2.1
 |5,2,_,_=>exact (tm5 Ψ).2.2.1
 |5,3,_,_=>exact (tm5 Ψ).2.2.2.1
 |5,4,_,_=>exact (tm5 Ψ).2.2.2.2.1
 |5,5,_,_=>exact (tm5 Ψ).2.2.2.2.2.1
 |5,6,_,_=>exact (tm5 Ψ).2.2.2.2.2.2
 |6,0,_,_=>exact (tm6 Ψ).1
 |6,1,_,_=>exact (tm6 Ψ).2.1
 |6,2,_,_=>exact (tm6 Ψ).2.2.1
 |6,3,_,_=>exact (tm6 Ψ).2.2.2.1
 |6,4,_,_=>exact (tm6 Ψ).2.2.2.2.1
 |6,5,_,_=>exact (tm6 Ψ).2.2.2.2.2.1
 |6,6,_,_=>exact (tm6 Ψ).2.2.2.2.2.2
 |m+7,_,h,_=>omega
 |_,k+7,_,h=>omega
theorem zjh {α:Type}{cap:Cap}{it:GL}{tc:GT}{te:GE}{en e0:En}{ts:List α}{xs:En} (f:α->W) (p:α->Bool) (g:α->W) (z:it en=Za (e0,ts.map f)) (E:ts.length<=1000) (s:zb6 cap=Zd) (o:(capKeep cap).contains 1=Zc) (r:zft cap e0=Zb::Zb::xs) (C:∀d e,zao cap e0 (d::e::xs)=e0)
  (A:∀d a,a∈ts->∃u,tc (d::#v[f a,6]::xs)=Za (d::u::xs,p a)/\(p a=Zd->∃l b,te (d::u::xs)=Za (d::l::xs,(g a,b)))) :
  zbp cap (.nm 1) it tc te en=Za (e0,(.lst ((ts.filter p).map g),Zd)):=by
 have D:(1000:Nat)<=sizeLine:=by decide
 obtain ⟨x,out,m,k⟩:=zdl (cap:=cap) (T:=.nm 1) (tc:=tc) (te:=te) (λi c n=>(∃d e,c=d::e::xs)/\n=((ts.take i).filter p).map g) z s (by rw [Ad];omega) ⟨⟨_,_,r⟩,rfl⟩
  (λi w c n h k=>by
   obtain⟨⟨d,e,rfl⟩,rfl⟩:=k;rw[At] at h;cases ha:ts[i]? with
   |none=>rw[ha] at h;exact noSome h
   | some a =>
    rw[ha] at h;obtain rfl:=sI h;obtain⟨u,j,B⟩:=A d a (Dg ha);have t:ts.take (i+1)=ts.take i++[a]:=by rw[Hz,ha];rfl
    refine⟨d::#v[f a,6]::xs,?_,?_⟩
    ·show (if (capKeep cap).contains 1 || !decide (1<(d::e::xs).length) then Zb else _)=_
     rw[o,An (by rw[Bd,Bd];omega)]
     rfl
    ·cases q:p a with
     | true =>
      obtain⟨l,b,y⟩:=B q;rw[q] at j;refine .inl ⟨_,_,_,j,y,⟨_,_,rfl⟩,?_⟩;rw[t,Ib,Bj,List.filter_cons_of_pos q];rfl
     | false =>
      rw[q] at j;refine .inr ⟨_,j,⟨_,_,rfl⟩,?_⟩;rw[t,Ib,List.filter_cons_of_neg (by rw[q];decide),Go,Bv])
 obtain⟨⟨d,e,rfl⟩,rfl⟩:=k;rw[C,Ad,Dp] at m;exact m
theorem z0w {a:GA}{en e1:En}{n:Nat}(h:a en=Za (e1,.inl (.int (n:Nat))))(c:n<=1000000):zd3 (gCns a gA0) en=Za (e1,rngW 0 n):=by
 have r:ze6 (n:Int)=Zd:=by
  unfold ze6;rw[An #v[],An #v[]];rfl
 have b:gCns a gA0 en=Za (e1,[.inl (.int (n:Nat))]):=by unfold gCns;rw[h];rfl
 have:=z4q b rfl r;rw[Em] at this;exact this
theorem pow1 {l:Nat}(h:l<=100):cPow 1 (l:Int)=Zd:=by
 unfold cPow;rw[An #v[],An #v[]];rfl
theorem zhe (l:Nat):(1:Int)*2^l=((2^l:Nat):Int):=by rw[Int.one_mul];norm_cast
theorem zyo (l:Nat):(((2^l:Nat):Int)).natAbs.log2=l:=by
 rw[Int.natAbs_natCast];exact Nat.log2_two_pow
theorem divP {p:Int}{l:Nat}(h:l<=100):cDiv p ((2^l:Nat):Int)=Zd:=by
 unfold cDiv;have:0<2^l:=Nat.pow_pos #v[0,9];rw[An #v[],An (by rw[zyo];omega)];rfl
noncomputable def hasT (t:List Nat) (p:Nat):Bool:=t.all λl=>decide (p/2^l%2=1)
noncomputable def valF (ts:List (List Nat)) (p:Nat):Int:=(((ts.filter λt=>hasT t p).length%2:Nat):Int)
theorem c1v {Ψ:Str->Fn}{v0:Option (W×Bool)}{t:List Nat}{p:Nat} (h6:∀l∈t,l<64) (hl:t.length<=64):zfb Ψ [v0,Za (tmW t,Zc),Za (.int (p:Nat),Zc)]=Za ([v0,Za (tmW t,Zc),Za (.int (p:Nat),Zc)],(.lst ((t.map λl=>decide (p/2^l%2=1)).map W.bl),Zd)):=by
 unfold zfb;refine z0r (xs:=[#v[(p:Nat),0]]) (e0:=[v0,#v[tmW t,6],#v[(p:Nat),0]]) (ws:=t.map λl=>.int (l:Nat)) (by unfold tmW;simp! []) (by rw[Ad];omega) (by rw[Ad,Ad,Ad]) rfl rfl rfl (λ_ _=>rfl) λi v0 w r hw hr=>?_;rw[At] at hw;rw[At,At] at hr;cases ha:t[i]? with
 |none=>rw[ha] at hw;exact noSome hw
 | some l =>
  rw [ha] at hw hr;obtain rfl:=sI hw;obtain rfl:=sI hr;have ll:=h6 l (Dg ha);have e1:=pow1 (l:=l) (by omega);have e2:=divP (p:=(p:Int)) (l:=l) (by omega);have e3:((p:Int)/((2^l:Nat):Int)%2=1)=(p/2^l%2=1):=by
   rw[<-Int.natCast_ediv];apply propext;constructor<;>intro h<;>omega
  refine⟨#v[(l:Nat),0],Zc,?_⟩;simp! [e1,zhe,e2,e3]
theorem c2v {Ψ:Str->Fn}{a c e:Option (W×Bool)}{ts:List (List Nat)}{p:Nat}(h6:∀t∈ts,∀l∈t,l<64)(hl:∀t∈ts,t.length<=64)(hz:ts.length<=64):zfc Ψ [a,#v[(ts.map tmW),3],c,#v[(p:Nat),0],e]=Za ([a,#v[(ts.map tmW),3],c,#v[(p:Nat),0],e],(.lst ((ts.filter λt=>hasT t p).map tmW),Zd)):=by
 unfold zfc;refine zjh (xs:=[#v[(p:Nat),0]]) tmW (λt=>hasT t p) tmW (e0:=[a,#v[(ts.map tmW),3],c,#v[(p:Nat),0],e]) (by simp! []) #v[] rfl rfl rfl (λ_ _=>rfl) λv0 t ht=>?_;have c1:=c1v (Ψ:=Ψ) (v0:=v0) (t:=t) (p:=p) (h6 t ht) (hl t ht);have al:(t.map λl=>decide (p/2^l%2=1)).all id=hasT t p:=by unfold hasT;rw[List.all_map];rfl
 refine⟨#v[tmW t,6],?_,λ_=>⟨#v[tmW t,6],Zc,?_⟩⟩
 ·simp! [c1,al]
 ·simp! []
noncomputable def zfx (Φ:Fn):Prop:=∀(m:Nat) (a:List (List Nat)),m<=6->a.length<=64->(∀t∈a,∀l∈t,l<64)->(∀t∈a,t.length<=64)->Φ [.int (m:Nat),.tup (a.map tmW)]=Za ([.int (m:Nat),.tup (a.map tmW)],(.lst ((tab (2^m) (valF a)).map W.int),Zd))
theorem zte {m:Nat}(h:m<=6):2^m<=64:=Fi #v[0,9] h
theorem b3v {Ψ:Str->Fn}{m i:Nat}{ts:List (List Nat)}{v4:Option (W×Bool)}(hi:i<=64)(hz:ts.length<=64)(h6:∀t∈ts,∀l∈t,l<64)(hl:∀t∈ts,t.length<=64):zdn Ψ [#v[(m:Nat),0],#v[(ts.map tmW),3],#v[((tab i (valF ts)).map W.int),2],#v[(i:Nat),0],v4]=Za ([#v[(m:Nat),0],#v[(ts.map tmW),3],#v[((tab (i+1) (valF ts)).map W.int),2],#v[(i:Nat),0],#v[((ts.filter λt=>hasT t i).map tmW),2]],.nx):=by
 have c2:=c2v (Ψ:=Ψ) (a:=#v[(m:Nat),0]) (c:=#v[((tab i (valF ts)).map W.int),2]) (e:=v4) (ts:=ts) (p:=i) h6 hl hz;have lt:(tab i (valF ts)).length<16777216:=by rw[zdd];omega
 have em:(((ts.filter λt=>hasT t i).length:Nat):Int)%2=valF ts i:=by unfold valF;omega
 rw[zw6 i,Bj];unfold zdn;simp! [c2,Ad,em,lt,Ak,Fy]
theorem i3v {m:Nat}{b c d e:Option (W×Bool)}(hm:m<=6):zd3 (gCns (gArg (gOp2 #v[0,0,1] #v[1] (zaa 0))) gA0) [#v[(m:Nat),0],b,c,d,e]=Za ([#v[(m:Nat),0],b,c,d,e],rngW 0 (2^m)):=by
 have p6:=zte hm;have e1:=pow1 (l:=m) #v[];refine z0w ?_ #v[];simp! [e1,zhe]
theorem l3v {Ψ:Str->Fn}{m:Nat}{ts:List (List Nat)}(g:m<=6)(n:ts.length<=64)(j:∀t∈ts,∀l∈t,l<64)(o:∀t∈ts,t.length<=64):∃f a,ze7 Ψ [#v[(m:Nat),0],#v[(ts.map tmW),3],#v[[],2],Zb,Zb]=Za ([#v[(m:Nat),0],#v[(ts.map tmW),3],#v[((tab (2^m) (valF ts)).map W.int),2],f,a],.nx):=by
 have r:=zte g;unfold ze7;obtain⟨p,h,f,a,rfl⟩:=zcm (mp:=[]) (T:=.nm 3) (body:=zdn Ψ) (λi e=>∃f a,e=[#v[(m:Nat),0],#v[(ts.map tmW),3],#v[((tab i (valF ts)).map W.int),2],f,a]) (i3v (m:=m) (b:=#v[(ts.map tmW),3]) (c:=#v[[],2]) (d:=Zb) (e:=Zb) g) ⟨_,_,rfl⟩ λi w e q k=>by
  obtain⟨f,a,rfl⟩:=k;obtain⟨s,rfl⟩:=zjn q;rw[Int.zero_add];exact⟨_,_,rfl,.inl (b3v #v[] n j o),_,_,rfl⟩
 rw[zqn] at h;exact⟨f,a,h⟩
theorem zst (Ψ:Str->Fn):zfx (zal [Zc,Zc] 5 (zml Ψ)):=λm ts hm hz h6 hl=>by
 obtain⟨v3,v4,lp⟩:=l3v (Ψ:=Ψ) hm hz h6 hl;unfold zml;simp! [lp]
theorem z0v {xs ys:List W}{i:Nat}{w:W}(h:(zipW xs ys)[i]?=Za w):∃x y,xs[i]?=Za x/\ys[i]?=Za y/\w=.tup [x,y]:=by
 have l:=(Ai.mp h).1;rw[zb5] at l;have b:xs[i]?=Za xs[i]:=Af #v[];have a:ys[i]?=Za ys[i]:=Af #v[];rw[zf9 b a] at h;obtain rfl:=sI h;exact⟨_,_,b,a,rfl⟩
noncomputable def zpl (Φ:Fn):Prop:=∀(k:Nat) (a:W) (m most:Nat),HS k a->k+100<big->m<=6->most<=6->∃(s:W) (t:List (List Nat)),Φ [a,.int (m:Nat),.int (most:Nat)]=Za ([s,.int (m:Nat),.int (most:Nat)],(.tup (t.map tmW),Zc))/\HS (k+66) s/\t.Sublist (zab m most)
theorem zt7:∀m most:Fin 7,(zab m.val most.val).length<=64/\∀t∈zab m.val most.val,t.length<=6/\∀l∈t,l<m.val:=by decide +kernel
theorem zbj {m most:Nat}(h:m<=6)(a:most<=6):(zab m most).length<=64/\∀t∈zab m most,t.length<=6/\∀l∈t,l<m:=zt7 ⟨m,by omega⟩ ⟨most,by omega⟩
theorem z2c {Ψ:Str->Fn} (hT:zvl (Ψ "_law_terms")) (hB:z08 (Ψ "_law_bits")):zpl (zal [Zd,Zc,Zc] 4 (zwn Ψ)):=λk st m most hs hk hm ho=>by
 have s9:(1000:Nat)<=sizeLine:=by decide
 obtain⟨tl,_⟩:=zbj hm ho;have t1:=hT m most hm ho;nofun;obtain⟨st',xs,b1,g1,xl,xb⟩:=hB k st ((zab m most).length:Nat) hs hk #v[] #v[];ac_rfl;have lx:xs.length=(zab m most).length:=by omega
 have cc:∃ts:List (List Nat),zkg Ψ [some (st,true),some (.int (m:Nat),false),some (.int (most:Nat),false),some (.lst ((zab m most).map tmW),true)]=Za ([some (st',true),some (.int (m:Nat),false),some (.int (most:Nat),false),some (.lst ((zab m most).map tmW),false)],(.lst (ts.map tmW),Zd))/\ts.Sublist (zab m most):=by
  unfold zkg;obtain ⟨ce',out,hc,hp⟩:=zdl (cap:=[Zb,Zb,Zb]) (T:=.tp [1,2]) (tc:=zaj (gOp2 oEq (zaa 2) (gArg (gC (.int 1))))) (te:=gVar 1) (it:=gZip (gVar 3) (zaf [Zd,Zc] (Ψ "_law_bits") (gCns (zaa 0) (gCns (gArg (gOpN oLen (gCns (zaa 3) gA0))) gA0)))) (en:=[some (st,true),some (.int (m:Nat),false),some (.int (most:Nat),false),some (.lst ((zab m most).map tmW),true)]) (e0:=[some (st',true),some (.int (m:Nat),false),some (.int (most:Nat),false),some (.lst ((zab m most).map tmW),false)]) (ws:=zipW ((zab m most).map tmW) (xs.map W.int)) (λi c dn=>(∃v0 v1 v2,c=[v0,v1,v2])/\∃ts:List (List Nat),dn=ts.map tmW/\ts.Sublist ((zab m most).take i))
   (by simp! [Ad,b1]) rfl (by rw [zb5,Ad,Ad];omega) ⟨⟨_,_,_,rfl⟩,[],rfl,List.nil_sublist _⟩ λi w c dn hw hp=>by
    nofun;obtain⟨⟨v0,v1,v2,rfl⟩,ts,rfl,hsub⟩:=hp;obtain⟨x,y,hx,hy,rfl⟩:=z0v hw;ac_rfl;rw[At] at hx hy;cases ha:(zab m most)[i]? with
    |none=>rw[ha] at hx;exact noSome hx
    | some t =>
     cases hb:xs[i]? with
     |none=>rw[hb] at hy;exact noSome hy
     | some n =>
      rw[ha] at hx;rw[hb] at hy;obtain rfl:=sI hx;obtain rfl:=sI hy;have tk:(zab m most).take (i+1)=(zab m most).take i++[t]:=by rw[Hz,ha];rfl
      refine⟨[v0,#v[tmW t,6],#v[n,0]],rfl,?_⟩;have tt:zaj (gOp2 oEq (zaa 2) #v[1]) [v0,#v[tmW t,6],#v[n,0]]=Za ([v0,#v[tmW t,6],#v[n,0]],decide (n=1)):=by simp! []
      by_cases hn:n=1
      ·refine .inl ⟨[v0,Za (tmW t,Zc),Za (.int n,Zc)], [v0,Za (tmW t,Zc),Za (.int n,Zc)],(tmW t,Zc), ?_,rfl,⟨_,_,_,rfl⟩,ts ++ [t], ?_, ?_⟩
       ·rw[tt,An hn]
       ·rw[Bj];rfl
       ·rw[tk];exact hsub.append (.refl _)
      ·refine .inr ⟨[v0,Za (tmW t,Zc),Za (.int n,Zc)], ?_,⟨_,_,_,rfl⟩,ts,rfl, ?_⟩
       ·rw[tt,Bc hn]
       ·rw[tk];exact hsub.trans (List.sublist_append_left _ _)
  nofun;obtain⟨⟨v0,v1,v2,rfl⟩,ts,rfl,hsub⟩:=hp;ac_rfl;exact⟨ts,hc,hsub.trans (Dr _ _)⟩
 obtain⟨ts,c1,sub⟩:=cc;refine⟨st',ts,?_,g1,sub⟩;have ot:za9 [.lst (ts.map tmW)]=#v[(ts.map tmW),3]:=rfl;unfold zwn;simp! [t1,c1,ot]
theorem zky {α:Type}(f:α->PyData):∀l:List α,PyData.shownAll (l.map f)=l.map λx=>(f x).shown
 |[]=>rfl
 |x::l=>by rw[Ak,PyData.shownAll,zky f l];rfl
theorem zff {α:Type}{c:Nat} (f:α->PyData):∀l:List α,(∀x∈l,(f x).depth<=c)->PyData.depthAll (l.map f)<=c
 |[],_=>Bi _
 | x::l,h=>by
  rw[Ak,PyData.depthAll];have:=h x (Az ..);have:=zff f l λy a=>h y (Au _ a);omega
theorem zdj {α:Type}(f:α->PyData):∀l:List α,(∀x∈l,(f x).canLay0=Zd)->PyData.canLayAll0 (l.map f)=Zd
 |[],_=>rfl
 |x::l,h=>by rw[Ak,PyData.canLayAll0,h x (Az ..),zdj f l λy a=>h y (Au _ a)];rfl
theorem zi1 {α:Type}(f:α->W)(g:α->PyData)(h:∀x,dW (f x)=Za (g x)):∀l:List α,dWs (l.map f)=Za (l.map g)
 |[]=>rfl
 |x::l=>by rw[Ak,dWs,h x,zi1 f g h l];rfl
noncomputable def ndI (ns:List Int):PyData:=.tuple (ns.map .int)
theorem z4p (ns:List Int):dW (.tup (ns.map W.int))=Za (ndI ns):=by
 rw[dW,zi1 W.int .int (λ_=>by rw[dW]) ns];rfl
theorem zcv {a b:GS}{en e1:En}{r:Option (En×Fl)}(h:a en=Za (e1,.nx))(c:b e1=r):gSeq a b en=r:=(seq_nx h).trans c
noncomputable def bitF (p i:Nat):Int:=((p/2^i%2:Nat):Int)
noncomputable def letL (p:Nat):List Nat:=dueL (bitF p) 6
noncomputable def zhh (t:List Nat):Nat:=(t.map λl=>2^l).sum
noncomputable def keyI (t:List Nat):List Int:=(t.length:Int)::t.map λl:Nat=>(l:Int)
theorem zpw:∀p:Fin 64,zhh (letL p.val)=p.val:=by decide +kernel
theorem zez:∀m:Fin 7,((List.range (2^m.val)).map letL).isPerm (zab m.val m.val)=Zd:=by decide +kernel
theorem zfp:∀m:Fin 7,(zab m.val m.val).Pairwise λa b=>lexI (keyI b) (keyI a)=Zc:=by decide +kernel
noncomputable def duT (m:Nat) (f:Nat->Int):List (List Nat):=(zab m m).filter λt=>decide (zsj f (zhh t)=1)
noncomputable def plL (m:Nat) (f:Nat->Int):List Nat:=(List.range (2^m)).filter λq=>decide (zsj f q=1)
theorem z9z {m:Nat}(f:Nat->Int)(h:m<=6):((plL m f).map letL).Perm (duT m f):=by
 have b:=zte h;have p:=(List.isPerm_iff.mp (zez ⟨m,by omega⟩)).filter λt=>decide (zsj f (zhh t)=1);rw[List.filter_map] at p;have e:(List.range (2^m)).filter ((λt=>decide (zsj f (zhh t)=1)) ∘ letL)=plL m f:=Dt λq a=>by
  show decide (zsj f (zhh (letL q))=1)=_;have:=Cj.mp a;rw[zpw ⟨q,by omega⟩]
 rw[e] at p;exact p
theorem z87 {m:Nat}{t:List Nat}(b:m<=6)(h:t∈zab m m):∃q,q<2^m/\t=letL q:=by
 have:=(List.isPerm_iff.mp (zez ⟨m,by omega⟩)).mem_iff.mpr h;obtain⟨q,a,rfl⟩:=Bz.mp this;exact⟨q,Cj.mp a,rfl⟩
theorem z4r (g:Nat->Int) (h:∀i,Bit (g i)):∀L:List Nat,(L.map g).sum=((L.filter λq=>decide (g q=1)).length:Nat)
 |[]=>rfl
 | q::L=>by
  rw[Ak,List.sum_cons,z4r g h L,Di];rcases h q with e|e
  ·rw[e,if_neg #v[0,9]];omega
  ·rw[e,if_pos #v[0,9],Bd];omega
noncomputable def ze8 (t:List Nat):W:=.tup [.int (t.length:Nat),tmW t]
theorem ztd:∀t:List Nat,zm9 (t.map λl=>.int (l:Nat))=Za (t.map λl:Nat=>(l:Int))
 |[]=>rfl
 | l::t=>by
  show (zm9 (t.map λl=>.int (l:Nat))).bind _=_;rw[ztd t];rfl
theorem z8c (t:List Nat):kT (ze8 t)=Za (keyI t):=by
 show (zm9 (t.map λl=>.int (l:Nat))).bind _=_;rw[ztd];rfl
theorem zf8 {α β b:Type}{f:β->Option b}{g:α->β}{k:α->b} (h:∀a,f (g a)=Za (k a)):∀l:List α,mapO f (l.map g)=Za (l.map k)
 |[]=>rfl
 | a::l=>by
  show (f (g a)).bind _=_;rw[h a];show (mapO f (l.map g)).bind _=_;rw[zf8 h l];rfl
theorem zj4:∀{t u:List Nat},(t.map λl:Nat=>(l:Int))=(u.map λl:Nat=>(l:Int))->t=u
 |[],[],_=>rfl
 |[],_::_,h=>by cases h
 |_::_,[],h=>by cases h
 | a::t,b::u,h=>by
  rw[Ak,Ak] at h;obtain⟨c,d⟩:=Ik h;rw[zj4 d,Int.ofNat.inj c]
theorem zu6 {t u:List Nat}(h:keyI t=keyI u):t=u:=zj4 (Ik h).2
theorem zhp:∀{l:List (List Int)},l.Nodup->zby l=Zd
 |[],_=>rfl
 | x::b,h=>by
  have n:=Dd.mp h;unfold zby;rw[Ae];exact⟨Bf.mpr λy a=>An λe=>n.1 (by rw[e];exact a),zhp n.2⟩
noncomputable def zsw (t:List Nat):KP:=(keyI t,tmW t)
theorem zpx:∀a:List (List Nat),(a.map keyI).zip (a.map tmW)=a.map zsw
 |[]=>rfl
 |t::a=>by rw[Ak,Ak,Bh,zpx a];rfl
theorem zic {ts us:List (List Nat)} (n:ts.Nodup) (p:ts.Perm us) (s:us.Pairwise λa b=>lexI (keyI b) (keyI a)=Zc):zkk (ts.map ze8) (ts.map tmW)=Za (us.map tmW):=by
 have k:((mapO kI (ts.map ze8)).orElse λ_=>mapO kT (ts.map ze8))=Za (ts.map keyI):=by
  cases ts with
  |nil=>rfl
  | cons t ts =>
   have c:mapO kI ((t::ts).map ze8)=Zb:=rfl;rw[c];exact zf8 z8c (t::ts)
 have d:zby (ts.map keyI)=Zd:=zhp (by
  rw[List.nodup_iff_pairwise_ne,Db];rw[List.nodup_iff_pairwise_ne] at n;exact n.imp λ{a b} h e=>h (zu6 e))
 unfold zkk;rw [k];show (if zby (ts.map keyI)&&decide ((ts.map keyI).length=(ts.map tmW).length) then Za ((zgr ((ts.map keyI).zip (ts.map tmW))).map (·.2)) else Zb)=_;rw [d,An (by rw [Ad,Ad]),zpx];have e:us.map zsw=zgr (ts.map zsw):=zdf ((p.symm.map zsw).trans (zdp _).symm) (by
  rw [Db];exact s) (zb1 _) λx f y g h=>by
   obtain⟨a,_,rfl⟩:=Bz.mp f;obtain⟨b,_,rfl⟩:=Bz.mp g;rw[zu6 h]
 show Za ((zgr (ts.map zsw)).map (·.2))=_;rw[<-e,Ca];rfl
noncomputable def z61 (m:Nat) (ts:List (List Nat)):Prop:=ts.Nodup/\∀t∈ts,t∈zab m m
theorem zwr:∀q:Fin 64,∀l∈letL q.val,l<6:=by decide +kernel
theorem z0d:∀m u:Fin 7,u.val<=m.val->∀t∈zab m.val u.val,t∈zab m.val m.val:=by decide +kernel
theorem zqa:∀m u:Fin 7,(zab m.val u.val).Nodup:=by decide +kernel
noncomputable def zea (Ψ:Str->Fn):GS:=(gRet (zd5 (gCns (gArg (gOpN oLen (gCns (zaa 0) gA0))) (gCns #v[0,4] gA0))))
noncomputable def znf (Φ:Fn):Prop:=∀t:List Nat,Φ [tmW t]=Za ([tmW t],(ze8 t,Zc))
theorem zqu (Ψ:Str->Fn):znf (zal [Zc] 1 (zea Ψ)):=λt=>by
 have sq:oLen [tmW t]=#v[(t.length:Nat),0]:=by
  show Za (W.int ((t.map λl=>W.int (l:Nat)).length:Nat),Zc)=_;rw[Ad]
 unfold zea ze8 tmW;unfold tmW at sq;simp! [Ad]
theorem z4m {Φ:Fn}{a:GA}{en e1:En}{ts us:List (List Nat)}(c:znf Φ)(h:a en=Za (e1,.inl (.lst (ts.map tmW))))(n:ts.Nodup)(p:ts.Perm us)(s:us.Pairwise λa b=>lexI (keyI b) (keyI a)=Zc):zms Φ a en=Za (e1,(.lst (us.map tmW),Zd)):=by
 have mk:mapO (fnW Φ) (ts.map tmW)=Za (ts.map ze8):=zf8 (λt=>by unfold fnW;rw[c t];rfl) ts;unfold zms;rw[h];show (mapO (fnW Φ) (ts.map tmW)).bind _=_;rw[mk];show (zkk (ts.map ze8) (ts.map tmW)).bind _=_;rw[zic n p s];rfl
noncomputable def zmh (Ψ:Str->Fn):GS:=(gSet [] 3 (zaf [Zc,Zc] (Ψ "plus") (gCns #v[3,4] (gCns (gArg (gOp2 #v[0,0,1] (zaa 5) (gArg (gOp2 #v[0,0,1] (zaa 4) (zaa 1))))) gA0))))
noncomputable def ztg (Ψ:Str->Fn):GS:=gFor [] (.tp [4,5]) (zl7 (gVar 2)) (zmh Ψ)
noncomputable def zv2 (Ψ:Str->Fn):GS:=(gSeq (gSet [] 3 (gC (.int 0))) (gSeq (ztg Ψ) (gRet (zaf [Zc,Zc,Zc] (Ψ "outer_steps") (gCns #v[0,4] (gCns #v[3,4] (gCns #v[1,4] gA0)))))))
noncomputable def zcb (z:Nat) (g:Nat->Nat->Int) (p:Nat):Int:=g (p/z) (p%z)
theorem z6c {z a c:Nat}{g:Nat->Nat->Int}(h:c<z):zcb z g (a*z+c)=g a c:=by
 unfold zcb;rw[Nat.mul_comm,Nat.mul_add_div #v[],Nat.div_eq_of_lt h,Nat.add_zero,Nat.mul_add_mod,Nat.mod_eq_of_lt h]
noncomputable def z9p (Φ:Fn):Prop:=∀(m r:Int) (g:Nat->Nat->Int),0<=r->r<=m->m<=6->(∀s c,Bit (g s c))->Φ [.int m,.int r,.tup ((tab (2^(m-r).toNat) λs=>zac (tab (2^r.toNat) (g s))).map W.int)]=Za ([.int m,.int r,.tup ((tab (2^(m-r).toNat) λs=>zac (tab (2^r.toNat) (g s))).map W.int)],(.int (zac (tab (2^m.toNat) (outF r.toNat (m-r).toNat (zcb (2^r.toNat) g)))),Zc))
theorem put_ok {Ψ:Str->Fn}(V:z26 (Ψ "outer_steps"))(Q:yai (Ψ "plus")):z9p (zal [Zc,Zc,Zc] 6 (zv2 Ψ)):=λm r g D R J t=>by
 have Y:2^(m-r).toNat<=2^6:=Fi #v[0,9] #v[];have G:(2^r.toNat)<=2^6:=Fi #v[0,9] #v[];have N:2^(m-r).toNat*(2^r.toNat)=(2^m.toNat):=by rw[<-Nat.pow_add];congr 1;omega
 have O:(2^m.toNat)<=2^6:=Fi #v[0,9] #v[];have E:∀p,Bit (zcb (2^r.toNat) g p):=λp=>t _ _;have le:(zfv ((tab (2^(m-r).toNat) λs=>zac (tab (2^r.toNat) (g s))).map W.int) 0).length=2^(m-r).toNat:=by rw[zbw,Ad,zdd]
 have P:(zac (tab (0*(2^r.toNat)) (zcb (2^r.toNat) g)))=0:=by rw[Nat.zero_mul];rfl
 obtain⟨K,B,I⟩:=zcm (mp:=[]) (T:=(.tp [4,5])) (it:=(zl7 (gVar 2))) (body:=(zmh Ψ))
  (λj e=>∃q z,e=[#v[m,0],#v[r,0],#v[((tab (2^(m-r).toNat) λs=>zac (tab (2^r.toNat) (g s))).map W.int),3],#v[(zac (tab (j*(2^r.toNat)) (zcb (2^r.toNat) g))),0],q,z]) (en:=[#v[m,0],#v[r,0],#v[((tab (2 ^ (m - r).toNat) λs=>zac (tab (2 ^ r.toNat) (g s))).map W.int),3],#v[0,0],none,none]) (e0:=[#v[m,0],#v[r,0],#v[((tab (2 ^ (m - r).toNat) λs=>zac (tab (2 ^ r.toNat) (g s))).map W.int),3],#v[0,0],none,none]) (ws:=zfv ((tab (2^(m-r).toNat) λs=>zac (tab (2^r.toNat) (g s))).map W.int) 0) rfl ⟨Zb,Zb,by rw[P]⟩
  (by
   rintro j w e L ⟨q,z,rfl⟩;obtain⟨k,rfl⟩:=zp2 L;have A:j<2^(m-r).toNat:=by rw[zdd] at k;exact k
   have U:(tab (2^(m-r).toNat) λs=>zac (tab (2^r.toNat) (g s)))[j]=zac (tab (2^r.toNat) (g j)):=by
    have:=znd (f:=λs=>zac (tab (2^r.toNat) (g s))) A;rw[Af k] at this;exact sI this
   rw[U];have M:j*(2^r.toNat)+(2^r.toNat)<=(2^m.toNat):=by
    have:(j+1)*(2^r.toNat)<=2^(m-r).toNat*(2^r.toNat):=Nat.mul_le_mul_right _ A;rw[N,Nat.add_mul,Nat.one_mul] at this;exact this
   have d:(j:Int)*2^r.toNat=((j*(2^r.toNat):Nat):Int):=by rw[Int.natCast_mul,Int.natCast_pow]<;>rfl
   have S:((j*(2^r.toNat):Nat):Int)<=1000000:=Int.le_trans (Int.ofNat_le.mpr (show j*(2^r.toNat)<=64 from Cf (Cf (Dy _ _) M) O)) #v[0,9];have C:=zd4 (zi6 (n:=(2^r.toNat)) λc _=>t j c);rw[zdd] at C;have Z:zac (tab (2^r.toNat) (g j))<2^64:=Int.lt_of_lt_of_le C.2 (by
    have:=Fi (n:=2) #v[0,9] (show (2^r.toNat)<=64 from G)
    exact_mod_cast this)
   have u:=zkp (l:=tab (j*(2^r.toNat)) (zcb (2^r.toNat) g)) (h:=tab (2^r.toNat) (g j)) (zi6 λp _=>E p) (zi6 λc _=>t j c);rw[zdd] at u;have F:tab (j*(2^r.toNat)) (zcb (2^r.toNat) g)++tab (2^r.toNat) (g j)=tab ((j+1)*(2^r.toNat)) (zcb (2^r.toNat) g):=by
    rw[Nat.add_mul,Nat.one_mul,z3j];congr 1;exact z3r λc H=>(z6c H).symm
   rw[F] at u;have x:=Q (zac (tab (j*(2^r.toNat)) (zcb (2^r.toNat) g))) (zac (tab (2^r.toNat) (g j))*2^(j*(2^r.toNat)));rw[u] at x;have X:gOp2 #v[0,0,1] (zaa 5) (gArg (gOp2 #v[0,0,1] (zaa 4) (zaa 1))) [#v[m,0],#v[r,0],#v[((tab (2 ^ (m - r).toNat) λs=>zac (tab (2 ^ r.toNat) (g s))).map W.int),3],#v[(zac (tab (j * (2 ^ r.toNat)) (zcb (2 ^ r.toNat) g))),0],#v[(j:Nat),0],#v[(zac (tab (2 ^ r.toNat) (g j))),0]]=Za ([#v[m,0],#v[r,0],#v[((tab (2 ^ (m - r).toNat) λs=>zac (tab (2 ^ r.toNat) (g s))).map W.int),3],#v[(zac (tab (j * (2 ^ r.toNat)) (zcb (2 ^ r.toNat) g))),0],#v[(j:Nat),0],#v[(zac (tab (2 ^ r.toNat) (g j))),0]],(.int (zac (tab (2^r.toNat) (g j))*2^(j*(2^r.toNat))),Zc)):=by
    have e:=op2_0 (o:=oI cPow λi j=>.int (i*2^j.toNat)) (a:=zaa 5) (en:=[#v[m,0],#v[r,0],#v[((tab (2 ^ (m - r).toNat) λs=>zac (tab (2 ^ r.toNat) (g s))).map W.int),3],#v[(zac (tab (j * (2 ^ r.toNat)) (zcb (2 ^ r.toNat) g))),0],#v[(j:Nat),0],#v[(zac (tab (2 ^ r.toNat) (g j))),0]]) (x:=.inl (.int (zac (tab (2^r.toNat) (g j))))) rfl (arg_0 (r:=(.int ((j:Int)*2^r.toNat),Zc)) (op2_0 (o:=oI cPow λi j=>.int (i*2^j.toNat)) (a:=zaa 4) (b:=zaa 1) (x:=.inl (.int (j:Nat))) (y:=.inl (.int r)) rfl rfl rfl rfl (oI_t (z0k D #v[] #v[])))) rfl rfl (oI_t (z0k (by rw[d];exact Int.natCast_nonneg _) (by rw[d];exact S) #v[]));rw[z5q d] at e;exact e
   exact⟨[#v[m,0],#v[r,0],#v[((tab (2 ^ (m - r).toNat) λs=>zac (tab (2 ^ r.toNat) (g s))).map W.int),3],#v[(zac (tab (j * (2 ^ r.toNat)) (zcb (2 ^ r.toNat) g))),0],#v[(j:Nat),0],#v[(zac (tab (2 ^ r.toNat) (g j))),0]],[#v[m,0],#v[r,0],#v[((tab (2^(m-r).toNat) λs=>zac (tab (2^r.toNat) (g s))).map W.int),3],#v[(zac (tab ((j+1)*(2^r.toNat)) (zcb (2^r.toNat) g))),0],#v[(j:Nat),0],#v[(zac (tab (2^r.toNat) (g j))),0]],rfl,.inl (set_0 (ztw (ws:=[.int (zac (tab (j*(2^r.toNat)) (zcb (2^r.toNat) g))),.int (zac (tab (2^r.toNat) (g j))*2^(j*(2^r.toNat)))]) (z41 (x:=.inl (.int (zac (tab (j*(2^r.toNat)) (zcb (2^r.toNat) g))))) rfl (z41 (arg_0 X) rfl)) rfl x rfl) rfl),_,_,rfl⟩)
 obtain⟨q,z,rfl⟩:=I;rw[le,N] at B;have c:=V m r (zcb (2^r.toNat) g) D R J E;exact zdv rfl ((seq_nx (e1:=[#v[m,0],#v[r,0],#v[((tab (2 ^ (m - r).toNat) λs=>zac (tab (2 ^ r.toNat) (g s))).map W.int),3],#v[0,0],none,none]) rfl).trans ((seq_nx B).trans (z9b (ztw (ws:=[.int m,.int (zac (tab (2^m.toNat) (zcb (2^r.toNat) g))),.int r]) rfl rfl c rfl)))) rfl
theorem let_in:∀m:Fin 7,∀q:Fin (2^m.val),letL q.val∈zab m.val m.val:=by decide +kernel
theorem zxu (n:Nat):(List.replicate n Zd).all id=Zd:=by
 induction n with
 |zero=>rfl
 |succ n i=>rw[Da,Bk,i];rfl
theorem z3t (ts:List (List Nat))(p:Nat):Bit (valF ts p):=by unfold valF Bit;omega
theorem zxy {m most:Nat}{ts:List (List Nat)}(c:m<=6)(b:most<=m)(h:ts.Sublist (zab m most)):z61 m ts:=⟨(zqa ⟨m,by omega⟩ ⟨most,by omega⟩).sublist h,λt a=>z0d ⟨m,by omega⟩ ⟨most,by omega⟩ b t (h.mem a)⟩
section
variable {en:En}{P Q:W->Prop}
end
set_option maxHeartbeats 2000000
noncomputable def dkI (i:Int):DKey:=.inl (.inl i)
theorem zj2 (a b:Int)(h:dkI a=dkI b):a=b:=Sum.inl.inj (Sum.inl.inj h)
section
variable {κ:Type} [DecidableEq κ] {f:κ->DKey}
theorem val_map (c:∀a b,f a=f b->a=b) (g:κ->W) (p:κ):∀L:List κ,valW ((L.map f).zip (L.map g)) (f p)=if p∈L then Za (g p) else Zb
 |[]=>rfl
 | q::L=>by
  rw[Ak,Ak,Bh,zeq,val_map c g p L];by_cases h:q=p
  ·subst h;rw[if_pos rfl,if_pos Az]
  ·rw [if_neg λe=>h (c _ _ e)]
   by_cases m:p∈L
   ·rw[if_pos m,if_pos (Au _ m)]
   ·rw[if_neg m,if_neg λz=>by rcases Ar.mp z with z|z;exact h z.symm;exact m z]
theorem zus (c:∀a b,f a=f b->a=b) (g:κ->W) (p:κ) (w:W):∀L:List κ,List.zipWith (λk v=>if k=f p then w else v) (L.map f) (L.map g)=L.map λq=>if q=p then w else g q
 |[]=>rfl
 | q::L=>by
  rw[Ak,Ak,Hd,zus c g p w L,Ak];by_cases h:q=p
  ·subst h;rw[if_pos rfl,if_pos rfl]
  ·rw[if_neg λe=>h (c _ _ e),if_neg h]
theorem zgc (c:∀a b,f a=f b->a=b){L:List κ}{p:κ}:f p∈L.map f↔p∈L:=by
 rw[Bz];exact⟨λ⟨a,h,e⟩=>c _ _ e ▸ h,λh=>⟨p,h,rfl⟩⟩
theorem zo2 (c:∀a b,f a=f b->a=b)(g:κ->W){p:κ}(w:W){L:List κ}(h:p∈L):zc4 (L.map f) (L.map g) (f p) w=L.map λq=>if q=p then w else g q:=by
 unfold zc4;rw[if_pos ((zgc c).mpr h),zus c]
theorem zjo (c:∀a b,f a=f b->a=b)(ws:List W){p:κ}(w:W){L:List κ}(h:p ∉ L):zc4 (L.map f) ws (f p) w=ws++[w]:=by
 unfold zc4;rw[if_neg (mt (zgc c).mp h)]
theorem zoi (c:∀a b,f a=f b->a=b){p:κ}{L:List κ}(h:p∈L):zcx (L.map f) (f p)=L.map f:=by
 unfold zcx;rw[if_pos ((zgc c).mpr h)]
theorem zjs (c:∀a b,f a=f b->a=b){p:κ}{L:List κ}(h:p ∉ L):zcx (L.map f) (f p)=L.map f++[f p]:=by
 unfold zcx;rw[if_neg (mt (zgc c).mp h)]
end
theorem get_y {i:Nat}{g g':GE}{en:En}{ks:List DKey}{ws:List W}{f b:Bool}{u w:W}{r:W×Bool}{d:DKey}(j:en[i]?=Za (Za (.dct ks ws,f)))(a:g en=Za (en,(u,b)))(c:g' en=Za (en,r))(h:keyD u=Za d)(e:valW (ks.zip ws) d=Za w):zfa i g g' en=Za (en,(w,Zc)):=by
 unfold zfa;simp only [j,a,c,Do,h,e]
theorem z7m {i:Nat}{g g':GE}{en:En}{ks:List DKey}{ws:List W}{f c:Bool}{u:W}{r:W×Bool}{d:DKey}(k:en[i]?=Za (Za (.dct ks ws,f)))(b:g en=Za (en,(u,c)))(e:g' en=Za (en,r))(a:keyD u=Za d)(j:valW (ks.zip ws) d=Zb)(h:zhf d ks=Zd):zfa i g g' en=Za (en,r):=by
 unfold zfa;simp only [k,b,e,Do,a,j,h,Fe]
theorem zz4 {i:Nat}{k g:GE}{en e1:En}{ks:List DKey}{ws:List W}{f l:Bool}{u w:W}{d:DKey}(h:g en=Za (e1,(w,f)))(b:k e1=Za (e1,(u,l)))(e:e1[i]?=Za (Za (.dct ks ws,Zd)))(c:keyD u=Za d)(a:zhf d ks=Zd)(j:ks.length<sizeLine):zrg i k g en=Za (e1.set i (Za (.dct (zcx ks d) (zc4 ks ws d w),Zd)),.nx):=by
 unfold zrg;simp only [h,b,e,Do,c,a,Bool.true_and,An j,Fe]
theorem zt4:∀L:List Int,zmz (L.map dkI)=Za (L.map W.int)
 |[]=>rfl
 | p::L=>by
  show (zmz (L.map dkI)).bind _=_;rw[zt4 L];rfl
noncomputable def tp (w:Nat):Nat:=w.log2
end L2
namespace My
open PySem PySem.Spec PyProof.Rows L2
noncomputable def top (i:Nat):Stmt:=PySem.Challenge.pw_yesnowords_k11_polynomials_together.main.body.getD i (.Pass ⟨0,0,0,0⟩)
noncomputable def zb4:Fd:=⟨"term_order",["term"],["term"],[Zc],top 1⟩
noncomputable def zck:Fd:=⟨"odd_terms",["some"],["some","odd","term"],[Zc],top 2⟩
noncomputable def zdg:Fd:=⟨"poly_sum",["one","other"],["one","other"],[Zc,Zc],top 3⟩
noncomputable def zbc:Fd:=⟨"poly_product",["one","other"],["one","other"],[Zc,Zc],top 4⟩
noncomputable def zcf:Fd:=⟨"_law_hand",["_law_script"],["_law_script","_law_state","_law_weighs","_law_cell","_law_k","_law_one"],[Zc],top 6⟩
noncomputable def zcp:Fd:=⟨"_law_take",["_law_state","_law_count"],["_law_state","_law_count","_law_digit","_law_mixed"],[Zd,Zc],top 7⟩
noncomputable def zci:Fd:=⟨"_law_many",["_law_state"],["_law_state"],[Zd],top 8⟩
noncomputable def zcs:Fd:=⟨"_law_bits",["_law_state","_law_count"],["_law_state","_law_count","_law_way","_law_found","_law_k","_law_one"],[Zd,Zc],top 9⟩
noncomputable def zb0:Fd:=⟨"_law_terms",["_law_many_here","_law_most"],["_law_many_here","_law_most","_law_found","_law_letter"],[Zc,Zc],top 10⟩
noncomputable def zbk:Fd:=⟨"_law_values",["_law_many_here","_law_poly_here"],["_law_many_here","_law_poly_here","_law_found","_law_place","_law_says_yes"],[Zc,Zc],top 11⟩
noncomputable def zcq:Fd:=⟨"_law_poly",["_law_state","_law_many_here","_law_most"],["_law_state","_law_many_here","_law_most","_law_some"],[Zd,Zc,Zc],top 12⟩
noncomputable def zcd:Fd:=⟨"_law_same",["_law_found","_law_due"],["_law_found","_law_due"],[Zc,Zc],top 13⟩
noncomputable def za4:Fd:=⟨"_law_in_order",["_law_some"],["_law_some"],[Zc],top 14⟩
noncomputable def zbg:Fd:=⟨"_law_product",["_law_one","_law_other"],["_law_one","_law_other","_law_met","_law_term","_law_more","_law_both"],[Zc,Zc],top 15⟩
noncomputable def zop:Fd:=⟨"law",["_law_script"],["_law_script","_law_state","_law_k","_law_many_here","_law_one","_law_other","_law_due","_law_less","_law_fewer","_law_first","_law_second"],[Zc],top 16⟩
noncomputable def T:List Fd:=[zb4,zck,zdg,zbc,zcf,zcp,zci,zcs,zb0,zbk,zcq,zcd,za4,zbg,zop]
noncomputable def bn:List Str:=["abs","all","bool","d _law_met","d odd","dict","enumerate","inT","int","isinstance","len","list","range","set","sorted","str","tuple","zip"]
theorem sFq {d:Nat}{x:Str}{t:Fd}{g:(Str->Fn)->GS}(h:T.find? (·.nm==x)=Za t)(b:∀Ψ d,za8 T bn Ψ (d+2) t=Za (g Ψ)):sem T bn (d+3) x=zal t.m t.N.length (g (sem T bn (d+2))):=zd1 h (b _ d)
theorem zfh (d:Nat):sem T bn (d+3) "term_order"=zal [Zc] 1 (zea (sem T bn (d+2))):=sFq (t:=zb4) (by kernel_rfl) λ_ _=>by kernel_rfl
noncomputable def zc9 (Ψ:Str->Fn):GS:=(zrg 1 (gVar 2) (gNot (zfa 1 (gVar 2) (gC (.bl Zc)))))
noncomputable def zda (Ψ:Str->Fn):GS:=gFor [] (.nm 2) (za1 (gVar 0)) (zc9 Ψ)
noncomputable def zb3 (Ψ:Str->Fn):GE:=zbp [Zb,Zb,Za 1] (.nm 1) (zo7 1) (zaj (gOp2 oIxD (zaa 2) (zaa 1))) (gVar 1)
noncomputable def zce (Ψ:Str->Fn):GS:=(gSeq (gSet [] 1 zyz) (gSeq (zda Ψ) (gRet (gOpN za9 (gCns (gArg (zms (Ψ "term_order") (gArg (zb3 Ψ)))) gA0)))))
theorem zgh (d:Nat):sem T bn (d+3) "odd_terms"=zal [Zc] 3 (zce (sem T bn (d+2))):=sFq (t:=zck) (by kernel_rfl) λ_ _=>by kernel_rfl
noncomputable def zdm (Ψ:Str->Fn):GS:=(gRet (zaf [Zc] (Ψ "odd_terms") (gCns (gArg (gOp2 oAdd (zaa 0) (zaa 1))) gA0)))
theorem zr4 (d:Nat):sem T bn (d+3) "poly_sum"=zal [Zc,Zc] 2 (zdm (sem T bn (d+2))):=sFq (t:=zdg) (by kernel_rfl) λ_ _=>by kernel_rfl
noncomputable def zbo (Ψ:Str->Fn):GE:=zsm [Zb,Zb,Zb,Za 1] (.nm 1) (za1 (gVar 0)) gYes (.nm 2) (za1 (gVar 3)) gYes (gOpN za9 (gCns (gArg (gSS (gCns (gArg (gOp2 oAdd (zaa 1) (zaa 2))) gA0))) gA0))
noncomputable def zbf (Ψ:Str->Fn):GS:=(gRet (zaf [Zc] (Ψ "odd_terms") (gCns (gArg (zbo Ψ)) gA0)))
theorem zh2 (d:Nat):sem T bn (d+3) "poly_product"=zal [Zc,Zc] 2 (zbf (sem T bn (d+2))):=sFq (t:=zbc) (by kernel_rfl) λ_ _=>by kernel_rfl
theorem zn6 (d:Nat):sem T bn (d+3) "_law_hand"=zal [Zc] 6 (z5z (sem T bn (d+2))):=sFq (t:=zcf) (by kernel_rfl) λ_ _=>by kernel_rfl
theorem zdx (d:Nat):sem T bn (d+3) "_law_take"=zal [Zd,Zc] 4 (zwi (sem T bn (d+2))):=sFq (t:=zcp) (by kernel_rfl) λ_ _=>by kernel_rfl
theorem zor (d:Nat):sem T bn (d+3) "_law_many"=zal [Zd] 1 (z07 (sem T bn (d+2))):=sFq (t:=zci) (by kernel_rfl) λ_ _=>by kernel_rfl
theorem zn0 (d:Nat):sem T bn (d+3) "_law_bits"=zal [Zd,Zc] 6 (z57 (sem T bn (d+2))):=sFq (t:=zcs) (by kernel_rfl) λ_ _=>by kernel_rfl
theorem zkt (d:Nat):sem T bn (d+3) "_law_terms"=zal [Zc,Zc] 4 (zpa (sem T bn (d+2))):=sFq (t:=zb0) (by kernel_rfl) λ_ _=>by kernel_rfl
theorem zkd (d:Nat):sem T bn (d+3) "_law_values"=zal [Zc,Zc] 5 (zml (sem T bn (d+2))):=sFq (t:=zbk) (by kernel_rfl) λ_ _=>by kernel_rfl
theorem zoh (d:Nat):sem T bn (d+3) "_law_poly"=zal [Zd,Zc,Zc] 4 (zwn (sem T bn (d+2))):=sFq (t:=zcq) (by kernel_rfl) λ_ _=>by kernel_rfl
noncomputable def zc6 (Ψ:Str->Fn):GE:=zbp [Zb,Zb,Zb] (.tp [1,2]) (gZip (gVar 0) (gVar 1)) gYes (zaf [Zc,Zc] (Ψ "_law_same") (gCns #v[1,4] (gCns #v[2,4] gA0)))
noncomputable def zch (Ψ:Str->Fn):GS:=(gSeq (gIfS (zaj (gOp1 (oIsi .tuple) (zaa 1))) (gSeq (gIfS (gOrT (zhr (zaj (gOp1 (oIsi .tuple) (zaa 0)))) (zaj (gOp2 oNe (gArg (gOpN oLen (gCns (zaa 0) gA0))) (gArg (gOpN oLen (gCns (zaa 1) gA0)))))) (gRet (gC (.bl false))) zbx) (gRet (gOpN (oBl λbs=>bs.all id) (gCns (gArg (zc6 Ψ)) gA0)))) zbx) (gSeq (gIfS (zaj (gOp2 oIs (zaa 1) (gArg (gC .non)))) (gRet (gOp2 oIs (zaa 0) (gArg (gC .non)))) zbx) (gSeq (gIfS (zaj (gOp1 (oIsi .str) (zaa 1))) (gRet (gAnd (gOp1 (oIsi .str) (zaa 0)) (gOp2 oEq (zaa 0) (zaa 1)))) zbx) (gRet (gAnd (gOp1 (oIsi .int) (zaa 0)) (gAnd (gNot (gOp1 (oIsi .bool) (zaa 0))) (gOp2 oEq (zaa 0) (zaa 1))))))))
theorem zd6 (d:Nat):sem T bn (d+3) "_law_same"=zal [Zc,Zc] 2 (zch (sem T bn (d+2))):=sFq (t:=zcd) (by kernel_rfl) λ_ _=>by kernel_rfl
noncomputable def za7 (Ψ:Str->Fn):GS:=(gRet (gOpN za9 (gCns (gArg (zha (zd5 (gCns (gArg (gOpN oLen (gCns (zaa 0) gA0))) (gCns #v[0,4] gA0))) (zaa 0))) gA0)))
theorem zc7 (d:Nat):sem T bn (d+3) "_law_in_order"=zal [Zc] 1 (za7 (sem T bn (d+2))):=sFq (t:=za4) (by kernel_rfl) λ_ _=>by kernel_rfl
noncomputable def zat (Ψ:Str->Fn):GE:=zbp [Zb,Zb] (.nm 1) (za1 (gOp2 oAdd (zaa 3) (zaa 4))) gYes (zd5 (gCns #v[1,4] (gCns (gArg (gC (.bl Zd))) gA0)))
noncomputable def za6 (Ψ:Str->Fn):GS:=(gSeq (gSet [] 5 (gOpN za9 (gCns (gArg (gOpN zdz (gCns (gArg (gOpN zgi (gCns (gArg (zg1 (zat Ψ))) gA0))) gA0))) gA0))) (zrg 2 (gVar 5) (gOp2 oAdd (gArg (zfa 2 (gVar 5) (gC (.int 0)))) #v[1])))
noncomputable def zbs (Ψ:Str->Fn):GS:=gFor [] (.nm 4) (za1 (gVar 1)) (za6 Ψ)
noncomputable def zde (Ψ:Str->Fn):GS:=(zbs Ψ)
noncomputable def zbq (Ψ:Str->Fn):GS:=gFor [] (.nm 3) (za1 (gVar 0)) (zde Ψ)
noncomputable def zbv (Ψ:Str->Fn):GE:=zbp [Zb,Zb,Za 2] (.nm 1) (zo7 2) (zaj (gOp2 oEq (gArg (gOp2 #v[0,0,2] (gArg (gOp2 oIxD (zaa 2) (zaa 1))) #v[2])) #v[1])) (gVar 1)
noncomputable def zbe (Ψ:Str->Fn):GS:=(gSeq (gSet [] 2 zyz) (gSeq (zbq Ψ) (gRet (zaf [Zc] (Ψ "_law_in_order") (gCns (gArg (zbv Ψ)) gA0)))))
theorem zh0 (d:Nat):sem T bn (d+3) "_law_product"=zal [Zc,Zc] 6 (zbe (sem T bn (d+2))):=sFq (t:=zbg) (by kernel_rfl) λ_ _=>by kernel_rfl
noncomputable def zv7 (Ψ:Str->Fn):GE:=zbp [Zb,Zb,Za 4,Za 5] (.nm 1) (za1 (gOp2 oAdd (zaa 4) (zaa 5))) (zaj (gOp2 oNe (gArg (gOp2 (oInV Zc) (zaa 1) (zaa 2))) (gArg (gOp2 (oInV Zc) (zaa 1) (zaa 3))))) (gVar 1)
noncomputable def ztx (Ψ:Str->Fn):GE:=zbp [Zb,Zb,Zb] (.tp [1,2]) (gZip (gVar 9) (gVar 10)) gYes (gOp2 oMult (zaa 1) (zaa 2))
noncomputable def zp5 (Ψ:Str->Fn):GS:=(gSeq (gSet [] 3 (zaf [Zd] (Ψ "_law_many") (gCns (zaa 1) gA0))) (gSeq (gSet [] 4 (zaf [Zd,Zc,Zc] (Ψ "_law_poly") (gCns (zaa 1) (gCns #v[3,4] (gCns (gArg (zaf [true,false] (Ψ "_law_take") (gCns (zaa 1) (gCns (gArg (gOp2 oAdd (zaa 3) #v[1])) gA0)))) gA0))))) (gSeq (gSet [] 5 (zaf [Zd,Zc,Zc] (Ψ "_law_poly") (gCns (zaa 1) (gCns #v[3,4] (gCns (gArg (zaf [true,false] (Ψ "_law_take") (gCns (zaa 1) (gCns (gArg (gOp2 oAdd (zaa 3) #v[1])) gA0)))) gA0))))) (gSeq (gSet [] 5 (gOp2 oIx (gArg (za0 (gCns #v[5,4] (gCns #v[4,4] (gCns (gArg (zd5 gA0)) (gCns (gArg (gSl (zaa 4) (zej (gOp1 oNeg #v[1])) zbb)) (gCns #v[5,4] (gCns #v[5,4] gA0)))))))) (gArg (zaf [Zd,Zc] (Ψ "_law_take") (gCns (zaa 1) (gCns #v[6] gA0)))))) (gSeq (gSet [] 6 (zaf [Zc] (Ψ "_law_in_order") (gCns (gArg (zv7 Ψ)) gA0))) (gSeq (gIfS (gOrT (zhr (zaj (zaf [Zc,Zc] (Ψ "_law_same") (gCns (gArg (zaf [Zc,Zc] (Ψ "poly_sum") (gCns #v[4,4] (gCns #v[5,4] gA0)))) (gCns #v[6,4] gA0))))) (zhr (zaj (zaf [Zc,Zc] (Ψ "_law_same") (gCns (gArg (zaf [Zc,Zc] (Ψ "poly_sum") (gCns #v[5,4] (gCns #v[4,4] gA0)))) (gCns #v[6,4] gA0)))))) (gRet (gC (.bl Zc))) zbx) (gSeq (gPar [] 7 8 (gSl (zaa 4) zbb (zej (gC (.int 20)))) (gSl (zaa 5) (zej (gOp1 oNeg #v[20])) zbb)) (gSeq (gSet [] 6 (zaf [Zc,Zc] (Ψ "_law_product") (gCns #v[7,4] (gCns #v[8,4] gA0)))) (gSeq (gIfS (gOrT (zhr (zaj (zaf [Zc,Zc] (Ψ "_law_same") (gCns (gArg (zaf [Zc,Zc] (Ψ "poly_product") (gCns #v[7,4] (gCns #v[8,4] gA0)))) (gCns #v[6,4] gA0))))) (zhr (zaj (zaf [Zc,Zc] (Ψ "_law_same") (gCns (gArg (zaf [Zc,Zc] (Ψ "poly_product") (gCns #v[8,4] (gCns #v[7,4] gA0)))) (gCns #v[6,4] gA0)))))) (gRet (gC (.bl Zc))) zbx) (gSeq (gPar [] 9 10 (zaf [Zc,Zc] (Ψ "_law_values") (gCns #v[3,4] (gCns #v[7,4] gA0))) (zaf [Zc,Zc] (Ψ "_law_values") (gCns #v[3,4] (gCns #v[8,4] gA0)))) (gIfS (zaj (gOp2 oNe (gArg (zaf [Zc,Zc] (Ψ "_law_values") (gCns #v[3,4] (gCns #v[6,4] gA0)))) (gArg (ztx Ψ)))) (gRet (gC (.bl Zc))) zbx)))))))))))
noncomputable def zso (Ψ:Str->Fn):GS:=gFor [] (.nm 2) (zd3 (gCns #v[4] gA0)) (zp5 Ψ)
noncomputable def z43 (Ψ:Str->Fn):GS:=(gSeq (gSet [] 1 (zaf [Zc] (Ψ "_law_hand") (gCns #v[0,4] gA0))) (gSeq (zso Ψ) (gRet (gC (.bl Zd)))))
theorem ya2 (d:Nat):sem T bn (d+3) "law"=zal [Zc] 11 (z43 (sem T bn (d+2))):=sFq (t:=zop) (by kernel_rfl) λ_ _=>by kernel_rfl
noncomputable def dkT (t:List Nat):DKey:=.inr (t.map λl:Nat=>(Sum.inl (l:Int):Key))
theorem zvx:∀t:List Nat,keysF (t.map λl=>W.int (l:Nat))=Za (t.map λl:Nat=>(Sum.inl (l:Int):Key))
 |[]=>rfl
 | l::t=>by
  show (keysF (t.map λl=>W.int (l:Nat))).bind (λk=>Za ((Sum.inl (l:Int):Key)::k))=_;rw[zvx t];rfl
theorem keyD_t (t:List Nat):keyD (tmW t)=Za (dkT t):=by
 show (keysF (t.map λl=>W.int (l:Nat))).bind (λk=>Za (Sum.inr k:DKey))=_;rw[zvx];rfl
theorem dkT_inj (a b:List Nat)(h:dkT a=dkT b):a=b:=(List.map_inj_right (f:=λl:Nat=>(Sum.inl (l:Int):Key)) (λx y e=>Int.ofNat.inj (Sum.inl.inj e))).mp (Sum.inr.inj h)
theorem z9y (t:List Nat):dkW (dkT t)=tmW t:=by
 show W.tup ((t.map λl:Nat=>(Sum.inl (l:Int):Key)).map zve)=_;rw[Ca];rfl
theorem z0p (D:List (List Nat)):(D.map dkT).map dkW=D.map tmW:=by
 rw[Ca];exact Co λt _=>z9y t
theorem ze5 (t:List Nat)(L:List (List Nat)):zhf (dkT t) (L.map dkT)=Zd:=by
 unfold zhf;rw[List.all_map,Bf];intro x _;rfl
theorem zm7 (a b:List W) (h:a.length+b.length<=1000):oAdd (.tup a) (.tup b)=Za (.tup (a++b),Zc):=by
 have s:(1000:Nat)<=sizeLine:=by decide
 cases a with
 |nil=>rfl
 | cons x c =>
  show (match (if (x::c).length+b.length<=sizeLine then #v[W.tup (x::c++b),6] else Zb) with|some p=>Za p|none=>_)=_;rw[if_pos #v[]]
theorem z1c (a b:List (List Nat)):a.map tmW++b.map tmW=(a++b).map tmW:=Bj.symm
noncomputable def oddT (m:Nat) (ts:List (List Nat)):List (List Nat):=(zab m m).filter λt=>decide (ts.count t%2=1)
theorem nd_m {m:Nat}(h:m<=6):(zab m m).Nodup:=zqa ⟨m,by omega⟩ ⟨m,by omega⟩
theorem zif {m:Nat}(ts:List (List Nat))(h:m<=6):(oddT m ts).Pairwise λa b=>lexI (keyI b) (keyI a)=Zc:=(zfp ⟨m,by omega⟩).sublist List.filter_sublist
theorem zp1 {m:Nat}{ts D:List (List Nat)}(b:m<=6)(a:∀t∈ts,t∈zab m m)(n:D.Nodup)(mem:∀t,t∈D↔t∈ts):(D.filter λt=>decide (ts.count t%2=1)).Perm (oddT m ts):=by
 refine (Ia (n.filter _) ((nd_m b).filter _)).mpr λt=>?_;rw[Cv,Cv,mem];constructor
 ·exact λh=>⟨a t h.1,h.2⟩
 ·intro h;have c:=As h.2;exact⟨List.count_pos_iff.mp #v[],h.2⟩
theorem zv6 {m:Nat}(ts:List (List Nat))(h:m<=6):(oddT m ts).length<=64:=by
 have:=(zbj (m:=m) (most:=m) h h).1;have:=List.length_filter_le (λt=>decide (ts.count t%2=1)) (zab m m);unfold oddT;omega
noncomputable def ob (pre:List (List Nat)) (t:List Nat):W:=.bl (decide (pre.count t%2=1))
theorem zpj (n:Nat):decide ((n+1)%2=1)=!decide (n%2=1):=by
 rcases Hy n with h|h
 ·rw[An #v[],Bc #v[]];rfl
 ·rw[Bc #v[],An h];rfl
theorem zgb (pre:List (List Nat))(t:List Nat):(pre++[t]).count t=pre.count t+1:=by rw[Du,List.count_singleton_self]
theorem zpt (pre:List (List Nat)){t q:List Nat}(h:q≠t):(pre++[t]).count q=pre.count q:=by
 rw[Du,List.count_singleton,if_neg (by simpa using λz=>h z.symm)];rfl
theorem z6j {α:Type}{a b c d:List α}(h:a=b)(h':c=d):a++c=b++d:=by rw[h,h']
theorem z7k {Ψ:Str->Fn}{v0:Option (W×Bool)}{pre D:List (List Nat)}{t:List Nat}(d:D.length<=1000)(b:∀x,x∈D↔x∈pre):∃(a:List (List Nat)),zc9 Ψ [v0,Za (.dct (D.map dkT) (D.map (ob pre)),Zd),#v[tmW t,6]]=Za ([v0,Za (.dct (a.map dkT) (a.map (ob (pre++[t]))),Zd),#v[tmW t,6]],.nx)/\(a=if t∈D then D else D++[t]):=by
 have s:(1000:Nat)<sizeLine:=by decide
 by_cases h:t∈D
 ·have g:=get_y (i:=1) (g:=gVar 2) (g':=gC (.bl Zc)) (en:=[v0,Za (.dct (D.map dkT) (D.map (ob pre)),Zd),Za (tmW t,Zc)]) (u:=tmW t) (w:=ob pre t) rfl rfl rfl (keyD_t t) (by rw [val_map dkT_inj,if_pos h]);have n:gNot (zfa 1 (gVar 2) (gC (.bl Zc))) [v0,some (.dct (D.map dkT) (D.map (ob pre)),true),some (tmW t,false)]=Za ([v0,some (.dct (D.map dkT) (D.map (ob pre)),true),some (tmW t,false)],(.bl (!decide (pre.count t%2=1)),Zc)):=by
   unfold gNot;rw[g];rfl
  have p:=zz4 (i:=1) (k:=gVar 2) n rfl rfl (keyD_t t) (ze5 t D) (by rw[Ad];omega);rw[zoi dkT_inj h,zo2 dkT_inj _ _ h] at p;refine⟨D,?_,by rw[if_pos h]⟩;have e:(D.map λq=>if q=t then W.bl (!decide (pre.count t%2=1)) else ob pre q)=D.map (ob (pre++[t])):=Co λq _=>by
   by_cases z:q=t
   ·subst z;rw[if_pos rfl];unfold ob;rw[zgb,zpj]
   ·rw[if_neg z];unfold ob;rw[zpt pre z]
  rw[e] at p;exact p
 ·have z:pre.count t=0:=List.count_eq_zero.mpr λq=>h ((b t).mpr q);have g:=z7m (i:=1) (g:=gVar 2) (g':=gC (.bl Zc)) (en:=[v0,some (.dct (D.map dkT) (D.map (ob pre)),true),some (tmW t,false)]) (u:=tmW t) rfl rfl rfl (keyD_t t) (by rw [val_map dkT_inj,if_neg h]) (ze5 t D);have n:gNot (zfa 1 (gVar 2) (gC (.bl Zc))) [v0,some (.dct (D.map dkT) (D.map (ob pre)),true),some (tmW t,false)]=Za ([v0,some (.dct (D.map dkT) (D.map (ob pre)),true),some (tmW t,false)],(.bl true,false)):=by
   unfold gNot;rw[g];rfl
  have p:=zz4 (i:=1) (k:=gVar 2) n rfl rfl (keyD_t t) (ze5 t D) (by rw[Ad];omega);rw[zjs dkT_inj h,zjo dkT_inj _ _ h] at p;refine⟨D++[t],?_,by rw[if_neg h]⟩;have e:(D.map (ob pre))++[W.bl Zd]=(D++[t]).map (ob (pre++[t])):=by
   rw[Bj];refine z6j (Co λq c=>?_) ?_
   ·unfold ob;rw[zpt pre (t:=t) (q:=q) λz=>h (z ▸ c)]
   ·show _=[ob (pre ++ [t]) t];unfold ob;rw[zgb,z];rfl
  rw[e,show D.map dkT++[dkT t]=(D++[t]).map dkT by rw[Bj];rfl] at p;exact p
theorem zib {α:Type}{l:List α}{i:Nat}{x:α}(h:l[i]?=Za x):l.take (i+1)=l.take i++[x]:=by rw[Hz,h];rfl
theorem z7w {Ψ:Str->Fn}{X:W}{ts:List (List Nat)} (j:seqW X=Za (ts.map tmW)) (p:ts.length<=1000):∃(D:List (List Nat)) (c:Option (W×Bool)),zda Ψ [Za (X,Zc),Za (.dct [] [],Zd),Zb]=Za ([Za (X,Zc),Za (.dct (D.map dkT) (D.map (ob ts)),Zd),c],.nx)/\D.Nodup/\(∀t,t∈D↔t∈ts)/\D.length<=1000:=by
 have l:za1 (gVar 0) [Za (X,Zc),Za (.dct [] [],Zd),Zb]=Za ([Za (X,Zc),Za (.dct [] [],Zd),Zb],ts.map tmW):=by
  show (seqW X).bind _=_;rw[j];rfl
 unfold zda;obtain ⟨m,h,D,c,rfl,n,mem,len⟩:=zcm (mp:=[]) (T:=.nm 2) (body:=zc9 Ψ) (λi e=>∃(D:List (List Nat)) (c:Option (W×Bool)),e=[Za (X,Zc),Za (.dct (D.map dkT) (D.map (ob (ts.take i))),Zd),c]/\D.Nodup/\(∀t,t∈D↔t∈ts.take i)/\D.length<=i) l ⟨[],Zb,rfl,Fj,λt=>by simp,Ag 0⟩ λi w e d k=>by
  obtain⟨D,c,rfl,n,mem,len⟩:=k;rw[At] at d;cases ht:ts[i]? with
  |none=>rw[ht] at d;exact noSome d
  | some t =>
   rw[ht] at d;obtain rfl:=sI d;have r:i<ts.length:=(Ai.mp ht).1;obtain⟨o,b,e⟩:=z7k (Ψ:=Ψ) (v0:=#v[X,6]) (t:=t) #v[] mem;refine⟨_,_,rfl,.inl b,o,_,by rw[zib ht],?_⟩;rw[zib ht];by_cases z:t∈D
   ·rw [if_pos z] at e
    subst e;refine⟨n,λx=>?_,by omega⟩;rw[mem,Bg,Ao];exact⟨.inl,λq=>q.elim id λq=>q ▸ (mem t).mp z⟩
   ·rw [if_neg z] at e
    subst e;refine⟨Ii.mpr ⟨n,by simp,λa g b f=>?_⟩,λx=>?_,by rw[Ax];show D.length+1<=_;omega⟩
    ·rw [Ao] at f
     exact λq=>z (by rw[<-f,<-q];exact g)
    ·rw[Bg,Bg,mem]
 rw[Ad,Dp] at h mem;rw[Ad] at len;exact⟨D,c,h,n,mem,by omega⟩
theorem z82 {Ψ:Str->Fn}{v0 v2:Option (W×Bool)}{ts D:List (List Nat)}(hl:D.length<=1000):zb3 Ψ [v0,Za (.dct (D.map dkT) (D.map (ob ts)),Zd),v2]=Za ([v0,Za (.dcz (D.map dkT) (D.map (ob ts)),Zc),v2],(.lst ((D.filter λt=>decide (ts.count t%2=1)).map tmW),Zd)):=by
 unfold zb3;refine zjh (cap:=[Zb,Zb,Za 1]) (it:=zo7 1) (en:=[v0,Za (.dct (D.map dkT) (D.map (ob ts)),Zd),v2]) (xs:=[Za (.dcz (D.map dkT) (D.map (ob ts)),Zc)]) (e0:=[v0,Za (.dcz (D.map dkT) (D.map (ob ts)),Zc),v2]) (ts:=D) tmW (λt=>decide (ts.count t%2=1)) tmW ?_ hl rfl rfl rfl (λ_ _=>rfl) λu0 t ht=>?_
 ·rw[<-z0p D];rfl
 ·have ix:oIxD (.dcz (D.map dkT) (D.map (ob ts))) (tmW t)=Za (.bl (decide (ts.count t%2=1)),Zc):=by
   show (keyD (tmW t)).bind _=_;rw[keyD_t];show (valW ((D.map dkT).zip (D.map (ob ts))) (dkT t)).bind _=_;rw[val_map dkT_inj,if_pos ht];rfl
  generalize (W.dcz (D.map dkT) (D.map (ob ts)))=zz at *
  refine⟨#v[tmW t,6],?_,λ_=>⟨#v[tmW t,6],Zc,by simp! []⟩⟩;simp! [ix]
noncomputable def z27 (Φ:Fn):Prop:=∀(m:Nat) (a:List (List Nat)) (X:W),m<=6->a.length<=1000->(∀t∈a,t∈zab m m)->seqW X=Za (a.map tmW)->Φ [X]=Za ([X],(.tup ((oddT m a).map tmW),Zc))
theorem z1x {Ψ:Str->Fn}(hT:znf (Ψ "term_order")):z27 (zal [Zc] 3 (zce Ψ)):=λm ts X hm hl hin hX=>by
 obtain⟨D,v2,l1,nd,mem,len⟩:=z7w (Ψ:=Ψ) hX hl;have c2:=z82 (Ψ:=Ψ) (v0:=#v[X,6]) (v2:=v2) (ts:=ts) len;have so:=z4m (a:=gArg (zb3 Ψ)) hT (zbr c2) (nd.filter _) (zp1 hm hin nd mem) (zif ts hm);have ot:za9 [.lst ((oddT m ts).map tmW)]=#v[((oddT m ts).map tmW),3]:=rfl;unfold zce;refine zdv (en:=[#v[X,6],Za (.dcz (D.map dkT) (D.map (ob ts)),Zc),v2]) rfl (zcv (e1:=[#v[X,6],Za (.dct [] [],Zd),Zb]) rfl (zcv l1 ?_)) rfl;generalize (W.dct (D.map dkT) (D.map (ob ts)))=d1 at *
 generalize (W.dcz (D.map dkT) (D.map (ob ts)))=d2 at *
 simp! [so,ot]
noncomputable def zyk (Φ:Fn):Prop:=∀(m:Nat) (a u:List (List Nat)),m<=6->a.length<=64->u.length<=64->(∀t∈a,t∈zab m m)->(∀t∈u,t∈zab m m)->Φ [.tup (a.map tmW),.tup (u.map tmW)]=Za ([.tup (a.map tmW),.tup (u.map tmW)],(.tup ((oddT m (a++u)).map tmW),Zc))
theorem z5y {Ψ:Str->Fn}(hO:z27 (Ψ "odd_terms")):zyk (zal [Zc,Zc] 2 (zdm Ψ)):=λm ts us hm h1 h2 i1 i2=>by
 have o:=hO m (ts++us) (.tup ((ts++us).map tmW)) hm (by rw[Ax];omega) (λt ht=>(Bg.mp ht).elim (i1 t) (i2 t)) rfl;have a:=zm7 (ts.map tmW) (us.map tmW) (by rw[Ad,Ad];omega);rw[z1c] at a;unfold zdm;simp! [a,o]
noncomputable def uniT (t u:List Nat):List Nat:=letL (zhh t ||| zhh u)
theorem zox:∀p:Fin 64,∀l:Fin 6,(l.val∈letL p.val)↔p.val.testBit l.val=Zd:=by decide +kernel
theorem ztb:∀p:Fin 64,(letL p.val).Pairwise (· < ·):=by decide +kernel
theorem zs9 {p l:Nat}(a:p<64)(h:l∈letL p):l<6:=zwr ⟨p,a⟩ l h
theorem z7e {p q l:Nat}(b:p<64)(c:q<64):l∈letL (p ||| q)↔l∈letL p\/l∈letL q:=by
 have d:p ||| q<64:=Nat.or_lt_two_pow (n:=6) b c;by_cases a:l<6
 ·rw[zox ⟨_,d⟩ ⟨l,a⟩,zox ⟨p,b⟩ ⟨l,a⟩,zox ⟨q,c⟩ ⟨l,a⟩,Nat.testBit_or,Ck]
 ·exact⟨λh=>absurd (zs9 d h) a,λh=>h.elim (λh=>absurd (zs9 b h) a) λh=>absurd (zs9 c h) a⟩
theorem zfi {m:Nat}{t:List Nat}(h:m<=6)(b:t∈zab m m):t=letL (zhh t)/\zhh t<64/\zhh t<2^m:=by
 obtain⟨q,c,e⟩:=z87 h b;have p:=zte h;have:=zpw ⟨q,by omega⟩;have a:zhh t=q:=by rw[e];exact this
 exact⟨by rw[a];exact e,by omega,by omega⟩
theorem let_in {m q:Nat}(a:m<=6)(h:q<2^m):letL q∈zab m m:=by
 have:=List.isPerm_iff.mp (zez ⟨m,by omega⟩);exact this.mem_iff.mp (Bz.mpr ⟨q,Cj.mpr h,rfl⟩)
theorem z6m {m:Nat}{t u:List Nat}(h:m<=6)(a:t∈zab m m)(b:u∈zab m m):uniT t u∈zab m m:=let_in h (Nat.or_lt_two_pow (zfi h a).2.2 (zfi h b).2.2)
theorem zho {m:Nat}{t u:List Nat}(h:m<=6)(b:t∈zab m m)(a:u∈zab m m)(l:Nat):l∈uniT t u↔l∈t\/l∈u:=by
 obtain⟨c,d,_⟩:=zfi h b;obtain⟨e,f,_⟩:=zfi h a;unfold uniT;rw[z7e d f,<-c,<-e]
theorem z2p {m:Nat}{t u:List Nat}(h:m<=6)(a:t∈zab m m)(b:u∈zab m m):(uniT t u).Pairwise (· < ·):=ztb ⟨_,Nat.or_lt_two_pow (n:=6) (zfi h a).2.1 (zfi h b).2.1⟩
theorem zyc (t u:List Nat):uniT t u=uniT u t:=by unfold uniT;rw[Nat.or_comm]
noncomputable def cI (t:List Nat):List Int:=t.map λl:Nat=>(l:Int)
theorem zqi {m:Nat}{t u:List Nat}(f:m<=6)(d:t∈zab m m)(c:u∈zab m m){ns:List Int}(n:ns.Nodup)(mem:∀k,k∈ns↔k∈cI (t++u)):zbt ns=cI (uniT t u):=by
 have g:=z2p f d c;refine zf1 ((Ia ?_ n).mpr λk=>?_) ?_
 ·unfold cI;exact Db.mpr (g.imp λ{a b} z=>by omega)
 ·rw[mem];unfold cI;rw[Bz,Bz];constructor
  ·rintro ⟨l,h,e⟩;exact⟨l,Bg.mpr ((zho f d c l).mp h),e⟩
  ·rintro ⟨l,h,e⟩;exact⟨l,(zho f d c l).mpr (Bg.mp h),e⟩
 ·unfold cI;exact Db.mpr (g.imp λ{a b} z=>by omega)
theorem zs5 (ns:List Int)(k:Int):k∈metI ns↔k∈ns:=by
 have h:=firstMet_any (valI ns) ns.length k;have e:(List.range ns.length).map (valI ns)=ns:=by
  refine Dl λi=>?_;rw[At];by_cases q:i<ns.length
  ·rw[List.getElem?_range q,Af q];show Za (ns.getD i 0)=_;rw[Dz,Af q];rfl
  ·rw[Dn (by rw[Ek];omega),Dn #v[]];rfl
 rw[e] at h;have a:∀l:List Int,l.any (· == k)=Zd↔k∈l:=λl=>by
  rw[Dj];exact⟨λ⟨x,b,q⟩=>(Hw.mp q) ▸ b,λh=>⟨k,h,Hh k⟩⟩
 rw[<-a,<-a ns,<-h];exact Iff.rfl
noncomputable def addA (b:Bool) (L:List Int):SetT.HT:=L.foldl (λp x=>SetT.addT p (hashInt x)) (#[],.fresh 0 0 b)
theorem zf5 (b:Bool) (val:Nat->Int):∀i,ptB b val i=addA b (firstMet val i)
 |0=>rfl
 | i+1=>by
  unfold ptB;rw[firstMet_succ];unfold step_dedup;split
  ·exact zf5 b val i
  ·rw[zf5 b val i];unfold addA;rw[List.foldl_append];rfl
theorem zp8 (ns:List Int):metI ns=ns.foldl step_dedup []:=by
 have go:∀i,i<=ns.length->firstMet (valI ns) i=(ns.take i).foldl step_dedup []:=λi=>by
  induction i with
  |zero=>intro _;rfl
  | succ i a =>
   intro h;have g:ns[i]?=Za (ns.getD i 0):=by rw[Dz,Af #v[]];rfl
   rw[firstMet_succ,a #v[],zib g,List.foldl_append];rfl
 have:=go ns.length (Ag _);rw[Dp] at this;exact this
theorem zi8:∀(c a:List Int),c.Nodup->c.foldl step_dedup a=a++c.filter λx=>decide (x ∉ a)
 |[],a,_=>by simp
 | x::c,a,n=>by
  have b:=Dd.mp n;rw[List.foldl_cons];by_cases h:x∈a
  ·have e:step_dedup a x=a:=by
    unfold step_dedup;rw[if_pos (show (a.any λy=>y==x)=Zd from Dj.mpr ⟨x,h,Hh x⟩)]
   rw[e,zi8 c a b.2,List.filter_cons_of_neg (by simpa using h)]
  ·have e:step_dedup a x=a++[x]:=by
    unfold step_dedup;rw[if_neg λz=>h (by obtain⟨y,d,q⟩:=Dj.mp z;exact (Hw.mp q) ▸ d)]
   rw[e,zi8 c _ b.2,List.filter_cons_of_pos (by simpa using h),Bb];refine congrArg (a++·) (congrArg (x :: ·) (Dt λy d=>?_));have ne:y≠x:=λz=>b.1 (z ▸ d);simp [ne]
theorem zy8:∀p q:Fin 64,((letL q.val).filter λx=>decide (x ∉ letL p.val))=letL (q.val &&& (63 ^^^ p.val)):=by decide +kernel
theorem z3u {p q:Nat} (hp:p<64) (hq:q<64):metI (cI (letL p++letL q))=cI (letL p++letL (q &&& (63 ^^^ p))):=by
 have nd:∀{r:Nat},r<64->(cI (letL r)).Nodup:=λ{r} hr=>Db.mpr ((ztb ⟨r,hr⟩).imp λ{a b} z=>by omega);have ap:∀a b:List Nat,cI (a++b)=cI a++cI b:=λa b=>Bj;rw[zp8,ap,List.foldl_append,zi8 _ [] (nd hp),Hn];have f0:((cI (letL p)).filter λx=>decide (x ∉ ([]:List Int)))=cI (letL p):=List.filter_eq_self.mpr λa _=>by simp
 rw [f0,zi8 _ _ (nd hq),ap];refine congrArg (_++·) ?_;rw [<-zy8 ⟨p,hp⟩ ⟨q,hq⟩];unfold cI;rw [List.filter_map];refine congrArg _ (Dt λx _=>?_);show decide ((x:Int) ∉ (letL p).map λl:Nat=>(l:Int))=decide (x ∉ letL p);have:((x:Int)∈(letL p).map λl:Nat=>(l:Int))↔x∈letL p:=by
  rw [Bz];exact ⟨λ⟨l,h,e⟩=>(show l=x by omega) ▸ h,λh=>⟨x,h,rfl⟩⟩
 simp only [this]
noncomputable def plC (p r:Nat):Bool:=(addA Zd (cI (letL p++letL r))).2.plain&&(addA Zc (cI (letL p++letL r))).2.plain
theorem pc0:∀p:Fin 16,∀r:Fin 64,(0+p.val) &&& r.val=0->plC (0+p.val) r.val=Zd:=by decide +kernel
theorem pc1:∀p:Fin 16,∀r:Fin 64,(16+p.val) &&& r.val=0->plC (16+p.val) r.val=Zd:=by decide +kernel
theorem pc2:∀p:Fin 16,∀r:Fin 64,(32+p.val) &&& r.val=0->plC (32+p.val) r.val=Zd:=by decide +kernel
theorem pc3:∀p:Fin 16,∀r:Fin 64,(48+p.val) &&& r.val=0->plC (48+p.val) r.val=Zd:=by decide +kernel
theorem zxw (c p r:Nat)(h:c<=p/\p<c+16)(b:r<64)(P:∀p:Fin 16,∀r:Fin 64,(c+p.val) &&& r.val=0->plC (c+p.val) r.val=Zd)(a:p &&& r=0):plC p r=Zd:=by
 have:=P ⟨p-c,by omega⟩ ⟨r,b⟩;rw[show c+(p-c)=p by omega] at this;exact this a
theorem pc {p r:Nat}(c:p<64)(a:r<64)(h:p &&& r=0):plC p r=Zd:=by
 by_cases d:p<16
 ·exact zxw 0 p r ⟨by omega,by omega⟩ a pc0 h
 by_cases e:p<32
 ·exact zxw 16 p r ⟨by omega,by omega⟩ a pc1 h
 by_cases b:p<48
 ·exact zxw 32 p r ⟨by omega,by omega⟩ a pc2 h
 ·exact zxw 48 p r ⟨by omega,by omega⟩ a pc3 h
theorem zx2:∀p q:Fin 64,p.val &&& (q.val &&& (63 ^^^ p.val))=0:=by decide +kernel
theorem z8i {p q:Nat}(h:p<64)(a:q<64):plB (cI (letL p++letL q))=Zd:=by
 have c:=pc h (r:=q &&& (63 ^^^ p)) (Nat.lt_of_le_of_lt Nat.and_le_left a) (zx2 ⟨p,h⟩ ⟨q,a⟩);unfold plB;rw[zf5,zf5];have e:firstMet (valI (cI (letL p++letL q))) (cI (letL p++letL q)).length=cI (letL p++letL (q &&& (63 ^^^ p))):=z3u h a;rw[e];exact c
noncomputable def zam (ts us:List (List Nat)):List (List Nat):=ts.flatMap λt=>us.map (uniT t)
theorem znl {m:Nat}{ts us:List (List Nat)}(c:m<=6)(i:∀t∈ts,t∈zab m m)(d:∀t∈us,t∈zab m m):∀t∈zam ts us,t∈zab m m:=λx h=>by
 obtain⟨t,b,h⟩:=List.mem_flatMap.mp h;obtain⟨u,a,rfl⟩:=Bz.mp h;exact z6m c (i t b) (d u a)
theorem zj8 (us:List (List Nat)):∀a:List (List Nat),(zam a us).length=a.length*us.length
 |[]=>by simp [zam]
 | t::a=>by
  have:=zj8 us a;unfold zam at this ⊢;rw[Ds,Ax,Ad,this,Bd,Nat.succ_mul];omega
theorem zmi (x t:List Nat) (ts:List (List Nat)):∀a:List (List Nat),(a.flatMap λu=>(t::ts).map λy=>uniT u y).count x=(a.map λu=>uniT u t).count x+(a.flatMap λu=>ts.map λy=>uniT u y).count x
 |[]=>rfl
 | u::a=>by
  have i:=zmi x t ts a;rw[Ds,Ds,Ak,Ak,Du,Du,List.count_cons,List.count_cons,i];omega
theorem zk5 (x:List Nat) (us:List (List Nat)):∀a:List (List Nat),(zam a us).count x=(zam us a).count x
 | []=>by
  have:zam us []=[]:=by unfold zam;induction us with
   |nil=>rfl
   |cons u us i=>rw[Ds,i];rfl
  rw[this];rfl
 | t::a=>by
  have i:=zk5 x us a;unfold zam at i ⊢;rw[Ds,Du,i,zmi];have:us.map (uniT t)=us.map λu=>uniT u t:=Co λu _=>zyc t u;rw[this]
theorem zmb {m:Nat}{ts us:List (List Nat)}(h:∀x,ts.count x=us.count x):oddT m ts=oddT m us:=Dt λx _=>by rw[h]
theorem z4j {m p:Nat}{t u:List Nat}(d:m<=6)(c:t∈zab m m)(e:u∈zab m m):hasT (uniT t u) p=(hasT t p&&hasT u p):=by
 have a:∀L:List Nat,hasT L p=Zd↔∀l∈L,p/2^l%2=1:=λL=>by
  unfold hasT;rw[Bf];exact⟨λh l b=>As (h l b),λh l b=>An (h l b)⟩
 rw[Eg,Ae,a,a,a];exact⟨λh=>⟨λl b=>h l ((zho d c e l).mpr (.inl b)),λl b=>h l ((zho d c e l).mpr (.inr b))⟩,λh l b=>((zho d c e l).mp b).elim (h.1 l) (h.2 l)⟩
theorem zq9 {m p:Nat}{us:List (List Nat)} (hm:m<=6) (i2:∀t∈us,t∈zab m m):∀{ts:List (List Nat)},(∀t∈ts,t∈zab m m)->((zam ts us).filter λt=>hasT t p).length=(ts.filter λt=>hasT t p).length*(us.filter λt=>hasT t p).length
 |[],_=>by simp [zam]
 | t::ts,i1=>by
  have ih:=zq9 (p:=p) hm i2 (ts:=ts) λx hx=>i1 x (Au _ hx);unfold zam at ih ⊢;rw [Ds,Ib,Ax,ih];have e:((us.map (uniT t)).filter λt=>hasT t p).length=if hasT t p then (us.filter λt=>hasT t p).length else 0:=by
   rw[List.filter_map,Ad];have:(us.filter ((λt=>hasT t p) ∘ uniT t))=us.filter λu=>hasT t p&&hasT u p:=Dt λu hu=>z4j hm (i1 t Az) (i2 u hu);rw[this];cases hasT t p with
   |true=>rfl
   | false =>
    rw[List.filter_eq_nil_iff.mpr λa _=>by simp];rfl
  rw[e];cases h:hasT t p with
  |true=>rw[List.filter_cons_of_pos (by exact h),Bd,Nat.succ_mul,if_pos rfl];omega
  |false=>rw[List.filter_cons_of_neg (by rw[h];decide),if_neg Aq,Ce]
theorem z0h {q c:List Nat->Bool}{x:List Nat}:∀{S:List (List Nat)},S.Nodup->x∈S->(S.filter fun t=>q t && (c t != decide (t=x))).length % 2=((S.filter fun t=>q t && c t).length+if q x then 1 else 0) % 2
 | y::S,n,h=>by
  have a:=Dd.mp n;by_cases e:y=x
  ·subst e
   have r:(S.filter fun t=>q t && (c t != decide (t=y)))=S.filter fun t=>q t && c t:=Dt fun t b=>by
    rw[Bc (show ¬ t=y from λz=>a.1 (z ▸ b))];simp
   rw[Di,Di,r,An rfl];cases hq:q y<;>cases hc:c y<;>simp<;>omega
  ·have d : x ∈ S := (Ar.mp h).resolve_left fun z => e z.symm
   have i:=z0h (q:=q) (c:=c) a.2 d;rw[Di,Di,Bc e];cases hq:q y<;>cases hc:c y<;>simp<;>omega
theorem zwc {m:Nat} (b:m<=6) (q:List Nat->Bool):∀{L:List (List Nat)},(∀t∈L,t∈zab m m)->((oddT m L).filter q).length%2=(L.filter q).length%2
 | [],_=>by
  have:oddT m []=[]:=List.filter_eq_nil_iff.mpr λa _=>by simp
  rw[this]
 | x::L,h=>by
  have i:=zwc b q (L:=L) λt d=>h t (Au _ d);have n:=nd_m b;have f:=z0h (q:=q) (c:=λt=>decide (L.count t%2=1)) n (h x Az);have g:∀M,(oddT m M).filter q=(zab m m).filter λt=>q t&&decide (M.count t%2=1):=λM=>by
   unfold oddT;rw[List.filter_filter]
  rw [g] at i ⊢;have e:((zab m m).filter λt=>q t&&decide ((x::L).count t%2=1))=(zab m m).filter λt=>q t&&(decide (L.count t%2=1)!=decide (t=x)):=Dt λt _=>by
   by_cases z:t=x
   ·subst z
    rw[List.count_cons_self,zpj,An rfl];simp
   ·rw[List.count_cons,if_neg (by simpa using λw=>z w.symm),Bc z];simp
  rw[e,f,Di];cases hq:q x with
  |true=>rw[if_pos rfl,if_pos rfl,Bd];omega
  |false=>rw[if_neg Aq,if_neg Aq];omega
theorem zy7 {m p:Nat}{ts us:List (List Nat)}(h:m<=6)(c:∀t∈ts,t∈zab m m)(i:∀t∈us,t∈zab m m):valF (oddT m (zam ts us)) p=valF ts p*valF us p:=by
 unfold valF;have:=zwc h (λt=>hasT t p) (znl h c i);rw[this,zq9 h i c,Nat.mul_mod];have a:=Hy (ts.filter λt=>hasT t p).length;have b:=Hy (us.filter λt=>hasT t p).length;rcases a with a|a<;>rcases b with b|b<;>rw[a,b]<;>rfl
theorem zgf {α:Type}{mp:List Nat}{T:Tg}{em:GL} (f:α->W) (g:α->List W) (P:En->Prop):∀(d:List α) (b:En),P b->(∀t∈d,∀c,P c->∃j i,tgSet mp T (f t) c=Za j/\em j=Za (i,g t)/\P i)->∃a,P a/\zcj mp T gYes em (d.map f) b=Za (a,d.flatMap g)
 |[],b,p,_=>⟨b,p,rfl⟩
 | t::d,b,p,h=>by
  obtain⟨j,i,m,o,l⟩:=h t Az b p;obtain⟨a,k,e⟩:=zgf f g P d i l λx n=>h x (Au _ n);refine⟨a,k,?_⟩;show (tgSet mp T (f t) b).bind _=_;rw[m];show (em j).bind _=_;rw[o];show (zcj mp T gYes em (d.map f) i).bind _=_;rw[e];rfl
theorem z1h {α β:Type}(f:α->β):∀a:List α,a.flatMap (λu=>[f u])=a.map f
 |[]=>rfl
 |u::a=>by rw[Ds,z1h f a];rfl
theorem zux (t:List Nat):tmW t=.tup ((cI t).map W.int):=by unfold tmW cI;rw[Ca];rfl
theorem z0s {m:Nat}{t u:List Nat}(h:m<=6)(b:t∈zab m m)(a:u∈zab m m):oAdd (tmW t) (tmW u)=#v[((cI (t++u)).map W.int),3]:=by
 have d:=((zbj (m:=m) (most:=m) h h).2 t b).1;have c:=((zbj (m:=m) (most:=m) h h).2 u a).1;have:=zm7 ((cI t).map W.int) ((cI u).map W.int) (by unfold cI;rw[Ad,Ad,Ad,Ad];omega);rw[zux,zux,this,<-Bj];unfold cI;rw[<-Bj]
theorem zwg {m:Nat}{t u:List Nat}(h:m<=6)(b:t∈zab m m)(a:u∈zab m m):(cI (t++u)).length<=12:=by
 have d:=((zbj (m:=m) (most:=m) h h).2 t b).1;have c:=((zbj (m:=m) (most:=m) h h).2 u a).1;unfold cI;rw[Ad,Ax];omega
theorem z4b {m:Nat}{t u:List Nat}{v0 v3:Option (W×Bool)}(hm:m<=6)(ht:t∈zab m m)(hu:u∈zab m m):gOpN za9 (gCns (gArg (gSS (gCns (gArg (gOp2 oAdd (zaa 1) (zaa 2))) gA0))) gA0) [v0,#v[tmW t,6],#v[tmW u,6],v3]=Za ([v0,#v[tmW t,6],#v[tmW u,6],v3],(tmW (uniT t u),Zc)):=by
 have a:=z0s hm ht hu;have al:=zwg hm ht hu;obtain⟨e1,h1,_⟩:=zfi hm ht;obtain⟨e2,h2,_⟩:=zfi hm hu;have pl:plB (cI (t++u))=Zd:=by
  have:=z8i h1 h2;rw[<-e1,<-e2] at this;exact this
 have ss:=yal (as:=gCns (gArg (gOp2 oAdd (zaa 1) (zaa 2))) gA0) (en:=[v0,#v[tmW t,6],#v[tmW u,6],v3]) (e1:=[v0,#v[tmW t,6],#v[tmW u,6],v3]) (xs:=[.inl (.tup ((cI (t++u)).map W.int))]) (ns:=cI (t++u)) (by simp! [a]) rfl #v[] pl;rw[zqi (ns:=metI (cI (t++u))) hm ht hu (zc2 _ _) (zs5 _)] at ss;have ot:za9 [.lst ((cI (uniT t u)).map W.int)]=#v[tmW (uniT t u),6]:=by rw[zux];rfl
 simp! [ss,ot]
theorem z94 {Ψ:Str->Fn}{m:Nat}{ts us:List (List Nat)}(g:m<=6)(l:ts.length<=20)(p:us.length<=20)(k:∀t∈ts,t∈zab m m)(o:∀t∈us,t∈zab m m):zbo Ψ [#v[(ts.map tmW),3],#v[(us.map tmW),3]]=Za ([#v[(ts.map tmW),3],#v[(us.map tmW),3]],(.lst ((zam ts us).map tmW),Zd)):=by
 have s:(1000:Nat)<=sizeLine:=by decide
 have d:∃a,(∃v0 b v2,a=[v0,b,v2,#v[(us.map tmW),3]])/\zcj (capKeep [Zb,Zb,Zb,Za 1]) (.nm 1) gYes (gTwo (capKeep [Zb,Zb,Zb,Za 1]) (.nm 2) (za1 (gVar 3)) gYes (gOne (gOpN za9 (gCns (gArg (gSS (gCns (gArg (gOp2 oAdd (zaa 1) (zaa 2))) gA0))) gA0)))) (ts.map tmW) [Zb,Zb,Zb,#v[(us.map tmW),3]]=Za (a,ts.flatMap λt=>us.map λu=>tmW (uniT t u)):=by
  refine zgf tmW _ (λc=>∃v0 b v2,c=[v0,b,v2,#v[(us.map tmW),3]]) ts _ ⟨_,_,_,rfl⟩ λt n c h=>?_;obtain⟨v0,b,v2,rfl⟩:=h;obtain⟨q,⟨w,rfl⟩,e⟩:=zgf (mp:=capKeep [Zb,Zb,Zb,Za 1]) (T:=.nm 2) (em:=gOne (gOpN za9 (gCns (gArg (gSS (gCns (gArg (gOp2 oAdd (zaa 1) (zaa 2))) gA0))) gA0))) tmW (λu=>[tmW (uniT t u)]) (λc=>∃v2,c=[v0,#v[tmW t,6],v2,#v[(us.map tmW),3]]) us [v0,#v[tmW t,6],v2,#v[(us.map tmW),3]] ⟨_,rfl⟩ λu i c h=>by
   obtain⟨v2,rfl⟩:=h;refine⟨[v0,#v[tmW t,6],#v[tmW u,6],#v[(us.map tmW),3]],[v0,#v[tmW t,6],#v[tmW u,6],#v[(us.map tmW),3]],rfl,?_,_,rfl⟩;unfold gOne;rw[z4b g (k t n) (o u i)];rfl
  rw[z1h] at e;refine⟨[v0,#v[tmW t,6],v2,#v[(us.map tmW),3]],[v0,#v[tmW t,6],w,#v[(us.map tmW),3]],rfl,?_,_,_,_,rfl⟩;show zcj (capKeep [Zb,Zb,Zb,Za 1]) (.nm 2) gYes _ (us.map tmW) [v0,#v[tmW t,6],v2,#v[(us.map tmW),3]]=_;exact e
 obtain⟨a,⟨v0,b,v2,rfl⟩,d⟩:=d;have j:(ts.flatMap λt=>us.map λu=>tmW (uniT t u))=(zam ts us).map tmW:=by
  unfold zam;rw[List.map_flatMap];exact congrArg (λf=>ts.flatMap f) (funext λt=>by rw[Ca];rfl)
 rw[j] at d;unfold zbo zsm zq6;show (zcj (capKeep [Zb,Zb,Zb,Za 1]) (.nm 1) gYes _ (ts.map tmW) [Zb,Zb,Zb,#v[(us.map tmW),3]]).bind _=_;rw[d];show (if ((zam ts us).map tmW).length<=sizeLine then _ else Zb)=_;rw[if_pos (by
  rw[Ad,zj8];have:=Nat.mul_le_mul l p;omega)]
 rfl
noncomputable def zfk (Φ:Fn):Prop:=∀(m:Nat) (a u:List (List Nat)),m<=6->a.length<=20->u.length<=20->(∀t∈a,t∈zab m m)->(∀t∈u,t∈zab m m)->Φ [.tup (a.map tmW),.tup (u.map tmW)]=Za ([.tup (a.map tmW),.tup (u.map tmW)],(.tup ((oddT m (zam a u)).map tmW),Zc))
theorem znm {ts us:List (List Nat)}(h:ts.length<=20)(a:us.length<=20):(zam ts us).length<=400:=by
 rw[zj8];exact Nat.mul_le_mul h a
theorem z3b {Ψ:Str->Fn}(hO:z27 (Ψ "odd_terms")):zfk (zal [Zc,Zc] 2 (zbf Ψ)):=λm ts us hm h1 h2 i1 i2=>by
 have c1:=z94 (Ψ:=Ψ) hm h1 h2 i1 i2;have o:=hO m (zam ts us) (.lst ((zam ts us).map tmW)) hm (by have:=znm h1 h2;omega) (znl hm i1 i2) rfl;unfold zbf;simp! [c1,o]
theorem z3a {te:GE}{a:GA}{en e1:En}{x:W ⊕ Nat}{ts us:List (List Nat)}(c:∀t:List Nat,lamΦ te (tmW t)=Za (ze8 t))(h:a en=Za (e1,x))(d:resA e1 x=Za (.lst (ts.map tmW)))(n:ts.Nodup)(p:ts.Perm us)(s:us.Pairwise λa b=>lexI (keyI b) (keyI a)=Zc):zha te a en=Za (e1,(.lst (us.map tmW),Zd)):=by
 have mk:mapO (lamΦ te) (ts.map tmW)=Za (ts.map ze8):=zf8 c ts;unfold zha;rw[h];show (resA e1 x).bind _=_;rw[d];show (mapO (lamΦ te) (ts.map tmW)).bind _=_;rw[mk];show (zkk (ts.map ze8) (ts.map tmW)).bind _=_;rw[zic n p s];rfl
theorem z5j (t:List Nat):lamΦ (zd5 (gCns (gArg (gOpN oLen (gCns (zaa 0) gA0))) (gCns #v[0,4] gA0))) (tmW t)=Za (ze8 t):=by
 show Za (W.tup [W.int ((t.map λl=>W.int (l:Nat)).length:Nat),tmW t])=_;rw[Ad];rfl
noncomputable def zt3 (Φ:Fn):Prop:=∀t u:List (List Nat),t.Nodup->t.Perm u->(u.Pairwise λa b=>lexI (keyI b) (keyI a)=Zc)->Φ [.lst (t.map tmW)]=Za ([.lst (t.map tmW)],(.tup (u.map tmW),Zc))
theorem z0t (Ψ:Str->Fn):zt3 (zal [Zc] 1 (za7 Ψ)):=λts us nd p s=>by
 have so:=z3a (x:=.inl (.lst (ts.map tmW))) (a:=zaa 0) (en:=[#v[(ts.map tmW),1]]) (e1:=[#v[(ts.map tmW),1]]) z5j rfl rfl nd p s;have ot:za9 [.lst (us.map tmW)]=#v[(us.map tmW),3]:=rfl;unfold za7;simp! [so,ot]
theorem zvg:∀a:List Int,zgv (a.map λn=>W.tup [.int n,.bl Zd])=Za (a.map λn=>((Sum.inl n:Key),W.bl Zd))
 |[]=>rfl
 | n::a=>by
  show (zgv (a.map λn=>W.tup [.int n,.bl Zd])).bind (λp=>Za (((Sum.inl n:Key),W.bl Zd)::p))=_;rw[zvg a];rfl
theorem z05:∀a L:List Int,updW (a.map λn=>((Sum.inl n:Key),W.bl Zd)) (L.map dkI) (L.map λ_=>.bl Zd)=((a.foldl step_dedup L).map dkI,(a.foldl step_dedup L).map λ_=>.bl Zd)
 |[],L=>rfl
 | n::a,L=>by
  show updW (a.map λn=>((Sum.inl n:Key),W.bl Zd)) (zcx (L.map dkI) (dkI n)) (zc4 (L.map dkI) (L.map λ_=>.bl Zd) (dkI n) (.bl Zd))=_;rw[List.foldl_cons,<-z05 a (step_dedup L n)];by_cases h:n∈L
  ·have e:step_dedup L n=L:=by
    unfold step_dedup;rw[if_pos (show (L.any λy=>y==n)=Zd from Dj.mpr ⟨n,h,Hh n⟩)]
   rw[e,zoi zj2 h,zo2 zj2 (λ_=>W.bl Zd) _ h];refine congrArg (updW _ _) (Co λq _=>?_);split<;>rfl
  ·have e:step_dedup L n=L++[n]:=by
    unfold step_dedup;rw[if_neg λz=>h (by obtain⟨y,b,q⟩:=Dj.mp z;exact (Hw.mp q) ▸ b)]
   rw[e,zjs zj2 h,zjo zj2 _ _ h,Bj,Bj];rfl
theorem z5f {g:GE}{en e1:En}{us:List W}{f:Bool}{ps:List (Key×W)}(h:g en=Za (e1,(.lst us,f)))(b:zgv us=Za ps)(a:ps.length<=sizeLine):zg1 g en=Za (e1,(.dct (updW ps [] []).1 (updW ps [] []).2,Zd)):=by
 unfold zg1;rw[h];show (zgv us).bind _=_;rw[b];show (if ps.length<=sizeLine then _ else Zb)=_;rw[if_pos a]
theorem z2a {Ψ:Str->Fn}{m:Nat}{t u:List Nat}{v0 v1 v2 v5:Option (W×Bool)} (hm:m<=6) (ht:t∈zab m m) (hu:u∈zab m m):gOpN za9 (gCns (gArg (gOpN zdz (gCns (gArg (gOpN zgi (gCns (gArg (zg1 (zat Ψ))) gA0))) gA0))) gA0) [v0,v1,v2,some (tmW t,false),some (tmW u,false),v5]=Za ([v0,v1,v2,some (tmW t,false),some (tmW u,false),v5],(tmW (uniT t u),Zc)):=by
 have s9:(1000:Nat)<=sizeLine:=by decide
 have a:=z0s hm ht hu;have al:=zwg hm ht hu;have c1:zat Ψ [v0,v1,v2,some (tmW t,false),some (tmW u,false),v5]=Za ([v0,v1,v2,some (tmW t,false),some (tmW u,false),v5],(.lst ((cI (t++u)).map λn=>W.tup [.int n,.bl Zd]),Zd)):=by
  unfold zat;refine z0r (cap:=[Zb,Zb]) (xs:=[]) (e0:=[v0,v1,v2,#v[tmW t,6],#v[tmW u,6],v5]) (ws:=(cI (t++u)).map W.int) (by simp! [a]) (by rw[Ad];omega) (by rw[Ad,Ad]) rfl rfl rfl (λ_ _=>rfl) λi u0 w r hw hr=>?_;rw[At] at hw hr;cases hn:(cI (t++u))[i]? with
  |none=>rw[hn] at hw;exact noSome hw
  | some n =>
   rw[hn] at hw hr;obtain rfl:=sI hw;obtain rfl:=sI hr;exact⟨#v[n,0],Zc,by simp! []⟩
 have d:=z5f c1 (zvg _) (by rw [Ad];omega);have e:=z05 (cI (t++u)) [];rw [Fy,Fy,<-zp8] at e;rw [e] at d;have ol:zgi [.dct ((metI (cI (t++u))).map dkI) ((metI (cI (t++u))).map λ_=>.bl Zd)]=Za (.lst ((metI (cI (t++u))).map W.int),Zd):=by
  show (zmz ((metI (cI (t++u))).map dkI)).bind _=_;rw[zt4];rfl
 have os:zdz [.lst ((metI (cI (t++u))).map W.int)]=Za (.lst ((cI (uniT t u)).map W.int),Zd):=by
  show (zct ((metI (cI (t++u))).map W.int)).bind _=_;rw[ze2];show Za (W.lst ((zbt (metI (cI (t++u)))).map W.int),Zd)=_;rw[zqi (ns:=metI (cI (t++u))) hm ht hu (zc2 _ _) (zs5 _)]
 have ot:za9 [.lst ((cI (uniT t u)).map W.int)]=#v[tmW (uniT t u),6]:=by rw[zux];rfl
 generalize W.dct ((metI (cI (t++u))).map dkI) ((metI (cI (t++u))).map λ_=>.bl Zd)=dd at *
 simp! [d,ol,os,ot]
noncomputable def oc (pre:List (List Nat)) (t:List Nat):W:=.int (pre.count t:Nat)
theorem z92 {Ψ:Str->Fn}{m:Nat}{v0 v1 v5:Option (W×Bool)}{pre D:List (List Nat)}{t u:List Nat}(f:m<=6)(d:t∈zab m m)(c:u∈zab m m)(r:D.length<=1000)(j:∀x,x∈D↔x∈pre):∃(a:List (List Nat)),za6 Ψ [v0,v1,Za (.dct (D.map dkT) (D.map (oc pre)),Zd),#v[tmW t,6],#v[tmW u,6],v5]=Za ([v0,v1,Za (.dct (a.map dkT) (a.map (oc (pre++[uniT t u]))),Zd),#v[tmW t,6],#v[tmW u,6],#v[tmW (uniT t u),6]],.nx)/\(a=if uniT t u∈D then D else D++[uniT t u]):=by
 have s:(1000:Nat)<sizeLine:=by decide
 have l:=z2a (Ψ:=Ψ) (v0:=v0) (v1:=v1) (v2:=Za (.dct (D.map dkT) (D.map (oc pre)),Zd)) (v5:=v5) f d c;have b:gSet [] 5 (gOpN za9 (gCns (gArg (gOpN zdz (gCns (gArg (gOpN zgi (gCns (gArg (zg1 (zat Ψ))) gA0))) gA0))) gA0)) [v0,v1,Za (.dct (D.map dkT) (D.map (oc pre)),Zd),#v[tmW t,6],#v[tmW u,6],v5]=Za ([v0,v1,Za (.dct (D.map dkT) (D.map (oc pre)),Zd),#v[tmW t,6],#v[tmW u,6],#v[tmW (uniT t u),6]],.nx):=set_0 l rfl;generalize uniT t u=x at *
 unfold za6;by_cases h:x∈D
 ·have g:=get_y (i:=2) (g:=gVar 5) (g':=gC (.int 0)) (en:=[v0,v1,Za (.dct (D.map dkT) (D.map (oc pre)),Zd),Za (tmW t,Zc),Za (tmW u,Zc),Za (tmW x,Zc)]) (u:=tmW x) (w:=oc pre x) rfl rfl rfl (keyD_t x) (by rw [val_map dkT_inj,if_pos h]);have n:gOp2 oAdd (gArg (zfa 2 (gVar 5) (gC (.int 0)))) (gArg (gC (.int 1))) [v0,v1,some (.dct (D.map dkT) (D.map (oc pre)),true),some (tmW t,false),some (tmW u,false),some (tmW x,false)]=Za ([v0,v1,some (.dct (D.map dkT) (D.map (oc pre)),true),some (tmW t,false),some (tmW u,false),some (tmW x,false)],(.int ((pre.count x:Nat)+1),Zc)):=op2_0 (arg_0 g) rfl rfl rfl rfl;have p:=zz4 (i:=2) (k:=gVar 5) n rfl rfl (keyD_t x) (ze5 x D) (by rw [Ad];omega);rw [zoi dkT_inj h,zo2 dkT_inj _ _ h] at p;have e:(D.map λq=>if q=x then W.int ((pre.count x:Nat)+1) else oc pre q)=D.map (oc (pre++[x])):=Co λq _=>by
   by_cases z:q=x
   ·subst z;rw[if_pos rfl];unfold oc;rw[zgb];rfl
   ·rw[if_neg z];unfold oc;rw[zpt pre z]
  rw[e] at p;exact⟨D,zcv b p,by rw[if_pos h]⟩
 ·have z:pre.count x=0:=List.count_eq_zero.mpr λq=>h ((j x).mpr q);have g:=z7m (i:=2) (g:=gVar 5) (g':=gC (.int 0)) (en:=[v0,v1,some (.dct (D.map dkT) (D.map (oc pre)),true),some (tmW t,false),some (tmW u,false),some (tmW x,false)]) (u:=tmW x) rfl rfl rfl (keyD_t x) (by rw [val_map dkT_inj,if_neg h]) (ze5 x D);have n:gOp2 oAdd (gArg (zfa 2 (gVar 5) (gC (.int 0)))) (gArg (gC (.int 1))) [v0,v1,some (.dct (D.map dkT) (D.map (oc pre)),true),some (tmW t,false),some (tmW u,false),some (tmW x,false)]=Za ([v0,v1,some (.dct (D.map dkT) (D.map (oc pre)),true),some (tmW t,false),some (tmW u,false),some (tmW x,false)],(.int 1,Zc)):=op2_0 (arg_0 g) rfl rfl rfl rfl;have p:=zz4 (i:=2) (k:=gVar 5) n rfl rfl (keyD_t x) (ze5 x D) (by rw [Ad];omega);rw [zjs dkT_inj h,zjo dkT_inj _ _ h] at p;have e:(D.map (oc pre))++[W.int 1]=(D++[x]).map (oc (pre++[x])):=by
   rw[Bj];refine z6j (Co λq o=>?_) ?_
   ·unfold oc;rw[zpt pre (t:=x) (q:=q) λz=>h (z ▸ o)]
   ·show _=[oc (pre ++ [x]) x];unfold oc;rw[zgb,z];rfl
  rw[e,show D.map dkT++[dkT x]=(D++[x]).map dkT by rw[Bj];rfl] at p;exact⟨D++[x],zcv b p,by rw[if_neg h]⟩
structure KeysOf (D pre:List (List Nat)):Prop where
 nd:D.Nodup
 mem:∀t,t∈D↔t∈pre
 len:D.length<=pre.length
theorem KeysOf.next {D c pre:List (List Nat)}{x:List Nat}(k:KeysOf D pre)(e:c=if x∈D then D else D++[x]):KeysOf c (pre++[x]):=by
 by_cases z:x∈D
 ·rw[if_pos z] at e;subst e;refine⟨k.nd,λy=>?_,by rw[Ax];have:=k.len;omega⟩;rw[k.mem,Bg,Ao];exact⟨.inl,λq=>q.elim id λq=>q ▸ (k.mem x).mp z⟩
 ·rw[if_neg z] at e;subst e;refine⟨Ii.mpr ⟨k.nd,by simp,λa d b h=>?_⟩,λy=>?_,by rw[Ax,Ax];have:=k.len;exact Nat.add_le_add_right this 1⟩
  ·rw[Ao] at h;exact λq=>z (by rw[<-h,<-q];exact d)
  ·rw[Bg,Bg,k.mem]
theorem yas {Ψ:Str->Fn}{m:Nat}{v0 v4 v5:Option (W×Bool)}{pre D us:List (List Nat)}{t:List Nat} (l:m<=6) (r:t∈zab m m) (s:∀t∈us,t∈zab m m) (z:us.length<=20) (k:KeysOf D pre) (x:pre.length<=400):∃(a:List (List Nat)) (f c:Option (W×Bool)),zbs Ψ [v0,some (.tup (us.map tmW),false),some (.dct (D.map dkT) (D.map (oc pre)),true),some (tmW t,false),v4,v5]=Za ([v0,Za (.tup (us.map tmW),Zc),Za (.dct (a.map dkT) (a.map (oc (pre++us.map (uniT t)))),Zd),Za (tmW t,Zc),f,c],.nx)/\KeysOf a (pre++us.map (uniT t)):=by
 unfold zbs;obtain ⟨p,h,a,f,c,rfl,d⟩:=zcm (mp:=[]) (T:=.nm 4) (it:=za1 (gVar 1)) (body:=za6 Ψ) (λi e=>∃(a:List (List Nat)) (f c:Option (W×Bool)),e=[v0,Za (.tup (us.map tmW),Zc),Za (.dct (a.map dkT) (a.map (oc (pre++(us.take i).map (uniT t)))),Zd),Za (tmW t,Zc),f,c]/\KeysOf a (pre++(us.take i).map (uniT t))) (en:=[v0,some (.tup (us.map tmW),false),some (.dct (D.map dkT) (D.map (oc pre)),true),some (tmW t,false),v4,v5]) (e0:=[v0,some (.tup (us.map tmW),false),some (.dct (D.map dkT) (D.map (oc pre)),true),some (tmW t,false),v4,v5]) (ws:=us.map tmW) rfl ⟨D,v4,v5,by rw [Et,Fy,Bv],by rw [Et,Fy,Bv];exact k⟩ λi w e g j=>by
  obtain⟨a,f,c,rfl,d⟩:=j;rw[At] at g;cases hu:us[i]? with
  |none=>rw[hu] at g;exact noSome g
  | some u =>
   rw[hu] at g;obtain rfl:=sI g;have y:i<us.length:=(Ai.mp hu).1;have q:=d.len;rw[Ax,Ad,Cm] at q;obtain⟨o,b,n⟩:=z92 (Ψ:=Ψ) (v0:=v0) (v1:=#v[(us.map tmW),3]) (v5:=c) l r (s u (Dg hu)) #v[] d.mem;have en:pre++(us.take (i+1)).map (uniT t)=(pre++(us.take i).map (uniT t))++[uniT t u]:=by rw[zib hu,Bj,Bb];rfl
   refine⟨_,_,rfl,.inl b,o,_,_,by rw[en],?_⟩;rw[en];exact d.next n
 rw[Ad,Dp] at h d;exact⟨a,f,c,h,d⟩
theorem zlo {ts us:List (List Nat)}{i:Nat}{t:List Nat}(h:ts[i]?=Za t):zam (ts.take (i+1)) us=zam (ts.take i) us++us.map (uniT t):=by
 unfold zam;rw[zib h,List.flatMap_append,Ds,List.flatMap_nil,Bv]
theorem z9t {Ψ:Str->Fn}{m:Nat}{ts us:List (List Nat)} (o:m<=6) (z:ts.length<=20) (l:us.length<=20) (s:∀t∈ts,t∈zab m m) (u:∀t∈us,t∈zab m m):∃(D:List (List Nat)) (f c a:Option (W×Bool)),zbq Ψ [some (.tup (ts.map tmW),false),some (.tup (us.map tmW),false),some (.dct [] [],true),none,none,none]=Za ([Za (.tup (ts.map tmW),Zc),Za (.tup (us.map tmW),Zc),Za (.dct (D.map dkT) (D.map (oc (zam ts us))),Zd),f,c,a],.nx)/\KeysOf D (zam ts us):=by
 unfold zbq;obtain ⟨q,h,d,f,c,a,rfl,k⟩:=zcm (mp:=[]) (T:=.nm 3) (it:=za1 (gVar 0)) (body:=zde Ψ) (λi e=>∃(d:List (List Nat)) (f c a:Option (W×Bool)),e=[Za (.tup (ts.map tmW),Zc),Za (.tup (us.map tmW),Zc),Za (.dct (d.map dkT) (d.map (oc (zam (ts.take i) us))),Zd),f,c,a]/\KeysOf d (zam (ts.take i) us)) (en:=[some (.tup (ts.map tmW),false),some (.tup (us.map tmW),false),some (.dct [] [],true),none,none,none]) (e0:=[some (.tup (ts.map tmW),false),some (.tup (us.map tmW),false),some (.dct [] [],true),none,none,none]) (ws:=ts.map tmW) rfl ⟨[],Zb,Zb,Zb,rfl,⟨Fj,λt=>by simp [zam],Bi _⟩⟩ λi w e g j=>by
  obtain⟨d,f,c,a,rfl,k⟩:=j;rw[At] at g;cases ht:ts[i]? with
  |none=>rw[ht] at g;exact noSome g
  | some t =>
   rw[ht] at g;obtain rfl:=sI g;have y:i<ts.length:=(Ai.mp ht).1;have r:=znm (ts:=ts.take i) (us:=us) (by rw[Cm];omega) l;obtain⟨p,x,A,b,n⟩:=yas (Ψ:=Ψ) (v0:=#v[(ts.map tmW),3]) (v4:=c) (v5:=a) o (s t (Dg ht)) u l k r;refine⟨_,_,rfl,.inl b,p,_,_,_,by rw[zlo ht],?_⟩;rw[zlo ht];exact n
 rw[Ad,Dp] at h k;exact⟨d,f,c,a,h,k⟩
theorem yao {Ψ:Str->Fn}{v0 v1 v3 v4 v5:Option (W×Bool)}{ts D:List (List Nat)}(hl:D.length<=1000):zbv Ψ [v0,v1,Za (.dct (D.map dkT) (D.map (oc ts)),Zd),v3,v4,v5]=Za ([v0,v1,Za (.dcz (D.map dkT) (D.map (oc ts)),Zc),v3,v4,v5],(.lst ((D.filter λt=>decide (ts.count t%2=1)).map tmW),Zd)):=by
 unfold zbv;refine zjh (cap:=[Zb,Zb,Za 2]) (it:=zo7 2) (en:=[v0,v1,Za (.dct (D.map dkT) (D.map (oc ts)),Zd),v3,v4,v5]) (xs:=[Za (.dcz (D.map dkT) (D.map (oc ts)),Zc)]) (e0:=[v0,v1,Za (.dcz (D.map dkT) (D.map (oc ts)),Zc),v3,v4,v5]) (ts:=D) tmW (λt=>decide (ts.count t%2=1)) tmW ?_ hl rfl rfl rfl (λ_ _=>rfl) λu0 t ht=>?_
 ·rw[<-z0p D];rfl
 ·have ix:oIxD (.dcz (D.map dkT) (D.map (oc ts))) (tmW t)=Za (.int (ts.count t:Nat),Zc):=by
   show (keyD (tmW t)).bind _=_;rw[keyD_t];show (valW ((D.map dkT).zip (D.map (oc ts))) (dkT t)).bind _=_;rw[val_map dkT_inj,if_pos ht];rfl
  have e:decide (((ts.count t:Nat):Int)%2=1)=decide (ts.count t%2=1):=decide_eq_decide.mpr ⟨λh=>by omega,λh=>by omega⟩;generalize (W.dcz (D.map dkT) (D.map (oc ts)))=zz at *
  refine⟨#v[tmW t,6],?_,λ_=>⟨#v[tmW t,6],Zc,by simp! []⟩⟩;simp! [ix,e]
theorem zx8 {Ψ:Str->Fn}(hI:zt3 (Ψ "_law_in_order")):zfk (zal [Zc,Zc] 6 (zbe Ψ)):=λm ts us hm h1 h2 i1 i2=>by
 obtain⟨D,w3,w4,w5,l3,k⟩:=z9t (Ψ:=Ψ) hm h1 h2 i1 i2;have pl:=znm h1 h2;have kl:=k.len;have c4:=yao (Ψ:=Ψ) (v0:=#v[(ts.map tmW),3]) (v1:=#v[(us.map tmW),3]) (v3:=w3) (v4:=w4) (v5:=w5) (ts:=zam ts us) (D:=D) #v[];have io:=hI _ _ (k.nd.filter _) (zp1 hm (znl hm i1 i2) k.nd k.mem) (zif (zam ts us) hm);unfold zbe;refine zdv (en:=[#v[(ts.map tmW),3],#v[(us.map tmW),3],Za (.dcz (D.map dkT) (D.map (oc (zam ts us))),Zc),w3,w4,w5]) rfl (zcv (e1:=[#v[(ts.map tmW),3],#v[(us.map tmW),3],Za (.dct [] [],Zd),Zb,Zb,Zb]) rfl (zcv l3 ?_)) rfl;generalize (W.dct (D.map dkT) (D.map (oc (zam ts us))))=d1 at *
 generalize (W.dcz (D.map dkT) (D.map (oc (zam ts us))))=d2 at *
 simp! [c4,io]
noncomputable def zp4 (Φ:Fn):Prop:=∀a:List (List Nat),a.length<=64->(∀t∈a,t.length<=64)->Φ [.tup (a.map tmW),.tup (a.map tmW)]=Za ([.tup (a.map tmW),.tup (a.map tmW)],(.bl true,false))
theorem z36 (t:List Nat):tmW t=.tup ((t.map λl:Nat=>(l:Int)).map W.int):=by unfold tmW;rw[Ca];rfl
theorem z3x {Ψ:Str->Fn}(hS:z8u (Ψ "_law_same")):zp4 (zal [Zc,Zc] 2 (zch Ψ)):=λts hz hl=>by
 have s9:(1000:Nat)<=sizeLine:=by decide
 have lz:(zipW (ts.map tmW) (ts.map tmW)).length=ts.length:=by rw[zb5,Ad,Ew]
 have c1:zc6 Ψ [#v[(ts.map tmW),3],#v[(ts.map tmW),3]]=Za ([#v[(ts.map tmW),3],#v[(ts.map tmW),3]],(.lst ((List.replicate ts.length Zd).map W.bl),Zd)):=by
  unfold zc6;obtain⟨ce',out,hc,⟨w0,w1,w2,rfl⟩,rfl⟩:=zdl (cap:=[Zb,Zb,Zb]) (T:=.tp [1,2]) (it:=gZip (gVar 0) (gVar 1)) (tc:=gYes) (te:=zaf [Zc,Zc] (Ψ "_law_same") (gCns #v[1,4] (gCns #v[2,4] gA0))) (λi c dn=>(∃u0 u1 u2,c=[u0,u1,u2])/\dn=(List.replicate i Zd).map W.bl) (en:=[#v[(ts.map tmW),3],#v[(ts.map tmW),3]]) (e0:=[#v[(ts.map tmW),3],#v[(ts.map tmW),3]]) (ws:=zipW (ts.map tmW) (ts.map tmW)) rfl rfl (by rw[lz];omega) ⟨⟨_,_,_,rfl⟩,rfl⟩ λi w c dn hw hp=>by
   obtain⟨⟨u0,u1,u2,rfl⟩,rfl⟩:=hp;have li:i<ts.length:=by have:=(Ai.mp hw).1;omega
   have gi:(ts.map tmW)[i]?=Za (tmW ts[i]):=by rw[At,Af li];rfl
   have z:=zf9 gi gi;rw[hw] at z;obtain rfl:=sI z;have e:=hS (ts[i].map λl:Nat=>(l:Int)) (ts[i].map λl:Nat=>(l:Int)) (by rw[Ad];have:=hl ts[i] (Ga li);omega);rw[An rfl,<-z36] at e;refine⟨[u0,#v[tmW ts[i],6],#v[tmW ts[i],6]],rfl,.inl ⟨[u0,#v[tmW ts[i],6],#v[tmW ts[i],6]],[u0,#v[tmW ts[i],6],#v[tmW ts[i],6]],(.bl true,false),rfl,?_,⟨_,_,_,rfl⟩,?_⟩⟩
   ·simp! [e]
   ·rw[List.replicate_succ',Bj];rfl
  rw[lz] at hc;exact hc
 have al:=zxu ts.length;have i1:oIsi .tuple (.tup (ts.map tmW))=Za (.bl true,false):=rfl;unfold zch;simp! [i1,c1,al,Ad]
theorem z2f (xs:List Int):oNe (.lst (xs.map W.int)) (.lst (xs.map W.int))=Za (.bl false,false):=by
 have e:dW (.lst (xs.map W.int))=Za (.list (xs.map .int)):=by rw[dW,zi1 W.int .int (λ_=>by rw[dW]) xs];rfl
 have a:(PyData.list (xs.map .int)).canLay0=Zd:=by
  rw[PyData.canLay0];exact zdj _ _ λx _=>by rw[PyData.canLay0]
 have d:(PyData.list (xs.map .int)).depth<=100:=by
  rw[PyData.depth];have:=zff (c:=0) PyData.int xs λx _=>by rw[PyData.depth];exact Ag _
  omega
 have b:eqD (.lst (xs.map W.int)) (.lst (xs.map W.int))=Za Zd:=by
  unfold eqD;rw[e];show (if (PyData.list (xs.map .int)).canLay0&&(PyData.list (xs.map .int)).canLay0&&decide ((PyData.list (xs.map .int)).depth<=100) then Za (PyData.eqv (.list (xs.map .int)) (.list (xs.map .int))) else Zb)=_;rw[a,An d];show Za (PyData.eqv (.list (xs.map .int)) (.list (xs.map .int)))=_;rw[PyData.eqv,PySem.W.ked_eqvAll,An rfl]
 show (eqD _ _).bind _=_;rw[b];rfl
theorem z6v (t:List Nat):dW (tmW t)=Za (ndI (cI t)):=by rw[zux,z4p]
theorem zw0 (t:List Nat):(ndI (cI t)).canLay0=Zd/\(ndI (cI t)).depth<=1:=by
 constructor
 ·unfold ndI;rw[PyData.canLay0];exact zdj _ _ λx _=>by rw[PyData.canLay0]
 ·unfold ndI;rw[PyData.depth];have:=zff (c:=0) PyData.int (cI t) λx _=>by rw[PyData.depth];exact Ag _
  omega
theorem z69 {t u:List Nat}(h:cI t=cI u):t=u:=zj4 h
theorem z0y (t u:List Nat):PyData.eqv (ndI (cI t)) (ndI (cI u))=decide (t=u):=by
 unfold ndI;rw[PyData.eqv,PySem.W.ked_eqvAll];exact decide_eq_decide.mpr ⟨z69,λh=>h ▸ rfl⟩
theorem z7h (t:List Nat)(ts:List (List Nat)):oInV Zc (tmW t) (.tup (ts.map tmW))=Za (.bl (decide (t∈ts)),Zc):=by
 have f:oIn Zc (tmW t) (.tup (ts.map tmW))=Zb:=rfl;have c:dWs (ts.map tmW)=Za (ts.map λu=>ndI (cI u)):=zi1 tmW (λu=>ndI (cI u)) z6v ts;have e:PyData.canLayAll0 (ts.map λu=>ndI (cI u))=Zd:=zdj _ _ λu _=>(zw0 u).1;have b:((ts.map λu=>ndI (cI u)).any λd=>PyData.eqv d (ndI (cI t)))=decide (t∈ts):=by
  rw[List.any_map,Eg,Dj,decide_eq_true_iff];constructor
  ·rintro ⟨u,a,h⟩;have h:PyData.eqv (ndI (cI u)) (ndI (cI t))=Zd:=h;rw[z0y] at h;exact (As h) ▸ a
  ·intro h;refine⟨t,h,?_⟩;show PyData.eqv (ndI (cI t)) (ndI (cI t))=Zd;rw[z0y];exact An rfl
 have g:=(zw0 t).2;unfold oInV;rw[f];show (dW (tmW t)).bind _=_;rw[z6v];show (dWs (ts.map tmW)).bind _=_;rw[c];show (if (ndI (cI t)).canLay0&&PyData.canLayAll0 (ts.map λu=>ndI (cI u))&&decide ((ndI (cI t)).depth<=90) then Za (W.bl ((ts.map λu=>ndI (cI u)).any λd=>PyData.eqv d (ndI (cI t))),Zc) else Zb)=_;rw[(zw0 t).1,e,An (show (ndI (cI t)).depth<=90 by omega),b];rfl
noncomputable def Gd (m:Nat) (ts:List (List Nat)):Prop:=ts.Nodup/\(∀t∈ts,t∈zab m m)/\ts.length<=64
theorem Gd.sub {m:Nat}{ts us:List (List Nat)}(h:Gd m ts)(s:us.Sublist ts):Gd m us:=⟨h.1.sublist s,λt a=>h.2.1 t (s.mem a),by have:=s.length_le;have:=h.2.2;omega⟩
theorem Gd.val {m:Nat}{ts:List (List Nat)}(c:m<=6)(h:Gd m ts):(∀t∈ts,∀l∈t,l<64)/\∀t∈ts,t.length<=64:=by
 have a:=(zbj (m:=m) (most:=m) c c).2;exact⟨λt b l d=>by have:=(a t (h.2.1 t b)).2 l d;omega,λt b=>by have:=(a t (h.2.1 t b)).1;omega⟩
noncomputable def xorT (m:Nat) (ts us:List (List Nat)):List (List Nat):=(zab m m).filter λt=>!decide (decide (t∈ts)=decide (t∈us))
theorem z34 {m:Nat}{ts us:List (List Nat)}(n:ts.Nodup)(c:us.Nodup):oddT m (ts++us)=xorT m ts us:=Dt λt _=>by
 rw[Du,n.count,c.count];by_cases a:t∈ts<;>by_cases b:t∈us<;>simp [a,b]
theorem zxi {m:Nat}{ts us:List (List Nat)}(i:m<=6)(d:Gd m ts)(f:Gd m us):(((ts++us).filter λt=>!decide (decide (t∈ts)=decide (t∈us))).Nodup)/\((ts++us).filter λt=>!decide (decide (t∈ts)=decide (t∈us))).Perm (xorT m ts us):=by
 have n:((ts++us).filter λt=>!decide (decide (t∈ts)=decide (t∈us))).Nodup:=by
  rw[Ib,Ii];refine⟨d.1.filter _,f.1.filter _,λa g b k=>?_⟩;intro e;subst e;have j:=(Cv.mp g).1;have c:=Cv.mp k;have:=c.2;rw[An j,An c.1] at this;exact nomatch this
 refine⟨n,(Ia n ((nd_m i).filter _)).mpr λt=>?_⟩;rw[Cv,Cv,Bg];constructor
 ·exact λh=>⟨h.1.elim (d.2.1 t) (f.2.1 t),h.2⟩
 ·intro h;refine⟨?_,h.2⟩;by_cases a:t∈ts
  ·exact .inl a
  ·by_cases b:t∈us
   ·exact .inr b
   ·have:=h.2;rw[Bc a,Bc b] at this;exact nomatch this
theorem zrm {m:Nat}(ts us:List (List Nat))(h:m<=6):(xorT m ts us).Pairwise λa b=>lexI (keyI b) (keyI a)=Zc:=(zfp ⟨m,by omega⟩).sublist List.filter_sublist
noncomputable def cutT (ts:List (List Nat)) (lo h:Option Int):List (List Nat):=(ts.drop (HT.sIx ts.length 0 lo)).take (HT.sIx ts.length ts.length h-HT.sIx ts.length 0 lo)
theorem zoo (ts:List (List Nat))(lo h:Option Int):cutW (ts.map tmW) lo h=(cutT ts lo h).map tmW:=by
 unfold cutW cutT;rw[Ad,<-List.map_drop,<-List.map_take]
theorem zoe (ts:List (List Nat))(lo h:Option Int):(cutT ts lo h).Sublist ts:=(Dr _ _).trans (Ff _ _)
theorem z5m (ts:List (List Nat)):(cutT ts Zb (Za 20)).length<=20:=by
 unfold cutT;have e:HT.sIx ts.length ts.length (Za 20)=min 20 ts.length:=HT.sIx_nat ts.length ts.length 20;rw[e,Cm];omega
theorem z2n (ts:List (List Nat)):(cutT ts (Za (-20)) Zb).length<=20:=by
 unfold cutT;have e:HT.sIx ts.length 0 (Za (-20))=((-20:Int)+(ts.length:Int)).toNat:=rfl;have a:HT.sIx ts.length ts.length Zb=ts.length:=rfl;rw[e,a,Cm,Ev];omega
theorem z6i {Ψ:Str->Fn}{ts us:List (List Nat)}{v0 v1 v2 v3 v6 v7 v8 v9 v10:Option (W×Bool)}(h1:ts.length<=64)(h2:us.length<=64):zv7 Ψ [v0,v1,v2,v3,#v[(ts.map tmW),3],#v[(us.map tmW),3],v6,v7,v8,v9,v10]=Za ([v0,v1,v2,v3,#v[(ts.map tmW),3],#v[(us.map tmW),3],v6,v7,v8,v9,v10],(.lst (((ts++us).filter λt=>!decide (decide (t∈ts)=decide (t∈us))).map tmW),Zd)):=by
 have a:=zm7 (ts.map tmW) (us.map tmW) (by rw[Ad,Ad];omega);rw[z1c] at a;unfold zv7;refine zjh (cap:=[Zb,Zb,Za 4,Za 5]) (it:=za1 (gOp2 oAdd (zaa 4) (zaa 5))) (en:=[v0,v1,v2,v3,#v[(ts.map tmW),3],#v[(us.map tmW),3],v6,v7,v8,v9,v10]) (xs:=[#v[(ts.map tmW),3],#v[(us.map tmW),3]]) (e0:=[v0,v1,v2,v3,#v[(ts.map tmW),3],#v[(us.map tmW),3],v6,v7,v8,v9,v10]) (ts:=ts++us) tmW (λt=>!decide (decide (t∈ts)=decide (t∈us))) tmW (by simp! [a]) (by rw[Ax];omega) rfl rfl rfl (λ_ _=>rfl) λu0 t ht=>?_;have q1:=z7h t ts;have q2:=z7h t us;refine⟨#v[tmW t,6],?_,λ_=>⟨#v[tmW t,6],Zc,by simp! []⟩⟩;generalize decide (t∈ts)=b1 at *
 generalize decide (t∈us)=b2 at *
 simp! [q1,q2]
theorem z85 {Ψ:Str->Fn}{n:Nat}{f g:Nat->Int}{v0 v1 v2 v3 v4 v5 v6 v7 v8:Option (W×Bool)}{o9 o10:Bool}(hn:n<=64)(hf:∀i,Bit (f i)):ztx Ψ [v0,v1,v2,v3,v4,v5,v6,v7,v8,some (.lst ((tab n f).map W.int),o9),some (.lst ((tab n g).map W.int),o10)]=Za ([v0,v1,v2,v3,v4,v5,v6,v7,v8,#v[((tab n f).map W.int),1],#v[((tab n g).map W.int),1]],(.lst ((tab n λp=>f p*g p).map W.int),Zd)):=by
 have s9:(1000:Nat)<=sizeLine:=by decide
 have lz:(zipW ((tab n f).map W.int) ((tab n g).map W.int)).length=n:=by rw[zb5,Ad,Ad,zdd,zdd,Ew]
 unfold ztx;obtain⟨ce',out,hc,⟨w0,w1,w2,rfl⟩,rfl⟩:=zdl (cap:=[Zb,Zb,Zb]) (T:=.tp [1,2]) (it:=gZip (gVar 9) (gVar 10)) (tc:=gYes) (te:=gOp2 oMult (zaa 1) (zaa 2)) (λi c dn=>(∃u0 u1 u2,c=[u0,u1,u2])/\dn=((tab n λp=>f p*g p).take i).map W.int) (en:=[v0,v1,v2,v3,v4,v5,v6,v7,v8,some (.lst ((tab n f).map W.int),o9),some (.lst ((tab n g).map W.int),o10)]) (e0:=[v0,v1,v2,v3,v4,v5,v6,v7,v8,#v[((tab n f).map W.int),1],#v[((tab n g).map W.int),1]]) (ws:=zipW ((tab n f).map W.int) ((tab n g).map W.int)) (by cases o9<;>cases o10<;>simp! []) rfl #v[] ⟨⟨_,_,_,rfl⟩,rfl⟩ λi w c dn hw hp=>by
  obtain⟨⟨u0,u1,u2,rfl⟩,rfl⟩:=hp;have li:i<n:=by have:=(Ai.mp hw).1;omega
  obtain⟨x,y,hx,hy,rfl⟩:=z0v hw;rw[At,znd li] at hx hy;obtain rfl:=sI hx;obtain rfl:=sI hy;have mu:oMult (.int (f i)) (.int (g i))=#v[(f i*g i),0]:=oMult_l (by rcases hf i with e|e<;>rw[e]<;>decide) (by rcases hf i with e|e<;>rw[e]<;>decide);refine⟨[u0,#v[(f i),0],#v[(g i),0]],rfl,.inl ⟨[u0,#v[(f i),0],#v[(g i),0]],[u0,#v[(f i),0],#v[(g i),0]],(.int (f i*g i),Zc),rfl,?_,⟨_,_,_,rfl⟩,?_⟩⟩
  ·simp! [mu]
  ·rw[zib (znd li),Bj];rfl
 rw[lz,show (tab n λp=>f p*g p).take n=tab n λp=>f p*g p from by rw[Ex (by rw[zdd];exact Ag _)]] at hc;exact hc
theorem zvy {n:Nat}{f g:Nat->Int}(h:∀p,p<n->f p=g p):tab n f=tab n g:=by
 unfold tab;exact Co λp a=>h p (Cj.mp a)
theorem z7s {Ψ:Str->Fn}(hM:zp7 (Ψ "_law_many"))(hK:zid (Ψ "_law_take"))(hP:zpl (Ψ "_law_poly"))(hI:zt3 (Ψ "_law_in_order"))(hS:zp4 (Ψ "_law_same"))(hA:zyk (Ψ "poly_sum"))(hX:zfk (Ψ "poly_product"))(hY:zfk (Ψ "_law_product"))(hV:zfx (Ψ "_law_values")){k:Nat}{st:W}{v0 v2 v3 v4 v5 v6 v7 v8 v9 v10:Option (W×Bool)}(hs:HS k st)(hk:k+900<big):∃st' w3 w4 w5 w6 w7 w8 w9 w10,zp5 Ψ [v0,#v[st,5],v2,v3,v4,v5,v6,v7,v8,v9,v10]=Za ([v0,#v[st',5],v2,w3,w4,w5,w6,w7,w8,w9,w10],.nx)/\HS (k+140) st':=by
 obtain⟨st1,m,e1,g1,m0,m6⟩:=hM k st hs #v[];obtain⟨m,rfl⟩:=Int.eq_ofNat_of_zero_le (show 0<=m by omega);have hm:m<=6:=by omega
 obtain⟨st2,r2,e2,g2,q0,q1⟩:=hK (k+1) st1 ((m:Int)+1) g1 #v[] #v[] #v[];obtain⟨most,rfl⟩:=Int.eq_ofNat_of_zero_le q0;obtain⟨st3,ts,e3,g3,sub1⟩:=hP (k+2) st2 m most g2 #v[] hm #v[];obtain⟨st4,r4,e4,g4,q2,q3⟩:=hK (k+68) st3 ((m:Int)+1) g3 #v[] #v[] #v[];obtain⟨most2,rfl⟩:=Int.eq_ofNat_of_zero_le q2;obtain⟨st5,us0,e5,g5,sub2⟩:=hP (k+69) st4 m most2 g4 #v[] hm #v[];obtain⟨st6,r6,e6,g6,c0,c1⟩:=hK (k+135) st5 6 g5 #v[] #v[0,9] #v[0,9];have gd:∀{u:Nat}{l:List (List Nat)},u<=m->l.Sublist (zab m u)->Gd m l:=λ{u l} hu sb=>by
  have g:=zxy hm hu sb;have:=(zbj (m:=m) (most:=u) hm #v[]).1;exact⟨g.1,g.2,by have:=sb.length_le;omega⟩
 have G1:Gd m ts:=gd #v[] sub1;have G0:Gd m us0:=gd #v[] sub2;have sl:oSl (.tup (ts.map tmW)) (Za (-1)) Zb=#v[((cutT ts (Za (-1)) Zb).map tmW),3]:=by rw[<-zoo];rfl
 obtain⟨w,hw,hmem⟩:=z59 (ws:=[.tup (us0.map tmW),.tup (ts.map tmW),.tup [],.tup ((cutT ts (Za (-1)) Zb).map tmW),.tup (us0.map tmW),.tup (us0.map tmW)]) c0 c1;have cw:∃us:List (List Nat),w=.tup (us.map tmW)/\Gd m us:=by
  simp only [Ar,Bx,Gk] at hmem;rcases hmem with h|h|h|h|h|h
  ·exact⟨us0,h,G0⟩
  ·exact⟨ts,h,G1⟩
  ·exact⟨[],h,⟨Fj,λt ht=>(nomatch ht),Bi _⟩⟩
  ·exact⟨_,h,G1.sub (zoe ts _ _)⟩
  ·exact⟨us0,h,G0⟩
  ·exact⟨us0,h,G0⟩
 obtain⟨us,rfl,G2⟩:=cw;have c1:=z6i (Ψ:=Ψ) (ts:=ts) (us:=us) (v0:=v0) (v1:=#v[st6,5]) (v2:=v2) (v3:=#v[(m:Nat),0]) (v6:=v6) (v7:=v7) (v8:=v8) (v9:=v9) (v10:=v10) G1.2.2 G2.2.2;obtain⟨xn,xp⟩:=zxi hm G1 G2;have io:=hI _ _ xn xp (zrm ts us hm);have p1:=hA m ts us hm G1.2.2 G2.2.2 G1.2.1 G2.2.1;have p2:=hA m us ts hm G2.2.2 G1.2.2 G2.2.1 G1.2.1;rw[zmb (m:=m) (us:=ts++us) λx=>by rw[Du,Du,Nat.add_comm]] at p2;have gx:Gd m (oddT m (ts++us)):=⟨(nd_m hm).filter _,λt ht=>(Cv.mp ht).1,zv6 _ hm⟩;have s1:=hS (oddT m (ts++us)) gx.2.2 (gx.val hm).2;rw[<-z34 G1.1 G2.1] at io;have la:oSl (.tup (ts.map tmW)) Zb (Za 20)=#v[((cutT ts Zb (Za 20)).map tmW),3]:=by rw[<-zoo];rfl
 have lb:oSl (.tup (us.map tmW)) (Za (-20)) Zb=#v[((cutT us (Za (-20)) Zb).map tmW),3]:=by rw[<-zoo];rfl
 have z1:=z5m ts;have z2:=z2n us;have G3:=G1.sub (zoe ts Zb (Za 20));have G4:=G2.sub (zoe us (Za (-20)) Zb);generalize cutT ts Zb (Za 20)=ls at *
 generalize cutT us (Za (-20)) Zb=fs at *
 have d1:=hY m ls fs hm z1 z2 G3.2.1 G4.2.1;have d2:=hX m ls fs hm z1 z2 G3.2.1 G4.2.1;have d3:=hX m fs ls hm z2 z1 G4.2.1 G3.2.1;rw[zmb (m:=m) λx=>zk5 x ls fs] at d3;have gy:Gd m (oddT m (zam ls fs)):=⟨(nd_m hm).filter _,λt ht=>(Cv.mp ht).1,zv6 _ hm⟩;have s2:=hS (oddT m (zam ls fs)) gy.2.2 (gy.val hm).2;have u1:=hV m ls hm G3.2.2 (G3.val hm).1 (G3.val hm).2;have u2:=hV m fs hm G4.2.2 (G4.val hm).1 (G4.val hm).2;have u3:=hV m (oddT m (zam ls fs)) hm gy.2.2 (gy.val hm).1 (gy.val hm).2;rw[zvy λp _=>zy7 (p:=p) hm G3.2.1 G4.2.1] at u3;have c2:=z85 (Ψ:=Ψ) (n:=2^m) (f:=valF ls) (g:=valF fs) (v0:=v0) (v1:=#v[st6,5]) (v2:=v2) (v3:=#v[(m:Nat),0]) (v4:=#v[(ts.map tmW),3]) (v5:=#v[(us.map tmW),3]) (v6:=#v[((oddT m (zam ls fs)).map tmW),3]) (v7:=#v[(ls.map tmW),3]) (v8:=#v[(fs.map tmW),3]) (o9:=Zc) (o10:=Zd) (zte hm) (z3t ls);have ns:=z2f (tab (2^m) λp=>valF ls p*valF fs p);have l6:(6<=sizeLine)=True:=by rw[sizeLine_eq];decide
 generalize (oddT m (ts++us)).map tmW=ow at *
 generalize (oddT m (zam ls fs)).map tmW=pw at *
 generalize ((tab (2^m) λp=>valF ls p*valF fs p).map W.int)=vw at *
 refine⟨st6,#v[(m:Nat),0],#v[(ts.map tmW),3],#v[(us.map tmW),3],#v[pw,3],#v[(ls.map tmW),3],#v[(fs.map tmW),3],#v[((tab (2^m) (valF ls)).map W.int),1],#v[((tab (2^m) (valF fs)).map W.int),1],?_,g6.mono #v[]⟩;unfold zp5;refine zcv (e1:=[v0,#v[st1,5],v2,#v[(m:Nat),0],v4,v5,v6,v7,v8,v9,v10]) ?_ (zcv (e1:=[v0,#v[st3,5],v2,#v[(m:Nat),0],#v[(ts.map tmW),3],v5,v6,v7,v8,v9,v10]) ?_ (zcv (e1:=[v0,#v[st5,5],v2,#v[(m:Nat),0],#v[(ts.map tmW),3],#v[(us0.map tmW),3],v6,v7,v8,v9,v10]) ?_ (zcv (e1:=[v0,#v[st6,5],v2,#v[(m:Nat),0],#v[(ts.map tmW),3],#v[(us.map tmW),3],v6,v7,v8,v9,v10]) ?_ (zcv (e1:=[v0,#v[st6,5],v2,#v[(m:Nat),0],#v[(ts.map tmW),3],#v[(us.map tmW),3],#v[ow,3],v7,v8,v9,v10]) ?_ (zcv (e1:=[v0,#v[st6,5],v2,#v[(m:Nat),0],#v[(ts.map tmW),3],#v[(us.map tmW),3],#v[ow,3],v7,v8,v9,v10]) ?_ (zcv (e1:=[v0,#v[st6,5],v2,#v[(m:Nat),0],#v[(ts.map tmW),3],#v[(us.map tmW),3],#v[ow,3],#v[(ls.map tmW),3],#v[(fs.map tmW),3],v9,v10]) ?_ (zcv (e1:=[v0,#v[st6,5],v2,#v[(m:Nat),0],#v[(ts.map tmW),3],#v[(us.map tmW),3],#v[pw,3],#v[(ls.map tmW),3],#v[(fs.map tmW),3],v9,v10]) ?_ (zcv (e1:=[v0,#v[st6,5],v2,#v[(m:Nat),0],#v[(ts.map tmW),3],#v[(us.map tmW),3],#v[pw,3],#v[(ls.map tmW),3],#v[(fs.map tmW),3],v9,v10]) ?_ (zcv (e1:=[v0,#v[st6,5],v2,#v[(m:Nat),0],#v[(ts.map tmW),3],#v[(us.map tmW),3],#v[pw,3],#v[(ls.map tmW),3],#v[(fs.map tmW),3],#v[((tab (2^m) (valF ls)).map W.int),1],#v[((tab (2^m) (valF fs)).map W.int),2]]) ?_ ?_)))))))))
 ·simp! [e1]
 ·simp! [e2,e3]
 ·simp! [e4,e5]
 ·simp! [sl,e6,hw,l6]
 ·simp! [c1,io]
 ·simp! [p1,p2,s1]
 ·simp! [la,lb]
 ·simp! [d1]
 ·simp! [d2,d3,s2]
 ·simp! [u1,u2]
 ·simp! [u3,c2,ns]
theorem z51 {Ψ:Str->Fn}(I:zp7 (Ψ "_law_many"))(E:zid (Ψ "_law_take"))(t:zpl (Ψ "_law_poly"))(q:zt3 (Ψ "_law_in_order"))(A:zp4 (Ψ "_law_same"))(B:zyk (Ψ "poly_sum"))(C:zfk (Ψ "poly_product"))(G:zfk (Ψ "_law_product"))(z:zfx (Ψ "_law_values")){st:W}{v0:Option (W×Bool)}(x:HS 0 st):∃c,zso Ψ [v0,#v[st,5],none,none,none,none,none,none,none,none,none]=Za (v0::c,.nx):=by
 have N:(20000:Nat)<big:=by decide
 unfold zso;obtain⟨c,h,s,p,f,m,l,k,o,j,d,b,rfl,_⟩:=zcm (mp:=[]) (T:=.nm 2) (body:=zp5 Ψ) (λi e=>∃s p f m l k o j d b,e=[v0,#v[s,5],p,f,m,l,k,o,j,d,b]/\HS (140*i) s) (z0w (a:=gArg (gC (.int 4))) (en:=[v0,#v[st,5],none,none,none,none,none,none,none,none,none]) (e1:=[v0,#v[st,5],none,none,none,none,none,none,none,none,none]) (n:=4) rfl #v[]) ⟨_,_,_,_,_,_,_,_,_,_,rfl,x⟩ λi w e y u=>by
  obtain⟨s,p,f,m,l,k,o,j,d,b,rfl,g⟩:=u;obtain⟨O,rfl⟩:=zjn y;obtain⟨D,P,J,R,Q,L,K,M,F,H,r⟩:=z7s (Ψ:=Ψ) (v0:=v0) (v2:=#v[(0+(i:Int)),0]) (v3:=f) (v4:=m) (v5:=l) (v6:=k) (v7:=o) (v8:=j) (v9:=d) (v10:=b) I E t q A B C G z g #v[];exact⟨_,_,rfl,.inl H,_,_,_,_,_,_,_,_,_,_,rfl,r.mono #v[]⟩
 exact⟨_,h⟩
theorem zyr (ns:List Int)(hl:ns.length<=63):sem T bn 40 "law" [.frl (ns.map W.int)]=Za ([.frl (ns.map W.int)],(.bl true,false)):=by
 rw[ya2];generalize hΨ:sem T bn 39=Ψ;have hH:z1e (Ψ "_law_hand"):=by rw[<-hΨ,zn6];exact z3c (sem T bn 0)
 have hK:zid (Ψ "_law_take"):=by rw[<-hΨ,zdx];exact zn4 (sem T bn 0)
 have hM:zp7 (Ψ "_law_many"):=by rw[<-hΨ,zor];exact z18 (by rw[zdx];exact zn4 (sem T bn 0))
 have hP:zpl (Ψ "_law_poly"):=by rw[<-hΨ,zoh];exact z2c (by rw[zkt];exact zy6 (sem T bn 0)) (by rw[zn0];exact z2j (by rw[zdx];exact zn4 (sem T bn 0)))
 have hV:zfx (Ψ "_law_values"):=by rw[<-hΨ,zkd];exact zst (sem T bn 0)
 have hS:zp4 (Ψ "_law_same"):=by rw[<-hΨ,zd6];exact z3x (by rw[zd6];exact zyj (by rw[zd6];exact zxb _))
 have hI:zt3 (Ψ "_law_in_order"):=by rw[<-hΨ,zc7];exact z0t _
 have hA:zyk (Ψ "poly_sum"):=by rw[<-hΨ,zr4];exact z5y (by rw[zgh];exact z1x (by rw[zfh];exact zqu (sem T bn 0)))
 have hX:zfk (Ψ "poly_product"):=by rw[<-hΨ,zh2];exact z3b (by rw[zgh];exact z1x (by rw[zfh];exact zqu (sem T bn 0)))
 have hY:zfk (Ψ "_law_product"):=by rw[<-hΨ,zh0];exact zx8 (by rw[zc7];exact z0t _)
 obtain⟨st0,h0,g0⟩:=hH ns hl;obtain⟨en',l3⟩:=z51 (v0:=Za (.frl (ns.map W.int),false)) hM hK hP hI hS hA hX hY hV g0;unfold z43;refine zdv (en:=Za (.frl (ns.map W.int),false)::en') rfl (zcv (e1:=[Za (.frl (ns.map W.int),false),#v[st0,5],Zb,Zb,Zb,Zb,Zb,Zb,Zb,Zb,Zb]) ?_ (zcv l3 ?_)) rfl
 ·simp! [h0]
 ·simp! []
noncomputable abbrev nA (K:Zg) (n:Str) (f:Zh):Prop:=PySem.W.nsIn K mainGlobals n=Za (Za (.ref f))
noncomputable abbrev nL (K:Zg) (f:Zh) (oc:Ze) (o:Option Zh) (n:Str) (st:Stmt) (kV d pm:Ze) (a:Option Zh) (c b:Ze) (s:Array (Option Ze)):Prop:=K.lookup f=Za ⟨oc,o,.func (PySem.W.fnOf n n (ze0 st) (zc8 st) (zan st) .none kV d pm a c b),s⟩
noncomputable abbrev nC (K:Zg) (c:Ze) (n:Str):Prop:=PySem.W.codeIn K c n=Zd
noncomputable abbrev nK (K:Zg) (f:Zh):Prop:=PySem.W.keepIn K (.ref f)=Zd
noncomputable def nD (K:Zg) (t:Fd):Prop:=∃(f:Zh) (oc:Ze) (o:Option Zh) (kV d p:Ze) (a:Option Zh) (c b:Ze) (s:Array (Option Ze)),nA K t.nm f/\nL K f oc o t.nm t.st kV d p a c b s/\nC K c t.nm/\nK K f
theorem nD_i {K:Zg}{n:Str}{t:Fd}{f:Zh}{oc:Ze}{o:Option Zh}{kV d pm:Ze}{g:Option Zh}{b h:Ze}{s:Array (Option Ze)}(e:t.nm=n)(a:nA K n f)(l:nL K f oc o n t.st kV d pm g b h s)(c:nC K b n)(k:nK K f):nD K t:=by
 subst e;exact⟨_,_,_,_,_,_,_,_,_,_,a,l,c,k⟩
noncomputable def bO (t:Fd):Prop:=FnScope t.N t.ps (zan t.st)/\t.m.length=t.ps.length/\∀(kV doc p:Ze) (a:Option Zh) (cdv c:Ze) (u:List Ze),u.length=t.ps.length->bindArgs (PySem.W.fnOf t.nm t.nm (ze0 t.st) (zc8 t.st) (zan t.st) .none kV doc p a cdv c) ⟨u,[]⟩=pure (t.ps.zip u)
theorem z97 {K:Zg}{h:Heap}{m:Str->Option Ze}(X:K.In h)(G:h.Ns mainGlobals m){t:Fd}(b:bO t)(e:t.nm∈lams->zx5 K t.nm=Zd)(d:nD K t):FdOk K m t:=by
 obtain⟨f,oc,o,kV,i,p,n,g,j,s,a,l,c,k⟩:=d;have F:=z01 (st:=t.st) l c k;exact⟨b.1,b.2.1,⟨_,_,F,F.binds b.2.2,PySem.W.mg_of X G a⟩,e⟩
theorem nd_T:(T.map (·.nm)).Nodup:=by decide +kernel
theorem all_c {α:Type}{P:α->Prop}{a:α}{l:List α}(h:P a)(r:∀x∈l,P x):∀x∈a::l,P x:=List.forall_mem_cons.mpr ⟨h,r⟩
theorem all_n {α:Type}{P:α->Prop}:∀x∈([]:List α),P x:=λ_ h=>nomatch h
@[elab_as_elim] theorem lenS {α:Type}{P:List α->Prop}{n:Nat} (us:List α) (b:us.length=n+1) (h:∀a l,l.length=n->P (a::l)):P us:=by
 cases us with
 |nil=>cases b
 |cons a l=>exact h a l (Fx b)
@[elab_as_elim] theorem len0 {α:Type}{P:List α->Prop} (us:List α) (b:us.length=0) (h:P []):P us:=by
 cases us with
 |nil=>exact h
 |cons a l=>cases b
@[elab_as_elim] theorem len1 {α:Type}{P:List α->Prop} (us:List α) (b:us.length=1) (h:∀a,P [a]):P us:=lenS us b λa l e=>len0 l e (h a)
@[elab_as_elim] theorem len2 {α:Type}{P:List α->Prop} (us:List α) (c:us.length=2) (h:∀a b,P [a,b]):P us:=lenS us c λa l e=>lenS l e λb l e=>len0 l e (h a b)
@[elab_as_elim] theorem len3 {α:Type}{P:List α->Prop} (us:List α) (d:us.length=3) (h:∀a b c,P [a,b,c]):P us:=lenS us d λa l e=>len2 l e (h a)
theorem zjw:bO zb4:=⟨#v[0,0,5],rfl,λ_ _ _ _ _ _ us hl=>len1 us hl λ_=>rfl⟩
theorem zl5:bO zck:=⟨#v[0,0,5],rfl,λ_ _ _ _ _ _ us hl=>len1 us hl λ_=>rfl⟩
theorem znv:bO zdg:=⟨#v[0,0,5],rfl,λ_ _ _ _ _ _ us hl=>len2 us hl λ_ _=>rfl⟩
theorem zgk:bO zbc:=⟨#v[0,0,5],rfl,λ_ _ _ _ _ _ us hl=>len2 us hl λ_ _=>rfl⟩
theorem zlb:bO zcf:=⟨#v[0,0,5],rfl,λ_ _ _ _ _ _ us hl=>len1 us hl λ_=>rfl⟩
theorem zmn:bO zcp:=⟨#v[0,0,5],rfl,λ_ _ _ _ _ _ us hl=>len2 us hl λ_ _=>rfl⟩
theorem zkm:bO zci:=⟨#v[0,0,5],rfl,λ_ _ _ _ _ _ us hl=>len1 us hl λ_=>rfl⟩
theorem zmg:bO zcs:=⟨#v[0,0,5],rfl,λ_ _ _ _ _ _ us hl=>len2 us hl λ_ _=>rfl⟩
theorem zi0:bO zb0:=⟨#v[0,0,5],rfl,λ_ _ _ _ _ _ us hl=>len2 us hl λ_ _=>rfl⟩
theorem zh7:bO zbk:=⟨#v[0,0,5],rfl,λ_ _ _ _ _ _ us hl=>len2 us hl λ_ _=>rfl⟩
theorem zl6:bO zcq:=⟨#v[0,0,5],rfl,λ_ _ _ _ _ _ u h=>len3 u h λ_ _ _=>rfl⟩
theorem zmq:bO zcd:=⟨#v[0,0,5],rfl,λ_ _ _ _ _ _ us hl=>len2 us hl λ_ _=>rfl⟩
theorem zfu:bO za4:=⟨#v[0,0,5],rfl,λ_ _ _ _ _ _ us hl=>len1 us hl λ_=>rfl⟩
theorem zgt:bO zbg:=⟨#v[0,0,5],rfl,λ_ _ _ _ _ _ us hl=>len2 us hl λ_ _=>rfl⟩
theorem z73:bO zop:=⟨#v[0,0,5],rfl,λ_ _ _ _ _ _ us hl=>len1 us hl λ_=>rfl⟩
theorem all_mk {l:PySem.W.OpenLaw}{w:World}{K:Zg}{h:Heap}{m:Str->Option Ze}{i:Zh} (X:K.In h) (G:h.Ns mainGlobals m) (b:m "law" = Za (.ref i)) (D:∀t∈T,nD K t) (M:∀x∈(["_law_terms","_law_in_order","law"]:List Str),zx5 K x=Zd) (Z:∀x∈bn,PySem.W.nsIn K mainGlobals x=Za Zb) :
  ∃g:FuncData,(∀(s:Zf) (v:Ze),BindsTo s g ⟨[v],[]⟩ [("_law_script",v)])/\∀base:Heap,K.In base->base.Ns mainGlobals m->FnOk l.prog w K m base CX0 40 i g ["_law_script"] (spF K [Zc] (sem T bn 40 "law")):=by
 have B:∀t∈T,bO t:=all_c zjw (all_c zl5 (all_c znv (all_c zgk (all_c zlb (all_c zmn (all_c zkm (all_c zmg (all_c zi0 (all_c zh7 (all_c zl6 (all_c zmq (all_c zfu (all_c zgt (all_c z73 (all_n)))))))))))))));have q:∀t∈T,t.nm∈lams->t.nm∈(["_law_terms","_law_in_order","law"]:List Str):=by decide +kernel
 obtain⟨f,oc,E,kV,u,C,H,z,y,A,a,j,c,k⟩:=D zop (by simp [T]);have F:=z01 (st:=zop.st) j c k;have e:=b.symm.trans (PySem.W.mg_of X G a);cases e;exact⟨_,λs v=>.of_eq rfl,λbase r p=>zuv nd_T (λt d=>z97 X G (B t d) (λo=>M _ (q t d o)) (D t d)) (λx n=>PySem.W.mg_none_of X G (Z x n)) r p 40 zop (by simp [T]) _ _ F (PySem.W.mg_of X G a)⟩
theorem walk {l:PySem.W.OpenLaw}{q:Program}{b:List Str}{X:(Str->Option Ze)->Heap->Prop}{Y:World->Heap->Prop}{d:DefRec}{K:Params->Zg} (A:l.most=Za 63) (g:d.params.defaults=[])
  (D:∀(w:World) (h:Heap),Y w h->(K w.params).In h)
  (y:∀w:World,PySem.W.noTabs (K w.params)=Zd) (B:∀w:World,zt2 (K w.params)=Zd) (hrec:∀(w:World),∀x∈lams,∀c P,PySem.W.tabIn (K w.params) x=Za (c,P)->∃d,(recsOf q).find? (λe=>e.name==x)=Za d)
  (F:∀(w:World) (m:Str->Option Ze) (o:Zh) (h:Heap),(K w.params).In h->h.Ns mainGlobals m->m d.name=Za (.ref o) ->
   ∃j:FuncData,(∀(s:Zf) (u:Ze),BindsTo s j ⟨[u],[]⟩ [("_law_script",u)])/\∀base:Heap,(K w.params).In base->base.Ns mainGlobals m->FnOk l.prog w (K w.params) m base CX0 40 o j ["_law_script"] (spF (K w.params) [Zc] (sem T bn 40 "law"))) :
  PySem.W.WalkO q b X Y l.row.toRowW d [] (λf r=>PySem.call f r) :=
 L2.walk_ofT (n:=63) (k:=40) (x := "_law_script") (CX:=λ_=>CX0) (sp:=λw=>spF (K w.params) [Zc] (sem T bn 40 "law")) A #v[0,9] g ⟨rfl,by decide,by decide,rfl⟩ D y B hrec F (λ_ _ _ a p t i C=>zrk i.sub i.tb C (ws':=[.frl (p.map W.int)]) (zyr p t) rfl) λ_ _ _ _ _ z=>z
end My
open PySem PySem.W PyProof.Rows
set_option maxRecDepth 100000 in
set_option maxHeartbeats 0 in
theorem PySem.Challenge.cw_yesnowords_k11_polynomials_together_holds : PySem.Challenge.rw_yesnowords_k11_polynomials_together.Holds := by
 w_on;o_law;k_head;(case hw=>w_witness2)
 k_fill
 refine My.walk (l:=PySem.Challenge.rw_yesnowords_k11_polynomials_together) rfl rfl (fun w h Y=>by first | exact PySem.W.kIn_of Y | exact PySem.W.km_in_of Y) ?nt ?nd ?hrec ?F
 case nt=>exact fun w=>by kernel_rfl
 case nd=>exact fun w=>by kernel_rfl
 case hrec =>
  intro w x hx c P e;simp only [L2.lams,Ar,Bx,Gk] at hx;rcases hx with rfl | rfl | rfl | rfl | rfl
  ·exact Ep.mp (by kernel_rfl)
  ·exact Ep.mp (by kernel_rfl)
  ·exact nomatch (Eq.trans (by kernel_rfl) e:(none:Option (Addr × Addr))=some (c,P))
  ·exact nomatch (Eq.trans (by kernel_rfl) e:(none:Option (Addr × Addr))=some (c,P))
  ·exact Ep.mp (by kernel_rfl)
 case F =>
  intro w mg fa h KX G hmg;refine My.all_mk KX G hmg ?xD ?xM ?xZ
  case xM=>exact My.all_c (by kernel_rfl) (My.all_c (by kernel_rfl) (My.all_c (by kernel_rfl) (My.all_n)))
  case xZ =>
   refine' My.all_c ?_ (My.all_c ?_ (My.all_c ?_ (My.all_c ?_ (My.all_c ?_ (My.all_c ?_ (My.all_c ?_ (My.all_c ?_ (My.all_c ?_ (My.all_c ?_ (My.all_c ?_ (My.all_c ?_ (My.all_c ?_ (My.all_c ?_ (My.all_c ?_ (My.all_c ?_ (My.all_c ?_ (My.all_c ?_ (My.all_n))))))))))))))))))
   any_goals k_is
  case xD =>
   refine' My.all_c (My.nD_i (n := "term_order") rfl ?_ ?_ ?_ ?_) (My.all_c (My.nD_i (n := "odd_terms") rfl ?_ ?_ ?_ ?_) (My.all_c (My.nD_i (n := "poly_sum") rfl ?_ ?_ ?_ ?_) (My.all_c (My.nD_i (n := "poly_product") rfl ?_ ?_ ?_ ?_) (My.all_c (My.nD_i (n := "_law_hand") rfl ?_ ?_ ?_ ?_) (My.all_c (My.nD_i (n := "_law_take") rfl ?_ ?_ ?_ ?_) (My.all_c (My.nD_i (n := "_law_many") rfl ?_ ?_ ?_ ?_) (My.all_c (My.nD_i (n := "_law_bits") rfl ?_ ?_ ?_ ?_) (My.all_c (My.nD_i (n := "_law_terms") rfl ?_ ?_ ?_ ?_) (My.all_c (My.nD_i (n := "_law_values") rfl ?_ ?_ ?_ ?_) (My.all_c (My.nD_i (n := "_law_poly") rfl ?_ ?_ ?_ ?_) (My.all_c (My.nD_i (n := "_law_same") rfl ?_ ?_ ?_ ?_) (My.all_c (My.nD_i (n := "_law_in_order") rfl ?_ ?_ ?_ ?_) (My.all_c (My.nD_i (n := "_law_product") rfl ?_ ?_ ?_ ?_) (My.all_c (My.nD_i (n := "law") rfl ?_ ?_ ?_ ?_) (My.all_n)))))))))))))))
   any_goals (first | (delta My.nA;k_is) | (delta My.nL;k_is) | (delta My.nC;k_is) | (delta My.nK;k_is) | k_is)