import PyProof.Rows.All
import Wide.All
import OpenK.AllK
import Wide.FinOn
import Lean
import PyProof.EqAt
import PyProof.EqKinds
import PyProof.TupleCall
import PySem.Challenge.RW_yesnowords_k25_spreads_turned
set_option Elab.async false
set_option linter.all false
set_option maxRecDepth 100000
def Aa:=@PySem.wpAny_bind
def Ab:=@PySem.Heap.get?_push_of_some
def Ac:=@List.length_map
def Ad:=@Bool.and_eq_true
def Ae:=@List.getElem?_eq_getElem
def Af:=@Nat.le_refl
def Ag:=@PySem.wpAny_pure
def Ah:=@List.map_cons
def Ai:=@List.getElem?_eq_some_iff
def Aj:=@decide_eq_true
def Ak:=@PySem.Heap.get?_push_size
def Am:=@List.size_toArray
def An:=@PyProof.Rows.wpS_bind
def Ao:=@PySem.Heap.lt_size
def Ap:=@List.getElem?_map
def Aq:=@List.mem_singleton
def Ar:=@of_decide_eq_true
def As:=@List.mem_cons_of_mem
def At:=@List.mem_cons
def Au:=@PyProof.Rows.wpS_pure
def Av:=@List.mem_cons_self
def Aw:=@List.mem_append_right
def Ax:=@Bool.false_ne_true
def Ay:=@List.all_eq_true
def Az:=@List.append_assoc
def Ba:=@List.length_cons
def Bb:=@List.length_append
def Bc:=@Nat.ne_of_lt
def Bd:=@Nat.lt_of_lt_of_le
def Be:=@List.map_map
def Bf:=@List.mem_map
def Bg:=@decide_eq_false
def Bh:=@List.length_range
def Bi:=@List.replicate_succ
def Bj:=@Nat.zero_le
def Bk:=@List.all_cons
def Bl:=@List.zip_cons_cons
def Bm:=@List.lookup_cons
def Bn:=@List.map_append
def Bo:=@List.mem_append
def Bp:=@Array.length_toList
def Bq:=@List.take_append_drop
def Br:=@PySem.mem_of_lookup
def Bs:=@Array.toList_append
def Bt:=@List.mem_of_getElem?
def Bu:=@Bool.not_eq_true
def Bv:=@Nat.le_trans
def Bw:=@List.length_eq_zero_iff
def Bx:=@List.append_nil
def By:=@Bool.or_eq_true
def Bz:=@List.mem_range
def Ca:=@LawfulBEq.eq_of_beq
def Cb:=@PySem.Heap.SameBut.update
def Cc:=@PySem.wpAny_loadPart'
def Cd:=@PySem.wpAny_callSpecial?_slot
def Ce:=@List.pairwise_append
def Cf:=@Nat.zero_add
def Cg:=@PySem.wpAny_newObj_type
def Ch:=@PyProof.Rows.wpS_forRange
def Ci:=@Option.bind_some
def Cj:=@Nat.lt_irrefl
def Ck:=@List.getElem?_eq_none
def Cm:=@List.mem_iff_getElem
def Cn:=@Bool.false_eq_true
def Co:=@List.take_length
def Cp:=@List.not_mem_nil
def Cq:=@List.drop_eq_getElem_cons
def Cr:=@PySem.wpAny_holding
def Cs:=@Int.toNat_natCast
def Ct:=@PySem.wpAny_field
def Cu:=@List.pairwise_cons
def Cv:=@Nat.pow_le_pow_right
def Cw:=@PySem.wpAny_call_entry
def Cy:=@List.flatten_cons
def Cz:=@List.map_congr_left
def Da:=@List.nodup_cons
def Db:=@List.getElem?_append_left
def Dc:=@PySem.wpAny_mono
def Dd:=@List.any_cons
def De:=@List.mem_append_left
def Df:=@List.getElem?_set_ne
def Dg:=@decide_eq_true_eq
def Dh:=@List.pairwise_map
def Di:=@List.filter_cons_of_pos
def Dj:=@List.filter_cons_of_neg
def Dk:=@List.ext_getElem?
def Dl:=@Array.toList_push
def Dm:=@List.length_set
def Dn:=@List.getElem?_set_self
def Do:=@Array.getElem?_eq_none
def Dp:=@List.length_take
def Dq:=@List.take_succ
def Dr:=@Bool.not_eq_false'
def Ds:=@PyProof.Rows.wpS_mono
def Dt:=@PySem.F.slot_int_rmul
def Du:=@List.length_replicate
def Dv:=@Array.getElem?_toList
def Dw:=@Array.getElem?_eq_getElem
def Dx:=@List.of_mem_zip
def Dy:=@List.find?_cons
def Dz:=@List.map_inj_left
def Ea:=@PySem.Heap.size_push
def Eb:=@PyProof.Rows.slot_tuple_getitem
def Ec:=@Nat.le_add_right
def Ed:=@List.getElem?_cons_succ
def Ee:=@List.forIn_nil
def Ef:=@Int.eq_ofNat_of_zero_le
def Eg:=@PySem.wpAny_rule
def Eh:=@Option.map_eq_some_iff
def Ei:=@Nat.succ.inj
def Ej:=@PySem.wpAny_seqItems
def Ek:=@if_false
def El:=@List.mem_filter
def Em:=@List.count_cons
def Eo:=@List.length_singleton
def Ep:=@PySem.wpAny_typeNameOfWhole_keyiter
def Er:=@PyProof.Rows.callWith_type1
def Es:=@List.take_sublist
def Et:=@PySem.wpAny_setField_rec
def Eu:=@PySem.call_meets
def Ev:=@List.take_zero
def Ew:=@List.getElem?_append_right
def Ex:=@List.getD_eq_getElem?_getD
def Ey:=@List.drop_zero
def Ez:=@PySem.F.slot_dict_keyiterator_next
def Fa:=@Bool.false_and
def Fb:=@Array.toArray_toList
def Fc:=@Array.perm_iff_toList_perm
def Fe:=@if_true
def Ff:=@PySem.sizeLine_eq
def Fg:=@Option.isSome_iff_exists
def Fh:=@PySem.F.slot_tuple_iterator_next
def Fj:=@List.length_nil
def Fm:=@List.forIn_cons
def Fo:=@Bool.eq_iff_iff
def Fp:=@PyProof.Rows.listUpdate_at
def Fq:=@List.filter_append
def Fs:=@Int.emod_lt_of_pos
def Ft:=@PySem.wpAny_binaryOp_repeat_ref
def Fu:=@PySem.wpAny_typeNameOf_keyiter
def Fv:=@PySem.wpAny_attempt
def Fw:=@PySem.W.cellsFrom_some
def Fx:=@Nat.lt_succ_of_lt
def Fy:=@Nat.le_of_succ_le
def Ga:=@List.nodup_nil
def Gb:=@PySem.typeIs_int
def Gc:=@PySem.tupleKind_room_in1
def Gd:=@List.length_filter_le
def Ge:=@List.length_drop
def Gf:=@PySem.wpAny_pyIter_list
def Gh:=@List.getElem?_mapIdx
def Gi:=@Array.toList_reverse
def Gj:=@PyProof.Rows.get?_update_seq
def Gk:=@Option.map_some
def Gm:=@List.nil_append
def Gn:=@List.filter_nil
def Go:=@Int.emod_nonneg
def Gp:=@beq_eq_false_iff_ne
def Gq:=@Nat.add_sub_cancel'
def Gr:=@List.reverse_append
def Gs:=@List.length_zipWith
def Gu:=@List.getElem?_range
def Gv:=@List.filterMap_cons
def Gw:=@Nat.ne_of_gt
def Gx:=@Nat.min_self
def Gy:=@Int.zero_add
def Gz:=@PySem.wpAny_newList
def Ha:=@of_decide_eq_false
def Hb:=@Nat.mod_two_eq_zero_or_one
def Hd:=@Bool.and_false
def He:=@PySem.wpAny_passesOwn
def Hg:=@List.take_add_one
def Hh:=@List.drop_sublist
def Hi:=@PySem.F.args_tuple_mul_2
def Hj:=@PySem.F.args_tuple_add_2
def Hk:=@List.sum_cons
def Hl:=@List.cons.inj
def Hm:=@Bool.and_true
def Hn:=@PySem.wpAny_pyIter_tuple
def Ho:=@PySem.wpAny_Call_Name_kw
def Hq:=@PySem.Obj.data_mapFields
def Hr:=@PySem.wpAny_truthy_bool
def Hs:=@PySem.wpAny_pyIter_enum
def Ht:=@PySem.Heap.get?_push_ne
def Hu:=@PySem.wpAny_standAt
def Hv:=@PyProof.Rows.wpS_get
namespace PySem.W.Fast
def tw779687432954003595:=0
def tw10114055341484501369:=0
def tw15672388918260916036:=0
def tw18121641101434066036:=0
def tw1441472707666349616:=0
def tw3193884792031592482:=0
def tw6101270271893710023:=0
def tw8329505288598293074:=0
def tw2465929759879896303:=0
def tw9982751815539955719:=0
def tw6022618522976222761:=0
def tw4133138616776200358:=0
def tw4222977885281740424:=0
def tw17924277561652889188:=0
def tw2185677993415205186:=0
def tw12121402186309325231:=0
def tw9464192094508393152:=0
def tw943378686963317724:=0
def tw685370969324056620:=0
def tw15065021647896577002:=0
def tw11368250058927792033:=0
def tw363605704215361851:=0
def tw16890219404712508631:=0
def tw12766579863993005546:=0
def tw14654826386589827719:=0
def tw5483160631159765409:=0
def tw15170833938989683568:=0
def tw18017926659005034959:=0
def tw13273726084419440581:=0
def tw5973748250902686566:=0
def tw15462310339981623678:=0
def tw1476781991103324505:=0
def tw13627367829799007841:=0
def tw10135048704992012700:=0
def tw8966142746617699489:=0
def tw11035893864157559970:=0
def tw5885340544775530848:=0
def tw13968727845543177366:=0
def tw10568159730724572802:=0
def tw9374211835061988306:=0
def tw4019938270034277234:=0
def tw15680563566163892193:=0
def tw10364772871252814698:=0
def tw12184203119221573007:=0
def tw15584401630916319265:=0
def tw8830552807804216565:=0
def tw9728639011870577182:=0
def tw5288057111997584852:=0
def tw2318114626036661436:=0
def tw4139678151338538706:=0
def tw18189625059182214162:=0
def tw12168299714186227646:=0
def tw3414913517427227367:=0
def tw16761383428986802258:=0
def tw2021832308038572405:=0
def tw13554866168194556436:=0
def tw7691865339418827683:=0
def tw17274928384510296888:=0
def tw17704673265717607969:=0
def tw6426734184166915007:=0
def tw6925590898847423562:=0
def tw5092003809095947419:=0
def tw14396461436533404337:=0
def tw1938654444038171864:=0
def tw18247519028050086225:=0
def tw11652440323404114759:=0
def tw7682080538656279334:=0
def tw2502855913467189471:=0
def tw4095489729178952503:=0
def tw5385213219462933093:=0
def tw14107840429712777300:=0
def tw6080738447044420593:=0
def tw17987448004507148165:=0
def tw8940662406466448846:=0
def tw13807281345218991871:=0
def tw8862911955075699595:=0
def tw11595181534250258798:=0
def tw17632925862213006014:=0
def tw13420731592729975866:=0
def tw7902741996857987380:=0
def tw8324585277970471450:=0
def tw6296776718762831123:=0
def tw15108524608508413228:=0
def tw919056602800543350:=0
def tw4943636155311037153:=0
def tw10298879296877627591:=0
def tw10908364038427679621:=0
end PySem.W.Fast
theorem bS {α β}{o:Option α}{f:α->Option β}{b}(h:o.bind f=some b):∃a,o=some a/\f a=some b:=Option.bind_eq_some_iff.mp h
theorem sI {α}{a b:α}(h:some a=some b):a=b:=Option.some.inj h
namespace L2
open PySem PySem.Spec PyProof.Rows
theorem aG {P:Prop}(h:∀G:Prop,(P->G)->G):P:=h P id
end L2
set_option hygiene false
local macro_rules | `(tactic| nofun) => `(tactic| refine L2.aG fun _ qG=>?_)
local macro_rules | `(tactic| ac_rfl) => `(tactic| (refine qG ?_;clear qG))
local macro_rules | `(#v[$x]) => `((gArg (gC (.int $x))))
local macro_rules | `(#v[$x,0]) => `(some (.int $x,false))
local macro_rules | `(#v[$x,1]) => `(some (.lst $x,false))
local macro_rules | `(#v[$x,2]) => `(some (.lst $x,true))
local macro_rules | `(#v[$x,3]) => `(some (.tup $x,false))
local macro_rules | `(#v[$x,4]) => `((gArg (gVar $x)))
local macro_rules | `(#v[$x,5]) => `(some ($x,true))
local macro_rules | `(#v[$x,6]) => `(some ($x,false))
local macro_rules | `(#v[0,0,0]) => `((oI yes2 fun i j=>.int (i - j)))
local macro_rules | `(#v[0,0,1]) => `((oI cPow fun i j=>.int (i * 2 ^ j.toNat)))
local macro_rules | `(#v[0,0,2]) => `((oI (fun _ j=>decide (0 < j)) fun i j=>.int (i % j)))
local macro_rules | `(#v[0,0,3]) => `((oI cDiv fun i j=>.int (i / j)))
local macro_rules | `(#v[]) => `((by omega))
local macro_rules | `(#v[0,0,5]) => `(⟨by kernel_rfl,by kernel_rfl,by kernel_rfl,by decide +kernel,rfl,by decide +kernel,by decide +kernel⟩)
local macro_rules | `(#v[0,9]) => `((by decide))
local macro_rules | `(#v[0,0,7]) => `((by decide +kernel))
local macro_rules | `(tactic| omega) => `(tactic| first | lia | omega +splitDisjunctions)
set_option hygiene true
namespace L2
open PySem PySem.Spec PyProof.Rows
noncomputable abbrev Key:=Sum Int Str
noncomputable def zll:Key->Value->Bool
 |.inl k,v=>Value.isInt k v
 |.inr x,v=>Value.isStrOf x v
noncomputable def keyH (w:World):Key->Int
 |.inl k=>hashInt k
 |.inr x=>hashStr w x
theorem keyIs_shape:∀{k:Key}{v:Value},zll k v=true->(∃i t,k=Sum.inl i/\v=Value.int i t)\/(∃x t,k=Sum.inr x/\v=Value.str x t)
  | .inl i,v,h=>by
    obtain⟨t,e⟩:=Value.isInt_shape (k:=i) (v:=v) h;exact .inl ⟨i,t,rfl,e⟩
  | .inr x,v,h=>by
    obtain⟨t,e⟩:=Value.isStrOf_shape (x:=x) (v:=v) h;exact .inr ⟨x,t,rfl,e⟩
theorem zux (i:Int)(t:Tok):zll (.inl i) (.int i t)=true:=by simp [zll,Value.isInt]
theorem zrh (x:Str)(t:Tok):zll (.inr x) (.str x t)=true:=by simp [zll,Value.isStrOf]
theorem z5q (a b:Int):decide ((Sum.inl a:Key)=Sum.inl b)=(a == b):=by
 by_cases e:a=b
 ·subst e;simp
 ·have h : ¬ (Sum.inl a : Key) = Sum.inl b:=λq=>e (Sum.inl.inj q);rw[Bg h];exact (Gp.mpr e).symm
theorem z6l (a b:Str):decide ((Sum.inr a:Key)=Sum.inr b)=decide (a=b):=by
 by_cases e:a=b
 ·subst e;simp
 ·have h : ¬ (Sum.inr a : Key) = Sum.inr b:=λq=>e (Sum.inr.inj q);rw[Bg h,Bg e]
theorem z22 (a:Int)(b:Str):decide ((Sum.inl a:Key)=Sum.inr b)=false:=Bg (λq=>nomatch q)
theorem z4f (a:Str)(b:Int):decide ((Sum.inr a:Key)=Sum.inl b)=false:=Bg (λq=>nomatch q)
noncomputable def zai (prog:Program) (w:World):PySem.KeyKind prog w Key where
 is:=zll
 hash:=keyH w
 inj:=λv a b ha hb=>by
  rcases keyIs_shape ha with⟨i,t,rfl,rfl⟩|⟨x,t,rfl,rfl⟩
  ·rcases keyIs_shape hb with⟨j,u,rfl,e⟩|⟨y,u,rfl,e⟩
   ·injection e with e1 _;rw[e1]
   ·exact nomatch e
  ·rcases keyIs_shape hb with⟨j,u,rfl,e⟩|⟨y,u,rfl,e⟩
   ·exact nomatch e
   ·injection e with e1 _;rw[e1]
 byValue:=λk v h=>by
  rcases keyIs_shape h with⟨i,t,rfl,rfl⟩|⟨x,t,rfl,rfl⟩<;>rfl
 pyHash:=λhv h=>by
  rcases keyIs_shape hv with⟨i,t,rfl,rfl⟩|⟨x,t,rfl,rfl⟩
  ·exact wpAny_pyHash_int h
  ·exact wpAny_pyHash_str h
 eqBool:=λhu hv h=>by
  rcases keyIs_shape hu with⟨i,t,rfl,rfl⟩|⟨x,t,rfl,rfl⟩
  ·rcases keyIs_shape hv with⟨j,u,rfl,rfl⟩|⟨y,u,rfl,rfl⟩
   ·rw[z5q] at h;exact wpAny_eqBool_int h
   ·rw[z22] at h;exact SeqAt.EqAt.int_str i t y u _ _ _ _ h
  ·rcases keyIs_shape hv with⟨j,u,rfl,rfl⟩|⟨y,u,rfl,rfl⟩
   ·rw[z4f] at h;exact SeqAt.EqAt.str_int x t j u _ _ _ _ h
   ·rw[z6l] at h;exact wpAny_eqBool_str h
 «strs»:=λk x t v h=>by
  rcases keyIs_shape h with⟨i,u,rfl,e⟩|⟨y,u,rfl,e⟩
  ·exact nomatch e
  ·injection e with e1 _;subst e1;cases v<;>rfl
theorem zmt (prog:Program)(w:World)(i:Int)(t:Tok):(zai prog w).is (.inl i) (.int i t)=true:=zux i t
theorem zlx (prog:Program)(w:World)(x:Str)(t:Tok):(zai prog w).is (.inr x) (.str x t)=true:=zrh x t
inductive V where
 |non|bl (b:Bool)|int (i:Int)|str (x:Str)|byt (b:Array UInt8)|flt (b:UInt64)|ref (a:Addr)|ty (n:String)
 deriving DecidableEq
noncomputable def RelV:V->Value->Prop
 |.non,u=>u=Value.none
 |.bl b,u=>u=Value.bool b
 |.int i,u=>∃t,u=Value.int i t
 |.str x,u=>∃t,u=Value.str x t
 |.byt b,u=>∃t,u=Value.bytes b t
 |.flt b,u=>∃t,u=Value.float b t
 |.ref a,u=>u=Value.ref a
 |.ty n,u=>u=Value.type n
noncomputable abbrev Vals:List V->List Value->Prop:=Paired RelV
theorem Vals.length {xs:List V}{us:List Value}(r:Vals xs us):xs.length=us.length:=Paired.length r
theorem Vals.get:∀{xs:List V}{us:List Value}{i:Nat}{x:V},Vals xs us->xs[i]?=some x->∃u,us[i]?=some u/\RelV x u
  |_,_,_,_,.nil,e=>by simp at e
  |_,_,0,_,.cons r _,e=>by simp at e;subst e;exact⟨_,rfl,r⟩
  | _,_,i+1,x,.cons _ t,e=>by
    obtain⟨u,h1,h2⟩:=Vals.get (i:=i) (x:=x) t (by simpa using e);exact⟨u,by simpa using h1,h2⟩
theorem Vals.set {x:V}{u:Value}(r:RelV x u):∀{xs:List V}{us:List Value} (i:Nat),Vals xs us->Vals (xs.set i x) (us.set i u)
 |_,_,_,.nil=>.nil
 |_,_,0,.cons _ t=>.cons r t
 |_,_,i+1,.cons q t=>.cons q (Vals.set r i t)
theorem Vals.append:∀{xs ys:List V}{us ws:List Value},Vals xs us->Vals ys ws->Vals (xs++ys) (us++ws)
 |_,_,_,_,.nil,s=>s
 |_,_,_,_,.cons r t,s=>.cons r (Vals.append t s)
theorem Vals.take:∀{xs:List V}{us:List Value} (n:Nat),Vals xs us->Vals (xs.take n) (us.take n)
 |_,_,0,_=>.nil
 |_,_,_+1,.nil=>.nil
 |_,_,n+1,.cons r t=>.cons r (Vals.take n t)
theorem Vals.drop:∀{xs:List V}{us:List Value} (n:Nat),Vals xs us->Vals (xs.drop n) (us.drop n)
 |_,_,0,r=>r
 |_,_,_+1,.nil=>.nil
 |_,_,n+1,.cons _ t=>Vals.drop n t
noncomputable def RelO:Option V->Option Value->Prop
 |some v,some u=>RelV v u
 |none,none=>True
 |_,_=>False
noncomputable def KV {κ:Type}:List (κ × V)->List (κ × Value)->Prop:=Paired λ(p:κ × V) (q:κ × Value)=>p.1=q.1/\RelV p.2 q.2
noncomputable def kV:Key->V
 |.inl i=>.int i
 |.inr x=>.str x
inductive HO where
 /-- a list -/
 |lst (xs:List V)
 /-- a tuple (never changes) -/
 |tup (xs:List V)
 /-- a dict whose keys are ints and texts;one whose keys are tuples of ints and texts (the empty one is both) -/
 |dK (kvs:List (Key × V))|dT (kvs:List (List Key × V))
 /-- a set of ints: its members,its size -/
 |set (S:Int->Bool) (n:Nat)
 /-- an instance of the class at C,its dict at dx,its attributes -/
 |ins (C dx:Addr) (fs:List (Str × V))
 /-- the dict of the instance at x -/
 |own (x:Addr)
 /-- the dict of an exception -/
 |xd (fs:List (Str × V))
 /-- a bound method,f of x -/
 |met (f x:Addr)
 /-- a range object lo,lo+1,.. below hi -/
 |rng (lo hi:Int)
 /-- a thing that is known to the object (the script;a dict while a loop walks it): read,never written while it is so -/
 |frz (o:Obj) (u:HO)
 /-- a code object's table -/
 |tbl (ps:Array Value)
 /-- any other thing,by what is true of its one object (a def of one's own: SetO a S n:=HO.ext λh=>..) -/
 |ext (φ:Heap->Prop)
noncomputable abbrev Hp:=Addr->Option HO
noncomputable def upd (H:Hp) (a:Addr) (o:HO):Hp:=λb=>if b=a then some o else H b
theorem upd_same {H:Hp}{a:Addr}{o:HO}:upd H a o a=some o:=by unfold upd;rw[if_pos rfl]
theorem upd_ne {H:Hp}{a b:Addr}{o:HO}(h:b≠a):upd H a o b=H b:=by unfold upd;rw[if_neg h]
theorem zmx {H:Hp}{a:Addr}{o u:HO}:upd (upd H a o) a u=upd H a u:=by
 funext b;unfold upd;split<;>rfl
theorem zrr {H:Hp}{a b:Addr}{o u:HO}(h:H a=some o)(h' : H b=some u)(d:o≠u):a≠b:=by
 intro e;subst e;rw[h] at h';exact d (sI h')
theorem zab {H:Hp}{a b:Addr}{o:HO}(h:H a=some o)(h' : H b=none):a≠b:=by
 intro e;subst e;rw[h] at h';cases h'
noncomputable def zhi (h:Heap) (a:Addr) (items:Array Value):Prop:=∃o,h.get? a=some o/\(o.cls=.type "tuple"/\∃n,o.data=.seq items n)/\o.dict=none
theorem zhi.t {h:Heap}{a:Addr}{items:Array Value}(x:zhi h a items):IsTup h a items:=let ⟨o,e,r,_⟩:=x;⟨o,e,r⟩
theorem zhi.new (h:Heap)(items:Array Value):zhi (h.push { cls:=.type "tuple",data:=.seq items }) h.objs.size items:=⟨_,Ak _ rfl,⟨rfl,_,rfl⟩,rfl⟩
section
variable (P:Program) (w:World)
noncomputable def ObjOk (H:Hp) (h:Heap) (a:Addr):HO->Prop
 |.lst xs=>xs.length<=sizeLine/\∃(its:List Value) (n:Nat),Vals xs its/\h.get? a=some { cls:=.type "list",data:=.seq its.toArray n }
 |.tup xs=>xs.length<=sizeLine/\∃its:List Value,Vals xs its/\zhi h a its.toArray
 |.dK kvs=>kvs.length<=sizeLine/\(a == sysModules)=false/\∃vs,KV kvs vs/\h.DictOf (zai P w) a vs
 | .dT kvs=>kvs.length<=sizeLine/\(a == sysModules)=false/\∃xs:List (List Key × Addr × Value),
   Paired (λ(p:List Key × V) (q:List Key × Addr × Value)=>p.1=q.1/\H q.2.1=some (.tup (p.1.map kV))/\RelV p.2 q.2.2) kvs xs /\
   ∃o es ep,h.get? a=some o/\o.ExactDict/\o.data=.dict es ep/\es.toList=xs.map (entryOfKey (tupleKind (zai P w)))/\(xs.map (·.1)).Nodup
 |.set S n=>h.SetOf (intKind P w) a S n
 | .ins C dx fs=>H dx=some (.own a)/\fs.length<=1000/\dx≠a/\h.get? a=some (PySem.W.instObj C dx) /\
   ∃mA,h.Ns1 dx mA/\(∀f,RelO (fs.lookup f) (mA f))/\PySem.Within mA (fs.map (·.1))
 |.own _=>∃o,h.get? a=some o
 |.xd fs=>∃mA,h.Ns1 a mA/\∀f,RelO (fs.lookup f) (mA f)
 |.rng lo hi=>∃t u v,h.get? a=some { cls:=.type "range",data:=.fields #[.int lo t,.int hi u,.int 1 v] }
 |.frz o u=>h.get? a=some o/\ObjOk H h a u
 |.tbl ps=>h.get? a=some { cls:=.none,data:=.fields ps }
 |.met f x=>h.get? a=some (PySem.W.methodObj (.ref f) (.ref x))
 |.ext φ=>φ h/\(∃o,h.get? a=some o)/\∀h1 h2:Heap,φ h1->(∀o,h1.get? a=some o->h2.get? a=some o)->φ h2
noncomputable def HOk (H:Hp) (h:Heap):Prop:=∀a o,H a=some o->ObjOk P w H h a o
end
section
variable {P:Program}{w:World}{H H' : Hp}{h h' : Heap}{a:Addr}{o:HO}
theorem ObjOk.lt (x:ObjOk P w H h a o):a<h.objs.size:=by
 cases o with
 |lst xs=>obtain⟨_,_,_,_,e⟩:=x;exact Ao e
 |tup xs=>obtain⟨_,_,_,p⟩:=x;exact p.t.lt
 |dK kvs=>obtain⟨_,_,_,_,o,_,_,e,_⟩:=x;exact Ao e
 |dT kvs=>obtain⟨_,_,_,_,o,_,_,e,_⟩:=x;exact Ao e
 |set S n=>obtain⟨o,_,_,_,e,_⟩:=x;exact Ao e
 |ins C dx fs=>obtain⟨_,_,_,e,_⟩:=x;exact Ao e
 |own y=>obtain⟨_,e⟩:=x;exact Ao e
 |xd fs=>obtain⟨_,⟨_,_,_,e,_⟩,_⟩:=x;exact Ao e
 |rng lo hi=>obtain⟨_,_,_,e⟩:=x;exact Ao e
 |frz ob u=>obtain⟨e,_⟩:=x;exact Ao e
 |tbl ps=>exact Ao (show h.get? a=some _ from x)
 |met f y=>exact Ao (show h.get? a=some _ from x)
 |ext φ=>obtain⟨_,⟨_,e⟩,_⟩:=x;exact Ao e
theorem Paired.mapP {α β:Type}{F G:α->β->Prop}:∀{l₁:List α}{l₂:List β},Paired F l₁ l₂->(∀a b,F a b->G a b)->Paired G l₁ l₂
 |_,_,.nil,_=>.nil
 |_,_,.cons r t,f=>.cons (f _ _ r) (Paired.mapP t f)
theorem ObjOk.stay (x:ObjOk P w H h a o) (k:∀b u,(b=a\/H b=some (.own a))->h.get? b=some u->h'.get? b=some u)
    (ho:∀b,H b=some (.own a)->H' b=some (.own a)) (ht:∀b xs,H b=some (.tup xs)->H' b=some (.tup xs)):ObjOk P w H' h' a o:=by
  induction o with
  |lst xs=>obtain⟨z,its,n,r,e⟩:=x;exact⟨z,its,n,r,k _ _ (.inl rfl) e⟩
  |tup xs=>obtain⟨z,its,r,ob,e,c⟩:=x;exact⟨z,its,r,ob,k _ _ (.inl rfl) e,c⟩
  |dK kvs=>obtain⟨z,y,vs,r,ob,es,ep,e,c⟩:=x;exact⟨z,y,vs,r,ob,es,ep,k _ _ (.inl rfl) e,c⟩
  | dT kvs =>
    obtain⟨z,y,xs,r,ob,es,ep,e,c⟩:=x;exact⟨z,y,xs,Paired.mapP r λp q z=>⟨z.1,ht _ _ z.2.1,z.2.2⟩,ob,es,ep,k _ _ (.inl rfl) e,c⟩
  |set S n=>obtain⟨ob,es,ep,t,e,c⟩:=x;exact⟨ob,es,ep,t,k _ _ (.inl rfl) e,c⟩
  | ins C dx fs =>
    obtain⟨d,z,ne,e,mA,⟨od,es,ep,e2,c⟩,r⟩:=x;exact⟨ho _ d,z,ne,k _ _ (.inl rfl) e,mA,⟨od,es,ep,k _ _ (.inr d) e2,c⟩,r⟩
  |own y=>obtain⟨ob,e⟩:=x;exact⟨ob,k _ _ (.inl rfl) e⟩
  |xd fs=>obtain⟨mA,⟨od,es,ep,e,c⟩,r⟩:=x;exact⟨mA,⟨od,es,ep,k _ _ (.inl rfl) e,c⟩,r⟩
  |rng lo hi=>obtain⟨t,u,v,e⟩:=x;exact⟨t,u,v,k _ _ (.inl rfl) e⟩
  |frz ob u ih=>obtain⟨e,q⟩:=x;exact⟨k _ _ (.inl rfl) e,ih q⟩
  | tbl ps =>
    have e:h.get? a=some { cls:=.none,data:=.fields ps }:=x;show h'.get? a=some { cls:=.none,data:=.fields ps };exact k a _ (.inl rfl) e
  | met f y =>
    have e:h.get? a=some (PySem.W.methodObj (.ref f) (.ref y)):=x;show h'.get? a=some (PySem.W.methodObj (.ref f) (.ref y));exact k a _ (.inl rfl) e
  |ext φ=>obtain⟨p,⟨o,e⟩,st⟩:=x;exact⟨st _ _ p λo q=>k _ _ (.inl rfl) q,⟨o,k _ _ (.inl rfl) e⟩,st⟩
theorem HOk.lt (x:HOk P w H h)(e:H a=some o):a<h.objs.size:=(x a o e).lt
theorem HOk.fresh (x:HOk P w H h)(e:h.objs.size<=a):H a=none:=by
 cases q:H a with
 |none=>rfl
 |some u=>exact absurd (Bd (x.lt q) e) (Cj _)
theorem HOk.kept (x:HOk P w H h)(k:∀b u,h.get? b=some u->h'.get? b=some u):HOk P w H h':=λa o e =>
 (x a o e).stay (λb u _ q=>k b u q) (λ_ q=>q) λ_ _ q=>q
theorem HOk.laid (x:HOk P w H h)(k:∀b u,h.get? b=some u->h'.get? b=some u)(hp:h.objs.size<=a)(new:ObjOk P w (upd H a o) h' a o):HOk P w (upd H a o) h':=λb u e=>by
 have hn:=x.fresh hp;by_cases hb:b=a
 ·subst hb;rw[upd_same] at e;obtain rfl:=sI e;exact new
 ·rw[upd_ne hb] at e;exact (x b u e).stay (λc v _ q=>k c v q) (λc q=>by rw[upd_ne (zab q hn)];exact q) λc xs q=>by rw[upd_ne (zab q hn)];exact q
end
noncomputable def Rd (H:Hp) (a:Addr) (u:HO):Prop:=H a=some u\/∃o,H a=some (.frz o u)
theorem Rd.ok {P:Program}{w:World}{H:Hp}{h:Heap}{a:Addr}{u:HO}(r:Rd H a u)(x:HOk P w H h):ObjOk P w H h a u:=by
 rcases r with r|⟨o,r⟩
 ·exact x a u r
 ·obtain⟨_,q⟩:=x a _ r;exact q
noncomputable def Mut:Option HO->Prop
 |some (.lst _)=>True
 |some (.dK _)=>True
 |some (.dT _)=>True
 |some (.set _ _)=>True
 |some (.ins _ _ _)=>True
 |some (.ext _)=>True
 |_=>False
section
variable {P:Program}{w:World}{H:Hp}{h h' : Heap}{x e:Addr}{o' : HO}
theorem HOk.write (ok:HOk P w H h) (mu:Mut (H x)) (he:e=x\/H e=some (.own x)) (k:∀b u,b≠e->h.get? b=some u->h'.get? b=some u) (heo:∃u,h'.get? e=some u)
  (new:ObjOk P w (upd H x o') h' x o'):HOk P w (upd H x o') h':=λb u q=>by
 have nown:∀c y,H c=some (.own y)->c≠x:=λc y r z=>by subst z;rw[r] at mu;exact mu
 have ntup:∀c xs,H c=some (.tup xs)->c≠x:=λc xs r z=>by subst z;rw[r] at mu;exact mu
 by_cases hb:b=x
 ·subst hb;rw[upd_same] at q;obtain rfl:=sI q;exact new
 ·rw[upd_ne hb] at q;by_cases hbe:b=e
  ·have q' : H b=some (.own x):=by
    rcases he with z|z
    ·exact absurd (hbe.trans z) hb
    ·rw[hbe];exact z
   rw[q] at q';obtain rfl:=sI q';obtain⟨v,hv⟩:=heo;exact⟨v,by rw[hbe];exact hv⟩
  ·refine (ok b u q).stay (λc v hc r=>k c v ?_ r) (λc r=>by rw[upd_ne (nown c b r)]; exact r) λc xs r=>by rw[upd_ne (ntup c xs r)]; exact r
   rcases hc with rfl|hc
   ·exact hbe
   ·rintro rfl;rcases he with z|z
    ·exact nown c b hc z
    ·rw[hc] at z;cases z;exact hb rfl
end
structure Un (fs ex:List Addr) (H H' : Hp) (h h' : Heap):Prop where
 keep:∀b o,h.get? b=some o->H b=none->b ∉ fs->b ∉ ex->h'.get? b=some o
 slot:∀b o,h.get? b=some o->H b=none->b∈fs->b ∉ ex->∃sl,h'.get? b=some { o with slots:=sl }
 free:∀b o,h.get? b=some o->H b=none->b ∉ ex->H' b=none
 there:∀b o,h.get? b=some o->b ∉ ex->∃o',h'.get? b=some o'
 tups:∀b xs,H b=some (.tup xs)->H' b=some (.tup xs)
 frzs:∀b o u,H b=some (.frz o u)->H' b=some (.frz o u)
 tbls:∀b ps,H b=some (.tbl ps)->∃more,H' b=some (.tbl (ps++more))
section
variable {fs fs' ex ex' : List Addr}{H H1 H2:Hp}{h h1 h2 h' : Heap}{a x e:Addr}{o:HO}
theorem Un.any (u:Un fs ex H H1 h h1){b:Addr}{ob:Obj}(q:h.get? b=some ob)(n:H b=none)(hx:b ∉ ex):∃sl,h1.get? b=some { ob with slots:=sl }:=by
 by_cases hb:b∈fs
 ·exact u.slot b ob q n hb hx
 ·exact⟨ob.slots,u.keep b ob q n hb hx⟩
theorem Un.kept (k:∀b u,h.get? b=some u->h'.get? b=some u):Un fs ex H H h h' :=
 ⟨λb ob q _ _ _=>k b ob q,λb ob q _ _ _=>⟨ob.slots,k b ob q⟩,λ_ _ _ n _=>n,λb ob q _=>⟨ob,k b ob q⟩,λ_ _ q=>q,λ_ _ _ q=>q,λ_ ps q=>⟨#[],by rw[q];simp⟩⟩
theorem Un.refl:Un fs ex H H h h:=Un.kept λ_ _ q=>q
theorem Un.laid (k:∀b u,h.get? b=some u->h'.get? b=some u)(hp:h.objs.size<=a)(hn:H a=none):Un fs ex H (upd H a o) h h' where
 keep:=λb u q _ _ _=>k b u q
 slot:=λb u q _ _ _=>⟨u.slots,k b u q⟩
 free:=λb u q n _=>by rw[upd_ne (Bc (Bd (Ao q) hp))];exact n
 there:=λb u q _=>⟨u,k b u q⟩
 tups:=λb xs q=>by rw[upd_ne (zab q hn)];exact q
 frzs:=λb u xs q=>by rw[upd_ne (zab q hn)];exact q
 tbls:=λb ps q=>⟨#[],by rw[upd_ne (zab q hn),q];simp⟩
theorem Un.write (mu:Mut (H x))(he:e=x\/H e=some (.own x))(k:∀b u,b≠e->h.get? b=some u->h'.get? b=some u)(heo:∃u,h'.get? e=some u):Un fs ex H (upd H x o) h h':=by
 have hx:∀b,H b=none->b≠x:=λb n z=>by subst z;rw[n] at mu;exact mu
 have hb:∀b,H b=none->b≠e:=λb n z=>by
  subst z;rcases he with r|r
  ·exact hx b n r
  ·rw[n] at r;cases r
 have hm:∀b u,H b=some u->¬ Mut (some u)->b≠x:=λb u q nm z=>by subst z;rw[q] at mu;exact nm mu
 refine⟨λb u q n _ _=>k b u (hb b n) q,λb u q n _ _=>⟨u.slots,k b u (hb b n) q⟩,λb u q n _=>by rw[upd_ne (hx b n)];exact n,λb u q _=>?_,
  λb xs q=>by rw[upd_ne (hm b _ q λz=>z)];exact q,λb u xs q=>by rw[upd_ne (hm b _ q λz=>z)];exact q,λb ps q=>⟨#[],by rw[upd_ne (hm b _ q λz=>z),q];simp⟩⟩
 by_cases hbe:b=e
 ·subst hbe;exact heo
 ·exact⟨u,k b u hbe q⟩
end
noncomputable def trk (h:Heap) (H:Hp):List Addr:=(List.range h.objs.size).filter λa=>(H a).isSome
noncomputable def hidT (h:Heap) (H:Hp):Heap:=PySem.W.hideAll h (trk h H)
theorem zsk (h:Heap)(H:Hp):(hidT h H).objs.size=h.objs.size:=PySem.W.hideAll_size _ _
theorem zvq {h:Heap}{H:Hp}{b:Addr}{o:Obj}(e:h.get? b=some o)(n:H b=none):(hidT h H).get? b=some o :=
 PySem.W.hideAll_get _ e λhm=>by
  have q:(H b).isSome=true:=(El.mp hm).2;rw[n] at q;simp at q
theorem zzy {h:Heap}{H:Hp}{b:Addr}{o:Obj} (e:(hidT h H).get? b=some o):h.get? b=some o/\H b=none:=by
  have e' : h.get? b=some o:=PySem.W.of_hideAll (trk h H) e;refine⟨e',?_⟩;cases q:H b with
  |none=>rfl
  | some x =>
    have hm:b∈trk h H:=El.mpr ⟨Bz.mpr (Ao e'),by simp [q]⟩;have z:(hidT h H).get? b=none:=PySem.W.hideAll_none (trk h H) hm;rw[z] at e;cases e
noncomputable def zz3 (g h:Heap) (L:Addr):List (Addr × Obj):=(List.range h.objs.size).filterMap λa=>if a=L\/(g.get? a).isSome=true then none else (h.get? a).map λo=>(a,o)
noncomputable def rest (g h:Heap) (L d:Addr):List (Addr × Obj):=(zz3 g h L).filter λp=>decide (p.1≠d)
structure Mod (K:PySem.W.Frag) (mg:Str->Option Value) (base:Heap):Prop where
 kin:K.In base
 glob:base.Ns mainGlobals mg
 blt:∃mb,base.Ns builtinsNs mb/\∀x:Str,x≠"__name__" -> mb x=bootBuiltins x
 nolimit:base.NoLimit
 bmn:∃(b:Addr) (ob:Obj),mg "__builtins__" = some (.ref b)/\b≠builtinsNs/\base.get? b=some ob/\ob.cls=.type "module"/\ob.dict=some builtinsNs/\ob.data=.plain
structure Cx where
 prog:Program
 w:World
 K:PySem.W.Frag
 mg:Str->Option Value
 base:Heap
 A:Around
 N:List Str
 s₀:Shared
 H₀:Hp
 env:Env
 outer:List Env
 stack:List Env
 ex:List Addr
 fn:Str->Bool
 calm:Bool
 pn:List (Addr × Obj)
 xe:Value->Shared->Prop
noncomputable def frs (l:List Env):List Addr:=l.filterMap (·.frame)
noncomputable abbrev Cx.fs (X:Cx):List Addr:=frs X.outer
noncomputable def Vis (sc:Scope) (x:Str):Prop:=sc.names.lookup x=some .local\/sc.names.lookup x=some .cell\/sc.names.lookup x=some .free
noncomputable def Loc (sc:Scope) (x:Str):Prop:=sc.names.lookup x=some .local\/sc.names.lookup x=some .cell
noncomputable def Look (env:Env) (h:Heap) (m:Str->Option Value) (x:Str) (u:Value):Prop :=
 (env.kindOf x=some .local/\m x=some u)\/((env.kindOf x=some .cell\/env.kindOf x=some .free)/\∃c,env.cells.lookup x=some c/\h.IsCell c (some u))
structure Cx.Ok (X:Cx):Prop where
 mod:Mod X.K X.mg X.base
 kind:X.env.scope.kind=.function
 glob:X.env.globals=mainGlobals
 blt:X.env.builtins=builtinsNs
 above:X.s₀.heap.objs.size<=X.env.locals
 inj:∀x y c,X.env.cells.lookup x=some c->X.env.cells.lookup y=some c->x=y
 has:∀x,(X.env.kindOf x=some .cell\/X.env.kindOf x=some .free)->∃c,X.env.cells.lookup x=some c
 cab:∀x c,X.fn x=true->X.env.cells.lookup x=some c->X.s₀.heap.objs.size<=c
 hd:X.calm=true->X.A.handled=none
 frames:X.A.frames=some X.stack
 stk:X.stack=X.outer\/(X.stack=X.env::X.outer/\X.env.frame=some X.env.locals)
 exf:∀b∈X.ex,b≠X.env.locals/\∀x c,X.env.cells.lookup x=some c->c≠b
 bs:∀b o,X.base.get? b=some o->X.s₀.heap.get? b=some o/\X.H₀ b=none
 bsz:X.base.objs.size<=X.s₀.heap.objs.size
 noex:∀b o,X.base.get? b=some o->b ∉ X.ex
 exfs:∀b∈X.ex,b ∉ X.fs
 funs:X.s₀.heap.FunFrames X.base X.outer
 frf:∀b∈X.fs,X.H₀ b=none
structure Inv (X:Cx) (pins:List (Addr × Obj)) (σ:List (Option V)) (H:Hp) (s:Shared):Prop where
 ok:X.Ok
 os:s.os=X.s₀.os
 bare:AllBare s.gens
 base:Un X.fs X.ex X.H₀ H X.s₀.heap s.heap
 loc:∃m,s.heap.Ns X.env.locals m/\∀(i:Nat) (x:Str) (v:V),X.N[i]?=some x->σ[i]?=some (some v)->Vis X.env.scope x->∃u,RelV v u/\Look X.env s.heap m x u
 cell:∀x c,X.env.cells.lookup x=some c->∃v,s.heap.IsCell c v
 free:H X.env.locals=none
 freeC:∀x c,X.env.cells.lookup x=some c->H c=none
 pin:∀p∈X.pn++pins,s.heap.get? p.1=some p.2/\H p.1=none/\p.1≠X.env.locals/\p.1 ∉ X.fs/\∀v,p.2.data≠.cell v
 hok:HOk X.prog X.w H s.heap
 len:σ.length=X.N.length
section
variable {X:Cx}{pins:List (Addr × Obj)}{σ:List (Option V)}{H H' : Hp}{s:Shared}{h' : Heap}
theorem Cx.Ok.nofr (ok:X.Ok){b:Addr}{o:Obj}(e:X.base.get? b=some o):b ∉ X.fs:=λhb=>by
 have:=(ok.funs.mem hb).1;rw[e] at this;cases this
theorem Inv.bs (I:Inv X pins σ H s):∀b o,X.base.get? b=some o->s.heap.get? b=some o/\H b=none:=λb o e =>
 ⟨I.base.keep b o (I.ok.bs b o e).1 (I.ok.bs b o e).2 (I.ok.nofr e) (I.ok.noex b o e),I.base.free b o (I.ok.bs b o e).1 (I.ok.bs b o e).2 (I.ok.noex b o e)⟩
theorem Inv.bk (I:Inv X pins σ H s):∀b o,X.base.get? b=some o->s.heap.get? b=some o:=λb o e=>(I.bs b o e).1
theorem Inv.mod (I:Inv X pins σ H s):Mod X.K X.mg X.base:=I.ok.mod
theorem Inv.kIn (I:Inv X pins σ H s):X.K.In s.heap:=I.ok.mod.kin.keeps I.bk
theorem Inv.lt (I:Inv X pins σ H s):X.env.locals<s.heap.objs.size:=let ⟨_,hn,_⟩:=I.loc;hn.lt
theorem Inv.sz (I:Inv X pins σ H s):X.s₀.heap.objs.size<=s.heap.objs.size:=Bv I.ok.above (Nat.le_of_lt I.lt)
theorem Inv.nofs (I:Inv X pins σ H s){a:Addr}(h:s.heap.objs.size<=a):a ∉ X.fs:=λhb=>by
 obtain⟨_,o,ho,_⟩:=I.ok.funs.mem hb;exact absurd (Bd (Ao ho) (Bv I.sz h)) (Cj _)
theorem Inv.cne (I:Inv X pins σ H s):∀x c,X.env.cells.lookup x=some c->c≠X.env.locals:=λx c e z=>by
 obtain⟨v,o,ho,hd⟩:=I.cell x c e;obtain⟨m,⟨o',es,ep,ho',hd',_⟩,_⟩:=I.loc;rw[z,ho'] at ho;obtain rfl:=sI ho;rw[hd'] at hd;cases hd
theorem Inv.funs (I:Inv X pins σ H s):s.heap.FunFrames X.base X.outer:=by
  have all:∀(l:List Env),(∀b∈frs l,b∈X.fs)->X.s₀.heap.FunFrames X.base l->s.heap.FunFrames X.base l:=by
    intro l
    induction l with
    |nil=>intro _ _;trivial
    | cons env r ih =>
      intro hs hl;nofun;obtain⟨hk,⟨L,o,hf,hn,ho,hd⟩,hr⟩:=hl;ac_rfl;have hL:L∈X.fs:=hs L (by unfold frs;rw[Gv,hf];exact Av);obtain⟨sl,e⟩:=I.base.slot L o ho (I.ok.frf L hL) hL λz=>I.ok.exfs L z hL;exact⟨hk,⟨L,_,hf,hn,e,hd⟩,ih (λb hb=>hs b (by unfold frs;rw[Gv,hf];exact As _ hb)) hr⟩
  exact all X.outer (λ_ hb=>hb) I.ok.funs
theorem Inv.stack (I:Inv X pins σ H s):s.heap.FunFrames X.base X.stack:=by
 rcases I.ok.stk with e|⟨e,hf⟩
 ·rw[e];exact I.funs
 ·rw[e];obtain⟨m,hn,_⟩:=I.loc;refine .cons (by rw[I.ok.kind];decide) hf hn ?_ I.funs;exact Heap.get?_none_of_le (Bv I.ok.bsz I.ok.above)
theorem Inv.stkSub (I:Inv X pins σ H s):∀b∈frs X.stack,b∈X.env.locals::X.fs:=λb hb=>by
 rcases I.ok.stk with e|⟨e,hf⟩
 ·rw[e] at hb;exact As _ hb
 ·rw[e] at hb;unfold frs at hb;rw[Gv,hf] at hb;exact hb
theorem Inv.stkFree (I:Inv X pins σ H s):∀b∈frs X.stack,H b=none:=λb hb=>by
 rcases At.mp (I.stkSub b hb) with e|hb
 ·rw[e];exact I.free
 ·obtain⟨_,o,ho,_⟩:=I.ok.funs.mem hb;exact I.base.free b o ho (I.ok.frf b hb) λz=>I.ok.exfs b z hb
theorem Inv.step {g' : Array GenState}{t' : Nat}{d' : Drawn}{ch:List Addr} (I:Inv X pins σ H s)
  (hch:∀b∈ch,(b∈X.ex\/X.s₀.heap.objs.size<=b)/\b≠X.env.locals/\(∀x c,X.env.cells.lookup x=some c->c≠b)/\∀p∈X.pn++pins,p.1≠b)
  (keep:∀b o,b≠X.env.locals->b ∉ X.fs->b ∉ ch->s.heap.get? b=some o->H b=none->h'.get? b=some o)
  (slot:∀b o,b≠X.env.locals->b∈X.fs->b ∉ ch->s.heap.get? b=some o->H b=none->∃sl,h'.get? b=some { o with slots:=sl }) (free:∀b o,b ∉ ch->s.heap.get? b=some o->H b=none->H' b=none)
  (there:∀b o,b ∉ ch->s.heap.get? b=some o->∃o',h'.get? b=some o')
  (tups:∀b xs,H b=some (.tup xs)->H' b=some (.tup xs)) (frzs:∀b o u,H b=some (.frz o u)->H' b=some (.frz o u)) (tbls:∀b ps,H b=some (.tbl ps)->∃more,H' b=some (.tbl (ps++more)))
  (ns:∀m,s.heap.Ns X.env.locals m->h'.Ns X.env.locals m) (hok:HOk X.prog X.w H' h') (hg:AllBare g') :
  Inv X pins σ H' { s with heap:=h',gens:=g',drawn:=d',toks:=t' }:=by
 have neL:∀b o,X.s₀.heap.get? b=some o->b≠X.env.locals:=λb o e=>Bc (Bd (Ao e) I.ok.above);have neC:∀b o,X.s₀.heap.get? b=some o->b ∉ X.ex->b ∉ ch:=λb o e hx hb=>by
  rcases (hch b hb).1 with z|z
  ·exact hx z
  ·exact absurd (Bd (Ao e) z) (Cj _)
 have cellK:∀x c,X.env.cells.lookup x=some c->∀v,s.heap.IsCell c v->h'.IsCell c v:=λx c e v ⟨o,ho,hd⟩=>by
  have nch:c ∉ ch:=λz=>(hch c z).2.2.1 x c e rfl;by_cases hc:c∈X.fs
  ·obtain⟨sl,q⟩:=slot c o (I.cne x c e) hc nch ho (I.freeC x c e);exact⟨_,q,hd⟩
  ·exact⟨o,keep c o (I.cne x c e) hc nch ho (I.freeC x c e),hd⟩
 refine⟨I.ok,I.os,hg,⟨λb o e n hb hx=>?_,λb o e n hb hx=>?_,λb o e n hx=>?_,λb o e hx=>?_,λb xs e=>tups b xs (I.base.tups b xs e),λb o xs e=>frzs b o xs (I.base.frzs b o xs e),λb ps e=>?_⟩,?_,λx c e=>?_,?_,λx c e=>?_,λp hp=>?_,hok,I.len⟩
 ·exact keep b o (neL b o e) hb (neC b o e hx) (I.base.keep b o e n hb hx) (I.base.free b o e n hx)
 ·obtain⟨sl,e1⟩:=I.base.slot b o e n hb hx;obtain⟨sl',e2⟩:=slot b _ (neL b o e) hb (neC b o e hx) e1 (I.base.free b o e n hx);exact⟨sl',e2⟩
 ·obtain⟨o', e1⟩:=I.base.there b o e hx;exact free b o' (neC b o e hx) e1 (I.base.free b o e n hx)
 ·obtain⟨o', e1⟩:=I.base.there b o e hx;exact there b o' (neC b o e hx) e1
 ·obtain⟨m1,e1⟩:=I.base.tbls b ps e;obtain⟨m2,e2⟩:=tbls b _ e1;exact⟨m1++m2,by rw[e2,Array.append_assoc]⟩
 ·obtain⟨m,hn,hl⟩:=I.loc;refine⟨m,ns m hn,λi x v e1 e2 e3=>?_⟩;obtain⟨u,r,l⟩:=hl i x v e1 e2 e3;refine⟨u,r,?_⟩;rcases l with l|⟨k,c,e,z⟩
  ·exact .inl l
  ·exact .inr ⟨k,c,e,cellK x c e _ z⟩
 ·obtain⟨v,z⟩:=I.cell x c e;exact⟨v,cellK x c e v z⟩
 ·obtain⟨m,⟨o,_,_,ho,_⟩,_⟩:=I.loc;exact free _ o (λz=>(hch _ z).2.1 rfl) ho I.free
 ·obtain⟨v,o,ho,hd⟩:=I.cell x c e;exact free c o (λz=>(hch c z).2.2.1 x c e rfl) ho (I.freeC x c e)
 ·obtain⟨e,n,ne,nf,d⟩:=I.pin p hp;have nch:p.1 ∉ ch:=λz=>(hch p.1 z).2.2.2 p hp rfl;exact⟨keep p.1 p.2 ne nf nch e n,free p.1 p.2 nch e n,ne,nf,d⟩
theorem Inv.un {t' : Nat}(I:Inv X pins σ H s)(u:Un X.fs [] H H' s.heap h')(hok:HOk X.prog X.w H' h'):Inv X pins σ H' { s with heap:=h',toks:=t' }:=by
 obtain⟨m,⟨o,es,ep,ho,r⟩,_⟩:=id I.loc;obtain⟨sl,hL⟩:=u.any ho I.free (by simp);exact I.step (g':=s.gens) (d':=s.drawn) (ch:=[]) (λ_ z=>nomatch z) (λb o _ hb _ e n=>u.keep b o e n hb (by simp)) (λb o _ hb _ e n=>u.slot b o e n hb (by simp)) (λb o _ e n=>u.free b o e n (by simp)) (λb o _ e=>u.there b o e (by simp)) u.tups u.frzs u.tbls (λm' hm=>by
  obtain⟨o',es',ep',ho',r'⟩:=hm;rw[ho] at ho';obtain rfl:=sI ho';exact⟨_,es',ep',hL,r'⟩) hok I.bare
theorem Inv.call {g' : Array GenState}{t' : Nat}{d' : Drawn}{ch:List Addr} (I:Inv X pins σ H s) (u:Un (frs X.stack) ch H H' s.heap h') (hok:HOk X.prog X.w H' h') (hg:AllBare g')
  (hch:∀b∈ch,(b∈X.ex\/X.s₀.heap.objs.size<=b)/\b≠X.env.locals/\(∀x c,X.env.cells.lookup x=some c->c≠b)/\∀p∈X.pn++pins,p.1≠b) :
  Inv X pins σ H' { s with heap:=h',gens:=g',drawn:=d',toks:=t' }:=by
 obtain⟨m,⟨o,es,ep,ho,r⟩,_⟩:=id I.loc;obtain⟨sl,hL⟩:=u.any ho I.free λz=>(hch _ z).2.1 rfl;exact I.step (ch:=ch) hch (λb o hL hb hc e n=>u.keep b o e n (λz=>(At.mp (I.stkSub b z)).elim hL hb) hc) (λb o _ _ hc e n=>u.any e n hc) (λb o hc e n=>u.free b o e n hc) (λb o hc e=>u.there b o e hc) u.tups u.frzs u.tbls (λm' hm=>by
  obtain⟨o',es',ep',ho',r'⟩:=hm;rw[ho] at ho';obtain rfl:=sI ho';exact⟨_,es',ep',hL,r'⟩) hok hg
theorem Inv.turned {t' : Nat}{it:Addr} (I:Inv X pins σ H s) (k:∀b o,b≠it->s.heap.get? b=some o->h'.get? b=some o) (hn:H it=none) (hL:it≠X.env.locals)
  (h1:it∈X.ex\/X.s₀.heap.objs.size<=it) (h2:∀x c,X.env.cells.lookup x=some c->c≠it) (h3:∀p∈X.pn++pins,p.1≠it):Inv X pins σ H { s with heap:=h',toks:=t' }:=by
 have nit:∀b u,H b=some u->b≠it:=λb u e z=>by rw[z,hn] at e;cases e
 refine I.step (g':=s.gens) (d':=s.drawn) (ch:=[it]) (λb hb=>?_) (λb o _ _ hc e _=>k b o (λz=>hc (by simp [z])) e) (λb o _ _ hc e _=>⟨o.slots,k b o (λz=>hc (by simp [z])) e⟩) (λ_ _ _ _ n=>n)
  (λb o hc e=>⟨o,k b o (λz=>hc (by simp [z])) e⟩) (λ_ _ e=>e) (λ_ _ _ e=>e) (λb ps e=>⟨#[],by rw[e];simp⟩) (λm hm=>?_) (λb u e=>?_) I.bare
 ·have e : b = it:=by simpa using hb
  subst e;exact⟨h1,hL,h2,h3⟩
 ·obtain⟨o,es,ep,ho,r⟩:=hm;exact⟨o,es,ep,k _ o (Ne.symm hL) ho,r⟩
 ·refine (I.hok b u e).stay (λc v hc q=>k c v ?_ q) (λ_ q=>q) λ_ _ q=>q;rcases hc with z|z
  ·rw[z];exact nit b u e
  ·exact nit c _ z
theorem Inv.tok (I:Inv X pins σ H s)(t:Nat):Inv X pins σ H { s with toks:=t }:=I.un (h':=s.heap) (t':=t) Un.refl I.hok
theorem Inv.kept {t' : Nat}(I:Inv X pins σ H s)(k:∀b u,s.heap.get? b=some u->h'.get? b=some u):Inv X pins σ H { s with heap:=h',toks:=t' }:=I.un (Un.kept k) (I.hok.kept k)
theorem Inv.laid {a:Addr}{o:HO}{t' : Nat} (I:Inv X pins σ H s) (k:∀b u,s.heap.get? b=some u->h'.get? b=some u) (hp:s.heap.objs.size<=a) (new:ObjOk X.prog X.w (upd H a o) h' a o) :
  Inv X pins σ (upd H a o) { s with heap:=h',toks:=t' }:=I.un (Un.laid k hp (I.hok.fresh hp)) (I.hok.laid k hp new)
theorem Inv.write {x e:Addr}{o:HO}{t' : Nat} (I:Inv X pins σ H s) (mu:Mut (H x)) (he:e=x\/H e=some (.own x)) (k:∀b u,b≠e->s.heap.get? b=some u->h'.get? b=some u) (heo:∃u,h'.get? e=some u)
  (new:ObjOk X.prog X.w (upd H x o) h' x o):Inv X pins σ (upd H x o) { s with heap:=h',toks:=t' }:=I.un (Un.write mu he k heo) (I.hok.write mu he k heo new)
theorem Inv.pins_of {pins' : List (Addr × Obj)}(I:Inv X pins σ H s)(h:∀p∈pins',s.heap.get? p.1=some p.2/\H p.1=none/\p.1≠X.env.locals/\p.1 ∉ X.fs/\∀v,p.2.data≠.cell v):Inv X pins' σ H s :=
 ⟨I.ok,I.os,I.bare,I.base,I.loc,I.cell,I.free,I.freeC,λp hp=>(Bo.mp hp).elim (λz=>I.pin p (De _ z)) (h p),I.hok,I.len⟩
theorem zoo {N:List Str}(hN:N.Nodup){i j:Nat}{x:Str}(a:N[i]?=some x)(b:N[j]?=some x):i=j:=by
 obtain⟨h1,e1⟩:=Ai.mp a;obtain⟨h2,e2⟩:=Ai.mp b;exact (List.getElem_inj hN).mp (e1.trans e2.symm)
theorem zjt {M:Model}{A:Around}{E:Value->Shared->Prop}{i:Nat}{x:Str}{v:V}{u:Value}{Q:Unit->Shared->Prop} (I:Inv X pins σ H s) (hN:X.N.Nodup) (hi:X.N[i]?=some x) (hx:Loc X.env.scope x) (r:RelV v u)
  (h:∀s',Inv X pins (σ.set i (some v)) H s'->(∃a,Heap.SameBut a s.heap s'.heap/\(a=X.env.locals\/X.env.cells.lookup x=some a))->Q () s') (hf:X.fn x=true\/X.env.scope.names.lookup x=some .local:=by first|exact .inl rfl|exact .inr rfl|assumption):wpAny M A (storeName X.env x u) Q E s:=by
 obtain⟨m,hn,hl⟩:=id I.loc;have hcls:(X.env.scope.kind == .class || (X.env.scope.kind == .module && X.env.locals != X.env.globals))=false:=by rw[I.ok.kind];rfl
 have hiσ:i<σ.length:=by rw[I.len];exact (Ai.mp hi).1
 have cne:=I.cne;have tracked:∀{a:Addr}{h' : Heap},(∃o,s.heap.get? a=some o/\H a=none)->Heap.SameBut a s.heap h'->HOk X.prog X.w H h':=λ{a h'} ha hs b ob e=>by
  obtain⟨_,_,hfree⟩:=ha;refine (I.hok b ob e).stay (λc w' hc q=>(hs.2 c ?_).trans q) (λ_ q=>q) λ_ _ q=>q;rintro rfl;rcases hc with rfl|hc
  ·rw[hfree] at e;cases e
  ·rw[hfree] at hc;cases hc
 rcases hx with hk|hk
 ·refine wpAny_storeName_local hk hn (λh' hn' hs => ?_) hcls;obtain⟨oL,_,_,hoL,_⟩:=id hn;refine h _ ⟨I.ok,I.os,I.bare,⟨λb o e n hb hx=>?_,λb o e n hb hx=>?_,I.base.free,λb o e hx=>?_,I.base.tups,I.base.frzs,I.base.tbls⟩,⟨_,hn',λj y v' e1 e2 e3=>?_⟩,λy c e=>?_,I.free,I.freeC,λp hp=>?_,tracked ⟨oL,hoL,I.free⟩ hs,by simpa using I.len⟩ ⟨_,hs,.inl rfl⟩
  ·exact (hs.2 b (Bc (Bd (Ao e) I.ok.above))).trans (I.base.keep b o e n hb hx)
  ·obtain⟨sl,e1⟩:=I.base.slot b o e n hb hx;exact⟨sl,(hs.2 b (Bc (Bd (Ao e) I.ok.above))).trans e1⟩
  ·obtain⟨o', e1⟩:=I.base.there b o e hx;exact⟨o',(hs.2 b (Bc (Bd (Ao e) I.ok.above))).trans e1⟩
  ·by_cases hj : j = i
   ·subst hj;rw[hi] at e1;obtain rfl:=sI e1;rw[Dn hiσ] at e2;cases e2;exact⟨u,r,.inl ⟨hk,by simp⟩⟩
   ·rw[Df (Ne.symm hj)] at e2;obtain⟨u',r',q⟩:=hl j y v' e1 e2 e3;refine⟨u',r',?_⟩;rcases q with⟨k,e⟩|⟨k,c,e,z⟩
    ·refine .inl ⟨k, ?_⟩;have:y≠x:=λe=>hj (zoo hN e1 (e ▸ hi));simp [this,e]
    ·exact .inr ⟨k,c,e,z.sameBut hs (cne y c e)⟩
  ·obtain⟨w', z⟩:=I.cell y c e;exact⟨w',z.sameBut hs (cne y c e)⟩
  ·obtain⟨e,n,ne,nf,d⟩:=I.pin p hp;exact⟨(hs.2 p.1 ne).trans e,n,ne,nf,d⟩
 ·have hfn:X.fn x=true:=by
   rcases hf with z|z
   ·exact z
   ·rw[z] at hk;cases hk
  obtain⟨c,hc⟩:=I.ok.has x (.inl hk);obtain⟨w',z⟩:=I.cell x c hc;refine wpAny_storeName_cell I.ok.kind hk hc z (λh' hc' hs=>?_);obtain⟨oc,hoc,hocd⟩:=id z;refine h { s with heap:=h' } ⟨I.ok,I.os,I.bare,⟨λb o e n hb hx=>?_,λb o e n hb hx=>?_,I.base.free,λb o e hx=>?_,I.base.tups,I.base.frzs,I.base.tbls⟩,⟨m,hn.sameBut hs (Ne.symm (cne x c hc)),λj y v' e1 e2 e3=>?_⟩,λy c' e=>?_,I.free,I.freeC,λp hp=>?_,tracked ⟨oc,hoc,I.freeC x c hc⟩ hs,by simpa using I.len⟩ ⟨c,hs,.inr hc⟩
  ·exact (hs.2 b (Bc (Bd (Ao e) (I.ok.cab x c hfn hc)))).trans (I.base.keep b o e n hb hx)
  ·obtain⟨sl,e1⟩:=I.base.slot b o e n hb hx;exact⟨sl,(hs.2 b (Bc (Bd (Ao e) (I.ok.cab x c hfn hc)))).trans e1⟩
  ·obtain⟨o', e1⟩:=I.base.there b o e hx;exact⟨o',(hs.2 b (Bc (Bd (Ao e) (I.ok.cab x c hfn hc)))).trans e1⟩
  ·by_cases hj : j = i
   ·subst hj;rw[hi] at e1;obtain rfl:=sI e1;rw[Dn hiσ] at e2;cases e2;exact⟨u,r,.inr ⟨.inl hk,c,hc,hc'⟩⟩
   ·rw[Df (Ne.symm hj)] at e2;obtain⟨u',r',q⟩:=hl j y v' e1 e2 e3;refine⟨u',r',?_⟩;rcases q with q|⟨k,c',e,z'⟩
    ·exact .inl q
    ·refine .inr ⟨k,c', e,z'.sameBut hs ?_⟩;rintro rfl;exact hj (zoo hN e1 (I.ok.inj _ _ _ e hc ▸ hi))
  ·by_cases hcc : c' = c
   ·subst hcc;exact⟨_,hc'⟩
   ·obtain⟨w2,z2⟩:=I.cell y c' e;exact⟨w2,z2.sameBut hs hcc⟩
  ·obtain⟨e,n,ne,nf,d⟩:=I.pin p hp;refine⟨(hs.2 p.1 ?_).trans e,n,ne,nf,d⟩;intro q;rw[q,hoc] at e;have q' : oc=p.2:=sI e;exact d w' (by rw[<-q'];exact hocd)
theorem zpb {M:Model}{A:Around}{E:Value->Shared->Prop}{i:Nat}{x:Str}{v:V}{u:Value}{Q:Unit->Shared->Prop} (I:Inv X pins σ H s) (hN:X.N.Nodup) (hi:X.N[i]?=some x) (hx:Loc X.env.scope x) (r:RelV v u)
  (h:∀s',Inv X pins (σ.set i (some v)) H s'->Q () s') (hf:X.fn x=true\/X.env.scope.names.lookup x=some .local:=by first|exact .inl rfl|exact .inr rfl|assumption):wpAny M A (storeName X.env x u) Q E s :=
 zjt I hN hi hx r (λs' I' _=>h s' I') hf
theorem Inv.call' {s' : Shared}{ch:List Addr} (I:Inv X pins σ H s) (ho:s'.os=s.os) (u:Un (frs X.stack) ch H H' s.heap s'.heap) (hok:HOk X.prog X.w H' s'.heap) (hg:AllBare s'.gens)
  (hch:∀b∈ch,(b∈X.ex\/X.s₀.heap.objs.size<=b)/\b≠X.env.locals/\(∀x c,X.env.cells.lookup x=some c->c≠b)/\∀p∈X.pn++pins,p.1≠b):Inv X pins σ H' s':=by
 obtain⟨h',g',d',t',o'⟩:=s';have e:o'=s.os:=ho;subst e;exact I.call (g':=g') (t':=t') (d':=d') u hok hg hch
end
noncomputable abbrev XK:=Value->Option Addr->Hp->Prop
noncomputable abbrev St:=List (Option V)
noncomputable abbrev VK:=V->Hp->Prop
noncomputable abbrev TE:=St->Hp->VK->Prop
noncomputable abbrev TT:=St->Hp->(Bool->Hp->Prop)->Prop
noncomputable abbrev TA:=St->Hp->(List V->Hp->Prop)->Prop
structure Ends where
 nx:St->Hp->Prop
 rt:VK
 bk:St->Hp->Prop:=λ_ _=>False
 ct:St->Hp->Prop:=λ_ _=>False
noncomputable abbrev TS:=Ends->St->Hp->Prop
noncomputable def EP (X:Cx) (pins:List (Addr × Obj)) (σ:St) (Q:VK) (u:Value) (s' : Shared):Prop:=∃v H',Inv X pins σ H' s'/\RelV v u/\Q v H'
noncomputable def TP (X:Cx) (pins:List (Addr × Obj)) (σ:St) (Q:Bool->Hp->Prop) (b:Bool) (s' : Shared):Prop:=∃H',Inv X pins σ H' s'/\Q b H'
noncomputable def AP (X:Cx) (pins:List (Addr × Obj)) (σ:St) (Q:List V->Hp->Prop) (us:List Value) (s' : Shared):Prop:=∃vs H',Inv X pins σ H' s'/\Vals vs us/\Q vs H'
noncomputable def SP (X:Cx) (pins:List (Addr × Obj)) (D:Ends) (f:Flow) (s' : Shared):Prop :=
 match f with
 |.next=>∃σ' H',Inv X pins σ' H' s'/\D.nx σ' H'
 |.brk=>∃σ' H',Inv X pins σ' H' s'/\D.bk σ' H'
 |.cont=>∃σ' H',Inv X pins σ' H' s'/\D.ct σ' H'
 |.ret u=>∃v σ' H',Inv X pins σ' H' s'/\RelV v u/\D.rt v H'
noncomputable def PE (X:Cx) (e:Expr) (t:TE):Prop :=
 ∀(pins:List (Addr × Obj)) (s:Shared) (σ:St) (H:Hp) (Q:VK),Inv X pins σ H s->t σ H Q->wpAny (model X.prog X.w) X.A (eval e X.env) (EP X pins σ Q) X.xe s
noncomputable def PT (X:Cx) (e:Expr) (t:TT):Prop :=
 ∀(pins:List (Addr × Obj)) (s:Shared) (σ:St) (H:Hp) (Q:Bool->Hp->Prop),Inv X pins σ H s->t σ H Q->wpAny (model X.prog X.w) X.A (isTrue e X.env (eval e X.env)) (TP X pins σ Q) X.xe s
noncomputable def PW (X:Cx) (e:Expr) (t:TT):Prop :=
 ∀(whole:Sem Value) (pins:List (Addr × Obj)) (s:Shared) (σ:St) (H:Hp) (Q:Bool->Hp->Prop),Inv X pins σ H s->t σ H Q->wpAny (model X.prog X.w) X.A (isTrue e X.env whole) (TP X pins σ Q) X.xe s
theorem PW.pt {X:Cx}{e:Expr}{t:TT}(h:PW X e t):PT X e t:=h _
noncomputable def PA (X:Cx) (es:List Expr) (t:TA):Prop :=
 ∀(pos:Pos) (pins:List (Addr × Obj)) (s:Shared) (σ:St) (H:Hp) (Q:List V->Hp->Prop),Inv X pins σ H s->t σ H Q->wpAny (model X.prog X.w) X.A (spliced (backTo pos (starEach es X.env))) (AP X pins σ Q) X.xe s
noncomputable def PS (X:Cx) (st:Stmt) (t:TS):Prop :=
 ∀(pins:List (Addr × Obj)) (s:Shared) (σ:St) (H:Hp) (D:Ends),Inv X pins σ H s->t D σ H->wpAny (model X.prog X.w) X.A (exec st X.env) (SP X pins D) X.xe s
noncomputable def PSs (X:Cx) (st:List Stmt) (t:TS):Prop :=
 ∀(pins:List (Addr × Obj)) (s:Shared) (σ:St) (H:Hp) (D:Ends),Inv X pins σ H s->t D σ H->wpAny (model X.prog X.w) X.A (execs st X.env) (SP X pins D) X.xe s
theorem thn {α:Type}{t:Sem α}{Q Q' : α->Shared->Prop}{M:Model}{A:Around}{E:Value->Shared->Prop}{s:Shared}(h:wpAny M A t Q E s)(hQ:∀a s,Q a s->Q' a s):wpAny M A t Q' E s:=Dc h hQ λ_ _ x=>x
section
variable {X:Cx}
theorem bin {a b:Expr}{ta tb:TE} (ha:PE X a ta) (hb:PE X b tb) {pins:List (Addr × Obj)}{s:Shared}{σ:St}{H:Hp}{R:V->V->Hp->Prop} (I:Inv X pins σ H s) (h:ta σ H fun x H1=>tb σ H1 fun y H2=>R x y H2)
  {α:Type}{Q:α->Shared->Prop}{f:Value->Value->Sem α}
  (hf:∀v u s2 x y H2,Inv X pins σ H2 s2->RelV x v->RelV y u->R x y H2->wpAny (model X.prog X.w) X.A (f v u) Q X.xe s2) :
  wpAny (model X.prog X.w) X.A (eval a X.env) (λv s₁=>wpAny (model X.prog X.w) X.A (eval b X.env) (λu s₂=>wpAny (model X.prog X.w) X.A (f v u) Q X.xe s₂) X.xe s₁) X.xe s:=by
 refine thn (ha pins s σ H _ I h) λv s1 ⟨x,H1,I1,r1,q1⟩=>?_;refine thn (hb pins s1 σ H1 _ I1 q1) λu s2 ⟨y,H2,I2,r2,q2⟩=>?_;exact hf v u s2 x y H2 I2 r1 r2 q2
noncomputable def tVar (i:Nat):TE:=λσ H Q=>∃v,σ[i]?=some (some v)/\Q v H
noncomputable def tC (v:V):TE:=λ_ H Q=>Q v H
theorem zrm {i:Nat}{x:Str}{pos:Pos}(hN:X.N[i]?=some x)(hv:Vis X.env.scope x)(hd:(x == ("__debug__" : Str))=false:=by decide)(hcd:(x == ("__classdict__" : Str))=false:=by decide):PE X (.Name x pos) (tVar i):=by
 intro pins s σ H Q I h;nofun;obtain⟨v,e,h⟩:=h;obtain⟨m,hn,hl⟩:=I.loc;obtain⟨u,r,l⟩:=hl i x v hN e hv;ac_rfl;have fin:EP X pins σ Q u s:=⟨v,H,I,r,h⟩;rcases l with⟨hk,hm⟩|⟨hk,c,hc,hcell⟩
 ·exact wpAny_Name (wpAny_loadName_local I.ok.kind hk hn hm fin) hd
 ·rcases hk with hk|hk
  ·exact wpAny_Name (wpAny_loadName_cell I.ok.kind hk hc hcell fin) hd
  ·exact wpAny_Name (wpAny_loadName_free I.ok.kind hk hc hcell fin hcd) hd
theorem z3w {i j pos}:PE X (.Constant (.int i) j pos) (tC (.int i)):=λ_ _ _ H _ I h=>wpAny_Constant_int ⟨.int i,H,I.tok _,⟨_,rfl⟩,h⟩
theorem z72 {b j pos}:PE X (.Constant (.bool b) j pos) (tC (.bl b)):=λ_ _ _ H _ I h=>Constant_bool ⟨.bl b,H,I,rfl,h⟩
theorem z6i {j pos}:PE X (.Constant .none j pos) (tC .non):=λ_ _ _ H _ I h=>Constant_none ⟨.non,H,I,rfl,h⟩
theorem z44 {x j pos}:PE X (.Constant (.str x) j pos) (tC (.str x)):=λ_ _ _ H _ I h=>Calls.Constant_str ⟨.str x,H,I.tok _,⟨_,rfl⟩,h⟩
noncomputable def Gl (X:Cx) (x:Str):Prop:=X.env.kindOf x=some .globalImplicit
theorem z19 {E:Value->Shared->Prop}{pins:List (Addr × Obj)}{s:Shared}{σ:St}{H:Hp}{x:Str}{u:Value}{pos:Pos}{Q:Value->Shared->Prop} (I:Inv X pins σ H s) (hg:Gl X x) (hm:X.mg x=some u) (h:Q u s)
  (hd:(x == ("__debug__" : Str))=false:=by decide):wpAny (model X.prog X.w) X.A (eval (.Name x pos) X.env) Q E s :=
 Calls.Name_function_global I.ok.kind hg (Calls.loadGlobal_global (by rw[I.ok.glob];exact I.mod.glob.keeps I.bk) hm h) hd
theorem zhw {E:Value->Shared->Prop}{pins:List (Addr × Obj)}{s:Shared}{σ:St}{H:Hp}{x:Str}{u:Value}{pos:Pos}{Q:Value->Shared->Prop} (I:Inv X pins σ H s) (hg:Gl X x) (hm:X.mg x=none) (hv:bootBuiltins x=some u) (h:Q u s)
  (hn:x≠"__name__" := by decide) (hd:(x == ("__debug__" : Str))=false:=by decide):wpAny (model X.prog X.w) X.A (eval (.Name x pos) X.env) Q E s:=by
 obtain⟨mb,h1,h2⟩:=I.mod.blt;exact Calls.Name_function_global I.ok.kind hg (Calls.loadGlobal_builtin (by rw[I.ok.glob];exact I.mod.glob.keeps I.bk) hm (by rw[I.ok.blt];exact h1.keeps I.bk) ((h2 x hn).trans hv) h) hd
variable {a b:Expr}{ta tb:TE}{pos:Pos}
noncomputable def PC (X:Cx) (op:CmpOp) (a b:Expr) (t:TE):Prop :=
  ∀(pins:List (Addr × Obj)) (s:Shared) (σ:St) (H:Hp) (Q:VK),Inv X pins σ H s->t σ H Q ->
    wpAny (model X.prog X.w) X.A (eval a X.env) (λv s₁=>wpAny (model X.prog X.w) X.A (eval b X.env) (λu s₂=>wpAny (model X.prog X.w) X.A (compareOp op v u) (EP X pins σ Q) X.xe s₂) X.xe s₁) X.xe s
theorem zw3 (b:Expr){op:CmpOp}(h:op≠.In)(h2:op≠.NotIn):behindInMarks op b=false:=by
 have e1:(op == CmpOp.In)=false:=by cases op<;>first|rfl|exact absurd rfl h
 have e2:(op == CmpOp.NotIn)=false:=by cases op<;>first|rfl|exact absurd rfl h2
 cases b<;>simp [behindInMarks,e1,e2]
noncomputable def tB (t:TE):TT:=λσ H Q=>t σ H λx H1=>∃c,x=.bl c/\Q c H1
theorem z8k {op:CmpOp}{t:TE}(h:PC X op a b t)(h1:behindInMarks op b=false:=by first|exact zw3 _ #v[0,9] #v[0,9]|rfl):PT X (.Compare a [op] [b] pos) (tB t):=by
 intro pins s σ H Q I hw;refine wpAny_isTrue_Compare1 (thn (h pins s σ H _ I hw) λv s1 h1=>thn h1 λu s2 h2=>thn h2 λc s3 ⟨x,H1,I1,r1,q1⟩=>?_) h1;obtain⟨d,rfl,q⟩:=q1;cases r1;exact Hr ⟨H1,I1,q⟩
theorem z55 {e:Expr}{t:TE}(h:PE X e t)(he:∀whole,isTrue e X.env whole=(do let v <- whole;standAt e.pos;holding [v] (truthy v)):=by intro _;rfl):PT X e (tB t):=by
 intro pins s σ H Q I hw;refine isTrue_plain (thn (h pins s σ H _ I hw) λv s1 ⟨x,H1,I1,r1,q1⟩=>?_) (he _);obtain⟨d,rfl,q⟩:=q1;cases r1;exact Hr ⟨H1,I1,q⟩
variable {tA tB' : TT}{rest:List Expr}
noncomputable def tAnd (t u:TT):TT:=λσ H Q=>t σ H λc H1=>if c=true then u σ H1 Q else Q false H1
theorem z0z (ha:PT X a tA):PW X (.BoolOp .And [a] pos) tA:=by
 intro wh pins s σ H Q I h;refine isTrue_and (thn (ha pins s σ H Q I h) λc s1 e=>?_);cases c with
 |true=>exact isTrue_and_nil e
 |false=>exact e
theorem z42 (ha:PT X a tA):PW X (.BoolOp .Or [a] pos) tA:=by
 intro wh pins s σ H Q I h;refine isTrue_or (thn (ha pins s σ H Q I h) λc s1 e=>?_);cases c with
 |false=>exact isTrue_or_nil e
 |true=>exact e
theorem z32 (ha:PT X a tA)(hb:PW X (.BoolOp .And (b::rest) pos) tB'):PW X (.BoolOp .And (a::b::rest) pos) (tAnd tA tB'):=by
 intro wh pins s σ H Q I h;refine isTrue_and (thn (ha pins s σ H _ I h) λc s1 ⟨H1,I1,q1⟩=>?_);cases c with
 |true=>exact hb wh pins s1 σ H1 Q I1 q1
 |false=>exact⟨H1,I1,q1⟩
noncomputable def tIf (t:TT) (ta tb:TE):TE:=λσ H Q=>t σ H λc H1=>if c=true then ta σ H1 Q else tb σ H1 Q
theorem zv2 {c:Expr}(hc:PT X c tA)(ha:PE X a ta)(hb:PE X b tb):PE X (.IfExp c a b pos) (tIf tA ta tb):=by
 intro pins s σ H Q I h;refine wpAny_IfExp (thn (hc pins s σ H _ I h) λd s1 ⟨H1,I1,q1⟩=>?_);cases d with
 |true=>exact ha pins s1 σ H1 Q I1 q1
 |false=>exact hb pins s1 σ H1 Q I1 q1
end
noncomputable def SqL (K:PySem.W.Frag) (H:Hp) (a:Addr) (xs:List V):Prop :=
 Rd H a (.lst xs) \/
  ∃(o:Obj) (its:Array Value) (n:Nat),K.lookup a=some o/\o.cls=.type "list"/\o.dict=none/\o.data=.seq its n/\its.size<=sizeLine/\Vals xs its.toList
noncomputable def SqT (K:PySem.W.Frag) (H:Hp) (a:Addr) (xs:List V):Prop :=
 Rd H a (.tup xs) \/
  ∃(o:Obj) (its:Array Value) (n:Nat),K.lookup a=some o/\o.cls=.type "tuple"/\o.data=.seq its n/\its.size<=sizeLine/\Vals xs its.toList
noncomputable def absV:Value->Option V
 |.none=>some .non
 |.bool b=>some (.bl b)
 |.int i _=>some (.int i)
 |.str x _=>some (.str x)
 |.bytes b _=>some (.byt b)
 |.float b _=>some (.flt b)
 |.ref a=>some (.ref a)
 |.type n=>some (.ty n)
 |_=>none
theorem RelV.abs {x:V}{u:Value}(r:RelV x u):absV u=some x:=by
 cases x with
 |non=>cases r;rfl
 |bl _=>cases r;rfl
 |int _=>obtain⟨t,rfl⟩:=r;rfl
 |str _=>obtain⟨t,rfl⟩:=r;rfl
 |byt _=>obtain⟨t,rfl⟩:=r;rfl
 |flt _=>obtain⟨t,rfl⟩:=r;rfl
 |ref _=>cases r;rfl
 |ty _=>cases r;rfl
theorem RelV.inj {x y:V}{u:Value}(r:RelV x u)(q:RelV y u):x=y:=sI (r.abs.symm.trans q.abs)
theorem Vals.inj:∀{xs ys:List V}{us:List Value},Vals xs us->Vals ys us->xs=ys
 |_,_,_,.nil,.nil=>rfl
 |_,_,_,.cons r t,.cons r' t'=>by rw[r.inj r',Vals.inj t t']
section
variable {X:Cx}{pins:List (Addr × Obj)}{σ:St}{H:Hp}{s:Shared}{a:Addr}{xs ys:List V}
theorem Inv.list (I:Inv X pins σ H s)(h:SqL X.K H a xs):∃its:List Value,Vals xs its/\PlainL s.heap a its.toArray/\xs.length<=sizeLine:=by
 rcases h with h|⟨o,its,n,hk,hc,hd,hs,hz,r⟩
 ·obtain⟨z,its,n,r,e⟩:=h.ok I.hok;exact⟨its,r,⟨_,n,e,rfl,rfl,rfl⟩,z⟩
 ·refine⟨its.toList,r,⟨o,n,I.kIn a o hk,hc,hd,by simpa using hs⟩, ?_⟩;have e:=r.length;simp only [Bp] at e;omega
theorem Inv.tuple (I:Inv X pins σ H s)(h:SqT X.K H a xs):∃its:List Value,Vals xs its/\IsTup s.heap a its.toArray/\xs.length<=sizeLine:=by
 rcases h with h|⟨o,its,n,hk,hc,hs,hz,r⟩
 ·obtain⟨z,its,r,p⟩:=h.ok I.hok;exact⟨its,r,p.t,z⟩
 ·refine⟨its.toList,r,⟨o,I.kIn a o hk,hc,n,by simpa using hs⟩, ?_⟩;have e:=r.length;simp only [Bp] at e;omega
theorem Inv.list_inj (I:Inv X pins σ H s)(h:SqL X.K H a xs)(h' : SqL X.K H a ys):xs=ys:=by
 obtain⟨its,r,⟨o,n,e,_,_,d⟩,_⟩:=I.list h;obtain⟨its',r',⟨o',n',e',_,_,d'⟩,_⟩:=I.list h';rw[e] at e';obtain rfl:=sI e';rw[d] at d';injection d' with d1 _;have:its=its':=by simpa using congrArg Array.toList d1
 subst this;exact r.inj r'
theorem Inv.tuple_inj (I:Inv X pins σ H s)(h:SqT X.K H a xs)(h' : SqT X.K H a ys):xs=ys:=by
 obtain⟨its,r,⟨o,e,_,n,d⟩,_⟩:=I.tuple h;obtain⟨its',r',⟨o',e',_,n',d'⟩,_⟩:=I.tuple h';rw[e] at e';obtain rfl:=sI e';rw[d] at d';injection d' with d1 _;have:its=its':=by simpa using congrArg Array.toList d1
 subst this;exact r.inj r'
end
noncomputable abbrev Cx.wish (X:Cx) (E:Value->Shared->Prop):Cx:={ X with xe:=E }
noncomputable abbrev Cx.nox (X:Cx):Cx:=X.wish λ_ _=>False
theorem Cx.Ok.wish {X:Cx}(ok:X.Ok)(E:Value->Shared->Prop):(X.wish E).Ok :=
 ⟨ok.mod,ok.kind,ok.glob,ok.blt,ok.above,ok.inj,ok.has,ok.cab,ok.hd,ok.frames,ok.stk,ok.exf,ok.bs,ok.bsz,ok.noex,ok.exfs,ok.funs,ok.frf⟩
theorem Cx.Ok.unwish {X:Cx}{E:Value->Shared->Prop}(ok:(X.wish E).Ok):X.Ok :=
 ⟨ok.mod,ok.kind,ok.glob,ok.blt,ok.above,ok.inj,ok.has,ok.cab,ok.hd,ok.frames,ok.stk,ok.exf,ok.bs,ok.bsz,ok.noex,ok.exfs,ok.funs,ok.frf⟩
section
variable {X:Cx}{pins:List (Addr × Obj)}{σ:St}{H:Hp}{s:Shared}{E:Value->Shared->Prop}
theorem Inv.wish (I:Inv X pins σ H s)(E:Value->Shared->Prop):Inv (X.wish E) pins σ H s:=⟨I.ok.wish E,I.os,I.bare,I.base,I.loc,I.cell,I.free,I.freeC,I.pin,I.hok,I.len⟩
theorem Inv.unwish (I:Inv (X.wish E) pins σ H s):Inv X pins σ H s:=⟨I.ok.unwish,I.os,I.bare,I.base,I.loc,I.cell,I.free,I.freeC,I.pin,I.hok,I.len⟩
theorem SP.unwish {D:Ends}{f:Flow}{s' : Shared}(h:SP (X.wish E) pins D f s'):SP X pins D f s':=by
 cases f with
 |next=>obtain⟨σ',H',I,q⟩:=h;exact⟨σ',H',I.unwish,q⟩
 |brk=>obtain⟨σ',H',I,q⟩:=h;exact⟨σ',H',I.unwish,q⟩
 |cont=>obtain⟨σ',H',I,q⟩:=h;exact⟨σ',H',I.unwish,q⟩
 |ret u=>obtain⟨v,σ',H',I,r,q⟩:=h;exact⟨v,σ',H',I.unwish,r,q⟩
theorem PE.nox {e:Expr}{t:TE}(h:PE X.nox e t):PE X e t:=λpins s σ H Q I hw =>
 Dc (h pins s σ H Q (I.wish _) hw) (λ_ _ ⟨v,H',I',r,q⟩=>⟨v,H',I'.unwish,r,q⟩) λ_ _ z=>False.elim z
theorem PSs.nox {st:List Stmt}{t:TS}(h:PSs X.nox st t):PSs X st t:=λpins s σ H D I hw =>
 Dc (h pins s σ H D (I.wish _) hw) (λ_ _ q=>q.unwish) λ_ _ z=>False.elim z
end
section
variable {X:Cx}{st:Stmt}{rest:List Stmt}{t u:TS}{e:Expr}{te:TE}{pos:Pos}
noncomputable def zzv:TS:=λD σ H=>D.nx σ H
noncomputable def tSeq (t u:TS):TS:=λD σ H=>t { D with nx:=u D } σ H
theorem z10:PSs X [] zzv:=λ_ _ σ H _ I h=>wpAny_execs_nil ⟨σ,H,I,h⟩
theorem zyc (h1:PS X st t) (h2:PSs X rest u):PSs X (st::rest) (tSeq t u):=by
  intro pins s σ H D I h;refine wpAny_execs_cons (thn (h1 pins s σ H { D with nx:=u D } I h) λf s1 q=>?_);cases f with
  | next =>
    obtain⟨σ',H',I',q⟩:=q;exact h2 pins s1 σ' H' D I' q
  |ret v=>exact q
  |brk=>exact q
  |cont=>exact q
theorem z2d (h1:PS X st t):PSs X [st] t:=by
 intro pins s σ H D I h;refine wpAny_execs_cons (thn (h1 pins s σ H D I h) λf s1 q=>?_);cases f with
 |next=>exact wpAny_execs_nil q
 |ret v=>exact q
 |brk=>exact q
 |cont=>exact q
theorem z0r:PS X (.Pass pos) zzv:=λ_ _ σ H _ I h=>wpAny_Pass ⟨σ,H,I,h⟩
theorem Inv.quiet {pins:List (Addr × Obj)}{σ:St}{H:Hp}{s:Shared}(I:Inv X pins σ H s):interactive X.env=false:=by simp [interactive,I.ok.kind]
noncomputable def z37 (te:TE):TS:=λD σ H=>te σ H λ_ H1=>D.nx σ H1
theorem z0f (he:PE X e te)(hs:swapsWith e none pos.line X.env=pure false:=by rfl):PS X (.Expr e pos) (z37 te):=by
 intro pins s σ H D I h;exact wpAny_Expr_any (thn (he pins s σ H _ I h) λv s1 ⟨x,H1,I1,r1,q1⟩=>⟨σ,H1,I1,q1⟩) I.quiet hs
noncomputable def tRet (te:TE):TS:=λD σ H=>te σ H D.rt
theorem zzd (he:PE X e te):PS X (.Return (some e) pos) (tRet te):=by
 intro pins s σ H D I h;exact wpAny_Return_some (thn (he pins s σ H _ I h) λv s1 ⟨x,H1,I1,r1,q1⟩=>⟨x,σ,H1,I1,r1,q1⟩)
noncomputable def tIfS (c:TT) (t u:TS):TS:=λD σ H=>c σ H λb H1=>if b=true then t D σ H1 else u D σ H1
theorem z77 {c:Expr}{a b:List Stmt}{tc:TT}(hc:PT X c tc)(ha:PSs X a t)(hb:PSs X b u):PS X (.If c a b pos) (tIfS tc t u):=by
 intro pins s σ H D I h;refine wpAny_If (thn (hc pins s σ H _ I h) λd s1 ⟨H1,I1,q1⟩=>?_);cases d with
 |true=>exact ha pins s1 σ H1 D I1 q1
 |false=>exact hb pins s1 σ H1 D I1 q1
end
noncomputable abbrev TG:=V->St->Hp->(St->Hp->Prop)->Prop
noncomputable abbrev TGs:=List V->St->Hp->(St->Hp->Prop)->Prop
noncomputable def PG (X:Cx) (target:Expr) (t:TG):Prop :=
  ∀(pins:List (Addr × Obj)) (s:Shared) (σ:St) (H:Hp) (v:V) (u:Value) (Q:St->Hp->Prop),Inv X pins σ H s->RelV v u->t v σ H Q ->
    wpAny (model X.prog X.w) X.A (assign target X.env u) (λ_ s'=>∃σ' H',Inv X pins σ' H' s'/\Q σ' H') X.xe s
noncomputable def PGs (X:Cx) (ts:List Expr) (t:TGs):Prop :=
  ∀(pins:List (Addr × Obj)) (s:Shared) (σ:St) (H:Hp) (vs:List V) (us:List Value) (Q:St->Hp->Prop),Inv X pins σ H s->Vals vs us->t vs σ H Q ->
    wpAny (model X.prog X.w) X.A (assignInOrder ((assignEach ts X.env).map (·.2)) us) (λ_ s'=>∃σ' H',Inv X pins σ' H' s'/\Q σ' H') X.xe s
noncomputable abbrev TSet:=V->V->V->Hp->(Hp->Prop)->Prop
noncomputable def PSet (X:Cx) (t:TSet):Prop :=
  ∀(pins:List (Addr × Obj)) (s:Shared) (σ:St) (H:Hp) (o i v:V) (ov iv u:Value) (Q:Hp->Prop),Inv X pins σ H s->RelV o ov->RelV i iv->RelV v u->t o i v H Q ->
    wpAny (model X.prog X.w) X.A (setItem ov iv u) (λ_ s'=>∃H',Inv X pins σ H' s'/\Q H') X.xe s
section
variable {X:Cx}{pos:Pos}
noncomputable def zmd (i:Nat):TG:=λv σ H Q=>Q (σ.set i (some v)) H
theorem zr2 {i:Nat}{x:Str}(hN:X.N.Nodup)(hi:X.N[i]?=some x)(hx:Loc X.env.scope x)(hf:X.fn x=true\/X.env.scope.names.lookup x=some .local:=by first|exact .inl rfl|exact .inr rfl|assumption):PG X (.Name x pos) (zmd i):=by
 intro pins s σ H v u Q I r h;exact wpAny_assign_Name (zpb I hN hi hx r (λs' I'=>⟨_,H,I',h⟩) hf)
noncomputable def gNil:TGs:=λvs σ H Q=>vs=[]/\Q σ H
noncomputable def zvu (t:TG) (u:TGs):TGs:=λvs σ H Q=>∃v r,vs=v::r/\t v σ H λσ' H'=>u r σ' H' Q
theorem zzu:PGs X [] gNil:=by
 intro pins s σ H vs us Q I r h;obtain⟨e,h⟩:=h;subst e;cases r;exact assignInOrder_nil ⟨σ,H,I,h⟩
theorem zwk {e:Expr}{es:List Expr}{t:TG}{u:TGs} (h1:PG X e t) (h2:PGs X es u)
    (hs:(assignEach (e::es) X.env).map (·.2)=assign e X.env::(assignEach es X.env).map (·.2):=by rfl):PGs X (e::es) (zvu t u):=by
  intro pins s σ H vs us Q I r h;obtain⟨v,vr,e1,h⟩:=h;subst e1;cases r with
  | cons r rr =>
    rw[hs];refine assignInOrder_cons (thn (h1 pins s σ H _ _ _ I r h) λ_ s1 ⟨σ1,H1,I1,q1⟩=>?_);exact h2 pins s1 σ1 H1 _ _ Q I1 rr q1
noncomputable def gTup (K:PySem.W.Frag) (n:Nat) (t:TGs):TG:=λv σ H Q=>∃a xs,v=.ref a/\SqT K H a xs/\xs.length=n/\t xs σ H Q
theorem z4i {es:List Expr}{k:Nat}{t:TGs}{n:Nat} (hc:X.calm=true) (h:PGs X es t)
  (hn:(assignEach es X.env).length=n:=by rfl) (hst:(assignEach es X.env).findIdx? (·.1)=none:=by rfl):PG X (.Tuple es k pos) (gTup X.K n t):=by
 intro pins s σ H v u Q I r hw;nofun;obtain⟨a,xs,e1,hq,hl,hw⟩:=hw;ac_rfl;subst e1;cases r;nofun;obtain⟨its,rv,ht,hz⟩:=I.tuple hq;ac_rfl;refine assign_Tuple_tuple (I.ok.hd hc) ht (by simp [hn,<-hl,rv.length]) hst λh' hx=>?_;have I1:Inv X pins σ H { s with heap:=h' }:=I.kept (t':=s.toks) λb o e=>hx b o (Bc (Ao e)) e;exact h pins _ σ H xs _ Q I1 (by simpa using rv) hw
noncomputable def gSub (to ti:TE) (t:TSet):TG:=λv σ H Q=>to σ H λo H1=>ti σ H1 λi H2=>t o i v H2 λH3=>Q σ H3
theorem zzk {o i:Expr}{to ti:TE}{t:TSet} (ho:PE X o to) (hi:PE X i ti) (hs:PSet X t)
  (ha:∀v,assign (.Subscript o i pos) X.env v=(do
   let ov <- holding [v] (eval o X.env)
   let iv <- holding [v,ov] (eval i X.env)
   standAt pos
   holding [v,ov,iv] (setItem ov iv v)
   release [v,ov,iv] []):=by intro _;rfl):PG X (.Subscript o i pos) (gSub to ti t):=by
 intro pins s σ H v u Q I r h;rw[ha];refine Aa (Cr (thn (ho pins s σ H _ I h) λov s1 ⟨x,H1,I1,r1,q1⟩=>?_));refine Aa (Cr (thn (hi pins s1 σ H1 _ I1 q1) λiv s2 ⟨y,H2,I2,r2,q2⟩=>?_));refine Aa (Hu (Aa (Cr (thn (hs pins s2 σ H2 x y v ov iv u _ I2 r1 r2 r q2) λ_ s3 ⟨H3,I3,q3⟩=>?_))));exact wpAny_release ⟨σ,H3,I3,q3⟩
noncomputable def tAsg (te:TE) (g:TG):TS:=λD σ H=>te σ H λx H1=>g x σ H1 D.nx
theorem zy4 {tg e:Expr}{te:TE}{g:TG} (he:PE X e te) (hg:PG X tg g) (hs:swapsWithSole [tg] e pos.line X.env=pure false:=by rfl) (hw:swappedStores [tg] e X.env=pure none:=by rfl)
  (h1:(assignEach [tg] X.env).map (·.2)=[assign tg X.env]:=by rfl):PS X (.Assign [tg] e pos) (tAsg te g):=by
 intro pins s σ H D I h;refine wpAny_Assign_stores (thn (he pins s σ H _ I h) λv s1 ⟨x,H1,I1,r1,q1⟩=>?_) hs hw;rw[h1];exact thn (hg pins s1 σ H1 x v _ I1 r1 q1) λ_ s2 q=>q
theorem zyw {i:Nat}{x:Str}{e:Expr}{te:TE}{pos' : Pos} (hN:X.N.Nodup) (hi:X.N[i]?=some x) (hx:Loc X.env.scope x) (he:PE X e te) (hs:swapsWith e (some (.Name x pos')) pos.line X.env=pure false:=by rfl) (hf:X.fn x=true\/X.env.scope.names.lookup x=some .local:=by first | exact .inl rfl | exact .inr rfl | assumption) :
  PS X (.Assign [.Name x pos'] e pos) (tAsg te (zmd i)):=by
 intro pins s σ H D I h;refine wpAny_Assign_Name (thn (he pins s σ H _ I h) λv s1 ⟨y,H1,I1,r1,q1⟩=>?_) hs;exact zpb I1 hN hi hx r1 (λs2 I2=>⟨_,H1,I2,q1⟩) hf
end
section
variable {X:Cx}{pos:Pos}
end
structure It where
 go:Nat->Hp->Prop
 yld:Nat->Hp->V->Hp->Prop
 stop:Nat->Hp->Prop
noncomputable def FpOk (X:Cx) (pins:List (Addr × Obj)) (H:Hp) (b:Addr):Prop :=
 H b=none/\b≠X.env.locals/\b ∉ X.fs/\(b∈X.ex\/X.s₀.heap.objs.size<=b)/\(∀x c,X.env.cells.lookup x=some c->c≠b)/\∀p∈X.pn++pins,p.1≠b
theorem Inv.fpOk {X:Cx}{pins:List (Addr × Obj)}{σ:St}{H H' : Hp}{s:Shared}{b:Addr}(I:Inv X pins σ H s)(hb:s.heap.objs.size<=b)(hn:H' b=none):FpOk X pins H' b:=by
 refine⟨hn,Gw (Bd I.lt hb),I.nofs hb,.inr (Bv I.sz hb),λx c e z=>?_,λp hp z=>?_⟩
 ·obtain⟨v,q⟩:=I.cell x c e;exact absurd (Bd q.lt (by rw[z];exact hb)) (Cj _)
 ·exact absurd (Bd (Ao (I.pin p hp).1) (by rw[z];exact hb)) (Cj _)
structure Turn (P:Program) (w:World) (K:PySem.W.Frag) (tg:Expr) (J:It) (fp:List Addr) (it:Addr) (tn:Nat->Heap->Prop):Prop where
 mem:it∈fp
 obj:∀i h,tn i h->∀b∈fp,∃o,h.get? b=some o/\∀v,o.data≠.cell v
 keep:∀i h h',tn i h->(∀b∈fp,∀o,h.get? b=some o->h'.get? b=some o)->tn i h'
 item:∀(X:Cx),X.prog=P->X.w=w->X.K=K->X.calm=true->∀(i:Nat) (pins:List (Addr × Obj)) (s:Shared) (σ:St) (H:Hp) (E:Value->Shared->Prop),Inv X pins σ H s->(∀b∈fp,FpOk X pins H b)->tn i s.heap->J.go i H ->
  wpAny (model P w) X.A (pyNext (.ref it)) (λr s1=>∃u,r=some u /\
   wpAny (model P w) X.A (letOwnedTupleGo tg (.ref it) u) (λ_ s2=>∃x H',Inv X pins σ H' s2/\RelV x u/\J.yld i H x H'/\tn (i+1) s2.heap/\∀b∈fp,H' b=none) E s1) E s
 done:∀(X:Cx),X.prog=P->X.w=w->X.K=K->X.calm=true->∀(i:Nat) (pins:List (Addr × Obj)) (s:Shared) (σ:St) (H:Hp) (E:Value->Shared->Prop),Inv X pins σ H s->(∀b∈fp,FpOk X pins H b)->tn i s.heap->J.stop i H ->
  wpAny (model P w) X.A (pyNext (.ref it)) (λr s1=>r=none/\Inv X pins σ H s1) E s
 self:∀(A:Around) (i:Nat) (s:Shared) (Q:Value->Shared->Prop) (E:Value->Shared->Prop),tn i s.heap->Q (.ref it) s->wpAny (model P w) A (pyIter (.ref it)) Q E s
noncomputable abbrev TI:=St->Hp->(It->Hp->Prop)->Prop
noncomputable def PIE (X:Cx) (pins:List (Addr × Obj)) (σ:St) (tg:Expr) (R:It->Hp->Prop) (itv:Value) (s2:Shared):Prop :=
 ∃(it:Addr) (fp:List Addr) (tn:Nat->Heap->Prop) (J:It) (H' : Hp),itv=.ref it/\Inv X pins σ H' s2/\Turn X.prog X.w X.K tg J fp it tn/\tn 0 s2.heap/\(∀b∈fp,FpOk X pins H' b)/\R J H'
noncomputable def PI (X:Cx) (tg iter:Expr) (wi:TI):Prop :=
  ∀(pins:List (Addr × Obj)) (s:Shared) (σ:St) (H:Hp) (R:It->Hp->Prop),Inv X pins σ H s->wi σ H R ->
    wpAny (model X.prog X.w) X.A (eval iter X.env) (λv s1=>wpAny (model X.prog X.w) X.A (pyIter v) (PIE X pins σ tg R) X.xe s1) X.xe s
theorem zwf {M:Model}{A:Around}{E:Value->Shared->Prop}{s:Shared}{tg:Expr}{it:Addr}{u:Value}{o:Obj}{n:String}{vs:Array Value}{Q:Unit->Shared->Prop} (ho:s.heap.get? it=some o) (hc:o.cls=.type n) (hd:o.data=.fields vs)
    (hn:["enumerate","zip","dict_itemiterator","dict_reverseitemiterator","odict_iterator","itertools.zip_longest","itertools.pairwise"].contains n=false) (hQ:Q () s):wpAny M A (letOwnedTupleGo tg (.ref it) u) Q E s:=by
  unfold letOwnedTupleGo;cases tg<;>first
    |exact Ag hQ
    | (cases u<;>first
        |exact Ag hQ
        | (refine Aa (wpAny_load ho ?_)
           rw[hc,hd];show wpAny M A (if (["enumerate","zip","dict_itemiterator","dict_reverseitemiterator","odict_iterator","itertools.zip_longest","itertools.pairwise"].contains n && vs[0]? == some (rawInt _))=true then _ else _) Q E s;rw[if_neg (by intro h;rw[hn,Fa] at h;cases h)];exact Ag hQ))
noncomputable def Itl (K:PySem.W.Frag) (a:Addr):It :=
 ⟨λi H=>∃xs x,SqL K H a xs/\xs[i]?=some x,λi H x H'=>H'=H/\∀xs,SqL K H a xs->xs[i]?=some x,λi H=>∃xs,SqL K H a xs/\xs.length<=i⟩
noncomputable def Itt (K:PySem.W.Frag) (a:Addr):It :=
 ⟨λi H=>∃xs x,SqT K H a xs/\xs[i]?=some x,λi H x H'=>H'=H/\∀xs,SqT K H a xs->xs[i]?=some x,λi H=>∃xs,SqT K H a xs/\xs.length<=i⟩
noncomputable def Itr (lo:Int) (n:Nat):It:=⟨λi _=>i<n,λi H x H'=>H'=H/\x=.int (lo+i),λi _=>n<=i⟩
theorem zt7 {P:Program}{w:World}{K:PySem.W.Frag}{tg:Expr}(a it:Addr):Turn P w K tg (Itl K a) [it] it (λi h=>h.IsListIter it a i) where
 mem:=by simp
 obj:=λi h st b hb=>by
  have e:b=it:=by simpa using hb
  subst e;nofun;obtain⟨o,e,c,d⟩:=st;ac_rfl;exact⟨o,e,λv z=>by rw[d] at z;cases z⟩
 keep:=λi h h' st k=>st.at λo e=>k it (by simp) o e
 item:=by
  intro X hP hw hK hc i pins s σ H E I hf st hg;subst hP hw hK;nofun;obtain⟨xs,x,hq,hx⟩:=hg;obtain⟨its,rv,p,hz⟩:=I.list hq;obtain⟨u,hu,ru⟩:=rv.get hx;obtain⟨f0,f1,f2,f3,f4,f5⟩:=hf it (by simp);ac_rfl;refine wpAny_pyNext_list_item st p.isList (x:=u) (by simpa using hu) λh' st' sb=>?_;have I1:Inv X pins σ H { s with heap:=h' }:=I.turned (t':=s.toks) (λb o hb e=>(sb.2 b hb).trans e) f0 f1 f3 f4 f5;nofun;obtain⟨o,e,c,d⟩:=id st';ac_rfl;exact⟨u,rfl,zwf (s:={ s with heap:=h' }) e c d #v[0,9] ⟨x,H,I1,ru,⟨rfl,λys hy=>by rw[I.list_inj hy hq];exact hx⟩,st',λb hb=>(hf b hb).1⟩⟩
 done:=by
  intro X hP hw hK hc i pins s σ H E I hf st hg;subst hP hw hK;nofun;obtain⟨xs,hq,hx⟩:=hg;obtain⟨its,rv,p,hz⟩:=I.list hq;obtain⟨f0,f1,f2,f3,f4,f5⟩:=hf it (by simp);ac_rfl;have hl:=rv.length;exact wpAny_pyNext_list_end (I.ok.hd hc) st p.isList (by simp;omega) λh' eb=>⟨rfl,I.turned (t':=s.toks) (λb o hb e=>eb b o hb e) f0 f1 f3 f4 f5⟩
 self:=λ_ _ _ _ _ st h=>wpAny_pyIter_listiter st h
theorem zp5 {P:Program}{w:World}{K:PySem.W.Frag}{tg:Expr}(a it:Addr):Turn P w K tg (Itt K a) [it] it (λi h=>h.IsTupleIter it a i) where
 mem:=by simp
 obj:=λi h st b hb=>by
  have e:b=it:=by simpa using hb
  subst e;nofun;obtain⟨o,e,c,d⟩:=st;ac_rfl;exact⟨o,e,λv z=>by rw[d] at z;cases z⟩
 keep:=λi h h' st k=>st.at λo e=>k it (by simp) o e
 item:=by
  intro X hP hw hK hc i pins s σ H E I hf st hg;subst hP hw hK;nofun;obtain⟨xs,x,hq,hx⟩:=hg;obtain⟨its,rv,p,hz⟩:=I.tuple hq;obtain⟨u,hu,ru⟩:=rv.get hx;obtain⟨f0,f1,f2,f3,f4,f5⟩:=hf it (by simp);ac_rfl;refine wpAny_pyNext_tuple_item st (show s.heap.IsTuple a its.toArray from p) (x:=u) (by simpa using hu) λh' st' sb=>?_;have I1:Inv X pins σ H { s with heap:=h' }:=I.turned (t':=s.toks) (λb o hb e=>(sb.2 b hb).trans e) f0 f1 f3 f4 f5;nofun;obtain⟨o,e,c,d⟩:=id st';ac_rfl;exact⟨u,rfl,zwf (s:={ s with heap:=h' }) e c d #v[0,9] ⟨x,H,I1,ru,⟨rfl,λys hy=>by rw[I.tuple_inj hy hq];exact hx⟩,st',λb hb=>(hf b hb).1⟩⟩
 done:=by
  intro X hP hw hK hc i pins s σ H E I hf st hg;subst hP hw hK;nofun;obtain⟨xs,hq,hx⟩:=hg;obtain⟨its,rv,p,hz⟩:=I.tuple hq;obtain⟨f0,f1,f2,f3,f4,f5⟩:=hf it (by simp);ac_rfl;have hl:=rv.length;exact wpAny_pyNext_tuple_end (I.ok.hd hc) st (show s.heap.IsTuple a its.toArray from p) (by simp;omega) λh' eb=>⟨rfl,I.turned (t':=s.toks) (λb o hb e=>eb b o hb e) f0 f1 f3 f4 f5⟩
 self:=λ_ _ _ _ _ st h=>wpAny_pyIter_tupleiter st h
theorem zqz {P:Program}{w:World}{K:PySem.W.Frag}{tg:Expr}(it:Addr)(lo:Int)(n:Nat):Turn P w K tg (Itr lo n) [it] it (λi h=>IsRangeIter h it (lo+(i:Nat) * 1) ((n:Int) - (i:Nat)) 1) where
 mem:=by simp
 obj:=λi h st b hb=>by
  have e:b=it:=by simpa using hb
  subst e;exact⟨_,st,λv z=>by
   have z' : Data.fields _=Data.cell v:=z;cases z'⟩
 keep:=λi h h' st k=>k it (by simp) _ st
 item:=by
  intro X hP hw hK hc i pins s σ H E I hf st hg;subst hP hw hK;nofun;obtain⟨f0,f1,f2,f3,f4,f5⟩:=hf it (by simp);ac_rfl;have W:=Walks.range (prog:=X.prog) (w:=X.w) (I.ok.hd hc) it lo 1 n;refine W.item i s _ _ hg st λv h' tk hv st' kk=>?_;obtain⟨t,rfl⟩:=hv;have I1:Inv X pins σ H { s with heap:=h',toks:=tk }:=I.turned (λb o hb e=>kk b o (by simpa using hb) e) f0 f1 f3 f4 f5;refine⟨_,rfl,zwf (s:={ s with heap:=h',toks:=tk }) (n := "range_iterator") st' rfl rfl #v[0,9] ⟨.int (lo+i),H,I1,⟨t,?_⟩,⟨rfl,rfl⟩,st',λb hb=>(hf b hb).1⟩⟩;rw[Int.mul_one]
 done:=by
  intro X hP hw hK hc i pins s σ H E I hf st hg;subst hP hw hK;nofun;obtain⟨f0,f1,f2,f3,f4,f5⟩:=hf it (by simp);ac_rfl;exact wpAny_pyNext_range_end (I.ok.hd hc) st (by have:n<=i:=hg;omega) λh' eb=>⟨rfl,I.turned (t':=s.toks) (λb o hb e=>eb b o hb e) f0 f1 f3 f4 f5⟩
 self:=λ_ _ _ _ _ st h=>wpAny_pyIter_rangeiter st h
section
variable {X:Cx}{tg:Expr}
theorem zxd {pins:List (Addr × Obj)}{σ:St}{H:Hp}{s:Shared}{R:It->Hp->Prop}{E:Value->Shared->Prop}{lo hi:Int}{t u v:Tok}{tk:Nat} (I:Inv X pins σ H s) (h1:-(2 ^ 62)<=lo) (h2:lo < 2 ^ 62) (h3:-(2 ^ 62)<=hi) (h4:hi < 2 ^ 62)
  (q:R (Itr lo (hi - lo).toNat) H):wpAny (model X.prog X.w) X.A (pyIter (.ref s.heap.objs.size)) (PIE X pins σ tg R) E { s with heap:=s.heap.push { cls:=.type "range",data:=.fields #[.int lo t,.int hi u,.int 1 v] },toks:=tk }:=by
 refine wpAny_pyIter_range (IsRange.new ..) (small_one h1 h2 h3 h4) ?_;have I1:Inv X pins σ H { s with heap:=s.heap.push { cls:=.type "range",data:=.fields #[.int lo t,.int hi u,.int 1 v] },toks:=tk }:=I.kept λb o e=>Ab _ e;refine⟨(s.heap.push { cls:=.type "range",data:=.fields #[.int lo t,.int hi u,.int 1 v] }).objs.size,[(s.heap.push { cls:=.type "range",data:=.fields #[.int lo t,.int hi u,.int 1 v] }).objs.size],_,_,H,rfl,
  I1.kept (t':=tk) λb o e=>Ab _ e,zqz _ lo (hi - lo).toNat,?_,λb hb=>?_,q⟩
 ·have e1 : lo + ((0 : Nat) : Int) * 1 = lo:=by simp
  have e2:(((hi - lo).toNat:Nat):Int) - ((0:Nat):Int)=Builtin.Range.rangeSize lo hi 1:=by rw[rangeSize_one];split<;>omega
  show IsRangeIter _ _ (lo+((0:Nat):Int) * 1) ((((hi - lo).toNat:Nat):Int) - ((0:Nat):Int)) 1;rw[e1,e2];exact Ak _ rfl
 ·have e : b = (s.heap.push { cls := .type "range", data := .fields #[.int lo t,.int hi u,.int 1 v] }).objs.size:=by simpa using hb
  subst e;exact I1.fpOk (Af _) (I1.hok.fresh (Af _))
noncomputable def z5b (ta:TA):TI:=λσ H R=>ta σ H λvs H1=>∃j:Int,vs=[.int j]/\-(2 ^ 62)<=j/\j<2 ^ 62/\R (Itr 0 j.toNat) H1
theorem zuy {a:Expr}{ta:TA}{p pos:Pos} (hg:Gl X "range") (hm:X.mg "range" = none) (ha:PA X [a] ta) (hs:starEach [a] X.env=[(false,eval a X.env)]:=by rfl):PI X tg (.Call (.Name "range" p) [a] [] pos) (z5b ta):=by
  intro pins s σ H R I h;refine Call_ (zhw I hg hm boot_range (Er (thn (ha pos pins s σ H _ I h) λus s1 ⟨vs,H1,I1,r1,q1⟩=>?_) hs rfl));nofun;obtain⟨j,e,q1,q2,q⟩:=q1;ac_rfl;subst e;cases r1 with
  | cons r rr =>
    cases rr;obtain⟨t,rfl⟩:=r;exact call_range_1 (zxd I1 #v[] #v[] q1 q2 (by simpa using q))
noncomputable def tFor (wi:TI) (g:TG) (tb:TS):TS:=λD σ H=>wi σ H λJ H1=>∃W:Nat->Nat->St->Hp->Prop,(∃m,W 0 m σ H1)/\∀i m σ H,W i m σ H ->
 (J.stop i H/\D.nx σ H)\/(J.go i H/\∃N:St->Hp->Prop,(∀σ' H',N σ' H'->∃m',m' < m/\W (i+1) m' σ' H')/\∀x H',J.yld i H x H'->g x σ H' λσ2 H2=>tb { D with nx:=N,ct:=N,bk:=D.nx } σ2 H2)
noncomputable def zk9 (fp:List Addr) (h:Heap):List (Addr × Obj):=fp.filterMap λb=>(h.get? b).map λo=>(b,o)
theorem zdo {fp:List Addr}{h:Heap}{b:Addr}{o:Obj}(hb:b∈fp)(e:h.get? b=some o):(b,o)∈zk9 fp h:=List.mem_filterMap.mpr ⟨b,hb,by rw[e];rfl⟩
theorem zsr {fp:List Addr}{h:Heap}{p:Addr × Obj} (hp:p∈zk9 fp h):p.1∈fp/\h.get? p.1=some p.2:=by
  obtain⟨b,hb,e⟩:=List.mem_filterMap.mp hp;cases q:h.get? b with
  |none=>rw[q] at e;cases e
  | some o =>
    rw[q] at e;have e' : (b,o)=p:=sI e;subst e';exact⟨hb,q⟩
theorem Inv.pinned {pins:List (Addr × Obj)}{σ:St}{H:Hp}{s:Shared}{fp:List Addr}(I:Inv X pins σ H s)(hf:∀b∈fp,FpOk X pins H b)(ho:∀b∈fp,∃o,s.heap.get? b=some o/\∀v,o.data≠.cell v):Inv X (pins++zk9 fp s.heap) σ H s :=
 I.pins_of λp hp=>(Bo.mp hp).elim (λz=>I.pin p (Aw _ z)) λz=>by
  nofun;obtain⟨hb,e⟩:=zsr z;obtain⟨f0,f1,f2,_⟩:=hf p.1 hb;obtain⟨o,e',d⟩:=ho p.1 hb;ac_rfl;rw[e] at e';obtain rfl:=sI e';exact⟨e,f0,f1,f2,d⟩
theorem Inv.unpinned {pins pl:List (Addr × Obj)}{σ:St}{H:Hp}{s:Shared}(I:Inv X (pins++pl) σ H s):Inv X pins σ H s:=I.pins_of λp hp=>I.pin p (Aw _ (De _ hp))
theorem z41 {iter:Expr}{body:List Stmt}{wi:TI}{g:TG}{tb:TS}{pos:Pos} (hp:PassesOwn (model X.prog X.w) X.A X.env X.xe) (hc:X.calm=true) (hi:PI X tg iter wi) (hg:PG X tg g) (hb:PSs X body tb)
  (hs:∀x,foldedSetIterable iter X.env x=pure x:=by intro _;rfl):PS X (.For tg iter body [] pos) (tFor wi g tb):=by
 intro pins s σ H D I h;refine wpAny_For (thn (hi pins s σ H _ I h) λv s1 h1=>thn h1 λitv s2 h2=>?_) hs;nofun;obtain⟨it,fp,tn,J,H2,e,I2,T,st2,f2,W,⟨m0,w0⟩,turn⟩:=h2;ac_rfl;subst e;have stat:∀{H' : Hp},(∀b∈fp,H' b=none)->∀b∈fp,FpOk X pins H' b:=λhn b hb=>⟨hn b hb,(f2 b hb).2⟩;refine codeAny_forLoop_any (λn s'=>∃i σ' H',Inv X pins σ' H' s'/\tn i s'.heap/\(∀b∈fp,H' b=none)/\W i n σ' H') ?_ m0 ⟨0,σ,H2,I2,st2,λb hb=>(f2 b hb).1,w0⟩;rintro n s3 ⟨i,σ3,H3,I3,st3,fr3,w3⟩;rcases turn i n σ3 H3 w3 with⟨stop,qn⟩|⟨go,N,hN,step⟩
 ·refine He hp (thn (T.done X rfl rfl rfl hc i pins s3 σ3 H3 X.xe I3 (stat fr3) st3 stop) λr s4 ⟨hr,I4⟩ => ?_);subst hr;exact wpAny_execs_nil ⟨σ3,H3,I4,qn⟩
 ·refine He hp (thn (T.item X rfl rfl rfl hc i pins s3 σ3 H3 X.xe I3 (stat fr3) st3 go) fun r s4 ⟨u, hr, h4⟩ => ?_);subst hr;refine He hp (thn h4 fun _ s5 ⟨x,H5,I5,r5,y5,st5,fr5⟩=>?_);have I5':=I5.pinned (stat fr5) (T.obj _ _ st5);refine He hp (thn (hg _ s5 σ3 H5 x u _ I5' r5 (step x H5 y5)) fun _ s6 ⟨σ6,H6,I6,q6⟩=>?_);refine He hp (thn (hb _ s6 σ6 H6 _ I6 q6) fun f s7 q7=>?_);have again:∀{σ7:St}{H7:Hp},Inv X (pins++zk9 fp s5.heap) σ7 H7 s7->N σ7 H7->∃m,m < n/\∃i σ' H',Inv X pins σ' H' s7/\tn i s7.heap/\(∀b∈fp,H' b=none)/\W i m σ' H':=fun {σ7 H7} I7 n7=>by
   obtain⟨m',hm,w7⟩:=hN σ7 H7 n7;refine⟨m',hm,i+1,σ7,H7,I7.unpinned,T.keep _ _ _ st5 λb hb o e=>(I7.pin (b,o) (Aw _ (Aw _ (zdo hb e)))).1,λb hb=>?_,w7⟩;obtain⟨o,e,d⟩:=T.obj _ _ st5 b hb;exact (I7.pin (b,o) (Aw _ (Aw _ (zdo hb e)))).2.1
  cases f with
  |next=>obtain⟨σ7,H7,I7,n7⟩:=q7;exact again I7 n7
  |cont=>obtain⟨σ7,H7,I7,n7⟩:=q7;exact again I7 n7
  |brk=>obtain⟨σ7,H7,I7,q7⟩:=q7;exact⟨σ7,H7,I7.unpinned,q7⟩
  |ret v=>obtain⟨x7,σ7,H7,I7,r7,q7⟩:=q7;exact⟨x7,σ7,H7,I7.unpinned,r7,q7⟩
end
noncomputable abbrev R2:=V->V->Hp->VK->Prop
noncomputable def OpR (X:Cx) (f:Value->Value->Sem Value) (r:R2):Prop :=
  ∀(pins:List (Addr × Obj)) (s:Shared) (σ:St) (H:Hp) (x y:V) (v u:Value) (Q:VK),Inv X pins σ H s->RelV x v->RelV y u->r x y H Q ->
    wpAny (model X.prog X.w) X.A (f v u) (EP X pins σ Q) X.xe s
noncomputable def UnR (X:Cx) (f:Value->Sem Value) (r:V->Hp->VK->Prop):Prop :=
  ∀(pins:List (Addr × Obj)) (s:Shared) (σ:St) (H:Hp) (x:V) (v:Value) (Q:VK),Inv X pins σ H s->RelV x v->r x H Q ->
    wpAny (model X.prog X.w) X.A (f v) (EP X pins σ Q) X.xe s
noncomputable def zc2 (X:Cx) (f:Value) (r:List V->Hp->VK->Prop):Prop :=
  ∀(pins:List (Addr × Obj)) (s:Shared) (σ:St) (H:Hp) (xs:List V) (us:List Value) (Q:VK),Inv X pins σ H s->Vals xs us->r xs H Q ->
    wpAny (model X.prog X.w) X.A (call f us) (EP X pins σ Q) X.xe s
noncomputable def tOp (r:R2) (ta tb:TE):TE:=λσ H Q=>ta σ H λx H1=>tb σ H1 λy H2=>r x y H2 Q
noncomputable def tUn (r:V->Hp->VK->Prop) (ta:TE):TE:=λσ H Q=>ta σ H λx H1=>r x H1 Q
noncomputable def rI (C:Int->Int->Prop) (g:Int->Int->V):R2:=λx y H Q=>∃i j,x=.int i/\y=.int j/\C i j/\Q (g i j) H
noncomputable def rI0 (g:Int->Int->V):R2:=λx y H Q=>∃i j,x=.int i/\y=.int j/\Q (g i j) H
noncomputable def rU (g:Int->V):V->Hp->VK->Prop:=λx H Q=>∃i,x=.int i/\Q (g i) H
section
variable {X:Cx}{a b c:Expr}{ta tb tc:TE}{pos:Pos}
theorem binT (ha:PE X a ta) (hb:PE X b tb) {pins:List (Addr × Obj)}{s:Shared}{σ:St}{H:Hp}{R:V->V->Hp->Prop} (I:Inv X pins σ H s)
  (h:ta σ H λx H1=>tb σ H1 λy H2=>R x y H2) {Q:Value->Shared->Prop}{f:Value->Value->Sem Value}
  (hf:∀v u s2 x y H2,Inv X pins σ H2 s2->RelV x v->RelV y u->R x y H2->wpAny (model X.prog X.w) X.A (f v u) Q X.xe s2) :
  wpAny (model X.prog X.w) X.A (eval a X.env) (λv s₁=>wpAny (model X.prog X.w) X.A (eval b X.env) (λu s₂=>wpAny (model X.prog X.w) X.A (f v u) Q X.xe s₂) X.xe s₁) X.xe s:=by
 refine thn (ha pins s σ H _ I h) λv s1 ⟨x,H1,I1,r1,q1⟩=>?_;refine thn (hb pins s1 σ H1 _ I1 q1) λu s2 ⟨y,H2,I2,r2,q2⟩=>?_;exact hf v u s2 x y H2 I2 r1 r2 q2
theorem z5j {op:Operator}{r:R2}(ho:OpR X (binaryOp op) r)(ha:PE X a ta)(hb:PE X b tb):PE X (.BinOp a op b pos) (tOp r ta tb):=by
 intro pins s σ H Q I h;exact wpAny_BinOp (binT ha hb I h λv u s2 x y H2 I2 rx ry q=>ho pins s2 σ H2 x y v u Q I2 rx ry q)
theorem z73 {op:UnaryOp}{r:V->Hp->VK->Prop}(ho:UnR X (unaryOp op) r)(ha:PE X a ta):PE X (.UnaryOp op a pos) (tUn r ta):=by
 intro pins s σ H Q I h;exact UnaryOp_ (thn (ha pins s σ H _ I h) λv s1 ⟨x,H1,I1,r1,q1⟩=>ho pins s1 σ H1 x v Q I1 r1 q1)
theorem opI {f:Value->Value->Sem Value}{C:Int->Int->Prop}{g:Int->Int->Int}
  (rule:∀(i j:Int) (t u:Tok) (s:Shared) (Q:Value->Shared->Prop) (E:Value->Shared->Prop),C i j->Q (.int (g i j) s.toks) { s with toks:=s.toks+1 }->wpAny (model X.prog X.w) X.A (f (.int i t) (.int j u)) Q E s) :
  OpR X f (rI C λi j=>.int (g i j)):=by
 intro pins s σ H x y v u Q I rx ry h;obtain⟨i,j,rfl,rfl,hc,q⟩:=h;obtain⟨t,rfl⟩:=rx;obtain⟨t',rfl⟩:=ry;exact rule i j t t' s _ _ hc ⟨.int (g i j),H,I.tok _,⟨_,rfl⟩,q⟩
theorem opI0 {f:Value->Value->Sem Value}{g:Int->Int->Int}
  (rule:∀(i j:Int) (t u:Tok) (s:Shared) (Q:Value->Shared->Prop) (E:Value->Shared->Prop),Q (.int (g i j) s.toks) { s with toks:=s.toks+1 }->wpAny (model X.prog X.w) X.A (f (.int i t) (.int j u)) Q E s) :
  OpR X f (rI0 λi j=>.int (g i j)):=by
 intro pins s σ H x y v u Q I rx ry h;obtain⟨i,j,rfl,rfl,q⟩:=h;obtain⟨t,rfl⟩:=rx;obtain⟨t',rfl⟩:=ry;exact rule i j t t' s _ _ ⟨.int (g i j),H,I.tok _,⟨_,rfl⟩,q⟩
theorem opB0 {f:Value->Value->Sem Value}{g:Int->Int->Bool}
  (rule:∀(i j:Int) (t u:Tok) (s:Shared) (Q:Value->Shared->Prop) (E:Value->Shared->Prop),Q (.bool (g i j)) s->wpAny (model X.prog X.w) X.A (f (.int i t) (.int j u)) Q E s) :
  OpR X f (rI0 λi j=>.bl (g i j)):=by
 intro pins s σ H x y v u Q I rx ry h;obtain⟨i,j,rfl,rfl,q⟩:=h;obtain⟨t,rfl⟩:=rx;obtain⟨t',rfl⟩:=ry;exact rule i j t t' s _ _ ⟨.bl (g i j),H,I,rfl,q⟩
noncomputable def CPow (i j:Int):Prop:=0<=j/\j<=1000000/\i.natAbs<2 ^ 64
noncomputable def CMul (i j:Int):Prop:=(-(2 ^ 64)<i/\i<2 ^ 64)\/(-(2 ^ 64)<j/\j<2 ^ 64)
theorem CMul.ok {i j:Int}(h:CMul i j):IntMulOk i j:=by
 rcases h with⟨h1,h2⟩|⟨h1,h2⟩
 ·exact .of_left (intBits_le_64 h1 h2)
 ·exact .of_right (intBits_le_64 h1 h2)
theorem zqn (k:Nat):(0:Int)<=2 ^ k:=by
 rw[two_pow_cast];exact Int.natCast_nonneg _
theorem z4l:OpR X (binaryOp .Add) (rI0 λi j=>.int (i+j)):=opI0 λ_ _ _ _ _ _ _ q=>add_int q
theorem z48:OpR X (binaryOp .Sub) (rI0 λi j=>.int (i - j)):=opI0 λ_ _ _ _ _ _ _ q=>sub_int q
theorem z3q:OpR X (binaryOp .Mult) (rI CMul λi j=>.int (i * j)):=opI λ_ _ _ _ _ _ _ hc q=>mul_int q hc.ok
theorem z4k:OpR X (binaryOp .Mod) (rI (λ_ j=>0<j) λi j=>.int (i % j)):=opI λi j _ _ _ _ _ hc q=>by
 have h1:(0:Int)<j:=hc;exact mod_int' #v[] (by rw[Int.fmod_eq_emod_of_nonneg i #v[]];exact q)
theorem z3j:OpR X (binaryOp .Pow) (rI CPow λi j=>.int (i ^ j.toNat)):=opI λ_ _ _ _ _ _ _ hc q=>pow_int_small hc.1 hc.2.1 hc.2.2 q
theorem z4r:OpR X (binaryOp .LShift) (rI CPow λi j=>.int (i * 2 ^ j.toNat)):=opI λ_ _ _ _ _ _ _ hc q=>lshift_int_small hc.1 hc.2.1 hc.2.2 q
theorem z39:OpR X (binaryOp .RShift) (rI (λ_ j=>0<=j) λi j=>.int (i / 2 ^ j.toNat)):=opI λi j _ _ _ _ _ hc q =>
 rshift_int hc (by rw[Int.fdiv_eq_ediv_of_nonneg i (zqn _)];exact q)
theorem z4z:OpR X (binaryOp .BitAnd) (rI0 λi j=>.int (Builtin.bitAnd i j)):=opI0 λ_ _ _ _ _ _ _ q=>and_int q
theorem z8j:OpR X (binaryOp .BitOr) (rI0 λi j=>.int (Builtin.bitOr i j)):=opI0 λ_ _ _ _ _ _ _ q=>or_int q
theorem z4y:OpR X (binaryOp .BitXor) (rI0 λi j=>.int (Builtin.bitXor i j)):=opI0 λ_ _ _ _ _ _ _ q=>xor_int q
theorem unI {f:Value->Sem Value}{g:Int->Int}
  (rule:∀(i:Int) (t:Tok) (s:Shared) (Q:Value->Shared->Prop) (E:Value->Shared->Prop),Q (.int (g i) s.toks) { s with toks:=s.toks+1 }->wpAny (model X.prog X.w) X.A (f (.int i t)) Q E s) :
  UnR X f (rU λi=>.int (g i)):=by
 intro pins s σ H x v Q I rx h;obtain⟨i,rfl,q⟩:=h;obtain⟨t,rfl⟩:=rx;exact rule i t s _ _ ⟨.int (g i),H,I.tok _,⟨_,rfl⟩,q⟩
theorem z23:UnR X (unaryOp .USub) (rU λi=>.int (-i)):=unI λ_ _ _ _ _ q=>neg_int q
end
noncomputable def scal:V->V->Bool
 |.non,.non=>true|.non,.int _=>true|.int _,.non=>true|.non,.bl _=>true|.bl _,.non=>true|.non,.str _=>true|.str _,.non=>true
 |.int _,.int _=>true|.bl _,.bl _=>true|.str _,.str _=>true|.byt _,.byt _=>true
 |.int _,.str _=>true|.str _,.int _=>true|.bl _,.str _=>true|.str _,.bl _=>true
 |_,_=>false
noncomputable def rEq:R2:=λx y H Q=>scal x y=true/\Q (.bl (decide (x=y))) H
noncomputable def rNe:R2:=λx y H Q=>scal x y=true/\Q (.bl (!decide (x=y))) H
theorem zr1 {i j:Int}:decide (V.int i=V.int j)=(i == j):=by
 rw[Fo];simp
theorem zyv {i j:Bool}:decide (V.bl i=V.bl j)=(i == j):=by
 rw[Fo];simp
theorem zus {i j:Str}:decide (V.str i=V.str j)=(i == j):=by
 rw[Fo];simp
theorem zs7 {i j:Array UInt8}:decide (V.byt i=V.byt j)=(i.toList == j.toList):=by
 rw[Fo];cases i;cases j;simp
section
variable {X:Cx}{a b c:Expr}{ta tb tc:TE}{pos:Pos}
theorem zaj {pins:List (Addr × Obj)}{σ:St}{H:Hp}{s:Shared}{Q:VK}{k k' : Bool}(I:Inv X pins σ H s)(q:Q (.bl k) H)(e:k=k'):EP X pins σ Q (.bool k') s:=by
 subst e;exact⟨.bl k,H,I,rfl,q⟩
theorem z7h:OpR X (compareOp .Eq) rEq:=by
  intro pins s σ H x y v u Q I rx ry h;obtain⟨hs,q⟩:=h;cases x with
  | non =>
    cases rx;cases y with
    |non=>cases ry;exact PySem.EqNone.eq_none_none (zaj I q (by simp))
    |bl j=>cases ry;exact PySem.EqNone.eq_none_bool (zaj I q (by simp))
    |int j=>obtain⟨t',rfl⟩:=ry;exact PySem.EqNone.eq_none_int (zaj I q (by simp))
    |str j=>obtain⟨t',rfl⟩:=ry;exact PySem.EqNone.eq_none_str (zaj I q (by simp))
    |_=>exact absurd (show false=true from hs) Ax
  | bl i =>
    cases rx;cases y with
    |non=>cases ry;exact PySem.EqNone.eq_bool_none (zaj I q (by simp))
    |bl j=>cases ry;exact eq_bool (zaj I q zyv)
    |str j=>obtain⟨t',rfl⟩:=ry;exact PySem.EqMixed.eq_bool_str (zaj I q (by simp))
    |_=>exact absurd (show false=true from hs) Ax
  | int i =>
    obtain⟨t,rfl⟩:=rx;cases y with
    |non=>cases ry;exact PySem.EqNone.eq_int_none (zaj I q (by simp))
    |int j=>obtain⟨t',rfl⟩:=ry;exact eq_int (zaj I q zr1)
    |str j=>obtain⟨t',rfl⟩:=ry;exact PySem.EqMixed.eq_int_str (zaj I q (by simp))
    |_=>exact absurd (show false=true from hs) Ax
  | str i =>
    obtain⟨t,rfl⟩:=rx;cases y with
    |non=>cases ry;exact PySem.EqNone.eq_str_none (zaj I q (by simp))
    |bl j=>cases ry;exact PySem.EqMixed.eq_str_bool (zaj I q (by simp))
    |int j=>obtain⟨t',rfl⟩:=ry;exact PySem.EqMixed.eq_str_int (zaj I q (by simp))
    |str j=>obtain⟨t',rfl⟩:=ry;exact eq_str (zaj I q zus)
    |_=>exact absurd (show false=true from hs) Ax
  | byt i =>
    obtain⟨t,rfl⟩:=rx;cases y with
    |byt j=>obtain⟨t',rfl⟩:=ry;exact PySem.W.eq_bytes (zaj I q zs7)
    |_=>exact absurd (show false=true from hs) Ax
  |_=>cases y<;>exact absurd (show false=true from hs) Ax
theorem z7v:OpR X (compareOp .NotEq) rNe:=by
  intro pins s σ H x y v u Q I rx ry h;obtain⟨hs,q⟩:=h;cases x with
  | non =>
    cases rx;cases y with
    |non=>cases ry;exact PySem.EqNone.ne_none_none (zaj I q (by simp))
    |bl j=>cases ry;exact PySem.EqNone.ne_none_bool (zaj I q (by simp))
    |int j=>obtain⟨t',rfl⟩:=ry;exact PySem.EqNone.ne_none_int (zaj I q (by simp))
    |str j=>obtain⟨t',rfl⟩:=ry;exact PySem.EqNone.ne_none_str (zaj I q (by simp))
    |_=>exact absurd (show false=true from hs) Ax
  | bl i =>
    cases rx;cases y with
    |non=>cases ry;exact PySem.EqNone.ne_bool_none (zaj I q (by simp))
    |bl j=>cases ry;exact ne_bool (zaj I q (congrArg not zyv))
    |str j=>obtain⟨t',rfl⟩:=ry;exact PySem.EqMixed.ne_bool_str (zaj I q (by simp))
    |_=>exact absurd (show false=true from hs) Ax
  | int i =>
    obtain⟨t,rfl⟩:=rx;cases y with
    |non=>cases ry;exact PySem.EqNone.ne_int_none (zaj I q (by simp))
    |int j=>obtain⟨t',rfl⟩:=ry;exact ne_int (zaj I q (congrArg not zr1))
    |str j=>obtain⟨t',rfl⟩:=ry;exact PySem.EqMixed.ne_int_str (zaj I q (by simp))
    |_=>exact absurd (show false=true from hs) Ax
  | str i =>
    obtain⟨t,rfl⟩:=rx;cases y with
    |non=>cases ry;exact PySem.EqNone.ne_str_none (zaj I q (by simp))
    |bl j=>cases ry;exact PySem.EqMixed.ne_str_bool (zaj I q (by simp))
    |int j=>obtain⟨t',rfl⟩:=ry;exact PySem.EqMixed.ne_str_int (zaj I q (by simp))
    |str j=>obtain⟨t',rfl⟩:=ry;exact ne_str (zaj I q (congrArg not zus))
    |_=>exact absurd (show false=true from hs) Ax
  | byt i =>
    obtain⟨t,rfl⟩:=rx;cases y with
    |byt j=>obtain⟨t',rfl⟩:=ry;exact PySem.W.ne_bytes (zaj I q (congrArg not zs7))
    |_=>exact absurd (show false=true from hs) Ax
  |_=>cases y<;>exact absurd (show false=true from hs) Ax
theorem z6z:OpR X (compareOp .Lt) (rI0 λi j=>.bl (decide (i<j))):=opB0 λ_ _ _ _ _ _ _ q=>lt_int q
theorem z8e:OpR X (compareOp .LtE) (rI0 λi j=>.bl (decide (i<=j))):=opB0 λ_ _ _ _ _ _ _ q=>le_int q
theorem z63:OpR X (compareOp .Gt) (rI0 λi j=>.bl (decide (j<i))):=opB0 λ_ _ _ _ _ _ _ q=>gt_int q
theorem z69:OpR X (compareOp .GtE) (rI0 λi j=>.bl (decide (j<=i))):=opB0 λ_ _ _ _ _ _ _ q=>ge_int q
theorem OpR.or {f:Value->Value->Sem Value}{r r' : R2}(h:OpR X f r)(h' : OpR X f r'):OpR X f (λx y H Q=>r x y H Q\/r' x y H Q):=by
 intro pins s σ H x y v u Q I rx ry q;rcases q with q|q
 ·exact h pins s σ H x y v u Q I rx ry q
 ·exact h' pins s σ H x y v u Q I rx ry q
theorem zug {op:CmpOp}{r:R2}(ho:OpR X (compareOp op) r)(ha:PE X a ta)(hb:PE X b tb)(hm:behindInMarks op b=false):PE X (.Compare a [op] [b] pos) (tOp r ta tb):=by
 intro pins s σ H Q I h;exact wpAny_Compare1 (binT ha hb I h λv u s2 x y H2 I2 rx ry q=>ho pins s2 σ H2 x y v u Q I2 rx ry q) hm
noncomputable def z3x (t:TE):TT:=λσ H Q=>t σ H λx H'=>∃k,x=.bl k/\Q k H'
theorem zss {op:CmpOp}{r:R2}(ho:OpR X (compareOp op) r)(ha:PE X a ta)(hb:PE X b tb)(hm:behindInMarks op b=false):PT X (.Compare a [op] [b] pos) (z3x (tOp r ta tb)):=by
 intro pins s σ H Q I h;refine wpAny_isTrue_Compare1 (thn (ha pins s σ H _ I h) λv s1 ⟨x,H1,I1,r1,q1⟩=>thn (hb pins s1 σ H1 _ I1 q1) λu s2 ⟨y,H2,I2,r2,q2⟩ =>
  thn (ho pins s2 σ H2 x y v u _ I2 r1 r2 q2) λc s3 ⟨z,H3,I3,r3,k,e,q3⟩=>?_) hm
 subst e;cases r3;exact Hr ⟨H3,I3,q3⟩
theorem zo1:(sizeLine:Nat)<2 ^ 63:=by rw[Ff];decide
theorem zqv:OpR X (binaryOp .Add) (λx y H Q=>∃i j,x=.str i/\y=.str j/\i.length+j.length<=sizeLine/\Q (.str (i++j)) H):=by
 intro pins s σ H x y v u Q I rx ry h;obtain⟨i,j,rfl,rfl,hz,q⟩:=h;obtain⟨t,rfl⟩:=rx;obtain⟨t',rfl⟩:=ry;exact add_str (λt' tk=>⟨.str (i++j),H,I.tok _,⟨_,rfl⟩,q⟩) hz
theorem vals1 {x:V}{us:List Value}(r:Vals [x] us):∃u,us=[u]/\RelV x u:=by
 cases r with
 |cons r1 r2=>cases r2;exact⟨_,rfl,r1⟩
theorem zvy:zc2 X (.builtin "abs") (λxs H Q=>∃i,xs=[.int i]/\Q (.int (if i<0 then -i else i)) H):=by
 intro pins s σ H xs us Q I r h;obtain⟨i,rfl,q⟩:=h;obtain⟨u,rfl,t,rfl⟩:=vals1 r;exact call_abs_int λu tk=>⟨.int (if i<0 then -i else i),H,I.tok _,⟨_,rfl⟩,q⟩
theorem ztn:zc2 X (.type "int") (λxs H Q=>(∃i,xs=[.int i]/\Q (.int i) H)\/∃k,xs=[.bl k]/\Q (.int (if k then 1 else 0)) H):=by
 intro pins s σ H xs us Q I r h;rcases h with⟨i,rfl,q⟩|⟨k,rfl,q⟩
 ·obtain⟨u,rfl,t,rfl⟩:=vals1 r;exact call_int_int ⟨.int i,H,I,⟨_,rfl⟩,q⟩
 ·obtain⟨u,rfl,r1⟩:=vals1 r;cases r1;exact call_int_bool ⟨.int (if k then 1 else 0),H,I.tok _,⟨_,rfl⟩,q⟩
end
section
variable {prog:Program}{w:World}{A:Around}{E:Value->Shared->Prop}{s:Shared}{K:PySem.W.Frag}{x dx C f:Addr}{mA:Str->Option Value}{name:Str}{v:Value}
end
theorem RelO.some_of {v:V}{o:Option Value}(r:RelO (some v) o):∃u,o=some u/\RelV v u:=by
 cases o with
 |none=>exact (show False from r).elim
 |some u=>exact⟨u,rfl,r⟩
section
variable {P:Program}{w:World}{H H' : Hp}{h h' : Heap}{a C dx:Addr}{fs fs' : List (Str × V)}
end
section
variable {X:Cx}{pins:List (Addr × Obj)}{σ:St}{H:Hp}{s:Shared}{a C dx:Addr}{fs:List (Str × V)}{f:Str}{v:V}{A:Around}{E:Value->Shared->Prop}
end
section
variable {X:Cx}{o e value:Expr}{f:Str}{pos pos' tpos:Pos}{ta tv:TE}
end
section
variable {X:Cx}{pins:List (Addr × Obj)}{σ:St}{H:Hp}{s:Shared}{A:Around}{E:Value->Shared->Prop}{Q:Value->Shared->Prop}{c:Value}{b:Bool}
end
structure Room (k:Nat) (A:Around):Prop where
 hd:A.handled=none
 dp:A.depth+3 * k+5<recursionLimit
 un:A.units+16 * k+200<cLine
 gd:A.guards=some []
theorem Room.mono {j k:Nat}{A:Around}(r:Room k A)(h:j<=k):Room j A:=⟨r.hd,by have:=r.dp;omega,by have:=r.un;omega,r.gd⟩
theorem Room.deeper {k:Nat}{A:Around}(r:Room (k+1) A)(env:Env):Room k (A.deeper env) :=
 ⟨r.hd,by have:=r.dp;show A.depth+1+3 * k+5<_;omega,by have:=r.un;show A.units+3+16 * k+200<_;omega,r.gd⟩
theorem Room.depth {k:Nat}{A:Around}(r:Room k A):A.depth<recursionLimit:=by have:=r.dp;omega
noncomputable def tNil:TA:=λ_ H Q=>Q [] H
noncomputable def zhd (ta:TE) (tr:TA):TA:=λσ H Q=>ta σ H λx H1=>tr σ H1 λxs H2=>Q (x::xs) H2
section
variable {X:Cx}{e:Expr}{es:List Expr}{te:TE}{t:TA}{pos:Pos}
theorem zfg:PA X [] tNil:=λ_ _ _ _ H Q I h=>Calls.spliced_nil ⟨[],H,I,.nil,h⟩
theorem zja (ha:PE X e te)(hr:PA X es t)(hs:starEach (e::es) X.env=(false,eval e X.env)::starEach es X.env:=by rfl):PA X (e::es) (zhd te t):=by
 intro pos pins s σ H Q I h;rw[hs];show wpAny _ _ (spliced ((false,eval e X.env)::backTo pos (starEach es X.env))) _ _ s;refine Calls.spliced_cons (thn (ha pins s σ H _ I h) λu s1 ⟨x,H1,I1,r1,q1⟩=>?_);exact thn (hr pos pins s1 σ H1 _ I1 q1) λus s2 ⟨xs,H2,I2,r2,q2⟩=>⟨x::xs,H2,I2,.cons r1 r2,q2⟩
noncomputable def tTup (t:TA):TE:=λσ H Q=>t σ H λxs H1=>xs.length<=sizeLine/\∀p,H1 p=none->Q (.ref p) (upd H1 p (.tup xs))
noncomputable def tLst (t:TA):TE:=λσ H Q=>t σ H λxs H1=>xs.length<=sizeLine/\∀p,H1 p=none->Q (.ref p) (upd H1 p (.lst xs))
theorem z6q {x1}(h:PA X es t):PE X (.Tuple es x1 pos) (tTup t):=by
 intro pins s σ H Q I hq;refine wpAny_Tuple_spliced (thn (h pos pins s σ H _ I hq) λus s1 ⟨xs,H1,I1,r,z,q⟩=>⟨by rw[<-r.length];exact z,?_⟩);have hf:H1 s1.heap.objs.size=none:=I1.hok.fresh (Af _);refine⟨.ref s1.heap.objs.size,upd H1 s1.heap.objs.size (.tup xs),I1.laid (t':=s1.toks) (λb u e=>Ab _ e) (Af _) ?_,rfl,q _ hf⟩;exact⟨z,us,r,⟨_,Ak _ rfl,⟨rfl,_,rfl⟩,rfl⟩⟩
theorem z5i (h:PA X es t):PE X (.List es pos) (tLst t):=by
 intro pins s σ H Q I hq;refine wpAny_List_spliced (thn (h pos pins s σ H _ I hq) λus s1 ⟨xs,H1,I1,r,z,q⟩=>⟨by rw[<-r.length];exact z,?_⟩);have hf:H1 s1.heap.objs.size=none:=I1.hok.fresh (Af _);refine⟨.ref s1.heap.objs.size,upd H1 s1.heap.objs.size (.lst xs),I1.laid (t':=s1.toks) (λb u e=>Ab _ e) (Af _) ?_,rfl,q _ hf⟩;exact⟨z,us,0,r,Ak _ rfl⟩
end
noncomputable abbrev Sp:=List V->Hp->VK->XK->Prop
noncomputable abbrev CXT:=List Env->Hp->Shared->XK->Value->Shared->Prop
structure Env0 (P:Program) (w:World) (K:PySem.W.Frag) (mg:Str->Option Value) (base:Heap) (A:Around) (outer:List Env) (s:Shared) (H:Hp):Prop where
 frames:A.frames=some outer
 mod:Mod K mg base
 bs:∀b o,base.get? b=some o->s.heap.get? b=some o/\H b=none
 bsz:base.objs.size<=s.heap.objs.size
 funs:s.heap.FunFrames base outer
 frf:∀b∈frs outer,H b=none
 hok:HOk P w H s.heap
 bare:AllBare s.gens
noncomputable def CE (outer:List Env) (P:Program) (w:World) (H:Hp) (s:Shared) (Q:VK) (u:Value) (s' : Shared):Prop :=
 ∃v H',s'.os=s.os/\AllBare s'.gens/\Un (frs outer) [] H H' s.heap s'.heap/\HOk P w H' s'.heap/\RelV v u/\Q v H'
noncomputable def CR (CX:CXT) (outer:List Env) (P:Program) (w:World) (H:Hp) (s:Shared) (Q:VK) (E:XK) (r:Result) (s' : Shared):Prop :=
 match r with
 |.ok (.ret u)=>CE outer P w H s Q u s'
 |.ok _=>False
 |.error e=>CX outer H s E e s'
structure FnOk (P:Program) (w:World) (K:PySem.W.Frag) (mg:Str->Option Value) (base:Heap) (CX:CXT) (k:Nat) (f:Addr) (fd:FuncData) (ps:List Str) (sp:Sp):Prop where
 len:∀vs H Q E,sp vs H Q E->vs.length=ps.length
 run:∀(A:Around) (outer:List Env) (s:Shared) (H:Hp) (args:Args) (us:List Value) (vs:List V) (Q:VK) (E:XK),Room k A->Env0 P w K mg base A outer s H->BindsTo s fd args (ps.zip us)->Vals vs us->sp vs H Q E ->
  codeAny (model P w) A (.call (.ref f) args) (CR CX outer P w H s Q E) s
section
variable {X:Cx}{pins:List (Addr × Obj)}{σ:St}{H:Hp}{s s' : Shared}
theorem Inv.env0 (I:Inv X pins σ H s):Env0 X.prog X.w X.K X.mg X.base X.A X.stack s H :=
 ⟨I.ok.frames,I.ok.mod,I.bs,Bv I.ok.bsz I.sz,I.stack,I.stkFree,I.hok,I.bare⟩
theorem Inv.after {Q:VK}{u:Value}(I:Inv X pins σ H s)(h:CE X.stack X.prog X.w H s Q u s'):EP X pins σ Q u s':=by
 nofun;obtain⟨v,H',os,bare,un,hok,r,q⟩:=h;obtain⟨hh,g,d,t,os'⟩:=s';ac_rfl;obtain rfl:os'=s.os:=os;exact⟨v,H',I.call (h':=hh) (g':=g) (d':=d) (t':=t) (ch:=[]) un hok bare (λb z=>absurd z (by simp)),r,q⟩
end
noncomputable def z0j (sp:Sp) (dvs:List V) (E:XK) (t:TA):TE:=λσ H Q=>t σ H λvs H1=>sp (vs++dvs) H1 Q E
noncomputable def zl9 (K:PySem.W.Frag) (fd:FuncData) (ps:List Str) (ds:List Value):Prop :=
 ∀(s:Shared) (us:List Value),K.In s.heap->(us++ds).length=ps.length->BindsTo s fd ⟨us,[]⟩ (ps.zip (us++ds))
theorem zl9.all {K:PySem.W.Frag}{fd:FuncData}{ps:List Str}(h:∀us:List Value,us.length=ps.length->bindArgs fd ⟨us,[]⟩=pure (ps.zip us)):zl9 K fd ps []:=λs us _ hl=>by
 rw[Bx] at hl ⊢;exact .of_eq (h us hl)
noncomputable def zrg (CX:CXT) (X:Cx) (E:XK):Prop:=∀(pins:List (Addr × Obj)) (σ:St) (H:Hp) (s:Shared) (e:Value) (s' : Shared),Inv X pins σ H s->CX X.stack H s E e s'->X.xe e s'
section
variable {X:Cx}{CX:CXT}{k:Nat}{f C:Addr}{fd:FuncData}{ps:List Str}{sp:Sp}{dvs:List V}{ds:List Value}{E:XK}{x m:Str}{p pos apos:Pos}{e o:Expr}{es:List Expr}{ta:TE}{t:TA}
theorem z3v {pins:List (Addr × Obj)}{σ:St}{H:Hp}{s:Shared}{Q:VK}{us:List Value}{vs:List V} (F:FnOk X.prog X.w X.K X.mg X.base CX k f fd ps sp) (hr:Room k X.A) (hb:zl9 X.K fd ps ds) (hd:Vals dvs ds) (hx:zrg CX X E)
    (I:Inv X pins σ H s) (r:Vals vs us) (h:sp (vs++dvs) H Q E):wpAny (model X.prog X.w) X.A (call (.ref f) us) (EP X pins σ Q) X.xe s:=by
  have r2:Vals (vs++dvs) (us++ds):=r.append hd;have hl:(us++ds).length=ps.length:=by rw[<-r2.length];exact F.len _ _ _ _ h
  refine wpAny_call (codeAny_mono (F.run X.A X.stack s H ⟨us,[]⟩ (us++ds) (vs++dvs) Q E hr I.env0 (hb s us I.kIn hl) r2 h) λr s' hq=>?_);cases r with
  |error e=>exact hx pins σ H s e s' I hq
  | ok fl =>
    cases fl with
    |ret u=>exact I.after hq
    |next=>exact False.elim hq
    |brk=>exact False.elim hq
    |cont=>exact False.elim hq
theorem zzx (F:FnOk X.prog X.w X.K X.mg X.base CX k f fd ps sp) (hr:Room k X.A) (hg:Gl X x) (hm:X.mg x=some (.ref f)) (hk:PySem.W.keepIn X.K (.ref f)=true) (hb:zl9 X.K fd ps ds) (hd:Vals dvs ds) (hx:zrg CX X E)
  (ha:PA X (e::es) t) (hdb:(x == ("__debug__" : Str))=false:=by decide) (he:starEach (e::es) X.env=(false,eval e X.env)::starEach es X.env:=by rfl) (hpl:(backTo pos (starEach es X.env)).any (·.1)=false:=by rfl) :
  PE X (.Call (.Name x p) (e::es) [] pos) (z0j sp dvs E t):=by
 intro pins s σ H Q I h;refine Ho (z19 I hg hm ?_ hdb);refine PySem.W.callWith_K (h₀:=X.base) I.ok.mod.kin hk (thn (ha pos pins s σ H _ I h) λus s1 ⟨vs,H1,I1,r,q⟩=>⟨I1.kIn,?_⟩) he hpl;exact z3v F hr hb hd hx I1 r q
end
section
variable {X:Cx}{CX:CXT}{k:Nat}{f C:Addr}{fd:FuncData}{ps ks:List Str}{sp:Sp}{E:XK}{x m:Str}{p pos apos kpos:Pos}{e o:Expr}{es:List Expr}{kws:List Keyword}{te ta:TE}{t tk:TA}{nm:Option Str}
variable {g:List Value->List Value->List Value}{gV:List V->List V->List V}
end
structure FnScope (N P:List Str) (sc:Scope):Prop where
 kind:sc.kind=.function
 co:sc.isCoroutine=false
 gen:sc.isGenerator=false
 nd:N.Nodup
 pre:N.take P.length=P
 par:∀x∈P,sc.names.lookup x=some .local\/sc.names.lookup x=some .cell
 nofree:∀y∈sc.names,y.2≠.free
theorem zjy {kindOf:Str->Option NameKind}{x:Str}:∀{binds:List (Str × Value)}{m:Str->Option Value},(∀v,(x,v) ∉ binds)->bindL kindOf binds m x=m x
  |[],_,_=>rfl
  | (n,v)::r,m,h=>by
    unfold bindL;rw[zjy λw hw=>h w (As _ hw)];split
    · have : x ≠ n := by rintro rfl; exact h v Av
      simp [this]
    · rfl
theorem zli {kindOf:Str->Option NameKind}{x:Str}:∀{binds:List (Str × Value)}{m:Str->Option Value},(∀v,(x,v) ∉ binds)->bindC kindOf binds m x=m x
  |[],_,_=>rfl
  | (n,v)::r,m,h=>by
    unfold bindC;rw[zli λw hw=>h w (As _ hw)];split
    · rfl
    · have : x ≠ n := by rintro rfl; exact h v Av
      simp [this]
theorem zlp {kindOf:Str->Option NameKind}{x:Str}{v:Value}:∀{P:List Str}{vs:List Value}{i:Nat}{m:Str->Option Value},P.Nodup->P[i]?=some x->vs[i]?=some v->kindOf x=some .local ->
    bindL kindOf (P.zip vs) m x=some v
  |[],_,_,_,_,h,_,_=>by simp at h
  |_::_,[],_,_,_,_,h,_=>by simp at h
  | p::P,w::vs,0,m,nd,h1,h2,hk=>by
    simp at h1 h2;subst h1;subst h2;show bindL kindOf ((p,w)::P.zip vs) m p=_;unfold bindL;rw[zjy λv hv=>(Da.mp nd).1 (Dx hv).1,if_pos hk];simp
  | p::P,w::vs,i+1,m,nd,h1,h2,hk=>by
    show bindL kindOf ((p,w)::P.zip vs) m x=_;unfold bindL;exact zlp (i:=i) (Da.mp nd).2 (by simpa using h1) (by simpa using h2) hk
theorem zk6 {kindOf:Str->Option NameKind}{x:Str}{v:Value}:∀{P:List Str}{vs:List Value}{i:Nat}{m:Str->Option Value},P.Nodup->P[i]?=some x->vs[i]?=some v->kindOf x≠some .local ->
    bindC kindOf (P.zip vs) m x=some v
  |[],_,_,_,_,h,_,_=>by simp at h
  |_::_,[],_,_,_,_,h,_=>by simp at h
  | p::P,w::vs,0,m,nd,h1,h2,hk=>by
    simp at h1 h2;subst h1;subst h2;show bindC kindOf ((p,w)::P.zip vs) m p=_;unfold bindC;rw[zli λv hv=>(Da.mp nd).1 (Dx hv).1,if_neg hk];simp
  | p::P,w::vs,i+1,m,nd,h1,h2,hk=>by
    show bindC kindOf ((p,w)::P.zip vs) m x=_;unfold bindC;exact zk6 (i:=i) (Da.mp nd).2 (by simpa using h1) (by simpa using h2) hk
noncomputable def start (N:List Str) (vs:List V):St:=vs.map some++List.replicate (N.length - vs.length) none
noncomputable def cxOf (CX:CXT) (P:Program) (w:World) (K:PySem.W.Frag) (mg:Str->Option Value) (base:Heap) (N:List Str) (qual:Str) (scope:Scope) (f:Addr) (cd:Value) (A:Around) (outer:List Env) (s:Shared) (H:Hp) (E:XK):Cx where
 prog:=P
 w:=w
 K:=K
 mg:=mg
 base:=base
 A:=A.deeper (envOfC qual scope s.heap.objs.size f cd)
 N:=N
 s₀:=s
 H₀:=H
 env:=envOfC qual scope s.heap.objs.size f cd
 outer:=outer
 stack:=envOfC qual scope s.heap.objs.size f cd::outer
 ex:=[]
 calm:=true
 fn:=λ_=>true
 pn:=[]
 xe:=λe s'=>wpAny (model P w) (A.deeper (envOfC qual scope s.heap.objs.size f cd)) (leaving (envOfC qual scope s.heap.objs.size f cd) e) (λ_ s''=>CX outer H s E e s'') (λe' s''=>CX outer H s E e' s'') s'
theorem cell_has {sc:Scope}{n:Nat}{x:Str}(h:sc.names.lookup x=some .cell):∃c,(cellsFrom n sc.names []).lookup x=some c:=by
 have q:=Fw sc.names n [] (.inl h);exact Fg.mp q
theorem zkn {CX:CXT}{P:Program}{w:World}{K:PySem.W.Frag}{mg:Str->Option Value}{base:Heap}{N ps:List Str}{qual:Str}{scope:Scope}{f:Addr}{cd:Value}{A:Around}{outer:List Env}{s s1:Shared}{H:Hp}{E:XK}{us:List Value}{vs:List V}
  (S:FnScope N ps scope) (hd:A.handled=none) (e0:Env0 P w K mg base A outer s H) (hl:vs.length=ps.length) (r:Vals vs us)
  (x:InCallC s s.heap.objs.size (bindL (envOfC qual scope s.heap.objs.size f cd).kindOf (ps.zip us) λ_=>none) (cellsFrom (s.heap.objs.size+1) scope.names []) (bindC (envOfC qual scope s.heap.objs.size f cd).kindOf (ps.zip us) λ_=>none) s1) :
  Inv (cxOf CX P w K mg base N qual scope f cd A outer s H E) [] (start N vs) H s1:=by
 have hpl:ps.length<=N.length:=by have:=congrArg List.length S.pre;rw[Dp] at this;omega
 obtain⟨h1,tk,rfl,hk⟩:=x.done;have noA:∀b:Addr,b ∉ (cxOf CX P w K mg base N qual scope f cd A outer s H E).ex:=λb z=>absurd (show b∈([]:List Addr) from z) (by simp);refine⟨⟨e0.mod,S.kind,rfl,rfl,Af _,λy z c h1 h2=>?_,λy hy=>?_,λy c _ h=>?_,λ_=>hd,Around.frames_deeper e0.frames,.inr ⟨rfl,rfl⟩,λb z=>absurd z (noA b),e0.bs,e0.bsz,λb _ _=>noA b,λb z=>absurd z (noA b),e0.funs,e0.frf⟩,
  rfl,e0.bare,Un.kept hk,⟨_,x.toInCall.ns,λi y v h1 h2 h3=>?_⟩,λy c h=>⟨_,x.cell y c h⟩,e0.hok.fresh (Af _),λy c h=>?_,λp hp=>absurd (show p∈([]:List (Addr × Obj)) from hp) (by simp),e0.hok.kept hk,?_⟩
 ·exact name_of_addr x.apart (Br h1) (Br h2)
 ·have hy : scope.names.lookup y = some .cell \/ scope.names.lookup y = some .free:=hy;rcases hy with hy|hy
  ·exact cell_has hy
  ·exact absurd rfl (S.nofree _ (Br hy))
 ·exact Nat.le_of_lt (x.above y c (Br h))
 ·have hi:i < vs.length:=by
   unfold start at h2;by_cases hi:i<vs.length
   ·exact hi
   ·rw[Ew (by simpa using hi)] at h2;rw[List.getElem?_replicate] at h2;split at h2<;>cases h2
  have ha:vs[i]?=some v:=by
   unfold start at h2;rw[Db (by simpa using hi),Ap] at h2;cases e:vs[i]? with
   |none=>rw[e] at h2;cases h2
   |some a=>rw[e] at h2;cases h2;rfl
  obtain⟨u,hu,rv⟩:=r.get ha;have hp:ps[i]?=some y:=by
   rw[<-S.pre,List.getElem?_take_of_lt #v[]];exact h1
  have ndP:ps.Nodup:=by rw[<-S.pre];exact S.nd.sublist (Es _ _)
  refine⟨u,rv,?_⟩;rcases S.par y (Bt hp) with k|k
  ·exact .inl ⟨k,zlp ndP hp hu k⟩
  ·obtain⟨c,e⟩:=cell_has (n:=s.heap.objs.size + 1) k;refine .inr ⟨.inl k,c,e,?_⟩;have q:=x.cell y c e;rw[zk6 ndP hp hu (by show scope.names.lookup y≠_;rw[k];decide)] at q;exact q
 ·exact e0.hok.fresh (Nat.le_of_lt (x.above y c (Br h)))
 ·unfold start;show _=N.length;rw[Bb,Ac,Du];omega
theorem z8h {CX:CXT}{P:Program}{w:World}{K:PySem.W.Frag}{mg:Str->Option Value}{base:Heap}{k:Nat}{f:Addr}{name qual:Str}{params:Arguments}{body:List Stmt}{scope:Scope}{dV kV doc pm cdv ct oc:Value}{an od:Option Addr}
    {osl:Array (Option Value)}{N ps:List Str}{sp:Sp} (lk:K.lookup f=some ⟨oc,od,.func (PySem.W.fnOf name qual params body scope dV kV doc pm an cdv ct),osl⟩) (hcd:PySem.W.codeIn K cdv qual=true) (S:FnScope N ps scope)
    (len:∀vs H Q E,sp vs H Q E->vs.length=ps.length)
    (hbody:∀(A:Around) (outer:List Env) (s:Shared) (H:Hp) (vs:List V) (Q:VK) (E:XK),(Room k (A.deeper (envOfC qual scope s.heap.objs.size f cdv))/\Room (k+1) A)->sp vs H Q E ->
      ∃t,PSs (cxOf CX P w K mg base N qual scope f cdv A outer s H E) body t/\t { nx:=λ_ H'=>Q .non H',rt:=Q } (start N vs) H) :
    FnOk P w K mg base CX (k+1) f (PySem.W.fnOf name qual params body scope dV kV doc pm an cdv ct) ps sp:=by
  refine ⟨len,fun A outer s H args us vs Q E hr e0 hb r hsp=>?_⟩;have hl:=len _ _ _ _ hsp;have KX:K.In s.heap:=e0.mod.kin.keeps fun b o e=>(e0.bs b o e).1;have lim:s.heap.NoLimit:=e0.mod.nolimit.keeps fun b o e=>(e0.bs b o e).1;have hkind:∀y∈ps.zip us,scope.names.lookup y.1=some .local\/(scope.names.lookup y.1=some .cell/\((cellsFrom (s.heap.objs.size+1) scope.names []).lookup y.1).isSome=true):=fun ⟨n,v⟩ hy=>by
    rcases S.par n (Dx hy).1 with q|q
    · exact .inl q
    · exact .inr ⟨q,Fw _ _ _ (.inl q)⟩
  refine codeAny_call_function hr.depth (KX _ _ lk) rfl S.co S.gen rfl (PySem.W.codeRec_of KX hcd) (hb _ _ _ _ ?_);refine wpAny_newFunctionEnv_cells S.kind hkind fun env he s1 x=>?_;subst he;refine ⟨lim.keeps x.toInCall.keep,codeAny_func ?_⟩;obtain ⟨t,ht,hq⟩:=hbody A outer s H vs Q E ⟨hr.deeper _,hr⟩ hsp;have I:Inv (cxOf CX P w K mg base N qual scope f cdv A outer s H E) [] (start N vs) H s1:=zkn S hr.hd e0 hl r x;refine Dc (ht [] s1 (start N vs) H _ I hq) (fun fl s' hs=>?_) fun e s' hs=>hs;have fin:∀{σ' : St}{H' : Hp}{v:V}{u:Value},Inv (cxOf CX P w K mg base N qual scope f cdv A outer s H E) [] σ' H' s'->RelV v u->Q v H'->CE outer P w H s Q u s' :=
    λ{σ' H' v u} J rv q=>⟨v,H',J.os,J.bare,J.base,J.hok,rv,q⟩
  cases fl with
  | ret u =>
    obtain⟨v,σ',H',J,rv,q⟩:=hs;exact fin J rv q
  | next =>
    obtain⟨σ',H',J,q⟩:=hs;exact fin (v:=V.non) (u:=Value.none) J rfl q
  | brk =>
    obtain⟨_,_,_,q⟩:=hs;exact False.elim q
  | cont =>
    obtain⟨_,_,_,q⟩:=hs;exact False.elim q
section
variable {X:Cx}{x:Str}{p pos:Pos}{e:Expr}{es:List Expr}{t:TA}{id T:String}{r:List V->Hp->VK->Prop}
noncomputable def tCB (r:List V->Hp->VK->Prop) (t:TA):TE:=λσ H Q=>t σ H λvs H1=>r vs H1 Q
theorem zcx (hc:zc2 X (.builtin id) r) (hg:Gl X x) (hm:X.mg x=none) (hv:bootBuiltins x=some (.builtin id)) (ha:PA X (e::es) t) (hn:x≠"__name__" := by decide) (hdb:(x == ("__debug__" : Str))=false:=by decide)
  (he:starEach (e::es) X.env=(false,eval e X.env)::starEach es X.env:=by rfl) (hpl:(backTo pos (starEach es X.env)).any (·.1)=false:=by rfl):PE X (.Call (.Name x p) (e::es) [] pos) (tCB r t):=by
 intro pins s σ H Q I h;refine Ho (zhw I hg hm hv ?_ hn hdb);exact PyProof.Rows.callWith_builtin1 (thn (ha pos pins s σ H _ I h) λus s1 ⟨vs,H1,I1,r1,q1⟩=>hc pins s1 σ H1 vs us Q I1 r1 q1) he hpl
theorem zee (hc:zc2 X (.type T) r) (hg:Gl X x) (hm:X.mg x=none) (hv:bootBuiltins x=some (.type T)) (ha:PA X (e::es) t) (hn:x≠"__name__" := by decide) (hdb:(x == ("__debug__" : Str))=false:=by decide)
  (he:starEach (e::es) X.env=(false,eval e X.env)::starEach es X.env:=by rfl) (hpl:(backTo pos (starEach es X.env)).any (·.1)=false:=by rfl):PE X (.Call (.Name x p) (e::es) [] pos) (tCB r t):=by
 intro pins s σ H Q I h;refine Ho (zhw I hg hm hv ?_ hn hdb);exact Er (thn (ha pos pins s σ H _ I h) λus s1 ⟨vs,H1,I1,r1,q1⟩=>hc pins s1 σ H1 vs us Q I1 r1 q1) he hpl
end
end L2
namespace HT
open PySem PyProof.Rows
section
open PySem.SeqAt
open PySem.AutoSeq1 (wpAny_loadPart')
open PySem.MeetsSeq PySem.MeetsSeq2 PySem.MeetsSeq3
end
section
variable {prog:Program}{w:World}{A:Around}{E:Value->Shared->Prop}{s:Shared}
theorem cat_tup {t b:Addr}{vs ws:List Value}{Q:Value->Shared->Prop} (ht:IsTup s.heap t vs.toArray) (hb:IsTup s.heap b ws.toArray) (hv:vs≠[])
  (h1:ws=[]->Q (.ref t) s) (h2:ws≠[]->Q (.ref s.heap.objs.size) { s with heap:=s.heap.push { cls:=.type "tuple",data:=.seq (vs++ws).toArray } })
  (hsz:vs.length+ws.length<=sizeLine):wpAny (model prog w) A (binaryOp .Add (.ref t) (.ref b)) Q E s:=by
 obtain⟨⟨cls,dd,data,sl⟩,ho,hc,n,hd⟩:=id ht;obtain⟨⟨cls2,dd2,data2,sl2⟩,ho2,hc2,n2,hd2⟩:=id hb;simp only at hc hd hc2 hd2;subst hc hd hc2 hd2;have e:vs.toArray++ws.toArray=(vs++ws).toArray:=by simp
 by_cases hw:ws=[]
 ·exact concat_meets ⟨_,ho,rfl⟩ ⟨_,ho2,rfl⟩ noFill_tuple_add seq_tuple_add PySem.F.slot_tuple_add PySem.F.entry_tuple_add (Hj _ _)
   (tuple_addW1 t b vs.toArray ws.toArray n n2 dd dd2 sl sl2 (by simpa using hv) (by simp [hw])) ⟨ho,ho2,h1 hw⟩
 ·refine concat_meets ⟨_,ho,rfl⟩ ⟨_,ho2,rfl⟩ noFill_tuple_add seq_tuple_add PySem.F.slot_tuple_add PySem.F.entry_tuple_add (Hj _ _)
   (tuple_addW2 t b vs.toArray ws.toArray n n2 dd dd2 sl sl2 (by simpa using hv) (by simpa using hw) (by rw[Am,Am];exact hsz)) ⟨ho,ho2,?_⟩
  rw[e];exact h2 hw
noncomputable def sIx (n d:Nat):Option Int->Nat
 |none=>d
 |some v=>if v<0 then (v+(n:Int)).toNat else min v.toNat n
theorem sIx_nat (n d k:Nat):sIx n d (some (k:Int))=min k n:=by
 show (if (k:Int)<0 then ((k:Int)+(n:Int)).toNat else min (k:Int).toNat n)=min k n;rw[if_neg #v[],Cs]
theorem z38 (n d:Nat) (hd:d<=n) (o:Option Int):sIx n d o<=n:=by
  cases o with
  |none=>exact hd
  | some v =>
    show (if v<0 then (v+(n:Int)).toNat else min v.toNat n)<=n;by_cases hv:v<0
    · rw[if_pos hv];omega
    · rw[if_neg hv];exact Nat.min_le_right _ _
theorem zrx (v:Int)(n d:Nat):(if v<0 then max (v+(n:Int)) 0 else min v (n:Int))=((sIx n d (some v):Nat):Int):=by
 show (if v<0 then max (v+(n:Int)) 0 else min v (n:Int))=(((if v<0 then (v+(n:Int)).toNat else min v.toNat n):Nat):Int);by_cases hv:v<0
 ·simp only [if_pos hv];omega
 ·simp only [if_neg hv];omega
theorem zps (lo hi:Option Int)(n:Nat):Builtin.Slice.sliceAdjust lo hi 1 (n:Int)=(((sIx n 0 lo:Nat):Int),((sIx n n hi:Nat):Int)):=by
 have h1:¬ ((1:Int)<0):=by omega
 unfold Builtin.Slice.sliceAdjust;simp only [h1,Ek];refine Prod.ext ?_ ?_
 ·cases lo with
  |none=>rfl
  |some v=>exact zrx v n 0
 ·cases hi with
  |none=>rfl
  |some v=>exact zrx v n n
theorem zqs (i j:Nat):Builtin.Slice.slicePlaces (i:Int) (j:Int) 1=j - i:=by
 unfold Builtin.Slice.slicePlaces;have h1:(1:Int) > 0:=by omega
 simp only [h1,Fe,Int.ediv_one];split<;>omega
theorem zhr {v:Value}{o:Option Int}{Q:Option Int->Shared->Prop}(p:IsPart v o)(h:Q o s):wpAny (model prog w) A (Builtin.Slice.slicePartIndex v) Q E s:=by
 cases p with
 |none=>exact slicePart_none h
 |int i t=>exact slicePart_int h
theorem zc8 {sl:Addr}{vl vu:Value}{lo hi:Option Int}{n:Nat}{Q:Int × Int × Nat->Shared->Prop} (hs:s.heap.IsSliceOf sl vl vu .none) (pl:IsPart vl lo) (pu:IsPart vu hi)
  (h:Q (((sIx n 0 lo:Nat):Int),1,sIx n n hi - sIx n 0 lo) s):wpAny (model prog w) A (Builtin.Slice.sliceApplied (.ref sl) (pure (n:Int))) Q E s:=by
 obtain⟨os,hos,hcs,hds⟩:=id hs;unfold Builtin.Slice.sliceApplied Builtin.Slice.sliceFields;refine Aa (Aa (Ct hos hds (x:=vl) rfl (Aa (Ct hos hds (x:=vu) rfl (Aa (Ct hos hds (x:=.none) rfl (Ag ?_)))))));refine Aa (slicePart_none ?_);show wpAny _ _ (if ((1:Int) == 0)=true then _ else _) _ _ s;rw[if_neg #v[0,9]];refine Aa (zhr pl (Aa (zhr pu (Aa (Ag ?_)))));show wpAny _ _ (match Builtin.Slice.sliceAdjust lo hi 1 (n:Int) with|(lo,hi)=>pure (lo,(1:Int),Builtin.Slice.slicePlaces lo hi 1)) _ _ s;rw[zps lo hi n];show wpAny _ _ (pure (((sIx n 0 lo:Nat):Int),(1:Int),Builtin.Slice.slicePlaces ((sIx n 0 lo:Nat):Int) ((sIx n n hi:Nat):Int) 1)) _ _ s;rw[zqs];exact Ag h
theorem zxq (xs:Array Value)(i k:Nat):((List.range k).filterMap λ(m:Nat)=>xs[((i:Int)+(m:Int) * 1).toNat]?).toArray=((xs.toList.drop i).take k).toArray:=by
 have e:(λ(m:Nat)=>xs[((i:Int)+(m:Int) * 1).toNat]?)=λm=>xs[i+m]?:=by
  funext m
  have:((i:Int)+(m:Int) * 1).toNat=i+m:=by omega
  rw[this]
 rw[e];have:=pick_run xs i k;rw[List.filterMap_map] at this;have e2:((λx=>xs[x]?) ∘ λx=>i+x)=λm=>xs[i+m]?:=rfl;rw[e2] at this;rw[this]
theorem getItem_tuple_cut {t sl:Addr}{items:Array Value}{vl vu:Value}{lo hi:Option Int}{Q:Value->Shared->Prop} (ht:IsTup s.heap t items) (hs:s.heap.IsSliceOf sl vl vu .none) (pl:IsPart vl lo) (pu:IsPart vu hi)
  (hw:¬ (sIx items.size 0 lo=0/\sIx items.size items.size hi=items.size))
  (h:Q (.ref s.heap.objs.size) { s with heap:=s.heap.push { cls:=.type "tuple",data:=.seq ((items.toList.drop (sIx items.size 0 lo)).take (sIx items.size items.size hi - sIx items.size 0 lo)).toArray } })
  (hsz:items.size<=sizeLine):wpAny (model prog w) A (getItem (.ref t) (.ref sl)) Q E s:=by
 have htake:sizeOk (.seq ((items.toList.drop (sIx items.size 0 lo)).take (sIx items.size items.size hi - sIx items.size 0 lo)).toArray):=by
  show ((items.toList.drop (sIx items.size 0 lo)).take (sIx items.size items.size hi - sIx items.size 0 lo)).toArray.size<=sizeLine;rw[Am,Dp,Ge,Bp];omega
 have hj:sIx items.size items.size hi<=items.size:=z38 _ _ (Af _) hi;obtain⟨os,hos,hcs,hds⟩:=id hs;have hTs:s.TypeIs (.ref sl) "slice" := ⟨os,hos,hcs⟩;unfold getItem
 try with_reducible refine Cr ?_
 first|refine Aa (Ag ?_)|skip
 refine Aa (wpAny_sequenceKey ht.typeIs #v[0,9] ?_);refine Aa (Cd (name:=Str.ofString "__getitem__") ht.typeIs Eb
  (Cw Eb ht.typeIs entry_tuple_getitem ?_ (args_tuple_getitem _ _)))
 show wpAny _ _ (Builtin.Tuple.tupleItemsOf (.ref t) >>= _) _ _ s;refine Aa (tupleItemsOf_ ht ?_);refine Aa (wpAny_typeOf hTs ?_);rw[if_pos #v[0,9]];refine Aa (zc8 hs pl pu ?_);have hno:¬ ((((sIx items.size 0 lo:Nat):Int) == 0 && (1:Int) == 1 && (sIx items.size items.size hi - sIx items.size 0 lo) == items.size)=true):=by
  intro q;rw[Ad,Ad] at q;have q1:((sIx items.size 0 lo:Nat):Int)=0:=Ca q.1.1;have q2:sIx items.size items.size hi - sIx items.size 0 lo=items.size:=Ca q.2;exact hw ⟨by omega,by omega⟩
 show wpAny _ _ (if (((sIx items.size 0 lo:Nat):Int) == 0 && (1:Int) == 1 && (sIx items.size items.size hi - sIx items.size 0 lo) == items.size)=true then _ else _) _ _ s;rw[if_neg hno,zxq]
 first
  |exact Aa (m:=Builtin.Tuple.tupleExact _) (Cg (Ag ⟨_,rfl,Ag h⟩) htake)
  |exact Aa (m:=Builtin.Tuple.tupleExact _) (Cg (Aa (Ag (Ag ⟨_,rfl,Ag h⟩))) htake)
  |exact Aa (Aa (m:=Builtin.Tuple.tupleExact _) (Cg (Ag (Ag ⟨_,rfl,Ag h⟩)) htake))
  |exact Aa (Aa (m:=Builtin.Tuple.tupleExact _) (Cg (Ag ⟨_,rfl,Ag h⟩) htake))
end
end HT
namespace L2
open PySem PySem.Spec PyProof.Rows
noncomputable abbrev TO:=St->Hp->(Option Int->Hp->Prop)->Prop
noncomputable def PO (X:Cx) (e:Option Expr) (t:TO):Prop :=
  ∀(pins:List (Addr × Obj)) (s:Shared) (σ:St) (H:Hp) (Q:Option Int->Hp->Prop),Inv X pins σ H s->t σ H Q ->
    wpAny (model X.prog X.w) X.A (evalPart e X.env) (λu s'=>∃o H',Inv X pins σ H' s'/\IsPart u o/\Q o H') X.xe s
noncomputable def zsl:TO:=λ_ H Q=>Q none H
noncomputable def z4w (t:TE):TO:=λσ H Q=>t σ H λx H1=>∃i,x=.int i/\Q (some i) H1
theorem zpw {ns:List Int}:∀{us:List Value},Vals (ns.map V.int) us->IntsAre us ns:=by
  induction ns with
  |nil=>intro us r;rw[List.map_nil] at r;cases r;exact .nil
  | cons n ns ih =>
    intro us r;rw[Ah] at r;cases r with
    | cons r1 r2 =>
      obtain⟨t,e⟩:=r1;subst e;exact .cons n t (ih r2)
section
variable {X:Cx}{e:Expr}{te:TE}{lo hi:Option Expr}{tl th:TO}{pos p2:Pos}
theorem z0s:PO X none zsl:=by
 intro pins s σ H Q I h;rw[evalPart_none];exact Ag ⟨none,H,I,.none,h⟩
theorem z2n (h:PE X e te):PO X (some e) (z4w te):=by
 intro pins s σ H Q I hw;rw[evalPart_some];refine thn (h pins s σ H _ I hw) λu s1 ⟨x,H1,I1,r1,q1⟩=>?_;obtain⟨i,rfl,q⟩:=q1;obtain⟨t,rfl⟩:=r1;exact⟨some i,H1,I1,.int i t,q⟩
noncomputable def SlR (X:Cx) (r:V->Option Int->Option Int->Hp->VK->Prop):Prop :=
  ∀(pins:List (Addr × Obj)) (s:Shared) (σ:St) (H:Hp) (x:V) (v vl vu:Value) (lo hi:Option Int) (sl:Addr) (Q:VK),Inv X pins σ H s->RelV x v->s.heap.IsSliceOf sl vl vu .none->IsPart vl lo->IsPart vu hi->r x lo hi H Q ->
    ∃T id,typeLookup (.type T) "__getitem__" = pure (some (.builtin id))/\s.TypeIs v T/\wpAny (model X.prog X.w) X.A (getItem v (.ref sl)) (EP X pins σ Q) X.xe s
theorem SlR.or {r r' : V->Option Int->Option Int->Hp->VK->Prop}(h:SlR X r)(h' : SlR X r'):SlR X (λx lo hi H Q=>r x lo hi H Q\/r' x lo hi H Q):=by
 intro pins s σ H x v vl vu lo hi sl Q I rx hs pl pu q;rcases q with q|q
 ·exact h pins s σ H x v vl vu lo hi sl Q I rx hs pl pu q
 ·exact h' pins s σ H x v vl vu lo hi sl Q I rx hs pl pu q
noncomputable def tSl (r:V->Option Int->Option Int->Hp->VK->Prop) (te:TE) (tl th:TO):TE:=λσ H Q=>te σ H λx H1=>tl σ H1 λl H2=>th σ H2 λu H3=>r x l u H3 Q
theorem zyb {r:V->Option Int->Option Int->Hp->VK->Prop}(hr:SlR X r)(he:PE X e te)(hl:PO X lo tl)(hu:PO X hi th):PE X (.Subscript e (.Slice lo hi none p2) pos) (tSl r te tl th):=by
 intro pins s σ H Q I h;refine Subscript_ (thn (he pins s σ H _ I h) λv s1 ⟨x,H1,I1,r1,q1⟩=>?_);refine wpAny_Slice (thn (hl pins s1 σ H1 _ I1 q1) λvl s2 ⟨l,H2,I2,pl,q2⟩=>thn (hu pins s2 σ H2 _ I2 q2) λvu s3 ⟨u,H3,I3,pu,q3⟩=>?_);rw[evalPart_none];refine Ag ?_;have I4:Inv X pins σ H3 { s3 with heap:=s3.heap.push { cls:=.type "slice",data:=.fields #[vl,vu,.none] } }:=I3.kept (t':=s3.toks) λb ob q=>Ab _ q;obtain⟨T,id,hT,ht,hg⟩:=hr pins { s3 with heap:=s3.heap.push { cls:=.type "slice",data:=.fields #[vl,vu,.none] } } σ H3 x v vl vu l u s3.heap.objs.size Q I4 r1 (Heap.IsSliceOf.new ..) pl pu q3;show wpAny (model X.prog X.w) X.A (subscriptTail e (.Slice lo hi none p2) v (.ref s3.heap.objs.size)) (EP X pins σ Q) X.xe { s3 with heap:=s3.heap.push { cls:=.type "slice",data:=.fields #[vl,vu,.none] } };exact tail_any (ops:=[.ref s3.heap.objs.size,v]) ht hT hg (by with_unfolding_all rfl)
noncomputable def cutV (xs:List V) (lo hi:Option Int):List V:=(xs.drop (HT.sIx xs.length 0 lo)).take (HT.sIx xs.length xs.length hi - HT.sIx xs.length 0 lo)
theorem zgc (xs:List V)(lo hi:Option Int):(cutV xs lo hi).length<=xs.length:=by
 unfold cutV;rw[Dp,Ge];omega
noncomputable def rSlT (K:PySem.W.Frag):V->Option Int->Option Int->Hp->VK->Prop:=λx lo hi H Q=>∃a xs,x=.ref a/\SqT K H a xs /\
 ¬ (HT.sIx xs.length 0 lo=0/\HT.sIx xs.length xs.length hi=xs.length)/\∀p,H p=none->Q (.ref p) (upd H p (.tup (cutV xs lo hi)))
theorem z45:SlR X (rSlT X.K):=by
 intro pins s σ H x v vl vu lo hi sl Q I rx hs pl pu h;obtain⟨a,xs,rfl,hx,hw,q⟩:=h;cases rx;obtain⟨its,r,ht,hz⟩:=I.tuple hx;have hlen:its.toArray.size=xs.length:=by rw[Am];exact r.length.symm
 refine⟨"tuple",_,PyProof.Rows.slot_tuple_getitem.lookup,ht.typeIs,?_⟩;refine HT.getItem_tuple_cut ht hs pl pu (by rw[hlen];exact hw) ?_ (by rw[hlen];exact hz);rw[hlen];refine⟨.ref s.heap.objs.size,_,I.laid (t':=s.toks) (o:=.tup (cutV xs lo hi)) (λb ob q=>Ab _ q) (Af _) ?_,rfl,q _ (I.hok.fresh (Af _))⟩;exact⟨Bv (zgc xs lo hi) hz,_,(r.drop (HT.sIx xs.length 0 lo)).take (HT.sIx xs.length xs.length hi - HT.sIx xs.length 0 lo),zhi.new _ _⟩
noncomputable def z5v (K:PySem.W.Frag):R2:=λx y H Q=>∃a b xs ys,x=.ref a/\y=.ref b/\SqT K H a xs/\SqT K H b ys/\xs≠[]/\xs.length+ys.length<=sizeLine /\
 (ys=[]->Q (.ref a) H)/\(ys≠[]->∀p,H p=none->Q (.ref p) (upd H p (.tup (xs++ys))))
theorem Vals.nil_iff {xs:List V}{us:List Value}(r:Vals xs us):us=[]↔xs=[]:=by
 cases r with
 |nil=>simp
 |cons _ _=>simp
theorem z1h:OpR X (binaryOp .Add) (z5v X.K):=by
 intro pins s σ H x y v u Q I rx ry h;obtain⟨a,b,xs,ys,rfl,rfl,ha,hb,hx,hz,q1,q2⟩:=h;cases rx;cases ry;obtain⟨its,r1,p1,_⟩:=I.tuple ha;obtain⟨its2,r2,p2,_⟩:=I.tuple hb;refine HT.cat_tup p1 p2 (λz=>hx (r1.nil_iff.mp z)) (λz=>⟨.ref a,H,I,rfl,q1 (r2.nil_iff.mp z)⟩) (λz=>?_) (by rw[<-r1.length,<-r2.length];exact hz);refine⟨.ref s.heap.objs.size,_,I.laid (t':=s.toks) (o:=.tup (xs++ys)) (λb ob q=>Ab _ q) (Af _) ?_,rfl,q2 (λw=>z (r2.nil_iff.mpr w)) _ (I.hok.fresh (Af _))⟩;exact⟨by rw[Bb];exact hz,_,r1.append r2,zhi.new _ _⟩
end
noncomputable def ixN (n:Nat) (i:Int):Option Nat:=if 0<=i then (if i<n then some i.toNat else none) else if -(n:Int)<=i then some (i+n).toNat else none
noncomputable def atI {α:Type} (xs:List α) (i:Int):Option α:=(ixN xs.length i).bind λj=>xs[j]?
theorem zsf {n:Nat}{i:Int}{j:Nat}(h:ixN n i=some j):seqIndex? i n=some j/\j<n/\-(n:Int)<=i/\i<n:=by
 unfold ixN at h;by_cases h0:0<=i
 ·rw[if_pos h0] at h;by_cases h1:i<n
  ·rw[if_pos h1] at h;have e:i.toNat=j:=sI h;exact⟨by rw[seqIndex_of h0 h1,e],by omega,by omega,h1⟩
  ·rw[if_neg h1] at h;cases h
 ·rw[if_neg h0] at h;by_cases h1:-(n:Int)<=i
  ·rw[if_pos h1] at h;have e:(i+n).toNat=j:=sI h;exact⟨by rw[seqIndex_neg #v[] h1,e],by omega,h1,by omega⟩
  ·rw[if_neg h1] at h;cases h
theorem zua {α:Type}{xs:List α}{i:Int}{v:α} (h:atI xs i=some v):∃j,seqIndex? i xs.length=some j/\xs[j]?=some v/\j < xs.length/\-(xs.length:Int)<=i/\i < xs.length:=by
  unfold atI at h;cases e:ixN xs.length i with
  |none=>rw[e] at h;cases h
  | some j =>
    rw[e] at h;obtain⟨h1,h2,h3,h4⟩:=zsf e;exact⟨j,h1,h,h2,h3,h4⟩
theorem z2p {α:Type}{xs:List α}{j:Nat}{v:α}(h:xs[j]?=some v):atI xs (j:Int)=some v:=by
 have hj:j<xs.length:=(Ai.mp h).1;have e:ixN xs.length (j:Int)=some j:=by
  unfold ixN;rw[if_pos #v[],if_pos #v[]];simp
 unfold atI;rw[e];exact h
noncomputable def zta (b:Expr):Prop:=∀o i,subscripted b false o i=operate [o,i] (getItem o i)
noncomputable def IxR (X:Cx) (r:R2):Prop :=
  ∀(value slice:Expr) (pins:List (Addr × Obj)) (s:Shared) (σ:St) (H:Hp) (x y:V) (v u:Value) (Q:VK),Inv X pins σ H s->RelV x v->RelV y u->r x y H Q ->
    subscripted slice false v u=operate [v,u] (getItem v u)->wpAny (model X.prog X.w) X.A (subscriptTail value slice v u) (EP X pins σ Q) X.xe s
noncomputable def MtR (X:Cx) (id:String) (r:V->List V->Hp->VK->Prop):Prop :=
  ∀(pins:List (Addr × Obj)) (s:Shared) (σ:St) (H:Hp) (x:V) (xs:List V) (v:Value) (us:List Value) (Q:VK),Inv X pins σ H s->RelV x v->Vals xs us->r x xs H Q ->
    wpAny (model X.prog X.w) X.A (call (.builtin id) (v::us)) (EP X pins σ Q) X.xe s
section
variable {X:Cx}{a b:Expr}{ta tb:TE}{pos:Pos}
theorem IxR.or {r r' : R2}(h:IxR X r)(h' : IxR X r'):IxR X (λx y H Q=>r x y H Q\/r' x y H Q):=by
 intro value slice pins s σ H x y v u Q I rx ry q hs;rcases q with q|q
 ·exact h value slice pins s σ H x y v u Q I rx ry q hs
 ·exact h' value slice pins s σ H x y v u Q I rx ry q hs
theorem z3f {r:R2}(hr:IxR X r)(ha:PE X a ta)(hb:PE X b tb)(hs:zta b):PE X (.Subscript a b pos) (tOp r ta tb):=by
 intro pins s σ H Q I h;exact Subscript_ (binT ha hb I h λv u s2 x y H2 I2 rx ry q=>hr a b pins s2 σ H2 x y v u Q I2 rx ry q (hs _ _))
noncomputable def rIxL (K:PySem.W.Frag):R2:=λx y H Q=>∃p xs i v,x=.ref p/\y=.int i/\SqL K H p xs/\atI xs i=some v/\Q v H
noncomputable def rIxT (K:PySem.W.Frag):R2:=λx y H Q=>∃p xs i v,x=.ref p/\y=.int i/\SqT K H p xs/\atI xs i=some v/\Q v H
theorem zva:IxR X (rIxL X.K):=by
 intro value slice pins s σ H x y v u Q I rx ry h hs;nofun;obtain⟨p,xs,i,z,rfl,rfl,hq,he,q⟩:=h;ac_rfl;cases rx;nofun;obtain⟨t,rfl⟩:=ry;obtain⟨its,r,pl,hz⟩:=I.list hq;obtain⟨j,h1,h2,h3,h4,h5⟩:=zua he;obtain⟨w,ew,rw'⟩:=r.get h2;ac_rfl;have hl:=r.length;have hn:=zo1;have fin:EP X pins σ Q w s:=⟨z,H,I,rw',q⟩;by_cases h0:0<=i
 ·have hj:i.toNat=j:=by
   rw[seqIndex_of h0 h5] at h1;exact sI h1
  exact item_listR pl.isList h0 #v[] (by rw[hj];simpa using ew) fin hs
 ·have hj:(i+(its.toArray.size:Int)).toNat=j:=by
   rw[seqIndex_neg #v[] h4] at h1;rw[Am,<-hl];exact sI h1
  exact subscriptTail_builtinR (x:=w) pl.isList.typeIs slot_list_getitem.lookup
   (wpAny_getItem_list_neg (Q:=λr s'=>r=w/\EP X pins σ Q r s') pl.isList #v[] (by rw[Am]<;>omega) #v[] (by rw[hj];simpa using ew) ⟨rfl,fin⟩) hs
theorem zzn:IxR X (rIxT X.K):=by
 intro value slice pins s σ H x y v u Q I rx ry h hs;obtain⟨p,xs,i,z,rfl,rfl,hq,he,q⟩:=h;cases rx;obtain⟨t,rfl⟩:=ry;obtain⟨its,r,pl,hz⟩:=I.tuple hq;obtain⟨j,h1,h2,h3,h4,h5⟩:=zua he;obtain⟨w,ew,rw'⟩:=r.get h2;have hl:=r.length;have hn:=zo1;have fin:EP X pins σ Q w s:=⟨z,H,I,rw',q⟩;exact subscriptTail_builtinR (x:=w) pl.typeIs slot_tuple_getitem.lookup
  (getItem_tuple (j:=j) (Q:=λr s'=>r=w/\EP X pins σ Q r s') pl #v[] #v[] (by rw[Am,<-hl];exact h1) (by simpa using ew) ⟨rfl,fin⟩) hs
theorem zqo (its:List Value)(n j:Nat)(u:Value):Obj.mapSeq (·.setIfInBounds j u) { cls:=.type "list",data:=.seq its.toArray n }={ cls:=.type "list",data:=.seq (its.set j u).toArray n }:=by
 simp [Obj.mapSeq]
theorem Inv.lst {pins:List (Addr × Obj)}{σ:St}{H:Hp}{s:Shared}{p:Addr}{xs:List V} (I:Inv X pins σ H s) (h:H p=some (.lst xs)) :
  ∃(its:List Value) (n:Nat),Vals xs its/\s.heap.get? p=some { cls:=.type "list",data:=.seq its.toArray n }/\xs.length<=sizeLine:=by
 nofun;obtain⟨z,its,n,r,e⟩:=I.hok p _ h;ac_rfl;exact⟨its,n,r,e,z⟩
theorem Inv.lstUpd {pins:List (Addr × Obj)}{σ:St}{H:Hp}{s:Shared}{p:Addr}{xs ys:List V}{its its' : List Value}{n n' : Nat}{f:Obj->Obj} (I:Inv X pins σ H s) (h:H p=some (.lst xs))
  (ho:s.heap.get? p=some { cls:=.type "list",data:=.seq its.toArray n }) (hf:f { cls:=.type "list",data:=.seq its.toArray n }={ cls:=.type "list",data:=.seq its'.toArray n' }) (r:Vals ys its') (hz:ys.length<=sizeLine) (t:Nat) :
  Inv X pins σ (upd H p (.lst ys)) { s with heap:=s.heap.update p f,toks:=t }:=by
 have e:(s.heap.update p f).get? p=some { cls:=.type "list",data:=.seq its'.toArray n' }:=by
  rw[Heap.get?_update_self f ho (by rw[hf]<;>rfl),hf]
 refine I.write (x:=p) (e:=p) (by rw[h];trivial) (.inl rfl) (λb u hb q=>(Heap.get?_update_other _ _ (Ne.symm hb)).trans q) ⟨_,e⟩ ?_;exact⟨hz,its',n',r,e⟩
noncomputable def z1d:V->V->V->Hp->(Hp->Prop)->Prop:=λo i v H Q=>∃p xs k j,o=.ref p/\i=.int k/\H p=some (.lst xs)/\ixN xs.length k=some j/\Q (upd H p (.lst (xs.set j v)))
theorem zom:PSet X z1d:=by
 intro pins s σ H o i v ov iv u Q I ro ri rv h;nofun;obtain⟨p,xs,k,j,rfl,rfl,hp,hj,q⟩:=h;ac_rfl;cases ro;nofun;obtain⟨t,rfl⟩:=ri;obtain⟨its,n,r,ho,hz⟩:=I.lst hp;obtain⟨h1,h2,h3,h4⟩:=zsf hj;ac_rfl;have hl:=r.length;have hn:=zo1;have I' : Inv X pins σ (upd H p (.lst (xs.set j v))) { s with heap:=s.heap.update p (Obj.mapSeq (·.setIfInBounds j u)) } :=
  I.lstUpd hp ho (zqo its n j u) (r.set rv j) (by rw[Dm];exact hz) s.toks
 by_cases h0:0<=k
 ·have hk:k.toNat=j:=by
   rw[seqIndex_of h0 h4] at h1;exact sI h1
  exact PySem.W.ki_setAt ho h0 #v[] (by rw[Am,<-hl];exact h4) (by rw[hk];exact⟨_,I',q⟩)
 ·have hk:(k+(its.toArray.size:Int)).toNat=j:=by
   rw[seqIndex_neg #v[] h3] at h1;rw[Am,<-hl];exact sI h1
  exact PySem.W.ki_setBack ho #v[] (by rw[Am,<-hl];exact h3) #v[] (by rw[hk];exact⟨_,I',q⟩)
theorem zka (lo hi:Option Int) (n:Nat):(sliceBounds lo hi none n).1=((HT.sIx n 0 lo:Nat):Int)/\(sliceBounds lo hi none n).2.1=((HT.sIx n n hi:Nat):Int)/\(sliceBounds lo hi none n).2.2=1:=by
  refine⟨?_,?_,rfl⟩
  · cases lo with
    |none=>simp [sliceBounds,HT.sIx]
    | some i =>
      simp only [sliceBounds,HT.sIx,Option.getD_none,show (1:Int) > 0 by decide,Fe];by_cases h:i<0
      · simp only [h,Fe]<;>omega
      · simp only [h,Ek]<;>omega
  · cases hi with
    |none=>simp [sliceBounds,HT.sIx]
    | some i =>
      simp only [sliceBounds,HT.sIx,Option.getD_none,show (1:Int) > 0 by decide,Fe];by_cases h:i<0
      · simp only [h,Fe]<;>omega
      · simp only [h,Ek]<;>omega
theorem ziq (its:List Value)(lo hi:Option Int):slicePick its.toArray lo hi none=((its.drop (HT.sIx its.length 0 lo)).take (HT.sIx its.length its.length hi - HT.sIx its.length 0 lo)).toArray:=by
 obtain⟨h1,h2,h3⟩:=zka lo hi its.toArray.size;unfold slicePick;rw[h1,h2,h3];simp only [sliceRange_one,pick_run,Am]<;>rfl
noncomputable def rSlL (K:PySem.W.Frag):V->Option Int->Option Int->Hp->VK->Prop:=λx lo hi H Q=>∃a xs,x=.ref a/\SqL K H a xs/\∀p,H p=none->Q (.ref p) (upd H p (.lst (cutV xs lo hi)))
theorem z1s:SlR X (rSlL X.K):=by
 intro pins s σ H x v vl vu lo hi sl Q I rx hs pl pu h;obtain⟨a,xs,rfl,hx,q⟩:=h;cases rx;obtain⟨its,r,ht,hz⟩:=I.list hx;have hlen:=r.length;refine⟨"list",_,slot_list_getitem.lookup,ht.isList.typeIs,?_⟩;refine wpAny_getItem_list_slice ht.isList hs pl pu .none (by simp) ?_ (by rw[Am]<;>omega);rw[ziq,<-hlen];refine⟨.ref s.heap.objs.size,_,I.laid (t':=s.toks) (o:=.lst (cutV xs lo hi)) (λb ob q=>Ab _ q) (Af _) ?_,rfl,q _ (I.hok.fresh (Af _))⟩;exact⟨Bv (zgc xs lo hi) hz,_,0,(r.drop (HT.sIx xs.length 0 lo)).take (HT.sIx xs.length xs.length hi - HT.sIx xs.length 0 lo),Ak _ rfl⟩
noncomputable def zhg:V->Bool
 |.non=>true
 |.bl _=>true
 |.int _=>true
 |.str _=>true
 |_=>false
noncomputable def eqV:V->V->Bool
 |.non,.non=>true
 |.bl a,.bl b=>a == b
 |.bl a,.int b=>(if a then 1 else 0) == b
 |.int a,.bl b=>a == (if b then 1 else 0)
 |.int a,.int b=>a == b
 |.str a,.str b=>a == b
 |_,_=>false
theorem z4d {A:Around}{s:Shared}{y x:V}{u v:Value} (ry:RelV y u) (rx:RelV x v) (fy:zhg y=true) (fx:zhg x=true):SeqAt.EqAt A s u v (eqV y x):=by
  cases y with
  | non =>
    cases ry;cases x with
    |non=>cases rx;exact SeqAt.EqAt.same _
    |bl b=>cases rx;exact SeqAt.EqAt.none_bool b
    |int b=>obtain⟨t,rfl⟩:=rx;exact SeqAt.EqAt.none_int b t
    |str b=>obtain⟨t,rfl⟩:=rx;exact SeqAt.EqAt.none_str b t
    |_=>exact absurd (show false=true from fx) Ax
  | bl a =>
    cases ry;cases x with
    |non=>cases rx;exact SeqAt.EqAt.bool_none a
    |bl b=>cases rx;exact SeqAt.EqAt.bool_bool a b
    |int b=>obtain⟨t,rfl⟩:=rx;exact SeqAt.EqAt.bool_int a b t
    |str b=>obtain⟨t,rfl⟩:=rx;exact SeqAt.EqAt.bool_str a b t
    |_=>exact absurd (show false=true from fx) Ax
  | int a =>
    obtain⟨t',rfl⟩:=ry;cases x with
    |non=>cases rx;exact SeqAt.EqAt.int_none a t'
    |bl b=>cases rx;exact SeqAt.EqAt.int_bool a t' b
    |int b=>obtain⟨t,rfl⟩:=rx;exact SeqAt.EqAt.int_int a t' b t
    |str b=>obtain⟨t,rfl⟩:=rx;exact SeqAt.EqAt.int_str a t' b t
    |_=>exact absurd (show false=true from fx) Ax
  | str a =>
    obtain⟨t',rfl⟩:=ry;cases x with
    |non=>cases rx;exact SeqAt.EqAt.str_none a t'
    |bl b=>cases rx;exact SeqAt.EqAt.str_bool a t' b
    |int b=>obtain⟨t,rfl⟩:=rx;exact SeqAt.EqAt.str_int a t' b t
    |str b=>obtain⟨t,rfl⟩:=rx;exact SeqAt.EqAt.str_str a t' b t
    |_=>exact absurd (show false=true from fx) Ax
  |_=>exact absurd (show false=true from fy) Ax
noncomputable def eqU (x:V) (u:Value):Bool:=match u with
 |.none=>eqV .non x
 |.bool b=>eqV (.bl b) x
 |.int i _=>eqV (.int i) x
 |.str z _=>eqV (.str z) x
 |_=>false
theorem zyy {x y:V}{u:Value}(r:RelV y u)(f:zhg y=true):eqU x u=eqV y x:=by
 cases y with
 |non=>cases r;rfl
 |bl b=>cases r;rfl
 |int i=>obtain⟨t,rfl⟩:=r;rfl
 |str z=>obtain⟨t,rfl⟩:=r;rfl
 |_=>exact absurd (show false=true from f) Ax
theorem zg6 {x:V}:∀{xs:List V}{us:List Value},Vals xs us->xs.all zhg=true->us.any (eqU x)=xs.any fun y=>eqV y x
  |_,_,.nil,_=>rfl
  | y::xs,u::us,.cons r t,f=>by
    rw[Bk,Ad] at f;rw[Dd,Dd,zyy r f.1,zg6 t f.2]
theorem zeu {A:Around}{s:Shared}{x:V}{v:Value} (rx:RelV x v) (fx:zhg x=true):∀{xs:List V}{us:List Value},Vals xs us->xs.all zhg=true->∀u∈us,SeqAt.EqAt A s u v (eqU x u)
  |_,_,.nil,_=>λu hu=>by cases hu
  | y::xs,u::us,.cons r t,f=>fun u' hu=>by
    rw[Bk,Ad] at f;rcases At.mp hu with rfl|hu
    · rw[zyy r f.1];exact z4d r rx f.1 fx
    · exact zeu rx fx t f.2 u' hu
noncomputable def inV (x:V) (xs:List V):Bool:=xs.any λy=>eqV y x
noncomputable def rIn (K:PySem.W.Frag) (neg:Bool):R2:=λx y H Q=>∃p xs,y=.ref p/\(SqL K H p xs\/SqT K H p xs)/\zhg x=true/\xs.all zhg=true/\Q (.bl (if neg then !inV x xs else inV x xs)) H
theorem zr8:OpR X (compareOp .In) (rIn X.K false):=by
 intro pins s σ H x y v u Q I rx ry h;obtain⟨p,xs,rfl,hq,fx,fs,q⟩:=h;cases ry;rcases hq with hq|hq
 ·obtain⟨its,r,pl,hz⟩:=I.list hq;refine SeqAt.in_listAt (eqU x) pl.isList (λw hw=>zeu rx fx r fs w (by simpa using hw)) ⟨.bl _,H,I,rfl,?_⟩;rw[show its.toArray.any (eqU x)=its.any (eqU x) by simp,zg6 r fs];exact q
 ·obtain⟨its,r,pl,hz⟩:=I.tuple hq;refine SeqAt.in_tupleAt (eqU x) pl (λw hw=>zeu rx fx r fs w (by simpa using hw)) ⟨.bl _,H,I,rfl,?_⟩;rw[show its.toArray.any (eqU x)=its.any (eqU x) by simp,zg6 r fs];exact q
theorem zlo:OpR X (compareOp .NotIn) (rIn X.K true):=by
 intro pins s σ H x y v u Q I rx ry h;obtain⟨p,xs,rfl,hq,fx,fs,q⟩:=h;cases ry;rcases hq with hq|hq
 ·obtain⟨its,r,pl,hz⟩:=I.list hq;refine SeqAt.notIn_listAt (eqU x) pl.isList (λw hw=>zeu rx fx r fs w (by simpa using hw)) ⟨.bl _,H,I,rfl,?_⟩;rw[show its.toArray.any (eqU x)=its.any (eqU x) by simp,zg6 r fs];exact q
 ·obtain⟨its,r,pl,hz⟩:=I.tuple hq;refine SeqAt.notIn_tupleAt (eqU x) pl (λw hw=>zeu rx fx r fs w (by simpa using hw)) ⟨.bl _,H,I,rfl,?_⟩;rw[show its.toArray.any (eqU x)=its.any (eqU x) by simp,zg6 r fs];exact q
theorem zjz:zc2 X (.builtin "len") (λxs H Q=>∃p ys,xs=[.ref p]/\(SqL X.K H p ys\/SqT X.K H p ys)/\Q (.int ys.length) H):=by
 intro pins s σ H xs us Q I r h;obtain⟨p,ys,rfl,hq,q⟩:=h;obtain⟨u,rfl,rx⟩:=vals1 r;cases rx;have hn:=zo1;rcases hq with hq|hq
 ·obtain⟨its,r', pl,hz⟩:=I.list hq;have hlen:=r'.length;exact Calls.call_len_list pl.isList (by simp only [Am]<;>omega) ⟨.int ys.length,H,I.tok _,⟨s.toks+1,by rw[Am,hlen]⟩,q⟩
 ·obtain⟨its,r', pl,hz⟩:=I.tuple hq;have hlen:=r'.length;exact len_tuple pl (by simp only [Am]<;>omega) ⟨.int ys.length,H,I.tok _,⟨s.toks+1,by rw[Am,hlen]⟩,q⟩
theorem zc2.or {f:Value}{r r' : List V->Hp->VK->Prop}(h:zc2 X f r)(h' : zc2 X f r'):zc2 X f (λxs H Q=>r xs H Q\/r' xs H Q):=by
 intro pins s σ H xs us Q I rs q;rcases q with q|q
 ·exact h pins s σ H xs us Q I rs q
 ·exact h' pins s σ H xs us Q I rs q
theorem zjw:zc2 X (.type "list") (λxs H Q=>∃p ys,xs=[.ref p]/\(SqL X.K H p ys\/SqT X.K H p ys)/\∀l,H l=none->Q (.ref l) (upd H l (.lst ys))):=by
 intro pins s σ H xs us Q I r h;obtain ⟨p,ys,rfl,hq,q⟩:=h;obtain ⟨u,rfl,rx⟩:=vals1 r;cases rx;have fin:∀(its:List Value),Vals ys its->ys.length<=sizeLine->∀(h' : Heap) (c' : Nat),(∀b o',s.heap.get? b=some o'->h'.get? b=some o') ->
   h'.get? s.heap.objs.size=some { cls:=.type "list",dict:=none,data:=.seq its.toArray c',slots:=#[] }->EP X pins σ Q (.ref s.heap.objs.size) { s with heap:=h' }:=λits r' hz h' c' kp e =>
  ⟨.ref s.heap.objs.size,_,I.laid (t':=s.toks) kp (Af _) (show ObjOk X.prog X.w _ h' _ (.lst ys) from ⟨hz,its,c',r',e⟩),rfl,q _ (I.hok.fresh (Af _))⟩
 rcases hq with hq|hq
 ·obtain⟨its,r', pl,hz⟩:=I.list hq;have hlen:=r'.length;obtain⟨o,ho,hc,n,hd⟩:=pl.isList;exact call_list_seq p (.inl rfl) ho hc hd (λh' c' kp e=>fin its r' hz h' c' kp e) (by simp only [Am]<;>omega)
 ·obtain⟨its,r', pl,hz⟩:=I.tuple hq;have hlen:=r'.length;obtain⟨o,ho,hc,n,hd⟩:=pl;exact call_list_seq p (.inr rfl) ho hc hd (λh' c' kp e=>fin its r' hz h' c' kp e) (by simp only [Am]<;>omega)
theorem zi0:zc2 X (.type "tuple") (λxs H Q=>∃p ys,xs=[.ref p]/\((SqL X.K H p ys/\∀l,H l=none->Q (.ref l) (upd H l (.tup ys)))\/(SqT X.K H p ys/\Q (.ref p) H))):=by
 intro pins s σ H xs us Q I r h;obtain⟨p,ys,rfl,h⟩:=h;obtain⟨u,rfl,rx⟩:=vals1 r;cases rx;rcases h with⟨hq,q⟩|⟨hq,q⟩
 ·obtain ⟨its, r', pl, hz⟩ := I.list hq;have hlen:=r'.length;refine call_tuple_list pl.isList (fun h' kp=>?_) (by simp only [Am]<;>omega);have I1:Inv X pins σ H { s with heap:=h' }:=I.kept (t':=s.toks) kp;have I2:Inv X pins σ (upd H h'.objs.size (.tup ys)) { s with heap:=h'.push { cls:=.type "tuple",data:=.seq its.toArray } } :=
   I1.laid (t':=s.toks) (λb o e=>Ab _ e) (Af _) (show ObjOk X.prog X.w _ _ _ (.tup ys) from ⟨hz,its,r',zhi.new _ _⟩)
  exact⟨.ref h'.objs.size,_,I2,rfl,q _ (I1.hok.fresh (Af _))⟩
 ·obtain⟨its,r', pl,hz⟩:=I.tuple hq;exact call_tuple_same pl ⟨.ref p,H,I,rfl,q⟩
noncomputable def tyV (K:PySem.W.Frag) (T:String) (x:V) (H:Hp):Prop:=match x with
 |.str _=>T = "str"
 |.int _=>T = "int"
 | .ref p=>(T = "list"/\∃xs,SqL K H p xs)\/(T = "tuple"/\∃o,K.lookup p=some o/\o.cls=.type "tuple"/\o.dict=none) \/
   (T = "dict"/\((∃kvs,H p=some (.dK kvs))\/∃kvs,H p=some (.dT kvs)))\/(T = "set"/\∃S n,H p=some (.set S n))
 |_=>False
theorem z5c {pins:List (Addr × Obj)}{σ:St}{H:Hp}{s:Shared}{T:String}{x:V}{v:Value} (I:Inv X pins σ H s) (r:RelV x v) (ty:tyV X.K T x H) :
    s.TypeIs v T/\∀a,v=.ref a->∃ob,s.heap.get? a=some ob/\ob.dict=none:=by
  cases x with
  | str z =>
    obtain⟨t,rfl⟩:=r;cases (show T = "str" from ty);exact⟨typeIs_str s z t,λ_ e=>nomatch e⟩
  | int i =>
    obtain⟨t,rfl⟩:=r;cases (show T = "int" from ty);exact⟨Gb s i t,λ_ e=>nomatch e⟩
  | ref p =>
    cases r;rcases ty with⟨rfl,xs,hq⟩|⟨rfl,o,hk,hc,hd⟩|⟨rfl,hk⟩|⟨rfl,S,n,hk⟩
    · obtain ⟨its, _, pl, _⟩ := I.list hq
      refine⟨pl.isList.typeIs,λa e=>?_⟩;cases e;obtain⟨o,n,e,c,hd,_⟩:=pl;exact⟨o,e,hd⟩
    · refine ⟨⟨o, I.kIn p o hk, hc⟩, fun a e => ?_⟩
      cases e;exact⟨o,I.kIn _ o hk,hd⟩
    · have z:∃o,s.heap.get? p=some o/\o.ExactDict:=by
        rcases hk with⟨kvs,hk⟩|⟨kvs,hk⟩
        · obtain ⟨_, _, _, _, o, _, _, e, ex, _⟩ := I.hok p _ hk
          exact⟨o,e,ex⟩
        · obtain ⟨_, _, _, _, o, _, _, e, ex, _⟩ := I.hok p _ hk
          exact⟨o,e,ex⟩
      obtain⟨o,e,ex⟩:=z;refine⟨⟨o,e,ex.1⟩,λa e2=>?_⟩;cases e2;exact⟨o,e,ex.2.1⟩
    · obtain ⟨o, _, _, _, e, ex, _⟩ := I.hok p _ hk
      refine⟨⟨o,e,ex.1⟩,λa e2=>?_⟩;cases e2;exact⟨o,e,ex.2.1⟩
  |_=>exact False.elim ty
noncomputable def tBM (K:PySem.W.Frag) (T:String) (r:V->List V->Hp->VK->Prop) (to:TE) (t:TA):TE:=λσ H Q=>to σ H λx H1=>tyV K T x H1/\t σ H1 λxs H2=>r x xs H2 Q
variable {o e:Expr}{es:List Expr}{to:TE}{t:TA}{name:Str}{apos cpos:Pos}{T id:String}{r:V->List V->Hp->VK->Prop}
theorem z56 (pa:PlainAttrs T) (slot:Slot T name id) (hty:typeOf (.builtin id)=pure (.type "method_descriptor")) (hm:MtR X id r) (ho:PE X o to) (ha:PA X (e::es) t)
  (hbase:attributeBase o name X.env (eval o X.env)=eval o X.env:=by rfl)
  (hfew:((backTo cpos (starEach (e::es) X.env)).all (λx=>!x.1) && (backToKw cpos (keywordEach [] X.env)).all (λx=>x.1.isSome)
   && decide ((e::es).length+([]:List Keyword).length+(if ([]:List Keyword).isEmpty then 0 else 1)<30))=true:=by rfl)
  (hline:(apos.endLine == cpos.line)=true:=by rfl) (hs:starEach (e::es) X.env=(false,eval e X.env)::starEach es X.env:=by rfl) (hplain:(backTo cpos (starEach es X.env)).any (·.1)=false:=by rfl) :
  PE X (.Call (.Attribute o name apos) (e::es) [] cpos) (tBM X.K T r to t):=by
 intro pins s σ H Q I h;refine wpAny_Call_method_late hbase hfew hline rfl (thn (ho pins s σ H _ I h) λv s1 ⟨x,H1,I1,r1,ty,q1⟩=>?_);obtain⟨h1,h2⟩:=z5c I1 r1 ty;refine⟨T,id,pa,slot,hty,h1,h2,?_⟩;have hA:=ha cpos pins s1 σ H1 _ I1 q1;rw[hs] at hA ⊢;refine Calls.callWith_builtin (by show (false || (backTo cpos (starEach es X.env)).any (·.1))=false;rw[hplain]<;>rfl) (Calls.evalArgs_plain ?_);exact thn hA λus s2 ⟨vs,H2,I2,r2,q2⟩=>hm pins s2 σ H2 x vs v us Q I2 r1 r2 q2
end
noncomputable def MtM (X:Cx) (id:String) (r:V->List V->Hp->VK->Prop):Prop :=
  ∀(pins:List (Addr × Obj)) (s:Shared) (σ:St) (H:Hp) (x:V) (xs:List V) (v:Value) (us:List Value) (Q:VK),Inv X pins σ H s->RelV x v->Vals xs us->r x xs H Q ->
    wpAny (model X.prog X.w) X.A (call (.builtin id) (v::us)) (EP X pins σ Q) X.xe s
theorem Vals.one:∀{x:V}{us:List Value},Vals [x] us->∃u,us=[u]/\RelV x u
 |_,_,.cons r .nil=>⟨_,rfl,r⟩
theorem Vals.rep {xs:List V}{us:List Value} (h:Vals xs us):∀k:Nat,Vals (List.replicate k xs).flatten (List.replicate k us).flatten
  |0=>.nil
  | k+1=>by
    rw[Bi,Bi,Cy,Cy];exact Vals.append h (Vals.rep h k)
theorem zgf (its:List Value):∀(k:Nat) (acc:List Value),
    List.foldl (λx1 x2=>x1++x2) acc.toArray (List.replicate k its.toArray)=(acc++(List.replicate k its).flatten).toArray
  |0,acc=>by simp
  | k+1,acc=>by
    have e:acc.toArray++its.toArray=(acc++its).toArray:=by simp
    have e2:(acc++its)++(List.replicate k its).flatten=acc++(List.replicate (k+1) its).flatten:=by
      rw[Bi,Cy,Az]
    rw[<-e2,<-zgf its k (acc++its),<-e,Bi,List.foldl_cons]
section
variable {X:Cx}{pins:List (Addr × Obj)}{σ:St}{H:Hp}{s:Shared}{l b:Addr}{xs ys zs:List V}
theorem Inv.lset {its its' : List Value}{n:Nat}{f:Array Value->Array Value}{t' : Nat} (I:Inv X pins σ H s) (hH:H l=some (.lst xs))
  (e:s.heap.get? l=some { cls:=.type "list",data:=.seq its.toArray n }) (hf:f its.toArray=its'.toArray) (hv:Vals ys its') (hz:ys.length<=sizeLine) :
  Inv X pins σ (upd H l (.lst ys)) { s with heap:=s.heap.update l (Obj.mapSeq f),toks:=t' }:=by
 have q:=PySem.IsL.update e f;rw[hf] at q;refine I.write (x:=l) (e:=l) (by rw[hH];exact trivial) (.inl rfl) (λb' u hb hu=>(Heap.get?_update_other s.heap (Obj.mapSeq f) (Ne.symm hb)).trans hu) ⟨_,q⟩ ?_;exact⟨hz,its',_,hv,q⟩
theorem Inv.lnew {its:List Value}{t' : Nat} (I:Inv X pins σ H s) (hv:Vals ys its) (hz:ys.length<=sizeLine) :
  Inv X pins σ (upd H s.heap.objs.size (.lst ys)) { s with heap:=s.heap.push { cls:=.type "list",data:=.seq its.toArray },toks:=t' } :=
 I.laid (λ_ _ q=>Ab _ q) (Af _) ⟨hz,its,0,hv,Ak _ rfl⟩
theorem Inv.fresh (I:Inv X pins σ H s):H s.heap.objs.size=none:=I.hok.fresh (Af _)
theorem Inv.lstM (I:Inv X pins σ H s)(hH:H l=some (.lst xs)):xs.length<=sizeLine/\∃(its:List Value) (n:Nat),Vals xs its/\xs.length=its.length/\s.heap.get? l=some { cls:=.type "list",data:=.seq its.toArray n }:=by
 nofun;obtain⟨z,its,n,r,e⟩:=I.hok l _ hH;ac_rfl;exact⟨z,its,n,r,r.length,e⟩
theorem zo7 {n:Nat}(h:n<=sizeLine):Builtin.List.listTooLong n=false:=by
 unfold Builtin.List.listTooLong;exact Bg #v[]
end
section
variable {X:Cx}
noncomputable def zrn:V->List V->Hp->VK->Prop:=λx vs H Q=>∃l xs y,x=.ref l/\vs=[y]/\H l=some (.lst xs)/\xs.length<sizeLine/\Q .non (upd H l (.lst (xs++[y])))
theorem zjl:MtM X "list.append" zrn:=by
 intro pins s σ H x vs v us Q I rx rv h;obtain⟨l,xs,y,rfl,rfl,hH,hz,q⟩:=h;cases rx;obtain⟨u,rfl,ru⟩:=rv.one;obtain⟨z,its,n,r,hl,e⟩:=I.lstM hH;refine Eu F.slot_list_append ⟨_,e,rfl⟩ F.entry_list_append (F.args_list_append_2 _ _) (PySem.list_append l its.toArray n u (by rw[Am];omega)) ⟨e,?_⟩;refine⟨.non,_,I.lset (its':=its++[u]) hH e (by simp) (r.append (.cons ru .nil)) ?_,rfl,q⟩;rw[Bb,Eo];omega
noncomputable def zr5:V->List V->Hp->VK->Prop:=λx vs H Q=>∃l b xs zs,x=.ref l/\vs=[.ref b]/\H l=some (.lst xs)/\H b=some (.lst zs)/\xs.length+zs.length<=sizeLine/\Q .non (upd H l (.lst (xs++zs)))
theorem zro:MtM X "list.extend" zr5:=by
 intro pins s σ H x vs v us Q I rx rv h;nofun;obtain⟨l,b,xs,zs,rfl,rfl,hH,hB,hz,q⟩:=h;ac_rfl;cases rx;obtain⟨u,rfl,ru⟩:=rv.one;cases ru;nofun;obtain⟨z,its,n,r,hl,e⟩:=I.lstM hH;obtain⟨z2,its2,n2,r2,hl2,e2⟩:=I.lstM hB;ac_rfl;have hsz:its.toArray.size+its2.toArray.size<=sizeLine:=by rw[Am,Am];omega
 have hlong:¬ (!its.toArray.isEmpty && Builtin.List.listTooLong (its.toArray.size+its2.toArray.size))=true:=by
  rw[zo7 hsz,Hd];exact Ax
 refine Eu F.slot_list_extend ⟨_,e,rfl⟩ F.entry_list_extend (F.args_list_extend_2 _ _)
  (AutoSeq1.list_extend_list_list_0 l its.toArray n b its2.toArray n2 hlong (by rw[Am];omega) #v[]) ⟨e,e2,?_⟩
 refine⟨.non,_,I.lset (its':=its++its2) hH e (by simp) (r.append r2) ?_,rfl,q⟩;rw[Bb];omega
noncomputable def rCat:R2:=λx y H Q=>∃l b xs zs,x=.ref l/\y=.ref b/\H l=some (.lst xs)/\H b=some (.lst zs)/\xs.length+zs.length<=sizeLine/\∀p,H p=none->Q (.ref p) (upd H p (.lst (xs++zs)))
theorem z5k:OpR X (binaryOp .Add) rCat:=by
 intro pins s σ H x y v u Q I rx ry h;nofun;obtain⟨l,b,xs,zs,rfl,rfl,hH,hB,hz,q⟩:=h;ac_rfl;cases rx;cases ry;nofun;obtain⟨z,its,n,r,hl,e⟩:=I.lstM hH;obtain⟨z2,its2,n2,r2,hl2,e2⟩:=I.lstM hB;ac_rfl;refine PySem.P.add_list e e2 ?_ (by rw[Am,Am];omega);have ea:its.toArray++its2.toArray=(its++its2).toArray:=by simp
 rw[ea];exact⟨.ref _,_,I.lnew (t':=s.toks) (r.append r2) (by rw[Bb];omega),rfl,q _ I.fresh⟩
noncomputable def rRep:R2:=λx y H Q=>∃l k xs,x=.ref l/\y=.int k/\H l=some (.lst xs)/\-(2 ^ 63)<=k/\k<2 ^ 63/\xs.length * k.toNat<=sizeLine /\
 ∀p,H p=none->Q (.ref p) (upd H p (.lst (List.replicate k.toNat xs).flatten))
theorem ztt {α:Type}(xs:List α)(k:Nat):(List.replicate k xs).flatten.length=k * xs.length:=by
 induction k with
 |zero=>simp
 |succ k ih=>rw[Bi,Cy,Bb,ih,Nat.succ_mul,Nat.add_comm]
theorem z3m:OpR X (binaryOp .Mult) rRep:=by
 intro pins s σ H x y v u Q I rx ry h;nofun;obtain⟨l,k,xs,rfl,rfl,hH,h1,h2,hz,q⟩:=h;ac_rfl;cases rx;nofun;obtain⟨t,rfl⟩:=ry;obtain⟨z,its,n,r,hl,e⟩:=I.lstM hH;ac_rfl;have hlen:its.toArray.size * k.toNat<=sizeLine:=by rw[Am,<-hl];exact hz
 have hcap:¬ its.toArray.size * k.toNat > (2 ^ 63 - 1) / 8:=by
  have:(sizeLine:Nat)<=(2 ^ 63 - 1) / 8:=by decide
  omega
 have hfit:¬ (!Builtin.List.listFitsIndex k)=true:=by
  rw[fitsIndex_both h1 h2];exact Ax
 have hlong:¬ Builtin.List.listTooLong (its.toArray.size * k.toNat)=true:=by
  rw[zo7 hlen];exact Ax
 have hnew:List.foldl (λx1 x2=>x1++x2) #[] (List.replicate (if its.toArray.isEmpty=true then 0 else k.toNat) its.toArray)=(List.replicate k.toNat its).flatten.toArray:=by
  have f0:∀m:Nat,List.foldl (λx1 x2=>x1++x2) #[] (List.replicate m its.toArray)=(List.replicate m its).flatten.toArray:=λm=>by
   have:=zgf its m [];rw[Gm] at this;exact this
  rw[f0];cases its with
  |nil=>simp
  |cons a r'=>rw[if_neg (by simp)]
 refine Ft (T := "list") (U := "int") #v[0,9] ⟨_,e,rfl⟩ (λs'=>Gb s' k t) noFill_list_mul F.fills_int_mul F.slot_int_rmul repeat_list F.slot_int_index.lookup
  (Eu F.slot_int_rmul (Gb s k t) F.entry_int_rmul (F.args_int_rmul_2 _ _) (int___rmul___int_list k t l its.toArray n)
   ⟨e,rfl,⟨_,e,rfl⟩,Eu F.slot_list_mul ⟨_,e,rfl⟩ F.entry_list_mul (F.args_list_mul_2 _ _) (AutoListH.list___mul___list_int_3 l its.toArray n k t hfit hcap hlong) ⟨e,?_⟩⟩)
 rw[hnew];exact⟨.ref _,_,I.lnew (t':=s.toks) (r.rep k.toNat) (by rw[ztt,Nat.mul_comm];exact hz),rfl,q _ I.fresh⟩
end
section
variable {prog:Program}{w:World}{A:Around}{E:Value->Shared->Prop}{s:Shared}
end
section
variable {X:Cx}
end
end L2
namespace Att
open PySem PySem.W PySem.Calls PyProof.Rows
theorem zgy {P:Params}{h:Heap}:∀(ns:List Int) (vs:List Value),WellAll P h vs (ns.map WData.int)->IntsAre vs ns:=by
  intro ns
  induction ns with
  | nil =>
    intro vs w;rw[List.map_nil] at w;cases w;exact .nil
  | cons n ns ih =>
    intro vs w;rw[Ah] at w;cases w with
    | cons a b =>
      cases a;exact .cons _ _ (ih _ b)
theorem zrd {l:OpenLaw}{n:Nat} (hn:l.most=some n) {P:Params}{h:Heap}{args:List WData}{vals:List Value}
    (hpre:l.row.toRowW.claim.pre args=true) (hwl:WellAll P h vals args) :
    ∃a vs ns,vals=[Value.ref a]/\args=[WData.list (ns.map WData.int)]/\h.get? a=some { cls:=.type "list",data:=.seq vs.toArray }/\IntsAre vs ns/\ns.length<=n:=by
  have hsh:WShape.hasAll [] args [.list .int]=true:=(pre_splitW hpre).1;have hc:l.pre.holds [] { args:=args }=true:=(pre_splitW hpre).2;obtain ⟨d,r,rfl,h1,h2⟩:=hasAllW_cons hsh;obtain rfl:=hasAllW_nil h2;obtain ⟨xs,rfl,h3⟩:=hasW_list h1;obtain ⟨ns,rfl⟩:=items_int h3;have hlen:ns.length<=n:=by
    unfold OpenLaw.pre at hc;have h4:(WTm.not (.lt (.lit (.int (n:Int))) (.len (.arg 0)))).holds [] { args:=[.list (ns.map .int)] }=true:=by
      have h4:=(holds_andW hc).1;rw[hn] at h4;exact h4
    have h5:=condW_of h4 (w_not (w_lt w_lit (w_len_list (w_arg rfl))));rw[Ac] at h5;refine Nat.le_of_not_lt λq=>?_;have q' : (n:Int)<((ns.length:Nat):Int):=by omega
    first
      |(rw[Aj q'] at h5;exact absurd h5 #v[0,9])
      |(simp at h5;omega)
  cases hwl with
  | cons w1 w2 =>
    cases w2;cases w1 with
    |list ho hall=>exact⟨_,_,ns,rfl,rfl,ho,zgy ns _ hall,hlen⟩
theorem zr0 (l:OpenLaw)(args:List WData):l.row.toRowW.claim.post args (.bool true) args=true :=
 postW_of (r:=l.row.toRowW) (X:=(true == true))
  (show WShape.has [] (.bool true) .bool=true by first|rfl|decide|simp [WShape.has,WShape.arms,WShape.armsAll])
  (show (WTm.eq .res (.lit (.bool true))).value [] { args:=args,res:=some (.bool true),after:=args }=some (.bool (true == true)) from w_eq_bool (w_res rfl) w_lit) rfl
theorem attach_call {l:OpenLaw}{n:Nat}{q:Program}{loose:List Str}{XP:(Str->Option Value)->Heap->Prop}{YP:World->Heap->Prop}{d:DefRec}
  (hn:l.most=some n) (hdf:d.params.defaults=[])
  (call:∀(w:World) (s₀ s₁:Shared) (mg mb:Str->Option Value) (fa:Addr) (o:Obj) (pm cd doc:Value) (a:Addr) (vs:List Value) (ns:List Int),
   Ground q loose [] XP w s₀ mg mb s₁.heap->YP w s₁.heap ->
   s₁.heap.get? fa=some o->o.data=.func (docDef d.name d.params d.body d.scope pm cd doc)->s₁.heap.CodeRec cd d.name->mg d.name=some (.ref fa) ->
   s₁.heap.get? a=some { cls:=.type "list",data:=.seq vs.toArray }->IntsAre vs ns->ns.length<=n->s₁.gens=#[] ->
   codeAny (model l.prog w) callerA (.call (.ref fa) ⟨[.ref a],[]⟩) (λr s'=>r=.ok (.ret (.bool true))/\OldK s₁.heap s'.heap/\s'.os=s₁.os/\AllBare s'.gens) s₁) :
  WalkO q loose XP YP l.row.toRowW d [] (λf vs=>PySem.call f vs):=by
 intro w s₀ s₁ mg mb G Y fa o pm cd doc dV kV ho hd hcd hD hmg hg args vals as hpre hlay hrd hwl hlo;obtain rfl:dV=.none:=Dflts.none hD hdf;obtain rfl:kV=.none:=Dflts.noKw hD;obtain⟨a,vs,ns,rfl,rfl,hobj,hints,hlen⟩:=zrd hn hpre hwl;refine enter_call (codeAny_mono (call w s₀ s₁ mg mb fa o pm cd doc a vs ns G Y ho (fd_plain hd) hcd hmg hobj hints hlen hg) λr s' hq=>?_);obtain⟨rfl,h2,h3,h4⟩:=hq;exact⟨.inl ⟨.bool true,.bool true,[],rfl,λ_=>rfl,.bool true,zr0 l _,λ_=>⟨List.Pairwise.nil,λ_ hm=>(nomatch hm)⟩⟩,h2,h3,h4⟩
section
variable {prog:Program}{w:World}{A:Around}{E:Value->Shared->Prop}{s:Shared}{K:Frag}
end
end Att
namespace L2
open PySem PySem.Spec PyProof.Rows
theorem zkp:∀{vs:List Value}{ns:List Int},IntsAre vs ns->Vals (ns.map V.int) vs
 |_,_,.nil=>.nil
 |_,_,.cons n t h=>.cons ⟨t,rfl⟩ (zkp h)
noncomputable def ze4 (s:Stmt):Arguments:=match s with
 |.FunctionDef _ a _ _ _ _ _ _ _ _=>a
 |_=>{ posonlyargs:=[],args:=[],vararg:=none,kwonlyargs:=[],kw_defaults:=[],kwarg:=none,defaults:=[] }
noncomputable def zdc (s:Stmt):List Stmt:=match s with
 |.FunctionDef _ _ b _ _ _ _ _ _ _=>b
 |_=>[]
noncomputable def zam (s:Stmt):Scope:=match s with
 |.FunctionDef _ _ _ _ _ _ sc _ _ _=>sc
 |_=>{ kind:=.function,names:=[],isGenerator:=false,isCoroutine:=false }
noncomputable abbrev CX0:CXT:=λ_ _ _ _ _ _=>False
noncomputable abbrev E0:XK:=λ_ _ _=>False
theorem z61 {X:Cx}:zrg CX0 X E0:=λ_ _ _ _ _ _ _ h=>h.elim
structure Fun (K:PySem.W.Frag) (x qual:Str) (st:Stmt) (f:Addr) (fd:FuncData):Prop where
 ex:∃(oc:Value) (od:Option Addr) (kV doc pm:Value) (an:Option Addr) (cdv ct:Value) (osl:Array (Option Value)),
  fd=PySem.W.fnOf x qual (ze4 st) (zdc st) (zam st) .none kV doc pm an cdv ct/\K.lookup f=some ⟨oc,od,.func fd,osl⟩/\PySem.W.codeIn K cdv qual=true
 kp:PySem.W.keepIn K (.ref f)=true
section
variable {P:Program}{w:World}{K:PySem.W.Frag}{mg:Str->Option Value}{base:Heap}
theorem Fun.binds {x qual:Str}{st:Stmt}{f:Addr}{fd:FuncData}{ps:List Str} (F:Fun K x qual st f fd)
  (h:∀(kV doc pm:Value) (an:Option Addr) (cdv ct:Value) (us:List Value),us.length=ps.length->bindArgs (PySem.W.fnOf x qual (ze4 st) (zdc st) (zam st) .none kV doc pm an cdv ct) ⟨us,[]⟩=pure (ps.zip us)):zl9 K fd ps []:=by
 obtain⟨oc,od,kV,doc,pm,an,cdv,ct,osl,rfl,lk,hcd⟩:=F.ex;exact .all (h kV doc pm an cdv ct)
theorem zy8 {x qual:Str}{st:Stmt}{f:Addr}{oc:Value}{od an:Option Addr}{osl:Array (Option Value)}{kV doc pm cdv ct:Value} (l:K.lookup f=some ⟨oc,od,.func (PySem.W.fnOf x qual (ze4 st) (zdc st) (zam st) .none kV doc pm an cdv ct),osl⟩)
  (c:PySem.W.codeIn K cdv qual=true) (k:PySem.W.keepIn K (.ref f)=true):Fun K x qual st f (PySem.W.fnOf x qual (ze4 st) (zdc st) (zam st) .none kV doc pm an cdv ct):=⟨⟨oc,od,kV,doc,pm,an,cdv,ct,osl,rfl,l,c⟩,k⟩
end
section
variable {X:Cx}
end
theorem iteF {A B:Prop}(h:B):if false=true then A else B:=by
 rw[if_neg Ax];exact h
theorem iteT {A B:Prop}(h:A):if true=true then A else B:=by
 rw[if_pos rfl];exact h
noncomputable def Same (H H' : Hp):Prop:=∀b o,H b=some o->H' b=some o
theorem Same.refl (H:Hp):Same H H:=λ_ _ h=>h
theorem Same.trans {H H1 H2:Hp}(a:Same H H1)(b:Same H1 H2):Same H H2:=λc o h=>b c o (a c o h)
theorem Same.free {H H' : Hp} (e:Same H H') {l:Addr} (h:H' l=Option.none):H l=Option.none:=by
  cases q:H l with
  |none=>rfl
  | some o =>
    rw[e l o q] at h;cases h
theorem Same.seq {K:PySem.W.Frag}{H H' : Hp}{a:Addr}{xs:List V}(e:Same H H')(h:SqL K H a xs):SqL K H' a xs:=by
 rcases h with (h|⟨o,h⟩)|h
 ·exact .inl (.inl (e _ _ h))
 ·exact .inl (.inr ⟨o,e _ _ h⟩)
 ·exact .inr h
noncomputable def capSt (cap:List (Option Nat)) (σ:St):St:=cap.map λo=>match o with
 |some i=>(σ[i]?).getD none
 |none=>none
noncomputable def zg9 (cap:List (Option Nat)) (Nc N:List Str) (scope:Scope):Bool :=
 decide (cap.length=Nc.length) && (cap.zip Nc).all λp=>match p.1 with
  |some i=>decide (N[i]?=some p.2) && decide (scope.names.lookup p.2=some NameKind.free)
  |none=>true
theorem zrk {cap Nc N scope}(h:zg9 cap Nc N scope=true):cap.length=Nc.length:=by
 unfold zg9 at h;rw[Ad] at h;exact Ar h.1
theorem zuq {cap:List (Option Nat)}{Nc N:List Str}{scope:Scope}(h:zg9 cap Nc N scope=true){j i:Nat}{x:Str}(h1:cap[j]?=some (some i))(h2:Nc[j]?=some x):N[i]?=some x/\scope.names.lookup x=some .free:=by
 unfold zg9 at h;rw[Ad] at h;have hm:(some i,x)∈cap.zip Nc:=by
  refine Bt (i:=j) ?_;rw[List.getElem?_zip_eq_some];exact⟨h1,h2⟩
 have q:=Ay.mp h.2 _ hm;simp only [Ad,Dg] at q;exact q
noncomputable def zg4 (scope:Scope) (out:Scope):Bool:=scope.names.all λp=>!(p.2 == NameKind.free) || decide (out.names.lookup p.1=some .cell) || decide (out.names.lookup p.1=some .free)
theorem zfd {env:Env}:∀(names:List (Str × NameKind)) (acc:List (Str × Addr)),(∀x,(x,NameKind.free)∈names->∃c,env.cells.lookup x=some c)->(∀x c,acc.lookup x=some c->env.cells.lookup x=some c) ->
    ∃cl,(forIn names acc fun (p:Str × NameKind) cs=>if p.2 == NameKind.free then do let c <- cellOf env p.1;pure (ForInStep.yield ((p.1,c)::cs)) else pure (ForInStep.yield cs):Sem (List (Str × Addr)))=pure cl /\
      (∀x c,cl.lookup x=some c->env.cells.lookup x=some c)/\(∀x,(x,NameKind.free)∈names\/(∃c,acc.lookup x=some c)->∃c,cl.lookup x=some c)
  | [],acc,_,h2=>⟨acc,by rw [Ee],h2,fun x hx=>by
      rcases hx with hx|hx
      · cases hx
      · exact hx⟩
  | (n,k)::r,acc,h1,h2=>by
    rw[Fm];by_cases hk:(k == NameKind.free)=true
    · have ek : k = .free := by simpa using hk
      subst ek;obtain ⟨c,hc⟩:=h1 n Av;have h2' : ∀x d,((n,c)::acc).lookup x=some d->env.cells.lookup x=some d:=fun x d hx=>by
        rw[Bm] at hx;cases e:x == n with
        | true => rw [e] at hx; obtain rfl := sI hx; have : x = n := by simpa using e
                  rw[this];exact hc
        |false=>rw[e] at hx;exact h2 x d hx
      obtain⟨cl,e,a,b⟩:=zfd r ((n,c)::acc) (λx hx=>h1 x (As _ hx)) h2';refine⟨cl,?_,a,λx hx=>b x ?_⟩
      · rw [<- e]
        have hcell:cellOf env n=pure c:=by unfold cellOf;rw[hc]
        simp only [beq_self_eq_true,Fe,hcell]
        rfl
      · have gen:∀y d,acc.lookup y=some d->∃d',((n,c)::acc).lookup y=some d':=fun y d hy=>by
          rw[Bm];cases e:y == n with
          |true=>exact⟨_,rfl⟩
          |false=>exact⟨d,hy⟩
        rcases hx with hx|⟨d,hx⟩
        · rcases At.mp hx with hx | hx
          · injection hx with hx _
            subst hx;exact .inr ⟨c,by rw[Bm];simp⟩
          · exact .inl hx
        · exact .inr (gen x d hx)
    · have hk' : (k == NameKind.free) = false := by simpa using hk
      obtain⟨cl,e,a,b⟩:=zfd r acc (λx hx=>h1 x (As _ hx)) h2;refine⟨cl,?_,a,λx hx=>b x ?_⟩
      · rw [<- e]
        simp only [hk',Cn,Ek]
        rfl
      · rcases hx with hx | hx
        · rcases At.mp hx with hx | hx
          · injection hx with _ hx
            subst hx;simp at hk'
          · exact .inl hx
        · exact .inr hx
theorem zdk {env:Env}{scope:Scope} (h:∀x,(x,NameKind.free)∈scope.names->∃c,env.cells.lookup x=some c) :
  ∃cl,closureFor scope env=pure cl/\(∀x c,cl.lookup x=some c->env.cells.lookup x=some c)/\(∀x,(x,NameKind.free)∈scope.names->∃c,cl.lookup x=some c):=by
 nofun;obtain⟨cl,e,a,b⟩:=zfd (env:=env) scope.names [] h (λx c hx=>by simp at hx);ac_rfl;refine⟨cl,?_,a,λx hx=>b x (.inl hx)⟩;rw[closureFor];have e':=e;simp only [bind_assoc,pure_bind] at e' ⊢;exact congrArg (λm=>m >>= λr=>pure r) e |>.trans (by rw[pure_bind])
noncomputable def zbc (X:Cx) (Nc:List Str) (scope:Scope) (cl:List (Str × Addr)) (C:Addr) (s3:Shared) (H3:Hp) (fp:List Addr):Cx where
 prog:=X.prog
 w:=X.w
 K:=X.K
 mg:=X.mg
 base:=X.base
 A:=X.A
 N:=Nc
 s₀:=s3
 H₀:=H3
 env:=compEnvC scope cl C X.env
 outer:=X.stack
 stack:=X.stack
 ex:=fp
 fn:=λx=>decide (scope.names.lookup x=some NameKind.cell)
 calm:=X.calm
 pn:=[]
 xe:=λ_ _=>False
noncomputable def zy1:TT:=λσ H Q=>Q true H
noncomputable def PTs (X:Cx) (ifs:List Expr) (t:TT):Prop :=
  ∀(pins:List (Addr × Obj)) (s:Shared) (σ:St) (H:Hp) (Q:Bool->Hp->Prop),Inv X pins σ H s->t σ H Q ->
    wpAny (model X.prog X.w) X.A (forIn ifs true λc r=>if r=true then do let ok <- isTrue c X.env (eval c X.env);pure (ForInStep.yield ok) else pure (ForInStep.yield r)) (TP X pins σ Q) X.xe s
theorem z1l {X:Cx}:PTs X [] zy1:=λpins s σ H Q I h=>by
 rw[Ee];exact Ag ⟨H,I,h⟩
theorem z1t {X:Cx}{c:Expr}{t:TT}(h:PT X c t):PTs X [c] t:=λpins s σ H Q I q=>by
 rw[Fm];simp only [Fe];refine Aa (Aa (thn (h pins s σ H Q I q) λb s1 q1=>?_));refine Ag ?_;dsimp only;rw[Ee];exact Ag q1
section
variable {X:Cx}
theorem za2 {env:Env}:∀{names:List (Str × NameKind)}{x:Str},names.lookup x=some .free ->
    (names.map λ(n,k)=>if (k == NameKind.free && env.scope.kind == .function && env.kindOf n == some .cell) then (n,NameKind.cell) else (n,k)).lookup x=some .cell \/
    (names.map λ(n,k)=>if (k == NameKind.free && env.scope.kind == .function && env.kindOf n == some .cell) then (n,NameKind.cell) else (n,k)).lookup x=some .free
  |[],_,h=>by simp at h
  | (n,k)::r,x,h=>by
    have ih:=@za2 env r x;rw[Ah];rw[Bm] at h;cases hx:x == n with
    | true =>
      rw[hx] at h;obtain rfl:=sI h;dsimp only;split
      · rw[Bm,hx];exact .inl rfl
      · rw[Bm,hx];exact .inr rfl
    | false =>
      rw[hx] at h;dsimp only;split
      · rw[Bm,hx];exact ih h
      · rw[Bm,hx];exact ih h
theorem zbj {env:Env}:∀{names:List (Str × NameKind)}{x:Str}{k:NameKind},(k=.cell\/k=.free) ->
    (names.map λ(n,k)=>if (k == NameKind.free && env.scope.kind == .function && env.kindOf n == some .cell) then (n,NameKind.cell) else (n,k)).lookup x=some k->names.lookup x=some .free\/names.lookup x=some .cell
  |[],_,_,_,h=>by simp at h
  | (n,k0)::r,x,k,hk,h=>by
    rw[Ah] at h;rw[Bm];cases hx:x == n with
    | true =>
      dsimp only at h;split at h
      · rename_i hc
        rw[Bm,hx] at h;simp only [Ad,beq_iff_eq] at hc;rw[hc.1.1];exact .inl rfl
      · rw [Bm, hx] at h
        obtain rfl:=sI h;rcases hk with rfl|rfl
        · exact .inr rfl
        · exact .inl rfl
    | false =>
      dsimp only at h;split at h
      · rw[Bm,hx] at h;exact zbj hk h
      · rw[Bm,hx] at h;exact zbj hk h
theorem zdt {scope out:Scope}(h:zg4 scope out=true){x:Str}(hx:(x,NameKind.free)∈scope.names):out.names.lookup x=some .cell\/out.names.lookup x=some .free:=by
 have q:=Ay.mp h _ hx;simpa using q
theorem capSt_get {cap:List (Option Nat)}{σ:St}{j:Nat}{v:V} (h:(capSt cap σ)[j]?=some (some v)):∃i,cap[j]?=some (some i)/\σ[i]?=some (some v):=by
  unfold capSt at h;rw[Ap] at h;cases e:cap[j]? with
  |none=>rw[e] at h;cases h
  | some o =>
    rw[e] at h;cases o with
    |none=>cases h
    | some i =>
      refine⟨i,rfl,?_⟩;have h' : (σ[i]?).getD none=some v:=sI h;cases e2:σ[i]? with
      |none=>rw[e2] at h';cases h'
      |some z=>rw[e2] at h';exact congrArg some h'
theorem zbb {env:Env}:∀{names:List (Str × NameKind)}{x:Str}{k:NameKind},k≠.free->names.lookup x=some k ->
    (names.map λ(n,k)=>if (k == NameKind.free && env.scope.kind == .function && env.kindOf n == some .cell) then (n,NameKind.cell) else (n,k)).lookup x=some k
  |[],_,_,_,h=>by simp at h
  | (n,k0)::r,x,k,hk,h=>by
    have ih:=@zbb env r x k hk;rw[Ah];rw[Bm] at h;cases hx:x == n with
    | true =>
      rw[hx] at h;obtain rfl:=sI h;have:(k0 == NameKind.free)=false:=by cases k0<;>first|rfl|exact absurd rfl hk
      dsimp only;rw[this,Fa,Fa,if_neg Ax,Bm,hx]
    | false =>
      rw[hx] at h;dsimp only;split
      · rw[Bm,hx];exact ih h
      · rw[Bm,hx];exact ih h
noncomputable def zfh (scope:Scope):Bool:=scope.names.all λp=>!(p.2 == NameKind.cell) || decide (scope.names.lookup p.1=some .cell)
theorem zpz {scope:Scope}(h:zfh scope=true){x:Str}(hx:(x,NameKind.cell)∈scope.names):scope.names.lookup x=some .cell:=by
 have q:=Ay.mp h _ hx;simpa using q
theorem zcn:∀(names:List (Str × NameKind)) (n:Nat) (acc:List (Str × Addr)),cellsFrom n names acc=cellsFrom n names []++acc
  |[],_,_=>rfl
  | (x,k)::r,n,acc=>by
    unfold cellsFrom;split
    · rw[zcn r (n+1) ((x,n)::acc),zcn r (n+1) [(x,n)],Az];rfl
    · exact zcn r n acc
theorem zg0:∀(names:List (Str × NameKind)) (n:Nat) {x:Str}{c:Addr},(x,c)∈cellsFrom n names []->(x,NameKind.cell)∈names
  |[],_,_,_,h=>by cases h
  | (y,k)::r,n,x,c,h=>by
    unfold cellsFrom at h;split at h
    · rename_i hk
      rw[zcn] at h;rcases Bo.mp h with h|h
      · exact As _ (zg0 r _ h)
      · have e := Aq.mp h
        cases e;have:k=NameKind.cell:=by simpa using hk
        rw[this];exact Av
    · exact As _ (zg0 r _ h)
theorem cells_of {names:List (Str × NameKind)}{n:Nat}{cl:List (Str × Addr)}{x:Str}{c:Addr}(h:(cellsFrom n names cl).lookup x=some c):(cellsFrom n names []).lookup x=some c\/((cellsFrom n names []).lookup x=none/\cl.lookup x=some c):=by
 rw[zcn,List.lookup_append] at h;cases e:(cellsFrom n names []).lookup x with
 |some d=>rw[e] at h;exact .inl h
 |none=>rw[e] at h;exact .inr ⟨rfl,h⟩
theorem zhs {scope:Scope} (h:zfh scope=true) {n:Nat}{cl:List (Str × Addr)}{x:Str}{c:Addr} (hx:scope.names.lookup x=some .free) (hc:cl.lookup x=some c):(cellsFrom n scope.names cl).lookup x=some c:=by
  rw[zcn,List.lookup_append];cases e:(cellsFrom n scope.names []).lookup x with
  |none=>exact hc
  | some d =>
    have:=zpz h (zg0 _ _ (Br e));rw[hx] at this;cases this
theorem zyh {pins:List (Addr × Obj)}{σ:St}{H3:Hp}{s3:Shared}{Nc:List Str}{scope:Scope}{cl:List (Str × Addr)}{cap:List (Option Nat)}{fp:List Addr}{h4:Heap}{tk:Nat}
  (I:Inv X pins σ H3 s3) (hk:scope.kind=.function) (hcap:zg9 cap Nc X.N scope=true) (hfr:zg4 scope X.env.scope=true) (hnc:zfh scope=true)
  (c1:∀x c,cl.lookup x=some c->X.env.cells.lookup x=some c) (c2:∀x,(x,NameKind.free)∈scope.names->∃c,cl.lookup x=some c)
  (hf:∀b∈fp,FpOk X pins H3 b) (ho:∀b∈fp,b<s3.heap.objs.size)
  (hns:h4.Ns s3.heap.objs.size (λ_=>none)) (hkeep:∀b o,s3.heap.get? b=some o->h4.get? b=some o) (hcs:CellsOk h4 (s3.heap.objs.size+1) (cellsFrom (s3.heap.objs.size+1) scope.names [])) :
  Inv (zbc X Nc scope (cellsFrom (s3.heap.objs.size+1) scope.names cl) s3.heap.objs.size s3 H3 fp) [] (capSt cap σ) H3 { s3 with heap:=h4,toks:=tk }:=by
 have stkne:∀b∈fp,b ∉ frs X.stack:=λb hb z=>by
  obtain⟨_,g1,g2,_⟩:=hf b hb;rcases At.mp (I.stkSub b z) with e|e
  ·exact g1 e
  ·exact g2 e
 have own:∀x c,(cellsFrom (s3.heap.objs.size+1) scope.names []).lookup x=some c->h4.IsCell c none/\s3.heap.objs.size+1<=c:=λx c h=>hcs.empty x c (Br h);have old:∀x c,cl.lookup x=some c->c<s3.heap.objs.size:=λx c h=>by
  obtain⟨v,q⟩:=I.cell x c (c1 x c h);exact q.lt
 refine⟨⟨I.mod,hk,I.ok.glob,I.ok.blt,Af _,λx y c h1 h2=>?_,λx hx=>?_,λx c h h'=>?_,I.ok.hd,I.ok.frames,.inl rfl,λb hb=>⟨Bc (ho b hb),λx c h=>?_⟩,
  λb o e=>I.bs b o e,Bv I.ok.bsz I.sz,λb o e hb=>?_,stkne,I.stack,I.stkFree⟩,rfl,I.bare,Un.kept hkeep,⟨_,hns,λj x v h1 h2 h3=>?_⟩,λx c h=>?_,I.hok.fresh (Af _),λx c h=>?_,λp hp=>absurd (show p∈([]:List (Addr × Obj)) from hp) (by simp),I.hok.kept hkeep,?_⟩
 ·rcases cells_of h1 with z1|⟨_,z1⟩
  ·rcases cells_of h2 with z2|⟨_,z2⟩
   ·exact name_of_addr hcs.apart (Br z1) (Br z2)
   ·have a:=(own x c z1).2;have b:=old y c z2;exact absurd (Bd b (Fy a)) (Cj _)
  ·rcases cells_of h2 with z2|⟨_,z2⟩
   ·have a:=(own y c z2).2;have b:=old x c z1;exact absurd (Bd b (Fy a)) (Cj _)
   ·exact I.ok.inj x y c (c1 x c z1) (c1 y c z2)
 ·have hx' : scope.names.lookup x=some .free\/scope.names.lookup x=some .cell:=by
   rcases hx with hx|hx
   ·exact zbj (env:=X.env) (.inl rfl) hx
   ·exact zbj (env:=X.env) (.inr rfl) hx
  rcases hx' with hx'|hx'
  ·obtain⟨c,e⟩:=c2 x (Br hx');exact⟨c,zhs hnc hx' e⟩
  ·exact Fg.mp (Fw scope.names _ cl (.inl hx'))
 ·have hx : scope.names.lookup x = some .cell:=Ar h;rcases cells_of h' with z|⟨z,_⟩
  ·exact Fy (own x c z).2
  ·obtain⟨d,e⟩:=cell_has (n:=s3.heap.objs.size + 1) hx;rw[z] at e;cases e
 ·rcases cells_of h with z|⟨_,z⟩
  ·have a:=(own x c z).2;have:=ho b hb;exact Ne.symm (Bc (Bd this (Fy a)))
  ·exact (hf b hb).2.2.2.2.1 x c (c1 x c z)
 ·rcases (hf b hb).2.2.2.1 with z|z
  ·exact I.ok.noex b o e z
  ·have h1 : b<X.base.objs.size:=Ao e;exact absurd (Bd h1 (Bv I.ok.bsz z)) (Cj _)
 ·obtain ⟨i, e1, e2⟩ := capSt_get h2;have hNx:Nc[j]?=some x:=h1;obtain ⟨n1,n2⟩:=zuq hcap e1 hNx;have vis:Vis X.env.scope x:=by
   rcases zdt hfr (Br n2) with z|z
   ·exact .inr (.inl z)
   ·exact .inr (.inr z)
  obtain⟨m,hn,hl⟩:=I.loc;obtain⟨u,r,l⟩:=hl i x v n1 e2 vis;refine⟨u,r,?_⟩;rcases l with⟨hk',_⟩|⟨_,c,e,z⟩
  ·have hk2 : X.env.scope.names.lookup x = some .local:=hk';rcases zdt hfr (Br n2) with z|z
   ·rw[z] at hk2;cases hk2
   ·rw[z] at hk2;cases hk2
  ·obtain⟨c', e'⟩:=c2 x (Br n2);have:=c1 x c' e';rw[e] at this;obtain rfl:=sI this;refine .inr ⟨za2 (env:=X.env) n2,c,zhs hnc n2 e',?_⟩;obtain⟨o,ho',hd⟩:=z;exact⟨o,hkeep _ _ ho',hd⟩
 ·rcases cells_of h with z|⟨_,z⟩
  ·exact⟨none,(own x c z).1⟩
  ·obtain⟨v,o,ho', hd⟩:=I.cell x c (c1 x c z);exact⟨v,o,hkeep _ _ ho',hd⟩
 ·rcases cells_of h with z|⟨_,z⟩
  ·exact I.hok.fresh (Fy (own x c z).2)
  ·exact I.freeC x c (c1 x c z)
 ·show (capSt cap σ).length = Nc.length;rw[<-zrk hcap];unfold capSt;rw[Ac]
theorem zij {M:Model}{A:Around}{E:Value->Shared->Prop}{s:Shared}{scope:Scope}{globals:Addr}{cl:List (Str × Addr)}{qual:Str}{outer:Env}{Q:Env->Shared->Prop}
  (hQ:∀h',h'.Ns s.heap.objs.size (λ_=>none)->(∀b o,s.heap.get? b=some o->h'.get? b=some o)->CellsOk h' (s.heap.objs.size+1) (cellsFrom (s.heap.objs.size+1) scope.names []) ->
   Q (newEnv scope s.heap.objs.size globals (cellsFrom (s.heap.objs.size+1) scope.names cl) qual none .none (some outer) builtinsNs) { s with heap:=h' }) :
  wpAny M A (newFunctionEnv scope globals cl [] qual none .none (some outer)) Q E s:=by
 simp only [newFunctionEnv,Option.isSome_some,Fe];refine Aa (wpAny_alloc ?_);refine Aa (wpAny_layCells _ (λname kind cells=>by cases hkc:kind == NameKind.cell<;>simp [hkc]) _ _ _ _ ?_);have ok:=cellsFrom_ok scope.names (s.heap.push { cls:=.type "dict",data:=.dict #[] }) (s.heap.objs.size+1) [] ⟨λ_ _ hm=>(nomatch hm),List.Pairwise.nil⟩ (by rw[Ea];exact Af _);rw[Ea] at ok;rw[show ({ s with heap:=s.heap.push { cls:=.type "dict",data:=.dict #[] } }:Shared).heap.objs.size=s.heap.objs.size+1 from Ea ..];refine Aa ?_;rw[Ee];exact Ag (Ag (hQ _ ((Heap.Ns.new s.heap (.type "dict")).keeps (pushCells_keeps _ _)) (λb o e=>pushCells_keeps _ _ b o (Ab _ e)) ok))
end
noncomputable abbrev TM:=St->Hp->(St->Hp->Prop)->Prop
noncomputable def PM (X:Cx) (em:Sem Unit) (t:TM):Prop :=
  ∀(pins:List (Addr × Obj)) (s:Shared) (σ:St) (H:Hp) (N:St->Hp->Prop),Inv X pins σ H s->t σ H N ->
    wpAny (model X.prog X.w) X.A em (λ_ s'=>∃σ' H',Inv X pins σ' H' s'/\N σ' H') X.xe s
noncomputable def zpx (e:Expr) (d:Nat) (tg iter:Expr) (ifs:List Expr) (em:Sem Unit) (it acc:Value) (env:Env):Sem Fin:=do
  standAt iter.pos
  match <- pyNext it with
  |none=>pure (.done .next)
  | some v =>
    letOwnedTupleGo tg it v
    assign tg env v
    let mut ok:=true
    for c in ifs do
      if ok then ok <- isTrue c env (eval c env)
    if ok then em
    again (.compLoop e d it acc env)
noncomputable def zpp (J:It) (g:TG) (tc:TT) (tm:TM) (σ:St) (H:Hp) (Q:St->Hp->Prop):Prop:=∃W:Nat->Nat->St->Hp->Prop,(∃m,W 0 m σ H) /\
 ∀i m σc Hc,W i m σc Hc->(J.stop i Hc/\Q σc Hc)\/(J.go i Hc/\∃N:St->Hp->Prop,(∀σ' H',N σ' H'->∃m',m' < m/\W (i+1) m' σ' H')/\∀x H',J.yld i Hc x H'->g x σc H' λσ2 H2 =>
  tc σ2 H2 λb H3=>if b=true then tm σ2 H3 N else N σ2 H3)
noncomputable def ztp (wi:TI) (cap:List (Option Nat)) (g:TG) (tc:TT) (tm:Addr->TM):TE:=λσ H Q=>wi σ H λJ H1=>∀acc,H1 acc=none->zpp J g tc (tm acc) (capSt cap σ) (upd H1 acc (.lst [])) λ_ Hc=>Q (.ref acc) Hc
section
variable {X:Cx}
theorem ztf {elt:Expr}{gens:List Comprehension}{scope:Scope}{pos:Pos}{d:Nat}{tg iter:Expr}{ifs:List Expr}{em:Sem Unit}{acc:Value}{g:TG}{tc:TT}{tm:TM}{pins:List (Addr × Obj)}{σ:St}{H:Hp}{s:Shared}{it:Addr}{fp:List Addr}{tn:Nat->Heap->Prop}{J:It}{N0:St->Hp->Prop}{R:Result->Shared->Prop}
  (hx:∀v s,¬ X.xe v s) (hc:X.calm=true) (ht:compTurn (.ListComp elt gens scope pos) d (.ref it) acc X.env=zpx (.ListComp elt gens scope pos) d tg iter ifs em (.ref it) acc X.env)
  (hg:PG X tg g) (hs:PTs X ifs tc) (hm:PM X em tm) (I:Inv X pins σ H s) (T:Turn X.prog X.w X.K tg J fp it tn) (st:tn 0 s.heap) (f:∀b∈fp,FpOk X pins H b)
  (hW:zpp J g tc tm σ H N0)
  (hR:∀σ' H' s',Inv X pins σ' H' s'->N0 σ' H'->R (.ok .next) s'):codeAny (model X.prog X.w) X.A (.compLoop (.ListComp elt gens scope pos) d (.ref it) acc X.env) R s:=by
 have stat:∀{H' : Hp},(∀b∈fp,H' b=none)->∀b∈fp,FpOk X pins H' b:=λhn b hb=>⟨hn b hb,(f b hb).2⟩;nofun;obtain⟨W,⟨m0,w0⟩,turn⟩:=hW;ac_rfl;refine codeAny_loop rfl (λn s'=>∃i σ' H',Inv X pins σ' H' s'/\tn i s'.heap/\(∀b∈fp,H' b=none)/\W i n σ' H') ?_ m0 ⟨0,σ,H,I,st,λb hb=>(f b hb).1,w0⟩;rintro n s3 ⟨i,σ3,H3,I3,st3,fr3,w3⟩;show wpAny _ X.A ((compTurn (.ListComp elt gens scope pos) d (.ref it) acc X.env).onRaise (λx=>do noteFrame x X.env;theTreesLotGoes x)) _ _ s3;refine wpAny_noted ?_;rw[ht];unfold zpx;refine Aa (Hu (Aa ?_));rcases turn i n σ3 H3 w3 with⟨stop,qn⟩|⟨go,N,hN,step⟩
 ·refine Dc (T.done X rfl rfl rfl hc i pins s3 σ3 H3 (λ_ _=>False) I3 (stat fr3) st3 stop) (λr s4 ⟨hr,I4⟩ => ?_) λ_ _ z=>z.elim;subst hr;exact Ag (hR σ3 H3 s4 I4 qn)
 ·refine Dc (T.item X rfl rfl rfl hc i pins s3 σ3 H3 (fun _ _ => False) I3 (stat fr3) st3 go) (fun r s4 ⟨u, hr, h4⟩ => ?_) fun _ _ z => z.elim;subst hr;refine Aa (Dc h4 (fun _ s5 ⟨x,H5,I5,r5,y5,st5,fr5⟩=>?_) fun _ _ z=>z.elim);have I5':=I5.pinned (stat fr5) (T.obj _ _ st5);refine Aa (Dc (hg _ s5 σ3 H5 x u _ I5' r5 (step x H5 y5)) (fun _ s6 ⟨σ6,H6,I6,q6⟩=>?_) fun v s z=>(hx v s z).elim);refine Aa (Dc (hs _ s6 σ6 H6 _ I6 q6) (fun ok s7 ⟨H7,I7,q7⟩=>?_) fun v s z=>(hx v s z).elim);have again:∀{sx:Shared}{σx:St}{Hx:Hp},Inv X (pins++zk9 fp s5.heap) σx Hx sx->N σx Hx->∃m,m < n/\∃i σ' H',Inv X pins σ' H' sx/\tn i sx.heap/\(∀b∈fp,H' b=none)/\W i m σ' H':=fun {sx σx Hx} Ix nx=>by
   obtain⟨m',hm,wx⟩:=hN σx Hx nx;refine⟨m',hm,i+1,σx,Hx,Ix.unpinned,T.keep _ _ _ st5 λb hb o e=>(Ix.pin (b,o) (Aw _ (Aw _ (zdo hb e)))).1,λb hb=>?_,wx⟩;obtain⟨o,e,d⟩:=T.obj _ _ st5 b hb;exact (Ix.pin (b,o) (Aw _ (Aw _ (zdo hb e)))).2.1
  cases ok with
  |false=>exact Ag ⟨rfl,again I7 q7⟩
  |true=>exact Aa (Dc (hm _ s7 σ6 H7 N I7 q7) (λ_ s8 ⟨σ8,H8,I8,n8⟩=>Ag ⟨rfl,again I8 n8⟩) λv s z=>(hx v s z).elim)
noncomputable def zv4 (acc:Addr) (te:TE):TM:=λσ H N=>te σ H λy H4=>∃ys,H4 acc=some (.lst ys)/\ys.length<sizeLine/\N σ (upd H4 acc (.lst (ys++[y])))
noncomputable def z1u (elt:Expr) (acc:Value) (env:Env):Sem Unit:=do let _ <- call (.builtin "list.append") [acc,<-eval elt env]
theorem z4a {elt:Expr}{te:TE}{acc:Addr}(he:PE X elt te):PM X (z1u elt (.ref acc) X.env) (zv4 acc te):=by
 intro pins s σ H N I h;unfold z1u;refine Aa (thn (he pins s σ H _ I h) λyv s10 ⟨y,H10,I10,r10,ys,ha,hz,q10⟩=>?_);refine Aa (thn (zjl _ s10 σ H10 (.ref acc) [y] _ [yv] (λ_ H'=>N σ H') I10 rfl (.cons r10 .nil) ⟨_,ys,y,rfl,rfl,ha,hz,q10⟩) λ_ s11 ⟨_,H11,I11,_,q11⟩=>?_);exact Ag ⟨σ,H11,I11,q11⟩
end
theorem HOk.but {P:Program}{w:World}{H:Hp}{h h' : Heap}{a:Addr}(x:HOk P w H h)(hn:H a=none)(hs:Heap.SameBut a h h'):HOk P w H h':=λb ob e=>by
 refine (x b ob e).stay (λc w' hc q=>(hs.2 c ?_).trans q) (λ_ q=>q) λ_ _ q=>q;rintro rfl;rcases hc with rfl|hc
 ·rw[hn] at e;cases e
 ·rw[hn] at hc;cases hc
section
variable {X:Cx}
theorem zh2 {elt tg iter:Expr}{ifs:List Expr}{gs:List Comprehension}{scope:Scope}{pos:Pos}{cl:List (Str × Addr)}{Nc:List Str}{cap:List (Option Nat)}{g:TG}{tc:TT}{em:Value->Env->Sem Unit}{tm:Addr->TM}{pins:List (Addr × Obj)}{σ:St}{H2:Hp}{s2:Shared}{it:Addr}{fp:List Addr}{tn:Nat->Heap->Prop}{J:It}{Q:VK}{RR:Value->Addr->Result->Shared->Prop}{E:Value->Shared->Prop}
  (hc:X.calm=true) (hk:scope.kind=.function) (hcap:zg9 cap Nc X.N scope=true) (hfr:zg4 scope X.env.scope=true) (hnc:zfh scope=true)
  (hturn:∀it acc env,compTurn (.ListComp elt (⟨tg,iter,ifs,0⟩ :: gs) scope pos) 0 it acc env=zpx (.ListComp elt (⟨tg,iter,ifs,0⟩ :: gs) scope pos) 0 tg iter ifs (em acc env) it acc env)
  (hg:∀cl C s3 H3 fp,PG (zbc X Nc scope cl C s3 H3 fp) tg g) (ht:∀cl C s3 H3 fp,PTs (zbc X Nc scope cl C s3 H3 fp) ifs tc) (hm:∀cl C s3 H3 fp acc,PM (zbc X Nc scope cl C s3 H3 fp) (em (.ref acc) (zbc X Nc scope cl C s3 H3 fp).env) (tm acc))
  (c1:∀x c,cl.lookup x=some c->X.env.cells.lookup x=some c) (c2:∀x,(x,NameKind.free)∈scope.names->∃c,cl.lookup x=some c)
  (I2:Inv X pins σ H2 s2) (T:Turn X.prog X.w X.K tg J fp it tn) (st2:tn 0 s2.heap) (f2:∀b∈fp,FpOk X pins H2 b)
  (hW:∀acc,H2 acc=none->zpp J g tc (tm acc) (capSt cap σ) (upd H2 acc (.lst [])) λ_ Hc=>Q (.ref acc) Hc)
  (hR:∀acc C s' H',(∃m,s'.heap.Ns C m)->(∀h',Heap.SameBut C s'.heap h'->Inv X pins σ H' { s' with heap:=h' })->FpOk X pins H' C->Q (.ref acc) H'->RR (.ref acc) C (.ok .next) s') :
  wpAny (model X.prog X.w) X.A (newList []) (λacc s₃=>wpAny (model X.prog X.w) X.A (newFunctionEnv scope X.env.globals cl [] X.env.qual none .none (some X.env)) (λcenv s₄ =>
   codeAny (model X.prog X.w) X.A (.compStart (.ListComp elt (⟨tg,iter,ifs,0⟩ :: gs) scope pos) 0 (.ref it) acc { cenv with scope:=relabel scope X.env }) (RR acc cenv.locals) s₄) E s₃) E s2:=by
 refine Cg (zij λh₁ hns₁ keep4 hcs=>?_);dsimp only at hns₁ keep4 hcs ⊢;have hacc:H2 s2.heap.objs.size=none:=I2.hok.fresh (Af _);have I3:Inv X pins σ (upd H2 s2.heap.objs.size (.lst [])) { s2 with heap:=s2.heap.push { cls:=.type "list",dict:=none,data:=.seq ([]:List Value).toArray },toks:=s2.toks } :=
  I2.laid (t':=s2.toks) (λb u e=>Ab _ e) (Af _) ⟨by simp,[],0,.nil,Ak _ rfl⟩
 have hW':=hW s2.heap.objs.size hacc;generalize hH:s2.heap.push { cls:=.type "list",dict:=none,data:=.seq ([]:List Value).toArray }=hp at hns₁ keep4 hcs I3 ⊢;have f3:∀b∈fp,FpOk X pins (upd H2 s2.heap.objs.size (.lst [])) b:=λb hb=>by
  obtain⟨o,ho,_⟩:=T.obj _ _ st2 b hb;exact⟨by rw[upd_ne (Bc (Ao ho))];exact (f2 b hb).1,(f2 b hb).2⟩
 have up:∀b o,s2.heap.get? b=some o->hp.get? b=some o:=λb o e=>hH ▸ Ab _ e;have I4:=zyh (Nc:=Nc) (cap:=cap) (fp:=fp) (h4:=h₁) (tk:=s2.toks) I3 hk hcap hfr hnc c1 c2 f3 (λb hb=>by
  obtain⟨o,ho,_⟩:=T.obj _ _ st2 b hb;exact Ao (up b o ho)) hns₁ keep4 hcs
 have st4:tn 0 h₁:=T.keep _ _ _ st2 λb _ o e=>keep4 b o (up b o e);have loop:codeAny (model X.prog X.w) X.A (.compLoop (.ListComp elt (⟨tg,iter,ifs,0⟩ :: gs) scope pos) 0 (.ref it) (.ref s2.heap.objs.size) (compEnvC scope (cellsFrom (hp.objs.size+1) scope.names cl) hp.objs.size X.env)) (RR (.ref s2.heap.objs.size) hp.objs.size) { s2 with heap:=h₁,toks:=s2.toks }:=by
  refine ztf (X:=zbc X Nc scope (cellsFrom (hp.objs.size+1) scope.names cl) hp.objs.size { s2 with heap:=hp,toks:=s2.toks } (upd H2 s2.heap.objs.size (.lst [])) fp) (λ_ _ z=>z) hc (hturn _ _ _) (hg _ _ _ _ _) (ht _ _ _ _ _) (hm _ _ _ _ _ _) I4 T st4
   (λb hb=>⟨(f3 b hb).1,(I4.ok.exf b hb).1,I4.ok.exfs b hb,.inl hb,(I4.ok.exf b hb).2,λp hp'=>absurd (show p∈([]:List (Addr × Obj)) from hp') (by simp)⟩) hW' λσ5 H5 s6 I6 qn=>?_
  obtain⟨m6,hm6,_⟩:=I6.loc;have fC:H5 hp.objs.size=none:=I6.free;refine hR _ _ _ H5 ⟨m6,hm6⟩ (λh' hsb=>?_) (I3.fpOk (Af _) fC) qn;refine I3.call' (s':={ s6 with heap:=h' }) (ch:=fp) I6.os ?_ (I6.hok.but fC hsb) I6.bare λb hb=>⟨(f3 b hb).2.2.2.1,(f3 b hb).2.1,(f3 b hb).2.2.2.2.1,(f3 b hb).2.2.2.2.2⟩;have U:Un (frs X.stack) fp (upd H2 s2.heap.objs.size (.lst [])) H5 hp s6.heap:=I6.base;have nb:∀b o,hp.get? b=some o->b≠hp.objs.size:=λb o e=>Bc (Ao e);exact⟨λb o e n hb hx=>(hsb.2 b (nb b o e)).trans (U.keep b o e n hb hx),λb o e n hb hx=>let ⟨sl,z⟩:=U.slot b o e n hb hx;⟨sl,(hsb.2 b (nb b o e)).trans z⟩,U.free,λb o e hx=>let ⟨o',z⟩:=U.there b o e hx;⟨o',(hsb.2 b (nb b o e)).trans z⟩,U.tups,U.frzs,U.tbls⟩
 exact codeAny_compStart_list loop (T.self _ 0 _ _ _ st4 loop)
theorem z1g {elt tg iter:Expr}{ifs:List Expr}{gs:List Comprehension}{scope:Scope}{pos:Pos}{Nc:List Str}{cap:List (Option Nat)}{wi:TI}{g:TG}{tc:TT}{em:Value->Env->Sem Unit}{tm:Addr->TM} (hi:PI X tg iter wi)
  (hg:∀cl C s3 H3 fp,PG (zbc X Nc scope cl C s3 H3 fp) tg g) (ht:∀cl C s3 H3 fp,PTs (zbc X Nc scope cl C s3 H3 fp) ifs tc) (hm:∀cl C s3 H3 fp acc,PM (zbc X Nc scope cl C s3 H3 fp) (em (.ref acc) (zbc X Nc scope cl C s3 H3 fp).env) (tm acc))
  (hturn:∀it acc env,compTurn (.ListComp elt (⟨tg,iter,ifs,0⟩ :: gs) scope pos) 0 it acc env=zpx (.ListComp elt (⟨tg,iter,ifs,0⟩ :: gs) scope pos) 0 tg iter ifs (em acc env) it acc env)
  (hc:X.calm=true:=by rfl) (hk:scope.kind=.function:=by rfl) (hcap:zg9 cap Nc X.N scope=true:=by rfl) (hfr:zg4 scope X.env.scope=true:=by rfl) (hnc:zfh scope=true:=by rfl)
  (hnm:(scope.names.all λp=>!(p.2 == NameKind.local) || decide (scope.names.lookup p.1=some .local))=true:=by rfl)
  (hs:∀x,foldedSetIterable iter X.env x=pure x:=by intro _;rfl):PE X (.ListComp elt (⟨tg,iter,ifs,0⟩ :: gs) scope pos) (ztp wi cap g tc tm):=by
 intro pins s σ H Q I h;rw[eval_ListComp];nofun;obtain⟨cl,hclos,c1,c2⟩:=zdk (env:=X.env) (scope:=scope) λx hx=>I.ok.has x (zdt hfr hx);ac_rfl;have hnames:∀x∈scope.names,x.2=.local->scope.names.lookup x.1=some .local:=λx hx e=>by
  have q:=Ay.mp hnm _ hx;simpa [e] using q
 refine wpAny_comprehension_free (use:=none) rfl hs hclos hk hnames (thn (hi pins s σ H _ I h) λv s1 h1=>thn h1 λitv s2 h2=>?_);nofun;obtain⟨it,fp,tn,J,H2,e,I2,T,st2,f2,hW⟩:=h2;ac_rfl;subst e;refine zh2 (RR:=λacc C=>compPost (model X.prog X.w) X.A X.xe none (EP X pins σ Q) acc C) hc hk hcap hfr hnc hturn hg ht hm c1 c2 I2 T st2 f2 hW ?_;intro acc C s' H' ⟨m,hm⟩ hI hC q;exact⟨m,hm,λh' hsb=>⟨.ref acc,H',hI h' hsb,rfl,q⟩⟩
theorem z2a {y:Str}{py:Pos}{spos:Pos}{i:Nat}{elt tg iter:Expr}{ifs:List Expr}{gs:List Comprehension}{scope:Scope}{pos:Pos}{Nc:List Str}{cap:List (Option Nat)}{wi:TI}{g:TG}{tc:TT}{em:Value->Env->Sem Unit}{tm:Addr->TM} (hN:X.N.Nodup) (hiy:X.N[i]?=some y) (hy:Loc X.env.scope y) (hi:PI X tg iter wi)
  (hg:∀cl C s3 H3 fp,PG (zbc X Nc scope cl C s3 H3 fp) tg g) (ht:∀cl C s3 H3 fp,PTs (zbc X Nc scope cl C s3 H3 fp) ifs tc) (hm:∀cl C s3 H3 fp acc,PM (zbc X Nc scope cl C s3 H3 fp) (em (.ref acc) (zbc X Nc scope cl C s3 H3 fp).env) (tm acc))
  (hturn:∀it acc env,compTurn (.ListComp elt (⟨tg,iter,ifs,0⟩ :: gs) scope pos) 0 it acc env=zpx (.ListComp elt (⟨tg,iter,ifs,0⟩ :: gs) scope pos) 0 tg iter ifs (em acc env) it acc env)
  (hsw:swapsWith (.ListComp elt (⟨tg,iter,ifs,0⟩ :: gs) scope pos) (some (.Name y py)) spos.line X.env=pure true:=by rfl)
  (hc:X.calm=true:=by rfl) (hk:scope.kind=.function:=by rfl) (hcap:zg9 cap Nc X.N scope=true:=by rfl) (hfr:zg4 scope X.env.scope=true:=by rfl) (hnc:zfh scope=true:=by rfl)
  (hnm:(scope.names.all λp=>!(p.2 == NameKind.local) || decide (scope.names.lookup p.1=some .local))=true:=by rfl)
  (hs:∀x,foldedSetIterable iter X.env x=pure x:=by intro _;rfl) (hf:X.fn y=true\/X.env.scope.names.lookup y=some .local:=by first|exact .inl rfl|exact .inr rfl|assumption) :
  PS X (.Assign [.Name y py] (.ListComp elt (⟨tg,iter,ifs,0⟩ :: gs) scope pos) spos) (tAsg (ztp wi cap g tc tm) (zmd i)):=by
 intro pins s σ H D I h;nofun;obtain⟨cl,hclos,c1,c2⟩:=zdk (env:=X.env) (scope:=scope) λx hx=>I.ok.has x (zdt hfr hx);ac_rfl;have hnames:∀x∈scope.names,x.2=.local->scope.names.lookup x.1=some .local:=λx hx e=>by
  have q:=Ay.mp hnm _ hx;simpa [e] using q
 rw[exec_Assign_Name_used _ _ _ _ hsw];refine Aa (Hu (Aa ?_));show wpAny _ X.A (do let _ <- comprehension (.ListComp elt (⟨tg,iter,ifs,0⟩ :: gs) scope pos) scope X.env _ (newList []) false (eval iter X.env) (some (assign (.Name y py) X.env))) _ _ s;refine Aa (Dc (wpAny_comprehension_free (use:=some (assign (.Name y py) X.env)) (Q:=λ_ s'=>SP X pins D .next s') rfl hs hclos hk hnames
  (thn (hi pins s σ H _ I h) λv s1 h1=>thn h1 λitv s2 h2=>?_)) (λ_ s' hq=>Ag (Ag hq)) λ_ _ e=>e)
 nofun;obtain⟨it,fp,tn,J,H2,e,I2,T,st2,f2,hW⟩:=h2;ac_rfl;subst e;refine zh2 (Q:=λx H1=>D.nx (σ.set i (some x)) H1) (RR:=λacc C=>compPost (model X.prog X.w) X.A X.xe (some (assign (.Name y py) X.env)) (λ_ s'=>SP X pins D .next s') acc C) hc hk hcap hfr hnc hturn hg ht hm c1 c2 I2 T st2 f2 hW ?_;intro acc C s' H' ⟨m,hm⟩ hI hC q;show wpAny _ X.A (assign (.Name y py) X.env (.ref acc)) _ _ _;have I' : Inv X pins σ H' s':=hI s'.heap (.refl ..);refine wpAny_assign_Name (zjt I' hN hiy hy (v:=.ref acc) rfl (λs'' I'' ⟨a,hsb,ha⟩=>?_) hf);have ne:C≠a:=by
  rcases ha with rfl|ha
  ·exact hC.2.1
  ·exact λz=>hC.2.2.2.2.1 y a ha z.symm
 refine⟨m,hm.sameBut hsb ne,λh' hsb'=>⟨_,H',?_,q⟩⟩;exact I''.turned (t':=s''.toks) (λb o hb e=>(hsb'.2 b hb).trans e) hC.1 hC.2.1 hC.2.2.2.1 hC.2.2.2.2.1 hC.2.2.2.2.2
end
section
variable {X:Cx}{pins:List (Addr × Obj)}{σ:St}{H:Hp}{s:Shared}
theorem Inv.turnLay {h' : Heap}{t' : Nat}{ch:List Addr}{T:Addr}{o:HO} (I:Inv X pins σ H s) (k:∀b o,b ∉ ch->s.heap.get? b=some o->h'.get? b=some o) (th:∀b∈ch,∃o',h'.get? b=some o') (hch:∀b∈ch,FpOk X pins H b) (hT:s.heap.objs.size<=T)
  (new:ObjOk X.prog X.w (upd H T o) h' T o):Inv X pins σ (upd H T o) { s with heap:=h',toks:=t' }:=by
 have hn:H T=none:=I.hok.fresh hT;have ne:∀b u,s.heap.get? b=some u->b≠T:=λb u e=>Bc (Bd (Ao e) hT);have nch:∀b u,H b=some u->b ∉ ch:=λb u e hb=>by rw[(hch b hb).1] at e;cases e
 refine I.step (g':=s.gens) (d':=s.drawn) (ch:=ch) (λb hb=>⟨(hch b hb).2.2.2.1,(hch b hb).2.1,(hch b hb).2.2.2.2.1,(hch b hb).2.2.2.2.2⟩) (λb o _ _ hc e _=>k b o hc e) (λb o _ _ hc e _=>⟨o.slots,k b o hc e⟩) (λb u _ e n=>by rw[upd_ne (ne b u e)];exact n)
  (λb u hc e=>⟨u,k b u hc e⟩) (λb xs e=>by rw[upd_ne (zab e hn)];exact e) (λb u xs e=>by rw[upd_ne (zab e hn)];exact e) (λb ps e=>⟨#[],by rw[upd_ne (zab e hn),e];simp⟩) (λm hm=>?_) (λb u e=>?_) I.bare
 ·obtain⟨o,es,ep,ho,r⟩:=hm;exact⟨o,es,ep,k _ o (λz=>(hch _ z).2.1 rfl) ho,r⟩
 ·by_cases hb : b = T
  ·subst hb;rw[upd_same] at e;obtain rfl:=sI e;exact new
  ·rw[upd_ne hb] at e;refine (I.hok b u e).stay (λc v hc q=>k c v ?_ q) (λc q=>by rw[upd_ne (zab q hn)];exact q) λc xs q=>by rw[upd_ne (zab q hn)];exact q
   rcases hc with z|z
   ·rw[z];exact nch b u e
   ·exact nch c _ z
theorem Inv.turnL {h' : Heap}{t' : Nat}{ch:List Addr}(I:Inv X pins σ H s)(k:∀b o,b ∉ ch->s.heap.get? b=some o->h'.get? b=some o)(hch:∀b∈ch,FpOk X pins H b):Inv X pins σ H { s with heap:=h',toks:=t' }:=by
 have nch:∀b u,H b=some u->b ∉ ch:=λb u e hb=>by rw[(hch b hb).1] at e;cases e
 refine I.step (g':=s.gens) (d':=s.drawn) (ch:=ch) (λb hb=>⟨(hch b hb).2.2.2.1,(hch b hb).2.1,(hch b hb).2.2.2.2.1,(hch b hb).2.2.2.2.2⟩) (λb o _ _ hc e _=>k b o hc e) (λb o _ _ hc e _=>⟨o.slots,k b o hc e⟩) (λb u _ e n=>n)
  (λb u hc e=>⟨u,k b u hc e⟩) (λb xs e=>e) (λb u xs e=>e) (λb ps e=>⟨#[],by rw[e];simp⟩) (λm hm=>?_) (λb u e=>?_) I.bare
 ·obtain⟨o,es,ep,ho,r⟩:=hm;exact⟨o,es,ep,k _ o (λz=>(hch _ z).2.1 rfl) ho,r⟩
 ·refine (I.hok b u e).stay (λc v hc q=>k c v ?_ q) (λc q=>q) λc xs q=>q;rcases hc with z|z
  ·rw[z];exact nch b u e
  ·exact nch c _ z
end
noncomputable def Ite (K:PySem.W.Frag) (a:Addr):It :=
 ⟨λi H=>∃xs x,SqL K H a xs/\xs[i]?=some x,λi H x H'=>∃p v,x=.ref p/\H p=none/\H'=upd H p (.tup [.int i,v])/\∀xs,SqL K H a xs->xs[i]?=some v,λi H=>∃xs,SqL K H a xs/\xs.length<=i⟩
theorem ztj {P:Program}{w:World}{K:PySem.W.Frag}{es:List Expr}{x1}{px:Pos}(a e it:Addr)(hei:e≠it):Turn P w K (.Tuple es x1 px) (Ite K a) [e,it] e (λi h=>(∃old,IsEnum h e it i old)/\h.IsListIter it a i) where
 mem:=by simp
 obj:=λi h st b hb=>by
  nofun;obtain⟨⟨old,he⟩,o,hi,c,d⟩:=st;ac_rfl;rcases At.mp hb with rfl|hb
  ·exact⟨_,he,λv z=>by cases z⟩
  ·have : b = it:=by simpa using hb
   subst this;exact⟨o,hi,λv z=>by rw[d] at z;cases z⟩
 keep:=λi h h' st k=>⟨let ⟨old,he⟩:=st.1;⟨old,k e (by simp) _ he⟩,st.2.at λo z=>k it (by simp) o z⟩
 item:=by
  intro X hP hw hK hc i pins s σ H E I hf st hg;subst hP hw hK;nofun;obtain⟨xs,x,hq,hx⟩:=hg;obtain⟨its,rv,p,hz⟩:=I.list hq;obtain⟨u,hu,ru⟩:=rv.get hx;obtain⟨⟨old,he⟩,hit⟩:=st;ac_rfl;refine wpAny_pyNext_enum_item he hit p.isList (x:=u) (by simpa using hu) hei λh' ho hit' hT hsz hk=>⟨_,rfl,?_⟩;refine wpAny_letOwnedTupleGo_enum ho λh'' he'' hs''=>?_;have kk:∀b o,b ∉ [e,it]->s.heap.get? b=some o->h''.get? b=some o:=λb o hb q=>by
   have h1:b≠e:=λz=>hb (by simp [z]);have h2:b≠it:=λz=>hb (by simp [z]);exact (hs''.2 b h1).trans (hk b o h1 h2 q)
  have hTe:s.heap.objs.size≠e:=λz=>absurd (Ao he) (by rw[z];exact Cj _);have hit'' : h''.IsListIter it a (i+1):=hit'.at λo y=>(hs''.2 it hei.symm).trans y;refine⟨.ref s.heap.objs.size,upd H s.heap.objs.size (.tup [.int i,x]),I.turnLay kk (λb hb=>?_) hf (Af _) ⟨by show 2<=sizeLine;decide,[.int i s.toks,u],.cons ⟨_,rfl⟩ (.cons ru .nil),?_⟩,rfl,⟨_,x,rfl,I.hok.fresh (Af _),rfl,λys hy=>by rw[I.list_inj hy hq];exact hx⟩,⟨⟨_,by simpa using he''⟩,hit''⟩,λb hb=>?_⟩
  ·rcases At.mp hb with rfl|hb
   ·exact⟨_,he''⟩
   ·have : b = it:=by simpa using hb
    subst this;obtain⟨o,z,_⟩:=hit'';exact⟨o,z⟩
  ·exact⟨_,(hs''.2 _ hTe).trans hT,⟨rfl,_,rfl⟩,rfl⟩
  ·have:b≠s.heap.objs.size:=by
    rcases At.mp hb with rfl|hb
    ·exact hTe.symm
    ·have e2 : b = it:=by simpa using hb
     subst e2;obtain⟨o,z,_⟩:=hit;exact Bc (Ao z)
   rw[upd_ne this];exact (hf b hb).1
 done:=by
  intro X hP hw hK hc i pins s σ H E I hf st hg;subst hP hw hK;nofun;obtain⟨xs,hq,hx⟩:=hg;obtain⟨its,rv,p,hz⟩:=I.list hq;obtain⟨⟨old,he⟩,hit⟩:=st;obtain⟨f0,f1,f2,f3,f4,f5⟩:=hf it (by simp);ac_rfl;have hl:=rv.length;exact wpAny_pyNext_enum_end (I.ok.hd hc) he hit p.isList (Do (by simp;omega)) λh' eb=>⟨rfl,I.turned (t':=s.toks) (λb o hb e=>eb b o hb e) f0 f1 f3 f4 f5⟩
 self:=λ_ _ _ _ _ st h=>let ⟨_,he⟩:=st.1;Hs he h
section
variable {X:Cx}
end
section
variable {X:Cx}{tg:Expr}
end
section
variable {κ:Type} [DecidableEq κ]
noncomputable def valV (kvs:List (κ × V)) (k:κ):Option V:=(kvs.find? λkv=>decide (kv.1=k)).map (·.2)
noncomputable def putK (kvs:List (κ × V)) (k:κ) (v:V):List (κ × V) :=
 if (kvs.any λkv=>decide (kv.1=k))=true then kvs.map (λkv=>if kv.1=k then (kv.1,v) else kv) else kvs++[(k,v)]
theorem zfq {p:κ × V}{r:List (κ × V)}{k:κ}(e:p.1=k):valV (p::r) k=some p.2:=by simp [valV,Dy,e]
theorem zfo {p:κ × V}{r:List (κ × V)}{k:κ}(e:¬ p.1=k):valV (p::r) k=valV r k:=by simp [valV,Dy,e]
theorem zoz (k:κ):∀kvs:List (κ × V),(kvs.any fun kv=>decide (kv.1=k))=(valV kvs k).isSome
  |[]=>rfl
  | p::r=>by
    rw[Dd];by_cases e:p.1=k
    · simp only [zfq e,Aj e,Bool.true_or,Option.isSome_some]
    · rw[zfo e,Bg e,Bool.false_or];exact zoz k r
theorem zd9 (kvs:List (κ × V))(k:κ)(v:V):(putK kvs k v).length<=kvs.length+1:=by
 unfold putK;split
 ·rw[Ac];omega
 ·rw[Bb,Ba,Fj];omega
theorem RelO.isSome_eq {o:Option V}{u:Option Value} (r:RelO o u):o.isSome=u.isSome:=by
  cases o with
  | none=>cases u with
    |none=>rfl
    |some _=>exact (show False from r).elim
  | some _=>cases u with
    |none=>exact (show False from r).elim
    |some _=>rfl
theorem RelO.getD {o:Option V}{u:Option Value}{d:V}{d' : Value} (r:RelO o u) (rd:RelV d d'):RelV (o.getD d) (u.getD d'):=by
  cases o with
  | none=>cases u with
    |none=>exact rd
    |some _=>exact (show False from r).elim
  | some _=>cases u with
    |none=>exact (show False from r).elim
    |some _=>exact r
theorem KV.val {kvs:List (κ × V)}{vs:List (κ × Value)} (r:KV kvs vs) (k:κ):RelO (valV kvs k) (valueAt vs k):=by
  unfold KV at r
  induction r with
  |nil=>exact True.intro
  | @cons p q ps qs h t ih =>
    obtain⟨h1,h2⟩:=h;by_cases e:p.1=k
    · have e' : q.1 = k := h1.symm.trans e
      have b:valueAt (q::qs) k=some q.2:=by simp [valueAt,Dy,e']
      rw[zfq e,b];exact h2
    · have e' : ¬ q.1 = k := fun z => e (h1.trans z)
      have b:valueAt (q::qs) k=valueAt qs k:=by simp [valueAt,Dy,e']
      rw[zfo e,b];exact ih
theorem KV.any {kvs:List (κ × V)}{vs:List (κ × Value)}(r:KV kvs vs)(k:κ):(kvs.any λkv=>decide (kv.1=k))=vs.any λkv=>decide (kv.1=k):=by
 unfold KV at r
 induction r with
 |nil=>rfl
 |cons h t ih=>rw[Dd,Dd,ih,h.1]
theorem KV.repl {kvs:List (κ × V)}{vs:List (κ × Value)} (r:KV kvs vs) (k:κ) {y:V}{u:Value} (ry:RelV y u) :
    KV (kvs.map λkv=>if kv.1=k then (kv.1,y) else kv) (vs.map λkv=>if kv.1=k then (kv.1,u) else kv):=by
  unfold KV at r ⊢
  induction r with
  |nil=>exact .nil
  | @cons p q ps qs h t ih =>
    rw[Ah,Ah];refine .cons ?_ ih;obtain⟨h1,h2⟩:=h;by_cases e:p.1=k
    · rw[if_pos e,if_pos (h1.symm.trans e)];exact⟨h1,ry⟩
    · rw[if_neg e,if_neg (λz=>e (h1.trans z))];exact⟨h1,h2⟩
theorem KV.put {kvs:List (κ × V)}{vs:List (κ × Value)}(r:KV kvs vs)(k:κ){y:V}{u:Value}(ry:RelV y u):KV (putK kvs k y) (stored vs k u):=by
 unfold putK stored;rw[r.any k];by_cases e:(vs.any λkv=>decide (kv.1=k))=true
 ·rw[if_pos e,if_pos e];exact r.repl k ry
 ·rw[if_neg e,if_neg e];exact Paired.snoc r ⟨rfl,ry⟩
theorem KV.keys {kvs:List (κ × V)}{vs:List (κ × Value)}(r:KV kvs vs):kvs.map (·.1)=vs.map (·.1):=by
 unfold KV at r
 induction r with
 |nil=>rfl
 |cons h t ih=>rw[Ah,Ah,ih,h.1]
theorem KV.length {kvs:List (κ × V)}{vs:List (κ × Value)}(r:KV kvs vs):kvs.length=vs.length:=Paired.length r
end
theorem zp8 {P:Program}{w:World}{k:Key}{u:Value}(r:RelV (kV k) u):(zai P w).is k u=true:=by
 cases k with
 |inl i=>obtain⟨t,e⟩:=(show ∃t,u=Value.int i t from r);subst e;exact zmt P w i t
 |inr x=>obtain⟨t,e⟩:=(show ∃t,u=Value.str x t from r);subst e;exact zlx P w x t
theorem zlg {P:Program}{w:World}:∀{ks:List Key}{us:List Value},Vals (ks.map kV) us->ItemsAre (zai P w) ks us
  |[],_,r=>by rw[List.map_nil] at r;cases r;exact .nil
  | k::ks,_,r=>by
    rw[Ah] at r;cases r with
    |cons h t=>exact .cons (zp8 h) (zlg t)
noncomputable abbrev KT (H:Hp):List (List Key × V)->List (List Key × Addr × Value)->Prop:=Paired λp q=>p.1=q.1/\H q.2.1=some (.tup (p.1.map kV))/\RelV p.2 q.2.2
theorem KT.val {H:Hp}{kvs:List (List Key × V)}{xs:List (List Key × Addr × Value)} (r:KT H kvs xs) (k:List Key):RelO (valV kvs k) ((atKey xs k).map (·.2)):=by
  induction r with
  |nil=>exact True.intro
  | @cons p q ps qs h t ih =>
    obtain⟨h1,_,h2⟩:=h;by_cases e:p.1=k
    · have e' : q.1 = k := h1.symm.trans e
      have b:atKey (q::qs) k=some q.2:=by simp [atKey,Dy,e']
      rw[zfq e,b];exact h2
    · have e' : ¬ q.1 = k := fun z => e (h1.trans z)
      have b:atKey (q::qs) k=atKey qs k:=by simp [atKey,Dy,e']
      rw[zfo e,b];exact ih
theorem KT.repl {H:Hp}{kvs:List (List Key × V)}{xs:List (List Key × Addr × Value)} (r:KT H kvs xs) (k:List Key) {y:V}{u:Value} (ry:RelV y u) :
    KT H (kvs.map λkv=>if kv.1=k then (kv.1,y) else kv) (xs.map (putAt k u)):=by
  induction r with
  |nil=>exact .nil
  | @cons p q ps qs h t ih =>
    rw[Ah,Ah];refine .cons ?_ ih;obtain⟨h1,h2,h3⟩:=h;unfold putAt;by_cases e:p.1=k
    · rw[if_pos e,if_pos (h1.symm.trans e)];exact⟨h1,h2,ry⟩
    · rw[if_neg e,if_neg (λz=>e (h1.trans z))];exact⟨h1,h2,h3⟩
theorem KT.put {H:Hp}{kvs:List (List Key × V)}{xs:List (List Key × Addr × Value)} (r:KT H kvs xs) (k:List Key) {b:Addr}{y:V}{u:Value} (hb:H b=some (.tup (k.map kV))) (ry:RelV y u) :
  KT H (putK kvs k y) (storedH xs k b u):=by
 have e:(kvs.any λkv=>decide (kv.1=k))=(atKey xs k).isSome:=by
  rw[zoz,(r.val k).isSome_eq,Option.isSome_map]
 unfold putK storedH;rw[e];by_cases q:(atKey xs k).isSome=true
 ·rw[if_pos q,if_pos q];exact r.repl k ry
 ·rw[if_neg q,if_neg q];exact Paired.snoc r ⟨rfl,hb,ry⟩
theorem KT.keeps {H H' : Hp}{kvs:List (List Key × V)}{xs:List (List Key × Addr × Value)}(r:KT H kvs xs)(ht:∀b ys,H b=some (.tup ys)->H' b=some (.tup ys)):KT H' kvs xs :=
 Paired.mapP r λ_ _ z=>⟨z.1,ht _ _ z.2.1,z.2.2⟩
section
variable {P:Program}{w:World}{H:Hp}{h:Heap}{a:Addr}
theorem rd_of {u:HO}(ok:HOk P w H h)(e:Rd H a u):ObjOk P w H h a u:=e.ok ok
theorem dk_rd {kvs:List (Key × V)}(ok:HOk P w H h)(e:Rd H a (.dK kvs)):kvs.length<=sizeLine/\(a == sysModules)=false/\∃vs,KV kvs vs/\h.DictOf (zai P w) a vs :=
 show ObjOk P w H h a (.dK kvs) from rd_of ok e
theorem zz6 {kvs:List (Key × V)}(ok:HOk P w H h)(e:H a=some (.dK kvs)):kvs.length<=sizeLine/\(a == sysModules)=false/\∃vs,KV kvs vs/\h.DictOf (zai P w) a vs:=dk_rd ok (.inl e)
theorem zg1 {ks:List Key}(ok:HOk P w H h)(e:H a=some (.tup (ks.map kV))):(tupleKind (zai P w)).is h ks a:=by
 obtain⟨_,its,r,o,h1,⟨h2,n,h3⟩,_⟩:=(show ObjOk P w H h a (.tup (ks.map kV)) from ok a _ e);exact⟨o,its.toArray,n,h1,h2,h3,by simpa using zlg r⟩
theorem dt_rd {kvs:List (List Key × V)} (ok:HOk P w H h) (e:Rd H a (.dT kvs)):kvs.length<=sizeLine/\(a == sysModules)=false /\
    ∃xs,KT H kvs xs/\h.DictOfH (tupleKind (zai P w)) a xs:=by
  obtain ⟨z,y,xs,r,o,es,ep,h1,h2,h3,h4,h5⟩:=(show ObjOk P w H h a (.dT kvs) from rd_of ok e);refine ⟨z,y,xs,r,o,es,ep,h1,h2,h3,h4,fun x hx=>?_,h5⟩;have all:∀{l:List (List Key × V)}{m:List (List Key × Addr × Value)},KT H l m->∀x∈m,(tupleKind (zai P w)).is h x.1 x.2.1:=by
    intro l m q
    induction q with
    |nil=>intro x hx;exact nomatch hx
    | @cons p q ps qs hq t ih =>
      intro x hx;rcases At.mp hx with e|hx
      · subst e
        exact zg1 ok (by rw[<-hq.1];exact hq.2.1)
      · exact ih x hx
  exact all r x hx
theorem z5x {kvs:List (List Key × V)} (ok:HOk P w H h) (e:H a=some (.dT kvs)):kvs.length<=sizeLine/\(a == sysModules)=false /\
  ∃xs,KT H kvs xs/\h.DictOfH (tupleKind (zai P w)) a xs:=dt_rd ok (.inl e)
end
noncomputable def DGet (H:Hp) (a:Addr) (y:V) (r:Option V):Prop :=
 (∃kvs k,Rd H a (.dK kvs)/\y=kV k/\r=valV kvs k)\/∃kvs k b,Rd H a (.dT kvs)/\y=.ref b/\H b=some (.tup (k.map kV))/\r=valV kvs k
noncomputable def DPut (H:Hp) (a:Addr) (y v:V) (H' : Hp):Prop :=
 (∃kvs k,H a=some (.dK kvs)/\y=kV k/\kvs.length<sizeLine/\H'=upd H a (.dK (putK kvs k v))) \/
 ∃kvs k b,H a=some (.dT kvs)/\y=.ref b/\H b=some (.tup (k.map kV))/\kvs.length<sizeLine/\H'=upd H a (.dT (putK kvs k v))
section
variable {X:Cx}{pins:List (Addr × Obj)}{σ:St}{H:Hp}{s:Shared}{a:Addr}{y v:V}{u r:Value}{o:Option V}{A:Around}{E:Value->Shared->Prop}
theorem Inv.big (I:Inv X pins σ H s):sysModules<s.heap.objs.size:=by
 have h:mainGlobals<s.heap.objs.size:=(I.mod.glob.keeps I.bk).lt;exact Nat.lt_trans #v[0,9] h
theorem zrj {Q:Value->Shared->Prop} (hu:A.units+1 < cLine) (I:Inv X pins σ H s) (g:DGet H a y (some v)) (ry:RelV y u) (h:∀w' s',Inv X pins σ H s'->RelV v w'->Q w' s') :
  wpAny (model X.prog X.w) A (getItem (.ref a) u) Q E s:=by
 rcases g with⟨kvs,k,e,ey,l⟩|⟨kvs,k,b,e,ey,eb,l⟩
 ·subst ey;obtain⟨z,hd,vs,rel,dd⟩:=dk_rd I.hok e;obtain⟨w',hw,rw'⟩:=RelO.some_of (v:=v) (o:=valueAt vs k) (by rw[l];exact rel.val k);exact wpAny_getItem_of (zp8 ry) dd.mapOf hw (h w' _ (I.tok _) rw')
 ·subst ey;cases (show u=Value.ref b from ry);obtain⟨z,hd,xs,rel,dd⟩:=dt_rd I.hok e;obtain⟨w',hw,rw'⟩:=RelO.some_of (v:=v) (o:=(atKey xs k).map (·.2)) (by rw[l];exact rel.val k);obtain⟨p,hp,hp2⟩:=Eh.mp hw;refine wpAny_getItem_heap (Gc hu) (zg1 I.hok eb) dd hp ?_;rw[hp2];exact h w' _ (I.tok _) rw'
theorem d_in {Q:Value->Shared->Prop} (hu:A.units+1 < cLine) (I:Inv X pins σ H s) (g:DGet H a y o) (ry:RelV y u) (h:∀s',Inv X pins σ H s'->Q (.bool o.isSome) s') :
  wpAny (model X.prog X.w) A (compareOp .In u (.ref a)) Q E s:=by
 rcases g with⟨kvs,k,e,ey,l⟩|⟨kvs,k,b,e,ey,eb,l⟩
 ·subst ey;obtain⟨z,hd,vs,rel,dd⟩:=dk_rd I.hok e;refine wpAny_in_of (zp8 ry) hd dd.mapOf ?_;rw[<-(rel.val k).isSome_eq,<-l];exact h _ (I.tok _)
 ·subst ey;cases (show u=Value.ref b from ry);obtain⟨z,hd,xs,rel,dd⟩:=dt_rd I.hok e;refine wpAny_in_heap (Gc hu) (zg1 I.hok eb) hd dd ?_;have q:=(rel.val k).isSome_eq;rw[Option.isSome_map] at q;rw[<-q,<-l];exact h _ (I.tok _)
theorem zt5 {Q:Value->Shared->Prop} (hu:A.units+1 < cLine) (I:Inv X pins σ H s) (g:DGet H a y o) (ry:RelV y u) (h:∀s',Inv X pins σ H s'->Q (.bool (!o.isSome)) s') :
  wpAny (model X.prog X.w) A (compareOp .NotIn u (.ref a)) Q E s:=by
 rcases g with⟨kvs,k,e,ey,l⟩|⟨kvs,k,b,e,ey,eb,l⟩
 ·subst ey;obtain⟨z,hd,vs,rel,dd⟩:=dk_rd I.hok e;refine wpAny_notIn_of (zp8 ry) hd dd.mapOf ?_;rw[<-(rel.val k).isSome_eq,<-l];exact h _ (I.tok _)
 ·subst ey;cases (show u=Value.ref b from ry);obtain⟨z,hd,xs,rel,dd⟩:=dt_rd I.hok e;refine wpAny_notIn_heap (Gc hu) (zg1 I.hok eb) hd dd ?_;have q:=(rel.val k).isSome_eq;rw[Option.isSome_map] at q;rw[<-q,<-l];exact h _ (I.tok _)
theorem zfb {h' : Heap}{t' : Nat}{ob:HO} (I:Inv X pins σ H s) (mu:Mut (H a)) (hs:Heap.SameBut a s.heap h') (he:∃q,h'.get? a=some q) (new:ObjOk X.prog X.w (upd H a ob) h' a ob) :
  Inv X pins σ (upd H a ob) { s with heap:=h',toks:=t' } :=
 I.write (x:=a) (e:=a) mu (.inl rfl) (λb q hb z=>(hs.2 b hb).trans z) he new
theorem z3o {P:Program}{w:World}{H' : Hp}{h' : Heap}{kvs:List (Key × V)}{vs:List (Key × Value)} (z:kvs.length<=sizeLine) (hd:(a == sysModules)=false) (rel:KV kvs vs) (dd:h'.DictOf (zai P w) a vs) :
  ObjOk P w H' h' a (.dK kvs):=⟨z,hd,vs,rel,dd⟩
theorem d_setItem {H' : Hp}{Q:Unit->Shared->Prop} (hu:A.units+1 < cLine) (I:Inv X pins σ H s) (g:DPut H a y v H') (ry:RelV y u) (rv:RelV v r) (h:∀s',Inv X pins σ H' s'->Q () s') :
  wpAny (model X.prog X.w) A (setItem (.ref a) u r) Q E s:=by
 rcases g with⟨kvs,k,e,ey,l,eH⟩|⟨kvs,k,b,e,ey,eb,l,eH⟩
 ·subst ey eH;obtain⟨z,hd,vs,rel,dd⟩:=zz6 I.hok e;have hz:vs.length<=sizeLine:=by rw[<-rel.length];exact z
  have hl:(putK kvs k v).length<=sizeLine:=by have:=zd9 kvs k v;omega
  refine wpAny_setItem_pairs (hsz:=hz) (zp8 ry) dd λh' dd' hs=>h _ ?_;have he:∃q,h'.get? a=some q:=let ⟨q,_,_,hq,_⟩:=dd';⟨q,hq⟩;exact zfb I (by rw[e];exact True.intro) hs he (z3o hl hd (rel.put k rv) dd')
 ·subst ey eH;cases (show u=Value.ref b from ry);obtain⟨z,hd,xs,rel,dd⟩:=z5x I.hok e;have hz:xs.length<=sizeLine:=by rw[<-Paired.length rel];exact z
  have hl:(putK kvs k v).length<=sizeLine:=by have:=zd9 kvs k v;omega
  refine wpAny_setItem_heap (hsz:=hz) (Gc hu) (zg1 I.hok eb) dd λh' dd' hs=>h _ ?_;obtain⟨q,es,ep,hq,h2,h3,h4,_,h5⟩:=dd';refine zfb I (by rw[e];exact True.intro) hs ⟨q,hq⟩ ⟨hl,hd,_,(rel.put k eb rv).keeps λc ys ec=>?_,q,es,ep,hq,h2,h3,h4,h5⟩;rw[upd_ne (zrr ec e (λz=>nomatch z))];exact ec
end
section
variable {X:Cx}{pins:List (Addr × Obj)}{σ:St}{H:Hp}{s:Shared}{a:Addr}{kvs:List (Key × V)}{k:Key}{u:Value}{A:Around}{E:Value->Shared->Prop}
end
theorem zns {X:Cx}{pins:List (Addr × Obj)}{σ:St}{H:Hp}{s:Shared}{a:Addr}{y:V}{o:Option V}(I:Inv X pins σ H s)(g:DGet H a y o):s.TypeIs (.ref a) "dict" := by
 rcases g with⟨kvs,k,e,_,_⟩|⟨kvs,k,b,e,_,_,_⟩
 ·obtain⟨_,_,vs,_,dd⟩:=dk_rd I.hok e;exact dd.typeIs
 ·obtain⟨_,_,xs,_,dd⟩:=dt_rd I.hok e;exact dd.typeIs
section
variable {X:Cx}{o i e value:Expr}{pos pos' tpos:Pos}{td ty tv:TE}
end
theorem zya {P:Program}{w:World}{H:Hp}(h:Heap)(hb:sysModules<h.objs.size):ObjOk P w H (h.push { cls:=.type "dict",data:=.dict #[] }) h.objs.size (.dK []) :=
 ⟨Bj _,Gp.mpr (Ne.symm (Bc hb)),[],.nil,Heap.DictOf.new h⟩
theorem zxt {P:Program}{w:World}{H:Hp}(h:Heap)(hb:sysModules<h.objs.size):ObjOk P w H (h.push { cls:=.type "dict",data:=.dict #[] }) h.objs.size (.dT []) :=
 ⟨Bj _,Gp.mpr (Ne.symm (Bc hb)),[],.nil,_,#[],0,Ak _ rfl,⟨rfl,rfl,rfl⟩,rfl,rfl,Ga⟩
noncomputable def zza:TE:=λ_ H Q=>∀p,H p=none->Q (.ref p) (upd H p (.dK []))
section
variable {X:Cx}{pos:Pos}
theorem zxp:PE X (.Dict [] [] pos) zza:=λpins s σ H Q I h =>
 wpAny_Dict_empty ⟨.ref s.heap.objs.size,_,I.laid (a:=s.heap.objs.size) (o:=.dK []) (t':=s.toks) (λ_ _ q=>Ab _ q) (Af _) (zya s.heap I.big),rfl,h _ (I.hok.fresh (Af _))⟩
end
structure M2 (X:Cx) (o:Expr) (m:Str) (apos:Pos) (e f:Expr) (cpos:Pos):Prop where
 base:attributeBase o m X.env (eval o X.env)=eval o X.env
 few:((backTo cpos (starEach [e,f] X.env)).all (λx=>!x.1) && (backToKw cpos (keywordEach [] X.env)).all (λx=>x.1.isSome)
  && decide (([e,f]:List Expr).length+([]:List Keyword).length+(if ([]:List Keyword).isEmpty then 0 else 1)<30))=true
 line:(apos.endLine == cpos.line)=true
 trees:backTo cpos (starEach [e,f] X.env)=[(false,eval e X.env),(false,eval f X.env)]
noncomputable def IsD (H:Hp) (a:Addr):Prop:=(∃kvs,Rd H a (.dK kvs))\/∃kvs,Rd H a (.dT kvs)
theorem z29 {X:Cx}{pins:List (Addr × Obj)}{σ:St}{H:Hp}{s:Shared}{a:Addr} (I:Inv X pins σ H s) (d:IsD H a) :
  s.TypeIs (.ref a) "dict"/\(∀b,Value.ref a=.ref b->∃ob,s.heap.get? b=some ob/\ob.dict=none)/\(a == sysModules)=false:=by
 rcases d with⟨kvs,e⟩|⟨kvs,e⟩
 ·obtain⟨_,hd,vs,_,dd⟩:=dk_rd I.hok e;refine⟨dd.typeIs,λb q=>?_,hd⟩;cases q;obtain⟨ob,_,_,h1,h2,_⟩:=dd;exact⟨ob,h1,h2.2.1⟩
 ·obtain⟨_,hd,xs,_,dd⟩:=dt_rd I.hok e;refine⟨dd.typeIs,λb q=>?_,hd⟩;cases q;obtain⟨ob,_,_,h1,h2,_⟩:=dd;exact⟨ob,h1,h2.2.1⟩
section
variable {X:Cx}{pins:List (Addr × Obj)}{σ:St}{H:Hp}{s:Shared}{a:Addr}{y d:V}{u r:Value}{o:Option V}{A:Around}{E:Value->Shared->Prop}
theorem d_get2 {Q:Value->Shared->Prop} (hu:A.units+1 < cLine) (I:Inv X pins σ H s) (g:DGet H a y o) (ry:RelV y u) (rd:RelV d r) (h:∀w' s',Inv X pins σ H s'->RelV (o.getD d) w'->Q w' s') :
  wpAny (model X.prog X.w) A (call (.builtin "dict.get") [.ref a,u,r]) Q E s:=by
 rcases g with⟨kvs,k,e,ey,l⟩|⟨kvs,k,b,e,ey,eb,l⟩
 ·subst ey;obtain⟨z,hd,vs,rel,dd⟩:=dk_rd I.hok e;refine call_meetsIn PySem.F.slot_dict_get dd.typeIs PySem.F.entry_dict_get (PySem.F.args_dict_get_3 _ _ _) (meets_dict_get_default (zai X.prog X.w) a (zp8 ry) hd r) ⟨_,dd.mapOf,h _ _ (I.tok _) ?_⟩;rw[l];exact (rel.val k).getD rd
 ·subst ey;cases (show u=Value.ref b from ry);obtain⟨z,hd,xs,rel,dd⟩:=dt_rd I.hok e;refine call_meetsIn PySem.F.slot_dict_get dd.typeIs PySem.F.entry_dict_get (PySem.F.args_dict_get_3 _ _ _) (meetsH_dict_get_default (tupleKind (zai X.prog X.w)) a b hd r) ⟨Gc hu,k,xs,zg1 I.hok eb,dd,h _ _ (I.tok _) ?_⟩;rw[l];exact (rel.val k).getD rd
end
section
variable {X:Cx}{o e f:Expr}{apos cpos:Pos}{td ty tx:TE}
end
section
variable {X:Cx}{pins:List (Addr × Obj)}{σ:St}{H:Hp}{s:Shared}{a:Addr}{kvs:List (Key × V)}{A:Around}{E:Value->Shared->Prop}
end
section
variable {X:Cx}{pins:List (Addr × Obj)}{σ:St}{H:Hp}{s:Shared}{a:Addr}{y:V}{u:Value}{A:Around}{E:Value->Shared->Prop}
end
section
variable {X:Cx}
theorem z6g {bs:List Bool}{its:List Value}{i:Nat}{v:Value}(r:Vals (bs.map V.bl) its)(h:its[i]?=some v):∃b,bs[i]?=some b/\v=.bool b:=by
 have hl:=r.length;rw[Ac] at hl;have hi:i<bs.length:=by rw[hl];exact (Ai.mp h).1
 obtain⟨u,hu,ru⟩:=r.get (i:=i) (x:=.bl bs[i]) (by rw[Ap,Ae hi];rfl);rw[h] at hu;obtain rfl:=sI hu;exact⟨bs[i],Ae hi,ru⟩
theorem zh7 {bs:List Bool}{i:Nat}(hi:i<bs.length):bs.getD i false=bs[i]:=by rw[Ex,Ae hi];rfl
theorem zsz (bs:List Bool):((List.range bs.length).any λi=>bs.getD i false)=bs.any id:=by
 rw[Fo,List.any_eq_true,List.any_eq_true];constructor
 ·rintro ⟨i,hi,h⟩;rw[Bz] at hi;refine⟨bs[i],List.getElem_mem hi,?_⟩;rw[zh7 hi] at h;exact h
 ·rintro ⟨b,hb,h⟩;obtain⟨i,hi,e⟩:=Cm.mp hb;refine⟨i,Bz.mpr hi,?_⟩;rw[zh7 hi,e];exact h
theorem zr4 (bs:List Bool):((List.range bs.length).all λi=>bs.getD i false)=bs.all id:=by
 rw[Fo,Ay,Ay];constructor
 ·intro h b hb;obtain⟨i,hi,e⟩:=Cm.mp hb;have:=h i (Bz.mpr hi);rw[zh7 hi,e] at this;exact this
 ·intro h i hi;rw[Bz] at hi;rw[zh7 hi];exact h _ (List.getElem_mem hi)
theorem zn5 {P:Program}{w:World}{A:Around}{bs:List Bool}{its:List Value}(r:Vals (bs.map V.bl) its):TruthOf P w A (λi v=>its.toArray[i]?=some v) (λi=>bs.getD i false):=λi v s Q E hP hQ=>by
 obtain⟨b,hb,e⟩:=z6g r (by simpa using hP);subst e;have:bs.getD i false=b:=by rw[Ex,hb];rfl
 have hQ' : Q (bs.getD i false) s:=hQ;rw[this] at hQ';exact Hr hQ'
theorem zvt (hc:X.calm=true):zc2 X (.builtin "any") (λxs H Q=>∃(a:Addr) (bs:List Bool),xs=[.ref a]/\SqL X.K H a (bs.map V.bl)/\Q (.bl (bs.any id)) H):=by
 intro pins s σ H xs us Q I r h;obtain⟨a,bs,rfl,hq,q⟩:=h;obtain⟨u,rfl,rx⟩:=vals1 r;cases rx;obtain⟨its,rv,p,hz⟩:=I.list hq;have hl:=rv.length;rw[Ac] at hl;have ha:a<s.heap.objs.size:=by obtain⟨o,e,_⟩:=p.isList;exact Ao e
 refine call_any_walk (Gf p.isList ?_);refine⟨s.heap.objs.size,_,[s.heap.objs.size],its.toArray.size,_,_,_,rfl,Walks.list (A:=X.A.in1) (show X.A.in1.handled=none from I.ok.hd hc) _ a (Bc ha) its.toArray,⟨⟨_,Ak _ rfl,rfl,rfl⟩,p.isList.push _⟩,zn5 rv,λh' tk hk=>?_⟩;have e:its.toArray.size=bs.length:=by simp;omega
 rw[e,zsz];refine⟨.bl _,H,I.kept λb o hb=>?_,rfl,q⟩;exact hk b o (by intro z;rw[Aq] at z;subst z;exact absurd (Ao hb) (Cj _)) (Ab _ hb)
theorem zxh (hc:X.calm=true):zc2 X (.builtin "all") (λxs H Q=>∃(a:Addr) (bs:List Bool),xs=[.ref a]/\SqL X.K H a (bs.map V.bl)/\Q (.bl (bs.all id)) H):=by
 intro pins s σ H xs us Q I r h;obtain⟨a,bs,rfl,hq,q⟩:=h;obtain⟨u,rfl,rx⟩:=vals1 r;cases rx;obtain⟨its,rv,p,hz⟩:=I.list hq;have hl:=rv.length;rw[Ac] at hl;have ha:a<s.heap.objs.size:=by obtain⟨o,e,_⟩:=p.isList;exact Ao e
 refine call_all_walk (Gf p.isList ?_);refine⟨s.heap.objs.size,_,[s.heap.objs.size],its.toArray.size,_,_,_,rfl,Walks.list (A:=X.A.in1) (show X.A.in1.handled=none from I.ok.hd hc) _ a (Bc ha) its.toArray,⟨⟨_,Ak _ rfl,rfl,rfl⟩,p.isList.push _⟩,zn5 rv,λh' tk hk=>?_⟩;have e:its.toArray.size=bs.length:=by simp;omega
 rw[e,zr4];refine⟨.bl _,H,I.kept λb o hb=>?_,rfl,q⟩;exact hk b o (by intro z;rw[Aq] at z;subst z;exact absurd (Ao hb) (Cj _)) (Ab _ hb)
end
noncomputable def z3r (i j:Int):Prop:=Builtin.Int.intBits i<=2 ^ 20/\Builtin.Int.intBits j<=2 ^ 20
theorem z1q {X:Cx}:OpR X (binaryOp .Mult) (rI z3r λi j=>.int (i * j)):=opI λ_ _ _ _ _ _ _ hc q=>mul_int q (IntMulOk.of_bits hc.1 hc.2)
structure Cal (P:Program) (w:World) (K:PySem.W.Frag) (mg:Str->Option Value) (base:Heap) (n:Nat) (x:Str) (ps:List Str) (sp:Sp):Prop where
 ex:∃f fd,FnOk P w K mg base CX0 n f fd ps sp/\zl9 K fd ps []/\PySem.W.keepIn K (.ref f)=true/\mg x=some (.ref f)
theorem z26 {X:Cx}{n k:Nat}{x:Str}{ps:List Str}{sp:Sp}{e:Expr}{es:List Expr}{t:TA}{p pos:Pos} (C:Cal X.prog X.w X.K X.mg X.base n x ps sp) (hr:Room k X.A) (hg:Gl X x) (ha:PA X (e::es) t) (hk:n<=k:=by decide)
  (hdb:(x == ("__debug__" : Str))=false:=by decide) (hs:starEach (e::es) X.env=(false,eval e X.env)::starEach es X.env:=by rfl) (hpl:(backTo pos (starEach es X.env)).any (·.1)=false:=by rfl) :
  PE X (.Call (.Name x p) (e::es) [] pos) (z0j sp [] E0 t):=by
 nofun;obtain⟨f,fd,F,b,kp,m⟩:=C.ex;ac_rfl;exact zzx F (hr.mono hk) hg m kp b .nil z61 ha hdb hs hpl
theorem Same.new {p:Addr}{H:Hp}(h:H p=none)(o:HO):Same H (L2.upd H p o):=λb u e=>by rw[upd_ne (zab e h)];exact e
theorem SqL.of' {K:PySem.W.Frag}{H:Hp}{a:Addr}{xs:List V}(h:H a=some (.lst xs)):SqL K H a xs:=.inl (.inl h)
noncomputable def MM:Int:=2305843009213693951
noncomputable def big:Nat:=1099511627776
noncomputable def Bits (xs:List Int):Prop:=∀x∈xs,x=0\/x=1
theorem z4j:bootBuiltins "len" = some (.builtin "len"):=by decide +kernel
theorem z4n:bootBuiltins "abs" = some (.builtin "abs"):=by decide +kernel
theorem z6o:bootBuiltins "any" = some (.builtin "any"):=by decide +kernel
theorem z5g:bootBuiltins "all" = some (.builtin "all"):=by decide +kernel
theorem z57:bootBuiltins "sum" = some (.builtin "sum"):=by decide +kernel
theorem z6c:bootBuiltins "int" = some (.type "int"):=by decide +kernel
theorem zxw:bootBuiltins "tuple" = some (.type "tuple"):=by decide +kernel
theorem zsg:bootBuiltins "list" = some (.type "list"):=by decide +kernel
theorem zyi {w:Int}{i:Nat}(h0:0<w)(h:w<=2 ^ (200 * i)):0<w * 10 ^ 60/\w * 10 ^ 60<=2 ^ (200 * (i+1)):=by
 have e:(2:Int) ^ (200 * (i+1))=2 ^ (200 * i) * 2 ^ 200:=by rw[Nat.mul_add,Int.pow_add]
 rw[e];refine⟨Int.mul_pos h0 #v[0,9],?_⟩;have h1:w * 10 ^ 60<=2 ^ (200 * i) * 10 ^ 60:=Int.mul_le_mul_of_nonneg_right h #v[0,9];have h2:(2:Int) ^ (200 * i) * 10 ^ 60<=2 ^ (200 * i) * 2 ^ 200:=Int.mul_le_mul_of_nonneg_left #v[0,9] #v[];omega
theorem zh6 {w:Int}{i:Nat}(h0:0<=w)(h:w<=2 ^ (200 * i))(hi:i<=63):Builtin.Int.intBits w<=2 ^ 20:=by
 have h1:(2:Int) ^ (200 * i)<2 ^ (200 * i+1):=by rw[Int.pow_succ];have:(0:Int)<2 ^ (200 * i):=Int.pow_pos #v[0,9];omega
 have h2:w.natAbs<2 ^ (200 * i+1):=by
  have:((w.natAbs:Nat):Int)<((2 ^ (200 * i+1):Nat):Int):=by
   rw[Int.natCast_pow];have e:((w.natAbs:Nat):Int)=w:=by omega
   rw[e];exact Int.lt_of_le_of_lt h h1
  exact Int.ofNat_lt.mp this
 have:=PyProof.Rows.intBits_le h2;omega
noncomputable def zaf:Expr->Bool
 |.Starred ..=>false
 |_=>true
theorem zac {e:Expr}{es:List Expr}{env:Env}(h:zaf e=true):starEach (e::es) env=(false,eval e env)::starEach es env:=by
 cases e<;>first|rfl|(cases h)
theorem pac {X:Cx}{e:Expr}{es:List Expr}{te:TE}{t:TA}(ha:PE X e te)(hr:PA X es t)(h:zaf e=true:=by rfl):PA X (e::es) (zhd te t):=zja ha hr (zac h)
end L2
namespace L2
theorem noSome {α:Type}{a:α}{P:Prop}(h:none=some a):P:=by cases h
open PySem PySem.Spec PyProof.Rows
noncomputable abbrev DKey:=Key ⊕ List Key
inductive W where
 |non|bl (b:Bool)|int (i:Int)|str (x:Str)|tup (xs:List W)|lst (xs:List W)|frl (xs:List W)|dic|dct (ks:List DKey) (vs:List W)|dcz (ks:List DKey) (vs:List W)
 deriving BEq,Inhabited
mutual
inductive Rep (K:PySem.W.Frag) (F:Hp):W->V->Prop where
 |non:Rep K F .non .non
 |bl (b:Bool):Rep K F (.bl b) (.bl b)
 |int (i:Int):Rep K F (.int i) (.int i)
 |str (x:Str):Rep K F (.str x) (.str x)
 |tup {ws:List W}{a:Addr}{vs:List V} (h:F a=some (.tup vs)) (r:Reps K F ws vs):Rep K F (.tup ws) (.ref a)
 |lst {ws:List W}{a:Addr}{vs:List V} (h:F a=some (.lst vs)) (r:Reps K F ws vs):Rep K F (.lst ws) (.ref a)
 |frl {ws:List W}{a:Addr}{vs:List V} (h:SqL K F a vs) (r:Reps K F ws vs):Rep K F (.frl ws) (.ref a)
 |dic {a:Addr}{kvs:List (Key × V)} (h:F a=some (.dK kvs)):Rep K F .dic (.ref a)
 |dct {a:Addr}{ks:List Key}{ws:List W}{vs:List V} (h:F a=some (.dK (ks.zip vs))) (hl:ks.length=vs.length) (r:Reps K F ws vs):Rep K F (.dct (ks.map .inl) ws) (.ref a)
 |dctT {a:Addr}{ks:List (List Key)}{ws:List W}{vs:List V} (h:F a=some (.dT (ks.zip vs))) (hl:ks.length=vs.length) (r:Reps K F ws vs):Rep K F (.dct (ks.map .inr) ws) (.ref a)
 |dcz {a:Addr}{o:Obj}{ks:List Key}{ws:List W}{vs:List V} (h:F a=some (.frz o (.dK (ks.zip vs)))) (hl:ks.length=vs.length) (r:Reps K F ws vs):Rep K F (.dcz (ks.map .inl) ws) (.ref a)
 |dczT {a:Addr}{o:Obj}{ks:List (List Key)}{ws:List W}{vs:List V} (h:F a=some (.frz o (.dT (ks.zip vs)))) (hl:ks.length=vs.length) (r:Reps K F ws vs):Rep K F (.dcz (ks.map .inr) ws) (.ref a)
inductive Reps (K:PySem.W.Frag) (F:Hp):List W->List V->Prop where
 |nil:Reps K F [] []
 |cons {w:W}{v:V}{ws:List W}{vs:List V} (h:Rep K F w v) (r:Reps K F ws vs):Reps K F (w::ws) (v::vs)
end
theorem zdl {α:Type}{l:List α}{i j:Nat}{x y:α}(hi:i<l.length)(h:(l.set i x)[j]?=some y):(j=i/\y=x)\/(j≠i/\l[j]?=some y):=by
 by_cases e:j=i
 ·subst e;rw[Dn hi] at h;exact .inl ⟨rfl,(sI h).symm⟩
 ·rw[Df (Ne.symm e)] at h;exact .inr ⟨e,h⟩
theorem zx7 {α:Type}{l:List α}{i:Nat}{x:α}(h:l[i]?=some x):l.set i x=l:=by
 apply Dk;intro j;by_cases e:j=i
 ·subst e;rw[Dn (Ai.mp h).1,h]
 ·rw[Df (Ne.symm e)]
section
variable {K:PySem.W.Frag}{F F' H H' : Hp}
mutual
theorem Rep.mono (s:Same F F'):∀{w:W}{v:V},Rep K F w v->Rep K F' w v
 |_,_,.non=>.non
 |_,_,.bl b=>.bl b
 |_,_,.int i=>.int i
 |_,_,.str x=>.str x
 |_,_,.tup h r=>.tup (s _ _ h) (Reps.mono s r)
 |_,_,.lst h r=>.lst (s _ _ h) (Reps.mono s r)
 |_,_,.frl h r=>.frl (s.seq h) (Reps.mono s r)
 |_,_,.dic h=>.dic (s _ _ h)
 |_,_,.dct h hl r=>.dct (s _ _ h) hl (Reps.mono s r)
 |_,_,.dctT h hl r=>.dctT (s _ _ h) hl (Reps.mono s r)
 |_,_,.dcz h hl r=>.dcz (s _ _ h) hl (Reps.mono s r)
 |_,_,.dczT h hl r=>.dczT (s _ _ h) hl (Reps.mono s r)
theorem Reps.mono (s:Same F F'):∀{ws:List W}{vs:List V},Reps K F ws vs->Reps K F' ws vs
 |_,_,.nil=>.nil
 |_,_,.cons h r=>.cons (Rep.mono s h) (Reps.mono s r)
end
theorem Reps.length:∀{ws:List W}{vs:List V},Reps K F ws vs->ws.length=vs.length
 |_,_,.nil=>rfl
 |_,_,.cons _ r=>congrArg (· + 1) (Reps.length r)
theorem Reps.get:∀{ws:List W}{vs:List V}{i:Nat}{w:W},Reps K F ws vs->ws[i]?=some w->∃v,vs[i]?=some v/\Rep K F w v
  |_,_,_,_,.nil,e=>by simp at e
  |_,_,0,_,.cons h _,e=>by simp at e;subst e;exact⟨_,rfl,h⟩
  | _,_,i+1,w,.cons _ r,e=>by
    obtain⟨v,h1,h2⟩:=Reps.get (i:=i) (w:=w) r (by simpa using e);exact⟨v,by simpa using h1,h2⟩
theorem Reps.getV:∀{ws:List W}{vs:List V}{i:Nat}{v:V},Reps K F ws vs->vs[i]?=some v->∃w,ws[i]?=some w/\Rep K F w v
  |_,_,_,_,.nil,e=>by simp at e
  |_,_,0,_,.cons h _,e=>by simp at e;subst e;exact⟨_,rfl,h⟩
  | _,_,i+1,v,.cons _ r,e=>by
    obtain⟨w,h1,h2⟩:=Reps.getV (i:=i) (v:=v) r (by simpa using e);exact⟨w,by simpa using h1,h2⟩
theorem Reps.append:∀{xs ys:List W}{us ws:List V},Reps K F xs us->Reps K F ys ws->Reps K F (xs++ys) (us++ws)
 |_,_,_,_,.nil,s=>s
 |_,_,_,_,.cons h r,s=>.cons h (Reps.append r s)
theorem Reps.take:∀{xs:List W}{us:List V} (n:Nat),Reps K F xs us->Reps K F (xs.take n) (us.take n)
 |_,_,0,_=>.nil
 |_,_,_+1,.nil=>.nil
 |_,_,n+1,.cons h r=>.cons h (Reps.take n r)
theorem Reps.drop:∀{xs:List W}{us:List V} (n:Nat),Reps K F xs us->Reps K F (xs.drop n) (us.drop n)
 |_,_,0,r=>r
 |_,_,_+1,.nil=>.nil
 |_,_,n+1,.cons _ r=>Reps.drop n r
theorem Reps.set {w:W}{v:V}(h:Rep K F w v):∀{xs:List W}{us:List V} (i:Nat),Reps K F xs us->Reps K F (xs.set i w) (us.set i v)
 |_,_,_,.nil=>.nil
 |_,_,0,.cons _ r=>.cons h r
 |_,_,i+1,.cons q r=>.cons q (Reps.set h i r)
theorem Reps.rep {xs:List W}{us:List V}(r:Reps K F xs us):∀k:Nat,Reps K F (List.replicate k xs).flatten (List.replicate k us).flatten
 |0=>.nil
 |k+1=>by rw[Bi,Bi,Cy,Cy];exact r.append (r.rep k)
noncomputable def isIt:W->V->Prop
 |.int i,v=>v=.int i
 |.bl b,v=>v=.bl b
 |_,_=>True
theorem Rep.isIt {w:W}{v:V}(h:Rep K F w v):isIt w v:=by cases h<;>first|rfl|trivial
theorem Reps.uncons {w:W}{ws:List W}{vs:List V}(h:Reps K F (w::ws) vs):∃v us,vs=v::us/\Rep K F w v/\Reps K F ws us:=by
 cases h with
 |cons h r=>exact⟨_,_,rfl,h,r⟩
theorem Reps.ints:∀{ns:List Int}{vs:List V},Reps K F (ns.map W.int) vs->vs=ns.map V.int:=by
  intro ns
  induction ns with
  |nil=>intro vs h;cases h;rfl
  | cons n ns ih =>
    intro vs h;obtain⟨v,us,e,h1,h2⟩:=Reps.uncons h;rw[e,ih h2,show v=.int n from h1.isIt];rfl
theorem Reps.ofInts:∀(ns:List Int),Reps K F (ns.map W.int) (ns.map V.int)
 |[]=>.nil
 |n::ns=>.cons (.int n) (Reps.ofInts ns)
theorem Reps.bls:∀{bs:List Bool}{vs:List V},Reps K F (bs.map W.bl) vs->vs=bs.map V.bl:=by
  intro ns
  induction ns with
  |nil=>intro vs h;cases h;rfl
  | cons n ns ih =>
    intro vs h;obtain⟨v,us,e,h1,h2⟩:=Reps.uncons h;rw[e,ih h2,show v=.bl n from h1.isIt];rfl
noncomputable abbrev En:=List (Option (W × Bool))
noncomputable abbrev Prt:=Addr->HO->Prop
inductive OwnR (K:PySem.W.Frag) (F:Hp):W->HO->Prop where
 |lst {ws:List W}{vs:List V} (r:Reps K F ws vs):OwnR K F (.lst ws) (.lst vs)
 |dct {ks:List Key}{ws:List W}{vs:List V} (hl:ks.length=vs.length) (r:Reps K F ws vs):OwnR K F (.dct (ks.map .inl) ws) (.dK (ks.zip vs))
 |dctT {ks:List (List Key)}{ws:List W}{vs:List V} (hl:ks.length=vs.length) (r:Reps K F ws vs):OwnR K F (.dct (ks.map .inr) ws) (.dT (ks.zip vs))
theorem OwnR.mono {w:W}{o:HO}(s:Same F F')(h:OwnR K F w o):OwnR K F' w o:=by
 cases h with
 |lst r=>exact .lst (r.mono s)
 |dct hl r=>exact .dct hl (r.mono s)
 |dctT hl r=>exact .dctT hl (r.mono s)
theorem OwnR.rep {w:W}{o:HO}{a:Addr}(h:OwnR K F w o)(e:F a=some o):Rep K F w (.ref a):=by
 cases h with
 |lst r=>exact .lst e r
 |dct hl r=>exact .dct e hl r
 |dctT hl r=>exact .dctT e hl r
theorem OwnR.list {ws:List W}{o:HO}(h:OwnR K F (.lst ws) o):∃vs,o=.lst vs/\Reps K F ws vs:=by
 cases h with
 |lst r=>exact⟨_,rfl,r⟩
noncomputable def lams:List Str:=["_law_terms","_law_in_order","_law_poly_of","voted_terms","law"]
noncomputable def lamQ (x:Str):Str:=x++".<locals>."++"<lambda>"
noncomputable def zdd (c:Addr) (q:Str) (h:Heap):Prop:=∃oc vs t,h.get? c=some oc/\oc.data=.fields vs/\vs[1]?=some (.str q t)
noncomputable def z2u (K:PySem.W.Frag):Prop:=∀x∈lams,∀x'∈lams,∀c c' P,PySem.W.tabIn K x=some (c,P)->PySem.W.tabIn K x'=some (c',P)->x=x'
noncomputable def NoT (pr:Prt):Prop:=∀b xs,¬ pr b (.tup xs)
noncomputable def zq0 (K:PySem.W.Frag) (F:Hp) (pr:Prt) (H:Hp):Prop:=(z2u K/\NoT pr)/\∀x∈lams,∀c P,PySem.W.tabIn K x=some (c,P)->∃ps:Array Value,H P=some (.tbl ps)/\F P=none/\(∀o,¬ pr P o)/\TriplesOk ps.toList /\
 ∀pos cv,codeAmong pos ps.toList=some cv->∃c',cv=.ref c'/\F c'=some (.ext (zdd c' (lamQ x)))
theorem zq0.go {F F' H H' : Hp}{pr pr' : Prt}(T:zq0 K F pr H)(h4:∀b xs,pr' b (.tup xs)->pr b (.tup xs))(h1:∀b ps,H b=some (.tbl ps)->F b=none->H' b=some (.tbl ps)/\F' b=none)(h2:Same F F')(h3:∀b ps,H b=some (.tbl ps)->(∀o,¬ pr b o)->∀o,¬ pr' b o):zq0 K F' pr' H':=⟨⟨T.1.1,λb xs z=>T.1.2 b xs (h4 b xs z)⟩,λx hx c P e=>by
 nofun;obtain⟨ps,a1,a2,a3,a4,a5⟩:=T.2 x hx c P e;ac_rfl;refine⟨ps,(h1 P ps a1 a2).1,(h1 P ps a1 a2).2,h3 P ps a1 a3,a4,λpos cv q=>?_⟩;obtain⟨c',b1,b2⟩:=a5 pos cv q;exact⟨c',b1,h2 _ _ b2⟩⟩
structure Rel (K:PySem.W.Frag) (F:Hp) (pr:Prt) (en:En) (σ:St) (H:Hp):Prop where
 len:en.length=σ.length
 sub:Same F H
 val:∀(i:Nat) (w:W),en[i]?=some (#v[w,6])->∃v,σ[i]?=some (some v)/\Rep K F w v
 own:∀(i:Nat) (w:W),en[i]?=some (#v[w,5])->∃(a:Addr) (o:HO) (w' : W),w=w'/\σ[i]?=some (some (V.ref a))/\H a=some o/\F a=none/\OwnR K F w' o
 inj:∀(i j:Nat) (a:Addr) (w w' : W),en[i]?=some (#v[w,5])->en[j]?=some (#v[w',5])->σ[i]?=some (some (V.ref a))->σ[j]?=some (some (V.ref a))->i=j
 prt:∀b o,pr b o->H b=some o/\F b=none/\∀(i:Nat) (w:W),en[i]?=some (#v[w,5])->σ[i]?≠some (some (V.ref b))
 tb:zq0 K F pr H
noncomputable def Res (K:PySem.W.Frag) (F H:Hp) (pr:Prt) (en:En) (σ:St):W × Bool->V->Prop
 |(w,false),v=>Rep K F w v
 |(w,true),v=>∃(a:Addr) (o:HO) (w' : W),w=w'/\v=V.ref a/\H a=some o/\F a=none/\OwnR K F w' o/\(∀(i:Nat) (w' : W),en[i]?=some (#v[w',5])->σ[i]?≠some (some (V.ref a)))/\∀b o,pr b o->b≠a
noncomputable def RepB (K:PySem.W.Frag) (F H:Hp) (w:W) (v:V):Prop:=Rep K F w v\/∃(a:Addr) (o:HO) (w' : W),w=w'/\v=V.ref a/\H a=some o/\OwnR K F w' o
inductive Out (K:PySem.W.Frag) (F H:Hp):W × Bool->V->Hp->Prop where
 |val {w:W}{v:V} (r:Rep K F w v):Out K F H (w,false) v H
 |lst {p:Addr}{ws:List W}{vs:List V} (n:H p=none) (r:Reps K F ws vs):Out K F H (.lst ws,true) (.ref p) (upd H p (.lst vs))
 |tup {p:Addr}{ws:List W}{vs:List V} (n:H p=none) (r:Reps K F ws vs):Out K F H (.tup ws,false) (.ref p) (upd H p (.tup vs))
theorem Same.upd_both {F H:Hp}(s:Same F H)(p:Addr)(o:HO):Same (upd F p o) (upd H p o):=λb u e=>by
 by_cases hb:b=p
 ·subst hb;rw[upd_same] at e ⊢;exact e
 ·rw[upd_ne hb] at e ⊢;exact s _ _ e
variable {pr:Prt}{en:En}{σ:St}
theorem Rel.lay (R:Rel K F pr en σ H){p:Addr}(hp:H p=none)(o:HO):Rel K F pr en σ (upd H p o):=by
 have ne:∀a u,H a=some u->a≠p:=λa u e=>zab e hp;refine⟨R.len,R.sub.trans (Same.new hp o),R.val,λi w e=>?_,R.inj,λq o2 hq=>?_,R.tb.go (λ_ _ z=>z) (λb ps e f=>⟨by rw[upd_ne (ne b _ e)];exact e,f⟩) (.refl F) λb ps e h=>h⟩
 ·refine aG λGg qG => ?_;obtain⟨a,vs,ws,h1,h2,h3,h4,h5⟩:=R.own i w e;ac_rfl;exact⟨a,vs,ws,h1,h2,by rw[upd_ne (ne a _ h3)];exact h3,h4,h5⟩
 ·obtain⟨h1,h2,h3⟩:=R.prt q o2 hq;exact⟨by rw[upd_ne (ne _ _ h1)];exact h1,h2,h3⟩
theorem Rel.layF (R:Rel K F pr en σ H){p:Addr}(hp:H p=none)(o:HO):Rel K (upd F p o) pr en σ (upd H p o):=by
 have ne:∀a u,H a=some u->a≠p:=λa u e=>zab e hp;have fp:F p=none:=R.sub.free hp;have s:Same F (upd F p o):=Same.new fp o;refine⟨R.len,R.sub.upd_both p o,λi w e=>?_,λi w e=>?_,R.inj,λq o2 hq=>?_,R.tb.go (λ_ _ z=>z) (λb ps e f=>⟨by rw[upd_ne (ne b _ e)];exact e,by rw[upd_ne (ne b _ e)];exact f⟩) s λb ps e h=>h⟩
 ·obtain⟨v,h1,h2⟩:=R.val i w e;exact⟨v,h1,h2.mono s⟩
 ·refine aG λGg qG => ?_;obtain⟨a,vs,ws,h1,h2,h3,h4,h5⟩:=R.own i w e;ac_rfl;exact⟨a,vs,ws,h1,h2,by rw[upd_ne (ne a _ h3)];exact h3,by rw[upd_ne (ne a _ h3)];exact h4,h5.mono s⟩
 ·obtain⟨h1,h2,h3⟩:=R.prt q o2 hq;exact⟨by rw[upd_ne (ne _ _ h1)];exact h1,by rw[upd_ne (ne _ _ h1)];exact h2,h3⟩
theorem Out.close {r:W × Bool}{v:V} (R:Rel K F pr en σ H) (o:Out K F H r v H'):∃F',Same F F'/\Rel K F' pr en σ H'/\Res K F' H' pr en σ r v:=by
  cases o with
  |val r=>exact⟨F,.refl F,R,r⟩
  | @lst p ws vs n r =>
    refine⟨F,.refl F,R.lay n _,p,_,_,rfl,rfl,upd_same,R.sub.free n,.lst r,λi w' e z=>?_,λq o2 hq z=>?_⟩
    · obtain ⟨a, vs, ws, h1, h2, h3, h4, h5⟩ := R.own i w' e
      rw[h2] at z;cases z;rw[n] at h3;exact noSome h3
    · have := (R.prt q o2 hq).1
      rw[z,n] at this;exact noSome this
  |@tup p ws vs n r=>exact⟨upd F p (.tup vs),Same.new (R.sub.free n) _,R.layF n _,.tup upd_same (r.mono (Same.new (R.sub.free n) _))⟩
theorem Out.mono {r:W × Bool}{v:V}(s:Same F F')(o:Out K F H r v H'):Out K F' H r v H':=by
 cases o with
 |val r=>exact .val (r.mono s)
 |lst n r=>exact .lst n (r.mono s)
 |tup n r=>exact .tup n (r.mono s)
theorem Res.freeze {r:W × Bool}{v:V} (R:Rel K F pr en σ H) (h:Res K F H pr en σ r v):∃F',Same F F'/\Rel K F' pr en σ H/\Rep K F' r.1 v:=by
  obtain⟨w,b⟩:=r;cases b with
  |false=>exact⟨F,.refl F,R,h⟩
  | true =>
    nofun;obtain⟨a,vs,ws,rfl,rfl,h1,h2,h3,h4,h5⟩:=h;ac_rfl;have s:Same F (upd F a vs):=Same.new h2 _;have nt:∀ps,vs≠.tbl ps:=λps z=>by cases h3<;>cases z
    refine⟨upd F a vs,s,⟨R.len,λb u e=>?_,λi w e=>?_,λi w e=>?_,R.inj,λq o2 hq=>?_,R.tb.go (λ_ _ z=>z) (λb ps e f=>⟨e,by rw[upd_ne (λz=>by subst z;rw[h1] at e;exact nt ps (sI e))];exact f⟩) s λb ps e h=>h⟩,(h3.mono s).rep upd_same⟩
    · by_cases hb : b = a
      · subst hb;rw[upd_same] at e;obtain rfl:=sI e;exact h1
      · rw[upd_ne hb] at e;exact R.sub _ _ e
    · obtain ⟨v, q1, q2⟩ := R.val i w e
      exact⟨v,q1,q2.mono s⟩
    · refine aG fun Gg qG => ?_
      obtain⟨a',vs',ws',q1,q2,q3,q4,q5⟩:=R.own i w e;ac_rfl;have ne:a'≠a:=λz=>by subst z;exact h4 i w e q2
      exact⟨a',vs',ws',q1,q2,q3,by rw[upd_ne ne];exact q4,q5.mono s⟩
    · obtain ⟨q1, q2, q3⟩ := R.prt q o2 hq
      exact⟨q1,by rw[upd_ne (h5 q o2 hq)];exact q2,q3⟩
theorem Rel.freeze (R:Rel K F pr en σ H) {i:Nat}{w:W}{v:V}{fl:Bool} (e:en[i]?=some (some (w,fl))) (hv:σ[i]?=some (some v)):∃F',Same F F'/\Rel K F' pr (en.set i (some (w,false))) σ H/\Rep K F' w v:=by
  have hi:i<en.length:=(Ai.mp e).1;cases fl with
  | false =>
    obtain⟨v',h1,h2⟩:=R.val i w e;rw[hv] at h1;cases h1;refine⟨F,.refl F,?_,h2⟩;rw[zx7 e];exact R
  | true =>
    nofun;obtain⟨a,vs,ws,e0,h2,h3,h4,h5⟩:=R.own i w e;ac_rfl;subst e0;rw[hv] at h2;cases h2;have s:Same F (upd F a vs):=Same.new h4 _;have nt:∀ps,vs≠.tbl ps:=λps z=>by cases h5<;>cases z
    have g:∀j w' b,(en.set i (some (w,false)))[j]?=some (some (w',b))->(j=i/\w'=w/\b=false)\/(j≠i/\en[j]?=some (some (w',b))):=fun j w' b h=>by
      rcases zdl hi h with⟨z,q⟩|z
      · cases q;exact .inl ⟨z,rfl,rfl⟩
      · exact .inr z
    refine⟨upd F a vs,s,⟨by rw[Dm];exact R.len,λb u e'=>?_,λj w' e'=>?_,λj w' e'=>?_,λj k b w1 w2 e1 e2=>?_,λq o2 hq=>?_,R.tb.go (λ_ _ z=>z) (λb ps e f=>⟨e,by rw[upd_ne (λz=>by subst z;rw[h3] at e;exact nt ps (sI e))];exact f⟩) s λb ps e h=>h⟩,(h5.mono s).rep upd_same⟩
    · by_cases hb : b = a
      · subst hb;rw[upd_same] at e';obtain rfl:=sI e';exact h3
      · rw[upd_ne hb] at e';exact R.sub _ _ e'
    · rcases g j w' false e' with ⟨rfl, rfl, _⟩ | ⟨_, z⟩
      · exact⟨_,hv,(h5.mono s).rep upd_same⟩
      · obtain ⟨v', q1, q2⟩ := R.val j w' z
        exact⟨v',q1,q2.mono s⟩
    · rcases g j w' true e' with ⟨_, _, z⟩ | ⟨ne, z⟩
      · cases z
      · refine aG fun Gg qG => ?_
        obtain⟨a',vs',ws',q1,q2,q3,q4,q5⟩:=R.own j w' z;ac_rfl;have ne2:a'≠a:=λq=>by subst q;exact ne (R.inj j i a' _ _ z e q2 hv)
        exact⟨a',vs',ws',q1,q2,q3,by rw[upd_ne ne2];exact q4,q5.mono s⟩
    · rcases g j w1 true e1 with ⟨_, _, z⟩ | ⟨_, z1⟩
      · cases z
      · rcases g k w2 true e2 with ⟨_, _, z⟩ | ⟨_, z2⟩
        · cases z
        · exact R.inj j k b _ _ z1 z2
    · obtain ⟨q1, q2, q3⟩ := R.prt q o2 hq
      have ne:q≠a:=fun z=>by
        have:=q3 i _ e;rw[hv,z] at this;exact this rfl
      refine⟨q1,by rw[upd_ne ne];exact q2,λj w' e'=>?_⟩;rcases g j w' true e' with⟨_,_,z⟩|⟨_,z⟩
      · cases z
      · exact q3 j w' z
theorem Rel.repB (R:Rel K F pr en σ H) {i:Nat}{w:W}{fl:Bool}{v:V} (e:en[i]?=some (some (w,fl))) (hv:σ[i]?=some (some v)):RepB K F H w v:=by
  cases fl with
  | false =>
    obtain⟨v',h1,h2⟩:=R.val i w e;rw[hv] at h1;cases h1;exact .inl h2
  | true =>
    nofun;obtain⟨a,o,ws,h1,h2,h3,h4,h5⟩:=R.own i w e;ac_rfl;rw[hv] at h2;cases h2;exact .inr ⟨a,o,ws,h1,rfl,h3,h5⟩
theorem Rel.has (R:Rel K F pr en σ H){i:Nat}{w:W}{fl:Bool}(e:en[i]?=some (some (w,fl))):∃v,σ[i]?=some (some v):=by
 cases fl with
 |false=>obtain⟨v,h,_⟩:=R.val i w e;exact⟨v,h⟩
 |true=>obtain⟨a,_,_,_,h,_⟩:=R.own i w e;exact⟨_,h⟩
theorem Rel.store (R:Rel K F pr en σ H){i:Nat}{r:W × Bool}{v:V}(h:Res K F H pr en σ r v)(hi:i<en.length):Rel K F pr (en.set i (some r)) (σ.set i (some v)) H:=by
 have hi' : i<σ.length:=by rw[<-R.len];exact hi
 have g:∀j x,(en.set i (some r))[j]?=some (some x)->(j=i/\x=r)\/(j≠i/\en[j]?=some (some x)):=λj x h=>by
  rcases zdl hi h with⟨z,q⟩|z
  ·obtain rfl:=sI q;exact .inl ⟨z,rfl⟩
  ·exact .inr z
 have s1:(σ.set i (some v))[i]?=some (some v):=Dn hi';have s2:∀j,j≠i->(σ.set i (some v))[j]?=σ[j]?:=λj hj=>Df (Ne.symm hj);refine⟨by rw[Dm,Dm];exact R.len,R.sub,λj w e=>?_,λj w e=>?_,λj k a w1 w2 e1 e2=>?_,λq o2 hq=>?_,R.tb⟩
 ·rcases g j _ e with⟨rfl,z⟩|⟨hj,z⟩
  ·subst z;exact⟨v,s1,h⟩
  ·rw[s2 j hj];exact R.val j w z
 ·rcases g j _ e with⟨rfl,z⟩|⟨hj,z⟩
  ·subst z;obtain⟨a,vs,ws,h1,h2,h3,h4,h5,_⟩:=h;exact⟨a,vs,ws,h1,by rw[s1,h2],h3,h4,h5⟩
  ·rw[s2 j hj];exact R.own j w z
 ·intro q1 q2;rcases g j _ e1 with⟨rfl,z1⟩|⟨hj,z1⟩
  ·rcases g k _ e2 with⟨rfl,z2⟩|⟨hk,z2⟩
   ·rfl
   ·subst z1;obtain⟨a',vs,ws,h1,h2,h3,h4,h5,h6,_⟩:=h;rw[s1,h2] at q1;cases q1;rw[s2 k hk] at q2;exact absurd q2 (h6 k _ z2)
  ·rcases g k _ e2 with⟨rfl,z2⟩|⟨hk,z2⟩
   ·subst z2;obtain⟨a',vs,ws,h1,h2,h3,h4,h5,h6,_⟩:=h;rw[s1,h2] at q2;cases q2;rw[s2 j hj] at q1;exact absurd q1 (h6 j _ z1)
   ·rw[s2 j hj] at q1; rw[s2 k hk] at q2;exact R.inj j k a _ _ z1 z2 q1 q2
 ·obtain⟨q1,q2,q3⟩:=R.prt q o2 hq;refine⟨q1,q2,λj w e=>?_⟩;rcases g j _ e with⟨rfl,z⟩|⟨hj,z⟩
  ·subst z;obtain⟨a',vs,ws,h1,h2,h3,h4,h5,h6,h7⟩:=h;rw[s1,h2];intro q';cases q';exact h7 q o2 hq rfl
  ·rw[s2 j hj];exact q3 j w z
theorem Rel.changeO (R:Rel K F pr en σ H){i:Nat}{w w0:W}{a:Addr}{o0:HO}(e:en[i]?=some (#v[w,5]))(hv:σ[i]?=some (some (.ref a)))(r:OwnR K F w0 o0):Rel K F pr (en.set i (#v[w0,5])) σ (upd H a o0):=by
 have hi:i<en.length:=(Ai.mp e).1;nofun;obtain⟨a0,vs,ws,h1,h2,h3,h4,h5⟩:=R.own i w e;ac_rfl;rw[hv] at h2;cases h2;have nt:∀ps,vs≠.tbl ps:=λps z=>by cases h5<;>cases z
 have nx:∀φ,vs≠.ext φ:=λps z=>by cases h5<;>cases z
 have g:∀j x,(en.set i (#v[w0,5]))[j]?=some (some x)->(j=i/\x=(w0,true))\/(j≠i/\en[j]?=some (some x)):=λj x h=>by
  rcases zdl hi h with⟨z,q⟩|z
  ·obtain rfl:=sI q;exact .inl ⟨z,rfl⟩
  ·exact .inr z
 refine⟨by rw[Dm];exact R.len,λb u hb=>?_,λj w' e'=>?_,λj w' e'=>?_,λj k b w1 w2 e1 e2 q1 q2=>?_,λq o2 hq=>?_,R.tb.go (λ_ _ z=>z) (λb ps e f=>⟨by rw[upd_ne (λz=>by subst z;rw[h3] at e;exact nt ps (sI e))];exact e,f⟩) (.refl F) λb ps e h=>h⟩
 ·have : b ≠ a:=λz=>by subst z; rw[h4] at hb; cases hb
  rw[upd_ne this];exact R.sub _ _ hb
 ·rcases g j _ e' with⟨_,z⟩|⟨_,z⟩
  ·cases z
  ·exact R.val j w' z
 ·rcases g j _ e' with⟨rfl,z⟩|⟨hj,z⟩
  ·cases z;exact⟨a,o0,w0,rfl,hv,upd_same,h4,r⟩
  ·refine aG λGg qG => ?_;obtain⟨a',vs2,ws2,q1,q2,q3,q4,q5⟩:=R.own j w' z;ac_rfl;have ne:a'≠a:=λz'=>by subst z';exact hj (R.inj j i a' _ _ z e q2 hv)
   exact⟨a',vs2,ws2,q1,q2,by rw[upd_ne ne];exact q3,q4,q5⟩
 ·have z1:∃w0,en[j]?=some (some (w0,true)):=by
   rcases g j _ e1 with⟨rfl,_⟩|⟨_,z⟩
   ·exact⟨_,e⟩
   ·exact⟨_,z⟩
  have z2:∃w0,en[k]?=some (#v[w0,5]):=by
   rcases g k _ e2 with⟨rfl,_⟩|⟨_,z⟩
   ·exact⟨_,e⟩
   ·exact⟨_,z⟩
  obtain⟨_,z1⟩:=z1;obtain⟨_,z2⟩:=z2;exact R.inj j k b _ _ z1 z2 q1 q2
 ·obtain ⟨q1, q2, q3⟩ := R.prt q o2 hq;have ne:q≠a:=fun z=>by
   have:=q3 i _ e;rw[hv,z] at this;exact this rfl
  refine⟨by rw[upd_ne ne];exact q1,q2,λj w' e'=>?_⟩;rcases g j _ e' with⟨rfl,_⟩|⟨_,z⟩
  ·exact q3 j _ e
  ·exact q3 j w' z
theorem Rel.change (R:Rel K F pr en σ H){i:Nat}{w:W}{a:Addr}{ws' : List W}{vs' : List V}(e:en[i]?=some (#v[w,5]))(hv:σ[i]?=some (some (.ref a)))(r:Reps K F ws' vs'):Rel K F pr (en.set i (#v[ws',2])) σ (upd H a (.lst vs')):=R.changeO e hv (.lst r)
theorem Rel.ownL (R:Rel K F pr en σ H){i:Nat}{ws:List W}(e:en[i]?=some (#v[ws,2])):∃(a:Addr) (vs:List V) (ws' : List W),W.lst ws=.lst ws'/\σ[i]?=some (some (V.ref a))/\H a=some (.lst vs)/\F a=none/\Reps K F ws' vs:=by
 nofun;obtain⟨a,o,w',e1,h2,h3,h4,h5⟩:=R.own i _ e;ac_rfl;subst e1;obtain⟨vs,rfl,r⟩:=h5.list;exact⟨a,vs,ws,rfl,h2,h3,h4,r⟩
theorem Rel.guard (R:Rel K F pr en σ H){p:Addr}(hp:H p=none)(o:HO)(no:∀xs,o≠.tup xs):Rel K F (λb u=>pr b u\/(b=p/\u=o)) en σ (upd H p o):=by
 have L:=R.lay hp o;refine⟨L.len,L.sub,L.val,L.own,L.inj,λb u h=>?_,R.tb.go (λb xs z=>z.elim id λz=>absurd z.2.symm (no xs)) (λb ps e f=>⟨by rw[upd_ne (zab e hp)];exact e,f⟩) (.refl F) λb ps e h o z=>z.elim (h o) λz=>zab e hp z.1⟩;rcases h with h|⟨rfl,rfl⟩
 ·exact L.prt b u h
 ·refine⟨upd_same,R.sub.free hp,λi w e z => ?_⟩;obtain⟨a,vs,ws,h1,h2,h3,h4,h5⟩:=R.own i w e;rw[h2] at z;cases z;rw[hp] at h3;exact noSome h3
end
end L2
namespace L2
open PySem PySem.Spec PyProof.Rows
noncomputable abbrev GE:=En->Option (En × (W × Bool))
noncomputable abbrev GA:=En->Option (En × (W ⊕ Nat))
noncomputable abbrev GT:=En->Option (En × Bool)
noncomputable abbrev GAs:=En->Option (En × List (W ⊕ Nat))
noncomputable abbrev GL:=En->Option (En × List W)
noncomputable def ArgR (K:PySem.W.Frag) (F:Hp) (σ:St):W ⊕ Nat->V->Prop
 |.inl w,v=>Rep K F w v
 |.inr i,v=>σ[i]?=some (some v)
inductive ArgRs (K:PySem.W.Frag) (F:Hp) (σ:St):List (W ⊕ Nat)->List V->Prop where
 |nil:ArgRs K F σ [] []
 |cons {x:W ⊕ Nat}{v:V}{xs:List (W ⊕ Nat)}{vs:List V} (h:ArgR K F σ x v) (r:ArgRs K F σ xs vs):ArgRs K F σ (x::xs) (v::vs)
noncomputable def resA (en:En):W ⊕ Nat->Option W
  |.inl w=>some w
  | .inr i=>match en[i]? with
    |some (some (w,_))=>some w
    |_=>none
section
variable {K:PySem.W.Frag}{F F' H:Hp}{pr:Prt}{en:En}{σ:St}
theorem ArgR.mono (s:Same F F'){x:W ⊕ Nat}{v:V}(h:ArgR K F σ x v):ArgR K F' σ x v:=by
 cases x with
 |inl w=>exact Rep.mono s h
 |inr i=>exact h
theorem ArgR.repB (R:Rel K F pr en σ H) {x:W ⊕ Nat}{v:V}{w:W} (h:ArgR K F σ x v) (e:resA en x=some w):RepB K F H w v:=by
  cases x with
  |inl u=>obtain rfl:=sI e;exact .inl h
  | inr i =>
    unfold resA at e;cases q:en[i]? with
    |none=>simp only [q] at e;exact noSome e
    | some o =>
      cases o with
      |none=>simp only [q] at e;exact noSome e
      | some p =>
        obtain⟨u,fl⟩:=p;simp only [q] at e;obtain rfl:=sI e;exact R.repB q h
end
noncomputable def tE (K:PySem.W.Frag) (g:GE):TE:=λσ H Q=>∃F pr en en' r,Rel K F pr en σ H/\g en=some (en',r)/\∀F' H' v,Same F F'->Rel K F' pr en' σ H'->Res K F' H' pr en' σ r v->Q v H'
noncomputable def tA (K:PySem.W.Frag) (g:GA):TE:=λσ H Q=>∃F pr en en' x,Rel K F pr en σ H/\g en=some (en',x)/\∀F' H' v,Same F F'->Rel K F' pr en' σ H'->ArgR K F' σ x v->Q v H'
noncomputable def tT (K:PySem.W.Frag) (g:GT):TT:=λσ H Q=>∃F pr en en' b,Rel K F pr en σ H/\g en=some (en',b)/\∀F' H',Same F F'->Rel K F' pr en' σ H'->Q b H'
noncomputable def tAs (K:PySem.W.Frag) (g:GAs):TA:=λσ H Q=>∃F pr en en' xs,Rel K F pr en σ H/\g en=some (en',xs)/\∀F' H' vs,Same F F'->Rel K F' pr en' σ H'->ArgRs K F' σ xs vs->Q vs H'
theorem PE.wk {X:Cx}{e:Expr}{t t' : TE}(h:PE X e t)(i:∀σ H Q,t' σ H Q->t σ H Q):PE X e t':=λpins s σ H Q I q=>h pins s σ H Q I (i σ H Q q)
theorem PT.wk {X:Cx}{e:Expr}{t t' : TT}(h:PT X e t)(i:∀σ H Q,t' σ H Q->t σ H Q):PT X e t':=λpins s σ H Q I q=>h pins s σ H Q I (i σ H Q q)
theorem PW.wk {X:Cx}{e:Expr}{t t' : TT}(h:PW X e t)(i:∀σ H Q,t' σ H Q->t σ H Q):PW X e t':=λwh pins s σ H Q I q=>h wh pins s σ H Q I (i σ H Q q)
theorem PA.wk {X:Cx}{es:List Expr}{t t' : TA}(h:PA X es t)(i:∀σ H Q,t' σ H Q->t σ H Q):PA X es t':=λpos pins s σ H Q I q=>h pos pins s σ H Q I (i σ H Q q)
theorem PS.wk {X:Cx}{st:Stmt}{t t' : TS}(h:PS X st t)(i:∀D σ H,t' D σ H->t D σ H):PS X st t':=λpins s σ H D I q=>h pins s σ H D I (i D σ H q)
theorem PSs.wk {X:Cx}{st:List Stmt}{t t' : TS}(h:PSs X st t)(i:∀D σ H,t' D σ H->t D σ H):PSs X st t':=λpins s σ H D I q=>h pins s σ H D I (i D σ H q)
theorem PI.wk {X:Cx}{tg e:Expr}{t t' : TI}(h:PI X tg e t)(i:∀σ H R,t' σ H R->t σ H R):PI X tg e t':=λpins s σ H R I q=>h pins s σ H R I (i σ H R q)
noncomputable def gVar (i:Nat):GE:=λen=>match en[i]? with
 |some (some (w,_))=>some (en.set i (#v[w,6]),(w,false))
 |_=>none
noncomputable def zaa (i:Nat):GA:=λen=>match en[i]? with
 |some (#v[w,5])=>some (en,.inr i)
 |some (#v[w,6])=>some (en,.inl w)
 |_=>none
noncomputable def gC (w:W):GE:=λen=>some (en,(w,false))
noncomputable def gArg (g:GE):GA:=λen=>(g en).bind λp=>some (p.1,.inl p.2.1)
noncomputable def gA0:GAs:=λen=>some (en,[])
noncomputable def gCns (a:GA) (as:GAs):GAs:=λen=>(a en).bind λp=>(as p.1).bind λq=>some (q.1,p.2::q.2)
noncomputable def gOp1 (o:W->Option (W × Bool)) (a:GA):GE:=λen=>(a en).bind λp=>(resA p.1 p.2).bind λw=>(o w).bind λr=>some (p.1,r)
noncomputable def gOp2 (o:W->W->Option (W × Bool)) (a b:GA):GE:=λen=>(a en).bind λp=>(b p.1).bind λq=>(resA q.1 p.2).bind λw=>(resA q.1 q.2).bind λu=>(o w u).bind λr=>some (q.1,r)
noncomputable def za6 (en:En):List (W ⊕ Nat)->Option (List W)
 |[]=>some []
 |x::xs=>(resA en x).bind λw=>(za6 en xs).bind λws=>some (w::ws)
noncomputable def gOpN (o:List W->Option (W × Bool)) (as:GAs):GE:=λen=>(as en).bind λp=>(za6 p.1 p.2).bind λws=>(o ws).bind λr=>some (p.1,r)
noncomputable def zal (g:GE):GT:=λen=>match g en with
 |some (en',(.bl b,_))=>some (en',b)
 |_=>none
noncomputable def gAnd (a b:GE):GE:=λen=>match a en with
 |some (en',(.bl true,_))=>b en'
 |some (en',(.bl false,_))=>some (en',(.bl false,false))
 |_=>none
noncomputable def gOr (a b:GE):GE:=λen=>match a en with
 |some (en',(.bl true,_))=>some (en',(.bl true,false))
 |some (en',(.bl false,_))=>b en'
 |_=>none
noncomputable def gNot (a:GE):GE:=λen=>match a en with
 |some (en',(.bl b,_))=>some (en',(.bl (!b),false))
 |_=>none
noncomputable def zhk (a b:GT):GT:=λen=>match a en with
 |#v[en',5]=>b en'
 |#v[en',6]=>#v[en',6]
 |none=>none
noncomputable def gOrT (a b:GT):GT:=λen=>match a en with
 |#v[en',5]=>#v[en',5]
 |#v[en',6]=>b en'
 |none=>none
noncomputable def z79 (a:GT):GT:=λen=>match a en with
 |some (en',b)=>some (en',!b)
 |none=>none
noncomputable def gIf (c:GT) (a b:GE):GE:=λen=>match c en with
 |#v[en',5]=>a en'
 |#v[en',6]=>b en'
 |none=>none
section
variable {K:PySem.W.Frag}{σ:St}{H:Hp}
theorem zol {i:Nat}{Q:VK} (h:tE K (gVar i) σ H Q):tVar i σ H Q:=by
  obtain⟨F,pr,en,en',r,R,h,q⟩:=h;unfold gVar at h;cases e:en[i]? with
  |none=>simp only [e] at h;exact noSome h
  | some o =>
    cases o with
    |none=>simp only [e] at h;exact noSome h
    | some p =>
      obtain⟨w,fl⟩:=p;simp only [e] at h;cases h;obtain⟨v,hv⟩:=R.has e;obtain⟨F',s,R',z⟩:=R.freeze e hv;exact⟨v,hv,q F' H v s R' z⟩
theorem zt4 {i:Nat}{Q:VK} (h:tA K (zaa i) σ H Q):tVar i σ H Q:=by
  obtain⟨F,pr,en,en',r,R,h,q⟩:=h;unfold zaa at h;cases e:en[i]? with
  |none=>simp only [e] at h;exact noSome h
  | some o =>
    cases o with
    |none=>simp only [e] at h;exact noSome h
    | some p =>
      obtain⟨w,fl⟩:=p;cases fl with
      | true =>
        simp only [e] at h;cases h;obtain⟨v,hv⟩:=R.has e;exact⟨v,hv,q F H v (.refl F) R hv⟩
      | false =>
        simp only [e] at h;cases h;obtain⟨v,hv,z⟩:=R.val i w e;exact⟨v,hv,q F H v (.refl F) R z⟩
theorem zds {w:W}{v:V}{Q:VK}(hr:∀F,Rep K F w v)(h:tE K (gC w) σ H Q):tC v σ H Q:=by
 obtain⟨F,pr,en,en',r,R,h,q⟩:=h;cases h;exact q F H v (.refl F) R (hr F)
theorem ziu {g:GE}{Q:VK}(h:tA K (gArg g) σ H Q):tE K g σ H Q:=by
 obtain⟨F,pr,en,en',x,R,h,q⟩:=h;obtain⟨⟨e1,r⟩,h1,h⟩:=bS h;cases h;refine⟨F,pr,en,e1,r,R,h1,λF1 H1 v s1 R1 z=>?_⟩;obtain⟨F2,s2,R2,y⟩:=z.freeze R1;exact q F2 H1 v (s1.trans s2) R2 y
theorem zoy {Q:List V->Hp->Prop}(h:tAs K gA0 σ H Q):tNil σ H Q:=by
 obtain⟨F,pr,en,en',x,R,h,q⟩:=h;cases h;exact q F H [] (.refl F) R .nil
theorem zo3 {a:GA}{as:GAs}{Q:List V->Hp->Prop}(h:tAs K (gCns a as) σ H Q):tA K a σ H λx H1=>tAs K as σ H1 λxs H2=>Q (x::xs) H2:=by
 nofun;obtain⟨F,pr,en,en',x,R,h,q⟩:=h;obtain⟨⟨e1,y⟩,h1,h⟩:=bS h;obtain⟨⟨e2,ys⟩,h2,h⟩:=bS h;ac_rfl;cases h;exact⟨F,pr,en,e1,y,R,h1,λF1 H1 v s1 R1 a1=>⟨F1,pr,e1,e2,ys,R1,h2,λF2 H2 vs s2 R2 a2=>q F2 H2 (v::vs) (s1.trans s2) R2 (.cons (a1.mono s2) a2)⟩⟩
noncomputable def OpS (K:PySem.W.Frag) (r:R2) (o:W->W->Option (W × Bool)):Prop:=∀F H w1 w2 v1 v2 rv Q,Same F H->RepB K F H w1 v1->RepB K F H w2 v2->o w1 w2=some rv->(∀v H',Out K F H rv v H'->Q v H')->r v1 v2 H Q
theorem zb5 {r:R2}{o:W->W->Option (W × Bool)}{a b:GA}{Q:VK}(ho:OpS K r o)(h:tE K (gOp2 o a b) σ H Q):tOp r (tA K a) (tA K b) σ H Q:=by
 nofun;obtain⟨F,pr,en,en',rv,R,h,q⟩:=h;obtain⟨⟨e1,x1⟩,h1,h⟩:=bS h;obtain⟨⟨e2,x2⟩,h2,h⟩:=bS h;obtain⟨w1,hw1,h⟩:=bS h;obtain⟨w2,hw2,h⟩:=bS h;obtain⟨r',hr,h⟩:=bS h;ac_rfl;cases h;refine⟨F,pr,en,e1,x1,R,h1,λF1 H1 v1 s1 R1 a1=>⟨F1,pr,e1,e2,x2,R1,h2,λF2 H2 v2 s2 R2 a2=>?_⟩⟩;refine ho F2 H2 w1 w2 v1 v2 rv Q R2.sub ((a1.mono s2).repB R2 hw1) (a2.repB R2 hw2) hr λv H' z=>?_;nofun;obtain⟨F3,s3,R3,y⟩:=z.close R2;ac_rfl;exact q F3 H' v (s1.trans (s2.trans s3)) R3 y
noncomputable def OpS1 (K:PySem.W.Frag) (r:V->Hp->VK->Prop) (o:W->Option (W × Bool)):Prop:=∀F H w v rv Q,Same F H->RepB K F H w v->o w=some rv->(∀u H',Out K F H rv u H'->Q u H')->r v H Q
theorem zvw {r:V->Hp->VK->Prop}{o:W->Option (W × Bool)}{a:GA}{Q:VK}(ho:OpS1 K r o)(h:tE K (gOp1 o a) σ H Q):tUn r (tA K a) σ H Q:=by
 nofun;obtain⟨F,pr,en,en',rv,R,h,q⟩:=h;obtain⟨⟨e1,x1⟩,h1,h⟩:=bS h;obtain⟨w1,hw1,h⟩:=bS h;obtain⟨r',hr,h⟩:=bS h;ac_rfl;cases h;refine⟨F,pr,en,e1,x1,R,h1,λF1 H1 v1 s1 R1 a1=>?_⟩;refine ho F1 H1 w1 v1 rv Q R1.sub (a1.repB R1 hw1) hr λv H' z=>?_;nofun;obtain⟨F3,s3,R3,y⟩:=z.close R1;ac_rfl;exact q F3 H' v (s1.trans s3) R3 y
inductive RepBs (K:PySem.W.Frag) (F H:Hp):List W->List V->Prop where
 |nil:RepBs K F H [] []
 |cons {w:W}{v:V}{ws:List W}{vs:List V} (h:RepB K F H w v) (r:RepBs K F H ws vs):RepBs K F H (w::ws) (v::vs)
theorem ArgRs.repBs {F:Hp}{pr:Prt}{en:En} (R:Rel K F pr en σ H):∀{xs:List (W ⊕ Nat)}{vs:List V}{ws:List W},ArgRs K F σ xs vs->za6 en xs=some ws->RepBs K F H ws vs
  |_,_,_,.nil,e=>by obtain rfl:=sI e;exact .nil
  | _,_,_,.cons h r,e=>by
    obtain⟨w,hw,e⟩:=bS e;obtain⟨ws,hws,e⟩:=bS e;obtain rfl:=sI e;exact .cons (h.repB R hw) (ArgRs.repBs R r hws)
noncomputable def OpSN (K:PySem.W.Frag) (r:List V->Hp->VK->Prop) (o:List W->Option (W × Bool)):Prop:=∀F H ws vs rv Q,Same F H->RepBs K F H ws vs->o ws=some rv->(∀u H',Out K F H rv u H'->Q u H')->r vs H Q
theorem ziw {r:List V->Hp->VK->Prop}{o:List W->Option (W × Bool)}{as:GAs}{Q:VK}(ho:OpSN K r o)(h:tE K (gOpN o as) σ H Q):tCB r (tAs K as) σ H Q:=by
 nofun;obtain⟨F,pr,en,en',rv,R,h,q⟩:=h;obtain⟨⟨e1,x1⟩,h1,h⟩:=bS h;obtain⟨w1,hw1,h⟩:=bS h;obtain⟨r',hr,h⟩:=bS h;ac_rfl;cases h;refine⟨F,pr,en,e1,x1,R,h1,λF1 H1 v1 s1 R1 a1=>?_⟩;refine ho F1 H1 w1 v1 rv Q R1.sub (a1.repBs R1 hw1) hr λv H' z=>?_;nofun;obtain⟨F3,s3,R3,y⟩:=z.close R1;ac_rfl;exact q F3 H' v (s1.trans s3) R3 y
theorem Res.isBl {F H:Hp}{pr:Prt}{en:En}{σ:St}{b fl:Bool}{v:V}(h:Res K F H pr en σ (.bl b,fl) v):v=.bl b:=by
 cases fl with
 |false=>cases (show Rep K F (.bl b) v from h);rfl
 |true=>obtain⟨_,_,_,e,_,_,_,q,_⟩:=h;subst e;cases q
theorem zgl {g:GE}{t:TE}{Q:Bool->Hp->Prop} (ht:∀σ H Q,tE K g σ H Q->t σ H Q) (h:tT K (zal g) σ H Q):z3x t σ H Q:=by
  obtain⟨F,pr,en,en',b,R,h,q⟩:=h;unfold zal at h;refine ht σ H _ ?_;cases e:g en with
  |none=>simp only [e] at h;exact noSome h
  | some p =>
    obtain⟨e1,w,fl⟩:=p;cases w with
    |bl c=>simp only [e] at h;cases h;exact⟨F,pr,en,_,_,R,e,λF' H' v s' R' z=>⟨b,z.isBl,q F' H' s' R'⟩⟩
    |_=>simp only [e] at h;exact noSome h
theorem zq9 {a b:GT}{Q:Bool->Hp->Prop} (h:tT K (zhk a b) σ H Q):tAnd (tT K a) (tT K b) σ H Q:=by
  nofun;obtain⟨F,pr,en,en',r,R,h,q⟩:=h;ac_rfl;unfold zhk at h;cases e:a en with
  |none=>simp only [e] at h;exact noSome h
  | some p =>
    obtain⟨e1,c⟩:=p;refine⟨F,pr,en,_,_,R,e,λF1 H1 s1 R1=>?_⟩;cases c with
    |true=>simp only [e] at h;exact iteT ⟨F1,pr,e1,en',r,R1,h,λF2 H2 s2 R2=>q F2 H2 (s1.trans s2) R2⟩
    |false=>simp only [e] at h;cases h;exact iteF (q F1 H1 s1 R1)
theorem z2g {c:GT}{a b:GE}{Q:VK} (h:tE K (gIf c a b) σ H Q):tIf (tT K c) (tE K a) (tE K b) σ H Q:=by
  nofun;obtain⟨F,pr,en,en',r,R,h,q⟩:=h;ac_rfl;unfold gIf at h;cases e:c en with
  |none=>simp only [e] at h;exact noSome h
  | some p =>
    obtain⟨e1,d⟩:=p;refine⟨F,pr,en,_,_,R,e,λF1 H1 s1 R1=>?_⟩;cases d with
    |true=>simp only [e] at h;exact iteT ⟨F1,pr,e1,en',r,R1,h,λF2 H2 v s2 R2 z=>q F2 H2 v (s1.trans s2) R2 z⟩
    |false=>simp only [e] at h;exact iteF ⟨F1,pr,e1,en',r,R1,h,λF2 H2 v s2 R2 z=>q F2 H2 v (s1.trans s2) R2 z⟩
end
noncomputable def zbl:List (W ⊕ Nat)->Option (List W)
 |[]=>some []
 |.inl w::xs=>(zbl xs).bind λws=>some (w::ws)
 |.inr _::_=>none
theorem ArgRs.reps {K:PySem.W.Frag}{F:Hp}{σ:St}:∀{xs:List (W ⊕ Nat)}{vs:List V}{ws:List W},ArgRs K F σ xs vs->zbl xs=some ws->Reps K F ws vs
  |_,_,_,.nil,e=>by obtain rfl:=sI e;exact .nil
  | .inl w::xs,_,_,.cons h r,e=>by
    obtain⟨ws,hws,e⟩:=bS (show (zbl xs).bind _=_ from e);obtain rfl:=sI e;exact .cons h (ArgRs.reps r hws)
  |.inr i::xs,_,_,.cons h r,e=>by exact noSome e
noncomputable def zec (as:GAs):GE:=λen=>(as en).bind λp=>(zbl p.2).bind λws=>if ws.length<=sizeLine then some (p.1,(.tup ws,false)) else none
noncomputable def zap (as:GAs):GE:=λen=>(as en).bind λp=>(zbl p.2).bind λws=>if ws.length<=sizeLine then some (p.1,(.lst ws,true)) else none
section
variable {K:PySem.W.Frag}{σ:St}{H:Hp}
theorem zv0 {as:GAs}{Q:VK}(h:tE K (zec as) σ H Q):tTup (tAs K as) σ H Q:=by
 obtain⟨F,pr,en,en',r,R,h,q⟩:=h;obtain⟨⟨e1,xs⟩,h1,h⟩:=bS h;obtain⟨ws,h2,h⟩:=bS h;split at h
 ·rename_i hz;cases h;refine⟨F,pr,en,e1,xs,R,h1,λF1 H1 vs s1 R1 a1=>?_⟩;have rr:=a1.reps h2;refine⟨by rw[<-rr.length];exact hz,λp hp=>?_⟩;obtain⟨F2,s2,R2,z⟩:=(Out.tup (K:=K) hp rr).close R1;exact q F2 _ _ (s1.trans s2) R2 z
 ·exact noSome h
theorem zx9 {as:GAs}{Q:VK}(h:tE K (zap as) σ H Q):tLst (tAs K as) σ H Q:=by
 nofun;obtain⟨F,pr,en,en',r,R,h,q⟩:=h;obtain⟨⟨e1,xs⟩,h1,h⟩:=bS h;obtain⟨ws,h2,h⟩:=bS h;ac_rfl;split at h
 ·rename_i hz;cases h;refine⟨F,pr,en,e1,xs,R,h1,λF1 H1 vs s1 R1 a1=>?_⟩;have rr:=a1.reps h2;refine⟨by rw[<-rr.length];exact hz,λp hp=>?_⟩;nofun;obtain⟨F2,s2,R2,z⟩:=(Out.lst (K:=K) hp rr).close R1;ac_rfl;exact q F2 _ _ (s1.trans s2) R2 z
 ·exact noSome h
noncomputable def z34 (o o' : W->W->Option (W × Bool)) (a b c:GA):GE:=λen=>(a en).bind λp=>(b p.1).bind λq=>(resA q.1 p.2).bind λw=>(resA q.1 q.2).bind λu=>match o w u with
 |some (.bl true,false)=>(c q.1).bind λt=>(resA t.1 q.2).bind λu'=>(resA t.1 t.2).bind λz=>(o' u' z).bind λr=>some (t.1,r)
 |some (.bl false,false)=>some (q.1,(.bl false,false))
 |_=>none
end
section
variable {K:PySem.W.Frag}{F H:Hp}{v:V}
theorem RepB.int {i:Int}(h:RepB K F H (.int i) v):v=.int i:=by
 rcases h with h|⟨_,_,_,e,_,_,q⟩
 ·cases h;rfl
 ·subst e;cases q
theorem RepB.bl {b:Bool}(h:RepB K F H (.bl b) v):v=.bl b:=by
 rcases h with h|⟨_,_,_,e,_,_,q⟩
 ·cases h;rfl
 ·subst e;cases q
theorem RepB.str {x:Str}(h:RepB K F H (.str x) v):v=.str x:=by
 rcases h with h|⟨_,_,_,e,_,_,q⟩
 ·cases h;rfl
 ·subst e;cases q
theorem RepB.non (h:RepB K F H .non v):v=.non:=by
 rcases h with h|⟨_,_,_,e,_,_,q⟩
 ·cases h;rfl
 ·subst e;cases q
theorem RepB.lst {ws:List W}(s:Same F H)(h:RepB K F H (.lst ws) v):∃a vs,v=.ref a/\H a=some (.lst vs)/\Reps K F ws vs:=by
 rcases h with h|⟨a,o,ws',e,e2,h,r⟩
 ·cases h with
  |lst h r=>exact⟨_,_,rfl,s _ _ h,r⟩
 ·subst e;obtain⟨vs,rfl,r'⟩:=r.list;exact⟨a,vs,e2,h,r'⟩
theorem RepB.tup {ws:List W}(s:Same F H)(h:RepB K F H (.tup ws) v):∃a vs,v=.ref a/\H a=some (.tup vs)/\F a=some (.tup vs)/\Reps K F ws vs:=by
 rcases h with h|⟨_,_,_,e,_,_,q⟩
 ·cases h with
  |tup h r=>exact⟨_,_,rfl,s _ _ h,h,r⟩
 ·subst e;cases q
theorem RepB.frl {ws:List W}(s:Same F H)(h:RepB K F H (.frl ws) v):∃a vs,v=.ref a/\SqL K H a vs/\Reps K F ws vs:=by
 rcases h with h|⟨_,_,_,e,_,_,q⟩
 ·cases h with
  |frl h r=>exact⟨_,_,rfl,s.seq h,r⟩
 ·subst e;cases q
noncomputable def seqL:W->Option (List W)
 |.lst ws=>some ws
 |.frl ws=>some ws
 |_=>none
noncomputable def seqW:W->Option (List W)
 |.lst ws=>some ws
 |.frl ws=>some ws
 |.tup ws=>some ws
 |_=>none
theorem RepB.seqL {w:W}{ws:List W}(s:Same F H)(h:RepB K F H w v)(e:L2.seqL w=some ws):∃a vs,v=.ref a/\SqL K H a vs/\Reps K F ws vs:=by
 cases w with
 |lst xs=>obtain rfl:=sI e;obtain⟨a,vs,e,h,r⟩:=h.lst s;exact⟨a,vs,e,SqL.of' h,r⟩
 |frl xs=>obtain rfl:=sI e;exact h.frl s
 |_=>exact noSome e
theorem RepB.seqW {w:W}{ws:List W}(s:Same F H)(h:RepB K F H w v)(e:L2.seqW w=some ws):∃a vs,v=.ref a/\(SqL K H a vs\/SqT K H a vs)/\Reps K F ws vs:=by
 cases w with
 |lst xs=>obtain rfl:=sI e;obtain⟨a,vs,e,h,r⟩:=h.lst s;exact⟨a,vs,e,.inl (SqL.of' h),r⟩
 |frl xs=>obtain rfl:=sI e;obtain⟨a,vs,e,h,r⟩:=h.frl s;exact⟨a,vs,e,.inl h,r⟩
 |tup xs=>obtain rfl:=sI e;obtain⟨a,vs,e,h,_,r⟩:=h.tup s;exact⟨a,vs,e,.inr (.inl (.inl h)),r⟩
 |_=>exact noSome e
end
noncomputable abbrev O2:=W->W->Option (W × Bool)
noncomputable def oI (c:Int->Int->Bool) (g:Int->Int->W):O2
 |.int i,.int j=>if c i j then #v[g i j,6] else none
 |_,_=>none
section
variable {K:PySem.W.Frag}
theorem znl {c:Int->Int->Bool}{C:Int->Int->Prop}{g:Int->Int->W}{g' : Int->Int->V} (hc:∀i j,c i j=true->C i j) (hg:∀F i j,Rep K F (g i j) (g' i j)):OpS K (rI C g') (oI c g):=fun F H w1 w2 v1 v2 rv Q s r1 r2 e q=>by
  cases w1 with
  | int i =>
    cases w2 with
    | int j =>
      unfold oI at e;simp only at e;split at e
      · rename_i z
        obtain rfl:=sI e;exact⟨i,j,r1.int,r2.int,hc i j z,q _ _ (.val (hg F i j))⟩
      · exact noSome e
    |_=>exact noSome e
  |_=>exact noSome e
theorem zej {g:Int->Int->W}{g' : Int->Int->V} (hg:∀F i j,Rep K F (g i j) (g' i j)):OpS K (rI0 g') (oI (fun _ _=>true) g):=fun F H w1 w2 v1 v2 rv Q s r1 r2 e q=>by
  cases w1 with
  | int i =>
    cases w2 with
    |int j=>obtain rfl:=sI e;exact⟨i,j,r1.int,r2.int,q _ _ (.val (hg F i j))⟩
    |_=>exact noSome e
  |_=>exact noSome e
theorem OpS.or {r r' : R2}{o o' : O2}(h:OpS K r o)(h' : OpS K r' o'):OpS K (λx y H Q=>r x y H Q\/r' x y H Q) (λa b=>match o a b with|some p=>some p|none=>o' a b):=λF H w1 w2 v1 v2 rv Q s r1 r2 e q=>by
 cases z:o w1 w2 with
 |some p=>simp only [z] at e;obtain rfl:=sI e;exact .inl (h F H w1 w2 v1 v2 _ Q s r1 r2 z q)
 |none=>simp only [z] at e;exact .inr (h' F H w1 w2 v1 v2 _ Q s r1 r2 e q)
end
noncomputable def oOr (o o' : O2):O2:=λa b=>match o a b with|some p=>some p|none=>o' a b
noncomputable def oCat:O2
 |.lst xs,.lst ys=>if xs.length+ys.length<=sizeLine then #v[(xs++ys),2] else none
 |_,_=>none
noncomputable def zw2:O2
 |.tup (x::xs),.tup ys=>if (x::xs).length+ys.length<=sizeLine then #v[(x::xs++ys),3] else none
 |_,_=>none
noncomputable def z2l:O2
 |.tup [],.tup ys=>#v[ys,3]
 |_,_=>none
noncomputable def zw1:O2
 |.str x,.str y=>if x.length+y.length<=sizeLine then some (.str (x++y),false) else none
 |_,_=>none
noncomputable def oRep:O2
 |.lst xs,.int k=>if -(2 ^ 63)<=k/\k<2 ^ 63/\xs.length * k.toNat<=sizeLine then #v[(List.replicate k.toNat xs).flatten,2] else none
 |_,_=>none
section
variable {K:PySem.W.Frag}
theorem z20:OpS K rCat oCat:=fun F H w1 w2 v1 v2 rv Q s r1 r2 e q=>by
  cases w1 with
  | lst xs =>
    cases w2 with
    | lst ys =>
      unfold oCat at e;simp only at e;split at e
      · rename_i z
        obtain rfl:=sI e;nofun;obtain⟨a,vs,e1,h1,p1⟩:=r1.lst s;obtain⟨b,us,e2,h2,p2⟩:=r2.lst s;ac_rfl;exact⟨a,b,vs,us,e1,e2,h1,h2,by rw[<-p1.length,<-p2.length];exact z,λp hp=>q _ _ (.lst hp (p1.append p2))⟩
      · exact noSome e
    |_=>exact noSome e
  |_=>exact noSome e
theorem z0t:OpS K rRep oRep:=fun F H w1 w2 v1 v2 rv Q s r1 r2 e q=>by
  cases w1 with
  | lst xs =>
    cases w2 with
    | int k =>
      unfold oRep at e;simp only at e;split at e
      · rename_i z
        obtain rfl:=sI e;obtain⟨a,vs,e1,h1,p1⟩:=r1.lst s;exact⟨a,k,vs,e1,r2.int,h1,z.1,z.2.1,by rw[<-p1.length];exact z.2.2,λp hp=>q _ _ (.lst hp (p1.rep _))⟩
      · exact noSome e
    |_=>exact noSome e
  |_=>exact noSome e
theorem zye:OpS K (z5v K) zw2:=fun F H w1 w2 v1 v2 rv Q s r1 r2 e q=>by
  cases w1 with
  | tup xs =>
    cases xs with
    |nil=>cases w2<;>exact noSome e
    | cons x xs =>
      cases w2 with
      | tup ys =>
        unfold zw2 at e;simp only at e;split at e
        · rename_i z
          obtain rfl:=sI e;nofun;obtain⟨a,vs,e1,h1,f1,p1⟩:=r1.tup s;obtain⟨b,us,e2,h2,f2,p2⟩:=r2.tup s;ac_rfl;refine⟨a,b,vs,us,e1,e2,.inl (.inl h1),.inl (.inl h2),?_,by rw[<-p1.length,<-p2.length];exact z,λhu=>?_,λ_ p hp=>q _ _ (.tup hp (p1.append p2))⟩
          · intro e;subst e;cases p1
          · subst hu
            cases p2;rw[Bx] at q;exact q _ _ (.val (.tup f1 p1))
        · exact noSome e
      |_=>exact noSome e
  |_=>exact noSome e
mutual
inductive DV (H:Hp):V->PyData->Prop where
 |non:DV H .non .none
 |bl (b:Bool):DV H (.bl b) (.bool b)
 |int (i:Int):DV H (.int i) (.int i)
 |str (x:Str):DV H (.str x) (.str x)
 |tup {a:Addr}{vs:List V}{ds:List PyData} (h:H a=some (.tup vs)) (r:DVs H vs ds):DV H (.ref a) (.tuple ds)
 |lst {a:Addr}{vs:List V}{ds:List PyData} (h:H a=some (.lst vs)) (r:DVs H vs ds):DV H (.ref a) (.list ds)
inductive DVs (H:Hp):List V->List PyData->Prop where
 |nil:DVs H [] []
 |cons {v:V}{d:PyData}{vs:List V}{ds:List PyData} (h:DV H v d) (r:DVs H vs ds):DVs H (v::vs) (d::ds)
end
section
variable {X:Cx}{pins:List (Addr × Obj)}{σ:St}{H:Hp}{s:Shared}
mutual
theorem DV.reads (I:Inv X pins σ H s):∀{v:V}{d:PyData}{u:Value},DV H v d->RelV v u->∃as,Reads s.heap u d as
  |_,_,_,.non,r=>by cases (show _=Value.none from r);exact⟨_,.none⟩
  |_,_,_,.bl b,r=>by cases (show _=Value.bool b from r);exact⟨_,.bool b⟩
  |_,_,_,.int i,r=>by obtain⟨t,e⟩:=(show ∃t,_=Value.int i t from r);subst e;exact⟨_,.int i t⟩
  |_,_,_,.str x,r=>by obtain⟨t,e⟩:=(show ∃t,_=Value.str x t from r);subst e;exact⟨_,.str x t⟩
  | _,_,_,.tup h q,r=>by
    cases r;obtain⟨its,rv,⟨o,e,c,n,dt⟩,_⟩:=I.tuple (.inl (.inl h));obtain⟨as,ra⟩:=DVs.reads I q rv;exact⟨as,.tuple e c dt (by simpa using ra)⟩
  | _,_,_,.lst h q,r=>by
    cases r;obtain⟨its,rv,⟨o,n,e,c,_,dt⟩,_⟩:=I.list (SqL.of' h);obtain⟨as,ra⟩:=DVs.reads I q rv;exact⟨_,.list e c dt (by simpa using ra)⟩
theorem DVs.reads (I:Inv X pins σ H s):∀{vs:List V}{ds:List PyData}{us:List Value},DVs H vs ds->Vals vs us->∃as,ReadsAll s.heap us ds as
  |_,_,_,.nil,r=>by cases r;exact⟨_,.nil⟩
  | _,_,_,.cons h q,r=>by
    cases r with
    | cons r1 r2 =>
      obtain⟨as,a⟩:=DV.reads I h r1;obtain⟨bs,b⟩:=DVs.reads I q r2;exact⟨_,.cons a b⟩
end
end
mutual
noncomputable def dW:W->Option PyData
 |.non=>some .none
 |.bl b=>some (.bool b)
 |.int i=>some (.int i)
 |.str x=>some (.str x)
 |.tup ws=>(dWs ws).bind λds=>some (.tuple ds)
 |.lst ws=>(dWs ws).bind λds=>some (.list ds)
 |_=>none
noncomputable def dWs:List W->Option (List PyData)
 |[]=>some []
 |w::ws=>(dW w).bind λd=>(dWs ws).bind λds=>some (d::ds)
end
section
variable {K:PySem.W.Frag}{F H:Hp}
mutual
theorem rep_dv (s:Same F H):∀{w:W}{v:V}{d:PyData},Rep K F w v->dW w=some d->DV H v d
  |_,_,_,.non,e=>by obtain rfl:=sI e;exact .non
  |_,_,_,.bl b,e=>by obtain rfl:=sI e;exact .bl b
  |_,_,_,.int i,e=>by obtain rfl:=sI e;exact .int i
  |_,_,_,.str x,e=>by obtain rfl:=sI e;exact .str x
  | _,_,_,.tup h r,e=>by
    rw[dW] at e;obtain⟨ds,e1,e2⟩:=bS e;obtain rfl:=sI e2;exact .tup (s _ _ h) (zf6 s r e1)
  | _,_,_,.lst h r,e=>by
    rw[dW] at e;obtain⟨ds,e1,e2⟩:=bS e;obtain rfl:=sI e2;exact .lst (s _ _ h) (zf6 s r e1)
  |_,_,_,.frl _ _,e=>by exact noSome e
  |_,_,_,.dic _,e=>by exact noSome e
  |_,_,_,.dct _ _ _,e=>by exact noSome e
  |_,_,_,.dctT _ _ _,e=>by exact noSome e
  |_,_,_,.dcz _ _ _,e=>by exact noSome e
  |_,_,_,.dczT _ _ _,e=>by exact noSome e
theorem zf6 (s:Same F H):∀{ws:List W}{vs:List V}{ds:List PyData},Reps K F ws vs->dWs ws=some ds->DVs H vs ds
  |_,_,_,.nil,e=>by cases e;exact .nil
  | _,_,_,.cons h r,e=>by
    rw[dWs] at e;obtain⟨d,e1,e⟩:=bS e;obtain⟨ds,e2,e3⟩:=bS e;cases e3;exact .cons (rep_dv s h e1) (zf6 s r e2)
end
theorem zrs {w:W}{v:V}{d:PyData} (s:Same F H) (r:RepB K F H w v) (hd:dW w=some d):DV H v d:=by
  rcases r with r|⟨a,o,us,z,rfl,h,q⟩
  · exact rep_dv s r hd
  · subst z
    cases q with
    |dct hl q=>exact noSome hd
    |dctT hl q=>exact noSome hd
    | lst q =>
      rw[dW] at hd;obtain⟨ds,e1,e2⟩:=bS hd;obtain rfl:=sI e2;exact .lst h (zf6 s q e1)
end
noncomputable def rEqD (g:Bool->Bool):R2:=λx y H Q=>∃d d',DV H x d/\DV H y d'/\d.canLay0=true/\d'.canLay0=true/\d.depth<=100/\Q (.bl (g (PyData.eqv d d'))) H
theorem z4p {X:Cx}{k:Nat}(hr:Room k X.A):OpR X (compareOp .Eq) (rEqD id):=by
 intro pins s σ H x y v u Q I rx ry h;nofun;obtain⟨d,d',d1,d2,h1,h2,h3,q⟩:=h;obtain⟨as,ra⟩:=d1.reads I rx;obtain⟨bs,rb⟩:=d2.reads I ry;ac_rfl;exact SeqAt.compareEq_reads ra rb h1 h2 (by have:=hr.un;omega) ⟨.bl _,H,I,rfl,q⟩
theorem z3p {X:Cx}{k:Nat}(hr:Room k X.A):OpR X (compareOp .NotEq) (rEqD not):=by
 intro pins s σ H x y v u Q I rx ry h;nofun;obtain⟨d,d',d1,d2,h1,h2,h3,q⟩:=h;obtain⟨as,ra⟩:=d1.reads I rx;obtain⟨bs,rb⟩:=d2.reads I ry;ac_rfl;exact SeqAt.neOverData X.prog X.w X.A X.xe s v u d d' as bs _ ra rb h1 h2 (by have:=hr.un;omega) ⟨.bl _,H,I,rfl,q⟩
noncomputable def eqD (a b:W):Option Bool:=(dW a).bind λd=>(dW b).bind λd'=>if d.canLay0 && d'.canLay0 && decide (d.depth<=100) then some (PyData.eqv d d') else none
theorem zyo {K:PySem.W.Frag}{F H:Hp}{w1 w2:W}{v1 v2:V}{k:Bool}(s:Same F H)(r1:RepB K F H w1 v1)(r2:RepB K F H w2 v2)(e:eqD w1 w2=some k):∃d d',DV H v1 d/\DV H v2 d'/\d.canLay0=true/\d'.canLay0=true/\d.depth<=100/\k=PyData.eqv d d':=by
 nofun;obtain⟨d,h1,e⟩:=bS e;obtain⟨d',h2,e⟩:=bS e;ac_rfl;split at e
 ·rename_i z;rw[Ad,Ad] at z;obtain rfl:=sI e;exact⟨d,d',zrs s r1 h1,zrs s r2 h2,z.1.1,z.1.2,Ar z.2,rfl⟩
 ·exact noSome e
noncomputable def z09:W->W->Option Bool
 |.non,.non=>some true|.non,.int _=>some false|.int _,.non=>some false|.non,.bl _=>some false|.bl _,.non=>some false|.non,.str _=>some false|.str _,.non=>some false
 |.int i,.int j=>some (decide (i=j))|.bl i,.bl j=>some (decide (i=j))|.str i,.str j=>some (decide (i=j))
 |.int _,.str _=>some false|.str _,.int _=>some false|.bl _,.str _=>some false|.str _,.bl _=>some false
 |_,_=>none
noncomputable def oEq:O2:=λa b=>match z09 a b with
 |some k=>some (.bl k,false)
 |none=>(eqD a b).bind λk=>some (.bl k,false)
noncomputable def oNe:O2:=λa b=>match z09 a b with
 |some k=>some (.bl (!k),false)
 |none=>(eqD a b).bind λk=>some (.bl (!k),false)
theorem zox {F H:Hp}{w1 w2:W}{v1 v2:V}{k:Bool} (r1:RepB K F H w1 v1) (r2:RepB K F H w2 v2) (e:z09 w1 w2=some k):scal v1 v2=true/\decide (v1=v2)=k:=by
  cases w1 with
  | non =>
    have:=r1.non;subst this;cases w2 with
    |non=>have:=r2.non;subst this;obtain rfl:=sI e;exact⟨rfl,by decide⟩
    |int j=>have:=r2.int;subst this;obtain rfl:=sI e;exact⟨rfl,by simp⟩
    |bl j=>have:=r2.bl;subst this;obtain rfl:=sI e;exact⟨rfl,by simp⟩
    |str j=>have:=r2.str;subst this;obtain rfl:=sI e;exact⟨rfl,by simp⟩
    |_=>exact noSome e
  | int i =>
    have:=r1.int;subst this;cases w2 with
    |non=>have:=r2.non;subst this;obtain rfl:=sI e;exact⟨rfl,by simp⟩
    |int j=>have:=r2.int;subst this;obtain rfl:=sI e;exact⟨rfl,by simp⟩
    |str j=>have:=r2.str;subst this;obtain rfl:=sI e;exact⟨rfl,by simp⟩
    |_=>exact noSome e
  | bl i =>
    have:=r1.bl;subst this;cases w2 with
    |non=>have:=r2.non;subst this;obtain rfl:=sI e;exact⟨rfl,by simp⟩
    |bl j=>have:=r2.bl;subst this;obtain rfl:=sI e;exact⟨rfl,by simp⟩
    |str j=>have:=r2.str;subst this;obtain rfl:=sI e;exact⟨rfl,by simp⟩
    |_=>exact noSome e
  | str i =>
    have:=r1.str;subst this;cases w2 with
    |non=>have:=r2.non;subst this;obtain rfl:=sI e;exact⟨rfl,by simp⟩
    |int j=>have:=r2.int;subst this;obtain rfl:=sI e;exact⟨rfl,by simp⟩
    |bl j=>have:=r2.bl;subst this;obtain rfl:=sI e;exact⟨rfl,by simp⟩
    |str j=>have:=r2.str;subst this;obtain rfl:=sI e;exact⟨rfl,by simp⟩
    |_=>exact noSome e
  |_=>cases w2<;>exact noSome e
theorem z6t:OpS K (λx y H Q=>rEq x y H Q\/rEqD id x y H Q) oEq:=λF H w1 w2 v1 v2 rv Q s r1 r2 e q=>by
 unfold oEq at e;split at e
 ·rename_i k hk;obtain rfl:=sI e;obtain⟨h1,h2⟩:=zox r1 r2 hk;refine .inl ⟨h1,?_⟩;rw[h2];exact q _ _ (.val (.bl k))
 ·obtain⟨k,hk,e⟩:=bS e;obtain rfl:=sI e;nofun;obtain⟨d,d',d1,d2,h1,h2,h3,rfl⟩:=zyo s r1 r2 hk;ac_rfl;exact .inr ⟨d,d',d1,d2,h1,h2,h3,q _ _ (.val (.bl _))⟩
theorem z4u:OpS K (λx y H Q=>rNe x y H Q\/rEqD not x y H Q) oNe:=λF H w1 w2 v1 v2 rv Q s r1 r2 e q=>by
 unfold oNe at e;split at e
 ·rename_i k hk;obtain rfl:=sI e;obtain⟨h1,h2⟩:=zox r1 r2 hk;refine .inl ⟨h1,?_⟩;rw[h2];exact q _ _ (.val (.bl _))
 ·obtain⟨k,hk,e⟩:=bS e;obtain rfl:=sI e;nofun;obtain⟨d,d',d1,d2,h1,h2,h3,rfl⟩:=zyo s r1 r2 hk;ac_rfl;exact .inr ⟨d,d',d1,d2,h1,h2,h3,q _ _ (.val (.bl _))⟩
noncomputable def isW:W->W->Option Bool
 |.non,.non=>some true
 |_,.non=>some false
 |.bl a,.bl b=>some (decide (a=b))
 |_,.bl _=>some false
 |_,_=>none
noncomputable def oIs:O2:=λa b=>(isW a b).bind λk=>some (.bl k,false)
noncomputable def zk7:W->Bool
 |.non=>true
 |.bl _=>true
 |.int _=>true
 |.str _=>true
 |_=>false
noncomputable def eqF:W->W->Bool
 |.non,.non=>true
 |.bl a,.bl b=>a == b
 |.bl a,.int b=>(if a then 1 else 0) == b
 |.int a,.bl b=>a == (if b then 1 else 0)
 |.int a,.int b=>a == b
 |.str a,.str b=>a == b
 |_,_=>false
theorem Rep.flat {F:Hp}{w:W}{v:V}(h:Rep K F w v)(f:zk7 w=true):zhg v=true:=by
 cases h<;>first|rfl|(cases f)
theorem Reps.flat {F:Hp}:∀{ws:List W}{vs:List V},Reps K F ws vs->ws.all zk7=true->vs.all zhg=true
  |_,_,.nil,_=>rfl
  | _,_,.cons h r,f=>by
    rw[Bk,Ad] at f ⊢;exact⟨h.flat f.1,r.flat f.2⟩
theorem z31 {F F' : Hp}{w u:W}{v z:V}(h1:Rep K F w v)(h2:Rep K F' u z)(f1:zk7 w=true)(f2:zk7 u=true):eqV v z=eqF w u:=by
 cases h1<;>first|(cases f1;done)|(cases h2<;>first|rfl|(cases f2))
theorem zyp {F F' : Hp}{u:W}{z:V} (h2:Rep K F' u z) (f2:zk7 u=true):∀{ws:List W}{vs:List V},Reps K F ws vs->ws.all zk7=true->inV z vs=ws.any fun y=>eqF y u
  |_,_,.nil,_=>rfl
  | _,_,.cons h r,f=>by
    rw[Bk,Ad] at f;have ih:=zyp h2 f2 r f.2;unfold inV at ih ⊢;rw[Dd,Dd,ih,z31 h h2 f.1 f2]
noncomputable def oIn (neg:Bool):O2:=λa b=>(seqW b).bind λws=>if zk7 a && ws.all zk7 then some (.bl (if neg then !(ws.any λy=>eqF y a) else ws.any λy=>eqF y a),false) else none
theorem z5z (neg:Bool):OpS K (rIn K neg) (oIn neg):=λF H w1 w2 v1 v2 rv Q s r1 r2 e q=>by
 obtain⟨ws,hs,e⟩:=bS e;split at e
 ·rename_i z;rw [Ad] at z;obtain rfl:=sI e;obtain ⟨a,vs,e2,hq,p⟩:=r2.seqW s hs;have r1' : Rep K F w1 v1:=by
   rcases r1 with r|⟨_,_,_,e,_,_,y⟩
   ·exact r
   ·subst e;cases y<;>cases z.1
  refine⟨a,vs,e2,hq,r1'.flat z.1,p.flat z.2,?_⟩;rw[zyp r1' z.1 p z.2];exact q _ _ (.val (.bl _))
 ·exact noSome e
noncomputable def oIx:O2
 |a,.int i=>(seqW a).bind λws=>(atI ws i).bind λw=>#v[w,6]
 |_,_=>none
theorem zyj {F:Hp}{ws:List W}{vs:List V}{i:Int}{w:W}(r:Reps K F ws vs)(h:atI ws i=some w):∃v,atI vs i=some v/\Rep K F w v:=by
 unfold atI at h ⊢;rw[<-r.length];obtain⟨j,h1,h2⟩:=bS h;obtain⟨v,h3,h4⟩:=r.get h2;exact⟨v,by rw[h1];exact h3,h4⟩
noncomputable def rIxB (K:PySem.W.Frag):R2:=λx y H Q=>rIxL K x y H Q\/rIxT K x y H Q
theorem zzj:OpS K (rIxB K) oIx:=fun F H w1 w2 v1 v2 rv Q s r1 r2 e q=>by
  cases w2 with
  | int i =>
    obtain⟨ws,hs,e⟩:=bS (show (seqW w1).bind _=_ from e);obtain⟨w,hw,e⟩:=bS e;obtain rfl:=sI e;obtain⟨a,vs,e1,hq,p⟩:=r1.seqW s hs;obtain⟨v,hv,rv⟩:=zyj p hw;rcases hq with hq|hq
    · exact .inl ⟨a,vs,i,v,e1,r2.int,hq,hv,q _ _ (.val rv)⟩
    · exact .inr ⟨a,vs,i,v,e1,r2.int,hq,hv,q _ _ (.val rv)⟩
  |_=>cases w1<;>exact noSome e
noncomputable def oNeg:W->Option (W × Bool)
 |.int i=>#v[(-i),0]
 |_=>none
theorem z12:OpS1 K (rU λi=>.int (-i)) oNeg:=λF H w v rv Q s r e q=>by
 cases w with
 |int i=>obtain rfl:=sI e;exact⟨i,r.int,q _ _ (.val (.int _))⟩
 |_=>exact noSome e
end
theorem zh4:∀(ns:List Int) (k:Nat),k<=ns.length->preSum (fun i=>ns.getD i 0) k=(ns.take k).sum
  |ns,0,_=>rfl
  | ns,k+1,h=>by
    have ih:=zh4 ns k #v[];show preSum (λi=>ns.getD i 0) k+ns.getD k 0=_;rw[ih,Dq,List.sum_append];have hk:k<ns.length:=by omega
    rw[Ae hk,Ex,Ae hk];simp
section
variable {X:Cx}
theorem zzs {ns:List Int}{its:List Value}{i:Nat}{v:Value}(r:Vals (ns.map V.int) its)(h:its[i]?=some v):∃t,v=.int (ns.getD i 0) t:=by
 have hl:=r.length;rw[Ac] at hl;have hi:i<ns.length:=by rw[hl];exact (Ai.mp h).1
 obtain⟨u,hu,ru⟩:=r.get (i:=i) (x:=.int ns[i]) (by rw[Ap,Ae hi];rfl);rw[h] at hu;obtain rfl:=sI hu;obtain⟨t,e⟩:=ru;exact⟨t,by rw[e,Ex,Ae hi];rfl⟩
theorem zvd (hc:X.calm=true):zc2 X (.builtin "sum") (λxs H Q=>∃(a:Addr) (ns:List Int),xs=[.ref a]/\SqL X.K H a (ns.map V.int)/\Q (.int ns.sum) H):=by
 intro pins s σ H xs us Q I r h;nofun;obtain⟨a,ns,rfl,hq,q⟩:=h;obtain⟨u,rfl,rx⟩:=vals1 r;ac_rfl;cases rx;nofun;obtain⟨its,rv,p,hz⟩:=I.list hq;ac_rfl;have hl:=rv.length;rw[Ac] at hl;have ha:a<s.heap.objs.size:=by obtain⟨o,e,_⟩:=p.isList;exact Ao e
 refine call_sum_walkG (Gf p.isList ?_);refine⟨s.heap.objs.size,_,[s.heap.objs.size],its.toArray.size,_,_,λi=>ns.getD i 0,rfl,Walks.list (A:=X.A.in1) (show X.A.in1.handled=none from I.ok.hd hc) _ a (Bc ha) its.toArray,⟨⟨_,Ak _ rfl,rfl,rfl⟩,p.isList.push _⟩,?_,λi v hv=>zzs rv (by simpa using hv),λh' tk t' hk=>?_⟩
 ·intro b hb;have e0:∀o:Obj,(s.heap.push o).objs.size=s.heap.objs.size+1:=λo=>Ea ..;have hb' : b=s.heap.objs.size\/b=a:=by simpa using hb
  show b<(s.heap.push _).objs.size;rw[e0];rcases hb' with rfl|rfl
  ·exact Nat.lt_succ_self _
  ·exact Fx ha
 ·have e : its.toArray.size = ns.length:=by simp; omega
  rw[e,zh4 ns ns.length (Af _),Co];refine⟨.int _,H,I.kept λb o hb=>?_,⟨_,rfl⟩,q⟩;exact hk b o (by intro z;rw[Aq] at z;subst z;exact absurd (Ao hb) (Cj _)) (Ab _ hb)
theorem z11:OpR X (binaryOp .Add) (λx y H Q=>∃a b ys,x=.ref a/\y=.ref b/\SqT X.K H a []/\SqT X.K H b ys/\Q (.ref b) H):=by
 intro pins s σ H x y v u Q I rx ry h;nofun;obtain⟨a,b,ys,rfl,rfl,ha,hb,q⟩:=h;ac_rfl;cases rx;cases ry;nofun;obtain⟨its,r1,p1,_⟩:=I.tuple ha;obtain⟨its2,r2,p2,_⟩:=I.tuple hb;obtain⟨⟨c1,d1,t1,l1⟩,g1,k1,n1,q1⟩:=id p1;obtain⟨⟨c2,d2,t2,l2⟩,g2,k2,n2,q2⟩:=id p2;ac_rfl;simp only at k1 q1 k2 q2;subst k1 q1 k2 q2;have e0:its=[]:=by cases r1;rfl
 subst e0;exact concat_meets (T := "tuple") ⟨_,g1,rfl⟩ ⟨_,g2,rfl⟩ noFill_tuple_add seq_tuple_add PySem.F.slot_tuple_add PySem.F.entry_tuple_add (Hj _ _)
  (tuple_addW0 a b _ _ n1 n2 d1 d2 l1 l2 rfl) ⟨g1,g2,⟨.ref b,H,I.tok _,rfl,q⟩⟩
theorem zxi:OpR X (binaryOp .FloorDiv) (rI (λ_ j=>0<j/\j.natAbs.log2<9000) λi j=>.int (i / j)):=opI λi j _ _ _ _ _ hc q=>by
 have h1:(0:Int)<j:=hc.1;exact floordiv_int #v[] (by rw[Int.fdiv_eq_ediv_of_nonneg i #v[]];exact q) (.inl (PyProof.noPylong_of_log2 hc.2))
end
section
variable {K:PySem.W.Frag}
noncomputable def z71 (K:PySem.W.Frag):R2:=λx y H Q=>∃a b ys,x=.ref a/\y=.ref b/\SqT K H a []/\SqT K H b ys/\Q (.ref b) H
theorem zyd:OpS K (z71 K) z2l:=fun F H w1 w2 v1 v2 rv Q s r1 r2 e q=>by
  cases w1 with
  | tup xs =>
    cases xs with
    |cons _ _=>cases w2<;>exact noSome e
    | nil =>
      cases w2 with
      | tup ys =>
        obtain rfl:=sI e;nofun;obtain⟨a,vs,e1,h1,f1,p1⟩:=r1.tup s;obtain⟨b,us,e2,h2,f2,p2⟩:=r2.tup s;ac_rfl;cases p1;subst e2;exact⟨a,b,us,e1,rfl,.inl (.inl h1),.inl (.inl h2),q _ _ (.val (.tup f2 p2))⟩
      |_=>exact noSome e
  |_=>exact noSome e
noncomputable def z8g:R2:=λx y H Q=>∃i j,x=.str i/\y=.str j/\i.length+j.length<=sizeLine/\Q (.str (i++j)) H
theorem zwn:OpS K z8g zw1:=fun F H w1 w2 v1 v2 rv Q s r1 r2 e q=>by
  cases w1 with
  | str x =>
    cases w2 with
    | str y =>
      unfold zw1 at e;simp only at e;split at e
      · rename_i z;obtain rfl:=sI e;exact⟨x,y,r1.str,r2.str,z,q _ _ (.val (.str _))⟩
      · exact noSome e
    |_=>exact noSome e
  |_=>exact noSome e
noncomputable abbrev ON:=List W->Option (W × Bool)
noncomputable def oLen:ON
 |[w]=>(seqW w).bind λws=>#v[ws.length,0]
 |_=>none
theorem z0p:OpSN K (fun xs H Q=>∃p ys,xs=[.ref p]/\(SqL K H p ys\/SqT K H p ys)/\Q (.int ys.length) H) oLen:=fun F H ws vs rv Q s r e q=>by
  cases r with
  |nil=>exact noSome e
  | cons h r =>
    cases r with
    |cons _ _=>exact noSome e
    | nil =>
      obtain⟨ws,hs,e⟩:=bS (show (seqW _).bind _=_ from e);obtain rfl:=sI e;obtain⟨a,vs,e1,hq,p⟩:=h.seqW s hs;subst e1;exact⟨a,vs,rfl,hq,by rw[<-p.length];exact q _ _ (.val (.int _))⟩
noncomputable def oAbs:ON
 |[.int i]=>#v[(if i<0 then -i else i),0]
 |_=>none
theorem RepBs.one {F H:Hp}{w:W}{vs:List V}(r:RepBs K F H [w] vs):∃v,vs=[v]/\RepB K F H w v:=by
 cases r with
 |cons h r=>cases r;exact⟨_,rfl,h⟩
theorem zzz:OpSN K (fun xs H Q=>∃i,xs=[.int i]/\Q (.int (if i < 0 then -i else i)) H) oAbs:=fun F H ws vs rv Q s r e q=>by
  match ws,e with
  | [.int i],e =>
    obtain rfl:=sI e;obtain⟨v,e1,h⟩:=r.one;subst e1;exact⟨i,by rw[h.int],q _ _ (.val (.int _))⟩
noncomputable def oInt:ON
 |[.int i]=>#v[i,0]
 |[.bl k]=>#v[(if k then 1 else 0),0]
 |_=>none
theorem z1x:OpSN K (fun xs H Q=>(∃i,xs=[.int i]/\Q (.int i) H)\/∃k,xs=[.bl k]/\Q (.int (if k then 1 else 0)) H) oInt:=fun F H ws vs rv Q s r e q=>by
  match ws,e with
  | [.int i],e =>
    obtain rfl:=sI e;obtain⟨v,e1,h⟩:=r.one;subst e1;exact .inl ⟨i,by rw[h.int],q _ _ (.val (.int _))⟩
  | [.bl k],e =>
    obtain rfl:=sI e;obtain⟨v,e1,h⟩:=r.one;subst e1;exact .inr ⟨k,by rw[h.bl],q _ _ (.val (.int _))⟩
noncomputable def z5e:ON
 |[w]=>(seqW w).bind λws=>#v[ws,2]
 |_=>none
theorem zwl:OpSN K (fun xs H Q=>∃p ys,xs=[.ref p]/\(SqL K H p ys\/SqT K H p ys)/\∀l,H l=none->Q (.ref l) (upd H l (.lst ys))) z5e:=fun F H ws vs rv Q s r e q=>by
  match ws,e with
  | [w],e =>
    obtain⟨ws,hs,e⟩:=bS (show (seqW _).bind _=_ from e);obtain rfl:=sI e;nofun;obtain⟨v,e1,h⟩:=r.one;obtain⟨a,us,e2,hq,p⟩:=h.seqW s hs;ac_rfl;subst e1 e2;exact⟨a,us,rfl,hq,λl hl=>q _ _ (.lst hl p)⟩
noncomputable def zco:ON
 |[.tup ws]=>#v[ws,3]
 |[w]=>(seqL w).bind λws=>#v[ws,3]
 |_=>none
theorem ztv:OpSN K (fun xs H Q=>∃p ys,xs=[.ref p]/\((SqL K H p ys/\∀l,H l=none->Q (.ref l) (upd H l (.tup ys)))\/(SqT K H p ys/\Q (.ref p) H))) zco:=fun F H ws vs rv Q s r e q=>by
  match ws,e with
  | [.tup ws],e =>
    obtain rfl:=sI e;nofun;obtain⟨v,e1,h⟩:=r.one;obtain⟨a,us,e2,hq,f,p⟩:=h.tup s;ac_rfl;subst e1 e2;exact⟨a,us,rfl,.inr ⟨.inl (.inl hq),q _ _ (.val (.tup f p))⟩⟩
  | [.lst ws],e =>
    obtain rfl:=sI e;nofun;obtain⟨v,e1,h⟩:=r.one;obtain⟨a,us,e2,hq,p⟩:=h.lst s;ac_rfl;subst e1 e2;exact⟨a,us,rfl,.inl ⟨SqL.of' hq,λl hl=>q _ _ (.tup hl p)⟩⟩
  | [.frl ws],e =>
    obtain rfl:=sI e;nofun;obtain⟨v,e1,h⟩:=r.one;obtain⟨a,us,e2,hq,p⟩:=h.frl s;ac_rfl;subst e1 e2;exact⟨a,us,rfl,.inl ⟨hq,λl hl=>q _ _ (.tup hl p)⟩⟩
  |[.non],e=>exact noSome e
  |[.bl _],e=>exact noSome e
  |[.int _],e=>exact noSome e
  |[.str _],e=>exact noSome e
  |[.dic],e=>exact noSome e
  |[.dct _ _],e=>exact noSome e
  |[.dcz _ _],e=>exact noSome e
noncomputable def zlu:List W->Option (List Bool)
 |[]=>some []
 |.bl b::ws=>(zlu ws).bind λbs=>some (b::bs)
 |_=>none
noncomputable def zb1:List W->Option (List Int)
 |[]=>some []
 |.int b::ws=>(zb1 ws).bind λbs=>some (b::bs)
 |_=>none
theorem zpn:∀{ws:List W}{bs:List Bool},zlu ws=some bs->ws=bs.map W.bl
  |[],_,e=>by obtain rfl:=sI e;rfl
  | .bl b::ws,_,e=>by
    obtain⟨bs,h,e⟩:=bS (show (zlu ws).bind _=_ from e);obtain rfl:=sI e;rw[zpn h];rfl
  |.non::_,_,e=>by exact noSome e
  |.int _::_,_,e=>by exact noSome e
  |.str _::_,_,e=>by exact noSome e
  |.tup _::_,_,e=>by exact noSome e
  |.lst _::_,_,e=>by exact noSome e
  |.frl _::_,_,e=>by exact noSome e
theorem zcr:∀{ws:List W}{bs:List Int},zb1 ws=some bs->ws=bs.map W.int
  |[],_,e=>by obtain rfl:=sI e;rfl
  | .int b::ws,_,e=>by
    obtain⟨bs,h,e⟩:=bS (show (zb1 ws).bind _=_ from e);obtain rfl:=sI e;rw[zcr h];rfl
  |.non::_,_,e=>by exact noSome e
  |.bl _::_,_,e=>by exact noSome e
  |.str _::_,_,e=>by exact noSome e
  |.tup _::_,_,e=>by exact noSome e
  |.lst _::_,_,e=>by exact noSome e
  |.frl _::_,_,e=>by exact noSome e
theorem zfc:∀(ns:List Int),zb1 (ns.map W.int)=some ns
 |[]=>rfl
 |n::ns=>by show (zb1 (ns.map W.int)).bind _=_;rw[zfc ns];rfl
theorem zjs:∀(ns:List Bool),zlu (ns.map W.bl)=some ns
 |[]=>rfl
 |n::ns=>by show (zlu (ns.map W.bl)).bind _=_;rw[zjs ns];rfl
noncomputable def oBl (f:List Bool->Bool):ON
 |[w]=>(seqL w).bind λws=>(zlu ws).bind λbs=>some (.bl (f bs),false)
 |_=>none
theorem zzl {f:List Bool->Bool}:OpSN K (fun xs H Q=>∃(a:Addr) (bs:List Bool),xs=[.ref a]/\SqL K H a (bs.map V.bl)/\Q (.bl (f bs)) H) (oBl f):=fun F H ws vs rv Q s r e q=>by
  match ws,e with
  | [w],e =>
    nofun;obtain⟨ws,hs,e⟩:=bS (show (seqL _).bind _=_ from e);obtain⟨bs,hb,e⟩:=bS e;ac_rfl;obtain rfl:=sI e;nofun;obtain⟨v,e1,h⟩:=r.one;obtain⟨a,us,e2,hq,p⟩:=h.seqL s hs;ac_rfl;subst e1 e2;rw[zpn hb] at p;rw[p.bls] at hq;exact⟨a,bs,rfl,hq,q _ _ (.val (.bl _))⟩
noncomputable def oSum:ON
 |[w]=>(seqL w).bind λws=>(zb1 ws).bind λns=>#v[ns.sum,0]
 |_=>none
theorem z0v:OpSN K (fun xs H Q=>∃(a:Addr) (ns:List Int),xs=[.ref a]/\SqL K H a (ns.map V.int)/\Q (.int ns.sum) H) oSum:=fun F H ws vs rv Q s r e q=>by
  match ws,e with
  | [w],e =>
    nofun;obtain⟨ws,hs,e⟩:=bS (show (seqL _).bind _=_ from e);obtain⟨bs,hb,e⟩:=bS e;ac_rfl;obtain rfl:=sI e;nofun;obtain⟨v,e1,h⟩:=r.one;obtain⟨a,us,e2,hq,p⟩:=h.seqL s hs;ac_rfl;subst e1 e2;rw[zcr hb] at p;rw[p.ints] at hq;exact⟨a,bs,rfl,hq,q _ _ (.val (.int _))⟩
noncomputable def tyW:W->Option String
 |.non=>some "NoneType"
 |.bl _=>some "bool"
 |.int _=>some "int"
 |.str _=>some "str"
 |.tup _=>some "tuple"
 |.lst _=>some "list"
 |.frl _=>none
 |.dic=>none
 |.dct _ _=>none
 |.dcz _ _=>none
inductive Kd where
 |int|bool|str|tuple|list
 deriving DecidableEq
noncomputable def isiW (k:Kd):W->Option Bool
 |.non=>some false
 |.bl _=>some (k == .bool || k == .int)
 |.int _=>some (k == .int)
 |.str _=>some (k == .str)
 |.tup _=>some (k == .tuple)
 |.lst _=>some (k == .list)
 |.frl _=>none
 |.dic=>some false
 |.dct _ _=>some false
 |.dcz _ _=>none
noncomputable def oIsi (k:Kd) (w:W):Option (W × Bool):=(isiW k w).bind λb=>some (.bl b,false)
noncomputable abbrev GO:=En->Option (En × Option Int)
noncomputable def zcm:GO:=λen=>some (en,none)
noncomputable def zgu (g:GE):GO:=λen=>match g en with
 |some (en',(.int i,_))=>some (en',some i)
 |_=>none
noncomputable def tO (K:PySem.W.Frag) (g:GO):TO:=λσ H Q=>∃F pr en en' o,Rel K F pr en σ H/\g en=some (en',o)/\∀F' H',Same F F'->Rel K F' pr en' σ H'->Q o H'
theorem Res.isInt {F H:Hp}{pr:Prt}{en:En}{σ:St}{i:Int}{fl:Bool}{v:V}(h:Res K F H pr en σ (.int i,fl) v):v=.int i:=by
 cases fl with
 |false=>cases (show Rep K F (.int i) v from h);rfl
 |true=>obtain⟨_,_,_,e,_,_,_,q,_⟩:=h;subst e;cases q
theorem zm3 {σ:St}{H:Hp}{Q:Option Int->Hp->Prop}(h:tO K zcm σ H Q):zsl σ H Q:=by
 obtain⟨F,pr,en,en',o,R,h,q⟩:=h;cases h;exact q F H (.refl F) R
theorem zuu {g:GE}{σ:St}{H:Hp}{Q:Option Int->Hp->Prop} (h:tO K (zgu g) σ H Q):z4w (tE K g) σ H Q:=by
  nofun;obtain⟨F,pr,en,en',o,R,h,q⟩:=h;ac_rfl;unfold zgu at h;cases e:g en with
  |none=>simp only [e] at h;exact noSome h
  | some p =>
    obtain⟨e1,w,fl⟩:=p;cases w with
    |int c=>simp only [e] at h;cases h;exact⟨F,pr,en,_,_,R,e,λF' H' v s' R' z=>⟨c,z.isInt,q F' H' s' R'⟩⟩
    |_=>simp only [e] at h;exact noSome h
open HT in
theorem zp1 {prog:Program}{w:World}{A:Around}{E:Value->Shared->Prop}{s:Shared}{t sl:Addr}{items:Array Value}{vl vu:Value}{lo hi:Option Int}{Q:Value->Shared->Prop} (ht:IsTup s.heap t items) (hs:s.heap.IsSliceOf sl vl vu .none) (pl:IsPart vl lo) (pu:IsPart vu hi)
  (h0:sIx items.size 0 lo=0) (h1:sIx items.size items.size hi=items.size) (h:Q (.ref t) s):wpAny (model prog w) A (getItem (.ref t) (.ref sl)) Q E s:=by
 obtain⟨os,g1,g2,_⟩:=id hs;have ty:s.TypeIs (.ref sl) "slice" := ⟨os,g1,g2⟩;unfold getItem
 try with_reducible refine Cr ?_
 first|refine Aa (Ag ?_)|skip
 refine Aa (wpAny_sequenceKey ht.typeIs #v[0,9] ?_);refine Aa (Cd (name:=Str.ofString "__getitem__") ht.typeIs Eb (Cw Eb ht.typeIs entry_tuple_getitem ?_ (args_tuple_getitem _ _)));show wpAny _ _ (Builtin.Tuple.tupleItemsOf (.ref t) >>= _) _ _ s;refine Aa (tupleItemsOf_ ht ?_);refine Aa (wpAny_typeOf ty ?_);rw[if_pos #v[0,9]];refine Aa (zc8 hs pl pu ?_);rw[h0,h1];show wpAny _ _ (if ((((0:Nat):Int) == 0 && (1:Int) == 1 && (items.size - 0) == items.size)=true) then _ else _) _ _ s;rw[if_pos (by simp)];unfold Builtin.Tuple.tupleIsExact;refine Aa (Aa (wpAny_typeOf ht.typeIs (Ag ?_)));rw[if_pos #v[0,9]];refine Aa (Eg (Ag ⟨_,rfl,?_⟩));exact Ag h
noncomputable def rSlW (K:PySem.W.Frag):V->Option Int->Option Int->Hp->VK->Prop:=λx lo hi H Q=>∃a xs,x=.ref a/\SqT K H a xs/\HT.sIx xs.length 0 lo=0/\HT.sIx xs.length xs.length hi=xs.length/\Q x H
theorem z0d {X:Cx}:SlR X (rSlW X.K):=by
 intro pins s σ H x v vl vu lo hi sl Q I rx hs pl pu h;nofun;obtain⟨a,xs,rfl,hx,h0,h1,q⟩:=h;ac_rfl;cases rx;nofun;obtain⟨its,r,ht,hz⟩:=I.tuple hx;ac_rfl;have hlen:its.toArray.size=xs.length:=by rw[Am];exact r.length.symm
 exact⟨"tuple",_,PyProof.Rows.slot_tuple_getitem.lookup,ht.typeIs,zp1 ht hs pl pu (by rw[hlen];exact h0) (by rw[hlen];exact h1) ⟨.ref a,H,I,rfl,q⟩⟩
noncomputable def cutW (xs:List W) (lo hi:Option Int):List W:=(xs.drop (HT.sIx xs.length 0 lo)).take (HT.sIx xs.length xs.length hi - HT.sIx xs.length 0 lo)
noncomputable def oSl (w:W) (lo hi:Option Int):Option (W × Bool):=match w with
 |.lst ws=>#v[(cutW ws lo hi),2]
 |.frl ws=>#v[(cutW ws lo hi),2]
 |.tup ws=>#v[(cutW ws lo hi),3]
 |_=>none
noncomputable def rSlB (K:PySem.W.Frag):V->Option Int->Option Int->Hp->VK->Prop:=λx lo hi H Q=>(rSlL K x lo hi H Q\/rSlT K x lo hi H Q)\/rSlW K x lo hi H Q
theorem z3y {F H:Hp}{w:W}{v:V}{lo hi:Option Int}{rv:W × Bool}{Q:VK} (s:Same F H) (r:RepB K F H w v) (e:oSl w lo hi=some rv) (q:∀u H',Out K F H rv u H'->Q u H'):rSlB K v lo hi H Q:=by
  have cut:∀{ws:List W}{vs:List V},Reps K F ws vs->Reps K F (cutW ws lo hi) (cutV vs lo hi):=fun {ws vs} p=>by
    unfold cutW cutV;rw[<-p.length];exact (p.drop _).take _
  cases w with
  |lst ws=>obtain rfl:=sI e;obtain⟨a,vs,e1,h,p⟩:=r.lst s;exact .inl (.inl ⟨a,vs,e1,SqL.of' h,λl hl=>q _ _ (.lst hl (cut p))⟩)
  |frl ws=>obtain rfl:=sI e;obtain⟨a,vs,e1,h,p⟩:=r.frl s;exact .inl (.inl ⟨a,vs,e1,h,λl hl=>q _ _ (.lst hl (cut p))⟩)
  | tup ws =>
    obtain rfl:=sI e;obtain⟨a,vs,e1,h,hf,p⟩:=r.tup s;by_cases y:HT.sIx vs.length 0 lo=0/\HT.sIx vs.length vs.length hi=vs.length
    · refine .inr ⟨a, vs, e1, .inl (.inl h), y.1, y.2, ?_⟩
      have ew:cutW ws lo hi=ws:=by
        unfold cutW;rw[p.length,y.1,y.2,Ey,Nat.sub_zero,<-p.length,Co]
      rw[ew] at q;subst e1;exact q _ _ (.val (.tup hf p))
    · exact .inl (.inr ⟨a,vs,e1,.inl (.inl h),y,λl hl=>q _ _ (.tup hl (cut p))⟩)
  |_=>exact noSome e
noncomputable def gSl (a:GA) (lo hi:GO):GE:=λen=>(a en).bind λp=>(lo p.1).bind λl=>(hi l.1).bind λh=>(resA h.1 p.2).bind λw=>(oSl w l.2 h.2).bind λr=>some (h.1,r)
theorem z2w {a:GA}{lo hi:GO}{σ:St}{H:Hp}{Q:VK}(h:tE K (gSl a lo hi) σ H Q):tSl (rSlB K) (tA K a) (tO K lo) (tO K hi) σ H Q:=by
 nofun;obtain⟨F,pr,en,en',rv,R,h,q⟩:=h;obtain⟨⟨e1,x1⟩,h1,h⟩:=bS h;obtain⟨⟨e2,l⟩,h2,h⟩:=bS h;obtain⟨⟨e3,u⟩,h3,h⟩:=bS h;obtain⟨w1,hw1,h⟩:=bS h;obtain⟨r',hr,h⟩:=bS h;ac_rfl;cases h;refine⟨F,pr,en,e1,x1,R,h1,λF1 H1 v1 s1 R1 a1=>⟨F1,pr,e1,e2,l,R1,h2,λF2 H2 s2 R2=>⟨F2,pr,e2,e3,u,R2,h3,λF3 H3 s3 R3=>?_⟩⟩⟩;refine z3y R3.sub ((a1.mono (s2.trans s3)).repB R3 hw1) hr λv H' z=>?_;nofun;obtain⟨F4,s4,R4,y⟩:=z.close R3;ac_rfl;exact q F4 H' v (s1.trans (s2.trans (s3.trans s4))) R4 y
end
structure ItOk (K:PySem.W.Frag) (F:Hp) (J:It) (ws:List W):Prop where
 go:∀i H,Same F H->i<ws.length->J.go i H
 stop:∀H,Same F H->J.stop ws.length H
 yld:∀i H x H',Same F H->i<ws.length->J.yld i H x H'->∃w,ws[i]?=some w/\Out K F H (w,false) x H'
noncomputable def tI (K:PySem.W.Frag) (g:GL):TI:=λσ H R=>∃F pr en en' ws,Rel K F pr en σ H/\g en=some (en',ws)/\∀F' H' J,Same F F'->Rel K F' pr en' σ H'->ItOk K F' J ws->R J H'
section
variable {K:PySem.W.Frag}{F H:Hp}
theorem zca {F F' : Hp}{a:Addr}{vs:List V}(s:Same F F')(h:SqT K F a vs):SqT K F' a vs:=by
 rcases h with (h|⟨o,h⟩)|h
 ·exact .inl (.inl (s _ _ h))
 ·exact .inl (.inr ⟨o,s _ _ h⟩)
 ·exact .inr h
theorem zpc {a:Addr}{vs:List V}{ws:List W}(h:SqL K F a vs)(r:Reps K F ws vs):ItOk K F (Itl K a) ws where
 go:=λi H s hi=>⟨vs,vs[i]'(by rw[<-r.length];exact hi),s.seq h,by rw[Ae]⟩
 stop:=λH s=>⟨vs,s.seq h,by rw[r.length];exact Af _⟩
 yld:=λi H x H' s hi y=>by
  obtain⟨e,y⟩:=y;subst e;obtain⟨w,e,q⟩:=r.getV (y vs (s.seq h));exact⟨w,e,.val q⟩
theorem z35 {a:Addr}{vs:List V}{ws:List W}(h:SqT K F a vs)(r:Reps K F ws vs):ItOk K F (Itt K a) ws where
 go:=λi H s hi=>⟨vs,vs[i]'(by rw[<-r.length];exact hi),zca s h,by rw[Ae]⟩
 stop:=λH s=>⟨vs,zca s h,by rw[r.length];exact Af _⟩
 yld:=λi H x H' s hi y=>by
  obtain⟨e,y⟩:=y;subst e;obtain⟨w,e,q⟩:=r.getV (y vs (zca s h));exact⟨w,e,.val q⟩
noncomputable def rngW (lo:Int) (n:Nat):List W:=(List.range n).map λk=>W.int (lo+(k:Nat))
theorem zvz (lo:Int)(n:Nat):ItOk K F (Itr lo n) (rngW lo n) where
 go:=λi H s hi=>by unfold rngW at hi;rw[Ac,Bh] at hi;exact hi
 stop:=λH s=>by unfold rngW;rw[Ac,Bh];exact Af n
 yld:=λi H x H' s hi y=>by
  obtain⟨e,y⟩:=y;subst e y;unfold rngW at hi ⊢;rw[Ac,Bh] at hi;exact⟨_,by rw[Ap,Gu hi];rfl,.val (.int _)⟩
noncomputable def zgm (ws:List W) (k:Nat):List W:=match ws with
 |[]=>[]
 |w::ws=>.tup [.int k,w]::zgm ws (k+1)
theorem zb2:∀(ws:List W) (k:Nat),(zgm ws k).length=ws.length
 |[],_=>rfl
 |_::ws,k=>congrArg (· + 1) (zb2 ws (k+1))
theorem enumW_get:∀{ws:List W}{k i:Nat}{w:W},ws[i]?=some w->(zgm ws k)[i]?=some (.tup [.int (k+i:Nat),w])
  |[],_,_,_,e=>by simp at e
  |w::ws,k,0,_,e=>by simp at e;subst e;rfl
  | w::ws,k,i+1,u,e=>by
    have:=enumW_get (ws:=ws) (k:=k+1) (i:=i) (w:=u) (by simpa using e);show (zgm ws (k+1))[i]?=_;rw[this];have:k+1+i=k+(i+1):=by omega
    rw[this]
theorem z1r {a:Addr}{vs:List V}{ws:List W}(h:SqL K F a vs)(r:Reps K F ws vs):ItOk K F (Ite K a) (zgm ws 0) where
 go:=λi H s hi=>by rw[zb2] at hi;exact⟨vs,vs[i]'(by rw[<-r.length];exact hi),s.seq h,by rw[Ae]⟩
 stop:=λH s=>⟨vs,s.seq h,by rw[zb2,r.length];exact Af _⟩
 yld:=λi H x H' s hi y=>by
  nofun;obtain⟨p,v,e,hp,e2,y⟩:=y;ac_rfl;subst e e2;obtain⟨w,e,q⟩:=r.getV (y vs (s.seq h));refine⟨_,enumW_get e,?_⟩;rw[Cf];exact .tup hp (.cons (.int _) (.cons q .nil))
end
section
variable {X:Cx}{tg:Expr}
noncomputable def iSeq (K:PySem.W.Frag) (tl:TE):TI:=λσ H R=>tl σ H λx H1=>∃a,x=.ref a/\((∃xs,SqL K H1 a xs)/\R (Itl K a) H1\/(∃xs,SqT K H1 a xs)/\R (Itt K a) H1)
theorem zuv {l:Expr}{tl:TE}(hl:PE X l tl):PI X tg l (iSeq X.K tl):=λpins s σ H R I h =>
 thn (hl pins s σ H _ I h) λv s1 ⟨x,H1,I1,r1,a,e,q1⟩=>by
  subst e;cases r1;have fp:∀b∈[s1.heap.objs.size],FpOk X pins H1 b:=λb hb=>by
   rw[Aq] at hb;subst hb;exact I1.fpOk (Af _) (I1.hok.fresh (Af _))
  rcases q1 with⟨⟨xs,hq⟩,q⟩|⟨⟨xs,hq⟩,q⟩
  ·obtain⟨its,_,p,_⟩:=I1.list hq;exact Gf p.isList ⟨_,_,_,_,H1,rfl,I1.kept (t':=s1.toks) λb o e=>Ab _ e,zt7 a _,⟨_,Ak _ rfl,rfl,rfl⟩,fp,q⟩
  ·obtain⟨its,_,p,_⟩:=I1.tuple hq;exact Hn (show s1.heap.IsTuple a its.toArray from p) ⟨_,_,_,_,H1,rfl,I1.kept (t':=s1.toks) λb o e=>Ab _ e,zp5 a _,⟨_,Ak _ rfl,rfl,rfl⟩,fp,q⟩
end
noncomputable def zbd (g:GE):GL:=λen=>(g en).bind λp=>(seqW p.2.1).bind λws=>some (p.1,ws)
noncomputable def zey (i:Int):Bool:=decide (-(2 ^ 62)<=i) && decide (i<2 ^ 62)
noncomputable def zb4 (as:GAs):GL:=λen=>(as en).bind λp=>match za6 p.1 p.2 with
 |some [.int j]=>if zey j then some (p.1,rngW 0 j.toNat) else none
 |_=>none
noncomputable def z7g (as:GAs):GL:=λen=>(as en).bind λp=>match za6 p.1 p.2 with
 |some [.int i,.int j]=>if zey i && zey j then some (p.1,rngW i (j - i).toNat) else none
 |_=>none
noncomputable def gRev (g:GE):GL:=λen=>(g en).bind λp=>(seqL p.2.1).bind λws=>some (p.1,ws.reverse)
theorem zo5 {i:Int}(h:zey i=true):-(2 ^ 62)<=i/\i<2 ^ 62:=by
 unfold zey at h;rw[Ad] at h;exact⟨Ar h.1,Ar h.2⟩
section
variable {K:PySem.W.Frag}{σ:St}{H:Hp}
theorem zf9 {g:GE}{R:It->Hp->Prop} (h:tI K (zbd g) σ H R):iSeq K (tE K g) σ H R:=by
  nofun;obtain⟨F,pr,en,en',ws,Re,h,q⟩:=h;obtain⟨⟨e1,rv⟩,h1,h⟩:=bS h;obtain⟨us,hs,h⟩:=bS h;ac_rfl;cases h;refine⟨F,pr,en,e1,rv,Re,h1,λF1 H1 v s1 R1 z=>?_⟩;nofun;obtain⟨F2,s2,R2,y⟩:=z.freeze R1;obtain⟨w,fl⟩:=rv;ac_rfl;cases w with
  | lst xs=>obtain rfl:=sI hs;cases y with
    |lst y r=>exact⟨_,rfl,.inl ⟨⟨_,SqL.of' (R2.sub _ _ y)⟩,q F2 H1 _ (s1.trans s2) R2 (zpc (SqL.of' y) r)⟩⟩
  | frl xs=>obtain rfl:=sI hs;cases y with
    |frl y r=>exact⟨_,rfl,.inl ⟨⟨_,R2.sub.seq y⟩,q F2 H1 _ (s1.trans s2) R2 (zpc y r)⟩⟩
  | tup xs=>obtain rfl:=sI hs;cases y with
    |tup y r=>exact⟨_,rfl,.inr ⟨⟨_,.inl (.inl (R2.sub _ _ y))⟩,q F2 H1 _ (s1.trans s2) R2 (z35 (.inl (.inl y)) r)⟩⟩
  |_=>cases hs
theorem zsb {as:GAs}{R:It->Hp->Prop} (h:tI K (zb4 as) σ H R):z5b (tAs K as) σ H R:=by
  nofun;obtain⟨F,pr,en,en',ws,Re,h,q⟩:=h;obtain⟨⟨e1,xs⟩,h1,h⟩:=bS h;ac_rfl;refine⟨F,pr,en,e1,xs,Re,h1,λF1 H1 vs s1 R1 a1=>?_⟩;cases e:za6 e1 xs with
  |none=>simp only [e] at h;exact noSome h
  | some us =>
    have rr:=a1.repBs R1 e
    match us,e,rr with
    | [.int j],e,rr =>
      simp only [e] at h;split at h
      · rename_i z
        cases h;obtain⟨v,e1,hv⟩:=rr.one;subst e1;exact⟨j,by rw[hv.int],(zo5 z).1,(zo5 z).2,q F1 H1 _ s1 R1 (zvz 0 j.toNat)⟩
      · exact noSome h
    |[],e,_=>simp only [e] at h;exact noSome h
    |.non::_,e,_=>simp only [e] at h;exact noSome h
    |.bl _::_,e,_=>simp only [e] at h;exact noSome h
    |.str _::_,e,_=>simp only [e] at h;exact noSome h
    |.tup _::_,e,_=>simp only [e] at h;exact noSome h
    |.lst _::_,e,_=>simp only [e] at h;exact noSome h
    |.frl _::_,e,_=>simp only [e] at h;exact noSome h
    |.dic::_,e,_=>simp only [e] at h;exact noSome h
    |.dct _ _::_,e,_=>simp only [e] at h;exact noSome h
    |.dcz _ _::_,e,_=>simp only [e] at h;exact noSome h
    |.int _::_::_,e,_=>simp only [e] at h;exact noSome h
end
inductive Tg where
 |nm (i:Nat)
 |tp (is:List Nat)
 |nt (i:Nat) (js:List Nat)
noncomputable def setAll (mp:List Nat):List Nat->List W->En->Option En
 |[],[],en=>some en
 |i::is,w::ws,en=>if mp.contains i || !decide (i<en.length) then none else setAll mp is ws (en.set i (#v[w,6]))
 |_,_,_=>none
noncomputable def tgSet (mp:List Nat):Tg->W->En->Option En
 |.nm i,w,en=>if mp.contains i || !decide (i<en.length) then none else some (en.set i (#v[w,6]))
 |.tp is,.tup ws,en=>setAll mp is ws en
 |.tp is,.lst ws,en=>setAll mp is ws en
 |.nt i js,.tup [w,.tup ws],en=>if mp.contains i || !decide (i<en.length) then none else setAll mp js ws (en.set i (#v[w,6]))
 |_,_,_=>none
noncomputable def zh3:List Nat->TGs
 |[]=>gNil
 |i::is=>zvu (zmd i) (zh3 is)
noncomputable def ztg (K:PySem.W.Frag) (n:Nat) (t:TGs):TG:=λv σ H Q=>∃a xs,v=.ref a/\(SqT K H a xs\/SqL K H a xs)/\xs.length=n/\t xs σ H Q
theorem z02 {X:Cx}{es:List Expr}{k:Nat}{t:TGs}{n:Nat}{pos:Pos}(hc:X.calm=true)(h:PGs X es t)(hn:(assignEach es X.env).length=n)(hst:(assignEach es X.env).findIdx? (·.1)=none):PG X (.Tuple es k pos) (ztg X.K n t):=by
 intro pins s σ H v u Q I r hw;nofun;obtain⟨a,xs,e1,hq,hl,hw⟩:=hw;ac_rfl;rcases hq with hq|hq
 ·exact z4i hc h hn hst pins s σ H v u Q I r ⟨a,xs,e1,hq,hl,hw⟩
 ·subst e1;cases r;nofun;obtain⟨its,rv,⟨o,m,q1,q2,_,q3⟩,hz⟩:=I.list hq;ac_rfl;rw[assign_Tuple];refine Aa (Hu ?_);unfold unpack;have hs:(assignEach es X.env).length=its.toArray.size:=by rw[Am,hn,<-hl,rv.length]
  rw[hs,hst];refine Aa (Cr (PySem.W.kun_itemsOf (I.ok.hd hc) ⟨o,q1,q2,m,q3⟩ λh' hx=>?_));have I1:Inv X pins σ H { s with heap:=h' }:=I.kept (t':=s.toks) λb o e=>hx b o (Bc (Ao e)) e;exact h pins _ σ H xs _ Q I1 (by simpa using rv) hw
noncomputable def TGof (K:PySem.W.Frag):Tg->TG
 |.nm i=>zmd i
 |.tp is=>ztg K is.length (zh3 is)
 |.nt i js=>ztg K 2 (zvu (zmd i) (zvu (ztg K js.length (zh3 js)) gNil))
noncomputable def Keep (mp:List Nat) (σ σ' : St):Prop:=∀i∈mp,σ'[i]?=σ[i]?
theorem Keep.refl (mp:List Nat)(σ:St):Keep mp σ σ:=λ_ _=>rfl
theorem Keep.trans {mp:List Nat}{σ σ1 σ2:St}(a:Keep mp σ σ1)(b:Keep mp σ1 σ2):Keep mp σ σ2:=λi h=>(b i h).trans (a i h)
theorem Keep.set {mp:List Nat}{σ:St}{i:Nat}(h:mp.contains i=false)(v:Option V):Keep mp σ (σ.set i v):=λj hj=>by
 have:i≠j:=λe=>by subst e;rw[List.contains_iff_mem.mpr hj] at h;cases h
 exact Df this
section
variable {K:PySem.W.Frag}{F H:Hp}{pr:Prt}
theorem zd6 {mp:List Nat}{Q:St->Hp->Prop}:∀{is:List Nat}{ws:List W}{vs:List V}{en en' : En}{σ:St},Rel K F pr en σ H->Reps K F ws vs->setAll mp is ws en=some en'->(∀σ',Rel K F pr en' σ' H->Keep mp σ σ'->Q σ' H)->zh3 is vs σ H Q
  |[],[],_,en,en',σ,R,.nil,h,q=>by obtain rfl:=sI h;exact⟨rfl,q σ R (.refl _ _)⟩
  | i::is,w::ws,_,en,en',σ,R,.cons (v:=v) (vs:=vs) h0 r,h,q=>by
    unfold setAll at h;split at h
    · exact noSome h
    · rename_i z
      rw[By,not_or,Bu,Bu,Dr] at z;refine⟨v,vs,rfl,?_⟩;exact zd6 (R.store (r:=(w,false)) (i:=i) h0 (Ar z.2)) r h λσ' R' k=>q σ' R' ((Keep.set z.1 _).trans k)
  |[],_::_,_,_,_,_,_,_,h,_=>by exact noSome h
  |_::_,[],_,_,_,_,_,_,h,_=>by exact noSome h
theorem zq7 {mp:List Nat}:∀(is:List Nat) (ws:List W) (en en' : En),setAll mp is ws en=some en'->is.length=ws.length:=by
  intro is
  induction is with
  | nil=>intro ws en en' h;cases ws with
    |nil=>rfl
    |cons _ _=>exact noSome h
  | cons i is ih=>intro ws en en' h;cases ws with
    |nil=>exact noSome h
    | cons w ws =>
      unfold setAll at h;split at h
      · exact noSome h
      · exact congrArg (· + 1) (ih _ _ _ h)
theorem zr6 {mp is:List Nat}{ws:List W}{v:V}{en en' : En}{σ:St}{Q:St->Hp->Prop}(R:Rel K F pr en σ H)(h0:Rep K F (.tup ws) v)(h:setAll mp is ws en=some en')(q:∀σ',Rel K F pr en' σ' H->Keep mp σ σ'->Q σ' H):ztg K is.length (zh3 is) v σ H Q:=by
 cases h0 with
 |tup hf r=>exact⟨_,_,rfl,.inl (.inl (.inl (R.sub _ _ hf))),by rw[zq7 is ws en en' h,r.length],zd6 R r h q⟩
theorem zrt {mp:List Nat}{T:Tg}{w:W}{v:V}{en en' : En}{σ:St}{Q:St->Hp->Prop} (R:Rel K F pr en σ H) (h0:Rep K F w v) (h:tgSet mp T w en=some en') (q:∀σ',Rel K F pr en' σ' H->Keep mp σ σ'->Q σ' H):TGof K T v σ H Q:=by
  cases T with
  | nm i =>
    unfold tgSet at h;simp only at h;split at h
    · exact noSome h
    · rename_i z
      rw[By,not_or,Bu,Bu,Dr] at z;obtain rfl:=sI h;exact q _ (R.store (r:=(w,false)) h0 (Ar z.2)) (Keep.set z.1 _)
  | tp is =>
    cases w with
    |tup ws=>exact zr6 R h0 h q
    | lst ws =>
      cases h0 with
      | lst hf r =>
        exact⟨_,_,rfl,.inr (SqL.of' (R.sub _ _ hf)),by rw[zq7 is ws en en' h,r.length],zd6 R r h q⟩
    |_=>exact noSome h
  | nt i js =>
    unfold tgSet at h;split at h
    · rename_i e;cases e
    · rename_i e;cases e
    · rename_i e;cases e
    · rename_i i2 js2 u us e3
      cases e3;cases h0 with
      | tup hf r =>
        cases r with
        | cons r1 r =>
          cases r with
          | cons r2 r =>
            cases r;split at h
            · exact noSome h
            · rename_i z
              rw[By,not_or,Bu,Bu,Dr] at z;exact⟨_,_,rfl,.inl (.inl (.inl (R.sub _ _ hf))),rfl,_,_,rfl,_,_,rfl,zr6 (R.store (r:=(u,false)) (i:=i) r1 (Ar z.2)) r2 h λσ' R' k=>⟨rfl,q σ' R' ((Keep.set z.1 _).trans k)⟩⟩
    · exact noSome h
end
inductive Fl where
 |nx|ret (r:W × Bool)|brk|cnt
noncomputable abbrev GS:=En->Option (En × Fl)
noncomputable def zx4 (K:PySem.W.Frag) (mp:List Nat) (F:Hp) (pr:Prt) (σ:St) (D:Ends) (en' : En):Fl->Prop
 |.nx=>∀F' σ' H',Same F F'->Rel K F' pr en' σ' H'->Keep mp σ σ'->D.nx σ' H'
 |.brk=>∀F' σ' H',Same F F'->Rel K F' pr en' σ' H'->Keep mp σ σ'->D.bk σ' H'
 |.cnt=>∀F' σ' H',Same F F'->Rel K F' pr en' σ' H'->Keep mp σ σ'->D.ct σ' H'
 |.ret r=>∀F' σ' H' v,Same F F'->Rel K F' pr en' σ' H'->Keep mp σ σ'->Res K F' H' pr en' σ' r v->D.rt v H'
noncomputable def tS (K:PySem.W.Frag) (mp:List Nat) (g:GS):TS:=λD σ H=>∃F pr en en' fl,Rel K F pr en σ H/\g en=some (en',fl)/\zx4 K mp F pr σ D en' fl
theorem zx4.step {K:PySem.W.Frag}{mp:List Nat}{F F1:Hp}{pr:Prt}{σ σ1:St}{D:Ends}{en' : En}{fl:Fl}(s:Same F F1)(k:Keep mp σ σ1)(h:zx4 K mp F pr σ D en' fl):zx4 K mp F1 pr σ1 D en' fl:=by
 cases fl with
 |nx=>exact λF' σ' H' s' R' k'=>h F' σ' H' (s.trans s') R' (k.trans k')
 |brk=>exact λF' σ' H' s' R' k'=>h F' σ' H' (s.trans s') R' (k.trans k')
 |cnt=>exact λF' σ' H' s' R' k'=>h F' σ' H' (s.trans s') R' (k.trans k')
 |ret r=>exact λF' σ' H' v s' R' k' z=>h F' σ' H' v (s.trans s') R' (k.trans k') z
noncomputable def zd2:GS:=λen=>some (en,.nx)
noncomputable def gBrk:GS:=λen=>some (en,.brk)
noncomputable def gCnt:GS:=λen=>some (en,.cnt)
noncomputable def gSeq (a b:GS):GS:=λen=>match a en with
 |some (en',.nx)=>b en'
 |some (en',f)=>some (en',f)
 |none=>none
noncomputable def gRet (g:GE):GS:=λen=>(g en).bind λp=>some (p.1,.ret p.2)
noncomputable def z7z:GS:=λen=>some (en,.ret (.non,false))
noncomputable def gIfS (c:GT) (a b:GS):GS:=λen=>match c en with
 |#v[en',5]=>a en'
 |#v[en',6]=>b en'
 |none=>none
noncomputable def zem (g:GE):GS:=λen=>(g en).bind λp=>some (p.1,.nx)
noncomputable def gSet (mp:List Nat) (i:Nat) (g:GE):GS:=λen=>(g en).bind λp=>if mp.contains i || !decide (i<p.1.length) then none else some (p.1.set i (some p.2),.nx)
noncomputable def gAsg (mp:List Nat) (T:Tg) (g:GE):GS:=λen=>(g en).bind λp=>(tgSet mp T p.2.1 p.1).bind λe=>some (e,.nx)
section
variable {K:PySem.W.Frag}{mp:List Nat}{D:Ends}{σ:St}{H:Hp}
theorem zjq (h:tS K mp zd2 D σ H):zzv D σ H:=by
 obtain⟨F,pr,en,en',fl,R,h,q⟩:=h;cases h;exact q F σ H (.refl F) R (.refl _ _)
theorem zv8 {a b:GS} (h:tS K mp (gSeq a b) D σ H):tSeq (tS K mp a) (tS K mp b) D σ H:=by
  nofun;obtain⟨F,pr,en,en',fl,R,h,q⟩:=h;ac_rfl;unfold gSeq at h;cases e:a en with
  |none=>simp only [e] at h;exact noSome h
  | some p =>
    obtain⟨e1,f1⟩:=p;refine⟨F,pr,en,e1,f1,R,e,?_⟩;cases f1 with
    | nx =>
      simp only [e] at h;exact λF1 σ1 H1 s1 R1 k1=>⟨F1,pr,e1,en',fl,R1,h,q.step s1 k1⟩
    |brk=>simp only [e] at h;cases h;exact q
    |cnt=>simp only [e] at h;cases h;exact q
    |ret r=>simp only [e] at h;cases h;exact q
theorem zn8 {g:GE}(h:tS K mp (gRet g) D σ H):tRet (tE K g) D σ H:=by
 nofun;obtain⟨F,pr,en,en',fl,R,h,q⟩:=h;obtain⟨⟨e1,r⟩,h1,h⟩:=bS h;ac_rfl;cases h;exact⟨F,pr,en,e1,r,R,h1,λF' H' v s' R' z=>q F' σ H' v s' R' (.refl _ _) z⟩
theorem zx3 {c:GT}{a b:GS} (h:tS K mp (gIfS c a b) D σ H):tIfS (tT K c) (tS K mp a) (tS K mp b) D σ H:=by
  nofun;obtain⟨F,pr,en,en',fl,R,h,q⟩:=h;ac_rfl;unfold gIfS at h;cases e:c en with
  |none=>simp only [e] at h;exact noSome h
  | some p =>
    obtain⟨e1,d⟩:=p;refine⟨F,pr,en,e1,d,R,e,λF1 H1 s1 R1=>?_⟩;cases d with
    |true=>simp only [e] at h;exact iteT ⟨F1,pr,e1,en',fl,R1,h,q.step s1 (.refl _ _)⟩
    |false=>simp only [e] at h;exact iteF ⟨F1,pr,e1,en',fl,R1,h,q.step s1 (.refl _ _)⟩
theorem zu8 {g:GE}(h:tS K mp (zem g) D σ H):z37 (tE K g) D σ H:=by
 nofun;obtain⟨F,pr,en,en',fl,R,h,q⟩:=h;obtain⟨⟨e1,r⟩,h1,h⟩:=bS h;ac_rfl;cases h;exact⟨F,pr,en,e1,r,R,h1,λF' H' v s' R' z=>q F' σ H' s' R' (.refl _ _)⟩
theorem zjf {i:Nat}{g:GE}(h:tS K mp (gSet mp i g) D σ H):tAsg (tE K g) (zmd i) D σ H:=by
 nofun;obtain⟨F,pr,en,en',fl,R,h,q⟩:=h;obtain⟨⟨e1,r⟩,h1,h⟩:=bS h;ac_rfl;split at h
 ·exact noSome h
 ·rename_i z;rw[By,not_or,Bu,Bu,Dr] at z;cases h;exact⟨F,pr,en,e1,r,R,h1,λF' H' v s' R' y=>q F' _ H' s' (R'.store y (Ar z.2)) (Keep.set z.1 _)⟩
noncomputable def gPar (mp:List Nat) (i j:Nat) (a b:GE):GS:=λen=>(a en).bind λp=>(b p.1).bind λq=>if mp.contains i || mp.contains j || !decide (i<q.1.length) || !decide (j<q.1.length) then none else some ((q.1.set i (#v[p.2.1,6])).set j (some q.2),.nx)
noncomputable def zau (i:Nat) (k:GE) (g:GE):GS:=fun en=>(g en).bind fun p=>match p.1[i]? with
  | some (some _)=>(k p.1).bind fun q=>match q.2,q.1[i]? with
    |(.int n,_),some (#v[ws,2])=>(ixN ws.length n).bind λj=>some (q.1.set i (#v[(ws.set j p.2.1),2]),.nx)
    |_,_=>none
  |_=>none
theorem zqi {i:Nat}{k g:GE}(h:tS K mp (zau i k g) D σ H):tAsg (tE K g) (gSub (tVar i) (tE K k) z1d) D σ H:=by
 obtain⟨F,pr,en,en',fl,R,h,q⟩:=h;obtain⟨⟨e1,r1⟩,h1,h⟩:=bS h;refine⟨F,pr,en,e1,r1,R,h1,λF1 H1 v1 s1 R1 y1=>?_⟩;obtain⟨F2,s2,R2,x1⟩:=y1.freeze R1;split at h
 ·rename_i x0 hx0;obtain⟨⟨e2,r2⟩,h2,h⟩:=bS h;obtain⟨w0,f0⟩:=x0;obtain⟨v0,hv0⟩:=R2.has hx0;refine⟨v0,hv0,F2,pr,e1,e2,r2,R2,h2,λF3 H3 v2 s3 R3 y2=>?_⟩;split at h
  ·rename_i n fl2 ws eq1 eq2;simp only at eq1;subst eq1;obtain⟨j,hj,h⟩:=bS h;cases h;obtain⟨a,vs,ws',q1,q2,q3,q4,q5⟩:=R3.ownL eq2;cases q1;rw[hv0] at q2;cases q2;refine⟨a,vs,n,j,rfl,y2.isInt,q3,by rw[<-q5.length];exact hj,?_⟩;exact q F3 σ _ (s1.trans (s2.trans s3)) (R3.change eq2 hv0 (q5.set (x1.mono s3) j)) (.refl _ _)
  ·exact noSome h
 ·exact noSome h
noncomputable def gApp (i:Nat) (g:GE):GE:=fun en=>match en[i]? with
  | some (some (.lst _,true))=>(g en).bind fun p=>match p.1[i]? with
    |some (#v[ws,2])=>if ws.length<sizeLine then some (p.1.set i (#v[(ws++[p.2.1]),2]),(.non,false)) else none
    |_=>none
  |_=>none
theorem zvs {i:Nat}{g:GE}{Q:VK}(h:tE K (gApp i g) σ H Q):tBM K "list" zrn (tVar i) (zhd (tE K g) tNil) σ H Q:=by
 nofun;obtain⟨F,pr,en,en',r,R,h,q⟩:=h;ac_rfl;unfold gApp at h;split at h
 ·rename_i w0 hx0;nofun;obtain⟨a,vs,ws0,q1,q2,q3,q4,q5⟩:=R.ownL hx0;obtain⟨⟨e1,r1⟩,h1,h⟩:=bS h;ac_rfl;refine⟨.ref a,q2,.inl ⟨rfl,vs,SqL.of' q3⟩,F,pr,en,e1,r1,R,h1,λF1 H1 v1 s1 R1 y1=>?_⟩;nofun;obtain⟨F2,s2,R2,x1⟩:=y1.freeze R1;ac_rfl;split at h
  ·rename_i ws hx1;split at h
   ·rename_i hz;cases h;nofun;obtain⟨a',vs',ws',p1,p2,p3,p4,p5⟩:=R2.ownL hx1;ac_rfl;cases p1;rw[q2] at p2;cases p2;refine⟨a,vs',v1,rfl,rfl,p3,by rw[<-p5.length];exact hz,?_⟩;exact q F2 _ _ (s1.trans s2) (R2.change hx1 q2 (p5.append (.cons x1 .nil))) .non
   ·exact noSome h
  ·exact noSome h
 ·exact noSome h
noncomputable def gExt (i:Nat) (g:GE):GE:=fun en=>match en[i]? with
  | some (some (.lst _,true))=>(g en).bind fun p=>match p.2.1,p.1[i]? with
    |.lst us,some (#v[ws,2])=>if ws.length+us.length<=sizeLine then some (p.1.set i (#v[(ws++us),2]),(.non,false)) else none
    |_,_=>none
  |_=>none
theorem zv6 {i:Nat}{g:GE}{Q:VK} (h:tE K (gExt i g) σ H Q):tBM K "list" zr5 (tVar i) (zhd (tE K g) tNil) σ H Q:=by
  nofun;obtain⟨F,pr,en,en',r,R,h,q⟩:=h;ac_rfl;unfold gExt at h;split at h
  · rename_i w0 hx0
    nofun;obtain⟨a,vs,ws0,q1,q2,q3,q4,q5⟩:=R.ownL hx0;obtain⟨⟨e1,w1,f1⟩,h1,h⟩:=bS h;ac_rfl;refine⟨.ref a,q2,.inl ⟨rfl,vs,SqL.of' q3⟩,F,pr,en,e1,(w1,f1),R,h1,λF1 H1 v1 s1 R1 y1=>?_⟩;nofun;obtain⟨F2,s2,R2,x1⟩:=y1.freeze R1;ac_rfl;split at h
    · rename_i us ws eq1 hx1
      simp only at eq1 x1;subst eq1;split at h
      · rename_i hz
        cases h;nofun;obtain⟨a',vs',ws',p1,p2,p3,p4,p5⟩:=R2.ownL hx1;ac_rfl;cases p1;rw[q2] at p2;cases p2;cases x1 with
        | lst hb rb =>
          refine⟨a,_,vs',_,rfl,rfl,p3,R2.sub _ _ hb,by rw[<-p5.length,<-rb.length];exact hz,?_⟩;exact q F2 _ _ (s1.trans s2) (R2.change hx1 q2 (p5.append rb)) .non
      · exact noSome h
    · exact noSome h
  · exact noSome h
noncomputable def gAug (mp:List Nat) (o:O2) (i:Nat) (g:GA):GS:=λen=>match en[i]? with
 |some (#v[w,6])=>(g en).bind λp=>(resA p.1 p.2).bind λu=>(o w u).bind λr=>if mp.contains i || !decide (i<p.1.length) then none else some (p.1.set i (some r),.nx)
 |_=>none
noncomputable def zd8 (mp:List Nat) (T:Tg) (body:GS):List W->En->Option (En × Fl)
  |[],en=>some (en,.nx)
  | w::ws,en=>(tgSet mp T w en).bind fun e1=>match body e1 with
    |some (e2,.nx)=>zd8 mp T body ws e2
    |some (e2,.cnt)=>zd8 mp T body ws e2
    |some (e2,.brk)=>some (e2,.nx)
    |some (e2,.ret r)=>some (e2,.ret r)
    |none=>none
noncomputable def gFor (mp:List Nat) (T:Tg) (it:GL) (body:GS):GS:=λen=>(it en).bind λp=>zd8 mp T body p.2 p.1
theorem zxo {T:Tg}{it:GL}{body:GS} (h:tS K mp (gFor mp T it body) D σ H):tFor (tI K it) (TGof K T) (tS K mp body) D σ H:=by
  nofun;obtain⟨F,pr,en,en',fl,R,h,q⟩:=h;obtain⟨⟨e1,ws⟩,h1,h⟩:=bS h;ac_rfl;refine⟨F,pr,en,e1,ws,R,h1,λF1 H1 J s1 R1 ok=>?_⟩;refine⟨λi m σ' H'=>m=ws.length - i/\i<=ws.length/\∃F' e',Same F1 F'/\Rel K F' pr e' σ' H'/\Keep mp σ σ'/\zd8 mp T body (ws.drop i) e'=some (en',fl),⟨_,rfl,Bj _,F1,e1,.refl _,R1,.refl _ _,by simpa using h⟩,?_⟩;rintro i m σ' H' ⟨rfl,hi,F',e',s',R',k',hl⟩;by_cases hlt:i<ws.length
  · refine .inr ⟨ok.go i H' (s'.trans R'.sub) hlt, ?_⟩
    have hd:ws.drop i=ws[i]::ws.drop (i+1):=(Cq hlt);rw[hd] at hl;obtain⟨e2,h2,hl⟩:=bS (show (tgSet mp T ws[i] e').bind _=_ from hl);refine⟨λσ2 H2=>∃F2 e3,Same F1 F2/\Rel K F2 pr e3 σ2 H2/\Keep mp σ σ2/\zd8 mp T body (ws.drop (i+1)) e3=some (en',fl),?_,?_⟩
    · rintro σ2 H2 ⟨F2, e3, s2, R2, k2, hl2⟩
      exact⟨ws.length - (i+1),by omega,rfl,hlt,F2,e3,s2,R2,k2,hl2⟩
    · intro x H2 y
      obtain⟨w,ew,out⟩:=ok.yld i H' x H2 (s'.trans R'.sub) hlt y;rw[Ae hlt] at ew;obtain rfl:=sI ew;nofun;obtain⟨F3,s3,R3,z⟩:=(out.mono s').close R';ac_rfl;refine zrt (w:=ws[i]) R3 z h2 λσ3 R4 k4=>?_;cases eb:body e2 with
      |none=>simp only [eb] at hl;exact noSome hl
      | some p =>
        obtain⟨e5,f5⟩:=p;refine⟨F3,pr,e2,e5,f5,R4,eb,?_⟩;have sF:Same F1 F3:=s'.trans s3;cases f5 with
        | nx =>
          simp only [eb] at hl;exact λF6 σ6 H6 s6 R6 k6=>⟨F6,e5,sF.trans s6,R6,(k'.trans k4).trans k6,hl⟩
        | cnt =>
          simp only [eb] at hl;exact λF6 σ6 H6 s6 R6 k6=>⟨F6,e5,sF.trans s6,R6,(k'.trans k4).trans k6,hl⟩
        | brk =>
          simp only [eb] at hl;cases hl;exact λF6 σ6 H6 s6 R6 k6=>q F6 σ6 H6 (s1.trans (sF.trans s6)) R6 ((k'.trans k4).trans k6)
        | ret r =>
          simp only [eb] at hl;cases hl;exact λF6 σ6 H6 v s6 R6 k6 z=>q F6 σ6 H6 v (s1.trans (sF.trans s6)) R6 ((k'.trans k4).trans k6) z
  · have e : i = ws.length := by omega
    subst e;rw[List.drop_length] at hl;cases hl;exact .inl ⟨ok.stop H' (s'.trans R'.sub),q F' σ' H' (s1.trans s') R' k'⟩
end
section
variable {X:Cx}
end
section
variable {K:PySem.W.Frag}{σ:St}{H:Hp}
noncomputable def intW:W->Option Int
 |.int k=>some k
 |_=>none
end
section
variable {prog:Program}{w:World}{A:Around}{E:Value->Shared->Prop}{s:Shared}{it d:Addr}{o:Obj}{es:Array DictEntry}{i ep:Nat}
theorem zmk {Q:Value->Shared->Prop} (hd:(d == sysModules)=false) (ho:s.heap.get? d=some o) (hx:o.ExactDict) (hdat:o.data=.dict es ep)
  (hQ:Q (.ref s.heap.objs.size) { s with heap:=s.heap.push { cls:=.type "dict_keyiterator",data:=.fields #[.ref d,.int 0 0,.int es.size 0,.int ep 0] } }):wpAny (model prog w) A (pyIter (.ref d)) Q E s:=by
 have hT:s.TypeIs (.ref d) "dict" := ⟨o,ho,hx.1⟩;refine wpAny_pyIter_slot hT F.slot_dict_iter (Cw F.slot_dict_iter hT F.entry_dict_iter ?_ (F.args_dict_iter_1 _));unfold Builtin.«dict.__iter__» Builtin.Dict.dictSlotNone;refine Aa (Aa (wpAny_notOrdered_dict hT ?_));show wpAny _ _ (pure (Value.ref d)) _ _ s;refine Ag ?_;show wpAny _ _ (Builtin.Dict.showsAll d >>= _) _ _ s;unfold Builtin.Dict.showsAll;rw[if_neg (by rw[hd];decide)];refine Aa (Ag (Aa (wpAny_dictEntries ho hdat (Aa (wpAny_dictEpoch ho hdat ?_)))));refine Aa (Cg (Ag ⟨_,rfl,"dict_keyiterator",_,⟨_,Ak _ rfl,rfl⟩,F.slot_dict_keyiterator_next.lookup,?_⟩));simpa [rawInt] using hQ
theorem ztu {Q:Option Value->Shared->Prop} (hit:s.heap.IsKeyIter it d i es.size ep) (ho:s.heap.get? d=some o) (hdat:o.data=.dict es ep) (hi:i < es.size)
  (hQ:∀h',h'.IsKeyIter it d (i+1) es.size ep->Heap.SameBut it s.heap h'->Q (some es[i].key) { s with heap:=h' }):wpAny (model prog w) A (pyNext (.ref it)) Q E s:=by
 obtain⟨oi,hoi,hc,hd⟩:=id hit;unfold pyNext;refine Aa (Fv (Cd (name:=Str.ofString "__next__") hit.typeIs Ez (Cw Ez hit.typeIs F.entry_dict_keyiterator_next ?_ (F.args_dict_keyiterator_next_1 _))));refine Aa (Ag (Aa (Aa ?_)))
 first|refine Aa (Ep hit.typeIs (Ag ?_))|refine Aa (Fu hit.typeIs (Ag ?_))
 refine Aa (wpAny_fieldsOf hoi hd ?_);have own:Builtin.Dict_items.ownsTuple "dict_keyiterator" = false:=by decide
 simp only [own,Cn,Ek];show wpAny _ _ (if (Value.ref d == Value.none)=true then _ else _) _ _ s;rw[if_neg (show ¬ ((Value.ref d == Value.none)=true) from Ax)];refine Aa (Ag (Aa (wpAny_dictEntries ho hdat ?_)));rw[if_neg (by simp)];refine Aa (Ag (Aa (wpAny_dictEpoch ho hdat ?_)));rw[if_neg (by simp)];refine Ag ?_;simp only [show ¬ ((i:Int)<0) from by omega,Ek,Cs,Dw hi];refine Aa ?_
 first|refine Aa (Ep hit.typeIs (Ag ?_))|refine Aa (Fu hit.typeIs (Ag ?_))
 refine Aa (wpAny_isOneOf_keyiter hit.typeIs ?_);show wpAny _ _ (setField (.ref it) 1 (rawInt ((i:Int)+1)) >>= _) _ _ s;refine Aa (wpAny_setField hoi hd (by simp) ?_);have hit' : (s.heap.update it (Obj.mapFields (·.setIfInBounds 1 (rawInt ((i:Int)+1))))).IsKeyIter it d (i+1) es.size ep :=
  ⟨_,Heap.get?_update_self _ hoi (Obj.isFreed_of_fields (Hq hd _)),(Obj.cls_mapFields ..).trans hc,by rw[Hq hd];simp [rawInt]⟩
 refine Aa (Cr (Aa (wpAny_isOneOf_keyiter (s:={ s with heap:=s.heap.update it (Obj.mapFields (·.setIfInBounds 1 (rawInt ((i:Int)+1)))) }) hit'.typeIs ?_)));show wpAny _ _ (pure es[i].key) _ _ _;exact Ag (Ag ⟨_,rfl,Ag (hQ _ hit' (Cb ..))⟩)
theorem zyz {Q:Option Value->Shared->Prop} (hh:A.handled=none) (hit:s.heap.IsKeyIter it d i es.size ep) (ho:s.heap.get? d=some o) (hdat:o.data=.dict es ep) (hi:es.size<=i)
  (hQ:∀h',Heap.ExtBut it s.heap h'->Q none { s with heap:=h' }):wpAny (model prog w) A (pyNext (.ref it)) Q E s:=by
 obtain⟨oi,hoi,hc,hd⟩:=id hit;unfold pyNext;refine Aa (Fv (Cd (name:=Str.ofString "__next__") hit.typeIs Ez (Cw Ez hit.typeIs F.entry_dict_keyiterator_next ?_ (F.args_dict_keyiterator_next_1 _))));refine Aa (Ag (Aa (Aa ?_)))
 first|refine Aa (Ep hit.typeIs (Ag ?_))|refine Aa (Fu hit.typeIs (Ag ?_))
 refine Aa (wpAny_fieldsOf hoi hd ?_);have own:Builtin.Dict_items.ownsTuple "dict_keyiterator" = false:=by decide
 simp only [own,Cn,Ek];show wpAny _ _ (if (Value.ref d == Value.none)=true then _ else _) _ _ s;rw[if_neg (show ¬ ((Value.ref d == Value.none)=true) from Ax)];refine Aa (Ag (Aa (wpAny_dictEntries ho hdat ?_)));rw[if_neg (by simp)];refine Aa (Ag (Aa (wpAny_dictEpoch ho hdat ?_)));rw[if_neg (by simp)];refine Ag ?_;simp only [show ¬ ((i:Int)<0) from by omega,Ek,Cs,Do hi];refine Aa ?_
 first|refine Aa (Ep hit.typeIs (Ag ?_))|refine Aa (Fu hit.typeIs (Ag ?_))
 show wpAny _ _ (setField (.ref it) 0 .none >>= _) _ _ s;refine Aa (wpAny_setField hoi hd (by simp) ?_);show wpAny _ _ (newExc (.type "StopIteration") [] >>= _) _ _ _;refine Aa ?_;simp only [newExc,newTuple];refine Aa (Cg ?_ (by size_fits));refine Aa (m:=firstArgMember _ _) (wpAny_of_eq (a:=Value.none) (by first|rfl|(simp only [firstArgMember];rfl)) ?_);refine Cg ?_ (by size_fits);simp only [raiseNew];refine Aa (wpAny_handled ?_);rw[show A.in1.handled=none from hh];refine Aa (Ag (wpAny_throw ?_));refine Aa (wpAny_isInstance (T := "StopIteration") (b:=true) ⟨_,Ak _ rfl,rfl⟩ isSubtype_stop ?_);exact Ag (hQ _ (((Cb ..).extBut.push _).push _))
end
theorem zih {P:Program}{w:World}:∀{vs:List (Key × Value)}{us:List Value},us.length=vs.length->(∀(j:Nat) (v:Value),us[j]?=some v->∃k x,vs[j]?=some (k,x)/\(zai P w).is k v=true)->Vals (vs.map fun p=>kV p.1) us
  |[],[],_,_=>.nil
  |[],_::_,h,_=>nomatch h
  |_::_,[],h,_=>nomatch h
  | (k,x)::vs,u::us,h,q=>by
    refine .cons ?_ (zih (Ei h) λj v e=>q (j+1) v e);obtain⟨k',x',e,hk⟩:=q 0 u rfl;cases e;rcases keyIs_shape (show zll k u=true from hk) with⟨i,t,rfl,rfl⟩|⟨i,t,rfl,rfl⟩
    · exact⟨t,rfl⟩
    · exact⟨t,rfl⟩
theorem znm {kvs:List (Key × V)}{vs:List (Key × Value)}(r:KV kvs vs):(kvs.map λp=>kV p.1)=vs.map λp=>kV p.1:=by
 have:=congrArg (List.map kV) r.keys;rw[Be,Be] at this;exact this
noncomputable def ItDz (a:Addr) (o:Obj) (xs:List V):It:=⟨λi H=>i<xs.length/\∃u,H a=some (.frz o u),λi H x H'=>H'=H/\xs[i]?=some x,λi H=>xs.length<=i/\∃u,H a=some (.frz o u)⟩
theorem zt3 {P:Program}{w:World}{K:PySem.W.Frag}{tg:Expr}{a it:Addr}{o:Obj}{es:Array DictEntry}{ep:Nat}{xs:List V}(hdat:o.data=.dict es ep)(hv:Vals xs (es.toList.map (·.key))):Turn P w K tg (ItDz a o xs) [it] it (λi h=>h.IsKeyIter it a i es.size ep) where
 mem:=by simp
 obj:=λi h st b hb=>by
  have e:b=it:=by simpa using hb
  subst e;obtain⟨o,e,c,d⟩:=st;exact⟨o,e,λv z=>by rw[d] at z;cases z⟩
 keep:=λi h h' st k=>st.at λo e=>k it (by simp) o e
 item:=by
  intro X hP hw hK hc i pins s σ H E I hf st hg;subst hP hw hK;obtain⟨hi,u,hu⟩:=hg;have ho:s.heap.get? a=some o:=(show ObjOk X.prog X.w H s.heap a (.frz o u) from I.hok a _ hu).1;have hl:xs.length=es.size:=by have:=hv.length;simpa using this
  obtain⟨f0,f1,f2,f3,f4,f5⟩:=hf it (by simp);have hi' : i<es.size:=by omega
  obtain⟨y,hy,ry⟩:=hv.get (Ae hi);rw[Ap,Dv,Dw hi'] at hy;obtain rfl:=sI hy;refine ztu st ho hdat hi' λh' st' sb=>?_;have I1:Inv X pins σ H { s with heap:=h' }:=I.turned (t':=s.toks) (λb o hb e=>(sb.2 b hb).trans e) f0 f1 f3 f4 f5;obtain⟨o',e,c,d⟩:=id st';exact⟨_,rfl,zwf (s:={ s with heap:=h' }) e c d #v[0,9] ⟨xs[i],H,I1,ry,⟨rfl,Ae hi⟩,st',λb hb=>(hf b hb).1⟩⟩
 done:=by
  intro X hP hw hK hc i pins s σ H E I hf st hg;subst hP hw hK;obtain⟨hi,u,hu⟩:=hg;have ho:s.heap.get? a=some o:=(show ObjOk X.prog X.w H s.heap a (.frz o u) from I.hok a _ hu).1;have hl:xs.length=es.size:=by have:=hv.length;simpa using this
  obtain⟨f0,f1,f2,f3,f4,f5⟩:=hf it (by simp);exact zyz (I.ok.hd hc) st ho hdat #v[] λh' eb=>⟨rfl,I.turned (t':=s.toks) (λb o hb e=>eb b o hb e) f0 f1 f3 f4 f5⟩
 self:=λ_ _ _ _ _ st h=>wpAny_pyIter_keyiter st h
noncomputable def Fz (H:Hp) (a:Addr) (u:HO) (o:Obj) (H' : Hp):Prop:=(H a=some u/\H'=upd H a (.frz o u))\/(H a=some (.frz o u)/\H'=H)
noncomputable def KAt (H:Hp):List (List Key × V)->List Addr->Prop:=Paired λp b=>H b=some (.tup (p.1.map kV))
noncomputable def iDz (i:Nat):TI:=fun σ H R=>∃a,σ[i]?=some (some (V.ref a)) /\
  ((∃ kvs : List (Key × V),Rd H a (.dK kvs) /\ ∀ o H', Fz H a (.dK kvs) o H' → R (ItDz a o (kvs.map λp=>kV p.1)) H') \/
   ∃kvs:List (List Key × V),Rd H a (.dT kvs)/\∀o H' bs,Fz H a (.dT kvs) o H'->KAt H kvs bs->R (ItDz a o (bs.map V.ref)) H')
theorem zlm {P:Program}{w:World}:∀{es:List DictEntry}{vs:List (Key × Value)},Pairs (zai P w) es vs->Vals (vs.map fun p=>kV p.1) (es.map (·.key))
  |_,_,.nil=>.nil
  | _,_,.cons (kv:=(k,x)) h _ q=>by
    refine .cons ?_ (zlm q);rcases keyIs_shape (show zll k _=true from h) with⟨i,t,rfl,e⟩|⟨i,t,rfl,e⟩
    · exact⟨t,e⟩
    · exact⟨t,e⟩
theorem z1a {H:Hp}{κ:List (List Key × Addr × Value)->List DictEntry}:∀{kvs:List (List Key × V)}{xs:List (List Key × Addr × Value)},KT H kvs xs->KAt H kvs (xs.map (·.2.1))
 |_,_,.nil=>.nil
 |_,_,.cons h q=>.cons h.2.1 (z1a (κ:=κ) q)
theorem zf5:∀bs:List Addr,Vals (bs.map V.ref) (bs.map Value.ref)
 |[]=>.nil
 |_::bs=>.cons rfl (zf5 bs)
section
variable {X:Cx}{tg:Expr}
theorem frzI {pins:List (Addr × Obj)}{σ:St}{H:Hp}{s:Shared}{a:Addr}{u:HO}{o:Obj}(I:Inv X pins σ H s)(hm:Mut (some u))(hr:Rd H a u)(ho:s.heap.get? a=some o)(hn:H a=some u->ObjOk X.prog X.w H s.heap a u->ObjOk X.prog X.w (upd H a (.frz o u)) s.heap a u):∃H',Fz H a u o H'/\Inv X pins σ H' s:=by
 rcases hr with e|⟨o',e⟩
 ·refine⟨_,.inl ⟨e,rfl⟩, ?_⟩;have:=zfb (h':=s.heap) (t':=s.toks) (ob:=.frz o u) I (by rw[e];exact hm) ⟨rfl,λ_ _=>rfl⟩ ⟨o,ho⟩ ⟨ho,hn e (I.hok a _ e)⟩;exact this
 ·obtain⟨h1,_⟩:=(show ObjOk X.prog X.w H s.heap a (.frz o' u) from I.hok a _ e);rw[ho] at h1;obtain rfl:=sI h1;exact⟨H,.inr ⟨e,rfl⟩,I⟩
theorem z8c {l:Expr}{i:Nat}(hl:PE X l (tVar i)):PI X tg l (iDz i):=λpins s σ H R I h=>by
 obtain⟨a,hs,h⟩:=h;refine thn (hl pins s σ H (λx H1=>x=.ref a/\H1=H) I ⟨_,hs,rfl,rfl⟩) λv s1 ⟨x,H1,I1,r1,e,eH⟩=>?_;subst e eH;cases r1;have fp:∀{H'},Inv X pins σ H' s1->∀b∈[s1.heap.objs.size],FpOk X pins H' b:=λI' b hb=>by
  rw[Aq] at hb;subst hb;exact I'.fpOk (Af _) (I'.hok.fresh (Af _))
 rcases h with⟨kvs,hr,q⟩|⟨kvs,hr,q⟩
 ·obtain⟨z,hd,vs,rel,o,es,ep,ho,hx,hdat,hk,hp,hn⟩:=dk_rd I1.hok hr;obtain⟨H',fz,I2⟩:=frzI (u:=.dK kvs) I1 True.intro hr ho λ_ z=>z;have hv:Vals (kvs.map λp=>kV p.1) (es.toList.map (·.key)):=by rw[znm rel];exact zlm hp
  exact zmk hd ho hx hdat ⟨_,_,_,_,H',rfl,I2.kept (t':=s1.toks) λb o e=>Ab _ e,zt3 hdat hv,⟨_,Ak _ rfl,rfl,rfl⟩,fp I2,q o H' fz⟩
 ·obtain ⟨z, hd, xs, rel, o, es, ep, ho, hx, hdat, hes, hn⟩ := (show ObjOk X.prog X.w H1 s1.heap a (.dT kvs) from rd_of I1.hok hr);have ka:KAt H1 kvs (xs.map (·.2.1)):=z1a (κ:=fun _=>[]) rel;obtain ⟨H',fz,I2⟩:=frzI (u:=.dT kvs) I1 True.intro hr ho fun e z=>by
   obtain⟨z,hd,xs,rel,w⟩:=z;exact⟨z,hd,xs,KT.keeps (show KT H1 kvs xs from rel) λc ys ec=>by rw[upd_ne (zrr ec e (by intro z;cases z))];exact ec,w⟩
  have hv:Vals ((xs.map (·.2.1)).map V.ref) (es.toList.map (·.key)):=by
   have:=zf5 (xs.map (·.2.1));rw[Be,Be] at this;rw[hes,Be,Be];exact this
  exact zmk hd ho hx hdat ⟨_,_,_,_,H',rfl,I2.kept (t':=s1.toks) λb o e=>Ab _ e,zt3 hdat hv,⟨_,Ak _ rfl,rfl,rfl⟩,fp I2,q o H' _ fz ka⟩
end
noncomputable def zt6:Key->W
 |.inl i=>.int i
 |.inr x=>.str x
noncomputable def dkW:DKey->W
 |.inl k=>zt6 k
 |.inr ks=>.tup (ks.map zt6)
noncomputable def zpt (i:Nat):GL:=λen=>match en[i]? with
 |some (some (.dct ks ws,true))=>some (en.set i (some (.dcz ks ws,false)),ks.map dkW)
 |some (some (.dcz ks ws,false))=>some (en,ks.map dkW)
 |_=>zbd (gVar i) en
section
variable {K:PySem.W.Frag}{F F' H:Hp}{pr:Prt}{en:En}{σ:St}
theorem z4h:∀k:Key,Rep K F (zt6 k) (kV k)
 |.inl i=>.int i
 |.inr x=>.str x
theorem zly:∀ks:List Key,Reps K F (ks.map zt6) (ks.map kV)
 |[]=>.nil
 |k::ks=>.cons (z4h k) (zly ks)
theorem zyu:∀{js:List Key}{vs:List V},js.length=vs.length->((js.zip vs).map fun p=>kV p.1)=js.map kV
  |[],_,_=>rfl
  |_::_,[],h=>nomatch h
  | j::js,v::vs,h=>by
    rw[Bl,Ah,Ah,zyu (Ei h)]
theorem zon {ks:List Key}{vs:List V}(h:ks.length=vs.length):Reps K F ((ks.map .inl).map dkW) ((ks.zip vs).map λp=>kV p.1):=by
 rw[zyu h,Be];exact zly ks
theorem zfp:∀{ks:List (List Key)}{vs:List V}{bs:List Addr},ks.length=vs.length->KAt F (ks.zip vs) bs->Reps K F ((ks.map .inr).map dkW) (bs.map V.ref)
 |[],_,_,_,.nil=>.nil
 |_::_,[],_,h,_=>nomatch h
 |k::ks,v::vs,_,h,.cons e q=>.cons (.tup e (zly k)) (zfp (Ei h) q)
theorem zw8 {a:Addr}{o:Obj}{u:HO}{xs:List V}{ws:List W}(h:F a=some (.frz o u))(r:Reps K F ws xs):ItOk K F (ItDz a o xs) ws where
 go:=λi H s hi=>⟨by rw[<-r.length];exact hi,u,s _ _ h⟩
 stop:=λH s=>⟨by rw[r.length];exact Af _,u,s _ _ h⟩
 yld:=λi H x H' s hi y=>by
  obtain⟨e,y⟩:=y;subst e;obtain⟨w,e,q⟩:=r.getV y;exact⟨w,e,.val q⟩
theorem Rel.addT (R:Rel K F pr en σ H) {b:Addr}{xs:List V} (h:H b=some (.tup xs)):∃F',Same F F'/\F' b=some (.tup xs)/\Rel K F' pr en σ H:=by
  cases e:F b with
  | some u =>
    have:=R.sub b u e;rw[h] at this;obtain rfl:=sI this;exact⟨F,.refl F,e,R⟩
  | none =>
    have s:Same F (upd F b (.tup xs)):=Same.new e _;refine⟨_,s,upd_same,R.len,λc u ec=>?_,λi w ew=>?_,λi w ew=>?_,R.inj,λq o hq=>?_,R.tb.go (λ_ _ z=>z) (λc ps ec f=>⟨ec,by rw[upd_ne (zrr ec h (by intro z;cases z))];exact f⟩) s λb ps e h=>h⟩
    · by_cases hb : c = b
      · subst hb;rw[upd_same] at ec;obtain rfl:=sI ec;exact h
      · rw[upd_ne hb] at ec;exact R.sub _ _ ec
    · obtain ⟨v, h1, h2⟩ := R.val i w ew
      exact⟨v,h1,h2.mono s⟩
    · obtain ⟨a, o, w', h1, h2, h3, h4, h5⟩ := R.own i w ew
      have ne:a≠b:=λz=>by subst z;rw[h] at h3;obtain rfl:=sI h3;cases h5
      exact⟨a,o,w',h1,h2,h3,by rw[upd_ne ne];exact h4,h5.mono s⟩
    · obtain ⟨h1, h2, h3⟩ := R.prt q o hq
      have ne:q≠b:=λz=>by subst z;rw[h] at h1;obtain rfl:=sI h1;exact R.tb.1.2 _ _ hq
      exact⟨h1,by rw[upd_ne ne];exact h2,h3⟩
theorem KAt.mono (s:Same F F'):∀{kvs:List (List Key × V)}{bs:List Addr},KAt F kvs bs->KAt F' kvs bs
 |_,_,.nil=>.nil
 |_,_,.cons e q=>.cons (s _ _ e) (KAt.mono s q)
theorem KAt.upd {a:Addr}{us:List (List Key × V)}{o' : HO}(hH:H a=some (.dT us)):∀{kvs:List (List Key × V)}{bs:List Addr},KAt H kvs bs->KAt (L2.upd H a o') kvs bs
 |_,_,.nil=>.nil
 |_,_,.cons e q=>.cons (by rw[upd_ne (zrr e hH (by intro z;cases z))];exact e) (KAt.upd hH q)
theorem Rel.addTs:∀{kvs:List (List Key × V)}{bs:List Addr}{F:Hp},Rel K F pr en σ H->KAt H kvs bs->∃F',Same F F'/\KAt F' kvs bs/\Rel K F' pr en σ H
  |_,_,F,R,.nil=>⟨F,.refl F,.nil,R⟩
  | _,_,F,R,.cons e q=>by
    obtain⟨F1,s1,e1,R1⟩:=R.addT e;obtain⟨F2,s2,q2,R2⟩:=Rel.addTs R1 q;exact⟨F2,s1.trans s2,.cons (s2 _ _ e1) q2,R2⟩
theorem Rel.frz (R:Rel K F pr en σ H) {i:Nat}{w w' : W}{a:Addr}{u:HO} (o:Obj) (e:en[i]?=some (some (w,true))) (hv:σ[i]?=some (some (V.ref a))) (hH:H a=some u) (hF:F a=none) (hO:OwnR K F w u) (hw:∀F',Same F F'->F' a=some (.frz o u)->Rep K F' w' (.ref a)) :
  Same F (upd F a (.frz o u))/\Rel K (upd F a (.frz o u)) pr (en.set i (#v[w',6])) σ (upd H a (.frz o u)):=by
 have hi:i<en.length:=(Ai.mp e).1;have s:Same F (upd F a (.frz o u)):=Same.new hF _;have nt:∀ps,u≠.tbl ps:=λps z=>by cases hO<;>cases z
 have g:∀j x b,(en.set i (#v[w',6]))[j]?=some (some (x,b))->(j=i/\x=w'/\b=false)\/(j≠i/\en[j]?=some (some (x,b))):=λj x b h=>by
  rcases zdl hi h with⟨z,q⟩|z
  ·cases q;exact .inl ⟨z,rfl,rfl⟩
  ·exact .inr z
 refine⟨s,by rw[Dm];exact R.len,R.sub.upd_both a _,λj x ex=>?_,λj x ex=>?_,λj k b w1 w2 e1 e2=>?_,λq o2 hq=>?_,R.tb.go (λ_ _ z=>z) (λb ps e f=>?_) s λb ps e h=>h⟩
 ·rcases g j x false ex with⟨rfl,rfl,_⟩|⟨_,z⟩
  ·exact⟨_,hv,hw _ s upd_same⟩
  ·obtain⟨v', q1,q2⟩:=R.val j x z;exact⟨v',q1,q2.mono s⟩
 ·rcases g j x true ex with⟨_,_,z⟩|⟨ne,z⟩
  ·cases z
  ·obtain⟨a', vs', ws', q1,q2,q3,q4,q5⟩:=R.own j x z;have ne2:a'≠a:=λq=>by subst q;exact ne (R.inj j i a' _ _ z e q2 hv)
   exact⟨a',vs',ws',q1,q2,by rw[upd_ne ne2];exact q3,by rw[upd_ne ne2];exact q4,q5.mono s⟩
 ·rcases g j w1 true e1 with⟨_,_,z⟩|⟨_,z1⟩
  ·cases z
  ·rcases g k w2 true e2 with⟨_,_,z⟩|⟨_,z2⟩
   ·cases z
   ·exact R.inj j k b _ _ z1 z2
 ·obtain⟨h1,h2,h3⟩:=R.prt q o2 hq;have ne:q≠a:=λz=>by subst z;exact h3 i w e hv
  refine⟨by rw[upd_ne ne];exact h1,by rw[upd_ne ne];exact h2,λj x ex=>?_⟩;rcases g j x true ex with⟨_,_,z⟩|⟨_,z⟩
  ·cases z
  ·exact h3 j x z
 ·have ne : b ≠ a:=λz=>by subst z; rw[hH] at e; exact nt ps (sI e)
  exact⟨by rw[upd_ne ne];exact e,by rw[upd_ne ne];exact f⟩
theorem Fz.new {a:Addr}{u:HO}{o:Obj}{H H' : Hp}(h:Fz H a u o H')(e:H a=some u)(nz:∀o' u',u≠.frz o' u'):H'=upd H a (.frz o u):=by
 rcases h with⟨_,h⟩|⟨h,_⟩
 ·exact h
 ·rw[e] at h;exact absurd (sI h) (nz _ _)
theorem Fz.old {a:Addr}{u:HO}{o o' : Obj}{H H' : Hp}(h:Fz H a u o H')(e:H a=some (.frz o' u))(nz:∀o' u',u≠.frz o' u'):H'=H/\o=o':=by
 rcases h with⟨h,_⟩|⟨h,h'⟩
 ·rw[e] at h;exact absurd (sI h).symm (nz _ _)
 ·rw[e] at h;injection h with h;injection h with h;exact⟨h',h.symm⟩
noncomputable def iDzs (K:PySem.W.Frag) (i:Nat):TI:=λσ H R=>iDz i σ H R\/iSeq K (tVar i) σ H R
theorem z5h {X:Cx}{tg l:Expr}{i:Nat}(hl:PE X l (tVar i)):PI X tg l (iDzs X.K i):=λpins s σ H R I h=>h.elim (z8c hl pins s σ H R I) (zuv hl pins s σ H R I)
theorem zsx {i:Nat}{R:It->Hp->Prop} (h:tI K (zpt i) σ H R):iDzs K i σ H R:=by
  obtain⟨F,pr,en,en',ws,Re,h,q⟩:=h;unfold zpt at h;split at h
  · rename_i ks us e
    injection h with h;obtain⟨rfl,rfl⟩:=Prod.mk.inj h;obtain⟨a,u,w',e0,hs,hH,hF,hO⟩:=Re.own i _ e;subst e0;refine .inl ⟨a,hs,?_⟩;generalize hw:W.dct ks us=w at hO;cases hO with
    |lst r=>cases hw
    | dct hl r =>
      cases hw;refine .inl ⟨_,.inl hH,λo H' fz=>?_⟩;rw[fz.new hH (λ_ _ z=>nomatch z)];obtain⟨s1,R1⟩:=Re.frz o e hs hH hF (.dct hl r) λF' s e'=>.dcz e' hl (r.mono s);exact q _ _ _ s1 R1 (zw8 upd_same (zon hl))
    | dctT hl r =>
      cases hw;refine .inr ⟨_,.inl hH,λo H' bs fz ka=>?_⟩;rw[fz.new hH (λ_ _ z=>nomatch z)];obtain⟨s1,R1⟩:=Re.frz o e hs hH hF (.dctT hl r) λF' s e'=>.dczT e' hl (r.mono s);obtain⟨F2,s2,k2,R2⟩:=R1.addTs (ka.upd hH);exact q _ _ _ (s1.trans s2) R2 (zw8 (s2 _ _ upd_same) (zfp hl k2))
  · rename_i ks us e
    injection h with h;obtain⟨rfl,rfl⟩:=Prod.mk.inj h;obtain⟨v,hs,rp⟩:=Re.val i _ e;clear h;generalize hw:W.dcz ks us=w at rp;cases rp with
    | dcz h hl r =>
      cases hw;refine .inl ⟨_,hs,.inl ⟨_,.inr ⟨_,Re.sub _ _ h⟩,λo H' fz=>?_⟩⟩;obtain⟨rfl,rfl⟩:=fz.old (Re.sub _ _ h) (λ_ _ z=>nomatch z);exact q _ _ _ (.refl _) Re (zw8 h (zon hl))
    | dczT h hl r =>
      cases hw;refine .inl ⟨_,hs,.inr ⟨_,.inr ⟨_,Re.sub _ _ h⟩,λo H' bs fz ka=>?_⟩⟩;obtain⟨rfl,rfl⟩:=fz.old (Re.sub _ _ h) (λ_ _ z=>nomatch z);obtain⟨F2,s2,k2,R2⟩:=Re.addTs ka;exact q _ _ _ s2 R2 (zw8 (s2 _ _ h) (zfp hl k2))
    |_=>cases hw
  · exact .inr (zol (zf9 ⟨F,pr,en,en',ws,Re,h,q⟩))
end
theorem Rel.drop {K:PySem.W.Frag}{F H:Hp}{pr:Prt}{en:En}{σ:St}(R:Rel K F pr en σ H){i:Nat}{w:W}(e:en[i]?=some (#v[w,5])):∃v,σ[i]?=some (some v)/\Rel K F pr (en.set i none) σ H/\Res K F H pr (en.set i none) σ (w,true) v:=by
 have hi:i<en.length:=(Ai.mp e).1;nofun;obtain⟨a,vs,ws,h1,h2,h3,h4,h5⟩:=R.own i w e;ac_rfl;have g:∀(j:Nat) (x:W × Bool),(en.set i none)[j]?=some (some x)->j≠i/\en[j]?=some (some x):=λj x h=>by
  rcases zdl hi h with⟨_,q⟩|z
  ·cases q
  ·exact z
 refine⟨_,h2,⟨by rw[Dm];exact R.len,R.sub,λj u q=>R.val j u (g j _ q).2,λj u q=>R.own j u (g j _ q).2,λj k b u u' q q'=>R.inj j k b u u' (g j _ q).2 (g k _ q').2,λb o q=>⟨(R.prt b o q).1,(R.prt b o q).2.1,λj u z=>(R.prt b o q).2.2 j u (g j _ z).2⟩,R.tb⟩,a,vs,ws,h1,rfl,h3,h4,h5,λj u q z=>?_,λb o q z=>?_⟩
 ·exact (g j _ q).1 (R.inj j i a _ _ (g j _ q).2 e z h2)
 ·subst z;exact (R.prt b o q).2.2 i w e h2
section
variable {prog:Program}{w:World}{A:Around}{E:Value->Shared->Prop}{s:Shared}{d:Addr}{o:Obj}{es:Array DictEntry}{ep:Nat}
end
noncomputable abbrev Cap:=List (Option Nat)
noncomputable def zew (cap:Cap) (en:En):En:=cap.map λo=>match o with
 |some i=>(en[i]?).getD none
 |none=>none
noncomputable def zan (cap:Cap) (i:Nat):Option Nat:=cap.findIdx? (· == some i)
noncomputable def zbz (cap:Cap):Bool:=(List.range cap.length).all λj=>match cap[j]? with
 |some (some i)=>zan cap i == some j
 |_=>true
noncomputable def capKeep (cap:Cap):List Nat:=(List.range cap.length).filter λj=>match cap[j]? with
 |some (some _)=>true
 |_=>false
noncomputable def zaq (cap:Cap) (en ce:En):En:=en.mapIdx λi x=>match zan cap i with
 |some j=>(ce[j]?).getD none
 |none=>x
theorem zbg {cap:Cap}{i j:Nat}(h:zan cap i=some j):cap[j]?=some (some i):=by
 unfold zan at h;obtain⟨hl,h1,_⟩:=List.findIdx?_eq_some_iff_getElem.mp h;rw[Ae hl];have:cap[j]=some i:=by simpa using h1
 rw[this]
theorem zc5 {cap:Cap}{i:Nat}(h:zan cap i=none)(j:Nat):cap[j]?≠some (some i):=λe=>by
 unfold zan at h;have:=List.findIdx?_eq_none_iff.mp h (some i) (Bt e);simp at this
theorem zfw {cap:Cap}(h:zbz cap=true){i j:Nat}(e:cap[j]?=some (some i)):zan cap i=some j:=by
 unfold zbz at h;have hj:j<cap.length:=(Ai.mp e).1;have:=Ay.mp h j (Bz.mpr hj);simp only [e] at this;simpa using this
theorem zl4 {cap:Cap}{i j:Nat}(e:cap[j]?=some (some i)):j∈capKeep cap:=by
 unfold capKeep;exact El.mpr ⟨Bz.mpr (Ai.mp e).1,by simp only [e]⟩
theorem zdf {cap:Cap}{en:En}{j:Nat}{x:W × Bool} (h:(zew cap en)[j]?=some (some x)):∃i,cap[j]?=some (some i)/\en[i]?=some (some x):=by
  unfold zew at h;rw[Ap] at h;cases e:cap[j]? with
  |none=>rw[e] at h;exact noSome h
  | some o =>
    rw[e] at h;cases o with
    |none=>cases h
    | some i =>
      refine⟨i,rfl,?_⟩;have h' : (en[i]?).getD none=some x:=sI h;cases e2:en[i]? with
      |none=>rw[e2] at h';exact noSome h'
      |some z=>rw[e2] at h';exact congrArg some h'
theorem zpa {cap:Cap}{σ:St}{i j:Nat}(h:cap[j]?=some (some i)):(capSt cap σ)[j]?=some ((σ[i]?).getD none):=by
 unfold capSt;rw[Ap,h]
 rfl
theorem ze9 {cap:Cap}{σ:St}{i j:Nat}{v:V}(h:cap[j]?=some (some i))(hv:σ[i]?=some (some v)):(capSt cap σ)[j]?=some (some v):=by
 rw[zpa h,hv];rfl
theorem backEn_get {cap:Cap}{en ce:En}{i:Nat}{x:W × Bool} (h:(zaq cap en ce)[i]?=some (some x)):(∃j,zan cap i=some j/\ce[j]?=some (some x))\/(zan cap i=none/\en[i]?=some (some x)):=by
  unfold zaq at h;rw[Gh] at h;cases e:en[i]? with
  |none=>rw[e] at h;exact noSome h
  | some o =>
    rw[e] at h;cases c:zan cap i with
    |none=>simp only [c,Gk] at h;exact .inr ⟨rfl,h⟩
    | some j =>
      simp only [c,Gk] at h;have h' : (ce[j]?).getD none=some x:=sI h;refine .inl ⟨j,rfl,?_⟩;cases e2:ce[j]? with
      |none=>rw[e2] at h';exact noSome h'
      |some z=>rw[e2] at h';exact congrArg some h'
noncomputable def zby (pr:Prt) (cap:Cap) (en:En) (σ:St) (H:Hp):Prt:=λb o=>pr b o\/∃(j:Nat) (w:W),en[j]?=some (#v[w,5])/\zan cap j=none/\σ[j]?=some (some (V.ref b))/\H b=some o
noncomputable def zhh (pb:Prt) (acc:Addr) (vs:List V):Prt:=λb o=>pb b o\/(b=acc/\o=.lst vs)
section
variable {K:PySem.W.Frag}{F H:Hp}{pr pb:Prt}{en:En}{σ:St}
theorem Rel.ownT (R:Rel K F pr en σ H){j:Nat}{w:W}{b:Addr}{ps:Array Value}(e:en[j]?=some (#v[w,5]))(s:σ[j]?=some (some (V.ref b))):H b≠some (.tbl ps):=λz=>by
 obtain⟨a,o,w',_,h2,h3,_,h5⟩:=R.own j w e;rw[s] at h2;cases h2;rw[z] at h3;obtain rfl:=sI h3;cases h5
theorem zhu {cap:Cap}{b:Addr}{ps:Array Value}(R:Rel K F pr en σ H)(e:H b=some (.tbl ps))(hh:∀o,¬ pr b o):∀o,¬ zby pr cap en σ H b o:=λo z=>by
 rcases z with z|⟨j,w,q1,_,q2,_⟩
 ·exact hh o z
 ·exact R.ownT q1 q2 e
theorem zh0 {cap:Cap}{b:Addr}{xs:List V}(R:Rel K F pr en σ H)(z:zby pr cap en σ H b (.tup xs)):pr b (.tup xs):=by
 rcases z with z|⟨j,w,q1,_,q2,q3⟩
 ·exact z
 ·obtain⟨a,o,w', _,h2,h3,_,h5⟩:=R.own j w q1;rw[q2] at h2;cases h2;rw[q3] at h3;obtain rfl:=sI h3;cases h5
theorem Rel.accUpd {acc:Addr}{vs us:List V}(R:Rel K F (zhh pb acc vs) en σ H)(hb:∀b o,pb b o->b≠acc):Rel K F (zhh pb acc us) en σ (upd H acc (.lst us)):=by
 obtain⟨a1,a2,a3⟩:=R.prt acc (.lst vs) (.inr ⟨rfl,rfl⟩);have nt:∀b ps,H b=some (.tbl ps)->b≠acc:=λb ps e z=>by subst z;rw[a1] at e;cases e
 have nx:∀b φ,H b=some (.ext φ)->b≠acc:=λb φ e z=>by subst z;rw[a1] at e;cases e
 refine⟨R.len,λb o e=>?_,R.val,λi w e=>?_,R.inj,λb o q=>?_,R.tb.go (λb xs z=>z.elim .inl λz=>nomatch z.2) (λb ps e f=>⟨by rw[upd_ne (nt b ps e)];exact e,f⟩) (.refl F) λb ps e hh o z=>z.elim (λz=>hh o (.inl z)) λz=>nt b ps e z.1⟩
 ·have : b ≠ acc:=λz=>by subst z; rw[a2] at e; exact noSome e
  rw[upd_ne this];exact R.sub _ _ e
 ·refine aG λGg qG => ?_;obtain⟨a,vs',ws,h1,h2,h3,h4,h5⟩:=R.own i w e;ac_rfl;have:a≠acc:=λz=>by subst z;exact a3 i w e h2
  exact⟨a,vs',ws,h1,h2,by rw[upd_ne this];exact h3,h4,h5⟩
 ·rcases q with q|⟨rfl,rfl⟩
  ·obtain⟨b1,b2,b3⟩:=R.prt b o (.inl q);exact⟨by rw[upd_ne (hb b o q)];exact b1,b2,b3⟩
  ·exact⟨upd_same,a2,a3⟩
theorem zth {cap:Cap}{acc:Addr}(R:Rel K F pr en σ H)(hn:H acc=none):∀b o,zby pr cap en σ H b o->b≠acc:=λb o q=>by
 rcases q with q|⟨j,w,_,_,_,q⟩
 ·exact zab (R.prt b o q).1 hn
 ·exact zab q hn
theorem Rel.block {cap:Cap}{acc:Addr}(R:Rel K F pr en σ H)(hn:H acc=none)(nd:zbz cap=true):Rel K F (zhh (zby pr cap en σ H) acc []) (zew cap en) (capSt cap σ) (upd H acc (.lst [])):=by
 have fa:F acc=none:=R.sub.free hn;have R2:=R.lay hn (.lst []);refine⟨by unfold zew capSt;rw[Ac,Ac],R2.sub,λj w e=>?_,λj w e=>?_,λj l a w w' e1 e2 q1 q2=>?_,λb o q=>?_,R.tb.go (λb xs z=>z.elim (zh0 R) λz=>nomatch z.2) (λb ps e f=>⟨by rw[upd_ne (zab e hn)];exact e,f⟩) (.refl F) λb ps e hh o z=>z.elim (zhu R e hh o) λz=>zab e hn z.1⟩
 ·refine aG λGg qG => ?_;obtain⟨i,c,e⟩:=zdf e;obtain⟨v,h1,h2⟩:=R.val i w e;ac_rfl;exact⟨v,ze9 c h1,h2⟩
 ·refine aG λGg qG => ?_;obtain⟨i,c,e⟩:=zdf e;obtain⟨a,vs,ws,h1,h2,h3,h4,h5⟩:=R2.own i w e;ac_rfl;exact⟨a,vs,ws,h1,ze9 c h2,h3,h4,h5⟩
 ·refine aG λGg qG => ?_;obtain⟨i,c1,e1⟩:=zdf e1;obtain⟨k,c2,e2⟩:=zdf e2;obtain⟨i',c1',q1⟩:=capSt_get q1;obtain⟨k',c2',q2⟩:=capSt_get q2;ac_rfl;rw[c1] at c1';cases c1';rw[c2] at c2';cases c2';have:=R.inj i k a _ _ e1 e2 q1 q2;subst this;have x:=zfw nd c1;rw[zfw nd c2] at x;exact (sI x).symm
 ·have own2:∀(j:Nat) (w:W),(zew cap en)[j]?=some (some (w,true))->∃(i:Nat) (a:Addr),cap[j]?=some (some i)/\en[i]?=some (some (w,true))/\σ[i]?=some (some (V.ref a))/\(capSt cap σ)[j]?=some (some (V.ref a))/\∃o,H a=some o:=fun j w e=>by
   nofun;obtain⟨i,c,e⟩:=zdf e;obtain⟨a,vs,ws,h1,h2,h3,h4,h5⟩:=R.own i w e;ac_rfl;exact⟨i,a,c,e,h2,ze9 c h2,_,h3⟩
  rcases q with (q|⟨j0,w0,e0,c0,s0,h0⟩)|⟨rfl,rfl⟩
  ·obtain⟨b1,b2,b3⟩:=R2.prt b o q;refine⟨b1,b2,λj w e=>?_⟩;nofun;obtain⟨i,a,_,e,h2,h3,_⟩:=own2 j w e;ac_rfl;rw[h3];intro z;cases z;exact b3 i w e h2
  ·refine aG λGg qG => ?_;obtain⟨a,vs,ws,h1,h2,h3,h4,h5⟩:=R.own j0 w0 e0;ac_rfl;rw[s0] at h2;cases h2;refine⟨by rw[upd_ne (zab h0 hn)];exact h0,h4,λj w e=>?_⟩;nofun;obtain⟨i,a,c,e,h2,h3,_⟩:=own2 j w e;ac_rfl;rw[h3];intro z;cases z;have:=R.inj i j0 _ _ _ e e0 h2 s0;subst this;exact zc5 c0 j c
  ·refine⟨upd_same,fa,λj w e => ?_⟩;nofun;obtain⟨i,a,c,e,h2,h3,o,h4⟩:=own2 j w e;ac_rfl;rw[h3];intro z;cases z;rw[hn] at h4;exact noSome h4
theorem Rel.unblock {cap:Cap}{acc:Addr}{F' H' : Hp}{ce:En}{σc:St}{vs:List V}{ws:List W} (R:Rel K F pr en σ H) (hn:H acc=none) (s:Same F F') (Rc:Rel K F' (zhh (zby pr cap en σ H) acc vs) ce σc H') (kp:Keep (capKeep cap) (capSt cap σ) σc) (rs:Reps K F' ws vs) :
  Rel K F' pr (zaq cap en ce) σ H'/\Res K F' H' pr (zaq cap en ce) σ (.lst ws,true) (.ref acc):=by
 have slot:∀(i j:Nat) (v:V),zan cap i=some j->σc[j]?=some (some v)->σ[i]?=some (some v):=λi j v c e=>by
  have c':=zbg c;rw[kp j (zl4 c'),zpa c'] at e;have e' : (σ[i]?).getD none=some v:=sI e;cases q:σ[i]? with
  |none=>rw[q] at e';exact noSome e'
  |some z=>rw[q] at e';exact congrArg some e'
 obtain⟨a1,a2,a3⟩:=Rc.prt acc (.lst vs) (.inr ⟨rfl,rfl⟩);have un:∀(i:Nat) (w:W),zan cap i=none->en[i]?=some (#v[w,5])->∃(a:Addr) (vs:HO) (ws:W),w=ws/\σ[i]?=some (some (V.ref a))/\H a=some vs/\H' a=some vs/\F' a=none/\OwnR K F ws vs/\∀(j:Nat) (w' : W),ce[j]?=some (#v[w',5])->σc[j]?≠some (some (V.ref a)):=λi w c e=>by
  nofun;obtain⟨a,vs,ws,h1,h2,h3,h4,h5⟩:=R.own i w e;obtain⟨b1,b2,b3⟩:=Rc.prt a vs (.inl (.inr ⟨i,w,e,c,h2,h3⟩));ac_rfl;exact⟨a,vs,ws,h1,h2,h3,b1,b2,h5,b3⟩
 have capt:∀(i j:Nat) (w:W),zan cap i=some j->ce[j]?=some (#v[w,5])->∃(a:Addr) (vs:HO) (ws:W),w=ws/\σ[i]?=some (some (V.ref a))/\σc[j]?=some (some (V.ref a))/\H' a=some vs/\F' a=none/\OwnR K F' ws vs:=λi j w c e=>by
  nofun;obtain⟨a,vs,ws,h1,h2,h3,h4,h5⟩:=Rc.own j w e;ac_rfl;exact⟨a,vs,ws,h1,slot i j _ c h2,h2,h3,h4,h5⟩
 refine⟨⟨by unfold zaq;rw[List.length_mapIdx];exact R.len,Rc.sub,λi w e=>?_,λi w e=>?_,λi k a w w' e1 e2 q1 q2=>?_,λb o q=>?_,Rc.tb.go (λb xs z=>.inl (.inl z)) (λb ps e f=>⟨e,f⟩) (.refl F') λb ps e hh o z=>hh o (.inl (.inl z))⟩,acc,_,_,rfl,rfl,a1,a2,.lst rs,λi w e=>?_,λb o q=>zab (R.prt b o q).1 hn⟩
 ·rcases backEn_get e with⟨j,c,e⟩|⟨c,e⟩
  ·obtain⟨v,h1,h2⟩:=Rc.val j w e;exact⟨v,slot i j v c h1,h2⟩
  ·obtain⟨v,h1,h2⟩:=R.val i w e;exact⟨v,h1,h2.mono s⟩
 ·rcases backEn_get e with⟨j,c,e⟩|⟨c,e⟩
  ·refine aG λGg qG => ?_;obtain⟨a,vs,ws,h1,h2,_,h3,h4,h5⟩:=capt i j w c e;ac_rfl;exact⟨a,vs,ws,h1,h2,h3,h4,h5⟩
  ·refine aG λGg qG => ?_;obtain⟨a,vs,ws,h1,h2,_,h3,h4,h5,_⟩:=un i w c e;ac_rfl;exact⟨a,vs,ws,h1,h2,h3,h4,h5.mono s⟩
 ·rcases backEn_get e1 with⟨j,c,e1⟩|⟨c,e1⟩
  ·refine aG λGg qG => ?_;obtain⟨a',_,_,_,h2,h3,_⟩:=capt i j w c e1;ac_rfl;rw[q1] at h2;cases h2;rcases backEn_get e2 with⟨l,c2,e2⟩|⟨c2,e2⟩
   ·refine aG λGg qG => ?_;obtain⟨a',_,_,_,g2,g3,_⟩:=capt k l w' c2 e2;ac_rfl;rw[q2] at g2;cases g2;have:=Rc.inj j l a _ _ e1 e2 h3 g3;subst this;have x:=zbg c;rw[zbg c2] at x;cases x;rfl
   ·refine aG λGg qG => ?_;obtain⟨a',_,_,_,g2,_,_,_,_,g3⟩:=un k w' c2 e2;ac_rfl;rw[q2] at g2;cases g2;exact absurd h3 (g3 j w e1)
  ·refine aG λGg qG => ?_;obtain⟨a',_,_,_,h2,_,_,_,_,h3⟩:=un i w c e1;ac_rfl;rw[q1] at h2;cases h2;rcases backEn_get e2 with⟨l,c2,e2⟩|⟨c2,e2⟩
   ·refine aG λGg qG => ?_;obtain⟨a',_,_,_,g2,g3,_⟩:=capt k l w' c2 e2;ac_rfl;rw[q2] at g2;cases g2;exact absurd g3 (h3 l w' e2)
   ·exact R.inj i k a _ _ e1 e2 q1 q2
 ·obtain⟨b1,b2,b3⟩:=Rc.prt b o (.inl (.inl q));refine⟨b1,b2,λi w e=>?_⟩;rcases backEn_get e with⟨j,c,e⟩|⟨c,e⟩
  ·refine aG λGg qG => ?_;obtain⟨a,_,_,_,h2,h3,_⟩:=capt i j w c e;ac_rfl;rw[h2];intro z;cases z;exact b3 j w e h3
  ·exact (R.prt b o q).2.2 i w e
 ·rcases backEn_get e with⟨j,c,e⟩|⟨c,e⟩
  ·refine aG λGg qG => ?_;obtain⟨a,_,_,_,h2,h3,_⟩:=capt i j w c e;ac_rfl;rw[h2];intro z;cases z;exact a3 j w e h3
  ·refine aG λGg qG => ?_;obtain⟨a,_,_,_,h2,h3,_⟩:=un i w c e;ac_rfl;rw[h2];intro z;cases z;rw[hn] at h3;exact noSome h3
end
noncomputable def zf1 (mp:List Nat) (T:Tg) (tc:GT) (te:GE):List W->En->Option (En × List W)
  |[],ce=>some (ce,[])
  | w::ws,ce=>(tgSet mp T w ce).bind fun c1=>match tc c1 with
    |#v[c2,5]=>(te c2).bind λp=>(zf1 mp T tc te ws p.1).bind λq=>some (q.1,p.2.1::q.2)
    |#v[c2,6]=>zf1 mp T tc te ws c2
    |none=>none
noncomputable def zba (cap:Cap) (T:Tg) (it:GL) (tc:GT) (te:GE):GE:=λen=>(it en).bind λp=>if zbz cap && decide (p.2.length<=sizeLine) then (zf1 (capKeep cap) T tc te p.2 (zew cap p.1)).bind λq=>some (zaq cap p.1 q.1,(.lst q.2,true)) else none
noncomputable def gYes:GT:=λen=>#v[en,5]
noncomputable def ze1 (mp:List Nat) (T:Tg) (tc:GT) (em:GL):List W->En->Option (En × List W)
  |[],ce=>some (ce,[])
  | w::ws,ce=>(tgSet mp T w ce).bind fun c1=>match tc c1 with
    |#v[c2,5]=>(em c2).bind λp=>(ze1 mp T tc em ws p.1).bind λq=>some (q.1,p.2++q.2)
    |#v[c2,6]=>ze1 mp T tc em ws c2
    |none=>none
noncomputable def gOne (te:GE):GL:=λen=>(te en).bind λp=>some (p.1,[p.2.1])
noncomputable def zyq (cap:Cap) (T:Tg) (it:GL) (tc:GT) (em:GL):GE:=λen=>(it en).bind λp=>if zbz cap then (ze1 (capKeep cap) T tc em p.2 (zew cap p.1)).bind λq=>if q.2.length<=sizeLine then some (zaq cap p.1 q.1,(.lst q.2,true)) else none else none
theorem zgk {mp:List Nat}{T:Tg}{tc:GT}{te:GE}:∀{ws:List W}{ce ce' : En}{out:List W},zf1 mp T tc te ws ce=some (ce',out)->ze1 mp T tc (gOne te) ws ce=some (ce',out)/\out.length<=ws.length
  |[],_,_,_,h=>by cases h;exact⟨rfl,Af _⟩
  | w::ws,ce,ce',out,h=>by
    obtain ⟨c1,h1,h⟩:=bS (show (tgSet mp T w ce).bind _=_ from h);have e:ze1 mp T tc (gOne te) (w::ws) ce=match tc c1 with
      |#v[c2,5]=>(gOne te c2).bind λp=>(ze1 mp T tc (gOne te) ws p.1).bind λq=>some (q.1,p.2++q.2)
      |#v[c2,6]=>ze1 mp T tc (gOne te) ws c2
      |none=>none:=by rw[ze1,h1];rfl
    rw[e];cases et:tc c1 with
    |none=>simp only [et] at h;exact noSome h
    | some p =>
      obtain⟨c2,b⟩:=p;cases b with
      |false=>simp only [et] at h;exact⟨(zgk h).1,Nat.le_succ_of_le (zgk h).2⟩
      | true =>
        simp only [et] at h;obtain⟨⟨c3,rv⟩,h5,h⟩:=bS h;obtain⟨⟨c4,rest⟩,h6,h⟩:=bS h;cases h;refine⟨?_,Nat.succ_le_succ (zgk h6).2⟩;show (gOne te c2).bind _=_;rw[gOne,h5];show (ze1 mp T tc (gOne te) ws c3).bind _=_;rw[(zgk h6).1]
        rfl
noncomputable def MOk (K:PySem.W.Frag) (mp:List Nat) (pb:Prt) (acc:Addr) (em:GL) (tm:TM):Prop:=∀(F:Hp) (ce:En) (σ:St) (H:Hp) (vs:List V) (ce' : En) (out:List W) (N:St->Hp->Prop),Rel K F (zhh pb acc vs) ce σ H->em ce=some (ce',out)->vs.length+out.length<=sizeLine ->
 (∀F' σ' H' us,Same F F'->Rel K F' (zhh pb acc (vs++us)) ce' σ' H'->Keep mp σ σ'->Reps K F' out us->N σ' H')->tm σ H N
section
variable {K:PySem.W.Frag}{mp:List Nat}{pb:Prt}{acc:Addr}
theorem z7b {te:GE}(hb:∀b o,pb b o->b≠acc):MOk K mp pb acc (gOne te) (zv4 acc (tE K te)):=by
 intro F ce σ H vs ce' out N R h hz q;nofun;obtain⟨⟨c3,rv⟩,h5,h⟩:=bS h;ac_rfl;cases h;refine⟨F,_,ce,c3,rv,R,h5,λF6 H6 v s6 R6 y6=>?_⟩;nofun;obtain⟨F7,s7,R7,y7⟩:=y6.freeze R6;obtain⟨a1,_,_⟩:=R7.prt acc (.lst vs) (.inr ⟨rfl,rfl⟩);ac_rfl;exact⟨vs,a1,hz,q F7 σ _ [v] (s6.trans s7) (R7.accUpd hb) (.refl _ _) (.cons y7 .nil)⟩
theorem z1v {em:GL}{tm:TM}{T:Tg}{tc:GT}{F1:Hp}{vs0:List V}{ce0 ce' : En}{σ0:St}{H0:Hp}{J:It}{ws out:List W}{N0:St->Hp->Prop} (M:MOk K mp pb acc em tm) (R:Rel K F1 (zhh pb acc vs0) ce0 σ0 H0) (ok:ItOk K F1 J ws) (h:ze1 mp T tc em ws ce0=some (ce',out)) (hz:vs0.length+out.length<=sizeLine)
    (q:∀F' σ' H' us,Same F1 F'->Rel K F' (zhh pb acc (vs0++us)) ce' σ' H'->Keep mp σ0 σ'->Reps K F' out us->N0 σ' H'):zpp J (TGof K T) (tT K tc) tm σ0 H0 N0:=by
  refine ⟨fun i m σc Hc=>m=ws.length - i/\i<=ws.length/\∃F' ce dn us rest,Same F1 F'/\Rel K F' (zhh pb acc (vs0++us)) ce σc Hc/\Keep mp σ0 σc/\Reps K F' dn us/\ze1 mp T tc em (ws.drop i) ce=some (ce',rest)/\dn++rest=out,
    ⟨_,rfl,Bj _,F1,ce0,[],[],out,.refl _,by rw[Bx];exact R,.refl _ _,.nil,h,rfl⟩,?_⟩
  rintro i m σc Hc ⟨rfl,hi,F',ce,dn,us,rest,s',R',k',rd,hl,ho⟩;by_cases hlt:i<ws.length
  · refine .inr ⟨ok.go i Hc (s'.trans R'.sub) hlt, ?_⟩
    have hd:ws.drop i=ws[i]::ws.drop (i+1):=(Cq hlt);rw[hd] at hl;obtain⟨c1,h3,hl⟩:=bS (show (tgSet mp T ws[i] ce).bind _=_ from hl);refine⟨λσ2 H2=>∃F' ce dn us rest,Same F1 F'/\Rel K F' (zhh pb acc (vs0++us)) ce σ2 H2/\Keep mp σ0 σ2/\Reps K F' dn us/\ze1 mp T tc em (ws.drop (i+1)) ce=some (ce',rest)/\dn++rest=out,λσ2 H2 z=>⟨ws.length - (i+1),by omega,rfl,hlt,z⟩,?_⟩;intro x H2 y;obtain⟨w,ew,o⟩:=ok.yld i Hc x H2 (s'.trans R'.sub) hlt y;rw[Ae hlt] at ew;obtain rfl:=sI ew;nofun;obtain⟨F3,s3,R3,z3⟩:=(o.mono s').close R';ac_rfl;refine zrt (w:=ws[i]) R3 z3 h3 λσ3 R4 k4=>?_;cases et:tc c1 with
    |none=>simp only [et] at hl;exact noSome hl
    | some p =>
      obtain⟨c2,b⟩:=p;refine⟨F3,_,c1,c2,b,R4,et,λF5 H5 s5 R5=>?_⟩;cases b with
      | false =>
        simp only [et] at hl;exact iteF ⟨F5,c2,dn,us,rest,s'.trans (s3.trans s5),R5,k'.trans k4,rd.mono (s3.trans s5),hl,ho⟩
      | true =>
        simp only [et] at hl;nofun;obtain⟨⟨c3,o1⟩,h5,hl⟩:=bS hl;obtain⟨⟨c4,rest'⟩,h6,hl⟩:=bS hl;ac_rfl;cases hl;refine iteT (M F5 c2 σ3 H5 (vs0++us) c3 o1 _ R5 h5 ?_ λF6 σ6 H6 us2 s6 R6 k6 r6=>?_)
        · dsimp only at ho
          rw[<-ho,Bb,Bb,rd.length] at hz;rw[Bb];omega
        · have sAll : Same F' F6 := s3.trans (s5.trans s6)
          exact⟨F6,c3,dn++o1,us++us2,rest',s'.trans sAll,by rw[<-Az];exact R6,k'.trans (k4.trans k6),(rd.mono sAll).append r6,h6,by rw[Az];exact ho⟩
  · have e : i = ws.length := by omega
    subst e;rw[List.drop_length] at hl;cases hl;rw[Bx] at ho;subst ho;exact .inl ⟨ok.stop Hc (s'.trans R'.sub),q F' σc Hc us s' R' k' rd⟩
end
theorem zqy {K:PySem.W.Frag}{cap:Cap}{T:Tg}{it:GL}{tc:GT}{em:GL}{tm:Addr->TM}{σ:St}{H:Hp}{Q:VK}(M:∀(pb:Prt) (acc:Addr),(∀b o,pb b o->b≠acc)->MOk K (capKeep cap) pb acc em (tm acc))(h:tE K (zyq cap T it tc em) σ H Q):ztp (tI K it) cap (TGof K T) (tT K tc) tm σ H Q:=by
 nofun;obtain⟨F,pr,en,en',r,R,h,q⟩:=h;obtain⟨⟨e1,ws⟩,h1,h⟩:=bS h;ac_rfl;refine⟨F,pr,en,e1,ws,R,h1,λF1 H1 J s1 R1 ok acc hacc=>?_⟩;split at h
 ·rename_i nd;nofun;obtain⟨⟨ce',out⟩,h2,h⟩:=bS h;ac_rfl;split at h
  ·rename_i hz;cases h;refine z1v (M _ acc (zth (cap:=cap) R1 hacc)) (R1.block hacc nd) ok h2 (by rw[Fj,Cf];exact hz) λF' σ' H' us s' R' k' rd=>?_;obtain⟨Ro,rz⟩:=R1.unblock hacc s' R' k' rd;exact q F' H' _ (s1.trans s') Ro rz
  ·exact noSome h
 ·exact noSome h
theorem ztq {K:PySem.W.Frag}{cap:Cap}{T:Tg}{it:GL}{tc:GT}{te:GE}{σ:St}{H:Hp}{Q:VK}(h:tE K (zba cap T it tc te) σ H Q):ztp (tI K it) cap (TGof K T) (tT K tc) (λacc=>zv4 acc (tE K te)) σ H Q:=by
 refine zqy (λpb acc hb=>z7b hb) ?_;obtain⟨F,pr,en,en',r,R,h,q⟩:=h;refine⟨F,pr,en,en',r,R,?_,q⟩;nofun;obtain⟨⟨e1,ws⟩,h1,h⟩:=bS h;ac_rfl;split at h
 ·rename_i z;rw[Ad] at z;nofun;obtain⟨⟨ce',out⟩,h2,h⟩:=bS h;ac_rfl;obtain⟨h3,h4⟩:=zgk h2;rw[zyq,h1];show (if zbz cap=true then (ze1 (capKeep cap) T tc (gOne te) ws (zew cap e1)).bind _ else none)=_;rw[if_pos z.1,h3];show (if out.length<=sizeLine then _ else none)=_;rw[if_pos (Bv h4 (Ar z.2))];exact h
 ·exact noSome h
noncomputable def z64:GE:=λen=>some (en,(.dic,false))
noncomputable def keyW:W->Bool
 |.int _=>true
 |.str _=>true
 |_=>false
noncomputable def z8b (k v:GE):GE:=λen=>(k en).bind λp=>if keyW p.2.1 then (v p.1).bind λq=>some (q.1,(.dic,false)) else none
noncomputable def Src (h:Heap) (it l:Addr) (k:Nat) (xs:Array Value):Prop:=(h.IsListIter it l k/\h.IsList l xs)\/(h.IsTupleIter it l k/\h.IsTuple l xs)
theorem Src.at {h h' : Heap}{it l:Addr}{k:Nat}{xs:Array Value}(c:Src h it l k xs)(a:∀o,h.get? it=some o->h'.get? it=some o)(b:∀o,h.get? l=some o->h'.get? l=some o):Src h' it l k xs:=by
 rcases c with⟨p,q⟩|⟨p,q⟩
 ·exact .inl ⟨p.at a,q.at b⟩
 ·obtain⟨o,e,r⟩:=q;exact .inr ⟨p.at a,o,b o e,r⟩
theorem Src.src {h:Heap}{it l:Addr}{k:Nat}{xs:Array Value}(c:Src h it l k xs):∃o,h.get? l=some o:=by
 rcases c with⟨_,⟨o,e,_⟩⟩|⟨_,⟨o,e,_⟩⟩<;>exact⟨o,e⟩
section
variable {prog:Program}{w:World}{A:Around}{E:Value->Shared->Prop}{s:Shared}
theorem zft {it l:Addr}{k:Nat}{xs:Array Value}{x:Value}{Q:Value->Shared->Prop} (c:Src s.heap it l k xs) (hx:xs[k]?=some x) (ne:l≠it)
  (q:∀h',Src h' it l (k+1) xs->Heap.SameBut it s.heap h'->Q x { s with heap:=h' }):wpAny (model prog w) A (Builtin.SmallTypes.nextOf (.ref it)) Q E s:=by
 rcases c with⟨c1,c2⟩|⟨c1,c2⟩
 ·exact wpAny_nextOf_list_item c1 c2 hx λh' a b=>q h' (.inl ⟨a,c2.at λo e=>(b.2 l ne).trans e⟩) b
 ·refine aG λGg qG => ?_;obtain⟨oi,ei,ci,di⟩:=id c1;obtain⟨os,es,cs,ns,ds⟩:=id c2;ac_rfl;unfold Builtin.SmallTypes.nextOf;refine Aa (Cd (name:=Str.ofString "__next__") c1.typeIs Fh (Cw Fh c1.typeIs F.entry_tuple_iterator_next ?_ (F.args_tuple_iterator_next_1 _)));refine (show wpAny _ _ (field (.ref it) 0 >>= _) _ _ s from Aa (Ct ei di (x:=.ref l) rfl ?_));refine (show wpAny _ _ (if (Value.ref l == Value.none)=true then _ else _) _ _ s from ?_);rw[if_neg (by intro z;cases z)];refine (show wpAny _ _ (field (.ref it) 1 >>= _) _ _ s from Aa (Ct ei di (x:=.int k 0) rfl ?_));refine (show wpAny _ _ (seqItems? (.ref l) >>= _) _ _ s from Aa (Ej es ds ?_));simp only [Cs,hx];refine Aa (wpAny_setField ei di (by simp) (Ag ⟨x,rfl,Ag ?_⟩));refine q _ (.inr ⟨⟨_,Heap.get?_update_self _ ei (Obj.isFreed_of_fields (Hq di _)),(Obj.cls_mapFields ..).trans ci,by rw[Hq di];simp [rawInt]⟩,os,?_,cs,ns,ds⟩) (Cb ..);exact ((Cb ..).2 l ne).trans es
theorem zil {it l:Addr}{k:Nat}{xs:Array Value}{Q:Value->Shared->Prop} (hn:A.handled=none) (c:Src s.heap it l k xs) (hx:xs[k]?=none)
  (q:∀h' e,Heap.ExtBut it s.heap h'->(∃o,h'.get? e=some o/\o.cls=.type "StopIteration")->E (.ref e) { s with heap:=h' }):wpAny (model prog w) A (Builtin.SmallTypes.nextOf (.ref it)) Q E s:=by
 rcases c with⟨c1,c2⟩|⟨c1,c2⟩
 ·exact wpAny_nextOf_list_end hn c1 c2 hx q
 ·obtain⟨oi,ei,ci,di⟩:=id c1;obtain⟨os,es,cs,ns,ds⟩:=id c2;unfold Builtin.SmallTypes.nextOf;refine Aa (Cd (name:=Str.ofString "__next__") c1.typeIs Fh (Cw Fh c1.typeIs F.entry_tuple_iterator_next ?_ (F.args_tuple_iterator_next_1 _)));refine (show wpAny _ _ (field (.ref it) 0 >>= _) _ _ s from Aa (Ct ei di (x:=.ref l) rfl ?_));refine (show wpAny _ _ (if (Value.ref l == Value.none)=true then _ else _) _ _ s from ?_);rw[if_neg (by intro z;cases z)];refine (show wpAny _ _ (field (.ref it) 1 >>= _) _ _ s from Aa (Ct ei di (x:=.int k 0) rfl ?_));refine (show wpAny _ _ (seqItems? (.ref l) >>= _) _ _ s from Aa (Ej es ds ?_));simp only [Cs,hx];refine Aa (Eg (Aa (wpAny_setField ei di (by simp) (show wpAny _ _ (newExc (.type "StopIteration") [] >>= _) _ _ _ from Aa ?_))));simp only [newExc,newTuple];refine Aa (Cg (Aa (m:=firstArgMember _ _) (wpAny_of_eq (a:=Value.none) (by first|rfl|(simp only [firstArgMember];rfl)) (Cg ?_ (by size_fits)))) (by size_fits));simp only [raiseNew];refine Aa (wpAny_handled ?_);rw[show A.in1.handled=none from hn];exact Aa (Ag (wpAny_throw (q _ _ (((Cb ..).extBut.push _).push _) ⟨_,Ak _ rfl,rfl⟩)))
theorem z1p {z TI TO i1 i2 l1 l2:Addr}{k1 k2:Nat}{xs ys:Array Value}{x y a b:Value}{Q:Value->Shared->Prop} (D:ZipApart z TI TO i1 i2 l1 l2) (gz:IsZip s.heap z TI TO .none) (gi:IsPair s.heap TI (.ref i1) (.ref i2)) (go:IsPair s.heap TO a b)
  (c1:Src s.heap i1 l1 k1 xs) (c2:Src s.heap i2 l2 k2 ys) (ex:xs[k1]?=some x) (ey:ys[k2]?=some y)
  (q:∀h',IsZip h' z TI TO (rawInt s.heap.objs.size)->IsPair h' TO x y->Src h' i1 l1 (k1+1) xs->Src h' i2 l2 (k2+1) ys->IsPair h' s.heap.objs.size x y ->
   (∀c o,c≠z->c≠TO->c≠i1->c≠i2->s.heap.get? c=some o->h'.get? c=some o)->Q (.ref s.heap.objs.size) { s with heap:=h' }) :
  wpAny (model prog w) A (Builtin.«zip.__next__» ⟨[.ref z],[]⟩) (λfin s'=>∃v,fin=.done (.ret v)/\Q v s') E s:=by
 refine (show wpAny _ _ (field (.ref z) 2 >>= _) _ _ _ from Aa (Ct gz rfl (x:=.bool false) rfl ?_));refine (show wpAny _ _ (field (.ref z) 3 >>= _) _ _ _ from Aa (Ct gz rfl (x:=.ref TI) rfl (Aa (Ej gi rfl ?_))));refine (show wpAny _ _ (Builtin.SmallTypes.ownedTupleIsFree (.ref z) >>= _) _ _ _ from Aa ?_);unfold Builtin.SmallTypes.ownedTupleIsFree;refine Aa (Ct gz rfl (x:=.none) rfl (Ag ?_));simp only [Fe];refine Aa (Eg (Aa (Ct gz rfl (x:=.ref TO) rfl (Aa (Et gz (by simp) λg1 z1 u1=>?_)))));have z1' : IsZip g1 z TI TO .ellipsis:=z1;refine Aa ?_;simp only [List.zipIdx_cons,List.zipIdx_nil,Fm,Ee];have k1' : ∀c o,c≠z->s.heap.get? c=some o->g1.get? c=some o:=λc o n e=>u1.extBut _ _ n e;refine Aa (Aa (wpAny_onRaise (show wpAny _ _ (Builtin.SmallTypes.nextOf (.ref i1) >>= _) _ _ _ from Aa (zft (c1.at (λo=>k1' _ o D.i1z) λo=>k1' _ o D.l1z) ex D.l1i1 λg2 d2 u2=>Ag ?_))));have k2' : ∀c o,c≠z->c≠i1->s.heap.get? c=some o->g2.get? c=some o:=λc o n m e=>u2.extBut _ _ m (k1' c o n e);refine Aa (Ej (k2' _ _ D.TOz D.TOi1 go) rfl (Aa (wpAny_updateSeq_pair (k2' _ _ D.TOz D.TOi1 go) λg3 t3 u3=>Aa (wpAny_letGo (Ag ?_)))));have t3' : IsPair g3 TO x b:=t3;have k3' : ∀c o,c≠z->c≠i1->c≠TO->s.heap.get? c=some o->g3.get? c=some o:=λc o n m r e=>u3.extBut _ _ r (k2' c o n m e);refine Aa (Aa (wpAny_onRaise (show wpAny _ _ (Builtin.SmallTypes.nextOf (.ref i2) >>= _) _ _ _ from Aa (zft (c2.at (λo=>k3' _ o D.i2z D.i12.symm D.TOi2.symm) λo=>k3' _ o D.l2z D.l2i1 D.l2TO) ey D.l2i2 λg4 d4 u4=>Ag ?_))));have t4:IsPair g4 TO x b:=u4.extBut _ _ D.TOi2 t3';refine Aa (Ej t4 rfl (Aa (wpAny_updateSeq_pair t4 λg5 t5 u5=>Aa (wpAny_letGo (Ag (Ag ?_))))));have t5' : IsPair g5 TO x y:=t5;refine Aa (Ej t5' rfl (Aa (wpAny_newTuple ?_)));have n5:g5.objs.size=s.heap.objs.size:=by rw[u5.1,u4.1,u3.1,u2.1,u1.1]
 have z5:IsZip g5 z TI TO .ellipsis:=u5.extBut _ _ D.TOz.symm (u4.extBut _ _ D.i2z.symm (u3.extBut _ _ D.TOz.symm (u2.extBut _ _ D.i1z.symm z1')));have k5:∀c o,c≠z->c≠TO->c≠i1->c≠i2->s.heap.get? c=some o->g5.get? c=some o:=λc o n r m p e=>u5.extBut _ _ r (u4.extBut _ _ p (k3' c o n m r e));have d2' : Src g5 i1 l1 (k1+1) xs:=d2.at (λo e=>u5.extBut _ _ D.TOi1.symm (u4.extBut _ _ D.i12 (u3.extBut _ _ D.TOi1.symm e))) λo e=>u5.extBut _ _ D.l1TO (u4.extBut _ _ D.l1i2 (u3.extBut _ _ D.l1TO e));have d4' : Src g5 i2 l2 (k2+1) ys:=d4.at (λo e=>u5.extBut _ _ D.TOi2.symm e) λo e=>u5.extBut _ _ D.l2TO e;refine (show wpAny _ _ (Builtin.SmallTypes.ownedTupleHandOut (.ref z) (.ref g5.objs.size) >>= _) _ _ _ from Aa ?_);unfold Builtin.SmallTypes.ownedTupleHandOut;have z6:IsZip (g5.push { cls:=.type "tuple",data:=.seq #[x,y] }) z TI TO .ellipsis:=Ab _ z5;refine Aa (Et z6 (by simp) λg7 z7 u7=>Et (show IsZip g7 z TI TO (rawInt g5.objs.size) from z7) (by simp) λg8 z8 u8=>Ag ⟨_,rfl,?_⟩);have up:∀c o,c≠z->g5.get? c=some o->g8.get? c=some o:=λc o n e=>u8.extBut _ _ n (u7.extBut _ _ n (Ab _ e));have lz:g5.objs.size≠z:=Gw (Ao z5);have t8:IsPair g8 g5.objs.size x y:=u8.extBut _ _ lz (u7.extBut _ _ lz (Ak _ rfl));have z8' : IsZip g8 z TI TO (rawInt g5.objs.size):=z8;rw[n5] at t8 z8';show Q (.ref g5.objs.size) _;rw[n5];exact q g8 z8' (up _ _ D.TOz t5') (d2'.at (λo=>up _ o D.i1z) λo=>up _ o D.l1z) (d4'.at (λo=>up _ o D.i2z) λo=>up _ o D.l2z) t8 λc o n r m p e=>up c o n (k5 c o n r m p e)
theorem z5t {z TI TO i1 i2 l1 l2:Addr}{k1 k2:Nat}{xs ys:Array Value}{a b:Value}{Q:Fin->Shared->Prop} (hn:A.handled=none) (D:ZipApart z TI TO i1 i2 l1 l2) (gz:IsZip s.heap z TI TO .none) (gi:IsPair s.heap TI (.ref i1) (.ref i2)) (go:IsPair s.heap TO a b)
    (c1:Src s.heap i1 l1 k1 xs) (c2:Src s.heap i2 l2 k2 ys) (he:xs[k1]?=none\/ys[k2]?=none)
    (q:∀h' e,(∀c o,c≠z->c≠TO->c≠i1->c≠i2->s.heap.get? c=some o->h'.get? c=some o)->(∃o,h'.get? e=some o/\o.cls=.type "StopIteration")->E (.ref e) { s with heap:=h' }) :
    wpAny (model prog w) A (Builtin.«zip.__next__» ⟨[.ref z],[]⟩) Q E s:=by
  refine (show wpAny _ _ (field (.ref z) 2 >>= _) _ _ _ from Aa (Ct gz rfl (x:=.bool false) rfl ?_));refine (show wpAny _ _ (field (.ref z) 3 >>= _) _ _ _ from Aa (Ct gz rfl (x:=.ref TI) rfl (Aa (Ej gi rfl ?_))));refine (show wpAny _ _ (Builtin.SmallTypes.ownedTupleIsFree (.ref z) >>= _) _ _ _ from Aa ?_);unfold Builtin.SmallTypes.ownedTupleIsFree;refine Aa (Ct gz rfl (x:=.none) rfl (Ag ?_));simp only [Fe];refine Aa (Eg (Aa (Ct gz rfl (x:=.ref TO) rfl (Aa (Et gz (by simp) λg1 z1 u1=>?_)))));have z1' : IsZip g1 z TI TO .ellipsis:=z1;refine Aa ?_;simp only [List.zipIdx_cons,List.zipIdx_nil,Fm,Ee];have k1' : ∀c o,c≠z->s.heap.get? c=some o->g1.get? c=some o:=λc o n e=>u1.extBut _ _ n e;refine Aa (Aa (wpAny_onRaise (show wpAny _ _ (Builtin.SmallTypes.nextOf (.ref i1) >>= _) _ _ _ from Aa ?_)));have d1:Src g1 i1 l1 k1 xs:=c1.at (λo=>k1' _ o D.i1z) λo=>k1' _ o D.l1z;cases hx:xs[k1]? with
  | none =>
    refine zil hn d1 hx λg2 e u2 so=>?_;obtain⟨oe,ge,ce⟩:=so;have z2:IsZip g2 z TI TO .ellipsis:=u2 _ _ D.i1z.symm z1';have ne:e≠z:=λr=>by subst r;rw[z2] at ge;obtain rfl:=sI ge;simp at ce
    exact Et z2 (by simp) λg3 _ u3=>q g3 e (λc o n _ m _ x=>u3.extBut _ _ n (u2 _ _ m (k1' c o n x))) ⟨oe,u3.extBut _ _ ne ge,ce⟩
  | some x =>
    have hy:ys[k2]?=none:=he.resolve_left (by rw[hx];simp);refine zft d1 hx D.l1i1 λg2 d2 u2=>Ag ?_;have k2' : ∀c o,c≠z->c≠i1->s.heap.get? c=some o->g2.get? c=some o:=λc o n m e=>u2.extBut _ _ m (k1' c o n e);refine Aa (Ej (k2' _ _ D.TOz D.TOi1 go) rfl (Aa (wpAny_updateSeq_pair (k2' _ _ D.TOz D.TOi1 go) λg3 t3 u3=>Aa (wpAny_letGo (Ag ?_)))));have k3' : ∀c o,c≠z->c≠i1->c≠TO->s.heap.get? c=some o->g3.get? c=some o:=λc o n m r e=>u3.extBut _ _ r (k2' c o n m e);refine Aa (Aa (wpAny_onRaise (show wpAny _ _ (Builtin.SmallTypes.nextOf (.ref i2) >>= _) _ _ _ from Aa (zil hn (c2.at (λo=>k3' _ o D.i2z D.i12.symm D.TOi2.symm) λo=>k3' _ o D.l2z D.l2i1 D.l2TO) hy λg4 e u4 so=>?_))));obtain⟨oe,ge,ce⟩:=so;have z4:IsZip g4 z TI TO .ellipsis:=u4 _ _ D.i2z.symm (u3.extBut _ _ D.TOz.symm (u2.extBut _ _ D.i1z.symm z1'));have ne:e≠z:=λr=>by subst r;rw[z4] at ge;obtain rfl:=sI ge;simp at ce
    exact Et z4 (by simp) λg5 _ u5=>q g5 e (λc o n r m p x=>u5.extBut _ _ n (u4 _ _ p (k3' c o n m r x))) ⟨oe,u5.extBut _ _ ne ge,ce⟩
theorem z2q {z TI TO i1 i2 l1 l2:Addr}{k1 k2:Nat}{xs ys:Array Value}{x y a b:Value}{Q:Option Value->Shared->Prop} (D:ZipApart z TI TO i1 i2 l1 l2) (gz:IsZip s.heap z TI TO .none) (gi:IsPair s.heap TI (.ref i1) (.ref i2)) (go:IsPair s.heap TO a b)
  (c1:Src s.heap i1 l1 k1 xs) (c2:Src s.heap i2 l2 k2 ys) (ex:xs[k1]?=some x) (ey:ys[k2]?=some y)
  (q:∀h',IsZip h' z TI TO (rawInt s.heap.objs.size)->IsPair h' TO x y->Src h' i1 l1 (k1+1) xs->Src h' i2 l2 (k2+1) ys->IsPair h' s.heap.objs.size x y ->
   (∀c o,c≠z->c≠TO->c≠i1->c≠i2->s.heap.get? c=some o->h'.get? c=some o)->Q (some (.ref s.heap.objs.size)) { s with heap:=h' }):wpAny (model prog w) A (pyNext (.ref z)) Q E s:=by
 have ty:s.TypeIs (.ref z) "zip" := ⟨_,gz,rfl⟩;unfold pyNext;exact Aa (Fv (Cd (name:=Str.ofString "__next__") ty F.slot_zip_next (Cw F.slot_zip_next ty F.entry_zip_next (z1p D gz gi go c1 c2 ex ey λh' a1 a2 a3 a4 a5 a6=>Ag (q h' a1 a2 a3 a4 a5 a6)) (F.args_zip_next_1 _))))
theorem z51 {z TI TO i1 i2 l1 l2:Addr}{k1 k2:Nat}{xs ys:Array Value}{a b:Value}{Q:Option Value->Shared->Prop} (hn:A.handled=none) (D:ZipApart z TI TO i1 i2 l1 l2) (gz:IsZip s.heap z TI TO .none) (gi:IsPair s.heap TI (.ref i1) (.ref i2)) (go:IsPair s.heap TO a b)
  (c1:Src s.heap i1 l1 k1 xs) (c2:Src s.heap i2 l2 k2 ys) (he:xs[k1]?=none\/ys[k2]?=none)
  (q:∀h',(∀c o,c≠z->c≠TO->c≠i1->c≠i2->s.heap.get? c=some o->h'.get? c=some o)->Q none { s with heap:=h' }):wpAny (model prog w) A (pyNext (.ref z)) Q E s:=by
 have ty:s.TypeIs (.ref z) "zip" := ⟨_,gz,rfl⟩;unfold pyNext;refine Aa (Fv (Cd (name:=Str.ofString "__next__") ty F.slot_zip_next (Cw F.slot_zip_next ty F.entry_zip_next (z5t hn D gz gi go c1 c2 he λh' e k so=>?_) (F.args_zip_next_1 _))));obtain⟨o,go',co⟩:=so;exact Aa (wpAny_isInstance (T := "StopIteration") (b:=true) ⟨o,go',co⟩ isSubtype_stop (Ag (q _ k)))
end
noncomputable def SrcO (h:Heap) (b:Bool) (l:Addr) (xs:Array Value):Prop:=match b with
 |true=>h.IsList l xs
 |false=>h.IsTuple l xs
noncomputable def itO (b:Bool) (l:Addr):Obj:={ cls:=.type (if b then "list_iterator" else "tuple_iterator"),data:=.fields #[.ref l,.int 0 0] }
theorem SrcO.push {h:Heap}{b:Bool}{l:Addr}{xs:Array Value} (c:SrcO h b l xs) (o:Obj):SrcO (h.push o) b l xs:=by
  cases b with
  |true=>exact Heap.IsList.push c o
  | false =>
    obtain⟨q,e,r⟩:=c;exact⟨q,Ab _ e,r⟩
section
variable {prog:Program}{w:World}{A:Around}{E:Value->Shared->Prop}{s:Shared}
theorem zj2 {b:Bool}{l:Addr}{xs:Array Value}{Q:Value->Shared->Prop}(c:SrcO s.heap b l xs)(q:Q (.ref s.heap.objs.size) { s with heap:=s.heap.push (itO b l) }):wpAny (model prog w) A (pyIter (.ref l)) Q E s:=by
 cases b with
 |true=>exact Gf c q
 |false=>exact Hn c q
end
noncomputable abbrev zA (h:Heap) (b:Bool) (l:Addr):Heap:=h.push (itO b l)
noncomputable abbrev zB (h:Heap) (b c:Bool) (l m:Addr):Heap:=(zA h b l).push (itO c m)
noncomputable abbrev zC (h:Heap) (b c:Bool) (l m:Addr):Heap:=(zB h b c l m).push { cls:=.type "tuple",data:=.seq #[.ref h.objs.size,.ref (zA h b l).objs.size] }
noncomputable abbrev zD (h:Heap) (b c:Bool) (l m:Addr):Heap:=(zC h b c l m).push { cls:=.type "tuple",data:=.seq #[.none,.none] }
noncomputable abbrev zE (h:Heap) (b c:Bool) (l m:Addr):Heap:=(zD h b c l m).push { cls:=.type "zip",data:=.fields #[.none,.bool false,.bool false,.ref (zB h b c l m).objs.size,.ref (zC h b c l m).objs.size] }
theorem zs8 (b c:Bool)(l m:Addr)(xs ys:Array Value):Meets (Builtin.«zip.__new__» ⟨[.type "zip",.ref l,.ref m],[]⟩) (λ_ R s=>SrcO s.heap b l xs/\SrcO s.heap c m ys/\R (.ok (.ret (.ref (zD s.heap b c l m).objs.size))) { s with heap:=zE s.heap b c l m }) :=
 .of_wp λprog w A R s h=>by
  obtain⟨hp,g,d,tk,os⟩:=s;obtain⟨x1,x2,h⟩:=h;have hsub:=sub_zip;have y1:SrcO (Shared.heap ⟨hp,g,d,tk,os⟩) b l xs:=x1;have y2:SrcO (Shared.heap ⟨hp.push (itO b l),g,d,tk,os⟩) c m ys:=SrcO.push x2 _
  wp_walk using zj2 y1,zj2 y2
  exact⟨_,rfl,h⟩
section
variable {prog:Program}{w:World}{A:Around}{E:Value->Shared->Prop}{s:Shared}
theorem zwx {b c:Bool}{l m:Addr}{xs ys:Array Value}{Q:Value->Shared->Prop} (x1:SrcO s.heap b l xs) (x2:SrcO s.heap c m ys)
  (h:∀h',IsZip h' (s.heap.objs.size+4) (s.heap.objs.size+2) (s.heap.objs.size+3) .none->IsPair h' (s.heap.objs.size+2) (.ref s.heap.objs.size) (.ref (s.heap.objs.size+1))->IsPair h' (s.heap.objs.size+3) .none .none ->
   h'.get? s.heap.objs.size=some (itO b l)->h'.get? (s.heap.objs.size+1)=some (itO c m)->(∀c o,s.heap.get? c=some o->h'.get? c=some o)->Q (.ref (s.heap.objs.size+4)) { s with heap:=h' }) :
  wpAny (model prog w) A (call (.type "zip") [.ref l,.ref m]) Q E s:=by
 refine callType_new F.called_zip #v[0,9] (F.typeCall_zip_2 _ _) (F.newCall_zip_2 _ _) (λobj=>F.args_object_init_3 obj _ _) F.entry_zip_new (zs8 b c l m xs ys) ⟨x1,x2,?_⟩;have n1:(zA s.heap b l).objs.size=s.heap.objs.size+1:=Ea ..;have n2:(zB s.heap b c l m).objs.size=s.heap.objs.size+2:=by rw[Ea,n1]
 have n3:(zC s.heap b c l m).objs.size=s.heap.objs.size+3:=by rw[Ea,n2]
 have n4:(zD s.heap b c l m).objs.size=s.heap.objs.size+4:=by rw[Ea,n3]
 have up:∀r o,s.heap.get? r=some o->(zE s.heap b c l m).get? r=some o:=λr o x=>Ab _ (Ab _ (Ab _ (Ab _ (Ab _ x))));have e5:(zE s.heap b c l m).get? (zD s.heap b c l m).objs.size=some _:=Ak _ rfl;have e4:(zE s.heap b c l m).get? (zC s.heap b c l m).objs.size=some _:=Ab _ (Ak _ rfl);have e3:(zE s.heap b c l m).get? (zB s.heap b c l m).objs.size=some _:=Ab _ (Ab _ (Ak _ rfl));have e2:(zE s.heap b c l m).get? (zA s.heap b l).objs.size=some (itO c m):=Ab _ (Ab _ (Ab _ (Ak _ rfl)));have e1:(zE s.heap b c l m).get? s.heap.objs.size=some (itO b l):=Ab _ (Ab _ (Ab _ (Ab _ (Ak _ rfl))));show _/\_;rw[n2,n3,n4] at e5;rw[n1,n2] at e3;rw[n3] at e4;rw[n1] at e2;rw[n4];exact⟨⟨_,e5,rfl⟩,h _ e5 e3 e4 e1 e2 up⟩
end
noncomputable def SqK (K:PySem.W.Frag) (k:Bool) (H:Hp) (a:Addr) (xs:List V):Prop:=match k with
 |true=>SqL K H a xs
 |false=>SqT K H a xs
noncomputable def ItI (h:Heap) (k:Bool) (it l:Addr) (i:Nat):Prop:=match k with
 |true=>h.IsListIter it l i
 |false=>h.IsTupleIter it l i
theorem SqK.mono {K:PySem.W.Frag}{k:Bool}{F H:Hp}{a:Addr}{xs:List V}(s:Same F H)(h:SqK K k F a xs):SqK K k H a xs:=by
 cases k with
 |true=>exact s.seq h
 |false=>exact zca s h
theorem Inv.sqK {X:Cx}{pins:List (Addr × Obj)}{σ:St}{H:Hp}{s:Shared}{k:Bool}{a:Addr}{xs:List V}(I:Inv X pins σ H s)(h:SqK X.K k H a xs):∃its:List Value,Vals xs its/\SrcO s.heap k a its.toArray:=by
 cases k with
 |true=>obtain⟨its,r,p,_⟩:=I.list h;exact⟨its,r,p.isList⟩
 |false=>obtain⟨its,r,p,_⟩:=I.tuple h;exact⟨its,r,p⟩
theorem Inv.sqK_inj {X:Cx}{pins:List (Addr × Obj)}{σ:St}{H:Hp}{s:Shared}{k:Bool}{a:Addr}{xs ys:List V}(I:Inv X pins σ H s)(h:SqK X.K k H a xs)(h' : SqK X.K k H a ys):xs=ys:=by
 cases k with
 |true=>exact I.list_inj h h'
 |false=>exact I.tuple_inj h h'
theorem ItI.src {h:Heap}{k:Bool}{it l:Addr}{i:Nat}{xs:Array Value}(a:ItI h k it l i)(b:SrcO h k l xs):Src h it l i xs:=by
 cases k with
 |true=>exact .inl ⟨a,b⟩
 |false=>exact .inr ⟨a,b⟩
theorem Src.itI {h:Heap}{k:Bool}{it l:Addr}{i:Nat}{xs:Array Value} (c:Src h it l i xs) (b:SrcO h k l xs):ItI h k it l i:=by
  cases k with
  | true =>
    rcases c with⟨c,_⟩|⟨_,⟨o,e,q,_⟩⟩
    · exact c
    · obtain ⟨o', e', q', _⟩ := b
      rw[e] at e';obtain rfl:=sI e';rw[q] at q';simp at q'
  | false =>
    rcases c with⟨_,⟨o,e,q,_⟩⟩|⟨c,_⟩
    · obtain ⟨o', e', q', _⟩ := b
      rw[e] at e';obtain rfl:=sI e';rw[q] at q';simp at q'
    · exact c
theorem ItI.at {h h' : Heap}{k:Bool}{it l:Addr}{i:Nat}(a:ItI h k it l i)(q:∀o,h.get? it=some o->h'.get? it=some o):ItI h' k it l i:=by
 cases k with
 |true=>exact Heap.IsListIter.at a q
 |false=>exact Heap.IsTupleIter.at a q
theorem ItI.obj {h:Heap}{k:Bool}{it l:Addr}{i:Nat}(a:ItI h k it l i):∃o,h.get? it=some o/\∀v,o.data≠.cell v:=by
 cases k with
 |true=>obtain⟨o,e,_,d⟩:=a;exact⟨o,e,λv z=>by rw[d] at z;cases z⟩
 |false=>obtain⟨o,e,_,d⟩:=a;exact⟨o,e,λv z=>by rw[d] at z;cases z⟩
noncomputable def Itz (K:PySem.W.Frag) (ka kb:Bool) (a b:Addr):It :=
 ⟨λi H=>∃xs ys x y,SqK K ka H a xs/\SqK K kb H b ys/\xs[i]?=some x/\ys[i]?=some y,
  λi H x H'=>∃p v u,x=.ref p/\H p=none/\H'=upd H p (.tup [v,u])/\(∀xs,SqK K ka H a xs->xs[i]?=some v)/\(∀ys,SqK K kb H b ys->ys[i]?=some u),
  λi H=>∃xs ys,SqK K ka H a xs/\SqK K kb H b ys/\(xs.length<=i\/ys.length<=i)⟩
noncomputable def zSt (ka kb:Bool) (z TI TO i1 i2 a b:Addr) (i:Nat) (h:Heap):Prop:=IsZip h z TI TO .none/\IsPair h TI (.ref i1) (.ref i2)/\(∃u v,IsPair h TO u v)/\ItI h ka i1 a i/\ItI h kb i2 b i
theorem zv1 {P:Program}{w:World}{K:PySem.W.Frag}{es:List Expr}{x1}{px:Pos}(ka kb:Bool)(z TI TO i1 i2 a b:Addr)(D:ZipApart z TI TO i1 i2 a b):Turn P w K (.Tuple es x1 px) (Itz K ka kb a b) [z,TI,TO,i1,i2] z (zSt ka kb z TI TO i1 i2 a b) where
 mem:=by simp
 obj:=λi h st c hc=>by
  nofun;obtain⟨gz,gi,⟨u,v,go⟩,t1,t2⟩:=st;ac_rfl;simp only [At,Aq,Cp,or_false] at hc;rcases hc with rfl|rfl|rfl|rfl|rfl
  ·exact⟨_,gz,λv q=>by cases q⟩
  ·exact⟨_,gi,λv q=>by cases q⟩
  ·exact⟨_,go,λv q=>by cases q⟩
  ·exact t1.obj
  ·exact t2.obj
 keep:=λi h h' st k=>by
  nofun;obtain⟨gz,gi,⟨u,v,go⟩,t1,t2⟩:=st;ac_rfl;exact⟨k z (by simp) _ gz,k TI (by simp) _ gi,⟨u,v,k TO (by simp) _ go⟩,t1.at λo e=>k i1 (by simp) o e,t2.at λo e=>k i2 (by simp) o e⟩
 item:=by
  intro X hP hw hK hc i pins s σ H E I hf st hg;subst hP hw hK;nofun;obtain⟨xs,ys,x,y,q1,q2,e1,e2⟩:=hg;obtain⟨gz,gi,⟨u0,v0,go⟩,t1,t2⟩:=st;obtain⟨its,r1,so1⟩:=I.sqK q1;obtain⟨its',r2,so2⟩:=I.sqK q2;obtain⟨u,hu,ru⟩:=r1.get e1;obtain⟨v,hv,rv⟩:=r2.get e2;ac_rfl;refine z2q D gz gi go (t1.src so1) (t2.src so2) (x:=u) (y:=v) (by simpa using hu) (by simpa using hv) λh' g1 g2 g3 g4 g5 g6=>⟨_,rfl,?_⟩;refine wpAny_letOwnedTupleGo_zip g1 λh'' k1 k2=>?_;have lt:∀c o,s.heap.get? c=some o->c≠s.heap.objs.size:=λc o e=>Bc (Ao e);have kk:∀c o,c ∉ [z,TI,TO,i1,i2]->s.heap.get? c=some o->h''.get? c=some o:=λc o hb e=>by
   simp only [At,Aq,Cp,or_false,not_or] at hb;exact (k2.2 c hb.1).trans (g6 c o hb.1 hb.2.2.1 hb.2.2.2.1 hb.2.2.2.2 e)
  obtain⟨o1,eo1⟩:=(t1.src so1).src;obtain⟨o2,eo2⟩:=(t2.src so2).src;have so1' : SrcO h' ka a its.toArray:=by
   cases ka with
   |true=>exact so1.at λo e=>g6 a o D.l1z D.l1TO D.l1i1 D.l1i2 e
   |false=>obtain⟨o,e,r⟩:=so1;exact⟨o,g6 a o D.l1z D.l1TO D.l1i1 D.l1i2 e,r⟩
  have so2' : SrcO h' kb b its'.toArray:=by
   cases kb with
   |true=>exact so2.at λo e=>g6 b o D.l2z D.l2TO D.l2i1 D.l2i2 e
   |false=>obtain⟨o,e,r⟩:=so2;exact⟨o,g6 b o D.l2z D.l2TO D.l2i1 D.l2i2 e,r⟩
  have t1' : ItI h'' ka i1 a (i+1):=(g3.itI so1').at λo e=>(k2.2 i1 D.i1z).trans e;have t2' : ItI h'' kb i2 b (i+1):=(g4.itI so2').at λo e=>(k2.2 i2 D.i2z).trans e;have gi' : IsPair h'' TI (.ref i1) (.ref i2):=(k2.2 TI D.TIz).trans (g6 TI _ D.TIz D.TITO D.TIi1 D.TIi2 gi);have go' : IsPair h'' TO u v:=(k2.2 TO D.TOz).trans g2;have Tz:s.heap.objs.size≠z:=(lt z _ gz).symm;refine⟨.ref s.heap.objs.size,upd H s.heap.objs.size (.tup [x,y]),I.turnLay kk (λc hb=>?_) hf (Af _) ⟨by show 2<=sizeLine;decide,[u,v],.cons ru (.cons rv .nil),?_⟩,rfl,⟨_,x,y,rfl,I.hok.fresh (Af _),rfl,λzs hz=>by rw[I.sqK_inj hz q1];exact e1,λzs hz=>by rw[I.sqK_inj hz q2];exact e2⟩,⟨k1,gi',⟨u,v,go'⟩,t1',t2'⟩,λc hb=>?_⟩
  ·simp only [At,Aq,Cp,or_false] at hb;rcases hb with rfl|rfl|rfl|rfl|rfl
   ·exact⟨_,k1⟩
   ·exact⟨_,gi'⟩
   ·exact⟨_,go'⟩
   ·obtain⟨o,e,_⟩:=t1'.obj;exact⟨o,e⟩
   ·obtain⟨o,e,_⟩:=t2'.obj;exact⟨o,e⟩
  ·exact⟨_,(k2.2 _ Tz).trans g5,⟨rfl,_,rfl⟩,rfl⟩
  ·have ne:c≠s.heap.objs.size:=by
    simp only [At,Aq,Cp,or_false] at hb;rcases hb with rfl|rfl|rfl|rfl|rfl
    ·exact lt _ _ gz
    ·exact lt _ _ gi
    ·exact lt _ _ go
    ·obtain⟨o,e,_⟩:=t1.obj;exact lt _ _ e
    ·obtain⟨o,e,_⟩:=t2.obj;exact lt _ _ e
   rw[upd_ne ne];exact (hf c hb).1
 done:=by
  intro X hP hw hK hc i pins s σ H E I hf st hg;subst hP hw hK;nofun;obtain⟨xs,ys,q1,q2,he⟩:=hg;obtain⟨gz,gi,⟨u0,v0,go⟩,t1,t2⟩:=st;obtain⟨its,r1,so1⟩:=I.sqK q1;obtain⟨its',r2,so2⟩:=I.sqK q2;ac_rfl;have l1:=r1.length;have l2:=r2.length;refine z51 (I.ok.hd hc) D gz gi go (t1.src so1) (t2.src so2) ?_ λh' k=>⟨rfl,I.turnL (t':=s.toks) (ch:=[z,TI,TO,i1,i2]) (λc o hb e=>?_) hf⟩
  ·rcases he with he|he
   ·exact .inl (Do (by simp;omega))
   ·exact .inr (Do (by simp;omega))
  ·simp only [At,Aq,Cp,or_false,not_or] at hb;exact k c o hb.1 hb.2.2.1 hb.2.2.2.1 hb.2.2.2.2 e
 self:=λ_ _ _ _ _ st h=>wpAny_pyIter_zip st.1 h
theorem zwm:bootBuiltins "zip" = some (.type "zip"):=by decide +kernel
section
variable {X:Cx}
noncomputable def iZip (K:PySem.W.Frag) (ta:TA):TI:=λσ H R=>ta σ H λvs H1=>∃a b ka kb xs ys,vs=[.ref a,.ref b]/\SqK K ka H1 a xs/\SqK K kb H1 b ys/\R (Itz K ka kb a b) H1
theorem z6a {es:List Expr}{x1}{px:Pos}{l m:Expr}{tl:TA}{p pos:Pos} (hg:Gl X "zip") (hm:X.mg "zip" = none) (hl:PA X [l,m] tl) (hs:starEach [l,m] X.env=[(false,eval l X.env),(false,eval m X.env)]) (hs2:starEach [m] X.env=[(false,eval m X.env)]) :
    PI X (.Tuple es x1 px) (.Call (.Name "zip" p) [l,m] [] pos) (iZip X.K tl):=by
  intro pins s σ H R I h;refine Call_ (zhw I hg hm zwm (Er (thn (hl pos pins s σ H _ I h) λus s1 ⟨vs,H1,I1,r1,q1⟩=>?_) (by rw[hs,hs2]) (by rw[hs2];rfl)));nofun;obtain⟨a,b,ka,kb,xs,ys,e,q2,q3,q⟩:=q1;ac_rfl;subst e;cases r1 with
  | cons r rr =>
    cases rr with
    | cons r' rr =>
      cases rr;cases r;cases r';refine aG fun _ qG=>?_;obtain ⟨its,rv1,so1⟩:=I1.sqK q2;obtain ⟨its',rv2,so2⟩:=I1.sqK q3;refine qG ?_;clear qG;refine zwx so1 so2 fun h' g1 g2 g3 g4 g5 up=>wpAny_pyIter_zip g1 ?_;have la:a < s1.heap.objs.size:=by
        cases ka with
        |true=>obtain⟨o,e,_⟩:=so1;exact Ao e
        |false=>obtain⟨o,e,_⟩:=so1;exact Ao e
      have lb:b < s1.heap.objs.size:=by
        cases kb with
        |true=>obtain⟨o,e,_⟩:=so2;exact Ao e
        |false=>obtain⟨o,e,_⟩:=so2;exact Ao e
      have D:ZipApart (s1.heap.objs.size+4) (s1.heap.objs.size+2) (s1.heap.objs.size+3) s1.heap.objs.size (s1.heap.objs.size+1) a b:=by
        have up:∀{c:Addr} (k:Nat),c<s1.heap.objs.size->c≠s1.heap.objs.size+k:=λk h=>Bc (Bd h (Ec _ k));refine⟨?_,?_,?_,?_,?_,?_,?_,?_,?_,?_,up 4 la,up 3 la,up 0 la,up 1 la,up 4 lb,up 3 lb,up 0 lb,up 1 lb⟩<;>(intro z;have z' : (_:Nat)=_:=z;omega)
      have t1:ItI h' ka s1.heap.objs.size a 0:=by cases ka<;>exact⟨_,g4,rfl,rfl⟩
      have t2:ItI h' kb (s1.heap.objs.size+1) b 0:=by cases kb<;>exact⟨_,g5,rfl,rfl⟩
      refine ⟨_,_,_,_,H1,rfl,I1.kept (t':=s1.toks) up,zv1 ka kb _ _ _ _ _ a b D,⟨g1,g2,⟨_,_,g3⟩,t1,t2⟩,fun c hb=>?_,q⟩;have le:s1.heap.objs.size<=c:=by
        simp only [At,Aq,Cp,or_false] at hb;rcases hb with rfl|rfl|rfl|rfl|rfl
        · exact Ec _ _
        · exact Ec _ _
        · exact Ec _ _
        · exact Af _
        · exact Ec _ _
      exact I1.fpOk le (I1.hok.fresh le)
end
noncomputable def zipW:List W->List W->List W
 |x::xs,y::ys=>.tup [x,y]::zipW xs ys
 |_,_=>[]
theorem zd0:∀(xs ys:List W),(zipW xs ys).length=min xs.length ys.length
 |[],_=>by simp [zipW]
 |_::_,[]=>by simp [zipW]
 |_::xs,_::ys=>by simp only [zipW,Ba,zd0 xs ys];omega
theorem zim:∀{xs ys:List W}{i:Nat}{x y:W},xs[i]?=some x->ys[i]?=some y->(zipW xs ys)[i]?=some (.tup [x,y])
  |[],_,_,_,_,e,_=>by simp at e
  |_::_,[],_,_,_,_,e=>by simp at e
  |_::xs,_::ys,0,_,_,e,e'=>by simp at e e';subst e e';rfl
  | _::xs,_::ys,i+1,x,y,e,e'=>by
    show (zipW xs ys)[i]?=_;exact zim (by simpa using e) (by simpa using e')
noncomputable def gZip (g g' : GE):GL:=λen=>(g en).bind λp=>(g' p.1).bind λq=>(seqW p.2.1).bind λws=>(seqW q.2.1).bind λus=>some (q.1,zipW ws us)
section
variable {K:PySem.W.Frag}{F H:Hp}{σ:St}
theorem zea {w:W}{ws:List W}{v:V} (y:Rep K F w v) (hs:seqW w=some ws):∃a k vs,v=.ref a/\SqK K k F a vs/\Reps K F ws vs:=by
  cases w with
  | lst xs=>obtain rfl:=sI hs;cases y with
    |lst y r=>exact⟨_,true,_,rfl,SqL.of' y,r⟩
  | frl xs=>obtain rfl:=sI hs;cases y with
    |frl y r=>exact⟨_,true,_,rfl,y,r⟩
  | tup xs=>obtain rfl:=sI hs;cases y with
    |tup y r=>exact⟨_,false,_,rfl,.inl (.inl y),r⟩
  |_=>exact noSome hs
theorem z6m {a b:Addr}{ka kb:Bool}{vs us:List V}{ws zs:List W}(h:SqK K ka F a vs)(h' : SqK K kb F b us)(r:Reps K F ws vs)(r' : Reps K F zs us):ItOk K F (Itz K ka kb a b) (zipW ws zs) where
 go:=λi H s hi=>by
  rw[zd0] at hi;have l1:i<vs.length:=by rw[<-r.length];omega
  have l2:i<us.length:=by rw[<-r'.length];omega
  exact⟨vs,us,vs[i],us[i],h.mono s,h'.mono s,Ae l1,Ae l2⟩
 stop:=λH s=>⟨vs,us,h.mono s,h'.mono s,by rw[zd0,r.length,r'.length];omega⟩
 yld:=λi H x H' s hi y=>by
  nofun;obtain⟨p,v,u,e1,hp,e2,y1,y2⟩:=y;ac_rfl;subst e1 e2;nofun;obtain⟨w1,g1,q1⟩:=r.getV (y1 vs (h.mono s));obtain⟨w2,g2,q2⟩:=r'.getV (y2 us (h'.mono s));ac_rfl;exact⟨_,zim g1 g2,.tup hp (.cons q1 (.cons q2 .nil))⟩
theorem zx2 {g g' : GE}{R:It->Hp->Prop}(h:tI K (gZip g g') σ H R):iZip K (zhd (tE K g) (zhd (tE K g') tNil)) σ H R:=by
 nofun;obtain⟨F,pr,en,en',ws,Re,h,q⟩:=h;obtain⟨⟨e1,r1⟩,h1,h⟩:=bS h;obtain⟨⟨e2,r2⟩,h2,h⟩:=bS h;obtain⟨us,hs,h⟩:=bS h;obtain⟨zs,hs',h⟩:=bS h;ac_rfl;cases h;refine⟨F,pr,en,e1,r1,Re,h1,λF1 H1 v s1 R1 z=>?_⟩;nofun;obtain⟨F2,s2,R2,y⟩:=z.freeze R1;ac_rfl;refine⟨F2,pr,e1,e2,r2,R2,h2,λF3 H3 v' s3 R3 z'=>?_⟩;nofun;obtain⟨F4,s4,R4,y'⟩:=z'.freeze R3;obtain⟨a,ka,vs,ea,qa,ra⟩:=zea (y.mono (s3.trans s4)) hs;obtain⟨b,kb,vs',eb,qb,rb⟩:=zea y' hs';ac_rfl;subst ea eb;exact⟨a,b,ka,kb,vs,vs',rfl,qa.mono R4.sub,qb.mono R4.sub,q F4 H3 _ (s1.trans (s2.trans (s3.trans s4))) R4 (z6m qa qb ra rb)⟩
end
open AutoSeq1 (wpAny_loadPart')
section
variable {prog:Program}{w:World}{A:Around}{E:Value->Shared->Prop}{s:Shared}
theorem zt8 {it l:Addr}{xs:Array Value}(ne:l≠it)(hn:A.handled=none):Draws prog w A.in1 it [it,l] xs.size (λi x=>xs[i]?=some x) (λk h=>h.IsTupleIter it l k/\h.IsTuple l xs) where
 live:=λi h st=>let ⟨⟨o,e,_⟩,_⟩:=st;⟨o,e⟩
 frame:=λi h h' st k=>⟨st.1.at λo e=>k it (by simp) o e,let ⟨o,e,r⟩:=st.2;⟨o,k l (by simp) o e,r⟩⟩
 item:=λi s Q E hi st q=>zft (k:=i) (xs:=xs) (x:=xs[i]) (.inr st) (Dw hi) ne λh' c sb=>by
  rcases c with⟨⟨o,e,c1,_⟩,c2⟩|c
  ·obtain ⟨o', e', c1', _⟩ := st.1;have:=st.2;exact absurd c2 (fun c2=>by
    obtain⟨o2,e2,c3,_⟩:=c2;obtain⟨o3,e3,c4,_⟩:=st.2;rw[(sb.2 l ne).trans e3] at e2;obtain rfl:=sI e2;rw[c4] at c3;exact absurd (Value.type.inj c3) #v[0,9])
  ·exact q xs[i] h' s.toks (Dw hi) c sb
 done:=λs Q E st q=>zil (k:=xs.size) (xs:=xs) (show A.in1.handled=none from hn) (.inr st) (Do (Af _)) q
theorem zmi (l:Addr) (items:Array Value) (n:Nat) (dct:Option Addr) (sl:Array (Option Value)) :
  Meets (Builtin.«enumerate.__new__» ⟨[.type "enumerate",.ref l],[]⟩) (λ_ R s=>s.heap.get? l=some { cls:=.type "tuple",dict:=dct,data:=.seq items n,slots:=sl } /\
   R (.ok (.ret (.ref (s.heap.push { cls:=.type "tuple_iterator",data:=.fields #[.ref l,.int 0 0] }).objs.size)))
    { s with heap:=(s.heap.push { cls:=.type "tuple_iterator",data:=.fields #[.ref l,.int 0 0] }).push { cls:=.type "enumerate",data:=.fields #[.none,.bool false,.ref s.heap.objs.size,rawInt 0,.none,.none] } }) :=
 .of_wp λprog w A R s h=>by
  obtain⟨hp,g,d,tk,os⟩:=s;obtain⟨hl,h⟩:=h;have hsub:=sub_enumerate;have hL:Heap.IsTuple (Shared.heap ⟨hp,g,d,tk,os⟩) l items:=⟨_,hl,rfl,n,rfl⟩
  wp_walk using Cc hl
  refine wpAny_stack_any λst=>Ag ?_;split
  ·rename_i c _ _ _ _ _;cases (c == Value.type "enumerate")<;>(wp_walk using Cc hl,Hn hL)<;>exact⟨_,rfl,h⟩
  ·wp_walk using Cc hl,Hn hL
   exact⟨_,rfl,h⟩
theorem zqq {l:Addr}{items:Array Value}{Q:Value->Shared->Prop} (hL:s.heap.IsTuple l items)
  (h:∀h',IsEnum h' (s.heap.objs.size+1) s.heap.objs.size 0 .none->h'.IsTupleIter s.heap.objs.size l 0->(∀b o,s.heap.get? b=some o->h'.get? b=some o)->Q (.ref (s.heap.objs.size+1)) { s with heap:=h' }) :
  wpAny (model prog w) A (call (.type "enumerate") [.ref l]) Q E s:=by
 nofun;obtain⟨⟨c,dct,dt,sl⟩,hl,hc,n,hd⟩:=hL;ac_rfl;cases (show c=.type "tuple" from hc);cases (show dt=.seq items n from hd);refine callType_new F.called_enumerate #v[0,9] (F.typeCall_enumerate_1 _) (F.newCall_enumerate_1 _) (λobj=>F.args_object_init_2 obj _) F.entry_enumerate_new (zmi l items n dct sl) ⟨hl,?_⟩;have hz:(s.heap.push { cls:=.type "tuple_iterator",data:=.fields #[.ref l,.int 0 0] }).objs.size=s.heap.objs.size+1:=Ea ..;show _/\_;rw[hz];have he:=Ak (s.heap.push { cls:=.type "tuple_iterator",data:=.fields #[.ref l,.int 0 0] }) (o:={ cls:=.type "enumerate",data:=.fields #[.none,.bool false,.ref s.heap.objs.size,rawInt 0,.none,.none] }) rfl;rw[hz] at he;exact⟨⟨_,he,rfl⟩,h _ he ⟨_,Ab _ (Ak _ rfl),rfl,rfl⟩ λb o x=>Ab _ (Ab _ x)⟩
end
noncomputable def IteT (K:PySem.W.Frag) (a:Addr):It :=
 ⟨λi H=>∃xs x,SqT K H a xs/\xs[i]?=some x,λi H x H'=>∃p v,x=.ref p/\H p=none/\H'=upd H p (.tup [.int i,v])/\∀xs,SqT K H a xs->xs[i]?=some v,λi H=>∃xs,SqT K H a xs/\xs.length<=i⟩
theorem zqd {P:Program}{w:World}{K:PySem.W.Frag}{es:List Expr}{x1}{px:Pos}(a e it:Addr)(hei:e≠it)(hea:e≠a)(hai:a≠it):Turn P w K (.Tuple es x1 px) (IteT K a) [e,it] e (λi h=>(∃old,IsEnum h e it i old)/\h.IsTupleIter it a i) where
 mem:=by simp
 obj:=λi h st b hb=>by
  nofun;obtain⟨⟨old,he⟩,o,hi,c,d⟩:=st;ac_rfl;rcases At.mp hb with rfl|hb
  ·exact⟨_,he,λv z=>by cases z⟩
  ·have : b = it:=by simpa using hb
   subst this;exact⟨o,hi,λv z=>by rw[d] at z;cases z⟩
 keep:=λi h h' st k=>⟨let ⟨old,he⟩:=st.1;⟨old,k e (by simp) _ he⟩,st.2.at λo z=>k it (by simp) o z⟩
 item:=by
  intro X hP hw hK hc i pins s σ H E I hf st hg;subst hP hw hK;nofun;obtain⟨xs,x,hq,hx⟩:=hg;obtain⟨its,rv,p,hz⟩:=I.tuple hq;obtain⟨u,hu,ru⟩:=rv.get hx;obtain⟨⟨old,he⟩,hit⟩:=st;ac_rfl;have hT:s.heap.IsTuple a its.toArray:=p;have lt:i<its.toArray.size:=by
   rw[Am];exact (Ai.mp hu).1
  refine wpAny_pyNext_enum_itemD (zt8 hai (I.ok.hd hc)) he ⟨hit,hT⟩ lt hei (by simp [hei,hea]) λy h' tk hy ho hst hT' hsz hk=>⟨_,rfl,?_⟩;have eu:y=u:=by
   have:its[i]?=some y:=by simpa using hy
   rw[hu] at this;exact (sI this).symm
  subst eu;refine wpAny_letOwnedTupleGo_enum ho λh'' he'' hs''=>?_;have kk:∀b o,b ∉ [e,it]->s.heap.get? b=some o->h''.get? b=some o:=λb o hb q=>by
   have h1:b≠e:=λz=>hb (by simp [z]);have h2:b≠it:=λz=>hb (by simp [z]);exact (hs''.2 b h1).trans (hk b o h1 h2 q)
  have hTe:s.heap.objs.size≠e:=λz=>absurd (Ao he) (by rw[z];exact Cj _);have hit'' : h''.IsTupleIter it a (i+1):=hst.1.at λo y=>(hs''.2 it hei.symm).trans y;refine⟨.ref s.heap.objs.size,upd H s.heap.objs.size (.tup [.int i,x]),I.turnLay kk (λb hb=>?_) hf (Af _) ⟨by show 2<=sizeLine;decide,[.int i tk,y],.cons ⟨_,rfl⟩ (.cons ru .nil),?_⟩,rfl,⟨_,x,rfl,I.hok.fresh (Af _),rfl,λys hy=>by rw[I.tuple_inj hy hq];exact hx⟩,⟨⟨_,by simpa using he''⟩,hit''⟩,λb hb=>?_⟩
  ·rcases At.mp hb with rfl|hb
   ·exact⟨_,he''⟩
   ·have : b = it:=by simpa using hb
    subst this;obtain⟨o,z,_⟩:=hit'';exact⟨o,z⟩
  ·exact⟨_,(hs''.2 _ hTe).trans hT',⟨rfl,_,rfl⟩,rfl⟩
  ·have:b≠s.heap.objs.size:=by
    rcases At.mp hb with rfl|hb
    ·exact hTe.symm
    ·have e2 : b = it:=by simpa using hb
     subst e2;obtain⟨o,z,_⟩:=hit;exact Bc (Ao z)
   rw[upd_ne this];exact (hf b hb).1
 done:=by
  intro X hP hw hK hc i pins s σ H E I hf st hg;subst hP hw hK;nofun;obtain⟨xs,hq,hx⟩:=hg;obtain⟨its,rv,p,hz⟩:=I.tuple hq;obtain⟨⟨old,he⟩,hit⟩:=st;obtain⟨f0,f1,f2,f3,f4,f5⟩:=hf it (by simp);ac_rfl;have hl:=rv.length;have hT:s.heap.IsTuple a its.toArray:=p;have hTy:s.TypeIs (.ref e) "enumerate" := ⟨_,he,rfl⟩;unfold pyNext;refine Aa (Fv (Cd (name:=Str.ofString "__next__") hTy F.slot_enumerate_next (Cw F.slot_enumerate_next hTy F.entry_enumerate_next ?_ (F.args_enumerate_next_1 _))));show wpAny _ _ (field (.ref e) 2 >>= _) _ _ _;refine Aa (Ct he rfl (x:=.ref it) rfl ?_);refine Aa (zil (show _=none from I.ok.hd hc) (.inr ⟨hit,hT⟩) (Do (by simp;omega)) λh' x eb hx'=>?_);obtain⟨o,ho,hc'⟩:=hx';refine Aa (wpAny_isInstance (T := "StopIteration") (b:=true) ⟨o,ho,hc'⟩ isSubtype_stop ?_);exact Ag ⟨rfl,I.turned (t':=s.toks) (λb o hb e=>eb b o hb e) f0 f1 f3 f4 f5⟩
 self:=λ_ _ _ _ _ st h=>let ⟨_,he⟩:=st.1;Hs he h
section
variable {X:Cx}
noncomputable def zzf (K:PySem.W.Frag) (ta:TA):TI:=λσ H R=>ta σ H λvs H1=>∃a xs,vs=[.ref a]/\(SqL K H1 a xs/\R (Ite K a) H1\/SqT K H1 a xs/\R (IteT K a) H1)
theorem zwh {es:List Expr}{x1}{px:Pos}{l:Expr}{tl:TA}{p pos:Pos} (hg:Gl X "enumerate") (hm:X.mg "enumerate" = none) (hl:PA X [l] tl) (hs:starEach [l] X.env=[(false,eval l X.env)]:=by rfl) :
    PI X (.Tuple es x1 px) (.Call (.Name "enumerate" p) [l] [] pos) (zzf X.K tl):=by
  intro pins s σ H R I h;refine Call_ (zhw I hg hm boot_enumerate (Er (thn (hl pos pins s σ H _ I h) λus s1 ⟨vs,H1,I1,r1,q1⟩=>?_) hs rfl));obtain⟨a,xs,e,q⟩:=q1;subst e;cases r1 with
  | cons r rr =>
    cases rr;cases r;have fp:∀b∈[s1.heap.objs.size+1,s1.heap.objs.size],FpOk X pins H1 b:=fun b hb=>by
      have e:s1.heap.objs.size<=b:=by
        rcases At.mp hb with rfl|hb
        · exact Nat.le_succ _
        · have e2 : b = s1.heap.objs.size := by simpa using hb
          rw[e2];exact Af _
      exact I1.fpOk e (I1.hok.fresh e)
    rcases q with⟨hq,q⟩|⟨hq,q⟩
    · obtain ⟨its, rv, p', hz⟩ := I1.list hq
      refine call_enumerate_list p'.isList λh' he hit hsz hk=>Hs he ?_;exact⟨s1.heap.objs.size+1,[s1.heap.objs.size+1,s1.heap.objs.size],_,_,H1,rfl,I1.kept (t':=s1.toks) hk,ztj a _ _ (Nat.succ_ne_self _),⟨⟨_,by simpa using he⟩,hit⟩,fp,q⟩
    · obtain ⟨its, rv, p', hz⟩ := I1.tuple hq
      have hT:s1.heap.IsTuple a its.toArray:=p';have al:a<s1.heap.objs.size:=let ⟨o,e,_⟩:=hT;Ao e;refine zqq hT λh' he hit hk=>Hs he ?_;exact⟨s1.heap.objs.size+1,[s1.heap.objs.size+1,s1.heap.objs.size],_,_,H1,rfl,I1.kept (t':=s1.toks) hk,zqd a _ _ (Nat.succ_ne_self _) (Gw (Fx al)) (Bc al),⟨⟨_,by simpa using he⟩,hit⟩,fp,q⟩
end
section
variable {K:PySem.W.Frag}{F H:Hp}{σ:St}
theorem zwt {a:Addr}{vs:List V}{ws:List W}(h:SqT K F a vs)(r:Reps K F ws vs):ItOk K F (IteT K a) (zgm ws 0) where
 go:=λi H s hi=>by rw[zb2] at hi;exact⟨vs,vs[i]'(by rw[<-r.length];exact hi),zca s h,by rw[Ae]⟩
 stop:=λH s=>⟨vs,zca s h,by rw[zb2,r.length];exact Af _⟩
 yld:=λi H x H' s hi y=>by
  nofun;obtain⟨p,v,e,hp,e2,y⟩:=y;ac_rfl;subst e e2;obtain⟨w,e,q⟩:=r.getV (y vs (zca s h));refine⟨_,enumW_get e,?_⟩;rw[Cf];exact .tup hp (.cons (.int _) (.cons q .nil))
noncomputable def zlt (g:GE):GL:=λen=>(g en).bind λp=>(seqW p.2.1).bind λws=>some (p.1,zgm ws 0)
theorem zsh {g:GE}{R:It->Hp->Prop}(h:tI K (zlt g) σ H R):zzf K (zhd (tE K g) tNil) σ H R:=by
 nofun;obtain⟨F,pr,en,en',ws,Re,h,q⟩:=h;obtain⟨⟨e1,rv⟩,h1,h⟩:=bS h;obtain⟨us,hs,h⟩:=bS h;ac_rfl;cases h;refine⟨F,pr,en,e1,rv,Re,h1,λF1 H1 v s1 R1 z=>?_⟩;nofun;obtain⟨F2,s2,R2,y⟩:=z.freeze R1;obtain⟨a,k,vs,e,hq,r⟩:=zea y hs;ac_rfl;subst e;cases k with
 |true=>exact⟨a,vs,rfl,.inl ⟨R2.sub.seq hq,q F2 H1 _ (s1.trans s2) R2 (z1r hq r)⟩⟩
 |false=>exact⟨a,vs,rfl,.inr ⟨zca R2.sub hq,q F2 H1 _ (s1.trans s2) R2 (zwt hq r)⟩⟩
end
end L2
namespace L2
open PySem PySem.Spec PyProof.Rows
section
variable {X:Cx}{pins:List (Addr × Obj)}{σ:St}{H:Hp}{s:Shared}
noncomputable def okD (d:PyData):Bool:=d.showable && !d.hasDict && decide (d.depth<=100) && decide (d.shown.length<=sizeLine)
noncomputable def z7r:List V->Hp->VK->Prop:=λxs H Q=>∃a d,xs=[.ref a]/\DV H (.ref a) d/\okD d=true/\Q (.str d.shown) H
theorem zz9 {d:PyData}(h:okD d=true):d.showable=true/\d.hasDict=false/\d.depth<=100/\d.shown.length<=sizeLine:=by
 unfold okD at h;rw[Ad,Ad,Ad] at h;exact⟨h.1.1.1,by simpa using h.1.1.2,Ar h.1.2,Ar h.2⟩
noncomputable def zzm:List V->Hp->VK->Prop:=λxs H Q=>(∃i,xs=[.int i]/\i.natAbs.log2<1920/\Q (.str (toString i)) H)\/(xs=[.non]/\Q (.str "None") H)\/(∃b:Bool,xs=[.bl b]/\Q (.str (if b then "True" else "False")) H)\/z7r xs H Q
theorem zsd {k:Nat}(hr:Room k X.A):zc2 X (.builtin "repr") zzm:=by
 intro pins s σ H xs us Q I r h;rcases h with h|h|h|h
 ·refine aG λGg qG => ?_;obtain⟨i,rfl,hi,q⟩:=h;obtain⟨u,rfl,ru⟩:=r.one;obtain⟨t,rfl⟩:=(show ∃t,u=Value.int i t from ru);ac_rfl;exact PySem.P.repr_of_int hi ⟨.str _,H,I.tok _,⟨_,rfl⟩,q⟩
 ·obtain⟨rfl,q⟩:=h;obtain⟨u,rfl,ru⟩:=r.one;obtain rfl:=(show u=Value.none from ru);exact PySem.P.repr_of_none ⟨.str _,H,I.tok _,⟨_,rfl⟩,q⟩
 ·obtain⟨b,rfl,q⟩:=h;obtain⟨u,rfl,ru⟩:=r.one;obtain rfl:=(show u=Value.bool b from ru);exact PySem.P.repr_of_bool ⟨.str _,H,I.tok _,⟨_,rfl⟩,q⟩
 ·refine aG λGg qG => ?_;obtain⟨a,d,rfl,dv,ok,q⟩:=h;obtain⟨u,rfl,ru⟩:=r.one;ac_rfl;cases ru;nofun;obtain⟨as,rd⟩:=dv.reads I rfl;obtain⟨o1,o2,o3,o4⟩:=zz9 ok;ac_rfl;exact repr_of_reads' rd o1 (λz=>by rw[o2] at z;cases z) hr.gd (by have:=hr.un;omega) (λ_ _ e=>e) (λh' u tk hk=>⟨.str _,H,I.kept (t':=tk) hk,⟨_,rfl⟩,q⟩) o4
end
section
variable {K:PySem.W.Frag}{F H:Hp}
noncomputable def z0h (w:W):Option (W × Bool):=(seqW w).bind λ_=>(dW w).bind λd=>if okD d then some (.str d.shown,false) else none
noncomputable def zp3:ON
 |[.int i]=>if i.natAbs.log2<1920 then some (.str (toString i),false) else none
 |[.non]=>some (.str "None",false)
 |[.bl b]=>some (.str (if b then "True" else "False"),false)
 |[w]=>z0h w
 |_=>none
theorem zz0 {w:W}{v:V}{rv:W × Bool} (s:Same F H) (r:RepB K F H w v) (e:z0h w=some rv):∃a d,v=.ref a/\DV H (.ref a) d/\okD d=true/\rv=(.str d.shown,false):=by
  unfold z0h at e;nofun;obtain⟨ws,hs,e⟩:=bS e;obtain⟨d,hd,e⟩:=bS e;ac_rfl;split at e
  · rename_i ok
    obtain rfl:=sI e;rcases r with r|⟨a,o,us,z,rfl,h,q⟩
    · have dv := rep_dv s r hd
      cases r with
      |tup h _=>exact⟨_,d,rfl,dv,ok,rfl⟩
      |lst h _=>exact⟨_,d,rfl,dv,ok,rfl⟩
      |frl h _=>exact⟨_,d,rfl,dv,ok,rfl⟩
      |_=>exact noSome hs
    · subst z
      cases q with
      |dct hl q=>exact noSome hs
      |dctT hl q=>exact noSome hs
      | lst q =>
        rw[dW] at hd;obtain⟨ds,e1,e2⟩:=bS hd;obtain rfl:=sI e2;exact⟨a,_,rfl,.lst h (zf6 s q e1),ok,rfl⟩
  · exact noSome e
theorem zxk:OpSN K zzm zp3:=fun F H ws vs rv Q s r e q=>by
  match ws,e with
  | [w],e =>
    obtain⟨v,e1,hv⟩:=r.one;subst e1;cases w with
    | int i =>
      have e' : (if i.natAbs.log2<1920 then #v[W.str (toString i),6] else none)=some rv:=e;by_cases z:i.natAbs.log2<1920
      · rw [if_pos z] at e'
        obtain rfl:=sI e';exact .inl ⟨i,by rw[hv.int],z,q _ _ (.val (.str _))⟩
      · rw [if_neg z] at e'
        exact noSome e'
    | non =>
      obtain rfl:=sI e;exact .inr (.inl ⟨by rw[hv.non],q _ _ (.val (.str _))⟩)
    | bl b =>
      obtain rfl:=sI e;exact .inr (.inr (.inl ⟨b,by rw[hv.bl],q _ _ (.val (.str _))⟩))
    | _ =>
      obtain⟨a,d,rfl,dv,ok,rfl⟩:=zz0 s hv e;exact .inr (.inr (.inr ⟨a,d,rfl,dv,ok,q _ _ (.val (.str _))⟩))
  |[],e=>exact noSome e
  |a::b::l,e=>cases a<;>exact noSome e
end
noncomputable abbrev Fn:=List W->Option (List W × (W × Bool))
noncomputable def za0 (m:List Bool) (ws:List W):En:=List.zipWith (λw b=>some (w,b)) ws m
noncomputable def spF (K:PySem.W.Frag) (m:List Bool) (Φ:Fn):Sp:=λvs H Q _=>∃F pr ws ws' r,ws.length=m.length/\ws'.length=m.length/\Rel K F pr (za0 m ws) (vs.map some) H/\Φ ws=some (ws',r) /\
 ∀F' H' v,Same F F'->Rel K F' pr (za0 m ws') (vs.map some) H'->Res K F' H' pr (za0 m ws') (vs.map some) r v->Q v H'
theorem zeg {m:List Bool}{ws:List W}{k:Nat}{w:W}{b:Bool}:(za0 m ws)[k]?=some (some (w,b))↔ws[k]?=some w/\m[k]?=some b:=by
 unfold za0;rw[List.getElem?_zipWith];cases ws[k]?<;>cases m[k]?<;>simp
theorem zeh {m:List Bool}{ws:List W}(h:ws.length=m.length):(za0 m ws).length=m.length:=by
 unfold za0;rw[Gs,h,Gx]
theorem zsj {K:PySem.W.Frag}{m:List Bool}{Φ:Fn}{vs:List V}{H:Hp}{Q:VK}{E:XK}(h:spF K m Φ vs H Q E):vs.length=m.length:=by
 obtain⟨F,pr,ws,ws',r,h1,_,R,_⟩:=h;have:=R.len;rw[zeh h1,Ac] at this;exact this.symm
noncomputable def isR:W ⊕ Nat->Bool
 |.inr _=>true
 |.inl _=>false
noncomputable def za3 (xs:List (W ⊕ Nat)):Cap:=xs.map λx=>match x with
 |.inr i=>some i
 |.inl _=>none
noncomputable def zar (en:En) (xs:List (W ⊕ Nat)):Bool:=xs.all fun x=>match x with
  | .inr i=>match en[i]? with
    |some (#v[_,5])=>true
    |_=>false
  |.inl _=>true
noncomputable def zad (m:List Bool) (Φ:Fn) (as:GAs):GE:=λen=>(as en).bind λp=>if decide (p.2.map isR=m) && zar p.1 p.2 && zbz (za3 p.2) then (za6 p.1 p.2).bind λws=>(Φ ws).bind λq=>if q.1.length=m.length then some (zaq (za3 p.2) p.1 (za0 m q.1),q.2) else none else none
theorem ArgRs.get {K:PySem.W.Frag}{F:Hp}{σ:St}:∀{xs:List (W ⊕ Nat)}{vs:List V}{k:Nat}{x:W ⊕ Nat},ArgRs K F σ xs vs->xs[k]?=some x->∃v,vs[k]?=some v/\ArgR K F σ x v
  |_,_,_,_,.nil,e=>by simp at e
  |_,_,0,_,.cons h _,e=>by simp at e;subst e;exact⟨_,rfl,h⟩
  | _,_,k+1,x,.cons _ r,e=>by
    obtain⟨v,h1,h2⟩:=ArgRs.get (k:=k) (x:=x) r (by simpa using e);exact⟨v,by simpa using h1,h2⟩
theorem ArgRs.length {K:PySem.W.Frag}{F:Hp}{σ:St}:∀{xs:List (W ⊕ Nat)}{vs:List V},ArgRs K F σ xs vs->xs.length=vs.length
 |_,_,.nil=>rfl
 |_,_,.cons _ r=>congrArg (· + 1) (ArgRs.length r)
theorem zj3 {en:En}:∀{xs:List (W ⊕ Nat)}{ws:List W},za6 en xs=some ws->ws.length=xs.length
  |[],_,e=>by obtain rfl:=sI e;rfl
  | x::xs,_,e=>by
    obtain⟨w,_,e⟩:=bS e;obtain⟨ws,h,e⟩:=bS e;obtain rfl:=sI e;exact congrArg (· + 1) (zj3 h)
theorem zlc {en:En}:∀{xs:List (W ⊕ Nat)}{ws:List W}{k:Nat}{w:W},za6 en xs=some ws->ws[k]?=some w->∃x,xs[k]?=some x/\resA en x=some w
  |[],_,_,_,e,h=>by obtain rfl:=sI e;simp at h
  | x::xs,_,k,w,e,h=>by
    obtain⟨u,hu,e⟩:=bS e;obtain⟨us,h2,e⟩:=bS e;obtain rfl:=sI e;cases k with
    |zero=>simp at h;subst h;exact⟨x,rfl,hu⟩
    |succ k=>obtain⟨y,h3,h4⟩:=zlc (k:=k) h2 (by simpa using h);exact⟨y,by simpa using h3,h4⟩
theorem zep {xs:List (W ⊕ Nat)}{k i:Nat}:(za3 xs)[k]?=some (some i)↔xs[k]?=some (.inr i):=by
 unfold za3;rw[Ap];cases e:xs[k]? with
 |none=>simp
 |some x=>cases x<;>simp
section
variable {K:PySem.W.Frag}{F H:Hp}{pr:Prt}{en:En}{σ:St}
theorem Rel.back {cap:Cap}{F' H' : Hp}{ce:En}{σc:St} (R:Rel K F pr en σ H) (s:Same F F') (Rc:Rel K F' (zby pr cap en σ H) ce σc H') (slot:∀(i j:Nat) (v:V),zan cap i=some j->σc[j]?=some (some v)->σ[i]?=some (some v)) :
    Rel K F' pr (zaq cap en ce) σ H'/\∀r v,Res K F' H' (zby pr cap en σ H) ce σc r v->Res K F' H' pr (zaq cap en ce) σ r v:=by
  have un:∀(i:Nat) (w:W),zan cap i=none->en[i]?=some (some (w,true))->∃(a:Addr) (vs:HO) (ws:W),w=ws/\σ[i]?=some (some (V.ref a))/\H a=some vs/\H' a=some vs/\F' a=none/\OwnR K F ws vs/\∀(j:Nat) (w' : W),ce[j]?=some (some (w',true))->σc[j]?≠some (some (V.ref a)):=fun i w c e=>by
    obtain⟨a,vs,ws,h1,h2,h3,h4,h5⟩:=R.own i w e;obtain⟨b1,b2,b3⟩:=Rc.prt a vs (.inr ⟨i,w,e,c,h2,h3⟩);exact⟨a,vs,ws,h1,h2,h3,b1,b2,h5,b3⟩
  have capt:∀(i j:Nat) (w:W),zan cap i=some j->ce[j]?=some (some (w,true))->∃(a:Addr) (vs:HO) (ws:W),w=ws/\σ[i]?=some (some (V.ref a))/\σc[j]?=some (some (V.ref a))/\H' a=some vs/\F' a=none/\OwnR K F' ws vs:=fun i j w c e=>by
    obtain⟨a,vs,ws,h1,h2,h3,h4,h5⟩:=Rc.own j w e;exact⟨a,vs,ws,h1,slot i j _ c h2,h2,h3,h4,h5⟩
  refine⟨⟨by unfold zaq;rw[List.length_mapIdx];exact R.len,Rc.sub,λi w e=>?_,λi w e=>?_,λi k a w w' e1 e2 q1 q2=>?_,λb o q=>?_,Rc.tb.go (λb xs z=>.inl z) (λb ps e f=>⟨e,f⟩) (.refl F') λb ps e hh o z=>hh o (.inl z)⟩,λr v z=>?_⟩
  · rcases backEn_get e with ⟨j, c, e⟩ | ⟨c, e⟩
    · obtain ⟨v, h1, h2⟩ := Rc.val j w e
      exact⟨v,slot i j v c h1,h2⟩
    · obtain ⟨v, h1, h2⟩ := R.val i w e
      exact⟨v,h1,h2.mono s⟩
  · rcases backEn_get e with ⟨j, c, e⟩ | ⟨c, e⟩
    · obtain ⟨a, vs, ws, h1, h2, _, h3, h4, h5⟩ := capt i j w c e
      exact⟨a,vs,ws,h1,h2,h3,h4,h5⟩
    · obtain ⟨a, vs, ws, h1, h2, _, h3, h4, h5, _⟩ := un i w c e
      exact⟨a,vs,ws,h1,h2,h3,h4,h5.mono s⟩
  · rcases backEn_get e1 with ⟨j, c, e1⟩ | ⟨c, e1⟩
    · obtain ⟨a', _, _, _, h2, h3, _⟩ := capt i j w c e1
      rw[q1] at h2;cases h2;rcases backEn_get e2 with⟨l,c2,e2⟩|⟨c2,e2⟩
      · obtain ⟨a', _, _, _, g2, g3, _⟩ := capt k l w' c2 e2
        rw[q2] at g2;cases g2;have:=Rc.inj j l a _ _ e1 e2 h3 g3;subst this;have x:=zbg c;rw[zbg c2] at x;cases x;rfl
      · obtain ⟨a', _, _, _, g2, _, _, _, _, g3⟩ := un k w' c2 e2
        rw[q2] at g2;cases g2;exact absurd h3 (g3 j w e1)
    · obtain ⟨a', _, _, _, h2, _, _, _, _, h3⟩ := un i w c e1
      rw[q1] at h2;cases h2;rcases backEn_get e2 with⟨l,c2,e2⟩|⟨c2,e2⟩
      · obtain ⟨a', _, _, _, g2, g3, _⟩ := capt k l w' c2 e2
        rw[q2] at g2;cases g2;exact absurd g3 (h3 l w' e2)
      · exact R.inj i k a _ _ e1 e2 q1 q2
  · obtain ⟨b1, b2, b3⟩ := Rc.prt b o (.inl q)
    refine⟨b1,b2,λi w e=>?_⟩;rcases backEn_get e with⟨j,c,e⟩|⟨c,e⟩
    · obtain ⟨a, _, _, _, h2, h3, _⟩ := capt i j w c e
      rw[h2];intro z;cases z;exact b3 j w e h3
    · exact (R.prt b o q).2.2 i w e
  · obtain ⟨w, fl⟩ := r
    cases fl with
    |false=>exact z
    | true =>
      obtain⟨a,vs,ws,q1,q2,q3,q4,q5,q6,q7⟩:=z;refine⟨a,vs,ws,q1,q2,q3,q4,q5,λi w' e=>?_,λb o p=>q7 b o (.inl p)⟩;rcases backEn_get e with⟨j,c,e⟩|⟨c,e⟩
      · obtain ⟨a', _, _, _, h2, h3, _⟩ := capt i j w' c e
        rw[h2];intro z;cases z;exact q6 j w' e h3
      · obtain ⟨a', vs', ws', h1, h2, h3, h4, h5⟩ := R.own i w' e
        rw[h2];intro z;cases z;exact q7 a vs' (.inr ⟨i,w',e,c,h2,h3⟩) rfl
theorem zuf {m:List Bool}{Φ:Fn}{xs:List (W ⊕ Nat)}{e1 en' : En}{F1 H1:Hp}{vs:List V}{r:W × Bool}{Q:VK}{E:XK} (R1:Rel K F1 pr e1 σ H1) (a1:ArgRs K F1 σ xs vs)
    (h:(if decide (xs.map isR=m) && zar e1 xs && zbz (za3 xs) then (za6 e1 xs).bind λws=>(Φ ws).bind λq=>if q.1.length=m.length then some (zaq (za3 xs) e1 (za0 m q.1),q.2) else none else none)=some (en',r))
    (q:∀F' H' v,Same F1 F'->Rel K F' pr en' σ H'->Res K F' H' pr en' σ r v->Q v H'):spF K m Φ vs H1 Q E:=by
  split at h
  · rename_i z
    rw[Ad,Ad] at z;obtain⟨⟨z1,z2⟩,nd⟩:=z;have hm:xs.map isR=m:=Ar z1;nofun;obtain⟨ws,h2,h⟩:=bS h;obtain⟨⟨ws',r'⟩,h3,h⟩:=bS h;ac_rfl;split at h
    · rename_i hl
      cases h;have lx:ws.length=xs.length:=zj3 h2;have lm:xs.length=m.length:=by rw[<-hm,Ac]
      have lv:=a1.length;have at' : ∀(k:Nat) (w:W) (b:Bool),(za0 m ws)[k]?=some (some (w,b))->∃x v,xs[k]?=some x/\isR x=b/\resA e1 x=some w/\vs[k]?=some v/\ArgR K F1 σ x v:=fun k w b e=>by
        nofun;obtain⟨g1,g2⟩:=zeg.mp e;obtain⟨x,g3,g4⟩:=zlc h2 g1;obtain⟨v,g5,g6⟩:=a1.get g3;ac_rfl;rw[<-hm,Ap,g3] at g2;exact⟨x,v,g3,sI g2,g4,g5,g6⟩
      have ow:∀(k:Nat) (w:W),(za0 m ws)[k]?=some (some (w,true))->∃i v,xs[k]?=some (.inr i)/\e1[i]?=some (some (w,true))/\vs[k]?=some v/\σ[i]?=some (some v):=fun k w e=>by
        nofun;obtain⟨x,v,g1,g2,g3,g4,g5⟩:=at' k w true e;ac_rfl;cases x with
        |inl _=>cases g2
        | inr i =>
          refine⟨i,v,g1,?_,g4,g5⟩;have o:=Ay.mp z2 _ (Bt g1);simp only at o;split at o
          · rename_i w0 e0
            unfold resA at g3;simp only [e0] at g3;obtain rfl:=sI g3;exact e0
          · cases o
      have RC:Rel K F1 (zby pr (za3 xs) e1 σ H1) (za0 m ws) (vs.map some) H1:=by
        refine⟨by rw[zeh #v[],Ac];omega,R1.sub,λk w e=>?_,λk w e=>?_,λk l a w w' g1 g2 g3 g4=>?_,λb o p=>?_,R1.tb.go (λb xs z=>zh0 R1 z) (λb ps e f=>⟨e,f⟩) (.refl F1) λb ps e hh o z=>zhu R1 e hh o z⟩
        · refine aG fun Gg qG => ?_
          obtain⟨x,v,g1,g2,g3,g4,g5⟩:=at' k w false e;ac_rfl;cases x with
          |inr _=>cases g2
          |inl u=>obtain rfl:=sI g3;exact⟨v,by rw[Ap,g4];rfl,g5⟩
        · refine aG fun Gg qG => ?_
          obtain⟨i,v,g1,g2,g3,g4⟩:=ow k w e;obtain⟨a,us,wz,p1,p2,p3,p4,p5⟩:=R1.own i w g2;ac_rfl;rw[g4] at p2;cases p2;exact⟨a,us,wz,p1,by rw[Ap,g3];rfl,p3,p4,p5⟩
        · refine aG fun Gg qG => ?_
          obtain⟨i,v,k1,k2,k3,k4⟩:=ow k w g1;obtain⟨i',v',l1,l2,l3,l4⟩:=ow l w' g2;ac_rfl;rw[Ap,k3] at g3;cases g3;rw[Ap,l3] at g4;cases g4;have:=R1.inj i i' a _ _ k2 l2 k4 l4;subst this;have y:=zfw nd (zep.mpr k1);rw[zfw nd (zep.mpr l1)] at y;exact (sI y).symm
        · rcases p with p | ⟨j, w, p1, p2, p3, p4⟩
          · obtain ⟨b1, b2, b3⟩ := R1.prt b o p
            refine⟨b1,b2,λk w e=>?_⟩;nofun;obtain⟨i,v,g1,g2,g3,g4⟩:=ow k w e;ac_rfl;rw[Ap,g3];intro y;cases y;exact b3 i w g2 g4
          · refine aG fun Gg qG => ?_
            obtain⟨a,us,wz,p1',p2',p3',p4',p5'⟩:=R1.own j w p1;ac_rfl;rw[p3] at p2';cases p2';refine⟨p4,p4',λk w' e=>?_⟩;nofun;obtain⟨i,v,g1,g2,g3,g4⟩:=ow k w' e;ac_rfl;rw[Ap,g3];intro y;cases y;have:=R1.inj i j _ _ _ g2 p1 g4 p3;subst this;exact zc5 p2 k (zep.mpr g1)
      refine ⟨F1,zby pr (za3 xs) e1 σ H1,ws,ws',_,by omega,hl,RC,h3,fun F2 H2 v s2 R2 y2=>?_⟩;obtain ⟨Ro,rz⟩:=R1.back s2 R2 fun i j v c e=>by
        have c':=zep.mp (zbg c);obtain⟨v',g1,g2⟩:=a1.get c';rw[Ap,g1] at e;cases e;exact g2
      exact q F2 H2 v s2 Ro (rz _ _ y2)
    · cases h
  · cases h
theorem ztd {m:List Bool}{Φ:Fn}{as:GAs}{Q:VK}(h:tE K (zad m Φ as) σ H Q):z0j (spF K m Φ) [] E0 (tAs K as) σ H Q:=by
 nofun;obtain⟨F,pr,en,en',r,R,h,q⟩:=h;obtain⟨⟨e1,xs⟩,h1,h⟩:=bS h;ac_rfl;refine⟨F,pr,en,e1,xs,R,h1,λF1 H1 vs s1 R1 a1=>?_⟩;show spF K m Φ (vs++[]) H1 Q E0;rw[Bx];exact zuf R1 a1 h λF' H' v s'=>q F' H' v (s1.trans s')
end
noncomputable def zcq:List Bool->List W->En->Option (List W)
 |[],[],_=>some []
 |true::m,_::ws,#v[w,5]::en=>(zcq m ws en).bind λr=>some (w::r)
 |false::m,w::ws,_::en=>(zcq m ws en).bind λr=>some (w::r)
 |_,_,_=>none
noncomputable def mpOf (m:List Bool):List Nat:=(List.range m.length).filter λk=>m[k]? == some true
noncomputable def zah (m:List Bool) (n:Nat) (g:GS):Fn:=λws=>if ws.length=m.length then match g (za0 m ws++List.replicate (n - m.length) none) with
 |some (en,.ret r)=>(zcq m ws en).bind λws'=>some (ws',r)
 |some (en,.nx)=>(zcq m ws en).bind λws'=>some (ws',(.non,false))
 |_=>none else none
theorem zh9:∀{m:List Bool}{ws:List W}{en:En}{ws' : List W},zcq m ws en=some ws'->ws'.length=m.length/\∀(k:Nat) (w:W),ws'[k]?=some w->(m[k]?=some true->en[k]?=some (some (w,true)))/\(m[k]?=some false->ws[k]?=some w)
  |[],[],_,_,e=>by obtain rfl:=sI e;exact⟨rfl,λk w h=>by simp at h⟩
  | true::m,_::ws,some (u,true)::en,_,e=>by
    obtain⟨r,h,e⟩:=bS (show (zcq m ws en).bind _=_ from e);obtain rfl:=sI e;obtain⟨h1,h2⟩:=zh9 h;refine⟨congrArg (· + 1) h1,λk w hk=>?_⟩;cases k with
    |zero=>simp at hk;subst hk;exact⟨λ_=>rfl,λz=>by simp at z⟩
    | succ k =>
      have:=h2 k w (by simpa using hk);exact⟨λz=>by simpa using this.1 (by simpa using z),λz=>by simpa using this.2 (by simpa using z)⟩
  | false::m,u::ws,_::en,_,e=>by
    obtain⟨r,h,e⟩:=bS (show (zcq m ws en).bind _=_ from e);obtain rfl:=sI e;obtain⟨h1,h2⟩:=zh9 h;refine⟨congrArg (· + 1) h1,λk w hk=>?_⟩;cases k with
    |zero=>simp at hk;subst hk;exact⟨λz=>by simp at z,λ_=>rfl⟩
    | succ k =>
      have:=h2 k w (by simpa using hk);exact⟨λz=>by simpa using this.1 (by simpa using z),λz=>by simpa using this.2 (by simpa using z)⟩
  |[],_::_,_,_,e=>by exact noSome e
  |true::_,[],_,_,e=>by exact noSome e
  |false::_,[],_,_,e=>by exact noSome e
  |true::_,_::_,[],_,e=>by exact noSome e
  |false::_,_::_,[],_,e=>by exact noSome e
  |true::_,_::_,none::_,_,e=>by exact noSome e
  |true::_,_::_,#v[_,6]::_,_,e=>by exact noSome e
theorem zrw {K:PySem.W.Frag}{m:List Bool}{N:List Str}{g:GS}{vs:List V}{H:Hp}{Q:VK}{E:XK} (h:spF K m (zah m N.length g) vs H Q E):tS K (mpOf m) g { nx:=fun _ H'=>Q .non H',rt:=Q } (start N vs) H:=by
  have hv:=zsj h;refine aG fun _ qG=>?_;obtain ⟨F,pr,ws,ws',r,h1,h2,R,h3,q⟩:=h;refine qG ?_;clear qG;unfold zah at h3;rw [if_pos h1] at h3;have la:=zeh h1;have pad:∀(i:Nat) (x:W × Bool),(za0 m ws++List.replicate (N.length - m.length) none)[i]?=some (some x)->(za0 m ws)[i]?=some (some x):=fun i x e=>by
    by_cases hi:i<(za0 m ws).length
    · rw[Db hi] at e;exact e
    · rw [Ew (by omega), List.getElem?_replicate] at e
      split at e<;>cases e
  have st:∀(i:Nat) (v:V),(vs.map some)[i]?=some (some v)->(start N vs)[i]?=some (some v):=fun i v e=>by
    unfold start;rw[Db (by have:=(Ai.mp e).1;exact this)];exact e
  have st' : ∀(i:Nat) (v:V),i < m.length->(start N vs)[i]?=some (some v)->(vs.map some)[i]?=some (some v):=fun i v hi e=>by
    unfold start at e;rw[Db (by rw[Ac];omega)] at e;exact e
  have R0:Rel K F pr (za0 m ws++List.replicate (N.length - m.length) none) (start N vs) H:=by
    refine⟨?_,R.sub,λi w e=>?_,λi w e=>?_,λi j a w w' e1 e2 q1 q2=>?_,λb o p=>?_,R.tb⟩
    · unfold start
      rw[Bb,Bb,Du,Du,Ac,la,hv]
    · obtain ⟨v, g1, g2⟩ := R.val i w (pad i _ e)
      exact⟨v,st i v g1,g2⟩
    · refine aG fun Gg qG => ?_
      obtain⟨a,us,wz,g1,g2,g3⟩:=R.own i w (pad i _ e);ac_rfl;exact⟨a,us,wz,g1,st i _ g2,g3⟩
    · have l1 : i < m.length := by have := (Ai.mp (pad i _ e1)).1; omega
      have l2:j<m.length:=by have:=(Ai.mp (pad j _ e2)).1;omega
      exact R.inj i j a w w' (pad i _ e1) (pad j _ e2) (st' i _ l1 q1) (st' j _ l2 q2)
    · obtain ⟨b1, b2, b3⟩ := R.prt b o p
      refine⟨b1,b2,λi w e z=>?_⟩;have l1:i<m.length:=by have:=(Ai.mp (pad i _ e)).1;omega
      exact b3 i w (pad i _ e) (st' i _ l1 z)
  have back:∀(en:En) (wz:List W) (F' : Hp) (σ' : St) (H' : Hp),zcq m ws en=some wz->Same F F'->Rel K F' pr en σ' H'->Keep (mpOf m) (start N vs) σ' ->
      Rel K F' pr (za0 m wz) (vs.map some) H'/\∀r v,Res K F' H' pr en σ' r v->Res K F' H' pr (za0 m wz) (vs.map some) r v:=λen wz F' σ' H' ho s' R' k'=>by
    obtain ⟨o1,o2⟩:=zh9 ho;have own:∀(k:Nat) (w:W),(za0 m wz)[k]?=some (some (w,true))->en[k]?=some (some (w,true))/\∀v,σ'[k]?=some (some v)↔(vs.map some)[k]?=some (some v):=fun k w e=>by
      obtain⟨g1,g2⟩:=zeg.mp e;have lk:k<m.length:=(Ai.mp g2).1;have hk:k∈mpOf m:=El.mpr ⟨Bz.mpr lk,by rw[g2];simp⟩;refine⟨(o2 k w g1).1 g2,λv=>?_⟩;rw[k' k hk];exact⟨st' k v lk,st k v⟩
    refine⟨⟨by rw[zeh o1,Ac,hv],R'.sub,λk w e=>?_,λk w e=>?_,λk l a w w' e1 e2 q1 q2=>?_,λb o p=>?_,R'.tb⟩,λr v z=>?_⟩
    · refine aG fun Gg qG => ?_
      obtain⟨g1,g2⟩:=zeg.mp e;obtain⟨v,g3,g4⟩:=R.val k w (zeg.mpr ⟨(o2 k w g1).2 g2,g2⟩);ac_rfl;exact⟨v,g3,g4.mono s'⟩
    · refine aG fun Gg qG => ?_
      obtain⟨g1,g2⟩:=own k w e;obtain⟨a,us,wz,p1,p2,p3⟩:=R'.own k w g1;ac_rfl;exact⟨a,us,wz,p1,(g2 _).mp p2,p3⟩
    · obtain ⟨g1, g2⟩ := own k w e1
      obtain⟨g3,g4⟩:=own l w' e2;exact R'.inj k l a _ _ g1 g3 ((g2 _).mpr q1) ((g4 _).mpr q2)
    · obtain ⟨b1, b2, b3⟩ := R'.prt b o p
      refine⟨b1,b2,λk w e z=>?_⟩;obtain⟨g1,g2⟩:=own k w e;exact b3 k w g1 ((g2 _).mpr z)
    · obtain ⟨w0, fl⟩ := r
      cases fl with
      |false=>exact z
      | true =>
        nofun;obtain⟨a,us,wz',q1,q2,q3,q4,q5,q6,q7⟩:=z;ac_rfl;refine⟨a,us,wz',q1,q2,q3,q4,q5,λk w e y=>?_,q7⟩;obtain⟨g1,g2⟩:=own k w e;exact q6 k w g1 ((g2 _).mpr y)
  cases eg:g (za0 m ws++List.replicate (N.length - m.length) none) with
  |none=>simp only [eg] at h3;exact noSome h3
  | some p =>
    obtain⟨en,fl⟩:=p;refine⟨F,pr,_,en,fl,R0,eg,?_⟩;cases fl with
    |brk=>simp only [eg] at h3;exact noSome h3
    |cnt=>simp only [eg] at h3;exact noSome h3
    | nx =>
      simp only [eg] at h3;obtain⟨wz,ho,h3⟩:=bS h3;cases h3;intro F' σ' H' s' R' k';obtain⟨Rb,_⟩:=back en ws' F' σ' H' ho s' R' k';exact q F' H' .non s' Rb .non
    | ret r' =>
      simp only [eg] at h3;obtain⟨wz,ho,h3⟩:=bS h3;cases h3;intro F' σ' H' v s' R' k' z;obtain⟨Rb,rb⟩:=back en ws' F' σ' H' ho s' R' k';exact q F' H' v s' Rb (rb _ _ z)
end L2
set_option maxHeartbeats 4000000
namespace L2
open PySem PyProof.Rows
namespace Tim
noncomputable def gal:Bool->Keyed->Array Keyed->Nat->Nat->Nat->StateT SortSt Sem (Option Nat):=sortPriv% PySem.Builtin.gallop
noncomputable def mLo:Array Keyed->Array Keyed->StateT SortSt Sem (Array Keyed):=sortPriv% PySem.Builtin.mergeLo
noncomputable def mHi:Array Keyed->Array Keyed->StateT SortSt Sem (Array Keyed):=sortPriv% PySem.Builtin.mergeHi
theorem aG {P:Prop}(h:∀G:Prop,(P->G)->G):P:=h P id
structure Ord (lt:Keyed->Keyed->Bool) (bf le:Keyed->Keyed->Prop):Prop where
 tr:∀{x y z},le x y->le y z->le x z
 tot:∀x y,le x y\/le y x
 f1:∀{x y},bf x y->(lt y x=false↔le x y)
 f2:∀{x y},lt x y=true->le x y
 irr:∀x,lt x x=false
 ltr:∀{x y z},lt x y=true->lt y z=true->lt x z=true
 nt:∀{x z} (y),lt x z=true->lt x y=true\/lt y z=true
section
variable {lt:Keyed->Keyed->Bool}{bf le:Keyed->Keyed->Prop} (O:Ord lt bf le)
include O
theorem Ord.rf (x:Keyed):le x x:=(O.tot x x).elim id id
theorem Ord.f3 {x y:Keyed}(h:bf x y)(q:lt y x=true):¬ le x y:=λz=>by rw[(O.f1 h).mpr z] at q;cases q
end
noncomputable abbrev d0:Keyed:=(Value.none,Value.none)
noncomputable def G (xs:Array Keyed) (i:Nat):Keyed:=(xs[i]?).getD d0
theorem zze {xs:Array Keyed}{i:Nat}(h:i<xs.size):xs[i]?=some (G xs i):=by unfold G;rw[getElem?_pos xs i h];rfl
theorem z1o {xs a₀:Array Keyed}(p:xs.Perm a₀){i:Nat}(h:i<xs.size):G xs i∈a₀.toList:=by
 refine (Fc.mp p).mem_iff.mp ?_;unfold G;rw[getElem?_pos xs i h];simp
theorem zgt {xs ys:Array Keyed}{i j:Nat}(h:xs[i]?=ys[j]?):G xs i=G ys j:=by unfold G;rw[h]
noncomputable def Asks (prog:Program) (w:World) (A:Around) (E:Value->Shared->Prop) (s:Shared) (κ:SortKind) (a₀:Array Keyed) (lt:Keyed->Keyed->Bool):Prop :=
 ∀(x y:Keyed) (st:SortSt) (Q:Option Bool->SortSt->Prop),x∈a₀.toList->y∈a₀.toList->kindOf st=κ->Q (some (lt x y)) st->wpS (model prog w) A E s (lt' x y) Q st
section
variable {prog:Program}{w:World}{A:Around}{E:Value->Shared->Prop}{s:Shared}{κ:SortKind}{a₀:Array Keyed}{lt:Keyed->Keyed->Bool}{st:SortSt}
theorem zas {arr:Array Keyed}{i:Nat}{Q:Keyed->SortSt->Prop}(hi:i<arr.size)(h:Q (G arr i) st):wpS (model prog w) A E s (elem' arr i) Q st:=by
 rw[elem'_eq,zze hi];exact Au h
theorem zhy {i j:Nat}{Q:Option Bool->SortSt->Prop} (C:Asks prog w A E s κ a₀ lt) (hk:kindOf st=κ) (p:(arrOf st).Perm a₀) (hi:i < a₀.size) (hj:j < a₀.size) (h:Q (some (lt (G (arrOf st) i) (G (arrOf st) j))) st) :
  wpS (model prog w) A E s (ltAt' i j) Q st:=by
 have e:=p.size_eq;rw[ltAt'_eq];refine An (Hv ?_);exact An (zas #v[] (An (zas #v[] (C _ _ _ _ (z1o p #v[]) (z1o p #v[]) hk h))))
theorem zqr {left:Bool}{key:Keyed}{arr:Array Keyed}{base n hint:Nat}{B:Nat->Bool}{Q:Option Nat->SortSt->Prop} (C:Asks prog w A E s κ a₀ lt) (hk:kindOf st=κ) (hkey:key∈a₀.toList)
    (hs:base+n<=arr.size) (hm:∀i,i<n->G arr (base+i)∈a₀.toList) (hB:∀i,i<n->B i=if left then lt (G arr (base+i)) key else !lt key (G arr (base+i)))
    (mono:∀i j,i<=j->j<n->B j=true->B i=true) (hh:hint<n)
    (h:∀k,k<=n->(∀i,i<k->B i=true)->(∀i,k<=i->i<n->B i=false)->Q (some k) st):wpS (model prog w) A E s (gal left key arr base n hint) Q st:=by
  have mono' : ∀i j,i<=j->j < n->B i=false->B j=false:=fun i j h1 h2 h3=>by
    cases q:B j with
    |false=>rfl
    |true=>rw[mono i j h1 h2 q] at h3;cases h3
  let beyond:Nat->StateT SortSt Sem (Option Bool):=fun i=>do
    let x <- elem' arr (base+i)
    if left=true then lt' x key else do
      let r <- lt' key x
      pure (r.map (!·))
  have hb:∀(i:Nat) (R:Option Bool->SortSt->Prop),i < n->R (some (B i)) st->wpS (model prog w) A E s (beyond i) R st:=fun i R hi hR=>by
    refine An (zas #v[] ?_);have e:=hB i hi;cases left with
    | true =>
      rw[if_pos rfl] at e;rw[if_pos rfl];exact C _ _ _ _ (hm i hi) hkey hk (by rw[<-e];exact hR)
    | false =>
      rw[if_neg #v[0,9]] at e;rw[if_neg #v[0,9]];exact An (C _ _ _ _ hkey (hm i hi) hk (Au (by show R (some (!lt key (G arr (base+i)))) st;rw[<-e];exact hR)))
  show wpS (model prog w) A E s (do let o <- beyond hint;_) Q st;refine An (hb _ _ hh ?_);cases q:B hint with
  | true =>
    refine An (Ds (Ch (I:=fun x c st'=>st'=st/\∃l o,c=(none,l,o)/\l < o/\x < o/\hint+l < n/\B (hint+l)=true)
      (Q:=λc st'=>st'=st/\∃l o,c=(none,l,o)/\l<o/\hint+l<n/\B (hint+l)=true/\(n - hint<=o\/hint+o<n/\B (hint+o)=false)) ?step ?fin ⟨rfl,0,1,rfl,by omega,by omega,by omega,q⟩) ?post)
    case fin =>
      rintro c st' ⟨rfl,l,o,rfl,a1,a2,a3,a4⟩;exact⟨rfl,l,o,rfl,a1,a3,a4,.inl #v[]⟩
    case step =>
      rintro x c st' _ hx ⟨rfl,l,o,rfl,a1,a2,a3,a4⟩;dsimp only;by_cases g:o ≥ n - hint
      · rw [if_pos g]
        exact Au ⟨rfl,l,o,rfl,a1,a3,a4,.inl g⟩
      · rw [if_neg g]
        refine An (hb _ _ #v[] ?_);cases q2:B (hint+o) with
        | true =>
          dsimp only;rw[if_neg #v[0,9]];exact Au ⟨rfl,o,2 * o+1,rfl,by omega,by omega,by omega,q2⟩
        | false =>
          dsimp only;rw[if_pos #v[0,9]];exact Au ⟨rfl,l,o,rfl,a1,a3,a4,.inr ⟨by omega,q2⟩⟩
    case post =>
      rintro c st' ⟨rfl,l,o,rfl,a1,a3,a4,a5⟩;dsimp only;refine An (Ds (Ch (I:=fun x c st''=>st''=st'/\∃lo hi,c=(none,lo,hi)/\lo<=hi/\hi<=n/\hi - lo<=n - x/\(∀i,i < lo->B i=true)/\∀i,hi<=i->i < n->B i=false)
        (Q:=λc st''=>st''=st'/\∃lo hi,c=(none,lo,hi)/\lo=hi/\hi<=n/\(∀i,i<lo->B i=true)/\∀i,hi<=i->i<n->B i=false) ?s3 ?f3 ⟨rfl,hint+l+1,hint+min o (n - hint),rfl,by omega,by omega,by omega,λi hi=>mono i _ #v[] a3 a4,λi h1 h2=>a5.elim (λa5=>by omega) λa5=>mono' _ i #v[] h2 a5.2⟩) ?p3)
      case f3 =>
        rintro c st'' ⟨rfl,lo,hi,rfl,a1,a2,a3,a4,a5⟩;exact⟨rfl,lo,hi,rfl,by omega,a2,a4,a5⟩
      case s3 =>
        rintro x c st'' _ hx ⟨rfl,lo,hi,rfl,a1,a2,a3,a4,a5⟩;dsimp only;by_cases g:lo ≥ hi
        · rw [if_pos g]
          exact Au ⟨rfl,lo,hi,rfl,by omega,a2,a4,a5⟩
        · rw [if_neg g]
          refine An (hb _ _ #v[] ?_);cases q:B (lo+(hi - lo) / 2) with
          | true =>
            dsimp only;rw[if_pos rfl];refine Au ⟨rfl,lo+(hi - lo) / 2+1,hi,rfl,by omega,a2,by omega,λi hi'=>?_,a5⟩;exact mono i _ #v[] #v[] q
          | false =>
            dsimp only;rw[if_neg #v[0,9]];refine Au ⟨rfl,lo,lo+(hi - lo) / 2,rfl,by omega,by omega,by omega,a4,λi h1 h2=>?_⟩;exact mono' _ i h1 h2 q
      case p3 =>
        rintro c st'' ⟨rfl,lo,hi,rfl,rfl,a2,a4,a5⟩;exact Au (h lo a2 a4 a5)
  | false =>
    refine An (Ds (Ch (I:=fun x c st'=>st'=st/\∃l o,c=(none,l,o)/\l < o/\x < o/\l<=hint/\B (hint - l)=false)
      (Q:=λc st'=>st'=st/\∃l o,c=(none,l,o)/\l<o/\l<=hint/\B (hint - l)=false/\(hint+1<=o\/o<=hint/\B (hint - o)=true)) ?step ?fin ⟨rfl,0,1,rfl,by omega,by omega,by omega,q⟩) ?post)
    case fin =>
      rintro c st' ⟨rfl,l,o,rfl,a1,a2,a3,a4⟩;exact⟨rfl,l,o,rfl,a1,a3,a4,.inl #v[]⟩
    case step =>
      rintro x c st' _ hx ⟨rfl,l,o,rfl,a1,a2,a3,a4⟩;dsimp only;by_cases g:o ≥ hint+1
      · rw [if_pos g]
        exact Au ⟨rfl,l,o,rfl,a1,a3,a4,.inl g⟩
      · rw [if_neg g]
        refine An (hb _ _ #v[] ?_);cases q2:B (hint - o) with
        | true =>
          dsimp only;rw[if_pos rfl];exact Au ⟨rfl,l,o,rfl,a1,a3,a4,.inr ⟨by omega,q2⟩⟩
        | false =>
          dsimp only;rw[if_neg #v[0,9]];exact Au ⟨rfl,o,2 * o+1,rfl,by omega,by omega,by omega,q2⟩
    case post =>
      rintro c st' ⟨rfl,l,o,rfl,a1,a3,a4,a5⟩;dsimp only;refine An (Ds (Ch (I:=fun x c st''=>st''=st'/\∃lo hi,c=(none,lo,hi)/\lo<=hi/\hi<=n/\hi - lo<=n - x/\(∀i,i < lo->B i=true)/\∀i,hi<=i->i < n->B i=false)
        (Q:=λc st''=>st''=st'/\∃lo hi,c=(none,lo,hi)/\lo=hi/\hi<=n/\(∀i,i<lo->B i=true)/\∀i,hi<=i->i<n->B i=false) ?s4 ?f4 ⟨rfl,hint+1 - min o (hint+1),hint - l,rfl,by omega,by omega,by omega,λi hi=>a5.elim (λa5=>by omega) λa5=>mono i _ #v[] #v[] a5.2,λi h1 h2=>mono' _ i h1 h2 a4⟩) ?p4)
      case f4 =>
        rintro c st'' ⟨rfl,lo,hi,rfl,a1,a2,a3,a4,a5⟩;exact⟨rfl,lo,hi,rfl,by omega,a2,a4,a5⟩
      case s4 =>
        rintro x c st'' _ hx ⟨rfl,lo,hi,rfl,a1,a2,a3,a4,a5⟩;dsimp only;by_cases g:lo ≥ hi
        · rw [if_pos g]
          exact Au ⟨rfl,lo,hi,rfl,by omega,a2,a4,a5⟩
        · rw [if_neg g]
          refine An (hb _ _ #v[] ?_);cases q:B (lo+(hi - lo) / 2) with
          | true =>
            dsimp only;rw[if_pos rfl];refine Au ⟨rfl,lo+(hi - lo) / 2+1,hi,rfl,by omega,a2,by omega,λi hi'=>?_,a5⟩;exact mono i _ #v[] #v[] q
          | false =>
            dsimp only;rw[if_neg #v[0,9]];refine Au ⟨rfl,lo,lo+(hi - lo) / 2,rfl,by omega,by omega,by omega,a4,λi h1 h2=>?_⟩;exact mono' _ i h1 h2 q
      case p4 =>
        rintro c st'' ⟨rfl,lo,hi,rfl,rfl,a2,a4,a5⟩;exact Au (h lo a2 a4 a5)
end
end Tim
namespace Tim
noncomputable def Srt (le:Keyed->Keyed->Prop) (xs:Array Keyed) (lo hi:Nat):Prop:=∀i j,lo<=i->i<j->j<hi->le (G xs i) (G xs j)
noncomputable def Cut (bf:Keyed->Keyed->Prop) (xs:Array Keyed) (c:Nat):Prop:=∀i j,i<c->c<=j->j<xs.size->bf (G xs i) (G xs j)
structure Re (xs ys:Array Keyed) (lo hi:Nat):Prop where
 perm:ys.Perm xs
 out:∀i,i<lo\/hi<=i->G ys i=G xs i
 inn:∀i,lo<=i->i<hi->∃j,lo<=j/\j<hi/\G ys i=G xs j
theorem Re.refl (xs:Array Keyed)(lo hi:Nat):Re xs xs lo hi:=⟨.refl _,λ_ _=>rfl,λi h1 h2=>⟨i,h1,h2,rfl⟩⟩
theorem Re.trans {xs ys zs:Array Keyed}{lo hi:Nat}(a:Re xs ys lo hi)(b:Re ys zs lo hi):Re xs zs lo hi :=
 ⟨b.perm.trans a.perm,λi h=>(b.out i h).trans (a.out i h),λi h1 h2=>by
  obtain⟨j,g1,g2,e⟩:=b.inn i h1 h2;obtain⟨k,k1,k2,e'⟩:=a.inn j g1 g2;exact⟨k,k1,k2,e.trans e'⟩⟩
theorem Re.mono {xs ys:Array Keyed}{lo hi lo' hi' : Nat}(a:Re xs ys lo hi)(h1:lo'<=lo)(h2:hi<=hi'):Re xs ys lo' hi' :=
 ⟨a.perm,λi h=>a.out i #v[],λi g1 g2=>by
  by_cases c:lo<=i/\i<hi
  ·obtain⟨j,k1,k2,e⟩:=a.inn i c.1 c.2;exact⟨j,by omega,by omega,e⟩
  ·exact⟨i,g1,g2,a.out i #v[]⟩⟩
theorem Re.size {xs ys:Array Keyed}{lo hi:Nat}(a:Re xs ys lo hi):ys.size=xs.size:=a.perm.size_eq
theorem Cut.re {bf:Keyed->Keyed->Prop}{xs ys:Array Keyed}{lo hi c:Nat}(h:Cut bf xs c)(a:Re xs ys lo hi)(hs:hi<=xs.size)(hc:c<=lo\/hi<=c):Cut bf ys c:=λi j h1 h2 h3=>by
 have e:=a.size;have wi:∃i',i' < c/\G ys i=G xs i':=by
  by_cases k:lo<=i/\i<hi
  ·obtain⟨i', g1,g2,e⟩:=a.inn i k.1 k.2;exact⟨i',by omega,e⟩
  ·exact⟨i,h1,a.out i #v[]⟩
 have wj:∃j',c<=j'/\j' < xs.size/\G ys j=G xs j':=by
  by_cases k:lo<=j/\j<hi
  ·obtain⟨j', g1,g2,e⟩:=a.inn j k.1 k.2;exact⟨j',by omega,by omega,e⟩
  ·exact⟨j,h2,by omega,a.out j #v[]⟩
 obtain⟨i',e1,e2⟩:=wi;obtain⟨j',e3,e4,e5⟩:=wj;rw[e2,e5];exact h i' j' e1 e3 e4
theorem Srt.re {le:Keyed->Keyed->Prop}{xs ys:Array Keyed}{lo hi a b:Nat}(h:Srt le xs a b)(r:Re xs ys lo hi)(hc:b<=lo\/hi<=a):Srt le ys a b:=λi j h1 h2 h3=>by
 rw[r.out i #v[],r.out j #v[]];exact h i j h1 h2 h3
noncomputable def mir (xs:Array Keyed) (i j:Nat):Array Keyed:=mirror xs i j ((j - i) / 2)
theorem zhe {xs:Array Keyed}{i j:Nat}(hj:j<=xs.size)(k:Nat):G (mir xs i j) k=if i<=k/\k<j then G xs (i+j - 1 - k) else G xs k:=by
 have e:=getElem?_mirror_all (i:=i) hj k;unfold mir;by_cases h1:i<=k/\k<j
 ·rw[if_pos h1] at e ⊢;exact zgt e
 ·rw[if_neg h1] at e ⊢;exact zgt e
theorem Re.mir {xs:Array Keyed}{i j:Nat}(hj:j<=xs.size):Re xs (mir xs i j) i j :=
 ⟨mirror_perm _ _ _ _,λk h=>by rw[zhe hj,if_neg #v[]],λk h1 h2=>⟨i+j - 1 - k,by omega,by omega,by rw[zhe hj,if_pos ⟨h1,h2⟩]⟩⟩
theorem zwa {xs:Array Keyed}{src d:Nat}(hs:src<xs.size)(hd:d<=src)(k:Nat):G (bubble xs src d) k=if k=src - d then G xs src else if src - d<k/\k<=src then G xs (k - 1) else G xs k:=by
 have e:=getElem?_bubble hs d hd k;by_cases h1:k=src - d
 ·rw[if_pos h1] at e ⊢;exact zgt e
 ·rw[if_neg h1] at e ⊢;by_cases h2:src - d<k/\k<=src
  ·rw[if_pos h2] at e ⊢;exact zgt e
  ·rw[if_neg h2] at e ⊢;exact zgt e
theorem Re.bub {xs:Array Keyed}{src d:Nat}(hs:src<xs.size)(hd:d<=src):Re xs (bubble xs src d) (src - d) (src+1) :=
 ⟨bubble_perm _ _ _,λk h=>by rw[zwa hs hd,if_neg #v[],if_neg #v[]],λk h1 h2=>by
  rw[zwa hs hd];by_cases c:k=src - d
  ·exact⟨src,by omega,by omega,by rw[if_pos c]⟩
  ·exact⟨k - 1,by omega,by omega,by rw[if_neg c,if_pos ⟨by omega,by omega⟩]⟩⟩
structure SI (κ:SortKind) (a₀:Array Keyed) (pd:Array (Nat × Nat × Nat)) (st:SortSt):Prop where
 kind:kindOf st=κ
 failed:failedOf st=none
 perm:(arrOf st).Perm a₀
 pend:pendingOf st=pd
theorem SI.size {κ a₀ pd st}(h:SI κ a₀ pd st):(arrOf st).size=a₀.size:=h.perm.size_eq
theorem SI.set {κ a₀ pd st}(h:SI κ a₀ pd st){ys:Array Keyed}(p:ys.Perm (arrOf st)):SI κ a₀ pd (setArr st ys):=⟨h.kind,h.failed,p.trans h.perm,h.pend⟩
section
variable {prog:Program}{w:World}{A:Around}{E:Value->Shared->Prop}{s:Shared}{κ:SortKind}{a₀:Array Keyed}{lt:Keyed->Keyed->Bool}{bf le:Keyed->Keyed->Prop}{st:SortSt}{pd:Array (Nat × Nat × Nat)}
theorem zv5 {i j:Nat}{Q:Unit->SortSt->Prop}(h:Q () (setArr st (mir (arrOf st) i j))):wpS (model prog w) A E s (reverseSlice' i j) Q st:=by
 rw[reverseSlice'_eq];exact wpS_modify h
theorem z5d {i j:Nat}{Q:Unit->SortSt->Prop}(h:Q () (setArr st (bubble (arrOf st) i (i - j)))):wpS (model prog w) A E s (moveDown' i j) Q st:=by
 rw[moveDown'_eq];exact wpS_modify h
theorem grp (O:Ord lt bf le) {xs ys:Array Keyed}{lo n c:Nat} (c1:lo<=c) (c2:c < lo+n) (hy:∀k,G ys k=if c<=k/\k < lo+n then G xs (c+(lo+n) - 1 - k) else G xs k)
  (d1:∀i j,lo<=i->i<j->j<c->le (G xs j) (G xs i)) (d2:∀i j,lo<=i->i<c->c<=j->j<lo+n->lt (G xs j) (G xs i)=true)
  (d3:∀i j,c<=i->i<j->j<lo+n->le (G xs i) (G xs j)) (d4:∀i j,c<=i->i<lo+n->c<=j->j<lo+n->lt (G xs i) (G xs j)=false) :
  (∀i j,lo<=i->i<j->j<lo+n->le (G ys j) (G ys i))/\∀y,lt y (G xs (lo+n - 1))=true->∀i,lo<=i->i<lo+n->lt y (G ys i)=true:=by
 constructor
 ·intro i j h1 h2 h3;rw[hy i,hy j];by_cases a:j<c
  ·rw[if_neg #v[],if_neg #v[]];exact d1 i j h1 h2 a
  ·rw[if_pos ⟨by omega,h3⟩];by_cases b:i<c
   ·rw[if_neg #v[]];exact O.f2 (d2 i _ h1 b #v[] #v[])
   ·rw[if_pos ⟨by omega,by omega⟩];exact d3 _ _ #v[] #v[] #v[]
 ·intro y h i h1 h2;rw[hy i];by_cases b:c<=i/\i<lo+n
  ·rw[if_pos b];exact (O.nt _ h).resolve_right (λq=>by rw[d4 _ _ #v[] #v[] #v[] #v[]] at q;cases q)
  ·rw[if_neg b];exact O.ltr h (d2 i _ h1 #v[] #v[] #v[])
structure DI (lt:Keyed->Keyed->Bool) (le:Keyed->Keyed->Prop) (lo n neq:Nat) (xs:Array Keyed):Prop where
 nq:neq+1<=n
 d1:∀i j,lo<=i->i<j->j<lo+n - (neq+1)->le (G xs j) (G xs i)
 d2:∀i j,lo<=i->i<lo+n - (neq+1)->lo+n - (neq+1)<=j->j<lo+n->lt (G xs j) (G xs i)=true
 d3:∀i j,lo+n - (neq+1)<=i->i<j->j<lo+n->le (G xs i) (G xs j)
 d4:∀i j,lo+n - (neq+1)<=i->i<lo+n->lo+n - (neq+1)<=j->j<lo+n->lt (G xs i) (G xs j)=false
theorem DI.turn (O:Ord lt bf le) {lo n neq:Nat}{xs:Array Keyed} (d:DI lt le lo n neq xs) (hz:lo+n<=xs.size) :
  (∀i j,lo<=i->i<j->j<lo+n->le (G (mir xs (lo+n - (neq+1)) (lo+n)) j) (G (mir xs (lo+n - (neq+1)) (lo+n)) i))/\∀y,lt y (G xs (lo+n - 1))=true->∀i,lo<=i->i<lo+n->lt y (G (mir xs (lo+n - (neq+1)) (lo+n)) i)=true :=
 grp O (by have:=d.nq;omega) (by have:=d.nq;omega) (λk=>zhe hz k) d.d1 d.d2 d.d3 d.d4
theorem DI.turn0 (O:Ord lt bf le) {lo n:Nat}{xs:Array Keyed} (d:DI lt le lo n 0 xs) :
  (∀i j,lo<=i->i<j->j<lo+n->le (G xs j) (G xs i))/\∀y,lt y (G xs (lo+n - 1))=true->∀i,lo<=i->i<lo+n->lt y (G xs i)=true :=
 grp (c:=lo+n - 1) O (by have:=d.nq;omega) (by have:=d.nq;omega) (λk=>by
  split
  ·congr 1;omega
  ·rfl) d.d1 d.d2 d.d3 d.d4
theorem DI.next (O:Ord lt bf le){lo n:Nat}{xs:Array Keyed}(h:∀i j,lo<=i->i<j->j<lo+n->le (G xs j) (G xs i))(h2:∀i,lo<=i->i<lo+n->lt (G xs (lo+n)) (G xs i)=true):DI lt le lo (n+1) 0 xs :=
 ⟨by omega,λi j a b c=>h i j a b #v[],λi j a b c d=>by
  have e:j=lo+n:=by omega
  rw[e];exact h2 i a #v[],λi j a b c=>by omega,λi j a b c d=>by
  have e:j=i:=by omega
  rw[e];exact O.irr _⟩
theorem DI.like (O:Ord lt bf le) {lo n neq:Nat}{xs:Array Keyed} (d:DI lt le lo n neq xs) (hb:∀i,lo<=i->i < lo+n->bf (G xs i) (G xs (lo+n))) (q1:lt (G xs (lo+n)) (G xs (lo+n - 1))=false) (q2:lt (G xs (lo+n - 1)) (G xs (lo+n))=false):DI lt le lo (n+1) (neq+1) xs:=by
  have nq:=d.nq;have ec:lo+(n+1) - (neq+1+1)=lo+n - (neq+1):=by omega
  have t1:∀i,lo+n - (neq+1)<=i->i < lo+n->lt (G xs (lo+n)) (G xs i)=false:=fun i a b=>by
    cases q:lt (G xs (lo+n)) (G xs i) with
    |false=>rfl
    | true =>
      rcases O.nt (G xs (lo+n - 1)) q with z|z
      · rw[q1] at z;cases z
      · rw[d.d4 _ _ #v[] #v[] a b] at z;cases z
  have t2:∀i,lo+n - (neq+1)<=i->i < lo+n->lt (G xs i) (G xs (lo+n))=false:=fun i a b=>by
    cases q:lt (G xs i) (G xs (lo+n)) with
    |false=>rfl
    | true =>
      rcases O.nt (G xs (lo+n - 1)) q with z|z
      · rw[d.d4 _ _ a b #v[] #v[]] at z;cases z
      · rw[q2] at z;cases z
  refine⟨by omega,?_,?_,?_,?_⟩<;>rw[ec]
  · exact d.d1
  · intro i j a b c e
    by_cases k:j<lo+n
    · exact d.d2 i j a b c k
    · have ej : j = lo + n := by omega
      rw[ej];exact (O.nt (G xs (lo+n)) (d.d2 i (lo+n - 1) a b #v[] #v[])).resolve_left (λz=>by rw[q2] at z;cases z)
  · intro i j a b c
    by_cases k:j<lo+n
    · exact d.d3 i j a b k
    · have ej : j = lo + n := by omega
      rw[ej];exact (O.f1 (hb i #v[] #v[])).mp (t1 i a #v[])
  · intro i j a b c e
    by_cases k:j<lo+n
    · by_cases k2 : i < lo + n
      · exact d.d4 i j a k2 c k
      · have ei : i = lo + n := by omega
        rw[ei];exact t1 j c k
    · have ej : j = lo + n := by omega
      rw[ej];by_cases k2:i<lo+n
      · exact t2 i a k2
      · have ei : i = lo + n := by omega
        rw[ei];exact O.irr _
theorem z4q {α:Type}{c:Prop} [Decidable c] {x y:StateT SortSt Sem α}{Q:α->SortSt->Prop}{T:SortSt->Prop}(h:∀s3,T s3->wpS (model prog w) A E s y Q s3)(h0:¬ c->T st)(h1:c->(∀s3,T s3->wpS (model prog w) A E s y Q s3)->wpS (model prog w) A E s x Q st):wpS (model prog w) A E s (if c then x else y) Q st:=by
 by_cases k:c
 ·rw[if_pos k];exact h1 k h
 ·rw[if_neg k];exact h st (h0 k)
theorem z14 (C:Asks prog w A E s κ a₀ lt) (O:Ord lt bf le) {lo nrem:Nat}{Q:Option Nat->SortSt->Prop} (I:SI κ a₀ pd st) (hsz:lo+nrem<=a₀.size) (h1:1<=nrem) (hc:∀c,lo<=c->Cut bf (arrOf st) c)
    (h:∀m st',SI κ a₀ pd st'->1<=m->m<=nrem->Re (arrOf st) (arrOf st') lo (lo+m)->Srt le (arrOf st') lo (lo+m)->Q (some m) st'):wpS (model prog w) A E s (countRun' lo nrem) Q st:=by
  have sz:=I.size;rw [countRun'_eq];refine An (Ds (Ch (I:=fun x c s2=>s2=st/\c=(none,x)/\1<=x/\x<=nrem/\Srt le (arrOf st) lo (lo+x))
    (Q:=λc s2=>s2=st/\∃k,c=(none,k)/\1<=k/\k<=nrem/\Srt le (arrOf st) lo (lo+k)/\(k=nrem\/lt (G (arrOf st) (lo+k)) (G (arrOf st) (lo+k - 1))=true)) ?as1 ?af1 ⟨rfl,rfl,Af _,h1,(λi j g1 g2 g3=>by omega)⟩) ?ap1)
  case af1 =>
    rintro c s2 ⟨e2,rfl,a0,a1,a2⟩;rw[show max 1 nrem=nrem by omega] at *
    exact⟨e2,nrem,rfl,by omega,Af _,a2,.inl rfl⟩
  case as1 =>
    rintro x c s2 b1 b2 ⟨e2,rfl,a0,a1,a2⟩;subst e2;dsimp only;refine An (zhy C I.kind I.perm #v[] #v[] ?_);cases q:lt (G (arrOf s2) (lo+x)) (G (arrOf s2) (lo+x - 1)) with
    | true =>
      dsimp only;rw[if_pos rfl];exact Au ⟨rfl,x,rfl,a0,a1,a2,.inr q⟩
    | false =>
      dsimp only;rw[if_neg #v[0,9]];refine Au ⟨rfl,rfl,by omega,by omega,λi j h1 h2 h3=>?_⟩;by_cases hj:j<lo+x
      · exact a2 i j h1 h2 hj
      · have ej : j = lo + x := by omega
        subst ej;have b:le (G (arrOf s2) (lo+x - 1)) (G (arrOf s2) (lo+x)):=(O.f1 (hc (lo+x) #v[] (lo+x - 1) (lo+x) #v[] (Af _) (by rw[I.size];omega))).mp q;by_cases hi:i=lo+x - 1
        · rw[hi];exact b
        · exact O.tr (a2 i (lo+x - 1) h1 #v[] #v[]) b
  case ap1 =>
    rintro c s2 ⟨e2,n,rfl,a0,a1,a2,a3⟩;subst e2;dsimp only;by_cases en:n=nrem
    · rw [if_pos (by simpa using en)]
      exact Au (h n s2 I a0 a1 (.refl _ _ _) a2)
    · rw [if_neg (by simpa using en)]
      have q3:=a3.resolve_left en;refine z4q (T:=λs3=>SI κ a₀ pd s3/\Re (arrOf s2) (arrOf s3) lo (lo+(n+1))/\DI lt le lo (n+1) 0 (arrOf s3)) (λs3 ⟨I3,R3,D3⟩=>?main) (λn1=>?no) (λn1 H=>?yes)
      case yes =>
        refine An (zhy C I.kind I.perm #v[] #v[] ?_);cases q:lt (G (arrOf s2) lo) (G (arrOf s2) (lo+n - 1)) with
        | true =>
          dsimp only;rw[if_pos rfl];exact Au (h n s2 I a0 a1 (.refl _ _ _) a2)
        | false =>
          dsimp only;rw [if_neg (by decide)];refine An (zv5 ?_);have lk:∀i,lo<=i->i < lo+n->lt (G (arrOf s2) (lo+n)) (G (arrOf s2) i)=true:=fun i g1 g2=>by
            have z1:lt (G (arrOf s2) i) (G (arrOf s2) (lo+n - 1))=false:=by
              cases z:lt (G (arrOf s2) i) (G (arrOf s2) (lo+n - 1)) with
              |false=>rfl
              | true =>
                rcases O.nt (G (arrOf s2) lo) z with y|y
                · by_cases ei : i = lo
                  · rw[ei,O.irr] at y;cases y
                  · have := O.f3 (hc i g1 lo i (by omega) (Af _) (by omega)) y
                    exact absurd (a2 lo i (Af _) #v[] g2) this
                · rw[q] at y;cases y
            exact (O.nt _ q3).resolve_right (λy=>by rw[z1] at y;cases y)
          obtain ⟨s3,e3,I3,R3,D3⟩ : ∃s3,s3=(setArr s2 (mir (arrOf s2) lo (lo+n)))/\SI κ a₀ pd s3/\Re (arrOf s2) (arrOf s3) lo (lo+(n+1))/\DI lt le lo (n+1) 0 (arrOf s3):=⟨_,rfl,I.set (Re.mir (by omega)).perm,(Re.mir (by omega)).mono (Af _) (by omega),DI.next O (fun i j g1 g2 g3=>by
                      show le (G (mir (arrOf s2) lo (lo+n)) j) (G (mir (arrOf s2) lo (lo+n)) i);rw[zhe #v[],zhe #v[],if_pos ⟨by omega,by omega⟩,if_pos ⟨by omega,by omega⟩];exact a2 _ _ #v[] #v[] #v[]) (λi g1 g2=>by
                      show lt (G (mir (arrOf s2) lo (lo+n)) (lo+n)) (G (mir (arrOf s2) lo (lo+n)) i)=true;rw[zhe #v[],zhe #v[],if_neg #v[],if_pos ⟨by omega,by omega⟩];exact lk _ #v[] #v[])⟩
          rw[<-e3];exact H s3 ⟨I3,R3,D3⟩
      case no =>
        have en1:n=1:=by omega
        subst en1;exact ⟨I,.refl _ _ _,DI.next O (fun i j g1 g2 g3=>by omega) (fun i g1 g2=>by
          have ei:i=lo:=by omega
          rw[ei];exact q3)⟩
      case main =>
        refine An (wpS_lift (Eg ⟨rfl,?_⟩));refine An (Ds (Ch (I:=fun x c s4=>∃neq,c=(none,x,neq)/\n+1<=x/\x<=nrem/\SI κ a₀ pd s4/\Re (arrOf s2) (arrOf s4) lo (lo+x)/\DI lt le lo x neq (arrOf s4))
          (Q:=λc s4=>∃m neq,c=(none,m,neq)/\n+1<=m/\m<=nrem/\SI κ a₀ pd s4/\Re (arrOf s2) (arrOf s4) lo (lo+m)/\DI lt le lo m neq (arrOf s4)) ?dsd1 ?dfd1 ⟨0,rfl,Af _,by omega,I3,R3,D3⟩) ?dpd1)
        case dfd1 =>
          rintro c s4 ⟨neq,rfl,b0,b1,b2,b3,b4⟩;have e:max (n+1) nrem=nrem:=by omega
          rw[e] at b0 b1 b3 b4 ⊢;exact⟨nrem,neq,rfl,b0,b1,b2,b3,b4⟩
        case dsd1 =>
          rintro x c s4 g1 g2 ⟨neq,rfl,b0,b1,I4,R4,D4⟩;dsimp only;have z4:=I4.size;have cut4:∀c,lo+x<=c->Cut bf (arrOf s4) c:=λc hc'=>(hc c #v[]).re R4 #v[] (.inr hc');refine An (zhy C I4.kind I4.perm #v[] #v[] ?_);cases q5:lt (G (arrOf s4) (lo+x)) (G (arrOf s4) (lo+x - 1)) with
          | true =>
            dsimp only;rw[if_pos rfl];by_cases nq:neq > 0
            · rw [if_pos nq]
              refine An (zv5 (Au ⟨0,rfl,by omega,by omega,I4.set (Re.mir #v[]).perm,(R4.trans ((Re.mir #v[]).mono (by have:=D4.nq;omega) (Af _))).mono (Af _) #v[],?_⟩));obtain⟨t1,t2⟩:=D4.turn O #v[];refine DI.next O t1 λi k1 k2=>?_;have:=t2 _ q5 i k1 k2;show lt (G (mir (arrOf s4) (lo+x - (neq+1)) (lo+x)) (lo+x)) _=true;rw[zhe #v[],if_neg #v[]];exact this
            · rw [if_neg nq]
              have e0:neq=0:=by omega
              subst e0;obtain⟨t1,t2⟩:=D4.turn0 O;exact Au ⟨0,rfl,by omega,by omega,I4,R4.mono (Af _) #v[],DI.next O t1 λi k1 k2=>t2 _ q5 i k1 k2⟩
          | false =>
            dsimp only;rw[if_neg #v[0,9]];refine An (zhy C I4.kind I4.perm #v[] #v[] ?_);cases q6:lt (G (arrOf s4) (lo+x - 1)) (G (arrOf s4) (lo+x)) with
            | true =>
              dsimp only;rw[if_pos rfl];exact Au ⟨x,neq,rfl,b0,b1,I4,R4,D4⟩
            | false =>
              dsimp only;rw[if_neg #v[0,9]];exact Au ⟨neq+1,rfl,by omega,by omega,I4,R4.mono (Af _) #v[],D4.like O (λi k1 k2=>cut4 (lo+x) (Af _) i (lo+x) k2 (Af _) #v[]) q5 q6⟩
        case dpd1 =>
          rintro c s4 ⟨n,neq,rfl,b0,n2,I4,R4,D4⟩;dsimp only;have z4:=I4.size;refine z4q (T:=λs6=>SI κ a₀ pd s6/\Re (arrOf s2) (arrOf s6) lo (lo+n)/\∀i j,lo<=i->i<j->j<lo+n->le (G (arrOf s6) j) (G (arrOf s6) i)) (λs6 ⟨I6,R6,t1⟩=>?tl) (λnq=>?tn) (λnq H=>?ty)
          case ty =>
            refine An (zv5 ?_);have I6:SI κ a₀ pd (setArr s4 (mir (arrOf s4) (lo+n - (neq+1)) (lo+n))):=I4.set (Re.mir #v[]).perm;have R6:Re (arrOf s2) (mir (arrOf s4) (lo+n - (neq+1)) (lo+n)) lo (lo+n):=R4.trans ((Re.mir #v[]).mono (by have:=D4.nq;omega) (Af _));have t1:=(D4.turn O #v[]).1;exact H _ ⟨I6,R6,t1⟩
          case tn =>
            have e0:neq=0:=by omega
            subst e0;exact⟨I4,R4,(D4.turn0 O).1⟩
          case tl =>
            have z6:=I6.size;refine An (zv5 ?_);have I5:SI κ a₀ pd (setArr s6 (mir (arrOf s6) lo (lo+n))):=I6.set (Re.mir (by omega)).perm;have R5:Re (arrOf s2) (mir (arrOf s6) lo (lo+n)) lo (lo+n):=R6.trans (Re.mir (by omega));have z5:Srt le (mir (arrOf s6) lo (lo+n)) lo (lo+n):=fun i j h1 h2 h3=>by
              rw[zhe #v[],zhe #v[],if_pos ⟨by omega,by omega⟩,if_pos ⟨by omega,by omega⟩];exact t1 _ _ #v[] #v[] #v[]
            have ea:mir (arrOf s6) lo (lo+n)=arrOf (setArr s6 (mir (arrOf s6) lo (lo+n))):=rfl
            revert I5 R5 z5
            rw [ea];generalize (setArr s6 (mir (arrOf s6) lo (lo+n)))=s5;intro I5 R5 z5;have hz5:=I5.size;have hc5:∀c,lo+n<=c->Cut bf (arrOf s5) c:=fun c hc'=>(hc c (by omega)).re R5 (by omega) (.inr hc');refine An (Ds (Ch (I:=fun x c s2=>s2=s5/\c=(none,x)/\n<=x/\x<=nrem/\Srt le (arrOf s5) lo (lo+x))
              (Q:=λc s2=>s2=s5/\∃k,c=(none,k)/\n<=k/\k<=nrem/\Srt le (arrOf s5) lo (lo+k)/\(k=nrem\/lt (G (arrOf s5) (lo+k)) (G (arrOf s5) (lo+k - 1))=true)) ?asd11 ?afd11 ⟨rfl,rfl,Af _,n2,z5⟩) ?apd11)
            case afd11 =>
              rintro c s2 ⟨e2,rfl,y0,y1,a2⟩;rw[show max n nrem=nrem by omega] at *
              exact⟨e2,nrem,rfl,by omega,Af _,a2,.inl rfl⟩
            case asd11 =>
              rintro x c s2 b1 b2 ⟨e2,rfl,y0,y1,a2⟩;subst e2;dsimp only;refine An (zhy C I5.kind I5.perm #v[] #v[] ?_);cases q:lt (G (arrOf s2) (lo+x)) (G (arrOf s2) (lo+x - 1)) with
              | true =>
                dsimp only;rw[if_pos rfl];exact Au ⟨rfl,x,rfl,y0,y1,a2,.inr q⟩
              | false =>
                dsimp only;rw[if_neg #v[0,9]];refine Au ⟨rfl,rfl,by omega,by omega,λi j h1 h2 h3=>?_⟩;by_cases hj:j<lo+x
                · exact a2 i j h1 h2 hj
                · have ej : j = lo + x := by omega
                  subst ej;have b:le (G (arrOf s2) (lo+x - 1)) (G (arrOf s2) (lo+x)):=(O.f1 (hc5 (lo+x) #v[] (lo+x - 1) (lo+x) #v[] (Af _) (by rw[I5.size];omega))).mp q;by_cases hi:i=lo+x - 1
                  · rw[hi];exact b
                  · exact O.tr (a2 i (lo+x - 1) h1 #v[] #v[]) b
            case apd11 =>
              rintro c s7 ⟨e7,m,rfl,y0,y1,y2,y3⟩;subst e7;exact Au (h m s7 I5 #v[] y1 (R5.mono (Af _) #v[]) y2)
end
end Tim
namespace Tim
section
variable {prog:Program}{w:World}{A:Around}{E:Value->Shared->Prop}{s:Shared}{κ:SortKind}{a₀:Array Keyed}{lt:Keyed->Keyed->Bool}{bf le:Keyed->Keyed->Prop}{st:SortSt}{pd:Array (Nat × Nat × Nat)}
theorem z7e (C:Asks prog w A E s κ a₀ lt) (O:Ord lt bf le) {lo n ok:Nat}{Q:Bool->SortSt->Prop} (I:SI κ a₀ pd st) (hsz:lo+n<=a₀.size) (hok:ok<=n) (h1:1<=ok) (hs:Srt le (arrOf st) lo (lo+ok)) (hc:∀c,lo+ok<=c->Cut bf (arrOf st) c)
    (h:∀st',SI κ a₀ pd st'->Re (arrOf st) (arrOf st') lo (lo+n)->Srt le (arrOf st') lo (lo+n)->Q true st'):wpS (model prog w) A E s (binarySort' lo n ok) Q st:=by
  have sz:=I.size;rw[binarySort'_eq];have em:max ok 1=ok:=by omega
  rw [em];refine An (Ds (Ch (I:=fun k c s2=>c=(none,())/\ok<=k/\k<=n/\SI κ a₀ pd s2/\Re (arrOf st) (arrOf s2) lo (lo+k)/\Srt le (arrOf s2) lo (lo+k))
    (Q:=λc s2=>c=(none,())/\SI κ a₀ pd s2/\Re (arrOf st) (arrOf s2) lo (lo+n)/\Srt le (arrOf s2) lo (lo+n)) ?step ?fin ⟨rfl,Af _,hok,I,.refl _ _ _,hs⟩) ?post)
  case post =>
    rintro c s2 ⟨rfl,I2,R2,S2⟩;exact Au (h s2 I2 R2 S2)
  case fin =>
    rintro c s2 ⟨hc,b0,b1,I2,R2,S2⟩;have e:max ok n=n:=by omega
    rw[e] at R2 S2;exact⟨hc,I2,R2,S2⟩
  case step =>
    rintro k c s2 g1 g2 ⟨rfl,b0,b1,I2,R2,S2⟩;have z2:=I2.size;have ct:Cut bf (arrOf s2) (lo+k):=(hc (lo+k) (by omega)).re R2 (by omega) (.inr (Af _));refine An (Ds (Ch (I:=fun x c s3=>s3=s2/\∃l r,c=(none,l,r)/\l<=r/\r<=k/\r - l<=k - x/\(∀i,i < l->le (G (arrOf s2) (lo+i)) (G (arrOf s2) (lo+k)))/\∀i,r<=i->i < k->le (G (arrOf s2) (lo+k)) (G (arrOf s2) (lo+i)))
      (Q:=λc s3=>s3=s2/\∃l,c=(none,l,l)/\l<=k/\(∀i,i<l->le (G (arrOf s2) (lo+i)) (G (arrOf s2) (lo+k)))/\∀i,l<=i->i<k->le (G (arrOf s2) (lo+k)) (G (arrOf s2) (lo+i))) ?istep ?ifin ⟨rfl,0,k,rfl,by omega,by omega,by omega,λi hi=>by omega,λi k1 k2=>by omega⟩) ?ipost)
    case ifin =>
      rintro c s3 ⟨e3,l,r,rfl,c1,c2,c3,c4,c5⟩;have e:r=l:=by omega
      subst e;exact⟨e3,r,rfl,c2,c4,c5⟩
    case istep =>
      rintro x c s3 _ hx ⟨e3,l,r,rfl,c1,c2,c3,c4,c5⟩;subst e3;dsimp only;by_cases g:l ≥ r
      · rw [if_pos g]
        have e:r=l:=by omega
        subst e;exact Au ⟨rfl,r,rfl,c2,c4,c5⟩
      · rw [if_neg g]
        refine An (zhy C I2.kind I2.perm #v[] #v[] ?_);have b:=ct (lo+(l+r) / 2) (lo+k) #v[] (Af _) #v[];cases q:lt (G (arrOf s3) (lo+k)) (G (arrOf s3) (lo+(l+r) / 2)) with
        | true =>
          dsimp only;rw[if_pos rfl];refine Au ⟨rfl,l,(l+r) / 2,rfl,by omega,by omega,by omega,c4,λi k1 k2=>?_⟩;by_cases e:i=(l+r) / 2
          · rw[e];exact O.f2 q
          · exact O.tr (O.f2 q) (S2 _ _ #v[] #v[] #v[])
        | false =>
          dsimp only;rw[if_neg #v[0,9]];refine Au ⟨rfl,(l+r) / 2+1,r,rfl,by omega,by omega,by omega,λi k1=>?_,c5⟩;by_cases e:i=(l+r) / 2
          · rw[e];exact (O.f1 b).mp q
          · exact O.tr (S2 _ _ #v[] #v[] #v[]) ((O.f1 b).mp q)
    case ipost =>
      rintro c s3 ⟨e3,l,rfl,c2,c4,c5⟩;subst e3;refine An (z5d (Au ⟨rfl,by omega,by omega,I2.set (bubble_perm _ _ _),?_,?_⟩))
      · refine (R2.mono (Af _) #v[]).trans ((Re.bub #v[] #v[]).mono #v[] #v[])
      · intro i j h1 h2 h3
        show le (G (bubble (arrOf s3) (lo+k) (lo+k - (lo+l))) i) (G (bubble (arrOf s3) (lo+k) (lo+k - (lo+l))) j);have el:lo+k - (lo+k - (lo+l))=lo+l:=by omega
        rw [zwa (by omega) (by omega),zwa (by omega) (by omega),el];have p4:∀i,lo<=i->i < lo+l->le (G (arrOf s3) i) (G (arrOf s3) (lo+k)):=fun i k1 k2=>by
          have:=c4 (i - lo) #v[];rw[show lo+(i - lo)=i by omega] at this;exact this
        have p5:∀i,lo+l<=i->i < lo+k->le (G (arrOf s3) (lo+k)) (G (arrOf s3) i):=fun i k1 k2=>by
          have:=c5 (i - lo) #v[] #v[];rw[show lo+(i - lo)=i by omega] at this;exact this
        by_cases a1:i=lo+l
        · rw [if_pos a1, if_neg (by omega), if_pos ⟨by omega, by omega⟩]
          exact p5 _ #v[] #v[]
        · rw [if_neg a1]
          by_cases a2:j=lo+l
          · rw [if_neg (by omega), if_pos a2]
            exact p4 _ h1 #v[]
          · rw [if_neg a2]
            by_cases a3:lo+l<i/\i<=lo+k
            · rw [if_pos a3, if_pos ⟨by omega, by omega⟩]
              exact S2 _ _ #v[] #v[] #v[]
            · rw [if_neg a3]
              by_cases a4:lo+l<j/\j<=lo+k
              · rw [if_pos a4]
                by_cases a5:i=j - 1
                · rw[a5];exact O.rf _
                · exact S2 _ _ #v[] #v[] #v[]
              · rw [if_neg a4]
                exact S2 _ _ #v[] #v[] #v[]
end
end Tim
namespace Tim
theorem G_list {a:Array Keyed}{i:Nat}(h:i<a.size):a.toList[i]?=some (G a i):=by rw[Dv];exact zze h
theorem take_G {a:Array Keyed}{i:Nat}(h:i<a.size):a.toList.take (i+1)=a.toList.take i++[G a i]:=by rw[Hg,G_list h];rfl
theorem zrp {a:Array Keyed}{i:Nat}(h:i<a.size):a.toList.drop i=G a i::a.toList.drop (i+1):=by
 have h' : i<a.toList.length:=by simpa using h
 rw[Cq h'];have e:=G_list h;rw[Ae h'] at e;rw[sI e]
theorem mem_drop {a:Array Keyed}{n:Nat}{x:Keyed}(h:x∈a.toList.drop n):∃i,n<=i/\i<a.size/\x=G a i:=by
 obtain⟨i,hi,e⟩:=Cm.mp h;have h1:n+i<a.toList.length:=by rw[Ge] at hi;omega
 have h2:n+i<a.size:=by simpa using h1
 refine⟨n+i,by omega,h2,?_⟩;rw[List.getElem_drop] at e;have g:=G_list h2;rw[Ae h1] at g;rw[<-e];exact sI g
theorem mem_take {a:Array Keyed}{n:Nat}{x:Keyed}(h:x∈a.toList.take n):∃i,i<n/\i<a.size/\x=G a i:=by
 obtain⟨i,hi,e⟩:=Cm.mp h;rw[Dp] at hi;have h1:i<a.toList.length:=by omega
 have h2:i<a.size:=by simpa using h1
 refine⟨i,by omega,h2,?_⟩;rw[List.getElem_take] at e;have g:=G_list h2;rw[Ae h1] at g;rw[<-e];exact sI g
theorem srt_list {le:Keyed->Keyed->Prop}{a:Array Keyed}(h:Srt le a 0 a.size):a.toList.Pairwise le:=by
 rw[List.pairwise_iff_getElem];intro i j hi hj hij;have hi' : i<a.size:=by simpa using hi
 have hj' : j<a.size:=by simpa using hj
 have e1:=G_list hi';have e2:=G_list hj';rw[Ae hi] at e1;rw[Ae hj] at e2;rw[sI e1,sI e2];exact h i j (Bj _) hij hj'
theorem zcv (a:Array Keyed)(i j:Nat):(a.extract i j).toList=(a.toList.drop i).take (j - i):=by rw[Array.toList_extract]
theorem zje (a:Array Keyed)(i:Nat):(a.extract i a.size).toList=a.toList.drop i:=by
 rw[zcv,List.take_of_length_le];rw[Ge];simp
structure Fin (le:Keyed->Keyed->Prop) (a b:Array Keyed) (r:List Keyed):Prop where
 p:r.Perm (a.toList++b.toList)
 s:r.Pairwise le
structure MI (le:Keyed->Keyed->Prop) (a b:Array Keyed) (o:List Keyed) (ia ib:Nat):Prop where
 p:o.Perm (a.toList.take ia++b.toList.take ib)
 s:o.Pairwise le
 oa:∀x∈o,∀i,ia<=i->i<a.size->le x (G a i)
 ob:∀x∈o,∀j,ib<=j->j<b.size->le x (G b j)
structure MH (le:Keyed->Keyed->Prop) (a b:Array Keyed) (o:List Keyed) (na nb:Nat):Prop where
 p:o.Perm (a.toList.drop na++b.toList.drop nb)
 s:o.Pairwise le
 oa:∀x∈o,∀i,i<na->le (G a i) x
 ob:∀x∈o,∀j,j<nb->le (G b j) x
section
variable {lt:Keyed->Keyed->Bool}{bf le:Keyed->Keyed->Prop} (O:Ord lt bf le) {a b:Array Keyed}{o:List Keyed}{ia ib na nb:Nat} (Sa:Srt le a 0 a.size) (Sb:Srt le b 0 b.size)
theorem zx1 {x:Keyed}{o p q:List Keyed}(h:o.Perm (p++q)):(o++[x]).Perm ((p++[x])++q):=by
 refine (h.append_right [x]).trans ?_;rw[Az,Az];exact List.perm_append_comm.append_left p
theorem MI.pushA (Sa:Srt le a 0 a.size)(m:MI le a b o ia ib)(hi:ia<a.size)(hb:∀j,ib<=j->j<b.size->le (G a ia) (G b j)):MI le a b (o++[G a ia]) (ia+1) ib:=by
 refine⟨by rw[take_G hi];exact zx1 m.p,?_,λx hx i h1 h2=>?_,λx hx j h1 h2=>?_⟩
 ·rw[Ce];refine⟨m.s,List.pairwise_singleton _ _,λx hx y hy=>?_⟩;rw[Aq.mp hy];exact m.oa x hx ia (Af _) hi
 ·rcases Bo.mp hx with z|z
  ·exact m.oa x z i #v[] h2
  ·rw[Aq.mp z];exact Sa _ _ (Bj _) #v[] h2
 ·rcases Bo.mp hx with z|z
  ·exact m.ob x z j h1 h2
  ·rw[Aq.mp z];exact hb j h1 h2
theorem MI.pushB (Sb:Srt le b 0 b.size)(m:MI le a b o ia ib)(hj:ib<b.size)(ha:∀i,ia<=i->i<a.size->le (G b ib) (G a i)):MI le a b (o++[G b ib]) ia (ib+1):=by
 refine⟨?_,?_,λx hx i h1 h2=>?_,λx hx j h1 h2=>?_⟩
 ·rw[take_G hj];have:=m.p.append_right [G b ib];rw[Az] at this;exact this
 ·rw[Ce];refine⟨m.s,List.pairwise_singleton _ _,λx hx y hy=>?_⟩;rw[Aq.mp hy];exact m.ob x hx ib (Af _) hj
 ·rcases Bo.mp hx with z|z
  ·exact m.oa x z i h1 h2
  ·rw[Aq.mp z];exact ha i h1 h2
 ·rcases Bo.mp hx with z|z
  ·exact m.ob x z j #v[] h2
  ·rw[Aq.mp z];exact Sb _ _ (Bj _) #v[] h2
theorem zo2 {a:Array Keyed}{i k:Nat}(h:i+k<a.size):(a.toList.drop i).take (k+1)=(a.toList.drop i).take k++[G a (i+k)]:=by
 rw[Hg,List.getElem?_drop,G_list h];rfl
theorem MI.appA (Sa:Srt le a 0 a.size) (m:MI le a b o ia ib):∀k,ia+k<=a.size->(∀i,ia<=i->i < ia+k->∀j,ib<=j->j < b.size->le (G a i) (G b j))->MI le a b (o++(a.toList.drop ia).take k) (ia+k) ib
  |0,_,_=>by rw[Ev,Bx];exact m
  | k+1,h1,h2=>by
    have:=(m.appA Sa k #v[] λi g1 g2=>h2 i g1 #v[]).pushA Sa #v[] (h2 (ia+k) #v[] #v[]);rw[zo2 #v[],<-Az];exact this
theorem MI.appB (Sb:Srt le b 0 b.size) (m:MI le a b o ia ib):∀k,ib+k<=b.size->(∀j,ib<=j->j < ib+k->∀i,ia<=i->i < a.size->le (G b j) (G a i))->MI le a b (o++(b.toList.drop ib).take k) ia (ib+k)
  |0,_,_=>by rw[Ev,Bx];exact m
  | k+1,h1,h2=>by
    have:=(m.appB Sb k #v[] λi g1 g2=>h2 i g1 #v[]).pushB Sb #v[] (h2 (ib+k) #v[] #v[]);rw[zo2 #v[],<-Az];exact this
theorem zof (b:Array Keyed):b.toList.take b.size=b.toList:=List.take_of_length_le (by simp)
theorem MI.finB (Sa:Srt le a 0 a.size)(m:MI le a b o ia b.size):Fin le a b (o++a.toList.drop ia):=by
 refine⟨?_,?_⟩
 ·have h:=m.p;rw[zof] at h;refine (h.append_right _).trans ?_;rw[Az];refine (List.perm_append_comm.append_left _).trans ?_;rw[<-Az,Bq]
 ·rw[Ce];refine⟨m.s,(srt_list Sa).sublist (Hh _ _),λx hx y hy=>?_⟩;obtain⟨i,h1,h2,rfl⟩:=mem_drop hy;exact m.oa x hx i h1 h2
theorem MI.finA (Sb:Srt le b 0 b.size)(m:MI le a b o a.size ib):Fin le a b (o++b.toList.drop ib):=by
 refine⟨?_,?_⟩
 ·have h:=m.p;rw[zof] at h;refine (h.append_right _).trans ?_;rw[Az,Bq]
 ·rw[Ce];refine⟨m.s,(srt_list Sb).sublist (Hh _ _),λx hx y hy=>?_⟩;obtain⟨i,h1,h2,rfl⟩:=mem_drop hy;exact m.ob x hx i h1 h2
theorem MI.finL (Sa:Srt le a 0 a.size)(Sb:Srt le b 0 b.size)(m:MI le a b o ia ib)(e:ia+1=a.size)(HA:∀j,j<b.size->le (G b j) (G a (a.size - 1))):Fin le a b (o++b.toList.drop ib++a.toList.drop ia):=by
 refine⟨?_,?_⟩
 ·refine ((m.p.append_right _).append_right _).trans ?_;rw[Az,Az,<-Az (b.toList.take ib),Bq];refine (List.perm_append_comm.append_left _).trans ?_;rw[<-Az,Bq]
 ·rw[Ce,Ce];refine⟨⟨m.s,(srt_list Sb).sublist (Hh _ _),λx hx y hy=>?_⟩,(srt_list Sa).sublist (Hh _ _),λx hx y hy=>?_⟩
  ·obtain⟨i,h1,h2,rfl⟩:=mem_drop hy;exact m.ob x hx i h1 h2
  ·obtain⟨i,h1,h2,rfl⟩:=mem_drop hy;rcases Bo.mp hx with z|z
   ·exact m.oa x z i h1 h2
   ·obtain⟨j,g1,g2,rfl⟩:=mem_drop z;have:i=a.size - 1:=by omega
    rw[this];exact HA j g2
theorem MH.pushA (Sa:Srt le a 0 a.size)(m:MH le a b o (na+1) nb)(h:na<a.size)(hb:∀j,j<nb->le (G b j) (G a na)):MH le a b (G a na::o) na nb:=by
 refine⟨?_,Cu.mpr ⟨λx hx=>m.oa x hx na #v[],m.s⟩,λx hx i h1=>?_,λx hx j h1=>?_⟩
 ·rw[zrp h];exact m.p.cons _
 ·rcases At.mp hx with z|z
  ·rw[z];exact Sa _ _ (Bj _) h1 h
  ·exact m.oa x z i #v[]
 ·rcases At.mp hx with z|z
  ·rw[z];exact hb j h1
  ·exact m.ob x z j h1
theorem MH.pushB (Sb:Srt le b 0 b.size)(m:MH le a b o na (nb+1))(h:nb<b.size)(ha:∀i,i<na->le (G a i) (G b nb)):MH le a b (G b nb::o) na nb:=by
 refine⟨?_,Cu.mpr ⟨λx hx=>m.ob x hx nb #v[],m.s⟩,λx hx i h1=>?_,λx hx j h1=>?_⟩
 ·rw[zrp h];exact (m.p.cons _).trans List.perm_middle.symm
 ·rcases At.mp hx with z|z
  ·rw[z];exact ha i h1
  ·exact m.oa x z i h1
 ·rcases At.mp hx with z|z
  ·rw[z];exact Sb _ _ (Bj _) h1 h
  ·exact m.ob x z j #v[]
theorem zpj {a:Array Keyed}{i k:Nat}(h:i<a.size):(a.toList.drop i).take (k+1)=G a i::(a.toList.drop (i+1)).take k:=by
 rw[zrp h,List.take_succ_cons]
theorem MH.appA (Sa:Srt le a 0 a.size):∀(k at_:Nat),MH le a b o (at_+k) nb->at_+k<=a.size->(∀i,at_<=i->i < at_+k->∀j,j < nb->le (G b j) (G a i))->MH le a b ((a.toList.drop at_).take k++o) at_ nb
  |0,at_,m,_,_=>by rw[Ev];exact m
  | k+1,at_,m,h1,h2=>by
    have:=(MH.appA Sa k (at_+1) (by rw[show at_+1+k=at_+(k+1) by omega];exact m) #v[] λi g1 g2=>h2 i #v[] #v[]).pushA Sa #v[] (h2 at_ (Af _) #v[]);rw[zpj #v[]];exact this
theorem MH.appB (Sb:Srt le b 0 b.size):∀(k at_:Nat),MH le a b o na (at_+k)->at_+k<=b.size->(∀j,at_<=j->j < at_+k->∀i,i < na->le (G a i) (G b j))->MH le a b ((b.toList.drop at_).take k++o) na at_
  |0,at_,m,_,_=>by rw[Ev];exact m
  | k+1,at_,m,h1,h2=>by
    have:=(MH.appB Sb k (at_+1) (by rw[show at_+1+k=at_+(k+1) by omega];exact m) #v[] λi g1 g2=>h2 i #v[] #v[]).pushB Sb #v[] (h2 at_ (Af _) #v[]);rw[zpj #v[]];exact this
theorem MH.finA (Sb:Srt le b 0 b.size)(m:MH le a b o 0 nb):Fin le a b (b.toList.take nb++o):=by
 refine⟨?_,?_⟩
 ·refine (m.p.append_left _).trans ?_;rw[Ey];refine List.perm_append_comm_assoc _ _ _ |>.trans ?_;rw[Bq]
 ·rw[Ce];refine⟨(srt_list Sb).sublist (Es _ _),m.s,λx hx y hy=>?_⟩;obtain⟨i,h1,h2,rfl⟩:=mem_take hx;exact m.ob y hy i h1
theorem MH.finB (Sa:Srt le a 0 a.size)(m:MH le a b o na 0):Fin le a b (a.toList.take na++o):=by
 refine⟨?_,?_⟩
 ·refine (m.p.append_left _).trans ?_;rw[Ey,<-Az,Bq]
 ·rw[Ce];refine⟨(srt_list Sa).sublist (Es _ _),m.s,λx hx y hy=>?_⟩;obtain⟨i,h1,h2,rfl⟩:=mem_take hx;exact m.oa y hy i h1
theorem MH.finF (Sa:Srt le a 0 a.size)(Sb:Srt le b 0 b.size)(m:MH le a b o na 1)(H0:∀i,i<a.size->le (G b 0) (G a i)):Fin le a b (b.toList.take 1++a.toList.take na++o):=by
 refine⟨?_,?_⟩
 ·refine (m.p.append_left _).trans ?_;rw[Az,<-Az (a.toList.take na),Bq];refine List.perm_append_comm_assoc _ _ _ |>.trans ?_;rw[Bq]
 ·rw[Ce,Ce];refine⟨⟨(srt_list Sb).sublist (Es _ _),(srt_list Sa).sublist (Es _ _),λx hx y hy=>?_⟩,m.s,λx hx y hy=>?_⟩
  ·obtain⟨i,h1,h2,rfl⟩:=mem_take hx;obtain⟨j,g1,g2,rfl⟩:=mem_take hy;have:i=0:=by omega
   rw[this];exact H0 j g2
  ·rcases Bo.mp hx with z|z
   ·obtain⟨i,h1,h2,rfl⟩:=mem_take z;exact m.ob y hy i h1
   ·obtain⟨i,h1,h2,rfl⟩:=mem_take z;exact m.oa y hy i h1
end
end Tim
namespace Tim
noncomputable def setG:Nat->StateT SortSt Sem Unit:=sortPriv% PySem.Builtin.setMinGallop
section
variable {prog:Program}{w:World}{A:Around}{E:Value->Shared->Prop}{s:Shared}{κ:SortKind}{a₀:Array Keyed}{lt:Keyed->Keyed->Bool}{bf le:Keyed->Keyed->Prop}{st:SortSt}{pd:Array (Nat × Nat × Nat)}
structure SG (κ:SortKind) (a₀:Array Keyed) (pd:Array (Nat × Nat × Nat)) (xs:Array Keyed) (st:SortSt):Prop where
 i:SI κ a₀ pd st
 e:arrOf st=xs
theorem zo8 {xs:Array Keyed}{g:Nat}{Q:Unit->SortSt->Prop}(S:SG κ a₀ pd xs st)(h:∀st',SG κ a₀ pd xs st'->Q () st'):wpS (model prog w) A E s (setG g) Q st :=
 wpS_modify (h _ ⟨⟨S.i.kind,S.i.failed,S.i.perm,S.i.pend⟩,S.e⟩)
theorem q_lt {x y:Keyed}{Q:Option Bool->SortSt->Prop}(C:Asks prog w A E s κ a₀ lt){xs:Array Keyed}(S:SG κ a₀ pd xs st)(hx:x∈a₀.toList)(hy:y∈a₀.toList)(h:Q (some (lt x y)) st):wpS (model prog w) A E s (lt' x y) Q st:=C _ _ _ _ hx hy S.i.kind h
theorem zk8 {out a b:Array Keyed}{ia ib:Nat}:(out++a.extract ia a.size++b.extract ib b.size).toList=out.toList++a.toList.drop ia++b.toList.drop ib:=by
 rw[Bs,Bs,zje,zje]
theorem zn3 {le:Keyed->Keyed->Prop}{out a b:Array Keyed}{ia ib:Nat}(e:ib=b.size)(h:Fin le a b (out.toList++a.toList.drop ia)):Fin le a b (out++a.extract ia a.size++b.extract ib b.size).toList:=by
 subst e;rw[zk8,List.drop_of_length_le (l:=b.toList) (by simp),Bx];exact h
theorem z4o {le:Keyed->Keyed->Prop}{out a b:Array Keyed}{ia ib:Nat}(e:ia=a.size)(h:Fin le a b (out.toList++b.toList.drop ib)):Fin le a b (out++a.extract ia a.size++b.extract ib b.size).toList:=by
 subst e;rw[zk8,List.drop_of_length_le (l:=a.toList) (by simp),Bx];exact h
theorem zpi {le:Keyed->Keyed->Prop}{out a b:Array Keyed}{ia ib:Nat}(h:Fin le a b (out.toList++b.toList.drop ib++a.toList.drop ia)):Fin le a b (out++b.extract ib b.size++a.extract ia a.size).toList:=by
 rw[Bs,Bs,zje,zje];exact h
theorem q_if {α:Type}{c:Prop} [Decidable c] {x y:StateT SortSt Sem α}{Q:α->SortSt->Prop}(h1:c->wpS (model prog w) A E s x Q st)(h2:¬ c->wpS (model prog w) A E s y Q st):wpS (model prog w) A E s (if c then x else y) Q st:=by
 by_cases h:c
 ·rw[if_pos h];exact h1 h
 ·rw[if_neg h];exact h2 h
theorem ztk {α:Type}{x:StateT SortSt Sem α}{Q:α->SortSt->Prop}(h:∀Q',(∀r t,Q r t->Q' r t)->wpS (model prog w) A E s x Q' st):wpS (model prog w) A E s x Q st:=h Q λ_ _ z=>z
theorem q_eq {α β:Type}{c:β->Prop} [∀m,Decidable (c m)] {x:β->StateT SortSt Sem α}{Q:α->SortSt->Prop}{g:β->β}{f:β->StateT SortSt Sem α}(e:∀m,x m=f (g m))(h:∀u,wpS (model prog w) A E s (f u) Q st):∀m,wpS (model prog w) A E s (if c m then x m else f m) Q st:=λm=>by
 rw[e];exact q_if (λ_=>h _) λ_=>h _
theorem zwc {α β γ:Type}{c:Prop} [Decidable c] {x:β->γ->StateT SortSt Sem α}{Q:α->SortSt->Prop}{v:β}{u:γ}{f:β->γ->StateT SortSt Sem α} (P:β->γ->Prop) (h0:¬ c->P v u) (h1:c->(∀v u,P v u->wpS (model prog w) A E s (f v u) Q st)->wpS (model prog w) A E s (x v u) Q st)
  (h:∀v u,P v u->wpS (model prog w) A E s (f v u) Q st):∀v',v=v'->∀u',u=u'->wpS (model prog w) A E s (if c then x v' u' else f v' u') Q st:=by
 rintro _ rfl _ rfl;exact q_if (λk=>h1 k h) λk=>h _ _ (h0 k)
theorem MI.finA' {le:Keyed->Keyed->Prop}{a b:Array Keyed}{o:List Keyed}{ia ib:Nat}(Sb:Srt le b 0 b.size)(m:MI le a b o ia ib)(e:ia=a.size):Fin le a b (o++b.toList.drop ib):=by subst e;exact m.finA Sb
theorem MI.finB' {le:Keyed->Keyed->Prop}{a b:Array Keyed}{o:List Keyed}{ia ib:Nat}(Sa:Srt le a 0 a.size)(m:MI le a b o ia ib)(e:ib=b.size):Fin le a b (o++a.toList.drop ia):=by subst e;exact m.finB Sa
structure MP (lt:Keyed->Keyed->Bool) (bf le:Keyed->Keyed->Prop) (a₀ a b:Array Keyed):Prop where
 sa:Srt le a 0 a.size
 sb:Srt le b 0 b.size
 ma:∀i,i<a.size->G a i∈a₀.toList
 mb:∀i,i<b.size->G b i∈a₀.toList
 bf:∀i j,i<a.size->j<b.size->bf (G a i) (G b j)
 a1:1<=a.size
 b1:1<=b.size
 h0:∀i,i<a.size->le (G b 0) (G a i)
 ha:∀j,j<b.size->le (G b j) (G a (a.size - 1))
inductive Fi {γ:Type} (F:Array Keyed->Prop):Option (Array Keyed) × γ->Prop
 |mk (r:Array Keyed) (g:γ):F r->Fi F (some r,g)
structure LX (le:Keyed->Keyed->Prop) (a b:Array Keyed) (x:Nat) (out:Array Keyed) (ia ib:Nat):Prop where
 m:MI le a b out.toList ia ib
 l:ia+1<a.size
 r:ib<b.size
 s:x<=ia+ib
inductive L5 (P:Array Keyed->Nat->Nat->Prop):Option (Array Keyed) × Array Keyed × Nat × Nat × Nat->Prop
 |mk (out:Array Keyed) (ia ib mg:Nat):P out ia ib->L5 P (none,out,ia,ib,mg)
inductive L6 (P:Array Keyed->Nat->Nat->Prop):Option (Array Keyed) × Array Keyed × Nat × Nat × Nat × Nat->Prop
 |mk (out:Array Keyed) (ia ib ac bc:Nat):P out ia ib->L6 P (none,out,ia,ib,ac,bc)
inductive L7 (P:Array Keyed->Nat->Nat->Prop):Option (Array Keyed) × Array Keyed × Nat × Nat × Nat × Nat × Nat->Prop
 |mk (out:Array Keyed) (ia ib mg ac bc:Nat):P out ia ib->L7 P (none,out,ia,ib,mg,ac,bc)
theorem z74 (C:Asks prog w A E s κ a₀ lt) (O:Ord lt bf le) {a b xs:Array Keyed}{Q:Array Keyed->SortSt->Prop} (S:SG κ a₀ pd xs st) (P:MP lt bf le a₀ a b)
    (h:∀r st',SG κ a₀ pd xs st'->Fin le a b r.toList->Q r st'):wpS (model prog w) A E s (mLo a b) Q st:=by
  have leA:∀i j,i<=j->j < a.size->le (G a i) (G a j):=fun i j h1 h2=>by
    by_cases e:i=j
    · rw[e];exact O.rf _
    · exact P.sa i j (Bj _) #v[] h2
  have leB:∀i j,i<=j->j < b.size->le (G b i) (G b j):=fun i j h1 h2=>by
    by_cases e:i=j
    · rw[e];exact O.rf _
    · exact P.sb i j (Bj _) #v[] h2
  have pa:=P.a1;have pb:=P.b1;show wpS (model prog w) A E s (liftM (rule _) >>= _) Q st;refine An (wpS_lift (Eg ⟨rfl,?_⟩));refine An (zas pb ?_);have m0:MI le a b (#[G b 0]:Array Keyed).toList 0 1:=by
    have:=MI.pushB (o:=[]) (ia:=0) (ib:=0) P.sb ⟨by simp,.nil,λx hx=>by simp at hx,λx hx=>by simp at hx⟩ #v[] (λi _ h2=>P.h0 i h2);simpa using this
  dsimp only;by_cases e1:1=b.size
  · rw [if_pos (by simpa using e1)]
    refine Au (h _ _ S (zn3 e1 (m0.finB' P.sa e1)))
  rw[if_neg (by simpa using e1)];by_cases e2:0+1=a.size
  · rw [if_pos (by simpa using e2)]
    exact Au (h _ _ S (zpi (m0.finL P.sa P.sb e2 P.ha)))
  rw [if_neg (by simpa using e2)];refine An (Hv ?_);refine An (Ds (Ch (I:=fun x c s2=>SG κ a₀ pd xs s2/\L5 (LX le a b x) c)
    (Q:=λc s2=>SG κ a₀ pd xs s2/\Fi (λr=>Fin le a b r.toList) c) ?os ?of ⟨S,.mk _ 0 1 _ ⟨m0,by omega,by omega,by omega⟩⟩) ?op)
  case of =>
    rintro c s2 ⟨_,out,ia,ib,mg,b2,b3,b4,b5⟩;exfalso;omega
  case op =>
    rintro c s2 hC;refine aG λG hG=>?_;obtain⟨b1,r,g,b2⟩:=hC;refine hG ?_;clear hG;clear G;exact Au (h _ _ b1 b2)
  case os =>
    rintro x c s2 _ hx hC;refine aG fun G hG=>?_;obtain ⟨S2,out,ia,ib,mg,Z2⟩:=hC;refine hG ?_;clear hG;clear G;dsimp only;refine An (Ds (Ch (I:=fun y c s3=>s3=s2/\L6 (LX le a b x) c)
      (Q:=λc s3=>s3=s2/\(Fi (λr=>Fin le a b r.toList) c\/L6 (LX le a b x) c)) ?is1 ?if1 ⟨rfl,.mk out ia ib 0 0 Z2⟩) ?ip1)
    case if1 =>
      rintro c s3 ⟨e3,z⟩;exact⟨e3,.inr z⟩
    case is1 =>
      rintro y c s3 _ hy hC;refine aG λG hG=>?_;obtain⟨e3,out,ia,ib,ac,bc,m3,c3,c4,c5⟩:=hC;refine hG ?_;clear hG;clear G;subst e3;dsimp only;refine An (zas c4 (An (zas #v[] (An (q_lt C S2 (P.mb _ c4) (P.ma _ #v[]) ?_)))));have bb:=P.bf ia ib #v[] c4;cases q:lt (G b ib) (G a ia) with
      | true =>
        dsimp only;rw [if_pos rfl];refine An (zas c4 ?_);have m4:MI le a b (out.push (G b ib)).toList ia (ib+1):=by
          rw[Dl];exact m3.pushB P.sb c4 λi g1 g2=>O.tr (O.f2 q) (leA _ _ g1 g2)
        by_cases e:ib+1=b.size
        · rw [if_pos (by simpa using e)]
          refine Au ⟨rfl,.inl (.mk _ _ (zn3 e ?_))⟩;rw[e] at m4;exact m4.finB P.sa
        · rw [if_neg (by simpa using e)]
          split
          · exact Au ⟨rfl,.inr (.mk _ _ _ _ _ ⟨m4,c3,by omega,by omega⟩)⟩
          · exact Au ⟨rfl,.mk _ _ _ _ _ ⟨m4,c3,by omega,by omega⟩⟩
      | false =>
        dsimp only;rw [if_neg (by decide)];refine An (zas (by omega) ?_);have m4:MI le a b (out.push (G a ia)).toList (ia+1) ib:=by
          rw[Dl];exact m3.pushA P.sa #v[] λj g1 g2=>O.tr ((O.f1 bb).mp q) (leB _ _ g1 g2)
        by_cases e:ia+1+1=a.size
        · rw [if_pos (by simpa using e)]
          exact Au ⟨rfl,.inl (.mk _ _ (zpi (m4.finL P.sa P.sb e P.ha)))⟩
        · rw [if_neg (by simpa using e)]
          split
          · exact Au ⟨rfl,.inr (.mk _ _ _ _ _ ⟨m4,by omega,c4,by omega⟩)⟩
          · exact Au ⟨rfl,.mk _ _ _ _ _ ⟨m4,by omega,c4,by omega⟩⟩
    case ip1 =>
      rintro c s3 ⟨e3,z⟩;subst e3;refine aG λG hG=>?_;rcases z with⟨r,g,f⟩|⟨out,ia,ib,ac,bc,m3,c3,c4,c5⟩
      · refine hG ?_
        clear hG;clear G;exact Au ⟨S2,.mk _ _ f⟩
      · refine hG ?_
        clear hG;clear G;dsimp only;refine An (wpS_lift (Eg ⟨rfl,?_⟩));refine An (Ds (Ch (I:=fun y c s4=>SG κ a₀ pd xs s4/\L7 (LX le a b (x+y)) c)
          (Q:=λc s4=>SG κ a₀ pd xs s4/\(Fi (λr=>Fin le a b r.toList) c\/L7 (LX le a b (x+1)) c)) ?gs ?gf ⟨S2,.mk out ia ib _ ac bc ⟨m3,c3,c4,by omega⟩⟩) ?gp)
        case gf =>
          rintro c s4 ⟨S4,out,ia,ib,mg,ac,bc,m4,d3,d4,d5⟩;exact⟨S4,.inr (.mk _ _ _ _ _ _ ⟨m4,d3,d4,by omega⟩)⟩
        case gp =>
          rintro c s4 ⟨S4,z⟩;refine aG λG hG=>?_;rcases z with⟨r,g,f⟩|⟨out,ia,ib,mg,ac,bc,Z4⟩
          · refine hG ?_
            clear hG;clear G;exact Au ⟨S4,.mk _ _ f⟩
          · refine hG ?_
            clear hG;clear G;dsimp only;exact An (zo8 S4 λs5 S5=>Au ⟨S5,.mk _ _ _ _ Z4⟩)
        case gs =>
          rintro y c s4 _ hy hC;refine aG λG hG=>?_;obtain⟨S4,out,ia,ib,mg,ac,bc,m4,d3,d4,d5⟩:=hC;refine hG ?_;clear hG;clear G;simp (config:={ maxSteps:=10000000,failIfUnchanged:=false }) only [];refine ztk λQ' hQ=>?_;generalize mg=mg
          revert mg
          refine q_eq (g:=λmg=>mg - 1) (λ_=>rfl) λmg=>?_;dsimp (config:={ failIfUnchanged:=false }) only;refine An (zo8 S4 λs5 S5=>An (zas d4 (An (zqr (left:=false) (key:=G b ib) (arr:=a) (base:=ia) (n:=a.size - ia) (hint:=0) (B:=λi=>!lt (G b ib) (G a (ia+i))) C S5.i.kind (P.mb _ d4) #v[] (λi hi=>P.ma _ #v[]) (λi hi=>rfl) (λi j h1 h2 h3=>?mono1) #v[] λk k1 k2 k3=>?_))))
          case mono1 =>
            have h3' : lt (G b ib) (G a (ia+j))=false:=by simpa using h3
            have l1:=(O.f1 (P.bf (ia+j) ib #v[] d4)).mp h3';have l2:=(O.f1 (P.bf (ia+i) ib #v[] d4)).mpr (O.tr (leA _ _ #v[] #v[]) l1);show (!lt (G b ib) (G a (ia+i)))=true;rw[l2];rfl
          have w1:∀i,ia<=i->i < ia+k->le (G a i) (G b ib):=fun i g1 g2=>by
            have:=k2 (i - ia) #v[];rw[Gq g1] at this;exact (O.f1 (P.bf i ib #v[] d4)).mp (by simpa using this)
          have w2:∀i,ia+k<=i->i < a.size->le (G b ib) (G a i):=fun i g1 g2=>by
            have:=k3 (i - ia) #v[] #v[];rw[Gq (Bv (Ec _ _) g1)] at this;exact O.f2 (by simpa using this)
          have m5:MI le a b (out++a.extract ia (ia+k)).toList (ia+k) ib:=by
            rw[Bs,zcv,Nat.add_sub_cancel_left];exact m4.appA P.sa k #v[] λi g1 g2 j g3 g4=>O.tr (w1 i g1 g2) (leB _ _ g3 g4)
          dsimp (config:={ failIfUnchanged:=false }) only;generalize eou:out=out'
          revert out'
          generalize ena:ia=na'
          revert na'
          refine zwc (λia1 out1=>MI le a b out1.toList ia1 ib/\(∀i,ia1<=i->i<a.size->le (G b ib) (G a i))/\ia1+1<a.size/\x+y<=ia1+ib) (λhk0=>?_) (λhc H=>?_) λia1 out1 ⟨n5,u1,b6,p6⟩=>?_
          · have k0 : k = 0 := by omega
            subst k0;exact⟨m4,w2,d3,d5⟩
          · refine q_if (fun e1 => ?_) fun e1 => ?_
            · have e1 : ia + k + 1 = a.size := by simpa using e1
              exact Au (hQ _ _ ⟨S5,.inl (.mk _ _ (zpi (m5.finL P.sa P.sb e1 P.ha)))⟩)
            have e1:¬ ia+k+1=a.size:=by simpa using e1
            refine q_if (λe2=>?_) λe2=>?_
            · have e2 : ia + k = a.size := by simpa using e2
              exact Au (hQ _ _ ⟨S5,.inl (.mk _ _ (z4o e2 (m5.finA' P.sb e2)))⟩)
            have e2:¬ ia+k=a.size:=by simpa using e2
            exact H _ _ ⟨m5,w2,by omega,by omega⟩
          clear m5 m4 w2 w1 k3 k2 k1;dsimp (config:={ failIfUnchanged:=false }) only;refine An (zas d4 ?_);have m6:MI le a b (out1.push (G b ib)).toList ia1 (ib+1):=by
            rw[Dl];exact n5.pushB P.sb d4 u1
          refine q_if (λe3=>?_) λe3=>?_
          · have e3 : ib + 1 = b.size := by simpa using e3
            exact Au (hQ _ _ ⟨S5,.inl (.mk _ _ (zn3 e3 (m6.finB' P.sa e3)))⟩)
          have e3:¬ ib+1=b.size:=by simpa using e3
          refine An (zas #v[] (An (zqr (left:=true) (key:=G a ia1) (arr:=b) (base:=ib+1) (n:=b.size - (ib+1)) (hint:=0) (B:=λj=>lt (G b (ib+1+j)) (G a ia1)) C S5.i.kind (P.ma _ #v[]) #v[] (λj hj=>P.mb _ #v[]) (λj hj=>rfl) (λi j h1 h2 h3=>?mono2) #v[] λl l1 l2 l3=>?_)))
          case mono2 =>
            have n1:=O.f3 (P.bf ia1 (ib+1+j) #v[] #v[]) h3;cases q:lt (G b (ib+1+i)) (G a ia1) with
            |true=>rfl
            |false=>exact absurd (O.tr ((O.f1 (P.bf ia1 (ib+1+i) #v[] #v[])).mp q) (leB _ _ #v[] #v[])) n1
          have v1:∀j,ib+1<=j->j < ib+1+l->le (G b j) (G a ia1):=fun j g1 g2=>by
            have:=l2 (j - (ib+1)) #v[];rw[Gq g1] at this;exact O.f2 this
          have v2:∀j,ib+1+l<=j->j < b.size->le (G a ia1) (G b j):=fun j g1 g2=>by
            have:=l3 (j - (ib+1)) #v[] #v[];rw[Gq (Bv (Ec _ _) g1)] at this;exact (O.f1 (P.bf ia1 j #v[] g2)).mp this
          have m7:MI le a b (out1.push (G b ib)++b.extract (ib+1) (ib+1+l)).toList ia1 (ib+1+l):=by
            rw[Bs,zcv,Nat.add_sub_cancel_left];exact m6.appB P.sb l #v[] λj g1 g2 i g3 g4=>O.tr (v1 j g1 g2) (leA _ _ g3 g4)
          dsimp (config:={ failIfUnchanged:=false }) only;generalize hnb:ib+1=ib1 at m7 m6 v2 e3 ⊢;generalize hout:out1.push (G b ib)=out2 at m7 m6 ⊢;generalize eou:out2=out'
          revert out'
          generalize ena:ib1=na'
          revert na'
          refine zwc (λib2 out2=>MI le a b out2.toList ia1 ib2/\(∀j,ib2<=j->j<b.size->le (G a ia1) (G b j))/\ib2<b.size/\x+y+1<=ia1+ib2) (λhl0=>?_) (λhc H=>?_) λib2 out3 ⟨n7,u2,b7,p7⟩=>?_
          · have k0 : l = 0 := by omega
            subst k0;exact⟨m6,v2,by omega,by omega⟩
          · refine q_if (fun e4 => ?_) fun e4 => ?_
            · have e4 : ib1 + l = b.size := by simpa using e4
              exact Au (hQ _ _ ⟨S5,.inl (.mk _ _ (zn3 e4 (m7.finB' P.sa e4)))⟩)
            have e4:¬ ib1+l=b.size:=by simpa using e4
            exact H _ _ ⟨m7,v2,by omega,by omega⟩
          dsimp (config:={ failIfUnchanged:=false }) only;refine An (zas (by omega) ?_);have m8:MI le a b (out3.push (G a ia1)).toList (ia1+1) ib2:=by
            rw[Dl];exact n7.pushA P.sa #v[] u2
          refine q_if (λe5=>?_) λe5=>?_
          · have e5 : ia1 + 1 + 1 = a.size := by simpa using e5
            exact Au (hQ _ _ ⟨S5,.inl (.mk _ _ (zpi (m8.finL P.sa P.sb e5 P.ha)))⟩)
          have e5:¬ ia1+1+1=a.size:=by simpa using e5
          refine q_if (λ_=>?_) λ_=>?_
          · exact Au (hQ _ _ ⟨S5,.inr (.mk _ _ _ _ _ _ ⟨m8,by omega,b7,by omega⟩)⟩)
          · exact Au (hQ _ _ ⟨S5,.mk _ _ _ _ _ _ ⟨m8,by omega,b7,by omega⟩⟩)
end
end Tim
namespace Tim
section
variable {prog:Program}{w:World}{A:Around}{E:Value->Shared->Prop}{s:Shared}{κ:SortKind}{a₀:Array Keyed}{lt:Keyed->Keyed->Bool}{bf le:Keyed->Keyed->Prop}{st:SortSt}{pd:Array (Nat × Nat × Nat)}
variable {a b out:Array Keyed}{o:List Keyed}{na nb at_:Nat}
theorem MH.pushA' (Sa:Srt le a 0 a.size)(m:MH le a b out.toList.reverse na nb)(h1:1<=na)(h:na<=a.size)(hb:∀j,j<nb->le (G b j) (G a (na - 1))):MH le a b (out.push (G a (na - 1))).toList.reverse (na - 1) nb:=by
 obtain⟨n,rfl⟩ : ∃n,na=n+1:=⟨na - 1,by omega⟩;rw[Dl,Gr];exact m.pushA Sa #v[] hb
theorem MH.pushB' (Sb:Srt le b 0 b.size)(m:MH le a b out.toList.reverse na nb)(h1:1<=nb)(h:nb<=b.size)(ha:∀i,i<na->le (G a i) (G b (nb - 1))):MH le a b (out.push (G b (nb - 1))).toList.reverse na (nb - 1):=by
 obtain⟨n,rfl⟩ : ∃n,nb=n+1:=⟨nb - 1,by omega⟩;rw[Dl,Gr];exact m.pushB Sb #v[] ha
theorem zts (x:Array Keyed)(i j:Nat):(out++(x.extract i j).reverse).toList.reverse=(x.toList.drop i).take (j - i)++out.toList.reverse:=by
 rw[Bs,Gr,Gi,List.reverse_reverse,zcv]
theorem MH.appA' (Sa:Srt le a 0 a.size)(m:MH le a b out.toList.reverse na nb)(h1:at_<=na)(h:na<=a.size)(hb:∀i,at_<=i->i<na->∀j,j<nb->le (G b j) (G a i)):MH le a b (out++(a.extract at_ na).reverse).toList.reverse at_ nb:=by
 rw[zts];obtain⟨k,rfl⟩ : ∃k,na=at_+k:=⟨na - at_,by omega⟩;rw[show at_+k - at_=k by omega];exact MH.appA Sa k at_ m h hb
theorem MH.appB' (Sb:Srt le b 0 b.size)(m:MH le a b out.toList.reverse na nb)(h1:at_<=nb)(h:nb<=b.size)(ha:∀j,at_<=j->j<nb->∀i,i<na->le (G a i) (G b j)):MH le a b (out++(b.extract at_ nb).reverse).toList.reverse na at_:=by
 rw[zts];obtain⟨k,rfl⟩ : ∃k,nb=at_+k:=⟨nb - at_,by omega⟩;rw[show at_+k - at_=k by omega];exact MH.appB Sb k at_ m h ha
theorem zdu (x:Array Keyed)(n:Nat):(x.extract 0 n).toList=x.toList.take n:=by rw[zcv,Ey,Nat.sub_zero]
theorem MH.done0 (Sb:Srt le b 0 b.size)(m:MH le a b out.toList.reverse na nb)(e:na=0):Fin le a b (a.extract 0 na++b.extract 0 nb++out.reverse).toList:=by
 subst e;rw[Bs,Bs,zdu,zdu,Ev,Gm,Gi];exact m.finA Sb
theorem MH.done1 (Sa:Srt le a 0 a.size)(m:MH le a b out.toList.reverse na nb)(e:nb=0):Fin le a b (a.extract 0 na++b.extract 0 nb++out.reverse).toList:=by
 subst e;rw[Bs,Bs,zdu,zdu,Ev,Bx,Gi];exact m.finB Sa
theorem MH.first (Sa:Srt le a 0 a.size)(Sb:Srt le b 0 b.size)(m:MH le a b out.toList.reverse na nb)(e:nb=1)(H0:∀i,i<a.size->le (G b 0) (G a i)):Fin le a b (b.extract 0 nb++a.extract 0 na++out.reverse).toList:=by
 subst e;rw[Bs,Bs,zdu,zdu,Gi];exact m.finF Sa Sb H0
structure HX (le:Keyed->Keyed->Prop) (a b:Array Keyed) (x:Nat) (out:Array Keyed) (na nb:Nat):Prop where
 m:MH le a b out.toList.reverse na nb
 l:1<=na
 r:2<=nb
 s:na<=a.size
 t:nb<=b.size
 u:x+na+nb<=a.size+b.size
inductive H5 (P:Array Keyed->Nat->Nat->Prop):Option (Array Keyed) × Nat × Nat × Array Keyed × Nat->Prop
 |mk (out:Array Keyed) (na nb mg:Nat):P out na nb->H5 P (none,na,nb,out,mg)
inductive H6 (P:Array Keyed->Nat->Nat->Prop):Option (Array Keyed) × Nat × Nat × Array Keyed × Nat × Nat->Prop
 |mk (out:Array Keyed) (na nb ac bc:Nat):P out na nb->H6 P (none,na,nb,out,ac,bc)
inductive H7 (P:Array Keyed->Nat->Nat->Prop):Option (Array Keyed) × Nat × Nat × Array Keyed × Nat × Nat × Nat->Prop
 |mk (out:Array Keyed) (na nb mg ac bc:Nat):P out na nb->H7 P (none,na,nb,out,mg,ac,bc)
theorem z7s (C:Asks prog w A E s κ a₀ lt) (O:Ord lt bf le) {a b xs:Array Keyed}{Q:Array Keyed->SortSt->Prop} (S:SG κ a₀ pd xs st) (P:MP lt bf le a₀ a b)
    (h:∀r st',SG κ a₀ pd xs st'->Fin le a b r.toList->Q r st'):wpS (model prog w) A E s (mHi a b) Q st:=by
  have leA:∀i j,i<=j->j < a.size->le (G a i) (G a j):=fun i j h1 h2=>by
    by_cases e:i=j
    · rw[e];exact O.rf _
    · exact P.sa i j (Bj _) #v[] h2
  have leB:∀i j,i<=j->j < b.size->le (G b i) (G b j):=fun i j h1 h2=>by
    by_cases e:i=j
    · rw[e];exact O.rf _
    · exact P.sb i j (Bj _) #v[] h2
  have pa:=P.a1;have pb:=P.b1;show wpS (model prog w) A E s (liftM (rule _) >>= _) Q st;refine An (wpS_lift (Eg ⟨rfl,?_⟩));refine An (zas (show a.size - 1 < a.size by omega) ?_);have m0:MH le a b (#[G a (a.size - 1)]:Array Keyed).toList.reverse (a.size - 1) b.size:=by
    have:=MH.pushA' (out:=#[]) (na:=a.size) (nb:=b.size) (a:=a) (b:=b) P.sa ⟨by simp,.nil,λx hx=>by simp at hx,λx hx=>by simp at hx⟩ pa (Af _) P.ha;simpa using this
  dsimp only;by_cases e1:a.size - 1=0
  · rw [if_pos (by simpa using e1)]
    exact Au (h _ _ S (m0.done0 P.sb e1))
  rw[if_neg (by simpa using e1)];by_cases e2:b.size=1
  · rw [if_pos (by simpa using e2)]
    exact Au (h _ _ S (m0.first P.sa P.sb e2 P.h0))
  rw [if_neg (by simpa using e2)];refine An (Hv ?_);refine An (Ds (Ch (I:=fun x c s2=>SG κ a₀ pd xs s2/\H5 (HX le a b x) c)
    (Q:=λc s2=>SG κ a₀ pd xs s2/\Fi (λr=>Fin le a b r.toList) c) ?os ?of ⟨S,.mk _ (a.size - 1) b.size _ ⟨m0,by omega,by omega,by omega,by omega,by omega⟩⟩) ?op)
  case of =>
    rintro c s2 ⟨_,out,na,nb,mg,b2,b3,b4,b5,b6,b7⟩;exfalso;omega
  case op =>
    rintro c s2 hC;refine aG λG hG=>?_;obtain⟨b1,r,g,b2⟩:=hC;refine hG ?_;clear hG;clear G;exact Au (h _ _ b1 b2)
  case os =>
    rintro x c s2 _ hx hC;refine aG fun G hG=>?_;obtain ⟨S2,out,na,nb,mg,Z2⟩:=hC;refine hG ?_;clear hG;clear G;dsimp only;refine An (Ds (Ch (I:=fun y c s3=>s3=s2/\H6 (HX le a b x) c)
      (Q:=λc s3=>s3=s2/\(Fi (λr=>Fin le a b r.toList) c\/H6 (HX le a b x) c)) ?is1 ?if1 ⟨rfl,.mk out na nb 0 0 Z2⟩) ?ip1)
    case if1 =>
      rintro c s3 ⟨e3,z⟩;exact⟨e3,.inr z⟩
    case is1 =>
      rintro y c s3 _ hy hC;refine aG λG hG=>?_;obtain⟨e3,out,na,nb,ac,bc,m3,c3,c4,c5,c6,c7⟩:=hC;refine hG ?_;clear hG;clear G;subst e3;dsimp only;refine An (zas #v[] (An (zas #v[] (An (q_lt C S2 (P.mb _ #v[]) (P.ma _ #v[]) ?_)))));have bb:=P.bf (na - 1) (nb - 1) #v[] #v[];cases q:lt (G b (nb - 1)) (G a (na - 1)) with
      | true =>
        dsimp only;rw[if_pos rfl];refine An (zas #v[] ?_);have m4:=m3.pushA' P.sa c3 c5 λj g=>O.tr (leB j (nb - 1) #v[] #v[]) (O.f2 q);by_cases e:na - 1=0
        · rw [if_pos (by simpa using e)]
          exact Au ⟨rfl,.inl (.mk _ _ (m4.done0 P.sb e))⟩
        · rw [if_neg (by simpa using e)]
          split
          · exact Au ⟨rfl,.inr (.mk _ _ _ _ _ ⟨m4,by omega,by omega,by omega,by omega,by omega⟩)⟩
          · exact Au ⟨rfl,.mk _ _ _ _ _ ⟨m4,by omega,by omega,by omega,by omega,by omega⟩⟩
      | false =>
        dsimp only;rw[if_neg #v[0,9]];refine An (zas #v[] ?_);have m4:=m3.pushB' P.sb #v[] c6 λi g=>O.tr (leA i (na - 1) #v[] #v[]) ((O.f1 bb).mp q);by_cases e:nb - 1=1
        · rw [if_pos (by simpa using e)]
          exact Au ⟨rfl,.inl (.mk _ _ (m4.first P.sa P.sb e P.h0))⟩
        · rw [if_neg (by simpa using e)]
          split
          · exact Au ⟨rfl,.inr (.mk _ _ _ _ _ ⟨m4,by omega,by omega,by omega,by omega,by omega⟩)⟩
          · exact Au ⟨rfl,.mk _ _ _ _ _ ⟨m4,by omega,by omega,by omega,by omega,by omega⟩⟩
    case ip1 =>
      rintro c s3 ⟨e3,z⟩;subst e3;refine aG λG hG=>?_;rcases z with⟨r,g,f⟩|⟨out,na,nb,ac,bc,m3,c3,c4,c5,c6,c7⟩
      · refine hG ?_
        clear hG;clear G;exact Au ⟨S2,.mk _ _ f⟩
      · refine hG ?_
        clear hG;clear G;dsimp only;refine An (wpS_lift (Eg ⟨rfl,?_⟩));refine An (Ds (Ch (I:=fun y c s4=>SG κ a₀ pd xs s4/\H7 (HX le a b (x+y)) c)
          (Q:=λc s4=>SG κ a₀ pd xs s4/\(Fi (λr=>Fin le a b r.toList) c\/H7 (HX le a b (x+1)) c)) ?gs ?gf ⟨S2,.mk out na nb _ ac bc ⟨m3,c3,c4,c5,c6,by omega⟩⟩) ?gp)
        case gf =>
          rintro c s4 ⟨S4,out,na,nb,mg,ac,bc,m4,d3,d4,d5,d6,d7⟩;exact⟨S4,.inr (.mk _ _ _ _ _ _ ⟨m4,d3,d4,d5,d6,by omega⟩)⟩
        case gp =>
          rintro c s4 ⟨S4,z⟩;refine aG λG hG=>?_;rcases z with⟨r,g,f⟩|⟨out,na,nb,mg,ac,bc,Z4⟩
          · refine hG ?_
            clear hG;clear G;exact Au ⟨S4,.mk _ _ f⟩
          · refine hG ?_
            clear hG;clear G;dsimp only;exact An (zo8 S4 λs5 S5=>Au ⟨S5,.mk _ _ _ _ Z4⟩)
        case gs =>
          rintro y c s4 _ hy hC;refine aG λG hG=>?_;obtain⟨S4,out,na,nb,mg,ac,bc,m4,d3,d4,d5,d6,d7⟩:=hC;refine hG ?_;clear hG;clear G;simp (config:={ maxSteps:=10000000,failIfUnchanged:=false }) only [];refine ztk λQ' hQ=>?_;generalize mg=mg
          revert mg
          refine q_eq (g:=λmg=>mg - 1) (λ_=>rfl) λmg=>?_;dsimp (config:={ failIfUnchanged:=false }) only;refine An (zo8 S4 λs5 S5=>An (zas (show nb - 1<b.size by omega) (An (zqr (left:=false) (key:=G b (nb - 1)) (arr:=a) (base:=0) (n:=na) (hint:=na - 1) (B:=λi=>!lt (G b (nb - 1)) (G a (0+i))) C S5.i.kind (P.mb _ #v[]) #v[] (λi hi=>P.ma _ #v[]) (λi hi=>rfl) (λi j h1 h2 h3=>?mono1) #v[] λk k1 k2 k3=>?_))))
          case mono1 =>
            have h3' : lt (G b (nb - 1)) (G a (0+j))=false:=by simpa using h3
            have l1:=(O.f1 (P.bf (0+j) (nb - 1) #v[] #v[])).mp h3';have l2:=(O.f1 (P.bf (0+i) (nb - 1) #v[] #v[])).mpr (O.tr (leA _ _ #v[] #v[]) l1);show (!lt (G b (nb - 1)) (G a (0+i)))=true;rw[l2];rfl
          have w1:∀i,i < k->le (G a i) (G b (nb - 1)):=fun i g1=>by
            have:=k2 i g1;rw[Cf] at this;exact (O.f1 (P.bf i (nb - 1) #v[] #v[])).mp (by simpa using this)
          have w2:∀i,k<=i->i < na->le (G b (nb - 1)) (G a i):=fun i g1 g2=>by
            have:=k3 i #v[] #v[];rw[Cf] at this;exact O.f2 (by simpa using this)
          have m5:=m4.appA' P.sa k1 d5 λi g1 g2 j g3=>O.tr (leB j (nb - 1) #v[] #v[]) (w2 i g1 g2);dsimp (config:={ failIfUnchanged:=false }) only;generalize hac:na - k=ac1 at m5 ⊢;generalize eou:out=out'
          revert out'
          generalize ena:na=na'
          revert na'
          refine zwc (λna1 out1=>MH le a b out1.toList.reverse na1 nb/\(∀i,i<na1->le (G a i) (G b (nb - 1)))/\(1<=na1/\na1<=a.size)/\x+y+na1+nb<=a.size+b.size) (λhk0=>?_) (λhc H=>?_) λna1 out1 ⟨n5,u1,b8,p6⟩=>?_
          · have k0 : k = na := by omega
            exact⟨m4,k0 ▸ w1,by omega,by omega⟩
          · refine q_if (fun e1 => ?_) fun e1 => ?_
            · have e1 : k = 0 := by simpa using e1
              exact Au (hQ _ _ ⟨S5,.inl (.mk _ _ (m5.done0 P.sb e1))⟩)
            have e1:¬ k=0:=by simpa using e1
            exact H _ _ ⟨m5,w1,by omega,by omega⟩
          clear m5 m4 w2 w1 k3 k2 k1 hac;dsimp (config:={ failIfUnchanged:=false }) only;refine An (zas #v[] ?_);have m6:=n5.pushB' P.sb #v[] d6 u1;refine q_if (λe3=>?_) λe3=>?_
          · have e3 : nb - 1 = 1 := by simpa using e3
            exact Au (hQ _ _ ⟨S5,.inl (.mk _ _ (m6.first P.sa P.sb e3 P.h0))⟩)
          have e3:¬ nb - 1=1:=by simpa using e3
          refine An (zas (show na1 - 1<a.size by omega) (An (zqr (left:=true) (key:=G a (na1 - 1)) (arr:=b) (base:=0) (n:=nb - 1) (hint:=nb - 1 - 1) (B:=λj=>lt (G b (0+j)) (G a (na1 - 1))) C S5.i.kind (P.ma _ #v[]) #v[] (λj hj=>P.mb _ #v[]) (λj hj=>rfl) (λi j h1 h2 h3=>?mono2) #v[] λl l1 l2 l3=>?_)))
          case mono2 =>
            have n1:=O.f3 (P.bf (na1 - 1) (0+j) #v[] #v[]) h3;cases q:lt (G b (0+i)) (G a (na1 - 1)) with
            |true=>rfl
            |false=>exact absurd (O.tr ((O.f1 (P.bf (na1 - 1) (0+i) #v[] #v[])).mp q) (leB _ _ #v[] #v[])) n1
          have v1:∀j,j < l->le (G b j) (G a (na1 - 1)):=fun j g1=>by
            have:=l2 j g1;rw[Cf] at this;exact O.f2 this
          have v2:∀j,l<=j->j < nb - 1->le (G a (na1 - 1)) (G b j):=fun j g1 g2=>by
            have:=l3 j #v[] #v[];rw[Cf] at this;exact (O.f1 (P.bf (na1 - 1) j #v[] #v[])).mp this
          have m7:=m6.appB' P.sb l1 #v[] λj g1 g2 i g3=>O.tr (leA i (na1 - 1) #v[] #v[]) (v2 j g1 g2);dsimp (config:={ failIfUnchanged:=false }) only;generalize hbc:nb - 1 - l=bc1 at m7 ⊢;generalize hnb:nb - 1=nb1 at hbc m7 m6 ⊢;generalize hout:out1.push (G b nb1)=out2 at m7 m6 ⊢;generalize eou:out2=out'
          revert out'
          generalize ena:nb1=na'
          revert na'
          refine zwc (λnb2 out2=>MH le a b out2.toList.reverse na1 nb2/\(∀j,j<nb2->le (G b j) (G a (na1 - 1)))/\(2<=nb2/\nb2<=b.size)/\x+y+1+na1+nb2<=a.size+b.size) (λhl0=>?_) (λhc H=>?_) λnb2 out3 ⟨n7,u2,b7,p7⟩=>?_
          · have k0 : l = nb1 := by omega
            exact⟨m6,k0 ▸ v1,by omega,by omega⟩
          · refine q_if (fun e4 => ?_) fun e4 => ?_
            · have e4 : l = 1 := by simpa using e4
              exact Au (hQ _ _ ⟨S5,.inl (.mk _ _ (m7.first P.sa P.sb e4 P.h0))⟩)
            have e4:¬ l=1:=by simpa using e4
            refine q_if (λe6=>?_) λe6=>?_
            · have e6 : l = 0 := by simpa using e6
              exact Au (hQ _ _ ⟨S5,.inl (.mk _ _ (m7.done1 P.sa e6))⟩)
            have e6:¬ l=0:=by simpa using e6
            exact H _ _ ⟨m7,v1,by omega,by omega⟩
          dsimp (config:={ failIfUnchanged:=false }) only;refine An (zas #v[] ?_);have m8:=n7.pushA' P.sa b8.1 b8.2 u2;refine q_if (λe5=>?_) λe5=>?_
          · have e5 : na1 - 1 = 0 := by simpa using e5
            exact Au (hQ _ _ ⟨S5,.inl (.mk _ _ (m8.done0 P.sb e5))⟩)
          have e5:¬ na1 - 1=0:=by simpa using e5
          refine q_if (λ_=>?_) λ_=>?_
          · exact Au (hQ _ _ ⟨S5,.inr (.mk _ _ _ _ _ _ ⟨m8,by omega,by omega,by omega,by omega,by omega⟩)⟩)
          · exact Au (hQ _ _ ⟨S5,.mk _ _ _ _ _ _ ⟨m8,by omega,by omega,by omega,by omega,by omega⟩⟩)
end
end Tim
namespace Tim
noncomputable def wr (xs:Array Keyed) (s0:Nat) (l:List Keyed) (m:Nat):Array Keyed:=(l.zipIdx m).foldl (λa (x:Keyed × Nat)=>match x with|(p,j)=>a.setIfInBounds (s0+j) p) xs
theorem zr9 (xs:Array Keyed)(s0:Nat)(p:Keyed)(l:List Keyed)(m:Nat):wr xs s0 (p::l) m=wr (xs.setIfInBounds (s0+m) p) s0 l (m+1):=by unfold wr;rw[List.zipIdx_cons,List.foldl_cons]
theorem zu1 (s0:Nat):∀(l:List Keyed) (m:Nat) (xs:Array Keyed),(wr xs s0 l m).size=xs.size
 |[],m,xs=>rfl
 |p::l,m,xs=>by rw[zr9,zu1 s0 l,Array.size_setIfInBounds]
theorem z8d {xs:Array Keyed}{i k:Nat}{p:Keyed}(h:i<xs.size):G (xs.setIfInBounds i p) k=if i=k then p else G xs k:=by
 unfold G;rw[Array.getElem?_setIfInBounds];split
 ·rename_i e;subst e
  first|rfl|(rw[if_pos h];rfl)
 ·rfl
theorem G_wr (s0:Nat):∀(l:List Keyed) (m:Nat) (xs:Array Keyed),s0+m+l.length<=xs.size->∀i,G (wr xs s0 l m) i=if s0+m<=i/\i < s0+m+l.length then (l[i - (s0+m)]?).getD d0 else G xs i
  |[],m,xs,h,i=>by rw[if_neg (by simp)];rfl
  | p::l,m,xs,h,i=>by
    rw[Ba] at h;rw[zr9,G_wr s0 l (m+1) _ (by rw[Array.size_setIfInBounds];omega),z8d #v[]];rw[Ba];by_cases c:i=s0+m
    · subst c
      rw[if_neg #v[],if_pos rfl,if_pos ⟨by omega,by omega⟩,Nat.sub_self]
      rfl
    · by_cases c2 : s0 + m ≤ i /\ i < s0 + m + (l.length + 1)
      · rw[if_pos ⟨by omega,by omega⟩,if_pos c2,show i - (s0+m)=i - (s0+(m+1))+1 by omega,Ed]
      · rw[if_neg #v[],if_neg #v[],if_neg c2]
theorem zou {xs:Array Keyed}{i:Nat}(h:i<xs.size):G xs i=xs[i]:=by unfold G;rw[getElem?_pos xs i h];rfl
theorem zo4 {xs:Array Keyed}{i j k:Nat}(hj:j<=xs.size)(hk:i+k<j):G (xs.extract i j) k=G xs (i+k):=by
 have h:k<(xs.extract i j).size:=by rw[Array.size_extract];omega
 rw[zou h,Array.getElem_extract,zou #v[]]
theorem zdp {xs:Array Keyed}{i j:Nat}(hj:j<=xs.size):(xs.extract i j).size=j - i:=by rw[Array.size_extract];omega
theorem z7c {xs:Array Keyed}{s0 m e:Nat}{r:List Keyed}(h1:s0<=m)(h2:m<=e)(h3:e<=xs.size)(p:r.Perm ((xs.extract s0 m).toList++(xs.extract m e).toList)):Re xs (wr xs s0 r 0) s0 e/\r.length=e - s0:=by
 have hl:r.length=e - s0:=by
  rw[p.length_eq,Bb,Bp,Bp,zdp #v[],zdp h3];omega
 have hg:=G_wr s0 r 0 xs #v[];refine⟨⟨?_,λi hi=>?_,λi g1 g2=>?_⟩,hl⟩
 ·have e1:(wr xs s0 r 0).toList=xs.toList.take s0++r++xs.toList.drop e:=by
   apply Dk;intro i;have sz:(wr xs s0 r 0).size=xs.size:=zu1 _ _ _ _;by_cases hi:i<xs.size
   ·have a1 : (wr xs s0 r 0).toList[i]? = some (G (wr xs s0 r 0) i):=G_list #v[];rw[a1,hg i];by_cases c1:i<s0
    ·rw[if_neg #v[],Az,Db (by simp;omega),List.getElem?_take_of_lt c1,G_list hi]
    ·by_cases c2 : i<e
     ·rw[if_pos ⟨by omega,by omega⟩,Az,Ew (by simp; omega),Db (by simp; omega)];have:(List.take s0 xs.toList).length=s0:=by simp;omega
      rw[this,Nat.add_zero,Ae #v[]]
      rfl
     ·rw[if_neg #v[],Ew (by simp; omega),List.getElem?_drop];have:(List.take s0 xs.toList++r).length=e:=by simp;omega
      rw[this,show e+(i - e)=i by omega,G_list hi]
   ·rw[Ck (by simp;omega),Ck (by simp;omega)]
  have e2:xs.toList=xs.toList.take s0++((xs.extract s0 m).toList++(xs.extract m e).toList)++xs.toList.drop e:=by
   rw[zcv,zcv];have t1:(xs.toList.drop s0).take (m - s0)++(xs.toList.drop m).take (e - m)=(xs.toList.drop s0).take (e - s0):=by
    rw[show e - s0=(m - s0)+(e - m) by omega,List.take_add,List.drop_drop,show s0+(m - s0)=m by omega]
   rw[t1,Az];have t2:(xs.toList.drop s0).take (e - s0)++xs.toList.drop e=xs.toList.drop s0:=by
    have:=Bq (e - s0) (xs.toList.drop s0);rw[List.drop_drop,show s0+(e - s0)=e by omega] at this;exact this
   rw[t2,Bq]
  refine Fc.mpr ?_;rw[e1];have q:=(p.append_left (xs.toList.take s0)).append_right (xs.toList.drop e);rw[<-e2] at q;exact q
 ·rw[hg i,if_neg #v[]]
 ·rw[hg i,if_pos ⟨by omega,by omega⟩,Ae #v[]];have hm:=p.mem_iff.mp (List.getElem_mem (l:=r) (n:=i - (s0+0)) #v[]);show ∃j,s0<=j/\j<e/\r[i - (s0+0)]=G xs j;rcases Bo.mp hm with z|z
  ·obtain⟨k,k1,k2,k3⟩:=mem_drop (n:=0) (by rw[Ey]; exact z);rw[zdp #v[]] at k2;exact⟨s0+k,by omega,by omega,by rw[k3,zo4 #v[] #v[]]⟩
  ·obtain⟨k,k1,k2,k3⟩:=mem_drop (n:=0) (by rw[Ey]; exact z);rw[zdp h3] at k2;exact⟨m+k,by omega,by omega,by rw[k3,zo4 h3 #v[]]⟩
section
variable (bf le:Keyed->Keyed->Prop)
noncomputable def Chain (xs:Array Keyed):Nat->List (Nat × Nat × Nat)->Nat->Prop
 |c,[],hi=>c=hi
 |c,(s0,n,_)::r,hi=>s0=c/\1<=n/\Srt le xs c (c+n)/\Cut bf xs c/\Chain xs (c+n) r hi
end
section
variable {bf le:Keyed->Keyed->Prop}{xs ys:Array Keyed}
theorem Chain.len:∀{l:List (Nat × Nat × Nat)}{c hi:Nat},Chain bf le xs c l hi->c+l.length<=hi
  |[],c,hi,h=>by cases h;simp
  | (s0,n,_)::r,c,hi,h=>by
    have:=Chain.len h.2.2.2.2;have:=h.2.1;rw[Ba];omega
theorem Chain.app:∀{l l' : List (Nat × Nat × Nat)}{c hi:Nat},Chain bf le xs c (l++l') hi↔∃m,Chain bf le xs c l m/\Chain bf le xs m l' hi
 |[],l',c,hi=>⟨λh=>⟨c,rfl,h⟩,λ⟨m,e,h⟩=>by cases e;exact h⟩
 | (s0,n,_)::r,l',c,hi=>⟨fun ⟨a1,a2,a3,a4,a5⟩=>by
   obtain⟨m,b1,b2⟩:=Chain.app.mp a5;exact⟨m,⟨a1,a2,a3,a4,b1⟩,b2⟩,λ⟨m,⟨a1,a2,a3,a4,b1⟩,b2⟩=>⟨a1,a2,a3,a4,Chain.app.mpr ⟨m,b1,b2⟩⟩⟩
theorem Chain.re:∀{l:List (Nat × Nat × Nat)}{c hi lo' hi' : Nat},Chain bf le xs c l hi->Re xs ys lo' hi'->hi'<=xs.size->(hi<=lo'\/hi'<=c)->Chain bf le ys c l hi
  |[],c,hi,lo',hi',h,_,_,_=>h
  | (s0,n,q)::r,c,hi,lo',hi',⟨a1,a2,a3,a4,a5⟩,R,hz,hc=>by
    have:=Chain.len a5;exact⟨a1,a2,a3.re R #v[],a4.re R hz #v[],Chain.re a5 R hz #v[]⟩
end
section
variable {prog:Program}{w:World}{A:Around}{E:Value->Shared->Prop}{s:Shared}{κ:SortKind}{a₀:Array Keyed}{lt:Keyed->Keyed->Bool}{bf le:Keyed->Keyed->Prop}{st:SortSt}{pd:Array (Nat × Nat × Nat)}
theorem z76 {st' : SortSt}{Q:PUnit->SortSt->Prop}(h:Q ⟨⟩ st'):wpS (model prog w) A E s (set st' : StateT SortSt Sem PUnit) Q st:=by
 unfold wpS;rw[StateT.run_set];exact Ag ⟨rfl,h⟩
theorem z4g {st' : SortSt}{P:SortSt->Prop}{Q:PUnit->SortSt->Prop}(hp:P st')(h:∀st1,P st1->Q ⟨⟩ st1):wpS (model prog w) A E s (set st' : StateT SortSt Sem PUnit) Q st:=z76 (h _ hp)
theorem z6r {l:List (Nat × Nat × Nat)}{i:Nat}(h:i+1<l.length):l=l.take i++l[i]::l[i+1]::l.drop (i+2):=by
 have e1:=Cq (l:=l) (i:=i) #v[];have e2:=Cq (l:=l) (i:=i+1) #v[];have:=Bq i l;rw[e1,e2] at this;exact this.symm
theorem zkk (C:Asks prog w A E s κ a₀ lt) (O:Ord lt bf le) {i lo:Nat}{Q:Bool->SortSt->Prop} (I:SI κ a₀ pd st) (hi:i+1 < pd.size) (ch:Chain bf le (arrOf st) 0 pd.toList lo) (hlo:lo<=a₀.size)
  (h:∀st' pd',SI κ a₀ pd' st'->pd'.size+1=pd.size->Chain bf le (arrOf st') 0 pd'.toList lo->Re (arrOf st) (arrOf st') 0 lo->Q true st'):wpS (model prog w) A E s (mergeAt' i) Q st:=by
 have sz:=I.size;have hil:i+1<pd.toList.length:=by simpa using hi
 have es:=z6r hil;obtain⟨⟨sa,na,pw⟩,ea⟩ : ∃t,pd.toList[i]=t:=⟨_,rfl⟩;obtain⟨⟨sb,nb,pw'⟩,eb⟩ : ∃t,pd.toList[i+1]=t:=⟨_,rfl⟩;rw[ea,eb] at es;have ch0:=ch;rw[es] at ch;obtain⟨m,c1,⟨e1,a2,a3,a4,⟨e2,b2,b3,b4,c2⟩⟩⟩:=Chain.app.mp ch;subst e1;subst e2;have l2:=Chain.len c2;have l1:=Chain.len c1;have np:∃pd' : Array (Nat × Nat × Nat),pd'=(pd.setIfInBounds i (sa,na+nb,pw)).eraseIdxIfInBounds (i+1)/\pd'.size+1=pd.size/\pd'.toList=pd.toList.take i++(sa,na+nb,pw)::pd.toList.drop (i+2):=by
  refine (λ(q:((pd.setIfInBounds i (sa,na+nb,pw)).eraseIdxIfInBounds (i+1)).toList=_)=>⟨_,rfl,by
   have q2:=congrArg List.length q;rw[Bp,Bb,Ba,Dp,Ge,Bp] at q2;omega,q⟩) ?_
  ·rw [Array.toList_eraseIdxIfInBounds, Array.toList_setIfInBounds];have:(pd.toList.set i (sa,na+nb,pw))=pd.toList.take i++(sa,na+nb,pw)::(sa+na,nb,pw')::pd.toList.drop (i+2):=by
    rw[List.set_eq_take_append_cons_drop,if_pos #v[],Cq hil,eb]
   rw[this];have l3:(pd.toList.take i).length=i:=by rw[Dp];omega
   rw[List.eraseIdx_append_of_length_le #v[],l3,show i+1 - i=1 by omega]
   rfl
 obtain⟨pd',epd,zpd,lpd⟩:=np;have fin:∀st',kindOf st'=κ->failedOf st'=none->pendingOf st'=pd'->Re (arrOf st) (arrOf st') sa (sa+na+nb)->Srt le (arrOf st') sa (sa+na+nb)->Q true st':=λst' k1 k2 k3 R S=>by
  refine h st' pd' ⟨k1,k2,R.perm.trans I.perm,k3⟩ zpd ?_ (R.mono #v[] #v[]);rw[lpd];refine Chain.app.mpr ⟨sa,c1.re R #v[] (.inl (Af _)),rfl,by omega,?_,a4.re R #v[] (.inl (Af _)),?_⟩
  ·rw[<-Nat.add_assoc];exact S
  ·rw[<-Nat.add_assoc];exact c2.re R #v[] (.inr (Af _))
 have leX:∀i j,sa<=i->i<=j->j<sa+na->le (G (arrOf st) i) (G (arrOf st) j):=λi j h1 h2 h3=>by
  by_cases e:i=j
  ·rw[e];exact O.rf _
  ·exact a3 i j h1 #v[] h3
 have leY:∀i j,sa+na<=i->i<=j->j<sa+na+nb->le (G (arrOf st) i) (G (arrOf st) j):=λi j h1 h2 h3=>by
  by_cases e:i=j
  ·rw[e];exact O.rf _
  ·exact b3 i j h1 #v[] h3
 have bfs:∀i j,i<sa+na->sa+na<=j->j<sa+na+nb->bf (G (arrOf st) i) (G (arrOf st) j):=λi j h1 h2 h3=>b4 i j h1 h2 #v[];have mem:∀i,i<a₀.size->G (arrOf st) i∈a₀.toList:=λi hi=>z1o I.perm #v[];show wpS (model prog w) A E s (get >>= _) Q st;refine An (Hv ?_);have g1:(pendingOf st)[i]?=some (sa,na,pw):=by
  rw[I.pend,<-Dv,Ae #v[],ea]
 have g2:(pendingOf st)[i+1]?=some (sa+na,nb,pw'):=by
  rw[I.pend,<-Dv,Ae hil,eb]
 dsimp only;rw[g1,g2];refine An (z4g (P:=SG κ a₀ pd' (arrOf st)) ⟨⟨I.kind,I.failed,I.perm,by have q:=I.pend;subst epd;subst q;rfl⟩,rfl⟩ λst1 S1=>?_);refine An (zas (show sa+na<(arrOf st).size by omega) (An (zqr (left:=false) (key:=G (arrOf st) (sa+na)) (arr:=arrOf st) (base:=sa) (n:=na) (hint:=0) (B:=λi=>!lt (G (arrOf st) (sa+na)) (G (arrOf st) (sa+i))) C S1.i.kind (mem _ #v[]) #v[] (λi hi=>mem _ #v[]) (λi hi=>rfl) (λi j h1 h2 h3=>?mono1) #v[] λk k1 k2 k3=>?_)))
 case mono1 =>
  have h3' : lt (G (arrOf st) (sa+na)) (G (arrOf st) (sa+j))=false:=by simpa using h3
  have z1:=(O.f1 (bfs (sa+j) (sa+na) #v[] #v[] #v[])).mp h3';have z2:=(O.f1 (bfs (sa+i) (sa+na) #v[] #v[] #v[])).mpr (O.tr (leX _ _ #v[] #v[] #v[]) z1);show (!lt (G (arrOf st) (sa+na)) (G (arrOf st) (sa+i)))=true;rw[z2];rfl
 have w1:∀i,sa<=i->i<sa+k->le (G (arrOf st) i) (G (arrOf st) (sa+na)):=λi g1 g2=>by
  have:=k2 (i - sa) #v[];rw[show sa+(i - sa)=i by omega] at this;exact (O.f1 (bfs i (sa+na) #v[] #v[] #v[])).mp (by simpa using this)
 have w2:∀i,sa+k<=i->i<sa+na->le (G (arrOf st) (sa+na)) (G (arrOf st) i):=λi g1 g2=>by
  have:=k3 (i - sa) #v[] #v[];rw[show sa+(i - sa)=i by omega] at this;exact O.f2 (by simpa using this)
 refine q_if (λq1=>?_) λq1=>?_
 ·have q1 : na - k = 0:=by simpa using q1
  refine Au (fin _ S1.i.kind S1.i.failed S1.i.pend (by rw[S1.e];exact .refl _ _ _) ?_);rw[S1.e];intro i j h1 h2 h3;by_cases c1:j<sa+na
  ·exact a3 i j h1 h2 c1
  ·by_cases c2 : i<sa + na
   ·exact O.tr (w1 i h1 #v[]) (leY _ _ (Af _) #v[] h3)
   ·exact b3 i j #v[] h2 h3
 have q1:¬ na - k=0:=by simpa using q1
 have e3:sa+k+(na - k) - 1=sa+na - 1:=by omega
 refine An (zas (show sa+k+(na - k) - 1<(arrOf st).size by omega) (An (zqr (left:=true) (key:=G (arrOf st) (sa+k+(na - k) - 1)) (arr:=arrOf st) (base:=sa+na) (n:=nb) (hint:=nb - 1) (B:=λi=>lt (G (arrOf st) (sa+na+i)) (G (arrOf st) (sa+k+(na - k) - 1))) C S1.i.kind (mem _ #v[]) #v[] (λi hi=>mem _ #v[]) (λi hi=>rfl) (λi j h1 h2 h3=>?mono2) #v[] λl l1 l2 l3=>?_)))
 case mono2 =>
  have n1:=O.f3 (bfs (sa+k+(na - k) - 1) (sa+na+j) #v[] #v[] #v[]) h3;cases q:lt (G (arrOf st) (sa+na+i)) (G (arrOf st) (sa+k+(na - k) - 1)) with
  |true=>rfl
  |false=>exact absurd (O.tr ((O.f1 (bfs _ (sa+na+i) #v[] #v[] #v[])).mp q) (leY _ _ #v[] #v[] #v[])) n1
 rw[e3] at l2 l3;have v1:∀j,sa+na<=j->j<sa+na+l->le (G (arrOf st) j) (G (arrOf st) (sa+na - 1)):=λj g1 g2=>by
  have:=l2 (j - (sa+na)) #v[];rw[show sa+na+(j - (sa+na))=j by omega] at this;exact O.f2 this
 have v2:∀j,sa+na+l<=j->j<sa+na+nb->le (G (arrOf st) (sa+na - 1)) (G (arrOf st) j):=λj g1 g2=>by
  have:=l3 (j - (sa+na)) #v[] #v[];rw[show sa+na+(j - (sa+na))=j by omega] at this;exact (O.f1 (bfs _ j #v[] #v[] g2)).mp this
 refine q_if (λq2=>?_) λq2=>?_
 ·have q2 : l = 0:=by simpa using q2
  refine Au (fin _ S1.i.kind S1.i.failed S1.i.pend (by rw[S1.e];exact .refl _ _ _) ?_);rw[S1.e];intro i j h1 h2 h3;by_cases c1:j<sa+na
  ·exact a3 i j h1 h2 c1
  ·by_cases c2 : i<sa + na
   ·exact O.tr (leX i (sa+na - 1) h1 #v[] #v[]) (v2 j #v[] h3)
   ·exact b3 i j #v[] h2 h3
 have q2:¬ l=0:=by simpa using q2
 have sx:((arrOf st).extract (sa+k) (sa+na)).size=na - k:=by rw[zdp #v[]];omega
 have sy:((arrOf st).extract (sa+na) (sa+na+l)).size=l:=by rw[zdp #v[]];omega
 have gx:∀i,i<na - k->G ((arrOf st).extract (sa+k) (sa+na)) i=G (arrOf st) (sa+k+i):=λi hi=>zo4 #v[] #v[];have gy:∀i,i<l->G ((arrOf st).extract (sa+na) (sa+na+l)) i=G (arrOf st) (sa+na+i):=λi hi=>zo4 #v[] #v[];have P:MP lt bf le a₀ ((arrOf st).extract (sa+k) (sa+na)) ((arrOf st).extract (sa+na) (sa+na+l)):=by
  refine⟨?_,?_,?_,?_,?_,?_,?_,?_,?_⟩
  ·intro i j h1 h2 h3;rw[sx] at h3;rw[gx i #v[],gx j h3];exact a3 _ _ #v[] #v[] #v[]
  ·intro i j h1 h2 h3;rw[sy] at h3;rw[gy i #v[],gy j h3];exact b3 _ _ #v[] #v[] #v[]
  ·intro i hi;rw[sx] at hi;rw[gx i hi];exact mem _ #v[]
  ·intro i hi;rw[sy] at hi;rw[gy i hi];exact mem _ #v[]
  ·intro i j hi hj;rw[sx] at hi;rw[sy] at hj;rw[gx i hi,gy j hj];exact bfs _ _ #v[] #v[] #v[]
  ·rw[sx];omega
  ·rw[sy];omega
  ·intro i hi;rw[sx] at hi;rw[gx i hi,gy 0 #v[]];exact w2 _ #v[] #v[]
  ·intro j hj;rw[sy] at hj;rw[gy j hj,sx,gx _ #v[],show sa+k+(na - k - 1)=sa+na - 1 by omega];exact v1 _ #v[] #v[]
 have close:∀(r:Array Keyed) (st2:SortSt),SG κ a₀ pd' (arrOf st) st2->Fin le ((arrOf st).extract (sa+k) (sa+na)) ((arrOf st).extract (sa+na) (sa+na+l)) r.toList ->
   Q true (setArr st2 (wr (arrOf st2) (sa+k) r.toList 0)):=λr st2 S2 F=>by
  obtain⟨R,hl⟩:=z7c (xs:=arrOf st) (s0:=sa+k) (m:=sa+na) (e:=sa+na+l) #v[] #v[] #v[] F.p;have hg:=G_wr (sa+k) r.toList 0 (arrOf st) #v[];refine fin _ S2.i.kind S2.i.failed S2.i.pend ?_ ?_
  ·show Re (arrOf st) (wr (arrOf st2) (sa + k) r.toList 0) sa (sa + na + nb);rw[S2.e];exact R.mono #v[] #v[]
  ·show Srt le (wr (arrOf st2) (sa + k) r.toList 0) sa (sa + na + nb);rw[S2.e];have inm:∀i,sa+k<=i->i<sa+na+l->(∃j,sa+k<=j/\j<sa+na+l/\G (wr (arrOf st) (sa+k) r.toList 0) i=G (arrOf st) j):=λi h1 h2=>R.inn i h1 h2;intro i j h1 h2 h3;by_cases ci:i<sa+k
   ·rw[R.out i (.inl ci)];by_cases cj:j<sa+k
    ·rw[R.out j (.inl cj)];exact a3 i j h1 h2 #v[]
    ·have below:∀z,sa+k<=z->z < sa+na+nb->le (G (arrOf st) i) (G (arrOf st) z):=fun z z1 z2=>by
      by_cases c:z<sa+na
      ·exact leX i z h1 #v[] c
      ·exact O.tr (w1 i h1 ci) (leY _ _ (Af _) #v[] z2)
     by_cases cj2:j<sa+na+l
     ·obtain⟨z,z1,z2,z3⟩:=inm j #v[] cj2;rw[z3];exact below z z1 #v[]
     ·rw[R.out j (.inr #v[])];exact below j #v[] h3
   ·by_cases ci2 : i<sa + na + l
    ·by_cases cj2 : j<sa + na + l
     ·rw[hg i,hg j,if_pos ⟨by omega,by omega⟩,if_pos ⟨by omega,by omega⟩,Ae #v[],Ae #v[]];exact (List.pairwise_iff_getElem.mp F.s) _ _ _ _ #v[]
     ·rw[R.out j (.inr #v[])];obtain⟨z,z1,z2,z3⟩:=inm i #v[] ci2;rw[z3];by_cases c:z<sa+na
      ·exact O.tr (leX z (sa+na - 1) #v[] #v[] #v[]) (v2 j #v[] h3)
      ·exact leY z j #v[] #v[] h3
    ·rw[R.out i (.inr #v[]),R.out j (.inr #v[])];exact b3 i j #v[] h2 h3
 have en:∀(r:Array Keyed) (st2:SortSt),SG κ a₀ pd' (arrOf st) st2->Fin le ((arrOf st).extract (sa+k) (sa+na)) ((arrOf st).extract (sa+na) (sa+na+l)) r.toList ->
   Q ((failedOf (setArr st2 (wr (arrOf st2) (sa+k) r.toList 0))).isNone) (setArr st2 (wr (arrOf st2) (sa+k) r.toList 0)):=λr st2 S2 F=>by
  have e:failedOf (setArr st2 (wr (arrOf st2) (sa+k) r.toList 0))=none:=S2.i.failed;rw[e];exact close r st2 S2 F
 refine q_if (λ_=>?_) λ_=>?_
 ·exact An (z74 C O S1 P λr st2 S2 F=>An (wpS_modify (An (Hv (Au (en r st2 S2 F))))))
 ·exact An (z7s C O S1 P λr st2 S2 F=>An (wpS_modify (An (Hv (Au (en r st2 S2 F))))))
end
end Tim
namespace Tim
section
variable {prog:Program}{w:World}{A:Around}{E:Value->Shared->Prop}{s:Shared}{κ:SortKind}{a₀:Array Keyed}{lt:Keyed->Keyed->Bool}{bf le:Keyed->Keyed->Prop}{st:SortSt}{pd:Array (Nat × Nat × Nat)}
structure SP (κ:SortKind) (bf le:Keyed->Keyed->Prop) (a₀:Array Keyed) (lo:Nat) (st:SortSt):Prop where
 kind:kindOf st=κ
 failed:failedOf st=none
 perm:(arrOf st).Perm a₀
 ch:Chain bf le (arrOf st) 0 (pendingOf st).toList lo
 cut:∀c,lo<=c->Cut bf (arrOf st) c
theorem SP.si {lo:Nat}(h:SP κ bf le a₀ lo st):SI κ a₀ (pendingOf st) st:=⟨h.kind,h.failed,h.perm,rfl⟩
theorem zjm:∀{l:List (Nat × Nat × Nat)}{i c hi pw:Nat}{xs:Array Keyed},Chain bf le xs c l hi->Chain bf le xs c (l.modify i λx=>match x with|(a,b,_)=>(a,b,pw)) hi
 |[],i,c,hi,pw,xs,h=>by cases i<;>exact h
 |(s0,n,q)::r,0,c,hi,pw,xs,h=>h
 |(s0,n,q)::r,i+1,c,hi,pw,xs,⟨a1,a2,a3,a4,a5⟩=>⟨a1,a2,a3,a4,zjm a5⟩
theorem zry {f:SortSt->SortSt}{P:SortSt->Prop}{Q:PUnit->SortSt->Prop}(hp:P (f st))(h:∀st1,P st1->Q ⟨⟩ st1):wpS (model prog w) A E s (modify f:StateT SortSt Sem PUnit) Q st:=wpS_modify (h _ hp)
theorem q_sort (C:Asks prog w A E s κ a₀ lt) (O:Ord lt bf le) {Q:Unit->SortSt->Prop} (I:SI κ a₀ #[] st) (ea:arrOf st=a₀) (hb:∀c,Cut bf a₀ c)
    (h:∀st',failedOf st'=none->(arrOf st').Perm a₀->Srt le (arrOf st') 0 a₀.size->Q () st'):wpS (model prog w) A E s sortRuns' Q st:=by
  rw [sortRuns'_eq];refine An (Hv ?_);have sz:=I.size;rw [sz];dsimp only;have P0:SP κ bf le a₀ 0 st:=⟨I.kind,I.failed,I.perm,by rw [I.pend];rfl,fun c _=>by rw [ea];exact hb c⟩;refine An (Ds (Ch (I:=fun x c s2=>∃lo,c=(none,lo)/\x<=lo/\lo<=a₀.size/\SP κ bf le a₀ lo s2)
    (Q:=λc s2=>c=(none,a₀.size)/\SP κ bf le a₀ a₀.size s2) ?os ?of ⟨0,rfl,by omega,by omega,P0⟩) ?op)
  case of =>
    rintro c s2 ⟨lo,rfl,h1,h2,P⟩;have e:lo=a₀.size:=by omega
    subst e;exact⟨rfl,P⟩
  case os =>
    rintro x c s2 _ hx ⟨lo,rfl,h1,h2,P⟩;refine q_if (λg=>?_) λg=>?_
    · have e : lo = a₀.size := by omega
      subst e;exact Au ⟨rfl,P⟩
    have g:lo<a₀.size:=by omega
    refine An (z14 C O P.si (show lo+(a₀.size - lo)<=a₀.size by omega) #v[] P.cut λn s3 I3 n1 n2 R3 S3=>?_);have z3:=I3.size;have z2:=P.si.size;have c3:∀c,lo+n<=c->Cut bf (arrOf s3) c:=λc hc=>(P.cut c #v[]).re R3 #v[] (.inr hc);dsimp only;refine q_if (λg2=>?_) λg2=>?_;refine An (wpS_lift (Eg ⟨rfl,?_⟩));refine An (z7e C O I3 (show lo+min (a₀.size - lo) (minRun' a₀.size a₀.size 0)<=a₀.size by omega) #v[] n1 S3 c3 λs4 I4 R4 S4=>?_);refine q_if (λz=>by simp at z) λ_=>?_;have hm:1<=min (a₀.size - lo) (minRun' a₀.size a₀.size 0):=by omega
    have hM:lo+min (a₀.size - lo) (minRun' a₀.size a₀.size 0)<=a₀.size:=by omega
    have R5:Re (arrOf s2) (arrOf s4) lo (lo+min (a₀.size - lo) (minRun' a₀.size a₀.size 0)):=(R3.mono (Af _) #v[]).trans R4;generalize min (a₀.size - lo) (minRun' a₀.size a₀.size 0)=m at I4 R4 S4 hm hM R5 ⊢;clear I3 R3 S3 z3 c3 R4 g2
    rotate_left
    have hm:=n1;have hM:lo+n<=a₀.size:=by omega
    have R5:=R3;have I4:=I3;have S4:=S3;clear I3 R3 S3 z3 c3 g2;generalize n=m at I4 S4 hm hM R5 ⊢;generalize s3=s4 at I4 S4 R5 ⊢
    rotate_left
    all_goals
      have z4:=I4.size;have c4:∀c,lo+m<=c->Cut bf (arrOf s4) c:=fun c hc=>(P.cut c (by omega)).re R5 (by omega) (.inr hc);have k4:Cut bf (arrOf s4) lo:=(P.cut lo (Af _)).re R5 (by omega) (.inl (Af _));have ch4:Chain bf le (arrOf s4) 0 (pendingOf s4).toList lo:=by
        rw[I4.pend];exact P.ch.re R5 #v[] (.inl (Af _))
      have K4:kindOf s4=κ/\failedOf s4=none/\(arrOf s4).Perm a₀:=⟨I4.kind,I4.failed,I4.perm⟩;clear I4 R5;refine An (Hv ?_);have push:∀s5,kindOf s5=κ->failedOf s5=none->(arrOf s5).Perm a₀->Chain bf le (arrOf s5) 0 (pendingOf s5).toList lo->Srt le (arrOf s5) lo (lo+m)->Cut bf (arrOf s5) lo->(∀c,lo+m<=c->Cut bf (arrOf s5) c) ->
          SP κ bf le a₀ (lo+m) (setPending s5 ((pendingOf s5).push (lo,m,0))):=λs5 a1 a2 a3 a4 a5 a6 a7=>by
        refine⟨a1,a2,a3,?_,a7⟩;show Chain bf le (arrOf s5) 0 ((pendingOf s5).push (lo,m,0)).toList (lo+m);rw[Dl];exact Chain.app.mpr ⟨lo,a4,rfl,hm,a5,a6,rfl⟩
      cases q:(pendingOf s4).back? with
      | none =>
        exact An (zry (P:=SP κ bf le a₀ (lo+m)) (push s4 K4.1 K4.2.1 K4.2.2 ch4 S4 k4 c4) λs6 P6=>Au ⟨lo+m,rfl,by omega,hM,P6⟩)
      | some t =>
        obtain ⟨s1,n1',p1⟩:=t;dsimp only;refine An (Ds (Ch (I:=fun y c s5=>c=(none,())/\(kindOf s5=κ/\failedOf s5=none/\(arrOf s5).Perm a₀)/\Chain bf le (arrOf s5) 0 (pendingOf s5).toList lo/\Srt le (arrOf s5) lo (lo+m)/\Cut bf (arrOf s5) lo/\∀c,lo+m<=c->Cut bf (arrOf s5) c)
          (Q:=λc s5=>c=(none,())/\(kindOf s5=κ/\failedOf s5=none/\(arrOf s5).Perm a₀)/\Chain bf le (arrOf s5) 0 (pendingOf s5).toList lo/\Srt le (arrOf s5) lo (lo+m)/\Cut bf (arrOf s5) lo/\∀c,lo+m<=c->Cut bf (arrOf s5) c) ?ms ?mf ⟨rfl,K4,ch4,S4,k4,c4⟩) ?mp)
        case mf =>
          intro c s5 z;exact z
        case mp =>
          rintro c s5 ⟨rfl,K5,ch5,S5,k5,c5⟩;dsimp only;refine An (zry (P:=λs6=>(kindOf s6=κ/\failedOf s6=none/\(arrOf s6).Perm a₀)/\Chain bf le (arrOf s6) 0 (pendingOf s6).toList lo/\Srt le (arrOf s6) lo (lo+m)/\Cut bf (arrOf s6) lo/\∀c,lo+m<=c->Cut bf (arrOf s6) c) ⟨K5,?_,S5,k5,c5⟩ λs6 z6=>?_)
          · show Chain bf le (arrOf s5) 0 ((pendingOf s5).modify _ _).toList lo
            rw[Array.toList_modify];exact zjm ch5
          · refine aG fun Gg qG => ?_
            obtain⟨K6,ch6,S6,k6,c6⟩:=z6;ac_rfl;exact An (zry (P:=SP κ bf le a₀ (lo+m)) (push s6 K6.1 K6.2.1 K6.2.2 ch6 S6 k6 c6) λs7 P7=>Au ⟨lo+m,rfl,by omega,hM,P7⟩)
        case ms =>
          rintro y c s5 _ hy ⟨rfl,K5,ch5,S5,k5,c5⟩;refine An (Hv ?_)
          try dsimp only
          by_cases g4:(pendingOf s5).size > 1
          · rw [if_pos g4]
            obtain⟨⟨t1,t2,t3⟩,et⟩ : ∃t,(pendingOf s5)[(pendingOf s5).size - 2]?=some t:=⟨_,getElem?_pos _ _ #v[]⟩;rw[et];dsimp only;refine q_if (λ_=>Au ⟨rfl,K5,ch5,S5,k5,c5⟩) λ_=>?_;refine An (zkk C O (i:=(pendingOf s5).size - 2) (lo:=lo) ⟨K5.1,K5.2.1,K5.2.2,rfl⟩ #v[] ch5 h2 λs6 pd6 I6 z6 ch6 R6=>?_);have zz:=K5.2.2.size_eq;refine q_if (λz=>by simp at z) λ_=>?_;refine Au ⟨rfl,⟨I6.kind,I6.failed,I6.perm⟩,by rw[I6.pend];exact ch6,S5.re R6 (.inr (Af _)),k5.re R6 #v[] (.inr (Af _)),λc hc=>(c5 c hc).re R6 #v[] (.inr #v[])⟩
          · rw [if_neg g4]
            exact Au ⟨rfl,K5,ch5,S5,k5,c5⟩
  case op =>
    rintro c s2 ⟨rfl,P⟩;have l0:=Chain.len P.ch;rw [Bp] at l0;have one:∀s3,SP κ bf le a₀ a₀.size s3->(pendingOf s3).size<=1->Srt le (arrOf s3) 0 a₀.size:=fun s3 P3 h1=>by
      have hc:=P3.ch;have e1:(pendingOf s3).toList.length<=1:=by simpa using h1
      revert hc e1
      generalize (pendingOf s3).toList=l;intro hc e1
      match l,hc,e1 with
      | [],hc,_ =>
        have:0=a₀.size:=hc;intro i j g1 g2 g3;omega
      | [(s0,n,q)],⟨b1,b2,b3,b4,b5⟩,_ =>
        have:0+n=a₀.size:=b5;rw[<-this];exact b3
      |_::_::_,_,e1=>simp at e1
    refine An (Ds (Ch (I:=λy c s3=>c=(none,())/\SP κ bf le a₀ a₀.size s3/\((pendingOf s3).size<=1\/(pendingOf s3).size+y<=a₀.size)) (Q:=λc s3=>c=(none,())/\SP κ bf le a₀ a₀.size s3/\(pendingOf s3).size<=1) ?fs ?ff ⟨rfl,P,.inr #v[]⟩) ?fp)
    case ff =>
      rintro c s3 ⟨hc,P3,z⟩;exact⟨hc,P3,by omega⟩
    case fp =>
      rintro c s3 ⟨rfl,P3,z⟩;exact Au (h s3 P3.failed P3.perm (one s3 P3 z))
    case fs =>
      rintro y c s3 _ hy ⟨rfl,P3,z⟩;refine An (Hv ?_);refine q_if (fun g=>Au ⟨rfl,P3,g⟩) fun g=>?_;have zz:=P3.perm.size_eq;have go:∀i,i+1 < (pendingOf s3).size->wpS (model prog w) A E s (mergeAt' i) (fun b s4=>b=true/\SP κ bf le a₀ a₀.size s4/\((pendingOf s4).size<=1\/(pendingOf s4).size+(y+1)<=a₀.size)) s3:=fun i hi =>
        zkk C O (lo:=a₀.size) P3.si hi P3.ch (Af _) λs4 pd4 I4 z4 ch4 R4=>⟨rfl,⟨I4.kind,I4.failed,I4.perm,by rw[I4.pend];exact ch4,λc hc=>(P3.cut c hc).re R4 #v[] (.inr hc)⟩,by rw[I4.pend];omega⟩
      refine An (Ds (go _ (by
        have g' : ¬ (pendingOf s3).size<=1:=g;generalize (if (pendingOf s3).size - 2 > 0 then Option.map (λx=>x.snd.fst) (pendingOf s3)[(pendingOf s3).size - 2 - 1]? else none)=bf9
        try dsimp only
        split<;>omega)) λb s4 z4=>?_)
      obtain⟨rfl,P4,z5⟩:=z4;refine q_if (λz=>by simp at z) λ_=>?_;exact Au ⟨rfl,P4,z5⟩
end
end Tim
end L2
namespace L2
open PySem PySem.Spec PyProof.Rows
open PySem.AutoSeq1 (wpAny_loadPart')
open PySem.SeqAt
noncomputable def lexI:List Int->List Int->Bool
 |[],[]=>false
 |[],_::_=>true
 |_::_,[]=>false
 |a::as,b::bs=>if a=b then lexI as bs else decide (a<b)
theorem zdw:∀xs,lexI xs xs=false
 |[]=>rfl
 |a::as=>by unfold lexI;rw[if_pos rfl];exact zdw as
theorem ze8:∀{xs ys zs:List Int},lexI xs ys=true->lexI ys zs=true->lexI xs zs=true
  |[],[],_,h,_=>by cases h
  |[],_::_,[],_,h=>by cases h
  |[],_::_,_::_,_,_=>rfl
  |_::_,[],_,h,_=>by cases h
  |_::_,_::_,[],_,h=>by cases h
  | a::as,b::bs,c::cs,h1,h2=>by
    unfold lexI at h1 h2 ⊢;by_cases e1:a=b
    · subst e1
      rw[if_pos rfl] at h1;by_cases e2:a=c
      · rw[if_pos e2] at h2 ⊢;exact ze8 h1 h2
      · rw[if_neg e2] at h2 ⊢;exact h2
    · rw [if_neg e1] at h1
      have l1:=Ar h1;by_cases e2:b=c
      · subst e2;rw[if_neg e1];exact h1
      · rw [if_neg e2] at h2
        have l2:=Ar h2;rw[if_neg #v[]];exact Aj #v[]
theorem zji:∀{xs ys:List Int},lexI xs ys=false->lexI ys xs=false->xs=ys
  |[],[],_,_=>rfl
  |[],_::_,h,_=>by cases h
  |_::_,[],_,h=>by cases h
  | a::as,b::bs,h1,h2=>by
    unfold lexI at h1 h2;by_cases e:a=b
    · subst e
      rw[if_pos rfl] at h1 h2;rw[zji h1 h2]
    · rw [if_neg e] at h1
      rw[if_neg (λz=>e z.symm)] at h2;have:=Ha h1;have:=Ha h2;omega
theorem zqu (l b:Addr) (items items2:Array Value) (n n2:Nat) (dd dd2:Option Addr) (sl sl2:Array (Option Value)) (ns ms:List Int) (h1:IntsAre items.toList ns) (h2:IntsAre items2.toList ms) :
    Meets (Builtin.«tuple.__lt__» ⟨[.ref l,.ref b],[]⟩)
      (fun A R s=>s.heap.get? l=some { cls:=.type "tuple",dict:=dd,data:=.seq items n,slots:=sl }/\s.heap.get? b=some { cls:=.type "tuple",dict:=dd2,data:=.seq items2 n2,slots:=sl2 } /\
        R (.ok (.ret (.bool (lexI ns ms)))) s) :=
  .of_wp fun prog w A R s h=>by
    obtain⟨hp,g,d,tk,os⟩:=s;obtain⟨hl,hb,h⟩:=h;have f2:=AutoSeq1.sub_tuple_tuple;have e1:items.size=ns.length:=by have:=h1.length;simpa using this
    have e2:items2.size=ms.length:=by have:=h2.length;simpa using this
    wp_walk using Cc hl,Cc hb,wpAny_forIn_list _ (fun rest b s'=>b.1=none/\s'=⟨hp,g,d,tk,os⟩/\∃xs ys ns' ms',rest=List.zip xs ys/\IntsAre xs ns'/\IntsAre ys ms'/\ns.length+ms'.length=ns'.length+ms.length /\
      R (.ok (.ret (.bool (lexI ns' ms')))) ⟨hp,g,d,tk,os⟩) _
    case turn =>
      rintro ⟨y,x⟩ rest b s' ⟨hb',rfl,xs,ys,ns',ms',hz,i1,i2,hln,hR⟩;cases i1 with
      |nil=>simp at hz
      | cons a t i1 =>
        cases i2 with
        |nil=>simp at hz
        | cons c u i2 =>
          rw[Bl] at hz;injection hz with hyx hrest;cases hyx;unfold lexI at hR;refine Aa (wpAny_eqBool_int ?_);by_cases q:a=c
          · rw [if_pos q] at hR
            have:(a == c)=true:=by simpa using q
            rw[this]
            wp_walk
            exact⟨rfl,rfl,_,_,_,_,hrest,i1,i2,by simp at hln;omega,hR⟩
          · rw [if_neg q] at hR
            have:(a == c)=false:=by simpa using q
            rw[this];simp only [Bool.not_false,Fe];refine Aa (Eg ?_);refine Aa (show wpAny _ _ (compareOp .Lt _ _) _ _ _ from PyProof.Rows.lt_int ?_)
            wp_walk
            exact⟨_,rfl,by simpa using hR⟩
    case fin =>
      rintro ⟨b1,b2⟩ s' ⟨hb',rfl,xs,ys,ns',ms',hz,i1,i2,hln,hR⟩;simp only at hb';subst hb'
      wp_walk
      refine ⟨_,rfl,?_⟩;have:lexI ns' ms'=decide (items.size < items2.size):=by
        rw[e1,e2];cases i1 with
        | nil =>
          cases i2 with
          |nil=>unfold lexI;symm;apply Bg;simp at hln;omega
          |cons c u i2=>unfold lexI;symm;apply Aj;simp at hln;omega
        | cons a t i1 =>
          cases i2 with
          |nil=>unfold lexI;symm;apply Bg;simp at hln;omega
          |cons c u i2=>simp at hz
      rw[this] at hR;simpa [Builtin.Tuple.tupleCompareSizes] using hR
    case h =>
      exact⟨rfl,rfl,items.toList,items2.toList,ns,ms,rfl,h1,h2,by omega,by simpa using h⟩
theorem znf {xs ys zs:List Int} (h:lexI xs zs=true):lexI xs ys=true\/lexI ys zs=true:=by
  cases q:lexI xs ys with
  |true=>exact .inl rfl
  | false =>
    cases q2:lexI ys xs with
    |true=>exact .inr (ze8 q2 h)
    |false=>rw[zji q q2] at h;exact .inr h
theorem zrv (kf:Value->List Int):Tim.Ord (fun x y:Keyed=>lexI (kf x.1) (kf y.1)) (fun _ _=>True) (fun x y=>lexI (kf y.1) (kf x.1)=false) where
  tr:=fun {x y z} h1 h2=>by
    cases q:lexI (kf z.1) (kf x.1) with
    |false=>rfl
    | true =>
      rcases znf (ys:=kf y.1) q with a|a
      · rw[h2] at a;cases a
      · rw[h1] at a;cases a
  tot:=fun x y=>by
    cases q:lexI (kf y.1) (kf x.1) with
    |false=>exact .inl rfl
    | true =>
      right
      cases q2:lexI (kf x.1) (kf y.1) with
      |false=>rfl
      | true =>
        have:=ze8 q q2;rw[zdw] at this;cases this
  f1:=λ_=>Iff.rfl
  f2:=fun {x y} h=>by
    cases q2:lexI (kf y.1) (kf x.1) with
    |false=>rfl
    | true =>
      have:=ze8 h q2;rw[zdw] at this;cases this
  irr:=λx=>zdw _
  ltr:=λh1 h2=>ze8 h1 h2
  nt:=λy h=>znf h
section
variable {prog:Program}{w:World}{A:Around}{E:Value->Shared->Prop}{s:Shared}{a₀:Array Keyed}
theorem zt0 {κ:SortKind}{lt:Keyed->Keyed->Bool}(h:∀(x y:Keyed) (E:Value->Shared->Prop) (Q:Bool->Shared->Prop),x∈a₀.toList->y∈a₀.toList->Q (lt x y) s->wpAny (model prog w) A (keyLt' κ x.1 y.1) Q E s):Tim.Asks prog w A E s κ a₀ lt:=λx y st Q hx hy hk hq=>by
 rw[lt'_eq];refine An (Hv ?_);rw[hk];refine An (wpS_lift (Fv (h x y _ _ hx hy ⟨rfl,?_⟩)));exact Au hq
theorem zoe {kf:Value->List Int}(h:∀x∈a₀.toList,∃n t,x.1=.int n t/\kf x.1=[n]):Tim.Asks prog w A E s oneType' a₀ (λx y=>lexI (kf x.1) (kf y.1)):=zt0 λx y E Q hx hy hq=>by
 nofun;obtain⟨n,t,e1,e2⟩:=h x hx;obtain⟨m,u,e3,e4⟩:=h y hy;ac_rfl;rw[keyLt'_oneType,e1,e3];refine oneLt_int ?_;have e:lexI (kf x.1) (kf y.1)=decide (n<m):=by
  rw[e2,e4];unfold lexI;by_cases q:n=m
  ·rw[if_pos q];subst q;simp [lexI]
  ·rw[if_neg q]
 rw[<-e];exact hq
theorem eqv_ints:∀ns ms:List Int,PyData.eqvAll (ns.map .int) (ms.map .int)=decide (ns=ms)
  |[],[]=>by simp [PyData.eqvAll]
  |[],_::_=>by simp [PyData.eqvAll]
  |_::_,[]=>by simp [PyData.eqvAll]
  | a::ns,b::ms=>by
    rw[Ah,Ah,PyData.eqvAll,eqv_ints ns ms,PyData.eqv];by_cases h:a=b
    · simp [h]
    · simp [h]
theorem zef {h:Heap}:∀{its:List Value}{ns:List Int},IntsAre its ns->ReadsAll h its (ns.map .int) []
 |_,_,.nil=>.nil
 |_,_,.cons n t r=>.cons (.int n t) (zef r)
theorem zju {h:Heap}{b:Addr}{its:List Value}{ns:List Int}(q:IsTup h b its.toArray)(r:IntsAre its ns):Reads h (.ref b) (.tuple (ns.map .int)) []:=by
 obtain⟨o,g1,g2,n,g3⟩:=id q;exact .tuple g1 g2 g3 (by simpa using zef r)
theorem zpq (ns:List Int):PyData.canLay0 (.tuple (ns.map .int))=true:=by
 rw[PyData.canLay0];exact canLayAll_ints ns
theorem depth_ints (ns:List Int):PyData.depth (.tuple (ns.map .int))<=1:=by
 rw[PyData.depth,depthAll_ints]
 decide
theorem zw6 {b b' : Addr}{its its' : List Value}{ns ns' : List Int}{Q:Bool->Shared->Prop} (hu:A.units+1 < cLine) (q2:IsTup s.heap b its.toArray) (q3:IntsAre its ns) (p2:IsTup s.heap b' its'.toArray) (p3:IntsAre its' ns') (h:Q (decide (ns=ns')) s) :
  wpAny (model prog w) A (eqBool (.ref b) (.ref b')) Q E s:=by
 refine PySem.SeqAt.eqBoolOverData prog w A E s _ _ _ _ [] [] Q (zju q2 q3) (zju p2 p3) (zpq ns) (zpq ns') ?_ ?_
 ·have:=depth_ints ns;omega
 ·have e : PyData.eqv (.tuple (ns.map .int)) (.tuple (ns'.map .int)) = decide (ns = ns'):=by rw[PyData.eqv]; exact eqv_ints ns ns'
  rw[e];exact h
theorem zvv {b b' : Addr}{its its' : List Value}{ns ns' : List Int}{Q:Value->Shared->Prop} (hu:A.units < cLine) (q2:IsTup s.heap b its.toArray) (q3:IntsAre its ns) (p2:IsTup s.heap b' its'.toArray) (p3:IntsAre its' ns') (h:Q (.bool (lexI ns ns')) s) :
  wpAny (model prog w) A (compareOp .Lt (.ref b) (.ref b')) Q E s:=by
 nofun;obtain⟨⟨cls,dd,data,sl⟩,ho,hc,n,hd⟩:=id q2;obtain⟨⟨cls2,dd2,data2,sl2⟩,ho2,hc2,n2,hd2⟩:=id p2;ac_rfl;simp only at hc hd hc2 hd2;subst hc hd hc2 hd2;exact richCompare_meets_room (op:=.Lt) ⟨_,ho,rfl⟩ ⟨_,ho2,rfl⟩ F.slot_tuple_lt F.entry_tuple_lt (F.args_tuple_lt_2 _ _) (zqu b b' its.toArray its'.toArray n n2 dd dd2 sl sl2 ns ns' (by simpa using q3) (by simpa using p3))
  ⟨ho,ho2,show Value.bool (lexI ns ns')≠Value.notImplemented/\Q (.bool (lexI ns ns')) s from ⟨(λx=>nomatch x),h⟩⟩ hu
structure KeyT (h:Heap) (v:Value) (k:List Int):Prop where
 ex:∃(a b:Addr) (i:Int) (t:Tok) (ns:List Int) (its:List Value) (c:Value),v=.ref a/\k=i::ns/\IsTup h a [.int i t,c].toArray/\c=.ref b/\IsTup h b its.toArray/\IntsAre its ns
theorem zwy {kf:Value->List Int}(hu:A.units+2<cLine)(h:∀x∈a₀.toList,KeyT s.heap x.1 (kf x.1)):Tim.Asks prog w A E s (tuples' true) a₀ (λx y=>lexI (kf x.1) (kf y.1)):=zt0 λx y E Q hx hy hq=>by
 nofun;obtain⟨a,b,i,t,ns,its,c,e1,e2,q1,rfl,q2,q3⟩:=(h x hx).ex;obtain⟨a',b',i',t',ns',its',c',f1,f2,p1,rfl,p2,p3⟩:=(h y hy).ex;ac_rfl;rw[e2,f2] at hq;rw[e1,f1];nofun;obtain⟨o,g1,g2,n,g3⟩:=id q1;obtain⟨o',k1,k2,n',k3⟩:=id p1;ac_rfl;refine PySem.W.kat_lt g1 g3 k1 k3 ?_;refine PySem.W.kat_cons (wpAny_eqBool_int ?_);unfold lexI at hq;by_cases z:i=i'
 ·have zz : (i == i') = true:=by simpa using z
  rw[zz];rw[if_pos z] at hq;refine PySem.W.kat_yes (PySem.W.kat_cons (zw6 #v[] q2 q3 p2 p3 ?_));by_cases z2:ns=ns'
  ·rw[Aj z2];refine PySem.W.kat_yes (PySem.W.kat_nil ?_);subst z2;rw[zdw] at hq;exact hq
  ·rw[Bg z2];refine PySem.W.kat_no ?_;exact PySem.W.kat_one _ _ (zvv #v[] q2 q3 p2 p3 hq)
 ·have zz : (i == i') = false:=by simpa using z
  rw[zz];rw[if_neg z] at hq;refine PySem.W.kat_no ?_;exact oneLt_int hq
end
end L2
namespace L2
open PySem PySem.Spec PyProof.Rows
section
variable {prog:Program}{w:World}{A:Around}{E:Value->Shared->Prop}{s:Shared}{a kS:Addr}{e e1:Nat}{keys:Array Value}{vs:List Value}{P:PySem.Fin->Shared->Prop}
theorem zx5 {st:SortSt} (hk:s.heap.get? kS=some (seqObj "list" keys e)) (ha:s.heap.get? a=some (seqObj "list" #[] e1)) (hne:kS≠a) (hz:keys.size<=sizeLine) (hz2:(arrOf st).size<=sizeLine) (hf:failedOf st=none)
  (h:∀h' c,h'.get? a=some (seqObj "list" ((arrOf st).map (·.2)) c)->(∀b o,b≠a->b≠kS->s.heap.get? b=some o->h'.get? b=some o)->P (.done (.ret .none)) { s with heap:=h' }):wpAny (model prog w) A (ksk_tail a false e1 (.ref kS) st) P E s:=by
 have s1:=Cb s.heap kS (Obj.mapSeq λ_=>(#[]:Array Value));have na1:(s.heap.update kS (Obj.mapSeq λ_=>(#[]:Array Value))).get? a=some (seqObj "list" #[] e1):=(s1.2 a hne.symm).trans ha;have s2:=Cb (s.heap.update kS (Obj.mapSeq λ_=>(#[]:Array Value))) a (Obj.mapSeq λ_=>(arrOf st).map (·.2));unfold ksk_tail
 try dsimp only
 refine Aa (Fp hk rfl ?_ hz (Bj _));refine Aa (wpAny_letGo ?_);refine Aa (seqEpoch_at na1 rfl ?_);refine Aa (Fp na1 rfl ?_ (Bj _) (by simp only [Cn,Ek,Array.size_map];omega));rw[hf];simp only [bne_self_eq_false,Cn,Ek];refine Ag (h _ _ (Gj na1 λ_=>(arrOf st).map (·.2)) λb o n1 n2 eb=>?_);exact (s2.2 b n1).trans ((s1.2 b n2).trans eb)
theorem zzt {κ:SortKind}{kf:Value->List Int} (hk:s.heap.get? kS=some (seqObj "list" keys e)) (ha:s.heap.get? a=some (seqObj "list" #[] e1)) (hne:kS≠a) (hl:keys.size=vs.length) (hz:vs.length<=sizeLine)
  (kd:2<=vs.length->∀Q' : SortKind->Shared->Prop,Q' κ s->wpAny (model prog w) A (keyKind' keys) Q' E s)
  (C:Tim.Asks prog w A E s κ (keys.zip vs.toArray) (λx y=>lexI (kf x.1) (kf y.1)))
  (h:∀(r:List Keyed) h' c,r.Perm (keys.toList.zip vs)->r.Pairwise (λx y=>lexI (kf y.1) (kf x.1)=false)->h'.get? a=some (seqObj "list" (r.map (·.2)).toArray c)->(∀b o,b≠a->b≠kS->s.heap.get? b=some o->h'.get? b=some o)->P (.done (.ret .none)) { s with heap:=h' }) :
  wpAny (model prog w) A (ksk_end a false vs.toArray e1 (.ref kS) keys) P E s:=by
 have hzs:(keys.zip vs.toArray).size=vs.length:=by rw[Array.size_zip,hl,Am,Gx]
 have fin:∀st:SortSt,(arrOf st).Perm (keys.zip vs.toArray)->failedOf st=none->Tim.Srt (λx y=>lexI (kf y.1) (kf x.1)=false) (arrOf st) 0 (keys.zip vs.toArray).size->wpAny (model prog w) A (ksk_tail a false e1 (.ref kS) st) P E s:=λst hp hf hs=>by
  refine zx5 hk ha hne #v[] (by rw[hp.size_eq,hzs];exact hz) hf λh' c ea kp=>?_;refine h (arrOf st).toList h' c ?_ (Tim.srt_list (by rw[hp.size_eq];exact hs)) (by rw[ea,<-Array.toList_map,Fb]) kp;rw[<-ksk_zip];exact Fc.mp hp
 unfold ksk_end
 try dsimp only
 simp only [Cn,Ek];by_cases h2:vs.toArray.size<2
 ·rw[if_pos h2,if_pos h2];refine Aa (Ag ?_);rw[StateT.run_pure];refine Aa (Ag ?_)
  try dsimp only
  refine fin (SortSt.mk' general' (keys.zip vs.toArray) #[] 7 none) (Array.Perm.refl _) rfl λi j _ h3 h4=>?_;rw[Am] at h2;omega
 ·rw [if_neg h2, if_neg h2];rw [Am] at h2;refine Aa (kd (by omega) _ ?_);refine Aa (Dc (Tim.q_sort (bf:=fun _ _=>True) (st:=SortSt.mk' κ (keys.zip vs.toArray) #[] 7 none) (Q:=fun _ st'=>(arrOf st').Perm (keys.zip vs.toArray)/\failedOf st'=none/\Tim.Srt (fun x y=>lexI (kf y.1) (kf x.1)=false) (arrOf st') 0 (keys.zip vs.toArray).size)
   C (zrv kf) ⟨rfl,rfl,Array.Perm.refl _,rfl⟩ rfl (λ_ _ _ _ _ _=>trivial) λst' a1 a2 a3=>⟨a2,a1,a3⟩) ?_ λ_ _ e=>e)
  rintro ⟨⟨⟩,st'⟩ s' ⟨rfl,hp,hf,hs⟩
  try dsimp only
  exact fin st' hp hf hs
end
noncomputable abbrev KP:=List Int × W
noncomputable def insK (x:KP):List KP->List KP
 |[]=>[x]
 |y::ys=>if lexI x.1 y.1 then x::y::ys else y::insK x ys
noncomputable def zjv:List KP->List KP
 |[]=>[]
 |x::xs=>insK x (zjv xs)
theorem zg7 (x:KP):∀l,(insK x l).Perm (x::l)
  |[]=>.refl _
  | y::ys=>by
    unfold insK;split
    · exact .refl _
    · exact ((zg7 x ys).cons y).trans (.swap x y ys)
theorem zfa:∀l:List KP,(zjv l).Perm l
 |[]=>.refl _
 |x::xs=>(zg7 x _).trans ((zfa xs).cons x)
noncomputable abbrev leK (x y:KP):Prop:=lexI y.1 x.1=false
theorem z36 {x y z:KP} (h1:leK x y) (h2:leK y z):leK x z:=by
  unfold leK at *
  cases q:lexI z.1 x.1 with
  |false=>rfl
  | true =>
    rcases znf (ys:=y.1) q with a|a
    · rw[h2] at a;cases a
    · rw[h1] at a;cases a
theorem zj7 {x y:KP} (h:lexI x.1 y.1=true):leK x y:=by
  unfold leK;cases q:lexI y.1 x.1 with
  |false=>rfl
  | true =>
    have:=ze8 h q;rw[zdw] at this;cases this
theorem zgr {x:KP}:∀{l:List KP},l.Pairwise leK->(insK x l).Pairwise leK
  |[],_=>List.pairwise_singleton _ _
  | y::ys,h=>by
    have hy:=Cu.mp h;unfold insK;split
    · rename_i q
      refine Cu.mpr ⟨λz hz=>?_,h⟩;rcases At.mp hz with rfl|hz
      · exact zj7 q
      · exact z36 (zj7 q) (hy.1 z hz)
    · rename_i q
      refine Cu.mpr ⟨λz hz=>?_,zgr hy.2⟩;rcases At.mp ((zg7 x ys).mem_iff.mp hz) with rfl|hz
      · unfold leK;simpa using q
      · exact hy.1 z hz
theorem zdg:∀l:List KP,(zjv l).Pairwise leK
 |[]=>.nil
 |x::xs=>zgr (zdg xs)
theorem zez:∀{l l' : List KP},l.Perm l'->l.Pairwise leK->l'.Pairwise leK->(∀x∈l,∀y∈l,x.1=y.1->x=y)->l=l'
  |[],l',p,_,_,_=>p.nil_eq
  |x::xs,[],p,_,_,_=>by simpa using p.length_eq
  | x::xs,y::ys,p,h1,h2,hu=>by
    have a1:=Cu.mp h1;have a2:=Cu.mp h2;have hy:y∈x::xs:=p.mem_iff.mpr Av;have hx:x∈y::ys:=p.mem_iff.mp Av;have exy:x=y:=by
      rcases At.mp hy with e|hy'
      · exact e.symm
      · rcases At.mp hx with e | hx'
        · exact e
        · exact hu x Av y hy (zji (show lexI x.1 y.1=false from a2.1 x hx') (show lexI y.1 x.1=false from a1.1 y hy'))
    subst exy;have p':=(List.perm_cons x).mp p;rw[zez p' a1.2 a2.2 λu hu' v hv=>hu u (As _ hu') v (As _ hv)]
inductive All2 {α β:Type} (R:α->β->Prop):List α->List β->Prop where
 |nil:All2 R [] []
 |cons {a b as bs} (h:R a b) (t:All2 R as bs):All2 R (a::as) (b::bs)
theorem All2.perm {α β:Type}{R:α->β->Prop}{bs bs' : List β} (p:bs.Perm bs'):∀{as:List α},All2 R as bs->∃as',as.Perm as'/\All2 R as' bs':=by
  induction p with
  |nil=>exact λh=>⟨_,.refl _,h⟩
  | cons x p ih =>
    intro as h;cases h with
    | cons h t =>
      obtain⟨as',q1,q2⟩:=ih t;exact⟨_,q1.cons _,.cons h q2⟩
  | swap x y l =>
    intro as h;cases h with
    | cons h1 t =>
      cases t with
      |cons h2 t=>exact⟨_,.swap _ _ _,.cons h2 (.cons h1 t)⟩
  | trans p1 p2 ih1 ih2 =>
    intro as h;obtain⟨as1,q1,h1⟩:=ih1 h;obtain⟨as2,q2,h2⟩:=ih2 h1;exact⟨as2,q1.trans q2,h2⟩
theorem All2.pair {α β:Type}{R:α->β->Prop}{P:α->α->Prop}{Q:β->β->Prop} (hPQ:∀a b a' b',R a b->R a' b'->Q b b'->P a a'):∀{as:List α}{bs:List β},All2 R as bs->bs.Pairwise Q->as.Pairwise P
  |_,_,.nil,_=>.nil
  | _,_,.cons h t,hp=>by
    have hc:=Cu.mp hp;refine Cu.mpr ⟨fun a' ha'=>?_,All2.pair hPQ t hc.2⟩;have:∀{as:List α}{bs:List β},All2 R as bs->a'∈as->∃b',b'∈bs/\R a' b':=by
      intro as bs h
      induction h with
      |nil=>intro z;cases z
      | cons h t ih =>
        intro z;rcases At.mp z with rfl|z
        · exact⟨_,Av,h⟩
        · obtain ⟨b', q1, q2⟩ := ih z
          exact⟨b',As _ q1,q2⟩
    obtain⟨b',hb',hr⟩:=this t ha';exact hPQ _ _ _ _ h hr (hc.1 b' hb')
noncomputable def zww:List W->Option (List Int)
 |[]=>some []
 |.int i::ws=>(zww ws).bind λis=>some (i::is)
 |_=>none
noncomputable def kI:W->Option (List Int)
 |.int i=>some [i]
 |_=>none
noncomputable def kT:W->Option (List Int)
 |.tup [.int i,.tup xs]=>(zww xs).bind λis=>some (i::is)
 |_=>none
noncomputable def mapO {α β:Type} (f:α->Option β):List α->Option (List β)
 |[]=>some []
 |a::as=>(f a).bind λb=>(mapO f as).bind λbs=>some (b::bs)
noncomputable def zfr:List (List Int)->Bool
 |[]=>true
 |x::xs=>xs.all (λy=>decide (x≠y)) && zfr xs
theorem zf8:∀{l:List (List Int)},zfr l=true->l.Nodup
  |[],_=>Ga
  | x::xs,h=>by
    unfold zfr at h;rw[Ad] at h;refine Da.mpr ⟨λz=>?_,zf8 h.2⟩;have:=Ay.mp h.1 x z;simp at this
noncomputable def zwz (ks ws:List W):Option (List W):=((mapO kI ks).orElse λ_=>mapO kT ks).bind λkl=>if zfr kl && decide (kl.length=ws.length) then some ((zjv (kl.zip ws)).map (·.2)) else none
noncomputable def Cx.inn (X:Cx):Cx:={ X with A:=X.A.in1.in1 }
section
variable {X:Cx}{pins:List (Addr × Obj)}{σ:St}{H:Hp}{s:Shared}
theorem Cx.Ok.inn (o:X.Ok):X.inn.Ok:=⟨o.mod,o.kind,o.glob,o.blt,o.above,o.inj,o.has,o.cab,o.hd,o.frames,o.stk,o.exf,o.bs,o.bsz,o.noex,o.exfs,o.funs,o.frf⟩
theorem Cx.Ok.out (o:X.inn.Ok):X.Ok:=⟨o.mod,o.kind,o.glob,o.blt,o.above,o.inj,o.has,o.cab,o.hd,o.frames,o.stk,o.exf,o.bs,o.bsz,o.noex,o.exfs,o.funs,o.frf⟩
theorem Inv.inn (I:Inv X pins σ H s):Inv X.inn pins σ H s:=⟨I.ok.inn,I.os,I.bare,I.base,I.loc,I.cell,I.free,I.freeC,I.pin,I.hok,I.len⟩
theorem Inv.out (I:Inv X.inn pins σ H s):Inv X pins σ H s:=⟨I.ok.out,I.os,I.bare,I.base,I.loc,I.cell,I.free,I.freeC,I.pin,I.hok,I.len⟩
theorem Inv.adopt {h' : Heap}{t' : Nat}{ch:List Addr}{T:Addr}{o:HO} (I:Inv X pins σ H s) (k:∀b o,b ∉ ch->s.heap.get? b=some o->h'.get? b=some o) (hch:∀b∈ch,FpOk X pins H b) (hT:T∈ch)
  (new:ObjOk X.prog X.w (upd H T o) h' T o):Inv X pins σ (upd H T o) { s with heap:=h',toks:=t' }:=by
 have hn:H T=none:=(hch T hT).1;have nch:∀b u,H b=some u->b ∉ ch:=λb u e hb=>by rw[(hch b hb).1] at e;exact noSome e
 refine I.step (g':=s.gens) (d':=s.drawn) (ch:=ch) (λb hb=>⟨(hch b hb).2.2.2.1,(hch b hb).2.1,(hch b hb).2.2.2.2.1,(hch b hb).2.2.2.2.2⟩) (λb o _ _ hc e _=>k b o hc e) (λb o _ _ hc e _=>⟨o.slots,k b o hc e⟩) (λb u hc e n=>by rw[upd_ne (λz=>hc (by rw[z];exact hT))];exact n)
  (λb u hc e=>⟨u,k b u hc e⟩) (λb xs e=>by rw[upd_ne (zab e hn)];exact e) (λb u xs e=>by rw[upd_ne (zab e hn)];exact e) (λb ps e=>⟨#[],by rw[upd_ne (zab e hn),e];simp⟩) (λm hm=>?_) (λb u e=>?_) I.bare
 ·obtain⟨o,es,ep,ho,r⟩:=hm;exact⟨o,es,ep,k _ o (λz=>(hch _ z).2.1 rfl) ho,r⟩
 ·by_cases hb : b = T
  ·subst hb;rw[upd_same] at e;obtain rfl:=sI e;exact new
  ·rw[upd_ne hb] at e;refine (I.hok b u e).stay (λc v hc q=>k c v ?_ q) (λc q=>by rw[upd_ne (zab q hn)];exact q) λc xs q=>by rw[upd_ne (zab q hn)];exact q
   rcases hc with z|z
   ·rw[z];exact nch b u e
   ·exact nch c _ z
structure KCall (X:Cx) (f:Value) (Φ:W->Option W) (Al:List (Addr × Obj)->Hp->Prop):Prop where
 mono:∀{pins pins' : List (Addr × Obj)}{F F' : Hp},Al pins F->(∀p∈pins,p∈pins')->Same F F'->Al pins' F'
 run:∀(pins:List (Addr × Obj)) (s:Shared) (σ:St) (H F:Hp) (pr:Prt) (en:En) (w k:W) (v:V) (u:Value),Al pins F->Inv X pins σ H s->Rel X.K F pr en σ H->Rep X.K F w v->RelV v u->Φ w=some k ->
  wpAny (model X.prog X.w) X.A (call f [u]) (λu' s'=>∃v' F' H',Inv X pins σ H' s'/\Same F F'/\Rel X.K F' pr en σ H'/\RelV v' u'/\Rep X.K F' k v') (λ_ _=>False) s
structure Apart (X:Cx) (pins:List (Addr × Obj)) (b:Addr):Prop where
 l:b≠X.env.locals
 f:b ∉ X.fs
 x:b∈X.ex\/X.s₀.heap.objs.size<=b
 c:∀x c,X.env.cells.lookup x=some c->c≠b
 p:∀p∈X.pn++pins,p.1≠b
theorem Apart.fp {b:Addr}(a:Apart X pins b)(h:H b=none):FpOk X pins H b:=⟨h,a.l,a.f,a.x,a.c,a.p⟩
theorem FpOk.apart {b:Addr}(h:FpOk X pins H b):Apart X pins b:=⟨h.2.1,h.2.2.1,h.2.2.2.1,h.2.2.2.2.1,h.2.2.2.2.2⟩
theorem zfz {α β:Type}{f:α->Option β}:∀{as:List α}{bs:List β}{i:Nat}{a:α},mapO f as=some bs->as[i]?=some a->∃b,f a=some b/\bs[i]?=some b
  |[],_,_,_,_,h=>by simp at h
  | x::xs,bs,i,a,e,h=>by
    obtain⟨b,h1,e⟩:=bS e;obtain⟨bs',h2,e⟩:=bS e;obtain rfl:=sI e;cases i with
    |zero=>simp at h;subst h;exact⟨b,h1,rfl⟩
    | succ i =>
      obtain⟨c,q1,q2⟩:=zfz (i:=i) h2 (by simpa using h);exact⟨c,q1,by simpa using q2⟩
theorem zfu {α β:Type}{f:α->Option β}:∀{as:List α}{bs:List β},mapO f as=some bs->bs.length=as.length
  |[],_,e=>by obtain rfl:=sI e;rfl
  | x::xs,bs,e=>by
    obtain⟨b,h1,e⟩:=bS e;obtain⟨bs',h2,e⟩:=bS e;obtain rfl:=sI e;exact congrArg (· + 1) (zfu h2)
theorem zxc {f:Value}{Φ:W->Option W}{Al:List (Addr × Obj)->Hp->Prop} (KC:KCall X f Φ Al) {F:Hp}{pr:Prt}{en:En}{a kS:Addr}{e1:Nat}{vs:List Value}{vvs:List V}{ws ks:List W}{P:PySem.Fin->Shared->Prop}{E:Value->Shared->Prop}
  (I:Inv X ((kS,seqObj "list" #[] 0)::(a,seqObj "list" #[] e1)::pins) σ H s) (al:Al pins F) (R:Rel X.K F pr en σ H) (rv:Vals vvs vs) (rw' : Reps X.K F ws vvs) (hk:mapO Φ ws=some ks) (hz:vs.length<=sizeLine)
  (ap:Apart X ((a,seqObj "list" #[] e1)::pins) kS)
  (fin:∀s' H' F' keys e kvs,Inv X ((kS,seqObj "list" keys e)::(a,seqObj "list" #[] e1)::pins) σ H' s'->Same F F'->Rel X.K F' pr en σ H'->Vals kvs keys.toList->Reps X.K F' ks kvs->wpAny (model X.prog X.w) X.A (ksk_end a false vs.toArray e1 (.ref kS) keys) P E s') :
  wpAny (model X.prog X.w) X.A (ksk_rest a f false vs.toArray e1 (.ref kS)) P E s:=by
 have lw:ws.length=vs.length:=by rw[rw'.length,rv.length]
 have lk:ks.length=vs.length:=by rw[zfu hk,lw]
 unfold ksk_rest;refine Aa (Eg ?_);rw[List.forIn_toArray];refine Aa (ksk_fold (λi s'=>∃H' F' keys e kvs,Inv X ((kS,seqObj "list" keys e)::(a,seqObj "list" #[] e1)::pins) σ H' s'/\Same F F'/\Rel X.K F' pr en σ H'/\Vals kvs keys.toList/\Reps X.K F' (ks.take i) kvs) vs 0 s
  ⟨H,F,#[],0,[],I,.refl F,R,.nil,.nil⟩ ?step ?done)
 case step =>
  rintro j x s' hx ⟨H',F',keys,e,kvs,I',s1,R',rk,rp⟩;simp only [Cf] at rp ⊢;have hj:j<vs.length:=(Ai.mp hx).1;obtain⟨w,hw⟩ : ∃w,ws[j]?=some w:=⟨_,Ae #v[]⟩;nofun;obtain⟨k,hk1,hk2⟩:=zfz hk hw;obtain⟨v,hv,rp1⟩:=rw'.get hw;obtain⟨u,hu,ru⟩:=rv.get hv;ac_rfl;rw[hx] at hu;obtain rfl:=sI hu;have zk:keys.size<=vs.length:=by
   have a1:kvs.length=keys.size:=rk.length.trans Bp;have a2:min j ks.length=kvs.length:=by rw[<-Dp];exact rp.length
   omega
  refine Aa (Fv (Dc (KC.run _ s' σ H' F' pr en w k v x (KC.mono al (λp hp=>As _ (As _ hp)) s1) I' R' (rp1.mono s1) ru hk1) (λu' s2 he=>?_) λ_ _ hF=>hF.elim));nofun;obtain⟨v',F2,H2,I2,s2',R2,ru',rp2⟩:=he;obtain⟨g1,g2,_,_,_⟩:=I2.pin (kS,seqObj "list" keys e) (Aw _ Av);ac_rfl
  try dsimp only
  refine Aa (Fp g1 rfl ?_ #v[] (Bv (Nat.le_of_eq (Array.size_push ..)) #v[]));have sb:=Cb s2.heap kS (Obj.mapSeq (·.push u'));obtain⟨c2,hc2⟩ : ∃c2,(s2.heap.update kS (Obj.mapSeq (·.push u'))).get? kS=some (seqObj "list" (keys.push u') c2):=⟨_,Gj g1 (·.push u')⟩;have I3:Inv X ((a,seqObj "list" #[] e1)::pins) σ H2 s2:=I2.pins_of λp hp=>I2.pin p (Aw _ (As _ hp));have I4:Inv X ((a,seqObj "list" #[] e1)::pins) σ H2 { s2 with heap:=s2.heap.update kS (Obj.mapSeq (·.push u')) }:=I3.turned (t':=s2.toks) (it:=kS) (λb o hb eb=>(sb.2 b hb).trans eb) g2 ap.l ap.x ap.c ap.p;refine Ag ⟨rfl,H2,F2,keys.push u',c2,kvs++[v'],?_,s1.trans s2',R2,?_,?_⟩
  ·refine I4.pins_of λp hp => ?_;rcases At.mp hp with rfl|hp
   ·exact⟨hc2,g2,ap.l,ap.f,λv z=>by cases z⟩
   ·exact I4.pin p (Aw _ hp)
  ·rw[Dl];exact Vals.append rk (.cons ru' .nil)
  ·rw[Hg,hk2];exact (rp.mono s2').append (.cons rp2 .nil)
 case done =>
  rintro s' ⟨H',F',keys,e,kvs,I',s1,R',rk,rp⟩;rw[Cf,List.take_of_length_le #v[]] at rp;obtain⟨g1,_⟩:=I'.pin (kS,seqObj "list" keys e) (Aw _ Av)
  try dsimp only
  refine Aa (listItems_at g1 rfl ?_);exact fin s' H' F' keys e kvs I' s1 R' rk rp
end
noncomputable def intV:V->Option Int
 |.int j=>some j
 |_=>none
noncomputable def kfV (H:Hp):Value->List Int
  |.int n _=>[n]
  | .ref a=>match H a with
    | some (.tup [.int i,.ref b])=>(match H b with
      |some (.tup vs)=>i::vs.filterMap intV
      |_=>[])
    |_=>[]
  |_=>[]
theorem zgj:∀is:List Int,(is.map V.int).filterMap intV=is
 |[]=>rfl
 |i::is=>by rw[Ah,Gv];show i::_=_;rw[zgj is]
theorem zhp {K:PySem.W.Frag}{F:Hp}:∀{ws:List W}{is:List Int}{vs:List V},zww ws=some is->Reps K F ws vs->vs=is.map V.int
  |[],_,_,e,r=>by obtain rfl:=sI e;cases r;rfl
  | w::ws,is,vs,e,r=>by
    cases w with
    | int i =>
      obtain⟨is',h,e⟩:=bS (show (zww ws).bind _=_ from e);obtain rfl:=sI e;cases r with
      | cons h1 r =>
        cases h1;rw[zhp h r];rfl
    |_=>exact noSome e
theorem zgw {is:List Int}{its:List Value} (h:Vals (is.map V.int) its):IntsAre its is:=by
  induction is generalizing its with
  |nil=>cases h;exact .nil
  | cons i is ih =>
    cases h with
    | cons h1 t =>
      obtain⟨t1,rfl⟩:=h1;exact .cons i t1 (ih t)
section
variable {X:Cx}{pins:List (Addr × Obj)}{σ:St}{H F:Hp}{s:Shared}
theorem zt1 {k:W}{kl:List Int}{v:V}{u:Value} (e:kI k=some kl) (r:Rep X.K F k v) (ru:RelV v u):(∃n t,u=.int n t/\kfV H u=[n])/\kfV H u=kl:=by
  cases k with
  | int i =>
    obtain rfl:=sI e;cases r;obtain⟨t,rfl⟩:=ru;exact⟨⟨i,t,rfl,rfl⟩,rfl⟩
  |_=>exact noSome e
theorem zru (I:Inv X pins σ H s) (sm:Same F H) {k:W}{kl:List Int}{v:V}{u:Value} (e:kT k=some kl) (r:Rep X.K F k v) (ru:RelV v u):KeyT s.heap u kl/\kfV H u=kl:=by
  unfold kT at e;split at e
  · rename_i i xs
    obtain⟨is,hi,e⟩:=bS e;obtain rfl:=sI e;cases r with
    | @tup ws a vs h rs =>
      cases rs with
      | @cons _ v1 _ vs1 h1 rs =>
        cases h1;cases rs with
        | @cons _ v2 _ vs2 h2 rs =>
          cases rs;cases h2 with
          | @tup _ b us hb rb =>
            have eu:=zhp hi rb;subst eu;cases (show u=Value.ref a from ru);nofun;obtain⟨its,r1,t1,_⟩:=I.tuple (.inl (.inl (sm _ _ h)));obtain⟨its2,r2,t2,_⟩:=I.tuple (.inl (.inl (sm _ _ hb)));ac_rfl;cases r1 with
            | cons q1 r1 =>
              cases r1 with
              | cons q2 r1 =>
                cases r1;obtain⟨t,rfl⟩:=q1;cases (show _=Value.ref b from q2);refine⟨⟨a,b,i,t,is,its2,.ref b,rfl,rfl,t1,rfl,t2,zgw r2⟩,?_⟩;show (match H a with|some (.tup [.int i,.ref b])=>_|_=>_)=_;rw[sm _ _ h];show (match H b with|some (.tup vs)=>i::vs.filterMap intV|_=>[])=_;rw[sm _ _ hb];show i::_=_;rw[zgj]
  · exact noSome e
theorem zxe {keys:Array Value}{vs:List Value}{ks:List W}{kvs:List V}{kl:List (List Int)}{A:Around}{E:Value->Shared->Prop} (I:Inv X pins σ H s) (sm:Same F H) (hu:A.units+2 < cLine) (rk:Vals kvs keys.toList) (rp:Reps X.K F ks kvs) (hkl:((mapO kI ks).orElse fun _=>mapO kT ks)=some kl) (hl:keys.size=vs.length) :
    ∃κ:SortKind,(2<=vs.length->∀Q' : SortKind->Shared->Prop,Q' κ s->wpAny (model X.prog X.w) A (keyKind' keys) Q' E s)/\Tim.Asks X.prog X.w A E s κ (keys.zip vs.toArray) (λx y=>lexI (kfV H x.1) (kfV H y.1))/\keys.toList.map (kfV H)=kl:=by
  have lk:ks.length=keys.size:=by rw[rp.length,rk.length,Bp]
  have mem:∀x∈(keys.zip vs.toArray).toList,∃i,keys.toList[i]?=some x.1:=fun x hx=>by
    rw[ksk_zip] at hx;obtain⟨a,b⟩:=x;have:=(Dx hx).1;obtain⟨i,hi,e⟩:=Cm.mp this;exact⟨i,by rw[Ae hi,e]⟩
  have back:∀(f:W->Option (List Int)),mapO f ks=some kl->(∀(k:W) (l:List Int) (v:V) (u:Value),f k=some l->Rep X.K F k v->RelV v u->kfV H u=l)->keys.toList.map (kfV H)=kl:=fun f hf hk=>by
    apply Dk;intro i;rw[Ap];by_cases hi:i<keys.size
    · obtain ⟨k, ek⟩ : ∃ k, ks[i]? = some k := ⟨_, Ae (by omega)⟩
      nofun;obtain⟨l,e1,e2⟩:=zfz hf ek;obtain⟨v,ev,rv⟩:=rp.get ek;obtain⟨u,eu,ru⟩:=rk.get ev;ac_rfl;rw[eu,e2];exact congrArg some (hk k l v u e1 rv ru)
    · rw[Ck (by simpa using hi),Ck (by rw[zfu hf];omega)];rfl
  have at' : ∀(f:W->Option (List Int)),mapO f ks=some kl->∀(i:Nat) (u:Value),keys.toList[i]?=some u->∃k l v,f k=some l/\Rep X.K F k v/\RelV v u:=fun f hf i u hu=>by
    have hi:i<keys.size:=by have:=(Ai.mp hu).1;simpa using this
    obtain⟨k,ek⟩ : ∃k,ks[i]?=some k:=⟨_,Ae #v[]⟩;nofun;obtain⟨l,e1,e2⟩:=zfz hf ek;obtain⟨v,ev,rv⟩:=rp.get ek;obtain⟨u',eu,ru⟩:=rk.get ev;ac_rfl;rw[hu] at eu;obtain rfl:=sI eu;exact⟨k,l,v,e1,rv,ru⟩
  cases q:mapO kI ks with
  | some kl' =>
    rw [q] at hkl;cases (show some kl'=some kl from hkl);have all:∀(i:Nat) (u:Value),keys.toList[i]?=some u->∃n t,u=.int n t/\kfV H u=[n]:=fun i u hu=>by
      nofun;obtain⟨k,l,v,e1,rv,ru⟩:=at' kI q i u hu;ac_rfl;exact (zt1 (H:=H) e1 rv ru).1
    refine⟨oneType',λh2 Q' hq=>?_,zoe λx hx=>?_,back kI q λk l v u e1 rv ru=>(zt1 (H:=H) e1 rv ru).2⟩
    · have ia:=intsAre_map keys.toList fun v hv=>by
        nofun;obtain⟨i,hi,e⟩:=Cm.mp hv;obtain⟨n,t,h,_⟩:=all i v (by rw[Ae hi,e]);ac_rfl;exact⟨n,t,h⟩
      rw[ksk_kind ia #v[]];exact Ag hq
    · obtain ⟨i, hi⟩ := mem x hx
      exact all i x.1 hi
  | none =>
    rw [q] at hkl;have hkl:mapO kT ks=some kl:=hkl;have all:∀(i:Nat) (u:Value),keys.toList[i]?=some u->KeyT s.heap u (kfV H u):=fun i u hu=>by
      nofun;obtain⟨k,l,v,e1,rv,ru⟩:=at' kT hkl i u hu;obtain⟨g1,g2⟩:=zru I sm e1 rv ru;ac_rfl;rw[g2];exact g1
    refine⟨tuples' true,λh2 Q' hq=>?_,zwy hu λx hx=>?_,back kT hkl λk l v u e1 rv ru=>(zru I sm e1 rv ru).2⟩
    · have kt:∃fs:List Value,PySem.W.KatTups s.heap keys.toList fs/\fs.length=keys.size/\∀v∈fs,∃n t,v=.int n t:=by
        have gen:∀l:List Value,(∀(i:Nat) (u:Value),l[i]?=some u->KeyT s.heap u (kfV H u))->∃fs:List Value,PySem.W.KatTups s.heap l fs/\fs.length=l.length/\∀v∈fs,∃n t,v=.int n t:=by
          intro l
          induction l with
          |nil=>exact λ_=>⟨[],trivial,rfl,λv hv=>by simp at hv⟩
          | cons u l ih =>
            intro h;nofun;obtain⟨fs,g1,g2,g3⟩:=ih λi v hv=>h (i+1) v (by simpa using hv);obtain⟨a,b,i,t,ns,its,c,e1,e2,q1,rfl,q2,q3⟩:=(h 0 u rfl).ex;obtain⟨o,k1,k2,n,k3⟩:=id q1;ac_rfl;subst e1;exact⟨.int i t::fs,PySem.W.KatTups.cons k1 k2 k3 rfl g1,by simpa using g2,λv hv=>(At.mp hv).elim (λz=>⟨i,t,z⟩) (g3 v)⟩
        nofun;obtain⟨fs,g1,g2,g3⟩:=gen keys.toList all;ac_rfl;exact⟨fs,g1,by simpa using g2,g3⟩
      refine aG fun _ qG=>?_;obtain ⟨fs,g1,g2,g3⟩:=kt;refine qG ?_;clear qG;have:=PySem.W.kat_kind (M:=model X.prog X.w) (A:=A) (E:=E) (s:=s) (T:=.type "int") (Q:=Q') g1 (by omega) (fun v hv=>by
        obtain⟨n,t,rfl⟩:=g3 v hv;exact .now) rfl hq
      rw[Fb] at this;exact this
    · obtain ⟨i, hi⟩ := mem x hx
      exact all i x.1 hi
end
section
variable {X:Cx}{pins:List (Addr × Obj)}{σ:St}{H F:Hp}{s:Shared}{pr:Prt}{en:En}
theorem zty {α:Type} [DecidableEq α] {β:Type}:∀{kl:List α}{ws:List β},kl.Nodup->∀x∈kl.zip ws,∀y∈kl.zip ws,x.1=y.1->x=y
  |[],_,_,x,hx,_,_,_=>by simp at hx
  |_::_,[],_,x,hx,_,_,_=>by simp at hx
  | k::kl,w::ws,nd,x,hx,y,hy,e=>by
    have n:=Da.mp nd;rw[Bl] at hx hy;rcases At.mp hx with rfl|hx
    · rcases At.mp hy with rfl | hy
      · rfl
      · have := (Dx (a := y.1) (b := y.2) hy).1
        exact absurd (by rw[<-e] at this;exact this) n.1
    · rcases At.mp hy with rfl | hy
      · have := (Dx (a := x.1) (b := x.2) hx).1
        exact absurd (by rw[e] at this;exact this) n.1
      · exact zty n.2 x hx y hy e
theorem zok {K:PySem.W.Frag}{F:Hp}{kf:Value->List Int}:∀{ku:List Value}{ws:List W}{vvs:List V}{vs:List Value},Vals vvs vs->Reps K F ws vvs->All2 (λ(z:KP) (x:Keyed)=>kf x.1=z.1/\∃v,RelV v x.2/\Rep K F z.2 v) ((ku.map kf).zip ws) (ku.zip vs)
 |[],_,_,_,_,_=>by simp;exact .nil
 |k::ku,_,_,_,.nil,.nil=>by simp;exact .nil
 |k::ku,_,_,_,.cons r rv,.cons h hr=>.cons ⟨rfl,_,r,h⟩ (zok rv hr)
theorem zow {K:PySem.W.Frag}{F:Hp}{kf:Value->List Int}:∀{zs:List KP}{r:List Keyed},All2 (fun (z:KP) (x:Keyed)=>kf x.1=z.1/\∃v,RelV v x.2/\Rep K F z.2 v) zs r->∃vs,Vals vs (r.map (·.2))/\Reps K F (zs.map (·.2)) vs
  |_,_,.nil=>⟨[],.nil,.nil⟩
  | _,_,.cons ⟨_,v,h1,h2⟩ t=>by
    obtain⟨vs,a,b⟩:=zow t;exact⟨v::vs,.cons h1 a,.cons h2 b⟩
theorem zqe {q l:Addr}{Φ:W->Option W}{Al:List (Addr × Obj)->Hp->Prop}{vvs:List V}{ws ks out:List W}{Q:VK}{E:Value->Shared->Prop} (KC:KCall X.inn (.ref q) Φ Al) (I:Inv X pins σ H s) (al:Al pins F) (R:Rel X.K F pr en σ H) (hl:SqL X.K H l vvs) (rws:Reps X.K F ws vvs)
  (hk:mapO Φ ws=some ks) (hs:zwz ks ws=some out) (hu:X.A.units+4<cLine) (h:∀F' H' v,Same F F'->Rel X.K F' pr en σ H'->Res X.K F' H' pr en σ (.lst out,true) v->Q v H') :
  wpAny (model X.prog X.w) X.A (call (.builtin "sorted") [.ref l] [(Str.ofString "key",.ref q)]) (EP X pins σ Q) E s:=by
 nofun;obtain⟨vs,rv,pl,hz⟩:=I.list hl;ac_rfl;have lv:vvs.length=vs.length:=rv.length;have hz' : vs.length<=sizeLine:=by omega
 have il:s.heap.IsList l vs.toArray:=by
  nofun;obtain⟨o,n,g1,g2,g3,g4⟩:=pl;ac_rfl;exact⟨o,g1,g2,_,g4⟩
 have lw:ws.length=vs.length:=by rw[rws.length,lv]
 have lk:ks.length=vs.length:=by rw[zfu hk,lw]
 refine call_function_entry_kw kind_sorted plain_sorted entry_sorted (ksk_s1 _ _) ?_;unfold Builtin.«sorted»;refine Aa (m:=checkCount "sorted" 1 1 _) (Ag ?_);refine Aa (collect_list il ?_ hz');refine Aa (Gz ?_ hz');have hsz:((s.heap.push (seqObj "list" #[] 0)).update s.heap.objs.size (Obj.mapSeq (·++vs.toArray))).objs.size=s.heap.objs.size+1:=by
  rw[Heap.size_update,size_push']
 have hoL:(((s.heap.push (seqObj "list" #[] 0)).update s.heap.objs.size (Obj.mapSeq (·++vs.toArray))).push (seqObj "list" vs.toArray 0)).get? (s.heap.objs.size+1)=some (seqObj "list" vs.toArray 0):=by
  rw[<-hsz];exact Ak _ rfl
 have keep:∀b o,s.heap.get? b=some o->(((s.heap.push (seqObj "list" #[] 0)).update s.heap.objs.size (Obj.mapSeq (·++vs.toArray))).push (seqObj "list" vs.toArray 0)).get? b=some o:=λb o q=>by
  have hlt:b<s.heap.objs.size:=Ao q;rw[Ht _ _ _ (by rw[hsz];exact Bc (Fx hlt)),Heap.get?_update_ne _ _ _ _ (Bc hlt),Ht _ _ _ (Bc hlt)];exact q
 have hsz3:(((s.heap.push (seqObj "list" #[] 0)).update s.heap.objs.size (Obj.mapSeq (·++vs.toArray))).push (seqObj "list" vs.toArray 0)).objs.size=s.heap.objs.size+2:=by rw[size_push',hsz]
 show wpAny _ _ _ _ _ { s with heap:=((s.heap.push (seqObj "list" #[] 0)).update s.heap.objs.size (Obj.mapSeq (·++vs.toArray))).push (seqObj "list" vs.toArray 0) };rw[hsz];generalize ((s.heap.push (seqObj "list" #[] 0)).update s.heap.objs.size (Obj.mapSeq (·++vs.toArray))).push (seqObj "list" vs.toArray 0)=h3 at hoL keep hsz3 ⊢;obtain⟨a,ea⟩ : ∃a,a=s.heap.objs.size+1:=⟨_,rfl⟩;rw[<-ea] at hoL ⊢;refine Aa (Cr (wpAny_call_entry_kw slot_list_sort ⟨_,hoL,rfl⟩ entry_list_sort ?body (ksk_l1 _ _)))
 case body =>
  show wpAny (model X.prog X.w) X.A.in1.in1 (Builtin.«list.sort» ⟨[.ref a],[(Str.ofString "key",.ref q)]⟩) _ _ _;rw[ksk_t1];have ha:a<h3.objs.size:=by omega
  have s1:=Cb h3 a (Obj.mapSeq λ_=>(#[]:Array Value));obtain⟨e1,ho1⟩ : ∃e1,(h3.update a (Obj.mapSeq λ_=>(#[]:Array Value))).get? a=some (seqObj "list" #[] e1):=⟨_,Gj hoL λ_=>#[]⟩;unfold ksk_tree;refine Aa (listItems_at hoL rfl ?_);refine Aa (Fp hoL rfl ?_ (by rw[Am];omega) (Bj _));refine Aa (seqEpoch_at ho1 rfl ?_);refine Aa (wpAny_newTuple ?_ hz');refine Aa (Gz ?_ (Bj _));refine Cr ?_;have hz4:((h3.update a (Obj.mapSeq λ_=>(#[]:Array Value))).push (seqObj "tuple" vs.toArray 0)).objs.size=s.heap.objs.size+3:=by rw[size_push',Heap.size_update,hsz3]
  show wpAny _ _ (ksk_rest a (.ref q) false vs.toArray e1 (.ref ((h3.update a (Obj.mapSeq λ_=>(#[]:Array Value))).push (seqObj "tuple" vs.toArray 0)).objs.size)) _ _ { s with heap:=((h3.update a (Obj.mapSeq λ_=>(#[]:Array Value))).push (seqObj "tuple" vs.toArray 0)).push (seqObj "list" #[] 0) };obtain⟨kS,ek⟩ : ∃kS,kS=((h3.update a (Obj.mapSeq λ_=>(#[]:Array Value))).push (seqObj "tuple" vs.toArray 0)).objs.size:=⟨_,rfl⟩;rw[<-ek] at hz4 ⊢;have kp6:∀b o,s.heap.get? b=some o->(((h3.update a (Obj.mapSeq λ_=>(#[]:Array Value))).push (seqObj "tuple" vs.toArray 0)).push (seqObj "list" #[] 0)).get? b=some o:=λb o eb=>by
   refine Ab _ (Ab _ ?_);have hlt:b<s.heap.objs.size:=Ao eb;exact (s1.2 b (Bc (by rw[ea];exact Fx hlt))).trans (keep b o eb)
  have ga:(((h3.update a (Obj.mapSeq λ_=>(#[]:Array Value))).push (seqObj "tuple" vs.toArray 0)).push (seqObj "list" #[] 0)).get? a=some (seqObj "list" #[] e1):=Ab _ (Ab _ ho1);have gk:(((h3.update a (Obj.mapSeq λ_=>(#[]:Array Value))).push (seqObj "tuple" vs.toArray 0)).push (seqObj "list" #[] 0)).get? kS=some (seqObj "list" #[] 0):=by rw[ek];exact Ak _ rfl
  generalize ((h3.update a (Obj.mapSeq λ_=>(#[]:Array Value))).push (seqObj "tuple" vs.toArray 0)).push (seqObj "list" #[] 0)=h6 at kp6 ga gk ⊢;have na:H a=none:=I.hok.fresh #v[];have nk:H kS=none:=I.hok.fresh #v[];have pa:Apart X pins a:=(I.fpOk (H':=H) #v[] na).apart;have pk:Apart X pins kS:=(I.fpOk (H':=H) #v[] nk).apart;have hak:kS≠a:=by omega
  have pk' : Apart X ((a,seqObj "list" #[] e1)::pins) kS:=⟨pk.l,pk.f,pk.x,pk.c,λp hp=>by
   rcases Bo.mp hp with z|z
   ·exact pk.p p (De _ z)
   ·rcases At.mp z with rfl|z
    ·exact hak.symm
    ·exact pk.p p (Aw _ z)⟩
  have I6:Inv X pins σ H { s with heap:=h6 }:=I.kept (t':=s.toks) kp6;have I7:Inv X ((kS,seqObj "list" #[] 0)::(a,seqObj "list" #[] e1)::pins) σ H { s with heap:=h6 }:=I6.pins_of λp hp=>by
   rcases At.mp hp with rfl|hp
   ·exact⟨gk,nk,pk.l,pk.f,λv z=>by cases z⟩
   ·rcases At.mp hp with rfl|hp
    ·exact⟨ga,na,pa.l,pa.f,λv z=>by cases z⟩
    ·exact I6.pin p (Aw _ hp)
  refine zxc (X:=X.inn) (pins:=pins) KC I7.inn al R rv rws hk hz' ⟨pk'.l,pk'.f,pk'.x,pk'.c,pk'.p⟩ λs' H' F' keys e kvs I8 s8 R8 rk rp=>?_;have I8':=I8.out;nofun;obtain⟨g1,g2,_⟩:=I8'.pin (kS,seqObj "list" keys e) (Aw _ Av);obtain⟨g3,g4,_⟩:=I8'.pin (a,seqObj "list" #[] e1) (Aw _ (As _ Av));ac_rfl;have hks:keys.size=vs.length:=by
   have a1:kvs.length=keys.size:=rk.length.trans Bp;have a2:ks.length=kvs.length:=rp.length;omega
  unfold zwz at hs;obtain⟨kl,hkl,hs⟩:=bS hs;split at hs
  ·rename_i dc;rw[Ad] at dc;nofun;obtain⟨κ,kd,C,ekl⟩:=zxe (A:=X.A.in1.in1) (E:=E) (vs:=vs) I8' R8.sub (by show X.A.units+1+1+2<cLine;omega) rk rp hkl hks;ac_rfl;refine zzt (kf:=kfV H') g1 g3 hak hks hz' kd C λr h' c pm pw ga' kp'=>⟨_,rfl,?_⟩;obtain⟨zs,p1,al2⟩:=All2.perm pm.symm (zok (K:=X.K) (F:=F') (kf:=kfV H') (ku:=keys.toList) rv (rws.mono s8));rw[ekl] at p1;have ps:zs.Pairwise leK:=All2.pair (P:=leK) (Q:=λx y:Keyed=>lexI (kfV H' y.1) (kfV H' x.1)=false) (λz x z' x' h1 h2 q=>by show lexI z'.1 z.1=false;rw[<-h1.1,<-h2.1];exact q) al2 pw;have ez:zs=zjv (kl.zip ws):=zez (p1.symm.trans (zfa _).symm) ps (zdg _) λx hx y hy=>zty (zf8 dc.1) x (p1.symm.mem_iff.mp hx) y (p1.symm.mem_iff.mp hy);obtain⟨ov,o1,o2⟩:=zow al2;have eo:out=zs.map (·.2):=by rw[ez];exact (sI hs).symm
   rw[<-eo] at o2;have lo:ov.length<=sizeLine:=by
    have:out.length=ov.length:=o2.length;have l2:out.length=zs.length:=by rw[eo,Ac]
    have l3:=p1.length_eq;rw[List.length_zip] at l3;omega
   have I9:Inv X pins σ H' s':=I8'.pins_of λp hp=>I8'.pin p (Aw _ (As _ (As _ hp)));have I10:Inv X pins σ (upd H' a (.lst ov)) { s' with heap:=h' }:=I9.adopt (t':=s'.toks) (ch:=[a,kS]) (λb o hb eb=>kp' b o (λz=>hb (by simp [z])) (λz=>hb (by simp [z])) eb) (λb hb=>by
    rcases At.mp hb with rfl|hb
    ·exact pa.fp g4
    ·rw[Aq.mp hb];exact pk.fp g2) Av ⟨lo,r.map (·.2),c,o1,ga'⟩
   refine Ag ⟨_,rfl,.ref a,_,I10,rfl,?_⟩;nofun;obtain⟨F9,s9,R9,y9⟩:=(Out.lst (K:=X.K) (F:=F') (H:=H') (p:=a) g4 o2).close R8;ac_rfl;exact h F9 _ _ (s8.trans s9) R9 y9
  ·exact noSome hs
end
section
variable {prog:Program}{w:World}{A:Around}{E:Value->Shared->Prop}{s:Shared}{a:Addr}{vs:List Value}{P:PySem.Fin->Shared->Prop}
noncomputable def kN:Value->List Int
 |.int n _=>[n]
 |_=>[]
theorem zko {ns:List Int}{n:Nat} (ho:s.heap.get? a=some (seqObj "list" vs.toArray n)) (ia:IntsAre vs ns) (hz:vs.length<=sizeLine)
  (h:∀(r:List Keyed) h' c,r.Perm (vs.zip vs)->r.Pairwise (λx y=>lexI (kN y.1) (kN x.1)=false)->h'.get? a=some (seqObj "list" (r.map (·.2)).toArray c)->(∀b o,b≠a->s.heap.get? b=some o->h'.get? b=some o)->P (.done (.ret .none)) { s with heap:=h' }) :
  wpAny (model prog w) A (Builtin.«list.sort» ⟨[.ref a],[]⟩) P E s:=by
 have lt:a<s.heap.objs.size:=Ao ho;have s1:=Cb s.heap a (Obj.mapSeq λ_=>(#[]:Array Value));rw[list_sort_plain];refine Aa (listItems_at ho rfl ?_);refine Aa (Fp ho rfl ?_ (by rw[Am];exact hz) (Bj _));obtain⟨e1,g1⟩ : ∃e1,(s.heap.update a (Obj.mapSeq λ_=>(#[]:Array Value))).get? a=some (seqObj "list" #[] e1):=⟨_,Gj ho λ_=>#[]⟩;refine Aa (seqEpoch_at g1 rfl ?_);refine Aa (wpAny_newTuple ?_ hz);refine Aa (Gz ?_ (Bj _));refine Cr ?_;have g6:(((s.heap.update a (Obj.mapSeq λ_=>(#[]:Array Value))).push (seqObj "tuple" vs.toArray 0)).push (seqObj "list" #[] 0)).get? a=some (seqObj "list" #[] e1):=Ab _ (Ab _ g1);have k6:∀b o,b≠a->s.heap.get? b=some o->(((s.heap.update a (Obj.mapSeq λ_=>(#[]:Array Value))).push (seqObj "tuple" vs.toArray 0)).push (seqObj "list" #[] 0)).get? b=some o:=λb o nb eb=>Ab _ (Ab _ ((s1.2 b nb).trans eb));show wpAny _ _ _ _ _ { s with heap:=((s.heap.update a (Obj.mapSeq λ_=>(#[]:Array Value))).push (seqObj "tuple" vs.toArray 0)).push (seqObj "list" #[] 0) };generalize ((s.heap.update a (Obj.mapSeq λ_=>(#[]:Array Value))).push (seqObj "tuple" vs.toArray 0)).push (seqObj "list" #[] 0)=h6 at g6 k6 ⊢;have zs:(vs.toArray.zip vs.toArray).size=vs.length:=by rw[Array.size_zip,Am,Gx]
 have fin:∀st:SortSt,(arrOf st).Perm (vs.toArray.zip vs.toArray)->Tim.Srt (λx y=>lexI (kN y.1) (kN x.1)=false) (arrOf st) 0 (vs.toArray.zip vs.toArray).size->P (.done (.ret .none)) { s with heap:=h6.update a (Obj.mapSeq λ_=>(arrOf st).map (·.2)) }:=λst hp hs=>by
  have s2:=Cb h6 a (Obj.mapSeq λ_=>(arrOf st).map (·.2));refine h (arrOf st).toList _ _ ?_ (Tim.srt_list (by rw[hp.size_eq];exact hs)) (by rw[<-Array.toList_map,Fb];exact Gj g6 λ_=>(arrOf st).map (·.2)) λb o nb eb=>(s2.2 b nb).trans (k6 b o nb eb);have:=Fc.mp hp;rw[ksk_zip] at this;exact this
 have fz:∀st:SortSt,(arrOf st).Perm (vs.toArray.zip vs.toArray)->((arrOf st).map (·.2)).size<=sizeLine+1:=λst hp=>by rw[Array.size_map,hp.size_eq,zs];omega
 dsimp only;by_cases h2:vs.toArray.size<2
 ·rw[if_pos h2,if_pos h2];refine Aa (Ag ?_);rw[StateT.run_pure];refine Aa (Ag ?_);dsimp only;have hp:(arrOf (SortSt.mk' general' (vs.toArray.zip vs.toArray) #[] 7 none)).Perm (vs.toArray.zip vs.toArray):=Array.Perm.refl _;refine Aa (seqEpoch_at g6 rfl ?_);refine Aa (Fp g6 rfl ?_ (Bj _) (fz _ hp));simp only [bne_self_eq_false,Cn,Ek];refine Ag (fin (SortSt.mk' general' (vs.toArray.zip vs.toArray) #[] 7 none) hp λi j _ h3 h4=>?_);rw[Am] at h2;omega
 ·rw [if_neg h2, if_neg h2];rw [Am] at h2;have iv:∀v∈vs,∃m t,v=.int m t/\kN v=[m]:=fun v hv=>by
   obtain⟨i,hi,e⟩:=Cm.mp hv;have hl:=ia.length;obtain⟨t,ht⟩:=ia.get i ns[i] (Ae #v[]);rw[Ae hi,e] at ht;obtain rfl:=sI ht;exact⟨_,t,rfl,rfl⟩
  have as:∀s,Tim.Asks prog w A E s oneType' (vs.toArray.zip vs.toArray) (λx y=>lexI (kN x.1) (kN y.1)):=λs=>zoe λx hx=>by
   rw[ksk_zip] at hx;exact iv x.1 (Dx (a:=x.1) (b:=x.2) hx).1
  rw[ksk_kind (keys:=vs.toArray) (by rw[List.toList_toArray];exact ia) (by rw[Am];omega)];refine Aa (Ag ?_);refine Aa (Dc (Tim.q_sort (bf:=λ_ _=>True) (st:=SortSt.mk' oneType' (vs.toArray.zip vs.toArray) #[] 7 none) (Q:=λ_ st'=>(arrOf st').Perm (vs.toArray.zip vs.toArray)/\failedOf st'=none/\Tim.Srt (λx y=>lexI (kN y.1) (kN x.1)=false) (arrOf st') 0 (vs.toArray.zip vs.toArray).size)
   (as _) (zrv kN) ⟨rfl,rfl,Array.Perm.refl _,rfl⟩ rfl (λ_ _ _ _ _ _=>trivial) λst' a1 a2 a3=>⟨a2,a1,a3⟩) ?_ λ_ _ e=>e)
  rintro ⟨⟨⟩,st'⟩ s' ⟨rfl,hp,hf,hs⟩;dsimp only;refine Aa (seqEpoch_at g6 rfl ?_);refine Aa (Fp g6 rfl ?_ (Bj _) (fz _ hp));rw[hf];simp only [bne_self_eq_false,Cn,Ek];exact Ag (fin st' hp hs)
end
noncomputable def zfl (ns:List Int):List Int:=(zjv (ns.map λn=>([n],W.int n))).map λz=>z.1.headD 0
noncomputable def pz (n:Int):KP:=([n],W.int n)
theorem zix (a b:Int):lexI [a] [b]=decide (a<b):=by
 unfold lexI;by_cases c:a<b
 ·have : ¬ a = b:=by omega
  simp [c,this]
 ·simp [c,lexI]
theorem zi8 {ns ms:List Int}(p:ms.Perm ns)(s:ms.Pairwise (·<=·)):zfl ns=ms:=by
 have e:ms.map pz=zjv (ns.map pz):=zez ((p.map pz).trans (zfa _).symm) (by
  rw[Dh];exact s.imp λ{a b} h=>by show lexI [b] [a]=false;rw[zix];exact Bg #v[]) (zdg _) λx hx y hy h=>by
   obtain⟨a,_,rfl⟩:=Bf.mp hx;obtain⟨b,_,rfl⟩:=Bf.mp hy;have:a=b:=by injection h
   rw[this]
 show (zjv (ns.map pz)).map _=ms;rw[<-e,Be];exact (Cz λa _=>rfl).trans (List.map_id ms)
section
variable {X:Cx}
theorem zgx:∀{l:List Keyed},(∀x∈l,x.2=x.1/\∃n t,x.1=.int n t)->Vals ((l.map fun x=>(kN x.1).headD 0).map V.int) (l.map (·.2))
  |[],_=>.nil
  | x::l,h=>by
    obtain⟨e,n,t,q⟩:=h x (.head _);refine .cons ?_ (zgx λy hy=>h y (.tail _ hy));show RelV (V.int ((kN x.1).headD 0)) x.2;rw[e,q];exact⟨t,rfl⟩
theorem zoa {vs:List Value}{x:Keyed} (h:x∈vs.zip vs):x.2=x.1/\x.1∈vs:=by
  induction vs with
  |nil=>exact absurd h Cp
  | cons v vs ih =>
    rw[Bl] at h;rcases At.mp h with rfl|h
    · exact⟨rfl,.head _⟩
    · exact⟨(ih h).1,.tail _ (ih h).2⟩
theorem zk4 {prog:Program}{w:World}{A:Around}{E:Value->Shared->Prop}{s:Shared}{l:Addr}{vs:List Value}{Q:List Value->Shared->Prop}{T:String}{o:Obj}{n:Nat} (hT:T = "list"\/T = "tuple") (ho:s.heap.get? l=some o) (hc:o.cls=.type T) (hd:o.data=.seq vs.toArray n)
  (h:Q vs { s with heap:=(s.heap.push (seqObj "list" #[] 0)).update s.heap.objs.size (Obj.mapSeq (·++vs.toArray)) }) (hsz:vs.length<=sizeLine) :
  wpAny (model prog w) A (collect (.ref l)) Q E s:=by
 unfold collect;refine Aa (wpAny_runValue (codeAny_builtin entry_proto_collect' ?_));show wpAny _ _ (do again (.builtin "list.__iadd__" ⟨[<-newList [],.ref l],[]⟩)) _ _ s;refine Aa (Gz (Ag ⟨Code.quiet_builtin _ #v[0,0,7],codeAny_builtin entry_list_iadd' ?_⟩));show wpAny _ _ (Builtin.List.listExtendWith (.ref s.heap.objs.size) (.ref l) (.ref s.heap.objs.size)) _ _ { s with heap:=s.heap.push (seqObj "list" #[] 0) };unfold Builtin.List.listExtendWith;have ho' : (s.heap.push (seqObj "list" #[] 0)).get? l=some o:=Ab _ ho;refine Aa (wpAny_typeOf (T:=T) ⟨o,ho',hc⟩ ?_);have ht:(Value.type T == Value.type "list" || Value.type T == Value.type "tuple")=true:=by rcases hT with rfl|rfl<;>rfl
 rw [if_pos (by rw [Bool.or_assoc,ht,Bool.or_true])];refine Aa (listItems_at ho' hd ?_);refine Aa (listItems_at (xs:=#[]) (n:=0) (Ak _ rfl) rfl ?_);rw [if_neg (by simp)];refine Aa (Fp (xs:=#[]) (n:=0) (Ak _ rfl) rfl ?_ (Bj _) (by show (#[]++vs.toArray).size<=sizeLine+1;simp only [Array.size_append,Am,Fj];omega));refine Ag ?_;show wpAny (model prog w) A (do
   let o <- load s.heap.objs.size
   match o.data with
   |.seq xs _=>pure xs.toList
   |_=>unsupported "internal:collect") Q E { s with heap:=(s.heap.push (seqObj "list" #[] 0)).update s.heap.objs.size (Obj.mapSeq (·++vs.toArray)) }
 refine Aa (wpAny_load (Gj (Ak _ rfl) _) ?_);show wpAny _ _ (pure ((#[]:Array Value)++vs.toArray).toList) Q E _;rw[show ((#[]:Array Value)++vs.toArray).toList=vs by simp];exact Ag h
theorem zp7:zc2 X (.builtin "sorted") (λxs H Q=>∃(l:Addr) (ns:List Int),xs=[.ref l]/\(SqL X.K H l (ns.map V.int)\/SqT X.K H l (ns.map V.int))/\∀p,H p=none->Q (.ref p) (upd H p (.lst ((zfl ns).map V.int)))):=by
 intro pins s σ H xs us Q I r h;obtain⟨l,ns,rfl,hq,q⟩:=h;obtain⟨u,rfl,rx⟩:=vals1 r;cases rx;obtain⟨vs,rv,T,o,n,hT,ho,hc,hd,hz⟩ : ∃vs,Vals (ns.map V.int) vs/\∃T o n,(T = "list"\/T = "tuple")/\s.heap.get? l=some o/\o.cls=.type T/\o.data=.seq vs.toArray n/\(ns.map V.int).length<=sizeLine:=by
  rcases hq with hq|hq
  ·obtain⟨vs,rv,⟨o,n,ho,hc,_,hd⟩,hz⟩:=I.list hq;exact⟨vs,rv,_,o,n,.inl rfl,ho,hc,hd,hz⟩
  ·obtain⟨vs,rv,⟨o,ho,hc,n,hd⟩,hz⟩:=I.tuple hq;exact⟨vs,rv,_,o,n,.inr rfl,ho,hc,hd,hz⟩
 have lv:ns.length=vs.length:=by have:=rv.length;rw[Ac] at this;exact this
 have hz' : vs.length<=sizeLine:=by rw[Ac] at hz;omega
 have ia:IntsAre vs ns:=zgw rv;refine call_function_entry_kw kind_sorted plain_sorted entry_sorted (args_sorted1 _) ?_;unfold Builtin.«sorted»;refine Aa (m:=checkCount "sorted" 1 1 _) (Ag ?_);refine Aa (zk4 hT ho hc hd ?_ hz');refine Aa (Gz ?_ hz');have hsz:((s.heap.push (seqObj "list" #[] 0)).update s.heap.objs.size (Obj.mapSeq (·++vs.toArray))).objs.size=s.heap.objs.size+1:=by
  rw[Heap.size_update,size_push']
 have hoL:(((s.heap.push (seqObj "list" #[] 0)).update s.heap.objs.size (Obj.mapSeq (·++vs.toArray))).push (seqObj "list" vs.toArray 0)).get? (s.heap.objs.size+1)=some (seqObj "list" vs.toArray 0):=by
  rw[<-hsz];exact Ak _ rfl
 have keep:∀b o,s.heap.get? b=some o->(((s.heap.push (seqObj "list" #[] 0)).update s.heap.objs.size (Obj.mapSeq (·++vs.toArray))).push (seqObj "list" vs.toArray 0)).get? b=some o:=λb o q=>by
  have hlt:b<s.heap.objs.size:=Ao q;rw[Ht _ _ _ (by rw[hsz];exact Bc (Fx hlt)),Heap.get?_update_ne _ _ _ _ (Bc hlt),Ht _ _ _ (Bc hlt)];exact q
 show wpAny _ _ _ _ _ { s with heap:=((s.heap.push (seqObj "list" #[] 0)).update s.heap.objs.size (Obj.mapSeq (·++vs.toArray))).push (seqObj "list" vs.toArray 0) };rw[hsz];generalize ((s.heap.push (seqObj "list" #[] 0)).update s.heap.objs.size (Obj.mapSeq (·++vs.toArray))).push (seqObj "list" vs.toArray 0)=h3 at hoL keep ⊢;obtain⟨a,ea⟩ : ∃a,a=s.heap.objs.size+1:=⟨_,rfl⟩;rw[<-ea] at hoL ⊢;refine Aa (Cr (wpAny_call_entry_kw slot_list_sort ⟨_,hoL,rfl⟩ entry_list_sort ?body (args_list_sort _)))
 case body =>
  refine zko (s:={ s with heap:=h3 }) hoL ia hz' λr h' c pm pw ga kp=>⟨_,rfl,?_⟩;have al:∀x∈r,x.2=x.1/\∃n t,x.1=Value.int n t:=λx hx=>by
   obtain⟨e1,e2⟩:=zoa (pm.mem_iff.mp hx);obtain⟨i,hi,e⟩:=Cm.mp e2;obtain⟨t,ht⟩:=ia.get i ns[i] (Ae #v[]);rw[Ae hi,e] at ht;exact⟨e1,_,t,sI ht⟩
  have pi:(r.map λx=>(kN x.1).headD 0).Perm ns:=by
   refine (pm.map _).trans ?_;have:∀{vs:List Value}{ns:List Int},IntsAre vs ns->(vs.zip vs).map (λx=>(kN x.1).headD 0)=ns:=λ{vs ns} h=>by
    induction h with
    |nil=>rfl
    |cons n t h ih=>rw[Bl,Ah,ih];rfl
   rw[this ia]
  have ps:(r.map λx=>(kN x.1).headD 0).Pairwise (·<=·):=by
   rw[Dh];refine pw.imp_of_mem λ{x y} hx hy z=>?_;obtain⟨_,n,t,e1⟩:=al x hx;obtain⟨_,m,t',e2⟩:=al y hy;rw[e1,e2] at z ⊢;have z:lexI [m] [n]=false:=z;rw[zix] at z;have:=Ha z;show n<=m;omega
  have eo:=zi8 pi ps;have rv':=zgx al;rw[<-eo] at rv';refine Ag ⟨_,rfl,.ref a,_,I.laid (t':=s.toks) (o:=.lst ((zfl ns).map V.int)) (λb o eb=>kp b o (λz=>Cj _ (Nat.lt_trans (Ao eb) (by rw[z,ea];exact Nat.lt_succ_self _))) (keep b o eb)) #v[] ?_,rfl,q a (I.hok.fresh #v[])⟩;exact⟨by rw[eo,Ac,pi.length_eq];omega,_,c,rv',ga⟩
end
noncomputable def zs0:ON
 |[w]=>(seqW w).bind λws=>(zb1 ws).bind λns=>#v[((zfl ns).map W.int),2]
 |_=>none
theorem zer {K:PySem.W.Frag}{F:Hp}:∀ns:List Int,Reps K F (ns.map W.int) (ns.map V.int)
 |[]=>.nil
 |n::ns=>.cons (.int n) (zer ns)
theorem zql {K:PySem.W.Frag}:OpSN K (fun xs H Q=>∃(l:Addr) (ns:List Int),xs=[.ref l]/\(SqL K H l (ns.map V.int)\/SqT K H l (ns.map V.int))/\∀p,H p=none->Q (.ref p) (upd H p (.lst ((zfl ns).map V.int)))) zs0:=fun F H ws vs rv Q s r e q=>by
  match ws,e with
  | [w],e =>
    nofun;obtain⟨ws,hs,e⟩:=bS (show (seqW _).bind _=_ from e);obtain⟨ns,hb,e⟩:=bS e;ac_rfl;obtain rfl:=sI e;nofun;obtain⟨v,e1,h⟩:=r.one;obtain⟨a,us,e2,hq,p⟩:=h.seqW s hs;ac_rfl;subst e1 e2;rw[zcr hb] at p;rw[p.ints] at hq;exact⟨a,ns,rfl,hq,λl hl=>q _ _ (.lst hl (zer _))⟩
structure Sx where
 N:List Str
 kd:List (Str × NameKind)
 bn:List Str
 fs:List (Str × (List Bool × Fn))
 mp:List Nat
 top:Bool
 nm:Str := ""
 dp:Nat:=0
noncomputable def Sx.rd (S:Sx) (x:Str):Option Nat:=if x == ("__debug__" : Str) || x == ("__classdict__" : Str) then none else match S.kd.lookup x with
 |some .local=>S.N.findIdx? (· == x)
 |some .cell=>S.N.findIdx? (· == x)
 |some .free=>S.N.findIdx? (· == x)
 |_=>none
noncomputable def Sx.wr (S:Sx) (x:Str):Option Nat:=match S.kd.lookup x with
 |some .local=>S.N.findIdx? (· == x)
 |some .cell=>S.N.findIdx? (· == x)
 |_=>none
noncomputable def Sx.bl (S:Sx) (x:Str):Bool:=S.kd.lookup x == some .globalImplicit && S.bn.contains x
structure CxOk (X:Cx) (S:Sx) (d:Nat):Prop where
 N:X.N=S.N
 nd:S.N.Nodup
 loc:∀x,S.kd.lookup x=some .local->X.env.scope.names.lookup x=some .local
 cel:∀x,S.kd.lookup x=some .cell->X.env.scope.names.lookup x=some .cell/\X.fn x=true
 vis:∀x,S.kd.lookup x=some .cell\/S.kd.lookup x=some .free->X.env.scope.names.lookup x=some .cell\/X.env.scope.names.lookup x=some .free
 gl:∀x,S.kd.lookup x=some .globalImplicit->Gl X x
 calm:X.calm=true
 xe:X.xe=λ_ _=>False
 bn:∀x∈S.bn,X.mg x=none
 fs:∀x m Φ,S.fs.lookup x=some (m,Φ)->∃ps,ps.length=m.length/\Cal X.prog X.w X.K X.mg X.base d x ps (spF X.K m Φ)
 room:Room d X.A
 sl:X.A.units+16 * d+205<cLine
 bk:X.env.blockKind=.function
 lam:S.nm∈lams->∃c P,PySem.W.tabIn X.K S.nm=some (c,P)/\PySem.W.codeHdIn X.K c P=true/\X.env.code=.ref c/\X.env.qual=S.nm++".<locals>."
 dpo:S.dp<=d
theorem zf7 {N:List Str}{x:Str}{i:Nat}(h:N.findIdx? (· == x)=some i):N[i]?=some x:=by
 obtain⟨hl,h1,_⟩:=List.findIdx?_eq_some_iff_getElem.mp h;rw[Ae hl];have:N[i]=x:=by simpa using h1
 rw[this]
section
variable {X:Cx}{S:Sx}{d:Nat}
theorem zg5 (C:CxOk X S d){x:Str}{i:Nat}{pos:Pos}(h:S.rd x=some i):PE X (.Name x pos) (tVar i):=by
 unfold Sx.rd at h;split at h
 ·exact noSome h
 ·rename_i z;rw[By,not_or,Bu,Bu] at z;split at h
  ·rename_i e;exact zrm (by rw[C.N];exact zf7 h) (.inl (C.loc x e)) z.1 z.2
  ·rename_i e;exact zrm (by rw[C.N];exact zf7 h) (.inr (C.vis x (.inl e))) z.1 z.2
  ·rename_i e;exact zrm (by rw[C.N];exact zf7 h) (.inr (C.vis x (.inr e))) z.1 z.2
  ·exact noSome h
theorem z2y (C:CxOk X S d){x:Str}{i:Nat}(h:S.wr x=some i):X.N[i]?=some x/\Loc X.env.scope x/\(X.fn x=true\/X.env.scope.names.lookup x=some .local):=by
 unfold Sx.wr at h;split at h
 ·rename_i e;exact⟨by rw[C.N];exact zf7 h,.inl (C.loc x e),.inr (C.loc x e)⟩
 ·rename_i e;exact⟨by rw[C.N];exact zf7 h,.inr (C.cel x e).1,.inl (C.cel x e).2⟩
 ·exact noSome h
theorem zjd (C:CxOk X S d){x:Str}(h:S.bl x=true):Gl X x/\X.mg x=none:=by
 unfold Sx.bl at h;rw[Ad] at h;exact⟨C.gl x (by simpa using h.1),C.bn x (by simpa using h.2)⟩
theorem ndN (C:CxOk X S d):X.N.Nodup:=by rw[C.N];exact C.nd
end
noncomputable def zk0:Expr->Bool
 |.Set ..=>false
 |_=>true
noncomputable def zcd:Expr->Bool
 |.Slice ..=>false
 |_=>true
noncomputable def zgs:Expr->Bool
 |.ListComp ..=>false
 |.SetComp ..=>false
 |.DictComp ..=>false
 |_=>true
noncomputable def zo6:Expr->Bool
 |.UnaryOp .Not _ _=>false
 |.BoolOp ..=>false
 |.IfExp ..=>false
 |.Compare ..=>false
 |_=>true
theorem zu7 {e:Expr}{env:Env}(h:zk0 e=true):∀x,foldedSetIterable e env x=pure x:=by
 intro x;cases e<;>first|rfl|(cases h)
theorem zfy {op:CmpOp}{e:Expr}(h:zk0 e=true):behindInMarks op e=false:=by
 cases e<;>first|rfl|(cases h)
theorem zhv {e:Expr}(h:zcd e=true):zta e:=λo i=>by
 cases e<;>first|rfl|(cases h)
theorem zn7 {e:Expr}{t:Option Expr}{l:Nat}{env:Env}(h:zgs e=true):swapsWith e t l env=pure false:=by
 cases e<;>first|rfl|(cases h)
theorem zqb {e:Expr}{env:Env}(h:zo6 e=true):∀whole,isTrue e env whole=(do let v <- whole;standAt e.pos;holding [v] (truthy v)):=by
 intro whole;cases e with
 |UnaryOp op _ _=>cases op<;>first|rfl|(cases h)
 |_=>first|rfl|(cases h)
theorem zi4 {es:List Expr}{env:Env}{pos:Pos} (h:es.all zaf=true):(backTo pos (starEach es env)).any (·.1)=false:=by
  induction es with
  |nil=>rfl
  | cons e es ih =>
    rw[Bk,Ad] at h;rw[zac h.1];show (false || (backTo pos (starEach es env)).any (·.1))=false;rw[ih h.2]
    rfl
noncomputable def cPow (i j:Int):Bool:=decide (0<=j) && decide (j<=1000000) && decide (i.natAbs<2 ^ 64)
noncomputable def cMul (i j:Int):Bool:=(decide (-(2 ^ 64)<i) && decide (i<2 ^ 64)) || (decide (-(2 ^ 64)<j) && decide (j<2 ^ 64))
noncomputable def zqt (i j:Int):Bool:=decide (Builtin.Int.intBits i<=2 ^ 20) && decide (Builtin.Int.intBits j<=2 ^ 20)
noncomputable def cDiv (i j:Int):Bool:=decide (0<j) && decide (j.natAbs.log2<9000)
noncomputable def yes2 (_ _:Int):Bool:=true
noncomputable def oAdd:O2:=oOr (oI yes2 λi j=>.int (i+j)) (oOr oCat (oOr zw2 (oOr z2l zw1)))
noncomputable def oMult:O2:=oOr (oI cMul λi j=>.int (i * j)) (oOr (oI zqt λi j=>.int (i * j)) oRep)
noncomputable def binO:Operator->Option O2
 |.Add=>some oAdd
 |.Sub=>some #v[0,0,0]
 |.Mult=>some oMult
 |.FloorDiv=>some #v[0,0,3]
 |.Mod=>some #v[0,0,2]
 |.Pow=>some (oI cPow λi j=>.int (i ^ j.toNat))
 |.LShift=>some #v[0,0,1]
 |.RShift=>some (oI (λ_ j=>decide (0<=j)) λi j=>.int (i / 2 ^ j.toNat))
 |.BitAnd=>some (oI yes2 λi j=>.int (Builtin.bitAnd i j))
 |.BitOr=>some (oI yes2 λi j=>.int (Builtin.bitOr i j))
 |.BitXor=>some (oI yes2 λi j=>.int (Builtin.bitXor i j))
 |_=>none
theorem zuo {i j:Int}(h:cPow i j=true):CPow i j:=by
 unfold cPow at h;rw[Ad,Ad] at h;exact⟨Ar h.1.1,Ar h.1.2,Ar h.2⟩
theorem z05 {i j:Int}(h:cMul i j=true):CMul i j:=by
 unfold cMul at h;rw[By,Ad,Ad] at h;rcases h with h|h
 ·exact .inl ⟨Ar h.1,Ar h.2⟩
 ·exact .inr ⟨Ar h.1,Ar h.2⟩
theorem zxv {i j:Int}(h:zqt i j=true):z3r i j:=by
 unfold zqt at h;rw[Ad] at h;exact⟨Ar h.1,Ar h.2⟩
theorem z1y {i j:Int}(h:cDiv i j=true):0<j/\j.natAbs.log2<9000:=by
 unfold cDiv at h;rw[Ad] at h;exact⟨Ar h.1,Ar h.2⟩
section
variable {X:Cx}
theorem z0l {op:Operator}{o:O2}(h:binO op=some o):∃r,OpR X (binaryOp op) r/\OpS X.K r o:=by
 cases op with
 |Add=>obtain rfl:=sI h;exact⟨_,z4l.or (z5k.or (z1h.or (z11.or zqv))),(zej λ_ _ _=>.int _).or (z20.or (zye.or (zyd.or zwn)))⟩
 |Sub=>obtain rfl:=sI h;exact⟨_,z48,zej λ_ _ _=>.int _⟩
 |Mult=>obtain rfl:=sI h;exact⟨_,z3q.or (z1q.or z3m),(znl (λ_ _=>z05) λ_ _ _=>.int _).or ((znl (λ_ _=>zxv) λ_ _ _=>.int _).or z0t)⟩
 |FloorDiv=>obtain rfl:=sI h;exact⟨_,zxi,znl (λ_ _=>z1y) λ_ _ _=>.int _⟩
 |Mod=>obtain rfl:=sI h;exact⟨_,z4k,znl (λ_ _=>Ar) λ_ _ _=>.int _⟩
 |Pow=>obtain rfl:=sI h;exact⟨_,z3j,znl (λ_ _=>zuo) λ_ _ _=>.int _⟩
 |LShift=>obtain rfl:=sI h;exact⟨_,z4r,znl (λ_ _=>zuo) λ_ _ _=>.int _⟩
 |RShift=>obtain rfl:=sI h;exact⟨_,z39,znl (λ_ _=>Ar) λ_ _ _=>.int _⟩
 |BitAnd=>obtain rfl:=sI h;exact⟨_,z4z,zej λ_ _ _=>.int _⟩
 |BitOr=>obtain rfl:=sI h;exact⟨_,z8j,zej λ_ _ _=>.int _⟩
 |BitXor=>obtain rfl:=sI h;exact⟨_,z4y,zej λ_ _ _=>.int _⟩
 |_=>exact noSome h
noncomputable def cmpO:CmpOp->Option O2
 |.Eq=>some oEq
 |.NotEq=>some oNe
 |.Lt=>some (oI yes2 λi j=>.bl (decide (i<j)))
 |.LtE=>some (oI yes2 λi j=>.bl (decide (i<=j)))
 |.Gt=>some (oI yes2 λi j=>.bl (decide (j<i)))
 |.GtE=>some (oI yes2 λi j=>.bl (decide (j<=i)))
 |_=>none
theorem zz8 {kr:Nat}(hr:Room kr X.A){op:CmpOp}{o:O2}(h:cmpO op=some o):∃r,OpR X (compareOp op) r/\OpS X.K r o:=by
 cases op with
 |Eq=>obtain rfl:=sI h;exact⟨_,.or z7h (z4p hr),z6t⟩
 |NotEq=>obtain rfl:=sI h;exact⟨_,.or z7v (z3p hr),z4u⟩
 |Lt=>obtain rfl:=sI h;exact⟨_,z6z,zej λ_ _ _=>.bl _⟩
 |LtE=>obtain rfl:=sI h;exact⟨_,z8e,zej λ_ _ _=>.bl _⟩
 |Gt=>obtain rfl:=sI h;exact⟨_,z63,zej λ_ _ _=>.bl _⟩
 |GtE=>obtain rfl:=sI h;exact⟨_,z69,zej λ_ _ _=>.bl _⟩
 |_=>exact noSome h
end
noncomputable def za5 (f:Sx->Expr->Option GE) (S:Sx) (e:Expr):Option GA:=match e with
 |.Name x _=>(S.rd x).bind λi=>some (zaa i)
 |_=>(f S e).bind λg=>some (gArg g)
noncomputable def asL (f:Expr->Option GA):List Expr->Option GAs
 |[]=>some gA0
 |e::es=>if zaf e then (f e).bind λa=>(asL f es).bind λas=>some (gCns a as) else none
noncomputable def asM (f:Sx->Expr->Option GE) (S:Sx):List Expr->List Bool->Option GAs
 |[],[]=>some gA0
 |e::es,b::m=>if zaf e then (if b then za5 f S e else (f S e).bind λg=>some (gArg g)).bind λa=>(asM f S es m).bind λas=>some (gCns a as) else none
 |_,_=>none
noncomputable def za7 (f:Sx->Expr->Option GE):Prop:=∀X S d,CxOk X S d->∀e g,f S e=some g->PE X e (tE X.K g)
noncomputable def zj1 (f:Sx->Expr->Option GT):Prop:=∀X S d,CxOk X S d->∀e g,f S e=some g->PT X e (tT X.K g)
section
variable {X:Cx}{S:Sx}{d:Nat}{f:Sx->Expr->Option GE}
theorem zae (Hf:za7 f)(C:CxOk X S d){e:Expr}{a:GA}(h:za5 f S e=some a):PE X e (tA X.K a):=by
 unfold za5 at h;split at h
 ·obtain⟨i,hi,h⟩:=bS h;obtain rfl:=sI h;exact (zg5 C hi).wk λ_ _ _=>zt4
 ·obtain⟨g,hg,h⟩:=bS h;obtain rfl:=sI h;exact (Hf X S d C _ _ hg).wk λ_ _ _=>ziu
theorem zgo {fa:Expr->Option GA} (Hf:∀e a,fa e=some a->PE X e (tA X.K a)):∀{es:List Expr}{as:GAs},asL fa es=some as->PA X es (tAs X.K as)/\es.all zaf=true
  |[],_,h=>by obtain rfl:=sI h;exact⟨zfg.wk λ_ _ _=>zoy,rfl⟩
  | e::es,_,h=>by
    unfold asL at h;split at h
    · rename_i z
      obtain⟨a,ha,h⟩:=bS h;obtain⟨as,has,h⟩:=bS h;obtain rfl:=sI h;obtain⟨p,q⟩:=zgo Hf has;exact⟨(pac (Hf e a ha) p z).wk λ_ _ _=>zo3,by rw[Bk,z,q];rfl⟩
    · exact noSome h
theorem zy5 (Hf:za7 f) (C:CxOk X S d):∀{es:List Expr}{m:List Bool}{as:GAs},asM f S es m=some as->PA X es (tAs X.K as)/\es.all zaf=true
  |[],[],_,h=>by obtain rfl:=sI h;exact⟨zfg.wk λ_ _ _=>zoy,rfl⟩
  | e::es,b::m,_,h=>by
    unfold asM at h;split at h
    · rename_i z
      obtain ⟨a,ha,h⟩:=bS h;obtain ⟨as,has,h⟩:=bS h;obtain rfl:=sI h;obtain ⟨p,q⟩:=zy5 Hf C has;have pe:PE X e (tA X.K a):=by
        cases b with
        |true=>exact zae Hf C (by simpa using ha)
        | false =>
          obtain⟨g,hg,ha⟩:=bS (show (f S e).bind _=some a from by simpa using ha);obtain rfl:=sI ha;exact (Hf X S d C _ _ hg).wk λ_ _ _=>ziu
      exact⟨(pac pe p z).wk λ_ _ _=>zo3,by rw[Bk,z,q];rfl⟩
    · exact noSome h
  |[],_::_,_,h=>by exact noSome h
  |_::_,[],_,h=>by exact noSome h
end
noncomputable def cmpE (f:Sx->Expr->Option GE) (S:Sx) (a:Expr) (ops:List CmpOp) (cs:List Expr):Option GE:=match ops,cs with
 |[op],[b]=>if zk0 b then (za5 f S a).bind λx=>(za5 f S b).bind λy=>(cmpO op).bind λo=>some (gOp2 o x y) else none
 |_,_=>none
noncomputable def z7t (f:Expr->Option GE) (op:BoolOp):Expr->List Expr->Option GE
 |v,[]=>f v
 |v,u::us=>(f v).bind λa=>(z7t f op u us).bind λb=>some (match op with|.And=>gAnd a b|.Or=>gOr a b)
noncomputable def z1m (f:Expr->Option GT) (op:BoolOp):Expr->List Expr->Option GT
 |v,[]=>f v
 |v,u::us=>match op with|.And=>(f v).bind λa=>(z1m f op u us).bind λb=>some (zhk a b)|.Or=>none
section
variable {X:Cx}{S:Sx}{d:Nat}{f:Sx->Expr->Option GE}
theorem z2s (Hf:za7 f)(C:CxOk X S d){a:Expr}{ops:List CmpOp}{cs:List Expr}{g:GE}{pos:Pos}(h:cmpE f S a ops cs=some g):PE X (.Compare a ops cs pos) (tE X.K g)/\PT X (.Compare a ops cs pos) (tT X.K (zal g)):=by
 unfold cmpE at h;split at h
 ·rename_i op b;split at h
  ·rename_i z;nofun;obtain⟨x,hx,h⟩:=bS h;obtain⟨y,hy,h⟩:=bS h;obtain⟨o,ho,h⟩:=bS h;ac_rfl;obtain rfl:=sI h;obtain⟨r,h1,h2⟩:=zz8 (X:=X) C.room ho;exact⟨(zug h1 (zae Hf C hx) (zae Hf C hy) (zfy z)).wk λ_ _ _=>zb5 h2,(zss h1 (zae Hf C hx) (zae Hf C hy) (zfy z)).wk λ_ _ _=>zgl λ_ _ _=>zb5 h2⟩
  ·exact noSome h
 ·exact noSome h
theorem zoi {fe:Expr->Option GT} (Hf:∀e g,fe e=some g->PT X e (tT X.K g)) {op:BoolOp}{pos:Pos}:∀{v:Expr}{vs:List Expr}{g:GT},z1m fe op v vs=some g->PW X (.BoolOp op (v::vs) pos) (tT X.K g)
  | v,[],g,h=>by
    cases op with
    |And=>exact z0z (Hf v g h)
    |Or=>exact z42 (Hf v g h)
  | v,u::us,g,h=>by
    cases op with
    | And =>
      obtain⟨a,ha,h⟩:=bS h;obtain⟨b,hb,h⟩:=bS h;obtain rfl:=sI h;exact (z32 (Hf v a ha) (zoi Hf hb)).wk λ_ _ _=>zq9
    |Or=>exact noSome h
end
theorem zz2:bootBuiltins "repr" = some (.builtin "repr"):=by decide +kernel
noncomputable def bltO (x:Str):Option ON :=
 if x == ("len" : Str) then some oLen else if x == ("abs" : Str) then some oAbs else if x == ("int" : Str) then some oInt else if x == ("tuple" : Str) then some zco else if x == ("all" : Str) then some (oBl λbs=>bs.all id) else if x == ("any" : Str) then some (oBl λbs=>bs.any id)
 else if x == ("sum" : Str) then some oSum else none
section
variable {X:Cx}{S:Sx}{d:Nat}
set_option maxHeartbeats 4000000 in
theorem z0y (C:CxOk X S d){x:Str}{o:ON}{e:Expr}{es:List Expr}{t:TA}{p pos:Pos}(hb:S.bl x=true)(h:bltO x=some o)(ha:PA X (e::es) t)(hst:(e::es).all zaf=true):∃r,PE X (.Call (.Name x p) (e::es) [] pos) (tCB r t)/\OpSN X.K r o:=by
 obtain⟨g,m⟩:=zjd C hb;rw[Bk,Ad] at hst;have s1:=zac (env:=X.env) (es:=es) hst.1;have s2:=zi4 (env:=X.env) (pos:=pos) hst.2;unfold bltO at h;split at h
 ·rename_i z;obtain rfl:=sI h;have e:=Ca z;subst e;exact⟨_,zcx zjz g m z4j ha #v[0,9] #v[0,9] s1 s2,z0p⟩
 split at h
 ·rename_i z;obtain rfl:=sI h;have e:=Ca z;subst e;exact⟨_,zcx zvy g m z4n ha #v[0,9] #v[0,9] s1 s2,zzz⟩
 split at h
 ·rename_i z;obtain rfl:=sI h;have e:=Ca z;subst e;exact⟨_,zee ztn g m z6c ha #v[0,9] #v[0,9] s1 s2,z1x⟩
 split at h
 ·rename_i z;obtain rfl:=sI h;have e:=Ca z;subst e;exact⟨_,zee zi0 g m zxw ha #v[0,9] #v[0,9] s1 s2,ztv⟩
 split at h
 ·rename_i z;obtain rfl:=sI h;have e:=Ca z;subst e;exact⟨_,zcx (zxh C.calm) g m z5g ha #v[0,9] #v[0,9] s1 s2,zzl⟩
 split at h
 ·rename_i z;obtain rfl:=sI h;have e:=Ca z;subst e;exact⟨_,zcx (zvt C.calm) g m z6o ha #v[0,9] #v[0,9] s1 s2,zzl⟩
 split at h
 ·rename_i z;obtain rfl:=sI h;have e:=Ca z;subst e;exact⟨_,zcx (zvd C.calm) g m z57 ha #v[0,9] #v[0,9] s1 s2,z0v⟩
 exact noSome h
noncomputable def z1n (x:Str):Option ON:=if x == ("repr" : Str) then some zp3 else bltO x
theorem zvr (C:CxOk X S d){x:Str}{o:ON}{e:Expr}{es:List Expr}{t:TA}{p pos:Pos}(hb:S.bl x=true)(h:z1n x=some o)(ha:PA X (e::es) t)(hst:(e::es).all zaf=true):∃r,PE X (.Call (.Name x p) (e::es) [] pos) (tCB r t)/\OpSN X.K r o:=by
 unfold z1n at h;split at h
 ·rename_i z;obtain rfl:=sI h;have e:=Ca z;subst e;obtain⟨g,m⟩:=zjd C hb;rw[Bk,Ad] at hst;exact⟨_,zcx (zsd C.room) g m zz2 ha #v[0,9] #v[0,9] (zac hst.1) (zi4 hst.2),zxk⟩
 ·exact z0y C hb h ha hst
end
noncomputable def zso:Expr->Bool
 |.Call _ _ _ _=>true
 |_=>false
theorem znz {o:Expr}{a:Str}{env:Env}{w:Sem Value}(h:zso o=false):attributeBase o a env w=w:=by
 cases o<;>first|rfl|(cases h)
noncomputable def zz1 (f:Sx->Expr->Option GE) (S:Sx) (o:Expr) (name:Str) (apos:Pos) (args:List Expr) (cpos:Pos):Option GE :=
  if !(apos.endLine == cpos.line) || zso o then none else match args with
  | [e]=>if !zaf e then none else match o with
    |.Name x _=>(S.rd x).bind λi=>(f S e).bind λg=>if name == ("append" : Str) then some (gApp i g) else if name == ("extend" : Str) then some (gExt i g) else none
    |_=>none
  |_=>none
theorem zmw {e:Expr}{env:Env}{cpos:Pos}(h:zaf e=true):((backTo cpos (starEach [e] env)).all (λx=>!x.1) && (backToKw cpos (keywordEach [] env)).all (λx=>x.1.isSome) && decide (([e]:List Expr).length+([]:List Keyword).length+(if ([]:List Keyword).isEmpty then 0 else 1)<30))=true:=by
 rw[zac h];rfl
theorem z1w {e e' : Expr}{env:Env}{cpos:Pos}(h:zaf e=true)(h' : zaf e'=true):((backTo cpos (starEach [e,e'] env)).all (λx=>!x.1) && (backToKw cpos (keywordEach [] env)).all (λx=>x.1.isSome) && decide (([e,e']:List Expr).length+([]:List Keyword).length+(if ([]:List Keyword).isEmpty then 0 else 1)<30))=true:=by
 rw[zac h,zac h'];rfl
section
variable {X:Cx}{S:Sx}{d:Nat}{f:Sx->Expr->Option GE}
theorem zwj (Hf:za7 f)(C:CxOk X S d){o:Expr}{name:Str}{apos cpos:Pos}{args:List Expr}{g:GE}(h:zz1 f S o name apos args cpos=some g):PE X (.Call (.Attribute o name apos) args [] cpos) (tE X.K g):=by
 unfold zz1 at h;split at h
 ·exact noSome h
 ·rename_i z;rw[By,not_or,Bu,Bu,Dr] at z;have hb:=znz (a:=name) (env:=X.env) (w:=eval o X.env) z.2;split at h
  ·rename_i e;split at h
   ·exact noSome h
   ·rename_i y;rw[Bu,Dr] at y;split at h
    ·rename_i x px;obtain⟨i,hi,h⟩:=bS h;obtain⟨ge,hg,h⟩:=bS h;have pa:PA X [e] (zhd (tE X.K ge) tNil):=pac (Hf X S d C _ _ hg) zfg y;split at h
     ·rename_i q;obtain rfl:=sI h;have e':=Ca q;subst e';exact (z56 PySem.F.plainAttrs_list PySem.F.slot_list_append PySem.F.type_list_append zjl (zg5 C hi) pa hb (zmw y) z.1 (zac y) rfl).wk λ_ _ _=>zvs
     ·split at h
      ·rename_i q;obtain rfl:=sI h;have e':=Ca q;subst e';exact (z56 PySem.F.plainAttrs_list PySem.F.slot_list_extend PySem.F.type_list_extend zro (zg5 C hi) pa hb (zmw y) z.1 (zac y) rfl).wk λ_ _ _=>zv6
      ·exact noSome h
    ·exact noSome h
  ·exact noSome h
end
noncomputable def zz4 (f:Sx->Expr->Option GE) (S:Sx) (x:Str) (args:List Expr):Option GE:=if x == ("__debug__" : Str) then none else match args with
  |[]=>none
  | e::es=>match S.fs.lookup x with
    |some (m,Φ)=>if S.kd.lookup x == some .globalImplicit then (asM f S (e::es) m).bind λas=>some (zad m Φ as) else none
    |none=>if S.bl x then (z1n x).bind λo=>(asL (za5 f S) (e::es)).bind λas=>some (gOpN o as) else none
theorem zw0 {X:Cx}{S:Sx}{d:Nat}{f:Sx->Expr->Option GE}(Hf:za7 f)(C:CxOk X S d){x:Str}{args:List Expr}{g:GE}{p pos:Pos}(h:zz4 f S x args=some g):PE X (.Call (.Name x p) args [] pos) (tE X.K g):=by
 unfold zz4 at h;split at h
 ·exact noSome h
 ·rename_i hdb;rw[Bu] at hdb;split at h
  ·exact noSome h
  ·rename_i e es;split at h
   ·rename_i m Φ hfs;split at h
    ·rename_i hgl;obtain⟨as,has,h⟩:=bS h;obtain rfl:=sI h;obtain⟨ps,hl,cal⟩:=C.fs x m Φ hfs;obtain⟨pa,st⟩:=zy5 Hf C has;rw[Bk,Ad] at st;exact (z26 cal C.room (C.gl x (by simpa using hgl)) pa (Af _) hdb (zac st.1) (zi4 st.2)).wk λ_ _ _=>ztd
    ·exact noSome h
   ·split at h
    ·rename_i hb;obtain⟨o,ho,h⟩:=bS h;obtain⟨as,has,h⟩:=bS h;obtain rfl:=sI h;obtain⟨pa,st⟩:=zgo (λe a ha=>zae Hf C ha) has;obtain⟨r,h1,h2⟩:=zvr (pos:=pos) (p:=p) C hb ho pa st;exact h1.wk λ_ _ _=>ziw h2
    ·exact noSome h
noncomputable def dOn (S:Sx) (x:Str):Bool:=S.bn.contains (("d " : Str)++x)
noncomputable def zzq (S:Sx):Expr->Option Nat
 |.Name x _=>if dOn S x then S.rd x else none
 |_=>none
theorem zxz {X:Cx}{S:Sx}{d:Nat}(C:CxOk X S d){e:Expr}{i:Nat}(h:zzq S e=some i):PE X e (tVar i):=by
 unfold zzq at h;split at h
 ·split at h
  ·exact zg5 C h
  ·exact noSome h
 ·exact noSome h
noncomputable def zsm (f:Sx->Expr->Option GE) (S:Sx) (tg e:Expr):Option GL:=if !zk0 e then none else match zzq S e with
  |some i=>some (zpt i)
  |none=>match e with
  | .Call (.Name x _) args [] _ =>
    if x == ("range" : Str) && S.bl x then (match args with
      |[a]=>if zaf a then (asL (za5 f S) [a]).bind λas=>some (zb4 as) else none
      |_=>none)
    else if x == ("enumerate" : Str) && S.bl x then (match args,tg with
      |[a],.Tuple _ _ _=>if zaf a then (f S a).bind λg=>some (zlt g) else none
      |_,_=>none)
    else if x == ("reversed" : Str) && S.bl x then (match args with
      |[a]=>if zaf a then none else none
      |_=>none)
    else if x == ("zip" : Str) && S.bl x then (match args,tg with
      |[a,b],.Tuple _ _ _=>if zaf a && zaf b then (f S a).bind λg=>(f S b).bind λg'=>some (gZip g g') else none
      |_,_=>none)
    else (f S e).bind λg=>some (zbd g)
  |_=>(f S e).bind λg=>some (zbd g)
theorem zpk {X:Cx}{S:Sx}{d:Nat}{f:Sx->Expr->Option GE}(Hf:za7 f)(C:CxOk X S d){tg e:Expr}{g:GL}(h:zsm f S tg e=some g):PI X tg e (tI X.K g)/\∀x,foldedSetIterable e X.env x=pure x:=by
 unfold zsm at h;split at h
 ·exact noSome h
 ·rename_i hs;rw[Bu,Dr] at hs;refine⟨?_,zu7 hs⟩;split at h
  ·rename_i i hz;obtain rfl:=sI h;exact (z5h (zxz C hz)).wk λ_ _ _=>zsx
  split at h
  ·rename_i x px args pc;split at h
   ·rename_i z;rw[Ad] at z;have e':=Ca z.1;subst e';obtain⟨gl,mg⟩:=zjd C z.2;split at h
    ·rename_i a;split at h
     ·rename_i y;obtain⟨as,has,h⟩:=bS h;obtain rfl:=sI h;obtain⟨pa,_⟩:=zgo (λe a ha=>zae Hf C ha) has;exact (zuy gl mg pa (zac y)).wk λ_ _ _=>zsb
     ·exact noSome h
    ·exact noSome h
   ·split at h
    ·rename_i z;rw[Ad] at z;have e':=Ca z.1;subst e';obtain⟨gl,mg⟩:=zjd C z.2;split at h
     ·rename_i a es k1 p1;split at h
      ·rename_i y;obtain⟨ge,hg,h⟩:=bS h;obtain rfl:=sI h;exact (zwh gl mg (pac (Hf X S d C _ _ hg) zfg y) (zac y)).wk λ_ _ _=>zsh
      ·exact noSome h
     ·exact noSome h
    ·split at h
     ·rename_i z;rw[Ad] at z;have e':=Ca z.1;subst e';obtain⟨gl,mg⟩:=zjd C z.2;split at h
      ·rename_i a;split at h
       ·rename_i y;exact noSome h
       ·exact noSome h
      ·exact noSome h
     ·split at h
      ·rename_i z;rw[Ad] at z;have e':=Ca z.1;subst e';obtain⟨gl,mg⟩:=zjd C z.2;split at h
       ·rename_i a b es k1 p1;split at h
        ·rename_i y;rw[Ad] at y;nofun;obtain⟨ge,hg,h⟩:=bS h;obtain⟨ge',hg',h⟩:=bS h;ac_rfl;obtain rfl:=sI h;exact (z6a gl mg (pac (Hf X S d C _ _ hg) (pac (Hf X S d C _ _ hg') zfg y.2) y.1) (by rw[zac y.1,zac y.2];rfl) (zac y.2)).wk λ_ _ _=>zx2
        ·exact noSome h
       ·exact noSome h
      ·obtain⟨ge,hg,h⟩:=bS h;obtain rfl:=sI h;exact (zuv (Hf X S d C _ _ hg)).wk λ_ _ _=>zf9
  ·obtain⟨ge,hg,h⟩:=bS h;obtain rfl:=sI h;exact (zuv (Hf X S d C _ _ hg)).wk λ_ _ _=>zf9
noncomputable def zmy (S:Sx):List Expr->Option (List Nat)
 |[]=>some []
 |.Name x _::es=>(S.wr x).bind λi=>(zmy S es).bind λis=>some (i::is)
 |_=>none
noncomputable def tgE (S:Sx):Expr->Option Tg
 |.Name x _=>(S.wr x).bind λi=>some (.nm i)
 |.Tuple es _ _=>(zmy S es).bind λis=>some (.tp is)
 |_=>none
section
variable {X:Cx}{S:Sx}{d:Nat}
theorem zqp (C:CxOk X S d):∀(es:List Expr) {is:List Nat},zmy S es=some is->PGs X es (zh3 is)/\(assignEach es X.env).length=is.length/\(assignEach es X.env).findIdx? (·.1)=none:=by
  intro es
  induction es with
  |nil=>intro is h;obtain rfl:=sI h;exact⟨zzu,rfl,rfl⟩
  | cons e es ih =>
    intro is h;obtain ⟨x,p,rfl⟩ : ∃x p,e=.Name x p:=by
      cases e with
      |Name x p=>exact⟨x,p,rfl⟩
      |_=>exact noSome h
    nofun;obtain⟨i,hi,h⟩:=bS (show (S.wr x).bind _=_ from h);obtain⟨is,his,h⟩:=bS h;ac_rfl;obtain rfl:=sI h;nofun;obtain⟨a,b,c⟩:=ih his;obtain⟨w1,w2,w3⟩:=z2y C hi;ac_rfl;refine⟨zwk (zr2 (ndN C) w1 w2 w3) a rfl,congrArg (· + 1) b,?_⟩;show List.findIdx? (·.1) ((false,assign (.Name x p) X.env)::assignEach es X.env)=none;rw[List.findIdx?_cons,c]
    rfl
theorem zzb (C:CxOk X S d){e:Expr}{T:Tg}(h:tgE S e=some T):PG X e (TGof X.K T):=by
 unfold tgE at h;split at h
 ·obtain⟨i,hi,h⟩:=bS h;obtain rfl:=sI h;obtain⟨w1,w2,w3⟩:=z2y C hi;exact zr2 (ndN C) w1 w2 w3
 ·obtain⟨is,his,h⟩:=bS h;obtain rfl:=sI h;obtain⟨a,b,c⟩:=zqp C _ his;exact z02 C.calm a b c
 ·exact noSome h
end
noncomputable def z2m (te:GE):Fn:=zah [false] 1 (gRet te)
noncomputable def lamΦ (te:GE) (w:W):Option W:=(z2m te [w]).bind λp=>if p.1.length=1 then some p.2.1 else none
noncomputable def zvc (te:GE) (a:GA):GE:=λen=>(a en).bind λp=>(resA p.1 p.2).bind λw=>(seqL w).bind λws=>(mapO (lamΦ te) ws).bind λks=>(zwz ks ws).bind λout=>some (p.1,(.lst out,true))
theorem zj6 {scope:Scope}{env:Env} (h:(scope.names.all fun p=>!(p.2 == NameKind.free))=true):closureFor scope env=pure []:=by
  unfold closureFor;have go:∀(names:List (Str × NameKind)) (cs:List (Str × Addr)),(names.all fun p=>!(p.2 == NameKind.free))=true->(forIn names cs fun (p:Str × NameKind) cs=>(if p.2 == NameKind.free then do let c <- cellOf env p.1;pure (ForInStep.yield ((p.1,c)::cs)) else pure (ForInStep.yield cs):Sem (ForInStep (List (Str × Addr)))))=pure cs:=by
    intro names
    induction names with
    |nil=>intro cs _;rw[Ee]
    | cons p r ih =>
      intro cs h;rw[Bk,Ad] at h;rw[Fm];have e:(p.2 == NameKind.free)=false:=by simpa using h.1
      simp only [e,Cn,Ek,pure_bind];exact ih cs h.2
  have:=go scope.names [] h;simpa using this
theorem z2v {P:Program}{w:World}{K:PySem.W.Frag}{mg:Str->Option Value}{base:Heap}{k:Nat}{f c' : Addr}{qual:Str}{params:Arguments}{body:Expr}{scope:Scope}{pm ctv:Value}{N ps:List Str}{A:Around}{outer:List Env}{s:Shared}{H:Hp}{us:List Value}{vs:List V}{Q:VK}{E:XK}
  (ho:s.heap.get? f=some (PySem.W.kla_obj "<lambda>" qual params body scope [] pm c' ctv)) (hcd:s.heap.CodeRec (.ref c') qual) (S:FnScope N ps scope) (hr:Room (k+1) A) (e0:Env0 P w K mg base A outer s H)
  (hb:bindArgs (PySem.W.kla_fn "<lambda>" qual params body scope [] pm (.ref c') ctv) ⟨us,[]⟩=pure (ps.zip us)) (r:Vals vs us) (hl:vs.length=ps.length)
  (hbody:Room k (A.deeper (envOfC qual scope s.heap.objs.size f (.ref c')))->∃t,PE (cxOf CX0 P w K mg base N qual scope f (.ref c') A outer s H E).nox body t/\t (start N vs) H Q) :
  codeAny (model P w) A (.call (.ref f) ⟨us,[]⟩) (CR CX0 outer P w H s Q E) s:=by
 have lim:s.heap.NoLimit:=e0.mod.nolimit.keeps λb o e=>(e0.bs b o e).1;have hkind:∀y∈ps.zip us,scope.names.lookup y.1=some .local\/(scope.names.lookup y.1=some .cell/\((cellsFrom (s.heap.objs.size+1) scope.names []).lookup y.1).isSome=true):=λ⟨n,v⟩ hy=>by
  rcases S.par n (Dx hy).1 with q|q
  ·exact .inl q
  ·exact .inr ⟨q,Fw _ _ _ (.inl q)⟩
 refine PySem.W.kla_callFunE hr.depth ho rfl S.co S.gen rfl hcd ?_;rw[hb];refine Ag (wpAny_newFunctionEnv_cells S.kind hkind λenv he s1 x=>?_);subst he;refine⟨lim.keeps x.toInCall.keep,PySem.W.kla_codeExpr ?_⟩;obtain⟨t,ht,hq⟩:=hbody (hr.deeper _);have I:Inv (cxOf CX0 P w K mg base N qual scope f (.ref c') A outer s H E) [] (start N vs) H s1:=zkn S hr.hd e0 hl r x;refine Dc (ht.nox [] s1 (start N vs) H Q I hq) (λu s' hs=>?_) λe s' hs=>hs;obtain⟨v,H',J,rv,q⟩:=hs;exact⟨v,H',J.os,J.bare,J.base,J.hok,rv,q⟩
noncomputable def zgb (params:Arguments):Option Str:=match params.posonlyargs,params.args,params.vararg,params.kwonlyargs,params.kwarg,params.defaults,params.kw_defaults with
 |[],[a],none,[],none,[],[]=>some a.arg
 |_,_,_,_,_,_,_=>none
theorem zyl {params:Arguments}{p:Str}(hp:zgb params=some p){qual:Str}{body:Expr}{scope:Scope}{pm ctv:Value}{c' : Addr}{u:Value}:bindArgs (PySem.W.kla_fn "<lambda>" qual params body scope [] pm (.ref c') ctv) ⟨[u],[]⟩=pure ([p].zip [u]):=by
 nofun;obtain⟨po,ar,va,ko,kd,ka,df⟩:=params;ac_rfl;unfold zgb at hp;split at hp
 ·rename_i a q1 q2 q3 q4 q5 q6 q7;simp only at q1 q2 q3 q4 q5 q6 q7;subst q1 q2 q3 q4 q5 q6 q7;obtain rfl:=sI hp;have e:([(a.arg,u)]:List (Str × Value)).lookup a.arg=some u:=by simp [List.lookup]
  have d:seqItems? (Value.none)=(pure none:Sem _):=rfl;unfold bindArgs;simp [e,d]
 ·exact noSome hp
noncomputable def zm4 (scope:Scope) (p:Str):Bool:=decide (scope.kind=.function) && !scope.isCoroutine && !scope.isGenerator && decide (scope.names.lookup p=some .local) && (scope.names.all λq=>!(q.2 == NameKind.free))
theorem zxb {scope:Scope}{p:Str}(h:zm4 scope p=true):FnScope [p] [p] scope:=by
 unfold zm4 at h;simp only [Ad,Bool.not_eq_true',Dg] at h;obtain⟨⟨⟨⟨h1,h2⟩,h3⟩,h4⟩,h5⟩:=h;refine⟨h1,h2,h3,by simp,rfl,λx hx=>.inl (by rw[Aq.mp hx];exact h4),λy hy z=>?_⟩;have:=Ay.mp h5 y hy;rw[z] at this;cases this
noncomputable def lamS (S:Sx) (scope:Scope) (p:Str):Sx:={ N:=[p],kd:=scope.names,bn:=S.bn,fs:=[],mp:=[],top:=true }
section
variable {X:Cx}{S:Sx}{d:Nat}
theorem zwe {fE:Sx->Expr->Option GE} (HE:za7 fE) {f c' : Addr}{qual:Str}{params:Arguments}{body:Expr}{scope:Scope}{pm ctv:Value}{p:Str}{te:GE} (hp:zgb params=some p) (hs:zm4 scope p=true) (ht:fE (lamS S scope p) body=some te) (hbn:∀x∈S.bn,X.mg x=none) (hr:Room 1 X.A) :
    KCall X (.ref f) (lamΦ te) (λpins F=>(f,PySem.W.kla_obj "<lambda>" qual params body scope [] pm c' ctv)∈pins/\F c'=some (.ext (zdd c' qual))) where
  mono:=λh hp sm=>⟨hp _ h.1,sm _ _ h.2⟩
  run:=fun pins s σ H F pr en w k v u al I R rp ru hΦ=>by
    have FS:=zxb hs;nofun;obtain⟨⟨ws',r⟩,e1,e2⟩:=bS hΦ;ac_rfl;split at e2
    · rename_i hl1
      obtain rfl:=sI e2;have cr:s.heap.CodeRec (.ref c') qual:=by
        nofun;obtain⟨φ,_,_⟩:=(show ObjOk X.prog X.w H s.heap c' (.ext (zdd c' qual)) from I.hok c' _ (R.sub _ _ al.2));obtain⟨oc,vs,t,g1,g2,g3⟩:=φ;ac_rfl;exact⟨c',oc,vs,t,rfl,g1,g2,g3⟩
      have ho:=(I.pin _ (Aw _ al.1)).1;have bk:zaq (za3 [(Sum.inl w:W ⊕ Nat)]) en (za0 [false] ws')=en:=by
        unfold zaq;apply Dk;intro i;rw[Gh];cases en[i]? with
        |none=>rfl
        |some x=>rfl
      have sp:spF X.K [false] (z2m te) [v] H (fun v' H'=>∃F',Same F F'/\Rel X.K F' pr en σ H'/\Rep X.K F' r.1 v') E0:=by
        refine zuf (xs:=[.inl w]) (en':=en) (r:=r) R (.cons rp .nil) ?_ λF' H' v' s' R' y=>?_
        · show (if (true && true && _) = true then _ else none) = _
          rw[if_pos (by rfl)];show ((z2m te) [w]).bind _=_;rw[e1];show (if ws'.length=1 then some (zaq (za3 [(Sum.inl w:W ⊕ Nat)]) en (za0 [false] ws'),r) else none)=_;rw[if_pos hl1,bk]
        · refine aG fun Gg qG => ?_
          obtain⟨F'',s'',R'',y''⟩:=y.freeze R';ac_rfl;exact⟨F'',s'.trans s'',R'',y''⟩
      refine wpAny_call (codeAny_mono (z2v (N:=[p]) (ps:=[p]) (E:=E0) (Q:=λv' H'=>∃F',Same F F'/\Rel X.K F' pr en σ H'/\Rep X.K F' r.1 v') ho cr FS hr I.env0 ?bind (.cons ru .nil) rfl λhr'=>?body) λres s' hq=>?_)
      case bind =>
        exact zyl hp
      case body =>
        have rd:=zrw (N:=[p]) sp;have C:CxOk (cxOf CX0 X.prog X.w X.K X.mg X.base [p] qual scope f (.ref c') X.A X.stack s H E0).nox (lamS S scope p) 0:={
          N:=rfl
          nd:=by show [p].Nodup;simp
          loc:=λx e=>e
          cel:=λx e=>⟨e,rfl⟩
          vis:=λx e=>e
          gl:=λx e=>e
          calm:=rfl
          xe:=rfl
          bn:=hbn
          fs:=λx m Φ e=>by exact noSome e
          room:=hr'
          sl:=by have:=hr.un;show X.A.units+3+16 * 0+205<cLine;omega
          bk:=by
            show (if scope.kind.isAnnotationScope then ScopeKind.function else scope.kind)=.function;rw[FS.kind];rfl
          lam:=λh=>absurd (show ("" : Str)∈lams from h) #v[0,0,7]
          dpo:=Bj _ }
        exact⟨_,HE _ _ _ C _ _ ht,zn8 rd⟩
      cases res with
      |error e=>exact hq.elim
      | ok fl =>
        cases fl with
        | ret u' =>
          nofun;obtain⟨v',H',I',rv',F',s1,R1,y1⟩:=I.after hq;ac_rfl;exact⟨v',F',H',I',s1,R1,rv',y1⟩
        |next=>exact False.elim hq
        |brk=>exact False.elim hq
        |cont=>exact False.elim hq
    · exact noSome e2
variable {pins:List (Addr × Obj)}{σ:St}{H F:Hp}{s:Shared}{pr:Prt}{en:En}
theorem zwq (C:CxOk X S d) (hn:S.nm∈lams) {params:Arguments}{body:Expr}{scope:Scope}{pos:Pos}{p:Str} (hp:zgb params=some p) (hs:zm4 scope p=true) (I:Inv X pins σ H s) (R:Rel X.K F pr en σ H) {Q:Value->Shared->Prop}{E:Value->Shared->Prop}
    (h:∀f c' pm ctv s' H' F',Inv X pins σ H' s'->Same F F'->Rel X.K F' pr en σ H'->s'.heap.get? f=some (PySem.W.kla_obj "<lambda>" (lamQ S.nm) params body scope [] pm c' ctv)->H' f=none->Apart X pins f->F' c'=some (.ext (zdd c' (lamQ S.nm)))->Q (.ref f) s') :
    wpAny (model X.prog X.w) X.A (eval (.Lambda params body scope pos) X.env) Q E s:=by
  refine aG fun _ qG=>?_;obtain ⟨c,P,ht,hc,ecd,eq⟩:=C.lam hn;obtain ⟨ps,t1,t2,t3,t4,t5⟩:=R.tb.2 S.nm hn c P ht;refine qG ?_;clear qG;have hcl:closureFor scope X.env=pure []:=zj6 (by unfold zm4 at hs;simp only [Ad] at hs;exact hs.2);have hg:=I.mod.glob.keeps I.bk;have CH:PySem.W.CodeHd s.heap c P:=PySem.W.codeHd_of_K I.kIn hc;have hP:s.heap.get? P=some (PySem.W.tabObj ps):=I.hok P _ t1;have hgP:mainGlobals≠P:=fun z=>by
    nofun;obtain⟨o,es,ep,g1,g2,_⟩:=hg;ac_rfl;rw[z,hP] at g1;obtain rfl:=sI g1;cases g2
  refine aG fun _ qG=>?_;obtain ⟨bm,ob,b1,b2,b3,b4,b5,b6⟩:=I.mod.bmn;refine qG ?_;clear qG;have b3':=I.bk _ _ b3;have hbG:bm≠mainGlobals:=fun z=>by
    nofun;obtain⟨o,es,ep,g1,g2,_⟩:=hg;ac_rfl;rw[z,g1] at b3';obtain rfl:=sI b3';rw[g2] at b6;cases b6
  have hbP:bm≠P:=fun z=>by
    rw[z,hP] at b3';obtain rfl:=sI b3';cases b4
  have hbm:s.heap.BuiltinsAt X.mg P:=⟨bm,ob,b1,b2,hbG,hbP,b3',b4,b5,b6⟩;have hdef:defaultsOf params X.env=([],[]):=by
    nofun;obtain⟨po,ar,va,ko,kd,ka,df⟩:=params;ac_rfl;unfold zgb at hp;split at hp
    · rename_i a q1 q2 q3 q4 q5 q6 q7
      simp only at q1 q2 q3 q4 q5 q6 q7;subst q1 q2 q3 q4 q5 q6 q7
      rfl
    · cases hp
  have eq' : X.env.qual++"<lambda>" = lamQ S.nm:=by rw[eq];rfl
  refine PySem.W.kla_eval hdef ?_;rw[eq'];cases hf:codeAmong pos ps.toList with
  | some cv =>
    obtain⟨c',rfl,hc'⟩:=t5 pos cv hf;refine PySem.W.kla_makeFunctionHit hcl I.ok.glob hg ecd CH hP t4 hf hbm λctv h' tk k hz=>?_;have k2:∀b o,s.heap.get? b=some o->(h'.push (PySem.W.kla_obj "<lambda>" (lamQ S.nm) params body scope [] ((X.mg "__name__").getD .none) c' ctv)).get? b=some o:=λb o e=>Ab _ (k b o e);exact h h'.objs.size c' _ ctv _ H F (I.kept k2) (.refl F) R (Ak _ rfl) (I.hok.fresh hz) (I.fpOk (H':=H) hz (I.hok.fresh hz)).apart hc'
  | none =>
    refine PySem.W.kla_makeFunction hcl I.ok.glob hg ecd CH hP t4 hf hgP hbm λc' ctv h' tk hx hge hlt hrec htb=>?_;have hn' : H c'=none:=I.hok.fresh hge;have nP:c'≠P:=λz=>by rw[z,t1] at hn';cases hn'
    obtain⟨ps',eps⟩ : ∃ps',ps'=ps++#[rawInt pos.line,rawInt pos.col,.ref c']:=⟨_,rfl⟩;rw[<-eps] at htb;have sizes:s.heap.objs.size<=h'.objs.size:=Nat.le_of_lt (Nat.lt_of_le_of_lt hge hlt);have neP:∀b,H b=none->b≠P:=λb e z=>by rw[z,t1] at e;cases e
    let fo:=PySem.W.kla_obj "<lambda>" (lamQ S.nm) params body scope [] ((X.mg "__name__").getD .none) c' ctv
    have k2:∀b o,b≠P->s.heap.get? b=some o->(h'.push fo).get? b=some o:=λb o hb e=>Ab _ (hx b o hb e)
    let H' : Hp:=upd (upd H P (.tbl ps')) c' (.ext (zdd c' (lamQ S.nm)))
    have hH:∀b,b≠P->b≠c'->H' b=H b:=λb h1 h2=>by show upd (upd H P _) c' _ b=_;rw[upd_ne h2,upd_ne h1]
    have hHP:H' P=some (.tbl ps'):=by show upd (upd H P _) c' _ P=_;rw[upd_ne nP.symm,upd_same]
    have hHc:H' c'=some (.ext (zdd c' (lamQ S.nm))):=upd_same;have nc:∀b o,s.heap.get? b=some o->b≠c':=λb o e z=>by subst z;exact absurd (Ao e) (Nat.not_lt_of_le hge)
    have nH:∀b u,H b=some u->b≠c':=λb u e z=>by rw[z,hn'] at e;cases e
    have ntb:∀b u,H b=some u->(∀q,u≠.tbl q)->b≠P:=λb u e hu z=>by rw[z,t1] at e;obtain rfl:=sI e;exact hu _ rfl
    have I' : Inv X pins σ H' { s with heap:=h'.push fo,toks:=tk }:=by
      refine I.step (g':=s.gens) (d':=s.drawn) (ch:=[]) (fun b hb=>by cases hb) (fun b o _ _ _ e n=>k2 b o (neP b n) e) (fun b o _ _ _ e n=>⟨o.slots,k2 b o (neP b n) e⟩) (fun b u _ e n=>by rw [hH b (neP b n) (nc b u e)];exact n)
        (λb u _ e=>?_) (λb xs e=>by rw[hH b (ntb b _ e λ_ z=>by cases z) (nH b _ e)];exact e) (λb u xs e=>by rw[hH b (ntb b _ e λ_ z=>by cases z) (nH b _ e)];exact e) (λb qs e=>?_) (λm hm=>?_) (λb u e=>?_) I.bare
      · by_cases hb : b = P
        · subst hb;exact⟨_,Ab _ htb⟩
        · exact⟨u,k2 b u hb e⟩
      · by_cases hb : b = P
        · subst hb
          rw[t1] at e;cases e;exact⟨#[rawInt pos.line,rawInt pos.col,.ref c'],by rw[hHP,eps]⟩
        · exact⟨#[],by rw[hH b hb (nH b _ e),e];simp⟩
      · refine aG fun Gg qG => ?_
        obtain⟨o,es,ep,ho,r⟩:=hm;ac_rfl;exact⟨o,es,ep,k2 _ o (neP _ I.free) ho,r⟩
      · by_cases hb : b = c'
        · subst hb
          rw[hHc] at e;obtain rfl:=sI e;nofun;obtain⟨c2,oc,vs,t,e2,hoc,hd,hv⟩:=hrec;ac_rfl;cases e2;refine⟨⟨oc,vs,t,Ab _ hoc,hd,hv⟩,⟨oc,Ab _ hoc⟩,λh1 h2 ⟨oc,vs,t,g1,g2,g3⟩ kk=>⟨oc,vs,t,kk oc g1,g2,g3⟩⟩
        · by_cases hb2 : b = P
          · subst hb2
            rw[hHP] at e;obtain rfl:=sI e;exact Ab _ htb
          · rw [hH b hb2 hb] at e
            refine (I.hok b u e).stay (λc v hc q=>k2 c v ?_ q) (λc q=>by rw[hH c (ntb c _ q λ_ z=>by cases z) (nH c _ q)];exact q) λc xs q=>by rw[hH c (ntb c _ q λ_ z=>by cases z) (nH c _ q)];exact q
            rcases hc with z|z
            · rw[z];exact hb2
            · exact ntb c _ z λ_ y=>by cases y
    have fc:F c'=none:=R.sub.free hn';have sF:Same F (upd F c' (.ext (zdd c' (lamQ S.nm)))):=Same.new fc _;have R' : Rel X.K (upd F c' (.ext (zdd c' (lamQ S.nm)))) pr en σ H':=by
      refine⟨R.len,λb u e=>?_,λi w e=>?_,λi w e=>?_,R.inj,λb o q=>?_,R.tb.1,λx hx' c0 P0 e0=>?_⟩
      · by_cases hb : b = c'
        · subst hb;rw[upd_same] at e;rw[hHc];exact e
        · rw [upd_ne hb] at e
          have e':=R.sub _ _ e;rw[hH b (λz=>by rw[z,t2] at e;cases e) hb];exact e'
      · obtain ⟨v, g1, g2⟩ := R.val i w e
        exact⟨v,g1,g2.mono sF⟩
      · refine aG fun Gg qG => ?_
        obtain⟨a,o,w',g1,g2,g3,g4,g5⟩:=R.own i w e;ac_rfl;have na:a≠c':=nH a _ g3;exact⟨a,o,w',g1,g2,by rw[hH a (ntb a _ g3 λ_ z=>by cases g5<;>cases z) na];exact g3,by rw[upd_ne na];exact g4,g5.mono sF⟩
      · obtain ⟨g1, g2, g3⟩ := R.prt b o q
        have nb:b≠c':=nH b _ g1;exact⟨by rw[hH b (λz=>by subst z;exact t3 o q) nb];exact g1,by rw[upd_ne nb];exact g2,g3⟩
      · refine aG fun Gg qG => ?_
        obtain⟨qs,u1,u2,u3,u4,u5⟩:=R.tb.2 x hx' c0 P0 e0;ac_rfl;by_cases hp0:P0=P
        · subst hp0
          have ex:x=S.nm:=R.tb.1.1 x hx' S.nm hn c0 c P0 e0 ht;subst ex;rw[t1] at u1;cases u1;refine⟨ps',hHP,by rw[upd_ne nP.symm];exact t2,t3,?_,λpos2 cv e2=>?_⟩
          · rw [eps]
            have:=TriplesOk_snoc pos.line pos.col (.ref c') ps.toList t4;simpa using this
          · rw [eps] at e2
            have e3:codeAmong pos2 (ps.toList++[rawInt pos.line,rawInt pos.col,.ref c'])=some cv:=by simpa using e2
            have gen:∀l:List Value,TriplesOk l->codeAmong pos2 (l++[rawInt pos.line,rawInt pos.col,.ref c'])=some cv->codeAmong pos2 l=some cv\/cv=.ref c':=fun l hl=>by
              fun_induction TriplesOk l with
              | case1 =>
                intro z;show _\/_
                right
                simp only [Gm,rawInt,codeAmong] at z;split at z
                · exact (sI z).symm
                · cases z
              | case2 a b c d e rest ih =>
                intro z;simp only [List.cons_append,codeAmong] at z ⊢;split at z
                · rename_i q;rw[if_pos q];exact .inl z
                · rename_i q;rw[if_neg q];exact ih hl z
              |case3=>exact hl.elim
            rcases gen ps.toList t4 e3 with z|z
            · obtain ⟨c2, q1, q2⟩ := u5 pos2 cv z
              exact⟨c2,q1,sF _ _ q2⟩
            · exact⟨c',z,upd_same⟩
        · have np0 : P0 ≠ c' := nH P0 _ u1
          refine⟨qs,by rw[hH P0 hp0 np0];exact u1,by rw[upd_ne np0];exact u2,u3,u4,λpos2 cv e2=>?_⟩;obtain⟨c2,q1,q2⟩:=u5 pos2 cv e2;exact⟨c2,q1,sF _ _ q2⟩
    have nf:H' h'.objs.size=none:=by
      rw[hH _ (λz=>?_) (Gw hlt)]
      · exact I.hok.fresh sizes
      · have := I.hok.fresh sizes
        rw[z,t1] at this;cases this
    exact h h'.objs.size c' _ ctv _ H' _ I' sF R' (Ak _ rfl) nf (I.fpOk (H':=H) sizes (I.hok.fresh sizes)).apart upd_same
theorem zw9 (h:Room 2 X.A):Room 1 X.inn.A:=⟨h.hd,by have:=h.dp;show X.A.depth+3 * 1+5<_;omega,by have:=h.un;show X.A.units+1+1+16 * 1+200<_;omega,h.gd⟩
theorem zx6 {fE:Sx->Expr->Option GE} (HE:za7 fE) (C:CxOk X S d) {e:Expr}{a:GA} (ha:za5 fE S e=some a) (hns:zaf e=true) {params:Arguments}{body:Expr}{scope:Scope}{lpos kpos px pos:Pos}{p:Str}{te:GE} (hn:S.nm∈lams) (h2:2<=S.dp) (hp:zgb params=some p) (hs:zm4 scope p=true) (ht:fE (lamS S scope p) body=some te) (hbl:S.bl "sorted" = true) :
    PE X (.Call (.Name "sorted" px) [e] [⟨some "key",.Lambda params body scope lpos,kpos⟩] pos) (tE X.K (zvc te a)):=by
  intro pins s σ H Q I h;nofun;nofun;obtain⟨F,pr,en,en',r,R,hg,q⟩:=h;obtain⟨⟨e1,x⟩,h1,hg⟩:=bS hg;obtain⟨w,hw,hg⟩:=bS hg;obtain⟨ws,hws,hg⟩:=bS hg;obtain⟨ks,hks,hg⟩:=bS hg;obtain⟨out,ho,hg⟩:=bS hg;ac_rfl;ac_rfl;cases hg;obtain⟨gl,mn⟩:=zjd C hbl;have hr:Room 2 X.A:=C.room.mono (Bv h2 C.dpo);have hst:starEach [e] X.env=(false,eval e X.env)::starEach [] X.env:=by cases e<;>first|rfl|(cases hns)
  refine Ho (zhw I gl mn (show bootBuiltins "sorted" = some (.builtin "sorted") from PyProof.Rows.boot_sorted) ?_);refine PyProof.Rows.callWith_kw ?_ (by rw[hst];rfl) (by rw[hst];rfl);refine thn (zja (zae HE C ha) zfg hst pos pins s σ H (λvs H1=>∃v F1,vs=[v]/\Same F F1/\Rel X.K F1 pr e1 σ H1/\ArgR X.K F1 σ x v) I ⟨F,pr,en,e1,x,R,h1,λF1 H1 v s1 R1 a1=>⟨v,F1,rfl,s1,R1,a1⟩⟩) λus s1 ⟨vs,H1,I1,rv,v,F1,ev,sm1,R1,a1⟩=>?_;subst ev;cases rv with
  | cons ru rv =>
    cases rv;refine PyProof.Rows.kws_cons (zwq C hn hp hs I1 R1 fun f c' pm ctv s2 H2 F2 I2 sm2 R2 gf nf apf gc=>PyProof.Rows.kws_nil ?_);have I3:Inv X ((f,PySem.W.kla_obj "<lambda>" (lamQ S.nm) params body scope [] pm c' ctv)::pins) σ H2 s2:=I2.pins_of fun y hy=>by
      rcases At.mp hy with rfl|hy
      · exact⟨gf,nf,apf.l,apf.f,λv z=>by cases z⟩
      · exact I2.pin y (Aw _ hy)
    have rb:=(a1.mono sm2).repB R2 hw;nofun;nofun;obtain⟨l,vvs,ev,sq,rps⟩:=rb.seqL R2.sub hws;ac_rfl;ac_rfl;subst ev;cases (show _=Value.ref l from ru);refine thn (zqe (E:=X.xe) (Q:=Q) (zwe (X:=X.inn) (S:=S) (f:=f) (c':=c') (qual:=lamQ S.nm) (pm:=pm) (ctv:=ctv) HE hp hs ht C.bn (zw9 hr)) I3 ⟨Av,gc⟩ R2 sq rps hks ho (by have:=hr.un;omega) λF' H' v s' R' y=>q F' H' v (sm1.trans (sm2.trans s')) R' y) λu s' ⟨v,H',I',rv',q'⟩=>⟨v,H',I'.pins_of λy hy=>I'.pin y (Aw _ (As _ hy)),rv',q'⟩
noncomputable def z21 (fE:Sx->Expr->Option GE) (S:Sx) (x:Str) (e:Expr) (key:Str) (params:Arguments) (body:Expr) (scope:Scope):Option GE :=
 if x == ("sorted" : Str) && key == ("key" : Str) && S.bl x && zaf e && lams.contains S.nm && decide (2<=S.dp) then (zgb params).bind λp=>if zm4 scope p then (za5 fE S e).bind λa=>(fE (lamS S scope p) body).bind λte=>some (zvc te a) else none else none
theorem zv7 {fE:Sx->Expr->Option GE}(HE:za7 fE)(C:CxOk X S d){x key:Str}{e:Expr}{params:Arguments}{body:Expr}{scope:Scope}{lpos kpos px pos:Pos}{g:GE}(h:z21 fE S x e key params body scope=some g):PE X (.Call (.Name x px) [e] [⟨some key,.Lambda params body scope lpos,kpos⟩] pos) (tE X.K g):=by
 unfold z21 at h;split at h
 ·rename_i z;simp only [Ad,Dg,List.contains_iff_mem] at z;nofun;obtain⟨⟨⟨⟨⟨z1,z2⟩,z3⟩,z4⟩,z5⟩,z6⟩:=z;ac_rfl;have e1:=Ca z1;have e2:=Ca z2;subst e1 e2;obtain⟨p,hp,h⟩:=bS h;split at h
  ·rename_i y;nofun;obtain⟨a,ha,h⟩:=bS h;obtain⟨te,ht,h⟩:=bS h;ac_rfl;obtain rfl:=sI h;exact zx6 HE C ha z4 z5 z6 hp y ht z3
  ·exact noSome h
 ·exact noSome h
end
section
variable {prog:Program}{w:World}{A:Around}{E:Value->Shared->Prop}{s:Shared}
noncomputable def mxF (f:Nat->Int):Nat->Nat->Int->Int
 |_,0,b=>b
 |j,k+1,b=>mxF f (j+1) k (if f j > b then f j else b)
variable {I:Addr}{fp wr:List Addr}{n:Nat}{P:Nat->Value->Prop}{St:Nat->Heap->Prop}{R:Result->Shared->Prop}
noncomputable def maxD (f:Nat->Int) (n:Nat) (d:Int):Int:=match n with
 |0=>d
 |n+1=>mxF f 1 n (f 0)
end
noncomputable def mxL (ns:List Int) (d:Int):Int:=maxD (λi=>ns.getD i 0) ns.length d
noncomputable def z7u (a:GA) (g:GE):GE:=λen=>(a en).bind λp=>(g p.1).bind λq=>(resA q.1 p.2).bind λw=>(seqW w).bind λws=>(zb1 ws).bind λns=>match q.2.1 with
 |.int d=>some (q.1,(.int (mxL ns d),false))
 |_=>none
section
variable {X:Cx}{S:Sx}{d:Nat}
noncomputable def maxE (fE:Sx->Expr->Option GE) (S:Sx) (x:Str) (e:Expr) (key:Str) (ed:Expr):Option GE :=
 if x == ("max" : Str) && key == ("default" : Str) && S.bl x && zaf e then (za5 fE S e).bind λa=>(fE S ed).bind λg=>some (z7u a g) else none
end
section
variable {X:Cx}
end
noncomputable def fnW (Φ:Fn) (w:W):Option W:=(Φ [w]).bind λp=>if p.1.length=1 then some p.2.1 else none
noncomputable def z4e (Φ:Fn) (a:GA):GE:=λen=>(a en).bind λp=>(resA p.1 p.2).bind λw=>(seqL w).bind λws=>(mapO (fnW Φ) ws).bind λks=>(zwz ks ws).bind λout=>some (p.1,(.lst out,true))
section
variable {X:Cx}{S:Sx}{d:Nat}
noncomputable def z5m (fE:Sx->Expr->Option GE) (S:Sx) (e:Expr) (y:Str):Option GE:=if zaf e && S.bl "sorted" && S.kd.lookup y == some .globalImplicit && !(y == ("__debug__" : Str)) then (match S.fs.lookup y with
  |some (m,Φ)=>if m == [false] then (za5 fE S e).bind λa=>some (z4e Φ a) else none
  |none=>none) else none
end
section
variable {K:PySem.W.Frag}{σ:St}{H:Hp}
end
noncomputable def zfn (x:Expr->Option GE) (X:Cx):Prop:=∀e g,x e=some g->PE X e (tE X.K g)
section
variable {X:Cx}{S:Sx}{d:Nat}{fE:Sx->Expr->Option GE}
end
noncomputable def keyF:W->Option Key
 |.int i=>some (.inl i)
 |.str s=>some (.inr s)
 |_=>none
noncomputable def keysF:List W->Option (List Key)
 |[]=>some []
 |w::ws=>(keyF w).bind λk=>(keysF ws).bind λks=>some (k::ks)
noncomputable def keyD:W->Option DKey
 |.tup ws=>(keysF ws).bind λks=>some (.inr ks)
 |w=>(keyF w).bind λk=>some (.inl k)
noncomputable def KeyR (F:Hp):DKey->V->Prop
 |.inl k,v=>v=kV k
 |.inr ks,v=>∃b,v=.ref b/\F b=some (.tup (ks.map kV))
section
variable {K:PySem.W.Frag}{F H:Hp}
theorem Rep.keyF {w:W}{v:V}{k:Key}(h:Rep K F w v)(e:keyF w=some k):v=kV k:=by
 cases w with
 |int i=>obtain rfl:=sI e;exact h.isIt
 |str s=>obtain rfl:=sI e;cases h;rfl
 |_=>exact noSome e
theorem Reps.keysF:∀{ws:List W}{vs:List V}{ks:List Key},Reps K F ws vs->keysF ws=some ks->vs=ks.map kV
  |_,_,_,.nil,e=>by obtain rfl:=sI e;rfl
  | _,_,_,.cons h r,e=>by
    obtain⟨k,h1,e⟩:=bS e;obtain⟨ks,h2,e⟩:=bS e;obtain rfl:=sI e;rw[h.keyF h1,Reps.keysF r h2];rfl
theorem Rep.keyD {w:W}{v:V}{k:DKey} (h:Rep K F w v) (e:keyD w=some k):KeyR F k v:=by
  have flat:(L2.keyF w).bind (fun k=>some (Sum.inl k:DKey))=some k->KeyR F k v:=fun e=>by
    obtain⟨k1,h1,e⟩:=bS e;obtain rfl:=sI e;exact h.keyF h1
  cases w with
  | tup ws =>
    obtain⟨ks,h1,e⟩:=bS (show (L2.keysF ws).bind _=_ from e);obtain rfl:=sI e;cases h with
    |tup hh r=>exact⟨_,rfl,by rw[hh,r.keysF h1]⟩
  |_=>exact flat e
noncomputable def valW (kvs:List (DKey × W)) (k:DKey):Option W:=(kvs.find? λkv=>decide (kv.1=k)).map (·.2)
theorem zev (p:DKey × W)(r:List (DKey × W))(k:DKey):valW (p::r) k=if p.1=k then some p.2 else valW r k:=by
 unfold valW;rw[Dy];by_cases h:p.1=k
 ·rw[Aj h,if_pos h];rfl
 ·rw[Bg h,if_neg h]
theorem zlk {κ:Type} [DecidableEq κ] (p:κ × V)(r:List (κ × V))(k:κ):valV (p::r) k=if p.1=k then some p.2 else valV r k:=by
 by_cases h:p.1=k
 ·rw[zfq h,if_pos h]
 ·rw[zfo h,if_neg h]
theorem zes {κ:Type} [DecidableEq κ] {f:κ->DKey} (hf:∀a b,f a=f b->a=b):∀{ks:List κ}{ws:List W}{vs:List V}{k:κ}{w:W},ks.length=vs.length->Reps K F ws vs->valW ((ks.map f).zip ws) (f k)=some w->∃v,valV (ks.zip vs) k=some v/\Rep K F w v
  |[],_,_,_,_,_,_,e=>by simp [valW] at e
  |_::_,_,_,_,_,_,.nil,e=>by simp [valW] at e
  | k' :: ks,w' :: ws,v' :: vs,k,w,hl,.cons h r,e=>by
    rw[Ah,Bl,zev] at e;rw[Bl,zlk];by_cases z:k'=k
    · subst z
      rw[if_pos rfl] at e ⊢;obtain rfl:=sI e;exact⟨_,rfl,h⟩
    · rw [if_neg fun q => z (hf _ _ q)] at e
      rw[if_neg z];exact zes hf (Ei hl) r e
theorem zed {κ:Type} [DecidableEq κ] {f:κ->DKey} (hf:∀a b,f a=f b->a=b):∀{ks:List κ}{ws:List W}{vs:List V}{k:κ},ks.length=vs.length->Reps K F ws vs->valW ((ks.map f).zip ws) (f k)=none->valV (ks.zip vs) k=none
  |[],_,_,_,_,_,_=>rfl
  |_::_,_,_,_,hl,.nil,_=>by simp at hl
  | k' :: ks,w' :: ws,v' :: vs,k,hl,.cons h r,e=>by
    rw[Ah,Bl,zev] at e;rw[Bl,zlk];by_cases z:k'=k
    · subst z;rw[if_pos rfl] at e;exact nomatch e
    · rw [if_neg fun q => z (hf _ _ q)] at e
      rw[if_neg z];exact zed hf (Ei hl) r e
theorem zdn {κ:Type}{f:κ->DKey}{k:DKey} (hk:∀a,f a≠k):∀{ks:List κ}{ws:List W},valW ((ks.map f).zip ws) k=none
  |[],_=>rfl
  |_::_,[]=>rfl
  | k' :: ks,w' :: ws=>by
    rw[Ah,Bl,zev,if_neg (hk k')];exact zdn hk
noncomputable def zf3 {κ:Type} [DecidableEq κ] (ks:List κ) (k:κ):List κ:=if k∈ks then ks else ks++[k]
noncomputable def zgz {κ α:Type} [DecidableEq κ] (ks:List κ) (vs:List α) (k:κ) (v:α):List α:=if k∈ks then List.zipWith (λk' v'=>if k'=k then v else v') ks vs else vs++[v]
theorem zkg {κ:Type} [DecidableEq κ] {f:κ->DKey}(hf:∀a b,f a=f b->a=b)(ks:List κ)(k:κ):zf3 (ks.map f) (f k)=(zf3 ks k).map f:=by
 have m:f k∈ks.map f↔k∈ks:=by
  rw[Bf];exact⟨λ⟨a,h,e⟩=>hf _ _ e ▸ h,λh=>⟨k,h,rfl⟩⟩
 unfold zf3;by_cases h:k∈ks
 ·rw[if_pos h,if_pos (m.mpr h)]
 ·rw[if_neg h,if_neg (mt m.mp h),Bn];rfl
theorem zle {κ:Type} [DecidableEq κ] {f:κ->DKey} (hf:∀a b,f a=f b->a=b) {k:κ}{w:W}{v:V} (h:Rep K F w v):∀{ks:List κ}{ws:List W}{vs:List V},Reps K F ws vs->Reps K F (List.zipWith (fun k' v'=>if k'=f k then w else v') (ks.map f) ws) (List.zipWith (fun k' v'=>if k'=k then v else v') ks vs)
  |[],_,_,_=>.nil
  |_::_,_,_,.nil=>.nil
  | k' :: ks,_,_,.cons q r=>by
    rw[Ah,List.zipWith_cons_cons,List.zipWith_cons_cons];refine .cons ?_ (zle hf h r);by_cases z:k'=k
    · subst z;rw[if_pos rfl,if_pos rfl];exact h
    · rw[if_neg z,if_neg λe=>z (hf _ _ e)];exact q
theorem zhx {κ:Type} [DecidableEq κ] {f:κ->DKey}(hf:∀a b,f a=f b->a=b){k:κ}{w:W}{v:V}(h:Rep K F w v){ks:List κ}{ws:List W}{vs:List V}(r:Reps K F ws vs):Reps K F (zgz (ks.map f) ws (f k) w) (zgz ks vs k v):=by
 have m:f k∈ks.map f↔k∈ks:=by
  rw[Bf];exact⟨λ⟨a,h,e⟩=>hf _ _ e ▸ h,λh=>⟨k,h,rfl⟩⟩
 unfold zgz;by_cases z:k∈ks
 ·rw[if_pos z,if_pos (m.mpr z)];exact zle hf h r
 ·rw[if_neg z,if_neg (mt m.mp z)];exact r.append (.cons h .nil)
theorem zu2 {κ α:Type} [DecidableEq κ] {ks:List κ}{vs:List α}(hl:ks.length=vs.length)(k:κ)(v:α):(zf3 ks k).length=(zgz ks vs k v).length:=by
 unfold zf3 zgz;split
 ·rw[Gs,hl,Gx]
 ·rw[Bb,Bb,hl];rfl
theorem zs6 {κ:Type} [DecidableEq κ] (k:κ) (v:V):∀{ks:List κ}{vs:List V},(ks.zip vs).map (fun kv=>if kv.1=k then (kv.1,v) else kv)=ks.zip (List.zipWith (fun k' v'=>if k'=k then v else v') ks vs)
  |[],_=>rfl
  |_::_,[]=>rfl
  | k' :: ks,v' :: vs=>by
    rw[Bl,Ah,zs6 k v,List.zipWith_cons_cons,Bl];by_cases z:k'=k
    · rw[if_pos z,if_pos z]
    · rw[if_neg z,if_neg z]
theorem zve {κ:Type} [DecidableEq κ] (k:κ):∀{ks:List κ}{vs:List V},ks.length=vs.length->((ks.zip vs).any fun kv=>decide (kv.1=k))=decide (k∈ks)
  |[],_,_=>rfl
  |_::_,[],h=>by simp at h
  | k' :: ks,v' :: vs,h=>by
    rw[Bl,Dd,zve k (Ei h)];by_cases z:k'=k
    · subst z;simp
    · have : ¬ k = k' := fun e => z e.symm
      simp [z,this]
theorem zod {κ:Type} [DecidableEq κ] {ks:List κ}{vs:List V}(hl:ks.length=vs.length)(k:κ)(v:V):putK (ks.zip vs) k v=(zf3 ks k).zip (zgz ks vs k v):=by
 unfold putK zf3 zgz;rw[zve k hl];by_cases z:k∈ks
 ·rw[if_pos (Aj z),if_pos z,if_pos z,zs6]
 ·rw[if_neg (λq=>z (Ar q)),if_neg z,if_neg z,List.zip_append hl];rfl
noncomputable def DctR (K:PySem.W.Frag) (F H:Hp) (a:Addr) (ks:List DKey) (ws:List W):Prop :=
 (∃(js:List Key) (vs:List V),ks=js.map .inl/\H a=some (.dK (js.zip vs))/\js.length=vs.length/\Reps K F ws vs) \/
 ∃(js:List (List Key)) (vs:List V),ks=js.map .inr/\H a=some (.dT (js.zip vs))/\js.length=vs.length/\Reps K F ws vs
theorem OwnR.dct' {ks:List DKey}{ws:List W}{o:HO}{a:Addr}(h:OwnR K F (.dct ks ws) o)(e:H a=some o):DctR K F H a ks ws:=by
 generalize hw:W.dct ks ws=w at h;cases h with
 |lst r=>cases hw
 |dct hl r=>cases hw;exact .inl ⟨_,_,rfl,e,hl,r⟩
 |dctT hl r=>cases hw;exact .inr ⟨_,_,rfl,e,hl,r⟩
theorem RepB.dct {ks:List DKey}{ws:List W}{v:V}(s:Same F H)(r:RepB K F H (.dct ks ws) v):∃a,v=.ref a/\DctR K F H a ks ws:=by
 rcases r with r|⟨a,o,w',e,rfl,h,q⟩
 ·generalize hw : W.dct ks ws = w at r;cases r with
  |dct h hl r=>cases hw;exact⟨_,rfl,.inl ⟨_,_,rfl,s _ _ h,hl,r⟩⟩
  |dctT h hl r=>cases hw;exact⟨_,rfl,.inr ⟨_,_,rfl,s _ _ h,hl,r⟩⟩
  |_=>cases hw
 ·subst e;exact⟨a,rfl,q.dct' h⟩
noncomputable def DczR (K:PySem.W.Frag) (F H:Hp) (a:Addr) (ks:List DKey) (ws:List W):Prop :=
 (∃(js:List Key) (vs:List V),ks=js.map .inl/\(∃o,H a=some (.frz o (.dK (js.zip vs))))/\js.length=vs.length/\Reps K F ws vs) \/
 ∃(js:List (List Key)) (vs:List V),ks=js.map .inr/\(∃o,H a=some (.frz o (.dT (js.zip vs))))/\js.length=vs.length/\Reps K F ws vs
theorem RepB.dcz {ks:List DKey}{ws:List W}{v:V}(s:Same F H)(r:RepB K F H (.dcz ks ws) v):∃a,v=.ref a/\DczR K F H a ks ws:=by
 rcases r with r|⟨a,o,w',e,rfl,h,q⟩
 ·generalize hw : W.dcz ks ws = w at r;cases r with
  |dcz h hl r=>cases hw;exact⟨_,rfl,.inl ⟨_,_,rfl,⟨_,s _ _ h⟩,hl,r⟩⟩
  |dczT h hl r=>cases hw;exact⟨_,rfl,.inr ⟨_,_,rfl,⟨_,s _ _ h⟩,hl,r⟩⟩
  |_=>cases hw
 ·subst e;cases q
theorem zd5 (a b:Key)(h:(Sum.inl a:DKey)=.inl b):a=b:=Sum.inl.inj h
theorem ze7 (a b:List Key)(h:(Sum.inr a:DKey)=.inr b):a=b:=Sum.inr.inj h
theorem DctR.get {a:Addr}{ks:List DKey}{ws:List W}{d:DKey}{y:V}{w:W} (s:Same F H) (h:DctR K F H a ks ws) (hk:KeyR F d y) (e:valW (ks.zip ws) d=some w):∃v,DGet H a y (some v)/\Rep K F w v:=by
  rcases h with⟨js,vs,rfl,h,hl,r⟩|⟨js,vs,rfl,h,hl,r⟩
  · cases d with
    | inl k =>
      obtain⟨v,h1,h2⟩:=zes zd5 hl r e;exact⟨v,.inl ⟨_,k,.inl h,hk,h1.symm⟩,h2⟩
    |inr k=>rw[zdn (f:=Sum.inl) (λa z=>by cases z)] at e;exact nomatch e
  · cases d with
    |inl k=>rw[zdn (f:=Sum.inr) (λa z=>by cases z)] at e;exact nomatch e
    | inr k =>
      obtain⟨v,h1,h2⟩:=zes ze7 hl r e;obtain⟨b,hb,fb⟩:=hk;exact⟨v,.inr ⟨_,k,b,.inl h,hb,s _ _ fb,h1.symm⟩,h2⟩
theorem DczR.get {a:Addr}{ks:List DKey}{ws:List W}{d:DKey}{y:V}{w:W} (s:Same F H) (h:DczR K F H a ks ws) (hk:KeyR F d y) (e:valW (ks.zip ws) d=some w):∃v,DGet H a y (some v)/\Rep K F w v:=by
  rcases h with⟨js,vs,rfl,h,hl,r⟩|⟨js,vs,rfl,h,hl,r⟩
  · cases d with
    | inl k =>
      obtain⟨v,h1,h2⟩:=zes zd5 hl r e;exact⟨v,.inl ⟨_,k,.inr h,hk,h1.symm⟩,h2⟩
    |inr k=>rw[zdn (f:=Sum.inl) (λa z=>by cases z)] at e;exact nomatch e
  · cases d with
    |inl k=>rw[zdn (f:=Sum.inr) (λa z=>by cases z)] at e;exact nomatch e
    | inr k =>
      obtain⟨v,h1,h2⟩:=zes ze7 hl r e;obtain⟨b,hb,fb⟩:=hk;exact⟨v,.inr ⟨_,k,b,.inr h,hb,s _ _ fb,h1.symm⟩,h2⟩
noncomputable def DNo (H:Hp) (a:Addr) (y:V):Prop:=DGet H a y none\/(H a=some (.dK [])/\∃(b:Addr) (k:List Key),y=.ref b/\H b=some (.tup (k.map kV)))\/(H a=some (.dT [])/\∃k,y=kV k)
noncomputable def zcg (d:DKey) (ks:List DKey):Bool:=ks.all λk=>k.isLeft == d.isLeft
theorem DctR.no {a:Addr}{ks:List DKey}{ws:List W}{d:DKey}{y:V} (s:Same F H) (h:DctR K F H a ks ws) (hk:KeyR F d y) (hs:zcg d ks=true) (e:valW (ks.zip ws) d=none):DNo H a y:=by
  rcases h with⟨js,vs,rfl,h,hl,r⟩|⟨js,vs,rfl,h,hl,r⟩
  · cases d with
    |inl k=>exact .inl (.inl ⟨_,k,.inl h,hk,(zed zd5 hl r e).symm⟩)
    | inr k =>
      cases js with
      |nil=>obtain⟨b,hb,fb⟩:=hk;exact .inr (.inl ⟨h,b,k,hb,s _ _ fb⟩)
      |cons j js=>unfold zcg at hs;rw[Ah,Bk,Ad] at hs;exact nomatch hs.1
  · cases d with
    | inl k =>
      cases js with
      |nil=>exact .inr (.inr ⟨h,k,hk⟩)
      |cons j js=>unfold zcg at hs;rw[Ah,Bk,Ad] at hs;exact nomatch hs.1
    |inr k=>obtain⟨b,hb,fb⟩:=hk;exact .inl (.inr ⟨_,k,b,.inl h,hb,s _ _ fb,(zed ze7 hl r e).symm⟩)
theorem DczR.no {a:Addr}{ks:List DKey}{ws:List W}{d:DKey}{y:V} (s:Same F H) (h:DczR K F H a ks ws) (hk:KeyR F d y) (hs:(zcg d ks && !ks.isEmpty)=true) (e:valW (ks.zip ws) d=none):DNo H a y:=by
  rw[Ad] at hs;rcases h with⟨js,vs,rfl,h,hl,r⟩|⟨js,vs,rfl,h,hl,r⟩
  · cases d with
    |inl k=>exact .inl (.inl ⟨_,k,.inr h,hk,(zed zd5 hl r e).symm⟩)
    | inr k =>
      cases js with
      |nil=>exact nomatch hs.2
      |cons j js=>have hs:=hs.1;unfold zcg at hs;rw[Ah,Bk,Ad] at hs;exact nomatch hs.1
  · cases d with
    | inl k =>
      cases js with
      |nil=>exact nomatch hs.2
      |cons j js=>have hs:=hs.1;unfold zcg at hs;rw[Ah,Bk,Ad] at hs;exact nomatch hs.1
    |inr k=>obtain⟨b,hb,fb⟩:=hk;exact .inl (.inr ⟨_,k,b,.inr h,hb,s _ _ fb,(zed ze7 hl r e).symm⟩)
end
section
variable {X:Cx}{pins:List (Addr × Obj)}{σ:St}{H:Hp}{s:Shared}{a:Addr}
theorem zei {H:Hp}{a:Addr}{o o' : HO}(e:H a=some o):upd (upd H a o') a o=H:=by
 rw[zmx]
 funext b
 by_cases h:b=a
 ·subst h;rw[upd_same,e]
 ·rw[upd_ne h]
theorem reT (I:Inv X pins σ H s)(e:H a=some (.dK [])):Inv X pins σ (upd H a (.dT [])) s:=by
 obtain⟨z,hd,vs,rel,o,es,ep,h1,h2,h3,h4,h5,h6⟩:=zz6 I.hok e;have hv:vs=[]:=Bw.mp rel.length.symm;subst hv;have he:es.toList=[]:=by
  generalize es.toList=l at h5;cases h5
  rfl
 exact zfb (h':=s.heap) (t':=s.toks) I (by rw[e];exact True.intro) ⟨rfl,λ_ _=>rfl⟩ ⟨o,h1⟩ ⟨Bj _,hd,[],.nil,o,es,ep,h1,h2,h3,he,Ga⟩
theorem reK (I:Inv X pins σ H s)(e:H a=some (.dT [])):Inv X pins σ (upd H a (.dK [])) s:=by
 obtain⟨z,hd,xs,rel,o,es,ep,h1,h2,h3,h4,h5⟩:=(show ObjOk X.prog X.w H s.heap a (.dT []) from I.hok a _ e);cases rel;have he:es=#[]:=by cases es;simp at h4;rw[h4]
 subst he;exact zfb (h':=s.heap) (t':=s.toks) I (by rw[e];exact True.intro) ⟨rfl,λ_ _=>rfl⟩ ⟨o,h1⟩ ⟨Bj _,hd,[],.nil,o,#[],ep,h1,h2,h3,(λe he=>absurd he (by simp)),.nil,Ga⟩
end
noncomputable def rIxD:R2:=λx y H Q=>∃a v,x=.ref a/\DGet H a y (some v)/\Q v H
theorem zzw {X:Cx}(hu:X.A.units+1<cLine):IxR X rIxD:=by
 intro value slice pins s σ H x y v u Q I rx ry h hs;obtain⟨a,z,rfl,g,q⟩:=h;cases rx;exact tail_any (ops:=[.ref a,u]) (zns I g) PySem.F.slot_dict_getitem.lookup (zrj hu I g ry λw' s3 I3 rw'=>⟨z,H,I3,rw',q⟩) hs
noncomputable def oIxD:O2:=λa k=>match a with
 |.dct ks ws=>(keyD k).bind λd=>(valW (ks.zip ws) d).bind λw=>#v[w,6]
 |.dcz ks ws=>(keyD k).bind λd=>(valW (ks.zip ws) d).bind λw=>#v[w,6]
 |a=>oIx a k
theorem RepB.key {K:PySem.W.Frag}{F H:Hp}{w:W}{v:V}{d:DKey}(r:RepB K F H w v)(e:keyD w=some d):KeyR F d v:=by
 rcases r with r|⟨a,o,w',z,rfl,h,q⟩
 ·exact r.keyD e
 ·subst z;cases q<;>exact noSome e
theorem z0i {K:PySem.W.Frag}:OpS K (fun x y H Q=>rIxB K x y H Q\/rIxD x y H Q) oIxD:=fun F H w1 w2 v1 v2 rv Q s r1 r2 e q=>by
  cases w1 with
  | dct ks ws =>
    nofun;obtain⟨d,hd,e⟩:=bS (show (keyD w2).bind _=_ from e);obtain⟨w,hw,e⟩:=bS e;obtain rfl:=sI e;obtain⟨a,rfl,D⟩:=r1.dct s;obtain⟨v,h1,h2⟩:=D.get s (r2.key hd) hw;ac_rfl;exact .inr ⟨a,v,rfl,h1,q _ _ (.val h2)⟩
  | dcz ks ws =>
    nofun;obtain⟨d,hd,e⟩:=bS (show (keyD w2).bind _=_ from e);obtain⟨w,hw,e⟩:=bS e;obtain rfl:=sI e;obtain⟨a,rfl,D⟩:=r1.dcz s;obtain⟨v,h1,h2⟩:=D.get s (r2.key hd) hw;ac_rfl;exact .inr ⟨a,v,rfl,h1,q _ _ (.val h2)⟩
  |_=>exact .inl (zzj F H _ w2 v1 v2 rv Q s r1 r2 e q)
section
variable {K:PySem.W.Frag}{F H:Hp}{pr:Prt}{en:En}{σ:St}
theorem Rel.newOwn (R:Rel K F pr en σ H){p:Addr}(hp:H p=none){w:W}{o:HO}(h:OwnR K F w o):Rel K F pr en σ (upd H p o)/\Res K F (upd H p o) pr en σ (w,true) (.ref p):=by
 refine⟨R.lay hp o,p,o,w,rfl,rfl,upd_same,R.sub.free hp,h,λi w' e z=>?_,λq o2 hq z=>?_⟩
 ·obtain⟨a,vs,ws,h1,h2,h3,h4,h5⟩:=R.own i w' e;rw[h2] at z;cases z;rw[hp] at h3;exact noSome h3
 ·have:=(R.prt q o2 hq).1;rw[z,hp] at this;exact noSome this
end
noncomputable def z0x:GE:=λen=>some (en,(.dct [] [],true))
theorem zq4 {K:PySem.W.Frag}{σ:St}{H:Hp}{Q:VK}(h:tE K z0x σ H Q):zza σ H Q:=by
 obtain⟨F,pr,en,en',r,R,h,q⟩:=h;cases h;intro p hp;obtain⟨R',y⟩:=R.newOwn hp (w:=.dct [] []) (o:=.dK []) (.dct (ks:=[]) (vs:=[]) rfl .nil);exact q F _ _ (.refl F) R' y
theorem z06 {X:Cx}{pins:List (Addr × Obj)}{σ:St}{H:Hp}{s:Shared}{a:Addr}{y d:V}{u r:Value}{A:Around}{E:Value->Shared->Prop}{Q:Value->Shared->Prop} (hu:A.units+1 < cLine) (I:Inv X pins σ H s) (g:DNo H a y) (ry:RelV y u) (rd:RelV d r) (h:∀w' s',Inv X pins σ H s'->RelV d w'->Q w' s') :
  wpAny (model X.prog X.w) A (call (.builtin "dict.get") [.ref a,u,r]) Q E s:=by
 rcases g with g|⟨e,b,k,rfl,hb⟩|⟨e,k,rfl⟩
 ·exact d_get2 hu I g ry rd h
 ·have ne : b ≠ a:=λz=>by subst z; rw[e] at hb; exact nomatch hb
  refine d_get2 hu (reT I e) (.inr ⟨[],k,b,.inl upd_same,rfl,by rw[upd_ne ne];exact hb,rfl⟩) ry rd λw' s' I' r'=>h w' s' ?_ r';have:=reK I' upd_same
  rwa [zei e] at this
 ·refine d_get2 hu (reK I e) (.inl ⟨[],k,.inl upd_same,rfl,rfl⟩) ry rd λw' s' I' r' => h w' s' ?_ r';have:=reT I' upd_same
  rwa [zei e] at this
noncomputable def zys (td ty tx:TE):TE:=λσ H Q=>td σ H λx H1=>∃a,x=.ref a/\IsD H1 a/\ty σ H1 λy H2=>tx σ H2 λz H3=>(∃v,DGet H3 a y (some v)/\Q v H3)\/(DNo H3 a y/\Q z H3)
theorem zxs {X:Cx}{o e f:Expr}{apos cpos:Pos}{td ty tx:TE}(hu:X.A.units+1<cLine)(ho:PE X o td)(he:PE X e ty)(hf:PE X f tx)(m:M2 X o "get" apos e f cpos):PE X (.Call (.Attribute o "get" apos) [e,f] [] cpos) (zys td ty tx):=by
 intro pins s σ H Q I h;refine wpAny_Call_method m.base m.few m.line PySem.F.plainAttrs_dict PySem.F.slot_dict_get PySem.F.type_dict_get (thn (ho pins s σ H _ I h) λu s1 ⟨x,H1,I1,rx,a,ex,d,q1⟩=>?_);subst ex;obtain rfl:u=Value.ref a:=rx;obtain⟨t1,t2,_⟩:=z29 I1 d;refine⟨t1,t2,?_⟩;rw[m.trees];refine Calls.callWith_builtin rfl (Calls.evalArgs_plain (Calls.spliced_cons (thn (he pins s1 σ H1 _ I1 q1) λiv s2 ⟨y,H2,I2,ry,q2⟩ =>
  Calls.spliced_cons (thn (hf pins s2 σ H2 _ I2 q2) λfv s3 ⟨z,H3,I3,rz,q3⟩=>Calls.spliced_nil ?_))))
 rcases q3 with⟨v,g,q3⟩|⟨g,q3⟩
 ·exact d_get2 hu I3 g ry rz λw' s4 I4 rw'=>⟨v,H3,I4,rw',q3⟩
 ·exact z06 hu I3 g ry rz λw' s4 I4 rw'=>⟨z,H3,I4,rw',q3⟩
noncomputable def zj5 (i:Nat) (g g' : GE):GE:=fun en=>match en[i]? with
  | some (some (.dct _ _,_))=>(g en).bind fun p=>(g' p.1).bind fun q=>(keyD p.2.1).bind fun d=>match q.1[i]? with
    | some (some (.dct ks ws,_))=>(match valW (ks.zip ws) d with
      |some w=>some (q.1,(w,false))
      |none=>if zcg d ks then some (q.1,q.2) else none)
    |_=>none
  |_=>none
theorem Rel.repD {K:PySem.W.Frag}{F H:Hp}{pr:Prt}{en:En}{σ:St}(R:Rel K F pr en σ H){i:Nat}{ks:List DKey}{ws:List W}{f:Bool}(e:en[i]?=some (some (.dct ks ws,f))):∃a,σ[i]?=some (some (.ref a))/\DctR K F H a ks ws:=by
 obtain⟨v,hv⟩:=R.has e;obtain⟨a,rfl,D⟩:=(R.repB e hv).dct R.sub;exact⟨a,hv,D⟩
theorem DctR.isD {K:PySem.W.Frag}{F H:Hp}{a:Addr}{ks:List DKey}{ws:List W}(h:DctR K F H a ks ws):IsD H a:=by
 rcases h with⟨js,vs,_,h,_⟩|⟨js,vs,_,h,_⟩
 ·exact .inl ⟨_,.inl h⟩
 ·exact .inr ⟨_,.inl h⟩
theorem Res.key {K:PySem.W.Frag}{F H:Hp}{pr:Prt}{en:En}{σ:St}{r:W × Bool}{v:V}{d:DKey}(h:Res K F H pr en σ r v)(e:keyD r.1=some d):KeyR F d v:=by
 obtain⟨w,b⟩:=r;cases b with
 |false=>exact Rep.keyD h e
 |true=>obtain⟨a,o,w',z,_,_,_,q,_⟩:=h;subst z;cases q<;>exact noSome e
theorem KeyR.mono {F F' : Hp}{d:DKey}{v:V}(s:Same F F')(h:KeyR F d v):KeyR F' d v:=by
 cases d with
 |inl k=>exact h
 |inr k=>obtain⟨b,h1,h2⟩:=h;exact⟨b,h1,s _ _ h2⟩
theorem zr3 {K:PySem.W.Frag}{i:Nat}{g g' : GE}{σ:St}{H:Hp}{Q:VK}(h:tE K (zj5 i g g') σ H Q):zys (tVar i) (tE K g) (tE K g') σ H Q:=by
 nofun;obtain⟨F,pr,en,en',r,R,h,q⟩:=h;ac_rfl;unfold zj5 at h;split at h
 ·rename_i ks0 ws0 f0 hx0;nofun;obtain⟨a,ha,D0⟩:=R.repD hx0;obtain⟨⟨e1,r1⟩,h1,h⟩:=bS h;obtain⟨⟨e2,r2⟩,h2,h⟩:=bS h;obtain⟨d,hd,h⟩:=bS h;ac_rfl;refine⟨.ref a,ha,a,rfl,D0.isD,F,pr,en,e1,r1,R,h1,λF1 H1 v1 s1 R1 y1=>⟨F1,pr,e1,e2,r2,R1,h2,λF2 H2 v2 s2 R2 y2=>?_⟩⟩;have kr:KeyR F2 d v1:=(y1.key hd).mono s2;split at h
  ·rename_i ks ws f1 hx1;obtain⟨a',ha',D⟩:=R2.repD hx1;rw[ha] at ha';cases ha';split at h
   ·rename_i w hw;cases h;obtain⟨v,g1,g2⟩:=D.get R2.sub kr hw;exact .inl ⟨v,g1,q F2 H2 v (s1.trans s2) R2 g2⟩
   ·rename_i hw;split at h
    ·rename_i hs;cases h;exact .inr ⟨D.no R2.sub kr hs hw,q F2 H2 v2 (s1.trans s2) R2 y2⟩
    ·exact noSome h
  ·exact noSome h
 ·exact noSome h
theorem zqh {X:Cx}{pins:List (Addr × Obj)}{σ:St}{H:Hp}{s:Shared}{a:Addr}{y v:V}{u r:Value}{A:Around}{E:Value->Shared->Prop}{Q:Unit->Shared->Prop} (hu:A.units+1 < cLine) (I:Inv X pins σ H s)
  (g:(∃H',DPut H a y v H'/\∀s',Inv X pins σ H' s'->Q () s')\/(H a=some (.dK [])/\∃(b:Addr) (k:List Key),y=.ref b/\H b=some (.tup (k.map kV))/\∀s',Inv X pins σ (upd H a (.dT (putK [] k v))) s'->Q () s')\/(H a=some (.dT [])/\∃k,y=kV k/\∀s',Inv X pins σ (upd H a (.dK (putK [] k v))) s'->Q () s')) (ry:RelV y u) (rv:RelV v r) :
  wpAny (model X.prog X.w) A (setItem (.ref a) u r) Q E s:=by
 rcases g with⟨H',g,h⟩|⟨e,b,k,rfl,hb,h⟩|⟨e,k,rfl,h⟩
 ·exact d_setItem hu I g ry rv h
 ·have ne : b ≠ a:=λz=>by subst z; rw[e] at hb; exact nomatch hb
  refine d_setItem hu (reT I e) (.inr ⟨[],k,b,upd_same,rfl,by rw[upd_ne ne];exact hb,by rw[Ff];decide,rfl⟩) ry rv λs' I'=>h s' ?_
  rwa [zmx] at I'
 ·refine d_setItem hu (reK I e) (.inl ⟨[],k,upd_same,rfl,by rw[Ff]; decide,rfl⟩) ry rv λs' I' => h s' ?_
  rwa [zmx] at I'
noncomputable def z3l:V->V->V->Hp->(Hp->Prop)->Prop:=λo y v H Q=>∃a,o=.ref a/\((∃H',DPut H a y v H'/\Q H')\/(H a=some (.dK [])/\∃(b:Addr) (k:List Key),y=.ref b/\H b=some (.tup (k.map kV))/\Q (upd H a (.dT (putK [] k v))))\/(H a=some (.dT [])/\∃k,y=kV k/\Q (upd H a (.dK (putK [] k v)))))
theorem zyn {X:Cx}(hu:X.A.units+1<cLine):PSet X z3l:=by
 intro pins s σ H o i v ov iv u Q I ro ri rv h;obtain⟨a,rfl,h⟩:=h;cases ro;refine zqh hu I ?_ ri rv;rcases h with⟨H',g,q⟩|⟨e,b,k,e1,hb,q⟩|⟨e,k,e1,q⟩
 ·exact .inl ⟨H',g,λs' I'=>⟨H',I',q⟩⟩
 ·exact .inr (.inl ⟨e,b,k,e1,hb,λs' I'=>⟨_,I',q⟩⟩)
 ·exact .inr (.inr ⟨e,k,e1,λs' I'=>⟨_,I',q⟩⟩)
theorem PSet.or {X:Cx}{t t' : TSet}(h:PSet X t)(h' : PSet X t'):PSet X λo i v H Q=>t o i v H Q\/t' o i v H Q:=by
 intro pins s σ H o i v ov iv u Q I ro ri rv q;rcases q with q|q
 ·exact h pins s σ H o i v ov iv u Q I ro ri rv q
 ·exact h' pins s σ H o i v ov iv u Q I ro ri rv q
noncomputable def zkc (i:Nat) (k:GE) (g:GE):GS:=fun en=>(g en).bind fun p=>match p.1[i]? with
  | some (some _)=>(k p.1).bind fun q=>match q.1[i]? with
    |some (#v[ws,2])=>(intW q.2.1).bind λn=>(ixN ws.length n).bind λj=>some (q.1.set i (#v[(ws.set j p.2.1),2]),.nx)
    |some (some (.dct ks ws,true))=>(keyD q.2.1).bind λd=>if zcg d ks && decide (ks.length<sizeLine) then some (q.1.set i (some (.dct (zf3 ks d) (zgz ks ws d p.2.1),true)),.nx) else none
    |_=>none
  |_=>none
theorem ztr {K:PySem.W.Frag}{mp:List Nat}{D:Ends}{σ:St}{H:Hp}{i:Nat}{k g:GE} (h:tS K mp (zkc i k g) D σ H):tAsg (tE K g) (gSub (tVar i) (tE K k) (fun o i v H Q=>z1d o i v H Q\/z3l o i v H Q)) D σ H:=by
  obtain⟨F,pr,en,en',fl,R,h,q⟩:=h;obtain⟨⟨e1,r1⟩,h1,h⟩:=bS h;refine⟨F,pr,en,e1,r1,R,h1,λF1 H1 v1 s1 R1 y1=>?_⟩;obtain⟨F2,s2,R2,x1⟩:=y1.freeze R1;split at h
  · rename_i x0 hx0
    obtain⟨⟨e2,r2⟩,h2,h⟩:=bS h;obtain⟨w0,f0⟩:=x0;obtain⟨v0,hv0⟩:=R2.has hx0;refine⟨v0,hv0,F2,pr,e1,e2,r2,R2,h2,λF3 H3 v2 s3 R3 y2=>?_⟩;split at h
    · rename_i ws eq2
      obtain ⟨n,hn,h⟩:=bS h;obtain ⟨j,hj,h⟩:=bS h;cases h;obtain ⟨w2,f2⟩:=r2;have ew:w2=.int n:=by
        cases w2 with
        |int j=>obtain rfl:=sI hn;rfl
        |_=>exact noSome hn
      subst ew;obtain⟨a,vs,ws',q1,q2,q3,q4,q5⟩:=R3.ownL eq2;cases q1;rw[hv0] at q2;cases q2;refine .inl ⟨a,vs,n,j,rfl,y2.isInt,q3,by rw[<-q5.length];exact hj,?_⟩;exact q F3 σ _ (s1.trans (s2.trans s3)) (R3.change eq2 hv0 (q5.set (x1.mono s3) j)) (.refl _ _)
    · rename_i ks ws eq2
      obtain⟨d,hd,h⟩:=bS h;split at h
      · rename_i z
        rw[Ad] at z;have z2:=Ar z.2;cases h;have kr:=y2.key hd;obtain⟨a,ha,D⟩:=R3.repD eq2;rw[hv0] at ha;cases ha;refine .inr ⟨a,rfl,?_⟩;rcases D with⟨js,vs,rfl,hH,hl,r⟩|⟨js,vs,rfl,hH,hl,r⟩
        · cases d with
          | inl k =>
            refine .inl ⟨_,.inl ⟨_,k,hH,kr,by rw[List.length_zip,<-hl,Gx];rw[Ac] at z2;exact z2,rfl⟩,?_⟩;rw[zod hl];rw[zkg zd5] at q;exact q F3 σ _ (s1.trans (s2.trans s3)) (R3.changeO eq2 hv0 (.dct (zu2 hl _ _) (zhx zd5 (x1.mono s3) r))) (.refl _ _)
          | inr k =>
            cases js with
            |cons j js=>have z1:=z.1;unfold zcg at z1;rw[Ah,Bk,Ad] at z1;exact nomatch z1.1
            | nil =>
              have hv:vs=[]:=Bw.mp hl.symm;subst hv;obtain⟨b,hb,fb⟩:=kr;refine .inr (.inl ⟨hH,b,k,hb,R3.sub _ _ fb,?_⟩);cases r;exact q F3 σ _ (s1.trans (s2.trans s3)) (R3.changeO eq2 hv0 (.dctT (ks:=[k]) (vs:=[v1]) rfl (.cons (x1.mono s3) .nil))) (.refl _ _)
        · cases d with
          | inr k =>
            obtain⟨b,hb,fb⟩:=kr;refine .inl ⟨_,.inr ⟨_,k,b,hH,hb,R3.sub _ _ fb,by rw[List.length_zip,<-hl,Gx];rw[Ac] at z2;exact z2,rfl⟩,?_⟩;rw[zod hl];rw[zkg ze7] at q;exact q F3 σ _ (s1.trans (s2.trans s3)) (R3.changeO eq2 hv0 (.dctT (zu2 hl _ _) (zhx ze7 (x1.mono s3) r))) (.refl _ _)
          | inl k =>
            cases js with
            |cons j js=>have z1:=z.1;unfold zcg at z1;rw[Ah,Bk,Ad] at z1;exact nomatch z1.1
            | nil =>
              have hv:vs=[]:=Bw.mp hl.symm;subst hv;refine .inr (.inr ⟨hH,k,kr,?_⟩);cases r;exact q F3 σ _ (s1.trans (s2.trans s3)) (R3.changeO eq2 hv0 (.dct (ks:=[k]) (vs:=[v1]) rfl (.cons (x1.mono s3) .nil))) (.refl _ _)
      · exact noSome h
    · exact noSome h
  · exact noSome h
theorem zde {P:Nat->Value->Prop}{acc:Array Value}{n:Nat}(h:ItemsOf P acc n):acc.toList.length=n/\∀(j:Nat) (v:Value),acc.toList[j]?=some v->P j v :=
 ⟨by rw[Bp];exact h.1,λj v e=>h.2 j v (by rw[<-Dv];exact e)⟩
noncomputable def zy0:List V->Hp->VK->Prop:=λxs H Q=>∃(p:Addr) (kvs:List (Key × V)),xs=[.ref p]/\(H p=some (.dK kvs)\/(H p=some (.dT [])/\kvs=[]))/\∀l,H l=none->Q (.ref l) (upd H l (.lst (kvs.map λp=>kV p.1)))
section
variable {X:Cx}
theorem call_listK (hc:X.calm=true){pins:List (Addr × Obj)}{s:Shared}{σ:St}{H:Hp}{Q:Value->Shared->Prop}{p:Addr}{kvs:List (Key × V)}(I:Inv X pins σ H s)(hp:H p=some (.dK kvs))(q:∀l s',H l=none->Inv X pins σ (upd H l (.lst (kvs.map λp=>kV p.1))) s'->Q (.ref l) s'):wpAny (model X.prog X.w) X.A (call (.type "list") [.ref p]) Q X.xe s:=by
 obtain⟨z,hd,vs,rel,dd⟩:=zz6 I.hok hp;obtain⟨ep,da⟩:=dd.dictAt;refine PySem.W.kdl_call (PySem.W.kdl_dict (knd:=zai X.prog X.w) (kvs:=vs) (ep:=ep) hd) (I.ok.hd hc) da (by rw[<-rel.length];exact z) λh' tk acc c kp ga it=>?_;obtain⟨l1,l2⟩:=zde it;have rv:=zih l1 l2;rw[<-znm rel] at rv;exact q _ _ (I.hok.fresh (Af _)) (I.laid (t':=tk) (o:=.lst (kvs.map λp=>kV p.1)) kp (Af _) ⟨by rw[Ac];exact z,acc.toList,c,rv,by rw[Fb];exact ga⟩)
theorem zvj {H:Hp}{a b:Addr}{o u:HO}(ne:a≠b):upd (upd H a o) b u=upd (upd H b u) a o:=by
 funext c
 by_cases h:c=a
 ·subst h;rw[upd_ne ne,upd_same,upd_same]
 ·by_cases k : c = b
  ·subst k;rw[upd_same,upd_ne h,upd_same]
  ·rw[upd_ne k,upd_ne h,upd_ne h,upd_ne k]
theorem zpu (hc:X.calm=true):zc2 X (.type "list") zy0:=by
 intro pins s σ H xs us Q I r h;obtain⟨p,kvs,rfl,hp,q⟩:=h;obtain⟨u,rfl,rx⟩:=vals1 r;cases rx;rcases hp with hp|⟨hp,rfl⟩
 ·exact call_listK hc I hp λl s' hl I'=>⟨.ref l,_,I',rfl,q l hl⟩
 ·refine call_listK hc (reK I hp) upd_same λl s' hl I' => ?_;have ne:l≠p:=λz=>by subst z;rw[upd_same] at hl;exact nomatch hl
  rw[upd_ne ne] at hl;have I2:=reT (a:=p) I' (by rw[upd_ne (Ne.symm ne),upd_same]);rw[zvj ne,zei hp] at I2;exact⟨.ref l,_,I2,rfl,q l hl⟩
end
noncomputable def keyV:DKey->Option W
 |.inl (.inl i)=>some (.int i)
 |.inl (.inr s)=>some (.str s)
 |.inr _=>none
noncomputable def znu:List DKey->Option (List W)
 |[]=>some []
 |k::ks=>(keyV k).bind λw=>(znu ks).bind λws=>some (w::ws)
theorem zfx {K:PySem.W.Frag}{F:Hp}:∀{ks:List DKey}{ws:List W},znu ks=some ws->∃js:List Key,ks=js.map .inl/\Reps K F ws (js.map kV)
  |[],_,e=>by obtain rfl:=sI e;exact⟨[],rfl,.nil⟩
  | k::ks,_,e=>by
    obtain⟨w,h1,e⟩:=bS e;obtain⟨ws,h2,e⟩:=bS e;obtain rfl:=sI e;obtain⟨js,rfl,r⟩:=zfx h2
    match k,h1 with
    |.inl (.inl i),h1=>obtain rfl:=sI h1;exact⟨.inl i::js,rfl,.cons (.int i) r⟩
    |.inl (.inr s),h1=>obtain rfl:=sI h1;exact⟨.inr s::js,rfl,.cons (.str s) r⟩
    |.inr _,h1=>exact noSome h1
theorem zms {as bs:List Key}(h:as.map (Sum.inl:Key->DKey)=bs.map .inl):as=bs:=List.map_inj_right (λa b=>zd5 a b) |>.mp h
theorem zfs:∀{js:List Key}{vs:List V},js.length=vs.length->((js.zip vs).map fun p=>kV p.1)=js.map kV
  |[],_,_=>rfl
  |_::_,[],h=>nomatch h
  | j::js,v::vs,h=>by
    rw[Bl,Ah,Ah,zfs (Ei h)]
noncomputable def zum:ON
 |[.dct ks _]=>(znu ks).bind λws=>#v[ws,2]
 |ws=>z5e ws
theorem DctR.dK {K:PySem.W.Frag}{F H:Hp}{a:Addr}{js:List Key}{ws:List W} (hj:js≠[]) (D:DctR K F H a (js.map .inl) ws):∃vs,H a=some (.dK (js.zip vs))/\js.length=vs.length:=by
  rcases D with⟨js',vs,e,h,hl,_⟩|⟨js',vs,e,h,hl,_⟩
  · obtain rfl:=zms e;exact⟨vs,h,hl⟩
  · cases js with
    |nil=>exact absurd rfl hj
    | cons j js=>cases js' with
      |nil=>exact nomatch e
      |cons j' js'=>rw[Ah,Ah] at e;exact nomatch (Hl e).1
theorem DctR.dK0 {K:PySem.W.Frag}{F H:Hp}{a:Addr}{js:List Key}{ws:List W} (D:DctR K F H a (js.map .inl) ws):∃kvs:List (Key × V),(H a=some (.dK kvs)\/(H a=some (.dT [])/\kvs=[]))/\(kvs.map fun p=>kV p.1)=js.map kV:=by
  rcases D with⟨js',vs,e,h,hl,_⟩|⟨js',vs,e,h,hl,_⟩
  · obtain rfl:=zms e;exact⟨_,.inl h,zfs hl⟩
  · cases js with
    | nil =>
      cases js' with
      |nil=>exact⟨[],.inr ⟨h,rfl⟩,rfl⟩
      |cons j' js'=>exact nomatch e
    | cons j js=>cases js' with
      |nil=>exact nomatch e
      |cons j' js'=>rw[Ah,Ah] at e;exact nomatch (Hl e).1
theorem DczR.dK {K:PySem.W.Frag}{F H:Hp}{a:Addr}{js:List Key}{ws:List W} (hj:js≠[]) (D:DczR K F H a (js.map .inl) ws):∃vs,(∃o,H a=some (.frz o (.dK (js.zip vs))))/\js.length=vs.length:=by
  rcases D with⟨js',vs,e,h,hl,_⟩|⟨js',vs,e,h,hl,_⟩
  · obtain rfl:=zms e;exact⟨vs,h,hl⟩
  · cases js with
    |nil=>exact absurd rfl hj
    | cons j js=>cases js' with
      |nil=>exact nomatch e
      |cons j' js'=>rw[Ah,Ah] at e;exact nomatch (Hl e).1
theorem zst {K:PySem.W.Frag}:OpSN K (λxs H Q=>(∃p ys,xs=[.ref p]/\(SqL K H p ys\/SqT K H p ys)/\∀l,H l=none->Q (.ref l) (upd H l (.lst ys)))\/zy0 xs H Q) zum:=λF H ws vs rv Q s r e q=>by
 unfold zum at e;split at e
 ·rename_i ks us;nofun;obtain⟨ws',h1,e⟩:=bS e;obtain⟨v,e1,h⟩:=r.one;obtain⟨js,rfl,rj⟩:=zfx (K:=K) (F:=F) h1;obtain⟨a,rfl,D⟩:=h.dct s;ac_rfl;rw[h1] at e;obtain rfl:=sI e;subst e1;obtain⟨kvs,ha,hk⟩:=D.dK0;exact .inr ⟨a,kvs,rfl,ha,λl hl'=>by rw[hk];exact q _ _ (.lst hl' rj)⟩
 ·exact .inl (zwl F H ws vs rv Q s r e q)
noncomputable def zy6:List V->Hp->VK->Prop:=λxs H Q=>∃(l:Addr) (kvs:List (Key × V)) (ns:List Int),xs=[.ref l]/\Rd H l (.dK kvs)/\(kvs.map λp=>kV p.1)=ns.map V.int/\∀p,H p=none->Q (.ref p) (upd H p (.lst ((zfl ns).map V.int)))
theorem zeo {prog:Program}{w:World}{A:Around}{E:Value->Shared->Prop}{s:Shared}{Q:List Value->Shared->Prop}{d:Addr}{vs:List (Key × Value)}{ep:Nat} (hh:A.handled=none) (hd:(d == sysModules)=false) (da:s.heap.DictAt (zai prog w) d vs ep) (hz:vs.length<=sizeLine)
    (hQ:∀(h' : Heap) (tk:Nat) (acc:Array Value),(∀b o,s.heap.get? b=some o->h'.get? b=some o)->ItemsOf (λi v=>∃k x,vs[i]?=some (k,x)/\(zai prog w).is k v=true) acc vs.length->Q acc.toList { s with heap:=h',toks:=tk }) :
    wpAny (model prog w) A (collect (.ref d)) Q E s:=by
  have lt:d < s.heap.objs.size:=da.lt_size;unfold collect;refine Aa (wpAny_runValue (codeAny_builtin PySem.F.entry_proto_collect ?_));rw [Around.under_plainId PySem.F.plain_proto_collect _];show wpAny _ A.in1 (newList [] >>= fun l=>again (.builtin "list.__iadd__" ⟨[l,.ref d],[]⟩)) _ _ s;refine Aa (Cg ?_);refine Ag ⟨plainId_quiet PySem.F.plain_list_iadd _,codeAny_builtin PySem.F.entry_list_iadd ?_⟩;rw [Around.under_plainId PySem.F.plain_list_iadd _];show wpAny _ A.in1 (Builtin.List.listExtendWith (.ref s.heap.objs.size) (.ref d) (.ref s.heap.objs.size)) _ _ _;have hS:(s.heap.push { cls:=.type "list",data:=.seq ([]:List Value).toArray }).get? s.heap.objs.size=some { cls:=.type "list",data:=.seq #[] 0 }:=Ak _ rfl;refine Dc (PySem.W.kdl_extend (A:=A) (R:=fun res s'=>∃(h' : Heap) (tk:Nat) (acc:Array Value) (c' : Nat),res=.ok (.ret (.ref s.heap.objs.size))/\s'={ s with heap:=h',toks:=tk }/\(∀b o,s.heap.get? b=some o->h'.get? b=some o)/\h'.get? s.heap.objs.size=some { cls:=.type "list",dict:=none,data:=.seq acc c',slots:=#[] }/\ItemsOf (fun i v=>∃k x,vs[i]?=some (k,x)/\(zai prog w).is k v=true) acc vs.length)
    (s:={ s with heap:=s.heap.push { cls:=.type "list",data:=.seq ([]:List Value).toArray } }) (PySem.W.kdl_dict (knd:=zai prog w) (kvs:=vs) (ep:=ep) hd) hh (da.push _) s.heap.objs.size (Gw lt) (Gw lt) (.ref s.heap.objs.size) 0 hS (λh' tk acc c' hk hS' hacc=>⟨h',tk,acc,c',rfl,rfl,λb o e=>hk b o (Bc (Ao e)) (Ab _ e),hS',hacc⟩) hz) (λfin s' h=>?_) (λe s' h=>?_)
  · have fin' : ∀s',(∃(h' : Heap) (tk:Nat) (acc:Array Value) (c' : Nat),s'={ s with heap:=h',toks:=tk }/\(∀b o,s.heap.get? b=some o->h'.get? b=some o)/\h'.get? s.heap.objs.size=some { cls:=.type "list",dict:=none,data:=.seq acc c',slots:=#[] }/\ItemsOf (fun i v=>∃k x,vs[i]?=some (k,x)/\(zai prog w).is k v=true) acc vs.length)->wpAny (model prog w) A (match Value.ref s.heap.objs.size with
      | Value.ref a=>do
        match (<- load a).data with
          |Data.seq xs _=>pure xs.toList
          |_=>unsupported "internal:collect"
      |_=>unsupported "internal:collect") Q E s':=by
      rintro s' ⟨h',tk,acc,c',rfl,k1,k2,k3⟩;show wpAny _ A (load s.heap.objs.size >>= _) _ _ _;refine Aa (wpAny_load k2 ?_);exact Ag (hQ h' tk acc k1 k3)
    cases fin with
    | done f =>
      obtain⟨h',tk,acc,c',e,r⟩:=h;cases e;exact fin' s' ⟨h',tk,acc,c',r⟩
    |again c'=>exact⟨h.1,codeAny_mono h.2 λr s'' hr=>by obtain⟨h',tk,acc,c',rfl,q⟩:=hr;exact fin' s'' ⟨h',tk,acc,c',q⟩⟩
  · obtain ⟨h', tk, acc, c', e, r⟩ := h
    cases e
section
variable {X:Cx}
theorem zp4 (hc:X.calm=true):zc2 X (.builtin "sorted") zy6:=by
 intro pins s σ H xs us Q I r h;obtain⟨d,kvs,ns,rfl,hp,ek,q⟩:=h;obtain⟨u,rfl,rx⟩:=vals1 r;cases rx;obtain⟨z,hd,kv,rel,dd⟩:=dk_rd I.hok hp;obtain⟨ep,da⟩:=dd.dictAt;have zk:kv.length<=sizeLine:=by rw[<-rel.length];exact z
 refine call_function_entry_kw kind_sorted plain_sorted entry_sorted (args_sorted1 _) ?_;unfold Builtin.«sorted»;refine Aa (m:=checkCount "sorted" 1 1 _) (Ag ?_);refine Aa (zeo (I.ok.hd hc) hd da zk λh1 tk acc kp1 it=>?_);obtain⟨l1,l2⟩:=zde it;have rv:=zih l1 l2;rw[<-znm rel,ek] at rv;generalize acc.toList=vs at l1 rv ⊢;have lv:ns.length=vs.length:=by have:=rv.length;rw[Ac] at this;exact this
 have hz' : vs.length<=sizeLine:=by rw[l1];exact zk
 have ia:IntsAre vs ns:=zgw rv;have I1:Inv X pins σ H { s with heap:=h1,toks:=tk }:=I.kept kp1;refine Aa (Gz ?_ hz');have hoL:(h1.push (seqObj "list" vs.toArray 0)).get? h1.objs.size=some (seqObj "list" vs.toArray 0):=Ak _ rfl;have keep:∀b o,h1.get? b=some o->(h1.push (seqObj "list" vs.toArray 0)).get? b=some o:=λb o q=>Ab _ q;show wpAny _ _ _ _ _ { s with heap:=h1.push (seqObj "list" vs.toArray 0),toks:=tk };generalize h1.push (seqObj "list" vs.toArray 0)=h3 at hoL keep ⊢;obtain⟨a,ea⟩ : ∃a,a=h1.objs.size:=⟨_,rfl⟩;show wpAny _ _ (holding [.ref h1.objs.size] _ >>= _) _ _ _;rw[<-ea] at hoL ⊢;refine Aa (Cr (wpAny_call_entry_kw slot_list_sort ⟨_,hoL,rfl⟩ entry_list_sort ?body (args_list_sort _)))
 case body =>
  refine zko (s:={ s with heap:=h3,toks:=tk }) hoL ia hz' λr h' c pm pw ga kp=>⟨_,rfl,?_⟩;have al:∀x∈r,x.2=x.1/\∃n t,x.1=Value.int n t:=λx hx=>by
   obtain⟨e1,e2⟩:=zoa (pm.mem_iff.mp hx);obtain⟨i,hi,e⟩:=Cm.mp e2;obtain⟨t,ht⟩:=ia.get i ns[i] (Ae #v[]);rw[Ae hi,e] at ht;exact⟨e1,_,t,sI ht⟩
  have pi:(r.map λx=>(kN x.1).headD 0).Perm ns:=by
   refine (pm.map _).trans ?_;have:∀{vs:List Value}{ns:List Int},IntsAre vs ns->(vs.zip vs).map (λx=>(kN x.1).headD 0)=ns:=λ{vs ns} h=>by
    induction h with
    |nil=>rfl
    |cons n t h ih=>rw[Bl,Ah,ih];rfl
   rw[this ia]
  have ps:(r.map λx=>(kN x.1).headD 0).Pairwise (·<=·):=by
   rw[Dh];refine pw.imp_of_mem λ{x y} hx hy z=>?_;obtain⟨_,n,t,e1⟩:=al x hx;obtain⟨_,m,t',e2⟩:=al y hy;rw[e1,e2] at z ⊢;have z:lexI [m] [n]=false:=z;rw[zix] at z;have:=Ha z;show n<=m;omega
  have eo:=zi8 pi ps;have rv':=zgx al;rw[<-eo] at rv';refine Ag ⟨_,rfl,.ref a,_,I1.laid (t':=tk) (o:=.lst ((zfl ns).map V.int)) (λb o eb=>kp b o (λz=>Cj _ (by have:=Ao eb;rw[z,ea] at this;exact this)) (keep b o eb)) (Nat.le_of_eq ea.symm) ?_,rfl,q a (I1.hok.fresh (Nat.le_of_eq ea.symm))⟩;exact⟨by rw[eo,Ac,pi.length_eq];omega,_,c,rv',ga⟩
end
noncomputable def zh1:ON
 |[.dct ks _]=>(znu ks).bind λws=>(zb1 ws).bind λns=>if ks.isEmpty then none else #v[((zfl ns).map W.int),2]
 |[.dcz ks _]=>(znu ks).bind λws=>(zb1 ws).bind λns=>if ks.isEmpty then none else #v[((zfl ns).map W.int),2]
 |ws=>zs0 ws
theorem zrc {K:PySem.W.Frag}:OpSN K (λxs H Q=>(∃(l:Addr) (ns:List Int),xs=[.ref l]/\(SqL K H l (ns.map V.int)\/SqT K H l (ns.map V.int))/\∀p,H p=none->Q (.ref p) (upd H p (.lst ((zfl ns).map V.int))))\/zy6 xs H Q) zh1:=λF H ws vs rv Q s r e q=>by
 unfold zh1 at e;split at e
 ·rename_i ks us;nofun;obtain⟨ws',h1,e⟩:=bS e;obtain⟨ns,h2,e⟩:=bS e;obtain⟨v,e1,h⟩:=r.one;obtain⟨js,rfl,rj⟩:=zfx (K:=K) (F:=F) h1;obtain⟨a,rfl,D⟩:=h.dct s;ac_rfl;split at e
  ·exact noSome e
  ·rename_i hne;obtain rfl:=sI e;subst e1;obtain⟨vs,ha,hl⟩:=D.dK (λz=>hne (by rw[z];rfl));rw[zcr h2] at rj;exact .inr ⟨a,_,ns,rfl,.inl ha,by rw[zfs hl,rj.ints],λl hl'=>q _ _ (.lst hl' (zer _))⟩
 ·rename_i ks us;nofun;obtain⟨ws',h1,e⟩:=bS e;obtain⟨ns,h2,e⟩:=bS e;obtain⟨v,e1,h⟩:=r.one;obtain⟨js,rfl,rj⟩:=zfx (K:=K) (F:=F) h1;obtain⟨a,rfl,D⟩:=h.dcz s;ac_rfl;split at e
  ·exact noSome e
  ·rename_i hne;obtain rfl:=sI e;subst e1;obtain⟨vs,ha,hl⟩:=D.dK (λz=>hne (by rw[z];rfl));rw[zcr h2] at rj;exact .inr ⟨a,_,ns,rfl,.inr ha,by rw[zfs hl,rj.ints],λl hl'=>q _ _ (.lst hl' (zer _))⟩
 ·exact .inl (zql F H ws vs rv Q s r e q)
noncomputable def zsa (S:Sx):Expr->Bool
 |.Name x _=>dOn S x
 |_=>false
section
variable {X:Cx}{S:Sx}{d:Nat}{fE:Sx->Expr->Option GE}
theorem zqg (C:CxOk X S d):X.A.units+1<cLine:=by have:=C.sl;omega
noncomputable def zmj (fE:Sx->Expr->Option GE) (S:Sx):Expr->Option GE
 |.Dict ks vs _=>if S.bn.contains ("dict" : Str) && ks.isEmpty && vs.isEmpty then some z0x else none
 |_=>none
theorem zqw (HE:za7 fE)(C:CxOk X S d):zfn (zmj fE S) X:=λe g h=>by
 unfold zmj at h;split at h
 ·split at h
  ·rename_i ks vs _ z;rw[Ad,Ad] at z;obtain rfl:=sI h;have e1:ks=[]:=List.isEmpty_iff.mp z.1.2;have e2:vs=[]:=List.isEmpty_iff.mp z.2;subst e1 e2;exact zxp.wk λ_ _ _=>zq4
  ·exact noSome h
 ·exact noSome h
noncomputable def zs4 (fE:Sx->Expr->Option GE) (S:Sx):Expr->Option GE
 |.Subscript a s _=>if zsa S a && zcd s then (za5 fE S a).bind λx=>(za5 fE S s).bind λy=>some (gOp2 oIxD x y) else none
 |_=>none
theorem zuk (HE:za7 fE)(C:CxOk X S d):zfn (zs4 fE S) X:=λe g h=>by
 unfold zs4 at h;split at h
 ·split at h
  ·rename_i z;rw[Ad] at z;obtain⟨x,hx,h⟩:=bS h;obtain⟨y,hy,h⟩:=bS h;obtain rfl:=sI h;exact (z3f ((zva.or zzn).or (zzw (zqg C))) (zae HE C hx) (zae HE C hy) (zhv z.2)).wk λ_ _ _=>zb5 z0i
  ·exact noSome h
 ·exact noSome h
noncomputable def znb (fE:Sx->Expr->Option GE) (S:Sx):Expr->Option GE
 |.Call (.Attribute (.Name x _) name apos) [e,e'] [] cpos=>if name == ("get" : Str) && (apos.endLine == cpos.line) && zaf e && zaf e' then (S.rd x).bind λi=>(fE S e).bind λg=>(fE S e').bind λg'=>some (zj5 i g g') else none
 |_=>none
theorem zqc (HE:za7 fE)(C:CxOk X S d):zfn (znb fE S) X:=λe g h=>by
 unfold znb at h;split at h
 ·split at h
  ·rename_i z;rw[Ad,Ad,Ad] at z;obtain⟨⟨⟨z1,z2⟩,y1⟩,y2⟩:=z;have e1:=Ca z1;subst e1;obtain⟨i,hi,h⟩:=bS h;obtain⟨g1,hg1,h⟩:=bS h;obtain⟨g2,hg2,h⟩:=bS h;obtain rfl:=sI h;exact (zxs (zqg C) (zg5 C hi) (HE X S d C _ _ hg1) (HE X S d C _ _ hg2) ⟨znz rfl,z1w y1 y2,z2,by rw[zac y1,zac y2];rfl⟩).wk λ_ _ _=>zr3
  ·exact noSome h
 ·exact noSome h
noncomputable def z2o:Expr->Bool
 |.Call (.Name x _) _ _ _=>x == ("dict" : Str)
 |_=>false
noncomputable def zto (fE:Sx->Expr->Option GE) (S:Sx):Expr->Option GE
 |.Call (.Name x _) [e] [] _=>if (zsa S e || z2o e) && S.bl x && zaf e then (if x == ("list" : Str) then (asL (za5 fE S) [e]).bind λas=>some (gOpN zum as) else if x == ("sorted" : Str) then (asL (za5 fE S) [e]).bind λas=>some (gOpN zh1 as) else none) else none
 |_=>none
theorem zue (HE:za7 fE)(C:CxOk X S d):zfn (zto fE S) X:=λe g h=>by
 unfold zto at h;split at h
 ·split at h
  ·rename_i z;rw[Ad,Ad] at z;obtain⟨gl,m⟩:=zjd C z.1.2;split at h
   ·rename_i z1;have e1:=Ca z1;subst e1;obtain⟨as,has,h⟩:=bS h;obtain rfl:=sI h;obtain⟨pa,_⟩:=zgo (λe a ha=>zae HE C ha) has;exact (zee (zjw.or (zpu C.calm)) gl m zsg pa #v[0,9] #v[0,9] (zac z.2) rfl).wk λ_ _ _=>ziw zst
   ·split at h
    ·rename_i z1;have e1:=Ca z1;subst e1;obtain⟨as,has,h⟩:=bS h;obtain rfl:=sI h;obtain⟨pa,_⟩:=zgo (λe a ha=>zae HE C ha) has;exact (zcx (zp7.or (zp4 C.calm)) gl m (show bootBuiltins "sorted" = some (.builtin "sorted") from PyProof.Rows.boot_sorted) pa #v[0,9] #v[0,9] (zac z.2) rfl).wk λ_ _ _=>ziw zrc
    ·exact noSome h
  ·exact noSome h
 ·exact noSome h
end
section
variable {X:Cx}{S:Sx}{d:Nat}{fE:Sx->Expr->Option GE}
end
section
variable {X:Cx}{pins:List (Addr × Obj)}{σ:St}{H:Hp}{s:Shared}{a:Addr}{y:V}{u:Value}{A:Around}{E:Value->Shared->Prop}{Q:Value->Shared->Prop}
theorem d_no {f:Sem Value}{b:Bool}(go:∀{H:Hp},Inv X pins σ H s->DGet H a y none->RelV y u->(∀s',Inv X pins σ H s'->Q (.bool b) s')->wpAny (model X.prog X.w) A f Q E s)(I:Inv X pins σ H s)(g:DNo H a y)(ry:RelV y u)(h:∀s',Inv X pins σ H s'->Q (.bool b) s'):wpAny (model X.prog X.w) A f Q E s:=by
 rcases g with g|⟨e,b',k,rfl,hb⟩|⟨e,k,rfl⟩
 ·exact go I g ry h
 ·have ne : b' ≠ a:=λz=>by subst z; rw[e] at hb; exact nomatch hb
  refine go (reT I e) (.inr ⟨[],k,b',.inl upd_same,rfl,by rw[upd_ne ne];exact hb,rfl⟩) ry λs' I'=>h s' ?_;have:=reK I' upd_same
  rwa [zei e] at this
 ·refine go (reK I e) (.inl ⟨[],k,.inl upd_same,rfl,rfl⟩) ry λs' I' => h s' ?_;have:=reT I' upd_same
  rwa [zei e] at this
end
noncomputable def rInD (neg:Bool):R2:=λx y H Q=>∃a,y=.ref a/\((∃v,DGet H a x (some v)/\Q (.bl (!neg)) H)\/(DNo H a x/\Q (.bl neg) H))
theorem z4t {X:Cx}(hu:X.A.units+1<cLine):OpR X (compareOp .In) (rInD false):=by
 intro pins s σ H x y v u Q I rx ry h;obtain⟨a,rfl,h⟩:=h;cases ry;rcases h with⟨z,g,q⟩|⟨g,q⟩
 ·exact d_in hu I g rx λs' I'=>⟨.bl _,H,I',rfl,q⟩
 ·exact d_no (λI g ry h=>d_in hu I g ry h) I g rx λs' I'=>⟨.bl _,H,I',rfl,q⟩
theorem zsy {X:Cx}(hu:X.A.units+1<cLine):OpR X (compareOp .NotIn) (rInD true):=by
 intro pins s σ H x y v u Q I rx ry h;obtain⟨a,rfl,h⟩:=h;cases ry;rcases h with⟨z,g,q⟩|⟨g,q⟩
 ·exact zt5 hu I g rx λs' I'=>⟨.bl _,H,I',rfl,q⟩
 ·exact d_no (λI g ry h=>zt5 hu I g ry h) I g rx λs' I'=>⟨.bl _,H,I',rfl,q⟩
noncomputable def oInD (neg:Bool):O2:=fun k a=>match a with
  | .dct ks ws=>(keyD k).bind fun d=>match valW (ks.zip ws) d with
    |some _=>some (.bl (!neg),false)
    |none=>if zcg d ks then some (.bl neg,false) else none
  | .dcz ks ws=>(keyD k).bind fun d=>match valW (ks.zip ws) d with
    |some _=>some (.bl (!neg),false)
    |none=>if zcg d ks && !ks.isEmpty then some (.bl neg,false) else none
  |a=>oIn neg k a
theorem zuj {K:PySem.W.Frag} (neg:Bool):OpS K (fun x y H Q=>rIn K neg x y H Q\/rInD neg x y H Q) (oInD neg):=fun F H w1 w2 v1 v2 rv Q s r1 r2 e q=>by
  cases w2 with
  | dct ks ws =>
    obtain⟨d,hd,e⟩:=bS (show (keyD w1).bind _=_ from e);obtain⟨a,rfl,D⟩:=r2.dct s;split at e
    · rename_i w hw
      obtain rfl:=sI e;obtain⟨v,h1,h2⟩:=D.get s (r1.key hd) hw;exact .inr ⟨a,rfl,.inl ⟨v,h1,q _ _ (.val (.bl _))⟩⟩
    · rename_i hw
      split at e
      · rename_i hs
        obtain rfl:=sI e;exact .inr ⟨a,rfl,.inr ⟨D.no s (r1.key hd) hs hw,q _ _ (.val (.bl _))⟩⟩
      · exact noSome e
  | dcz ks ws =>
    obtain⟨d,hd,e⟩:=bS (show (keyD w1).bind _=_ from e);obtain⟨a,rfl,D⟩:=r2.dcz s;split at e
    · rename_i w hw
      obtain rfl:=sI e;obtain⟨v,h1,h2⟩:=D.get s (r1.key hd) hw;exact .inr ⟨a,rfl,.inl ⟨v,h1,q _ _ (.val (.bl _))⟩⟩
    · rename_i hw
      split at e
      · rename_i hs
        obtain rfl:=sI e;exact .inr ⟨a,rfl,.inr ⟨D.no s (r1.key hd) hs hw,q _ _ (.val (.bl _))⟩⟩
      · exact noSome e
  |_=>exact .inl (z5z neg F H w1 _ v1 v2 rv Q s r1 r2 e q)
section
variable {K:PySem.W.Frag}{F H:Hp}{pr:Prt}{en:En}{σ:St}
theorem Rel.letgo {pr' : Prt}(R:Rel K F pr' en σ H){p:Addr}{o:HO}(hg:pr' p o)(no:∀ps,o≠.tbl ps){w:W}{o' : HO}(h:OwnR K F w o')(hpr:∀b u,pr b u->pr' b u/\b≠p):Rel K F pr en σ (upd H p o')/\Res K F (upd H p o') pr en σ (w,true) (.ref p):=by
 obtain⟨g1,g2,g3⟩:=R.prt p o hg;have nt:∀b ps,H b=some (.tbl ps)->b≠p:=λb ps e z=>by subst z;rw[g1] at e;exact no ps (sI e)
 have fn:∀b u,F b=some u->b≠p:=λb u e z=>by subst z;rw[g2] at e;exact noSome e
 refine⟨⟨R.len,λb u e=>by rw[upd_ne (fn b u e)];exact R.sub b u e,R.val,λi w e=>?_,R.inj,λq o2 hq=>?_,R.tb.go (λb xs z=>(hpr b _ z).1) (λb ps e f=>⟨by rw[upd_ne (nt b ps e)];exact e,f⟩) (.refl F) λb ps e h o z=>h o (hpr b o z).1⟩,p,o',w,rfl,rfl,upd_same,g2,h,g3,λb u hb=>(hpr b u hb).2⟩
 ·obtain⟨a,vs,ws,h1,h2,h3,h4,h5⟩:=R.own i w e;have ne:a≠p:=λz=>by subst z;exact g3 i w e h2
  exact⟨a,vs,ws,h1,h2,by rw[upd_ne ne];exact h3,h4,h5⟩
 ·obtain⟨h0,ne⟩:=hpr q o2 hq;obtain⟨h1,h2,h3⟩:=R.prt q o2 h0;exact⟨by rw[upd_ne ne];exact h1,h2,h3⟩
end
noncomputable def z6y:CmpOp->Option Bool
 |.In=>some false
 |.NotIn=>some true
 |_=>none
noncomputable def cmpD (f:Sx->Expr->Option GE) (S:Sx) (a:Expr) (ops:List CmpOp) (cs:List Expr):Option GE:=match ops,cs with
 |[op],[b]=>(z6y op).bind λn=>if zsa S b && zk0 b then (za5 f S a).bind λx=>(za5 f S b).bind λy=>some (gOp2 (oInD n) x y) else none
 |_,_=>none
noncomputable def cmpY (f:Sx->Expr->Option GE) (S:Sx) (a:Expr) (ops:List CmpOp) (cs:List Expr):Option GE:=match cmpD f S a ops cs with
 |some g=>some g
 |none=>cmpE f S a ops cs
section
variable {X:Cx}{S:Sx}{d:Nat}{f:Sx->Expr->Option GE}
theorem z1k (Hf:za7 f)(C:CxOk X S d){a:Expr}{ops:List CmpOp}{cs:List Expr}{g:GE}{pos:Pos}(h:cmpD f S a ops cs=some g):PE X (.Compare a ops cs pos) (tE X.K g)/\PT X (.Compare a ops cs pos) (tT X.K (zal g)):=by
 unfold cmpD at h;split at h
 ·rename_i op b;obtain⟨n,hn,h⟩:=bS h;split at h
  ·rename_i z;rw [Ad] at z;obtain ⟨x,hx,h⟩:=bS h;obtain ⟨y,hy,h⟩:=bS h;obtain rfl:=sI h;have h1:OpR X (compareOp op) (fun x y H Q=>rIn X.K n x y H Q\/rInD n x y H Q):=by
    cases op with
    |In=>obtain rfl:=sI hn;exact .or zr8 (z4t (zqg C))
    |NotIn=>obtain rfl:=sI hn;exact .or zlo (zsy (zqg C))
    |_=>exact noSome hn
   exact⟨(zug h1 (zae Hf C hx) (zae Hf C hy) (zfy z.2)).wk λ_ _ _=>zb5 (zuj n),(zss h1 (zae Hf C hx) (zae Hf C hy) (zfy z.2)).wk λ_ _ _=>zgl λ_ _ _=>zb5 (zuj n)⟩
  ·exact noSome h
 ·exact noSome h
theorem zs1 (Hf:za7 f)(C:CxOk X S d){a:Expr}{ops:List CmpOp}{cs:List Expr}{g:GE}{pos:Pos}(h:cmpY f S a ops cs=some g):PE X (.Compare a ops cs pos) (tE X.K g)/\PT X (.Compare a ops cs pos) (tT X.K (zal g)):=by
 unfold cmpY at h;split at h
 ·rename_i q;obtain rfl:=sI h;exact z1k Hf C q
 ·exact z2s Hf C h
end
section
variable {X:Cx}{S:Sx}{d:Nat}{f:Sx->Expr->Option GE}
end
section
variable {prog:Program}{w:World}{A:Around}{E:Value->Shared->Prop}{s:Shared}
variable {K:Type} [DecidableEq K]
variable {I:Addr}{fp wr:List Addr}{n:Nat}{P:Nat->Value->Prop}{St:Nat->Heap->Prop}{R:Result->Shared->Prop}
end
section
variable {prog:Program}{w:World}{A:Around}{E:Value->Shared->Prop}{s:Shared}
end
section
variable {X:Cx}{pins:List (Addr × Obj)}{σ:St}{H:Hp}{s:Shared}{A:Around}{E:Value->Shared->Prop}
end
section
variable {K:PySem.W.Frag}{F H:Hp}
end
section
variable {X:Cx}{S:Sx}{d:Nat}{fE:Sx->Expr->Option GE}
end
section
variable {X:Cx}{pins:List (Addr × Obj)}{σ:St}{H:Hp}
end
section
variable {X:Cx}
variable {S:Sx}{d:Nat}{fE:Sx->Expr->Option GE}
end
section
variable {prog:Program}{w:World}{A:Around}{E:Value->Shared->Prop}{s:Shared}{it d v:Addr}{o:Obj}{es:Array DictEntry}{i ep:Nat}
end
section
variable {X:Cx}{tg:Expr}
end
section
variable {X:Cx}{S:Sx}{d:Nat}{f:Sx->Expr->Option GE}
end
section
variable {prog:Program}{w:World}{A:Around}{E:Value->Shared->Prop}{s:Shared}
end
section
variable {X:Cx}{pins:List (Addr × Obj)}{σ:St}{H:Hp}{s:Shared}{A:Around}{E:Value->Shared->Prop}
end
section
variable {X:Cx}{S:Sx}{d:Nat}{fE:Sx->Expr->Option GE}
end
section
variable {X:Cx}
end
section
variable {K:PySem.W.Frag}{F H:Hp}{pr pb:Prt}{en:En}{σ:St}
end
section
variable {K:PySem.W.Frag}{mp:List Nat}{pb:Prt}{acc:Addr}
end
noncomputable def zy7 (tk tv:TE):TE:=λσ H Q=>∀p,H p=none->tk σ (upd H p (.dT [])) λx H1=>tv σ H1 λy H2=>H2 p=some (.dT [])/\∃k b,x=.ref b/\H2 b=some (.tup (k.map kV))/\Q (.ref p) (upd H2 p (.dT (putK [] k y)))
theorem zxg {X:Cx}{pos:Pos}{k v:Expr}{tk tv:TE}(hu:X.A.units+1<cLine)(hk:PE X k tk)(hv:PE X v tv):PE X (.Dict [some k] [v] pos) (zy7 tk tv):=by
 intro pins s σ H Q I q;have hn:=I.hok.fresh (Af s.heap.objs.size);have I1:=I.laid (a:=s.heap.objs.size) (o:=.dT []) (h':=s.heap.push { cls:=.type "dict",data:=.dict #[] }) (t':=s.toks) (λ_ _ q=>Ab _ q) (Af _) (zxt s.heap I.big);rw[arm_eval_Dict,zip_pairTrees [some k] [v] X.env pos rfl rfl,dictDisplay_pairs _ (by intro z;cases z) (by show 1<17;decide)];refine Aa (Hu (Aa ?_));unfold subDict;refine Aa (wpAny_alloc ?_);refine Aa (Cr ?_);rw[if_pos (by show 1<=15;decide)];refine Aa (pairTrees_cons_walk (thn (hk pins _ σ _ _ I1 (q _ hn)) λkv s1 ⟨x,H1,I1',rx,q1⟩=>thn (hv pins s1 σ H1 _ I1' q1) λvv s2 ⟨y,H2,I2,ry,e,ks,b,ex,hb,q2⟩=>pairTrees_nil_walk ?_));subst ex;cases (show kv=Value.ref b from rx);refine Cr ?_;obtain⟨z,hd,xs,rel,dd⟩:=z5x I2.hok e;have hz:xs.length<=sizeLine:=by rw[<-Paired.length rel];exact z
 have hl:(putK [] ks y).length<=sizeLine:=by have:=zd9 [] ks y;rw[Ff] at *;simp at this;omega
 rw[Fm];refine Aa (Aa (Aa (wpAny_dictSet_heap (hsz:=hz) (show (tupleKind (zai X.prog X.w)).room X.A from Nat.lt_of_succ_lt hu) (zg1 I2.hok hb) dd λh' dd' hs=>?_)));refine Ag ?_;dsimp only;rw[Ee];refine Ag (Ag (Ag (Ag ?_)));obtain⟨o,es,ep,hq,h2,h3,h4,_,h5⟩:=dd';refine⟨.ref s.heap.objs.size,_,zfb (ob:=.dT (putK [] ks y)) I2 (by rw[e];exact True.intro) hs ⟨o,hq⟩ ⟨hl,hd,_,(rel.put ks hb ry).keeps λc ys ec=>?_,o,es,ep,hq,h2,h3,h4,h5⟩,rfl,q2⟩;rw[upd_ne (zrr ec e (λz=>nomatch z))];exact ec
noncomputable def zt9 (k v:GE):GE:=λen=>(k en).bind λp=>(match p.2.1 with|.tup ws=>keysF ws|_=>none).bind λd=>(v p.1).bind λq=>some (q.1,(.dct [.inr d] [q.2.1],true))
theorem zuz {K:PySem.W.Frag}{k v:GE}{σ:St}{H:Hp}{Q:VK}(h:tE K (zt9 k v) σ H Q):zy7 (tE K k) (tE K v) σ H Q:=by
 obtain⟨F,pr,en,en',r,R,h,q⟩:=h;obtain⟨⟨e1,r1⟩,h1,h⟩:=bS h;obtain⟨d,hd,h⟩:=bS h;obtain⟨⟨e2,r2⟩,h2,h⟩:=bS h;cases h;intro p hp;refine⟨F,_,en,e1,r1,R.guard hp (.dT []) (λ_ z=>nomatch z),h1,λF1 H1 x s1 R1 y1=>?_⟩;obtain⟨F1',s1',R1',x1⟩:=y1.freeze R1;refine⟨F1',_,e1,e2,r2,R1',h2,λF2 H2 y s2 R2 y2=>?_⟩;obtain⟨F3,s3,R3,x3⟩:=y2.freeze R2;have kx:∃b,x=.ref b/\F1' b=some (.tup (d.map kV)):=by
  split at hd
  ·rename_i ws ew;have ew:r1.1=.tup ws:=ew;rw[ew] at x1;cases x1 with
   |tup hh r=>exact⟨_,rfl,by rw[hh,r.keysF hd]⟩
  ·exact noSome hd
 obtain⟨b,rfl,hb⟩:=kx;have g:(λb u=>pr b u\/(b=p/\u=HO.dT [])) p (.dT []):=.inr ⟨rfl,rfl⟩;obtain⟨g1,g2,_⟩:=R3.prt p _ g;refine⟨g1,d,b,rfl,R3.sub _ _ (s3 _ _ (s2 _ _ hb)),?_⟩;obtain⟨R4,y4⟩:=R3.letgo (pr:=pr) (p:=p) (o:=.dT []) (w:=.dct [.inr d] [r2.1]) (o':=.dT (putK [] d y)) g (λ_ z=>nomatch z) (.dctT (ks:=[d]) (ws:=[r2.1]) (vs:=[y]) rfl (.cons x3 .nil)) λb u hb=>⟨.inl hb,λz=>by have:=(R.prt b u hb).1;rw[z,hp] at this;exact noSome this⟩;exact q F3 _ _ (s1.trans (s1'.trans (s2.trans s3))) R4 y4
section
variable {X:Cx}{S:Sx}{d:Nat}{f:Sx->Expr->Option GE}
noncomputable def z53:Expr->Bool
 |.Tuple _ _ _=>true
 |.BinOp (.Tuple _ _ _) _ _ _=>true
 |_=>false
noncomputable def zmb (fE:Sx->Expr->Option GE) (S:Sx):Expr->Option GE
 |.Dict [some k] [v] _=>if S.bn.contains ("dict" : Str) && z53 k then (fE S k).bind λa=>(fE S v).bind λb=>some (zt9 a b) else none
 |_=>none
theorem zqj (HE:za7 f)(C:CxOk X S d):zfn (zmb f S) X:=λe g h=>by
 unfold zmb at h;split at h
 ·split at h
  ·obtain⟨a,ha,h⟩:=bS h;obtain⟨b,hb,h⟩:=bS h;obtain rfl:=sI h;exact (zxg (zqg C) (HE X S d C _ _ ha) (HE X S d C _ _ hb)).wk λ_ _ _=>zuz
  ·exact noSome h
 ·exact noSome h
end
section
variable {prog:Program}{w:World}{A:Around}{E:Value->Shared->Prop}{s:Shared}
end
section
variable {K:PySem.W.Frag}{F:Hp}
end
section
variable {X:Cx}{tg:Expr}
end
section
variable {K:PySem.W.Frag}{σ:St}{H:Hp}
end
section
variable {X:Cx}{S:Sx}{d:Nat}{f:Sx->Expr->Option GE}
end
section
variable {K:PySem.W.Frag}
end
section
variable {K:PySem.W.Frag}{σ:St}{H:Hp}
end
section
open PySem.AutoSeq1 (wpAny_loadPart')
end
section
variable {X:Cx}{S:Sx}{d:Nat}{fE:Sx->Expr->Option GE}
end
set_option maxHeartbeats 1000000
section
variable {prog:Program}{w:World}{A:Around}{E:Value->Shared->Prop}{s:Shared}
end
section
variable {prog:Program}{w:World}{A:Around}{E:Value->Shared->Prop}{s:Shared}
end
section
variable {X:Cx}{S:Sx}{d:Nat}{fE:Sx->Expr->Option GE}
end
section
variable {X:Cx}{S:Sx}{d:Nat}{fE:Sx->Expr->Option GE}
end
namespace SetT
noncomputable abbrev HT:=Array Int × SetTable
end SetT
section
variable {prog:Program}{w:World}{A:Around}{E:Value->Shared->Prop}{s:Shared}
end
section
variable {prog:Program}{w:World}{A:Around}{R:Result->Shared->Prop}{I:Addr}{fp wr:List Addr}{G:Array GenState->Array GenState->Prop}{n:Nat}{P:Nat->Value->Prop}{St:Nat->Shared->Prop}
end
section
variable {prog:Program}{w:World}{A:Around}{E:Value->Shared->Prop}{s:Shared}
end
end L2
namespace L2
open PySem PySem.Spec PyProof.Rows
section
variable {prog:Program}{w:World}{A:Around}{E:Value->Shared->Prop}{s:Shared}{it d:Addr}{es:Array (Int × Value)}{ep slot i:Nat}{t:SetTable}
end
section
variable {prog:Program}{w:World}{A:Around}{E:Value->Shared->Prop}{s:Shared}
end
section
variable {X:Cx}{pins:List (Addr × Obj)}{σ:St}{H:Hp}
end
section
variable {X:Cx}{pins:List (Addr × Obj)}{σ:St}{H:Hp}
end
section
variable {X:Cx}{S:Sx}{d:Nat}{fE:Sx->Expr->Option GE}
end
theorem z6j {prog:Program}{w:World}{d:Addr}{es:Array DictEntry}{ep:Nat} (hd:(d == sysModules)=false) :
  PySem.W.KdlSrc prog w "dict" d d es.size (λi v=>(es[i]?).map (·.key)=some v) (λh=>∃o,h.get? d=some o/\o.ExactDict/\o.data=.dict es ep) where
 type:=λ_ ⟨o,ho,hx,_⟩=>⟨o,ho,hx.1⟩
 there:=λ_ ⟨_,ho,_⟩=>⟨Ao ho,Ao ho⟩
 keep:=λ_ _ ⟨o,ho,r⟩ k=>⟨o,k d (.inl rfl) o ho,r⟩
 notList:=by decide
 notTuple:=by decide
 hint:=λ_ _ _ _ ⟨o,ho,hx,_⟩ q=>PySem.W.kdl_hint_dict ⟨o,ho,hx.1⟩ q
 iter:=λA s hh ⟨o,ho,hx,hdat⟩=>by
  have lt:d<s.heap.objs.size:=Ao ho;refine⟨_,λi h=>h.IsKeyIter s.heap.objs.size d i es.size ep/\∃o,h.get? d=some o/\o.data=.dict es ep,λ_ _ q=>zmk hd ho hx hdat q,⟨?_,?_,?_,?_,?_⟩,⟨_,Ak _ rfl,rfl,rfl⟩,o,Ab _ ho,hdat⟩
  ·intro b hb;rw[Aq] at hb;rw[hb];exact Av
  ·intro i h h' ⟨st,o', e', r'⟩ k;exact⟨st.at λo e=>k _ Av o e,o',k d (As _ (Aq.mpr rfl)) o' e',r'⟩
  ·intro i s1 Q E hi ⟨hit,o', ho', hd'⟩ hQ;refine ztu hit ho' hd' hi λh' hit' sb=>?_;exact hQ _ h' s1.toks (by rw[Dw hi];rfl) ⟨hit',o',sb.extBut d o' (Bc lt) ho',hd'⟩ λb o nb e=>sb.extBut b o (λz=>nb (by rw[z];exact Aq.mpr rfl)) e
  ·intro s1 Q E ⟨hit,o', ho', hd'⟩ hQ;exact zyz hh hit ho' hd' (Af _) λh' k=>hQ h' s1.toks λb o nb e=>k b o (λz=>nb (by rw[z];exact Aq.mpr rfl)) e
  ·intro i s1 Q E ⟨hit,_⟩ hQ;exact wpAny_pyIter_keyiter hit hQ
noncomputable def zzi:List V->Hp->VK->Prop:=λxs H Q=>∃(p:Addr) (kvs:List (List Key × V)),xs=[.ref p]/\H p=some (.dT kvs)/\∀bs,KAt H kvs bs->∀l,H l=none->Q (.ref l) (upd H l (.lst (bs.map V.ref)))
theorem ztz:∀{us vs:List Value},us.length=vs.length->(∀(j:Nat) (v:Value),us[j]?=some v->vs[j]?=some v)->us=vs
  |[],[],_,_=>rfl
  | u::us,v::vs,hl,h=>by
    have:=h 0 u rfl;rw[List.getElem?_cons_zero] at this;obtain rfl:=sI this;rw[ztz (Ei hl) λj v e=>by have:=h (j+1) v (by rw[Ed];exact e);rw[Ed] at this;exact this]
theorem zq2 {X:Cx}(hc:X.calm=true):zc2 X (.type "list") zzi:=by
 intro pins s σ H xs us Q I r h;obtain⟨p,kvs,rfl,hp,q⟩:=h;obtain⟨u,rfl,rx⟩:=vals1 r;cases rx;obtain⟨z,hd,ys,rel,o,es,ep,ho,hx,hdat,hes,hn⟩:=(show ObjOk X.prog X.w H s.heap p (.dT kvs) from I.hok p _ hp);have ka:KAt H kvs (ys.map (·.2.1)):=z1a (κ:=λ_=>[]) rel;have hl:kvs.length=es.size:=by
  have h1:=rel.length;have h2:=congrArg List.length hes;rw[Bp,Ac] at h2;omega
 refine PySem.W.kdl_call (z6j (es:=es) (ep:=ep) hd) (I.ok.hd hc) ⟨o,ho,hx,hdat⟩ (by rw[<-hl];exact z) λh' tk acc c kp ga it=>?_;obtain⟨l1,l2⟩:=zde it;have ea:acc.toList=(ys.map (·.2.1)).map Value.ref:=by
  have:=ztz (vs:=es.toList.map (·.key)) (us:=acc.toList) (by rw[l1,Ac,Bp]) λj v e=>by
   rw[Ap,Dv];exact l2 j v e
  rw[this,hes,Be,Be]
  rfl
 have hf:H s.heap.objs.size=none:=I.hok.fresh (Af _);exact⟨.ref _,_,I.laid (t':=tk) (o:=.lst ((ys.map (·.2.1)).map V.ref)) kp (Af _) ⟨by rw[Ac,Ac,<-rel.length];exact z,acc.toList,c,by rw[ea];exact zf5 _,by rw[Fb];exact ga⟩,rfl,q _ ka _ hf⟩
noncomputable def isT:DKey->Bool
 |.inr _=>true
 |.inl _=>false
noncomputable def gLsT (i:Nat):GE:=λen=>match en[i]? with
 |some (some (.dct (k::ks) _,true))=>if isT k then some (en,(.lst ((k::ks).map dkW),true)) else none
 |_=>none
theorem zxf {K:PySem.W.Frag}{i:Nat}{σ:St}{H:Hp}{Q:VK} (h:tE K (gLsT i) σ H Q):tCB zzi (zhd (tVar i) tNil) σ H Q:=by
  nofun;obtain⟨F,pr,en,en',r,R,h,q⟩:=h;ac_rfl;unfold gLsT at h;split at h
  · rename_i k ks us e
    split at h
    · rename_i hk
      obtain⟨rfl,rfl⟩:=Prod.mk.inj (sI h);obtain⟨a,u,w',e0,hs,hH,hF,hO⟩:=R.own i _ e;subst e0;generalize hw:W.dct (k::ks) us=w at hO;cases hO with
      |lst r=>cases hw
      | dct hl r =>
        rename_i js vs ws;injection hw with hw _;cases js with
        |nil=>exact nomatch hw
        | cons j js =>
          rw[Ah] at hw;injection hw with hw _;subst hw;exact absurd hk Ax
      | dctT hl r =>
        injection hw with hw _;refine⟨_,hs,_,_,rfl,hH,λbs ka l hl'=>?_⟩;obtain⟨F2,s2,k2,R2⟩:=R.addTs ka;obtain⟨F3,s3,R3,y⟩:=(Out.lst (K:=K) (F:=F2) (H:=H) hl' (zfp hl k2)).close R2;rw[<-hw] at y;exact q F3 _ _ (s2.trans s3) R3 y
    · exact noSome h
  · exact noSome h
noncomputable def kOn (S:Sx):Expr->Bool
 |.Name x _=>S.bn.contains (("k " : Str)++x)
 |_=>false
theorem zj9 (k:Int):∀{vs:List Value}{ns:List Int},IntsAre vs ns->vs.countP (isInt k)=ns.count k
  |_,_,.nil=>rfl
  | _,_,.cons n u h=>by
    rw[List.countP_cons,Em,zj9 k h]
    rfl
noncomputable def z6k:V->List V->Hp->VK->Prop:=λx vs H Q=>∃(l:Addr) (ns:List Int) (k:Int),x=.ref l/\vs=[.int k]/\H l=some (.tup (ns.map V.int))/\Q (.int (ns.count k:Nat)) H
theorem z13 {X:Cx}:MtR X "tuple.count" z6k:=by
 intro pins s σ H x vs v us Q I rx rv h;obtain⟨l,ns,k,rfl,rfl,hH,q⟩:=h;cases rx;obtain⟨u,rfl,ru⟩:=rv.one;obtain⟨t,rfl⟩:=ru;obtain⟨z,its,r,⟨o,ho,⟨hc,n,hdat⟩,_⟩⟩:=(show ObjOk X.prog X.w H s.heap l (.tup (ns.map V.int)) from I.hok l _ hH);have hi:=zpw r;obtain⟨cls,dd,dat,sl⟩:=o;simp only at hc hdat;subst hc hdat;refine Eu PySem.F.slot_tuple_count ⟨_,ho,rfl⟩ PySem.F.entry_tuple_count (PySem.F.args_tuple_count_2 _ _)
  (PySem.SeqAt.tuple_countAt l its.toArray n dd sl (.int k t) (isInt k)) ⟨ho,λy hy=>(eq_isInt k t hi y (by simpa using hy)).at _ _,?_⟩
 rw[show its.toArray.toList=its from rfl,zj9 k hi];exact⟨.int _,H,I.tok _,⟨_,rfl⟩,q⟩
noncomputable def zqa (i:Nat) (g:GE):GE:=fun en=>match en[i]? with
  | some (some (.tup ws,false))=>(g en).bind fun p=>match p.2.1,p.1[i]?,zb1 ws with
    |.int k,some (#v[_,3]),some ns=>some (p.1,(.int (ns.count k:Nat),false))
    |_,_,_=>none
  |_=>none
noncomputable def tBT (r:V->List V->Hp->VK->Prop) (to:TE) (t:TA):TE:=λσ H Q=>to σ H λx H1=>(∃p xs,x=.ref p/\H1 p=some (.tup xs))/\t σ H1 λxs H2=>r x xs H2 Q
theorem z6e {X:Cx}{o e:Expr}{to:TE}{t:TA}{name:Str}{apos cpos:Pos}{id:String}{r:V->List V->Hp->VK->Prop} (slot:Slot "tuple" name id) (hty:typeOf (.builtin id)=pure (.type "method_descriptor")) (hm:MtR X id r) (ho:PE X o to) (ha:PA X [e] t)
  (hbase:attributeBase o name X.env (eval o X.env)=eval o X.env)
  (hfew:((backTo cpos (starEach [e] X.env)).all (λx=>!x.1) && (backToKw cpos (keywordEach [] X.env)).all (λx=>x.1.isSome)
   && decide (([e]:List Expr).length+([]:List Keyword).length+(if ([]:List Keyword).isEmpty then 0 else 1)<30))=true)
  (hline:(apos.endLine == cpos.line)=true) (hs:starEach [e] X.env=(false,eval e X.env)::starEach [] X.env) (hplain:(backTo cpos (starEach [] X.env)).any (·.1)=false) :
  PE X (.Call (.Attribute o name apos) [e] [] cpos) (tBT r to t):=by
 intro pins s σ H Q I h;refine wpAny_Call_method_late hbase hfew hline rfl (thn (ho pins s σ H _ I h) λv s1 ⟨x,H1,I1,r1,ty,q1⟩=>?_);obtain⟨p,ys,rfl,hp⟩:=ty;cases r1;obtain⟨_,its,_,ob,hob,hc,hdn⟩:=(show ObjOk X.prog X.w H1 s1.heap p (.tup ys) from I1.hok p _ hp);refine⟨"tuple",id,PySem.F.plainAttrs_tuple,slot,hty,⟨ob,hob,hc.1⟩,λa ea=>by cases ea;exact⟨ob,hob,hdn⟩,?_⟩;have hA:=ha cpos pins s1 σ H1 _ I1 q1;rw[hs] at hA ⊢;refine Calls.callWith_builtin (by show (false || (backTo cpos (starEach [] X.env)).any (·.1))=false;rw[hplain]<;>rfl) (Calls.evalArgs_plain ?_);exact thn hA λus s2 ⟨vs,H2,I2,r2,q2⟩=>hm pins s2 σ H2 (.ref p) vs _ us Q I2 rfl r2 q2
theorem zup {K:PySem.W.Frag}{σ:St}{H:Hp}{i:Nat}{g:GE}{Q:VK}(h:tE K (zqa i g) σ H Q):tBT z6k (tVar i) (zhd (tE K g) tNil) σ H Q:=by
 nofun;obtain⟨F,pr,en,en',rr,R,h,q⟩:=h;ac_rfl;unfold zqa at h;split at h
 ·rename_i ws hx0;nofun;obtain⟨v0,hv0⟩:=R.has hx0;obtain⟨a,vs,rfl,ha,hF,p5⟩:=(R.repB hx0 hv0).tup R.sub;obtain⟨⟨e1,w1,f1⟩,h1,h⟩:=bS h;ac_rfl;refine⟨.ref a,hv0,⟨a,vs,rfl,ha⟩,F,pr,en,e1,(w1,f1),R,h1,λF1 H1 v1 s1 R1 y1=>?_⟩;split at h
  ·rename_i k us ns eq1 hx1 hn;simp only at eq1;subst eq1;cases h;have ek:=y1.isInt;subst ek;rw[zcr hn] at p5;have ev:=p5.ints;subst ev;exact⟨a,ns,k,rfl,rfl,R1.sub _ _ (s1 _ _ hF),q F1 H1 _ s1 R1 (.int _)⟩
  ·exact noSome h
 ·exact noSome h
section
variable {fE:Sx->Expr->Option GE}{X:Cx}{S:Sx}{d:Nat}
noncomputable def cOn (S:Sx):Expr->Bool
 |.Name x _=>S.bn.contains (("c " : Str)++x)
 |_=>false
noncomputable def zud (fE:Sx->Expr->Option GE) (S:Sx):Expr->Option GE
 |.Call (.Name x _) [.Name y p] [] _=>if kOn S (.Name y p) && S.bl x && x == ("list" : Str) then (S.rd y).bind λi=>some (gLsT i) else none
 |_=>none
theorem zre (HE:za7 fE)(C:CxOk X S d):zfn (zud fE S) X:=λe g h=>by
 unfold zud at h;split at h
 ·split at h
  ·rename_i z;rw[Ad,Ad] at z;obtain⟨gl,m⟩:=zjd C z.1.2;have e1:=Ca z.2;subst e1;obtain⟨i,hi,h⟩:=bS h;obtain rfl:=sI h;exact (zee (zq2 C.calm) gl m zsg (zja (zg5 C hi) zfg) #v[0,9] #v[0,9] (zac rfl) rfl).wk λ_ _ _=>zxf
  ·exact noSome h
 ·exact noSome h
noncomputable def znk (fE:Sx->Expr->Option GE) (S:Sx):Expr->Option GE
 |.Call (.Attribute (.Name y p) name apos) [e] [] cpos=>if cOn S (.Name y p) && name == ("count" : Str) && zaf e && apos.endLine == cpos.line then (S.rd y).bind λi=>(fE S e).bind λg=>some (zqa i g) else none
 |_=>none
theorem zqm (HE:za7 fE)(C:CxOk X S d):zfn (znk fE S) X:=λe g h=>by
 unfold znk at h;split at h
 ·split at h
  ·rename_i z;simp only [Ad] at z;obtain⟨⟨⟨z1,z2⟩,z3⟩,z4⟩:=z;have e1:=Ca z2;subst e1;obtain⟨i,hi,h⟩:=bS h;obtain⟨g0,hg,h⟩:=bS h;obtain rfl:=sI h;exact (z6e PySem.F.slot_tuple_count PySem.F.type_tuple_count z13 (zg5 C hi) (zja (HE X S d C _ _ hg) zfg (zac z3)) (znz rfl) (zmw z3) z4 (zac z3) rfl).wk λ_ _ _=>zup
  ·exact noSome h
 ·exact noSome h
end
section
open PySem.AutoSeq1 (wpAny_loadPart')
theorem zbq:fillsNumberSlot (.type "tuple") "mul" = pure false :=
 PySem.fillsNumberSlot_seq (id := "tuple.__mul__") (r:=some (.builtin "tuple.__rmul__")) F.slot_tuple_mul.lookup #v[0,0,7] F.slot_tuple_rmul.lookup #v[0,0,7]
theorem zdm:seqRepeat? (.type "tuple")=pure (some (.builtin "tuple.__mul__")):=by
 unfold seqRepeat?;rw[PySem.seqSlot_of (T := "tuple") (name := "__mul__") (id := "tuple.__mul__") F.slot_tuple_mul.lookup #v[0,0,7],PySem.seqSlot_of (T := "tuple") (name := "__rmul__") (id := "tuple.__rmul__") F.slot_tuple_rmul.lookup #v[0,0,7]]
 rfl
theorem zch (a:Int) (t:Tok) (l:Addr) (items:Array Value) (n:Nat) (dd:Option Addr) (sl:Array (Option Value)) :
  Meets (Builtin.«int.__rmul__» ⟨[.int a t,.ref l],[]⟩) (λ_ R s=>s.heap.get? l=some { cls:=.type "tuple",dict:=dd,data:=.seq items n,slots:=sl }/\R (.ok (.ret Value.notImplemented)) s) :=
 .of_wp λprog w A R s h=>by obtain⟨hp,g,d,tk,os⟩:=s;obtain⟨hl,h⟩:=h;wp_walk;exact⟨_,rfl,h⟩
theorem zik (l:Addr) (items:Array Value) (n:Nat) (dd:Option Addr) (sl:Array (Option Value)) (u:Tok) :
  Meets (Builtin.«tuple.__mul__» ⟨[.ref l,.int 1 u],[]⟩) (λ_ R s=>s.heap.get? l=some { cls:=.type "tuple",dict:=dd,data:=.seq items n,slots:=sl }/\R (.ok (.ret (Value.ref l))) s) :=
 .of_wp λprog w A R s h=>by
  obtain⟨hp,g,d,tk,os⟩:=s;obtain⟨hl,h⟩:=h
  wp_walk using Cc hl
  exact⟨_,rfl,h⟩
theorem zg8 (l:Addr) (items:Array Value) (n:Nat) (dd:Option Addr) (sl:Array (Option Value)) (u:Tok) (hi:items.isEmpty=false) :
  Meets (Builtin.«tuple.__mul__» ⟨[.ref l,.int 0 u],[]⟩) (λ_ R s=>s.heap.get? l=some { cls:=.type "tuple",dict:=dd,data:=.seq items n,slots:=sl }/\R (.ok (.ret (Value.ref s.heap.objs.size))) { s with heap:=s.heap.push { cls:=Value.type "tuple",data:=Data.seq #[] } }) :=
 .of_wp λprog w A R s h=>by
  obtain⟨hp,g,d,tk,os⟩:=s;obtain⟨hl,h⟩:=h
  wp_walk using Cc hl
  exact⟨_,rfl,h⟩
theorem zm1 (xs:Array Value)(k:Nat):(List.foldl (λx1 x2=>x1++x2) #[] (List.replicate k xs)).size=k * xs.size:=by
 rw[AutoListH.size_joined];simp
theorem zn1 (l:Addr) (items:Array Value) (n:Nat) (dd:Option Addr) (sl:Array (Option Value)) (k:Int) (u:Tok) (c0:¬ (decide (k < -(2 ^ 63)) || decide (k ≥ 2 ^ 63))=true) (c1:¬ (items.isEmpty || k == 1)=true) (c2:¬ (decide (k<=0) || items.isEmpty)=true) (c3:¬ ((items.size:Int) * k > (2 ^ 63 - 1) / 8)) (c4:¬ Builtin.Tuple.tupleTooMany ((items.size:Int) * k)=true) (hz:items.size * k.toNat<=sizeLine) :
  Meets (Builtin.«tuple.__mul__» ⟨[.ref l,.int k u],[]⟩) (λ_ R s=>s.heap.get? l=some { cls:=.type "tuple",dict:=dd,data:=.seq items n,slots:=sl }/\R (.ok (.ret (Value.ref s.heap.objs.size))) { s with heap:=s.heap.push { cls:=Value.type "tuple",data:=Data.seq (List.foldl (λx1 x2=>x1++x2) #[] (List.replicate k.toNat items)) } }) :=
 .of_wp λprog w A R s h=>by
  obtain⟨hp,g,d,tk,os⟩:=s;obtain⟨hl,h⟩:=h;have hsz:(List.foldl (λx1 x2=>x1++x2) #[] (List.replicate k.toNat items)).size<=sizeLine:=by rw[zm1,Nat.mul_comm];exact hz
  wp_walk using Cc hl
  refine wpAny_ite_split (λz=>absurd z c0) λ_=>?_
  wp_walk
  refine wpAny_ite_split (λz=>absurd z c3) λ_=>?_
  wp_walk
  first
   |exact⟨_,rfl,h⟩
   |(refine wpAny_ite_false (Bg (Nat.not_lt.mpr hsz)) ?_;wp_walk;exact⟨_,rfl,h⟩)
   |(unfold Builtin.Tuple.tupleExact;refine Aa (Cg ?_ hsz);exact Ag ⟨_,rfl,h⟩)
end
noncomputable def z4x (K:PySem.W.Frag):R2:=λx y H Q=>∃a xs,x=.ref a/\SqT K H a xs/\xs≠[]/\((y=.int 1/\Q (.ref a) H)\/(y=.int 0/\∀p,H p=none->Q (.ref p) (upd H p (.tup [])))\/∃k:Int,y=.int k/\2<=k/\k<4611686018427387904/\xs.length * k.toNat<=sizeLine/\∀p,H p=none->Q (.ref p) (upd H p (.tup (List.replicate k.toNat xs).flatten)))
theorem z1b {X:Cx}:OpR X (binaryOp .Mult) (z4x X.K):=by
 intro pins s σ H x y v u Q I rx ry h;nofun;obtain⟨a,xs,rfl,ha,hx,h⟩:=h;ac_rfl;cases rx;nofun;obtain⟨its,r,ht,hz⟩:=I.tuple ha;obtain⟨⟨cls,dd,data,sl⟩,ho,hc,n,hd⟩:=id ht;ac_rfl;simp only at hc hd;subst hc hd;have hne:its.toArray.isEmpty=false:=by
  cases its with
  |nil=>exact absurd (r.nil_iff.mp rfl) hx
  |cons _ _=>rfl
 rcases h with⟨rfl,q⟩|⟨rfl,q⟩|⟨k,rfl,h2,h3,hzz,q⟩
 ·obtain ⟨t, rfl⟩ := ry;exact Ft (T := "tuple") (U := "int") (by decide) ht.typeIs (fun s'=>Gb s' 1 t) zbq PySem.F.fills_int_mul Dt zdm PySem.F.slot_int_index.lookup
   (Eu Dt (Gb s 1 t) PySem.F.entry_int_rmul (PySem.F.args_int_rmul_2 _ _) (zch 1 t a its.toArray n dd sl)
    ⟨ho,rfl,ht.typeIs,Eu PySem.F.slot_tuple_mul ht.typeIs PySem.F.entry_tuple_mul (Hi _ _) (zik a its.toArray n dd sl t) ⟨ho,.ref a,H,I,rfl,q⟩⟩)
 ·obtain ⟨t, rfl⟩ := ry;refine Ft (T := "tuple") (U := "int") (by decide) ht.typeIs (fun s'=>Gb s' 0 t) zbq PySem.F.fills_int_mul Dt zdm PySem.F.slot_int_index.lookup
   (Eu Dt (Gb s 0 t) PySem.F.entry_int_rmul (PySem.F.args_int_rmul_2 _ _) (zch 0 t a its.toArray n dd sl)
    ⟨ho,rfl,ht.typeIs,Eu PySem.F.slot_tuple_mul ht.typeIs PySem.F.entry_tuple_mul (Hi _ _) (zg8 a its.toArray n dd sl t hne) ⟨ho,?_⟩⟩)
  exact⟨.ref s.heap.objs.size,_,I.laid (t':=s.toks) (o:=.tup []) (λb ob q=>Ab _ q) (Af _) ⟨Bj _,[],.nil,zhi.new _ _⟩,rfl,q _ (I.hok.fresh (Af _))⟩
 ·obtain⟨t,rfl⟩:=ry;have zl:its.toArray.size=xs.length:=by rw[Am];exact r.length.symm
  have sl9:sizeLine=16777216:=Ff;have pos:0<its.toArray.size:=by rw[zl];exact List.length_pos_iff.mpr hx
  have hzz' : its.toArray.size * k.toNat<=sizeLine:=by rw[zl];exact hzz
  have ek:((its.toArray.size * k.toNat:Nat):Int)=(its.toArray.size:Int) * k:=by rw[Int.natCast_mul,Int.toNat_of_nonneg #v[]]
  have c0:¬ (decide (k < -(2 ^ 63)) || decide (k ≥ 2 ^ 63))=true:=by simp only [By,Dg];omega
  have c1:¬ (its.toArray.isEmpty || k == 1)=true:=by rw[hne];simp only [Bool.false_or,beq_iff_eq];omega
  have c2:¬ (decide (k<=0) || its.toArray.isEmpty)=true:=by rw[hne];simp only [Bool.or_false,Dg];omega
  have c3:¬ ((its.toArray.size:Int) * k > (2 ^ 63 - 1) / 8):=by rw[<-ek];omega
  have c4:¬ Builtin.Tuple.tupleTooMany ((its.toArray.size:Int) * k)=true:=by
   unfold Builtin.Tuple.tupleTooMany;rw[<-ek,Dg];omega
  refine Ft (T := "tuple") (U := "int") #v[0,9] ht.typeIs (λs'=>Gb s' k t) zbq PySem.F.fills_int_mul Dt zdm PySem.F.slot_int_index.lookup
   (Eu Dt (Gb s k t) PySem.F.entry_int_rmul (PySem.F.args_int_rmul_2 _ _) (zch k t a its.toArray n dd sl)
    ⟨ho,rfl,ht.typeIs,Eu PySem.F.slot_tuple_mul ht.typeIs PySem.F.entry_tuple_mul (Hi _ _) (zn1 a its.toArray n dd sl k t c0 c1 c2 c3 c4 hzz') ⟨ho,?_⟩⟩)
  have hnew:List.foldl (λx1 x2=>x1++x2) #[] (List.replicate k.toNat its.toArray)=(List.replicate k.toNat its).flatten.toArray:=by
   have:=zgf its k.toNat [];rw[Gm] at this;exact this
  rw[hnew];exact⟨.ref s.heap.objs.size,_,I.laid (t':=s.toks) (o:=.tup (List.replicate k.toNat xs).flatten) (λb ob q=>Ab _ q) (Af _) ⟨by rw[ztt,Nat.mul_comm];exact hzz,_,r.rep k.toNat,zhi.new _ _⟩,rfl,q _ (I.hok.fresh (Af _))⟩
noncomputable def zm2:O2
 |.tup (x::xs),.int k=>if k=1 then #v[(x::xs),3] else if k=0 then #v[[],3] else if 2<=k/\k<4611686018427387904/\(x::xs).length * k.toNat<=sizeLine then #v[(List.replicate k.toNat (x::xs)).flatten,3] else none
 |_,_=>none
theorem zwg {K:PySem.W.Frag}:OpS K (z4x K) zm2:=fun F H w1 w2 v1 v2 rv Q s r1 r2 e q=>by
  cases w1 with
  | tup xs =>
    cases xs with
    |nil=>cases w2<;>exact noSome e
    | cons x xs =>
      cases w2 with
      | int k =>
        unfold zm2 at e;simp only at e;nofun;obtain⟨a,vs,e1,h1,f1,p1⟩:=r1.tup s;ac_rfl;refine⟨a,vs,e1,.inl (.inl h1),(by intro z;subst z;cases p1),?_⟩;split at e
        · rename_i z
          obtain rfl:=sI e;subst z;exact .inl ⟨r2.int,q _ _ (.val (.tup f1 p1))⟩
        · split at e
          · rename_i z
            obtain rfl:=sI e;subst z;exact .inr (.inl ⟨r2.int,λp hp=>q _ _ (.tup hp .nil)⟩)
          · split at e
            · rename_i z
              obtain rfl:=sI e;exact .inr (.inr ⟨k,r2.int,z.1,z.2.1,by rw[<-p1.length];exact z.2.2,λp hp=>q _ _ (.tup hp (p1.rep _))⟩)
            · exact noSome e
      |_=>exact noSome e
  |_=>exact noSome e
noncomputable def z46:Expr->Bool
 |.Tuple ..=>true
 |.Subscript _ (.Slice ..) _=>true
 |_=>false
noncomputable def zmc (fE:Sx->Expr->Option GE) (S:Sx):Expr->Option GE
 |.BinOp a .Mult b _=>if z46 a then (za5 fE S a).bind λx=>(za5 fE S b).bind λy=>some (gOp2 zm2 x y) else none
 |_=>none
section
variable {X:Cx}{S:Sx}{d:Nat}{fE:Sx->Expr->Option GE}
theorem zpy (HE:za7 fE)(C:CxOk X S d):zfn (zmc fE S) X:=λe g h=>by
 unfold zmc at h;split at h
 ·split at h
  ·obtain⟨x,hx,h⟩:=bS h;obtain⟨y,hy,h⟩:=bS h;obtain rfl:=sI h;exact (z5j z1b (zae HE C hx) (zae HE C hy)).wk λ_ _ _=>zb5 zwg
  ·exact noSome h
 ·exact noSome h
end
section
open PySem.AutoSeq1 (wpAny_loadPart')
variable {prog:Program}{w:World}{A:Around}{E:Value->Shared->Prop}{s:Shared}
end
section
variable {X:Cx}{S:Sx}{d:Nat}{fE:Sx->Expr->Option GE}
end
section
variable {prog:Program}{w:World}{A:Around}{E:Value->Shared->Prop}{s:Shared}
open HT in
end
section
variable {X:Cx}{S:Sx}{d:Nat}{fE:Sx->Expr->Option GE}
noncomputable def orX (a b:Option GE):Option GE:=match a with
 |some g=>some g
 |none=>b
theorem zfe {x y:Expr->Option GE}(hx:zfn x X)(hy:zfn y X):zfn (λe=>orX (x e) (y e)) X:=λe g h=>by
 have h:orX (x e) (y e)=some g:=h;unfold orX at h;split at h
 ·rename_i g' q;obtain rfl:=sI h;exact hx e g' q
 ·exact hy e g h
noncomputable def extE (fE:Sx->Expr->Option GE) (S:Sx) (e:Expr):Option GE:=orX (zud fE S e) (orX (znk fE S e) (orX (zmc fE S e) (orX (zmj fE S e) (orX (zmb fE S e) (orX (zs4 fE S e) (orX (znb fE S e) (zto fE S e)))))))
theorem z01 (HE:za7 fE)(C:CxOk X S d):zfn (extE fE S) X:=zfe (zre HE C) (zfe (zqm HE C) (zfe (zpy HE C) (zfe (zqw HE C) (zfe (zqj HE C) (zfe (zuk HE C) (zfe (zqc HE C) (zue HE C)))))))
end
noncomputable def ncOf (scope:Scope):List Str:=(scope.names.filter λp=>p.2 == .free || p.2 == .local || p.2 == .cell).map (·.1)
noncomputable def capC (S:Sx) (scope:Scope):Cap:=(ncOf scope).map λx=>if scope.names.lookup x == some .free then S.N.findIdx? (· == x) else none
noncomputable def inS (S:Sx) (scope:Scope):Sx:={ N:=ncOf scope,kd:=scope.names,bn:=S.bn,fs:=S.fs,mp:=capKeep (capC S scope),top:=false }
noncomputable def zno (S:Sx) (scope:Scope):Bool:=decide (scope.kind=.function) && zg9 (capC S scope) (ncOf scope) S.N scope && (scope.names.all λp=>!(p.2 == .free) || S.kd.lookup p.1 == some .cell || S.kd.lookup p.1 == some .free) &&
 zfh scope && (scope.names.all λp=>!(p.2 == NameKind.local) || decide (scope.names.lookup p.1=some .local)) && decide (ncOf scope).Nodup
noncomputable def zyr (fT:Sx->Expr->Option GT) (S:Sx):List Expr->Option GT
 |[]=>some gYes
 |[c]=>fT S c
 |_=>none
noncomputable def zsp (fE:Sx->Expr->Option GE) (fT:Sx->Expr->Option GT) (S:Sx) (elt:Expr) (gens:List Comprehension) (scope:Scope):Option GE:=match gens with
 |[c]=>if zno S scope && decide (c.is_async=0) then (zsm fE S c.target c.iter).bind λgi=>(tgE (inS S scope) c.target).bind λT=>(zyr fT (inS S scope) c.ifs).bind λtc=>(fE (inS S scope) elt).bind λte=>some (zba (capC S scope) T gi tc te) else none
 |_=>none
structure ScOk (X:Cx) (S:Sx) (scope:Scope):Prop where
 kind:scope.kind=.function
 cap:zg9 (capC S scope) (ncOf scope) X.N scope=true
 fr:zg4 scope X.env.scope=true
 nc:zfh scope=true
 nm:(scope.names.all λp=>!(p.2 == NameKind.local) || decide (scope.names.lookup p.1=some .local))=true
 nd:(ncOf scope).Nodup
section
variable {X:Cx}{S:Sx}{d:Nat}
theorem zxr (C:CxOk X S d){scope:Scope}(h:zno S scope=true):ScOk X S scope:=by
 unfold zno at h;simp only [Ad] at h;obtain⟨⟨⟨⟨⟨h1,h2⟩,h3⟩,h4⟩,h5⟩,h6⟩:=h;refine⟨Ar h1,by rw[C.N];exact h2,?_,h4,h5,Ar h6⟩;unfold zg4;refine Ay.mpr λp hp=>?_;have q:=Ay.mp h3 p hp;simp only [By,Bool.not_eq_true',Gp,beq_iff_eq,Dg] at q ⊢;rcases q with (q|q)|q
 ·exact .inl (.inl q)
 ·rcases C.vis p.1 (.inl q) with z|z
  ·exact .inl (.inr z)
  ·exact .inr z
 ·rcases C.vis p.1 (.inr q) with z|z
  ·exact .inl (.inr z)
  ·exact .inr z
theorem z1i (C:CxOk X S d){scope:Scope}(h:ScOk X S scope)(cl:List (Str × Addr))(L:Addr)(s3:Shared)(H3:Hp)(fp:List Addr):CxOk (zbc X (ncOf scope) scope cl L s3 H3 fp) (inS S scope) d where
 N:=rfl
 nd:=h.nd
 loc:=λx e=>zbb (env:=X.env) #v[0,9] e
 cel:=λx e=>⟨zbb (env:=X.env) #v[0,9] e,Aj e⟩
 vis:=λx e=>by
  rcases e with e|e
  ·exact .inl (zbb (env:=X.env) #v[0,9] e)
  ·exact za2 (env:=X.env) e
 gl:=λx e=>zbb (env:=X.env) #v[0,9] e
 calm:=C.calm
 xe:=rfl
 bn:=C.bn
 fs:=C.fs
 room:=C.room
 sl:=C.sl
 lam:=λh=>absurd (show ("" : Str)∈lams from h) #v[0,0,7]
 dpo:=Bj _
 bk:=by
  show (if scope.kind.isAnnotationScope then ScopeKind.function else scope.kind)=.function;rw[h.kind];rfl
end
theorem zv3 {K:PySem.W.Frag}{σ:St}{H:Hp}{Q:Bool->Hp->Prop}(h:tT K gYes σ H Q):zy1 σ H Q:=by
 obtain⟨F,pr,en,en',b,R,h,q⟩:=h;cases h;exact q F H (.refl F) R
structure CompP (X:Cx) (S:Sx) (elt:Expr) (gens:List Comprehension) (scope:Scope) (g:GE):Prop where
 ex:∃tg iter ifs gs gi T tc,∃(em:Pos->Value->Env->Sem Unit) (tm:Addr->TM),gens=⟨tg,iter,ifs,0⟩ :: gs/\(∀pos it acc env,compTurn (.ListComp elt gens scope pos) 0 it acc env=zpx (.ListComp elt gens scope pos) 0 tg iter ifs (em pos acc env) it acc env)/\ScOk X S scope/\PI X tg iter (tI X.K gi)/\(∀x,foldedSetIterable iter X.env x=pure x) /\
  (∀cl C s3 H3 fp,PG (zbc X (ncOf scope) scope cl C s3 H3 fp) tg (TGof X.K T))/\(∀cl C s3 H3 fp,PTs (zbc X (ncOf scope) scope cl C s3 H3 fp) ifs (tT X.K tc))/\(∀pos cl C s3 H3 fp acc,PM (zbc X (ncOf scope) scope cl C s3 H3 fp) (em pos (.ref acc) (zbc X (ncOf scope) scope cl C s3 H3 fp).env) (tm acc)) /\
  ∀σ H Q,tE X.K g σ H Q->ztp (tI X.K gi) (capC S scope) (TGof X.K T) (tT X.K tc) tm σ H Q
section
variable {X:Cx}{S:Sx}{d:Nat}{fE:Sx->Expr->Option GE}{fT:Sx->Expr->Option GT}
theorem PTs.wk {ifs:List Expr}{t t' : TT}(h:PTs X ifs t)(i:∀σ H Q,t' σ H Q->t σ H Q):PTs X ifs t':=λpins s σ H Q I q=>h pins s σ H Q I (i σ H Q q)
theorem zwv (HT:zj1 fT)(C:CxOk X S d):∀{ifs:List Expr}{tc:GT},zyr fT S ifs=some tc->PTs X ifs (tT X.K tc)
 |[],_,h=>by obtain rfl:=sI h;exact z1l.wk λ_ _ _=>zv3
 |[_],_,h=>z1t (HT _ _ d C _ _ h)
 |_::_::_,_,h=>noSome h
theorem zgp (HE:za7 fE)(HT:zj1 fT)(C:CxOk X S d){elt:Expr}{gens:List Comprehension}{scope:Scope}{g:GE}(h:zsp fE fT S elt gens scope=some g):CompP X S elt gens scope g:=by
 unfold zsp at h;split at h
 ·rename_i c;obtain⟨tg,iter,ifs,as⟩:=c;split at h
  ·rename_i z;rw[Ad] at z;have ha:as=0:=Ar z.2;subst ha;obtain⟨gi,hi,h⟩:=bS h;obtain⟨T,hT,h⟩:=bS h;obtain⟨tc,htc,h⟩:=bS h;obtain⟨te,hte,h⟩:=bS h;obtain rfl:=sI h;have so:=zxr C z.1;obtain⟨pi,pf⟩:=zpk HE C hi;exact⟨tg,iter,ifs,[],gi,T,tc,λ_=>z1u elt,λacc=>zv4 acc (tE X.K te),rfl,λ_ _ _ _=>rfl,so,pi,pf,λcl L s3 H3 fp=>zzb (z1i C so cl L s3 H3 fp) hT,λcl L s3 H3 fp=>zwv HT (z1i C so cl L s3 H3 fp) htc,λ_ cl L s3 H3 fp acc=>z4a (HE _ _ d (z1i C so cl L s3 H3 fp) _ _ hte),λ_ _ _=>ztq⟩
  ·exact noSome h
 ·exact noSome h
theorem zte (C:CxOk X S d){elt:Expr}{gens:List Comprehension}{scope:Scope}{g:GE}{pos:Pos}(h:CompP X S elt gens scope g):PE X (.ListComp elt gens scope pos) (tE X.K g):=by
 nofun;obtain⟨tg,iter,ifs,gs,gi,T,tc,em,tm,e1,e2,so,pi,pf,pg,pt,pe,rd⟩:=h.ex;ac_rfl;subst e1;exact (z1g pi pg pt (pe pos) (e2 pos) C.calm so.kind so.cap so.fr so.nc so.nm pf).wk rd
noncomputable def kwE (fE:Sx->Expr->Option GE) (S:Sx) (x:Str) (e:Expr) (key:Str) (ed:Expr):Option GE:=match ed with
 |.Name y p=>if x == ("sorted" : Str) && key == ("key" : Str) then z5m fE S e y else maxE fE S x e key (.Name y p)
 |ed=>maxE fE S x e key ed
noncomputable def z1c (fE:Sx->Expr->Option GE) (S:Sx):Option Expr->Option GO
 |none=>some zcm
 |some e=>(fE S e).bind λg=>some (zgu g)
noncomputable def zym (fE:Sx->Expr->Option GE) (fT:Sx->Expr->Option GT) (S:Sx) (e:Expr):Option GE:=match e with
  |.Name x _=>(S.rd x).bind λi=>some (gVar i)
  | .Constant c _ _=>(match c with
    |.int i=>some (gC (.int i))
    |.bool b=>some (gC (.bl b))
    |.none=>some (gC .non)
    |.str x=>some (gC (.str x))
    |_=>none)
  |.BinOp a op b _=>(za5 fE S a).bind λx=>(za5 fE S b).bind λy=>(binO op).bind λo=>some (gOp2 o x y)
  | .UnaryOp op a _=>(match op with
    |.USub=>(za5 fE S a).bind λx=>some (gOp1 oNeg x)
    |_=>none)
  |.Compare a ops cs _=>cmpY fE S a ops cs
  |.IfExp c a b _=>(fT S c).bind λt=>(fE S a).bind λx=>(fE S b).bind λy=>some (gIf t x y)
  | .Subscript a s _=>(match s with
    | .Slice lo hi st _=>(match st with
      |none=>(za5 fE S a).bind λx=>(z1c fE S lo).bind λl=>(z1c fE S hi).bind λh=>some (gSl x l h)
      |some _=>none)
    |s=>if zcd s then (za5 fE S a).bind λx=>(za5 fE S s).bind λy=>some (gOp2 oIx x y) else none)
  |.List es _=>(asL (λe=>(fE S e).bind λg=>some (gArg g)) es).bind λas=>some (zap as)
  |.Tuple es _ _=>(asL (λe=>(fE S e).bind λg=>some (gArg g)) es).bind λas=>some (zec as)
  | .Call fu args kws pos=>(match kws with
    | []=>(match fu with
      |.Name x _=>zz4 fE S x args
      |.Attribute o m ap=>zz1 fE S o m ap args pos
      |_=>none)
    | [⟨some key,.Lambda params body scope _,_⟩]=>(match fu,args with
      |.Name x _,[e]=>z21 fE S x e key params body scope
      |_,_=>none)
    |_=>none)
  |.ListComp elt gens scope _=>zsp fE fT S elt gens scope
  |_=>none
noncomputable def z2e (fE:Sx->Expr->Option GE) (fT:Sx->Expr->Option GT) (S:Sx) (e:Expr):Option GT:=match e with
  | .BoolOp op vs _=>(match vs with
    |v::vs=>z1m (fT S) op v vs
    |[]=>none)
  |.Compare a ops cs _=>(cmpY fE S a ops cs).bind λg=>some (zal g)
  | .UnaryOp op a p=>(match op with
    |.Not=>none
    |op=>if zo6 (.UnaryOp op a p) then (fE S (.UnaryOp op a p)).bind λg=>some (zal g) else none)
  |e=>if zo6 e then (fE S e).bind λg=>some (zal g) else none
theorem zn4 (HE:za7 fE) (C:CxOk X S d) {o:Option Expr}{g:GO} (h:z1c fE S o=some g):PO X o (tO X.K g):=by
  cases o with
  |none=>obtain rfl:=sI h;exact λpins s σ H Q I q=>z0s pins s σ H Q I (zm3 q)
  | some e =>
    obtain⟨ge,hg,h⟩:=bS h;obtain rfl:=sI h;exact λpins s σ H Q I q=>z2n (HE X S d C _ _ hg) pins s σ H Q I (zuu q)
theorem zwo (HE:za7 fE) (HT:zj1 fT):za7 (zym fE fT):=fun X S d C e g h=>by
  have HA:∀e a,((fE S e).bind fun g=>some (gArg g))=some a->PE X e (tA X.K a):=fun e a h=>by
    obtain⟨ge,hg,h⟩:=bS h;obtain rfl:=sI h;exact (HE X S d C _ _ hg).wk λ_ _ _=>ziu
  cases e with
  | Name x p =>
    obtain⟨i,hi,h⟩:=bS (show (S.rd x).bind _=_ from h);obtain rfl:=sI h;exact (zg5 C hi).wk λ_ _ _=>zol
  | Constant c k p =>
    cases c with
    |int i=>obtain rfl:=sI h;exact z3w.wk λ_ _ _=>zds λ_=>.int i
    |bool b=>obtain rfl:=sI h;exact z72.wk λ_ _ _=>zds λ_=>.bl b
    |none=>obtain rfl:=sI h;exact z6i.wk λ_ _ _=>zds λ_=>.non
    |str x=>obtain rfl:=sI h;exact z44.wk λ_ _ _=>zds λ_=>.str x
    |_=>exact noSome h
  | BinOp a op b p =>
    obtain⟨x,hx,h⟩:=bS (show (za5 fE S a).bind _=_ from h);obtain⟨y,hy,h⟩:=bS h;obtain⟨o,ho,h⟩:=bS h;obtain rfl:=sI h;obtain⟨r,h1,h2⟩:=z0l (X:=X) ho;exact (z5j h1 (zae HE C hx) (zae HE C hy)).wk λ_ _ _=>zb5 h2
  | UnaryOp op a p =>
    cases op with
    | USub =>
      obtain⟨x,hx,h⟩:=bS (show (za5 fE S a).bind _=_ from h);obtain rfl:=sI h;exact (z73 z23 (zae HE C hx)).wk λ_ _ _=>zvw z12
    |_=>exact noSome h
  |Compare a ops cs p=>exact (zs1 HE C h).1
  | IfExp c a b p =>
    obtain⟨t,ht,h⟩:=bS (show (fT S c).bind _=_ from h);obtain⟨x,hx,h⟩:=bS h;obtain⟨y,hy,h⟩:=bS h;obtain rfl:=sI h;exact (zv2 (HT X S d C _ _ ht) (HE X S d C _ _ hx) (HE X S d C _ _ hy)).wk λ_ _ _=>z2g
  | Subscript a s p =>
    have ix:∀s,(if zcd s then (za5 fE S a).bind fun x=>(za5 fE S s).bind fun y=>some (gOp2 oIx x y) else none)=some g->PE X (.Subscript a s p) (tE X.K g):=fun s h=>by
      split at h
      · rename_i z
        obtain⟨x,hx,h⟩:=bS h;obtain⟨y,hy,h⟩:=bS h;obtain rfl:=sI h;exact (z3f (zva.or zzn) (zae HE C hx) (zae HE C hy) (zhv z)).wk λ_ _ _=>zb5 zzj
      · exact noSome h
    cases s with
    | Slice lo hi st p2 =>
      cases st with
      |some _=>exact noSome h
      | none =>
        obtain⟨x,hx,h⟩:=bS (show (za5 fE S a).bind _=_ from h);obtain⟨l,hl,h⟩:=bS h;obtain⟨u,hu,h⟩:=bS h;obtain rfl:=sI h;exact (zyb ((z1s.or z45).or z0d) (zae HE C hx) (zn4 HE C hl) (zn4 HE C hu)).wk λ_ _ _=>z2w
    |_=>exact ix _ h
  | List es p =>
    obtain⟨as,has,h⟩:=bS (show (asL _ es).bind _=_ from h);obtain rfl:=sI h;exact (z5i (zgo HA has).1).wk λ_ _ _=>zx9
  | Tuple es k p =>
    obtain⟨as,has,h⟩:=bS (show (asL _ es).bind _=_ from h);obtain rfl:=sI h;exact (z6q (zgo HA has).1).wk λ_ _ _=>zv0
  | Call fu args kws p =>
    simp only [zym] at h;split at h
    · cases fu with
      |Name x p2=>exact zw0 HE C h
      |Attribute o m ap=>exact zwj HE C h
      |_=>exact noSome h
    · split at h
      · exact zv7 HE C h
      · exact noSome h
    · exact noSome h
  |ListComp elt gens scope p=>exact zte C (zgp HE HT C h)
  |_=>exact noSome h
theorem zwu (HE:za7 fE) (HT:zj1 fT):zj1 (z2e fE fT):=fun X S d C e g h=>by
  have plain:∀e,(if zo6 e then (fE S e).bind fun g=>some (zal g) else none)=some g->PT X e (tT X.K g):=fun e h=>by
    split at h
    · rename_i z
      obtain⟨x,hx,h⟩:=bS h;obtain rfl:=sI h;exact (z55 (HE X S d C _ _ hx) (zqb z)).wk λ_ _ _=>zgl λ_ _ _ q=>q
    · exact noSome h
  cases e with
  | BoolOp op vs p =>
    cases vs with
    |nil=>exact noSome h
    |cons v vs=>exact (zoi (λe g=>HT X S d C e g) h).pt
  | Compare a ops cs p =>
    obtain⟨x,hx,h⟩:=bS (show (cmpY fE S a ops cs).bind _=_ from h);obtain rfl:=sI h;exact (zs1 HE C hx).2
  | UnaryOp op a p =>
    cases op with
    |Not=>exact noSome h
    |_=>exact plain _ h
  |_=>exact plain _ h
end
noncomputable def z2k:GE:=λ_=>none
noncomputable def zu5:GT:=λ_=>none
mutual
noncomputable def compE:Nat->Sx->Expr->Option GE
 |0,_,_=>some z2k
 |n+1,S,e=>some ((orX (extE (compE n) S e) (zym (compE n) (compT n) S e)).getD z2k)
noncomputable def compT:Nat->Sx->Expr->Option GT
 |0,_,_=>some zu5
 |n+1,S,e=>some ((z2e (compE n) (compT n) S e).getD zu5)
end
theorem zq5 {X:Cx}{e:Expr}:PE X e (tE X.K z2k):=λ_ _ _ _ _ _ q=>by obtain⟨_,_,_,_,_,_,h,_⟩:=q;exact noSome h
theorem zop {X:Cx}{e:Expr}:PT X e (tT X.K zu5):=λ_ _ _ _ _ _ q=>by obtain⟨_,_,_,_,_,_,h,_⟩:=q;exact noSome h
theorem zel:∀n,za7 (compE n)/\zj1 (compT n)
  |0=>⟨λ_ _ _ _ _ _ h=>by rw[compE] at h;obtain rfl:=sI h;exact zq5,λ_ _ _ _ _ _ h=>by rw[compT] at h;obtain rfl:=sI h;exact zop⟩
  | n+1=>by
    obtain⟨a,b⟩:=zel n;refine⟨λX S d C e g h=>?_,λX S d C e g h=>?_⟩
    · rw [compE] at h
      cases q:orX (extE (compE n) S e) (zym (compE n) (compT n) S e) with
      |none=>rw[q] at h;obtain rfl:=sI h;exact zq5
      |some g'=>rw[q] at h;obtain rfl:=sI h;exact zfe (z01 a C) (zwo a b X S d C) e _ q
    · rw [compT] at h
      cases q:z2e (compE n) (compT n) S e with
      |none=>rw[q] at h;obtain rfl:=sI h;exact zop
      |some g'=>rw[q] at h;obtain rfl:=sI h;exact zwu a b X S d C e _ q
section
variable {X:Cx}{pos:Pos}
end
noncomputable def z7y (mp:List Nat) (i j k:Nat) (a b c:GE):GS:=λen=>(a en).bind λp=>(b p.1).bind λq=>(c q.1).bind λr=>if mp.contains i || mp.contains j || mp.contains k || !decide (i<r.1.length) || !decide (j<r.1.length) || !decide (k<r.1.length) then none else some (((r.1.set i (#v[p.2.1,6])).set j (#v[q.2.1,6])).set k (#v[r.2.1,6]),.nx)
section
variable {K:PySem.W.Frag}{mp:List Nat}{D:Ends}{σ:St}{H:Hp}
end
noncomputable def zun (S:Sx) (x:Str) (px:Pos) (y:Str) (py:Pos) (z:Str) (pz:Pos) (a b c:Expr):Bool:=S.kd.lookup x == some .local && S.kd.lookup y == some .local && S.kd.lookup z == some .local && px.line == py.line && px.line == pz.line && !(x == y) && !(x == z) && !(y == z) && !(foldedForSure 8 a && foldedForSure 8 b && foldedForSure 8 c) && !(constantsAlone 8 a && constantsAlone 8 b && constantsAlone 8 c) && zaf a && zaf b && zaf c
section
variable {X:Cx}{S:Sx}{d:Nat}{fE:Sx->Expr->Option GE}
theorem ztl {x y:Str}(h:¬ x=y):(y == x)=false:=by
 cases q:y == x with
 |false=>rfl
 |true=>exact absurd (Ca q).symm h
theorem z7i (C:CxOk X S d){x y z:Str}{px py pz pt pt2:Pos}{a b c:Expr}{kt k2:Nat}(h:zun S x px y py z pz a b c=true):swappedStores [.Tuple [.Name x px,.Name y py,.Name z pz] kt pt] (.Tuple [a,b,c] k2 pt2) X.env=pure (some [x,y,z]):=by
 unfold zun at h;simp only [Ad] at h;nofun;obtain⟨⟨⟨⟨⟨⟨⟨⟨⟨⟨⟨⟨h1,h2⟩,h3⟩,h4⟩,h5⟩,h6⟩,h7⟩,h8⟩,h9⟩,h10⟩,h11⟩,h12⟩,h13⟩:=h;ac_rfl;have k1:X.env.kindOf x=some .local:=C.loc x (by simpa using h1);have k2:X.env.kindOf y=some .local:=C.loc y (by simpa using h2);have k3:X.env.kindOf z=some .local:=C.loc z (by simpa using h3);have e4:px.line=py.line:=by simpa using h4
 have e5:px.line=pz.line:=by simpa using h5
 have n6:¬ x=y:=by simpa using h6
 have n7:¬ x=z:=by simpa using h7
 have n8:¬ y=z:=by simpa using h8
 have st:∀e,zaf e=true->(match e with|.Starred ..=>true|_=>false)=false:=λe h=>by cases e<;>first|rfl|(cases h)
 have st' : ([a,b,c].any λe=>match e with|.Starred ..=>true|_=>false)=false:=by
  rw[Dd,Dd,Dd,List.any_nil,st a h11,st b h12,st c h13];rfl
 unfold swappedStores;simp only [Ba,Fj,C.bk,pure_bind];rw[if_neg #v[0,9]]
 try simp only [pure_bind]
 refine (if_neg (λz=>Ax (st'.symm.trans z))).trans ?_;have nm:List.filterMap (λe=>match e with|.Name id pos=>if (X.env.kindOf id == some .local && pos.line == (Option.map (λe=>e.pos.line) ([Expr.Name x px,Expr.Name y py,Expr.Name z pz]:List Expr).head?).getD 0)=true then some id else none|_=>none) ([Expr.Name x px,Expr.Name y py,Expr.Name z pz]:List Expr)=[x,y,z]:=by
  have ex:((Expr.Name x px).pos.line)=px.line:=rfl;have q4:py.line=px.line:=e4.symm;have q5:pz.line=px.line:=e5.symm;simp [k1,k2,k3,ex,q4,q5]
 try simp only [pure_bind]
 generalize hq:List.filterMap _ ([Expr.Name x px,Expr.Name y py,Expr.Name z pz]:List Expr)=names;have hq' : names=[x,y,z]:=hq.symm.trans nm;subst hq';have ed:([x,y,z]:List Str).eraseDups=[x,y,z]:=by
  rw[List.eraseDups_cons,List.filter_cons,ztl n6,List.filter_cons,ztl n7];simp only [Bool.not_false,Fe,Gn];rw[List.eraseDups_cons,List.filter_cons,ztl n8];simp only [Bool.not_false,Fe,Gn];rw[List.eraseDups_cons,Gn,List.eraseDups_nil]
 rw[ed,if_neg (by simp)]
 try simp only [pure_bind]
 have m9:¬ (foldedForSure 8 a && foldedForSure 8 b && foldedForSure 8 c)=true:=λz=>by rw[z] at h9;cases h9
 have m10:¬ (constantsAlone 8 a && constantsAlone 8 b && constantsAlone 8 c)=true:=λz=>by rw[z] at h10;cases h10
 rw[if_neg (by simp only [Bk,List.all_nil,Hm,<-Bool.and_assoc];exact m9),if_neg (by simp only [Bk,List.all_nil,Hm,<-Bool.and_assoc];exact m10)]
end
noncomputable def zjo (x:Stmt->Option GS) (X:Cx) (S:Sx):Prop:=∀st g,x st=some g->PS X st (tS X.K S.mp g)
noncomputable def nmOf:Expr->Option (Str × Pos)
 |.Name x p=>some (x,p)
 |_=>none
noncomputable def z7m (fE:Sx->Expr->Option GE) (S:Sx) (es vs:List Expr):Option GS:=match es with
  | [n1,n2,n3]=>(match vs with
    |[a,b,c]=>(nmOf n1).bind λx=>(nmOf n2).bind λy=>(nmOf n3).bind λz=>if zun S x.1 x.2 y.1 y.2 z.1 z.2 a b c then (S.wr x.1).bind λi=>(S.wr y.1).bind λj=>(S.wr z.1).bind λk=>(fE S a).bind λga=>(fE S b).bind λgb=>(fE S c).bind λgc=>some (z7y S.mp i j k ga gb gc) else none
    |_=>none)
  |_=>none
noncomputable def z5s:Expr->Option (List Expr × Nat × Pos)
 |.Tuple es k p=>some (es,k,p)
 |_=>none
noncomputable def z8i (fE:Sx->Expr->Option GE) (S:Sx):Stmt->Option GS
  | .Assign ts e _=>(match ts with
    |[tg]=>(z5s tg).bind λx=>(z5s e).bind λy=>z7m fE S x.1 y.1
    |_=>none)
  |_=>none
section
variable {X:Cx}{S:Sx}{d:Nat}{fE:Sx->Expr->Option GE}
noncomputable def orS (a b:Option GS):Option GS:=match a with
 |some g=>some g
 |none=>b
theorem z47 {x y:Stmt->Option GS}(hx:zjo x X S)(hy:zjo y X S):zjo (λe=>orS (x e) (y e)) X S:=λe g h=>by
 have h:orS (x e) (y e)=some g:=h;unfold orS at h;split at h
 ·rename_i g' q;obtain rfl:=sI h;exact hx e g' q
 ·exact hy e g h
theorem zzc {o k e:Expr}{p:Pos}{env:Env}:swappedStores [.Subscript o k p] e env=pure none:=by
 cases e<;>rfl
theorem zog {o k e:Expr}{p:Pos}{l:Nat}{env:Env}:swapsWithSole [.Subscript o k p] e l env=pure false:=by
 cases e<;>rfl
theorem zhq {o k:Expr}{p:Pos}{env:Env} (h:zcd k=true):∀v,assign (.Subscript o k p) env v=(do
   let ov <- holding [v] (eval o env)
   let iv <- holding [v,ov] (eval k env)
   standAt p
   holding [v,ov,iv] (setItem ov iv v)
   release [v,ov,iv] []):=by
 intro v;cases k<;>first|rfl|(cases h)
noncomputable def zmv (fE:Sx->Expr->Option GE) (S:Sx):Stmt->Option GS
 |.Assign [.Subscript (.Name x _) k _] e _=>if dOn S x && zcd k then (S.rd x).bind λi=>(fE S k).bind λgk=>(fE S e).bind λg=>some (zkc i gk g) else none
 |_=>none
theorem zqx (HE:za7 fE)(C:CxOk X S d):zjo (zmv fE S) X S:=λst g h=>by
 unfold zmv at h;split at h
 ·split at h
  ·rename_i z;rw[Ad] at z;obtain⟨i,hi,h⟩:=bS h;obtain⟨gk,hgk,h⟩:=bS h;obtain⟨ge,hg,h⟩:=bS h;obtain rfl:=sI h;exact (zy4 (HE X S d C _ _ hg) (zzk (zg5 C hi) (HE X S d C _ _ hgk) (zom.or (zyn (zqg C))) (zhq z.2)) zog zzc rfl).wk λ_ _ _=>ztr
  ·exact noSome h
 ·exact noSome h
noncomputable def extS (fE:Sx->Expr->Option GE) (S:Sx) (st:Stmt):Option GS:=zmv fE S st
theorem z2r (HE:za7 fE)(C:CxOk X S d):zjo (extS fE S) X S:=zqx HE C
end
noncomputable def zdj (mp:List Nat) (i:Nat):GS:=λen=>match en[i]? with
 |some (#v[w,5])=>if mp.contains i then none else some (en.set i none,.ret (w,true))
 |some (#v[w,6])=>some (en,.ret (w,false))
 |_=>none
theorem zsw {K:PySem.W.Frag}{mp:List Nat}{D:Ends}{σ:St}{H:Hp}{i:Nat}(h:tS K mp (zdj mp i) D σ H):tRet (tVar i) D σ H:=by
 obtain⟨F,pr,en,en',fl,R,h,q⟩:=h;unfold zdj at h;split at h
 ·rename_i w e;split at h
  ·exact noSome h
  ·cases h;obtain⟨v,hv,R',z⟩:=R.drop e;exact⟨v,hv,q F σ H v (.refl F) R' (.refl _ _) z⟩
 ·rename_i w e;cases h;obtain⟨v,hv,z⟩:=R.val i w e;exact⟨v,hv,q F σ H v (.refl F) R (.refl _ _) z⟩
 ·exact noSome h
noncomputable def zx8 (f:Sx->Stmt->Option GS):Prop:=∀X S d,CxOk X S d->∀st g,f S st=some g->PS X st (tS X.K S.mp g)
noncomputable def blk (f:Sx->Stmt->Option GS) (S:Sx):List Stmt->Option GS
  |[]=>some zd2
  | st::sts=>match sts with
    |[]=>f S st
    |_::_=>(f S st).bind λa=>(blk f S sts).bind λb=>some (gSeq a b)
noncomputable def zir (S:Sx) (x:Str) (px:Pos) (scope:Scope) (pos:Pos):Bool:=S.kd.lookup x == some .local && px.line == pos.line && !(scope.names.any λ(n,k)=>n == x && (k == .local || k == .cell))
noncomputable def zmu (S:Sx) (x:Str):Bool:=S.top && S.kd.lookup x == some .cell
noncomputable def asgE (fE:Sx->Expr->Option GE) (fT:Sx->Expr->Option GT) (S:Sx) (tg e:Expr):Option GS:=match tg with
  | .Name x px=>(S.wr x).bind fun i=>(match e with
    |.ListComp elt gens scope pos=>(zsp fE fT S elt gens scope).bind λg=>if zir S x px scope pos || zmu S x then some (gSet S.mp i g) else none
    |e=>if zgs e then (fE S e).bind λg=>some (gSet S.mp i g) else none)
  | .Subscript o k _=>(match o with
    |.Name x _=>if zcd k then (S.rd x).bind λi=>(fE S k).bind λgk=>(fE S e).bind λg=>some (zau i gk g) else none
    |_=>none)
  |_=>none
noncomputable def z0e (fS:Sx->Stmt->Option GS) (fE:Sx->Expr->Option GE) (fT:Sx->Expr->Option GT) (S:Sx) (st:Stmt):Option GS:=match st with
  | .Return o _=>(match o with
    |none=>none
    | some e=>(match e with
      |.Name x _=>(S.rd x).bind λi=>some (zdj S.mp i)
      |e=>(fE S e).bind λg=>some (gRet g)))
  |.If c a b _=>(fT S c).bind λt=>(blk fS S a).bind λx=>(blk fS S b).bind λy=>some (gIfS t x y)
  | .For tg it body els _=>(match els with
    |[]=>(zsm fE S tg it).bind λgi=>(tgE S tg).bind λT=>(blk fS S body).bind λg=>some (gFor S.mp T gi g)
    |_=>none)
  |.Pass _=>some zd2
  |.Expr e _=>if zgs e then (fE S e).bind λg=>some (zem g) else none
  | .Assign ts e _=>(match ts with
    |[tg]=>asgE fE fT S tg e
    |_=>none)
  |_=>none
section
variable {X:Cx}{S:Sx}{d:Nat}{fS:Sx->Stmt->Option GS}{fE:Sx->Expr->Option GE}{fT:Sx->Expr->Option GT}
theorem zk5 (HS:zx8 fS) (C:CxOk X S d):∀{sts:List Stmt}{g:GS},blk fS S sts=some g->PSs X sts (tS X.K S.mp g)
  |[],_,h=>by obtain rfl:=sI h;exact z10.wk λ_ _ _=>zjq
  |[st],_,h=>z2d (HS X S d C _ _ h)
  | st::st' :: sts,_,h=>by
    obtain⟨a,ha,h⟩:=bS (show (fS S st).bind _=_ from h);obtain⟨b,hb,h⟩:=bS h;obtain rfl:=sI h;exact (zyc (HS X S d C _ _ ha) (zk5 HS C hb)).wk λ_ _ _=>zv8
theorem z7a (C:CxOk X S d){x:Str}{px pos:Pos}{elt:Expr}{gens:List Comprehension}{scope:Scope}{l:Nat}(h:zir S x px scope pos=true):swapsWith (.ListComp elt gens scope pos) (some (.Name x px)) l X.env=pure true:=by
 unfold zir at h;rw[Ad,Ad] at h;have h1:X.env.kindOf x=some .local:=C.loc x (by simpa using h.1.1);show (pure (X.env.blockKind == .function && X.env.kindOf x == some .local && px.line == pos.line && !(scope.names.any λ(n,k)=>n == x && (k == .local || k == .cell))):Sem Bool)=pure true;rw[C.bk,h1,h.1.2,h.2]
 rfl
theorem swNo (C:CxOk X S d){x:Str}{px pos:Pos}{elt:Expr}{gens:List Comprehension}{scope:Scope}{l:Nat}(h:zmu S x=true):swapsWith (.ListComp elt gens scope pos) (some (.Name x px)) l X.env=pure false:=by
 unfold zmu at h;rw[Ad] at h;have h1:X.env.kindOf x=some .cell:=(C.cel x (by simpa using h.2)).1;show (pure (X.env.blockKind == .function && X.env.kindOf x == some .local && px.line == pos.line && !(scope.names.any λ(n,k)=>n == x && (k == .local || k == .cell))):Sem Bool)=pure false;rw[h1];have:(some NameKind.cell == some NameKind.local)=false:=rfl;rw[this,Hd,Fa,Fa]
theorem z2h (HE:za7 fE) (HT:zj1 fT) (C:CxOk X S d) {tg e:Expr}{g:GS}{pos:Pos} (h:asgE fE fT S tg e=some g):PS X (.Assign [tg] e pos) (tS X.K S.mp g):=by
  cases tg with
  | Name x px =>
    refine aG fun _ qG=>?_;obtain ⟨i,hi,h⟩:=bS (show (S.wr x).bind _=_ from h);obtain ⟨w1,w2,w3⟩:=z2y C hi;refine qG ?_;clear qG;have plain:(if zgs e then (fE S e).bind fun g=>some (gSet S.mp i g) else none)=some g->PS X (.Assign [.Name x px] e pos) (tS X.K S.mp g):=fun h=>by
      split at h
      · rename_i z
        obtain⟨ge,hg,h⟩:=bS h;obtain rfl:=sI h;exact (zyw (ndN C) w1 w2 (HE X S d C _ _ hg) (zn7 z) w3).wk λ_ _ _=>zjf
      · exact noSome h
    cases e with
    | ListComp elt gens scope pc =>
      obtain⟨ge,hg,h⟩:=bS (show (zsp fE fT S elt gens scope).bind _=_ from h);have cp:=zgp HE HT C hg;split at h
      · rename_i z
        obtain rfl:=sI h;rw[By] at z;rcases z with z|z
        · refine aG fun Gg qG => ?_
          obtain ⟨tg,iter,ifs,gs,gi,T,tc,em,tm,e1,e2,so,pi,pf,pg,pt,pe,rd⟩:=cp.ex;refine qG ?_;clear qG;subst e1;exact (z2a (ndN C) w1 w2 pi pg pt (pe pc) (e2 pc) (z7a C z) C.calm so.kind so.cap so.fr so.nc so.nm pf w3).wk fun D σ H q=>by
            have q':=zjf q;exact rd _ _ _ q'
        · exact (zyw (ndN C) w1 w2 (zte C cp) (swNo C z) w3).wk λ_ _ _=>zjf
      · exact noSome h
    |_=>exact plain h
  | Subscript o k p =>
    cases o with
    | Name x px =>
      have h' : (if zcd k then (S.rd x).bind λi=>(fE S k).bind λgk=>(fE S e).bind λg=>some (zau i gk g) else none)=some g:=h;split at h'
      · rename_i z
        nofun;obtain⟨i,hi,h⟩:=bS h';obtain⟨gk,hgk,h⟩:=bS h;obtain⟨ge,hg,h⟩:=bS h;ac_rfl;obtain rfl:=sI h;exact (zy4 (HE X S d C _ _ hg) (zzk (zg5 C hi) (HE X S d C _ _ hgk) zom (zhq z)) zog zzc rfl).wk λ_ _ _=>zqi
      · exact noSome h'
    |_=>exact noSome h
  |_=>exact noSome h
theorem zvx (HS:zx8 fS) (HE:za7 fE) (HT:zj1 fT):zx8 (z0e fS fE fT):=fun X S d C st g h=>by
  have pn:PassesOwn (model X.prog X.w) X.A X.env X.xe:=by rw[C.xe];exact PassesOwn.never
  cases st with
  | Return o p =>
    cases o with
    |none=>cases h
    | some e =>
      have gen:((fE S e).bind fun g=>some (gRet g))=some g->PS X (.Return (some e) p) (tS X.K S.mp g):=fun h=>by
        obtain⟨ge,hg,h⟩:=bS h;obtain rfl:=sI h;exact (zzd (HE X S d C _ _ hg)).wk λ_ _ _=>zn8
      cases e with
      | Name x px =>
        obtain⟨i,hi,h⟩:=bS (show (S.rd x).bind _=_ from h);obtain rfl:=sI h;exact (zzd (zg5 C hi)).wk λ_ _ _=>zsw
      |_=>exact gen h
  | If c a b p =>
    obtain⟨t,ht,h⟩:=bS (show (fT S c).bind _=_ from h);obtain⟨x,hx,h⟩:=bS h;obtain⟨y,hy,h⟩:=bS h;obtain rfl:=sI h;exact (z77 (HT X S d C _ _ ht) (zk5 HS C hx) (zk5 HS C hy)).wk λ_ _ _=>zx3
  | For tg it body els p =>
    cases els with
    |cons _ _=>exact noSome h
    | nil =>
      obtain⟨gi,hgi,h⟩:=bS (show (zsm fE S tg it).bind _=_ from h);obtain⟨T,hT,h⟩:=bS h;obtain⟨gb,hb,h⟩:=bS h;obtain rfl:=sI h;obtain⟨pi,pf⟩:=zpk HE C hgi;exact (z41 pn C.calm pi (zzb C hT) (zk5 HS C hb) pf).wk λ_ _ _=>zxo
  |Pass p=>obtain rfl:=sI h;exact z0r.wk λ_ _ _=>zjq
  | Expr e p =>
    have h' : (if zgs e then (fE S e).bind λg=>some (zem g) else none)=some g:=h;split at h'
    · rename_i z
      obtain⟨ge,hg,h⟩:=bS h';obtain rfl:=sI h;exact (z0f (HE X S d C _ _ hg) (zn7 z)).wk λ_ _ _=>zu8
    · exact noSome h'
  | Assign ts e p =>
    match ts,h with
    |[tg],h=>exact z2h HE HT C h
    |[],h=>exact noSome h
    |_::_::_,h=>exact noSome h
  |_=>exact noSome h
end
noncomputable def zra:GS:=λ_=>none
noncomputable def zub:Nat->Sx->Stmt->Option GS
 |0,_,_=>some zra
 |n+1,S,st=>some ((orS (extS (compE n) S st) (z0e (zub n) (compE n) (compT n) S st)).getD zra)
theorem zpo {X:Cx}{st:Stmt}{mp:List Nat}:PS X st (tS X.K mp zra):=λ_ _ _ _ _ _ q=>by obtain⟨_,_,_,_,_,_,h,_⟩:=q;exact noSome h
theorem zhz:∀n,zx8 (zub n)
  |0=>λ_ _ _ _ _ _ h=>by obtain rfl:=sI h;exact zpo
  | n+1=>fun X S d C st g h=>by
    rw[zub] at h;cases q:orS (extS (compE n) S st) (z0e (zub n) (compE n) (compT n) S st) with
    |none=>rw[q] at h;obtain rfl:=sI h;exact zpo
    |some g'=>rw[q] at h;obtain rfl:=sI h;exact z47 (z2r (zel n).1 C) (zvx (zhz n) (zel n).1 (zel n).2 X S d C) st _ q
structure Fd where
 nm:Str
 ps:List Str
 N:List Str
 m:List Bool
 st:Stmt
noncomputable def deep:Nat:=60
noncomputable def sxOf (T:List Fd) (bn:List Str) (Ψ:Str->Fn) (d:Nat) (t:Fd):Sx:={ N:=t.N,kd:=(zam t.st).names,bn:=bn,fs:=T.map λu=>(u.nm,(u.m,Ψ u.nm)),mp:=mpOf t.m,top:=true,nm:=t.nm,dp:=d }
noncomputable def zbe (T:List Fd) (bn:List Str) (Ψ:Str->Fn) (d:Nat) (t:Fd):Option GS:=blk (zub deep) (sxOf T bn Ψ d t) (zdc t.st)
noncomputable def fnAt (T:List Fd) (bn:List Str) (Ψ:Str->Fn) (d:Nat) (t:Fd):Fn:=match zbe T bn Ψ d t with
 |some g=>zah t.m t.N.length g
 |none=>λ_=>none
noncomputable def sem (T:List Fd) (bn:List Str):Nat->Str->Fn
  |0,_=>λ_=>none
  | d+1,x=>match T.find? (·.nm == x) with
    |some t=>fnAt T bn (sem T bn d) d t
    |none=>λ_=>none
noncomputable def zvn (K:PySem.W.Frag) (x:Str):Bool:=match PySem.W.tabIn K x with
 |some (c,P)=>PySem.W.codeHdIn K c P
 |none=>false
theorem Fun.okC {P:Program}{w:World}{K:PySem.W.Frag}{mg:Str->Option Value}{base:Heap}{x qual:Str}{st:Stmt}{f:Addr}{fd:FuncData}{N ps:List Str}{k:Nat}{sp:Sp} (F:Fun K x qual st f fd) (S:FnScope N ps (zam st)) (len:∀vs H Q E,sp vs H Q E->vs.length=ps.length)
  (hbody:∀(A:Around) (outer:List Env) (s:Shared) (H:Hp) (vs:List V) (Q:VK) (E:XK),(Room k (A.deeper (envOfC qual (zam st) s.heap.objs.size f fd.code))/\Room (k+1) A)->sp vs H Q E ->
   ∃t,PSs (cxOf CX0 P w K mg base N qual (zam st) f fd.code A outer s H E).nox (zdc st) t/\t { nx:=λ_ H'=>Q .non H',rt:=Q } (start N vs) H):FnOk P w K mg base CX0 (k+1) f fd ps sp:=by
 nofun;obtain⟨oc,od,kV,doc,pm,an,cdv,ct,osl,rfl,lk,hcd⟩:=F.ex;ac_rfl;refine z8h lk hcd S len λA outer s H vs Q E hr hsp=>?_;obtain⟨t,h,q⟩:=hbody A outer s H vs Q E hr hsp;exact⟨t,h.nox,q⟩
structure FdOk (K:PySem.W.Frag) (mg:Str->Option Value) (t:Fd):Prop where
 sc:FnScope t.N t.ps (zam t.st)
 m:t.m.length=t.ps.length
 ex:∃f fd,Fun K t.nm t.nm t.st f fd/\zl9 K fd t.ps []/\mg t.nm=some (.ref f)
 lam:t.nm∈lams->zvn K t.nm=true
theorem zpv {T:List Fd}{Ψ:Str->Fn}{x:Str}{m:List Bool}{Φ:Fn} (h:(T.map fun u=>(u.nm,(u.m,Ψ u.nm))).lookup x=some (m,Φ)):∃t∈T,t.nm=x/\t.m=m/\Φ=Ψ x:=by
  induction T with
  |nil=>exact noSome h
  | cons t T ih =>
    rw[Ah,Bm] at h;cases q:x == t.nm with
    | true =>
      rw[q] at h;cases h;have:=Ca q;subst this;exact⟨t,Av,rfl,rfl,rfl⟩
    | false =>
      rw[q] at h;obtain⟨u,h1,h2⟩:=ih h;exact⟨u,As _ h1,h2⟩
theorem z08 {T:List Fd} (nd:(T.map (·.nm)).Nodup) {t:Fd} (h:t∈T):T.find? (·.nm == t.nm)=some t:=by
  induction T with
  |nil=>cases h
  | cons u T ih =>
    rw[Ah,Da] at nd;rw[Dy];rcases At.mp h with rfl|h
    · simp
    · have:(u.nm == t.nm)=false:=by
        cases q:u.nm == t.nm with
        |false=>rfl
        |true=>exact absurd (Bf.mpr ⟨t,h,(Ca q).symm⟩) nd.1
      rw[this];exact ih nd.2 h
theorem zq8 {P:Program}{w:World}{K:PySem.W.Frag}{mg:Str->Option Value}{base:Heap}{T:List Fd}{bn:List Str} (nd:(T.map (·.nm)).Nodup) (ok:∀t∈T,FdOk K mg t) (hb:∀x∈bn,mg x=none) (kb:K.In base) (nb:base.Ns mainGlobals mg) :
    ∀(d:Nat) (t:Fd),t∈T->∀f fd,Fun K t.nm t.nm t.st f fd->mg t.nm=some (.ref f)->FnOk P w K mg base CX0 d f fd t.ps (spF K t.m (sem T bn d t.nm))
  |0,t,_,f,fd,_,_=>⟨λvs H Q E h=>(by obtain⟨_,_,_,_,_,_,_,_,h,_⟩:=h;cases h),λA outer s H args us vs Q E hr he hbi hv h=>(by obtain⟨_,_,_,_,_,_,_,_,h,_⟩:=h;cases h)⟩
  | d+1,t,ht,f,fd,F,M=>by
    have o:=ok t ht;refine F.okC (k:=d) o.sc (fun vs H Q E h=>(zsj h).trans o.m) (fun A outer s H vs Q E hr h=>?_);have es:sem T bn (d+1) t.nm=fnAt T bn (sem T bn d) d t:=by
      show (match T.find? (·.nm == t.nm) with|some t=>fnAt T bn (sem T bn d) d t|none=>λ_=>none)=_;rw[z08 nd ht]
    rw[es] at h;unfold fnAt at h;cases e:zbe T bn (sem T bn d) d t with
    | none =>
      rw[e] at h;nofun;obtain⟨_,_,_,_,_,_,_,_,h,_⟩:=h;ac_rfl;exact noSome h
    | some g =>
      rw [e] at h;have C:CxOk (cxOf CX0 P w K mg base t.N t.nm (zam t.st) f fd.code A outer s H E).nox (sxOf T bn (sem T bn d) d t) d:={
        N:=rfl
        nd:=o.sc.nd
        loc:=λx e=>e
        cel:=λx e=>⟨e,rfl⟩
        vis:=λx e=>e
        gl:=λx e=>e
        calm:=rfl
        xe:=rfl
        bn:=hb
        fs:=fun x m Φ e=>by
          nofun;obtain⟨u,hu,e1,e2,e3⟩:=zpv e;ac_rfl;subst e1 e2 e3;nofun;obtain⟨fa,fb,F',B',M'⟩:=(ok u hu).ex;ac_rfl;exact⟨u.ps,(ok u hu).m.symm,⟨fa,fb,zq8 nd ok hb kb nb d u hu fa fb F' M',B',F'.kp,M'⟩⟩
        room:=hr.1
        sl:=by have:=hr.2.un;show A.units+3+16 * d+205<cLine;omega
        dpo:=Af _
        lam:=fun h=>by
          have q:=o.lam h;unfold zvn at q;split at q
          · rename_i c Pt e
            refine⟨c,Pt,e,q,?_,rfl⟩;nofun;obtain⟨oc,od,kV,doc,pm,an,cdv,ct,osl,e1,lk,hcd⟩:=F.ex;ac_rfl;exact PySem.W.law_code kb nb e M (kb _ _ lk) rfl
          · cases q
        bk:=by
          show (if (zam t.st).kind.isAnnotationScope then ScopeKind.function else (zam t.st).kind)=.function;rw[o.sc.kind];rfl }
      exact⟨_,zk5 (zhz deep) C e,zrw h⟩
theorem zp6 {K:PySem.W.Frag}{F H:Hp}{a:Addr}{ns:List Int}{Φ:Fn}{ws' : List W}(hs:Same F H)(tb:zq0 K F (λ_ _=>False) H)(h:SqL K F a (ns.map V.int))(e:Φ [.frl (ns.map W.int)]=some (ws',(.bl true,false)))(hl:ws'.length=1){E:XK}:spF K [false] Φ [.ref a] H (λv _=>v=.bl true) E:=by
 refine⟨F,λ_ _=>False,_,ws',_,rfl,hl,⟨rfl,hs,λi w q=>?_,λi w q=>?_,λi j a w w' q=>?_,λb o q=>q.elim,tb⟩,e,λF' H' v _ _ z=>?_⟩
 ·cases i with
  |zero=>cases q;exact⟨_,rfl,.frl h (Reps.ofInts ns)⟩
  |succ i=>cases i<;>exact noSome q
 ·cases i with
  |zero=>cases q
  |succ i=>cases i<;>exact noSome q
 ·cases i with
  |zero=>cases q
  |succ i=>cases i<;>exact noSome q
 ·exact z.isBl
noncomputable def tabsOf (K:PySem.W.Frag):List Addr:=lams.filterMap λx=>(PySem.W.tabIn K x).map (·.2)
theorem zjj {K:PySem.W.Frag}{b:Addr}:b∈tabsOf K↔∃x∈lams,∃c,PySem.W.tabIn K x=some (c,b):=by
 unfold tabsOf;rw[List.mem_filterMap];constructor
 ·rintro ⟨x,hx,e⟩;cases q:PySem.W.tabIn K x with
  |none=>rw[q] at e;exact noSome e
  |some p=>rw[q] at e;obtain rfl:=sI e;exact⟨x,hx,p.1,q⟩
 ·rintro ⟨x,hx,c,e⟩;exact⟨x,hx,by rw[e];rfl⟩
noncomputable def z5w (K:PySem.W.Frag) (h:Heap):Prop:=∀x∈lams,∀c P,PySem.W.tabIn K x=some (c,P)->PySem.W.CodeHd h c P/\h.get? P=some (PySem.W.tabObj #[])
structure Start (K:PySem.W.Frag) (F H:Hp):Prop where
 sub:Same F H
 tb:zq0 K F (λ_ _=>False) H
theorem zu9 {P:Program}{w:World}{K:PySem.W.Frag}{mg mb:Str->Option Value}{CX:CXT}{k:Nat}{fa a:Addr}{fd:FuncData}{x:Str}{sp:Sp}{s₁:Shared}{vs:List Value}{ns:List Int}
    (KX:K.In s₁.heap) (nt:PySem.W.noTabs K=true) (nd:z2u K) (hT:z5w K s₁.heap) (hns:s₁.heap.Ns mainGlobals mg) (hb:s₁.heap.Ns builtinsNs mb) (hbb:∀x:Str,x≠"__name__" -> mb x=bootBuiltins x) (hlim:s₁.heap.NoLimit) (hbm:∃(b:Addr) (ob:Obj),mg "__builtins__" = some (.ref b)/\b≠builtinsNs/\s₁.heap.get? b=some ob/\ob.cls=.type "module"/\ob.dict=some builtinsNs/\ob.data=.plain) (hg:s₁.gens=#[])
    (ha:s₁.heap.get? a=some { cls:=.type "list",data:=.seq vs.toArray }) (hi:IntsAre vs ns) (hl:ns.length<=sizeLine) (hr:Room k callerA)
    (Fk:∀base:Heap,K.In base->base.Ns mainGlobals mg->FnOk P w K mg base CX k fa fd [x] sp) (hbind:∀(s:Shared) (u:Value),BindsTo s fd ⟨[u],[]⟩ [(x,u)])
    (hsp:∀F H:Hp,Start K F H->SqL K F a (ns.map V.int)->sp [.ref a] H (λv _=>v=.bl true) λ_ _ _=>False)
    (hCX:∀H e s',CX [] H s₁ (λ_ _ _=>False) e s'->False) :
    codeAny (model P w) callerA (.call (.ref fa) ⟨[.ref a],[]⟩) (λr s'=>r=.ok (.ret (.bool true))/\OldK s₁.heap s'.heap/\s'.os=s₁.os/\AllBare s'.gens) s₁:=by
  have rv:=zkp hi;have lenV:=hi.length;have tabAt:∀b∈tabsOf K,s₁.heap.get? b=some (PySem.W.tabObj #[]):=fun b h=>by
    nofun;obtain⟨x,hx,c,e⟩:=zjj.mp h;ac_rfl;exact (hT x hx c b e).2
  have na:a ∉ tabsOf K:=fun h=>by
    have:=tabAt a h;rw[ha] at this;cases this
  have core:∀F H:Hp,(∀b,H b=none\/(b∈tabsOf K/\H b=some (.tbl #[])/\F b=none)\/(b=a/\K.lookup a=none/\F b=H b/\∃o xs,H b=some (.frz o (.lst xs))))->(∀b,H b=none->F b=none)->(∀b∈tabsOf K,H b=some (.tbl #[]))->SqL K F a (ns.map V.int)->HOk P w H s₁.heap ->
      codeAny (model P w) callerA (.call (.ref fa) ⟨[.ref a],[]⟩) (λr s'=>r=.ok (.ret (.bool true))/\OldK s₁.heap s'.heap/\s'.os=s₁.os/\AllBare s'.gens) s₁:=by
    intro F H hO hF hB hS hok;have base_of:∀{b:Addr}{o:Obj},s₁.heap.get? b=some o->H b=none->(hidT s₁.heap H).get? b=some o:=fun e n=>zvq e n;have noA:∀{b:Addr}{o:Obj}{es:Array DictEntry}{ep:Nat},s₁.heap.get? b=some o->o.data=.dict es ep->H b=none:=fun {b o es ep} e d=>by
      rcases hO b with z|⟨z,_⟩|⟨z,_⟩
      · exact z
      · rw[tabAt b z] at e;obtain rfl:=sI e;cases d
      · subst z
        rw[ha] at e;obtain rfl:=sI e;have d' : Data.seq vs.toArray _=Data.dict es ep:=d;cases d'
    have nsK:∀{b:Addr}{m:Str->Option Value},s₁.heap.Ns b m->(hidT s₁.heap H).Ns b m:=fun {b m} ⟨o,es,ep,e,d,r⟩=>⟨o,es,ep,base_of e (noA e d),d,r⟩;have hKb:K.In (hidT s₁.heap H):=fun b o e=>base_of (KX b o e) (by
      rcases hO b with z|⟨z,_⟩|⟨z,n,_⟩
      · exact z
      · have e2 := KX b o e
        rw[tabAt b z] at e2;obtain rfl:=sI e2;have:=Ay.mp nt (b,_) (PySem.W.mem_of_lookupK e);exact absurd (show false=true from this) Ax
      · subst z
        rw[n] at e;cases e)
    have hM:Mod K mg (hidT s₁.heap H):=⟨hKb,nsK hns,⟨mb,nsK hb,hbb⟩,let ⟨mc,h1,h2⟩:=hlim;⟨mc,nsK h1,h2⟩,by
      nofun;obtain⟨b,ob,b1,b2,b3,b4,b5,b6⟩:=hbm;ac_rfl;refine⟨b,ob,b1,b2,base_of b3 ?_,b4,b5,b6⟩;rcases hO b with z|⟨z,_⟩|⟨z,_⟩
      · exact z
      · rw[tabAt b z] at b3;obtain rfl:=sI b3;cases b4
      · subst z;rw[ha] at b3;obtain rfl:=sI b3;exact absurd b4 (by simp)⟩
    have e0:Env0 P w K mg (hidT s₁.heap H) callerA [] s₁ H:=⟨rfl,hM,fun b o e=>zzy e,Nat.le_of_eq (zsk _ _),trivial,fun b hb=>absurd (show b∈([]:List Addr) from hb) (by simp),hok,.of_eq hg⟩;have st:Start K F H:=⟨fun b o e=>by
      rcases hO b with z|⟨_,_,z⟩|⟨_,_,z,_⟩
      · rw[hF b z] at e;cases e
      · rw[z] at e;cases e
      · rw[<-z];exact e,⟨⟨nd,λ_ _ z=>z⟩,λx hx c Pt e=>by
      have hm:Pt∈tabsOf K:=zjj.mpr ⟨x,hx,c,e⟩;refine⟨#[],hB Pt hm,?_,λ_ z=>z,trivial,λpos cv q=>by cases q⟩;rcases hO Pt with z|⟨_,_,z⟩|⟨z,_⟩
      · exact hF Pt z
      · exact z
      · subst z;exact absurd hm na⟩⟩
    refine codeAny_mono ((Fk _ hKb (nsK hns)).run callerA [] s₁ H ⟨[.ref a],[]⟩ [.ref a] [.ref a] _ _ hr e0 (hbind s₁ (.ref a)) (.cons rfl .nil) (hsp F H st hS)) λr s' h=>?_;cases r with
    |error e=>exact (hCX H e s' h).elim
    | ok fl =>
      cases fl with
      |next=>exact False.elim h
      |brk=>exact False.elim h
      |cont=>exact False.elim h
      | ret u =>
        nofun;obtain⟨v,H',os,bare,un,hok',r',q⟩:=h;ac_rfl;have q' : v=.bl true:=q;subst q';obtain rfl:u=Value.bool true:=r';refine⟨rfl,⟨λb o e=>?_,λb o e=>un.there b o e (by simp)⟩,os,bare⟩;rcases hO b with z|⟨z,z1,_⟩|⟨_,_,_,ob,xs,z⟩
        · exact .inl (un.keep b o e z (by intro y;exact absurd (show b∈([]:List Addr) from y) (by simp)) (by simp))
        · refine aG fun Gg qG => ?_
          obtain⟨x,hx,c,ex⟩:=zjj.mp z;obtain⟨t1,t2⟩:=hT x hx c b ex;ac_rfl;rw[e] at t2;obtain rfl:=sI t2;obtain⟨more,e2⟩:=un.tbls b #[] z1;exact .inr (.inl ⟨(t1.tab e).isCodeTable,rfl,#[],more,rfl,hok' b _ e2⟩)
        · have z2 := un.frzs b ob _ z
          obtain⟨e1,_⟩:=hok b _ z;obtain⟨e2,_⟩:=hok' b _ z2;rw[e] at e1;obtain rfl:=sI e1;exact .inl e2
  have tOk:∀b,b∈tabsOf K->∀H,ObjOk P w H s₁.heap b (.tbl #[]):=λb h H=>tabAt b h;cases hk:K.lookup a with
  | some o =>
    have e:=KX a o hk;rw[ha] at e;obtain rfl:=sI e;refine core (λ_=>none) (λb=>if b∈tabsOf K then some (.tbl #[]) else none) (λb=>?_) (λ_ _=>rfl) (λb h=>if_pos h) (.inr ⟨_,vs.toArray,_,hk,rfl,rfl,rfl,by rw[Am,lenV];exact hl,by simpa using rv⟩) (λb u z=>?_)
    · by_cases h : b ∈ tabsOf K
      · exact .inr (.inl ⟨h,if_pos h,rfl⟩)
      · exact .inl (if_neg h)
    · by_cases h : b ∈ tabsOf K
      · have z' := (if_pos h).symm.trans z
        obtain rfl:=sI z';exact tOk b h _
      · have z' := (if_neg h).symm.trans z
        cases z'
  | none =>
    refine core (λb=>if b=a then some (.frz { cls:=.type "list",data:=.seq vs.toArray } (.lst (ns.map V.int))) else none) (λb=>if b=a then some (.frz { cls:=.type "list",data:=.seq vs.toArray } (.lst (ns.map V.int))) else if b∈tabsOf K then some (.tbl #[]) else none) (λb=>?_) (λb z=>?_) (λb h=>?_) (.inl (.inr ⟨{ cls:=.type "list",data:=.seq vs.toArray },if_pos rfl⟩)) (λb u z=>?_)
    · by_cases h0 : b = a
      · exact .inr (.inr ⟨h0,hk,by simp only [if_pos h0],_,_,if_pos h0⟩)
      · by_cases h : b ∈ tabsOf K
        · exact .inr (.inl ⟨h,by simp only [if_neg h0,if_pos h],if_neg h0⟩)
        · exact .inl (by simp only [if_neg h0,if_neg h])
    · by_cases h0 : b = a
      · simp only [if_pos h0] at z;cases z
      · exact if_neg h0
    · have h0 : b ≠ a := fun z => by subst z; exact na h
      simp only [if_neg h0,if_pos h]
    · by_cases h0 : b = a
      · have z' : some (HO.frz { cls := .type "list", data := .seq vs.toArray } (.lst (ns.map V.int))) = some u := by simpa only [if_pos h0] using z
        obtain rfl:=sI z';subst h0;exact⟨ha,by rw[Ac];exact hl,vs,_,rv,ha⟩
      · by_cases h : b ∈ tabsOf K
        · have z' : some (HO.tbl #[]) = some u := by simpa only [if_neg h0, if_pos h] using z
          obtain rfl:=sI z';exact tOk b h _
        · have z' : (none : Option HO) = some u := by simpa only [if_neg h0, if_neg h] using z
          cases z'
noncomputable def zui (K:PySem.W.Frag):Bool:=lams.all λx=>lams.all λx'=>match PySem.W.tabIn K x,PySem.W.tabIn K x' with
 |some p,some p'=>x == x' || !(p.2 == p'.2)
 |_,_=>true
theorem zvo {K:PySem.W.Frag}(h:zui K=true):z2u K:=λx hx x' hx' c c' P e e'=>by
 have:=Ay.mp (Ay.mp h x hx) x' hx';rw[e,e'] at this;simpa using this
theorem walk_ofT {l:PySem.W.OpenLaw}{n k:Nat}{q:Program}{loose:List Str}{XP:(Str->Option Value)->Heap->Prop}{YP:World->Heap->Prop}{d:DefRec}{K:Params->PySem.W.Frag}{CX:World->CXT}{sp:World->Sp}{x:Str}
  (hn:l.most=some n) (hn2:n<=sizeLine) (hdf:d.params.defaults=[]) (hr:Room k callerA)
  (hY:∀(w:World) (h:Heap),YP w h->(K w.params).In h)
  (nt:∀w:World,PySem.W.noTabs (K w.params)=true) (nd:∀w:World,zui (K w.params)=true) (hrec:∀(w:World),∀x∈lams,∀c P,PySem.W.tabIn (K w.params) x=some (c,P)->∃d,(recsOf q).find? (λe=>e.name == x)=some d)
  (F:∀(w:World) (mg:Str->Option Value) (fa:Addr) (h:Heap),(K w.params).In h->h.Ns mainGlobals mg->mg d.name=some (.ref fa) ->
   ∃fd:FuncData,(∀(s:Shared) (u:Value),BindsTo s fd ⟨[u],[]⟩ [(x,u)]) /\
    ∀base:Heap,(K w.params).In base->base.Ns mainGlobals mg->FnOk l.prog w (K w.params) mg base (CX w) k fa fd [x] (sp w))
  (hsp:∀(w:World) (F H:Hp) (a:Addr) (ns:List Int),ns.length<=n->Start (K w.params) F H->SqL (K w.params) F a (ns.map V.int)->sp w [.ref a] H (λv _=>v=.bl true) λ_ _ _=>False)
  (hCX:∀(w:World) (H:Hp) (s:Shared) (e:Value) (s' : Shared),CX w [] H s (λ_ _ _=>False) e s'->False) :
  PySem.W.WalkO q loose XP YP l.row.toRowW d [] (λf vs=>PySem.call f vs):=by
 refine Att.attach_call hn hdf λw s₀ s₁ mg mb fa o pm cd doc a vs ns G Y ho hd hcd hmg hobj hints hlen hg=>?_;have KX:=hY w _ Y;obtain⟨fd,hb,hF⟩:=F w mg fa _ KX G.T.g hmg;refine zu9 KX (nt w) (zvo (nd w)) (λx hx c Pt e=>?_) G.T.g G.T.b G.T.builtins G.T.nolimit G.T.bmain hg hobj hints (Bv hlen hn2) hr hF hb (λF H hO hS=>hsp w F H a ns hlen hO hS) λH e s'=>hCX w H s₁ e s';obtain⟨d,hd⟩:=hrec w x hx c Pt e;exact PySem.W.tab_of G.T KX hd e
theorem zs2 (i j:Int):oAdd (.int i) (.int j)=#v[(i+j),0]:=rfl
theorem zu4 {i j:Int}(h:cMul i j=true):oMult (.int i) (.int j)=#v[(i * j),0]:=by
 show (match (if cMul i j then #v[W.int (i * j),6] else none) with|some p=>some p|none=>_)=_;rw[if_pos h]
theorem oMult_l {i j:Int}(h1:-(2 ^ 64)<i)(h2:i<2 ^ 64):oMult (.int i) (.int j)=#v[(i * j),0]:=zu4 (by
 unfold cMul;rw[By,Ad];exact .inl ⟨Aj h1,Aj h2⟩)
theorem zlw {i j:Int}(h1:-(2 ^ 64)<j)(h2:j<2 ^ 64):oMult (.int i) (.int j)=#v[(i * j),0]:=zu4 (by
 unfold cMul;rw[By,Ad,Ad];exact .inr ⟨Aj h1,Aj h2⟩)
theorem zrl {i j:Int}(h1:Builtin.Int.intBits i<=2 ^ 20)(h2:Builtin.Int.intBits j<=2 ^ 20):oMult (.int i) (.int j)=#v[(i * j),0]:=by
 have h:zqt i j=true:=by
  unfold zqt;rw[Ad];exact⟨Aj h1,Aj h2⟩
 show (match (if cMul i j then #v[W.int (i * j),6] else none) with|some p=>some p|none=>(match (if zqt i j then #v[W.int (i * j),6] else none) with|some p=>some p|none=>_))=_;rw[if_pos h];split<;>simp_all
theorem zkh {xs:List W}{k:Int}(h:-(2 ^ 63)<=k/\k<2 ^ 63/\xs.length * k.toNat<=sizeLine):oMult (.lst xs) (.int k)=#v[(List.replicate k.toNat xs).flatten,2]:=by
 show (if -(2 ^ 63)<=k/\k<2 ^ 63/\xs.length * k.toNat<=sizeLine then some (W.lst (List.replicate k.toNat xs).flatten,true) else none)=_;rw[if_pos h]
theorem znn {xs ys:List W}(h:xs.length+ys.length<=sizeLine):oAdd (.lst xs) (.lst ys)=#v[(xs++ys),2]:=by
 show (match (if xs.length+ys.length<=sizeLine then #v[W.lst (xs++ys),5] else none) with|some p=>some p|none=>_)=_;rw[if_pos h]
theorem z4v {i j:Int}(h0:0<j)(h:j<2 ^ 200):cDiv i j=true:=by
 unfold cDiv;rw[Ad];refine⟨Aj h0,Aj ?_⟩;have hn:j.natAbs≠0:=by omega
 have h1:j.natAbs<2 ^ 200:=by
  have:((j.natAbs:Nat):Int)<((2 ^ 200:Nat):Int):=by
   rw[Int.natCast_pow];have e:((j.natAbs:Nat):Int)=j:=by omega
   rw[e];exact h
  exact Int.ofNat_lt.mp this
 exact Bd ((Nat.log2_lt hn).mpr h1) #v[0,9]
theorem ztw {i j:Int}(h0:0<j)(h:j<18446744073709551617):cDiv i j=true:=z4v h0 (Int.lt_of_lt_of_le h #v[0,9])
theorem zn9 {mp:List Nat}{T:Tg}{body:GS} (P:Nat->En->Prop):∀(ws:List W) (k:Nat) (en:En),P k en->(∀i w e,ws[i]?=some w->P (k+i) e->∃e1 e2,tgSet mp T w e=some e1/\(body e1=some (e2,.nx)\/body e1=some (e2,.cnt))/\P (k+i+1) e2) ->
    ∃en',zd8 mp T body ws en=some (en',.nx)/\P (k+ws.length) en'
  |[],k,en,h0,_=>⟨en,rfl,h0⟩
  | w::ws,k,en,h0,hs=>by
    refine aG fun _ qG=>?_;obtain ⟨e1,e2,h1,h2,h3⟩:=hs 0 w en rfl h0;refine qG ?_;clear qG;obtain ⟨en',h4,h5⟩:=zn9 P ws (k+1) e2 h3 fun i u e hu hp=>by
      have:=hs (i+1) u e (by simpa using hu) (by rw[show k+(i+1)=k+1+i by omega];exact hp);rw[show k+(i+1)+1=k+1+i+1 by omega] at this;exact this
    refine⟨en',?_,by rw[show k+(w::ws).length=k+1+ws.length by rw[Ba];omega];exact h5⟩;show (tgSet mp T w en).bind _=_;rw[h1];show (match body e1 with|some (e2,.nx)=>zd8 mp T body ws e2|some (e2,.cnt)=>zd8 mp T body ws e2|some (e2,.brk)=>some (e2,.nx)|some (e2,.ret r)=>some (e2,.ret r)|none=>none)=_;rcases h2 with h2|h2<;>(rw[h2];exact h4)
theorem zb3 {mp:List Nat}{T:Tg}{it:GL}{body:GS} (P:Nat->En->Prop) {en e0:En}{ws:List W} (hi:it en=some (e0,ws)) (h0:P 0 e0) (hs:∀i w e,ws[i]?=some w->P i e->∃e1 e2,tgSet mp T w e=some e1/\(body e1=some (e2,.nx)\/body e1=some (e2,.cnt))/\P (i+1) e2) :
  ∃en',gFor mp T it body en=some (en',.nx)/\P ws.length en':=by
 obtain⟨en',h1,h2⟩:=zn9 P ws 0 e0 h0 λi w e hw hp=>by
  rw[Cf] at hp ⊢;exact hs i w e hw hp
 refine⟨en',?_,by rw[Cf] at h2;exact h2⟩;unfold gFor;rw[hi];exact h1
theorem zjx {mp:List Nat}{T:Tg}{tc:GT}{te:GE} (P:Nat->En->List W->Prop):∀(ws:List W) (k:Nat) (ce:En) (dn:List W),P k ce dn ->
    (∀i w c dn,ws[i]?=some w->P (k+i) c dn->∃c1,tgSet mp T w c=some c1/\((∃c2 c3 r,tc c1=#v[c2,5]/\te c2=some (c3,r)/\P (k+i+1) c3 (dn++[r.1]))\/∃c2,tc c1=#v[c2,6]/\P (k+i+1) c2 dn)) ->
    ∃ce' rest,zf1 mp T tc te ws ce=some (ce',rest)/\P (k+ws.length) ce' (dn++rest)
  |[],k,ce,dn,h0,_=>⟨ce,[],rfl,by rw[Bx];exact h0⟩
  | w::ws,k,ce,dn,h0,hs=>by
    obtain ⟨c1,h1,h2⟩:=hs 0 w ce dn rfl h0;have next:∀c3 dn',P (k+1) c3 dn'->∃ce' rest,zf1 mp T tc te ws c3=some (ce',rest)/\P (k+1+ws.length) ce' (dn'++rest):=fun c3 dn' h=>zjx P ws (k+1) c3 dn' h fun i u c d hu hp=>by
      have:=hs (i+1) u c d (by simpa using hu) (by rw[show k+(i+1)=k+1+i by omega];exact hp);rw[show k+(i+1)+1=k+1+i+1 by omega] at this;exact this
    have el:k+(w::ws).length=k+1+ws.length:=by rw[Ba];omega
    rcases h2 with⟨c2,c3,r,h3,h4,h5⟩|⟨c2,h3,h5⟩
    · obtain ⟨ce', rest, h6, h7⟩ := next c3 _ h5
      refine⟨ce',r.1::rest,?_,by rw[el];rw[Az] at h7;exact h7⟩;show (tgSet mp T w ce).bind _=_;rw[h1];show (match tc c1 with|#v[c2,5]=>(te c2).bind λp=>(zf1 mp T tc te ws p.1).bind λq=>some (q.1,p.2.1::q.2)|#v[c2,6]=>zf1 mp T tc te ws c2|none=>none)=_;rw[h3];show (te c2).bind _=_;rw[h4];show (zf1 mp T tc te ws c3).bind _=_;rw[h6]
      rfl
    · obtain ⟨ce', rest, h6, h7⟩ := next c2 _ h5
      refine⟨ce',rest,?_,by rw[el];exact h7⟩;show (tgSet mp T w ce).bind _=_;rw[h1];show (match tc c1 with|#v[c2,5]=>(te c2).bind λp=>(zf1 mp T tc te ws p.1).bind λq=>some (q.1,p.2.1::q.2)|#v[c2,6]=>zf1 mp T tc te ws c2|none=>none)=_;rw[h3];exact h6
theorem zc3 {cap:Cap}{T:Tg}{it:GL}{tc:GT}{te:GE} (P:Nat->En->List W->Prop) {en e0:En}{ws:List W} (hi:it en=some (e0,ws)) (hn:zbz cap=true) (hz:ws.length<=sizeLine) (h0:P 0 (zew cap e0) [])
  (hs:∀i w c dn,ws[i]?=some w->P i c dn->∃c1,tgSet (capKeep cap) T w c=some c1/\((∃c2 c3 r,tc c1=#v[c2,5]/\te c2=some (c3,r)/\P (i+1) c3 (dn++[r.1]))\/∃c2,tc c1=#v[c2,6]/\P (i+1) c2 dn)) :
  ∃ce' out,zba cap T it tc te en=some (zaq cap e0 ce',(.lst out,true))/\P ws.length ce' out:=by
 obtain⟨ce',rest,h1,h2⟩:=zjx P ws 0 (zew cap e0) [] h0 λi w c dn hw hp=>by
  rw[Cf] at hp ⊢;exact hs i w c dn hw hp
 refine⟨ce',rest,?_,by rw[Cf] at h2;exact h2⟩;unfold zba;rw[hi];show (if zbz cap && decide (ws.length<=sizeLine) then _ else none)=_;rw[if_pos (by rw[hn,Aj hz];rfl),h1]
 rfl
theorem zd1 {lo:Int}{n i:Nat}{w:W} (h:(rngW lo n)[i]?=some w):i < n/\w=.int (lo+i):=by
  unfold rngW at h;rw[Ap] at h;cases q:(List.range n)[i]? with
  |none=>rw[q] at h;exact noSome h
  | some k =>
    rw[q] at h;obtain⟨hl,e⟩:=Ai.mp q;rw[Bh] at hl;rw[List.getElem_range] at e;subst e;exact⟨hl,(sI h).symm⟩
theorem zdx (lo:Int)(n:Nat):(rngW lo n).length=n:=by unfold rngW;rw[Ac,Bh]
theorem zce {xs:List W}{i:Nat}{x:W}(h:xs[i]?=some x):atI xs (i:Int)=some x:=z2p h
theorem zs5 {en:En}:zcq [] [] en=some []:=rfl
theorem ztb {m:List Bool}{ws:List W}{en:En}{x w:W}:zcq (true::m) (x::ws) (#v[w,5]::en)=(zcq m ws en).bind λr=>some (w::r):=rfl
theorem zuw {m:List Bool}{ws:List W}{en:En}{w:W}{o:Option (W × Bool)}:zcq (false::m) (w::ws) (o::en)=(zcq m ws en).bind λr=>some (w::r):=rfl
noncomputable def HS (k:Nat) (w:W):Prop:=∃a b c:Int,w=.lst [.int a,.int b,.int c]/\0<=a/\0<=b/\b<MM/\0<=c/\c<=k
theorem HS.mono {k k' : Nat}{w:W}(h:HS k w)(hk:k<=k'):HS k' w:=by
 obtain⟨a,b,c,e,h1,h2,h3,h4,h5⟩:=h;exact⟨a,b,c,e,h1,h2,h3,h4,by omega⟩
noncomputable def zkr (Φ:Fn):Prop:=∀(k:Nat) (st:W) (n:Int),HS k st->k<big->0<n->n<1073741824->∃st' r,Φ [st,.int n]=some ([st',.int n],(.int r,false))/\HS (k+1) st'/\0<=r/\r<n
noncomputable def zul (Ψ:Str->Fn):GS:=(gSeq (gIfS (zal (gOp2 (oI yes2 λi j=>.bl (decide (j<i))) (gArg (gOp2 oIx (zaa 0) #v[0])) #v[0])) (gSeq (gSet [0] 2 (gOp2 #v[0,0,2] (gArg (gOp2 oIx (zaa 0) #v[0])) (zaa 1))) (gSeq (zau 0 (gC (.int 0)) (gOp2 #v[0,0,3] (gArg (gOp2 oIx (zaa 0) #v[0])) (zaa 1))) (zdj [0] 2))) zd2) (gSeq (zau 0 (gC (.int 2)) (gOp2 oAdd (gArg (gOp2 oIx (zaa 0) #v[2])) #v[1])) (gSeq (gSet [0] 3 (gOp2 #v[0,0,2] (gArg (gOp2 oMult (gArg (gOp2 oAdd (gArg (gOp2 oAdd (gArg (gOp2 oIx (zaa 0) #v[1])) (gArg (gOp2 oMult (gArg (gOp2 oMult #v[65537] (gArg (gOp2 oIx (zaa 0) #v[2])))) (gArg (gOp2 oIx (zaa 0) #v[2])))))) #v[11])) #v[48271])) #v[2305843009213693921])) (gSeq (gSet [0] 3 (gOp2 #v[0,0,2] (gArg (gOp2 oMult (zaa 3) (gArg (gOp2 oAdd (gArg (gOp2 #v[0,0,2] (zaa 3) #v[1000003])) (gArg (gOp2 oMult #v[99991] (gArg (gOp2 oIx (zaa 0) #v[2])))))))) #v[2305843009213693907])) (gRet (gOp2 #v[0,0,2] (gArg (gOp2 oAdd (gArg (gOp2 #v[0,0,3] (zaa 3) #v[97])) (gArg (gOp2 #v[0,0,3] (zaa 3) #v[1000033])))) (zaa 1)))))))
theorem zz7 (Ψ:Str->Fn):zkr (zah [true,false] 4 (zul Ψ)):=by
 rintro k st n ⟨a,b,c,rfl,h0,h1,h2,h3,h4⟩ hk n0 n1;have hb:(k:Int)<1099511627776:=by have:k<1099511627776:=hk;omega
 by_cases c1:0<a
 ·refine⟨.lst [.int (a / n),.int b,.int c],a % n, ?_,⟨_,_,_,rfl,Int.ediv_nonneg h0 #v[],h1,h2,h3,by omega⟩,Go _ #v[],Fs _ n0⟩;have hd:cDiv a n=true:=ztw n0 #v[];simp [zah,zul,za0,gSeq,gIfS,zal,gOp2,gArg,zaa,gC,resA,oI,yes2,oIx,seqW,atI,ixN,gSet,zau,zdj,zs5,ztb,zuw,c1,n0,hd]
 ·have e1 : oMult (.int 65537) (.int (c + 1)) = some (.int (65537 * (c + 1)),false):=oMult_l #v[0,9] #v[0,9];have e2:oMult (.int (65537 * (c+1))) (.int (c+1))=#v[(65537 * (c+1) * (c+1)),0]:=zlw #v[] #v[];have e3:oMult (.int (b+65537 * (c+1) * (c+1)+11)) (.int 48271)=#v[((b+65537 * (c+1) * (c+1)+11) * 48271),0]:=zlw #v[0,9] #v[0,9];generalize hx:(b+65537 * (c+1) * (c+1)+11) * 48271=x0 at e3;have e4:oMult (.int 99991) (.int (c+1))=#v[(99991 * (c+1)),0]:=oMult_l #v[0,9] #v[0,9];have x1:0<=x0 % 2305843009213693921:=Go _ #v[0,9];have x2:x0 % 2305843009213693921<2305843009213693921:=Fs _ #v[0,9];have e5:oMult (.int (x0 % 2305843009213693921)) (.int (x0 % 2305843009213693921 % 1000003+99991 * (c+1)))=#v[(x0 % 2305843009213693921 * (x0 % 2305843009213693921 % 1000003+99991 * (c+1))),0]:=oMult_l #v[] #v[];have d1:∀i,cDiv i 97=true:=λi=>ztw #v[0,9] #v[0,9];have d2:∀i,cDiv i 1000033=true:=λi=>ztw #v[0,9] #v[0,9];refine⟨.lst [.int a,.int b,.int (c+1)],(x0 % 2305843009213693921 * (x0 % 2305843009213693921 % 1000003+99991 * (c+1)) % 2305843009213693907 / 97+x0 % 2305843009213693921 * (x0 % 2305843009213693921 % 1000003+99991 * (c+1)) % 2305843009213693907 / 1000033) % n,?_,⟨_,_,_,rfl,h0,h1,h2,by omega,by omega⟩,Go _ #v[],Fs _ n0⟩
  ·simp [zah,zul,za0,gSeq,gIfS,zal,gOp2,gArg,zaa,gC,resA,oI,yes2,oIx,seqW,atI,ixN,gSet,zau,gRet,zd2,zs5,ztb,zuw,c1,n0,zs2,e1,e2,e3,e4,e5,d1,d2]
theorem seq_nx {a b:GS}{en e1:En}(h:a en=some (e1,.nx)):gSeq a b en=b e1:=by unfold gSeq;rw[h]
theorem z3e {a b:GS}{en e1:En}{r:W × Bool}(h:a en=some (e1,.ret r)):gSeq a b en=some (e1,.ret r):=by unfold gSeq;rw[h]
theorem zd3 {mp:List Nat}{i:Nat}{g:GE}{en e1:En}{r:W × Bool}(h:g en=some (e1,r))(hi:(mp.contains i || !decide (i<e1.length))=false):gSet mp i g en=some (e1.set i (some r),.nx):=by
 unfold gSet;rw[h];show (if (mp.contains i || !decide (i<e1.length))=true then _ else _)=_;rw[hi]
 rfl
theorem z4b {c:GT}{a b:GS}{en e1:En}(h:c en=#v[e1,5]):gIfS c a b en=a e1:=by unfold gIfS;rw[h]
theorem z54 {c:GT}{a b:GS}{en e1:En}(h:c en=#v[e1,6]):gIfS c a b en=b e1:=by unfold gIfS;rw[h]
theorem z0u {g:GE}{en e1:En}{b f:Bool}(h:g en=some (e1,(.bl b,f))):zal g en=some (e1,b):=by unfold zal;rw[h]
theorem z33 {g:GE}{en e1:En}{r:W × Bool}(h:g en=some (e1,r)):gRet g en=some (e1,.ret r):=by unfold gRet;rw[h];rfl
theorem z0c {g:GE}{en e1:En}{r:W × Bool}(h:g en=some (e1,r)):zem g en=some (e1,.nx):=by unfold zem;rw[h];rfl
theorem zcs {g:GE}{en e1:En}{r:W × Bool}(h:g en=some (e1,r)):gArg g en=some (e1,.inl r.1):=by unfold gArg;rw[h];rfl
theorem z6p {a:GA}{as:GAs}{en e1 e2:En}{x:W ⊕ Nat}{xs:List (W ⊕ Nat)}(h:a en=some (e1,x))(h2:as e1=some (e2,xs)):gCns a as en=some (e2,x::xs):=by
 unfold gCns;rw[h];show (as e1).bind _=_;rw[h2]
 rfl
theorem zb7 {o:O2}{a b:GA}{en e1 e2:En}{x y:W ⊕ Nat}{w u:W}{r:W × Bool}(h1:a en=some (e1,x))(h2:b e1=some (e2,y))(h3:resA e2 x=some w)(h4:resA e2 y=some u)(h5:o w u=some r):gOp2 o a b en=some (e2,r):=by
 unfold gOp2;rw[h1];show (b e1).bind _=_;rw[h2];show (resA e2 x).bind _=_;rw[h3];show (resA e2 y).bind _=_;rw[h4];show (o w u).bind _=_;rw[h5]
 rfl
theorem z3h {o:ON}{as:GAs}{en e1:En}{xs:List (W ⊕ Nat)}{ws:List W}{r:W × Bool}(h1:as en=some (e1,xs))(h2:za6 e1 xs=some ws)(h3:o ws=some r):gOpN o as en=some (e1,r):=by
 unfold gOpN;rw[h1];show (za6 e1 xs).bind _=_;rw[h2];show (o ws).bind _=_;rw[h3]
 rfl
theorem zet {m:List Bool}{n:Nat}{g:GS}{ws ws' : List W}{en:En}{r:W × Bool}(hl:ws.length=m.length)(h:g (za0 m ws++List.replicate (n - m.length) none)=some (en,.ret r))(ho:zcq m ws en=some ws'):zah m n g ws=some (ws',r):=by
 unfold zah;rw[if_pos hl,h];show (zcq m ws en).bind _=_;rw[ho]
 rfl
theorem zcp:∀(ws:List W) (i:Nat),zan (za3 (ws.map Sum.inl)) i=none
  |[],i=>rfl
  | w::ws,i=>by
    have:=zcp ws i;unfold zan za3 at this ⊢;rw[Ah,Ah,List.findIdx?_cons,this]
    rfl
theorem zf4 (ws:List W):zbz (za3 (ws.map Sum.inl))=true:=by
  unfold zbz;refine Ay.mpr λj _=>?_;have:∀i,(za3 (ws.map Sum.inl))[j]?≠some (some i):=λi=>zc5 (zcp ws i) j;cases q:(za3 (ws.map Sum.inl))[j]? with
  |none=>rfl
  | some o =>
    cases o with
    |none=>rfl
    |some i=>exact absurd q (this i)
theorem zla {cap:Cap}{en ce:En}(h:∀i,zan cap i=none):zaq cap en ce=en:=by
 unfold zaq;apply Dk;intro i;rw[Gh];cases en[i]? with
 |none=>rfl
 |some x=>simp only [Gk,h i]
theorem zb0 (en:En):∀ws:List W,za6 en (ws.map Sum.inl)=some ws
 |[]=>rfl
 |w::ws=>by show (some w).bind _=_;show (za6 en (ws.map Sum.inl)).bind _=_;rw[zb0 en ws];rfl
theorem zeq (en:En)(ws:List W):zar en (ws.map Sum.inl)=true:=by
 unfold zar;refine Ay.mpr λx hx=>?_;obtain⟨w,_,rfl⟩:=Bf.mp hx
 rfl
theorem zse {m:List Bool}{Φ:Fn}{as:GAs}{en e1:En}{ws ws' : List W}{r:W × Bool}(h:as en=some (e1,ws.map Sum.inl))(hm:(ws.map λ_=>false)=m)(hΦ:Φ ws=some (ws',r))(hl:ws'.length=ws.length):zad m Φ as en=some (e1,r):=by
 unfold zad;rw[h];show (if (decide ((ws.map Sum.inl).map isR=m) && zar e1 (ws.map Sum.inl) && zbz (za3 (ws.map Sum.inl)))=true then _ else _)=_;have e:(ws.map Sum.inl).map isR=m:=by rw[<-hm,Be];rfl
 rw[Aj e,zeq,zf4];show (za6 e1 (ws.map Sum.inl)).bind _=_;rw[zb0];show (Φ ws).bind _=_;rw[hΦ];show (if ws'.length=m.length then _ else _)=_;rw[if_pos (by rw[hl,<-hm,Ac]),zla (zcp ws)]
theorem zpf {m:List Bool}{Φ:Fn}{as:GAs}{en e1:En}{i:Nat}{ws wz:List W}{st st' : W}{r:W × Bool} (h:as en=some (e1,.inr i::ws.map Sum.inl)) (hm:(true::ws.map fun _=>false)=m) (hi:e1[i]?=some (some (st,true))) (hΦ:Φ (st::ws)=some (st' :: wz,r)) (hl:wz.length=ws.length):zad m Φ as en=some (e1.set i (some (st',true)),r):=by
  have cp:∀j,zan (za3 (.inr i::ws.map Sum.inl)) j=if j=i then some 0 else none:=fun j=>by
    have:=zcp ws j;unfold zan za3 at this ⊢;rw[Ah,List.findIdx?_cons];by_cases e:j=i
    · subst e;simp
    · have : (some i == some j) = false := by simp; exact fun z => e z.symm
      simp only [this];rw[if_neg e]
      simp_all
  have nd:zbz (za3 (.inr i::ws.map Sum.inl))=true:=by
    unfold zbz;refine Ay.mpr λj _=>?_;cases j with
    | zero =>
      show (match (za3 (.inr i::ws.map Sum.inl))[0]? with|some (some k)=>zan (za3 (.inr i::ws.map Sum.inl)) k == some 0|_=>true)=true;show (zan (za3 (.inr i::ws.map Sum.inl)) i == some 0)=true;rw[cp i,if_pos rfl]
      rfl
    | succ j =>
      have:∀k,(za3 (ws.map Sum.inl))[j]?≠some (some k):=λk=>zc5 (zcp ws k) j;have e:(za3 (.inr i::ws.map Sum.inl))[j+1]?=(za3 (ws.map Sum.inl))[j]?:=rfl;rw[e];cases q:(za3 (ws.map Sum.inl))[j]? with
      |none=>rfl
      | some o =>
        cases o with
        |none=>rfl
        |some k=>exact absurd q (this k)
  unfold zad;rw[h];show (if (decide ((.inr i::ws.map Sum.inl).map isR=m) && zar e1 (.inr i::ws.map Sum.inl) && zbz (za3 (.inr i::ws.map Sum.inl)))=true then _ else _)=_;have e:(Sum.inr i::ws.map Sum.inl).map isR=m:=by rw[<-hm,Ah,Be];rfl
  have ow:zar e1 (.inr i::ws.map Sum.inl)=true:=by
    have:=zeq e1 ws;unfold zar at this ⊢;rw[Bk,this];simp only [hi,Hm]
  rw [Aj e,ow,nd];have rs:za6 e1 (.inr i::ws.map Sum.inl)=some (st::ws):=by
    show (resA e1 (.inr i)).bind _=_;have:resA e1 (.inr i)=some st:=by unfold resA;simp only [hi]
    rw[this];show (za6 e1 (ws.map Sum.inl)).bind _=_;rw[zb0]
    rfl
  show (za6 e1 (.inr i::ws.map Sum.inl)).bind _=_;rw[rs];show (Φ (st::ws)).bind _=_;rw[hΦ];show (if (st' :: wz).length=m.length then _ else _)=_;rw[if_pos (by rw[<-hm,Ba,Ba,Ac,hl])];refine congrArg some (congrArg (·,r) ?_);unfold zaq;apply Dk;intro j;rw[Gh];have hi' : i<e1.length:=(Ai.mp hi).1;by_cases ej:j=i
  · subst ej
    rw[Dn hi',hi];simp only [Gk,cp j,if_pos];rw[<-hm]
    rfl
  · rw [Df (Ne.symm ej)]
    cases e1[j]? with
    |none=>rfl
    |some x=>simp only [Gk,cp j,if_neg ej]
theorem zge {m:List Bool}{Φ:Fn}{as:GAs}{en:En}{i:Nat}{ws wz:List W}{st st' : W}{r:W × Bool}(h:as en=some (en,.inr i::ws.map Sum.inl))(hm:(true::ws.map λ_=>false)=m)(hi:en[i]?=some (#v[st,5]))(hΦ:Φ (st::ws)=some (st' :: wz,r))(hl:wz.length=ws.length):zad m Φ as en=some (en.set i (#v[st',5]),r):=zpf h hm hi hΦ hl
theorem zor {a w:W}{ws:List W}{i:Int}(h:seqW a=some ws)(h2:atI ws i=some w):oIx a (.int i)=#v[w,6]:=by
 unfold oIx;cases a<;>simp_all
theorem oI_t {c:Int->Int->Bool}{g:Int->Int->W}{i j:Int}(h:c i j=true):oI c g (.int i) (.int j)=#v[g i j,6]:=by
 show (if c i j then #v[g i j,6] else none)=_;rw[if_pos h]
theorem set_0 {mp:List Nat}{i:Nat}{g:GE}{en:En}{r:W × Bool}(h:g en=some (en,r))(hi:(mp.contains i || !decide (i<en.length))=false):gSet mp i g en=some (en.set i (some r),.nx):=zd3 h hi
theorem arg_0 {g:GE}{en:En}{r:W × Bool}(h:g en=some (en,r)):gArg g en=some (en,.inl r.1):=zcs h
theorem op2_0 {o:O2}{a b:GA}{en:En}{x y:W ⊕ Nat}{w u:W}{r:W × Bool}(h1:a en=some (en,x))(h2:b en=some (en,y))(h3:resA en x=some w)(h4:resA en y=some u)(h5:o w u=some r):gOp2 o a b en=some (en,r):=zb7 h1 h2 h3 h4 h5
theorem zq6 {i:Nat}{k g:GE}{en:En}{w:W}{ws:List W}{n:Int}{j:Nat}{f f2:Bool}(h:g en=some (en,(w,f)))(hk:k en=some (en,(.int n,f2)))(hi:en[i]?=some (#v[ws,2]))(hj:ixN ws.length n=some j):zau i k g en=some (en.set i (#v[(ws.set j w),2]),.nx):=by
 unfold zau;simp only [h,Ci,hi,hk,hj]
theorem z3a {i:Nat}{g:GE}{en e1:En}{us ws:List W}{r:W × Bool}(h0:en[i]?=some (#v[us,2]))(h:g en=some (e1,r))(h1:e1[i]?=some (#v[ws,2]))(hz:ws.length<sizeLine):gApp i g en=some (e1.set i (#v[(ws++[r.1]),2]),(.non,false)):=by
 unfold gApp;simp only [h0,h,Ci,h1];rw[if_pos hz]
noncomputable def z3i (Ψ:Str->Fn):GS:=(gSeq (gSet [0] 2 (zad [true,false] (Ψ "_law_take") (gCns (zaa 0) (gCns #v[4] gA0)))) (gSeq (gIfS (zal (gOp2 oEq (zaa 2) #v[3])) (gRet (gOp2 oMult (gArg (zap (gCns (gArg (zad [true,false] (Ψ "_law_take") (gCns (zaa 0) (gCns #v[2] gA0)))) gA0))) (zaa 1))) zd2) (gSeq (gSet [0] 3 (zap gA0)) (gSeq (gFor [0] (.nm 4) (zb4 (gCns (zaa 1) gA0)) (gSeq (gSet [0] 5 (zad [true,false] (Ψ "_law_take") (gCns (zaa 0) (gCns (gArg (gOp2 oIx (gArg (zap (gCns #v[2] (gCns #v[5] (gCns #v[5] gA0))))) (zaa 2))) gA0)))) (zem (gApp 3 (gOp2 oIx (gArg (zap (gCns #v[5,4] (gCns (gArg (gOpN oInt (gCns (gArg (gOp2 oEq (zaa 5) #v[0])) gA0))) (gCns (gArg (gOpN oInt (gCns (gArg (gOp2 (oI yes2 λi j=>.bl (decide (j<i))) (zaa 5) #v[0])) gA0))) gA0))))) (zaa 2)))))) (zdj [0] 3)))))
noncomputable def zob (Φ:Fn):Prop:=∀(k:Nat) (st:W) (n:Int),HS k st->k+100<big->0<=n->n<=64->∃st' xs,Φ [st,.int n]=some ([st',.int n],(.lst (xs.map W.int),true))/\HS (k+66) st'/\(xs.length:Int)=n/\Bits xs
theorem three {r:Int}(h0:0<=r)(h:r<4)(h3:r≠3):r=0\/r=1\/r=2:=by omega
theorem zn2 {α:Type}(x:α):∀n:Nat,(List.replicate n [x]).flatten=List.replicate n x
 |0=>rfl
 |n+1=>by rw[Bi,Cy,zn2 x n];rfl
theorem z17 {Ψ:Str->Fn}(hT:zkr (Ψ "_law_take")):zob (zah [true,false] 6 (z3i Ψ)):=by
 intro k st n hs hk n0 n1;have hz:(64:Nat)<=sizeLine:=by decide
 nofun;obtain⟨st1,way,e1,h1,h2,h3⟩:=hT k st 4 hs #v[] #v[0,9] #v[0,9];ac_rfl;have c1:zad [true,false] (Ψ "_law_take") (gCns (zaa 0) (gCns #v[4] gA0)) [#v[st,5],#v[n,0],none,none,none,none]=some ([#v[st1,5],#v[n,0],none,none,none,none],(.int way,false)):=zge (i:=0) (ws:=[.int 4]) (wz:=[.int 4]) rfl rfl rfl e1 rfl;have s1:=zd3 (mp:=[0]) (i:=2) c1 rfl;by_cases c3:way=3
 ·subst c3;refine aG fun _ qG=>?_;obtain ⟨st2,b,e2,g1,g2,g3⟩:=hT (k+1) st1 2 h1 (by omega) (by decide) (by decide);refine qG ?_;clear qG;have c2:zad [true,false] (Ψ "_law_take") (gCns (zaa 0) (gCns (gArg (gC (.int 2))) gA0)) [some (st1,true),some (.int n,false),some (.int 3,false),none,none,none]=some ([some (st2,true),some (.int n,false),some (.int 3,false),none,none,none],(.int b,false)):=zge (i:=0) (ws:=[.int 2]) (wz:=[.int 2]) rfl rfl rfl e2 rfl;have l2:zap (gCns (gArg (zad [true,false] (Ψ "_law_take") (gCns (zaa 0) (gCns (gArg (gC (.int 2))) gA0)))) gA0) [some (st1,true),some (.int n,false),some (.int 3,false),none,none,none]=some ([some (st2,true),some (.int n,false),some (.int 3,false),none,none,none],(.lst [.int b],true)):=by
   unfold zap;rw[z6p (zcs c2) (show gA0 _=_ from rfl)]
   rfl
  have om:oMult (.lst [.int b]) (.int n)=#v[(List.replicate n.toNat (.int b)),2]:=by
   rw[zkh (by refine⟨by omega,by omega,?_⟩;show 1 * n.toNat<=sizeLine;omega),zn2]
  refine⟨st2,List.replicate n.toNat b,?_,g1.mono #v[],by rw[Du];omega,λx hx=>by rw[List.eq_of_mem_replicate hx];omega⟩;refine zet (en:=[#v[st2,5],#v[n,0],#v[3,0],none,none,none]) rfl ?_ rfl;refine (seq_nx s1).trans (z3e ?_);refine (z4b (e1:=[#v[st1,5],#v[n,0],#v[3,0],none,none,none]) rfl).trans (z33 (zb7 (zcs l2) rfl rfl rfl ?_));rw[List.map_replicate];exact om
 ·have hw := three h2 h3 c3;have turn:∀(i:Nat) (st:W) (xs:List Int) (v5:Option (W × Bool)),HS (k+1+i) st->i < 64->xs.length=i->∃st' x one,HS (k+1+i+1) st'/\(x=0\/x=1) /\
    (gSeq (gSet [0] 5 (zad [true,false] (Ψ "_law_take") (gCns (zaa 0) (gCns (gArg (gOp2 oIx (gArg (zap (gCns #v[2] (gCns #v[5] (gCns #v[5] gA0))))) (zaa 2))) gA0)))) (zem (gApp 3 (gOp2 oIx (gArg (zap (gCns #v[5,4] (gCns (gArg (gOpN oInt (gCns (gArg (gOp2 oEq (zaa 5) #v[0])) gA0))) (gCns (gArg (gOpN oInt (gCns (gArg (gOp2 (oI yes2 λi j=>.bl (decide (j<i))) (zaa 5) #v[0])) gA0))) gA0))))) (zaa 2))))) [#v[st,5],#v[n,0],#v[way,0],#v[(xs.map W.int),2],#v[(0+(i:Nat)),0],v5] =
     some ([#v[st',5],#v[n,0],#v[way,0],#v[((xs++[x]).map W.int),2],#v[(0+(i:Nat)),0],#v[one,0]],.nx):=by
   intro i st xs v5 hst hi hl;have zz:(xs.map W.int).length<sizeLine:=by rw[Ac,hl];omega
   have fin:∀(q:Int) (x:Int->Int),(∀one,0<=one->one < q->x one=0\/x one=1)->0 < q->q < 1073741824 ->
     (gCns (zaa 0) (gCns (gArg (gOp2 oIx (gArg (zap (gCns #v[2] (gCns #v[5] (gCns #v[5] gA0))))) (zaa 2))) gA0)) [#v[st,5],#v[n,0],#v[way,0],#v[(xs.map W.int),2],#v[(0+(i:Nat)),0],v5]=some ([#v[st,5],#v[n,0],#v[way,0],#v[(xs.map W.int),2],#v[(0+(i:Nat)),0],v5],[.inr 0,.inl (.int q)]) ->
     (∀(st' : W) (one:Int),(gOp2 oIx (gArg (zap (gCns #v[5,4] (gCns (gArg (gOpN oInt (gCns (gArg (gOp2 oEq (zaa 5) #v[0])) gA0))) (gCns (gArg (gOpN oInt (gCns (gArg (gOp2 (oI yes2 λi j=>.bl (decide (j<i))) (zaa 5) #v[0])) gA0))) gA0))))) (zaa 2)) [#v[st',5],#v[n,0],#v[way,0],#v[(xs.map W.int),2],#v[(0+(i:Nat)),0],#v[one,0]]=some ([#v[st',5],#v[n,0],#v[way,0],#v[(xs.map W.int),2],#v[(0+(i:Nat)),0],#v[one,0]],(.int (x one),false))) ->
     ∃st' x one,HS (k+1+i+1) st'/\(x=0\/x=1)/\(gSeq (gSet [0] 5 (zad [true,false] (Ψ "_law_take") (gCns (zaa 0) (gCns (gArg (gOp2 oIx (gArg (zap (gCns #v[2] (gCns #v[5] (gCns #v[5] gA0))))) (zaa 2))) gA0)))) (zem (gApp 3 (gOp2 oIx (gArg (zap (gCns #v[5,4] (gCns (gArg (gOpN oInt (gCns (gArg (gOp2 oEq (zaa 5) #v[0])) gA0))) (gCns (gArg (gOpN oInt (gCns (gArg (gOp2 (oI yes2 λi j=>.bl (decide (j<i))) (zaa 5) #v[0])) gA0))) gA0))))) (zaa 2))))) [#v[st,5],#v[n,0],#v[way,0],#v[(xs.map W.int),2],#v[(0+(i:Nat)),0],v5] =
      some ([#v[st',5],#v[n,0],#v[way,0],#v[((xs++[x]).map W.int),2],#v[(0+(i:Nat)),0],#v[one,0]],.nx):=by
    intro q x hx q0 q1 ha hv;nofun;obtain⟨st',one,e2,g1,g2,g3⟩:=hT (k+1+i) st q hst #v[] q0 q1;ac_rfl;have cc:=zge (m:=[true,false]) (ws:=[.int q]) (wz:=[.int q]) ha rfl rfl e2 rfl;refine⟨st',x one,one,g1,hx one g2 g3,?_⟩;refine (seq_nx (zd3 (mp:=[0]) (i:=5) cc rfl)).trans (z0c (r:=(.non,false)) ?_);rw[Bn];exact z3a (i:=3) rfl (hv st' one) rfl zz
   rcases hw with rfl|rfl|rfl
   ·exact fin 2 (λone=>one) (λone a b=>by omega) #v[0,9] #v[0,9] rfl λst' one=>rfl
   ·refine fin 5 (λone=>if decide (one = 0) then 1 else 0) (λone a b => ?_) #v[0,9] #v[0,9] rfl λst' one=>rfl;by_cases z:one=0<;>simp [z]
   ·refine fin 5 (λone=>if decide (0<one) then 1 else 0) (λone a b => ?_) #v[0,9] #v[0,9] rfl λst' one=>rfl;by_cases z:0<one<;>simp [z]
  obtain⟨en',hf,hp⟩:=zb3 (mp:=[0]) (T:=.nm 4) (it:=zb4 (gCns (zaa 1) gA0)) (body:=(gSeq (gSet [0] 5 (zad [true,false] (Ψ "_law_take") (gCns (zaa 0) (gCns (gArg (gOp2 oIx (gArg (zap (gCns #v[2] (gCns #v[5] (gCns #v[5] gA0))))) (zaa 2))) gA0)))) (zem (gApp 3 (gOp2 oIx (gArg (zap (gCns #v[5,4] (gCns (gArg (gOpN oInt (gCns (gArg (gOp2 oEq (zaa 5) #v[0])) gA0))) (gCns (gArg (gOpN oInt (gCns (gArg (gOp2 (oI yes2 λi j=>.bl (decide (j<i))) (zaa 5) #v[0])) gA0))) gA0))))) (zaa 2))))))
   (λi e=>∃st xs v4 v5,e=[#v[st,5],#v[n,0],#v[way,0],#v[(xs.map W.int),2],v4,v5]/\HS (k+1+i) st/\xs.length=i/\Bits xs)
   (en:=[#v[st1,5],#v[n,0],#v[way,0],#v[[],2],none,none]) (e0:=[#v[st1,5],#v[n,0],#v[way,0],#v[[],2],none,none]) (ws:=rngW 0 n.toNat)
   (by
    have hr:zey n=true:=by unfold zey;rw[Aj #v[],Aj #v[]];rfl
    show (if zey n then some (_,rngW 0 n.toNat) else none)=_;rw[hr];rfl)
   ⟨st1,[],none,none,rfl,h1,rfl,λx hx=>by cases hx⟩
   (by
    rintro i w e hw' ⟨st,xs,v4,v5,rfl,hst,hl,hb⟩;nofun;obtain⟨hi,rfl⟩:=zd1 hw';obtain⟨st',x,one,g1,g2,g3⟩:=turn i st xs v5 hst #v[] hl;ac_rfl;refine⟨_,_,rfl,.inl g3,st',xs++[x],_,_,rfl,g1,by rw[Bb,hl];rfl,λy hy=>?_⟩;rcases Bo.mp hy with hy|hy
    ·exact hb y hy
    ·rw[Aq] at hy;subst hy;exact g2)
  nofun;obtain⟨st2,xs,v4,v5,rfl,g1,g2,g3⟩:=hp;ac_rfl;rw[zdx] at g1 g2;refine⟨st2,xs,?_,g1.mono #v[],by omega,g3⟩;refine zet (en:=[#v[st2,5],#v[n,0],#v[way,0],none,v4,v5]) rfl ?_ rfl;refine (seq_nx s1).trans ((seq_nx (e1:=[#v[st1,5],#v[n,0],#v[way,0],none,none,none]) ?_).trans ((seq_nx (e1:=[#v[st1,5],#v[n,0],#v[way,0],#v[[],2],none,none]) rfl).trans ((seq_nx hf).trans rfl)));rcases hw with rfl|rfl|rfl<;>rfl
noncomputable def z3z (Ψ:Str->Fn):GS:=(gSeq (gSet [] 1 (zap (gCns #v[0] (gCns #v[0] (gCns #v[0] gA0))))) (gSeq (gIfS (zhk (zal (gOp2 (oI yes2 λi j=>.bl (decide (j<i))) (gArg (gOpN oLen (gCns (zaa 0) gA0))) #v[0])) (zal (gOp2 (oI yes2 λi j=>.bl (decide (j<=i))) (gArg (gOp2 oIx (zaa 0) #v[0])) (gArg (gOp2 (oI cPow λi j=>.int (i ^ j.toNat)) #v[10] #v[18]))))) (gSeq (gSet [] 2 (gC (.int 1))) (gFor [] (.nm 3) (zbd (gSl (zaa 0) zcm (zgu (gC (.int 63))))) (gSeq (zau 1 (gC (.int 0)) (gOp2 oAdd (gArg (gOp2 oIx (zaa 1) #v[0])) (gArg (gOp2 oMult (gArg (gOp2 #v[0,0,2] (gArg (gOpN oAbs (gCns (zaa 3) gA0))) (gArg (gOp2 (oI cPow λi j=>.int (i ^ j.toNat)) #v[10] #v[60])))) (zaa 2))))) (gSet [] 2 (gOp2 oMult (zaa 2) (gArg (gOp2 (oI cPow λi j=>.int (i ^ j.toNat)) #v[10] #v[60]))))))) zd2) (gSeq (gFor [] (.tp [4,3]) (zlt (gSl (zaa 0) zcm (zgu (gC (.int 63))))) (gSeq (gSet [] 5 (gOp2 oAdd (gArg (gOp2 oAdd (gArg (gOp2 #v[0,0,2] (zaa 3) #v[2305843009213693951])) (gArg (gOp2 oMult #v[7919] (zaa 4))))) #v[3])) (zau 1 (gC (.int 1)) (gOp2 #v[0,0,2] (gArg (gOp2 oAdd (gArg (gOp2 oMult (gArg (gOp2 oIx (zaa 1) #v[1])) #v[48271])) (zaa 5))) #v[2305843009213693951])))) (zdj [] 1))))
noncomputable def zy9 (Φ:Fn):Prop:=∀ns:List Int,ns.length<=63->∃st,Φ [.frl (ns.map W.int)]=some ([.frl (ns.map W.int)],(st,true))/\HS 0 st
theorem z6u {ns:List Int}(h:ns.length<=63):cutW (ns.map W.int) none (some 63)=ns.map W.int:=by
 unfold cutW;have e1:HT.sIx (ns.map W.int).length 0 none=0:=rfl;have e2:HT.sIx (ns.map W.int).length (ns.map W.int).length (some 63)=(ns.map W.int).length:=by
  have:=HT.sIx_nat (ns.map W.int).length (ns.map W.int).length 63;rw[show ((63:Nat):Int)=63 from rfl] at this;rw[this,Ac];omega
 rw[e1,e2,Ey,Nat.sub_zero,Co]
theorem zvk {ns:List Int}{i:Nat}{w:W}(h:(zgm (ns.map W.int) 0)[i]?=some w):∃hi:i<ns.length,w=.tup [.int i,.int ns[i]]:=by
 have hi:i<ns.length:=by have:=(Ai.mp h).1;rw[zb2,Ac] at this;exact this
 have:=enumW_get (ws:=ns.map W.int) (k:=0) (i:=i) (w:=.int ns[i]) (by rw[Ap,Ae hi];rfl);rw[h,Cf] at this;exact⟨hi,sI this⟩
theorem z2z (Ψ:Str->Fn):zy9 (zah [false] 6 (z3z Ψ)):=by
  intro ns hl;have p18:cPow 10 18=true:=by decide
  have p60:cPow 10 60=true:=by decide
  have first:∃a0 v2 v3,0<=a0/\gIfS (zhk (zal (gOp2 (oI yes2 fun i j=>.bl (decide (j < i))) (gArg (gOpN oLen (gCns (zaa 0) gA0))) (gArg (gC (.int 0))))) (zal (gOp2 (oI yes2 fun i j=>.bl (decide (j<=i))) (gArg (gOp2 oIx (zaa 0) (gArg (gC (.int 0))))) (gArg (gOp2 (oI cPow fun i j=>.int (i ^ j.toNat)) (gArg (gC (.int 10))) (gArg (gC (.int 18)))))))) (gSeq (gSet [] 2 (gC (.int 1))) (gFor [] (.nm 3) (zbd (gSl (zaa 0) zcm (zgu (gC (.int 63))))) (gSeq (zau 1 (gC (.int 0)) (gOp2 oAdd (gArg (gOp2 oIx (zaa 1) (gArg (gC (.int 0))))) (gArg (gOp2 oMult (gArg (gOp2 (oI (fun _ j=>decide (0 < j)) fun i j=>.int (i % j)) (gArg (gOpN oAbs (gCns (zaa 3) gA0))) (gArg (gOp2 (oI cPow fun i j=>.int (i ^ j.toNat)) (gArg (gC (.int 10))) (gArg (gC (.int 60))))))) (zaa 2))))) (gSet [] 2 (gOp2 oMult (zaa 2) (gArg (gOp2 (oI cPow fun i j=>.int (i ^ j.toNat)) (gArg (gC (.int 10))) (gArg (gC (.int 60)))))))))) zd2
      [some (.frl (ns.map W.int),false),#v[[.int 0,.int 0,.int 0],2],none,none,none,none]=some ([some (.frl (ns.map W.int),false),#v[[.int a0,.int 0,.int 0],2],v2,v3,none,none],.nx):=by
    have ln:(zal (gOp2 (oI yes2 λi j=>.bl (decide (j<i))) (gArg (gOpN oLen (gCns (zaa 0) gA0))) #v[0])) [some (.frl (ns.map W.int),false),#v[[.int 0,.int 0,.int 0],2],none,none,none,none]=some ([some (.frl (ns.map W.int),false),#v[[.int 0,.int 0,.int 0],2],none,none,none,none],decide ((0:Int)<((ns.map W.int).length:Nat))):=rfl;cases ns with
    |nil=>exact⟨0,none,none,by decide,(z54 (by unfold zhk;rw[ln];rfl)).trans rfl⟩
    | cons n0 nr =>
      have t2:(zal (gOp2 (oI yes2 fun i j=>.bl (decide (j<=i))) (gArg (gOp2 oIx (zaa 0) (gArg (gC (.int 0))))) (gArg (gOp2 (oI cPow fun i j=>.int (i ^ j.toNat)) (gArg (gC (.int 10))) (gArg (gC (.int 18))))))) [some (.frl ((n0::nr).map W.int),false),some (.lst [.int 0,.int 0,.int 0],true),none,none,none,none]=some ([some (.frl ((n0::nr).map W.int),false),some (.lst [.int 0,.int 0,.int 0],true),none,none,none,none],decide (10 ^ 18<=n0)) :=
        z0u (zb7 (zcs (zb7 rfl rfl rfl rfl (zor rfl (zce (i:=0) rfl)))) (zcs (zb7 (x:=.inl (.int 10)) rfl rfl rfl rfl (oI_t p18))) rfl rfl rfl)
      have ln' : decide ((0:Int)<(((n0::nr).map W.int).length:Nat))=true:=Aj (by simp);rw[ln'] at ln;by_cases c:(10:Int) ^ 18<=n0
      · rw [Aj c] at t2
        obtain ⟨en',hf,hp⟩:=zb3 (mp:=[]) (T:=.nm 3) (it:=zbd (gSl (zaa 0) zcm (zgu (gC (.int 63))))) (body:=(gSeq (zau 1 (gC (.int 0)) (gOp2 oAdd (gArg (gOp2 oIx (zaa 1) (gArg (gC (.int 0))))) (gArg (gOp2 oMult (gArg (gOp2 (oI (fun _ j=>decide (0 < j)) fun i j=>.int (i % j)) (gArg (gOpN oAbs (gCns (zaa 3) gA0))) (gArg (gOp2 (oI cPow fun i j=>.int (i ^ j.toNat)) (gArg (gC (.int 10))) (gArg (gC (.int 60))))))) (zaa 2))))) (gSet [] 2 (gOp2 oMult (zaa 2) (gArg (gOp2 (oI cPow fun i j=>.int (i ^ j.toNat)) (gArg (gC (.int 10))) (gArg (gC (.int 60)))))))))
          (λi e=>∃a0 wt v3,e=[some (.frl ((n0::nr).map W.int),false),#v[[.int a0,.int 0,.int 0],2],#v[wt,0],v3,none,none]/\0<=a0/\0<wt/\wt<=2 ^ (200 * i))
          (en:=[some (.frl ((n0::nr).map W.int),false),#v[[.int 0,.int 0,.int 0],2],#v[1,0],none,none,none]) (e0:=[some (.frl ((n0::nr).map W.int),false),#v[[.int 0,.int 0,.int 0],2],#v[1,0],none,none,none]) (ws:=(n0::nr).map W.int)
          (by
            show some (_,cutW ((n0::nr).map W.int) none (some 63))=_;rw[z6u hl])
          ⟨0,1,none,rfl,by decide,by decide,by decide⟩
          (by
            rintro i w e hw ⟨a0,wt,v3,rfl,q0,q1,q2⟩;rw [Ap] at hw;have hi:i < (n0::nr).length:=by
              rcases Nat.lt_or_ge i (n0::nr).length with z|z
              · exact z
              · rw[Ck z] at hw;exact noSome hw
            rw[Ae hi] at hw;have ew:w=.int (n0::nr)[i]:=(sI hw).symm;subst ew;generalize (n0::nr)[i]=n;have y0:0<=(if n<0 then -n else n) % (10:Int) ^ 60:=Go _ #v[0,9];have y1:(if n<0 then -n else n) % (10:Int) ^ 60<10 ^ 60:=Fs _ #v[0,9];have hb:i<=63:=by omega
            have b1:Builtin.Int.intBits ((if n<0 then -n else n) % (10:Int) ^ 60)<=2 ^ 20:=zh6 (i:=1) y0 (Int.le_trans (Int.le_of_lt y1) #v[0,9]) #v[0,9];have b2:Builtin.Int.intBits wt<=2 ^ 20:=zh6 #v[] q2 hb;have m1:=zrl b1 b2;have m2:=zrl b2 (zh6 (w:=10 ^ 60) (i:=1) #v[0,9] #v[0,9] #v[0,9]);obtain⟨r1,r2⟩:=zyi q1 q2;refine⟨_,[some (.frl ((n0::nr).map W.int),false),#v[[.int (a0+(if n<0 then -n else n) % (10:Int) ^ 60 * wt),.int 0,.int 0],2],#v[(wt * 10 ^ 60),0],#v[n,0],none,none],rfl,.inl ?_,_,_,_,rfl,?_,r1,r2⟩
            · refine (seq_nx (e1 := [some (.frl ((n0 :: nr).map W.int), false), some (.lst [.int (a0 + (if n < 0 then -n else n) % (10 : Int) ^ 60 * wt), .int 0, .int 0], true), some (.int wt, false), some (.int n, false), none, none]) ?_).trans (set_0 (op2_0 rfl (arg_0 (op2_0 (x := .inl (.int 10)) rfl rfl rfl rfl (oI_t p60))) rfl rfl m2) rfl)
              have ge:gOp2 oAdd (gArg (gOp2 oIx (zaa 1) (gArg (gC (.int 0))))) (gArg (gOp2 oMult (gArg (gOp2 (oI (fun _ j=>decide (0 < j)) fun i j=>.int (i % j)) (gArg (gOpN oAbs (gCns (zaa 3) gA0))) (gArg (gOp2 (oI cPow fun i j=>.int (i ^ j.toNat)) (gArg (gC (.int 10))) (gArg (gC (.int 60))))))) (zaa 2))) [some (.frl ((n0::nr).map W.int),false),some (.lst [.int a0,.int 0,.int 0],true),some (.int wt,false),some (.int n,false),none,none]=some ([some (.frl ((n0::nr).map W.int),false),some (.lst [.int a0,.int 0,.int 0],true),some (.int wt,false),some (.int n,false),none,none],(.int (a0+(if n < 0 then -n else n) % (10:Int) ^ 60 * wt),false)) :=
                zb7 (zcs (zb7 rfl rfl rfl rfl (zor rfl (zce (i:=0) rfl)))) (zcs (zb7 (zcs (zb7 (zcs (z3h rfl rfl rfl)) (zcs (zb7 (x:=.inl (.int 10)) rfl rfl rfl rfl (oI_t p60))) rfl rfl (oI_t #v[0,9]))) rfl rfl rfl m1)) rfl rfl rfl
              exact zq6 (n:=0) (j:=0) (ws:=[.int a0,.int 0,.int 0]) ge rfl rfl rfl
            · have := Int.mul_nonneg y0 (Int.le_of_lt q1)
              omega)
        nofun;obtain⟨a0,wt,v3,rfl,q0,_⟩:=hp;ac_rfl;exact⟨a0,_,_,q0,(z4b (by unfold zhk;rw[ln];exact t2)).trans ((seq_nx (e1:=[some (.frl ((n0::nr).map W.int),false),#v[[.int 0,.int 0,.int 0],2],#v[1,0],none,none,none]) rfl).trans hf)⟩
      · rw [Bg c] at t2
        exact⟨0,none,none,by decide,(z54 (by unfold zhk;rw[ln];exact t2)).trans rfl⟩
  nofun;obtain⟨a0,v2,v3,q0,hfirst⟩:=first
  refine qG ?_;clear qG;obtain ⟨en',hf,hp⟩:=zb3 (mp:=[]) (T:=.tp [4,3]) (it:=zlt (gSl (zaa 0) zcm (zgu (gC (.int 63))))) (body:=(gSeq (gSet [] 5 (gOp2 oAdd (gArg (gOp2 oAdd (gArg (gOp2 (oI (fun _ j=>decide (0 < j)) fun i j=>.int (i % j)) (zaa 3) (gArg (gC (.int 2305843009213693951))))) (gArg (gOp2 oMult (gArg (gC (.int 7919))) (zaa 4))))) (gArg (gC (.int 3))))) (zau 1 (gC (.int 1)) (gOp2 (oI (fun _ j=>decide (0 < j)) fun i j=>.int (i % j)) (gArg (gOp2 oAdd (gArg (gOp2 oMult (gArg (gOp2 oIx (zaa 1) (gArg (gC (.int 1))))) (gArg (gC (.int 48271))))) (zaa 5))) (gArg (gC (.int 2305843009213693951)))))))
    (λi e=>∃b v3 v4 v5,e=[some (.frl (ns.map W.int),false),#v[[.int a0,.int b,.int 0],2],v2,v3,v4,v5]/\0<=b/\b<MM)
    (en:=[some (.frl (ns.map W.int),false),#v[[.int a0,.int 0,.int 0],2],v2,v3,none,none]) (e0:=[some (.frl (ns.map W.int),false),#v[[.int a0,.int 0,.int 0],2],v2,v3,none,none]) (ws:=zgm (ns.map W.int) 0)
    (by
      show some (_,zgm (cutW (ns.map W.int) none (some 63)) 0)=_;rw[z6u hl])
    ⟨0,v3,none,none,rfl,by decide,by decide⟩
    (by
      rintro i w e hw ⟨b,v3,v4,v5,rfl,q1,q2⟩;obtain ⟨hi,rfl⟩:=zvk hw;generalize ns[i]=n;have hm:MM=2305843009213693951:=rfl;have m1:oMult (.int 7919) (.int (i:Nat))=some (.int (7919 * (i:Nat)),false):=oMult_l (by decide) (by decide);have m2:oMult (.int b) (.int 48271)=some (.int (b * 48271),false):=zlw (by decide) (by decide);refine ⟨_,[some (.frl (ns.map W.int),false),some (.lst [.int a0,.int ((b * 48271+(n % 2305843009213693951+7919 * (i:Nat)+3)) % 2305843009213693951),.int 0],true),v2,some (.int n,false),some (.int (i:Nat),false),some (.int (n % 2305843009213693951+7919 * (i:Nat)+3),false)],rfl,.inl ?_,_,_,_,_,rfl,Go _ (by decide),Fs _ (by decide)⟩;refine (seq_nx (e1:=[some (.frl (ns.map W.int),false),some (.lst [.int a0,.int b,.int 0],true),v2,some (.int n,false),some (.int (i:Nat),false),some (.int (n % 2305843009213693951+7919 * (i:Nat)+3),false)]) (set_0 (op2_0 (arg_0 (op2_0 (arg_0 (op2_0 rfl rfl rfl rfl (oI_t (by decide)))) (arg_0 (op2_0 (x:=.inl (.int 7919)) rfl rfl rfl rfl m1)) rfl rfl rfl)) rfl rfl rfl rfl) rfl)).trans ?_;have ge:gOp2 (oI (fun _ j=>decide (0 < j)) fun i j=>.int (i % j)) (gArg (gOp2 oAdd (gArg (gOp2 oMult (gArg (gOp2 oIx (zaa 1) (gArg (gC (.int 1))))) (gArg (gC (.int 48271))))) (zaa 5))) (gArg (gC (.int 2305843009213693951))) [some (.frl (ns.map W.int),false),some (.lst [.int a0,.int b,.int 0],true),v2,some (.int n,false),some (.int (i:Nat),false),some (.int (n % 2305843009213693951+7919 * (i:Nat)+3),false)]=some ([some (.frl (ns.map W.int),false),some (.lst [.int a0,.int b,.int 0],true),v2,some (.int n,false),some (.int (i:Nat),false),some (.int (n % 2305843009213693951+7919 * (i:Nat)+3),false)],(.int ((b * 48271+(n % 2305843009213693951+7919 * (i:Nat)+3)) % 2305843009213693951),false)) :=
        zb7 (zcs (zb7 (zcs (zb7 (zcs (zb7 rfl rfl rfl rfl (zor rfl (zce (i:=1) rfl)))) rfl rfl rfl m2)) rfl rfl rfl rfl)) rfl rfl rfl (oI_t #v[0,9])
      exact zq6 (n:=1) (j:=1) (ws:=[.int a0,.int b,.int 0]) ge rfl rfl rfl)
  nofun;obtain⟨b,w3,w4,w5,rfl,q1,q2⟩:=hp;ac_rfl;refine⟨.lst [.int a0,.int b,.int 0],zet (en:=[some (.frl (ns.map W.int),false),none,v2,w3,w4,w5]) rfl ?_ rfl,⟨_,_,_,rfl,q0,q1,q2,by decide,by decide⟩⟩;exact (seq_nx (e1:=[some (.frl (ns.map W.int),false),#v[[.int 0,.int 0,.int 0],2],none,none,none,none]) rfl).trans ((seq_nx hfirst).trans ((seq_nx hf).trans rfl))
noncomputable def Bit (x:Int):Prop:=x=0\/x=1
theorem zoh:∀{xs ys:List Int}{i:Nat}{w:W},(zipW (xs.map W.int) (ys.map W.int))[i]?=some w->∃a b,w=.tup [.int a,.int b]/\xs[i]?=some a/\ys[i]?=some b
  |[],_,_,_,e=>by simp [zipW] at e
  |_::_,[],_,_,e=>by simp [zipW] at e
  |a::xs,b::ys,0,w,e=>⟨a,b,(sI e).symm,rfl,rfl⟩
  | a::xs,b::ys,i+1,w,e=>by
    obtain⟨a',b',h1,h2,h3⟩:=zoh (xs:=xs) (ys:=ys) (i:=i) e;exact⟨a',b',h1,h2,h3⟩
theorem cap3 (i:Nat):zan [none,none,none] i=none:=rfl
theorem zo0 {it:GL}{te:GE}{en e0:En}{xs ys:List Int}{f:Int->Int->Int} (hi:it en=some (e0,zipW (xs.map W.int) (ys.map W.int))) (hz:xs.length<=1000)
  (ht:∀v0 a b,a∈xs->b∈ys->te [v0,#v[a,0],#v[b,0]]=some ([v0,#v[a,0],#v[b,0]],(.int (f a b),false))) :
  zba [none,none,none] (.tp [1,2]) it gYes te en=some (e0,(.lst ((List.zipWith f xs ys).map W.int),true)):=by
 have s9:(1000:Nat)<=sizeLine:=by decide
 have lz:(zipW (xs.map W.int) (ys.map W.int)).length=(List.zipWith f xs ys).length:=by rw[zd0,Ac,Ac,Gs]
 obtain⟨ce',out,hc,hp⟩:=zc3 (cap:=[none,none,none]) (T:=.tp [1,2]) (tc:=gYes) (te:=te) (λi c dn=>(∃v0 v1 v2,c=[v0,v1,v2])/\dn=((List.zipWith f xs ys).take i).map W.int) hi rfl (by rw[lz,Gs];omega) ⟨⟨_,_,_,rfl⟩,rfl⟩
  (by
   rintro i w c dn hw ⟨⟨v0,v1,v2,rfl⟩,rfl⟩;obtain⟨a,b,rfl,h1,h2⟩:=zoh hw;refine⟨[v0,#v[a,0],#v[b,0]],rfl,.inl ⟨_,_,(.int (f a b),false),rfl,ht v0 a b (Bt h1) (Bt h2),⟨_,_,_,rfl⟩,?_⟩⟩;rw[Dq,List.getElem?_zipWith,h1,h2,Bn]
   rfl)
 obtain⟨_,rfl⟩:=hp;rw[zla cap3,lz,Co] at hc;exact hc
theorem z2b {as:GAs}{en e1:En}{xs:List (W ⊕ Nat)}{j:Int}(h:as en=some (e1,xs))(h2:za6 e1 xs=some [.int j])(h3:zey j=true):zb4 as en=some (e1,rngW 0 j.toNat):=by
 unfold zb4;rw[h];show (match za6 e1 xs with|some [.int j]=>if zey j then some (e1,rngW 0 j.toNat) else none|_=>none)=_;rw[h2];show (if zey j then some (e1,rngW 0 j.toNat) else none)=_;rw[if_pos h3]
theorem zsq (zs:List Int):oSum [.lst (zs.map W.int)]=#v[zs.sum,0]:=by
 show (zb1 (zs.map W.int)).bind _=_;rw[zfc]
 rfl
noncomputable def tab (n:Nat) (f:Nat->Int):List Int:=(List.range n).map f
theorem tab_len (n:Nat)(f:Nat->Int):(tab n f).length=n:=by unfold tab;rw[Ac,Bh]
theorem tab_get {n:Nat}{f:Nat->Int}{i:Nat}(h:i<n):(tab n f)[i]?=some (f i):=by unfold tab;rw[Ap,Gu h];rfl
theorem z0b {n:Nat}{f g:Nat->Int}(h:∀i,i<n->f i=g i):tab n f=tab n g:=by
 unfold tab;refine Cz λi hi=>h i (Bz.mp hi)
theorem zxm {n:Nat}{f:Nat->Int}(h:∀i,i<n->Bit (f i)):Bits (tab n f):=λx hx=>by
 obtain⟨i,hi,rfl⟩:=Bf.mp hx;exact h i (Bz.mp hi)
theorem zn6 (n:Nat)(f:Nat->Int):tab (n+1) f=tab n f++[f n]:=by unfold tab;rw[List.range_succ,Bn];rfl
noncomputable def zvl (M:List Nat):List W:=M.map λp:Nat=>W.int p
theorem zw4 (M:List Nat):zvl M=(M.map λp:Nat=>(p:Int)).map W.int:=by unfold zvl;rw[Be];rfl
theorem zex:∀ws:List W,zbl (ws.map Sum.inl)=some ws
 |[]=>rfl
 |w::ws=>by show (zbl (ws.map Sum.inl)).bind _=_;rw[zex ws];rfl
theorem zgv:∀{xs:List (W ⊕ Nat)}{ws:List W},zbl xs=some ws->xs=ws.map Sum.inl
  |[],_,e=>by obtain rfl:=sI e;rfl
  | .inl w::xs,_,e=>by
    obtain⟨ws,h,e⟩:=bS (show (zbl xs).bind _=_ from e);obtain rfl:=sI e;rw[zgv h];rfl
  |.inr _::_,_,e=>by exact noSome e
theorem zkq {xs:List (W ⊕ Nat)} (m:List Bool) (hm:(m.all fun b=>!b)=true) (h:xs.map isR=m):∃ws:List W,xs=ws.map Sum.inl:=by
  induction xs generalizing m with
  |nil=>exact⟨[],rfl⟩
  | cons x xs ih =>
    cases m with
    |nil=>cases h
    | cons b m =>
      rw[Ah] at h;injection h with h1 h2;rw[Bk,Ad] at hm;obtain⟨ws,e⟩:=ih m hm.2 h2;cases x with
      |inl w=>exact⟨w::ws,by rw[e];rfl⟩
      |inr i=>rw[<-h1] at hm;cases hm.1
theorem zg2:∀{m:List Bool} (hm:(m.all fun b=>!b)=true) (ws:List W),ws.length=m.length->(ws.map fun _=>false)=m
  |[],_,[],_=>rfl
  |[],_,_::_,h=>by cases h
  |_::_,_,[],h=>by cases h
  | b::m,hm,w::ws,h=>by
    rw[Bk,Ad] at hm;rw[Ah,zg2 hm.2 ws (by simpa using h)];cases b with
    |false=>rfl
    |true=>cases hm.1
theorem zcz (m:List Bool) (Φ:Fn) (as:GAs) (en:En) (hm:(m.all fun b=>!b)=true):zad m Φ as en=(as en).bind fun p=>(zbl p.2).bind fun ws=>if ws.length=m.length then (Φ ws).bind fun q=>if q.1.length=m.length then some (p.1,q.2) else none else none:=by
  cases ha:as en with
  |none=>unfold zad;rw[ha];rfl
  | some p =>
    obtain⟨e1,xs⟩:=p;show _=(zbl xs).bind _;cases hf:zbl xs with
    | none =>
      unfold zad;rw[ha];show (if (decide (xs.map isR=m) && _ && _)=true then _ else none)=none;rw[Bg (λz=>by obtain⟨ws,e⟩:=zkq m hm z;rw[e,zex] at hf;cases hf)]
      rfl
    | some ws =>
      have ex:=zgv hf;subst ex;show _=if ws.length=m.length then _ else none;by_cases hl:ws.length=m.length
      · rw [if_pos hl]
        have h1:=zg2 hm ws hl;cases hq:Φ ws with
        | none =>
          unfold zad;rw[ha];show (if (decide ((ws.map Sum.inl).map isR=m) && zar e1 (ws.map Sum.inl) && zbz (za3 (ws.map Sum.inl)))=true then _ else _)=_;have e:(ws.map Sum.inl).map isR=m:=by rw[<-h1,Be];rfl
          rw[Aj e,zeq,zf4];show (za6 e1 (ws.map Sum.inl)).bind _=_;rw[zb0];show (Φ ws).bind _=_;rw[hq]
          rfl
        | some q =>
          obtain⟨ws',r⟩:=q;show _=if ws'.length=m.length then some (e1,r) else none;by_cases hl2:ws'.length=m.length
          · rw [if_pos hl2]
            exact zse ha h1 hq #v[]
          · rw [if_neg hl2]
            unfold zad;rw[ha];show (if (decide ((ws.map Sum.inl).map isR=m) && zar e1 (ws.map Sum.inl) && zbz (za3 (ws.map Sum.inl)))=true then _ else _)=_;have e:(ws.map Sum.inl).map isR=m:=by rw[<-h1,Be];rfl
            rw[Aj e,zeq,zf4];show (za6 e1 (ws.map Sum.inl)).bind _=_;rw[zb0];show (Φ ws).bind _=_;rw[hq];show (if ws'.length=m.length then _ else none)=none;rw[if_neg hl2]
      · rw [if_neg hl]
        unfold zad;rw[ha];show (if (decide ((ws.map Sum.inl).map isR=m) && _ && _)=true then _ else none)=none;rw[Bg (λz=>hl (by rw[<-z,Ac,Ac]))]
        rfl
theorem zdr (m:List Bool) (Φ:Fn) (as:GAs) (en:En) (hm:(m.all fun b=>!b)=true):zad (true::m) Φ as en=(as en).bind fun p=>match p.2 with
    | .inr i::xs=>(zbl xs).bind fun ws=>(match p.1[i]? with
      | some (some (st,true))=>if ws.length=m.length then (Φ (st::ws)).bind fun q=>(match q.1 with
        |st' :: wz=>if wz.length=m.length then some (p.1.set i (#v[st',5]),q.2) else none
        |[]=>none) else none
      |_=>none)
    |_=>none:=by
  cases ha:as en with
  |none=>unfold zad;rw[ha];rfl
  | some p =>
    obtain ⟨e1,xs⟩:=p;have base:zad (true::m) Φ as en=if decide (xs.map isR=true::m) && zar e1 xs && zbz (za3 xs) then (za6 e1 xs).bind fun ws=>(Φ ws).bind fun q=>if q.1.length=(true::m).length then some (zaq (za3 xs) e1 (za0 (true::m) q.1),q.2) else none else none:=by
      unfold zad;rw[ha];rfl
    have bad:xs.map isR≠true::m->zad (true::m) Φ as en=none:=λz=>by rw[base,Bg z];rfl
    have bad2:zar e1 xs=false->zad (true::m) Φ as en=none:=λz=>by rw[base,z,Hd];rfl
    simp only [Ci]
    match xs,ha,base,bad,bad2 with
    |[],ha,_,bad,_=>rw[bad (by simp)]
    |.inl w::xs,ha,_,bad,_=>rw[bad (by simp [isR])]
    | .inr i::xs,ha,base,bad,bad2 =>
      simp only;cases hf:zbl xs with
      | none=>rw [bad (fun z=>by
          rw[Ah] at z;injection z with _ z;obtain⟨ws,e⟩:=zkq m hm z;rw[e,zex] at hf;cases hf)];rfl
      | some ws =>
        have ex:=zgv hf;subst ex;simp only [Ci];have no:(∀st,e1[i]?≠some (some (st,true)))->zar e1 (.inr i::ws.map Sum.inl)=false:=fun z=>by
          unfold zar;rw [Bk];have:(match e1[i]? with | some (some (_,true))=>true | _=>false)=false:=by
            split
            · rename_i q;exact absurd q (z _)
            · rfl
          simp only [this,Fa]
        split
        · rename_i st hst
          by_cases hl:ws.length=m.length
          · rw [if_pos hl]
            have h1:=zg2 hm ws hl;cases hq:Φ (st::ws) with
            | none =>
              rw[base];split
              · have rs:za6 e1 (.inr i::ws.map Sum.inl)=some (st::ws):=by
                  show (resA e1 (.inr i)).bind _=_;have:resA e1 (.inr i)=some st:=by unfold resA;simp only [hst]
                  rw[this];show (za6 e1 (ws.map Sum.inl)).bind _=_;rw[zb0]
                  rfl
                rw[rs];show (Φ (st::ws)).bind _=_;rw[hq]
                rfl
              · rfl
            | some q =>
              obtain ⟨ws',r⟩:=q;simp only [Ci];have nn:ws'.length≠(true::m).length->zad (true::m) Φ as en=none:=fun z=>by
                rw[base];split
                · have rs:za6 e1 (.inr i::ws.map Sum.inl)=some (st::ws):=by
                    show (resA e1 (.inr i)).bind _=_;have:resA e1 (.inr i)=some st:=by unfold resA;simp only [hst]
                    rw[this];show (za6 e1 (ws.map Sum.inl)).bind _=_;rw[zb0]
                    rfl
                  rw[rs];show (Φ (st::ws)).bind _=_;rw[hq];show (if ws'.length=(true::m).length then _ else none)=none;rw[if_neg z]
                · rfl
              match ws',hq,nn with
              |[],hq,nn=>rw[nn (by simp)]
              | st' :: wz,hq,nn =>
                simp only;by_cases hl2:wz.length=m.length
                · rw [if_pos hl2]
                  exact zpf ha (by rw[h1]) hst hq #v[]
                · rw[if_neg hl2,nn (by simpa using hl2)]
          · rw [if_neg hl,bad (fun z=>hl (by
              have:=congrArg List.length z;simpa using this))]
        · rename_i hst
          exact bad2 (no λst z=>hst st z)
theorem oI_e {c:Int->Int->Bool}{g:Int->Int->W}{i j:Int}:oI c g (.int i) (.int j)=if c i j then #v[g i j,6] else none:=rfl
theorem z5r {i j:Int}:yes2 i j=true:=rfl
theorem zx0 {ws:List W}:seqW (.tup ws)=some ws:=rfl
theorem zwp {ws:List W}:seqW (.lst ws)=some ws:=rfl
theorem zvp {ws:List W}:seqL (.lst ws)=some ws:=rfl
theorem z7w {a:W}{i:Int}:oIx a (.int i)=(seqW a).bind λws=>(atI ws i).bind λw=>#v[w,6]:=by cases a<;>rfl
theorem z3c {en:En}{w:W}:resA en (.inl w)=some w:=rfl
theorem z52 {en:En}{i:Nat}:resA en (.inr i)=match en[i]? with|some (some (w,_))=>some w|_=>none:=by
 unfold resA;rfl
theorem z8a {i j:Int}:oEq (.int i) (.int j)=some (.bl (decide (i=j)),false):=rfl
theorem z7o {i j:Int}:oNe (.int i) (.int j)=some (.bl (!decide (i=j)),false):=rfl
theorem zxy {w:W}{xs:List (W ⊕ Nat)}:zbl (.inl w::xs)=(zbl xs).bind λws=>some (w::ws):=rfl
theorem zyk:zbl []=some []:=rfl
theorem z0w {en:En}{x:W ⊕ Nat}{xs:List (W ⊕ Nat)}:za6 en (x::xs)=(resA en x).bind λw=>(za6 en xs).bind λws=>some (w::ws):=rfl
theorem z0o {en:En}:za6 en []=some []:=rfl
theorem z2f {b:Bool}{m:List Bool}{w:W}{ws:List W}:za0 (b::m) (w::ws)=some (w,b)::za0 m ws:=rfl
theorem z16 {ws:List W}:za0 [] ws=[]:=by unfold za0;simp
theorem z30 {en:En}:zcq [] [] en=some []:=rfl
theorem z25 {m:List Bool}{w u:W}{ws:List W}{en:En}:zcq (true::m) (u::ws) (#v[w,5]::en)=(zcq m ws en).bind λr=>some (w::r):=rfl
theorem z6d {m:List Bool}{w:W}{ws:List W}{x:Option (W × Bool)}{en:En}:zcq (false::m) (w::ws) (x::en)=(zcq m ws en).bind λr=>some (w::r):=rfl
theorem z67 {x:W}{xs:List W}:atI (x::xs) 0=some x:=by
 have:=zce (xs:=x::xs) (i:=0) rfl;exact this
theorem z7f {x y:W}{xs:List W}:atI (x::y::xs) 1=some y:=by
 have:=zce (xs:=x::y::xs) (i:=1) rfl;exact this
theorem z7d {x y z:W}{xs:List W}:atI (x::y::z::xs) 2=some z:=by
 have:=zce (xs:=x::y::z::xs) (i:=2) rfl;exact this
theorem zws {n:Nat}:((no_index (OfNat.ofNat n):Nat):Int)=(OfNat.ofNat n:Int):=rfl
theorem zxn {xs ys:List W}:oAdd (.lst xs) (.lst ys)=if xs.length+ys.length<=sizeLine then #v[(xs++ys),2] else none:=by
 by_cases h:xs.length+ys.length<=sizeLine
 ·rw[if_pos h];exact znn h
 ·rw [if_neg h];show oOr oCat (oOr zw2 (oOr z2l zw1)) (.lst xs) (.lst ys)=none;have e:oCat (.lst xs) (.lst ys)=none:=by
   show (if xs.length+ys.length<=sizeLine then _ else none)=none;rw[if_neg h]
  unfold oOr;rw[e]
  rfl
theorem zmq:oIsi .int .non=some (.bl false,false):=rfl
theorem zp2 {b:Bool}:oIsi .int (.bl b)=some (.bl true,false):=rfl
theorem znh {n:Int}:oIsi .int (.int n)=some (.bl true,false):=rfl
theorem zm9 {x:Str}:oIsi .int (.str x)=some (.bl false,false):=rfl
theorem zmo {xs:List W}:oIsi .int (.tup xs)=some (.bl false,false):=rfl
theorem zma {xs:List W}:oIsi .int (.lst xs)=some (.bl false,false):=rfl
theorem zmh:oIsi .int .dic=some (.bl false,false):=rfl
theorem zkb:oIsi .bool .non=some (.bl false,false):=rfl
theorem zmg {b:Bool}:oIsi .bool (.bl b)=some (.bl true,false):=rfl
theorem zks {n:Int}:oIsi .bool (.int n)=some (.bl false,false):=rfl
theorem zkw {x:Str}:oIsi .bool (.str x)=some (.bl false,false):=rfl
theorem zjn {xs:List W}:oIsi .bool (.tup xs)=some (.bl false,false):=rfl
theorem zkf {xs:List W}:oIsi .bool (.lst xs)=some (.bl false,false):=rfl
theorem zkt:oIsi .bool .dic=some (.bl false,false):=rfl
theorem zm6:oIsi .str .non=some (.bl false,false):=rfl
theorem zp0 {b:Bool}:oIsi .str (.bl b)=some (.bl false,false):=rfl
theorem zl1 {n:Int}:oIsi .str (.int n)=some (.bl false,false):=rfl
theorem zmr {x:Str}:oIsi .str (.str x)=some (.bl true,false):=rfl
theorem zmf {xs:List W}:oIsi .str (.tup xs)=some (.bl false,false):=rfl
theorem znx {xs:List W}:oIsi .str (.lst xs)=some (.bl false,false):=rfl
theorem zmp:oIsi .str .dic=some (.bl false,false):=rfl
theorem zib:oIsi .tuple .non=some (.bl false,false):=rfl
theorem zln {b:Bool}:oIsi .tuple (.bl b)=some (.bl false,false):=rfl
theorem zi1 {n:Int}:oIsi .tuple (.int n)=some (.bl false,false):=rfl
theorem zh5 {x:Str}:oIsi .tuple (.str x)=some (.bl false,false):=rfl
theorem zis {xs:List W}:oIsi .tuple (.tup xs)=some (.bl true,false):=rfl
theorem zio {xs:List W}:oIsi .tuple (.lst xs)=some (.bl false,false):=rfl
theorem zjh:oIsi .tuple .dic=some (.bl false,false):=rfl
theorem zj0:oIsi .list .non=some (.bl false,false):=rfl
theorem zl8 {b:Bool}:oIsi .list (.bl b)=some (.bl false,false):=rfl
theorem zk3 {n:Int}:oIsi .list (.int n)=some (.bl false,false):=rfl
theorem zki {x:Str}:oIsi .list (.str x)=some (.bl false,false):=rfl
theorem zlq {xs:List W}:oIsi .list (.tup xs)=some (.bl false,false):=rfl
theorem zk2 {xs:List W}:oIsi .list (.lst xs)=some (.bl true,false):=rfl
theorem zj8:oIsi .list .dic=some (.bl false,false):=rfl
theorem z7x {i j:Bool}:oEq (.bl i) (.bl j)=some (.bl (decide (i=j)),false):=rfl
theorem z65 {i j:Bool}:oNe (.bl i) (.bl j)=some (.bl (!decide (i=j)),false):=rfl
theorem z7p {i j:Str}:oEq (.str i) (.str j)=some (.bl (decide (i=j)),false):=rfl
theorem z62 {i j:Str}:oNe (.str i) (.str j)=some (.bl (!decide (i=j)),false):=rfl
theorem z7k {i j:Bool}:oIs (.bl i) (.bl j)=some (.bl (decide (i=j)),false):=rfl
theorem z3u {f:List Bool->Bool}{bs:List Bool}:oBl f [.lst (bs.map W.bl)]=some (.bl (f bs),false):=by
 show (zlu (bs.map W.bl)).bind _=_;rw[zjs];rfl
theorem z5p {cap:Cap}{it:GL}{te:GE}{en e0:En}{ws rs:List W}{xs:En} (hi:it en=some (e0,ws)) (hz:ws.length<=1000) (hl:rs.length=ws.length) (hn:zbz cap=true) (hk:(capKeep cap).contains 1=false) (hx:zew cap e0=none::none::xs) (hb:∀v0 v1,zaq cap e0 (v0::v1::xs)=e0)
  (ht:∀(i:Nat) v0 w r,ws[i]?=some w->rs[i]?=some r->∃u f,te (v0::#v[w,6]::xs)=some (v0::u::xs,(r,f))) :
  zba cap (.nm 1) it gYes te en=some (e0,(.lst rs,true)):=by
 have s9:(1000:Nat)<=sizeLine:=by decide
 obtain⟨ce',out,hc,hp⟩:=zc3 (cap:=cap) (T:=.nm 1) (tc:=gYes) (te:=te) (λi c dn=>(∃v0 v1,c=v0::v1::xs)/\dn=rs.take i) hi hn #v[] ⟨⟨_,_,hx⟩,rfl⟩
  (λi w c dn hw hp=>by
   obtain⟨⟨v0,v1,rfl⟩,rfl⟩:=hp;have lt:i<ws.length:=(Ai.mp hw).1;have hr:rs[i]?=some rs[i]:=Ae #v[];obtain⟨u,f,h⟩:=ht i v0 w _ hw hr;refine⟨v0::#v[w,6]::xs,?_,.inl ⟨_,_,_,rfl,h,⟨_,_,rfl⟩,?_⟩⟩
   ·show (if (capKeep cap).contains 1 || !decide (1<(v0 :: v1 :: xs).length) then none else _) = _;rw[hk,Aj (by rw[Ba,Ba];omega)]
    rfl
   ·show rs.take i ++ [rs[i]] = rs.take (i + 1);rw[Dq,hr];rfl)
 obtain⟨⟨v0,v1,rfl⟩,rfl⟩:=hp;rw[hb,<-hl,Co] at hc;exact hc
theorem zd4 {T:List Fd}{bn:List Str}{d:Nat}{x:Str}{t:Fd}{g:GS}(h:T.find? (·.nm == x)=some t)(hb:zbe T bn (sem T bn (d+2)) (d+2) t=some g):sem T bn (d+3) x=zah t.m t.N.length g:=by
 show (match T.find? (·.nm == x) with|some t=>fnAt T bn (sem T bn (d+2)) (d+2) t|none=>λ_=>none)=_;rw[h];show fnAt T bn (sem T bn (d+2)) (d+2) t=_;unfold fnAt;rw[hb]
noncomputable def evA:=And.intro @oI_e ( And.intro @z5r ( And.intro @zs2 ( And.intro @zxn ( And.intro @zx0 ( And.intro @zwp ( And.intro @zvp ( And.intro @z7w ( And.intro @z3c ( And.intro @z52 ( And.intro @z8a ( And.intro @z7o ( And.intro @z7x ( And.intro @z65 ( And.intro @z7p ( And.intro @z62 ( And.intro @z7k ( And.intro @z3u ( And.intro @zxy ( And.intro @zyk ( And.intro @z0w ( And.intro @z0o ( And.intro @z2f ( And.intro @z16 ( And.intro @z30 ( And.intro @z25 ( And.intro @z6d ( And.intro (λΦ as en=>zcz [false] Φ as en rfl) ( And.intro (λΦ as en=>zcz [false,false] Φ as en rfl) ( And.intro (λΦ as en=>zcz [false,false,false] Φ as en rfl) ( And.intro (λΦ as en=>zcz [false,false,false,false] Φ as en rfl) ( And.intro (λΦ as en=>zdr [] Φ as en rfl) ( And.intro (λΦ as en=>zdr [false] Φ as en rfl) ( And.intro (λΦ as en=>zdr [false,false] Φ as en rfl) ( And.intro (λΦ as en=>zdr [false,false,false] Φ as en rfl) ( And.intro @z67 ( And.intro @z7f ( And.intro @z7d ( And.intro @Ff ( And.intro @zmq ( And.intro @zp2 ( And.intro @znh ( And.intro @zm9 ( And.intro @zmo ( And.intro @zma ( And.intro @zmh ( And.intro @zkb ( And.intro @zmg ( And.intro @zks ( And.intro @zkw ( And.intro @zjn ( And.intro @zkf ( And.intro @zkt ( And.intro @zm6 ( And.intro @zp0 ( And.intro @zl1 ( And.intro @zmr ( And.intro @zmf ( And.intro @znx ( And.intro @zmp ( And.intro @zib ( And.intro @zln ( And.intro @zi1 ( And.intro @zh5 ( And.intro @zis ( And.intro @zio ( And.intro @zjh ( And.intro @zj0 ( And.intro @zl8 ( And.intro @zk3 ( And.intro @zki ( And.intro @zlq ( And.intro @zk2 ( And.intro @zj8 ( And.intro @zws ( And.intro @Option.bind_some.{0,0} ( And.intro @Option.bind_none.{0,0} ( And.intro @List.length_cons.{0} ( And.intro @List.length_nil.{0} ( And.intro @List.getElem?_cons_zero.{0} ( And.intro @List.getElem?_cons_succ.{0} ( And.intro @List.set_cons_zero.{0} ( And.intro @List.set_cons_succ.{0} ( And.intro @List.nil_append.{0} ( And.intro @List.cons_append.{0} ( And.intro @List.contains_nil.{0} ( And.intro @Bool.false_or ( And.intro @Bool.or_false ( And.intro @Bool.not_true ( And.intro @Bool.not_false ( And.intro @Cf ( And.intro @Nat.lt_add_one ( And.intro @Nat.zero_lt_succ ( And.intro @decide_true ( And.intro @decide_false ( And.intro @Dg ( And.intro @List.elem_nil.{0} ( And.intro @List.elem_cons.{0} ( And.intro @Cn ( And.intro @Bool.true_eq_false ( And.intro @Bool.or_self ( And.intro @Bool.and_self ( And.intro @Bool.true_and ( And.intro @Fa ( And.intro @Hm ( And.intro @Hd ( And.intro @Bool.true_or ( And.intro @Bool.or_true ( And.intro @Cs ( And.intro @gVar.eq_1 ( And.intro @zaa.eq_1 ( And.intro @gC.eq_1 ( And.intro @gArg.eq_1 ( And.intro @gA0.eq_1 ( And.intro @gCns.eq_1 ( And.intro @gOp1.eq_1 ( And.intro @gOp2.eq_1 ( And.intro @gOpN.eq_1 ( And.intro @zal.eq_1 ( And.intro @gAnd.eq_1 ( And.intro @gOr.eq_1 ( And.intro @gNot.eq_1 ( And.intro @zhk.eq_1 ( And.intro @gOrT.eq_1 ( And.intro @z79.eq_1 ( And.intro @gIf.eq_1 ( And.intro @zec.eq_1 ( And.intro @zap.eq_1 ( And.intro @z34.eq_1 ( And.intro @zcm.eq_1 ( And.intro @zgu.eq_1 ( And.intro @gSl.eq_1 ( And.intro @zbd.eq_1 ( And.intro @zb4.eq_1 ( And.intro @z7g.eq_1 ( And.intro @gRev.eq_1 ( And.intro @zd2.eq_1 ( And.intro @gBrk.eq_1 ( And.intro @gCnt.eq_1 ( And.intro @gSeq.eq_1 ( And.intro @gRet.eq_1 ( And.intro @z7z.eq_1 ( And.intro @gIfS.eq_1 ( And.intro @zem.eq_1 ( And.intro @gSet.eq_1 ( And.intro @gAsg.eq_1 ( And.intro @gPar.eq_1 ( And.intro @zau.eq_1 ( And.intro @gApp.eq_1 ( And.intro @gExt.eq_1 ( And.intro @gAug.eq_1 ( And.intro @gYes.eq_1 ( And.intro @zdj.eq_1 ( And.intro @gZip.eq_1 ( And.intro @zlt.eq_1 ( And.intro @zah.eq_1 ( And.intro @z64.eq_1 (@z8b.eq_1)))))))))))))))))))))))))))))))))))))))))))))))))))))))))))))))))))))))))))))))))))))))))))))))))))))))))))))))))))))))))))))))))))))))))))))))))))))))))))))
end L2
local macro_rules | `(tactic| simp! [$xs,*])=>`(tactic| simp only [L2.evA,L2.tgSet,L2.keyW,L2.oNeg,L2.oLen,L2.setAll,List.replicate,List.contains,eq_self,Nat.reduceAdd,Nat.reduceSub,Nat.reduceLT,Nat.reduceLeDiff,reduceIte,reduceCtorEq,Nat.reduceEqDiff,Nat.reduceBEq,↓reduceIte,Int.reduceEq,Int.reduceLE,Int.reduceLT,Int.reduceAdd,Int.reduceSub,Int.reduceMul,Int.reduceNeg,$xs,*])
namespace L2
open PySem PySem.Spec PyProof.Rows
noncomputable def ze5 (Ψ:Str->Fn):GE:=zba [none,none,some 2] (.nm 1) (zbd (gVar 1)) gYes (gOp2 oEq (gArg (gOp2 #v[0,0,2] (gArg (gOp2 #v[0,0,3] (zaa 2) (gArg (gOp2 #v[0,0,1] #v[1] (zaa 1))))) #v[2])) #v[1])
noncomputable def ze3 (Ψ:Str->Fn):GE:=zba [none,none,some 3] (.nm 1) (zbd (gVar 1)) (zal (gOpN (oBl λbs=>bs.all id) (gCns (gArg (ze5 Ψ)) gA0))) (gVar 1)
noncomputable def zdv (Ψ:Str->Fn):GS:=(gSeq (gSet [] 4 (ze3 Ψ)) (zem (gApp 2 (gOp2 #v[0,0,2] (gArg (gOpN oLen (gCns (zaa 4) gA0))) #v[2]))))
noncomputable def ze6 (Ψ:Str->Fn):GS:=gFor [] (.nm 3) (zb4 (gCns (gArg (gOp2 #v[0,0,1] #v[1] (zaa 0))) gA0)) (zdv Ψ)
noncomputable def zku (Ψ:Str->Fn):GS:=(gSeq (gSet [] 2 (zap gA0)) (gSeq (ze6 Ψ) (zdj [] 2)))
noncomputable def zie (Ψ:Str->Fn):GE:=zba [none,none,none] (.tp [1,2]) (gZip (gVar 3) (zad [true,false] (Ψ "_law_bits") (gCns (zaa 0) (gCns (gArg (gOpN oLen (gCns (zaa 3) gA0))) gA0)))) (zal (gOp2 oEq (zaa 2) #v[1])) (gVar 1)
noncomputable def zvf (Ψ:Str->Fn):GS:=(gSeq (gSet [0] 3 (zad [false,false] (Ψ "_law_terms") (gCns #v[1,4] (gCns #v[2,4] gA0)))) (gRet (gOpN zco (gCns (gArg (zie Ψ)) gA0))))
noncomputable def zen (Ψ:Str->Fn):GS:=(gSeq (gSet [0] 4 (zad [true,false] (Ψ "_law_take") (gCns (zaa 0) (gCns (gArg (gOp2 #v[0,0,1] #v[1] (zaa 1))) gA0)))) (zau 2 (gVar 4) (gOp2 #v[0,0,0] #v[1] (gArg (gOp2 oIx (zaa 2) (zaa 4))))))
noncomputable def zgn (Ψ:Str->Fn):GS:=gFor [0] (.nm 3) (zb4 (gCns (gArg (zad [true,false] (Ψ "_law_take") (gCns (zaa 0) (gCns #v[4] gA0)))) gA0)) (zen Ψ)
noncomputable def zi7 (Ψ:Str->Fn):GS:=(gSeq (gIfS (zal (gOp2 oEq (gArg (zad [true,false] (Ψ "_law_take") (gCns (zaa 0) (gCns #v[2] gA0)))) #v[0])) (gRet (zad [true,false] (Ψ "_law_bits") (gCns (zaa 0) (gCns (gArg (gOp2 #v[0,0,1] #v[1] (zaa 1))) gA0)))) zd2) (gSeq (gSet [0] 2 (zad [false,false] (Ψ "_law_values") (gCns #v[1,4] (gCns (gArg (zad [true,false,false] (Ψ "_law_poly") (gCns (zaa 0) (gCns #v[1,4] (gCns (gArg (zad [true,false] (Ψ "_law_take") (gCns (zaa 0) (gCns (gArg (gOp2 oAdd (zaa 1) #v[1])) gA0)))) gA0))))) gA0)))) (gSeq (zgn Ψ) (zdj [0] 2))))
noncomputable def tmW (t:List Nat):W:=.tup (t.map λl=>.int (l:Nat))
noncomputable def zsi:Nat->Nat->Nat->Nat->List (List Nat)
 |_,_,_,0=>[[]]
 |0,_,_,_+1=>[]
 |fu+1,lo,m,k+1=>(if lo<m then (zsi fu (lo+1) m k).map (lo :: ·)++zsi fu (lo+1) m (k+1) else [])
noncomputable def zao (m most:Nat):List (List Nat):=(List.range (most+1)).flatMap λk=>zsi (m+1) 0 m k
noncomputable def zrz (Φ:Fn):Prop:=∀m most:Nat,m<=6->most<=6->Φ [.int m,.int most]=some ([.int m,.int most],(.lst ((zao m most).map tmW),true))
theorem z2c {α:Type}{cap:Cap}{it:GL}{tc:GT}{te:GE}{en e0:En}{ts:List α}{xs:En} (f:α->W) (p:α->Bool) (g:α->W) (hi:it en=some (e0,ts.map f)) (hz:ts.length<=1000) (hn:zbz cap=true) (hk:(capKeep cap).contains 1=false) (hx:zew cap e0=none::none::xs) (hb:∀v0 v1,zaq cap e0 (v0::v1::xs)=e0)
    (ht:∀v0 a,a∈ts->∃u,tc (v0::#v[f a,6]::xs)=some (v0::u::xs,p a)/\(p a=true->∃u' b,te (v0::u::xs)=some (v0::u' :: xs,(g a,b)))) :
    zba cap (.nm 1) it tc te en=some (e0,(.lst ((ts.filter p).map g),true)):=by
  have s9:(1000:Nat)<=sizeLine:=by decide
  obtain ⟨ce',out,hc,hp⟩:=zc3 (cap:=cap) (T:=.nm 1) (tc:=tc) (te:=te) (fun i c dn=>(∃v0 v1,c=v0::v1::xs)/\dn=((ts.take i).filter p).map g) hi hn (by rw [Ac];omega) ⟨⟨_,_,hx⟩,rfl⟩
    (fun i w c dn hw hp=>by
      obtain⟨⟨v0,v1,rfl⟩,rfl⟩:=hp;rw[Ap] at hw;cases ha:ts[i]? with
      |none=>rw[ha] at hw;exact noSome hw
      | some a =>
        rw[ha] at hw;obtain rfl:=sI hw;obtain⟨u,h1,h2⟩:=ht v0 a (Bt ha);have tk:ts.take (i+1)=ts.take i++[a]:=by rw[Dq,ha];rfl
        refine⟨v0::#v[f a,6]::xs,?_,?_⟩
        · show (if (capKeep cap).contains 1 || !decide (1 < (v0 :: v1 :: xs).length) then none else _) = _
          rw[hk,Aj (by rw[Ba,Ba];omega)]
          rfl
        · cases q : p a with
          | true =>
            obtain⟨u',b,h3⟩:=h2 q;rw[q] at h1;refine .inl ⟨_,_,_,h1,h3,⟨_,_,rfl⟩,?_⟩;rw[tk,Fq,Bn,Di q];rfl
          | false =>
            rw[q] at h1;refine .inr ⟨_,h1,⟨_,_,rfl⟩,?_⟩;rw[tk,Fq,Dj (by rw[q];decide),Gn,Bx])
  obtain⟨⟨v0,v1,rfl⟩,rfl⟩:=hp;rw[hb,Ac,Co] at hc;exact hc
theorem zho {a:GA}{en e1:En}{n:Nat}(h:a en=some (e1,.inl (.int (n:Nat))))(hn:n<=1000000):zb4 (gCns a gA0) en=some (e1,rngW 0 n):=by
 have r:zey (n:Int)=true:=by
  unfold zey;rw[Aj #v[],Aj #v[]];rfl
 have h2:gCns a gA0 en=some (e1,[.inl (.int (n:Nat))]):=by unfold gCns;rw[h];rfl
 have:=z2b h2 rfl r;rw[Cs] at this;exact this
theorem pow1 {l:Nat}(h:l<=100):cPow 1 (l:Int)=true:=by
 unfold cPow;rw[Aj #v[],Aj #v[]];rfl
theorem zay (l:Nat):(1:Int) * 2 ^ l=((2 ^ l:Nat):Int):=by rw[Int.one_mul];norm_cast
theorem zxu (l:Nat):(((2 ^ l:Nat):Int)).natAbs.log2=l:=by
 rw[Int.natAbs_natCast];exact Nat.log2_two_pow
theorem divP {p:Int}{l:Nat}(h:l<=100):cDiv p ((2 ^ l:Nat):Int)=true:=by
 unfold cDiv;have:0<2 ^ l:=Nat.pow_pos #v[0,9];rw[Aj #v[],Aj (by rw[zxu];omega)];rfl
noncomputable def hasT (t:List Nat) (p:Nat):Bool:=t.all λl=>decide (p / 2 ^ l % 2=1)
noncomputable def valF (ts:List (List Nat)) (p:Nat):Int:=(((ts.filter λt=>hasT t p).length % 2:Nat):Int)
theorem c1v {Ψ:Str->Fn}{v0:Option (W × Bool)}{t:List Nat}{p:Nat} (h6:∀l∈t,l < 64) (hl:t.length<=64):ze5 Ψ [v0,some (tmW t,false),some (.int (p:Nat),false)]=some ([v0,some (tmW t,false),some (.int (p:Nat),false)],(.lst ((t.map fun l=>decide (p / 2 ^ l % 2=1)).map W.bl),true)):=by
  unfold ze5;refine z5p (xs:=[#v[(p:Nat),0]]) (e0:=[v0,#v[tmW t,6],#v[(p:Nat),0]]) (ws:=t.map λl=>.int (l:Nat)) (by unfold tmW;simp! []) (by rw[Ac];omega) (by rw[Ac,Ac,Ac]) rfl rfl rfl (λ_ _=>rfl) λi v0 w r hw hr=>?_;rw[Ap] at hw;rw[Ap,Ap] at hr;cases ha:t[i]? with
  |none=>rw[ha] at hw;exact noSome hw
  | some l =>
    rw [ha] at hw hr;obtain rfl:=sI hw;obtain rfl:=sI hr;have ll:=h6 l (Bt ha);have e1:=pow1 (l:=l) (by omega);have e2:=divP (p:=(p:Int)) (l:=l) (by omega);have e3:((p:Int) / ((2 ^ l:Nat):Int) % 2=1)=(p / 2 ^ l % 2=1):=by
      rw[<-Int.natCast_ediv];apply propext;constructor<;>intro h<;>omega
    refine⟨#v[(l:Nat),0],false,?_⟩;simp! [e1,zay,e2,e3]
theorem c2v {Ψ:Str->Fn}{a c e:Option (W × Bool)}{ts:List (List Nat)}{p:Nat}(h6:∀t∈ts,∀l∈t,l<64)(hl:∀t∈ts,t.length<=64)(hz:ts.length<=64):ze3 Ψ [a,#v[(ts.map tmW),3],c,#v[(p:Nat),0],e]=some ([a,#v[(ts.map tmW),3],c,#v[(p:Nat),0],e],(.lst ((ts.filter λt=>hasT t p).map tmW),true)):=by
 unfold ze3;refine z2c (xs:=[#v[(p:Nat),0]]) tmW (λt=>hasT t p) tmW (e0:=[a,#v[(ts.map tmW),3],c,#v[(p:Nat),0],e]) (by simp! []) #v[] rfl rfl rfl (λ_ _=>rfl) λv0 t ht=>?_;have c1:=c1v (Ψ:=Ψ) (v0:=v0) (t:=t) (p:=p) (h6 t ht) (hl t ht);have al:(t.map λl=>decide (p / 2 ^ l % 2=1)).all id=hasT t p:=by unfold hasT;rw[List.all_map];rfl
 refine⟨#v[tmW t,6],?_,λ_=>⟨#v[tmW t,6],false,?_⟩⟩
 ·simp! [c1,al]
 ·simp! []
noncomputable def zoj (Φ:Fn):Prop:=∀(m:Nat) (ts:List (List Nat)),m<=6->ts.length<=64->(∀t∈ts,∀l∈t,l<64)->(∀t∈ts,t.length<=64)->Φ [.int (m:Nat),.tup (ts.map tmW)]=some ([.int (m:Nat),.tup (ts.map tmW)],(.lst ((tab (2 ^ m) (valF ts)).map W.int),true))
theorem zl5 {m:Nat}(h:m<=6):2 ^ m<=64:=Cv #v[0,9] h
theorem b3v {Ψ:Str->Fn}{m i:Nat}{ts:List (List Nat)}{v4:Option (W × Bool)}(hi:i<=64)(hz:ts.length<=64)(h6:∀t∈ts,∀l∈t,l<64)(hl:∀t∈ts,t.length<=64):zdv Ψ [#v[(m:Nat),0],#v[(ts.map tmW),3],#v[((tab i (valF ts)).map W.int),2],#v[(i:Nat),0],v4]=some ([#v[(m:Nat),0],#v[(ts.map tmW),3],#v[((tab (i+1) (valF ts)).map W.int),2],#v[(i:Nat),0],#v[((ts.filter λt=>hasT t i).map tmW),2]],.nx):=by
 have c2:=c2v (Ψ:=Ψ) (a:=#v[(m:Nat),0]) (c:=#v[((tab i (valF ts)).map W.int),2]) (e:=v4) (ts:=ts) (p:=i) h6 hl hz;have lt:(tab i (valF ts)).length<16777216:=by rw[tab_len];omega
 have em:(((ts.filter λt=>hasT t i).length:Nat):Int) % 2=valF ts i:=by unfold valF;omega
 rw[zn6 i,Bn];unfold zdv;simp! [c2,Ac,em,lt,Ah,List.map_nil]
theorem i3v {m:Nat}{b c d e:Option (W × Bool)}(hm:m<=6):zb4 (gCns (gArg (gOp2 #v[0,0,1] #v[1] (zaa 0))) gA0) [#v[(m:Nat),0],b,c,d,e]=some ([#v[(m:Nat),0],b,c,d,e],rngW 0 (2 ^ m)):=by
 have p6:=zl5 hm;have e1:=pow1 (l:=m) #v[];refine zho ?_ #v[];simp! [e1,zay]
theorem l3v {Ψ:Str->Fn}{m:Nat}{ts:List (List Nat)}(hm:m<=6)(hz:ts.length<=64)(h6:∀t∈ts,∀l∈t,l<64)(hl:∀t∈ts,t.length<=64):∃v3 v4,ze6 Ψ [#v[(m:Nat),0],#v[(ts.map tmW),3],#v[[],2],none,none]=some ([#v[(m:Nat),0],#v[(ts.map tmW),3],#v[((tab (2 ^ m) (valF ts)).map W.int),2],v3,v4],.nx):=by
 have p6:=zl5 hm;unfold ze6;obtain⟨en',h,v3,v4,rfl⟩:=zb3 (mp:=[]) (T:=.nm 3) (body:=zdv Ψ) (λi e=>∃v3 v4,e=[#v[(m:Nat),0],#v[(ts.map tmW),3],#v[((tab i (valF ts)).map W.int),2],v3,v4]) (i3v (m:=m) (b:=#v[(ts.map tmW),3]) (c:=#v[[],2]) (d:=none) (e:=none) hm) ⟨_,_,rfl⟩ λi w e hw hp=>by
  obtain⟨v3,v4,rfl⟩:=hp;obtain⟨li,rfl⟩:=zd1 hw;rw[Gy];exact⟨_,_,rfl,.inl (b3v #v[] hz h6 hl),_,_,rfl⟩
 rw[zdx] at h;exact⟨v3,v4,h⟩
theorem zsv (Ψ:Str->Fn):zoj (zah [false,false] 5 (zku Ψ)):=λm ts hm hz h6 hl=>by
 obtain⟨v3,v4,lp⟩:=l3v (Ψ:=Ψ) hm hz h6 hl;unfold zku;simp! [lp]
theorem z4s {xs ys:List W}{i:Nat}{w:W}(h:(zipW xs ys)[i]?=some w):∃x y,xs[i]?=some x/\ys[i]?=some y/\w=.tup [x,y]:=by
 have l:=(Ai.mp h).1;rw[zd0] at l;have hx:xs[i]?=some xs[i]:=Ae #v[];have hy:ys[i]?=some ys[i]:=Ae #v[];rw[zim hx hy] at h;obtain rfl:=sI h;exact⟨_,_,hx,hy,rfl⟩
noncomputable def zzg (Φ:Fn):Prop:=∀(k:Nat) (st:W) (m most:Nat),HS k st->k+100<big->m<=6->most<=6->∃(st' : W) (ts:List (List Nat)),Φ [st,.int (m:Nat),.int (most:Nat)]=some ([st',.int (m:Nat),.int (most:Nat)],(.tup (ts.map tmW),false))/\HS (k+66) st'/\ts.Sublist (zao m most)
theorem zsu:∀m most:Fin 7,(zao m.val most.val).length<=64/\∀t∈zao m.val most.val,t.length<=6/\∀l∈t,l<m.val:=by decide +kernel
theorem zkx {m most:Nat}(hm:m<=6)(hk:most<=6):(zao m most).length<=64/\∀t∈zao m most,t.length<=6/\∀l∈t,l<m:=zsu ⟨m,by omega⟩ ⟨most,by omega⟩
theorem zzr {Ψ:Str->Fn} (hT:zrz (Ψ "_law_terms")) (hB:zob (Ψ "_law_bits")):zzg (zah [true,false,false] 4 (zvf Ψ)):=fun k st m most hs hk hm ho=>by
  have s9:(1000:Nat)<=sizeLine:=by decide
  obtain⟨tl,_⟩:=zkx hm ho;have t1:=hT m most hm ho;nofun;obtain⟨st',xs,b1,g1,xl,xb⟩:=hB k st ((zao m most).length:Nat) hs hk #v[] #v[];ac_rfl;have lx:xs.length=(zao m most).length:=by omega
  have cc:∃ts:List (List Nat),zie Ψ [some (st,true),some (.int (m:Nat),false),some (.int (most:Nat),false),some (.lst ((zao m most).map tmW),true)]=some ([some (st',true),some (.int (m:Nat),false),some (.int (most:Nat),false),some (.lst ((zao m most).map tmW),false)],(.lst (ts.map tmW),true))/\ts.Sublist (zao m most):=by
    unfold zie;obtain ⟨ce',out,hc,hp⟩:=zc3 (cap:=[none,none,none]) (T:=.tp [1,2]) (tc:=zal (gOp2 oEq (zaa 2) (gArg (gC (.int 1))))) (te:=gVar 1) (it:=gZip (gVar 3) (zad [true,false] (Ψ "_law_bits") (gCns (zaa 0) (gCns (gArg (gOpN oLen (gCns (zaa 3) gA0))) gA0)))) (en:=[some (st,true),some (.int (m:Nat),false),some (.int (most:Nat),false),some (.lst ((zao m most).map tmW),true)]) (e0:=[some (st',true),some (.int (m:Nat),false),some (.int (most:Nat),false),some (.lst ((zao m most).map tmW),false)]) (ws:=zipW ((zao m most).map tmW) (xs.map W.int)) (fun i c dn=>(∃v0 v1 v2,c=[v0,v1,v2])/\∃ts:List (List Nat),dn=ts.map tmW/\ts.Sublist ((zao m most).take i))
      (by simp! [Ac,b1]) rfl (by rw [zd0,Ac,Ac];omega) ⟨⟨_,_,_,rfl⟩,[],rfl,List.nil_sublist _⟩ fun i w c dn hw hp=>by
        nofun;obtain⟨⟨v0,v1,v2,rfl⟩,ts,rfl,hsub⟩:=hp;obtain⟨x,y,hx,hy,rfl⟩:=z4s hw;ac_rfl;rw[Ap] at hx hy;cases ha:(zao m most)[i]? with
        |none=>rw[ha] at hx;exact noSome hx
        | some t =>
          cases hb:xs[i]? with
          |none=>rw[hb] at hy;exact noSome hy
          | some n =>
            rw[ha] at hx;rw[hb] at hy;obtain rfl:=sI hx;obtain rfl:=sI hy;have tk:(zao m most).take (i+1)=(zao m most).take i++[t]:=by rw[Dq,ha];rfl
            refine⟨[v0,#v[tmW t,6],#v[n,0]],rfl,?_⟩;have tt:zal (gOp2 oEq (zaa 2) #v[1]) [v0,#v[tmW t,6],#v[n,0]]=some ([v0,#v[tmW t,6],#v[n,0]],decide (n=1)):=by simp! []
            by_cases hn:n=1
            · refine .inl ⟨[v0, some (tmW t, false), some (.int n, false)], [v0, some (tmW t, false), some (.int n, false)], (tmW t, false), ?_, rfl, ⟨_, _, _, rfl⟩, ts ++ [t], ?_, ?_⟩
              · rw[tt,Aj hn]
              · rw[Bn];rfl
              · rw[tk];exact hsub.append (.refl _)
            · refine .inr ⟨[v0, some (tmW t, false), some (.int n, false)], ?_, ⟨_, _, _, rfl⟩, ts, rfl, ?_⟩
              · rw[tt,Bg hn]
              · rw[tk];exact hsub.trans (List.sublist_append_left _ _)
    nofun;obtain⟨⟨v0,v1,v2,rfl⟩,ts,rfl,hsub⟩:=hp;ac_rfl;exact⟨ts,hc,hsub.trans (Es _ _)⟩
  obtain⟨ts,c1,sub⟩:=cc;refine⟨st',ts,?_,g1,sub⟩;have ot:zco [.lst (ts.map tmW)]=#v[(ts.map tmW),3]:=rfl;unfold zvf;simp! [t1,c1,ot]
noncomputable def zrf (Φ:Fn):Prop:=∀(k:Nat) (st:W) (m:Nat),HS k st->k+300<big->m<=6->∃st' xs,Φ [st,.int (m:Nat)]=some ([st',.int (m:Nat)],(.lst (xs.map W.int),true))/\HS (k+80) st'/\xs.length=2 ^ m/\Bits xs
theorem zrb {n q:Nat}(h:q<n):ixN n (q:Int)=some q:=by
 unfold ixN;rw[if_pos #v[],if_pos #v[],Cs]
theorem z5f {Ψ:Str->Fn}{m q:Nat}{st st1:W}{xs:List Int}{v3 v4:Option (W × Bool)}{n:Int}(hm:m<=6)(lx:xs.length=2 ^ m)(e1:Ψ "_law_take" [st,.int ((2 ^ m:Nat):Int)]=some ([st1,.int ((2 ^ m:Nat):Int)],(.int (q:Nat),false)))(hq:xs[q]?=some n):zen Ψ [#v[st,5],#v[(m:Nat),0],#v[(xs.map W.int),2],v3,v4]=some ([#v[st1,5],#v[(m:Nat),0],#v[((xs.set q (1 - n)).map W.int),2],v3,#v[(q:Nat),0]],.nx):=by
 have p1:=pow1 (l:=m) #v[];have lq:q<xs.length:=(Ai.mp hq).1;have a1:atI (xs.map W.int) (q:Int)=some (.int n):=zce (by rw[Ap,hq];rfl);have ix:ixN xs.length (q:Int)=some q:=zrb lq;unfold zen;simp! [p1,zay,e1,a1,Ac,ix,List.map_set,At,Cp]
theorem zwr {Ψ:Str->Fn}(hT:zkr (Ψ "_law_take"))(hB:zob (Ψ "_law_bits"))(hP:zzg (Ψ "_law_poly"))(hV:zoj (Ψ "_law_values")):zrf (zah [true,false] 5 (zi7 Ψ)):=λk st m hs hk hm=>by
 have p6:=zl5 hm;have p1:=pow1 (l:=m) #v[];have pp:0<2 ^ m:=Nat.pow_pos #v[0,9];nofun;obtain⟨st1,r,e1,g1,r0,r2⟩:=hT k st 2 hs #v[] #v[0,9] #v[0,9];ac_rfl;by_cases hr:r=0
 ·subst hr;nofun;obtain⟨st',xs,b1,g2,xl,xb⟩:=hB (k+1) st1 ((2 ^ m:Nat):Int) g1 #v[] #v[] #v[];ac_rfl;refine⟨st',xs,?_,g2.mono #v[],by omega,xb⟩;unfold zi7;simp! [e1,p1,zay,b1]
 ·refine aG fun Gg qG => ?_;obtain ⟨st2,r2,e2,g2,q0,q1⟩:=hT (k+1) st1 ((m:Int)+1) g1 (by omega) (by omega) (by omega);obtain ⟨most,rfl⟩:=Ef q0;obtain ⟨st3,ts,e3,g3,sub⟩:=hP (k+2) st2 m most g2 (by omega) hm (by omega);obtain ⟨tl,ta⟩:=zkx (m:=m) (most:=most) hm (by omega);refine qG ?_;clear qG;have e4:=hV m ts hm (by have:=sub.length_le;omega) (fun t ht l hl=>by have:=(ta t (sub.mem ht)).2 l hl;omega) (fun t ht=>by have:=(ta t (sub.mem ht)).1;omega);refine aG fun _ qG=>?_;obtain ⟨st4,n,e5,g4,n0,n4⟩:=hT (k+68) st3 4 g3 (by omega) (by decide) (by decide);obtain ⟨j,rfl⟩:=Ef n0;refine qG ?_;clear qG;have lp:∃st5 xs v3 v4,zgn Ψ [some (st3,true),some (.int (m:Nat),false),some (.lst ((tab (2 ^ m) (valF ts)).map W.int),true),none,none]=some ([some (st5,true),some (.int (m:Nat),false),some (.lst (xs.map W.int),true),v3,v4],.nx)/\HS (k+80) st5/\xs.length=2 ^ m/\Bits xs:=by
   unfold zgn;have it:zb4 (gCns (gArg (zad [true,false] (Ψ "_law_take") (gCns (zaa 0) (gCns #v[4] gA0)))) gA0) [#v[st3,5],#v[(m:Nat),0],#v[((tab (2 ^ m) (valF ts)).map W.int),2],none,none]=some ([#v[st4,5],#v[(m:Nat),0],#v[((tab (2 ^ m) (valF ts)).map W.int),2],none,none],rngW 0 j):=by
    refine zho ?_ #v[];simp! [e5]
   obtain⟨en',h,st5,xs,v3,v4,rfl,g5,lx,bx⟩:=zb3 (mp:=[0]) (T:=.nm 3) (body:=zen Ψ) (λi e=>∃st5 xs v3 v4,e=[#v[st5,5],#v[(m:Nat),0],#v[(xs.map W.int),2],v3,v4]/\HS (k+69+i) st5/\xs.length=2 ^ m/\Bits xs) it ⟨_,_,_,_,rfl,g4.mono #v[],tab_len _ _,zxm λi _=>by unfold valF Bit;omega⟩ λi w e hw hp=>by
    nofun;obtain⟨st5,xs,v3,v4,rfl,g5,lx,bx⟩:=hp;obtain⟨li,rfl⟩:=zd1 hw;obtain⟨st6,q,e6,g6,q0,q4⟩:=hT (k+69+i) st5 ((2 ^ m:Nat):Int) g5 #v[] #v[] #v[];obtain⟨q,rfl⟩:=Ef q0;ac_rfl;have lq:q<xs.length:=by omega
    have hq:xs[q]?=some xs[q]:=Ae lq;refine⟨_,_,rfl,.inl (z5f hm lx e6 hq),st6,_,_,_,rfl,g6,by rw[Dm];exact lx,λx hx=>?_⟩;rcases List.mem_or_eq_of_mem_set hx with hx|rfl
    ·exact bx x hx
    ·have:=bx xs[q] (List.getElem_mem _);rcases this with z|z<;>rw[z]
     ·exact .inr rfl
     ·exact .inl rfl
   rw[zdx] at g5;exact⟨st5,xs,v3,v4,h,g5.mono #v[],lx,bx⟩
  nofun;obtain⟨st5,xs,v3,v4,lp,g5,lx,bx⟩:=lp;ac_rfl;refine⟨st5,xs,?_,g5,lx,bx⟩;have d1:decide (r=0)=false:=Bg hr;unfold zi7;simp! [e1,d1,e2,e3,e4,lp]
theorem zoq {c:Nat}:∀{ts:List Str},(∀t∈ts,t.length<=c)->piled ts<=(c+2) * ts.length
  |[],_=>by rw[piled_nil];omega
  | t::ts,h=>by
    have h1:=h t (Av ..);have h2:=zoq (c:=c) (ts:=ts) λx hx=>h x (As _ hx);rw[piled_cons,Ba,Nat.mul_succ];omega
theorem zhn {c:Nat}{ts:List Str}(h:∀t∈ts,t.length<=c):(tupleText ts).length<=(c+2) * ts.length+3:=by
 have hp:=zoq h;have hj:(Str.join ", " ts).length<=piled ts:=by
  cases ts with
  |nil=>exact Bj _
  |cons x xs=>have:=join_length_add (x::xs) (by simp);omega
 unfold tupleText;rw[Str.length_append,Str.length_append];have a:(Str.ofString "(").length=1:=by decide
 have b:(Str.ofString (if (ts.length == 1)=true then ",)" else ")")).length<=2:=by
  split
  ·decide
  ·decide
 omega
theorem zdb {α:Type}(f:α->PyData):∀l:List α,PyData.shownAll (l.map f)=l.map λx=>(f x).shown
 |[]=>rfl
 |x::l=>by rw[Ah,PyData.shownAll,zdb f l];rfl
theorem zeb {α:Type}(f:α->PyData):∀l:List α,(∀x∈l,(f x).showable=true)->PyData.showableAll (l.map f)=true
 |[],_=>rfl
 |x::l,h=>by rw[Ah,PyData.showableAll,h x (Av ..),zeb f l λy hy=>h y (As _ hy)];rfl
theorem zd7 {α:Type}(f:α->PyData):∀l:List α,(∀x∈l,(f x).hasDict=false)->PyData.hasDictAll (l.map f)=false
 |[],_=>rfl
 |x::l,h=>by rw[Ah,PyData.hasDictAll,h x (Av ..),zd7 f l λy hy=>h y (As _ hy)];rfl
theorem depAll_map {α:Type}{c:Nat} (f:α->PyData):∀l:List α,(∀x∈l,(f x).depth<=c)->PyData.depthAll (l.map f)<=c
  |[],_=>Bj _
  | x::l,h=>by
    rw[Ah,PyData.depthAll];have:=h x (Av ..);have:=depAll_map f l λy hy=>h y (As _ hy);omega
theorem ze0 {α:Type}(f:α->PyData):∀l:List α,(∀x∈l,(f x).canLay0=true)->PyData.canLayAll0 (l.map f)=true
 |[],_=>rfl
 |x::l,h=>by rw[Ah,PyData.canLayAll0,h x (Av ..),ze0 f l λy hy=>h y (As _ hy)];rfl
theorem zmn {α:Type}(f:α->W)(g:α->PyData)(h:∀x,dW (f x)=some (g x)):∀l:List α,dWs (l.map f)=some (l.map g)
 |[]=>rfl
 |x::l=>by rw[Ah,dWs,h x,zmn f g h l];rfl
noncomputable def zsn (n:Int):Prop:=n.natAbs.log2<1920
noncomputable def ndI (ns:List Int):PyData:=.tuple (ns.map .int)
theorem z07 (ns:List Int):dW (.tup (ns.map W.int))=some (ndI ns):=by
 rw[dW,zmn W.int .int (λ_=>by rw[dW]) ns];rfl
theorem ndI_ok {ns:List Int}(h:∀n∈ns,zsn n):(ndI ns).showable=true/\(ndI ns).hasDict=false/\(ndI ns).depth<=1/\(ndI ns).canLay0=true/\(ndI ns).shown.length<=1923 * ns.length+3:=by
 refine⟨?_,?_,?_,?_,?_⟩
 ·unfold ndI;rw[PyData.showable];exact zeb _ _ λn hn=>by rw[PyData.showable];exact Aj (h n hn)
 ·unfold ndI;rw[PyData.hasDict];exact zd7 _ _ λn hn=>by rw[PyData.hasDict]
 ·unfold ndI; rw[PyData.depth]; have:=depAll_map (c:=0) PyData.int ns λn hn=>by rw[PyData.depth]; exact Af _
  omega
 ·unfold ndI;rw[PyData.canLay0];exact ze0 _ _ λn hn=>by rw[PyData.canLay0]
 ·unfold ndI;rw [PyData.shown,zdb];have:=zhn (c:=1921) (ts:=ns.map fun x=>(PyData.int x).shown) fun t ht=>by
   obtain⟨n,hn,rfl⟩:=Bf.mp ht;rw[PyData.shown];exact int_text_len_1921 (h n hn)
  rw[Ac] at this;exact this
noncomputable def ndR (rs:List (List Int)):PyData:=.tuple (rs.map ndI)
noncomputable def zqf (rs:List (List Int)):W:=.tup (rs.map λns=>.tup (ns.map W.int))
theorem z1z (rs:List (List Int)):dW (zqf rs)=some (ndR rs):=by
 unfold zqf;rw[dW,zmn (λns:List Int=>W.tup (ns.map W.int)) ndI z07 rs];rfl
theorem z3b {rs:List (List Int)}(h:∀ns∈rs,ns.length<=64/\∀n∈ns,zsn n):(ndR rs).showable=true/\(ndR rs).hasDict=false/\(ndR rs).depth<=2/\(ndR rs).canLay0=true/\(ndR rs).shown.length<=123077 * rs.length+3:=by
 refine⟨?_,?_,?_,?_,?_⟩
 ·unfold ndR;rw[PyData.showable];exact zeb _ _ λn hn=>(ndI_ok (h n hn).2).1
 ·unfold ndR;rw[PyData.hasDict];exact zd7 _ _ λn hn=>(ndI_ok (h n hn).2).2.1
 ·unfold ndR; rw[PyData.depth]; have:=depAll_map (c:=1) ndI rs λn hn=>(ndI_ok (h n hn).2).2.2.1;omega
 ·unfold ndR;rw[PyData.canLay0];exact ze0 _ _ λn hn=>(ndI_ok (h n hn).2).2.2.2.1
 ·unfold ndR;rw [PyData.shown,zdb];have:=zhn (c:=123075) (ts:=rs.map fun x=>(ndI x).shown) fun t ht=>by
   obtain⟨n,hn,rfl⟩:=Bf.mp ht;have a:=(ndI_ok (h n hn).2).2.2.2.2;have b:=(h n hn).1;omega
  rw[Ac] at this;exact this
theorem zq3 {rs:List (List Int)}(h:∀ns∈rs,ns.length<=64/\∀n∈ns,zsn n)(hl:rs.length<=64):∃s,zp3 [zqf rs]=some (.str s,false):=by
 obtain⟨h1,h2,h3,_,h4⟩:=z3b h;refine⟨(ndR rs).shown,?_⟩;show (dW (zqf rs)).bind _=_;rw[z1z];show (if okD (ndR rs) then _ else none)=_;have ok:okD (ndR rs)=true:=by
  unfold okD;rw[h1,h2,Aj #v[],Aj (by rw[Ff];omega)];rfl
 rw[if_pos ok]
theorem zpm {n:Int}{k:Nat}(h:n.natAbs<2 ^ k)(hk:k<=1919):zsn n:=by
 unfold zsn;by_cases z:n.natAbs=0
 ·rw[z];decide
 ·have:=(Nat.log2_lt z).mpr h;omega
theorem z0q {n a:Nat}{f:Nat->Int}{v:Int}:(tab n f).set a v=tab n λq=>if q=a then v else f q:=by
 apply Dk;intro q;by_cases hq:q<n
 ·rw[tab_get hq,List.getElem?_set,tab_len];by_cases e:a=q
  ·subst e;rw[if_pos rfl,if_pos hq,if_pos rfl]
  ·rw[if_neg e,if_neg (λz=>e z.symm),tab_get hq]
 ·rw[Ck (by rw[Dm,tab_len];omega),Ck (by rw[tab_len];omega)]
theorem zci {a b:GS}{en e1:En}{r:Option (En × Fl)}(h1:a en=some (e1,.nx))(h2:b e1=r):gSeq a b en=r:=(seq_nx h1).trans h2
theorem z5y (s:Str):oNe (.str s) (.str s)=some (.bl false,false):=by
 show #v[W.bl (!decide (s=s)),6]=_;rw[Aj rfl];rfl
section
variable {en:En}{P Q:W->Prop}
end
set_option maxHeartbeats 2000000
noncomputable def dkI (i:Int):DKey:=.inl (.inl i)
noncomputable def dkN (p:Nat):DKey:=.inl (.inl (p:Int))
theorem zif (a b:Nat)(h:dkN a=dkN b):a=b:=Int.ofNat.inj (Sum.inl.inj (Sum.inl.inj h))
theorem zu0 (i:Int):keyD (.int i)=some (dkI i):=rfl
section
variable {κ:Type} [DecidableEq κ] {f:κ->DKey}
theorem zf2 (hf:∀a b,f a=f b->a=b) (g:κ->W) (p:κ):∀L:List κ,valW ((L.map f).zip (L.map g)) (f p)=if p∈L then some (g p) else none
  |[]=>rfl
  | q::L=>by
    rw[Ah,Ah,Bl,zev,zf2 hf g p L];by_cases h:q=p
    · subst h;rw[if_pos rfl,if_pos Av]
    · rw [if_neg fun e => h (hf _ _ e)]
      by_cases m:p∈L
      · rw[if_pos m,if_pos (As _ m)]
      · rw[if_neg m,if_neg λz=>by rcases At.mp z with z|z;exact h z.symm;exact m z]
theorem zpg (hf:∀a b,f a=f b->a=b){L:List κ}{p:κ}:f p∈L.map f↔p∈L:=by
 rw[Bf];exact⟨λ⟨a,h,e⟩=>hf _ _ e ▸ h,λh=>⟨p,h,rfl⟩⟩
theorem zov (hf:∀a b,f a=f b->a=b)(ws:List W){p:κ}(w:W){L:List κ}(h:p ∉ L):zgz (L.map f) ws (f p) w=ws++[w]:=by
 unfold zgz;rw[if_neg (mt (zpg hf).mp h)]
theorem zo9 (hf:∀a b,f a=f b->a=b){p:κ}{L:List κ}(h:p ∉ L):zf3 (L.map f) (f p)=L.map f++[f p]:=by
 unfold zf3;rw[if_neg (mt (zpg hf).mp h)]
end
theorem zu6 (p:Nat)(L:List Nat):zcg (dkN p) (L.map dkN)=true:=by
 unfold zcg;rw[List.all_map];exact Ay.mpr λ_ _=>rfl
theorem z68 {i:Nat}{g g' : GE}{en:En}{ks:List DKey}{ws:List W}{f f1:Bool}{u:W}{r:W × Bool}{d:DKey}(h0:en[i]?=some (some (.dct ks ws,f)))(h1:g en=some (en,(u,f1)))(h2:g' en=some (en,r))(hd:keyD u=some d)(hv:valW (ks.zip ws) d=none)(hs:zcg d ks=true):zj5 i g g' en=some (en,r):=by
 unfold zj5;simp only [h0,h1,h2,Ci,hd,hv,hs,Fe]
theorem z6h {i:Nat}{k g:GE}{en e1:En}{ks:List DKey}{ws:List W}{f f2:Bool}{u w:W}{d:DKey}(h:g en=some (e1,(w,f)))(hk:k e1=some (e1,(u,f2)))(hi:e1[i]?=some (some (.dct ks ws,true)))(hd:keyD u=some d)(hs:zcg d ks=true)(hl:ks.length<sizeLine):zkc i k g en=some (e1.set i (some (.dct (zf3 ks d) (zgz ks ws d w),true)),.nx):=by
 unfold zkc;simp only [h,hk,hi,Ci,hd,hs,Bool.true_and,Aj hl,Fe]
theorem z75 {ks:List DKey}{ws:List W}{u w:W}{d:DKey}(hd:keyD u=some d)(hv:valW (ks.zip ws) d=some w):oIxD (.dct ks ws) u=#v[w,6]:=by
 unfold oIxD;simp only [hd,hv,Ci]
theorem zt2:∀L:List Nat,znu (L.map dkN)=some (L.map fun p:Nat=>W.int (p:Int))
  |[]=>rfl
  | p::L=>by
    show (znu (L.map dkN)).bind _=_;rw[zt2 L];rfl
theorem zxl {ns:List Int}(h:ns.Pairwise (·<=·)):zfl ns=ns:=zi8 (List.Perm.refl _) h
theorem z04 {L:List Nat}(h:L.Pairwise (· < ·))(hn:L≠[])(ws:List W):zh1 [.dct (L.map dkN) ws]=#v[(zvl L),2]:=by
 have e:zb1 (L.map λp:Nat=>W.int (p:Int))=some (L.map λp:Nat=>(p:Int)):=by
  have:=zfc (L.map λp:Nat=>(p:Int));rw[Be] at this;exact this
 have hs:zfl (L.map λp:Nat=>(p:Int))=L.map λp:Nat=>(p:Int):=zxl (by rw[Dh];exact h.imp λhab=>by omega);have hm:(L.map dkN).isEmpty=false:=by cases L with
  |nil=>exact absurd rfl hn
  |cons _ _=>rfl
 unfold zh1;simp only [zt2,Ci,e,hm,hs];rw[if_neg Ax,<-zw4]
noncomputable def tp (w:Nat):Nat:=w.log2
end L2
namespace My
open PySem PySem.Spec PyProof.Rows L2
noncomputable def top (i:Nat):Stmt:=PySem.Challenge.pw_yesnowords_k25_spreads_turned.main.body.getD i (.Pass ⟨0,0,0,0⟩)
noncomputable def zaw:Fd:=⟨"spread_of_rows",["rows"],["rows","numbers","heavy","number"],[false],top 1⟩
noncomputable def zbw:Fd:=⟨"sign_powers",["places","minus"],["places","minus","row","at","sign"],[false,false],top 2⟩
noncomputable def za8:Fd:=⟨"turned_spread",["many","told"],["many","told","sums","heavy","number","powers","words"],[false,false],top 3⟩
noncomputable def zc7:Fd:=⟨"_law_hand",["_law_script"],["_law_script","_law_state","_law_weighs","_law_cell","_law_k","_law_one"],[false],top 5⟩
noncomputable def zcy:Fd:=⟨"_law_take",["_law_state","_law_count"],["_law_state","_law_count","_law_digit","_law_mixed"],[true,false],top 6⟩
noncomputable def zc0:Fd:=⟨"_law_bits",["_law_state","_law_count"],["_law_state","_law_count","_law_way","_law_found","_law_k","_law_one"],[true,false],top 7⟩
noncomputable def zcc:Fd:=⟨"_law_terms",["_law_many","_law_most"],["_law_many","_law_most","_law_found","_law_letter"],[false,false],top 8⟩
noncomputable def zbu:Fd:=⟨"_law_values",["_law_many","_law_poly_here"],["_law_many","_law_poly_here","_law_found","_law_place","_law_says_yes"],[false,false],top 9⟩
noncomputable def zcu:Fd:=⟨"_law_poly",["_law_state","_law_many","_law_most"],["_law_state","_law_many","_law_most","_law_some"],[true,false,false],top 10⟩
noncomputable def zb8:Fd:=⟨"_law_drawn",["_law_state","_law_many"],["_law_state","_law_many","_law_bits_here","_law_k","_law_at"],[true,false],top 11⟩
noncomputable def zc6:Fd:=⟨"_law_sums",["_law_rows","_law_places"],["_law_rows","_law_places","_law_found","_law_bits_here","_law_other"],[false,false],top 12⟩
noncomputable def zbx:Fd:=⟨"_law_counts",["_law_rows","_law_places"],["_law_rows","_law_places","_law_found","_law_bits_here","_law_yeses"],[false,false],top 13⟩
noncomputable def zdy:Fd:=⟨"_law_all",["_law_places"],["_law_places","_law_found","_law_place","_law_longer","_law_bits_here"],[false],top 14⟩
noncomputable def zc4:Fd:=⟨"_law_even",["_law_one","_law_other"],["_law_one","_law_other"],[false,false],top 15⟩
noncomputable def znw:Fd:=⟨"law",["_law_script"],["_law_script","_law_state","_law_turn","_law_many","_law_places","_law_some","_law_told","_law_fitting"],[false],top 16⟩
noncomputable def T:List Fd:=[zaw,zbw,za8,zc7,zcy,zc0,zcc,zbu,zcu,zb8,zc6,zbx,zdy,zc4,znw]
noncomputable def bn:List Str:=["abs","all","c _law_bits_here","d _law_found","d numbers","dict","enumerate","int","k _law_found","len","list","range","repr","sorted","sum","tuple","zip"]
noncomputable def zat (Ψ:Str->Fn):GS:=(zkc 1 (gVar 2) (gOp2 oAdd (gArg (zj5 1 (gVar 2) (gC (.int 0)))) (zaa 3)))
noncomputable def zbf (Ψ:Str->Fn):GS:=gFor [] (.tp [2,3]) (zbd (gVar 0)) (zat Ψ)
noncomputable def zbh (Ψ:Str->Fn):GE:=zba [none,none,some 1] (.nm 1) (zbd (gOpN zh1 (gCns (zaa 1) gA0))) (zal (gOp2 (oI yes2 λi j=>.bl (decide (j<i))) (gArg (gOp2 oIxD (zaa 2) (zaa 1))) #v[0])) (zec (gCns #v[1,4] (gCns (gArg (gOp2 oIxD (zaa 2) (zaa 1))) gA0)))
noncomputable def zax (Ψ:Str->Fn):GS:=(gSeq (gSet [] 1 z0x) (gSeq (zbf Ψ) (gRet (gOpN zco (gCns (gArg (zbh Ψ)) gA0)))))
theorem zfm (Ψ:Str->Fn)(d:Nat):zbe T bn Ψ (d+2) zaw=some (zax Ψ):=by kernel_rfl
theorem zfj:T.find? (·.nm == ("spread_of_rows" : Str))=some zaw:=by kernel_rfl
theorem zfk (d:Nat):sem T bn (d+3) "spread_of_rows" = zah [false] 4 (zax (sem T bn (d+2))):=zd4 zfj (zfm _ d)
noncomputable def zcj (Ψ:Str->Fn):GE:=zba [none,none,none,some 4] (.tp [1,2]) (gZip (gOp2 oAdd (zaa 2) (gArg (zap (gCns #v[0] gA0)))) (gOp2 oAdd (gArg (zap (gCns #v[0] gA0))) (zaa 2))) gYes (gOp2 oAdd (zaa 1) (gArg (gOp2 oMult (zaa 3) (zaa 2))))
noncomputable def zbi (Ψ:Str->Fn):GS:=(gSeq (gSet [] 4 (gIf (zal (gOp2 (oI yes2 λi j=>.bl (decide (i<j))) (zaa 3) (zaa 1))) (gOp1 oNeg #v[1]) (gC (.int 1)))) (gSet [] 2 (zcj Ψ)))
noncomputable def zck (Ψ:Str->Fn):GS:=gFor [] (.nm 3) (zb4 (gCns (zaa 0) gA0)) (zbi Ψ)
noncomputable def zbt (Ψ:Str->Fn):GS:=(gSeq (gSet [] 2 (zap (gCns #v[1] gA0))) (gSeq (zck Ψ) (zdj [] 2)))
theorem zh8 (Ψ:Str->Fn)(d:Nat):zbe T bn Ψ (d+2) zbw=some (zbt Ψ):=by kernel_rfl
theorem zi6:T.find? (·.nm == ("sign_powers" : Str))=some zbw:=by kernel_rfl
theorem ziz (d:Nat):sem T bn (d+3) "sign_powers" = zah [false,false] 5 (zbt (sem T bn (d+2))):=zd4 zi6 (zh8 _ d)
noncomputable def zbp (Ψ:Str->Fn):GE:=zba [none,none] (.nm 1) (zb4 (gCns (gArg (gOp2 oAdd (gArg (gOp2 #v[0,0,1] #v[1] (zaa 0))) #v[1])) gA0)) gYes (gC (.int 0))
noncomputable def zbo (Ψ:Str->Fn):GE:=zba [none,none,none,some 4] (.tp [1,2]) (gZip (gVar 2) (gVar 5)) gYes (gOp2 oAdd (zaa 1) (gArg (gOp2 oMult (zaa 3) (zaa 2))))
noncomputable def zav (Ψ:Str->Fn):GS:=(gSeq (gSet [] 5 (zad [false,false] (Ψ "sign_powers") (gCns (gArg (gOp2 #v[0,0,1] #v[1] (zaa 0))) (gCns #v[3,4] gA0)))) (gSet [] 2 (zbo Ψ)))
noncomputable def zbn (Ψ:Str->Fn):GS:=gFor [] (.tp [3,4]) (zbd (gVar 1)) (zav Ψ)
noncomputable def zbs (Ψ:Str->Fn):GE:=zba [none,none,none] (.tp [1,2]) (zbd (gVar 1)) gYes (gVar 2)
noncomputable def zbr (Ψ:Str->Fn):GE:=zba [none,none,none,some 6] (.tp [1,2]) (zlt (gVar 2)) gYes (zec (gCns #v[1,4] (gCns (gArg (gOp2 #v[0,0,3] (zaa 2) (zaa 3))) gA0)))
noncomputable def za9 (Ψ:Str->Fn):GS:=(gSeq (gSet [] 2 (zbp Ψ)) (gSeq (zbn Ψ) (gSeq (gSet [] 6 (gOpN oSum (gCns (gArg (zbs Ψ)) gA0))) (gRet (zad [false] (Ψ "spread_of_rows") (gCns (gArg (zbr Ψ)) gA0))))))
theorem zgh (Ψ:Str->Fn)(d:Nat):zbe T bn Ψ (d+2) za8=some (za9 Ψ):=by kernel_rfl
theorem zgq:T.find? (·.nm == ("turned_spread" : Str))=some za8:=by kernel_rfl
theorem zgi (d:Nat):sem T bn (d+3) "turned_spread" = zah [false,false] 7 (za9 (sem T bn (d+2))):=zd4 zgq (zgh _ d)
noncomputable def zlr (Ψ:Str->Fn):GS:=(gSeq (zau 1 (gC (.int 0)) (gOp2 oAdd (gArg (gOp2 oIx (zaa 1) #v[0])) (gArg (gOp2 oMult (gArg (gOp2 #v[0,0,2] (gArg (gOpN oAbs (gCns (zaa 3) gA0))) (gArg (gOp2 (oI cPow λi j=>.int (i ^ j.toNat)) #v[10] #v[60])))) (zaa 2))))) (gSet [] 2 (gOp2 oMult (zaa 2) (gArg (gOp2 (oI cPow λi j=>.int (i ^ j.toNat)) #v[10] #v[60])))))
noncomputable def zlj (Ψ:Str->Fn):GS:=gFor [] (.nm 3) (zbd (gSl (zaa 0) zcm (zgu (gC (.int 63))))) (zlr Ψ)
noncomputable def zkd (Ψ:Str->Fn):GS:=(gSeq (gSet [] 5 (gOp2 oAdd (gArg (gOp2 oAdd (gArg (gOp2 #v[0,0,2] (zaa 3) #v[2305843009213693951])) (gArg (gOp2 oMult #v[7919] (zaa 4))))) #v[3])) (zau 1 (gC (.int 1)) (gOp2 #v[0,0,2] (gArg (gOp2 oAdd (gArg (gOp2 oMult (gArg (gOp2 oIx (zaa 1) #v[1])) #v[48271])) (zaa 5))) #v[2305843009213693951])))
noncomputable def zlb (Ψ:Str->Fn):GS:=gFor [] (.tp [4,3]) (zlt (gSl (zaa 0) zcm (zgu (gC (.int 63))))) (zkd Ψ)
noncomputable def zgd (Ψ:Str->Fn):GS:=(gSeq (gSet [] 1 (zap (gCns #v[0] (gCns #v[0] (gCns #v[0] gA0))))) (gSeq (gIfS (zhk (zal (gOp2 (oI yes2 λi j=>.bl (decide (j<i))) (gArg (gOpN oLen (gCns (zaa 0) gA0))) #v[0])) (zal (gOp2 (oI yes2 λi j=>.bl (decide (j<=i))) (gArg (gOp2 oIx (zaa 0) #v[0])) (gArg (gOp2 (oI cPow λi j=>.int (i ^ j.toNat)) #v[10] #v[18]))))) (gSeq (gSet [] 2 (gC (.int 1))) (zlj Ψ)) zd2) (gSeq (zlb Ψ) (zdj [] 1))))
theorem znq (Ψ:Str->Fn)(d:Nat):zbe T bn Ψ (d+2) zc7=some (zgd Ψ):=by kernel_rfl
theorem znj:T.find? (·.nm == ("_law_hand" : Str))=some zc7:=by kernel_rfl
theorem zmz (d:Nat):sem T bn (d+3) "_law_hand" = zah [false] 6 (zgd (sem T bn (d+2))):=zd4 znj (znq _ d)
noncomputable def zg3 (Ψ:Str->Fn):GS:=(gSeq (gIfS (zal (gOp2 (oI yes2 λi j=>.bl (decide (j<i))) (gArg (gOp2 oIx (zaa 0) #v[0])) #v[0])) (gSeq (gSet [0] 2 (gOp2 #v[0,0,2] (gArg (gOp2 oIx (zaa 0) #v[0])) (zaa 1))) (gSeq (zau 0 (gC (.int 0)) (gOp2 #v[0,0,3] (gArg (gOp2 oIx (zaa 0) #v[0])) (zaa 1))) (zdj [0] 2))) zd2) (gSeq (zau 0 (gC (.int 2)) (gOp2 oAdd (gArg (gOp2 oIx (zaa 0) #v[2])) #v[1])) (gSeq (gSet [0] 3 (gOp2 #v[0,0,2] (gArg (gOp2 oMult (gArg (gOp2 oAdd (gArg (gOp2 oAdd (gArg (gOp2 oIx (zaa 0) #v[1])) (gArg (gOp2 oMult (gArg (gOp2 oMult #v[65537] (gArg (gOp2 oIx (zaa 0) #v[2])))) (gArg (gOp2 oIx (zaa 0) #v[2])))))) #v[11])) #v[48271])) #v[2305843009213693921])) (gSeq (gSet [0] 3 (gOp2 #v[0,0,2] (gArg (gOp2 oMult (zaa 3) (gArg (gOp2 oAdd (gArg (gOp2 #v[0,0,2] (zaa 3) #v[1000003])) (gArg (gOp2 oMult #v[99991] (gArg (gOp2 oIx (zaa 0) #v[2])))))))) #v[2305843009213693907])) (gRet (gOp2 #v[0,0,2] (gArg (gOp2 oAdd (gArg (gOp2 #v[0,0,3] (zaa 3) #v[97])) (gArg (gOp2 #v[0,0,3] (zaa 3) #v[1000033])))) (zaa 1)))))))
theorem zne (Ψ:Str->Fn)(d:Nat):zbe T bn Ψ (d+2) zcy=some (zg3 Ψ):=by kernel_rfl
theorem znc:T.find? (·.nm == ("_law_take" : Str))=some zcy:=by kernel_rfl
theorem znp (d:Nat):sem T bn (d+3) "_law_take" = zah [true,false] 4 (zg3 (sem T bn (d+2))):=zd4 znc (zne _ d)
noncomputable def zkv (Ψ:Str->Fn):GS:=(gSeq (gSet [0] 5 (zad [true,false] (Ψ "_law_take") (gCns (zaa 0) (gCns (gArg (gOp2 oIx (gArg (zap (gCns #v[2] (gCns #v[5] (gCns #v[5] gA0))))) (zaa 2))) gA0)))) (zem (gApp 3 (gOp2 oIx (gArg (zap (gCns #v[5,4] (gCns (gArg (gOpN oInt (gCns (gArg (gOp2 oEq (zaa 5) #v[0])) gA0))) (gCns (gArg (gOpN oInt (gCns (gArg (gOp2 (oI yes2 λi j=>.bl (decide (j<i))) (zaa 5) #v[0])) gA0))) gA0))))) (zaa 2)))))
noncomputable def zj4 (Ψ:Str->Fn):GS:=gFor [0] (.nm 4) (zb4 (gCns (zaa 1) gA0)) (zkv Ψ)
noncomputable def zga (Ψ:Str->Fn):GS:=(gSeq (gSet [0] 2 (zad [true,false] (Ψ "_law_take") (gCns (zaa 0) (gCns #v[4] gA0)))) (gSeq (gIfS (zal (gOp2 oEq (zaa 2) #v[3])) (gRet (gOp2 oMult (gArg (zap (gCns (gArg (zad [true,false] (Ψ "_law_take") (gCns (zaa 0) (gCns #v[2] gA0)))) gA0))) (zaa 1))) zd2) (gSeq (gSet [0] 3 (zap gA0)) (gSeq (zj4 Ψ) (zdj [0] 3)))))
theorem zme (Ψ:Str->Fn)(d:Nat):zbe T bn Ψ (d+2) zc0=some (zga Ψ):=by kernel_rfl
theorem zlz:T.find? (·.nm == ("_law_bits" : Str))=some zc0:=by kernel_rfl
theorem zn0 (d:Nat):sem T bn (d+3) "_law_bits" = zah [true,false] 6 (zga (sem T bn (d+2))):=zd4 zlz (zme _ d)
noncomputable def ziv (Ψ:Str->Fn):GE:=zba [none,none,some 3] (.nm 1) (zpt 2) gYes (gOp2 oAdd (zaa 1) (gArg (zec (gCns #v[2,4] gA0))))
noncomputable def zi9 (Ψ:Str->Fn):GS:=(gSet [] 2 (gOp2 oAdd (zaa 2) (gArg (ziv Ψ))))
noncomputable def zi5 (Ψ:Str->Fn):GS:=gFor [] (.nm 3) (zb4 (gCns (zaa 0) gA0)) (zi9 Ψ)
noncomputable def zia (Ψ:Str->Fn):GE:=zba [none,none,some 1] (.nm 1) (zpt 2) (zal (gOp2 (oI yes2 λi j=>.bl (decide (i<=j))) (gArg (gOpN oLen (gCns (zaa 1) gA0))) (zaa 2))) (gVar 1)
noncomputable def zag (Ψ:Str->Fn):GS:=(gSeq (gSet [] 2 (zap (gCns (gArg (zec gA0)) gA0))) (gSeq (zi5 Ψ) (gRet (zvc (zec (gCns (gArg (gOpN oLen (gCns (zaa 0) gA0))) (gCns #v[0,4] gA0))) (gArg (zia Ψ))))))
theorem zke (Ψ:Str->Fn)(d:Nat):zbe T bn Ψ (d+2) zcc=some (zag Ψ):=by kernel_rfl
theorem zky:T.find? (·.nm == ("_law_terms" : Str))=some zcc:=by kernel_rfl
theorem zld (d:Nat):sem T bn (d+3) "_law_terms" = zah [false,false] 4 (zag (sem T bn (d+2))):=zd4 zky (zke _ d)
noncomputable def zhl (Ψ:Str->Fn):GE:=zba [none,none,some 2] (.nm 1) (zbd (gVar 1)) gYes (gOp2 oEq (gArg (gOp2 #v[0,0,2] (gArg (gOp2 #v[0,0,3] (zaa 2) (gArg (gOp2 #v[0,0,1] #v[1] (zaa 1))))) #v[2])) #v[1])
noncomputable def zhc (Ψ:Str->Fn):GE:=zba [none,none,some 3] (.nm 1) (zbd (gVar 1)) (zal (gOpN (oBl λbs=>bs.all id) (gCns (gArg (zhl Ψ)) gA0))) (gVar 1)
noncomputable def zhf (Ψ:Str->Fn):GS:=(gSeq (gSet [] 4 (zhc Ψ)) (zem (gApp 2 (gOp2 #v[0,0,2] (gArg (gOpN oLen (gCns (zaa 4) gA0))) #v[2]))))
noncomputable def zhm (Ψ:Str->Fn):GS:=gFor [] (.nm 3) (zb4 (gCns (gArg (gOp2 #v[0,0,1] #v[1] (zaa 0))) gA0)) (zhf Ψ)
noncomputable def zek (Ψ:Str->Fn):GS:=(gSeq (gSet [] 2 (zap gA0)) (gSeq (zhm Ψ) (zdj [] 2)))
theorem zit (Ψ:Str->Fn)(d:Nat):zbe T bn Ψ (d+2) zbu=some (zek Ψ):=by kernel_rfl
theorem zic:T.find? (·.nm == ("_law_values" : Str))=some zbu:=by kernel_rfl
theorem zjb (d:Nat):sem T bn (d+3) "_law_values" = zah [false,false] 5 (zek (sem T bn (d+2))):=zd4 zic (zit _ d)
noncomputable def zls (Ψ:Str->Fn):GE:=zba [none,none,none] (.tp [1,2]) (gZip (gVar 3) (zad [true,false] (Ψ "_law_bits") (gCns (zaa 0) (gCns (gArg (gOpN oLen (gCns (zaa 3) gA0))) gA0)))) (zal (gOp2 oEq (zaa 2) #v[1])) (gVar 1)
noncomputable def zgg (Ψ:Str->Fn):GS:=(gSeq (gSet [0] 3 (zad [false,false] (Ψ "_law_terms") (gCns #v[1,4] (gCns #v[2,4] gA0)))) (gRet (gOpN zco (gCns (gArg (zls Ψ)) gA0))))
theorem znt (Ψ:Str->Fn)(d:Nat):zbe T bn Ψ (d+2) zcu=some (zgg Ψ):=by kernel_rfl
theorem zml:T.find? (·.nm == ("_law_poly" : Str))=some zcu:=by kernel_rfl
theorem zl7 (d:Nat):sem T bn (d+3) "_law_poly" = zah [true,false,false] 4 (zgg (sem T bn (d+2))):=zd4 zml (znt _ d)
noncomputable def zjc (Ψ:Str->Fn):GS:=(gSeq (gSet [0] 4 (zad [true,false] (Ψ "_law_take") (gCns (zaa 0) (gCns (gArg (gOp2 #v[0,0,1] #v[1] (zaa 1))) gA0)))) (zau 2 (gVar 4) (gOp2 #v[0,0,0] #v[1] (gArg (gOp2 oIx (zaa 2) (zaa 4))))))
noncomputable def zid (Ψ:Str->Fn):GS:=gFor [0] (.nm 3) (zb4 (gCns (gArg (zad [true,false] (Ψ "_law_take") (gCns (zaa 0) (gCns #v[4] gA0)))) gA0)) (zjc Ψ)
noncomputable def zff (Ψ:Str->Fn):GS:=(gSeq (gIfS (zal (gOp2 oEq (gArg (zad [true,false] (Ψ "_law_take") (gCns (zaa 0) (gCns #v[2] gA0)))) #v[0])) (gRet (zad [true,false] (Ψ "_law_bits") (gCns (zaa 0) (gCns (gArg (gOp2 #v[0,0,1] #v[1] (zaa 1))) gA0)))) zd2) (gSeq (gSet [0] 2 (zad [false,false] (Ψ "_law_values") (gCns #v[1,4] (gCns (gArg (zad [true,false,false] (Ψ "_law_poly") (gCns (zaa 0) (gCns #v[1,4] (gCns (gArg (zad [true,false] (Ψ "_law_take") (gCns (zaa 0) (gCns (gArg (gOp2 oAdd (zaa 1) #v[1])) gA0)))) gA0))))) gA0)))) (gSeq (zid Ψ) (zdj [0] 2))))
theorem zkm (Ψ:Str->Fn)(d:Nat):zbe T bn Ψ (d+2) zb8=some (zff Ψ):=by kernel_rfl
theorem zjp:T.find? (·.nm == ("_law_drawn" : Str))=some zb8:=by kernel_rfl
theorem e__law_drawn (d:Nat):sem T bn (d+3) "_law_drawn" = zah [true,false] 5 (zff (sem T bn (d+2))):=zd4 zjp (zkm _ d)
noncomputable def zb6 (Ψ:Str->Fn):GE:=zba [none,none,none] (.tp [1,2]) (gZip (gVar 3) (gVar 4)) gYes (gOp2 #v[0,0,2] (gArg (gOp2 oAdd (zaa 1) (zaa 2))) #v[2])
noncomputable def zcb (Ψ:Str->Fn):GS:=(zkc 2 (gOpN zco (gCns (gArg (zb6 Ψ)) gA0)) (gC (.bl true)))
noncomputable def zda (Ψ:Str->Fn):GS:=gFor [] (.nm 4) (zbd (gLsT 2)) (zcb Ψ)
noncomputable def zbm (Ψ:Str->Fn):GS:=(gIfS (zal (gOp2 (oInD true) (gArg (gOpN zco (gCns (zaa 3) gA0))) (zaa 2))) (zda Ψ) zd2)
noncomputable def zdh (Ψ:Str->Fn):GS:=gFor [] (.nm 3) (zbd (gVar 0)) (zbm Ψ)
noncomputable def zc1 (Ψ:Str->Fn):GS:=(gSeq (gSet [] 2 (zt9 (gOp2 zm2 (gArg (zec (gCns #v[0] gA0))) (zaa 1)) (gC (.bl true)))) (gSeq (zdh Ψ) (gRet (gLsT 2))))
theorem zna (Ψ:Str->Fn)(d:Nat):zbe T bn Ψ (d+2) zc6=some (zc1 Ψ):=by kernel_rfl
theorem zny:T.find? (·.nm == ("_law_sums" : Str))=some zc6:=by kernel_rfl
theorem zl0 (d:Nat):sem T bn (d+3) "_law_sums" = zah [false,false] 5 (zc1 (sem T bn (d+2))):=zd4 zny (zna _ d)
noncomputable def zbk (Ψ:Str->Fn):GS:=(gSeq (gSet [] 4 (zqa 3 (gC (.int 1)))) (zkc 2 (gVar 4) (gOp2 oAdd (gArg (gOp2 oIxD (zaa 2) (zaa 4))) #v[1])))
noncomputable def zcf (Ψ:Str->Fn):GS:=gFor [] (.nm 3) (zbd (gVar 0)) (zbk Ψ)
noncomputable def zcl (Ψ:Str->Fn):GE:=zba [none,none,none] (.tp [1,2]) (zlt (gVar 2)) (zal (gOp2 (oI yes2 λi j=>.bl (decide (j<i))) (zaa 2) #v[0])) (zec (gCns #v[1,4] (gCns #v[2,4] gA0)))
noncomputable def zbv (Ψ:Str->Fn):GS:=(gSeq (gSet [] 2 (gOp2 oMult (gArg (zap (gCns #v[0] gA0))) (gArg (gOp2 oAdd (zaa 1) #v[1])))) (gSeq (zcf Ψ) (gRet (gOpN zco (gCns (gArg (zcl Ψ)) gA0)))))
theorem zi2 (Ψ:Str->Fn)(d:Nat):zbe T bn Ψ (d+2) zbx=some (zbv Ψ):=by kernel_rfl
theorem zig:T.find? (·.nm == ("_law_counts" : Str))=some zbx:=by kernel_rfl
theorem zjg (d:Nat):sem T bn (d+3) "_law_counts" = zah [false,false] 5 (zbv (sem T bn (d+2))):=zd4 zig (zi2 _ d)
noncomputable def zng (Ψ:Str->Fn):GS:=(zem (gExt 3 (zap (gCns (gArg (gOp2 oAdd (zaa 4) (gArg (zec (gCns #v[0] gA0))))) (gCns (gArg (gOp2 oAdd (zaa 4) (gArg (zec (gCns #v[1] gA0))))) gA0)))))
noncomputable def zl3 (Ψ:Str->Fn):GS:=gFor [] (.nm 4) (zpt 1) (zng Ψ)
noncomputable def zl2 (Ψ:Str->Fn):GS:=(gSeq (gSet [] 3 (zap gA0)) (gSeq (zl3 Ψ) (gSet [] 1 (gVar 3))))
noncomputable def znv (Ψ:Str->Fn):GS:=gFor [] (.nm 2) (zb4 (gCns (zaa 0) gA0)) (zl2 Ψ)
noncomputable def za4 (Ψ:Str->Fn):GS:=(gSeq (gSet [] 1 (zap (gCns (gArg (zec gA0)) gA0))) (gSeq (znv Ψ) (zdj [] 1)))
theorem zq1 (Ψ:Str->Fn)(d:Nat):zbe T bn Ψ (d+2) zdy=some (za4 Ψ):=by kernel_rfl
theorem zp9:T.find? (·.nm == ("_law_all" : Str))=some zdy:=by kernel_rfl
theorem zqk (d:Nat):sem T bn (d+3) "_law_all" = zah [false] 5 (za4 (sem T bn (d+2))):=zd4 zp9 (zq1 _ d)
noncomputable def zc9 (Ψ:Str->Fn):GE:=zba [none,none,none] (.tp [1,2]) (gZip (gVar 0) (gVar 1)) gYes (gOp2 oMult (zaa 1) (zaa 2))
noncomputable def zct (Ψ:Str->Fn):GS:=(gRet (gOp2 oEq (gArg (gOp2 #v[0,0,2] (gArg (gOpN oSum (gCns (gArg (zc9 Ψ)) gA0))) #v[2])) #v[0]))
theorem zni (Ψ:Str->Fn)(d:Nat):zbe T bn Ψ (d+2) zc4=some (zct Ψ):=by kernel_rfl
theorem zm8:T.find? (·.nm == ("_law_even" : Str))=some zc4:=by kernel_rfl
theorem zm7 (d:Nat):sem T bn (d+3) "_law_even" = zah [false,false] 2 (zct (sem T bn (d+2))):=zd4 zm8 (zni _ d)
noncomputable def zs9 (Ψ:Str->Fn):GE:=zba [none,none,some 3,some 1] (.nm 1) (zb4 (gCns (gArg (zad [true,false] (Ψ "_law_take") (gCns (zaa 1) (gCns #v[6] gA0)))) gA0)) gYes (zad [true,false] (Ψ "_law_drawn") (gCns (zaa 3) (gCns #v[2,4] gA0)))
noncomputable def ztc (Ψ:Str->Fn):GE:=zba [none,none,some 1] (.nm 1) (zbd (gVar 2)) gYes (zad [false,false] (Ψ "_law_even") (gCns #v[2,4] (gCns #v[1,4] gA0)))
noncomputable def zuc (Ψ:Str->Fn):GE:=zba [none,none,some 5] (.nm 1) (zbd (zad [false] (Ψ "_law_all") (gCns #v[4,4] gA0))) (zal (gOpN (oBl λbs=>bs.all id) (gCns (gArg (ztc Ψ)) gA0))) (gVar 1)
noncomputable def zpr (Ψ:Str->Fn):GS:=(gSeq (gSet [] 3 (gOp2 oAdd #v[1] (gArg (zad [true,false] (Ψ "_law_take") (gCns (zaa 1) (gCns #v[3] gA0)))))) (gSeq (gSet [] 4 (gOp2 #v[0,0,1] #v[1] (zaa 3))) (gSeq (gSet [] 5 (zs9 Ψ)) (gSeq (gSet [] 6 (zad [false,false] (Ψ "_law_counts") (gCns (gArg (zad [false,false] (Ψ "_law_sums") (gCns #v[5,4] (gCns #v[4,4] gA0)))) (gCns #v[4,4] gA0)))) (gSeq (gSet [] 7 (zuc Ψ)) (gIfS (zal (gOp2 oNe (gArg (gOpN zp3 (gCns (gArg (zad [false,false] (Ψ "turned_spread") (gCns #v[3,4] (gCns #v[6,4] gA0)))) gA0))) (gArg (gOpN zp3 (gCns (gArg (zad [false,false] (Ψ "_law_counts") (gCns #v[7,4] (gCns #v[4,4] gA0)))) gA0))))) (gRet (gC (.bl false))) zd2))))))
noncomputable def zvh (Ψ:Str->Fn):GS:=gFor [] (.nm 2) (zb4 (gCns #v[3] gA0)) (zpr Ψ)
noncomputable def z1e (Ψ:Str->Fn):GS:=(gSeq (gSet [] 1 (zad [false] (Ψ "_law_hand") (gCns #v[0,4] gA0))) (gSeq (zvh Ψ) (gRet (gC (.bl true)))))
theorem z7n (Ψ:Str->Fn)(d:Nat):zbe T bn Ψ (d+2) znw=some (z1e Ψ):=by kernel_rfl
theorem z60:T.find? (·.nm == ("law" : Str))=some znw:=by kernel_rfl
theorem z78 (d:Nat):sem T bn (d+3) "law" = zah [false] 8 (z1e (sem T bn (d+2))):=zd4 z60 (z7n _ d)
noncomputable def dkT (t:List Nat):DKey:=.inr (t.map λl:Nat=>(Sum.inl (l:Int):Key))
theorem zm0:∀t:List Nat,keysF (t.map fun l=>W.int (l:Nat))=some (t.map fun l:Nat=>(Sum.inl (l:Int):Key))
  |[]=>rfl
  | l::t=>by
    show (keysF (t.map λl=>W.int (l:Nat))).bind (λks=>some ((Sum.inl (l:Int):Key)::ks))=_;rw[zm0 t];rfl
theorem zvb (t:List Nat):keyD (tmW t)=some (dkT t):=by
 show (keysF (t.map λl=>W.int (l:Nat))).bind (λks=>some (Sum.inr ks:DKey))=_;rw[zm0];rfl
theorem zi3 (a b:List Nat)(h:dkT a=dkT b):a=b:=(List.map_inj_right (f:=λl:Nat=>(Sum.inl (l:Int):Key)) (λx y e=>Int.ofNat.inj (Sum.inl.inj e))).mp (Sum.inr.inj h)
theorem z8f (t:List Nat):dkW (dkT t)=tmW t:=by
 show W.tup ((t.map λl:Nat=>(Sum.inl (l:Int):Key)).map zt6)=_;rw[Be];rfl
theorem z4m (D:List (List Nat)):(D.map dkT).map dkW=D.map tmW:=by
 rw[Be];exact Cz λt _=>z8f t
theorem zl6 (t:List Nat)(L:List (List Nat)):zcg (dkT t) (L.map dkT)=true:=by
 unfold zcg;rw[List.all_map,Ay];intro x _;rfl
noncomputable def adT (a b:List Nat):List Nat:=List.zipWith (λx y=>(x+y) % 2) a b
noncomputable def lsW (a:List Nat):W:=.lst (a.map λl:Nat=>W.int (l:Nat))
noncomputable def allT (D:List (List Nat)):List W:=D.map λ_=>W.bl true
theorem zy3:∀a b:List Nat,List.zipWith (fun x y:Int=>(x+y) % 2) (a.map fun l:Nat=>(l:Int)) (b.map fun l:Nat=>(l:Int))=(adT a b).map fun l:Nat=>(l:Int)
  |[],_=>rfl
  |_::_,[]=>rfl
  | x::a,y::b=>by
    show _::_=_::_;rw[zy3 a b];congr 1
theorem cst (a:List Nat):(a.map λl:Nat=>W.int (l:Nat))=(a.map λl:Nat=>(l:Int)).map W.int:=by rw[Be];rfl
theorem z0g {Ψ:Str->Fn}{v0 v1 v2:Option (W × Bool)}{a b:List Nat}(ha:a.length<=1000):zb6 Ψ [v0,v1,v2,#v[lsW a,6],#v[tmW b,6]]=some ([v0,v1,v2,#v[lsW a,6],#v[tmW b,6]],(.lst ((adT a b).map λl:Nat=>W.int (l:Nat)),true)):=by
 unfold zb6;have gz:(gZip (gVar 3) (gVar 4)) [v0,v1,v2,#v[lsW a,6],#v[tmW b,6]]=some ([v0,v1,v2,#v[lsW a,6],#v[tmW b,6]],zipW ((a.map λl:Nat=>(l:Int)).map W.int) ((b.map λl:Nat=>(l:Int)).map W.int)):=by
  rw[<-cst,<-cst];rfl
 rw[zo0 (f:=λx y=>(x+y) % 2) gz ?_ ?_,zy3,<-cst]
 ·rw[Ac];exact ha
 ·intro v0 x y _ _;simp! []
theorem z03 {Ψ:Str->Fn}{v0 v1:Option (W × Bool)}{a b:List Nat}{D:List (List Nat)}(ha:a.length<=1000)(hD:D.length<5000)(hn:adT a b ∉ D):zcb Ψ [v0,v1,some (.dct (D.map dkT) (allT D),true),#v[lsW a,6],#v[tmW b,6]]=some ([v0,v1,some (.dct ((D++[adT a b]).map dkT) (allT (D++[adT a b])),true),#v[lsW a,6],#v[tmW b,6]],.nx):=by
 unfold zcb;have c:=z0g (Ψ:=Ψ) (v0:=v0) (v1:=v1) (v2:=some (.dct (D.map dkT) (allT D),true)) (a:=a) (b:=b) ha;have s9:(5000:Nat)<=sizeLine:=by decide
 have p:=z6h (i:=2) (k:=gOpN zco (gCns (gArg (zb6 Ψ)) gA0)) (g:=gC (.bl true)) (en:=[v0,v1,some (.dct (D.map dkT) (allT D),true),#v[lsW a,6],#v[tmW b,6]]) (e1:=[v0,v1,some (.dct (D.map dkT) (allT D),true),#v[lsW a,6],#v[tmW b,6]]) (ks:=D.map dkT) (ws:=allT D) (f:=false) (f2:=false) (u:=tmW (adT a b)) (w:=.bl true) (d:=dkT (adT a b)) rfl (by simp! [c];rfl) rfl (zvb _) (zl6 _ _) (by rw[Ac];omega);rw[p];rw[zo9 zi3 hn,zov zi3 _ _ hn];unfold allT;rw[Bn,Bn]
 rfl
theorem z24 {κ:Type}{ks:List DKey}{ws:List W}{u:W}{d:DKey}{o:Option W}(neg:Bool)(hd:keyD u=some d)(hv:valW (ks.zip ws) d=o)(hs:zcg d ks=true):oInD neg u (.dct ks ws)=some (.bl (if o.isSome then !neg else neg),false):=by
 show (keyD u).bind _=_;rw[hd];show (match valW (ks.zip ws) d with
  |some _=>#v[W.bl (!neg),6]
  |none=>if zcg d ks then #v[W.bl neg,6] else none)=_
 rw[hv];cases o with
 |none=>show (if zcg d ks then #v[W.bl neg,6] else none)=_;rw[hs];rfl
 |some w=>rfl
theorem ls_t {v0 v1 v3 v4:Option (W × Bool)}{D:List (List Nat)}(h0:D≠[]):gLsT 2 [v0,v1,some (.dct (D.map dkT) (allT D),true),v3,v4]=some ([v0,v1,some (.dct (D.map dkT) (allT D),true),v3,v4],(.lst (D.map tmW),true)):=by
 cases D with
 |nil=>exact absurd rfl h0
 |cons x D=>rw[<-z4m];rfl
theorem z0n {Ψ:Str->Fn}{v0 v1 v4:Option (W × Bool)}{a:List Nat}{D:List (List Nat)}(ha:a.length<=1000)(h0:D≠[])(hD:D.length<=2000)(hn:(D++D.map (adT a)).Nodup):∃v4',zda Ψ [v0,v1,some (.dct (D.map dkT) (allT D),true),#v[lsW a,6],v4]=some ([v0,v1,some (.dct ((D++D.map (adT a)).map dkT) (allT (D++D.map (adT a))),true),#v[lsW a,6],v4'],.nx):=by
 unfold zda;have hl:=ls_t (v0:=v0) (v1:=v1) (v3:=#v[lsW a,6]) (v4:=v4) h0;have hi:zbd (gLsT 2) [v0,v1,some (.dct (D.map dkT) (allT D),true),#v[lsW a,6],v4]=some ([v0,v1,some (.dct (D.map dkT) (allT D),true),#v[lsW a,6],v4],D.map tmW):=by
  unfold zbd;rw[hl];rfl
 obtain⟨en',h,v4',rfl⟩:=zb3 (mp:=[]) (T:=.nm 4) (body:=zcb Ψ) (λi e=>∃v4',e=[v0,v1,some (.dct ((D++(D.take i).map (adT a)).map dkT) (allT (D++(D.take i).map (adT a))),true),#v[lsW a,6],v4']) hi ⟨v4,by rw[Ev,List.map_nil,Bx]⟩ λi w e hw ⟨u,he⟩=>by
  subst he;rw[Ap] at hw;obtain⟨b,hb,rfl⟩:=Eh.mp hw;have hi:i<D.length:=(Ai.mp hb).1;have ht:D.take (i+1)=D.take i++[b]:=by rw[Hg,hb];rfl
  have nin:adT a b ∉ D++(D.take i).map (adT a):=by
   have e:D++D.map (adT a)=(D++(D.take i).map (adT a))++(D.drop i).map (adT a):=by rw[Az,<-Bn,Bq]
   rw[e] at hn;have hd:adT a b∈(D.drop i).map (adT a):=Bf.mpr ⟨b,by rw[Cq hi,(Ai.mp hb).2];exact Av,rfl⟩;exact λz=>(List.nodup_append.mp hn).2.2 _ z _ hd rfl
  have l1:(D++(D.take i).map (adT a)).length<5000:=by
   rw[Bb,Ac,Dp];omega
  refine⟨[v0,v1,some (.dct ((D++(D.take i).map (adT a)).map dkT) (allT (D++(D.take i).map (adT a))),true),#v[lsW a,6],#v[tmW b,6]],_,rfl,.inl (z03 ha l1 nin),#v[tmW b,6],?_⟩;rw[show D++(D.take (i+1)).map (adT a)=D++(D.take i).map (adT a)++[adT a b] from by rw[ht,Bn,Az];rfl]
 refine⟨v4',?_⟩;rw[Ac,Co] at h;exact h
theorem z2j {D:List (List Nat)}{a:List Nat}(h:a ∉ D):valW ((D.map dkT).zip (allT D)) (dkT a)=none:=by
 unfold allT;rw[zf2 zi3 (λ_=>W.bl true) a D,if_neg h]
theorem zz5 {mp:List Nat}{T:Tg}{body:GS}{w:W}{us:List W}{e e1 e2:En}{r:Option (En × Fl)}(h1:tgSet mp T w e=some e1)(h2:body e1=some (e2,.nx))(h3:zd8 mp T body us e2=r):zd8 mp T body (w::us) e=r:=by
 have sh:zd8 mp T body (w::us) e=(match body e1 with|some (e2,.nx)=>zd8 mp T body us e2|some (e2,.cnt)=>zd8 mp T body us e2|some (e2,.brk)=>some (e2,.nx)|some (e2,.ret r)=>some (e2,.ret r)|none=>none):=by
  show (tgSet mp T w e).bind _=_;rw[h1];rfl
 rw[sh,h2];exact h3
theorem z3s {mp:List Nat}{T:Tg}{it:GL}{body:GS}{en e0:En}{ws:List W}{r:Option (En × Fl)}(hi:it en=some (e0,ws))(h:zd8 mp T body ws e0=r):gFor mp T it body en=r:=by
 unfold gFor;rw[hi];exact h
noncomputable def zrT (n:Nat):List Nat:=List.replicate n 0
noncomputable def Row (n:Nat) (a:List Nat):Prop:=a.length=n/\∀x∈a,x=0\/x=1
theorem Row.nil:Row 0 []:=⟨rfl,λ_ h=>nomatch h⟩
theorem Row.cons {n x:Nat}{a:List Nat}(h:Row (n+1) (x::a)):(x=0\/x=1)/\Row n a:=⟨h.2 x Av,by have:=h.1;rw[Ba] at this;omega,λy hy=>h.2 y (As _ hy)⟩
theorem Row.mk {n x:Nat}{a:List Nat}(hx:x=0\/x=1)(h:Row n a):Row (n+1) (x::a):=⟨by rw[Ba,h.1],λy hy=>(At.mp hy).elim (λe=>e ▸ hx) (h.2 y)⟩
theorem zri:∀{n:Nat}{a b:List Nat},Row n a->Row n b->Row n (adT a b)
  | 0,a,b,ha,hb=>by
    obtain rfl:=Bw.mp ha.1;exact Row.nil
  |n+1,[],_,ha,_=>by have:=ha.1;cases this
  |n+1,_::_,[],_,hb=>by have:=hb.1;cases this
  | n+1,x::a,y::b,ha,hb=>by
    obtain⟨h1,h2⟩:=ha.cons;obtain⟨h3,h4⟩:=hb.cons;exact Row.mk (by rcases h1 with rfl|rfl<;>rcases h3 with rfl|rfl<;>decide) (zri h2 h4)
theorem zb9:∀{n:Nat}{a b:List Nat},Row n a->Row n b->adT a (adT a b)=b
  | 0,a,b,ha,hb=>by
    obtain rfl:=Bw.mp ha.1;obtain rfl:=Bw.mp hb.1
    rfl
  |n+1,[],_,ha,_=>by have:=ha.1;cases this
  |n+1,_::_,[],_,hb=>by have:=hb.1;cases this
  | n+1,x::a,y::b,ha,hb=>by
    obtain⟨h1,h2⟩:=ha.cons;obtain⟨h3,h4⟩:=hb.cons;show ((x+(x+y) % 2) % 2)::adT a (adT a b)=y::b;rw[zb9 h2 h4];congr 1;omega
theorem zfv:∀a b:List Nat,adT a b=adT b a
  |[],[]=>rfl
  |[],_::_=>rfl
  |_::_,[]=>rfl
  | x::a,y::b=>by
    show ((x+y) % 2)::adT a b=((y+x) % 2)::adT b a;rw[zfv a b,Nat.add_comm]
theorem zdi:∀a b c:List Nat,adT (adT a b) c=adT a (adT b c)
  |[],_,_=>rfl
  |_::_,[],_=>rfl
  |_::_,_::_,[]=>rfl
  | x::a,y::b,z::c=>by
    show (((x+y) % 2+z) % 2)::adT (adT a b) c=((x+(y+z) % 2) % 2)::adT a (adT b c);rw[zdi a b c];congr 1;omega
theorem zrq:∀{n:Nat}{a:List Nat},Row n a->adT a (List.replicate n 0)=a
  | 0,a,h=>by
    obtain rfl:=Bw.mp h.1
    rfl
  |n+1,[],h=>by have:=h.1;cases this
  | n+1,x::a,h=>by
    obtain⟨h1,h2⟩:=h.cons;rw[Bi];show ((x+0) % 2)::adT a (List.replicate n 0)=x::a;rw[zrq h2];congr 1;omega
noncomputable def dtT:List Nat->List Nat->Nat
 |x::a,y::b=>x * y+dtT a b
 |_,_=>0
noncomputable def chT (v d:List Nat):Int:=1 - 2 * ((dtT v d % 2:Nat):Int)
theorem ztx:∀v a b:List Nat,a.length=b.length->dtT v (adT a b) % 2=(dtT v a+dtT v b) % 2
  |[],[],[],_=>rfl
  |[],_::_,_::_,_=>rfl
  |[],[],_::_,h=>by cases h
  |[],_::_,[],h=>by cases h
  |_::_,[],[],_=>rfl
  |_::_,[],_::_,h=>by cases h
  |_::_,_::_,[],h=>by cases h
  | z::v,x::a,y::b,h=>by
    have i:=ztx v a b (by rw[Ba,Ba] at h;omega);show (z * ((x+y) % 2)+dtT v (adT a b)) % 2=(z * x+dtT v a+(z * y+dtT v b)) % 2;have e:(z * ((x+y) % 2)) % 2=(z * x+z * y) % 2:=by rw[<-Nat.mul_add,Nat.mul_mod,Nat.mod_mod,<-Nat.mul_mod]
    omega
theorem z6v {v a b:List Nat}(h:a.length=b.length):chT v (adT a b)=chT v a * chT v b:=by
 have e:=ztx v a b h;unfold chT;rcases Hb (dtT v a) with h1|h1<;>rcases Hb (dtT v b) with h2|h2<;>rw[e,Nat.add_mod,h1,h2]<;>rfl
theorem zy2 (v d:List Nat):(dtT v d % 2=0/\chT v d=1)\/(dtT v d % 2=1/\chT v d=-1):=by
 unfold chT;rcases Hb (dtT v d) with h1|h1<;>rw[h1]
 ·exact .inl ⟨rfl,rfl⟩
 ·exact .inr ⟨rfl,rfl⟩
structure Grp (n:Nat) (D:List (List Nat)):Prop where
 row:∀d∈D,Row n d
 nd:D.Nodup
 zr:List.replicate n 0∈D
 cl:∀a∈D,∀b∈D,adT a b∈D
noncomputable def smL' {α:Type} (L:List α) (f:α->Int):Int:=(L.map f).sum
theorem zak {α:Type}(x:α)(L:List α)(f:α->Int):smL' (x::L) f=f x+smL' L f:=by unfold smL';rw[Ah,Hk]
theorem ztm {α:Type}(L M:List α)(f:α->Int):smL' (L++M) f=smL' L f+smL' M f:=by unfold smL';rw[Bn,List.sum_append]
theorem zjk {α β:Type}(L:List α)(g:α->β)(f:β->Int):smL' (L.map g) f=smL' L λx=>f (g x):=by unfold smL';rw[Be];rfl
theorem za1 {α:Type}{L:List α}{f g:α->Int}(h:∀x∈L,f x=g x):smL' L f=smL' L g:=by unfold smL';rw[Cz h]
theorem zmm {α:Type}(c:Int)(f:α->Int):∀L:List α,smL' L (λx=>c * f x)=c * smL' L f
 |[]=>(Int.mul_zero c).symm
 |x::L=>by rw[zak,zak,zmm c f L,Int.mul_add]
theorem znd {α:Type}(f g:α->Int):∀L:List α,smL' L (λx=>f x+g x)=smL' L f+smL' L g
 |[]=>rfl
 |x::L=>by rw[zak,zak,zak,znd f g L];omega
theorem zdz {α:Type}:∀L:List α,smL' L (λ_=>0)=0
 |[]=>rfl
 |x::L=>by rw[zak,zdz L];rfl
theorem zlv {α:Type}:∀L:List α,smL' L (λ_=>1)=(L.length:Int)
 |[]=>rfl
 |x::L=>by rw[zak,zlv L,Ba];omega
theorem zot {α β:Type}(h:α->β->Int)(M:List β):∀L:List α,smL' L (λx=>smL' M λy=>h x y)=smL' M λy=>smL' L λx=>h x y
 |[]=>(zdz M).symm
 |x::L=>by rw[zak,zot h M L,<-znd];exact za1 λy _=>(zak x L λx=>h x y).symm
theorem zw7 {α:Type}{L M:List α}(f:α->Int)(p:L.Perm M):smL' L f=smL' M f:=by
 unfold smL'
 induction p with
 |nil=>rfl
 |cons x _ ih=>rw[Ah,Ah,Hk,Hk,ih]
 |swap x y l=>simp only [Ah,Hk];omega
 |trans _ _ a b=>exact a.trans b
theorem zwd {n:Nat}{D:List (List Nat)}(G:Grp n D){a:List Nat}(ha:a∈D):(D.map (adT a)).Perm D:=by
 have ra:=G.row a ha;refine (List.perm_ext_iff_of_nodup ?_ G.nd).mpr λx=>?_
 ·refine Dh.mpr (G.nd.imp_of_mem λ{b c} hb hc ne e=>ne ?_);rw[<-zb9 ra (G.row b hb),e,zb9 ra (G.row c hc)]
 ·rw[Bf];constructor
  ·rintro ⟨b,hb,rfl⟩;exact G.cl a ha b hb
  ·intro hx;exact⟨adT a x,G.cl a ha x hx,zb9 ra (G.row x hx)⟩
noncomputable def evA (D:List (List Nat)) (v:List Nat):Bool:=D.all λd=>decide (dtT v d % 2=0)
theorem z5o {n:Nat}{D:List (List Nat)} (G:Grp n D) (v:List Nat):smL' D (chT v)=if evA D v then (D.length:Int) else 0:=by
  cases e:evA D v with
  | true =>
    rw[if_pos rfl,<-zlv];refine za1 λd hd=>?_;have:=Ar (Ay.mp e d hd);rcases zy2 v d with h|h
    · exact h.2
    · omega
  | false =>
    rw [if_neg (by decide)];have ⟨a,ha,h⟩ : ∃a∈D,dtT v a % 2≠0:=by
      refine Classical.byContradiction λz=>?_;have:evA D v=true:=Ay.mpr λd hd=>Aj (Classical.byContradiction λy=>z ⟨d,hd,y⟩);rw[this] at e;cases e
    have ca:chT v a=-1:=by
      rcases zy2 v a with z|z
      · exact absurd z.1 h
      · exact z.2
    have p:=zw7 (chT v) (zwd G ha);rw[zjk,za1 (g:=λd=>-1 * chT v d) λd hd=>by rw[z6v ((G.row a ha).1.trans (G.row d hd).1.symm),ca],zmm] at p;omega
noncomputable def allR:Nat->List (List Nat)
 |0=>[[]]
 |n+1=>(allR n).map (0 :: ·)++(allR n).map (1 :: ·)
theorem zcw:∀{n:Nat}{v:List Nat},v∈allR n↔Row n v
  | 0,v=>by
    constructor
    · intro h;obtain rfl:=Aq.mp h;exact Row.nil
    · intro h;obtain rfl:=Bw.mp h.1;exact Aq.mpr rfl
  | n+1,v=>by
    show v∈(allR n).map (0 :: ·)++(allR n).map (1 :: ·)↔_;rw[Bo,Bf,Bf];constructor
    · rintro (⟨w, hw, rfl⟩ | ⟨w, hw, rfl⟩)
      · exact Row.mk (.inl rfl) (zcw.mp hw)
      · exact Row.mk (.inr rfl) (zcw.mp hw)
    · intro h
      cases v with
      |nil=>have:=h.1;cases this
      | cons x v =>
        obtain⟨h1,h2⟩:=h.cons;rcases h1 with rfl|rfl
        · exact .inl ⟨v,zcw.mpr h2,rfl⟩
        · exact .inr ⟨v,zcw.mpr h2,rfl⟩
theorem zut:∀n:Nat,(allR n).Nodup
  |0=>Da.mpr ⟨Cp,Ga⟩
  | n+1=>by
    refine List.nodup_append.mpr ⟨Dh.mpr ((zut n).imp λne e=>ne (Hl e).2),Dh.mpr ((zut n).imp λne e=>ne (Hl e).2),λa ha b hb e=>?_⟩;obtain⟨x,_,rfl⟩:=Bf.mp ha;obtain⟨y,_,rfl⟩:=Bf.mp hb;cases e
noncomputable def wtT (v:List Nat):Nat:=v.count 1
noncomputable def stF (s:Int) (f:Nat->Int) (j:Nat):Int:=f j+s * (match j with|0=>0|i+1=>f i)
theorem zwi (s t:Int) (f:Nat->Int):stF s (stF t f)=stF t (stF s f):=by
  funext j
  unfold stF
  match j with
  |0=>simp
  |1=>simp;omega
  | j+2 =>
    show f (j+2)+t * f (j+1)+s * (f (j+1)+t * f j)=f (j+2)+s * f (j+1)+t * (f (j+1)+s * f j);rw[Int.mul_add,Int.mul_add,<-Int.mul_assoc,<-Int.mul_assoc,Int.mul_comm s t];omega
noncomputable def dl0 (j:Nat):Int:=if j=0 then 1 else 0
noncomputable def sgT (x:Nat):Int:=if x=1 then -1 else 1
noncomputable def pwF:List Int->Nat->Int
 |[]=>dl0
 |s::L=>stF s (pwF L)
theorem zoc {L M:List Int}(p:L.Perm M):pwF L=pwF M:=by
 induction p with
 |nil=>rfl
 |cons x _ ih=>show stF x _=stF x _;rw[ih]
 |swap x y l=>exact zwi y x (pwF l)
 |trans _ _ a b=>exact a.trans b
theorem zvm (v d:List Nat)(y:Nat):chT (0::v) (y::d)=chT v d:=by
 unfold chT;rw[show dtT (0::v) (y::d)=dtT v d from by show 0 * y+dtT v d=_;omega]
theorem zxx (v d:List Nat){y:Nat}(h:y=0\/y=1):chT (1::v) (y::d)=sgT y * chT v d:=by
 unfold chT sgT;rw[show dtT (1::v) (y::d)=y+dtT v d from by show 1 * y+dtT v d=_;omega];rcases h with rfl|rfl
 ·rw[if_neg #v[0,9],Cf,Int.one_mul]
 ·rw[if_pos rfl];omega
theorem pw_all:∀{n:Nat}{d:List Nat},Row n d->∀j,smL' (allR n) (fun v=>if wtT v=j then chT v d else 0)=pwF (d.map sgT) j
  | 0,d,h,j=>by
    obtain rfl:=Bw.mp h.1;show smL' [[]] _=dl0 j;rw[zak];unfold dl0;show (if 0=j then 1 else 0)+0=_;by_cases c:j=0
    · subst c;rfl
    · rw[if_neg c,if_neg λz=>c z.symm];rfl
  |n+1,[],h,_=>by have:=h.1;cases this
  | n+1,y::d,h,j=>by
    obtain⟨h1,h2⟩:=h.cons;show smL' ((allR n).map (0 :: ·)++(allR n).map (1 :: ·)) _=stF (sgT y) (pwF (d.map sgT)) j;rw[ztm,zjk,zjk];unfold stF;congr 1
    · rw [<- pw_all h2 j]
      refine za1 λv _=>?_;rw[zvm,show wtT (0::v)=wtT v from by unfold wtT;rw[Em];rfl]
    · have e : ∀ v, wtT (1 :: v) = wtT v + 1 := fun v => by unfold wtT; rw [Em]; rfl
      cases j with
      | zero =>
        show _=sgT y * 0;rw[Int.mul_zero];exact (za1 (g:=λ_=>0) λv _=>by rw[e,if_neg #v[]]).trans (zdz _)
      | succ j =>
        show _=sgT y * pwF (d.map sgT) j;rw[<-pw_all h2 j,<-zmm];refine za1 λv _=>?_;rw[e,zxx v d h1];by_cases c:wtT v=j
        · rw[if_pos #v[],if_pos c]
        · rw[if_neg #v[],if_neg c,Int.mul_zero]
noncomputable def cnE (n:Nat) (D:List (List Nat)) (j:Nat):Nat:=((allR n).filter λv=>evA D v && decide (wtT v=j)).length
theorem zht {α:Type} (p:α->Bool) (c:Int):∀L:List α,smL' L (fun x=>if p x then c else 0)=c * ((L.filter p).length:Int)
  |[]=>(Int.mul_zero c).symm
  | x::L=>by
    rw[zak,zht p c L];cases h:p x with
    |true=>rw[Di h,Ba,if_pos rfl,show ((List.length (L.filter p)+1:Nat):Int)=(L.filter p).length+1 from rfl,Int.mul_add];omega
    |false=>rw[Dj (by rw[h];decide),if_neg #v[0,9]];omega
theorem macw {n:Nat}{D:List (List Nat)}(G:Grp n D)(j:Nat):smL' D (λd=>pwF (d.map sgT) j)=(D.length:Int) * (cnE n D j:Int):=by
 rw[za1 (g:=λd=>smL' (allR n) λv=>if wtT v=j then chT v d else 0) λd hd=>(pw_all (G.row d hd) j).symm,zot];unfold cnE;rw[<-zht];refine za1 λv _=>?_;by_cases c:wtT v=j
 ·rw[za1 (g:=chT v) λd _=>by rw[if_pos c],z5o G v,Aj c,Hm]
 ·rw[za1 (g:=λ_=>0) λd _=>by rw[if_neg c],zdz,Bg c,Hd,if_neg #v[0,9]]
noncomputable def sgR (n w:Nat):List Int:=(List.range n).map λi=>if i<w then -1 else 1
theorem z0a (n w:Nat)(h:w<=n):sgR n w=List.replicate w (-1)++List.replicate (n - w) 1:=by
 show (List.range n).map (λi=>if i<w then (-1:Int) else 1)=_;refine List.ext_getElem (by simp;omega) λi h1 h2=>?_;rw[List.getElem_map,List.getElem_range,List.getElem_append];simp only [Du,List.getElem_replicate];split<;>rfl
theorem znr:∀{n:Nat}{d:List Nat},Row n d->(d.map sgT).Perm (List.replicate (wtT d) (-1)++List.replicate (n - wtT d) 1)/\wtT d<=n
  | 0,d,h=>by
    obtain rfl:=Bw.mp h.1;exact⟨.refl _,Af _⟩
  |n+1,[],h=>by have:=h.1;cases this
  | n+1,y::d,h=>by
    obtain⟨h1,h2⟩:=h.cons;obtain⟨p,l⟩:=znr h2;rcases h1 with rfl|rfl
    · have e : wtT (0 :: d) = wtT d := by unfold wtT; rw [Em]; rfl
      rw[e,show n+1 - wtT d=(n - wtT d)+1 by omega,Bi];exact⟨(p.cons 1).trans (List.perm_middle).symm,by omega⟩
    · have e : wtT (1 :: d) = wtT d + 1 := by unfold wtT; rw [Em]; rfl
      rw[e,show n+1 - (wtT d+1)=n - wtT d by omega,Bi];exact⟨p.cons (-1),by omega⟩
theorem z3n {n:Nat}{d:List Nat}(h:Row n d):pwF (d.map sgT)=pwF (sgR n (wtT d)):=by
 obtain⟨p,l⟩:=znr h;rw[z0a n _ l];exact zoc p
noncomputable def zaz (D:List (List Nat)) (a:List Nat):List (List Nat):=if a∈D then D else D++D.map (adT a)
theorem zsc {n:Nat}{D:List (List Nat)}{a:List Nat}(G:Grp n D)(ha:Row n a)(h:a ∉ D):(D++D.map (adT a)).Nodup:=by
 refine List.nodup_append.mpr ⟨G.nd,Dh.mpr (G.nd.imp_of_mem λ{b c} hb hc ne e=>ne ?_),λx hx y hy e=>?_⟩
 ·subst e;obtain⟨d,hd,rfl⟩:=Bf.mp hy;refine h ?_;have:=G.cl d hd _ hx;rw[zfv a d,zb9 (G.row d hd) ha] at this;exact this
 ·rw[<-zb9 ha (G.row b hb),e,zb9 ha (G.row c hc)]
theorem zos {n:Nat}{D:List (List Nat)}{a:List Nat}(G:Grp n D)(ha:Row n a):Grp n (zaz D a):=by
 unfold zaz;by_cases h:a∈D
 ·rw[if_pos h];exact G
 rw[if_neg h];refine⟨λd hd=>?_,zsc G ha h,De _ G.zr,λx hx y hy=>?_⟩
 ·rcases Bo.mp hd with hd|hd
  ·exact G.row d hd
  ·obtain⟨e,he,rfl⟩:=Bf.mp hd;exact zri ha (G.row e he)
 ·rcases Bo.mp hx with hx|hx <;> rcases Bo.mp hy with hy|hy
  ·exact De _ (G.cl x hx y hy)
  ·obtain⟨e,he,rfl⟩:=Bf.mp hy;refine Aw _ (Bf.mpr ⟨adT x e,G.cl x hx e he,?_⟩);rw[<-zdi,<-zdi,zfv a x]
  ·obtain⟨e,he,rfl⟩:=Bf.mp hx;exact Aw _ (Bf.mpr ⟨adT e y,G.cl e he y hy,(zdi a e y).symm⟩)
  ·obtain⟨e,he,rfl⟩:=Bf.mp hx;obtain⟨g,hg,rfl⟩:=Bf.mp hy;refine De _ ?_;rw[zfv a e,zdi,zb9 ha (G.row g hg)];exact G.cl e he g hg
theorem zyg {n:Nat}{D:List (List Nat)}{a:List Nat}(G:Grp n D)(ha:Row n a):a∈zaz D a/\∀d∈D,d∈zaz D a:=by
 unfold zaz;by_cases h:a∈D
 ·rw[if_pos h];exact⟨h,λ_ hd=>hd⟩
 ·rw[if_neg h];exact⟨Aw _ (Bf.mpr ⟨_,G.zr,zrq ha⟩),λ_ hd=>De _ hd⟩
theorem z0m {n:Nat}{D:List (List Nat)}{a v:List Nat}(G:Grp n D)(ha:Row n a)(h:evA D v=true)(hv:dtT v a % 2=0):evA (zaz D a) v=true:=by
 unfold zaz;by_cases c:a∈D
 ·rw[if_pos c];exact h
 rw[if_neg c];refine Ay.mpr λd hd=>Aj ?_;rcases Bo.mp hd with hd|hd
 ·exact Ar (Ay.mp h d hd)
 ·obtain⟨e,he,rfl⟩:=Bf.mp hd;have:=Ar (Ay.mp h e he);rw[ztx v a e (ha.1.trans (G.row e he).1.symm)];omega
theorem zpl (D:List (List Nat))(a:List Nat):(zaz D a).length<=2 * D.length/\D.length<=(zaz D a).length:=by
 unfold zaz;split
 ·omega
 ·rw[Bb,Ac];omega
theorem z15:∀(as D:List (List Nat)) {n:Nat},Grp n D->(∀a∈as,Row n a)->Grp n (as.foldl zaz D)/\(∀d∈D,d∈as.foldl zaz D)/\(∀a∈as,a∈as.foldl zaz D)/\(∀v,evA D v=true->(∀a∈as,dtT v a % 2=0)->evA (as.foldl zaz D) v=true)/\(as.foldl zaz D).length<=D.length * 2 ^ as.length
  |[],D,n,G,_=>⟨G,λ_ h=>h,(λ_ h=>nomatch h),λ_ h _=>h,by rw[Fj,Nat.pow_zero,Nat.mul_one];exact Af _⟩
  | a::as,D,n,G,ha=>by
    have ra:=ha a Av;obtain⟨i1,i2,i3,i4,i5⟩:=z15 as (zaz D a) (zos G ra) λb hb=>ha b (As _ hb);obtain⟨m1,m2⟩:=zyg G ra;have l:=(zpl D a).1;refine⟨i1,λd hd=>i2 d (m2 d hd),λb hb=>?_,λv h hv=>i4 v (z0m G ra h (hv a Av)) λb hb=>hv b (As _ hb),?_⟩
    · rcases At.mp hb with rfl | hb
      · exact i2 _ m1
      · exact i3 b hb
    · refine Bv i5 ?_
      rw[Ba,Nat.pow_succ,Nat.mul_comm (2 ^ as.length) 2,<-Nat.mul_assoc];exact Nat.mul_le_mul_right _ #v[]
theorem zu3 (n:Nat):Grp n [zrT n]:=by
 have r:Row n (zrT n):=⟨Du,λx hx=>.inl (List.eq_of_mem_replicate hx)⟩;refine⟨λd hd=>by rw[Aq.mp hd];exact r,Da.mpr ⟨Cp,Ga⟩,Aq.mpr rfl,λa ha b hb=>?_⟩;rw[Aq.mp ha,Aq.mp hb];exact Aq.mpr (zrq r)
theorem z2t {Ψ:Str->Fn}{n:Nat}{v0 v1 v4:Option (W × Bool)}{a:List Nat}{D:List (List Nat)}(G:Grp n D)(ha:Row n a)(hn:n<=1000)(hD:D.length<=2000):∃v4',zbm Ψ [v0,v1,some (.dct (D.map dkT) (allT D),true),#v[lsW a,6],v4]=some ([v0,v1,some (.dct ((zaz D a).map dkT) (allT (zaz D a)),true),#v[lsW a,6],v4'],.nx):=by
 have tu:zco [lsW a]=#v[tmW a,6]:=rfl;unfold zaz;by_cases c:a∈D
 ·rw [if_pos c];refine ⟨v4,?_⟩;have hv:valW ((D.map dkT).zip (allT D)) (dkT a)=some (.bl true):=by
   unfold allT;rw[zf2 zi3 (λ_=>W.bl true) a D,if_pos c]
  have ino:oInD true (tmW a) (.dct (D.map dkT) (allT D))=some (.bl false,false):=z24 (κ:=Nat) (o:=some (.bl true)) true (zvb a) hv (zl6 _ _);unfold zbm;simp! [tu,ino]
 ·rw[if_neg c];obtain⟨v4',h⟩:=z0n (Ψ:=Ψ) (v0:=v0) (v1:=v1) (v4:=v4) (by rw[ha.1];exact hn) (λz=>by have:=G.zr;rw[z] at this;cases this) hD (zsc G ha c);refine⟨v4',?_⟩;have ino:oInD true (tmW a) (.dct (D.map dkT) (allT D))=some (.bl true,false):=z24 (κ:=Nat) (o:=none) true (zvb a) (z2j c) (zl6 _ _);unfold zbm;simp! [tu,ino,h]
theorem zvg {Ψ:Str->Fn}{n:Nat}{v0 v1:Option (W × Bool)} (hn:n<=1000):∀(as:List (List Nat)) (D:List (List Nat)) (v3 v4:Option (W × Bool)),Grp n D->(∀a∈as,Row n a)->D.length * 2 ^ as.length<=2000->∃v3' v4',zd8 [] (.nm 3) (zbm Ψ) (as.map lsW) [v0,v1,some (.dct (D.map dkT) (allT D),true),v3,v4]=some ([v0,v1,some (.dct ((as.foldl zaz D).map dkT) (allT (as.foldl zaz D)),true),v3',v4'],.nx)
  |[],D,v3,v4,_,_,_=>⟨v3,v4,rfl⟩
  | a::as,D,v3,v4,G,ha,hl=>by
    have ra:=ha a Av;rw[Ba,Nat.pow_succ,Nat.mul_comm (2 ^ as.length) 2,<-Nat.mul_assoc] at hl;have p:1<=2 ^ as.length:=Nat.pow_pos #v[0,9];have l1:D.length * 2 * 1<=D.length * 2 * 2 ^ as.length:=Nat.mul_le_mul_left _ p;obtain⟨u4,hb⟩:=z2t (Ψ:=Ψ) (v0:=v0) (v1:=v1) (v4:=v4) G ra hn #v[];obtain⟨w3,w4,hr⟩:=zvg hn as (zaz D a) (#v[lsW a,6]) u4 (zos G ra) (λb hb=>ha b (As _ hb)) (Bv (Nat.mul_le_mul_right _ (by have:=(zpl D a).1;omega)) hl);exact⟨w3,w4,zz5 rfl hb hr⟩
noncomputable def z6n (Φ:Fn):Prop:=∀(as:List (List Nat)) (n:Nat),2<=n->n<=64->as.length<=10->(∀a∈as,Row n a)->Φ [.lst (as.map lsW),.int (n:Nat)]=some ([.lst (as.map lsW),.int (n:Nat)],(.lst ((as.foldl zaz [zrT n]).map tmW),true))
theorem z28 (Ψ:Str->Fn):z6n (zah [false,false] 5 (zc1 Ψ)):=fun as n h2 hn hl ha=>by
  have s9:(1000:Nat)<=sizeLine:=by decide
  have pw:2 ^ as.length<=2 ^ 10:=Cv #v[0,9] hl;obtain⟨w3,w4,hr⟩:=zvg (Ψ:=Ψ) (v0:=#v[(as.map lsW),1]) (v1:=#v[(n:Nat),0]) (show n<=1000 by omega) as [zrT n] none none (zu3 n) ha (by rw[Eo];omega);obtain⟨G,sub,_⟩:=z15 as [zrT n] (zu3 n) ha;have hne:as.foldl zaz [zrT n]≠[]:=λz=>by have:=G.zr;rw[z] at this;cases this
  have hf:zdh Ψ [some (.lst (as.map lsW),false),some (.int (n:Nat),false),some (.dct ([zrT n].map dkT) (allT [zrT n]),true),none,none]=some ([some (.lst (as.map lsW),false),some (.int (n:Nat),false),some (.dct ((as.foldl zaz [zrT n]).map dkT) (allT (as.foldl zaz [zrT n])),true),w3,w4],.nx):=by
    unfold zdh;exact z3s (ws:=as.map lsW) (e0:=[#v[(as.map lsW),1],#v[(n:Nat),0],some (.dct ([zrT n].map dkT) (allT [zrT n]),true),none,none]) rfl hr
  have hlt:=ls_t (v0:=some (.lst (as.map lsW),false)) (v1:=some (.int (n:Nat),false)) (v3:=w3) (v4:=w4) hne;have rp:zm2 (.tup [.int 0]) (.int (n:Nat))=some (tmW (zrT n),false):=by
    have fl:∀k:Nat,(List.replicate k [W.int 0]).flatten=(zrT k).map fun l:Nat=>W.int (l:Nat):=fun k=>by
      induction k with
      |zero=>rfl
      | succ k ih =>
        unfold zrT at ih ⊢;rw[Bi,Bi,Cy,ih];rfl
    show (if (n:Int)=1 then _ else if (n:Int)=0 then _ else if 2<=(n:Int)/\(n:Int)<4611686018427387904/\[W.int 0].length * (n:Int).toNat<=sizeLine then _ else none)=_;rw[if_neg #v[],if_neg #v[],if_pos ⟨by omega,by omega,by show 1 * (n:Int).toNat<=sizeLine;omega⟩,Cs,fl]
    rfl
  have hd:zt9 (gOp2 zm2 (gArg (zec (gCns (gArg (gC (.int 0))) gA0))) (zaa 1)) (gC (.bl true)) [some (.lst (as.map lsW),false),some (.int (n:Nat),false),none,none,none]=some ([some (.lst (as.map lsW),false),some (.int (n:Nat),false),none,none,none],(.dct ([zrT n].map dkT) (allT [zrT n]),true)):=by
    have k:(gOp2 zm2 (gArg (zec (gCns #v[0] gA0))) (zaa 1)) [#v[(as.map lsW),1],#v[(n:Nat),0],none,none,none]=some ([#v[(as.map lsW),1],#v[(n:Nat),0],none,none,none],(tmW (zrT n),false)):=by simp! [rp]
    unfold zt9;rw[k];show (keysF ((zrT n).map λl=>W.int (l:Nat))).bind _=_;rw[zm0]
    rfl
  unfold zc1;refine zet (en:=[#v[(as.map lsW),1],#v[(n:Nat),0],some (.dct ((as.foldl zaz [zrT n]).map dkT) (allT (as.foldl zaz [zrT n])),true),w3,w4]) rfl (zci (e1:=[#v[(as.map lsW),1],#v[(n:Nat),0],some (.dct ([zrT n].map dkT) (allT [zrT n]),true),none,none]) ?_ (zci (e1:=[#v[(as.map lsW),1],#v[(n:Nat),0],some (.dct ((as.foldl zaz [zrT n]).map dkT) (allT (as.foldl zaz [zrT n])),true),w3,w4]) hf ?_)) rfl
  · exact zd3 (mp:=[]) (i:=2) hd rfl
  · simp! [hlt]
theorem zdq {α:Type}{cap:Cap}{T:Tg}{it:GL}{te:GE}{en e0:En}{ts:List α} (P:En->Prop) (f g:α->W) (hi:it en=some (e0,ts.map f)) (hz:ts.length<=100000) (hn:zbz cap=true) (h0:P (zew cap e0)) (hb:∀c,P c->zaq cap e0 c=e0) (ht:∀c a,P c->a∈ts->∃c1 c2 b,tgSet (capKeep cap) T (f a) c=some c1/\te c1=some (c2,(g a,b))/\P c2):zba cap T it gYes te en=some (e0,(.lst (ts.map g),true)):=by
  have s9:(100000:Nat)<=sizeLine:=by decide
  obtain ⟨ce',out,hc,hp⟩:=zc3 (cap:=cap) (T:=T) (tc:=gYes) (te:=te) (fun i c dn=>P c/\dn=(ts.take i).map g) hi hn (by rw [Ac];omega) ⟨h0,rfl⟩
    (fun i w c dn hw hp=>by
      obtain⟨hp,rfl⟩:=hp;rw[Ap] at hw;cases ha:ts[i]? with
      |none=>rw[ha] at hw;exact noSome hw
      | some a =>
        rw[ha] at hw;obtain rfl:=sI hw;obtain⟨c1,c2,b,h1,h2,h3⟩:=ht c a hp (Bt ha);have tk:ts.take (i+1)=ts.take i++[a]:=by rw[Dq,ha];rfl
        exact⟨c1,h1,.inl ⟨_,_,_,rfl,h2,h3,by rw[tk,Bn];rfl⟩⟩)
  obtain⟨hp,rfl⟩:=hp;rw[hb _ hp,Ac,Co] at hc;exact hc
theorem zf0 {α:Type}{cap:Cap}{T:Tg}{it:GL}{tc:GT}{te:GE}{en e0:En}{ts:List α} (P:En->Prop) (f g:α->W) (p:α->Bool) (hi:it en=some (e0,ts.map f)) (hz:ts.length<=100000) (hn:zbz cap=true) (h0:P (zew cap e0)) (hb:∀c,P c->zaq cap e0 c=e0) (ht:∀c a,P c->a∈ts->∃c1 c2,tgSet (capKeep cap) T (f a) c=some c1/\tc c1=some (c2,p a)/\P c2/\(p a=true->∃c3 b,te c2=some (c3,(g a,b))/\P c3)):zba cap T it tc te en=some (e0,(.lst ((ts.filter p).map g),true)):=by
  have s9:(100000:Nat)<=sizeLine:=by decide
  obtain ⟨ce',out,hc,hp⟩:=zc3 (cap:=cap) (T:=T) (tc:=tc) (te:=te) (fun i c dn=>P c/\dn=((ts.take i).filter p).map g) hi hn (by rw [Ac];omega) ⟨h0,rfl⟩
    (fun i w c dn hw hp=>by
      obtain⟨hp,rfl⟩:=hp;rw[Ap] at hw;cases ha:ts[i]? with
      |none=>rw[ha] at hw;exact noSome hw
      | some a =>
        rw[ha] at hw;obtain rfl:=sI hw;obtain⟨c1,c2,h1,h2,h3,h4⟩:=ht c a hp (Bt ha);have tk:ts.take (i+1)=ts.take i++[a]:=by rw[Dq,ha];rfl
        cases pa:p a with
        | true =>
          obtain⟨c3,b,h5,h6⟩:=h4 pa;rw[pa] at h2;exact⟨c1,h1,.inl ⟨_,_,_,h2,h5,h6,by rw[tk,Fq,Bn,Di pa];rfl⟩⟩
        | false =>
          rw[pa] at h2;exact⟨c1,h1,.inr ⟨_,h2,h3,by rw[tk,Fq,Dj (by rw[pa];decide),Gn,Bx]⟩⟩)
  obtain⟨hp,rfl⟩:=hp;rw[hb _ hp,Ac,Co] at hc;exact hc
theorem zph:∀d:List Nat,(d.map fun l:Nat=>(l:Int)).count 1=wtT d
  |[]=>rfl
  | x::d=>by
    unfold wtT;rw[Ah,Em,Em,zph d];unfold wtT;by_cases c:x=1
    · subst c;rfl
    · rw[if_neg (by simp;omega),if_neg (by simpa using c)]
theorem zlh:∀d:List Nat,zb1 (d.map fun l:Nat=>W.int (l:Nat))=some (d.map fun l:Nat=>(l:Int))
  |[]=>rfl
  | x::d=>by
    show (zb1 (d.map λl:Nat=>W.int (l:Nat))).bind (λns=>some ((x:Int)::ns))=_;rw[zlh d];rfl
theorem z7l {v0 v1 v2 v4:Option (W × Bool)}(d:List Nat):zqa 3 (gC (.int 1)) [v0,v1,v2,#v[tmW d,6],v4]=some ([v0,v1,v2,#v[tmW d,6],v4],(.int (wtT d:Nat),false)):=by
 unfold zqa tmW;simp only [Ed,List.getElem?_cons_zero,gC,Ci,zlh,zph]
theorem fl_1:∀k:Nat,(List.replicate k [W.int 0]).flatten=List.replicate k (W.int 0)
 |0=>rfl
 |k+1=>by rw[Bi,Bi,Cy,fl_1 k];rfl
noncomputable def cnL (D:List (List Nat)) (w:Nat):Int:=((D.filter λd=>decide (wtT d=w)).length:Nat)
theorem zwb (D:List (List Nat))(d:List Nat)(w:Nat):cnL (D++[d]) w=if w=wtT d then cnL D w+1 else cnL D w:=by
 unfold cnL;rw[Fq,Bb];by_cases c:wtT d=w
 ·subst c;rw[Di (p:=λx=>decide (wtT x=wtT d)) (Aj rfl),if_pos rfl];rfl
 ·rw[Dj (p:=λx=>decide (wtT x=w)) (by rw[Bg c];decide),if_neg λz=>c z.symm];rfl
theorem z1j {n w:Nat}{f:Nat->Int}(h:w<n):atI ((tab n f).map W.int) (w:Int)=some (.int (f w)):=zce (by rw[Ap,tab_get h];rfl)
theorem zxj {n a:Nat}{f:Nat->Int}{v:Int}:((tab n f).map W.int).set a (.int v)=(tab n λq=>if q=a then v else f q).map W.int:=by
 rw[<-z0q,List.map_set]
theorem zur {Ψ:Str->Fn}{n:Nat}{D:List (List Nat)}{d:List Nat}{v0 v1 v4:Option (W × Bool)}(hd:wtT d<=n):∃w4,zbk Ψ [v0,v1,#v[((tab (n+1) (cnL D)).map W.int),2],#v[tmW d,6],v4]=some ([v0,v1,#v[((tab (n+1) (cnL (D++[d]))).map W.int),2],#v[tmW d,6],w4],.nx):=by
 have c:=z7l (v0:=v0) (v1:=v1) (v2:=#v[((tab (n+1) (cnL D)).map W.int),2]) (v4:=v4) d;have a1:=z1j (n:=n+1) (w:=wtT d) (f:=cnL D) #v[];have ix:oIxD (.lst ((tab (n+1) (cnL D)).map W.int)) (.int (wtT d:Nat))=#v[(cnL D (wtT d)),0]:=(show oIxD (.lst ((tab (n+1) (cnL D)).map W.int)) (.int (wtT d:Nat))=oIx (.lst ((tab (n+1) (cnL D)).map W.int)) (.int (wtT d:Nat)) from rfl).trans (zor rfl a1);have xn:ixN ((tab (n+1) (cnL D)).map W.int).length ((wtT d:Nat):Int)=some (wtT d):=zrb (by rw[Ac,tab_len];omega);have es:(tab (n+1) λq=>if q=wtT d then cnL D (wtT d)+1 else cnL D q)=tab (n+1) (cnL (D++[d])):=by
  refine z0b λq _=>?_;rw[zwb];by_cases c:q=wtT d
  ·rw[if_pos c,if_pos c,c]
  ·rw[if_neg c,if_neg c]
 refine⟨#v[(wtT d:Nat),0],?_⟩;unfold zbk;refine zci (e1:=[v0,v1,#v[((tab (n+1) (cnL D)).map W.int),2],#v[tmW d,6],#v[(wtT d:Nat),0]]) (zd3 c rfl) ?_;have g:(gOp2 oAdd (gArg (gOp2 oIxD (zaa 2) (zaa 4))) #v[1]) [v0,v1,#v[((tab (n+1) (cnL D)).map W.int),2],#v[tmW d,6],#v[(wtT d:Nat),0]]=some ([v0,v1,#v[((tab (n+1) (cnL D)).map W.int),2],#v[tmW d,6],#v[(wtT d:Nat),0]],(.int (cnL D (wtT d)+1),false)):=by simp! [ix]
 unfold zkc;rw[g];show (ixN ((tab (n+1) (cnL D)).map W.int).length ((wtT d:Nat):Int)).bind _=_;rw[xn,<-es,<-zxj]
 rfl
noncomputable def ctL (n:Nat) (f:Nat->Int):List (Nat × Int):=((List.range (n+1)).map λw=>(w,f w)).filter λx=>decide (0<x.2)
noncomputable def pWI (x:Nat × Int):W:=.tup [.int (x.1:Nat),.int x.2]
noncomputable def ctW (n:Nat) (f:Nat->Int):W:=.tup ((ctL n f).map pWI)
noncomputable def z50 (Φ:Fn):Prop:=∀(n:Nat) (D:List (List Nat)),n<=64->D.length<=5000->(∀d∈D,wtT d<=n)->Φ [.lst (D.map tmW),.int (n:Nat)]=some ([.lst (D.map tmW),.int (n:Nat)],(ctW n (cnL D),false))
theorem zpe (n:Nat)(f:Nat->Int):zgm ((tab n f).map W.int) 0=(List.range n).map λw=>W.tup [.int (w:Nat),.int (f w)]:=by
 refine Dk λi=>?_;by_cases h:i<n
 ·have e:=enumW_get (ws:=(tab n f).map W.int) (k:=0) (i:=i) (w := .int (f i)) (by rw[Ap,tab_get h]; rfl);rw[Cf] at e;rw[e,Ap,Gu h];rfl
 ·rw[Ck (by rw[zb2,Ac,tab_len];omega),Ck (by rw[Ac,Bh];omega)]
theorem zvi (n:Nat)(f:Nat->Int):ctL n f=((List.range (n+1)).filter λw=>decide (0<f w)).map λw=>(w,f w):=by
 unfold ctL;rw[List.filter_map]
 rfl
theorem z6s (Ψ:Str->Fn):z50 (zah [false,false] 5 (zbv Ψ)):=λn D hn hD hw=>by
 have s9:(1000:Nat)<=sizeLine:=by decide
 have line:sizeLine=16777216:=Ff;have e1:(n:Int)+1=((n+1:Nat):Int):=by omega
 have rp:oMult (.lst [.int 0]) (.int ((n+1:Nat):Int))=#v[((tab (n+1) (cnL [])).map W.int),2]:=by
  generalize n+1=z at *
  have hz:z<=100000:=by omega
  have fz:(tab z (cnL [])).map W.int=List.replicate z (W.int 0):=by
   unfold tab;rw[Be];exact List.eq_replicate_iff.mpr ⟨by rw[Ac,Bh],λb hb=>by obtain⟨q,_,rfl⟩:=Bf.mp hb;rfl⟩
  rw[zkh (xs:=[.int 0]) (k:=(z:Int)) (by refine⟨by omega,by omega,?_⟩;show 1 * (z:Int).toNat<=sizeLine;omega),fz,Cs,fl_1]
 have lp:∃b0 v3 v4,zcf Ψ [#v[(D.map tmW),1],#v[(n:Nat),0],#v[((tab (n+1) (cnL [])).map W.int),2],none,none]=some ([some (.lst (D.map tmW),b0),#v[(n:Nat),0],#v[((tab (n+1) (cnL D)).map W.int),2],v3,v4],.nx):=by
  unfold zcf;obtain⟨en',h,v3,v4,rfl⟩:=zb3 (mp:=[]) (T:=.nm 3) (body:=zbk Ψ) (it:=zbd (gVar 0)) (ws:=D.map tmW) (en:=[#v[(D.map tmW),1],#v[(n:Nat),0],#v[((tab (n+1) (cnL [])).map W.int),2],none,none]) (e0:=[#v[(D.map tmW),1],#v[(n:Nat),0],#v[((tab (n+1) (cnL [])).map W.int),2],none,none]) (λi e=>∃v3 v4,e=[#v[(D.map tmW),1],#v[(n:Nat),0],#v[((tab (n+1) (cnL (D.take i))).map W.int),2],v3,v4]) rfl ⟨_,_,rfl⟩ λi w e hx hp=>by
   obtain⟨v3,v4,rfl⟩:=hp;rw[Ap] at hx;obtain⟨d,hd,rfl⟩:=Eh.mp hx;obtain⟨w4,hb⟩:=zur (Ψ:=Ψ) (n:=n) (D:=D.take i) (d:=d) (v0:=#v[(D.map tmW),1]) (v1:=#v[(n:Nat),0]) (v4:=v4) (hw d (Bt hd));have tk:D.take (i+1)=D.take i++[d]:=by rw[Dq,hd];rfl
   rw[<-tk] at hb;exact⟨_,_,rfl,.inl hb,_,_,rfl⟩
  rw[Ac,Co] at h;exact⟨_,_,_,h⟩
 obtain⟨b0,v3,v4,lp⟩:=lp;have c2:zcl Ψ [some (.lst (D.map tmW),b0),#v[(n:Nat),0],#v[((tab (n+1) (cnL D)).map W.int),2],v3,v4]=some ([some (.lst (D.map tmW),b0),#v[(n:Nat),0],#v[((tab (n+1) (cnL D)).map W.int),1],v3,v4],(.lst ((ctL n (cnL D)).map pWI),true)):=by
  unfold zcl;rw[zvi,Be];refine zf0 (λc=>∃u0 u1 u2,c=[u0,u1,u2]) (e0:=[some (.lst (D.map tmW),b0),#v[(n:Nat),0],#v[((tab (n+1) (cnL D)).map W.int),1],v3,v4]) (ts:=List.range (n+1)) (λw=>W.tup [.int (w:Nat),.int (cnL D w)]) (pWI ∘ λw=>(w,cnL D w)) (λw=>decide (0<cnL D w)) (by rw[<-zpe];rfl) (by rw[Bh];omega) rfl ⟨_,_,_,rfl⟩ (λc ⟨_,_,_,e⟩=>by rw[e];rfl) λc w hc _=>?_;obtain⟨u0,u1,u2,rfl⟩:=hc;refine⟨[u0,#v[(w:Nat),0],#v[(cnL D w),0]],[u0,#v[(w:Nat),0],#v[(cnL D w),0]],rfl,by simp! [],⟨_,_,_,rfl⟩,λ_=>⟨[u0,#v[(w:Nat),0],#v[(cnL D w),0]],false,?_,_,_,_,rfl⟩⟩;show _=some ([u0,#v[(w:Nat),0],#v[(cnL D w),0]],(W.tup [.int (w:Nat),.int (cnL D w)],false));simp! []
 have ot:zco [.lst ((ctL n (cnL D)).map pWI)]=#v[ctW n (cnL D),6]:=rfl;unfold zbv;refine zet (en:=[some (.lst (D.map tmW),b0),#v[(n:Nat),0],#v[((tab (n+1) (cnL D)).map W.int),1],v3,v4]) rfl (zci (e1:=[#v[(D.map tmW),1],#v[(n:Nat),0],#v[((tab (n+1) (cnL [])).map W.int),2],none,none]) ?_ (zci lp ?_)) (by cases b0<;>rfl)
 ·simp! [e1,rp]
 ·simp! [c2,ot]
noncomputable def pgF (w:Nat):Nat->Nat->Int
 |0=>dl0
 |i+1=>stF (if i<w then -1 else 1) (pgF w i)
theorem zs3 (w:Nat):∀i j,i < j->pgF w i j=0
  |0,j,h=>by show (if j=0 then _ else _)=_;rw[if_neg #v[]]
  |i+1,0,h=>by omega
  | i+1,j+1,h=>by
    show pgF w i (j+1)+_ * pgF w i j=0;rw[zs3 w i (j+1) #v[],zs3 w i j #v[],Int.mul_zero];rfl
theorem z3d (w:Nat):∀n,pgF w n=pwF ((List.range n).map fun i=>if i < w then (-1:Int) else 1).reverse
  |0=>rfl
  | n+1=>by
    rw[List.range_succ,Bn,Gr];show stF _ (pgF w n)=stF _ _;rw[z3d w n]
    rfl
theorem z66 (n w:Nat):pgF w n=pwF (sgR n w):=(z3d w n).trans (zoc (List.reverse_perm _))
noncomputable def shF (f:Nat->Int) (j:Nat):Int:=match j with
 |0=>0
 |i+1=>f i
theorem z6x (n:Nat){f:Nat->Int}(h:f n=0):(tab n f).map W.int++[W.int 0]=(tab (n+1) f).map W.int:=by
 rw[zn6,Bn,h];rfl
theorem z6f (n:Nat)(f:Nat->Int):[W.int 0]++(tab n f).map W.int=(tab (n+1) (shF f)).map W.int:=by
 unfold tab;rw[List.range_succ_eq_map,Ah,Ah,Be,Be,Be]
 rfl
theorem z3g {s y:Int}(h:s=1\/s=-1):oMult (.int s) (.int y)=#v[(s * y),0]:=by
 have c:cMul s y=true:=by
  unfold cMul;rw[By];exact .inl (by rw[Aj #v[],Aj #v[]];rfl)
 have e:oI cMul (λi j=>.int (i * j)) (.int s) (.int y)=#v[(s * y),0]:=by rw[oI_e,if_pos c]
 show oOr (oI cMul λi j=>.int (i * j)) _ (.int s) (.int y)=_;unfold oOr;rw[e]
theorem zyx {s y:Int}(h:s.natAbs<2 ^ 64):oMult (.int s) (.int y)=#v[(s * y),0]:=by
 have c:cMul s y=true:=by
  unfold cMul;rw[By];exact .inl (by rw[Aj #v[],Aj #v[]];rfl)
 have e:oI cMul (λi j=>.int (i * j)) (.int s) (.int y)=#v[(s * y),0]:=by rw[oI_e,if_pos c]
 show oOr (oI cMul λi j=>.int (i * j)) _ (.int s) (.int y)=_;unfold oOr;rw[e]
theorem z18 {Ψ:Str->Fn}{n w i:Nat}{v4:Option (W × Bool)}(hi:i<100):zbi Ψ [#v[(n:Nat),0],#v[(w:Nat),0],#v[((tab (i+1) (pgF w i)).map W.int),2],#v[(i:Nat),0],v4]=some ([#v[(n:Nat),0],#v[(w:Nat),0],#v[((tab (i+2) (pgF w (i+1))).map W.int),2],#v[(i:Nat),0],#v[(if i<w then -1 else 1),0]],.nx):=by
 have line:sizeLine=16777216:=Ff;have hs:(if i<w then (-1:Int) else 1)=1\/(if i<w then (-1:Int) else 1)=-1:=by split<;>simp
 unfold zbi;refine zci (e1:=[#v[(n:Nat),0],#v[(w:Nat),0],#v[((tab (i+1) (pgF w i)).map W.int),2],#v[(i:Nat),0],#v[(if i<w then -1 else 1),0]]) ?_ ?_
 ·have dl : decide ((i : Int)<(w : Int)) = decide (i<w):=decide_eq_decide.mpr #v[];by_cases c:i<w
  ·rw[if_pos c];have dl:=dl.trans (Aj c);simp! [dl]
  ·rw[if_neg c];have dl:=dl.trans (Bg c);simp! [dl]
 ·generalize hz : (if i<w then (-1 : Int) else 1) = s at *
  have ez:pgF w (i+1)=λj=>pgF w i j+s * shF (pgF w i) j:=by
   funext j
   show stF (if i<w then -1 else 1) (pgF w i) j=_;rw[hz];unfold stF shF;cases j<;>rfl
  have ll:(List.map W.int (tab (i+1) (pgF w i))).length=i+1:=by rw[Ac,tab_len]
  have x1:oAdd (.lst ((tab (i+1) (pgF w i)).map W.int)) (.lst [.int 0])=#v[((tab (i+2) (pgF w i)).map W.int),2]:=by
   rw[show (tab (i+2) (pgF w i)).map W.int=(tab (i+1) (pgF w i)).map W.int++[W.int 0] from (z6x (i+1) (zs3 w i (i+1) #v[])).symm];exact znn (by rw[ll,Eo];omega)
  have x2:oAdd (.lst [.int 0]) (.lst ((tab (i+1) (pgF w i)).map W.int))=#v[((tab (i+2) (shF (pgF w i))).map W.int),2]:=by
   rw[show (tab (i+2) (shF (pgF w i))).map W.int=[W.int 0]++(tab (i+1) (pgF w i)).map W.int from (z6f (i+1) (pgF w i)).symm];exact znn (by rw[ll,Eo];omega)
  have c1:zcj Ψ [#v[(n:Nat),0],#v[(w:Nat),0],#v[((tab (i+1) (pgF w i)).map W.int),2],#v[(i:Nat),0],#v[s,0]]=some ([#v[(n:Nat),0],#v[(w:Nat),0],#v[((tab (i+1) (pgF w i)).map W.int),2],#v[(i:Nat),0],#v[s,0]],(.lst ((tab (i+2) (pgF w (i+1))).map W.int),true)):=by
   unfold zcj;have gz:(gZip (gOp2 oAdd (zaa 2) (gArg (zap (gCns #v[0] gA0)))) (gOp2 oAdd (gArg (zap (gCns #v[0] gA0))) (zaa 2))) [#v[(n:Nat),0],#v[(w:Nat),0],#v[((tab (i+1) (pgF w i)).map W.int),2],#v[(i:Nat),0],#v[s,0]]=some ([#v[(n:Nat),0],#v[(w:Nat),0],#v[((tab (i+1) (pgF w i)).map W.int),2],#v[(i:Nat),0],#v[s,0]],(List.range (i+2)).map λj=>W.tup [.int (pgF w i j),.int (shF (pgF w i) j)]):=by
    have zz:zipW ((tab (i+2) (pgF w i)).map W.int) ((tab (i+2) (shF (pgF w i))).map W.int)=(List.range (i+2)).map λj=>W.tup [.int (pgF w i j),.int (shF (pgF w i) j)]:=by
     unfold tab
     induction List.range (i+2) with
     |nil=>rfl
     |cons a l ih=>exact congrArg (W.tup [.int (pgF w i a),.int (shF (pgF w i) a)] :: ·) ih
    rw[<-zz];generalize (tab (i+1) (pgF w i)).map W.int=A at *
    generalize (tab (i+2) (pgF w i)).map W.int=B at *
    generalize (tab (i+2) (shF (pgF w i))).map W.int=C at *
    unfold gZip;have h1:(gOp2 oAdd (zaa 2) (gArg (zap (gCns #v[0] gA0)))) [#v[(n:Nat),0],#v[(w:Nat),0],#v[A,2],#v[(i:Nat),0],#v[s,0]]=some ([#v[(n:Nat),0],#v[(w:Nat),0],#v[A,2],#v[(i:Nat),0],#v[s,0]],(.lst B,true)):=by simp! [x1]
    have h2:(gOp2 oAdd (gArg (zap (gCns #v[0] gA0))) (zaa 2)) [#v[(n:Nat),0],#v[(w:Nat),0],#v[A,2],#v[(i:Nat),0],#v[s,0]]=some ([#v[(n:Nat),0],#v[(w:Nat),0],#v[A,2],#v[(i:Nat),0],#v[s,0]],(.lst C,true)):=by simp! [x2]
    rw[h1,Ci];dsimp only;rw[h2]
    rfl
   rw[show (tab (i+2) (pgF w (i+1))).map W.int=(List.range (i+2)).map (W.int ∘ λj=>pgF w i j+s * shF (pgF w i) j) from by rw[ez];unfold tab;rw[Be]];refine zdq (λc=>∃u0 u1 u2,c=[u0,u1,u2,#v[s,0]]) (λj=>W.tup [.int (pgF w i j),.int (shF (pgF w i) j)]) (W.int ∘ λj=>pgF w i j+s * shF (pgF w i) j) gz (by rw[Bh];omega) rfl ⟨_,_,_,rfl⟩ (λc ⟨_,_,_,e⟩=>by rw[e];rfl) λc j hc _=>?_;obtain⟨u0,u1,u2,rfl⟩:=hc;have mp:=z3g (s:=s) (y:=shF (pgF w i) j) hs;refine⟨[u0,#v[(pgF w i j),0],#v[(shF (pgF w i) j),0],#v[s,0]],[u0,#v[(pgF w i j),0],#v[(shF (pgF w i) j),0],#v[s,0]],false,rfl,?_,_,_,_,rfl⟩;show _=some ([u0,#v[(pgF w i j),0],#v[(shF (pgF w i) j),0],#v[s,0]],(W.int (pgF w i j+s * shF (pgF w i) j),false));simp! [mp]
  exact zd3 c1 rfl
noncomputable def zti (Φ:Fn):Prop:=∀n w:Nat,n<=64->Φ [.int (n:Nat),.int (w:Nat)]=some ([.int (n:Nat),.int (w:Nat)],(.lst ((tab (n+1) (pgF w n)).map W.int),true))
theorem zzo (Ψ:Str->Fn):zti (zah [false,false] 5 (zbt Ψ)):=λn w hn=>by
 have lp:∃v3 v4,zck Ψ [#v[(n:Nat),0],#v[(w:Nat),0],#v[[.int 1],2],none,none]=some ([#v[(n:Nat),0],#v[(w:Nat),0],#v[((tab (n+1) (pgF w n)).map W.int),2],v3,v4],.nx):=by
  unfold zck;obtain⟨en',h,v3,v4,rfl⟩:=zb3 (mp:=[]) (T:=.nm 3) (body:=zbi Ψ) (λi e=>∃v3 v4,e=[#v[(n:Nat),0],#v[(w:Nat),0],#v[((tab (i+1) (pgF w i)).map W.int),2],v3,v4]) (zho (a:=zaa 0) (en:=[#v[(n:Nat),0],#v[(w:Nat),0],#v[[.int 1],2],none,none]) (e1:=[#v[(n:Nat),0],#v[(w:Nat),0],#v[[.int 1],2],none,none]) (n:=n) (by simp! []) #v[]) ⟨_,_,rfl⟩ λi w' e hw hp=>by
   obtain⟨v3,v4,rfl⟩:=hp;obtain⟨li,rfl⟩:=zd1 hw;rw[Gy];exact⟨_,_,rfl,.inl (z18 #v[]),_,_,rfl⟩
  rw[zdx] at h;exact⟨_,_,h⟩
 obtain⟨v3,v4,lp⟩:=lp;unfold zbt;refine zet (en:=[#v[(n:Nat),0],#v[(w:Nat),0],none,v3,v4]) rfl (zci (e1:=[#v[(n:Nat),0],#v[(w:Nat),0],#v[[.int 1],2],none,none]) ?_ (zci lp ?_)) rfl
 ·simp! []
 ·simp! []
theorem zw5 (n:Nat):rngW 0 n=(List.range n).map λj=>W.int (j:Nat):=by
 unfold rngW;refine Cz λj _=>?_;rw[Gy]
noncomputable def rwI (f:Nat->Int) (n:Nat):List W:=(List.range n).map λw=>W.tup [.int (w:Nat),.int (f w)]
theorem z6w {Ψ:Str->Fn}{i:Nat}{f:Nat->Int}{v0:Option (W × Bool)}(hi:i<=1000):zat Ψ [v0,some (.dct ((List.range i).map dkN) ((List.range i).map λw=>W.int (f w)),true),#v[(i:Nat),0],#v[(f i),0]]=some ([v0,some (.dct ((List.range (i+1)).map dkN) ((List.range (i+1)).map λw=>W.int (f w)),true),#v[(i:Nat),0],#v[(f i),0]],.nx):=by
 have s9:(1000:Nat)<sizeLine:=by decide
 have nin:i ∉ List.range i:=λz=>absurd (Bz.mp z) #v[];have hv:valW (((List.range i).map dkN).zip ((List.range i).map λw=>W.int (f w))) (dkN i)=none:=by rw[zf2 zif (λw=>W.int (f w)),if_neg nin]
 have g0:=z68 (i:=1) (g:=gVar 2) (g':=gC (.int 0)) (en:=[v0,some (.dct ((List.range i).map dkN) ((List.range i).map λw=>W.int (f w)),true),#v[(i:Nat),0],#v[(f i),0]]) (r:=(.int 0,false)) rfl rfl rfl (zu0 (i:Int)) hv (zu6 _ _);have g:(gOp2 oAdd (gArg (zj5 1 (gVar 2) (gC (.int 0)))) (zaa 3)) [v0,some (.dct ((List.range i).map dkN) ((List.range i).map λw=>W.int (f w)),true),#v[(i:Nat),0],#v[(f i),0]]=some ([v0,some (.dct ((List.range i).map dkN) ((List.range i).map λw=>W.int (f w)),true),#v[(i:Nat),0],#v[(f i),0]],(.int (f i),false)):=by
  generalize zj5 1 (gVar 2) (gC (.int 0))=G at g0 ⊢;simp! [g0,Gy]
 have p:=z6h (i:=1) (k:=gVar 2) (d:=dkN i) g rfl rfl (zu0 (i:Int)) (zu6 _ _) (by rw[Ac,Bh];omega);unfold zat;rw[p,zo9 zif nin,zov zif _ _ nin,List.range_succ,Bn,Bn]
 rfl
noncomputable def z3t (Φ:Fn):Prop:=∀(f:Nat->Int) (n:Nat),n<=64->Φ [.lst (rwI f (n+1))]=some ([.lst (rwI f (n+1))],(ctW n f,false))
theorem z1f:∀n,(List.range n).Pairwise (· < ·):=λn=>List.pairwise_lt_range
theorem z27 (Ψ:Str->Fn):z3t (zah [false] 4 (zax Ψ)):=λf n hn=>by
 have s9:(1000:Nat)<=sizeLine:=by decide
 have lp:∃v2 v3,zbf Ψ [#v[(rwI f (n+1)),1],some (.dct [] [],true),none,none]=some ([#v[(rwI f (n+1)),1],some (.dct ((List.range (n+1)).map dkN) ((List.range (n+1)).map λw=>W.int (f w)),true),v2,v3],.nx):=by
  unfold zbf;obtain⟨en',h,v2,v3,rfl⟩:=zb3 (mp:=[]) (T:=.tp [2,3]) (body:=zat Ψ) (it:=zbd (gVar 0)) (ws:=rwI f (n+1)) (en:=[#v[(rwI f (n+1)),1],some (.dct [] [],true),none,none]) (e0:=[#v[(rwI f (n+1)),1],some (.dct [] [],true),none,none]) (λi e=>∃v2 v3,e=[#v[(rwI f (n+1)),1],some (.dct ((List.range i).map dkN) ((List.range i).map λw=>W.int (f w)),true),v2,v3]) rfl ⟨_,_,rfl⟩ λi w e hx hp=>by
   obtain⟨v2,v3,rfl⟩:=hp;unfold rwI at hx;rw[Ap] at hx;obtain⟨d,hd,rfl⟩:=Eh.mp hx;have li:i<n+1:=by have:=(Ai.mp hd).1;rw[Bh] at this;exact this
   rw[Gu li] at hd;obtain rfl:=sI hd;exact⟨_,_,rfl,.inl (z6w #v[]),_,_,rfl⟩
  rw[show (rwI f (n+1)).length=n+1 from by unfold rwI;rw[Ac,Bh]] at h;exact⟨_,_,h⟩
 obtain⟨v2,v3,lp⟩:=lp;have sd:=z04 (z1f (n+1)) (by rw[List.range_succ];simp) ((List.range (n+1)).map λw=>W.int (f w));have c2:zbh Ψ [#v[(rwI f (n+1)),1],some (.dct ((List.range (n+1)).map dkN) ((List.range (n+1)).map λw=>W.int (f w)),true),v2,v3]=some ([#v[(rwI f (n+1)),1],some (.dct ((List.range (n+1)).map dkN) ((List.range (n+1)).map λw=>W.int (f w)),true),v2,v3],(.lst ((ctL n f).map pWI),true)):=by
  unfold zbh;rw[zvi,Be];generalize hk:(List.range (n+1)).map dkN=ks at *
  generalize hv:(List.range (n+1)).map (λw=>W.int (f w))=vs at *
  refine zf0 (λc=>∃u0 u1,c=[u0,u1,some (.dct ks vs,true)]) (e0:=[#v[(rwI f (n+1)),1],some (.dct ks vs,true),v2,v3]) (ts:=List.range (n+1)) (λw=>W.int (w:Nat)) (pWI ∘ λw=>(w,f w)) (λw=>decide (0<f w)) (by
   show zbd _ _=some (_,zvl (List.range (n+1)));simp! [sd]) (by rw[Bh];omega) rfl ⟨_,_,rfl⟩ (λc ⟨_,_,e⟩=>by rw[e];rfl) λc w hc hw=>?_
  obtain⟨u0,u1,rfl⟩:=hc;have xd:oIxD (.dct ks vs) (.int (w:Nat))=#v[(f w),0]:=z75 (zu0 (w:Int)) (by rw[<-hk,<-hv];exact (zf2 zif (λw=>W.int (f w)) w _).trans (if_pos hw));refine⟨[u0,#v[(w:Nat),0],some (.dct ks vs,true)],[u0,#v[(w:Nat),0],some (.dct ks vs,true)],rfl,by simp! [xd],⟨_,_,rfl⟩,λ_=>⟨[u0,#v[(w:Nat),0],some (.dct ks vs,true)],false,?_,_,_,rfl⟩⟩;show _=some ([u0,#v[(w:Nat),0],some (.dct ks vs,true)],(W.tup [.int (w:Nat),.int (f w)],false));simp! [xd]
 have ot:zco [.lst ((ctL n f).map pWI)]=#v[ctW n f,6]:=rfl;unfold zax;refine zet (en:=[#v[(rwI f (n+1)),1],some (.dct ((List.range (n+1)).map dkN) ((List.range (n+1)).map λw=>W.int (f w)),true),v2,v3]) rfl (zci (e1:=[#v[(rwI f (n+1)),1],some (.dct [] [],true),none,none]) ?_ (zci lp ?_)) rfl
 ·rfl
 ·simp! [c2,ot]
noncomputable def trF (T:List (Nat × Int)) (n j:Nat):Int:=smL' T λx=>x.2 * pgF x.1 n j
noncomputable def wdF (T:List (Nat × Int)):Int:=smL' T λx=>x.2
theorem zyf (T:List (Nat × Int))(x:Nat × Int)(n j:Nat):trF (T++[x]) n j=trF T n j+x.2 * pgF x.1 n j:=by
 unfold trF;rw[ztm,zak];show _+(_+0)=_;omega
theorem z7q {Ψ:Str->Fn}(hS:zti (Ψ "sign_powers")){m:Nat}{T:List (Nat × Int)}{x:Nat × Int}{v1 v5 v6:Option (W × Bool)}(hm:m<=6)(hx:x.2.natAbs<2 ^ 64):∃w5,zav Ψ [#v[(m:Nat),0],v1,#v[((tab (2 ^ m+1) (trF T (2 ^ m))).map W.int),2],#v[(x.1:Nat),0],#v[x.2,0],v5,v6]=some ([#v[(m:Nat),0],v1,#v[((tab (2 ^ m+1) (trF (T++[x]) (2 ^ m))).map W.int),2],#v[(x.1:Nat),0],#v[x.2,0],w5,v6],.nx):=by
 have p6:=zl5 hm;have q2:=pow1 (l:=m) #v[];have e:=hS (2 ^ m) x.1 p6;refine⟨#v[((tab (2 ^ m+1) (pgF x.1 (2 ^ m))).map W.int),1],?_⟩;unfold zav;refine zci (e1:=[#v[(m:Nat),0],v1,#v[((tab (2 ^ m+1) (trF T (2 ^ m))).map W.int),2],#v[(x.1:Nat),0],#v[x.2,0],#v[((tab (2 ^ m+1) (pgF x.1 (2 ^ m))).map W.int),2],v6]) ?_ ?_
 ·simp! [q2,zay,e]
 ·generalize 2 ^ m = n at *
  have c2:zbo Ψ [#v[(m:Nat),0],v1,#v[((tab (n+1) (trF T n)).map W.int),2],#v[(x.1:Nat),0],#v[x.2,0],#v[((tab (n+1) (pgF x.1 n)).map W.int),2],v6]=some ([#v[(m:Nat),0],v1,#v[((tab (n+1) (trF T n)).map W.int),1],#v[(x.1:Nat),0],#v[x.2,0],#v[((tab (n+1) (pgF x.1 n)).map W.int),1],v6],(.lst ((tab (n+1) (trF (T++[x]) n)).map W.int),true)):=by
   unfold zbo;have zz:zipW ((tab (n+1) (trF T n)).map W.int) ((tab (n+1) (pgF x.1 n)).map W.int)=(List.range (n+1)).map λj=>W.tup [.int (trF T n j),.int (pgF x.1 n j)]:=by
    unfold tab
    induction List.range (n+1) with
    |nil=>rfl
    |cons a l ih=>exact congrArg (W.tup [.int (trF T n a),.int (pgF x.1 n a)] :: ·) ih
   rw[show (tab (n+1) (trF (T++[x]) n)).map W.int=(List.range (n+1)).map (W.int ∘ λj=>trF T n j+x.2 * pgF x.1 n j) from by
    unfold tab;rw[Be];exact Cz λj _=>by show W.int _=W.int _;rw[zyf]]
   refine zdq (λc=>∃u0 u1 u2,c=[u0,u1,u2,#v[x.2,0]]) (e0:=[#v[(m:Nat),0],v1,#v[((tab (n+1) (trF T n)).map W.int),1],#v[(x.1:Nat),0],#v[x.2,0],#v[((tab (n+1) (pgF x.1 n)).map W.int),1],v6]) (λj=>W.tup [.int (trF T n j),.int (pgF x.1 n j)]) (W.int ∘ λj=>trF T n j+x.2 * pgF x.1 n j) (by rw[<-zz];rfl) (by rw[Bh];omega) rfl ⟨_,_,_,rfl⟩ (λc ⟨_,_,_,e⟩=>by rw[e];rfl) λc j hc _=>?_;obtain⟨u0,u1,u2,rfl⟩:=hc;have mp:=zyx (s:=x.2) (y:=pgF x.1 n j) hx;refine⟨[u0,#v[(trF T n j),0],#v[(pgF x.1 n j),0],#v[x.2,0]],[u0,#v[(trF T n j),0],#v[(pgF x.1 n j),0],#v[x.2,0]],false,rfl,?_,_,_,_,rfl⟩;show _=some ([u0,#v[(trF T n j),0],#v[(pgF x.1 n j),0],#v[x.2,0]],(W.int (trF T n j+x.2 * pgF x.1 n j),false));simp! [mp]
  exact zd3 c2 rfl
noncomputable def TsOk (Φ:Fn):Prop:=∀(m:Nat) (T:List (Nat × Int)),m<=6->T.length<=100->(∀x∈T,x.2.natAbs<2 ^ 64)->0<wdF T->(wdF T).natAbs.log2<9000->Φ [.int (m:Nat),.tup (T.map pWI)]=some ([.int (m:Nat),.tup (T.map pWI)],(ctW (2 ^ m) λj=>trF T (2 ^ m) j / wdF T,false))
theorem z70 {Ψ:Str->Fn}(hS:zti (Ψ "sign_powers"))(hR:z3t (Ψ "spread_of_rows")):TsOk (zah [false,false] 7 (za9 Ψ)):=λm T hm hl hT h0 h9=>by
 have s9:(1000:Nat)<=sizeLine:=by decide
 have p6:=zl5 hm;have q2:=pow1 (l:=m) #v[];have e1:((2 ^ m:Nat):Int)+1=((2 ^ m+1:Nat):Int):=by omega
 have c1:zbp Ψ [#v[(m:Nat),0],#v[(T.map pWI),3],none,none,none,none,none]=some ([#v[(m:Nat),0],#v[(T.map pWI),3],none,none,none,none,none],(.lst ((tab (2 ^ m+1) (trF [] (2 ^ m))).map W.int),true)):=by
  unfold zbp;rw[show (tab (2 ^ m+1) (trF [] (2 ^ m))).map W.int=(List.range (2 ^ m+1)).map (λ_=>W.int 0) from by unfold tab;rw[Be];rfl];refine zdq (λc=>∃u0 u1,c=[u0,u1]) (λj=>W.int (j:Nat)) (λ_=>W.int 0) (by rw[<-zw5];exact zho (n:=2 ^ m+1) (by simp! [q2,zay,e1]) #v[]) (by rw[Bh];omega) rfl ⟨_,_,rfl⟩ (λc ⟨_,_,e⟩=>by rw[e];rfl) λc j hc _=>?_;obtain⟨u0,u1,rfl⟩:=hc;exact⟨[u0,#v[(j:Nat),0]],[u0,#v[(j:Nat),0]],false,rfl,rfl,_,_,rfl⟩
 have lp:∃v3 v4 v5,zbn Ψ [#v[(m:Nat),0],#v[(T.map pWI),3],#v[((tab (2 ^ m+1) (trF [] (2 ^ m))).map W.int),2],none,none,none,none]=some ([#v[(m:Nat),0],#v[(T.map pWI),3],#v[((tab (2 ^ m+1) (trF T (2 ^ m))).map W.int),2],v3,v4,v5,none],.nx):=by
  unfold zbn;obtain⟨en',h,v3,v4,v5,rfl⟩:=zb3 (mp:=[]) (T:=.tp [3,4]) (body:=zav Ψ) (it:=zbd (gVar 1)) (ws:=T.map pWI) (en:=[#v[(m:Nat),0],#v[(T.map pWI),3],#v[((tab (2 ^ m+1) (trF [] (2 ^ m))).map W.int),2],none,none,none,none]) (e0:=[#v[(m:Nat),0],#v[(T.map pWI),3],#v[((tab (2 ^ m+1) (trF [] (2 ^ m))).map W.int),2],none,none,none,none]) (λi e=>∃v3 v4 v5,e=[#v[(m:Nat),0],#v[(T.map pWI),3],#v[((tab (2 ^ m+1) (trF (T.take i) (2 ^ m))).map W.int),2],v3,v4,v5,none]) rfl ⟨_,_,_,rfl⟩ λi w e hx hp=>by
   obtain⟨v3,v4,v5,rfl⟩:=hp;rw[Ap] at hx;obtain⟨x,hd,rfl⟩:=Eh.mp hx;obtain⟨w5,hb⟩:=z7q hS (T:=T.take i) (x:=x) (v1:=#v[(T.map pWI),3]) (v5:=v5) (v6:=none) hm (hT x (Bt hd));have tk:T.take (i+1)=T.take i++[x]:=by rw[Dq,hd];rfl
   rw[<-tk] at hb;exact⟨_,_,rfl,.inl hb,_,_,_,rfl⟩
  rw[Ac,Co] at h;exact⟨_,_,_,h⟩
 obtain⟨v3,v4,v5,lp⟩:=lp;have c4:zbs Ψ [#v[(m:Nat),0],#v[(T.map pWI),3],#v[((tab (2 ^ m+1) (trF T (2 ^ m))).map W.int),2],v3,v4,v5,none]=some ([#v[(m:Nat),0],#v[(T.map pWI),3],#v[((tab (2 ^ m+1) (trF T (2 ^ m))).map W.int),2],v3,v4,v5,none],(.lst ((T.map λx=>x.2).map W.int),true)):=by
  unfold zbs;rw[Be];refine zdq (λc=>∃u0 u1 u2,c=[u0,u1,u2]) (e0:=[#v[(m:Nat),0],#v[(T.map pWI),3],#v[((tab (2 ^ m+1) (trF T (2 ^ m))).map W.int),2],v3,v4,v5,none]) pWI (W.int ∘ λx=>x.2) rfl #v[] rfl ⟨_,_,_,rfl⟩ (λc ⟨_,_,_,e⟩=>by rw[e];rfl) λc x hc _=>?_;obtain⟨u0,u1,u2,rfl⟩:=hc;exact⟨[u0,#v[(x.1:Nat),0],#v[x.2,0]],[u0,#v[(x.1:Nat),0],#v[x.2,0]],false,rfl,rfl,_,_,_,rfl⟩
 have sm:oSum [.lst ((T.map λx=>x.2).map W.int)]=#v[(wdF T),0]:=zsq _;have c5:zbr Ψ [#v[(m:Nat),0],#v[(T.map pWI),3],#v[((tab (2 ^ m+1) (trF T (2 ^ m))).map W.int),2],v3,v4,v5,#v[(wdF T),0]]=some ([#v[(m:Nat),0],#v[(T.map pWI),3],#v[((tab (2 ^ m+1) (trF T (2 ^ m))).map W.int),1],v3,v4,v5,#v[(wdF T),0]],(.lst (rwI (λj=>trF T (2 ^ m) j / wdF T) (2 ^ m+1)),true)):=by
  unfold zbr rwI;generalize 2 ^ m=n at *
  refine zdq (λc=>∃u0 u1 u2,c=[u0,u1,u2,#v[(wdF T),0]]) (e0:=[#v[(m:Nat),0],#v[(T.map pWI),3],#v[((tab (n+1) (trF T n)).map W.int),1],v3,v4,v5,#v[(wdF T),0]]) (λj=>W.tup [.int (j:Nat),.int (trF T n j)]) (λw=>W.tup [.int (w:Nat),.int (trF T n w / wdF T)]) (by rw[<-zpe];rfl) (by rw[Bh];omega) rfl ⟨_,_,_,rfl⟩ (λc ⟨_,_,_,e⟩=>by rw[e];rfl) λc j hc _=>?_;obtain⟨u0,u1,u2,rfl⟩:=hc;have cd:cDiv (trF T n j) (wdF T)=true:=by
   unfold cDiv;rw[Aj h0,Aj h9];rfl
  refine⟨[u0,#v[(j:Nat),0],#v[(trF T n j),0],#v[(wdF T),0]],[u0,#v[(j:Nat),0],#v[(trF T n j),0],#v[(wdF T),0]],false,rfl,?_,_,_,_,rfl⟩;simp! [cd]
 have hr:=hR (λj=>trF T (2 ^ m) j / wdF T) (2 ^ m) p6;unfold za9;refine zet (en:=[#v[(m:Nat),0],#v[(T.map pWI),3],#v[((tab (2 ^ m+1) (trF T (2 ^ m))).map W.int),1],v3,v4,v5,#v[(wdF T),0]]) rfl (zci (e1:=[#v[(m:Nat),0],#v[(T.map pWI),3],#v[((tab (2 ^ m+1) (trF [] (2 ^ m))).map W.int),2],none,none,none,none]) (zd3 c1 rfl) (zci lp (zci (e1:=[#v[(m:Nat),0],#v[(T.map pWI),3],#v[((tab (2 ^ m+1) (trF T (2 ^ m))).map W.int),2],v3,v4,v5,#v[(wdF T),0]]) ?_ ?_))) rfl
 ·simp! [c4,sm]
 ·simp! [c5,hr]
noncomputable def n0:Str->Fn:=λ_ _=>none
theorem tmG (Ψ:Str->Fn):zag Ψ=zag n0:=rfl
theorem tm_0:((List.range 7).map λk=>zah [false,false] 4 (zag n0) [.int (0:Nat),.int (k:Nat)])=(List.range 7).map λk=>some ([.int (0:Nat),.int (k:Nat)],(.lst ((zao 0 k).map tmW),true)):=by kernel_rfl
theorem tm_1:((List.range 7).map λk=>zah [false,false] 4 (zag n0) [.int (1:Nat),.int (k:Nat)])=(List.range 7).map λk=>some ([.int (1:Nat),.int (k:Nat)],(.lst ((zao 1 k).map tmW),true)):=by kernel_rfl
theorem tm_2:((List.range 7).map λk=>zah [false,false] 4 (zag n0) [.int (2:Nat),.int (k:Nat)])=(List.range 7).map λk=>some ([.int (2:Nat),.int (k:Nat)],(.lst ((zao 2 k).map tmW),true)):=by kernel_rfl
theorem tm_3:((List.range 7).map λk=>zah [false,false] 4 (zag n0) [.int (3:Nat),.int (k:Nat)])=(List.range 7).map λk=>some ([.int (3:Nat),.int (k:Nat)],(.lst ((zao 3 k).map tmW),true)):=by kernel_rfl
theorem tm_4:((List.range 7).map λk=>zah [false,false] 4 (zag n0) [.int (4:Nat),.int (k:Nat)])=(List.range 7).map λk=>some ([.int (4:Nat),.int (k:Nat)],(.lst ((zao 4 k).map tmW),true)):=by kernel_rfl
theorem tm_5:((List.range 7).map λk=>zah [false,false] 4 (zag n0) [.int (5:Nat),.int (k:Nat)])=(List.range 7).map λk=>some ([.int (5:Nat),.int (k:Nat)],(.lst ((zao 5 k).map tmW),true)):=by kernel_rfl
theorem tm_6:((List.range 7).map λk=>zah [false,false] 4 (zag n0) [.int (6:Nat),.int (k:Nat)])=(List.range 7).map λk=>some ([.int (6:Nat),.int (k:Nat)],(.lst ((zao 6 k).map tmW),true)):=by kernel_rfl
theorem z2i (Ψ:Str->Fn):zrz (zah [false,false] 4 (zag Ψ)):=λm k hm hk=>by
 rw[tmG];have hk:=Bz.mpr (show k<7 by omega)
 match m,hm with
 |0,_=>exact Dz.mp tm_0 k hk
 |1,_=>exact Dz.mp tm_1 k hk
 |2,_=>exact Dz.mp tm_2 k hk
 |3,_=>exact Dz.mp tm_3 k hk
 |4,_=>exact Dz.mp tm_4 k hk
 |5,_=>exact Dz.mp tm_5 k hk
 |6,_=>exact Dz.mp tm_6 k hk
 |m+7,h=>omega
theorem allG (Ψ:Str->Fn):za4 Ψ=za4 n0:=rfl
theorem all2:zah [false] 5 (za4 n0) [.int 2]=some ([.int 2],(.lst ((allR 2).map tmW),false)):=by kernel_rfl
theorem all4:zah [false] 5 (za4 n0) [.int 4]=some ([.int 4],(.lst ((allR 4).map tmW),false)):=by kernel_rfl
theorem all8:zah [false] 5 (za4 n0) [.int 8]=some ([.int 8],(.lst ((allR 8).map tmW),false)):=by kernel_rfl
noncomputable def z5l (Φ:Fn):Prop:=∀m:Nat,1<=m->m<=3->Φ [.int ((2 ^ m:Nat):Int)]=some ([.int ((2 ^ m:Nat):Int)],(.lst ((allR (2 ^ m)).map tmW),false))
theorem z5a (Ψ:Str->Fn):z5l (zah [false] 5 (za4 Ψ)):=λm h1 h3=>by
 rw[allG]
 match m,h1,h3 with
 |1,_,_=>exact all2
 |2,_,_=>exact all4
 |3,_,_=>exact all8
theorem zin:∀n,(allR n).length=2 ^ n
  |0=>rfl
  | n+1=>by
    show ((allR n).map (0 :: ·)++(allR n).map (1 :: ·)).length=_;rw[Bb,Ac,Ac,zin n,Nat.pow_succ];omega
theorem zr7:∀v a:List Nat,(List.zipWith (fun x y:Int=>x * y) (v.map fun l:Nat=>(l:Int)) (a.map fun l:Nat=>(l:Int))).sum=(dtT v a:Int)
  |[],_=>rfl
  |_::_,[]=>rfl
  | x::v,y::a=>by
    show (((x:Int) * y)::List.zipWith _ _ _).sum=((x * y+dtT v a:Nat):Int);rw[Hk,zr7 v a];norm_cast
noncomputable def z4c (Φ:Fn):Prop:=∀(n:Nat) (v a:List Nat),n<=64->Row n v->Row n a->Φ [tmW v,lsW a]=some ([tmW v,lsW a],(.bl (decide (dtT v a % 2=0)),false))
theorem z40 (Ψ:Str->Fn):z4c (zah [false,false] 2 (zct Ψ)):=λn v a hn hv ha=>by
 have c:zc9 Ψ [#v[tmW v,6],#v[lsW a,6]]=some ([#v[tmW v,6],#v[lsW a,6]],(.lst ((List.zipWith (λx y:Int=>x * y) (v.map λl:Nat=>(l:Int)) (a.map λl:Nat=>(l:Int))).map W.int),true)):=by
  unfold zc9;have gz:(gZip (gVar 0) (gVar 1)) [#v[tmW v,6],#v[lsW a,6]]=some ([#v[tmW v,6],#v[lsW a,6]],zipW ((v.map λl:Nat=>(l:Int)).map W.int) ((a.map λl:Nat=>(l:Int)).map W.int)):=by
   rw[<-cst,<-cst];rfl
  refine zo0 gz (by rw[Ac,hv.1];omega) λv0 x y hx _=>?_;have mp:=zyx (s:=x) (y:=y) (by
   obtain⟨l,hl,rfl⟩:=Bf.mp hx;rcases hv.2 l hl with rfl|rfl<;>decide)
  simp! [mp]
 have sm:=zsq (List.zipWith (λx y:Int=>x * y) (v.map λl:Nat=>(l:Int)) (a.map λl:Nat=>(l:Int)));rw[zr7] at sm;have dd:decide ((dtT v a:Int) % 2=0)=decide (dtT v a % 2=0):=decide_eq_decide.mpr #v[];unfold zct;simp! [c,sm,dd]
theorem z43 {n:Nat}{xs:List Int}(hl:xs.length=n)(hx:Bits xs):∃a,Row n a/\(W.lst (xs.map W.int))=lsW a:=by
 refine⟨xs.map Int.toNat,⟨by rw[Ac,hl],λx h=>?_⟩,?_⟩
 ·obtain⟨y,hy,rfl⟩:=Bf.mp h;rcases hx y hy with rfl|rfl
  ·exact .inl rfl
  ·exact .inr rfl
 ·unfold lsW;rw[Be];congr 1;refine Cz λy hy=>?_;rcases hx y hy with rfl|rfl<;>rfl
theorem zzp {n:Nat}{d:List Nat}(h:Row n d):wtT d<=n:=(znr h).2
theorem zuh (g:Nat->Int) (n:Nat):∀D:List (List Nat),(∀d∈D,wtT d<=n)->smL' (List.range (n+1)) (fun w=>cnL D w * g w)=smL' D fun d=>g (wtT d)
  | [],_=>by
    refine (za1 (g:=λ_=>0) λw _=>?_).trans (zdz _);show (0:Int) * g w=0;rw[Int.zero_mul]
  | d::D,h=>by
    have e:∀w,cnL (d::D) w=cnL D w+(if w=wtT d then 1 else 0):=fun w=>by
      unfold cnL;by_cases c:wtT d=w
      · subst c
        rw[Di (p:=λx=>decide (wtT x=wtT d)) (Aj rfl),if_pos rfl];rfl
      · rw[Dj (p:=λx=>decide (wtT x=w)) (by rw[Bg c];decide),if_neg λz=>c z.symm,Int.add_zero]
    rw [za1 (g:=fun w=>cnL D w * g w+(if w=wtT d then g w else 0)) fun w _=>by
      rw[e,Int.add_mul];by_cases c:w=wtT d
      · rw[if_pos c,if_pos c,Int.one_mul]
      · rw[if_neg c,if_neg c,Int.zero_mul],znd,zuh g n D λx hx=>h x (As _ hx),zak,Int.add_comm]
    congr 1;have pk:∀(L:List Nat) (p:Nat),L.Nodup->p∈L->smL' L (fun w=>if w=p then g w else 0)=g p:=fun L p=>by
      induction L with
      |nil=>exact λ_ z=>nomatch z
      | cons a L ih =>
        intro nd hp;rw[zak];rw[Da] at nd;rcases At.mp hp with rfl|hp
        · rw[if_pos rfl,(za1 (g:=λ_=>0) λw hw=>if_neg λz=>nd.1 (by rw[<-z];exact hw)).trans (zdz _),Int.add_zero]
        · rw[if_neg λz=>nd.1 (by rw[z];exact hp),ih nd.2 hp,Gy]
    exact pk _ _ List.nodup_range (Bz.mpr (by have:=h d Av;omega))
theorem zzh (f:Nat->Int) (g:Nat->Int) (n:Nat) (h:∀w,0<=f w):smL' (ctL n f) (fun x=>x.2 * g x.1)=smL' (List.range (n+1)) fun w=>f w * g w:=by
  rw [zvi,zjk];have:∀L:List Nat,smL' (L.filter fun w=>decide (0 < f w)) (fun w=>f w * g w)=smL' L fun w=>f w * g w:=fun L=>by
    induction L with
    |nil=>rfl
    | cons a L ih =>
      by_cases c:0<f a
      · rw[Di (p:=λw=>decide (0<f w)) (Aj c),zak,zak,ih]
      · rw[Dj (p:=λw=>decide (0<f w)) (by rw[Bg c];decide),zak,ih,show f a=0 by have:=h a;omega,Int.zero_mul,Gy]
  exact this _
theorem zv9 (D:List (List Nat))(w:Nat):0<=cnL D w:=Int.natCast_nonneg _
theorem z59 (D:List (List Nat))(w:Nat):cnL D w<=D.length:=Int.ofNat_le.mpr (Gd ..)
theorem wd_D {n:Nat}{D:List (List Nat)}(h:∀d∈D,wtT d<=n):wdF (ctL n (cnL D))=(D.length:Int):=by
 have a:=zzh (cnL D) (λ_=>1) n (zv9 D);rw[zuh (λ_=>1) n D h,zlv] at a;unfold wdF;rw[<-a];exact za1 λx _=>(Int.mul_one _).symm
theorem tr_D {n:Nat}{D:List (List Nat)}(G:Grp n D)(j:Nat):trF (ctL n (cnL D)) n j=(D.length:Int) * (cnE n D j:Int):=by
 unfold trF;rw[zzh (cnL D) (λw=>pgF w n j) n (zv9 D),zuh (λw=>pgF w n j) n D λd hd=>zzp (G.row d hd),<-macw G j];exact za1 λd hd=>by rw[z66,<-z3n (G.row d hd)]
theorem z2x {n:Nat}{f g:Nat->Int}(h:∀w,w<=n->f w=g w):ctW n f=ctW n g:=by
 unfold ctW ctL;rw[show (List.range (n+1)).map (λw=>(w,f w))=(List.range (n+1)).map (λw=>(w,g w)) from Cz λw hw=>by rw[h w (by have:=Bz.mp hw;omega)]]
theorem z0k {n:Nat}{as D:List (List Nat)}(h:∀v,Row n v->evA D v=evA as v)(j:Nat):(cnE n D j:Int)=cnL ((allR n).filter (evA as)) j:=by
 unfold cnE cnL;rw[List.filter_filter];congr 2;refine List.filter_congr λv hv=>?_;rw[h v (zcw.mp hv),Bool.and_comm]
theorem z00 {n:Nat}{f:Nat->Int}(hn:n<=60)(h:∀w,w<=n->0<=f w/\f w<=5000):∃s,zp3 [ctW n f]=some (.str s,false):=by
 have e:ctW n f=zqf ((ctL n f).map λx=>[(x.1:Int),x.2]):=by
  unfold ctW zqf;rw[Be];rfl
 have l:(ctL n f).length<=n+1:=by
  unfold ctL;refine Bv (Gd ..) ?_;rw[Ac,Bh];omega
 rw[e];refine zq3 (λns hns=>?_) (by rw[Ac];omega);obtain⟨x,hx,rfl⟩:=Bf.mp hns;unfold ctL at hx;obtain⟨w,hw,rfl⟩:=Bf.mp (El.mp hx).1;have lw:=Bz.mp hw;have:=h w #v[];refine⟨by show 2<=64;omega,λy hy=>?_⟩;rcases At.mp hy with rfl|hy
 ·exact zpm (k:=13) (by show ((w:Int)).natAbs<2 ^ 13;omega) #v[0,9]
 ·rw[Aq.mp hy];exact zpm (k:=13) (by show (f w).natAbs<2 ^ 13;omega) #v[0,9]
theorem zyt:∀(n:Nat) (v:List Nat),dtT v (List.replicate n 0)=0
  |0,v=>by cases v<;>rfl
  |n+1,[]=>rfl
  | n+1,x::v=>by
    rw[Bi];show x * 0+dtT v (List.replicate n 0)=0;rw[zyt n v];omega
theorem z58 (n:Nat)(v:List Nat):evA [zrT n] v=true:=by
 refine Ay.mpr λd hd=>Aj ?_;rw[Aq.mp hd];unfold zrT;rw[zyt]
structure Fns (Ψ:Str->Fn):Prop where
 hK:zkr (Ψ "_law_take")
 hD:zrf (Ψ "_law_drawn")
 hS:z6n (Ψ "_law_sums")
 hC:z50 (Ψ "_law_counts")
 hA:z5l (Ψ "_law_all")
 hE:z4c (Ψ "_law_even")
 hT:TsOk (Ψ "turned_spread")
theorem z5n {Ψ:Str->Fn}(F:Fns Ψ){k m:Nat}{st ns:W}{v2 v4 v5 v6 v7:Option (W × Bool)}(hs:HS k st)(hk:k+1000<big)(hm:m<=6):∃(st' : W) (as:List (List Nat)),zs9 Ψ [#v[ns,6],#v[st,5],v2,#v[(m:Nat),0],v4,v5,v6,v7]=some ([#v[ns,6],#v[st',5],v2,#v[(m:Nat),0],v4,v5,v6,v7],(.lst (as.map lsW),true))/\HS (k+450) st'/\as.length<=5/\∀a∈as,Row (2 ^ m) a:=by
 have s9:(1000:Nat)<=sizeLine:=by decide
 obtain⟨st1,r,e1,g1,r0,r6⟩:=F.hK k st 6 hs #v[] #v[0,9] #v[0,9];obtain⟨r,rfl⟩:=Ef r0;unfold zs9;obtain⟨ce',out,hc,u0,u1,st',as,rfl,rfl,g,la,ra⟩:=zc3 (cap:=[none,none,some 3,some 1]) (T:=.nm 1) (it:=zb4 (gCns (gArg (zad [true,false] (Ψ "_law_take") (gCns (zaa 1) (gCns #v[6] gA0)))) gA0)) (tc:=gYes) (te:=zad [true,false] (Ψ "_law_drawn") (gCns (zaa 3) (gCns #v[2,4] gA0))) (λi c dn=>∃u0 u1 st',∃as:List (List Nat),c=[u0,u1,#v[(m:Nat),0],#v[st',5]]/\dn=as.map lsW/\HS (k+1+80 * i) st'/\as.length=i/\∀a∈as,Row (2 ^ m) a) (en:=[#v[ns,6],#v[st,5],v2,#v[(m:Nat),0],v4,v5,v6,v7]) (e0:=[#v[ns,6],#v[st1,5],v2,#v[(m:Nat),0],v4,v5,v6,v7]) (ws:=rngW 0 r) (zho (n:=r) (by simp! [e1]) #v[]) rfl (by rw[zdx];omega) ⟨_,_,st1,[],rfl,rfl,g1,rfl,λ_ h=>nomatch h⟩ λi w c dn hw hp=>by
  obtain⟨u0,u1,st',as,rfl,rfl,g,la,ra⟩:=hp;obtain⟨li,rfl⟩:=zd1 hw;obtain⟨st2,xs,e2,g2,lx,bx⟩:=F.hD (k+1+80 * i) st' m g #v[] hm;obtain⟨a,rw',ea⟩:=z43 lx bx;rw[ea] at e2;refine⟨[u0,#v[(0+(i:Int)),0],#v[(m:Nat),0],#v[st',5]],rfl,.inl ⟨_,[u0,#v[(0+(i:Int)),0],#v[(m:Nat),0],#v[st2,5]],(lsW a,true),rfl,?_,_,_,st2,as++[a],rfl,by rw[Bn];rfl,g2.mono #v[],by rw[Bb,la];rfl,λb hb=>?_⟩⟩
  ·generalize W.int (0 + (i : Int)) = u;simp! [e2]
  ·rcases Bo.mp hb with hb|hb
   ·exact ra b hb
   ·rw[Aq.mp hb];exact rw'
 rw[zdx] at g la;refine⟨st',as,?_,g.mono #v[],by omega,ra⟩;rw[hc]
 rfl
theorem z3k {Ψ:Str->Fn}(F:Fns Ψ){m:Nat}{as:List (List Nat)}{v0 v1 v2 v3 v6 v7:Option (W × Bool)}(h1:1<=m)(h3:m<=3)(la:as.length<=5)(ra:∀a∈as,Row (2 ^ m) a):zuc Ψ [v0,v1,v2,v3,#v[((2 ^ m:Nat):Int),0],#v[(as.map lsW),1],v6,v7]=some ([v0,v1,v2,v3,#v[((2 ^ m:Nat):Int),0],#v[(as.map lsW),1],v6,v7],(.lst (((allR (2 ^ m)).filter (evA as)).map tmW),true)):=by
 have p6:=zl5 (show m<=6 by omega);have p8:2 ^ m<=2 ^ 3:=Cv #v[0,9] h3;have e:=F.hA m h1 h3;unfold zuc;generalize hn:2 ^ m=n at *
 have l9:(allR n).length<=2 ^ 8:=by rw[zin];exact Cv #v[0,9] p8
 refine zf0 (λc=>∃u0 u1,c=[u0,u1,#v[(as.map lsW),1]]) (e0:=[v0,v1,v2,v3,#v[(n:Int),0],#v[(as.map lsW),1],v6,v7]) tmW tmW (evA as) (by simp! [e]) #v[] rfl ⟨_,_,rfl⟩ (λc ⟨_,_,e⟩=>by rw[e];rfl) λc v hc hv=>?_;obtain⟨u0,u1,rfl⟩:=hc;have rv:=zcw.mp hv;have c2:ztc Ψ [u0,#v[tmW v,6],#v[(as.map lsW),1]]=some ([u0,#v[tmW v,6],#v[(as.map lsW),1]],(.lst ((as.map λa=>decide (dtT v a % 2=0)).map W.bl),true)):=by
  unfold ztc;rw[Be];refine zdq (λc=>∃w0 w1,c=[w0,w1,#v[tmW v,6]]) (e0:=[u0,#v[tmW v,6],#v[(as.map lsW),1]]) lsW (W.bl ∘ λa=>decide (dtT v a % 2=0)) rfl #v[] rfl ⟨_,_,rfl⟩ (λc ⟨_,_,e⟩=>by rw[e];rfl) λc a hc ha=>?_;obtain⟨w0,w1,rfl⟩:=hc;have ee:=F.hE n v a p6 rv (ra a ha);refine⟨[w0,#v[lsW a,6],#v[tmW v,6]],[w0,#v[lsW a,6],#v[tmW v,6]],false,rfl,?_,_,_,rfl⟩;show _=some ([w0,#v[lsW a,6],#v[tmW v,6]],(W.bl (decide (dtT v a % 2=0)),false));simp! [ee]
 have al:(as.map λa=>decide (dtT v a % 2=0)).all id=evA as v:=by
  unfold evA;rw[List.all_map];rfl
 refine⟨[u0,#v[tmW v,6],#v[(as.map lsW),1]],[u0,#v[tmW v,6],#v[(as.map lsW),1]],rfl,by simp! [c2,al],⟨_,_,rfl⟩,λ_=>⟨[u0,#v[tmW v,6],#v[(as.map lsW),1]],false,rfl,_,_,rfl⟩⟩
theorem z5u {Ψ:Str->Fn} (F:Fns Ψ) {k:Nat}{st ns:W}{v2 v3 v4 v5 v6 v7:Option (W × Bool)} (hs:HS k st) (hk:k+2000 < big):∃st' w3 w4 w5 w6 w7,zpr Ψ [some (ns,false),some (st,true),v2,v3,v4,v5,v6,v7]=some ([some (ns,false),some (st',true),v2,w3,w4,w5,w6,w7],.nx)/\HS (k+500) st':=by
  obtain⟨st1,r,e1,g1,r0,r3⟩:=F.hK k st 3 hs #v[] #v[0,9] #v[0,9];obtain⟨r,rfl⟩:=Ef r0;have em:(1:Int)+(r:Int)=((r+1:Nat):Int):=by omega
  generalize hm:r+1=m at em;have h1:1<=m:=by omega
  have h3:m<=3:=by omega
  have p6:=zl5 (show m<=6 by omega);have p8:2 ^ m<=2 ^ 3:=Cv #v[0,9] h3;have p2:2 ^ 1<=2 ^ m:=Cv #v[0,9] h1;have q2:=pow1 (l:=m) #v[];obtain⟨st2,as,c1,g2,la,ra⟩:=z5n F (ns:=ns) (v2:=v2) (v4:=#v[((2 ^ m:Nat):Int),0]) (v5:=v5) (v6:=v6) (v7:=v7) (m:=m) g1 #v[] #v[];have sm:=F.hS as (2 ^ m) #v[] p6 #v[] ra;obtain⟨G,_,am,ev',ld⟩:=z15 as [zrT (2 ^ m)] (zu3 (2 ^ m)) ra;generalize hD:List.foldl zaz [zrT (2 ^ m)] as=D at *
  have pl:2 ^ as.length<=2 ^ 5:=Cv (by decide) la;rw [Eo,Nat.one_mul] at ld;have wD:∀d∈D,wtT d<=2 ^ m:=fun d hd=>zzp (G.row d hd);have ct:=F.hC (2 ^ m) D p6 (by omega) wD;have c3:=z3k F (v0:=some (ns,false)) (v1:=some (st2,true)) (v2:=v2) (v3:=some (.int (m:Nat),false)) (v6:=some (ctW (2 ^ m) (cnL D),false)) (v7:=v7) h1 h3 la ra;have lf:((allR (2 ^ m)).filter (evA as)).length<=2 ^ 8:=by
    refine Bv (Gd ..) ?_;rw[zin];exact Cv #v[0,9] p8
  have wf:∀d∈(allR (2 ^ m)).filter (evA as),wtT d<=2 ^ m:=fun d hd=>zzp (zcw.mp (El.mp hd).1);have cf:=F.hC (2 ^ m) _ p6 (by omega) wf;have dpos:0 < D.length:=List.length_pos_of_mem G.zr;have wd:=wd_D wD;have tl:(ctL (2 ^ m) (cnL D)).length<=2 ^ m+1:=by
    unfold ctL;refine Bv (Gd ..) ?_;rw[Ac,Bh];exact Af _
  have t1:∀x∈ctL (2 ^ m) (cnL D),x.2.natAbs < 2 ^ 64:=fun x hx=>by
    unfold ctL at hx;obtain⟨w,_,rfl⟩:=Bf.mp (El.mp hx).1;have:=zv9 D w;have:=z59 D w;show (cnL D w).natAbs<2 ^ 64;omega
  have t2:(wdF (ctL (2 ^ m) (cnL D))).natAbs.log2 < 9000:=by
    rw[wd];have:((D.length:Int)).natAbs.log2<=((D.length:Int)).natAbs:=Nat.log2_le_self _;omega
  have tr:=F.hT m (ctL (2 ^ m) (cnL D)) (by omega) (by omega) t1 (by rw [wd];omega) t2;have fe:ctW (2 ^ m) (fun j=>trF (ctL (2 ^ m) (cnL D)) (2 ^ m) j / wdF (ctL (2 ^ m) (cnL D)))=ctW (2 ^ m) (cnL ((allR (2 ^ m)).filter (evA as))):=by
    refine z2x λw _=>?_;rw[wd,tr_D G w,Int.mul_ediv_cancel_left _ #v[],z0k (as:=as) λv rv=>?_];cases h:evA as v with
    |true=>exact ev' v (z58 _ v) λa ha=>Ar (Ay.mp h a ha)
    | false =>
      cases h2:evA D v with
      |false=>rfl
      | true =>
        have:evA as v=true:=Ay.mpr λa ha=>Ay.mp h2 a (am a ha);rw[this] at h;cases h
  rw[fe] at tr;obtain⟨s,rs⟩:=z00 (n:=2 ^ m) (f:=cnL ((allR (2 ^ m)).filter (evA as))) #v[] λw _=>⟨zv9 _ w,Int.le_trans (z59 _ w) #v[]⟩;have sn:=z5y s;have tr:Ψ "turned_spread" [.int (m:Nat),ctW (2 ^ m) (cnL D)]=some ([.int (m:Nat),ctW (2 ^ m) (cnL D)],(ctW (2 ^ m) (cnL ((allR (2 ^ m)).filter (evA as))),false)):=tr;clear fe wd tl;generalize hf:(allR (2 ^ m)).filter (evA as)=ft at *
  generalize ctW (2 ^ m) (cnL D)=T1 at *
  generalize ctW (2 ^ m) (cnL ft)=T2 at *
  refine⟨st2,#v[(m:Nat),0],#v[((2 ^ m:Nat):Int),0],#v[(as.map lsW),1],#v[T1,6],#v[(ft.map tmW),1],?_,g2.mono #v[]⟩;unfold zpr;refine zci (e1:=[#v[ns,6],#v[st1,5],v2,#v[(m:Nat),0],v4,v5,v6,v7]) ?_ (zci (e1:=[#v[ns,6],#v[st1,5],v2,#v[(m:Nat),0],#v[((2 ^ m:Nat):Int),0],v5,v6,v7]) ?_ (zci (e1:=[#v[ns,6],#v[st2,5],v2,#v[(m:Nat),0],#v[((2 ^ m:Nat):Int),0],#v[(as.map lsW),2],v6,v7]) (zd3 c1 rfl) (zci (e1:=[#v[ns,6],#v[st2,5],v2,#v[(m:Nat),0],#v[((2 ^ m:Nat):Int),0],#v[(as.map lsW),1],#v[T1,6],v7]) ?_ (zci (e1:=[#v[ns,6],#v[st2,5],v2,#v[(m:Nat),0],#v[((2 ^ m:Nat):Int),0],#v[(as.map lsW),1],#v[T1,6],#v[(ft.map tmW),2]]) (zd3 c3 rfl) ?_))))
  · simp! [e1,em]
  · simp! [q2,zay]
  · simp! [sm,ct]
  · simp! [tr,cf,rs,sn]
theorem z49 {Ψ:Str->Fn}(F:Fns Ψ){st ns:W}(hs:HS 0 st):∃en',zvh Ψ [#v[ns,6],#v[st,5],none,none,none,none,none,none]=some (#v[ns,6]::en',.nx):=by
 have bb:(20000:Nat)<big:=by decide
 unfold zvh;obtain⟨en',h,st',w2,w3,w4,w5,w6,w7,rfl,_⟩:=zb3 (mp:=[]) (T:=.nm 2) (body:=zpr Ψ) (λi e=>∃st' w2 w3 w4 w5 w6 w7,e=[#v[ns,6],#v[st',5],w2,w3,w4,w5,w6,w7]/\HS (500 * i) st') (zho (a:=gArg (gC (.int 3))) (en:=[#v[ns,6],#v[st,5],none,none,none,none,none,none]) (e1:=[#v[ns,6],#v[st,5],none,none,none,none,none,none]) (n:=3) rfl #v[]) ⟨_,_,_,_,_,_,_,rfl,hs⟩ λi w e hw hp=>by
  obtain⟨st',w2,w3,w4,w5,w6,w7,rfl,g⟩:=hp;obtain⟨li,rfl⟩:=zd1 hw;obtain⟨st2,x3,x4,x5,x6,x7,hb,g2⟩:=z5u F (ns:=ns) (v2:=#v[(0+(i:Int)),0]) (v3:=w3) (v4:=w4) (v5:=w5) (v6:=w6) (v7:=w7) g #v[];exact⟨_,_,rfl,.inl hb,_,_,_,_,_,_,_,rfl,g2.mono #v[]⟩
 exact⟨_,h⟩
theorem zxa (ns:List Int)(hl:ns.length<=63):sem T bn 40 "law" [.frl (ns.map W.int)]=some ([.frl (ns.map W.int)],(.bl true,false)):=by
 rw[z78];generalize hΨ:sem T bn 39=Ψ;have hH:zy9 (Ψ "_law_hand"):=by rw[<-hΨ,zmz];exact z2z (sem T bn 0)
 have hT:∀d,zkr (sem T bn (d+3) "_law_take"):=λd=>by rw[znp];exact zz7 (sem T bn 0)
 have hB:∀d,zob (sem T bn (d+6) "_law_bits"):=λd=>by rw[zn0];exact z17 (hT (d+2))
 have F:Fns Ψ:=by
  refine⟨?_,?_,?_,?_,?_,?_,?_⟩
  ·rw[<-hΨ];exact hT 36
  ·rw[<- hΨ,e__law_drawn];exact zwr (hT 35) (hB 32) (by rw[zl7];exact zzr (by rw[zld];exact z2i _) (hB 31)) (by rw[zjb];exact zsv (sem T bn 0))
  ·rw[<-hΨ,zl0];exact z28 _
  ·rw[<-hΨ,zjg];exact z6s _
  ·rw[<-hΨ,zqk];exact z5a _
  ·rw[<-hΨ,zm7];exact z40 _
  ·rw[<-hΨ,zgi];exact z70 (by rw[ziz];exact zzo _) (by rw[zfk];exact z27 _)
 clear hT hB;obtain⟨st0,h0,g0⟩:=hH ns hl;obtain⟨en',l4⟩:=z49 F (ns:=.frl (ns.map W.int)) g0;unfold z1e;refine zet (en:=some (.frl (ns.map W.int),false)::en') rfl (zci (e1:=[some (.frl (ns.map W.int),false),#v[st0,5],none,none,none,none,none,none]) ?_ (zci l4 ?_)) rfl
 ·simp! [h0]
 ·rfl
noncomputable abbrev nA (K:PySem.W.Frag) (n:Str) (f:Addr):Prop:=PySem.W.nsIn K mainGlobals n=some (some (.ref f))
noncomputable abbrev nL (K:PySem.W.Frag) (f:Addr) (oc:Value) (od:Option Addr) (n:Str) (st:Stmt) (kV dc pm:Value) (an:Option Addr) (cd ct:Value) (sl:Array (Option Value)):Prop:=K.lookup f=some ⟨oc,od,.func (PySem.W.fnOf n n (ze4 st) (zdc st) (zam st) .none kV dc pm an cd ct),sl⟩
noncomputable abbrev nC (K:PySem.W.Frag) (cd:Value) (n:Str):Prop:=PySem.W.codeIn K cd n=true
noncomputable abbrev nK (K:PySem.W.Frag) (f:Addr):Prop:=PySem.W.keepIn K (.ref f)=true
noncomputable def nD (K:PySem.W.Frag) (t:Fd):Prop:=∃(f:Addr) (oc:Value) (od:Option Addr) (kV dc pm:Value) (an:Option Addr) (cd ct:Value) (sl:Array (Option Value)),nA K t.nm f/\nL K f oc od t.nm t.st kV dc pm an cd ct sl/\nC K cd t.nm/\nK K f
theorem nD_i {K:PySem.W.Frag}{n:Str}{t:Fd}{f:Addr}{oc:Value}{od:Option Addr}{kV dc pm:Value}{an:Option Addr}{cd ct:Value}{sl:Array (Option Value)}(e:t.nm=n)(a:nA K n f)(l:nL K f oc od n t.st kV dc pm an cd ct sl)(c:nC K cd n)(k:nK K f):nD K t:=by
 subst e;exact⟨_,_,_,_,_,_,_,_,_,_,a,l,c,k⟩
noncomputable def bO (t:Fd):Prop:=FnScope t.N t.ps (zam t.st)/\t.m.length=t.ps.length/\∀(kV doc pm:Value) (an:Option Addr) (cdv ct:Value) (us:List Value),us.length=t.ps.length->bindArgs (PySem.W.fnOf t.nm t.nm (ze4 t.st) (zdc t.st) (zam t.st) .none kV doc pm an cdv ct) ⟨us,[]⟩=pure (t.ps.zip us)
theorem z7j {K:PySem.W.Frag}{h:Heap}{mg:Str->Option Value}(X:K.In h)(G:h.Ns mainGlobals mg){t:Fd}(b:bO t)(lm:t.nm∈lams->zvn K t.nm=true)(d:nD K t):FdOk K mg t:=by
 obtain⟨f,oc,od,kV,dc,pm,an,cd,ct,sl,a,l,c,k⟩:=d;have F:=zy8 (st:=t.st) l c k;exact⟨b.1,b.2.1,⟨_,_,F,F.binds b.2.2,PySem.W.mg_of X G a⟩,lm⟩
theorem nd_T:(T.map (·.nm)).Nodup:=by decide +kernel
theorem all_c {α:Type}{P:α->Prop}{a:α}{l:List α}(h:P a)(r:∀x∈l,P x):∀x∈a::l,P x:=List.forall_mem_cons.mpr ⟨h,r⟩
theorem all_n {α:Type}{P:α->Prop}:∀x∈([]:List α),P x:=λ_ h=>nomatch h
@[elab_as_elim] theorem lenS {α:Type}{P:List α->Prop}{n:Nat} (us:List α) (hl:us.length=n+1) (h:∀a l,l.length=n->P (a::l)):P us:=by
 cases us with
 |nil=>cases hl
 |cons a l=>exact h a l (Ei hl)
@[elab_as_elim] theorem len0 {α:Type}{P:List α->Prop} (us:List α) (hl:us.length=0) (h:P []):P us:=by
 cases us with
 |nil=>exact h
 |cons a l=>cases hl
@[elab_as_elim] theorem len1 {α:Type}{P:List α->Prop} (us:List α) (hl:us.length=1) (h:∀a,P [a]):P us:=lenS us hl λa l e=>len0 l e (h a)
@[elab_as_elim] theorem len2 {α:Type}{P:List α->Prop} (us:List α) (hl:us.length=2) (h:∀a b,P [a,b]):P us:=lenS us hl λa l e=>lenS l e λb l e=>len0 l e (h a b)
@[elab_as_elim] theorem len3 {α:Type}{P:List α->Prop} (us:List α) (hl:us.length=3) (h:∀a b c,P [a,b,c]):P us:=lenS us hl λa l e=>len2 l e (h a)
theorem ze2:bO zaw:=⟨#v[0,0,5],rfl,λ_ _ _ _ _ _ us hl=>len1 us hl λ_=>rfl⟩
theorem zha:bO zbw:=⟨#v[0,0,5],rfl,λ_ _ _ _ _ _ us hl=>len2 us hl λ_ _=>rfl⟩
theorem zfi:bO za8:=⟨#v[0,0,5],rfl,λ_ _ _ _ _ _ us hl=>len2 us hl λ_ _=>rfl⟩
theorem zkl:bO zc7:=⟨#v[0,0,5],rfl,λ_ _ _ _ _ _ us hl=>len1 us hl λ_=>rfl⟩
theorem zkz:bO zcy:=⟨#v[0,0,5],rfl,λ_ _ _ _ _ _ us hl=>len2 us hl λ_ _=>rfl⟩
theorem zjr:bO zc0:=⟨#v[0,0,5],rfl,λ_ _ _ _ _ _ us hl=>len2 us hl λ_ _=>rfl⟩
theorem zii:bO zcc:=⟨#v[0,0,5],rfl,λ_ _ _ _ _ _ us hl=>len2 us hl λ_ _=>rfl⟩
theorem zhb:bO zbu:=⟨#v[0,0,5],rfl,λ_ _ _ _ _ _ us hl=>len2 us hl λ_ _=>rfl⟩
theorem zk1:bO zcu:=⟨#v[0,0,5],rfl,λ_ _ _ _ _ _ us hl=>len3 us hl λ_ _ _=>rfl⟩
theorem ziy:bO zb8:=⟨#v[0,0,5],rfl,λ_ _ _ _ _ _ us hl=>len2 us hl λ_ _=>rfl⟩
theorem zlf:bO zc6:=⟨#v[0,0,5],rfl,λ_ _ _ _ _ _ us hl=>len2 us hl λ_ _=>rfl⟩
theorem zhj:bO zbx:=⟨#v[0,0,5],rfl,λ_ _ _ _ _ _ us hl=>len2 us hl λ_ _=>rfl⟩
theorem zm5:bO zdy:=⟨#v[0,0,5],rfl,λ_ _ _ _ _ _ us hl=>len1 us hl λ_=>rfl⟩
theorem zkj:bO zc4:=⟨#v[0,0,5],rfl,λ_ _ _ _ _ _ us hl=>len2 us hl λ_ _=>rfl⟩
theorem z6b:bO znw:=⟨#v[0,0,5],rfl,λ_ _ _ _ _ _ us hl=>len1 us hl λ_=>rfl⟩
theorem all_mk {l:PySem.W.OpenLaw}{w:World}{K:PySem.W.Frag}{h:Heap}{mg:Str->Option Value}{fa:Addr} (X:K.In h) (G:h.Ns mainGlobals mg) (hfa:mg "law" = some (.ref fa)) (D:∀t∈T,nD K t) (M:∀x∈(["_law_terms","law"]:List Str),zvn K x=true) (Z:∀x∈bn,PySem.W.nsIn K mainGlobals x=some none) :
  ∃fd:FuncData,(∀(s:Shared) (v:Value),BindsTo s fd ⟨[v],[]⟩ [("_law_script",v)])/\∀base:Heap,K.In base->base.Ns mainGlobals mg->FnOk l.prog w K mg base CX0 40 fa fd ["_law_script"] (spF K [false] (sem T bn 40 "law")):=by
 have B:∀t∈T,bO t:=all_c ze2 (all_c zha (all_c zfi (all_c zkl (all_c zkz (all_c zjr (all_c zii (all_c zhb (all_c zk1 (all_c ziy (all_c zlf (all_c zhj (all_c zm5 (all_c zkj (all_c z6b (all_n)))))))))))))));have q:∀t∈T,t.nm∈lams->t.nm∈(["_law_terms","law"]:List Str):=by decide +kernel
 obtain⟨f,oc,od,kV,dc,pm,an,cd,ct,sl,a,lk,c,k⟩:=D znw (by simp [T]);have F:=zy8 (st:=znw.st) lk c k;have e:=hfa.symm.trans (PySem.W.mg_of X G a);cases e;exact⟨_,λs v=>.of_eq rfl,λbase kb nb=>zq8 nd_T (λt ht=>z7j X G (B t ht) (λhl=>M _ (q t ht hl)) (D t ht)) (λx hx=>PySem.W.mg_none_of X G (Z x hx)) kb nb 40 znw (by simp [T]) _ _ F (PySem.W.mg_of X G a)⟩
theorem walk {l:PySem.W.OpenLaw}{q:Program}{loose:List Str}{XP:(Str->Option Value)->Heap->Prop}{YP:World->Heap->Prop}{d:DefRec}{K:Params->PySem.W.Frag} (hn:l.most=some 63) (hdf:d.params.defaults=[])
  (hY:∀(w:World) (h:Heap),YP w h->(K w.params).In h)
  (nt:∀w:World,PySem.W.noTabs (K w.params)=true) (nd:∀w:World,zui (K w.params)=true) (hrec:∀(w:World),∀x∈lams,∀c P,PySem.W.tabIn (K w.params) x=some (c,P)->∃d,(recsOf q).find? (λe=>e.name == x)=some d)
  (F:∀(w:World) (mg:Str->Option Value) (fa:Addr) (h:Heap),(K w.params).In h->h.Ns mainGlobals mg->mg d.name=some (.ref fa) ->
   ∃fd:FuncData,(∀(s:Shared) (u:Value),BindsTo s fd ⟨[u],[]⟩ [("_law_script",u)])/\∀base:Heap,(K w.params).In base->base.Ns mainGlobals mg->FnOk l.prog w (K w.params) mg base CX0 40 fa fd ["_law_script"] (spF (K w.params) [false] (sem T bn 40 "law"))) :
  PySem.W.WalkO q loose XP YP l.row.toRowW d [] (λf vs=>PySem.call f vs) :=
 L2.walk_ofT (n:=63) (k:=40) (x := "_law_script") (CX:=λ_=>CX0) (sp:=λw=>spF (K w.params) [false] (sem T bn 40 "law")) hn #v[0,9] hdf ⟨rfl,by decide,by decide,rfl⟩ hY nt nd hrec F (λ_ _ _ a ns hl st hS=>zp6 st.sub st.tb hS (ws':=[.frl (ns.map W.int)]) (zxa ns hl) rfl) λ_ _ _ _ _ z=>z
end My
open PySem PySem.W PyProof.Rows
set_option maxRecDepth 100000 in
set_option maxHeartbeats 0 in
theorem PySem.Challenge.cw_yesnowords_k25_spreads_turned_holds : PySem.Challenge.rw_yesnowords_k25_spreads_turned.Holds := by
 w_on;o_law;k_head;(case hw=>w_witness2)
 k_fill
 refine My.walk (l:=PySem.Challenge.rw_yesnowords_k25_spreads_turned) rfl rfl (fun w h Y=>by first | exact PySem.W.kIn_of Y | exact PySem.W.km_in_of Y) ?nt ?nd ?hrec ?F
 case nt=>exact fun w=>by kernel_rfl
 case nd=>exact fun w=>by kernel_rfl
 case hrec =>
  intro w x hx c P e;simp only [L2.lams,At,Cp,or_false] at hx;rcases hx with rfl | rfl | rfl | rfl | rfl
  ·exact Fg.mp (by kernel_rfl)
  ·exact nomatch (Eq.trans (by kernel_rfl) e:(none:Option (Addr × Addr))=some (c,P))
  ·exact nomatch (Eq.trans (by kernel_rfl) e:(none:Option (Addr × Addr))=some (c,P))
  ·exact nomatch (Eq.trans (by kernel_rfl) e:(none:Option (Addr × Addr))=some (c,P))
  ·exact Fg.mp (by kernel_rfl)
 case F =>
  intro w mg fa h KX G hmg;refine My.all_mk KX G hmg ?xD ?xM ?xZ
  case xM=>exact My.all_c (by kernel_rfl) (My.all_c (by kernel_rfl) (My.all_n))
  case xZ =>
   refine' My.all_c ?_ (My.all_c ?_ (My.all_c ?_ (My.all_c ?_ (My.all_c ?_ (My.all_c ?_ (My.all_c ?_ (My.all_c ?_ (My.all_c ?_ (My.all_c ?_ (My.all_c ?_ (My.all_c ?_ (My.all_c ?_ (My.all_c ?_ (My.all_c ?_ (My.all_c ?_ (My.all_c ?_ (My.all_n)))))))))))))))))
   any_goals k_is
  case xD =>
   refine' My.all_c (My.nD_i (n := "spread_of_rows") rfl ?_ ?_ ?_ ?_) (My.all_c (My.nD_i (n := "sign_powers") rfl ?_ ?_ ?_ ?_) (My.all_c (My.nD_i (n := "turned_spread") rfl ?_ ?_ ?_ ?_) (My.all_c (My.nD_i (n := "_law_hand") rfl ?_ ?_ ?_ ?_) (My.all_c (My.nD_i (n := "_law_take") rfl ?_ ?_ ?_ ?_) (My.all_c (My.nD_i (n := "_law_bits") rfl ?_ ?_ ?_ ?_) (My.all_c (My.nD_i (n := "_law_terms") rfl ?_ ?_ ?_ ?_) (My.all_c (My.nD_i (n := "_law_values") rfl ?_ ?_ ?_ ?_) (My.all_c (My.nD_i (n := "_law_poly") rfl ?_ ?_ ?_ ?_) (My.all_c (My.nD_i (n := "_law_drawn") rfl ?_ ?_ ?_ ?_) (My.all_c (My.nD_i (n := "_law_sums") rfl ?_ ?_ ?_ ?_) (My.all_c (My.nD_i (n := "_law_counts") rfl ?_ ?_ ?_ ?_) (My.all_c (My.nD_i (n := "_law_all") rfl ?_ ?_ ?_ ?_) (My.all_c (My.nD_i (n := "_law_even") rfl ?_ ?_ ?_ ?_) (My.all_c (My.nD_i (n := "law") rfl ?_ ?_ ?_ ?_) (My.all_n)))))))))))))))
   any_goals (first | (delta My.nA;k_is) | (delta My.nL;k_is) | (delta My.nC;k_is) | (delta My.nK;k_is) | k_is)