import PyProof.Rows.All
import Wide.All
import OpenK.AllK
import Wide.FinOn
import Lean
import PyProof.EqAt
import PyProof.EqKinds
import PyProof.TupleCall
import PySem.Challenge.RW_yesnowords_k85_forms_looked_at
set_option Elab.async false
set_option linter.all false
set_option maxRecDepth 100000
def Aa:=@List.getElem?_eq_getElem
def Ab:=@PySem.wpAny_bind
def Ac:=@Bool.and_eq_true
def Ad:=@Nat.le_refl
def Ae:=@List.length_map
def Af:=@decide_eq_true
def Ag:=@Bool.false_ne_true
def Ah:=@List.size_toArray
def Ai:=@PySem.Heap.get?_push_of_some
def Aj:=@List.getElem?_eq_some_iff
def Ak:=@decide_eq_false
def Al:=@of_decide_eq_true
def Am:=@PyProof.Rows.wpS_bind
def An:=@List.getElem?_map
def Ao:=@PySem.wpAny_pure
def Ap:=@List.mem_singleton
def Aq:=@List.mem_cons_of_mem
def Ar:=@PyProof.Rows.wpS_pure
def As:=@PySem.Heap.lt_size
def At:=@List.mem_cons
def Au:=@List.mem_cons_self
def Av:=@List.mem_of_getElem?
def Aw:=@Nat.lt_of_lt_of_le
def Ay:=@List.length_cons
def Az:=@List.length_append
def Ba:=@List.getD_eq_getElem?_getD
def Bb:=@PySem.Heap.get?_push_size
def Bc:=@List.append_assoc
def Bd:=@List.map_cons
def Be:=@List.length_range
def Bf:=@List.mem_append
def Bg:=@Int.eq_ofNat_of_zero_le
def Bh:=@List.mem_range
def Bi:=@Nat.ne_of_lt
def Bj:=@List.mem_append_right
def Bk:=@Nat.xor_assoc
def Bl:=@List.lookup_cons
def Bm:=@List.all_eq_true
def Bn:=@Bool.not_eq_true
def Bo:=@List.all_cons
def Bp:=@decide_eq_true_eq
def Bq:=@List.cons.inj
def Br:=@LawfulBEq.eq_of_beq
def Bs:=@Nat.xor_zero
def Bt:=@List.take_append_drop
def Bu:=@PySem.mem_of_lookup
def Bv:=@Array.toList_append
def Bw:=@List.mem_map
def Bx:=@Nat.testBit_xor
def By:=@List.append_nil
def Bz:=@Bool.or_eq_true
def Ca:=@Nat.zero_le
def Cb:=@List.take_length
def Cc:=@List.pairwise_append
def Cd:=@Nat.xor_lt_two_pow
def Ce:=@PySem.wpAny_newObj_type
def Cf:=@List.getElem?_eq_none
def Cg:=@Nat.pow_le_pow_right
def Ch:=@List.getElem?_set_ne
def Ci:=@List.pairwise_cons
def Cj:=@PyProof.Rows.wpS_forRange
def Ck:=@Nat.zero_testBit
def Cm:=@Nat.lt_irrefl
def Cn:=@List.length_take
def Co:=@Int.toNat_natCast
def Cp:=@PyProof.Rows.slot_tuple_getitem
def Cq:=@Bool.not_eq_false'
def Cr:=@List.nodup_cons
def Cs:=@List.map_append
def Ct:=@Nat.le_trans
def Cu:=@List.drop_eq_getElem_cons
def Cv:=@PySem.wpAny_loadPart'
def Cw:=@List.replicate_succ
def Cy:=@List.length_reverse
def Cz:=@Array.length_toList
def Da:=@PySem.W.kia_one
def Db:=@Nat.zero_xor
def Dc:=@Nat.zero_add
def Dd:=@List.mem_append_left
def De:=@List.take_zero
def Df:=@List.take_succ
def Dg:=@List.getElem?_set_self
def Dh:=@List.mem_filter
def Di:=@List.length_set
def Dj:=@List.getElem?_append_left
def Dk:=@PySem.wpAny_truthy_bool
def Dl:=@List.any_cons
def Dm:=@List.filter_nil
def Dn:=@PyProof.Rows.callWith_type1
def Do:=@Nat.xor_self
def Dp:=@PySem.wpAny_isNot_plain
def Dq:=@PySem.wpAny_callSpecial?_slot
def Dr:=@Option.bind_some
def Ds:=@List.length_drop
def Dt:=@List.filter_cons
def Du:=@List.nodup_iff_pairwise_ne
def Dv:=@List.filter_append
def Dw:=@PyProof.Rows.wpS_mono
def Dx:=@PySem.F.slot_int_rmul
def Dy:=@List.length_replicate
def Dz:=@List.range_succ
def Ea:=@Bool.eq_iff_iff
def Eb:=@List.pairwise_map
def Ec:=@List.mem_iff_getElem
def Ed:=@List.flatten_cons
def Ee:=@List.ext_getElem?
def Ef:=@Array.toList_push
def Eg:=@Nat.testBit_two_pow
def Eh:=@PySem.wpAny_field
def Ei:=@List.not_mem_nil
def Ej:=@List.drop_zero
def Ek:=@Bool.false_and
def El:=@PySem.wpAny_holding
def Em:=@PySem.call_meets
def Eo:=@of_decide_eq_false
def Ep:=@List.map_map
def Er:=@List.getElem_range
def Es:=@Int.emod_lt_of_pos
def Et:=@Bool.false_eq_true
def Eu:=@List.length_nil
def Ev:=@PySem.wpAny_mono
def Ew:=@List.getElem?_append_right
def Ey:=@Nat.testBit_succ
def Ez:=@Int.zero_add
def Fa:=@List.filterMap_cons
def Fb:=@List.eraseDups_cons
def Fc:=@Int.ofNat.inj
def Fe:=@PySem.F.slot_tuple_iterator_next
def Ff:=@Int.emod_nonneg
def Fg:=@PySem.wpAny_call_entry
def Fh:=@PySem.wpAny_binaryOp_repeat_ref
def Fj:=@List.pairwise_singleton
def Fm:=@List.filter_cons_of_pos
def Fo:=@List.filter_cons_of_neg
def Fp:=@PySem.Heap.SameBut.update
def Fq:=@if_true
def Fs:=@Nat.le_of_succ_le
def Ft:=@List.take_sublist
def Fu:=@List.take_of_length_le
def Fv:=@List.foldl_append
def Fw:=@PySem.wpAny_rule
def Fx:=@PySem.typeIs_int
def Fy:=@PySem.sizeLine_eq
def Fz:=@Array.getElem?_toList
def Ga:=@Bool.and_true
def Gb:=@PySem.wpAny_pyIter_list
def Gc:=@Nat.pow_pos
def Gd:=@PySem.Heap.size_push
def Ge:=@Array.toList_reverse
def Gf:=@Option.map_some
def Gh:=@LawfulMonad.pure_bind
def Gi:=@beq_eq_false_iff_ne
def Gj:=@Nat.add_sub_cancel'
def Gk:=@List.getElem?_range
def Gm:=@Nat.mul_comm
def Gn:=@beq_iff_eq
def Go:=@Int.natCast_nonneg
def Gp:=@Int.lt_of_lt_of_le
def Gq:=@Bool.not_false
def Gr:=@Array.perm_iff_toList_perm
def Gs:=@PySem.wpAny_passesOwn
def Gu:=@List.pairwise_iff_getElem
def Gv:=@Nat.lt_succ_of_lt
def Gw:=@List.take_add_one
def Gx:=@List.reverse_cons
def Gy:=@List.drop_sublist
def Gz:=@PySem.F.args_tuple_mul_2
def Ha:=@PySem.F.args_tuple_add_2
def Hb:=@Option.isSome_iff_exists
def He:=@PySem.wpAny_pyIter_enum
def Hg:=@PySem.wpAny_standAt
def Hh:=@PyProof.Rows.wpS_get
namespace PySem.W.Fast
def tw763724420022810086:=0
def tw9138281935030264695:=0
def tw6711111657143210190:=0
def tw18303982578537584923:=0
def tw7245914809965749867:=0
def tw4872736434968124840:=0
def tw10753136808944385342:=0
def tw10428841712197277445:=0
def tw10185670616360884939:=0
def tw3760935390339806871:=0
def tw4634064884116092964:=0
def tw3089577132597848359:=0
def tw9214224346924155394:=0
def tw16393548402502040511:=0
def tw9485162715114715014:=0
def tw3255790925499292741:=0
def tw7382018887008750089:=0
def tw17442952729242144158:=0
def tw2744828391167197371:=0
def tw17735558278145409198:=0
def tw16080090655253596885:=0
def tw13484191987371049488:=0
def tw16379584295926751155:=0
def tw7180440545514457427:=0
def tw6994307737517981662:=0
def tw12327857371818674375:=0
def tw2614624852157736763:=0
def tw85121621724364893:=0
def tw7049390491047490750:=0
def tw9378211419721624634:=0
def tw10322480488533432760:=0
def tw12981038480135917996:=0
def tw4897544121215665393:=0
def tw16561910692378864451:=0
def tw11806768779961304259:=0
def tw6170420659936415132:=0
def tw1625596463846677239:=0
def tw8620100325250073790:=0
def tw7971334180760604795:=0
def tw9419557647466035596:=0
def tw3732483317370850931:=0
def tw8774201992268751716:=0
def tw10948909775778652631:=0
def tw15995519830058085314:=0
def tw9477968047627831250:=0
def tw12071695211333318728:=0
def tw1647981935819011705:=0
def tw6598711403952886620:=0
def tw1622402843248615222:=0
def tw2550162125305335475:=0
def tw17636367258372282964:=0
def tw14339451318826156197:=0
def tw10378975808667262216:=0
def tw14651351188693135678:=0
def tw10153346475736752171:=0
def tw5418566395664778846:=0
def tw5067412563915066593:=0
def tw10354067393796917416:=0
def tw17991468495121103762:=0
def tw14229895126424451896:=0
def tw6034694130771503939:=0
def tw4702326469152063640:=0
def tw3538530759314899322:=0
def tw417575670078146654:=0
def tw16122072391079706933:=0
def tw2431167868440476817:=0
def tw5090161922947430757:=0
def tw12716863825447968433:=0
def tw16867613064968209470:=0
def tw14282049030852069322:=0
def tw10446388259588627859:=0
def tw17817588821180533522:=0
def tw7962239253390858369:=0
def tw9793882092031985314:=0
def tw7867995673018823458:=0
def tw2430093608443929164:=0
def tw9704999075364770806:=0
def tw9119323762960623314:=0
def tw7530421865525150645:=0
def tw1669579525282278380:=0
def tw9372998468300415788:=0
def tw5305307251107224405:=0
def tw7132741923380090410:=0
def tw4540658950977468830:=0
def tw7600469585025585341:=0
def tw17245360431239944532:=0
def tw6663421760502383469:=0
def tw2913764968653677001:=0
def tw11616565254390232997:=0
def tw1255318838568789273:=0
def tw13064195817181191521:=0
def tw16002473893272379697:=0
def tw12757903686301507718:=0
def tw3775449879710566988:=0
def tw365391219988849918:=0
def tw7371728120425370063:=0
def tw16084340949551315366:=0
def tw12093539924815737244:=0
def tw12427234850850375801:=0
def tw12341794579157364674:=0
def tw10979317587266802287:=0
def tw1340964894936127307:=0
def tw5744921270230460122:=0
def tw4409365610110822148:=0
def tw1735338796434299767:=0
def tw14352864019699107536:=0
def tw5273044852350502146:=0
def tw13584232856466075237:=0
def tw2074504963811285334:=0
def tw4977706802316314158:=0
def tw17783353228104712367:=0
def tw5605367815393773716:=0
def tw5833074902717282799:=0
def tw3449479906776026665:=0
def tw399702992548912279:=0
def tw7569891633487155961:=0
def tw13889427536106650546:=0
def tw17263774088760985277:=0
def tw14776148279795283220:=0
def tw151768016010729580:=0
def tw2290702058503310145:=0
def tw12253749090489358513:=0
def tw12938521514560721912:=0
def tw3970687872176823288:=0
def tw7701287799902710619:=0
def tw1867434554887318503:=0
def tw11445161761365185423:=0
def tw1853218886513160617:=0
def tw4728005207830741060:=0
def tw15492213616260104627:=0
def tw2856142178764997970:=0
def tw6385571803868609836:=0
def tw5900000492304499256:=0
def tw17768392359460744717:=0
def tw15915231838736773706:=0
def tw918601637923161780:=0
def tw84285618989152977:=0
def tw1089675966988859758:=0
def tw10883592243783133837:=0
def tw2506768726284949583:=0
def tw12349289976160891578:=0
def tw9486660711662635338:=0
def tw12479456278415733703:=0
def tw12944947123114306163:=0
def tw4849216838339152451:=0
def tw11450103718390218457:=0
def tw12959388750858863489:=0
def tw9010125898658980979:=0
def tw6025875792731137039:=0
def tw9203558798264867253:=0
def tw15545399803116600640:=0
def tw137147285721565483:=0
def tw13195018763855874578:=0
def tw519034611900115881:=0
def tw1950433499714418101:=0
def tw15301252424554821684:=0
def tw14585789990713951045:=0
def tw2004908939479132148:=0
def tw4093599273364729291:=0
def tw2310475374380680362:=0
def tw10501117781110007208:=0
def tw12632039049164665309:=0
def tw15795463306726597312:=0
def tw16455734271158359218:=0
def tw7646005934567608652:=0
def tw1251118472561367117:=0
def tw10023382795092452678:=0
def tw3275447644099205337:=0
def tw18351652680228770354:=0
def tw481235216086274507:=0
def tw16936724664033002477:=0
def tw289361389416830572:=0
def tw11339560583669949617:=0
def tw11834993183796077392:=0
def tw5996602314850158260:=0
def tw5256903485849908439:=0
def tw3800334093441712441:=0
def tw13724683858855963753:=0
def tw723832420964263692:=0
def tw7715869796590270681:=0
def tw2082535347511275233:=0
def tw9384243930171547043:=0
def tw16918611139183137536:=0
def tw9635103816067057022:=0
def tw8445939379480656224:=0
def tw3682469599083155451:=0
def tw12570811959970176594:=0
def tw8909520340831402002:=0
def tw3933429350536611151:=0
def tw3888775407095142475:=0
def tw510146538842702312:=0
def tw18011257198271049429:=0
def tw10153609484647126351:=0
def tw10661374619148168837:=0
def tw7409653868099806957:=0
def tw10138828598085985368:=0
def tw1183916040248560143:=0
def tw3958132643503421956:=0
def tw12864257135734926241:=0
def tw15958798734275709250:=0
def tw15439006290228337042:=0
def tw2924144958468105825:=0
def tw13940581149861927730:=0
def tw7046393151123365494:=0
def tw6379550566577443932:=0
def tw10041061499710420485:=0
def tw12169194125484159351:=0
def tw39057389053435955:=0
def tw10094743371217853885:=0
def tw16747180573538418950:=0
def tw5587675793975408123:=0
def tw12779469534027385442:=0
def tw3554664693652663405:=0
def tw12770221664732418510:=0
def tw2884278297263276545:=0
def tw5989493542584217642:=0
def tw6804143896834721719:=0
def tw13818783565627758101:=0
def tw12404552345062336042:=0
def tw16083383835226600024:=0
def tw4261954799516527278:=0
def tw15189914133238568113:=0
def tw16748781701179902111:=0
def tw14580147137335421575:=0
def tw18016412230203559689:=0
def tw10390722232955351569:=0
def tw4150854399941351643:=0
def tw14900499045377324332:=0
def tw12449881730852440063:=0
def tw3984690532583627096:=0
def tw14793921177864985517:=0
end PySem.W.Fast
theorem bS {α β}{o:Option α}{f:α->Option β}{b}(h:o.bind f=some b):∃a,o=some a/\f a=some b:=Option.bind_eq_some_iff.mp h
theorem sI {α}{a b:α}(h:some a=some b):a=b:=Option.some.inj h
namespace L2
open PySem PySem.Spec PyProof.Rows
theorem aG {P:Prop}(h:∀G:Prop,(P->G)->G):P:=h P id
end L2
set_option hygiene false
local macro_rules | `(tactic| nofun) => `(tactic| refine L2.aG fun _ qG=>?_)
local macro_rules | `(tactic| ac_rfl) => `(tactic| (refine qG ?_;clear qG))
local macro_rules | `(#v[$x]) => `((gArg (gC (.int $x))))
local macro_rules | `(#v[$x,0]) => `(some (.int $x,false))
local macro_rules | `(#v[$x,1]) => `(some (.lst $x,false))
local macro_rules | `(#v[$x,2]) => `(some (.lst $x,true))
local macro_rules | `(#v[$x,3]) => `(some (.tup $x,false))
local macro_rules | `(#v[$x,4]) => `((gArg (gVar $x)))
local macro_rules | `(#v[$x,5]) => `(some ($x,true))
local macro_rules | `(#v[$x,6]) => `(some ($x,false))
local macro_rules | `(#v[0,0,0]) => `((oI yes2 fun i j=>.int (i - j)))
local macro_rules | `(#v[0,0,1]) => `((oI cPow fun i j=>.int (i * 2 ^ j.toNat)))
local macro_rules | `(#v[0,0,2]) => `((oI (fun _ j=>decide (0 < j)) fun i j=>.int (i % j)))
local macro_rules | `(#v[0,0,3]) => `((oI cDiv fun i j=>.int (i / j)))
local macro_rules | `(#v[]) => `((by omega))
local macro_rules | `(#v[0,0,5]) => `(⟨by kernel_rfl,by kernel_rfl,by kernel_rfl,by decide +kernel,rfl,by decide +kernel,by decide +kernel⟩)
local macro_rules | `(#v[0,9]) => `((by decide))
local macro_rules | `(#v[0,0,7]) => `((by decide +kernel))
local macro_rules | `(tactic| omega) => `(tactic| first | lia | omega +splitDisjunctions)
local macro_rules
| `(#v[3,9])=>`((.frl ((n0::nr).map W.int),false))
| `(#v[9,10])=>`((s.heap.push (seqObj "list" #[] 0)))
| `(#v[9,12])=>`((.bl true,false))
| `(#v[4,7])=>`(⟨#v[0,0,5],rfl,λ_ _ _ _ _ _ us hl=>len1 us hl λ_=>rfl⟩)
| `(#v[2,9])=>`((gCns #v[1,4] gA0))
| `(#v[0,10])=>`((.ListComp elt gens scope pos))
| `(#v[9,8])=>`((gRet (gC (.bl false))))
| `(#v[5,7])=>`((.ListComp elt (⟨tg,iter,ifs,0⟩ :: gs) scope pos))
| `(#v[2,7])=>`(⟨#v[0,0,5],rfl,λ_ _ _ _ _ _ us hl=>len2 us hl λ_ _=>rfl⟩)
| `(#v[8,7])=>`((.frl (ns.map W.int),false))
| `(#v[9,7])=>`((.bl false,false))
| `(#v[3,7])=>`((model X.prog X.w))
set_option hygiene true
namespace L2
open PySem PySem.Spec PyProof.Rows
noncomputable abbrev Key:=Sum Int Str
noncomputable def zsu:Key->Value->Bool
 |.inl k,v=>Value.isInt k v
 |.inr x,v=>Value.isStrOf x v
noncomputable def keyH (w:World):Key->Int
 |.inl k=>hashInt k
 |.inr x=>hashStr w x
theorem keyIs_shape:∀{k:Key}{v:Value},zsu k v=true->(∃i t,k=Sum.inl i/\v=Value.int i t)\/(∃x t,k=Sum.inr x/\v=Value.str x t)
  | .inl i,v,h=>by
    obtain⟨t,e⟩:=Value.isInt_shape (k:=i) (v:=v) h;exact .inl ⟨i,t,rfl,e⟩
  | .inr x,v,h=>by
    obtain⟨t,e⟩:=Value.isStrOf_shape (x:=x) (v:=v) h;exact .inr ⟨x,t,rfl,e⟩
theorem zt8 (i:Int)(t:Tok):zsu (.inl i) (.int i t)=true:=by simp [zsu,Value.isInt]
theorem ztm (x:Str)(t:Tok):zsu (.inr x) (.str x t)=true:=by simp [zsu,Value.isStrOf]
theorem z9i (a b:Int):decide ((Sum.inl a:Key)=Sum.inl b)=(a == b):=by
 by_cases e:a=b
 ·subst e;simp
 ·have h : ¬ (Sum.inl a : Key) = Sum.inl b:=λq=>e (Sum.inl.inj q);rw[Ak h];exact (Gi.mpr e).symm
theorem ya1 (a b:Str):decide ((Sum.inr a:Key)=Sum.inr b)=decide (a=b):=by
 by_cases e:a=b
 ·subst e;simp
 ·have h : ¬ (Sum.inr a : Key) = Sum.inr b:=λq=>e (Sum.inr.inj q);rw[Ak h,Ak e]
theorem ya7 (a:Int)(b:Str):decide ((Sum.inl a:Key)=Sum.inr b)=false:=Ak (λq=>nomatch q)
theorem z8t (a:Str)(b:Int):decide ((Sum.inr a:Key)=Sum.inl b)=false:=Ak (λq=>nomatch q)
noncomputable def zcv (prog:Program) (w:World):PySem.KeyKind prog w Key where
 is:=zsu
 hash:=keyH w
 inj:=λv a b ha hb=>by
  rcases keyIs_shape ha with⟨i,t,rfl,rfl⟩|⟨x,t,rfl,rfl⟩
  ·rcases keyIs_shape hb with⟨j,u,rfl,e⟩|⟨y,u,rfl,e⟩
   ·injection e with e1 _;rw[e1]
   ·exact nomatch e
  ·rcases keyIs_shape hb with⟨j,u,rfl,e⟩|⟨y,u,rfl,e⟩
   ·exact nomatch e
   ·injection e with e1 _;rw[e1]
 byValue:=λk v h=>by
  rcases keyIs_shape h with⟨i,t,rfl,rfl⟩|⟨x,t,rfl,rfl⟩<;>rfl
 pyHash:=λhv h=>by
  rcases keyIs_shape hv with⟨i,t,rfl,rfl⟩|⟨x,t,rfl,rfl⟩
  ·exact wpAny_pyHash_int h
  ·exact wpAny_pyHash_str h
 eqBool:=λhu hv h=>by
  rcases keyIs_shape hu with⟨i,t,rfl,rfl⟩|⟨x,t,rfl,rfl⟩
  ·rcases keyIs_shape hv with⟨j,u,rfl,rfl⟩|⟨y,u,rfl,rfl⟩
   ·rw[z9i] at h;exact wpAny_eqBool_int h
   ·rw[ya7] at h;exact SeqAt.EqAt.int_str i t y u _ _ _ _ h
  ·rcases keyIs_shape hv with⟨j,u,rfl,rfl⟩|⟨y,u,rfl,rfl⟩
   ·rw[z8t] at h;exact SeqAt.EqAt.str_int x t j u _ _ _ _ h
   ·rw[ya1] at h;exact wpAny_eqBool_str h
 «strs»:=λk x t v h=>by
  rcases keyIs_shape h with⟨i,u,rfl,e⟩|⟨y,u,rfl,e⟩
  ·exact nomatch e
  ·injection e with e1 _;subst e1;cases v<;>rfl
theorem znk (prog:Program)(w:World)(i:Int)(t:Tok):(zcv prog w).is (.inl i) (.int i t)=true:=zt8 i t
theorem znx (prog:Program)(w:World)(x:Str)(t:Tok):(zcv prog w).is (.inr x) (.str x t)=true:=ztm x t
inductive V where
 |non|bl (b:Bool)|int (i:Int)|str (x:Str)|byt (b:Array UInt8)|flt (b:UInt64)|ref (a:Addr)|ty (n:String)
 deriving DecidableEq
noncomputable def RelV:V->Value->Prop
 |.non,u=>u=Value.none
 |.bl b,u=>u=Value.bool b
 |.int i,u=>∃t,u=Value.int i t
 |.str x,u=>∃t,u=Value.str x t
 |.byt b,u=>∃t,u=Value.bytes b t
 |.flt b,u=>∃t,u=Value.float b t
 |.ref a,u=>u=Value.ref a
 |.ty n,u=>u=Value.type n
noncomputable abbrev Vals:List V->List Value->Prop:=Paired RelV
theorem Vals.length {xs:List V}{us:List Value}(r:Vals xs us):xs.length=us.length:=Paired.length r
theorem Vals.get:∀{xs:List V}{us:List Value}{i:Nat}{x:V},Vals xs us->xs[i]?=some x->∃u,us[i]?=some u/\RelV x u
  |_,_,_,_,.nil,e=>by simp at e
  |_,_,0,_,.cons r _,e=>by simp at e;subst e;exact⟨_,rfl,r⟩
  | _,_,i+1,x,.cons _ t,e=>by
    obtain⟨u,h1,h2⟩:=Vals.get (i:=i) (x:=x) t (by simpa using e);exact⟨u,by simpa using h1,h2⟩
theorem Vals.set {x:V}{u:Value}(r:RelV x u):∀{xs:List V}{us:List Value} (i:Nat),Vals xs us->Vals (xs.set i x) (us.set i u)
 |_,_,_,.nil=>.nil
 |_,_,0,.cons _ t=>.cons r t
 |_,_,i+1,.cons q t=>.cons q (Vals.set r i t)
theorem Vals.append:∀{xs ys:List V}{us ws:List Value},Vals xs us->Vals ys ws->Vals (xs++ys) (us++ws)
 |_,_,_,_,.nil,s=>s
 |_,_,_,_,.cons r t,s=>.cons r (Vals.append t s)
theorem Vals.take:∀{xs:List V}{us:List Value} (n:Nat),Vals xs us->Vals (xs.take n) (us.take n)
 |_,_,0,_=>.nil
 |_,_,_+1,.nil=>.nil
 |_,_,n+1,.cons r t=>.cons r (Vals.take n t)
theorem Vals.drop:∀{xs:List V}{us:List Value} (n:Nat),Vals xs us->Vals (xs.drop n) (us.drop n)
 |_,_,0,r=>r
 |_,_,_+1,.nil=>.nil
 |_,_,n+1,.cons _ t=>Vals.drop n t
noncomputable def RelO:Option V->Option Value->Prop
 |some v,some u=>RelV v u
 |none,none=>True
 |_,_=>False
noncomputable def KV {κ:Type}:List (κ × V)->List (κ × Value)->Prop:=Paired λ(p:κ × V) (q:κ × Value)=>p.1=q.1/\RelV p.2 q.2
noncomputable def kV:Key->V
 |.inl i=>.int i
 |.inr x=>.str x
inductive HO where
 /-- a list -/
 |lst (xs:List V)
 /-- a tuple (never changes) -/
 |tup (xs:List V)
 /-- a dict whose keys are ints and texts;one whose keys are tuples of ints and texts (the empty one is both) -/
 |dK (kvs:List (Key × V))|dT (kvs:List (List Key × V))
 /-- a set of ints: its members,its size -/
 |set (S:Int->Bool) (n:Nat)
 /-- an instance of the class at C,its dict at dx,its attributes -/
 |ins (C dx:Addr) (fs:List (Str × V))
 /-- the dict of the instance at x -/
 |own (x:Addr)
 /-- the dict of an exception -/
 |xd (fs:List (Str × V))
 /-- a bound method,f of x -/
 |met (f x:Addr)
 /-- a range object lo,lo+1,.. below hi -/
 |rng (lo hi:Int)
 /-- a thing that is known to the object (the script;a dict while a loop walks it): read,never written while it is so -/
 |frz (o:Obj) (u:HO)
 /-- a code object's table -/
 |tbl (ps:Array Value)
 /-- any other thing,by what is true of its one object (a def of one's own: SetO a S n:=HO.ext λh=>..) -/
 |ext (φ:Heap->Prop)
noncomputable abbrev Hp:=Addr->Option HO
noncomputable def upd (H:Hp) (a:Addr) (o:HO):Hp:=λb=>if b=a then some o else H b
theorem upd_same {H:Hp}{a:Addr}{o:HO}:upd H a o a=some o:=by unfold upd;rw[if_pos rfl]
theorem upd_ne {H:Hp}{a b:Addr}{o:HO}(h:b≠a):upd H a o b=H b:=by unfold upd;rw[if_neg h]
theorem zae {H:Hp}{a b:Addr}{o:HO}(h:H a=some o)(h' : H b=none):a≠b:=by
 intro e;subst e;rw[h] at h';cases h'
section
variable (P:Program) (w:World)
noncomputable def zbx (H:Hp) (h:Heap) (a:Addr):HO->Prop
 |.lst xs=>xs.length<=sizeLine/\∃(its:List Value) (n:Nat),Vals xs its/\h.get? a=some { cls:=.type "list",data:=.seq its.toArray n }
 |.tup xs=>xs.length<=sizeLine/\∃its:List Value,Vals xs its/\IsTup h a its.toArray
 |.dK kvs=>kvs.length<=sizeLine/\(a == sysModules)=false/\∃vs,KV kvs vs/\h.DictOf (zcv P w) a vs
 | .dT kvs=>kvs.length<=sizeLine/\(a == sysModules)=false/\∃xs:List (List Key × Addr × Value),
   Paired (λ(p:List Key × V) (q:List Key × Addr × Value)=>p.1=q.1/\H q.2.1=some (.tup (p.1.map kV))/\RelV p.2 q.2.2) kvs xs /\
   ∃o es ep,h.get? a=some o/\o.ExactDict/\o.data=.dict es ep/\es.toList=xs.map (entryOfKey (tupleKind (zcv P w)))/\(xs.map (·.1)).Nodup
 |.set S n=>h.SetOf (intKind P w) a S n
 | .ins C dx fs=>H dx=some (.own a)/\fs.length<=1000/\dx≠a/\h.get? a=some (PySem.W.instObj C dx) /\
   ∃mA,h.Ns1 dx mA/\(∀f,RelO (fs.lookup f) (mA f))/\PySem.Within mA (fs.map (·.1))
 |.own _=>∃o,h.get? a=some o
 |.xd fs=>∃mA,h.Ns1 a mA/\∀f,RelO (fs.lookup f) (mA f)
 |.rng lo hi=>∃t u v,h.get? a=some { cls:=.type "range",data:=.fields #[.int lo t,.int hi u,.int 1 v] }
 |.frz o u=>h.get? a=some o/\zbx H h a u
 |.tbl ps=>h.get? a=some { cls:=.none,data:=.fields ps }
 |.met f x=>h.get? a=some (PySem.W.methodObj (.ref f) (.ref x))
 |.ext φ=>φ h/\(∃o,h.get? a=some o)/\∀h1 h2:Heap,φ h1->(∀o,h1.get? a=some o->h2.get? a=some o)->φ h2
noncomputable def HOk (H:Hp) (h:Heap):Prop:=∀a o,H a=some o->zbx P w H h a o
end
section
variable {P:Program}{w:World}{H H' : Hp}{h h' : Heap}{a:Addr}{o:HO}
theorem zbx.lt (x:zbx P w H h a o):a<h.objs.size:=by
 cases o with
 |lst xs=>obtain⟨_,_,_,_,e⟩:=x;exact As e
 |tup xs=>obtain⟨_,_,_,p⟩:=x;exact p.lt
 |dK kvs=>obtain⟨_,_,_,_,o,_,_,e,_⟩:=x;exact As e
 |dT kvs=>obtain⟨_,_,_,_,o,_,_,e,_⟩:=x;exact As e
 |set S n=>obtain⟨o,_,_,_,e,_⟩:=x;exact As e
 |ins C dx fs=>obtain⟨_,_,_,e,_⟩:=x;exact As e
 |own y=>obtain⟨_,e⟩:=x;exact As e
 |xd fs=>obtain⟨_,⟨_,_,_,e,_⟩,_⟩:=x;exact As e
 |rng lo hi=>obtain⟨_,_,_,e⟩:=x;exact As e
 |frz ob u=>obtain⟨e,_⟩:=x;exact As e
 |tbl ps=>exact As (show h.get? a=some _ from x)
 |met f y=>exact As (show h.get? a=some _ from x)
 |ext φ=>obtain⟨_,⟨_,e⟩,_⟩:=x;exact As e
theorem Paired.mapP {α β:Type}{F G:α->β->Prop}:∀{l₁:List α}{l₂:List β},Paired F l₁ l₂->(∀a b,F a b->G a b)->Paired G l₁ l₂
 |_,_,.nil,_=>.nil
 |_,_,.cons r t,f=>.cons (f _ _ r) (Paired.mapP t f)
theorem zbx.stay (x:zbx P w H h a o) (k:∀b u,(b=a\/H b=some (.own a))->h.get? b=some u->h'.get? b=some u)
    (ho:∀b,H b=some (.own a)->H' b=some (.own a)) (ht:∀b xs,H b=some (.tup xs)->H' b=some (.tup xs)):zbx P w H' h' a o:=by
  induction o with
  |lst xs=>obtain⟨z,its,n,r,e⟩:=x;exact⟨z,its,n,r,k _ _ (.inl rfl) e⟩
  |tup xs=>obtain⟨z,its,r,ob,e,c⟩:=x;exact⟨z,its,r,ob,k _ _ (.inl rfl) e,c⟩
  |dK kvs=>obtain⟨z,y,vs,r,ob,es,ep,e,c⟩:=x;exact⟨z,y,vs,r,ob,es,ep,k _ _ (.inl rfl) e,c⟩
  | dT kvs =>
    obtain⟨z,y,xs,r,ob,es,ep,e,c⟩:=x;exact⟨z,y,xs,Paired.mapP r λp q z=>⟨z.1,ht _ _ z.2.1,z.2.2⟩,ob,es,ep,k _ _ (.inl rfl) e,c⟩
  |set S n=>obtain⟨ob,es,ep,t,e,c⟩:=x;exact⟨ob,es,ep,t,k _ _ (.inl rfl) e,c⟩
  | ins C dx fs =>
    obtain⟨d,z,ne,e,mA,⟨od,es,ep,e2,c⟩,r⟩:=x;exact⟨ho _ d,z,ne,k _ _ (.inl rfl) e,mA,⟨od,es,ep,k _ _ (.inr d) e2,c⟩,r⟩
  |own y=>obtain⟨ob,e⟩:=x;exact⟨ob,k _ _ (.inl rfl) e⟩
  |xd fs=>obtain⟨mA,⟨od,es,ep,e,c⟩,r⟩:=x;exact⟨mA,⟨od,es,ep,k _ _ (.inl rfl) e,c⟩,r⟩
  |rng lo hi=>obtain⟨t,u,v,e⟩:=x;exact⟨t,u,v,k _ _ (.inl rfl) e⟩
  |frz ob u ih=>obtain⟨e,q⟩:=x;exact⟨k _ _ (.inl rfl) e,ih q⟩
  | tbl ps =>
    have e:h.get? a=some { cls:=.none,data:=.fields ps }:=x;show h'.get? a=some { cls:=.none,data:=.fields ps };exact k a _ (.inl rfl) e
  | met f y =>
    have e:h.get? a=some (PySem.W.methodObj (.ref f) (.ref y)):=x;show h'.get? a=some (PySem.W.methodObj (.ref f) (.ref y));exact k a _ (.inl rfl) e
  |ext φ=>obtain⟨p,⟨o,e⟩,st⟩:=x;exact⟨st _ _ p λo q=>k _ _ (.inl rfl) q,⟨o,k _ _ (.inl rfl) e⟩,st⟩
theorem HOk.lt (x:HOk P w H h)(e:H a=some o):a<h.objs.size:=(x a o e).lt
theorem HOk.fresh (x:HOk P w H h)(e:h.objs.size<=a):H a=none:=by
 cases q:H a with
 |none=>rfl
 |some u=>exact absurd (Aw (x.lt q) e) (Cm _)
theorem HOk.kept (x:HOk P w H h)(k:∀b u,h.get? b=some u->h'.get? b=some u):HOk P w H h':=λa o e =>
 (x a o e).stay (λb u _ q=>k b u q) (λ_ q=>q) λ_ _ q=>q
theorem HOk.laid (x:HOk P w H h)(k:∀b u,h.get? b=some u->h'.get? b=some u)(hp:h.objs.size<=a)(new:zbx P w (upd H a o) h' a o):HOk P w (upd H a o) h':=λb u e=>by
 have hn:=x.fresh hp;by_cases hb:b=a
 ·subst hb;rw[upd_same] at e;cases e;exact new
 ·rw[upd_ne hb] at e;exact (x b u e).stay (λc v _ q=>k c v q) (λc q=>by rw[upd_ne (zae q hn)];exact q) λc xs q=>by rw[upd_ne (zae q hn)];exact q
end
noncomputable def Rd (H:Hp) (a:Addr) (u:HO):Prop:=H a=some u\/∃o,H a=some (.frz o u)
theorem Rd.ok {P:Program}{w:World}{H:Hp}{h:Heap}{a:Addr}{u:HO}(r:Rd H a u)(x:HOk P w H h):zbx P w H h a u:=by
 rcases r with r|⟨o,r⟩
 ·exact x a u r
 ·obtain⟨_,q⟩:=x a _ r;exact q
noncomputable def Mut:Option HO->Prop
 |some (.lst _)=>True
 |some (.dK _)=>True
 |some (.dT _)=>True
 |some (.set _ _)=>True
 |some (.ins _ _ _)=>True
 |some (.ext _)=>True
 |_=>False
section
variable {P:Program}{w:World}{H:Hp}{h h' : Heap}{x e:Addr}{o' : HO}
theorem HOk.write (ok:HOk P w H h) (mu:Mut (H x)) (he:e=x\/H e=some (.own x)) (k:∀b u,b≠e->h.get? b=some u->h'.get? b=some u) (heo:∃u,h'.get? e=some u)
  (new:zbx P w (upd H x o') h' x o'):HOk P w (upd H x o') h':=λb u q=>by
 have nown:∀c y,H c=some (.own y)->c≠x:=λc y r z=>by subst z;rw[r] at mu;exact mu
 have ntup:∀c xs,H c=some (.tup xs)->c≠x:=λc xs r z=>by subst z;rw[r] at mu;exact mu
 by_cases hb:b=x
 ·subst hb;rw[upd_same] at q;cases q;exact new
 ·rw[upd_ne hb] at q;by_cases hbe:b=e
  ·have q' : H b=some (.own x):=by
    rcases he with z|z
    ·exact absurd (hbe.trans z) hb
    ·rw[hbe];exact z
   rw[q] at q';cases q';obtain⟨v,hv⟩:=heo;exact⟨v,by rw[hbe];exact hv⟩
  ·refine (ok b u q).stay (λc v hc r=>k c v ?_ r) (λc r=>by rw[upd_ne (nown c b r)]; exact r) λc xs r=>by rw[upd_ne (ntup c xs r)]; exact r
   rcases hc with rfl|hc
   ·exact hbe
   ·rintro rfl;rcases he with z|z
    ·exact nown c b hc z
    ·rw[hc] at z;cases z;exact hb rfl
end
structure Un (fs ex:List Addr) (H H' : Hp) (h h' : Heap):Prop where
 keep:∀b o,h.get? b=some o->H b=none->b ∉ fs->b ∉ ex->h'.get? b=some o
 slot:∀b o,h.get? b=some o->H b=none->b∈fs->b ∉ ex->∃sl,h'.get? b=some { o with slots:=sl }
 free:∀b o,h.get? b=some o->H b=none->b ∉ ex->H' b=none
 there:∀b o,h.get? b=some o->b ∉ ex->∃o',h'.get? b=some o'
 tups:∀b xs,H b=some (.tup xs)->H' b=some (.tup xs)
 frzs:∀b o u,H b=some (.frz o u)->H' b=some (.frz o u)
 tbls:∀b ps,H b=some (.tbl ps)->∃more,H' b=some (.tbl (ps++more))
section
variable {fs fs' ex ex' : List Addr}{H H1 H2:Hp}{h h1 h2 h' : Heap}{a x e:Addr}{o:HO}
theorem Un.any (u:Un fs ex H H1 h h1){b:Addr}{ob:Obj}(q:h.get? b=some ob)(n:H b=none)(hx:b ∉ ex):∃sl,h1.get? b=some { ob with slots:=sl }:=by
 by_cases hb:b∈fs
 ·exact u.slot b ob q n hb hx
 ·exact⟨ob.slots,u.keep b ob q n hb hx⟩
theorem Un.kept (k:∀b u,h.get? b=some u->h'.get? b=some u):Un fs ex H H h h' :=
 ⟨λb ob q _ _ _=>k b ob q,λb ob q _ _ _=>⟨ob.slots,k b ob q⟩,λ_ _ _ n _=>n,λb ob q _=>⟨ob,k b ob q⟩,λ_ _ q=>q,λ_ _ _ q=>q,λ_ ps q=>⟨#[],by rw[q];simp⟩⟩
theorem Un.refl:Un fs ex H H h h:=Un.kept λ_ _ q=>q
theorem Un.laid (k:∀b u,h.get? b=some u->h'.get? b=some u)(hp:h.objs.size<=a)(hn:H a=none):Un fs ex H (upd H a o) h h' where
 keep:=λb u q _ _ _=>k b u q
 slot:=λb u q _ _ _=>⟨u.slots,k b u q⟩
 free:=λb u q n _=>by rw[upd_ne (Bi (Aw (As q) hp))];exact n
 there:=λb u q _=>⟨u,k b u q⟩
 tups:=λb xs q=>by rw[upd_ne (zae q hn)];exact q
 frzs:=λb u xs q=>by rw[upd_ne (zae q hn)];exact q
 tbls:=λb ps q=>⟨#[],by rw[upd_ne (zae q hn),q];simp⟩
theorem Un.write (mu:Mut (H x))(he:e=x\/H e=some (.own x))(k:∀b u,b≠e->h.get? b=some u->h'.get? b=some u)(heo:∃u,h'.get? e=some u):Un fs ex H (upd H x o) h h':=by
 have hx:∀b,H b=none->b≠x:=λb n z=>by subst z;rw[n] at mu;exact mu
 have hb:∀b,H b=none->b≠e:=λb n z=>by
  subst z;rcases he with r|r
  ·exact hx b n r
  ·rw[n] at r;cases r
 have hm:∀b u,H b=some u->¬ Mut (some u)->b≠x:=λb u q nm z=>by subst z;rw[q] at mu;exact nm mu
 refine⟨λb u q n _ _=>k b u (hb b n) q,λb u q n _ _=>⟨u.slots,k b u (hb b n) q⟩,λb u q n _=>by rw[upd_ne (hx b n)];exact n,λb u q _=>?_,
  λb xs q=>by rw[upd_ne (hm b _ q λz=>z)];exact q,λb u xs q=>by rw[upd_ne (hm b _ q λz=>z)];exact q,λb ps q=>⟨#[],by rw[upd_ne (hm b _ q λz=>z),q];simp⟩⟩
 by_cases hbe:b=e
 ·subst hbe;exact heo
 ·exact⟨u,k b u hbe q⟩
end
noncomputable def trk (h:Heap) (H:Hp):List Addr:=(List.range h.objs.size).filter λa=>(H a).isSome
noncomputable def hidT (h:Heap) (H:Hp):Heap:=PySem.W.hideAll h (trk h H)
theorem zx1 (h:Heap)(H:Hp):(hidT h H).objs.size=h.objs.size:=PySem.W.hideAll_size _ _
theorem z06 {h:Heap}{H:Hp}{b:Addr}{o:Obj}(e:h.get? b=some o)(n:H b=none):(hidT h H).get? b=some o :=
 PySem.W.hideAll_get _ e λhm=>by
  have q:(H b).isSome=true:=(Dh.mp hm).2;rw[n] at q;simp at q
theorem z47 {h:Heap}{H:Hp}{b:Addr}{o:Obj} (e:(hidT h H).get? b=some o):h.get? b=some o/\H b=none:=by
  have e' : h.get? b=some o:=PySem.W.of_hideAll (trk h H) e;refine⟨e',?_⟩;cases q:H b with
  |none=>rfl
  | some x =>
    have hm:b∈trk h H:=Dh.mpr ⟨Bh.mpr (As e'),by simp [q]⟩;have z:(hidT h H).get? b=none:=PySem.W.hideAll_none (trk h H) hm;rw[z] at e;cases e
noncomputable def z7m (g h:Heap) (L:Addr):List (Addr × Obj):=(List.range h.objs.size).filterMap λa=>if a=L\/(g.get? a).isSome=true then none else (h.get? a).map λo=>(a,o)
noncomputable def rest (g h:Heap) (L d:Addr):List (Addr × Obj):=(z7m g h L).filter λp=>decide (p.1≠d)
structure Mod (K:PySem.W.Frag) (mg:Str->Option Value) (base:Heap):Prop where
 kin:K.In base
 glob:base.Ns mainGlobals mg
 blt:∃mb,base.Ns builtinsNs mb/\∀x:Str,x≠"__name__" -> mb x=bootBuiltins x
 nolimit:base.NoLimit
 bmn:∃(b:Addr) (ob:Obj),mg "__builtins__" = some (.ref b)/\b≠builtinsNs/\base.get? b=some ob/\ob.cls=.type "module"/\ob.dict=some builtinsNs/\ob.data=.plain
structure Cx where
 prog:Program
 w:World
 K:PySem.W.Frag
 mg:Str->Option Value
 base:Heap
 A:Around
 N:List Str
 s₀:Shared
 H₀:Hp
 env:Env
 outer:List Env
 stack:List Env
 ex:List Addr
 fn:Str->Bool
 calm:Bool
 pn:List (Addr × Obj)
 xe:Value->Shared->Prop
noncomputable def frs (l:List Env):List Addr:=l.filterMap (·.frame)
noncomputable abbrev Cx.fs (X:Cx):List Addr:=frs X.outer
noncomputable def Vis (sc:Scope) (x:Str):Prop:=sc.names.lookup x=some .local\/sc.names.lookup x=some .cell\/sc.names.lookup x=some .free
noncomputable def Loc (sc:Scope) (x:Str):Prop:=sc.names.lookup x=some .local\/sc.names.lookup x=some .cell
noncomputable def Look (env:Env) (h:Heap) (m:Str->Option Value) (x:Str) (u:Value):Prop :=
 (env.kindOf x=some .local/\m x=some u)\/((env.kindOf x=some .cell\/env.kindOf x=some .free)/\∃c,env.cells.lookup x=some c/\h.IsCell c (some u))
structure Cx.Ok (X:Cx):Prop where
 mod:Mod X.K X.mg X.base
 kind:X.env.scope.kind=.function
 glob:X.env.globals=mainGlobals
 blt:X.env.builtins=builtinsNs
 above:X.s₀.heap.objs.size<=X.env.locals
 inj:∀x y c,X.env.cells.lookup x=some c->X.env.cells.lookup y=some c->x=y
 has:∀x,(X.env.kindOf x=some .cell\/X.env.kindOf x=some .free)->∃c,X.env.cells.lookup x=some c
 cab:∀x c,X.fn x=true->X.env.cells.lookup x=some c->X.s₀.heap.objs.size<=c
 hd:X.calm=true->X.A.handled=none
 frames:X.A.frames=some X.stack
 stk:X.stack=X.outer\/(X.stack=X.env::X.outer/\X.env.frame=some X.env.locals)
 exf:∀b∈X.ex,b≠X.env.locals/\∀x c,X.env.cells.lookup x=some c->c≠b
 bs:∀b o,X.base.get? b=some o->X.s₀.heap.get? b=some o/\X.H₀ b=none
 bsz:X.base.objs.size<=X.s₀.heap.objs.size
 noex:∀b o,X.base.get? b=some o->b ∉ X.ex
 exfs:∀b∈X.ex,b ∉ X.fs
 funs:X.s₀.heap.FunFrames X.base X.outer
 frf:∀b∈X.fs,X.H₀ b=none
structure Inv (X:Cx) (pins:List (Addr × Obj)) (σ:List (Option V)) (H:Hp) (s:Shared):Prop where
 ok:X.Ok
 os:s.os=X.s₀.os
 bare:AllBare s.gens
 base:Un X.fs X.ex X.H₀ H X.s₀.heap s.heap
 loc:∃m,s.heap.Ns X.env.locals m/\∀(i:Nat) (x:Str) (v:V),X.N[i]?=some x->σ[i]?=some (some v)->Vis X.env.scope x->∃u,RelV v u/\Look X.env s.heap m x u
 cell:∀x c,X.env.cells.lookup x=some c->∃v,s.heap.IsCell c v
 free:H X.env.locals=none
 freeC:∀x c,X.env.cells.lookup x=some c->H c=none
 pin:∀p∈X.pn++pins,s.heap.get? p.1=some p.2/\H p.1=none/\p.1≠X.env.locals/\p.1 ∉ X.fs/\∀v,p.2.data≠.cell v
 hok:HOk X.prog X.w H s.heap
 len:σ.length=X.N.length
section
variable {X:Cx}{pins:List (Addr × Obj)}{σ:List (Option V)}{H H' : Hp}{s:Shared}{h' : Heap}
theorem Cx.Ok.nofr (ok:X.Ok){b:Addr}{o:Obj}(e:X.base.get? b=some o):b ∉ X.fs:=λhb=>by
 have:=(ok.funs.mem hb).1;rw[e] at this;cases this
theorem Inv.bs (I:Inv X pins σ H s):∀b o,X.base.get? b=some o->s.heap.get? b=some o/\H b=none:=λb o e =>
 ⟨I.base.keep b o (I.ok.bs b o e).1 (I.ok.bs b o e).2 (I.ok.nofr e) (I.ok.noex b o e),I.base.free b o (I.ok.bs b o e).1 (I.ok.bs b o e).2 (I.ok.noex b o e)⟩
theorem Inv.bk (I:Inv X pins σ H s):∀b o,X.base.get? b=some o->s.heap.get? b=some o:=λb o e=>(I.bs b o e).1
theorem Inv.mod (I:Inv X pins σ H s):Mod X.K X.mg X.base:=I.ok.mod
theorem Inv.kIn (I:Inv X pins σ H s):X.K.In s.heap:=I.ok.mod.kin.keeps I.bk
theorem Inv.lt (I:Inv X pins σ H s):X.env.locals<s.heap.objs.size:=let ⟨_,hn,_⟩:=I.loc;hn.lt
theorem Inv.sz (I:Inv X pins σ H s):X.s₀.heap.objs.size<=s.heap.objs.size:=Ct I.ok.above (Nat.le_of_lt I.lt)
theorem Inv.nofs (I:Inv X pins σ H s){a:Addr}(h:s.heap.objs.size<=a):a ∉ X.fs:=λhb=>by
 obtain⟨_,o,ho,_⟩:=I.ok.funs.mem hb;exact absurd (Aw (As ho) (Ct I.sz h)) (Cm _)
theorem Inv.cne (I:Inv X pins σ H s):∀x c,X.env.cells.lookup x=some c->c≠X.env.locals:=λx c e z=>by
 obtain⟨v,o,ho,hd⟩:=I.cell x c e;obtain⟨m,⟨o',es,ep,ho',hd',_⟩,_⟩:=I.loc;rw[z,ho'] at ho;cases ho;rw[hd'] at hd;cases hd
theorem Inv.funs (I:Inv X pins σ H s):s.heap.FunFrames X.base X.outer:=by
  have all:∀(l:List Env),(∀b∈frs l,b∈X.fs)->X.s₀.heap.FunFrames X.base l->s.heap.FunFrames X.base l:=by
    intro l
    induction l with
    |nil=>intro _ _;trivial
    | cons env r ih =>
      intro hs hl;obtain⟨hk,⟨L,o,hf,hn,ho,hd⟩,hr⟩:=hl;have hL:L∈X.fs:=hs L (by unfold frs;rw[Fa,hf];exact Au);obtain⟨sl,e⟩:=I.base.slot L o ho (I.ok.frf L hL) hL λz=>I.ok.exfs L z hL;exact⟨hk,⟨L,_,hf,hn,e,hd⟩,ih (λb hb=>hs b (by unfold frs;rw[Fa,hf];exact Aq _ hb)) hr⟩
  exact all X.outer (λ_ hb=>hb) I.ok.funs
theorem Inv.stack (I:Inv X pins σ H s):s.heap.FunFrames X.base X.stack:=by
 rcases I.ok.stk with e|⟨e,hf⟩
 ·rw[e];exact I.funs
 ·rw[e];obtain⟨m,hn,_⟩:=I.loc;refine .cons (by rw[I.ok.kind];decide) hf hn ?_ I.funs;exact Heap.get?_none_of_le (Ct I.ok.bsz I.ok.above)
theorem Inv.stkSub (I:Inv X pins σ H s):∀b∈frs X.stack,b∈X.env.locals::X.fs:=λb hb=>by
 rcases I.ok.stk with e|⟨e,hf⟩
 ·rw[e] at hb;exact Aq _ hb
 ·rw[e] at hb;unfold frs at hb;rw[Fa,hf] at hb;exact hb
theorem Inv.stkFree (I:Inv X pins σ H s):∀b∈frs X.stack,H b=none:=λb hb=>by
 rcases At.mp (I.stkSub b hb) with e|hb
 ·rw[e];exact I.free
 ·obtain⟨_,o,ho,_⟩:=I.ok.funs.mem hb;exact I.base.free b o ho (I.ok.frf b hb) λz=>I.ok.exfs b z hb
theorem Inv.step {g' : Array GenState}{t' : Nat}{d' : Drawn}{ch:List Addr} (I:Inv X pins σ H s)
  (hch:∀b∈ch,(b∈X.ex\/X.s₀.heap.objs.size<=b)/\b≠X.env.locals/\(∀x c,X.env.cells.lookup x=some c->c≠b)/\∀p∈X.pn++pins,p.1≠b)
  (keep:∀b o,b≠X.env.locals->b ∉ X.fs->b ∉ ch->s.heap.get? b=some o->H b=none->h'.get? b=some o)
  (slot:∀b o,b≠X.env.locals->b∈X.fs->b ∉ ch->s.heap.get? b=some o->H b=none->∃sl,h'.get? b=some { o with slots:=sl }) (free:∀b o,b ∉ ch->s.heap.get? b=some o->H b=none->H' b=none)
  (there:∀b o,b ∉ ch->s.heap.get? b=some o->∃o',h'.get? b=some o')
  (tups:∀b xs,H b=some (.tup xs)->H' b=some (.tup xs)) (frzs:∀b o u,H b=some (.frz o u)->H' b=some (.frz o u)) (tbls:∀b ps,H b=some (.tbl ps)->∃more,H' b=some (.tbl (ps++more)))
  (ns:∀m,s.heap.Ns X.env.locals m->h'.Ns X.env.locals m) (hok:HOk X.prog X.w H' h') (hg:AllBare g') :
  Inv X pins σ H' { s with heap:=h',gens:=g',drawn:=d',toks:=t' }:=by
 have neL:∀b o,X.s₀.heap.get? b=some o->b≠X.env.locals:=λb o e=>Bi (Aw (As e) I.ok.above);have neC:∀b o,X.s₀.heap.get? b=some o->b ∉ X.ex->b ∉ ch:=λb o e hx hb=>by
  rcases (hch b hb).1 with z|z
  ·exact hx z
  ·exact absurd (Aw (As e) z) (Cm _)
 have cellK:∀x c,X.env.cells.lookup x=some c->∀v,s.heap.IsCell c v->h'.IsCell c v:=λx c e v ⟨o,ho,hd⟩=>by
  have nch:c ∉ ch:=λz=>(hch c z).2.2.1 x c e rfl;by_cases hc:c∈X.fs
  ·obtain⟨sl,q⟩:=slot c o (I.cne x c e) hc nch ho (I.freeC x c e);exact⟨_,q,hd⟩
  ·exact⟨o,keep c o (I.cne x c e) hc nch ho (I.freeC x c e),hd⟩
 refine⟨I.ok,I.os,hg,⟨λb o e n hb hx=>?_,λb o e n hb hx=>?_,λb o e n hx=>?_,λb o e hx=>?_,λb xs e=>tups b xs (I.base.tups b xs e),λb o xs e=>frzs b o xs (I.base.frzs b o xs e),λb ps e=>?_⟩,?_,λx c e=>?_,?_,λx c e=>?_,λp hp=>?_,hok,I.len⟩
 ·exact keep b o (neL b o e) hb (neC b o e hx) (I.base.keep b o e n hb hx) (I.base.free b o e n hx)
 ·obtain⟨sl,e1⟩:=I.base.slot b o e n hb hx;obtain⟨sl',e2⟩:=slot b _ (neL b o e) hb (neC b o e hx) e1 (I.base.free b o e n hx);exact⟨sl',e2⟩
 ·obtain⟨o', e1⟩:=I.base.there b o e hx;exact free b o' (neC b o e hx) e1 (I.base.free b o e n hx)
 ·obtain⟨o', e1⟩:=I.base.there b o e hx;exact there b o' (neC b o e hx) e1
 ·obtain⟨m1,e1⟩:=I.base.tbls b ps e;obtain⟨m2,e2⟩:=tbls b _ e1;exact⟨m1++m2,by rw[e2,Array.append_assoc]⟩
 ·obtain⟨m,hn,hl⟩:=I.loc;refine⟨m,ns m hn,λi x v e1 e2 e3=>?_⟩;obtain⟨u,r,l⟩:=hl i x v e1 e2 e3;refine⟨u,r,?_⟩;rcases l with l|⟨k,c,e,z⟩
  ·exact .inl l
  ·exact .inr ⟨k,c,e,cellK x c e _ z⟩
 ·obtain⟨v,z⟩:=I.cell x c e;exact⟨v,cellK x c e v z⟩
 ·obtain⟨m,⟨o,_,_,ho,_⟩,_⟩:=I.loc;exact free _ o (λz=>(hch _ z).2.1 rfl) ho I.free
 ·obtain⟨v,o,ho,hd⟩:=I.cell x c e;exact free c o (λz=>(hch c z).2.2.1 x c e rfl) ho (I.freeC x c e)
 ·obtain⟨e,n,ne,nf,d⟩:=I.pin p hp;have nch:p.1 ∉ ch:=λz=>(hch p.1 z).2.2.2 p hp rfl;exact⟨keep p.1 p.2 ne nf nch e n,free p.1 p.2 nch e n,ne,nf,d⟩
theorem Inv.un {t' : Nat}(I:Inv X pins σ H s)(u:Un X.fs [] H H' s.heap h')(hok:HOk X.prog X.w H' h'):Inv X pins σ H' { s with heap:=h',toks:=t' }:=by
 obtain⟨m,⟨o,es,ep,ho,r⟩,_⟩:=id I.loc;obtain⟨sl,hL⟩:=u.any ho I.free (by simp);exact I.step (g':=s.gens) (d':=s.drawn) (ch:=[]) (λ_ z=>nomatch z) (λb o _ hb _ e n=>u.keep b o e n hb (by simp)) (λb o _ hb _ e n=>u.slot b o e n hb (by simp)) (λb o _ e n=>u.free b o e n (by simp)) (λb o _ e=>u.there b o e (by simp)) u.tups u.frzs u.tbls (λm' hm=>by
  obtain⟨o',es',ep',ho',r'⟩:=hm;rw[ho] at ho';cases ho';exact⟨_,es',ep',hL,r'⟩) hok I.bare
theorem Inv.call {g' : Array GenState}{t' : Nat}{d' : Drawn}{ch:List Addr} (I:Inv X pins σ H s) (u:Un (frs X.stack) ch H H' s.heap h') (hok:HOk X.prog X.w H' h') (hg:AllBare g')
  (hch:∀b∈ch,(b∈X.ex\/X.s₀.heap.objs.size<=b)/\b≠X.env.locals/\(∀x c,X.env.cells.lookup x=some c->c≠b)/\∀p∈X.pn++pins,p.1≠b) :
  Inv X pins σ H' { s with heap:=h',gens:=g',drawn:=d',toks:=t' }:=by
 obtain⟨m,⟨o,es,ep,ho,r⟩,_⟩:=id I.loc;obtain⟨sl,hL⟩:=u.any ho I.free λz=>(hch _ z).2.1 rfl;exact I.step (ch:=ch) hch (λb o hL hb hc e n=>u.keep b o e n (λz=>(At.mp (I.stkSub b z)).elim hL hb) hc) (λb o _ _ hc e n=>u.any e n hc) (λb o hc e n=>u.free b o e n hc) (λb o hc e=>u.there b o e hc) u.tups u.frzs u.tbls (λm' hm=>by
  obtain⟨o',es',ep',ho',r'⟩:=hm;rw[ho] at ho';cases ho';exact⟨_,es',ep',hL,r'⟩) hok hg
theorem Inv.turned {t' : Nat}{it:Addr} (I:Inv X pins σ H s) (k:∀b o,b≠it->s.heap.get? b=some o->h'.get? b=some o) (hn:H it=none) (hL:it≠X.env.locals)
  (h1:it∈X.ex\/X.s₀.heap.objs.size<=it) (h2:∀x c,X.env.cells.lookup x=some c->c≠it) (h3:∀p∈X.pn++pins,p.1≠it):Inv X pins σ H { s with heap:=h',toks:=t' }:=by
 have nit:∀b u,H b=some u->b≠it:=λb u e z=>by rw[z,hn] at e;cases e
 refine I.step (g':=s.gens) (d':=s.drawn) (ch:=[it]) (λb hb=>?_) (λb o _ _ hc e _=>k b o (λz=>hc (by simp [z])) e) (λb o _ _ hc e _=>⟨o.slots,k b o (λz=>hc (by simp [z])) e⟩) (λ_ _ _ _ n=>n)
  (λb o hc e=>⟨o,k b o (λz=>hc (by simp [z])) e⟩) (λ_ _ e=>e) (λ_ _ _ e=>e) (λb ps e=>⟨#[],by rw[e];simp⟩) (λm hm=>?_) (λb u e=>?_) I.bare
 ·have e : b = it:=by simpa using hb
  subst e;exact⟨h1,hL,h2,h3⟩
 ·obtain⟨o,es,ep,ho,r⟩:=hm;exact⟨o,es,ep,k _ o (Ne.symm hL) ho,r⟩
 ·refine (I.hok b u e).stay (λc v hc q=>k c v ?_ q) (λ_ q=>q) λ_ _ q=>q;rcases hc with z|z
  ·rw[z];exact nit b u e
  ·exact nit c _ z
theorem Inv.tok (I:Inv X pins σ H s)(t:Nat):Inv X pins σ H { s with toks:=t }:=I.un (h':=s.heap) (t':=t) Un.refl I.hok
theorem Inv.kept {t' : Nat}(I:Inv X pins σ H s)(k:∀b u,s.heap.get? b=some u->h'.get? b=some u):Inv X pins σ H { s with heap:=h',toks:=t' }:=I.un (Un.kept k) (I.hok.kept k)
theorem Inv.laid {a:Addr}{o:HO}{t' : Nat} (I:Inv X pins σ H s) (k:∀b u,s.heap.get? b=some u->h'.get? b=some u) (hp:s.heap.objs.size<=a) (new:zbx X.prog X.w (upd H a o) h' a o) :
  Inv X pins σ (upd H a o) { s with heap:=h',toks:=t' }:=I.un (Un.laid k hp (I.hok.fresh hp)) (I.hok.laid k hp new)
theorem Inv.write {x e:Addr}{o:HO}{t' : Nat} (I:Inv X pins σ H s) (mu:Mut (H x)) (he:e=x\/H e=some (.own x)) (k:∀b u,b≠e->s.heap.get? b=some u->h'.get? b=some u) (heo:∃u,h'.get? e=some u)
  (new:zbx X.prog X.w (upd H x o) h' x o):Inv X pins σ (upd H x o) { s with heap:=h',toks:=t' }:=I.un (Un.write mu he k heo) (I.hok.write mu he k heo new)
theorem Inv.pins_of {pins' : List (Addr × Obj)}(I:Inv X pins σ H s)(h:∀p∈pins',s.heap.get? p.1=some p.2/\H p.1=none/\p.1≠X.env.locals/\p.1 ∉ X.fs/\∀v,p.2.data≠.cell v):Inv X pins' σ H s :=
 ⟨I.ok,I.os,I.bare,I.base,I.loc,I.cell,I.free,I.freeC,λp hp=>(Bf.mp hp).elim (λz=>I.pin p (Dd _ z)) (h p),I.hok,I.len⟩
theorem zqe {N:List Str}(hN:N.Nodup){i j:Nat}{x:Str}(a:N[i]?=some x)(b:N[j]?=some x):i=j:=by
 obtain⟨h1,e1⟩:=Aj.mp a;obtain⟨h2,e2⟩:=Aj.mp b;exact (List.getElem_inj hN).mp (e1.trans e2.symm)
theorem zne {M:Model}{A:Around}{E:Value->Shared->Prop}{i:Nat}{x:Str}{v:V}{u:Value}{Q:Unit->Shared->Prop} (I:Inv X pins σ H s) (hN:X.N.Nodup) (hi:X.N[i]?=some x) (hx:Loc X.env.scope x) (r:RelV v u)
  (h:∀s',Inv X pins (σ.set i (some v)) H s'->(∃a,Heap.SameBut a s.heap s'.heap/\(a=X.env.locals\/X.env.cells.lookup x=some a))->Q () s') (hf:X.fn x=true\/X.env.scope.names.lookup x=some .local:=by first|exact .inl rfl|exact .inr rfl|assumption):wpAny M A (storeName X.env x u) Q E s:=by
 obtain⟨m,hn,hl⟩:=id I.loc;have hcls:(X.env.scope.kind == .class || (X.env.scope.kind == .module && X.env.locals != X.env.globals))=false:=by rw[I.ok.kind];rfl
 have hiσ:i<σ.length:=by rw[I.len];exact (Aj.mp hi).1
 have cne:=I.cne;have tracked:∀{a:Addr}{h' : Heap},(∃o,s.heap.get? a=some o/\H a=none)->Heap.SameBut a s.heap h'->HOk X.prog X.w H h':=λ{a h'} ha hs b ob e=>by
  obtain⟨_,_,hfree⟩:=ha;refine (I.hok b ob e).stay (λc w' hc q=>(hs.2 c ?_).trans q) (λ_ q=>q) λ_ _ q=>q;rintro rfl;rcases hc with rfl|hc
  ·rw[hfree] at e;cases e
  ·rw[hfree] at hc;cases hc
 rcases hx with hk|hk
 ·refine wpAny_storeName_local hk hn (λh' hn' hs => ?_) hcls;obtain⟨oL,_,_,hoL,_⟩:=id hn;refine h _ ⟨I.ok,I.os,I.bare,⟨λb o e n hb hx=>?_,λb o e n hb hx=>?_,I.base.free,λb o e hx=>?_,I.base.tups,I.base.frzs,I.base.tbls⟩,⟨_,hn',λj y v' e1 e2 e3=>?_⟩,λy c e=>?_,I.free,I.freeC,λp hp=>?_,tracked ⟨oL,hoL,I.free⟩ hs,by simpa using I.len⟩ ⟨_,hs,.inl rfl⟩
  ·exact (hs.2 b (Bi (Aw (As e) I.ok.above))).trans (I.base.keep b o e n hb hx)
  ·obtain⟨sl,e1⟩:=I.base.slot b o e n hb hx;exact⟨sl,(hs.2 b (Bi (Aw (As e) I.ok.above))).trans e1⟩
  ·obtain⟨o', e1⟩:=I.base.there b o e hx;exact⟨o',(hs.2 b (Bi (Aw (As e) I.ok.above))).trans e1⟩
  ·by_cases hj : j = i
   ·subst hj;rw[hi] at e1;cases e1;rw[Dg hiσ] at e2;cases e2;exact⟨u,r,.inl ⟨hk,by simp⟩⟩
   ·rw[Ch (Ne.symm hj)] at e2;obtain⟨u',r',q⟩:=hl j y v' e1 e2 e3;refine⟨u',r',?_⟩;rcases q with⟨k,e⟩|⟨k,c,e,z⟩
    ·refine .inl ⟨k, ?_⟩;have:y≠x:=λe=>hj (zqe hN e1 (e ▸ hi));simp [this,e]
    ·exact .inr ⟨k,c,e,z.sameBut hs (cne y c e)⟩
  ·obtain⟨w', z⟩:=I.cell y c e;exact⟨w',z.sameBut hs (cne y c e)⟩
  ·obtain⟨e,n,ne,nf,d⟩:=I.pin p hp;exact⟨(hs.2 p.1 ne).trans e,n,ne,nf,d⟩
 ·have hfn:X.fn x=true:=by
   rcases hf with z|z
   ·exact z
   ·rw[z] at hk;cases hk
  obtain⟨c,hc⟩:=I.ok.has x (.inl hk);obtain⟨w',z⟩:=I.cell x c hc;refine wpAny_storeName_cell I.ok.kind hk hc z (λh' hc' hs=>?_);obtain⟨oc,hoc,hocd⟩:=id z;refine h { s with heap:=h' } ⟨I.ok,I.os,I.bare,⟨λb o e n hb hx=>?_,λb o e n hb hx=>?_,I.base.free,λb o e hx=>?_,I.base.tups,I.base.frzs,I.base.tbls⟩,⟨m,hn.sameBut hs (Ne.symm (cne x c hc)),λj y v' e1 e2 e3=>?_⟩,λy c' e=>?_,I.free,I.freeC,λp hp=>?_,tracked ⟨oc,hoc,I.freeC x c hc⟩ hs,by simpa using I.len⟩ ⟨c,hs,.inr hc⟩
  ·exact (hs.2 b (Bi (Aw (As e) (I.ok.cab x c hfn hc)))).trans (I.base.keep b o e n hb hx)
  ·obtain⟨sl,e1⟩:=I.base.slot b o e n hb hx;exact⟨sl,(hs.2 b (Bi (Aw (As e) (I.ok.cab x c hfn hc)))).trans e1⟩
  ·obtain⟨o', e1⟩:=I.base.there b o e hx;exact⟨o',(hs.2 b (Bi (Aw (As e) (I.ok.cab x c hfn hc)))).trans e1⟩
  ·by_cases hj : j = i
   ·subst hj;rw[hi] at e1;cases e1;rw[Dg hiσ] at e2;cases e2;exact⟨u,r,.inr ⟨.inl hk,c,hc,hc'⟩⟩
   ·rw[Ch (Ne.symm hj)] at e2;obtain⟨u',r',q⟩:=hl j y v' e1 e2 e3;refine⟨u',r',?_⟩;rcases q with q|⟨k,c',e,z'⟩
    ·exact .inl q
    ·refine .inr ⟨k,c', e,z'.sameBut hs ?_⟩;rintro rfl;exact hj (zqe hN e1 (I.ok.inj _ _ _ e hc ▸ hi))
  ·by_cases hcc : c' = c
   ·subst hcc;exact⟨_,hc'⟩
   ·obtain⟨w2,z2⟩:=I.cell y c' e;exact⟨w2,z2.sameBut hs hcc⟩
  ·obtain⟨e,n,ne,nf,d⟩:=I.pin p hp;refine⟨(hs.2 p.1 ?_).trans e,n,ne,nf,d⟩;intro q;rw[q,hoc] at e;have q' : oc=p.2:=sI e;exact d w' (by rw[<-q'];exact hocd)
theorem zes {M:Model}{A:Around}{E:Value->Shared->Prop}{i:Nat}{x:Str}{v:V}{u:Value}{Q:Unit->Shared->Prop} (I:Inv X pins σ H s) (hN:X.N.Nodup) (hi:X.N[i]?=some x) (hx:Loc X.env.scope x) (r:RelV v u)
  (h:∀s',Inv X pins (σ.set i (some v)) H s'->Q () s') (hf:X.fn x=true\/X.env.scope.names.lookup x=some .local:=by first|exact .inl rfl|exact .inr rfl|assumption):wpAny M A (storeName X.env x u) Q E s :=
 zne I hN hi hx r (λs' I' _=>h s' I') hf
theorem Inv.call' {s' : Shared}{ch:List Addr} (I:Inv X pins σ H s) (ho:s'.os=s.os) (u:Un (frs X.stack) ch H H' s.heap s'.heap) (hok:HOk X.prog X.w H' s'.heap) (hg:AllBare s'.gens)
  (hch:∀b∈ch,(b∈X.ex\/X.s₀.heap.objs.size<=b)/\b≠X.env.locals/\(∀x c,X.env.cells.lookup x=some c->c≠b)/\∀p∈X.pn++pins,p.1≠b):Inv X pins σ H' s':=by
 obtain⟨h',g',d',t',o'⟩:=s';have e:o'=s.os:=ho;subst e;exact I.call (g':=g') (t':=t') (d':=d') u hok hg hch
end
noncomputable abbrev XK:=Value->Option Addr->Hp->Prop
noncomputable abbrev St:=List (Option V)
noncomputable abbrev VK:=V->Hp->Prop
noncomputable abbrev TE:=St->Hp->VK->Prop
noncomputable abbrev TT:=St->Hp->(Bool->Hp->Prop)->Prop
noncomputable abbrev TA:=St->Hp->(List V->Hp->Prop)->Prop
structure Ends where
 nx:St->Hp->Prop
 rt:VK
 bk:St->Hp->Prop:=λ_ _=>False
 ct:St->Hp->Prop:=λ_ _=>False
noncomputable abbrev TS:=Ends->St->Hp->Prop
noncomputable def EP (X:Cx) (pins:List (Addr × Obj)) (σ:St) (Q:VK) (u:Value) (s' : Shared):Prop:=∃v H',Inv X pins σ H' s'/\RelV v u/\Q v H'
noncomputable def TP (X:Cx) (pins:List (Addr × Obj)) (σ:St) (Q:Bool->Hp->Prop) (b:Bool) (s' : Shared):Prop:=∃H',Inv X pins σ H' s'/\Q b H'
noncomputable def AP (X:Cx) (pins:List (Addr × Obj)) (σ:St) (Q:List V->Hp->Prop) (us:List Value) (s' : Shared):Prop:=∃vs H',Inv X pins σ H' s'/\Vals vs us/\Q vs H'
noncomputable def SP (X:Cx) (pins:List (Addr × Obj)) (D:Ends) (f:Flow) (s' : Shared):Prop :=
 match f with
 |.next=>∃σ' H',Inv X pins σ' H' s'/\D.nx σ' H'
 |.brk=>∃σ' H',Inv X pins σ' H' s'/\D.bk σ' H'
 |.cont=>∃σ' H',Inv X pins σ' H' s'/\D.ct σ' H'
 |.ret u=>∃v σ' H',Inv X pins σ' H' s'/\RelV v u/\D.rt v H'
noncomputable def PE (X:Cx) (e:Expr) (t:TE):Prop :=
 ∀(pins:List (Addr × Obj)) (s:Shared) (σ:St) (H:Hp) (Q:VK),Inv X pins σ H s->t σ H Q->wpAny #v[3,7] X.A (eval e X.env) (EP X pins σ Q) X.xe s
noncomputable def PT (X:Cx) (e:Expr) (t:TT):Prop :=
 ∀(pins:List (Addr × Obj)) (s:Shared) (σ:St) (H:Hp) (Q:Bool->Hp->Prop),Inv X pins σ H s->t σ H Q->wpAny #v[3,7] X.A (isTrue e X.env (eval e X.env)) (TP X pins σ Q) X.xe s
noncomputable def PW (X:Cx) (e:Expr) (t:TT):Prop :=
 ∀(whole:Sem Value) (pins:List (Addr × Obj)) (s:Shared) (σ:St) (H:Hp) (Q:Bool->Hp->Prop),Inv X pins σ H s->t σ H Q->wpAny #v[3,7] X.A (isTrue e X.env whole) (TP X pins σ Q) X.xe s
theorem PW.pt {X:Cx}{e:Expr}{t:TT}(h:PW X e t):PT X e t:=h _
noncomputable def PA (X:Cx) (es:List Expr) (t:TA):Prop :=
 ∀(pos:Pos) (pins:List (Addr × Obj)) (s:Shared) (σ:St) (H:Hp) (Q:List V->Hp->Prop),Inv X pins σ H s->t σ H Q->wpAny #v[3,7] X.A (spliced (backTo pos (starEach es X.env))) (AP X pins σ Q) X.xe s
noncomputable def PS (X:Cx) (st:Stmt) (t:TS):Prop :=
 ∀(pins:List (Addr × Obj)) (s:Shared) (σ:St) (H:Hp) (D:Ends),Inv X pins σ H s->t D σ H->wpAny #v[3,7] X.A (exec st X.env) (SP X pins D) X.xe s
noncomputable def PSs (X:Cx) (st:List Stmt) (t:TS):Prop :=
 ∀(pins:List (Addr × Obj)) (s:Shared) (σ:St) (H:Hp) (D:Ends),Inv X pins σ H s->t D σ H->wpAny #v[3,7] X.A (execs st X.env) (SP X pins D) X.xe s
theorem thn {α:Type}{t:Sem α}{Q Q' : α->Shared->Prop}{M:Model}{A:Around}{E:Value->Shared->Prop}{s:Shared}(h:wpAny M A t Q E s)(hQ:∀a s,Q a s->Q' a s):wpAny M A t Q' E s:=Ev h hQ λ_ _ x=>x
section
variable {X:Cx}
theorem bin {a b:Expr}{ta tb:TE} (ha:PE X a ta) (hb:PE X b tb) {pins:List (Addr × Obj)}{s:Shared}{σ:St}{H:Hp}{R:V->V->Hp->Prop} (I:Inv X pins σ H s) (h:ta σ H fun x H1=>tb σ H1 fun y H2=>R x y H2)
  {α:Type}{Q:α->Shared->Prop}{f:Value->Value->Sem α}
  (hf:∀v u s2 x y H2,Inv X pins σ H2 s2->RelV x v->RelV y u->R x y H2->wpAny #v[3,7] X.A (f v u) Q X.xe s2) :
  wpAny #v[3,7] X.A (eval a X.env) (λv s₁=>wpAny #v[3,7] X.A (eval b X.env) (λu s₂=>wpAny #v[3,7] X.A (f v u) Q X.xe s₂) X.xe s₁) X.xe s:=by
 refine thn (ha pins s σ H _ I h) λv s1 ⟨x,H1,I1,r1,q1⟩=>?_;refine thn (hb pins s1 σ H1 _ I1 q1) λu s2 ⟨y,H2,I2,r2,q2⟩=>?_;exact hf v u s2 x y H2 I2 r1 r2 q2
noncomputable def tVar (i:Nat):TE:=λσ H Q=>∃v,σ[i]?=some (some v)/\Q v H
noncomputable def tC (v:V):TE:=λ_ H Q=>Q v H
theorem zxb {i:Nat}{x:Str}{pos:Pos}(hN:X.N[i]?=some x)(hv:Vis X.env.scope x)(hd:(x == ("__debug__" : Str))=false:=by decide)(hcd:(x == ("__classdict__" : Str))=false:=by decide):PE X (.Name x pos) (tVar i):=by
 intro pins s σ H Q I h;obtain⟨v,e,h⟩:=h;obtain⟨m,hn,hl⟩:=I.loc;obtain⟨u,r,l⟩:=hl i x v hN e hv;have fin:EP X pins σ Q u s:=⟨v,H,I,r,h⟩;rcases l with⟨hk,hm⟩|⟨hk,c,hc,hcell⟩
 ·exact wpAny_Name (wpAny_loadName_local I.ok.kind hk hn hm fin) hd
 ·rcases hk with hk|hk
  ·exact wpAny_Name (wpAny_loadName_cell I.ok.kind hk hc hcell fin) hd
  ·exact wpAny_Name (wpAny_loadName_free I.ok.kind hk hc hcell fin hcd) hd
theorem ya0 {i j pos}:PE X (.Constant (.int i) j pos) (tC (.int i)):=λ_ _ _ H _ I h=>wpAny_Constant_int ⟨.int i,H,I.tok _,⟨_,rfl⟩,h⟩
theorem yej {b j pos}:PE X (.Constant (.bool b) j pos) (tC (.bl b)):=λ_ _ _ H _ I h=>Constant_bool ⟨.bl b,H,I,rfl,h⟩
theorem ybu {j pos}:PE X (.Constant .none j pos) (tC .non):=λ_ _ _ H _ I h=>Constant_none ⟨.non,H,I,rfl,h⟩
theorem yci {x j pos}:PE X (.Constant (.str x) j pos) (tC (.str x)):=λ_ _ _ H _ I h=>Calls.Constant_str ⟨.str x,H,I.tok _,⟨_,rfl⟩,h⟩
noncomputable def Gl (X:Cx) (x:Str):Prop:=X.env.kindOf x=some .globalImplicit
theorem z4k {E:Value->Shared->Prop}{pins:List (Addr × Obj)}{s:Shared}{σ:St}{H:Hp}{x:Str}{u:Value}{pos:Pos}{Q:Value->Shared->Prop} (I:Inv X pins σ H s) (hg:Gl X x) (hm:X.mg x=some u) (h:Q u s)
  (hd:(x == ("__debug__" : Str))=false:=by decide):wpAny #v[3,7] X.A (eval (.Name x pos) X.env) Q E s :=
 Calls.Name_function_global I.ok.kind hg (Calls.loadGlobal_global (by rw[I.ok.glob];exact I.mod.glob.keeps I.bk) hm h) hd
theorem zf6 {E:Value->Shared->Prop}{pins:List (Addr × Obj)}{s:Shared}{σ:St}{H:Hp}{x:Str}{u:Value}{pos:Pos}{Q:Value->Shared->Prop} (I:Inv X pins σ H s) (hg:Gl X x) (hm:X.mg x=none) (hv:bootBuiltins x=some u) (h:Q u s)
  (hn:x≠"__name__" := by decide) (hd:(x == ("__debug__" : Str))=false:=by decide):wpAny #v[3,7] X.A (eval (.Name x pos) X.env) Q E s:=by
 obtain⟨mb,h1,h2⟩:=I.mod.blt;exact Calls.Name_function_global I.ok.kind hg (Calls.loadGlobal_builtin (by rw[I.ok.glob];exact I.mod.glob.keeps I.bk) hm (by rw[I.ok.blt];exact h1.keeps I.bk) ((h2 x hn).trans hv) h) hd
theorem z71 {x:Str}{v:V}{u:Value}{pos:Pos}(hg:Gl X x)(hm:X.mg x=none)(hv:bootBuiltins x=some u)(r:RelV v u)(hn:x≠"__name__" := by decide)(hd:(x == ("__debug__" : Str))=false:=by decide):PE X (.Name x pos) (tC v) :=
 λ_ _ _ H _ I h=>zf6 I hg hm hv ⟨v,H,I,r,h⟩ hn hd
variable {a b:Expr}{ta tb:TE}{pos:Pos}
noncomputable def PC (X:Cx) (op:CmpOp) (a b:Expr) (t:TE):Prop :=
  ∀(pins:List (Addr × Obj)) (s:Shared) (σ:St) (H:Hp) (Q:VK),Inv X pins σ H s->t σ H Q ->
    wpAny #v[3,7] X.A (eval a X.env) (λv s₁=>wpAny #v[3,7] X.A (eval b X.env) (λu s₂=>wpAny #v[3,7] X.A (compareOp op v u) (EP X pins σ Q) X.xe s₂) X.xe s₁) X.xe s
theorem zyw (b:Expr){op:CmpOp}(h:op≠.In)(h2:op≠.NotIn):behindInMarks op b=false:=by
 have e1:(op == CmpOp.In)=false:=by cases op<;>first|rfl|exact absurd rfl h
 have e2:(op == CmpOp.NotIn)=false:=by cases op<;>first|rfl|exact absurd rfl h2
 cases b<;>simp [behindInMarks,e1,e2]
noncomputable def tB (t:TE):TT:=λσ H Q=>t σ H λx H1=>∃c,x=.bl c/\Q c H1
theorem yeu {op:CmpOp}{t:TE}(h:PC X op a b t)(h1:behindInMarks op b=false:=by first|exact zyw _ #v[0,9] #v[0,9]|rfl):PT X (.Compare a [op] [b] pos) (tB t):=by
 intro pins s σ H Q I hw;refine wpAny_isTrue_Compare1 (thn (h pins s σ H _ I hw) λv s1 h1=>thn h1 λu s2 h2=>thn h2 λc s3 ⟨x,H1,I1,r1,q1⟩=>?_) h1;obtain⟨d,rfl,q⟩:=q1;cases r1;exact Dk ⟨H1,I1,q⟩
theorem z83 {e:Expr}{t:TE}(h:PE X e t)(he:∀whole,isTrue e X.env whole=(do let v <- whole;standAt e.pos;holding [v] (truthy v)):=by intro _;rfl):PT X e (tB t):=by
 intro pins s σ H Q I hw;refine isTrue_plain (thn (h pins s σ H _ I hw) λv s1 ⟨x,H1,I1,r1,q1⟩=>?_) (he _);obtain⟨d,rfl,q⟩:=q1;cases r1;exact Dk ⟨H1,I1,q⟩
variable {tA tB' : TT}{rest:List Expr}
noncomputable def tAnd (t u:TT):TT:=λσ H Q=>t σ H λc H1=>if c=true then u σ H1 Q else Q false H1
noncomputable def tOr (t u:TT):TT:=λσ H Q=>t σ H λc H1=>if c=true then Q true H1 else u σ H1 Q
noncomputable def tNot (t:TT):TT:=λσ H Q=>t σ H λc H1=>Q (!c) H1
theorem z5j (ha:PT X a tA):PW X (.BoolOp .And [a] pos) tA:=by
 intro wh pins s σ H Q I h;refine isTrue_and (thn (ha pins s σ H Q I h) λc s1 e=>?_);cases c with
 |true=>exact isTrue_and_nil e
 |false=>exact e
theorem z86 (ha:PT X a tA):PW X (.BoolOp .Or [a] pos) tA:=by
 intro wh pins s σ H Q I h;refine isTrue_or (thn (ha pins s σ H Q I h) λc s1 e=>?_);cases c with
 |false=>exact isTrue_or_nil e
 |true=>exact e
theorem z9w (ha:PT X a tA)(hb:PW X (.BoolOp .And (b::rest) pos) tB'):PW X (.BoolOp .And (a::b::rest) pos) (tAnd tA tB'):=by
 intro wh pins s σ H Q I h;refine isTrue_and (thn (ha pins s σ H _ I h) λc s1 ⟨H1,I1,q1⟩=>?_);cases c with
 |true=>exact hb wh pins s1 σ H1 Q I1 q1
 |false=>exact⟨H1,I1,q1⟩
theorem ycr (ha:PT X a tA)(hb:PW X (.BoolOp .Or (b::rest) pos) tB'):PW X (.BoolOp .Or (a::b::rest) pos) (tOr tA tB'):=by
 intro wh pins s σ H Q I h;refine isTrue_or (thn (ha pins s σ H _ I h) λc s1 ⟨H1,I1,q1⟩=>?_);cases c with
 |true=>exact⟨H1,I1,q1⟩
 |false=>exact hb wh pins s1 σ H1 Q I1 q1
theorem ybh (ha:PT X a tA):PT X (.UnaryOp .Not a pos) (tNot tA):=by
 intro pins s σ H Q I h;exact isTrue_not (ha pins s σ H (λc H1=>Q (!c) H1) I h)
noncomputable def z95 (ta tb:TE):TE:=λσ H Q=>ta σ H λx H1=>∃c,x=.bl c/\if c=true then tb σ H1 Q else Q (.bl false) H1
noncomputable def yce (ta:TE):TE:=λσ H Q=>ta σ H λx H1=>∃c,x=.bl c/\Q (.bl (!c)) H1
theorem yb3 {op}{t:TE}(h:PE X a t):PE X (.BoolOp op [a] pos) t:=λpins s σ H Q I hw=>BoolOp_one (h pins s σ H Q I hw)
theorem z8h (ha:PE X a ta)(hb:PE X (.BoolOp .And (b::rest) pos) tb):PE X (.BoolOp .And (a::b::rest) pos) (z95 ta tb):=by
 intro pins s σ H Q I h;refine BoolOp_and (thn (ha pins s σ H _ I h) λv s1 ⟨x,H1,I1,r1,q1⟩=>?_);obtain⟨c,rfl,q1⟩:=q1;cases r1;refine Dk ?_;cases c with
 |true=>exact hb pins s1 σ H1 Q I1 q1
 |false=>exact⟨.bl false,H1,I1,rfl,q1⟩
theorem yb6 (ha:PE X a ta):PE X (.UnaryOp .Not a pos) (yce ta):=by
 intro pins s σ H Q I h;refine UnaryOp_ (thn (ha pins s σ H _ I h) λv s1 ⟨x,H1,I1,r1,q1⟩=>?_);obtain⟨c,rfl,q1⟩:=q1;cases r1;exact not_of (Dk ⟨.bl (!c),H1,I1,rfl,q1⟩)
noncomputable def tIf (t:TT) (ta tb:TE):TE:=λσ H Q=>t σ H λc H1=>if c=true then ta σ H1 Q else tb σ H1 Q
theorem zz3 {c:Expr}(hc:PT X c tA)(ha:PE X a ta)(hb:PE X b tb):PE X (.IfExp c a b pos) (tIf tA ta tb):=by
 intro pins s σ H Q I h;refine wpAny_IfExp (thn (hc pins s σ H _ I h) λd s1 ⟨H1,I1,q1⟩=>?_);cases d with
 |true=>exact ha pins s1 σ H1 Q I1 q1
 |false=>exact hb pins s1 σ H1 Q I1 q1
end
noncomputable def SqL (K:PySem.W.Frag) (H:Hp) (a:Addr) (xs:List V):Prop :=
 Rd H a (.lst xs) \/
  ∃(o:Obj) (its:Array Value) (n:Nat),K.lookup a=some o/\o.cls=.type "list"/\o.dict=none/\o.data=.seq its n/\its.size<=sizeLine/\Vals xs its.toList
noncomputable def SqT (K:PySem.W.Frag) (H:Hp) (a:Addr) (xs:List V):Prop :=
 Rd H a (.tup xs) \/
  ∃(o:Obj) (its:Array Value) (n:Nat),K.lookup a=some o/\o.cls=.type "tuple"/\o.data=.seq its n/\its.size<=sizeLine/\Vals xs its.toList
noncomputable def absV:Value->Option V
 |.none=>some .non
 |.bool b=>some (.bl b)
 |.int i _=>some (.int i)
 |.str x _=>some (.str x)
 |.bytes b _=>some (.byt b)
 |.float b _=>some (.flt b)
 |.ref a=>some (.ref a)
 |.type n=>some (.ty n)
 |_=>none
theorem RelV.abs {x:V}{u:Value}(r:RelV x u):absV u=some x:=by
 cases x with
 |non=>cases r;rfl
 |bl _=>cases r;rfl
 |int _=>obtain⟨t,rfl⟩:=r;rfl
 |str _=>obtain⟨t,rfl⟩:=r;rfl
 |byt _=>obtain⟨t,rfl⟩:=r;rfl
 |flt _=>obtain⟨t,rfl⟩:=r;rfl
 |ref _=>cases r;rfl
 |ty _=>cases r;rfl
theorem RelV.inj {x y:V}{u:Value}(r:RelV x u)(q:RelV y u):x=y:=sI (r.abs.symm.trans q.abs)
theorem Vals.inj:∀{xs ys:List V}{us:List Value},Vals xs us->Vals ys us->xs=ys
 |_,_,_,.nil,.nil=>rfl
 |_,_,_,.cons r t,.cons r' t'=>by rw[r.inj r',Vals.inj t t']
section
variable {X:Cx}{pins:List (Addr × Obj)}{σ:St}{H:Hp}{s:Shared}{a:Addr}{xs ys:List V}
theorem Inv.list (I:Inv X pins σ H s)(h:SqL X.K H a xs):∃its:List Value,Vals xs its/\PlainL s.heap a its.toArray/\xs.length<=sizeLine:=by
 rcases h with h|⟨o,its,n,hk,hc,hd,hs,hz,r⟩
 ·obtain⟨z,its,n,r,e⟩:=h.ok I.hok;exact⟨its,r,⟨_,n,e,rfl,rfl,rfl⟩,z⟩
 ·refine⟨its.toList,r,⟨o,n,I.kIn a o hk,hc,hd,by simpa using hs⟩, ?_⟩;have e:=r.length;simp only [Cz] at e;omega
theorem Inv.tuple (I:Inv X pins σ H s)(h:SqT X.K H a xs):∃its:List Value,Vals xs its/\IsTup s.heap a its.toArray/\xs.length<=sizeLine:=by
 rcases h with h|⟨o,its,n,hk,hc,hs,hz,r⟩
 ·obtain⟨z,its,r,p⟩:=h.ok I.hok;exact⟨its,r,p,z⟩
 ·refine⟨its.toList,r,⟨o,I.kIn a o hk,hc,n,by simpa using hs⟩, ?_⟩;have e:=r.length;simp only [Cz] at e;omega
theorem Inv.list_inj (I:Inv X pins σ H s)(h:SqL X.K H a xs)(h' : SqL X.K H a ys):xs=ys:=by
 obtain⟨its,r,⟨o,n,e,_,_,d⟩,_⟩:=I.list h;obtain⟨its',r',⟨o',n',e',_,_,d'⟩,_⟩:=I.list h';rw[e] at e';cases e';rw[d] at d';injection d' with d1 _;have:its=its':=by simpa using congrArg Array.toList d1
 subst this;exact r.inj r'
theorem Inv.tuple_inj (I:Inv X pins σ H s)(h:SqT X.K H a xs)(h' : SqT X.K H a ys):xs=ys:=by
 obtain⟨its,r,⟨o,e,_,n,d⟩,_⟩:=I.tuple h;obtain⟨its',r',⟨o',e',_,n',d'⟩,_⟩:=I.tuple h';rw[e] at e';cases e';rw[d] at d';injection d' with d1 _;have:its=its':=by simpa using congrArg Array.toList d1
 subst this;exact r.inj r'
end
noncomputable abbrev Cx.wish (X:Cx) (E:Value->Shared->Prop):Cx:={ X with xe:=E }
noncomputable abbrev Cx.nox (X:Cx):Cx:=X.wish λ_ _=>False
theorem Cx.Ok.wish {X:Cx}(ok:X.Ok)(E:Value->Shared->Prop):(X.wish E).Ok :=
 ⟨ok.mod,ok.kind,ok.glob,ok.blt,ok.above,ok.inj,ok.has,ok.cab,ok.hd,ok.frames,ok.stk,ok.exf,ok.bs,ok.bsz,ok.noex,ok.exfs,ok.funs,ok.frf⟩
theorem Cx.Ok.unwish {X:Cx}{E:Value->Shared->Prop}(ok:(X.wish E).Ok):X.Ok :=
 ⟨ok.mod,ok.kind,ok.glob,ok.blt,ok.above,ok.inj,ok.has,ok.cab,ok.hd,ok.frames,ok.stk,ok.exf,ok.bs,ok.bsz,ok.noex,ok.exfs,ok.funs,ok.frf⟩
section
variable {X:Cx}{pins:List (Addr × Obj)}{σ:St}{H:Hp}{s:Shared}{E:Value->Shared->Prop}
theorem Inv.wish (I:Inv X pins σ H s)(E:Value->Shared->Prop):Inv (X.wish E) pins σ H s:=⟨I.ok.wish E,I.os,I.bare,I.base,I.loc,I.cell,I.free,I.freeC,I.pin,I.hok,I.len⟩
theorem Inv.unwish (I:Inv (X.wish E) pins σ H s):Inv X pins σ H s:=⟨I.ok.unwish,I.os,I.bare,I.base,I.loc,I.cell,I.free,I.freeC,I.pin,I.hok,I.len⟩
theorem SP.unwish {D:Ends}{f:Flow}{s' : Shared}(h:SP (X.wish E) pins D f s'):SP X pins D f s':=by
 cases f with
 |next=>obtain⟨σ',H',I,q⟩:=h;exact⟨σ',H',I.unwish,q⟩
 |brk=>obtain⟨σ',H',I,q⟩:=h;exact⟨σ',H',I.unwish,q⟩
 |cont=>obtain⟨σ',H',I,q⟩:=h;exact⟨σ',H',I.unwish,q⟩
 |ret u=>obtain⟨v,σ',H',I,r,q⟩:=h;exact⟨v,σ',H',I.unwish,r,q⟩
theorem PSs.nox {st:List Stmt}{t:TS}(h:PSs X.nox st t):PSs X st t:=λpins s σ H D I hw =>
 Ev (h pins s σ H D (I.wish _) hw) (λ_ _ q=>q.unwish) λ_ _ z=>False.elim z
end
section
variable {X:Cx}{st:Stmt}{rest:List Stmt}{t u:TS}{e:Expr}{te:TE}{pos:Pos}
noncomputable def z72:TS:=λD σ H=>D.nx σ H
noncomputable def tSeq (t u:TS):TS:=λD σ H=>t { D with nx:=u D } σ H
theorem z6y:PSs X [] z72:=λ_ _ σ H _ I h=>wpAny_execs_nil ⟨σ,H,I,h⟩
theorem zzw (h1:PS X st t) (h2:PSs X rest u):PSs X (st::rest) (tSeq t u):=by
  intro pins s σ H D I h;refine wpAny_execs_cons (thn (h1 pins s σ H { D with nx:=u D } I h) λf s1 q=>?_);cases f with
  | next =>
    obtain⟨σ',H',I',q⟩:=q;exact h2 pins s1 σ' H' D I' q
  |ret v=>exact q
  |brk=>exact q
  |cont=>exact q
theorem z6u (h1:PS X st t):PSs X [st] t:=by
 intro pins s σ H D I h;refine wpAny_execs_cons (thn (h1 pins s σ H D I h) λf s1 q=>?_);cases f with
 |next=>exact wpAny_execs_nil q
 |ret v=>exact q
 |brk=>exact q
 |cont=>exact q
theorem z51:PS X (.Pass pos) z72:=λ_ _ σ H _ I h=>wpAny_Pass ⟨σ,H,I,h⟩
theorem Inv.quiet {pins:List (Addr × Obj)}{σ:St}{H:Hp}{s:Shared}(I:Inv X pins σ H s):interactive X.env=false:=by simp [interactive,I.ok.kind]
noncomputable def z80 (te:TE):TS:=λD σ H=>te σ H λ_ H1=>D.nx σ H1
theorem z5t (he:PE X e te)(hs:swapsWith e none pos.line X.env=pure false:=by rfl):PS X (.Expr e pos) (z80 te):=by
 intro pins s σ H D I h;exact wpAny_Expr_any (thn (he pins s σ H _ I h) λv s1 ⟨x,H1,I1,r1,q1⟩=>⟨σ,H1,I1,q1⟩) I.quiet hs
noncomputable def tRet (te:TE):TS:=λD σ H=>te σ H D.rt
theorem z2w (he:PE X e te):PS X (.Return (some e) pos) (tRet te):=by
 intro pins s σ H D I h;exact wpAny_Return_some (thn (he pins s σ H _ I h) λv s1 ⟨x,H1,I1,r1,q1⟩=>⟨x,σ,H1,I1,r1,q1⟩)
noncomputable def tIfS (c:TT) (t u:TS):TS:=λD σ H=>c σ H λb H1=>if b=true then t D σ H1 else u D σ H1
theorem yei {c:Expr}{a b:List Stmt}{tc:TT}(hc:PT X c tc)(ha:PSs X a t)(hb:PSs X b u):PS X (.If c a b pos) (tIfS tc t u):=by
 intro pins s σ H D I h;refine wpAny_If (thn (hc pins s σ H _ I h) λd s1 ⟨H1,I1,q1⟩=>?_);cases d with
 |true=>exact ha pins s1 σ H1 D I1 q1
 |false=>exact hb pins s1 σ H1 D I1 q1
end
noncomputable abbrev TG:=V->St->Hp->(St->Hp->Prop)->Prop
noncomputable abbrev TGs:=List V->St->Hp->(St->Hp->Prop)->Prop
noncomputable def PG (X:Cx) (target:Expr) (t:TG):Prop :=
  ∀(pins:List (Addr × Obj)) (s:Shared) (σ:St) (H:Hp) (v:V) (u:Value) (Q:St->Hp->Prop),Inv X pins σ H s->RelV v u->t v σ H Q ->
    wpAny #v[3,7] X.A (assign target X.env u) (λ_ s'=>∃σ' H',Inv X pins σ' H' s'/\Q σ' H') X.xe s
noncomputable def PGs (X:Cx) (ts:List Expr) (t:TGs):Prop :=
  ∀(pins:List (Addr × Obj)) (s:Shared) (σ:St) (H:Hp) (vs:List V) (us:List Value) (Q:St->Hp->Prop),Inv X pins σ H s->Vals vs us->t vs σ H Q ->
    wpAny #v[3,7] X.A (assignInOrder ((assignEach ts X.env).map (·.2)) us) (λ_ s'=>∃σ' H',Inv X pins σ' H' s'/\Q σ' H') X.xe s
noncomputable abbrev TSet:=V->V->V->Hp->(Hp->Prop)->Prop
noncomputable def PSet (X:Cx) (t:TSet):Prop :=
  ∀(pins:List (Addr × Obj)) (s:Shared) (σ:St) (H:Hp) (o i v:V) (ov iv u:Value) (Q:Hp->Prop),Inv X pins σ H s->RelV o ov->RelV i iv->RelV v u->t o i v H Q ->
    wpAny #v[3,7] X.A (setItem ov iv u) (λ_ s'=>∃H',Inv X pins σ H' s'/\Q H') X.xe s
noncomputable abbrev TIp:=V->V->Hp->VK->Prop
noncomputable def PIp (X:Cx) (op:Operator) (t:TIp):Prop :=
  ∀(pins:List (Addr × Obj)) (s:Shared) (σ:St) (H:Hp) (x y:V) (v u:Value) (Q:VK),Inv X pins σ H s->RelV x v->RelV y u->t x y H Q ->
    wpAny #v[3,7] X.A (inplaceOp op v u) (EP X pins σ Q) X.xe s
section
variable {X:Cx}{pos:Pos}
noncomputable def zrw (i:Nat):TG:=λv σ H Q=>Q (σ.set i (some v)) H
theorem zue {i:Nat}{x:Str}(hN:X.N.Nodup)(hi:X.N[i]?=some x)(hx:Loc X.env.scope x)(hf:X.fn x=true\/X.env.scope.names.lookup x=some .local:=by first|exact .inl rfl|exact .inr rfl|assumption):PG X (.Name x pos) (zrw i):=by
 intro pins s σ H v u Q I r h;exact wpAny_assign_Name (zes I hN hi hx r (λs' I'=>⟨_,H,I',h⟩) hf)
noncomputable def gNil:TGs:=λvs σ H Q=>vs=[]/\Q σ H
noncomputable def z10 (t:TG) (u:TGs):TGs:=λvs σ H Q=>∃v r,vs=v::r/\t v σ H λσ' H'=>u r σ' H' Q
theorem zyl:PGs X [] gNil:=by
 intro pins s σ H vs us Q I r h;obtain⟨e,h⟩:=h;subst e;cases r;exact assignInOrder_nil ⟨σ,H,I,h⟩
theorem zjs {e:Expr}{es:List Expr}{t:TG}{u:TGs} (h1:PG X e t) (h2:PGs X es u)
    (hs:(assignEach (e::es) X.env).map (·.2)=assign e X.env::(assignEach es X.env).map (·.2):=by rfl):PGs X (e::es) (z10 t u):=by
  intro pins s σ H vs us Q I r h;obtain⟨v,vr,e1,h⟩:=h;subst e1;cases r with
  | cons r rr =>
    rw[hs];refine assignInOrder_cons (thn (h1 pins s σ H _ _ _ I r h) λ_ s1 ⟨σ1,H1,I1,q1⟩=>?_);exact h2 pins s1 σ1 H1 _ _ Q I1 rr q1
noncomputable def gTup (K:PySem.W.Frag) (n:Nat) (t:TGs):TG:=λv σ H Q=>∃a xs,v=.ref a/\SqT K H a xs/\xs.length=n/\t xs σ H Q
theorem z97 {es:List Expr}{k:Nat}{t:TGs}{n:Nat} (hc:X.calm=true) (h:PGs X es t)
  (hn:(assignEach es X.env).length=n:=by rfl) (hst:(assignEach es X.env).findIdx? (·.1)=none:=by rfl):PG X (.Tuple es k pos) (gTup X.K n t):=by
 intro pins s σ H v u Q I r hw;obtain⟨a,xs,e1,hq,hl,hw⟩:=hw;subst e1;cases r;obtain⟨its,rv,ht,hz⟩:=I.tuple hq;refine assign_Tuple_tuple (I.ok.hd hc) ht (by simp [hn,<-hl,rv.length]) hst λh' hx=>?_;have I1:Inv X pins σ H { s with heap:=h' }:=I.kept (t':=s.toks) λb o e=>hx b o (Bi (As e)) e;exact h pins _ σ H xs _ Q I1 (by simpa using rv) hw
noncomputable def gSub (to ti:TE) (t:TSet):TG:=λv σ H Q=>to σ H λo H1=>ti σ H1 λi H2=>t o i v H2 λH3=>Q σ H3
theorem ycb {o i:Expr}{to ti:TE}{t:TSet} (ho:PE X o to) (hi:PE X i ti) (hs:PSet X t)
  (ha:∀v,assign (.Subscript o i pos) X.env v=(do
   let ov <- holding [v] (eval o X.env)
   let iv <- holding [v,ov] (eval i X.env)
   standAt pos
   holding [v,ov,iv] (setItem ov iv v)
   release [v,ov,iv] []):=by intro _;rfl):PG X (.Subscript o i pos) (gSub to ti t):=by
 intro pins s σ H v u Q I r h;rw[ha];refine Ab (El (thn (ho pins s σ H _ I h) λov s1 ⟨x,H1,I1,r1,q1⟩=>?_));refine Ab (El (thn (hi pins s1 σ H1 _ I1 q1) λiv s2 ⟨y,H2,I2,r2,q2⟩=>?_));refine Ab (Hg (Ab (El (thn (hs pins s2 σ H2 x y v ov iv u _ I2 r1 r2 r q2) λ_ s3 ⟨H3,I3,q3⟩=>?_))));exact wpAny_release ⟨σ,H3,I3,q3⟩
noncomputable def tAsg (te:TE) (g:TG):TS:=λD σ H=>te σ H λx H1=>g x σ H1 D.nx
theorem zxg {tg e:Expr}{te:TE}{g:TG} (he:PE X e te) (hg:PG X tg g) (hs:swapsWithSole [tg] e pos.line X.env=pure false:=by rfl) (hw:swappedStores [tg] e X.env=pure none:=by rfl)
  (h1:(assignEach [tg] X.env).map (·.2)=[assign tg X.env]:=by rfl):PS X (.Assign [tg] e pos) (tAsg te g):=by
 intro pins s σ H D I h;refine wpAny_Assign_stores (thn (he pins s σ H _ I h) λv s1 ⟨x,H1,I1,r1,q1⟩=>?_) hs hw;rw[h1];exact thn (hg pins s1 σ H1 x v _ I1 r1 q1) λ_ s2 q=>q
theorem z3u {i:Nat}{x:Str}{e:Expr}{te:TE}{pos' : Pos} (hN:X.N.Nodup) (hi:X.N[i]?=some x) (hx:Loc X.env.scope x) (he:PE X e te) (hs:swapsWith e (some (.Name x pos')) pos.line X.env=pure false:=by rfl) (hf:X.fn x=true\/X.env.scope.names.lookup x=some .local:=by first | exact .inl rfl | exact .inr rfl | assumption) :
  PS X (.Assign [.Name x pos'] e pos) (tAsg te (zrw i)):=by
 intro pins s σ H D I h;refine wpAny_Assign_Name (thn (he pins s σ H _ I h) λv s1 ⟨y,H1,I1,r1,q1⟩=>?_) hs;exact zes I1 hN hi hx r1 (λs2 I2=>⟨_,H1,I2,q1⟩) hf
noncomputable def tPar (i j:Nat) (ta:TA):TS:=λD σ H=>ta σ H λvs H1=>∃v w,vs=[v,w]/\D.nx ((σ.set i (some v)).set j (some w)) H1
theorem z9a {i j:Nat}{x y:Str}{a b:Expr}{ta:TA}{px py pt:Pos}{kt k2 pt2} (hc:X.calm=true) (hN:X.N.Nodup) (hi:X.N[i]?=some x) (hj:X.N[j]?=some y) (hij:i≠j)
    (hx:X.env.scope.names.lookup x=some .local) (hy:X.env.scope.names.lookup y=some .local) (ha:PA X [a,b] ta)
    (hw:swappedStores [.Tuple [.Name x px,.Name y py] kt pt] (.Tuple [a,b] k2 pt2) X.env=pure (some [x,y]))
    (hs:swapsWithSole [.Tuple [.Name x px,.Name y py] kt pt] (.Tuple [a,b] k2 pt2) pos.line X.env=pure false:=by rfl) :
    PS X (.Assign [.Tuple [.Name x px,.Name y py] kt pt] (.Tuple [a,b] k2 pt2) pos) (tPar i j ta):=by
  intro pins s σ H D I h;rw [exec_Assign_arm];refine Ab (Hg ?_);rw [hs];refine Ab (Ao ?_);rw [if_neg (by decide)];refine Ab (Tuple_ (thn (ha _ pins s σ H _ I h) fun us s1 ⟨vs,H1,I1,r1,q1⟩=>?_));obtain ⟨v,w,e1,q1⟩:=q1;subst e1;obtain ⟨u1,u2,rfl,rv,rw'⟩ : ∃u1 u2,us=[u1,u2]/\RelV v u1/\RelV w u2:=by
    cases r1 with
    | cons p q =>
      cases q with
      | cons p' q' =>
        cases q';exact⟨_,_,rfl,p,p'⟩
  refine Ce ?_ (by show 2<=sizeLine;decide);have I2:Inv X pins σ H1 { s1 with heap:=s1.heap.push { cls:=.type "tuple",data:=.seq [u1,u2].toArray } }:=I1.kept (t':=s1.toks) λb o e=>Ai _ e;rw[hw];refine Ab (Ao ?_);show wpAny #v[3,7] X.A (do rule "assign.swapped-stores";let items <- unpackItems (.ref s1.heap.objs.size) 2 none;assignInOrder [λv=>bindName X.env y v,λv=>bindName X.env x v] items.reverse;pure Flow.next) _ _ _;refine Ab (Fw (Ab (unpackItems_tuple (items:=#[u1,u2]) (I.ok.hd hc) (IsTup.new s1.heap _) λh' hx'=>?_)));have I3:=I2.kept (h':=h') (t':=s1.toks) λb o e=>hx' b o (Bi (As e)) e;show wpAny _ _ (assignInOrder [λv=>bindName X.env y v,λv=>bindName X.env x v] [u2,u1] >>= λ_=>pure Flow.next) _ _ _;refine Ab (assignInOrder_cons (wpAny_bindName (zes I3 hN hj (.inl hy) rw' (λs2 I4=>?_) (.inr hy))));refine assignInOrder_cons (wpAny_bindName (zes I4 hN hi (.inl hx) rv (λs3 I5=>assignInOrder_nil (Ao ?_)) (.inr hx)));rw[List.set_comm _ _ (Ne.symm hij)] at I5;exact⟨_,H1,I5,q1⟩
noncomputable def tAug (i:Nat) (te:TE) (ti:TIp):TS:=λD σ H=>∃x,σ[i]?=some (some x)/\te σ H λy H1=>ti x y H1 λz H2=>D.nx (σ.set i (some z)) H2
theorem z87 {i:Nat}{x:Str}{e:Expr}{te:TE}{op:Operator}{ti:TIp}{pos' : Pos} (hN:X.N.Nodup) (hi:X.N[i]?=some x) (hx:Loc X.env.scope x) (he:PE X e te) (ho:PIp X op ti) (hf:X.fn x=true\/X.env.scope.names.lookup x=some .local:=by first | exact .inl rfl | exact .inr rfl | assumption) :
  PS X (.AugAssign (.Name x pos') op e pos) (tAug i te ti):=by
 intro pins s σ H D I h;obtain⟨v,e1,h⟩:=h;obtain⟨m,hn,hl⟩:=I.loc;have vis:Vis X.env.scope x:=by rcases hx with k|k;exact .inl k;exact .inr (.inl k)
 obtain⟨u,r,l⟩:=hl i x v hi e1 vis;refine wpAny_AugAssign_Name ?_;have go:wpAny #v[3,7] X.A (eval e X.env) (λw s₂=>wpAny #v[3,7] X.A (inplaceOp op u w) (λr s₃=>wpAny #v[3,7] X.A (storeName X.env x r) (λ_=>SP X pins D .next) X.xe s₃) X.xe s₂) X.xe s:=by
  refine thn (he pins s σ H _ I h) λw s1 ⟨y,H1,I1,r1,q1⟩=>?_;refine thn (ho pins s1 σ H1 v y u w _ I1 r r1 q1) λz s2 ⟨zv,H2,I2,r2,q2⟩=>?_;exact zes I2 hN hi hx r2 (λs3 I3=>⟨_,H2,I3,q2⟩) hf
 rcases l with⟨hk,hm⟩|⟨hk,c,hc,hcell⟩
 ·exact wpAny_loadName_local I.ok.kind hk hn hm go
 ·rcases hk with hk|hk
  ·exact wpAny_loadName_cell I.ok.kind hk hc hcell go
  ·rcases hx with k|k
   ·have : X.env.scope.names.lookup x = some .free:=hk;rw[k] at this;cases this
   ·have : X.env.scope.names.lookup x = some .free:=hk;rw[k] at this;cases this
end
section
variable {X:Cx}{pos:Pos}
end
structure It where
 go:Nat->Hp->Prop
 yld:Nat->Hp->V->Hp->Prop
 stop:Nat->Hp->Prop
noncomputable def FpOk (X:Cx) (pins:List (Addr × Obj)) (H:Hp) (b:Addr):Prop :=
 H b=none/\b≠X.env.locals/\b ∉ X.fs/\(b∈X.ex\/X.s₀.heap.objs.size<=b)/\(∀x c,X.env.cells.lookup x=some c->c≠b)/\∀p∈X.pn++pins,p.1≠b
theorem Inv.fpOk {X:Cx}{pins:List (Addr × Obj)}{σ:St}{H H' : Hp}{s:Shared}{b:Addr}(I:Inv X pins σ H s)(hb:s.heap.objs.size<=b)(hn:H' b=none):FpOk X pins H' b:=by
 refine⟨hn,Nat.ne_of_gt (Aw I.lt hb),I.nofs hb,.inr (Ct I.sz hb),λx c e z=>?_,λp hp z=>?_⟩
 ·obtain⟨v,q⟩:=I.cell x c e;exact absurd (Aw q.lt (by rw[z];exact hb)) (Cm _)
 ·exact absurd (Aw (As (I.pin p hp).1) (by rw[z];exact hb)) (Cm _)
structure Turn (P:Program) (w:World) (K:PySem.W.Frag) (tg:Expr) (J:It) (fp:List Addr) (it:Addr) (tn:Nat->Heap->Prop):Prop where
 mem:it∈fp
 obj:∀i h,tn i h->∀b∈fp,∃o,h.get? b=some o/\∀v,o.data≠.cell v
 keep:∀i h h',tn i h->(∀b∈fp,∀o,h.get? b=some o->h'.get? b=some o)->tn i h'
 item:∀(X:Cx),X.prog=P->X.w=w->X.K=K->X.calm=true->∀(i:Nat) (pins:List (Addr × Obj)) (s:Shared) (σ:St) (H:Hp) (E:Value->Shared->Prop),Inv X pins σ H s->(∀b∈fp,FpOk X pins H b)->tn i s.heap->J.go i H ->
  wpAny (model P w) X.A (pyNext (.ref it)) (λr s1=>∃u,r=some u /\
   wpAny (model P w) X.A (letOwnedTupleGo tg (.ref it) u) (λ_ s2=>∃x H',Inv X pins σ H' s2/\RelV x u/\J.yld i H x H'/\tn (i+1) s2.heap/\∀b∈fp,H' b=none) E s1) E s
 done:∀(X:Cx),X.prog=P->X.w=w->X.K=K->X.calm=true->∀(i:Nat) (pins:List (Addr × Obj)) (s:Shared) (σ:St) (H:Hp) (E:Value->Shared->Prop),Inv X pins σ H s->(∀b∈fp,FpOk X pins H b)->tn i s.heap->J.stop i H ->
  wpAny (model P w) X.A (pyNext (.ref it)) (λr s1=>r=none/\Inv X pins σ H s1) E s
 self:∀(A:Around) (i:Nat) (s:Shared) (Q:Value->Shared->Prop) (E:Value->Shared->Prop),tn i s.heap->Q (.ref it) s->wpAny (model P w) A (pyIter (.ref it)) Q E s
noncomputable abbrev TI:=St->Hp->(It->Hp->Prop)->Prop
noncomputable def PIE (X:Cx) (pins:List (Addr × Obj)) (σ:St) (tg:Expr) (R:It->Hp->Prop) (itv:Value) (s2:Shared):Prop :=
 ∃(it:Addr) (fp:List Addr) (tn:Nat->Heap->Prop) (J:It) (H' : Hp),itv=.ref it/\Inv X pins σ H' s2/\Turn X.prog X.w X.K tg J fp it tn/\tn 0 s2.heap/\(∀b∈fp,FpOk X pins H' b)/\R J H'
noncomputable def PI (X:Cx) (tg iter:Expr) (wi:TI):Prop :=
  ∀(pins:List (Addr × Obj)) (s:Shared) (σ:St) (H:Hp) (R:It->Hp->Prop),Inv X pins σ H s->wi σ H R ->
    wpAny #v[3,7] X.A (eval iter X.env) (λv s1=>wpAny #v[3,7] X.A (pyIter v) (PIE X pins σ tg R) X.xe s1) X.xe s
theorem z0i {M:Model}{A:Around}{E:Value->Shared->Prop}{s:Shared}{tg:Expr}{it:Addr}{u:Value}{o:Obj}{n:String}{vs:Array Value}{Q:Unit->Shared->Prop} (ho:s.heap.get? it=some o) (hc:o.cls=.type n) (hd:o.data=.fields vs)
    (hn:["enumerate","zip","dict_itemiterator","dict_reverseitemiterator","odict_iterator","itertools.zip_longest","itertools.pairwise"].contains n=false) (hQ:Q () s):wpAny M A (letOwnedTupleGo tg (.ref it) u) Q E s:=by
  unfold letOwnedTupleGo;cases tg<;>first
    |exact Ao hQ
    | (cases u<;>first
        |exact Ao hQ
        | (refine Ab (wpAny_load ho ?_)
           rw[hc,hd];show wpAny M A (if (["enumerate","zip","dict_itemiterator","dict_reverseitemiterator","odict_iterator","itertools.zip_longest","itertools.pairwise"].contains n && vs[0]? == some (rawInt _))=true then _ else _) Q E s;rw[if_neg (by intro h;rw[hn,Ek] at h;cases h)];exact Ao hQ))
noncomputable def Itl (K:PySem.W.Frag) (a:Addr):It :=
 ⟨λi H=>∃xs x,SqL K H a xs/\xs[i]?=some x,λi H x H'=>H'=H/\∀xs,SqL K H a xs->xs[i]?=some x,λi H=>∃xs,SqL K H a xs/\xs.length<=i⟩
noncomputable def Itt (K:PySem.W.Frag) (a:Addr):It :=
 ⟨λi H=>∃xs x,SqT K H a xs/\xs[i]?=some x,λi H x H'=>H'=H/\∀xs,SqT K H a xs->xs[i]?=some x,λi H=>∃xs,SqT K H a xs/\xs.length<=i⟩
noncomputable def Itr (lo:Int) (n:Nat):It:=⟨λi _=>i<n,λi H x H'=>H'=H/\x=.int (lo+i),λi _=>n<=i⟩
theorem zxm {P:Program}{w:World}{K:PySem.W.Frag}{tg:Expr}(a it:Addr):Turn P w K tg (Itl K a) [it] it (λi h=>h.IsListIter it a i) where
 mem:=by simp
 obj:=λi h st b hb=>by
  have e:b=it:=by simpa using hb
  subst e;obtain⟨o,e,c,d⟩:=st;exact⟨o,e,λv z=>by rw[d] at z;cases z⟩
 keep:=λi h h' st k=>st.at λo e=>k it (by simp) o e
 item:=by
  intro X hP hw hK hc i pins s σ H E I hf st hg;subst hP hw hK;obtain⟨xs,x,hq,hx⟩:=hg;obtain⟨its,rv,p,hz⟩:=I.list hq;obtain⟨u,hu,ru⟩:=rv.get hx;obtain⟨f0,f1,f2,f3,f4,f5⟩:=hf it (by simp);refine wpAny_pyNext_list_item st p.isList (x:=u) (by simpa using hu) λh' st' sb=>?_;have I1:Inv X pins σ H { s with heap:=h' }:=I.turned (t':=s.toks) (λb o hb e=>(sb.2 b hb).trans e) f0 f1 f3 f4 f5;obtain⟨o,e,c,d⟩:=id st';exact⟨u,rfl,z0i (s:={ s with heap:=h' }) e c d #v[0,9] ⟨x,H,I1,ru,⟨rfl,λys hy=>by rw[I.list_inj hy hq];exact hx⟩,st',λb hb=>(hf b hb).1⟩⟩
 done:=by
  intro X hP hw hK hc i pins s σ H E I hf st hg;subst hP hw hK;obtain⟨xs,hq,hx⟩:=hg;obtain⟨its,rv,p,hz⟩:=I.list hq;obtain⟨f0,f1,f2,f3,f4,f5⟩:=hf it (by simp);have hl:=rv.length;exact wpAny_pyNext_list_end (I.ok.hd hc) st p.isList (by simp;omega) λh' eb=>⟨rfl,I.turned (t':=s.toks) (λb o hb e=>eb b o hb e) f0 f1 f3 f4 f5⟩
 self:=λ_ _ _ _ _ st h=>wpAny_pyIter_listiter st h
theorem zrx {P:Program}{w:World}{K:PySem.W.Frag}{tg:Expr}(a it:Addr):Turn P w K tg (Itt K a) [it] it (λi h=>h.IsTupleIter it a i) where
 mem:=by simp
 obj:=λi h st b hb=>by
  have e:b=it:=by simpa using hb
  subst e;obtain⟨o,e,c,d⟩:=st;exact⟨o,e,λv z=>by rw[d] at z;cases z⟩
 keep:=λi h h' st k=>st.at λo e=>k it (by simp) o e
 item:=by
  intro X hP hw hK hc i pins s σ H E I hf st hg;subst hP hw hK;obtain⟨xs,x,hq,hx⟩:=hg;obtain⟨its,rv,p,hz⟩:=I.tuple hq;obtain⟨u,hu,ru⟩:=rv.get hx;obtain⟨f0,f1,f2,f3,f4,f5⟩:=hf it (by simp);refine wpAny_pyNext_tuple_item st (show s.heap.IsTuple a its.toArray from p) (x:=u) (by simpa using hu) λh' st' sb=>?_;have I1:Inv X pins σ H { s with heap:=h' }:=I.turned (t':=s.toks) (λb o hb e=>(sb.2 b hb).trans e) f0 f1 f3 f4 f5;obtain⟨o,e,c,d⟩:=id st';exact⟨u,rfl,z0i (s:={ s with heap:=h' }) e c d #v[0,9] ⟨x,H,I1,ru,⟨rfl,λys hy=>by rw[I.tuple_inj hy hq];exact hx⟩,st',λb hb=>(hf b hb).1⟩⟩
 done:=by
  intro X hP hw hK hc i pins s σ H E I hf st hg;subst hP hw hK;obtain⟨xs,hq,hx⟩:=hg;obtain⟨its,rv,p,hz⟩:=I.tuple hq;obtain⟨f0,f1,f2,f3,f4,f5⟩:=hf it (by simp);have hl:=rv.length;exact wpAny_pyNext_tuple_end (I.ok.hd hc) st (show s.heap.IsTuple a its.toArray from p) (by simp;omega) λh' eb=>⟨rfl,I.turned (t':=s.toks) (λb o hb e=>eb b o hb e) f0 f1 f3 f4 f5⟩
 self:=λ_ _ _ _ _ st h=>wpAny_pyIter_tupleiter st h
theorem zsk {P:Program}{w:World}{K:PySem.W.Frag}{tg:Expr}(it:Addr)(lo:Int)(n:Nat):Turn P w K tg (Itr lo n) [it] it (λi h=>IsRangeIter h it (lo+(i:Nat) * 1) ((n:Int) - (i:Nat)) 1) where
 mem:=by simp
 obj:=λi h st b hb=>by
  have e:b=it:=by simpa using hb
  subst e;exact⟨_,st,λv z=>by
   have z' : Data.fields _=Data.cell v:=z;cases z'⟩
 keep:=λi h h' st k=>k it (by simp) _ st
 item:=by
  intro X hP hw hK hc i pins s σ H E I hf st hg;subst hP hw hK;obtain⟨f0,f1,f2,f3,f4,f5⟩:=hf it (by simp);have W:=Walks.range (prog:=X.prog) (w:=X.w) (I.ok.hd hc) it lo 1 n;refine W.item i s _ _ hg st λv h' tk hv st' kk=>?_;obtain⟨t,rfl⟩:=hv;have I1:Inv X pins σ H { s with heap:=h',toks:=tk }:=I.turned (λb o hb e=>kk b o (by simpa using hb) e) f0 f1 f3 f4 f5;refine⟨_,rfl,z0i (s:={ s with heap:=h',toks:=tk }) (n := "range_iterator") st' rfl rfl #v[0,9] ⟨.int (lo+i),H,I1,⟨t,?_⟩,⟨rfl,rfl⟩,st',λb hb=>(hf b hb).1⟩⟩;rw[Int.mul_one]
 done:=by
  intro X hP hw hK hc i pins s σ H E I hf st hg;subst hP hw hK;obtain⟨f0,f1,f2,f3,f4,f5⟩:=hf it (by simp);exact wpAny_pyNext_range_end (I.ok.hd hc) st (by have:n<=i:=hg;omega) λh' eb=>⟨rfl,I.turned (t':=s.toks) (λb o hb e=>eb b o hb e) f0 f1 f3 f4 f5⟩
 self:=λ_ _ _ _ _ st h=>wpAny_pyIter_rangeiter st h
section
variable {X:Cx}{tg:Expr}
theorem z1w {pins:List (Addr × Obj)}{σ:St}{H:Hp}{s:Shared}{R:It->Hp->Prop}{E:Value->Shared->Prop}{lo hi:Int}{t u v:Tok}{tk:Nat} (I:Inv X pins σ H s) (h1:-(2 ^ 62)<=lo) (h2:lo < 2 ^ 62) (h3:-(2 ^ 62)<=hi) (h4:hi < 2 ^ 62)
  (q:R (Itr lo (hi - lo).toNat) H):wpAny #v[3,7] X.A (pyIter (.ref s.heap.objs.size)) (PIE X pins σ tg R) E { s with heap:=s.heap.push { cls:=.type "range",data:=.fields #[.int lo t,.int hi u,.int 1 v] },toks:=tk }:=by
 refine wpAny_pyIter_range (IsRange.new ..) (small_one h1 h2 h3 h4) ?_;have I1:Inv X pins σ H { s with heap:=s.heap.push { cls:=.type "range",data:=.fields #[.int lo t,.int hi u,.int 1 v] },toks:=tk }:=I.kept λb o e=>Ai _ e;refine⟨(s.heap.push { cls:=.type "range",data:=.fields #[.int lo t,.int hi u,.int 1 v] }).objs.size,[(s.heap.push { cls:=.type "range",data:=.fields #[.int lo t,.int hi u,.int 1 v] }).objs.size],_,_,H,rfl,
  I1.kept (t':=tk) λb o e=>Ai _ e,zsk _ lo (hi - lo).toNat,?_,λb hb=>?_,q⟩
 ·have e1 : lo + ((0 : Nat) : Int) * 1 = lo:=by simp
  have e2:(((hi - lo).toNat:Nat):Int) - ((0:Nat):Int)=Builtin.Range.rangeSize lo hi 1:=by rw[rangeSize_one];split<;>omega
  show IsRangeIter _ _ (lo+((0:Nat):Int) * 1) ((((hi - lo).toNat:Nat):Int) - ((0:Nat):Int)) 1;rw[e1,e2];exact Bb _ rfl
 ·have e : b = (s.heap.push { cls := .type "range", data := .fields #[.int lo t,.int hi u,.int 1 v] }).objs.size:=by simpa using hb
  subst e;exact I1.fpOk (Ad _) (I1.hok.fresh (Ad _))
noncomputable def ya2 (ta:TA):TI:=λσ H R=>ta σ H λvs H1=>∃j:Int,vs=[.int j]/\-(2 ^ 62)<=j/\j<2 ^ 62/\R (Itr 0 j.toNat) H1
theorem zw3 {a:Expr}{ta:TA}{p pos:Pos} (hg:Gl X "range") (hm:X.mg "range" = none) (ha:PA X [a] ta) (hs:starEach [a] X.env=[(false,eval a X.env)]:=by rfl):PI X tg (.Call (.Name "range" p) [a] [] pos) (ya2 ta):=by
  intro pins s σ H R I h;refine Call_ (zf6 I hg hm boot_range (Dn (thn (ha pos pins s σ H _ I h) λus s1 ⟨vs,H1,I1,r1,q1⟩=>?_) hs rfl));obtain⟨j,e,q1,q2,q⟩:=q1;subst e;cases r1 with
  | cons r rr =>
    cases rr;obtain⟨t,rfl⟩:=r;exact call_range_1 (z1w I1 #v[] #v[] q1 q2 (by simpa using q))
noncomputable def tFor (wi:TI) (g:TG) (tb:TS):TS:=λD σ H=>wi σ H λJ H1=>∃W:Nat->Nat->St->Hp->Prop,(∃m,W 0 m σ H1)/\∀i m σ H,W i m σ H ->
 (J.stop i H/\D.nx σ H)\/(J.go i H/\∃N:St->Hp->Prop,(∀σ' H',N σ' H'->∃m',m' < m/\W (i+1) m' σ' H')/\∀x H',J.yld i H x H'->g x σ H' λσ2 H2=>tb { D with nx:=N,ct:=N,bk:=D.nx } σ2 H2)
noncomputable def zky (fp:List Addr) (h:Heap):List (Addr × Obj):=fp.filterMap λb=>(h.get? b).map λo=>(b,o)
theorem zd6 {fp:List Addr}{h:Heap}{b:Addr}{o:Obj}(hb:b∈fp)(e:h.get? b=some o):(b,o)∈zky fp h:=List.mem_filterMap.mpr ⟨b,hb,by rw[e];rfl⟩
theorem zur {fp:List Addr}{h:Heap}{p:Addr × Obj} (hp:p∈zky fp h):p.1∈fp/\h.get? p.1=some p.2:=by
  obtain⟨b,hb,e⟩:=List.mem_filterMap.mp hp;cases q:h.get? b with
  |none=>rw[q] at e;cases e
  | some o =>
    rw[q] at e;have e' : (b,o)=p:=sI e;subst e';exact⟨hb,q⟩
theorem Inv.pinned {pins:List (Addr × Obj)}{σ:St}{H:Hp}{s:Shared}{fp:List Addr}(I:Inv X pins σ H s)(hf:∀b∈fp,FpOk X pins H b)(ho:∀b∈fp,∃o,s.heap.get? b=some o/\∀v,o.data≠.cell v):Inv X (pins++zky fp s.heap) σ H s :=
 I.pins_of λp hp=>(Bf.mp hp).elim (λz=>I.pin p (Bj _ z)) λz=>by
  obtain⟨hb,e⟩:=zur z;obtain⟨f0,f1,f2,_⟩:=hf p.1 hb;obtain⟨o,e',d⟩:=ho p.1 hb;rw[e] at e';cases e';exact⟨e,f0,f1,f2,d⟩
theorem Inv.unpinned {pins pl:List (Addr × Obj)}{σ:St}{H:Hp}{s:Shared}(I:Inv X (pins++pl) σ H s):Inv X pins σ H s:=I.pins_of λp hp=>I.pin p (Bj _ (Dd _ hp))
theorem yba {iter:Expr}{body:List Stmt}{wi:TI}{g:TG}{tb:TS}{pos:Pos} (hp:PassesOwn #v[3,7] X.A X.env X.xe) (hc:X.calm=true) (hi:PI X tg iter wi) (hg:PG X tg g) (hb:PSs X body tb)
  (hs:∀x,foldedSetIterable iter X.env x=pure x:=by intro _;rfl):PS X (.For tg iter body [] pos) (tFor wi g tb):=by
 intro pins s σ H D I h;refine wpAny_For (thn (hi pins s σ H _ I h) λv s1 h1=>thn h1 λitv s2 h2=>?_) hs;obtain⟨it,fp,tn,J,H2,e,I2,T,st2,f2,W,⟨m0,w0⟩,turn⟩:=h2;subst e;have stat:∀{H' : Hp},(∀b∈fp,H' b=none)->∀b∈fp,FpOk X pins H' b:=λhn b hb=>⟨hn b hb,(f2 b hb).2⟩;refine codeAny_forLoop_any (λn s'=>∃i σ' H',Inv X pins σ' H' s'/\tn i s'.heap/\(∀b∈fp,H' b=none)/\W i n σ' H') ?_ m0 ⟨0,σ,H2,I2,st2,λb hb=>(f2 b hb).1,w0⟩;rintro n s3 ⟨i,σ3,H3,I3,st3,fr3,w3⟩;rcases turn i n σ3 H3 w3 with⟨stop,qn⟩|⟨go,N,hN,step⟩
 ·refine Gs hp (thn (T.done X rfl rfl rfl hc i pins s3 σ3 H3 X.xe I3 (stat fr3) st3 stop) λr s4 ⟨hr,I4⟩ => ?_);subst hr;exact wpAny_execs_nil ⟨σ3,H3,I4,qn⟩
 ·refine Gs hp (thn (T.item X rfl rfl rfl hc i pins s3 σ3 H3 X.xe I3 (stat fr3) st3 go) fun r s4 ⟨u, hr, h4⟩ => ?_);subst hr;refine Gs hp (thn h4 fun _ s5 ⟨x,H5,I5,r5,y5,st5,fr5⟩=>?_);have I5':=I5.pinned (stat fr5) (T.obj _ _ st5);refine Gs hp (thn (hg _ s5 σ3 H5 x u _ I5' r5 (step x H5 y5)) fun _ s6 ⟨σ6,H6,I6,q6⟩=>?_);refine Gs hp (thn (hb _ s6 σ6 H6 _ I6 q6) fun f s7 q7=>?_);have again:∀{σ7:St}{H7:Hp},Inv X (pins++zky fp s5.heap) σ7 H7 s7->N σ7 H7->∃m,m < n/\∃i σ' H',Inv X pins σ' H' s7/\tn i s7.heap/\(∀b∈fp,H' b=none)/\W i m σ' H':=fun {σ7 H7} I7 n7=>by
   obtain⟨m',hm,w7⟩:=hN σ7 H7 n7;refine⟨m',hm,i+1,σ7,H7,I7.unpinned,T.keep _ _ _ st5 λb hb o e=>(I7.pin (b,o) (Bj _ (Bj _ (zd6 hb e)))).1,λb hb=>?_,w7⟩;obtain⟨o,e,d⟩:=T.obj _ _ st5 b hb;exact (I7.pin (b,o) (Bj _ (Bj _ (zd6 hb e)))).2.1
  cases f with
  |next=>obtain⟨σ7,H7,I7,n7⟩:=q7;exact again I7 n7
  |cont=>obtain⟨σ7,H7,I7,n7⟩:=q7;exact again I7 n7
  |brk=>obtain⟨σ7,H7,I7,q7⟩:=q7;exact⟨σ7,H7,I7.unpinned,q7⟩
  |ret v=>obtain⟨x7,σ7,H7,I7,r7,q7⟩:=q7;exact⟨x7,σ7,H7,I7.unpinned,r7,q7⟩
end
noncomputable abbrev R2:=V->V->Hp->VK->Prop
noncomputable def OpR (X:Cx) (f:Value->Value->Sem Value) (r:R2):Prop :=
  ∀(pins:List (Addr × Obj)) (s:Shared) (σ:St) (H:Hp) (x y:V) (v u:Value) (Q:VK),Inv X pins σ H s->RelV x v->RelV y u->r x y H Q ->
    wpAny #v[3,7] X.A (f v u) (EP X pins σ Q) X.xe s
noncomputable def UnR (X:Cx) (f:Value->Sem Value) (r:V->Hp->VK->Prop):Prop :=
  ∀(pins:List (Addr × Obj)) (s:Shared) (σ:St) (H:Hp) (x:V) (v:Value) (Q:VK),Inv X pins σ H s->RelV x v->r x H Q ->
    wpAny #v[3,7] X.A (f v) (EP X pins σ Q) X.xe s
noncomputable def zep (X:Cx) (f:Value) (r:List V->Hp->VK->Prop):Prop :=
  ∀(pins:List (Addr × Obj)) (s:Shared) (σ:St) (H:Hp) (xs:List V) (us:List Value) (Q:VK),Inv X pins σ H s->Vals xs us->r xs H Q ->
    wpAny #v[3,7] X.A (call f us) (EP X pins σ Q) X.xe s
noncomputable def tOp (r:R2) (ta tb:TE):TE:=λσ H Q=>ta σ H λx H1=>tb σ H1 λy H2=>r x y H2 Q
noncomputable def tUn (r:V->Hp->VK->Prop) (ta:TE):TE:=λσ H Q=>ta σ H λx H1=>r x H1 Q
noncomputable def rI (C:Int->Int->Prop) (g:Int->Int->V):R2:=λx y H Q=>∃i j,x=.int i/\y=.int j/\C i j/\Q (g i j) H
noncomputable def rI0 (g:Int->Int->V):R2:=λx y H Q=>∃i j,x=.int i/\y=.int j/\Q (g i j) H
noncomputable def rU (g:Int->V):V->Hp->VK->Prop:=λx H Q=>∃i,x=.int i/\Q (g i) H
section
variable {X:Cx}{a b c:Expr}{ta tb tc:TE}{pos:Pos}
theorem binT (ha:PE X a ta) (hb:PE X b tb) {pins:List (Addr × Obj)}{s:Shared}{σ:St}{H:Hp}{R:V->V->Hp->Prop} (I:Inv X pins σ H s)
  (h:ta σ H λx H1=>tb σ H1 λy H2=>R x y H2) {Q:Value->Shared->Prop}{f:Value->Value->Sem Value}
  (hf:∀v u s2 x y H2,Inv X pins σ H2 s2->RelV x v->RelV y u->R x y H2->wpAny #v[3,7] X.A (f v u) Q X.xe s2) :
  wpAny #v[3,7] X.A (eval a X.env) (λv s₁=>wpAny #v[3,7] X.A (eval b X.env) (λu s₂=>wpAny #v[3,7] X.A (f v u) Q X.xe s₂) X.xe s₁) X.xe s:=by
 refine thn (ha pins s σ H _ I h) λv s1 ⟨x,H1,I1,r1,q1⟩=>?_;refine thn (hb pins s1 σ H1 _ I1 q1) λu s2 ⟨y,H2,I2,r2,q2⟩=>?_;exact hf v u s2 x y H2 I2 r1 r2 q2
theorem z9k {op:Operator}{r:R2}(ho:OpR X (binaryOp op) r)(ha:PE X a ta)(hb:PE X b tb):PE X (.BinOp a op b pos) (tOp r ta tb):=by
 intro pins s σ H Q I h;exact wpAny_BinOp (binT ha hb I h λv u s2 x y H2 I2 rx ry q=>ho pins s2 σ H2 x y v u Q I2 rx ry q)
theorem yc3 {op:UnaryOp}{r:V->Hp->VK->Prop}(ho:UnR X (unaryOp op) r)(ha:PE X a ta):PE X (.UnaryOp op a pos) (tUn r ta):=by
 intro pins s σ H Q I h;exact UnaryOp_ (thn (ha pins s σ H _ I h) λv s1 ⟨x,H1,I1,r1,q1⟩=>ho pins s1 σ H1 x v Q I1 r1 q1)
theorem opI {f:Value->Value->Sem Value}{C:Int->Int->Prop}{g:Int->Int->Int}
  (rule:∀(i j:Int) (t u:Tok) (s:Shared) (Q:Value->Shared->Prop) (E:Value->Shared->Prop),C i j->Q (.int (g i j) s.toks) { s with toks:=s.toks+1 }->wpAny #v[3,7] X.A (f (.int i t) (.int j u)) Q E s) :
  OpR X f (rI C λi j=>.int (g i j)):=by
 intro pins s σ H x y v u Q I rx ry h;obtain⟨i,j,rfl,rfl,hc,q⟩:=h;obtain⟨t,rfl⟩:=rx;obtain⟨t',rfl⟩:=ry;exact rule i j t t' s _ _ hc ⟨.int (g i j),H,I.tok _,⟨_,rfl⟩,q⟩
theorem opI0 {f:Value->Value->Sem Value}{g:Int->Int->Int}
  (rule:∀(i j:Int) (t u:Tok) (s:Shared) (Q:Value->Shared->Prop) (E:Value->Shared->Prop),Q (.int (g i j) s.toks) { s with toks:=s.toks+1 }->wpAny #v[3,7] X.A (f (.int i t) (.int j u)) Q E s) :
  OpR X f (rI0 λi j=>.int (g i j)):=by
 intro pins s σ H x y v u Q I rx ry h;obtain⟨i,j,rfl,rfl,q⟩:=h;obtain⟨t,rfl⟩:=rx;obtain⟨t',rfl⟩:=ry;exact rule i j t t' s _ _ ⟨.int (g i j),H,I.tok _,⟨_,rfl⟩,q⟩
theorem opB0 {f:Value->Value->Sem Value}{g:Int->Int->Bool}
  (rule:∀(i j:Int) (t u:Tok) (s:Shared) (Q:Value->Shared->Prop) (E:Value->Shared->Prop),Q (.bool (g i j)) s->wpAny #v[3,7] X.A (f (.int i t) (.int j u)) Q E s) :
  OpR X f (rI0 λi j=>.bl (g i j)):=by
 intro pins s σ H x y v u Q I rx ry h;obtain⟨i,j,rfl,rfl,q⟩:=h;obtain⟨t,rfl⟩:=rx;obtain⟨t',rfl⟩:=ry;exact rule i j t t' s _ _ ⟨.bl (g i j),H,I,rfl,q⟩
noncomputable def CPow (i j:Int):Prop:=0<=j/\j<=1000000/\i.natAbs<2 ^ 64
noncomputable def CMul (i j:Int):Prop:=(-(2 ^ 64)<i/\i<2 ^ 64)\/(-(2 ^ 64)<j/\j<2 ^ 64)
theorem CMul.ok {i j:Int}(h:CMul i j):IntMulOk i j:=by
 rcases h with⟨h1,h2⟩|⟨h1,h2⟩
 ·exact .of_left (intBits_le_64 h1 h2)
 ·exact .of_right (intBits_le_64 h1 h2)
theorem zr1 (k:Nat):(0:Int)<=2 ^ k:=by
 rw[two_pow_cast];exact Go _
theorem yac:OpR X (binaryOp .Add) (rI0 λi j=>.int (i+j)):=opI0 λ_ _ _ _ _ _ _ q=>add_int q
theorem z9u:OpR X (binaryOp .Sub) (rI0 λi j=>.int (i - j)):=opI0 λ_ _ _ _ _ _ _ q=>sub_int q
theorem z9y:OpR X (binaryOp .Mult) (rI CMul λi j=>.int (i * j)):=opI λ_ _ _ _ _ _ _ hc q=>mul_int q hc.ok
theorem z8y:OpR X (binaryOp .Mod) (rI (λ_ j=>0<j) λi j=>.int (i % j)):=opI λi j _ _ _ _ _ hc q=>by
 have h1:(0:Int)<j:=hc;exact mod_int' #v[] (by rw[Int.fmod_eq_emod_of_nonneg i #v[]];exact q)
theorem z8f:OpR X (binaryOp .Pow) (rI CPow λi j=>.int (i ^ j.toNat)):=opI λ_ _ _ _ _ _ _ hc q=>pow_int_small hc.1 hc.2.1 hc.2.2 q
theorem z9e:OpR X (binaryOp .LShift) (rI CPow λi j=>.int (i * 2 ^ j.toNat)):=opI λ_ _ _ _ _ _ _ hc q=>lshift_int_small hc.1 hc.2.1 hc.2.2 q
theorem ybr:OpR X (binaryOp .RShift) (rI (λ_ j=>0<=j) λi j=>.int (i / 2 ^ j.toNat)):=opI λi j _ _ _ _ _ hc q =>
 rshift_int hc (by rw[Int.fdiv_eq_ediv_of_nonneg i (zr1 _)];exact q)
theorem ya5:OpR X (binaryOp .BitAnd) (rI0 λi j=>.int (Builtin.bitAnd i j)):=opI0 λ_ _ _ _ _ _ _ q=>and_int q
theorem ycn:OpR X (binaryOp .BitOr) (rI0 λi j=>.int (Builtin.bitOr i j)):=opI0 λ_ _ _ _ _ _ _ q=>or_int q
theorem ybv:OpR X (binaryOp .BitXor) (rI0 λi j=>.int (Builtin.bitXor i j)):=opI0 λ_ _ _ _ _ _ _ q=>xor_int q
theorem z6z:OpR X (inplaceOp .Add) (rI0 λi j=>.int (i+j)):=opI0 λ_ _ _ _ _ _ _ q=>iadd_int q
theorem z34:OpR X (inplaceOp .Sub) (rI0 λi j=>.int (i - j)):=opI0 λ_ _ _ _ _ _ _ q=>isub_int q
theorem z4i:OpR X (inplaceOp .Mult) (rI CMul λi j=>.int (i * j)):=opI λ_ _ _ _ _ _ _ hc q=>imul_int q hc.ok
theorem z77:OpR X (inplaceOp .BitAnd) (rI0 λi j=>.int (Builtin.bitAnd i j)):=opI0 λ_ _ _ _ _ _ _ q=>iand_int q
theorem yb0:OpR X (inplaceOp .BitOr) (rI0 λi j=>.int (Builtin.bitOr i j)):=opI0 λ_ _ _ _ _ _ _ q=>ior_int q
theorem z4a:OpR X (inplaceOp .BitXor) (rI0 λi j=>.int (Builtin.bitXor i j)):=opI0 λ_ _ _ _ _ _ _ q=>ixor_int q
theorem unI {f:Value->Sem Value}{g:Int->Int}
  (rule:∀(i:Int) (t:Tok) (s:Shared) (Q:Value->Shared->Prop) (E:Value->Shared->Prop),Q (.int (g i) s.toks) { s with toks:=s.toks+1 }->wpAny #v[3,7] X.A (f (.int i t)) Q E s) :
  UnR X f (rU λi=>.int (g i)):=by
 intro pins s σ H x v Q I rx h;obtain⟨i,rfl,q⟩:=h;obtain⟨t,rfl⟩:=rx;exact rule i t s _ _ ⟨.int (g i),H,I.tok _,⟨_,rfl⟩,q⟩
theorem ybn:UnR X (unaryOp .USub) (rU λi=>.int (-i)):=unI λ_ _ _ _ _ q=>neg_int q
end
noncomputable def scal:V->V->Bool
 |.non,.non=>true|.non,.int _=>true|.int _,.non=>true|.non,.bl _=>true|.bl _,.non=>true|.non,.str _=>true|.str _,.non=>true
 |.int _,.int _=>true|.bl _,.bl _=>true|.str _,.str _=>true|.byt _,.byt _=>true
 |.int _,.str _=>true|.str _,.int _=>true|.bl _,.str _=>true|.str _,.bl _=>true
 |_,_=>false
noncomputable def rEq:R2:=λx y H Q=>scal x y=true/\Q (.bl (decide (x=y))) H
noncomputable def rNe:R2:=λx y H Q=>scal x y=true/\Q (.bl (!decide (x=y))) H
theorem zt3 {i j:Int}:decide (V.int i=V.int j)=(i == j):=by
 rw[Ea];simp
theorem z2p {i j:Bool}:decide (V.bl i=V.bl j)=(i == j):=by
 rw[Ea];simp
theorem zyi {i j:Str}:decide (V.str i=V.str j)=(i == j):=by
 rw[Ea];simp
theorem zvq {i j:Array UInt8}:decide (V.byt i=V.byt j)=(i.toList == j.toList):=by
 rw[Ea];cases i;cases j;simp
section
variable {X:Cx}{a b c:Expr}{ta tb tc:TE}{pos:Pos}
theorem zak {pins:List (Addr × Obj)}{σ:St}{H:Hp}{s:Shared}{Q:VK}{k k' : Bool}(I:Inv X pins σ H s)(q:Q (.bl k) H)(e:k=k'):EP X pins σ Q (.bool k') s:=by
 subst e;exact⟨.bl k,H,I,rfl,q⟩
theorem yed:OpR X (compareOp .Eq) rEq:=by
  intro pins s σ H x y v u Q I rx ry h;obtain⟨hs,q⟩:=h;cases x with
  | non =>
    cases rx;cases y with
    |non=>cases ry;exact PySem.EqNone.eq_none_none (zak I q (by simp))
    |bl j=>cases ry;exact PySem.EqNone.eq_none_bool (zak I q (by simp))
    |int j=>obtain⟨t',rfl⟩:=ry;exact PySem.EqNone.eq_none_int (zak I q (by simp))
    |str j=>obtain⟨t',rfl⟩:=ry;exact PySem.EqNone.eq_none_str (zak I q (by simp))
    |_=>exact absurd (show false=true from hs) Ag
  | bl i =>
    cases rx;cases y with
    |non=>cases ry;exact PySem.EqNone.eq_bool_none (zak I q (by simp))
    |bl j=>cases ry;exact eq_bool (zak I q z2p)
    |str j=>obtain⟨t',rfl⟩:=ry;exact PySem.EqMixed.eq_bool_str (zak I q (by simp))
    |_=>exact absurd (show false=true from hs) Ag
  | int i =>
    obtain⟨t,rfl⟩:=rx;cases y with
    |non=>cases ry;exact PySem.EqNone.eq_int_none (zak I q (by simp))
    |int j=>obtain⟨t',rfl⟩:=ry;exact eq_int (zak I q zt3)
    |str j=>obtain⟨t',rfl⟩:=ry;exact PySem.EqMixed.eq_int_str (zak I q (by simp))
    |_=>exact absurd (show false=true from hs) Ag
  | str i =>
    obtain⟨t,rfl⟩:=rx;cases y with
    |non=>cases ry;exact PySem.EqNone.eq_str_none (zak I q (by simp))
    |bl j=>cases ry;exact PySem.EqMixed.eq_str_bool (zak I q (by simp))
    |int j=>obtain⟨t',rfl⟩:=ry;exact PySem.EqMixed.eq_str_int (zak I q (by simp))
    |str j=>obtain⟨t',rfl⟩:=ry;exact eq_str (zak I q zyi)
    |_=>exact absurd (show false=true from hs) Ag
  | byt i =>
    obtain⟨t,rfl⟩:=rx;cases y with
    |byt j=>obtain⟨t',rfl⟩:=ry;exact PySem.W.eq_bytes (zak I q zvq)
    |_=>exact absurd (show false=true from hs) Ag
  |_=>cases y<;>exact absurd (show false=true from hs) Ag
theorem yda:OpR X (compareOp .NotEq) rNe:=by
  intro pins s σ H x y v u Q I rx ry h;obtain⟨hs,q⟩:=h;cases x with
  | non =>
    cases rx;cases y with
    |non=>cases ry;exact PySem.EqNone.ne_none_none (zak I q (by simp))
    |bl j=>cases ry;exact PySem.EqNone.ne_none_bool (zak I q (by simp))
    |int j=>obtain⟨t',rfl⟩:=ry;exact PySem.EqNone.ne_none_int (zak I q (by simp))
    |str j=>obtain⟨t',rfl⟩:=ry;exact PySem.EqNone.ne_none_str (zak I q (by simp))
    |_=>exact absurd (show false=true from hs) Ag
  | bl i =>
    cases rx;cases y with
    |non=>cases ry;exact PySem.EqNone.ne_bool_none (zak I q (by simp))
    |bl j=>cases ry;exact ne_bool (zak I q (congrArg not z2p))
    |str j=>obtain⟨t',rfl⟩:=ry;exact PySem.EqMixed.ne_bool_str (zak I q (by simp))
    |_=>exact absurd (show false=true from hs) Ag
  | int i =>
    obtain⟨t,rfl⟩:=rx;cases y with
    |non=>cases ry;exact PySem.EqNone.ne_int_none (zak I q (by simp))
    |int j=>obtain⟨t',rfl⟩:=ry;exact ne_int (zak I q (congrArg not zt3))
    |str j=>obtain⟨t',rfl⟩:=ry;exact PySem.EqMixed.ne_int_str (zak I q (by simp))
    |_=>exact absurd (show false=true from hs) Ag
  | str i =>
    obtain⟨t,rfl⟩:=rx;cases y with
    |non=>cases ry;exact PySem.EqNone.ne_str_none (zak I q (by simp))
    |bl j=>cases ry;exact PySem.EqMixed.ne_str_bool (zak I q (by simp))
    |int j=>obtain⟨t',rfl⟩:=ry;exact PySem.EqMixed.ne_str_int (zak I q (by simp))
    |str j=>obtain⟨t',rfl⟩:=ry;exact ne_str (zak I q (congrArg not zyi))
    |_=>exact absurd (show false=true from hs) Ag
  | byt i =>
    obtain⟨t,rfl⟩:=rx;cases y with
    |byt j=>obtain⟨t',rfl⟩:=ry;exact PySem.W.ne_bytes (zak I q (congrArg not zvq))
    |_=>exact absurd (show false=true from hs) Ag
  |_=>cases y<;>exact absurd (show false=true from hs) Ag
theorem yd6:OpR X (compareOp .Lt) (rI0 λi j=>.bl (decide (i<j))):=opB0 λ_ _ _ _ _ _ _ q=>lt_int q
theorem yds:OpR X (compareOp .LtE) (rI0 λi j=>.bl (decide (i<=j))):=opB0 λ_ _ _ _ _ _ _ q=>le_int q
theorem ycx:OpR X (compareOp .Gt) (rI0 λi j=>.bl (decide (j<i))):=opB0 λ_ _ _ _ _ _ _ q=>gt_int q
theorem ydb:OpR X (compareOp .GtE) (rI0 λi j=>.bl (decide (j<=i))):=opB0 λ_ _ _ _ _ _ _ q=>ge_int q
theorem z6p:OpR X (compareOp .IsNot) (λx y H Q=>y=.non/\Q (.bl (!decide (x=.non))) H):=by
 intro pins s σ H x y v u Q I rx ry h;obtain⟨rfl,q⟩:=h;cases ry;refine isnot_none_gen (zak I q ?_);cases x<;>first
  |(cases rx;rfl)
  |(obtain⟨t,rfl⟩:=rx;rfl)
theorem OpR.or {f:Value->Value->Sem Value}{r r' : R2}(h:OpR X f r)(h' : OpR X f r'):OpR X f (λx y H Q=>r x y H Q\/r' x y H Q):=by
 intro pins s σ H x y v u Q I rx ry q;rcases q with q|q
 ·exact h pins s σ H x y v u Q I rx ry q
 ·exact h' pins s σ H x y v u Q I rx ry q
theorem z36 {op:CmpOp}{r:R2}(ho:OpR X (compareOp op) r)(ha:PE X a ta)(hb:PE X b tb)(hm:behindInMarks op b=false):PE X (.Compare a [op] [b] pos) (tOp r ta tb):=by
 intro pins s σ H Q I h;exact wpAny_Compare1 (binT ha hb I h λv u s2 x y H2 I2 rx ry q=>ho pins s2 σ H2 x y v u Q I2 rx ry q) hm
noncomputable def z6q (t:TE):TT:=λσ H Q=>t σ H λx H'=>∃k,x=.bl k/\Q k H'
theorem z6o {op:CmpOp}{r:R2}(ho:OpR X (compareOp op) r)(ha:PE X a ta)(hb:PE X b tb)(hm:behindInMarks op b=false):PT X (.Compare a [op] [b] pos) (z6q (tOp r ta tb)):=by
 intro pins s σ H Q I h;refine wpAny_isTrue_Compare1 (thn (ha pins s σ H _ I h) λv s1 ⟨x,H1,I1,r1,q1⟩=>thn (hb pins s1 σ H1 _ I1 q1) λu s2 ⟨y,H2,I2,r2,q2⟩ =>
  thn (ho pins s2 σ H2 x y v u _ I2 r1 r2 q2) λc s3 ⟨z,H3,I3,r3,k,e,q3⟩=>?_) hm
 subst e;cases r3;exact Dk ⟨H3,I3,q3⟩
noncomputable def zyg (r r' : R2) (ta tb tc:TE):TE:=λσ H Q=>ta σ H λx H1=>tb σ H1 λy H2=>r x y H2 λz H3=>∃k,z=.bl k /\
 (if k=true then tc σ H3 λw' H4=>r' y w' H4 Q else Q (.bl false) H3)
theorem zy6 {op op' : CmpOp}{r r' : R2} (ho:OpR X (compareOp op) r) (ho' : OpR X (compareOp op') r') (ha:PE X a ta) (hb:PE X b tb) (hc:PE X c tc)
  (hm:lastMarks [op,op'] [b,c]=false:=by with_unfolding_all rfl):PE X (.Compare a [op,op'] [b,c] pos) (zyg r r' ta tb tc):=by
 intro pins s σ H Q I h;refine Compare_chain (thn (ha pins s σ H _ I h) λv s1 ⟨x,H1,I1,r1,q1⟩=>chain_link (thn (hb pins s1 σ H1 _ I1 q1) λu s2 ⟨y,H2,I2,r2,q2⟩ =>
  thn (ho pins s2 σ H2 x y v u _ I2 r1 r2 q2) λd s3 ⟨z,H3,I3,r3,k,e,q3⟩=>?_)) hm
 subst e;cases r3;refine Dk ?_;cases k with
 |false=>exact ite_ff ⟨.bl false,H3,I3,rfl,q3⟩
 |true=>exact ite_tt (chain_last (thn (hc pins s3 σ H3 _ I3 q3) λw' s4 ⟨z',H4,I4,r4,q4⟩=>ho' pins s4 σ H4 y z' u w' Q I4 r2 r4 q4))
theorem z09 {op op' : CmpOp}{r r' : R2} (ho:OpR X (compareOp op) r) (ho' : OpR X (compareOp op') r') (ha:PE X a ta) (hb:PE X b tb) (hc:PE X c tc)
    (hm:lastMarks [op,op'] [b,c]=false:=by with_unfolding_all rfl):PT X (.Compare a [op,op'] [b,c] pos) (z6q (zyg r r' ta tb tc)):=by
  intro pins s σ H Q I h;refine isTrue_chain (thn (ha pins s σ H _ I h) fun v s1 ⟨x,H1,I1,r1,q1⟩=>test_link (thn (hb pins s1 σ H1 _ I1 q1) fun u s2 ⟨y,H2,I2,r2,q2⟩ =>
    thn (ho pins s2 σ H2 x y v u _ I2 r1 r2 q2) λd s3 ⟨z,H3,I3,r3,k,e,q3⟩=>?_)) hm
  subst e;cases r3;refine Dk ?_;cases k with
  | false =>
    obtain⟨k',e',q'⟩:=q3;cases e';exact ite_ff ⟨H3,I3,q'⟩
  | true =>
    refine ite_tt (test_last (thn (hc pins s3 σ H3 _ I3 q3) λw' s4 ⟨z',H4,I4,r4,q4⟩=>thn (ho' pins s4 σ H4 y z' u w' _ I4 r2 r4 q4) λd' s5 ⟨z2,H5,I5,r5,k2,e2,q5⟩=>?_));subst e2;cases r5;exact Dk ⟨H5,I5,q5⟩
theorem zq2:(sizeLine:Nat)<2 ^ 63:=by rw[Fy];decide
theorem zrn:OpR X (binaryOp .Add) (λx y H Q=>∃i j,x=.str i/\y=.str j/\i.length+j.length<=sizeLine/\Q (.str (i++j)) H):=by
 intro pins s σ H x y v u Q I rx ry h;obtain⟨i,j,rfl,rfl,hz,q⟩:=h;obtain⟨t,rfl⟩:=rx;obtain⟨t',rfl⟩:=ry;exact add_str (λt' tk=>⟨.str (i++j),H,I.tok _,⟨_,rfl⟩,q⟩) hz
theorem vals1 {x:V}{us:List Value}(r:Vals [x] us):∃u,us=[u]/\RelV x u:=by
 cases r with
 |cons r1 r2=>cases r2;exact⟨_,rfl,r1⟩
theorem z96 {x y:V}{us:List Value} (r:Vals [x,y] us):∃u w',us=[u,w']/\RelV x u/\RelV y w':=by
  cases r with
  | cons r1 r2 =>
    cases r2 with
    |cons r3 r4=>cases r4;exact⟨_,_,rfl,r1,r3⟩
theorem z1j:zep X (.builtin "abs") (λxs H Q=>∃i,xs=[.int i]/\Q (.int (if i<0 then -i else i)) H):=by
 intro pins s σ H xs us Q I r h;obtain⟨i,rfl,q⟩:=h;obtain⟨u,rfl,t,rfl⟩:=vals1 r;exact call_abs_int λu tk=>⟨.int (if i<0 then -i else i),H,I.tok _,⟨_,rfl⟩,q⟩
theorem zuv (hc:X.calm=true):zep X (.builtin "max") (λxs H Q=>∃i j,xs=[.int i,.int j]/\Q (.int (if j > i then j else i)) H):=by
 intro pins s σ H xs us Q I r h;obtain⟨i,j,rfl,q⟩:=h;obtain⟨u,w',rfl,⟨t,rfl⟩,⟨t',rfl⟩⟩:=z96 r;refine max_two_ints (I.ok.hd hc) λh' tk k=>⟨_,H,I.kept k,?_,q⟩;by_cases hj:j > i
 ·rw[if_pos hj,if_pos hj];exact⟨_,rfl⟩
 ·rw[if_neg hj,if_neg hj];exact⟨_,rfl⟩
theorem zxx (hc:X.calm=true):zep X (.builtin "min") (λxs H Q=>∃i j,xs=[.int i,.int j]/\Q (.int (if j<i then j else i)) H):=by
 intro pins s σ H xs us Q I r h;obtain⟨i,j,rfl,q⟩:=h;obtain⟨u,w',rfl,⟨t,rfl⟩,⟨t',rfl⟩⟩:=z96 r;refine min_two_ints (I.ok.hd hc) λh' tk k=>⟨_,H,I.kept k,?_,q⟩;by_cases hj:j<i
 ·rw[if_pos hj,if_pos hj];exact⟨_,rfl⟩
 ·rw[if_neg hj,if_neg hj];exact⟨_,rfl⟩
theorem ztn:zep X (.type "int") (λxs H Q=>(∃i,xs=[.int i]/\Q (.int i) H)\/∃k,xs=[.bl k]/\Q (.int (if k then 1 else 0)) H):=by
 intro pins s σ H xs us Q I r h;rcases h with⟨i,rfl,q⟩|⟨k,rfl,q⟩
 ·obtain⟨u,rfl,t,rfl⟩:=vals1 r;exact call_int_int ⟨.int i,H,I,⟨_,rfl⟩,q⟩
 ·obtain⟨u,rfl,r1⟩:=vals1 r;cases r1;exact call_int_bool ⟨.int (if k then 1 else 0),H,I.tok _,⟨_,rfl⟩,q⟩
end
structure ObjM (h:Heap) (x dx C:Addr) (mA:Str->Option Value):Prop where
 obj:h.get? x=some (PySem.W.instObj C dx)
 ns:h.Ns1 dx mA
 ne:dx≠x
theorem zya {h:Heap}{dx:Addr}{mA:Str->Option Value}(n:h.Ns1 dx mA):∃od,h.get? dx=some od/\∀name,PySem.W.lookIn name od=some (mA name):=by
 obtain⟨o,es,ep,ho,hd,hk,_,hm⟩:=n;refine⟨o,ho,λname=>?_⟩;have e:=hm name;unfold nsFind findBy at e;rw[<-Array.find?_toList] at e;unfold PySem.W.lookIn;rw[hd];dsimp only;split
 ·rename_i y q;rw[q] at e;exact congrArg some e
 ·rename_i q;rw [q] at e;have a:es.toList.any (·.refKey)=false:=by
   rw[List.any_eq_false];intro y hy;obtain⟨z,t,hkey⟩:=hk y (Array.mem_toList_iff.mp hy);simp [DictEntry.refKey,hkey]
  have a' : ¬ es.toList.any (·.refKey)=true:=by rw[a];exact Ag
  rw[if_neg a'];exact congrArg some e
theorem ObjM.look {h:Heap}{x dx C:Addr}{mA:Str->Option Value}(I:ObjM h x dx C mA):∃od,PySem.W.InstAt h x (PySem.W.instObj C dx) C (some od)/\∀name,PySem.W.lookIn name od=some (mA name) :=
 let ⟨od,ho,hl⟩:=zya I.ns
 ⟨od,⟨I.obj,rfl,rfl,ho⟩,hl⟩
section
variable {prog:Program}{w:World}{A:Around}{E:Value->Shared->Prop}{s:Shared}{K:PySem.W.Frag}{x dx C f:Addr}{mA:Str->Option Value}{name:Str}{v:Value}
end
section
variable {P:Program}{w:World}{H H' : Hp}{h h' : Heap}{a C dx:Addr}{fs fs' : List (Str × V)}
theorem z5k (hok:HOk P w H h)(e:H a=some (.ins C dx fs)):∃mA,ObjM h a dx C mA/\(∀f,RelO (fs.lookup f) (mA f))/\PySem.Within mA (fs.map (·.1))/\fs.length<=1000/\H dx=some (.own a):=by
 obtain⟨d,z,ne,ob,mA,n,r,q⟩:=(show zbx P w H h a (.ins C dx fs) from hok a _ e);exact⟨mA,⟨ob,n,ne⟩,r,q,z,d⟩
end
structure Cls (K:PySem.W.Frag) (C:Addr):Prop where
 pg:PySem.W.plainGet K C Str.empty=true
 hd:PySem.W.hasDictIn K C=true
 po:PySem.W.plainOver K C=true
 sa:PySem.W.findIn K (.ref C) "__setattr__" = some (some (.builtin "object.__setattr__"))
theorem Cls.get {K:PySem.W.Frag}{C:Addr}(c:Cls K C)(f:Str):PySem.W.plainGet K C f=true:=c.pg
section
variable {X:Cx}{pins:List (Addr × Obj)}{σ:St}{H:Hp}{s:Shared}{a C dx:Addr}{fs:List (Str × V)}{f:Str}{v:V}{A:Around}{E:Value->Shared->Prop}
end
section
variable {X:Cx}{o e value:Expr}{f:Str}{pos pos' tpos:Pos}{ta tv:TE}
end
section
variable {X:Cx}{pins:List (Addr × Obj)}{σ:St}{H:Hp}{s:Shared}{A:Around}{E:Value->Shared->Prop}{Q:Value->Shared->Prop}{c:Value}{b:Bool}
inductive TyOf (K:PySem.W.Frag) (H:Hp):V->Value->Prop where
 |non:TyOf K H .non (.type "NoneType")
 |bl (x:Bool):TyOf K H (.bl x) (.type "bool")
 |int (i:Int):TyOf K H (.int i) (.type "int")
 |str (x:Str):TyOf K H (.str x) (.type "str")
 |flt (x:UInt64):TyOf K H (.flt x) (.type "float")
 |lst {a:Addr}{xs:List V} (e:H a=some (.lst xs)):TyOf K H (.ref a) (.type "list")
 |frz {a:Addr}{o:Obj}{xs:List V} (e:H a=some (.frz o (.lst xs))):TyOf K H (.ref a) (.type "list")
 |tup {a:Addr}{xs:List V} (e:H a=some (.tup xs)):TyOf K H (.ref a) (.type "tuple")
 |dK {a:Addr}{kvs:List (Key × V)} (e:H a=some (.dK kvs)):TyOf K H (.ref a) (.type "dict")
 |dT {a:Addr}{kvs:List (List Key × V)} (e:H a=some (.dT kvs)):TyOf K H (.ref a) (.type "dict")
 | ins {a C dx:Addr}{fs:List (Str × V)} (e:H a=some (.ins C dx fs)) (cl:Cls K C) (ha:PySem.W.findIn K (.ref C) "__class__" = some (some (.builtin "object.__class__")))
   (hn:PySem.W.specialIn K (.builtin "object.__class__") "__get__" = some (some (.builtin "getset_descriptor.__get__"))) (htk:PySem.W.takesIn K (.builtin "object.__class__")=some true)
   (hm:PySem.W.mroIn K C (.type "object")=some true):TyOf K H (.ref a) (.ref C)
theorem zyd {x:V}{u t:Value} (I:Inv X pins σ H s) (rx:RelV x u) (ty:TyOf X.K H x t) (e:PySem.W.kitOne X.K t c=some b) (h:∀tk,Q (.bool b) { s with toks:=tk }) :
    wpAny #v[3,7] A (call (.builtin "isinstance") [u,c]) Q E s:=by
  cases ty with
  |non=>cases (show u=Value.none from rx);exact Da PySem.W.kitx_none I.kIn True.intro e (λz=>nomatch z) h
  |bl y=>cases (show u=Value.bool y from rx);exact Da PySem.W.kitx_bool I.kIn True.intro e (λz=>nomatch z) h
  |int i=>obtain⟨t,q⟩:=(show ∃t,u=Value.int i t from rx);cases q;exact Da PySem.W.kitx_int I.kIn True.intro e (λz=>nomatch z) h
  |str y=>obtain⟨t,q⟩:=(show ∃t,u=Value.str y t from rx);cases q;exact Da PySem.W.kitx_str I.kIn True.intro e (λz=>nomatch z) h
  |flt y=>obtain⟨t,q⟩:=(show ∃t,u=Value.float y t from rx);cases q;exact Da PySem.W.kitx_float I.kIn True.intro e (λz=>nomatch z) h
  | @lst a xs ea =>
    cases (show u=Value.ref a from rx);obtain⟨_,_,n,_,h1⟩:=(show zbx X.prog X.w H s.heap a (.lst xs) from I.hok a _ ea);exact Da PySem.W.kitx_list I.kIn ⟨_,h1,rfl⟩ e (λz=>nomatch z) h
  | @frz a ob xs ea =>
    cases (show u=Value.ref a from rx);obtain⟨_,_,_,n,_,h1⟩:=(show zbx X.prog X.w H s.heap a (.frz ob (.lst xs)) from I.hok a _ ea);exact Da PySem.W.kitx_list I.kIn ⟨_,h1,rfl⟩ e (λz=>nomatch z) h
  | @tup a xs ea =>
    cases (show u=Value.ref a from rx);obtain⟨_,_,_,p⟩:=(show zbx X.prog X.w H s.heap a (.tup xs) from I.hok a _ ea);obtain⟨o,h1,h2,_⟩:=p;exact Da PySem.W.kitx_tuple I.kIn ⟨o,h1,h2⟩ e (λz=>nomatch z) h
  | @dK a kvs ea =>
    cases (show u=Value.ref a from rx);obtain⟨_,_,vs,_,p⟩:=(show zbx X.prog X.w H s.heap a (.dK kvs) from I.hok a _ ea);obtain⟨o,es,ep,h1,h2,_⟩:=p;exact Da PySem.W.kitx_dict I.kIn ⟨o,h1,h2.1⟩ e (λz=>nomatch z) h
  | @dT a kvs ea =>
    cases (show u=Value.ref a from rx);obtain⟨_,_,xs,_,o,es,ep,h1,h2,_⟩:=(show zbx X.prog X.w H s.heap a (.dT kvs) from I.hok a _ ea);exact Da PySem.W.kitx_dict I.kIn ⟨o,h1,h2.1⟩ e (λz=>nomatch z) h
  | @ins a C dx fs ea cl ha hn htk hm =>
    cases (show u=Value.ref a from rx);obtain⟨mA,O,_⟩:=z5k I.hok ea;obtain⟨od,J,_⟩:=O.look;exact Da (PySem.W.kitx_own (cl.get _) cl.hd ha hn htk hm) I.kIn J e (λz=>nomatch z) h
end
structure Room (k:Nat) (A:Around):Prop where
 hd:A.handled=none
 dp:A.depth+3 * k+5<recursionLimit
 un:A.units+16 * k+200<cLine
 gd:A.guards=some []
theorem Room.mono {j k:Nat}{A:Around}(r:Room k A)(h:j<=k):Room j A:=⟨r.hd,by have:=r.dp;omega,by have:=r.un;omega,r.gd⟩
theorem Room.deeper {k:Nat}{A:Around}(r:Room (k+1) A)(env:Env):Room k (A.deeper env) :=
 ⟨r.hd,by have:=r.dp;show A.depth+1+3 * k+5<_;omega,by have:=r.un;show A.units+3+16 * k+200<_;omega,r.gd⟩
theorem Room.depth {k:Nat}{A:Around}(r:Room k A):A.depth<recursionLimit:=by have:=r.dp;omega
noncomputable def tNil:TA:=λ_ H Q=>Q [] H
noncomputable def zdq (ta:TE) (tr:TA):TA:=λσ H Q=>ta σ H λx H1=>tr σ H1 λxs H2=>Q (x::xs) H2
section
variable {X:Cx}{e:Expr}{es:List Expr}{te:TE}{t:TA}{pos:Pos}
theorem zfa:PA X [] tNil:=λ_ _ _ _ H Q I h=>Calls.spliced_nil ⟨[],H,I,.nil,h⟩
theorem z6x (ha:PE X e te)(hr:PA X es t)(hs:starEach (e::es) X.env=(false,eval e X.env)::starEach es X.env:=by rfl):PA X (e::es) (zdq te t):=by
 intro pos pins s σ H Q I h;rw[hs];show wpAny _ _ (spliced ((false,eval e X.env)::backTo pos (starEach es X.env))) _ _ s;refine Calls.spliced_cons (thn (ha pins s σ H _ I h) λu s1 ⟨x,H1,I1,r1,q1⟩=>?_);exact thn (hr pos pins s1 σ H1 _ I1 q1) λus s2 ⟨xs,H2,I2,r2,q2⟩=>⟨x::xs,H2,I2,.cons r1 r2,q2⟩
noncomputable def tTup (t:TA):TE:=λσ H Q=>t σ H λxs H1=>xs.length<=sizeLine/\∀p,H1 p=none->Q (.ref p) (upd H1 p (.tup xs))
noncomputable def tLst (t:TA):TE:=λσ H Q=>t σ H λxs H1=>xs.length<=sizeLine/\∀p,H1 p=none->Q (.ref p) (upd H1 p (.lst xs))
theorem z8o {x1}(h:PA X es t):PE X (.Tuple es x1 pos) (tTup t):=by
 intro pins s σ H Q I hq;refine wpAny_Tuple_spliced (thn (h pos pins s σ H _ I hq) λus s1 ⟨xs,H1,I1,r,z,q⟩=>⟨by rw[<-r.length];exact z,?_⟩);have hf:H1 s1.heap.objs.size=none:=I1.hok.fresh (Ad _);refine⟨.ref s1.heap.objs.size,upd H1 s1.heap.objs.size (.tup xs),I1.laid (t':=s1.toks) (λb u e=>Ai _ e) (Ad _) ?_,rfl,q _ hf⟩;exact⟨z,us,r,⟨_,Bb _ rfl,rfl,_,rfl⟩⟩
theorem yai (h:PA X es t):PE X (.List es pos) (tLst t):=by
 intro pins s σ H Q I hq;refine wpAny_List_spliced (thn (h pos pins s σ H _ I hq) λus s1 ⟨xs,H1,I1,r,z,q⟩=>⟨by rw[<-r.length];exact z,?_⟩);have hf:H1 s1.heap.objs.size=none:=I1.hok.fresh (Ad _);refine⟨.ref s1.heap.objs.size,upd H1 s1.heap.objs.size (.lst xs),I1.laid (t':=s1.toks) (λb u e=>Ai _ e) (Ad _) ?_,rfl,q _ hf⟩;exact⟨z,us,0,r,Bb _ rfl⟩
end
noncomputable abbrev Sp:=List V->Hp->VK->XK->Prop
noncomputable abbrev CXT:=List Env->Hp->Shared->XK->Value->Shared->Prop
structure Env0 (P:Program) (w:World) (K:PySem.W.Frag) (mg:Str->Option Value) (base:Heap) (A:Around) (outer:List Env) (s:Shared) (H:Hp):Prop where
 frames:A.frames=some outer
 mod:Mod K mg base
 bs:∀b o,base.get? b=some o->s.heap.get? b=some o/\H b=none
 bsz:base.objs.size<=s.heap.objs.size
 funs:s.heap.FunFrames base outer
 frf:∀b∈frs outer,H b=none
 hok:HOk P w H s.heap
 bare:AllBare s.gens
noncomputable def CE (outer:List Env) (P:Program) (w:World) (H:Hp) (s:Shared) (Q:VK) (u:Value) (s' : Shared):Prop :=
 ∃v H',s'.os=s.os/\AllBare s'.gens/\Un (frs outer) [] H H' s.heap s'.heap/\HOk P w H' s'.heap/\RelV v u/\Q v H'
noncomputable def CR (CX:CXT) (outer:List Env) (P:Program) (w:World) (H:Hp) (s:Shared) (Q:VK) (E:XK) (r:Result) (s' : Shared):Prop :=
 match r with
 |.ok (.ret u)=>CE outer P w H s Q u s'
 |.ok _=>False
 |.error e=>CX outer H s E e s'
structure FnOk (P:Program) (w:World) (K:PySem.W.Frag) (mg:Str->Option Value) (base:Heap) (CX:CXT) (k:Nat) (f:Addr) (fd:FuncData) (ps:List Str) (sp:Sp):Prop where
 len:∀vs H Q E,sp vs H Q E->vs.length=ps.length
 run:∀(A:Around) (outer:List Env) (s:Shared) (H:Hp) (args:Args) (us:List Value) (vs:List V) (Q:VK) (E:XK),Room k A->Env0 P w K mg base A outer s H->BindsTo s fd args (ps.zip us)->Vals vs us->sp vs H Q E ->
  codeAny (model P w) A (.call (.ref f) args) (CR CX outer P w H s Q E) s
section
variable {X:Cx}{pins:List (Addr × Obj)}{σ:St}{H:Hp}{s s' : Shared}
theorem Inv.env0 (I:Inv X pins σ H s):Env0 X.prog X.w X.K X.mg X.base X.A X.stack s H :=
 ⟨I.ok.frames,I.ok.mod,I.bs,Ct I.ok.bsz I.sz,I.stack,I.stkFree,I.hok,I.bare⟩
theorem Inv.after {Q:VK}{u:Value}(I:Inv X pins σ H s)(h:CE X.stack X.prog X.w H s Q u s'):EP X pins σ Q u s':=by
 obtain⟨v,H',os,bare,un,hok,r,q⟩:=h;obtain⟨hh,g,d,t,os'⟩:=s';obtain rfl:os'=s.os:=os;exact⟨v,H',I.call (h':=hh) (g':=g) (d':=d) (t':=t) (ch:=[]) un hok bare (λb z=>absurd z (by simp)),r,q⟩
end
noncomputable def z7t (sp:Sp) (dvs:List V) (E:XK) (t:TA):TE:=λσ H Q=>t σ H λvs H1=>sp (vs++dvs) H1 Q E
noncomputable def zn2 (K:PySem.W.Frag) (fd:FuncData) (ps:List Str) (ds:List Value):Prop :=
 ∀(s:Shared) (us:List Value),K.In s.heap->(us++ds).length=ps.length->BindsTo s fd ⟨us,[]⟩ (ps.zip (us++ds))
theorem zn2.all {K:PySem.W.Frag}{fd:FuncData}{ps:List Str}(h:∀us:List Value,us.length=ps.length->bindArgs fd ⟨us,[]⟩=pure (ps.zip us)):zn2 K fd ps []:=λs us _ hl=>by
 rw[By] at hl ⊢;exact .of_eq (h us hl)
noncomputable def zx2 (CX:CXT) (X:Cx) (E:XK):Prop:=∀(pins:List (Addr × Obj)) (σ:St) (H:Hp) (s:Shared) (e:Value) (s' : Shared),Inv X pins σ H s->CX X.stack H s E e s'->X.xe e s'
section
variable {X:Cx}{CX:CXT}{k:Nat}{f C:Addr}{fd:FuncData}{ps:List Str}{sp:Sp}{dvs:List V}{ds:List Value}{E:XK}{x m:Str}{p pos apos:Pos}{e o:Expr}{es:List Expr}{ta:TE}{t:TA}
theorem z8x {pins:List (Addr × Obj)}{σ:St}{H:Hp}{s:Shared}{Q:VK}{us:List Value}{vs:List V} (F:FnOk X.prog X.w X.K X.mg X.base CX k f fd ps sp) (hr:Room k X.A) (hb:zn2 X.K fd ps ds) (hd:Vals dvs ds) (hx:zx2 CX X E)
    (I:Inv X pins σ H s) (r:Vals vs us) (h:sp (vs++dvs) H Q E):wpAny #v[3,7] X.A (call (.ref f) us) (EP X pins σ Q) X.xe s:=by
  have r2:Vals (vs++dvs) (us++ds):=r.append hd;have hl:(us++ds).length=ps.length:=by rw[<-r2.length];exact F.len _ _ _ _ h
  refine wpAny_call (codeAny_mono (F.run X.A X.stack s H ⟨us,[]⟩ (us++ds) (vs++dvs) Q E hr I.env0 (hb s us I.kIn hl) r2 h) λr s' hq=>?_);cases r with
  |error e=>exact hx pins σ H s e s' I hq
  | ok fl =>
    cases fl with
    |ret u=>exact I.after hq
    |next=>exact False.elim hq
    |brk=>exact False.elim hq
    |cont=>exact False.elim hq
theorem z6g (F:FnOk X.prog X.w X.K X.mg X.base CX k f fd ps sp) (hr:Room k X.A) (hg:Gl X x) (hm:X.mg x=some (.ref f)) (hk:PySem.W.keepIn X.K (.ref f)=true) (hb:zn2 X.K fd ps ds) (hd:Vals dvs ds) (hx:zx2 CX X E)
  (ha:PA X (e::es) t) (hdb:(x == ("__debug__" : Str))=false:=by decide) (he:starEach (e::es) X.env=(false,eval e X.env)::starEach es X.env:=by rfl) (hpl:(backTo pos (starEach es X.env)).any (·.1)=false:=by rfl) :
  PE X (.Call (.Name x p) (e::es) [] pos) (z7t sp dvs E t):=by
 intro pins s σ H Q I h;refine wpAny_Call_Name_kw (z4k I hg hm ?_ hdb);refine PySem.W.callWith_K (h₀:=X.base) I.ok.mod.kin hk (thn (ha pos pins s σ H _ I h) λus s1 ⟨vs,H1,I1,r,q⟩=>⟨I1.kIn,?_⟩) he hpl;exact z8x F hr hb hd hx I1 r q
end
section
variable {X:Cx}{CX:CXT}{k:Nat}{f C:Addr}{fd:FuncData}{ps ks:List Str}{sp:Sp}{E:XK}{x m:Str}{p pos apos kpos:Pos}{e o:Expr}{es:List Expr}{kws:List Keyword}{te ta:TE}{t tk:TA}{nm:Option Str}
variable {g:List Value->List Value->List Value}{gV:List V->List V->List V}
end
structure FnScope (N P:List Str) (sc:Scope):Prop where
 kind:sc.kind=.function
 co:sc.isCoroutine=false
 gen:sc.isGenerator=false
 nd:N.Nodup
 pre:N.take P.length=P
 par:∀x∈P,sc.names.lookup x=some .local\/sc.names.lookup x=some .cell
 nofree:∀y∈sc.names,y.2≠.free
theorem zlm {kindOf:Str->Option NameKind}{x:Str}:∀{binds:List (Str × Value)}{m:Str->Option Value},(∀v,(x,v) ∉ binds)->bindL kindOf binds m x=m x
  |[],_,_=>rfl
  | (n,v)::r,m,h=>by
    unfold bindL;rw[zlm λw hw=>h w (Aq _ hw)];split
    · have : x ≠ n := by rintro rfl; exact h v Au
      simp [this]
    · rfl
theorem zme {kindOf:Str->Option NameKind}{x:Str}:∀{binds:List (Str × Value)}{m:Str->Option Value},(∀v,(x,v) ∉ binds)->bindC kindOf binds m x=m x
  |[],_,_=>rfl
  | (n,v)::r,m,h=>by
    unfold bindC;rw[zme λw hw=>h w (Aq _ hw)];split
    · rfl
    · have : x ≠ n := by rintro rfl; exact h v Au
      simp [this]
theorem zmv {kindOf:Str->Option NameKind}{x:Str}{v:Value}:∀{P:List Str}{vs:List Value}{i:Nat}{m:Str->Option Value},P.Nodup->P[i]?=some x->vs[i]?=some v->kindOf x=some .local ->
    bindL kindOf (P.zip vs) m x=some v
  |[],_,_,_,_,h,_,_=>by simp at h
  |_::_,[],_,_,_,_,h,_=>by simp at h
  | p::P,w::vs,0,m,nd,h1,h2,hk=>by
    simp at h1 h2;subst h1;subst h2;show bindL kindOf ((p,w)::P.zip vs) m p=_;unfold bindL;rw[zlm λv hv=>(Cr.mp nd).1 (List.of_mem_zip hv).1,if_pos hk];simp
  | p::P,w::vs,i+1,m,nd,h1,h2,hk=>by
    show bindL kindOf ((p,w)::P.zip vs) m x=_;unfold bindL;exact zmv (i:=i) (Cr.mp nd).2 (by simpa using h1) (by simpa using h2) hk
theorem zl3 {kindOf:Str->Option NameKind}{x:Str}{v:Value}:∀{P:List Str}{vs:List Value}{i:Nat}{m:Str->Option Value},P.Nodup->P[i]?=some x->vs[i]?=some v->kindOf x≠some .local ->
    bindC kindOf (P.zip vs) m x=some v
  |[],_,_,_,_,h,_,_=>by simp at h
  |_::_,[],_,_,_,_,h,_=>by simp at h
  | p::P,w::vs,0,m,nd,h1,h2,hk=>by
    simp at h1 h2;subst h1;subst h2;show bindC kindOf ((p,w)::P.zip vs) m p=_;unfold bindC;rw[zme λv hv=>(Cr.mp nd).1 (List.of_mem_zip hv).1,if_neg hk];simp
  | p::P,w::vs,i+1,m,nd,h1,h2,hk=>by
    show bindC kindOf ((p,w)::P.zip vs) m x=_;unfold bindC;exact zl3 (i:=i) (Cr.mp nd).2 (by simpa using h1) (by simpa using h2) hk
noncomputable def start (N:List Str) (vs:List V):St:=vs.map some++List.replicate (N.length - vs.length) none
noncomputable def cxOf (CX:CXT) (P:Program) (w:World) (K:PySem.W.Frag) (mg:Str->Option Value) (base:Heap) (N:List Str) (qual:Str) (scope:Scope) (f:Addr) (cd:Value) (A:Around) (outer:List Env) (s:Shared) (H:Hp) (E:XK):Cx where
 prog:=P
 w:=w
 K:=K
 mg:=mg
 base:=base
 A:=A.deeper (envOfC qual scope s.heap.objs.size f cd)
 N:=N
 s₀:=s
 H₀:=H
 env:=envOfC qual scope s.heap.objs.size f cd
 outer:=outer
 stack:=envOfC qual scope s.heap.objs.size f cd::outer
 ex:=[]
 calm:=true
 fn:=λ_=>true
 pn:=[]
 xe:=λe s'=>wpAny (model P w) (A.deeper (envOfC qual scope s.heap.objs.size f cd)) (leaving (envOfC qual scope s.heap.objs.size f cd) e) (λ_ s''=>CX outer H s E e s'') (λe' s''=>CX outer H s E e' s'') s'
theorem cell_has {sc:Scope}{n:Nat}{x:Str}(h:sc.names.lookup x=some .cell):∃c,(cellsFrom n sc.names []).lookup x=some c:=by
 have q:=PySem.W.cellsFrom_some sc.names n [] (.inl h);exact Hb.mp q
theorem ztj {CX:CXT}{P:Program}{w:World}{K:PySem.W.Frag}{mg:Str->Option Value}{base:Heap}{N ps:List Str}{qual:Str}{scope:Scope}{f:Addr}{cd:Value}{A:Around}{outer:List Env}{s s1:Shared}{H:Hp}{E:XK}{us:List Value}{vs:List V}
  (S:FnScope N ps scope) (hd:A.handled=none) (e0:Env0 P w K mg base A outer s H) (hl:vs.length=ps.length) (r:Vals vs us)
  (x:InCallC s s.heap.objs.size (bindL (envOfC qual scope s.heap.objs.size f cd).kindOf (ps.zip us) λ_=>none) (cellsFrom (s.heap.objs.size+1) scope.names []) (bindC (envOfC qual scope s.heap.objs.size f cd).kindOf (ps.zip us) λ_=>none) s1) :
  Inv (cxOf CX P w K mg base N qual scope f cd A outer s H E) [] (start N vs) H s1:=by
 have hpl:ps.length<=N.length:=by have:=congrArg List.length S.pre;rw[Cn] at this;omega
 obtain⟨h1,tk,rfl,hk⟩:=x.done;have noA:∀b:Addr,b ∉ (cxOf CX P w K mg base N qual scope f cd A outer s H E).ex:=λb z=>absurd (show b∈([]:List Addr) from z) (by simp);refine⟨⟨e0.mod,S.kind,rfl,rfl,Ad _,λy z c h1 h2=>?_,λy hy=>?_,λy c _ h=>?_,λ_=>hd,Around.frames_deeper e0.frames,.inr ⟨rfl,rfl⟩,λb z=>absurd z (noA b),e0.bs,e0.bsz,λb _ _=>noA b,λb z=>absurd z (noA b),e0.funs,e0.frf⟩,
  rfl,e0.bare,Un.kept hk,⟨_,x.toInCall.ns,λi y v h1 h2 h3=>?_⟩,λy c h=>⟨_,x.cell y c h⟩,e0.hok.fresh (Ad _),λy c h=>?_,λp hp=>absurd (show p∈([]:List (Addr × Obj)) from hp) (by simp),e0.hok.kept hk,?_⟩
 ·exact name_of_addr x.apart (Bu h1) (Bu h2)
 ·have hy : scope.names.lookup y = some .cell \/ scope.names.lookup y = some .free:=hy;rcases hy with hy|hy
  ·exact cell_has hy
  ·exact absurd rfl (S.nofree _ (Bu hy))
 ·exact Nat.le_of_lt (x.above y c (Bu h))
 ·have hi:i < vs.length:=by
   unfold start at h2;by_cases hi:i<vs.length
   ·exact hi
   ·rw[Ew (by simpa using hi)] at h2;rw[List.getElem?_replicate] at h2;split at h2<;>cases h2
  have ha:vs[i]?=some v:=by
   unfold start at h2;rw[Dj (by simpa using hi),An] at h2;cases e:vs[i]? with
   |none=>rw[e] at h2;cases h2
   |some a=>rw[e] at h2;cases h2;rfl
  obtain⟨u,hu,rv⟩:=r.get ha;have hp:ps[i]?=some y:=by
   rw[<-S.pre,List.getElem?_take_of_lt #v[]];exact h1
  have ndP:ps.Nodup:=by rw[<-S.pre];exact S.nd.sublist (Ft _ _)
  refine⟨u,rv,?_⟩;rcases S.par y (Av hp) with k|k
  ·exact .inl ⟨k,zmv ndP hp hu k⟩
  ·obtain⟨c,e⟩:=cell_has (n:=s.heap.objs.size + 1) k;refine .inr ⟨.inl k,c,e,?_⟩;have q:=x.cell y c e;rw[zl3 ndP hp hu (by show scope.names.lookup y≠_;rw[k];decide)] at q;exact q
 ·exact e0.hok.fresh (Nat.le_of_lt (x.above y c (Bu h)))
 ·unfold start;show _=N.length;rw[Az,Ae,Dy];omega
theorem yd3 {CX:CXT}{P:Program}{w:World}{K:PySem.W.Frag}{mg:Str->Option Value}{base:Heap}{k:Nat}{f:Addr}{name qual:Str}{params:Arguments}{body:List Stmt}{scope:Scope}{dV kV doc pm cdv ct oc:Value}{an od:Option Addr}
    {osl:Array (Option Value)}{N ps:List Str}{sp:Sp} (lk:K.lookup f=some ⟨oc,od,.func (PySem.W.fnOf name qual params body scope dV kV doc pm an cdv ct),osl⟩) (hcd:PySem.W.codeIn K cdv qual=true) (S:FnScope N ps scope)
    (len:∀vs H Q E,sp vs H Q E->vs.length=ps.length)
    (hbody:∀(A:Around) (outer:List Env) (s:Shared) (H:Hp) (vs:List V) (Q:VK) (E:XK),(Room k (A.deeper (envOfC qual scope s.heap.objs.size f cdv))/\Room (k+1) A)->sp vs H Q E ->
      ∃t,PSs (cxOf CX P w K mg base N qual scope f cdv A outer s H E) body t/\t { nx:=λ_ H'=>Q .non H',rt:=Q } (start N vs) H) :
    FnOk P w K mg base CX (k+1) f (PySem.W.fnOf name qual params body scope dV kV doc pm an cdv ct) ps sp:=by
  refine ⟨len,fun A outer s H args us vs Q E hr e0 hb r hsp=>?_⟩;have hl:=len _ _ _ _ hsp;have KX:K.In s.heap:=e0.mod.kin.keeps fun b o e=>(e0.bs b o e).1;have lim:s.heap.NoLimit:=e0.mod.nolimit.keeps fun b o e=>(e0.bs b o e).1;have hkind:∀y∈ps.zip us,scope.names.lookup y.1=some .local\/(scope.names.lookup y.1=some .cell/\((cellsFrom (s.heap.objs.size+1) scope.names []).lookup y.1).isSome=true):=fun ⟨n,v⟩ hy=>by
    rcases S.par n (List.of_mem_zip hy).1 with q|q
    · exact .inl q
    · exact .inr ⟨q,PySem.W.cellsFrom_some _ _ _ (.inl q)⟩
  refine codeAny_call_function hr.depth (KX _ _ lk) rfl S.co S.gen rfl (PySem.W.codeRec_of KX hcd) (hb _ _ _ _ ?_);refine wpAny_newFunctionEnv_cells S.kind hkind fun env he s1 x=>?_;subst he;refine ⟨lim.keeps x.toInCall.keep,codeAny_func ?_⟩;obtain ⟨t,ht,hq⟩:=hbody A outer s H vs Q E ⟨hr.deeper _,hr⟩ hsp;have I:Inv (cxOf CX P w K mg base N qual scope f cdv A outer s H E) [] (start N vs) H s1:=ztj S hr.hd e0 hl r x;refine Ev (ht [] s1 (start N vs) H _ I hq) (fun fl s' hs=>?_) fun e s' hs=>hs;have fin:∀{σ' : St}{H' : Hp}{v:V}{u:Value},Inv (cxOf CX P w K mg base N qual scope f cdv A outer s H E) [] σ' H' s'->RelV v u->Q v H'->CE outer P w H s Q u s' :=
    λ{σ' H' v u} J rv q=>⟨v,H',J.os,J.bare,J.base,J.hok,rv,q⟩
  cases fl with
  | ret u =>
    obtain⟨v,σ',H',J,rv,q⟩:=hs;exact fin J rv q
  | next =>
    obtain⟨σ',H',J,q⟩:=hs;exact fin (v:=V.non) (u:=Value.none) J rfl q
  | brk =>
    obtain⟨_,_,_,q⟩:=hs;exact False.elim q
  | cont =>
    obtain⟨_,_,_,q⟩:=hs;exact False.elim q
section
variable {X:Cx}{x:Str}{p pos:Pos}{e:Expr}{es:List Expr}{t:TA}{id T:String}{r:List V->Hp->VK->Prop}
noncomputable def tCB (r:List V->Hp->VK->Prop) (t:TA):TE:=λσ H Q=>t σ H λvs H1=>r vs H1 Q
theorem zcj (hc:zep X (.builtin id) r) (hg:Gl X x) (hm:X.mg x=none) (hv:bootBuiltins x=some (.builtin id)) (ha:PA X (e::es) t) (hn:x≠"__name__" := by decide) (hdb:(x == ("__debug__" : Str))=false:=by decide)
  (he:starEach (e::es) X.env=(false,eval e X.env)::starEach es X.env:=by rfl) (hpl:(backTo pos (starEach es X.env)).any (·.1)=false:=by rfl):PE X (.Call (.Name x p) (e::es) [] pos) (tCB r t):=by
 intro pins s σ H Q I h;refine wpAny_Call_Name_kw (zf6 I hg hm hv ?_ hn hdb);exact PyProof.Rows.callWith_builtin1 (thn (ha pos pins s σ H _ I h) λus s1 ⟨vs,H1,I1,r1,q1⟩=>hc pins s1 σ H1 vs us Q I1 r1 q1) he hpl
theorem zgw (hc:zep X (.type T) r) (hg:Gl X x) (hm:X.mg x=none) (hv:bootBuiltins x=some (.type T)) (ha:PA X (e::es) t) (hn:x≠"__name__" := by decide) (hdb:(x == ("__debug__" : Str))=false:=by decide)
  (he:starEach (e::es) X.env=(false,eval e X.env)::starEach es X.env:=by rfl) (hpl:(backTo pos (starEach es X.env)).any (·.1)=false:=by rfl):PE X (.Call (.Name x p) (e::es) [] pos) (tCB r t):=by
 intro pins s σ H Q I h;refine wpAny_Call_Name_kw (zf6 I hg hm hv ?_ hn hdb);exact Dn (thn (ha pos pins s σ H _ I h) λus s1 ⟨vs,H1,I1,r1,q1⟩=>hc pins s1 σ H1 vs us Q I1 r1 q1) he hpl
end
end L2
namespace HT
open PySem PyProof.Rows
section
open PySem.SeqAt
open PySem.AutoSeq1 (wpAny_loadPart')
open PySem.MeetsSeq PySem.MeetsSeq2 PySem.MeetsSeq3
end
section
variable {prog:Program}{w:World}{A:Around}{E:Value->Shared->Prop}{s:Shared}
theorem cat_tup {t b:Addr}{vs ws:List Value}{Q:Value->Shared->Prop} (ht:IsTup s.heap t vs.toArray) (hb:IsTup s.heap b ws.toArray) (hv:vs≠[])
  (h1:ws=[]->Q (.ref t) s) (h2:ws≠[]->Q (.ref s.heap.objs.size) { s with heap:=s.heap.push { cls:=.type "tuple",data:=.seq (vs++ws).toArray } })
  (hsz:vs.length+ws.length<=sizeLine):wpAny (model prog w) A (binaryOp .Add (.ref t) (.ref b)) Q E s:=by
 obtain⟨⟨cls,dd,data,sl⟩,ho,hc,n,hd⟩:=id ht;obtain⟨⟨cls2,dd2,data2,sl2⟩,ho2,hc2,n2,hd2⟩:=id hb;simp only at hc hd hc2 hd2;subst hc hd hc2 hd2;have e:vs.toArray++ws.toArray=(vs++ws).toArray:=by simp
 by_cases hw:ws=[]
 ·exact concat_meets ⟨_,ho,rfl⟩ ⟨_,ho2,rfl⟩ noFill_tuple_add seq_tuple_add PySem.F.slot_tuple_add PySem.F.entry_tuple_add (Ha _ _)
   (tuple_addW1 t b vs.toArray ws.toArray n n2 dd dd2 sl sl2 (by simpa using hv) (by simp [hw])) ⟨ho,ho2,h1 hw⟩
 ·refine concat_meets ⟨_,ho,rfl⟩ ⟨_,ho2,rfl⟩ noFill_tuple_add seq_tuple_add PySem.F.slot_tuple_add PySem.F.entry_tuple_add (Ha _ _)
   (tuple_addW2 t b vs.toArray ws.toArray n n2 dd dd2 sl sl2 (by simpa using hv) (by simpa using hw) (by rw[Ah,Ah];exact hsz)) ⟨ho,ho2,?_⟩
  rw[e];exact h2 hw
noncomputable def sIx (n d:Nat):Option Int->Nat
 |none=>d
 |some v=>if v<0 then (v+(n:Int)).toNat else min v.toNat n
theorem sIx_nat (n d k:Nat):sIx n d (some (k:Int))=min k n:=by
 show (if (k:Int)<0 then ((k:Int)+(n:Int)).toNat else min (k:Int).toNat n)=min k n;rw[if_neg #v[],Co]
theorem yat (n d:Nat) (hd:d<=n) (o:Option Int):sIx n d o<=n:=by
  cases o with
  |none=>exact hd
  | some v =>
    show (if v<0 then (v+(n:Int)).toNat else min v.toNat n)<=n;by_cases hv:v<0
    · rw[if_pos hv];omega
    · rw[if_neg hv];exact Nat.min_le_right _ _
theorem zyj (v:Int)(n d:Nat):(if v<0 then max (v+(n:Int)) 0 else min v (n:Int))=((sIx n d (some v):Nat):Int):=by
 show (if v<0 then max (v+(n:Int)) 0 else min v (n:Int))=(((if v<0 then (v+(n:Int)).toNat else min v.toNat n):Nat):Int);by_cases hv:v<0
 ·simp only [if_pos hv];omega
 ·simp only [if_neg hv];omega
theorem zrl (lo hi:Option Int)(n:Nat):Builtin.Slice.sliceAdjust lo hi 1 (n:Int)=(((sIx n 0 lo:Nat):Int),((sIx n n hi:Nat):Int)):=by
 have h1:¬ ((1:Int)<0):=by omega
 unfold Builtin.Slice.sliceAdjust;simp only [h1,if_false];refine Prod.ext ?_ ?_
 ·cases lo with
  |none=>rfl
  |some v=>exact zyj v n 0
 ·cases hi with
  |none=>rfl
  |some v=>exact zyj v n n
theorem zr8 (i j:Nat):Builtin.Slice.slicePlaces (i:Int) (j:Int) 1=j - i:=by
 unfold Builtin.Slice.slicePlaces;have h1:(1:Int) > 0:=by omega
 simp only [h1,Fq,Int.ediv_one];split<;>omega
theorem slicePart_ {v:Value}{o:Option Int}{Q:Option Int->Shared->Prop}(p:IsPart v o)(h:Q o s):wpAny (model prog w) A (Builtin.Slice.slicePartIndex v) Q E s:=by
 cases p with
 |none=>exact slicePart_none h
 |int i t=>exact slicePart_int h
theorem zdm {sl:Addr}{vl vu:Value}{lo hi:Option Int}{n:Nat}{Q:Int × Int × Nat->Shared->Prop} (hs:s.heap.IsSliceOf sl vl vu .none) (pl:IsPart vl lo) (pu:IsPart vu hi)
  (h:Q (((sIx n 0 lo:Nat):Int),1,sIx n n hi - sIx n 0 lo) s):wpAny (model prog w) A (Builtin.Slice.sliceApplied (.ref sl) (pure (n:Int))) Q E s:=by
 obtain⟨os,hos,hcs,hds⟩:=id hs;unfold Builtin.Slice.sliceApplied Builtin.Slice.sliceFields;refine Ab (Ab (Eh hos hds (x:=vl) rfl (Ab (Eh hos hds (x:=vu) rfl (Ab (Eh hos hds (x:=.none) rfl (Ao ?_)))))));refine Ab (slicePart_none ?_);show wpAny _ _ (if ((1:Int) == 0)=true then _ else _) _ _ s;rw[if_neg #v[0,9]];refine Ab (slicePart_ pl (Ab (slicePart_ pu (Ab (Ao ?_)))));show wpAny _ _ (match Builtin.Slice.sliceAdjust lo hi 1 (n:Int) with|(lo,hi)=>pure (lo,(1:Int),Builtin.Slice.slicePlaces lo hi 1)) _ _ s;rw[zrl lo hi n];show wpAny _ _ (pure (((sIx n 0 lo:Nat):Int),(1:Int),Builtin.Slice.slicePlaces ((sIx n 0 lo:Nat):Int) ((sIx n n hi:Nat):Int) 1)) _ _ s;rw[zr8];exact Ao h
theorem z2f (xs:Array Value)(i k:Nat):((List.range k).filterMap λ(m:Nat)=>xs[((i:Int)+(m:Int) * 1).toNat]?).toArray=((xs.toList.drop i).take k).toArray:=by
 have e:(λ(m:Nat)=>xs[((i:Int)+(m:Int) * 1).toNat]?)=λm=>xs[i+m]?:=by
  funext m
  have:((i:Int)+(m:Int) * 1).toNat=i+m:=by omega
  rw[this]
 rw[e];have:=pick_run xs i k;rw[List.filterMap_map] at this;have e2:((λx=>xs[x]?) ∘ λx=>i+x)=λm=>xs[i+m]?:=rfl;rw[e2] at this;rw[this]
theorem getItem_tuple_cut {t sl:Addr}{items:Array Value}{vl vu:Value}{lo hi:Option Int}{Q:Value->Shared->Prop} (ht:IsTup s.heap t items) (hs:s.heap.IsSliceOf sl vl vu .none) (pl:IsPart vl lo) (pu:IsPart vu hi)
  (hw:¬ (sIx items.size 0 lo=0/\sIx items.size items.size hi=items.size))
  (h:Q (.ref s.heap.objs.size) { s with heap:=s.heap.push { cls:=.type "tuple",data:=.seq ((items.toList.drop (sIx items.size 0 lo)).take (sIx items.size items.size hi - sIx items.size 0 lo)).toArray } })
  (hsz:items.size<=sizeLine):wpAny (model prog w) A (getItem (.ref t) (.ref sl)) Q E s:=by
 have htake:sizeOk (.seq ((items.toList.drop (sIx items.size 0 lo)).take (sIx items.size items.size hi - sIx items.size 0 lo)).toArray):=by
  show ((items.toList.drop (sIx items.size 0 lo)).take (sIx items.size items.size hi - sIx items.size 0 lo)).toArray.size<=sizeLine;rw[Ah,Cn,Ds,Cz];omega
 have hj:sIx items.size items.size hi<=items.size:=yat _ _ (Ad _) hi;obtain⟨os,hos,hcs,hds⟩:=id hs;have hTs:s.TypeIs (.ref sl) "slice" := ⟨os,hos,hcs⟩;unfold getItem
 try with_reducible refine El ?_
 first|refine Ab (Ao ?_)|skip
 refine Ab (wpAny_sequenceKey ht.typeIs #v[0,9] ?_);refine Ab (Dq (name:=Str.ofString "__getitem__") ht.typeIs Cp
  (Fg Cp ht.typeIs entry_tuple_getitem ?_ (args_tuple_getitem _ _)))
 show wpAny _ _ (Builtin.Tuple.tupleItemsOf (.ref t) >>= _) _ _ s;refine Ab (tupleItemsOf_ ht ?_);refine Ab (wpAny_typeOf hTs ?_);rw[if_pos #v[0,9]];refine Ab (zdm hs pl pu ?_);have hno:¬ ((((sIx items.size 0 lo:Nat):Int) == 0 && (1:Int) == 1 && (sIx items.size items.size hi - sIx items.size 0 lo) == items.size)=true):=by
  intro q;rw[Ac,Ac] at q;have q1:((sIx items.size 0 lo:Nat):Int)=0:=Br q.1.1;have q2:sIx items.size items.size hi - sIx items.size 0 lo=items.size:=Br q.2;exact hw ⟨by omega,by omega⟩
 show wpAny _ _ (if (((sIx items.size 0 lo:Nat):Int) == 0 && (1:Int) == 1 && (sIx items.size items.size hi - sIx items.size 0 lo) == items.size)=true then _ else _) _ _ s;rw[if_neg hno,z2f]
 first
  |exact Ab (m:=Builtin.Tuple.tupleExact _) (Ce (Ao ⟨_,rfl,Ao h⟩) htake)
  |exact Ab (m:=Builtin.Tuple.tupleExact _) (Ce (Ab (Ao (Ao ⟨_,rfl,Ao h⟩))) htake)
  |exact Ab (Ab (m:=Builtin.Tuple.tupleExact _) (Ce (Ao (Ao ⟨_,rfl,Ao h⟩)) htake))
  |exact Ab (Ab (m:=Builtin.Tuple.tupleExact _) (Ce (Ao ⟨_,rfl,Ao h⟩) htake))
end
end HT
namespace L2
open PySem PySem.Spec PyProof.Rows
noncomputable abbrev TO:=St->Hp->(Option Int->Hp->Prop)->Prop
noncomputable def PO (X:Cx) (e:Option Expr) (t:TO):Prop :=
  ∀(pins:List (Addr × Obj)) (s:Shared) (σ:St) (H:Hp) (Q:Option Int->Hp->Prop),Inv X pins σ H s->t σ H Q ->
    wpAny #v[3,7] X.A (evalPart e X.env) (λu s'=>∃o H',Inv X pins σ H' s'/\IsPart u o/\Q o H') X.xe s
noncomputable def zwq:TO:=λ_ H Q=>Q none H
noncomputable def yaw (t:TE):TO:=λσ H Q=>t σ H λx H1=>∃i,x=.int i/\Q (some i) H1
theorem zs7 {ns:List Int}:∀{us:List Value},Vals (ns.map V.int) us->IntsAre us ns:=by
  induction ns with
  |nil=>intro us r;rw[List.map_nil] at r;cases r;exact .nil
  | cons n ns ih =>
    intro us r;rw[Bd] at r;cases r with
    | cons r1 r2 =>
      obtain⟨t,e⟩:=r1;subst e;exact .cons n t (ih r2)
section
variable {X:Cx}{e:Expr}{te:TE}{lo hi:Option Expr}{tl th:TO}{pos p2:Pos}
theorem z7p:PO X none zwq:=by
 intro pins s σ H Q I h;rw[evalPart_none];exact Ao ⟨none,H,I,.none,h⟩
theorem ztr (h:PE X e te):PO X (some e) (yaw te):=by
 intro pins s σ H Q I hw;rw[evalPart_some];refine thn (h pins s σ H _ I hw) λu s1 ⟨x,H1,I1,r1,q1⟩=>?_;obtain⟨i,rfl,q⟩:=q1;obtain⟨t,rfl⟩:=r1;exact⟨some i,H1,I1,.int i t,q⟩
noncomputable def SlR (X:Cx) (r:V->Option Int->Option Int->Hp->VK->Prop):Prop :=
  ∀(pins:List (Addr × Obj)) (s:Shared) (σ:St) (H:Hp) (x:V) (v vl vu:Value) (lo hi:Option Int) (sl:Addr) (Q:VK),Inv X pins σ H s->RelV x v->s.heap.IsSliceOf sl vl vu .none->IsPart vl lo->IsPart vu hi->r x lo hi H Q ->
    ∃T id,typeLookup (.type T) "__getitem__" = pure (some (.builtin id))/\s.TypeIs v T/\wpAny #v[3,7] X.A (getItem v (.ref sl)) (EP X pins σ Q) X.xe s
theorem SlR.or {r r' : V->Option Int->Option Int->Hp->VK->Prop}(h:SlR X r)(h' : SlR X r'):SlR X (λx lo hi H Q=>r x lo hi H Q\/r' x lo hi H Q):=by
 intro pins s σ H x v vl vu lo hi sl Q I rx hs pl pu q;rcases q with q|q
 ·exact h pins s σ H x v vl vu lo hi sl Q I rx hs pl pu q
 ·exact h' pins s σ H x v vl vu lo hi sl Q I rx hs pl pu q
noncomputable def tSl (r:V->Option Int->Option Int->Hp->VK->Prop) (te:TE) (tl th:TO):TE:=λσ H Q=>te σ H λx H1=>tl σ H1 λl H2=>th σ H2 λu H3=>r x l u H3 Q
theorem z0q {r:V->Option Int->Option Int->Hp->VK->Prop}(hr:SlR X r)(he:PE X e te)(hl:PO X lo tl)(hu:PO X hi th):PE X (.Subscript e (.Slice lo hi none p2) pos) (tSl r te tl th):=by
 intro pins s σ H Q I h;refine Subscript_ (thn (he pins s σ H _ I h) λv s1 ⟨x,H1,I1,r1,q1⟩=>?_);refine wpAny_Slice (thn (hl pins s1 σ H1 _ I1 q1) λvl s2 ⟨l,H2,I2,pl,q2⟩=>thn (hu pins s2 σ H2 _ I2 q2) λvu s3 ⟨u,H3,I3,pu,q3⟩=>?_);rw[evalPart_none];refine Ao ?_;have I4:Inv X pins σ H3 { s3 with heap:=s3.heap.push { cls:=.type "slice",data:=.fields #[vl,vu,.none] } }:=I3.kept (t':=s3.toks) λb ob q=>Ai _ q;obtain⟨T,id,hT,ht,hg⟩:=hr pins { s3 with heap:=s3.heap.push { cls:=.type "slice",data:=.fields #[vl,vu,.none] } } σ H3 x v vl vu l u s3.heap.objs.size Q I4 r1 (Heap.IsSliceOf.new ..) pl pu q3;show wpAny #v[3,7] X.A (subscriptTail e (.Slice lo hi none p2) v (.ref s3.heap.objs.size)) (EP X pins σ Q) X.xe { s3 with heap:=s3.heap.push { cls:=.type "slice",data:=.fields #[vl,vu,.none] } };exact tail_any (ops:=[.ref s3.heap.objs.size,v]) ht hT hg (by with_unfolding_all rfl)
noncomputable def cutV (xs:List V) (lo hi:Option Int):List V:=(xs.drop (HT.sIx xs.length 0 lo)).take (HT.sIx xs.length xs.length hi - HT.sIx xs.length 0 lo)
theorem zgx (xs:List V)(lo hi:Option Int):(cutV xs lo hi).length<=xs.length:=by
 unfold cutV;rw[Cn,Ds];omega
noncomputable def rSlT (K:PySem.W.Frag):V->Option Int->Option Int->Hp->VK->Prop:=λx lo hi H Q=>∃a xs,x=.ref a/\SqT K H a xs /\
 ¬ (HT.sIx xs.length 0 lo=0/\HT.sIx xs.length xs.length hi=xs.length)/\∀p,H p=none->Q (.ref p) (upd H p (.tup (cutV xs lo hi)))
theorem ybq:SlR X (rSlT X.K):=by
 intro pins s σ H x v vl vu lo hi sl Q I rx hs pl pu h;obtain⟨a,xs,rfl,hx,hw,q⟩:=h;cases rx;obtain⟨its,r,ht,hz⟩:=I.tuple hx;have hlen:its.toArray.size=xs.length:=by rw[Ah];exact r.length.symm
 refine⟨"tuple",_,PyProof.Rows.slot_tuple_getitem.lookup,ht.typeIs,?_⟩;refine HT.getItem_tuple_cut ht hs pl pu (by rw[hlen];exact hw) ?_ (by rw[hlen];exact hz);rw[hlen];refine⟨.ref s.heap.objs.size,_,I.laid (t':=s.toks) (o:=.tup (cutV xs lo hi)) (λb ob q=>Ai _ q) (Ad _) ?_,rfl,q _ (I.hok.fresh (Ad _))⟩;exact⟨Ct (zgx xs lo hi) hz,_,(r.drop (HT.sIx xs.length 0 lo)).take (HT.sIx xs.length xs.length hi - HT.sIx xs.length 0 lo),IsTup.new _ _⟩
noncomputable def z9p (K:PySem.W.Frag):R2:=λx y H Q=>∃a b xs ys,x=.ref a/\y=.ref b/\SqT K H a xs/\SqT K H b ys/\xs≠[]/\xs.length+ys.length<=sizeLine /\
 (ys=[]->Q (.ref a) H)/\(ys≠[]->∀p,H p=none->Q (.ref p) (upd H p (.tup (xs++ys))))
theorem Vals.nil_iff {xs:List V}{us:List Value}(r:Vals xs us):us=[]↔xs=[]:=by
 cases r with
 |nil=>simp
 |cons _ _=>simp
theorem z37:OpR X (binaryOp .Add) (z9p X.K):=by
 intro pins s σ H x y v u Q I rx ry h;obtain⟨a,b,xs,ys,rfl,rfl,ha,hb,hx,hz,q1,q2⟩:=h;cases rx;cases ry;obtain⟨its,r1,p1,_⟩:=I.tuple ha;obtain⟨its2,r2,p2,_⟩:=I.tuple hb;refine HT.cat_tup p1 p2 (λz=>hx (r1.nil_iff.mp z)) (λz=>⟨.ref a,H,I,rfl,q1 (r2.nil_iff.mp z)⟩) (λz=>?_) (by rw[<-r1.length,<-r2.length];exact hz);refine⟨.ref s.heap.objs.size,_,I.laid (t':=s.toks) (o:=.tup (xs++ys)) (λb ob q=>Ai _ q) (Ad _) ?_,rfl,q2 (λw=>z (r2.nil_iff.mpr w)) _ (I.hok.fresh (Ad _))⟩;exact⟨by rw[Az];exact hz,_,r1.append r2,IsTup.new _ _⟩
end
noncomputable def ixN (n:Nat) (i:Int):Option Nat:=if 0<=i then (if i<n then some i.toNat else none) else if -(n:Int)<=i then some (i+n).toNat else none
noncomputable def atI {α:Type} (xs:List α) (i:Int):Option α:=(ixN xs.length i).bind λj=>xs[j]?
theorem zoo {n:Nat}{i:Int}{j:Nat}(h:ixN n i=some j):seqIndex? i n=some j/\j<n/\-(n:Int)<=i/\i<n:=by
 unfold ixN at h;by_cases h0:0<=i
 ·rw[if_pos h0] at h;by_cases h1:i<n
  ·rw[if_pos h1] at h;have e:i.toNat=j:=sI h;exact⟨by rw[seqIndex_of h0 h1,e],by omega,by omega,h1⟩
  ·rw[if_neg h1] at h;cases h
 ·rw[if_neg h0] at h;by_cases h1:-(n:Int)<=i
  ·rw[if_pos h1] at h;have e:(i+n).toNat=j:=sI h;exact⟨by rw[seqIndex_neg #v[] h1,e],by omega,h1,by omega⟩
  ·rw[if_neg h1] at h;cases h
theorem zwz {α:Type}{xs:List α}{i:Int}{v:α} (h:atI xs i=some v):∃j,seqIndex? i xs.length=some j/\xs[j]?=some v/\j < xs.length/\-(xs.length:Int)<=i/\i < xs.length:=by
  unfold atI at h;cases e:ixN xs.length i with
  |none=>rw[e] at h;cases h
  | some j =>
    rw[e] at h;obtain⟨h1,h2,h3,h4⟩:=zoo e;exact⟨j,h1,h,h2,h3,h4⟩
theorem z54 {α:Type}{xs:List α}{j:Nat}{v:α}(h:xs[j]?=some v):atI xs (j:Int)=some v:=by
 have hj:j<xs.length:=(Aj.mp h).1;have e:ixN xs.length (j:Int)=some j:=by
  unfold ixN;rw[if_pos #v[],if_pos #v[]];simp
 unfold atI;rw[e];exact h
noncomputable def zww (b:Expr):Prop:=∀o i,subscripted b false o i=operate [o,i] (getItem o i)
noncomputable def IxR (X:Cx) (r:R2):Prop :=
  ∀(value slice:Expr) (pins:List (Addr × Obj)) (s:Shared) (σ:St) (H:Hp) (x y:V) (v u:Value) (Q:VK),Inv X pins σ H s->RelV x v->RelV y u->r x y H Q ->
    subscripted slice false v u=operate [v,u] (getItem v u)->wpAny #v[3,7] X.A (subscriptTail value slice v u) (EP X pins σ Q) X.xe s
noncomputable def MtR (X:Cx) (id:String) (r:V->List V->Hp->VK->Prop):Prop :=
  ∀(pins:List (Addr × Obj)) (s:Shared) (σ:St) (H:Hp) (x:V) (xs:List V) (v:Value) (us:List Value) (Q:VK),Inv X pins σ H s->RelV x v->Vals xs us->r x xs H Q ->
    wpAny #v[3,7] X.A (call (.builtin id) (v::us)) (EP X pins σ Q) X.xe s
section
variable {X:Cx}{a b:Expr}{ta tb:TE}{pos:Pos}
theorem IxR.or {r r' : R2}(h:IxR X r)(h' : IxR X r'):IxR X (λx y H Q=>r x y H Q\/r' x y H Q):=by
 intro value slice pins s σ H x y v u Q I rx ry q hs;rcases q with q|q
 ·exact h value slice pins s σ H x y v u Q I rx ry q hs
 ·exact h' value slice pins s σ H x y v u Q I rx ry q hs
theorem yef {r:R2}(hr:IxR X r)(ha:PE X a ta)(hb:PE X b tb)(hs:zww b):PE X (.Subscript a b pos) (tOp r ta tb):=by
 intro pins s σ H Q I h;exact Subscript_ (binT ha hb I h λv u s2 x y H2 I2 rx ry q=>hr a b pins s2 σ H2 x y v u Q I2 rx ry q (hs _ _))
noncomputable def rIxL (K:PySem.W.Frag):R2:=λx y H Q=>∃p xs i v,x=.ref p/\y=.int i/\SqL K H p xs/\atI xs i=some v/\Q v H
noncomputable def rIxT (K:PySem.W.Frag):R2:=λx y H Q=>∃p xs i v,x=.ref p/\y=.int i/\SqT K H p xs/\atI xs i=some v/\Q v H
theorem z4e:IxR X (rIxL X.K):=by
 intro value slice pins s σ H x y v u Q I rx ry h hs;obtain⟨p,xs,i,z,rfl,rfl,hq,he,q⟩:=h;cases rx;obtain⟨t,rfl⟩:=ry;obtain⟨its,r,pl,hz⟩:=I.list hq;obtain⟨j,h1,h2,h3,h4,h5⟩:=zwz he;obtain⟨w,ew,rw'⟩:=r.get h2;have hl:=r.length;have hn:=zq2;have fin:EP X pins σ Q w s:=⟨z,H,I,rw',q⟩;by_cases h0:0<=i
 ·have hj:i.toNat=j:=by
   rw[seqIndex_of h0 h5] at h1;exact sI h1
  exact item_listR pl.isList h0 #v[] (by rw[hj];simpa using ew) fin hs
 ·have hj:(i+(its.toArray.size:Int)).toNat=j:=by
   rw[seqIndex_neg #v[] h4] at h1;rw[Ah,<-hl];exact sI h1
  exact subscriptTail_builtinR (x:=w) pl.isList.typeIs slot_list_getitem.lookup
   (wpAny_getItem_list_neg (Q:=λr s'=>r=w/\EP X pins σ Q r s') pl.isList #v[] (by rw[Ah]<;>omega) #v[] (by rw[hj];simpa using ew) ⟨rfl,fin⟩) hs
theorem z92:IxR X (rIxT X.K):=by
 intro value slice pins s σ H x y v u Q I rx ry h hs;obtain⟨p,xs,i,z,rfl,rfl,hq,he,q⟩:=h;cases rx;obtain⟨t,rfl⟩:=ry;obtain⟨its,r,pl,hz⟩:=I.tuple hq;obtain⟨j,h1,h2,h3,h4,h5⟩:=zwz he;obtain⟨w,ew,rw'⟩:=r.get h2;have hl:=r.length;have hn:=zq2;have fin:EP X pins σ Q w s:=⟨z,H,I,rw',q⟩;exact subscriptTail_builtinR (x:=w) pl.typeIs slot_tuple_getitem.lookup
  (getItem_tuple (j:=j) (Q:=λr s'=>r=w/\EP X pins σ Q r s') pl #v[] #v[] (by rw[Ah,<-hl];exact h1) (by simpa using ew) ⟨rfl,fin⟩) hs
theorem zr3 (its:List Value)(n j:Nat)(u:Value):Obj.mapSeq (·.setIfInBounds j u) { cls:=.type "list",data:=.seq its.toArray n }={ cls:=.type "list",data:=.seq (its.set j u).toArray n }:=by
 simp [Obj.mapSeq]
theorem Inv.lst {pins:List (Addr × Obj)}{σ:St}{H:Hp}{s:Shared}{p:Addr}{xs:List V} (I:Inv X pins σ H s) (h:H p=some (.lst xs)) :
  ∃(its:List Value) (n:Nat),Vals xs its/\s.heap.get? p=some { cls:=.type "list",data:=.seq its.toArray n }/\xs.length<=sizeLine:=by
 obtain⟨z,its,n,r,e⟩:=I.hok p _ h;exact⟨its,n,r,e,z⟩
theorem Inv.lstUpd {pins:List (Addr × Obj)}{σ:St}{H:Hp}{s:Shared}{p:Addr}{xs ys:List V}{its its' : List Value}{n n' : Nat}{f:Obj->Obj} (I:Inv X pins σ H s) (h:H p=some (.lst xs))
  (ho:s.heap.get? p=some { cls:=.type "list",data:=.seq its.toArray n }) (hf:f { cls:=.type "list",data:=.seq its.toArray n }={ cls:=.type "list",data:=.seq its'.toArray n' }) (r:Vals ys its') (hz:ys.length<=sizeLine) (t:Nat) :
  Inv X pins σ (upd H p (.lst ys)) { s with heap:=s.heap.update p f,toks:=t }:=by
 have e:(s.heap.update p f).get? p=some { cls:=.type "list",data:=.seq its'.toArray n' }:=by
  rw[Heap.get?_update_self f ho (by rw[hf]<;>rfl),hf]
 refine I.write (x:=p) (e:=p) (by rw[h];trivial) (.inl rfl) (λb u hb q=>(Heap.get?_update_other _ _ (Ne.symm hb)).trans q) ⟨_,e⟩ ?_;exact⟨hz,its',n',r,e⟩
noncomputable def ycd:V->V->V->Hp->(Hp->Prop)->Prop:=λo i v H Q=>∃p xs k j,o=.ref p/\i=.int k/\H p=some (.lst xs)/\ixN xs.length k=some j/\Q (upd H p (.lst (xs.set j v)))
theorem zys:PSet X ycd:=by
 intro pins s σ H o i v ov iv u Q I ro ri rv h;obtain⟨p,xs,k,j,rfl,rfl,hp,hj,q⟩:=h;cases ro;obtain⟨t,rfl⟩:=ri;obtain⟨its,n,r,ho,hz⟩:=I.lst hp;obtain⟨h1,h2,h3,h4⟩:=zoo hj;have hl:=r.length;have hn:=zq2;have I' : Inv X pins σ (upd H p (.lst (xs.set j v))) { s with heap:=s.heap.update p (Obj.mapSeq (·.setIfInBounds j u)) } :=
  I.lstUpd hp ho (zr3 its n j u) (r.set rv j) (by rw[Di];exact hz) s.toks
 by_cases h0:0<=k
 ·have hk:k.toNat=j:=by
   rw[seqIndex_of h0 h4] at h1;exact sI h1
  exact PySem.W.ki_setAt ho h0 #v[] (by rw[Ah,<-hl];exact h4) (by rw[hk];exact⟨_,I',q⟩)
 ·have hk:(k+(its.toArray.size:Int)).toNat=j:=by
   rw[seqIndex_neg #v[] h3] at h1;rw[Ah,<-hl];exact sI h1
  exact PySem.W.ki_setBack ho #v[] (by rw[Ah,<-hl];exact h3) #v[] (by rw[hk];exact⟨_,I',q⟩)
theorem zlv (lo hi:Option Int) (n:Nat):(sliceBounds lo hi none n).1=((HT.sIx n 0 lo:Nat):Int)/\(sliceBounds lo hi none n).2.1=((HT.sIx n n hi:Nat):Int)/\(sliceBounds lo hi none n).2.2=1:=by
  refine⟨?_,?_,rfl⟩
  · cases lo with
    |none=>simp [sliceBounds,HT.sIx]
    | some i =>
      simp only [sliceBounds,HT.sIx,Option.getD_none,show (1:Int) > 0 by decide,Fq];by_cases h:i<0
      · simp only [h,Fq]<;>omega
      · simp only [h,if_false]<;>omega
  · cases hi with
    |none=>simp [sliceBounds,HT.sIx]
    | some i =>
      simp only [sliceBounds,HT.sIx,Option.getD_none,show (1:Int) > 0 by decide,Fq];by_cases h:i<0
      · simp only [h,Fq]<;>omega
      · simp only [h,if_false]<;>omega
theorem zke (its:List Value)(lo hi:Option Int):slicePick its.toArray lo hi none=((its.drop (HT.sIx its.length 0 lo)).take (HT.sIx its.length its.length hi - HT.sIx its.length 0 lo)).toArray:=by
 obtain⟨h1,h2,h3⟩:=zlv lo hi its.toArray.size;unfold slicePick;rw[h1,h2,h3];simp only [sliceRange_one,pick_run,Ah]<;>rfl
noncomputable def rSlL (K:PySem.W.Frag):V->Option Int->Option Int->Hp->VK->Prop:=λx lo hi H Q=>∃a xs,x=.ref a/\SqL K H a xs/\∀p,H p=none->Q (.ref p) (upd H p (.lst (cutV xs lo hi)))
theorem z5i:SlR X (rSlL X.K):=by
 intro pins s σ H x v vl vu lo hi sl Q I rx hs pl pu h;obtain⟨a,xs,rfl,hx,q⟩:=h;cases rx;obtain⟨its,r,ht,hz⟩:=I.list hx;have hlen:=r.length;refine⟨"list",_,slot_list_getitem.lookup,ht.isList.typeIs,?_⟩;refine wpAny_getItem_list_slice ht.isList hs pl pu .none (by simp) ?_ (by rw[Ah]<;>omega);rw[zke,<-hlen];refine⟨.ref s.heap.objs.size,_,I.laid (t':=s.toks) (o:=.lst (cutV xs lo hi)) (λb ob q=>Ai _ q) (Ad _) ?_,rfl,q _ (I.hok.fresh (Ad _))⟩;exact⟨Ct (zgx xs lo hi) hz,_,0,(r.drop (HT.sIx xs.length 0 lo)).take (HT.sIx xs.length xs.length hi - HT.sIx xs.length 0 lo),Bb _ rfl⟩
noncomputable def zii:V->Bool
 |.non=>true
 |.bl _=>true
 |.int _=>true
 |.str _=>true
 |_=>false
noncomputable def eqV:V->V->Bool
 |.non,.non=>true
 |.bl a,.bl b=>a == b
 |.bl a,.int b=>(if a then 1 else 0) == b
 |.int a,.bl b=>a == (if b then 1 else 0)
 |.int a,.int b=>a == b
 |.str a,.str b=>a == b
 |_,_=>false
theorem yb5 {A:Around}{s:Shared}{y x:V}{u v:Value} (ry:RelV y u) (rx:RelV x v) (fy:zii y=true) (fx:zii x=true):SeqAt.EqAt A s u v (eqV y x):=by
  cases y with
  | non =>
    cases ry;cases x with
    |non=>cases rx;exact SeqAt.EqAt.same _
    |bl b=>cases rx;exact SeqAt.EqAt.none_bool b
    |int b=>obtain⟨t,rfl⟩:=rx;exact SeqAt.EqAt.none_int b t
    |str b=>obtain⟨t,rfl⟩:=rx;exact SeqAt.EqAt.none_str b t
    |_=>exact absurd (show false=true from fx) Ag
  | bl a =>
    cases ry;cases x with
    |non=>cases rx;exact SeqAt.EqAt.bool_none a
    |bl b=>cases rx;exact SeqAt.EqAt.bool_bool a b
    |int b=>obtain⟨t,rfl⟩:=rx;exact SeqAt.EqAt.bool_int a b t
    |str b=>obtain⟨t,rfl⟩:=rx;exact SeqAt.EqAt.bool_str a b t
    |_=>exact absurd (show false=true from fx) Ag
  | int a =>
    obtain⟨t',rfl⟩:=ry;cases x with
    |non=>cases rx;exact SeqAt.EqAt.int_none a t'
    |bl b=>cases rx;exact SeqAt.EqAt.int_bool a t' b
    |int b=>obtain⟨t,rfl⟩:=rx;exact SeqAt.EqAt.int_int a t' b t
    |str b=>obtain⟨t,rfl⟩:=rx;exact SeqAt.EqAt.int_str a t' b t
    |_=>exact absurd (show false=true from fx) Ag
  | str a =>
    obtain⟨t',rfl⟩:=ry;cases x with
    |non=>cases rx;exact SeqAt.EqAt.str_none a t'
    |bl b=>cases rx;exact SeqAt.EqAt.str_bool a t' b
    |int b=>obtain⟨t,rfl⟩:=rx;exact SeqAt.EqAt.str_int a t' b t
    |str b=>obtain⟨t,rfl⟩:=rx;exact SeqAt.EqAt.str_str a t' b t
    |_=>exact absurd (show false=true from fx) Ag
  |_=>exact absurd (show false=true from fy) Ag
noncomputable def eqU (x:V) (u:Value):Bool:=match u with
 |.none=>eqV .non x
 |.bool b=>eqV (.bl b) x
 |.int i _=>eqV (.int i) x
 |.str z _=>eqV (.str z) x
 |_=>false
theorem z3e {x y:V}{u:Value}(r:RelV y u)(f:zii y=true):eqU x u=eqV y x:=by
 cases y with
 |non=>cases r;rfl
 |bl b=>cases r;rfl
 |int i=>obtain⟨t,rfl⟩:=r;rfl
 |str z=>obtain⟨t,rfl⟩:=r;rfl
 |_=>exact absurd (show false=true from f) Ag
theorem zgt {x:V}:∀{xs:List V}{us:List Value},Vals xs us->xs.all zii=true->us.any (eqU x)=xs.any fun y=>eqV y x
  |_,_,.nil,_=>rfl
  | y::xs,u::us,.cons r t,f=>by
    rw[Bo,Ac] at f;rw[Dl,Dl,z3e r f.1,zgt t f.2]
theorem zew {A:Around}{s:Shared}{x:V}{v:Value} (rx:RelV x v) (fx:zii x=true):∀{xs:List V}{us:List Value},Vals xs us->xs.all zii=true->∀u∈us,SeqAt.EqAt A s u v (eqU x u)
  |_,_,.nil,_=>λu hu=>by cases hu
  | y::xs,u::us,.cons r t,f=>fun u' hu=>by
    rw[Bo,Ac] at f;rcases At.mp hu with rfl|hu
    · rw[z3e r f.1];exact yb5 r rx f.1 fx
    · exact zew rx fx t f.2 u' hu
noncomputable def inV (x:V) (xs:List V):Bool:=xs.any λy=>eqV y x
noncomputable def rIn (K:PySem.W.Frag) (neg:Bool):R2:=λx y H Q=>∃p xs,y=.ref p/\(SqL K H p xs\/SqT K H p xs)/\zii x=true/\xs.all zii=true/\Q (.bl (if neg then !inV x xs else inV x xs)) H
theorem zu4:OpR X (compareOp .In) (rIn X.K false):=by
 intro pins s σ H x y v u Q I rx ry h;obtain⟨p,xs,rfl,hq,fx,fs,q⟩:=h;cases ry;rcases hq with hq|hq
 ·obtain⟨its,r,pl,hz⟩:=I.list hq;refine SeqAt.in_listAt (eqU x) pl.isList (λw hw=>zew rx fx r fs w (by simpa using hw)) ⟨.bl _,H,I,rfl,?_⟩;rw[show its.toArray.any (eqU x)=its.any (eqU x) by simp,zgt r fs];exact q
 ·obtain⟨its,r,pl,hz⟩:=I.tuple hq;refine SeqAt.in_tupleAt (eqU x) pl (λw hw=>zew rx fx r fs w (by simpa using hw)) ⟨.bl _,H,I,rfl,?_⟩;rw[show its.toArray.any (eqU x)=its.any (eqU x) by simp,zgt r fs];exact q
theorem zlu:OpR X (compareOp .NotIn) (rIn X.K true):=by
 intro pins s σ H x y v u Q I rx ry h;obtain⟨p,xs,rfl,hq,fx,fs,q⟩:=h;cases ry;rcases hq with hq|hq
 ·obtain⟨its,r,pl,hz⟩:=I.list hq;refine SeqAt.notIn_listAt (eqU x) pl.isList (λw hw=>zew rx fx r fs w (by simpa using hw)) ⟨.bl _,H,I,rfl,?_⟩;rw[show its.toArray.any (eqU x)=its.any (eqU x) by simp,zgt r fs];exact q
 ·obtain⟨its,r,pl,hz⟩:=I.tuple hq;refine SeqAt.notIn_tupleAt (eqU x) pl (λw hw=>zew rx fx r fs w (by simpa using hw)) ⟨.bl _,H,I,rfl,?_⟩;rw[show its.toArray.any (eqU x)=its.any (eqU x) by simp,zgt r fs];exact q
theorem zmz:zep X (.builtin "len") (λxs H Q=>∃p ys,xs=[.ref p]/\(SqL X.K H p ys\/SqT X.K H p ys)/\Q (.int ys.length) H):=by
 intro pins s σ H xs us Q I r h;obtain⟨p,ys,rfl,hq,q⟩:=h;obtain⟨u,rfl,rx⟩:=vals1 r;cases rx;have hn:=zq2;rcases hq with hq|hq
 ·obtain⟨its,r', pl,hz⟩:=I.list hq;have hlen:=r'.length;exact Calls.call_len_list pl.isList (by simp only [Ah]<;>omega) ⟨.int ys.length,H,I.tok _,⟨s.toks+1,by rw[Ah,hlen]⟩,q⟩
 ·obtain⟨its,r', pl,hz⟩:=I.tuple hq;have hlen:=r'.length;exact len_tuple pl (by simp only [Ah]<;>omega) ⟨.int ys.length,H,I.tok _,⟨s.toks+1,by rw[Ah,hlen]⟩,q⟩
theorem zmk:zep X (.type "list") (λxs H Q=>∃p ys,xs=[.ref p]/\(SqL X.K H p ys\/SqT X.K H p ys)/\∀l,H l=none->Q (.ref l) (upd H l (.lst ys))):=by
 intro pins s σ H xs us Q I r h;obtain ⟨p,ys,rfl,hq,q⟩:=h;obtain ⟨u,rfl,rx⟩:=vals1 r;cases rx;have fin:∀(its:List Value),Vals ys its->ys.length<=sizeLine->∀(h' : Heap) (c' : Nat),(∀b o',s.heap.get? b=some o'->h'.get? b=some o') ->
   h'.get? s.heap.objs.size=some { cls:=.type "list",dict:=none,data:=.seq its.toArray c',slots:=#[] }->EP X pins σ Q (.ref s.heap.objs.size) { s with heap:=h' }:=λits r' hz h' c' kp e =>
  ⟨.ref s.heap.objs.size,_,I.laid (t':=s.toks) kp (Ad _) (show zbx X.prog X.w _ h' _ (.lst ys) from ⟨hz,its,c',r',e⟩),rfl,q _ (I.hok.fresh (Ad _))⟩
 rcases hq with hq|hq
 ·obtain⟨its,r', pl,hz⟩:=I.list hq;have hlen:=r'.length;obtain⟨o,ho,hc,n,hd⟩:=pl.isList;exact call_list_seq p (.inl rfl) ho hc hd (λh' c' kp e=>fin its r' hz h' c' kp e) (by simp only [Ah]<;>omega)
 ·obtain⟨its,r', pl,hz⟩:=I.tuple hq;have hlen:=r'.length;obtain⟨o,ho,hc,n,hd⟩:=pl;exact call_list_seq p (.inr rfl) ho hc hd (λh' c' kp e=>fin its r' hz h' c' kp e) (by simp only [Ah]<;>omega)
theorem zks:zep X (.type "tuple") (λxs H Q=>∃p ys,xs=[.ref p]/\((SqL X.K H p ys/\∀l,H l=none->Q (.ref l) (upd H l (.tup ys)))\/(SqT X.K H p ys/\Q (.ref p) H))):=by
 intro pins s σ H xs us Q I r h;obtain⟨p,ys,rfl,h⟩:=h;obtain⟨u,rfl,rx⟩:=vals1 r;cases rx;rcases h with⟨hq,q⟩|⟨hq,q⟩
 ·obtain ⟨its, r', pl, hz⟩ := I.list hq;have hlen:=r'.length;refine call_tuple_list pl.isList (fun h' kp=>?_) (by simp only [Ah]<;>omega);have I1:Inv X pins σ H { s with heap:=h' }:=I.kept (t':=s.toks) kp;have I2:Inv X pins σ (upd H h'.objs.size (.tup ys)) { s with heap:=h'.push { cls:=.type "tuple",data:=.seq its.toArray } } :=
   I1.laid (t':=s.toks) (λb o e=>Ai _ e) (Ad _) (show zbx X.prog X.w _ _ _ (.tup ys) from ⟨hz,its,r',IsTup.new _ _⟩)
  exact⟨.ref h'.objs.size,_,I2,rfl,q _ (I1.hok.fresh (Ad _))⟩
 ·obtain⟨its,r', pl,hz⟩:=I.tuple hq;exact call_tuple_same pl ⟨.ref p,H,I,rfl,q⟩
noncomputable def tyV (K:PySem.W.Frag) (T:String) (x:V) (H:Hp):Prop:=match x with
 |.str _=>T = "str"
 |.int _=>T = "int"
 | .ref p=>(T = "list"/\∃xs,SqL K H p xs)\/(T = "tuple"/\∃o,K.lookup p=some o/\o.cls=.type "tuple"/\o.dict=none) \/
   (T = "dict"/\((∃kvs,H p=some (.dK kvs))\/∃kvs,H p=some (.dT kvs)))\/(T = "set"/\∃S n,H p=some (.set S n))
 |_=>False
theorem z3j {pins:List (Addr × Obj)}{σ:St}{H:Hp}{s:Shared}{T:String}{x:V}{v:Value} (I:Inv X pins σ H s) (r:RelV x v) (ty:tyV X.K T x H) :
    s.TypeIs v T/\∀a,v=.ref a->∃ob,s.heap.get? a=some ob/\ob.dict=none:=by
  cases x with
  | str z =>
    obtain⟨t,rfl⟩:=r;cases (show T = "str" from ty);exact⟨typeIs_str s z t,λ_ e=>nomatch e⟩
  | int i =>
    obtain⟨t,rfl⟩:=r;cases (show T = "int" from ty);exact⟨Fx s i t,λ_ e=>nomatch e⟩
  | ref p =>
    cases r;rcases ty with⟨rfl,xs,hq⟩|⟨rfl,o,hk,hc,hd⟩|⟨rfl,hk⟩|⟨rfl,S,n,hk⟩
    · obtain ⟨its, _, pl, _⟩ := I.list hq
      refine⟨pl.isList.typeIs,λa e=>?_⟩;cases e;obtain⟨o,n,e,c,hd,_⟩:=pl;exact⟨o,e,hd⟩
    · refine ⟨⟨o, I.kIn p o hk, hc⟩, fun a e => ?_⟩
      cases e;exact⟨o,I.kIn _ o hk,hd⟩
    · have z:∃o,s.heap.get? p=some o/\o.ExactDict:=by
        rcases hk with⟨kvs,hk⟩|⟨kvs,hk⟩
        · obtain ⟨_, _, _, _, o, _, _, e, ex, _⟩ := I.hok p _ hk
          exact⟨o,e,ex⟩
        · obtain ⟨_, _, _, _, o, _, _, e, ex, _⟩ := I.hok p _ hk
          exact⟨o,e,ex⟩
      obtain⟨o,e,ex⟩:=z;refine⟨⟨o,e,ex.1⟩,λa e2=>?_⟩;cases e2;exact⟨o,e,ex.2.1⟩
    · obtain ⟨o, _, _, _, e, ex, _⟩ := I.hok p _ hk
      refine⟨⟨o,e,ex.1⟩,λa e2=>?_⟩;cases e2;exact⟨o,e,ex.2.1⟩
  |_=>exact False.elim ty
noncomputable def tBM0 (K:PySem.W.Frag) (T:String) (r:V->List V->Hp->VK->Prop) (to:TE):TE:=λσ H Q=>to σ H λx H1=>tyV K T x H1/\r x [] H1 Q
noncomputable def tBM (K:PySem.W.Frag) (T:String) (r:V->List V->Hp->VK->Prop) (to:TE) (t:TA):TE:=λσ H Q=>to σ H λx H1=>tyV K T x H1/\t σ H1 λxs H2=>r x xs H2 Q
variable {o e:Expr}{es:List Expr}{to:TE}{t:TA}{name:Str}{apos cpos:Pos}{T id:String}{r:V->List V->Hp->VK->Prop}
theorem ycl (pa:PlainAttrs T) (slot:Slot T name id) (hty:typeOf (.builtin id)=pure (.type "method_descriptor")) (hm:MtR X id r) (ho:PE X o to)
  (hbase:attributeBase o name X.env (eval o X.env)=eval o X.env:=by rfl) (hline:(apos.endLine == cpos.line)=true:=by rfl):PE X (.Call (.Attribute o name apos) [] [] cpos) (tBM0 X.K T r to):=by
 intro pins s σ H Q I h;refine wpAny_Call_method0_late hbase hline (thn (ho pins s σ H _ I h) λv s1 ⟨x,H1,I1,r1,ty,q1⟩=>?_);obtain⟨h1,h2⟩:=z3j I1 r1 ty;exact⟨T,id,pa,slot,hty,h1,h2,Calls.callWith_builtin rfl (PySem.evalArgs_none (hm pins s1 σ H1 x [] v [] Q I1 r1 .nil q1))⟩
theorem z8a (pa:PlainAttrs T) (slot:Slot T name id) (hty:typeOf (.builtin id)=pure (.type "method_descriptor")) (hm:MtR X id r) (ho:PE X o to) (ha:PA X (e::es) t)
  (hbase:attributeBase o name X.env (eval o X.env)=eval o X.env:=by rfl)
  (hfew:((backTo cpos (starEach (e::es) X.env)).all (λx=>!x.1) && (backToKw cpos (keywordEach [] X.env)).all (λx=>x.1.isSome)
   && decide ((e::es).length+([]:List Keyword).length+(if ([]:List Keyword).isEmpty then 0 else 1)<30))=true:=by rfl)
  (hline:(apos.endLine == cpos.line)=true:=by rfl) (hs:starEach (e::es) X.env=(false,eval e X.env)::starEach es X.env:=by rfl) (hplain:(backTo cpos (starEach es X.env)).any (·.1)=false:=by rfl) :
  PE X (.Call (.Attribute o name apos) (e::es) [] cpos) (tBM X.K T r to t):=by
 intro pins s σ H Q I h;refine wpAny_Call_method_late hbase hfew hline rfl (thn (ho pins s σ H _ I h) λv s1 ⟨x,H1,I1,r1,ty,q1⟩=>?_);obtain⟨h1,h2⟩:=z3j I1 r1 ty;refine⟨T,id,pa,slot,hty,h1,h2,?_⟩;have hA:=ha cpos pins s1 σ H1 _ I1 q1;rw[hs] at hA ⊢;refine Calls.callWith_builtin (by show (false || (backTo cpos (starEach es X.env)).any (·.1))=false;rw[hplain]<;>rfl) (Calls.evalArgs_plain ?_);exact thn hA λus s2 ⟨vs,H2,I2,r2,q2⟩=>hm pins s2 σ H2 x vs v us Q I2 r1 r2 q2
end
noncomputable def MtM (X:Cx) (id:String) (r:V->List V->Hp->VK->Prop):Prop :=
  ∀(pins:List (Addr × Obj)) (s:Shared) (σ:St) (H:Hp) (x:V) (xs:List V) (v:Value) (us:List Value) (Q:VK),Inv X pins σ H s->RelV x v->Vals xs us->r x xs H Q ->
    wpAny #v[3,7] X.A (call (.builtin id) (v::us)) (EP X pins σ Q) X.xe s
theorem Vals.one:∀{x:V}{us:List Value},Vals [x] us->∃u,us=[u]/\RelV x u
 |_,_,.cons r .nil=>⟨_,rfl,r⟩
theorem Vals.eraseIdx:∀{xs:List V}{us:List Value} (i:Nat),Vals xs us->Vals (xs.eraseIdx i) (us.eraseIdx i)
 |_,_,_,.nil=>.nil
 |_,_,0,.cons _ t=>t
 |_,_,i+1,.cons r t=>.cons r (Vals.eraseIdx i t)
theorem Vals.reverse {xs:List V}{us:List Value}(h:Vals xs us):Vals xs.reverse us.reverse:=by
 induction h with
 |nil=>exact .nil
 |cons r t ih=>rw[Gx,Gx];exact Vals.append ih (.cons r .nil)
theorem Vals.rep {xs:List V}{us:List Value} (h:Vals xs us):∀k:Nat,Vals (List.replicate k xs).flatten (List.replicate k us).flatten
  |0=>.nil
  | k+1=>by
    rw[Cw,Cw,Ed,Ed];exact Vals.append h (Vals.rep h k)
theorem len_erase {α:Type}:∀(l:List α) (i:Nat),(l.eraseIdx i).length<=l.length
 |[],_=>Ad _
 |_::_,0=>Nat.le_succ _
 |_::r,i+1=>Nat.succ_le_succ (len_erase r i)
theorem zgz (its:List Value):∀(k:Nat) (acc:List Value),
    List.foldl (λx1 x2=>x1++x2) acc.toArray (List.replicate k its.toArray)=(acc++(List.replicate k its).flatten).toArray
  |0,acc=>by simp
  | k+1,acc=>by
    have e:acc.toArray++its.toArray=(acc++its).toArray:=by simp
    have e2:(acc++its)++(List.replicate k its).flatten=acc++(List.replicate (k+1) its).flatten:=by
      rw[Cw,Ed,Bc]
    rw[<-e2,<-zgz its k (acc++its),<-e,Cw,List.foldl_cons]
section
variable {X:Cx}{pins:List (Addr × Obj)}{σ:St}{H:Hp}{s:Shared}{l b:Addr}{xs ys zs:List V}
theorem Inv.lset {its its' : List Value}{n:Nat}{f:Array Value->Array Value}{t' : Nat} (I:Inv X pins σ H s) (hH:H l=some (.lst xs))
  (e:s.heap.get? l=some { cls:=.type "list",data:=.seq its.toArray n }) (hf:f its.toArray=its'.toArray) (hv:Vals ys its') (hz:ys.length<=sizeLine) :
  Inv X pins σ (upd H l (.lst ys)) { s with heap:=s.heap.update l (Obj.mapSeq f),toks:=t' }:=by
 have q:=PySem.IsL.update e f;rw[hf] at q;refine I.write (x:=l) (e:=l) (by rw[hH];exact trivial) (.inl rfl) (λb' u hb hu=>(Heap.get?_update_other s.heap (Obj.mapSeq f) (Ne.symm hb)).trans hu) ⟨_,q⟩ ?_;exact⟨hz,its',_,hv,q⟩
theorem Inv.lnew {its:List Value}{t' : Nat} (I:Inv X pins σ H s) (hv:Vals ys its) (hz:ys.length<=sizeLine) :
  Inv X pins σ (upd H s.heap.objs.size (.lst ys)) { s with heap:=s.heap.push { cls:=.type "list",data:=.seq its.toArray },toks:=t' } :=
 I.laid (λ_ _ q=>Ai _ q) (Ad _) ⟨hz,its,0,hv,Bb _ rfl⟩
theorem Inv.fresh (I:Inv X pins σ H s):H s.heap.objs.size=none:=I.hok.fresh (Ad _)
theorem Inv.lstM (I:Inv X pins σ H s)(hH:H l=some (.lst xs)):xs.length<=sizeLine/\∃(its:List Value) (n:Nat),Vals xs its/\xs.length=its.length/\s.heap.get? l=some { cls:=.type "list",data:=.seq its.toArray n }:=by
 obtain⟨z,its,n,r,e⟩:=I.hok l _ hH;exact⟨z,its,n,r,r.length,e⟩
theorem zpy {n:Nat}(h:n<=sizeLine):Builtin.List.listTooLong n=false:=by
 unfold Builtin.List.listTooLong;exact Ak #v[]
end
section
variable {X:Cx}
noncomputable def zul:V->List V->Hp->VK->Prop:=λx vs H Q=>∃l xs y,x=.ref l/\vs=[y]/\H l=some (.lst xs)/\xs.length<sizeLine/\Q .non (upd H l (.lst (xs++[y])))
theorem zlb:MtM X "list.append" zul:=by
 intro pins s σ H x vs v us Q I rx rv h;obtain⟨l,xs,y,rfl,rfl,hH,hz,q⟩:=h;cases rx;obtain⟨u,rfl,ru⟩:=rv.one;obtain⟨z,its,n,r,hl,e⟩:=I.lstM hH;refine Em F.slot_list_append ⟨_,e,rfl⟩ F.entry_list_append (F.args_list_append_2 _ _) (PySem.list_append l its.toArray n u (by rw[Ah];omega)) ⟨e,?_⟩;refine⟨.non,_,I.lset (its':=its++[u]) hH e (by simp) (r.append (.cons ru .nil)) ?_,rfl,q⟩;rw[Az,List.length_singleton];omega
noncomputable def z4y:V->List V->Hp->VK->Prop:=λx vs H Q=>∃l b xs zs,x=.ref l/\vs=[.ref b]/\H l=some (.lst xs)/\H b=some (.lst zs)/\xs.length+zs.length<=sizeLine/\Q .non (upd H l (.lst (xs++zs)))
theorem ya9:MtM X "list.extend" z4y:=by
 intro pins s σ H x vs v us Q I rx rv h;obtain⟨l,b,xs,zs,rfl,rfl,hH,hB,hz,q⟩:=h;cases rx;obtain⟨u,rfl,ru⟩:=rv.one;cases ru;obtain⟨z,its,n,r,hl,e⟩:=I.lstM hH;obtain⟨z2,its2,n2,r2,hl2,e2⟩:=I.lstM hB;have hsz:its.toArray.size+its2.toArray.size<=sizeLine:=by rw[Ah,Ah];omega
 have hlong:¬ (!its.toArray.isEmpty && Builtin.List.listTooLong (its.toArray.size+its2.toArray.size))=true:=by
  rw[zpy hsz,Bool.and_false];exact Ag
 refine Em F.slot_list_extend ⟨_,e,rfl⟩ F.entry_list_extend (F.args_list_extend_2 _ _)
  (AutoSeq1.list_extend_list_list_0 l its.toArray n b its2.toArray n2 hlong (by rw[Ah];omega) #v[]) ⟨e,e2,?_⟩
 refine⟨.non,_,I.lset (its':=its++its2) hH e (by simp) (r.append r2) ?_,rfl,q⟩;rw[Az];omega
noncomputable def z3v:V->List V->Hp->VK->Prop:=λx vs H Q=>∃l xs i k y,x=.ref l/\vs=[.int i]/\H l=some (.lst xs)/\-(2 ^ 63)<=i/\i<2 ^ 63/\seqIndex? i xs.length=some k/\xs[k]?=some y/\Q y (upd H l (.lst (xs.eraseIdx k)))
theorem zzy:MtM X "list.pop" z3v:=by
 intro pins s σ H x vs v us Q I rx rv h;obtain⟨l,xs,i,k,y,rfl,rfl,hH,h1,h2,hk,hy,q⟩:=h;cases rx;obtain⟨u,rfl,ru⟩:=rv.one;obtain⟨t,rfl⟩:=ru;obtain⟨z,its,n,r,hl,e⟩:=I.lstM hH;obtain⟨w,hw,rw'⟩:=r.get hy;refine Em F.slot_list_pop ⟨_,e,rfl⟩ F.entry_list_pop (F.args_list_pop_2 _ _)
  (MeetsSeq.list_pop_at l its.toArray n i t k w (fitsIndex_both h1 h2) (by rw[Ah,<-hl];exact hk) (by rw[<-Fz];exact hw) (by rw[Ah];omega)) ⟨e,?_⟩
 refine⟨y,_,I.lset (its':=its.eraseIdx k) hH e ?_ (r.eraseIdx k) ?_,rw',q⟩
 ·show its.toArray.eraseIdxIfInBounds k = (its.eraseIdx k).toArray;rw[List.eraseIdxIfInBounds_toArray]
 ·have:=len_erase xs k;omega
noncomputable def rCat:R2:=λx y H Q=>∃l b xs zs,x=.ref l/\y=.ref b/\H l=some (.lst xs)/\H b=some (.lst zs)/\xs.length+zs.length<=sizeLine/\∀p,H p=none->Q (.ref p) (upd H p (.lst (xs++zs)))
theorem yaf:OpR X (binaryOp .Add) rCat:=by
 intro pins s σ H x y v u Q I rx ry h;obtain⟨l,b,xs,zs,rfl,rfl,hH,hB,hz,q⟩:=h;cases rx;cases ry;obtain⟨z,its,n,r,hl,e⟩:=I.lstM hH;obtain⟨z2,its2,n2,r2,hl2,e2⟩:=I.lstM hB;refine PySem.P.add_list e e2 ?_ (by rw[Ah,Ah];omega);have ea:its.toArray++its2.toArray=(its++its2).toArray:=by simp
 rw[ea];exact⟨.ref _,_,I.lnew (t':=s.toks) (r.append r2) (by rw[Az];omega),rfl,q _ I.fresh⟩
noncomputable def rRep:R2:=λx y H Q=>∃l k xs,x=.ref l/\y=.int k/\H l=some (.lst xs)/\-(2 ^ 63)<=k/\k<2 ^ 63/\xs.length * k.toNat<=sizeLine /\
 ∀p,H p=none->Q (.ref p) (upd H p (.lst (List.replicate k.toNat xs).flatten))
theorem zvo {α:Type}(xs:List α)(k:Nat):(List.replicate k xs).flatten.length=k * xs.length:=by
 induction k with
 |zero=>simp
 |succ k ih=>rw[Cw,Ed,Az,ih,Nat.succ_mul,Nat.add_comm]
theorem z9c:OpR X (binaryOp .Mult) rRep:=by
 intro pins s σ H x y v u Q I rx ry h;obtain⟨l,k,xs,rfl,rfl,hH,h1,h2,hz,q⟩:=h;cases rx;obtain⟨t,rfl⟩:=ry;obtain⟨z,its,n,r,hl,e⟩:=I.lstM hH;have hlen:its.toArray.size * k.toNat<=sizeLine:=by rw[Ah,<-hl];exact hz
 have hcap:¬ its.toArray.size * k.toNat > (2 ^ 63 - 1) / 8:=by
  have:(sizeLine:Nat)<=(2 ^ 63 - 1) / 8:=by decide
  omega
 have hfit:¬ (!Builtin.List.listFitsIndex k)=true:=by
  rw[fitsIndex_both h1 h2];exact Ag
 have hlong:¬ Builtin.List.listTooLong (its.toArray.size * k.toNat)=true:=by
  rw[zpy hlen];exact Ag
 have hnew:List.foldl (λx1 x2=>x1++x2) #[] (List.replicate (if its.toArray.isEmpty=true then 0 else k.toNat) its.toArray)=(List.replicate k.toNat its).flatten.toArray:=by
  have f0:∀m:Nat,List.foldl (λx1 x2=>x1++x2) #[] (List.replicate m its.toArray)=(List.replicate m its).flatten.toArray:=λm=>by
   have:=zgz its m [];rw[List.nil_append] at this;exact this
  rw[f0];cases its with
  |nil=>simp
  |cons a r'=>rw[if_neg (by simp)]
 refine Fh (T := "list") (U := "int") #v[0,9] ⟨_,e,rfl⟩ (λs'=>Fx s' k t) noFill_list_mul F.fills_int_mul F.slot_int_rmul repeat_list F.slot_int_index.lookup
  (Em F.slot_int_rmul (Fx s k t) F.entry_int_rmul (F.args_int_rmul_2 _ _) (int___rmul___int_list k t l its.toArray n)
   ⟨e,rfl,⟨_,e,rfl⟩,Em F.slot_list_mul ⟨_,e,rfl⟩ F.entry_list_mul (F.args_list_mul_2 _ _) (AutoListH.list___mul___list_int_3 l its.toArray n k t hfit hcap hlong) ⟨e,?_⟩⟩)
 rw[hnew];exact⟨.ref _,_,I.lnew (t':=s.toks) (r.rep k.toNat) (by rw[zvo,Gm];exact hz),rfl,q _ I.fresh⟩
end
section
variable {prog:Program}{w:World}{A:Around}{E:Value->Shared->Prop}{s:Shared}
end
section
variable {X:Cx}
end
end L2
namespace Att
open PySem PySem.W PySem.Calls PyProof.Rows
theorem zhn {P:Params}{h:Heap}:∀(ns:List Int) (vs:List Value),WellAll P h vs (ns.map WData.int)->IntsAre vs ns:=by
  intro ns
  induction ns with
  | nil =>
    intro vs w;rw[List.map_nil] at w;cases w;exact .nil
  | cons n ns ih =>
    intro vs w;rw[Bd] at w;cases w with
    | cons a b =>
      cases a;exact .cons _ _ (ih _ b)
theorem zwy {l:OpenLaw}{n:Nat} (hn:l.most=some n) {P:Params}{h:Heap}{args:List WData}{vals:List Value}
    (hpre:l.row.toRowW.claim.pre args=true) (hwl:WellAll P h vals args) :
    ∃a vs ns,vals=[Value.ref a]/\args=[WData.list (ns.map WData.int)]/\h.get? a=some { cls:=.type "list",data:=.seq vs.toArray }/\IntsAre vs ns/\ns.length<=n:=by
  have hsh:WShape.hasAll [] args [.list .int]=true:=(pre_splitW hpre).1;have hc:l.pre.holds [] { args:=args }=true:=(pre_splitW hpre).2;obtain ⟨d,r,rfl,h1,h2⟩:=hasAllW_cons hsh;obtain rfl:=hasAllW_nil h2;obtain ⟨xs,rfl,h3⟩:=hasW_list h1;obtain ⟨ns,rfl⟩:=items_int h3;have hlen:ns.length<=n:=by
    unfold OpenLaw.pre at hc;have h4:(WTm.not (.lt (.lit (.int (n:Int))) (.len (.arg 0)))).holds [] { args:=[.list (ns.map .int)] }=true:=by
      have h4:=(holds_andW hc).1;rw[hn] at h4;exact h4
    have h5:=condW_of h4 (w_not (w_lt w_lit (w_len_list (w_arg rfl))));rw[Ae] at h5;refine Nat.le_of_not_lt λq=>?_;have q' : (n:Int)<((ns.length:Nat):Int):=by omega
    first
      |(rw[Af q'] at h5;exact absurd h5 #v[0,9])
      |(simp at h5;omega)
  cases hwl with
  | cons w1 w2 =>
    cases w2;cases w1 with
    |list ho hall=>exact⟨_,_,ns,rfl,rfl,ho,zhn ns _ hall,hlen⟩
theorem ztz (l:OpenLaw)(args:List WData):l.row.toRowW.claim.post args (.bool true) args=true :=
 postW_of (r:=l.row.toRowW) (X:=(true == true))
  (show WShape.has [] (.bool true) .bool=true by first|rfl|decide|simp [WShape.has,WShape.arms,WShape.armsAll])
  (show (WTm.eq .res (.lit (.bool true))).value [] { args:=args,res:=some (.bool true),after:=args }=some (.bool (true == true)) from w_eq_bool (w_res rfl) w_lit) rfl
theorem attach_call {l:OpenLaw}{n:Nat}{q:Program}{loose:List Str}{XP:(Str->Option Value)->Heap->Prop}{YP:World->Heap->Prop}{d:DefRec}
  (hn:l.most=some n) (hdf:d.params.defaults=[])
  (call:∀(w:World) (s₀ s₁:Shared) (mg mb:Str->Option Value) (fa:Addr) (o:Obj) (pm cd doc:Value) (a:Addr) (vs:List Value) (ns:List Int),
   Ground q loose [] XP w s₀ mg mb s₁.heap->YP w s₁.heap ->
   s₁.heap.get? fa=some o->o.data=.func (docDef d.name d.params d.body d.scope pm cd doc)->s₁.heap.CodeRec cd d.name->mg d.name=some (.ref fa) ->
   s₁.heap.get? a=some { cls:=.type "list",data:=.seq vs.toArray }->IntsAre vs ns->ns.length<=n->s₁.gens=#[] ->
   codeAny (model l.prog w) callerA (.call (.ref fa) ⟨[.ref a],[]⟩) (λr s'=>r=.ok (.ret (.bool true))/\OldK s₁.heap s'.heap/\s'.os=s₁.os/\AllBare s'.gens) s₁) :
  WalkO q loose XP YP l.row.toRowW d [] (λf vs=>PySem.call f vs):=by
 intro w s₀ s₁ mg mb G Y fa o pm cd doc dV kV ho hd hcd hD hmg hg args vals as hpre hlay hrd hwl hlo;obtain rfl:dV=.none:=Dflts.none hD hdf;obtain rfl:kV=.none:=Dflts.noKw hD;obtain⟨a,vs,ns,rfl,rfl,hobj,hints,hlen⟩:=zwy hn hpre hwl;refine enter_call (codeAny_mono (call w s₀ s₁ mg mb fa o pm cd doc a vs ns G Y ho (fd_plain hd) hcd hmg hobj hints hlen hg) λr s' hq=>?_);obtain⟨rfl,h2,h3,h4⟩:=hq;exact⟨.inl ⟨.bool true,.bool true,[],rfl,λ_=>rfl,.bool true,ztz l _,λ_=>⟨List.Pairwise.nil,λ_ hm=>(nomatch hm)⟩⟩,h2,h3,h4⟩
section
variable {prog:Program}{w:World}{A:Around}{E:Value->Shared->Prop}{s:Shared}{K:Frag}
end
end Att
namespace L2
open PySem PySem.Spec PyProof.Rows
theorem znf:∀{vs:List Value}{ns:List Int},IntsAre vs ns->Vals (ns.map V.int) vs
 |_,_,.nil=>.nil
 |_,_,.cons n t h=>.cons ⟨t,rfl⟩ (znf h)
noncomputable def zfj (s:Stmt):Arguments:=match s with
 |.FunctionDef _ a _ _ _ _ _ _ _ _=>a
 |_=>{ posonlyargs:=[],args:=[],vararg:=none,kwonlyargs:=[],kw_defaults:=[],kwarg:=none,defaults:=[] }
noncomputable def zds (s:Stmt):List Stmt:=match s with
 |.FunctionDef _ _ b _ _ _ _ _ _ _=>b
 |_=>[]
noncomputable def zaq (s:Stmt):Scope:=match s with
 |.FunctionDef _ _ _ _ _ _ sc _ _ _=>sc
 |_=>{ kind:=.function,names:=[],isGenerator:=false,isCoroutine:=false }
noncomputable abbrev CX0:CXT:=λ_ _ _ _ _ _=>False
noncomputable abbrev E0:XK:=λ_ _ _=>False
theorem yco {X:Cx}:zx2 CX0 X E0:=λ_ _ _ _ _ _ _ h=>h.elim
structure Fun (K:PySem.W.Frag) (x qual:Str) (st:Stmt) (f:Addr) (fd:FuncData):Prop where
 ex:∃(oc:Value) (od:Option Addr) (kV doc pm:Value) (an:Option Addr) (cdv ct:Value) (osl:Array (Option Value)),
  fd=PySem.W.fnOf x qual (zfj st) (zds st) (zaq st) .none kV doc pm an cdv ct/\K.lookup f=some ⟨oc,od,.func fd,osl⟩/\PySem.W.codeIn K cdv qual=true
 kp:PySem.W.keepIn K (.ref f)=true
section
variable {P:Program}{w:World}{K:PySem.W.Frag}{mg:Str->Option Value}{base:Heap}
theorem Fun.binds {x qual:Str}{st:Stmt}{f:Addr}{fd:FuncData}{ps:List Str} (F:Fun K x qual st f fd)
  (h:∀(kV doc pm:Value) (an:Option Addr) (cdv ct:Value) (us:List Value),us.length=ps.length->bindArgs (PySem.W.fnOf x qual (zfj st) (zds st) (zaq st) .none kV doc pm an cdv ct) ⟨us,[]⟩=pure (ps.zip us)):zn2 K fd ps []:=by
 obtain⟨oc,od,kV,doc,pm,an,cdv,ct,osl,rfl,lk,hcd⟩:=F.ex;exact .all (h kV doc pm an cdv ct)
theorem z3h {x qual:Str}{st:Stmt}{f:Addr}{oc:Value}{od an:Option Addr}{osl:Array (Option Value)}{kV doc pm cdv ct:Value} (l:K.lookup f=some ⟨oc,od,.func (PySem.W.fnOf x qual (zfj st) (zds st) (zaq st) .none kV doc pm an cdv ct),osl⟩)
  (c:PySem.W.codeIn K cdv qual=true) (k:PySem.W.keepIn K (.ref f)=true):Fun K x qual st f (PySem.W.fnOf x qual (zfj st) (zds st) (zaq st) .none kV doc pm an cdv ct):=⟨⟨oc,od,kV,doc,pm,an,cdv,ct,osl,rfl,l,c⟩,k⟩
end
section
variable {X:Cx}
end
theorem iteF {A B:Prop}(h:B):if false=true then A else B:=by
 rw[if_neg Ag];exact h
theorem iteT {A B:Prop}(h:A):if true=true then A else B:=by
 rw[if_pos rfl];exact h
noncomputable def Same (H H' : Hp):Prop:=∀b o,H b=some o->H' b=some o
theorem Same.refl (H:Hp):Same H H:=λ_ _ h=>h
theorem Same.trans {H H1 H2:Hp}(a:Same H H1)(b:Same H1 H2):Same H H2:=λc o h=>b c o (a c o h)
theorem Same.free {H H' : Hp} (e:Same H H') {l:Addr} (h:H' l=Option.none):H l=Option.none:=by
  cases q:H l with
  |none=>rfl
  | some o =>
    rw[e l o q] at h;cases h
theorem Same.seq {K:PySem.W.Frag}{H H' : Hp}{a:Addr}{xs:List V}(e:Same H H')(h:SqL K H a xs):SqL K H' a xs:=by
 rcases h with (h|⟨o,h⟩)|h
 ·exact .inl (.inl (e _ _ h))
 ·exact .inl (.inr ⟨o,e _ _ h⟩)
 ·exact .inr h
noncomputable def capSt (cap:List (Option Nat)) (σ:St):St:=cap.map λo=>match o with
 |some i=>(σ[i]?).getD none
 |none=>none
noncomputable def zie (cap:List (Option Nat)) (Nc N:List Str) (scope:Scope):Bool :=
 decide (cap.length=Nc.length) && (cap.zip Nc).all λp=>match p.1 with
  |some i=>decide (N[i]?=some p.2) && decide (scope.names.lookup p.2=some NameKind.free)
  |none=>true
theorem zxy {cap Nc N scope}(h:zie cap Nc N scope=true):cap.length=Nc.length:=by
 unfold zie at h;rw[Ac] at h;exact Al h.1
theorem zw7 {cap:List (Option Nat)}{Nc N:List Str}{scope:Scope}(h:zie cap Nc N scope=true){j i:Nat}{x:Str}(h1:cap[j]?=some (some i))(h2:Nc[j]?=some x):N[i]?=some x/\scope.names.lookup x=some .free:=by
 unfold zie at h;rw[Ac] at h;have hm:(some i,x)∈cap.zip Nc:=by
  refine Av (i:=j) ?_;rw[List.getElem?_zip_eq_some];exact⟨h1,h2⟩
 have q:=Bm.mp h.2 _ hm;simp only [Ac,Bp] at q;exact q
noncomputable def zhb (scope:Scope) (out:Scope):Bool:=scope.names.all λp=>!(p.2 == NameKind.free) || decide (out.names.lookup p.1=some .cell) || decide (out.names.lookup p.1=some .free)
theorem zfl {env:Env}:∀(names:List (Str × NameKind)) (acc:List (Str × Addr)),(∀x,(x,NameKind.free)∈names->∃c,env.cells.lookup x=some c)->(∀x c,acc.lookup x=some c->env.cells.lookup x=some c) ->
    ∃cl,(forIn names acc fun (p:Str × NameKind) cs=>if p.2 == NameKind.free then do let c <- cellOf env p.1;pure (ForInStep.yield ((p.1,c)::cs)) else pure (ForInStep.yield cs):Sem (List (Str × Addr)))=pure cl /\
      (∀x c,cl.lookup x=some c->env.cells.lookup x=some c)/\(∀x,(x,NameKind.free)∈names\/(∃c,acc.lookup x=some c)->∃c,cl.lookup x=some c)
  | [],acc,_,h2=>⟨acc,by rw [List.forIn_nil],h2,fun x hx=>by
      rcases hx with hx|hx
      · cases hx
      · exact hx⟩
  | (n,k)::r,acc,h1,h2=>by
    rw[List.forIn_cons];by_cases hk:(k == NameKind.free)=true
    · have ek : k = .free := by simpa using hk
      subst ek;obtain ⟨c,hc⟩:=h1 n Au;have h2' : ∀x d,((n,c)::acc).lookup x=some d->env.cells.lookup x=some d:=fun x d hx=>by
        rw[Bl] at hx;cases e:x == n with
        | true => rw [e] at hx; obtain rfl := sI hx; have : x = n := by simpa using e
                  rw[this];exact hc
        |false=>rw[e] at hx;exact h2 x d hx
      obtain⟨cl,e,a,b⟩:=zfl r ((n,c)::acc) (λx hx=>h1 x (Aq _ hx)) h2';refine⟨cl,?_,a,λx hx=>b x ?_⟩
      · rw [<- e]
        have hcell:cellOf env n=pure c:=by unfold cellOf;rw[hc]
        simp only [beq_self_eq_true,Fq,hcell]
        rfl
      · have gen:∀y d,acc.lookup y=some d->∃d',((n,c)::acc).lookup y=some d':=fun y d hy=>by
          rw[Bl];cases e:y == n with
          |true=>exact⟨_,rfl⟩
          |false=>exact⟨d,hy⟩
        rcases hx with hx|⟨d,hx⟩
        · rcases At.mp hx with hx | hx
          · injection hx with hx _
            subst hx;exact .inr ⟨c,by rw[Bl];simp⟩
          · exact .inl hx
        · exact .inr (gen x d hx)
    · have hk' : (k == NameKind.free) = false := by simpa using hk
      obtain⟨cl,e,a,b⟩:=zfl r acc (λx hx=>h1 x (Aq _ hx)) h2;refine⟨cl,?_,a,λx hx=>b x ?_⟩
      · rw [<- e]
        simp only [hk',Et,if_false]
        rfl
      · rcases hx with hx | hx
        · rcases At.mp hx with hx | hx
          · injection hx with _ hx
            subst hx;simp at hk'
          · exact .inl hx
        · exact .inr hx
theorem zd1 {env:Env}{scope:Scope} (h:∀x,(x,NameKind.free)∈scope.names->∃c,env.cells.lookup x=some c) :
  ∃cl,closureFor scope env=pure cl/\(∀x c,cl.lookup x=some c->env.cells.lookup x=some c)/\(∀x,(x,NameKind.free)∈scope.names->∃c,cl.lookup x=some c):=by
 nofun;obtain⟨cl,e,a,b⟩:=zfl (env:=env) scope.names [] h (λx c hx=>by simp at hx);ac_rfl;refine⟨cl,?_,a,λx hx=>b x (.inl hx)⟩;rw[closureFor];have e':=e;simp only [bind_assoc,Gh] at e' ⊢;exact congrArg (λm=>m >>= λr=>pure r) e |>.trans (by rw[Gh])
noncomputable def zbk (X:Cx) (Nc:List Str) (scope:Scope) (cl:List (Str × Addr)) (C:Addr) (s3:Shared) (H3:Hp) (fp:List Addr):Cx where
 prog:=X.prog
 w:=X.w
 K:=X.K
 mg:=X.mg
 base:=X.base
 A:=X.A
 N:=Nc
 s₀:=s3
 H₀:=H3
 env:=compEnvC scope cl C X.env
 outer:=X.stack
 stack:=X.stack
 ex:=fp
 fn:=λx=>decide (scope.names.lookup x=some NameKind.cell)
 calm:=X.calm
 pn:=[]
 xe:=λ_ _=>False
noncomputable def z26:TT:=λσ H Q=>Q true H
noncomputable def PTs (X:Cx) (ifs:List Expr) (t:TT):Prop :=
  ∀(pins:List (Addr × Obj)) (s:Shared) (σ:St) (H:Hp) (Q:Bool->Hp->Prop),Inv X pins σ H s->t σ H Q ->
    wpAny #v[3,7] X.A (forIn ifs true λc r=>if r=true then do let ok <- isTrue c X.env (eval c X.env);pure (ForInStep.yield ok) else pure (ForInStep.yield r)) (TP X pins σ Q) X.xe s
theorem z4t {X:Cx}:PTs X [] z26:=λpins s σ H Q I h=>by
 rw[List.forIn_nil];exact Ao ⟨H,I,h⟩
theorem z43 {X:Cx}{c:Expr}{t:TT}(h:PT X c t):PTs X [c] t:=λpins s σ H Q I q=>by
 rw[List.forIn_cons];simp only [Fq];refine Ab (Ab (thn (h pins s σ H Q I q) λb s1 q1=>?_));refine Ao ?_;dsimp only;rw[List.forIn_nil];exact Ao q1
section
variable {X:Cx}
theorem zbg {env:Env}:∀{names:List (Str × NameKind)}{x:Str},names.lookup x=some .free ->
    (names.map λ(n,k)=>if (k == NameKind.free && env.scope.kind == .function && env.kindOf n == some .cell) then (n,NameKind.cell) else (n,k)).lookup x=some .cell \/
    (names.map λ(n,k)=>if (k == NameKind.free && env.scope.kind == .function && env.kindOf n == some .cell) then (n,NameKind.cell) else (n,k)).lookup x=some .free
  |[],_,h=>by simp at h
  | (n,k)::r,x,h=>by
    have ih:=@zbg env r x;rw[Bd];rw[Bl] at h;cases hx:x == n with
    | true =>
      rw[hx] at h;obtain rfl:=sI h;dsimp only;split
      · rw[Bl,hx];exact .inl rfl
      · rw[Bl,hx];exact .inr rfl
    | false =>
      rw[hx] at h;dsimp only;split
      · rw[Bl,hx];exact ih h
      · rw[Bl,hx];exact ih h
theorem zb1 {env:Env}:∀{names:List (Str × NameKind)}{x:Str}{k:NameKind},(k=.cell\/k=.free) ->
    (names.map λ(n,k)=>if (k == NameKind.free && env.scope.kind == .function && env.kindOf n == some .cell) then (n,NameKind.cell) else (n,k)).lookup x=some k->names.lookup x=some .free\/names.lookup x=some .cell
  |[],_,_,_,h=>by simp at h
  | (n,k0)::r,x,k,hk,h=>by
    rw[Bd] at h;rw[Bl];cases hx:x == n with
    | true =>
      dsimp only at h;split at h
      · rename_i hc
        rw[Bl,hx] at h;simp only [Ac,Gn] at hc;rw[hc.1.1];exact .inl rfl
      · rw [Bl, hx] at h
        obtain rfl:=sI h;rcases hk with rfl|rfl
        · exact .inr rfl
        · exact .inl rfl
    | false =>
      dsimp only at h;split at h
      · rw[Bl,hx] at h;exact zb1 hk h
      · rw[Bl,hx] at h;exact zb1 hk h
theorem zeb {scope out:Scope}(h:zhb scope out=true){x:Str}(hx:(x,NameKind.free)∈scope.names):out.names.lookup x=some .cell\/out.names.lookup x=some .free:=by
 have q:=Bm.mp h _ hx;simpa using q
theorem capSt_get {cap:List (Option Nat)}{σ:St}{j:Nat}{v:V} (h:(capSt cap σ)[j]?=some (some v)):∃i,cap[j]?=some (some i)/\σ[i]?=some (some v):=by
  unfold capSt at h;rw[An] at h;cases e:cap[j]? with
  |none=>rw[e] at h;cases h
  | some o =>
    rw[e] at h;cases o with
    |none=>cases h
    | some i =>
      refine⟨i,rfl,?_⟩;have h' : (σ[i]?).getD none=some v:=sI h;cases e2:σ[i]? with
      |none=>rw[e2] at h';cases h'
      |some z=>rw[e2] at h';exact congrArg some h'
theorem zbp {env:Env}:∀{names:List (Str × NameKind)}{x:Str}{k:NameKind},k≠.free->names.lookup x=some k ->
    (names.map λ(n,k)=>if (k == NameKind.free && env.scope.kind == .function && env.kindOf n == some .cell) then (n,NameKind.cell) else (n,k)).lookup x=some k
  |[],_,_,_,h=>by simp at h
  | (n,k0)::r,x,k,hk,h=>by
    have ih:=@zbp env r x k hk;rw[Bd];rw[Bl] at h;cases hx:x == n with
    | true =>
      rw[hx] at h;obtain rfl:=sI h;have:(k0 == NameKind.free)=false:=by cases k0<;>first|rfl|exact absurd rfl hk
      dsimp only;rw[this,Ek,Ek,if_neg Ag,Bl,hx]
    | false =>
      rw[hx] at h;dsimp only;split
      · rw[Bl,hx];exact ih h
      · rw[Bl,hx];exact ih h
noncomputable def zf2 (scope:Scope):Bool:=scope.names.all λp=>!(p.2 == NameKind.cell) || decide (scope.names.lookup p.1=some .cell)
theorem zsn {scope:Scope}(h:zf2 scope=true){x:Str}(hx:(x,NameKind.cell)∈scope.names):scope.names.lookup x=some .cell:=by
 have q:=Bm.mp h _ hx;simpa using q
theorem zcw:∀(names:List (Str × NameKind)) (n:Nat) (acc:List (Str × Addr)),cellsFrom n names acc=cellsFrom n names []++acc
  |[],_,_=>rfl
  | (x,k)::r,n,acc=>by
    unfold cellsFrom;split
    · rw[zcw r (n+1) ((x,n)::acc),zcw r (n+1) [(x,n)],Bc];rfl
    · exact zcw r n acc
theorem zhy:∀(names:List (Str × NameKind)) (n:Nat) {x:Str}{c:Addr},(x,c)∈cellsFrom n names []->(x,NameKind.cell)∈names
  |[],_,_,_,h=>by cases h
  | (y,k)::r,n,x,c,h=>by
    unfold cellsFrom at h;split at h
    · rename_i hk
      rw[zcw] at h;rcases Bf.mp h with h|h
      · exact Aq _ (zhy r _ h)
      · have e := Ap.mp h
        cases e;have:k=NameKind.cell:=by simpa using hk
        rw[this];exact Au
    · exact Aq _ (zhy r _ h)
theorem cells_of {names:List (Str × NameKind)}{n:Nat}{cl:List (Str × Addr)}{x:Str}{c:Addr}(h:(cellsFrom n names cl).lookup x=some c):(cellsFrom n names []).lookup x=some c\/((cellsFrom n names []).lookup x=none/\cl.lookup x=some c):=by
 rw[zcw,List.lookup_append] at h;cases e:(cellsFrom n names []).lookup x with
 |some d=>rw[e] at h;exact .inl h
 |none=>rw[e] at h;exact .inr ⟨rfl,h⟩
theorem zir {scope:Scope} (h:zf2 scope=true) {n:Nat}{cl:List (Str × Addr)}{x:Str}{c:Addr} (hx:scope.names.lookup x=some .free) (hc:cl.lookup x=some c):(cellsFrom n scope.names cl).lookup x=some c:=by
  rw[zcw,List.lookup_append];cases e:(cellsFrom n scope.names []).lookup x with
  |none=>exact hc
  | some d =>
    have:=zsn h (zhy _ _ (Bu e));rw[hx] at this;cases this
theorem z03 {pins:List (Addr × Obj)}{σ:St}{H3:Hp}{s3:Shared}{Nc:List Str}{scope:Scope}{cl:List (Str × Addr)}{cap:List (Option Nat)}{fp:List Addr}{h4:Heap}{tk:Nat}
  (I:Inv X pins σ H3 s3) (hk:scope.kind=.function) (hcap:zie cap Nc X.N scope=true) (hfr:zhb scope X.env.scope=true) (hnc:zf2 scope=true)
  (c1:∀x c,cl.lookup x=some c->X.env.cells.lookup x=some c) (c2:∀x,(x,NameKind.free)∈scope.names->∃c,cl.lookup x=some c)
  (hf:∀b∈fp,FpOk X pins H3 b) (ho:∀b∈fp,b<s3.heap.objs.size)
  (hns:h4.Ns s3.heap.objs.size (λ_=>none)) (hkeep:∀b o,s3.heap.get? b=some o->h4.get? b=some o) (hcs:CellsOk h4 (s3.heap.objs.size+1) (cellsFrom (s3.heap.objs.size+1) scope.names [])) :
  Inv (zbk X Nc scope (cellsFrom (s3.heap.objs.size+1) scope.names cl) s3.heap.objs.size s3 H3 fp) [] (capSt cap σ) H3 { s3 with heap:=h4,toks:=tk }:=by
 have stkne:∀b∈fp,b ∉ frs X.stack:=λb hb z=>by
  obtain⟨_,g1,g2,_⟩:=hf b hb;rcases At.mp (I.stkSub b z) with e|e
  ·exact g1 e
  ·exact g2 e
 have own:∀x c,(cellsFrom (s3.heap.objs.size+1) scope.names []).lookup x=some c->h4.IsCell c none/\s3.heap.objs.size+1<=c:=λx c h=>hcs.empty x c (Bu h);have old:∀x c,cl.lookup x=some c->c<s3.heap.objs.size:=λx c h=>by
  obtain⟨v,q⟩:=I.cell x c (c1 x c h);exact q.lt
 refine⟨⟨I.mod,hk,I.ok.glob,I.ok.blt,Ad _,λx y c h1 h2=>?_,λx hx=>?_,λx c h h'=>?_,I.ok.hd,I.ok.frames,.inl rfl,λb hb=>⟨Bi (ho b hb),λx c h=>?_⟩,
  λb o e=>I.bs b o e,Ct I.ok.bsz I.sz,λb o e hb=>?_,stkne,I.stack,I.stkFree⟩,rfl,I.bare,Un.kept hkeep,⟨_,hns,λj x v h1 h2 h3=>?_⟩,λx c h=>?_,I.hok.fresh (Ad _),λx c h=>?_,λp hp=>absurd (show p∈([]:List (Addr × Obj)) from hp) (by simp),I.hok.kept hkeep,?_⟩
 ·rcases cells_of h1 with z1|⟨_,z1⟩
  ·rcases cells_of h2 with z2|⟨_,z2⟩
   ·exact name_of_addr hcs.apart (Bu z1) (Bu z2)
   ·have a:=(own x c z1).2;have b:=old y c z2;exact absurd (Aw b (Fs a)) (Cm _)
  ·rcases cells_of h2 with z2|⟨_,z2⟩
   ·have a:=(own y c z2).2;have b:=old x c z1;exact absurd (Aw b (Fs a)) (Cm _)
   ·exact I.ok.inj x y c (c1 x c z1) (c1 y c z2)
 ·have hx' : scope.names.lookup x=some .free\/scope.names.lookup x=some .cell:=by
   rcases hx with hx|hx
   ·exact zb1 (env:=X.env) (.inl rfl) hx
   ·exact zb1 (env:=X.env) (.inr rfl) hx
  rcases hx' with hx'|hx'
  ·obtain⟨c,e⟩:=c2 x (Bu hx');exact⟨c,zir hnc hx' e⟩
  ·exact Hb.mp (PySem.W.cellsFrom_some scope.names _ cl (.inl hx'))
 ·have hx : scope.names.lookup x = some .cell:=Al h;rcases cells_of h' with z|⟨z,_⟩
  ·exact Fs (own x c z).2
  ·obtain⟨d,e⟩:=cell_has (n:=s3.heap.objs.size + 1) hx;rw[z] at e;cases e
 ·rcases cells_of h with z|⟨_,z⟩
  ·have a:=(own x c z).2;have:=ho b hb;exact Ne.symm (Bi (Aw this (Fs a)))
  ·exact (hf b hb).2.2.2.2.1 x c (c1 x c z)
 ·rcases (hf b hb).2.2.2.1 with z|z
  ·exact I.ok.noex b o e z
  ·have h1 : b<X.base.objs.size:=As e;exact absurd (Aw h1 (Ct I.ok.bsz z)) (Cm _)
 ·obtain ⟨i, e1, e2⟩ := capSt_get h2;have hNx:Nc[j]?=some x:=h1;obtain ⟨n1,n2⟩:=zw7 hcap e1 hNx;have vis:Vis X.env.scope x:=by
   rcases zeb hfr (Bu n2) with z|z
   ·exact .inr (.inl z)
   ·exact .inr (.inr z)
  obtain⟨m,hn,hl⟩:=I.loc;obtain⟨u,r,l⟩:=hl i x v n1 e2 vis;refine⟨u,r,?_⟩;rcases l with⟨hk',_⟩|⟨_,c,e,z⟩
  ·have hk2 : X.env.scope.names.lookup x = some .local:=hk';rcases zeb hfr (Bu n2) with z|z
   ·rw[z] at hk2;cases hk2
   ·rw[z] at hk2;cases hk2
  ·obtain⟨c', e'⟩:=c2 x (Bu n2);have:=c1 x c' e';rw[e] at this;obtain rfl:=sI this;refine .inr ⟨zbg (env:=X.env) n2,c,zir hnc n2 e',?_⟩;obtain⟨o,ho',hd⟩:=z;exact⟨o,hkeep _ _ ho',hd⟩
 ·rcases cells_of h with z|⟨_,z⟩
  ·exact⟨none,(own x c z).1⟩
  ·obtain⟨v,o,ho', hd⟩:=I.cell x c (c1 x c z);exact⟨v,o,hkeep _ _ ho',hd⟩
 ·rcases cells_of h with z|⟨_,z⟩
  ·exact I.hok.fresh (Fs (own x c z).2)
  ·exact I.freeC x c (c1 x c z)
 ·show (capSt cap σ).length = Nc.length;rw[<-zxy hcap];unfold capSt;rw[Ae]
theorem zkr {M:Model}{A:Around}{E:Value->Shared->Prop}{s:Shared}{scope:Scope}{globals:Addr}{cl:List (Str × Addr)}{qual:Str}{outer:Env}{Q:Env->Shared->Prop}
  (hQ:∀h',h'.Ns s.heap.objs.size (λ_=>none)->(∀b o,s.heap.get? b=some o->h'.get? b=some o)->CellsOk h' (s.heap.objs.size+1) (cellsFrom (s.heap.objs.size+1) scope.names []) ->
   Q (newEnv scope s.heap.objs.size globals (cellsFrom (s.heap.objs.size+1) scope.names cl) qual none .none (some outer) builtinsNs) { s with heap:=h' }) :
  wpAny M A (newFunctionEnv scope globals cl [] qual none .none (some outer)) Q E s:=by
 simp only [newFunctionEnv,Option.isSome_some,Fq];refine Ab (wpAny_alloc ?_);refine Ab (wpAny_layCells _ (λname kind cells=>by cases hkc:kind == NameKind.cell<;>simp [hkc]) _ _ _ _ ?_);have ok:=cellsFrom_ok scope.names (s.heap.push { cls:=.type "dict",data:=.dict #[] }) (s.heap.objs.size+1) [] ⟨λ_ _ hm=>(nomatch hm),List.Pairwise.nil⟩ (by rw[Gd];exact Ad _);rw[Gd] at ok;rw[show ({ s with heap:=s.heap.push { cls:=.type "dict",data:=.dict #[] } }:Shared).heap.objs.size=s.heap.objs.size+1 from Gd ..];refine Ab ?_;rw[List.forIn_nil];exact Ao (Ao (hQ _ ((Heap.Ns.new s.heap (.type "dict")).keeps (pushCells_keeps _ _)) (λb o e=>pushCells_keeps _ _ b o (Ai _ e)) ok))
end
noncomputable abbrev TM:=St->Hp->(St->Hp->Prop)->Prop
noncomputable def PM (X:Cx) (em:Sem Unit) (t:TM):Prop :=
  ∀(pins:List (Addr × Obj)) (s:Shared) (σ:St) (H:Hp) (N:St->Hp->Prop),Inv X pins σ H s->t σ H N ->
    wpAny #v[3,7] X.A em (λ_ s'=>∃σ' H',Inv X pins σ' H' s'/\N σ' H') X.xe s
noncomputable def zs1 (e:Expr) (d:Nat) (tg iter:Expr) (ifs:List Expr) (em:Sem Unit) (it acc:Value) (env:Env):Sem Fin:=do
  standAt iter.pos
  match <- pyNext it with
  |none=>pure (.done .next)
  | some v =>
    letOwnedTupleGo tg it v
    assign tg env v
    let mut ok:=true
    for c in ifs do
      if ok then ok <- isTrue c env (eval c env)
    if ok then em
    again (.compLoop e d it acc env)
noncomputable def zpr (J:It) (g:TG) (tc:TT) (tm:TM) (σ:St) (H:Hp) (Q:St->Hp->Prop):Prop:=∃W:Nat->Nat->St->Hp->Prop,(∃m,W 0 m σ H) /\
 ∀i m σc Hc,W i m σc Hc->(J.stop i Hc/\Q σc Hc)\/(J.go i Hc/\∃N:St->Hp->Prop,(∀σ' H',N σ' H'->∃m',m' < m/\W (i+1) m' σ' H')/\∀x H',J.yld i Hc x H'->g x σc H' λσ2 H2 =>
  tc σ2 H2 λb H3=>if b=true then tm σ2 H3 N else N σ2 H3)
noncomputable def zvi (wi:TI) (cap:List (Option Nat)) (g:TG) (tc:TT) (tm:Addr->TM):TE:=λσ H Q=>wi σ H λJ H1=>∀acc,H1 acc=none->zpr J g tc (tm acc) (capSt cap σ) (upd H1 acc (.lst [])) λ_ Hc=>Q (.ref acc) Hc
section
variable {X:Cx}
theorem zub {elt:Expr}{gens:List Comprehension}{scope:Scope}{pos:Pos}{d:Nat}{tg iter:Expr}{ifs:List Expr}{em:Sem Unit}{acc:Value}{g:TG}{tc:TT}{tm:TM}{pins:List (Addr × Obj)}{σ:St}{H:Hp}{s:Shared}{it:Addr}{fp:List Addr}{tn:Nat->Heap->Prop}{J:It}{N0:St->Hp->Prop}{R:Result->Shared->Prop}
  (hx:∀v s,¬ X.xe v s) (hc:X.calm=true) (ht:compTurn #v[0,10] d (.ref it) acc X.env=zs1 #v[0,10] d tg iter ifs em (.ref it) acc X.env)
  (hg:PG X tg g) (hs:PTs X ifs tc) (hm:PM X em tm) (I:Inv X pins σ H s) (T:Turn X.prog X.w X.K tg J fp it tn) (st:tn 0 s.heap) (f:∀b∈fp,FpOk X pins H b)
  (hW:zpr J g tc tm σ H N0)
  (hR:∀σ' H' s',Inv X pins σ' H' s'->N0 σ' H'->R (.ok .next) s'):codeAny #v[3,7] X.A (.compLoop #v[0,10] d (.ref it) acc X.env) R s:=by
 have stat:∀{H' : Hp},(∀b∈fp,H' b=none)->∀b∈fp,FpOk X pins H' b:=λhn b hb=>⟨hn b hb,(f b hb).2⟩;nofun;obtain⟨W,⟨m0,w0⟩,turn⟩:=hW;ac_rfl;refine codeAny_loop rfl (λn s'=>∃i σ' H',Inv X pins σ' H' s'/\tn i s'.heap/\(∀b∈fp,H' b=none)/\W i n σ' H') ?_ m0 ⟨0,σ,H,I,st,λb hb=>(f b hb).1,w0⟩;rintro n s3 ⟨i,σ3,H3,I3,st3,fr3,w3⟩;show wpAny _ X.A ((compTurn #v[0,10] d (.ref it) acc X.env).onRaise (λx=>do noteFrame x X.env;theTreesLotGoes x)) _ _ s3;refine wpAny_noted ?_;rw[ht];unfold zs1;refine Ab (Hg (Ab ?_));rcases turn i n σ3 H3 w3 with⟨stop,qn⟩|⟨go,N,hN,step⟩
 ·refine Ev (T.done X rfl rfl rfl hc i pins s3 σ3 H3 (λ_ _=>False) I3 (stat fr3) st3 stop) (λr s4 ⟨hr,I4⟩ => ?_) λ_ _ z=>z.elim;subst hr;exact Ao (hR σ3 H3 s4 I4 qn)
 ·refine Ev (T.item X rfl rfl rfl hc i pins s3 σ3 H3 (fun _ _ => False) I3 (stat fr3) st3 go) (fun r s4 ⟨u, hr, h4⟩ => ?_) fun _ _ z => z.elim;subst hr;refine Ab (Ev h4 (fun _ s5 ⟨x,H5,I5,r5,y5,st5,fr5⟩=>?_) fun _ _ z=>z.elim);have I5':=I5.pinned (stat fr5) (T.obj _ _ st5);refine Ab (Ev (hg _ s5 σ3 H5 x u _ I5' r5 (step x H5 y5)) (fun _ s6 ⟨σ6,H6,I6,q6⟩=>?_) fun v s z=>(hx v s z).elim);refine Ab (Ev (hs _ s6 σ6 H6 _ I6 q6) (fun ok s7 ⟨H7,I7,q7⟩=>?_) fun v s z=>(hx v s z).elim);have again:∀{sx:Shared}{σx:St}{Hx:Hp},Inv X (pins++zky fp s5.heap) σx Hx sx->N σx Hx->∃m,m < n/\∃i σ' H',Inv X pins σ' H' sx/\tn i sx.heap/\(∀b∈fp,H' b=none)/\W i m σ' H':=fun {sx σx Hx} Ix nx=>by
   obtain⟨m',hm,wx⟩:=hN σx Hx nx;refine⟨m',hm,i+1,σx,Hx,Ix.unpinned,T.keep _ _ _ st5 λb hb o e=>(Ix.pin (b,o) (Bj _ (Bj _ (zd6 hb e)))).1,λb hb=>?_,wx⟩;obtain⟨o,e,d⟩:=T.obj _ _ st5 b hb;exact (Ix.pin (b,o) (Bj _ (Bj _ (zd6 hb e)))).2.1
  cases ok with
  |false=>exact Ao ⟨rfl,again I7 q7⟩
  |true=>exact Ab (Ev (hm _ s7 σ6 H7 N I7 q7) (λ_ s8 ⟨σ8,H8,I8,n8⟩=>Ao ⟨rfl,again I8 n8⟩) λv s z=>(hx v s z).elim)
noncomputable def zzs (acc:Addr) (te:TE):TM:=λσ H N=>te σ H λy H4=>∃ys,H4 acc=some (.lst ys)/\ys.length<sizeLine/\N σ (upd H4 acc (.lst (ys++[y])))
noncomputable def z5z (elt:Expr) (acc:Value) (env:Env):Sem Unit:=do let _ <- call (.builtin "list.append") [acc,<-eval elt env]
theorem yaz {elt:Expr}{te:TE}{acc:Addr}(he:PE X elt te):PM X (z5z elt (.ref acc) X.env) (zzs acc te):=by
 intro pins s σ H N I h;unfold z5z;refine Ab (thn (he pins s σ H _ I h) λyv s10 ⟨y,H10,I10,r10,ys,ha,hz,q10⟩=>?_);refine Ab (thn (zlb _ s10 σ H10 (.ref acc) [y] _ [yv] (λ_ H'=>N σ H') I10 rfl (.cons r10 .nil) ⟨_,ys,y,rfl,rfl,ha,hz,q10⟩) λ_ s11 ⟨_,H11,I11,_,q11⟩=>?_);exact Ao ⟨σ,H11,I11,q11⟩
end
theorem HOk.but {P:Program}{w:World}{H:Hp}{h h' : Heap}{a:Addr}(x:HOk P w H h)(hn:H a=none)(hs:Heap.SameBut a h h'):HOk P w H h':=λb ob e=>by
 refine (x b ob e).stay (λc w' hc q=>(hs.2 c ?_).trans q) (λ_ q=>q) λ_ _ q=>q;rintro rfl;rcases hc with rfl|hc
 ·rw[hn] at e;cases e
 ·rw[hn] at hc;cases hc
section
variable {X:Cx}
theorem zi9 {elt tg iter:Expr}{ifs:List Expr}{gs:List Comprehension}{scope:Scope}{pos:Pos}{cl:List (Str × Addr)}{Nc:List Str}{cap:List (Option Nat)}{g:TG}{tc:TT}{em:Value->Env->Sem Unit}{tm:Addr->TM}{pins:List (Addr × Obj)}{σ:St}{H2:Hp}{s2:Shared}{it:Addr}{fp:List Addr}{tn:Nat->Heap->Prop}{J:It}{Q:VK}{RR:Value->Addr->Result->Shared->Prop}{E:Value->Shared->Prop}
  (hc:X.calm=true) (hk:scope.kind=.function) (hcap:zie cap Nc X.N scope=true) (hfr:zhb scope X.env.scope=true) (hnc:zf2 scope=true)
  (hturn:∀it acc env,compTurn #v[5,7] 0 it acc env=zs1 #v[5,7] 0 tg iter ifs (em acc env) it acc env)
  (hg:∀cl C s3 H3 fp,PG (zbk X Nc scope cl C s3 H3 fp) tg g) (ht:∀cl C s3 H3 fp,PTs (zbk X Nc scope cl C s3 H3 fp) ifs tc) (hm:∀cl C s3 H3 fp acc,PM (zbk X Nc scope cl C s3 H3 fp) (em (.ref acc) (zbk X Nc scope cl C s3 H3 fp).env) (tm acc))
  (c1:∀x c,cl.lookup x=some c->X.env.cells.lookup x=some c) (c2:∀x,(x,NameKind.free)∈scope.names->∃c,cl.lookup x=some c)
  (I2:Inv X pins σ H2 s2) (T:Turn X.prog X.w X.K tg J fp it tn) (st2:tn 0 s2.heap) (f2:∀b∈fp,FpOk X pins H2 b)
  (hW:∀acc,H2 acc=none->zpr J g tc (tm acc) (capSt cap σ) (upd H2 acc (.lst [])) λ_ Hc=>Q (.ref acc) Hc)
  (hR:∀acc C s' H',(∃m,s'.heap.Ns C m)->(∀h',Heap.SameBut C s'.heap h'->Inv X pins σ H' { s' with heap:=h' })->FpOk X pins H' C->Q (.ref acc) H'->RR (.ref acc) C (.ok .next) s') :
  wpAny #v[3,7] X.A (newList []) (λacc s₃=>wpAny #v[3,7] X.A (newFunctionEnv scope X.env.globals cl [] X.env.qual none .none (some X.env)) (λcenv s₄ =>
   codeAny #v[3,7] X.A (.compStart #v[5,7] 0 (.ref it) acc { cenv with scope:=relabel scope X.env }) (RR acc cenv.locals) s₄) E s₃) E s2:=by
 refine Ce (zkr λh₁ hns₁ keep4 hcs=>?_);dsimp only at hns₁ keep4 hcs ⊢;have hacc:H2 s2.heap.objs.size=none:=I2.hok.fresh (Ad _);have I3:Inv X pins σ (upd H2 s2.heap.objs.size (.lst [])) { s2 with heap:=s2.heap.push { cls:=.type "list",dict:=none,data:=.seq ([]:List Value).toArray },toks:=s2.toks } :=
  I2.laid (t':=s2.toks) (λb u e=>Ai _ e) (Ad _) ⟨by simp,[],0,.nil,Bb _ rfl⟩
 have hW':=hW s2.heap.objs.size hacc;generalize hH:s2.heap.push { cls:=.type "list",dict:=none,data:=.seq ([]:List Value).toArray }=hp at hns₁ keep4 hcs I3 ⊢;have f3:∀b∈fp,FpOk X pins (upd H2 s2.heap.objs.size (.lst [])) b:=λb hb=>by
  obtain⟨o,ho,_⟩:=T.obj _ _ st2 b hb;exact⟨by rw[upd_ne (Bi (As ho))];exact (f2 b hb).1,(f2 b hb).2⟩
 have up:∀b o,s2.heap.get? b=some o->hp.get? b=some o:=λb o e=>hH ▸ Ai _ e;have I4:=z03 (Nc:=Nc) (cap:=cap) (fp:=fp) (h4:=h₁) (tk:=s2.toks) I3 hk hcap hfr hnc c1 c2 f3 (λb hb=>by
  obtain⟨o,ho,_⟩:=T.obj _ _ st2 b hb;exact As (up b o ho)) hns₁ keep4 hcs
 have st4:tn 0 h₁:=T.keep _ _ _ st2 λb _ o e=>keep4 b o (up b o e);have loop:codeAny #v[3,7] X.A (.compLoop #v[5,7] 0 (.ref it) (.ref s2.heap.objs.size) (compEnvC scope (cellsFrom (hp.objs.size+1) scope.names cl) hp.objs.size X.env)) (RR (.ref s2.heap.objs.size) hp.objs.size) { s2 with heap:=h₁,toks:=s2.toks }:=by
  refine zub (X:=zbk X Nc scope (cellsFrom (hp.objs.size+1) scope.names cl) hp.objs.size { s2 with heap:=hp,toks:=s2.toks } (upd H2 s2.heap.objs.size (.lst [])) fp) (λ_ _ z=>z) hc (hturn _ _ _) (hg _ _ _ _ _) (ht _ _ _ _ _) (hm _ _ _ _ _ _) I4 T st4
   (λb hb=>⟨(f3 b hb).1,(I4.ok.exf b hb).1,I4.ok.exfs b hb,.inl hb,(I4.ok.exf b hb).2,λp hp'=>absurd (show p∈([]:List (Addr × Obj)) from hp') (by simp)⟩) hW' λσ5 H5 s6 I6 qn=>?_
  obtain⟨m6,hm6,_⟩:=I6.loc;have fC:H5 hp.objs.size=none:=I6.free;refine hR _ _ _ H5 ⟨m6,hm6⟩ (λh' hsb=>?_) (I3.fpOk (Ad _) fC) qn;refine I3.call' (s':={ s6 with heap:=h' }) (ch:=fp) I6.os ?_ (I6.hok.but fC hsb) I6.bare λb hb=>⟨(f3 b hb).2.2.2.1,(f3 b hb).2.1,(f3 b hb).2.2.2.2.1,(f3 b hb).2.2.2.2.2⟩;have U:Un (frs X.stack) fp (upd H2 s2.heap.objs.size (.lst [])) H5 hp s6.heap:=I6.base;have nb:∀b o,hp.get? b=some o->b≠hp.objs.size:=λb o e=>Bi (As e);exact⟨λb o e n hb hx=>(hsb.2 b (nb b o e)).trans (U.keep b o e n hb hx),λb o e n hb hx=>let ⟨sl,z⟩:=U.slot b o e n hb hx;⟨sl,(hsb.2 b (nb b o e)).trans z⟩,U.free,λb o e hx=>let ⟨o',z⟩:=U.there b o e hx;⟨o',(hsb.2 b (nb b o e)).trans z⟩,U.tups,U.frzs,U.tbls⟩
 exact codeAny_compStart_list loop (T.self _ 0 _ _ _ st4 loop)
theorem z4x {elt tg iter:Expr}{ifs:List Expr}{gs:List Comprehension}{scope:Scope}{pos:Pos}{Nc:List Str}{cap:List (Option Nat)}{wi:TI}{g:TG}{tc:TT}{em:Value->Env->Sem Unit}{tm:Addr->TM} (hi:PI X tg iter wi)
  (hg:∀cl C s3 H3 fp,PG (zbk X Nc scope cl C s3 H3 fp) tg g) (ht:∀cl C s3 H3 fp,PTs (zbk X Nc scope cl C s3 H3 fp) ifs tc) (hm:∀cl C s3 H3 fp acc,PM (zbk X Nc scope cl C s3 H3 fp) (em (.ref acc) (zbk X Nc scope cl C s3 H3 fp).env) (tm acc))
  (hturn:∀it acc env,compTurn #v[5,7] 0 it acc env=zs1 #v[5,7] 0 tg iter ifs (em acc env) it acc env)
  (hc:X.calm=true:=by rfl) (hk:scope.kind=.function:=by rfl) (hcap:zie cap Nc X.N scope=true:=by rfl) (hfr:zhb scope X.env.scope=true:=by rfl) (hnc:zf2 scope=true:=by rfl)
  (hnm:(scope.names.all λp=>!(p.2 == NameKind.local) || decide (scope.names.lookup p.1=some .local))=true:=by rfl)
  (hs:∀x,foldedSetIterable iter X.env x=pure x:=by intro _;rfl):PE X #v[5,7] (zvi wi cap g tc tm):=by
 intro pins s σ H Q I h;rw[eval_ListComp];nofun;obtain⟨cl,hclos,c1,c2⟩:=zd1 (env:=X.env) (scope:=scope) λx hx=>I.ok.has x (zeb hfr hx);ac_rfl;have hnames:∀x∈scope.names,x.2=.local->scope.names.lookup x.1=some .local:=λx hx e=>by
  have q:=Bm.mp hnm _ hx;simpa [e] using q
 refine wpAny_comprehension_free (use:=none) rfl hs hclos hk hnames (thn (hi pins s σ H _ I h) λv s1 h1=>thn h1 λitv s2 h2=>?_);nofun;obtain⟨it,fp,tn,J,H2,e,I2,T,st2,f2,hW⟩:=h2;ac_rfl;subst e;refine zi9 (RR:=λacc C=>compPost #v[3,7] X.A X.xe none (EP X pins σ Q) acc C) hc hk hcap hfr hnc hturn hg ht hm c1 c2 I2 T st2 f2 hW ?_;intro acc C s' H' ⟨m,hm⟩ hI hC q;exact⟨m,hm,λh' hsb=>⟨.ref acc,H',hI h' hsb,rfl,q⟩⟩
theorem z5m {y:Str}{py:Pos}{spos:Pos}{i:Nat}{elt tg iter:Expr}{ifs:List Expr}{gs:List Comprehension}{scope:Scope}{pos:Pos}{Nc:List Str}{cap:List (Option Nat)}{wi:TI}{g:TG}{tc:TT}{em:Value->Env->Sem Unit}{tm:Addr->TM} (hN:X.N.Nodup) (hiy:X.N[i]?=some y) (hy:Loc X.env.scope y) (hi:PI X tg iter wi)
  (hg:∀cl C s3 H3 fp,PG (zbk X Nc scope cl C s3 H3 fp) tg g) (ht:∀cl C s3 H3 fp,PTs (zbk X Nc scope cl C s3 H3 fp) ifs tc) (hm:∀cl C s3 H3 fp acc,PM (zbk X Nc scope cl C s3 H3 fp) (em (.ref acc) (zbk X Nc scope cl C s3 H3 fp).env) (tm acc))
  (hturn:∀it acc env,compTurn #v[5,7] 0 it acc env=zs1 #v[5,7] 0 tg iter ifs (em acc env) it acc env)
  (hsw:swapsWith #v[5,7] (some (.Name y py)) spos.line X.env=pure true:=by rfl)
  (hc:X.calm=true:=by rfl) (hk:scope.kind=.function:=by rfl) (hcap:zie cap Nc X.N scope=true:=by rfl) (hfr:zhb scope X.env.scope=true:=by rfl) (hnc:zf2 scope=true:=by rfl)
  (hnm:(scope.names.all λp=>!(p.2 == NameKind.local) || decide (scope.names.lookup p.1=some .local))=true:=by rfl)
  (hs:∀x,foldedSetIterable iter X.env x=pure x:=by intro _;rfl) (hf:X.fn y=true\/X.env.scope.names.lookup y=some .local:=by first|exact .inl rfl|exact .inr rfl|assumption) :
  PS X (.Assign [.Name y py] #v[5,7] spos) (tAsg (zvi wi cap g tc tm) (zrw i)):=by
 intro pins s σ H D I h;nofun;obtain⟨cl,hclos,c1,c2⟩:=zd1 (env:=X.env) (scope:=scope) λx hx=>I.ok.has x (zeb hfr hx);ac_rfl;have hnames:∀x∈scope.names,x.2=.local->scope.names.lookup x.1=some .local:=λx hx e=>by
  have q:=Bm.mp hnm _ hx;simpa [e] using q
 rw[exec_Assign_Name_used _ _ _ _ hsw];refine Ab (Hg (Ab ?_));show wpAny _ X.A (do let _ <- comprehension #v[5,7] scope X.env _ (newList []) false (eval iter X.env) (some (assign (.Name y py) X.env))) _ _ s;refine Ab (Ev (wpAny_comprehension_free (use:=some (assign (.Name y py) X.env)) (Q:=λ_ s'=>SP X pins D .next s') rfl hs hclos hk hnames
  (thn (hi pins s σ H _ I h) λv s1 h1=>thn h1 λitv s2 h2=>?_)) (λ_ s' hq=>Ao (Ao hq)) λ_ _ e=>e)
 nofun;obtain⟨it,fp,tn,J,H2,e,I2,T,st2,f2,hW⟩:=h2;ac_rfl;subst e;refine zi9 (Q:=λx H1=>D.nx (σ.set i (some x)) H1) (RR:=λacc C=>compPost #v[3,7] X.A X.xe (some (assign (.Name y py) X.env)) (λ_ s'=>SP X pins D .next s') acc C) hc hk hcap hfr hnc hturn hg ht hm c1 c2 I2 T st2 f2 hW ?_;intro acc C s' H' ⟨m,hm⟩ hI hC q;show wpAny _ X.A (assign (.Name y py) X.env (.ref acc)) _ _ _;have I' : Inv X pins σ H' s':=hI s'.heap (.refl ..);refine wpAny_assign_Name (zne I' hN hiy hy (v:=.ref acc) rfl (λs'' I'' ⟨a,hsb,ha⟩=>?_) hf);have ne:C≠a:=by
  rcases ha with rfl|ha
  ·exact hC.2.1
  ·exact λz=>hC.2.2.2.2.1 y a ha z.symm
 refine⟨m,hm.sameBut hsb ne,λh' hsb'=>⟨_,H',?_,q⟩⟩;exact I''.turned (t':=s''.toks) (λb o hb e=>(hsb'.2 b hb).trans e) hC.1 hC.2.1 hC.2.2.2.1 hC.2.2.2.2.1 hC.2.2.2.2.2
end
section
variable {X:Cx}{pins:List (Addr × Obj)}{σ:St}{H:Hp}{s:Shared}
theorem Inv.turnLay {h' : Heap}{t' : Nat}{ch:List Addr}{T:Addr}{o:HO} (I:Inv X pins σ H s) (k:∀b o,b ∉ ch->s.heap.get? b=some o->h'.get? b=some o) (th:∀b∈ch,∃o',h'.get? b=some o') (hch:∀b∈ch,FpOk X pins H b) (hT:s.heap.objs.size<=T)
  (new:zbx X.prog X.w (upd H T o) h' T o):Inv X pins σ (upd H T o) { s with heap:=h',toks:=t' }:=by
 have hn:H T=none:=I.hok.fresh hT;have ne:∀b u,s.heap.get? b=some u->b≠T:=λb u e=>Bi (Aw (As e) hT);have nch:∀b u,H b=some u->b ∉ ch:=λb u e hb=>by rw[(hch b hb).1] at e;cases e
 refine I.step (g':=s.gens) (d':=s.drawn) (ch:=ch) (λb hb=>⟨(hch b hb).2.2.2.1,(hch b hb).2.1,(hch b hb).2.2.2.2.1,(hch b hb).2.2.2.2.2⟩) (λb o _ _ hc e _=>k b o hc e) (λb o _ _ hc e _=>⟨o.slots,k b o hc e⟩) (λb u _ e n=>by rw[upd_ne (ne b u e)];exact n)
  (λb u hc e=>⟨u,k b u hc e⟩) (λb xs e=>by rw[upd_ne (zae e hn)];exact e) (λb u xs e=>by rw[upd_ne (zae e hn)];exact e) (λb ps e=>⟨#[],by rw[upd_ne (zae e hn),e];simp⟩) (λm hm=>?_) (λb u e=>?_) I.bare
 ·obtain⟨o,es,ep,ho,r⟩:=hm;exact⟨o,es,ep,k _ o (λz=>(hch _ z).2.1 rfl) ho,r⟩
 ·by_cases hb : b = T
  ·subst hb;rw[upd_same] at e;obtain rfl:=sI e;exact new
  ·rw[upd_ne hb] at e;refine (I.hok b u e).stay (λc v hc q=>k c v ?_ q) (λc q=>by rw[upd_ne (zae q hn)];exact q) λc xs q=>by rw[upd_ne (zae q hn)];exact q
   rcases hc with z|z
   ·rw[z];exact nch b u e
   ·exact nch c _ z
end
noncomputable def Ite (K:PySem.W.Frag) (a:Addr):It :=
 ⟨λi H=>∃xs x,SqL K H a xs/\xs[i]?=some x,λi H x H'=>∃p v,x=.ref p/\H p=none/\H'=upd H p (.tup [.int i,v])/\∀xs,SqL K H a xs->xs[i]?=some v,λi H=>∃xs,SqL K H a xs/\xs.length<=i⟩
theorem zvl {P:Program}{w:World}{K:PySem.W.Frag}{es:List Expr}{x1}{px:Pos}(a e it:Addr)(hei:e≠it):Turn P w K (.Tuple es x1 px) (Ite K a) [e,it] e (λi h=>(∃old,IsEnum h e it i old)/\h.IsListIter it a i) where
 mem:=by simp
 obj:=λi h st b hb=>by
  nofun;obtain⟨⟨old,he⟩,o,hi,c,d⟩:=st;ac_rfl;rcases At.mp hb with rfl|hb
  ·exact⟨_,he,λv z=>by cases z⟩
  ·have : b = it:=by simpa using hb
   subst this;exact⟨o,hi,λv z=>by rw[d] at z;cases z⟩
 keep:=λi h h' st k=>⟨let ⟨old,he⟩:=st.1;⟨old,k e (by simp) _ he⟩,st.2.at λo z=>k it (by simp) o z⟩
 item:=by
  intro X hP hw hK hc i pins s σ H E I hf st hg;subst hP hw hK;nofun;obtain⟨xs,x,hq,hx⟩:=hg;obtain⟨its,rv,p,hz⟩:=I.list hq;obtain⟨u,hu,ru⟩:=rv.get hx;obtain⟨⟨old,he⟩,hit⟩:=st;ac_rfl;refine wpAny_pyNext_enum_item he hit p.isList (x:=u) (by simpa using hu) hei λh' ho hit' hT hsz hk=>⟨_,rfl,?_⟩;refine wpAny_letOwnedTupleGo_enum ho λh'' he'' hs''=>?_;have kk:∀b o,b ∉ [e,it]->s.heap.get? b=some o->h''.get? b=some o:=λb o hb q=>by
   have h1:b≠e:=λz=>hb (by simp [z]);have h2:b≠it:=λz=>hb (by simp [z]);exact (hs''.2 b h1).trans (hk b o h1 h2 q)
  have hTe:s.heap.objs.size≠e:=λz=>absurd (As he) (by rw[z];exact Cm _);have hit'' : h''.IsListIter it a (i+1):=hit'.at λo y=>(hs''.2 it hei.symm).trans y;refine⟨.ref s.heap.objs.size,upd H s.heap.objs.size (.tup [.int i,x]),I.turnLay kk (λb hb=>?_) hf (Ad _) ⟨by show 2<=sizeLine;decide,[.int i s.toks,u],.cons ⟨_,rfl⟩ (.cons ru .nil),?_⟩,rfl,⟨_,x,rfl,I.hok.fresh (Ad _),rfl,λys hy=>by rw[I.list_inj hy hq];exact hx⟩,⟨⟨_,by simpa using he''⟩,hit''⟩,λb hb=>?_⟩
  ·rcases At.mp hb with rfl|hb
   ·exact⟨_,he''⟩
   ·have : b = it:=by simpa using hb
    subst this;obtain⟨o,z,_⟩:=hit'';exact⟨o,z⟩
  ·exact⟨_,(hs''.2 _ hTe).trans hT,rfl,_,rfl⟩
  ·have:b≠s.heap.objs.size:=by
    rcases At.mp hb with rfl|hb
    ·exact hTe.symm
    ·have e2 : b = it:=by simpa using hb
     subst e2;obtain⟨o,z,_⟩:=hit;exact Bi (As z)
   rw[upd_ne this];exact (hf b hb).1
 done:=by
  intro X hP hw hK hc i pins s σ H E I hf st hg;subst hP hw hK;nofun;obtain⟨xs,hq,hx⟩:=hg;obtain⟨its,rv,p,hz⟩:=I.list hq;obtain⟨⟨old,he⟩,hit⟩:=st;obtain⟨f0,f1,f2,f3,f4,f5⟩:=hf it (by simp);ac_rfl;have hl:=rv.length;exact wpAny_pyNext_enum_end (I.ok.hd hc) he hit p.isList (Array.getElem?_eq_none (by simp;omega)) λh' eb=>⟨rfl,I.turned (t':=s.toks) (λb o hb e=>eb b o hb e) f0 f1 f3 f4 f5⟩
 self:=λ_ _ _ _ _ st h=>let ⟨_,he⟩:=st.1;He he h
section
variable {X:Cx}
end
noncomputable def Itv (K:PySem.W.Frag) (a:Addr) (n:Nat):It :=
 ⟨λi H=>i<n/\∃xs,SqL K H a xs/\xs.length=n,λi H x H'=>H'=H/\∀xs,SqL K H a xs->xs[n - 1 - i]?=some x,λi H=>i=n⟩
theorem zzc {P:Program}{w:World}{K:PySem.W.Frag}{tg:Expr}(a it:Addr)(n:Nat):Turn P w K tg (Itv K a n) [it] it (λi h=>h.IsRevIter it a ((n:Int) - 1 - (i:Int))) where
 mem:=by simp
 obj:=λi h st b hb=>by
  have e:b=it:=by simpa using hb
  subst e;nofun;obtain⟨o,e,c,d⟩:=st;ac_rfl;exact⟨o,e,λv z=>by rw[d] at z;cases z⟩
 keep:=λi h h' st k=>st.at λo e=>k it (by simp) o e
 item:=by
  intro X hP hw hK hc i pins s σ H E I hf st hg;subst hP hw hK;nofun;obtain⟨hi,xs,hq,hn⟩:=hg;ac_rfl;have hlt:n - 1 - i<xs.length:=by omega
  nofun;obtain⟨its,rv,p,hz⟩:=I.list hq;obtain⟨u,hu,ru⟩:=rv.get (Aa hlt);obtain⟨f0,f1,f2,f3,f4,f5⟩:=hf it (by simp);ac_rfl;have e:(n:Int) - 1 - (i:Int)=((n - 1 - i:Nat):Int):=by omega
  have st':=st;rw[e] at st';refine wpAny_pyNext_rev_item st' p.isList (x:=u) (by simpa using hu) λh' st' sb=>?_;have I1:Inv X pins σ H { s with heap:=h' }:=I.turned (t':=s.toks) (λb o hb e=>(sb.2 b hb).trans e) f0 f1 f3 f4 f5;nofun;obtain⟨o,e2,c,d⟩:=id st';ac_rfl;have e3:((n - 1 - i:Nat):Int) - 1=(n:Int) - 1 - ((i+1:Nat):Int):=by omega
  rw[e3] at st';exact⟨u,rfl,z0i (s:={ s with heap:=h' }) e2 c d #v[0,9] ⟨_,H,I1,ru,⟨rfl,λys hy=>by rw[I.list_inj hy hq];exact Aa hlt⟩,st',λb hb=>(hf b hb).1⟩⟩
 done:=by
  intro X hP hw hK hc i pins s σ H E I hf st hg;subst hP hw hK;have hg' : i=n:=hg;subst hg';nofun;obtain⟨f0,f1,f2,f3,f4,f5⟩:=hf it (by simp);ac_rfl;have e:(i:Int) - 1 - (i:Int)=-1:=by omega
  rw[e] at st;exact wpAny_pyNext_rev_end (I.ok.hd hc) st λh' eb=>⟨rfl,I.turned (t':=s.toks) (λb o hb e=>eb b o hb e) f0 f1 f3 f4 f5⟩
 self:=λ_ _ _ _ _ st h=>wpAny_pyIter_revIter st h
section
variable {X:Cx}{tg:Expr}
noncomputable def iRev (K:PySem.W.Frag) (ta:TA):TI:=λσ H R=>ta σ H λvs H1=>∃a xs,vs=[.ref a]/\SqL K H1 a xs/\R (Itv K a xs.length) H1
theorem z9l {l:Expr}{tl:TA}{p pos:Pos} (hg:Gl X "reversed") (hm:X.mg "reversed" = none) (hl:PA X [l] tl) (hs:starEach [l] X.env=[(false,eval l X.env)]:=by rfl) :
    PI X tg (.Call (.Name "reversed" p) [l] [] pos) (iRev X.K tl):=by
  intro pins s σ H R I h;refine Call_ (zf6 I hg hm boot_reversed (Dn (thn (hl pos pins s σ H _ I h) λus s1 ⟨vs,H1,I1,r1,q1⟩=>?_) hs rfl));nofun;obtain⟨a,xs,e,hq,q⟩:=q1;ac_rfl;subst e;cases r1 with
  | cons r rr =>
    cases rr;cases r;nofun;obtain⟨its,rv,p',hz⟩:=I1.list hq;ac_rfl;refine call_reversed_list p'.isList ?_;have hit:(s1.heap.push (revObj a ((its.toArray.size:Int) - 1))).IsRevIter s1.heap.objs.size a ((its.toArray.size:Int) - 1):=⟨_,Bb _ rfl,rfl,rfl⟩;refine wpAny_pyIter_revIter hit ?_;refine⟨s1.heap.objs.size,[s1.heap.objs.size],_,_,H1,rfl,I1.kept (t':=s1.toks) λb o e=>Ai _ e,zzc a _ xs.length,?_,λb hb=>?_,q⟩
    · have e : ((its.toArray.size : Int) - 1) = (xs.length : Int) - 1 - ((0 : Nat) : Int) := by have := rv.length; simp; omega
      rw[e] at hit;have ge:((its.toArray.size:Int) - 1)=(xs.length:Int) - 1 - ((0:Nat):Int):=e;dsimp only;rw[<-ge];exact⟨_,Bb _ rfl,rfl,rfl⟩
    · have e : b = s1.heap.objs.size := by simpa using hb
      subst e;exact I1.fpOk (Ad _) (I1.hok.fresh (Ad _))
end
section
variable {κ:Type} [DecidableEq κ]
noncomputable def putK (kvs:List (κ × V)) (k:κ) (v:V):List (κ × V) :=
 if (kvs.any λkv=>decide (kv.1=k))=true then kvs.map (λkv=>if kv.1=k then (kv.1,v) else kv) else kvs++[(k,v)]
theorem zn5 (kvs:List (κ × V))(k:κ)(v:V):(putK kvs k v).length<=kvs.length+1:=by
 unfold putK;split
 ·rw[Ae];omega
 ·rw[Az,Ay,Eu];omega
theorem KV.any {kvs:List (κ × V)}{vs:List (κ × Value)}(r:KV kvs vs)(k:κ):(kvs.any λkv=>decide (kv.1=k))=vs.any λkv=>decide (kv.1=k):=by
 unfold KV at r
 induction r with
 |nil=>rfl
 |cons h t ih=>rw[Dl,Dl,ih,h.1]
theorem KV.repl {kvs:List (κ × V)}{vs:List (κ × Value)} (r:KV kvs vs) (k:κ) {y:V}{u:Value} (ry:RelV y u) :
    KV (kvs.map λkv=>if kv.1=k then (kv.1,y) else kv) (vs.map λkv=>if kv.1=k then (kv.1,u) else kv):=by
  unfold KV at r ⊢
  induction r with
  |nil=>exact .nil
  | @cons p q ps qs h t ih =>
    rw[Bd,Bd];refine .cons ?_ ih;obtain⟨h1,h2⟩:=h;by_cases e:p.1=k
    · rw[if_pos e,if_pos (h1.symm.trans e)];exact⟨h1,ry⟩
    · rw[if_neg e,if_neg (λz=>e (h1.trans z))];exact⟨h1,h2⟩
theorem KV.put {kvs:List (κ × V)}{vs:List (κ × Value)}(r:KV kvs vs)(k:κ){y:V}{u:Value}(ry:RelV y u):KV (putK kvs k y) (stored vs k u):=by
 unfold putK stored;rw[r.any k];by_cases e:(vs.any λkv=>decide (kv.1=k))=true
 ·rw[if_pos e,if_pos e];exact r.repl k ry
 ·rw[if_neg e,if_neg e];exact Paired.snoc r ⟨rfl,ry⟩
end
theorem yeq {P:Program}{w:World}{k:Key}{u:Value}(r:RelV (kV k) u):(zcv P w).is k u=true:=by
 cases k with
 |inl i=>obtain⟨t,e⟩:=(show ∃t,u=Value.int i t from r);subst e;exact znk P w i t
 |inr x=>obtain⟨t,e⟩:=(show ∃t,u=Value.str x t from r);subst e;exact znx P w x t
section
variable {P:Program}{w:World}{H:Hp}{h:Heap}{a:Addr}
theorem ydr {u:HO}(ok:HOk P w H h)(e:Rd H a u):zbx P w H h a u:=e.ok ok
theorem ydg {kvs:List (Key × V)}(ok:HOk P w H h)(e:Rd H a (.dK kvs)):kvs.length<=sizeLine/\(a == sysModules)=false/\∃vs,KV kvs vs/\h.DictOf (zcv P w) a vs :=
 show zbx P w H h a (.dK kvs) from ydr ok e
theorem yd5 {kvs:List (Key × V)}(ok:HOk P w H h)(e:H a=some (.dK kvs)):kvs.length<=sizeLine/\(a == sysModules)=false/\∃vs,KV kvs vs/\h.DictOf (zcv P w) a vs:=ydg ok (.inl e)
end
section
variable {X:Cx}{pins:List (Addr × Obj)}{σ:St}{H:Hp}{s:Shared}{a:Addr}{y v:V}{u r:Value}{o:Option V}{A:Around}{E:Value->Shared->Prop}
theorem Inv.big (I:Inv X pins σ H s):sysModules<s.heap.objs.size:=by
 have h:mainGlobals<s.heap.objs.size:=(I.mod.glob.keeps I.bk).lt;exact Nat.lt_trans #v[0,9] h
theorem z5u {h' : Heap}{t' : Nat}{ob:HO} (I:Inv X pins σ H s) (mu:Mut (H a)) (hs:Heap.SameBut a s.heap h') (he:∃q,h'.get? a=some q) (new:zbx X.prog X.w (upd H a ob) h' a ob) :
  Inv X pins σ (upd H a ob) { s with heap:=h',toks:=t' } :=
 I.write (x:=a) (e:=a) mu (.inl rfl) (λb q hb z=>(hs.2 b hb).trans z) he new
theorem ybg {P:Program}{w:World}{H' : Hp}{h' : Heap}{kvs:List (Key × V)}{vs:List (Key × Value)} (z:kvs.length<=sizeLine) (hd:(a == sysModules)=false) (rel:KV kvs vs) (dd:h'.DictOf (zcv P w) a vs) :
  zbx P w H' h' a (.dK kvs):=⟨z,hd,vs,rel,dd⟩
end
section
variable {X:Cx}{pins:List (Addr × Obj)}{σ:St}{H:Hp}{s:Shared}{a:Addr}{kvs:List (Key × V)}{k:Key}{u:Value}{A:Around}{E:Value->Shared->Prop}
end
section
variable {X:Cx}{o i e value:Expr}{pos pos' tpos:Pos}{td ty tv:TE}
end
theorem zp0 {P:Program}{w:World}{H:Hp}(h:Heap)(hb:sysModules<h.objs.size):zbx P w H (h.push { cls:=.type "dict",data:=.dict #[] }) h.objs.size (.dK []) :=
 ⟨Ca _,Gi.mpr (Ne.symm (Bi hb)),[],.nil,Heap.DictOf.new h⟩
noncomputable def z2k:TE:=λ_ H Q=>∀p,H p=none->Q (.ref p) (upd H p (.dK []))
section
variable {X:Cx}{pos:Pos}
theorem zzh:PE X (.Dict [] [] pos) z2k:=λpins s σ H Q I h =>
 wpAny_Dict_empty ⟨.ref s.heap.objs.size,_,I.laid (a:=s.heap.objs.size) (o:=.dK []) (t':=s.toks) (λ_ _ q=>Ai _ q) (Ad _) (zp0 s.heap I.big),rfl,h _ (I.hok.fresh (Ad _))⟩
end
noncomputable def zv6:List (TE × TE)->St->Hp->(List (V × V)->Hp->Prop)->Prop
 |[],_,H,Q=>Q [] H
 |(tk,tv)::r,σ,H,Q=>tk σ H λx H1=>tv σ H1 λy H2=>zv6 r σ H2 λps H3=>Q ((x,y)::ps) H3
noncomputable abbrev VV:List (V × V)->List (Value × Value)->Prop:=Paired λp q=>RelV p.1 q.1/\RelV p.2 q.2
noncomputable def PPs (X:Cx) (pos:Pos) (keys:List (Option Expr)) (values:List Expr) (trs:List (TE × TE)):Prop :=
  ∀(pins:List (Addr × Obj)) (s:Shared) (σ:St) (H:Hp) (Q:List (V × V)->Hp->Prop),Inv X pins σ H s->zv6 trs σ H Q ->
    wpAny #v[3,7] X.A (evalPairs (pairTrees keys values X.env pos)) (λvs s'=>∃ps H',Inv X pins σ H' s'/\VV ps vs/\Q ps H') X.xe s
theorem z76 {X:Cx}{pos:Pos}:PPs X pos [] [] []:=λpins s σ H Q I h=>pairTrees_nil_walk ⟨[],H,I,.nil,h⟩
theorem z1x {X:Cx}{pos:Pos}{k v:Expr}{ks:List (Option Expr)}{vs:List Expr}{tk tv:TE}{trs:List (TE × TE)} (hk:PE X k tk) (hv:PE X v tv) (hr:PPs X pos ks vs trs) :
  PPs X pos (some k::ks) (v::vs) ((tk,tv)::trs):=λpins s σ H Q I h =>
 pairTrees_cons_walk (thn (hk pins s σ H _ I h) λu s1 ⟨x,H1,I1,rx,q1⟩=>thn (hv pins s1 σ H1 _ I1 q1) λw2 s2 ⟨y,H2,I2,ry,q2⟩ =>
  thn (hr pins s2 σ H2 _ I2 q2) λws s3 ⟨ps,H3,I3,rel,q3⟩=>⟨(x,y)::ps,H3,I3,.cons ⟨rx,ry⟩ rel,q3⟩)
noncomputable def zi8 (kvs more:List (Key × V)):List (Key × V):=more.foldl (λacc kv=>putK acc kv.1 kv.2) kvs
theorem KV.merge:∀{more:List (Key × V)}{rs:List (Key × Value)}{kvs:List (Key × V)}{vs:List (Key × Value)},KV more rs->KV kvs vs->KV (zi8 kvs more) (merged vs rs):=by
  intro more rs kvs vs r;unfold KV at r
  induction r generalizing kvs vs with
  |nil=>intro q;exact q
  | @cons p q ps qs h t ih =>
    intro r0;have e:KV (putK kvs p.1 p.2) (stored vs q.1 q.2):=by
      have:=r0.put p.1 h.2;rw[<-h.1];exact this
    exact ih e
theorem ze0:∀(more kvs:List (Key × V)),(zi8 kvs more).length<=kvs.length+more.length
  |[],kvs=>by show kvs.length<=kvs.length+0;omega
  | p::r,kvs=>by
    have h1:=ze0 r (putK kvs p.1 p.2);have h2:=zn5 kvs p.1 p.2;show (zi8 (putK kvs p.1 p.2) r).length<=_;rw[Ay];omega
theorem zio {P:Program}{w:World}:∀{kvs:List (Key × V)}{ws:List (Value × Value)},VV (kvs.map fun kv=>(kV kv.1,kv.2)) ws->∃rs,Carries (zcv P w) ws rs/\KV kvs rs
  |[],_,r=>by rw[List.map_nil] at r;cases r;exact⟨[],True.intro,.nil⟩
  | p::kvs,_,r=>by
    rw[Bd] at r;cases r with
    | @cons a b as bs h t =>
      obtain⟨rs,c,q⟩:=zio (P:=P) (w:=w) t;obtain⟨b1,b2⟩:=b;exact⟨(p.1,b2)::rs,⟨yeq h.1,rfl,c⟩,.cons ⟨rfl,h.2⟩ q⟩
noncomputable def yb9 (trs:List (TE × TE)):TE:=λσ H Q=>∀p,H p=none->zv6 trs σ (upd H p (.dK [])) λps H2=>H2 p=some (.dK [])/\∃kvs:List (Key × V),ps=kvs.map (λkv=>(kV kv.1,kv.2))/\kvs.length<=15/\Q (.ref p) (upd H2 p (.dK (zi8 [] kvs)))
theorem z7r {X:Cx}{pos:Pos}{keys:List (Option Expr)}{values:List Expr}{trs:List (TE × TE)} (h:PPs X pos keys values trs) (hall:keys.all (·.isSome)=true) (hl:keys.length=values.length) (h0:keys≠[])
  (h15:keys.length<=15):PE X (.Dict keys values pos) (yb9 trs):=by
 intro pins s σ H Q I q;have hn:=I.hok.fresh (Ad s.heap.objs.size);have I1:=I.laid (a:=s.heap.objs.size) (o:=.dK []) (h':=s.heap.push { cls:=.type "dict",data:=.dict #[] }) (t':=s.toks) (λ_ _ q=>Ai _ q) (Ad _) (zp0 s.heap I.big);refine wpAny_Dict_walk (knd:=zcv X.prog X.w) hall hl h0 h15 (thn (h pins _ σ _ _ I1 (q _ hn)) λws s2 ⟨ps,H2,I2,rel,e,kvs,ep,lk,q2⟩=>?_);subst ep;obtain⟨rs,c,rk⟩:=zio (P:=X.prog) (w:=X.w) rel;obtain⟨z,hd,vs0,r0,dd⟩:=yd5 I2.hok e;cases r0;refine⟨rs,c,dd,λh' dd' hs=>⟨.ref s.heap.objs.size,_,?_,rfl,q2⟩⟩;have hz:(zi8 [] kvs).length<=sizeLine:=by
  have h1:=ze0 kvs [];rw[Eu] at h1;rw[Fy];omega
 have he:∃q,h'.get? s.heap.objs.size=some q:=let ⟨q,_,_,hq,_⟩:=dd';⟨q,hq⟩;exact z5u I2 (by rw[e];exact True.intro) hs he (ybg hz hd (rk.merge .nil) dd')
section
variable {X:Cx}{pins:List (Addr × Obj)}{σ:St}{H:Hp}{s:Shared}{a:Addr}{y d:V}{u r:Value}{o:Option V}{A:Around}{E:Value->Shared->Prop}
end
section
variable {X:Cx}{o e f:Expr}{apos cpos:Pos}{td ty tx:TE}
end
section
variable {X:Cx}{pins:List (Addr × Obj)}{σ:St}{H:Hp}{s:Shared}{a:Addr}{kvs:List (Key × V)}{A:Around}{E:Value->Shared->Prop}
end
section
variable {X:Cx}{pins:List (Addr × Obj)}{σ:St}{H:Hp}{s:Shared}{a:Addr}{y:V}{u:Value}{A:Around}{E:Value->Shared->Prop}
end
section
variable {X:Cx}
theorem z8i {bs:List Bool}{its:List Value}{i:Nat}{v:Value}(r:Vals (bs.map V.bl) its)(h:its[i]?=some v):∃b,bs[i]?=some b/\v=.bool b:=by
 have hl:=r.length;rw[Ae] at hl;have hi:i<bs.length:=by rw[hl];exact (Aj.mp h).1
 obtain⟨u,hu,ru⟩:=r.get (i:=i) (x:=.bl bs[i]) (by rw[An,Aa hi];rfl);rw[h] at hu;obtain rfl:=sI hu;exact⟨bs[i],Aa hi,ru⟩
theorem zjj {bs:List Bool}{i:Nat}(hi:i<bs.length):bs.getD i false=bs[i]:=by rw[Ba,Aa hi];rfl
theorem zuj (bs:List Bool):((List.range bs.length).any λi=>bs.getD i false)=bs.any id:=by
 rw[Ea,List.any_eq_true,List.any_eq_true];constructor
 ·rintro ⟨i,hi,h⟩;rw[Bh] at hi;refine⟨bs[i],List.getElem_mem hi,?_⟩;rw[zjj hi] at h;exact h
 ·rintro ⟨b,hb,h⟩;obtain⟨i,hi,e⟩:=Ec.mp hb;refine⟨i,Bh.mpr hi,?_⟩;rw[zjj hi,e];exact h
theorem zvw (bs:List Bool):((List.range bs.length).all λi=>bs.getD i false)=bs.all id:=by
 rw[Ea,Bm,Bm];constructor
 ·intro h b hb;obtain⟨i,hi,e⟩:=Ec.mp hb;have:=h i (Bh.mpr hi);rw[zjj hi,e] at this;exact this
 ·intro h i hi;rw[Bh] at hi;rw[zjj hi];exact h _ (List.getElem_mem hi)
theorem zqd {P:Program}{w:World}{A:Around}{bs:List Bool}{its:List Value}(r:Vals (bs.map V.bl) its):TruthOf P w A (λi v=>its.toArray[i]?=some v) (λi=>bs.getD i false):=λi v s Q E hP hQ=>by
 obtain⟨b,hb,e⟩:=z8i r (by simpa using hP);subst e;have:bs.getD i false=b:=by rw[Ba,hb];rfl
 have hQ' : Q (bs.getD i false) s:=hQ;rw[this] at hQ';exact Dk hQ'
theorem z1m (hc:X.calm=true):zep X (.builtin "any") (λxs H Q=>∃(a:Addr) (bs:List Bool),xs=[.ref a]/\SqL X.K H a (bs.map V.bl)/\Q (.bl (bs.any id)) H):=by
 intro pins s σ H xs us Q I r h;obtain⟨a,bs,rfl,hq,q⟩:=h;obtain⟨u,rfl,rx⟩:=vals1 r;cases rx;obtain⟨its,rv,p,hz⟩:=I.list hq;have hl:=rv.length;rw[Ae] at hl;have ha:a<s.heap.objs.size:=by obtain⟨o,e,_⟩:=p.isList;exact As e
 refine call_any_walk (Gb p.isList ?_);refine⟨s.heap.objs.size,_,[s.heap.objs.size],its.toArray.size,_,_,_,rfl,Walks.list (A:=X.A.in1) (show X.A.in1.handled=none from I.ok.hd hc) _ a (Bi ha) its.toArray,⟨⟨_,Bb _ rfl,rfl,rfl⟩,p.isList.push _⟩,zqd rv,λh' tk hk=>?_⟩;have e:its.toArray.size=bs.length:=by simp;omega
 rw[e,zuj];refine⟨.bl _,H,I.kept λb o hb=>?_,rfl,q⟩;exact hk b o (by intro z;rw[Ap] at z;subst z;exact absurd (As hb) (Cm _)) (Ai _ hb)
theorem z0h (hc:X.calm=true):zep X (.builtin "all") (λxs H Q=>∃(a:Addr) (bs:List Bool),xs=[.ref a]/\SqL X.K H a (bs.map V.bl)/\Q (.bl (bs.all id)) H):=by
 intro pins s σ H xs us Q I r h;obtain⟨a,bs,rfl,hq,q⟩:=h;obtain⟨u,rfl,rx⟩:=vals1 r;cases rx;obtain⟨its,rv,p,hz⟩:=I.list hq;have hl:=rv.length;rw[Ae] at hl;have ha:a<s.heap.objs.size:=by obtain⟨o,e,_⟩:=p.isList;exact As e
 refine call_all_walk (Gb p.isList ?_);refine⟨s.heap.objs.size,_,[s.heap.objs.size],its.toArray.size,_,_,_,rfl,Walks.list (A:=X.A.in1) (show X.A.in1.handled=none from I.ok.hd hc) _ a (Bi ha) its.toArray,⟨⟨_,Bb _ rfl,rfl,rfl⟩,p.isList.push _⟩,zqd rv,λh' tk hk=>?_⟩;have e:its.toArray.size=bs.length:=by simp;omega
 rw[e,zvw];refine⟨.bl _,H,I.kept λb o hb=>?_,rfl,q⟩;exact hk b o (by intro z;rw[Ap] at z;subst z;exact absurd (As hb) (Cm _)) (Ai _ hb)
theorem z1g:zep X (.builtin "isinstance") (fun xs H Q=>∃x t c b,xs=[x,.ty c]/\TyOf X.K H x t/\PySem.W.kitOne X.K t (.type c)=some b/\Q (.bl b) H):=by
  intro pins s σ H xs us Q I r h;nofun;obtain⟨x,t,c,b,rfl,ty,e,q⟩:=h;ac_rfl;cases r with
  | cons rx rr =>
    obtain⟨u,rfl,rc⟩:=vals1 rr;cases (show u=Value.type c from rc);exact zyd I rx ty e λtk=>⟨.bl b,H,I.tok _,rfl,q⟩
theorem zu9:OpR X (compareOp .IsNot) (λx y H Q=>∃b,y=.bl b/\Q (.bl (!decide (x=.bl b))) H):=by
 intro pins s σ H x y v u Q I rx ry h;obtain⟨b,rfl,q⟩:=h;cases ry;cases x with
 |bl c=>cases rx;exact Dp rfl (zak I q (by cases b<;>cases c<;>rfl))
 |non=>cases rx;exact Dp rfl (zak I q (by cases b<;>rfl))
 |ref _=>cases rx;exact Dp rfl (zak I q (by cases b<;>rfl))
 |ty _=>cases rx;exact Dp rfl (zak I q (by cases b<;>rfl))
 |int _=>obtain⟨t,e⟩:=rx;subst e;exact Dp rfl (zak I q (by cases b<;>rfl))
 |str _=>obtain⟨t,e⟩:=rx;subst e;exact Dp rfl (zak I q (by cases b<;>rfl))
 |byt _=>obtain⟨t,e⟩:=rx;subst e;exact Dp rfl (zak I q (by cases b<;>rfl))
 |flt _=>obtain⟨t,e⟩:=rx;subst e;exact Dp rfl (zak I q (by cases b<;>rfl))
end
noncomputable def z8w (i j:Int):Prop:=Builtin.Int.intBits i<=2 ^ 20/\Builtin.Int.intBits j<=2 ^ 20
theorem z4j {X:Cx}:OpR X (binaryOp .Mult) (rI z8w λi j=>.int (i * j)):=opI λ_ _ _ _ _ _ _ hc q=>mul_int q (IntMulOk.of_bits hc.1 hc.2)
structure Cal (P:Program) (w:World) (K:PySem.W.Frag) (mg:Str->Option Value) (base:Heap) (n:Nat) (x:Str) (ps:List Str) (sp:Sp):Prop where
 ex:∃f fd,FnOk P w K mg base CX0 n f fd ps sp/\zn2 K fd ps []/\PySem.W.keepIn K (.ref f)=true/\mg x=some (.ref f)
theorem ych {X:Cx}{n k:Nat}{x:Str}{ps:List Str}{sp:Sp}{e:Expr}{es:List Expr}{t:TA}{p pos:Pos} (C:Cal X.prog X.w X.K X.mg X.base n x ps sp) (hr:Room k X.A) (hg:Gl X x) (ha:PA X (e::es) t) (hk:n<=k:=by decide)
  (hdb:(x == ("__debug__" : Str))=false:=by decide) (hs:starEach (e::es) X.env=(false,eval e X.env)::starEach es X.env:=by rfl) (hpl:(backTo pos (starEach es X.env)).any (·.1)=false:=by rfl) :
  PE X (.Call (.Name x p) (e::es) [] pos) (z7t sp [] E0 t):=by
 nofun;obtain⟨f,fd,F,b,kp,m⟩:=C.ex;ac_rfl;exact z6g F (hr.mono hk) hg m kp b .nil yco ha hdb hs hpl
theorem Same.new {p:Addr}{H:Hp}(h:H p=none)(o:HO):Same H (L2.upd H p o):=λb u e=>by rw[upd_ne (zae e h)];exact e
theorem SqL.of' {K:PySem.W.Frag}{H:Hp}{a:Addr}{xs:List V}(h:H a=some (.lst xs)):SqL K H a xs:=.inl (.inl h)
noncomputable def MM:Int:=2305843009213693951
noncomputable def big:Nat:=1099511627776
noncomputable def Bits (xs:List Int):Prop:=∀x∈xs,x=0\/x=1
noncomputable def wordOf (xs:List Int):Int:=xs.foldr (λb a=>2 * a+b) 0
theorem z2l:bootBuiltins "len" = some (.builtin "len"):=by decide +kernel
theorem z93:bootBuiltins "abs" = some (.builtin "abs"):=by decide +kernel
theorem yb2:bootBuiltins "any" = some (.builtin "any"):=by decide +kernel
theorem ybk:bootBuiltins "all" = some (.builtin "all"):=by decide +kernel
theorem zkt:bootBuiltins "isinstance" = some (.builtin "isinstance"):=by decide +kernel
theorem z3a:bootBuiltins "int" = some (.type "int"):=by decide +kernel
theorem z3y:bootBuiltins "bool" = some (.type "bool"):=by decide +kernel
theorem yal:bootBuiltins "str" = some (.type "str"):=by decide +kernel
theorem zpz:bootBuiltins "tuple" = some (.type "tuple"):=by decide +kernel
theorem ztv:bootBuiltins "list" = some (.type "list"):=by decide +kernel
theorem zzo {w:Int}{i:Nat}(h0:0<w)(h:w<=2 ^ (200 * i)):0<w * 10 ^ 60/\w * 10 ^ 60<=2 ^ (200 * (i+1)):=by
 have e:(2:Int) ^ (200 * (i+1))=2 ^ (200 * i) * 2 ^ 200:=by rw[Nat.mul_add,Int.pow_add]
 rw[e];refine⟨Int.mul_pos h0 #v[0,9],?_⟩;have h1:w * 10 ^ 60<=2 ^ (200 * i) * 10 ^ 60:=Int.mul_le_mul_of_nonneg_right h #v[0,9];have h2:(2:Int) ^ (200 * i) * 10 ^ 60<=2 ^ (200 * i) * 2 ^ 200:=Int.mul_le_mul_of_nonneg_left #v[0,9] #v[];omega
theorem zkc {w:Int}{i:Nat}(h0:0<=w)(h:w<=2 ^ (200 * i))(hi:i<=63):Builtin.Int.intBits w<=2 ^ 20:=by
 have h1:(2:Int) ^ (200 * i)<2 ^ (200 * i+1):=by rw[Int.pow_succ];have:(0:Int)<2 ^ (200 * i):=Int.pow_pos #v[0,9];omega
 have h2:w.natAbs<2 ^ (200 * i+1):=by
  have:((w.natAbs:Nat):Int)<((2 ^ (200 * i+1):Nat):Int):=by
   rw[Int.natCast_pow];have e:((w.natAbs:Nat):Int)=w:=by omega
   rw[e];exact Int.lt_of_le_of_lt h h1
  exact Int.ofNat_lt.mp this
 have:=PyProof.Rows.intBits_le h2;omega
theorem zde:∀{xs:List Int},Bits xs->0<=wordOf xs/\wordOf xs < 2 ^ xs.length
  |[],_=>by decide
  | x::r,h=>by
    have hx:=h x Au;have ih:=zde (xs:=r) λy hy=>h y (Aq _ hy);show 0<=2 * wordOf r+x/\2 * wordOf r+x<2 ^ (r.length+1);rw[Int.pow_succ];omega
noncomputable def zah:Expr->Bool
 |.Starred ..=>false
 |_=>true
theorem zal {e:Expr}{es:List Expr}{env:Env}(h:zah e=true):starEach (e::es) env=(false,eval e env)::starEach es env:=by
 cases e<;>first|rfl|(cases h)
theorem pac {X:Cx}{e:Expr}{es:List Expr}{te:TE}{t:TA}(ha:PE X e te)(hr:PA X es t)(h:zah e=true:=by rfl):PA X (e::es) (zdq te t):=z6x ha hr (zal h)
end L2
namespace L2
theorem noSome {α:Type}{a:α}{P:Prop}(h:none=some a):P:=by cases h
open PySem PySem.Spec PyProof.Rows
noncomputable abbrev DKey:=Key ⊕ List Key
inductive W where
 |non|bl (b:Bool)|int (i:Int)|str (x:Str)|tup (xs:List W)|lst (xs:List W)|frl (xs:List W)|dic|dct (ks:List DKey) (vs:List W)|dcz (ks:List DKey) (vs:List W)
 deriving BEq,Inhabited
mutual
inductive Rep (K:PySem.W.Frag) (F:Hp):W->V->Prop where
 |non:Rep K F .non .non
 |bl (b:Bool):Rep K F (.bl b) (.bl b)
 |int (i:Int):Rep K F (.int i) (.int i)
 |str (x:Str):Rep K F (.str x) (.str x)
 |tup {ws:List W}{a:Addr}{vs:List V} (h:F a=some (.tup vs)) (r:Reps K F ws vs):Rep K F (.tup ws) (.ref a)
 |lst {ws:List W}{a:Addr}{vs:List V} (h:F a=some (.lst vs)) (r:Reps K F ws vs):Rep K F (.lst ws) (.ref a)
 |frl {ws:List W}{a:Addr}{vs:List V} (h:SqL K F a vs) (r:Reps K F ws vs):Rep K F (.frl ws) (.ref a)
 |dic {a:Addr}{kvs:List (Key × V)} (h:F a=some (.dK kvs)):Rep K F .dic (.ref a)
 |dct {a:Addr}{ks:List Key}{ws:List W}{vs:List V} (h:F a=some (.dK (ks.zip vs))) (hl:ks.length=vs.length) (r:Reps K F ws vs):Rep K F (.dct (ks.map .inl) ws) (.ref a)
 |dctT {a:Addr}{ks:List (List Key)}{ws:List W}{vs:List V} (h:F a=some (.dT (ks.zip vs))) (hl:ks.length=vs.length) (r:Reps K F ws vs):Rep K F (.dct (ks.map .inr) ws) (.ref a)
 |dcz {a:Addr}{o:Obj}{ks:List Key}{ws:List W}{vs:List V} (h:F a=some (.frz o (.dK (ks.zip vs)))) (hl:ks.length=vs.length) (r:Reps K F ws vs):Rep K F (.dcz (ks.map .inl) ws) (.ref a)
 |dczT {a:Addr}{o:Obj}{ks:List (List Key)}{ws:List W}{vs:List V} (h:F a=some (.frz o (.dT (ks.zip vs)))) (hl:ks.length=vs.length) (r:Reps K F ws vs):Rep K F (.dcz (ks.map .inr) ws) (.ref a)
inductive Reps (K:PySem.W.Frag) (F:Hp):List W->List V->Prop where
 |nil:Reps K F [] []
 |cons {w:W}{v:V}{ws:List W}{vs:List V} (h:Rep K F w v) (r:Reps K F ws vs):Reps K F (w::ws) (v::vs)
end
theorem zdw {α:Type}{l:List α}{i j:Nat}{x y:α}(hi:i<l.length)(h:(l.set i x)[j]?=some y):(j=i/\y=x)\/(j≠i/\l[j]?=some y):=by
 by_cases e:j=i
 ·subst e;rw[Dg hi] at h;exact .inl ⟨rfl,(sI h).symm⟩
 ·rw[Ch (Ne.symm e)] at h;exact .inr ⟨e,h⟩
theorem zqs {α:Type}{l:List α}{i:Nat}{x:α}(h:l[i]?=some x):l.set i x=l:=by
 apply Ee;intro j;by_cases e:j=i
 ·subst e;rw[Dg (Aj.mp h).1,h]
 ·rw[Ch (Ne.symm e)]
section
variable {K:PySem.W.Frag}{F F' H H' : Hp}
mutual
theorem Rep.mono (s:Same F F'):∀{w:W}{v:V},Rep K F w v->Rep K F' w v
 |_,_,.non=>.non
 |_,_,.bl b=>.bl b
 |_,_,.int i=>.int i
 |_,_,.str x=>.str x
 |_,_,.tup h r=>.tup (s _ _ h) (Reps.mono s r)
 |_,_,.lst h r=>.lst (s _ _ h) (Reps.mono s r)
 |_,_,.frl h r=>.frl (s.seq h) (Reps.mono s r)
 |_,_,.dic h=>.dic (s _ _ h)
 |_,_,.dct h hl r=>.dct (s _ _ h) hl (Reps.mono s r)
 |_,_,.dctT h hl r=>.dctT (s _ _ h) hl (Reps.mono s r)
 |_,_,.dcz h hl r=>.dcz (s _ _ h) hl (Reps.mono s r)
 |_,_,.dczT h hl r=>.dczT (s _ _ h) hl (Reps.mono s r)
theorem Reps.mono (s:Same F F'):∀{ws:List W}{vs:List V},Reps K F ws vs->Reps K F' ws vs
 |_,_,.nil=>.nil
 |_,_,.cons h r=>.cons (Rep.mono s h) (Reps.mono s r)
end
theorem Reps.length:∀{ws:List W}{vs:List V},Reps K F ws vs->ws.length=vs.length
 |_,_,.nil=>rfl
 |_,_,.cons _ r=>congrArg (· + 1) (Reps.length r)
theorem Reps.get:∀{ws:List W}{vs:List V}{i:Nat}{w:W},Reps K F ws vs->ws[i]?=some w->∃v,vs[i]?=some v/\Rep K F w v
  |_,_,_,_,.nil,e=>by simp at e
  |_,_,0,_,.cons h _,e=>by simp at e;subst e;exact⟨_,rfl,h⟩
  | _,_,i+1,w,.cons _ r,e=>by
    obtain⟨v,h1,h2⟩:=Reps.get (i:=i) (w:=w) r (by simpa using e);exact⟨v,by simpa using h1,h2⟩
theorem Reps.getV:∀{ws:List W}{vs:List V}{i:Nat}{v:V},Reps K F ws vs->vs[i]?=some v->∃w,ws[i]?=some w/\Rep K F w v
  |_,_,_,_,.nil,e=>by simp at e
  |_,_,0,_,.cons h _,e=>by simp at e;subst e;exact⟨_,rfl,h⟩
  | _,_,i+1,v,.cons _ r,e=>by
    obtain⟨w,h1,h2⟩:=Reps.getV (i:=i) (v:=v) r (by simpa using e);exact⟨w,by simpa using h1,h2⟩
theorem Reps.append:∀{xs ys:List W}{us ws:List V},Reps K F xs us->Reps K F ys ws->Reps K F (xs++ys) (us++ws)
 |_,_,_,_,.nil,s=>s
 |_,_,_,_,.cons h r,s=>.cons h (Reps.append r s)
theorem Reps.take:∀{xs:List W}{us:List V} (n:Nat),Reps K F xs us->Reps K F (xs.take n) (us.take n)
 |_,_,0,_=>.nil
 |_,_,_+1,.nil=>.nil
 |_,_,n+1,.cons h r=>.cons h (Reps.take n r)
theorem Reps.drop:∀{xs:List W}{us:List V} (n:Nat),Reps K F xs us->Reps K F (xs.drop n) (us.drop n)
 |_,_,0,r=>r
 |_,_,_+1,.nil=>.nil
 |_,_,n+1,.cons _ r=>Reps.drop n r
theorem Reps.set {w:W}{v:V}(h:Rep K F w v):∀{xs:List W}{us:List V} (i:Nat),Reps K F xs us->Reps K F (xs.set i w) (us.set i v)
 |_,_,_,.nil=>.nil
 |_,_,0,.cons _ r=>.cons h r
 |_,_,i+1,.cons q r=>.cons q (Reps.set h i r)
theorem Reps.reverse:∀{xs:List W}{us:List V},Reps K F xs us->Reps K F xs.reverse us.reverse
 |_,_,.nil=>.nil
 |_,_,.cons h r=>by rw[Gx,Gx];exact (Reps.reverse r).append (.cons h .nil)
theorem Reps.rep {xs:List W}{us:List V}(r:Reps K F xs us):∀k:Nat,Reps K F (List.replicate k xs).flatten (List.replicate k us).flatten
 |0=>.nil
 |k+1=>by rw[Cw,Cw,Ed,Ed];exact r.append (r.rep k)
noncomputable def isIt:W->V->Prop
 |.int i,v=>v=.int i
 |.bl b,v=>v=.bl b
 |_,_=>True
theorem Rep.isIt {w:W}{v:V}(h:Rep K F w v):isIt w v:=by cases h<;>first|rfl|trivial
theorem Reps.uncons {w:W}{ws:List W}{vs:List V}(h:Reps K F (w::ws) vs):∃v us,vs=v::us/\Rep K F w v/\Reps K F ws us:=by
 cases h with
 |cons h r=>exact⟨_,_,rfl,h,r⟩
theorem Reps.ints:∀{ns:List Int}{vs:List V},Reps K F (ns.map W.int) vs->vs=ns.map V.int:=by
  intro ns
  induction ns with
  |nil=>intro vs h;cases h;rfl
  | cons n ns ih =>
    intro vs h;obtain⟨v,us,e,h1,h2⟩:=Reps.uncons h;rw[e,ih h2,show v=.int n from h1.isIt];rfl
theorem Reps.ofInts:∀(ns:List Int),Reps K F (ns.map W.int) (ns.map V.int)
 |[]=>.nil
 |n::ns=>.cons (.int n) (Reps.ofInts ns)
theorem Reps.bls:∀{bs:List Bool}{vs:List V},Reps K F (bs.map W.bl) vs->vs=bs.map V.bl:=by
  intro ns
  induction ns with
  |nil=>intro vs h;cases h;rfl
  | cons n ns ih =>
    intro vs h;obtain⟨v,us,e,h1,h2⟩:=Reps.uncons h;rw[e,ih h2,show v=.bl n from h1.isIt];rfl
noncomputable abbrev En:=List (Option (W × Bool))
noncomputable abbrev Prt:=Addr->HO->Prop
inductive OwnR (K:PySem.W.Frag) (F:Hp):W->HO->Prop where
 |lst {ws:List W}{vs:List V} (r:Reps K F ws vs):OwnR K F (.lst ws) (.lst vs)
 |dct {ks:List Key}{ws:List W}{vs:List V} (hl:ks.length=vs.length) (r:Reps K F ws vs):OwnR K F (.dct (ks.map .inl) ws) (.dK (ks.zip vs))
 |dctT {ks:List (List Key)}{ws:List W}{vs:List V} (hl:ks.length=vs.length) (r:Reps K F ws vs):OwnR K F (.dct (ks.map .inr) ws) (.dT (ks.zip vs))
theorem OwnR.mono {w:W}{o:HO}(s:Same F F')(h:OwnR K F w o):OwnR K F' w o:=by
 cases h with
 |lst r=>exact .lst (r.mono s)
 |dct hl r=>exact .dct hl (r.mono s)
 |dctT hl r=>exact .dctT hl (r.mono s)
theorem OwnR.rep {w:W}{o:HO}{a:Addr}(h:OwnR K F w o)(e:F a=some o):Rep K F w (.ref a):=by
 cases h with
 |lst r=>exact .lst e r
 |dct hl r=>exact .dct e hl r
 |dctT hl r=>exact .dctT e hl r
theorem OwnR.list {ws:List W}{o:HO}(h:OwnR K F (.lst ws) o):∃vs,o=.lst vs/\Reps K F ws vs:=by
 cases h with
 |lst r=>exact⟨_,rfl,r⟩
noncomputable def lams:List Str:=["_law_terms","_law_in_order","_law_poly_of","voted_terms","law"]
noncomputable def lamQ (x:Str):Str:=x++".<locals>."++"<lambda>"
noncomputable def z67 (c:Addr) (q:Str) (h:Heap):Prop:=∃oc vs t,h.get? c=some oc/\oc.data=.fields vs/\vs[1]?=some (.str q t)
noncomputable def z46 (K:PySem.W.Frag):Prop:=∀x∈lams,∀x'∈lams,∀c c' P,PySem.W.tabIn K x=some (c,P)->PySem.W.tabIn K x'=some (c',P)->x=x'
noncomputable def NoT (pr:Prt):Prop:=∀b xs,¬ pr b (.tup xs)
noncomputable def zr5 (K:PySem.W.Frag) (F:Hp) (pr:Prt) (H:Hp):Prop:=(z46 K/\NoT pr)/\∀x∈lams,∀c P,PySem.W.tabIn K x=some (c,P)->∃ps:Array Value,H P=some (.tbl ps)/\F P=none/\(∀o,¬ pr P o)/\TriplesOk ps.toList /\
 ∀pos cv,codeAmong pos ps.toList=some cv->∃c',cv=.ref c'/\F c'=some (.ext (z67 c' (lamQ x)))
theorem zr5.go {F F' H H' : Hp}{pr pr' : Prt}(T:zr5 K F pr H)(h4:∀b xs,pr' b (.tup xs)->pr b (.tup xs))(h1:∀b ps,H b=some (.tbl ps)->F b=none->H' b=some (.tbl ps)/\F' b=none)(h2:Same F F')(h3:∀b ps,H b=some (.tbl ps)->(∀o,¬ pr b o)->∀o,¬ pr' b o):zr5 K F' pr' H':=⟨⟨T.1.1,λb xs z=>T.1.2 b xs (h4 b xs z)⟩,λx hx c P e=>by
 nofun;obtain⟨ps,a1,a2,a3,a4,a5⟩:=T.2 x hx c P e;ac_rfl;refine⟨ps,(h1 P ps a1 a2).1,(h1 P ps a1 a2).2,h3 P ps a1 a3,a4,λpos cv q=>?_⟩;obtain⟨c',b1,b2⟩:=a5 pos cv q;exact⟨c',b1,h2 _ _ b2⟩⟩
structure Rel (K:PySem.W.Frag) (F:Hp) (pr:Prt) (en:En) (σ:St) (H:Hp):Prop where
 len:en.length=σ.length
 sub:Same F H
 val:∀(i:Nat) (w:W),en[i]?=some (#v[w,6])->∃v,σ[i]?=some (some v)/\Rep K F w v
 own:∀(i:Nat) (w:W),en[i]?=some (#v[w,5])->∃(a:Addr) (o:HO) (w' : W),w=w'/\σ[i]?=some (some (V.ref a))/\H a=some o/\F a=none/\OwnR K F w' o
 inj:∀(i j:Nat) (a:Addr) (w w' : W),en[i]?=some (#v[w,5])->en[j]?=some (#v[w',5])->σ[i]?=some (some (V.ref a))->σ[j]?=some (some (V.ref a))->i=j
 prt:∀b o,pr b o->H b=some o/\F b=none/\∀(i:Nat) (w:W),en[i]?=some (#v[w,5])->σ[i]?≠some (some (V.ref b))
 tb:zr5 K F pr H
noncomputable def Res (K:PySem.W.Frag) (F H:Hp) (pr:Prt) (en:En) (σ:St):W × Bool->V->Prop
 |(w,false),v=>Rep K F w v
 |(w,true),v=>∃(a:Addr) (o:HO) (w' : W),w=w'/\v=V.ref a/\H a=some o/\F a=none/\OwnR K F w' o/\(∀(i:Nat) (w' : W),en[i]?=some (#v[w',5])->σ[i]?≠some (some (V.ref a)))/\∀b o,pr b o->b≠a
noncomputable def RepB (K:PySem.W.Frag) (F H:Hp) (w:W) (v:V):Prop:=Rep K F w v\/∃(a:Addr) (o:HO) (w' : W),w=w'/\v=V.ref a/\H a=some o/\OwnR K F w' o
inductive Out (K:PySem.W.Frag) (F H:Hp):W × Bool->V->Hp->Prop where
 |val {w:W}{v:V} (r:Rep K F w v):Out K F H (w,false) v H
 |lst {p:Addr}{ws:List W}{vs:List V} (n:H p=none) (r:Reps K F ws vs):Out K F H (.lst ws,true) (.ref p) (upd H p (.lst vs))
 |tup {p:Addr}{ws:List W}{vs:List V} (n:H p=none) (r:Reps K F ws vs):Out K F H (.tup ws,false) (.ref p) (upd H p (.tup vs))
theorem Same.upd_both {F H:Hp}(s:Same F H)(p:Addr)(o:HO):Same (upd F p o) (upd H p o):=λb u e=>by
 by_cases hb:b=p
 ·subst hb;rw[upd_same] at e ⊢;exact e
 ·rw[upd_ne hb] at e ⊢;exact s _ _ e
variable {pr:Prt}{en:En}{σ:St}
theorem Rel.lay (R:Rel K F pr en σ H){p:Addr}(hp:H p=none)(o:HO):Rel K F pr en σ (upd H p o):=by
 have ne:∀a u,H a=some u->a≠p:=λa u e=>zae e hp;refine⟨R.len,R.sub.trans (Same.new hp o),R.val,λi w e=>?_,R.inj,λq o2 hq=>?_,R.tb.go (λ_ _ z=>z) (λb ps e f=>⟨by rw[upd_ne (ne b _ e)];exact e,f⟩) (.refl F) λb ps e h=>h⟩
 ·refine aG λGg qG => ?_;obtain⟨a,vs,ws,h1,h2,h3,h4,h5⟩:=R.own i w e;ac_rfl;exact⟨a,vs,ws,h1,h2,by rw[upd_ne (ne a _ h3)];exact h3,h4,h5⟩
 ·obtain⟨h1,h2,h3⟩:=R.prt q o2 hq;exact⟨by rw[upd_ne (ne _ _ h1)];exact h1,h2,h3⟩
theorem Rel.layF (R:Rel K F pr en σ H){p:Addr}(hp:H p=none)(o:HO):Rel K (upd F p o) pr en σ (upd H p o):=by
 have ne:∀a u,H a=some u->a≠p:=λa u e=>zae e hp;have fp:F p=none:=R.sub.free hp;have s:Same F (upd F p o):=Same.new fp o;refine⟨R.len,R.sub.upd_both p o,λi w e=>?_,λi w e=>?_,R.inj,λq o2 hq=>?_,R.tb.go (λ_ _ z=>z) (λb ps e f=>⟨by rw[upd_ne (ne b _ e)];exact e,by rw[upd_ne (ne b _ e)];exact f⟩) s λb ps e h=>h⟩
 ·obtain⟨v,h1,h2⟩:=R.val i w e;exact⟨v,h1,h2.mono s⟩
 ·refine aG λGg qG => ?_;obtain⟨a,vs,ws,h1,h2,h3,h4,h5⟩:=R.own i w e;ac_rfl;exact⟨a,vs,ws,h1,h2,by rw[upd_ne (ne a _ h3)];exact h3,by rw[upd_ne (ne a _ h3)];exact h4,h5.mono s⟩
 ·obtain⟨h1,h2,h3⟩:=R.prt q o2 hq;exact⟨by rw[upd_ne (ne _ _ h1)];exact h1,by rw[upd_ne (ne _ _ h1)];exact h2,h3⟩
theorem Out.close {r:W × Bool}{v:V} (R:Rel K F pr en σ H) (o:Out K F H r v H'):∃F',Same F F'/\Rel K F' pr en σ H'/\Res K F' H' pr en σ r v:=by
  cases o with
  |val r=>exact⟨F,.refl F,R,r⟩
  | @lst p ws vs n r =>
    refine⟨F,.refl F,R.lay n _,p,_,_,rfl,rfl,upd_same,R.sub.free n,.lst r,λi w' e z=>?_,λq o2 hq z=>?_⟩
    · obtain ⟨a, vs, ws, h1, h2, h3, h4, h5⟩ := R.own i w' e
      rw[h2] at z;cases z;rw[n] at h3;exact noSome h3
    · have := (R.prt q o2 hq).1
      rw[z,n] at this;exact noSome this
  |@tup p ws vs n r=>exact⟨upd F p (.tup vs),Same.new (R.sub.free n) _,R.layF n _,.tup upd_same (r.mono (Same.new (R.sub.free n) _))⟩
theorem Out.mono {r:W × Bool}{v:V}(s:Same F F')(o:Out K F H r v H'):Out K F' H r v H':=by
 cases o with
 |val r=>exact .val (r.mono s)
 |lst n r=>exact .lst n (r.mono s)
 |tup n r=>exact .tup n (r.mono s)
theorem Res.freeze {r:W × Bool}{v:V} (R:Rel K F pr en σ H) (h:Res K F H pr en σ r v):∃F',Same F F'/\Rel K F' pr en σ H/\Rep K F' r.1 v:=by
  obtain⟨w,b⟩:=r;cases b with
  |false=>exact⟨F,.refl F,R,h⟩
  | true =>
    nofun;obtain⟨a,vs,ws,rfl,rfl,h1,h2,h3,h4,h5⟩:=h;ac_rfl;have s:Same F (upd F a vs):=Same.new h2 _;have nt:∀ps,vs≠.tbl ps:=λps z=>by cases h3<;>cases z
    refine⟨upd F a vs,s,⟨R.len,λb u e=>?_,λi w e=>?_,λi w e=>?_,R.inj,λq o2 hq=>?_,R.tb.go (λ_ _ z=>z) (λb ps e f=>⟨e,by rw[upd_ne (λz=>by subst z;rw[h1] at e;exact nt ps (sI e))];exact f⟩) s λb ps e h=>h⟩,(h3.mono s).rep upd_same⟩
    · by_cases hb : b = a
      · subst hb;rw[upd_same] at e;obtain rfl:=sI e;exact h1
      · rw[upd_ne hb] at e;exact R.sub _ _ e
    · obtain ⟨v, q1, q2⟩ := R.val i w e
      exact⟨v,q1,q2.mono s⟩
    · refine aG fun Gg qG => ?_
      obtain⟨a',vs',ws',q1,q2,q3,q4,q5⟩:=R.own i w e;ac_rfl;have ne:a'≠a:=λz=>by subst z;exact h4 i w e q2
      exact⟨a',vs',ws',q1,q2,q3,by rw[upd_ne ne];exact q4,q5.mono s⟩
    · obtain ⟨q1, q2, q3⟩ := R.prt q o2 hq
      exact⟨q1,by rw[upd_ne (h5 q o2 hq)];exact q2,q3⟩
theorem Rel.freeze (R:Rel K F pr en σ H) {i:Nat}{w:W}{v:V}{fl:Bool} (e:en[i]?=some (some (w,fl))) (hv:σ[i]?=some (some v)):∃F',Same F F'/\Rel K F' pr (en.set i (some (w,false))) σ H/\Rep K F' w v:=by
  have hi:i<en.length:=(Aj.mp e).1;cases fl with
  | false =>
    obtain⟨v',h1,h2⟩:=R.val i w e;rw[hv] at h1;cases h1;refine⟨F,.refl F,?_,h2⟩;rw[zqs e];exact R
  | true =>
    nofun;obtain⟨a,vs,ws,e0,h2,h3,h4,h5⟩:=R.own i w e;ac_rfl;subst e0;rw[hv] at h2;cases h2;have s:Same F (upd F a vs):=Same.new h4 _;have nt:∀ps,vs≠.tbl ps:=λps z=>by cases h5<;>cases z
    have g:∀j w' b,(en.set i (some (w,false)))[j]?=some (some (w',b))->(j=i/\w'=w/\b=false)\/(j≠i/\en[j]?=some (some (w',b))):=fun j w' b h=>by
      rcases zdw hi h with⟨z,q⟩|z
      · cases q;exact .inl ⟨z,rfl,rfl⟩
      · exact .inr z
    refine⟨upd F a vs,s,⟨by rw[Di];exact R.len,λb u e'=>?_,λj w' e'=>?_,λj w' e'=>?_,λj k b w1 w2 e1 e2=>?_,λq o2 hq=>?_,R.tb.go (λ_ _ z=>z) (λb ps e f=>⟨e,by rw[upd_ne (λz=>by subst z;rw[h3] at e;exact nt ps (sI e))];exact f⟩) s λb ps e h=>h⟩,(h5.mono s).rep upd_same⟩
    · by_cases hb : b = a
      · subst hb;rw[upd_same] at e';obtain rfl:=sI e';exact h3
      · rw[upd_ne hb] at e';exact R.sub _ _ e'
    · rcases g j w' false e' with ⟨rfl, rfl, _⟩ | ⟨_, z⟩
      · exact⟨_,hv,(h5.mono s).rep upd_same⟩
      · obtain ⟨v', q1, q2⟩ := R.val j w' z
        exact⟨v',q1,q2.mono s⟩
    · rcases g j w' true e' with ⟨_, _, z⟩ | ⟨ne, z⟩
      · cases z
      · refine aG fun Gg qG => ?_
        obtain⟨a',vs',ws',q1,q2,q3,q4,q5⟩:=R.own j w' z;ac_rfl;have ne2:a'≠a:=λq=>by subst q;exact ne (R.inj j i a' _ _ z e q2 hv)
        exact⟨a',vs',ws',q1,q2,q3,by rw[upd_ne ne2];exact q4,q5.mono s⟩
    · rcases g j w1 true e1 with ⟨_, _, z⟩ | ⟨_, z1⟩
      · cases z
      · rcases g k w2 true e2 with ⟨_, _, z⟩ | ⟨_, z2⟩
        · cases z
        · exact R.inj j k b _ _ z1 z2
    · obtain ⟨q1, q2, q3⟩ := R.prt q o2 hq
      have ne:q≠a:=fun z=>by
        have:=q3 i _ e;rw[hv,z] at this;exact this rfl
      refine⟨q1,by rw[upd_ne ne];exact q2,λj w' e'=>?_⟩;rcases g j w' true e' with⟨_,_,z⟩|⟨_,z⟩
      · cases z
      · exact q3 j w' z
theorem Rel.repB (R:Rel K F pr en σ H) {i:Nat}{w:W}{fl:Bool}{v:V} (e:en[i]?=some (some (w,fl))) (hv:σ[i]?=some (some v)):RepB K F H w v:=by
  cases fl with
  | false =>
    obtain⟨v',h1,h2⟩:=R.val i w e;rw[hv] at h1;cases h1;exact .inl h2
  | true =>
    nofun;obtain⟨a,o,ws,h1,h2,h3,h4,h5⟩:=R.own i w e;ac_rfl;rw[hv] at h2;cases h2;exact .inr ⟨a,o,ws,h1,rfl,h3,h5⟩
theorem Rel.has (R:Rel K F pr en σ H){i:Nat}{w:W}{fl:Bool}(e:en[i]?=some (some (w,fl))):∃v,σ[i]?=some (some v):=by
 cases fl with
 |false=>obtain⟨v,h,_⟩:=R.val i w e;exact⟨v,h⟩
 |true=>obtain⟨a,_,_,_,h,_⟩:=R.own i w e;exact⟨_,h⟩
theorem Rel.store (R:Rel K F pr en σ H){i:Nat}{r:W × Bool}{v:V}(h:Res K F H pr en σ r v)(hi:i<en.length):Rel K F pr (en.set i (some r)) (σ.set i (some v)) H:=by
 have hi' : i<σ.length:=by rw[<-R.len];exact hi
 have g:∀j x,(en.set i (some r))[j]?=some (some x)->(j=i/\x=r)\/(j≠i/\en[j]?=some (some x)):=λj x h=>by
  rcases zdw hi h with⟨z,q⟩|z
  ·obtain rfl:=sI q;exact .inl ⟨z,rfl⟩
  ·exact .inr z
 have s1:(σ.set i (some v))[i]?=some (some v):=Dg hi';have s2:∀j,j≠i->(σ.set i (some v))[j]?=σ[j]?:=λj hj=>Ch (Ne.symm hj);refine⟨by rw[Di,Di];exact R.len,R.sub,λj w e=>?_,λj w e=>?_,λj k a w1 w2 e1 e2=>?_,λq o2 hq=>?_,R.tb⟩
 ·rcases g j _ e with⟨rfl,z⟩|⟨hj,z⟩
  ·subst z;exact⟨v,s1,h⟩
  ·rw[s2 j hj];exact R.val j w z
 ·rcases g j _ e with⟨rfl,z⟩|⟨hj,z⟩
  ·subst z;obtain⟨a,vs,ws,h1,h2,h3,h4,h5,_⟩:=h;exact⟨a,vs,ws,h1,by rw[s1,h2],h3,h4,h5⟩
  ·rw[s2 j hj];exact R.own j w z
 ·intro q1 q2;rcases g j _ e1 with⟨rfl,z1⟩|⟨hj,z1⟩
  ·rcases g k _ e2 with⟨rfl,z2⟩|⟨hk,z2⟩
   ·rfl
   ·subst z1;obtain⟨a',vs,ws,h1,h2,h3,h4,h5,h6,_⟩:=h;rw[s1,h2] at q1;cases q1;rw[s2 k hk] at q2;exact absurd q2 (h6 k _ z2)
  ·rcases g k _ e2 with⟨rfl,z2⟩|⟨hk,z2⟩
   ·subst z2;obtain⟨a',vs,ws,h1,h2,h3,h4,h5,h6,_⟩:=h;rw[s1,h2] at q2;cases q2;rw[s2 j hj] at q1;exact absurd q1 (h6 j _ z1)
   ·rw[s2 j hj] at q1; rw[s2 k hk] at q2;exact R.inj j k a _ _ z1 z2 q1 q2
 ·obtain⟨q1,q2,q3⟩:=R.prt q o2 hq;refine⟨q1,q2,λj w e=>?_⟩;rcases g j _ e with⟨rfl,z⟩|⟨hj,z⟩
  ·subst z;obtain⟨a',vs,ws,h1,h2,h3,h4,h5,h6,h7⟩:=h;rw[s1,h2];intro q';cases q';exact h7 q o2 hq rfl
  ·rw[s2 j hj];exact q3 j w z
theorem Rel.changeO (R:Rel K F pr en σ H){i:Nat}{w w0:W}{a:Addr}{o0:HO}(e:en[i]?=some (#v[w,5]))(hv:σ[i]?=some (some (.ref a)))(r:OwnR K F w0 o0):Rel K F pr (en.set i (#v[w0,5])) σ (upd H a o0):=by
 have hi:i<en.length:=(Aj.mp e).1;nofun;obtain⟨a0,vs,ws,h1,h2,h3,h4,h5⟩:=R.own i w e;ac_rfl;rw[hv] at h2;cases h2;have nt:∀ps,vs≠.tbl ps:=λps z=>by cases h5<;>cases z
 have nx:∀φ,vs≠.ext φ:=λps z=>by cases h5<;>cases z
 have g:∀j x,(en.set i (#v[w0,5]))[j]?=some (some x)->(j=i/\x=(w0,true))\/(j≠i/\en[j]?=some (some x)):=λj x h=>by
  rcases zdw hi h with⟨z,q⟩|z
  ·obtain rfl:=sI q;exact .inl ⟨z,rfl⟩
  ·exact .inr z
 refine⟨by rw[Di];exact R.len,λb u hb=>?_,λj w' e'=>?_,λj w' e'=>?_,λj k b w1 w2 e1 e2 q1 q2=>?_,λq o2 hq=>?_,R.tb.go (λ_ _ z=>z) (λb ps e f=>⟨by rw[upd_ne (λz=>by subst z;rw[h3] at e;exact nt ps (sI e))];exact e,f⟩) (.refl F) λb ps e h=>h⟩
 ·have : b ≠ a:=λz=>by subst z; rw[h4] at hb; cases hb
  rw[upd_ne this];exact R.sub _ _ hb
 ·rcases g j _ e' with⟨_,z⟩|⟨_,z⟩
  ·cases z
  ·exact R.val j w' z
 ·rcases g j _ e' with⟨rfl,z⟩|⟨hj,z⟩
  ·cases z;exact⟨a,o0,w0,rfl,hv,upd_same,h4,r⟩
  ·refine aG λGg qG => ?_;obtain⟨a',vs2,ws2,q1,q2,q3,q4,q5⟩:=R.own j w' z;ac_rfl;have ne:a'≠a:=λz'=>by subst z';exact hj (R.inj j i a' _ _ z e q2 hv)
   exact⟨a',vs2,ws2,q1,q2,by rw[upd_ne ne];exact q3,q4,q5⟩
 ·have z1:∃w0,en[j]?=some (some (w0,true)):=by
   rcases g j _ e1 with⟨rfl,_⟩|⟨_,z⟩
   ·exact⟨_,e⟩
   ·exact⟨_,z⟩
  have z2:∃w0,en[k]?=some (#v[w0,5]):=by
   rcases g k _ e2 with⟨rfl,_⟩|⟨_,z⟩
   ·exact⟨_,e⟩
   ·exact⟨_,z⟩
  obtain⟨_,z1⟩:=z1;obtain⟨_,z2⟩:=z2;exact R.inj j k b _ _ z1 z2 q1 q2
 ·obtain ⟨q1, q2, q3⟩ := R.prt q o2 hq;have ne:q≠a:=fun z=>by
   have:=q3 i _ e;rw[hv,z] at this;exact this rfl
  refine⟨by rw[upd_ne ne];exact q1,q2,λj w' e'=>?_⟩;rcases g j _ e' with⟨rfl,_⟩|⟨_,z⟩
  ·exact q3 j _ e
  ·exact q3 j w' z
theorem Rel.change (R:Rel K F pr en σ H){i:Nat}{w:W}{a:Addr}{ws' : List W}{vs' : List V}(e:en[i]?=some (#v[w,5]))(hv:σ[i]?=some (some (.ref a)))(r:Reps K F ws' vs'):Rel K F pr (en.set i (#v[ws',2])) σ (upd H a (.lst vs')):=R.changeO e hv (.lst r)
theorem Rel.ownL (R:Rel K F pr en σ H){i:Nat}{ws:List W}(e:en[i]?=some (#v[ws,2])):∃(a:Addr) (vs:List V) (ws' : List W),W.lst ws=.lst ws'/\σ[i]?=some (some (V.ref a))/\H a=some (.lst vs)/\F a=none/\Reps K F ws' vs:=by
 nofun;obtain⟨a,o,w',e1,h2,h3,h4,h5⟩:=R.own i _ e;ac_rfl;subst e1;obtain⟨vs,rfl,r⟩:=h5.list;exact⟨a,vs,ws,rfl,h2,h3,h4,r⟩
theorem Rel.guard (R:Rel K F pr en σ H){p:Addr}(hp:H p=none)(o:HO)(no:∀xs,o≠.tup xs):Rel K F (λb u=>pr b u\/(b=p/\u=o)) en σ (upd H p o):=by
 have L:=R.lay hp o;refine⟨L.len,L.sub,L.val,L.own,L.inj,λb u h=>?_,R.tb.go (λb xs z=>z.elim id λz=>absurd z.2.symm (no xs)) (λb ps e f=>⟨by rw[upd_ne (zae e hp)];exact e,f⟩) (.refl F) λb ps e h o z=>z.elim (h o) λz=>zae e hp z.1⟩;rcases h with h|⟨rfl,rfl⟩
 ·exact L.prt b u h
 ·refine⟨upd_same,R.sub.free hp,λi w e z => ?_⟩;obtain⟨a,vs,ws,h1,h2,h3,h4,h5⟩:=R.own i w e;rw[h2] at z;cases z;rw[hp] at h3;exact noSome h3
theorem Rel.seal {pr' : Prt}(R:Rel K F pr' en σ H){p:Addr}{o:HO}(hg:pr' p o)(no:(∀ps,o≠.tbl ps)/\∀φ,o≠.ext φ)(o' : HO)(hpr:∀b u,pr b u->pr' b u/\b≠p):Rel K (upd F p o') pr en σ (upd H p o'):=by
 obtain⟨g1,g2,g3⟩:=R.prt p o hg;have s:Same F (upd F p o'):=Same.new g2 o';have nt:∀b ps,H b=some (.tbl ps)->b≠p:=λb ps e z=>by subst z;rw[g1] at e;exact no.1 ps (sI e)
 have nx:∀b φ,H b=some (.ext φ)->b≠p:=λb φ e z=>by subst z;rw[g1] at e;exact no.2 φ (sI e)
 refine⟨R.len,R.sub.upd_both p o',λi w e=>?_,λi w e=>?_,R.inj,λq o2 hq=>?_,R.tb.go (λb xs z=>(hpr b _ z).1) (λb ps e f=>⟨by rw[upd_ne (nt b ps e)];exact e,by rw[upd_ne (nt b ps e)];exact f⟩) s λb ps e h o z=>h o (hpr b o z).1⟩
 ·obtain⟨v,h1,h2⟩:=R.val i w e;exact⟨v,h1,h2.mono s⟩
 ·refine aG λGg qG => ?_;obtain⟨a,vs,ws,h1,h2,h3,h4,h5⟩:=R.own i w e;ac_rfl;have ne:a≠p:=λz=>by subst z;exact g3 i w e h2
  exact⟨a,vs,ws,h1,h2,by rw[upd_ne ne];exact h3,by rw[upd_ne ne];exact h4,h5.mono s⟩
 ·refine aG λGg qG => ?_;obtain⟨h0,ne⟩:=hpr q o2 hq;obtain⟨h1,h2,h3⟩:=R.prt q o2 h0;ac_rfl;exact⟨by rw[upd_ne ne];exact h1,by rw[upd_ne ne];exact h2,h3⟩
end
end L2
namespace L2
open PySem PySem.Spec PyProof.Rows
noncomputable abbrev GE:=En->Option (En × (W × Bool))
noncomputable abbrev GA:=En->Option (En × (W ⊕ Nat))
noncomputable abbrev GT:=En->Option (En × Bool)
noncomputable abbrev GAs:=En->Option (En × List (W ⊕ Nat))
noncomputable abbrev GL:=En->Option (En × List W)
noncomputable def ArgR (K:PySem.W.Frag) (F:Hp) (σ:St):W ⊕ Nat->V->Prop
 |.inl w,v=>Rep K F w v
 |.inr i,v=>σ[i]?=some (some v)
inductive ArgRs (K:PySem.W.Frag) (F:Hp) (σ:St):List (W ⊕ Nat)->List V->Prop where
 |nil:ArgRs K F σ [] []
 |cons {x:W ⊕ Nat}{v:V}{xs:List (W ⊕ Nat)}{vs:List V} (h:ArgR K F σ x v) (r:ArgRs K F σ xs vs):ArgRs K F σ (x::xs) (v::vs)
noncomputable def resA (en:En):W ⊕ Nat->Option W
  |.inl w=>some w
  | .inr i=>match en[i]? with
    |some (some (w,_))=>some w
    |_=>none
section
variable {K:PySem.W.Frag}{F F' H:Hp}{pr:Prt}{en:En}{σ:St}
theorem ArgR.mono (s:Same F F'){x:W ⊕ Nat}{v:V}(h:ArgR K F σ x v):ArgR K F' σ x v:=by
 cases x with
 |inl w=>exact Rep.mono s h
 |inr i=>exact h
theorem ArgR.repB (R:Rel K F pr en σ H) {x:W ⊕ Nat}{v:V}{w:W} (h:ArgR K F σ x v) (e:resA en x=some w):RepB K F H w v:=by
  cases x with
  |inl u=>obtain rfl:=sI e;exact .inl h
  | inr i =>
    unfold resA at e;cases q:en[i]? with
    |none=>simp only [q] at e;exact noSome e
    | some o =>
      cases o with
      |none=>simp only [q] at e;exact noSome e
      | some p =>
        obtain⟨u,fl⟩:=p;simp only [q] at e;obtain rfl:=sI e;exact R.repB q h
end
noncomputable def tE (K:PySem.W.Frag) (g:GE):TE:=λσ H Q=>∃F pr en en' r,Rel K F pr en σ H/\g en=some (en',r)/\∀F' H' v,Same F F'->Rel K F' pr en' σ H'->Res K F' H' pr en' σ r v->Q v H'
noncomputable def tA (K:PySem.W.Frag) (g:GA):TE:=λσ H Q=>∃F pr en en' x,Rel K F pr en σ H/\g en=some (en',x)/\∀F' H' v,Same F F'->Rel K F' pr en' σ H'->ArgR K F' σ x v->Q v H'
noncomputable def tT (K:PySem.W.Frag) (g:GT):TT:=λσ H Q=>∃F pr en en' b,Rel K F pr en σ H/\g en=some (en',b)/\∀F' H',Same F F'->Rel K F' pr en' σ H'->Q b H'
noncomputable def tAs (K:PySem.W.Frag) (g:GAs):TA:=λσ H Q=>∃F pr en en' xs,Rel K F pr en σ H/\g en=some (en',xs)/\∀F' H' vs,Same F F'->Rel K F' pr en' σ H'->ArgRs K F' σ xs vs->Q vs H'
theorem PE.wk {X:Cx}{e:Expr}{t t' : TE}(h:PE X e t)(i:∀σ H Q,t' σ H Q->t σ H Q):PE X e t':=λpins s σ H Q I q=>h pins s σ H Q I (i σ H Q q)
theorem PT.wk {X:Cx}{e:Expr}{t t' : TT}(h:PT X e t)(i:∀σ H Q,t' σ H Q->t σ H Q):PT X e t':=λpins s σ H Q I q=>h pins s σ H Q I (i σ H Q q)
theorem PW.wk {X:Cx}{e:Expr}{t t' : TT}(h:PW X e t)(i:∀σ H Q,t' σ H Q->t σ H Q):PW X e t':=λwh pins s σ H Q I q=>h wh pins s σ H Q I (i σ H Q q)
theorem PA.wk {X:Cx}{es:List Expr}{t t' : TA}(h:PA X es t)(i:∀σ H Q,t' σ H Q->t σ H Q):PA X es t':=λpos pins s σ H Q I q=>h pos pins s σ H Q I (i σ H Q q)
theorem PS.wk {X:Cx}{st:Stmt}{t t' : TS}(h:PS X st t)(i:∀D σ H,t' D σ H->t D σ H):PS X st t':=λpins s σ H D I q=>h pins s σ H D I (i D σ H q)
theorem PSs.wk {X:Cx}{st:List Stmt}{t t' : TS}(h:PSs X st t)(i:∀D σ H,t' D σ H->t D σ H):PSs X st t':=λpins s σ H D I q=>h pins s σ H D I (i D σ H q)
theorem PI.wk {X:Cx}{tg e:Expr}{t t' : TI}(h:PI X tg e t)(i:∀σ H R,t' σ H R->t σ H R):PI X tg e t':=λpins s σ H R I q=>h pins s σ H R I (i σ H R q)
noncomputable def gVar (i:Nat):GE:=λen=>match en[i]? with
 |some (some (w,_))=>some (en.set i (#v[w,6]),(w,false))
 |_=>none
noncomputable def zaa (i:Nat):GA:=λen=>match en[i]? with
 |some (#v[w,5])=>some (en,.inr i)
 |some (#v[w,6])=>some (en,.inl w)
 |_=>none
noncomputable def gC (w:W):GE:=λen=>some (en,(w,false))
noncomputable def gArg (g:GE):GA:=λen=>(g en).bind λp=>some (p.1,.inl p.2.1)
noncomputable def gA0:GAs:=λen=>some (en,[])
noncomputable def gCns (a:GA) (as:GAs):GAs:=λen=>(a en).bind λp=>(as p.1).bind λq=>some (q.1,p.2::q.2)
noncomputable def gOp1 (o:W->Option (W × Bool)) (a:GA):GE:=λen=>(a en).bind λp=>(resA p.1 p.2).bind λw=>(o w).bind λr=>some (p.1,r)
noncomputable def gOp2 (o:W->W->Option (W × Bool)) (a b:GA):GE:=λen=>(a en).bind λp=>(b p.1).bind λq=>(resA q.1 p.2).bind λw=>(resA q.1 q.2).bind λu=>(o w u).bind λr=>some (q.1,r)
noncomputable def zar (en:En):List (W ⊕ Nat)->Option (List W)
 |[]=>some []
 |x::xs=>(resA en x).bind λw=>(zar en xs).bind λws=>some (w::ws)
noncomputable def gOpN (o:List W->Option (W × Bool)) (as:GAs):GE:=λen=>(as en).bind λp=>(zar p.1 p.2).bind λws=>(o ws).bind λr=>some (p.1,r)
noncomputable def zad (g:GE):GT:=λen=>match g en with
 |some (en',(.bl b,_))=>some (en',b)
 |_=>none
noncomputable def gAnd (a b:GE):GE:=λen=>match a en with
 |some (en',(.bl true,_))=>b en'
 |some (en',(.bl false,_))=>some (en',#v[9,7])
 |_=>none
noncomputable def gOr (a b:GE):GE:=λen=>match a en with
 |some (en',(.bl true,_))=>some (en',#v[9,12])
 |some (en',(.bl false,_))=>b en'
 |_=>none
noncomputable def gNot (a:GE):GE:=λen=>match a en with
 |some (en',(.bl b,_))=>some (en',(.bl (!b),false))
 |_=>none
noncomputable def zih (a b:GT):GT:=λen=>match a en with
 |#v[en',5]=>b en'
 |#v[en',6]=>#v[en',6]
 |none=>none
noncomputable def gOrT (a b:GT):GT:=λen=>match a en with
 |#v[en',5]=>#v[en',5]
 |#v[en',6]=>b en'
 |none=>none
noncomputable def zbu (a:GT):GT:=λen=>match a en with
 |some (en',b)=>some (en',!b)
 |none=>none
noncomputable def gIf (c:GT) (a b:GE):GE:=λen=>match c en with
 |#v[en',5]=>a en'
 |#v[en',6]=>b en'
 |none=>none
section
variable {K:PySem.W.Frag}{σ:St}{H:Hp}
theorem z01 {i:Nat}{Q:VK} (h:tE K (gVar i) σ H Q):tVar i σ H Q:=by
  obtain⟨F,pr,en,en',r,R,h,q⟩:=h;unfold gVar at h;cases e:en[i]? with
  |none=>simp only [e] at h;exact noSome h
  | some o =>
    cases o with
    |none=>simp only [e] at h;exact noSome h
    | some p =>
      obtain⟨w,fl⟩:=p;simp only [e] at h;cases h;obtain⟨v,hv⟩:=R.has e;obtain⟨F',s,R',z⟩:=R.freeze e hv;exact⟨v,hv,q F' H v s R' z⟩
theorem zx0 {i:Nat}{Q:VK} (h:tA K (zaa i) σ H Q):tVar i σ H Q:=by
  obtain⟨F,pr,en,en',r,R,h,q⟩:=h;unfold zaa at h;cases e:en[i]? with
  |none=>simp only [e] at h;exact noSome h
  | some o =>
    cases o with
    |none=>simp only [e] at h;exact noSome h
    | some p =>
      obtain⟨w,fl⟩:=p;cases fl with
      | true =>
        simp only [e] at h;cases h;obtain⟨v,hv⟩:=R.has e;exact⟨v,hv,q F H v (.refl F) R hv⟩
      | false =>
        simp only [e] at h;cases h;obtain⟨v,hv,z⟩:=R.val i w e;exact⟨v,hv,q F H v (.refl F) R z⟩
theorem zea {w:W}{v:V}{Q:VK}(hr:∀F,Rep K F w v)(h:tE K (gC w) σ H Q):tC v σ H Q:=by
 obtain⟨F,pr,en,en',r,R,h,q⟩:=h;cases h;exact q F H v (.refl F) R (hr F)
theorem zkd {g:GE}{Q:VK}(h:tA K (gArg g) σ H Q):tE K g σ H Q:=by
 obtain⟨F,pr,en,en',x,R,h,q⟩:=h;obtain⟨⟨e1,r⟩,h1,h⟩:=bS h;cases h;refine⟨F,pr,en,e1,r,R,h1,λF1 H1 v s1 R1 z=>?_⟩;obtain⟨F2,s2,R2,y⟩:=z.freeze R1;exact q F2 H1 v (s1.trans s2) R2 y
theorem zp9 {Q:List V->Hp->Prop}(h:tAs K gA0 σ H Q):tNil σ H Q:=by
 obtain⟨F,pr,en,en',x,R,h,q⟩:=h;cases h;exact q F H [] (.refl F) R .nil
theorem zqn {a:GA}{as:GAs}{Q:List V->Hp->Prop}(h:tAs K (gCns a as) σ H Q):tA K a σ H λx H1=>tAs K as σ H1 λxs H2=>Q (x::xs) H2:=by
 nofun;obtain⟨F,pr,en,en',x,R,h,q⟩:=h;obtain⟨⟨e1,y⟩,h1,h⟩:=bS h;obtain⟨⟨e2,ys⟩,h2,h⟩:=bS h;ac_rfl;cases h;exact⟨F,pr,en,e1,y,R,h1,λF1 H1 v s1 R1 a1=>⟨F1,pr,e1,e2,ys,R1,h2,λF2 H2 vs s2 R2 a2=>q F2 H2 (v::vs) (s1.trans s2) R2 (.cons (a1.mono s2) a2)⟩⟩
noncomputable def OpS (K:PySem.W.Frag) (r:R2) (o:W->W->Option (W × Bool)):Prop:=∀F H w1 w2 v1 v2 rv Q,Same F H->RepB K F H w1 v1->RepB K F H w2 v2->o w1 w2=some rv->(∀v H',Out K F H rv v H'->Q v H')->r v1 v2 H Q
theorem zev {r:R2}{o:W->W->Option (W × Bool)}{a b:GA}{Q:VK}(ho:OpS K r o)(h:tE K (gOp2 o a b) σ H Q):tOp r (tA K a) (tA K b) σ H Q:=by
 nofun;obtain⟨F,pr,en,en',rv,R,h,q⟩:=h;obtain⟨⟨e1,x1⟩,h1,h⟩:=bS h;obtain⟨⟨e2,x2⟩,h2,h⟩:=bS h;obtain⟨w1,hw1,h⟩:=bS h;obtain⟨w2,hw2,h⟩:=bS h;obtain⟨r',hr,h⟩:=bS h;ac_rfl;cases h;refine⟨F,pr,en,e1,x1,R,h1,λF1 H1 v1 s1 R1 a1=>⟨F1,pr,e1,e2,x2,R1,h2,λF2 H2 v2 s2 R2 a2=>?_⟩⟩;refine ho F2 H2 w1 w2 v1 v2 rv Q R2.sub ((a1.mono s2).repB R2 hw1) (a2.repB R2 hw2) hr λv H' z=>?_;nofun;obtain⟨F3,s3,R3,y⟩:=z.close R2;ac_rfl;exact q F3 H' v (s1.trans (s2.trans s3)) R3 y
noncomputable def OpS1 (K:PySem.W.Frag) (r:V->Hp->VK->Prop) (o:W->Option (W × Bool)):Prop:=∀F H w v rv Q,Same F H->RepB K F H w v->o w=some rv->(∀u H',Out K F H rv u H'->Q u H')->r v H Q
theorem z0t {r:V->Hp->VK->Prop}{o:W->Option (W × Bool)}{a:GA}{Q:VK}(ho:OpS1 K r o)(h:tE K (gOp1 o a) σ H Q):tUn r (tA K a) σ H Q:=by
 nofun;obtain⟨F,pr,en,en',rv,R,h,q⟩:=h;obtain⟨⟨e1,x1⟩,h1,h⟩:=bS h;obtain⟨w1,hw1,h⟩:=bS h;obtain⟨r',hr,h⟩:=bS h;ac_rfl;cases h;refine⟨F,pr,en,e1,x1,R,h1,λF1 H1 v1 s1 R1 a1=>?_⟩;refine ho F1 H1 w1 v1 rv Q R1.sub (a1.repB R1 hw1) hr λv H' z=>?_;nofun;obtain⟨F3,s3,R3,y⟩:=z.close R1;ac_rfl;exact q F3 H' v (s1.trans s3) R3 y
inductive RepBs (K:PySem.W.Frag) (F H:Hp):List W->List V->Prop where
 |nil:RepBs K F H [] []
 |cons {w:W}{v:V}{ws:List W}{vs:List V} (h:RepB K F H w v) (r:RepBs K F H ws vs):RepBs K F H (w::ws) (v::vs)
theorem ArgRs.repBs {F:Hp}{pr:Prt}{en:En} (R:Rel K F pr en σ H):∀{xs:List (W ⊕ Nat)}{vs:List V}{ws:List W},ArgRs K F σ xs vs->zar en xs=some ws->RepBs K F H ws vs
  |_,_,_,.nil,e=>by obtain rfl:=sI e;exact .nil
  | _,_,_,.cons h r,e=>by
    obtain⟨w,hw,e⟩:=bS e;obtain⟨ws,hws,e⟩:=bS e;obtain rfl:=sI e;exact .cons (h.repB R hw) (ArgRs.repBs R r hws)
noncomputable def OpSN (K:PySem.W.Frag) (r:List V->Hp->VK->Prop) (o:List W->Option (W × Bool)):Prop:=∀F H ws vs rv Q,Same F H->RepBs K F H ws vs->o ws=some rv->(∀u H',Out K F H rv u H'->Q u H')->r vs H Q
theorem zz4 {r:List V->Hp->VK->Prop}{o:List W->Option (W × Bool)}{as:GAs}{Q:VK}(ho:OpSN K r o)(h:tE K (gOpN o as) σ H Q):tCB r (tAs K as) σ H Q:=by
 nofun;obtain⟨F,pr,en,en',rv,R,h,q⟩:=h;obtain⟨⟨e1,x1⟩,h1,h⟩:=bS h;obtain⟨w1,hw1,h⟩:=bS h;obtain⟨r',hr,h⟩:=bS h;ac_rfl;cases h;refine⟨F,pr,en,e1,x1,R,h1,λF1 H1 v1 s1 R1 a1=>?_⟩;refine ho F1 H1 w1 v1 rv Q R1.sub (a1.repBs R1 hw1) hr λv H' z=>?_;nofun;obtain⟨F3,s3,R3,y⟩:=z.close R1;ac_rfl;exact q F3 H' v (s1.trans s3) R3 y
theorem Res.isBl {F H:Hp}{pr:Prt}{en:En}{σ:St}{b fl:Bool}{v:V}(h:Res K F H pr en σ (.bl b,fl) v):v=.bl b:=by
 cases fl with
 |false=>cases (show Rep K F (.bl b) v from h);rfl
 |true=>obtain⟨_,_,_,e,_,_,_,q,_⟩:=h;subst e;cases q
theorem zgy {g:GE}{t:TE}{Q:Bool->Hp->Prop} (ht:∀σ H Q,tE K g σ H Q->t σ H Q) (h:tT K (zad g) σ H Q):z6q t σ H Q:=by
  obtain⟨F,pr,en,en',b,R,h,q⟩:=h;unfold zad at h;refine ht σ H _ ?_;cases e:g en with
  |none=>simp only [e] at h;exact noSome h
  | some p =>
    obtain⟨e1,w,fl⟩:=p;cases w with
    |bl c=>simp only [e] at h;cases h;exact⟨F,pr,en,_,_,R,e,λF' H' v s' R' z=>⟨b,z.isBl,q F' H' s' R'⟩⟩
    |_=>simp only [e] at h;exact noSome h
theorem zzf {a b:GE}{Q:VK} (h:tE K (gAnd a b) σ H Q):z95 (tE K a) (tE K b) σ H Q:=by
  nofun;obtain⟨F,pr,en,en',r,R,h,q⟩:=h;ac_rfl;unfold gAnd at h;cases e:a en with
  |none=>simp only [e] at h;exact noSome h
  | some p =>
    obtain⟨e1,w,fl⟩:=p;cases w with
    | bl c =>
      refine⟨F,pr,en,_,_,R,e,λF1 H1 v s1 R1 z=>⟨c,z.isBl,?_⟩⟩;cases c with
      | true =>
        simp only [e] at h;exact iteT ⟨F1,pr,e1,en',r,R1,h,λF2 H2 v s2 R2 z2=>q F2 H2 v (s1.trans s2) R2 z2⟩
      | false =>
        simp only [e] at h;cases h;exact iteF (q F1 H1 _ s1 R1 (.bl false))
    |_=>simp only [e] at h;exact noSome h
theorem z0v {a:GE}{Q:VK} (h:tE K (gNot a) σ H Q):yce (tE K a) σ H Q:=by
  obtain⟨F,pr,en,en',r,R,h,q⟩:=h;unfold gNot at h;cases e:a en with
  |none=>simp only [e] at h;exact noSome h
  | some p =>
    obtain⟨e1,w,fl⟩:=p;cases w with
    | bl c =>
      simp only [e] at h;cases h;exact⟨F,pr,en,_,_,R,e,λF1 H1 v s1 R1 z=>⟨c,z.isBl,q F1 H1 _ s1 R1 (.bl _)⟩⟩
    |_=>simp only [e] at h;exact noSome h
theorem ztp {a b:GT}{Q:Bool->Hp->Prop} (h:tT K (zih a b) σ H Q):tAnd (tT K a) (tT K b) σ H Q:=by
  nofun;obtain⟨F,pr,en,en',r,R,h,q⟩:=h;ac_rfl;unfold zih at h;cases e:a en with
  |none=>simp only [e] at h;exact noSome h
  | some p =>
    obtain⟨e1,c⟩:=p;refine⟨F,pr,en,_,_,R,e,λF1 H1 s1 R1=>?_⟩;cases c with
    |true=>simp only [e] at h;exact iteT ⟨F1,pr,e1,en',r,R1,h,λF2 H2 s2 R2=>q F2 H2 (s1.trans s2) R2⟩
    |false=>simp only [e] at h;cases h;exact iteF (q F1 H1 s1 R1)
theorem z0s {a b:GT}{Q:Bool->Hp->Prop} (h:tT K (gOrT a b) σ H Q):tOr (tT K a) (tT K b) σ H Q:=by
  nofun;obtain⟨F,pr,en,en',r,R,h,q⟩:=h;ac_rfl;unfold gOrT at h;cases e:a en with
  |none=>simp only [e] at h;exact noSome h
  | some p =>
    obtain⟨e1,c⟩:=p;refine⟨F,pr,en,_,_,R,e,λF1 H1 s1 R1=>?_⟩;cases c with
    |false=>simp only [e] at h;exact iteF ⟨F1,pr,e1,en',r,R1,h,λF2 H2 s2 R2=>q F2 H2 (s1.trans s2) R2⟩
    |true=>simp only [e] at h;cases h;exact iteT (q F1 H1 s1 R1)
theorem zv1 {a:GT}{Q:Bool->Hp->Prop} (h:tT K (zbu a) σ H Q):tNot (tT K a) σ H Q:=by
  obtain⟨F,pr,en,en',r,R,h,q⟩:=h;unfold zbu at h;cases e:a en with
  |none=>simp only [e] at h;exact noSome h
  | some p =>
    obtain⟨e1,c⟩:=p;simp only [e] at h;cases h;exact⟨F,pr,en,_,_,R,e,λF1 H1 s1 R1=>q F1 H1 s1 R1⟩
theorem z5b {c:GT}{a b:GE}{Q:VK} (h:tE K (gIf c a b) σ H Q):tIf (tT K c) (tE K a) (tE K b) σ H Q:=by
  nofun;obtain⟨F,pr,en,en',r,R,h,q⟩:=h;ac_rfl;unfold gIf at h;cases e:c en with
  |none=>simp only [e] at h;exact noSome h
  | some p =>
    obtain⟨e1,d⟩:=p;refine⟨F,pr,en,_,_,R,e,λF1 H1 s1 R1=>?_⟩;cases d with
    |true=>simp only [e] at h;exact iteT ⟨F1,pr,e1,en',r,R1,h,λF2 H2 v s2 R2 z=>q F2 H2 v (s1.trans s2) R2 z⟩
    |false=>simp only [e] at h;exact iteF ⟨F1,pr,e1,en',r,R1,h,λF2 H2 v s2 R2 z=>q F2 H2 v (s1.trans s2) R2 z⟩
end
noncomputable def zbh:List (W ⊕ Nat)->Option (List W)
 |[]=>some []
 |.inl w::xs=>(zbh xs).bind λws=>some (w::ws)
 |.inr _::_=>none
theorem ArgRs.reps {K:PySem.W.Frag}{F:Hp}{σ:St}:∀{xs:List (W ⊕ Nat)}{vs:List V}{ws:List W},ArgRs K F σ xs vs->zbh xs=some ws->Reps K F ws vs
  |_,_,_,.nil,e=>by obtain rfl:=sI e;exact .nil
  | .inl w::xs,_,_,.cons h r,e=>by
    obtain⟨ws,hws,e⟩:=bS (show (zbh xs).bind _=_ from e);obtain rfl:=sI e;exact .cons h (ArgRs.reps r hws)
  |.inr i::xs,_,_,.cons h r,e=>by exact noSome e
noncomputable def zab (as:GAs):GE:=λen=>(as en).bind λp=>(zbh p.2).bind λws=>if ws.length<=sizeLine then some (p.1,(.tup ws,false)) else none
noncomputable def zag (as:GAs):GE:=λen=>(as en).bind λp=>(zbh p.2).bind λws=>if ws.length<=sizeLine then some (p.1,(.lst ws,true)) else none
section
variable {K:PySem.W.Frag}{σ:St}{H:Hp}
theorem z08 {as:GAs}{Q:VK}(h:tE K (zab as) σ H Q):tTup (tAs K as) σ H Q:=by
 obtain⟨F,pr,en,en',r,R,h,q⟩:=h;obtain⟨⟨e1,xs⟩,h1,h⟩:=bS h;obtain⟨ws,h2,h⟩:=bS h;split at h
 ·rename_i hz;cases h;refine⟨F,pr,en,e1,xs,R,h1,λF1 H1 vs s1 R1 a1=>?_⟩;have rr:=a1.reps h2;refine⟨by rw[<-rr.length];exact hz,λp hp=>?_⟩;obtain⟨F2,s2,R2,z⟩:=(Out.tup (K:=K) hp rr).close R1;exact q F2 _ _ (s1.trans s2) R2 z
 ·exact noSome h
theorem z0r {as:GAs}{Q:VK}(h:tE K (zag as) σ H Q):tLst (tAs K as) σ H Q:=by
 nofun;obtain⟨F,pr,en,en',r,R,h,q⟩:=h;obtain⟨⟨e1,xs⟩,h1,h⟩:=bS h;obtain⟨ws,h2,h⟩:=bS h;ac_rfl;split at h
 ·rename_i hz;cases h;refine⟨F,pr,en,e1,xs,R,h1,λF1 H1 vs s1 R1 a1=>?_⟩;have rr:=a1.reps h2;refine⟨by rw[<-rr.length];exact hz,λp hp=>?_⟩;nofun;obtain⟨F2,s2,R2,z⟩:=(Out.lst (K:=K) hp rr).close R1;ac_rfl;exact q F2 _ _ (s1.trans s2) R2 z
 ·exact noSome h
noncomputable def zis (o o' : W->W->Option (W × Bool)) (a b c:GA):GE:=λen=>(a en).bind λp=>(b p.1).bind λq=>(resA q.1 p.2).bind λw=>(resA q.1 q.2).bind λu=>match o w u with
 |some #v[9,12]=>(c q.1).bind λt=>(resA t.1 q.2).bind λu'=>(resA t.1 t.2).bind λz=>(o' u' z).bind λr=>some (t.1,r)
 |some #v[9,7]=>some (q.1,#v[9,7])
 |_=>none
theorem ziz {r r' : R2}{o o' : W->W->Option (W × Bool)}{a b c:GA}{Q:VK} (ho:OpS K r o) (ho' : OpS K r' o') (h:tE K (zis o o' a b c) σ H Q):zyg r r' (tA K a) (tA K b) (tA K c) σ H Q:=by
  nofun;obtain⟨F,pr,en,en',rv,R,h,q⟩:=h;obtain⟨⟨e1,x1⟩,h1,h⟩:=bS h;obtain⟨⟨e2,x2⟩,h2,h⟩:=bS h;obtain⟨w1,hw1,h⟩:=bS h;obtain⟨w2,hw2,h⟩:=bS h;ac_rfl;refine⟨F,pr,en,e1,x1,R,h1,λF1 H1 v1 s1 R1 a1=>⟨F1,pr,e1,e2,x2,R1,h2,λF2 H2 v2 s2 R2 a2=>?_⟩⟩;cases e:o w1 w2 with
  |none=>simp only [e] at h;exact noSome h
  | some p =>
    obtain⟨w,fl⟩:=p;cases w with
    | bl k =>
      cases fl with
      |true=>simp only [e] at h;cases k<;>exact noSome h
      | false =>
        refine ho F2 H2 w1 w2 v1 v2 _ _ R2.sub ((a1.mono s2).repB R2 hw1) (a2.repB R2 hw2) e λv H' z=>?_;cases z with
        | val z =>
          cases z;refine⟨k,rfl,?_⟩;cases k with
          | false =>
            simp only [e] at h;cases h;exact iteF (q F2 H2 _ (s1.trans s2) R2 (.bl false))
          | true =>
            simp only [e] at h;nofun;obtain⟨⟨e3,x3⟩,h3,h⟩:=bS h;obtain⟨w2',hw2',h⟩:=bS h;obtain⟨w3,hw3,h⟩:=bS h;obtain⟨r3,hr3,h⟩:=bS h;ac_rfl;cases h;refine iteT ⟨F2,pr,e2,e3,x3,R2,h3,λF3 H3 v3 s3 R3 a3=>?_⟩;refine ho' F3 H3 w2' w3 v2 v3 _ _ R3.sub ((a2.mono s3).repB R3 hw2') (a3.repB R3 hw3) hr3 λv H' z=>?_;nofun;obtain⟨F4,s4,R4,y⟩:=z.close R3;ac_rfl;exact q F4 H' v (s1.trans (s2.trans (s3.trans s4))) R4 y
    |_=>simp only [e] at h;exact noSome h
end
section
variable {K:PySem.W.Frag}{F H:Hp}{v:V}
theorem RepB.int {i:Int}(h:RepB K F H (.int i) v):v=.int i:=by
 rcases h with h|⟨_,_,_,e,_,_,q⟩
 ·cases h;rfl
 ·subst e;cases q
theorem RepB.bl {b:Bool}(h:RepB K F H (.bl b) v):v=.bl b:=by
 rcases h with h|⟨_,_,_,e,_,_,q⟩
 ·cases h;rfl
 ·subst e;cases q
theorem RepB.str {x:Str}(h:RepB K F H (.str x) v):v=.str x:=by
 rcases h with h|⟨_,_,_,e,_,_,q⟩
 ·cases h;rfl
 ·subst e;cases q
theorem RepB.non (h:RepB K F H .non v):v=.non:=by
 rcases h with h|⟨_,_,_,e,_,_,q⟩
 ·cases h;rfl
 ·subst e;cases q
theorem RepB.lst {ws:List W}(s:Same F H)(h:RepB K F H (.lst ws) v):∃a vs,v=.ref a/\H a=some (.lst vs)/\Reps K F ws vs:=by
 rcases h with h|⟨a,o,ws',e,e2,h,r⟩
 ·cases h with
  |lst h r=>exact⟨_,_,rfl,s _ _ h,r⟩
 ·subst e;obtain⟨vs,rfl,r'⟩:=r.list;exact⟨a,vs,e2,h,r'⟩
theorem RepB.tup {ws:List W}(s:Same F H)(h:RepB K F H (.tup ws) v):∃a vs,v=.ref a/\H a=some (.tup vs)/\F a=some (.tup vs)/\Reps K F ws vs:=by
 rcases h with h|⟨_,_,_,e,_,_,q⟩
 ·cases h with
  |tup h r=>exact⟨_,_,rfl,s _ _ h,h,r⟩
 ·subst e;cases q
theorem RepB.frl {ws:List W}(s:Same F H)(h:RepB K F H (.frl ws) v):∃a vs,v=.ref a/\SqL K H a vs/\Reps K F ws vs:=by
 rcases h with h|⟨_,_,_,e,_,_,q⟩
 ·cases h with
  |frl h r=>exact⟨_,_,rfl,s.seq h,r⟩
 ·subst e;cases q
noncomputable def seqL:W->Option (List W)
 |.lst ws=>some ws
 |.frl ws=>some ws
 |_=>none
noncomputable def seqW:W->Option (List W)
 |.lst ws=>some ws
 |.frl ws=>some ws
 |.tup ws=>some ws
 |_=>none
theorem RepB.seqL {w:W}{ws:List W}(s:Same F H)(h:RepB K F H w v)(e:L2.seqL w=some ws):∃a vs,v=.ref a/\SqL K H a vs/\Reps K F ws vs:=by
 cases w with
 |lst xs=>obtain rfl:=sI e;obtain⟨a,vs,e,h,r⟩:=h.lst s;exact⟨a,vs,e,SqL.of' h,r⟩
 |frl xs=>obtain rfl:=sI e;exact h.frl s
 |_=>exact noSome e
theorem RepB.seqW {w:W}{ws:List W}(s:Same F H)(h:RepB K F H w v)(e:L2.seqW w=some ws):∃a vs,v=.ref a/\(SqL K H a vs\/SqT K H a vs)/\Reps K F ws vs:=by
 cases w with
 |lst xs=>obtain rfl:=sI e;obtain⟨a,vs,e,h,r⟩:=h.lst s;exact⟨a,vs,e,.inl (SqL.of' h),r⟩
 |frl xs=>obtain rfl:=sI e;obtain⟨a,vs,e,h,r⟩:=h.frl s;exact⟨a,vs,e,.inl h,r⟩
 |tup xs=>obtain rfl:=sI e;obtain⟨a,vs,e,h,_,r⟩:=h.tup s;exact⟨a,vs,e,.inr (.inl (.inl h)),r⟩
 |_=>exact noSome e
end
noncomputable abbrev O2:=W->W->Option (W × Bool)
noncomputable def oI (c:Int->Int->Bool) (g:Int->Int->W):O2
 |.int i,.int j=>if c i j then #v[g i j,6] else none
 |_,_=>none
section
variable {K:PySem.W.Frag}
theorem zmd {c:Int->Int->Bool}{C:Int->Int->Prop}{g:Int->Int->W}{g' : Int->Int->V} (hc:∀i j,c i j=true->C i j) (hg:∀F i j,Rep K F (g i j) (g' i j)):OpS K (rI C g') (oI c g):=fun F H w1 w2 v1 v2 rv Q s r1 r2 e q=>by
  cases w1 with
  | int i =>
    cases w2 with
    | int j =>
      unfold oI at e;simp only at e;split at e
      · rename_i z
        obtain rfl:=sI e;exact⟨i,j,r1.int,r2.int,hc i j z,q _ _ (.val (hg F i j))⟩
      · exact noSome e
    |_=>exact noSome e
  |_=>exact noSome e
theorem zco {g:Int->Int->W}{g' : Int->Int->V} (hg:∀F i j,Rep K F (g i j) (g' i j)):OpS K (rI0 g') (oI (fun _ _=>true) g):=fun F H w1 w2 v1 v2 rv Q s r1 r2 e q=>by
  cases w1 with
  | int i =>
    cases w2 with
    |int j=>obtain rfl:=sI e;exact⟨i,j,r1.int,r2.int,q _ _ (.val (hg F i j))⟩
    |_=>exact noSome e
  |_=>exact noSome e
theorem OpS.or {r r' : R2}{o o' : O2}(h:OpS K r o)(h' : OpS K r' o'):OpS K (λx y H Q=>r x y H Q\/r' x y H Q) (λa b=>match o a b with|some p=>some p|none=>o' a b):=λF H w1 w2 v1 v2 rv Q s r1 r2 e q=>by
 cases z:o w1 w2 with
 |some p=>simp only [z] at e;obtain rfl:=sI e;exact .inl (h F H w1 w2 v1 v2 _ Q s r1 r2 z q)
 |none=>simp only [z] at e;exact .inr (h' F H w1 w2 v1 v2 _ Q s r1 r2 e q)
end
noncomputable def oOr (o o' : O2):O2:=λa b=>match o a b with|some p=>some p|none=>o' a b
noncomputable def oCat:O2
 |.lst xs,.lst ys=>if xs.length+ys.length<=sizeLine then #v[(xs++ys),2] else none
 |_,_=>none
noncomputable def zy7:O2
 |.tup (x::xs),.tup ys=>if (x::xs).length+ys.length<=sizeLine then #v[(x::xs++ys),3] else none
 |_,_=>none
noncomputable def z8b:O2
 |.tup [],.tup ys=>#v[ys,3]
 |_,_=>none
noncomputable def zy4:O2
 |.str x,.str y=>if x.length+y.length<=sizeLine then some (.str (x++y),false) else none
 |_,_=>none
noncomputable def oRep:O2
 |.lst xs,.int k=>if -(2 ^ 63)<=k/\k<2 ^ 63/\xs.length * k.toNat<=sizeLine then #v[(List.replicate k.toNat xs).flatten,2] else none
 |_,_=>none
section
variable {K:PySem.W.Frag}
theorem z7z:OpS K rCat oCat:=fun F H w1 w2 v1 v2 rv Q s r1 r2 e q=>by
  cases w1 with
  | lst xs =>
    cases w2 with
    | lst ys =>
      unfold oCat at e;simp only at e;split at e
      · rename_i z
        obtain rfl:=sI e;nofun;obtain⟨a,vs,e1,h1,p1⟩:=r1.lst s;obtain⟨b,us,e2,h2,p2⟩:=r2.lst s;ac_rfl;exact⟨a,b,vs,us,e1,e2,h1,h2,by rw[<-p1.length,<-p2.length];exact z,λp hp=>q _ _ (.lst hp (p1.append p2))⟩
      · exact noSome e
    |_=>exact noSome e
  |_=>exact noSome e
theorem z62:OpS K rRep oRep:=fun F H w1 w2 v1 v2 rv Q s r1 r2 e q=>by
  cases w1 with
  | lst xs =>
    cases w2 with
    | int k =>
      unfold oRep at e;simp only at e;split at e
      · rename_i z
        obtain rfl:=sI e;obtain⟨a,vs,e1,h1,p1⟩:=r1.lst s;exact⟨a,k,vs,e1,r2.int,h1,z.1,z.2.1,by rw[<-p1.length];exact z.2.2,λp hp=>q _ _ (.lst hp (p1.rep _))⟩
      · exact noSome e
    |_=>exact noSome e
  |_=>exact noSome e
theorem zyq:OpS K (z9p K) zy7:=fun F H w1 w2 v1 v2 rv Q s r1 r2 e q=>by
  cases w1 with
  | tup xs =>
    cases xs with
    |nil=>cases w2<;>exact noSome e
    | cons x xs =>
      cases w2 with
      | tup ys =>
        unfold zy7 at e;simp only at e;split at e
        · rename_i z
          obtain rfl:=sI e;nofun;obtain⟨a,vs,e1,h1,f1,p1⟩:=r1.tup s;obtain⟨b,us,e2,h2,f2,p2⟩:=r2.tup s;ac_rfl;refine⟨a,b,vs,us,e1,e2,.inl (.inl h1),.inl (.inl h2),?_,by rw[<-p1.length,<-p2.length];exact z,λhu=>?_,λ_ p hp=>q _ _ (.tup hp (p1.append p2))⟩
          · intro e;subst e;cases p1
          · subst hu
            cases p2;rw[By] at q;exact q _ _ (.val (.tup f1 p1))
        · exact noSome e
      |_=>exact noSome e
  |_=>exact noSome e
mutual
inductive DV (H:Hp):V->PyData->Prop where
 |non:DV H .non .none
 |bl (b:Bool):DV H (.bl b) (.bool b)
 |int (i:Int):DV H (.int i) (.int i)
 |str (x:Str):DV H (.str x) (.str x)
 |tup {a:Addr}{vs:List V}{ds:List PyData} (h:H a=some (.tup vs)) (r:DVs H vs ds):DV H (.ref a) (.tuple ds)
 |lst {a:Addr}{vs:List V}{ds:List PyData} (h:H a=some (.lst vs)) (r:DVs H vs ds):DV H (.ref a) (.list ds)
inductive DVs (H:Hp):List V->List PyData->Prop where
 |nil:DVs H [] []
 |cons {v:V}{d:PyData}{vs:List V}{ds:List PyData} (h:DV H v d) (r:DVs H vs ds):DVs H (v::vs) (d::ds)
end
section
variable {X:Cx}{pins:List (Addr × Obj)}{σ:St}{H:Hp}{s:Shared}
mutual
theorem DV.reads (I:Inv X pins σ H s):∀{v:V}{d:PyData}{u:Value},DV H v d->RelV v u->∃as,Reads s.heap u d as
  |_,_,_,.non,r=>by cases (show _=Value.none from r);exact⟨_,.none⟩
  |_,_,_,.bl b,r=>by cases (show _=Value.bool b from r);exact⟨_,.bool b⟩
  |_,_,_,.int i,r=>by obtain⟨t,e⟩:=(show ∃t,_=Value.int i t from r);subst e;exact⟨_,.int i t⟩
  |_,_,_,.str x,r=>by obtain⟨t,e⟩:=(show ∃t,_=Value.str x t from r);subst e;exact⟨_,.str x t⟩
  | _,_,_,.tup h q,r=>by
    cases r;obtain⟨its,rv,⟨o,e,c,n,dt⟩,_⟩:=I.tuple (.inl (.inl h));obtain⟨as,ra⟩:=DVs.reads I q rv;exact⟨as,.tuple e c dt (by simpa using ra)⟩
  | _,_,_,.lst h q,r=>by
    cases r;obtain⟨its,rv,⟨o,n,e,c,_,dt⟩,_⟩:=I.list (SqL.of' h);obtain⟨as,ra⟩:=DVs.reads I q rv;exact⟨_,.list e c dt (by simpa using ra)⟩
theorem DVs.reads (I:Inv X pins σ H s):∀{vs:List V}{ds:List PyData}{us:List Value},DVs H vs ds->Vals vs us->∃as,ReadsAll s.heap us ds as
  |_,_,_,.nil,r=>by cases r;exact⟨_,.nil⟩
  | _,_,_,.cons h q,r=>by
    cases r with
    | cons r1 r2 =>
      obtain⟨as,a⟩:=DV.reads I h r1;obtain⟨bs,b⟩:=DVs.reads I q r2;exact⟨_,.cons a b⟩
end
end
mutual
noncomputable def dW:W->Option PyData
 |.non=>some .none
 |.bl b=>some (.bool b)
 |.int i=>some (.int i)
 |.str x=>some (.str x)
 |.tup ws=>(dWs ws).bind λds=>some (.tuple ds)
 |.lst ws=>(dWs ws).bind λds=>some (.list ds)
 |_=>none
noncomputable def dWs:List W->Option (List PyData)
 |[]=>some []
 |w::ws=>(dW w).bind λd=>(dWs ws).bind λds=>some (d::ds)
end
section
variable {K:PySem.W.Frag}{F H:Hp}
mutual
theorem z3w (s:Same F H):∀{w:W}{v:V}{d:PyData},Rep K F w v->dW w=some d->DV H v d
  |_,_,_,.non,e=>by obtain rfl:=sI e;exact .non
  |_,_,_,.bl b,e=>by obtain rfl:=sI e;exact .bl b
  |_,_,_,.int i,e=>by obtain rfl:=sI e;exact .int i
  |_,_,_,.str x,e=>by obtain rfl:=sI e;exact .str x
  | _,_,_,.tup h r,e=>by
    rw[dW] at e;obtain⟨ds,e1,e2⟩:=bS e;obtain rfl:=sI e2;exact .tup (s _ _ h) (zkn s r e1)
  | _,_,_,.lst h r,e=>by
    rw[dW] at e;obtain⟨ds,e1,e2⟩:=bS e;obtain rfl:=sI e2;exact .lst (s _ _ h) (zkn s r e1)
  |_,_,_,.frl _ _,e=>by exact noSome e
  |_,_,_,.dic _,e=>by exact noSome e
  |_,_,_,.dct _ _ _,e=>by exact noSome e
  |_,_,_,.dctT _ _ _,e=>by exact noSome e
  |_,_,_,.dcz _ _ _,e=>by exact noSome e
  |_,_,_,.dczT _ _ _,e=>by exact noSome e
theorem zkn (s:Same F H):∀{ws:List W}{vs:List V}{ds:List PyData},Reps K F ws vs->dWs ws=some ds->DVs H vs ds
  |_,_,_,.nil,e=>by cases e;exact .nil
  | _,_,_,.cons h r,e=>by
    rw[dWs] at e;obtain⟨d,e1,e⟩:=bS e;obtain⟨ds,e2,e3⟩:=bS e;cases e3;exact .cons (z3w s h e1) (zkn s r e2)
end
theorem zws {w:W}{v:V}{d:PyData} (s:Same F H) (r:RepB K F H w v) (hd:dW w=some d):DV H v d:=by
  rcases r with r|⟨a,o,us,z,rfl,h,q⟩
  · exact z3w s r hd
  · subst z
    cases q with
    |dct hl q=>exact noSome hd
    |dctT hl q=>exact noSome hd
    | lst q =>
      rw[dW] at hd;obtain⟨ds,e1,e2⟩:=bS hd;obtain rfl:=sI e2;exact .lst h (zkn s q e1)
end
noncomputable def rEqD (g:Bool->Bool):R2:=λx y H Q=>∃d d',DV H x d/\DV H y d'/\d.canLay0=true/\d'.canLay0=true/\d.depth<=100/\Q (.bl (g (PyData.eqv d d'))) H
theorem z8p {X:Cx}{k:Nat}(hr:Room k X.A):OpR X (compareOp .Eq) (rEqD id):=by
 intro pins s σ H x y v u Q I rx ry h;nofun;obtain⟨d,d',d1,d2,h1,h2,h3,q⟩:=h;obtain⟨as,ra⟩:=d1.reads I rx;obtain⟨bs,rb⟩:=d2.reads I ry;ac_rfl;exact SeqAt.compareEq_reads ra rb h1 h2 (by have:=hr.un;omega) ⟨.bl _,H,I,rfl,q⟩
theorem yae {X:Cx}{k:Nat}(hr:Room k X.A):OpR X (compareOp .NotEq) (rEqD not):=by
 intro pins s σ H x y v u Q I rx ry h;nofun;obtain⟨d,d',d1,d2,h1,h2,h3,q⟩:=h;obtain⟨as,ra⟩:=d1.reads I rx;obtain⟨bs,rb⟩:=d2.reads I ry;ac_rfl;exact SeqAt.neOverData X.prog X.w X.A X.xe s v u d d' as bs _ ra rb h1 h2 (by have:=hr.un;omega) ⟨.bl _,H,I,rfl,q⟩
noncomputable def eqD (a b:W):Option Bool:=(dW a).bind λd=>(dW b).bind λd'=>if d.canLay0 && d'.canLay0 && decide (d.depth<=100) then some (PyData.eqv d d') else none
theorem z3s {K:PySem.W.Frag}{F H:Hp}{w1 w2:W}{v1 v2:V}{k:Bool}(s:Same F H)(r1:RepB K F H w1 v1)(r2:RepB K F H w2 v2)(e:eqD w1 w2=some k):∃d d',DV H v1 d/\DV H v2 d'/\d.canLay0=true/\d'.canLay0=true/\d.depth<=100/\k=PyData.eqv d d':=by
 nofun;obtain⟨d,h1,e⟩:=bS e;obtain⟨d',h2,e⟩:=bS e;ac_rfl;split at e
 ·rename_i z;rw[Ac,Ac] at z;obtain rfl:=sI e;exact⟨d,d',zws s r1 h1,zws s r2 h2,z.1.1,z.1.2,Al z.2,rfl⟩
 ·exact noSome e
noncomputable def z5v:W->W->Option Bool
 |.non,.non=>some true|.non,.int _=>some false|.int _,.non=>some false|.non,.bl _=>some false|.bl _,.non=>some false|.non,.str _=>some false|.str _,.non=>some false
 |.int i,.int j=>some (decide (i=j))|.bl i,.bl j=>some (decide (i=j))|.str i,.str j=>some (decide (i=j))
 |.int _,.str _=>some false|.str _,.int _=>some false|.bl _,.str _=>some false|.str _,.bl _=>some false
 |_,_=>none
noncomputable def oEq:O2:=λa b=>match z5v a b with
 |some k=>some (.bl k,false)
 |none=>(eqD a b).bind λk=>some (.bl k,false)
noncomputable def oNe:O2:=λa b=>match z5v a b with
 |some k=>some (.bl (!k),false)
 |none=>(eqD a b).bind λk=>some (.bl (!k),false)
theorem zqt {F H:Hp}{w1 w2:W}{v1 v2:V}{k:Bool} (r1:RepB K F H w1 v1) (r2:RepB K F H w2 v2) (e:z5v w1 w2=some k):scal v1 v2=true/\decide (v1=v2)=k:=by
  cases w1 with
  | non =>
    have:=r1.non;subst this;cases w2 with
    |non=>have:=r2.non;subst this;obtain rfl:=sI e;exact⟨rfl,by decide⟩
    |int j=>have:=r2.int;subst this;obtain rfl:=sI e;exact⟨rfl,by simp⟩
    |bl j=>have:=r2.bl;subst this;obtain rfl:=sI e;exact⟨rfl,by simp⟩
    |str j=>have:=r2.str;subst this;obtain rfl:=sI e;exact⟨rfl,by simp⟩
    |_=>exact noSome e
  | int i =>
    have:=r1.int;subst this;cases w2 with
    |non=>have:=r2.non;subst this;obtain rfl:=sI e;exact⟨rfl,by simp⟩
    |int j=>have:=r2.int;subst this;obtain rfl:=sI e;exact⟨rfl,by simp⟩
    |str j=>have:=r2.str;subst this;obtain rfl:=sI e;exact⟨rfl,by simp⟩
    |_=>exact noSome e
  | bl i =>
    have:=r1.bl;subst this;cases w2 with
    |non=>have:=r2.non;subst this;obtain rfl:=sI e;exact⟨rfl,by simp⟩
    |bl j=>have:=r2.bl;subst this;obtain rfl:=sI e;exact⟨rfl,by simp⟩
    |str j=>have:=r2.str;subst this;obtain rfl:=sI e;exact⟨rfl,by simp⟩
    |_=>exact noSome e
  | str i =>
    have:=r1.str;subst this;cases w2 with
    |non=>have:=r2.non;subst this;obtain rfl:=sI e;exact⟨rfl,by simp⟩
    |int j=>have:=r2.int;subst this;obtain rfl:=sI e;exact⟨rfl,by simp⟩
    |bl j=>have:=r2.bl;subst this;obtain rfl:=sI e;exact⟨rfl,by simp⟩
    |str j=>have:=r2.str;subst this;obtain rfl:=sI e;exact⟨rfl,by simp⟩
    |_=>exact noSome e
  |_=>cases w2<;>exact noSome e
theorem ycc:OpS K (λx y H Q=>rEq x y H Q\/rEqD id x y H Q) oEq:=λF H w1 w2 v1 v2 rv Q s r1 r2 e q=>by
 unfold oEq at e;split at e
 ·rename_i k hk;obtain rfl:=sI e;obtain⟨h1,h2⟩:=zqt r1 r2 hk;refine .inl ⟨h1,?_⟩;rw[h2];exact q _ _ (.val (.bl k))
 ·obtain⟨k,hk,e⟩:=bS e;obtain rfl:=sI e;nofun;obtain⟨d,d',d1,d2,h1,h2,h3,rfl⟩:=z3s s r1 r2 hk;ac_rfl;exact .inr ⟨d,d',d1,d2,h1,h2,h3,q _ _ (.val (.bl _))⟩
theorem z9s:OpS K (λx y H Q=>rNe x y H Q\/rEqD not x y H Q) oNe:=λF H w1 w2 v1 v2 rv Q s r1 r2 e q=>by
 unfold oNe at e;split at e
 ·rename_i k hk;obtain rfl:=sI e;obtain⟨h1,h2⟩:=zqt r1 r2 hk;refine .inl ⟨h1,?_⟩;rw[h2];exact q _ _ (.val (.bl _))
 ·obtain⟨k,hk,e⟩:=bS e;obtain rfl:=sI e;nofun;obtain⟨d,d',d1,d2,h1,h2,h3,rfl⟩:=z3s s r1 r2 hk;ac_rfl;exact .inr ⟨d,d',d1,d2,h1,h2,h3,q _ _ (.val (.bl _))⟩
noncomputable def isW:W->W->Option Bool
 |.non,.non=>some true
 |_,.non=>some false
 |.bl a,.bl b=>some (decide (a=b))
 |_,.bl _=>some false
 |_,_=>none
noncomputable def yb4:R2:=λx y H Q=>(y=.non/\Q (.bl (!decide (x=.non))) H)\/(∃b,y=.bl b/\Q (.bl (!decide (x=.bl b))) H)
noncomputable def oIs:O2:=λa b=>(isW a b).bind λk=>some (.bl k,false)
noncomputable def zq0:O2:=λa b=>(isW a b).bind λk=>some (.bl (!k),false)
theorem RepB.noBl {F H:Hp}{w:W}{v:V}(r:RepB K F H w v)(h:∀b,w≠.bl b)(b:Bool):v≠.bl b:=λe=>by
 subst e;rcases r with r|⟨_,_,_,_,e,_⟩
 ·cases r;exact h b rfl
 ·cases e
theorem RepB.noNon {F H:Hp}{w:W}{v:V}(r:RepB K F H w v)(h:w≠.non):v≠.non:=λe=>by
 subst e;rcases r with r|⟨_,_,_,_,e,_⟩
 ·cases r;exact h rfl
 ·cases e
theorem ybp {F H:Hp}{w1 w2:W}{v1 v2:V}{k:Bool} (r1:RepB K F H w1 v1) (r2:RepB K F H w2 v2) (e:isW w1 w2=some k):(v2=.non/\decide (v1=.non)=k)\/(∃b,v2=.bl b/\decide (v1=.bl b)=k):=by
  cases w2 with
  | non =>
    refine .inl ⟨r2.non,?_⟩;cases w1 with
    |non=>obtain rfl:=sI e;rw[r1.non];rfl
    |_=>obtain rfl:=sI e;exact Ak (r1.noNon (by simp))
  | bl b =>
    refine .inr ⟨b,r2.bl,?_⟩;cases w1 with
    |bl a=>obtain rfl:=sI e;rw[r1.bl];simp
    |_=>obtain rfl:=sI e;exact Ak (r1.noBl (by simp) b)
  |_=>cases w1<;>exact noSome e
theorem ztk:OpS K yb4 zq0:=λF H w1 w2 v1 v2 rv Q s r1 r2 e q=>by
 obtain⟨k,hk,e⟩:=bS e;obtain rfl:=sI e;rcases ybp r1 r2 hk with⟨h1,h2⟩|⟨b,h1,h2⟩
 ·exact .inl ⟨h1,by rw[h2];exact q _ _ (.val (.bl _))⟩
 ·exact .inr ⟨b,h1,by rw[h2];exact q _ _ (.val (.bl _))⟩
noncomputable def zl0:W->Bool
 |.non=>true
 |.bl _=>true
 |.int _=>true
 |.str _=>true
 |_=>false
noncomputable def eqF:W->W->Bool
 |.non,.non=>true
 |.bl a,.bl b=>a == b
 |.bl a,.int b=>(if a then 1 else 0) == b
 |.int a,.bl b=>a == (if b then 1 else 0)
 |.int a,.int b=>a == b
 |.str a,.str b=>a == b
 |_,_=>false
theorem Rep.flat {F:Hp}{w:W}{v:V}(h:Rep K F w v)(f:zl0 w=true):zii v=true:=by
 cases h<;>first|rfl|(cases f)
theorem Reps.flat {F:Hp}:∀{ws:List W}{vs:List V},Reps K F ws vs->ws.all zl0=true->vs.all zii=true
  |_,_,.nil,_=>rfl
  | _,_,.cons h r,f=>by
    rw[Bo,Ac] at f ⊢;exact⟨h.flat f.1,r.flat f.2⟩
theorem z99 {F F' : Hp}{w u:W}{v z:V}(h1:Rep K F w v)(h2:Rep K F' u z)(f1:zl0 w=true)(f2:zl0 u=true):eqV v z=eqF w u:=by
 cases h1<;>first|(cases f1;done)|(cases h2<;>first|rfl|(cases f2))
theorem z2q {F F' : Hp}{u:W}{z:V} (h2:Rep K F' u z) (f2:zl0 u=true):∀{ws:List W}{vs:List V},Reps K F ws vs->ws.all zl0=true->inV z vs=ws.any fun y=>eqF y u
  |_,_,.nil,_=>rfl
  | _,_,.cons h r,f=>by
    rw[Bo,Ac] at f;have ih:=z2q h2 f2 r f.2;unfold inV at ih ⊢;rw[Dl,Dl,ih,z99 h h2 f.1 f2]
noncomputable def oIn (neg:Bool):O2:=λa b=>(seqW b).bind λws=>if zl0 a && ws.all zl0 then some (.bl (if neg then !(ws.any λy=>eqF y a) else ws.any λy=>eqF y a),false) else none
theorem z2n (neg:Bool):OpS K (rIn K neg) (oIn neg):=λF H w1 w2 v1 v2 rv Q s r1 r2 e q=>by
 obtain⟨ws,hs,e⟩:=bS e;split at e
 ·rename_i z;rw [Ac] at z;obtain rfl:=sI e;obtain ⟨a,vs,e2,hq,p⟩:=r2.seqW s hs;have r1' : Rep K F w1 v1:=by
   rcases r1 with r|⟨_,_,_,e,_,_,y⟩
   ·exact r
   ·subst e;cases y<;>cases z.1
  refine⟨a,vs,e2,hq,r1'.flat z.1,p.flat z.2,?_⟩;rw[z2q r1' z.1 p z.2];exact q _ _ (.val (.bl _))
 ·exact noSome e
noncomputable def oIx:O2
 |a,.int i=>(seqW a).bind λws=>(atI ws i).bind λw=>#v[w,6]
 |_,_=>none
theorem z0a {F:Hp}{ws:List W}{vs:List V}{i:Int}{w:W}(r:Reps K F ws vs)(h:atI ws i=some w):∃v,atI vs i=some v/\Rep K F w v:=by
 unfold atI at h ⊢;rw[<-r.length];obtain⟨j,h1,h2⟩:=bS h;obtain⟨v,h3,h4⟩:=r.get h2;exact⟨v,by rw[h1];exact h3,h4⟩
noncomputable def rIxB (K:PySem.W.Frag):R2:=λx y H Q=>rIxL K x y H Q\/rIxT K x y H Q
theorem ycg:OpS K (rIxB K) oIx:=fun F H w1 w2 v1 v2 rv Q s r1 r2 e q=>by
  cases w2 with
  | int i =>
    obtain⟨ws,hs,e⟩:=bS (show (seqW w1).bind _=_ from e);obtain⟨w,hw,e⟩:=bS e;obtain rfl:=sI e;obtain⟨a,vs,e1,hq,p⟩:=r1.seqW s hs;obtain⟨v,hv,rv⟩:=z0a p hw;rcases hq with hq|hq
    · exact .inl ⟨a,vs,i,v,e1,r2.int,hq,hv,q _ _ (.val rv)⟩
    · exact .inr ⟨a,vs,i,v,e1,r2.int,hq,hv,q _ _ (.val rv)⟩
  |_=>cases w1<;>exact noSome e
noncomputable def oNeg:W->Option (W × Bool)
 |.int i=>#v[(-i),0]
 |_=>none
theorem z49:OpS1 K (rU λi=>.int (-i)) oNeg:=λF H w v rv Q s r e q=>by
 cases w with
 |int i=>obtain rfl:=sI e;exact⟨i,r.int,q _ _ (.val (.int _))⟩
 |_=>exact noSome e
end
theorem zte:∀(ns:List Int) (k:Nat),k<=ns.length->preSum (fun i=>ns.getD i 0) k=(ns.take k).sum
  |ns,0,_=>rfl
  | ns,k+1,h=>by
    have ih:=zte ns k #v[];show preSum (λi=>ns.getD i 0) k+ns.getD k 0=_;rw[ih,Df,List.sum_append];have hk:k<ns.length:=by omega
    rw[Aa hk,Ba,Aa hk];simp
section
variable {X:Cx}
theorem ztx {ns:List Int}{its:List Value}{i:Nat}{v:Value}(r:Vals (ns.map V.int) its)(h:its[i]?=some v):∃t,v=.int (ns.getD i 0) t:=by
 have hl:=r.length;rw[Ae] at hl;have hi:i<ns.length:=by rw[hl];exact (Aj.mp h).1
 obtain⟨u,hu,ru⟩:=r.get (i:=i) (x:=.int ns[i]) (by rw[An,Aa hi];rfl);rw[h] at hu;obtain rfl:=sI hu;obtain⟨t,e⟩:=ru;exact⟨t,by rw[e,Ba,Aa hi];rfl⟩
noncomputable def mx1 (n:Int) (r:List Int):Int:=r.foldl (λb x=>if x > b then x else b) n
theorem zvu (n:Int) (r:List Int):∀k,k<=r.length->(n::r).getD (argBest (fun i j=>decide ((n::r).getD i 0 > (n::r).getD j 0)) k) 0=mx1 n (r.take k)
  |0,_=>rfl
  | k+1,h=>by
    have ih:=zvu n r k #v[];have hk:k<r.length:=by omega
    have g:(n::r).getD (k+1) 0=r[k]:=by rw[List.getD_cons_succ,Ba,Aa hk];rfl
    have t:mx1 n (r.take (k+1))=if r[k] > mx1 n (r.take k) then r[k] else mx1 n (r.take k):=by
      unfold mx1;rw[Df,Aa hk,Fv];rfl
    rw[t];show (n::r).getD (if decide ((n::r).getD (k+1) 0 > (n::r).getD (argBest (λi j=>decide ((n::r).getD i 0 > (n::r).getD j 0)) k) 0)=true then k+1 else argBest _ k) 0=_;rw[ih,g];by_cases c:r[k] > mx1 n (r.take k)
    · rw[Af c,if_pos rfl,if_pos c,g]
    · rw[Ak c,if_neg Ag,if_neg c,ih]
theorem zt5 (hc:X.calm=true):zep X (.builtin "max") (λxs H Q=>(∃i j,xs=[.int i,.int j]/\Q (.int (if j > i then j else i)) H)\/∃(a:Addr) (n:Int) (r:List Int),xs=[.ref a]/\SqL X.K H a ((n::r).map V.int)/\Q (.int (mx1 n r)) H):=by
 intro pins s σ H xs us Q I r h;rcases h with h|h
 ·exact zuv hc pins s σ H xs us Q I r h
 obtain⟨a,n,ns,rfl,hq,q⟩:=h;obtain⟨u,rfl,rx⟩:=vals1 r;cases rx;obtain⟨its,rv,p,hz⟩:=I.list hq;have hl:=rv.length;rw[Ae] at hl;have ha:a<s.heap.objs.size:=by obtain⟨o,e,_⟩:=p.isList;exact As e
 have iv:∀(i:Nat) (v:Value),its.toArray[i]?=some v->∃t,v=Value.int ((n::ns).getD i 0) t:=λi v e=>ztx rv (by simpa using e);refine call_max_walk (Gb p.isList ?_);refine⟨s.heap.objs.size,_,[s.heap.objs.size],its.toArray.size,_,_,_,rfl,Walks.list (A:=X.A.in1) (show X.A.in1.handled=none from I.ok.hd hc) _ a (Bi ha) its.toArray,⟨⟨_,Bb _ rfl,rfl,rfl⟩,p.isList.push _⟩,λb hb=>?_,by rw[Ah,<-hl];exact Nat.succ_pos _,CmpOf.ints_gt _ iv,λv h' tk hv hk=>?_⟩
 ·rw[Gd];simp only [At,Ei,or_false] at hb;rcases hb with rfl|rfl
  ·exact Nat.lt_succ_self _
  ·exact Gv ha
 ·obtain⟨t,rfl⟩:=iv _ _ hv;have e:its.toArray.size - 1=ns.length:=by rw[Ah,<-hl];rfl
  refine⟨.int _,H,I.kept λb o hb=>hk b o (λz=>by rw[Ap] at z;subst z;exact absurd (As hb) (Cm _)) (Ai _ hb),⟨_,rfl⟩,?_⟩;rw[e,zvu n ns ns.length (Ad _),Cb];exact q
noncomputable def mn1 (n:Int) (r:List Int):Int:=r.foldl (λb x=>if x<b then x else b) n
theorem zvr (n:Int) (r:List Int):∀k,k<=r.length->(n::r).getD (argBest (fun i j=>decide ((n::r).getD i 0 < (n::r).getD j 0)) k) 0=mn1 n (r.take k)
  |0,_=>rfl
  | k+1,h=>by
    have ih:=zvr n r k #v[];have hk:k<r.length:=by omega
    have g:(n::r).getD (k+1) 0=r[k]:=by rw[List.getD_cons_succ,Ba,Aa hk];rfl
    have t:mn1 n (r.take (k+1))=if r[k] < mn1 n (r.take k) then r[k] else mn1 n (r.take k):=by
      unfold mn1;rw[Df,Aa hk,Fv];rfl
    rw[t];show (n::r).getD (if decide ((n::r).getD (k+1) 0<(n::r).getD (argBest (λi j=>decide ((n::r).getD i 0<(n::r).getD j 0)) k) 0)=true then k+1 else argBest _ k) 0=_;rw[ih,g];by_cases c:r[k]<mn1 n (r.take k)
    · rw[Af c,if_pos rfl,if_pos c,g]
    · rw[Ak c,if_neg Ag,if_neg c,ih]
theorem zt9 (hc:X.calm=true):zep X (.builtin "min") (λxs H Q=>(∃i j,xs=[.int i,.int j]/\Q (.int (if j<i then j else i)) H)\/∃(a:Addr) (n:Int) (r:List Int),xs=[.ref a]/\SqL X.K H a ((n::r).map V.int)/\Q (.int (mn1 n r)) H):=by
 intro pins s σ H xs us Q I r h;rcases h with h|h
 ·exact zxx hc pins s σ H xs us Q I r h
 obtain⟨a,n,ns,rfl,hq,q⟩:=h;obtain⟨u,rfl,rx⟩:=vals1 r;cases rx;obtain⟨its,rv,p,hz⟩:=I.list hq;have hl:=rv.length;rw[Ae] at hl;have ha:a<s.heap.objs.size:=by obtain⟨o,e,_⟩:=p.isList;exact As e
 have iv:∀(i:Nat) (v:Value),its.toArray[i]?=some v->∃t,v=Value.int ((n::ns).getD i 0) t:=λi v e=>ztx rv (by simpa using e);refine call_min_walk (Gb p.isList ?_);refine⟨s.heap.objs.size,_,[s.heap.objs.size],its.toArray.size,_,_,_,rfl,Walks.list (A:=X.A.in1) (show X.A.in1.handled=none from I.ok.hd hc) _ a (Bi ha) its.toArray,⟨⟨_,Bb _ rfl,rfl,rfl⟩,p.isList.push _⟩,λb hb=>?_,by rw[Ah,<-hl];exact Nat.succ_pos _,CmpOf.ints_lt _ iv,λv h' tk hv hk=>?_⟩
 ·rw[Gd];simp only [At,Ei,or_false] at hb;rcases hb with rfl|rfl
  ·exact Nat.lt_succ_self _
  ·exact Gv ha
 ·obtain⟨t,rfl⟩:=iv _ _ hv;have e:its.toArray.size - 1=ns.length:=by rw[Ah,<-hl];rfl
  refine⟨.int _,H,I.kept λb o hb=>hk b o (λz=>by rw[Ap] at z;subst z;exact absurd (As hb) (Cm _)) (Ai _ hb),⟨_,rfl⟩,?_⟩;rw[e,zvr n ns ns.length (Ad _),Cb];exact q
theorem z63:OpR X (binaryOp .Add) (λx y H Q=>∃a b ys,x=.ref a/\y=.ref b/\SqT X.K H a []/\SqT X.K H b ys/\Q (.ref b) H):=by
 intro pins s σ H x y v u Q I rx ry h;nofun;obtain⟨a,b,ys,rfl,rfl,ha,hb,q⟩:=h;ac_rfl;cases rx;cases ry;nofun;obtain⟨its,r1,p1,_⟩:=I.tuple ha;obtain⟨its2,r2,p2,_⟩:=I.tuple hb;obtain⟨⟨c1,d1,t1,l1⟩,g1,k1,n1,q1⟩:=id p1;obtain⟨⟨c2,d2,t2,l2⟩,g2,k2,n2,q2⟩:=id p2;ac_rfl;simp only at k1 q1 k2 q2;subst k1 q1 k2 q2;have e0:its=[]:=by cases r1;rfl
 subst e0;exact concat_meets (T := "tuple") ⟨_,g1,rfl⟩ ⟨_,g2,rfl⟩ noFill_tuple_add seq_tuple_add PySem.F.slot_tuple_add PySem.F.entry_tuple_add (Ha _ _)
  (tuple_addW0 a b _ _ n1 n2 d1 d2 l1 l2 rfl) ⟨g1,g2,⟨.ref b,H,I.tok _,rfl,q⟩⟩
theorem zyx:OpR X (binaryOp .FloorDiv) (rI (λ_ j=>0<j/\j.natAbs.log2<9000) λi j=>.int (i / j)):=opI λi j _ _ _ _ _ hc q=>by
 have h1:(0:Int)<j:=hc.1;exact floordiv_int #v[] (by rw[Int.fdiv_eq_ediv_of_nonneg i #v[]];exact q) (.inl (PyProof.noPylong_of_log2 hc.2))
end
section
variable {K:PySem.W.Frag}
noncomputable def ydn (K:PySem.W.Frag):R2:=λx y H Q=>∃a b ys,x=.ref a/\y=.ref b/\SqT K H a []/\SqT K H b ys/\Q (.ref b) H
theorem z2a:OpS K (ydn K) z8b:=fun F H w1 w2 v1 v2 rv Q s r1 r2 e q=>by
  cases w1 with
  | tup xs =>
    cases xs with
    |cons _ _=>cases w2<;>exact noSome e
    | nil =>
      cases w2 with
      | tup ys =>
        obtain rfl:=sI e;nofun;obtain⟨a,vs,e1,h1,f1,p1⟩:=r1.tup s;obtain⟨b,us,e2,h2,f2,p2⟩:=r2.tup s;ac_rfl;cases p1;subst e2;exact⟨a,b,us,e1,rfl,.inl (.inl h1),.inl (.inl h2),q _ _ (.val (.tup f2 p2))⟩
      |_=>exact noSome e
  |_=>exact noSome e
noncomputable def ycp:R2:=λx y H Q=>∃i j,x=.str i/\y=.str j/\i.length+j.length<=sizeLine/\Q (.str (i++j)) H
theorem z00:OpS K ycp zy4:=fun F H w1 w2 v1 v2 rv Q s r1 r2 e q=>by
  cases w1 with
  | str x =>
    cases w2 with
    | str y =>
      unfold zy4 at e;simp only at e;split at e
      · rename_i z;obtain rfl:=sI e;exact⟨x,y,r1.str,r2.str,z,q _ _ (.val (.str _))⟩
      · exact noSome e
    |_=>exact noSome e
  |_=>exact noSome e
noncomputable abbrev ON:=List W->Option (W × Bool)
noncomputable def oLen:ON
 |[w]=>(seqW w).bind λws=>#v[ws.length,0]
 |_=>none
theorem z7n:OpSN K (fun xs H Q=>∃p ys,xs=[.ref p]/\(SqL K H p ys\/SqT K H p ys)/\Q (.int ys.length) H) oLen:=fun F H ws vs rv Q s r e q=>by
  cases r with
  |nil=>exact noSome e
  | cons h r =>
    cases r with
    |cons _ _=>exact noSome e
    | nil =>
      obtain⟨ws,hs,e⟩:=bS (show (seqW _).bind _=_ from e);obtain rfl:=sI e;obtain⟨a,vs,e1,hq,p⟩:=h.seqW s hs;subst e1;exact⟨a,vs,rfl,hq,by rw[<-p.length];exact q _ _ (.val (.int _))⟩
noncomputable def oAbs:ON
 |[.int i]=>#v[(if i<0 then -i else i),0]
 |_=>none
theorem RepBs.one {F H:Hp}{w:W}{vs:List V}(r:RepBs K F H [w] vs):∃v,vs=[v]/\RepB K F H w v:=by
 cases r with
 |cons h r=>cases r;exact⟨_,rfl,h⟩
theorem RepBs.two {F H:Hp}{w u:W}{vs:List V}(r:RepBs K F H [w,u] vs):∃v z,vs=[v,z]/\RepB K F H w v/\RepB K F H u z:=by
 cases r with
 |cons h r=>obtain⟨z,e,h2⟩:=r.one;subst e;exact⟨_,z,rfl,h,h2⟩
theorem z5n:OpSN K (fun xs H Q=>∃i,xs=[.int i]/\Q (.int (if i < 0 then -i else i)) H) oAbs:=fun F H ws vs rv Q s r e q=>by
  match ws,e with
  | [.int i],e =>
    obtain rfl:=sI e;obtain⟨v,e1,h⟩:=r.one;subst e1;exact⟨i,by rw[h.int],q _ _ (.val (.int _))⟩
noncomputable def oInt:ON
 |[.int i]=>#v[i,0]
 |[.bl k]=>#v[(if k then 1 else 0),0]
 |_=>none
theorem z5o:OpSN K (fun xs H Q=>(∃i,xs=[.int i]/\Q (.int i) H)\/∃k,xs=[.bl k]/\Q (.int (if k then 1 else 0)) H) oInt:=fun F H ws vs rv Q s r e q=>by
  match ws,e with
  | [.int i],e =>
    obtain rfl:=sI e;obtain⟨v,e1,h⟩:=r.one;subst e1;exact .inl ⟨i,by rw[h.int],q _ _ (.val (.int _))⟩
  | [.bl k],e =>
    obtain rfl:=sI e;obtain⟨v,e1,h⟩:=r.one;subst e1;exact .inr ⟨k,by rw[h.bl],q _ _ (.val (.int _))⟩
noncomputable def z0z:ON
 |[w]=>(seqW w).bind λws=>#v[ws,2]
 |_=>none
theorem zy8:OpSN K (fun xs H Q=>∃p ys,xs=[.ref p]/\(SqL K H p ys\/SqT K H p ys)/\∀l,H l=none->Q (.ref l) (upd H l (.lst ys))) z0z:=fun F H ws vs rv Q s r e q=>by
  match ws,e with
  | [w],e =>
    obtain⟨ws,hs,e⟩:=bS (show (seqW _).bind _=_ from e);obtain rfl:=sI e;nofun;obtain⟨v,e1,h⟩:=r.one;obtain⟨a,us,e2,hq,p⟩:=h.seqW s hs;ac_rfl;subst e1 e2;exact⟨a,us,rfl,hq,λl hl=>q _ _ (.lst hl p)⟩
noncomputable def zdn:ON
 |[.tup ws]=>#v[ws,3]
 |[w]=>(seqL w).bind λws=>#v[ws,3]
 |_=>none
theorem zut:OpSN K (fun xs H Q=>∃p ys,xs=[.ref p]/\((SqL K H p ys/\∀l,H l=none->Q (.ref l) (upd H l (.tup ys)))\/(SqT K H p ys/\Q (.ref p) H))) zdn:=fun F H ws vs rv Q s r e q=>by
  match ws,e with
  | [.tup ws],e =>
    obtain rfl:=sI e;nofun;obtain⟨v,e1,h⟩:=r.one;obtain⟨a,us,e2,hq,f,p⟩:=h.tup s;ac_rfl;subst e1 e2;exact⟨a,us,rfl,.inr ⟨.inl (.inl hq),q _ _ (.val (.tup f p))⟩⟩
  | [.lst ws],e =>
    obtain rfl:=sI e;nofun;obtain⟨v,e1,h⟩:=r.one;obtain⟨a,us,e2,hq,p⟩:=h.lst s;ac_rfl;subst e1 e2;exact⟨a,us,rfl,.inl ⟨SqL.of' hq,λl hl=>q _ _ (.tup hl p)⟩⟩
  | [.frl ws],e =>
    obtain rfl:=sI e;nofun;obtain⟨v,e1,h⟩:=r.one;obtain⟨a,us,e2,hq,p⟩:=h.frl s;ac_rfl;subst e1 e2;exact⟨a,us,rfl,.inl ⟨hq,λl hl=>q _ _ (.tup hl p)⟩⟩
  |[.non],e=>exact noSome e
  |[.bl _],e=>exact noSome e
  |[.int _],e=>exact noSome e
  |[.str _],e=>exact noSome e
  |[.dic],e=>exact noSome e
  |[.dct _ _],e=>exact noSome e
  |[.dcz _ _],e=>exact noSome e
noncomputable def zom:List W->Option (List Bool)
 |[]=>some []
 |.bl b::ws=>(zom ws).bind λbs=>some (b::bs)
 |_=>none
noncomputable def zcy:List W->Option (List Int)
 |[]=>some []
 |.int b::ws=>(zcy ws).bind λbs=>some (b::bs)
 |_=>none
theorem zri:∀{ws:List W}{bs:List Bool},zom ws=some bs->ws=bs.map W.bl
  |[],_,e=>by obtain rfl:=sI e;rfl
  | .bl b::ws,_,e=>by
    obtain⟨bs,h,e⟩:=bS (show (zom ws).bind _=_ from e);obtain rfl:=sI e;rw[zri h];rfl
  |.non::_,_,e=>by exact noSome e
  |.int _::_,_,e=>by exact noSome e
  |.str _::_,_,e=>by exact noSome e
  |.tup _::_,_,e=>by exact noSome e
  |.lst _::_,_,e=>by exact noSome e
  |.frl _::_,_,e=>by exact noSome e
theorem zdt:∀{ws:List W}{bs:List Int},zcy ws=some bs->ws=bs.map W.int
  |[],_,e=>by obtain rfl:=sI e;rfl
  | .int b::ws,_,e=>by
    obtain⟨bs,h,e⟩:=bS (show (zcy ws).bind _=_ from e);obtain rfl:=sI e;rw[zdt h];rfl
  |.non::_,_,e=>by exact noSome e
  |.bl _::_,_,e=>by exact noSome e
  |.str _::_,_,e=>by exact noSome e
  |.tup _::_,_,e=>by exact noSome e
  |.lst _::_,_,e=>by exact noSome e
  |.frl _::_,_,e=>by exact noSome e
theorem zfk:∀(ns:List Int),zcy (ns.map W.int)=some ns
 |[]=>rfl
 |n::ns=>by show (zcy (ns.map W.int)).bind _=_;rw[zfk ns];rfl
theorem znh:∀(ns:List Bool),zom (ns.map W.bl)=some ns
 |[]=>rfl
 |n::ns=>by show (zom (ns.map W.bl)).bind _=_;rw[znh ns];rfl
noncomputable def oBl (f:List Bool->Bool):ON
 |[w]=>(seqL w).bind λws=>(zom ws).bind λbs=>some (.bl (f bs),false)
 |_=>none
theorem z22 {f:List Bool->Bool}:OpSN K (fun xs H Q=>∃(a:Addr) (bs:List Bool),xs=[.ref a]/\SqL K H a (bs.map V.bl)/\Q (.bl (f bs)) H) (oBl f):=fun F H ws vs rv Q s r e q=>by
  match ws,e with
  | [w],e =>
    nofun;obtain⟨ws,hs,e⟩:=bS (show (seqL _).bind _=_ from e);obtain⟨bs,hb,e⟩:=bS e;ac_rfl;obtain rfl:=sI e;nofun;obtain⟨v,e1,h⟩:=r.one;obtain⟨a,us,e2,hq,p⟩:=h.seqL s hs;ac_rfl;subst e1 e2;rw[zri hb] at p;rw[p.bls] at hq;exact⟨a,bs,rfl,hq,q _ _ (.val (.bl _))⟩
noncomputable def mnW (w:W):Option (W × Bool):=(seqL w).bind λws=>(zcy ws).bind λns=>match ns with
 |n::r=>#v[(mn1 n r),0]
 |[]=>none
noncomputable def oMin:ON
 |[.int i,.int j]=>#v[(if j<i then j else i),0]
 |[w]=>mnW w
 |_=>none
noncomputable def mxW (w:W):Option (W × Bool):=(seqL w).bind λws=>(zcy ws).bind λns=>match ns with
 |n::r=>#v[(mx1 n r),0]
 |[]=>none
noncomputable def mx2:W->W->Option (W × Bool)
 |.int i,.int j=>#v[(if j > i then j else i),0]
 |_,_=>none
noncomputable def oMax:ON
 |[w]=>mxW w
 |[a,b]=>mx2 a b
 |_=>none
theorem z69:OpSN K (fun xs H Q=>(∃i j,xs=[.int i,.int j]/\Q (.int (if j < i then j else i)) H)\/∃(a:Addr) (n:Int) (r:List Int),xs=[.ref a]/\SqL K H a ((n::r).map V.int)/\Q (.int (mn1 n r)) H) oMin:=fun F H ws vs rv Q s r e q=>by
  unfold oMin at e;split at e
  · obtain rfl := sI e
    obtain⟨v,z,e1,h1,h2⟩:=r.two;subst e1;exact .inl ⟨_,_,by rw[h1.int,h2.int],q _ _ (.val (.int _))⟩
  · rename_i w
    nofun;obtain⟨ws,hs,e⟩:=bS (show (seqL w).bind _=some rv from e);obtain⟨ns,hb,e⟩:=bS e;obtain⟨v,e1,h⟩:=r.one;obtain⟨a,us,e2,hq,p⟩:=h.seqL s hs;ac_rfl;subst e1 e2;rw[zdt hb] at p;rw[p.ints] at hq;cases ns with
    |nil=>exact noSome e
    | cons n ns =>
      obtain rfl:=sI e;exact .inr ⟨a,n,ns,rfl,hq,q _ _ (.val (.int _))⟩
  · exact noSome e
theorem z7u:OpSN K (fun xs H Q=>(∃i j,xs=[.int i,.int j]/\Q (.int (if j > i then j else i)) H)\/∃(a:Addr) (n:Int) (r:List Int),xs=[.ref a]/\SqL K H a ((n::r).map V.int)/\Q (.int (mx1 n r)) H) oMax:=fun F H ws vs rv Q s r e q=>by
  match ws,e with
  | [x,y],e =>
    have e:mx2 x y=some rv:=e;unfold mx2 at e;split at e
    · obtain rfl := sI e
      nofun;obtain⟨v,z,e1,h1,h2⟩:=r.two;ac_rfl;subst e1;exact .inl ⟨_,_,by rw[h1.int,h2.int],q _ _ (.val (.int _))⟩
    · exact noSome e
  | [w],e =>
    nofun;obtain⟨ws,hs,e⟩:=bS (show (seqL w).bind _=some rv from e);obtain⟨ns,hb,e⟩:=bS e;obtain⟨v,e1,h⟩:=r.one;obtain⟨a,us,e2,hq,p⟩:=h.seqL s hs;ac_rfl;subst e1 e2;rw[zdt hb] at p;rw[p.ints] at hq;cases ns with
    |nil=>exact noSome e
    | cons n ns =>
      obtain rfl:=sI e;exact .inr ⟨a,n,ns,rfl,hq,q _ _ (.val (.int _))⟩
noncomputable def tyW:W->Option String
 |.non=>some "NoneType"
 |.bl _=>some "bool"
 |.int _=>some "int"
 |.str _=>some "str"
 |.tup _=>some "tuple"
 |.lst _=>some "list"
 |.frl _=>none
 |.dic=>none
 |.dct _ _=>none
 |.dcz _ _=>none
inductive Kd where
 |int|bool|str|tuple|list
 deriving DecidableEq
noncomputable def Kd.nm:Kd->String
 |.int => "int" | .bool => "bool" | .str => "str" | .tuple => "tuple" | .list => "list"
noncomputable def isiW (k:Kd):W->Option Bool
 |.non=>some false
 |.bl _=>some (k == .bool || k == .int)
 |.int _=>some (k == .int)
 |.str _=>some (k == .str)
 |.tup _=>some (k == .tuple)
 |.lst _=>some (k == .list)
 |.frl _=>none
 |.dic=>some false
 |.dct _ _=>some false
 |.dcz _ _=>none
noncomputable def oIsi (k:Kd) (w:W):Option (W × Bool):=(isiW k w).bind λb=>some (.bl b,false)
theorem z32 {F H:Hp}{w:W}{v:V}{k:Kd}{b:Bool} (s:Same F H) (r:RepB K F H w v) (e:isiW k w=some b):∃t,TyOf K H v t/\PySem.W.kitOne K t (.type k.nm)=some b:=by
  cases w with
  |non=>rw[r.non];obtain rfl:=sI e;exact⟨_,.non,by cases k<;>(with_unfolding_all rfl)⟩
  |bl x=>rw[r.bl];obtain rfl:=sI e;exact⟨_,.bl x,by cases k<;>(with_unfolding_all rfl)⟩
  |int x=>rw[r.int];obtain rfl:=sI e;exact⟨_,.int x,by cases k<;>(with_unfolding_all rfl)⟩
  |str x=>rw[r.str];obtain rfl:=sI e;exact⟨_,.str x,by cases k<;>(with_unfolding_all rfl)⟩
  |tup x=>obtain⟨a,vs,e1,h,_⟩:=r.tup s;subst e1;obtain rfl:=sI e;exact⟨_,.tup h,by cases k<;>(with_unfolding_all rfl)⟩
  |lst x=>obtain⟨a,vs,e1,h,_⟩:=r.lst s;subst e1;obtain rfl:=sI e;exact⟨_,.lst h,by cases k<;>(with_unfolding_all rfl)⟩
  |frl x=>exact noSome e
  | dic =>
    rcases r with r|⟨_,_,_,z,_,_,q⟩
    · cases r with
      |dic h=>obtain rfl:=sI e;exact⟨_,.dK (s _ _ h),by cases k<;>(with_unfolding_all rfl)⟩
    · subst z;cases q
  | dct ks ws =>
    obtain rfl:=sI e;rcases r with r|⟨_,_,_,z,e1,h,q⟩
    · cases r with
      |dct h _ _=>exact⟨_,.dK (s _ _ h),by cases k<;>(with_unfolding_all rfl)⟩
      |dctT h _ _=>exact⟨_,.dT (s _ _ h),by cases k<;>(with_unfolding_all rfl)⟩
    · subst z e1
      cases q with
      |dct _ _=>exact⟨_,.dK h,by cases k<;>(with_unfolding_all rfl)⟩
      |dctT _ _=>exact⟨_,.dT h,by cases k<;>(with_unfolding_all rfl)⟩
  |dcz ks ws=>exact noSome e
noncomputable def rIsi (K:PySem.W.Frag):List V->Hp->VK->Prop:=λxs H Q=>∃x t c b,xs=[x,.ty c]/\TyOf K H x t/\PySem.W.kitOne K t (.type c)=some b/\Q (.bl b) H
theorem z19 {k:Kd}{a:GA}{σ:St}{H:Hp}{Q:VK}(h:tE K (gOp1 (oIsi k) a) σ H Q):tCB (rIsi K) (zdq (tA K a) (zdq (tC (.ty k.nm)) tNil)) σ H Q:=by
 nofun;obtain⟨F,pr,en,en',rv,R,h,q⟩:=h;obtain⟨⟨e1,x1⟩,h1,h⟩:=bS h;obtain⟨w1,hw1,h⟩:=bS h;obtain⟨r',hr,h⟩:=bS h;obtain⟨b,hb,hr⟩:=bS hr;ac_rfl;obtain rfl:=sI hr;cases h;refine⟨F,pr,en,e1,x1,R,h1,λF1 H1 v1 s1 R1 a1=>?_⟩;obtain⟨t,ty,ek⟩:=z32 R1.sub (a1.repB R1 hw1) hb;exact⟨v1,t,_,b,rfl,ty,ek,q F1 H1 _ s1 R1 (.bl b)⟩
noncomputable abbrev GO:=En->Option (En × Option Int)
noncomputable def zao:GO:=λen=>some (en,none)
noncomputable def zcc (g:GE):GO:=λen=>match g en with
 |some (en',(.int i,_))=>some (en',some i)
 |_=>none
noncomputable def tO (K:PySem.W.Frag) (g:GO):TO:=λσ H Q=>∃F pr en en' o,Rel K F pr en σ H/\g en=some (en',o)/\∀F' H',Same F F'->Rel K F' pr en' σ H'->Q o H'
theorem Res.isInt {F H:Hp}{pr:Prt}{en:En}{σ:St}{i:Int}{fl:Bool}{v:V}(h:Res K F H pr en σ (.int i,fl) v):v=.int i:=by
 cases fl with
 |false=>cases (show Rep K F (.int i) v from h);rfl
 |true=>obtain⟨_,_,_,e,_,_,_,q,_⟩:=h;subst e;cases q
theorem zns {σ:St}{H:Hp}{Q:Option Int->Hp->Prop}(h:tO K zao σ H Q):zwq σ H Q:=by
 obtain⟨F,pr,en,en',o,R,h,q⟩:=h;cases h;exact q F H (.refl F) R
theorem zkz {g:GE}{σ:St}{H:Hp}{Q:Option Int->Hp->Prop} (h:tO K (zcc g) σ H Q):yaw (tE K g) σ H Q:=by
  nofun;obtain⟨F,pr,en,en',o,R,h,q⟩:=h;ac_rfl;unfold zcc at h;cases e:g en with
  |none=>simp only [e] at h;exact noSome h
  | some p =>
    obtain⟨e1,w,fl⟩:=p;cases w with
    |int c=>simp only [e] at h;cases h;exact⟨F,pr,en,_,_,R,e,λF' H' v s' R' z=>⟨c,z.isInt,q F' H' s' R'⟩⟩
    |_=>simp only [e] at h;exact noSome h
open HT in
theorem zsi {prog:Program}{w:World}{A:Around}{E:Value->Shared->Prop}{s:Shared}{t sl:Addr}{items:Array Value}{vl vu:Value}{lo hi:Option Int}{Q:Value->Shared->Prop} (ht:IsTup s.heap t items) (hs:s.heap.IsSliceOf sl vl vu .none) (pl:IsPart vl lo) (pu:IsPart vu hi)
  (h0:sIx items.size 0 lo=0) (h1:sIx items.size items.size hi=items.size) (h:Q (.ref t) s):wpAny (model prog w) A (getItem (.ref t) (.ref sl)) Q E s:=by
 obtain⟨os,g1,g2,_⟩:=id hs;have ty:s.TypeIs (.ref sl) "slice" := ⟨os,g1,g2⟩;unfold getItem
 try with_reducible refine El ?_
 first|refine Ab (Ao ?_)|skip
 refine Ab (wpAny_sequenceKey ht.typeIs #v[0,9] ?_);refine Ab (Dq (name:=Str.ofString "__getitem__") ht.typeIs Cp (Fg Cp ht.typeIs entry_tuple_getitem ?_ (args_tuple_getitem _ _)));show wpAny _ _ (Builtin.Tuple.tupleItemsOf (.ref t) >>= _) _ _ s;refine Ab (tupleItemsOf_ ht ?_);refine Ab (wpAny_typeOf ty ?_);rw[if_pos #v[0,9]];refine Ab (zdm hs pl pu ?_);rw[h0,h1];show wpAny _ _ (if ((((0:Nat):Int) == 0 && (1:Int) == 1 && (items.size - 0) == items.size)=true) then _ else _) _ _ s;rw[if_pos (by simp)];unfold Builtin.Tuple.tupleIsExact;refine Ab (Ab (wpAny_typeOf ht.typeIs (Ao ?_)));rw[if_pos #v[0,9]];refine Ab (Fw (Ao ⟨_,rfl,?_⟩));exact Ao h
noncomputable def rSlW (K:PySem.W.Frag):V->Option Int->Option Int->Hp->VK->Prop:=λx lo hi H Q=>∃a xs,x=.ref a/\SqT K H a xs/\HT.sIx xs.length 0 lo=0/\HT.sIx xs.length xs.length hi=xs.length/\Q x H
theorem z7j {X:Cx}:SlR X (rSlW X.K):=by
 intro pins s σ H x v vl vu lo hi sl Q I rx hs pl pu h;nofun;obtain⟨a,xs,rfl,hx,h0,h1,q⟩:=h;ac_rfl;cases rx;nofun;obtain⟨its,r,ht,hz⟩:=I.tuple hx;ac_rfl;have hlen:its.toArray.size=xs.length:=by rw[Ah];exact r.length.symm
 exact⟨"tuple",_,PyProof.Rows.slot_tuple_getitem.lookup,ht.typeIs,zsi ht hs pl pu (by rw[hlen];exact h0) (by rw[hlen];exact h1) ⟨.ref a,H,I,rfl,q⟩⟩
noncomputable def cutW (xs:List W) (lo hi:Option Int):List W:=(xs.drop (HT.sIx xs.length 0 lo)).take (HT.sIx xs.length xs.length hi - HT.sIx xs.length 0 lo)
noncomputable def oSl (w:W) (lo hi:Option Int):Option (W × Bool):=match w with
 |.lst ws=>#v[(cutW ws lo hi),2]
 |.frl ws=>#v[(cutW ws lo hi),2]
 |.tup ws=>#v[(cutW ws lo hi),3]
 |_=>none
noncomputable def rSlB (K:PySem.W.Frag):V->Option Int->Option Int->Hp->VK->Prop:=λx lo hi H Q=>(rSlL K x lo hi H Q\/rSlT K x lo hi H Q)\/rSlW K x lo hi H Q
theorem ya4 {F H:Hp}{w:W}{v:V}{lo hi:Option Int}{rv:W × Bool}{Q:VK} (s:Same F H) (r:RepB K F H w v) (e:oSl w lo hi=some rv) (q:∀u H',Out K F H rv u H'->Q u H'):rSlB K v lo hi H Q:=by
  have cut:∀{ws:List W}{vs:List V},Reps K F ws vs->Reps K F (cutW ws lo hi) (cutV vs lo hi):=fun {ws vs} p=>by
    unfold cutW cutV;rw[<-p.length];exact (p.drop _).take _
  cases w with
  |lst ws=>obtain rfl:=sI e;obtain⟨a,vs,e1,h,p⟩:=r.lst s;exact .inl (.inl ⟨a,vs,e1,SqL.of' h,λl hl=>q _ _ (.lst hl (cut p))⟩)
  |frl ws=>obtain rfl:=sI e;obtain⟨a,vs,e1,h,p⟩:=r.frl s;exact .inl (.inl ⟨a,vs,e1,h,λl hl=>q _ _ (.lst hl (cut p))⟩)
  | tup ws =>
    obtain rfl:=sI e;obtain⟨a,vs,e1,h,hf,p⟩:=r.tup s;by_cases y:HT.sIx vs.length 0 lo=0/\HT.sIx vs.length vs.length hi=vs.length
    · refine .inr ⟨a, vs, e1, .inl (.inl h), y.1, y.2, ?_⟩
      have ew:cutW ws lo hi=ws:=by
        unfold cutW;rw[p.length,y.1,y.2,Ej,Nat.sub_zero,<-p.length,Cb]
      rw[ew] at q;subst e1;exact q _ _ (.val (.tup hf p))
    · exact .inl (.inr ⟨a,vs,e1,.inl (.inl h),y,λl hl=>q _ _ (.tup hl (cut p))⟩)
  |_=>exact noSome e
noncomputable def gSl (a:GA) (lo hi:GO):GE:=λen=>(a en).bind λp=>(lo p.1).bind λl=>(hi l.1).bind λh=>(resA h.1 p.2).bind λw=>(oSl w l.2 h.2).bind λr=>some (h.1,r)
theorem z7c {a:GA}{lo hi:GO}{σ:St}{H:Hp}{Q:VK}(h:tE K (gSl a lo hi) σ H Q):tSl (rSlB K) (tA K a) (tO K lo) (tO K hi) σ H Q:=by
 nofun;obtain⟨F,pr,en,en',rv,R,h,q⟩:=h;obtain⟨⟨e1,x1⟩,h1,h⟩:=bS h;obtain⟨⟨e2,l⟩,h2,h⟩:=bS h;obtain⟨⟨e3,u⟩,h3,h⟩:=bS h;obtain⟨w1,hw1,h⟩:=bS h;obtain⟨r',hr,h⟩:=bS h;ac_rfl;cases h;refine⟨F,pr,en,e1,x1,R,h1,λF1 H1 v1 s1 R1 a1=>⟨F1,pr,e1,e2,l,R1,h2,λF2 H2 s2 R2=>⟨F2,pr,e2,e3,u,R2,h3,λF3 H3 s3 R3=>?_⟩⟩⟩;refine ya4 R3.sub ((a1.mono (s2.trans s3)).repB R3 hw1) hr λv H' z=>?_;nofun;obtain⟨F4,s4,R4,y⟩:=z.close R3;ac_rfl;exact q F4 H' v (s1.trans (s2.trans (s3.trans s4))) R4 y
end
structure ItOk (K:PySem.W.Frag) (F:Hp) (J:It) (ws:List W):Prop where
 go:∀i H,Same F H->i<ws.length->J.go i H
 stop:∀H,Same F H->J.stop ws.length H
 yld:∀i H x H',Same F H->i<ws.length->J.yld i H x H'->∃w,ws[i]?=some w/\Out K F H (w,false) x H'
noncomputable def tI (K:PySem.W.Frag) (g:GL):TI:=λσ H R=>∃F pr en en' ws,Rel K F pr en σ H/\g en=some (en',ws)/\∀F' H' J,Same F F'->Rel K F' pr en' σ H'->ItOk K F' J ws->R J H'
section
variable {K:PySem.W.Frag}{F H:Hp}
theorem zc9 {F F' : Hp}{a:Addr}{vs:List V}(s:Same F F')(h:SqT K F a vs):SqT K F' a vs:=by
 rcases h with (h|⟨o,h⟩)|h
 ·exact .inl (.inl (s _ _ h))
 ·exact .inl (.inr ⟨o,s _ _ h⟩)
 ·exact .inr h
theorem zp8 {a:Addr}{vs:List V}{ws:List W}(h:SqL K F a vs)(r:Reps K F ws vs):ItOk K F (Itl K a) ws where
 go:=λi H s hi=>⟨vs,vs[i]'(by rw[<-r.length];exact hi),s.seq h,by rw[Aa]⟩
 stop:=λH s=>⟨vs,s.seq h,by rw[r.length];exact Ad _⟩
 yld:=λi H x H' s hi y=>by
  obtain⟨e,y⟩:=y;subst e;obtain⟨w,e,q⟩:=r.getV (y vs (s.seq h));exact⟨w,e,.val q⟩
theorem ybt {a:Addr}{vs:List V}{ws:List W}(h:SqT K F a vs)(r:Reps K F ws vs):ItOk K F (Itt K a) ws where
 go:=λi H s hi=>⟨vs,vs[i]'(by rw[<-r.length];exact hi),zc9 s h,by rw[Aa]⟩
 stop:=λH s=>⟨vs,zc9 s h,by rw[r.length];exact Ad _⟩
 yld:=λi H x H' s hi y=>by
  obtain⟨e,y⟩:=y;subst e;obtain⟨w,e,q⟩:=r.getV (y vs (zc9 s h));exact⟨w,e,.val q⟩
noncomputable def rngW (lo:Int) (n:Nat):List W:=(List.range n).map λk=>W.int (lo+(k:Nat))
theorem zyy (lo:Int)(n:Nat):ItOk K F (Itr lo n) (rngW lo n) where
 go:=λi H s hi=>by unfold rngW at hi;rw[Ae,Be] at hi;exact hi
 stop:=λH s=>by unfold rngW;rw[Ae,Be];exact Ad n
 yld:=λi H x H' s hi y=>by
  obtain⟨e,y⟩:=y;subst e y;unfold rngW at hi ⊢;rw[Ae,Be] at hi;exact⟨_,by rw[An,Gk hi];rfl,.val (.int _)⟩
noncomputable def zej (ws:List W) (k:Nat):List W:=match ws with
 |[]=>[]
 |w::ws=>.tup [.int k,w]::zej ws (k+1)
theorem zbo:∀(ws:List W) (k:Nat),(zej ws k).length=ws.length
 |[],_=>rfl
 |_::ws,k=>congrArg (· + 1) (zbo ws (k+1))
theorem zd4:∀{ws:List W}{k i:Nat}{w:W},ws[i]?=some w->(zej ws k)[i]?=some (.tup [.int (k+i:Nat),w])
  |[],_,_,_,e=>by simp at e
  |w::ws,k,0,_,e=>by simp at e;subst e;rfl
  | w::ws,k,i+1,u,e=>by
    have:=zd4 (ws:=ws) (k:=k+1) (i:=i) (w:=u) (by simpa using e);show (zej ws (k+1))[i]?=_;rw[this];have:k+1+i=k+(i+1):=by omega
    rw[this]
theorem z53 {a:Addr}{vs:List V}{ws:List W}(h:SqL K F a vs)(r:Reps K F ws vs):ItOk K F (Ite K a) (zej ws 0) where
 go:=λi H s hi=>by rw[zbo] at hi;exact⟨vs,vs[i]'(by rw[<-r.length];exact hi),s.seq h,by rw[Aa]⟩
 stop:=λH s=>⟨vs,s.seq h,by rw[zbo,r.length];exact Ad _⟩
 yld:=λi H x H' s hi y=>by
  nofun;obtain⟨p,v,e,hp,e2,y⟩:=y;ac_rfl;subst e e2;obtain⟨w,e,q⟩:=r.getV (y vs (s.seq h));refine⟨_,zd4 e,?_⟩;rw[Dc];exact .tup hp (.cons (.int _) (.cons q .nil))
theorem z84 {a:Addr}{vs:List V}{ws:List W}(h:SqL K F a vs)(r:Reps K F ws vs):ItOk K F (Itv K a vs.length) ws.reverse where
 go:=λi H s hi=>by rw[Cy,r.length] at hi;exact⟨hi,vs,s.seq h,rfl⟩
 stop:=λH s=>by rw[Cy,r.length];rfl
 yld:=λi H x H' s hi y=>by
  obtain⟨e,y⟩:=y;subst e;obtain⟨w,e,q⟩:=r.getV (y vs (s.seq h));refine⟨w,?_,.val q⟩;rw[Cy] at hi;rw[List.getElem?_reverse hi,r.length];exact e
end
section
variable {X:Cx}{tg:Expr}
noncomputable def iSeq (K:PySem.W.Frag) (tl:TE):TI:=λσ H R=>tl σ H λx H1=>∃a,x=.ref a/\((∃xs,SqL K H1 a xs)/\R (Itl K a) H1\/(∃xs,SqT K H1 a xs)/\R (Itt K a) H1)
theorem z29 {l:Expr}{tl:TE}(hl:PE X l tl):PI X tg l (iSeq X.K tl):=λpins s σ H R I h =>
 thn (hl pins s σ H _ I h) λv s1 ⟨x,H1,I1,r1,a,e,q1⟩=>by
  subst e;cases r1;have fp:∀b∈[s1.heap.objs.size],FpOk X pins H1 b:=λb hb=>by
   rw[Ap] at hb;subst hb;exact I1.fpOk (Ad _) (I1.hok.fresh (Ad _))
  rcases q1 with⟨⟨xs,hq⟩,q⟩|⟨⟨xs,hq⟩,q⟩
  ·obtain⟨its,_,p,_⟩:=I1.list hq;exact Gb p.isList ⟨_,_,_,_,H1,rfl,I1.kept (t':=s1.toks) λb o e=>Ai _ e,zxm a _,⟨_,Bb _ rfl,rfl,rfl⟩,fp,q⟩
  ·obtain⟨its,_,p,_⟩:=I1.tuple hq;exact wpAny_pyIter_tuple (show s1.heap.IsTuple a its.toArray from p) ⟨_,_,_,_,H1,rfl,I1.kept (t':=s1.toks) λb o e=>Ai _ e,zrx a _,⟨_,Bb _ rfl,rfl,rfl⟩,fp,q⟩
end
noncomputable def zaz (g:GE):GL:=λen=>(g en).bind λp=>(seqW p.2.1).bind λws=>some (p.1,ws)
noncomputable def zdo (i:Int):Bool:=decide (-(2 ^ 62)<=i) && decide (i<2 ^ 62)
noncomputable def za8 (as:GAs):GL:=λen=>(as en).bind λp=>match zar p.1 p.2 with
 |some [.int j]=>if zdo j then some (p.1,rngW 0 j.toNat) else none
 |_=>none
noncomputable def yc6 (as:GAs):GL:=λen=>(as en).bind λp=>match zar p.1 p.2 with
 |some [.int i,.int j]=>if zdo i && zdo j then some (p.1,rngW i (j - i).toNat) else none
 |_=>none
noncomputable def gRev (g:GE):GL:=λen=>(g en).bind λp=>(seqL p.2.1).bind λws=>some (p.1,ws.reverse)
theorem zqp {i:Int}(h:zdo i=true):-(2 ^ 62)<=i/\i<2 ^ 62:=by
 unfold zdo at h;rw[Ac] at h;exact⟨Al h.1,Al h.2⟩
section
variable {K:PySem.W.Frag}{σ:St}{H:Hp}
theorem zmb {g:GE}{R:It->Hp->Prop} (h:tI K (zaz g) σ H R):iSeq K (tE K g) σ H R:=by
  nofun;obtain⟨F,pr,en,en',ws,Re,h,q⟩:=h;obtain⟨⟨e1,rv⟩,h1,h⟩:=bS h;obtain⟨us,hs,h⟩:=bS h;ac_rfl;cases h;refine⟨F,pr,en,e1,rv,Re,h1,λF1 H1 v s1 R1 z=>?_⟩;nofun;obtain⟨F2,s2,R2,y⟩:=z.freeze R1;obtain⟨w,fl⟩:=rv;ac_rfl;cases w with
  | lst xs=>obtain rfl:=sI hs;cases y with
    |lst y r=>exact⟨_,rfl,.inl ⟨⟨_,SqL.of' (R2.sub _ _ y)⟩,q F2 H1 _ (s1.trans s2) R2 (zp8 (SqL.of' y) r)⟩⟩
  | frl xs=>obtain rfl:=sI hs;cases y with
    |frl y r=>exact⟨_,rfl,.inl ⟨⟨_,R2.sub.seq y⟩,q F2 H1 _ (s1.trans s2) R2 (zp8 y r)⟩⟩
  | tup xs=>obtain rfl:=sI hs;cases y with
    |tup y r=>exact⟨_,rfl,.inr ⟨⟨_,.inl (.inl (R2.sub _ _ y))⟩,q F2 H1 _ (s1.trans s2) R2 (ybt (.inl (.inl y)) r)⟩⟩
  |_=>cases hs
theorem zto {as:GAs}{R:It->Hp->Prop} (h:tI K (za8 as) σ H R):ya2 (tAs K as) σ H R:=by
  nofun;obtain⟨F,pr,en,en',ws,Re,h,q⟩:=h;obtain⟨⟨e1,xs⟩,h1,h⟩:=bS h;ac_rfl;refine⟨F,pr,en,e1,xs,Re,h1,λF1 H1 vs s1 R1 a1=>?_⟩;cases e:zar e1 xs with
  |none=>simp only [e] at h;exact noSome h
  | some us =>
    have rr:=a1.repBs R1 e
    match us,e,rr with
    | [.int j],e,rr =>
      simp only [e] at h;split at h
      · rename_i z
        cases h;obtain⟨v,e1,hv⟩:=rr.one;subst e1;exact⟨j,by rw[hv.int],(zqp z).1,(zqp z).2,q F1 H1 _ s1 R1 (zyy 0 j.toNat)⟩
      · exact noSome h
    |[],e,_=>simp only [e] at h;exact noSome h
    |.non::_,e,_=>simp only [e] at h;exact noSome h
    |.bl _::_,e,_=>simp only [e] at h;exact noSome h
    |.str _::_,e,_=>simp only [e] at h;exact noSome h
    |.tup _::_,e,_=>simp only [e] at h;exact noSome h
    |.lst _::_,e,_=>simp only [e] at h;exact noSome h
    |.frl _::_,e,_=>simp only [e] at h;exact noSome h
    |.dic::_,e,_=>simp only [e] at h;exact noSome h
    |.dct _ _::_,e,_=>simp only [e] at h;exact noSome h
    |.dcz _ _::_,e,_=>simp only [e] at h;exact noSome h
    |.int _::_::_,e,_=>simp only [e] at h;exact noSome h
theorem zok {F:Hp}{w:W}{ws:List W}{v:V} (y:Rep K F w v) (hs:seqL w=some ws):∃a vs,v=.ref a/\SqL K F a vs/\Reps K F ws vs:=by
  cases w with
  | lst xs=>obtain rfl:=sI hs;cases y with
    |lst y r=>exact⟨_,_,rfl,SqL.of' y,r⟩
  | frl xs=>obtain rfl:=sI hs;cases y with
    |frl y r=>exact⟨_,_,rfl,y,r⟩
  |_=>cases hs
theorem z0u {g:GE}{R:It->Hp->Prop}(h:tI K (gRev g) σ H R):iRev K (zdq (tE K g) tNil) σ H R:=by
 nofun;obtain⟨F,pr,en,en',ws,Re,h,q⟩:=h;obtain⟨⟨e1,rv⟩,h1,h⟩:=bS h;obtain⟨us,hs,h⟩:=bS h;ac_rfl;cases h;refine⟨F,pr,en,e1,rv,Re,h1,λF1 H1 v s1 R1 z=>?_⟩;nofun;obtain⟨F2,s2,R2,y⟩:=z.freeze R1;obtain⟨a,vs,e,hq,r⟩:=zok y hs;ac_rfl;subst e;exact⟨a,vs,rfl,R2.sub.seq hq,q F2 H1 _ (s1.trans s2) R2 (z84 hq r)⟩
end
inductive Tg where
 |nm (i:Nat)
 |tp (is:List Nat)
noncomputable def setAll (mp:List Nat):List Nat->List W->En->Option En
 |[],[],en=>some en
 |i::is,w::ws,en=>if mp.contains i || !decide (i<en.length) then none else setAll mp is ws (en.set i (#v[w,6]))
 |_,_,_=>none
noncomputable def tgSet (mp:List Nat):Tg->W->En->Option En
 |.nm i,w,en=>if mp.contains i || !decide (i<en.length) then none else some (en.set i (#v[w,6]))
 |.tp is,.tup ws,en=>setAll mp is ws en
 |.tp is,.lst ws,en=>setAll mp is ws en
 |_,_,_=>none
noncomputable def zqz:List Nat->TGs
 |[]=>gNil
 |i::is=>z10 (zrw i) (zqz is)
noncomputable def z6s (K:PySem.W.Frag) (n:Nat) (t:TGs):TG:=λv σ H Q=>∃a xs,v=.ref a/\(SqT K H a xs\/SqL K H a xs)/\xs.length=n/\t xs σ H Q
theorem zgv {X:Cx}{es:List Expr}{k:Nat}{t:TGs}{n:Nat}{pos:Pos}(hc:X.calm=true)(h:PGs X es t)(hn:(assignEach es X.env).length=n)(hst:(assignEach es X.env).findIdx? (·.1)=none):PG X (.Tuple es k pos) (z6s X.K n t):=by
 intro pins s σ H v u Q I r hw;nofun;obtain⟨a,xs,e1,hq,hl,hw⟩:=hw;ac_rfl;rcases hq with hq|hq
 ·exact z97 hc h hn hst pins s σ H v u Q I r ⟨a,xs,e1,hq,hl,hw⟩
 ·subst e1;cases r;nofun;obtain⟨its,rv,⟨o,m,q1,q2,_,q3⟩,hz⟩:=I.list hq;ac_rfl;rw[assign_Tuple];refine Ab (Hg ?_);unfold unpack;have hs:(assignEach es X.env).length=its.toArray.size:=by rw[Ah,hn,<-hl,rv.length]
  rw[hs,hst];refine Ab (El (PySem.W.kun_itemsOf (I.ok.hd hc) ⟨o,q1,q2,m,q3⟩ λh' hx=>?_));have I1:Inv X pins σ H { s with heap:=h' }:=I.kept (t':=s.toks) λb o e=>hx b o (Bi (As e)) e;exact h pins _ σ H xs _ Q I1 (by simpa using rv) hw
noncomputable def TGof (K:PySem.W.Frag):Tg->TG
 |.nm i=>zrw i
 |.tp is=>z6s K is.length (zqz is)
noncomputable def Keep (mp:List Nat) (σ σ' : St):Prop:=∀i∈mp,σ'[i]?=σ[i]?
theorem Keep.refl (mp:List Nat)(σ:St):Keep mp σ σ:=λ_ _=>rfl
theorem Keep.trans {mp:List Nat}{σ σ1 σ2:St}(a:Keep mp σ σ1)(b:Keep mp σ1 σ2):Keep mp σ σ2:=λi h=>(b i h).trans (a i h)
theorem Keep.set {mp:List Nat}{σ:St}{i:Nat}(h:mp.contains i=false)(v:Option V):Keep mp σ (σ.set i v):=λj hj=>by
 have:i≠j:=λe=>by subst e;rw[List.contains_iff_mem.mpr hj] at h;cases h
 exact Ch this
section
variable {K:PySem.W.Frag}{F H:Hp}{pr:Prt}
theorem zen {mp:List Nat}{Q:St->Hp->Prop}:∀{is:List Nat}{ws:List W}{vs:List V}{en en' : En}{σ:St},Rel K F pr en σ H->Reps K F ws vs->setAll mp is ws en=some en'->(∀σ',Rel K F pr en' σ' H->Keep mp σ σ'->Q σ' H)->zqz is vs σ H Q
  |[],[],_,en,en',σ,R,.nil,h,q=>by obtain rfl:=sI h;exact⟨rfl,q σ R (.refl _ _)⟩
  | i::is,w::ws,_,en,en',σ,R,.cons (v:=v) (vs:=vs) h0 r,h,q=>by
    unfold setAll at h;split at h
    · exact noSome h
    · rename_i z
      rw[Bz,not_or,Bn,Bn,Cq] at z;refine⟨v,vs,rfl,?_⟩;exact zen (R.store (r:=(w,false)) (i:=i) h0 (Al z.2)) r h λσ' R' k=>q σ' R' ((Keep.set z.1 _).trans k)
  |[],_::_,_,_,_,_,_,_,h,_=>by exact noSome h
  |_::_,[],_,_,_,_,_,_,h,_=>by exact noSome h
theorem zg2 {mp:List Nat}{T:Tg}{w:W}{v:V}{en en' : En}{σ:St}{Q:St->Hp->Prop} (R:Rel K F pr en σ H) (h0:Rep K F w v) (h:tgSet mp T w en=some en') (q:∀σ',Rel K F pr en' σ' H->Keep mp σ σ'->Q σ' H):TGof K T v σ H Q:=by
  cases T with
  | nm i =>
    unfold tgSet at h;simp only at h;split at h
    · exact noSome h
    · rename_i z
      rw[Bz,not_or,Bn,Bn,Cq] at z;obtain rfl:=sI h;exact q _ (R.store (r:=(w,false)) h0 (Al z.2)) (Keep.set z.1 _)
  | tp is =>
    have go:∀(is:List Nat) (ws:List W) (en en' : En),setAll mp is ws en=some en'->is.length=ws.length:=by
      intro is
      induction is with
      | nil=>intro ws en en' h;cases ws with
        |nil=>rfl
        |cons _ _=>exact noSome h
      | cons i is ih=>intro ws en en' h;cases ws with
        |nil=>exact noSome h
        | cons w ws =>
          unfold setAll at h;split at h
          · exact noSome h
          · exact congrArg (· + 1) (ih _ _ _ h)
    cases w with
    | tup ws =>
      cases h0 with
      | tup hf r =>
        exact⟨_,_,rfl,.inl (.inl (.inl (R.sub _ _ hf))),by rw[go is ws en en' h,r.length],zen R r h q⟩
    | lst ws =>
      cases h0 with
      | lst hf r =>
        exact⟨_,_,rfl,.inr (SqL.of' (R.sub _ _ hf)),by rw[go is ws en en' h,r.length],zen R r h q⟩
    |_=>exact noSome h
end
inductive Fl where
 |nx|ret (r:W × Bool)|brk|cnt
noncomputable abbrev GS:=En->Option (En × Fl)
noncomputable def z0m (K:PySem.W.Frag) (mp:List Nat) (F:Hp) (pr:Prt) (σ:St) (D:Ends) (en' : En):Fl->Prop
 |.nx=>∀F' σ' H',Same F F'->Rel K F' pr en' σ' H'->Keep mp σ σ'->D.nx σ' H'
 |.brk=>∀F' σ' H',Same F F'->Rel K F' pr en' σ' H'->Keep mp σ σ'->D.bk σ' H'
 |.cnt=>∀F' σ' H',Same F F'->Rel K F' pr en' σ' H'->Keep mp σ σ'->D.ct σ' H'
 |.ret r=>∀F' σ' H' v,Same F F'->Rel K F' pr en' σ' H'->Keep mp σ σ'->Res K F' H' pr en' σ' r v->D.rt v H'
noncomputable def tS (K:PySem.W.Frag) (mp:List Nat) (g:GS):TS:=λD σ H=>∃F pr en en' fl,Rel K F pr en σ H/\g en=some (en',fl)/\z0m K mp F pr σ D en' fl
theorem z0m.step {K:PySem.W.Frag}{mp:List Nat}{F F1:Hp}{pr:Prt}{σ σ1:St}{D:Ends}{en' : En}{fl:Fl}(s:Same F F1)(k:Keep mp σ σ1)(h:z0m K mp F pr σ D en' fl):z0m K mp F1 pr σ1 D en' fl:=by
 cases fl with
 |nx=>exact λF' σ' H' s' R' k'=>h F' σ' H' (s.trans s') R' (k.trans k')
 |brk=>exact λF' σ' H' s' R' k'=>h F' σ' H' (s.trans s') R' (k.trans k')
 |cnt=>exact λF' σ' H' s' R' k'=>h F' σ' H' (s.trans s') R' (k.trans k')
 |ret r=>exact λF' σ' H' v s' R' k' z=>h F' σ' H' v (s.trans s') R' (k.trans k') z
noncomputable def zau:GS:=λen=>some (en,.nx)
noncomputable def gBrk:GS:=λen=>some (en,.brk)
noncomputable def gCnt:GS:=λen=>some (en,.cnt)
noncomputable def gSeq (a b:GS):GS:=λen=>match a en with
 |some (en',.nx)=>b en'
 |some (en',f)=>some (en',f)
 |none=>none
noncomputable def gRet (g:GE):GS:=λen=>(g en).bind λp=>some (p.1,.ret p.2)
noncomputable def yeh:GS:=λen=>some (en,.ret (.non,false))
noncomputable def gIfS (c:GT) (a b:GS):GS:=λen=>match c en with
 |#v[en',5]=>a en'
 |#v[en',6]=>b en'
 |none=>none
noncomputable def zdk (g:GE):GS:=λen=>(g en).bind λp=>some (p.1,.nx)
noncomputable def gSet (mp:List Nat) (i:Nat) (g:GE):GS:=λen=>(g en).bind λp=>if mp.contains i || !decide (i<p.1.length) then none else some (p.1.set i (some p.2),.nx)
noncomputable def gAsg (mp:List Nat) (T:Tg) (g:GE):GS:=λen=>(g en).bind λp=>(tgSet mp T p.2.1 p.1).bind λe=>some (e,.nx)
section
variable {K:PySem.W.Frag}{mp:List Nat}{D:Ends}{σ:St}{H:Hp}
theorem zlw (h:tS K mp zau D σ H):z72 D σ H:=by
 obtain⟨F,pr,en,en',fl,R,h,q⟩:=h;cases h;exact q F σ H (.refl F) R (.refl _ _)
theorem z18 {a b:GS} (h:tS K mp (gSeq a b) D σ H):tSeq (tS K mp a) (tS K mp b) D σ H:=by
  nofun;obtain⟨F,pr,en,en',fl,R,h,q⟩:=h;ac_rfl;unfold gSeq at h;cases e:a en with
  |none=>simp only [e] at h;exact noSome h
  | some p =>
    obtain⟨e1,f1⟩:=p;refine⟨F,pr,en,e1,f1,R,e,?_⟩;cases f1 with
    | nx =>
      simp only [e] at h;exact λF1 σ1 H1 s1 R1 k1=>⟨F1,pr,e1,en',fl,R1,h,q.step s1 k1⟩
    |brk=>simp only [e] at h;cases h;exact q
    |cnt=>simp only [e] at h;cases h;exact q
    |ret r=>simp only [e] at h;cases h;exact q
theorem zz9 {g:GE}(h:tS K mp (gRet g) D σ H):tRet (tE K g) D σ H:=by
 nofun;obtain⟨F,pr,en,en',fl,R,h,q⟩:=h;obtain⟨⟨e1,r⟩,h1,h⟩:=bS h;ac_rfl;cases h;exact⟨F,pr,en,e1,r,R,h1,λF' H' v s' R' z=>q F' σ H' v s' R' (.refl _ _) z⟩
theorem z1t {c:GT}{a b:GS} (h:tS K mp (gIfS c a b) D σ H):tIfS (tT K c) (tS K mp a) (tS K mp b) D σ H:=by
  nofun;obtain⟨F,pr,en,en',fl,R,h,q⟩:=h;ac_rfl;unfold gIfS at h;cases e:c en with
  |none=>simp only [e] at h;exact noSome h
  | some p =>
    obtain⟨e1,d⟩:=p;refine⟨F,pr,en,e1,d,R,e,λF1 H1 s1 R1=>?_⟩;cases d with
    |true=>simp only [e] at h;exact iteT ⟨F1,pr,e1,en',fl,R1,h,q.step s1 (.refl _ _)⟩
    |false=>simp only [e] at h;exact iteF ⟨F1,pr,e1,en',fl,R1,h,q.step s1 (.refl _ _)⟩
theorem zwj {g:GE}(h:tS K mp (zdk g) D σ H):z80 (tE K g) D σ H:=by
 nofun;obtain⟨F,pr,en,en',fl,R,h,q⟩:=h;obtain⟨⟨e1,r⟩,h1,h⟩:=bS h;ac_rfl;cases h;exact⟨F,pr,en,e1,r,R,h1,λF' H' v s' R' z=>q F' σ H' s' R' (.refl _ _)⟩
theorem zjd {i:Nat}{g:GE}(h:tS K mp (gSet mp i g) D σ H):tAsg (tE K g) (zrw i) D σ H:=by
 nofun;obtain⟨F,pr,en,en',fl,R,h,q⟩:=h;obtain⟨⟨e1,r⟩,h1,h⟩:=bS h;ac_rfl;split at h
 ·exact noSome h
 ·rename_i z;rw[Bz,not_or,Bn,Bn,Cq] at z;cases h;exact⟨F,pr,en,e1,r,R,h1,λF' H' v s' R' y=>q F' _ H' s' (R'.store y (Al z.2)) (Keep.set z.1 _)⟩
theorem zzu {T:Tg}{g:GE}(h:tS K mp (gAsg mp T g) D σ H):tAsg (tE K g) (TGof K T) D σ H:=by
 nofun;obtain⟨F,pr,en,en',fl,R,h,q⟩:=h;obtain⟨⟨e1,r⟩,h1,h⟩:=bS h;obtain⟨e2,h2,h⟩:=bS h;ac_rfl;cases h;refine⟨F,pr,en,e1,r,R,h1,λF1 H1 v s1 R1 y=>?_⟩;nofun;obtain⟨F2,s2,R2,z⟩:=y.freeze R1;ac_rfl;exact zg2 R2 z h2 λσ' R' k=>q F2 σ' H1 (s1.trans s2) R' k
noncomputable def gPar (mp:List Nat) (i j:Nat) (a b:GE):GS:=λen=>(a en).bind λp=>(b p.1).bind λq=>if mp.contains i || mp.contains j || !decide (i<q.1.length) || !decide (j<q.1.length) then none else some ((q.1.set i (#v[p.2.1,6])).set j (some q.2),.nx)
theorem zy0 {i j:Nat}{a b:GE} (h:tS K mp (gPar mp i j a b) D σ H):tPar i j (zdq (tE K a) (zdq (tE K b) tNil)) D σ H:=by
  nofun;obtain⟨F,pr,en,en',fl,R,h,q⟩:=h;obtain⟨⟨e1,r1⟩,h1,h⟩:=bS h;obtain⟨⟨e2,r2⟩,h2,h⟩:=bS h;ac_rfl;split at h
  · exact noSome h
  · rename_i z
    simp only [Bz,not_or,Bn,Cq,Bp] at z;refine aG fun _ qG=>?_;obtain ⟨⟨⟨z1,z2⟩,z3⟩,z4⟩:=z;refine qG ?_;clear qG;cases h;refine ⟨F,pr,en,e1,r1,R,h1,fun F1 H1 v1 s1 R1 y1=>?_⟩;refine aG fun _ qG=>?_;obtain ⟨F2,s2,R2,x1⟩:=y1.freeze R1;refine qG ?_;clear qG;refine ⟨F2,pr,e1,e2,r2,R2,h2,fun F3 H3 v2 s3 R3 y2=>⟨v1,v2,rfl,?_⟩⟩;have Ra:Rel K F3 pr (e2.set i (some (r1.1,false))) (σ.set i (some v1)) H3:=R3.store (r:=(r1.1,false)) (x1.mono s3) z3;have y2' : Res K F3 H3 pr (e2.set i (some (r1.1,false))) (σ.set i (some v1)) r2 v2:=by
      obtain⟨w2,fl2⟩:=r2;cases fl2 with
      |false=>exact y2
      | true =>
        nofun;obtain⟨a,vs,ws,q1,q2,q3,q4,q5,q6,q7⟩:=y2;ac_rfl;refine⟨a,vs,ws,q1,q2,q3,q4,q5,λk w' hk=>?_,q7⟩;rcases zdw z3 hk with⟨_,e⟩|⟨hne,e⟩
        · cases e
        · rw[Ch (Ne.symm hne)];exact q6 k w' e
    exact q F3 _ H3 (s1.trans (s2.trans s3)) (Ra.store y2' (by rw[Di];exact z4)) ((Keep.set z1 _).trans (Keep.set z2 _))
noncomputable def za7 (i:Nat) (k:GE) (g:GE):GS:=fun en=>(g en).bind fun p=>match p.1[i]? with
  | some (some _)=>(k p.1).bind fun q=>match q.2,q.1[i]? with
    |(.int n,_),some (#v[ws,2])=>(ixN ws.length n).bind λj=>some (q.1.set i (#v[(ws.set j p.2.1),2]),.nx)
    |_,_=>none
  |_=>none
theorem zsg {i:Nat}{k g:GE}(h:tS K mp (za7 i k g) D σ H):tAsg (tE K g) (gSub (tVar i) (tE K k) ycd) D σ H:=by
 obtain⟨F,pr,en,en',fl,R,h,q⟩:=h;obtain⟨⟨e1,r1⟩,h1,h⟩:=bS h;refine⟨F,pr,en,e1,r1,R,h1,λF1 H1 v1 s1 R1 y1=>?_⟩;obtain⟨F2,s2,R2,x1⟩:=y1.freeze R1;split at h
 ·rename_i x0 hx0;obtain⟨⟨e2,r2⟩,h2,h⟩:=bS h;obtain⟨w0,f0⟩:=x0;obtain⟨v0,hv0⟩:=R2.has hx0;refine⟨v0,hv0,F2,pr,e1,e2,r2,R2,h2,λF3 H3 v2 s3 R3 y2=>?_⟩;split at h
  ·rename_i n fl2 ws eq1 eq2;simp only at eq1;subst eq1;obtain⟨j,hj,h⟩:=bS h;cases h;obtain⟨a,vs,ws',q1,q2,q3,q4,q5⟩:=R3.ownL eq2;cases q1;rw[hv0] at q2;cases q2;refine⟨a,vs,n,j,rfl,y2.isInt,q3,by rw[<-q5.length];exact hj,?_⟩;exact q F3 σ _ (s1.trans (s2.trans s3)) (R3.change eq2 hv0 (q5.set (x1.mono s3) j)) (.refl _ _)
  ·exact noSome h
 ·exact noSome h
noncomputable def gApp (i:Nat) (g:GE):GE:=fun en=>match en[i]? with
  | some (some (.lst _,true))=>(g en).bind fun p=>match p.1[i]? with
    |some (#v[ws,2])=>if ws.length<sizeLine then some (p.1.set i (#v[(ws++[p.2.1]),2]),(.non,false)) else none
    |_=>none
  |_=>none
theorem zyu {i:Nat}{g:GE}{Q:VK}(h:tE K (gApp i g) σ H Q):tBM K "list" zul (tVar i) (zdq (tE K g) tNil) σ H Q:=by
 nofun;obtain⟨F,pr,en,en',r,R,h,q⟩:=h;ac_rfl;unfold gApp at h;split at h
 ·rename_i w0 hx0;nofun;obtain⟨a,vs,ws0,q1,q2,q3,q4,q5⟩:=R.ownL hx0;obtain⟨⟨e1,r1⟩,h1,h⟩:=bS h;ac_rfl;refine⟨.ref a,q2,.inl ⟨rfl,vs,SqL.of' q3⟩,F,pr,en,e1,r1,R,h1,λF1 H1 v1 s1 R1 y1=>?_⟩;nofun;obtain⟨F2,s2,R2,x1⟩:=y1.freeze R1;ac_rfl;split at h
  ·rename_i ws hx1;split at h
   ·rename_i hz;cases h;nofun;obtain⟨a',vs',ws',p1,p2,p3,p4,p5⟩:=R2.ownL hx1;ac_rfl;cases p1;rw[q2] at p2;cases p2;refine⟨a,vs',v1,rfl,rfl,p3,by rw[<-p5.length];exact hz,?_⟩;exact q F2 _ _ (s1.trans s2) (R2.change hx1 q2 (p5.append (.cons x1 .nil))) .non
   ·exact noSome h
  ·exact noSome h
 ·exact noSome h
noncomputable def gExt (i:Nat) (g:GE):GE:=fun en=>match en[i]? with
  | some (some (.lst _,true))=>(g en).bind fun p=>match p.2.1,p.1[i]? with
    |.lst us,some (#v[ws,2])=>if ws.length+us.length<=sizeLine then some (p.1.set i (#v[(ws++us),2]),(.non,false)) else none
    |_,_=>none
  |_=>none
noncomputable def gAug (mp:List Nat) (o:O2) (i:Nat) (g:GA):GS:=λen=>match en[i]? with
 |some (#v[w,6])=>(g en).bind λp=>(resA p.1 p.2).bind λu=>(o w u).bind λr=>if mp.contains i || !decide (i<p.1.length) then none else some (p.1.set i (some r),.nx)
 |_=>none
theorem z0k {i:Nat}{o:O2}{r:R2}{g:GA}(ho:OpS K r o)(h:tS K mp (gAug mp o i g) D σ H):tAug i (tA K g) r D σ H:=by
 nofun;obtain⟨F,pr,en,en',fl,R,h,q⟩:=h;ac_rfl;unfold gAug at h;split at h
 ·rename_i w hx;nofun;obtain⟨v,hv,rw'⟩:=R.val i w hx;obtain⟨⟨e1,x1⟩,h1,h⟩:=bS h;obtain⟨u,hu,h⟩:=bS h;obtain⟨rv,hr,h⟩:=bS h;ac_rfl;split at h
  ·exact noSome h
  ·rename_i z;rw[Bz,not_or,Bn,Bn,Cq] at z;cases h;refine⟨v,hv,F,pr,en,e1,x1,R,h1,λF1 H1 v1 s1 R1 a1=>?_⟩;refine ho F1 H1 w u v v1 rv _ R1.sub (.inl (rw'.mono s1)) (a1.repB R1 hu) hr λv2 H2 o2=>?_;nofun;obtain⟨F3,s3,R3,y⟩:=o2.close R1;ac_rfl;exact q F3 _ H2 (s1.trans s3) (R3.store y (Al z.2)) (Keep.set z.1 _)
 ·exact noSome h
noncomputable def zgb (mp:List Nat) (T:Tg) (body:GS):List W->En->Option (En × Fl)
  |[],en=>some (en,.nx)
  | w::ws,en=>(tgSet mp T w en).bind fun e1=>match body e1 with
    |some (e2,.nx)=>zgb mp T body ws e2
    |some (e2,.cnt)=>zgb mp T body ws e2
    |some (e2,.brk)=>some (e2,.nx)
    |some (e2,.ret r)=>some (e2,.ret r)
    |none=>none
noncomputable def gFor (mp:List Nat) (T:Tg) (it:GL) (body:GS):GS:=λen=>(it en).bind λp=>zgb mp T body p.2 p.1
theorem zzn {T:Tg}{it:GL}{body:GS} (h:tS K mp (gFor mp T it body) D σ H):tFor (tI K it) (TGof K T) (tS K mp body) D σ H:=by
  nofun;obtain⟨F,pr,en,en',fl,R,h,q⟩:=h;obtain⟨⟨e1,ws⟩,h1,h⟩:=bS h;ac_rfl;refine⟨F,pr,en,e1,ws,R,h1,λF1 H1 J s1 R1 ok=>?_⟩;refine⟨λi m σ' H'=>m=ws.length - i/\i<=ws.length/\∃F' e',Same F1 F'/\Rel K F' pr e' σ' H'/\Keep mp σ σ'/\zgb mp T body (ws.drop i) e'=some (en',fl),⟨_,rfl,Ca _,F1,e1,.refl _,R1,.refl _ _,by simpa using h⟩,?_⟩;rintro i m σ' H' ⟨rfl,hi,F',e',s',R',k',hl⟩;by_cases hlt:i<ws.length
  · refine .inr ⟨ok.go i H' (s'.trans R'.sub) hlt, ?_⟩
    have hd:ws.drop i=ws[i]::ws.drop (i+1):=(Cu hlt);rw[hd] at hl;obtain⟨e2,h2,hl⟩:=bS (show (tgSet mp T ws[i] e').bind _=_ from hl);refine⟨λσ2 H2=>∃F2 e3,Same F1 F2/\Rel K F2 pr e3 σ2 H2/\Keep mp σ σ2/\zgb mp T body (ws.drop (i+1)) e3=some (en',fl),?_,?_⟩
    · rintro σ2 H2 ⟨F2, e3, s2, R2, k2, hl2⟩
      exact⟨ws.length - (i+1),by omega,rfl,hlt,F2,e3,s2,R2,k2,hl2⟩
    · intro x H2 y
      obtain⟨w,ew,out⟩:=ok.yld i H' x H2 (s'.trans R'.sub) hlt y;rw[Aa hlt] at ew;obtain rfl:=sI ew;nofun;obtain⟨F3,s3,R3,z⟩:=(out.mono s').close R';ac_rfl;refine zg2 (w:=ws[i]) R3 z h2 λσ3 R4 k4=>?_;cases eb:body e2 with
      |none=>simp only [eb] at hl;exact noSome hl
      | some p =>
        obtain⟨e5,f5⟩:=p;refine⟨F3,pr,e2,e5,f5,R4,eb,?_⟩;have sF:Same F1 F3:=s'.trans s3;cases f5 with
        | nx =>
          simp only [eb] at hl;exact λF6 σ6 H6 s6 R6 k6=>⟨F6,e5,sF.trans s6,R6,(k'.trans k4).trans k6,hl⟩
        | cnt =>
          simp only [eb] at hl;exact λF6 σ6 H6 s6 R6 k6=>⟨F6,e5,sF.trans s6,R6,(k'.trans k4).trans k6,hl⟩
        | brk =>
          simp only [eb] at hl;cases hl;exact λF6 σ6 H6 s6 R6 k6=>q F6 σ6 H6 (s1.trans (sF.trans s6)) R6 ((k'.trans k4).trans k6)
        | ret r =>
          simp only [eb] at hl;cases hl;exact λF6 σ6 H6 v s6 R6 k6 z=>q F6 σ6 H6 v (s1.trans (sF.trans s6)) R6 ((k'.trans k4).trans k6) z
  · have e : i = ws.length := by omega
    subst e;rw[List.drop_length] at hl;cases hl;exact .inl ⟨ok.stop H' (s'.trans R'.sub),q F' σ' H' (s1.trans s') R' k'⟩
end
section
variable {X:Cx}
noncomputable def zt7:V->List V->Hp->VK->Prop:=λx vs H Q=>∃(l:Addr) (xs:List V) (k:Nat) (y:V),x=.ref l/\vs=[.int k,y]/\H l=some (.lst xs)/\k<=xs.length/\xs.length<sizeLine/\Q .non (upd H l (.lst (xs.take k++y::xs.drop k)))
theorem z7a (its:List Value) (k:Nat) (y:Value) (hk:k<=its.length) :
  (λxs:Array Value=>have k:=if (k:Int)<0 then ((k:Int)+((xs.size:Nat):Int)).toNat else min (k:Int).toNat xs.size;(xs.extract 0 k).push y++xs.extract k) its.toArray=(its.take k++y::its.drop k).toArray:=by
 have e:(if (k:Int)<0 then ((k:Int)+((its.toArray.size:Nat):Int)).toNat else min (k:Int).toNat its.toArray.size)=k:=by
  rw[if_neg #v[],Ah,Co,Nat.min_eq_left hk]
 show (its.toArray.extract 0 (if (k:Int)<0 then ((k:Int)+((its.toArray.size:Nat):Int)).toNat else min (k:Int).toNat its.toArray.size)).push y++its.toArray.extract (if (k:Int)<0 then ((k:Int)+((its.toArray.size:Nat):Int)).toNat else min (k:Int).toNat its.toArray.size)=_;rw[e];simp;exact Fu (by rw[Ds];exact Ad _)
theorem zw5:MtM X "list.insert" zt7:=by
  intro pins s σ H x vs v us Q I rx rv h;nofun;obtain⟨l,xs,k,y,rfl,rfl,hH,hk,hz,q⟩:=h;ac_rfl;cases rx;cases rv with
  | @cons _ u1 _ _ r1 rr =>
    cases rr with
    | @cons _ u2 _ _ r2 rr2 =>
      cases rr2;refine aG fun _ qG=>?_;obtain ⟨t,rfl⟩:=(show ∃t,u1=Value.int k t from r1);obtain ⟨z,its,n,r,hl,e⟩:=I.lstM hH;refine qG ?_;clear qG;have ln:=r.length;have line:sizeLine=16777216:=Fy;have fits:Builtin.List.listFitsIndex (k:Int)=true:=by
        unfold Builtin.List.listFitsIndex;rw[Ac];exact⟨Af #v[],Af #v[]⟩
      have sz:its.toArray.size<=sizeLine:=Nat.le_of_lt (by rw[Ah,<-ln];exact hz);have fz:¬(!Builtin.List.listFitsIndex (k:Int))=true:=λz=>by rw[fits] at z;cases z
      have mm:=@PySem.AutoListH.list_insert_list_int_val_1 l its.toArray n (k:Int) t u2 fz sz;clear fits fz sz;generalize hkk:(k:Int)=kk at mm ⊢;refine Em F.slot_list_insert ⟨_,e,rfl⟩ F.entry_list_insert (F.args_list_insert_3 (.ref l) (.int kk t) u2) mm (And.intro e ?_);subst hkk;refine⟨.non,_,I.lset (its':=its.take k++u2::its.drop k) hH e (z7a its k u2 #v[]) ?_ ?_,rfl,q⟩
      · exact (r.take k).append (.cons r2 (r.drop k))
      · rw [Az, Ay, Cn, Ds]
        omega
end
section
variable {K:PySem.W.Frag}{σ:St}{H:Hp}
noncomputable def intW:W->Option Int
 |.int k=>some k
 |_=>none
noncomputable def gIns (i:Nat) (g g' : GE):GE:=fun en=>match en[i]? with
  | some (some (.lst _,true))=>(g en).bind fun p=>(g' p.1).bind fun q=>(intW p.2.1).bind fun k=>match q.1[i]? with
    |some (#v[ws,2])=>if 0<=k/\k.toNat<=ws.length/\ws.length<sizeLine then some (q.1.set i (#v[(ws.take k.toNat++q.2.1::ws.drop k.toNat),2]),(.non,false)) else none
    |_=>none
  |_=>none
theorem z0c {i:Nat}{g g' : GE}{Q:VK}(h:tE K (gIns i g g') σ H Q):tBM K "list" zt7 (tVar i) (zdq (tE K g) (zdq (tE K g') tNil)) σ H Q:=by
 nofun;obtain⟨F,pr,en,en',r,R,h,q⟩:=h;ac_rfl;unfold gIns at h;split at h
 ·rename_i w0 hx0;nofun;obtain⟨a,vs,ws0,q1,q2,q3,q4,q5⟩:=R.ownL hx0;obtain⟨⟨e1,w1,f1⟩,h1,ha⟩:=bS h;obtain⟨⟨e2,r2⟩,h2,hb⟩:=bS ha;obtain⟨k,hk,hc⟩:=bS hb;ac_rfl;clear ha hb h;refine⟨.ref a,q2,.inl ⟨rfl,vs,SqL.of' q3⟩,F,pr,en,e1,(w1,f1),R,h1,λF1 H1 v1 s1 R1 y1=>⟨F1,pr,e1,e2,r2,R1,h2,λF2 H2 v2 s2 R2 y2=>?_⟩⟩;nofun;obtain⟨F3,s3,R3,x2⟩:=y2.freeze R2;ac_rfl;split at hc
  ·rename_i ws hx1;have ew:w1=.int k:=by
    cases w1 with
    |int j=>obtain rfl:=sI hk;rfl
    |_=>exact noSome hk
   subst ew;have ek:=y1.isInt;subst ek;by_cases hz:0<=k/\k.toNat<=ws.length/\ws.length<sizeLine
   ·rw[if_pos hz] at hc;cases hc;nofun;obtain⟨a',vs',ws',p1,p2,p3,p4,p5⟩:=R3.ownL hx1;ac_rfl;cases p1;rw[q2] at p2;cases p2;have kc:(k.toNat:Int)=k:=Int.toNat_of_nonneg hz.1;refine⟨a,vs',k.toNat,v2,rfl,by rw[kc],p3,by rw[<-p5.length];exact hz.2.1,by rw[<-p5.length];exact hz.2.2,?_⟩;exact q F3 _ _ (s1.trans (s2.trans s3)) (R3.change hx1 q2 ((p5.take _).append (.cons x2 (p5.drop _)))) .non
   ·rw[if_neg hz] at hc;exact noSome hc
  ·exact noSome hc
 ·exact noSome h
end
section
variable {prog:Program}{w:World}{A:Around}{E:Value->Shared->Prop}{s:Shared}{it d:Addr}{o:Obj}{es:Array DictEntry}{i ep:Nat}
end
section
variable {X:Cx}{tg:Expr}
end
section
variable {K:PySem.W.Frag}{F F' H:Hp}{pr:Prt}{en:En}{σ:St}
end
theorem Rel.drop {K:PySem.W.Frag}{F H:Hp}{pr:Prt}{en:En}{σ:St}(R:Rel K F pr en σ H){i:Nat}{w:W}(e:en[i]?=some (#v[w,5])):∃v,σ[i]?=some (some v)/\Rel K F pr (en.set i none) σ H/\Res K F H pr (en.set i none) σ (w,true) v:=by
 have hi:i<en.length:=(Aj.mp e).1;nofun;obtain⟨a,vs,ws,h1,h2,h3,h4,h5⟩:=R.own i w e;ac_rfl;have g:∀(j:Nat) (x:W × Bool),(en.set i none)[j]?=some (some x)->j≠i/\en[j]?=some (some x):=λj x h=>by
  rcases zdw hi h with⟨_,q⟩|z
  ·cases q
  ·exact z
 refine⟨_,h2,⟨by rw[Di];exact R.len,R.sub,λj u q=>R.val j u (g j _ q).2,λj u q=>R.own j u (g j _ q).2,λj k b u u' q q'=>R.inj j k b u u' (g j _ q).2 (g k _ q').2,λb o q=>⟨(R.prt b o q).1,(R.prt b o q).2.1,λj u z=>(R.prt b o q).2.2 j u (g j _ z).2⟩,R.tb⟩,a,vs,ws,h1,rfl,h3,h4,h5,λj u q z=>?_,λb o q z=>?_⟩
 ·exact (g j _ q).1 (R.inj j i a _ _ (g j _ q).2 e z h2)
 ·subst z;exact (R.prt b o q).2.2 i w e h2
section
variable {prog:Program}{w:World}{A:Around}{E:Value->Shared->Prop}{s:Shared}{d:Addr}{o:Obj}{es:Array DictEntry}{ep:Nat}
end
noncomputable abbrev Cap:=List (Option Nat)
noncomputable def zgh (cap:Cap) (en:En):En:=cap.map λo=>match o with
 |some i=>(en[i]?).getD none
 |none=>none
noncomputable def zat (cap:Cap) (i:Nat):Option Nat:=cap.findIdx? (· == some i)
noncomputable def zcp (cap:Cap):Bool:=(List.range cap.length).all λj=>match cap[j]? with
 |some (some i)=>zat cap i == some j
 |_=>true
noncomputable def capKeep (cap:Cap):List Nat:=(List.range cap.length).filter λj=>match cap[j]? with
 |some (some _)=>true
 |_=>false
noncomputable def zbm (cap:Cap) (en ce:En):En:=en.mapIdx λi x=>match zat cap i with
 |some j=>(ce[j]?).getD none
 |none=>x
theorem zbv {cap:Cap}{i j:Nat}(h:zat cap i=some j):cap[j]?=some (some i):=by
 unfold zat at h;obtain⟨hl,h1,_⟩:=List.findIdx?_eq_some_iff_getElem.mp h;rw[Aa hl];have:cap[j]=some i:=by simpa using h1
 rw[this]
theorem zdc {cap:Cap}{i:Nat}(h:zat cap i=none)(j:Nat):cap[j]?≠some (some i):=λe=>by
 unfold zat at h;have:=List.findIdx?_eq_none_iff.mp h (some i) (Av e);simp at this
theorem zgj {cap:Cap}(h:zcp cap=true){i j:Nat}(e:cap[j]?=some (some i)):zat cap i=some j:=by
 unfold zcp at h;have hj:j<cap.length:=(Aj.mp e).1;have:=Bm.mp h j (Bh.mpr hj);simp only [e] at this;simpa using this
theorem zn8 {cap:Cap}{i j:Nat}(e:cap[j]?=some (some i)):j∈capKeep cap:=by
 unfold capKeep;exact Dh.mpr ⟨Bh.mpr (Aj.mp e).1,by simp only [e]⟩
theorem zdx {cap:Cap}{en:En}{j:Nat}{x:W × Bool} (h:(zgh cap en)[j]?=some (some x)):∃i,cap[j]?=some (some i)/\en[i]?=some (some x):=by
  unfold zgh at h;rw[An] at h;cases e:cap[j]? with
  |none=>rw[e] at h;exact noSome h
  | some o =>
    rw[e] at h;cases o with
    |none=>cases h
    | some i =>
      refine⟨i,rfl,?_⟩;have h' : (en[i]?).getD none=some x:=sI h;cases e2:en[i]? with
      |none=>rw[e2] at h';exact noSome h'
      |some z=>rw[e2] at h';exact congrArg some h'
theorem zpu {cap:Cap}{σ:St}{i j:Nat}(h:cap[j]?=some (some i)):(capSt cap σ)[j]?=some ((σ[i]?).getD none):=by
 unfold capSt;rw[An,h]
 rfl
theorem zft {cap:Cap}{σ:St}{i j:Nat}{v:V}(h:cap[j]?=some (some i))(hv:σ[i]?=some (some v)):(capSt cap σ)[j]?=some (some v):=by
 rw[zpu h,hv];rfl
theorem backEn_get {cap:Cap}{en ce:En}{i:Nat}{x:W × Bool} (h:(zbm cap en ce)[i]?=some (some x)):(∃j,zat cap i=some j/\ce[j]?=some (some x))\/(zat cap i=none/\en[i]?=some (some x)):=by
  unfold zbm at h;rw[List.getElem?_mapIdx] at h;cases e:en[i]? with
  |none=>rw[e] at h;exact noSome h
  | some o =>
    rw[e] at h;cases c:zat cap i with
    |none=>simp only [c,Gf] at h;exact .inr ⟨rfl,h⟩
    | some j =>
      simp only [c,Gf] at h;have h' : (ce[j]?).getD none=some x:=sI h;refine .inl ⟨j,rfl,?_⟩;cases e2:ce[j]? with
      |none=>rw[e2] at h';exact noSome h'
      |some z=>rw[e2] at h';exact congrArg some h'
noncomputable def zcb (pr:Prt) (cap:Cap) (en:En) (σ:St) (H:Hp):Prt:=λb o=>pr b o\/∃(j:Nat) (w:W),en[j]?=some (#v[w,5])/\zat cap j=none/\σ[j]?=some (some (V.ref b))/\H b=some o
noncomputable def zh8 (pb:Prt) (acc:Addr) (vs:List V):Prt:=λb o=>pb b o\/(b=acc/\o=.lst vs)
section
variable {K:PySem.W.Frag}{F H:Hp}{pr pb:Prt}{en:En}{σ:St}
theorem Rel.ownT (R:Rel K F pr en σ H){j:Nat}{w:W}{b:Addr}{ps:Array Value}(e:en[j]?=some (#v[w,5]))(s:σ[j]?=some (some (V.ref b))):H b≠some (.tbl ps):=λz=>by
 obtain⟨a,o,w',_,h2,h3,_,h5⟩:=R.own j w e;rw[s] at h2;cases h2;rw[z] at h3;obtain rfl:=sI h3;cases h5
theorem zi1 {cap:Cap}{b:Addr}{ps:Array Value}(R:Rel K F pr en σ H)(e:H b=some (.tbl ps))(hh:∀o,¬ pr b o):∀o,¬ zcb pr cap en σ H b o:=λo z=>by
 rcases z with z|⟨j,w,q1,_,q2,_⟩
 ·exact hh o z
 ·exact R.ownT q1 q2 e
theorem zin {cap:Cap}{b:Addr}{xs:List V}(R:Rel K F pr en σ H)(z:zcb pr cap en σ H b (.tup xs)):pr b (.tup xs):=by
 rcases z with z|⟨j,w,q1,_,q2,q3⟩
 ·exact z
 ·obtain⟨a,o,w', _,h2,h3,_,h5⟩:=R.own j w q1;rw[q2] at h2;cases h2;rw[q3] at h3;obtain rfl:=sI h3;cases h5
theorem Rel.accUpd {acc:Addr}{vs us:List V}(R:Rel K F (zh8 pb acc vs) en σ H)(hb:∀b o,pb b o->b≠acc):Rel K F (zh8 pb acc us) en σ (upd H acc (.lst us)):=by
 obtain⟨a1,a2,a3⟩:=R.prt acc (.lst vs) (.inr ⟨rfl,rfl⟩);have nt:∀b ps,H b=some (.tbl ps)->b≠acc:=λb ps e z=>by subst z;rw[a1] at e;cases e
 have nx:∀b φ,H b=some (.ext φ)->b≠acc:=λb φ e z=>by subst z;rw[a1] at e;cases e
 refine⟨R.len,λb o e=>?_,R.val,λi w e=>?_,R.inj,λb o q=>?_,R.tb.go (λb xs z=>z.elim .inl λz=>nomatch z.2) (λb ps e f=>⟨by rw[upd_ne (nt b ps e)];exact e,f⟩) (.refl F) λb ps e hh o z=>z.elim (λz=>hh o (.inl z)) λz=>nt b ps e z.1⟩
 ·have : b ≠ acc:=λz=>by subst z; rw[a2] at e; exact noSome e
  rw[upd_ne this];exact R.sub _ _ e
 ·refine aG λGg qG => ?_;obtain⟨a,vs',ws,h1,h2,h3,h4,h5⟩:=R.own i w e;ac_rfl;have:a≠acc:=λz=>by subst z;exact a3 i w e h2
  exact⟨a,vs',ws,h1,h2,by rw[upd_ne this];exact h3,h4,h5⟩
 ·rcases q with q|⟨rfl,rfl⟩
  ·obtain⟨b1,b2,b3⟩:=R.prt b o (.inl q);exact⟨by rw[upd_ne (hb b o q)];exact b1,b2,b3⟩
  ·exact⟨upd_same,a2,a3⟩
theorem zxj {cap:Cap}{acc:Addr}(R:Rel K F pr en σ H)(hn:H acc=none):∀b o,zcb pr cap en σ H b o->b≠acc:=λb o q=>by
 rcases q with q|⟨j,w,_,_,_,q⟩
 ·exact zae (R.prt b o q).1 hn
 ·exact zae q hn
theorem Rel.block {cap:Cap}{acc:Addr}(R:Rel K F pr en σ H)(hn:H acc=none)(nd:zcp cap=true):Rel K F (zh8 (zcb pr cap en σ H) acc []) (zgh cap en) (capSt cap σ) (upd H acc (.lst [])):=by
 have fa:F acc=none:=R.sub.free hn;have R2:=R.lay hn (.lst []);refine⟨by unfold zgh capSt;rw[Ae,Ae],R2.sub,λj w e=>?_,λj w e=>?_,λj l a w w' e1 e2 q1 q2=>?_,λb o q=>?_,R.tb.go (λb xs z=>z.elim (zin R) λz=>nomatch z.2) (λb ps e f=>⟨by rw[upd_ne (zae e hn)];exact e,f⟩) (.refl F) λb ps e hh o z=>z.elim (zi1 R e hh o) λz=>zae e hn z.1⟩
 ·refine aG λGg qG => ?_;obtain⟨i,c,e⟩:=zdx e;obtain⟨v,h1,h2⟩:=R.val i w e;ac_rfl;exact⟨v,zft c h1,h2⟩
 ·refine aG λGg qG => ?_;obtain⟨i,c,e⟩:=zdx e;obtain⟨a,vs,ws,h1,h2,h3,h4,h5⟩:=R2.own i w e;ac_rfl;exact⟨a,vs,ws,h1,zft c h2,h3,h4,h5⟩
 ·refine aG λGg qG => ?_;obtain⟨i,c1,e1⟩:=zdx e1;obtain⟨k,c2,e2⟩:=zdx e2;obtain⟨i',c1',q1⟩:=capSt_get q1;obtain⟨k',c2',q2⟩:=capSt_get q2;ac_rfl;rw[c1] at c1';cases c1';rw[c2] at c2';cases c2';have:=R.inj i k a _ _ e1 e2 q1 q2;subst this;have x:=zgj nd c1;rw[zgj nd c2] at x;exact (sI x).symm
 ·have own2:∀(j:Nat) (w:W),(zgh cap en)[j]?=some (some (w,true))->∃(i:Nat) (a:Addr),cap[j]?=some (some i)/\en[i]?=some (some (w,true))/\σ[i]?=some (some (V.ref a))/\(capSt cap σ)[j]?=some (some (V.ref a))/\∃o,H a=some o:=fun j w e=>by
   nofun;obtain⟨i,c,e⟩:=zdx e;obtain⟨a,vs,ws,h1,h2,h3,h4,h5⟩:=R.own i w e;ac_rfl;exact⟨i,a,c,e,h2,zft c h2,_,h3⟩
  rcases q with (q|⟨j0,w0,e0,c0,s0,h0⟩)|⟨rfl,rfl⟩
  ·obtain⟨b1,b2,b3⟩:=R2.prt b o q;refine⟨b1,b2,λj w e=>?_⟩;nofun;obtain⟨i,a,_,e,h2,h3,_⟩:=own2 j w e;ac_rfl;rw[h3];intro z;cases z;exact b3 i w e h2
  ·refine aG λGg qG => ?_;obtain⟨a,vs,ws,h1,h2,h3,h4,h5⟩:=R.own j0 w0 e0;ac_rfl;rw[s0] at h2;cases h2;refine⟨by rw[upd_ne (zae h0 hn)];exact h0,h4,λj w e=>?_⟩;nofun;obtain⟨i,a,c,e,h2,h3,_⟩:=own2 j w e;ac_rfl;rw[h3];intro z;cases z;have:=R.inj i j0 _ _ _ e e0 h2 s0;subst this;exact zdc c0 j c
  ·refine⟨upd_same,fa,λj w e => ?_⟩;nofun;obtain⟨i,a,c,e,h2,h3,o,h4⟩:=own2 j w e;ac_rfl;rw[h3];intro z;cases z;rw[hn] at h4;exact noSome h4
theorem Rel.unblock {cap:Cap}{acc:Addr}{F' H' : Hp}{ce:En}{σc:St}{vs:List V}{ws:List W} (R:Rel K F pr en σ H) (hn:H acc=none) (s:Same F F') (Rc:Rel K F' (zh8 (zcb pr cap en σ H) acc vs) ce σc H') (kp:Keep (capKeep cap) (capSt cap σ) σc) (rs:Reps K F' ws vs) :
  Rel K F' pr (zbm cap en ce) σ H'/\Res K F' H' pr (zbm cap en ce) σ (.lst ws,true) (.ref acc):=by
 have slot:∀(i j:Nat) (v:V),zat cap i=some j->σc[j]?=some (some v)->σ[i]?=some (some v):=λi j v c e=>by
  have c':=zbv c;rw[kp j (zn8 c'),zpu c'] at e;have e' : (σ[i]?).getD none=some v:=sI e;cases q:σ[i]? with
  |none=>rw[q] at e';exact noSome e'
  |some z=>rw[q] at e';exact congrArg some e'
 obtain⟨a1,a2,a3⟩:=Rc.prt acc (.lst vs) (.inr ⟨rfl,rfl⟩);have un:∀(i:Nat) (w:W),zat cap i=none->en[i]?=some (#v[w,5])->∃(a:Addr) (vs:HO) (ws:W),w=ws/\σ[i]?=some (some (V.ref a))/\H a=some vs/\H' a=some vs/\F' a=none/\OwnR K F ws vs/\∀(j:Nat) (w' : W),ce[j]?=some (#v[w',5])->σc[j]?≠some (some (V.ref a)):=λi w c e=>by
  nofun;obtain⟨a,vs,ws,h1,h2,h3,h4,h5⟩:=R.own i w e;obtain⟨b1,b2,b3⟩:=Rc.prt a vs (.inl (.inr ⟨i,w,e,c,h2,h3⟩));ac_rfl;exact⟨a,vs,ws,h1,h2,h3,b1,b2,h5,b3⟩
 have capt:∀(i j:Nat) (w:W),zat cap i=some j->ce[j]?=some (#v[w,5])->∃(a:Addr) (vs:HO) (ws:W),w=ws/\σ[i]?=some (some (V.ref a))/\σc[j]?=some (some (V.ref a))/\H' a=some vs/\F' a=none/\OwnR K F' ws vs:=λi j w c e=>by
  nofun;obtain⟨a,vs,ws,h1,h2,h3,h4,h5⟩:=Rc.own j w e;ac_rfl;exact⟨a,vs,ws,h1,slot i j _ c h2,h2,h3,h4,h5⟩
 refine⟨⟨by unfold zbm;rw[List.length_mapIdx];exact R.len,Rc.sub,λi w e=>?_,λi w e=>?_,λi k a w w' e1 e2 q1 q2=>?_,λb o q=>?_,Rc.tb.go (λb xs z=>.inl (.inl z)) (λb ps e f=>⟨e,f⟩) (.refl F') λb ps e hh o z=>hh o (.inl (.inl z))⟩,acc,_,_,rfl,rfl,a1,a2,.lst rs,λi w e=>?_,λb o q=>zae (R.prt b o q).1 hn⟩
 ·rcases backEn_get e with⟨j,c,e⟩|⟨c,e⟩
  ·obtain⟨v,h1,h2⟩:=Rc.val j w e;exact⟨v,slot i j v c h1,h2⟩
  ·obtain⟨v,h1,h2⟩:=R.val i w e;exact⟨v,h1,h2.mono s⟩
 ·rcases backEn_get e with⟨j,c,e⟩|⟨c,e⟩
  ·refine aG λGg qG => ?_;obtain⟨a,vs,ws,h1,h2,_,h3,h4,h5⟩:=capt i j w c e;ac_rfl;exact⟨a,vs,ws,h1,h2,h3,h4,h5⟩
  ·refine aG λGg qG => ?_;obtain⟨a,vs,ws,h1,h2,_,h3,h4,h5,_⟩:=un i w c e;ac_rfl;exact⟨a,vs,ws,h1,h2,h3,h4,h5.mono s⟩
 ·rcases backEn_get e1 with⟨j,c,e1⟩|⟨c,e1⟩
  ·refine aG λGg qG => ?_;obtain⟨a',_,_,_,h2,h3,_⟩:=capt i j w c e1;ac_rfl;rw[q1] at h2;cases h2;rcases backEn_get e2 with⟨l,c2,e2⟩|⟨c2,e2⟩
   ·refine aG λGg qG => ?_;obtain⟨a',_,_,_,g2,g3,_⟩:=capt k l w' c2 e2;ac_rfl;rw[q2] at g2;cases g2;have:=Rc.inj j l a _ _ e1 e2 h3 g3;subst this;have x:=zbv c;rw[zbv c2] at x;cases x;rfl
   ·refine aG λGg qG => ?_;obtain⟨a',_,_,_,g2,_,_,_,_,g3⟩:=un k w' c2 e2;ac_rfl;rw[q2] at g2;cases g2;exact absurd h3 (g3 j w e1)
  ·refine aG λGg qG => ?_;obtain⟨a',_,_,_,h2,_,_,_,_,h3⟩:=un i w c e1;ac_rfl;rw[q1] at h2;cases h2;rcases backEn_get e2 with⟨l,c2,e2⟩|⟨c2,e2⟩
   ·refine aG λGg qG => ?_;obtain⟨a',_,_,_,g2,g3,_⟩:=capt k l w' c2 e2;ac_rfl;rw[q2] at g2;cases g2;exact absurd g3 (h3 l w' e2)
   ·exact R.inj i k a _ _ e1 e2 q1 q2
 ·obtain⟨b1,b2,b3⟩:=Rc.prt b o (.inl (.inl q));refine⟨b1,b2,λi w e=>?_⟩;rcases backEn_get e with⟨j,c,e⟩|⟨c,e⟩
  ·refine aG λGg qG => ?_;obtain⟨a,_,_,_,h2,h3,_⟩:=capt i j w c e;ac_rfl;rw[h2];intro z;cases z;exact b3 j w e h3
  ·exact (R.prt b o q).2.2 i w e
 ·rcases backEn_get e with⟨j,c,e⟩|⟨c,e⟩
  ·refine aG λGg qG => ?_;obtain⟨a,_,_,_,h2,h3,_⟩:=capt i j w c e;ac_rfl;rw[h2];intro z;cases z;exact a3 j w e h3
  ·refine aG λGg qG => ?_;obtain⟨a,_,_,_,h2,h3,_⟩:=un i w c e;ac_rfl;rw[h2];intro z;cases z;rw[hn] at h3;exact noSome h3
end
noncomputable def zhr (mp:List Nat) (T:Tg) (tc:GT) (te:GE):List W->En->Option (En × List W)
  |[],ce=>some (ce,[])
  | w::ws,ce=>(tgSet mp T w ce).bind fun c1=>match tc c1 with
    |#v[c2,5]=>(te c2).bind λp=>(zhr mp T tc te ws p.1).bind λq=>some (q.1,p.2.1::q.2)
    |#v[c2,6]=>zhr mp T tc te ws c2
    |none=>none
noncomputable def zb5 (cap:Cap) (T:Tg) (it:GL) (tc:GT) (te:GE):GE:=λen=>(it en).bind λp=>if zcp cap && decide (p.2.length<=sizeLine) then (zhr (capKeep cap) T tc te p.2 (zgh cap p.1)).bind λq=>some (zbm cap p.1 q.1,(.lst q.2,true)) else none
noncomputable def gYes:GT:=λen=>#v[en,5]
noncomputable def zfp (mp:List Nat) (T:Tg) (tc:GT) (em:GL):List W->En->Option (En × List W)
  |[],ce=>some (ce,[])
  | w::ws,ce=>(tgSet mp T w ce).bind fun c1=>match tc c1 with
    |#v[c2,5]=>(em c2).bind λp=>(zfp mp T tc em ws p.1).bind λq=>some (q.1,p.2++q.2)
    |#v[c2,6]=>zfp mp T tc em ws c2
    |none=>none
noncomputable def gOne (te:GE):GL:=λen=>(te en).bind λp=>some (p.1,[p.2.1])
noncomputable def z21 (cap:Cap) (T:Tg) (it:GL) (tc:GT) (em:GL):GE:=λen=>(it en).bind λp=>if zcp cap then (zfp (capKeep cap) T tc em p.2 (zgh cap p.1)).bind λq=>if q.2.length<=sizeLine then some (zbm cap p.1 q.1,(.lst q.2,true)) else none else none
theorem zg1 {mp:List Nat}{T:Tg}{tc:GT}{te:GE}:∀{ws:List W}{ce ce' : En}{out:List W},zhr mp T tc te ws ce=some (ce',out)->zfp mp T tc (gOne te) ws ce=some (ce',out)/\out.length<=ws.length
  |[],_,_,_,h=>by cases h;exact⟨rfl,Ad _⟩
  | w::ws,ce,ce',out,h=>by
    obtain ⟨c1,h1,h⟩:=bS (show (tgSet mp T w ce).bind _=_ from h);have e:zfp mp T tc (gOne te) (w::ws) ce=match tc c1 with
      |#v[c2,5]=>(gOne te c2).bind λp=>(zfp mp T tc (gOne te) ws p.1).bind λq=>some (q.1,p.2++q.2)
      |#v[c2,6]=>zfp mp T tc (gOne te) ws c2
      |none=>none:=by rw[zfp,h1];rfl
    rw[e];cases et:tc c1 with
    |none=>simp only [et] at h;exact noSome h
    | some p =>
      obtain⟨c2,b⟩:=p;cases b with
      |false=>simp only [et] at h;exact⟨(zg1 h).1,Nat.le_succ_of_le (zg1 h).2⟩
      | true =>
        simp only [et] at h;obtain⟨⟨c3,rv⟩,h5,h⟩:=bS h;obtain⟨⟨c4,rest⟩,h6,h⟩:=bS h;cases h;refine⟨?_,Nat.succ_le_succ (zg1 h6).2⟩;show (gOne te c2).bind _=_;rw[gOne,h5];show (zfp mp T tc (gOne te) ws c3).bind _=_;rw[(zg1 h6).1]
        rfl
noncomputable def MOk (K:PySem.W.Frag) (mp:List Nat) (pb:Prt) (acc:Addr) (em:GL) (tm:TM):Prop:=∀(F:Hp) (ce:En) (σ:St) (H:Hp) (vs:List V) (ce' : En) (out:List W) (N:St->Hp->Prop),Rel K F (zh8 pb acc vs) ce σ H->em ce=some (ce',out)->vs.length+out.length<=sizeLine ->
 (∀F' σ' H' us,Same F F'->Rel K F' (zh8 pb acc (vs++us)) ce' σ' H'->Keep mp σ σ'->Reps K F' out us->N σ' H')->tm σ H N
section
variable {K:PySem.W.Frag}{mp:List Nat}{pb:Prt}{acc:Addr}
theorem ydu {te:GE}(hb:∀b o,pb b o->b≠acc):MOk K mp pb acc (gOne te) (zzs acc (tE K te)):=by
 intro F ce σ H vs ce' out N R h hz q;nofun;obtain⟨⟨c3,rv⟩,h5,h⟩:=bS h;ac_rfl;cases h;refine⟨F,_,ce,c3,rv,R,h5,λF6 H6 v s6 R6 y6=>?_⟩;nofun;obtain⟨F7,s7,R7,y7⟩:=y6.freeze R6;obtain⟨a1,_,_⟩:=R7.prt acc (.lst vs) (.inr ⟨rfl,rfl⟩);ac_rfl;exact⟨vs,a1,hz,q F7 σ _ [v] (s6.trans s7) (R7.accUpd hb) (.refl _ _) (.cons y7 .nil)⟩
theorem z64 {em:GL}{tm:TM}{T:Tg}{tc:GT}{F1:Hp}{vs0:List V}{ce0 ce' : En}{σ0:St}{H0:Hp}{J:It}{ws out:List W}{N0:St->Hp->Prop} (M:MOk K mp pb acc em tm) (R:Rel K F1 (zh8 pb acc vs0) ce0 σ0 H0) (ok:ItOk K F1 J ws) (h:zfp mp T tc em ws ce0=some (ce',out)) (hz:vs0.length+out.length<=sizeLine)
    (q:∀F' σ' H' us,Same F1 F'->Rel K F' (zh8 pb acc (vs0++us)) ce' σ' H'->Keep mp σ0 σ'->Reps K F' out us->N0 σ' H'):zpr J (TGof K T) (tT K tc) tm σ0 H0 N0:=by
  refine ⟨fun i m σc Hc=>m=ws.length - i/\i<=ws.length/\∃F' ce dn us rest,Same F1 F'/\Rel K F' (zh8 pb acc (vs0++us)) ce σc Hc/\Keep mp σ0 σc/\Reps K F' dn us/\zfp mp T tc em (ws.drop i) ce=some (ce',rest)/\dn++rest=out,
    ⟨_,rfl,Ca _,F1,ce0,[],[],out,.refl _,by rw[By];exact R,.refl _ _,.nil,h,rfl⟩,?_⟩
  rintro i m σc Hc ⟨rfl,hi,F',ce,dn,us,rest,s',R',k',rd,hl,ho⟩;by_cases hlt:i<ws.length
  · refine .inr ⟨ok.go i Hc (s'.trans R'.sub) hlt, ?_⟩
    have hd:ws.drop i=ws[i]::ws.drop (i+1):=(Cu hlt);rw[hd] at hl;obtain⟨c1,h3,hl⟩:=bS (show (tgSet mp T ws[i] ce).bind _=_ from hl);refine⟨λσ2 H2=>∃F' ce dn us rest,Same F1 F'/\Rel K F' (zh8 pb acc (vs0++us)) ce σ2 H2/\Keep mp σ0 σ2/\Reps K F' dn us/\zfp mp T tc em (ws.drop (i+1)) ce=some (ce',rest)/\dn++rest=out,λσ2 H2 z=>⟨ws.length - (i+1),by omega,rfl,hlt,z⟩,?_⟩;intro x H2 y;obtain⟨w,ew,o⟩:=ok.yld i Hc x H2 (s'.trans R'.sub) hlt y;rw[Aa hlt] at ew;obtain rfl:=sI ew;nofun;obtain⟨F3,s3,R3,z3⟩:=(o.mono s').close R';ac_rfl;refine zg2 (w:=ws[i]) R3 z3 h3 λσ3 R4 k4=>?_;cases et:tc c1 with
    |none=>simp only [et] at hl;exact noSome hl
    | some p =>
      obtain⟨c2,b⟩:=p;refine⟨F3,_,c1,c2,b,R4,et,λF5 H5 s5 R5=>?_⟩;cases b with
      | false =>
        simp only [et] at hl;exact iteF ⟨F5,c2,dn,us,rest,s'.trans (s3.trans s5),R5,k'.trans k4,rd.mono (s3.trans s5),hl,ho⟩
      | true =>
        simp only [et] at hl;nofun;obtain⟨⟨c3,o1⟩,h5,hl⟩:=bS hl;obtain⟨⟨c4,rest'⟩,h6,hl⟩:=bS hl;ac_rfl;cases hl;refine iteT (M F5 c2 σ3 H5 (vs0++us) c3 o1 _ R5 h5 ?_ λF6 σ6 H6 us2 s6 R6 k6 r6=>?_)
        · dsimp only at ho
          rw[<-ho,Az,Az,rd.length] at hz;rw[Az];omega
        · have sAll : Same F' F6 := s3.trans (s5.trans s6)
          exact⟨F6,c3,dn++o1,us++us2,rest',s'.trans sAll,by rw[<-Bc];exact R6,k'.trans (k4.trans k6),(rd.mono sAll).append r6,h6,by rw[Bc];exact ho⟩
  · have e : i = ws.length := by omega
    subst e;rw[List.drop_length] at hl;cases hl;rw[By] at ho;subst ho;exact .inl ⟨ok.stop Hc (s'.trans R'.sub),q F' σc Hc us s' R' k' rd⟩
end
theorem zs9 {K:PySem.W.Frag}{cap:Cap}{T:Tg}{it:GL}{tc:GT}{em:GL}{tm:Addr->TM}{σ:St}{H:Hp}{Q:VK}(M:∀(pb:Prt) (acc:Addr),(∀b o,pb b o->b≠acc)->MOk K (capKeep cap) pb acc em (tm acc))(h:tE K (z21 cap T it tc em) σ H Q):zvi (tI K it) cap (TGof K T) (tT K tc) tm σ H Q:=by
 nofun;obtain⟨F,pr,en,en',r,R,h,q⟩:=h;obtain⟨⟨e1,ws⟩,h1,h⟩:=bS h;ac_rfl;refine⟨F,pr,en,e1,ws,R,h1,λF1 H1 J s1 R1 ok acc hacc=>?_⟩;split at h
 ·rename_i nd;nofun;obtain⟨⟨ce',out⟩,h2,h⟩:=bS h;ac_rfl;split at h
  ·rename_i hz;cases h;refine z64 (M _ acc (zxj (cap:=cap) R1 hacc)) (R1.block hacc nd) ok h2 (by rw[Eu,Dc];exact hz) λF' σ' H' us s' R' k' rd=>?_;obtain⟨Ro,rz⟩:=R1.unblock hacc s' R' k' rd;exact q F' H' _ (s1.trans s') Ro rz
  ·exact noSome h
 ·exact noSome h
theorem zv0 {K:PySem.W.Frag}{cap:Cap}{T:Tg}{it:GL}{tc:GT}{te:GE}{σ:St}{H:Hp}{Q:VK}(h:tE K (zb5 cap T it tc te) σ H Q):zvi (tI K it) cap (TGof K T) (tT K tc) (λacc=>zzs acc (tE K te)) σ H Q:=by
 refine zs9 (λpb acc hb=>ydu hb) ?_;obtain⟨F,pr,en,en',r,R,h,q⟩:=h;refine⟨F,pr,en,en',r,R,?_,q⟩;nofun;obtain⟨⟨e1,ws⟩,h1,h⟩:=bS h;ac_rfl;split at h
 ·rename_i z;rw[Ac] at z;nofun;obtain⟨⟨ce',out⟩,h2,h⟩:=bS h;ac_rfl;obtain⟨h3,h4⟩:=zg1 h2;rw[z21,h1];show (if zcp cap=true then (zfp (capKeep cap) T tc (gOne te) ws (zgh cap e1)).bind _ else none)=_;rw[if_pos z.1,h3];show (if out.length<=sizeLine then _ else none)=_;rw[if_pos (Ct h4 (Al z.2))];exact h
 ·exact noSome h
noncomputable def z02:GE:=λen=>some (en,(.dic,false))
theorem zx3 {K:PySem.W.Frag}{σ:St}{H:Hp}{Q:VK}(h:tE K z02 σ H Q):z2k σ H Q:=by
 obtain⟨F,pr,en,en',r,R,h,q⟩:=h;cases h;intro p hp;exact q (upd F p (.dK [])) _ _ (Same.new (R.sub.free hp) _) (R.layF hp _) (.dic upd_same)
noncomputable def keyW:W->Bool
 |.int _=>true
 |.str _=>true
 |_=>false
noncomputable def z5d (k v:GE):GE:=λen=>(k en).bind λp=>if keyW p.2.1 then (v p.1).bind λq=>some (q.1,(.dic,false)) else none
theorem z68 {K:PySem.W.Frag}{F H:Hp}{pr:Prt}{en:En}{σ:St}{r:W × Bool}{x:V} (h:Res K F H pr en σ r x) (hk:keyW r.1=true):∃k:Key,x=kV k:=by
  obtain⟨w,b⟩:=r;cases b with
  |true=>obtain⟨a,vs,ws,z,_,_,_,q,_⟩:=h;subst z;cases q<;>cases hk
  | false =>
    cases (show Rep K F w x from h) with
    |int i=>exact⟨.inl i,rfl⟩
    |str s=>exact⟨.inr s,rfl⟩
    |_=>cases hk
theorem zwf {K:PySem.W.Frag}{k v:GE}{σ:St}{H:Hp}{Q:VK}(h:tE K (z5d k v) σ H Q):yb9 [(tE K k,tE K v)] σ H Q:=by
 nofun;obtain⟨F,pr,en,en',r,R,h,q⟩:=h;obtain⟨⟨e1,r1⟩,h1,h⟩:=bS h;ac_rfl;split at h
 ·rename_i hk;nofun;obtain⟨⟨e2,r2⟩,h2,h⟩:=bS h;ac_rfl;cases h;intro p hp;refine⟨F,_,en,e1,r1,R.guard hp (.dK []) (λ_ z=>nomatch z),h1,λF1 H1 x s1 R1 y1=>?_⟩;refine⟨F1,_,e1,e2,r2,R1,h2,λF2 H2 y s2 R2 y2=>?_⟩;obtain⟨ky,rfl⟩:=z68 y1 hk;have g:(λb u=>pr b u\/(b=p/\u=HO.dK [])) p (.dK []):=.inr ⟨rfl,rfl⟩;obtain⟨g1,g2,_⟩:=R2.prt p _ g;refine⟨g1,[(ky,y)],rfl,(by decide:1<=15),?_⟩;refine q (upd F2 p (.dK (zi8 [] [(ky,y)]))) _ _ (s1.trans (s2.trans (Same.new g2 _))) (R2.seal g (And.intro (λ_ z=>nomatch z) λ_ z=>nomatch z) _ λb u hb=>⟨.inl hb,λz=>?_⟩) (.dic upd_same);have:=(R.prt b u hb).1;rw[z,hp] at this;exact noSome this
 ·exact noSome h
noncomputable def Src (h:Heap) (it l:Addr) (k:Nat) (xs:Array Value):Prop:=(h.IsListIter it l k/\h.IsList l xs)\/(h.IsTupleIter it l k/\h.IsTuple l xs)
section
variable {prog:Program}{w:World}{A:Around}{E:Value->Shared->Prop}{s:Shared}
theorem zz8 {it l:Addr}{k:Nat}{xs:Array Value}{x:Value}{Q:Value->Shared->Prop} (c:Src s.heap it l k xs) (hx:xs[k]?=some x) (ne:l≠it)
  (q:∀h',Src h' it l (k+1) xs->Heap.SameBut it s.heap h'->Q x { s with heap:=h' }):wpAny (model prog w) A (Builtin.SmallTypes.nextOf (.ref it)) Q E s:=by
 rcases c with⟨c1,c2⟩|⟨c1,c2⟩
 ·exact wpAny_nextOf_list_item c1 c2 hx λh' a b=>q h' (.inl ⟨a,c2.at λo e=>(b.2 l ne).trans e⟩) b
 ·refine aG λGg qG => ?_;obtain⟨oi,ei,ci,di⟩:=id c1;obtain⟨os,es,cs,ns,ds⟩:=id c2;ac_rfl;unfold Builtin.SmallTypes.nextOf;refine Ab (Dq (name:=Str.ofString "__next__") c1.typeIs Fe (Fg Fe c1.typeIs F.entry_tuple_iterator_next ?_ (F.args_tuple_iterator_next_1 _)));refine (show wpAny _ _ (field (.ref it) 0 >>= _) _ _ s from Ab (Eh ei di (x:=.ref l) rfl ?_));refine (show wpAny _ _ (if (Value.ref l == Value.none)=true then _ else _) _ _ s from ?_);rw[if_neg (by intro z;cases z)];refine (show wpAny _ _ (field (.ref it) 1 >>= _) _ _ s from Ab (Eh ei di (x:=.int k 0) rfl ?_));refine (show wpAny _ _ (seqItems? (.ref l) >>= _) _ _ s from Ab (wpAny_seqItems es ds ?_));simp only [Co,hx];refine Ab (wpAny_setField ei di (by simp) (Ao ⟨x,rfl,Ao ?_⟩));refine q _ (.inr ⟨⟨_,Heap.get?_update_self _ ei (Obj.isFreed_of_fields (Obj.data_mapFields di _)),(Obj.cls_mapFields ..).trans ci,by rw[Obj.data_mapFields di];simp [rawInt]⟩,os,?_,cs,ns,ds⟩) (Fp ..);exact ((Fp ..).2 l ne).trans es
theorem ztw {it l:Addr}{k:Nat}{xs:Array Value}{Q:Value->Shared->Prop} (hn:A.handled=none) (c:Src s.heap it l k xs) (hx:xs[k]?=none)
  (q:∀h' e,Heap.ExtBut it s.heap h'->(∃o,h'.get? e=some o/\o.cls=.type "StopIteration")->E (.ref e) { s with heap:=h' }):wpAny (model prog w) A (Builtin.SmallTypes.nextOf (.ref it)) Q E s:=by
 rcases c with⟨c1,c2⟩|⟨c1,c2⟩
 ·exact wpAny_nextOf_list_end hn c1 c2 hx q
 ·obtain⟨oi,ei,ci,di⟩:=id c1;obtain⟨os,es,cs,ns,ds⟩:=id c2;unfold Builtin.SmallTypes.nextOf;refine Ab (Dq (name:=Str.ofString "__next__") c1.typeIs Fe (Fg Fe c1.typeIs F.entry_tuple_iterator_next ?_ (F.args_tuple_iterator_next_1 _)));refine (show wpAny _ _ (field (.ref it) 0 >>= _) _ _ s from Ab (Eh ei di (x:=.ref l) rfl ?_));refine (show wpAny _ _ (if (Value.ref l == Value.none)=true then _ else _) _ _ s from ?_);rw[if_neg (by intro z;cases z)];refine (show wpAny _ _ (field (.ref it) 1 >>= _) _ _ s from Ab (Eh ei di (x:=.int k 0) rfl ?_));refine (show wpAny _ _ (seqItems? (.ref l) >>= _) _ _ s from Ab (wpAny_seqItems es ds ?_));simp only [Co,hx];refine Ab (Fw (Ab (wpAny_setField ei di (by simp) (show wpAny _ _ (newExc (.type "StopIteration") [] >>= _) _ _ _ from Ab ?_))));simp only [newExc,newTuple];refine Ab (Ce (Ab (m:=firstArgMember _ _) (wpAny_of_eq (a:=Value.none) (by first|rfl|(simp only [firstArgMember];rfl)) (Ce ?_ (by size_fits)))) (by size_fits));simp only [raiseNew];refine Ab (wpAny_handled ?_);rw[show A.in1.handled=none from hn];exact Ab (Ao (wpAny_throw (q _ _ (((Fp ..).extBut.push _).push _) ⟨_,Bb _ rfl,rfl⟩)))
end
noncomputable def SrcO (h:Heap) (b:Bool) (l:Addr) (xs:Array Value):Prop:=match b with
 |true=>h.IsList l xs
 |false=>h.IsTuple l xs
section
variable {prog:Program}{w:World}{A:Around}{E:Value->Shared->Prop}{s:Shared}
end
section
variable {prog:Program}{w:World}{A:Around}{E:Value->Shared->Prop}{s:Shared}
end
noncomputable def SqK (K:PySem.W.Frag) (k:Bool) (H:Hp) (a:Addr) (xs:List V):Prop:=match k with
 |true=>SqL K H a xs
 |false=>SqT K H a xs
section
variable {X:Cx}
end
noncomputable def zipW:List W->List W->List W
 |x::xs,y::ys=>.tup [x,y]::zipW xs ys
 |_,_=>[]
noncomputable def gZip (g g' : GE):GL:=λen=>(g en).bind λp=>(g' p.1).bind λq=>(seqW p.2.1).bind λws=>(seqW q.2.1).bind λus=>some (q.1,zipW ws us)
section
variable {K:PySem.W.Frag}{F H:Hp}{σ:St}
theorem zoa {w:W}{ws:List W}{v:V} (y:Rep K F w v) (hs:seqW w=some ws):∃a k vs,v=.ref a/\SqK K k F a vs/\Reps K F ws vs:=by
  cases w with
  | lst xs=>obtain rfl:=sI hs;cases y with
    |lst y r=>exact⟨_,true,_,rfl,SqL.of' y,r⟩
  | frl xs=>obtain rfl:=sI hs;cases y with
    |frl y r=>exact⟨_,true,_,rfl,y,r⟩
  | tup xs=>obtain rfl:=sI hs;cases y with
    |tup y r=>exact⟨_,false,_,rfl,.inl (.inl y),r⟩
  |_=>exact noSome hs
end
open AutoSeq1 (wpAny_loadPart')
section
variable {prog:Program}{w:World}{A:Around}{E:Value->Shared->Prop}{s:Shared}
theorem zvj {it l:Addr}{xs:Array Value}(ne:l≠it)(hn:A.handled=none):Draws prog w A.in1 it [it,l] xs.size (λi x=>xs[i]?=some x) (λk h=>h.IsTupleIter it l k/\h.IsTuple l xs) where
 live:=λi h st=>let ⟨⟨o,e,_⟩,_⟩:=st;⟨o,e⟩
 frame:=λi h h' st k=>⟨st.1.at λo e=>k it (by simp) o e,let ⟨o,e,r⟩:=st.2;⟨o,k l (by simp) o e,r⟩⟩
 item:=λi s Q E hi st q=>zz8 (k:=i) (xs:=xs) (x:=xs[i]) (.inr st) (Array.getElem?_eq_getElem hi) ne λh' c sb=>by
  rcases c with⟨⟨o,e,c1,_⟩,c2⟩|c
  ·obtain ⟨o', e', c1', _⟩ := st.1;have:=st.2;exact absurd c2 (fun c2=>by
    obtain⟨o2,e2,c3,_⟩:=c2;obtain⟨o3,e3,c4,_⟩:=st.2;rw[(sb.2 l ne).trans e3] at e2;obtain rfl:=sI e2;rw[c4] at c3;exact absurd (Value.type.inj c3) #v[0,9])
  ·exact q xs[i] h' s.toks (Array.getElem?_eq_getElem hi) c sb
 done:=λs Q E st q=>ztw (k:=xs.size) (xs:=xs) (show A.in1.handled=none from hn) (.inr st) (Array.getElem?_eq_none (Ad _)) q
theorem znq (l:Addr) (items:Array Value) (n:Nat) (dct:Option Addr) (sl:Array (Option Value)) :
  Meets (Builtin.«enumerate.__new__» ⟨[.type "enumerate",.ref l],[]⟩) (λ_ R s=>s.heap.get? l=some { cls:=.type "tuple",dict:=dct,data:=.seq items n,slots:=sl } /\
   R (.ok (.ret (.ref (s.heap.push { cls:=.type "tuple_iterator",data:=.fields #[.ref l,.int 0 0] }).objs.size)))
    { s with heap:=(s.heap.push { cls:=.type "tuple_iterator",data:=.fields #[.ref l,.int 0 0] }).push { cls:=.type "enumerate",data:=.fields #[.none,.bool false,.ref s.heap.objs.size,rawInt 0,.none,.none] } }) :=
 .of_wp λprog w A R s h=>by
  obtain⟨hp,g,d,tk,os⟩:=s;obtain⟨hl,h⟩:=h;have hsub:=sub_enumerate;have hL:Heap.IsTuple (Shared.heap ⟨hp,g,d,tk,os⟩) l items:=⟨_,hl,rfl,n,rfl⟩
  wp_walk using Cv hl
  refine wpAny_stack_any λst=>Ao ?_;split
  ·rename_i c _ _ _ _ _;cases (c == Value.type "enumerate")<;>(wp_walk using Cv hl,wpAny_pyIter_tuple hL)<;>exact⟨_,rfl,h⟩
  ·wp_walk using Cv hl,wpAny_pyIter_tuple hL
   exact⟨_,rfl,h⟩
theorem ztg {l:Addr}{items:Array Value}{Q:Value->Shared->Prop} (hL:s.heap.IsTuple l items)
  (h:∀h',IsEnum h' (s.heap.objs.size+1) s.heap.objs.size 0 .none->h'.IsTupleIter s.heap.objs.size l 0->(∀b o,s.heap.get? b=some o->h'.get? b=some o)->Q (.ref (s.heap.objs.size+1)) { s with heap:=h' }) :
  wpAny (model prog w) A (call (.type "enumerate") [.ref l]) Q E s:=by
 nofun;obtain⟨⟨c,dct,dt,sl⟩,hl,hc,n,hd⟩:=hL;ac_rfl;cases (show c=.type "tuple" from hc);cases (show dt=.seq items n from hd);refine callType_new F.called_enumerate #v[0,9] (F.typeCall_enumerate_1 _) (F.newCall_enumerate_1 _) (λobj=>F.args_object_init_2 obj _) F.entry_enumerate_new (znq l items n dct sl) ⟨hl,?_⟩;have hz:(s.heap.push { cls:=.type "tuple_iterator",data:=.fields #[.ref l,.int 0 0] }).objs.size=s.heap.objs.size+1:=Gd ..;show _/\_;rw[hz];have he:=Bb (s.heap.push { cls:=.type "tuple_iterator",data:=.fields #[.ref l,.int 0 0] }) (o:={ cls:=.type "enumerate",data:=.fields #[.none,.bool false,.ref s.heap.objs.size,rawInt 0,.none,.none] }) rfl;rw[hz] at he;exact⟨⟨_,he,rfl⟩,h _ he ⟨_,Ai _ (Bb _ rfl),rfl,rfl⟩ λb o x=>Ai _ (Ai _ x)⟩
end
noncomputable def IteT (K:PySem.W.Frag) (a:Addr):It :=
 ⟨λi H=>∃xs x,SqT K H a xs/\xs[i]?=some x,λi H x H'=>∃p v,x=.ref p/\H p=none/\H'=upd H p (.tup [.int i,v])/\∀xs,SqT K H a xs->xs[i]?=some v,λi H=>∃xs,SqT K H a xs/\xs.length<=i⟩
theorem zs6 {P:Program}{w:World}{K:PySem.W.Frag}{es:List Expr}{x1}{px:Pos}(a e it:Addr)(hei:e≠it)(hea:e≠a)(hai:a≠it):Turn P w K (.Tuple es x1 px) (IteT K a) [e,it] e (λi h=>(∃old,IsEnum h e it i old)/\h.IsTupleIter it a i) where
 mem:=by simp
 obj:=λi h st b hb=>by
  nofun;obtain⟨⟨old,he⟩,o,hi,c,d⟩:=st;ac_rfl;rcases At.mp hb with rfl|hb
  ·exact⟨_,he,λv z=>by cases z⟩
  ·have : b = it:=by simpa using hb
   subst this;exact⟨o,hi,λv z=>by rw[d] at z;cases z⟩
 keep:=λi h h' st k=>⟨let ⟨old,he⟩:=st.1;⟨old,k e (by simp) _ he⟩,st.2.at λo z=>k it (by simp) o z⟩
 item:=by
  intro X hP hw hK hc i pins s σ H E I hf st hg;subst hP hw hK;nofun;obtain⟨xs,x,hq,hx⟩:=hg;obtain⟨its,rv,p,hz⟩:=I.tuple hq;obtain⟨u,hu,ru⟩:=rv.get hx;obtain⟨⟨old,he⟩,hit⟩:=st;ac_rfl;have hT:s.heap.IsTuple a its.toArray:=p;have lt:i<its.toArray.size:=by
   rw[Ah];exact (Aj.mp hu).1
  refine wpAny_pyNext_enum_itemD (zvj hai (I.ok.hd hc)) he ⟨hit,hT⟩ lt hei (by simp [hei,hea]) λy h' tk hy ho hst hT' hsz hk=>⟨_,rfl,?_⟩;have eu:y=u:=by
   have:its[i]?=some y:=by simpa using hy
   rw[hu] at this;exact (sI this).symm
  subst eu;refine wpAny_letOwnedTupleGo_enum ho λh'' he'' hs''=>?_;have kk:∀b o,b ∉ [e,it]->s.heap.get? b=some o->h''.get? b=some o:=λb o hb q=>by
   have h1:b≠e:=λz=>hb (by simp [z]);have h2:b≠it:=λz=>hb (by simp [z]);exact (hs''.2 b h1).trans (hk b o h1 h2 q)
  have hTe:s.heap.objs.size≠e:=λz=>absurd (As he) (by rw[z];exact Cm _);have hit'' : h''.IsTupleIter it a (i+1):=hst.1.at λo y=>(hs''.2 it hei.symm).trans y;refine⟨.ref s.heap.objs.size,upd H s.heap.objs.size (.tup [.int i,x]),I.turnLay kk (λb hb=>?_) hf (Ad _) ⟨by show 2<=sizeLine;decide,[.int i tk,y],.cons ⟨_,rfl⟩ (.cons ru .nil),?_⟩,rfl,⟨_,x,rfl,I.hok.fresh (Ad _),rfl,λys hy=>by rw[I.tuple_inj hy hq];exact hx⟩,⟨⟨_,by simpa using he''⟩,hit''⟩,λb hb=>?_⟩
  ·rcases At.mp hb with rfl|hb
   ·exact⟨_,he''⟩
   ·have : b = it:=by simpa using hb
    subst this;obtain⟨o,z,_⟩:=hit'';exact⟨o,z⟩
  ·exact⟨_,(hs''.2 _ hTe).trans hT',rfl,_,rfl⟩
  ·have:b≠s.heap.objs.size:=by
    rcases At.mp hb with rfl|hb
    ·exact hTe.symm
    ·have e2 : b = it:=by simpa using hb
     subst e2;obtain⟨o,z,_⟩:=hit;exact Bi (As z)
   rw[upd_ne this];exact (hf b hb).1
 done:=by
  intro X hP hw hK hc i pins s σ H E I hf st hg;subst hP hw hK;nofun;obtain⟨xs,hq,hx⟩:=hg;obtain⟨its,rv,p,hz⟩:=I.tuple hq;obtain⟨⟨old,he⟩,hit⟩:=st;obtain⟨f0,f1,f2,f3,f4,f5⟩:=hf it (by simp);ac_rfl;have hl:=rv.length;have hT:s.heap.IsTuple a its.toArray:=p;have hTy:s.TypeIs (.ref e) "enumerate" := ⟨_,he,rfl⟩;unfold pyNext;refine Ab (wpAny_attempt (Dq (name:=Str.ofString "__next__") hTy F.slot_enumerate_next (Fg F.slot_enumerate_next hTy F.entry_enumerate_next ?_ (F.args_enumerate_next_1 _))));show wpAny _ _ (field (.ref e) 2 >>= _) _ _ _;refine Ab (Eh he rfl (x:=.ref it) rfl ?_);refine Ab (ztw (show _=none from I.ok.hd hc) (.inr ⟨hit,hT⟩) (Array.getElem?_eq_none (by simp;omega)) λh' x eb hx'=>?_);obtain⟨o,ho,hc'⟩:=hx';refine Ab (wpAny_isInstance (T := "StopIteration") (b:=true) ⟨o,ho,hc'⟩ isSubtype_stop ?_);exact Ao ⟨rfl,I.turned (t':=s.toks) (λb o hb e=>eb b o hb e) f0 f1 f3 f4 f5⟩
 self:=λ_ _ _ _ _ st h=>let ⟨_,he⟩:=st.1;He he h
section
variable {X:Cx}
noncomputable def z2s (K:PySem.W.Frag) (ta:TA):TI:=λσ H R=>ta σ H λvs H1=>∃a xs,vs=[.ref a]/\(SqL K H1 a xs/\R (Ite K a) H1\/SqT K H1 a xs/\R (IteT K a) H1)
theorem z0j {es:List Expr}{x1}{px:Pos}{l:Expr}{tl:TA}{p pos:Pos} (hg:Gl X "enumerate") (hm:X.mg "enumerate" = none) (hl:PA X [l] tl) (hs:starEach [l] X.env=[(false,eval l X.env)]:=by rfl) :
    PI X (.Tuple es x1 px) (.Call (.Name "enumerate" p) [l] [] pos) (z2s X.K tl):=by
  intro pins s σ H R I h;refine Call_ (zf6 I hg hm boot_enumerate (Dn (thn (hl pos pins s σ H _ I h) λus s1 ⟨vs,H1,I1,r1,q1⟩=>?_) hs rfl));obtain⟨a,xs,e,q⟩:=q1;subst e;cases r1 with
  | cons r rr =>
    cases rr;cases r;have fp:∀b∈[s1.heap.objs.size+1,s1.heap.objs.size],FpOk X pins H1 b:=fun b hb=>by
      have e:s1.heap.objs.size<=b:=by
        rcases At.mp hb with rfl|hb
        · exact Nat.le_succ _
        · have e2 : b = s1.heap.objs.size := by simpa using hb
          rw[e2];exact Ad _
      exact I1.fpOk e (I1.hok.fresh e)
    rcases q with⟨hq,q⟩|⟨hq,q⟩
    · obtain ⟨its, rv, p', hz⟩ := I1.list hq
      refine call_enumerate_list p'.isList λh' he hit hsz hk=>He he ?_;exact⟨s1.heap.objs.size+1,[s1.heap.objs.size+1,s1.heap.objs.size],_,_,H1,rfl,I1.kept (t':=s1.toks) hk,zvl a _ _ (Nat.succ_ne_self _),⟨⟨_,by simpa using he⟩,hit⟩,fp,q⟩
    · obtain ⟨its, rv, p', hz⟩ := I1.tuple hq
      have hT:s1.heap.IsTuple a its.toArray:=p';have al:a<s1.heap.objs.size:=let ⟨o,e,_⟩:=hT;As e;refine ztg hT λh' he hit hk=>He he ?_;exact⟨s1.heap.objs.size+1,[s1.heap.objs.size+1,s1.heap.objs.size],_,_,H1,rfl,I1.kept (t':=s1.toks) hk,zs6 a _ _ (Nat.succ_ne_self _) (Nat.ne_of_gt (Gv al)) (Bi al),⟨⟨_,by simpa using he⟩,hit⟩,fp,q⟩
end
section
variable {K:PySem.W.Frag}{F H:Hp}{σ:St}
theorem z2c {a:Addr}{vs:List V}{ws:List W}(h:SqT K F a vs)(r:Reps K F ws vs):ItOk K F (IteT K a) (zej ws 0) where
 go:=λi H s hi=>by rw[zbo] at hi;exact⟨vs,vs[i]'(by rw[<-r.length];exact hi),zc9 s h,by rw[Aa]⟩
 stop:=λH s=>⟨vs,zc9 s h,by rw[zbo,r.length];exact Ad _⟩
 yld:=λi H x H' s hi y=>by
  nofun;obtain⟨p,v,e,hp,e2,y⟩:=y;ac_rfl;subst e e2;obtain⟨w,e,q⟩:=r.getV (y vs (zc9 s h));refine⟨_,zd4 e,?_⟩;rw[Dc];exact .tup hp (.cons (.int _) (.cons q .nil))
noncomputable def zg0 (g:GE):GL:=λen=>(g en).bind λp=>(seqW p.2.1).bind λws=>some (p.1,zej ws 0)
theorem zt6 {g:GE}{R:It->Hp->Prop}(h:tI K (zg0 g) σ H R):z2s K (zdq (tE K g) tNil) σ H R:=by
 nofun;obtain⟨F,pr,en,en',ws,Re,h,q⟩:=h;obtain⟨⟨e1,rv⟩,h1,h⟩:=bS h;obtain⟨us,hs,h⟩:=bS h;ac_rfl;cases h;refine⟨F,pr,en,e1,rv,Re,h1,λF1 H1 v s1 R1 z=>?_⟩;nofun;obtain⟨F2,s2,R2,y⟩:=z.freeze R1;obtain⟨a,k,vs,e,hq,r⟩:=zoa y hs;ac_rfl;subst e;cases k with
 |true=>exact⟨a,vs,rfl,.inl ⟨R2.sub.seq hq,q F2 H1 _ (s1.trans s2) R2 (z53 hq r)⟩⟩
 |false=>exact⟨a,vs,rfl,.inr ⟨zc9 R2.sub hq,q F2 H1 _ (s1.trans s2) R2 (z2c hq r)⟩⟩
end
end L2
namespace L2
open PySem PySem.Spec PyProof.Rows
section
variable {X:Cx}{pins:List (Addr × Obj)}{σ:St}{H:Hp}{s:Shared}
end
section
variable {K:PySem.W.Frag}{F H:Hp}
end
noncomputable abbrev Fn:=List W->Option (List W × (W × Bool))
noncomputable def zbs (m:List Bool) (ws:List W):En:=List.zipWith (λw b=>some (w,b)) ws m
noncomputable def spF (K:PySem.W.Frag) (m:List Bool) (Φ:Fn):Sp:=λvs H Q _=>∃F pr ws ws' r,ws.length=m.length/\ws'.length=m.length/\Rel K F pr (zbs m ws) (vs.map some) H/\Φ ws=some (ws',r) /\
 ∀F' H' v,Same F F'->Rel K F' pr (zbs m ws') (vs.map some) H'->Res K F' H' pr (zbs m ws') (vs.map some) r v->Q v H'
theorem zey {m:List Bool}{ws:List W}{k:Nat}{w:W}{b:Bool}:(zbs m ws)[k]?=some (some (w,b))↔ws[k]?=some w/\m[k]?=some b:=by
 unfold zbs;rw[List.getElem?_zipWith];cases ws[k]?<;>cases m[k]?<;>simp
theorem ze3 {m:List Bool}{ws:List W}(h:ws.length=m.length):(zbs m ws).length=m.length:=by
 unfold zbs;rw[List.length_zipWith,h,Nat.min_self]
theorem zwp {K:PySem.W.Frag}{m:List Bool}{Φ:Fn}{vs:List V}{H:Hp}{Q:VK}{E:XK}(h:spF K m Φ vs H Q E):vs.length=m.length:=by
 obtain⟨F,pr,ws,ws',r,h1,_,R,_⟩:=h;have:=R.len;rw[ze3 h1,Ae] at this;exact this.symm
noncomputable def isR:W ⊕ Nat->Bool
 |.inr _=>true
 |.inl _=>false
noncomputable def zbi (xs:List (W ⊕ Nat)):Cap:=xs.map λx=>match x with
 |.inr i=>some i
 |.inl _=>none
noncomputable def zaw (en:En) (xs:List (W ⊕ Nat)):Bool:=xs.all fun x=>match x with
  | .inr i=>match en[i]? with
    |some (#v[_,5])=>true
    |_=>false
  |.inl _=>true
noncomputable def gCall (m:List Bool) (Φ:Fn) (as:GAs):GE:=λen=>(as en).bind λp=>if decide (p.2.map isR=m) && zaw p.1 p.2 && zcp (zbi p.2) then (zar p.1 p.2).bind λws=>(Φ ws).bind λq=>if q.1.length=m.length then some (zbm (zbi p.2) p.1 (zbs m q.1),q.2) else none else none
theorem ArgRs.get {K:PySem.W.Frag}{F:Hp}{σ:St}:∀{xs:List (W ⊕ Nat)}{vs:List V}{k:Nat}{x:W ⊕ Nat},ArgRs K F σ xs vs->xs[k]?=some x->∃v,vs[k]?=some v/\ArgR K F σ x v
  |_,_,_,_,.nil,e=>by simp at e
  |_,_,0,_,.cons h _,e=>by simp at e;subst e;exact⟨_,rfl,h⟩
  | _,_,k+1,x,.cons _ r,e=>by
    obtain⟨v,h1,h2⟩:=ArgRs.get (k:=k) (x:=x) r (by simpa using e);exact⟨v,by simpa using h1,h2⟩
theorem ArgRs.length {K:PySem.W.Frag}{F:Hp}{σ:St}:∀{xs:List (W ⊕ Nat)}{vs:List V},ArgRs K F σ xs vs->xs.length=vs.length
 |_,_,.nil=>rfl
 |_,_,.cons _ r=>congrArg (· + 1) (ArgRs.length r)
theorem znb {en:En}:∀{xs:List (W ⊕ Nat)}{ws:List W},zar en xs=some ws->ws.length=xs.length
  |[],_,e=>by obtain rfl:=sI e;rfl
  | x::xs,_,e=>by
    obtain⟨w,_,e⟩:=bS e;obtain⟨ws,h,e⟩:=bS e;obtain rfl:=sI e;exact congrArg (· + 1) (znb h)
theorem zll {en:En}:∀{xs:List (W ⊕ Nat)}{ws:List W}{k:Nat}{w:W},zar en xs=some ws->ws[k]?=some w->∃x,xs[k]?=some x/\resA en x=some w
  |[],_,_,_,e,h=>by obtain rfl:=sI e;simp at h
  | x::xs,_,k,w,e,h=>by
    obtain⟨u,hu,e⟩:=bS e;obtain⟨us,h2,e⟩:=bS e;obtain rfl:=sI e;cases k with
    |zero=>simp at h;subst h;exact⟨x,rfl,hu⟩
    |succ k=>obtain⟨y,h3,h4⟩:=zll (k:=k) h2 (by simpa using h);exact⟨y,by simpa using h3,h4⟩
theorem zfh {xs:List (W ⊕ Nat)}{k i:Nat}:(zbi xs)[k]?=some (some i)↔xs[k]?=some (.inr i):=by
 unfold zbi;rw[An];cases e:xs[k]? with
 |none=>simp
 |some x=>cases x<;>simp
section
variable {K:PySem.W.Frag}{F H:Hp}{pr:Prt}{en:En}{σ:St}
theorem Rel.back {cap:Cap}{F' H' : Hp}{ce:En}{σc:St} (R:Rel K F pr en σ H) (s:Same F F') (Rc:Rel K F' (zcb pr cap en σ H) ce σc H') (slot:∀(i j:Nat) (v:V),zat cap i=some j->σc[j]?=some (some v)->σ[i]?=some (some v)) :
    Rel K F' pr (zbm cap en ce) σ H'/\∀r v,Res K F' H' (zcb pr cap en σ H) ce σc r v->Res K F' H' pr (zbm cap en ce) σ r v:=by
  have un:∀(i:Nat) (w:W),zat cap i=none->en[i]?=some (some (w,true))->∃(a:Addr) (vs:HO) (ws:W),w=ws/\σ[i]?=some (some (V.ref a))/\H a=some vs/\H' a=some vs/\F' a=none/\OwnR K F ws vs/\∀(j:Nat) (w' : W),ce[j]?=some (some (w',true))->σc[j]?≠some (some (V.ref a)):=fun i w c e=>by
    obtain⟨a,vs,ws,h1,h2,h3,h4,h5⟩:=R.own i w e;obtain⟨b1,b2,b3⟩:=Rc.prt a vs (.inr ⟨i,w,e,c,h2,h3⟩);exact⟨a,vs,ws,h1,h2,h3,b1,b2,h5,b3⟩
  have capt:∀(i j:Nat) (w:W),zat cap i=some j->ce[j]?=some (some (w,true))->∃(a:Addr) (vs:HO) (ws:W),w=ws/\σ[i]?=some (some (V.ref a))/\σc[j]?=some (some (V.ref a))/\H' a=some vs/\F' a=none/\OwnR K F' ws vs:=fun i j w c e=>by
    obtain⟨a,vs,ws,h1,h2,h3,h4,h5⟩:=Rc.own j w e;exact⟨a,vs,ws,h1,slot i j _ c h2,h2,h3,h4,h5⟩
  refine⟨⟨by unfold zbm;rw[List.length_mapIdx];exact R.len,Rc.sub,λi w e=>?_,λi w e=>?_,λi k a w w' e1 e2 q1 q2=>?_,λb o q=>?_,Rc.tb.go (λb xs z=>.inl z) (λb ps e f=>⟨e,f⟩) (.refl F') λb ps e hh o z=>hh o (.inl z)⟩,λr v z=>?_⟩
  · rcases backEn_get e with ⟨j, c, e⟩ | ⟨c, e⟩
    · obtain ⟨v, h1, h2⟩ := Rc.val j w e
      exact⟨v,slot i j v c h1,h2⟩
    · obtain ⟨v, h1, h2⟩ := R.val i w e
      exact⟨v,h1,h2.mono s⟩
  · rcases backEn_get e with ⟨j, c, e⟩ | ⟨c, e⟩
    · obtain ⟨a, vs, ws, h1, h2, _, h3, h4, h5⟩ := capt i j w c e
      exact⟨a,vs,ws,h1,h2,h3,h4,h5⟩
    · obtain ⟨a, vs, ws, h1, h2, _, h3, h4, h5, _⟩ := un i w c e
      exact⟨a,vs,ws,h1,h2,h3,h4,h5.mono s⟩
  · rcases backEn_get e1 with ⟨j, c, e1⟩ | ⟨c, e1⟩
    · obtain ⟨a', _, _, _, h2, h3, _⟩ := capt i j w c e1
      rw[q1] at h2;cases h2;rcases backEn_get e2 with⟨l,c2,e2⟩|⟨c2,e2⟩
      · obtain ⟨a', _, _, _, g2, g3, _⟩ := capt k l w' c2 e2
        rw[q2] at g2;cases g2;have:=Rc.inj j l a _ _ e1 e2 h3 g3;subst this;have x:=zbv c;rw[zbv c2] at x;cases x;rfl
      · obtain ⟨a', _, _, _, g2, _, _, _, _, g3⟩ := un k w' c2 e2
        rw[q2] at g2;cases g2;exact absurd h3 (g3 j w e1)
    · obtain ⟨a', _, _, _, h2, _, _, _, _, h3⟩ := un i w c e1
      rw[q1] at h2;cases h2;rcases backEn_get e2 with⟨l,c2,e2⟩|⟨c2,e2⟩
      · obtain ⟨a', _, _, _, g2, g3, _⟩ := capt k l w' c2 e2
        rw[q2] at g2;cases g2;exact absurd g3 (h3 l w' e2)
      · exact R.inj i k a _ _ e1 e2 q1 q2
  · obtain ⟨b1, b2, b3⟩ := Rc.prt b o (.inl q)
    refine⟨b1,b2,λi w e=>?_⟩;rcases backEn_get e with⟨j,c,e⟩|⟨c,e⟩
    · obtain ⟨a, _, _, _, h2, h3, _⟩ := capt i j w c e
      rw[h2];intro z;cases z;exact b3 j w e h3
    · exact (R.prt b o q).2.2 i w e
  · obtain ⟨w, fl⟩ := r
    cases fl with
    |false=>exact z
    | true =>
      obtain⟨a,vs,ws,q1,q2,q3,q4,q5,q6,q7⟩:=z;refine⟨a,vs,ws,q1,q2,q3,q4,q5,λi w' e=>?_,λb o p=>q7 b o (.inl p)⟩;rcases backEn_get e with⟨j,c,e⟩|⟨c,e⟩
      · obtain ⟨a', _, _, _, h2, h3, _⟩ := capt i j w' c e
        rw[h2];intro z;cases z;exact q6 j w' e h3
      · obtain ⟨a', vs', ws', h1, h2, h3, h4, h5⟩ := R.own i w' e
        rw[h2];intro z;cases z;exact q7 a vs' (.inr ⟨i,w',e,c,h2,h3⟩) rfl
theorem z75 {m:List Bool}{Φ:Fn}{xs:List (W ⊕ Nat)}{e1 en' : En}{F1 H1:Hp}{vs:List V}{r:W × Bool}{Q:VK}{E:XK} (R1:Rel K F1 pr e1 σ H1) (a1:ArgRs K F1 σ xs vs)
    (h:(if decide (xs.map isR=m) && zaw e1 xs && zcp (zbi xs) then (zar e1 xs).bind λws=>(Φ ws).bind λq=>if q.1.length=m.length then some (zbm (zbi xs) e1 (zbs m q.1),q.2) else none else none)=some (en',r))
    (q:∀F' H' v,Same F1 F'->Rel K F' pr en' σ H'->Res K F' H' pr en' σ r v->Q v H'):spF K m Φ vs H1 Q E:=by
  split at h
  · rename_i z
    rw[Ac,Ac] at z;obtain⟨⟨z1,z2⟩,nd⟩:=z;have hm:xs.map isR=m:=Al z1;nofun;obtain⟨ws,h2,h⟩:=bS h;obtain⟨⟨ws',r'⟩,h3,h⟩:=bS h;ac_rfl;split at h
    · rename_i hl
      cases h;have lx:ws.length=xs.length:=znb h2;have lm:xs.length=m.length:=by rw[<-hm,Ae]
      have lv:=a1.length;have at' : ∀(k:Nat) (w:W) (b:Bool),(zbs m ws)[k]?=some (some (w,b))->∃x v,xs[k]?=some x/\isR x=b/\resA e1 x=some w/\vs[k]?=some v/\ArgR K F1 σ x v:=fun k w b e=>by
        nofun;obtain⟨g1,g2⟩:=zey.mp e;obtain⟨x,g3,g4⟩:=zll h2 g1;obtain⟨v,g5,g6⟩:=a1.get g3;ac_rfl;rw[<-hm,An,g3] at g2;exact⟨x,v,g3,sI g2,g4,g5,g6⟩
      have ow:∀(k:Nat) (w:W),(zbs m ws)[k]?=some (some (w,true))->∃i v,xs[k]?=some (.inr i)/\e1[i]?=some (some (w,true))/\vs[k]?=some v/\σ[i]?=some (some v):=fun k w e=>by
        nofun;obtain⟨x,v,g1,g2,g3,g4,g5⟩:=at' k w true e;ac_rfl;cases x with
        |inl _=>cases g2
        | inr i =>
          refine⟨i,v,g1,?_,g4,g5⟩;have o:=Bm.mp z2 _ (Av g1);simp only at o;split at o
          · rename_i w0 e0
            unfold resA at g3;simp only [e0] at g3;obtain rfl:=sI g3;exact e0
          · cases o
      have RC:Rel K F1 (zcb pr (zbi xs) e1 σ H1) (zbs m ws) (vs.map some) H1:=by
        refine⟨by rw[ze3 #v[],Ae];omega,R1.sub,λk w e=>?_,λk w e=>?_,λk l a w w' g1 g2 g3 g4=>?_,λb o p=>?_,R1.tb.go (λb xs z=>zin R1 z) (λb ps e f=>⟨e,f⟩) (.refl F1) λb ps e hh o z=>zi1 R1 e hh o z⟩
        · refine aG fun Gg qG => ?_
          obtain⟨x,v,g1,g2,g3,g4,g5⟩:=at' k w false e;ac_rfl;cases x with
          |inr _=>cases g2
          |inl u=>obtain rfl:=sI g3;exact⟨v,by rw[An,g4];rfl,g5⟩
        · refine aG fun Gg qG => ?_
          obtain⟨i,v,g1,g2,g3,g4⟩:=ow k w e;obtain⟨a,us,wz,p1,p2,p3,p4,p5⟩:=R1.own i w g2;ac_rfl;rw[g4] at p2;cases p2;exact⟨a,us,wz,p1,by rw[An,g3];rfl,p3,p4,p5⟩
        · refine aG fun Gg qG => ?_
          obtain⟨i,v,k1,k2,k3,k4⟩:=ow k w g1;obtain⟨i',v',l1,l2,l3,l4⟩:=ow l w' g2;ac_rfl;rw[An,k3] at g3;cases g3;rw[An,l3] at g4;cases g4;have:=R1.inj i i' a _ _ k2 l2 k4 l4;subst this;have y:=zgj nd (zfh.mpr k1);rw[zgj nd (zfh.mpr l1)] at y;exact (sI y).symm
        · rcases p with p | ⟨j, w, p1, p2, p3, p4⟩
          · obtain ⟨b1, b2, b3⟩ := R1.prt b o p
            refine⟨b1,b2,λk w e=>?_⟩;nofun;obtain⟨i,v,g1,g2,g3,g4⟩:=ow k w e;ac_rfl;rw[An,g3];intro y;cases y;exact b3 i w g2 g4
          · refine aG fun Gg qG => ?_
            obtain⟨a,us,wz,p1',p2',p3',p4',p5'⟩:=R1.own j w p1;ac_rfl;rw[p3] at p2';cases p2';refine⟨p4,p4',λk w' e=>?_⟩;nofun;obtain⟨i,v,g1,g2,g3,g4⟩:=ow k w' e;ac_rfl;rw[An,g3];intro y;cases y;have:=R1.inj i j _ _ _ g2 p1 g4 p3;subst this;exact zdc p2 k (zfh.mpr g1)
      refine ⟨F1,zcb pr (zbi xs) e1 σ H1,ws,ws',_,by omega,hl,RC,h3,fun F2 H2 v s2 R2 y2=>?_⟩;obtain ⟨Ro,rz⟩:=R1.back s2 R2 fun i j v c e=>by
        have c':=zfh.mp (zbv c);obtain⟨v',g1,g2⟩:=a1.get c';rw[An,g1] at e;cases e;exact g2
      exact q F2 H2 v s2 Ro (rz _ _ y2)
    · cases h
  · cases h
theorem zxl {m:List Bool}{Φ:Fn}{as:GAs}{Q:VK}(h:tE K (gCall m Φ as) σ H Q):z7t (spF K m Φ) [] E0 (tAs K as) σ H Q:=by
 nofun;obtain⟨F,pr,en,en',r,R,h,q⟩:=h;obtain⟨⟨e1,xs⟩,h1,h⟩:=bS h;ac_rfl;refine⟨F,pr,en,e1,xs,R,h1,λF1 H1 vs s1 R1 a1=>?_⟩;show spF K m Φ (vs++[]) H1 Q E0;rw[By];exact z75 R1 a1 h λF' H' v s'=>q F' H' v (s1.trans s')
end
noncomputable def zcz:List Bool->List W->En->Option (List W)
 |[],[],_=>some []
 |true::m,_::ws,#v[w,5]::en=>(zcz m ws en).bind λr=>some (w::r)
 |false::m,w::ws,_::en=>(zcz m ws en).bind λr=>some (w::r)
 |_,_,_=>none
noncomputable def mpOf (m:List Bool):List Nat:=(List.range m.length).filter λk=>m[k]? == some true
noncomputable def zac (m:List Bool) (n:Nat) (g:GS):Fn:=λws=>if ws.length=m.length then match g (zbs m ws++List.replicate (n - m.length) none) with
 |some (en,.ret r)=>(zcz m ws en).bind λws'=>some (ws',r)
 |some (en,.nx)=>(zcz m ws en).bind λws'=>some (ws',(.non,false))
 |_=>none else none
theorem zkq:∀{m:List Bool}{ws:List W}{en:En}{ws' : List W},zcz m ws en=some ws'->ws'.length=m.length/\∀(k:Nat) (w:W),ws'[k]?=some w->(m[k]?=some true->en[k]?=some (some (w,true)))/\(m[k]?=some false->ws[k]?=some w)
  |[],[],_,_,e=>by obtain rfl:=sI e;exact⟨rfl,λk w h=>by simp at h⟩
  | true::m,_::ws,some (u,true)::en,_,e=>by
    obtain⟨r,h,e⟩:=bS (show (zcz m ws en).bind _=_ from e);obtain rfl:=sI e;obtain⟨h1,h2⟩:=zkq h;refine⟨congrArg (· + 1) h1,λk w hk=>?_⟩;cases k with
    |zero=>simp at hk;subst hk;exact⟨λ_=>rfl,λz=>by simp at z⟩
    | succ k =>
      have:=h2 k w (by simpa using hk);exact⟨λz=>by simpa using this.1 (by simpa using z),λz=>by simpa using this.2 (by simpa using z)⟩
  | false::m,u::ws,_::en,_,e=>by
    obtain⟨r,h,e⟩:=bS (show (zcz m ws en).bind _=_ from e);obtain rfl:=sI e;obtain⟨h1,h2⟩:=zkq h;refine⟨congrArg (· + 1) h1,λk w hk=>?_⟩;cases k with
    |zero=>simp at hk;subst hk;exact⟨λz=>by simp at z,λ_=>rfl⟩
    | succ k =>
      have:=h2 k w (by simpa using hk);exact⟨λz=>by simpa using this.1 (by simpa using z),λz=>by simpa using this.2 (by simpa using z)⟩
  |[],_::_,_,_,e=>by exact noSome e
  |true::_,[],_,_,e=>by exact noSome e
  |false::_,[],_,_,e=>by exact noSome e
  |true::_,_::_,[],_,e=>by exact noSome e
  |false::_,_::_,[],_,e=>by exact noSome e
  |true::_,_::_,none::_,_,e=>by exact noSome e
  |true::_,_::_,#v[_,6]::_,_,e=>by exact noSome e
theorem z57 {K:PySem.W.Frag}{m:List Bool}{N:List Str}{g:GS}{vs:List V}{H:Hp}{Q:VK}{E:XK} (h:spF K m (zac m N.length g) vs H Q E):tS K (mpOf m) g { nx:=fun _ H'=>Q .non H',rt:=Q } (start N vs) H:=by
  have hv:=zwp h;refine aG fun _ qG=>?_;obtain ⟨F,pr,ws,ws',r,h1,h2,R,h3,q⟩:=h;refine qG ?_;clear qG;unfold zac at h3;rw [if_pos h1] at h3;have la:=ze3 h1;have pad:∀(i:Nat) (x:W × Bool),(zbs m ws++List.replicate (N.length - m.length) none)[i]?=some (some x)->(zbs m ws)[i]?=some (some x):=fun i x e=>by
    by_cases hi:i<(zbs m ws).length
    · rw[Dj hi] at e;exact e
    · rw [Ew (by omega), List.getElem?_replicate] at e
      split at e<;>cases e
  have st:∀(i:Nat) (v:V),(vs.map some)[i]?=some (some v)->(start N vs)[i]?=some (some v):=fun i v e=>by
    unfold start;rw[Dj (by have:=(Aj.mp e).1;exact this)];exact e
  have st' : ∀(i:Nat) (v:V),i < m.length->(start N vs)[i]?=some (some v)->(vs.map some)[i]?=some (some v):=fun i v hi e=>by
    unfold start at e;rw[Dj (by rw[Ae];omega)] at e;exact e
  have R0:Rel K F pr (zbs m ws++List.replicate (N.length - m.length) none) (start N vs) H:=by
    refine⟨?_,R.sub,λi w e=>?_,λi w e=>?_,λi j a w w' e1 e2 q1 q2=>?_,λb o p=>?_,R.tb⟩
    · unfold start
      rw[Az,Az,Dy,Dy,Ae,la,hv]
    · obtain ⟨v, g1, g2⟩ := R.val i w (pad i _ e)
      exact⟨v,st i v g1,g2⟩
    · refine aG fun Gg qG => ?_
      obtain⟨a,us,wz,g1,g2,g3⟩:=R.own i w (pad i _ e);ac_rfl;exact⟨a,us,wz,g1,st i _ g2,g3⟩
    · have l1 : i < m.length := by have := (Aj.mp (pad i _ e1)).1; omega
      have l2:j<m.length:=by have:=(Aj.mp (pad j _ e2)).1;omega
      exact R.inj i j a w w' (pad i _ e1) (pad j _ e2) (st' i _ l1 q1) (st' j _ l2 q2)
    · obtain ⟨b1, b2, b3⟩ := R.prt b o p
      refine⟨b1,b2,λi w e z=>?_⟩;have l1:i<m.length:=by have:=(Aj.mp (pad i _ e)).1;omega
      exact b3 i w (pad i _ e) (st' i _ l1 z)
  have back:∀(en:En) (wz:List W) (F' : Hp) (σ' : St) (H' : Hp),zcz m ws en=some wz->Same F F'->Rel K F' pr en σ' H'->Keep (mpOf m) (start N vs) σ' ->
      Rel K F' pr (zbs m wz) (vs.map some) H'/\∀r v,Res K F' H' pr en σ' r v->Res K F' H' pr (zbs m wz) (vs.map some) r v:=λen wz F' σ' H' ho s' R' k'=>by
    obtain ⟨o1,o2⟩:=zkq ho;have own:∀(k:Nat) (w:W),(zbs m wz)[k]?=some (some (w,true))->en[k]?=some (some (w,true))/\∀v,σ'[k]?=some (some v)↔(vs.map some)[k]?=some (some v):=fun k w e=>by
      obtain⟨g1,g2⟩:=zey.mp e;have lk:k<m.length:=(Aj.mp g2).1;have hk:k∈mpOf m:=Dh.mpr ⟨Bh.mpr lk,by rw[g2];simp⟩;refine⟨(o2 k w g1).1 g2,λv=>?_⟩;rw[k' k hk];exact⟨st' k v lk,st k v⟩
    refine⟨⟨by rw[ze3 o1,Ae,hv],R'.sub,λk w e=>?_,λk w e=>?_,λk l a w w' e1 e2 q1 q2=>?_,λb o p=>?_,R'.tb⟩,λr v z=>?_⟩
    · refine aG fun Gg qG => ?_
      obtain⟨g1,g2⟩:=zey.mp e;obtain⟨v,g3,g4⟩:=R.val k w (zey.mpr ⟨(o2 k w g1).2 g2,g2⟩);ac_rfl;exact⟨v,g3,g4.mono s'⟩
    · refine aG fun Gg qG => ?_
      obtain⟨g1,g2⟩:=own k w e;obtain⟨a,us,wz,p1,p2,p3⟩:=R'.own k w g1;ac_rfl;exact⟨a,us,wz,p1,(g2 _).mp p2,p3⟩
    · obtain ⟨g1, g2⟩ := own k w e1
      obtain⟨g3,g4⟩:=own l w' e2;exact R'.inj k l a _ _ g1 g3 ((g2 _).mpr q1) ((g4 _).mpr q2)
    · obtain ⟨b1, b2, b3⟩ := R'.prt b o p
      refine⟨b1,b2,λk w e z=>?_⟩;obtain⟨g1,g2⟩:=own k w e;exact b3 k w g1 ((g2 _).mpr z)
    · obtain ⟨w0, fl⟩ := r
      cases fl with
      |false=>exact z
      | true =>
        nofun;obtain⟨a,us,wz',q1,q2,q3,q4,q5,q6,q7⟩:=z;ac_rfl;refine⟨a,us,wz',q1,q2,q3,q4,q5,λk w e y=>?_,q7⟩;obtain⟨g1,g2⟩:=own k w e;exact q6 k w g1 ((g2 _).mpr y)
  cases eg:g (zbs m ws++List.replicate (N.length - m.length) none) with
  |none=>simp only [eg] at h3;exact noSome h3
  | some p =>
    obtain⟨en,fl⟩:=p;refine⟨F,pr,_,en,fl,R0,eg,?_⟩;cases fl with
    |brk=>simp only [eg] at h3;exact noSome h3
    |cnt=>simp only [eg] at h3;exact noSome h3
    | nx =>
      simp only [eg] at h3;obtain⟨wz,ho,h3⟩:=bS h3;cases h3;intro F' σ' H' s' R' k';obtain⟨Rb,_⟩:=back en ws' F' σ' H' ho s' R' k';exact q F' H' .non s' Rb .non
    | ret r' =>
      simp only [eg] at h3;obtain⟨wz,ho,h3⟩:=bS h3;cases h3;intro F' σ' H' v s' R' k' z;obtain⟨Rb,rb⟩:=back en ws' F' σ' H' ho s' R' k';exact q F' H' v s' Rb (rb _ _ z)
end L2
set_option maxHeartbeats 4000000
namespace L2
open PySem PyProof.Rows
namespace Tim
noncomputable def gal:Bool->Keyed->Array Keyed->Nat->Nat->Nat->StateT SortSt Sem (Option Nat):=sortPriv% PySem.Builtin.gallop
noncomputable def mLo:Array Keyed->Array Keyed->StateT SortSt Sem (Array Keyed):=sortPriv% PySem.Builtin.mergeLo
noncomputable def mHi:Array Keyed->Array Keyed->StateT SortSt Sem (Array Keyed):=sortPriv% PySem.Builtin.mergeHi
theorem aG {P:Prop}(h:∀G:Prop,(P->G)->G):P:=h P id
structure Ord (lt:Keyed->Keyed->Bool) (bf le:Keyed->Keyed->Prop):Prop where
 tr:∀{x y z},le x y->le y z->le x z
 tot:∀x y,le x y\/le y x
 f1:∀{x y},bf x y->(lt y x=false↔le x y)
 f2:∀{x y},lt x y=true->le x y
 irr:∀x,lt x x=false
 ltr:∀{x y z},lt x y=true->lt y z=true->lt x z=true
 nt:∀{x z} (y),lt x z=true->lt x y=true\/lt y z=true
section
variable {lt:Keyed->Keyed->Bool}{bf le:Keyed->Keyed->Prop} (O:Ord lt bf le)
include O
theorem Ord.rf (x:Keyed):le x x:=(O.tot x x).elim id id
theorem Ord.f3 {x y:Keyed}(h:bf x y)(q:lt y x=true):¬ le x y:=λz=>by rw[(O.f1 h).mpr z] at q;cases q
end
noncomputable abbrev d0:Keyed:=(Value.none,Value.none)
noncomputable def G (xs:Array Keyed) (i:Nat):Keyed:=(xs[i]?).getD d0
theorem z2r {xs:Array Keyed}{i:Nat}(h:i<xs.size):xs[i]?=some (G xs i):=by unfold G;rw[getElem?_pos xs i h];rfl
theorem z4f {xs a₀:Array Keyed}(p:xs.Perm a₀){i:Nat}(h:i<xs.size):G xs i∈a₀.toList:=by
 refine (Gr.mp p).mem_iff.mp ?_;unfold G;rw[getElem?_pos xs i h];simp
theorem zgs {xs ys:Array Keyed}{i j:Nat}(h:xs[i]?=ys[j]?):G xs i=G ys j:=by unfold G;rw[h]
noncomputable def Asks (prog:Program) (w:World) (A:Around) (E:Value->Shared->Prop) (s:Shared) (κ:SortKind) (a₀:Array Keyed) (lt:Keyed->Keyed->Bool):Prop :=
 ∀(x y:Keyed) (st:SortSt) (Q:Option Bool->SortSt->Prop),x∈a₀.toList->y∈a₀.toList->kindOf st=κ->Q (some (lt x y)) st->wpS (model prog w) A E s (lt' x y) Q st
section
variable {prog:Program}{w:World}{A:Around}{E:Value->Shared->Prop}{s:Shared}{κ:SortKind}{a₀:Array Keyed}{lt:Keyed->Keyed->Bool}{st:SortSt}
theorem za3 {arr:Array Keyed}{i:Nat}{Q:Keyed->SortSt->Prop}(hi:i<arr.size)(h:Q (G arr i) st):wpS (model prog w) A E s (elem' arr i) Q st:=by
 rw[elem'_eq,z2r hi];exact Ar h
theorem zi7 {i j:Nat}{Q:Option Bool->SortSt->Prop} (C:Asks prog w A E s κ a₀ lt) (hk:kindOf st=κ) (p:(arrOf st).Perm a₀) (hi:i < a₀.size) (hj:j < a₀.size) (h:Q (some (lt (G (arrOf st) i) (G (arrOf st) j))) st) :
  wpS (model prog w) A E s (ltAt' i j) Q st:=by
 have e:=p.size_eq;rw[ltAt'_eq];refine Am (Hh ?_);exact Am (za3 #v[] (Am (za3 #v[] (C _ _ _ _ (z4f p #v[]) (z4f p #v[]) hk h))))
theorem zsx {left:Bool}{key:Keyed}{arr:Array Keyed}{base n hint:Nat}{B:Nat->Bool}{Q:Option Nat->SortSt->Prop} (C:Asks prog w A E s κ a₀ lt) (hk:kindOf st=κ) (hkey:key∈a₀.toList)
    (hs:base+n<=arr.size) (hm:∀i,i<n->G arr (base+i)∈a₀.toList) (hB:∀i,i<n->B i=if left then lt (G arr (base+i)) key else !lt key (G arr (base+i)))
    (mono:∀i j,i<=j->j<n->B j=true->B i=true) (hh:hint<n)
    (h:∀k,k<=n->(∀i,i<k->B i=true)->(∀i,k<=i->i<n->B i=false)->Q (some k) st):wpS (model prog w) A E s (gal left key arr base n hint) Q st:=by
  have mono' : ∀i j,i<=j->j < n->B i=false->B j=false:=fun i j h1 h2 h3=>by
    cases q:B j with
    |false=>rfl
    |true=>rw[mono i j h1 h2 q] at h3;cases h3
  let beyond:Nat->StateT SortSt Sem (Option Bool):=fun i=>do
    let x <- elem' arr (base+i)
    if left=true then lt' x key else do
      let r <- lt' key x
      pure (r.map (!·))
  have hb:∀(i:Nat) (R:Option Bool->SortSt->Prop),i < n->R (some (B i)) st->wpS (model prog w) A E s (beyond i) R st:=fun i R hi hR=>by
    refine Am (za3 #v[] ?_);have e:=hB i hi;cases left with
    | true =>
      rw[if_pos rfl] at e;rw[if_pos rfl];exact C _ _ _ _ (hm i hi) hkey hk (by rw[<-e];exact hR)
    | false =>
      rw[if_neg #v[0,9]] at e;rw[if_neg #v[0,9]];exact Am (C _ _ _ _ hkey (hm i hi) hk (Ar (by show R (some (!lt key (G arr (base+i)))) st;rw[<-e];exact hR)))
  show wpS (model prog w) A E s (do let o <- beyond hint;_) Q st;refine Am (hb _ _ hh ?_);cases q:B hint with
  | true =>
    refine Am (Dw (Cj (I:=fun x c st'=>st'=st/\∃l o,c=(none,l,o)/\l < o/\x < o/\hint+l < n/\B (hint+l)=true)
      (Q:=λc st'=>st'=st/\∃l o,c=(none,l,o)/\l<o/\hint+l<n/\B (hint+l)=true/\(n - hint<=o\/hint+o<n/\B (hint+o)=false)) ?step ?fin ⟨rfl,0,1,rfl,by omega,by omega,by omega,q⟩) ?post)
    case fin =>
      rintro c st' ⟨rfl,l,o,rfl,a1,a2,a3,a4⟩;exact⟨rfl,l,o,rfl,a1,a3,a4,.inl #v[]⟩
    case step =>
      rintro x c st' _ hx ⟨rfl,l,o,rfl,a1,a2,a3,a4⟩;dsimp only;by_cases g:o ≥ n - hint
      · rw [if_pos g]
        exact Ar ⟨rfl,l,o,rfl,a1,a3,a4,.inl g⟩
      · rw [if_neg g]
        refine Am (hb _ _ #v[] ?_);cases q2:B (hint+o) with
        | true =>
          dsimp only;rw[if_neg #v[0,9]];exact Ar ⟨rfl,o,2 * o+1,rfl,by omega,by omega,by omega,q2⟩
        | false =>
          dsimp only;rw[if_pos #v[0,9]];exact Ar ⟨rfl,l,o,rfl,a1,a3,a4,.inr ⟨by omega,q2⟩⟩
    case post =>
      rintro c st' ⟨rfl,l,o,rfl,a1,a3,a4,a5⟩;dsimp only;refine Am (Dw (Cj (I:=fun x c st''=>st''=st'/\∃lo hi,c=(none,lo,hi)/\lo<=hi/\hi<=n/\hi - lo<=n - x/\(∀i,i < lo->B i=true)/\∀i,hi<=i->i < n->B i=false)
        (Q:=λc st''=>st''=st'/\∃lo hi,c=(none,lo,hi)/\lo=hi/\hi<=n/\(∀i,i<lo->B i=true)/\∀i,hi<=i->i<n->B i=false) ?s3 ?f3 ⟨rfl,hint+l+1,hint+min o (n - hint),rfl,by omega,by omega,by omega,λi hi=>mono i _ #v[] a3 a4,λi h1 h2=>a5.elim (λa5=>by omega) λa5=>mono' _ i #v[] h2 a5.2⟩) ?p3)
      case f3 =>
        rintro c st'' ⟨rfl,lo,hi,rfl,a1,a2,a3,a4,a5⟩;exact⟨rfl,lo,hi,rfl,by omega,a2,a4,a5⟩
      case s3 =>
        rintro x c st'' _ hx ⟨rfl,lo,hi,rfl,a1,a2,a3,a4,a5⟩;dsimp only;by_cases g:lo ≥ hi
        · rw [if_pos g]
          exact Ar ⟨rfl,lo,hi,rfl,by omega,a2,a4,a5⟩
        · rw [if_neg g]
          refine Am (hb _ _ #v[] ?_);cases q:B (lo+(hi - lo) / 2) with
          | true =>
            dsimp only;rw[if_pos rfl];refine Ar ⟨rfl,lo+(hi - lo) / 2+1,hi,rfl,by omega,a2,by omega,λi hi'=>?_,a5⟩;exact mono i _ #v[] #v[] q
          | false =>
            dsimp only;rw[if_neg #v[0,9]];refine Ar ⟨rfl,lo,lo+(hi - lo) / 2,rfl,by omega,by omega,by omega,a4,λi h1 h2=>?_⟩;exact mono' _ i h1 h2 q
      case p3 =>
        rintro c st'' ⟨rfl,lo,hi,rfl,rfl,a2,a4,a5⟩;exact Ar (h lo a2 a4 a5)
  | false =>
    refine Am (Dw (Cj (I:=fun x c st'=>st'=st/\∃l o,c=(none,l,o)/\l < o/\x < o/\l<=hint/\B (hint - l)=false)
      (Q:=λc st'=>st'=st/\∃l o,c=(none,l,o)/\l<o/\l<=hint/\B (hint - l)=false/\(hint+1<=o\/o<=hint/\B (hint - o)=true)) ?step ?fin ⟨rfl,0,1,rfl,by omega,by omega,by omega,q⟩) ?post)
    case fin =>
      rintro c st' ⟨rfl,l,o,rfl,a1,a2,a3,a4⟩;exact⟨rfl,l,o,rfl,a1,a3,a4,.inl #v[]⟩
    case step =>
      rintro x c st' _ hx ⟨rfl,l,o,rfl,a1,a2,a3,a4⟩;dsimp only;by_cases g:o ≥ hint+1
      · rw [if_pos g]
        exact Ar ⟨rfl,l,o,rfl,a1,a3,a4,.inl g⟩
      · rw [if_neg g]
        refine Am (hb _ _ #v[] ?_);cases q2:B (hint - o) with
        | true =>
          dsimp only;rw[if_pos rfl];exact Ar ⟨rfl,l,o,rfl,a1,a3,a4,.inr ⟨by omega,q2⟩⟩
        | false =>
          dsimp only;rw[if_neg #v[0,9]];exact Ar ⟨rfl,o,2 * o+1,rfl,by omega,by omega,by omega,q2⟩
    case post =>
      rintro c st' ⟨rfl,l,o,rfl,a1,a3,a4,a5⟩;dsimp only;refine Am (Dw (Cj (I:=fun x c st''=>st''=st'/\∃lo hi,c=(none,lo,hi)/\lo<=hi/\hi<=n/\hi - lo<=n - x/\(∀i,i < lo->B i=true)/\∀i,hi<=i->i < n->B i=false)
        (Q:=λc st''=>st''=st'/\∃lo hi,c=(none,lo,hi)/\lo=hi/\hi<=n/\(∀i,i<lo->B i=true)/\∀i,hi<=i->i<n->B i=false) ?s4 ?f4 ⟨rfl,hint+1 - min o (hint+1),hint - l,rfl,by omega,by omega,by omega,λi hi=>a5.elim (λa5=>by omega) λa5=>mono i _ #v[] #v[] a5.2,λi h1 h2=>mono' _ i h1 h2 a4⟩) ?p4)
      case f4 =>
        rintro c st'' ⟨rfl,lo,hi,rfl,a1,a2,a3,a4,a5⟩;exact⟨rfl,lo,hi,rfl,by omega,a2,a4,a5⟩
      case s4 =>
        rintro x c st'' _ hx ⟨rfl,lo,hi,rfl,a1,a2,a3,a4,a5⟩;dsimp only;by_cases g:lo ≥ hi
        · rw [if_pos g]
          exact Ar ⟨rfl,lo,hi,rfl,by omega,a2,a4,a5⟩
        · rw [if_neg g]
          refine Am (hb _ _ #v[] ?_);cases q:B (lo+(hi - lo) / 2) with
          | true =>
            dsimp only;rw[if_pos rfl];refine Ar ⟨rfl,lo+(hi - lo) / 2+1,hi,rfl,by omega,a2,by omega,λi hi'=>?_,a5⟩;exact mono i _ #v[] #v[] q
          | false =>
            dsimp only;rw[if_neg #v[0,9]];refine Ar ⟨rfl,lo,lo+(hi - lo) / 2,rfl,by omega,by omega,by omega,a4,λi h1 h2=>?_⟩;exact mono' _ i h1 h2 q
      case p4 =>
        rintro c st'' ⟨rfl,lo,hi,rfl,rfl,a2,a4,a5⟩;exact Ar (h lo a2 a4 a5)
end
end Tim
namespace Tim
noncomputable def Srt (le:Keyed->Keyed->Prop) (xs:Array Keyed) (lo hi:Nat):Prop:=∀i j,lo<=i->i<j->j<hi->le (G xs i) (G xs j)
noncomputable def Cut (bf:Keyed->Keyed->Prop) (xs:Array Keyed) (c:Nat):Prop:=∀i j,i<c->c<=j->j<xs.size->bf (G xs i) (G xs j)
structure Re (xs ys:Array Keyed) (lo hi:Nat):Prop where
 perm:ys.Perm xs
 out:∀i,i<lo\/hi<=i->G ys i=G xs i
 inn:∀i,lo<=i->i<hi->∃j,lo<=j/\j<hi/\G ys i=G xs j
theorem Re.refl (xs:Array Keyed)(lo hi:Nat):Re xs xs lo hi:=⟨.refl _,λ_ _=>rfl,λi h1 h2=>⟨i,h1,h2,rfl⟩⟩
theorem Re.trans {xs ys zs:Array Keyed}{lo hi:Nat}(a:Re xs ys lo hi)(b:Re ys zs lo hi):Re xs zs lo hi :=
 ⟨b.perm.trans a.perm,λi h=>(b.out i h).trans (a.out i h),λi h1 h2=>by
  obtain⟨j,g1,g2,e⟩:=b.inn i h1 h2;obtain⟨k,k1,k2,e'⟩:=a.inn j g1 g2;exact⟨k,k1,k2,e.trans e'⟩⟩
theorem Re.mono {xs ys:Array Keyed}{lo hi lo' hi' : Nat}(a:Re xs ys lo hi)(h1:lo'<=lo)(h2:hi<=hi'):Re xs ys lo' hi' :=
 ⟨a.perm,λi h=>a.out i #v[],λi g1 g2=>by
  by_cases c:lo<=i/\i<hi
  ·obtain⟨j,k1,k2,e⟩:=a.inn i c.1 c.2;exact⟨j,by omega,by omega,e⟩
  ·exact⟨i,g1,g2,a.out i #v[]⟩⟩
theorem Re.size {xs ys:Array Keyed}{lo hi:Nat}(a:Re xs ys lo hi):ys.size=xs.size:=a.perm.size_eq
theorem Cut.re {bf:Keyed->Keyed->Prop}{xs ys:Array Keyed}{lo hi c:Nat}(h:Cut bf xs c)(a:Re xs ys lo hi)(hs:hi<=xs.size)(hc:c<=lo\/hi<=c):Cut bf ys c:=λi j h1 h2 h3=>by
 have e:=a.size;have wi:∃i',i' < c/\G ys i=G xs i':=by
  by_cases k:lo<=i/\i<hi
  ·obtain⟨i', g1,g2,e⟩:=a.inn i k.1 k.2;exact⟨i',by omega,e⟩
  ·exact⟨i,h1,a.out i #v[]⟩
 have wj:∃j',c<=j'/\j' < xs.size/\G ys j=G xs j':=by
  by_cases k:lo<=j/\j<hi
  ·obtain⟨j', g1,g2,e⟩:=a.inn j k.1 k.2;exact⟨j',by omega,by omega,e⟩
  ·exact⟨j,h2,by omega,a.out j #v[]⟩
 obtain⟨i',e1,e2⟩:=wi;obtain⟨j',e3,e4,e5⟩:=wj;rw[e2,e5];exact h i' j' e1 e3 e4
theorem Srt.re {le:Keyed->Keyed->Prop}{xs ys:Array Keyed}{lo hi a b:Nat}(h:Srt le xs a b)(r:Re xs ys lo hi)(hc:b<=lo\/hi<=a):Srt le ys a b:=λi j h1 h2 h3=>by
 rw[r.out i #v[],r.out j #v[]];exact h i j h1 h2 h3
noncomputable def mir (xs:Array Keyed) (i j:Nat):Array Keyed:=mirror xs i j ((j - i) / 2)
theorem zib {xs:Array Keyed}{i j:Nat}(hj:j<=xs.size)(k:Nat):G (mir xs i j) k=if i<=k/\k<j then G xs (i+j - 1 - k) else G xs k:=by
 have e:=getElem?_mirror_all (i:=i) hj k;unfold mir;by_cases h1:i<=k/\k<j
 ·rw[if_pos h1] at e ⊢;exact zgs e
 ·rw[if_neg h1] at e ⊢;exact zgs e
theorem Re.mir {xs:Array Keyed}{i j:Nat}(hj:j<=xs.size):Re xs (mir xs i j) i j :=
 ⟨mirror_perm _ _ _ _,λk h=>by rw[zib hj,if_neg #v[]],λk h1 h2=>⟨i+j - 1 - k,by omega,by omega,by rw[zib hj,if_pos ⟨h1,h2⟩]⟩⟩
theorem z1h {xs:Array Keyed}{src d:Nat}(hs:src<xs.size)(hd:d<=src)(k:Nat):G (bubble xs src d) k=if k=src - d then G xs src else if src - d<k/\k<=src then G xs (k - 1) else G xs k:=by
 have e:=getElem?_bubble hs d hd k;by_cases h1:k=src - d
 ·rw[if_pos h1] at e ⊢;exact zgs e
 ·rw[if_neg h1] at e ⊢;by_cases h2:src - d<k/\k<=src
  ·rw[if_pos h2] at e ⊢;exact zgs e
  ·rw[if_neg h2] at e ⊢;exact zgs e
theorem Re.bub {xs:Array Keyed}{src d:Nat}(hs:src<xs.size)(hd:d<=src):Re xs (bubble xs src d) (src - d) (src+1) :=
 ⟨bubble_perm _ _ _,λk h=>by rw[z1h hs hd,if_neg #v[],if_neg #v[]],λk h1 h2=>by
  rw[z1h hs hd];by_cases c:k=src - d
  ·exact⟨src,by omega,by omega,by rw[if_pos c]⟩
  ·exact⟨k - 1,by omega,by omega,by rw[if_neg c,if_pos ⟨by omega,by omega⟩]⟩⟩
structure SI (κ:SortKind) (a₀:Array Keyed) (pd:Array (Nat × Nat × Nat)) (st:SortSt):Prop where
 kind:kindOf st=κ
 failed:failedOf st=none
 perm:(arrOf st).Perm a₀
 pend:pendingOf st=pd
theorem SI.size {κ a₀ pd st}(h:SI κ a₀ pd st):(arrOf st).size=a₀.size:=h.perm.size_eq
theorem SI.set {κ a₀ pd st}(h:SI κ a₀ pd st){ys:Array Keyed}(p:ys.Perm (arrOf st)):SI κ a₀ pd (setArr st ys):=⟨h.kind,h.failed,p.trans h.perm,h.pend⟩
section
variable {prog:Program}{w:World}{A:Around}{E:Value->Shared->Prop}{s:Shared}{κ:SortKind}{a₀:Array Keyed}{lt:Keyed->Keyed->Bool}{bf le:Keyed->Keyed->Prop}{st:SortSt}{pd:Array (Nat × Nat × Nat)}
theorem z1n {i j:Nat}{Q:Unit->SortSt->Prop}(h:Q () (setArr st (mir (arrOf st) i j))):wpS (model prog w) A E s (reverseSlice' i j) Q st:=by
 rw[reverseSlice'_eq];exact wpS_modify h
theorem z8r {i j:Nat}{Q:Unit->SortSt->Prop}(h:Q () (setArr st (bubble (arrOf st) i (i - j)))):wpS (model prog w) A E s (moveDown' i j) Q st:=by
 rw[moveDown'_eq];exact wpS_modify h
theorem grp (O:Ord lt bf le) {xs ys:Array Keyed}{lo n c:Nat} (c1:lo<=c) (c2:c < lo+n) (hy:∀k,G ys k=if c<=k/\k < lo+n then G xs (c+(lo+n) - 1 - k) else G xs k)
  (d1:∀i j,lo<=i->i<j->j<c->le (G xs j) (G xs i)) (d2:∀i j,lo<=i->i<c->c<=j->j<lo+n->lt (G xs j) (G xs i)=true)
  (d3:∀i j,c<=i->i<j->j<lo+n->le (G xs i) (G xs j)) (d4:∀i j,c<=i->i<lo+n->c<=j->j<lo+n->lt (G xs i) (G xs j)=false) :
  (∀i j,lo<=i->i<j->j<lo+n->le (G ys j) (G ys i))/\∀y,lt y (G xs (lo+n - 1))=true->∀i,lo<=i->i<lo+n->lt y (G ys i)=true:=by
 constructor
 ·intro i j h1 h2 h3;rw[hy i,hy j];by_cases a:j<c
  ·rw[if_neg #v[],if_neg #v[]];exact d1 i j h1 h2 a
  ·rw[if_pos ⟨by omega,h3⟩];by_cases b:i<c
   ·rw[if_neg #v[]];exact O.f2 (d2 i _ h1 b #v[] #v[])
   ·rw[if_pos ⟨by omega,by omega⟩];exact d3 _ _ #v[] #v[] #v[]
 ·intro y h i h1 h2;rw[hy i];by_cases b:c<=i/\i<lo+n
  ·rw[if_pos b];exact (O.nt _ h).resolve_right (λq=>by rw[d4 _ _ #v[] #v[] #v[] #v[]] at q;cases q)
  ·rw[if_neg b];exact O.ltr h (d2 i _ h1 #v[] #v[] #v[])
structure DI (lt:Keyed->Keyed->Bool) (le:Keyed->Keyed->Prop) (lo n neq:Nat) (xs:Array Keyed):Prop where
 nq:neq+1<=n
 d1:∀i j,lo<=i->i<j->j<lo+n - (neq+1)->le (G xs j) (G xs i)
 d2:∀i j,lo<=i->i<lo+n - (neq+1)->lo+n - (neq+1)<=j->j<lo+n->lt (G xs j) (G xs i)=true
 d3:∀i j,lo+n - (neq+1)<=i->i<j->j<lo+n->le (G xs i) (G xs j)
 d4:∀i j,lo+n - (neq+1)<=i->i<lo+n->lo+n - (neq+1)<=j->j<lo+n->lt (G xs i) (G xs j)=false
theorem DI.turn (O:Ord lt bf le) {lo n neq:Nat}{xs:Array Keyed} (d:DI lt le lo n neq xs) (hz:lo+n<=xs.size) :
  (∀i j,lo<=i->i<j->j<lo+n->le (G (mir xs (lo+n - (neq+1)) (lo+n)) j) (G (mir xs (lo+n - (neq+1)) (lo+n)) i))/\∀y,lt y (G xs (lo+n - 1))=true->∀i,lo<=i->i<lo+n->lt y (G (mir xs (lo+n - (neq+1)) (lo+n)) i)=true :=
 grp O (by have:=d.nq;omega) (by have:=d.nq;omega) (λk=>zib hz k) d.d1 d.d2 d.d3 d.d4
theorem DI.turn0 (O:Ord lt bf le) {lo n:Nat}{xs:Array Keyed} (d:DI lt le lo n 0 xs) :
  (∀i j,lo<=i->i<j->j<lo+n->le (G xs j) (G xs i))/\∀y,lt y (G xs (lo+n - 1))=true->∀i,lo<=i->i<lo+n->lt y (G xs i)=true :=
 grp (c:=lo+n - 1) O (by have:=d.nq;omega) (by have:=d.nq;omega) (λk=>by
  split
  ·congr 1;omega
  ·rfl) d.d1 d.d2 d.d3 d.d4
theorem DI.next (O:Ord lt bf le){lo n:Nat}{xs:Array Keyed}(h:∀i j,lo<=i->i<j->j<lo+n->le (G xs j) (G xs i))(h2:∀i,lo<=i->i<lo+n->lt (G xs (lo+n)) (G xs i)=true):DI lt le lo (n+1) 0 xs :=
 ⟨by omega,λi j a b c=>h i j a b #v[],λi j a b c d=>by
  have e:j=lo+n:=by omega
  rw[e];exact h2 i a #v[],λi j a b c=>by omega,λi j a b c d=>by
  have e:j=i:=by omega
  rw[e];exact O.irr _⟩
theorem DI.like (O:Ord lt bf le) {lo n neq:Nat}{xs:Array Keyed} (d:DI lt le lo n neq xs) (hb:∀i,lo<=i->i < lo+n->bf (G xs i) (G xs (lo+n))) (q1:lt (G xs (lo+n)) (G xs (lo+n - 1))=false) (q2:lt (G xs (lo+n - 1)) (G xs (lo+n))=false):DI lt le lo (n+1) (neq+1) xs:=by
  have nq:=d.nq;have ec:lo+(n+1) - (neq+1+1)=lo+n - (neq+1):=by omega
  have t1:∀i,lo+n - (neq+1)<=i->i < lo+n->lt (G xs (lo+n)) (G xs i)=false:=fun i a b=>by
    cases q:lt (G xs (lo+n)) (G xs i) with
    |false=>rfl
    | true =>
      rcases O.nt (G xs (lo+n - 1)) q with z|z
      · rw[q1] at z;cases z
      · rw[d.d4 _ _ #v[] #v[] a b] at z;cases z
  have t2:∀i,lo+n - (neq+1)<=i->i < lo+n->lt (G xs i) (G xs (lo+n))=false:=fun i a b=>by
    cases q:lt (G xs i) (G xs (lo+n)) with
    |false=>rfl
    | true =>
      rcases O.nt (G xs (lo+n - 1)) q with z|z
      · rw[d.d4 _ _ a b #v[] #v[]] at z;cases z
      · rw[q2] at z;cases z
  refine⟨by omega,?_,?_,?_,?_⟩<;>rw[ec]
  · exact d.d1
  · intro i j a b c e
    by_cases k:j<lo+n
    · exact d.d2 i j a b c k
    · have ej : j = lo + n := by omega
      rw[ej];exact (O.nt (G xs (lo+n)) (d.d2 i (lo+n - 1) a b #v[] #v[])).resolve_left (λz=>by rw[q2] at z;cases z)
  · intro i j a b c
    by_cases k:j<lo+n
    · exact d.d3 i j a b k
    · have ej : j = lo + n := by omega
      rw[ej];exact (O.f1 (hb i #v[] #v[])).mp (t1 i a #v[])
  · intro i j a b c e
    by_cases k:j<lo+n
    · by_cases k2 : i < lo + n
      · exact d.d4 i j a k2 c k
      · have ei : i = lo + n := by omega
        rw[ei];exact t1 j c k
    · have ej : j = lo + n := by omega
      rw[ej];by_cases k2:i<lo+n
      · exact t2 i a k2
      · have ei : i = lo + n := by omega
        rw[ei];exact O.irr _
theorem z9t {α:Type}{c:Prop} [Decidable c] {x y:StateT SortSt Sem α}{Q:α->SortSt->Prop}{T:SortSt->Prop}(h:∀s3,T s3->wpS (model prog w) A E s y Q s3)(h0:¬ c->T st)(h1:c->(∀s3,T s3->wpS (model prog w) A E s y Q s3)->wpS (model prog w) A E s x Q st):wpS (model prog w) A E s (if c then x else y) Q st:=by
 by_cases k:c
 ·rw[if_pos k];exact h1 k h
 ·rw[if_neg k];exact h st (h0 k)
theorem z5y (C:Asks prog w A E s κ a₀ lt) (O:Ord lt bf le) {lo nrem:Nat}{Q:Option Nat->SortSt->Prop} (I:SI κ a₀ pd st) (hsz:lo+nrem<=a₀.size) (h1:1<=nrem) (hc:∀c,lo<=c->Cut bf (arrOf st) c)
    (h:∀m st',SI κ a₀ pd st'->1<=m->m<=nrem->Re (arrOf st) (arrOf st') lo (lo+m)->Srt le (arrOf st') lo (lo+m)->Q (some m) st'):wpS (model prog w) A E s (countRun' lo nrem) Q st:=by
  have sz:=I.size;rw [countRun'_eq];refine Am (Dw (Cj (I:=fun x c s2=>s2=st/\c=(none,x)/\1<=x/\x<=nrem/\Srt le (arrOf st) lo (lo+x))
    (Q:=λc s2=>s2=st/\∃k,c=(none,k)/\1<=k/\k<=nrem/\Srt le (arrOf st) lo (lo+k)/\(k=nrem\/lt (G (arrOf st) (lo+k)) (G (arrOf st) (lo+k - 1))=true)) ?as1 ?af1 ⟨rfl,rfl,Ad _,h1,(λi j g1 g2 g3=>by omega)⟩) ?ap1)
  case af1 =>
    rintro c s2 ⟨e2,rfl,a0,a1,a2⟩;rw[show max 1 nrem=nrem by omega] at *
    exact⟨e2,nrem,rfl,by omega,Ad _,a2,.inl rfl⟩
  case as1 =>
    rintro x c s2 b1 b2 ⟨e2,rfl,a0,a1,a2⟩;subst e2;dsimp only;refine Am (zi7 C I.kind I.perm #v[] #v[] ?_);cases q:lt (G (arrOf s2) (lo+x)) (G (arrOf s2) (lo+x - 1)) with
    | true =>
      dsimp only;rw[if_pos rfl];exact Ar ⟨rfl,x,rfl,a0,a1,a2,.inr q⟩
    | false =>
      dsimp only;rw[if_neg #v[0,9]];refine Ar ⟨rfl,rfl,by omega,by omega,λi j h1 h2 h3=>?_⟩;by_cases hj:j<lo+x
      · exact a2 i j h1 h2 hj
      · have ej : j = lo + x := by omega
        subst ej;have b:le (G (arrOf s2) (lo+x - 1)) (G (arrOf s2) (lo+x)):=(O.f1 (hc (lo+x) #v[] (lo+x - 1) (lo+x) #v[] (Ad _) (by rw[I.size];omega))).mp q;by_cases hi:i=lo+x - 1
        · rw[hi];exact b
        · exact O.tr (a2 i (lo+x - 1) h1 #v[] #v[]) b
  case ap1 =>
    rintro c s2 ⟨e2,n,rfl,a0,a1,a2,a3⟩;subst e2;dsimp only;by_cases en:n=nrem
    · rw [if_pos (by simpa using en)]
      exact Ar (h n s2 I a0 a1 (.refl _ _ _) a2)
    · rw [if_neg (by simpa using en)]
      have q3:=a3.resolve_left en;refine z9t (T:=λs3=>SI κ a₀ pd s3/\Re (arrOf s2) (arrOf s3) lo (lo+(n+1))/\DI lt le lo (n+1) 0 (arrOf s3)) (λs3 ⟨I3,R3,D3⟩=>?main) (λn1=>?no) (λn1 H=>?yes)
      case yes =>
        refine Am (zi7 C I.kind I.perm #v[] #v[] ?_);cases q:lt (G (arrOf s2) lo) (G (arrOf s2) (lo+n - 1)) with
        | true =>
          dsimp only;rw[if_pos rfl];exact Ar (h n s2 I a0 a1 (.refl _ _ _) a2)
        | false =>
          dsimp only;rw [if_neg (by decide)];refine Am (z1n ?_);have lk:∀i,lo<=i->i < lo+n->lt (G (arrOf s2) (lo+n)) (G (arrOf s2) i)=true:=fun i g1 g2=>by
            have z1:lt (G (arrOf s2) i) (G (arrOf s2) (lo+n - 1))=false:=by
              cases z:lt (G (arrOf s2) i) (G (arrOf s2) (lo+n - 1)) with
              |false=>rfl
              | true =>
                rcases O.nt (G (arrOf s2) lo) z with y|y
                · by_cases ei : i = lo
                  · rw[ei,O.irr] at y;cases y
                  · have := O.f3 (hc i g1 lo i (by omega) (Ad _) (by omega)) y
                    exact absurd (a2 lo i (Ad _) #v[] g2) this
                · rw[q] at y;cases y
            exact (O.nt _ q3).resolve_right (λy=>by rw[z1] at y;cases y)
          obtain ⟨s3,e3,I3,R3,D3⟩ : ∃s3,s3=(setArr s2 (mir (arrOf s2) lo (lo+n)))/\SI κ a₀ pd s3/\Re (arrOf s2) (arrOf s3) lo (lo+(n+1))/\DI lt le lo (n+1) 0 (arrOf s3):=⟨_,rfl,I.set (Re.mir (by omega)).perm,(Re.mir (by omega)).mono (Ad _) (by omega),DI.next O (fun i j g1 g2 g3=>by
                      show le (G (mir (arrOf s2) lo (lo+n)) j) (G (mir (arrOf s2) lo (lo+n)) i);rw[zib #v[],zib #v[],if_pos ⟨by omega,by omega⟩,if_pos ⟨by omega,by omega⟩];exact a2 _ _ #v[] #v[] #v[]) (λi g1 g2=>by
                      show lt (G (mir (arrOf s2) lo (lo+n)) (lo+n)) (G (mir (arrOf s2) lo (lo+n)) i)=true;rw[zib #v[],zib #v[],if_neg #v[],if_pos ⟨by omega,by omega⟩];exact lk _ #v[] #v[])⟩
          rw[<-e3];exact H s3 ⟨I3,R3,D3⟩
      case no =>
        have en1:n=1:=by omega
        subst en1;exact ⟨I,.refl _ _ _,DI.next O (fun i j g1 g2 g3=>by omega) (fun i g1 g2=>by
          have ei:i=lo:=by omega
          rw[ei];exact q3)⟩
      case main =>
        refine Am (wpS_lift (Fw ⟨rfl,?_⟩));refine Am (Dw (Cj (I:=fun x c s4=>∃neq,c=(none,x,neq)/\n+1<=x/\x<=nrem/\SI κ a₀ pd s4/\Re (arrOf s2) (arrOf s4) lo (lo+x)/\DI lt le lo x neq (arrOf s4))
          (Q:=λc s4=>∃m neq,c=(none,m,neq)/\n+1<=m/\m<=nrem/\SI κ a₀ pd s4/\Re (arrOf s2) (arrOf s4) lo (lo+m)/\DI lt le lo m neq (arrOf s4)) ?dsd1 ?dfd1 ⟨0,rfl,Ad _,by omega,I3,R3,D3⟩) ?dpd1)
        case dfd1 =>
          rintro c s4 ⟨neq,rfl,b0,b1,b2,b3,b4⟩;have e:max (n+1) nrem=nrem:=by omega
          rw[e] at b0 b1 b3 b4 ⊢;exact⟨nrem,neq,rfl,b0,b1,b2,b3,b4⟩
        case dsd1 =>
          rintro x c s4 g1 g2 ⟨neq,rfl,b0,b1,I4,R4,D4⟩;dsimp only;have z4:=I4.size;have cut4:∀c,lo+x<=c->Cut bf (arrOf s4) c:=λc hc'=>(hc c #v[]).re R4 #v[] (.inr hc');refine Am (zi7 C I4.kind I4.perm #v[] #v[] ?_);cases q5:lt (G (arrOf s4) (lo+x)) (G (arrOf s4) (lo+x - 1)) with
          | true =>
            dsimp only;rw[if_pos rfl];by_cases nq:neq > 0
            · rw [if_pos nq]
              refine Am (z1n (Ar ⟨0,rfl,by omega,by omega,I4.set (Re.mir #v[]).perm,(R4.trans ((Re.mir #v[]).mono (by have:=D4.nq;omega) (Ad _))).mono (Ad _) #v[],?_⟩));obtain⟨t1,t2⟩:=D4.turn O #v[];refine DI.next O t1 λi k1 k2=>?_;have:=t2 _ q5 i k1 k2;show lt (G (mir (arrOf s4) (lo+x - (neq+1)) (lo+x)) (lo+x)) _=true;rw[zib #v[],if_neg #v[]];exact this
            · rw [if_neg nq]
              have e0:neq=0:=by omega
              subst e0;obtain⟨t1,t2⟩:=D4.turn0 O;exact Ar ⟨0,rfl,by omega,by omega,I4,R4.mono (Ad _) #v[],DI.next O t1 λi k1 k2=>t2 _ q5 i k1 k2⟩
          | false =>
            dsimp only;rw[if_neg #v[0,9]];refine Am (zi7 C I4.kind I4.perm #v[] #v[] ?_);cases q6:lt (G (arrOf s4) (lo+x - 1)) (G (arrOf s4) (lo+x)) with
            | true =>
              dsimp only;rw[if_pos rfl];exact Ar ⟨x,neq,rfl,b0,b1,I4,R4,D4⟩
            | false =>
              dsimp only;rw[if_neg #v[0,9]];exact Ar ⟨neq+1,rfl,by omega,by omega,I4,R4.mono (Ad _) #v[],D4.like O (λi k1 k2=>cut4 (lo+x) (Ad _) i (lo+x) k2 (Ad _) #v[]) q5 q6⟩
        case dpd1 =>
          rintro c s4 ⟨n,neq,rfl,b0,n2,I4,R4,D4⟩;dsimp only;have z4:=I4.size;refine z9t (T:=λs6=>SI κ a₀ pd s6/\Re (arrOf s2) (arrOf s6) lo (lo+n)/\∀i j,lo<=i->i<j->j<lo+n->le (G (arrOf s6) j) (G (arrOf s6) i)) (λs6 ⟨I6,R6,t1⟩=>?tl) (λnq=>?tn) (λnq H=>?ty)
          case ty =>
            refine Am (z1n ?_);have I6:SI κ a₀ pd (setArr s4 (mir (arrOf s4) (lo+n - (neq+1)) (lo+n))):=I4.set (Re.mir #v[]).perm;have R6:Re (arrOf s2) (mir (arrOf s4) (lo+n - (neq+1)) (lo+n)) lo (lo+n):=R4.trans ((Re.mir #v[]).mono (by have:=D4.nq;omega) (Ad _));have t1:=(D4.turn O #v[]).1;exact H _ ⟨I6,R6,t1⟩
          case tn =>
            have e0:neq=0:=by omega
            subst e0;exact⟨I4,R4,(D4.turn0 O).1⟩
          case tl =>
            have z6:=I6.size;refine Am (z1n ?_);have I5:SI κ a₀ pd (setArr s6 (mir (arrOf s6) lo (lo+n))):=I6.set (Re.mir (by omega)).perm;have R5:Re (arrOf s2) (mir (arrOf s6) lo (lo+n)) lo (lo+n):=R6.trans (Re.mir (by omega));have z5:Srt le (mir (arrOf s6) lo (lo+n)) lo (lo+n):=fun i j h1 h2 h3=>by
              rw[zib #v[],zib #v[],if_pos ⟨by omega,by omega⟩,if_pos ⟨by omega,by omega⟩];exact t1 _ _ #v[] #v[] #v[]
            have ea:mir (arrOf s6) lo (lo+n)=arrOf (setArr s6 (mir (arrOf s6) lo (lo+n))):=rfl
            revert I5 R5 z5
            rw [ea];generalize (setArr s6 (mir (arrOf s6) lo (lo+n)))=s5;intro I5 R5 z5;have hz5:=I5.size;have hc5:∀c,lo+n<=c->Cut bf (arrOf s5) c:=fun c hc'=>(hc c (by omega)).re R5 (by omega) (.inr hc');refine Am (Dw (Cj (I:=fun x c s2=>s2=s5/\c=(none,x)/\n<=x/\x<=nrem/\Srt le (arrOf s5) lo (lo+x))
              (Q:=λc s2=>s2=s5/\∃k,c=(none,k)/\n<=k/\k<=nrem/\Srt le (arrOf s5) lo (lo+k)/\(k=nrem\/lt (G (arrOf s5) (lo+k)) (G (arrOf s5) (lo+k - 1))=true)) ?asd11 ?afd11 ⟨rfl,rfl,Ad _,n2,z5⟩) ?apd11)
            case afd11 =>
              rintro c s2 ⟨e2,rfl,y0,y1,a2⟩;rw[show max n nrem=nrem by omega] at *
              exact⟨e2,nrem,rfl,by omega,Ad _,a2,.inl rfl⟩
            case asd11 =>
              rintro x c s2 b1 b2 ⟨e2,rfl,y0,y1,a2⟩;subst e2;dsimp only;refine Am (zi7 C I5.kind I5.perm #v[] #v[] ?_);cases q:lt (G (arrOf s2) (lo+x)) (G (arrOf s2) (lo+x - 1)) with
              | true =>
                dsimp only;rw[if_pos rfl];exact Ar ⟨rfl,x,rfl,y0,y1,a2,.inr q⟩
              | false =>
                dsimp only;rw[if_neg #v[0,9]];refine Ar ⟨rfl,rfl,by omega,by omega,λi j h1 h2 h3=>?_⟩;by_cases hj:j<lo+x
                · exact a2 i j h1 h2 hj
                · have ej : j = lo + x := by omega
                  subst ej;have b:le (G (arrOf s2) (lo+x - 1)) (G (arrOf s2) (lo+x)):=(O.f1 (hc5 (lo+x) #v[] (lo+x - 1) (lo+x) #v[] (Ad _) (by rw[I5.size];omega))).mp q;by_cases hi:i=lo+x - 1
                  · rw[hi];exact b
                  · exact O.tr (a2 i (lo+x - 1) h1 #v[] #v[]) b
            case apd11 =>
              rintro c s7 ⟨e7,m,rfl,y0,y1,y2,y3⟩;subst e7;exact Ar (h m s7 I5 #v[] y1 (R5.mono (Ad _) #v[]) y2)
end
end Tim
namespace Tim
section
variable {prog:Program}{w:World}{A:Around}{E:Value->Shared->Prop}{s:Shared}{κ:SortKind}{a₀:Array Keyed}{lt:Keyed->Keyed->Bool}{bf le:Keyed->Keyed->Prop}{st:SortSt}{pd:Array (Nat × Nat × Nat)}
theorem ydf (C:Asks prog w A E s κ a₀ lt) (O:Ord lt bf le) {lo n ok:Nat}{Q:Bool->SortSt->Prop} (I:SI κ a₀ pd st) (hsz:lo+n<=a₀.size) (hok:ok<=n) (h1:1<=ok) (hs:Srt le (arrOf st) lo (lo+ok)) (hc:∀c,lo+ok<=c->Cut bf (arrOf st) c)
    (h:∀st',SI κ a₀ pd st'->Re (arrOf st) (arrOf st') lo (lo+n)->Srt le (arrOf st') lo (lo+n)->Q true st'):wpS (model prog w) A E s (binarySort' lo n ok) Q st:=by
  have sz:=I.size;rw[binarySort'_eq];have em:max ok 1=ok:=by omega
  rw [em];refine Am (Dw (Cj (I:=fun k c s2=>c=(none,())/\ok<=k/\k<=n/\SI κ a₀ pd s2/\Re (arrOf st) (arrOf s2) lo (lo+k)/\Srt le (arrOf s2) lo (lo+k))
    (Q:=λc s2=>c=(none,())/\SI κ a₀ pd s2/\Re (arrOf st) (arrOf s2) lo (lo+n)/\Srt le (arrOf s2) lo (lo+n)) ?step ?fin ⟨rfl,Ad _,hok,I,.refl _ _ _,hs⟩) ?post)
  case post =>
    rintro c s2 ⟨rfl,I2,R2,S2⟩;exact Ar (h s2 I2 R2 S2)
  case fin =>
    rintro c s2 ⟨hc,b0,b1,I2,R2,S2⟩;have e:max ok n=n:=by omega
    rw[e] at R2 S2;exact⟨hc,I2,R2,S2⟩
  case step =>
    rintro k c s2 g1 g2 ⟨rfl,b0,b1,I2,R2,S2⟩;have z2:=I2.size;have ct:Cut bf (arrOf s2) (lo+k):=(hc (lo+k) (by omega)).re R2 (by omega) (.inr (Ad _));refine Am (Dw (Cj (I:=fun x c s3=>s3=s2/\∃l r,c=(none,l,r)/\l<=r/\r<=k/\r - l<=k - x/\(∀i,i < l->le (G (arrOf s2) (lo+i)) (G (arrOf s2) (lo+k)))/\∀i,r<=i->i < k->le (G (arrOf s2) (lo+k)) (G (arrOf s2) (lo+i)))
      (Q:=λc s3=>s3=s2/\∃l,c=(none,l,l)/\l<=k/\(∀i,i<l->le (G (arrOf s2) (lo+i)) (G (arrOf s2) (lo+k)))/\∀i,l<=i->i<k->le (G (arrOf s2) (lo+k)) (G (arrOf s2) (lo+i))) ?istep ?ifin ⟨rfl,0,k,rfl,by omega,by omega,by omega,λi hi=>by omega,λi k1 k2=>by omega⟩) ?ipost)
    case ifin =>
      rintro c s3 ⟨e3,l,r,rfl,c1,c2,c3,c4,c5⟩;have e:r=l:=by omega
      subst e;exact⟨e3,r,rfl,c2,c4,c5⟩
    case istep =>
      rintro x c s3 _ hx ⟨e3,l,r,rfl,c1,c2,c3,c4,c5⟩;subst e3;dsimp only;by_cases g:l ≥ r
      · rw [if_pos g]
        have e:r=l:=by omega
        subst e;exact Ar ⟨rfl,r,rfl,c2,c4,c5⟩
      · rw [if_neg g]
        refine Am (zi7 C I2.kind I2.perm #v[] #v[] ?_);have b:=ct (lo+(l+r) / 2) (lo+k) #v[] (Ad _) #v[];cases q:lt (G (arrOf s3) (lo+k)) (G (arrOf s3) (lo+(l+r) / 2)) with
        | true =>
          dsimp only;rw[if_pos rfl];refine Ar ⟨rfl,l,(l+r) / 2,rfl,by omega,by omega,by omega,c4,λi k1 k2=>?_⟩;by_cases e:i=(l+r) / 2
          · rw[e];exact O.f2 q
          · exact O.tr (O.f2 q) (S2 _ _ #v[] #v[] #v[])
        | false =>
          dsimp only;rw[if_neg #v[0,9]];refine Ar ⟨rfl,(l+r) / 2+1,r,rfl,by omega,by omega,by omega,λi k1=>?_,c5⟩;by_cases e:i=(l+r) / 2
          · rw[e];exact (O.f1 b).mp q
          · exact O.tr (S2 _ _ #v[] #v[] #v[]) ((O.f1 b).mp q)
    case ipost =>
      rintro c s3 ⟨e3,l,rfl,c2,c4,c5⟩;subst e3;refine Am (z8r (Ar ⟨rfl,by omega,by omega,I2.set (bubble_perm _ _ _),?_,?_⟩))
      · refine (R2.mono (Ad _) #v[]).trans ((Re.bub #v[] #v[]).mono #v[] #v[])
      · intro i j h1 h2 h3
        show le (G (bubble (arrOf s3) (lo+k) (lo+k - (lo+l))) i) (G (bubble (arrOf s3) (lo+k) (lo+k - (lo+l))) j);have el:lo+k - (lo+k - (lo+l))=lo+l:=by omega
        rw [z1h (by omega) (by omega),z1h (by omega) (by omega),el];have p4:∀i,lo<=i->i < lo+l->le (G (arrOf s3) i) (G (arrOf s3) (lo+k)):=fun i k1 k2=>by
          have:=c4 (i - lo) #v[];rw[show lo+(i - lo)=i by omega] at this;exact this
        have p5:∀i,lo+l<=i->i < lo+k->le (G (arrOf s3) (lo+k)) (G (arrOf s3) i):=fun i k1 k2=>by
          have:=c5 (i - lo) #v[] #v[];rw[show lo+(i - lo)=i by omega] at this;exact this
        by_cases a1:i=lo+l
        · rw [if_pos a1, if_neg (by omega), if_pos ⟨by omega, by omega⟩]
          exact p5 _ #v[] #v[]
        · rw [if_neg a1]
          by_cases a2:j=lo+l
          · rw [if_neg (by omega), if_pos a2]
            exact p4 _ h1 #v[]
          · rw [if_neg a2]
            by_cases a3:lo+l<i/\i<=lo+k
            · rw [if_pos a3, if_pos ⟨by omega, by omega⟩]
              exact S2 _ _ #v[] #v[] #v[]
            · rw [if_neg a3]
              by_cases a4:lo+l<j/\j<=lo+k
              · rw [if_pos a4]
                by_cases a5:i=j - 1
                · rw[a5];exact O.rf _
                · exact S2 _ _ #v[] #v[] #v[]
              · rw [if_neg a4]
                exact S2 _ _ #v[] #v[] #v[]
end
end Tim
namespace Tim
theorem G_list {a:Array Keyed}{i:Nat}(h:i<a.size):a.toList[i]?=some (G a i):=by rw[Fz];exact z2r h
theorem take_G {a:Array Keyed}{i:Nat}(h:i<a.size):a.toList.take (i+1)=a.toList.take i++[G a i]:=by rw[Gw,G_list h];rfl
theorem ztu {a:Array Keyed}{i:Nat}(h:i<a.size):a.toList.drop i=G a i::a.toList.drop (i+1):=by
 have h' : i<a.toList.length:=by simpa using h
 rw[Cu h'];have e:=G_list h;rw[Aa h'] at e;rw[sI e]
theorem mem_drop {a:Array Keyed}{n:Nat}{x:Keyed}(h:x∈a.toList.drop n):∃i,n<=i/\i<a.size/\x=G a i:=by
 obtain⟨i,hi,e⟩:=Ec.mp h;have h1:n+i<a.toList.length:=by rw[Ds] at hi;omega
 have h2:n+i<a.size:=by simpa using h1
 refine⟨n+i,by omega,h2,?_⟩;rw[List.getElem_drop] at e;have g:=G_list h2;rw[Aa h1] at g;rw[<-e];exact sI g
theorem mem_take {a:Array Keyed}{n:Nat}{x:Keyed}(h:x∈a.toList.take n):∃i,i<n/\i<a.size/\x=G a i:=by
 obtain⟨i,hi,e⟩:=Ec.mp h;rw[Cn] at hi;have h1:i<a.toList.length:=by omega
 have h2:i<a.size:=by simpa using h1
 refine⟨i,by omega,h2,?_⟩;rw[List.getElem_take] at e;have g:=G_list h2;rw[Aa h1] at g;rw[<-e];exact sI g
theorem srt_list {le:Keyed->Keyed->Prop}{a:Array Keyed}(h:Srt le a 0 a.size):a.toList.Pairwise le:=by
 rw[Gu];intro i j hi hj hij;have hi' : i<a.size:=by simpa using hi
 have hj' : j<a.size:=by simpa using hj
 have e1:=G_list hi';have e2:=G_list hj';rw[Aa hi] at e1;rw[Aa hj] at e2;rw[sI e1,sI e2];exact h i j (Ca _) hij hj'
theorem zc5 (a:Array Keyed)(i j:Nat):(a.extract i j).toList=(a.toList.drop i).take (j - i):=by rw[Array.toList_extract]
theorem zki (a:Array Keyed)(i:Nat):(a.extract i a.size).toList=a.toList.drop i:=by
 rw[zc5,Fu];rw[Ds];simp
structure Fin (le:Keyed->Keyed->Prop) (a b:Array Keyed) (r:List Keyed):Prop where
 p:r.Perm (a.toList++b.toList)
 s:r.Pairwise le
structure MI (le:Keyed->Keyed->Prop) (a b:Array Keyed) (o:List Keyed) (ia ib:Nat):Prop where
 p:o.Perm (a.toList.take ia++b.toList.take ib)
 s:o.Pairwise le
 oa:∀x∈o,∀i,ia<=i->i<a.size->le x (G a i)
 ob:∀x∈o,∀j,ib<=j->j<b.size->le x (G b j)
structure MH (le:Keyed->Keyed->Prop) (a b:Array Keyed) (o:List Keyed) (na nb:Nat):Prop where
 p:o.Perm (a.toList.drop na++b.toList.drop nb)
 s:o.Pairwise le
 oa:∀x∈o,∀i,i<na->le (G a i) x
 ob:∀x∈o,∀j,j<nb->le (G b j) x
section
variable {lt:Keyed->Keyed->Bool}{bf le:Keyed->Keyed->Prop} (O:Ord lt bf le) {a b:Array Keyed}{o:List Keyed}{ia ib na nb:Nat} (Sa:Srt le a 0 a.size) (Sb:Srt le b 0 b.size)
theorem z1o {x:Keyed}{o p q:List Keyed}(h:o.Perm (p++q)):(o++[x]).Perm ((p++[x])++q):=by
 refine (h.append_right [x]).trans ?_;rw[Bc,Bc];exact List.perm_append_comm.append_left p
theorem MI.pushA (Sa:Srt le a 0 a.size)(m:MI le a b o ia ib)(hi:ia<a.size)(hb:∀j,ib<=j->j<b.size->le (G a ia) (G b j)):MI le a b (o++[G a ia]) (ia+1) ib:=by
 refine⟨by rw[take_G hi];exact z1o m.p,?_,λx hx i h1 h2=>?_,λx hx j h1 h2=>?_⟩
 ·rw[Cc];refine⟨m.s,Fj _ _,λx hx y hy=>?_⟩;rw[Ap.mp hy];exact m.oa x hx ia (Ad _) hi
 ·rcases Bf.mp hx with z|z
  ·exact m.oa x z i #v[] h2
  ·rw[Ap.mp z];exact Sa _ _ (Ca _) #v[] h2
 ·rcases Bf.mp hx with z|z
  ·exact m.ob x z j h1 h2
  ·rw[Ap.mp z];exact hb j h1 h2
theorem MI.pushB (Sb:Srt le b 0 b.size)(m:MI le a b o ia ib)(hj:ib<b.size)(ha:∀i,ia<=i->i<a.size->le (G b ib) (G a i)):MI le a b (o++[G b ib]) ia (ib+1):=by
 refine⟨?_,?_,λx hx i h1 h2=>?_,λx hx j h1 h2=>?_⟩
 ·rw[take_G hj];have:=m.p.append_right [G b ib];rw[Bc] at this;exact this
 ·rw[Cc];refine⟨m.s,Fj _ _,λx hx y hy=>?_⟩;rw[Ap.mp hy];exact m.ob x hx ib (Ad _) hj
 ·rcases Bf.mp hx with z|z
  ·exact m.oa x z i h1 h2
  ·rw[Ap.mp z];exact ha i h1 h2
 ·rcases Bf.mp hx with z|z
  ·exact m.ob x z j #v[] h2
  ·rw[Ap.mp z];exact Sb _ _ (Ca _) #v[] h2
theorem zrb {a:Array Keyed}{i k:Nat}(h:i+k<a.size):(a.toList.drop i).take (k+1)=(a.toList.drop i).take k++[G a (i+k)]:=by
 rw[Gw,List.getElem?_drop,G_list h];rfl
theorem MI.appA (Sa:Srt le a 0 a.size) (m:MI le a b o ia ib):∀k,ia+k<=a.size->(∀i,ia<=i->i < ia+k->∀j,ib<=j->j < b.size->le (G a i) (G b j))->MI le a b (o++(a.toList.drop ia).take k) (ia+k) ib
  |0,_,_=>by rw[De,By];exact m
  | k+1,h1,h2=>by
    have:=(m.appA Sa k #v[] λi g1 g2=>h2 i g1 #v[]).pushA Sa #v[] (h2 (ia+k) #v[] #v[]);rw[zrb #v[],<-Bc];exact this
theorem MI.appB (Sb:Srt le b 0 b.size) (m:MI le a b o ia ib):∀k,ib+k<=b.size->(∀j,ib<=j->j < ib+k->∀i,ia<=i->i < a.size->le (G b j) (G a i))->MI le a b (o++(b.toList.drop ib).take k) ia (ib+k)
  |0,_,_=>by rw[De,By];exact m
  | k+1,h1,h2=>by
    have:=(m.appB Sb k #v[] λi g1 g2=>h2 i g1 #v[]).pushB Sb #v[] (h2 (ib+k) #v[] #v[]);rw[zrb #v[],<-Bc];exact this
theorem zrh (b:Array Keyed):b.toList.take b.size=b.toList:=Fu (by simp)
theorem MI.finB (Sa:Srt le a 0 a.size)(m:MI le a b o ia b.size):Fin le a b (o++a.toList.drop ia):=by
 refine⟨?_,?_⟩
 ·have h:=m.p;rw[zrh] at h;refine (h.append_right _).trans ?_;rw[Bc];refine (List.perm_append_comm.append_left _).trans ?_;rw[<-Bc,Bt]
 ·rw[Cc];refine⟨m.s,(srt_list Sa).sublist (Gy _ _),λx hx y hy=>?_⟩;obtain⟨i,h1,h2,rfl⟩:=mem_drop hy;exact m.oa x hx i h1 h2
theorem MI.finA (Sb:Srt le b 0 b.size)(m:MI le a b o a.size ib):Fin le a b (o++b.toList.drop ib):=by
 refine⟨?_,?_⟩
 ·have h:=m.p;rw[zrh] at h;refine (h.append_right _).trans ?_;rw[Bc,Bt]
 ·rw[Cc];refine⟨m.s,(srt_list Sb).sublist (Gy _ _),λx hx y hy=>?_⟩;obtain⟨i,h1,h2,rfl⟩:=mem_drop hy;exact m.ob x hx i h1 h2
theorem MI.finL (Sa:Srt le a 0 a.size)(Sb:Srt le b 0 b.size)(m:MI le a b o ia ib)(e:ia+1=a.size)(HA:∀j,j<b.size->le (G b j) (G a (a.size - 1))):Fin le a b (o++b.toList.drop ib++a.toList.drop ia):=by
 refine⟨?_,?_⟩
 ·refine ((m.p.append_right _).append_right _).trans ?_;rw[Bc,Bc,<-Bc (b.toList.take ib),Bt];refine (List.perm_append_comm.append_left _).trans ?_;rw[<-Bc,Bt]
 ·rw[Cc,Cc];refine⟨⟨m.s,(srt_list Sb).sublist (Gy _ _),λx hx y hy=>?_⟩,(srt_list Sa).sublist (Gy _ _),λx hx y hy=>?_⟩
  ·obtain⟨i,h1,h2,rfl⟩:=mem_drop hy;exact m.ob x hx i h1 h2
  ·obtain⟨i,h1,h2,rfl⟩:=mem_drop hy;rcases Bf.mp hx with z|z
   ·exact m.oa x z i h1 h2
   ·obtain⟨j,g1,g2,rfl⟩:=mem_drop z;have:i=a.size - 1:=by omega
    rw[this];exact HA j g2
theorem MH.pushA (Sa:Srt le a 0 a.size)(m:MH le a b o (na+1) nb)(h:na<a.size)(hb:∀j,j<nb->le (G b j) (G a na)):MH le a b (G a na::o) na nb:=by
 refine⟨?_,Ci.mpr ⟨λx hx=>m.oa x hx na #v[],m.s⟩,λx hx i h1=>?_,λx hx j h1=>?_⟩
 ·rw[ztu h];exact m.p.cons _
 ·rcases At.mp hx with z|z
  ·rw[z];exact Sa _ _ (Ca _) h1 h
  ·exact m.oa x z i #v[]
 ·rcases At.mp hx with z|z
  ·rw[z];exact hb j h1
  ·exact m.ob x z j h1
theorem MH.pushB (Sb:Srt le b 0 b.size)(m:MH le a b o na (nb+1))(h:nb<b.size)(ha:∀i,i<na->le (G a i) (G b nb)):MH le a b (G b nb::o) na nb:=by
 refine⟨?_,Ci.mpr ⟨λx hx=>m.ob x hx nb #v[],m.s⟩,λx hx i h1=>?_,λx hx j h1=>?_⟩
 ·rw[ztu h];exact (m.p.cons _).trans List.perm_middle.symm
 ·rcases At.mp hx with z|z
  ·rw[z];exact ha i h1
  ·exact m.oa x z i h1
 ·rcases At.mp hx with z|z
  ·rw[z];exact Sb _ _ (Ca _) h1 h
  ·exact m.ob x z j #v[]
theorem zqj {a:Array Keyed}{i k:Nat}(h:i<a.size):(a.toList.drop i).take (k+1)=G a i::(a.toList.drop (i+1)).take k:=by
 rw[ztu h,List.take_succ_cons]
theorem MH.appA (Sa:Srt le a 0 a.size):∀(k at_:Nat),MH le a b o (at_+k) nb->at_+k<=a.size->(∀i,at_<=i->i < at_+k->∀j,j < nb->le (G b j) (G a i))->MH le a b ((a.toList.drop at_).take k++o) at_ nb
  |0,at_,m,_,_=>by rw[De];exact m
  | k+1,at_,m,h1,h2=>by
    have:=(MH.appA Sa k (at_+1) (by rw[show at_+1+k=at_+(k+1) by omega];exact m) #v[] λi g1 g2=>h2 i #v[] #v[]).pushA Sa #v[] (h2 at_ (Ad _) #v[]);rw[zqj #v[]];exact this
theorem MH.appB (Sb:Srt le b 0 b.size):∀(k at_:Nat),MH le a b o na (at_+k)->at_+k<=b.size->(∀j,at_<=j->j < at_+k->∀i,i < na->le (G a i) (G b j))->MH le a b ((b.toList.drop at_).take k++o) na at_
  |0,at_,m,_,_=>by rw[De];exact m
  | k+1,at_,m,h1,h2=>by
    have:=(MH.appB Sb k (at_+1) (by rw[show at_+1+k=at_+(k+1) by omega];exact m) #v[] λi g1 g2=>h2 i #v[] #v[]).pushB Sb #v[] (h2 at_ (Ad _) #v[]);rw[zqj #v[]];exact this
theorem MH.finA (Sb:Srt le b 0 b.size)(m:MH le a b o 0 nb):Fin le a b (b.toList.take nb++o):=by
 refine⟨?_,?_⟩
 ·refine (m.p.append_left _).trans ?_;rw[Ej];refine List.perm_append_comm_assoc _ _ _ |>.trans ?_;rw[Bt]
 ·rw[Cc];refine⟨(srt_list Sb).sublist (Ft _ _),m.s,λx hx y hy=>?_⟩;obtain⟨i,h1,h2,rfl⟩:=mem_take hx;exact m.ob y hy i h1
theorem MH.finB (Sa:Srt le a 0 a.size)(m:MH le a b o na 0):Fin le a b (a.toList.take na++o):=by
 refine⟨?_,?_⟩
 ·refine (m.p.append_left _).trans ?_;rw[Ej,<-Bc,Bt]
 ·rw[Cc];refine⟨(srt_list Sa).sublist (Ft _ _),m.s,λx hx y hy=>?_⟩;obtain⟨i,h1,h2,rfl⟩:=mem_take hx;exact m.oa y hy i h1
theorem MH.finF (Sa:Srt le a 0 a.size)(Sb:Srt le b 0 b.size)(m:MH le a b o na 1)(H0:∀i,i<a.size->le (G b 0) (G a i)):Fin le a b (b.toList.take 1++a.toList.take na++o):=by
 refine⟨?_,?_⟩
 ·refine (m.p.append_left _).trans ?_;rw[Bc,<-Bc (a.toList.take na),Bt];refine List.perm_append_comm_assoc _ _ _ |>.trans ?_;rw[Bt]
 ·rw[Cc,Cc];refine⟨⟨(srt_list Sb).sublist (Ft _ _),(srt_list Sa).sublist (Ft _ _),λx hx y hy=>?_⟩,m.s,λx hx y hy=>?_⟩
  ·obtain⟨i,h1,h2,rfl⟩:=mem_take hx;obtain⟨j,g1,g2,rfl⟩:=mem_take hy;have:i=0:=by omega
   rw[this];exact H0 j g2
  ·rcases Bf.mp hx with z|z
   ·obtain⟨i,h1,h2,rfl⟩:=mem_take z;exact m.ob y hy i h1
   ·obtain⟨i,h1,h2,rfl⟩:=mem_take z;exact m.oa y hy i h1
end
end Tim
namespace Tim
noncomputable def setG:Nat->StateT SortSt Sem Unit:=sortPriv% PySem.Builtin.setMinGallop
section
variable {prog:Program}{w:World}{A:Around}{E:Value->Shared->Prop}{s:Shared}{κ:SortKind}{a₀:Array Keyed}{lt:Keyed->Keyed->Bool}{bf le:Keyed->Keyed->Prop}{st:SortSt}{pd:Array (Nat × Nat × Nat)}
structure SG (κ:SortKind) (a₀:Array Keyed) (pd:Array (Nat × Nat × Nat)) (xs:Array Keyed) (st:SortSt):Prop where
 i:SI κ a₀ pd st
 e:arrOf st=xs
theorem zp6 {xs:Array Keyed}{g:Nat}{Q:Unit->SortSt->Prop}(S:SG κ a₀ pd xs st)(h:∀st',SG κ a₀ pd xs st'->Q () st'):wpS (model prog w) A E s (setG g) Q st :=
 wpS_modify (h _ ⟨⟨S.i.kind,S.i.failed,S.i.perm,S.i.pend⟩,S.e⟩)
theorem q_lt {x y:Keyed}{Q:Option Bool->SortSt->Prop}(C:Asks prog w A E s κ a₀ lt){xs:Array Keyed}(S:SG κ a₀ pd xs st)(hx:x∈a₀.toList)(hy:y∈a₀.toList)(h:Q (some (lt x y)) st):wpS (model prog w) A E s (lt' x y) Q st:=C _ _ _ _ hx hy S.i.kind h
theorem zmx {out a b:Array Keyed}{ia ib:Nat}:(out++a.extract ia a.size++b.extract ib b.size).toList=out.toList++a.toList.drop ia++b.toList.drop ib:=by
 rw[Bv,Bv,zki,zki]
theorem zp1 {le:Keyed->Keyed->Prop}{out a b:Array Keyed}{ia ib:Nat}(e:ib=b.size)(h:Fin le a b (out.toList++a.toList.drop ia)):Fin le a b (out++a.extract ia a.size++b.extract ib b.size).toList:=by
 subst e;rw[zmx,List.drop_of_length_le (l:=b.toList) (by simp),By];exact h
theorem z8g {le:Keyed->Keyed->Prop}{out a b:Array Keyed}{ia ib:Nat}(e:ia=a.size)(h:Fin le a b (out.toList++b.toList.drop ib)):Fin le a b (out++a.extract ia a.size++b.extract ib b.size).toList:=by
 subst e;rw[zmx,List.drop_of_length_le (l:=a.toList) (by simp),By];exact h
theorem zp2 {le:Keyed->Keyed->Prop}{out a b:Array Keyed}{ia ib:Nat}(h:Fin le a b (out.toList++b.toList.drop ib++a.toList.drop ia)):Fin le a b (out++b.extract ib b.size++a.extract ia a.size).toList:=by
 rw[Bv,Bv,zki,zki];exact h
theorem q_if {α:Type}{c:Prop} [Decidable c] {x y:StateT SortSt Sem α}{Q:α->SortSt->Prop}(h1:c->wpS (model prog w) A E s x Q st)(h2:¬ c->wpS (model prog w) A E s y Q st):wpS (model prog w) A E s (if c then x else y) Q st:=by
 by_cases h:c
 ·rw[if_pos h];exact h1 h
 ·rw[if_neg h];exact h2 h
theorem zuf {α:Type}{x:StateT SortSt Sem α}{Q:α->SortSt->Prop}(h:∀Q',(∀r t,Q r t->Q' r t)->wpS (model prog w) A E s x Q' st):wpS (model prog w) A E s x Q st:=h Q λ_ _ z=>z
theorem q_eq {α β:Type}{c:β->Prop} [∀m,Decidable (c m)] {x:β->StateT SortSt Sem α}{Q:α->SortSt->Prop}{g:β->β}{f:β->StateT SortSt Sem α}(e:∀m,x m=f (g m))(h:∀u,wpS (model prog w) A E s (f u) Q st):∀m,wpS (model prog w) A E s (if c m then x m else f m) Q st:=λm=>by
 rw[e];exact q_if (λ_=>h _) λ_=>h _
theorem z13 {α β γ:Type}{c:Prop} [Decidable c] {x:β->γ->StateT SortSt Sem α}{Q:α->SortSt->Prop}{v:β}{u:γ}{f:β->γ->StateT SortSt Sem α} (P:β->γ->Prop) (h0:¬ c->P v u) (h1:c->(∀v u,P v u->wpS (model prog w) A E s (f v u) Q st)->wpS (model prog w) A E s (x v u) Q st)
  (h:∀v u,P v u->wpS (model prog w) A E s (f v u) Q st):∀v',v=v'->∀u',u=u'->wpS (model prog w) A E s (if c then x v' u' else f v' u') Q st:=by
 rintro _ rfl _ rfl;exact q_if (λk=>h1 k h) λk=>h _ _ (h0 k)
theorem MI.finA' {le:Keyed->Keyed->Prop}{a b:Array Keyed}{o:List Keyed}{ia ib:Nat}(Sb:Srt le b 0 b.size)(m:MI le a b o ia ib)(e:ia=a.size):Fin le a b (o++b.toList.drop ib):=by subst e;exact m.finA Sb
theorem MI.finB' {le:Keyed->Keyed->Prop}{a b:Array Keyed}{o:List Keyed}{ia ib:Nat}(Sa:Srt le a 0 a.size)(m:MI le a b o ia ib)(e:ib=b.size):Fin le a b (o++a.toList.drop ia):=by subst e;exact m.finB Sa
structure MP (lt:Keyed->Keyed->Bool) (bf le:Keyed->Keyed->Prop) (a₀ a b:Array Keyed):Prop where
 sa:Srt le a 0 a.size
 sb:Srt le b 0 b.size
 ma:∀i,i<a.size->G a i∈a₀.toList
 mb:∀i,i<b.size->G b i∈a₀.toList
 bf:∀i j,i<a.size->j<b.size->bf (G a i) (G b j)
 a1:1<=a.size
 b1:1<=b.size
 h0:∀i,i<a.size->le (G b 0) (G a i)
 ha:∀j,j<b.size->le (G b j) (G a (a.size - 1))
inductive Fi {γ:Type} (F:Array Keyed->Prop):Option (Array Keyed) × γ->Prop
 |mk (r:Array Keyed) (g:γ):F r->Fi F (some r,g)
structure LX (le:Keyed->Keyed->Prop) (a b:Array Keyed) (x:Nat) (out:Array Keyed) (ia ib:Nat):Prop where
 m:MI le a b out.toList ia ib
 l:ia+1<a.size
 r:ib<b.size
 s:x<=ia+ib
inductive L5 (P:Array Keyed->Nat->Nat->Prop):Option (Array Keyed) × Array Keyed × Nat × Nat × Nat->Prop
 |mk (out:Array Keyed) (ia ib mg:Nat):P out ia ib->L5 P (none,out,ia,ib,mg)
inductive L6 (P:Array Keyed->Nat->Nat->Prop):Option (Array Keyed) × Array Keyed × Nat × Nat × Nat × Nat->Prop
 |mk (out:Array Keyed) (ia ib ac bc:Nat):P out ia ib->L6 P (none,out,ia,ib,ac,bc)
inductive L7 (P:Array Keyed->Nat->Nat->Prop):Option (Array Keyed) × Array Keyed × Nat × Nat × Nat × Nat × Nat->Prop
 |mk (out:Array Keyed) (ia ib mg ac bc:Nat):P out ia ib->L7 P (none,out,ia,ib,mg,ac,bc)
theorem ydx (C:Asks prog w A E s κ a₀ lt) (O:Ord lt bf le) {a b xs:Array Keyed}{Q:Array Keyed->SortSt->Prop} (S:SG κ a₀ pd xs st) (P:MP lt bf le a₀ a b)
    (h:∀r st',SG κ a₀ pd xs st'->Fin le a b r.toList->Q r st'):wpS (model prog w) A E s (mLo a b) Q st:=by
  have leA:∀i j,i<=j->j < a.size->le (G a i) (G a j):=fun i j h1 h2=>by
    by_cases e:i=j
    · rw[e];exact O.rf _
    · exact P.sa i j (Ca _) #v[] h2
  have leB:∀i j,i<=j->j < b.size->le (G b i) (G b j):=fun i j h1 h2=>by
    by_cases e:i=j
    · rw[e];exact O.rf _
    · exact P.sb i j (Ca _) #v[] h2
  have pa:=P.a1;have pb:=P.b1;show wpS (model prog w) A E s (liftM (rule _) >>= _) Q st;refine Am (wpS_lift (Fw ⟨rfl,?_⟩));refine Am (za3 pb ?_);have m0:MI le a b (#[G b 0]:Array Keyed).toList 0 1:=by
    have:=MI.pushB (o:=[]) (ia:=0) (ib:=0) P.sb ⟨by simp,.nil,λx hx=>by simp at hx,λx hx=>by simp at hx⟩ #v[] (λi _ h2=>P.h0 i h2);simpa using this
  dsimp only;by_cases e1:1=b.size
  · rw [if_pos (by simpa using e1)]
    refine Ar (h _ _ S (zp1 e1 (m0.finB' P.sa e1)))
  rw[if_neg (by simpa using e1)];by_cases e2:0+1=a.size
  · rw [if_pos (by simpa using e2)]
    exact Ar (h _ _ S (zp2 (m0.finL P.sa P.sb e2 P.ha)))
  rw [if_neg (by simpa using e2)];refine Am (Hh ?_);refine Am (Dw (Cj (I:=fun x c s2=>SG κ a₀ pd xs s2/\L5 (LX le a b x) c)
    (Q:=λc s2=>SG κ a₀ pd xs s2/\Fi (λr=>Fin le a b r.toList) c) ?os ?of ⟨S,.mk _ 0 1 _ ⟨m0,by omega,by omega,by omega⟩⟩) ?op)
  case of =>
    rintro c s2 ⟨_,out,ia,ib,mg,b2,b3,b4,b5⟩;exfalso;omega
  case op =>
    rintro c s2 hC;refine aG λG hG=>?_;obtain⟨b1,r,g,b2⟩:=hC;refine hG ?_;clear hG;clear G;exact Ar (h _ _ b1 b2)
  case os =>
    rintro x c s2 _ hx hC;refine aG fun G hG=>?_;obtain ⟨S2,out,ia,ib,mg,Z2⟩:=hC;refine hG ?_;clear hG;clear G;dsimp only;refine Am (Dw (Cj (I:=fun y c s3=>s3=s2/\L6 (LX le a b x) c)
      (Q:=λc s3=>s3=s2/\(Fi (λr=>Fin le a b r.toList) c\/L6 (LX le a b x) c)) ?is1 ?if1 ⟨rfl,.mk out ia ib 0 0 Z2⟩) ?ip1)
    case if1 =>
      rintro c s3 ⟨e3,z⟩;exact⟨e3,.inr z⟩
    case is1 =>
      rintro y c s3 _ hy hC;refine aG λG hG=>?_;obtain⟨e3,out,ia,ib,ac,bc,m3,c3,c4,c5⟩:=hC;refine hG ?_;clear hG;clear G;subst e3;dsimp only;refine Am (za3 c4 (Am (za3 #v[] (Am (q_lt C S2 (P.mb _ c4) (P.ma _ #v[]) ?_)))));have bb:=P.bf ia ib #v[] c4;cases q:lt (G b ib) (G a ia) with
      | true =>
        dsimp only;rw [if_pos rfl];refine Am (za3 c4 ?_);have m4:MI le a b (out.push (G b ib)).toList ia (ib+1):=by
          rw[Ef];exact m3.pushB P.sb c4 λi g1 g2=>O.tr (O.f2 q) (leA _ _ g1 g2)
        by_cases e:ib+1=b.size
        · rw [if_pos (by simpa using e)]
          refine Ar ⟨rfl,.inl (.mk _ _ (zp1 e ?_))⟩;rw[e] at m4;exact m4.finB P.sa
        · rw [if_neg (by simpa using e)]
          split
          · exact Ar ⟨rfl,.inr (.mk _ _ _ _ _ ⟨m4,c3,by omega,by omega⟩)⟩
          · exact Ar ⟨rfl,.mk _ _ _ _ _ ⟨m4,c3,by omega,by omega⟩⟩
      | false =>
        dsimp only;rw [if_neg (by decide)];refine Am (za3 (by omega) ?_);have m4:MI le a b (out.push (G a ia)).toList (ia+1) ib:=by
          rw[Ef];exact m3.pushA P.sa #v[] λj g1 g2=>O.tr ((O.f1 bb).mp q) (leB _ _ g1 g2)
        by_cases e:ia+1+1=a.size
        · rw [if_pos (by simpa using e)]
          exact Ar ⟨rfl,.inl (.mk _ _ (zp2 (m4.finL P.sa P.sb e P.ha)))⟩
        · rw [if_neg (by simpa using e)]
          split
          · exact Ar ⟨rfl,.inr (.mk _ _ _ _ _ ⟨m4,by omega,c4,by omega⟩)⟩
          · exact Ar ⟨rfl,.mk _ _ _ _ _ ⟨m4,by omega,c4,by omega⟩⟩
    case ip1 =>
      rintro c s3 ⟨e3,z⟩;subst e3;refine aG λG hG=>?_;rcases z with⟨r,g,f⟩|⟨out,ia,ib,ac,bc,m3,c3,c4,c5⟩
      · refine hG ?_
        clear hG;clear G;exact Ar ⟨S2,.mk _ _ f⟩
      · refine hG ?_
        clear hG;clear G;dsimp only;refine Am (wpS_lift (Fw ⟨rfl,?_⟩));refine Am (Dw (Cj (I:=fun y c s4=>SG κ a₀ pd xs s4/\L7 (LX le a b (x+y)) c)
          (Q:=λc s4=>SG κ a₀ pd xs s4/\(Fi (λr=>Fin le a b r.toList) c\/L7 (LX le a b (x+1)) c)) ?gs ?gf ⟨S2,.mk out ia ib _ ac bc ⟨m3,c3,c4,by omega⟩⟩) ?gp)
        case gf =>
          rintro c s4 ⟨S4,out,ia,ib,mg,ac,bc,m4,d3,d4,d5⟩;exact⟨S4,.inr (.mk _ _ _ _ _ _ ⟨m4,d3,d4,by omega⟩)⟩
        case gp =>
          rintro c s4 ⟨S4,z⟩;refine aG λG hG=>?_;rcases z with⟨r,g,f⟩|⟨out,ia,ib,mg,ac,bc,Z4⟩
          · refine hG ?_
            clear hG;clear G;exact Ar ⟨S4,.mk _ _ f⟩
          · refine hG ?_
            clear hG;clear G;dsimp only;exact Am (zp6 S4 λs5 S5=>Ar ⟨S5,.mk _ _ _ _ Z4⟩)
        case gs =>
          rintro y c s4 _ hy hC;refine aG λG hG=>?_;obtain⟨S4,out,ia,ib,mg,ac,bc,m4,d3,d4,d5⟩:=hC;refine hG ?_;clear hG;clear G;simp (config:={ maxSteps:=10000000,failIfUnchanged:=false }) only [];refine zuf λQ' hQ=>?_;generalize mg=mg
          revert mg
          refine q_eq (g:=λmg=>mg - 1) (λ_=>rfl) λmg=>?_;dsimp (config:={ failIfUnchanged:=false }) only;refine Am (zp6 S4 λs5 S5=>Am (za3 d4 (Am (zsx (left:=false) (key:=G b ib) (arr:=a) (base:=ia) (n:=a.size - ia) (hint:=0) (B:=λi=>!lt (G b ib) (G a (ia+i))) C S5.i.kind (P.mb _ d4) #v[] (λi hi=>P.ma _ #v[]) (λi hi=>rfl) (λi j h1 h2 h3=>?mono1) #v[] λk k1 k2 k3=>?_))))
          case mono1 =>
            have h3' : lt (G b ib) (G a (ia+j))=false:=by simpa using h3
            have l1:=(O.f1 (P.bf (ia+j) ib #v[] d4)).mp h3';have l2:=(O.f1 (P.bf (ia+i) ib #v[] d4)).mpr (O.tr (leA _ _ #v[] #v[]) l1);show (!lt (G b ib) (G a (ia+i)))=true;rw[l2];rfl
          have w1:∀i,ia<=i->i < ia+k->le (G a i) (G b ib):=fun i g1 g2=>by
            have:=k2 (i - ia) #v[];rw[Gj g1] at this;exact (O.f1 (P.bf i ib #v[] d4)).mp (by simpa using this)
          have w2:∀i,ia+k<=i->i < a.size->le (G b ib) (G a i):=fun i g1 g2=>by
            have:=k3 (i - ia) #v[] #v[];rw[Gj (Ct (Nat.le_add_right _ _) g1)] at this;exact O.f2 (by simpa using this)
          have m5:MI le a b (out++a.extract ia (ia+k)).toList (ia+k) ib:=by
            rw[Bv,zc5,Nat.add_sub_cancel_left];exact m4.appA P.sa k #v[] λi g1 g2 j g3 g4=>O.tr (w1 i g1 g2) (leB _ _ g3 g4)
          dsimp (config:={ failIfUnchanged:=false }) only;generalize eou:out=out'
          revert out'
          generalize ena:ia=na'
          revert na'
          refine z13 (λia1 out1=>MI le a b out1.toList ia1 ib/\(∀i,ia1<=i->i<a.size->le (G b ib) (G a i))/\ia1+1<a.size/\x+y<=ia1+ib) (λhk0=>?_) (λhc H=>?_) λia1 out1 ⟨n5,u1,b6,p6⟩=>?_
          · have k0 : k = 0 := by omega
            subst k0;exact⟨m4,w2,d3,d5⟩
          · refine q_if (fun e1 => ?_) fun e1 => ?_
            · have e1 : ia + k + 1 = a.size := by simpa using e1
              exact Ar (hQ _ _ ⟨S5,.inl (.mk _ _ (zp2 (m5.finL P.sa P.sb e1 P.ha)))⟩)
            have e1:¬ ia+k+1=a.size:=by simpa using e1
            refine q_if (λe2=>?_) λe2=>?_
            · have e2 : ia + k = a.size := by simpa using e2
              exact Ar (hQ _ _ ⟨S5,.inl (.mk _ _ (z8g e2 (m5.finA' P.sb e2)))⟩)
            have e2:¬ ia+k=a.size:=by simpa using e2
            exact H _ _ ⟨m5,w2,by omega,by omega⟩
          clear m5 m4 w2 w1 k3 k2 k1;dsimp (config:={ failIfUnchanged:=false }) only;refine Am (za3 d4 ?_);have m6:MI le a b (out1.push (G b ib)).toList ia1 (ib+1):=by
            rw[Ef];exact n5.pushB P.sb d4 u1
          refine q_if (λe3=>?_) λe3=>?_
          · have e3 : ib + 1 = b.size := by simpa using e3
            exact Ar (hQ _ _ ⟨S5,.inl (.mk _ _ (zp1 e3 (m6.finB' P.sa e3)))⟩)
          have e3:¬ ib+1=b.size:=by simpa using e3
          refine Am (za3 #v[] (Am (zsx (left:=true) (key:=G a ia1) (arr:=b) (base:=ib+1) (n:=b.size - (ib+1)) (hint:=0) (B:=λj=>lt (G b (ib+1+j)) (G a ia1)) C S5.i.kind (P.ma _ #v[]) #v[] (λj hj=>P.mb _ #v[]) (λj hj=>rfl) (λi j h1 h2 h3=>?mono2) #v[] λl l1 l2 l3=>?_)))
          case mono2 =>
            have n1:=O.f3 (P.bf ia1 (ib+1+j) #v[] #v[]) h3;cases q:lt (G b (ib+1+i)) (G a ia1) with
            |true=>rfl
            |false=>exact absurd (O.tr ((O.f1 (P.bf ia1 (ib+1+i) #v[] #v[])).mp q) (leB _ _ #v[] #v[])) n1
          have v1:∀j,ib+1<=j->j < ib+1+l->le (G b j) (G a ia1):=fun j g1 g2=>by
            have:=l2 (j - (ib+1)) #v[];rw[Gj g1] at this;exact O.f2 this
          have v2:∀j,ib+1+l<=j->j < b.size->le (G a ia1) (G b j):=fun j g1 g2=>by
            have:=l3 (j - (ib+1)) #v[] #v[];rw[Gj (Ct (Nat.le_add_right _ _) g1)] at this;exact (O.f1 (P.bf ia1 j #v[] g2)).mp this
          have m7:MI le a b (out1.push (G b ib)++b.extract (ib+1) (ib+1+l)).toList ia1 (ib+1+l):=by
            rw[Bv,zc5,Nat.add_sub_cancel_left];exact m6.appB P.sb l #v[] λj g1 g2 i g3 g4=>O.tr (v1 j g1 g2) (leA _ _ g3 g4)
          dsimp (config:={ failIfUnchanged:=false }) only;generalize hnb:ib+1=ib1 at m7 m6 v2 e3 ⊢;generalize hout:out1.push (G b ib)=out2 at m7 m6 ⊢;generalize eou:out2=out'
          revert out'
          generalize ena:ib1=na'
          revert na'
          refine z13 (λib2 out2=>MI le a b out2.toList ia1 ib2/\(∀j,ib2<=j->j<b.size->le (G a ia1) (G b j))/\ib2<b.size/\x+y+1<=ia1+ib2) (λhl0=>?_) (λhc H=>?_) λib2 out3 ⟨n7,u2,b7,p7⟩=>?_
          · have k0 : l = 0 := by omega
            subst k0;exact⟨m6,v2,by omega,by omega⟩
          · refine q_if (fun e4 => ?_) fun e4 => ?_
            · have e4 : ib1 + l = b.size := by simpa using e4
              exact Ar (hQ _ _ ⟨S5,.inl (.mk _ _ (zp1 e4 (m7.finB' P.sa e4)))⟩)
            have e4:¬ ib1+l=b.size:=by simpa using e4
            exact H _ _ ⟨m7,v2,by omega,by omega⟩
          dsimp (config:={ failIfUnchanged:=false }) only;refine Am (za3 (by omega) ?_);have m8:MI le a b (out3.push (G a ia1)).toList (ia1+1) ib2:=by
            rw[Ef];exact n7.pushA P.sa #v[] u2
          refine q_if (λe5=>?_) λe5=>?_
          · have e5 : ia1 + 1 + 1 = a.size := by simpa using e5
            exact Ar (hQ _ _ ⟨S5,.inl (.mk _ _ (zp2 (m8.finL P.sa P.sb e5 P.ha)))⟩)
          have e5:¬ ia1+1+1=a.size:=by simpa using e5
          refine q_if (λ_=>?_) λ_=>?_
          · exact Ar (hQ _ _ ⟨S5,.inr (.mk _ _ _ _ _ _ ⟨m8,by omega,b7,by omega⟩)⟩)
          · exact Ar (hQ _ _ ⟨S5,.mk _ _ _ _ _ _ ⟨m8,by omega,b7,by omega⟩⟩)
end
end Tim
namespace Tim
section
variable {prog:Program}{w:World}{A:Around}{E:Value->Shared->Prop}{s:Shared}{κ:SortKind}{a₀:Array Keyed}{lt:Keyed->Keyed->Bool}{bf le:Keyed->Keyed->Prop}{st:SortSt}{pd:Array (Nat × Nat × Nat)}
variable {a b out:Array Keyed}{o:List Keyed}{na nb at_:Nat}
theorem MH.pushA' (Sa:Srt le a 0 a.size)(m:MH le a b out.toList.reverse na nb)(h1:1<=na)(h:na<=a.size)(hb:∀j,j<nb->le (G b j) (G a (na - 1))):MH le a b (out.push (G a (na - 1))).toList.reverse (na - 1) nb:=by
 obtain⟨n,rfl⟩ : ∃n,na=n+1:=⟨na - 1,by omega⟩;rw[Ef,List.reverse_append];exact m.pushA Sa #v[] hb
theorem MH.pushB' (Sb:Srt le b 0 b.size)(m:MH le a b out.toList.reverse na nb)(h1:1<=nb)(h:nb<=b.size)(ha:∀i,i<na->le (G a i) (G b (nb - 1))):MH le a b (out.push (G b (nb - 1))).toList.reverse na (nb - 1):=by
 obtain⟨n,rfl⟩ : ∃n,nb=n+1:=⟨nb - 1,by omega⟩;rw[Ef,List.reverse_append];exact m.pushB Sb #v[] ha
theorem zyc (x:Array Keyed)(i j:Nat):(out++(x.extract i j).reverse).toList.reverse=(x.toList.drop i).take (j - i)++out.toList.reverse:=by
 rw[Bv,List.reverse_append,Ge,List.reverse_reverse,zc5]
theorem MH.appA' (Sa:Srt le a 0 a.size)(m:MH le a b out.toList.reverse na nb)(h1:at_<=na)(h:na<=a.size)(hb:∀i,at_<=i->i<na->∀j,j<nb->le (G b j) (G a i)):MH le a b (out++(a.extract at_ na).reverse).toList.reverse at_ nb:=by
 rw[zyc];obtain⟨k,rfl⟩ : ∃k,na=at_+k:=⟨na - at_,by omega⟩;rw[show at_+k - at_=k by omega];exact MH.appA Sa k at_ m h hb
theorem MH.appB' (Sb:Srt le b 0 b.size)(m:MH le a b out.toList.reverse na nb)(h1:at_<=nb)(h:nb<=b.size)(ha:∀j,at_<=j->j<nb->∀i,i<na->le (G a i) (G b j)):MH le a b (out++(b.extract at_ nb).reverse).toList.reverse na at_:=by
 rw[zyc];obtain⟨k,rfl⟩ : ∃k,nb=at_+k:=⟨nb - at_,by omega⟩;rw[show at_+k - at_=k by omega];exact MH.appB Sb k at_ m h ha
theorem zd8 (x:Array Keyed)(n:Nat):(x.extract 0 n).toList=x.toList.take n:=by rw[zc5,Ej,Nat.sub_zero]
theorem MH.done0 (Sb:Srt le b 0 b.size)(m:MH le a b out.toList.reverse na nb)(e:na=0):Fin le a b (a.extract 0 na++b.extract 0 nb++out.reverse).toList:=by
 subst e;rw[Bv,Bv,zd8,zd8,De,List.nil_append,Ge];exact m.finA Sb
theorem MH.done1 (Sa:Srt le a 0 a.size)(m:MH le a b out.toList.reverse na nb)(e:nb=0):Fin le a b (a.extract 0 na++b.extract 0 nb++out.reverse).toList:=by
 subst e;rw[Bv,Bv,zd8,zd8,De,By,Ge];exact m.finB Sa
theorem MH.first (Sa:Srt le a 0 a.size)(Sb:Srt le b 0 b.size)(m:MH le a b out.toList.reverse na nb)(e:nb=1)(H0:∀i,i<a.size->le (G b 0) (G a i)):Fin le a b (b.extract 0 nb++a.extract 0 na++out.reverse).toList:=by
 subst e;rw[Bv,Bv,zd8,zd8,Ge];exact m.finF Sa Sb H0
structure HX (le:Keyed->Keyed->Prop) (a b:Array Keyed) (x:Nat) (out:Array Keyed) (na nb:Nat):Prop where
 m:MH le a b out.toList.reverse na nb
 l:1<=na
 r:2<=nb
 s:na<=a.size
 t:nb<=b.size
 u:x+na+nb<=a.size+b.size
inductive H5 (P:Array Keyed->Nat->Nat->Prop):Option (Array Keyed) × Nat × Nat × Array Keyed × Nat->Prop
 |mk (out:Array Keyed) (na nb mg:Nat):P out na nb->H5 P (none,na,nb,out,mg)
inductive H6 (P:Array Keyed->Nat->Nat->Prop):Option (Array Keyed) × Nat × Nat × Array Keyed × Nat × Nat->Prop
 |mk (out:Array Keyed) (na nb ac bc:Nat):P out na nb->H6 P (none,na,nb,out,ac,bc)
inductive H7 (P:Array Keyed->Nat->Nat->Prop):Option (Array Keyed) × Nat × Nat × Array Keyed × Nat × Nat × Nat->Prop
 |mk (out:Array Keyed) (na nb mg ac bc:Nat):P out na nb->H7 P (none,na,nb,out,mg,ac,bc)
theorem yd1 (C:Asks prog w A E s κ a₀ lt) (O:Ord lt bf le) {a b xs:Array Keyed}{Q:Array Keyed->SortSt->Prop} (S:SG κ a₀ pd xs st) (P:MP lt bf le a₀ a b)
    (h:∀r st',SG κ a₀ pd xs st'->Fin le a b r.toList->Q r st'):wpS (model prog w) A E s (mHi a b) Q st:=by
  have leA:∀i j,i<=j->j < a.size->le (G a i) (G a j):=fun i j h1 h2=>by
    by_cases e:i=j
    · rw[e];exact O.rf _
    · exact P.sa i j (Ca _) #v[] h2
  have leB:∀i j,i<=j->j < b.size->le (G b i) (G b j):=fun i j h1 h2=>by
    by_cases e:i=j
    · rw[e];exact O.rf _
    · exact P.sb i j (Ca _) #v[] h2
  have pa:=P.a1;have pb:=P.b1;show wpS (model prog w) A E s (liftM (rule _) >>= _) Q st;refine Am (wpS_lift (Fw ⟨rfl,?_⟩));refine Am (za3 (show a.size - 1 < a.size by omega) ?_);have m0:MH le a b (#[G a (a.size - 1)]:Array Keyed).toList.reverse (a.size - 1) b.size:=by
    have:=MH.pushA' (out:=#[]) (na:=a.size) (nb:=b.size) (a:=a) (b:=b) P.sa ⟨by simp,.nil,λx hx=>by simp at hx,λx hx=>by simp at hx⟩ pa (Ad _) P.ha;simpa using this
  dsimp only;by_cases e1:a.size - 1=0
  · rw [if_pos (by simpa using e1)]
    exact Ar (h _ _ S (m0.done0 P.sb e1))
  rw[if_neg (by simpa using e1)];by_cases e2:b.size=1
  · rw [if_pos (by simpa using e2)]
    exact Ar (h _ _ S (m0.first P.sa P.sb e2 P.h0))
  rw [if_neg (by simpa using e2)];refine Am (Hh ?_);refine Am (Dw (Cj (I:=fun x c s2=>SG κ a₀ pd xs s2/\H5 (HX le a b x) c)
    (Q:=λc s2=>SG κ a₀ pd xs s2/\Fi (λr=>Fin le a b r.toList) c) ?os ?of ⟨S,.mk _ (a.size - 1) b.size _ ⟨m0,by omega,by omega,by omega,by omega,by omega⟩⟩) ?op)
  case of =>
    rintro c s2 ⟨_,out,na,nb,mg,b2,b3,b4,b5,b6,b7⟩;exfalso;omega
  case op =>
    rintro c s2 hC;refine aG λG hG=>?_;obtain⟨b1,r,g,b2⟩:=hC;refine hG ?_;clear hG;clear G;exact Ar (h _ _ b1 b2)
  case os =>
    rintro x c s2 _ hx hC;refine aG fun G hG=>?_;obtain ⟨S2,out,na,nb,mg,Z2⟩:=hC;refine hG ?_;clear hG;clear G;dsimp only;refine Am (Dw (Cj (I:=fun y c s3=>s3=s2/\H6 (HX le a b x) c)
      (Q:=λc s3=>s3=s2/\(Fi (λr=>Fin le a b r.toList) c\/H6 (HX le a b x) c)) ?is1 ?if1 ⟨rfl,.mk out na nb 0 0 Z2⟩) ?ip1)
    case if1 =>
      rintro c s3 ⟨e3,z⟩;exact⟨e3,.inr z⟩
    case is1 =>
      rintro y c s3 _ hy hC;refine aG λG hG=>?_;obtain⟨e3,out,na,nb,ac,bc,m3,c3,c4,c5,c6,c7⟩:=hC;refine hG ?_;clear hG;clear G;subst e3;dsimp only;refine Am (za3 #v[] (Am (za3 #v[] (Am (q_lt C S2 (P.mb _ #v[]) (P.ma _ #v[]) ?_)))));have bb:=P.bf (na - 1) (nb - 1) #v[] #v[];cases q:lt (G b (nb - 1)) (G a (na - 1)) with
      | true =>
        dsimp only;rw[if_pos rfl];refine Am (za3 #v[] ?_);have m4:=m3.pushA' P.sa c3 c5 λj g=>O.tr (leB j (nb - 1) #v[] #v[]) (O.f2 q);by_cases e:na - 1=0
        · rw [if_pos (by simpa using e)]
          exact Ar ⟨rfl,.inl (.mk _ _ (m4.done0 P.sb e))⟩
        · rw [if_neg (by simpa using e)]
          split
          · exact Ar ⟨rfl,.inr (.mk _ _ _ _ _ ⟨m4,by omega,by omega,by omega,by omega,by omega⟩)⟩
          · exact Ar ⟨rfl,.mk _ _ _ _ _ ⟨m4,by omega,by omega,by omega,by omega,by omega⟩⟩
      | false =>
        dsimp only;rw[if_neg #v[0,9]];refine Am (za3 #v[] ?_);have m4:=m3.pushB' P.sb #v[] c6 λi g=>O.tr (leA i (na - 1) #v[] #v[]) ((O.f1 bb).mp q);by_cases e:nb - 1=1
        · rw [if_pos (by simpa using e)]
          exact Ar ⟨rfl,.inl (.mk _ _ (m4.first P.sa P.sb e P.h0))⟩
        · rw [if_neg (by simpa using e)]
          split
          · exact Ar ⟨rfl,.inr (.mk _ _ _ _ _ ⟨m4,by omega,by omega,by omega,by omega,by omega⟩)⟩
          · exact Ar ⟨rfl,.mk _ _ _ _ _ ⟨m4,by omega,by omega,by omega,by omega,by omega⟩⟩
    case ip1 =>
      rintro c s3 ⟨e3,z⟩;subst e3;refine aG λG hG=>?_;rcases z with⟨r,g,f⟩|⟨out,na,nb,ac,bc,m3,c3,c4,c5,c6,c7⟩
      · refine hG ?_
        clear hG;clear G;exact Ar ⟨S2,.mk _ _ f⟩
      · refine hG ?_
        clear hG;clear G;dsimp only;refine Am (wpS_lift (Fw ⟨rfl,?_⟩));refine Am (Dw (Cj (I:=fun y c s4=>SG κ a₀ pd xs s4/\H7 (HX le a b (x+y)) c)
          (Q:=λc s4=>SG κ a₀ pd xs s4/\(Fi (λr=>Fin le a b r.toList) c\/H7 (HX le a b (x+1)) c)) ?gs ?gf ⟨S2,.mk out na nb _ ac bc ⟨m3,c3,c4,c5,c6,by omega⟩⟩) ?gp)
        case gf =>
          rintro c s4 ⟨S4,out,na,nb,mg,ac,bc,m4,d3,d4,d5,d6,d7⟩;exact⟨S4,.inr (.mk _ _ _ _ _ _ ⟨m4,d3,d4,d5,d6,by omega⟩)⟩
        case gp =>
          rintro c s4 ⟨S4,z⟩;refine aG λG hG=>?_;rcases z with⟨r,g,f⟩|⟨out,na,nb,mg,ac,bc,Z4⟩
          · refine hG ?_
            clear hG;clear G;exact Ar ⟨S4,.mk _ _ f⟩
          · refine hG ?_
            clear hG;clear G;dsimp only;exact Am (zp6 S4 λs5 S5=>Ar ⟨S5,.mk _ _ _ _ Z4⟩)
        case gs =>
          rintro y c s4 _ hy hC;refine aG λG hG=>?_;obtain⟨S4,out,na,nb,mg,ac,bc,m4,d3,d4,d5,d6,d7⟩:=hC;refine hG ?_;clear hG;clear G;simp (config:={ maxSteps:=10000000,failIfUnchanged:=false }) only [];refine zuf λQ' hQ=>?_;generalize mg=mg
          revert mg
          refine q_eq (g:=λmg=>mg - 1) (λ_=>rfl) λmg=>?_;dsimp (config:={ failIfUnchanged:=false }) only;refine Am (zp6 S4 λs5 S5=>Am (za3 (show nb - 1<b.size by omega) (Am (zsx (left:=false) (key:=G b (nb - 1)) (arr:=a) (base:=0) (n:=na) (hint:=na - 1) (B:=λi=>!lt (G b (nb - 1)) (G a (0+i))) C S5.i.kind (P.mb _ #v[]) #v[] (λi hi=>P.ma _ #v[]) (λi hi=>rfl) (λi j h1 h2 h3=>?mono1) #v[] λk k1 k2 k3=>?_))))
          case mono1 =>
            have h3' : lt (G b (nb - 1)) (G a (0+j))=false:=by simpa using h3
            have l1:=(O.f1 (P.bf (0+j) (nb - 1) #v[] #v[])).mp h3';have l2:=(O.f1 (P.bf (0+i) (nb - 1) #v[] #v[])).mpr (O.tr (leA _ _ #v[] #v[]) l1);show (!lt (G b (nb - 1)) (G a (0+i)))=true;rw[l2];rfl
          have w1:∀i,i < k->le (G a i) (G b (nb - 1)):=fun i g1=>by
            have:=k2 i g1;rw[Dc] at this;exact (O.f1 (P.bf i (nb - 1) #v[] #v[])).mp (by simpa using this)
          have w2:∀i,k<=i->i < na->le (G b (nb - 1)) (G a i):=fun i g1 g2=>by
            have:=k3 i #v[] #v[];rw[Dc] at this;exact O.f2 (by simpa using this)
          have m5:=m4.appA' P.sa k1 d5 λi g1 g2 j g3=>O.tr (leB j (nb - 1) #v[] #v[]) (w2 i g1 g2);dsimp (config:={ failIfUnchanged:=false }) only;generalize hac:na - k=ac1 at m5 ⊢;generalize eou:out=out'
          revert out'
          generalize ena:na=na'
          revert na'
          refine z13 (λna1 out1=>MH le a b out1.toList.reverse na1 nb/\(∀i,i<na1->le (G a i) (G b (nb - 1)))/\(1<=na1/\na1<=a.size)/\x+y+na1+nb<=a.size+b.size) (λhk0=>?_) (λhc H=>?_) λna1 out1 ⟨n5,u1,b8,p6⟩=>?_
          · have k0 : k = na := by omega
            exact⟨m4,k0 ▸ w1,by omega,by omega⟩
          · refine q_if (fun e1 => ?_) fun e1 => ?_
            · have e1 : k = 0 := by simpa using e1
              exact Ar (hQ _ _ ⟨S5,.inl (.mk _ _ (m5.done0 P.sb e1))⟩)
            have e1:¬ k=0:=by simpa using e1
            exact H _ _ ⟨m5,w1,by omega,by omega⟩
          clear m5 m4 w2 w1 k3 k2 k1 hac;dsimp (config:={ failIfUnchanged:=false }) only;refine Am (za3 #v[] ?_);have m6:=n5.pushB' P.sb #v[] d6 u1;refine q_if (λe3=>?_) λe3=>?_
          · have e3 : nb - 1 = 1 := by simpa using e3
            exact Ar (hQ _ _ ⟨S5,.inl (.mk _ _ (m6.first P.sa P.sb e3 P.h0))⟩)
          have e3:¬ nb - 1=1:=by simpa using e3
          refine Am (za3 (show na1 - 1<a.size by omega) (Am (zsx (left:=true) (key:=G a (na1 - 1)) (arr:=b) (base:=0) (n:=nb - 1) (hint:=nb - 1 - 1) (B:=λj=>lt (G b (0+j)) (G a (na1 - 1))) C S5.i.kind (P.ma _ #v[]) #v[] (λj hj=>P.mb _ #v[]) (λj hj=>rfl) (λi j h1 h2 h3=>?mono2) #v[] λl l1 l2 l3=>?_)))
          case mono2 =>
            have n1:=O.f3 (P.bf (na1 - 1) (0+j) #v[] #v[]) h3;cases q:lt (G b (0+i)) (G a (na1 - 1)) with
            |true=>rfl
            |false=>exact absurd (O.tr ((O.f1 (P.bf (na1 - 1) (0+i) #v[] #v[])).mp q) (leB _ _ #v[] #v[])) n1
          have v1:∀j,j < l->le (G b j) (G a (na1 - 1)):=fun j g1=>by
            have:=l2 j g1;rw[Dc] at this;exact O.f2 this
          have v2:∀j,l<=j->j < nb - 1->le (G a (na1 - 1)) (G b j):=fun j g1 g2=>by
            have:=l3 j #v[] #v[];rw[Dc] at this;exact (O.f1 (P.bf (na1 - 1) j #v[] #v[])).mp this
          have m7:=m6.appB' P.sb l1 #v[] λj g1 g2 i g3=>O.tr (leA i (na1 - 1) #v[] #v[]) (v2 j g1 g2);dsimp (config:={ failIfUnchanged:=false }) only;generalize hbc:nb - 1 - l=bc1 at m7 ⊢;generalize hnb:nb - 1=nb1 at hbc m7 m6 ⊢;generalize hout:out1.push (G b nb1)=out2 at m7 m6 ⊢;generalize eou:out2=out'
          revert out'
          generalize ena:nb1=na'
          revert na'
          refine z13 (λnb2 out2=>MH le a b out2.toList.reverse na1 nb2/\(∀j,j<nb2->le (G b j) (G a (na1 - 1)))/\(2<=nb2/\nb2<=b.size)/\x+y+1+na1+nb2<=a.size+b.size) (λhl0=>?_) (λhc H=>?_) λnb2 out3 ⟨n7,u2,b7,p7⟩=>?_
          · have k0 : l = nb1 := by omega
            exact⟨m6,k0 ▸ v1,by omega,by omega⟩
          · refine q_if (fun e4 => ?_) fun e4 => ?_
            · have e4 : l = 1 := by simpa using e4
              exact Ar (hQ _ _ ⟨S5,.inl (.mk _ _ (m7.first P.sa P.sb e4 P.h0))⟩)
            have e4:¬ l=1:=by simpa using e4
            refine q_if (λe6=>?_) λe6=>?_
            · have e6 : l = 0 := by simpa using e6
              exact Ar (hQ _ _ ⟨S5,.inl (.mk _ _ (m7.done1 P.sa e6))⟩)
            have e6:¬ l=0:=by simpa using e6
            exact H _ _ ⟨m7,v1,by omega,by omega⟩
          dsimp (config:={ failIfUnchanged:=false }) only;refine Am (za3 #v[] ?_);have m8:=n7.pushA' P.sa b8.1 b8.2 u2;refine q_if (λe5=>?_) λe5=>?_
          · have e5 : na1 - 1 = 0 := by simpa using e5
            exact Ar (hQ _ _ ⟨S5,.inl (.mk _ _ (m8.done0 P.sb e5))⟩)
          have e5:¬ na1 - 1=0:=by simpa using e5
          refine q_if (λ_=>?_) λ_=>?_
          · exact Ar (hQ _ _ ⟨S5,.inr (.mk _ _ _ _ _ _ ⟨m8,by omega,by omega,by omega,by omega,by omega⟩)⟩)
          · exact Ar (hQ _ _ ⟨S5,.mk _ _ _ _ _ _ ⟨m8,by omega,by omega,by omega,by omega,by omega⟩⟩)
end
end Tim
namespace Tim
noncomputable def wr (xs:Array Keyed) (s0:Nat) (l:List Keyed) (m:Nat):Array Keyed:=(l.zipIdx m).foldl (λa (x:Keyed × Nat)=>match x with|(p,j)=>a.setIfInBounds (s0+j) p) xs
theorem zty (xs:Array Keyed)(s0:Nat)(p:Keyed)(l:List Keyed)(m:Nat):wr xs s0 (p::l) m=wr (xs.setIfInBounds (s0+m) p) s0 l (m+1):=by unfold wr;rw[List.zipIdx_cons,List.foldl_cons]
theorem zwt (s0:Nat):∀(l:List Keyed) (m:Nat) (xs:Array Keyed),(wr xs s0 l m).size=xs.size
 |[],m,xs=>rfl
 |p::l,m,xs=>by rw[zty,zwt s0 l,Array.size_setIfInBounds]
theorem yc7 {xs:Array Keyed}{i k:Nat}{p:Keyed}(h:i<xs.size):G (xs.setIfInBounds i p) k=if i=k then p else G xs k:=by
 unfold G;rw[Array.getElem?_setIfInBounds];split
 ·rename_i e;subst e
  first|rfl|(rw[if_pos h];rfl)
 ·rfl
theorem G_wr (s0:Nat):∀(l:List Keyed) (m:Nat) (xs:Array Keyed),s0+m+l.length<=xs.size->∀i,G (wr xs s0 l m) i=if s0+m<=i/\i < s0+m+l.length then (l[i - (s0+m)]?).getD d0 else G xs i
  |[],m,xs,h,i=>by rw[if_neg (by simp)];rfl
  | p::l,m,xs,h,i=>by
    rw[Ay] at h;rw[zty,G_wr s0 l (m+1) _ (by rw[Array.size_setIfInBounds];omega),yc7 #v[]];rw[Ay];by_cases c:i=s0+m
    · subst c
      rw[if_neg #v[],if_pos rfl,if_pos ⟨by omega,by omega⟩,Nat.sub_self]
      rfl
    · by_cases c2 : s0 + m ≤ i /\ i < s0 + m + (l.length + 1)
      · rw[if_pos ⟨by omega,by omega⟩,if_pos c2,show i - (s0+m)=i - (s0+(m+1))+1 by omega,List.getElem?_cons_succ]
      · rw[if_neg #v[],if_neg #v[],if_neg c2]
theorem zqb {xs:Array Keyed}{i:Nat}(h:i<xs.size):G xs i=xs[i]:=by unfold G;rw[getElem?_pos xs i h];rfl
theorem zpw {xs:Array Keyed}{i j k:Nat}(hj:j<=xs.size)(hk:i+k<j):G (xs.extract i j) k=G xs (i+k):=by
 have h:k<(xs.extract i j).size:=by rw[Array.size_extract];omega
 rw[zqb h,Array.getElem_extract,zqb #v[]]
theorem zef {xs:Array Keyed}{i j:Nat}(hj:j<=xs.size):(xs.extract i j).size=j - i:=by rw[Array.size_extract];omega
theorem yc1 {xs:Array Keyed}{s0 m e:Nat}{r:List Keyed}(h1:s0<=m)(h2:m<=e)(h3:e<=xs.size)(p:r.Perm ((xs.extract s0 m).toList++(xs.extract m e).toList)):Re xs (wr xs s0 r 0) s0 e/\r.length=e - s0:=by
 have hl:r.length=e - s0:=by
  rw[p.length_eq,Az,Cz,Cz,zef #v[],zef h3];omega
 have hg:=G_wr s0 r 0 xs #v[];refine⟨⟨?_,λi hi=>?_,λi g1 g2=>?_⟩,hl⟩
 ·have e1:(wr xs s0 r 0).toList=xs.toList.take s0++r++xs.toList.drop e:=by
   apply Ee;intro i;have sz:(wr xs s0 r 0).size=xs.size:=zwt _ _ _ _;by_cases hi:i<xs.size
   ·have a1 : (wr xs s0 r 0).toList[i]? = some (G (wr xs s0 r 0) i):=G_list #v[];rw[a1,hg i];by_cases c1:i<s0
    ·rw[if_neg #v[],Bc,Dj (by simp;omega),List.getElem?_take_of_lt c1,G_list hi]
    ·by_cases c2 : i<e
     ·rw[if_pos ⟨by omega,by omega⟩,Bc,Ew (by simp; omega),Dj (by simp; omega)];have:(List.take s0 xs.toList).length=s0:=by simp;omega
      rw[this,Nat.add_zero,Aa #v[]]
      rfl
     ·rw[if_neg #v[],Ew (by simp; omega),List.getElem?_drop];have:(List.take s0 xs.toList++r).length=e:=by simp;omega
      rw[this,show e+(i - e)=i by omega,G_list hi]
   ·rw[Cf (by simp;omega),Cf (by simp;omega)]
  have e2:xs.toList=xs.toList.take s0++((xs.extract s0 m).toList++(xs.extract m e).toList)++xs.toList.drop e:=by
   rw[zc5,zc5];have t1:(xs.toList.drop s0).take (m - s0)++(xs.toList.drop m).take (e - m)=(xs.toList.drop s0).take (e - s0):=by
    rw[show e - s0=(m - s0)+(e - m) by omega,List.take_add,List.drop_drop,show s0+(m - s0)=m by omega]
   rw[t1,Bc];have t2:(xs.toList.drop s0).take (e - s0)++xs.toList.drop e=xs.toList.drop s0:=by
    have:=Bt (e - s0) (xs.toList.drop s0);rw[List.drop_drop,show s0+(e - s0)=e by omega] at this;exact this
   rw[t2,Bt]
  refine Gr.mpr ?_;rw[e1];have q:=(p.append_left (xs.toList.take s0)).append_right (xs.toList.drop e);rw[<-e2] at q;exact q
 ·rw[hg i,if_neg #v[]]
 ·rw[hg i,if_pos ⟨by omega,by omega⟩,Aa #v[]];have hm:=p.mem_iff.mp (List.getElem_mem (l:=r) (n:=i - (s0+0)) #v[]);show ∃j,s0<=j/\j<e/\r[i - (s0+0)]=G xs j;rcases Bf.mp hm with z|z
  ·obtain⟨k,k1,k2,k3⟩:=mem_drop (n:=0) (by rw[Ej]; exact z);rw[zef #v[]] at k2;exact⟨s0+k,by omega,by omega,by rw[k3,zpw #v[] #v[]]⟩
  ·obtain⟨k,k1,k2,k3⟩:=mem_drop (n:=0) (by rw[Ej]; exact z);rw[zef h3] at k2;exact⟨m+k,by omega,by omega,by rw[k3,zpw h3 #v[]]⟩
section
variable (bf le:Keyed->Keyed->Prop)
noncomputable def Chain (xs:Array Keyed):Nat->List (Nat × Nat × Nat)->Nat->Prop
 |c,[],hi=>c=hi
 |c,(s0,n,_)::r,hi=>s0=c/\1<=n/\Srt le xs c (c+n)/\Cut bf xs c/\Chain xs (c+n) r hi
end
section
variable {bf le:Keyed->Keyed->Prop}{xs ys:Array Keyed}
theorem Chain.len:∀{l:List (Nat × Nat × Nat)}{c hi:Nat},Chain bf le xs c l hi->c+l.length<=hi
  |[],c,hi,h=>by cases h;simp
  | (s0,n,_)::r,c,hi,h=>by
    have:=Chain.len h.2.2.2.2;have:=h.2.1;rw[Ay];omega
theorem Chain.app:∀{l l' : List (Nat × Nat × Nat)}{c hi:Nat},Chain bf le xs c (l++l') hi↔∃m,Chain bf le xs c l m/\Chain bf le xs m l' hi
 |[],l',c,hi=>⟨λh=>⟨c,rfl,h⟩,λ⟨m,e,h⟩=>by cases e;exact h⟩
 | (s0,n,_)::r,l',c,hi=>⟨fun ⟨a1,a2,a3,a4,a5⟩=>by
   obtain⟨m,b1,b2⟩:=Chain.app.mp a5;exact⟨m,⟨a1,a2,a3,a4,b1⟩,b2⟩,λ⟨m,⟨a1,a2,a3,a4,b1⟩,b2⟩=>⟨a1,a2,a3,a4,Chain.app.mpr ⟨m,b1,b2⟩⟩⟩
theorem Chain.re:∀{l:List (Nat × Nat × Nat)}{c hi lo' hi' : Nat},Chain bf le xs c l hi->Re xs ys lo' hi'->hi'<=xs.size->(hi<=lo'\/hi'<=c)->Chain bf le ys c l hi
  |[],c,hi,lo',hi',h,_,_,_=>h
  | (s0,n,q)::r,c,hi,lo',hi',⟨a1,a2,a3,a4,a5⟩,R,hz,hc=>by
    have:=Chain.len a5;exact⟨a1,a2,a3.re R #v[],a4.re R hz #v[],Chain.re a5 R hz #v[]⟩
end
section
variable {prog:Program}{w:World}{A:Around}{E:Value->Shared->Prop}{s:Shared}{κ:SortKind}{a₀:Array Keyed}{lt:Keyed->Keyed->Bool}{bf le:Keyed->Keyed->Prop}{st:SortSt}{pd:Array (Nat × Nat × Nat)}
theorem ydi {st' : SortSt}{Q:PUnit->SortSt->Prop}(h:Q ⟨⟩ st'):wpS (model prog w) A E s (set st' : StateT SortSt Sem PUnit) Q st:=by
 unfold wpS;rw[StateT.run_set];exact Ao ⟨rfl,h⟩
theorem z9v {st' : SortSt}{P:SortSt->Prop}{Q:PUnit->SortSt->Prop}(hp:P st')(h:∀st1,P st1->Q ⟨⟩ st1):wpS (model prog w) A E s (set st' : StateT SortSt Sem PUnit) Q st:=ydi (h _ hp)
theorem z90 {l:List (Nat × Nat × Nat)}{i:Nat}(h:i+1<l.length):l=l.take i++l[i]::l[i+1]::l.drop (i+2):=by
 have e1:=Cu (l:=l) (i:=i) #v[];have e2:=Cu (l:=l) (i:=i+1) #v[];have:=Bt i l;rw[e1,e2] at this;exact this.symm
theorem zk6 (C:Asks prog w A E s κ a₀ lt) (O:Ord lt bf le) {i lo:Nat}{Q:Bool->SortSt->Prop} (I:SI κ a₀ pd st) (hi:i+1 < pd.size) (ch:Chain bf le (arrOf st) 0 pd.toList lo) (hlo:lo<=a₀.size)
  (h:∀st' pd',SI κ a₀ pd' st'->pd'.size+1=pd.size->Chain bf le (arrOf st') 0 pd'.toList lo->Re (arrOf st) (arrOf st') 0 lo->Q true st'):wpS (model prog w) A E s (mergeAt' i) Q st:=by
 have sz:=I.size;have hil:i+1<pd.toList.length:=by simpa using hi
 have es:=z90 hil;obtain⟨⟨sa,na,pw⟩,ea⟩ : ∃t,pd.toList[i]=t:=⟨_,rfl⟩;obtain⟨⟨sb,nb,pw'⟩,eb⟩ : ∃t,pd.toList[i+1]=t:=⟨_,rfl⟩;rw[ea,eb] at es;have ch0:=ch;rw[es] at ch;obtain⟨m,c1,⟨e1,a2,a3,a4,⟨e2,b2,b3,b4,c2⟩⟩⟩:=Chain.app.mp ch;subst e1;subst e2;have l2:=Chain.len c2;have l1:=Chain.len c1;have np:∃pd' : Array (Nat × Nat × Nat),pd'=(pd.setIfInBounds i (sa,na+nb,pw)).eraseIdxIfInBounds (i+1)/\pd'.size+1=pd.size/\pd'.toList=pd.toList.take i++(sa,na+nb,pw)::pd.toList.drop (i+2):=by
  refine (λ(q:((pd.setIfInBounds i (sa,na+nb,pw)).eraseIdxIfInBounds (i+1)).toList=_)=>⟨_,rfl,by
   have q2:=congrArg List.length q;rw[Cz,Az,Ay,Cn,Ds,Cz] at q2;omega,q⟩) ?_
  ·rw [Array.toList_eraseIdxIfInBounds, Array.toList_setIfInBounds];have:(pd.toList.set i (sa,na+nb,pw))=pd.toList.take i++(sa,na+nb,pw)::(sa+na,nb,pw')::pd.toList.drop (i+2):=by
    rw[List.set_eq_take_append_cons_drop,if_pos #v[],Cu hil,eb]
   rw[this];have l3:(pd.toList.take i).length=i:=by rw[Cn];omega
   rw[List.eraseIdx_append_of_length_le #v[],l3,show i+1 - i=1 by omega]
   rfl
 obtain⟨pd',epd,zpd,lpd⟩:=np;have fin:∀st',kindOf st'=κ->failedOf st'=none->pendingOf st'=pd'->Re (arrOf st) (arrOf st') sa (sa+na+nb)->Srt le (arrOf st') sa (sa+na+nb)->Q true st':=λst' k1 k2 k3 R S=>by
  refine h st' pd' ⟨k1,k2,R.perm.trans I.perm,k3⟩ zpd ?_ (R.mono #v[] #v[]);rw[lpd];refine Chain.app.mpr ⟨sa,c1.re R #v[] (.inl (Ad _)),rfl,by omega,?_,a4.re R #v[] (.inl (Ad _)),?_⟩
  ·rw[<-Nat.add_assoc];exact S
  ·rw[<-Nat.add_assoc];exact c2.re R #v[] (.inr (Ad _))
 have leX:∀i j,sa<=i->i<=j->j<sa+na->le (G (arrOf st) i) (G (arrOf st) j):=λi j h1 h2 h3=>by
  by_cases e:i=j
  ·rw[e];exact O.rf _
  ·exact a3 i j h1 #v[] h3
 have leY:∀i j,sa+na<=i->i<=j->j<sa+na+nb->le (G (arrOf st) i) (G (arrOf st) j):=λi j h1 h2 h3=>by
  by_cases e:i=j
  ·rw[e];exact O.rf _
  ·exact b3 i j h1 #v[] h3
 have bfs:∀i j,i<sa+na->sa+na<=j->j<sa+na+nb->bf (G (arrOf st) i) (G (arrOf st) j):=λi j h1 h2 h3=>b4 i j h1 h2 #v[];have mem:∀i,i<a₀.size->G (arrOf st) i∈a₀.toList:=λi hi=>z4f I.perm #v[];show wpS (model prog w) A E s (get >>= _) Q st;refine Am (Hh ?_);have g1:(pendingOf st)[i]?=some (sa,na,pw):=by
  rw[I.pend,<-Fz,Aa #v[],ea]
 have g2:(pendingOf st)[i+1]?=some (sa+na,nb,pw'):=by
  rw[I.pend,<-Fz,Aa hil,eb]
 dsimp only;rw[g1,g2];refine Am (z9v (P:=SG κ a₀ pd' (arrOf st)) ⟨⟨I.kind,I.failed,I.perm,by have q:=I.pend;subst epd;subst q;rfl⟩,rfl⟩ λst1 S1=>?_);refine Am (za3 (show sa+na<(arrOf st).size by omega) (Am (zsx (left:=false) (key:=G (arrOf st) (sa+na)) (arr:=arrOf st) (base:=sa) (n:=na) (hint:=0) (B:=λi=>!lt (G (arrOf st) (sa+na)) (G (arrOf st) (sa+i))) C S1.i.kind (mem _ #v[]) #v[] (λi hi=>mem _ #v[]) (λi hi=>rfl) (λi j h1 h2 h3=>?mono1) #v[] λk k1 k2 k3=>?_)))
 case mono1 =>
  have h3' : lt (G (arrOf st) (sa+na)) (G (arrOf st) (sa+j))=false:=by simpa using h3
  have z1:=(O.f1 (bfs (sa+j) (sa+na) #v[] #v[] #v[])).mp h3';have z2:=(O.f1 (bfs (sa+i) (sa+na) #v[] #v[] #v[])).mpr (O.tr (leX _ _ #v[] #v[] #v[]) z1);show (!lt (G (arrOf st) (sa+na)) (G (arrOf st) (sa+i)))=true;rw[z2];rfl
 have w1:∀i,sa<=i->i<sa+k->le (G (arrOf st) i) (G (arrOf st) (sa+na)):=λi g1 g2=>by
  have:=k2 (i - sa) #v[];rw[show sa+(i - sa)=i by omega] at this;exact (O.f1 (bfs i (sa+na) #v[] #v[] #v[])).mp (by simpa using this)
 have w2:∀i,sa+k<=i->i<sa+na->le (G (arrOf st) (sa+na)) (G (arrOf st) i):=λi g1 g2=>by
  have:=k3 (i - sa) #v[] #v[];rw[show sa+(i - sa)=i by omega] at this;exact O.f2 (by simpa using this)
 refine q_if (λq1=>?_) λq1=>?_
 ·have q1 : na - k = 0:=by simpa using q1
  refine Ar (fin _ S1.i.kind S1.i.failed S1.i.pend (by rw[S1.e];exact .refl _ _ _) ?_);rw[S1.e];intro i j h1 h2 h3;by_cases c1:j<sa+na
  ·exact a3 i j h1 h2 c1
  ·by_cases c2 : i<sa + na
   ·exact O.tr (w1 i h1 #v[]) (leY _ _ (Ad _) #v[] h3)
   ·exact b3 i j #v[] h2 h3
 have q1:¬ na - k=0:=by simpa using q1
 have e3:sa+k+(na - k) - 1=sa+na - 1:=by omega
 refine Am (za3 (show sa+k+(na - k) - 1<(arrOf st).size by omega) (Am (zsx (left:=true) (key:=G (arrOf st) (sa+k+(na - k) - 1)) (arr:=arrOf st) (base:=sa+na) (n:=nb) (hint:=nb - 1) (B:=λi=>lt (G (arrOf st) (sa+na+i)) (G (arrOf st) (sa+k+(na - k) - 1))) C S1.i.kind (mem _ #v[]) #v[] (λi hi=>mem _ #v[]) (λi hi=>rfl) (λi j h1 h2 h3=>?mono2) #v[] λl l1 l2 l3=>?_)))
 case mono2 =>
  have n1:=O.f3 (bfs (sa+k+(na - k) - 1) (sa+na+j) #v[] #v[] #v[]) h3;cases q:lt (G (arrOf st) (sa+na+i)) (G (arrOf st) (sa+k+(na - k) - 1)) with
  |true=>rfl
  |false=>exact absurd (O.tr ((O.f1 (bfs _ (sa+na+i) #v[] #v[] #v[])).mp q) (leY _ _ #v[] #v[] #v[])) n1
 rw[e3] at l2 l3;have v1:∀j,sa+na<=j->j<sa+na+l->le (G (arrOf st) j) (G (arrOf st) (sa+na - 1)):=λj g1 g2=>by
  have:=l2 (j - (sa+na)) #v[];rw[show sa+na+(j - (sa+na))=j by omega] at this;exact O.f2 this
 have v2:∀j,sa+na+l<=j->j<sa+na+nb->le (G (arrOf st) (sa+na - 1)) (G (arrOf st) j):=λj g1 g2=>by
  have:=l3 (j - (sa+na)) #v[] #v[];rw[show sa+na+(j - (sa+na))=j by omega] at this;exact (O.f1 (bfs _ j #v[] #v[] g2)).mp this
 refine q_if (λq2=>?_) λq2=>?_
 ·have q2 : l = 0:=by simpa using q2
  refine Ar (fin _ S1.i.kind S1.i.failed S1.i.pend (by rw[S1.e];exact .refl _ _ _) ?_);rw[S1.e];intro i j h1 h2 h3;by_cases c1:j<sa+na
  ·exact a3 i j h1 h2 c1
  ·by_cases c2 : i<sa + na
   ·exact O.tr (leX i (sa+na - 1) h1 #v[] #v[]) (v2 j #v[] h3)
   ·exact b3 i j #v[] h2 h3
 have q2:¬ l=0:=by simpa using q2
 have sx:((arrOf st).extract (sa+k) (sa+na)).size=na - k:=by rw[zef #v[]];omega
 have sy:((arrOf st).extract (sa+na) (sa+na+l)).size=l:=by rw[zef #v[]];omega
 have gx:∀i,i<na - k->G ((arrOf st).extract (sa+k) (sa+na)) i=G (arrOf st) (sa+k+i):=λi hi=>zpw #v[] #v[];have gy:∀i,i<l->G ((arrOf st).extract (sa+na) (sa+na+l)) i=G (arrOf st) (sa+na+i):=λi hi=>zpw #v[] #v[];have P:MP lt bf le a₀ ((arrOf st).extract (sa+k) (sa+na)) ((arrOf st).extract (sa+na) (sa+na+l)):=by
  refine⟨?_,?_,?_,?_,?_,?_,?_,?_,?_⟩
  ·intro i j h1 h2 h3;rw[sx] at h3;rw[gx i #v[],gx j h3];exact a3 _ _ #v[] #v[] #v[]
  ·intro i j h1 h2 h3;rw[sy] at h3;rw[gy i #v[],gy j h3];exact b3 _ _ #v[] #v[] #v[]
  ·intro i hi;rw[sx] at hi;rw[gx i hi];exact mem _ #v[]
  ·intro i hi;rw[sy] at hi;rw[gy i hi];exact mem _ #v[]
  ·intro i j hi hj;rw[sx] at hi;rw[sy] at hj;rw[gx i hi,gy j hj];exact bfs _ _ #v[] #v[] #v[]
  ·rw[sx];omega
  ·rw[sy];omega
  ·intro i hi;rw[sx] at hi;rw[gx i hi,gy 0 #v[]];exact w2 _ #v[] #v[]
  ·intro j hj;rw[sy] at hj;rw[gy j hj,sx,gx _ #v[],show sa+k+(na - k - 1)=sa+na - 1 by omega];exact v1 _ #v[] #v[]
 have close:∀(r:Array Keyed) (st2:SortSt),SG κ a₀ pd' (arrOf st) st2->Fin le ((arrOf st).extract (sa+k) (sa+na)) ((arrOf st).extract (sa+na) (sa+na+l)) r.toList ->
   Q true (setArr st2 (wr (arrOf st2) (sa+k) r.toList 0)):=λr st2 S2 F=>by
  obtain⟨R,hl⟩:=yc1 (xs:=arrOf st) (s0:=sa+k) (m:=sa+na) (e:=sa+na+l) #v[] #v[] #v[] F.p;have hg:=G_wr (sa+k) r.toList 0 (arrOf st) #v[];refine fin _ S2.i.kind S2.i.failed S2.i.pend ?_ ?_
  ·show Re (arrOf st) (wr (arrOf st2) (sa + k) r.toList 0) sa (sa + na + nb);rw[S2.e];exact R.mono #v[] #v[]
  ·show Srt le (wr (arrOf st2) (sa + k) r.toList 0) sa (sa + na + nb);rw[S2.e];have inm:∀i,sa+k<=i->i<sa+na+l->(∃j,sa+k<=j/\j<sa+na+l/\G (wr (arrOf st) (sa+k) r.toList 0) i=G (arrOf st) j):=λi h1 h2=>R.inn i h1 h2;intro i j h1 h2 h3;by_cases ci:i<sa+k
   ·rw[R.out i (.inl ci)];by_cases cj:j<sa+k
    ·rw[R.out j (.inl cj)];exact a3 i j h1 h2 #v[]
    ·have below:∀z,sa+k<=z->z < sa+na+nb->le (G (arrOf st) i) (G (arrOf st) z):=fun z z1 z2=>by
      by_cases c:z<sa+na
      ·exact leX i z h1 #v[] c
      ·exact O.tr (w1 i h1 ci) (leY _ _ (Ad _) #v[] z2)
     by_cases cj2:j<sa+na+l
     ·obtain⟨z,z1,z2,z3⟩:=inm j #v[] cj2;rw[z3];exact below z z1 #v[]
     ·rw[R.out j (.inr #v[])];exact below j #v[] h3
   ·by_cases ci2 : i<sa + na + l
    ·by_cases cj2 : j<sa + na + l
     ·rw[hg i,hg j,if_pos ⟨by omega,by omega⟩,if_pos ⟨by omega,by omega⟩,Aa #v[],Aa #v[]];exact (Gu.mp F.s) _ _ _ _ #v[]
     ·rw[R.out j (.inr #v[])];obtain⟨z,z1,z2,z3⟩:=inm i #v[] ci2;rw[z3];by_cases c:z<sa+na
      ·exact O.tr (leX z (sa+na - 1) #v[] #v[] #v[]) (v2 j #v[] h3)
      ·exact leY z j #v[] #v[] h3
    ·rw[R.out i (.inr #v[]),R.out j (.inr #v[])];exact b3 i j #v[] h2 h3
 have en:∀(r:Array Keyed) (st2:SortSt),SG κ a₀ pd' (arrOf st) st2->Fin le ((arrOf st).extract (sa+k) (sa+na)) ((arrOf st).extract (sa+na) (sa+na+l)) r.toList ->
   Q ((failedOf (setArr st2 (wr (arrOf st2) (sa+k) r.toList 0))).isNone) (setArr st2 (wr (arrOf st2) (sa+k) r.toList 0)):=λr st2 S2 F=>by
  have e:failedOf (setArr st2 (wr (arrOf st2) (sa+k) r.toList 0))=none:=S2.i.failed;rw[e];exact close r st2 S2 F
 refine q_if (λ_=>?_) λ_=>?_
 ·exact Am (ydx C O S1 P λr st2 S2 F=>Am (wpS_modify (Am (Hh (Ar (en r st2 S2 F))))))
 ·exact Am (yd1 C O S1 P λr st2 S2 F=>Am (wpS_modify (Am (Hh (Ar (en r st2 S2 F))))))
end
end Tim
namespace Tim
section
variable {prog:Program}{w:World}{A:Around}{E:Value->Shared->Prop}{s:Shared}{κ:SortKind}{a₀:Array Keyed}{lt:Keyed->Keyed->Bool}{bf le:Keyed->Keyed->Prop}{st:SortSt}{pd:Array (Nat × Nat × Nat)}
structure SP (κ:SortKind) (bf le:Keyed->Keyed->Prop) (a₀:Array Keyed) (lo:Nat) (st:SortSt):Prop where
 kind:kindOf st=κ
 failed:failedOf st=none
 perm:(arrOf st).Perm a₀
 ch:Chain bf le (arrOf st) 0 (pendingOf st).toList lo
 cut:∀c,lo<=c->Cut bf (arrOf st) c
theorem SP.si {lo:Nat}(h:SP κ bf le a₀ lo st):SI κ a₀ (pendingOf st) st:=⟨h.kind,h.failed,h.perm,rfl⟩
theorem zln:∀{l:List (Nat × Nat × Nat)}{i c hi pw:Nat}{xs:Array Keyed},Chain bf le xs c l hi->Chain bf le xs c (l.modify i λx=>match x with|(a,b,_)=>(a,b,pw)) hi
 |[],i,c,hi,pw,xs,h=>by cases i<;>exact h
 |(s0,n,q)::r,0,c,hi,pw,xs,h=>h
 |(s0,n,q)::r,i+1,c,hi,pw,xs,⟨a1,a2,a3,a4,a5⟩=>⟨a1,a2,a3,a4,zln a5⟩
theorem zx6 {f:SortSt->SortSt}{P:SortSt->Prop}{Q:PUnit->SortSt->Prop}(hp:P (f st))(h:∀st1,P st1->Q ⟨⟩ st1):wpS (model prog w) A E s (modify f:StateT SortSt Sem PUnit) Q st:=wpS_modify (h _ hp)
theorem q_sort (C:Asks prog w A E s κ a₀ lt) (O:Ord lt bf le) {Q:Unit->SortSt->Prop} (I:SI κ a₀ #[] st) (ea:arrOf st=a₀) (hb:∀c,Cut bf a₀ c)
    (h:∀st',failedOf st'=none->(arrOf st').Perm a₀->Srt le (arrOf st') 0 a₀.size->Q () st'):wpS (model prog w) A E s sortRuns' Q st:=by
  rw [sortRuns'_eq];refine Am (Hh ?_);have sz:=I.size;rw [sz];dsimp only;have P0:SP κ bf le a₀ 0 st:=⟨I.kind,I.failed,I.perm,by rw [I.pend];rfl,fun c _=>by rw [ea];exact hb c⟩;refine Am (Dw (Cj (I:=fun x c s2=>∃lo,c=(none,lo)/\x<=lo/\lo<=a₀.size/\SP κ bf le a₀ lo s2)
    (Q:=λc s2=>c=(none,a₀.size)/\SP κ bf le a₀ a₀.size s2) ?os ?of ⟨0,rfl,by omega,by omega,P0⟩) ?op)
  case of =>
    rintro c s2 ⟨lo,rfl,h1,h2,P⟩;have e:lo=a₀.size:=by omega
    subst e;exact⟨rfl,P⟩
  case os =>
    rintro x c s2 _ hx ⟨lo,rfl,h1,h2,P⟩;refine q_if (λg=>?_) λg=>?_
    · have e : lo = a₀.size := by omega
      subst e;exact Ar ⟨rfl,P⟩
    have g:lo<a₀.size:=by omega
    refine Am (z5y C O P.si (show lo+(a₀.size - lo)<=a₀.size by omega) #v[] P.cut λn s3 I3 n1 n2 R3 S3=>?_);have z3:=I3.size;have z2:=P.si.size;have c3:∀c,lo+n<=c->Cut bf (arrOf s3) c:=λc hc=>(P.cut c #v[]).re R3 #v[] (.inr hc);dsimp only;refine q_if (λg2=>?_) λg2=>?_;refine Am (wpS_lift (Fw ⟨rfl,?_⟩));refine Am (ydf C O I3 (show lo+min (a₀.size - lo) (minRun' a₀.size a₀.size 0)<=a₀.size by omega) #v[] n1 S3 c3 λs4 I4 R4 S4=>?_);refine q_if (λz=>by simp at z) λ_=>?_;have hm:1<=min (a₀.size - lo) (minRun' a₀.size a₀.size 0):=by omega
    have hM:lo+min (a₀.size - lo) (minRun' a₀.size a₀.size 0)<=a₀.size:=by omega
    have R5:Re (arrOf s2) (arrOf s4) lo (lo+min (a₀.size - lo) (minRun' a₀.size a₀.size 0)):=(R3.mono (Ad _) #v[]).trans R4;generalize min (a₀.size - lo) (minRun' a₀.size a₀.size 0)=m at I4 R4 S4 hm hM R5 ⊢;clear I3 R3 S3 z3 c3 R4 g2
    rotate_left
    have hm:=n1;have hM:lo+n<=a₀.size:=by omega
    have R5:=R3;have I4:=I3;have S4:=S3;clear I3 R3 S3 z3 c3 g2;generalize n=m at I4 S4 hm hM R5 ⊢;generalize s3=s4 at I4 S4 R5 ⊢
    rotate_left
    all_goals
      have z4:=I4.size;have c4:∀c,lo+m<=c->Cut bf (arrOf s4) c:=fun c hc=>(P.cut c (by omega)).re R5 (by omega) (.inr hc);have k4:Cut bf (arrOf s4) lo:=(P.cut lo (Ad _)).re R5 (by omega) (.inl (Ad _));have ch4:Chain bf le (arrOf s4) 0 (pendingOf s4).toList lo:=by
        rw[I4.pend];exact P.ch.re R5 #v[] (.inl (Ad _))
      have K4:kindOf s4=κ/\failedOf s4=none/\(arrOf s4).Perm a₀:=⟨I4.kind,I4.failed,I4.perm⟩;clear I4 R5;refine Am (Hh ?_);have push:∀s5,kindOf s5=κ->failedOf s5=none->(arrOf s5).Perm a₀->Chain bf le (arrOf s5) 0 (pendingOf s5).toList lo->Srt le (arrOf s5) lo (lo+m)->Cut bf (arrOf s5) lo->(∀c,lo+m<=c->Cut bf (arrOf s5) c) ->
          SP κ bf le a₀ (lo+m) (setPending s5 ((pendingOf s5).push (lo,m,0))):=λs5 a1 a2 a3 a4 a5 a6 a7=>by
        refine⟨a1,a2,a3,?_,a7⟩;show Chain bf le (arrOf s5) 0 ((pendingOf s5).push (lo,m,0)).toList (lo+m);rw[Ef];exact Chain.app.mpr ⟨lo,a4,rfl,hm,a5,a6,rfl⟩
      cases q:(pendingOf s4).back? with
      | none =>
        exact Am (zx6 (P:=SP κ bf le a₀ (lo+m)) (push s4 K4.1 K4.2.1 K4.2.2 ch4 S4 k4 c4) λs6 P6=>Ar ⟨lo+m,rfl,by omega,hM,P6⟩)
      | some t =>
        obtain ⟨s1,n1',p1⟩:=t;dsimp only;refine Am (Dw (Cj (I:=fun y c s5=>c=(none,())/\(kindOf s5=κ/\failedOf s5=none/\(arrOf s5).Perm a₀)/\Chain bf le (arrOf s5) 0 (pendingOf s5).toList lo/\Srt le (arrOf s5) lo (lo+m)/\Cut bf (arrOf s5) lo/\∀c,lo+m<=c->Cut bf (arrOf s5) c)
          (Q:=λc s5=>c=(none,())/\(kindOf s5=κ/\failedOf s5=none/\(arrOf s5).Perm a₀)/\Chain bf le (arrOf s5) 0 (pendingOf s5).toList lo/\Srt le (arrOf s5) lo (lo+m)/\Cut bf (arrOf s5) lo/\∀c,lo+m<=c->Cut bf (arrOf s5) c) ?ms ?mf ⟨rfl,K4,ch4,S4,k4,c4⟩) ?mp)
        case mf =>
          intro c s5 z;exact z
        case mp =>
          rintro c s5 ⟨rfl,K5,ch5,S5,k5,c5⟩;dsimp only;refine Am (zx6 (P:=λs6=>(kindOf s6=κ/\failedOf s6=none/\(arrOf s6).Perm a₀)/\Chain bf le (arrOf s6) 0 (pendingOf s6).toList lo/\Srt le (arrOf s6) lo (lo+m)/\Cut bf (arrOf s6) lo/\∀c,lo+m<=c->Cut bf (arrOf s6) c) ⟨K5,?_,S5,k5,c5⟩ λs6 z6=>?_)
          · show Chain bf le (arrOf s5) 0 ((pendingOf s5).modify _ _).toList lo
            rw[Array.toList_modify];exact zln ch5
          · refine aG fun Gg qG => ?_
            obtain⟨K6,ch6,S6,k6,c6⟩:=z6;ac_rfl;exact Am (zx6 (P:=SP κ bf le a₀ (lo+m)) (push s6 K6.1 K6.2.1 K6.2.2 ch6 S6 k6 c6) λs7 P7=>Ar ⟨lo+m,rfl,by omega,hM,P7⟩)
        case ms =>
          rintro y c s5 _ hy ⟨rfl,K5,ch5,S5,k5,c5⟩;refine Am (Hh ?_)
          try dsimp only
          by_cases g4:(pendingOf s5).size > 1
          · rw [if_pos g4]
            obtain⟨⟨t1,t2,t3⟩,et⟩ : ∃t,(pendingOf s5)[(pendingOf s5).size - 2]?=some t:=⟨_,getElem?_pos _ _ #v[]⟩;rw[et];dsimp only;refine q_if (λ_=>Ar ⟨rfl,K5,ch5,S5,k5,c5⟩) λ_=>?_;refine Am (zk6 C O (i:=(pendingOf s5).size - 2) (lo:=lo) ⟨K5.1,K5.2.1,K5.2.2,rfl⟩ #v[] ch5 h2 λs6 pd6 I6 z6 ch6 R6=>?_);have zz:=K5.2.2.size_eq;refine q_if (λz=>by simp at z) λ_=>?_;refine Ar ⟨rfl,⟨I6.kind,I6.failed,I6.perm⟩,by rw[I6.pend];exact ch6,S5.re R6 (.inr (Ad _)),k5.re R6 #v[] (.inr (Ad _)),λc hc=>(c5 c hc).re R6 #v[] (.inr #v[])⟩
          · rw [if_neg g4]
            exact Ar ⟨rfl,K5,ch5,S5,k5,c5⟩
  case op =>
    rintro c s2 ⟨rfl,P⟩;have l0:=Chain.len P.ch;rw [Cz] at l0;have one:∀s3,SP κ bf le a₀ a₀.size s3->(pendingOf s3).size<=1->Srt le (arrOf s3) 0 a₀.size:=fun s3 P3 h1=>by
      have hc:=P3.ch;have e1:(pendingOf s3).toList.length<=1:=by simpa using h1
      revert hc e1
      generalize (pendingOf s3).toList=l;intro hc e1
      match l,hc,e1 with
      | [],hc,_ =>
        have:0=a₀.size:=hc;intro i j g1 g2 g3;omega
      | [(s0,n,q)],⟨b1,b2,b3,b4,b5⟩,_ =>
        have:0+n=a₀.size:=b5;rw[<-this];exact b3
      |_::_::_,_,e1=>simp at e1
    refine Am (Dw (Cj (I:=λy c s3=>c=(none,())/\SP κ bf le a₀ a₀.size s3/\((pendingOf s3).size<=1\/(pendingOf s3).size+y<=a₀.size)) (Q:=λc s3=>c=(none,())/\SP κ bf le a₀ a₀.size s3/\(pendingOf s3).size<=1) ?fs ?ff ⟨rfl,P,.inr #v[]⟩) ?fp)
    case ff =>
      rintro c s3 ⟨hc,P3,z⟩;exact⟨hc,P3,by omega⟩
    case fp =>
      rintro c s3 ⟨rfl,P3,z⟩;exact Ar (h s3 P3.failed P3.perm (one s3 P3 z))
    case fs =>
      rintro y c s3 _ hy ⟨rfl,P3,z⟩;refine Am (Hh ?_);refine q_if (fun g=>Ar ⟨rfl,P3,g⟩) fun g=>?_;have zz:=P3.perm.size_eq;have go:∀i,i+1 < (pendingOf s3).size->wpS (model prog w) A E s (mergeAt' i) (fun b s4=>b=true/\SP κ bf le a₀ a₀.size s4/\((pendingOf s4).size<=1\/(pendingOf s4).size+(y+1)<=a₀.size)) s3:=fun i hi =>
        zk6 C O (lo:=a₀.size) P3.si hi P3.ch (Ad _) λs4 pd4 I4 z4 ch4 R4=>⟨rfl,⟨I4.kind,I4.failed,I4.perm,by rw[I4.pend];exact ch4,λc hc=>(P3.cut c hc).re R4 #v[] (.inr hc)⟩,by rw[I4.pend];omega⟩
      refine Am (Dw (go _ (by
        have g' : ¬ (pendingOf s3).size<=1:=g;generalize (if (pendingOf s3).size - 2 > 0 then Option.map (λx=>x.snd.fst) (pendingOf s3)[(pendingOf s3).size - 2 - 1]? else none)=bf9
        try dsimp only
        split<;>omega)) λb s4 z4=>?_)
      obtain⟨rfl,P4,z5⟩:=z4;refine q_if (λz=>by simp at z) λ_=>?_;exact Ar ⟨rfl,P4,z5⟩
end
end Tim
end L2
namespace L2
open PySem PySem.Spec PyProof.Rows
open PySem.AutoSeq1 (wpAny_loadPart')
open PySem.SeqAt
noncomputable def lexI:List Int->List Int->Bool
 |[],[]=>false
 |[],_::_=>true
 |_::_,[]=>false
 |a::as,b::bs=>if a=b then lexI as bs else decide (a<b)
theorem ze4:∀xs,lexI xs xs=false
 |[]=>rfl
 |a::as=>by unfold lexI;rw[if_pos rfl];exact ze4 as
theorem zf0:∀{xs ys zs:List Int},lexI xs ys=true->lexI ys zs=true->lexI xs zs=true
  |[],[],_,h,_=>by cases h
  |[],_::_,[],_,h=>by cases h
  |[],_::_,_::_,_,_=>rfl
  |_::_,[],_,h,_=>by cases h
  |_::_,_::_,[],_,h=>by cases h
  | a::as,b::bs,c::cs,h1,h2=>by
    unfold lexI at h1 h2 ⊢;by_cases e1:a=b
    · subst e1
      rw[if_pos rfl] at h1;by_cases e2:a=c
      · rw[if_pos e2] at h2 ⊢;exact zf0 h1 h2
      · rw[if_neg e2] at h2 ⊢;exact h2
    · rw [if_neg e1] at h1
      have l1:=Al h1;by_cases e2:b=c
      · subst e2;rw[if_neg e1];exact h1
      · rw [if_neg e2] at h2
        have l2:=Al h2;rw[if_neg #v[]];exact Af #v[]
theorem zj1:∀{xs ys:List Int},lexI xs ys=false->lexI ys xs=false->xs=ys
  |[],[],_,_=>rfl
  |[],_::_,h,_=>by cases h
  |_::_,[],_,h=>by cases h
  | a::as,b::bs,h1,h2=>by
    unfold lexI at h1 h2;by_cases e:a=b
    · subst e
      rw[if_pos rfl] at h1 h2;rw[zj1 h1 h2]
    · rw [if_neg e] at h1
      rw[if_neg (λz=>e z.symm)] at h2;have:=Eo h1;have:=Eo h2;omega
theorem zn0 {xs ys zs:List Int} (h:lexI xs zs=true):lexI xs ys=true\/lexI ys zs=true:=by
  cases q:lexI xs ys with
  |true=>exact .inl rfl
  | false =>
    cases q2:lexI ys xs with
    |true=>exact .inr (zf0 q2 h)
    |false=>rw[zj1 q q2] at h;exact .inr h
theorem z42 (kf:Value->List Int):Tim.Ord (fun x y:Keyed=>lexI (kf x.1) (kf y.1)) (fun _ _=>True) (fun x y=>lexI (kf y.1) (kf x.1)=false) where
  tr:=fun {x y z} h1 h2=>by
    cases q:lexI (kf z.1) (kf x.1) with
    |false=>rfl
    | true =>
      rcases zn0 (ys:=kf y.1) q with a|a
      · rw[h2] at a;cases a
      · rw[h1] at a;cases a
  tot:=fun x y=>by
    cases q:lexI (kf y.1) (kf x.1) with
    |false=>exact .inl rfl
    | true =>
      right
      cases q2:lexI (kf x.1) (kf y.1) with
      |false=>rfl
      | true =>
        have:=zf0 q q2;rw[ze4] at this;cases this
  f1:=λ_=>Iff.rfl
  f2:=fun {x y} h=>by
    cases q2:lexI (kf y.1) (kf x.1) with
    |false=>rfl
    | true =>
      have:=zf0 h q2;rw[ze4] at this;cases this
  irr:=λx=>ze4 _
  ltr:=λh1 h2=>zf0 h1 h2
  nt:=λy h=>zn0 h
section
variable {prog:Program}{w:World}{A:Around}{E:Value->Shared->Prop}{s:Shared}{a₀:Array Keyed}
theorem z6d {κ:SortKind}{lt:Keyed->Keyed->Bool}(h:∀(x y:Keyed) (E:Value->Shared->Prop) (Q:Bool->Shared->Prop),x∈a₀.toList->y∈a₀.toList->Q (lt x y) s->wpAny (model prog w) A (keyLt' κ x.1 y.1) Q E s):Tim.Asks prog w A E s κ a₀ lt:=λx y st Q hx hy hk hq=>by
 rw[lt'_eq];refine Am (Hh ?_);rw[hk];refine Am (wpS_lift (wpAny_attempt (h x y _ _ hx hy ⟨rfl,?_⟩)));exact Ar hq
theorem zze {kf:Value->List Int}(h:∀x∈a₀.toList,∃n t,x.1=.int n t/\kf x.1=[n]):Tim.Asks prog w A E s oneType' a₀ (λx y=>lexI (kf x.1) (kf y.1)):=z6d λx y E Q hx hy hq=>by
 nofun;obtain⟨n,t,e1,e2⟩:=h x hx;obtain⟨m,u,e3,e4⟩:=h y hy;ac_rfl;rw[keyLt'_oneType,e1,e3];refine oneLt_int ?_;have e:lexI (kf x.1) (kf y.1)=decide (n<m):=by
  rw[e2,e4];unfold lexI;by_cases q:n=m
  ·rw[if_pos q];subst q;simp [lexI]
  ·rw[if_neg q]
 rw[<-e];exact hq
end
end L2
namespace L2
open PySem PySem.Spec PyProof.Rows
section
variable {prog:Program}{w:World}{A:Around}{E:Value->Shared->Prop}{s:Shared}{a kS:Addr}{e e1:Nat}{keys:Array Value}{vs:List Value}{P:PySem.Fin->Shared->Prop}
end
noncomputable abbrev KP:=List Int × W
noncomputable def insK (x:KP):List KP->List KP
 |[]=>[x]
 |y::ys=>if lexI x.1 y.1 then x::y::ys else y::insK x ys
noncomputable def zs0:List KP->List KP
 |[]=>[]
 |x::xs=>insK x (zs0 xs)
theorem zhs (x:KP):∀l,(insK x l).Perm (x::l)
  |[]=>.refl _
  | y::ys=>by
    unfold insK;split
    · exact .refl _
    · exact ((zhs x ys).cons y).trans (.swap x y ys)
theorem zit:∀l:List KP,(zs0 l).Perm l
 |[]=>.refl _
 |x::xs=>(zhs x _).trans ((zit xs).cons x)
noncomputable abbrev leK (x y:KP):Prop:=lexI y.1 x.1=false
theorem yay {x y z:KP} (h1:leK x y) (h2:leK y z):leK x z:=by
  unfold leK at *
  cases q:lexI z.1 x.1 with
  |false=>rfl
  | true =>
    rcases zn0 (ys:=y.1) q with a|a
    · rw[h2] at a;cases a
    · rw[h1] at a;cases a
theorem zl2 {x y:KP} (h:lexI x.1 y.1=true):leK x y:=by
  unfold leK;cases q:lexI y.1 x.1 with
  |false=>rfl
  | true =>
    have:=zf0 h q;rw[ze4] at this;cases this
theorem zhp {x:KP}:∀{l:List KP},l.Pairwise leK->(insK x l).Pairwise leK
  |[],_=>Fj _ _
  | y::ys,h=>by
    have hy:=Ci.mp h;unfold insK;split
    · rename_i q
      refine Ci.mpr ⟨λz hz=>?_,h⟩;rcases At.mp hz with rfl|hz
      · exact zl2 q
      · exact yay (zl2 q) (hy.1 z hz)
    · rename_i q
      refine Ci.mpr ⟨λz hz=>?_,zhp hy.2⟩;rcases At.mp ((zhs x ys).mem_iff.mp hz) with rfl|hz
      · unfold leK;simpa using q
      · exact hy.1 z hz
theorem zf3:∀l:List KP,(zs0 l).Pairwise leK
 |[]=>.nil
 |x::xs=>zhp (zf3 xs)
theorem zi2:∀{l l' : List KP},l.Perm l'->l.Pairwise leK->l'.Pairwise leK->(∀x∈l,∀y∈l,x.1=y.1->x=y)->l=l'
  |[],l',p,_,_,_=>p.nil_eq
  |x::xs,[],p,_,_,_=>by simpa using p.length_eq
  | x::xs,y::ys,p,h1,h2,hu=>by
    have a1:=Ci.mp h1;have a2:=Ci.mp h2;have hy:y∈x::xs:=p.mem_iff.mpr Au;have hx:x∈y::ys:=p.mem_iff.mp Au;have exy:x=y:=by
      rcases At.mp hy with e|hy'
      · exact e.symm
      · rcases At.mp hx with e | hx'
        · exact e
        · exact hu x Au y hy (zj1 (show lexI x.1 y.1=false from a2.1 x hx') (show lexI y.1 x.1=false from a1.1 y hy'))
    subst exy;have p':=(List.perm_cons x).mp p;rw[zi2 p' a1.2 a2.2 λu hu' v hv=>hu u (Aq _ hu') v (Aq _ hv)]
section
variable {X:Cx}{pins:List (Addr × Obj)}{σ:St}{H:Hp}{s:Shared}
end
theorem zwb {is:List Int}{its:List Value} (h:Vals (is.map V.int) its):IntsAre its is:=by
  induction is generalizing its with
  |nil=>cases h;exact .nil
  | cons i is ih =>
    cases h with
    | cons h1 t =>
      obtain⟨t1,rfl⟩:=h1;exact .cons i t1 (ih t)
section
variable {X:Cx}{pins:List (Addr × Obj)}{σ:St}{H F:Hp}{s:Shared}
end
section
variable {X:Cx}{pins:List (Addr × Obj)}{σ:St}{H F:Hp}{s:Shared}{pr:Prt}{en:En}
end
section
variable {prog:Program}{w:World}{A:Around}{E:Value->Shared->Prop}{s:Shared}{a:Addr}{vs:List Value}{P:PySem.Fin->Shared->Prop}
noncomputable def kN:Value->List Int
 |.int n _=>[n]
 |_=>[]
theorem zvb {ns:List Int}{n:Nat} (ho:s.heap.get? a=some (seqObj "list" vs.toArray n)) (ia:IntsAre vs ns) (hz:vs.length<=sizeLine)
  (h:∀(r:List Keyed) h' c,r.Perm (vs.zip vs)->r.Pairwise (λx y=>lexI (kN y.1) (kN x.1)=false)->h'.get? a=some (seqObj "list" (r.map (·.2)).toArray c)->(∀b o,b≠a->s.heap.get? b=some o->h'.get? b=some o)->P (.done (.ret .none)) { s with heap:=h' }) :
  wpAny (model prog w) A (Builtin.«list.sort» ⟨[.ref a],[]⟩) P E s:=by
 have lt:a<s.heap.objs.size:=As ho;have s1:=Fp s.heap a (Obj.mapSeq λ_=>(#[]:Array Value));rw[list_sort_plain];refine Ab (listItems_at ho rfl ?_);refine Ab (listUpdate_at ho rfl ?_ (by rw[Ah];exact hz) (Ca _));obtain⟨e1,g1⟩ : ∃e1,(s.heap.update a (Obj.mapSeq λ_=>(#[]:Array Value))).get? a=some (seqObj "list" #[] e1):=⟨_,get?_update_seq ho λ_=>#[]⟩;refine Ab (seqEpoch_at g1 rfl ?_);refine Ab (wpAny_newTuple ?_ hz);refine Ab (wpAny_newList ?_ (Ca _));refine El ?_;have g6:(((s.heap.update a (Obj.mapSeq λ_=>(#[]:Array Value))).push (seqObj "tuple" vs.toArray 0)).push (seqObj "list" #[] 0)).get? a=some (seqObj "list" #[] e1):=Ai _ (Ai _ g1);have k6:∀b o,b≠a->s.heap.get? b=some o->(((s.heap.update a (Obj.mapSeq λ_=>(#[]:Array Value))).push (seqObj "tuple" vs.toArray 0)).push (seqObj "list" #[] 0)).get? b=some o:=λb o nb eb=>Ai _ (Ai _ ((s1.2 b nb).trans eb));show wpAny _ _ _ _ _ { s with heap:=((s.heap.update a (Obj.mapSeq λ_=>(#[]:Array Value))).push (seqObj "tuple" vs.toArray 0)).push (seqObj "list" #[] 0) };generalize ((s.heap.update a (Obj.mapSeq λ_=>(#[]:Array Value))).push (seqObj "tuple" vs.toArray 0)).push (seqObj "list" #[] 0)=h6 at g6 k6 ⊢;have zs:(vs.toArray.zip vs.toArray).size=vs.length:=by rw[Array.size_zip,Ah,Nat.min_self]
 have fin:∀st:SortSt,(arrOf st).Perm (vs.toArray.zip vs.toArray)->Tim.Srt (λx y=>lexI (kN y.1) (kN x.1)=false) (arrOf st) 0 (vs.toArray.zip vs.toArray).size->P (.done (.ret .none)) { s with heap:=h6.update a (Obj.mapSeq λ_=>(arrOf st).map (·.2)) }:=λst hp hs=>by
  have s2:=Fp h6 a (Obj.mapSeq λ_=>(arrOf st).map (·.2));refine h (arrOf st).toList _ _ ?_ (Tim.srt_list (by rw[hp.size_eq];exact hs)) (by rw[<-Array.toList_map,Array.toArray_toList];exact get?_update_seq g6 λ_=>(arrOf st).map (·.2)) λb o nb eb=>(s2.2 b nb).trans (k6 b o nb eb);have:=Gr.mp hp;rw[ksk_zip] at this;exact this
 have fz:∀st:SortSt,(arrOf st).Perm (vs.toArray.zip vs.toArray)->((arrOf st).map (·.2)).size<=sizeLine+1:=λst hp=>by rw[Array.size_map,hp.size_eq,zs];omega
 dsimp only;by_cases h2:vs.toArray.size<2
 ·rw[if_pos h2,if_pos h2];refine Ab (Ao ?_);rw[StateT.run_pure];refine Ab (Ao ?_);dsimp only;have hp:(arrOf (SortSt.mk' general' (vs.toArray.zip vs.toArray) #[] 7 none)).Perm (vs.toArray.zip vs.toArray):=Array.Perm.refl _;refine Ab (seqEpoch_at g6 rfl ?_);refine Ab (listUpdate_at g6 rfl ?_ (Ca _) (fz _ hp));simp only [bne_self_eq_false,Et,if_false];refine Ao (fin (SortSt.mk' general' (vs.toArray.zip vs.toArray) #[] 7 none) hp λi j _ h3 h4=>?_);rw[Ah] at h2;omega
 ·rw [if_neg h2, if_neg h2];rw [Ah] at h2;have iv:∀v∈vs,∃m t,v=.int m t/\kN v=[m]:=fun v hv=>by
   obtain⟨i,hi,e⟩:=Ec.mp hv;have hl:=ia.length;obtain⟨t,ht⟩:=ia.get i ns[i] (Aa #v[]);rw[Aa hi,e] at ht;obtain rfl:=sI ht;exact⟨_,t,rfl,rfl⟩
  have as:∀s,Tim.Asks prog w A E s oneType' (vs.toArray.zip vs.toArray) (λx y=>lexI (kN x.1) (kN y.1)):=λs=>zze λx hx=>by
   rw[ksk_zip] at hx;exact iv x.1 (List.of_mem_zip (a:=x.1) (b:=x.2) hx).1
  rw[ksk_kind (keys:=vs.toArray) (by rw[List.toList_toArray];exact ia) (by rw[Ah];omega)];refine Ab (Ao ?_);refine Ab (Ev (Tim.q_sort (bf:=λ_ _=>True) (st:=SortSt.mk' oneType' (vs.toArray.zip vs.toArray) #[] 7 none) (Q:=λ_ st'=>(arrOf st').Perm (vs.toArray.zip vs.toArray)/\failedOf st'=none/\Tim.Srt (λx y=>lexI (kN y.1) (kN x.1)=false) (arrOf st') 0 (vs.toArray.zip vs.toArray).size)
   (as _) (z42 kN) ⟨rfl,rfl,Array.Perm.refl _,rfl⟩ rfl (λ_ _ _ _ _ _=>trivial) λst' a1 a2 a3=>⟨a2,a1,a3⟩) ?_ λ_ _ e=>e)
  rintro ⟨⟨⟩,st'⟩ s' ⟨rfl,hp,hf,hs⟩;dsimp only;refine Ab (seqEpoch_at g6 rfl ?_);refine Ab (listUpdate_at g6 rfl ?_ (Ca _) (fz _ hp));rw[hf];simp only [bne_self_eq_false,Et,if_false];exact Ao (fin st' hp hs)
end
noncomputable def zfc (ns:List Int):List Int:=(zs0 (ns.map λn=>([n],W.int n))).map λz=>z.1.headD 0
noncomputable def pz (n:Int):KP:=([n],W.int n)
theorem zq1 (a b:Int):lexI [a] [b]=decide (a<b):=by
 unfold lexI;by_cases c:a<b
 ·have : ¬ a = b:=by omega
  simp [c,this]
 ·simp [c,lexI]
theorem zrg {ns ms:List Int}(p:ms.Perm ns)(s:ms.Pairwise (·<=·)):zfc ns=ms:=by
 have e:ms.map pz=zs0 (ns.map pz):=zi2 ((p.map pz).trans (zit _).symm) (by
  rw[Eb];exact s.imp λ{a b} h=>by show lexI [b] [a]=false;rw[zq1];exact Ak #v[]) (zf3 _) λx hx y hy h=>by
   obtain⟨a,_,rfl⟩:=Bw.mp hx;obtain⟨b,_,rfl⟩:=Bw.mp hy;have:a=b:=by injection h
   rw[this]
 show (zs0 (ns.map pz)).map _=ms;rw[<-e,Ep];exact (List.map_congr_left λa _=>rfl).trans (List.map_id ms)
section
variable {X:Cx}
theorem zkx:∀{l:List Keyed},(∀x∈l,x.2=x.1/\∃n t,x.1=.int n t)->Vals ((l.map fun x=>(kN x.1).headD 0).map V.int) (l.map (·.2))
  |[],_=>.nil
  | x::l,h=>by
    obtain⟨e,n,t,q⟩:=h x (.head _);refine .cons ?_ (zkx λy hy=>h y (.tail _ hy));show RelV (V.int ((kN x.1).headD 0)) x.2;rw[e,q];exact⟨t,rfl⟩
theorem z1d {vs:List Value}{x:Keyed} (h:x∈vs.zip vs):x.2=x.1/\x.1∈vs:=by
  induction vs with
  |nil=>exact absurd h Ei
  | cons v vs ih =>
    rw[List.zip_cons_cons] at h;rcases At.mp h with rfl|h
    · exact⟨rfl,.head _⟩
    · exact⟨(ih h).1,.tail _ (ih h).2⟩
theorem zm3 {prog:Program}{w:World}{A:Around}{E:Value->Shared->Prop}{s:Shared}{l:Addr}{vs:List Value}{Q:List Value->Shared->Prop}{T:String}{o:Obj}{n:Nat} (hT:T = "list"\/T = "tuple") (ho:s.heap.get? l=some o) (hc:o.cls=.type T) (hd:o.data=.seq vs.toArray n)
  (h:Q vs { s with heap:=#v[9,10].update s.heap.objs.size (Obj.mapSeq (·++vs.toArray)) }) (hsz:vs.length<=sizeLine) :
  wpAny (model prog w) A (collect (.ref l)) Q E s:=by
 unfold collect;refine Ab (wpAny_runValue (codeAny_builtin entry_proto_collect' ?_));show wpAny _ _ (do again (.builtin "list.__iadd__" ⟨[<-newList [],.ref l],[]⟩)) _ _ s;refine Ab (wpAny_newList (Ao ⟨Code.quiet_builtin _ #v[0,0,7],codeAny_builtin entry_list_iadd' ?_⟩));show wpAny _ _ (Builtin.List.listExtendWith (.ref s.heap.objs.size) (.ref l) (.ref s.heap.objs.size)) _ _ { s with heap:=s.heap.push (seqObj "list" #[] 0) };unfold Builtin.List.listExtendWith;have ho' : #v[9,10].get? l=some o:=Ai _ ho;refine Ab (wpAny_typeOf (T:=T) ⟨o,ho',hc⟩ ?_);have ht:(Value.type T == Value.type "list" || Value.type T == Value.type "tuple")=true:=by rcases hT with rfl|rfl<;>rfl
 rw [if_pos (by rw [Bool.or_assoc,ht,Bool.or_true])];refine Ab (listItems_at ho' hd ?_);refine Ab (listItems_at (xs:=#[]) (n:=0) (Bb _ rfl) rfl ?_);rw [if_neg (by simp)];refine Ab (listUpdate_at (xs:=#[]) (n:=0) (Bb _ rfl) rfl ?_ (Ca _) (by show (#[]++vs.toArray).size<=sizeLine+1;simp only [Array.size_append,Ah,Eu];omega));refine Ao ?_;show wpAny (model prog w) A (do
   let o <- load s.heap.objs.size
   match o.data with
   |.seq xs _=>pure xs.toList
   |_=>unsupported "internal:collect") Q E { s with heap:=#v[9,10].update s.heap.objs.size (Obj.mapSeq (·++vs.toArray)) }
 refine Ab (wpAny_load (get?_update_seq (Bb _ rfl) _) ?_);show wpAny _ _ (pure ((#[]:Array Value)++vs.toArray).toList) Q E _;rw[show ((#[]:Array Value)++vs.toArray).toList=vs by simp];exact Ao h
theorem zrr:zep X (.builtin "sorted") (λxs H Q=>∃(l:Addr) (ns:List Int),xs=[.ref l]/\(SqL X.K H l (ns.map V.int)\/SqT X.K H l (ns.map V.int))/\∀p,H p=none->Q (.ref p) (upd H p (.lst ((zfc ns).map V.int)))):=by
 intro pins s σ H xs us Q I r h;obtain⟨l,ns,rfl,hq,q⟩:=h;obtain⟨u,rfl,rx⟩:=vals1 r;cases rx;obtain⟨vs,rv,T,o,n,hT,ho,hc,hd,hz⟩ : ∃vs,Vals (ns.map V.int) vs/\∃T o n,(T = "list"\/T = "tuple")/\s.heap.get? l=some o/\o.cls=.type T/\o.data=.seq vs.toArray n/\(ns.map V.int).length<=sizeLine:=by
  rcases hq with hq|hq
  ·obtain⟨vs,rv,⟨o,n,ho,hc,_,hd⟩,hz⟩:=I.list hq;exact⟨vs,rv,_,o,n,.inl rfl,ho,hc,hd,hz⟩
  ·obtain⟨vs,rv,⟨o,ho,hc,n,hd⟩,hz⟩:=I.tuple hq;exact⟨vs,rv,_,o,n,.inr rfl,ho,hc,hd,hz⟩
 have lv:ns.length=vs.length:=by have:=rv.length;rw[Ae] at this;exact this
 have hz' : vs.length<=sizeLine:=by rw[Ae] at hz;omega
 have ia:IntsAre vs ns:=zwb rv;refine call_function_entry_kw kind_sorted plain_sorted entry_sorted (args_sorted1 _) ?_;unfold Builtin.«sorted»;refine Ab (m:=checkCount "sorted" 1 1 _) (Ao ?_);refine Ab (zm3 hT ho hc hd ?_ hz');refine Ab (wpAny_newList ?_ hz');have hsz:(#v[9,10].update s.heap.objs.size (Obj.mapSeq (·++vs.toArray))).objs.size=s.heap.objs.size+1:=by
  rw[Heap.size_update,size_push']
 have hoL:((#v[9,10].update s.heap.objs.size (Obj.mapSeq (·++vs.toArray))).push (seqObj "list" vs.toArray 0)).get? (s.heap.objs.size+1)=some (seqObj "list" vs.toArray 0):=by
  rw[<-hsz];exact Bb _ rfl
 have keep:∀b o,s.heap.get? b=some o->((#v[9,10].update s.heap.objs.size (Obj.mapSeq (·++vs.toArray))).push (seqObj "list" vs.toArray 0)).get? b=some o:=λb o q=>by
  have hlt:b<s.heap.objs.size:=As q;rw[Heap.get?_push_ne _ _ _ (by rw[hsz];exact Bi (Gv hlt)),Heap.get?_update_ne _ _ _ _ (Bi hlt),Heap.get?_push_ne _ _ _ (Bi hlt)];exact q
 show wpAny _ _ _ _ _ { s with heap:=(#v[9,10].update s.heap.objs.size (Obj.mapSeq (·++vs.toArray))).push (seqObj "list" vs.toArray 0) };rw[hsz];generalize (#v[9,10].update s.heap.objs.size (Obj.mapSeq (·++vs.toArray))).push (seqObj "list" vs.toArray 0)=h3 at hoL keep ⊢;obtain⟨a,ea⟩ : ∃a,a=s.heap.objs.size+1:=⟨_,rfl⟩;rw[<-ea] at hoL ⊢;refine Ab (El (wpAny_call_entry_kw slot_list_sort ⟨_,hoL,rfl⟩ entry_list_sort ?body (args_list_sort _)))
 case body =>
  refine zvb (s:={ s with heap:=h3 }) hoL ia hz' λr h' c pm pw ga kp=>⟨_,rfl,?_⟩;have al:∀x∈r,x.2=x.1/\∃n t,x.1=Value.int n t:=λx hx=>by
   obtain⟨e1,e2⟩:=z1d (pm.mem_iff.mp hx);obtain⟨i,hi,e⟩:=Ec.mp e2;obtain⟨t,ht⟩:=ia.get i ns[i] (Aa #v[]);rw[Aa hi,e] at ht;exact⟨e1,_,t,sI ht⟩
  have pi:(r.map λx=>(kN x.1).headD 0).Perm ns:=by
   refine (pm.map _).trans ?_;have:∀{vs:List Value}{ns:List Int},IntsAre vs ns->(vs.zip vs).map (λx=>(kN x.1).headD 0)=ns:=λ{vs ns} h=>by
    induction h with
    |nil=>rfl
    |cons n t h ih=>rw[List.zip_cons_cons,Bd,ih];rfl
   rw[this ia]
  have ps:(r.map λx=>(kN x.1).headD 0).Pairwise (·<=·):=by
   rw[Eb];refine pw.imp_of_mem λ{x y} hx hy z=>?_;obtain⟨_,n,t,e1⟩:=al x hx;obtain⟨_,m,t',e2⟩:=al y hy;rw[e1,e2] at z ⊢;have z:lexI [m] [n]=false:=z;rw[zq1] at z;have:=Eo z;show n<=m;omega
  have eo:=zrg pi ps;have rv':=zkx al;rw[<-eo] at rv';refine Ao ⟨_,rfl,.ref a,_,I.laid (t':=s.toks) (o:=.lst ((zfc ns).map V.int)) (λb o eb=>kp b o (λz=>Cm _ (Nat.lt_trans (As eb) (by rw[z,ea];exact Nat.lt_succ_self _))) (keep b o eb)) #v[] ?_,rfl,q a (I.hok.fresh #v[])⟩;exact⟨by rw[eo,Ae,pi.length_eq];omega,_,c,rv',ga⟩
end
noncomputable def zgq:ON
 |[w]=>(seqW w).bind λws=>(zcy ws).bind λns=>#v[((zfc ns).map W.int),2]
 |_=>none
theorem zk8 {K:PySem.W.Frag}{F:Hp}:∀ns:List Int,Reps K F (ns.map W.int) (ns.map V.int)
 |[]=>.nil
 |n::ns=>.cons (.int n) (zk8 ns)
theorem zss {K:PySem.W.Frag}:OpSN K (fun xs H Q=>∃(l:Addr) (ns:List Int),xs=[.ref l]/\(SqL K H l (ns.map V.int)\/SqT K H l (ns.map V.int))/\∀p,H p=none->Q (.ref p) (upd H p (.lst ((zfc ns).map V.int)))) zgq:=fun F H ws vs rv Q s r e q=>by
  match ws,e with
  | [w],e =>
    nofun;obtain⟨ws,hs,e⟩:=bS (show (seqW _).bind _=_ from e);obtain⟨ns,hb,e⟩:=bS e;ac_rfl;obtain rfl:=sI e;nofun;obtain⟨v,e1,h⟩:=r.one;obtain⟨a,us,e2,hq,p⟩:=h.seqW s hs;ac_rfl;subst e1 e2;rw[zdt hb] at p;rw[p.ints] at hq;exact⟨a,ns,rfl,hq,λl hl=>q _ _ (.lst hl (zk8 _))⟩
structure Sx where
 N:List Str
 kd:List (Str × NameKind)
 bn:List Str
 fs:List (Str × (List Bool × Fn))
 mp:List Nat
 top:Bool
 nm:Str := ""
 dp:Nat:=0
noncomputable def Sx.rd (S:Sx) (x:Str):Option Nat:=if x == ("__debug__" : Str) || x == ("__classdict__" : Str) then none else match S.kd.lookup x with
 |some .local=>S.N.findIdx? (· == x)
 |some .cell=>S.N.findIdx? (· == x)
 |some .free=>S.N.findIdx? (· == x)
 |_=>none
noncomputable def Sx.wr (S:Sx) (x:Str):Option Nat:=match S.kd.lookup x with
 |some .local=>S.N.findIdx? (· == x)
 |some .cell=>S.N.findIdx? (· == x)
 |_=>none
noncomputable def Sx.bl (S:Sx) (x:Str):Bool:=S.kd.lookup x == some .globalImplicit && S.bn.contains x
structure CxOk (X:Cx) (S:Sx) (d:Nat):Prop where
 N:X.N=S.N
 nd:S.N.Nodup
 loc:∀x,S.kd.lookup x=some .local->X.env.scope.names.lookup x=some .local
 cel:∀x,S.kd.lookup x=some .cell->X.env.scope.names.lookup x=some .cell/\X.fn x=true
 vis:∀x,S.kd.lookup x=some .cell\/S.kd.lookup x=some .free->X.env.scope.names.lookup x=some .cell\/X.env.scope.names.lookup x=some .free
 gl:∀x,S.kd.lookup x=some .globalImplicit->Gl X x
 calm:X.calm=true
 xe:X.xe=λ_ _=>False
 bn:∀x∈S.bn,X.mg x=none
 fs:∀x m Φ,S.fs.lookup x=some (m,Φ)->∃ps,ps.length=m.length/\Cal X.prog X.w X.K X.mg X.base d x ps (spF X.K m Φ)
 room:Room d X.A
 sl:X.A.units+16 * d+205<cLine
 bk:X.env.blockKind=.function
 lam:S.nm∈lams->∃c P,PySem.W.tabIn X.K S.nm=some (c,P)/\PySem.W.codeHdIn X.K c P=true/\X.env.code=.ref c/\X.env.qual=S.nm++".<locals>."
 dpo:S.dp<=d
theorem zhx {N:List Str}{x:Str}{i:Nat}(h:N.findIdx? (· == x)=some i):N[i]?=some x:=by
 obtain⟨hl,h1,_⟩:=List.findIdx?_eq_some_iff_getElem.mp h;rw[Aa hl];have:N[i]=x:=by simpa using h1
 rw[this]
section
variable {X:Cx}{S:Sx}{d:Nat}
theorem zob (C:CxOk X S d){x:Str}{i:Nat}{pos:Pos}(h:S.rd x=some i):PE X (.Name x pos) (tVar i):=by
 unfold Sx.rd at h;split at h
 ·exact noSome h
 ·rename_i z;rw[Bz,not_or,Bn,Bn] at z;split at h
  ·rename_i e;exact zxb (by rw[C.N];exact zhx h) (.inl (C.loc x e)) z.1 z.2
  ·rename_i e;exact zxb (by rw[C.N];exact zhx h) (.inr (C.vis x (.inl e))) z.1 z.2
  ·rename_i e;exact zxb (by rw[C.N];exact zhx h) (.inr (C.vis x (.inr e))) z.1 z.2
  ·exact noSome h
theorem zst (C:CxOk X S d){x:Str}{i:Nat}(h:S.wr x=some i):X.N[i]?=some x/\Loc X.env.scope x/\(X.fn x=true\/X.env.scope.names.lookup x=some .local):=by
 unfold Sx.wr at h;split at h
 ·rename_i e;exact⟨by rw[C.N];exact zhx h,.inl (C.loc x e),.inr (C.loc x e)⟩
 ·rename_i e;exact⟨by rw[C.N];exact zhx h,.inr (C.cel x e).1,.inl (C.cel x e).2⟩
 ·exact noSome h
theorem zij (C:CxOk X S d){x:Str}(h:S.bl x=true):Gl X x/\X.mg x=none:=by
 unfold Sx.bl at h;rw[Ac] at h;exact⟨C.gl x (by simpa using h.1),C.bn x (by simpa using h.2)⟩
theorem ndN (C:CxOk X S d):X.N.Nodup:=by rw[C.N];exact C.nd
end
noncomputable def zja:Expr->Bool
 |.Set ..=>false
 |_=>true
noncomputable def zeg:Expr->Bool
 |.Slice ..=>false
 |_=>true
noncomputable def zhd:Expr->Bool
 |.ListComp ..=>false
 |.SetComp ..=>false
 |.DictComp ..=>false
 |_=>true
noncomputable def zqv:Expr->Bool
 |.UnaryOp .Not _ _=>false
 |.BoolOp ..=>false
 |.IfExp ..=>false
 |.Compare ..=>false
 |_=>true
theorem zyp {e:Expr}{env:Env}(h:zja e=true):∀x,foldedSetIterable e env x=pure x:=by
 intro x;cases e<;>first|rfl|(cases h)
theorem zjf {op:CmpOp}{e:Expr}(h:zja e=true):behindInMarks op e=false:=by
 cases e<;>first|rfl|(cases h)
theorem zk1 {op op' : CmpOp}{b c:Expr}(h:zja c=true):lastMarks [op,op'] [b,c]=false:=zjf h
theorem zsm {e:Expr}(h:zeg e=true):zww e:=λo i=>by
 cases e<;>first|rfl|(cases h)
theorem zqh {e:Expr}{t:Option Expr}{l:Nat}{env:Env}(h:zhd e=true):swapsWith e t l env=pure false:=by
 cases e<;>first|rfl|(cases h)
theorem zr6 {e:Expr}{env:Env}(h:zqv e=true):∀whole,isTrue e env whole=(do let v <- whole;standAt e.pos;holding [v] (truthy v)):=by
 intro whole;cases e with
 |UnaryOp op _ _=>cases op<;>first|rfl|(cases h)
 |_=>first|rfl|(cases h)
theorem zkh {es:List Expr}{env:Env}{pos:Pos} (h:es.all zah=true):(backTo pos (starEach es env)).any (·.1)=false:=by
  induction es with
  |nil=>rfl
  | cons e es ih =>
    rw[Bo,Ac] at h;rw[zal h.1];show (false || (backTo pos (starEach es env)).any (·.1))=false;rw[ih h.2]
    rfl
noncomputable def cPow (i j:Int):Bool:=decide (0<=j) && decide (j<=1000000) && decide (i.natAbs<2 ^ 64)
noncomputable def cMul (i j:Int):Bool:=(decide (-(2 ^ 64)<i) && decide (i<2 ^ 64)) || (decide (-(2 ^ 64)<j) && decide (j<2 ^ 64))
noncomputable def zrp (i j:Int):Bool:=decide (Builtin.Int.intBits i<=2 ^ 20) && decide (Builtin.Int.intBits j<=2 ^ 20)
noncomputable def cDiv (i j:Int):Bool:=decide (0<j) && decide (j.natAbs.log2<9000)
noncomputable def yes2 (_ _:Int):Bool:=true
noncomputable def oAdd:O2:=oOr (oI yes2 λi j=>.int (i+j)) (oOr oCat (oOr zy7 (oOr z8b zy4)))
noncomputable def oMult:O2:=oOr (oI cMul λi j=>.int (i * j)) (oOr (oI zrp λi j=>.int (i * j)) oRep)
noncomputable def binO:Operator->Option O2
 |.Add=>some oAdd
 |.Sub=>some #v[0,0,0]
 |.Mult=>some oMult
 |.FloorDiv=>some #v[0,0,3]
 |.Mod=>some #v[0,0,2]
 |.Pow=>some (oI cPow λi j=>.int (i ^ j.toNat))
 |.LShift=>some #v[0,0,1]
 |.RShift=>some (oI (λ_ j=>decide (0<=j)) λi j=>.int (i / 2 ^ j.toNat))
 |.BitAnd=>some (oI yes2 λi j=>.int (Builtin.bitAnd i j))
 |.BitOr=>some (oI yes2 λi j=>.int (Builtin.bitOr i j))
 |.BitXor=>some (oI yes2 λi j=>.int (Builtin.bitXor i j))
 |_=>none
theorem zvh {i j:Int}(h:cPow i j=true):CPow i j:=by
 unfold cPow at h;rw[Ac,Ac] at h;exact⟨Al h.1.1,Al h.1.2,Al h.2⟩
theorem zx9 {i j:Int}(h:cMul i j=true):CMul i j:=by
 unfold cMul at h;rw[Bz,Ac,Ac] at h;rcases h with h|h
 ·exact .inl ⟨Al h.1,Al h.2⟩
 ·exact .inr ⟨Al h.1,Al h.2⟩
theorem zzp {i j:Int}(h:zrp i j=true):z8w i j:=by
 unfold zrp at h;rw[Ac] at h;exact⟨Al h.1,Al h.2⟩
theorem z5a {i j:Int}(h:cDiv i j=true):0<j/\j.natAbs.log2<9000:=by
 unfold cDiv at h;rw[Ac] at h;exact⟨Al h.1,Al h.2⟩
section
variable {X:Cx}
theorem z6l {op:Operator}{o:O2}(h:binO op=some o):∃r,OpR X (binaryOp op) r/\OpS X.K r o:=by
 cases op with
 |Add=>obtain rfl:=sI h;exact⟨_,yac.or (yaf.or (z37.or (z63.or zrn))),(zco λ_ _ _=>.int _).or (z7z.or (zyq.or (z2a.or z00)))⟩
 |Sub=>obtain rfl:=sI h;exact⟨_,z9u,zco λ_ _ _=>.int _⟩
 |Mult=>obtain rfl:=sI h;exact⟨_,z9y.or (z4j.or z9c),(zmd (λ_ _=>zx9) λ_ _ _=>.int _).or ((zmd (λ_ _=>zzp) λ_ _ _=>.int _).or z62)⟩
 |FloorDiv=>obtain rfl:=sI h;exact⟨_,zyx,zmd (λ_ _=>z5a) λ_ _ _=>.int _⟩
 |Mod=>obtain rfl:=sI h;exact⟨_,z8y,zmd (λ_ _=>Al) λ_ _ _=>.int _⟩
 |Pow=>obtain rfl:=sI h;exact⟨_,z8f,zmd (λ_ _=>zvh) λ_ _ _=>.int _⟩
 |LShift=>obtain rfl:=sI h;exact⟨_,z9e,zmd (λ_ _=>zvh) λ_ _ _=>.int _⟩
 |RShift=>obtain rfl:=sI h;exact⟨_,ybr,zmd (λ_ _=>Al) λ_ _ _=>.int _⟩
 |BitAnd=>obtain rfl:=sI h;exact⟨_,ya5,zco λ_ _ _=>.int _⟩
 |BitOr=>obtain rfl:=sI h;exact⟨_,ycn,zco λ_ _ _=>.int _⟩
 |BitXor=>obtain rfl:=sI h;exact⟨_,ybv,zco λ_ _ _=>.int _⟩
 |_=>exact noSome h
noncomputable def augO:Operator->Option O2
 |.Add=>some (oI yes2 λi j=>.int (i+j))
 |.Sub=>some #v[0,0,0]
 |.Mult=>some (oI cMul λi j=>.int (i * j))
 |.BitAnd=>some (oI yes2 λi j=>.int (Builtin.bitAnd i j))
 |.BitOr=>some (oI yes2 λi j=>.int (Builtin.bitOr i j))
 |.BitXor=>some (oI yes2 λi j=>.int (Builtin.bitXor i j))
 |_=>none
theorem z7b {op:Operator}{o:O2}(h:augO op=some o):∃r,PIp X op r/\OpS X.K r o:=by
 cases op with
 |Add=>obtain rfl:=sI h;exact⟨_,z6z,zco λ_ _ _=>.int _⟩
 |Sub=>obtain rfl:=sI h;exact⟨_,z34,zco λ_ _ _=>.int _⟩
 |Mult=>obtain rfl:=sI h;exact⟨_,z4i,zmd (λ_ _=>zx9) λ_ _ _=>.int _⟩
 |BitAnd=>obtain rfl:=sI h;exact⟨_,z77,zco λ_ _ _=>.int _⟩
 |BitOr=>obtain rfl:=sI h;exact⟨_,yb0,zco λ_ _ _=>.int _⟩
 |BitXor=>obtain rfl:=sI h;exact⟨_,z4a,zco λ_ _ _=>.int _⟩
 |_=>exact noSome h
noncomputable def cmpO:CmpOp->Option O2
 |.Eq=>some oEq
 |.NotEq=>some oNe
 |.Lt=>some (oI yes2 λi j=>.bl (decide (i<j)))
 |.LtE=>some (oI yes2 λi j=>.bl (decide (i<=j)))
 |.Gt=>some (oI yes2 λi j=>.bl (decide (j<i)))
 |.GtE=>some (oI yes2 λi j=>.bl (decide (j<=i)))
 |.IsNot=>some zq0
 |.In=>some (oIn false)
 |.NotIn=>some (oIn true)
 |_=>none
theorem zpb {kr:Nat}(hr:Room kr X.A){op:CmpOp}{o:O2}(h:cmpO op=some o):∃r,OpR X (compareOp op) r/\OpS X.K r o:=by
 cases op with
 |Eq=>obtain rfl:=sI h;exact⟨_,.or yed (z8p hr),ycc⟩
 |NotEq=>obtain rfl:=sI h;exact⟨_,.or yda (yae hr),z9s⟩
 |Lt=>obtain rfl:=sI h;exact⟨_,yd6,zco λ_ _ _=>.bl _⟩
 |LtE=>obtain rfl:=sI h;exact⟨_,yds,zco λ_ _ _=>.bl _⟩
 |Gt=>obtain rfl:=sI h;exact⟨_,ycx,zco λ_ _ _=>.bl _⟩
 |GtE=>obtain rfl:=sI h;exact⟨_,ydb,zco λ_ _ _=>.bl _⟩
 |IsNot=>obtain rfl:=sI h;exact⟨_,z6p.or zu9,ztk⟩
 |In=>obtain rfl:=sI h;exact⟨_,zu4,z2n false⟩
 |NotIn=>obtain rfl:=sI h;exact⟨_,zlu,z2n true⟩
 |_=>exact noSome h
end
noncomputable def zbt (f:Sx->Expr->Option GE) (S:Sx) (e:Expr):Option GA:=match e with
 |.Name x _=>(S.rd x).bind λi=>some (zaa i)
 |_=>(f S e).bind λg=>some (gArg g)
noncomputable def asL (f:Expr->Option GA):List Expr->Option GAs
 |[]=>some gA0
 |e::es=>if zah e then (f e).bind λa=>(asL f es).bind λas=>some (gCns a as) else none
noncomputable def asM (f:Sx->Expr->Option GE) (S:Sx):List Expr->List Bool->Option GAs
 |[],[]=>some gA0
 |e::es,b::m=>if zah e then (if b then zbt f S e else (f S e).bind λg=>some (gArg g)).bind λa=>(asM f S es m).bind λas=>some (gCns a as) else none
 |_,_=>none
noncomputable def zcu (f:Sx->Expr->Option GE):Prop:=∀X S d,CxOk X S d->∀e g,f S e=some g->PE X e (tE X.K g)
noncomputable def zm4 (f:Sx->Expr->Option GT):Prop:=∀X S d,CxOk X S d->∀e g,f S e=some g->PT X e (tT X.K g)
section
variable {X:Cx}{S:Sx}{d:Nat}{f:Sx->Expr->Option GE}
theorem zaf (Hf:zcu f)(C:CxOk X S d){e:Expr}{a:GA}(h:zbt f S e=some a):PE X e (tA X.K a):=by
 unfold zbt at h;split at h
 ·obtain⟨i,hi,h⟩:=bS h;obtain rfl:=sI h;exact (zob C hi).wk λ_ _ _=>zx0
 ·obtain⟨g,hg,h⟩:=bS h;obtain rfl:=sI h;exact (Hf X S d C _ _ hg).wk λ_ _ _=>zkd
theorem zi4 {fa:Expr->Option GA} (Hf:∀e a,fa e=some a->PE X e (tA X.K a)):∀{es:List Expr}{as:GAs},asL fa es=some as->PA X es (tAs X.K as)/\es.all zah=true
  |[],_,h=>by obtain rfl:=sI h;exact⟨zfa.wk λ_ _ _=>zp9,rfl⟩
  | e::es,_,h=>by
    unfold asL at h;split at h
    · rename_i z
      obtain⟨a,ha,h⟩:=bS h;obtain⟨as,has,h⟩:=bS h;obtain rfl:=sI h;obtain⟨p,q⟩:=zi4 Hf has;exact⟨(pac (Hf e a ha) p z).wk λ_ _ _=>zqn,by rw[Bo,z,q];rfl⟩
    · exact noSome h
theorem z3k (Hf:zcu f) (C:CxOk X S d):∀{es:List Expr}{m:List Bool}{as:GAs},asM f S es m=some as->PA X es (tAs X.K as)/\es.all zah=true
  |[],[],_,h=>by obtain rfl:=sI h;exact⟨zfa.wk λ_ _ _=>zp9,rfl⟩
  | e::es,b::m,_,h=>by
    unfold asM at h;split at h
    · rename_i z
      obtain ⟨a,ha,h⟩:=bS h;obtain ⟨as,has,h⟩:=bS h;obtain rfl:=sI h;obtain ⟨p,q⟩:=z3k Hf C has;have pe:PE X e (tA X.K a):=by
        cases b with
        |true=>exact zaf Hf C (by simpa using ha)
        | false =>
          obtain⟨g,hg,ha⟩:=bS (show (f S e).bind _=some a from by simpa using ha);obtain rfl:=sI ha;exact (Hf X S d C _ _ hg).wk λ_ _ _=>zkd
      exact⟨(pac pe p z).wk λ_ _ _=>zqn,by rw[Bo,z,q];rfl⟩
    · exact noSome h
  |[],_::_,_,h=>by exact noSome h
  |_::_,[],_,h=>by exact noSome h
end
noncomputable def cmpE (f:Sx->Expr->Option GE) (S:Sx) (a:Expr) (ops:List CmpOp) (cs:List Expr):Option GE:=match ops,cs with
 |[op],[b]=>if zja b then (zbt f S a).bind λx=>(zbt f S b).bind λy=>(cmpO op).bind λo=>some (gOp2 o x y) else none
 |[op,op'],[b,c]=>if zja c then (zbt f S a).bind λx=>(zbt f S b).bind λy=>(zbt f S c).bind λz=>(cmpO op).bind λo=>(cmpO op').bind λo'=>some (zis o o' x y z) else none
 |_,_=>none
noncomputable def z7d (f:Expr->Option GE) (op:BoolOp):Expr->List Expr->Option GE
 |v,[]=>f v
 |v,u::us=>match op with|.And=>(f v).bind λa=>(z7d f op u us).bind λb=>some (gAnd a b)|.Or=>none
noncomputable def z6i (f:Expr->Option GT) (op:BoolOp):Expr->List Expr->Option GT
 |v,[]=>f v
 |v,u::us=>(f v).bind λa=>(z6i f op u us).bind λb=>some (match op with|.And=>zih a b|.Or=>gOrT a b)
section
variable {X:Cx}{S:Sx}{d:Nat}{f:Sx->Expr->Option GE}
theorem zyk (Hf:zcu f)(C:CxOk X S d){a:Expr}{ops:List CmpOp}{cs:List Expr}{g:GE}{pos:Pos}(h:cmpE f S a ops cs=some g):PE X (.Compare a ops cs pos) (tE X.K g)/\PT X (.Compare a ops cs pos) (tT X.K (zad g)):=by
 unfold cmpE at h;split at h
 ·rename_i op b;split at h
  ·rename_i z;nofun;obtain⟨x,hx,h⟩:=bS h;obtain⟨y,hy,h⟩:=bS h;obtain⟨o,ho,h⟩:=bS h;ac_rfl;obtain rfl:=sI h;obtain⟨r,h1,h2⟩:=zpb (X:=X) C.room ho;exact⟨(z36 h1 (zaf Hf C hx) (zaf Hf C hy) (zjf z)).wk λ_ _ _=>zev h2,(z6o h1 (zaf Hf C hx) (zaf Hf C hy) (zjf z)).wk λ_ _ _=>zgy λ_ _ _=>zev h2⟩
  ·exact noSome h
 ·rename_i op op' b c;split at h
  ·rename_i z;nofun;obtain⟨x,hx,h⟩:=bS h;obtain⟨y,hy,h⟩:=bS h;obtain⟨w,hw,h⟩:=bS h;obtain⟨o,ho,h⟩:=bS h;obtain⟨o',ho',h⟩:=bS h;ac_rfl;obtain rfl:=sI h;nofun;obtain⟨r,h1,h2⟩:=zpb (X:=X) C.room ho;obtain⟨r',h1',h2'⟩:=zpb (X:=X) C.room ho';ac_rfl;exact⟨(zy6 h1 h1' (zaf Hf C hx) (zaf Hf C hy) (zaf Hf C hw) (zk1 z)).wk λ_ _ _=>ziz h2 h2',(z09 h1 h1' (zaf Hf C hx) (zaf Hf C hy) (zaf Hf C hw) (zk1 z)).wk λ_ _ _=>zgy λ_ _ _=>ziz h2 h2'⟩
  ·exact noSome h
 ·exact noSome h
theorem zpt {fe:Expr->Option GE} (Hf:∀e g,fe e=some g->PE X e (tE X.K g)) {op:BoolOp}{pos:Pos}:∀{v:Expr}{vs:List Expr}{g:GE},z7d fe op v vs=some g->PE X (.BoolOp op (v::vs) pos) (tE X.K g)
  |v,[],g,h=>yb3 (Hf v g h)
  | v,u::us,g,h=>by
    cases op with
    | And =>
      obtain⟨a,ha,h⟩:=bS h;obtain⟨b,hb,h⟩:=bS h;obtain rfl:=sI h;exact (z8h (Hf v a ha) (zpt Hf hb)).wk λ_ _ _=>zzf
    |Or=>exact noSome h
theorem zku {fe:Expr->Option GT} (Hf:∀e g,fe e=some g->PT X e (tT X.K g)) {op:BoolOp}{pos:Pos}:∀{v:Expr}{vs:List Expr}{g:GT},z6i fe op v vs=some g->PW X (.BoolOp op (v::vs) pos) (tT X.K g)
  | v,[],g,h=>by
    cases op with
    |And=>exact z5j (Hf v g h)
    |Or=>exact z86 (Hf v g h)
  | v,u::us,g,h=>by
    obtain⟨a,ha,h⟩:=bS h;obtain⟨b,hb,h⟩:=bS h;obtain rfl:=sI h;cases op with
    |And=>exact (z9w (Hf v a ha) (zku Hf hb)).wk λ_ _ _=>ztp
    |Or=>exact (ycr (Hf v a ha) (zku Hf hb)).wk λ_ _ _=>z0s
end
theorem ybx:bootBuiltins "min" = some (.builtin "min"):=by decide +kernel
theorem yav:bootBuiltins "max" = some (.builtin "max"):=by decide +kernel
noncomputable def bltO (x:Str):Option ON :=
 if x == ("len" : Str) then some oLen else if x == ("abs" : Str) then some oAbs else if x == ("int" : Str) then some oInt else if x == ("list" : Str) then some z0z else if x == ("tuple" : Str) then some zdn else if x == ("all" : Str) then some (oBl λbs=>bs.all id) else if x == ("any" : Str) then some (oBl λbs=>bs.any id)
 else if x == ("min" : Str) then some oMin else if x == ("max" : Str) then some oMax else none
section
variable {X:Cx}{S:Sx}{d:Nat}
set_option maxHeartbeats 4000000 in
theorem z6t (C:CxOk X S d){x:Str}{o:ON}{e:Expr}{es:List Expr}{t:TA}{p pos:Pos}(hb:S.bl x=true)(h:bltO x=some o)(ha:PA X (e::es) t)(hst:(e::es).all zah=true):∃r,PE X (.Call (.Name x p) (e::es) [] pos) (tCB r t)/\OpSN X.K r o:=by
 obtain⟨g,m⟩:=zij C hb;rw[Bo,Ac] at hst;have s1:=zal (env:=X.env) (es:=es) hst.1;have s2:=zkh (env:=X.env) (pos:=pos) hst.2;unfold bltO at h;split at h
 ·rename_i z;obtain rfl:=sI h;have e:=Br z;subst e;exact⟨_,zcj zmz g m z2l ha #v[0,9] #v[0,9] s1 s2,z7n⟩
 split at h
 ·rename_i z;obtain rfl:=sI h;have e:=Br z;subst e;exact⟨_,zcj z1j g m z93 ha #v[0,9] #v[0,9] s1 s2,z5n⟩
 split at h
 ·rename_i z;obtain rfl:=sI h;have e:=Br z;subst e;exact⟨_,zgw ztn g m z3a ha #v[0,9] #v[0,9] s1 s2,z5o⟩
 split at h
 ·rename_i z;obtain rfl:=sI h;have e:=Br z;subst e;exact⟨_,zgw zmk g m ztv ha #v[0,9] #v[0,9] s1 s2,zy8⟩
 split at h
 ·rename_i z;obtain rfl:=sI h;have e:=Br z;subst e;exact⟨_,zgw zks g m zpz ha #v[0,9] #v[0,9] s1 s2,zut⟩
 split at h
 ·rename_i z;obtain rfl:=sI h;have e:=Br z;subst e;exact⟨_,zcj (z0h C.calm) g m ybk ha #v[0,9] #v[0,9] s1 s2,z22⟩
 split at h
 ·rename_i z;obtain rfl:=sI h;have e:=Br z;subst e;exact⟨_,zcj (z1m C.calm) g m yb2 ha #v[0,9] #v[0,9] s1 s2,z22⟩
 split at h
 ·rename_i z;obtain rfl:=sI h;have e:=Br z;subst e;exact⟨_,zcj (zt9 C.calm) g m ybx ha #v[0,9] #v[0,9] s1 s2,z69⟩
 split at h
 ·rename_i z;obtain rfl:=sI h;have e:=Br z;subst e;exact⟨_,zcj (zt5 C.calm) g m yav ha #v[0,9] #v[0,9] s1 s2,z7u⟩
 exact noSome h
noncomputable def z8c (x:Str):Option ON:=if x == ("sorted" : Str) then some zgq else bltO x
theorem z0l (C:CxOk X S d){x:Str}{o:ON}{e:Expr}{es:List Expr}{t:TA}{p pos:Pos}(hb:S.bl x=true)(h:z8c x=some o)(ha:PA X (e::es) t)(hst:(e::es).all zah=true):∃r,PE X (.Call (.Name x p) (e::es) [] pos) (tCB r t)/\OpSN X.K r o:=by
 unfold z8c at h;split at h
 ·rename_i z;obtain rfl:=sI h;have e:=Br z;subst e;obtain⟨g,m⟩:=zij C hb;rw[Bo,Ac] at hst;exact⟨_,zcj zrr g m (show bootBuiltins "sorted" = some (.builtin "sorted") from PyProof.Rows.boot_sorted) ha #v[0,9] #v[0,9] (zal hst.1) (zkh hst.2),zss⟩
 ·exact z6t C hb h ha hst
end
noncomputable def kdOf (x:Str):Option Kd:=if x == ("int" : Str) then some .int else if x == ("bool" : Str) then some .bool else if x == ("str" : Str) then some .str else if x == ("tuple" : Str) then some .tuple else if x == ("list" : Str) then some .list else none
theorem z5f {x:Str}{k:Kd}(h:kdOf x=some k):bootBuiltins x=some (.type k.nm)/\x≠("__name__" : Str)/\(x == ("__debug__" : Str))=false:=by
 unfold kdOf at h;split at h
 ·rename_i z;obtain rfl:=sI h;have e:=Br z;subst e;exact⟨z3a,by decide,by decide⟩
 split at h
 ·rename_i z;obtain rfl:=sI h;have e:=Br z;subst e;exact⟨z3y,by decide,by decide⟩
 split at h
 ·rename_i z;obtain rfl:=sI h;have e:=Br z;subst e;exact⟨yal,by decide,by decide⟩
 split at h
 ·rename_i z;obtain rfl:=sI h;have e:=Br z;subst e;exact⟨zpz,by decide,by decide⟩
 split at h
 ·rename_i z;obtain rfl:=sI h;have e:=Br z;subst e;exact⟨ztv,by decide,by decide⟩
 exact noSome h
noncomputable def zc4:W->Option (W × Bool)
 |.int i=>#v[(Builtin.Int.intBits i),0]
 |_=>none
theorem zwa {X:Cx}:MtR X "int.bit_length" (λx vs H Q=>∃i,x=.int i/\vs=[]/\Q (.int (Builtin.Int.intBits i)) H):=by
 intro pins s σ H x vs v us Q I rx rv h;obtain⟨i,rfl,rfl,q⟩:=h;obtain⟨t,rfl⟩:=rx;cases rv;exact call_int_bit_length ⟨.int _,H,I.tok _,⟨_,rfl⟩,q⟩
theorem zog {K:PySem.W.Frag}{a:GA}{σ:St}{H:Hp}{Q:VK} (h:tE K (gOp1 zc4 a) σ H Q):tBM0 K "int" (fun x vs H Q=>∃i,x=.int i/\vs=[]/\Q (.int (Builtin.Int.intBits i)) H) (tA K a) σ H Q:=by
  nofun;obtain⟨F,pr,en,en',rv,R,h,q⟩:=h;obtain⟨⟨e1,x1⟩,h1,h⟩:=bS h;obtain⟨w1,hw1,h⟩:=bS h;obtain⟨r',hr,h⟩:=bS h;ac_rfl;cases h;refine⟨F,pr,en,e1,x1,R,h1,λF1 H1 v1 s1 R1 a1=>?_⟩;cases w1 with
  | int i =>
    obtain rfl:=sI hr;have:=(a1.repB R1 hw1).int;subst this;exact⟨rfl,i,rfl,rfl,q F1 H1 _ s1 R1 (.int _)⟩
  |_=>cases hr
noncomputable def zu2:Expr->Bool
 |.Call _ _ _ _=>true
 |_=>false
theorem zyo {o:Expr}{a:Str}{env:Env}{w:Sem Value}(h:zu2 o=false):attributeBase o a env w=w:=by
 cases o<;>first|rfl|(cases h)
noncomputable def z6m (f:Sx->Expr->Option GE) (S:Sx) (o:Expr) (name:Str) (apos:Pos) (args:List Expr) (cpos:Pos):Option GE :=
  if !(apos.endLine == cpos.line) || zu2 o then none else match args with
  |[]=>if name == ("bit_length" : Str) then (zbt f S o).bind λa=>some (gOp1 zc4 a) else none
  | [e]=>if !zah e then none else match o with
    |.Name x _=>(S.rd x).bind λi=>(f S e).bind λg=>if name == ("append" : Str) then some (gApp i g) else none
    |_=>none
  | [e,e']=>if !(zah e && zah e') || !(name == ("insert" : Str)) then none else match o with
    |.Name x _=>(S.rd x).bind λi=>(f S e).bind λg=>(f S e').bind λg'=>some (gIns i g g')
    |_=>none
  |_=>none
theorem zwc {e:Expr}{env:Env}{cpos:Pos}(h:zah e=true):((backTo cpos (starEach [e] env)).all (λx=>!x.1) && (backToKw cpos (keywordEach [] env)).all (λx=>x.1.isSome) && decide (([e]:List Expr).length+([]:List Keyword).length+(if ([]:List Keyword).isEmpty then 0 else 1)<30))=true:=by
 rw[zal h];rfl
theorem z6w {e e' : Expr}{env:Env}{cpos:Pos}(h:zah e=true)(h' : zah e'=true):((backTo cpos (starEach [e,e'] env)).all (λx=>!x.1) && (backToKw cpos (keywordEach [] env)).all (λx=>x.1.isSome) && decide (([e,e']:List Expr).length+([]:List Keyword).length+(if ([]:List Keyword).isEmpty then 0 else 1)<30))=true:=by
 rw[zal h,zal h'];rfl
section
variable {X:Cx}{S:Sx}{d:Nat}{f:Sx->Expr->Option GE}
theorem z07 (Hf:zcu f)(C:CxOk X S d){o:Expr}{name:Str}{apos cpos:Pos}{args:List Expr}{g:GE}(h:z6m f S o name apos args cpos=some g):PE X (.Call (.Attribute o name apos) args [] cpos) (tE X.K g):=by
 unfold z6m at h;split at h
 ·exact noSome h
 ·rename_i z;rw[Bz,not_or,Bn,Bn,Cq] at z;have hb:=zyo (a:=name) (env:=X.env) (w:=eval o X.env) z.2;split at h
  ·split at h
   ·rename_i y;have e:=Br y;subst e;obtain⟨a,ha,h⟩:=bS h;obtain rfl:=sI h;exact (ycl PySem.F.plainAttrs_int PySem.F.slot_int_bit_length PySem.F.type_int_bit_length zwa (zaf Hf C ha) hb z.1).wk λ_ _ _=>zog
   ·exact noSome h
  ·rename_i e;split at h
   ·exact noSome h
   ·rename_i y;rw[Bn,Cq] at y;split at h
    ·rename_i x px;obtain⟨i,hi,h⟩:=bS h;obtain⟨ge,hg,h⟩:=bS h;have pa:PA X [e] (zdq (tE X.K ge) tNil):=pac (Hf X S d C _ _ hg) zfa y;split at h
     ·rename_i q;obtain rfl:=sI h;have e':=Br q;subst e';exact (z8a PySem.F.plainAttrs_list PySem.F.slot_list_append PySem.F.type_list_append zlb (zob C hi) pa hb (zwc y) z.1 (zal y) rfl).wk λ_ _ _=>zyu
     ·exact noSome h
    ·exact noSome h
  ·rename_i e e';split at h
   ·exact noSome h
   ·rename_i y;rw[Bz,not_or,Bn,Bn,Cq,Cq,Ac] at y;obtain⟨⟨y1,y2⟩,yn⟩:=y;have en:=Br yn;subst en;split at h
    ·rename_i x px;obtain⟨i,hi,h⟩:=bS h;obtain⟨g1,hg1,h⟩:=bS h;obtain⟨g2,hg2,h⟩:=bS h;obtain rfl:=sI h;have pa:PA X [e,e'] (zdq (tE X.K g1) (zdq (tE X.K g2) tNil)):=pac (Hf X S d C _ _ hg1) (pac (Hf X S d C _ _ hg2) zfa y2) y1;exact (z8a PySem.F.plainAttrs_list PySem.F.slot_list_insert PySem.F.type_list_insert zw5 (zob C hi) pa hb (z6w y1 y2) z.1 (zal y1) (by rw[zal y2];rfl)).wk λ_ _ _=>z0c
    ·exact noSome h
  ·exact noSome h
end
noncomputable def z5s (f:Sx->Expr->Option GE) (S:Sx) (x:Str) (args:List Expr):Option GE:=if x == ("__debug__" : Str) then none else match args with
  |[]=>none
  | e::es=>match S.fs.lookup x with
    |some (m,Φ)=>if S.kd.lookup x == some .globalImplicit then (asM f S (e::es) m).bind λas=>some (gCall m Φ as) else none
    | none=>if x == ("isinstance" : Str) && S.bl x then (match e,es with
        |e,[.Name t _]=>if zah e && S.bl t then (kdOf t).bind λk=>(zbt f S e).bind λa=>some (gOp1 (oIsi k) a) else none
        |_,_=>none)
      else if S.bl x then (z8c x).bind λo=>(asL (zbt f S) (e::es)).bind λas=>some (gOpN o as) else none
theorem zzb {X:Cx}{S:Sx}{d:Nat}{f:Sx->Expr->Option GE}(Hf:zcu f)(C:CxOk X S d){x:Str}{args:List Expr}{g:GE}{p pos:Pos}(h:z5s f S x args=some g):PE X (.Call (.Name x p) args [] pos) (tE X.K g):=by
 unfold z5s at h;split at h
 ·exact noSome h
 ·rename_i hdb;rw[Bn] at hdb;split at h
  ·exact noSome h
  ·rename_i e es;split at h
   ·rename_i m Φ hfs;split at h
    ·rename_i hgl;obtain⟨as,has,h⟩:=bS h;obtain rfl:=sI h;obtain⟨ps,hl,cal⟩:=C.fs x m Φ hfs;obtain⟨pa,st⟩:=z3k Hf C has;rw[Bo,Ac] at st;exact (ych cal C.room (C.gl x (by simpa using hgl)) pa (Ad _) hdb (zal st.1) (zkh st.2)).wk λ_ _ _=>zxl
    ·exact noSome h
   ·split at h
    ·rename_i hi;rw[Ac] at hi;have e':=Br hi.1;subst e';obtain⟨gI,mI⟩:=zij C hi.2;split at h
     ·rename_i t pt;split at h
      ·rename_i z;rw[Ac] at z;obtain⟨k,hk,h⟩:=bS h;obtain⟨a,ha,h⟩:=bS h;obtain rfl:=sI h;obtain⟨k1,k2,k3⟩:=z5f hk;obtain⟨gT,mT⟩:=zij C z.2;have pt' : PE X (.Name t pt) (tC (.ty k.nm)):=z71 gT mT k1 rfl k2 k3;have pa:PA X [e,.Name t pt] (zdq (tA X.K a) (zdq (tC (.ty k.nm)) tNil)):=pac (zaf Hf C ha) (pac pt' zfa rfl) z.1;exact (zcj z1g gI mI zkt pa #v[0,9] hdb (zal z.1) rfl).wk λ_ _ _=>z19
      ·exact noSome h
     ·exact noSome h
    ·split at h
     ·rename_i hb;obtain⟨o,ho,h⟩:=bS h;obtain⟨as,has,h⟩:=bS h;obtain rfl:=sI h;obtain⟨pa,st⟩:=zi4 (λe a ha=>zaf Hf C ha) has;obtain⟨r,h1,h2⟩:=z0l (pos:=pos) (p:=p) C hb ho pa st;exact h1.wk λ_ _ _=>zz4 h2
     ·exact noSome h
noncomputable def zum (f:Sx->Expr->Option GE) (S:Sx) (tg e:Expr):Option GL:=if !zja e then none else match e with
  | .Call (.Name x _) args [] _ =>
    if x == ("range" : Str) && S.bl x then (match args with
      |[a]=>if zah a then (asL (zbt f S) [a]).bind λas=>some (za8 as) else none
      |_=>none)
    else if x == ("enumerate" : Str) && S.bl x then (match args,tg with
      |[a],.Tuple _ _ _=>if zah a then (f S a).bind λg=>some (zg0 g) else none
      |_,_=>none)
    else if x == ("reversed" : Str) && S.bl x then (match args with
      |[a]=>if zah a then (f S a).bind λg=>some (gRev g) else none
      |_=>none)
    else if x == ("zip" : Str) && S.bl x then (match args,tg with
      |[a,b],.Tuple _ _ _=>if zah a && zah b then none else none
      |_,_=>none)
    else (f S e).bind λg=>some (zaz g)
  |_=>(f S e).bind λg=>some (zaz g)
theorem zql {X:Cx}{S:Sx}{d:Nat}{f:Sx->Expr->Option GE}(Hf:zcu f)(C:CxOk X S d){tg e:Expr}{g:GL}(h:zum f S tg e=some g):PI X tg e (tI X.K g)/\∀x,foldedSetIterable e X.env x=pure x:=by
 unfold zum at h;split at h
 ·exact noSome h
 ·rename_i hs;rw[Bn,Cq] at hs;refine⟨?_,zyp hs⟩;split at h
  ·rename_i x px args pc;split at h
   ·rename_i z;rw[Ac] at z;have e':=Br z.1;subst e';obtain⟨gl,mg⟩:=zij C z.2;split at h
    ·rename_i a;split at h
     ·rename_i y;obtain⟨as,has,h⟩:=bS h;obtain rfl:=sI h;obtain⟨pa,_⟩:=zi4 (λe a ha=>zaf Hf C ha) has;exact (zw3 gl mg pa (zal y)).wk λ_ _ _=>zto
     ·exact noSome h
    ·exact noSome h
   ·split at h
    ·rename_i z;rw[Ac] at z;have e':=Br z.1;subst e';obtain⟨gl,mg⟩:=zij C z.2;split at h
     ·rename_i a es k1 p1;split at h
      ·rename_i y;obtain⟨ge,hg,h⟩:=bS h;obtain rfl:=sI h;exact (z0j gl mg (pac (Hf X S d C _ _ hg) zfa y) (zal y)).wk λ_ _ _=>zt6
      ·exact noSome h
     ·exact noSome h
    ·split at h
     ·rename_i z;rw[Ac] at z;have e':=Br z.1;subst e';obtain⟨gl,mg⟩:=zij C z.2;split at h
      ·rename_i a;split at h
       ·rename_i y;obtain⟨ge,hg,h⟩:=bS h;obtain rfl:=sI h;exact (z9l gl mg (pac (Hf X S d C _ _ hg) zfa y) (zal y)).wk λ_ _ _=>z0u
       ·exact noSome h
      ·exact noSome h
     ·split at h
      ·rename_i z;rw[Ac] at z;have e':=Br z.1;subst e';obtain⟨gl,mg⟩:=zij C z.2;split at h
       ·rename_i a b es k1 p1;split at h
        ·rename_i y;exact noSome h
        ·exact noSome h
       ·exact noSome h
      ·obtain⟨ge,hg,h⟩:=bS h;obtain rfl:=sI h;exact (z29 (Hf X S d C _ _ hg)).wk λ_ _ _=>zmb
  ·obtain⟨ge,hg,h⟩:=bS h;obtain rfl:=sI h;exact (z29 (Hf X S d C _ _ hg)).wk λ_ _ _=>zmb
noncomputable def zeq (S:Sx):List Expr->Option (List Nat)
 |[]=>some []
 |.Name x _::es=>(S.wr x).bind λi=>(zeq S es).bind λis=>some (i::is)
 |_=>none
noncomputable def tgE (S:Sx):Expr->Option Tg
 |.Name x _=>(S.wr x).bind λi=>some (.nm i)
 |.Tuple es _ _=>(zeq S es).bind λis=>some (.tp is)
 |_=>none
section
variable {X:Cx}{S:Sx}{d:Nat}
theorem zd9 (C:CxOk X S d):∀(es:List Expr) {is:List Nat},zeq S es=some is->PGs X es (zqz is)/\(assignEach es X.env).length=is.length/\(assignEach es X.env).findIdx? (·.1)=none:=by
  intro es
  induction es with
  |nil=>intro is h;obtain rfl:=sI h;exact⟨zyl,rfl,rfl⟩
  | cons e es ih =>
    intro is h;obtain ⟨x,p,rfl⟩ : ∃x p,e=.Name x p:=by
      cases e with
      |Name x p=>exact⟨x,p,rfl⟩
      |_=>exact noSome h
    nofun;obtain⟨i,hi,h⟩:=bS (show (S.wr x).bind _=_ from h);obtain⟨is,his,h⟩:=bS h;ac_rfl;obtain rfl:=sI h;nofun;obtain⟨a,b,c⟩:=ih his;obtain⟨w1,w2,w3⟩:=zst C hi;ac_rfl;refine⟨zjs (zue (ndN C) w1 w2 w3) a rfl,congrArg (· + 1) b,?_⟩;show List.findIdx? (·.1) ((false,assign (.Name x p) X.env)::assignEach es X.env)=none;rw[List.findIdx?_cons,c]
    rfl
theorem z3m (C:CxOk X S d){e:Expr}{T:Tg}(h:tgE S e=some T):PG X e (TGof X.K T):=by
 unfold tgE at h;split at h
 ·obtain⟨i,hi,h⟩:=bS h;obtain rfl:=sI h;obtain⟨w1,w2,w3⟩:=zst C hi;exact zue (ndN C) w1 w2 w3
 ·obtain⟨is,his,h⟩:=bS h;obtain rfl:=sI h;obtain⟨a,b,c⟩:=zd9 C _ his;exact zgv C.calm a b c
 ·exact noSome h
end
section
variable {X:Cx}{S:Sx}{d:Nat}
variable {pins:List (Addr × Obj)}{σ:St}{H F:Hp}{s:Shared}{pr:Prt}{en:En}
end
section
variable {prog:Program}{w:World}{A:Around}{E:Value->Shared->Prop}{s:Shared}
variable {I:Addr}{fp wr:List Addr}{n:Nat}{P:Nat->Value->Prop}{St:Nat->Heap->Prop}{R:Result->Shared->Prop}
end
section
variable {X:Cx}{S:Sx}{d:Nat}
end
noncomputable def lrOk (j:Int):Bool:=zdo j && decide (j<=16777216)
section
variable {X:Cx}
end
section
variable {X:Cx}{S:Sx}{d:Nat}
end
section
variable {K:PySem.W.Frag}{σ:St}{H:Hp}
theorem Reps.eraseIdx {K:PySem.W.Frag}{F:Hp}:∀{xs:List W}{us:List V} (i:Nat),Reps K F xs us->Reps K F (xs.eraseIdx i) (us.eraseIdx i)
 |_,_,_,.nil=>.nil
 |_,_,0,.cons _ r=>r
 |_,_,i+1,.cons q r=>.cons q (Reps.eraseIdx i r)
noncomputable def zo3 (i:Nat) (g:GE):GE:=fun en=>match en[i]? with
  | some (some (.lst _,true))=>(g en).bind fun p=>(intW p.2.1).bind fun k=>match p.1[i]? with
    |some (#v[ws,2])=>if 0<=k/\ws.length<sizeLine then (ws[k.toNat]?).bind λw=>some (p.1.set i (#v[(ws.eraseIdx k.toNat),2]),(w,false)) else none
    |_=>none
  |_=>none
theorem z1f {i:Nat}{g:GE}{Q:VK}(h:tE K (zo3 i g) σ H Q):tBM K "list" z3v (tVar i) (zdq (tE K g) tNil) σ H Q:=by
 nofun;obtain⟨F,pr,en,en',r,R,h,q⟩:=h;ac_rfl;unfold zo3 at h;split at h
 ·rename_i w0 hx0;nofun;obtain⟨a,vs,ws0,q1,q2,q3,q4,q5⟩:=R.ownL hx0;obtain⟨⟨e1,w1,f1⟩,h1,ha⟩:=bS h;obtain⟨k,hk,hc⟩:=bS ha;ac_rfl;clear ha h;refine⟨.ref a,q2,.inl ⟨rfl,vs,SqL.of' q3⟩,F,pr,en,e1,(w1,f1),R,h1,λF1 H1 v1 s1 R1 y1=>?_⟩;split at hc
  ·rename_i ws hx1;have ew:w1=.int k:=by
    cases w1 with
    |int j=>obtain rfl:=sI hk;rfl
    |_=>exact noSome hk
   subst ew;have ek:=y1.isInt;subst ek;by_cases hz:0<=k/\ws.length<sizeLine
   ·rw[if_pos hz] at hc;obtain⟨w,hw,hc⟩:=bS hc;cases hc;nofun;obtain⟨a',vs',ws',p1,p2,p3,p4,p5⟩:=R1.ownL hx1;ac_rfl;cases p1;rw[q2] at p2;cases p2;obtain⟨v,hv,rv⟩:=p5.get hw;have hl:k.toNat<ws.length:=(Aj.mp hw).1;refine⟨a,vs',k,k.toNat,v,rfl,rfl,p3,Int.le_trans #v[0,9] hz.1,?_,?_,hv,?_⟩
    ·have line : sizeLine = 16777216:=Fy;omega
    ·have ix:ixN vs'.length k=some k.toNat:=by
      unfold ixN;rw[if_pos hz.1,if_pos (by rw[<-p5.length];omega)]
     exact (zoo ix).1
    ·exact q F1 _ _ s1 (R1.change hx1 q2 (p5.eraseIdx _)) rv
   ·rw[if_neg hz] at hc;exact noSome hc
  ·exact noSome hc
 ·exact noSome h
theorem yd0 {i:Nat}{g:GE}{en e1:En}{us ws:List W}{k:Nat}{f:Bool}{w:W}(h0:en[i]?=some (#v[us,2]))(h1:g en=some (e1,(.int k,f)))(h2:e1[i]?=some (#v[ws,2]))(hk:ws[k]?=some w)(hz:ws.length<sizeLine):zo3 i g en=some (e1.set i (#v[(ws.eraseIdx k),2]),(w,false)):=by
 unfold zo3;rw[h0];simp only [h1,Dr,intW,h2];rw[if_pos ⟨Go k,hz⟩,Co,hk]
 rfl
end
noncomputable def zm6 (x:Expr->Option GE) (X:Cx):Prop:=∀e g,x e=some g->PE X e (tE X.K g)
section
variable {X:Cx}{S:Sx}{d:Nat}{fE:Sx->Expr->Option GE}
noncomputable def zvy (fE:Sx->Expr->Option GE) (S:Sx):Expr->Option GE
 |.Call (.Attribute (.Name x _) name apos) [e] [] cpos=>if name == ("pop" : Str) && (apos.endLine == cpos.line) && zah e then (S.rd x).bind λi=>(fE S e).bind λg=>some (zo3 i g) else none
 |_=>none
theorem zv8 (HE:zcu fE)(C:CxOk X S d):zm6 (zvy fE S) X:=λe g h=>by
 unfold zvy at h;split at h
 ·split at h
  ·rename_i z;rw[Ac,Ac] at z;obtain⟨⟨z1,z2⟩,y⟩:=z;have e1:=Br z1;subst e1;obtain⟨i,hi,h⟩:=bS h;obtain⟨g1,hg1,h⟩:=bS h;obtain rfl:=sI h;exact (z8a PySem.F.plainAttrs_list PySem.F.slot_list_pop PySem.F.type_list_pop zzy (zob C hi) (pac (HE X S d C _ _ hg1) zfa y) (zyo rfl) (zwc y) z2 (zal y) rfl).wk λ_ _ _=>z1f
  ·exact noSome h
 ·exact noSome h
end
section
variable {K:PySem.W.Frag}{F H:Hp}
end
section
variable {X:Cx}{pins:List (Addr × Obj)}{σ:St}{H:Hp}{s:Shared}{a:Addr}
end
section
variable {K:PySem.W.Frag}{F H:Hp}{pr:Prt}{en:En}{σ:St}
end
section
variable {X:Cx}
end
section
variable {X:Cx}
end
section
variable {X:Cx}{S:Sx}{d:Nat}{fE:Sx->Expr->Option GE}
end
section
variable {X:Cx}{S:Sx}{d:Nat}{fE:Sx->Expr->Option GE}
end
section
variable {X:Cx}{pins:List (Addr × Obj)}{σ:St}{H:Hp}{s:Shared}{a:Addr}{y:V}{u:Value}{A:Around}{E:Value->Shared->Prop}{Q:Value->Shared->Prop}
end
section
variable {K:PySem.W.Frag}{F H:Hp}{pr:Prt}{en:En}{σ:St}
end
section
variable {X:Cx}{S:Sx}{d:Nat}{f:Sx->Expr->Option GE}
end
section
variable {X:Cx}{S:Sx}{d:Nat}{f:Sx->Expr->Option GE}
end
section
variable {prog:Program}{w:World}{A:Around}{E:Value->Shared->Prop}{s:Shared}
variable {K:Type} [DecidableEq K]
variable {I:Addr}{fp wr:List Addr}{n:Nat}{P:Nat->Value->Prop}{St:Nat->Heap->Prop}{R:Result->Shared->Prop}
end
section
variable {prog:Program}{w:World}{A:Around}{E:Value->Shared->Prop}{s:Shared}
end
section
variable {X:Cx}{pins:List (Addr × Obj)}{σ:St}{H:Hp}{s:Shared}{A:Around}{E:Value->Shared->Prop}
end
section
variable {K:PySem.W.Frag}{F H:Hp}
end
section
variable {X:Cx}{S:Sx}{d:Nat}{fE:Sx->Expr->Option GE}
end
section
variable {X:Cx}{pins:List (Addr × Obj)}{σ:St}{H:Hp}
end
section
variable {X:Cx}
variable {S:Sx}{d:Nat}{fE:Sx->Expr->Option GE}
end
section
variable {prog:Program}{w:World}{A:Around}{E:Value->Shared->Prop}{s:Shared}{it d v:Addr}{o:Obj}{es:Array DictEntry}{i ep:Nat}
end
section
variable {X:Cx}{tg:Expr}
end
section
variable {X:Cx}{S:Sx}{d:Nat}{f:Sx->Expr->Option GE}
end
section
variable {prog:Program}{w:World}{A:Around}{E:Value->Shared->Prop}{s:Shared}
end
section
variable {X:Cx}{pins:List (Addr × Obj)}{σ:St}{H:Hp}{s:Shared}{A:Around}{E:Value->Shared->Prop}
end
section
variable {X:Cx}{S:Sx}{d:Nat}{fE:Sx->Expr->Option GE}
end
section
variable {X:Cx}
end
section
variable {K:PySem.W.Frag}{F H:Hp}{pr pb:Prt}{en:En}{σ:St}
end
section
variable {K:PySem.W.Frag}{mp:List Nat}{pb:Prt}{acc:Addr}
end
section
variable {X:Cx}{S:Sx}{d:Nat}{f:Sx->Expr->Option GE}
end
noncomputable def chW (x:Str):List W:=x.cps.toList.map λc=>W.str ⟨#[c]⟩
noncomputable def seqS:W->Option (List W)
 |.str x=>some (chW x)
 |w=>seqW w
section
variable {prog:Program}{w:World}{A:Around}{E:Value->Shared->Prop}{s:Shared}
end
section
variable {K:PySem.W.Frag}{F:Hp}
end
section
variable {X:Cx}{tg:Expr}
end
noncomputable def ydy (g:GE):GL:=λen=>(g en).bind λp=>(seqS p.2.1).bind λws=>some (p.1,ws)
noncomputable def yb1 (g:GE):GL:=λen=>(g en).bind λp=>match p.2.1 with
 |.str x=>some (p.1,zej (chW x) 0)
 |_=>none
section
variable {K:PySem.W.Frag}{σ:St}{H:Hp}
end
noncomputable def tN (S:Sx):Expr->Bool
 |.Name x _=>S.bn.contains ("t "++x:Str)
 |.Call (.Name x _) _ _ _=>S.bn.contains ("t "++x:Str)
 |_=>false
noncomputable def yew (f:Sx->Expr->Option GE) (S:Sx) (tg e:Expr):Option GL:=match e with
  |.Name x p=>if tN S (.Name x p) then (f S (.Name x p)).bind λg=>some (ydy g) else none
  | .Call (.Name x _) [.Name y q] [] _=>(match tg with
    |.Tuple _ _ _=>if x == ("enumerate" : Str) && S.bl x && tN S (.Name y q) then (f S (.Name y q)).bind λg=>some (yb1 g) else none
    |_=>none)
  |_=>none
section
variable {X:Cx}{S:Sx}{d:Nat}{f:Sx->Expr->Option GE}
end
noncomputable def oIxS:O2
 |.str x,.int i=>if x.length<=sizeLine then (atI x.cps.toList i).bind λc=>some (.str ⟨#[c]⟩,false) else none
 |_,_=>none
noncomputable def z3n:List W->Option (List Str)
 |[]=>some []
 |.str x::ws=>(z3n ws).bind λxs=>some (x::xs)
 |_=>none
noncomputable def yem (x:Str) (g:GE):GE:=λen=>(g en).bind λp=>match p.2.1 with
 |.lst ws=>(z3n ws).bind λys=>if (ys.map (·.length)).sum+ys.length * x.length<=16777216 then some (p.1,(.str (Txt.join x ys),false)) else none
 |_=>none
section
variable {K:PySem.W.Frag}
end
section
variable {K:PySem.W.Frag}{σ:St}{H:Hp}
end
section
open PySem.AutoSeq1 (wpAny_loadPart')
end
noncomputable def keyP:W->Option (List Int)
 |.tup [.int i,.tup us]=>(zcy us).bind λns=>some (i::ns)
 |_=>none
section
variable {X:Cx}{S:Sx}{d:Nat}{fE:Sx->Expr->Option GE}
noncomputable def ydk (fE:Sx->Expr->Option GE) (S:Sx):Expr->Option GE
 |.Call (.Attribute (.Constant (.str x) _ _) name apos) [e] [] cpos=>if name == ("join" : Str) && (apos.endLine == cpos.line) && zah e then (fE S e).bind λg=>some (yem x g) else none
 |_=>none
end
set_option maxHeartbeats 1000000
section
variable {prog:Program}{w:World}{A:Around}{E:Value->Shared->Prop}{s:Shared}
end
section
variable {prog:Program}{w:World}{A:Around}{E:Value->Shared->Prop}{s:Shared}
end
noncomputable def tRT (K:PySem.W.Frag) (ta:TA):TE:=λσ H Q=>ta σ H λvs H1=>∃a xs,vs=[.ref a]/\SqT K H1 a xs/\∀p,H1 p=none->Q (.ref p) (upd H1 p (.tup xs.reverse))
noncomputable def ycv (w:W):Option (W × Bool):=match w with
 |.tup ws=>#v[ws.reverse,3]
 |_=>none
noncomputable def yau (as:GAs):GE:=λen=>(as en).bind λp=>match zar p.1 p.2 with
 |some [w]=>(ycv w).bind λr=>some (p.1,r)
 |_=>none
section
variable {X:Cx}{S:Sx}{d:Nat}{fE:Sx->Expr->Option GE}
theorem ycm {K:PySem.W.Frag}{as:GAs}{σ:St}{H:Hp}{Q:VK} (h:tE K (yau as) σ H Q):tRT K (tAs K as) σ H Q:=by
  obtain⟨F,pr,en,en',r,Re,h,q⟩:=h;obtain⟨⟨e1,xs⟩,h1,h⟩:=bS h;refine⟨F,pr,en,e1,xs,Re,h1,λF1 H1 vs s1 R1 a1=>?_⟩;cases e:zar e1 xs with
  |none=>simp only [e] at h;exact noSome h
  | some us =>
    have rr:=a1.repBs R1 e
    match us,e,rr with
    | [w],e,rr =>
      simp only [e] at h;obtain⟨r',hr,h⟩:=bS h;obtain rfl:=(Prod.mk.inj (sI h)).1;obtain rfl:=(Prod.mk.inj (sI h)).2;obtain⟨v,e2,hv⟩:=rr.one;subst e2;cases w with
      | tup ws =>
        obtain rfl:=sI hr;obtain⟨a,us,e3,hh,hf,p⟩:=hv.tup R1.sub;subst e3;refine⟨a,us,rfl,.inl (.inl hh),λl hl=>?_⟩;obtain⟨F9,s9,R9,y9⟩:=(Out.tup (K:=K) (F:=F1) (H:=H1) (p:=l) hl p.reverse).close R1;exact q F9 _ _ (s1.trans s9) R9 y9
      |_=>exact noSome hr
    |[],e,_=>simp only [e] at h;exact noSome h
    |_::_::_,e,_=>simp only [e] at h;exact noSome h
noncomputable def yen (fE:Sx->Expr->Option GE) (S:Sx):Expr->Option GE
 |.Call (.Name x _) [.Call (.Name y _) [a] [] _] [] _=>if x == ("tuple" : Str) && y == ("reversed" : Str) && S.bl x && S.bl y && zah a then (asL (zbt fE S) [a]).bind λas=>some (yau as) else none
 |_=>none
end
theorem z89:bootBuiltins "set" = some (.type "set"):=by decide +kernel
noncomputable def cntI (ns:List Int):Nat:=(firstMet (λi=>ns.getD i 0) ns.length).length
noncomputable def tLS (K:PySem.W.Frag) (ta:TA):TE:=λσ H Q=>ta σ H λvs H1=>∃a,∃ns:List Int,vs=[.ref a]/\SqL K H1 a (ns.map V.int)/\ns.length<=1000/\Q (.int (cntI ns:Nat)) H1
noncomputable def zsz (as:GAs):GE:=λen=>(as en).bind λp=>match zar p.1 p.2 with
 |some [.lst ws]=>(zcy ws).bind λns=>if ns.length<=1000 then some (p.1,(.int (cntI ns:Nat),false)) else none
 |_=>none
theorem z6r {as:GAs}{en e1:En}{xs:List (W ⊕ Nat)}{ns:List Int}(h:as en=some (e1,xs))(r:zar e1 xs=some [.lst (ns.map W.int)])(q:ns.length<=1000):zsz as en=some (e1,(.int (cntI ns:Nat),false)):=by
 unfold zsz;rw[h];show (match zar e1 xs with
  |some [.lst ws]=>(zcy ws).bind λns=>if ns.length<=1000 then some (e1,(W.int (cntI ns:Nat),false)) else none
  |_=>none)=_
 rw[r];show (zcy (ns.map W.int)).bind _=_;rw[zfk];show (if ns.length<=1000 then some (e1,(W.int (cntI ns:Nat),false)) else none)=_;rw[if_pos q]
section
variable {X:Cx}{S:Sx}{d:Nat}{fE:Sx->Expr->Option GE}
theorem yea {a:Expr}{ta:TA}{p p' pos pos' : Pos} (hc:X.calm=true) (gl:Gl X "len") (ml:X.mg "len" = none) (hg:Gl X "set") (hm:X.mg "set" = none) (ha:PA X [a] ta) (hs:starEach [a] X.env=[(false,eval a X.env)]):PE X (.Call (.Name "len" p) [.Call (.Name "set" p') [a] [] pos'] [] pos) (tLS X.K ta):=by
  intro pins s σ H Q I h;refine Call_ (zf6 I gl ml z2l (PyProof.Rows.callWith_builtin1 (Calls.spliced_cons ?_) rfl rfl));refine Call_ (zf6 I hg hm z89 (Dn (thn (ha pos' pins s σ H _ I h) λus s1 ⟨vs,H1,I1,r1,q1⟩=>?_) hs rfl));nofun;obtain⟨a,ns,e,hq,hn,q⟩:=q1;ac_rfl;subst e;cases r1 with
  | cons r rr =>
    cases rr;cases r;nofun;obtain⟨its,rv,p',hz⟩:=I1.list hq;ac_rfl;have hl:its.length=ns.length:=by rw[<-rv.length,Ae]
    have sz:its.toArray.size=ns.length:=by rw[Ah];exact hl
    refine call_set_list (ns:=ns) (I1.ok.hd hc) p'.isList (zs7 rv) (by rw[sz];show ns.length+1<4096;omega) λh' tk hS kp=>?_;refine Calls.spliced_nil ?_;rw[sz] at hS;obtain⟨o,es,ep,t,ho,hex,hd,_,_,hlt,hf,hn2⟩:=hS;refine call_len_set ho hex hd hf (by have:es.size<4096:=hlt;omega) ?_;rw[hn2];exact⟨.int (cntI ns:Nat),H1,I1.kept (t':=tk+1+1) λb o e=>kp b o (As e) e,⟨_,rfl⟩,q⟩
theorem z4u {K:PySem.W.Frag}{as:GAs}{σ:St}{H:Hp}{Q:VK} (h:tE K (zsz as) σ H Q):tLS K (tAs K as) σ H Q:=by
  obtain⟨F,pr,en,en',r,Re,h,q⟩:=h;obtain⟨⟨e1,xs⟩,h1,h⟩:=bS h;refine⟨F,pr,en,e1,xs,Re,h1,λF1 H1 vs s1 R1 a1=>?_⟩;cases e:zar e1 xs with
  |none=>simp only [e] at h;exact noSome h
  | some us =>
    have rr:=a1.repBs R1 e
    match us,e,rr with
    | [w],e,rr =>
      cases w with
      | lst ws =>
        simp only [e] at h;obtain⟨ns,hi,h⟩:=bS h;split at h
        · rename_i z
          obtain rfl:=(Prod.mk.inj (sI h)).1;obtain rfl:=(Prod.mk.inj (sI h)).2;obtain⟨v,e2,hv⟩:=rr.one;subst e2;obtain⟨a,us,e3,hh,p⟩:=hv.lst R1.sub;subst e3;have ew:=zdt hi;subst ew;have eu:=p.ints;subst eu;refine⟨a,ns,rfl,SqL.of' hh,z,?_⟩;obtain⟨F9,s9,R9,y9⟩:=(Out.val (K:=K) (F:=F1) (H:=H1) (Rep.int (cntI ns:Nat))).close R1;exact q F9 _ _ (s1.trans s9) R9 y9
        · exact noSome h
      |_=>simp only [e] at h;exact noSome h
    |[],e,_=>simp only [e] at h;exact noSome h
    |_::_::_,e,_=>simp only [e] at h;exact noSome h
noncomputable def zn1 (fE:Sx->Expr->Option GE) (S:Sx):Expr->Option GE
 |.Call (.Name x _) [.Call (.Name y _) [a] [] _] [] _=>if x == ("len" : Str) && y == ("set" : Str) && S.bl x && S.bl y && zah a then (asL (zbt fE S) [a]).bind λas=>some (zsz as) else none
 |_=>none
theorem zsy (HE:zcu fE)(C:CxOk X S d):zm6 (zn1 fE S) X:=λe g h=>by
 unfold zn1 at h;split at h
 ·split at h
  ·rename_i z;simp only [Ac] at z;obtain⟨⟨⟨⟨z1,z2⟩,z3⟩,z4⟩,z5⟩:=z;have e1:=Br z1;have e2:=Br z2;subst e1 e2;obtain⟨as,has,h⟩:=bS h;obtain rfl:=sI h;obtain⟨pa,_⟩:=zi4 (λe a ha=>zaf HE C ha) has;obtain⟨g1,m1⟩:=zij C z3;obtain⟨g2,m2⟩:=zij C z4;exact (yea C.calm g1 m1 g2 m2 pa (zal z5)).wk λ_ _ _=>z4u
  ·exact noSome h
 ·exact noSome h
end
namespace SetT
theorem getD_lt {xs:Array Nat}{i j:Nat}(h:i<xs.size):xs.getD i j=xs.getD i 0:=by
 unfold Array.getD;rw[dif_pos h,dif_pos h]
noncomputable abbrev HT:=Array Int × SetTable
end SetT
section
variable {prog:Program}{w:World}{A:Around}{E:Value->Shared->Prop}{s:Shared}
end
section
variable {prog:Program}{w:World}{A:Around}{R:Result->Shared->Prop}{I:Addr}{fp wr:List Addr}{G:Array GenState->Array GenState->Prop}{n:Nat}{P:Nat->Value->Prop}{St:Nat->Shared->Prop}
end
section
variable {prog:Program}{w:World}{A:Around}{E:Value->Shared->Prop}{s:Shared}
end
end L2
namespace L2
open PySem PySem.Spec PyProof.Rows
section
variable {prog:Program}{w:World}{A:Around}{E:Value->Shared->Prop}{s:Shared}{it d:Addr}{es:Array (Int × Value)}{ep slot i:Nat}{t:SetTable}
end
section
variable {prog:Program}{w:World}{A:Around}{E:Value->Shared->Prop}{s:Shared}
end
section
variable {X:Cx}{pins:List (Addr × Obj)}{σ:St}{H:Hp}
end
section
variable {X:Cx}{pins:List (Addr × Obj)}{σ:St}{H:Hp}
end
section
variable {X:Cx}{S:Sx}{d:Nat}{fE:Sx->Expr->Option GE}
end
section
open PySem.AutoSeq1 (wpAny_loadPart')
theorem zb7:fillsNumberSlot (.type "tuple") "mul" = pure false :=
 PySem.fillsNumberSlot_seq (id := "tuple.__mul__") (r:=some (.builtin "tuple.__rmul__")) F.slot_tuple_mul.lookup #v[0,0,7] F.slot_tuple_rmul.lookup #v[0,0,7]
theorem zd0:seqRepeat? (.type "tuple")=pure (some (.builtin "tuple.__mul__")):=by
 unfold seqRepeat?;rw[PySem.seqSlot_of (T := "tuple") (name := "__mul__") (id := "tuple.__mul__") F.slot_tuple_mul.lookup #v[0,0,7],PySem.seqSlot_of (T := "tuple") (name := "__rmul__") (id := "tuple.__rmul__") F.slot_tuple_rmul.lookup #v[0,0,7]]
 rfl
theorem zcr (a:Int) (t:Tok) (l:Addr) (items:Array Value) (n:Nat) (dd:Option Addr) (sl:Array (Option Value)) :
  Meets (Builtin.«int.__rmul__» ⟨[.int a t,.ref l],[]⟩) (λ_ R s=>s.heap.get? l=some { cls:=.type "tuple",dict:=dd,data:=.seq items n,slots:=sl }/\R (.ok (.ret Value.notImplemented)) s) :=
 .of_wp λprog w A R s h=>by obtain⟨hp,g,d,tk,os⟩:=s;obtain⟨hl,h⟩:=h;wp_walk;exact⟨_,rfl,h⟩
theorem zjt (l:Addr) (items:Array Value) (n:Nat) (dd:Option Addr) (sl:Array (Option Value)) (u:Tok) :
  Meets (Builtin.«tuple.__mul__» ⟨[.ref l,.int 1 u],[]⟩) (λ_ R s=>s.heap.get? l=some { cls:=.type "tuple",dict:=dd,data:=.seq items n,slots:=sl }/\R (.ok (.ret (Value.ref l))) s) :=
 .of_wp λprog w A R s h=>by
  obtain⟨hp,g,d,tk,os⟩:=s;obtain⟨hl,h⟩:=h
  wp_walk using Cv hl
  exact⟨_,rfl,h⟩
theorem zh7 (l:Addr) (items:Array Value) (n:Nat) (dd:Option Addr) (sl:Array (Option Value)) (u:Tok) (hi:items.isEmpty=false) :
  Meets (Builtin.«tuple.__mul__» ⟨[.ref l,.int 0 u],[]⟩) (λ_ R s=>s.heap.get? l=some { cls:=.type "tuple",dict:=dd,data:=.seq items n,slots:=sl }/\R (.ok (.ret (Value.ref s.heap.objs.size))) { s with heap:=s.heap.push { cls:=Value.type "tuple",data:=Data.seq #[] } }) :=
 .of_wp λprog w A R s h=>by
  obtain⟨hp,g,d,tk,os⟩:=s;obtain⟨hl,h⟩:=h
  wp_walk using Cv hl
  exact⟨_,rfl,h⟩
theorem zo7 (xs:Array Value)(k:Nat):(List.foldl (λx1 x2=>x1++x2) #[] (List.replicate k xs)).size=k * xs.size:=by
 rw[AutoListH.size_joined];simp
theorem zn7 (l:Addr) (items:Array Value) (n:Nat) (dd:Option Addr) (sl:Array (Option Value)) (k:Int) (u:Tok) (c0:¬ (decide (k < -(2 ^ 63)) || decide (k ≥ 2 ^ 63))=true) (c1:¬ (items.isEmpty || k == 1)=true) (c2:¬ (decide (k<=0) || items.isEmpty)=true) (c3:¬ ((items.size:Int) * k > (2 ^ 63 - 1) / 8)) (c4:¬ Builtin.Tuple.tupleTooMany ((items.size:Int) * k)=true) (hz:items.size * k.toNat<=sizeLine) :
  Meets (Builtin.«tuple.__mul__» ⟨[.ref l,.int k u],[]⟩) (λ_ R s=>s.heap.get? l=some { cls:=.type "tuple",dict:=dd,data:=.seq items n,slots:=sl }/\R (.ok (.ret (Value.ref s.heap.objs.size))) { s with heap:=s.heap.push { cls:=Value.type "tuple",data:=Data.seq (List.foldl (λx1 x2=>x1++x2) #[] (List.replicate k.toNat items)) } }) :=
 .of_wp λprog w A R s h=>by
  obtain⟨hp,g,d,tk,os⟩:=s;obtain⟨hl,h⟩:=h;have hsz:(List.foldl (λx1 x2=>x1++x2) #[] (List.replicate k.toNat items)).size<=sizeLine:=by rw[zo7,Gm];exact hz
  wp_walk using Cv hl
  refine wpAny_ite_split (λz=>absurd z c0) λ_=>?_
  wp_walk
  refine wpAny_ite_split (λz=>absurd z c3) λ_=>?_
  wp_walk
  first
   |exact⟨_,rfl,h⟩
   |(refine wpAny_ite_false (Ak (Nat.not_lt.mpr hsz)) ?_;wp_walk;exact⟨_,rfl,h⟩)
   |(unfold Builtin.Tuple.tupleExact;refine Ab (Ce ?_ hsz);exact Ao ⟨_,rfl,h⟩)
end
noncomputable def ycf (K:PySem.W.Frag):R2:=λx y H Q=>∃a xs,x=.ref a/\SqT K H a xs/\xs≠[]/\((y=.int 1/\Q (.ref a) H)\/(y=.int 0/\∀p,H p=none->Q (.ref p) (upd H p (.tup [])))\/∃k:Int,y=.int k/\2<=k/\k<4611686018427387904/\xs.length * k.toNat<=sizeLine/\∀p,H p=none->Q (.ref p) (upd H p (.tup (List.replicate k.toNat xs).flatten)))
theorem z4v {X:Cx}:OpR X (binaryOp .Mult) (ycf X.K):=by
 intro pins s σ H x y v u Q I rx ry h;nofun;obtain⟨a,xs,rfl,ha,hx,h⟩:=h;ac_rfl;cases rx;nofun;obtain⟨its,r,ht,hz⟩:=I.tuple ha;obtain⟨⟨cls,dd,data,sl⟩,ho,hc,n,hd⟩:=id ht;ac_rfl;simp only at hc hd;subst hc hd;have hne:its.toArray.isEmpty=false:=by
  cases its with
  |nil=>exact absurd (r.nil_iff.mp rfl) hx
  |cons _ _=>rfl
 rcases h with⟨rfl,q⟩|⟨rfl,q⟩|⟨k,rfl,h2,h3,hzz,q⟩
 ·obtain ⟨t, rfl⟩ := ry;exact Fh (T := "tuple") (U := "int") (by decide) ht.typeIs (fun s'=>Fx s' 1 t) zb7 PySem.F.fills_int_mul Dx zd0 PySem.F.slot_int_index.lookup
   (Em Dx (Fx s 1 t) PySem.F.entry_int_rmul (PySem.F.args_int_rmul_2 _ _) (zcr 1 t a its.toArray n dd sl)
    ⟨ho,rfl,ht.typeIs,Em PySem.F.slot_tuple_mul ht.typeIs PySem.F.entry_tuple_mul (Gz _ _) (zjt a its.toArray n dd sl t) ⟨ho,.ref a,H,I,rfl,q⟩⟩)
 ·obtain ⟨t, rfl⟩ := ry;refine Fh (T := "tuple") (U := "int") (by decide) ht.typeIs (fun s'=>Fx s' 0 t) zb7 PySem.F.fills_int_mul Dx zd0 PySem.F.slot_int_index.lookup
   (Em Dx (Fx s 0 t) PySem.F.entry_int_rmul (PySem.F.args_int_rmul_2 _ _) (zcr 0 t a its.toArray n dd sl)
    ⟨ho,rfl,ht.typeIs,Em PySem.F.slot_tuple_mul ht.typeIs PySem.F.entry_tuple_mul (Gz _ _) (zh7 a its.toArray n dd sl t hne) ⟨ho,?_⟩⟩)
  exact⟨.ref s.heap.objs.size,_,I.laid (t':=s.toks) (o:=.tup []) (λb ob q=>Ai _ q) (Ad _) ⟨Ca _,[],.nil,IsTup.new _ _⟩,rfl,q _ (I.hok.fresh (Ad _))⟩
 ·obtain⟨t,rfl⟩:=ry;have zl:its.toArray.size=xs.length:=by rw[Ah];exact r.length.symm
  have sl9:sizeLine=16777216:=Fy;have pos:0<its.toArray.size:=by rw[zl];exact List.length_pos_iff.mpr hx
  have hzz' : its.toArray.size * k.toNat<=sizeLine:=by rw[zl];exact hzz
  have ek:((its.toArray.size * k.toNat:Nat):Int)=(its.toArray.size:Int) * k:=by rw[Int.natCast_mul,Int.toNat_of_nonneg #v[]]
  have c0:¬ (decide (k < -(2 ^ 63)) || decide (k ≥ 2 ^ 63))=true:=by simp only [Bz,Bp];omega
  have c1:¬ (its.toArray.isEmpty || k == 1)=true:=by rw[hne];simp only [Bool.false_or,Gn];omega
  have c2:¬ (decide (k<=0) || its.toArray.isEmpty)=true:=by rw[hne];simp only [Bool.or_false,Bp];omega
  have c3:¬ ((its.toArray.size:Int) * k > (2 ^ 63 - 1) / 8):=by rw[<-ek];omega
  have c4:¬ Builtin.Tuple.tupleTooMany ((its.toArray.size:Int) * k)=true:=by
   unfold Builtin.Tuple.tupleTooMany;rw[<-ek,Bp];omega
  refine Fh (T := "tuple") (U := "int") #v[0,9] ht.typeIs (λs'=>Fx s' k t) zb7 PySem.F.fills_int_mul Dx zd0 PySem.F.slot_int_index.lookup
   (Em Dx (Fx s k t) PySem.F.entry_int_rmul (PySem.F.args_int_rmul_2 _ _) (zcr k t a its.toArray n dd sl)
    ⟨ho,rfl,ht.typeIs,Em PySem.F.slot_tuple_mul ht.typeIs PySem.F.entry_tuple_mul (Gz _ _) (zn7 a its.toArray n dd sl k t c0 c1 c2 c3 c4 hzz') ⟨ho,?_⟩⟩)
  have hnew:List.foldl (λx1 x2=>x1++x2) #[] (List.replicate k.toNat its.toArray)=(List.replicate k.toNat its).flatten.toArray:=by
   have:=zgz its k.toNat [];rw[List.nil_append] at this;exact this
  rw[hnew];exact⟨.ref s.heap.objs.size,_,I.laid (t':=s.toks) (o:=.tup (List.replicate k.toNat xs).flatten) (λb ob q=>Ai _ q) (Ad _) ⟨by rw[zvo,Gm];exact hzz,_,r.rep k.toNat,IsTup.new _ _⟩,rfl,q _ (I.hok.fresh (Ad _))⟩
noncomputable def zo4:O2
 |.tup (x::xs),.int k=>if k=1 then #v[(x::xs),3] else if k=0 then #v[[],3] else if 2<=k/\k<4611686018427387904/\(x::xs).length * k.toNat<=sizeLine then #v[(List.replicate k.toNat (x::xs)).flatten,3] else none
 |_,_=>none
theorem zy2 {K:PySem.W.Frag}:OpS K (ycf K) zo4:=fun F H w1 w2 v1 v2 rv Q s r1 r2 e q=>by
  cases w1 with
  | tup xs =>
    cases xs with
    |nil=>cases w2<;>exact noSome e
    | cons x xs =>
      cases w2 with
      | int k =>
        unfold zo4 at e;simp only at e;nofun;obtain⟨a,vs,e1,h1,f1,p1⟩:=r1.tup s;ac_rfl;refine⟨a,vs,e1,.inl (.inl h1),(by intro z;subst z;cases p1),?_⟩;split at e
        · rename_i z
          obtain rfl:=sI e;subst z;exact .inl ⟨r2.int,q _ _ (.val (.tup f1 p1))⟩
        · split at e
          · rename_i z
            obtain rfl:=sI e;subst z;exact .inr (.inl ⟨r2.int,λp hp=>q _ _ (.tup hp .nil)⟩)
          · split at e
            · rename_i z
              obtain rfl:=sI e;exact .inr (.inr ⟨k,r2.int,z.1,z.2.1,by rw[<-p1.length];exact z.2.2,λp hp=>q _ _ (.tup hp (p1.rep _))⟩)
            · exact noSome e
      |_=>exact noSome e
  |_=>exact noSome e
noncomputable def z9q:Expr->Bool
 |.Tuple ..=>true
 |.Subscript _ (.Slice ..) _=>true
 |_=>false
noncomputable def zoq (fE:Sx->Expr->Option GE) (S:Sx):Expr->Option GE
 |.BinOp a .Mult b _=>if z9q a then (zbt fE S a).bind λx=>(zbt fE S b).bind λy=>some (gOp2 zo4 x y) else none
 |_=>none
section
variable {X:Cx}{S:Sx}{d:Nat}{fE:Sx->Expr->Option GE}
theorem zsl (HE:zcu fE)(C:CxOk X S d):zm6 (zoq fE S) X:=λe g h=>by
 unfold zoq at h;split at h
 ·split at h
  ·obtain⟨x,hx,h⟩:=bS h;obtain⟨y,hy,h⟩:=bS h;obtain rfl:=sI h;exact (z9k z4v (zaf HE C hx) (zaf HE C hy)).wk λ_ _ _=>zev zy2
  ·exact noSome h
 ·exact noSome h
end
section
open PySem.AutoSeq1 (wpAny_loadPart')
variable {prog:Program}{w:World}{A:Around}{E:Value->Shared->Prop}{s:Shared}
end
noncomputable def yev (as:GAs):GE:=λen=>(as en).bind λp=>match zar p.1 p.2 with
 |some [.int j]=>if lrOk j then some (p.1,(.tup (rngW 0 j.toNat),false)) else none
 |_=>none
section
variable {X:Cx}{S:Sx}{d:Nat}{fE:Sx->Expr->Option GE}
end
theorem zz6 (xs:Array Value):((List.range xs.size).filterMap fun (k:Nat)=>xs[(((xs.size:Int) - 1)+(k:Int) * (-1)).toNat]?).toArray=xs.toList.reverse.toArray:=by
  have e:(List.range xs.size).filterMap (fun (k:Nat)=>xs[(((xs.size:Int) - 1)+(k:Int) * (-1)).toNat]?)=((List.range xs.size).map fun k=>xs.size - 1 - k).filterMap (xs[·]?):=by
    rw [List.filterMap_map];have go:∀l:List Nat,(∀k∈l,k < xs.size)->l.filterMap (fun (k:Nat)=>xs[(((xs.size:Int) - 1)+(k:Int) * (-1)).toNat]?)=l.filterMap ((fun x=>xs[x]?) ∘ fun k=>xs.size - 1 - k):=by
      intro l
      induction l with
      |nil=>intro _;rfl
      | cons k l ih =>
        intro h;have hk:=h k Au;have:(((xs.size:Int) - 1)+(k:Int) * (-1)).toNat=xs.size - 1 - k:=by omega
        rw[Fa,Fa,this,ih λj hj=>h j (Aq _ hj)]
        rfl
    exact go _ λk hk=>Bh.mp hk
  rw[e,PySem.W.krv_range,List.filterMap_reverse,PySem.W.krv_all]
section
variable {prog:Program}{w:World}{A:Around}{E:Value->Shared->Prop}{s:Shared}
theorem zge {sl:Addr}{vk:Value}{n:Nat}{Q:Int × Int × Nat->Shared->Prop} (hs:s.heap.IsSliceOf sl .none .none vk) (pk:IsPart vk (some (-1)))
  (h:Q ((n:Int) - 1,-1,n) s):wpAny (model prog w) A (Builtin.Slice.sliceApplied (.ref sl) (pure (n:Int))) Q E s:=by
 obtain⟨os,hos,hcs,hds⟩:=id hs;unfold Builtin.Slice.sliceApplied Builtin.Slice.sliceFields;refine Ab (Ab (Eh hos hds (x:=.none) rfl (Ab (Eh hos hds (x:=.none) rfl (Ab (Eh hos hds (x:=vk) rfl (Ao ?_)))))));refine Ab (HT.slicePart_ pk ?_);show wpAny _ _ (if ((-1:Int) == 0)=true then _ else _) _ _ s;rw[if_neg #v[0,9]];refine Ab (HT.slicePart_ .none (Ab (HT.slicePart_ .none (Ab (Ao ?_)))));have e:Builtin.Slice.sliceAdjust none none (-1) (n:Int)=((n:Int) - 1,-1):=rfl;have e2:Builtin.Slice.slicePlaces ((n:Int) - 1) (-1) (-1)=n:=by
  unfold Builtin.Slice.slicePlaces;rw[if_neg #v[0,9]];split
  ·rw[show (- -1:Int)=1 by decide,Int.ediv_one];omega
  ·omega
 show wpAny _ _ (match Builtin.Slice.sliceAdjust none none (-1) (n:Int) with|(lo,hi)=>pure (lo,(-1:Int),Builtin.Slice.slicePlaces lo hi (-1))) _ _ s;rw[e];show wpAny _ _ (pure ((n:Int) - 1,(-1:Int),Builtin.Slice.slicePlaces ((n:Int) - 1) (-1) (-1))) _ _ s;rw[e2];exact Ao h
open HT in
theorem zzj {t sl:Addr}{items:Array Value}{vk:Value}{Q:Value->Shared->Prop} (ht:IsTup s.heap t items) (hs:s.heap.IsSliceOf sl .none .none vk) (pk:IsPart vk (some (-1)))
  (h:Q (.ref s.heap.objs.size) { s with heap:=s.heap.push { cls:=.type "tuple",data:=.seq items.toList.reverse.toArray } })
  (hsz:items.size<=sizeLine):wpAny (model prog w) A (getItem (.ref t) (.ref sl)) Q E s:=by
 have htake:sizeOk (.seq items.toList.reverse.toArray):=by
  show items.toList.reverse.toArray.size<=sizeLine;rw[Ah,Cy,Cz];exact hsz
 obtain⟨os,g1,g2,_⟩:=id hs;have ty:s.TypeIs (.ref sl) "slice" := ⟨os,g1,g2⟩;unfold getItem
 try with_reducible refine El ?_
 first|refine Ab (Ao ?_)|skip
 refine Ab (wpAny_sequenceKey ht.typeIs #v[0,9] ?_);refine Ab (Dq (name:=Str.ofString "__getitem__") ht.typeIs Cp (Fg Cp ht.typeIs entry_tuple_getitem ?_ (args_tuple_getitem _ _)));show wpAny _ _ (Builtin.Tuple.tupleItemsOf (.ref t) >>= _) _ _ s;refine Ab (tupleItemsOf_ ht ?_);refine Ab (wpAny_typeOf ty ?_);rw[if_pos #v[0,9]];refine Ab (zge hs pk ?_);show wpAny _ _ (if ((((items.size:Int) - 1) == 0 && (-1:Int) == 1 && items.size == items.size)=true) then _ else _) _ _ s;rw[if_neg (by rw[Ac,Ac];exact λz=>absurd z.1.2 #v[0,9]),zz6]
 first
  |exact Ab (m:=Builtin.Tuple.tupleExact _) (Ce (Ao ⟨_,rfl,Ao h⟩) htake)
  |exact Ab (m:=Builtin.Tuple.tupleExact _) (Ce (Ab (Ao (Ao ⟨_,rfl,Ao h⟩))) htake)
  |exact Ab (Ab (m:=Builtin.Tuple.tupleExact _) (Ce (Ao (Ao ⟨_,rfl,Ao h⟩)) htake))
  |exact Ab (Ab (m:=Builtin.Tuple.tupleExact _) (Ce (Ao ⟨_,rfl,Ao h⟩) htake))
end
noncomputable def z85 (K:PySem.W.Frag):V->Hp->VK->Prop:=λx H Q=>(∃a xs,x=.ref a/\SqT K H a xs/\∀p,H p=none->Q (.ref p) (upd H p (.tup xs.reverse)))\/(∃a xs,x=.ref a/\SqL K H a xs/\∀p,H p=none->Q (.ref p) (upd H p (.lst xs.reverse)))
noncomputable def z9o (K:PySem.W.Frag) (te:TE) (tk:TO):TE:=λσ H Q=>te σ H λx H1=>tk σ H1 λk H2=>k=some (-1)/\z85 K x H2 Q
section
variable {X:Cx}{S:Sx}{d:Nat}{fE:Sx->Expr->Option GE}
theorem z59 {e ek:Expr}{te:TE}{tk:TO}{p2 pos:Pos}(he:PE X e te)(hk:PO X (some ek) tk):PE X (.Subscript e (.Slice none none (some ek) p2) pos) (z9o X.K te tk):=by
 intro pins s σ H Q I h;refine Subscript_ (thn (he pins s σ H _ I h) λv s1 ⟨x,H1,I1,r1,q1⟩=>?_);refine wpAny_Slice ?_;rw[evalPart_none];refine Ao (Ao (thn (hk pins s1 σ H1 _ I1 q1) λvk s3 ⟨k,H3,I3,pk,ek',q3⟩=>?_));subst ek';have I4:Inv X pins σ H3 { s3 with heap:=s3.heap.push { cls:=.type "slice",data:=.fields #[.none,.none,vk] } }:=I3.kept (t':=s3.toks) λb ob q=>Ai _ q;show wpAny #v[3,7] X.A (subscriptTail e (.Slice none none (some ek) p2) v (.ref s3.heap.objs.size)) (EP X pins σ Q) X.xe { s3 with heap:=s3.heap.push { cls:=.type "slice",data:=.fields #[.none,.none,vk] } };rcases q3 with⟨a,xs,rfl,hx,q⟩|⟨a,xs,rfl,hx,q⟩
 ·cases r1;obtain⟨its,r,ht,hz⟩:=I4.tuple hx;have hlen:its.toArray.size=xs.length:=by rw[Ah];exact r.length.symm
  refine tail_any (ops:=[.ref a,.ref s3.heap.objs.size]) ht.typeIs PyProof.Rows.slot_tuple_getitem.lookup (zzj ht (Heap.IsSliceOf.new ..) pk ?_ (by rw[hlen];exact hz)) (by with_unfolding_all rfl);exact⟨.ref _,_,I4.laid (t':=s3.toks) (o:=.tup xs.reverse) (λb ob q=>Ai _ q) (Ad _) ⟨by rw[Cy];exact hz,_,r.reverse,IsTup.new _ _⟩,rfl,q _ (I4.hok.fresh (Ad _))⟩
 ·cases r1;obtain⟨its,r,ht,hz⟩:=I4.list hx;have hlen:=r.length;refine tail_any (ops:=[.ref a,.ref s3.heap.objs.size]) ht.isList.typeIs slot_list_getitem.lookup (wpAny_getItem_list_slice ht.isList (Heap.IsSliceOf.new ..) .none .none pk #v[0,9] ?_ (by rw[Ah]<;>omega)) (by with_unfolding_all rfl);rw[PySem.W.krv_pick];exact⟨.ref _,_,I4.laid (t':=s3.toks) (o:=.lst xs.reverse) (λb ob q=>Ai _ q) (Ad _) ⟨by rw[Cy];exact hz,_,0,r.reverse,Bb _ rfl⟩,rfl,q _ (I4.hok.fresh (Ad _))⟩
noncomputable def z7y (w:W):Option (W × Bool):=match w with
 |.lst ws=>#v[ws.reverse,2]
 |.tup ws=>#v[ws.reverse,3]
 |_=>none
theorem z1b {K:PySem.W.Frag}{F H:Hp}{w:W}{v:V}{rv:W × Bool}{Q:VK}(s:Same F H)(r:RepB K F H w v)(e:z7y w=some rv)(q:∀u H',Out K F H rv u H'->Q u H'):z85 K v H Q:=by
 cases w with
 |lst ws=>obtain rfl:=sI e;obtain⟨a,vs,e1,h,p⟩:=r.lst s;exact .inr ⟨a,vs,e1,SqL.of' h,λl hl=>q _ _ (.lst hl p.reverse)⟩
 |tup ws=>obtain rfl:=sI e;obtain⟨a,vs,e1,h,hf,p⟩:=r.tup s;exact .inl ⟨a,vs,e1,.inl (.inl h),λl hl=>q _ _ (.tup hl p.reverse)⟩
 |_=>exact noSome e
noncomputable def znz (a:GA) (k:GO):GE:=λen=>(a en).bind λp=>(k p.1).bind λl=>if l.2=some (-1) then (resA l.1 p.2).bind λw=>(z7y w).bind λr=>some (l.1,r) else none
theorem z4d {a:GA}{k:GO}{en e1 e2:En}{x:W ⊕ Nat}{w:W}{r:W × Bool}(h1:a en=some (e1,x))(h2:k e1=some (e2,some (-1)))(h3:resA e2 x=some w)(h4:z7y w=some r):znz a k en=some (e2,r):=by
 simp only [znz,h1,h2,h3,h4,Option.bind,Fq]
theorem zvg {K:PySem.W.Frag}{a:GA}{k:GO}{σ:St}{H:Hp}{Q:VK}(h:tE K (znz a k) σ H Q):z9o K (tA K a) (tO K k) σ H Q:=by
 nofun;obtain⟨F,pr,en,en',rv,R,h,q⟩:=h;obtain⟨⟨e1,x1⟩,h1,h⟩:=bS h;obtain⟨⟨e2,l⟩,h2,h⟩:=bS h;ac_rfl;split at h
 ·rename_i z;nofun;obtain⟨w1,hw1,h⟩:=bS h;obtain⟨r',hr,h⟩:=bS h;ac_rfl;cases h;refine⟨F,pr,en,e1,x1,R,h1,λF1 H1 v1 s1 R1 a1=>⟨F1,pr,e1,e2,l,R1,h2,λF2 H2 s2 R2=>⟨z,?_⟩⟩⟩;refine z1b R2.sub ((a1.mono s2).repB R2 hw1) hr λv H' z=>?_;obtain⟨F4,s4,R4,y⟩:=z.close R2;exact q F4 H' v (s1.trans (s2.trans s4)) R4 y
 ·exact noSome h
noncomputable def zpn (fE:Sx->Expr->Option GE) (S:Sx):Expr->Option GE
 |.Subscript a (.Slice none none (some k) _) _=>(zbt fE S a).bind λx=>(fE S k).bind λg=>some (znz x (zcc g))
 |_=>none
theorem ztb (HE:zcu fE)(C:CxOk X S d):zm6 (zpn fE S) X:=λe g h=>by
 unfold zpn at h;split at h
 ·obtain⟨x,hx,h⟩:=bS h;obtain⟨y,hy,h⟩:=bS h;obtain rfl:=sI h;exact (z59 (zaf HE C hx) (λpins s σ H Q I q=>ztr (HE X S d C _ _ hy) pins s σ H Q I (zkz q))).wk λ_ _ _=>zvg
 ·exact noSome h
noncomputable def orX (a b:Option GE):Option GE:=match a with
 |some g=>some g
 |none=>b
theorem zpx {x y:Expr->Option GE}(hx:zm6 x X)(hy:zm6 y X):zm6 (λe=>orX (x e) (y e)) X:=λe g h=>by
 have h:orX (x e) (y e)=some g:=h;unfold orX at h;split at h
 ·rename_i g' q;obtain rfl:=sI h;exact hx e g' q
 ·exact hy e g h
noncomputable def extE (fE:Sx->Expr->Option GE) (S:Sx) (e:Expr):Option GE:=orX (zoq fE S e) (orX (zn1 fE S e) (orX (zpn fE S e) (zvy fE S e)))
theorem z73 (HE:zcu fE)(C:CxOk X S d):zm6 (extE fE S) X:=zpx (zsl HE C) (zpx (zsy HE C) (zpx (ztb HE C) (zv8 HE C)))
end
noncomputable def ncOf (scope:Scope):List Str:=(scope.names.filter λp=>p.2 == .free || p.2 == .local || p.2 == .cell).map (·.1)
noncomputable def capC (S:Sx) (scope:Scope):Cap:=(ncOf scope).map λx=>if scope.names.lookup x == some .free then S.N.findIdx? (· == x) else none
noncomputable def inS (S:Sx) (scope:Scope):Sx:={ N:=ncOf scope,kd:=scope.names,bn:=S.bn,fs:=S.fs,mp:=capKeep (capC S scope),top:=false }
noncomputable def znu (S:Sx) (scope:Scope):Bool:=decide (scope.kind=.function) && zie (capC S scope) (ncOf scope) S.N scope && (scope.names.all λp=>!(p.2 == .free) || S.kd.lookup p.1 == some .cell || S.kd.lookup p.1 == some .free) &&
 zf2 scope && (scope.names.all λp=>!(p.2 == NameKind.local) || decide (scope.names.lookup p.1=some .local)) && decide (ncOf scope).Nodup
noncomputable def z20 (fT:Sx->Expr->Option GT) (S:Sx):List Expr->Option GT
 |[]=>some gYes
 |[c]=>fT S c
 |_=>none
noncomputable def zvn (fE:Sx->Expr->Option GE) (fT:Sx->Expr->Option GT) (S:Sx) (elt:Expr) (gens:List Comprehension) (scope:Scope):Option GE:=match gens with
 |[c]=>if znu S scope && decide (c.is_async=0) then (zum fE S c.target c.iter).bind λgi=>(tgE (inS S scope) c.target).bind λT=>(z20 fT (inS S scope) c.ifs).bind λtc=>(fE (inS S scope) elt).bind λte=>some (zb5 (capC S scope) T gi tc te) else none
 |_=>none
structure ScOk (X:Cx) (S:Sx) (scope:Scope):Prop where
 kind:scope.kind=.function
 cap:zie (capC S scope) (ncOf scope) X.N scope=true
 fr:zhb scope X.env.scope=true
 nc:zf2 scope=true
 nm:(scope.names.all λp=>!(p.2 == NameKind.local) || decide (scope.names.lookup p.1=some .local))=true
 nd:(ncOf scope).Nodup
section
variable {X:Cx}{S:Sx}{d:Nat}
theorem z2e (C:CxOk X S d){scope:Scope}(h:znu S scope=true):ScOk X S scope:=by
 unfold znu at h;simp only [Ac] at h;obtain⟨⟨⟨⟨⟨h1,h2⟩,h3⟩,h4⟩,h5⟩,h6⟩:=h;refine⟨Al h1,by rw[C.N];exact h2,?_,h4,h5,Al h6⟩;unfold zhb;refine Bm.mpr λp hp=>?_;have q:=Bm.mp h3 p hp;simp only [Bz,Bool.not_eq_true',Gi,Gn,Bp] at q ⊢;rcases q with (q|q)|q
 ·exact .inl (.inl q)
 ·rcases C.vis p.1 (.inl q) with z|z
  ·exact .inl (.inr z)
  ·exact .inr z
 ·rcases C.vis p.1 (.inr q) with z|z
  ·exact .inl (.inr z)
  ·exact .inr z
theorem z6j (C:CxOk X S d){scope:Scope}(h:ScOk X S scope)(cl:List (Str × Addr))(L:Addr)(s3:Shared)(H3:Hp)(fp:List Addr):CxOk (zbk X (ncOf scope) scope cl L s3 H3 fp) (inS S scope) d where
 N:=rfl
 nd:=h.nd
 loc:=λx e=>zbp (env:=X.env) #v[0,9] e
 cel:=λx e=>⟨zbp (env:=X.env) #v[0,9] e,Af e⟩
 vis:=λx e=>by
  rcases e with e|e
  ·exact .inl (zbp (env:=X.env) #v[0,9] e)
  ·exact zbg (env:=X.env) e
 gl:=λx e=>zbp (env:=X.env) #v[0,9] e
 calm:=C.calm
 xe:=rfl
 bn:=C.bn
 fs:=C.fs
 room:=C.room
 sl:=C.sl
 lam:=λh=>absurd (show ("" : Str)∈lams from h) #v[0,0,7]
 dpo:=Ca _
 bk:=by
  show (if scope.kind.isAnnotationScope then ScopeKind.function else scope.kind)=.function;rw[h.kind];rfl
end
theorem zy9 {K:PySem.W.Frag}{σ:St}{H:Hp}{Q:Bool->Hp->Prop}(h:tT K gYes σ H Q):z26 σ H Q:=by
 obtain⟨F,pr,en,en',b,R,h,q⟩:=h;cases h;exact q F H (.refl F) R
structure CompP (X:Cx) (S:Sx) (elt:Expr) (gens:List Comprehension) (scope:Scope) (g:GE):Prop where
 ex:∃tg iter ifs gs gi T tc,∃(em:Pos->Value->Env->Sem Unit) (tm:Addr->TM),gens=⟨tg,iter,ifs,0⟩ :: gs/\(∀pos it acc env,compTurn #v[0,10] 0 it acc env=zs1 #v[0,10] 0 tg iter ifs (em pos acc env) it acc env)/\ScOk X S scope/\PI X tg iter (tI X.K gi)/\(∀x,foldedSetIterable iter X.env x=pure x) /\
  (∀cl C s3 H3 fp,PG (zbk X (ncOf scope) scope cl C s3 H3 fp) tg (TGof X.K T))/\(∀cl C s3 H3 fp,PTs (zbk X (ncOf scope) scope cl C s3 H3 fp) ifs (tT X.K tc))/\(∀pos cl C s3 H3 fp acc,PM (zbk X (ncOf scope) scope cl C s3 H3 fp) (em pos (.ref acc) (zbk X (ncOf scope) scope cl C s3 H3 fp).env) (tm acc)) /\
  ∀σ H Q,tE X.K g σ H Q->zvi (tI X.K gi) (capC S scope) (TGof X.K T) (tT X.K tc) tm σ H Q
section
variable {X:Cx}{S:Sx}{d:Nat}{fE:Sx->Expr->Option GE}{fT:Sx->Expr->Option GT}
theorem PTs.wk {ifs:List Expr}{t t' : TT}(h:PTs X ifs t)(i:∀σ H Q,t' σ H Q->t σ H Q):PTs X ifs t':=λpins s σ H Q I q=>h pins s σ H Q I (i σ H Q q)
theorem zzz (HT:zm4 fT)(C:CxOk X S d):∀{ifs:List Expr}{tc:GT},z20 fT S ifs=some tc->PTs X ifs (tT X.K tc)
 |[],_,h=>by obtain rfl:=sI h;exact z4t.wk λ_ _ _=>zy9
 |[_],_,h=>z43 (HT _ _ d C _ _ h)
 |_::_::_,_,h=>noSome h
theorem zhm (HE:zcu fE)(HT:zm4 fT)(C:CxOk X S d){elt:Expr}{gens:List Comprehension}{scope:Scope}{g:GE}(h:zvn fE fT S elt gens scope=some g):CompP X S elt gens scope g:=by
 unfold zvn at h;split at h
 ·rename_i c;obtain⟨tg,iter,ifs,as⟩:=c;split at h
  ·rename_i z;rw[Ac] at z;have ha:as=0:=Al z.2;subst ha;obtain⟨gi,hi,h⟩:=bS h;obtain⟨T,hT,h⟩:=bS h;obtain⟨tc,htc,h⟩:=bS h;obtain⟨te,hte,h⟩:=bS h;obtain rfl:=sI h;have so:=z2e C z.1;obtain⟨pi,pf⟩:=zql HE C hi;exact⟨tg,iter,ifs,[],gi,T,tc,λ_=>z5z elt,λacc=>zzs acc (tE X.K te),rfl,λ_ _ _ _=>rfl,so,pi,pf,λcl L s3 H3 fp=>z3m (z6j C so cl L s3 H3 fp) hT,λcl L s3 H3 fp=>zzz HT (z6j C so cl L s3 H3 fp) htc,λ_ cl L s3 H3 fp acc=>yaz (HE _ _ d (z6j C so cl L s3 H3 fp) _ _ hte),λ_ _ _=>zv0⟩
  ·exact noSome h
 ·exact noSome h
theorem zug (C:CxOk X S d){elt:Expr}{gens:List Comprehension}{scope:Scope}{g:GE}{pos:Pos}(h:CompP X S elt gens scope g):PE X #v[0,10] (tE X.K g):=by
 nofun;obtain⟨tg,iter,ifs,gs,gi,T,tc,em,tm,e1,e2,so,pi,pf,pg,pt,pe,rd⟩:=h.ex;ac_rfl;subst e1;exact (z4x pi pg pt (pe pos) (e2 pos) C.calm so.kind so.cap so.fr so.nc so.nm pf).wk rd
noncomputable def z7o (fE:Sx->Expr->Option GE) (S:Sx):Option Expr->Option GO
 |none=>some zao
 |some e=>(fE S e).bind λg=>some (zcc g)
noncomputable def zz5 (fE:Sx->Expr->Option GE) (fT:Sx->Expr->Option GT) (S:Sx) (e:Expr):Option GE:=match e with
  |.Name x _=>(S.rd x).bind λi=>some (gVar i)
  | .Constant c _ _=>(match c with
    |.int i=>some (gC (.int i))
    |.bool b=>some (gC (.bl b))
    |.none=>some (gC .non)
    |.str x=>some (gC (.str x))
    |_=>none)
  |.BinOp a op b _=>(zbt fE S a).bind λx=>(zbt fE S b).bind λy=>(binO op).bind λo=>some (gOp2 o x y)
  | .UnaryOp op a _=>(match op with
    |.USub=>(zbt fE S a).bind λx=>some (gOp1 oNeg x)
    |.Not=>(fE S a).bind λg=>some (gNot g)
    |_=>none)
  | .BoolOp op vs _=>(match vs with
    |v::vs=>z7d (fE S) op v vs
    |[]=>none)
  |.Compare a ops cs _=>cmpE fE S a ops cs
  |.IfExp c a b _=>(fT S c).bind λt=>(fE S a).bind λx=>(fE S b).bind λy=>some (gIf t x y)
  | .Subscript a s _=>(match s with
    | .Slice lo hi st _=>(match st with
      |none=>(zbt fE S a).bind λx=>(z7o fE S lo).bind λl=>(z7o fE S hi).bind λh=>some (gSl x l h)
      |some _=>none)
    |s=>if zeg s then (zbt fE S a).bind λx=>(zbt fE S s).bind λy=>some (gOp2 oIx x y) else none)
  |.List es _=>(asL (λe=>(fE S e).bind λg=>some (gArg g)) es).bind λas=>some (zag as)
  |.Tuple es _ _=>(asL (λe=>(fE S e).bind λg=>some (gArg g)) es).bind λas=>some (zab as)
  | .Dict ks vs _=>(match ks,vs with
    |[],[]=>some z02
    |[some k],[v]=>(fE S k).bind λa=>(fE S v).bind λb=>some (z5d a b)
    |_,_=>none)
  | .Call fu args kws pos=>(match kws with
    | []=>(match fu with
      |.Name x _=>z5s fE S x args
      |.Attribute o m ap=>z6m fE S o m ap args pos
      |_=>none)
    |_=>none)
  |.ListComp elt gens scope _=>zvn fE fT S elt gens scope
  |_=>none
noncomputable def z4b (fE:Sx->Expr->Option GE) (fT:Sx->Expr->Option GT) (S:Sx) (e:Expr):Option GT:=match e with
  | .BoolOp op vs _=>(match vs with
    |v::vs=>z6i (fT S) op v vs
    |[]=>none)
  |.Compare a ops cs _=>(cmpE fE S a ops cs).bind λg=>some (zad g)
  | .UnaryOp op a p=>(match op with
    |.Not=>(fT S a).bind λg=>some (zbu g)
    |op=>if zqv (.UnaryOp op a p) then (fE S (.UnaryOp op a p)).bind λg=>some (zad g) else none)
  |e=>if zqv e then (fE S e).bind λg=>some (zad g) else none
theorem zq5 (HE:zcu fE) (C:CxOk X S d) {o:Option Expr}{g:GO} (h:z7o fE S o=some g):PO X o (tO X.K g):=by
  cases o with
  |none=>obtain rfl:=sI h;exact λpins s σ H Q I q=>z7p pins s σ H Q I (zns q)
  | some e =>
    obtain⟨ge,hg,h⟩:=bS h;obtain rfl:=sI h;exact λpins s σ H Q I q=>ztr (HE X S d C _ _ hg) pins s σ H Q I (zkz q)
theorem z0f (HE:zcu fE) (HT:zm4 fT):zcu (zz5 fE fT):=fun X S d C e g h=>by
  have HA:∀e a,((fE S e).bind fun g=>some (gArg g))=some a->PE X e (tA X.K a):=fun e a h=>by
    obtain⟨ge,hg,h⟩:=bS h;obtain rfl:=sI h;exact (HE X S d C _ _ hg).wk λ_ _ _=>zkd
  cases e with
  | Name x p =>
    obtain⟨i,hi,h⟩:=bS (show (S.rd x).bind _=_ from h);obtain rfl:=sI h;exact (zob C hi).wk λ_ _ _=>z01
  | Constant c k p =>
    cases c with
    |int i=>obtain rfl:=sI h;exact ya0.wk λ_ _ _=>zea λ_=>.int i
    |bool b=>obtain rfl:=sI h;exact yej.wk λ_ _ _=>zea λ_=>.bl b
    |none=>obtain rfl:=sI h;exact ybu.wk λ_ _ _=>zea λ_=>.non
    |str x=>obtain rfl:=sI h;exact yci.wk λ_ _ _=>zea λ_=>.str x
    |_=>exact noSome h
  | BinOp a op b p =>
    obtain⟨x,hx,h⟩:=bS (show (zbt fE S a).bind _=_ from h);obtain⟨y,hy,h⟩:=bS h;obtain⟨o,ho,h⟩:=bS h;obtain rfl:=sI h;obtain⟨r,h1,h2⟩:=z6l (X:=X) ho;exact (z9k h1 (zaf HE C hx) (zaf HE C hy)).wk λ_ _ _=>zev h2
  | UnaryOp op a p =>
    cases op with
    | USub =>
      obtain⟨x,hx,h⟩:=bS (show (zbt fE S a).bind _=_ from h);obtain rfl:=sI h;exact (yc3 ybn (zaf HE C hx)).wk λ_ _ _=>z0t z49
    | Not =>
      obtain⟨x,hx,h⟩:=bS (show (fE S a).bind _=_ from h);obtain rfl:=sI h;exact (yb6 (HE X S d C _ _ hx)).wk λ_ _ _=>z0v
    |_=>exact noSome h
  | BoolOp op vs p =>
    cases vs with
    |nil=>exact noSome h
    |cons v vs=>exact zpt (λe g=>HE X S d C e g) h
  |Compare a ops cs p=>exact (zyk HE C h).1
  | IfExp c a b p =>
    obtain⟨t,ht,h⟩:=bS (show (fT S c).bind _=_ from h);obtain⟨x,hx,h⟩:=bS h;obtain⟨y,hy,h⟩:=bS h;obtain rfl:=sI h;exact (zz3 (HT X S d C _ _ ht) (HE X S d C _ _ hx) (HE X S d C _ _ hy)).wk λ_ _ _=>z5b
  | Subscript a s p =>
    have ix:∀s,(if zeg s then (zbt fE S a).bind fun x=>(zbt fE S s).bind fun y=>some (gOp2 oIx x y) else none)=some g->PE X (.Subscript a s p) (tE X.K g):=fun s h=>by
      split at h
      · rename_i z
        obtain⟨x,hx,h⟩:=bS h;obtain⟨y,hy,h⟩:=bS h;obtain rfl:=sI h;exact (yef (z4e.or z92) (zaf HE C hx) (zaf HE C hy) (zsm z)).wk λ_ _ _=>zev ycg
      · exact noSome h
    cases s with
    | Slice lo hi st p2 =>
      cases st with
      |some _=>exact noSome h
      | none =>
        obtain⟨x,hx,h⟩:=bS (show (zbt fE S a).bind _=_ from h);obtain⟨l,hl,h⟩:=bS h;obtain⟨u,hu,h⟩:=bS h;obtain rfl:=sI h;exact (z0q ((z5i.or ybq).or z7j) (zaf HE C hx) (zq5 HE C hl) (zq5 HE C hu)).wk λ_ _ _=>z7c
    |_=>exact ix _ h
  | List es p =>
    obtain⟨as,has,h⟩:=bS (show (asL _ es).bind _=_ from h);obtain rfl:=sI h;exact (yai (zi4 HA has).1).wk λ_ _ _=>z0r
  | Tuple es k p =>
    obtain⟨as,has,h⟩:=bS (show (asL _ es).bind _=_ from h);obtain rfl:=sI h;exact (z8o (zi4 HA has).1).wk λ_ _ _=>z08
  | Dict ks vs p =>
    match ks,vs,h with
    |[],[],h=>obtain rfl:=sI h;exact zzh.wk λ_ _ _=>zx3
    | [some k],[v],h =>
      obtain⟨a,ha,h⟩:=bS (show (fE S k).bind _=_ from h);obtain⟨b,hb,h⟩:=bS h;obtain rfl:=sI h;exact (z7r (z1x (HE X S d C _ _ ha) (HE X S d C _ _ hb) z76) rfl rfl (by intro z;cases z) (show 1<=15 by decide)).wk λ_ _ _=>zwf
  | Call fu args kws p =>
    simp only [zz5] at h;split at h
    · cases fu with
      |Name x p2=>exact zzb HE C h
      |Attribute o m ap=>exact z07 HE C h
      |_=>exact noSome h
    · exact noSome h
  |ListComp elt gens scope p=>exact zug C (zhm HE HT C h)
  |_=>exact noSome h
theorem z1y (HE:zcu fE) (HT:zm4 fT):zm4 (z4b fE fT):=fun X S d C e g h=>by
  have plain:∀e,(if zqv e then (fE S e).bind fun g=>some (zad g) else none)=some g->PT X e (tT X.K g):=fun e h=>by
    split at h
    · rename_i z
      obtain⟨x,hx,h⟩:=bS h;obtain rfl:=sI h;exact (z83 (HE X S d C _ _ hx) (zr6 z)).wk λ_ _ _=>zgy λ_ _ _ q=>q
    · exact noSome h
  cases e with
  | BoolOp op vs p =>
    cases vs with
    |nil=>exact noSome h
    |cons v vs=>exact (zku (λe g=>HT X S d C e g) h).pt
  | Compare a ops cs p =>
    obtain⟨x,hx,h⟩:=bS (show (cmpE fE S a ops cs).bind _=_ from h);obtain rfl:=sI h;exact (zyk HE C hx).2
  | UnaryOp op a p =>
    cases op with
    | Not =>
      obtain⟨x,hx,h⟩:=bS (show (fT S a).bind _=_ from h);obtain rfl:=sI h;exact (ybh (HT X S d C _ _ hx)).wk λ_ _ _=>zv1
    |_=>exact plain _ h
  |_=>exact plain _ h
end
noncomputable def z4l:GE:=λ_=>none
noncomputable def zwo:GT:=λ_=>none
mutual
noncomputable def compE:Nat->Sx->Expr->Option GE
 |0,_,_=>some z4l
 |n+1,S,e=>some ((orX (extE (compE n) S e) (zz5 (compE n) (compT n) S e)).getD z4l)
noncomputable def compT:Nat->Sx->Expr->Option GT
 |0,_,_=>some zwo
 |n+1,S,e=>some ((z4b (compE n) (compT n) S e).getD zwo)
end
theorem zua {X:Cx}{e:Expr}:PE X e (tE X.K z4l):=λ_ _ _ _ _ _ q=>by obtain⟨_,_,_,_,_,_,h,_⟩:=q;exact noSome h
theorem zq7 {X:Cx}{e:Expr}:PT X e (tT X.K zwo):=λ_ _ _ _ _ _ q=>by obtain⟨_,_,_,_,_,_,h,_⟩:=q;exact noSome h
theorem zfi:∀n,zcu (compE n)/\zm4 (compT n)
  |0=>⟨λ_ _ _ _ _ _ h=>by rw[compE] at h;obtain rfl:=sI h;exact zua,λ_ _ _ _ _ _ h=>by rw[compT] at h;obtain rfl:=sI h;exact zq7⟩
  | n+1=>by
    obtain⟨a,b⟩:=zfi n;refine⟨λX S d C e g h=>?_,λX S d C e g h=>?_⟩
    · rw [compE] at h
      cases q:orX (extE (compE n) S e) (zz5 (compE n) (compT n) S e) with
      |none=>rw[q] at h;obtain rfl:=sI h;exact zua
      |some g'=>rw[q] at h;obtain rfl:=sI h;exact zpx (z73 a C) (z0f a b X S d C) e _ q
    · rw [compT] at h
      cases q:z4b (compE n) (compT n) S e with
      |none=>rw[q] at h;obtain rfl:=sI h;exact zq7
      |some g'=>rw[q] at h;obtain rfl:=sI h;exact z1y a b X S d C e _ q
section
variable {X:Cx}{pos:Pos}
end
noncomputable def yc4 (mp:List Nat) (i j k:Nat) (a b c:GE):GS:=λen=>(a en).bind λp=>(b p.1).bind λq=>(c q.1).bind λr=>if mp.contains i || mp.contains j || mp.contains k || !decide (i<r.1.length) || !decide (j<r.1.length) || !decide (k<r.1.length) then none else some (((r.1.set i (#v[p.2.1,6])).set j (#v[q.2.1,6])).set k (#v[r.2.1,6]),.nx)
section
variable {K:PySem.W.Frag}{mp:List Nat}{D:Ends}{σ:St}{H:Hp}
end
noncomputable def zts (S:Sx) (x:Str) (px:Pos) (y:Str) (py:Pos) (z:Str) (pz:Pos) (a b c:Expr):Bool:=S.kd.lookup x == some .local && S.kd.lookup y == some .local && S.kd.lookup z == some .local && px.line == py.line && px.line == pz.line && !(x == y) && !(x == z) && !(y == z) && !(foldedForSure 8 a && foldedForSure 8 b && foldedForSure 8 c) && !(constantsAlone 8 a && constantsAlone 8 b && constantsAlone 8 c) && zah a && zah b && zah c
section
variable {X:Cx}{S:Sx}{d:Nat}{fE:Sx->Expr->Option GE}
theorem zxp {x y:Str}(h:¬ x=y):(y == x)=false:=by
 cases q:y == x with
 |false=>rfl
 |true=>exact absurd (Br q).symm h
theorem yep (C:CxOk X S d){x y z:Str}{px py pz pt pt2:Pos}{a b c:Expr}{kt k2:Nat}(h:zts S x px y py z pz a b c=true):swappedStores [.Tuple [.Name x px,.Name y py,.Name z pz] kt pt] (.Tuple [a,b,c] k2 pt2) X.env=pure (some [x,y,z]):=by
 unfold zts at h;simp only [Ac] at h;nofun;obtain⟨⟨⟨⟨⟨⟨⟨⟨⟨⟨⟨⟨h1,h2⟩,h3⟩,h4⟩,h5⟩,h6⟩,h7⟩,h8⟩,h9⟩,h10⟩,h11⟩,h12⟩,h13⟩:=h;ac_rfl;have k1:X.env.kindOf x=some .local:=C.loc x (by simpa using h1);have k2:X.env.kindOf y=some .local:=C.loc y (by simpa using h2);have k3:X.env.kindOf z=some .local:=C.loc z (by simpa using h3);have e4:px.line=py.line:=by simpa using h4
 have e5:px.line=pz.line:=by simpa using h5
 have n6:¬ x=y:=by simpa using h6
 have n7:¬ x=z:=by simpa using h7
 have n8:¬ y=z:=by simpa using h8
 have st:∀e,zah e=true->(match e with|.Starred ..=>true|_=>false)=false:=λe h=>by cases e<;>first|rfl|(cases h)
 have st' : ([a,b,c].any λe=>match e with|.Starred ..=>true|_=>false)=false:=by
  rw[Dl,Dl,Dl,List.any_nil,st a h11,st b h12,st c h13];rfl
 unfold swappedStores;simp only [Ay,Eu,C.bk,Gh];rw[if_neg #v[0,9]]
 try simp only [Gh]
 refine (if_neg (λz=>Ag (st'.symm.trans z))).trans ?_;have nm:List.filterMap (λe=>match e with|.Name id pos=>if (X.env.kindOf id == some .local && pos.line == (Option.map (λe=>e.pos.line) ([Expr.Name x px,Expr.Name y py,Expr.Name z pz]:List Expr).head?).getD 0)=true then some id else none|_=>none) ([Expr.Name x px,Expr.Name y py,Expr.Name z pz]:List Expr)=[x,y,z]:=by
  have ex:((Expr.Name x px).pos.line)=px.line:=rfl;have q4:py.line=px.line:=e4.symm;have q5:pz.line=px.line:=e5.symm;simp [k1,k2,k3,ex,q4,q5]
 try simp only [Gh]
 generalize hq:List.filterMap _ ([Expr.Name x px,Expr.Name y py,Expr.Name z pz]:List Expr)=names;have hq' : names=[x,y,z]:=hq.symm.trans nm;subst hq';have ed:([x,y,z]:List Str).eraseDups=[x,y,z]:=by
  rw[Fb,Dt,zxp n6,Dt,zxp n7];simp only [Gq,Fq,Dm];rw[Fb,Dt,zxp n8];simp only [Gq,Fq,Dm];rw[Fb,Dm,List.eraseDups_nil]
 rw[ed,if_neg (by simp)]
 try simp only [Gh]
 have m9:¬ (foldedForSure 8 a && foldedForSure 8 b && foldedForSure 8 c)=true:=λz=>by rw[z] at h9;cases h9
 have m10:¬ (constantsAlone 8 a && constantsAlone 8 b && constantsAlone 8 c)=true:=λz=>by rw[z] at h10;cases h10
 rw[if_neg (by simp only [Bo,List.all_nil,Ga,<-Bool.and_assoc];exact m9),if_neg (by simp only [Bo,List.all_nil,Ga,<-Bool.and_assoc];exact m10)]
end
noncomputable def zlg (x:Stmt->Option GS) (X:Cx) (S:Sx):Prop:=∀st g,x st=some g->PS X st (tS X.K S.mp g)
noncomputable def nmOf:Expr->Option (Str × Pos)
 |.Name x p=>some (x,p)
 |_=>none
noncomputable def ycy (fE:Sx->Expr->Option GE) (S:Sx) (es vs:List Expr):Option GS:=match es with
  | [n1,n2,n3]=>(match vs with
    |[a,b,c]=>(nmOf n1).bind λx=>(nmOf n2).bind λy=>(nmOf n3).bind λz=>if zts S x.1 x.2 y.1 y.2 z.1 z.2 a b c then (S.wr x.1).bind λi=>(S.wr y.1).bind λj=>(S.wr z.1).bind λk=>(fE S a).bind λga=>(fE S b).bind λgb=>(fE S c).bind λgc=>some (yc4 S.mp i j k ga gb gc) else none
    |_=>none)
  |_=>none
noncomputable def z8m:Expr->Option (List Expr × Nat × Pos)
 |.Tuple es k p=>some (es,k,p)
 |_=>none
noncomputable def ycz (fE:Sx->Expr->Option GE) (S:Sx):Stmt->Option GS
  | .Assign ts e _=>(match ts with
    |[tg]=>(z8m tg).bind λx=>(z8m e).bind λy=>ycy fE S x.1 y.1
    |_=>none)
  |_=>none
section
variable {X:Cx}{S:Sx}{d:Nat}{fE:Sx->Expr->Option GE}
theorem zxi {es:List Expr}{kt:Nat}{p:Pos}{e:Expr}{l:Nat}{env:Env}:swapsWithSole [.Tuple es kt p] e l env=pure false:=by
 cases e<;>rfl
noncomputable def gNst (mp is js:List Nat) (g:GE):GS:=λen=>(g en).bind λp=>match p.2.1 with
 |.tup [.tup a,.tup b]=>(setAll mp is a p.1).bind λe=>(setAll mp js b e).bind λe2=>some (e2,.nx)
 |_=>none
theorem z2d {K:PySem.W.Frag}{mp is js:List Nat}{D:Ends}{σ:St}{H:Hp}{g:GE} (h:tS K mp (gNst mp is js g) D σ H):tAsg (tE K g) (z6s K 2 (z10 (TGof K (.tp is)) (z10 (TGof K (.tp js)) gNil))) D σ H:=by
  nofun;obtain⟨F,pr,en,en',fl,R,h,q⟩:=h;obtain⟨⟨e1,w,fw⟩,h1,h⟩:=bS h;ac_rfl;dsimp only at h;split at h
  · rename_i a b
    obtain⟨e2,h2,h⟩:=bS h;obtain⟨e3,h3,h⟩:=bS h;cases h;refine⟨F,pr,en,e1,_,R,h1,λF1 H1 v s1 R1 y=>?_⟩;nofun;obtain⟨F2,s2,R2,z⟩:=y.freeze R1;ac_rfl;cases z with
    | tup hf r =>
      cases r with
      | cons r1 r =>
        cases r with
        | cons r2 r =>
          cases r;exact⟨_,_,rfl,.inl (.inl (.inl (R2.sub _ _ hf))),rfl,_,_,rfl,zg2 (T:=.tp is) R2 r1 h2 λσ' R' k=>⟨_,_,rfl,zg2 (T:=.tp js) R' r2 h3 λσ'' R'' k'=>⟨rfl,q F2 σ'' H1 (s1.trans s2) R'' (k.trans k')⟩⟩⟩
  · exact noSome h
noncomputable def zym (fE:Sx->Expr->Option GE) (S:Sx):Stmt->Option GS
 |.Assign [.Tuple [.Tuple es _ _,.Tuple fs _ _] _ _] (.Name y p) _=>(zeq S es).bind λis=>(zeq S fs).bind λjs=>(fE S (.Name y p)).bind λg=>some (gNst S.mp is js g)
 |_=>none
theorem zwd (HE:zcu fE)(C:CxOk X S d):zlg (zym fE S) X S:=λst g h=>by
 unfold zym at h;split at h
 ·obtain⟨is,his,h⟩:=bS h;obtain⟨js,hjs,h⟩:=bS h;obtain⟨ge,hg,h⟩:=bS h;obtain rfl:=sI h;obtain⟨a1,b1,c1⟩:=zd9 C _ his;obtain⟨a2,b2,c2⟩:=zd9 C _ hjs;exact (zxg (HE X S d C _ _ hg) (zgv C.calm (zjs (zgv C.calm a1 b1 c1) (zjs (zgv C.calm a2 b2 c2) zyl rfl) rfl) rfl rfl) zxi rfl rfl).wk λ_ _ _=>z2d
 ·exact noSome h
noncomputable def orS (a b:Option GS):Option GS:=match a with
 |some g=>some g
 |none=>b
theorem z9f {x y:Stmt->Option GS}(hx:zlg x X S)(hy:zlg y X S):zlg (λe=>orS (x e) (y e)) X S:=λe g h=>by
 have h:orS (x e) (y e)=some g:=h;unfold orS at h;split at h
 ·rename_i g' q;obtain rfl:=sI h;exact hx e g' q
 ·exact hy e g h
theorem yb8 {o k e:Expr}{p:Pos}{env:Env}:swappedStores [.Subscript o k p] e env=pure none:=by
 cases e<;>rfl
theorem zzl {o k e:Expr}{p:Pos}{l:Nat}{env:Env}:swapsWithSole [.Subscript o k p] e l env=pure false:=by
 cases e<;>rfl
theorem zru {o k:Expr}{p:Pos}{env:Env} (h:zeg k=true):∀v,assign (.Subscript o k p) env v=(do
   let ov <- holding [v] (eval o env)
   let iv <- holding [v,ov] (eval k env)
   standAt p
   holding [v,ov,iv] (setItem ov iv v)
   release [v,ov,iv] []):=by
 intro v;cases k<;>first|rfl|(cases h)
noncomputable def extS (fE:Sx->Expr->Option GE) (S:Sx) (st:Stmt):Option GS:=zym fE S st
theorem z65 (HE:zcu fE)(C:CxOk X S d):zlg (extS fE S) X S:=zwd HE C
end
noncomputable def zct (mp:List Nat) (i:Nat):GS:=λen=>match en[i]? with
 |some (#v[w,5])=>if mp.contains i then none else some (en.set i none,.ret (w,true))
 |some (#v[w,6])=>some (en,.ret (w,false))
 |_=>none
theorem zw0 {K:PySem.W.Frag}{mp:List Nat}{D:Ends}{σ:St}{H:Hp}{i:Nat}(h:tS K mp (zct mp i) D σ H):tRet (tVar i) D σ H:=by
 obtain⟨F,pr,en,en',fl,R,h,q⟩:=h;unfold zct at h;split at h
 ·rename_i w e;split at h
  ·exact noSome h
  ·cases h;obtain⟨v,hv,R',z⟩:=R.drop e;exact⟨v,hv,q F σ H v (.refl F) R' (.refl _ _) z⟩
 ·rename_i w e;cases h;obtain⟨v,hv,z⟩:=R.val i w e;exact⟨v,hv,q F σ H v (.refl F) R (.refl _ _) z⟩
 ·exact noSome h
noncomputable def z0e (f:Sx->Stmt->Option GS):Prop:=∀X S d,CxOk X S d->∀st g,f S st=some g->PS X st (tS X.K S.mp g)
noncomputable def blk (f:Sx->Stmt->Option GS) (S:Sx):List Stmt->Option GS
  |[]=>some zau
  | st::sts=>match sts with
    |[]=>f S st
    |_::_=>(f S st).bind λa=>(blk f S sts).bind λb=>some (gSeq a b)
noncomputable def zjn (S:Sx) (x:Str) (px:Pos) (scope:Scope) (pos:Pos):Bool:=S.kd.lookup x == some .local && px.line == pos.line && !(scope.names.any λ(n,k)=>n == x && (k == .local || k == .cell))
noncomputable def zn9 (S:Sx) (x:Str):Bool:=S.top && S.kd.lookup x == some .cell
noncomputable def zy5 (S:Sx) (x:Str) (px:Pos) (y:Str) (py:Pos) (a b:Expr):Bool:=S.kd.lookup x == some .local && S.kd.lookup y == some .local && px.line == py.line && !(x == y) && !(foldedForSure 8 a && foldedForSure 8 b) && !(constantsAlone 8 a && constantsAlone 8 b) && zah a && zah b
noncomputable def z4g:Expr->Bool
 |.Tuple ..=>true
 |_=>false
noncomputable def asgE (fE:Sx->Expr->Option GE) (fT:Sx->Expr->Option GT) (S:Sx) (tg e:Expr):Option GS:=match tg with
  | .Name x px=>(S.wr x).bind fun i=>(match e with
    |.ListComp elt gens scope pos=>(zvn fE fT S elt gens scope).bind λg=>if zjn S x px scope pos || zn9 S x then some (gSet S.mp i g) else none
    |e=>if zhd e then (fE S e).bind λg=>some (gSet S.mp i g) else none)
  | .Tuple es _ _=>(match es,e with
    |[.Name x px,.Name y py],.Tuple [a,b] _ _=>if zy5 S x px y py a b then (S.wr x).bind λi=>(S.wr y).bind λj=>(fE S a).bind λga=>(fE S b).bind λgb=>some (gPar S.mp i j ga gb) else none
    |es,e=>if z4g e then none else (zeq S es).bind λis=>(fE S e).bind λg=>some (gAsg S.mp (.tp is) g))
  | .Subscript o k _=>(match o with
    |.Name x _=>if zeg k then (S.rd x).bind λi=>(fE S k).bind λgk=>(fE S e).bind λg=>some (za7 i gk g) else none
    |_=>none)
  |_=>none
noncomputable def z35 (fS:Sx->Stmt->Option GS) (fE:Sx->Expr->Option GE) (fT:Sx->Expr->Option GT) (S:Sx) (st:Stmt):Option GS:=match st with
  | .Return o _=>(match o with
    |none=>none
    | some e=>(match e with
      |.Name x _=>(S.rd x).bind λi=>some (zct S.mp i)
      |e=>(fE S e).bind λg=>some (gRet g)))
  |.If c a b _=>(fT S c).bind λt=>(blk fS S a).bind λx=>(blk fS S b).bind λy=>some (gIfS t x y)
  | .For tg it body els _=>(match els with
    |[]=>(zum fE S tg it).bind λgi=>(tgE S tg).bind λT=>(blk fS S body).bind λg=>some (gFor S.mp T gi g)
    |_=>none)
  |.Pass _=>some zau
  |.Expr e _=>if zhd e then (fE S e).bind λg=>some (zdk g) else none
  | .Assign ts e _=>(match ts with
    |[tg]=>asgE fE fT S tg e
    |_=>none)
  | .AugAssign tg op e _=>(match tg with
    |.Name x _=>(S.wr x).bind λi=>(augO op).bind λo=>(zbt fE S e).bind λa=>some (gAug S.mp o i a)
    |_=>none)
  |_=>none
section
variable {X:Cx}{S:Sx}{d:Nat}{fS:Sx->Stmt->Option GS}{fE:Sx->Expr->Option GE}{fT:Sx->Expr->Option GT}
theorem zl9 (HS:z0e fS) (C:CxOk X S d):∀{sts:List Stmt}{g:GS},blk fS S sts=some g->PSs X sts (tS X.K S.mp g)
  |[],_,h=>by obtain rfl:=sI h;exact z6y.wk λ_ _ _=>zlw
  |[st],_,h=>z6u (HS X S d C _ _ h)
  | st::st' :: sts,_,h=>by
    obtain⟨a,ha,h⟩:=bS (show (fS S st).bind _=_ from h);obtain⟨b,hb,h⟩:=bS h;obtain rfl:=sI h;exact (zzw (HS X S d C _ _ ha) (zl9 HS C hb)).wk λ_ _ _=>z18
theorem yd8 (C:CxOk X S d){x:Str}{px pos:Pos}{elt:Expr}{gens:List Comprehension}{scope:Scope}{l:Nat}(h:zjn S x px scope pos=true):swapsWith #v[0,10] (some (.Name x px)) l X.env=pure true:=by
 unfold zjn at h;rw[Ac,Ac] at h;have h1:X.env.kindOf x=some .local:=C.loc x (by simpa using h.1.1);show (pure (X.env.blockKind == .function && X.env.kindOf x == some .local && px.line == pos.line && !(scope.names.any λ(n,k)=>n == x && (k == .local || k == .cell))):Sem Bool)=pure true;rw[C.bk,h1,h.1.2,h.2]
 rfl
theorem swNo (C:CxOk X S d){x:Str}{px pos:Pos}{elt:Expr}{gens:List Comprehension}{scope:Scope}{l:Nat}(h:zn9 S x=true):swapsWith #v[0,10] (some (.Name x px)) l X.env=pure false:=by
 unfold zn9 at h;rw[Ac] at h;have h1:X.env.kindOf x=some .cell:=(C.cel x (by simpa using h.2)).1;show (pure (X.env.blockKind == .function && X.env.kindOf x == some .local && px.line == pos.line && !(scope.names.any λ(n,k)=>n == x && (k == .local || k == .cell))):Sem Bool)=pure false;rw[h1];have:(some NameKind.cell == some NameKind.local)=false:=rfl;rw[this,Bool.and_false,Ek,Ek]
theorem ybb (C:CxOk X S d){x y:Str}{px py pt pt2:Pos}{a b:Expr}{kt k2:Nat}(h:zy5 S x px y py a b=true):swappedStores [.Tuple [.Name x px,.Name y py] kt pt] (.Tuple [a,b] k2 pt2) X.env=pure (some [x,y]):=by
 unfold zy5 at h;simp only [Ac] at h;nofun;obtain⟨⟨⟨⟨⟨⟨⟨h1,h2⟩,h3⟩,h4⟩,h5⟩,h6⟩,h7⟩,h8⟩:=h;ac_rfl;have k1:X.env.kindOf x=some .local:=C.loc x (by simpa using h1);have k2:X.env.kindOf y=some .local:=C.loc y (by simpa using h2);have e3:px.line=py.line:=by simpa using h3
 have ne:¬ x=y:=by simpa using h4
 have st:∀e,zah e=true->(match e with|.Starred ..=>true|_=>false)=false:=λe h=>by cases e<;>first|rfl|(cases h)
 have st' : ([a,b].any λe=>match e with|.Starred ..=>true|_=>false)=false:=by
  rw[Dl,Dl,List.any_nil,st a h7,st b h8];rfl
 unfold swappedStores;simp only [Ay,Eu,C.bk,Gh];rw[if_neg #v[0,9]]
 try simp only [Gh]
 refine (if_neg (λz=>Ag (st'.symm.trans z))).trans ?_;have nm:List.filterMap (λe=>match e with|.Name id pos=>if (X.env.kindOf id == some .local && pos.line == (Option.map (λe=>e.pos.line) ([Expr.Name x px,Expr.Name y py]:List Expr).head?).getD 0)=true then some id else none|_=>none) ([Expr.Name x px,Expr.Name y py]:List Expr)=[x,y]:=by
  have ex:((Expr.Name x px).pos.line)=px.line:=rfl;simp [k1,k2,ex,e3]
 try simp only [Gh]
 generalize hq:List.filterMap _ ([Expr.Name x px,Expr.Name y py]:List Expr)=names;have hq' : names=[x,y]:=hq.symm.trans nm;subst hq';have yx:(y == x)=false:=by
  cases q:y == x with
  |false=>rfl
  |true=>exact absurd (Br q).symm ne
 have ed:([x,y]:List Str).eraseDups=[x,y]:=by
  rw[Fb,Dt,yx];simp only [Gq,Fq,Dm];rw[Fb,Dm,List.eraseDups_nil]
 rw[ed,if_neg (by simp)]
 try simp only [Gh]
 have n5:¬ (foldedForSure 8 a && foldedForSure 8 b)=true:=λz=>by rw[z] at h5;cases h5
 have n6:¬ (constantsAlone 8 a && constantsAlone 8 b)=true:=λz=>by rw[z] at h6;cases h6
 rw[if_neg (by simp only [Bo,List.all_nil,Ga];exact n5),if_neg (by simp only [Bo,List.all_nil,Ga];exact n6)]
theorem z15 {e:Expr}{es:List Expr}{kt:Nat}{p:Pos}{env:Env}(h:z4g e=false):swappedStores [.Tuple es kt p] e env=pure none:=by
 cases e with
 |Tuple _ _ _=>cases h
 |_=>rfl
theorem zqq {es:List Expr}{kt:Nat}{p:Pos}{e:Expr}{l:Nat}{env:Env}:swapsWithSole [.Tuple es kt p] e l env=pure false:=by
 cases e<;>rfl
theorem z6b (HE:zcu fE) (HT:zm4 fT) (C:CxOk X S d) {tg e:Expr}{g:GS}{pos:Pos} (h:asgE fE fT S tg e=some g):PS X (.Assign [tg] e pos) (tS X.K S.mp g):=by
  cases tg with
  | Name x px =>
    refine aG fun _ qG=>?_;obtain ⟨i,hi,h⟩:=bS (show (S.wr x).bind _=_ from h);obtain ⟨w1,w2,w3⟩:=zst C hi;refine qG ?_;clear qG;have plain:(if zhd e then (fE S e).bind fun g=>some (gSet S.mp i g) else none)=some g->PS X (.Assign [.Name x px] e pos) (tS X.K S.mp g):=fun h=>by
      split at h
      · rename_i z
        obtain⟨ge,hg,h⟩:=bS h;obtain rfl:=sI h;exact (z3u (ndN C) w1 w2 (HE X S d C _ _ hg) (zqh z) w3).wk λ_ _ _=>zjd
      · exact noSome h
    cases e with
    | ListComp elt gens scope pc =>
      obtain⟨ge,hg,h⟩:=bS (show (zvn fE fT S elt gens scope).bind _=_ from h);have cp:=zhm HE HT C hg;split at h
      · rename_i z
        obtain rfl:=sI h;rw[Bz] at z;rcases z with z|z
        · refine aG fun Gg qG => ?_
          obtain ⟨tg,iter,ifs,gs,gi,T,tc,em,tm,e1,e2,so,pi,pf,pg,pt,pe,rd⟩:=cp.ex;refine qG ?_;clear qG;subst e1;exact (z5m (ndN C) w1 w2 pi pg pt (pe pc) (e2 pc) (yd8 C z) C.calm so.kind so.cap so.fr so.nc so.nm pf w3).wk fun D σ H q=>by
            have q':=zjd q;exact rd _ _ _ q'
        · exact (z3u (ndN C) w1 w2 (zug C cp) (swNo C z) w3).wk λ_ _ _=>zjd
      · exact noSome h
    |_=>exact plain h
  | Tuple es kt p =>
    have gen:(if z4g e then none else (zeq S es).bind fun is=>(fE S e).bind fun g=>some (gAsg S.mp (.tp is) g))=some g->PS X (.Assign [.Tuple es kt p] e pos) (tS X.K S.mp g):=fun h=>by
      split at h
      · exact noSome h
      · rename_i z
        nofun;obtain⟨is,his,h⟩:=bS h;obtain⟨ge,hg,h⟩:=bS h;ac_rfl;obtain rfl:=sI h;obtain⟨a,b,c⟩:=zd9 C _ his;exact (zxg (HE X S d C _ _ hg) (zgv C.calm a b c) zqq (z15 (by simpa using z)) rfl).wk λ_ _ _=>zzu
    unfold asgE at h;simp only at h;split at h
    · rename_i x px y py a b k2 p2
      split at h
      · rename_i z
        refine aG fun _ qG=>?_;obtain ⟨i,hi,h⟩:=bS h;obtain ⟨j,hj,h⟩:=bS h;obtain ⟨ga,hga,h⟩:=bS h;obtain ⟨gb,hgb,h⟩:=bS h;refine qG ?_;clear qG;obtain rfl:=sI h;have hsw:=ybb (pt:=p) (pt2:=p2) (kt:=kt) (k2:=k2) C z;unfold zy5 at z;simp only [Ac] at z;refine aG fun _ qG=>?_;obtain ⟨⟨⟨⟨⟨⟨⟨h1,h2⟩,h3⟩,h4⟩,h5⟩,h6⟩,h7⟩,h8⟩:=z;obtain ⟨x1,_,_⟩:=zst C hi;obtain ⟨y1,_,_⟩:=zst C hj;refine qG ?_;clear qG;have ne:i≠j:=fun e=>by
          subst e;rw[x1] at y1;obtain rfl:=sI y1;simp at h4
        exact (z9a C.calm (ndN C) x1 y1 ne (C.loc x (by simpa using h1)) (C.loc y (by simpa using h2)) (pac (HE X S d C _ _ hga) (pac (HE X S d C _ _ hgb) zfa h8) h7) hsw zqq).wk λ_ _ _=>zy0
      · exact noSome h
    · exact gen h
  | Subscript o k p =>
    cases o with
    | Name x px =>
      have h' : (if zeg k then (S.rd x).bind λi=>(fE S k).bind λgk=>(fE S e).bind λg=>some (za7 i gk g) else none)=some g:=h;split at h'
      · rename_i z
        nofun;obtain⟨i,hi,h⟩:=bS h';obtain⟨gk,hgk,h⟩:=bS h;obtain⟨ge,hg,h⟩:=bS h;ac_rfl;obtain rfl:=sI h;exact (zxg (HE X S d C _ _ hg) (ycb (zob C hi) (HE X S d C _ _ hgk) zys (zru z)) zzl yb8 rfl).wk λ_ _ _=>zsg
      · exact noSome h'
    |_=>exact noSome h
  |_=>exact noSome h
theorem zz7 (HS:z0e fS) (HE:zcu fE) (HT:zm4 fT):z0e (z35 fS fE fT):=fun X S d C st g h=>by
  have pn:PassesOwn #v[3,7] X.A X.env X.xe:=by rw[C.xe];exact PassesOwn.never
  cases st with
  | Return o p =>
    cases o with
    |none=>cases h
    | some e =>
      have gen:((fE S e).bind fun g=>some (gRet g))=some g->PS X (.Return (some e) p) (tS X.K S.mp g):=fun h=>by
        obtain⟨ge,hg,h⟩:=bS h;obtain rfl:=sI h;exact (z2w (HE X S d C _ _ hg)).wk λ_ _ _=>zz9
      cases e with
      | Name x px =>
        obtain⟨i,hi,h⟩:=bS (show (S.rd x).bind _=_ from h);obtain rfl:=sI h;exact (z2w (zob C hi)).wk λ_ _ _=>zw0
      |_=>exact gen h
  | If c a b p =>
    obtain⟨t,ht,h⟩:=bS (show (fT S c).bind _=_ from h);obtain⟨x,hx,h⟩:=bS h;obtain⟨y,hy,h⟩:=bS h;obtain rfl:=sI h;exact (yei (HT X S d C _ _ ht) (zl9 HS C hx) (zl9 HS C hy)).wk λ_ _ _=>z1t
  | For tg it body els p =>
    cases els with
    |cons _ _=>exact noSome h
    | nil =>
      obtain⟨gi,hgi,h⟩:=bS (show (zum fE S tg it).bind _=_ from h);obtain⟨T,hT,h⟩:=bS h;obtain⟨gb,hb,h⟩:=bS h;obtain rfl:=sI h;obtain⟨pi,pf⟩:=zql HE C hgi;exact (yba pn C.calm pi (z3m C hT) (zl9 HS C hb) pf).wk λ_ _ _=>zzn
  |Pass p=>obtain rfl:=sI h;exact z51.wk λ_ _ _=>zlw
  | Expr e p =>
    have h' : (if zhd e then (fE S e).bind λg=>some (zdk g) else none)=some g:=h;split at h'
    · rename_i z
      obtain⟨ge,hg,h⟩:=bS h';obtain rfl:=sI h;exact (z5t (HE X S d C _ _ hg) (zqh z)).wk λ_ _ _=>zwj
    · exact noSome h'
  | Assign ts e p =>
    match ts,h with
    |[tg],h=>exact z6b HE HT C h
    |[],h=>exact noSome h
    |_::_::_,h=>exact noSome h
  | AugAssign tg op e p =>
    cases tg with
    | Name x px =>
      obtain⟨i,hi,h⟩:=bS (show (S.wr x).bind _=_ from h);obtain⟨o,ho,h⟩:=bS h;obtain⟨a,ha,h⟩:=bS h;obtain rfl:=sI h;obtain⟨w1,w2,w3⟩:=zst C hi;obtain⟨r,h1,h2⟩:=z7b (X:=X) ho;exact (z87 (ndN C) w1 w2 (zaf HE C ha) h1 w3).wk λ_ _ _=>z0k h2
    |_=>exact noSome h
  |_=>exact noSome h
end
noncomputable def zup:GS:=λ_=>none
noncomputable def zv2:Nat->Sx->Stmt->Option GS
 |0,_,_=>some zup
 |n+1,S,st=>some ((orS (extS (compE n) S st) (z35 (zv2 n) (compE n) (compT n) S st)).getD zup)
theorem zq6 {X:Cx}{st:Stmt}{mp:List Nat}:PS X st (tS X.K mp zup):=λ_ _ _ _ _ _ q=>by obtain⟨_,_,_,_,_,_,h,_⟩:=q;exact noSome h
theorem zi0:∀n,z0e (zv2 n)
  |0=>λ_ _ _ _ _ _ h=>by obtain rfl:=sI h;exact zq6
  | n+1=>fun X S d C st g h=>by
    rw[zv2] at h;cases q:orS (extS (compE n) S st) (z35 (zv2 n) (compE n) (compT n) S st) with
    |none=>rw[q] at h;obtain rfl:=sI h;exact zq6
    |some g'=>rw[q] at h;obtain rfl:=sI h;exact z9f (z65 (zfi n).1 C) (zz7 (zi0 n) (zfi n).1 (zfi n).2 X S d C) st _ q
structure Fd where
 nm:Str
 ps:List Str
 N:List Str
 m:List Bool
 st:Stmt
noncomputable def deep:Nat:=60
noncomputable def sxOf (T:List Fd) (bn:List Str) (Ψ:Str->Fn) (d:Nat) (t:Fd):Sx:={ N:=t.N,kd:=(zaq t.st).names,bn:=bn,fs:=T.map λu=>(u.nm,(u.m,Ψ u.nm)),mp:=mpOf t.m,top:=true,nm:=t.nm,dp:=d }
noncomputable def zai (T:List Fd) (bn:List Str) (Ψ:Str->Fn) (d:Nat) (t:Fd):Option GS:=blk (zv2 deep) (sxOf T bn Ψ d t) (zds t.st)
noncomputable def fnAt (T:List Fd) (bn:List Str) (Ψ:Str->Fn) (d:Nat) (t:Fd):Fn:=match zai T bn Ψ d t with
 |some g=>zac t.m t.N.length g
 |none=>λ_=>none
noncomputable def sem (T:List Fd) (bn:List Str):Nat->Str->Fn
  |0,_=>λ_=>none
  | d+1,x=>match T.find? (·.nm == x) with
    |some t=>fnAt T bn (sem T bn d) d t
    |none=>λ_=>none
noncomputable def zz0 (K:PySem.W.Frag) (x:Str):Bool:=match PySem.W.tabIn K x with
 |some (c,P)=>PySem.W.codeHdIn K c P
 |none=>false
theorem Fun.okC {P:Program}{w:World}{K:PySem.W.Frag}{mg:Str->Option Value}{base:Heap}{x qual:Str}{st:Stmt}{f:Addr}{fd:FuncData}{N ps:List Str}{k:Nat}{sp:Sp} (F:Fun K x qual st f fd) (S:FnScope N ps (zaq st)) (len:∀vs H Q E,sp vs H Q E->vs.length=ps.length)
  (hbody:∀(A:Around) (outer:List Env) (s:Shared) (H:Hp) (vs:List V) (Q:VK) (E:XK),(Room k (A.deeper (envOfC qual (zaq st) s.heap.objs.size f fd.code))/\Room (k+1) A)->sp vs H Q E ->
   ∃t,PSs (cxOf CX0 P w K mg base N qual (zaq st) f fd.code A outer s H E).nox (zds st) t/\t { nx:=λ_ H'=>Q .non H',rt:=Q } (start N vs) H):FnOk P w K mg base CX0 (k+1) f fd ps sp:=by
 nofun;obtain⟨oc,od,kV,doc,pm,an,cdv,ct,osl,rfl,lk,hcd⟩:=F.ex;ac_rfl;refine yd3 lk hcd S len λA outer s H vs Q E hr hsp=>?_;obtain⟨t,h,q⟩:=hbody A outer s H vs Q E hr hsp;exact⟨t,h.nox,q⟩
structure FdOk (K:PySem.W.Frag) (mg:Str->Option Value) (t:Fd):Prop where
 sc:FnScope t.N t.ps (zaq t.st)
 m:t.m.length=t.ps.length
 ex:∃f fd,Fun K t.nm t.nm t.st f fd/\zn2 K fd t.ps []/\mg t.nm=some (.ref f)
 lam:t.nm∈lams->zz0 K t.nm=true
theorem zs5 {T:List Fd}{Ψ:Str->Fn}{x:Str}{m:List Bool}{Φ:Fn} (h:(T.map fun u=>(u.nm,(u.m,Ψ u.nm))).lookup x=some (m,Φ)):∃t∈T,t.nm=x/\t.m=m/\Φ=Ψ x:=by
  induction T with
  |nil=>exact noSome h
  | cons t T ih =>
    rw[Bd,Bl] at h;cases q:x == t.nm with
    | true =>
      rw[q] at h;cases h;have:=Br q;subst this;exact⟨t,Au,rfl,rfl,rfl⟩
    | false =>
      rw[q] at h;obtain⟨u,h1,h2⟩:=ih h;exact⟨u,Aq _ h1,h2⟩
theorem z5w {T:List Fd} (nd:(T.map (·.nm)).Nodup) {t:Fd} (h:t∈T):T.find? (·.nm == t.nm)=some t:=by
  induction T with
  |nil=>cases h
  | cons u T ih =>
    rw[Bd,Cr] at nd;rw[List.find?_cons];rcases At.mp h with rfl|h
    · simp
    · have:(u.nm == t.nm)=false:=by
        cases q:u.nm == t.nm with
        |false=>rfl
        |true=>exact absurd (Bw.mpr ⟨t,h,(Br q).symm⟩) nd.1
      rw[this];exact ih nd.2 h
theorem zxk {P:Program}{w:World}{K:PySem.W.Frag}{mg:Str->Option Value}{base:Heap}{T:List Fd}{bn:List Str} (nd:(T.map (·.nm)).Nodup) (ok:∀t∈T,FdOk K mg t) (hb:∀x∈bn,mg x=none) (kb:K.In base) (nb:base.Ns mainGlobals mg) :
    ∀(d:Nat) (t:Fd),t∈T->∀f fd,Fun K t.nm t.nm t.st f fd->mg t.nm=some (.ref f)->FnOk P w K mg base CX0 d f fd t.ps (spF K t.m (sem T bn d t.nm))
  |0,t,_,f,fd,_,_=>⟨λvs H Q E h=>(by obtain⟨_,_,_,_,_,_,_,_,h,_⟩:=h;cases h),λA outer s H args us vs Q E hr he hbi hv h=>(by obtain⟨_,_,_,_,_,_,_,_,h,_⟩:=h;cases h)⟩
  | d+1,t,ht,f,fd,F,M=>by
    have o:=ok t ht;refine F.okC (k:=d) o.sc (fun vs H Q E h=>(zwp h).trans o.m) (fun A outer s H vs Q E hr h=>?_);have es:sem T bn (d+1) t.nm=fnAt T bn (sem T bn d) d t:=by
      show (match T.find? (·.nm == t.nm) with|some t=>fnAt T bn (sem T bn d) d t|none=>λ_=>none)=_;rw[z5w nd ht]
    rw[es] at h;unfold fnAt at h;cases e:zai T bn (sem T bn d) d t with
    | none =>
      rw[e] at h;nofun;obtain⟨_,_,_,_,_,_,_,_,h,_⟩:=h;ac_rfl;exact noSome h
    | some g =>
      rw [e] at h;have C:CxOk (cxOf CX0 P w K mg base t.N t.nm (zaq t.st) f fd.code A outer s H E).nox (sxOf T bn (sem T bn d) d t) d:={
        N:=rfl
        nd:=o.sc.nd
        loc:=λx e=>e
        cel:=λx e=>⟨e,rfl⟩
        vis:=λx e=>e
        gl:=λx e=>e
        calm:=rfl
        xe:=rfl
        bn:=hb
        fs:=fun x m Φ e=>by
          nofun;obtain⟨u,hu,e1,e2,e3⟩:=zs5 e;ac_rfl;subst e1 e2 e3;nofun;obtain⟨fa,fb,F',B',M'⟩:=(ok u hu).ex;ac_rfl;exact⟨u.ps,(ok u hu).m.symm,⟨fa,fb,zxk nd ok hb kb nb d u hu fa fb F' M',B',F'.kp,M'⟩⟩
        room:=hr.1
        sl:=by have:=hr.2.un;show A.units+3+16 * d+205<cLine;omega
        dpo:=Ad _
        lam:=fun h=>by
          have q:=o.lam h;unfold zz0 at q;split at q
          · rename_i c Pt e
            refine⟨c,Pt,e,q,?_,rfl⟩;nofun;obtain⟨oc,od,kV,doc,pm,an,cdv,ct,osl,e1,lk,hcd⟩:=F.ex;ac_rfl;exact PySem.W.law_code kb nb e M (kb _ _ lk) rfl
          · cases q
        bk:=by
          show (if (zaq t.st).kind.isAnnotationScope then ScopeKind.function else (zaq t.st).kind)=.function;rw[o.sc.kind];rfl }
      exact⟨_,zl9 (zi0 deep) C e,z57 h⟩
theorem zta {K:PySem.W.Frag}{F H:Hp}{a:Addr}{ns:List Int}{Φ:Fn}{ws' : List W}(hs:Same F H)(tb:zr5 K F (λ_ _=>False) H)(h:SqL K F a (ns.map V.int))(e:Φ [.frl (ns.map W.int)]=some (ws',#v[9,12]))(hl:ws'.length=1){E:XK}:spF K [false] Φ [.ref a] H (λv _=>v=.bl true) E:=by
 refine⟨F,λ_ _=>False,_,ws',_,rfl,hl,⟨rfl,hs,λi w q=>?_,λi w q=>?_,λi j a w w' q=>?_,λb o q=>q.elim,tb⟩,e,λF' H' v _ _ z=>?_⟩
 ·cases i with
  |zero=>cases q;exact⟨_,rfl,.frl h (Reps.ofInts ns)⟩
  |succ i=>cases i<;>exact noSome q
 ·cases i with
  |zero=>cases q
  |succ i=>cases i<;>exact noSome q
 ·cases i with
  |zero=>cases q
  |succ i=>cases i<;>exact noSome q
 ·exact z.isBl
noncomputable def tabsOf (K:PySem.W.Frag):List Addr:=lams.filterMap λx=>(PySem.W.tabIn K x).map (·.2)
theorem zju {K:PySem.W.Frag}{b:Addr}:b∈tabsOf K↔∃x∈lams,∃c,PySem.W.tabIn K x=some (c,b):=by
 unfold tabsOf;rw[List.mem_filterMap];constructor
 ·rintro ⟨x,hx,e⟩;cases q:PySem.W.tabIn K x with
  |none=>rw[q] at e;exact noSome e
  |some p=>rw[q] at e;obtain rfl:=sI e;exact⟨x,hx,p.1,q⟩
 ·rintro ⟨x,hx,c,e⟩;exact⟨x,hx,by rw[e];rfl⟩
noncomputable def ybs (K:PySem.W.Frag) (h:Heap):Prop:=∀x∈lams,∀c P,PySem.W.tabIn K x=some (c,P)->PySem.W.CodeHd h c P/\h.get? P=some (PySem.W.tabObj #[])
structure Start (K:PySem.W.Frag) (F H:Hp):Prop where
 sub:Same F H
 tb:zr5 K F (λ_ _=>False) H
theorem zuo {P:Program}{w:World}{K:PySem.W.Frag}{mg mb:Str->Option Value}{CX:CXT}{k:Nat}{fa a:Addr}{fd:FuncData}{x:Str}{sp:Sp}{s₁:Shared}{vs:List Value}{ns:List Int}
    (KX:K.In s₁.heap) (nt:PySem.W.noTabs K=true) (nd:z46 K) (hT:ybs K s₁.heap) (hns:s₁.heap.Ns mainGlobals mg) (hb:s₁.heap.Ns builtinsNs mb) (hbb:∀x:Str,x≠"__name__" -> mb x=bootBuiltins x) (hlim:s₁.heap.NoLimit) (hbm:∃(b:Addr) (ob:Obj),mg "__builtins__" = some (.ref b)/\b≠builtinsNs/\s₁.heap.get? b=some ob/\ob.cls=.type "module"/\ob.dict=some builtinsNs/\ob.data=.plain) (hg:s₁.gens=#[])
    (ha:s₁.heap.get? a=some { cls:=.type "list",data:=.seq vs.toArray }) (hi:IntsAre vs ns) (hl:ns.length<=sizeLine) (hr:Room k callerA)
    (Fk:∀base:Heap,K.In base->base.Ns mainGlobals mg->FnOk P w K mg base CX k fa fd [x] sp) (hbind:∀(s:Shared) (u:Value),BindsTo s fd ⟨[u],[]⟩ [(x,u)])
    (hsp:∀F H:Hp,Start K F H->SqL K F a (ns.map V.int)->sp [.ref a] H (λv _=>v=.bl true) λ_ _ _=>False)
    (hCX:∀H e s',CX [] H s₁ (λ_ _ _=>False) e s'->False) :
    codeAny (model P w) callerA (.call (.ref fa) ⟨[.ref a],[]⟩) (λr s'=>r=.ok (.ret (.bool true))/\OldK s₁.heap s'.heap/\s'.os=s₁.os/\AllBare s'.gens) s₁:=by
  have rv:=znf hi;have lenV:=hi.length;have tabAt:∀b∈tabsOf K,s₁.heap.get? b=some (PySem.W.tabObj #[]):=fun b h=>by
    nofun;obtain⟨x,hx,c,e⟩:=zju.mp h;ac_rfl;exact (hT x hx c b e).2
  have na:a ∉ tabsOf K:=fun h=>by
    have:=tabAt a h;rw[ha] at this;cases this
  have core:∀F H:Hp,(∀b,H b=none\/(b∈tabsOf K/\H b=some (.tbl #[])/\F b=none)\/(b=a/\K.lookup a=none/\F b=H b/\∃o xs,H b=some (.frz o (.lst xs))))->(∀b,H b=none->F b=none)->(∀b∈tabsOf K,H b=some (.tbl #[]))->SqL K F a (ns.map V.int)->HOk P w H s₁.heap ->
      codeAny (model P w) callerA (.call (.ref fa) ⟨[.ref a],[]⟩) (λr s'=>r=.ok (.ret (.bool true))/\OldK s₁.heap s'.heap/\s'.os=s₁.os/\AllBare s'.gens) s₁:=by
    intro F H hO hF hB hS hok;have base_of:∀{b:Addr}{o:Obj},s₁.heap.get? b=some o->H b=none->(hidT s₁.heap H).get? b=some o:=fun e n=>z06 e n;have noA:∀{b:Addr}{o:Obj}{es:Array DictEntry}{ep:Nat},s₁.heap.get? b=some o->o.data=.dict es ep->H b=none:=fun {b o es ep} e d=>by
      rcases hO b with z|⟨z,_⟩|⟨z,_⟩
      · exact z
      · rw[tabAt b z] at e;obtain rfl:=sI e;cases d
      · subst z
        rw[ha] at e;obtain rfl:=sI e;have d' : Data.seq vs.toArray _=Data.dict es ep:=d;cases d'
    have nsK:∀{b:Addr}{m:Str->Option Value},s₁.heap.Ns b m->(hidT s₁.heap H).Ns b m:=fun {b m} ⟨o,es,ep,e,d,r⟩=>⟨o,es,ep,base_of e (noA e d),d,r⟩;have hKb:K.In (hidT s₁.heap H):=fun b o e=>base_of (KX b o e) (by
      rcases hO b with z|⟨z,_⟩|⟨z,n,_⟩
      · exact z
      · have e2 := KX b o e
        rw[tabAt b z] at e2;obtain rfl:=sI e2;have:=Bm.mp nt (b,_) (PySem.W.mem_of_lookupK e);exact absurd (show false=true from this) Ag
      · subst z
        rw[n] at e;cases e)
    have hM:Mod K mg (hidT s₁.heap H):=⟨hKb,nsK hns,⟨mb,nsK hb,hbb⟩,let ⟨mc,h1,h2⟩:=hlim;⟨mc,nsK h1,h2⟩,by
      nofun;obtain⟨b,ob,b1,b2,b3,b4,b5,b6⟩:=hbm;ac_rfl;refine⟨b,ob,b1,b2,base_of b3 ?_,b4,b5,b6⟩;rcases hO b with z|⟨z,_⟩|⟨z,_⟩
      · exact z
      · rw[tabAt b z] at b3;obtain rfl:=sI b3;cases b4
      · subst z;rw[ha] at b3;obtain rfl:=sI b3;exact absurd b4 (by simp)⟩
    have e0:Env0 P w K mg (hidT s₁.heap H) callerA [] s₁ H:=⟨rfl,hM,fun b o e=>z47 e,Nat.le_of_eq (zx1 _ _),trivial,fun b hb=>absurd (show b∈([]:List Addr) from hb) (by simp),hok,.of_eq hg⟩;have st:Start K F H:=⟨fun b o e=>by
      rcases hO b with z|⟨_,_,z⟩|⟨_,_,z,_⟩
      · rw[hF b z] at e;cases e
      · rw[z] at e;cases e
      · rw[<-z];exact e,⟨⟨nd,λ_ _ z=>z⟩,λx hx c Pt e=>by
      have hm:Pt∈tabsOf K:=zju.mpr ⟨x,hx,c,e⟩;refine⟨#[],hB Pt hm,?_,λ_ z=>z,trivial,λpos cv q=>by cases q⟩;rcases hO Pt with z|⟨_,_,z⟩|⟨z,_⟩
      · exact hF Pt z
      · exact z
      · subst z;exact absurd hm na⟩⟩
    refine codeAny_mono ((Fk _ hKb (nsK hns)).run callerA [] s₁ H ⟨[.ref a],[]⟩ [.ref a] [.ref a] _ _ hr e0 (hbind s₁ (.ref a)) (.cons rfl .nil) (hsp F H st hS)) λr s' h=>?_;cases r with
    |error e=>exact (hCX H e s' h).elim
    | ok fl =>
      cases fl with
      |next=>exact False.elim h
      |brk=>exact False.elim h
      |cont=>exact False.elim h
      | ret u =>
        nofun;obtain⟨v,H',os,bare,un,hok',r',q⟩:=h;ac_rfl;have q' : v=.bl true:=q;subst q';obtain rfl:u=Value.bool true:=r';refine⟨rfl,⟨λb o e=>?_,λb o e=>un.there b o e (by simp)⟩,os,bare⟩;rcases hO b with z|⟨z,z1,_⟩|⟨_,_,_,ob,xs,z⟩
        · exact .inl (un.keep b o e z (by intro y;exact absurd (show b∈([]:List Addr) from y) (by simp)) (by simp))
        · refine aG fun Gg qG => ?_
          obtain⟨x,hx,c,ex⟩:=zju.mp z;obtain⟨t1,t2⟩:=hT x hx c b ex;ac_rfl;rw[e] at t2;obtain rfl:=sI t2;obtain⟨more,e2⟩:=un.tbls b #[] z1;exact .inr (.inl ⟨(t1.tab e).isCodeTable,rfl,#[],more,rfl,hok' b _ e2⟩)
        · have z2 := un.frzs b ob _ z
          obtain⟨e1,_⟩:=hok b _ z;obtain⟨e2,_⟩:=hok' b _ z2;rw[e] at e1;obtain rfl:=sI e1;exact .inl e2
  have tOk:∀b,b∈tabsOf K->∀H,zbx P w H s₁.heap b (.tbl #[]):=λb h H=>tabAt b h;cases hk:K.lookup a with
  | some o =>
    have e:=KX a o hk;rw[ha] at e;obtain rfl:=sI e;refine core (λ_=>none) (λb=>if b∈tabsOf K then some (.tbl #[]) else none) (λb=>?_) (λ_ _=>rfl) (λb h=>if_pos h) (.inr ⟨_,vs.toArray,_,hk,rfl,rfl,rfl,by rw[Ah,lenV];exact hl,by simpa using rv⟩) (λb u z=>?_)
    · by_cases h : b ∈ tabsOf K
      · exact .inr (.inl ⟨h,if_pos h,rfl⟩)
      · exact .inl (if_neg h)
    · by_cases h : b ∈ tabsOf K
      · have z' := (if_pos h).symm.trans z
        obtain rfl:=sI z';exact tOk b h _
      · have z' := (if_neg h).symm.trans z
        cases z'
  | none =>
    refine core (λb=>if b=a then some (.frz { cls:=.type "list",data:=.seq vs.toArray } (.lst (ns.map V.int))) else none) (λb=>if b=a then some (.frz { cls:=.type "list",data:=.seq vs.toArray } (.lst (ns.map V.int))) else if b∈tabsOf K then some (.tbl #[]) else none) (λb=>?_) (λb z=>?_) (λb h=>?_) (.inl (.inr ⟨{ cls:=.type "list",data:=.seq vs.toArray },if_pos rfl⟩)) (λb u z=>?_)
    · by_cases h0 : b = a
      · exact .inr (.inr ⟨h0,hk,by simp only [if_pos h0],_,_,if_pos h0⟩)
      · by_cases h : b ∈ tabsOf K
        · exact .inr (.inl ⟨h,by simp only [if_neg h0,if_pos h],if_neg h0⟩)
        · exact .inl (by simp only [if_neg h0,if_neg h])
    · by_cases h0 : b = a
      · simp only [if_pos h0] at z;cases z
      · exact if_neg h0
    · have h0 : b ≠ a := fun z => by subst z; exact na h
      simp only [if_neg h0,if_pos h]
    · by_cases h0 : b = a
      · have z' : some (HO.frz { cls := .type "list", data := .seq vs.toArray } (.lst (ns.map V.int))) = some u := by simpa only [if_pos h0] using z
        obtain rfl:=sI z';subst h0;exact⟨ha,by rw[Ae];exact hl,vs,_,rv,ha⟩
      · by_cases h : b ∈ tabsOf K
        · have z' : some (HO.tbl #[]) = some u := by simpa only [if_neg h0, if_pos h] using z
          obtain rfl:=sI z';exact tOk b h _
        · have z' : (none : Option HO) = some u := by simpa only [if_neg h0, if_neg h] using z
          cases z'
noncomputable def ztq (K:PySem.W.Frag):Bool:=lams.all λx=>lams.all λx'=>match PySem.W.tabIn K x,PySem.W.tabIn K x' with
 |some p,some p'=>x == x' || !(p.2 == p'.2)
 |_,_=>true
theorem z1r {K:PySem.W.Frag}(h:ztq K=true):z46 K:=λx hx x' hx' c c' P e e'=>by
 have:=Bm.mp (Bm.mp h x hx) x' hx';rw[e,e'] at this;simpa using this
theorem walk_ofT {l:PySem.W.OpenLaw}{n k:Nat}{q:Program}{loose:List Str}{XP:(Str->Option Value)->Heap->Prop}{YP:World->Heap->Prop}{d:DefRec}{K:Params->PySem.W.Frag}{CX:World->CXT}{sp:World->Sp}{x:Str}
  (hn:l.most=some n) (hn2:n<=sizeLine) (hdf:d.params.defaults=[]) (hr:Room k callerA)
  (hY:∀(w:World) (h:Heap),YP w h->(K w.params).In h)
  (nt:∀w:World,PySem.W.noTabs (K w.params)=true) (nd:∀w:World,ztq (K w.params)=true) (hrec:∀(w:World),∀x∈lams,∀c P,PySem.W.tabIn (K w.params) x=some (c,P)->∃d,(recsOf q).find? (λe=>e.name == x)=some d)
  (F:∀(w:World) (mg:Str->Option Value) (fa:Addr) (h:Heap),(K w.params).In h->h.Ns mainGlobals mg->mg d.name=some (.ref fa) ->
   ∃fd:FuncData,(∀(s:Shared) (u:Value),BindsTo s fd ⟨[u],[]⟩ [(x,u)]) /\
    ∀base:Heap,(K w.params).In base->base.Ns mainGlobals mg->FnOk l.prog w (K w.params) mg base (CX w) k fa fd [x] (sp w))
  (hsp:∀(w:World) (F H:Hp) (a:Addr) (ns:List Int),ns.length<=n->Start (K w.params) F H->SqL (K w.params) F a (ns.map V.int)->sp w [.ref a] H (λv _=>v=.bl true) λ_ _ _=>False)
  (hCX:∀(w:World) (H:Hp) (s:Shared) (e:Value) (s' : Shared),CX w [] H s (λ_ _ _=>False) e s'->False) :
  PySem.W.WalkO q loose XP YP l.row.toRowW d [] (λf vs=>PySem.call f vs):=by
 refine Att.attach_call hn hdf λw s₀ s₁ mg mb fa o pm cd doc a vs ns G Y ho hd hcd hmg hobj hints hlen hg=>?_;have KX:=hY w _ Y;obtain⟨fd,hb,hF⟩:=F w mg fa _ KX G.T.g hmg;refine zuo KX (nt w) (z1r (nd w)) (λx hx c Pt e=>?_) G.T.g G.T.b G.T.builtins G.T.nolimit G.T.bmain hg hobj hints (Ct hlen hn2) hr hF hb (λF H hO hS=>hsp w F H a ns hlen hO hS) λH e s'=>hCX w H s₁ e s';obtain⟨d,hd⟩:=hrec w x hx c Pt e;exact PySem.W.tab_of G.T KX hd e
theorem zv4 (i j:Int):oAdd (.int i) (.int j)=#v[(i+j),0]:=rfl
theorem zux {i j:Int}(h:cMul i j=true):oMult (.int i) (.int j)=#v[(i * j),0]:=by
 show (match (if cMul i j then #v[W.int (i * j),6] else none) with|some p=>some p|none=>_)=_;rw[if_pos h]
theorem oMult_l {i j:Int}(h1:-(2 ^ 64)<i)(h2:i<2 ^ 64):oMult (.int i) (.int j)=#v[(i * j),0]:=zux (by
 unfold cMul;rw[Bz,Ac];exact .inl ⟨Af h1,Af h2⟩)
theorem zg5 {i j:Int}(h1:-(2 ^ 64)<j)(h2:j<2 ^ 64):oMult (.int i) (.int j)=#v[(i * j),0]:=zux (by
 unfold cMul;rw[Bz,Ac,Ac];exact .inr ⟨Af h1,Af h2⟩)
theorem zw4 {i j:Int}(h1:Builtin.Int.intBits i<=2 ^ 20)(h2:Builtin.Int.intBits j<=2 ^ 20):oMult (.int i) (.int j)=#v[(i * j),0]:=by
 have h:zrp i j=true:=by
  unfold zrp;rw[Ac];exact⟨Af h1,Af h2⟩
 show (match (if cMul i j then #v[W.int (i * j),6] else none) with|some p=>some p|none=>(match (if zrp i j then #v[W.int (i * j),6] else none) with|some p=>some p|none=>_))=_;rw[if_pos h];split<;>simp_all
theorem zls {xs:List W}{k:Int}(h:-(2 ^ 63)<=k/\k<2 ^ 63/\xs.length * k.toNat<=sizeLine):oMult (.lst xs) (.int k)=#v[(List.replicate k.toNat xs).flatten,2]:=by
 show (if -(2 ^ 63)<=k/\k<2 ^ 63/\xs.length * k.toNat<=sizeLine then some (W.lst (List.replicate k.toNat xs).flatten,true) else none)=_;rw[if_pos h]
theorem zvd {xs ys:List W}(h:xs.length+ys.length<=sizeLine):oAdd (.lst xs) (.lst ys)=#v[(xs++ys),2]:=by
 show (match (if xs.length+ys.length<=sizeLine then #v[W.lst (xs++ys),5] else none) with|some p=>some p|none=>_)=_;rw[if_pos h]
theorem yan {i j:Int}(h0:0<j)(h:j<2 ^ 200):cDiv i j=true:=by
 unfold cDiv;rw[Ac];refine⟨Af h0,Af ?_⟩;have hn:j.natAbs≠0:=by omega
 have h1:j.natAbs<2 ^ 200:=by
  have:((j.natAbs:Nat):Int)<((2 ^ 200:Nat):Int):=by
   rw[Int.natCast_pow];have e:((j.natAbs:Nat):Int)=j:=by omega
   rw[e];exact h
  exact Int.ofNat_lt.mp this
 exact Aw ((Nat.log2_lt hn).mpr h1) #v[0,9]
theorem zqo {i j:Int}(h0:0<j)(h:j<18446744073709551617):cDiv i j=true:=yan h0 (Gp h #v[0,9])
theorem zl1 {i j:Int}(h0:0<=j)(h1:j<=1000000)(h2:i.natAbs<2 ^ 64):cPow i j=true:=by
 unfold cPow;rw[Ac,Ac];exact⟨⟨Af h0,Af h1⟩,Af h2⟩
theorem zqk {mp:List Nat}{T:Tg}{body:GS} (P:Nat->En->Prop):∀(ws:List W) (k:Nat) (en:En),P k en->(∀i w e,ws[i]?=some w->P (k+i) e->∃e1 e2,tgSet mp T w e=some e1/\(body e1=some (e2,.nx)\/body e1=some (e2,.cnt))/\P (k+i+1) e2) ->
    ∃en',zgb mp T body ws en=some (en',.nx)/\P (k+ws.length) en'
  |[],k,en,h0,_=>⟨en,rfl,h0⟩
  | w::ws,k,en,h0,hs=>by
    refine aG fun _ qG=>?_;obtain ⟨e1,e2,h1,h2,h3⟩:=hs 0 w en rfl h0;refine qG ?_;clear qG;obtain ⟨en',h4,h5⟩:=zqk P ws (k+1) e2 h3 fun i u e hu hp=>by
      have:=hs (i+1) u e (by simpa using hu) (by rw[show k+(i+1)=k+1+i by omega];exact hp);rw[show k+(i+1)+1=k+1+i+1 by omega] at this;exact this
    refine⟨en',?_,by rw[show k+(w::ws).length=k+1+ws.length by rw[Ay];omega];exact h5⟩;show (tgSet mp T w en).bind _=_;rw[h1];show (match body e1 with|some (e2,.nx)=>zgb mp T body ws e2|some (e2,.cnt)=>zgb mp T body ws e2|some (e2,.brk)=>some (e2,.nx)|some (e2,.ret r)=>some (e2,.ret r)|none=>none)=_;rcases h2 with h2|h2<;>(rw[h2];exact h4)
theorem zav {mp:List Nat}{T:Tg}{it:GL}{body:GS} (P:Nat->En->Prop) {en e0:En}{ws:List W} (hi:it en=some (e0,ws)) (h0:P 0 e0) (hs:∀i w e,ws[i]?=some w->P i e->∃e1 e2,tgSet mp T w e=some e1/\(body e1=some (e2,.nx)\/body e1=some (e2,.cnt))/\P (i+1) e2) :
  ∃en',gFor mp T it body en=some (en',.nx)/\P ws.length en':=by
 obtain⟨en',h1,h2⟩:=zqk P ws 0 e0 h0 λi w e hw hp=>by
  rw[Dc] at hp ⊢;exact hs i w e hw hp
 refine⟨en',?_,by rw[Dc] at h2;exact h2⟩;unfold gFor;rw[hi];exact h1
theorem zly {mp:List Nat}{T:Tg}{tc:GT}{te:GE} (P:Nat->En->List W->Prop):∀(ws:List W) (k:Nat) (ce:En) (dn:List W),P k ce dn ->
    (∀i w c dn,ws[i]?=some w->P (k+i) c dn->∃c1,tgSet mp T w c=some c1/\((∃c2 c3 r,tc c1=#v[c2,5]/\te c2=some (c3,r)/\P (k+i+1) c3 (dn++[r.1]))\/∃c2,tc c1=#v[c2,6]/\P (k+i+1) c2 dn)) ->
    ∃ce' rest,zhr mp T tc te ws ce=some (ce',rest)/\P (k+ws.length) ce' (dn++rest)
  |[],k,ce,dn,h0,_=>⟨ce,[],rfl,by rw[By];exact h0⟩
  | w::ws,k,ce,dn,h0,hs=>by
    obtain ⟨c1,h1,h2⟩:=hs 0 w ce dn rfl h0;have next:∀c3 dn',P (k+1) c3 dn'->∃ce' rest,zhr mp T tc te ws c3=some (ce',rest)/\P (k+1+ws.length) ce' (dn'++rest):=fun c3 dn' h=>zly P ws (k+1) c3 dn' h fun i u c d hu hp=>by
      have:=hs (i+1) u c d (by simpa using hu) (by rw[show k+(i+1)=k+1+i by omega];exact hp);rw[show k+(i+1)+1=k+1+i+1 by omega] at this;exact this
    have el:k+(w::ws).length=k+1+ws.length:=by rw[Ay];omega
    rcases h2 with⟨c2,c3,r,h3,h4,h5⟩|⟨c2,h3,h5⟩
    · obtain ⟨ce', rest, h6, h7⟩ := next c3 _ h5
      refine⟨ce',r.1::rest,?_,by rw[el];rw[Bc] at h7;exact h7⟩;show (tgSet mp T w ce).bind _=_;rw[h1];show (match tc c1 with|#v[c2,5]=>(te c2).bind λp=>(zhr mp T tc te ws p.1).bind λq=>some (q.1,p.2.1::q.2)|#v[c2,6]=>zhr mp T tc te ws c2|none=>none)=_;rw[h3];show (te c2).bind _=_;rw[h4];show (zhr mp T tc te ws c3).bind _=_;rw[h6]
      rfl
    · obtain ⟨ce', rest, h6, h7⟩ := next c2 _ h5
      refine⟨ce',rest,?_,by rw[el];exact h7⟩;show (tgSet mp T w ce).bind _=_;rw[h1];show (match tc c1 with|#v[c2,5]=>(te c2).bind λp=>(zhr mp T tc te ws p.1).bind λq=>some (q.1,p.2.1::q.2)|#v[c2,6]=>zhr mp T tc te ws c2|none=>none)=_;rw[h3];exact h6
theorem zer {cap:Cap}{T:Tg}{it:GL}{tc:GT}{te:GE} (P:Nat->En->List W->Prop) {en e0:En}{ws:List W} (hi:it en=some (e0,ws)) (hn:zcp cap=true) (hz:ws.length<=sizeLine) (h0:P 0 (zgh cap e0) [])
  (hs:∀i w c dn,ws[i]?=some w->P i c dn->∃c1,tgSet (capKeep cap) T w c=some c1/\((∃c2 c3 r,tc c1=#v[c2,5]/\te c2=some (c3,r)/\P (i+1) c3 (dn++[r.1]))\/∃c2,tc c1=#v[c2,6]/\P (i+1) c2 dn)) :
  ∃ce' out,zb5 cap T it tc te en=some (zbm cap e0 ce',(.lst out,true))/\P ws.length ce' out:=by
 obtain⟨ce',rest,h1,h2⟩:=zly P ws 0 (zgh cap e0) [] h0 λi w c dn hw hp=>by
  rw[Dc] at hp ⊢;exact hs i w c dn hw hp
 refine⟨ce',rest,?_,by rw[Dc] at h2;exact h2⟩;unfold zb5;rw[hi];show (if zcp cap && decide (ws.length<=sizeLine) then _ else none)=_;rw[if_pos (by rw[hn,Af hz];rfl),h1]
 rfl
theorem zbl {lo:Int}{n i:Nat}{w:W} (h:(rngW lo n)[i]?=some w):i < n/\w=.int (lo+i):=by
  unfold rngW at h;rw[An] at h;cases q:(List.range n)[i]? with
  |none=>rw[q] at h;exact noSome h
  | some k =>
    rw[q] at h;obtain⟨hl,e⟩:=Aj.mp q;rw[Be] at hl;rw[Er] at e;subst e;exact⟨hl,(sI h).symm⟩
theorem zap (lo:Int)(n:Nat):(rngW lo n).length=n:=by unfold rngW;rw[Ae,Be]
theorem zbd {xs:List W}{i:Nat}{x:W}(h:xs[i]?=some x):atI xs (i:Int)=some x:=z54 h
theorem zx7 {en:En}:zcz [] [] en=some []:=rfl
theorem zxa {m:List Bool}{ws:List W}{en:En}{x w:W}:zcz (true::m) (x::ws) (#v[w,5]::en)=(zcz m ws en).bind λr=>some (w::r):=rfl
theorem zu1 {m:List Bool}{ws:List W}{en:En}{w:W}{o:Option (W × Bool)}:zcz (false::m) (w::ws) (o::en)=(zcz m ws en).bind λr=>some (w::r):=rfl
noncomputable def HS (k:Nat) (w:W):Prop:=∃a b c:Int,w=.lst [.int a,.int b,.int c]/\0<=a/\0<=b/\b<MM/\0<=c/\c<=k
theorem HS.mono {k k' : Nat}{w:W}(h:HS k w)(hk:k<=k'):HS k' w:=by
 obtain⟨a,b,c,e,h1,h2,h3,h4,h5⟩:=h;exact⟨a,b,c,e,h1,h2,h3,h4,by omega⟩
noncomputable def zel (Φ:Fn):Prop:=∀(k:Nat) (st:W) (n:Int),HS k st->k<big->0<n->n<1073741824->∃st' r,Φ [st,.int n]=some ([st',.int n],(.int r,false))/\HS (k+1) st'/\0<=r/\r<n
noncomputable def zxr (Ψ:Str->Fn):GS:=(gSeq (gIfS (zad (gOp2 (oI yes2 λi j=>.bl (decide (j<i))) (gArg (gOp2 oIx (zaa 0) #v[0])) #v[0])) (gSeq (gSet [0] 2 (gOp2 #v[0,0,2] (gArg (gOp2 oIx (zaa 0) #v[0])) (zaa 1))) (gSeq (za7 0 (gC (.int 0)) (gOp2 #v[0,0,3] (gArg (gOp2 oIx (zaa 0) #v[0])) (zaa 1))) (zct [0] 2))) zau) (gSeq (za7 0 (gC (.int 2)) (gOp2 oAdd (gArg (gOp2 oIx (zaa 0) #v[2])) #v[1])) (gSeq (gSet [0] 3 (gOp2 #v[0,0,2] (gArg (gOp2 oMult (gArg (gOp2 oAdd (gArg (gOp2 oAdd (gArg (gOp2 oIx (zaa 0) #v[1])) (gArg (gOp2 oMult (gArg (gOp2 oMult #v[65537] (gArg (gOp2 oIx (zaa 0) #v[2])))) (gArg (gOp2 oIx (zaa 0) #v[2])))))) #v[11])) #v[48271])) #v[2305843009213693921])) (gSeq (gSet [0] 3 (gOp2 #v[0,0,2] (gArg (gOp2 oMult (zaa 3) (gArg (gOp2 oAdd (gArg (gOp2 #v[0,0,2] (zaa 3) #v[1000003])) (gArg (gOp2 oMult #v[99991] (gArg (gOp2 oIx (zaa 0) #v[2])))))))) #v[2305843009213693907])) (gRet (gOp2 #v[0,0,2] (gArg (gOp2 oAdd (gArg (gOp2 #v[0,0,3] (zaa 3) #v[97])) (gArg (gOp2 #v[0,0,3] (zaa 3) #v[1000033])))) (zaa 1)))))))
theorem z33 (Ψ:Str->Fn):zel (zac [true,false] 4 (zxr Ψ)):=by
 rintro k st n ⟨a,b,c,rfl,h0,h1,h2,h3,h4⟩ hk n0 n1;have hb:(k:Int)<1099511627776:=by have:k<1099511627776:=hk;omega
 by_cases c1:0<a
 ·refine⟨.lst [.int (a / n),.int b,.int c],a % n, ?_,⟨_,_,_,rfl,Int.ediv_nonneg h0 #v[],h1,h2,h3,by omega⟩,Ff _ #v[],Es _ n0⟩;have hd:cDiv a n=true:=zqo n0 #v[];simp [zac,zxr,zbs,gSeq,gIfS,zad,gOp2,gArg,zaa,gC,resA,oI,yes2,oIx,seqW,atI,ixN,gSet,za7,zct,zx7,zxa,zu1,c1,n0,hd]
 ·have e1 : oMult (.int 65537) (.int (c + 1)) = some (.int (65537 * (c + 1)),false):=oMult_l #v[0,9] #v[0,9];have e2:oMult (.int (65537 * (c+1))) (.int (c+1))=#v[(65537 * (c+1) * (c+1)),0]:=zg5 #v[] #v[];have e3:oMult (.int (b+65537 * (c+1) * (c+1)+11)) (.int 48271)=#v[((b+65537 * (c+1) * (c+1)+11) * 48271),0]:=zg5 #v[0,9] #v[0,9];generalize hx:(b+65537 * (c+1) * (c+1)+11) * 48271=x0 at e3;have e4:oMult (.int 99991) (.int (c+1))=#v[(99991 * (c+1)),0]:=oMult_l #v[0,9] #v[0,9];have x1:0<=x0 % 2305843009213693921:=Ff _ #v[0,9];have x2:x0 % 2305843009213693921<2305843009213693921:=Es _ #v[0,9];have e5:oMult (.int (x0 % 2305843009213693921)) (.int (x0 % 2305843009213693921 % 1000003+99991 * (c+1)))=#v[(x0 % 2305843009213693921 * (x0 % 2305843009213693921 % 1000003+99991 * (c+1))),0]:=oMult_l #v[] #v[];have d1:∀i,cDiv i 97=true:=λi=>zqo #v[0,9] #v[0,9];have d2:∀i,cDiv i 1000033=true:=λi=>zqo #v[0,9] #v[0,9];refine⟨.lst [.int a,.int b,.int (c+1)],(x0 % 2305843009213693921 * (x0 % 2305843009213693921 % 1000003+99991 * (c+1)) % 2305843009213693907 / 97+x0 % 2305843009213693921 * (x0 % 2305843009213693921 % 1000003+99991 * (c+1)) % 2305843009213693907 / 1000033) % n,?_,⟨_,_,_,rfl,h0,h1,h2,by omega,by omega⟩,Ff _ #v[],Es _ n0⟩
  ·simp [zac,zxr,zbs,gSeq,gIfS,zad,gOp2,gArg,zaa,gC,resA,oI,yes2,oIx,seqW,atI,ixN,gSet,za7,gRet,zau,zx7,zxa,zu1,c1,n0,zv4,e1,e2,e3,e4,e5,d1,d2]
theorem seq_nx {a b:GS}{en e1:En}(h:a en=some (e1,.nx)):gSeq a b en=b e1:=by unfold gSeq;rw[h]
theorem seq_rt {a b:GS}{en e1:En}{r:W × Bool}(h:a en=some (e1,.ret r)):gSeq a b en=some (e1,.ret r):=by unfold gSeq;rw[h]
theorem zdz {mp:List Nat}{i:Nat}{g:GE}{en e1:En}{r:W × Bool}(h:g en=some (e1,r))(hi:(mp.contains i || !decide (i<e1.length))=false):gSet mp i g en=some (e1.set i (some r),.nx):=by
 unfold gSet;rw[h];show (if (mp.contains i || !decide (i<e1.length))=true then _ else _)=_;rw[hi]
 rfl
theorem z91 {c:GT}{a b:GS}{en e1:En}(h:c en=#v[e1,5]):gIfS c a b en=a e1:=by unfold gIfS;rw[h]
theorem z8q {c:GT}{a b:GS}{en e1:En}(h:c en=#v[e1,6]):gIfS c a b en=b e1:=by unfold gIfS;rw[h]
theorem zvf {g:GE}{en e1:En}{b f:Bool}(h:g en=some (e1,(.bl b,f))):zad g en=some (e1,b):=by unfold zad;rw[h]
theorem zf5 {g:GE}{en e1:En}{r:W × Bool}(h:g en=some (e1,r)):gRet g en=some (e1,.ret r):=by unfold gRet;rw[h];rfl
theorem zo6 {g:GE}{en e1:En}{r:W × Bool}(h:g en=some (e1,r)):zdk g en=some (e1,.nx):=by unfold zdk;rw[h];rfl
theorem arg_ev {g:GE}{en e1:En}{r:W × Bool}(h:g en=some (e1,r)):gArg g en=some (e1,.inl r.1):=by unfold gArg;rw[h];rfl
theorem zwl {a:GA}{as:GAs}{en e1 e2:En}{x:W ⊕ Nat}{xs:List (W ⊕ Nat)}(h:a en=some (e1,x))(h2:as e1=some (e2,xs)):gCns a as en=some (e2,x::xs):=by
 unfold gCns;rw[h];show (as e1).bind _=_;rw[h2]
 rfl
theorem op2_ev {o:O2}{a b:GA}{en e1 e2:En}{x y:W ⊕ Nat}{w u:W}{r:W × Bool}(h1:a en=some (e1,x))(h2:b e1=some (e2,y))(h3:resA e2 x=some w)(h4:resA e2 y=some u)(h5:o w u=some r):gOp2 o a b en=some (e2,r):=by
 unfold gOp2;rw[h1];show (b e1).bind _=_;rw[h2];show (resA e2 x).bind _=_;rw[h3];show (resA e2 y).bind _=_;rw[h4];show (o w u).bind _=_;rw[h5]
 rfl
theorem z3c {o:ON}{as:GAs}{en e1:En}{xs:List (W ⊕ Nat)}{ws:List W}{r:W × Bool}(h1:as en=some (e1,xs))(h2:zar e1 xs=some ws)(h3:o ws=some r):gOpN o as en=some (e1,r):=by
 unfold gOpN;rw[h1];show (zar e1 xs).bind _=_;rw[h2];show (o ws).bind _=_;rw[h3]
 rfl
theorem fn_ret {m:List Bool}{n:Nat}{g:GS}{ws ws' : List W}{en:En}{r:W × Bool}(hl:ws.length=m.length)(h:g (zbs m ws++List.replicate (n - m.length) none)=some (en,.ret r))(ho:zcz m ws en=some ws'):zac m n g ws=some (ws',r):=by
 unfold zac;rw[if_pos hl,h];show (zcz m ws en).bind _=_;rw[ho]
 rfl
theorem zcx:∀(ws:List W) (i:Nat),zat (zbi (ws.map Sum.inl)) i=none
  |[],i=>rfl
  | w::ws,i=>by
    have:=zcx ws i;unfold zat zbi at this ⊢;rw[Bd,Bd,List.findIdx?_cons,this]
    rfl
theorem zho (ws:List W):zcp (zbi (ws.map Sum.inl))=true:=by
  unfold zcp;refine Bm.mpr λj _=>?_;have:∀i,(zbi (ws.map Sum.inl))[j]?≠some (some i):=λi=>zdc (zcx ws i) j;cases q:(zbi (ws.map Sum.inl))[j]? with
  |none=>rfl
  | some o =>
    cases o with
    |none=>rfl
    |some i=>exact absurd q (this i)
theorem zmg {cap:Cap}{en ce:En}(h:∀i,zat cap i=none):zbm cap en ce=en:=by
 unfold zbm;apply Ee;intro i;rw[List.getElem?_mapIdx];cases en[i]? with
 |none=>rfl
 |some x=>simp only [Gf,h i]
theorem zci (en:En):∀ws:List W,zar en (ws.map Sum.inl)=some ws
 |[]=>rfl
 |w::ws=>by show (some w).bind _=_;show (zar en (ws.map Sum.inl)).bind _=_;rw[zci en ws];rfl
theorem zfd (en:En)(ws:List W):zaw en (ws.map Sum.inl)=true:=by
 unfold zaw;refine Bm.mpr λx hx=>?_;obtain⟨w,_,rfl⟩:=Bw.mp hx
 rfl
theorem zni {m:List Bool}{Φ:Fn}{as:GAs}{en e1:En}{ws ws' : List W}{r:W × Bool}(h:as en=some (e1,ws.map Sum.inl))(hm:(ws.map λ_=>false)=m)(hΦ:Φ ws=some (ws',r))(hl:ws'.length=ws.length):gCall m Φ as en=some (e1,r):=by
 unfold gCall;rw[h];show (if (decide ((ws.map Sum.inl).map isR=m) && zaw e1 (ws.map Sum.inl) && zcp (zbi (ws.map Sum.inl)))=true then _ else _)=_;have e:(ws.map Sum.inl).map isR=m:=by rw[<-hm,Ep];rfl
 rw[Af e,zfd,zho];show (zar e1 (ws.map Sum.inl)).bind _=_;rw[zci];show (Φ ws).bind _=_;rw[hΦ];show (if ws'.length=m.length then _ else _)=_;rw[if_pos (by rw[hl,<-hm,Ae]),zmg (zcx ws)]
theorem zq4 {m:List Bool}{Φ:Fn}{as:GAs}{en e1:En}{i:Nat}{ws wz:List W}{st st' : W}{r:W × Bool} (h:as en=some (e1,.inr i::ws.map Sum.inl)) (hm:(true::ws.map fun _=>false)=m) (hi:e1[i]?=some (some (st,true))) (hΦ:Φ (st::ws)=some (st' :: wz,r)) (hl:wz.length=ws.length):gCall m Φ as en=some (e1.set i (some (st',true)),r):=by
  have cp:∀j,zat (zbi (.inr i::ws.map Sum.inl)) j=if j=i then some 0 else none:=fun j=>by
    have:=zcx ws j;unfold zat zbi at this ⊢;rw[Bd,List.findIdx?_cons];by_cases e:j=i
    · subst e;simp
    · have : (some i == some j) = false := by simp; exact fun z => e z.symm
      simp only [this];rw[if_neg e]
      simp_all
  have nd:zcp (zbi (.inr i::ws.map Sum.inl))=true:=by
    unfold zcp;refine Bm.mpr λj _=>?_;cases j with
    | zero =>
      show (match (zbi (.inr i::ws.map Sum.inl))[0]? with|some (some k)=>zat (zbi (.inr i::ws.map Sum.inl)) k == some 0|_=>true)=true;show (zat (zbi (.inr i::ws.map Sum.inl)) i == some 0)=true;rw[cp i,if_pos rfl]
      rfl
    | succ j =>
      have:∀k,(zbi (ws.map Sum.inl))[j]?≠some (some k):=λk=>zdc (zcx ws k) j;have e:(zbi (.inr i::ws.map Sum.inl))[j+1]?=(zbi (ws.map Sum.inl))[j]?:=rfl;rw[e];cases q:(zbi (ws.map Sum.inl))[j]? with
      |none=>rfl
      | some o =>
        cases o with
        |none=>rfl
        |some k=>exact absurd q (this k)
  unfold gCall;rw[h];show (if (decide ((.inr i::ws.map Sum.inl).map isR=m) && zaw e1 (.inr i::ws.map Sum.inl) && zcp (zbi (.inr i::ws.map Sum.inl)))=true then _ else _)=_;have e:(Sum.inr i::ws.map Sum.inl).map isR=m:=by rw[<-hm,Bd,Ep];rfl
  have ow:zaw e1 (.inr i::ws.map Sum.inl)=true:=by
    have:=zfd e1 ws;unfold zaw at this ⊢;rw[Bo,this];simp only [hi,Ga]
  rw [Af e,ow,nd];have rs:zar e1 (.inr i::ws.map Sum.inl)=some (st::ws):=by
    show (resA e1 (.inr i)).bind _=_;have:resA e1 (.inr i)=some st:=by unfold resA;simp only [hi]
    rw[this];show (zar e1 (ws.map Sum.inl)).bind _=_;rw[zci]
    rfl
  show (zar e1 (.inr i::ws.map Sum.inl)).bind _=_;rw[rs];show (Φ (st::ws)).bind _=_;rw[hΦ];show (if (st' :: wz).length=m.length then _ else _)=_;rw[if_pos (by rw[<-hm,Ay,Ay,Ae,hl])];refine congrArg some (congrArg (·,r) ?_);unfold zbm;apply Ee;intro j;rw[List.getElem?_mapIdx];have hi' : i<e1.length:=(Aj.mp hi).1;by_cases ej:j=i
  · subst ej
    rw[Dg hi',hi];simp only [Gf,cp j,if_pos];rw[<-hm]
    rfl
  · rw [Ch (Ne.symm ej)]
    cases e1[j]? with
    |none=>rfl
    |some x=>simp only [Gf,cp j,if_neg ej]
theorem zhe {m:List Bool}{Φ:Fn}{as:GAs}{en:En}{i:Nat}{ws wz:List W}{st st' : W}{r:W × Bool}(h:as en=some (en,.inr i::ws.map Sum.inl))(hm:(true::ws.map λ_=>false)=m)(hi:en[i]?=some (#v[st,5]))(hΦ:Φ (st::ws)=some (st' :: wz,r))(hl:wz.length=ws.length):gCall m Φ as en=some (en.set i (#v[st',5]),r):=zq4 h hm hi hΦ hl
theorem zk4 {a w:W}{ws:List W}{i:Int}(h:seqW a=some ws)(h2:atI ws i=some w):oIx a (.int i)=#v[w,6]:=by
 unfold oIx;cases a<;>simp_all
theorem oI_t {c:Int->Int->Bool}{g:Int->Int->W}{i j:Int}(h:c i j=true):oI c g (.int i) (.int j)=#v[g i j,6]:=by
 show (if c i j then #v[g i j,6] else none)=_;rw[if_pos h]
theorem set_0 {mp:List Nat}{i:Nat}{g:GE}{en:En}{r:W × Bool}(h:g en=some (en,r))(hi:(mp.contains i || !decide (i<en.length))=false):gSet mp i g en=some (en.set i (some r),.nx):=zdz h hi
theorem arg_0 {g:GE}{en:En}{r:W × Bool}(h:g en=some (en,r)):gArg g en=some (en,.inl r.1):=arg_ev h
theorem op2_0 {o:O2}{a b:GA}{en:En}{x y:W ⊕ Nat}{w u:W}{r:W × Bool}(h1:a en=some (en,x))(h2:b en=some (en,y))(h3:resA en x=some w)(h4:resA en y=some u)(h5:o w u=some r):gOp2 o a b en=some (en,r):=op2_ev h1 h2 h3 h4 h5
theorem zsf {a:GA}{as:GAs}{en:En}{x:W ⊕ Nat}{xs:List (W ⊕ Nat)}(h:a en=some (en,x))(h2:as en=some (en,xs)):gCns a as en=some (en,x::xs):=zwl h h2
theorem zzx {g:GE}{en:En}{r:W × Bool}(h:g en=some (en,r)):gRet g en=some (en,.ret r):=zf5 h
theorem z9g {g:GE}{en:En}{b f:Bool}(h:g en=some (en,(.bl b,f))):zad g en=some (en,b):=zvf h
theorem zi6 {m:List Bool}{Φ:Fn}{as:GAs}{en:En}{ws ws' : List W}{r:W × Bool}(h:as en=some (en,ws.map Sum.inl))(hm:(ws.map λ_=>false)=m)(hΦ:Φ ws=some (ws',r))(hl:ws'.length=ws.length):gCall m Φ as en=some (en,r):=zni h hm hΦ hl
theorem zka {i:Nat}{k g:GE}{en:En}{w:W}{ws:List W}{n:Int}{j:Nat}{f f2:Bool}(h:g en=some (en,(w,f)))(hk:k en=some (en,(.int n,f2)))(hi:en[i]?=some (#v[ws,2]))(hj:ixN ws.length n=some j):za7 i k g en=some (en.set i (#v[(ws.set j w),2]),.nx):=by
 unfold za7;simp only [h,Dr,hi,hk,hj]
theorem z25 {i:Nat}{g:GE}{en e1:En}{us ws:List W}{r:W × Bool}(h0:en[i]?=some (#v[us,2]))(h:g en=some (e1,r))(h1:e1[i]?=some (#v[ws,2]))(hz:ws.length<sizeLine):gApp i g en=some (e1.set i (#v[(ws++[r.1]),2]),(.non,false)):=by
 unfold gApp;simp only [h0,h,Dr,h1];rw[if_pos hz]
noncomputable def ya3 (Ψ:Str->Fn):GS:=(gSeq (gSet [0] 2 (gCall [true,false] (Ψ "_law_take") (gCns (zaa 0) (gCns #v[4] gA0)))) (gSeq (gIfS (zad (gOp2 oEq (zaa 2) #v[3])) (gRet (gOp2 oMult (gArg (zag (gCns (gArg (gCall [true,false] (Ψ "_law_take") (gCns (zaa 0) (gCns #v[2] gA0)))) gA0))) (zaa 1))) zau) (gSeq (gSet [0] 3 (zag gA0)) (gSeq (gFor [0] (.nm 4) (za8 (gCns (zaa 1) gA0)) (gSeq (gSet [0] 5 (gCall [true,false] (Ψ "_law_take") (gCns (zaa 0) (gCns (gArg (gOp2 oIx (gArg (zag (gCns #v[2] (gCns #v[5] (gCns #v[5] gA0))))) (zaa 2))) gA0)))) (zdk (gApp 3 (gOp2 oIx (gArg (zag (gCns #v[5,4] (gCns (gArg (gOpN oInt (gCns (gArg (gOp2 oEq (zaa 5) #v[0])) gA0))) (gCns (gArg (gOpN oInt (gCns (gArg (gOp2 (oI yes2 λi j=>.bl (decide (j<i))) (zaa 5) #v[0])) gA0))) gA0))))) (zaa 2)))))) (zct [0] 3)))))
noncomputable def z3g (Φ:Fn):Prop:=∀(k:Nat) (st:W) (n:Int),HS k st->k+100<big->0<=n->n<=64->∃st' xs,Φ [st,.int n]=some ([st',.int n],(.lst (xs.map W.int),true))/\HS (k+66) st'/\(xs.length:Int)=n/\Bits xs
theorem three {r:Int}(h0:0<=r)(h:r<4)(h3:r≠3):r=0\/r=1\/r=2:=by omega
theorem zj0 {α:Type}(x:α):∀n:Nat,(List.replicate n [x]).flatten=List.replicate n x
 |0=>rfl
 |n+1=>by rw[Cw,Ed,zj0 x n];rfl
theorem z5p {Ψ:Str->Fn}(hT:zel (Ψ "_law_take")):z3g (zac [true,false] 6 (ya3 Ψ)):=by
 intro k st n hs hk n0 n1;have hz:(64:Nat)<=sizeLine:=by decide
 nofun;obtain⟨st1,way,e1,h1,h2,h3⟩:=hT k st 4 hs #v[] #v[0,9] #v[0,9];ac_rfl;have c1:gCall [true,false] (Ψ "_law_take") (gCns (zaa 0) (gCns #v[4] gA0)) [#v[st,5],#v[n,0],none,none,none,none]=some ([#v[st1,5],#v[n,0],none,none,none,none],(.int way,false)):=zhe (i:=0) (ws:=[.int 4]) (wz:=[.int 4]) rfl rfl rfl e1 rfl;have s1:=zdz (mp:=[0]) (i:=2) c1 rfl;by_cases c3:way=3
 ·subst c3;refine aG fun _ qG=>?_;obtain ⟨st2,b,e2,g1,g2,g3⟩:=hT (k+1) st1 2 h1 (by omega) (by decide) (by decide);refine qG ?_;clear qG;have c2:gCall [true,false] (Ψ "_law_take") (gCns (zaa 0) (gCns (gArg (gC (.int 2))) gA0)) [some (st1,true),some (.int n,false),some (.int 3,false),none,none,none]=some ([some (st2,true),some (.int n,false),some (.int 3,false),none,none,none],(.int b,false)):=zhe (i:=0) (ws:=[.int 2]) (wz:=[.int 2]) rfl rfl rfl e2 rfl;have l2:zag (gCns (gArg (gCall [true,false] (Ψ "_law_take") (gCns (zaa 0) (gCns (gArg (gC (.int 2))) gA0)))) gA0) [some (st1,true),some (.int n,false),some (.int 3,false),none,none,none]=some ([some (st2,true),some (.int n,false),some (.int 3,false),none,none,none],(.lst [.int b],true)):=by
   unfold zag;rw[zwl (arg_ev c2) (show gA0 _=_ from rfl)]
   rfl
  have om:oMult (.lst [.int b]) (.int n)=#v[(List.replicate n.toNat (.int b)),2]:=by
   rw[zls (by refine⟨by omega,by omega,?_⟩;show 1 * n.toNat<=sizeLine;omega),zj0]
  refine⟨st2,List.replicate n.toNat b,?_,g1.mono #v[],by rw[Dy];omega,λx hx=>by rw[List.eq_of_mem_replicate hx];omega⟩;refine fn_ret (en:=[#v[st2,5],#v[n,0],#v[3,0],none,none,none]) rfl ?_ rfl;refine (seq_nx s1).trans (seq_rt ?_);refine (z91 (e1:=[#v[st1,5],#v[n,0],#v[3,0],none,none,none]) rfl).trans (zf5 (op2_ev (arg_ev l2) rfl rfl rfl ?_));rw[List.map_replicate];exact om
 ·have hw := three h2 h3 c3;have turn:∀(i:Nat) (st:W) (xs:List Int) (v5:Option (W × Bool)),HS (k+1+i) st->i < 64->xs.length=i->∃st' x one,HS (k+1+i+1) st'/\(x=0\/x=1) /\
    (gSeq (gSet [0] 5 (gCall [true,false] (Ψ "_law_take") (gCns (zaa 0) (gCns (gArg (gOp2 oIx (gArg (zag (gCns #v[2] (gCns #v[5] (gCns #v[5] gA0))))) (zaa 2))) gA0)))) (zdk (gApp 3 (gOp2 oIx (gArg (zag (gCns #v[5,4] (gCns (gArg (gOpN oInt (gCns (gArg (gOp2 oEq (zaa 5) #v[0])) gA0))) (gCns (gArg (gOpN oInt (gCns (gArg (gOp2 (oI yes2 λi j=>.bl (decide (j<i))) (zaa 5) #v[0])) gA0))) gA0))))) (zaa 2))))) [#v[st,5],#v[n,0],#v[way,0],#v[(xs.map W.int),2],#v[(0+(i:Nat)),0],v5] =
     some ([#v[st',5],#v[n,0],#v[way,0],#v[((xs++[x]).map W.int),2],#v[(0+(i:Nat)),0],#v[one,0]],.nx):=by
   intro i st xs v5 hst hi hl;have zz:(xs.map W.int).length<sizeLine:=by rw[Ae,hl];omega
   have fin:∀(q:Int) (x:Int->Int),(∀one,0<=one->one < q->x one=0\/x one=1)->0 < q->q < 1073741824 ->
     (gCns (zaa 0) (gCns (gArg (gOp2 oIx (gArg (zag (gCns #v[2] (gCns #v[5] (gCns #v[5] gA0))))) (zaa 2))) gA0)) [#v[st,5],#v[n,0],#v[way,0],#v[(xs.map W.int),2],#v[(0+(i:Nat)),0],v5]=some ([#v[st,5],#v[n,0],#v[way,0],#v[(xs.map W.int),2],#v[(0+(i:Nat)),0],v5],[.inr 0,.inl (.int q)]) ->
     (∀(st' : W) (one:Int),(gOp2 oIx (gArg (zag (gCns #v[5,4] (gCns (gArg (gOpN oInt (gCns (gArg (gOp2 oEq (zaa 5) #v[0])) gA0))) (gCns (gArg (gOpN oInt (gCns (gArg (gOp2 (oI yes2 λi j=>.bl (decide (j<i))) (zaa 5) #v[0])) gA0))) gA0))))) (zaa 2)) [#v[st',5],#v[n,0],#v[way,0],#v[(xs.map W.int),2],#v[(0+(i:Nat)),0],#v[one,0]]=some ([#v[st',5],#v[n,0],#v[way,0],#v[(xs.map W.int),2],#v[(0+(i:Nat)),0],#v[one,0]],(.int (x one),false))) ->
     ∃st' x one,HS (k+1+i+1) st'/\(x=0\/x=1)/\(gSeq (gSet [0] 5 (gCall [true,false] (Ψ "_law_take") (gCns (zaa 0) (gCns (gArg (gOp2 oIx (gArg (zag (gCns #v[2] (gCns #v[5] (gCns #v[5] gA0))))) (zaa 2))) gA0)))) (zdk (gApp 3 (gOp2 oIx (gArg (zag (gCns #v[5,4] (gCns (gArg (gOpN oInt (gCns (gArg (gOp2 oEq (zaa 5) #v[0])) gA0))) (gCns (gArg (gOpN oInt (gCns (gArg (gOp2 (oI yes2 λi j=>.bl (decide (j<i))) (zaa 5) #v[0])) gA0))) gA0))))) (zaa 2))))) [#v[st,5],#v[n,0],#v[way,0],#v[(xs.map W.int),2],#v[(0+(i:Nat)),0],v5] =
      some ([#v[st',5],#v[n,0],#v[way,0],#v[((xs++[x]).map W.int),2],#v[(0+(i:Nat)),0],#v[one,0]],.nx):=by
    intro q x hx q0 q1 ha hv;nofun;obtain⟨st',one,e2,g1,g2,g3⟩:=hT (k+1+i) st q hst #v[] q0 q1;ac_rfl;have cc:=zhe (m:=[true,false]) (ws:=[.int q]) (wz:=[.int q]) ha rfl rfl e2 rfl;refine⟨st',x one,one,g1,hx one g2 g3,?_⟩;refine (seq_nx (zdz (mp:=[0]) (i:=5) cc rfl)).trans (zo6 (r:=(.non,false)) ?_);rw[Cs];exact z25 (i:=3) rfl (hv st' one) rfl zz
   rcases hw with rfl|rfl|rfl
   ·exact fin 2 (λone=>one) (λone a b=>by omega) #v[0,9] #v[0,9] rfl λst' one=>rfl
   ·refine fin 5 (λone=>if decide (one = 0) then 1 else 0) (λone a b => ?_) #v[0,9] #v[0,9] rfl λst' one=>rfl;by_cases z:one=0<;>simp [z]
   ·refine fin 5 (λone=>if decide (0<one) then 1 else 0) (λone a b => ?_) #v[0,9] #v[0,9] rfl λst' one=>rfl;by_cases z:0<one<;>simp [z]
  obtain⟨en',hf,hp⟩:=zav (mp:=[0]) (T:=.nm 4) (it:=za8 (gCns (zaa 1) gA0)) (body:=(gSeq (gSet [0] 5 (gCall [true,false] (Ψ "_law_take") (gCns (zaa 0) (gCns (gArg (gOp2 oIx (gArg (zag (gCns #v[2] (gCns #v[5] (gCns #v[5] gA0))))) (zaa 2))) gA0)))) (zdk (gApp 3 (gOp2 oIx (gArg (zag (gCns #v[5,4] (gCns (gArg (gOpN oInt (gCns (gArg (gOp2 oEq (zaa 5) #v[0])) gA0))) (gCns (gArg (gOpN oInt (gCns (gArg (gOp2 (oI yes2 λi j=>.bl (decide (j<i))) (zaa 5) #v[0])) gA0))) gA0))))) (zaa 2))))))
   (λi e=>∃st xs v4 v5,e=[#v[st,5],#v[n,0],#v[way,0],#v[(xs.map W.int),2],v4,v5]/\HS (k+1+i) st/\xs.length=i/\Bits xs)
   (en:=[#v[st1,5],#v[n,0],#v[way,0],#v[[],2],none,none]) (e0:=[#v[st1,5],#v[n,0],#v[way,0],#v[[],2],none,none]) (ws:=rngW 0 n.toNat)
   (by
    have hr:zdo n=true:=by unfold zdo;rw[Af #v[],Af #v[]];rfl
    show (if zdo n then some (_,rngW 0 n.toNat) else none)=_;rw[hr];rfl)
   ⟨st1,[],none,none,rfl,h1,rfl,λx hx=>by cases hx⟩
   (by
    rintro i w e hw' ⟨st,xs,v4,v5,rfl,hst,hl,hb⟩;nofun;obtain⟨hi,rfl⟩:=zbl hw';obtain⟨st',x,one,g1,g2,g3⟩:=turn i st xs v5 hst #v[] hl;ac_rfl;refine⟨_,_,rfl,.inl g3,st',xs++[x],_,_,rfl,g1,by rw[Az,hl];rfl,λy hy=>?_⟩;rcases Bf.mp hy with hy|hy
    ·exact hb y hy
    ·rw[Ap] at hy;subst hy;exact g2)
  nofun;obtain⟨st2,xs,v4,v5,rfl,g1,g2,g3⟩:=hp;ac_rfl;rw[zap] at g1 g2;refine⟨st2,xs,?_,g1.mono #v[],by omega,g3⟩;refine fn_ret (en:=[#v[st2,5],#v[n,0],#v[way,0],none,v4,v5]) rfl ?_ rfl;refine (seq_nx s1).trans ((seq_nx (e1:=[#v[st1,5],#v[n,0],#v[way,0],none,none,none]) ?_).trans ((seq_nx (e1:=[#v[st1,5],#v[n,0],#v[way,0],#v[[],2],none,none]) rfl).trans ((seq_nx hf).trans rfl)));rcases hw with rfl|rfl|rfl<;>rfl
noncomputable def yak (Ψ:Str->Fn):GS:=(gSeq (gSet [] 1 (gC (.int 0))) (gSeq (gFor [] (.nm 2) (gRev (gVar 0)) (gSet [] 1 (gOp2 oAdd (gArg (gOp2 oMult #v[2] (zaa 1))) (zaa 2)))) (zct [] 1)))
noncomputable def z3i (Φ:Fn):Prop:=∀xs:List Int,Φ [.lst (xs.map W.int)]=some ([.lst (xs.map W.int)],(.int (wordOf xs),false))
theorem z4q (Ψ:Str->Fn):z3i (zac [false] 3 (yak Ψ)):=by
 intro xs;obtain⟨en',hf,hp⟩:=zav (mp:=[]) (T:=.nm 2) (it:=gRev (gVar 0)) (body:=gSet [] 1 (gOp2 oAdd (gArg (gOp2 oMult #v[2] (zaa 1))) (zaa 2)))
  (λi e=>∃v2,e=[#v[(xs.map W.int),1],#v[(wordOf (xs.drop (xs.length - i))),0],v2])
  (en:=[#v[(xs.map W.int),1],#v[0,0],none]) (e0:=[#v[(xs.map W.int),1],#v[0,0],none]) (ws:=(xs.map W.int).reverse) rfl
  ⟨none,by rw[Nat.sub_zero,List.drop_length];rfl⟩
  (by
   rintro i w e hw ⟨v2,rfl⟩;have hi:i<xs.length:=by have:=(Aj.mp hw).1;rw[Cy,Ae] at this;exact this
   have hj:xs.length - 1 - i<xs.length:=by omega
   have ew:w=.int xs[xs.length - 1 - i]:=by
    rw[List.getElem?_reverse (by rw[Ae];exact hi),Ae,An,Aa hj] at hw;exact (sI hw).symm
   subst ew;have om:oMult (.int 2) (.int (wordOf (xs.drop (xs.length - i))))=#v[(2 * wordOf (xs.drop (xs.length - i))),0]:=oMult_l #v[0,9] #v[0,9];have ed:xs.drop (xs.length - (i+1))=xs[xs.length - 1 - i]::xs.drop (xs.length - i):=by
    have e1:xs.length - (i+1)=xs.length - 1 - i:=by omega
    have e2:xs.length - i=xs.length - 1 - i+1:=by omega
    rw[e1,e2];exact Cu hj
   refine⟨_,_,rfl,.inl (zdz (r:=(.int (wordOf (xs.drop (xs.length - (i+1)))),false)) (op2_ev (arg_ev (op2_ev (x:=.inl (.int 2)) rfl rfl rfl rfl om)) rfl rfl rfl ?_) rfl),_,rfl⟩;rw[ed]
   rfl)
 obtain⟨v2,rfl⟩:=hp;rw[Cy,Ae,Nat.sub_self,Ej] at hf;exact fn_ret (en:=[#v[(xs.map W.int),1],#v[(wordOf xs),0],v2]) rfl ((seq_nx (e1:=[#v[(xs.map W.int),1],#v[0,0],none]) rfl).trans ((seq_nx hf).trans rfl)) rfl
noncomputable def z8v (Ψ:Str->Fn):GS:=(gSeq (gSet [] 1 (zag (gCns #v[0] (gCns #v[0] (gCns #v[0] gA0))))) (gSeq (gIfS (zih (zad (gOp2 (oI yes2 λi j=>.bl (decide (j<i))) (gArg (gOpN oLen (gCns (zaa 0) gA0))) #v[0])) (zad (gOp2 (oI yes2 λi j=>.bl (decide (j<=i))) (gArg (gOp2 oIx (zaa 0) #v[0])) (gArg (gOp2 (oI cPow λi j=>.int (i ^ j.toNat)) #v[10] #v[18]))))) (gSeq (gSet [] 2 (gC (.int 1))) (gFor [] (.nm 3) (zaz (gSl (zaa 0) zao (zcc (gC (.int 63))))) (gSeq (za7 1 (gC (.int 0)) (gOp2 oAdd (gArg (gOp2 oIx (zaa 1) #v[0])) (gArg (gOp2 oMult (gArg (gOp2 #v[0,0,2] (gArg (gOpN oAbs (gCns (zaa 3) gA0))) (gArg (gOp2 (oI cPow λi j=>.int (i ^ j.toNat)) #v[10] #v[60])))) (zaa 2))))) (gSet [] 2 (gOp2 oMult (zaa 2) (gArg (gOp2 (oI cPow λi j=>.int (i ^ j.toNat)) #v[10] #v[60]))))))) zau) (gSeq (gFor [] (.tp [4,3]) (zg0 (gSl (zaa 0) zao (zcc (gC (.int 63))))) (gSeq (gSet [] 5 (gOp2 oAdd (gArg (gOp2 oAdd (gArg (gOp2 #v[0,0,2] (zaa 3) #v[2305843009213693951])) (gArg (gOp2 oMult #v[7919] (zaa 4))))) #v[3])) (za7 1 (gC (.int 1)) (gOp2 #v[0,0,2] (gArg (gOp2 oAdd (gArg (gOp2 oMult (gArg (gOp2 oIx (zaa 1) #v[1])) #v[48271])) (zaa 5))) #v[2305843009213693951])))) (zct [] 1))))
noncomputable def z2j (Φ:Fn):Prop:=∀ns:List Int,ns.length<=63->∃st,Φ [.frl (ns.map W.int)]=some ([.frl (ns.map W.int)],(st,true))/\HS 0 st
theorem ybj {ns:List Int}(h:ns.length<=63):cutW (ns.map W.int) none (some 63)=ns.map W.int:=by
 unfold cutW;have e1:HT.sIx (ns.map W.int).length 0 none=0:=rfl;have e2:HT.sIx (ns.map W.int).length (ns.map W.int).length (some 63)=(ns.map W.int).length:=by
  have:=HT.sIx_nat (ns.map W.int).length (ns.map W.int).length 63;rw[show ((63:Nat):Int)=63 from rfl] at this;rw[this,Ae];omega
 rw[e1,e2,Ej,Nat.sub_zero,Cb]
theorem zz2 {ns:List Int}{i:Nat}{w:W}(h:(zej (ns.map W.int) 0)[i]?=some w):∃hi:i<ns.length,w=.tup [.int i,.int ns[i]]:=by
 have hi:i<ns.length:=by have:=(Aj.mp h).1;rw[zbo,Ae] at this;exact this
 have:=zd4 (ws:=ns.map W.int) (k:=0) (i:=i) (w:=.int ns[i]) (by rw[An,Aa hi];rfl);rw[h,Dc] at this;exact⟨hi,sI this⟩
theorem z7w (Ψ:Str->Fn):z2j (zac [false] 6 (z8v Ψ)):=by
  intro ns hl;have p18:cPow 10 18=true:=by decide
  have p60:cPow 10 60=true:=by decide
  have first:∃a0 v2 v3,0<=a0/\gIfS (zih (zad (gOp2 (oI yes2 fun i j=>.bl (decide (j < i))) (gArg (gOpN oLen (gCns (zaa 0) gA0))) (gArg (gC (.int 0))))) (zad (gOp2 (oI yes2 fun i j=>.bl (decide (j<=i))) (gArg (gOp2 oIx (zaa 0) (gArg (gC (.int 0))))) (gArg (gOp2 (oI cPow fun i j=>.int (i ^ j.toNat)) (gArg (gC (.int 10))) (gArg (gC (.int 18)))))))) (gSeq (gSet [] 2 (gC (.int 1))) (gFor [] (.nm 3) (zaz (gSl (zaa 0) zao (zcc (gC (.int 63))))) (gSeq (za7 1 (gC (.int 0)) (gOp2 oAdd (gArg (gOp2 oIx (zaa 1) (gArg (gC (.int 0))))) (gArg (gOp2 oMult (gArg (gOp2 (oI (fun _ j=>decide (0 < j)) fun i j=>.int (i % j)) (gArg (gOpN oAbs (gCns (zaa 3) gA0))) (gArg (gOp2 (oI cPow fun i j=>.int (i ^ j.toNat)) (gArg (gC (.int 10))) (gArg (gC (.int 60))))))) (zaa 2))))) (gSet [] 2 (gOp2 oMult (zaa 2) (gArg (gOp2 (oI cPow fun i j=>.int (i ^ j.toNat)) (gArg (gC (.int 10))) (gArg (gC (.int 60)))))))))) zau
      [some #v[8,7],#v[[.int 0,.int 0,.int 0],2],none,none,none,none]=some ([some #v[8,7],#v[[.int a0,.int 0,.int 0],2],v2,v3,none,none],.nx):=by
    have ln:(zad (gOp2 (oI yes2 λi j=>.bl (decide (j<i))) (gArg (gOpN oLen (gCns (zaa 0) gA0))) #v[0])) [some #v[8,7],#v[[.int 0,.int 0,.int 0],2],none,none,none,none]=some ([some #v[8,7],#v[[.int 0,.int 0,.int 0],2],none,none,none,none],decide ((0:Int)<((ns.map W.int).length:Nat))):=rfl;cases ns with
    |nil=>exact⟨0,none,none,by decide,(z8q (by unfold zih;rw[ln];rfl)).trans rfl⟩
    | cons n0 nr =>
      have t2:(zad (gOp2 (oI yes2 fun i j=>.bl (decide (j<=i))) (gArg (gOp2 oIx (zaa 0) (gArg (gC (.int 0))))) (gArg (gOp2 (oI cPow fun i j=>.int (i ^ j.toNat)) (gArg (gC (.int 10))) (gArg (gC (.int 18))))))) [some #v[3,9],some (.lst [.int 0,.int 0,.int 0],true),none,none,none,none]=some ([some #v[3,9],some (.lst [.int 0,.int 0,.int 0],true),none,none,none,none],decide (10 ^ 18<=n0)) :=
        zvf (op2_ev (arg_ev (op2_ev rfl rfl rfl rfl (zk4 rfl (zbd (i:=0) rfl)))) (arg_ev (op2_ev (x:=.inl (.int 10)) rfl rfl rfl rfl (oI_t p18))) rfl rfl rfl)
      have ln' : decide ((0:Int)<(((n0::nr).map W.int).length:Nat))=true:=Af (by simp);rw[ln'] at ln;by_cases c:(10:Int) ^ 18<=n0
      · rw [Af c] at t2
        obtain ⟨en',hf,hp⟩:=zav (mp:=[]) (T:=.nm 3) (it:=zaz (gSl (zaa 0) zao (zcc (gC (.int 63))))) (body:=(gSeq (za7 1 (gC (.int 0)) (gOp2 oAdd (gArg (gOp2 oIx (zaa 1) (gArg (gC (.int 0))))) (gArg (gOp2 oMult (gArg (gOp2 (oI (fun _ j=>decide (0 < j)) fun i j=>.int (i % j)) (gArg (gOpN oAbs (gCns (zaa 3) gA0))) (gArg (gOp2 (oI cPow fun i j=>.int (i ^ j.toNat)) (gArg (gC (.int 10))) (gArg (gC (.int 60))))))) (zaa 2))))) (gSet [] 2 (gOp2 oMult (zaa 2) (gArg (gOp2 (oI cPow fun i j=>.int (i ^ j.toNat)) (gArg (gC (.int 10))) (gArg (gC (.int 60)))))))))
          (λi e=>∃a0 wt v3,e=[some #v[3,9],#v[[.int a0,.int 0,.int 0],2],#v[wt,0],v3,none,none]/\0<=a0/\0<wt/\wt<=2 ^ (200 * i))
          (en:=[some #v[3,9],#v[[.int 0,.int 0,.int 0],2],#v[1,0],none,none,none]) (e0:=[some #v[3,9],#v[[.int 0,.int 0,.int 0],2],#v[1,0],none,none,none]) (ws:=(n0::nr).map W.int)
          (by
            show some (_,cutW ((n0::nr).map W.int) none (some 63))=_;rw[ybj hl])
          ⟨0,1,none,rfl,by decide,by decide,by decide⟩
          (by
            rintro i w e hw ⟨a0,wt,v3,rfl,q0,q1,q2⟩;rw [An] at hw;have hi:i < (n0::nr).length:=by
              rcases Nat.lt_or_ge i (n0::nr).length with z|z
              · exact z
              · rw[Cf z] at hw;exact noSome hw
            rw[Aa hi] at hw;have ew:w=.int (n0::nr)[i]:=(sI hw).symm;subst ew;generalize (n0::nr)[i]=n;have y0:0<=(if n<0 then -n else n) % (10:Int) ^ 60:=Ff _ #v[0,9];have y1:(if n<0 then -n else n) % (10:Int) ^ 60<10 ^ 60:=Es _ #v[0,9];have hb:i<=63:=by omega
            have b1:Builtin.Int.intBits ((if n<0 then -n else n) % (10:Int) ^ 60)<=2 ^ 20:=zkc (i:=1) y0 (Int.le_trans (Int.le_of_lt y1) #v[0,9]) #v[0,9];have b2:Builtin.Int.intBits wt<=2 ^ 20:=zkc #v[] q2 hb;have m1:=zw4 b1 b2;have m2:=zw4 b2 (zkc (w:=10 ^ 60) (i:=1) #v[0,9] #v[0,9] #v[0,9]);obtain⟨r1,r2⟩:=zzo q1 q2;refine⟨_,[some #v[3,9],#v[[.int (a0+(if n<0 then -n else n) % (10:Int) ^ 60 * wt),.int 0,.int 0],2],#v[(wt * 10 ^ 60),0],#v[n,0],none,none],rfl,.inl ?_,_,_,_,rfl,?_,r1,r2⟩
            · refine (seq_nx (e1 := [some (.frl ((n0 :: nr).map W.int), false), some (.lst [.int (a0 + (if n < 0 then -n else n) % (10 : Int) ^ 60 * wt), .int 0, .int 0], true), some (.int wt, false), some (.int n, false), none, none]) ?_).trans (set_0 (op2_0 rfl (arg_0 (op2_0 (x := .inl (.int 10)) rfl rfl rfl rfl (oI_t p60))) rfl rfl m2) rfl)
              have ge:gOp2 oAdd (gArg (gOp2 oIx (zaa 1) (gArg (gC (.int 0))))) (gArg (gOp2 oMult (gArg (gOp2 (oI (fun _ j=>decide (0 < j)) fun i j=>.int (i % j)) (gArg (gOpN oAbs (gCns (zaa 3) gA0))) (gArg (gOp2 (oI cPow fun i j=>.int (i ^ j.toNat)) (gArg (gC (.int 10))) (gArg (gC (.int 60))))))) (zaa 2))) [some #v[3,9],some (.lst [.int a0,.int 0,.int 0],true),some (.int wt,false),some (.int n,false),none,none]=some ([some #v[3,9],some (.lst [.int a0,.int 0,.int 0],true),some (.int wt,false),some (.int n,false),none,none],(.int (a0+(if n < 0 then -n else n) % (10:Int) ^ 60 * wt),false)) :=
                op2_ev (arg_ev (op2_ev rfl rfl rfl rfl (zk4 rfl (zbd (i:=0) rfl)))) (arg_ev (op2_ev (arg_ev (op2_ev (arg_ev (z3c rfl rfl rfl)) (arg_ev (op2_ev (x:=.inl (.int 10)) rfl rfl rfl rfl (oI_t p60))) rfl rfl (oI_t #v[0,9]))) rfl rfl rfl m1)) rfl rfl rfl
              exact zka (n:=0) (j:=0) (ws:=[.int a0,.int 0,.int 0]) ge rfl rfl rfl
            · have := Int.mul_nonneg y0 (Int.le_of_lt q1)
              omega)
        nofun;obtain⟨a0,wt,v3,rfl,q0,_⟩:=hp;ac_rfl;exact⟨a0,_,_,q0,(z91 (by unfold zih;rw[ln];exact t2)).trans ((seq_nx (e1:=[some #v[3,9],#v[[.int 0,.int 0,.int 0],2],#v[1,0],none,none,none]) rfl).trans hf)⟩
      · rw [Ak c] at t2
        exact⟨0,none,none,by decide,(z8q (by unfold zih;rw[ln];exact t2)).trans rfl⟩
  nofun;obtain⟨a0,v2,v3,q0,hfirst⟩:=first
  refine qG ?_;clear qG;obtain ⟨en',hf,hp⟩:=zav (mp:=[]) (T:=.tp [4,3]) (it:=zg0 (gSl (zaa 0) zao (zcc (gC (.int 63))))) (body:=(gSeq (gSet [] 5 (gOp2 oAdd (gArg (gOp2 oAdd (gArg (gOp2 (oI (fun _ j=>decide (0 < j)) fun i j=>.int (i % j)) (zaa 3) (gArg (gC (.int 2305843009213693951))))) (gArg (gOp2 oMult (gArg (gC (.int 7919))) (zaa 4))))) (gArg (gC (.int 3))))) (za7 1 (gC (.int 1)) (gOp2 (oI (fun _ j=>decide (0 < j)) fun i j=>.int (i % j)) (gArg (gOp2 oAdd (gArg (gOp2 oMult (gArg (gOp2 oIx (zaa 1) (gArg (gC (.int 1))))) (gArg (gC (.int 48271))))) (zaa 5))) (gArg (gC (.int 2305843009213693951)))))))
    (λi e=>∃b v3 v4 v5,e=[some #v[8,7],#v[[.int a0,.int b,.int 0],2],v2,v3,v4,v5]/\0<=b/\b<MM)
    (en:=[some #v[8,7],#v[[.int a0,.int 0,.int 0],2],v2,v3,none,none]) (e0:=[some #v[8,7],#v[[.int a0,.int 0,.int 0],2],v2,v3,none,none]) (ws:=zej (ns.map W.int) 0)
    (by
      show some (_,zej (cutW (ns.map W.int) none (some 63)) 0)=_;rw[ybj hl])
    ⟨0,v3,none,none,rfl,by decide,by decide⟩
    (by
      rintro i w e hw ⟨b,v3,v4,v5,rfl,q1,q2⟩;obtain ⟨hi,rfl⟩:=zz2 hw;generalize ns[i]=n;have hm:MM=2305843009213693951:=rfl;have m1:oMult (.int 7919) (.int (i:Nat))=some (.int (7919 * (i:Nat)),false):=oMult_l (by decide) (by decide);have m2:oMult (.int b) (.int 48271)=some (.int (b * 48271),false):=zg5 (by decide) (by decide);refine ⟨_,[some #v[8,7],some (.lst [.int a0,.int ((b * 48271+(n % 2305843009213693951+7919 * (i:Nat)+3)) % 2305843009213693951),.int 0],true),v2,some (.int n,false),some (.int (i:Nat),false),some (.int (n % 2305843009213693951+7919 * (i:Nat)+3),false)],rfl,.inl ?_,_,_,_,_,rfl,Ff _ (by decide),Es _ (by decide)⟩;refine (seq_nx (e1:=[some #v[8,7],some (.lst [.int a0,.int b,.int 0],true),v2,some (.int n,false),some (.int (i:Nat),false),some (.int (n % 2305843009213693951+7919 * (i:Nat)+3),false)]) (set_0 (op2_0 (arg_0 (op2_0 (arg_0 (op2_0 rfl rfl rfl rfl (oI_t (by decide)))) (arg_0 (op2_0 (x:=.inl (.int 7919)) rfl rfl rfl rfl m1)) rfl rfl rfl)) rfl rfl rfl rfl) rfl)).trans ?_;have ge:gOp2 (oI (fun _ j=>decide (0 < j)) fun i j=>.int (i % j)) (gArg (gOp2 oAdd (gArg (gOp2 oMult (gArg (gOp2 oIx (zaa 1) (gArg (gC (.int 1))))) (gArg (gC (.int 48271))))) (zaa 5))) (gArg (gC (.int 2305843009213693951))) [some #v[8,7],some (.lst [.int a0,.int b,.int 0],true),v2,some (.int n,false),some (.int (i:Nat),false),some (.int (n % 2305843009213693951+7919 * (i:Nat)+3),false)]=some ([some #v[8,7],some (.lst [.int a0,.int b,.int 0],true),v2,some (.int n,false),some (.int (i:Nat),false),some (.int (n % 2305843009213693951+7919 * (i:Nat)+3),false)],(.int ((b * 48271+(n % 2305843009213693951+7919 * (i:Nat)+3)) % 2305843009213693951),false)) :=
        op2_ev (arg_ev (op2_ev (arg_ev (op2_ev (arg_ev (op2_ev rfl rfl rfl rfl (zk4 rfl (zbd (i:=1) rfl)))) rfl rfl rfl m2)) rfl rfl rfl rfl)) rfl rfl rfl (oI_t #v[0,9])
      exact zka (n:=1) (j:=1) (ws:=[.int a0,.int b,.int 0]) ge rfl rfl rfl)
  nofun;obtain⟨b,w3,w4,w5,rfl,q1,q2⟩:=hp;ac_rfl;refine⟨.lst [.int a0,.int b,.int 0],fn_ret (en:=[some #v[8,7],none,v2,w3,w4,w5]) rfl ?_ rfl,⟨_,_,_,rfl,q0,q1,q2,by decide,by decide⟩⟩;exact (seq_nx (e1:=[some #v[8,7],#v[[.int 0,.int 0,.int 0],2],none,none,none,none]) rfl).trans ((seq_nx hfirst).trans ((seq_nx hf).trans rfl))
theorem zv5 (a b x y:Nat)(hx:x<2)(hy:y<2):(2 * a+x) &&& (2 * b+y)=2 * (a &&& b)+x * y:=by
 have h1:((2 * a+x) &&& (2 * b+y)) / 2=a &&& b:=by
  have:=Nat.and_div_two_pow (n:=1) (a:=2 * a+x) (b:=2 * b+y);rw[Nat.pow_one] at this;rw[this];have e1:(2 * a+x) / 2=a:=by omega
  have e2:(2 * b+y) / 2=b:=by omega
  rw[e1,e2]
 have h2:((2 * a+x) &&& (2 * b+y)) % 2=x * y:=by
  have:=Nat.and_mod_two_pow (n:=1) (a:=2 * a+x) (b:=2 * b+y);rw[Nat.pow_one] at this;rw[this];have e1:(2 * a+x) % 2=x:=by omega
  have e2:(2 * b+y) % 2=y:=by omega
  rw[e1,e2];have:x=0\/x=1:=by omega
  have:y=0\/y=1:=by omega
  rcases ‹x=0\/x=1› with rfl|rfl<;>rcases ‹y=0\/y=1› with rfl|rfl<;>rfl
 omega
noncomputable def Bit (x:Int):Prop:=x=0\/x=1
theorem zgn {a b x y:Int}(ha:0<=a)(hb:0<=b)(hx:Bit x)(hy:Bit y):Builtin.bitAnd (2 * a+x) (2 * b+y)=2 * Builtin.bitAnd a b+x * y:=by
 have x0:0<=x/\x<2:=by rcases hx with rfl|rfl<;>decide
 have y0:0<=y/\y<2:=by rcases hy with rfl|rfl<;>decide
 rw[bitAnd_pp #v[] #v[],bitAnd_pp ha hb];have e1:(2 * a+x).toNat=2 * a.toNat+x.toNat:=by omega
 have e2:(2 * b+y).toNat=2 * b.toNat+y.toNat:=by omega
 rw[e1,e2,zv5 _ _ _ _ #v[] #v[]];rcases hx with rfl|rfl<;>rcases hy with rfl|rfl<;>simp
theorem zjr (x y:Int):Builtin.bitXor x y=x+y - 2 * Builtin.bitAnd x y:=by
 show Builtin.bitOr x y - Builtin.bitAnd x y=_;rw[bitOr_and];omega
theorem z0o {a b x y:Int}(ha:0<=a)(hb:0<=b)(hx:Bit x)(hy:Bit y):Builtin.bitXor (2 * a+x) (2 * b+y)=2 * Builtin.bitXor a b+(x+y - 2 * (x * y)):=by
 rw[zjr,zjr,zgn ha hb hx hy];omega
theorem xor_zero (x:Int):Builtin.bitXor x 0=x:=by rw[zjr,bitAnd_zero];omega
theorem zjy (x:Int):Builtin.bitAnd 0 x=0:=by rw[bitAnd_comm,bitAnd_zero]
theorem Bits.head {x:Int}{xs:List Int}(h:Bits (x::xs)):Bit x:=h x Au
theorem Bits.tail {x:Int}{xs:List Int}(h:Bits (x::xs)):Bits xs:=λy hy=>h y (Aq _ hy)
theorem zc7 {xs:List Int}(h:Bits xs):0<=wordOf xs:=(zde h).1
theorem zb6 (x:Int)(xs:List Int):wordOf (x::xs)=2 * wordOf xs+x:=rfl
theorem za0:∀(l h:List Int),wordOf (l++h)=wordOf l+2 ^ l.length * wordOf h
  |[],h=>by show wordOf h=0+1 * wordOf h;omega
  | x::l,h=>by
    show 2 * wordOf (l++h)+x=2 * wordOf l+x+2 ^ (l.length+1) * wordOf h;rw[za0 l h,Int.pow_succ,Int.mul_add,Int.mul_comm (2 ^ l.length) 2,Int.mul_assoc];omega
theorem zfe:∀{xs ys:List Int},Bits xs->Bits ys->Builtin.bitAnd (wordOf xs) (wordOf ys)=wordOf (List.zipWith (· * ·) xs ys)
  |[],ys,_,_=>zjy _
  |x::xs,[],_,_=>bitAnd_zero _
  | x::xs,y::ys,h1,h2=>by
    rw[zb6,zb6,zgn (zc7 h1.tail) (zc7 h2.tail) h1.head h2.head,zfe h1.tail h2.tail]
    rfl
theorem z8j {m:Int}(h1:0<=m)(h2:m<=6):m=0\/m=1\/m=2\/m=3\/m=4\/m=5\/m=6:=by omega
theorem z98 {m:Int}(h1:0<=m)(h2:m<=6):(1:Int)<=1 * 2 ^ m.toNat/\(1:Int) * 2 ^ m.toNat<=64:=by
 rcases z8j h1 h2 with rfl|rfl|rfl|rfl|rfl|rfl|rfl<;>decide
theorem cP1 {m:Int}(h1:0<=m)(h2:m<=6):cPow 1 m=true:=zl1 h1 #v[] #v[0,9]
theorem cP2 {m:Int}(h1:0<=m)(h2:m<=6):cPow 1 (1 * 2 ^ m.toNat)=true:=by
 have:=z98 h1 h2;exact zl1 #v[] #v[] #v[0,9]
noncomputable def yesW (m:Int):Int:=1 * 2 ^ (1 * 2 ^ m.toNat:Int).toNat - 1
noncomputable def zre (Φ:Fn):Prop:=∀m:Int,0<=m->m<=6->Φ [.int m]=some ([.int m],(.int (yesW m),false))
noncomputable def zwv (Ψ:Str->Fn):GS:=(gRet (gOp2 #v[0,0,0] (gArg (gOp2 #v[0,0,1] #v[1] (gArg (gOp2 #v[0,0,1] #v[1] (zaa 0))))) #v[1]))
theorem zsb (Ψ:Str->Fn):zre (zac [false] 1 (zwv Ψ)):=λm h1 h2 =>
 fn_ret (en:=[#v[m,0]]) rfl (zzx (op2_0 (arg_0 (op2_0 (x:=.inl (.int 1)) rfl (arg_0 (op2_0 (x:=.inl (.int 1)) rfl rfl rfl rfl (oI_t (cP1 h1 h2)))) rfl rfl (oI_t (cP2 h1 h2)))) rfl rfl rfl rfl)) rfl
noncomputable def zxs (Φ:Fn):Prop:=∀a b:Int,Φ [.int a,.int b]=some ([.int a,.int b],(.int (Builtin.bitXor a b),false))
noncomputable def z9j (Φ:Fn):Prop:=∀a b:Int,Φ [.int a,.int b]=some ([.int a,.int b],(.int (Builtin.bitAnd a b),false))
noncomputable def ybw (Ψ:Str->Fn):GS:=(gRet (gOp2 (oI yes2 λi j=>.int (Builtin.bitXor i j)) (zaa 0) (zaa 1)))
noncomputable def z50 (Ψ:Str->Fn):GS:=(gRet (gOp2 (oI yes2 λi j=>.int (Builtin.bitAnd i j)) (zaa 0) (zaa 1)))
theorem zow (Ψ:Str->Fn):zxs (zac [false,false] 2 (ybw Ψ)):=λa b=>rfl
theorem z2b (Ψ:Str->Fn):z9j (zac [false,false] 2 (z50 Ψ)):=λa b=>rfl
theorem cap2 (i:Nat):zat [none,none] i=none:=rfl
noncomputable def dif (a b:Int):Int:=if !decide (a=b) then 1 else 0
theorem z7k {a b:Int}(ha:Bit a)(hb:Bit b):a+b - 2 * (a * b)=dif a b:=by
 rcases ha with rfl|rfl<;>rcases hb with rfl|rfl<;>decide
theorem zhh:∀{xs ys:List Int},Bits xs->Bits ys->xs.length=ys.length->Builtin.bitXor (wordOf xs) (wordOf ys)=wordOf (List.zipWith dif xs ys)
  |[],[],_,_,_=>xor_zero 0
  |[],_::_,_,_,h=>by cases h
  |_::_,[],_,_,h=>by cases h
  | x::xs,y::ys,h1,h2,hl=>by
    rw[zb6,zb6,z0o (zc7 h1.tail) (zc7 h2.tail) h1.head h2.head,zhh h1.tail h2.tail (by simpa using hl),z7k h1.head h2.head]
    rfl
theorem zq8 {f:Int->Int->Int} (hf:∀a b,Bit a->Bit b->Bit (f a b)):∀{xs ys:List Int},Bits xs->Bits ys->Bits (List.zipWith f xs ys)
  |[],_,_,_=>λx hx=>by simp at hx
  |_::_,[],_,_=>λx hx=>by simp at hx
  | a::xs,b::ys,h1,h2=>fun x hx=>by
    rcases At.mp (show x∈f a b::List.zipWith f xs ys from hx) with rfl|hx
    · exact hf a b h1.head h2.head
    · exact zq8 hf h1.tail h2.tail x hx
theorem z8s {a b:Int}(ha:Bit a)(hb:Bit b):Bit (a * b):=by rcases ha with rfl|rfl<;>rcases hb with rfl|rfl<;>first|exact .inl #v[0,9]|exact .inr #v[0,9]
theorem yas {it:GL}{te:GE}{en e0:En}{ws rs:List W} (hi:it en=some (e0,ws)) (hz:ws.length<=1000) (hl:rs.length=ws.length)
  (ht:∀(i:Nat) v0 w r,ws[i]?=some w->rs[i]?=some r->∃u f,te [v0,#v[w,6]]=some ([v0,u],(r,f))) :
  zb5 [none,none] (.nm 1) it gYes te en=some (e0,(.lst rs,true)):=by
 have s9:(1000:Nat)<=sizeLine:=by decide
 obtain⟨ce',out,hc,hp⟩:=zer (cap:=[none,none]) (T:=.nm 1) (tc:=gYes) (te:=te) (λi c dn=>(∃v0 v1,c=[v0,v1])/\dn=rs.take i) hi rfl #v[] ⟨⟨_,_,rfl⟩,rfl⟩
  (by
   rintro i w c dn hw ⟨⟨v0,v1,rfl⟩,rfl⟩;have li:i<rs.length:=by rw[hl];exact (Aj.mp hw).1
   have hr:rs[i]?=some rs[i]:=Aa li;obtain⟨u,f,h⟩:=ht i v0 w rs[i] hw hr;refine⟨[v0,#v[w,6]],rfl,.inl ⟨_,_,(rs[i],f),rfl,h,⟨_,_,rfl⟩,?_⟩⟩;rw[Df,hr]
   rfl)
 obtain⟨_,rfl⟩:=hp;rw[hc,zmg cap2,Fu #v[]]
theorem z4p {i:Int}(h1:-1000000<=i)(h2:i<=1000000):zdo i=true:=by
 unfold zdo;rw[Af #v[],Af #v[]]
 rfl
theorem zwm {as:GAs}{en e1:En}{xs:List (W ⊕ Nat)}{j:Int}(h:as en=some (e1,xs))(h2:zar e1 xs=some [.int j])(h3:zdo j=true):za8 as en=some (e1,rngW 0 j.toNat):=by
 unfold za8;rw[h];show (match zar e1 xs with|some [.int j]=>if zdo j then some (e1,rngW 0 j.toNat) else none|_=>none)=_;rw[h2];show (if zdo j then some (e1,rngW 0 j.toNat) else none)=_;rw[if_pos h3]
noncomputable def tab (n:Nat) (f:Nat->Int):List Int:=(List.range n).map f
theorem tab_len (n:Nat)(f:Nat->Int):(tab n f).length=n:=by unfold tab;rw[Ae,Be]
theorem tab_get {n:Nat}{f:Nat->Int}{i:Nat}(h:i<n):(tab n f)[i]?=some (f i):=by unfold tab;rw[An,Gk h];rfl
theorem tab_ext {n:Nat}{f g:Nat->Int}(h:∀i,i<n->f i=g i):tab n f=tab n g:=by
 unfold tab;refine List.map_congr_left λi hi=>h i (Bh.mp hi)
theorem zkl (n:Nat)(f g:Nat->Int)(h:Int->Int->Int):List.zipWith h (tab n f) (tab n g)=tab n λi=>h (f i) (g i):=by
 apply Ee;intro i;by_cases hi:i<n
 ·rw[List.getElem?_zipWith,tab_get hi,tab_get hi,tab_get hi]
 ·rw[Cf (by rw[List.length_zipWith,tab_len,tab_len];omega),Cf (by rw[tab_len];omega)]
theorem zam {n:Nat}{f:Nat->Int}(h:∀i,i<n->Bit (f i)):Bits (tab n f):=λx hx=>by
 obtain⟨i,hi,rfl⟩:=Bw.mp hx;exact h i (Bh.mp hi)
theorem zjq (a b:Nat)(f:Nat->Int):tab (a+b) f=tab a f++tab b λi=>f (a+i):=by
 unfold tab;rw[List.range_add,Cs,Ep]
 rfl
theorem zeh (n:Nat):tab n (λ_=>0)=List.replicate n 0:=by unfold tab;rw[List.map_const',Be]
theorem zc0 (n:Nat):wordOf (List.replicate n 0)=0:=by
 induction n with
 |zero=>rfl
 |succ n ih=>rw[Cw,zb6,ih];rfl
theorem zrm {n s:Nat}{f:Nat->Int}(hs:s<=n)(h:∀i,n - s<=i->f i=0):wordOf (tab n f) * 2 ^ s=wordOf (tab n λi=>if i<s then 0 else f (i - s)):=by
 obtain⟨k,rfl⟩ : ∃k,n=k+s:=⟨n - s,by omega⟩;have e1:tab (k+s) f=tab k f++List.replicate s 0:=by
  rw[zjq,<-zeh];refine congrArg _ (tab_ext λi _=>h (k+i) #v[])
 have e2:tab (k+s) (λi=>if i<s then 0 else f (i - s))=List.replicate s 0++tab k f:=by
  rw[Nat.add_comm,zjq,<-zeh];have a:tab s (λi=>if i<s then 0 else f (i - s))=tab s λ_=>0:=tab_ext λi hi=>if_pos hi;have b:(tab k λi=>if s+i<s then 0 else f (s+i - s))=tab k f:=tab_ext λi _=>by rw[if_neg #v[]];congr 1;omega
  rw[a,b]
 rw[e1,e2,za0,za0,zc0,Dy,Int.mul_zero,Int.add_zero,Ez,Int.mul_comm]
noncomputable def zeu (s:Nat) (i:Nat):Int:=if i / s % 2=0 then 1 else 0
noncomputable def zjz (s:Nat) (f:Nat->Int) (i:Nat):Int:=if i / s % 2=1 then (f i+f (i - s)) % 2 else f i
theorem zji (s i:Nat):Bit (zeu s i):=by unfold zeu;split<;>first|exact .inr rfl|exact .inl rfl
theorem z70 {a b:Int}(ha:Bit a)(hb:Bit b):dif a b=(a+b) % 2:=by rcases ha with rfl|rfl<;>rcases hb with rfl|rfl<;>decide
theorem dif_zero {a:Int}(ha:Bit a):dif a 0=a:=by rcases ha with rfl|rfl<;>decide
theorem z1u {s:Nat}{f:Nat->Int}(h:∀i,Bit (f i))(i:Nat):Bit (zjz s f i):=by
 unfold zjz;split
 ·have:=Ff (f i + f (i - s)) (show (2 : Int) ≠ 0 by decide);have:=Es (f i+f (i - s)) (show (0:Int)<2 by decide);unfold Bit;omega
 ·exact h i
theorem zu6 {n s c:Nat}{f:Nat->Int} (h:∀i,Bit (f i)) (s0:0 < s) (hn:n=s * (2 * c)) (c0:0 < c):Builtin.bitXor (wordOf (tab n f)) (Builtin.bitAnd (wordOf (tab n f)) (wordOf (tab n (zeu s))) * 2 ^ s)=wordOf (tab n (zjz s f)):=by
  have hs:s<=n:=by rw[hn];exact Nat.le_mul_of_pos_right s #v[]
  have top:∀i,n - s<=i->i < n->i / s % 2=1:=fun i h1 h2=>by
    have e:i / s=2 * c - 1:=by
      have a1:s * (2 * c - 1)<=i:=by rw[Nat.mul_sub,Nat.mul_one,<-hn];exact h1
      have a2:i < s * (2 * c - 1)+s:=by
        have : s * (2 * c - 1) + s = n := by rw [hn, Nat.mul_sub, Nat.mul_one]; have : s ≤ s * (2 * c) := by rw [<- hn]; exact hs
                                             omega
        omega
      exact Nat.div_eq_of_lt_le (by rw[Gm];exact a1) (by rw[Nat.add_mul,Nat.one_mul,Gm];exact a2)
    rw[e];omega
  have g0:tab n (fun i=>f i * zeu s i)=tab n (fun i=>if i < n then f i * zeu s i else 0):=tab_ext fun i hi=>(if_pos hi).symm;rw [zfe (zam fun i _=>h i) (zam fun i _=>zji s i),zkl,g0,zrm hs (fun i hi=>by
    split
    · rename_i z
      have:zeu s i=0:=by unfold zeu;rw[if_neg (by rw[top i hi z];decide)]
      rw[this,Int.mul_zero]
    · rfl),zhh (zam λi _=>h i) (zam λi hi=>?_) (by rw[tab_len,tab_len]),zkl]
  · refine congrArg wordOf (tab_ext fun i hi => ?_)
    by_cases c1:i<s
    · rw [if_pos c1, dif_zero (h i)]
      unfold zjz;rw[if_neg (by rw[Nat.div_eq_of_lt c1];decide)]
    · have e:i / s=(i - s) / s+1:=by
        have:=Nat.add_div_right (i - s) s0;rw[show i - s+s=i by omega] at this;exact this
      rw[if_neg c1,if_pos #v[]];unfold zjz zeu;by_cases c2:i / s % 2=1
      · rw[if_pos c2,if_pos #v[],Int.mul_one,z70 (h i) (h (i - s))]
      · rw[if_neg c2,if_neg #v[],Int.mul_zero,dif_zero (h i)]
  · split
    · exact .inl rfl
    · split
      · exact z8s (h _) (zji s _)
      · exact .inl rfl
noncomputable def six6 (m j:Int):Prop:=(0<=j/\j<m/\m<=6)
theorem pairs {m j:Int}(h:six6 m j):(m=1/\j=0)\/(m=2/\(j=0\/j=1))\/(m=3/\(j=0\/j=1\/j=2))\/(m=4/\(j=0\/j=1\/j=2\/j=3))\/(m=5/\(j=0\/j=1\/j=2\/j=3\/j=4))\/(m=6/\(j=0\/j=1\/j=2\/j=3\/j=4\/j=5)):=by
 obtain⟨h1,h2,h3⟩:=h;omega
theorem z38 {m j:Int}(h:six6 m j):yesW m / (1 * 2 ^ (1 * 2 ^ j.toNat:Int).toNat+1)=wordOf (tab (2 ^ m.toNat) (zeu (2 ^ j.toNat))):=by
 rcases pairs h with⟨rfl,rfl⟩|⟨rfl,rfl|rfl⟩|⟨rfl,rfl|rfl|rfl⟩|⟨rfl,rfl|rfl|rfl|rfl⟩|⟨rfl,rfl|rfl|rfl|rfl|rfl⟩|⟨rfl,rfl|rfl|rfl|rfl|rfl|rfl⟩<;>decide +kernel
noncomputable def zpi (Ψ:Str->Fn):GS:=(gRet (gOp2 #v[0,0,3] (gArg (gCall [false] (Ψ "all_yes") (gCns #v[0,4] gA0))) (gArg (gOp2 oAdd (gArg (gOp2 #v[0,0,1] #v[1] (gArg (gOp2 #v[0,0,1] #v[1] (zaa 1))))) #v[1]))))
noncomputable def zvt (Ψ:Str->Fn):GS:=(gSeq (gSet [] 3 (gCall [false,false] (Ψ "times") (gCns #v[1,4] (gCns (gArg (gCall [false,false] (Ψ "letter_no") (gCns #v[0,4] (gCns #v[2,4] gA0)))) gA0)))) (gRet (gCall [false,false] (Ψ "plus") (gCns #v[1,4] (gCns (gArg (gOp2 #v[0,0,1] (zaa 3) (gArg (gOp2 #v[0,0,1] #v[1] (zaa 2))))) gA0)))))
noncomputable def NoOk (Φ:Fn):Prop:=∀m j:Int,six6 m j->Φ [.int m,.int j]=some ([.int m,.int j],(.int (wordOf (tab (2 ^ m.toNat) (zeu (2 ^ j.toNat)))),false))
theorem yeg {Ψ:Str->Fn}(hY:zre (Ψ "all_yes")):NoOk (zac [false,false] 2 (zpi Ψ)):=λm j h=>by
 have h':=h;obtain⟨j0,jm,m6⟩:=h';have dv:cDiv (yesW m) (1 * 2 ^ (1 * 2 ^ j.toNat:Int).toNat+1)=true:=by
  have j6:j=0\/j=1\/j=2\/j=3\/j=4\/j=5:=by omega
  rcases j6 with rfl|rfl|rfl|rfl|rfl|rfl<;>exact zqo #v[0,9] #v[0,9]
 exact fn_ret (en:=[#v[m,0],#v[j,0]]) rfl (zzx (op2_0 (arg_0 (zi6 (ws:=[.int m]) rfl rfl (hY m #v[] m6) rfl)) (arg_0 (op2_0 (arg_0 (op2_0 (x:=.inl (.int 1)) rfl (arg_0 (op2_0 (x:=.inl (.int 1)) rfl rfl rfl rfl (oI_t (cP1 j0 #v[])))) rfl rfl (oI_t (cP2 j0 #v[])))) rfl rfl rfl rfl)) rfl rfl ((oI_t dv).trans (by rw[z38 h])))) rfl
noncomputable def z3p (Φ:Fn):Prop:=∀(m j:Int) (f:Nat->Int),six6 m j->(∀i,Bit (f i))->Φ [.int m,.int (wordOf (tab (2 ^ m.toNat) f)),.int j]=some ([.int m,.int (wordOf (tab (2 ^ m.toNat) f)),.int j],(.int (wordOf (tab (2 ^ m.toNat) (zjz (2 ^ j.toNat) f))),false))
theorem z4o {Ψ:Str->Fn}(hN:NoOk (Ψ "letter_no"))(hA:z9j (Ψ "times"))(hX:zxs (Ψ "plus")):z3p (zac [false,false,false] 4 (zvt Ψ)):=λm j f h hf=>by
 have h':=h;obtain⟨j0,jm,m6⟩:=h';have sz:=z98 j0 (show j<=6 by omega);have b1:Bits (tab (2 ^ m.toNat) f):=zam λi _=>hf i;have b2:Bits (tab (2 ^ m.toNat) (zeu (2 ^ j.toNat))):=zam λi _=>zji _ i;have t:=hA (wordOf (tab (2 ^ m.toNat) f)) (wordOf (tab (2 ^ m.toNat) (zeu (2 ^ j.toNat))));generalize hlo:Builtin.bitAnd (wordOf (tab (2 ^ m.toNat) f)) (wordOf (tab (2 ^ m.toNat) (zeu (2 ^ j.toNat))))=lo at t;have lb:0<=lo/\lo<2 ^ 64:=by
  rw[<-hlo,zfe b1 b2];have b3:=zq8 (f:=(· * ·)) (λ_ _=>z8s) b1 b2;have wb:=zde b3;refine⟨wb.1,Gp wb.2 ?_⟩;rw[List.length_zipWith,tab_len,tab_len,Nat.min_self];rcases z8j (show 0<=m by omega) m6 with rfl|rfl|rfl|rfl|rfl|rfl|rfl<;>decide
 have es:(1 * 2 ^ j.toNat:Int).toNat=2 ^ j.toNat:=by rw[Int.one_mul];exact Int.toNat_pow_of_nonneg #v[0,9] _
 have key:Builtin.bitXor (wordOf (tab (2 ^ m.toNat) f)) (lo * 2 ^ (1 * 2 ^ j.toNat:Int).toNat)=wordOf (tab (2 ^ m.toNat) (zjz (2 ^ j.toNat) f)):=by
  rw[es,<-hlo];refine zu6 (c:=2 ^ (m.toNat - j.toNat - 1)) hf (Gc #v[0,9]) ?_ (Gc #v[0,9]);have e:m.toNat=j.toNat+(1+(m.toNat - j.toNat - 1)):=by omega
  rw[<-Nat.pow_succ',<-Nat.pow_add];congr 1;omega
 have x:=hX (wordOf (tab (2 ^ m.toNat) f)) (lo * 2 ^ (1 * 2 ^ j.toNat:Int).toNat);rw[key] at x;refine fn_ret (en:=[#v[m,0],#v[(wordOf (tab (2 ^ m.toNat) f)),0],#v[j,0],#v[lo,0]]) rfl ?_ rfl;refine (seq_nx (set_0 (zi6 (ws:=[.int (wordOf (tab (2 ^ m.toNat) f)),.int (wordOf (tab (2 ^ m.toNat) (zeu (2 ^ j.toNat))))]) (zsf (x:=.inl (.int (wordOf (tab (2 ^ m.toNat) f)))) rfl (zsf (arg_0 (zi6 (ws:=[.int m,.int j]) rfl rfl (hN m j h) rfl)) rfl)) rfl t rfl) rfl)).trans ?_;exact zzx (zi6 (ws:=[.int (wordOf (tab (2 ^ m.toNat) f)),.int (lo * 2 ^ (1 * 2 ^ j.toNat:Int).toNat)]) (zsf (x:=.inl (.int (wordOf (tab (2 ^ m.toNat) f)))) rfl (zsf (arg_0 (r:=(.int (lo * 2 ^ (1 * 2 ^ j.toNat:Int).toNat),false)) (op2_0 (x:=.inl (.int lo)) rfl (arg_0 (op2_0 (x:=.inl (.int 1)) rfl rfl rfl rfl (oI_t (cP1 j0 #v[])))) rfl rfl (oI_t (zl1 #v[] #v[] #v[])))) rfl)) rfl x rfl)
theorem zqi (n:Nat)(f:Nat->Int):tab (n+1) f=tab n f++[f n]:=by unfold tab;rw[Dz,Cs];rfl
theorem zgk {n:Nat}{f:Nat->Int}{i:Nat}(h:i<n):((tab n f).map W.int)[i]?=some (.int (f i)):=by rw[An,tab_get h];rfl
noncomputable def itF:Nat->(Nat->Int)->Nat->Int
 |0,f=>f
 |k+1,f=>zjz (2 ^ k) (itF k f)
theorem z3t {f:Nat->Int}(h:∀i,Bit (f i)):∀k i,Bit (itF k f i)
 |0,i=>h i
 |k+1,i=>z1u (z3t h k) i
noncomputable def rowF (m:Int) (f:Nat->Int) (k:Nat):Int:=wordOf (tab (2 ^ m.toNat) (itF k f))
noncomputable def z30 (Ψ:Str->Fn):GS:=(gSeq (gSet [] 2 (zag #v[2,9])) (gSeq (gFor [] (.nm 3) (za8 (gCns (zaa 0) gA0)) (zdk (gApp 2 (gCall [false,false,false] (Ψ "stepped") (gCns #v[0,4] (gCns (gArg (gOp2 oIx (zaa 2) (zaa 3))) (gCns #v[3,4] gA0))))))) (gRet (gOpN zdn (gCns (zaa 2) gA0)))))
noncomputable def zwg (Φ:Fn):Prop:=∀(m:Int) (f:Nat->Int),0<=m->m<=6->(∀i,Bit (f i))->Φ [.int m,.int (rowF m f 0)]=some ([.int m,.int (rowF m f 0)],(.tup ((tab (m.toNat+1) (rowF m f)).map W.int),false))
theorem z0p {Ψ:Str->Fn}(hS:z3p (Ψ "stepped")):zwg (zac [false,false] 4 (z30 Ψ)):=λm f m0 m6 hf=>by
 have s9:(1000:Nat)<=sizeLine:=by decide
 have it:(za8 (gCns (zaa 0) gA0)) [#v[m,0],#v[(rowF m f 0),0],#v[((tab 1 (rowF m f)).map W.int),2],none]=some ([#v[m,0],#v[(rowF m f 0),0],#v[((tab 1 (rowF m f)).map W.int),2],none],rngW 0 m.toNat):=by
  show (if zdo m then some (([#v[m,0],#v[(rowF m f 0),0],#v[((tab 1 (rowF m f)).map W.int),2],none]:En),rngW 0 m.toNat) else none)=_;rw[if_pos];unfold zdo;rw[Af #v[],Af #v[]]
  rfl
 obtain⟨en',hl,hp⟩:=zav (mp:=[]) (T:=(.nm 3)) (it:=(za8 (gCns (zaa 0) gA0))) (body:=(zdk (gApp 2 (gCall [false,false,false] (Ψ "stepped") (gCns #v[0,4] (gCns (gArg (gOp2 oIx (zaa 2) (zaa 3))) (gCns #v[3,4] gA0)))))))
  (λi e=>∃v3,e=[#v[m,0],#v[(rowF m f 0),0],#v[((tab (i+1) (rowF m f)).map W.int),2],v3]) it ⟨none,rfl⟩
  (by
   rintro i w e hw ⟨v3,rfl⟩;obtain⟨hi,rfl⟩:=zbl hw;have c:=hS m (0+i) (itF i f) ⟨by omega,by omega,m6⟩ (z3t hf i);have ei:(0+(i:Int)).toNat=i:=by omega
   rw[ei] at c;have g:(tab (i+1) (rowF m f)).length=i+1:=tab_len _ _;have cc:(gCall [false,false,false] (Ψ "stepped") (gCns #v[0,4] (gCns (gArg (gOp2 oIx (zaa 2) (zaa 3))) (gCns #v[3,4] gA0)))) [#v[m,0],#v[(rowF m f 0),0],#v[((tab (i+1) (rowF m f)).map W.int),2],#v[(0+(i:Nat)),0]]=some ([#v[m,0],#v[(rowF m f 0),0],#v[((tab (i+1) (rowF m f)).map W.int),2],#v[(0+(i:Nat)),0]],(.int (rowF m f (i+1)),false)) :=
    zi6 (ws:=[.int m,.int (rowF m f i),.int (0+(i:Nat))]) (zsf (x:=.inl (.int m)) rfl (zsf (arg_0 (r:=(.int (rowF m f i),false)) (op2_0 (x:=.inr 2) rfl rfl rfl rfl (zk4 rfl (by rw[Ez];exact zbd (zgk #v[]))))) rfl)) rfl c rfl
   refine⟨[#v[m,0],#v[(rowF m f 0),0],#v[((tab (i+1) (rowF m f)).map W.int),2],#v[(0+(i:Nat)),0]],[#v[m,0],#v[(rowF m f 0),0],#v[((tab (i+1+1) (rowF m f)).map W.int),2],#v[(0+(i:Nat)),0]],rfl,.inl ?_,_,rfl⟩;have a:=z25 (i:=2) rfl cc rfl (by rw[Ae,g];omega);rw[zqi (i+1),Cs];exact zo6 a)
 obtain⟨v3,rfl⟩:=hp;rw[zap] at hl;refine fn_ret (en:=[#v[m,0],#v[(rowF m f 0),0],#v[((tab (m.toNat+1) (rowF m f)).map W.int),2],v3]) rfl ?_ rfl;exact (seq_nx (e1:=[#v[m,0],#v[(rowF m f 0),0],#v[((tab 1 (rowF m f)).map W.int),2],none]) rfl).trans ((seq_nx hl).trans rfl)
noncomputable def zn4 (p:Nat):List Nat:=(List.range (p+1)).filter λo=>o &&& p == o
noncomputable def zj7 (f:Nat->Int) (p:Nat):Int:=((zn4 p).map f).sum % 2
noncomputable def evS (L:List Nat) (f:Nat->Int) (S:Nat):Int:=((L.filter λi=>S.testBit i).map f).sum
theorem ev_xor (f:Nat->Int) (A B:Nat):∀L:List Nat,evS L f (A ^^^ B) % 2=(evS L f A+evS L f B) % 2
  |[]=>rfl
  | i::L=>by
    have ih:=ev_xor f A B L;unfold evS at ih ⊢;rw[Dt,Dt,Dt,Bx];cases A.testBit i<;>cases B.testBit i<;>simp only [Bool.xor_false,Bool.xor_true,Bool.not_true,Gq,Fq,if_false,Bd,List.sum_cons,Et]<;>omega
noncomputable def itS:Nat->Nat->Nat
 |0,i=>2 ^ i
 |k+1,i=>if i / 2 ^ k % 2=1 then itS k i ^^^ itS k (i - 2 ^ k) else itS k i
theorem z7l:∀i:Fin 64,(List.range 64).filter (λj=>(2 ^ i.val).testBit j)=[i.val]:=by decide +kernel
theorem z52 {f:Nat->Int} (h:∀i,Bit (f i)):∀k i,i < 64->itF k f i=evS (List.range 64) f (itS k i) % 2
  | 0,i,hi=>by
    unfold evS itS itF;rw[z7l ⟨i,hi⟩];show f i=(f i+0) % 2;rcases h i with e|e<;>rw[e]<;>rfl
  | k+1,i,hi=>by
    have a:=z52 h k i hi;have b:=z52 h k (i - 2 ^ k) (Nat.lt_of_le_of_lt (Nat.sub_le _ _) hi);unfold itF itS zjz;by_cases c:i / 2 ^ k % 2=1
    · rw [if_pos c, if_pos c, a, b, ev_xor]
      omega
    · rw[if_neg c,if_neg c,a]
theorem z41:∀m:Fin 7,∀p:Fin (2 ^ m.val),(List.range 64).filter (λj=>(itS m.val p.val).testBit j)=zn4 p.val:=by decide +kernel
theorem z4s {f:Nat->Int}(h:∀i,Bit (f i)){m p:Nat}(hm:m<=6)(hp:p<2 ^ m):itF m f p=zj7 f p:=by
 have lt:2 ^ m<=2 ^ 6:=Cg #v[0,9] hm;rw[z52 h m p #v[]];unfold evS zj7;rw[z41 ⟨m,by omega⟩ ⟨p,hp⟩]
theorem zdr (n:Nat)(f:Nat->Int):tab (n+1) f=tab n f++[f n]:=by unfold tab;rw[Dz,Cs];rfl
theorem zex:∀(p:Nat) (xs:List Int),Bits xs->Builtin.bitAnd (wordOf xs / 2 ^ p) 1=xs.getD p 0
  | p,[],_=>by
    show Builtin.bitAnd ((0:Int) / 2 ^ p) 1=0;rw[Int.zero_ediv,zjy]
  | 0,x::xs,h=>by
    have a:=zgn (zc7 h.tail) (Int.le_refl 0) h.head (show Bit 1 from .inr rfl);rw[bitAnd_zero] at a;show Builtin.bitAnd (wordOf (x::xs) / 1) 1=x;rw[Int.ediv_one,zb6];have e:(2 * 0+1:Int)=1:=rfl;rw[e] at a;rw[a];omega
  | p+1,x::xs,h=>by
    have ih:=zex p xs h.tail;have e:wordOf (x::xs) / 2 ^ (p+1)=wordOf xs / 2 ^ p:=by
      rw[zb6,Int.pow_succ,Int.mul_comm ((2:Int) ^ p) 2,<-Int.ediv_ediv_of_nonneg #v[0,9]];congr 1;rcases h.head with q|q<;>rw[q]<;>omega
    rw[e,ih]
    rfl
theorem zps {n:Nat}{f:Nat->Int}(h:∀i,n<=i->f i=0)(p:Nat):(tab n f).getD p 0=f p:=by
 rw[Ba];by_cases c:p<n
 ·rw[tab_get c];rfl
 ·rw[Cf (by rw[tab_len];omega),h p #v[]];rfl
noncomputable def dueL (f:Nat->Int) (n:Nat):List Nat:=(List.range n).filter λp=>decide (f p=1)
noncomputable def castL (M:List Nat):List W:=M.map λp:Nat=>W.int p
theorem zzq (M:List Nat):castL M=(M.map λp:Nat=>(p:Int)).map W.int:=by unfold castL;rw[Ep];rfl
theorem zaj (M:List Nat):(castL M).length=M.length:=Ae ..
theorem zbn {M:List Nat}{i:Nat}{w:W}(h:(castL M)[i]?=some w):∃p,M[i]?=some p/\w=.int (p:Nat):=by
 unfold castL at h;rw[An] at h;obtain⟨p,h1,h2⟩:=Option.map_eq_some_iff.mp h;exact⟨p,h1,h2.symm⟩
theorem z2t {q:Nat->Bool}{a b:Nat}(h:∀p,a<=p->q p=false)(hab:a<=b):(List.range b).filter q=(List.range a).filter q:=by
 obtain⟨k,rfl⟩ : ∃k,b=a+k:=⟨b - a,by omega⟩;rw[List.range_add,Dv];have e:((List.range k).map (a + ·)).filter q=[]:=List.filter_eq_nil_iff.mpr λx hx=>by
  obtain⟨j,_,rfl⟩:=Bw.mp hx;rw[h (a+j) #v[]]
  decide
 rw[e,By]
theorem z6h {f:Nat->Int} (h:∀i,Bit (f i)):∀n,((dueL f n).length:Int)=(tab n f).sum
  |0=>rfl
  | n+1=>by
    have ih:=z6h h n;unfold dueL at ih ⊢;rw[Dz,Dv,Az,zdr,List.sum_append,<-ih];rcases h n with e|e
    · rw[Fo (by rw[e];decide),e];rfl
    · rw[Fm (by rw[e];decide),e];rfl
theorem z7e {w:Int}(h:0<=w):w<2 ^ Builtin.Int.intBits w:=by
 unfold Builtin.Int.intBits;by_cases z:w=0
 ·subst z;decide
 ·rw[if_neg (by simpa using z)];have a:=Nat.lt_log2_self (n:=w.natAbs);have e:=Int.natAbs_of_nonneg h;have c:((w.natAbs:Nat):Int)<((2 ^ (w.natAbs.log2+1):Nat):Int):=Int.ofNat_lt.mpr a;rw[e,Int.natCast_pow] at c;exact c
theorem zuw {f:Nat->Int}(h:∀i,Bit (f i)){n:Nat}(h0:∀i,n<=i->f i=0):(List.range (Builtin.Int.intBits (wordOf (tab n f)))).filter (λp=>decide (f p=1))=dueL f n:=by
 have b:=zam (n:=n) λi _=>h i;have nn:=zc7 b;have q1:∀p,n<=p->decide (f p=1)=false:=λp hp=>Ak (by rw[h0 p hp];decide);have q2:∀p,Builtin.Int.intBits (wordOf (tab n f))<=p->decide (f p=1)=false:=λp hp=>by
  have s:=zex p _ b;have lt:wordOf (tab n f)<2 ^ p:=Gp (z7e nn) (by
   have:=Cg (n:=2) #v[0,9] hp
   exact_mod_cast this)
  rw[Int.ediv_eq_zero_of_lt nn lt,zjy,zps h0] at s;exact Ak (by rw[<-s];decide)
 unfold dueL;rw[<-z2t q1 (Nat.le_max_left n (Builtin.Int.intBits (wordOf (tab n f)))),<-z2t q2 (Nat.le_max_right n _)]
theorem zrf (f g h:Nat->Int):∀n,wordOf (tab n f)+wordOf (tab n g) - wordOf (tab n h)=wordOf (tab n fun i=>f i+g i - h i)
  |0=>rfl
  | n+1=>by
    have ih:=zrf f g h n;rw[zdr,zdr,zdr,zdr,za0,za0,za0,za0,<-ih,tab_len,tab_len,tab_len,tab_len];show _+2 ^ n * (2 * 0+f n)+(_+2 ^ n * (2 * 0+g n)) - (_+2 ^ n * (2 * 0+h n))=_+2 ^ n * (2 * 0+(f n+g n - h n));rw[show (2 * 0+f n)=f n by omega,show (2 * 0+g n)=g n by omega,show (2 * 0+h n)=h n by omega,show (2 * 0+(f n+g n - h n))=f n+g n - h n by omega,Int.mul_sub,Int.mul_add];omega
theorem z1s {n p:Nat}(h:p<n):(1 * 2 ^ p:Int)=wordOf (tab n λi=>if i=p then 1 else 0):=by
 obtain⟨k,rfl⟩ : ∃k,n=p+(1+k):=⟨n - p - 1,by omega⟩;have e1:(tab p λi=>if i=p then (1:Int) else 0)=List.replicate p 0:=by
  rw[<-zeh];exact tab_ext λi hi=>if_neg #v[]
 have e2:(tab k λi=>if p+(1+i)=p then (1:Int) else 0)=List.replicate k 0:=by
  rw[<-zeh];exact tab_ext λi hi=>if_neg #v[]
 have e3:(tab 1 λi=>if p+i=p then (1:Int) else 0)=[1]:=by
  show [if p+0=p then (1:Int) else 0]=[1];rw[if_pos #v[]]
 rw[zjq,zjq,e1,e2,e3,za0,zc0,Dy];show _=0+2 ^ p * (2 * wordOf (List.replicate k 0)+1);rw[zc0];omega
theorem yck (x y:Int):Builtin.bitOr x y=x+y - Builtin.bitAnd x y:=by
 have h:=zjr x y;have e:Builtin.bitXor x y=Builtin.bitOr x y - Builtin.bitAnd x y:=rfl;omega
theorem zti {n p:Nat}{f:Nat->Int}(h:∀i,Bit (f i))(hp:p<n):Builtin.bitOr (wordOf (tab n f)) (1 * 2 ^ p)=wordOf (tab n λi=>if i=p then 1 else f i):=by
 rw[z1s hp,yck,zfe (zam λi _=>h i) (zam λi _=>by split<;>first|exact .inr rfl|exact .inl rfl),zkl,zrf];refine congrArg wordOf (tab_ext λi _=>?_);by_cases c:i=p
 ·rw[if_pos c,if_pos c];omega
 ·rw[if_neg c,if_neg c];omega
theorem z2m {mp:List Nat}{o:O2}{i:Nat}{g:GA}{en e1:En}{x:W ⊕ Nat}{w u:W}{r:W × Bool}(h0:en[i]?=some (#v[w,6]))(h1:g en=some (e1,x))(h2:resA e1 x=some u)(h3:o w u=some r)(hc:(mp.contains i || !decide (i<e1.length))=false):gAug mp o i g en=some (e1.set i (some r),.nx):=by
 unfold gAug;rw[h0];show (g en).bind _=_;rw[h1];show (resA e1 x).bind _=_;rw[h2];show (o w u).bind _=_;rw[h3];show (if (mp.contains i || !decide (i<e1.length))=true then none else some (e1.set i (some r),Fl.nx))=_;rw[hc]
 rfl
theorem z8n {i:Nat}{g g' : GE}{en e1 e2:En}{us ws:List W}{k:Int}{f:Bool}{r:W × Bool}(h0:en[i]?=some (#v[us,2]))(h1:g en=some (e1,(.int k,f)))(h2:g' e1=some (e2,r))(h3:e2[i]?=some (#v[ws,2]))(hk:0<=k/\k.toNat<=ws.length/\ws.length<sizeLine):gIns i g g' en=some (e2.set i (#v[(ws.take k.toNat++r.1::ws.drop k.toNat),2]),(.non,false)):=by
 unfold gIns;rw[h0];show (g en).bind _=_;rw[h1];show (g' e1).bind _=_;rw[h2];show (match e2[i]? with|some (#v[ws,2])=>if 0<=k/\k.toNat<=ws.length/\ws.length<sizeLine then some (e2.set i (#v[(ws.take k.toNat++r.1::ws.drop k.toNat),2]),(W.non,false)) else none|_=>none)=_;rw[h3];exact if_pos hk
noncomputable def zth (Ψ:Str->Fn):GS:=(gRet (gOp2 (oI yes2 λi j=>.int (Builtin.bitAnd i j)) (gArg (gOp2 (oI (λ_ j=>decide (0<=j)) λi j=>.int (i / 2 ^ j.toNat)) (zaa 0) (zaa 1))) #v[1]))
noncomputable def zuu (Φ:Fn):Prop:=∀(n p:Nat) (f:Nat->Int),(∀i,Bit (f i))->(∀i,n<=i->f i=0)->Φ [.int (wordOf (tab n f)),.int (p:Nat)]=some ([.int (wordOf (tab n f)),.int (p:Nat)],(.int (f p),false))
theorem zxh (Ψ:Str->Fn):zuu (zac [false,false] 2 (zth Ψ)):=λn p f hf h0=>by
 have s:=zex p _ (zam (n:=n) λi _=>hf i);rw[zps h0] at s;have a:gArg (gOp2 (oI (λ_ j=>decide (0<=j)) λi j=>.int (i / 2 ^ j.toNat)) (zaa 0) (zaa 1)) [#v[(wordOf (tab n f)),0],#v[(p:Nat),0]]=some ([#v[(wordOf (tab n f)),0],#v[(p:Nat),0]],.inl (.int (wordOf (tab n f) / 2 ^ p))):=arg_0 (r:=(.int (wordOf (tab n f) / 2 ^ p),false)) (op2_0 (x:=.inl (.int (wordOf (tab n f)))) (y:=.inl (.int (p:Nat))) rfl rfl rfl rfl (oI_t (Af (Go p))));refine fn_ret (en:=[#v[(wordOf (tab n f)),0],#v[(p:Nat),0]]) rfl (zzx (op2_0 a (show gArg (gC (.int 1)) _=some (_,.inl (.int 1)) from rfl) rfl rfl ?_)) rfl;show some (W.int (Builtin.bitAnd (wordOf (tab n f) / 2 ^ p) 1),false)=_;rw[s]
noncomputable def z4m (Ψ:Str->Fn):GS:=(gRet (gOpN zdn (gCns (gArg (zb5 [none,none,some 0] (.nm 1) (za8 (gCns (gArg (gOp1 zc4 (zaa 0))) gA0)) (zad (gOp2 oEq (gArg (gCall [false,false] (Ψ "says") (gCns #v[2,4] #v[2,9]))) #v[1])) (gVar 1))) gA0)))
noncomputable def zxo (Φ:Fn):Prop:=∀(n:Nat) (f:Nat->Int),(∀i,Bit (f i))->(∀i,n<=i->f i=0)->n<=64->Φ [.int (wordOf (tab n f))]=some ([.int (wordOf (tab n f))],(.tup (castL (dueL f n)),false))
theorem z2g {Ψ:Str->Fn}(hS:zuu (Ψ "says")):zxo (zac [false] 1 (z4m Ψ)):=λn f hf h0 hn=>by
 have s9:(1000:Nat)<=sizeLine:=by decide
 have nn:=zc7 (zam (n:=n) λi _=>hf i);have wl:(wordOf (tab n f))<2 ^ 64:=by
  have b:=zde (zam (n:=n) λi _=>hf i);rw[tab_len] at b;refine Gp b.2 ?_;have:=Cg (n:=2) #v[0,9] hn
  exact_mod_cast this
 have bl:Builtin.Int.intBits (wordOf (tab n f))<=64:=by
  unfold Builtin.Int.intBits;split
  ·decide
  ·rename_i z;have z' : ((wordOf (tab n f))).natAbs≠0:=by
    intro q;exact z (by rw[Int.natAbs_eq_zero.mp q];rfl)
   have:((wordOf (tab n f))).natAbs.log2<64:=(Nat.log2_lt z').mpr (by
    have e:=Int.natAbs_of_nonneg nn;rw[<-e] at wl
    exact_mod_cast wl)
   omega
 have it:(za8 (gCns (gArg (gOp1 zc4 (zaa 0))) gA0)) [#v[(wordOf (tab n f)),0]]=some ([#v[(wordOf (tab n f)),0]],rngW 0 (Builtin.Int.intBits (wordOf (tab n f)))):=by
  have r:=zwm (as:=(gCns (gArg (gOp1 zc4 (zaa 0))) gA0)) (en:=[#v[(wordOf (tab n f)),0]]) (j:=((Builtin.Int.intBits (wordOf (tab n f)):Nat):Int)) (xs:=[.inl (.int ((Builtin.Int.intBits (wordOf (tab n f)):Nat):Int))]) rfl rfl (z4p #v[] #v[]);rw[r]
  rfl
 obtain⟨ce',out,hc,hq⟩:=zer (cap:=[none,none,some 0]) (T:=(.nm 1)) (tc:=(zad (gOp2 oEq (gArg (gCall [false,false] (Ψ "says") (gCns #v[2,4] #v[2,9]))) #v[1]))) (te:=(gVar 1)) (λi c dn=>(∃v0 v1,c=[v0,v1,#v[(wordOf (tab n f)),0]])/\dn=castL ((List.range i).filter λp=>decide (f p=1))) it rfl (by rw[zap];omega) ⟨⟨_,_,rfl⟩,rfl⟩
  (by
   rintro i w c dn hw ⟨⟨v0,v1,rfl⟩,rfl⟩;obtain⟨hi,rfl⟩:=zbl hw;rw[Ez];have t:(zad (gOp2 oEq (gArg (gCall [false,false] (Ψ "says") (gCns #v[2,4] #v[2,9]))) #v[1])) [v0,#v[(i:Nat),0],#v[(wordOf (tab n f)),0]]=some ([v0,#v[(i:Nat),0],#v[(wordOf (tab n f)),0]],decide (f i=1)):=z9g (f:=false) (op2_0 (arg_0 (r:=(.int (f i),false)) (zi6 (ws:=[.int (wordOf (tab n f)),.int (i:Nat)]) rfl rfl (hS n i f hf h0) rfl)) (show gArg (gC (.int 1)) _=some (_,.inl (.int 1)) from rfl) rfl rfl rfl);refine⟨[v0,#v[(i:Nat),0],#v[(wordOf (tab n f)),0]],rfl,?_⟩;by_cases b:f i=1
   ·rw[Af b] at t;refine .inl ⟨_,[v0,#v[(i:Nat),0],#v[(wordOf (tab n f)),0]],(.int (i:Nat),false),t,rfl,⟨_,_,rfl⟩,?_⟩;unfold castL;rw[Dz,Dv,Cs,Fm (p:=λp=>decide (f p=1)) (Af b)]
    rfl
   ·rw[Ak b] at t;refine .inr ⟨_,t,⟨_,_,rfl⟩,?_⟩;rw[Dz,Dv,Fo (p:=λp=>decide (f p=1)) (by rw[Ak b];decide),Dm,By])
 obtain⟨⟨v0,v1,rfl⟩,rfl⟩:=hq;rw[zap,zuw hf h0] at hc;exact fn_ret rfl (zf5 (z3c (zwl (arg_ev hc) rfl) rfl rfl)) rfl
noncomputable def zmc (Ψ:Str->Fn):GS:=(gSeq (gSet [] 1 (gC (.int 0))) (gSeq (gFor [] (.nm 2) (zaz (gVar 0)) (gAug [] (oI yes2 λi j=>.int (Builtin.bitOr i j)) 1 (gArg (gOp2 #v[0,0,1] #v[1] (zaa 2))))) (zct [] 1)))
noncomputable def zjo (Φ:Fn):Prop:=∀(n:Nat) (M:List Nat),n<=64->(∀p∈M,p<n)->Φ [.tup (castL M)]=some ([.tup (castL M)],(.int (wordOf (tab n λi=>if i∈M then 1 else 0)),false))
theorem zsv (Ψ:Str->Fn):zjo (zac [false] 3 (zmc Ψ)):=λn M hn hM=>by
 have z0:(wordOf (tab n λi=>if i∈M.take 0 then 1 else 0))=0:=by
  have:(tab n λi=>if i∈M.take 0 then (1:Int) else 0)=List.replicate n 0:=by
   rw[<-zeh];exact tab_ext λi _=>if_neg (by rw[De];exact Ei)
  rw[this,zc0]
 obtain⟨en',hl,hp⟩:=zav (mp:=[]) (T:=(.nm 2)) (it:=(zaz (gVar 0))) (body:=(gAug [] (oI yes2 λi j=>.int (Builtin.bitOr i j)) 1 (gArg (gOp2 #v[0,0,1] #v[1] (zaa 2)))))
  (λj e=>∃v2,e=[#v[(castL M),3],#v[(wordOf (tab n λi=>if i∈M.take j then 1 else 0)),0],v2]) (en:=[#v[(castL M),3],#v[0,0],none]) (e0:=[#v[(castL M),3],#v[0,0],none]) (ws:=castL M) rfl ⟨none,by rw[z0]⟩
  (by
   rintro j w e hw ⟨v2,rfl⟩;obtain⟨p,hp,rfl⟩:=zbn hw;have pn:p<n:=hM p (Av hp);have ow:=zti (n:=n) (p:=p) (f:=λi=>if i∈M.take j then 1 else 0) (λi=>by show Bit (if _ then _ else _);split<;>first|exact .inr rfl|exact .inl rfl) pn;have e2:(tab n λi=>if i=p then (1:Int) else if i∈M.take j then 1 else 0)=tab n λi=>if i∈M.take (j+1) then 1 else 0:=tab_ext λi _=>by
    have m:i∈M.take (j+1)↔(i∈M.take j\/i=p):=by
     rw[Df,hp,Bf];show _\/i∈[p]↔_;rw[Ap]
    by_cases c:i=p
    ·rw[if_pos c,if_pos (m.mpr (.inr c))]
    ·rw[if_neg c];by_cases c2:i∈M.take j
     ·rw[if_pos c2,if_pos (m.mpr (.inl c2))]
     ·rw[if_neg c2,if_neg (λq=>(m.mp q).elim c2 c)]
   rw[e2] at ow;have pw:(1 * 2 ^ ((p:Nat):Int).toNat:Int)=1 * 2 ^ p:=rfl;refine⟨[#v[(castL M),3],#v[(wordOf (tab n λi=>if i∈M.take j then 1 else 0)),0],#v[(p:Nat),0]],[#v[(castL M),3],#v[(wordOf (tab n λi=>if i∈M.take (j+1) then 1 else 0)),0],#v[(p:Nat),0]],rfl,.inl (z2m (w:=.int (wordOf (tab n λi=>if i∈M.take j then 1 else 0))) (u:=.int (1 * 2 ^ p)) rfl (arg_0 (r:=(.int (1 * 2 ^ p),false)) (op2_0 (x:=.inl (.int 1)) (y:=.inl (.int (p:Nat))) rfl rfl rfl rfl (oI_t (zl1 #v[] #v[] #v[0,9])))) rfl ?_ rfl),_,rfl⟩;show some (W.int (Builtin.bitOr (wordOf (tab n λi=>if i∈M.take j then 1 else 0)) (1 * 2 ^ p)),false)=_;rw[ow])
 obtain⟨v2,rfl⟩:=hp;rw[zaj,Cb] at hl;exact fn_ret rfl ((seq_nx (e1:=[#v[(castL M),3],#v[0,0],none]) rfl).trans ((seq_nx hl).trans rfl)) rfl
theorem zce:∀ws:List W,zbh (ws.map Sum.inl)=some ws
 |[]=>rfl
 |w::ws=>by show (zbh (ws.map Sum.inl)).bind _=_;rw[zce ws];rfl
theorem zhk:∀{xs:List (W ⊕ Nat)}{ws:List W},zbh xs=some ws->xs=ws.map Sum.inl
  |[],_,e=>by obtain rfl:=sI e;rfl
  | .inl w::xs,_,e=>by
    obtain⟨ws,h,e⟩:=bS (show (zbh xs).bind _=_ from e);obtain rfl:=sI e;rw[zhk h];rfl
  |.inr _::_,_,e=>by exact noSome e
theorem zm8 {xs:List (W ⊕ Nat)} (m:List Bool) (hm:(m.all fun b=>!b)=true) (h:xs.map isR=m):∃ws:List W,xs=ws.map Sum.inl:=by
  induction xs generalizing m with
  |nil=>exact⟨[],rfl⟩
  | cons x xs ih =>
    cases m with
    |nil=>cases h
    | cons b m =>
      rw[Bd] at h;injection h with h1 h2;rw[Bo,Ac] at hm;obtain⟨ws,e⟩:=ih m hm.2 h2;cases x with
      |inl w=>exact⟨w::ws,by rw[e];rfl⟩
      |inr i=>rw[<-h1] at hm;cases hm.1
theorem zhz:∀{m:List Bool} (hm:(m.all fun b=>!b)=true) (ws:List W),ws.length=m.length->(ws.map fun _=>false)=m
  |[],_,[],_=>rfl
  |[],_,_::_,h=>by cases h
  |_::_,_,[],h=>by cases h
  | b::m,hm,w::ws,h=>by
    rw[Bo,Ac] at hm;rw[Bd,zhz hm.2 ws (by simpa using h)];cases b with
    |false=>rfl
    |true=>cases hm.1
theorem zdj (m:List Bool) (Φ:Fn) (as:GAs) (en:En) (hm:(m.all fun b=>!b)=true):gCall m Φ as en=(as en).bind fun p=>(zbh p.2).bind fun ws=>if ws.length=m.length then (Φ ws).bind fun q=>if q.1.length=m.length then some (p.1,q.2) else none else none:=by
  cases ha:as en with
  |none=>unfold gCall;rw[ha];rfl
  | some p =>
    obtain⟨e1,xs⟩:=p;show _=(zbh xs).bind _;cases hf:zbh xs with
    | none =>
      unfold gCall;rw[ha];show (if (decide (xs.map isR=m) && _ && _)=true then _ else none)=none;rw[Ak (λz=>by obtain⟨ws,e⟩:=zm8 m hm z;rw[e,zce] at hf;cases hf)]
      rfl
    | some ws =>
      have ex:=zhk hf;subst ex;show _=if ws.length=m.length then _ else none;by_cases hl:ws.length=m.length
      · rw [if_pos hl]
        have h1:=zhz hm ws hl;cases hq:Φ ws with
        | none =>
          unfold gCall;rw[ha];show (if (decide ((ws.map Sum.inl).map isR=m) && zaw e1 (ws.map Sum.inl) && zcp (zbi (ws.map Sum.inl)))=true then _ else _)=_;have e:(ws.map Sum.inl).map isR=m:=by rw[<-h1,Ep];rfl
          rw[Af e,zfd,zho];show (zar e1 (ws.map Sum.inl)).bind _=_;rw[zci];show (Φ ws).bind _=_;rw[hq]
          rfl
        | some q =>
          obtain⟨ws',r⟩:=q;show _=if ws'.length=m.length then some (e1,r) else none;by_cases hl2:ws'.length=m.length
          · rw [if_pos hl2]
            exact zni ha h1 hq #v[]
          · rw [if_neg hl2]
            unfold gCall;rw[ha];show (if (decide ((ws.map Sum.inl).map isR=m) && zaw e1 (ws.map Sum.inl) && zcp (zbi (ws.map Sum.inl)))=true then _ else _)=_;have e:(ws.map Sum.inl).map isR=m:=by rw[<-h1,Ep];rfl
            rw[Af e,zfd,zho];show (zar e1 (ws.map Sum.inl)).bind _=_;rw[zci];show (Φ ws).bind _=_;rw[hq];show (if ws'.length=m.length then _ else none)=none;rw[if_neg hl2]
      · rw [if_neg hl]
        unfold gCall;rw[ha];show (if (decide ((ws.map Sum.inl).map isR=m) && _ && _)=true then _ else none)=none;rw[Ak (λz=>hl (by rw[<-z,Ae,Ae]))]
        rfl
theorem zd7 (m:List Bool) (Φ:Fn) (as:GAs) (en:En) (hm:(m.all fun b=>!b)=true):gCall (true::m) Φ as en=(as en).bind fun p=>match p.2 with
    | .inr i::xs=>(zbh xs).bind fun ws=>(match p.1[i]? with
      | some (some (st,true))=>if ws.length=m.length then (Φ (st::ws)).bind fun q=>(match q.1 with
        |st' :: wz=>if wz.length=m.length then some (p.1.set i (#v[st',5]),q.2) else none
        |[]=>none) else none
      |_=>none)
    |_=>none:=by
  cases ha:as en with
  |none=>unfold gCall;rw[ha];rfl
  | some p =>
    obtain ⟨e1,xs⟩:=p;have base:gCall (true::m) Φ as en=if decide (xs.map isR=true::m) && zaw e1 xs && zcp (zbi xs) then (zar e1 xs).bind fun ws=>(Φ ws).bind fun q=>if q.1.length=(true::m).length then some (zbm (zbi xs) e1 (zbs (true::m) q.1),q.2) else none else none:=by
      unfold gCall;rw[ha];rfl
    have bad:xs.map isR≠true::m->gCall (true::m) Φ as en=none:=λz=>by rw[base,Ak z];rfl
    have bad2:zaw e1 xs=false->gCall (true::m) Φ as en=none:=λz=>by rw[base,z,Bool.and_false];rfl
    simp only [Dr]
    match xs,ha,base,bad,bad2 with
    |[],ha,_,bad,_=>rw[bad (by simp)]
    |.inl w::xs,ha,_,bad,_=>rw[bad (by simp [isR])]
    | .inr i::xs,ha,base,bad,bad2 =>
      simp only;cases hf:zbh xs with
      | none=>rw [bad (fun z=>by
          rw[Bd] at z;injection z with _ z;obtain⟨ws,e⟩:=zm8 m hm z;rw[e,zce] at hf;cases hf)];rfl
      | some ws =>
        have ex:=zhk hf;subst ex;simp only [Dr];have no:(∀st,e1[i]?≠some (some (st,true)))->zaw e1 (.inr i::ws.map Sum.inl)=false:=fun z=>by
          unfold zaw;rw [Bo];have:(match e1[i]? with | some (some (_,true))=>true | _=>false)=false:=by
            split
            · rename_i q;exact absurd q (z _)
            · rfl
          simp only [this,Ek]
        split
        · rename_i st hst
          by_cases hl:ws.length=m.length
          · rw [if_pos hl]
            have h1:=zhz hm ws hl;cases hq:Φ (st::ws) with
            | none =>
              rw[base];split
              · have rs:zar e1 (.inr i::ws.map Sum.inl)=some (st::ws):=by
                  show (resA e1 (.inr i)).bind _=_;have:resA e1 (.inr i)=some st:=by unfold resA;simp only [hst]
                  rw[this];show (zar e1 (ws.map Sum.inl)).bind _=_;rw[zci]
                  rfl
                rw[rs];show (Φ (st::ws)).bind _=_;rw[hq]
                rfl
              · rfl
            | some q =>
              obtain ⟨ws',r⟩:=q;simp only [Dr];have nn:ws'.length≠(true::m).length->gCall (true::m) Φ as en=none:=fun z=>by
                rw[base];split
                · have rs:zar e1 (.inr i::ws.map Sum.inl)=some (st::ws):=by
                    show (resA e1 (.inr i)).bind _=_;have:resA e1 (.inr i)=some st:=by unfold resA;simp only [hst]
                    rw[this];show (zar e1 (ws.map Sum.inl)).bind _=_;rw[zci]
                    rfl
                  rw[rs];show (Φ (st::ws)).bind _=_;rw[hq];show (if ws'.length=(true::m).length then _ else none)=none;rw[if_neg z]
                · rfl
              match ws',hq,nn with
              |[],hq,nn=>rw[nn (by simp)]
              | st' :: wz,hq,nn =>
                simp only;by_cases hl2:wz.length=m.length
                · rw [if_pos hl2]
                  exact zq4 ha (by rw[h1]) hst hq #v[]
                · rw[if_neg hl2,nn (by simpa using hl2)]
          · rw [if_neg hl,bad (fun z=>hl (by
              have:=congrArg List.length z;simpa using this))]
        · rename_i hst
          exact bad2 (no λst z=>hst st z)
theorem oI_e {c:Int->Int->Bool}{g:Int->Int->W}{i j:Int}:oI c g (.int i) (.int j)=if c i j then #v[g i j,6] else none:=rfl
theorem z8e {i j:Int}:yes2 i j=true:=rfl
theorem zyt {ws:List W}:seqW (.tup ws)=some ws:=rfl
theorem z0x {ws:List W}:seqW (.lst ws)=some ws:=rfl
theorem z1e {ws:List W}:seqL (.lst ws)=some ws:=rfl
theorem ycw {a:W}{i:Int}:oIx a (.int i)=(seqW a).bind λws=>(atI ws i).bind λw=>#v[w,6]:=by cases a<;>rfl
theorem ybd {en:En}{w:W}:resA en (.inl w)=some w:=rfl
theorem yax {en:En}{i:Nat}:resA en (.inr i)=match en[i]? with|some (some (w,_))=>some w|_=>none:=by
 unfold resA;rfl
theorem ydz {i j:Int}:oEq (.int i) (.int j)=some (.bl (decide (i=j)),false):=rfl
theorem ycq {i j:Int}:oNe (.int i) (.int j)=some (.bl (!decide (i=j)),false):=rfl
theorem zzm {w:W}{xs:List (W ⊕ Nat)}:zbh (.inl w::xs)=(zbh xs).bind λws=>some (w::ws):=rfl
theorem z1k:zbh []=some []:=rfl
theorem z7x {en:En}{x:W ⊕ Nat}{xs:List (W ⊕ Nat)}:zar en (x::xs)=(resA en x).bind λw=>(zar en xs).bind λws=>some (w::ws):=rfl
theorem z4w {en:En}:zar en []=some []:=rfl
theorem z7s {b:Bool}{m:List Bool}{w:W}{ws:List W}:zbs (b::m) (w::ws)=some (w,b)::zbs m ws:=rfl
theorem z79 {ws:List W}:zbs [] ws=[]:=by unfold zbs;simp
theorem yaj {en:En}:zcz [] [] en=some []:=rfl
theorem z88 {m:List Bool}{w u:W}{ws:List W}{en:En}:zcz (true::m) (u::ws) (#v[w,5]::en)=(zcz m ws en).bind λr=>some (w::r):=rfl
theorem z9h {m:List Bool}{w:W}{ws:List W}{x:Option (W × Bool)}{en:En}:zcz (false::m) (w::ws) (x::en)=(zcz m ws en).bind λr=>some (w::r):=rfl
theorem yeb {x:W}{xs:List W}:atI (x::xs) 0=some x:=by
 have:=zbd (xs:=x::xs) (i:=0) rfl;exact this
theorem yc8 {x y:W}{xs:List W}:atI (x::y::xs) 1=some y:=by
 have:=zbd (xs:=x::y::xs) (i:=1) rfl;exact this
theorem yd4 {x y z:W}{xs:List W}:atI (x::y::z::xs) 2=some z:=by
 have:=zbd (xs:=x::y::z::xs) (i:=2) rfl;exact this
theorem zyr {n:Nat}:((no_index (OfNat.ofNat n):Nat):Int)=(OfNat.ofNat n:Int):=rfl
theorem zpq {xs ys:List W}:oAdd (.lst xs) (.lst ys)=if xs.length+ys.length<=sizeLine then #v[(xs++ys),2] else none:=by
 by_cases h:xs.length+ys.length<=sizeLine
 ·rw[if_pos h];exact zvd h
 ·rw [if_neg h];show oOr oCat (oOr zy7 (oOr z8b zy4)) (.lst xs) (.lst ys)=none;have e:oCat (.lst xs) (.lst ys)=none:=by
   show (if xs.length+ys.length<=sizeLine then _ else none)=none;rw[if_neg h]
  unfold oOr;rw[e]
  rfl
theorem zno:oIsi .int .non=some #v[9,7]:=rfl
theorem zsa {b:Bool}:oIsi .int (.bl b)=some #v[9,12]:=rfl
theorem zou {n:Int}:oIsi .int (.int n)=some #v[9,12]:=rfl
theorem zoj {x:Str}:oIsi .int (.str x)=some #v[9,7]:=rfl
theorem znw {xs:List W}:oIsi .int (.tup xs)=some #v[9,7]:=rfl
theorem zpl {xs:List W}:oIsi .int (.lst xs)=some #v[9,7]:=rfl
theorem zn3:oIsi .int .dic=some #v[9,7]:=rfl
theorem zk3:oIsi .bool .non=some #v[9,7]:=rfl
theorem zof {b:Bool}:oIsi .bool (.bl b)=some #v[9,12]:=rfl
theorem zm2 {n:Int}:oIsi .bool (.int n)=some #v[9,7]:=rfl
theorem zmj {x:Str}:oIsi .bool (.str x)=some #v[9,7]:=rfl
theorem zmi {xs:List W}:oIsi .bool (.tup xs)=some #v[9,7]:=rfl
theorem zm1 {xs:List W}:oIsi .bool (.lst xs)=some #v[9,7]:=rfl
theorem zm5:oIsi .bool .dic=some #v[9,7]:=rfl
theorem zpo:oIsi .str .non=some #v[9,7]:=rfl
theorem zsr {b:Bool}:oIsi .str (.bl b)=some #v[9,7]:=rfl
theorem zpg {n:Int}:oIsi .str (.int n)=some #v[9,7]:=rfl
theorem zo1 {x:Str}:oIsi .str (.str x)=some #v[9,12]:=rfl
theorem zol {xs:List W}:oIsi .str (.tup xs)=some #v[9,7]:=rfl
theorem znn {xs:List W}:oIsi .str (.lst xs)=some #v[9,7]:=rfl
theorem zoy:oIsi .str .dic=some #v[9,7]:=rfl
theorem zjx:oIsi .tuple .non=some #v[9,7]:=rfl
theorem zkw {b:Bool}:oIsi .tuple (.bl b)=some #v[9,7]:=rfl
theorem zkv {n:Int}:oIsi .tuple (.int n)=some #v[9,7]:=rfl
theorem zkg {x:Str}:oIsi .tuple (.str x)=some #v[9,7]:=rfl
theorem zj6 {xs:List W}:oIsi .tuple (.tup xs)=some #v[9,12]:=rfl
theorem zj8 {xs:List W}:oIsi .tuple (.lst xs)=some #v[9,7]:=rfl
theorem zjc:oIsi .tuple .dic=some #v[9,7]:=rfl
theorem zmo:oIsi .list .non=some #v[9,7]:=rfl
theorem zpm {b:Bool}:oIsi .list (.bl b)=some #v[9,7]:=rfl
theorem zlf {n:Int}:oIsi .list (.int n)=some #v[9,7]:=rfl
theorem zk7 {x:Str}:oIsi .list (.str x)=some #v[9,7]:=rfl
theorem zmr {xs:List W}:oIsi .list (.tup xs)=some #v[9,7]:=rfl
theorem zmy {xs:List W}:oIsi .list (.lst xs)=some #v[9,12]:=rfl
theorem zng:oIsi .list .dic=some #v[9,7]:=rfl
theorem ydc {i j:Bool}:oEq (.bl i) (.bl j)=some (.bl (decide (i=j)),false):=rfl
theorem yd7 {i j:Bool}:oNe (.bl i) (.bl j)=some (.bl (!decide (i=j)),false):=rfl
theorem yeo {i j:Str}:oEq (.str i) (.str j)=some (.bl (decide (i=j)),false):=rfl
theorem yc9 {i j:Str}:oNe (.str i) (.str j)=some (.bl (!decide (i=j)),false):=rfl
theorem yer {i j:Bool}:oIs (.bl i) (.bl j)=some (.bl (decide (i=j)),false):=rfl
theorem z9d {f:List Bool->Bool}{bs:List Bool}:oBl f [.lst (bs.map W.bl)]=some (.bl (f bs),false):=by
 show (zom (bs.map W.bl)).bind _=_;rw[znh];rfl
theorem zhl {cap:Cap}{it:GL}{te:GE}{en e0:En}{ws rs:List W}{xs:En} (hi:it en=some (e0,ws)) (hz:ws.length<=1000) (hl:rs.length=ws.length) (hn:zcp cap=true) (hk:(capKeep cap).contains 1=false) (hx:zgh cap e0=none::none::xs) (hb:∀v0 v1,zbm cap e0 (v0::v1::xs)=e0)
  (ht:∀(i:Nat) v0 w r,ws[i]?=some w->rs[i]?=some r->∃u f,te (v0::#v[w,6]::xs)=some (v0::u::xs,(r,f))) :
  zb5 cap (.nm 1) it gYes te en=some (e0,(.lst rs,true)):=by
 have s9:(1000:Nat)<=sizeLine:=by decide
 obtain⟨ce',out,hc,hp⟩:=zer (cap:=cap) (T:=.nm 1) (tc:=gYes) (te:=te) (λi c dn=>(∃v0 v1,c=v0::v1::xs)/\dn=rs.take i) hi hn #v[] ⟨⟨_,_,hx⟩,rfl⟩
  (λi w c dn hw hp=>by
   obtain⟨⟨v0,v1,rfl⟩,rfl⟩:=hp;have lt:i<ws.length:=(Aj.mp hw).1;have hr:rs[i]?=some rs[i]:=Aa #v[];obtain⟨u,f,h⟩:=ht i v0 w _ hw hr;refine⟨v0::#v[w,6]::xs,?_,.inl ⟨_,_,_,rfl,h,⟨_,_,rfl⟩,?_⟩⟩
   ·show (if (capKeep cap).contains 1 || !decide (1<(v0 :: v1 :: xs).length) then none else _) = _;rw[hk,Af (by rw[Ay,Ay];omega)]
    rfl
   ·show rs.take i ++ [rs[i]] = rs.take (i + 1);rw[Df,hr];rfl)
 obtain⟨⟨v0,v1,rfl⟩,rfl⟩:=hp;rw[hb,<-hl,Cb] at hc;exact hc
theorem zas {T:List Fd}{bn:List Str}{d:Nat}{x:Str}{t:Fd}{g:GS}(h:T.find? (·.nm == x)=some t)(hb:zai T bn (sem T bn (d+2)) (d+2) t=some g):sem T bn (d+3) x=zac t.m t.N.length g:=by
 show (match T.find? (·.nm == x) with|some t=>fnAt T bn (sem T bn (d+2)) (d+2) t|none=>λ_=>none)=_;rw[h];show fnAt T bn (sem T bn (d+2)) (d+2) t=_;unfold fnAt;rw[hb]
noncomputable def evA:=And.intro @oI_e ( And.intro @z8e ( And.intro @zv4 ( And.intro @zpq ( And.intro @zyt ( And.intro @z0x ( And.intro @z1e ( And.intro @ycw ( And.intro @ybd ( And.intro @yax ( And.intro @ydz ( And.intro @ycq ( And.intro @ydc ( And.intro @yd7 ( And.intro @yeo ( And.intro @yc9 ( And.intro @yer ( And.intro @z9d ( And.intro @zzm ( And.intro @z1k ( And.intro @z7x ( And.intro @z4w ( And.intro @z7s ( And.intro @z79 ( And.intro @yaj ( And.intro @z88 ( And.intro @z9h ( And.intro (λΦ as en=>zdj [false] Φ as en rfl) ( And.intro (λΦ as en=>zdj [false,false] Φ as en rfl) ( And.intro (λΦ as en=>zdj [false,false,false] Φ as en rfl) ( And.intro (λΦ as en=>zdj [false,false,false,false] Φ as en rfl) ( And.intro (λΦ as en=>zd7 [] Φ as en rfl) ( And.intro (λΦ as en=>zd7 [false] Φ as en rfl) ( And.intro (λΦ as en=>zd7 [false,false] Φ as en rfl) ( And.intro (λΦ as en=>zd7 [false,false,false] Φ as en rfl) ( And.intro @yeb ( And.intro @yc8 ( And.intro @yd4 ( And.intro @Fy ( And.intro @zno ( And.intro @zsa ( And.intro @zou ( And.intro @zoj ( And.intro @znw ( And.intro @zpl ( And.intro @zn3 ( And.intro @zk3 ( And.intro @zof ( And.intro @zm2 ( And.intro @zmj ( And.intro @zmi ( And.intro @zm1 ( And.intro @zm5 ( And.intro @zpo ( And.intro @zsr ( And.intro @zpg ( And.intro @zo1 ( And.intro @zol ( And.intro @znn ( And.intro @zoy ( And.intro @zjx ( And.intro @zkw ( And.intro @zkv ( And.intro @zkg ( And.intro @zj6 ( And.intro @zj8 ( And.intro @zjc ( And.intro @zmo ( And.intro @zpm ( And.intro @zlf ( And.intro @zk7 ( And.intro @zmr ( And.intro @zmy ( And.intro @zng ( And.intro @zyr ( And.intro @Option.bind_some.{0,0} ( And.intro @Option.bind_none.{0,0} ( And.intro @List.length_cons.{0} ( And.intro @List.length_nil.{0} ( And.intro @List.getElem?_cons_zero.{0} ( And.intro @List.getElem?_cons_succ.{0} ( And.intro @List.set_cons_zero.{0} ( And.intro @List.set_cons_succ.{0} ( And.intro @List.nil_append.{0} ( And.intro @List.cons_append.{0} ( And.intro @List.contains_nil.{0} ( And.intro @Bool.false_or ( And.intro @Bool.or_false ( And.intro @Bool.not_true ( And.intro @Gq ( And.intro @Dc ( And.intro @Nat.lt_add_one ( And.intro @Nat.zero_lt_succ ( And.intro @decide_true ( And.intro @decide_false ( And.intro @Bp ( And.intro @List.elem_nil.{0} ( And.intro @List.elem_cons.{0} ( And.intro @Et ( And.intro @Bool.true_eq_false ( And.intro @Bool.or_self ( And.intro @Bool.and_self ( And.intro @Bool.true_and ( And.intro @Ek ( And.intro @Ga ( And.intro @Bool.and_false ( And.intro @Bool.true_or ( And.intro @Bool.or_true ( And.intro @Co ( And.intro @gVar.eq_1 ( And.intro @zaa.eq_1 ( And.intro @gC.eq_1 ( And.intro @gArg.eq_1 ( And.intro @gA0.eq_1 ( And.intro @gCns.eq_1 ( And.intro @gOp1.eq_1 ( And.intro @gOp2.eq_1 ( And.intro @gOpN.eq_1 ( And.intro @zad.eq_1 ( And.intro @gAnd.eq_1 ( And.intro @gOr.eq_1 ( And.intro @gNot.eq_1 ( And.intro @zih.eq_1 ( And.intro @gOrT.eq_1 ( And.intro @zbu.eq_1 ( And.intro @gIf.eq_1 ( And.intro @zab.eq_1 ( And.intro @zag.eq_1 ( And.intro @zis.eq_1 ( And.intro @zao.eq_1 ( And.intro @zcc.eq_1 ( And.intro @gSl.eq_1 ( And.intro @zaz.eq_1 ( And.intro @za8.eq_1 ( And.intro @yc6.eq_1 ( And.intro @gRev.eq_1 ( And.intro @zau.eq_1 ( And.intro @gBrk.eq_1 ( And.intro @gCnt.eq_1 ( And.intro @gSeq.eq_1 ( And.intro @gRet.eq_1 ( And.intro @yeh.eq_1 ( And.intro @gIfS.eq_1 ( And.intro @zdk.eq_1 ( And.intro @gSet.eq_1 ( And.intro @gAsg.eq_1 ( And.intro @gPar.eq_1 ( And.intro @za7.eq_1 ( And.intro @gApp.eq_1 ( And.intro @gExt.eq_1 ( And.intro @gAug.eq_1 ( And.intro @gYes.eq_1 ( And.intro @zct.eq_1 ( And.intro @gZip.eq_1 ( And.intro @zg0.eq_1 ( And.intro @zac.eq_1 ( And.intro @z02.eq_1 (@z5d.eq_1)))))))))))))))))))))))))))))))))))))))))))))))))))))))))))))))))))))))))))))))))))))))))))))))))))))))))))))))))))))))))))))))))))))))))))))))))))))))))))))
end L2
local macro_rules | `(tactic| simp! [$xs,*])=>`(tactic| simp only [L2.evA,L2.tgSet,L2.keyW,L2.oNeg,L2.oLen,L2.setAll,List.replicate,List.contains,eq_self,Nat.reduceAdd,Nat.reduceSub,Nat.reduceLT,Nat.reduceLeDiff,reduceIte,reduceCtorEq,Nat.reduceEqDiff,Nat.reduceBEq,↓reduceIte,Int.reduceEq,Int.reduceLE,Int.reduceLT,Int.reduceAdd,Int.reduceSub,Int.reduceMul,Int.reduceNeg,$xs,*])
namespace L2
open PySem PySem.Spec PyProof.Rows
noncomputable def zfm (Ψ:Str->Fn):GE:=zb5 [none,none,some 2] (.nm 1) (zaz (gVar 1)) gYes (gOp2 oEq (gArg (gOp2 #v[0,0,2] (gArg (gOp2 #v[0,0,3] (zaa 2) (gArg (gOp2 #v[0,0,1] #v[1] (zaa 1))))) #v[2])) #v[1])
noncomputable def zfz (Ψ:Str->Fn):GE:=zb5 [none,none,some 3] (.nm 1) (zaz (gVar 1)) (zad (gOpN (oBl λbs=>bs.all id) (gCns (gArg (zfm Ψ)) gA0))) (gVar 1)
noncomputable def zei (Ψ:Str->Fn):GS:=(gSeq (gSet [] 4 (zfz Ψ)) (zdk (gApp 2 (gOp2 #v[0,0,2] (gArg (gOpN oLen (gCns (zaa 4) gA0))) #v[2]))))
noncomputable def zfs (Ψ:Str->Fn):GS:=gFor [] (.nm 3) (za8 (gCns (gArg (gOp2 #v[0,0,1] #v[1] (zaa 0))) gA0)) (zei Ψ)
noncomputable def zk5 (Ψ:Str->Fn):GS:=(gSeq (gSet [] 2 (zag gA0)) (gSeq (zfs Ψ) (zct [] 2)))
noncomputable def tmW (t:List Nat):W:=.tup (t.map λl=>.int (l:Nat))
noncomputable def zud:Nat->Nat->Nat->Nat->List (List Nat)
 |_,_,_,0=>[[]]
 |0,_,_,_+1=>[]
 |fu+1,lo,m,k+1=>(if lo<m then (zud fu (lo+1) m k).map (lo :: ·)++zud fu (lo+1) m (k+1) else [])
noncomputable def zem (m most:Nat):List (List Nat):=(List.range (most+1)).flatMap λk=>zud (m+1) 0 m k
theorem zyh {α:Type}{cap:Cap}{it:GL}{tc:GT}{te:GE}{en e0:En}{ts:List α}{xs:En} (f:α->W) (p:α->Bool) (g:α->W) (hi:it en=some (e0,ts.map f)) (hz:ts.length<=1000) (hn:zcp cap=true) (hk:(capKeep cap).contains 1=false) (hx:zgh cap e0=none::none::xs) (hb:∀v0 v1,zbm cap e0 (v0::v1::xs)=e0)
    (ht:∀v0 a,a∈ts->∃u,tc (v0::#v[f a,6]::xs)=some (v0::u::xs,p a)/\(p a=true->∃u' b,te (v0::u::xs)=some (v0::u' :: xs,(g a,b)))) :
    zb5 cap (.nm 1) it tc te en=some (e0,(.lst ((ts.filter p).map g),true)):=by
  have s9:(1000:Nat)<=sizeLine:=by decide
  obtain ⟨ce',out,hc,hp⟩:=zer (cap:=cap) (T:=.nm 1) (tc:=tc) (te:=te) (fun i c dn=>(∃v0 v1,c=v0::v1::xs)/\dn=((ts.take i).filter p).map g) hi hn (by rw [Ae];omega) ⟨⟨_,_,hx⟩,rfl⟩
    (fun i w c dn hw hp=>by
      obtain⟨⟨v0,v1,rfl⟩,rfl⟩:=hp;rw[An] at hw;cases ha:ts[i]? with
      |none=>rw[ha] at hw;exact noSome hw
      | some a =>
        rw[ha] at hw;obtain rfl:=sI hw;obtain⟨u,h1,h2⟩:=ht v0 a (Av ha);have tk:ts.take (i+1)=ts.take i++[a]:=by rw[Df,ha];rfl
        refine⟨v0::#v[f a,6]::xs,?_,?_⟩
        · show (if (capKeep cap).contains 1 || !decide (1 < (v0 :: v1 :: xs).length) then none else _) = _
          rw[hk,Af (by rw[Ay,Ay];omega)]
          rfl
        · cases q : p a with
          | true =>
            obtain⟨u',b,h3⟩:=h2 q;rw[q] at h1;refine .inl ⟨_,_,_,h1,h3,⟨_,_,rfl⟩,?_⟩;rw[tk,Dv,Cs,Fm q];rfl
          | false =>
            rw[q] at h1;refine .inr ⟨_,h1,⟨_,_,rfl⟩,?_⟩;rw[tk,Dv,Fo (by rw[q];decide),Dm,By])
  obtain⟨⟨v0,v1,rfl⟩,rfl⟩:=hp;rw[hb,Ae,Cb] at hc;exact hc
theorem zez {a:GA}{en e1:En}{n:Nat}(h:a en=some (e1,.inl (.int (n:Nat))))(hn:n<=1000000):za8 (gCns a gA0) en=some (e1,rngW 0 n):=by
 have r:zdo (n:Int)=true:=by
  unfold zdo;rw[Af #v[],Af #v[]];rfl
 have h2:gCns a gA0 en=some (e1,[.inl (.int (n:Nat))]):=by unfold gCns;rw[h];rfl
 have:=zwm h2 rfl r;rw[Co] at this;exact this
theorem pow1 {l:Nat}(h:l<=100):cPow 1 (l:Int)=true:=by
 unfold cPow;rw[Af #v[],Af #v[]];rfl
theorem one_mul_pow (l:Nat):(1:Int) * 2 ^ l=((2 ^ l:Nat):Int):=by rw[Int.one_mul];norm_cast
theorem z0n (l:Nat):(((2 ^ l:Nat):Int)).natAbs.log2=l:=by
 rw[Int.natAbs_natCast];exact Nat.log2_two_pow
theorem divP {p:Int}{l:Nat}(h:l<=100):cDiv p ((2 ^ l:Nat):Int)=true:=by
 unfold cDiv;have:0<2 ^ l:=Gc #v[0,9];rw[Af #v[],Af (by rw[z0n];omega)];rfl
noncomputable def hasT (t:List Nat) (p:Nat):Bool:=t.all λl=>decide (p / 2 ^ l % 2=1)
noncomputable def valF (ts:List (List Nat)) (p:Nat):Int:=(((ts.filter λt=>hasT t p).length % 2:Nat):Int)
theorem c1v {Ψ:Str->Fn}{v0:Option (W × Bool)}{t:List Nat}{p:Nat} (h6:∀l∈t,l < 64) (hl:t.length<=64):zfm Ψ [v0,some (tmW t,false),some (.int (p:Nat),false)]=some ([v0,some (tmW t,false),some (.int (p:Nat),false)],(.lst ((t.map fun l=>decide (p / 2 ^ l % 2=1)).map W.bl),true)):=by
  unfold zfm;refine zhl (xs:=[#v[(p:Nat),0]]) (e0:=[v0,#v[tmW t,6],#v[(p:Nat),0]]) (ws:=t.map λl=>.int (l:Nat)) (by unfold tmW;simp! []) (by rw[Ae];omega) (by rw[Ae,Ae,Ae]) rfl rfl rfl (λ_ _=>rfl) λi v0 w r hw hr=>?_;rw[An] at hw;rw[An,An] at hr;cases ha:t[i]? with
  |none=>rw[ha] at hw;exact noSome hw
  | some l =>
    rw [ha] at hw hr;obtain rfl:=sI hw;obtain rfl:=sI hr;have ll:=h6 l (Av ha);have e1:=pow1 (l:=l) (by omega);have e2:=divP (p:=(p:Int)) (l:=l) (by omega);have e3:((p:Int) / ((2 ^ l:Nat):Int) % 2=1)=(p / 2 ^ l % 2=1):=by
      rw[<-Int.natCast_ediv];apply propext;constructor<;>intro h<;>omega
    refine⟨#v[(l:Nat),0],false,?_⟩;simp! [e1,one_mul_pow,e2,e3]
theorem zcs {m:Nat}(h:m<=6):2 ^ m<=64:=Cg #v[0,9] h
theorem i3v {m:Nat}{b c d e:Option (W × Bool)}(hm:m<=6):za8 (gCns (gArg (gOp2 #v[0,0,1] #v[1] (zaa 0))) gA0) [#v[(m:Nat),0],b,c,d,e]=some ([#v[(m:Nat),0],b,c,d,e],rngW 0 (2 ^ m)):=by
 have p6:=zcs hm;have e1:=pow1 (l:=m) #v[];refine zez ?_ #v[];simp! [e1,one_mul_pow]
theorem zwx {n q:Nat}(h:q<n):ixN n (q:Int)=some q:=by
 unfold ixN;rw[if_pos #v[],if_pos #v[],Co]
theorem zld {α:Type}(f:α->PyData):∀l:List α,PyData.shownAll (l.map f)=l.map λx=>(f x).shown
 |[]=>rfl
 |x::l=>by rw[Bd,PyData.shownAll,zld f l];rfl
theorem ziw {α:Type}{c:Nat} (f:α->PyData):∀l:List α,(∀x∈l,(f x).depth<=c)->PyData.depthAll (l.map f)<=c
  |[],_=>Ca _
  | x::l,h=>by
    rw[Bd,PyData.depthAll];have:=h x (Au ..);have:=ziw f l λy hy=>h y (Aq _ hy);omega
theorem zi3 {α:Type}(f:α->PyData):∀l:List α,(∀x∈l,(f x).canLay0=true)->PyData.canLayAll0 (l.map f)=true
 |[],_=>rfl
 |x::l,h=>by rw[Bd,PyData.canLayAll0,h x (Au ..),zi3 f l λy hy=>h y (Aq _ hy)];rfl
theorem zw1 {α:Type}(f:α->W)(g:α->PyData)(h:∀x,dW (f x)=some (g x)):∀l:List α,dWs (l.map f)=some (l.map g)
 |[]=>rfl
 |x::l=>by rw[Bd,dWs,h x,zw1 f g h l];rfl
noncomputable def zot (n:Int):Prop:=n.natAbs.log2<1920
theorem z17 {n:Int}{k:Nat}(h:n.natAbs<2 ^ k)(hk:k<=1919):zot n:=by
 unfold zot;by_cases z:n.natAbs=0
 ·rw[z];decide
 ·have:=(Nat.log2_lt z).mpr h;omega
theorem and1 {a:Int}(h:0<=a):Builtin.bitAnd a 1=a % 2:=by
 have b:Bit (a % 2):=by unfold Bit;omega
 have s:=zgn (a:=a / 2) (b:=0) #v[] (Int.le_refl 0) b (show Bit 1 from .inr rfl);rw[bitAnd_zero] at s;have e:(2 * 0+1:Int)=1:=rfl;have e2:2 * (a / 2)+a % 2=a:=by omega
 rw[e,e2] at s;rw[s];omega
theorem zg9 {xs:List Int}(h:Bits xs)(p:Nat):wordOf xs / 2 ^ p % 2=xs.getD p 0:=by
 rw[<-zex p xs h,and1 (Int.ediv_nonneg (zc7 h) (Int.pow_nonneg #v[0,9]))]
noncomputable def z45 (Φ:Fn):Prop:=∀(a:Int) (p:Nat),0<=a->Φ [.int a,.int (p:Nat)]=some ([.int a,.int (p:Nat)],(.int (a / 2 ^ p % 2),false))
theorem zzg (Ψ:Str->Fn):z45 (zac [false,false] 2 (zth Ψ)):=λa p h=>by
 have e:=and1 (a:=a / 2 ^ p) (Int.ediv_nonneg h (Int.pow_nonneg #v[0,9]));have z:(0<=(p:Int))=True:=eq_true #v[];unfold zth;simp! [z,e]
theorem z5q {n a:Nat}{f:Nat->Int}{v:Int}:(tab n f).set a v=tab n λq=>if q=a then v else f q:=by
 apply Ee;intro q;by_cases hq:q<n
 ·rw[tab_get hq,List.getElem?_set,tab_len];by_cases e:a=q
  ·subst e;rw[if_pos rfl,if_pos hq,if_pos rfl]
  ·rw[if_neg e,if_neg (λz=>e z.symm),tab_get hq]
 ·rw[Cf (by rw[Di,tab_len];omega),Cf (by rw[tab_len];omega)]
noncomputable def linL (m p q:Nat):List Nat:=(List.range m).filter λl=>decide (p / 2 ^ l % 2=1) && decide (q / 2 ^ l % 2=1)
noncomputable def lin (m p q:Nat):Int:=(((linL m p q).length % 2:Nat):Int)
theorem zjp {xs:List Int}(h:Bits xs)(q:Nat):Bit (xs.getD q 0):=by
 rw[Ba];cases e:xs[q]? with
 |none=>exact .inl rfl
 |some x=>exact h x (Av e)
noncomputable def zfy (Ψ:Str->Fn):GE:=zb5 [none,none] (.nm 1) (zaz (gVar 1)) gYes (gCall [false] (Ψ "word_at") #v[2,9])
noncomputable def ziy (Ψ:Str->Fn):GS:=(gSeq (gSet [] 2 (gCall [false] (Ψ "word_at") (gCns (gArg (zfy Ψ)) gA0))) (gRet (gOp2 oIx (gArg (gCall [false,false] (Ψ "steps") (gCns #v[0,4] (gCns #v[2,4] gA0)))) (zaa 0))))
theorem seq_e {a b:GS}{en e1:En}{r:Option (En × Fl)}(h1:a en=some (e1,.nx))(h2:b e1=r):gSeq a b en=r:=(seq_nx h1).trans h2
noncomputable def bitF (p i:Nat):Int:=((p / 2 ^ i % 2:Nat):Int)
theorem bitF_word:∀p:Fin 64,wordOf (tab 6 (bitF p.val))=(p.val:Int):=by decide +kernel
theorem bitF_bit (p i:Nat):Bit (bitF p i):=by unfold bitF Bit;omega
theorem bitF_hi {p n i:Nat}(h:p<2 ^ n)(hi:n<=i):bitF p i=0:=by
 unfold bitF;rw[Nat.div_eq_of_lt (Aw h (Cg #v[0,9] hi))];rfl
noncomputable def letL (p:Nat):List Nat:=dueL (bitF p) 6
noncomputable def zbw (t:List Nat):Nat:=(t.map λl=>2 ^ l).sum
theorem zec:∀p:Fin 64,zbw (letL p.val)=p.val:=by decide +kernel
theorem z6v:∀q p:Fin 64,hasT (letL q.val) p.val=(q.val &&& p.val == q.val):=by decide +kernel
theorem ziq:∀m:Fin 7,((List.range (2 ^ m.val)).map letL).isPerm (zem m.val m.val)=true:=by decide +kernel
noncomputable def duT (m:Nat) (f:Nat->Int):List (List Nat):=(zem m m).filter λt=>decide (zj7 f (zbw t)=1)
noncomputable def plL (m:Nat) (f:Nat->Int):List Nat:=(List.range (2 ^ m)).filter λq=>decide (zj7 f q=1)
theorem ydp {m:Nat}(f:Nat->Int)(hm:m<=6):((plL m f).map letL).Perm (duT m f):=by
 have p6:=zcs hm;have p:=(List.isPerm_iff.mp (ziq ⟨m,by omega⟩)).filter λt=>decide (zj7 f (zbw t)=1);rw[List.filter_map] at p;have e:(List.range (2 ^ m)).filter ((λt=>decide (zj7 f (zbw t)=1)) ∘ letL)=plL m f:=List.filter_congr λq hq=>by
  show decide (zj7 f (zbw (letL q))=1)=_;have:=Bh.mp hq;rw[zec ⟨q,by omega⟩]
 rw[e] at p;exact p
theorem zk2 {m:Nat}{t:List Nat}(hm:m<=6)(h:t∈zem m m):∃q,q<2 ^ m/\t=letL q:=by
 have:=(List.isPerm_iff.mp (ziq ⟨m,by omega⟩)).mem_iff.mpr h;obtain⟨q,hq,rfl⟩:=Bw.mp this;exact⟨q,Bh.mp hq,rfl⟩
theorem z60 {m:Nat}{t:List Nat}(hm:m<=6)(h:t∈zem m m):zbw t<2 ^ m:=by
 have p6:=zcs hm;obtain⟨q,hq,rfl⟩:=zk2 hm h;rw[zec ⟨q,by omega⟩];exact hq
noncomputable def znp (Φ:Fn):Prop:=∀(n:Nat) (M:List Nat),n<=64->(∀p∈M,p<n)->Φ [.lst (castL M)]=some ([.lst (castL M)],(.int (wordOf (tab n λi=>if i∈M then 1 else 0)),false))
theorem zg4 (Ψ:Str->Fn):znp (zac [false] 3 (zmc Ψ)):=λn M hn hM=>by
 have z0:(wordOf (tab n λi=>if i∈M.take 0 then 1 else 0))=0:=by
  have:(tab n λi=>if i∈M.take 0 then (1:Int) else 0)=List.replicate n 0:=by
   rw[<-zeh];exact tab_ext λi _=>if_neg (by rw[De];exact Ei)
  rw[this,zc0]
 obtain⟨en',hl,hp⟩:=zav (mp:=[]) (T:=(.nm 2)) (it:=(zaz (gVar 0))) (body:=(gAug [] (oI yes2 λi j=>.int (Builtin.bitOr i j)) 1 (gArg (gOp2 #v[0,0,1] #v[1] (zaa 2)))))
  (λj e=>∃v2,e=[#v[(castL M),1],#v[(wordOf (tab n λi=>if i∈M.take j then 1 else 0)),0],v2]) (en:=[#v[(castL M),1],#v[0,0],none]) (e0:=[#v[(castL M),1],#v[0,0],none]) (ws:=castL M) rfl ⟨none,by rw[z0]⟩
  (by
   rintro j w e hw ⟨v2,rfl⟩;obtain⟨p,hp,rfl⟩:=zbn hw;have pn:p<n:=hM p (Av hp);have ow:=zti (n:=n) (p:=p) (f:=λi=>if i∈M.take j then 1 else 0) (λi=>by show Bit (if _ then _ else _);split<;>first|exact .inr rfl|exact .inl rfl) pn;have e2:(tab n λi=>if i=p then (1:Int) else if i∈M.take j then 1 else 0)=tab n λi=>if i∈M.take (j+1) then 1 else 0:=tab_ext λi _=>by
    have m:i∈M.take (j+1)↔(i∈M.take j\/i=p):=by
     rw[Df,hp,Bf];show _\/i∈[p]↔_;rw[Ap]
    by_cases c:i=p
    ·rw[if_pos c,if_pos (m.mpr (.inr c))]
    ·rw[if_neg c];by_cases c2:i∈M.take j
     ·rw[if_pos c2,if_pos (m.mpr (.inl c2))]
     ·rw[if_neg c2,if_neg (λq=>(m.mp q).elim c2 c)]
   rw[e2] at ow;have pw:(1 * 2 ^ ((p:Nat):Int).toNat:Int)=1 * 2 ^ p:=rfl;refine⟨[#v[(castL M),1],#v[(wordOf (tab n λi=>if i∈M.take j then 1 else 0)),0],#v[(p:Nat),0]],[#v[(castL M),1],#v[(wordOf (tab n λi=>if i∈M.take (j+1) then 1 else 0)),0],#v[(p:Nat),0]],rfl,.inl (z2m (w:=.int (wordOf (tab n λi=>if i∈M.take j then 1 else 0))) (u:=.int (1 * 2 ^ p)) rfl (arg_0 (r:=(.int (1 * 2 ^ p),false)) (op2_0 (x:=.inl (.int 1)) (y:=.inl (.int (p:Nat))) rfl rfl rfl rfl (oI_t (zl1 #v[] #v[] #v[0,9])))) rfl ?_ rfl),_,rfl⟩;show some (W.int (Builtin.bitOr (wordOf (tab n λi=>if i∈M.take j then 1 else 0)) (1 * 2 ^ p)),false)=_;rw[ow])
 obtain⟨v2,rfl⟩:=hp;rw[zaj,Cb] at hl;exact fn_ret rfl ((seq_nx (e1:=[#v[(castL M),1],#v[0,0],none]) rfl).trans ((seq_nx hl).trans rfl)) rfl
noncomputable def indF (M:List Nat) (i:Nat):Int:=if i∈M then 1 else 0
theorem zx4 (M:List Nat)(i:Nat):Bit (indF M i):=by unfold indF;split<;>first|exact .inr rfl|exact .inl rfl
theorem zv9 {M:List Nat}{x:Nat} (hx:x ∉ M):∀{S:List Nat},S.Nodup->(S.map (indF (x::M))).sum=(S.map (indF M)).sum+(if x∈S then 1 else 0)
  |[],_=>rfl
  | q::S,h=>by
    have ih:=zv9 hx (Cr.mp h).2;rw[Bd,List.sum_cons,Bd,List.sum_cons,ih];by_cases e:q=x
    · subst e
      have n1:q ∉ S:=(Cr.mp h).1;have a:indF (q::M) q=1:=by unfold indF;rw[if_pos Au]
      have b:indF M q=0:=by unfold indF;rw[if_neg hx]
      rw[a,b,if_neg n1,if_pos Au];omega
    · have a:indF (x::M) q=indF M q:=by
        unfold indF;by_cases c:q∈M
        · rw[if_pos c,if_pos (Aq _ c)]
        · rw[if_neg c,if_neg λz=>(At.mp z).elim e c]
      rw[a];by_cases c:x∈S
      · rw[if_pos c,if_pos (Aq _ c)];omega
      · rw[if_neg c,if_neg λz=>(At.mp z).elim (λz=>e z.symm) c];omega
theorem zq9 {S:List Nat} (hS:S.Nodup):∀{ts:List (List Nat)},(ts.map zbw).Nodup->(S.map (indF (ts.map zbw))).sum=((ts.filter fun t=>decide (zbw t∈S)).length:Nat)
  | [],_=>by
    have:∀L:List Nat,(L.map (indF [])).sum=0:=fun L=>by
      induction L with
      |nil=>rfl
      |cons a l ih=>rw[Bd,List.sum_cons,ih];rfl
    exact this S
  | t::ts,h=>by
    rw[Bd] at h;have h':=Cr.mp h;rw[Bd,zv9 h'.1 hS,zq9 hS h'.2,Dt];by_cases c:zbw t∈S
    · rw[if_pos c,if_pos (Af c),Ay];omega
    · rw[if_neg c,if_neg (by rw[Ak c];exact Ag)];omega
theorem zr9 (p:Nat):(zn4 p).Nodup:=List.nodup_range.filter _
theorem z0d {m p:Nat}{t:List Nat}(hm:m<=6)(ht:t∈zem m m)(hp:p<64):hasT t p=decide (zbw t∈zn4 p):=by
 have p6:=zcs hm;obtain⟨q,hq,rfl⟩:=zk2 hm ht;rw[z6v ⟨q,by omega⟩ ⟨p,hp⟩,zec ⟨q,by omega⟩];show (q &&& p == q)=decide (q∈zn4 p);unfold zn4;by_cases c:q &&& p=q
 ·have : q ≤ p:=by have:=Nat.and_le_right (n:=q) (m:=p); omega
  have h:q∈(List.range (p+1)).filter λo=>o &&& p == o:=Dh.mpr ⟨Bh.mpr #v[],Gn.mpr c⟩;rw[Gn.mpr c,Af h]
 ·have h : ¬ q ∈ (List.range (p + 1)).filter λo=>o &&& p == o:=λz=>c (Gn.mp (Dh.mp z).2);rw[Gi.mpr c,Ak h]
theorem z1a {m:Nat}{t u:List Nat}(hm:m<=6)(ht:t∈zem m m)(hu:u∈zem m m)(e:zbw t=zbw u):t=u:=by
 have p6:=zcs hm;obtain⟨q,hq,rfl⟩:=zk2 hm ht;obtain⟨r,hr,rfl⟩:=zk2 hm hu;rw[zec ⟨q,by omega⟩,zec ⟨r,by omega⟩] at e;have e:q=r:=e;rw[e]
noncomputable def zqy (m:Nat) (ts:List (List Nat)):Prop:=ts.Nodup/\∀t∈ts,t∈zem m m
theorem ziu {m:Nat} (hm:m<=6):∀{ts:List (List Nat)},zqy m ts->(ts.map zbw).Nodup
  |[],_=>List.nodup_nil
  | t::ts,h=>by
    have n:=Cr.mp h.1;rw[Bd];refine Cr.mpr ⟨λz=>?_,ziu hm ⟨n.2,λu hu=>h.2 u (Aq _ hu)⟩⟩;obtain⟨u,hu,e⟩:=Bw.mp z;have:=z1a hm (h.2 u (Aq _ hu)) (h.2 t Au) e;subst this;exact n.1 hu
theorem z0y {m p:Nat}{ts:List (List Nat)}(hm:m<=6)(h:zqy m ts)(hp:p<64):zj7 (indF (ts.map zbw)) p=valF ts p:=by
 unfold zj7 valF;rw[zq9 (zr9 p) (ziu hm h)];have e:(ts.filter λt=>decide (zbw t∈zn4 p))=ts.filter λt=>hasT t p:=List.filter_congr λt ht=>(z0d hm (h.2 t ht) hp).symm;rw[e];omega
theorem zz1:∀q:Fin 64,wordOf (tab 6 λi=>if i∈letL q.val then 1 else 0)=(q.val:Int):=by decide +kernel
theorem zxe:∀q:Fin 64,∀l∈letL q.val,l<6:=by decide +kernel
theorem z5h {Φ:Fn}(hA:zjo Φ){m:Nat}{t:List Nat}(hm:m<=6)(ht:t∈zem m m):Φ [tmW t]=some ([tmW t],(.int (zbw t:Nat),false)):=by
 have p6:=zcs hm;obtain⟨q,hq,rfl⟩:=zk2 hm ht;have e:=hA 6 (letL q) #v[0,9] (zxe ⟨q,by omega⟩);rw[zz1 ⟨q,by omega⟩] at e;rw[zec ⟨q,by omega⟩];exact e
noncomputable def zrc (Φ:Fn):Prop:=∀(m:Nat) (ts:List (List Nat)),m<=6->ts.length<=64->zqy m ts->Φ [.int (m:Nat),.tup (ts.map tmW)]=some ([.int (m:Nat),.tup (ts.map tmW)],(.int (wordOf (tab (2 ^ m) (valF ts))),false))
theorem zr4 {Ψ:Str->Fn} (hA:zjo (Ψ "word_at")) (hL:znp (Ψ "word_at")) (hS:zwg (Ψ "steps")):zrc (zac [false,false] 3 (ziy Ψ)):=fun m ts hm hz h=>by
  have p6:=zcs hm;have c1:zfy Ψ [some (.int (m:Nat),false),some (.tup (ts.map tmW),false),none]=some ([some (.int (m:Nat),false),some (.tup (ts.map tmW),false),none],(.lst (castL (ts.map zbw)),true)):=by
    unfold zfy;refine yas (ws:=ts.map tmW) (by simp! []) (by rw[Ae];omega) (by rw[zaj,Ae,Ae]) λi v0 w r hw hr=>?_;rw[An] at hw;cases ha:ts[i]? with
    |none=>rw[ha] at hw;exact noSome hw
    | some t =>
      rw [ha] at hw;obtain rfl:=sI hw;have er:r=.int (zbw t:Nat):=by
        unfold castL at hr;rw[An,An,ha] at hr;exact (sI hr).symm
      subst er;have e:=z5h hA hm (h.2 t (Av ha));exact⟨#v[tmW t,6],false,by simp! [e]⟩
  have e2:=hL (2 ^ m) (ts.map zbw) p6 fun p hp=>by
    obtain⟨t,ht,rfl⟩:=Bw.mp hp;exact z60 hm (h.2 t ht)
  have s:=hS (m:Int) (indF (ts.map zbw)) (by omega) (by omega) (zx4 _);have r0:rowF (m:Int) (indF (ts.map zbw)) 0=wordOf (tab (2 ^ m) fun i=>if i∈ts.map zbw then 1 else 0):=rfl;rw [r0] at s;have a1:atI ((tab (m+1) (rowF (m:Int) (indF (ts.map zbw)))).map W.int) (m:Int)=some (.int (wordOf (tab (2 ^ m) (valF ts)))):=by
    have e:rowF (m:Int) (indF (ts.map zbw)) m=wordOf (tab (2 ^ m) (valF ts)):=by
      unfold rowF;rw[Co,tab_ext λp hp=>(z4s (zx4 _) hm hp).trans (z0y hm h #v[])]
    rw[<-e];exact zbd (zgk (Nat.lt_succ_self m))
  unfold ziy;refine fn_ret (en:=[#v[(m:Nat),0],#v[(ts.map tmW),3],#v[(wordOf (tab (2 ^ m) λi=>if i∈ts.map zbw then 1 else 0)),0]]) rfl (seq_e (e1:=[#v[(m:Nat),0],#v[(ts.map tmW),3],#v[(wordOf (tab (2 ^ m) λi=>if i∈ts.map zbw then 1 else 0)),0]]) ?_ ?_) rfl
  · simp! [c1,e2]
  · simp! [s,a1]
theorem zrk (m:Nat)(ts:List (List Nat)):Bits (tab (2 ^ m) (valF ts)):=zam λi _=>by unfold valF Bit;omega
theorem z5x (ts:List (List Nat))(p:Nat):Bit (valF ts p):=by unfold valF Bit;omega
theorem yec (c:Int){m:Nat}(hm:m<=6):oMult (.lst [.int c]) (.int ((2 ^ m:Nat):Int))=#v[((tab (2 ^ m) λ_=>c).map W.int),2]:=by
 have p6:=zcs hm;generalize 2 ^ m=z at p6;have line:sizeLine=16777216:=Fy;have tc:tab z (λ_=>c)=List.replicate z c:=by unfold tab;rw[List.map_const',Be]
 rw[zls (xs:=[.int c]) (k:=(z:Int)) (by refine⟨by omega,by omega,?_⟩;show 1 * (z:Int).toNat<=sizeLine;omega),zj0,Co,tc,List.map_replicate]
theorem yel {b n:Nat}(hb:b<=100):∃(i j:Nat),oMin [.int (b:Nat),.int (n:Nat)]=#v[(i:Nat),0]/\oMax [.int 3,.int (i:Nat)]=#v[(j:Nat),0]/\j<=100:=by
 have om:∃i:Nat,oMin [.int (b:Nat),.int (n:Nat)]=#v[(i:Nat),0]/\i<=b:=by
  by_cases c:(n:Int)<b
  ·exact⟨n,by show #v[W.int (if (n:Int)<b then _ else _),6]=_;rw[if_pos c],by omega⟩
  ·exact⟨b,by show #v[W.int (if (n:Int)<b then _ else _),6]=_;rw[if_neg c],by omega⟩
 obtain⟨i,om,hi⟩:=om;have ox:∃j:Nat,oMax [.int 3,.int (i:Nat)]=#v[(j:Nat),0]/\j<=100:=by
  by_cases c:(i:Int) > 3
  ·exact⟨i,by show #v[W.int (if (i:Int) > 3 then _ else _),6]=_;rw[if_pos c],by omega⟩
  ·exact⟨3,by show #v[W.int (if (i:Int) > 3 then _ else _),6]=_;rw[if_neg c];rfl,by omega⟩
 obtain⟨j,ox,hj⟩:=ox;exact⟨i,j,om,ox,hj⟩
theorem z2h {xs:List Int}{n:Nat}(h:xs.length=n):(tab n λi=>xs.getD i 0)=xs:=by
 apply Ee;intro i;by_cases hi:i<n
 ·rw[tab_get hi,Ba,Aa #v[]];rfl
 ·rw[Cf (by rw[tab_len];omega),Cf #v[]]
theorem bit_small {x:Int}(h:Bit x):zot x:=by rcases h with e|e<;>rw[e]<;>exact z17 (k:=1) #v[0,9] #v[0,9]
noncomputable def Ex (g:GE) (en:En) (P:W->Prop):Prop:=∃w fl,g en=some (en,(w,fl))/\P w
noncomputable def Ax (a:GA) (en:En) (P:W->Prop):Prop:=∃x w,a en=some (en,x)/\resA en x=some w/\P w
noncomputable def Xs (as:GAs) (en:En) (n:Nat) (P:W->Prop):Prop:=∃ws:List W,as en=some (en,ws.map Sum.inl)/\ws.length=n/\∀w∈ws,P w
section
variable {en:En}{P Q:W->Prop}
theorem Ex.wk {g:GE}(h:Ex g en P)(q:∀w,P w->Q w):Ex g en Q:=by
 obtain⟨w,fl,e,p⟩:=h;exact⟨w,fl,e,q w p⟩
theorem zhw {g:GE}(h:Ex g en P):Ax (gArg g) en P:=by
 obtain⟨w,fl,e,p⟩:=h;exact⟨.inl w,w,by unfold gArg;rw[e];rfl,rfl,p⟩
theorem ex_c {w:W}(p:P w):Ex (gC w) en P:=⟨w,false,rfl,p⟩
theorem zu3 {i:Nat}{w:W}{fl:Bool}(h:en[i]?=some (some (w,fl)))(p:P w):Ax (zaa i) en P:=by
 cases fl with
 |false=>exact⟨.inl w,w,by unfold zaa;rw[h],rfl,p⟩
 |true=>exact⟨.inr i,w,by unfold zaa;rw[h],by show (match en[i]? with|some (some (w,_))=>some w|_=>none)=_;rw[h],p⟩
theorem zp5 {i:Nat}{w:W}(h:en[i]?=some (#v[w,6]))(p:P w):Ex (gVar i) en P:=⟨w,false,by
 unfold gVar;rw[h];show some (en.set i (#v[w,6]),(w,false))=_;rw[zqs h],p⟩
theorem z23 {o:O2}{a b:GA}{R:W->Prop}(ha:Ax a en P)(hb:Ax b en Q)(h:∀u v,P u->Q v->∃w fl,o u v=some (w,fl)/\R w):Ex (gOp2 o a b) en R:=by
 obtain⟨x,u,e1,r1,p⟩:=ha;obtain⟨y,v,e2,r2,q⟩:=hb;obtain⟨w,fl,e3,r⟩:=h u v p q;exact⟨w,fl,by unfold gOp2;rw[e1];show (b en).bind _=_;rw[e2];show (resA en x).bind _=_;rw[r1];show (resA en y).bind _=_;rw[r2];show (o u v).bind _=_;rw[e3];rfl,r⟩
theorem z3q {as bs:List W} (h:as.length+bs.length<=1000):oAdd (.tup as) (.tup bs)=some (.tup (as++bs),false):=by
  have s9:(1000:Nat)<=sizeLine:=by decide
  cases as with
  |nil=>rfl
  | cons a as =>
    show (match (if (a::as).length+bs.length<=sizeLine then #v[W.tup (a::as++bs),6] else none) with|some p=>some p|none=>_)=_;rw[if_pos #v[]]
theorem xs_0:Xs gA0 en 0 P:=⟨[],rfl,rfl,λw h=>by cases h⟩
theorem xs_c {g:GE}{as:GAs}{n:Nat}(h:Ex g en P)(hs:Xs as en n P):Xs (gCns (gArg g) as) en (n+1) P:=by
 obtain⟨w,fl,e,p⟩:=h;obtain⟨ws,e2,l,q⟩:=hs;refine⟨w::ws,?_,by rw[Ay,l],λx hx=>?_⟩
 ·unfold gCns gArg;rw[e];show (as en).bind _=_;rw[e2];rfl
 ·rcases At.mp hx with rfl|hx
  ·exact p
  ·exact q x hx
theorem zha {as:GAs}{n:Nat}(h:Xs as en n P)(hn:n<=1000):∃ws,zag as en=some (en,(.lst ws,true))/\ws.length=n/\∀w∈ws,P w:=by
 have s9:(1000:Nat)<=sizeLine:=by decide
 obtain⟨ws,e,l,q⟩:=h;refine⟨ws,?_,l,q⟩;unfold zag;rw[e];show (zbh (ws.map Sum.inl)).bind _=_;rw[zce];show (if ws.length<=sizeLine then _ else none)=_;rw[if_pos #v[]]
end
noncomputable def isI:W->Option Int
 |.int i=>some i
 |_=>none
noncomputable def zb8:W->Bool
 |.int _=>true
 |_=>false
set_option maxHeartbeats 2000000
section
variable {κ:Type} [DecidableEq κ] {f:κ->DKey}
end
noncomputable def tp (w:Nat):Nat:=w.log2
theorem zix {a b:GS}{en e1:En}{r:Option (En × Fl)}(h1:a en=some (e1,.nx))(h2:b e1=r):gSeq a b en=r:=(seq_nx h1).trans h2
theorem zdy {w:Nat}(h:w≠0):w.testBit (tp w)=true:=Nat.testBit_log2 h
theorem zm9 {w i:Nat}(h:w.testBit i=true):i<=tp w:=by
 have hw:w≠0:=λz=>by rw[z,Ck] at h;exact Ag h
 exact (Nat.le_log2 hw).mpr (Nat.ge_two_pow_of_testBit h)
theorem ztt {w i:Nat}(h:tp w<i):w.testBit i=false:=by
 cases q:w.testBit i with
 |false=>rfl
 |true=>have:=zm9 q;omega
theorem yaq {w t:Nat}(h:w.testBit t=true)(h2:∀i,t<i->w.testBit i=false):tp w=t:=by
 have a:=zm9 h;have hw:w≠0:=λz=>by rw[z,Ck] at h;exact Ag h
 rcases Nat.lt_or_ge t (tp w) with c|c
 ·have:=h2 _ c;rw[zdy hw] at this;exact absurd this.symm Ag
 ·omega
noncomputable def sel:List Nat->Nat->Nat
 |[],_=>0
 |b::B,w=>(if w.testBit (tp b) then b else 0) ^^^ sel B w
noncomputable def RB (B:List Nat):Prop:=(∀b∈B,b≠0)/\B.Pairwise λa b=>a.testBit (tp b)=false/\b.testBit (tp a)=false
theorem RB.tail {b:Nat}{B:List Nat}(h:RB (b::B)):RB B:=⟨λx hx=>h.1 x (Aq _ hx),(Ci.mp h.2).2⟩
theorem RB.two {B:List Nat} (h:RB B) {a b:Nat} (ha:a∈B) (hb:b∈B) (ne:a≠b):a.testBit (tp b)=false:=by
  induction B with
  |nil=>cases ha
  | cons x B ih =>
    have hp:=Ci.mp h.2;rcases At.mp ha with rfl|ha
    · rcases At.mp hb with rfl | hb
      · exact absurd rfl ne
      · exact (hp.1 b hb).1
    · rcases At.mp hb with rfl | hb
      · rename_i ha'
        exact (hp.1 a (by assumption)).2
      · exact ih h.tail ha hb
theorem sel_no {t w:Nat}:∀{B:List Nat},(∀b∈B,b.testBit t=false)->(sel B w).testBit t=false
  |[],_=>Ck t
  | b::B,h=>by
    show ((if w.testBit (tp b) then b else 0) ^^^ sel B w).testBit t=false;rw[Bx,sel_no λx hx=>h x (Aq _ hx)];have hb:=h b Au;split
    · rw[hb];rfl
    · rw[Ck];rfl
theorem sel_bit {w:Nat}:∀{B:List Nat},RB B->∀b∈B,(sel B w).testBit (tp b)=w.testBit (tp b)
  |[],_,b,hb=>by cases hb
  | a::B,h,b,hb=>by
    have hp:=Ci.mp h.2;show ((if w.testBit (tp a) then a else 0) ^^^ sel B w).testBit (tp b)=_;rw[Bx];rcases At.mp hb with rfl|hb
    · rw [sel_no fun x hx => (hp.1 x hx).2, Bool.xor_false]
      cases q:w.testBit (tp b) with
      |true=>rw[if_pos rfl];exact zdy (h.1 b Au)
      |false=>rw[if_neg Ag];exact Ck _
    · rw [sel_bit h.tail b hb]
      have:=(hp.1 b hb).1;split
      · rw[this,Bool.false_xor]
      · rw[Ck,Bool.false_xor]
theorem zwk (u v:Nat):∀B:List Nat,sel B (u ^^^ v)=sel B u ^^^ sel B v
  |[]=>(Do 0).symm
  | b::B=>by
    show (if (u ^^^ v).testBit (tp b) then b else 0) ^^^ sel B (u ^^^ v)=((if u.testBit (tp b) then b else 0) ^^^ sel B u) ^^^ ((if v.testBit (tp b) then b else 0) ^^^ sel B v);rw[zwk u v B,Bx];have sw:∀a b c d:Nat,(a ^^^ b) ^^^ (c ^^^ d)=(a ^^^ c) ^^^ (b ^^^ d):=λa b c d=>by rw[Bk,Bk,<-Bk b c d,Nat.xor_comm b c,Bk]
    rw[sw];congr 1;cases u.testBit (tp b)<;>cases v.testBit (tp b)<;>simp
theorem zra:∀B:List Nat,sel B 0=0
  |[]=>rfl
  | b::B=>by
    show (if (0:Nat).testBit (tp b) then b else 0) ^^^ sel B 0=0;rw[zra B,Ck,if_neg Ag,Do]
theorem zoc {w:Nat}:∀{B:List Nat},(∀b∈B,w.testBit (tp b)=false)->sel B w=0
  |[],_=>rfl
  | b::B,h=>by
    show (if w.testBit (tp b) then b else 0) ^^^ sel B w=0;rw[zoc λx hx=>h x (Aq _ hx),h b Au,if_neg Ag,Do]
theorem zqa:∀{B:List Nat},RB B->∀b∈B,sel B b=b
  |[],_,b,hb=>by cases hb
  | a::B,h,b,hb=>by
    have hp:=Ci.mp h.2;show (if b.testBit (tp a) then a else 0) ^^^ sel B b=b;rcases At.mp hb with rfl|hb
    · rw[zoc λx hx=>(hp.1 x hx).1,zdy (h.1 b Au),if_pos rfl,Bs]
    · rw[zqa h.tail b hb,(hp.1 b hb).2,if_neg Ag,Db]
theorem zqx {w t:Nat}:∀{B:List Nat},(sel B w).testBit t=true->∃b∈B,w.testBit (tp b)=true/\b.testBit t=true
  | [],h=>by
    have h:(0:Nat).testBit t=true:=h;rw[Ck] at h;exact absurd h Ag
  | a::B,h=>by
    have h:((if w.testBit (tp a) then a else 0) ^^^ sel B w).testBit t=true:=h;rw[Bx] at h;cases q:(sel B w).testBit t with
    | true =>
      obtain⟨b,hb,r⟩:=zqx q;exact⟨b,Aq _ hb,r⟩
    | false =>
      rw[q,Bool.xor_false] at h;split at h
      · rename_i z;exact⟨a,Au,z,h⟩
      · rw[Ck] at h;exact absurd h Ag
inductive SpN (S:List Nat):Nat->Prop where
 |zero:SpN S 0
 |add {v b:Nat} (h:SpN S v) (hb:b∈S):SpN S (v ^^^ b)
theorem SpN.one {S:List Nat}{b:Nat}(h:b∈S):SpN S b:=by
 have:=SpN.add SpN.zero h
 rwa [Db] at this
theorem SpN.xor {S:List Nat}{u v:Nat}(hu:SpN S u)(hv:SpN S v):SpN S (u ^^^ v):=by
 induction hv with
 |zero=>rwa [Bs]
 |add _ hb ih=>rw[<-Bk];exact ih.add hb
theorem SpN.go {S T:List Nat}{v:Nat}(h:SpN S v)(hs:∀b∈S,SpN T b):SpN T v:=by
 induction h with
 |zero=>exact .zero
 |add _ hb ih=>exact ih.xor (hs _ hb)
noncomputable def zby (S T:List Nat):Prop:=(∀b∈S,SpN T b)/\∀b∈T,SpN S b
theorem zby.refl (S:List Nat):zby S S:=⟨λ_ h=>.one h,λ_ h=>.one h⟩
theorem zby.symm {S T:List Nat}(h:zby S T):zby T S:=⟨h.2,h.1⟩
theorem zby.trans {S T U:List Nat}(h:zby S T)(k:zby T U):zby S U:=⟨λb hb=>(h.1 b hb).go k.1,λb hb=>(k.2 b hb).go h.2⟩
theorem zby.mem {S T:List Nat}(h:∀x,x∈S↔x∈T):zby S T:=⟨λb hb=>.one ((h b).mp hb),λb hb=>.one ((h b).mpr hb)⟩
theorem zby.app {S T U V:List Nat}(h:zby S T)(k:zby U V):zby (S++U) (T++V):=by
 have l:∀{A B:List Nat}{v},SpN A v->SpN (A++B) v:=λh=>h.go λb hb=>.one (Dd _ hb);have r:∀{A B:List Nat}{v},SpN B v->SpN (A++B) v:=λh=>h.go λb hb=>.one (Bj _ hb);exact⟨λb hb=>(Bf.mp hb).elim (λh1=>l (h.1 b h1)) λh1=>r (k.1 b h1),λb hb=>(Bf.mp hb).elim (λh1=>l (h.2 b h1)) λh1=>r (k.2 b h1)⟩
theorem z2o (w:Nat):∀{B C:List Nat},(∀b∈B,b∈C)->SpN C (sel B w)
  |[],_,_=>.zero
  | b::B,C,h=>by
    have ih:=z2o w (B:=B) (C:=C) λx hx=>h x (Aq _ hx);show SpN C ((if w.testBit (tp b) then b else 0) ^^^ sel B w);split
    · exact (SpN.one (h b Au)).xor ih
    · rwa [Db]
theorem z3l {B:List Nat}(h:RB B){v:Nat}(hv:SpN B v):sel B v=v:=by
 induction hv with
 |zero=>exact zra B
 |add _ hb ih=>rw[zwk,ih,zqa h _ hb]
theorem zvx {a b:Nat}(h:a ^^^ b=0):a=b:=by
 have:(a ^^^ b) ^^^ b=0 ^^^ b:=by rw[h]
 rwa [Bk,Do,Bs,Db] at this
theorem zqf {B C:List Nat}(hB:RB B)(hC:RB C)(s:zby B C):∀b∈B,b∈C:=λb hb=>by
 have top:∀{B C:List Nat},RB B->RB C->zby B C->∀b∈B,∃c∈C,tp c=tp b:=λ{B C} hB hC s b hb=>by
  have e:=z3l hC (s.1 b hb);have t1:=zdy (hB.1 b hb);rw[<-e] at t1;obtain⟨c,hc,c1,c2⟩:=zqx (w:=b) (t:=tp (sel C b)) (B:=C) (by rw[e] at t1 ⊢;exact t1);rw[e] at c2;have:=zm9 c1;have:=zm9 c2;exact⟨c,hc,by omega⟩
 obtain⟨c,hc,ec⟩:=top hB hC s b hb;have hv:SpN B (b ^^^ c):=(SpN.one hb).xor (s.2 c hc);have z:sel B (b ^^^ c)=0:=zoc λb' hb'=>by
  rw[Bx];by_cases e:b'=b
  ·rw[e,zdy (hB.1 b hb),<-ec,zdy (hC.1 c hc)];rfl
  ·obtain ⟨c', hc', ec'⟩ := top hB hC s b' hb';have n1:=hB.two hb hb' (Ne.symm e);have n2:c≠c':=fun q=>by
    subst q;have:=zdy (hB.1 b hb);rw[<-ec,ec',n1] at this;exact Ag this
   rw[n1,<-ec',hC.two hc hc' n2];rfl
 rw[z3l hB hv] at z;rw[zvx z];exact hc
theorem RB.nodup {B:List Nat}(h:RB B):B.Nodup:=by
 rw[Du];refine h.2.imp_of_mem λ{a b} ha hb q e=>?_;subst e;rw[zdy (h.1 a ha)] at q;exact Ag q.1.symm
theorem zg8 {B C:List Nat}(hB:RB B)(hC:RB C)(s:zby B C):B.Perm C:=by
 rw[List.perm_iff_count];intro a;rw[hB.nodup.count,hC.nodup.count];by_cases c:a∈B
 ·rw[if_pos c,if_pos (zqf hB hC s a c)]
 ·rw[if_neg c,if_neg λz=>c (zqf hC hB s.symm a z)]
noncomputable def boS (B:List Nat) (w:Nat):List Nat:=if w ^^^ sel B w=0 then B else B.map (λr=>r ^^^ sel [w ^^^ sel B w] r)++[w ^^^ sel B w]
theorem zfx (l r:Nat):sel [l] r=if r.testBit (tp l) then l else 0:=by
 show (if r.testBit (tp l) then l else 0) ^^^ 0=_;rw[Bs]
theorem z2i {S:List Nat}{u v:Nat}(h:SpN S (u ^^^ v))(hv:SpN S v):SpN S u:=by
 have:=h.xor hv
 rwa [Bk,Do,Bs] at this
theorem z48 {B:List Nat}(h:RB B)(w:Nat):RB (boS B w)/\zby (boS B w) (B++[w]):=by
 unfold boS;have lb:∀b∈B,(w ^^^ sel B w).testBit (tp b)=false:=λb hb=>by rw[Bx,sel_bit h b hb,Bool.xor_self]
 have ss:SpN B (sel B w):=z2o w λ_ h=>h;by_cases z:w ^^^ sel B w=0
 ·rw[if_pos z];refine⟨h,λb hb=>.one (Dd _ hb),λb hb=>?_⟩;rcases Bf.mp hb with hb|hb
  ·exact .one hb
  ·rw[Ap.mp hb,zvx z];exact ss
 ·rw[if_neg z];have sw:SpN (B++[w]) (w ^^^ sel B w):=(SpN.one (Bj _ (Ap.mpr rfl))).xor (ss.go λb hb=>.one (Dd _ hb));generalize hl:w ^^^ sel B w=l at *
  have tl:=zdy z;have ne:∀b∈B,tp b≠tp l:=λb hb e=>by have:=lb b hb;rw[e,tl] at this;exact Ag this.symm
  have rt:∀b∈B,tp (b ^^^ sel [l] b)=tp b/\b ^^^ sel [l] b≠0:=λb hb=>by
   have tb:=zdy (h.1 b hb);have b1:(b ^^^ sel [l] b).testBit (tp b)=true:=by
    rw[zfx];split
    ·rw[Bx,tb,lb b hb];rfl
    ·rw[Bs];exact tb
   refine⟨yaq b1 λi hi=>?_,λe=>by rw[e,Ck] at b1;exact Ag b1⟩;rw[zfx];split
   ·rename_i q;have:=zm9 q;have:=ne b hb;rw[Bx,ztt hi,ztt (w:=l) #v[]];rfl
   ·rw[Bs];exact ztt hi
  have cut:∀b,(b ^^^ sel [l] b).testBit (tp l)=false:=λb=>by
   rw[zfx,Bx];cases q:b.testBit (tp l) with
   |true=>rw[if_pos rfl,tl];rfl
   |false=>rw[if_neg Ag,Ck];rfl
  refine⟨⟨λb hb=>?_,?_⟩,λb hb=>?_,λb hb=>?_⟩
  ·rcases Bf.mp hb with hb|hb
   ·obtain⟨a,ha,rfl⟩:=Bw.mp hb;exact (rt a ha).2
   ·rw[Ap.mp hb];exact z
  ·rw[Cc];refine⟨?_,Fj _ _,λa ha b hb=>?_⟩
   ·rw [Eb];refine h.2.imp_of_mem fun {a b} ha hb q=>?_;have oth:∀{x y:Nat},y∈B->x.testBit (tp y)=false->(x ^^^ sel [l] x).testBit (tp y)=false:=fun {x y} hy hx=>by
     rw[zfx];split
     ·rw[Bx,hx,lb y hy];rfl
     ·rw[Bs];exact hx
    rw[(rt a ha).1,(rt b hb).1];exact⟨oth hb q.1,oth ha q.2⟩
   ·obtain⟨x,hx,rfl⟩:=Bw.mp ha;rw[Ap.mp hb,(rt x hx).1];exact⟨cut x,lb x hx⟩
  ·rcases Bf.mp hb with hb|hb
   ·obtain⟨a,ha,rfl⟩:=Bw.mp hb;have sa:SpN (B++[w]) a:=.one (Dd _ ha);rw[zfx];split
    ·exact sa.xor sw
    ·rwa [Bs]
   ·rw[Ap.mp hb];exact sw
  ·have sl : SpN (B.map (fun r => r ^^^ sel [l] r) ++ [l]) l := .one (Bj _ (Ap.mpr rfl));have sb:∀a∈B,SpN (B.map (fun r=>r ^^^ sel [l] r)++[l]) a:=fun a ha=>by
    have s1:SpN (B.map (λr=>r ^^^ sel [l] r)++[l]) (a ^^^ sel [l] a):=.one (Dd _ (Bw.mpr ⟨a,ha,rfl⟩));rw[zfx] at s1;split at s1
    ·exact z2i s1 sl
    ·rwa [Bs] at s1
   rcases Bf.mp hb with hb|hb
   ·exact sb b hb
   ·rw[Ap.mp hb];refine z2i (v:=sel B w) (by rw[hl];exact sl) (ss.go sb)
noncomputable def bo (ws:List Nat):List Nat:=ws.foldl boS []
theorem zj3 (ws:List Nat):RB (bo ws)/\zby (bo ws) ws:=by
  have go:∀(ws B S:List Nat),RB B->zby B S->RB (ws.foldl boS B)/\zby (ws.foldl boS B) (S++ws):=by
    intro ws
    induction ws with
    |nil=>intro B S h s;rw[By];exact⟨h,s⟩
    | cons w ws ih =>
      intro B S h s;obtain⟨a,b⟩:=z48 h w;have:=ih (boS B w) (S++[w]) a (b.trans (s.app (.refl [w])))
      rwa [Bc] at this
  exact go ws [] [] ⟨λb hb=>(nomatch hb),List.Pairwise.nil⟩ (.refl [])
noncomputable def bitN (w i:Nat):Int:=if w.testBit i then 1 else 0
theorem zkj (w i:Nat):Bit (bitN w i):=by unfold bitN;split<;>first|exact .inr rfl|exact .inl rfl
theorem z6f (w i:Nat):decide (bitN w i=1)=w.testBit i:=by unfold bitN;cases w.testBit i<;>rfl
theorem z11 (n:Nat)(f:Nat->Int):tab (n+1) f=f 0::tab n λi=>f (i+1):=by
 unfold tab;rw[List.range_succ_eq_map,Bd,Ep]
 rfl
theorem zd2:∀(n w:Nat),w < 2 ^ n->wordOf (tab n (bitN w))=(w:Int)
  | 0,w,h=>by
    have:w=0:=by have:2 ^ 0=1:=rfl;omega
    subst this;rfl
  | n+1,w,h=>by
    have p2:2 ^ (n+1)=2 * 2 ^ n:=by rw[Nat.pow_succ];omega
    rw[z11,zb6,tab_ext (f:=λi=>bitN w (i+1)) (g:=bitN (w / 2)) λi _=>by unfold bitN;rw[Ey],zd2 n (w / 2) #v[]];unfold bitN;rw[Nat.testBit_zero];by_cases c:w % 2=1
    · rw[if_pos (Af c)];omega
    · rw[if_neg (by rw[Ak c];exact Ag)];omega
theorem zzi (a b i:Nat):dif (bitN a i) (bitN b i)=bitN (a ^^^ b) i:=by
 unfold bitN dif;rw[Bx];cases a.testBit i<;>cases b.testBit i<;>rfl
theorem z4c (a b:Nat):Builtin.bitXor (a:Int) (b:Int)=((a ^^^ b:Nat):Int):=by
 have ha:a<2 ^ (a+b):=Nat.lt_of_le_of_lt (Nat.le_add_right a b) Nat.lt_two_pow_self;have hb:b<2 ^ (a+b):=Nat.lt_of_le_of_lt (Nat.le_add_left b a) Nat.lt_two_pow_self;have x:=zhh (xs:=tab (a+b) (bitN a)) (ys:=tab (a+b) (bitN b)) (zam λi _=>zkj a i) (zam λi _=>zkj b i) (by rw[tab_len,tab_len]);rw[zd2 _ a ha,zd2 _ b hb,zkl,tab_ext λi _=>zzi a b i,zd2 _ _ (Cd ha hb)] at x;exact x
theorem z44 {w n i:Nat}(h:w<2 ^ n)(hi:n<=i):bitN w i=0:=by
 unfold bitN;rw[Nat.testBit_lt_two_pow (Aw h (Cg #v[0,9] hi)),if_neg Ag]
noncomputable def ybc (Φ:Fn):Prop:=∀w p:Nat,Φ [.int (w:Nat),.int (p:Nat)]=some ([.int (w:Nat),.int (p:Nat)],(.int (bitN w p),false))
theorem z8u {Φ:Fn}(h:zuu Φ):ybc Φ:=λw p=>by
 have hw:w<2 ^ w:=Nat.lt_two_pow_self;have:=h w p (bitN w) (zkj w) λi hi=>z44 hw hi
 rwa [zd2 w w hw] at this
noncomputable def XorN (Φ:Fn):Prop:=∀a b:Nat,Φ [.int (a:Nat),.int (b:Nat)]=some ([.int (a:Nat),.int (b:Nat)],(.int ((a ^^^ b:Nat):Int),false))
theorem ydm {Φ:Fn}(h:zxs Φ):XorN Φ:=λa b=>by rw[<-z4c];exact h a b
noncomputable def z3r (Ψ:Str->Fn):GS:=(gRet (gOp2 #v[0,0,0] (gArg (gOp1 zc4 (zaa 0))) #v[1]))
noncomputable def TopN (Φ:Fn):Prop:=∀w:Nat,w≠0->Φ [.int (w:Nat)]=some ([.int (w:Nat)],(.int (tp w:Nat),false))
theorem yee (Ψ:Str->Fn):TopN (zac [false] 1 (z3r Ψ)):=λw hw=>by
 have e:(Builtin.Int.intBits (w:Int):Int) - 1=(tp w:Nat):=by
  unfold Builtin.Int.intBits tp;rw[if_neg (by simp;exact hw),Int.natAbs_natCast];omega
 have ob:zc4 (.int (w:Nat))=#v[(Builtin.Int.intBits (w:Int)),0]:=rfl;unfold z3r;simp! [ob,e]
noncomputable def zuh (Ψ:Str->Fn):GS:=(gIfS (zad (gOp2 oEq (gArg (gCall [false,false] (Ψ "says") (gCns #v[1,4] (gCns (gArg (gCall [false] (Ψ "top") (gCns #v[3,4] gA0))) gA0)))) #v[1])) (gSet [] 2 (gCall [false,false] (Ψ "plus") (gCns #v[2,4] (gCns #v[3,4] gA0)))) zau)
noncomputable def zu8 (Ψ:Str->Fn):GS:=gFor [] (.nm 3) (zaz (gVar 0)) (zuh Ψ)
noncomputable def ybm (Ψ:Str->Fn):GS:=(gSeq (gSet [] 2 (gVar 1)) (gSeq (zu8 Ψ) (zct [] 2)))
noncomputable def WtN (Φ:Fn):Prop:=∀(B:List Nat) (w:Nat) (x:W),(x=.lst (castL B)\/x=.tup (castL B))->(∀b∈B,b≠0)->Φ [x,.int (w:Nat)]=some ([x,.int (w:Nat)],(.int ((w ^^^ sel B w:Nat):Int),false))
theorem zq3 (b w:Nat):∀B:List Nat,sel (B++[b]) w=sel B w ^^^ (if w.testBit (tp b) then b else 0)
  | []=>by
    show (if w.testBit (tp b) then b else 0) ^^^ 0=0 ^^^ (if w.testBit (tp b) then b else 0);rw[Bs,Db]
  | a::B=>by
    show (if w.testBit (tp a) then a else 0) ^^^ sel (B++[b]) w=((if w.testBit (tp a) then a else 0) ^^^ sel B w) ^^^ _;rw[zq3 b w B,Bk]
theorem wt_n {Ψ:Str->Fn} (hS:ybc (Ψ "says")) (hX:XorN (Ψ "plus")) (hT:TopN (Ψ "top")):WtN (zac [false,false] 4 (ybm Ψ)):=fun B w x hx h0=>by
  have sx:seqW x=some (castL B):=by rcases hx with rfl|rfl<;>rfl
  have si:zaz (gVar 0) [#v[x,6],#v[(w:Nat),0],#v[(w:Nat),0],none]=some ([#v[x,6],#v[(w:Nat),0],#v[(w:Nat),0],none],castL B):=by rcases hx with rfl|rfl<;>rfl
  have lp:∃w3,zu8 Ψ [some (x,false),some (.int (w:Nat),false),some (.int (w:Nat),false),none]=some ([some (x,false),some (.int (w:Nat),false),some (.int ((w ^^^ sel B w:Nat):Int),false),w3],.nx):=by
    unfold zu8;obtain ⟨en',h,w3,rfl⟩:=zav (mp:=[]) (T:=.nm 3) (body:=zuh Ψ) (fun i e=>∃w3,e=[some (x,false),some (.int (w:Nat),false),some (.int ((w ^^^ sel (B.take i) w:Nat):Int),false),w3]) si ⟨none,by rw [De];show _=[_,_,some (W.int ((w ^^^ 0:Nat):Int),false),_];rw [Bs]⟩ fun i u e hw hp=>by
      obtain ⟨w3,rfl⟩:=hp;obtain ⟨b,hb,rfl⟩:=zbn hw;have bm:=Av hb;have t1:=hT b (h0 b bm);have s1:=hS w (tp b);have x1:=hX (w ^^^ sel (B.take i) w) b;have e1:sel (B.take (i+1)) w=sel (B.take i) w ^^^ (if w.testBit (tp b) then b else 0):=by
        rw[Gw,hb];exact zq3 b w _
      have be:=z6f w (tp b);refine⟨[#v[x,6],#v[(w:Nat),0],#v[((w ^^^ sel (B.take i) w:Nat):Int),0],#v[(b:Nat),0]],[#v[x,6],#v[(w:Nat),0],#v[((w ^^^ sel (B.take (i+1)) w:Nat):Int),0],#v[(b:Nat),0]],rfl,.inl ?_,_,rfl⟩;unfold zuh;rw[e1];cases q:w.testBit (tp b) with
      | true =>
        rw[q] at be;rw[if_pos rfl,<-Bk];simp! [t1,s1,be,x1]
      | false =>
        rw[q] at be;rw[if_neg Ag,Bs];simp! [t1,s1,be]
    rw[zaj,Cb] at h;exact⟨_,h⟩
  obtain⟨w3,lp⟩:=lp;unfold ybm;refine fn_ret (en:=[#v[x,6],#v[(w:Nat),0],#v[((w ^^^ sel B w:Nat):Int),0],w3]) rfl (zix ?_ (zix lp ?_)) rfl
  · show gSet [] 2 (gVar 1) [some (x, false), some (.int (w : Nat), false), none, none] = some ([some (x, false), some (.int (w : Nat), false), some (.int (w : Nat), false), none], .nx)
    simp! []
  · simp! []
noncomputable def zyn (Ψ:Str->Fn):GE:=zb5 [none,none,some 3] (.nm 1) (zaz (gVar 1)) gYes (gCall [false,false] (Ψ "without_tops") (gCns (gArg (zag (gCns #v[2,4] gA0))) #v[2,9]))
noncomputable def zpp (Ψ:Str->Fn):GS:=(gSeq (gSet [] 3 (gCall [false,false] (Ψ "without_tops") (gCns #v[1,4] (gCns #v[2,4] gA0)))) (gIfS (zad (gOp2 oNe (zaa 3) #v[0])) (gSet [] 1 (gOp2 oAdd (gArg (zyn Ψ)) (gArg (zag (gCns #v[3,4] gA0))))) zau))
noncomputable def zvc (Ψ:Str->Fn):GS:=gFor [] (.nm 2) (zaz (gVar 0)) (zpp Ψ)
noncomputable def yca (Ψ:Str->Fn):GS:=(gSeq (gSet [] 1 (zag gA0)) (gSeq (zvc Ψ) (gRet (gOpN zdn (gCns (gArg (gOpN zgq (gCns (zaa 1) gA0))) gA0)))))
theorem zr0 (B:List Nat)(b:Nat):castL (B++[b])=castL B++[.int (b:Nat)]:=by unfold castL;rw[Cs];rfl
theorem yc0 {Ψ:Str->Fn}(hW:WtN (Ψ "without_tops")){B:List Nat}{l:Nat}{v0 v2:Option (W × Bool)}{o:Bool}(hl:l≠0)(hB:B.length<=1000):zyn Ψ [v0,some (.lst (castL B),o),v2,#v[(l:Nat),0]]=some ([v0,#v[(castL B),1],v2,#v[(l:Nat),0]],(.lst (castL (B.map λr=>r ^^^ sel [l] r)),true)):=by
 unfold zyn;refine zhl (xs:=[#v[(l:Nat),0]]) (e0:=[v0,#v[(castL B),1],v2,#v[(l:Nat),0]]) (ws:=castL B) (by cases o<;>simp! []) (by rw[zaj];exact hB) (by rw[zaj,zaj,Ae]) rfl rfl rfl (λ_ _=>rfl) λi u w r hw hr=>?_;obtain⟨b,hb,rfl⟩:=zbn hw;obtain⟨c,hc,rfl⟩:=zbn hr;rw[An,hb] at hc;obtain rfl:=sI hc;have e:=hW [l] b (.lst (castL [l])) (.inl rfl) λx hx=>by rw[Ap.mp hx];exact hl
 have e:Ψ "without_tops" [.lst [.int (l:Nat)],.int (b:Nat)]=some ([.lst [.int (l:Nat)],.int (b:Nat)],(.int ((b ^^^ sel [l] b:Nat):Int),false)):=e;refine⟨#v[(b:Nat),0],false,?_⟩;simp! [e]
theorem zxc:∀(ws B:List Nat),(ws.foldl boS B).length<=B.length+ws.length
  |[],B=>Ad _
  | w::ws,B=>by
    have:=zxc ws (boS B w);have h:(boS B w).length<=B.length+1:=by
      unfold boS;split
      · omega
      · rw[Az,Ae];exact Ad _
    rw[List.foldl_cons,Ay];omega
noncomputable def yad (Φ:Fn):Prop:=∀(ws:List Nat) (x:W),(x=.lst (castL ws)\/x=.tup (castL ws))->ws.length<=200->Φ [x]=some ([x],(.tup ((zfc ((bo ws).map λb:Nat=>(b:Int))).map W.int),false))
theorem ybi {Ψ:Str->Fn}(hW:WtN (Ψ "without_tops")):yad (zac [false] 4 (yca Ψ)):=λws x hx hl=>by
 have si:zaz (gVar 0) [#v[x,6],#v[[],2],none,none]=some ([#v[x,6],#v[[],2],none,none],castL ws):=by rcases hx with rfl|rfl<;>rfl
 have lp:∃o w2 w3,zvc Ψ [#v[x,6],#v[[],2],none,none]=some ([#v[x,6],some (.lst (castL (bo ws)),o),w2,w3],.nx):=by
  unfold zvc;obtain⟨en',h,o,w2,w3,rfl⟩:=zav (mp:=[]) (T:=.nm 2) (body:=zpp Ψ) (λi e=>∃o w2 w3,e=[#v[x,6],some (.lst (castL (bo (ws.take i))),o),w2,w3]) si ⟨true,none,none,rfl⟩ λi u e hw hp=>by
   obtain⟨o,w2,w3,rfl⟩:=hp;obtain⟨b,hb,rfl⟩:=zbn hw;have e1:bo (ws.take (i+1))=boS (bo (ws.take i)) b:=by
    unfold bo;rw[Gw,hb];show (ws.take i++[b]).foldl boS []=_;rw[Fv];rfl
   have bl:(bo (ws.take i)).length<=200:=by
    have:=zxc (ws.take i) [];have h2:(ws.take i).length<=ws.length:=by rw[Cn];omega
    have h3:([]:List Nat).length=0:=rfl;unfold bo;omega
   obtain⟨rb,_⟩:=zj3 (ws.take i);generalize bo (ws.take i)=B at *
   have a1:=hW B b (.lst (castL B)) (.inl rfl) rb.1;rw[e1];unfold boS;generalize b ^^^ sel B b=l at *
   by_cases z:l=0
   ·rw[if_pos z];have dz:(!decide ((l:Int)=0))=false:=by rw[Af #v[]];rfl
    refine⟨[#v[x,6],some (.lst (castL B),o),#v[(b:Nat),0],w3],[#v[x,6],#v[(castL B),1],#v[(b:Nat),0],#v[(l:Nat),0]],rfl,.inl ?_,false,#v[(b:Nat),0],#v[(l:Nat),0],rfl⟩;unfold zpp;refine zix (e1:=[#v[x,6],#v[(castL B),1],#v[(b:Nat),0],#v[(l:Nat),0]]) ?_ ?_
    ·simp! [a1]
    ·simp! [dz]
   ·rw[if_neg z];have dz:(!decide ((l:Int)=0))=true:=by rw[Ak #v[]];rfl
    have c1:=yc0 (Ψ:=Ψ) hW (B:=B) (l:=l) (v0:=#v[x,6]) (v2:=#v[(b:Nat),0]) (o:=false) z #v[];have ad:oAdd (.lst (castL (B.map λr=>r ^^^ sel [l] r))) (.lst [.int (l:Nat)])=#v[(castL (B.map (λr=>r ^^^ sel [l] r)++[l])),2]:=by
     rw[zvd (by rw[zaj,Ae,Fy];show _+1<=_;omega),zr0]
    refine⟨[#v[x,6],some (.lst (castL B),o),#v[(b:Nat),0],w3],[#v[x,6],#v[(castL (B.map (λr=>r ^^^ sel [l] r)++[l])),2],#v[(b:Nat),0],#v[(l:Nat),0]],rfl,.inl ?_,true,#v[(b:Nat),0],#v[(l:Nat),0],rfl⟩;unfold zpp;refine zix (e1:=[#v[x,6],#v[(castL B),1],#v[(b:Nat),0],#v[(l:Nat),0]]) ?_ ?_
    ·simp! [a1]
    ·simp! [dz,c1,ad]
  rw[zaj,Cb] at h;exact⟨_,_,_,h⟩
 obtain⟨o,w2,w3,lp⟩:=lp;have so:zgq [.lst (castL (bo ws))]=#v[((zfc ((bo ws).map λb:Nat=>(b:Int))).map W.int),2]:=by
  rw[zzq];show (zcy (((bo ws).map λb:Nat=>(b:Int)).map W.int)).bind _=_;rw[zfk];rfl
 have ot:zdn [.lst ((zfc ((bo ws).map λb:Nat=>(b:Int))).map W.int)]=#v[((zfc ((bo ws).map λb:Nat=>(b:Int))).map W.int),3]:=rfl;unfold yca;refine fn_ret (en:=[#v[x,6],some (.lst (castL (bo ws)),o),w2,w3]) rfl (zix (e1:=[#v[x,6],#v[[],2],none,none]) ?_ (zix lp ?_)) rfl
 ·simp! []
 ·cases o<;>simp! [so,ot]
end L2
namespace My
open PySem PySem.Spec PyProof.Rows L2
noncomputable def top (i:Nat):Stmt:=PySem.Challenge.pw_yesnowords_k85_forms_looked_at.main.body.getD i (.Pass ⟨0,0,0,0⟩)
noncomputable def zd5:Fd:=⟨"is_whole",["thing"],["thing"],[false],top 1⟩
noncomputable def zgm:Fd:=⟨"is_row",["thing","size"],["thing","size"],[false,false],top 2⟩
noncomputable def zee:Fd:=⟨"is_place",["many","thing"],["many","thing"],[false,false],top 3⟩
noncomputable def zfg:Fd:=⟨"all_yes",["many"],["many"],[false],top 4⟩
noncomputable def zrd:Fd:=⟨"says",["word","place"],["word","place"],[false,false],top 5⟩
noncomputable def zjl:Fd:=⟨"where",["word"],["word"],[false],top 6⟩
noncomputable def zfb:Fd:=⟨"word_at",["some"],["some","word","place"],[false],top 7⟩
noncomputable def zqc:Fd:=⟨"plus",["one","other"],["one","other"],[false,false],top 8⟩
noncomputable def zjv:Fd:=⟨"times",["one","other"],["one","other"],[false,false],top 9⟩
noncomputable def zdf:Fd:=⟨"letter_no",["many","letter"],["many","letter"],[false,false],top 11⟩
noncomputable def ze6:Fd:=⟨"stepped",["many","word","letter"],["many","word","letter","lower"],[false,false,false],top 12⟩
noncomputable def zj4:Fd:=⟨"steps",["many","word"],["many","word","rows","letter"],[false,false],top 13⟩
noncomputable def ze8:Fd:=⟨"word_of",["many","poly"],["many","poly","marks"],[false,false],top 15⟩
noncomputable def za9:Fd:=⟨"letters_needed",["form"],["form","pairs","rest"],[false],top 17⟩
noncomputable def ze7:Fd:=⟨"is_form",["many","thing"],["many","thing","pairs","rest"],[false,false],top 18⟩
noncomputable def zda:Fd:=⟨"form_poly",["form"],["form","pairs","rest","rests"],[false],top 19⟩
noncomputable def z14:Fd:=⟨"top",["word"],["word"],[false],top 21⟩
noncomputable def zb3:Fd:=⟨"without_tops",["rows","word"],["rows","word","left","row"],[false,false],top 22⟩
noncomputable def zff:Fd:=⟨"base_of",["some"],["some","rows","word","left"],[false],top 23⟩
noncomputable def zcn:Fd:=⟨"is_turning",["many","thing"],["many","thing","images","shift"],[false,false],top 25⟩
noncomputable def zqm:Fd:=⟨"sent",["turning","place"],["turning","place","images","told","letter"],[false,false],top 26⟩
noncomputable def zgp:Fd:=⟨"turned",["many","turning","word"],["many","turning","word"],[false,false,false],top 27⟩
noncomputable def zcm:Fd:=⟨"shows_form",["many","word","thing"],["many","word","thing","turning","form"],[false,false,false],top 29⟩
noncomputable def zc1:Fd:=⟨"_law_hand",["_law_script"],["_law_script","_law_state","_law_weighs","_law_cell","_law_k","_law_one"],[false],top 31⟩
noncomputable def zdd:Fd:=⟨"_law_take",["_law_state","_law_count"],["_law_state","_law_count","_law_digit","_law_mixed"],[true,false],top 32⟩
noncomputable def zc2:Fd:=⟨"_law_bits",["_law_state","_law_count"],["_law_state","_law_count","_law_way","_law_found","_law_k","_law_one"],[true,false],top 33⟩
noncomputable def zdi:Fd:=⟨"_law_word",["_law_bits_here"],["_law_bits_here","_law_found","_law_bit"],[false],top 34⟩
noncomputable def zcd:Fd:=⟨"_law_values",["_law_many","_law_poly"],["_law_many","_law_poly","_law_found","_law_place","_law_says_yes"],[false,false],top 35⟩
noncomputable def zbc:Fd:=⟨"_law_form_poly",["_law_form_here"],["_law_form_here","_law_found"],[false],top 36⟩
noncomputable def zc3:Fd:=⟨"_law_sent",["_law_turning_here","_law_place"],["_law_turning_here","_law_place","_law_found","_law_letter","_law_image"],[false,false],top 37⟩
noncomputable def za5:Fd:=⟨"_law_is_turning",["_law_many","_law_thing"],["_law_many","_law_thing","_law_one"],[false,false],top 38⟩
noncomputable def zb9:Fd:=⟨"_law_turned",["_law_many","_law_turning_here","_law_bits_here"],["_law_many","_law_turning_here","_law_bits_here"],[false,false,false],top 39⟩
noncomputable def zb0:Fd:=⟨"_law_turning",["_law_state","_law_many"],["_law_state","_law_many","_law_images","_law_turn","_law_one","_law_other","_law_letter"],[true,false],top 40⟩
noncomputable def zb2:Fd:=⟨"_law_is_form",["_law_many","_law_thing"],["_law_many","_law_thing"],[false,false],top 41⟩
noncomputable def zcl:Fd:=⟨"_law_shown",["_law_many","_law_bits_here","_law_thing"],["_law_many","_law_bits_here","_law_thing"],[false,false,false],top 42⟩
noncomputable def zc8:Fd:=⟨"_law_form",["_law_state","_law_many"],["_law_state","_law_many","_law_pairs"],[true,false],top 43⟩
noncomputable def zdg:Fd:=⟨"_law_case",["_law_state","_law_many"],["_law_state","_law_many","_law_form_here","_law_turning_here","_law_bits_here","_law_place","_law_bit"],[true,false],top 44⟩
noncomputable def zbf:Fd:=⟨"_law_otherwise",["_law_state","_law_many","_law_thing"],["_law_state","_law_many","_law_thing","_law_images","_law_shift","_law_pairs","_law_rest","_law_at","_law_some","_law_others","_law_way","_law_whole"],[true,false,false],top 45⟩
noncomputable def zn6:Fd:=⟨"law",["_law_script"],["_law_script","_law_state","_law_k","_law_many","_law_bits_here","_law_right","_law_things","_law_one","_law_thing","_law_found"],[false],top 46⟩
noncomputable def T:List Fd:=[zd5,zgm,zee,zfg,zrd,zjl,zfb,zqc,zjv,zdf,ze6,zj4,ze8,za9,ze7,zda,z14,zb3,zff,zcn,zqm,zgp,zcm,zc1,zdd,zc2,zdi,zcd,zbc,zc3,za5,zb9,zb0,zb2,zcl,zc8,zdg,zbf,zn6]
noncomputable def bn:List Str:=["abs","all","bool","enumerate","int","isinstance","len","list","max","min","range","reversed","set","sorted","tuple"]
noncomputable def zfq (Ψ:Str->Fn):GS:=(gRet (gAnd (gOp1 (oIsi .int) (zaa 0)) (gNot (gOp1 (oIsi .bool) (zaa 0)))))
theorem sFq {d:Nat}{x:Str}{t:Fd}{g:(Str->Fn)->GS}(h:T.find? (·.nm == x)=some t)(b:∀Ψ d,zai T bn Ψ (d+2) t=some (g Ψ)):sem T bn (d+3) x=zac t.m t.N.length (g (sem T bn (d+2))):=zas h (b _ d)
theorem zi5 (d:Nat):sem T bn (d+3) "is_whole"=zac [false] 1 (zfq (sem T bn (d+2))):=sFq (t:=zd5) (by kernel_rfl) λ_ _=>by kernel_rfl
noncomputable def zgl (Ψ:Str->Fn):GS:=(gRet (gAnd (gOp1 (oIsi .tuple) (zaa 0)) (gOp2 oEq (gArg (gOpN oLen (gCns (zaa 0) gA0))) (zaa 1))))
theorem zje (d:Nat):sem T bn (d+3) "is_row"=zac [false,false] 2 (zgl (sem T bn (d+2))):=sFq (t:=zgm) (by kernel_rfl) λ_ _=>by kernel_rfl
noncomputable def zed (Ψ:Str->Fn):GS:=(gRet (gAnd (gCall [false] (Ψ "is_whole") #v[2,9]) (zis (oI yes2 λi j=>.bl (decide (i<=j))) (oI yes2 λi j=>.bl (decide (i<j))) #v[0] (zaa 1) (gArg (gOp2 #v[0,0,1] #v[1] (zaa 0))))))
theorem ztc (d:Nat):sem T bn (d+3) "is_place"=zac [false,false] 2 (zed (sem T bn (d+2))):=sFq (t:=zee) (by kernel_rfl) λ_ _=>by kernel_rfl
theorem zxn (d:Nat):sem T bn (d+3) "all_yes"=zac [false] 1 (zwv (sem T bn (d+2))):=sFq (t:=zfg) (by kernel_rfl) λ_ _=>by kernel_rfl
theorem zvk (d:Nat):sem T bn (d+3) "says"=zac [false,false] 2 (zth (sem T bn (d+2))):=sFq (t:=zrd) (by kernel_rfl) λ_ _=>by kernel_rfl
theorem z5r (d:Nat):sem T bn (d+3) "where"=zac [false] 1 (z4m (sem T bn (d+2))):=sFq (t:=zjl) (by kernel_rfl) λ_ _=>by kernel_rfl
theorem zhq (d:Nat):sem T bn (d+3) "word_at"=zac [false] 3 (zmc (sem T bn (d+2))):=sFq (t:=zfb) (by kernel_rfl) λ_ _=>by kernel_rfl
theorem zt1 (d:Nat):sem T bn (d+3) "plus"=zac [false,false] 2 (ybw (sem T bn (d+2))):=sFq (t:=zqc) (by kernel_rfl) λ_ _=>by kernel_rfl
theorem z40 (d:Nat):sem T bn (d+3) "times"=zac [false,false] 2 (z50 (sem T bn (d+2))):=sFq (t:=zjv) (by kernel_rfl) λ_ _=>by kernel_rfl
theorem znm (d:Nat):sem T bn (d+3) "letter_no"=zac [false,false] 2 (zpi (sem T bn (d+2))):=sFq (t:=zdf) (by kernel_rfl) λ_ _=>by kernel_rfl
theorem zui (d:Nat):sem T bn (d+3) "stepped"=zac [false,false,false] 4 (zvt (sem T bn (d+2))):=sFq (t:=ze6) (by kernel_rfl) λ_ _=>by kernel_rfl
theorem z66 (d:Nat):sem T bn (d+3) "steps"=zac [false,false] 4 (z30 (sem T bn (d+2))):=sFq (t:=zj4) (by kernel_rfl) λ_ _=>by kernel_rfl
theorem e_word_of (d:Nat):sem T bn (d+3) "word_of"=zac [false,false] 3 (ziy (sem T bn (d+2))):=sFq (t:=ze8) (by kernel_rfl) λ_ _=>by kernel_rfl
noncomputable def zba (Ψ:Str->Fn):GS:=(gSeq (gAsg [] (.tp [1,2]) (gVar 0)) (gRet (gOp2 oAdd (gArg (gOp2 oMult #v[2] (zaa 1))) (gArg (gIf (zad (gOp2 oEq (zaa 2) #v[2])) (gC (.int 1)) (gC (.int 0)))))))
theorem zf9 (d:Nat):sem T bn (d+3) "letters_needed"=zac [false] 3 (zba (sem T bn (d+2))):=sFq (t:=za9) (by kernel_rfl) λ_ _=>by kernel_rfl
noncomputable def zb4 (Ψ:Str->Fn):GS:=(gSeq (gIfS (gOrT (zbu (zad (gCall [false,false] (Ψ "is_row") (gCns #v[1,4] (gCns #v[2] gA0))))) (gOrT (zbu (zad (gCall [false] (Ψ "is_whole") (gCns (gArg (gOp2 oIx (zaa 1) #v[0])) gA0)))) (zbu (zad (gCall [false] (Ψ "is_whole") (gCns (gArg (gOp2 oIx (zaa 1) #v[1])) gA0)))))) #v[9,8] zau) (gSeq (gAsg [] (.tp [2,3]) (gVar 1)) (gRet (gAnd (gOp2 (oI yes2 λi j=>.bl (decide (j<=i))) (zaa 2) #v[0]) (gAnd (zis (oI yes2 λi j=>.bl (decide (i<=j))) (oI yes2 λi j=>.bl (decide (i<=j))) #v[0] (zaa 3) #v[2]) (gOp2 (oI yes2 λi j=>.bl (decide (i<=j))) (gArg (gCall [false] (Ψ "letters_needed") #v[2,9])) (zaa 0)))))))
theorem zu5 (d:Nat):sem T bn (d+3) "is_form"=zac [false,false] 4 (zb4 (sem T bn (d+2))):=sFq (t:=ze7) (by kernel_rfl) λ_ _=>by kernel_rfl
noncomputable def zmu (Ψ:Str->Fn):GE:=zb5 [none,none] (.nm 1) (za8 (gCns (zaa 1) gA0)) gYes (zab (gCns (gArg (gOp2 oMult #v[2] (zaa 1))) (gCns (gArg (gOp2 oAdd (gArg (gOp2 oMult #v[2] (zaa 1))) #v[1])) gA0)))
noncomputable def zdh (Ψ:Str->Fn):GS:=(gSeq (gAsg [] (.tp [1,2]) (gVar 0)) (gSeq (gSet [] 3 (zab (gCns (gArg (zab gA0)) (gCns (gArg (zab (gCns (gArg (zab gA0)) gA0))) (gCns (gArg (zab (gCns (gArg (zab (gCns (gArg (gOp2 oMult #v[2] (zaa 1))) gA0))) gA0))) gA0))))) (gRet (gOp2 oAdd (gArg (gOp2 oIx (zaa 3) (zaa 2))) (gArg (gOpN zdn (gCns (gArg (zmu Ψ)) gA0)))))))
theorem zph (d:Nat):sem T bn (d+3) "form_poly"=zac [false] 4 (zdh (sem T bn (d+2))):=sFq (t:=zda) (by kernel_rfl) λ_ _=>by kernel_rfl
theorem ydl (d:Nat):sem T bn (d+3) "top"=zac [false] 1 (z3r (sem T bn (d+2))):=sFq (t:=z14) (by kernel_rfl) λ_ _=>by kernel_rfl
theorem zic (d:Nat):sem T bn (d+3) "without_tops"=zac [false,false] 4 (ybm (sem T bn (d+2))):=sFq (t:=zb3) (by kernel_rfl) λ_ _=>by kernel_rfl
theorem zwr (d:Nat):sem T bn (d+3) "base_of"=zac [false] 4 (yca (sem T bn (d+2))):=sFq (t:=zff) (by kernel_rfl) λ_ _=>by kernel_rfl
noncomputable def zdb (Ψ:Str->Fn):GE:=zb5 [none,none,some 0] (.nm 1) (zaz (gVar 2)) gYes (gCall [false,false] (Ψ "is_place") (gCns #v[2,4] #v[2,9]))
noncomputable def zck (Ψ:Str->Fn):GS:=(gSeq (gIfS (zbu (zad (gCall [false,false] (Ψ "is_row") (gCns #v[1,4] (gCns #v[2] gA0))))) #v[9,8] zau) (gSeq (gAsg [] (.tp [2,3]) (gVar 1)) (gSeq (gIfS (gOrT (zbu (zad (gCall [false,false] (Ψ "is_place") (gCns #v[0,4] (gCns #v[3,4] gA0))))) (zbu (zad (gCall [false,false] (Ψ "is_row") (gCns #v[2,4] (gCns #v[0,4] gA0)))))) #v[9,8] zau) (gSeq (gIfS (zbu (zad (gOpN (oBl λbs=>bs.all id) (gCns (gArg (zdb Ψ)) gA0)))) #v[9,8] zau) (gRet (gOp2 oEq (gArg (gOpN oLen (gCns (gArg (gCall [false] (Ψ "base_of") (gCns #v[2,4] gA0))) gA0))) (zaa 0)))))))
theorem zm0 (d:Nat):sem T bn (d+3) "is_turning"=zac [false,false] 4 (zck (sem T bn (d+2))):=sFq (t:=zcn) (by kernel_rfl) λ_ _=>by kernel_rfl
noncomputable def zkm (Ψ:Str->Fn):GS:=(gSet [] 3 (gCall [false,false] (Ψ "plus") (gCns #v[3,4] (gCns (gArg (gOp2 oIx (zaa 2) (zaa 4))) gA0))))
noncomputable def znr (Ψ:Str->Fn):GS:=gFor [] (.nm 4) (zaz (gCall [false] (Ψ "where") #v[2,9])) (zkm Ψ)
noncomputable def zpv (Ψ:Str->Fn):GS:=(gSeq (gAsg [] (.tp [2,3]) (gVar 0)) (gSeq (znr Ψ) (zct [] 3)))
theorem ybe (d:Nat):sem T bn (d+3) "sent"=zac [false,false] 5 (zpv (sem T bn (d+2))):=sFq (t:=zqm) (by kernel_rfl) λ_ _=>by kernel_rfl
noncomputable def zhc (Ψ:Str->Fn):GE:=zb5 [none,none,some 1,some 2] (.nm 1) (za8 (gCns (gArg (gOp2 #v[0,0,1] #v[1] (zaa 0))) gA0)) (zad (gOp2 oEq (gArg (gCall [false,false] (Ψ "says") (gCns #v[3,4] (gCns (gArg (gCall [false,false] (Ψ "sent") (gCns #v[2,4] #v[2,9]))) gA0)))) #v[1])) (gVar 1)
noncomputable def zgi (Ψ:Str->Fn):GS:=(gRet (gCall [false] (Ψ "word_at") (gCns (gArg (zhc Ψ)) gA0)))
theorem e_turned (d:Nat):sem T bn (d+3) "turned"=zac [false,false,false] 3 (zgi (sem T bn (d+2))):=sFq (t:=zgp) (by kernel_rfl) λ_ _=>by kernel_rfl
noncomputable def za4 (Ψ:Str->Fn):GS:=(gSeq (gIfS (gOrT (zbu (zad (gCall [false,false] (Ψ "is_row") (gCns #v[2,4] (gCns #v[2] gA0))))) (gOrT (zbu (zad (gCall [false,false] (Ψ "is_turning") (gCns #v[0,4] (gCns (gArg (gOp2 oIx (zaa 2) #v[0])) gA0))))) (zbu (zad (gCall [false,false] (Ψ "is_form") (gCns #v[0,4] (gCns (gArg (gOp2 oIx (zaa 2) #v[1])) gA0))))))) #v[9,8] zau) (gSeq (gAsg [] (.tp [3,4]) (gVar 2)) (gRet (gOp2 oEq (gArg (gCall [false,false,false] (Ψ "turned") (gCns #v[0,4] (gCns #v[3,4] #v[2,9])))) (gArg (gCall [false,false] (Ψ "word_of") (gCns #v[0,4] (gCns (gArg (gCall [false] (Ψ "form_poly") (gCns #v[4,4] gA0))) gA0))))))))
theorem zmt (d:Nat):sem T bn (d+3) "shows_form"=zac [false,false,false] 5 (za4 (sem T bn (d+2))):=sFq (t:=zcm) (by kernel_rfl) λ_ _=>by kernel_rfl
theorem zpk (d:Nat):sem T bn (d+3) "_law_hand"=zac [false] 6 (z8v (sem T bn (d+2))):=sFq (t:=zc1) (by kernel_rfl) λ_ _=>by kernel_rfl
theorem zon (d:Nat):sem T bn (d+3) "_law_take"=zac [true,false] 4 (zxr (sem T bn (d+2))):=sFq (t:=zdd) (by kernel_rfl) λ_ _=>by kernel_rfl
theorem znt (d:Nat):sem T bn (d+3) "_law_bits"=zac [true,false] 6 (ya3 (sem T bn (d+2))):=sFq (t:=zc2) (by kernel_rfl) λ_ _=>by kernel_rfl
theorem zov (d:Nat):sem T bn (d+3) "_law_word"=zac [false] 3 (yak (sem T bn (d+2))):=sFq (t:=zdi) (by kernel_rfl) λ_ _=>by kernel_rfl
theorem ze5 (d:Nat):sem T bn (d+3) "_law_values"=zac [false,false] 5 (zk5 (sem T bn (d+2))):=sFq (t:=zcd) (by kernel_rfl) λ_ _=>by kernel_rfl
noncomputable def zfo (Ψ:Str->Fn):GE:=zb5 [none,none] (.nm 1) (za8 (gCns (gArg (gOp2 oIx (zaa 0) #v[0])) gA0)) gYes (zab (gCns (gArg (gOp2 oMult #v[2] (zaa 1))) (gCns (gArg (gOp2 oAdd (gArg (gOp2 oMult #v[2] (zaa 1))) #v[1])) gA0)))
noncomputable def zbe (Ψ:Str->Fn):GS:=(gSeq (gSet [] 1 (zfo Ψ)) (gRet (gOp2 oAdd (zaa 1) (gArg (gOp2 oIx (gArg (zag (gCns (gArg (zag gA0)) (gCns (gArg (zag (gCns (gArg (zab gA0)) gA0))) (gCns (gArg (zag (gCns (gArg (zab (gCns (gArg (gOp2 oMult #v[2] (gArg (gOp2 oIx (zaa 0) #v[0])))) gA0))) gA0))) gA0))))) (gArg (gOp2 oIx (zaa 0) #v[1])))))))
theorem zdl (d:Nat):sem T bn (d+3) "_law_form_poly"=zac [false] 2 (zbe (sem T bn (d+2))):=sFq (t:=zbc) (by kernel_rfl) λ_ _=>by kernel_rfl
noncomputable def zd3 (Ψ:Str->Fn):GS:=(gIfS (zad (gOp2 oEq (gArg (gOp2 #v[0,0,2] (gArg (gOp2 #v[0,0,3] (zaa 1) (gArg (gOp2 #v[0,0,1] #v[1] (zaa 3))))) #v[2])) #v[1])) (gSet [] 2 (gOp2 (oI yes2 λi j=>.int (Builtin.bitXor i j)) (zaa 2) (zaa 4))) zau)
noncomputable def zdv (Ψ:Str->Fn):GS:=gFor [] (.tp [3,4]) (zg0 (gOp2 oIx (zaa 0) #v[0])) (zd3 Ψ)
noncomputable def zc6 (Ψ:Str->Fn):GS:=(gSeq (gSet [] 2 (gOp2 oIx (zaa 0) #v[1])) (gSeq (zdv Ψ) (zct [] 2)))
theorem zeo (d:Nat):sem T bn (d+3) "_law_sent"=zac [false,false] 5 (zc6 (sem T bn (d+2))):=sFq (t:=zc3) (by kernel_rfl) λ_ _=>by kernel_rfl
noncomputable def zay (Ψ:Str->Fn):GS:=(gIfS (gOrT (zbu (zad (gOp1 (oIsi .int) (zaa 2)))) (gOrT (zad (gOp1 (oIsi .bool) (zaa 2))) (zbu (zad (zis (oI yes2 λi j=>.bl (decide (i<=j))) (oI yes2 λi j=>.bl (decide (i<j))) #v[0] (zaa 2) (gArg (gOp2 #v[0,0,1] #v[1] (zaa 0)))))))) #v[9,8] zau)
noncomputable def ze1 (Ψ:Str->Fn):GS:=gFor [] (.nm 2) (zaz (gOp2 oAdd (gArg (gOp2 oIx (zaa 1) #v[0])) (gArg (zab (gCns (gArg (gOp2 oIx (zaa 1) #v[1])) gA0))))) (zay Ψ)
noncomputable def zax (Ψ:Str->Fn):GE:=zb5 [none,none,some 1] (.nm 1) (za8 (gCns (gArg (gOp2 #v[0,0,1] #v[1] (zaa 0))) gA0)) gYes (gCall [false,false] (Ψ "_law_sent") (gCns #v[2,4] #v[2,9]))
noncomputable def za6 (Ψ:Str->Fn):GS:=(gSeq (gIfS (gOrT (zbu (zad (gOp1 (oIsi .tuple) (zaa 1)))) (gOrT (zad (gOp2 oNe (gArg (gOpN oLen (gCns (zaa 1) gA0))) #v[2])) (gOrT (zbu (zad (gOp1 (oIsi .tuple) (gArg (gOp2 oIx (zaa 1) #v[0]))))) (zad (gOp2 oNe (gArg (gOpN oLen (gCns (gArg (gOp2 oIx (zaa 1) #v[0])) gA0))) (zaa 0)))))) #v[9,8] zau) (gSeq (ze1 Ψ) (gRet (gOp2 oEq (gArg (zsz (gCns (gArg (zax Ψ)) gA0))) (gArg (gOp2 #v[0,0,1] #v[1] (zaa 0)))))))
theorem zfw (d:Nat):sem T bn (d+3) "_law_is_turning"=zac [false,false] 3 (za6 (sem T bn (d+2))):=sFq (t:=za5) (by kernel_rfl) λ_ _=>by kernel_rfl
noncomputable def zcq (Ψ:Str->Fn):GE:=zb5 [none,none,some 2,some 1] (.nm 1) (za8 (gCns (gArg (gOp2 #v[0,0,1] #v[1] (zaa 0))) gA0)) gYes (gOp2 oIx (zaa 2) (gArg (gCall [false,false] (Ψ "_law_sent") (gCns #v[3,4] #v[2,9]))))
noncomputable def zca (Ψ:Str->Fn):GS:=(gRet (zcq Ψ))
theorem zjk (d:Nat):sem T bn (d+3) "_law_turned"=zac [false,false,false] 3 (zca (sem T bn (d+2))):=sFq (t:=zb9) (by kernel_rfl) λ_ _=>by kernel_rfl
noncomputable def zch (Ψ:Str->Fn):GE:=zb5 [none,none] (.nm 1) (za8 (gCns (zaa 1) gA0)) gYes (gOp2 #v[0,0,1] #v[1] (zaa 1))
noncomputable def zbj (Ψ:Str->Fn):GS:=(gSeq (gSet [0] 4 (gCall [true,false] (Ψ "_law_take") (gCns (zaa 0) #v[2,9]))) (gSeq (gSet [0] 5 (gOp2 #v[0,0,2] (gArg (gOp2 oAdd (gArg (gOp2 oAdd (zaa 4) #v[1])) (gArg (gCall [true,false] (Ψ "_law_take") (gCns (zaa 0) (gCns (gArg (gOp2 #v[0,0,0] (zaa 1) #v[1])) gA0)))))) (zaa 1))) (za7 2 (gVar 4) (gOp2 (oI yes2 λi j=>.int (Builtin.bitXor i j)) (gArg (gOp2 oIx (zaa 2) (zaa 4))) (gArg (gOp2 oIx (zaa 2) (zaa 5)))))))
noncomputable def zcf (Ψ:Str->Fn):GS:=gFor [0] (.nm 3) (za8 (gCns (gArg (gOp2 oMult (gArg (gCall [true,false] (Ψ "_law_take") (gCns (zaa 0) (gCns #v[13] gA0)))) (gArg (gOpN oInt (gCns (gArg (gOp2 (oI yes2 λi j=>.bl (decide (j<i))) (zaa 1) #v[1])) gA0))))) gA0)) (zbj Ψ)
noncomputable def zbq (Ψ:Str->Fn):GS:=(zdk (gIns 2 (gCall [true,false] (Ψ "_law_take") (gCns (zaa 0) #v[2,9])) (zo3 2 (gC (.int 0)))))
noncomputable def zcg (Ψ:Str->Fn):GS:=gFor [0] (.nm 6) (za8 (gCns (zaa 1) gA0)) (zbq Ψ)
noncomputable def zbz (Ψ:Str->Fn):GS:=(gSeq (gSet [0] 2 (zch Ψ)) (gSeq (zcf Ψ) (gSeq (zcg Ψ) (gRet (zab (gCns (gArg (gOpN zdn (gCns (zaa 2) gA0))) (gCns (gArg (gCall [true,false] (Ψ "_law_take") (gCns (zaa 0) (gCns (gArg (gOp2 #v[0,0,1] #v[1] (zaa 1))) gA0)))) gA0)))))))
theorem zh5 (d:Nat):sem T bn (d+3) "_law_turning"=zac [true,false] 7 (zbz (sem T bn (d+2))):=sFq (t:=zb0) (by kernel_rfl) λ_ _=>by kernel_rfl
noncomputable def zbr (Ψ:Str->Fn):GE:=zb5 [none,none] (.nm 1) (zaz (gVar 1)) gYes (gAnd (gOp1 (oIsi .int) (zaa 1)) (gNot (gOp1 (oIsi .bool) (zaa 1))))
noncomputable def zan (Ψ:Str->Fn):GS:=(gSeq (gIfS (gOrT (zbu (zad (gOp1 (oIsi .tuple) (zaa 1)))) (zad (gOp2 oNe (gArg (gOpN oLen (gCns (zaa 1) gA0))) #v[2]))) #v[9,8] zau) (gSeq (gIfS (zbu (zad (gOpN (oBl λbs=>bs.all id) (gCns (gArg (zbr Ψ)) gA0)))) #v[9,8] zau) (gRet (gAnd (gOp2 (oI yes2 λi j=>.bl (decide (j<=i))) (gArg (gOp2 oIx (zaa 1) #v[0])) #v[0]) (gAnd (gOp2 (oIn false) (gArg (gOp2 oIx (zaa 1) #v[1])) (gArg (zab (gCns #v[0] (gCns #v[1] (gCns #v[2] gA0)))))) (gOp2 (oI yes2 λi j=>.bl (decide (i<=j))) (gArg (gOp2 oAdd (gArg (gOp2 oMult #v[2] (gArg (gOp2 oIx (zaa 1) #v[0])))) (gArg (gOpN oInt (gCns (gArg (gOp2 oEq (gArg (gOp2 oIx (zaa 1) #v[1])) #v[2])) gA0))))) (zaa 0)))))))
theorem zh4 (d:Nat):sem T bn (d+3) "_law_is_form"=zac [false,false] 2 (zan (sem T bn (d+2))):=sFq (t:=zb2) (by kernel_rfl) λ_ _=>by kernel_rfl
noncomputable def za2 (Ψ:Str->Fn):GS:=(gSeq (gIfS (gOrT (zbu (zad (gOp1 (oIsi .tuple) (zaa 2)))) (zad (gOp2 oNe (gArg (gOpN oLen (gCns (zaa 2) gA0))) #v[2]))) #v[9,8] zau) (gSeq (gIfS (gOrT (zbu (zad (gCall [false,false] (Ψ "_law_is_turning") (gCns #v[0,4] (gCns (gArg (gOp2 oIx (zaa 2) #v[0])) gA0))))) (zbu (zad (gCall [false,false] (Ψ "_law_is_form") (gCns #v[0,4] (gCns (gArg (gOp2 oIx (zaa 2) #v[1])) gA0)))))) #v[9,8] zau) (gRet (gOp2 oEq (gArg (gCall [false,false,false] (Ψ "_law_turned") (gCns #v[0,4] (gCns (gArg (gOp2 oIx (zaa 2) #v[0])) #v[2,9])))) (gArg (gCall [false,false] (Ψ "_law_values") (gCns #v[0,4] (gCns (gArg (gCall [false] (Ψ "_law_form_poly") (gCns (gArg (gOp2 oIx (zaa 2) #v[1])) gA0))) gA0))))))))
theorem zmh (d:Nat):sem T bn (d+3) "_law_shown"=zac [false,false,false] 3 (za2 (sem T bn (d+2))):=sFq (t:=zcl) (by kernel_rfl) λ_ _=>by kernel_rfl
noncomputable def G__law_form (Ψ:Str->Fn):GS:=(gSeq (gSet [0] 2 (gCall [true,false] (Ψ "_law_take") (gCns (zaa 0) (gCns (gArg (gOp2 oAdd (gArg (gOp2 #v[0,0,3] (zaa 1) #v[2])) #v[1])) gA0)))) (gRet (zab (gCns #v[2,4] (gCns (gArg (gCall [true,false] (Ψ "_law_take") (gCns (zaa 0) (gCns (gArg (gOp2 oAdd #v[2] (gArg (gOpN oInt (gCns (gArg (gOp2 (oI yes2 λi j=>.bl (decide (i<j))) (gArg (gOp2 oMult #v[2] (zaa 2))) (zaa 1))) gA0))))) gA0)))) gA0)))))
theorem zhf (d:Nat):sem T bn (d+3) "_law_form"=zac [true,false] 3 (G__law_form (sem T bn (d+2))):=sFq (t:=zc8) (by kernel_rfl) λ_ _=>by kernel_rfl
noncomputable def zf4 (Ψ:Str->Fn):GS:=(za7 4 (gCall [false,false] (Ψ "_law_sent") (gCns #v[3,4] (gCns #v[5,4] gA0))) (gVar 6))
noncomputable def zdu (Ψ:Str->Fn):GS:=gFor [0] (.tp [5,6]) (zg0 (gCall [false,false] (Ψ "_law_values") (gCns #v[1,4] (gCns (gArg (gCall [false] (Ψ "_law_form_poly") (gCns #v[2,4] gA0))) gA0)))) (zf4 Ψ)
noncomputable def G__law_case (Ψ:Str->Fn):GS:=(gSeq (gPar [0] 2 3 (gCall [true,false] (Ψ "_law_form") (gCns (zaa 0) #v[2,9])) (gCall [true,false] (Ψ "_law_turning") (gCns (zaa 0) #v[2,9]))) (gSeq (gSet [0] 4 (gOp2 oMult (gArg (zag (gCns #v[0] gA0))) (gArg (gOp2 #v[0,0,1] #v[1] (zaa 1))))) (gSeq (zdu Ψ) (gRet (zab (gCns #v[4,4] (gCns (gArg (zab (gCns #v[3,4] (gCns #v[2,4] gA0)))) gA0)))))))
theorem znl (d:Nat):sem T bn (d+3) "_law_case"=zac [true,false] 7 (G__law_case (sem T bn (d+2))):=sFq (t:=zdg) (by kernel_rfl) λ_ _=>by kernel_rfl
noncomputable def zbb (Ψ:Str->Fn):GS:=(gSeq (gNst [0] [3,4] [5,6] (gVar 2)) (gSeq (gSet [0] 7 (gCall [true,false] (Ψ "_law_take") (gCns (zaa 0) #v[2,9]))) (gSeq (gSet [0] 8 (zag (gCns (gArg (zab (gCns #v[3,4] (gCns (gArg (gOp2 (oI yes2 λi j=>.int (Builtin.bitXor i j)) (zaa 4) (gArg (gOp2 #v[0,0,1] #v[1] (zaa 7))))) gA0)))) (gCns (gArg (zab (gCns (gArg (znz (zaa 3) (zcc (gOp1 oNeg #v[1])))) (gCns #v[4,4] gA0)))) (gCns (gArg (zab (gCns (gArg (gOp2 oAdd (gArg (gSl (zaa 3) zao (zcc (gVar 7)))) (gArg (gSl (zaa 3) (zcc (gOp2 oAdd (zaa 7) #v[1])) zao)))) (gCns #v[4,4] gA0)))) (gCns #v[3,4] gA0)))))) (gSeq (gSet [0] 8 (gOp2 oAdd (zaa 8) (gArg (zag (gCns (gArg (zab (gCns (gArg (gOp2 oAdd (zaa 3) (gArg (zab (gCns #v[0] gA0))))) (gCns #v[4,4] gA0)))) (gCns (gArg (zab (gCns (gArg (gOp2 zo4 (gArg (gSl (zaa 3) zao (zcc (gC (.int 1))))) (zaa 1))) (gCns #v[4,4] gA0)))) (gCns (gArg (zab (gCns (gArg (gOpN z0z (gCns (zaa 3) gA0))) (gCns #v[4,4] gA0)))) (gCns (gArg (zab (gCns #v[3,4] (gCns (gArg (gOp2 #v[0,0,1] #v[1] (zaa 1))) gA0)))) gA0)))))))) (gSeq (gSet [0] 8 (gOp2 oAdd (zaa 8) (gArg (zag (gCns (gArg (zab (gCns #v[3,4] (gCns #v[4,4] (gCns #v[0] gA0))))) (gCns (gArg (zab (gCns #v[3,4] (gCns (gArg (gC .non)) gA0)))) (gCns (gArg (zab (gCns #v[3,4] (gCns (gArg (gC (.bl true))) gA0)))) (gCns (gArg (zab (gCns (gArg (gOp2 oAdd (gArg (gSl (zaa 3) (zcc (gVar 7)) zao)) (gArg (gSl (zaa 3) zao (zcc (gVar 7)))))) (gCns #v[4,4] gA0)))) (gCns (gArg (gC .non)) gA0))))))))) (gSeq (gSet [0] 9 (zag (gCns (gArg (zab (gCns (gArg (gOp2 oAdd (zaa 5) #v[1])) (gCns #v[6,4] gA0)))) (gCns (gArg (zab (gCns (gArg (gOp2 #v[0,0,0] (zaa 5) #v[1])) (gCns #v[6,4] gA0)))) (gCns (gArg (zab (gCns #v[5,4] (gCns (gArg (gOp2 #v[0,0,2] (gArg (gOp2 oAdd (zaa 6) #v[1])) #v[3])) gA0)))) (gCns (gArg (zab (gCns #v[5,4] (gCns #v[3] gA0)))) (gCns (gArg (zab (gCns #v[5,4] (gCns #v[6,4] (gCns #v[0] gA0))))) gA0))))))) (gSeq (gSet [0] 9 (gOp2 oAdd (zaa 9) (gArg (zag (gCns (gArg (zag (gCns #v[5,4] (gCns #v[6,4] gA0)))) (gCns (gArg (zab (gCns (gArg (gC (.bl true))) (gCns #v[6,4] gA0)))) (gCns (gArg (zab (gCns #v[5,4] (gCns (gArg (gOp2 oEq (zaa 6) #v[1])) gA0)))) (gCns (gArg (zab (gCns #v[6,4] (gCns #v[5,4] gA0)))) (gCns #v[5,4] (gCns (gArg (gC .non)) (gCns (gArg (zab (gCns #v[5,4] (gCns (gArg (gC .non)) gA0)))) gA0))))))))))) (gSeq (zdk (gApp 9 (zab (gCns #v[5,4] (gCns (gArg (gOp1 oNeg #v[1])) gA0))))) (gSeq (gSet [0] 10 (gCall [true,false] (Ψ "_law_take") (gCns (zaa 0) (gCns #v[5] gA0)))) (gSeq (gIfS (zad (gOp2 (oI yes2 λi j=>.bl (decide (i<j))) (zaa 10) #v[2])) (gRet (zab (gCns (gArg (gOp2 oIx (zaa 8) (gArg (gCall [true,false] (Ψ "_law_take") (gCns (zaa 0) (gCns (gArg (gOpN oLen (gCns (zaa 8) gA0))) gA0)))))) (gCns (gArg (zab (gCns #v[5,4] (gCns #v[6,4] gA0)))) gA0)))) zau) (gSeq (gIfS (zad (gOp2 (oI yes2 λi j=>.bl (decide (i<j))) (zaa 10) #v[4])) (gRet (zab (gCns (gArg (zab (gCns #v[3,4] (gCns #v[4,4] gA0)))) (gCns (gArg (gOp2 oIx (zaa 9) (gArg (gCall [true,false] (Ψ "_law_take") (gCns (zaa 0) (gCns (gArg (gOpN oLen (gCns (zaa 9) gA0))) gA0)))))) gA0)))) zau) (gSeq (gSet [0] 11 (zag (gCns (gArg (zag (gCns (gArg (zab (gCns #v[3,4] (gCns #v[4,4] gA0)))) (gCns (gArg (zab (gCns #v[5,4] (gCns #v[6,4] gA0)))) gA0)))) (gCns (gArg (zab (gCns (gArg (zab (gCns #v[5,4] (gCns #v[6,4] gA0)))) (gCns (gArg (zab (gCns #v[3,4] (gCns #v[4,4] gA0)))) gA0)))) (gCns (gArg (zab (gCns (gArg (zab (gCns #v[3,4] (gCns #v[4,4] gA0)))) gA0))) (gCns (gArg (gOp2 oAdd (zaa 2) (gArg (zab (gCns #v[0] gA0))))) (gCns (gArg (gC .non)) gA0))))))) (gRet (gOp2 oIx (zaa 11) (gArg (gCall [true,false] (Ψ "_law_take") (gCns (zaa 0) (gCns #v[5] gA0))))))))))))))))))
theorem zgf (d:Nat):sem T bn (d+3) "_law_otherwise"=zac [true,false,false] 12 (zbb (sem T bn (d+2))):=sFq (t:=zbf) (by kernel_rfl) λ_ _=>by kernel_rfl
noncomputable def zx5 (Ψ:Str->Fn):GE:=zb5 [none,none,some 3,some 5,some 1] (.nm 1) (za8 (gCns #v[8] gA0)) gYes (gCall [true,false,false] (Ψ "_law_otherwise") (gCns (zaa 4) (gCns #v[2,4] (gCns #v[3,4] gA0))))
noncomputable def zqw (Ψ:Str->Fn):GS:=(gSeq (gSet [] 9 (gCall [false,false,false] (Ψ "shows_form") (gCns #v[3,4] (gCns (gArg (gCall [false] (Ψ "_law_word") (gCns #v[7,4] gA0))) (gCns #v[8,4] gA0))))) (gIfS (gOrT (zbu (zad (gOp1 (oIsi .bool) (zaa 9)))) (zad (gOp2 oNe (zaa 9) (gArg (gCall [false,false,false] (Ψ "_law_shown") (gCns #v[3,4] (gCns #v[7,4] (gCns #v[8,4] gA0)))))))) #v[9,8] zau))
noncomputable def zvv (Ψ:Str->Fn):GS:=gFor [] (.nm 8) (zaz (gVar 6)) (zqw Ψ)
noncomputable def z2u (Ψ:Str->Fn):GS:=(zvv Ψ)
noncomputable def zw2 (Ψ:Str->Fn):GS:=gFor [] (.nm 7) (zaz (zab (gCns #v[4,4] (gCns (gArg (gCall [true,false] (Ψ "_law_bits") (gCns (zaa 1) (gCns (gArg (gOp2 #v[0,0,1] #v[1] (zaa 3))) gA0)))) gA0)))) (z2u Ψ)
noncomputable def zp3 (Ψ:Str->Fn):GS:=(gSeq (gSet [] 3 (gOp2 oAdd #v[1] (gArg (gCall [true,false] (Ψ "_law_take") (gCns (zaa 1) (gCns #v[6] gA0)))))) (gSeq (gAsg [] (.tp [4,5]) (gCall [true,false] (Ψ "_law_case") (gCns (zaa 1) (gCns #v[3,4] gA0)))) (gSeq (gIfS (zad (gOp2 zq0 (gArg (gCall [false,false,false] (Ψ "shows_form") (gCns #v[3,4] (gCns (gArg (gCall [false] (Ψ "_law_word") (gCns #v[4,4] gA0))) (gCns #v[5,4] gA0))))) (gArg (gC (.bl true))))) #v[9,8] zau) (gSeq (gSet [] 6 (zag (gCns #v[5,4] (gCns (gArg (gOp2 oIx (gArg (gCall [true,false] (Ψ "_law_case") (gCns (zaa 1) (gCns #v[3,4] gA0)))) #v[1])) (gCns (gArg (zab (gCns (gArg (gOp2 oIx (zaa 5) #v[0])) (gCns (gArg (gCall [true,false] (Ψ "_law_form") (gCns (zaa 1) (gCns #v[3,4] gA0)))) gA0)))) (gCns (gArg (gC .non)) (gCns #v[0] (gCns (gArg (gC (.str ""))) (gCns (gArg (zab gA0)) (gCns (gArg (zag gA0)) (gCns (gArg z02) gA0))))))))))) (gSeq (gSet [] 6 (gOp2 oAdd (zaa 6) (gArg (zx5 Ψ)))) (zw2 Ψ))))))
noncomputable def zuc (Ψ:Str->Fn):GS:=gFor [] (.nm 2) (za8 (gCns (gArg (gOpN oMax (gCns #v[3] (gCns (gArg (gOpN oMin (gCns #v[8] (gCns (gArg (gOpN oLen (gCns (zaa 0) gA0))) gA0)))) gA0)))) gA0)) (zp3 Ψ)
noncomputable def z5g (Ψ:Str->Fn):GS:=(gSeq (gSet [] 1 (gCall [false] (Ψ "_law_hand") (gCns #v[0,4] gA0))) (gSeq (zuc Ψ) (gRet (gC (.bl true)))))
theorem ydd (d:Nat):sem T bn (d+3) "law"=zac [false] 10 (z5g (sem T bn (d+2))):=sFq (t:=zn6) (by kernel_rfl) λ_ _=>by kernel_rfl
theorem seq_e {a b:GS}{en e1:En}{r:Option (En × Fl)}(h1:a en=some (e1,.nx))(h2:b e1=r):gSeq a b en=r:=(seq_nx h1).trans h2
noncomputable def IG (R:W->Prop) (n:Nat) (w:W):Prop:=∃ws,w=.tup ws/\ws.length<=n/\∀x∈ws,R x
section
variable {en:En}{R:W->Prop}
theorem zp7 {a b:GA}{n k:Nat}(ha:Ax a en (IG R n))(hb:Ax b en (IG R k))(h:n+k<=1000):Ex (gOp2 oAdd a b) en (IG R (n+k)):=z23 ha hb λu v p q=>by
 obtain⟨as,rfl,l1,q1⟩:=p;obtain⟨bs,rfl,l2,q2⟩:=q;refine⟨_,_,z3q #v[],as++bs,rfl,by rw[Az];omega,λx hx=>?_⟩;rcases Bf.mp hx with z|z
 ·exact q1 x z
 ·exact q2 x z
theorem z1p {a:GA}{lo hi:GO}{l h:Option Int}{n:Nat}(ha:Ax a en (IG R n))(h1:lo en=some (en,l))(h2:hi en=some (en,h)):Ex (gSl a lo hi) en (IG R n):=by
 obtain⟨x,u,e1,r1,as,rfl,l1,q1⟩:=ha;refine⟨.tup (cutW as l h),false,by unfold gSl;rw[e1];show (lo en).bind _=_;rw[h1];show (hi en).bind _=_;rw[h2];show (resA en x).bind _=_;rw[r1];rfl,cutW as l h,rfl,?_,λx hx=>?_⟩
 ·unfold cutW;rw[Cn,Ds];omega
 ·unfold cutW at hx;exact q1 x (List.mem_of_mem_drop (List.mem_of_mem_take hx))
theorem ybl {a:GA}{k:GO}{n:Nat}(ha:Ax a en (IG R n))(h1:k en=some (en,some (-1))):Ex (znz a k) en (IG R n):=by
 obtain⟨x,u,e1,r1,as,rfl,l1,q1⟩:=ha;exact⟨.tup as.reverse,false,z4d e1 h1 r1 rfl,as.reverse,rfl,by rw[Cy];exact l1,λx hx=>q1 x (List.mem_reverse.mp hx)⟩
theorem zt4 {g:GE}(h:Ex g en R):Ex (zab (gCns (gArg g) gA0)) en (IG R 1):=by
 obtain⟨w,fl,e,p⟩:=h;refine⟨.tup [w],false,?_,[w],rfl,by show 1<=1;omega,λx hx=>by rw[Ap.mp hx];exact p⟩;unfold zab gCns gArg;rw[e];rfl
end
noncomputable def sh:W->Bool
 |.frl _=>false
 |.dcz _ _=>false
 |_=>true
inductive Hd (L:Nat):W->Prop
 |tup (ws:List W):ws.length<=L->(∀u∈ws,Hd L u)->Hd L (.tup ws)
 |oth (w:W):sh w=true->(∀us,w≠.tup us)->Hd L w
theorem Hd.inv {L:Nat}{ws:List W}(h:Hd L (.tup ws)):ws.length<=L/\∀u∈ws,Hd L u:=by
 cases h with
 |tup _ a b=>exact⟨a,b⟩
 |oth _ _ n=>exact absurd rfl (n ws)
theorem Hd.sh {L:Nat}{w:W}(h:Hd L w):sh w=true:=by
 cases h with
 |tup _ _ _=>rfl
 |oth _ a _=>exact a
theorem zr7 {L n:Nat}(h:n<=L):∀w,IG (Hd L) n w->Hd L w:=λw q=>by
 obtain⟨ws,rfl,l,q⟩:=q;exact .tup ws #v[] q
theorem zhg {us ws:List W}{P:W->Prop}(h:∀w∈us,P w)(h' : ∀w∈ws,P w):∀w∈us++ws,P w:=λw hw=>by
 rcases Bf.mp hw with z|z
 ·exact h w z
 ·exact h' w z
theorem zu0 {u:W}{ws:List W}{P:W->Prop}(h:∀w∈ws,P w)(h' : P u):∀w∈ws++[u],P w:=zhg h λw hw=>by rw[Ap.mp hw];exact h'
theorem zwh {g:GE}{st st' : W}{tl:En}{i:Nat}{ws:List W}{r:Int}{P:W->Prop}(h5:(#v[st,5]::tl)[i]?=some (#v[ws,2]))(h6:(#v[st',5]::tl)[i]?=some (#v[ws,2]))(q:∀w∈ws,P w)(c1:g (#v[st,5]::tl)=some (#v[st',5]::tl,(.int r,false)))(r0:0<=r)(r1:r<(ws.length:Nat)):∃w,gOp2 oIx (zaa i) (gArg g) (#v[st,5]::tl)=some (#v[st',5]::tl,(w,false))/\P w:=by
 obtain⟨j,rfl⟩:=Bg r0;have li:j<ws.length:=by omega
 have ix:oIx (.lst ws) (.int (j:Int))=#v[ws[j],6]:=zk4 rfl (zbd (Aa li));refine⟨ws[j],?_,q _ (List.getElem_mem li)⟩;refine op2_ev (e1:=#v[st,5]::tl) (x:=.inr i) (y:=.inl (.int (j:Int))) ?_ ?_ ?_ rfl ix
 ·unfold zaa;rw[h5]
 ·unfold gArg;rw[c1];rfl
 ·show (match (some (st', true) :: tl)[i]? with|some (some (w,_))=>some w|_=>none) = _;rw[h6]
theorem z3x {Φ:Fn}{ws:List W}{st st' x:W}{r:Int}{i:Nat}{tl:En}{fl:Bool}(hx:(#v[st,5]::tl)[i]?=some (some (x,fl)))(hq:seqW x=some ws)(ht:Φ [st,.int (ws.length:Nat)]=some ([st',.int (ws.length:Nat)],(.int r,false))):gCall [true,false] Φ (gCns (zaa 0) (gCns (gArg (gOpN oLen (gCns (zaa i) gA0))) gA0)) (#v[st,5]::tl)=some (#v[st',5]::tl,(.int r,false)):=by
 have e:gOpN oLen (gCns (zaa i) gA0) (#v[st,5]::tl)=some (#v[st,5]::tl,(.int (ws.length:Nat),false)):=by
  have key:∀y,zaa i (#v[st,5]::tl)=some (#v[st,5]::tl,y)->resA (#v[st,5]::tl) y=some x->gOpN oLen (gCns (zaa i) gA0) (#v[st,5]::tl)=some (#v[st,5]::tl,(.int (ws.length:Nat),false)):=λy a b=>by
   simp only [gOpN,gCns,gA0,a,Option.bind,zar,b,oLen,hq]
  cases fl with
  |true=>exact key (.inr i) (by unfold zaa;rw[hx]) (by show (match (#v[st,5]::tl)[i]? with|some (some (w,_))=>some w|_=>none)=_;rw[hx])
  |false=>exact key (.inl x) (by unfold zaa;rw[hx]) rfl
 generalize gOpN oLen (gCns (zaa i) gA0)=G at e ⊢;simp! [e,ht]
noncomputable def lin:List Nat->Nat->Nat
 |[],_=>0
 |x::L,p=>(if p % 2=1 then x else 0) ^^^ lin L (p / 2)
noncomputable def smL (m:Nat):List Nat:=(List.range m).map λl=>2 ^ l
theorem zqr (m:Nat):(smL m).length=m:=by unfold smL;rw[Ae,Be]
noncomputable def LI (L:List Nat):Prop:=zby L (smL L.length)
theorem ydo (m:Nat):LI (smL m):=by unfold LI;rw[zqr];exact .refl _
theorem z4r {A B:List Nat}(h:LI A)(p:A.Perm B):LI B:=by
 unfold LI;rw[<-p.length_eq];exact (zby.mem λx=>p.mem_iff.symm).trans h
theorem yam {L:List Nat}{a b x y:Nat}(h:LI L)(ha:L[a]?=some x)(hb:L[b]?=some y)(ne:a≠b):LI (L.set a (x ^^^ y)):=by
 have la:=(Aj.mp ha).1;have mz:x ^^^ y∈L.set a (x ^^^ y):=Av (Dg la);have my:y∈L.set a (x ^^^ y):=Av (i:=b) (by rw[Ch ne];exact hb);unfold LI;rw[Di];refine zby.trans ⟨λc hc=>?_,λc hc=>?_⟩ h
 ·rcases List.mem_or_eq_of_mem_set hc with hc|rfl
  ·exact .one hc
  ·exact (SpN.one (Av ha)).xor (.one (Av hb))
 ·obtain⟨j,hj⟩:=List.getElem?_of_mem hc;by_cases e:j=a
  ·subst e;rw[ha] at hj;obtain rfl:=sI hj;have:=(SpN.one mz).xor (SpN.one my);rw[Bk,Do,Bs] at this;exact this
  ·exact .one (Av (i:=j) (by rw[Ch (Ne.symm e)];exact hj))
noncomputable def InM (m:Nat) (L:List Nat):Prop:=∀a∈L,a<2 ^ m
theorem zmp {m:Nat}:∀{L:List Nat} (p:Nat),InM m L->lin L p < 2 ^ m
  |[],_,_=>Gc #v[0,9]
  | x::L,p,h=>by
    refine Cd ?_ (zmp _ λa ha=>h a (Aq _ ha));split
    · exact h x Au
    · exact Gc #v[0,9]
theorem zp4:∀{L:List Nat}{i x:Nat} (p:Nat),L[i]?=some x->lin (L.take (i+1)) p=lin (L.take i) p ^^^ (if p / 2 ^ i % 2=1 then x else 0)
  |[],_,_,_,h=>by cases h
  | y::L,0,x,p,h=>by
    obtain rfl:=sI h;show (if p % 2=1 then y else 0) ^^^ 0=0 ^^^ (if p / 2 ^ 0 % 2=1 then y else 0);rw[Bs,Db,Nat.pow_zero,Nat.div_one]
  | y::L,i+1,x,p,h=>by
    show (if p % 2=1 then y else 0) ^^^ lin (L.take (i+1)) (p / 2)=((if p % 2=1 then y else 0) ^^^ lin (L.take i) (p / 2)) ^^^ _;rw[zp4 (L:=L) (i:=i) (p / 2) h,Bk,Nat.div_div_eq_div_mul,Nat.pow_succ,Gm 2]
theorem ydt {m:Nat}:InM m (smL m):=λa h=>by
 obtain⟨l,hl,rfl⟩:=Bw.mp h;exact Nat.pow_lt_pow_right #v[0,9] (Bh.mp hl)
theorem zv3:∀{l l' : List Nat},l.Nodup->(∀a∈l,a∈l')->l.length<=l'.length
  |[],_,_,_=>Ca _
  | a::l,l',hn,hs=>by
    have ha:=hs a (Au ..);have hn':=Cr.mp hn;have:=zv3 (l:=l) (l':=l'.erase a) hn'.2 λb hb=>(List.mem_erase_of_ne (show b≠a from λe=>hn'.1 (by rw[<-e];exact hb))).mpr (hs b (Aq _ hb));rw[List.length_erase_of_mem ha] at this;have:=List.length_pos_of_mem ha;rw[Ay];omega
noncomputable def tuW (L:List Nat) (s:Nat):W:=.tup [.tup (castL L),.int (s:Nat)]
theorem yct:∀a b:Fin 64,Builtin.bitXor (a.val:Int) (b.val:Int)=((a.val ^^^ b.val:Nat):Int):=by decide +kernel
theorem xorN {a b:Nat}(ha:a<64)(hb:b<64):Builtin.bitXor (a:Int) (b:Int)=((a ^^^ b:Nat):Int):=yct ⟨a,ha⟩ ⟨b,hb⟩
theorem zt0 {ws:List W}{i:Nat}{w:W}(h:(zej ws 0)[i]?=some w):∃x,ws[i]?=some x/\w=.tup [.int (i:Nat),x]:=by
 have hi:i<ws.length:=by have:=(Aj.mp h).1;rw[zbo] at this;exact this
 have:=zd4 (ws:=ws) (k:=0) (i:=i) (w:=ws[i]) (Aa hi);rw[h,Dc] at this;exact⟨_,Aa hi,sI this⟩
noncomputable def zkf (Φ:Fn):Prop:=∀(m:Nat) (L:List Nat) (s p:Nat),m<=6->L.length=m->InM m L->s<2 ^ m->p<2 ^ m->Φ [tuW L s,.int (p:Nat)]=some ([tuW L s,.int (p:Nat)],(.int ((s ^^^ lin L p:Nat):Int),false))
theorem zkk (Ψ:Str->Fn):zkf (zac [false,false] 5 (zc6 Ψ)):=λm L s p hm hl hi hs hp=>by
 have p6:=zcs hm;have ix0:atI [.tup (castL L),W.int (s:Nat)] 0=some (.tup (castL L)):=rfl;have ix1:atI [.tup (castL L),W.int (s:Nat)] 1=some (.int (s:Nat)):=rfl;have sq:seqW (tuW L s)=some [.tup (castL L),.int (s:Nat)]:=rfl;have lp:∃w3 w4,zdv Ψ [#v[tuW L s,6],#v[(p:Nat),0],#v[(s:Nat),0],none,none]=some ([#v[tuW L s,6],#v[(p:Nat),0],#v[((s ^^^ lin L p:Nat):Int),0],w3,w4],.nx):=by
  unfold zdv;obtain⟨en',h,w3,w4,rfl⟩:=zav (mp:=[]) (T:=.tp [3,4]) (body:=zd3 Ψ) (it:=zg0 (gOp2 oIx (zaa 0) #v[0])) (λi e=>∃w3 w4,e=[#v[tuW L s,6],#v[(p:Nat),0],#v[((s ^^^ lin (L.take i) p:Nat):Int),0],w3,w4]) (en:=[#v[tuW L s,6],#v[(p:Nat),0],#v[(s:Nat),0],none,none]) (e0:=[#v[tuW L s,6],#v[(p:Nat),0],#v[(s:Nat),0],none,none]) (ws:=zej (castL L) 0) (by simp! [sq,ix0]) ⟨none,none,by rw[De];show _=[_,_,#v[W.int ((s ^^^ 0:Nat):Int),6],_,_];rw[Bs]⟩ λi w e hw hq=>by
   obtain⟨w3,w4,rfl⟩:=hq;obtain⟨x,hx,rfl⟩:=zt0 hw;obtain⟨a,ha,rfl⟩:=zbn hx;have li:i<L.length:=(Aj.mp ha).1;have la:=hi a (Av ha);have e1:=pow1 (l:=i) #v[];have e2:=divP (p:=(p:Int)) (l:=i) #v[];have e3:(p:Int) / ((2 ^ i:Nat):Int) % 2=((p / 2 ^ i % 2:Nat):Int):=by rw[<-Int.natCast_ediv];omega
   have lt:lin (L.take i) p<2 ^ m:=zmp p λb hb=>hi b (List.mem_of_mem_take hb);have xr:=xorN (a:=s ^^^ lin (L.take i) p) (b:=a) (by have:=Cd hs lt;omega) #v[];refine⟨[#v[tuW L s,6],#v[(p:Nat),0],#v[((s ^^^ lin (L.take i) p:Nat):Int),0],#v[(i:Nat),0],#v[(a:Nat),0]],[#v[tuW L s,6],#v[(p:Nat),0],#v[((s ^^^ lin (L.take (i+1)) p:Nat):Int),0],#v[(i:Nat),0],#v[(a:Nat),0]],rfl,.inl ?_,_,_,rfl⟩;unfold zd3;rw[zp4 p ha];by_cases c:p / 2 ^ i % 2=1
   ·have dz : decide (((p / 2 ^ i % 2 : Nat) : Int) = 1) = true:=Af #v[];rw[if_pos c,<-Bk];simp! [e1,one_mul_pow,e2,e3,dz,xr]
   ·have dz : decide (((p / 2 ^ i % 2 : Nat) : Int) = 1) = false:=Ak #v[];rw[if_neg c,Bs];simp! [e1,one_mul_pow,e2,e3,dz]
  have le:(zej (castL L) 0).length=L.length:=by rw[zbo,zaj]
  rw[le,Cb] at h;exact⟨_,_,h⟩
 obtain⟨w3,w4,lp⟩:=lp;unfold zc6;refine fn_ret (en:=[#v[tuW L s,6],#v[(p:Nat),0],#v[((s ^^^ lin L p:Nat):Int),0],w3,w4]) rfl (seq_e (e1:=[#v[tuW L s,6],#v[(p:Nat),0],#v[(s:Nat),0],none,none]) ?_ (seq_e lp ?_)) rfl
 ·simp! [sq,ix1]
 ·simp! []
noncomputable def zmf (Φ:Fn):Prop:=∀(m:Nat) (L:List Nat) (s:Nat) (f:Nat->Int),m<=6->L.length=m->InM m L->s<2 ^ m->Φ [.int (m:Nat),tuW L s,.lst ((tab (2 ^ m) f).map W.int)]=some ([.int (m:Nat),tuW L s,.lst ((tab (2 ^ m) f).map W.int)],(.lst ((tab (2 ^ m) λp=>f (s ^^^ lin L p)).map W.int),true))
theorem zsh {Ψ:Str->Fn}(hS:zkf (Ψ "_law_sent")):zmf (zac [false,false,false] 3 (zca Ψ)):=λm L s f hm hl hi hs=>by
 have p6:=zcs hm;have pw:=pow1 (l:=m) #v[];have c1:zcq Ψ [#v[(m:Nat),0],#v[tuW L s,6],#v[((tab (2 ^ m) f).map W.int),1]]=some ([#v[(m:Nat),0],#v[tuW L s,6],#v[((tab (2 ^ m) f).map W.int),1]],(.lst ((tab (2 ^ m) λp=>f (s ^^^ lin L p)).map W.int),true)):=by
  unfold zcq;refine zhl (xs:=[#v[((tab (2 ^ m) f).map W.int),1],#v[tuW L s,6]]) (e0:=[#v[(m:Nat),0],#v[tuW L s,6],#v[((tab (2 ^ m) f).map W.int),1]]) (ws:=rngW 0 (2 ^ m)) (zez (by simp! [pw,one_mul_pow]) #v[]) (by rw[zap];omega) (by rw[zap,Ae,tab_len]) rfl rfl rfl (λ_ _=>rfl) λi v0 w r hw hr=>?_;obtain⟨li,rfl⟩:=zbl hw;rw[Ez];rw[An,tab_get li] at hr;obtain rfl:=sI hr;have sn:=hS m L s i hm hl hi hs li;have ix:atI ((tab (2 ^ m) f).map W.int) ((s ^^^ lin L i:Nat):Int)=some (.int (f (s ^^^ lin L i))):=zbd (zgk (Cd hs (zmp i hi)));refine⟨#v[(i:Nat),0],false,?_⟩;simp! [sn,ix]
 unfold zca;simp! [c1]
noncomputable def zma (Φ:Fn):Prop:=∀(k:Nat) (st:W) (m:Nat),HS k st->k+100<big->1<=m->m<=6->∃(st' : W) (L:List Nat) (s:Nat),Φ [st,.int (m:Nat)]=some ([st',.int (m:Nat)],(tuW L s,false))/\HS (k+50) st'/\L.length=m/\InM m L/\s<2 ^ m/\LI L
theorem yd9 {Ψ:Str->Fn}{m:Nat}{v0 v2 v3 v4 v5 v6:Option (W × Bool)}(hm:m<=6):zch Ψ [v0,#v[(m:Nat),0],v2,v3,v4,v5,v6]=some ([v0,#v[(m:Nat),0],v2,v3,v4,v5,v6],(.lst (castL (smL m)),true)):=by
 unfold zch;refine zhl (cap:=[none,none]) (it:=za8 (gCns (zaa 1) gA0)) (rs:=castL (smL m)) (xs:=[]) (en:=[v0,#v[(m:Nat),0],v2,v3,v4,v5,v6]) (e0:=[v0,#v[(m:Nat),0],v2,v3,v4,v5,v6]) (ws:=rngW 0 m) (zez (by simp! []) #v[]) (by rw[zap];omega) (by rw[zap,zaj,zqr]) rfl rfl rfl (λ_ _=>rfl) λi u w r hw hr=>?_;obtain⟨li,rfl⟩:=zbl hw;rw[Ez];obtain⟨q,hq,rfl⟩:=zbn hr;unfold smL at hq;rw[An,Gk li] at hq;cases hq;have e1:=pow1 (l:=i) #v[];refine⟨#v[(i:Nat),0],false,?_⟩;simp! [e1,one_mul_pow]
theorem zwe {L:List Nat}{a x:Nat}(h:L[a]?=some x):atI (castL L) (a:Int)=some (.int (x:Nat)):=zbd (by unfold castL;rw[An,h];rfl)
theorem zzk (L:List Nat)(a x:Nat):(castL L).set a (.int (x:Nat))=castL (L.set a x):=by unfold castL;rw[List.map_set]
theorem yao {m:Nat}{L:List Nat}{a x:Nat}(h:InM m L)(hx:x<2 ^ m):InM m (L.set a x):=λb hb=>by
 rcases List.mem_or_eq_of_mem_set hb with h1|h1
 ·exact h b h1
 ·rw[h1];exact hx
noncomputable def znc (m:Nat) (L:List Nat):Prop:=L.length=m/\InM m L/\LI L
theorem ycs {Ψ:Str->Fn}(hT:zel (Ψ "_law_take")){k m:Nat}{st:W}{L:List Nat}{v3 v4 v5 v6:Option (W × Bool)}(hs:HS k st)(hk:k+10<big)(h1:2<=m)(hm:m<=6)(hL:znc m L):∃st' L' w4 w5,zbj Ψ [#v[st,5],#v[(m:Nat),0],#v[(castL L),2],v3,v4,v5,v6]=some ([#v[st',5],#v[(m:Nat),0],#v[(castL L'),2],v3,w4,w5,v6],.nx)/\HS (k+2) st'/\znc m L':=by
 have p6:=zcs hm;obtain⟨l1,l2,l3⟩:=hL;obtain⟨st1,a,e1,g1,a0,a1⟩:=hT k st (m:Nat) hs #v[] #v[] #v[];obtain⟨a,rfl⟩:=Bg a0;obtain⟨st2,r,e2,g2,r0,r1⟩:=hT (k+1) st1 ((m:Nat) - 1:Int) g1 #v[] #v[] #v[];obtain⟨r,rfl⟩:=Bg r0;have la:a<L.length:=by omega
 have eb:((a:Int)+1+(r:Int)) % (m:Int)=(((a+1+r) % m:Nat):Int):=by norm_cast
 have pos:decide ((0:Int)<(m:Int))=true:=Af #v[];generalize hb:(a+1+r) % m=b at eb;have lb:b<m:=by rw[<-hb];exact Nat.mod_lt _ #v[]
 have ne:a≠b:=by
  intro z;rw[<-hb] at z;rcases Nat.lt_or_ge (a+1+r) m with c|c
  ·rw[Nat.mod_eq_of_lt c] at z;omega
  ·rw[Nat.mod_eq_sub_mod c,Nat.mod_eq_of_lt #v[]] at z;omega
 have ga:=Aa la;have gb:=Aa (l:=L) (i:=b) #v[];generalize L[a]=x at ga;generalize L[b]=y at gb;have xl:=l2 x (Av ga);have yl:=l2 y (Av gb);have xr:=xorN (a:=x) (b:=y) #v[] #v[];have i1:=zwe ga;have i2:=zwe gb;have si:=zka (i:=2) (k:=gVar 4) (g:=(gOp2 (oI yes2 λi j=>.int (Builtin.bitXor i j)) (gArg (gOp2 oIx (zaa 2) (zaa 4))) (gArg (gOp2 oIx (zaa 2) (zaa 5))))) (en:=[#v[st2,5],#v[(m:Nat),0],#v[(castL L),2],v3,#v[(a:Nat),0],#v[(b:Nat),0],v6]) (w:=.int ((x ^^^ y:Nat):Int)) (ws:=castL L) (n:=(a:Nat)) (j:=a) (f:=false) (f2:=false) (by simp! [i1,i2,xr]) (by simp! []) rfl (zwx (by rw[zaj];exact la));rw[zzk] at si;refine⟨st2,L.set a (x ^^^ y),#v[(a:Nat),0],#v[(b:Nat),0],?_,g2,by rw[Di];exact l1,yao l2 (Cd xl yl),yam l3 ga gb ne⟩;unfold zbj;refine seq_e (e1:=[#v[st1,5],#v[(m:Nat),0],#v[(castL L),2],v3,#v[(a:Nat),0],v5,v6]) ?_ (seq_e (e1:=[#v[st2,5],#v[(m:Nat),0],#v[(castL L),2],v3,#v[(a:Nat),0],#v[(b:Nat),0],v6]) ?_ si)
 ·simp! [e1]
 ·simp! [e2,pos,eb]
theorem z0w (L:List Nat)(j x:Nat):(castL L).take j++.int (x:Nat)::(castL L).drop j=castL (L.take j++x::L.drop j):=by unfold castL;rw[Cs,List.map_take,Bd,List.map_drop]
theorem z31 {m:Nat}{A B:List Nat}(p:A.Perm B)(h:InM m A):InM m B:=λa ha=>h a (p.mem_iff.mpr ha)
theorem ydq {Ψ:Str->Fn} (hT:zel (Ψ "_law_take")) {k m:Nat}{st:W}{L:List Nat}{v3 v4 v5 v6:Option (W × Bool)} (hs:HS k st) (hk:k+10 < big) (h1:1<=m) (hm:m<=6) (hL:znc m L):∃st' L',zbq Ψ [some (st,true),some (.int (m:Nat),false),some (.lst (castL L),true),v3,v4,v5,v6]=some ([some (st',true),some (.int (m:Nat),false),some (.lst (castL L'),true),v3,v4,v5,v6],.nx)/\HS (k+1) st'/\znc m L':=by
  obtain⟨l1,l2,l3⟩:=hL;obtain⟨st1,a,e1,g1,a0,a1⟩:=hT k st (m:Nat) hs #v[] #v[] #v[];obtain⟨j,rfl⟩:=Bg a0
  match L,l1,l2,l3 with
  |[],l1,_,_=>simp at l1;omega
  | x::R,l1,l2,l3 =>
    rw[Ay] at l1;have s9:(1000:Nat)<=sizeLine:=by decide
    have po:=yd0 (i:=2) (g:=gC (.int 0)) (en:=[#v[st1,5],#v[(m:Nat),0],#v[(castL (x::R)),2],v3,v4,v5,v6]) (e1:=[#v[st1,5],#v[(m:Nat),0],#v[(castL (x::R)),2],v3,v4,v5,v6]) (us:=castL (x::R)) (ws:=castL (x::R)) (k:=0) (f:=false) (w:=.int (x:Nat)) rfl rfl rfl rfl (by rw[zaj,Ay];omega);have tk:(gCall [true,false] (Ψ "_law_take") (gCns (zaa 0) #v[2,9])) [#v[st,5],#v[(m:Nat),0],#v[(castL (x::R)),2],v3,v4,v5,v6]=some ([#v[st1,5],#v[(m:Nat),0],#v[(castL (x::R)),2],v3,v4,v5,v6],(.int (j:Nat),false)):=by simp! [e1]
    have ins:=z8n (i:=2) (g:=(gCall [true,false] (Ψ "_law_take") (gCns (zaa 0) (gCns (gArg (gVar 1)) gA0)))) (g':=zo3 2 (gC (.int 0))) (en:=[some (st,true),some (.int (m:Nat),false),some (.lst (castL (x::R)),true),v3,v4,v5,v6]) (us:=castL (x::R)) (ws:=castL R) (k:=(j:Nat)) (f:=false) (r:=(.int (x:Nat),false)) rfl tk po rfl (by refine ⟨by omega,?_,?_⟩<;>rw [zaj]<;>omega);have pm:(x::R).Perm (R.take j++x::R.drop j):=by
      have:=(List.perm_middle (a:=x) (l₁:=R.take j) (l₂:=R.drop j)).symm
      rwa [Bt] at this
    refine⟨st1,R.take j++x::R.drop j,?_,g1,by rw[<-pm.length_eq,Ay];exact l1,z31 pm l2,z4r l3 pm⟩;unfold zbq;rw[zo6 ins];show some ([#v[st1,5],#v[(m:Nat),0],#v[((castL R).take (j:Int).toNat++.int (x:Nat)::(castL R).drop (j:Int).toNat),2],v3,v4,v5,v6],Fl.nx)=_;rw[Co,z0w]
theorem ztf {Ψ:Str->Fn}(hT:zel (Ψ "_law_take")):zma (zac [true,false] 7 (zbz Ψ)):=λk st m hs hk h1 hm=>by
 have p6:=zcs hm;have pw:=pow1 (l:=m) #v[];have pp:0<2 ^ m:=Gc #v[0,9];have c1:=yd9 (Ψ:=Ψ) (m:=m) (v0:=#v[st,5]) (v2:=none) (v3:=none) (v4:=none) (v5:=none) (v6:=none) hm;obtain⟨st1,r,e1,g1,r0,r1⟩:=hT k st 13 hs #v[] #v[0,9] #v[0,9];obtain⟨r,rfl⟩:=Bg r0;have rn:∃n:Nat,n<=12/\(2<=m\/n=0)/\oMult (.int (r:Nat)) (.int (if decide ((1:Int)<(m:Int)) then 1 else 0))=#v[(n:Nat),0]:=by
  by_cases c:2<=m
  ·refine⟨r,by omega,.inl c, ?_⟩;rw[Af (show (1:Int)<(m:Int) by omega),if_pos rfl,zg5 #v[0,9] #v[0,9],Int.mul_one]
  ·refine⟨0,by omega,.inr rfl, ?_⟩;rw[Ak (show ¬ (1:Int)<(m:Int) by omega),if_neg Ag,zg5 #v[0,9] #v[0,9],Int.mul_zero];rfl
 obtain⟨n,n12,hn,em⟩:=rn;have ib:oInt [.bl (decide ((1:Int)<(m:Int)))]=#v[(if decide ((1:Int)<(m:Int)) then 1 else 0),0]:=by cases decide ((1:Int)<(m:Int))<;>rfl
 generalize (if decide ((1:Int)<(m:Int)) then (1:Int) else 0)=z at em ib;have l2:∃st' L w3 w4 w5,zcf Ψ [#v[st,5],#v[(m:Nat),0],#v[(castL (smL m)),2],none,none,none,none]=some ([#v[st',5],#v[(m:Nat),0],#v[(castL L),2],w3,w4,w5,none],.nx)/\HS (k+25) st'/\znc m L:=by
  unfold zcf;obtain⟨en',h,st',L,w3,w4,w5,rfl,g,gl⟩:=zav (mp:=[0]) (T:=.nm 3) (body:=zbj Ψ) (λi e=>∃(st' : W) (L:List Nat) (w3 w4 w5:Option (W × Bool)),e=[#v[st',5],#v[(m:Nat),0],#v[(castL L),2],w3,w4,w5,none]/\HS (k+1+2 * i) st'/\znc m L) (zez (a:=(gArg (gOp2 oMult (gArg (gCall [true,false] (Ψ "_law_take") (gCns (zaa 0) (gCns #v[13] gA0)))) (gArg (gOpN oInt (gCns (gArg (gOp2 (oI yes2 λi j=>.bl (decide (j<i))) (zaa 1) #v[1])) gA0)))))) (en:=[#v[st,5],#v[(m:Nat),0],#v[(castL (smL m)),2],none,none,none,none]) (e1:=[#v[st1,5],#v[(m:Nat),0],#v[(castL (smL m)),2],none,none,none,none]) (n:=n) (by simp! [e1,ib,em]) #v[]) ⟨st1,smL m,none,none,none,rfl,g1,zqr m,ydt,ydo m⟩ λi w e hw hp=>by
   obtain⟨st',L,w3,w4,w5,rfl,g,gl⟩:=hp;obtain⟨li,rfl⟩:=zbl hw;obtain⟨st2,L',x4,x5,hb,g2,gl2⟩:=ycs (Ψ:=Ψ) hT (v3:=#v[(0+(i:Int)),0]) (v4:=w4) (v5:=w5) (v6:=none) g #v[] #v[] hm gl;exact⟨_,_,rfl,.inl hb,_,_,_,_,_,rfl,g2.mono #v[],gl2⟩
  rw[zap] at g;exact⟨_,_,_,_,_,h,g.mono #v[],gl⟩
 obtain⟨st2,L,w3,w4,w5,l2,g2,gl⟩:=l2;have l3:∃st' L' w6,zcg Ψ [#v[st2,5],#v[(m:Nat),0],#v[(castL L),2],w3,w4,w5,none]=some ([#v[st',5],#v[(m:Nat),0],#v[(castL L'),2],w3,w4,w5,w6],.nx)/\HS (k+35) st'/\znc m L':=by
  unfold zcg;obtain⟨en',h,st',L',w6,rfl,g,gl⟩:=zav (mp:=[0]) (T:=.nm 6) (body:=zbq Ψ) (λi e=>∃(st' : W) (L:List Nat) (w6:Option (W × Bool)),e=[#v[st',5],#v[(m:Nat),0],#v[(castL L),2],w3,w4,w5,w6]/\HS (k+25+i) st'/\znc m L) (zez (a:=zaa 1) (en:=[#v[st2,5],#v[(m:Nat),0],#v[(castL L),2],w3,w4,w5,none]) (e1:=[#v[st2,5],#v[(m:Nat),0],#v[(castL L),2],w3,w4,w5,none]) (n:=m) rfl #v[]) ⟨st2,L,none,rfl,g2,gl⟩ λi w e hw hp=>by
   obtain⟨st',L,w6,rfl,g,gl⟩:=hp;obtain⟨li,rfl⟩:=zbl hw;obtain⟨st3,L',hb,g3,gl3⟩:=ydq (Ψ:=Ψ) hT (v3:=w3) (v4:=w4) (v5:=w5) (v6:=#v[(0+(i:Int)),0]) g #v[] h1 hm gl;exact⟨_,_,rfl,.inl hb,_,_,_,rfl,g3.mono #v[],gl3⟩
  rw[zap] at g;exact⟨_,_,_,h,g.mono #v[],gl⟩
 obtain⟨st3,L',w6,l3,g3,gl'⟩:=l3;obtain⟨st4,s,e4,g4,s0,s1⟩:=hT (k+35) st3 ((2 ^ m:Nat):Int) g3 #v[] #v[] #v[];obtain⟨s,rfl⟩:=Bg s0;have ot:zdn [.lst (castL L')]=#v[(castL L'),3]:=rfl;refine⟨st4,L',s,?_,g4.mono #v[],gl'.1,gl'.2.1,by omega,gl'.2.2⟩;unfold zbz;refine fn_ret (en:=[#v[st4,5],#v[(m:Nat),0],#v[(castL L'),2],w3,w4,w5,w6]) rfl (seq_e (e1:=[#v[st,5],#v[(m:Nat),0],#v[(castL (smL m)),2],none,none,none,none]) ?_ (seq_e l2 (seq_e l3 ?_))) rfl
 ·simp! [c1]
 ·simp! [ot,pw,one_mul_pow,e4]
  rfl
theorem ydj {n v:Nat}{S:List Nat}(hs:∀c∈S,c<2 ^ n)(h:SpN S v):v<2 ^ n:=by
 induction h with
 |zero=>exact Nat.two_pow_pos n
 |add _ hb ih=>exact Cd ih (hs _ hb)
noncomputable def gs:List Nat->Nat->Nat
 |[],_=>0
 |a::I,p=>(if p.testBit 0 then a else 0) ^^^ gs I (p / 2)
theorem zyb:∀I:List Nat,gs I 0=0
  |[]=>rfl
  | a::I=>by
    show (if (0:Nat).testBit 0 then a else 0) ^^^ gs I (0 / 2)=0;rw[Ck,Nat.zero_div,zyb I];simp
theorem zyv (p q:Nat):(p ^^^ q) / 2=p / 2 ^^^ q / 2:=Nat.eq_of_testBit_eq λi=>by
 rw[<-Ey,Bx,Bx,<-Ey,<-Ey]
theorem xor4 (a b c d:Nat):(a ^^^ b) ^^^ (c ^^^ d)=(a ^^^ c) ^^^ (b ^^^ d):=by
 rw[Bk,Bk,<-Bk b c d,Nat.xor_comm b c,Bk c b d]
theorem z28:∀(I:List Nat) (p q:Nat),gs I (p ^^^ q)=gs I p ^^^ gs I q
  |[],_,_=>(Do 0).symm
  | a::I,p,q=>by
    show (if (p ^^^ q).testBit 0 then a else 0) ^^^ gs I ((p ^^^ q) / 2)=((if p.testBit 0 then a else 0) ^^^ gs I (p / 2)) ^^^ ((if q.testBit 0 then a else 0) ^^^ gs I (q / 2));rw[xor4,<-z28 I,zyv,Bx];congr 1;cases p.testBit 0<;>cases q.testBit 0<;>simp
theorem z6a:∀(I:List Nat) (l:Nat) (a:Nat),I[l]?=some a->gs I (2 ^ l)=a
  |[],_,_,h=>nomatch h
  | b::I,0,a,h=>by
    obtain rfl:=sI h;show (if (2 ^ 0:Nat).testBit 0 then b else 0) ^^^ gs I (2 ^ 0 / 2)=b;rw[show (2 ^ 0:Nat).testBit 0=true from rfl,show (2 ^ 0:Nat) / 2=0 from rfl,zyb,Bs];rfl
  | b::I,l+1,a,h=>by
    have h:I[l]?=some a:=h;show (if (2 ^ (l+1):Nat).testBit 0 then b else 0) ^^^ gs I (2 ^ (l+1) / 2)=a;rw[show (2 ^ (l+1):Nat).testBit 0=false from by rw[Eg];exact Ak #v[],show (2 ^ (l+1):Nat) / 2=2 ^ l from by rw[Nat.pow_succ];omega,z6a I l a h];exact Db a
theorem z1z:∀(I:List Nat) (p:Nat),SpN I (gs I p)
  |[],_=>.zero
  | a::I,p=>by
    have ih:=(z1z I (p / 2)).go (T:=a::I) λb hb=>.one (Aq _ hb);show SpN (a::I) ((if p.testBit 0 then a else 0) ^^^ gs I (p / 2));split
    · exact (SpN.one Au).xor ih
    · rw[Db];exact ih
theorem zx8 (ns:List Int):cntI ns=ns.length↔ns.Nodup:=by
  have e:∀i,i<=ns.length->(List.range i).map (fun i=>ns.getD i 0)=ns.take i:=fun i hi=>by
    refine List.ext_getElem (by rw[Ae,Be,Cn];omega) λj h1 h2=>?_;rw[List.getElem_map,Er,List.getElem_take,Ba,Aa (by rw[Cn] at h2;omega)];rfl
  have key:∀i,i<=ns.length->((firstMet (fun i=>ns.getD i 0) i).length=i↔(ns.take i).Nodup):=by
    intro i
    induction i with
    |zero=>intro _;exact⟨λ_=>by rw[De];exact List.nodup_nil,λ_=>rfl⟩
    | succ i ih =>
      intro hi;have ih:=ih (by omega);have le:=firstMet_length_le (fun i=>ns.getD i 0) i;have an:=firstMet_any (fun i=>ns.getD i 0) i (ns.getD i 0);rw [e i (by omega)] at an;have tk:ns.take (i+1)=ns.take i++[ns.getD i 0]:=by
        rw[Df,Aa #v[],Ba,Aa #v[]];rfl
      rw[firstMet_succ,step_length,an,tk,List.nodup_append];by_cases c:(ns.take i).any (· == ns.getD i 0)=true
      · rw [if_pos c]
        refine⟨λz=>by omega,λz=>?_⟩;obtain⟨x,hx,ex⟩:=List.any_eq_true.mp c;exact absurd (Br ex) (z.2.2 x hx _ (Ap.mpr rfl))
      · rw [if_neg c]
        refine⟨λz=>⟨ih.mp #v[],by simp,λx hx y hy exy=>c ?_⟩,λz=>by have:=ih.mpr z.1;omega⟩;rw[Ap.mp hy] at exy;exact List.any_eq_true.mpr ⟨x,hx,by rw[exy];exact beq_self_eq_true _⟩
  have:=key ns.length (Ad _);rw[Cb] at this;exact this
noncomputable def unN (m:Nat):List Nat:=(List.range m).map λl=>2 ^ l
theorem z3o (l:Nat):tp (2 ^ l)=l:=yaq (by rw[Eg];exact Af rfl) λi hi=>by rw[Eg];exact Ak #v[]
theorem z9m (m:Nat):RB (unN m):=by
 refine⟨λb hb=>?_,?_⟩
 ·obtain⟨l,_,rfl⟩:=Bw.mp hb;exact Nat.ne_of_gt (Nat.two_pow_pos l)
 ·unfold unN;rw[Eb];refine List.pairwise_lt_range.imp λ{a b} h=>?_;rw[z3o,z3o,Eg,Eg];exact⟨Ak #v[],Ak #v[]⟩
theorem z4h:∀(m v:Nat),v < 2 ^ m->SpN (unN m) v
  |0,v,h=>by rw[show v=0 by omega];exact .zero
  | m+1,v,h=>by
    have up:∀{u},SpN (unN m) u->SpN (unN (m+1)) u:=λh=>h.go λb hb=>.one (by unfold unN at hb ⊢;rw[Dz,Cs];exact Dd _ hb);cases q:v.testBit m with
    | false=>exact up (z4h m v (Nat.lt_pow_two_of_testBit _ fun i hi=>by
        by_cases c:i=m
        · subst c;exact q
        · exact Nat.testBit_lt_two_pow (Aw h (Cg #v[0,9] #v[]))))
    | true =>
      have l:v ^^^ 2 ^ m < 2 ^ m:=Nat.lt_pow_two_of_testBit _ fun i hi=>by
        rw[Bx,Eg];by_cases c:m=i
        · subst c;rw[q,Af rfl];rfl
        · rw[Ak c,Bool.xor_false];exact Nat.testBit_lt_two_pow (Aw h (Cg #v[0,9] #v[]))
      have:=(up (z4h m _ l)).add (b:=2 ^ m) (by unfold unN;rw[Dz,Cs];exact Bj _ (Ap.mpr rfl));rw[Bk,Do,Bs] at this;exact this
theorem zsw {n:Nat}{L:List Nat} (nd:L.Nodup) (ln:L.length=n) (h:∀x∈L,x < n):∀x,x < n->x∈L:=fun x hx=>by
  cases c:decide (x∈L) with
  |true=>exact Al c
  | false =>
    have:=zv3 (l:=x::L) (l':=List.range n) (Cr.mpr ⟨Eo c,nd⟩) fun y hy=>by
      rcases At.mp hy with rfl|hy
      · exact Bh.mpr hx
      · exact Bh.mpr (h y hy)
    rw[Ay,Be] at this;omega
theorem ziv {s a b:Nat}(h:s ^^^ a=s ^^^ b):a=b:=by
 have:=congrArg (s ^^^ ·) h;have this:s ^^^ (s ^^^ a)=s ^^^ (s ^^^ b):=this;rw[<-Bk,<-Bk,Do,Db,Db] at this;exact this
theorem zqu {m s:Nat}{I:List Nat} (hl:I.length=m) (hI:∀a∈I,a < 2 ^ m) (hs:s < 2 ^ m):((List.range (2 ^ m)).map fun p=>s ^^^ gs I p).Nodup↔(bo I).length=m:=by
  have gl:∀p,gs I p<2 ^ m:=λp=>ydj hI (z1z I p);constructor
  · intro nd
    have all:=zsw nd (by rw [Ae,Be]) fun x hx=>by
      obtain⟨p,_,rfl⟩:=Bw.mp hx;exact Cd hs (gl p)
    have sp:∀v,v < 2 ^ m->SpN I v:=fun v hv=>by
      obtain⟨p,_,e⟩:=Bw.mp (all (s ^^^ v) (Cd hs hv));have:=z1z I p;rw[ziv e] at this;exact this
    have same:zby I (unN m):=⟨fun b hb=>z4h m b (hI b hb),fun b hb=>sp b (by
      obtain⟨l,hl,rfl⟩:=Bw.mp hb;exact Nat.pow_lt_pow_right #v[0,9] (Bh.mp hl))⟩
    have:=(zg8 (zj3 I).1 (z9m m) ((zj3 I).2.trans same)).length_eq;rw[this];unfold unN;rw[Ae,Be]
  · intro hb
    have ker:∀r,r < 2 ^ m->gs I r=0->r=0:=fun r hr e=>by
      cases c:decide (r=0) with
      |true=>exact Al c
      | false =>
        have nz:=Eo c;have lt:tp r<I.length:=by rw[hl];exact (Nat.log2_lt nz).mpr hr
        have ge:=Aa lt;have dep:∀(J:List Nat) (l p:Nat) (a:Nat),J[l]?=some a->SpN (J.eraseIdx l) (gs J p ^^^ (if p.testBit l then a else 0)):=by
          intro J
          induction J with
          |nil=>intro l p a h;exact nomatch h
          | cons x J ih =>
            intro l p a h;cases l with
            | zero =>
              obtain rfl:=sI h;show SpN J (((if p.testBit 0 then x else 0) ^^^ gs J (p / 2)) ^^^ (if p.testBit 0 then x else 0));rw[Nat.xor_comm,<-Bk,Do,Db];exact z1z J _
            | succ l =>
              have h:J[l]?=some a:=h;have ih:=ih l (p / 2) a h;show SpN (x::J.eraseIdx l) (((if p.testBit 0 then x else 0) ^^^ gs J (p / 2)) ^^^ (if p.testBit (l+1) then a else 0));rw[Ey,Bk];have ih:=ih.go (T:=x::J.eraseIdx l) λb hb=>.one (Aq _ hb);split
              · exact (SpN.one Au).xor ih
              · rw[Db];exact ih
        have d:=dep I (tp r) r _ ge;rw [e,zdy nz,Db] at d;have d:SpN (I.eraseIdx (tp r)) I[tp r]:=d;have same:zby I (I.eraseIdx (tp r)):=⟨fun b hb=>by
          obtain⟨j,hj,rfl⟩:=List.getElem_of_mem hb;by_cases q:j=tp r
          · subst q;exact d
          · refine .one (List.mem_eraseIdx_iff_getElem.mpr ⟨j,hj,q,rfl⟩),λb hb=>.one (List.mem_of_mem_eraseIdx hb)⟩
        have l1:=(zg8 (zj3 I).1 (zj3 (I.eraseIdx (tp r))).1 ((zj3 I).2.trans (same.trans (zj3 (I.eraseIdx (tp r))).2.symm))).length_eq;have l2:=zxc (I.eraseIdx (tp r)) [];rw[List.length_eraseIdx,if_pos lt] at l2;have l2:(bo (I.eraseIdx (tp r))).length<=0+(I.length - 1):=l2;omega
    rw[Du,Eb];refine (List.pairwise_lt_range (n:=2 ^ m)).imp_of_mem λ{a b} ha hb h e=>?_;have:=ker (a ^^^ b) (Cd (Bh.mp ha) (Bh.mp hb)) (by rw[z28,ziv e,Do]);have:=zvx this;omega
noncomputable def plcB (m:Nat):W->Bool
 |.int i=>decide (0<=i) && decide (i<((2 ^ m:Nat):Int))
 |_=>false
theorem zuq {m:Nat}{w:W} (h:plcB m w=true):∃p:Nat,w=.int (p:Nat)/\p < 2 ^ m:=by
  cases w with
  | int i =>
    have h:(decide (0<=i) && decide (i<((2 ^ m:Nat):Int)))=true:=h;rw[Ac] at h;obtain⟨p,rfl⟩:=Bg (Al h.1);exact⟨p,rfl,Int.ofNat_lt.mp (Al h.2)⟩
  |_=>cases h
theorem z24 {m p:Nat}(h:p<2 ^ m):plcB m (.int (p:Nat))=true:=by
 show (decide ((0:Int)<=(p:Int)) && decide ((p:Int)<((2 ^ m:Nat):Int)))=true;rw[Af (Go p),Af (Int.ofNat_lt.mpr h)];rfl
theorem zkp {m:Nat}:∀{ds:List W},ds.all (plcB m)=true->∃B:List Nat,ds=castL B/\∀b∈B,b < 2 ^ m
  |[],_=>⟨[],rfl,λ_ h=>nomatch h⟩
  | d::ds,h=>by
    rw[Bo,Ac] at h;obtain⟨p,rfl,hp⟩:=zuq h.1;obtain⟨B,rfl,hB⟩:=zkp h.2;exact⟨p::B,rfl,λb hb=>by rcases At.mp hb with rfl|hb;exact hp;exact hB b hb⟩
theorem z1c {m:Nat}{B:List Nat}(h:∀b∈B,b<2 ^ m):(castL B).all (plcB m)=true:=by
 rw[Bm];intro w hw;unfold castL at hw;obtain⟨b,hb,rfl⟩:=Bw.mp hw;exact z24 (h b hb)
noncomputable def zxv (Φ:Fn):Prop:=∀w,sh w=true->Φ [w]=some ([w],(.bl (zb8 w),false))
theorem zv7 (Ψ:Str->Fn):zxv (zac [false] 1 (zfq Ψ)):=λw h=>by
 cases w with
 |frl _=>cases h
 |dcz _ _=>cases h
 |_=>rfl
noncomputable def z3b (Φ:Fn):Prop:=∀(m:Nat) (w:W),m<=6->sh w=true->Φ [.int (m:Nat),w]=some ([.int (m:Nat),w],(.bl (plcB m w),false))
theorem z55 {Ψ:Str->Fn} (hW:zxv (Ψ "is_whole")):z3b (zac [false,false] 2 (zed Ψ)):=fun m w hm h=>by
  have e:=hW w h;have em:=pow1 (l:=m) #v[];have om:=one_mul_pow m;unfold zed;cases w with
  |frl _=>cases h
  |dcz _ _=>cases h
  | int i =>
    by_cases c:0<=i
    · have d := Af c
      simp! [e,zb8,em,om,d];simp only [plcB,d,Bool.true_and]
    · have d := Ak c
      simp! [e,zb8,em,om,d];simp only [plcB,d,Ek]
  |_=>simp! [e,zb8];rfl
theorem ze9:∀{A B:List Nat},castL A=castL B->A=B
  |[],[],_=>rfl
  |[],_::_,h=>nomatch h
  |_::_,[],h=>nomatch h
  | a::A,b::B,h=>by
    obtain⟨h1,h2⟩:=Bq h;rw[Fc (W.int.inj h1),ze9 h2]
noncomputable def rowN (n:Nat):W->Bool
 |.tup ws=>decide ((ws.length:Int)=(n:Int))
 |_=>false
noncomputable def RowM (Φ:Fn):Prop:=∀(w:W) (n:Nat),sh w=true->Φ [w,.int (n:Nat)]=some ([w,.int (n:Nat)],(.bl (rowN n w),false))
theorem z6e (Ψ:Str->Fn):RowM (zac [false,false] 2 (zgl Ψ)):=fun w n h=>by
  unfold zgl;cases w with
  |frl _=>cases h
  |dcz _ _=>cases h
  | tup ws =>
    have sw:seqW (.tup ws)=some ws:=rfl;simp! [sw];rfl
  |_=>simp! [];rfl
noncomputable def zms (m:Nat) (th:W):Prop:=∃I s,th=tuW I s/\I.length=m/\(∀a∈I,a<2 ^ m)/\s<2 ^ m/\(bo I).length=m
theorem turn_shape {m:Nat}{th:W}(h:zms m th):∃ds x,th=.tup [.tup ds,x]/\plcB m x=true/\ds.length=m/\ds.all (plcB m)=true:=by
 obtain⟨I,s,rfl,h1,h2,h3,_⟩:=h;exact⟨_,_,rfl,z24 h3,by rw[zaj];exact h1,z1c h2⟩
noncomputable def zj9 (Φ:Fn):Prop:=∀(m:Nat) (th:W) (L:Nat),m<=6->L<=100->Hd L th->∃b:Bool,Φ [.int (m:Nat),th]=some ([.int (m:Nat),th],(.bl b,false))/\(b=true↔zms m th)
theorem z16 (ns:List Int):(zfc ns).length=ns.length:=by
 have s:=List.pairwise_mergeSort (le:=λa b:Int=>decide (a<=b)) (λa b c h1 h2=>Af (Int.le_trans (Al h1) (Al h2))) (λa b=>by rw[Bz,Bp,Bp];exact Int.le_total a b) ns;rw[zrg (List.mergeSort_perm ns _) (s.imp λh=>Al h)];exact (List.mergeSort_perm ns _).length_eq
theorem zy1 {Ψ:Str->Fn} (hR:RowM (Ψ "is_row")) (hP:z3b (Ψ "is_place")) (hB:yad (Ψ "base_of")):zj9 (zac [false,false] 4 (zck Ψ)):=fun m th L hm hL ht=>by
  have r:Ψ "is_row" [th,.int 2]=some ([th,.int 2],(.bl (rowN 2 th),false)):=hR th 2 ht.sh;unfold zck;by_cases c:∃d x,th=.tup [d,x]
  · obtain ⟨d, x, rfl⟩ := c
    have hd:=ht.inv.2 d (by simp);have hx:=ht.inv.2 x (by simp);have r:Ψ "is_row" [.tup [d,x],.int 2]=some ([.tup [d,x],.int 2],#v[9,12]):=r;have e2:=hP m x hm hx.sh;have e3:=hR d m hd.sh;have as:gAsg [] (.tp [2,3]) (gVar 1) [#v[(m:Nat),0],#v[[d,x],3],none,none]=some ([#v[(m:Nat),0],#v[[d,x],3],#v[d,6],#v[x,6]],.nx):=by simp! []
    have i1:gIfS (zbu (zad (gCall [false,false] (Ψ "is_row") (gCns #v[1,4] (gCns #v[2] gA0))))) #v[9,8] zau [#v[(m:Nat),0],#v[[d,x],3],none,none]=some ([#v[(m:Nat),0],#v[[d,x],3],none,none],.nx):=by simp! [r]
    cases q:plcB m x with
    | false =>
      rw[q] at e2;refine⟨false,fn_ret (en:=[#v[(m:Nat),0],#v[[d,x],3],#v[d,6],#v[x,6]]) rfl (seq_e i1 (seq_e as (seq_rt (by simp! [e2])))) rfl,(λz=>nomatch z),λz=>?_⟩;obtain⟨ds,x',e,h1,_⟩:=turn_shape z;obtain⟨_,e⟩:=Bq (W.tup.inj e);obtain⟨ex,_⟩:=Bq e;rw[<-ex,q] at h1;cases h1
    | true =>
      rw[q] at e2;cases q2:rowN m d with
      | false =>
        rw[q2] at e3;refine⟨false,fn_ret (en:=[#v[(m:Nat),0],#v[[d,x],3],#v[d,6],#v[x,6]]) rfl (seq_e i1 (seq_e as (seq_rt (by simp! [e2,e3])))) rfl,(λz=>nomatch z),λz=>?_⟩;obtain⟨ds,x',e,_,h2,_⟩:=turn_shape z;obtain⟨ed,_⟩:=Bq (W.tup.inj e);rw[ed] at q2;have q2:decide ((ds.length:Int)=(m:Int))=false:=q2;exact absurd #v[] (Eo q2)
      | true =>
        rw[q2] at e3;cases d with
        | tup ds =>
          have ld:ds.length=m:=by have:=Al (show decide ((ds.length:Int)=(m:Int))=true from q2);omega
          have i2:gIfS (gOrT (zbu (zad (gCall [false,false] (Ψ "is_place") (gCns #v[0,4] (gCns #v[3,4] gA0))))) (zbu (zad (gCall [false,false] (Ψ "is_row") (gCns #v[2,4] (gCns #v[0,4] gA0)))))) #v[9,8] zau [#v[(m:Nat),0],#v[[.tup ds,x],3],#v[ds,3],#v[x,6]]=some ([#v[(m:Nat),0],#v[[.tup ds,x],3],#v[ds,3],#v[x,6]],.nx):=by simp! [e2,e3]
          have c1:zdb Ψ [some (.int (m:Nat),false),some (.tup [.tup ds,x],false),some (.tup ds,false),some (x,false)]=some ([some (.int (m:Nat),false),some (.tup [.tup ds,x],false),some (.tup ds,false),some (x,false)],(.lst ((ds.map (plcB m)).map W.bl),true)):=by
            unfold zdb;refine zhl (xs:=[#v[(m:Nat),0]]) (e0:=[#v[(m:Nat),0],#v[[.tup ds,x],3],#v[ds,3],#v[x,6]]) (ws:=ds) rfl #v[] (by rw[Ae,Ae]) rfl rfl rfl (λ_ _=>rfl) λi v0 w r hw hr=>?_;rw[An,An,hw] at hr;obtain rfl:=sI hr;have q:=hP m w hm (hd.inv.2 w (Av hw)).sh;exact⟨#v[w,6],false,by simp! [q]⟩
          have al:(ds.map (plcB m)).all id=ds.all (plcB m):=by rw[List.all_map];rfl
          cases q3:ds.all (plcB m) with
          | false =>
            refine⟨false,fn_ret (en:=[#v[(m:Nat),0],#v[[.tup ds,x],3],#v[ds,3],#v[x,6]]) rfl (seq_e i1 (seq_e as (seq_e i2 (seq_rt (by simp! [c1,al,q3]))))) rfl,(λz=>nomatch z),λz=>?_⟩;obtain⟨ds',x',e,_,_,h3⟩:=turn_shape z;obtain⟨ed,_⟩:=Bq (W.tup.inj e);rw[<-W.tup.inj ed,q3] at h3;cases h3
          | true =>
            obtain⟨I,rfl,hI⟩:=zkp q3;obtain⟨s,rfl,hs⟩:=zuq q;rw[zaj] at ld;have e4:=hB I (.tup (castL I)) (.inr rfl) #v[];have ln:((zfc ((bo I).map λb:Nat=>(b:Int))).map W.int).length=(bo I).length:=by rw[Ae,z16,Ae]
            have oq:oEq (.int ((bo I).length:Nat)) (.int (m:Nat))=some (.bl (decide (((bo I).length:Int)=(m:Int))),false):=rfl;have ol:oLen [.tup ((zfc ((bo I).map fun b:Nat=>(b:Int))).map W.int)]=some (.int ((bo I).length:Nat),false):=by
              show some (W.int (((zfc ((bo I).map λb:Nat=>(b:Int))).map W.int).length:Nat),false)=_;rw[ln]
            generalize W.tup ((zfc ((bo I).map λb:Nat=>(b:Int))).map W.int)=bw at e4 ol;refine⟨decide (((bo I).length:Int)=(m:Int)),fn_ret (en:=[#v[(m:Nat),0],#v[[.tup (castL I),.int (s:Nat)],3],#v[(castL I),3],#v[(s:Nat),0]]) rfl (seq_e i1 (seq_e as (seq_e i2 (seq_e (e1:=[#v[(m:Nat),0],#v[[.tup (castL I),.int (s:Nat)],3],#v[(castL I),3],#v[(s:Nat),0]]) (by simp! [c1,al,q3]) (zf5 ?_))))) rfl,λz=>⟨I,s,rfl,ld,hI,hs,by have:=Al z;omega⟩,λ⟨I',s',e,_,_,_,h⟩=>?_⟩
            · have cb : gCall [false] (Ψ "base_of") (gCns (gArg (gVar 2)) gA0) [some (.int (m : Nat), false), some (.tup [.tup (castL I), .int (s : Nat)], false), some (.tup (castL I), false), some (.int (s : Nat), false)] = some ([some (.int (m : Nat), false), some (.tup [.tup (castL I), .int (s : Nat)], false), some (.tup (castL I), false), some (.int (s : Nat), false)], (bw, false)) := by simp! [e4]
              refine op2_ev (e1:=[#v[(m:Nat),0],#v[[.tup (castL I),.int (s:Nat)],3],#v[(castL I),3],#v[(s:Nat),0]]) (x:=.inl (.int ((bo I).length:Nat))) (y:=.inl (.int (m:Nat))) ?_ rfl rfl rfl oq;simp only [gArg,gOpN,gCns,gA0,cb,Option.bind,zar,resA,ol]
            · obtain ⟨ed, _⟩ := Bq (W.tup.inj e)
              rw[<-ze9 (W.tup.inj ed)] at h;exact Af (by rw[h])
        |_=>cases q2
  · have rf:rowN 2 th=false:=by
      cases th with
      | tup ws =>
        refine Ak λz=>c ?_
        match ws,z with
        |[d,x],_=>exact⟨d,x,rfl⟩
        |[],z=>simp at z
        |[_],z=>simp at z
        |_::_::_::_,z=>simp at z;omega
      |_=>rfl
    rw[rf] at r;refine⟨false,?_,(λz=>nomatch z),λz=>?_⟩
    · simp! [r]
    · obtain ⟨ds, x, e, _⟩ := turn_shape z
      exact absurd ⟨_,x,e⟩ c
theorem z5c {mp:List Nat}{T:Tg}{it:GL}{body:GS} (P:En->Prop) (c:W->Bool) {en e0:En}{ws:List W} (hi:it en=some (e0,ws)) (h0:P e0) (hs:∀w e,w∈ws->P e->∃e1 e2,tgSet mp T w e=some e1/\P e2/\body e1=some (e2,if c w then .nx else .ret #v[9,7])) :
    ∃en',P en'/\gFor mp T it body en=some (en',if ws.all c then .nx else .ret #v[9,7]):=by
  have go:∀(us:List W) (e:En),(∀w∈us,w∈ws)->P e->∃en',P en'/\zgb mp T body us e=some (en',if us.all c then .nx else .ret #v[9,7]):=by
    intro us
    induction us with
    |nil=>intro e _ p;exact⟨e,p,rfl⟩
    | cons w us ih =>
      intro e hm p;obtain ⟨e1,e2,h1,p2,h2⟩:=hs w e (hm w Au) p;have sh:zgb mp T body (w::us) e=(match body e1 with | some (e2,.nx)=>zgb mp T body us e2 | some (e2,.cnt)=>zgb mp T body us e2 | some (e2,.brk)=>some (e2,.nx) | some (e2,.ret r)=>some (e2,.ret r) | none=>none):=by
        show (tgSet mp T w e).bind _=_;rw[h1];rfl
      rw[sh,h2,Bo];cases hc:c w with
      | true =>
        obtain⟨en',p',h'⟩:=ih e2 (λx hx=>hm x (Aq _ hx)) p2;exact⟨en',p',h'⟩
      |false=>exact⟨e2,p2,rfl⟩
  obtain⟨en',p,h⟩:=go ws e0 (λ_ h=>h) h0;refine⟨en',p,?_⟩;unfold gFor;rw[hi];exact h
theorem zvs (a:Nat):∀(I:List Nat) (p:Nat),gs (I++[a]) p=gs I p ^^^ (if p.testBit I.length then a else 0)
  | [],p=>by
    show (if p.testBit 0 then a else 0) ^^^ 0=0 ^^^ (if p.testBit 0 then a else 0);rw[Bs,Db]
  | b::I,p=>by
    show (if p.testBit 0 then b else 0) ^^^ gs (I++[a]) (p / 2)=((if p.testBit 0 then b else 0) ^^^ gs I (p / 2)) ^^^ (if p.testBit (I.length+1) then a else 0);rw[zvs a I,Ey,Bk]
theorem yd2 {Ψ:Str->Fn}{m:Nat}{th w:W} (hm:m<=6) (h:sh w=true):zay Ψ [some (.int (m:Nat),false),some (th,false),some (w,false)]=some ([some (.int (m:Nat),false),some (th,false),some (w,false)],if plcB m w then .nx else .ret #v[9,7]):=by
  have em:=pow1 (l:=m) #v[];have om:=one_mul_pow m;unfold zay;cases w with
  |frl _=>cases h
  |dcz _ _=>cases h
  | int i =>
    by_cases c:0<=i
    · have d := Af c
      by_cases c2:i<((2 ^ m:Nat):Int)
      · have d2 := Af c2
        have hp:plcB m (.int i)=true:=by show (decide (0<=i) && decide (i<((2 ^ m:Nat):Int)))=true;rw[d,d2];rfl
        rw[hp];simp! [em,om,d,d2]
      · have d2 := Ak c2
        have hp:plcB m (.int i)=false:=by show (decide (0<=i) && decide (i<((2 ^ m:Nat):Int)))=false;rw[d,d2];rfl
        rw[hp];simp! [em,om,d,d2]
    · have d := Ak c
      have hp:plcB m (.int i)=false:=by show (decide (0<=i) && decide (i<((2 ^ m:Nat):Int)))=false;rw[d];rfl
      rw[hp];simp! [em,om,d]
  |_=>simp! [];try rfl
theorem zlx:∀(I:List Nat) (p:Nat),lin I p=gs I p
  |[],_=>rfl
  | a::I,p=>by
    show (if p % 2=1 then a else 0) ^^^ lin I (p / 2)=(if p.testBit 0 then a else 0) ^^^ gs I (p / 2);rw[zlx I,Nat.testBit_zero];by_cases c:p % 2=1
    · rw[if_pos c,if_pos (Af c)]
    · rw[if_neg c,if_neg (by rw[Ak c];decide)]
theorem zxd {Ψ:Str->Fn} (hG:zkf (Ψ "_law_sent")):zj9 (zac [false,false] 3 (za6 Ψ)):=fun m th L hm hL ht=>by
  have s9:(1000:Nat)<=sizeLine:=by decide
  have hsh:=ht.sh;have em:=pow1 (l:=m) #v[];have om:=one_mul_pow m;have p6:=zcs hm;unfold za6;by_cases c:∃ds x,th=.tup [.tup ds,x]/\ds.length=m
  · obtain ⟨ds, x, rfl, ld⟩ := c
    have hx:=ht.inv.2 x (by simp);have hd:=ht.inv.2 (.tup ds) (by simp);have a1:atI [.tup ds,x] 1=some x:=rfl;have a0:atI [.tup ds,x] 0=some (.tup ds):=rfl;have sw:seqW (.tup ds)=some ds:=rfl;have n0:oNe (.int (ds.length:Nat)) (.int (m:Nat))=some #v[9,7]:=by
      show #v[W.bl (!decide ((ds.length:Int)=(m:Int))),6]=_;rw[Af #v[]];rfl
    have ad:oAdd (.tup ds) (.tup [x])=some (.tup (ds++[x]),false):=z3q (by show ds.length+1<=1000;omega);obtain ⟨e1,⟨v2,rfl⟩,l1⟩:=z5c (mp:=[]) (T:=.nm 2) (it:=zaz (gOp2 oAdd (gArg (gOp2 oIx (zaa 1) (gArg (gC (.int 0))))) (gArg (zab (gCns (gArg (gOp2 oIx (zaa 1) (gArg (gC (.int 1))))) gA0))))) (body:=zay Ψ) (fun e=>∃v2,e=[some (.int (m:Nat),false),some (.tup [.tup ds,x],false),v2]) (plcB m) (en:=[some (.int (m:Nat),false),some (.tup [.tup ds,x],false),none]) (e0:=[some (.int (m:Nat),false),some (.tup [.tup ds,x],false),none]) (ws:=ds++[x]) (by simp! [a0,a1,ad]) ⟨none,rfl⟩ fun w e hw hp=>by
      obtain⟨v2,rfl⟩:=hp;refine⟨[#v[(m:Nat),0],#v[[.tup ds,x],3],#v[w,6]],_,rfl,⟨#v[w,6],rfl⟩,yd2 hm ?_⟩;rcases Bf.mp hw with h|h
      · exact (hd.inv.2 w h).sh
      · rw[Ap.mp h];exact hx.sh
    have i1:gIfS (gOrT (zbu (zad (gOp1 (oIsi .tuple) (zaa 1)))) (gOrT (zad (gOp2 oNe (gArg (gOpN oLen (gCns (zaa 1) gA0))) (gArg (gC (.int 2))))) (gOrT (zbu (zad (gOp1 (oIsi .tuple) (gArg (gOp2 oIx (zaa 1) (gArg (gC (.int 0)))))))) (zad (gOp2 oNe (gArg (gOpN oLen (gCns (gArg (gOp2 oIx (zaa 1) (gArg (gC (.int 0))))) gA0))) (zaa 0)))))) #v[9,8] zau [some (.int (m:Nat),false),some (.tup [.tup ds,x],false),none]=some ([some (.int (m:Nat),false),some (.tup [.tup ds,x],false),none],.nx):=by
      simp! [a0,sw,n0];try rfl
    cases q:(ds++[x]).all (plcB m) with
    | false =>
      rw[q] at l1;refine⟨false,fn_ret (en:=[#v[(m:Nat),0],#v[[.tup ds,x],3],v2]) rfl (seq_e i1 (seq_rt l1)) rfl,(λz=>nomatch z),λz=>?_⟩;obtain⟨ds',x',e,h1,_,h2⟩:=turn_shape z;obtain⟨ed,e'⟩:=Bq (W.tup.inj e);obtain⟨ex,_⟩:=Bq e';have ed:=W.tup.inj ed;rw[<-ex] at h1;rw[<-ed] at h2;rw[List.all_append,h2,Bo,h1] at q;cases q
    | true =>
      rw [q] at l1;rw [List.all_append,Bo,Ac,Ac] at q;obtain ⟨s,rfl,hs⟩:=zuq q.2.1;obtain ⟨I,rfl,hI⟩:=zkp q.1;rw [zaj] at ld;have c2:zax Ψ [some (.int (m:Nat),false),some (tuW I s,false),v2]=some ([some (.int (m:Nat),false),some (tuW I s,false),v2],(.lst (((List.range (2 ^ m)).map fun p=>((s ^^^ gs I p:Nat):Int)).map W.int),true)):=by
        unfold zax;refine zhl (cap:=[none,none,some 1]) (xs:=[#v[tuW I s,6]]) (e0:=[#v[(m:Nat),0],#v[tuW I s,6],v2]) (ws:=rngW 0 (2 ^ m)) (zez (n:=2 ^ m) (by simp! [em,om]) #v[]) (by rw[zap];omega) (by rw[zap,Ae,Ae,Be]) rfl rfl rfl (λ_ _=>rfl) λj u w r hw hr=>?_;obtain⟨li,rfl⟩:=zbl hw;rw[An,An,Gk li] at hr;obtain rfl:=sI hr;have g:=hG m I s j hm ld hI hs li;rw[zlx] at g;rw[Ez];refine⟨#v[(j:Nat),0],false,?_⟩;generalize tuW I s=tw at g ⊢;simp! [g]
      generalize hns:((List.range (2 ^ m)).map λp=>((s ^^^ gs I p:Nat):Int))=ns at c2;have ln:ns.length=2 ^ m:=by rw[<-hns,Ae,Be]
      have lu:zsz (gCns (gArg (zax Ψ)) gA0) [some (.int (m:Nat),false),some (tuW I s,false),v2]=some ([some (.int (m:Nat),false),some (tuW I s,false),v2],(.int (cntI ns:Nat),false)):=by
        refine z6r (xs:=[.inl (.lst (ns.map W.int))]) ?_ rfl #v[];simp only [gCns,gArg,gA0,c2,Option.bind]
      have iff1:cntI ns=2 ^ m↔(bo I).length=m:=by
        rw[<-ln,zx8,<-zqu ld hI hs,<-hns];rw[show ((List.range (2 ^ m)).map λp=>((s ^^^ gs I p:Nat):Int))=((List.range (2 ^ m)).map λp=>s ^^^ gs I p).map λx:Nat=>(x:Int) by rw[Ep];rfl];rw[Du,Du,Eb];exact⟨λh=>h.imp λh e=>h (by rw[e]),λh=>h.imp λh e=>h (Fc e)⟩
      have oq:oEq (.int (cntI ns:Nat)) (.int ((2 ^ m:Nat):Int))=some (.bl (decide ((cntI ns:Int)=((2 ^ m:Nat):Int))),false):=rfl;refine⟨decide ((cntI ns:Int)=((2 ^ m:Nat):Int)),fn_ret (en:=[#v[(m:Nat),0],#v[tuW I s,6],v2]) rfl (seq_e i1 (seq_e l1 (zf5 ?_))) rfl,λz=>⟨I,s,rfl,ld,hI,hs,iff1.mp (Fc (Al z))⟩,λ⟨I',s',e,_,_,_,h⟩=>?_⟩
      · refine op2_ev (e1 := [some (.int (m : Nat), false), some (tuW I s, false), v2]) (x := .inl (.int (cntI ns : Nat))) (y := .inl (.int ((2 ^ m : Nat) : Int))) (arg_ev lu) ?_ rfl rfl oq
        generalize tuW I s=tw;simp! [em,om]
      · obtain ⟨ed, _⟩ := Bq (W.tup.inj e)
        rw[<-ze9 (W.tup.inj ed)] at h;exact Af (by rw[iff1.mpr h])
  · refine ⟨false, ?_, (fun z => nomatch z), fun z => ?_⟩
    · refine fn_ret (en := [some (.int (m : Nat), false), some (th, false), none]) rfl (seq_rt ?_) rfl
      cases th with
      |frl _=>cases hsh
      |dcz _ _=>cases hsh
      | tup ws =>
        match ws,c,ht with
        |[],_,_=>simp! [];try rfl
        |[_],_,_=>simp! [];try rfl
        | [d,x],c,ht =>
          have hdd:=(ht.inv.2 d (by simp)).sh;have a0:atI [d,x] 0=some d:=rfl;cases d with
          |frl _=>cases hdd
          |dcz _ _=>cases hdd
          | tup ds =>
            have ne:ds.length≠m:=fun z=>c ⟨ds,x,rfl,z⟩;have sw:seqW (.tup ds)=some ds:=rfl;have n0:oNe (.int (ds.length:Nat)) (.int (m:Nat))=some #v[9,12]:=by
              show #v[W.bl (!decide ((ds.length:Int)=(m:Int))),6]=_;rw[Ak #v[]];rfl
            simp! [a0,sw,n0];try rfl
          |_=>simp! [a0];try rfl
        | a::b::d::ws,_,_ =>
          have n2:oNe (.int ((a::b::d::ws).length:Nat)) (.int 2)=some #v[9,12]:=by
            show some (W.bl (!decide (((a::b::d::ws).length:Int)=2)),false)=_;rw[Ak (by simp;omega)];rfl
          have sw:seqW (.tup (a::b::d::ws))=some (a::b::d::ws):=rfl;generalize a::b::d::ws=us at *
          simp! [sw,n2]
      |_=>simp! [];try rfl
    · obtain ⟨ds, x, e, _, h, _⟩ := turn_shape z
      exact absurd ⟨ds,x,e,h⟩ c
theorem yby {a b:List W}(h:a.length+b.length<=1000):oAdd (.lst a) (.lst b)=#v[(a++b),2]:=by
 have s9:(1000:Nat)<=sizeLine:=by decide
 rw[zpq];exact if_pos #v[]
theorem z7v {i:Nat}{as:GAs}{en:En}{us ws:List W}(h8:en[i]?=some (#v[us,2]))(h:zag as en=some (en,(.lst ws,true)))(hl:us.length+ws.length<=1000):gOp2 oAdd (zaa i) (gArg (zag as)) en=some (en,(.lst (us++ws),true)):=by
 have e1:zaa i en=some (en,.inr i):=by unfold zaa;rw[h8]
 have e2:gArg (zag as) en=some (en,.inl (.lst ws)):=by unfold gArg;rw[h];rfl
 have e3:resA en (.inr i)=some (.lst us):=by show (match en[i]? with|some (some (w,_))=>some w|_=>none)=_;rw[h8]
 unfold gOp2;rw[e1];show (gArg (zag as) en).bind _=_;rw[e2];show (resA en (.inr i)).bind _=_;rw[e3];show (oAdd (.lst us) (.lst ws)).bind _=_;rw[yby hl];rfl
theorem za1 {L:Nat}(i:Int):Hd L (.int i):=.oth _ rfl λ_=>by simp
theorem hd_c {L:Nat}{X:List Nat}(h:X.length<=L):Hd L (.tup (castL X)):=.tup _ (by rw[zaj];exact h) λu hu=>by
 unfold castL at hu;obtain⟨x,_,rfl⟩:=Bw.mp hu;exact za1 _
theorem hd_1 {L:Nat}{a:W}(h:1<=L)(ha:Hd L a):Hd L (.tup [a]):=.tup _ h λu hu=>by rw[Ap.mp hu];exact ha
theorem hd_2 {L:Nat}{a b:W}(h:2<=L)(ha:Hd L a)(hb:Hd L b):Hd L (.tup [a,b]):=.tup _ h λu hu=>by
 rcases At.mp hu with rfl|hu
 ·exact ha
 ·rw[Ap.mp hu];exact hb
theorem z0b {L s:Nat}{I:List Nat}(h2:2<=L)(h:I.length<=L):Hd L (tuW I s):=hd_2 h2 (hd_c h) (za1 _)
noncomputable def fmW (x:Nat × Nat):W:=.tup [.int (x.1:Nat),.int (x.2:Nat)]
noncomputable def dueT (x:Nat × Nat):List (List Nat):=(if x.2=0 then [] else if x.2=1 then [[]] else [[2 * x.1]])++(List.range x.1).map λa=>[2 * a,2 * a+1]
noncomputable def SmF (x:Nat × Nat):Prop:=x.1<=3/\x.2<=2
theorem ybo {P:Nat × Nat->Prop}(h00:P (0,0))(h01:P (0,1))(h02:P (0,2))(h10:P (1,0))(h11:P (1,1))(h12:P (1,2))(h20:P (2,0))(h21:P (2,1))(h22:P (2,2))(h30:P (3,0))(h31:P (3,1))(h32:P (3,2)){x:Nat × Nat}(h:SmF x):P x:=by
 obtain⟨p,r⟩:=x;obtain⟨hp,hr⟩:=h;have hp:p<=3:=hp;have hr:r<=2:=hr;rcases (show p=0\/p=1\/p=2\/p=3 by omega) with rfl|rfl|rfl|rfl<;>rcases (show r=0\/r=1\/r=2 by omega) with rfl|rfl|rfl<;>assumption
noncomputable def ya6 (Φ:Fn):Prop:=∀x,SmF x->Φ [fmW x]=some ([fmW x],(.tup ((dueT x).map tmW),false))
theorem ydh (Ψ:Str->Fn):ya6 (zac [false] 4 (zdh Ψ)):=λx h=>ybo (P:=λx=>zac [false] 4 (zdh Ψ) [fmW x]=some ([fmW x],(.tup ((dueT x).map tmW),false))) (by kernel_rfl) (by kernel_rfl) (by kernel_rfl) (by kernel_rfl) (by kernel_rfl) (by kernel_rfl) (by kernel_rfl) (by kernel_rfl) (by kernel_rfl) (by kernel_rfl) (by kernel_rfl) (by kernel_rfl) h
noncomputable def okW:W->Bool
 |.tup [a,b]=>sh a && sh b
 |.frl _=>false
 |.dcz _ _=>false
 |_=>true
noncomputable def zdp (m:Nat):W->Bool
 |.tup [.int p,.int r]=>decide (0<=p) && (decide (0<=r) && decide (r<=2)) && decide (2 * p+(if r=2 then 1 else 0)<=(m:Int))
 |_=>false
noncomputable def z27 (Φ:Fn):Prop:=∀p r:Int,Φ [.tup [.int p,.int r]]=some ([.tup [.int p,.int r]],(.int (2 * p+(if r=2 then 1 else 0)),false))
theorem z58 (Ψ:Str->Fn):z27 (zac [false] 3 (zba Ψ)):=λp r=>by
 have m2:oMult (.int 2) (.int p)=#v[(2 * p),0]:=oMult_l #v[0,9] #v[0,9];unfold zba;by_cases c:r=2
 ·subst c;simp! [m2]
 ·have dz : decide (r = 2) = false:=Ak c;simp! [m2,dz,c]
noncomputable def zgo (Φ:Fn):Prop:=∀(m:Nat) (w:W),okW w=true->Φ [.int (m:Nat),w]=some ([.int (m:Nat),w],(.bl (zdp m w),false))
theorem whole_no {a:W}(h:¬ ∃p,a=.int p):zb8 a=false:=by
 cases a with
 |int p=>exact absurd ⟨p,rfl⟩ h
 |_=>rfl
theorem form_no {m:Nat}{a b:W} (h:¬ ((∃p,a=.int p)/\∃r,b=.int r)):zdp m (.tup [a,b])=false:=by
  cases a with
  | int p =>
    cases b with
    |int r=>exact absurd ⟨⟨p,rfl⟩,r,rfl⟩ h
    |_=>rfl
  |_=>rfl
theorem z7g {m:Nat}{w:W}(h:¬ ∃ws,w=.tup ws):zdp m w=false:=by
 cases w with
 |tup ws=>exact absurd ⟨ws,rfl⟩ h
 |_=>rfl
theorem zs4 {Ψ:Str->Fn} (hR:RowM (Ψ "is_row")) (hW:zxv (Ψ "is_whole")) (hN:z27 (Ψ "letters_needed")):zgo (zac [false,false] 4 (zb4 Ψ)):=fun m w h=>by
  have r1:∀ws,Ψ "is_row" [.tup ws,.int 2]=some ([.tup ws,.int 2],(.bl (decide ((ws.length:Int)=2)),false)):=fun ws=>hR (.tup ws) 2 rfl;have r2:∀w,okW w=true->(∀ws,w≠.tup ws)->Ψ "is_row" [w,.int 2]=some ([w,.int 2],#v[9,7]):=fun w h hn=>by
    cases w with
    |tup ws=>exact absurd rfl (hn ws)
    |frl _=>cases h
    |dcz _ _=>cases h
    |_=>exact hR _ 2 rfl
  by_cases c:∃ws,w=.tup ws
  · obtain ⟨ws, rfl⟩ := c
    match ws,h with
    |[],_=>unfold zb4;simp! [r1,zdp]
    |[a],_=>unfold zb4;simp! [r1,zdp]
    | a::b::c::l,_ =>
      have e:decide (((a::b::c::l).length:Int)=2)=false:=Ak (by rw[Ay,Ay,Ay];omega);have q:=r1 (a::b::c::l);rw[e] at q;unfold zb4;simp! [q,zdp]
    | [a,b],h =>
      have hab:sh a=true/\sh b=true:=by
        rw[<-Ac];exact h
      have wa:=hW a hab.1;have wb:=hW b hab.2;unfold zb4;by_cases ca:∃p,a=.int p
      · by_cases cb : ∃ r, b = .int r
        · obtain ⟨p, rfl⟩ := ca
          obtain⟨r,rfl⟩:=cb;have w1:zb8 (.int p)=true:=rfl;have w2:zb8 (.int r)=true:=rfl;rw[w1] at wa;rw[w2] at wb;have nd:=hN p r;have fb:zdp m (.tup [.int p,.int r])=(decide (0<=p) && (decide (0<=r) && decide (r<=2)) && decide (2 * p+(if r=2 then 1 else 0)<=(m:Int))):=rfl;generalize 2 * p+(if r=2 then 1 else 0)=z at nd fb;rw[fb];cases c1:decide (0<=p) with
          |false=>simp! [r1,wa,wb,c1]
          | true =>
            cases c2:decide (0<=r) with
            |false=>simp! [r1,wa,wb,c1,c2]
            | true =>
              cases c3:decide (r<=2) with
              |false=>simp! [r1,wa,wb,c1,c2,c3]
              |true=>simp! [r1,wa,wb,c1,c2,c3,nd]
        · rw [form_no fun z => cb z.2]
          rw[whole_no cb] at wb;obtain⟨p,rfl⟩:=ca;rw[show zb8 (.int p)=true from rfl] at wa;simp! [r1,wa,wb]
      · rw [form_no fun z => ca z.1]
        rw[whole_no ca] at wa;simp! [r1,wa]
  · have q := r2 w h fun ws e => c ⟨ws, e⟩
    rw[z7g c];unfold zb4;simp! [q]
theorem ydv {Ψ:Str->Fn}{v0:Option (W × Bool)}{a b:W}(ha:sh a=true)(hb:sh b=true):zbr Ψ [v0,#v[[a,b],3]]=some ([v0,#v[[a,b],3]],(.lst ([zb8 a,zb8 b].map W.bl),true)):=by
 unfold zbr;refine zhl (cap:=[none,none]) (xs:=[]) (e0:=[v0,#v[[a,b],3]]) (ws:=[a,b]) (by simp! []) (by show 2<=1000;decide) rfl rfl rfl rfl (λ_ _=>rfl) λi u w r hw hr=>?_;have one:∀x:W,sh x=true->(gAnd (gOp1 (oIsi .int) (zaa 1)) (gNot (gOp1 (oIsi .bool) (zaa 1)))) [u,#v[x,6]]=some ([u,#v[x,6]],(.bl (zb8 x),false)):=λx hx=>by
  cases x with
  |frl x=>cases hx
  |dcz _ _=>cases hx
  |_=>rfl
 match i,hw,hr with
 |0,hw,hr=>cases hw;cases hr;exact⟨_,_,one a ha⟩
 |1,hw,hr=>cases hw;cases hr;exact⟨_,_,one b hb⟩
 |i+2,hw,hr=>cases hw
theorem zif (Ψ:Str->Fn):zgo (zac [false,false] 2 (zan Ψ)):=fun m w h=>by
  cases w with
  |frl x=>cases h
  |dcz _ _=>cases h
  | tup ws =>
    match ws,h with
    |[],_=>unfold zan;simp! [zdp]
    |[a],_=>unfold zan;simp! [zdp]
    | a::b::c::l,_ =>
      have e:decide (((l.length+1+1+1:Nat):Int)=2)=false:=Ak #v[];unfold zan;simp! [e,zdp]
    | [a,b],h =>
      have hab:sh a=true/\sh b=true:=by rw[<-Ac];exact h
      have c1:=ydv (Ψ:=Ψ) (v0:=#v[(m:Nat),0]) hab.1 hab.2;unfold zan;by_cases cab:(∃p,a=.int p)/\∃r,b=.int r
      · obtain ⟨⟨p, rfl⟩, r, rfl⟩ := cab
        have c1:zbr Ψ [some (.int (m:Nat),false),some (.tup [.int p,.int r],false)]=some ([some (.int (m:Nat),false),some (.tup [.int p,.int r],false)],(.lst ([true,true].map W.bl),true)):=c1;have al:([true,true].all id)=true:=rfl;have m2:oMult (.int 2) (.int p)=some (.int (2 * p),false):=oMult_l (by decide) (by decide);have ib:oInt [.bl (decide (r=2))]=some (.int (if r=2 then 1 else 0),false):=by
          by_cases c:r=2
          · rw[Af c,if_pos c];rfl
          · rw[Ak c,if_neg c];rfl
        have inn:oIn false (.int r) (.tup [.int 0,.int 1,.int 2])=some (.bl (decide (0<=r) && decide (r<=2)),false):=by
          show some (W.bl ((0 == r) || ((1 == r) || ((2 == r) || false))),false)=_;congr 3;rw[Ea];simp only [Bz,Gn,Ac,Bp,Et,or_false];omega
        have fb:zdp m (.tup [.int p,.int r])=(decide (0<=p) && (decide (0<=r) && decide (r<=2)) && decide (2 * p+(if r=2 then 1 else 0)<=(m:Int))):=rfl;generalize (if r=2 then (1:Int) else 0)=y at ib fb;rw[fb];generalize (decide (0<=r) && decide (r<=2))=q at inn fb ⊢;have i0:atI [W.int p,W.int r] 0=some (.int p):=rfl;have i1:atI [W.int p,W.int r] 1=some (.int r):=rfl;cases d1:decide (0<=p) with
        |false=>simp! [c1,al,i0,i1,d1]
        | true =>
          cases q with
          |false=>simp! [c1,al,i0,i1,d1,inn]
          |true=>simp! [c1,al,i0,i1,d1,inn,m2,ib]
      · rw [form_no cab]
        have al:([zb8 a,zb8 b].all id)=false:=by
          by_cases ca:∃p,a=.int p
          · rw [whole_no (a := b) fun z => cab ⟨ca, z⟩]
            cases zb8 a<;>rfl
          · rw[whole_no ca];rfl
        generalize [zb8 a,zb8 b]=bs at c1 al;simp! [c1,al]
  |_=>rfl
noncomputable def bitF (p i:Nat):Int:=((p / 2 ^ i % 2:Nat):Int)
theorem bitF_word:∀p:Fin 64,wordOf (tab 6 (bitF p.val))=(p.val:Int):=by decide +kernel
theorem bitF_bit (p i:Nat):Bit (bitF p i):=by unfold bitF Bit;omega
theorem bitF_hi {p n i:Nat}(h:p<2 ^ n)(hi:n<=i):bitF p i=0:=by
 unfold bitF;rw[Nat.div_eq_of_lt (Aw h (Cg #v[0,9] hi))];rfl
noncomputable def gN (is:List Nat) (s p n:Nat):Nat:=(dueL (bitF p) n).foldl (λt l=>t ^^^ is.getD l 0) s
theorem zxu (is:List Nat)(s p n:Nat):gN is s p (n+1)=if p / 2 ^ n % 2=1 then gN is s p n ^^^ is.getD n 0 else gN is s p n:=by
 unfold gN dueL;rw[Dz,Dv];have e:(bitF p n=1)↔(p / 2 ^ n % 2=1):=by unfold bitF;omega
 by_cases c:p / 2 ^ n % 2=1
 ·rw[if_pos c,Fm (p:=λq=>decide (bitF p q=1)) (Af (e.mpr c)),Dm,Fv];rfl
 ·rw[if_neg c,Fo (p:=λq=>decide (bitF p q=1)) (by rw[Ak (λz=>c (e.mp z))];decide),Dm,By]
theorem z2y {is:List Nat}{s p m:Nat} (hp:p < 2 ^ m):∀k,gN is s p (m+k)=gN is s p m
  |0=>rfl
  | k+1=>by
    rw[<-Nat.add_assoc,zxu,if_neg,z2y hp k];rw[Nat.div_eq_of_lt (Aw hp (Cg #v[0,9] #v[]))]
    decide
theorem getD_lt {m:Nat}{is:List Nat}(h:InM m is)(l:Nat):is.getD l 0<2 ^ m:=by
 rw[Ba];cases e:is[l]? with
 |none=>exact Gc #v[0,9]
 |some a=>exact h a (Av e)
theorem zus {m:Nat}{is:List Nat}(h:InM m is):∀(ls:List Nat) (s:Nat),s<2 ^ m->ls.foldl (λt l=>t ^^^ is.getD l 0) s<2 ^ m
 |[],s,hs=>hs
 |l::ls,s,hs=>zus h ls _ (Cd hs (getD_lt h l))
theorem z04 {is:List Nat}{l:Nat}(h:l<is.length):atI (castL is) (l:Int)=some (.int (is.getD l 0:Nat)):=zbd (by unfold castL;rw[An,Ba,Aa h];rfl)
noncomputable def zxt (Φ:Fn):Prop:=∀(m:Nat) (is:List Nat) (s p:Nat),m<=6->is.length=m->InM m is->s<2 ^ m->p<2 ^ m->Φ [tuW is s,.int (p:Nat)]=some ([tuW is s,.int (p:Nat)],(.int (gN is s p m:Nat),false))
theorem z94 {p m n l:Nat}(hp:p<2 ^ m)(h:l∈dueL (bitF p) n):l<m:=by
 unfold dueL at h;have:=Al (Dh.mp h).2;apply Nat.lt_of_not_le;intro z;rw[bitF_hi hp z] at this;cases this
theorem z74 {Ψ:Str->Fn}(hX:zxs (Ψ "plus")){m:Nat}{is:List Nat}{t l:Nat}{a b:Option (W × Bool)}(hm:m<=6)(hl:l<is.length)(hi:InM m is)(ht:t<2 ^ m):zkm Ψ [a,b,#v[(castL is),3],#v[(t:Nat),0],#v[(l:Nat),0]]=some ([a,b,#v[(castL is),3],#v[((t ^^^ is.getD l 0:Nat):Int),0],#v[(l:Nat),0]],.nx):=by
 have p6:=zcs hm;have x:=xorN (a:=t) (b:=is.getD l 0) #v[] (by have:=getD_lt hi l;omega);have h:=hX (t:Int) (is.getD l 0:Nat);rw[x] at h;have a1:=z04 hl;unfold zkm;simp! [a1,h]
theorem z3z {Ψ:Str->Fn}(hX:zxs (Ψ "plus"))(hW:zxo (Ψ "where")):zxt (zac [false,false] 5 (zpv Ψ)):=λm is s p hm hl hi hs hp=>by
 have p6:=zcs hm;have w1:=hW 6 (bitF p) (bitF_bit p) (λi h=>bitF_hi (n:=6) #v[] h) #v[0,9];rw[bitF_word ⟨p,by omega⟩] at w1;have lp:∃v4,znr Ψ [#v[tuW is s,6],#v[(p:Nat),0],#v[(castL is),3],#v[(s:Nat),0],none]=some ([#v[tuW is s,6],#v[(p:Nat),0],#v[(castL is),3],#v[(gN is s p 6:Nat),0],v4],.nx):=by
  unfold znr;obtain⟨en',h,v4,rfl⟩:=zav (mp:=[]) (T:=.nm 4) (body:=zkm Ψ) (it:=zaz (gCall [false] (Ψ "where") #v[2,9])) (λi e=>∃v4,e=[#v[tuW is s,6],#v[(p:Nat),0],#v[(castL is),3],#v[((((dueL (bitF p) 6).take i).foldl (λt l=>t ^^^ is.getD l 0) s:Nat):Int),0],v4]) (en:=[#v[tuW is s,6],#v[(p:Nat),0],#v[(castL is),3],#v[(s:Nat),0],none]) (e0:=[#v[tuW is s,6],#v[(p:Nat),0],#v[(castL is),3],#v[(s:Nat),0],none]) (ws:=castL (dueL (bitF p) 6)) (by simp! [w1]) ⟨_,rfl⟩ λi w e hw hq=>by
   obtain⟨v4,rfl⟩:=hq;obtain⟨l,hl',rfl⟩:=zbn hw;have ll:=z94 hp (Av hl');have tk:(dueL (bitF p) 6).take (i+1)=(dueL (bitF p) 6).take i++[l]:=by rw[Df,hl'];rfl
   refine⟨_,_,rfl,.inl (z74 hX hm #v[] hi (zus hi _ s hs)),#v[(l:Nat),0],?_⟩;rw[tk,Fv];rfl
  rw[zaj,Cb] at h;exact⟨v4,h⟩
 obtain⟨v4,lp⟩:=lp;have e6:gN is s p 6=gN is s p m:=by have:=z2y (is:=is) (s:=s) hp (6 - m);rw[show m+(6 - m)=6 by omega] at this;exact this
 rw[e6] at lp;unfold zpv;refine fn_ret (en:=[#v[tuW is s,6],#v[(p:Nat),0],#v[(castL is),3],#v[(gN is s p m:Nat),0],v4]) rfl (seq_e (e1:=[#v[tuW is s,6],#v[(p:Nat),0],#v[(castL is),3],#v[(s:Nat),0],none]) ?_ (seq_e lp ?_)) rfl
 ·unfold tuW;simp! []
 ·simp! []
noncomputable def turnF (is:List Nat) (s m:Nat) (xs:List Int) (p:Nat):Int:=xs.getD (gN is s p m) 0
noncomputable def zrj (Φ:Fn):Prop:=∀(m:Nat) (is:List Nat) (s:Nat) (xs:List Int),m<=6->is.length=m->InM m is->s<2 ^ m->Bits xs->Φ [.int (m:Nat),tuW is s,.int (wordOf xs)]=some ([.int (m:Nat),tuW is s,.int (wordOf xs)],(.int (wordOf (tab (2 ^ m) (turnF is s m xs))),false))
theorem zxz {Ψ:Str->Fn}(hS:z45 (Ψ "says"))(hN:zxt (Ψ "sent")){m:Nat}{is:List Nat}{s:Nat}{xs:List Int}(hm:m<=6)(hl:is.length=m)(hi:InM m is)(hs:s<2 ^ m)(hx:Bits xs):zhc Ψ [#v[(m:Nat),0],#v[tuW is s,6],#v[(wordOf xs),0]]=some ([#v[(m:Nat),0],#v[tuW is s,6],#v[(wordOf xs),0]],(.lst (castL ((List.range (2 ^ m)).filter λp=>decide (turnF is s m xs p=1))),true)):=by
 have p6:=zcs hm;have e1:=pow1 (l:=m) #v[];unfold zhc castL;refine zyh (xs:=[#v[tuW is s,6],#v[(wordOf xs),0]]) (λp:Nat=>W.int (0+(p:Int))) (λp=>decide (turnF is s m xs p=1)) (λp:Nat=>W.int (p:Nat)) (e0:=[#v[(m:Nat),0],#v[tuW is s,6],#v[(wordOf xs),0]]) (ts:=List.range (2 ^ m)) (zez (n:=2 ^ m) (by simp! [e1,one_mul_pow]) #v[]) (by rw[Be];omega) rfl rfl rfl (λ_ _=>rfl) λv0 p hp=>?_;have lp:=Bh.mp hp;have s1:=hN m is s p hm hl hi hs lp;have s2:=hS (wordOf xs) (gN is s p m) (zc7 hx);rw[zg9 hx] at s2;rw[Ez];refine⟨#v[(p:Nat),0],?_,λ_=>⟨#v[(p:Nat),0],false,by simp! []⟩⟩;unfold turnF;simp! [s1,s2]
theorem zun {Ψ:Str->Fn}(hS:z45 (Ψ "says"))(hN:zxt (Ψ "sent"))(hA:znp (Ψ "word_at")):zrj (zac [false,false,false] 3 (zgi Ψ)):=λm is s xs hm hl hi hs hx=>by
 have p6:=zcs hm;have c:=zxz (Ψ:=Ψ) hS hN hm hl hi hs hx;have w:=hA (2 ^ m) ((List.range (2 ^ m)).filter λp=>decide (turnF is s m xs p=1)) p6 (λp hp=>Bh.mp (Dh.mp hp).1);have e:(tab (2 ^ m) λi=>if i∈(List.range (2 ^ m)).filter (λp=>decide (turnF is s m xs p=1)) then (1:Int) else 0)=tab (2 ^ m) (turnF is s m xs):=tab_ext λi hi'=>by
  have b:=zjp hx (gN is s i m);by_cases z:turnF is s m xs i=1
  ·rw[if_pos (Dh.mpr ⟨Bh.mpr hi',Af z⟩),z]
  ·have nm : ¬ i ∈ (List.range (2 ^ m)).filter (λp=>decide (turnF is s m xs p = 1)):=λh=>z (by have:=(Dh.mp h).2; exact Al this);rw[if_neg nm];rcases b with y|y
   ·exact y.symm
   ·exact absurd y z
 rw[e] at w;unfold zgi;simp! [c,w]
theorem z9x {is:List Nat}{s p:Nat}:∀n,n<=is.length->gN is s p n=s ^^^ gs (is.take n) p
  |0,_=>by show s=s ^^^ 0;rw[Bs]
  | n+1,h=>by
    have ih:=z9x (is:=is) (s:=s) (p:=p) n (by omega);have tk:is.take (n+1)=is.take n++[is.getD n 0]:=by
      rw[Df,Aa #v[],Ba,Aa #v[]];rfl
    rw[zxu,ih,tk,zvs,Cn,Nat.min_eq_left #v[],Nat.testBit_eq_decide_div_mod_eq];by_cases c:p / 2 ^ n % 2=1
    · rw[if_pos c,if_pos (Af c),Bk]
    · rw[if_neg c,if_neg (by rw[Ak c];decide),Bs]
theorem eq_l {as bs:List Int}(h:∀n∈as,zot n)(h' : ∀n∈bs,zot n):oEq (.lst (as.map W.int)) (.lst (bs.map W.int))=some (.bl (decide (as=bs)),false):=by
 have dl:∀ns:List Int,dW (.lst (ns.map W.int))=some (.list (ns.map .int)):=λns=>by rw[dW,zw1 W.int .int (λ_=>by rw[dW]) ns];rfl
 have ly:∀ns:List Int,(PyData.list (ns.map .int)).canLay0=true:=λns=>by rw[PyData.canLay0];exact zi3 _ _ λn hn=>by rw[PyData.canLay0]
 have dp:(PyData.list (as.map .int)).depth<=100:=by
  rw[PyData.depth];have:=ziw (c:=0) PyData.int as λn hn=>by rw[PyData.depth];exact Ad _
  omega
 have e:eqD (.lst (as.map W.int)) (.lst (bs.map W.int))=some (decide (as=bs)):=by
  unfold eqD;rw[dl,dl];show (if (PyData.list (as.map .int)).canLay0 && (PyData.list (bs.map .int)).canLay0 && decide ((PyData.list (as.map .int)).depth<=100) then some (PyData.eqv (.list (as.map .int)) (.list (bs.map .int))) else none)=_;rw[ly,ly,Af dp];show some (PyData.eqv _ _)=_;rw[PyData.eqv,PySem.W.ked_eqvAll]
 show (eqD _ _).bind _=_;rw[e];rfl
noncomputable def duL (x:Nat × Nat):List (List Nat):=((List.range x.1).map λa=>[2 * a,2 * a+1])++(if x.2=0 then [] else if x.2=1 then [[]] else [[2 * x.1]])
noncomputable def zxq (Φ:Fn):Prop:=∀x,SmF x->Φ [fmW x]=some ([fmW x],(.lst ((duL x).map tmW),true))
theorem ybf (Ψ:Str->Fn):zxq (zac [false] 2 (zbe Ψ)):=λx h=>ybo (P:=λx=>zac [false] 2 (zbe Ψ) [fmW x]=some ([fmW x],(.lst ((duL x).map tmW),true))) (by kernel_rfl) (by kernel_rfl) (by kernel_rfl) (by kernel_rfl) (by kernel_rfl) (by kernel_rfl) (by kernel_rfl) (by kernel_rfl) (by kernel_rfl) (by kernel_rfl) (by kernel_rfl) (by kernel_rfl) h
theorem zrq:∀(m:Fin 7) (p:Fin 4) (r:Fin 3),2 * p.val+(if r.val=2 then 1 else 0)<=m.val->(dueT (p.val,r.val)).Nodup/\∀t∈dueT (p.val,r.val),t∈zem m.val m.val:=by decide +kernel
theorem z05:∀(p:Fin 4) (r:Fin 3),(dueT (p.val,r.val)).length<=64/\(duL (p.val,r.val)).length<=64/\∀t∈duL (p.val,r.val),t.length<=64/\∀l∈t,l<64:=by decide +kernel
theorem z9n:∀(p:Fin 4) (r:Fin 3) (q:Fin 64),valF (duL (p.val,r.val)) q.val=valF (dueT (p.val,r.val)) q.val:=by decide +kernel
noncomputable def FmOk (m:Nat) (x:Nat × Nat):Prop:=SmF x/\2 * x.1+(if x.2=2 then 1 else 0)<=m
theorem zjb {m:Nat}{w:W}(hm:m<=6)(h:zdp m w=true):∃x:Nat × Nat,w=fmW x/\FmOk m x:=by
 unfold zdp at h;split at h
 ·rename_i p r;rw[Ac,Ac,Ac,Bp,Bp,Bp,Bp] at h;obtain⟨⟨h1,h2,h3⟩,h4⟩:=h;obtain⟨p,rfl⟩:=Bg h1;obtain⟨r,rfl⟩:=Bg h2;refine⟨(p,r),rfl,?_⟩;by_cases c:r=2
  ·rw[if_pos #v[]] at h4;exact⟨⟨by show p<=3;omega,by show r<=2;omega⟩,by show 2 * p+(if r=2 then 1 else 0)<=m;rw[if_pos c];omega⟩
  ·rw[if_neg #v[]] at h4;exact⟨⟨by show p<=3;omega,by show r<=2;omega⟩,by show 2 * p+(if r=2 then 1 else 0)<=m;rw[if_neg c];omega⟩
 ·cases h
theorem z9r {m:Nat}{x:Nat × Nat}(h:FmOk m x):zdp m (fmW x)=true:=by
 obtain⟨⟨h1,h2⟩,h⟩:=h;show (decide (0<=(x.1:Int)) && (decide (0<=(x.2:Int)) && decide ((x.2:Int)<=2)) && decide (2 * (x.1:Int)+(if (x.2:Int)=2 then 1 else 0)<=(m:Int)))=true;rw[Af (show 0<=(x.1:Int) by omega),Af (show 0<=(x.2:Int) by omega),Af (show (x.2:Int)<=2 by omega),Bool.and_self,Bool.true_and,Bool.true_and];refine Af ?_;by_cases c:x.2=2
 ·rw[if_pos c] at h;rw[if_pos #v[]];omega
 ·rw[if_neg c] at h;rw[if_neg #v[]];omega
theorem z5l {m:Nat}{x:Nat × Nat}(hm:m<=6)(h:FmOk m x):zqy m (dueT x):=zrq ⟨m,by omega⟩ ⟨x.1,by have:=h.1.1;omega⟩ ⟨x.2,by have:=h.1.2;omega⟩ h.2
theorem zko {x:Nat × Nat}(h:SmF x):(dueT x).length<=64/\(duL x).length<=64/\∀t∈duL x,t.length<=64/\∀l∈t,l<64:=z05 ⟨x.1,by have:=h.1;omega⟩ ⟨x.2,by have:=h.2;omega⟩
theorem fm_val {x:Nat × Nat}{m:Nat}(hm:m<=6)(h:SmF x):tab (2 ^ m) (valF (duL x))=tab (2 ^ m) (valF (dueT x)):=tab_ext λi hi=>z9n ⟨x.1,by have:=h.1;omega⟩ ⟨x.2,by have:=h.2;omega⟩ ⟨i,by have:=zcs hm;omega⟩
theorem c2l {Ψ:Str->Fn}{a c e:Option (W × Bool)}{ts:List (List Nat)}{p:Nat}(h6:∀t∈ts,∀l∈t,l<64)(hl:∀t∈ts,t.length<=64)(hz:ts.length<=64):zfz Ψ [a,#v[(ts.map tmW),1],c,#v[(p:Nat),0],e]=some ([a,#v[(ts.map tmW),1],c,#v[(p:Nat),0],e],(.lst ((ts.filter λt=>hasT t p).map tmW),true)):=by
 unfold zfz;refine zyh (xs:=[#v[(p:Nat),0]]) tmW (λt=>hasT t p) tmW (e0:=[a,#v[(ts.map tmW),1],c,#v[(p:Nat),0],e]) (by simp! []) #v[] rfl rfl rfl (λ_ _=>rfl) λv0 t ht=>?_;have c1:=c1v (Ψ:=Ψ) (v0:=v0) (t:=t) (p:=p) (h6 t ht) (hl t ht);have al:(t.map λl=>decide (p / 2 ^ l % 2=1)).all id=hasT t p:=by unfold hasT;rw[List.all_map];rfl
 refine⟨#v[tmW t,6],?_,λ_=>⟨#v[tmW t,6],false,?_⟩⟩
 ·simp! [c1,al]
 ·simp! []
theorem b3l {Ψ:Str->Fn}{m i:Nat}{ts:List (List Nat)}{v4:Option (W × Bool)}(hi:i<=64)(hz:ts.length<=64)(h6:∀t∈ts,∀l∈t,l<64)(hl:∀t∈ts,t.length<=64):zei Ψ [#v[(m:Nat),0],#v[(ts.map tmW),1],#v[((tab i (valF ts)).map W.int),2],#v[(i:Nat),0],v4]=some ([#v[(m:Nat),0],#v[(ts.map tmW),1],#v[((tab (i+1) (valF ts)).map W.int),2],#v[(i:Nat),0],#v[((ts.filter λt=>hasT t i).map tmW),2]],.nx):=by
 have c2:=c2l (Ψ:=Ψ) (a:=#v[(m:Nat),0]) (c:=#v[((tab i (valF ts)).map W.int),2]) (e:=v4) (ts:=ts) (p:=i) h6 hl hz;have lt:(tab i (valF ts)).length<16777216:=by rw[tab_len];omega
 have em:(((ts.filter λt=>hasT t i).length:Nat):Int) % 2=valF ts i:=by unfold valF;omega
 rw[zqi i,Cs];unfold zei;simp! [c2,Ae,em,lt,Bd,List.map_nil]
theorem l3l {Ψ:Str->Fn}{m:Nat}{ts:List (List Nat)}(hm:m<=6)(hz:ts.length<=64)(h6:∀t∈ts,∀l∈t,l<64)(hl:∀t∈ts,t.length<=64):∃v3 v4,zfs Ψ [#v[(m:Nat),0],#v[(ts.map tmW),1],#v[[],2],none,none]=some ([#v[(m:Nat),0],#v[(ts.map tmW),1],#v[((tab (2 ^ m) (valF ts)).map W.int),2],v3,v4],.nx):=by
 have p6:=zcs hm;unfold zfs;obtain⟨en',h,v3,v4,rfl⟩:=zav (mp:=[]) (T:=.nm 3) (body:=zei Ψ) (λi e=>∃v3 v4,e=[#v[(m:Nat),0],#v[(ts.map tmW),1],#v[((tab i (valF ts)).map W.int),2],v3,v4]) (i3v (m:=m) (b:=#v[(ts.map tmW),1]) (c:=#v[[],2]) (d:=none) (e:=none) hm) ⟨_,_,rfl⟩ λi w e hw hp=>by
  obtain⟨v3,v4,rfl⟩:=hp;obtain⟨li,rfl⟩:=zbl hw;rw[Ez];exact⟨_,_,rfl,.inl (b3l #v[] hz h6 hl),_,_,rfl⟩
 rw[zap] at h;exact⟨v3,v4,h⟩
noncomputable def zo0 (Φ:Fn):Prop:=∀(m:Nat) (ts:List (List Nat)),m<=6->ts.length<=64->(∀t∈ts,∀l∈t,l<64)->(∀t∈ts,t.length<=64)->Φ [.int (m:Nat),.lst (ts.map tmW)]=some ([.int (m:Nat),.lst (ts.map tmW)],(.lst ((tab (2 ^ m) (valF ts)).map W.int),true))
theorem zqg (Ψ:Str->Fn):zo0 (zac [false,false] 5 (zk5 Ψ)):=λm ts hm hz h6 hl=>by
 obtain⟨v3,v4,lp⟩:=l3l (Ψ:=Ψ) hm hz h6 hl;unfold zk5;simp! [lp]
noncomputable def zyf (m:Nat) (xs:List Int) (th:W):Prop:=∃(I:List Nat) (s:Nat) (x:Nat × Nat),th=.tup [tuW I s,fmW x]/\zms m (tuW I s)/\FmOk m x/\(tab (2 ^ m) λp=>xs.getD (s ^^^ lin I p) 0)=tab (2 ^ m) (valF (dueT x))
theorem z2x {I J:List Nat}{s t:Nat}(h:tuW I s=tuW J t):I=J/\s=t:=by
 obtain⟨a,b⟩:=Bq (W.tup.inj h);obtain⟨b,_⟩:=Bq b;exact⟨ze9 (W.tup.inj a),Fc (W.int.inj b)⟩
theorem yaa {x y:Nat × Nat}(h:fmW x=fmW y):x=y:=by
 obtain⟨a,b⟩:=Bq (W.tup.inj h);obtain⟨b,_⟩:=Bq b;exact Prod.ext (Fc (W.int.inj a)) (Fc (W.int.inj b))
theorem show_at {m s:Nat}{xs:List Int}{I:List Nat}{x:Nat × Nat}(ht:zms m (tuW I s))(hf:FmOk m x):zyf m xs (.tup [tuW I s,fmW x])↔(tab (2 ^ m) λp=>xs.getD (s ^^^ lin I p) 0)=tab (2 ^ m) (valF (dueT x)):=by
 constructor
 ·rintro ⟨J,t,y,e,_,_,h⟩;obtain⟨a,b⟩:=Bq (W.tup.inj e);obtain⟨b,_⟩:=Bq b;obtain⟨rfl,rfl⟩:=z2x a;obtain rfl:=yaa b;exact h
 ·exact λh=>⟨I,s,x,rfl,ht,hf,h⟩
theorem show_not {m:Nat}{xs:List Int}{th:W}(h:¬ ∃a b,th=.tup [a,b]/\zms m a/\zdp m b=true):¬ zyf m xs th:=λ⟨I,s,x,e,h1,h2,_⟩=>h ⟨_,_,e,h1,z9r h2⟩
theorem z6k {n:Nat}{f g:Nat->Int}(hf:Bits (tab n f))(hg:Bits (tab n g))(h:wordOf (tab n f)=wordOf (tab n g)):tab n f=tab n g:=tab_ext λi hi=>by
 have a:=zg9 hf i;have b:=zg9 hg i;rw[h,b,Ba,Ba,tab_get hi,tab_get hi] at a;exact a.symm
theorem yab {L:Nat}{w:W} (h:Hd L w):okW w=true:=by
  cases w with
  | tup ws =>
    match ws,h with
    |[],_=>rfl
    |[_],_=>rfl
    | [a,b],h =>
      show (sh a && sh b)=true;rw[(h.inv.2 a (by simp)).sh,(h.inv.2 b (by simp)).sh];rfl
    |_::_::_::_,_=>rfl
  |frl x=>exact absurd (show false=true from h.sh) Ag
  |dcz _ _=>exact absurd (show false=true from h.sh) Ag
  |_=>rfl
noncomputable def z3d (Φ:Fn):Prop:=∀(m:Nat) (th:W) (xs:List Int) (L:Nat),m<=6->L<=100->Hd L th->Bits xs->xs.length=2 ^ m->∃b:Bool,Φ [.int (m:Nat),.int (wordOf xs),th]=some ([.int (m:Nat),.int (wordOf xs),th],(.bl b,false))/\(b=true↔zyf m xs th)
theorem z7h {Ψ:Str->Fn} (hR:RowM (Ψ "is_row")) (hT:zj9 (Ψ "is_turning")) (hF:zgo (Ψ "is_form")) (hU:zrj (Ψ "turned")) (hP:ya6 (Ψ "form_poly")) (hW:zrc (Ψ "word_of")):z3d (zac [false,false,false] 5 (za4 Ψ)):=fun m th xs L hm hL ht hx lx=>by
  have hsh:=ht.sh;by_cases c:∃a b,th=.tup [a,b]
  · obtain ⟨a, b, rfl⟩ := c
    have ha:=ht.inv.2 a (by simp);have hb:=ht.inv.2 b (by simp);obtain⟨b1,e1,i1⟩:=hT m a L hm hL ha;have e2:=hF m b (yab hb);have r1:Ψ "is_row" [.tup [a,b],.int 2]=some ([.tup [a,b],.int 2],#v[9,12]):=hR (.tup [a,b]) 2 rfl;have a0:atI [a,b] 0=some a:=rfl;have a1:atI [a,b] 1=some b:=rfl;cases b1 with
    | false =>
      refine⟨false,?_,(λz=>nomatch z),λz=>absurd z (show_not ?_)⟩
      · unfold za4;simp! [r1,a0,e1]
      · rintro ⟨a', b', e, h, _⟩
        obtain⟨ea,_⟩:=Bq (W.tup.inj e);rw[<-ea] at h;exact absurd (i1.mpr h) #v[0,9]
    | true =>
      cases q:zdp m b with
      | false =>
        rw[q] at e2;refine⟨false,?_,(λz=>nomatch z),λz=>absurd z (show_not ?_)⟩
        · unfold za4;simp! [r1,a0,a1,e1,e2]
        · rintro ⟨a', b', e, _, h⟩
          obtain⟨_,e⟩:=Bq (W.tup.inj e);obtain⟨eb,_⟩:=Bq e;rw[<-eb,q] at h;exact absurd h #v[0,9]
      | true =>
        rw [q] at e2;have tp:=i1.mp rfl;obtain ⟨I,s,rfl,hl,hI,hs,_⟩:=tp;have tp:=i1.mp rfl;obtain ⟨x,rfl,hf⟩:=zjb hm q;have t1:=hU m I s xs hm hl hI hs hx;have p1:=hP x hf.1;have w1:=hW m (dueT x) hm (zko hf.1).1 (z5l hm hf);have et:tab (2 ^ m) (turnF I s m xs)=tab (2 ^ m) fun p=>xs.getD (s ^^^ lin I p) 0:=tab_ext fun i hi=>by
          unfold turnF;rw[z9x m #v[],<-hl,Cb,zlx]
        rw[et] at t1;have bt:Bits (tab (2 ^ m) λp=>xs.getD (s ^^^ lin I p) 0):=zam λi _=>zjp hx _;have bv:=zrk m (dueT x);generalize hA:wordOf (tab (2 ^ m) λp=>xs.getD (s ^^^ lin I p) 0)=A at t1;generalize hB:wordOf (tab (2 ^ m) (valF (dueT x)))=B at w1;have oq:oEq (.int A) (.int B)=some (.bl (decide (A=B)),false):=rfl;refine⟨decide (A=B),?_,?_⟩
        · generalize tuW I s = u at r1 a0 a1 e1 t1 ⊢
          generalize fmW x=v at r1 a0 a1 e2 p1 ⊢;generalize W.tup ((dueT x).map tmW)=y at p1 w1;unfold za4;simp! [r1,a0,a1,e1,e2,t1,p1,w1,oq]
        · rw [Bp, show_at tp hf]
          constructor
          · intro z
            rw[<-hA,<-hB] at z;exact z6k bt bv z
          · intro z
            rw[<-hA,<-hB,z]
  · refine ⟨false, ?_, (fun z => nomatch z), fun z => absurd z (show_not fun ⟨a, b, e, _⟩ => c ⟨a, b, e⟩)⟩
    have r1:=hR th 2 hsh;have rn:rowN 2 th=false:=by
      cases th with
      | tup ws =>
        refine Ak λz=>?_
        match ws,z,c with
        |[],z,_=>simp at z
        |[_],z,_=>simp at z
        |[a,b],_,c=>exact c ⟨a,b,rfl⟩
        |_::_::_::ws,z,_=>simp at z;omega
      |_=>rfl
    rw[rn] at r1;have r1:Ψ "is_row" [th,.int 2]=some ([th,.int 2],#v[9,7]):=r1;unfold za4;simp! [r1]
noncomputable def zuy (Φ:Fn):Prop:=∀(m:Nat) (th:W) (xs:List Int) (L:Nat),m<=6->L<=100->Hd L th->Bits xs->xs.length=2 ^ m->∃b:Bool,Φ [.int (m:Nat),.lst (xs.map W.int),th]=some ([.int (m:Nat),.lst (xs.map W.int),th],(.bl b,false))/\(b=true↔zyf m xs th)
theorem bit_small {x:Int}(h:Bit x):zot x:=by
 rcases h with h|h<;>subst h<;>unfold zot<;>decide
theorem z1q {Ψ:Str->Fn} (hT:zj9 (Ψ "_law_is_turning")) (hF:zgo (Ψ "_law_is_form")) (hU:zmf (Ψ "_law_turned")) (hP:zxq (Ψ "_law_form_poly")) (hV:zo0 (Ψ "_law_values")):zuy (zac [false,false,false] 3 (za2 Ψ)):=fun m th xs L hm hL ht hx lx=>by
  have hsh:=ht.sh;by_cases c:∃a b,th=.tup [a,b]
  · obtain ⟨a, b, rfl⟩ := c
    have ha:=ht.inv.2 a (by simp);have hb:=ht.inv.2 b (by simp);obtain⟨b1,e1,i1⟩:=hT m a L hm hL ha;have e2:=hF m b (yab hb);have a0:atI [a,b] 0=some a:=rfl;have a1:atI [a,b] 1=some b:=rfl;cases b1 with
    | false =>
      refine⟨false,?_,(λz=>nomatch z),λz=>absurd z (show_not ?_)⟩
      · unfold za2;simp! [a0,e1]
      · rintro ⟨a', b', e, h, _⟩
        obtain⟨ea,_⟩:=Bq (W.tup.inj e);rw[<-ea] at h;exact absurd (i1.mpr h) #v[0,9]
    | true =>
      cases q:zdp m b with
      | false =>
        rw[q] at e2;refine⟨false,?_,(λz=>nomatch z),λz=>absurd z (show_not ?_)⟩
        · unfold za2;simp! [a0,a1,e1,e2]
        · rintro ⟨a', b', e, _, h⟩
          obtain⟨_,e⟩:=Bq (W.tup.inj e);obtain⟨eb,_⟩:=Bq e;rw[<-eb,q] at h;exact absurd h #v[0,9]
      | true =>
        rw[q] at e2;have tp:=i1.mp rfl;obtain⟨I,s,rfl,hl,hI,hs,_⟩:=tp;have tp:=i1.mp rfl;obtain⟨x,rfl,hf⟩:=zjb hm q;have t1:=hU m I s (λi=>xs.getD i 0) hm hl hI hs;rw[z2h lx] at t1;have p1:=hP x hf.1;obtain⟨_,f2,f3⟩:=zko hf.1;have w1:=hV m (duL x) hm f2 (λt h=>(f3 t h).2) λt h=>(f3 t h).1;rw[fm_val hm hf.1] at w1;have bt:Bits (tab (2 ^ m) λp=>xs.getD (s ^^^ lin I p) 0):=zam λi _=>zjp hx _;have bv:=zrk m (dueT x);have st:=show_at (xs:=xs) tp hf;generalize (tab (2 ^ m) λp=>xs.getD (s ^^^ lin I p) 0)=A at t1 bt st;generalize tab (2 ^ m) (valF (dueT x))=B at w1 bv st;have oq:=eq_l (as:=A) (bs:=B) (λn h=>bit_small (bt n h)) λn h=>bit_small (bv n h);refine⟨decide (A=B),?_,by rw[Bp,st]⟩;generalize tuW I s=u at a0 a1 e1 t1 ⊢;generalize fmW x=v at a0 a1 e2 p1 ⊢;generalize (duL x).map tmW=y at p1 w1;generalize xs.map W.int=z at t1 ⊢;unfold za2;simp! [a0,a1,e1,e2,t1,p1,w1,oq]
  · refine ⟨false, ?_, (fun z => nomatch z), fun z => absurd z (show_not fun ⟨a, b, e, _⟩ => c ⟨a, b, e⟩)⟩
    unfold za2;cases th with
    |frl _=>cases hsh
    |dcz _ _=>cases hsh
    | tup ws =>
      match ws,c,ht with
      |[],_,_=>simp! [];try rfl
      |[_],_,_=>simp! [];try rfl
      |[d,x],c,_=>exact absurd ⟨d,x,rfl⟩ c
      | a::b::d::ws,_,_ =>
        have n2:oNe (.int ((a::b::d::ws).length:Nat)) (.int 2)=some #v[9,12]:=by
          show some (W.bl (!decide (((a::b::d::ws).length:Int)=2)),false)=_;rw[Ak (by simp;omega)];rfl
        have sw:seqW (.tup (a::b::d::ws))=some (a::b::d::ws):=rfl;generalize a::b::d::ws=us at *
        simp! [sw,n2]
    |_=>simp! [];try rfl
noncomputable def zxf (Φ:Fn):Prop:=∀(k:Nat) (st:W) (m:Nat),HS k st->k+10<big->1<=m->m<=6->∃st' x,Φ [st,.int (m:Nat)]=some ([st',.int (m:Nat)],(fmW x,false))/\HS (k+2) st'/\FmOk m x
theorem zva {Ψ:Str->Fn}(hT:zel (Ψ "_law_take")):zxf (zac [true,false] 3 (G__law_form Ψ)):=λk st m hs hk h1 hm=>by
 obtain⟨st1,p,e1,g1,p0,p1⟩:=hT k st ((m:Int) / 2+1) hs #v[] #v[] #v[];obtain⟨p,rfl⟩:=Bg p0;have m2:oMult (.int 2) (.int (p:Int))=#v[(2 * (p:Int)),0]:=oMult_l #v[0,9] #v[0,9];have cd:cDiv (m:Int) 2=true:=by unfold cDiv;decide
 have oi:oInt [.bl true]=#v[1,0]:=rfl;have oj:oInt [.bl false]=#v[0,0]:=rfl;have a1:(2:Int)+1=3:=rfl;have a0:(2:Int)+0=2:=rfl;by_cases c:2 * (p:Int)<(m:Int)
 ·obtain⟨st2,r,e2,g2,r0,r1⟩:=hT (k + 1) st1 3 g1 #v[] #v[0,9] #v[0,9];obtain⟨r,rfl⟩:=Bg r0;have dc:=Af c;refine⟨st2,(p,r),?_,g2,⟨by show p<=3;omega,by show r<=2;omega⟩,?_⟩
  ·unfold G__law_form fmW;simp! [e1,cd,m2,dc,oi,a1,e2]
  ·show 2 * p + (if r = 2 then 1 else 0) ≤ m;split<;>omega
 ·obtain⟨st2,r,e2,g2,r0,r1⟩:=hT (k + 1) st1 2 g1 #v[] #v[0,9] #v[0,9];obtain⟨r,rfl⟩:=Bg r0;have dc:=Ak c;refine⟨st2,(p,r),?_,g2,⟨by show p<=3;omega,by show r<=2;omega⟩,?_⟩
  ·unfold G__law_form fmW;simp! [e1,cd,m2,dc,oj,a0,e2]
  ·show 2 * p + (if r = 2 then 1 else 0) ≤ m;rw[if_neg #v[]];omega
structure Drawn (m:Nat) (xs:List Int) (I:List Nat) (s:Nat) (x:Nat × Nat):Prop where
 lx:xs.length=2 ^ m
 bx:Bits xs
 li:I.length=m
 ii:InM m I
 ss:s<2 ^ m
 tp:zms m (tuW I s)
 fm:FmOk m x
 sh:zyf m xs (.tup [tuW I s,fmW x])
theorem zr2 {m s:Nat}{I:List Nat}(hl:I.length=m)(hI:InM m I)(hs:s<2 ^ m)(hn:LI I):zms m (tuW I s):=⟨I,s,rfl,hl,hI,hs,by
 subst hl;have:=(zg8 (zj3 I).1 (z9m I.length) ((zj3 I).2.trans hn)).length_eq;rw[this];exact zqr _⟩
theorem turn_inj {m s:Nat}{I:List Nat}(hl:I.length=m)(hI:InM m I)(hs:s<2 ^ m)(hn:zms m (tuW I s)){p q:Nat}(hp:p<2 ^ m)(hq:q<2 ^ m)(e:s ^^^ lin I p=s ^^^ lin I q):p=q:=by
 obtain⟨J,t,e2,_,_,_,hb⟩:=hn;obtain⟨rfl,rfl⟩:=z2x e2;have nd:=(zqu hl hI hs).mpr hb;rw[Du,Eb,Gu] at nd;rw[zlx,zlx] at e;rcases Nat.lt_trichotomy p q with c|c|c
 ·have:=nd p q (by rw[Be]; exact hp) (by rw[Be]; exact hq) c;rw[Er,Er] at this;exact absurd e this
 ·exact c
 ·have:=nd q p (by rw[Be]; exact hq) (by rw[Be]; exact hp) c;rw[Er,Er] at this;exact absurd e.symm this
noncomputable def z2v (Φ:Fn):Prop:=∀(k:Nat) (st:W) (m:Nat),HS k st->k+200<big->1<=m->m<=6->∃st' xs I s x,Φ [st,.int (m:Nat)]=some ([st',.int (m:Nat)],(.tup [.lst (xs.map W.int),.tup [tuW I s,fmW x]],false))/\HS (k+60) st'/\Drawn m xs I s x
theorem z5e {Ψ:Str->Fn}(hF:zxf (Ψ "_law_form"))(hT:zma (Ψ "_law_turning"))(hS:zkf (Ψ "_law_sent"))(hP:zxq (Ψ "_law_form_poly"))(hV:zo0 (Ψ "_law_values")):z2v (zac [true,false] 7 (G__law_case Ψ)):=λk st m hs hk h1 hm=>by
 have p6:=zcs hm;have pw:=pow1 (l:=m) #v[];have om:=one_mul_pow m;obtain⟨st1,x,e1,g1,fm⟩:=hF k st m hs #v[] h1 hm;obtain⟨st2,I,s,e2,g2,hl,hI,hs2,li⟩:=hT (k+2) st1 m g1 #v[] h1 hm;have e3:=hP x fm.1;obtain⟨_,f2,f3⟩:=zko fm.1;have e4:=hV m (duL x) hm f2 (λt h=>(f3 t h).2) λt h=>(f3 t h).1;have rc:=yec 0 hm;have tp:=zr2 hl hI hs2 li;have lp:∃(f:Nat->Int) (v5 v6:Option (W × Bool)),zdu Ψ [#v[st2,5],#v[(m:Nat),0],#v[fmW x,6],#v[tuW I s,6],#v[((tab (2 ^ m) λ_=>0).map W.int),2],none,none]=some ([#v[st2,5],#v[(m:Nat),0],#v[fmW x,6],#v[tuW I s,6],#v[((tab (2 ^ m) f).map W.int),2],v5,v6],.nx)/\(∀q,Bit (f q))/\∀p,p<2 ^ m->f (s ^^^ lin I p)=valF (duL x) p:=by
  unfold zdu;have hit:(zg0 (gCall [false,false] (Ψ "_law_values") (gCns #v[1,4] (gCns (gArg (gCall [false] (Ψ "_law_form_poly") (gCns #v[2,4] gA0))) gA0)))) [#v[st2,5],#v[(m:Nat),0],#v[fmW x,6],#v[tuW I s,6],#v[((tab (2 ^ m) λ_=>0).map W.int),2],none,none]=some ([#v[st2,5],#v[(m:Nat),0],#v[fmW x,6],#v[tuW I s,6],#v[((tab (2 ^ m) λ_=>0).map W.int),2],none,none],zej ((tab (2 ^ m) (valF (duL x))).map W.int) 0):=by
   generalize tuW I s=u;generalize fmW x=v at e3 ⊢;generalize (duL x).map tmW=y at e3 e4;simp! [e3,e4]
  obtain⟨en',h,f,v5,v6,rfl,hb,hf⟩:=zav (mp:=[0]) (T:=.tp [5,6]) (it:=zg0 (gCall [false,false] (Ψ "_law_values") (gCns #v[1,4] (gCns (gArg (gCall [false] (Ψ "_law_form_poly") (gCns #v[2,4] gA0))) gA0)))) (body:=zf4 Ψ) (λi e=>∃(f:Nat->Int) (v5 v6:Option (W × Bool)),e=[#v[st2,5],#v[(m:Nat),0],#v[fmW x,6],#v[tuW I s,6],#v[((tab (2 ^ m) f).map W.int),2],v5,v6]/\(∀q,Bit (f q))/\∀p,p<i->f (s ^^^ lin I p)=valF (duL x) p) (en:=[#v[st2,5],#v[(m:Nat),0],#v[fmW x,6],#v[tuW I s,6],#v[((tab (2 ^ m) λ_=>0).map W.int),2],none,none]) (e0:=[#v[st2,5],#v[(m:Nat),0],#v[fmW x,6],#v[tuW I s,6],#v[((tab (2 ^ m) λ_=>0).map W.int),2],none,none]) (ws:=zej ((tab (2 ^ m) (valF (duL x))).map W.int) 0) hit ⟨_,_,_,rfl,λ_=>.inl rfl,λp hp=>by omega⟩ λi w e hw hp=>by
   obtain⟨f,v5,v6,rfl,hb,hf⟩:=hp;obtain⟨y,hy,rfl⟩:=zt0 hw;have li' : i<2 ^ m:=by have:=(Aj.mp hy).1;rw[Ae,tab_len] at this;exact this
   rw[zgk li'] at hy;obtain rfl:=sI hy;have sn:=hS m I s i hm hl hI hs2 li';have pl:s ^^^ lin I i<2 ^ m:=Cd hs2 (zmp i hI);have si:=zka (i:=4) (k:=gCall [false,false] (Ψ "_law_sent") (gCns #v[3,4] (gCns #v[5,4] gA0))) (g:=gVar 6) (en:=[#v[st2,5],#v[(m:Nat),0],#v[fmW x,6],#v[tuW I s,6],#v[((tab (2 ^ m) f).map W.int),2],#v[(i:Nat),0],#v[(valF (duL x) i),0]]) (w:=.int (valF (duL x) i)) (ws:=(tab (2 ^ m) f).map W.int) (n:=((s ^^^ lin I i:Nat):Int)) (j:=s ^^^ lin I i) (f:=false) (f2:=false) rfl (by generalize tuW I s=u at sn ⊢;simp! [sn]) rfl (zwx (by rw[Ae,tab_len];exact pl));rw[<-List.map_set,z5q] at si;refine⟨_,_,rfl,.inl si,_,_,_,rfl,λq=>?_,λp hp=>?_⟩
   ·split
    ·exact z5x _ _
    ·exact hb q
   ·by_cases c : p = i
    ·subst c;rw[if_pos rfl]
    ·have ne : s ^^^ lin I p ≠ s ^^^ lin I i:=λz=>c (turn_inj hl hI hs2 tp #v[] #v[] z);rw[if_neg ne];exact hf p #v[]
  rw[zbo,Ae,tab_len] at hf;exact⟨f,v5,v6,h,hb,hf⟩
 obtain⟨f,v5,v6,lp,hb,hf⟩:=lp;refine⟨st2,tab (2 ^ m) f,I,s,x,?_,g2.mono #v[],⟨tab_len _ _,zam λi _=>hb i,hl,hI,hs2,tp,fm,(show_at tp fm).mpr ?_⟩⟩
 ·unfold G__law_case;refine fn_ret (en:=[#v[st2,5],#v[(m:Nat),0],#v[fmW x,6],#v[tuW I s,6],#v[((tab (2 ^ m) f).map W.int),1],v5,v6]) rfl (seq_e (e1:=[#v[st2,5],#v[(m:Nat),0],#v[fmW x,6],#v[tuW I s,6],none,none,none]) ?_ (seq_e (e1:=[#v[st2,5],#v[(m:Nat),0],#v[fmW x,6],#v[tuW I s,6],#v[((tab (2 ^ m) λ_=>0).map W.int),2],none,none]) ?_ (seq_e lp ?_))) rfl
  ·generalize tuW I s = u at e2 ⊢;generalize fmW x=v at e1 ⊢;simp! [e1,e2]
  ·simp! [pw,om,rc]
  ·generalize tuW I s = u;generalize fmW x=v;simp! []
 ·rw[<- fm_val hm fm.1];refine tab_ext λi hi=>?_;rw[<-hf i hi,Ba,tab_get (Cd hs2 (zmp i hI))];rfl
noncomputable def EO (st:W) (m:Nat) (I:List Nat) (s:Nat) (x:Nat × Nat) (v7 v8 v9 v10 v11:Option (W × Bool)):En:=[#v[st,5],#v[(m:Nat),0],#v[[tuW I s,fmW x],3],#v[(castL I),3],#v[(s:Nat),0],#v[(x.1:Nat),0],#v[(x.2:Nat),0],v7,v8,v9,v10,v11]
noncomputable def zl7 (Φ:Fn):Prop:=∀(k:Nat) (st:W) (m s:Nat) (I:List Nat) (x:Nat × Nat),HS k st->k+10<big->1<=m->m<=6->I.length=m->∃st' w,Φ [st,.int (m:Nat),.tup [tuW I s,fmW x]]=some ([st',.int (m:Nat),.tup [tuW I s,fmW x]],(w,false))/\HS (k+3) st'/\Hd 31 w
section
variable {st:W}{m s a:Nat}{I:List Nat}{x:Nat × Nat}{v8 v9 v10 v11:Option (W × Bool)}
theorem xI (hl:I.length<=6){v7:Option (W × Bool)}:Ax (zaa 3) (EO st m I s x v7 v8 v9 v10 v11) (IG (Hd 31) 6):=zu3 (w:=.tup (castL I)) (fl:=false) rfl ⟨castL I,rfl,by rw[zaj];exact hl,λu hu=>by
 unfold castL at hu;obtain⟨y,_,rfl⟩:=Bw.mp hu;exact za1 _⟩
theorem no31 {w:W}(a:sh w=true)(b:∀us,w≠.tup us):Hd 31 w:=.oth _ a b
theorem e_p2 {g1 g2:GE}{en:En}(h1:Ex g1 en (Hd 31))(h2:Ex g2 en (Hd 31)):Ex (zab (gCns (gArg g1) (gCns (gArg g2) gA0))) en (Hd 31):=by
 obtain⟨ws,e,l,q⟩:=xs_c h1 (xs_c h2 xs_0);refine⟨.tup ws,false,?_,.tup _ #v[] q⟩;unfold zab;rw[e];show (zbh (ws.map Sum.inl)).bind _=_;rw[zce];show (if ws.length<=sizeLine then _ else none)=_;rw[if_pos (Ct (show ws.length<=1000 by omega) #v[0,9])]
theorem e_p3 {g1 g2 g3:GE}{en:En}(h1:Ex g1 en (Hd 31))(h2:Ex g2 en (Hd 31))(h3:Ex g3 en (Hd 31)):Ex (zab (gCns (gArg g1) (gCns (gArg g2) (gCns (gArg g3) gA0)))) en (Hd 31):=by
 obtain⟨ws,e,l,q⟩:=xs_c h1 (xs_c h2 (xs_c h3 xs_0));refine⟨.tup ws,false,?_,.tup _ #v[] q⟩;unfold zab;rw[e];show (zbh (ws.map Sum.inl)).bind _=_;rw[zce];show (if ws.length<=sizeLine then _ else none)=_;rw[if_pos (Ct (show ws.length<=1000 by omega) #v[0,9])]
theorem yS {v7:Option (W × Bool)}:Ex (gVar 4) (EO st m I s x v7 v8 v9 v10 v11) (Hd 31):=zp5 rfl (za1 _)
theorem yP {v7:Option (W × Bool)}:Ex (gVar 5) (EO st m I s x v7 v8 v9 v10 v11) (Hd 31):=zp5 rfl (za1 _)
theorem yR {v7:Option (W × Bool)}:Ex (gVar 6) (EO st m I s x v7 v8 v9 v10 v11) (Hd 31):=zp5 rfl (za1 _)
theorem yI (hl:I.length<=6){v7:Option (W × Bool)}:Ex (gVar 3) (EO st m I s x v7 v8 v9 v10 v11) (Hd 31):=zp5 (w:=.tup (castL I)) rfl (hd_c #v[])
theorem xLst {as:GAs}{en:En}{n:Nat}(h:Xs as en n (Hd 31))(hn:n<=1000):Ex (zag as) en (Hd 31):=by
 obtain⟨ws,e,_,_⟩:=zha h hn;exact⟨_,_,e,no31 rfl λ_=>by simp⟩
theorem vwA (hl:I.length<=6)(ha:a<6):∃ws,zag (gCns (gArg (zab (gCns #v[3,4] (gCns (gArg (gOp2 (oI yes2 λi j=>.int (Builtin.bitXor i j)) (zaa 4) (gArg (gOp2 #v[0,0,1] #v[1] (zaa 7))))) gA0)))) (gCns (gArg (zab (gCns (gArg (znz (zaa 3) (zcc (gOp1 oNeg #v[1])))) (gCns #v[4,4] gA0)))) (gCns (gArg (zab (gCns (gArg (gOp2 oAdd (gArg (gSl (zaa 3) zao (zcc (gVar 7)))) (gArg (gSl (zaa 3) (zcc (gOp2 oAdd (zaa 7) #v[1])) zao)))) (gCns #v[4,4] gA0)))) (gCns #v[3,4] gA0)))) (EO st m I s x (#v[(a:Nat),0]) v8 v9 v10 v11)=some (EO st m I s x (#v[(a:Nat),0]) v8 v9 v10 v11,(.lst ws,true))/\ws.length=4/\∀w∈ws,Hd 31 w:=by
 have pw:=pow1 (l:=a) #v[];have om:=one_mul_pow a;refine zha (xs_c (e_p2 (yI hl) ⟨.int (Builtin.bitXor (s:Int) ((2 ^ a:Nat):Int)),false,?_,za1 _⟩) (xs_c (e_p2 ((ybl (xI hl) rfl).wk (zr7 #v[0,9])) yS) (xs_c (e_p2 ((zp7 (zhw (z1p (l:=none) (h:=some (a:Int)) (xI hl) rfl rfl)) (zhw (z1p (l:=some ((a:Int)+1)) (h:=none) (xI hl) rfl rfl)) #v[0,9]).wk (zr7 #v[0,9])) yS) (xs_c (yI hl) xs_0)))) #v[0,9];unfold EO;generalize tuW I s=u;generalize fmW x=v;simp! [pw,om]
theorem z6c (w:W)(hw:Hd 31 w){n:Nat}(h1:1<=n)(h6:n<=6):∃v fl,zo4 (.tup [w]) (.int (n:Nat))=some (v,fl)/\Hd 31 v:=by
 have s9:(1000:Nat)<=sizeLine:=by decide
 unfold zo4;by_cases c:n=1
 ·subst c;exact⟨.tup [w],false,rfl,hd_1 #v[0,9] hw⟩
 ·refine⟨.tup (List.replicate n [w]).flatten,false, ?_,.tup _ ?_ λu hu => ?_⟩
  ·show (if (n : Int) = 1 then _ else if (n : Int) = 0 then _ else if 2 ≤ (n : Int) /\ (n : Int)<4611686018427387904 /\ 1 * n ≤ sizeLine then _ else none) = _;rw[if_neg #v[],if_neg #v[],if_pos ⟨by omega,by omega,by omega⟩]
   rfl
  ·simp only [List.length_flatten,List.map_replicate,List.sum_replicate_nat,List.length_singleton];omega
  ·obtain⟨l,hl,hu⟩:=List.mem_flatten.mp hu;rw[(List.mem_replicate.mp hl).2] at hu;rw[Ap.mp hu];exact hw
theorem vwB (hl:I.length=m) (h1:1<=m) (hm:m<=6) {v7:Option (W × Bool)}:∃ws,zag (gCns (gArg (zab (gCns (gArg (gOp2 oAdd (zaa 3) (gArg (zab (gCns (gArg (gC (.int 0))) gA0))))) (gCns (gArg (gVar 4)) gA0)))) (gCns (gArg (zab (gCns (gArg (gOp2 zo4 (gArg (gSl (zaa 3) zao (zcc (gC (.int 1))))) (zaa 1))) (gCns (gArg (gVar 4)) gA0)))) (gCns (gArg (zab (gCns (gArg (gOpN z0z (gCns (zaa 3) gA0))) (gCns (gArg (gVar 4)) gA0)))) (gCns (gArg (zab (gCns (gArg (gVar 3)) (gCns (gArg (gOp2 (oI cPow fun i j=>.int (i * 2 ^ j.toNat)) (gArg (gC (.int 1))) (zaa 1))) gA0)))) gA0)))) (EO st m I s x v7 v8 v9 v10 v11)=some (EO st m I s x v7 v8 v9 v10 v11,(.lst ws,true))/\ws.length=4/\∀w∈ws,Hd 31 w:=by
  have pw:=pow1 (l:=m) #v[];have om:=one_mul_pow m;have hi:I.length<=6:=by omega
  refine zha (xs_c (e_p2 ((zp7 (xI hi) (zhw (zt4 (ex_c (za1 0)))) #v[0,9]).wk (zr7 #v[0,9])) yS) (xs_c (e_p2 ?_ yS) (xs_c (e_p2 ⟨_,_,rfl,no31 rfl λ_=>by simp⟩ yS) (xs_c (e_p2 (yI hi) ⟨.int ((2 ^ m:Nat):Int),false,?_,za1 _⟩) xs_0)))) #v[0,9]
  · match I, hl with
    |[],hl=>exact absurd hl (by show ¬ 0=m;omega)
    | i::I,hl =>
      refine z23 (P:=λw=>w=.tup [.int (i:Nat)]) (Q:=λw=>w=.int (m:Nat)) (zhw ⟨.tup [.int (i:Nat)],false,?_,rfl⟩) (zu3 (fl:=false) rfl rfl) λu v p q=>?_
      · unfold EO
        generalize tuW (i::I) s=u;generalize fmW x=v
        rfl
      · subst p; subst q
        exact z6c _ (za1 _) h1 hm
  · unfold EO
    generalize tuW I s=u;generalize fmW x=v;simp! [pw,om]
theorem vwC (hl:I.length<=6):∃ws,zag (gCns (gArg (zab (gCns #v[3,4] (gCns #v[4,4] (gCns #v[0] gA0))))) (gCns (gArg (zab (gCns #v[3,4] (gCns (gArg (gC .non)) gA0)))) (gCns (gArg (zab (gCns #v[3,4] (gCns (gArg (gC (.bl true))) gA0)))) (gCns (gArg (zab (gCns (gArg (gOp2 oAdd (gArg (gSl (zaa 3) (zcc (gVar 7)) zao)) (gArg (gSl (zaa 3) zao (zcc (gVar 7)))))) (gCns #v[4,4] gA0)))) (gCns (gArg (gC .non)) gA0))))) (EO st m I s x (#v[(a:Nat),0]) v8 v9 v10 v11)=some (EO st m I s x (#v[(a:Nat),0]) v8 v9 v10 v11,(.lst ws,true))/\ws.length=5/\∀w∈ws,Hd 31 w :=
 zha (xs_c (e_p3 (yI hl) yS (ex_c (za1 0))) (xs_c (e_p2 (yI hl) (ex_c (no31 rfl λ_=>by simp))) (xs_c (e_p2 (yI hl) (ex_c (no31 rfl λ_=>by simp))) (xs_c (e_p2 ((zp7 (zhw (z1p (l:=some (a:Int)) (h:=none) (xI hl) rfl rfl)) (zhw (z1p (l:=none) (h:=some (a:Int)) (xI hl) rfl rfl)) #v[0,9]).wk (zr7 #v[0,9])) yS) (xs_c (ex_c (no31 rfl λ_=>by simp)) xs_0))))) #v[0,9]
theorem vwD {v7:Option (W × Bool)}:∃ws,zag (gCns (gArg (zab (gCns (gArg (gOp2 oAdd (zaa 5) #v[1])) (gCns #v[6,4] gA0)))) (gCns (gArg (zab (gCns (gArg (gOp2 #v[0,0,0] (zaa 5) #v[1])) (gCns #v[6,4] gA0)))) (gCns (gArg (zab (gCns #v[5,4] (gCns (gArg (gOp2 #v[0,0,2] (gArg (gOp2 oAdd (zaa 6) #v[1])) #v[3])) gA0)))) (gCns (gArg (zab (gCns #v[5,4] (gCns #v[3] gA0)))) (gCns (gArg (zab (gCns #v[5,4] (gCns #v[6,4] (gCns #v[0] gA0))))) gA0))))) (EO st m I s x v7 v8 v9 v10 v11)=some (EO st m I s x v7 v8 v9 v10 v11,(.lst ws,true))/\ws.length=5/\∀w∈ws,Hd 31 w:=by
 refine zha (xs_c (e_p2 ⟨.int ((x.1:Int)+1),false,?_,za1 _⟩ yR) (xs_c (e_p2 ⟨.int ((x.1:Int) - 1),false,?_,za1 _⟩ yR) (xs_c (e_p2 yP ⟨.int (((x.2:Int)+1) % 3),false,?_,za1 _⟩) (xs_c (e_p2 yP (ex_c (za1 3))) (xs_c (e_p3 yP yR (ex_c (za1 0))) xs_0))))) #v[0,9]
 all_goals
  unfold EO;generalize tuW I s=u;generalize fmW x=v;simp! []
theorem vwE {v7:Option (W × Bool)}:∃ws,zag (gCns (gArg (zag (gCns #v[5,4] (gCns #v[6,4] gA0)))) (gCns (gArg (zab (gCns (gArg (gC (.bl true))) (gCns #v[6,4] gA0)))) (gCns (gArg (zab (gCns #v[5,4] (gCns (gArg (gOp2 oEq (zaa 6) #v[1])) gA0)))) (gCns (gArg (zab (gCns #v[6,4] (gCns #v[5,4] gA0)))) (gCns #v[5,4] (gCns (gArg (gC .non)) (gCns (gArg (zab (gCns #v[5,4] (gCns (gArg (gC .non)) gA0)))) gA0))))))) (EO st m I s x v7 v8 v9 v10 v11)=some (EO st m I s x v7 v8 v9 v10 v11,(.lst ws,true))/\ws.length=7/\∀w∈ws,Hd 31 w:=by
 refine zha (xs_c (xLst (xs_c yP (xs_c yR xs_0)) #v[0,9]) (xs_c (e_p2 (ex_c (no31 rfl λ_=>by simp)) yR) (xs_c (e_p2 yP ⟨.bl (decide ((x.2:Int)=1)),false,?_,no31 rfl λ_=>by simp⟩) (xs_c (e_p2 yR yP) (xs_c yP (xs_c (ex_c (no31 rfl λ_=>by simp)) (xs_c (e_p2 yP (ex_c (no31 rfl λ_=>by simp))) xs_0))))))) #v[0,9];unfold EO;generalize tuW I s=u;generalize fmW x=v;simp! []
theorem vwF (hl:I.length<=6){v7:Option (W × Bool)}:∃ws,zag (gCns (gArg (zag (gCns (gArg (zab (gCns #v[3,4] (gCns #v[4,4] gA0)))) (gCns (gArg (zab (gCns #v[5,4] (gCns #v[6,4] gA0)))) gA0)))) (gCns (gArg (zab (gCns (gArg (zab (gCns #v[5,4] (gCns #v[6,4] gA0)))) (gCns (gArg (zab (gCns #v[3,4] (gCns #v[4,4] gA0)))) gA0)))) (gCns (gArg (zab (gCns (gArg (zab (gCns #v[3,4] (gCns #v[4,4] gA0)))) gA0))) (gCns (gArg (gOp2 oAdd (zaa 2) (gArg (zab (gCns #v[0] gA0))))) (gCns (gArg (gC .non)) gA0))))) (EO st m I s x v7 v8 v9 v10 v11)=some (EO st m I s x v7 v8 v9 v10 v11,(.lst ws,true))/\ws.length=5/\∀w∈ws,Hd 31 w:=by
 have hx:Ax (zaa 2) (EO st m I s x v7 v8 v9 v10 v11) (IG (Hd 31) 2):=zu3 (w:=.tup [tuW I s,fmW x]) (fl:=false) rfl ⟨_,rfl,Ad _,λu hu=>by
  rcases At.mp hu with rfl|hu
  ·exact z0b #v[0,9] #v[]
  ·rw[Ap.mp hu];exact hd_2 #v[0,9] (za1 _) (za1 _)⟩
 exact zha (xs_c (xLst (xs_c (e_p2 (yI hl) yS) (xs_c (e_p2 yP yR) xs_0)) #v[0,9]) (xs_c (e_p2 (e_p2 yP yR) (e_p2 (yI hl) yS)) (xs_c ((zt4 (e_p2 (yI hl) yS)).wk (zr7 #v[0,9])) (xs_c ((zp7 hx (zhw (zt4 (ex_c (za1 0)))) #v[0,9]).wk (zr7 #v[0,9])) (xs_c (ex_c (no31 rfl λ_=>by simp)) xs_0))))) #v[0,9]
end
theorem tdE {g1 g2:GE}{en e1 e2:En}{w1 w2:W}{f1 f2:Bool}(h1:g1 en=some (e1,(w1,f1)))(h2:g2 e1=some (e2,(w2,f2))):zab (gCns (gArg g1) (gCns (gArg g2) gA0)) en=some (e2,(.tup [w1,w2],false)):=by
 simp only [zab,gCns,gArg,gA0,h1,h2,Dr]
 rfl
theorem z81 {c:GT}{a b:GS}{en e' : En}(h:c en=#v[e',5]):gIfS c a b en=a e':=by unfold gIfS;rw[h]
theorem z4n {c:GT}{a b:GS}{en e' : En}(h:c en=#v[e',6]):gIfS c a b en=b e':=by unfold gIfS;rw[h]
theorem zs8 {Ψ:Str->Fn}(hK:zel (Ψ "_law_take")){k m s:Nat}{st:W}{I:List Nat}{x:Nat × Nat}{y:Int}{S O:List W}{v7:Option (W × Bool)}(hs:HS k st)(hk:k+5<big)(hl:I.length<=6)(lS:S.length=13)(qS:∀w∈S,Hd 31 w)(lO:O.length=13)(qO:∀w∈O,Hd 31 w):∃st' w v11,(gSeq (gIfS (zad (gOp2 (oI yes2 λi j=>.bl (decide (i<j))) (zaa 10) #v[2])) (gRet (zab (gCns (gArg (gOp2 oIx (zaa 8) (gArg (gCall [true,false] (Ψ "_law_take") (gCns (zaa 0) (gCns (gArg (gOpN oLen (gCns (zaa 8) gA0))) gA0)))))) (gCns (gArg (zab (gCns #v[5,4] (gCns #v[6,4] gA0)))) gA0)))) zau) (gSeq (gIfS (zad (gOp2 (oI yes2 λi j=>.bl (decide (i<j))) (zaa 10) #v[4])) (gRet (zab (gCns (gArg (zab (gCns #v[3,4] (gCns #v[4,4] gA0)))) (gCns (gArg (gOp2 oIx (zaa 9) (gArg (gCall [true,false] (Ψ "_law_take") (gCns (zaa 0) (gCns (gArg (gOpN oLen (gCns (zaa 9) gA0))) gA0)))))) gA0)))) zau) (gSeq (gSet [0] 11 (zag (gCns (gArg (zag (gCns (gArg (zab (gCns #v[3,4] (gCns #v[4,4] gA0)))) (gCns (gArg (zab (gCns #v[5,4] (gCns #v[6,4] gA0)))) gA0)))) (gCns (gArg (zab (gCns (gArg (zab (gCns #v[5,4] (gCns #v[6,4] gA0)))) (gCns (gArg (zab (gCns #v[3,4] (gCns #v[4,4] gA0)))) gA0)))) (gCns (gArg (zab (gCns (gArg (zab (gCns #v[3,4] (gCns #v[4,4] gA0)))) gA0))) (gCns (gArg (gOp2 oAdd (zaa 2) (gArg (zab (gCns #v[0] gA0))))) (gCns (gArg (gC .non)) gA0))))))) (gRet (gOp2 oIx (zaa 11) (gArg (gCall [true,false] (Ψ "_law_take") (gCns (zaa 0) (gCns #v[5] gA0))))))))) (EO st m I s x v7 (#v[S,2]) (#v[O,2]) (#v[y,0]) none)=some (EO st' m I s x v7 (#v[S,2]) (#v[O,2]) (#v[y,0]) v11,.ret (w,false))/\HS (k+1) st'/\Hd 31 w:=by
 have t2:zad (gOp2 (oI yes2 λi j=>.bl (decide (i<j))) (zaa 10) #v[2]) (EO st m I s x v7 (#v[S,2]) (#v[O,2]) (#v[y,0]) none)=some (EO st m I s x v7 (#v[S,2]) (#v[O,2]) (#v[y,0]) none,decide (y<2)):=by
  unfold EO;generalize tuW I s=u;generalize fmW x=v;cases c:decide (y<2)<;>simp! [c]
 have t4:zad (gOp2 (oI yes2 λi j=>.bl (decide (i<j))) (zaa 10) #v[4]) (EO st m I s x v7 (#v[S,2]) (#v[O,2]) (#v[y,0]) none)=some (EO st m I s x v7 (#v[S,2]) (#v[O,2]) (#v[y,0]) none,decide (y<4)):=by
  unfold EO;generalize tuW I s=u;generalize fmW x=v;cases c:decide (y<4)<;>simp! [c]
 by_cases c:y<2
 ·rw[Af c] at t2;obtain⟨st3,r,e3,g3,r0,r1⟩:=hK k st ((S.length:Nat):Int) hs #v[] #v[] #v[];have tk:gCall [true,false] (Ψ "_law_take") (gCns (zaa 0) (gCns (gArg (gOpN oLen (gCns (zaa 8) gA0))) gA0)) (EO st m I s x v7 (#v[S,2]) (#v[O,2]) (#v[y,0]) none)=some (EO st3 m I s x v7 (#v[S,2]) (#v[O,2]) (#v[y,0]) none,(.int r,false)):=z3x (x:=.lst S) (fl:=true) rfl rfl e3;obtain⟨w,hw,qw⟩ : ∃w,gOp2 oIx (zaa 8) (gArg (gCall [true,false] (Ψ "_law_take") (gCns (zaa 0) (gCns (gArg (gOpN oLen (gCns (zaa 8) gA0))) gA0)))) (EO st m I s x v7 (#v[S,2]) (#v[O,2]) (#v[y,0]) none)=some (EO st3 m I s x v7 (#v[S,2]) (#v[O,2]) (#v[y,0]) none,(w,false))/\Hd 31 w:=zwh (i:=8) rfl rfl qS tk r0 r1;obtain⟨w2,f2,h2,q2⟩:=e_p2 (yP (st:=st3) (m:=m) (I:=I) (s:=s) (x:=x) (v7:=v7) (v8:=#v[S,2]) (v9:=#v[O,2]) (v10:=#v[y,0]) (v11:=none)) yR;exact⟨st3,.tup [w,w2],none,seq_rt ((z81 t2).trans (zf5 (tdE hw h2))),g3,hd_2 #v[0,9] qw q2⟩
 ·rw[Ak c] at t2;by_cases c4:y<4
  ·rw[Af c4] at t4;obtain⟨st3,r,e3,g3,r0,r1⟩:=hK k st ((O.length:Nat):Int) hs #v[] #v[] #v[];have tk:gCall [true,false] (Ψ "_law_take") (gCns (zaa 0) (gCns (gArg (gOpN oLen (gCns (zaa 9) gA0))) gA0)) (EO st m I s x v7 (#v[S,2]) (#v[O,2]) (#v[y,0]) none)=some (EO st3 m I s x v7 (#v[S,2]) (#v[O,2]) (#v[y,0]) none,(.int r,false)):=z3x (x:=.lst O) (fl:=true) rfl rfl e3;obtain⟨w,hw,qw⟩ : ∃w,gOp2 oIx (zaa 9) (gArg (gCall [true,false] (Ψ "_law_take") (gCns (zaa 0) (gCns (gArg (gOpN oLen (gCns (zaa 9) gA0))) gA0)))) (EO st m I s x v7 (#v[S,2]) (#v[O,2]) (#v[y,0]) none)=some (EO st3 m I s x v7 (#v[S,2]) (#v[O,2]) (#v[y,0]) none,(w,false))/\Hd 31 w:=zwh (i:=9) rfl rfl qO tk r0 r1;obtain⟨w2,f2,h2,q2⟩:=e_p2 (yI (st:=st) (m:=m) (I:=I) (s:=s) (x:=x) (v7:=v7) (v8:=#v[S,2]) (v9:=#v[O,2]) (v10:=#v[y,0]) (v11:=none) hl) yS;exact⟨st3,.tup [w2,w],none,seq_e (z4n t2) (seq_rt ((z81 t4).trans (zf5 (tdE h2 hw)))),g3,hd_2 #v[0,9] q2 qw⟩
  ·rw [Ak c4] at t4;obtain ⟨ws,lF,nF,qF⟩:=vwF (st:=st) (m:=m) (I:=I) (s:=s) (x:=x) (v7:=v7) (v8:=some (.lst S,true)) (v9:=some (.lst O,true)) (v10:=some (.int y,false)) (v11:=none) hl;obtain ⟨st3,r,e3,g3,r0,r1⟩:=hK k st 5 hs (by omega) (by decide) (by decide);have tk:gCall [true,false] (Ψ "_law_take") (gCns (zaa 0) (gCns (gArg (gC (.int 5))) gA0)) (EO st m I s x v7 (some (.lst S,true)) (some (.lst O,true)) (some (.int y,false)) (some (.lst ws,true)))=some (EO st3 m I s x v7 (some (.lst S,true)) (some (.lst O,true)) (some (.int y,false)) (some (.lst ws,true)),(.int r,false)):=by
    unfold EO;generalize tuW I s=u;generalize fmW x=v;simp! [e3]
   obtain⟨w,hw,qw⟩ : ∃w,gOp2 oIx (zaa 11) (gArg (gCall [true,false] (Ψ "_law_take") (gCns (zaa 0) (gCns #v[5] gA0)))) (EO st m I s x v7 (#v[S,2]) (#v[O,2]) (#v[y,0]) (#v[ws,2]))=some (EO st3 m I s x v7 (#v[S,2]) (#v[O,2]) (#v[y,0]) (#v[ws,2]),(w,false))/\Hd 31 w:=zwh (i:=11) rfl rfl qF tk r0 #v[];exact⟨st3,w,#v[ws,2],seq_e (z4n t2) (seq_e (z4n t4) (seq_e (e1:=EO st m I s x v7 (#v[S,2]) (#v[O,2]) (#v[y,0]) (#v[ws,2])) (zdz (mp:=[0]) (i:=11) lF rfl) (zf5 hw))),g3,qw⟩
theorem zzv {Ψ:Str->Fn}(hK:zel (Ψ "_law_take")):zl7 (zac [true,false,false] 12 (zbb Ψ)):=λk st m s I x hs hk h1 hm hl=>by
 obtain⟨st1,a,e1,g1,a0,a1⟩:=hK k st (m:Nat) hs #v[] #v[] #v[];obtain⟨a,rfl⟩:=Bg a0;have hi:I.length<=6:=by omega
 obtain⟨wA,lA,nA,qA⟩:=vwA (st:=st1) (m:=m) (s:=s) (a:=a) (I:=I) (x:=x) (v8:=none) (v9:=none) (v10:=none) (v11:=none) hi #v[];obtain⟨wB,lB,nB,qB⟩:=vwB (st:=st1) (m:=m) (s:=s) (I:=I) (x:=x) (v7:=#v[(a:Nat),0]) (v8:=#v[wA,2]) (v9:=none) (v10:=none) (v11:=none) hl h1 hm;have aB:=z7v (i:=8) (en:=EO st1 m I s x (#v[(a:Nat),0]) (#v[wA,2]) none none none) rfl lB #v[];obtain⟨wC,lC,nC,qC⟩:=vwC (st:=st1) (m:=m) (s:=s) (a:=a) (I:=I) (x:=x) (v8:=#v[(wA++wB),2]) (v9:=none) (v10:=none) (v11:=none) hi;have aC:=z7v (i:=8) (en:=EO st1 m I s x (#v[(a:Nat),0]) (#v[(wA++wB),2]) none none none) rfl lC (by rw[Az];omega);have lS:(wA++wB++wC).length=13:=by rw[Az,Az];omega
 have qS:∀w∈wA++wB++wC,Hd 31 w:=zhg (zhg qA qB) qC;generalize wA++wB++wC=S at aC lS qS;obtain⟨wD,lD,nD,qD⟩:=vwD (st:=st1) (m:=m) (s:=s) (I:=I) (x:=x) (v7:=#v[(a:Nat),0]) (v8:=#v[S,2]) (v9:=none) (v10:=none) (v11:=none);obtain⟨wE,lE,nE,qE⟩:=vwE (st:=st1) (m:=m) (s:=s) (I:=I) (x:=x) (v7:=#v[(a:Nat),0]) (v8:=#v[S,2]) (v9:=#v[wD,2]) (v10:=none) (v11:=none);have aE:=z7v (i:=9) (en:=EO st1 m I s x (#v[(a:Nat),0]) (#v[S,2]) (#v[wD,2]) none none) rfl lE #v[];have lDE:(wD++wE).length=12:=by rw[Az];omega
 have qDE:∀w∈wD++wE,Hd 31 w:=zhg qD qE;generalize wD++wE=D at aE lDE qDE;have lt:D.length<16777216:=by omega
 have ap:zdk (gApp 9 (zab (gCns #v[5,4] (gCns (gArg (gOp1 oNeg #v[1])) gA0)))) (EO st1 m I s x (#v[(a:Nat),0]) (#v[S,2]) (#v[D,2]) none none)=some (EO st1 m I s x (#v[(a:Nat),0]) (#v[S,2]) (#v[(D++[.tup [.int (x.1:Nat),.int (-1)]]),2]) none none,.nx):=by
  unfold EO;generalize tuW I s=u;generalize fmW x=v;simp! [lt]
 have lO:(D++[W.tup [.int (x.1:Nat),.int (-1)]]).length=13:=by rw[Az];show D.length+1=13;omega
 have qO:∀w∈D++[W.tup [.int (x.1:Nat),.int (-1)]],Hd 31 w:=zu0 qDE (hd_2 #v[0,9] (za1 _) (za1 _));generalize D++[W.tup [.int (x.1:Nat),.int (-1)]]=O at ap lO qO;obtain⟨st2,y,e2,g2,y0,y1⟩:=hK (k+1) st1 5 g1 #v[] #v[0,9] #v[0,9];obtain⟨st3,w,v11,tl,g3,qw⟩:=zs8 (Ψ:=Ψ) hK (m:=m) (s:=s) (I:=I) (x:=x) (y:=y) (v7:=#v[(a:Nat),0]) g2 #v[] hi lS qS lO qO;refine⟨st3,w,?_,g3,qw⟩;unfold zbb;refine fn_ret (en:=EO st3 m I s x (#v[(a:Nat),0]) (#v[S,2]) (#v[O,2]) (#v[y,0]) v11) rfl (seq_e (e1:=EO st m I s x none none none none none) rfl (seq_e (e1:=EO st1 m I s x (#v[(a:Nat),0]) none none none none) ?_ (seq_e (e1:=EO st1 m I s x (#v[(a:Nat),0]) (#v[wA,2]) none none none) (zdz (mp:=[0]) (i:=8) lA rfl) (seq_e (e1:=EO st1 m I s x (#v[(a:Nat),0]) (#v[(wA++wB),2]) none none none) (zdz (mp:=[0]) (i:=8) aB rfl) (seq_e (e1:=EO st1 m I s x (#v[(a:Nat),0]) (#v[S,2]) none none none) (zdz (mp:=[0]) (i:=8) aC rfl) (seq_e (e1:=EO st1 m I s x (#v[(a:Nat),0]) (#v[S,2]) (#v[wD,2]) none none) (zdz (mp:=[0]) (i:=9) lD rfl) (seq_e (e1:=EO st1 m I s x (#v[(a:Nat),0]) (#v[S,2]) (#v[D,2]) none none) (zdz (mp:=[0]) (i:=9) aE rfl) (seq_e ap (seq_e (e1:=EO st2 m I s x (#v[(a:Nat),0]) (#v[S,2]) (#v[O,2]) (#v[y,0]) none) ?_ tl))))))))) rfl
 ·unfold EO;generalize tuW I s=u;generalize fmW x=v;simp! [e1]
 ·unfold EO;generalize tuW I s=u;generalize fmW x=v;simp! [e2]
structure Fns (Ψ:Str->Fn):Prop where
 hK:zel (Ψ "_law_take")
 hC:z2v (Ψ "_law_case")
 hF:zxf (Ψ "_law_form")
 hO:zl7 (Ψ "_law_otherwise")
 hS:z3d (Ψ "shows_form")
 hL:zuy (Ψ "_law_shown")
 hW:z3i (Ψ "_law_word")
 hB:z3g (Ψ "_law_bits")
theorem z9b {Ψ:Str->Fn}(F:Fns Ψ){m:Nat}{xs:List Int}{w:W}{v0 v1 v2 v4 v5 v6 v9:Option (W × Bool)}(hm:m<=6)(hx:Bits xs)(lx:xs.length=2 ^ m)(hw:Hd 31 w):∃w9,zqw Ψ [v0,v1,v2,#v[(m:Nat),0],v4,v5,v6,#v[(xs.map W.int),1],#v[w,6],v9]=some ([v0,v1,v2,#v[(m:Nat),0],v4,v5,v6,#v[(xs.map W.int),1],#v[w,6],w9],.nx):=by
 obtain⟨b,e1,i1⟩:=F.hS m w xs 31 hm #v[0,9] hw hx lx;obtain⟨b2,e2,i2⟩:=F.hL m w xs 31 hm #v[0,9] hw hx lx;have bb:b=b2:=Ea.mpr (i1.trans i2.symm);subst bb;have e0:=F.hW xs;have nb:oNe (.bl b) (.bl b)=some #v[9,7]:=by cases b<;>rfl
 refine⟨some (.bl b,false),?_⟩;generalize xs.map W.int=z at e0 e2 ⊢;unfold zqw;refine seq_e (e1:=[v0,v1,v2,#v[(m:Nat),0],v4,v5,v6,#v[z,1],#v[w,6],some (.bl b,false)]) ?_ ?_
 ·simp! [e0,e1]
 ·simp! [e2,nb]
theorem z8l {Ψ:Str->Fn}(F:Fns Ψ){m:Nat}{xs:List Int}{ws:List W}{fl:Bool}{v0 v1 v2 v4 v5 v8 v9:Option (W × Bool)}(hm:m<=6)(hx:Bits xs)(lx:xs.length=2 ^ m)(hw:∀w∈ws,Hd 31 w):∃w8 w9,zvv Ψ [v0,v1,v2,#v[(m:Nat),0],v4,v5,some (.lst ws,fl),#v[(xs.map W.int),1],v8,v9]=some ([v0,v1,v2,#v[(m:Nat),0],v4,v5,#v[ws,1],#v[(xs.map W.int),1],w8,w9],.nx):=by
 unfold zvv;obtain⟨en',h,w8,w9,rfl⟩:=zav (mp:=[]) (T:=.nm 8) (it:=zaz (gVar 6)) (body:=zqw Ψ) (λi e=>∃w8 w9,e=[v0,v1,v2,#v[(m:Nat),0],v4,v5,#v[ws,1],#v[(xs.map W.int),1],w8,w9]) (en:=[v0,v1,v2,#v[(m:Nat),0],v4,v5,some (.lst ws,fl),#v[(xs.map W.int),1],v8,v9]) (e0:=[v0,v1,v2,#v[(m:Nat),0],v4,v5,#v[ws,1],#v[(xs.map W.int),1],v8,v9]) (ws:=ws) (by cases fl<;>rfl) ⟨_,_,rfl⟩ λi w e h hp=>by
  obtain⟨w8,w9,rfl⟩:=hp;obtain⟨x9,hb⟩:=z9b (Ψ:=Ψ) F (m:=m) (xs:=xs) (w:=w) (v0:=v0) (v1:=v1) (v2:=v2) (v4:=v4) (v5:=v5) (v6:=#v[ws,1]) (v9:=w9) hm hx lx (hw w (Av h));exact⟨_,_,rfl,.inl hb,_,_,rfl⟩
 exact⟨w8,w9,h⟩
theorem yar {Ψ:Str->Fn}(F:Fns Ψ){k m:Nat}{st:W}{xs:List Int}{ws:List W}{v0 v2 v5 v7 v8 v9:Option (W × Bool)}(hs:HS k st)(hk:k+100<big)(hm:m<=6)(hx:Bits xs)(lx:xs.length=2 ^ m)(hw:∀w∈ws,Hd 31 w):∃st' w6 w7 w8 w9,zw2 Ψ [v0,#v[st,5],v2,#v[(m:Nat),0],#v[(xs.map W.int),1],v5,#v[ws,2],v7,v8,v9]=some ([v0,#v[st',5],v2,#v[(m:Nat),0],#v[(xs.map W.int),1],v5,w6,w7,w8,w9],.nx)/\HS (k+66) st':=by
 have p6:=zcs hm;have pw:=pow1 (l:=m) #v[];have om:=one_mul_pow m;obtain⟨st1,ys,e1,g1,ly,by_⟩:=F.hB k st ((2 ^ m:Nat):Int) hs #v[] #v[] #v[];have ly:ys.length=2 ^ m:=Fc ly;unfold zw2;have hit:zaz (zab (gCns #v[4,4] (gCns (gArg (gCall [true,false] (Ψ "_law_bits") (gCns (zaa 1) (gCns (gArg (gOp2 #v[0,0,1] #v[1] (zaa 3))) gA0)))) gA0))) [v0,#v[st,5],v2,#v[(m:Nat),0],#v[(xs.map W.int),1],v5,#v[ws,2],v7,v8,v9]=some ([v0,#v[st1,5],v2,#v[(m:Nat),0],#v[(xs.map W.int),1],v5,#v[ws,2],v7,v8,v9],[.lst (xs.map W.int),.lst (ys.map W.int)]):=by
  generalize xs.map W.int=x;generalize ys.map W.int=y at e1 ⊢;simp! [pw,om,e1]
 obtain⟨en',h,fl,w7,w8,w9,rfl⟩:=zav (mp:=[]) (T:=.nm 7) (body:=z2u Ψ) (λi e=>∃(fl:Bool) (w7 w8 w9:Option (W × Bool)),e=[v0,#v[st1,5],v2,#v[(m:Nat),0],#v[(xs.map W.int),1],v5,some (.lst ws,fl),w7,w8,w9]) hit ⟨true,_,_,_,rfl⟩ λi w e h hp=>by
  obtain⟨fl,w7,w8,w9,rfl⟩:=hp;have:∃zs:List Int,w=.lst (zs.map W.int)/\Bits zs/\zs.length=2 ^ m:=by
   rcases At.mp (Av h) with h|h
   ·exact⟨xs,h,hx,lx⟩
   ·exact⟨ys,Ap.mp h,by_,ly⟩
  obtain⟨zs,rfl,hz,lz⟩:=this;obtain⟨x8,x9,hb⟩:=z8l (Ψ:=Ψ) F (m:=m) (xs:=zs) (ws:=ws) (fl:=fl) (v0:=v0) (v1:=#v[st1,5]) (v2:=v2) (v4:=#v[(xs.map W.int),1]) (v5:=v5) (v8:=w8) (v9:=w9) hm hz lz hw;exact⟨_,_,rfl,.inl hb,false,_,_,_,rfl⟩
 exact⟨st1,_,w7,w8,w9,h,g1⟩
theorem z9z {Ψ:Str->Fn}(F:Fns Ψ){k m s:Nat}{st:W}{I:List Nat}{x:Nat × Nat}{v0 v2 v4 v6 v7 v8 v9:Option (W × Bool)}(hs:HS k st)(hk:k+100<big)(h1:1<=m)(hm:m<=6)(hl:I.length=m):∃st' ws,zx5 Ψ [v0,#v[st,5],v2,#v[(m:Nat),0],v4,#v[[tuW I s,fmW x],3],v6,v7,v8,v9]=some ([v0,#v[st',5],v2,#v[(m:Nat),0],v4,#v[[tuW I s,fmW x],3],v6,v7,v8,v9],(.lst ws,true))/\HS (k+24) st'/\ws.length=8/\∀w∈ws,Hd 31 w:=by
 have s9:(1000:Nat)<=sizeLine:=by decide
 have hO:=F.hO;unfold zx5;have other:∀(k:Nat) (st:W),HS k st->k+10<big->∃st' w,Ψ "_law_otherwise" [st,.int (m:Nat),.tup [tuW I s,fmW x]]=some ([st',.int (m:Nat),.tup [tuW I s,fmW x]],(w,false))/\HS (k+3) st'/\Hd 31 w:=λk st hs hk=>hO k st m s I x hs hk h1 hm hl;generalize W.tup [tuW I s,fmW x]=R at other ⊢;obtain⟨ce',out,hc,w0,w1,st',rfl,g,ol,oq⟩:=zer (cap:=[none,none,some 3,some 5,some 1]) (T:=.nm 1) (it:=za8 (gCns #v[8] gA0)) (tc:=gYes) (te:=gCall [true,false,false] (Ψ "_law_otherwise") (gCns (zaa 4) (gCns #v[2,4] (gCns #v[3,4] gA0)))) (λi c dn=>∃(w0 w1:Option (W × Bool)) (st' : W),c=[w0,w1,#v[(m:Nat),0],#v[R,6],#v[st',5]]/\HS (k+3 * i) st'/\dn.length=i/\∀w∈dn,Hd 31 w) (en:=[v0,#v[st,5],v2,#v[(m:Nat),0],v4,#v[R,6],v6,v7,v8,v9]) (e0:=[v0,#v[st,5],v2,#v[(m:Nat),0],v4,#v[R,6],v6,v7,v8,v9]) (ws:=rngW 0 8) (zez (n:=8) (by simp! [];try rfl) #v[0,9]) rfl (by rw[zap];omega) ⟨_,_,_,rfl,hs,rfl,λw hw=>by cases hw⟩ λi w c dn hw hp=>by
  obtain⟨w0,w1,st',rfl,g,ol,oq⟩:=hp;obtain⟨li,rfl⟩:=zbl hw;obtain⟨st2,z,e2,g2,qz⟩:=other (k+3 * i) st' g #v[];refine⟨[w0,#v[(0+(i:Int)),0],#v[(m:Nat),0],#v[R,6],#v[st',5]],rfl,.inl ⟨[w0,#v[(0+(i:Int)),0],#v[(m:Nat),0],#v[R,6],#v[st',5]],[w0,#v[(0+(i:Int)),0],#v[(m:Nat),0],#v[R,6],#v[st2,5]],(z,false),rfl,?_,w0,#v[(0+(i:Int)),0],st2,rfl,g2.mono #v[],by rw[Az,ol];rfl,zu0 oq qz⟩⟩;generalize W.int (0+(i:Int))=u;simp! [e2]
 rw[zap] at g ol;exact⟨st',out,hc,g,ol,oq⟩
theorem yc2 {i:Nat}{g:GE}{en en' : En}{us ws:List W}(h8:en[i]?=some (#v[us,2]))(h9:en'[i]?=some (#v[us,2]))(h:g en=some (en',(.lst ws,true)))(hl:us.length+ws.length<=1000):gOp2 oAdd (zaa i) (gArg g) en=some (en',(.lst (us++ws),true)):=by
 refine op2_ev (e1:=en) (x:=.inr i) (y:=.inl (.lst ws)) (by unfold zaa;rw[h8]) (arg_ev h) ?_ rfl (yby hl);show (match en'[i]? with|some (some (w,_))=>some w|_=>none)=_;rw[h9]
theorem z61 {x:Nat × Nat}:Hd 31 (fmW x):=hd_2 #v[0,9] (za1 _) (za1 _)
theorem z82 {Ψ:Str->Fn}(F:Fns Ψ){k:Nat}{st:W}{v0 v2 v3 v4 v5 v6 v7 v8 v9:Option (W × Bool)}(hs:HS k st)(hk:k+1000<big):∃st' w3 w4 w5 w6 w7 w8 w9,zp3 Ψ [v0,#v[st,5],v2,v3,v4,v5,v6,v7,v8,v9]=some ([v0,#v[st',5],v2,w3,w4,w5,w6,w7,w8,w9],.nx)/\HS (k+220) st':=by
 obtain⟨st1,r,e1,g1,r0,r1⟩:=F.hK k st 6 hs #v[] #v[0,9] #v[0,9];obtain⟨r,rfl⟩:=Bg r0;have ec:(1:Int)+(r:Int)=((1+r:Nat):Int):=by omega
 generalize hmr:1+r=m at ec;have h1:1<=m:=by omega
 have hm:m<=6:=by omega
 obtain⟨st2,xs,I,s,x,e2,g2,D⟩:=F.hC (k+1) st1 m g1 #v[] h1 hm;have hR:Hd 31 (.tup [tuW I s,fmW x]):=hd_2 #v[0,9] (z0b #v[0,9] (by have:=D.li;omega)) z61;obtain⟨b,e3,i3⟩:=F.hS m (.tup [tuW I s,fmW x]) xs 31 hm #v[0,9] hR D.bx D.lx;have bt:b=true:=i3.mpr D.sh;subst bt;have e0:=F.hW xs;have oi:zq0 (.bl true) (.bl true)=some #v[9,7]:=rfl;obtain⟨st3,ys,I2,s2,x2,e4,g4,D2⟩:=F.hC (k+61) st2 m (g2.mono #v[]) #v[] h1 hm;obtain⟨st4,x3,e5,g5,f5⟩:=F.hF (k+121) st3 m (g4.mono #v[]) #v[] h1 hm;obtain⟨st5,ws,c1,g6,lw,qw⟩:=z9z (Ψ:=Ψ) F (k:=k+123) (m:=m) (s:=s) (st:=st4) (I:=I) (x:=x) (v0:=v0) (v2:=v2) (v4:=#v[(xs.map W.int),1]) (v6:=#v[[.tup [tuW I s,fmW x],.tup [tuW I2 s2,fmW x2],.tup [tuW I s,fmW x3],.non,.int 0,.str "",.tup [],.lst [],.dic],2]) (v7:=v7) (v8:=v8) (v9:=v9) (g5.mono #v[]) #v[] h1 hm D.li;have no:∀{w:W},sh w=true->(∀us,w≠.tup us)->Hd 31 w:=λa b=>.oth _ a b;have q6:∀w∈[W.tup [tuW I s,fmW x],.tup [tuW I2 s2,fmW x2],.tup [tuW I s,fmW x3],.non,.int 0,.str "",.tup [],.lst [],.dic],Hd 31 w:=by
  intro w hw;simp only [At,Ei,or_false] at hw;rcases hw with rfl|rfl|rfl|rfl|rfl|rfl|rfl|rfl|rfl
  ·exact hR
  ·exact hd_2 #v[0,9] (z0b #v[0,9] (by have:=D2.li;omega)) z61
  ·exact hd_2 #v[0,9] (z0b #v[0,9] (by have:=D.li;omega)) z61
  ·exact no rfl λ_=>by simp
  ·exact no rfl λ_=>by simp
  ·exact no rfl λ_=>by simp
  ·exact .tup _ (Ca _) λu hu=>by cases hu
  ·exact no rfl λ_=>by simp
  ·exact no rfl λ_=>by simp
 have ad:=yc2 (i:=6) rfl rfl c1 (by rw[lw];show 9+8<=1000;decide);obtain⟨st6,w6,w7,w8,w9,l3,g7⟩:=yar (Ψ:=Ψ) F (k:=k+147) (m:=m) (st:=st5) (xs:=xs) (ws:=[W.tup [tuW I s,fmW x],.tup [tuW I2 s2,fmW x2],.tup [tuW I s,fmW x3],.non,.int 0,.str "",.tup [],.lst [],.dic]++ws) (v0:=v0) (v2:=v2) (v5:=#v[[tuW I s,fmW x],3]) (v7:=v7) (v8:=v8) (v9:=v9) (g6.mono #v[]) #v[] hm D.bx D.lx (zhg q6 qw);refine⟨st6,#v[(m:Nat),0],#v[(xs.map W.int),1],#v[[tuW I s,fmW x],3],w6,w7,w8,w9,?_,g7.mono #v[]⟩;unfold zp3;refine seq_e (e1:=[v0,#v[st1,5],v2,#v[(m:Nat),0],v4,v5,v6,v7,v8,v9]) ?_ (seq_e (e1:=[v0,#v[st2,5],v2,#v[(m:Nat),0],#v[(xs.map W.int),1],#v[[tuW I s,fmW x],3],v6,v7,v8,v9]) ?_ (seq_e (e1:=[v0,#v[st2,5],v2,#v[(m:Nat),0],#v[(xs.map W.int),1],#v[[tuW I s,fmW x],3],v6,v7,v8,v9]) ?_ (seq_e (e1:=[v0,#v[st4,5],v2,#v[(m:Nat),0],#v[(xs.map W.int),1],#v[[tuW I s,fmW x],3],#v[[.tup [tuW I s,fmW x],.tup [tuW I2 s2,fmW x2],.tup [tuW I s,fmW x3],.non,.int 0,.str "",.tup [],.lst [],.dic],2],v7,v8,v9]) ?_ (seq_e (e1:=[v0,#v[st5,5],v2,#v[(m:Nat),0],#v[(xs.map W.int),1],#v[[tuW I s,fmW x],3],#v[([W.tup [tuW I s,fmW x],.tup [tuW I2 s2,fmW x2],.tup [tuW I s,fmW x3],.non,.int 0,.str "",.tup [],.lst [],.dic]++ws),2],v7,v8,v9]) (zdz (mp:=[]) (i:=6) ad rfl) l3))))
 ·simp! [e1,ec]
 ·generalize W.tup [tuW I s,fmW x] = R at e2 ⊢;generalize xs.map W.int=z at e2 ⊢;simp! [e2]
 ·generalize W.tup [tuW I s,fmW x] = R at e3 ⊢;generalize xs.map W.int=z at e0 ⊢;simp! [e0,e3,oi]
 ·have a0 : atI [tuW I s,fmW x] 0 = some (tuW I s):=rfl;generalize tuW I s=u at a0 ⊢;generalize fmW x=v at a0 ⊢;generalize fmW x3=v3 at e5 ⊢;generalize W.tup [tuW I2 s2,fmW x2]=R2 at e4 ⊢;generalize xs.map W.int=z;generalize W.lst (ys.map W.int)=y at e4;have a1:atI [y,R2] 1=some R2:=rfl;simp! [e4,a1,a0,e5]
  try rfl
theorem z0g (ns:List Int)(hl:ns.length<=63):sem T bn 40 "law" [.frl (ns.map W.int)]=some ([.frl (ns.map W.int)],#v[9,12]):=by
 have bb:(30000:Nat)<big:=by decide
 rw[ydd];generalize hΨ:sem T bn 39=Ψ;have hH:z2j (Ψ "_law_hand"):=by rw[<-hΨ,zpk];exact z7w (sem T bn 0)
 have hTk:∀d,zel (sem T bn (d+3) "_law_take"):=λd=>by rw[zon];exact z33 (sem T bn 0)
 have hWt:∀d,WtN (sem T bn (d+6) "without_tops"):=λd=>by
  rw[zic];exact wt_n (by rw[zvk];exact z8u (zxh (sem T bn 0))) (by rw[zt1];exact ydm (zow (sem T bn 0))) (by rw[ydl];exact yee (sem T bn 0))
 have F:Fns Ψ:={
  hK:=by rw[<-hΨ];exact hTk 36
  hC:=by
   rw[<-hΨ,znl];exact z5e (by rw[zhf];exact zva (hTk 34)) (by rw[zh5];exact ztf (hTk 34)) (by rw[zeo];exact zkk _) (by rw[zdl];exact ybf _) (by rw[ze5];exact zqg (sem T bn 0))
  hF:=by rw[<-hΨ,zhf];exact zva (hTk 35)
  hO:=by rw[<-hΨ,zgf];exact zzv (hTk 35)
  hS:=by
   rw[<-hΨ,zmt];refine z7h (by rw[zje];exact z6e _) ?_ ?_ ?_ (by rw[zph];exact ydh _) ?_
   ·rw[zm0];exact zy1 (by rw[zje];exact z6e _) (by rw[ztc];exact z55 (by rw[zi5];exact zv7 _)) (by rw[zwr];exact ybi (hWt 30))
   ·rw[zu5];exact zs4 (by rw[zje];exact z6e _) (by rw[zi5];exact zv7 _) (by rw[zf9];exact z58 _)
   ·rw[e_turned];exact zun (by rw[zvk];exact zzg (sem T bn 0)) (by rw[ybe];exact z3z (by rw[zt1];exact zow (sem T bn 0)) (by rw[z5r];exact z2g (by rw[zvk];exact zxh (sem T bn 0)))) (by rw[zhq];exact zg4 (sem T bn 0))
   ·rw[e_word_of];refine zr4 (by rw[zhq];exact zsv (sem T bn 0)) (by rw[zhq];exact zg4 (sem T bn 0)) ?_;rw[z66];exact z0p (by rw[zui];exact z4o (by rw[znm];exact yeg (by rw[zxn];exact zsb (sem T bn 0))) (by rw[z40];exact z2b (sem T bn 0)) (by rw[zt1];exact zow (sem T bn 0)))
  hL:=by
   rw[<-hΨ,zmh];exact z1q (by rw[zfw];exact zxd (by rw[zeo];exact zkk _)) (by rw[zh4];exact zif _) (by rw[zjk];exact zsh (by rw[zeo];exact zkk _)) (by rw[zdl];exact ybf _) (by rw[ze5];exact zqg (sem T bn 0))
  hW:=by rw[<-hΨ,zov];exact z4q (sem T bn 0)
  hB:=by rw[<-hΨ,znt];exact z5p (hTk 35) }
 clear hTk hWt;obtain⟨st0,h0,g0⟩:=hH ns hl;obtain⟨i,j,t1,t2,t3⟩:=yel (b:=8) (n:=ns.length) #v[];have t1:oMin [.int 8,.int (ns.length:Nat)]=#v[(i:Nat),0]:=t1;have sf:seqW (.frl (ns.map W.int))=some (ns.map W.int):=rfl;have l4:∃en',zuc Ψ [some #v[8,7],#v[st0,5],none,none,none,none,none,none,none,none]=some (some #v[8,7]::en',.nx):=by
  unfold zuc;obtain⟨en',h,st',w2,w3,w4,w5,w6,w7,w8,w9,rfl,_⟩:=zav (mp:=[]) (T:=.nm 2) (body:=zp3 Ψ) (it:=za8 (gCns (gArg (gOpN oMax (gCns #v[3] (gCns (gArg (gOpN oMin (gCns #v[8] (gCns (gArg (gOpN oLen (gCns (zaa 0) gA0))) gA0)))) gA0)))) gA0)) (λi e=>∃(st' : W) (w2 w3 w4 w5 w6 w7 w8 w9:Option (W × Bool)),e=[some #v[8,7],#v[st',5],w2,w3,w4,w5,w6,w7,w8,w9]/\HS (220 * i) st') (en:=[some #v[8,7],#v[st0,5],none,none,none,none,none,none,none,none]) (e0:=[some #v[8,7],#v[st0,5],none,none,none,none,none,none,none,none]) (ws:=rngW 0 j) (zez (n:=j) (by simp! [sf,Ae,t1,t2]) #v[]) ⟨_,_,_,_,_,_,_,_,_,rfl,g0⟩ λi w e hw hp=>by
   obtain⟨st',w2,w3,w4,w5,w6,w7,w8,w9,rfl,g⟩:=hp;obtain⟨li,rfl⟩:=zbl hw;obtain⟨st2,x3,x4,x5,x6,x7,x8,x9,hb,g2⟩:=z82 F (v0:=some #v[8,7]) (v2:=#v[(0+(i:Int)),0]) (v3:=w3) (v4:=w4) (v5:=w5) (v6:=w6) (v7:=w7) (v8:=w8) (v9:=w9) g #v[];exact⟨_,_,rfl,.inl hb,_,_,_,_,_,_,_,_,_,rfl,g2.mono #v[]⟩
  exact⟨_,h⟩
 obtain⟨en',l4⟩:=l4;unfold z5g;refine fn_ret (en:=some #v[8,7]::en') rfl (seq_e (e1:=[some #v[8,7],#v[st0,5],none,none,none,none,none,none,none,none]) ?_ (seq_e l4 ?_)) rfl
 ·simp! [h0]
 ·simp! []
noncomputable abbrev nA (K:PySem.W.Frag) (n:Str) (f:Addr):Prop:=PySem.W.nsIn K mainGlobals n=some (some (.ref f))
noncomputable abbrev nL (K:PySem.W.Frag) (f:Addr) (oc:Value) (od:Option Addr) (n:Str) (st:Stmt) (kV dc pm:Value) (an:Option Addr) (cd ct:Value) (sl:Array (Option Value)):Prop:=K.lookup f=some ⟨oc,od,.func (PySem.W.fnOf n n (zfj st) (zds st) (zaq st) .none kV dc pm an cd ct),sl⟩
noncomputable abbrev nC (K:PySem.W.Frag) (cd:Value) (n:Str):Prop:=PySem.W.codeIn K cd n=true
noncomputable abbrev nK (K:PySem.W.Frag) (f:Addr):Prop:=PySem.W.keepIn K (.ref f)=true
noncomputable def nD (K:PySem.W.Frag) (t:Fd):Prop:=∃(f:Addr) (oc:Value) (od:Option Addr) (kV dc pm:Value) (an:Option Addr) (cd ct:Value) (sl:Array (Option Value)),nA K t.nm f/\nL K f oc od t.nm t.st kV dc pm an cd ct sl/\nC K cd t.nm/\nK K f
theorem nD_i {K:PySem.W.Frag}{n:Str}{t:Fd}{f:Addr}{oc:Value}{od:Option Addr}{kV dc pm:Value}{an:Option Addr}{cd ct:Value}{sl:Array (Option Value)}(e:t.nm=n)(a:nA K n f)(l:nL K f oc od n t.st kV dc pm an cd ct sl)(c:nC K cd n)(k:nK K f):nD K t:=by
 subst e;exact⟨_,_,_,_,_,_,_,_,_,_,a,l,c,k⟩
noncomputable def bO (t:Fd):Prop:=FnScope t.N t.ps (zaq t.st)/\t.m.length=t.ps.length/\∀(kV doc pm:Value) (an:Option Addr) (cdv ct:Value) (us:List Value),us.length=t.ps.length->bindArgs (PySem.W.fnOf t.nm t.nm (zfj t.st) (zds t.st) (zaq t.st) .none kV doc pm an cdv ct) ⟨us,[]⟩=pure (t.ps.zip us)
theorem yde {K:PySem.W.Frag}{h:Heap}{mg:Str->Option Value}(X:K.In h)(G:h.Ns mainGlobals mg){t:Fd}(b:bO t)(lm:t.nm∈lams->zz0 K t.nm=true)(d:nD K t):FdOk K mg t:=by
 obtain⟨f,oc,od,kV,dc,pm,an,cd,ct,sl,a,l,c,k⟩:=d;have F:=z3h (st:=t.st) l c k;exact⟨b.1,b.2.1,⟨_,_,F,F.binds b.2.2,PySem.W.mg_of X G a⟩,lm⟩
theorem nd_T:(T.map (·.nm)).Nodup:=by decide +kernel
theorem all_c {α:Type}{P:α->Prop}{a:α}{l:List α}(h:P a)(r:∀x∈l,P x):∀x∈a::l,P x:=List.forall_mem_cons.mpr ⟨h,r⟩
theorem all_n {α:Type}{P:α->Prop}:∀x∈([]:List α),P x:=λ_ h=>nomatch h
@[elab_as_elim] theorem lenS {α:Type}{P:List α->Prop}{n:Nat} (us:List α) (hl:us.length=n+1) (h:∀a l,l.length=n->P (a::l)):P us:=by
 cases us with
 |nil=>cases hl
 |cons a l=>exact h a l (Nat.succ.inj hl)
@[elab_as_elim] theorem len0 {α:Type}{P:List α->Prop} (us:List α) (hl:us.length=0) (h:P []):P us:=by
 cases us with
 |nil=>exact h
 |cons a l=>cases hl
@[elab_as_elim] theorem len1 {α:Type}{P:List α->Prop} (us:List α) (hl:us.length=1) (h:∀a,P [a]):P us:=lenS us hl λa l e=>len0 l e (h a)
@[elab_as_elim] theorem len2 {α:Type}{P:List α->Prop} (us:List α) (hl:us.length=2) (h:∀a b,P [a,b]):P us:=lenS us hl λa l e=>lenS l e λb l e=>len0 l e (h a b)
@[elab_as_elim] theorem len3 {α:Type}{P:List α->Prop} (us:List α) (hl:us.length=3) (h:∀a b c,P [a,b,c]):P us:=lenS us hl λa l e=>len2 l e (h a)
theorem zoz:bO zd5:=#v[4,7]
theorem zve:bO zgm:=#v[2,7]
theorem zo9:bO zee:=#v[2,7]
theorem zsc:bO zfg:=#v[4,7]
theorem z7i:bO zrd:=#v[2,7]
theorem zzd:bO zjl:=#v[4,7]
theorem zsj:bO zfb:=#v[4,7]
theorem z56:bO zqc:=#v[2,7]
theorem z1l:bO zjv:=#v[2,7]
theorem zle:bO zdf:=#v[2,7]
theorem zse:bO ze6:=⟨#v[0,0,5],rfl,λ_ _ _ _ _ _ us hl=>len3 us hl λ_ _ _=>rfl⟩
theorem zyz:bO zj4:=#v[2,7]
theorem zrz:bO ze8:=#v[2,7]
theorem zfv:bO za9:=#v[4,7]
theorem zry:bO ze7:=#v[2,7]
theorem zlj:bO zda:=#v[4,7]
theorem ybz:bO z14:=#v[4,7]
theorem zhv:bO zb3:=#v[2,7]
theorem zsd:bO zff:=#v[4,7]
theorem zjw:bO zcn:=#v[2,7]
theorem z4z:bO zqm:=#v[2,7]
theorem zuk:bO zgp:=⟨#v[0,0,5],rfl,λ_ _ _ _ _ _ us hl=>len3 us hl λ_ _ _=>rfl⟩
theorem zj2:bO zcm:=⟨#v[0,0,5],rfl,λ_ _ _ _ _ _ us hl=>len3 us hl λ_ _ _=>rfl⟩
theorem zmm:bO zc1:=#v[4,7]
theorem zna:bO zdd:=#v[2,7]
theorem znd:bO zc2:=#v[2,7]
theorem zm7:bO zdi:=#v[4,7]
theorem zh1:bO zcd:=#v[2,7]
theorem zfr:bO zbc:=#v[4,7]
theorem zlr:bO zc3:=#v[2,7]
theorem ze2:bO za5:=#v[2,7]
theorem zh2:bO zb9:=⟨#v[0,0,5],rfl,λ_ _ _ _ _ _ us hl=>len3 us hl λ_ _ _=>rfl⟩
theorem zgu:bO zb0:=#v[2,7]
theorem zhi:bO zb2:=#v[2,7]
theorem zj5:bO zcl:=⟨#v[0,0,5],rfl,λ_ _ _ _ _ _ us hl=>len3 us hl λ_ _ _=>rfl⟩
theorem znj:bO zc8:=#v[2,7]
theorem zla:bO zdg:=#v[2,7]
theorem zf1:bO zbf:=⟨#v[0,0,5],rfl,λ_ _ _ _ _ _ us hl=>len3 us hl λ_ _ _=>rfl⟩
theorem yah:bO zn6:=#v[4,7]
theorem all_mk {l:PySem.W.OpenLaw}{w:World}{K:PySem.W.Frag}{h:Heap}{mg:Str->Option Value}{fa:Addr} (X:K.In h) (G:h.Ns mainGlobals mg) (hfa:mg "law" = some (.ref fa)) (D:∀t∈T,nD K t) (M:∀x∈(["law"]:List Str),zz0 K x=true) (Z:∀x∈bn,PySem.W.nsIn K mainGlobals x=some none) :
  ∃fd:FuncData,(∀(s:Shared) (v:Value),BindsTo s fd ⟨[v],[]⟩ [("_law_script",v)])/\∀base:Heap,K.In base->base.Ns mainGlobals mg->FnOk l.prog w K mg base CX0 40 fa fd ["_law_script"] (spF K [false] (sem T bn 40 "law")):=by
 have B:∀t∈T,bO t:=all_c zoz (all_c zve (all_c zo9 (all_c zsc (all_c z7i (all_c zzd (all_c zsj (all_c z56 (all_c z1l (all_c zle (all_c zse (all_c zyz (all_c zrz (all_c zfv (all_c zry (all_c zlj (all_c ybz (all_c zhv (all_c zsd (all_c zjw (all_c z4z (all_c zuk (all_c zj2 (all_c zmm (all_c zna (all_c znd (all_c zm7 (all_c zh1 (all_c zfr (all_c zlr (all_c ze2 (all_c zh2 (all_c zgu (all_c zhi (all_c zj5 (all_c znj (all_c zla (all_c zf1 (all_c yah (all_n)))))))))))))))))))))))))))))))))))))));have q:∀t∈T,t.nm∈lams->t.nm∈(["law"]:List Str):=by decide +kernel
 obtain⟨f,oc,od,kV,dc,pm,an,cd,ct,sl,a,lk,c,k⟩:=D zn6 (by simp [T]);have F:=z3h (st:=zn6.st) lk c k;have e:=hfa.symm.trans (PySem.W.mg_of X G a);cases e;exact⟨_,λs v=>.of_eq rfl,λbase kb nb=>zxk nd_T (λt ht=>yde X G (B t ht) (λhl=>M _ (q t ht hl)) (D t ht)) (λx hx=>PySem.W.mg_none_of X G (Z x hx)) kb nb 40 zn6 (by simp [T]) _ _ F (PySem.W.mg_of X G a)⟩
theorem walk {l:PySem.W.OpenLaw}{q:Program}{loose:List Str}{XP:(Str->Option Value)->Heap->Prop}{YP:World->Heap->Prop}{d:DefRec}{K:Params->PySem.W.Frag} (hn:l.most=some 63) (hdf:d.params.defaults=[])
  (hY:∀(w:World) (h:Heap),YP w h->(K w.params).In h)
  (nt:∀w:World,PySem.W.noTabs (K w.params)=true) (nd:∀w:World,ztq (K w.params)=true) (hrec:∀(w:World),∀x∈lams,∀c P,PySem.W.tabIn (K w.params) x=some (c,P)->∃d,(recsOf q).find? (λe=>e.name == x)=some d)
  (F:∀(w:World) (mg:Str->Option Value) (fa:Addr) (h:Heap),(K w.params).In h->h.Ns mainGlobals mg->mg d.name=some (.ref fa) ->
   ∃fd:FuncData,(∀(s:Shared) (u:Value),BindsTo s fd ⟨[u],[]⟩ [("_law_script",u)])/\∀base:Heap,(K w.params).In base->base.Ns mainGlobals mg->FnOk l.prog w (K w.params) mg base CX0 40 fa fd ["_law_script"] (spF (K w.params) [false] (sem T bn 40 "law"))) :
  PySem.W.WalkO q loose XP YP l.row.toRowW d [] (λf vs=>PySem.call f vs) :=
 L2.walk_ofT (n:=63) (k:=40) (x := "_law_script") (CX:=λ_=>CX0) (sp:=λw=>spF (K w.params) [false] (sem T bn 40 "law")) hn #v[0,9] hdf ⟨rfl,by decide,by decide,rfl⟩ hY nt nd hrec F (λ_ _ _ a ns hl st hS=>zta st.sub st.tb hS (ws':=[.frl (ns.map W.int)]) (z0g ns hl) rfl) λ_ _ _ _ _ z=>z
end My
open PySem PySem.W PyProof.Rows
set_option maxRecDepth 100000 in
set_option maxHeartbeats 0 in
theorem PySem.Challenge.cw_yesnowords_k85_forms_looked_at_holds : PySem.Challenge.rw_yesnowords_k85_forms_looked_at.Holds := by
 w_on;o_law;k_head;(case hw=>w_witness2)
 k_fill
 refine My.walk (l:=PySem.Challenge.rw_yesnowords_k85_forms_looked_at) rfl rfl (fun w h Y=>by first | exact PySem.W.kIn_of Y | exact PySem.W.km_in_of Y) ?nt ?nd ?hrec ?F
 case nt=>exact fun w=>by kernel_rfl
 case nd=>exact fun w=>by kernel_rfl
 case hrec =>
  intro w x hx c P e;simp only [L2.lams,At,Ei,or_false] at hx;rcases hx with rfl | rfl | rfl | rfl | rfl
  ·exact nomatch (Eq.trans (by kernel_rfl) e:(none:Option (Addr × Addr))=some (c,P))
  ·exact nomatch (Eq.trans (by kernel_rfl) e:(none:Option (Addr × Addr))=some (c,P))
  ·exact nomatch (Eq.trans (by kernel_rfl) e:(none:Option (Addr × Addr))=some (c,P))
  ·exact nomatch (Eq.trans (by kernel_rfl) e:(none:Option (Addr × Addr))=some (c,P))
  ·exact Hb.mp (by kernel_rfl)
 case F =>
  intro w mg fa h KX G hmg;refine My.all_mk KX G hmg ?xD ?xM ?xZ
  case xM=>exact My.all_c (by kernel_rfl) (My.all_n)
  case xZ =>
   refine' My.all_c ?_ (My.all_c ?_ (My.all_c ?_ (My.all_c ?_ (My.all_c ?_ (My.all_c ?_ (My.all_c ?_ (My.all_c ?_ (My.all_c ?_ (My.all_c ?_ (My.all_c ?_ (My.all_c ?_ (My.all_c ?_ (My.all_c ?_ (My.all_c ?_ (My.all_n)))))))))))))))
   any_goals k_is
  case xD =>
   refine' My.all_c (My.nD_i (n := "is_whole") rfl ?_ ?_ ?_ ?_) (My.all_c (My.nD_i (n := "is_row") rfl ?_ ?_ ?_ ?_) (My.all_c (My.nD_i (n := "is_place") rfl ?_ ?_ ?_ ?_) (My.all_c (My.nD_i (n := "all_yes") rfl ?_ ?_ ?_ ?_) (My.all_c (My.nD_i (n := "says") rfl ?_ ?_ ?_ ?_) (My.all_c (My.nD_i (n := "where") rfl ?_ ?_ ?_ ?_) (My.all_c (My.nD_i (n := "word_at") rfl ?_ ?_ ?_ ?_) (My.all_c (My.nD_i (n := "plus") rfl ?_ ?_ ?_ ?_) (My.all_c (My.nD_i (n := "times") rfl ?_ ?_ ?_ ?_) (My.all_c (My.nD_i (n := "letter_no") rfl ?_ ?_ ?_ ?_) (My.all_c (My.nD_i (n := "stepped") rfl ?_ ?_ ?_ ?_) (My.all_c (My.nD_i (n := "steps") rfl ?_ ?_ ?_ ?_) (My.all_c (My.nD_i (n := "word_of") rfl ?_ ?_ ?_ ?_) (My.all_c (My.nD_i (n := "letters_needed") rfl ?_ ?_ ?_ ?_) (My.all_c (My.nD_i (n := "is_form") rfl ?_ ?_ ?_ ?_) (My.all_c (My.nD_i (n := "form_poly") rfl ?_ ?_ ?_ ?_) (My.all_c (My.nD_i (n := "top") rfl ?_ ?_ ?_ ?_) (My.all_c (My.nD_i (n := "without_tops") rfl ?_ ?_ ?_ ?_) (My.all_c (My.nD_i (n := "base_of") rfl ?_ ?_ ?_ ?_) (My.all_c (My.nD_i (n := "is_turning") rfl ?_ ?_ ?_ ?_) (My.all_c (My.nD_i (n := "sent") rfl ?_ ?_ ?_ ?_) (My.all_c (My.nD_i (n := "turned") rfl ?_ ?_ ?_ ?_) (My.all_c (My.nD_i (n := "shows_form") rfl ?_ ?_ ?_ ?_) (My.all_c (My.nD_i (n := "_law_hand") rfl ?_ ?_ ?_ ?_) (My.all_c (My.nD_i (n := "_law_take") rfl ?_ ?_ ?_ ?_) (My.all_c (My.nD_i (n := "_law_bits") rfl ?_ ?_ ?_ ?_) (My.all_c (My.nD_i (n := "_law_word") rfl ?_ ?_ ?_ ?_) (My.all_c (My.nD_i (n := "_law_values") rfl ?_ ?_ ?_ ?_) (My.all_c (My.nD_i (n := "_law_form_poly") rfl ?_ ?_ ?_ ?_) (My.all_c (My.nD_i (n := "_law_sent") rfl ?_ ?_ ?_ ?_) (My.all_c (My.nD_i (n := "_law_is_turning") rfl ?_ ?_ ?_ ?_) (My.all_c (My.nD_i (n := "_law_turned") rfl ?_ ?_ ?_ ?_) (My.all_c (My.nD_i (n := "_law_turning") rfl ?_ ?_ ?_ ?_) (My.all_c (My.nD_i (n := "_law_is_form") rfl ?_ ?_ ?_ ?_) (My.all_c (My.nD_i (n := "_law_shown") rfl ?_ ?_ ?_ ?_) (My.all_c (My.nD_i (n := "_law_form") rfl ?_ ?_ ?_ ?_) (My.all_c (My.nD_i (n := "_law_case") rfl ?_ ?_ ?_ ?_) (My.all_c (My.nD_i (n := "_law_otherwise") rfl ?_ ?_ ?_ ?_) (My.all_c (My.nD_i (n := "law") rfl ?_ ?_ ?_ ?_) (My.all_n)))))))))))))))))))))))))))))))))))))))
   any_goals (first | (delta My.nA;k_is) | (delta My.nL;k_is) | (delta My.nC;k_is) | (delta My.nK;k_is) | k_is)